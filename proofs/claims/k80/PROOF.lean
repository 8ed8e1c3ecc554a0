import PyProof.Rows.All
import Wide.All
import OpenK.AllK
import Wide.FinOn
import PyProof.EqAt
import PyProof.EqKinds
import PyProof.TupleCall
import Lean
import PySem.Challenge.RW_limb_k80_whole_in_any_order
set_option linter.all false
open PySem renaming wpAny_bind→z9,wpAny_pure→Zb,wpAny_newObj_type→ZM,wpAny_call_entry→ZN,wpAny_callSpecial?_slot→ZT,wpAny_field→ZY,wpAny_holding→Z0,boot_len→Z2,wpAny_mono→Z4,wpAny_truthy_bool→Yi,wpAny_dictEntries→Yj,wpAny_dictEpoch→Yw,wpAny_setField→YC,wpAny_setField_rec→YE,mem_of_lookup→YH,wpAny_Call_Name_kw→YL,wpAny_rule→YV,wpAny_attempt→Y0,wpAny_seqItems→Y3,wpAny_notOrdered_dict→Xb,wpAny_typeNameOfWhole_itemiter→Xg,wpAny_loadPart_at→Xi,wpAny_typeNameOfWhole_keyiter→Xk,wpAny_typeNameOfWhole_valiter→Xl,wpAny_isInstance→Xn,wpAny_pyIter_tuple→Xp
open List renaming length_map→Za,getElem?_eq_getElem→Ze,mem_singleton→Zg,mem_cons_of_mem→Zh,mem_cons→Zi,mem_cons_self→Zk,size_toArray→Zl,length_append→Zm,length_cons→Zo,getElem?_map→Zs,map_cons→Zu,getElem?_eq_some_iff→Zv,mem_map→Zw,map_append→Zy,not_mem_nil→ZB,getElem_mem→ZD,mem_append→ZE,mem_of_getElem?→ZG,length_take→ZJ,getD_eq_getElem?_getD→ZL,take_length→ZO,append_nil→ZQ,pairwise_iff_getElem→ZR,mem_filter→ZS,mem_append_right→ZW,map_map→ZX,mem_iff_getElem→Z1,length_filter_le→Z3,lookup_cons→Z6,all_eq_true→Z9,length_singleton→y9,nodup_cons→Ya,mem_range→Yh,pairwise_map→Yl,mem_filterMap→Yn,mem_iff_getElem?→Yp,getElem?_append_right→Yq,filter_append→Ys,take_of_length_le→Yt,length_nil→Yu,length_set→Yv,length_drop→Yx,length_range→YA,take_sublist→YI,find?_eq_none→YM,map_congr_left→YT,getElem?_append_left→YU,mem_of_find?_eq_some→YW,sum_cons→Y1,mem_append_left→Y2,all_cons→Y6,length_replicate→x9,replicate_succ→Xm,contains_cons→Xr,any_cons→Xu,append_assoc→Xv
open PySem.Heap renaming get?_push_of_some→Zd,get?_push_size→Zj,lt_size→Zr,get?_update_self→Ye,get?_update_other→Yr,size_push→x8,get?_none_of_le→Xc
open Nat renaming le_refl→Zf,le_trans→Zn,ne_of_lt→Zz,zero_le→ZA,lt_of_lt_of_le→ZI,succ_le_succ→y7,ne_of_gt→Yf,min_eq_left→YD,le_add_right→YN,lt_or_ge→YO,le_succ→YQ,lt_irrefl→YZ,lt_succ_self→Y8,le_of_ble_eq_true→Xa,le_of_eq→Xd,le_of_lt→Xo,lt_of_le_of_lt→Xq,lt_succ_of_lt→Xw,le_of_succ_le→Xx
open Bool renaming false_ne_true→Zq,and_eq_true→ZH,false_eq_true→YY,eq_false_iff→Xj,eq_iff_iff→Xt
open Option.some renaming inj→Zt
open Array renaming length_toList→Zx,getElem?_eq_getElem→Yg,getD_eq_getD_getElem?→Yo,getElem?_toList→Yz,getElem?_eq_some_iff→Y7
open PySem.Paired renaming length→ZC,snoc→YR
open Option renaming isSome_iff_exists→ZF,map_eq_some_iff→ZK
open Int renaming toNat_natCast→ZP,emod_nonneg→Yb,emod_lt_of_pos→Yd
open PySem.PassesOwn renaming never→ZU
open PySem.Heap.SameBut renaming update→ZV
open Ne renaming symm→Z7
open PySem.W renaming mg_of→Z8,kia_one→YK
open PySem.Obj renaming data_mapFields→Yc,isFreed_of_fields→YX
open PyProof.Rows renaming callWith_type1→Yy,slot_tuple_getitem→YB,boot_sorted→Xf
open PySem.F renaming slot_dict_valueiterator_next→YF,slot_dict_itemiterator_next→YG,slot_dict_keyiterator_next→YJ,slot_tuple_iterator_next→Y9
open PySem.Calls renaming callWith_builtin→Y5
open PySem.AutoSeq1 renaming wpAny_loadPart'→Xe
def XC:=@if_pos
def XB:=@if_neg
def ZZ:=@congrArg
def Z5:=@of_decide_eq_true
def y8:=@or_false
def Ym:=@beq_iff_eq
def YS:=@beq_eq_false_iff_ne
def Y4:=@if_false
def Xh:=@decide_eq_true_eq
def Xs:=@of_decide_eq_false
set_option Elab.async false
set_option compiler.extract_closed false
set_option maxRecDepth 100000
set_option maxHeartbeats 2000000
local macro_rules | `(tactic| omega) => `(tactic| first | with_reducible first | assumption | exact Nat.le_of_lt (by assumption) | exact Nat.le_refl _ | exact Nat.lt_add_one _ | exact Nat.le_trans (by assumption) (by decide) | exact Nat.lt_of_lt_of_le (by assumption) (by decide) | exact Nat.sub_lt_sub_left (by assumption) (Nat.lt_add_one _) | exact Nat.le_antisymm (by assumption) (Nat.le_of_not_lt (by assumption)) | lia -abstractProof)
local macro_rules | `(tactic| decide) => `(tactic| first|exact of_decide_eq_true (Eq.refl true)|decide +kernel)
abbrev XD:=List (PySem.Addr×PySem.Obj)
abbrev XE:=PySem.Value->PySem.Shared->Prop
abbrev XF:=PySem.Str->Option PySem.Value
abbrev XG:=List PySem.Value
abbrev XH:=PySem.Addr
abbrev XI:=PySem.Shared
abbrev XJ:=PySem.Value
abbrev XL:=PySem.Program
abbrev XM:=PySem.World
abbrev XN:=PySem.Around
abbrev XO:=PySem.FuncData
abbrev XQ:=List Int
abbrev XR:=Array Nat
abbrev XS:=Nat->Nat->Bool
abbrev XT:=PySem.Expr
noncomputable section
set_option hygiene false
set_option linter.defProp false
abbrev XY:=@PySem.W.Frag
abbrev XZ:=@PySem.PyData
local macro_rules|`(tactic|ext $g:ident $A:ident $y:ident $z:ident)=>`(tactic|(generalize hA:upd _ _ _=$A;have $y:ident:=nu1 $g hA;have $z:ident:=nu2 hA;clear hA))
local macro_rules | `(⋯) => `(by decide)
local macro_rules | `(∅) => `(by omega)
local macro_rules | `(#[$xs,*]) => do if xs.getElems.isEmpty then Lean.Macro.throwUnsupported else `(⟨$xs,*⟩)
local macro_rules | `(↑$x:ident) => `($x P w K mg base)
local macro_rules | `(↑$x:num) => `(q_v $x)
local macro_rules | `(↑99) => `((hr.mono (by decide)))
local macro_rules | `(~~~$x:num) => `(⟨rfl,rfl,rfl,by decide,rfl,by decide,by decide⟩)
local macro_rules | `(tactic| exists 0, $x) => `(tactic| refine F.okQ $x (fun vs H Q E h=>?_) (fun cdv A outer s H vs Q E hr h=>?_))
local macro_rules | `(tactic| exists $x) => `(tactic| (refine F.okQ $x (fun vs H Q E h=>?_) (fun cdv A outer s H vs Q E hr h=>?_);(first|(· cases h;subst_vars;rfl)|(· repeat(first|(obtain⟨rfl,_⟩:=h;rfl)|obtain⟨_,h⟩:=h)))))
local macro_rules | `(tactic| exists _, $y) => `(tactic| (refine ⟨_,$y,?_⟩;try rw [cxK]))
local macro_rules | `(tactic| exists [$xs,*], $e) => do
  let ps ← xs.getElems.mapM fun x => match x with
    | `($i:ident) => `(Lean.Parser.Tactic.rcasesPatLo| $i:ident)
    | `(_) => `(Lean.Parser.Tactic.rcasesPatLo| _)
    | _ => Lean.Macro.throwUnsupported
  `(tactic| obtain ⟨$ps,*⟩ := $e)
def mac_Q(R:Array Lean.Name)(i:Nat)(s:Lean.Syntax):Bool:=s.getKind==R.getD i .anonymous
def mac_N(b:List Lean.Syntax):Lean.Syntax:=.node .none `null b.toArray
def mac_L(s:Lean.Syntax):List Lean.Syntax:=s.getArgs.toList
def mac_B(f:Lean.Syntax->List Lean.Syntax)(a:List Lean.Syntax):List Lean.Syntax:=a.flatMap f
def mac_M(f:Lean.Syntax->Lean.Syntax)(a:List Lean.Syntax):List Lean.Syntax:=a.map f
def mac_W(f:Lean.Syntax->Lean.Syntax)(s:Lean.Syntax):Lean.Syntax:=s.rewriteBottomUp f
def mac_H:Lean.Syntax->Nat:=fun s=>match s with
  |.ident _ w _ _=>if w.bsize=2 then (w.str.get w.startPos).toNat-993 else 0
  |_=>0
def mac_I:Lean.Syntax->Nat:=fun s=>match s with
  |.ident _ w _ _=>
   let n:=(w.str.get w.startPos).toNat;let i:=if n<384 then n-192 else n-721
   if n<192||n>993 then 9999 else if w.bsize=2 then i else if w.bsize=3 then let k:=(w.str.get (w.str.next w.startPos)).toNat;273+i*62+(if k<58 then k-48 else if k<91 then k-55 else k-61) else 9999
  |_=>9999
def mac_a(A:Array Nat)(s:Lean.Syntax):Nat:=A.getD (mac_I s) 999
def mac_S(t:Lean.Syntax)(b:List Lean.Syntax):Lean.Syntax:=mac_W (fun s=>let h:=mac_H s;if h=0 then s else b.getD (h-1) s) t
def mac_v(v:Array Lean.Syntax)(f:Lean.Syntax)(b:List Lean.Syntax):Lean.Syntax:=mac_S (v.getD (mac_I f) f) b
def mac_f(R:Array Lean.Name)(z x:Lean.Syntax):List Lean.Syntax:=
  if mac_Q R 14 x then mac_L x[0][1][1][0][0]
  else let y:=x[1];if mac_Q R 7 x&&mac_Q R 8 y[0] then let w:=y[2];if mac_Q R 8 w[0] then (if z.isAtom then (mac_L w).drop 2 else w.getSepArgs.toList.tail) else mac_L w
  else if mac_Q R 9 x&&mac_Q R 10 x[4] then mac_L y else [x]
def mac_k(R:Array Lean.Name)(A:Array Nat)(v:Array Lean.Syntax)(z s:Lean.Syntax):Lean.Syntax:=
  let s:=s.setInfo .none
  let q:=fun i s=>mac_Q R i s
  if q 0 s&&q 13 s[1] then s[1][0] else
  let s:=s.setArgs (mac_M (fun x=>if q 13 x then x[0] else x) (mac_L s)).toArray
  let n:=fun i x=>Lean.Syntax.node .none (R.getD i .anonymous) [x].toArray
  let p:=s[1];let b:=mac_L p;let h:=b.headD s
  if s.isIdent then if mac_a A s=0 then mac_v v s [] else s
  else if q 1 s then
   let g:=q 1 s[0];let f:=if g then s[0][0] else s[0];let b:=if g then mac_L s[0][1]++b else b
   let i:=mac_a A f;let c:=fun f b=>(s.setArg 0 f).setArg 1 (mac_N b)
   if !g&&i<=b.length&&b.all (fun x=>mac_a A x>0||!q 7 (mac_v v x [])) then
    let r:=mac_v v f (b.take i);let b:=b.drop i
    n 13 (if b.isEmpty then r else if q 1 r then r.setArg 1 (mac_N (mac_L r[1]++b)) else c r b)
   else c f b
  else if q 2 s then
   let f:=h[0][0]
   if q 0 f then n 14 f else if mac_a A f<999 then n 14 (mac_v v f (mac_M (·[0][0]) b.tail)) else s
  else if q 3 s&&q 0 p&&q 4 p[1] then n 14 p
  else if q 5 s&&mac_a A h*(999-mac_a A h)>0 then mac_v v h b.tail
  else if q 6 s then mac_N (mac_B (mac_f R p) (mac_L s))
  else if q 11 s then s.setArg 0 (mac_N (mac_M (fun s=>if q 12 s then z else s) (mac_L s[0])))
  else s
def mac_K(R:Array Lean.Name)(A:Array Nat)(v:Array Lean.Syntax)(z s:Lean.Syntax):Lean.Syntax:=let r:=mac_W (mac_k R A v z) s;if mac_Q R 13 r then r[0] else r
def mac_V(U:Array Lean.Syntax)(i:Nat)(b:List Lean.Syntax):Lean.Syntax:=mac_S (U.getD i .missing) b
def mac_J(a:Lean.Syntax)(b:List Lean.Syntax):Lean.Syntax:=a.setArg 1 (a[1].setArg 0 (a[1][0].setArg 0 (mac_N (mac_B (fun t=>[mac_N [],t]) b).tail)))
def mac_F(U:Array Lean.Syntax)(a b:List Lean.Syntax):List Lean.Syntax:=let s:=U.getD 0 .missing;let x:=s[1][0];[s.setArg 1 (mac_N [mac_J x a,mac_J x b])]
def mac_i(x:String):Lean.Syntax:=(Lean.mkIdent x.toName).raw
def mac_n(g:Nat×Lean.Syntax):Lean.Syntax:=if g.1=0 then g.2 else mac_i (["r_","z_","c_"].getD (g.1-1) "")
def mac_l:List (Nat×Lean.Syntax)->Lean.Syntax
  |[x]=>mac_n x
  |_=>mac_i "t_"
def mac_z(U:Array Lean.Syntax)(g:Nat×Lean.Syntax):List Lean.Syntax:=if g.1=1 then [mac_V U 5 [mac_n g]] else if g.1=3 then [(mac_V U 6 [mac_n g]).setArg 1 (mac_N [g.2])] else []
def mac_w(U:Array Lean.Syntax)(e:Lean.Syntax)(p:List (Nat×Lean.Syntax))(W:List (List Lean.Syntax))(b:List Lean.Syntax)(w:Nat):List Lean.Syntax:=
  let q:=p.take (w-1);let r:=p.drop (w-1);let l:=mac_l r
  let h:=fun i=>mac_V U i [e];let c:=if e.isIdent then [h 3] else []
  if r.isEmpty||w>3&&q.any (fun g=>g.1%2=1) then b else
  let y:=W.getD (w-2) []
  let a:=h (if w=2 then 1 else w+6)::c++(if w=2 then mac_V U 4 [mac_l (p.take 1),l]::(mac_z U (p.headD (0,l))++y) else (mac_V U 8 [l]).setArg 1 (mac_N (q.map mac_n++[l]))::y)
  if w=2 then a else mac_F U a b
def mac_G(U:Array Lean.Syntax)(t:Lean.Syntax):Lean.Syntax->List (Nat×Lean.Syntax)->List (List Lean.Syntax)
  |_,[]=>[]
  |_,[g]=>[mac_z U g]
  |e,g::p=>let W:=mac_G U t t p;[2,4,5,6,7,8,9].foldl (mac_w U e (g::p) W) []::W
def mac_O(U:Array Lean.Syntax)(p:List (Nat×Lean.Syntax))(e s:Lean.Syntax):Lean.Syntax:=if p.length<2 then s else (mac_F U ((mac_G U (mac_i "t_") e p).headD []) [s]).headD s
def mac_t(y:Lean.Syntax):Nat×Lean.Syntax:=(if y.getId==`rfl then 1 else 0,y)
def mac_p(R:Array Lean.Name)(x:Lean.Syntax):Nat×Lean.Syntax:=let m:=x[0];let y:=m[0][0];if m[0].getArgs.size=1 then (if mac_Q R 19 y then mac_t y[0] else if mac_Q R 20 y then (2,y) else (3,m)) else (3,m)
def mac_x(R:Array Lean.Name)(U:Array Lean.Syntax)(s:Lean.Syntax):Lean.Syntax:=
  let a:=s[1];let x:=a[0]
  if mac_Q R 15 s then
   if a.getArgs.size=3&&mac_Q R 16 x then mac_O U (x[1].getSepArgs.toList.map fun x=>if x.isIdent then mac_t x else (2,x)) a[2] s else s
  else if mac_Q R 17 s then
   let p:=x[0];let q:=p[0][1].getSepArgs.toList
   if p.getArgs.size=1&&mac_Q R 18 p[0]&&s[2].getArgs.isEmpty&&s[3][1].getArgs.size=1&&q.all (fun x=>x[1].getArgs.isEmpty) then mac_O U (q.map (mac_p R)) s[3][1][0] s else s
  else if mac_Q R 21 s&&a.getArgs.size=1&&x[1].isIdent&&s[2].getArgs.isEmpty&&s[3].getArgs.isEmpty then mac_V U 9 [x[1]] else s
def mac_y(R:Array Lean.Name)(U:Array Lean.Syntax)(L:List String)(f:Lean.Syntax->Lean.Syntax)(x:Lean.Syntax):Lean.Syntax:=
  let n:=fun i x=>Lean.Syntax.node .none (R.getD i .anonymous) x
  let t:=x[1]
  if mac_Q R 22 x then n 25 [.atom .none "end",mac_N (if t.isIdent then [t,mac_N []] else [])].toArray else
  let y:=f (f (f (f (f (f x)))));let y:=if L.contains (toString y[1][1][0].getId) then y else mac_W (mac_x R U) y;let k:=y[1]
  if mac_Q R 23 k||mac_Q R 24 k then y.setArg 0 (y[0].setArg 4 (mac_N [n 26 [.atom .none "noncomputable"].toArray])) else y
def mac_Z(c:List Lean.Syntax):Lean.Syntax:=
 let R:=(("Term.paren Term.app Elab.Tactic.Ext.ext Tactic.show Term.byTactic Term.explicitBinder null Term.tuple Term.cdot Term.forall num Term.basicFun Term.hole Q L Tactic.«tacticExists_,,» «term[_]» Tactic.obtain Tactic.rcasesPat.tuple Tactic.rcasesPat.one Tactic.rcasesPat.ignore Tactic.cases Command.check Command.definition Command.abbrev Command.end Command.noncomputable".splitOn " ").map fun x=>String.toName (if x.contains '.' then (if x.startsWith "E" then "Lean." else "Lean.Parser.")++x else x)).toArray
 let T:=(c.headD .missing)[1][1].getSepArgs
 let A:=T.map fun t=>([1,2,3,4,5,6,7,8].filter fun i=>(t.find? fun s=>mac_H s==i).isSome).length
 let U:=(T.getD 0 .missing)[1].getSepArgs.map (·[1][1][0][0][0])
 let z:=mac_i "z_"
 let v:=[1,2,3,4,5,6,7,8,9].foldl (fun v _=>(mac_M (mac_K R A v z) v.toList).toArray) T
 mac_N (mac_M (mac_y R U (((T.getD 1 .missing).isStrLit?.getD "").splitOn " ") (mac_K R A v z)) c.tail)
local macro_rules|`(mutual $c* end)=>do
 if !c[0]!.raw.isOfKind ``Lean.Parser.Command.check then Lean.Macro.throwUnsupported
 return mac_Z (c.toList.map (·.raw))
set_option tactic.hygienic false
set_option bootstrap.genMatcherCode false
mutual
#check#[[(by first|skip|skip),(by refine (Ϣ).elim ?_),(by clear Ϣ),(by try clear Ϣ),(by intro Ϣ ϣ),(by subst Ϣ),(by obtain _:=Ϣ),(by first|refine xq1 Ϣ ?_|refine xq2 Ϣ ?_),(by intro Ϣ),(by first|subst Ϣ|(injection Ϣ with Ϣ;first|subst Ϣ|(injection Ϣ with Ϣ;first|subst Ϣ|(injection Ϣ with Ϣ;subst Ϣ)))|(injection Ϣ;done)|cases Ϣ),(by first|refine e0_4 Ϣ ?_|refine e1_3 Ϣ ?_|refine e2_2 Ϣ ?_),(by first|refine e0_5 Ϣ ?_|refine e1_4 Ϣ ?_|refine e2_3 Ϣ ?_|refine e3_2 Ϣ ?_),(by first|refine e0_6 Ϣ ?_|refine e1_5 Ϣ ?_|refine e2_4 Ϣ ?_|refine e3_3 Ϣ ?_|refine e4_2 Ϣ ?_),(by first|refine e0_7 Ϣ ?_|refine e1_6 Ϣ ?_|refine e2_5 Ϣ ?_|refine e3_4 Ϣ ?_|refine e4_3 Ϣ ?_),(by first|refine e0_8 Ϣ ?_|refine e1_7 Ϣ ?_|refine e2_6 Ϣ ?_|refine e3_5 Ϣ ?_|refine e4_4 Ϣ ?_),(by first|refine e0_9 Ϣ ?_|refine e1_8 Ϣ ?_|refine e2_7 Ϣ ?_|refine e3_6 Ϣ ?_|refine e4_5 Ϣ ?_)],"zi DO ze J7 vx Hi J9 Ta Dfs.cnt",(·,·,_,_),some Ϣ,List Ϣ,(·,_,rfl),.ref Ϣ,(.a 0),(·,Ϣ,rfl),(Ϣ:Int),(.a 1),∀(H:Hp),0,(·,rfl,Ϣ),.int,.str Ϣ,(.ref Ϣ),x.2,.h 1 false,.tup,.inl,(ÓP),.lst Ϣ,some (Ï Ϣ),0,λ Ϣ ϣ=>? _,(some Ϣ),λ Ϣ ϣ Ϥ=>? _,(by simp),(·,Å,Å),Ϣ[i]?=Ã ϣ,Ϣ->Prop,upd Ϣ,∀{n:Nat},0,ê H,lin 1 false Ϣ ϣ Ϥ ϥ [] (Eq.refl true),.p (.a Ϣ) (.n 1),↑1,(by by_cases Ϣ:ϣ=Ϥ),[_,_,_],∀(I:ï H s),0,(by rw[Ϣ]at ϣ;cases Ϥ),Ú5 Ϣ ϣ Ϥ f fd,Ϣ ϣ=none,(·,_,_,î),(·,·,Â,_),(by refine z9 Ϣ),(·,rfl,rfl),Inv X XU Z Ϣ,(q_a Ϣ ai),~~~0,Ã o,Same H H',lin Áw,Ϣ (XV ϣ),x.1,0,upd H Ϣ,(·,Ϣ,_,rfl),Ϣ ϣ=true,(by simpa using Ϣ),↑0,d.1,(by exists Ϣ,ϣ;exact Ϥ),.h Áw,Ϣ (Ï ϣ),.inr Ϣ,(by rw[Ϣ];exact ϣ),↑FnOk CX0 Ϣ f fd,Ϣ=true,Ã (.Ϣ ϣ),(Ų a 0),Ñ Ϣ ϣ .z,(by simp[Ϣ]),∀{k:Nat},0,(·,sz rfl,Ø Ϣ ϣ),wpAny (model prog w) A,λ Ϣ ϣ Ϥ ϥ=>? _,(.n 0),Ϣ ϣ Ϥ=true,[_,_],Q (Ï Ϣ),(.n 1),ê mg Ϣ,∀{K:XY},0,aD (i:=Ϣ) ϣ,(by exact absurd Ϣ ϣ),∀(n:Nat),0,.nil,.cons Ϣ,λ _=>Ϣ,Ϣ (ϣ (Ϥ ϥ)),(by have Ϣ:=ϣ Ϥ;have ϥ:=Ϧ ϧ),(by unfold Ϣ at ϣ),.h 1 false,q_a ↑Ϣ ai,(by unfold Ϣ;rw[ϣ]),s.heap.get? Ϣ=Ã ϣ,[Æ Ϣ],s Â,λ Ϣ=>? _,∀(C:XH),0,Ϣ ∅,(by refine Ϣ ? _),(ar aw ↑Ϣ aj),.h Áw Ϣ ϣ .z,(by exists Ϣ;exists ϣ,h),(by rw[ah Ϣ];exact ϣ),aC Ϣ ↑99,λ _ _ _ _=>Ϣ,(by exists[Ϣ,rfl],ϣ),Ϣ ϣ=some Ϥ,Ϣ Â (ϣ Â Ϥ),.int Ϣ ϣ,(by intro XU s Z H Ϣ I h),(·,·,? _,? _),r.2.1,(by simp),â (ã 0),λ Ϣ ϣ Ϥ ϥ Ϧ=>? _,(·,·,H,s),Zj Än,p.2,Ϣ ϣ=Ã (Õ Ϥ),(by subst e),(by exists ÀP Ϣ ϣ,Ϥ),Ã v,(·,rfl,_,rfl),↑Fn Ϣ,FnScope Ϣ [ϣ] (ao Ϥ),(·,Ϣ,_,rfl,ϣ),hR0 Â ? _,Ϣ<=sizeLine,(Õ []),Ϣ ϣ Ϥ=false,(q_a Ϣ ϣ),(Ϣ ϣ).length,(by dsimp only),0,Ä (Ϣ×ϣ),(·,·,Â,e),∀(a:XH),0,b≠Ϣ,∀(Ϣ:Nat)(ϣ:Ϥ),0,q_a ↑Ϣ,(look Ϣ ϣ).isSome=true,Ä (Str×Ϣ),(by rw[Ϣ];exact ϣ),NameIs H Ϣ (nk ϣ),(by rw[Ϣ];exact ϣ Ϥ),Ϣ (ϣ:=Ϥ) (ϥ:=Ϧ),Ϣ[j]?=Ã ϣ,λ Ϣ ϣ Ϥ ϥ Ϧ ϧ=>? _,(by cases Ϣ;exact ϣ),vix rfl Ϣ ϣ,(by rcases Ϣ with ϣ|Ϥ),(·,Ϣ,ϣ,rfl),(Nat.le_add_of_sub_le (Nat.le_refl _)),â Ç Ê Ϣ,(nomatch Ϣ),∀{Ϣ ϣ:Nat},0,(·,·,(.a 1),.z),ι a Ϣ a,(by rw[Ϣ,ϣ]at Ϥ;cases Ϥ),(·,Å,? _),(by refine Ϣ;refine ϣ),Ϣ (Ų a ϣ),∀(Ϣ:ϣ)(Ϥ:Ä ϥ),0,(by have Ϣ:=ϣ Â Ϥ),Ϣ=false,(Ϣ ϣ).map Ϥ,↑2,Ñ (.a 2),[_,_,_,_],(·,Å,ľ),#[],{ Ϣ with heap:=ϣ },(by simp only[Ϣ]),Ϣ->Þ XI,.p (.Ϣ ϣ) (.n 1),Ϣ X (compareOp .ϣ),FnScope Ϣ [ϣ,Ϥ] (ao ϥ),∀(X:Cx)(Ϣ:ϣ),0,(List.range Ϣ).ϣ,(by exact q),(by have Ϣ:ϣ≠Ϥ:=Àm ϥ Ϧ),wpAny (model X.prog X.w) X.A Ϣ,∀(hc:X.calm=true),0,(by rw[Ϣ];omega),(by exists[Ϣ,ϣ,rfl],Zw.mp Ϥ),(by exists Ϣ,ϣ Ϥ;exists ϥ,Ϧ ϧ),aV (top Ϣ) ϣ,(by exact .inr Ϣ),.inl Ϣ,(·,·,Â,Â),Ã n,_::_,(.p (.Ϣ ϣ) (.a Ϥ)),(·,·,.z,[_],θ),λ _ _ Ϣ=>ϣ,wpAny _ _ Ϣ _ _,↑MFn Ϣ ϣ,look ol n=Ã it,Ϣ (K:=K),∀(Ú8 E_),0,(·,Å,Ϣ,ϣ,Å,Ϥ,ϥ Â),(by refine#[? _]),∀{H:Hp},0,0,(k+1),0,0,(·,·,[_],Á3),d.2.isTurn,Φ,(·,? _,? _),Ψ,(·,·,H,a),0,0,0,0,0,0,0,α,β,(·,Å,p),∀{Ϣ:Ä ϣ}{Ϥ:ϥ},0,∀(Ϣ:QE X ϣ Ϥ),0,∀(K:XY)(Ϣ:ϣ),0,(.c Ç),(·,·,[],(Eq.refl true)),(.p (.Ϣ ϣ) (.Ϥ ϥ)),κ,0,(by exists Ϣ,ϣ;exact Ϥ),λ Ϣ ϣ=>Ϥ Ϣ (Zh _ ϣ),(by unfold Ϣ;show í ϣ),(Ú Ϣ ϣ hz9),(by ext è Ϣ ϣ ϣ;exact Ϥ),Ú b Ϣ,(·,·,↑99,ü),σ,(·,_,ë),.cons Ϣ,φ,(by rw[Ϣ ϣ];exact Ϥ ϥ),ß Ϣ ϣ (Õ Ϥ),∀(XU:XD) (s:XI) (Z:St),0,(Ñ Ç Š),(by rcases Zi.mp Ϣ with rfl|ϣ),(by rw[Ϣ];rfl),["self"],(by rw[Ϣ ϣ]at Ϥ;cases Ϥ),(Ï a),(by ext Áy;refine Ϣ),(e::es),h.get? Ϣ=ò,.Ϣ ϣ (.n 1),(by exact Nat.le_antisymm Ϣ ϣ),ī Ϣ (Ğ ϣ),(by cases Ϣ;rfl),(Ϣ ϣ Ϥ).isSome,{ cls:=.type Ϣ,data:=.ϣ Ϥ },â Ç (.n Ϣ),H Ϣ=some (.tup (ϣ V.int)),∀(x:Ϣ H ϣ Ϥ)(ϥ:TS H H'),0,(by ext è Ϣ ϣ ϣ),some (Ϣ ϣ),(Õ (ax Ϣ)),nx ⋯,Paired.mapP Ϣ λ _ _ ϣ=>Ϥ ϥ,(Ϣ ϣ).map Prod.snd,St->Þ Hp,∀(k:Nat),0,∀(Q:VK)(E_:XK),0,(by exact False.elim Ϣ),Ϣ<xs.length,#[_,Ϣ,rfl],d::ds,Ϣ (ϣ Â Ϥ),Ý xs Ϣ,.p (.a Ϣ),wpAny _ _ Ϣ _ _ ϣ,Ϣ C H p d g ol,Ϣ b=Ã ϣ->Ϥ b=Ã ϣ,(by simp only[Ϣ,ϣ]),(by obtain⟨⟨Ϣ,ϣ⟩,_⟩:=id Ϥ),λ Ϣ=>decide ϣ,Č b o Ϣ,(·,Å,Ϣ,_,ë),(by
 .exact Ϣ
 .exact ϣ),(š 0 1),(by rw[Ϣ,ϣ]),(by ext Ϣ ϣ Ϥ),hY Â,(by refine z9 Ϣ),(q_a ↑Ϣ ϣ),[Ϣ,rfl,ϣ],[Ϣ,ϣ,rfl,Ϥ,ϥ],∀{α:Type},0,Ϣ C H' p d g,∀(xs:Ä V),0,(by simp at Ϣ),((Ϣ:Nat):Int),(·,_,Å,rfl),Ϣ->Bool,(by unfold Ϣ;rw[ϣ,Ϥ]),(by exact this),(by simp only[Wd.word,ne_eq];decide +kernel),Ñ (ã 0) (.a 2),(by intro XU s Z H x y v u Q I rx ry h;exists Ϣ,h),lin 0 ÆH (.n 0),(aL ⋯),∀(Ϣ:PE X ϣ Ϥ),0,(Zv.mp Ϣ).1,x=Æ a,decide (Ϣ=ϣ),(·,Ü,Å),#[ţ],.none,(λ z=>by rw[z,Ϣ]at ϣ;cases ϣ),(show (Ϣ:Ä Str).Nodup by decide),(seqObj "list" Ϣ ϣ),(by exists Ϣ,ϣ;exists Ϥ,ϥ),(by rw[<-Ϣ];exact ϣ),List (Ä Key×V),some .free,(EP X XU Z Q),λ b Ϣ ϣ=>Zd _ Ϥ,(·,⋯,⋯),(·,_,Å),dO Ϣ ϣ nofun,(Ϣ:Str),(by exact Ϣ ϣ),λ Ϣ ϣ=>Ş ϣ,λ _ Ϣ=>ϣ,wpAny (model X.prog X.w) Ϣ ϣ Ϥ ϥ,(Eq.refl true),absurd (show false=true from Ϣ) Zq,(by obtain⟨⟨dx,h1⟩,h2,h3,h4⟩:=id Ϣ),(X.env.qual++"<lambda>"),Runs ts tn ol Ϣ ϣ,(by rcases ZE.mp Ϣ with ϣ|ϣ),Value.ref Ϣ::ϣ,ÂL Ϣ (Ú ϣ s1 hz9),look ol Ϣ=none,Ϣ C vs H Q E_,(List.replicate Ϣ ϣ).Ϥ,Ϣ (.a 3),(by cases Ϣ),Ϣ (Ă ϣ Ϥ),(by cases Ϣ;cases ϣ),#[Ϣ,? _],(by exists ÀP Ϣ ϣ,id Ϥ),mg Ϣ=Ö ϣ,Λ Ϣ (a:=ϣ),(·,·,n,0),(by ext è Ϣ this this),xs[i],#[î],.frz o,{ cls:=.type Ϣ,data:=.fields (List.toArray [Æ ϣ,İ 0 0]) },(clk Ϣ ϣ).set ϣ (am (clk Ϣ ϣ) ϣ+1),{ s with heap:=Ϣ,toks:=ϣ },(by exact fun q=>Nat.not_succ_le_zero _ Ϣ),(by exists[Ϣ,H1,I1,r1,q1],hz9),(by exact cu (b:=false) ⋯ ⋯ ⋯),aB (i:=Ϣ) ϣ,PyData.strOk Ϣ=true,(·,·,Â,? _),(by refine Ϣ;refine ϣ),Ϣ (.c Ç),∀{xs:Ä V},0,â Ç Ê Ϣ ď,(·,È Ϣ,#[_,XX ϣ],? _),(by rw[Ϣ ϣ];exact Ϥ),Paired (Ϣ ϣ) Ϥ,(by exists Ϣ,ϣ;refine Ϥ),Z4 Ϣ ϣ λ _ _ Ϥ=>ϥ,(by
 .exact Ϣ ϣ
 .exact Ϥ ϥ),Ϣ.2.1.length,(·,·,b,o,e,n),Ϣ (ģ ϣ) (ģ Ϥ),(by by_cases Ϣ:p.1=ϣ),(·,Å,ù Ϣ),λ Ϣ ϣ Ϥ ϥ Ϧ ϧ Ϩ=>? _,(ß H' Ϣ ϣ),Und ol Ϣ k ϣ Ϥ,(b_1 (au Ϣ)),ř (XW Ϣ),Í (É Ϣ),z.1.2,(·,·,1,true),∀(hu:X.A.units+64<cLine),0,(by refine ay (Ø R0 hR0)),[Ϣ,rfl],Ϣ≠X.env.locals,(by rw[Ϣ]at this;exact this),λ Ϣ ϣ=>absurd Ϥ Û,∀(Ŏ n Ϣ ϣ),0,(by rw[Ϣ,ϣ];rfl),(by rw[Ϣ]at this),Į mg Ϣ (İ ϣ Ϥ),am d.2.1,Ī (aq Ϣ ϣ) Ϣ,(C_Plain,Ϣ,ϣ,Ϥ,ϥ),(·,·,[],ď,Á3),(·,·,[],pos),sm Â Ϣ,(·,Å,ë),(·,·,Ç,.z),(Ϣ CH CS T R),λ x hx=>Ϣ ϣ Ϥ,Ø b hb,(by have Ϣ:=ϣ Ϥ ϥ;refine Ϧ),(·,p,d,g),d.2.2,thn (Ϣ XU s Z H _ I h),(look ol Ϣ).isSome,attributeBase Ϣ ϣ X.env (eval Ϣ X.env)=eval Ϣ X.env,(·,·,XU,s,Z,H,_),∀(hh:A.handled=none),0,{ s with toks:=s.toks+1 },(by show í Ϣ;show í ϣ),seqObj "list" #[],(·,·,H,l,xs),V.str Ϣ≠V.str ϣ,(by injection Ϣ with Ϣ),Ŀ Ϣ ϣ ["ready"],∀(Ú8 E),0,lin Ë3,[Ϣ,e1,e2],(Ϣ ϣ Ϥ ϥ).length,(by subst Ϣ;exact ϣ),(Ų ÁM),{ Ϣ with ϣ:=Ϥ },Ϣ.2.1.sum,z.1 Â,↑Fn 1 "name_of" ["deed"],(by exact ĵ Ê (Àb (ū Š)) æ Ϣ (Nat.le_of_eq ϣ)),wpAny M A Ϣ Q E s,∀(Ϣ:Ä Str),0,(Ϣ==sysModules)=false,if Ϣ=true then ϣ else Ϥ,.Attribute o Ϣ ϣ,lt (gA p Ϣ) (gA p ϣ),Ϣ (t':=s.toks),λ _ _=>False,PartR H hd ns .Ϣ,ÚL Ϣ (Ù (Æ ϣ)),(by ext ĭ t' ry),(by rcases Ϣ ϣ Ϥ with ϥ|ϥ),b_c (Ĕ Ϣ ϣ (Ϥ ϥ)),#[Å],(by dsimp only at Ϣ),(·,·,ď,θ),okD e.1,(by refine Ϣ;have ϣ:=af Ϥ ϥ),λ Ϣ ϣ Ϥ ϥ Ϧ ϧ Ϩ ϩ=>? _,Ϣ ϣ (ÁT h' Ϥ),(.Name Ϣ ϣ),.p Ϣ (.n 1),∀(p d g:XH)(ol:Ol),0,(by refine Ϣ;have ϣ:=Ϥ ϥ Ϧ),(·,ë,(by show É 0<Ϣ;decide)),eh n cap Ϣ ϣ te Z Ϥ H0 Q,(ŏ Ϣ (Ğ ϣ)),Ã (.tup (Ϣ.1.map kV)),∀(h0:vs=ġ Ϣ),0,(by refine Ϣ;have ϣ:=af Ϥ ϥ),∀{ds:Ä Dd},0,XW (K:=X.K) Ϣ,bJ Ϣ ↑99,λ z=>Ϣ (ϣ z),(by have Ϣ:=mkF B ϣ λ F=>Ϥ F ϥ Ϧ),some .cell,Ä Ϣ->Prop,r.2.2,ŕ Ϣ ϣ Ϥ ϥ Ϧ (ϧ:=Ϩ),(by exists Ϣ,ϣ;cases Ϥ),(L.map Ϣ).sum,XB ⋯,Ϣ X.prog X.w X.K X.mg X.base ϣ Ϥ,k _ _ (.inl rfl),.p (.a Ϣ),aM (aE bW ↑Ϣ aA),∀(A:XN)(outer:Ä Env)(s:XI),0,(by simpa using this),∀(Ϣ:aQ ϣ=true:=by rfl),0,λ _ _ _ _=>aB (i:=0) Ϣ,Ϣ hr.units (bj ü),W.findIn K (Ï Ϣ) ϣ,Ä Key×XH×XJ,.inr (XW Ϣ),(by show í (Ϣ ? _)),(·,H,I.tok _,#[Å]),ċ (Ϣ (Ï ϣ)) Q E s,(L.zip W).take Ϣ,λ i j=>Í Ϣ,(by rw[Ϣ,ϣ];omega),M[k].2,(by cases ry;ext ÛL Ϣ),∀{i:Nat} {Ϣ:ϣ},0,.write Ϣ tx,ObjOk æW,["deed"],(by constructor),[h1,h2],ι ÁM a,Ϣ->Þ Hp,(by exact fun q=>Nat.not_succ_le_zero _ Ϣ),ObjOk X.prog X.w Ϣ ϣ Ϥ,∀(P:XL)(w:XM)(K:XY)(mg:XF)(base:Heap),0,(if false=true then ! inV Ϣ ϣ else inV Ϣ ϣ),(by simp only[Zi,ZB,y8]at Ϣ),.Call Ϣ ϣ [] cpos,∀(ok:HOk P w H h),0,(·,C,dx,_,Å,h1,T.cl,T.nH,bg Â),mx (clk cl Ϣ) (clk cl ϣ) n,∀(Ϣ:ϣ)(Ϥ:Option ϥ),0,Ϣ (model X.prog X.w),∀(O:CompOk X scope cap capN),0,λ i Z H' _ z=>XX Ϣ,(by have Ϣ:=ϣ Â Ϥ;have ϥ:=ϣ Â Ϧ),(by simpa only[Ϣ]using ϣ),.ins C dx,Ä V->Hp->Þ VK,(by rw[Ϣ];exact ϣ Ϥ ϥ),∀(Òd hdb),0,∀Ϣ,s≠.gone Ϣ,Ϣ (model prog w) ϣ,(by have Ϣ:=mkF B ϣ λ F=>Ϥ F ϥ),Ϣ (Ë2 s2 H2 fp),Ϣ (ϣ Ϥ) (Ϣ (ϥ Ϧ) ϧ),(·,·,rfl,? _),nm3 L[Ϣ].2,XH×D3,∀b Ϣ,ÉJ Ϣ,(·,·,[],[]),(·,·,ol,(À6)),λ b o Ϣ ϣ=>Ϥ b o ϥ Ϧ,(by rw[Ϣ];exact ϣ Ϥ),λ _ _ _ Ϣ=>ϣ,am (clk cl Ϣ) ϣ,∀(Ϣ:Ä Nat),0,thn (ÆM Ϣ _),hDL Â Ϣ,(·,Å,Ϣ,_,ë),hR1 ÁZ,(by have Ϣ:=ϣ Ϥ ϥ;have Ϧ:=ϧ Ϩ ϩ),v=Æ a,(by exact â Ç (ã 1) (Ñ Ç Š) [_,_] Ϣ),bT (own:=Ϣ) (#[rfl,⋯,⋯,rfl,trivial]:CompOk Â [] []) rfl,(by refine ay (Ø R1 hR1)),(by refine Ϣ ? _;refine ϣ),sm.trans (af Ϣ _),St8 CH CS T R A Ϣ n x1 p1 d1 x2 p2 d2,(by simp only[Zi,ZB,y8]at Ϣ;rcases Ϣ with rfl|rfl),∀(hline:Òm=true:=by rfl),0,(by have Ϣ:=af ϣ Ϥ;have ϥ:upd Ϧ ϧ Ϥ ϧ=Ã Ϥ:=ad),∀{Q:Unit->Þ XI},0,(by cases(show u=Value.ref Ϣ from ϣ)),bootBuiltins Ϣ = ą ϣ Ϣ,∀H',ó->Ϣ ϣ H',#[Å,ľ,Ϣ ⋯ ϣ],(ř (XW hst) at0 Ϣ),(.Tuple elts kt tp),(by subst Ϣ;ext è ϣ Ϥ Ϥ),(by exact YK Ϣ I.kIn ϣ e nofun h),(·,·,_,rfl),Û1 (ĝ Ć Š) ď θ,μ [Ϣ,h1,h2] x,(by rw[ah Ϣ];exact ϣ Â Ϥ),aJ (q_a aA (Ϣ ϣ)),NameIs H Ϣ (nk ϣ.1),(by rcases Ϣ with⟨ϣ,Ϥ⟩|⟨ϥ,Ϧ⟩),(by ext ϋ Ϣ Ϣ;.exact ϣ),(Ϣ ϣ).canLay0=true,some .local,Q .non H',(Ϣ,tw ["item",ϣ]),Q (.bl Ϣ) H,L.drop (k+1),.part n,Ú h' Ϣ ϣ,(ī Ϣ (Ã8 ϣ Ϥ)),decide (Ϣ<ϣ),(by have Ϣ:=ϣ Ϥ;refine ϥ),[Ϣ.1,Ϣ.2],Ϣ ϣ=ą dT kvs,n-(q+1),‹ _ ›,(Ò xs),∀{ts:As Dd},0,(Ϣ ϣ Ϥ).length=ϥ,OpR X (Åb Ϣ),λ Ϣ=>absurd ϣ Ϥ,(ū Š),#[Å,aF Ϣ],(by ext Âs;ext ÛL Ϣ),(·,·,[],æ,Á3),(by rw[Ϣ,ϣ,Ϥ]),(.p (.c (.a 0)) (.n 1)),(by intro X hP hw hK hc i XU s Z H E I hf st hg;subst hP hw hK),∀(hg:Gl X x:=by rfl)(hs:(e::es).all aQ=true:=by rfl),0,Paired.mapP Ϣ λ _ _ z=>ϣ,(envOfC qual Ϣ s.heap.objs.size f ϣ),(#[rfl,⋯,⋯,rfl,#[î,trivial]]:CompOk Â Ϣ ϣ),∀(Ϣ:PlainAt C H p d g kvs gvs),0,(by exists Ϣ,hz9;subst ex;obtain rfl:ϣ=Value.ref a:=rx),.ListComp elt [#[Ϣ,iter,ifs,0]] scope pos,(by exact Ϣ ϣ Ϥ ϥ Ϧ ϧ Ϩ),∀{Q:Option XJ->Þ XI},0,λ i:Nat=>V.int (É i),(by exact ô Ϣ ϣ Ϥ ϥ [_] Á3 Ϧ),(by have:=(Ym (α:=XG)).mp e;cases this),Íb Ϣ scope f ϣ A outer,∀{β:Type}{l:As β},0,(by exists Ϣ,ϣ;exact Zr e),(binaryOp .Ϣ),(by exists[f0,f1,f2,f3,f4,f5],hf it Ϣ),{ s with toks:=tk },∀(Ϣ:H ϣ=ą dT kvs),0,(·,·,⋯,⋯),(by have e:Ϣ=ϣ:=∅;subst e;exact .inl Ϥ),eG ol (ϡ bD (L.zip W)),lt (gA p Ϣ) (gA p (ϣ-1))=true,.p (ã 0),(·,Ϣ,Ø x hx),∀(h0:vs=[Æ Ϣ,Æ ϣ]),0,(by have e:b=Ϣ:=û hb;subst e),(·,Å,.inl #[Ì _,XX Ϣ]),∀(h:Hist n (vals A)),0,∀(ŵ e XT)(t:Ϣ),0,Ϣ (ι n ϣ n 1),b∉frs X.stack,∀{β:Type},0,Ϣ (aE bW (ħ ϣ) aA),Ŀ Ϣ ϣ ["deed"] Ϥ,(by simpa[Ϣ]using ϣ),Ϣ Â ϣ nofun,rI0 λ i j=>.bl Ϣ,o.cls=.type Ϣ,#[Ì ? _],Option Ϣ->Þ ϣ,Ϣ X (Ã2 x pos),λ o e=>Ϣ ϣ Ϥ o e,(·,·,[_],Τ),(by rw[Ϣ]at ϣ;subst ϣ),(Nat.sub_le Â),Ϣ b o ϣ n hb Ϥ,λ b o e hb=>Ϣ Â ϣ,YI Â,(D,kG its nn),∀(ÃA p),0,(by rcases Zi.mp Ϣ with ϣ|Ϥ),.join n,(by exists ÀQ Ϣ ϣ h1 h2,Ϥ),(by decide +kernel),ÃV (Àn [Ϣ,ϣ]),(·,∅,∅),(·,·,false,(.n 1)),.Call (.Attribute o m apos) (e::es) [],.fields (List.toArray [Æ Ϣ,.none,.none,.none,.bool false,.none]),Ñ (.a 3) (.Ϣ ϣ),∀(Ϣ:PyData.strOk ϣ=true),0,Ϣ XU s1 Z H1 ϣ I1 q1,(cW ZU rfl Ϣ ϣ Ϥ),aK ol n { it with Ϣ:=ϣ },∀(vs:Ä V) (Q:VK) (E:XK),0,.put n Ϣ pl,{ cls:=.type "list",data:=.seq its.toArray Ϣ },(·,·,[_],θ),q_B dN a9 Z2 (Ğ Ϣ),∀(lo hi:Option Int),0,Ã (ÁQ (.dT kvs)),(by rcases dg Ϣ with⟨ϣ,Ϥ,rfl,ϥ⟩|⟨Ϧ,Ϥ,rfl,ϥ⟩),Ϣ X (.BoolOp .ϣ (a::b::rest) pos) (Ϥ ϥ Ϧ),(·,·,it,d,(i+1),es.size,ep),∀(Ϣ:(ol.map (·.1)).Nodup),0,QCall X (.builtin Ϣ),∀(CH CS T R:XH),0,∀(Âj ps)(sp:Sp),0,(by exists[its,Ϣ,ϣ,hz],Ϥ hq),.Call (Ã2 Ϣ p),[iv,e1,ia,uv,Ϣ,rfl,e2,e3,e4],λ Ϣ=>if Ϣ.1=ϣ then(Ϣ.1,Ϥ)else Ϣ,PlayR ol Ϣ.1 Ϣ.2 w so ol',am (clk cl Ϣ) (0+É j).toNat,(Nat.min_le_left Â),(by injection Ϣ with ϣ Ϥ),∀Ϣ,á Ϣ->Đ Ϣ ϣ,Nat.min_le_right Â,#[Ϣ,XX ϣ],(Ϣ (ī ϣ (Ğ Ϥ))),(by simp only[Z6,hx]at h ⊢),∀{A B:Prop},0,o.data=.dict es ep,Binds K fd ps [],Ϡ Ϣ (z:ϣ ì) z.ts (XV Ϥ),["self","name"],(·,·,sp,[]),(Á9 Ϣ ϣ).contains (Ï Ϥ),λ b o Ϣ=>ϣ b o Ϥ ϥ,(ø Ϣ (Õ ϣ)),Ϣ ϣ (ÆT Ϥ) aj,ă Ϣ ["ready"],aX qA T (kE nZ),∀b o,b≠Ϣ->ÀC ϣ o Ϥ,Room (k+1),.dT (bR [] Ϣ),iR n wd=Ã s,(.dT (ba L)),λ Ϣ ϣ=>(Ş ϣ),∀(Ϣ:H ϣ=ą tup Ϥ),0,Nat->Nat->À0,es[i].key,∀Ϣ ϣ,Ϥ Ϣ ϣ->ϥ Ϣ ϣ,#[Ċ Ϣ ϣ],if ú decide Ϣ then A else B,∀Ϣ H',ó->H' Ϣ=Ã ϣ->Đ Ϣ H',X.env.cells.lookup Ϣ=Ã c,Č Ϣ H1 s1,∀(Ŏ j x kz),0,Ϣ (s.heap.objs.size+1),(·,·,H,v,u),Ñ Ϣ Š,(by exact Ϣ ϣ Ϥ ϥ Ϧ ϧ),.put u pl tx,Ø m,Ϣ a=Ã (Ä5 fs),Ä V->Þ Hp,ÚL Ϣ (Ù (Í ϣ Ϥ)),(by rw[Ϣ];simp),(by obtain rfl:Ϣ=.non:=ϣ),(vs++dvs),(by exists Ϣ,I.cell x c ϣ),Z[Ϣ]?=ϝ Ù ϣ,lin ÒW,â Ϣ (ã 1) (Ñ (ã 0) Š) [_,_],(by rw[z,Ϣ]at ϣ;cases ϣ),∀(hb:Binds X.K fd ps ds)(hd:Vals dvs ds)(hx:ge CX X E),0,Ϣ hr.units ↑ϣ (bj ↑0),∀(hd:∀Z H,Pv xs.length Z H->D.nx Z H),0,(by intro XU s Z H xs us Q I r h;exists Ϣ,h;exists[u,rfl,rx],bZ r),(bz (aL ⋯) aS (bz (aL ⋯) aS gS bO) (cG aS bO)),(by exists[Ϣ,rfl,ϣ],bZ Ϥ;cases ϣ),ZT (name:=Str.ofString "__next__"),∀{w:Str}(Ϣ:PlayR ol n wd w so ol'),0,FnOk P w K mg base Ϣ k ϣ fd ps,ZF.mp (Ϣ ϣ (Ĉ Sd.items)),∀(F:ÃO FnOk CX k f fd ps sp),0,(·,·,(λ _ _ _ z=>z.2.1),#[Same.refl _,Zf _,.nil]),Ϙ "range" fields (List.toArray [İ Ϣ t,İ ϣ u,İ 1 v]),(Ù (if É 0>a then 0 else a)),∀x c,X.env.cells.lookup x=Ã c->c≠Ϣ,Prt H ol ws ps bs is ns,HandAt CH CS Ϣ h p d n me,(·,p,C,Ϣ,_,Å,ϣ,Ϥ,ϥ),Ϣ ϣ XU s1 Z H1 Ϥ I1,(by exact ĵ Ê (Ñ Òn Š) æ Ϣ),(show Ãr H s.heap Ϣ ϣ from I.hok Ϣ _ Ϥ),∀(Ϣ:ϣ X e te)(Ϥ:ϥ X Ϧ ϧ),0,p.toList[Ϣ]'(Ă Zx ϣ),s.heap.push (Ϙ "dict" dict #[]),(by exact ĵ Ê Íe Ϣ),(cR n Ϣ).map V.int,(by exists[t,Ϣ],(show∃t,u=ϣ Ϥ t from ϥ);cases Ϣ),DGet.t (k:=nk Ϣ.1) ϣ,(gA p (n-1)),(by simpa[PyData.canLay0]using Ϣ),λ i zs H' z=>XX (z.1 Â Ϣ),(Ϣ (K:=K) rfl),(false,eval Ϣ X.env),(List.range (c%6).toNat).map,Ϣ C T vs H Q ϣ,#[Å,È Ϣ,ϣ,? _],∀(X:Cx)(Ϣ:Ä ϣ)(t:Ϥ),0,Î #[(List.toArray [c])],↑MFnX Ϣ C ϣ ["self","step"],(·,·,(ã 2),(.a 3)),λ z=>Ϣ z.symm,(q_a (ħ Ϣ) (ð (ħ Ϣ))),λ b hb=>(Ϣ b hb).1,inV (Î Ϣ) [Î ϣ,Î Ϥ],nmK y.2,(·,·,_,(I.hok.fresh (Zf _))),Ϣ CH CS T R vs H,(tupleKind (bA prog w)).Ϣ,(ar aw (ħ Ϣ) aj),∃c,(c,b)∈tabs,p.toList.map λ i=>Ϣ i ϣ,(by refine Ϣ;ext ϣ Ϥ ϥ Ϧ;refine ϧ),∀(h:œ v n),0,(Ϣ.2 x hx).ts ϣ,Ù (.builtin Ϣ),(by with_reducible refine Ϣ ϣ ? _),(·,·,(aR hs.1),(bQ hs.2)),(cg n cap Z).set 0,L++[(q6,hN,nc,wd)],ÀO Ϣ (ð aj),(by obtain⟨⟨Ϣ,ϣ⟩,Ϥ,ϥ,Ϧ⟩:=id ϧ),[Æ Ϣ,Í ϣ],(∃m,W 0 m Z H),ĵ Ê Íe,(by rw[ah Ϣ];exact ϣ.1),(q_a (ϕ a7 Ϣ) ai),(by show Ϣ ϣ;ext ĭ t rx),mM (j:=Ϣ) ϣ (own:=[Ϥ]),∀H',ó->Q ÉT,Ϣ XU s Z H ϣ I Ϥ,λ x hx=>(Ϣ x ϣ).ts Ϥ,(·,·,Ê,Íe),(by have Ϣ:ß ϣ Ϥ (ϥ Ϧ) Ϥ=ϧ (ϥ Ϧ):=ad),(·,·,Ê,(.a 3)),λ x y=>nmK Ð≠ÈH,Ϣ ϣ=Ϥ\/Ϣ ϣ=ϥ,∀(Ål p st),0,Ϣ (I.ok.hd hc) st,TyOf K H Ϣ (.type ϣ),(by rw[<-Ϣ];exact ϣ Ϥ),(·,·,H7,as5[hN],(Òq)),â Ç (š 1 2),Ú r s',Ϣ[ϣ]?=some Ϣ[ϣ],mkF B Ϣ λ F=>ϣ F,Ã (.tbl Ů),(by unfold Ϣ;rw[ϣ Ϥ]),call (.builtin Ϣ),b_c (Ĕ Ϣ ϣ (ϕ Ϥ ϥ)),(by show ĩ Ϣ ϣ;exists _,Ϥ),(by show Ž Ϣ id ϣ Ϥ id ϥ),Ϣ H' ϣ Ϥ->Đ ϥ H',mkF B Ϣ λ F=>ϣ F Ϥ ϥ Ϧ ϧ,.move n u,Rd Ω,v=.non,Ϣ.2.2.2 g hg,(by exists[Ϣ,ϣ,Ϥ,ϥ,h1,h2,h3],Ϧ),(aM Ϣ ÉZ),(by simp[Ϣ,ϣ]),∀(hf:X.fn Ϣ=true\/X.env.scope.names.lookup Ϣ=some .local:=by first|exact .inl rfl|exact .inr rfl|assumption),0,∀(X:Cx)(XU:XD)(Z:St)(Ϣ:ϣ),0,∀(hs:∀x,foldedSetIterable iter X.env x=pure x:=by intro _;rfl),0,∀(len:∀ vs H Q E,sp vs H Q E->vs.length=ps.length),0,∀(hg:Gl X x:=by rfl),0,Nat.add_le_of_le_sub (ĵ Ê Íe Ϣ) (Nat.le_refl _),Int.le_of_eq (Int.toNat_of_nonneg (Ú3 Ϣ)),W.fnOf Ϣ ϣ (eO Ϥ) (bV Ϥ) (ao Ϥ) .none kV ϥ pm an Ϧ ct,Ġ b Ϣ->h'.get? b=Ã Ϣ,(Ϣ (ϣ Ϥ 0 lo)).take (ϣ Ϥ Ϥ hi-ϣ Ϥ 0 lo),DGet.t (k:=nk Ϣ) ϣ,W.findIn K (Ï C) Ϣ=some (Ù (Æ f)),∀(Ϣ:(vals ϣ).Pairwise λ d e=>¬kLt e d),0,(Ϣ (XV ϣ)).ts Ϥ,(by exists[hp,g,d,tk,os],Ϣ),∀(p d g:XH),0,∀(Ϣ:StoreAt C H p d n L),0,.m Ϣ Ê,(·,·,(.bl true),H'),q_B jO a8 bI (ÀO Ϣ (q_a (ow ϣ Ϥ) ai)),∀{ol:Ol} {d:Dd} {ds:Ä Dd},0,(by exists[ps,e1,_],Ϣ),∀(Ϣ:Ä V) (ϣ:XG),0,(·,·,Ç,(.c Ç)),(·,·,(b_1 (au dF)),b_0),Nat.add_le_of_le_sub (â đ Ç (ć đ Ç) [_] Ϣ) (Nat.le_refl _),aK ol n { itn with tx:=Òs },Ϣ ϣ params body scope Ϥ ((X.mg "__name__").getD .none) c' ct,Nat.add_le_of_le_sub (Íc đ Ϣ) (Nat.le_refl _),Nat.add_le_of_le_sub (ŝ ϊ ď Ϣ) (Nat.le_refl _),(by
 ext Ś hc z z
 .rw[z];exact Ϣ e
 .exact Ϣ z),ć (.p (.p (.p Ç (.m Ϣ (ã 1))) (.n ϣ)) đ),(by cases h' with|Ϣ hl'=>ext Ţ e hl' hl;exact eQ ϣ Â),∀(gd:Gd G){ts:As Dd},0,(·,·,Ç,(ÃQ 1 (ã 2))),(by injection Ϣ with ϣ Ϥ;injection Ϥ with ϥ _),(by exists[it,e],g n (Ĉ Sd.items);exact#[_,.Ϣ e]),ï H s->t Ϣ ϣ Ϥ->Ź ϥ Ϧ X.xe s,ny rfl (bS (ÁX Ϣ ϣ) (bS (ÁX Ϥ ϣ) ic)),þ [nv,h1,h2] x #[nv,h1,h2.ts' t],holding [ov] (getMethod ov m pl),some { cls:=Æ Ϣ,dict:=ϣ,data:=ÆJ t },(vals (dE n S i)),λ C s0 H0 ex=>(Ϣ C s0 H0 ex).h,λ h' eb=>#[rfl,æF f3 f4 f5],Ϣ X (.Subscript ϣ Ϥ pos),(.d (.c Ç) đ),Ϣ _ (.head _),(by
 try dsimp only[jU]
 ext ÄX),(by ext Á8 Ϣ Ϣ;.exact ϣ Ϥ Ϣ),h.get? C=Ã (æJ Ϣ k2 k3 k5 ϣ),(by exact ŝ ϊ ď Ϣ),some (Ù (Æ Ϣ)),dw X.env scope.names [],b_1 (au ↑Ϣ),(·,·,(Ú4 pos),(tCB r t)),(by rw[Ϣ]at ϣ;exists[Ϥ,ϥ,rfl],ZK.mp ϣ),ar cJ ↑2 ↑Ϣ,(by refine wpAny_passesOwn hp Ϣ),if Ϣ=ϣ then Ϥ else ϥ,#[sm.trans Ϣ,Ŕ Zm y7 ϣ,? _],#[hp,g,d,tk,os],oPl es (iD prog w k),Ϣ λ _ _ _ _ _ _ _ q=>ϣ q,(ÀF i (bh d i>0)),compareOp .Ϣ,gI Ϣ (ts:=ts) (tn:=tn),jA ol (D.map Prod.snd),(·,·,"tuple",seq),aI cV (aI eX ü aj),(·,·,p,(Õ (ax L++ġ q6))),Ϣ c o (gG hc ϣ),1+n / 3%(nr-1),(·,·,X,(Ú4 pos)),x∈L,q_B (sE rfl) j6 iT,["self",Ϣ,"other"],λ b Ϣ _ e=>e,Zn (Z3 Â),bC kvs p.1 p.2,ă Ϣ ["self",ϣ],(by rw[Ϣ];decide),∀(ha:Ϣ X [ϣ] ta),0,.Pass #[0,0,0,0],gH kp ov trn r.1,(Õ (rs++ġ t3)),Turn P w K tg Ϣ [it] it,∃nv,r=Ϣ/\œ nv n,(by intro XU s Z Ϣ Q I ϣ),L.zip (rs.map λ r:bu=>ĳ),look Ϣ ϣ=look Ϥ ϣ,["thing","hand","clock"],∀(ÚX Ϣ ϣ)(ha:Ϥ X ϑ t),0,Į H b (Ò (k.map kV)),∀ H',ó->Ā E Ϣ none H',⟨x,H1,I1,r1,q1⟩,(·,·,s.heap.objs.size,[]),H Ϣ=Ã (Ò (Î ϣ::ps)),(by exists[y,hy,Ϣ,rfl],gX hv),Ð.2.1.length=n,St->Hp->Ϣ->Prop,∀(Òp hdb),0,xs.length-1-i,(by intro Ϣ XU s Z H Q I h),λ _ _ Ϣ H _ I h=>ϣ Ϥ,es[i].val,DA Ω d,(ns.map .int),iE y.2 L[k].2,(by rw[Ϣ,ϣ];exact Ϥ),(Ϣ ϣ Ϥ ϥ).map (·.1),∀(Òd hd),0,List (ÃY),Option Ϣ->Prop,Rd Ω (.Ϣ kvs),br X scope (own++capN) C Ϣ ϣ,(·,·,1,false),ĝ (.a Ϣ) (.a ϣ),(·,·,X,(.type "list")),∀(h1:HandAt CH CS H h p d n me L) (h2:Tabs T R H) (h3:∀M',RDY L M'->M'=M),0,(katRev b (ks.map ZKey.nums)).getD Ϣ [],ô (Ų n 0) Ç (Ĩ (.n 1) Ç) [],(by refine#[λ Ϣ m ϣ H=>m=Ϥ-Ϣ/\Ϣ<=Ϥ/\Pv Ϣ ϣ H,#[Ϥ,Ĵ,ZA _,h0],? _];rintro Ϣ m ϣ H ⟨rfl,ϥ,Ϧ⟩),∀(S:St8 CH CS T R A xs n x1 p1 d1 x2 p2 d2 m2 H L1 Lake),0,∀(hN:X.N.Nodup)(hi:Ý X.N x)(hx:Loc X.env.scope x),0,KatKeys prog w Ϣ h₀ L m kS f ϣ Ϥ ϥ Ϧ,(·,·,x,Z,H',λ σ2 H2=>tb { D with nx:=N,ct:=N,bk:=D.nx } σ2 H2),∀(hx:Ġ Ϣ o)(hc:o.cls=.type "list")(hdd:o.dict=none),0,(by exact â (Ã3 (ã 0)) Ê (Ím) ď hu),Ϣ K (Ï ϣ) "__setattr__" = some (Ù (.builtin "object.__setattr__")),(.Compare a [op] [b] pos),(∀σ' H',N σ' H'->∃m',m'<m/\W (Ϣ+1) m' σ' H'),((List.toArray (katRev b ks)).zip (List.toArray (katRev b vs))),(katRev b Ϣ).getD i Value.none,Ϣ qual params body scope ϣ pm Ϥ ct,.inr (.inr (.inr #[Àa,Àa,Àa,.inr #[rfl,λ H r ⟨nv,h,a⟩=>#[nv,_,n,h,È a]]])),∀(ho:Ϣ X o ϣ)(hi:Ϣ X i Ϥ),0,∀(Ϣ:look ol ϣ=Ã Ϥ),0,s.heap.get? l=some { cls:=.type "tuple",dict:=Ϣ,data:=.seq items n,slots:=sl },swapsWith Ϣ ϣ pos.line X.env=pure false,lin 0 ÆH (.n 0) Ϣ [_] θ,∃L:(Ä Nm),L.Nodup/\(∀x,Ő Ϣ x↔x∈L)/\(L.map (wt Ϣ)).sum<=B,lin 1 ÆH Ϣ,∀(prog:XL)(w:XM)(Ϣ:ϣ)(Ϥ:ϥ),0,fB (b:=true) ⋯,(#[rfl,⋯,⋯,rfl,#[î,#[î,trivial]]]:CompOk Â [Ϣ,ϣ] [Ϥ,ϥ]),(by cases hs;intro x hx;rw[Zg.mp hx];exact mono _ (hh _ (Ĉ Sd.items))),(show Ϣ=ϣ Ϥ from ϥ),∀(ha:Ϣ X a ϣ)(hb:Ϥ X (.BoolOp .ϥ (b::rest) pos) Ϧ),0,(rs.map λ r:bu=>(nk r.1,V.str r.2.1)),∀{c A B:Prop}[Decidable c],0,(es.toList.find? λ e=>e.key.isStr x).map (·.val),[Í (É hN),Í (am nc hN)],nV (vals (cM M k)) M[k].2 ((asks M[k].2).getD j 0),(by exists[nv,h1,_],hs;exact .inl #[Ì _,_,h1,⋯,⋯,⋯]),∀{ts:As Dd}(h:Á7 ds rs),0,A.under (.builtin "type.__call__" #[Æ C::Ϣ,kw]),∀(hq:∀ys p H,Pv Ϣ ys H->á p->Đ p (ø p (Õ ys))),0,(Builtin.Str.strSliceIndices lo hi 1 z.length).Ϣ,F.binds λ a b c d e g=>lf (hb a b c d e g),λ i Ϣ H'=>Same ϣ H'/\Ϥ<=i/\Paired ϥ Ϣ Ϧ,μ [Ϣ,ϣ,Ϥ,h1,h2,h3,h4] ϥ #[Ϣ,ϣ,Ϥ,h1,Ϧ Â h2,ϧ Ϧ,h4.ts Ϧ],(by show þ [nv,h1,h2] x #[nv,t Â h1,h2.ts' t]),∀(hn:0<n)(h:POk n p),0,∀(Ŏ i w Str) (v:V),0,cK kls (Ϣ ϣ)=none,(backTo cpos (starEach es X.env)).any,∀(Q:Bool->Þ Hp),0,I1.fpOk (Zf _) (I1.hok.fresh (Zf _)),∃σ' H',Inv X XU σ' H' s'/\Ϣ σ' H',∀(n me:Nat),0,ŝ ϊ ď (Nat.le_of_not_lt c),[f1,f2,f3,f4],(D,Q0.map λ i:Nat=>V.int (É i)),some { cls:=.none,data:=.fields Ϣ },(ć Ç (.n Ϣ)),F.move (tk:=s'.toks) Ϣ,∀(R:Ä D3)(d:D3),0,∀(Òf he hpl pos),0,.inr (.inr (.inr (.Ϣ rfl))),bT (own:=Ϣ) ϣ rfl,Runs (aO ds) (bp ds),Į Ϣ ϣ (Õ (as.map V.ref)),∀(new:ObjOk X.prog X.w (ø Ϣ ϣ) h' Ϣ ϣ),0,(by refine#[ù u,ÃZ ad,î,ţ]),(·,XU,Z,H0,H',s0,B,t),Ϣ ì ϣ λ c hc o e=>Ϥ c o (gG hc ϥ) e,∀b o,H b=ò->b≠Ϣ->H' b=ò,(Ϣ hr.units ↑ϣ ↑Ϥ),λ z=>absurd z ⋯,Ŀ Ϣ ϣ ["thing","hands"] Ϥ,(·,·,_,(.head _)),Į Ϣ kS (Ào (List.toArray ϣ) e),#[.bl Ϣ,H,I,Ì q],(clk cl h).set h,∀n it,Κ->it.tx.length<=Ϣ,(Ϣ ϣ).depth<=Ϥ,#[Ϣ,ϣ,Ϥ,false,none,false],É (sIx Ϣ 0 lo:Nat),∀(Âj W),0,(∀σ' H',Ϣ ϣ σ' H'->Ϥ σ' H'),(by rintro i v Z H' hv ⟨Ϣ,ϣ,Ϥ,ϥ,Ϧ,ϧ,Ϩ,rfl⟩ DL hDL),ŕ I.write x Ϣ e ϣ,∀{xs ys:Ä V},0,(by rw[Zl,<-Ϣ];exact ϣ),(by exact .none),λ _ _ _ _ _ st h=>Ϣ st h,(Ϣ λ i=>(ϣ Ϥ).getD i .non),(.xd [("name",v)]),Ä K×XH×XJ,(by exists[m,hm,hn],rC Ϣ ϣ Ϥ ϥ),(by have Ϣ:ϣ<s.heap.objs.size:=Zr Ϥ),(as.map Ϣ).getD i,(by rw[aG,XB Ϣ];exact ϣ),[B,v,f,h1,h2],A.units+Ϣ<cLine,(by exists[j,hj,rfl],Ϣ ϣ),.inl (XX Ϣ),∀{fd},é Ϣ ϣ st->Çh Ϥ f sp,CodeHd Ϣ ϣ.1,(∀b∈fp,ê H' b),∀(ŵ XU XD),0,∀(hK:X.K=K),0,(by have Ϣ:its.length=xs.length:=ϣ),decide (x=.non),xs.length+Ϣ<=sizeLine,∀(h:Dfs M st out k),0,∀(Φ:Þ Ol) (ÃA l),0,["kind","part","hand","clock"],(assignEach Ϣ X.env).map (·.2),(by ext Ű PyData.depth;exact ĵ Ϣ ϣ Ϥ ϥ),(ÿ Ç Š),(by ext Æd r' pl Ϣ;have hlen:=r'.length),Ť #[Å,ľ,nz nofun ? _],∀(h1:DA Ω d),0,(Ò [Í 0,Í 0]),fh X (.builtin Ϣ),PyData.strOk Ϣ.2.tx=true,Ò [Ϣ ϣ,Æ Ϥ],(Ík push) (Ào Ů 0),∀(x:Nm×It),0,∃nv,H st=Ϣ ϣ/\œ nv n,(·,·,"tuple_iterator",l),ï (ø Ϣ ϣ) (ÁT h' t'),(.Tuple es Ϣ pos),typeLookup (.type Ϣ) ϣ,∃Ϣ,h'.get? ϣ=Ã Ϣ,(show ÁY Ϣ by decide),∀i j,i<j->j<Ϣ->ÐJ ϣ Ϥ ϣ ϥ,(by split<;>decide +kernel),(tx _ hm).2,(by exists[z,its,n,Ϣ,ϣ,e],I.lstM Ϥ),Ϣ ϣ Ϥ=if Ϥ=ϥ then Ϧ else Ϣ ϧ Ϥ,(Zb #[Å,Zb h]),ar (È4 jB) Ϣ aj,υ (fP h1 kn.1),A.getD j (0,D0),Č Ϣ H2 s2 e2,ï Ϣ s'->Q ϣ s',Á2 A (Ā Ϣ a ϣ Ϥ) Q E s,#[ŭ,cS ? _],[nv,Ϣ,pv,h1,h2,h3,ϣ],aK (Éb) m Ól,XH×ÌY,(by rw[ah Ϣ,ad]),∀(h0:Pv 0 [] H0),0,show Ϣ=.none from ϣ,Ε ÁM,(by rw[XB Ϣ];have ϣ:=Xj.mpr Ϣ),Ϣ="item"\/Ϣ="up",(·,Same.refl _,rfl),(by ext Ϣ ϣ Ϥ;exact ϥ),(by wp_walk using Xe hl),.h 2 true (.n 1) (.a 0),gi Ϣ P w K mg base N qual ϣ,â Ϣ Ç (Ñ (ã 1) Ç .z) [_,_] ϣ,∀{Ϣ:ϣ}{Ϥ:ϥ}(Pv:Nat->St->Hp->Prop)(h0:Pv 0 Z H)(Ϧ:∀i Z H,i<=xs.length->Pv i Z H->ϧ K H a xs),0,(·,·,(Ñ (ã 0) Š),[_,_]),(by exact â Ϣ Ç (Ñ (.n 2) Ç .z) [_] ϣ),∀(hf:X.fn Ϣ=true\/X.env.scope.names.lookup Ϣ=some .local:=by first|exact .inl rfl|exact .inr rfl),0,Ϣ (t':=ϣ) (λ b o hb e=>(sb.2 b hb).trans e) f0 f1 f3,(by intro XU s Z H x Ϣ v us Q I rx ϣ h),∀(ha:Ϣ X a ta)(hb:Ϣ X b tb),0,((s.heap.update a (Obj.mapSeq λ _=>(#[]:Array XJ))).push (seqObj "tuple" vs.toArray 0)).Ϣ,(Ñ (ã 2) Š),Ñ (.p (ι a 0 n 64) (.n 1)) Š,(Ϣ==NameKind.free&&env.scope.kind == .function&&env.kindOf n==some .cell),s.heap.update Ϣ (Obj.mapSeq λ _=>(#[]:Array XJ)),(Ϣ XU s2 ϣ H2 _ I2 q2),([]:Ä Keyword).Ϣ,(λ i H hi sm=>Ϣ),(qR (M.filter (dL gs))),∀(hch:∀b∈ch,cE X XU H b)(kp:∀b o,b∉ch->Ġ b o->h'.get? b=Ã o),0,(∀zs H4,Pv (i+1) zs H4->Y zs H4)->g Ϣ (cg n cap Z) ϣ λ σ2 H2=>tc σ2 H2 λ b H3=>if b=true then te σ2 H3 λ y H4=>Y (ys++[y]) H4 else Y ys H3,∀(ho:Ϣ X (compareOp op) r)(ho':Ϣ X (compareOp op') r')(Íj ϣ)(hc:ϣ X c tc)(hm:lastMarks [op,op'] [b,c]=false:=by with_unfolding_all rfl),0,(by intro XU s Z H Ϣ ϣ Q I r Ϥ;exists ϥ,Ϥ),(by have Ϣ:=Z8 X G ϣ;have Ϥ:=Z8 X G ϥ;have Ϧ:=Z8 X G ϧ;have Ϩ:=Z8 X G ϩ),(by exact ϙ 63 (Ñ Ê (.n 63) ϊ) ď Ϣ ϣ),∀(h1:ÀB OlAt) (h2:GoneAt H g gs) (h3:ol.length<=63),0,∃c d cd sl,K.lookup Ϣ=Ã #[c,d,.cls cd,sl]/\cd.mro=Value.ref Ϣ::ϣ,((((s1.heap.push oa).push ob).push ou).push ov).push oz,∀(D:ODict prog w h d o es ep xs),0,∀(hq:∀p H,Same H0 H->ê H p->Đ p (ø p (Õ ((List.range Ϣ).map f)))),0,((s.heap.push (Ào #[] 0)).update s.heap.objs.size (Obj.mapSeq (·++its.toArray))).push (Ào its.toArray 0),∀{ws:Ä Str} {ps:X1} {bs:Ä Bool} {is ns:Ä Nm},0,.Call (.Attribute o m apos),Ϣ X (.builtin ϣ) (λ xs H Q=>∃(p:XH) (bs:(Ä Bool)),xs=[Æ p]/\SqL X.K H p (bs.map V.bl)/\Q (.bl (Ϥ id)) H),FnOk Ϣ w ϣ mg base CX0 Ϥ ϥ fd,callWith pos f first (backTo pos (starEach (e::es) X.env)) (backToKw pos (keywordEach [] X.env)),(.p (ã 1) (.a 2)),∀(hit:Ϣ it d ϣ es.size ep)(hm:DRaw s.heap d es ep),0,(exN Ϣ ϣ t (Ù Ϥ)),(Ϙ "tuple" seq (List.toArray [es[i].key,es[i].val])),(by have Ϣ:∀{b:XH} {u:HO},ϣ b=Ã u->b≠Ϥ:=fun{b u} e=>aq e ϥ),(Ϣ ϣ).Pairwise λ d e=>¬kLt e d,∀(h2:uV H xs ds) (h3:ds.length<=63),0,[#[Ã "key",.Lambda params body scope lpos,kpos]],Same H0 H->∀R:VK,(∀H',ó->R (f i) H')->te Ϣ H R,ć (.p Ç (ã Ϣ)) (.ϣ Ϥ),#[Ϣ,I.os,I.bare,ϣ,I.loc,I.cell,I.free,I.freeC,I.pin,I.hok,I.len],Ϣ b=Ã ϣ->b≠Ϥ,(by have Ϣ:=Yb ϣ (show É Ϥ≠0 by decide);have ϥ:=Yd ϣ (show É 0<Ϥ by decide)),∀(s:SameT T H H')(tab:aX q T pos H),0,(·,T.cl,T.nH,bg Â),{ cls:=.type Ϣ,data:=.ϣ Ϥ },∀(l:XH) (xs:X1) (ds:Ä Dd) (h0:vs=ġ l) (h1:ĺ H l xs),0,λ _ _ _ _=>Λ je (n:=2) rfl rfl (bS (ÁX 0 (Àn [Ϣ,ϣ])) (bS (ÁX 1 (Àn [Ϣ,ϣ])) ic)),(by
 rw[ZR]at u
 rcases Nat.lt_trichotomy i j with c|c|c
 .show ĕ Ϣ (u i j hi hj c)
 .subst c;rfl
 .show ĕ ϣ (u j i hj hi c)),(by ext ÅL;show Àp [kvs,hq,hx] hg Ϣ st;exists[lo,xs,es',ep',r,ho,hx2,hd,h4,hl],vy I.hok hq;ext è sd hd hd),ih.2 i w v' e1 e2 hi e3 λ j w' hj e hw=>pre (j+1) w' (by exact ÇX (.p (ã 0) đ) hj) e hw,(·,·,Ç,(.n 63)),#[_,Ye _ Ϣ (YX (Yc ϣ _)),(Obj.cls_mapFields ..).trans Ϥ,by rw[Yc ϣ];simp[rawInt]],(by refine z9 Ϣ;show Θ (newExc (.type "StopIteration") [] >>= _) _),∀{names:ő NameKind} {acc:ő XH},0,(by have pl:∀i∈Ϣ,i<ϣ:=λ i hi=>by have:=(Ϥ).mp (Array.mem_toList_iff.mp hi);ext ÃT),∀(k:∀b u,ÀC h.get? u h'.get?),0,∀(h p d:XH) (n me:Nat) (L M:L3),0,ŝ (Ñ Ç (.p (ã 2) (.a 3)) (Ñ (ÃQ 3 (ã 2)) Š)) Ŭ r2 (ÉG hN),∀(Ŏ i v V) (key:ZKey) (H':Hp),0,∀{kindOf:Str->Option NameKind},0,λ Ϣ H4=>∃m',m'<ϣ-i/\m'=ϣ-(i+1)/\i+1<=ϣ/\Pv (i+1) Ϥ H4,(by rintro i Ϣ H' v hv ⟨sm,ϣ,Ϥ⟩ Y hY),(katRev b (p.toList.map λ i=>(katRev b xs).getD i .non)),∀(h1:LR3 H l L) (Ϣ:Tkn L W n Φ),0,(by show Ž [o,ho,hc,hd] id hit [od,hod,hcd,hdd] id hm;unfold pyNext),∀(hg:Gl X "sorted":=by rfl),0,∀(ÅQ h1) (h2:NameIs H nm k),0,∀(ËO hn n itn)(ËO hm m itm),0,.UnaryOp .Not a pos,(.BoolOp .Ϣ [a] pos),∀(Ϣ:ϣ)(Ϥ:ϥ)(kls:Ä (OK1×XH)),0,∀{α β:Type}{R:α->Þ β},0,∀(Ϣ:ϣ)(Âj ws)(ps:X1),0,Ϣ ϣ 0 lo=0/\Ϣ ϣ ϣ hi=ϣ,(by exists[nv,h1,h2],h;exact#[_,_,_,_,È h1,.item h2 (.oth Ϣ .nil)]),(envX qual scope s.heap.objs.size f Ϣ ϣ),lin Ë3 Ć Ê (ÿ Ć (.c Ê) (Áb Ĩ Ç)) ď Τ Ϣ (ÉH h0),∀(hg:Gl X x)(hm:X.mg x=Ϣ ϣ),0,(·,·,base,(env::outer)),∀(hdat:o.data=.seq its n),0,(by refine Ϣ;rw[ϣ,decide_eq_true Ϥ]),∀{α β:Type},0,(oth b (nrec b o q hn)).trans q,λ i w e hw=>z (i+1) w e hw,(by exists[z,hd,vs,rel,dd],Ϣ I.hok e),∀{sp:Sp}(F:é x qual st),0,List.foldl (λ x1 x2=>x1++x2) #[] (List.replicate Ϣ ϣ),(List.replicate n (List.replicate n (É 0))),∀(hu:X.A.units+1<cLine),0,#[_,_,_,_,È h1,.Ϣ h2 ϣ],Ñ (š Ϣ ϣ) (.a Ϥ) .z,(congrArg (É i*·) h).trans (laF_mul ..).symm,(by exists[oc,od,kV,doc,pm,an,cdv,ct,osl,rfl,lk,hcd],F.ex),∀(f:Bool->LinearCombo),0,YO i (Ϣ-1),∀(p d g st:XH) (ol:Ol),0,λ Ϣ H4 z=>#[ϣ-(i+1),∅,Ì hlt,z],(·,·,Τ,(Int.le_of_eq q)),(by intro XU s Z H x v vl vu lo hi sl Q I rx hs pl pu h),(·,by rw[Ϣ,Za],.ϣ (Ø k hk),λ i v key H' hv hkey Ϥ R ϥ=>? _),∀(prog:XL)(w:XM)(Ϣ:ϣ),0,.Compare a [op,op'] [b,c] pos,(by rw[up (nP Ϣ λ _ z=>Ş z) (aq Ϣ c0) (aq Ϣ f0)];exact Ϣ),LS (λ i j=>HT.lexLt (Ϣ i) (Ϣ j)) p xs.length,(by show Ž [i,hi,rfl] Z1.mp Ϣ [j,hj,rfl] Z1.mp ϣ),#[Ę Ϣ ih.1,ZZ (·+1) ih.2.1,ZZ (·+1) ih.2.2],∀(l:XH) (L:L3) (Âj W),0,∀(ÉR h1) (h2:LTb T H),0,Dfs (M.filter (dL gs)),(by (with_reducible refine wpAny_isSubtype_exc Ϣ ? _;rw[ϣ])),(λ _ q=>q),.str name tk,ci (ÉU 0 d8 gO),Runs (aO (aT L)) (bp (aT L)) [] (aT L) rs,∀(s:XI) (Ϣ:XJ),BindsTo s fd #[[Ϣ],[]] [(ϣ,Ϣ)],∀{b:XH} {u:HO},0,á D->Đ D Ϣ,λ d e=>nmK d≠nmK e,∀{B:Nat}(v:Inv ol B),0,∀(r:KV kvs vs)(k:κ),0,(by exact Áb ô (.n Ϣ) (ĝ Ç (.n Ϣ) .z) ÆS ϣ),Ϣ it s.heap h'->Q ϣ (ů s h'),∀{f:XJ->XJ->Sem XJ},0,Ϣ.2=.free->∃c,env.cells.lookup Ϣ.1=Ã c,(·,(by show Ϣ<1000;decide),? _),∀(ÉX as us)(e:Nat),0,(by simp[Ϣ,List.find?_cons,ϣ]),(by rw[ah (Àm hq e)];exact e),∀(hi:Ϣ X tg iter wi)(ÚM ϣ Ϥ ϥ),0,["self","name","up","place","text"],∀{Ϣ:Int}(h0:0<=Ϣ),0,if Ϣ=ϣ then Ϥ ϥ else none,∀(h64:vs.length<64),0,z9 (m:=Builtin.Tuple.tupleExact _),(by exact Ϣ a t' b t),ï Ϣ { s with heap:=ϣ,gens:=Ϥ,drawn:=ϥ,toks:=Ϧ },Ϣ F (R:=T2) UI,(by exists[o',Ϣ],I.base.there b o e hx),(by exists[i,hi,rfl],Z1.mp Ϣ),(by exists[f,fd,G,hm,b],F.ex;rw[Y6,ZH]at hs),look Ϣ ϣ=if ϣ=Ϥ then Ã ϥ else look Ϧ ϣ,∀(Ϣ:Option XH)(sl:Array (Option XJ)),0,λ d=>PyData.eqv d dx,SqL K H a (ns.map V.int),Ŀ Ϣ ϣ ["one","other"],(by ext ÉP s;exists[hl,h],h),λ i w v' e1 e2 hi e3 pre=>? _,(Ϣ b u ϣ).stay Ϥ ϥ,Ñ Ϣ (š 2 1) .z,(Î1).get? (s1.heap.objs.size+Ϣ)=Ã ϣ,∀(Ϣ:∀ϣ∈s.news,ÁB ϣ),0,Õ (iG M++ġ q7),Ϣ X (.Constant (ϣ Ϥ) j pos) (tC (ϣ Ϥ)),#[o,e,λ v z=>Ϝ d z],Č Ϣ H5 s5 e5,∃sl,Ϣ b=some { ϣ with slots:=sl },@Ϣ _ (Classical.propDecidable _),∀s,iR Ϣ.1 Ϣ.2=Ã s->Ready ol s,#[Ϣ Â (ϣ.2 x hx).1,(ϣ.2 x hx).2],#[Ϣ,k b ϣ q],(·,·,(.c Ê),.z),∀(f:Nat) {p:XR},0,Lx lt (gA Ϣ ϣ) (gA Ϥ ϥ),ĺ H' Ϣ ϣ->Ϥ ϥ Ϧ ϧ->Đ Ϣ H',(·,ľ,cS ? _),(tupleKind (bA P w)),(by exists[w,so,o1,r1,rfl,p1,x1],mf c c2 Ϣ),Ϣ (b,o) (ZW _ (ZW _ (kX hb e))),.Ϣ (.c Ç),absurd Ϣ ⋯,ZD (show Ϣ<ks.length by omega),Ŀ 5 "stepped" ["steps"] (Ϣ C),[.inl (É i),.inl (bh d i)],(·,·,æ,(Nat.le_of_eq hl.symm),hx),(by have:=Ϣ Â ϣ;ext è Ϥ this this),∀b o,ÀC Ϣ o ϣ,(by have hz:vs.length<=4096:=∅),(·,·,"list",seq,vs.toArray),μ [a,i,fd,F],∀(h0:vs=[v]) (h1:DdAt H v d),0,(hr:r=[Í k]),Zd _ (Zj _ (by rw[<-Ϣ];rfl)),(·,none,none,È Ϣ),UpAt H uv u/\PlAt H pv pl,(·,·,1,(Value.ref h1.objs.size)),∀(ÃU hn e),0,∃t,u=Ϣ ϣ t,Ϣ K ϣ (.type "object")=Ã true,(show False from r).elim,(by obtain⟨⟨Ϣ,ϣ⟩,Ϥ⟩:=ϥ),#[h.lt hn _,h.lt hn _,ģ Ϣ],am (clk cl Ϣ) ϣ<=am (Ãy h o) ϣ,#[o,h1,h2,h3],ϔ (Ád (ÒX .z) (Int.le_of_eq Ϣ)) (Ád (ÒX .z) (Int.le_of_eq ϣ)),Int.le_of_eq (Int.toNat_of_nonneg (ô č Ϣ (Ĩ ϣ Ç) [] Τ Ϥ)),∀(Àf ha a ta)(Àf hb b tb),0,∀(l:XH)(items:Array XJ),0,kas_rev p (Å8),ú PyData.canLayAll0 Ϣ/\PyData.depthAll Ϣ<=ϣ,(by have e:Ϣ=ϣ:=ϔ (Ád (ć (ã 0) (ã 1)) Ϥ) (Ád ϊ ϥ);ext Ļ),(·,ÜV,È H1,I1.kept (t':=s1.toks) (Àu o e e)),ú bm.contains (.type "BaseException"),(by ext Án c2 Ϣ;.rw[ϣ c2,ϣ c2,XB (ÃF c c2.trans)]),I.kept (t':=tk) Ϣ,∀(R:RnK L W n e)(h:Ôf Ϣ ϣ),0,(by show ÚQ [nv,hst,hn] (Ûd Ϣ);exact ÛR ϣ [_] 1 (æL Ϥ ϥ) (.Ϧ hl)),Ϣ X Äk (Æe "enumerate" [e1] ÂB) (ϣ X.K ta),∀(ÆZ nd)(t:Ter ol),0,XJ->Æ0 XH Hp,I.laid (a:=s.heap.objs.size),(List.range (Ň as.map V.ref)).map,thn (Ϣ ϣ rfl rfl rfl hc i Ϥ s3 ϥ H3 Ϧ I3 (ϧ fr3) st3 Ϩ),(by have Ϣ:gA p ϣ=Çv ϣ Ϥ:=by rw[sI,ZL,ÁG Ze Zx Ϥ];rfl),(by have e:(if ú Ín k0 then ÔR else(n,k0))=Ϣ:=ϣ hc),Â2 p hp (show p∈([]:XD) from hp),∀(X:Ϣ K ϣ)(j8:Ι 6 Ϥ "ready" ύ (spReadyM Ϥ T)),0,∀(Ŧ ol Ol D D3),0,∀(Àf he e te),0,(·,rfl,#[_,į y6 Ϣ ϣ,È hv,n1],trivial,gh),if Ą b then Ã true else none,H a=Ã (Ò ([i,j].map V.int)),∀{st out:Ä DI},0,(.str x tx),(by ext å hb b Ϣ;.subst hb;ext π ad ϣ new),Ϣ X tg (Æe ϣ [Ϥ] ÂB),â (.p (.p (Åj (ÉS Ϣ)) (.n ϣ)) đ),∀(Ϣ:DA Ω ϣ)(Ϥ:FitS n ϣ),0,(by ext ļ nv a0 h6;exact fin Â rfl a0),(fg dW ä (eM aj) fq),[Î "done",Î "top"],(·,d,Æ ia,rfl,e1▸ÉL n h2 hnb),(Äj #[ľ,aW ⋯ (aF ? _)]),(show b∈([]:Ä XH)from Ϣ),(by ext χ decide_eq_false h Ϣ ϣ),Ā E cN (Ù dd) H',(by exists[kvs,gvs,S,R],id Ϣ),λ p hp=>hq ys p H pv hp,(·,Å,wa,_,ë,e3,at0,Ì _,rfl),(by cases hs;show æf h6 #[nv,h5,a1]),(by have ll:Ň aT L=L.length:=Za ..),(·,Å,h,CH,Ó8 dx h1,æU,fO Â),nm3 Ϣ≠n,λ _ _ z=>False.elim z,λ x y H Q=>y=.non/\Q Ϣ H,∀(S:FnScope N ps (ao st)),0,wP Ϣ X P params body scope ϣ,Heap.get?_update_ne Β,∀{ol ol':Ol},0,(·,Ü,cA,τ,XX ck6.1,kU Ϣ,Å,ϣ[Ϥ],_),OvR (ϡ eE (L.zip W)),Prt H ol (Ϣ::ws) (v::ps),Ϣ (Λ nI rfl) (ϣ Ϥ) (Är ð aA),(by have e':=Ϣ b ϣ Ϥ;ext è ϥ e' e';exact Ϧ b ϧ Ϥ),R.find? (ÀF Ϣ (nmK ϣ=Ϥ)),[_,_,_,_,Ϣ,_,_,e,_],Ϣ B X.stack ea C (Ï t),Çy (vals (dE n S i)),(by unfold Ϣ;split<;>rfl),(by unfold Ϣ;exact ϣ),(by refine#[Ü,ù Ϣ,È0 r ϣ e2',ţ];rw[Ϥ]),(nm3 y.2),q p _ (af Ϣ _),∀(hs:ËQ Ϣ (Ù (ϣ Ϥ pos')):=by rfl),0,ĺ H' Ϣ ϣ->Ág Ϥ H' ϣ ϥ->Đ Ϣ H',∃Ϣ H',ï H' s'/\ϣ Ϥ ϥ/\Q Ϣ H',ι ÁM n 1,(by rw[ah (Åw ne1 Ϣ),À7 ah ne2 Ϣ]),(by ext ŧ q h hl;exact fR h q),ă Ϣ ["thing"],(·,Å,sz rfl),∀(hH:ĺ ÂT),0,∀{m:Nm×It},0,(Ϣ (XV ϣ)).dd,∃out k,Dfs M Ϣ out k,ă Ϣ ["thing","hands"],(by exact Ë8 Τ h1),∀(ËZ Ϣ ta Ϣ ϣ tb),0,(by exists Ϣ,hs1;have e1:=Λ XW hst),decide (Ϣ i=Ϣ j)=(ϣ==Ϥ),∀(Zq0:Ä ((ÄG)×Str)),0,(by rw[Zm];exact Zf _),k∈kvs.map (·.1),(by ext å Ϣ b ϣ;.ext Äl Ϣ ad Ϥ;exact ϥ Ϧ),(by ext Éy Ϣ ϣ Ϥ;.rw[Zg.mp Ϣ];exact ϥ),Ϣ id fun⟨c,z1,z2⟩=>ϣ,(by rw[Ϣ.2];exact ZA _),∀(ho:Ϣ X (compareOp op) r),0,#[_,_,_,.step hs ct Ϣ],∀(n m:Nm)(Ϣ:It),0,(ÅY CX cd s H E).Ϣ,(·,Å,d,Æ Ϣ,rfl),(by intro z;cases z),Ä2 (z.1.ls (Ϣ,_) Zk),∀(n d:Nat),0,L.length<=63,∀(Â3 d XH),0,λ y hy=>(Ϣ y hy).ts ϣ,mkM B i5 Ϣ λ F=>ϣ F b9 Ϥ,decide ((Ϣ a:Key)=ϣ b),(·,·,1,false,(.a 0)),.h 1 true (.c (.a 0)) (.c (.a 1)),.h Ϣ false (.a 1) ϣ .z,lin Áw Ϣ ϣ Ϥ ϥ [_] (Eq.refl true),↑FnOk (CXr P w) Ϣ f fd ["self","step"],↑FnOk Ϣ ϣ f fd ps Ϥ,(by show Θ (if(Value.ref Ϣ==Value.none)=true then _ else _) s;rw[XB (show¬((Value.ref Ϣ==Value.none)=true)from Zq)]),∀(Ϣ:(x==("__debug__":Str))=false:=by decide),0,{ cls:=.type "enumerate",data:=.fields (List.toArray [.none,.bool false,Æ s.heap.objs.size,rawInt 0,.none,.none]) },∀(Ϣ:starEach (e::es) X.env=(false,eval e X.env)::starEach es X.env:=by rfl)(ϣ:(backTo Ϥ (starEach es X.env)).any (·.1)=false:=by rfl),0,(by exact fun q=>Nat.not_succ_le_zero _ Ϣ),∀(hs:(e::es).all aQ=true:=by rfl),0,(by refine z9 ? _;simp only[newExc,newTuple];refine z9 (ZM ? _ (by size_fits));refine z9 (m:=firstArgMember Â) (wpAny_of_eq (a:=Value.none) (by first|rfl|(simp only[firstArgMember];rfl)) ? _);refine ZM ? _ (by size_fits)),(ĝ (Ų n 0) Ç .z),Ϣ { cls:=.type ϣ,data:=.fields Ϥ },subscripted Ϣ false ϣ Ϥ=operate ϥ Ϧ,(apos.endLine==cpos.line),(.p Ç (ã 2)),(by show í Ϣ;rw[XB Û];refine Zb ? _;simp only[show¬ϣ from Ãq (lin 0 ÆH (.n 0) (.h Áw ÅK (.n 0) .z) [_] θ q),Y4,ZP,Ϥ ϥ];show í Ϧ),∀(hn:x≠"__name__":=by decide)(Òd Ϣ),0,Õ (((clk cl5 hN).set hN (am (clk cl5 hN) hN+1)).map V.int),cxX Ϣ P w K mg base [x,y] qual scope f ϣ [(y,c)] A outer s,itn.tx++itm.tx,∀(hi:Ý X.N x:=by rfl)(hx:Loc X.env.scope x:=by first|exact Or.inl rfl|exact Or.inr rfl),0,(by intro XU s Z H xs us Q I r h;exists Ϣ,h;exists ϣ,Ϥ r;cases ϥ),∀(hu:A.units<cLine)(hkey:OIs prog w s.heap k key)(D:ODict prog w s.heap d o es ep xs),0,∀(hm:ê X.mg "sorted")(hcode:X.env.code=Æ c)(C:CodeHd X.base c P)(B:Blt X.base X.mg),0,∀(hi:QE X i ty)(ho:QE X o td)(hm:behindInMarks .Ϣ o=false:=by with_unfolding_all rfl),0,∀(a8:ê mg "isinstance")(d8:ê mg "tuple")(a9:ê mg "len")(j6:ê mg "all"),0,ZT (name:=Str.ofString "__getitem__") Ϣ ϣ,∀(hcode:fd.code=Æ c0)(C:CodeHd base c0 Ϣ)(B:Blt base mg),0,(ô Ϣ Ê ϣ Ϥ æ Á3 (Int.le_of_eq x3.symm) ϥ),∀{bs:Ä Bool}{is ns:Ä Nm},0,(by intro XU s Z H Ϣ ϣ Q I r h),∀(hst:X.stack=X.env::X.outer)(hfr:X.env.frame=Ã X.env.locals),0,Dt H Ϣ (Ï l)/\SeqAt.shaped Ϣ=true/\PyData.eqv Ϣ Ϣ=true,Ñ Ç Ê (Ñ Ê (.n Ϣ) .z),∀(hd:o.data=.dict es ep)(hall:(es.all λ e=>isExactStrKey e.key)=true),0,(·,Ϣ,_,Å,ϣ,X.cl,X.nS,iV Â),#[Å,ľ,nx ⋯ Ϣ],Ϣ #[_,ho,rfl] #[_,ho2,rfl] noFill_tuple_add seq_tuple_add PySem.F.slot_tuple_add PySem.F.entry_tuple_add (PySem.F.args_tuple_add_2 Â),∀{pl:Sem Bool}(F:ÃO Ϣ k C m ps sp)(hr:Room k X.A)(he:QE ϣ o ta),0,∀{te:TE}{Q:VK}(f:Nat->V)(hz:Ϣ<=1000),0,(by exists[z,hd,xs,rel,o,es,ep,h1,h2,h3,h4,_,_],jQ I.hok Ϣ;have hsz:es.size=xs.length:=size_of_entries h4;have hkl:kvs.length=xs.length:=ZC rel),Ϣ (pl:=pl) he.h F.cl hm G hr b,codeAny (model Ϣ w) callerA (.call (Ï fa) #[[Æ a],[]]) (λ r s'=>r=.ok (.ret (.bool true))/\OldK ϣ s'.heap/\s'.os=Ϥ/\AllBare s'.gens),ϙ Ϣ (Ñ Ç Ê (Ñ Ê (.a 2) (ū (.n Ϣ) .z))) æ,∀(F:Fl X H0 H' s0 s' B)(I:ï H0 s0),0,#[#[],Ϣ,trivial,.inl rfl],(by obtain⟨⟨cls,dd,data,sl⟩,ho,hc,n,hd⟩:=id Ϣ;obtain⟨⟨cls2,dd2,data2,sl2⟩,ho2,hc2,n2,hd2⟩:=id ϣ;simp only at hc hd hc2 hd2),backToKw Ϣ (keywordEach [] X.env),(by exact ĵ Ê Ϣ ϣ Ϥ),∀(h:Ϣ X es ϣ)(hn:(assignEach es X.env).length=n:=by rfl),0,(by refine z9 (Ϣ (s:={ s with heap:=s.heap.update it (Obj.mapFields (·.setIfInBounds 1 (rawInt (É i+1)))) }) hit'.typeIs ? _)),(by exists[f0,f1,Ϣ,f3,f4,f5],ϣ b hb),.a 2,(by exact ĵ Ê (Àb (Ñ (.a 3) (ÃQ 1 (ã 4)) (ć (ÃQ 2 (.p (ã 4) đ)) (ã 3)))) [_,_,_,_,_] Ϣ Ŝ (Nat.add_le_of_le_sub (ÇX (.p (ã 0) đ) hq) (Nat.le_refl _))),∀ÚU,uk ps.length λ us=>bindArgs (ÉI Ϣ ϣ st doc cdv) #[us,[]]=pure (ps.zip us),(fm I hg hm Ϣ (Yy (thn (ha pos ÂO I h) (ο us s1)) (aR n1) (bQ Û))),∀(æK Ϣ ϣ Ϥ ϥ)(Ϧ:ËG W.findIn ϣ)(ϧ:W.makesIn K ϣ=true),0,(by exists[en,e1,e2],hacc.2 j v (Àq Yz e');rw[entry_at h4]at e1;exists[x,e3,e4],ZK.mp e1;refine#[x,e3,? _];rw[e2,<-e4];rfl),λ Z H R=>ta Z H λ vs H1=>∃a b xs ys,vs=[Æ a,Æ b]/\Ϣ K H1 a xs/\Ϣ K H1 b ys/\xs.length=ys.length/\R ϣ H1,((Ϣ K a xs).go k H/\∃N:À0,ËI k/\∀x H',(Ϣ K a xs).yld k H x H'->qi K 2 (fW (cC i) (fW (cC j) qh)) ËD),if(y.2==NameKind.free)=true then dw env r ((y.1,(env.cells.lookup y.1).getD 0)::acc)else dw env r acc,∃ t,Ϣ (Íb CX0 (ao st) f ϣ A outer s H E).nox (bV st) t/\t { nx:=λ _ H'=>Q .non H',rt:=Q } (start N vs) H,(by exact ŝ (ū Ê (Ñ (ã 3) (ÃQ 2 (Ã3 (ã 4))) (ć (.p Ç (ã 4)) (.a 3)))) [_,_,_,_,_] Ϣ Ŝ (ÉG hq)),(by rw[ah (aq e Ϣ),ah (aq e ϣ)];exact e),(by rintro i zs H' v hv ⟨sm,lz,pz⟩ Y hY;exists[r,hr',t,Ϣ,ϣ,rfl,e1,e2,e3],bE Ϥ hv),∀(i j:Int) (t u:Tok) (s:XI) (Q:XE) (E:XE),0,∀(r:V->Option Int->Option Int->Hp->Þ VK),0,∀(x y:V) (v u:XJ),0,Int.le_antisymm (Áb ô Ç (Áb Ĩ Ç) [_] Τ (ÉH Ϣ)) (ô ÉY (Ĩ ÉY) [_] Τ (Int.self_le_toNat _)),(by
 have ep:p.toList.Perm (List.range Ϣ):=by have:=Array.perm_iff_toList_perm.mp hp;ext ÃT
 refine#[? _,? _]),∀(hge:X.env.globals=mainGlobals:=by rfl),0,(by
 rcases Ϣ with(h|⟨o,h⟩)|h
 .exact .inl (.inl (ϣ Â h))
 .exact .inl (.inr #[o,ϣ Â h])
 .exact .inr h),∀{i j:Nat}{tb:TS}{D:Ends}(Íd Z St H Hp ha Ϣ),0,∀(hch:∀b∈ch,(b∈X.ex\/X.s₀.heap.objs.size<=b)/\Â0 b/\(Çn b)/\∀p∈X.pn++XU,p.1≠b),0,{ itm2 with tx:="" },∀(ho:QE X o to)(he:QE X e te)(ÃU hs e),0,∀(ÉC H1 Hp)(m:XF)(kS D:XH)(e1:Nat)(ks:Ä Ϣ),0,∀(u:R.Pairwise λ d e=>nmK d≠nmK e),0,(by show Ž Ϣ ϣ Ϥ ϥ ϣ Ϧ;unfold kas_ask),(·,·,(.type t),(.type T)),(by refine#[#[v.ter.keep hl rfl,pQ v.wgt hl (YN Â)],dZ ì,Ú x _ h];rw[aG,XB (Àm hl h)];exact h),∀R:VK,(∀kv H'',Same H' H''->key.at H'' kv->R kv H'')->sp Ϣ ϣ Ϥ ϥ,(·,Pv (Ϣ+1),λ σ' H' ϣ=>#[xs.length-(Ϣ+1),∅,Ì hlt,ϣ],Ú x H' y),[Ϣ t1,Æ t2,Æ t3,Æ t4]++[Æ t5,Æ t6,Æ t7],(L.map λ x=>kyZ (f x)).getD,∀(F:ÃO Fn k x ps sp)(hr:Room k X.A),0,{ s3 with heap:=s3.heap.push (Ϙ "slice" fields (List.toArray [vl,vu,.none])) },λ b o hb e=>Ϣ b o (λ ϣ=>hb (Ϥ ϣ)) e,(h.push (Ϙ "tuple" seq rest.toArray)).push { cls:=Æ C,data:=ÆJ h.objs.size },(by
 refine F.okC hcode Ϣ (Ķ vs H Q E h) (λ A outer s H vs Q E hr h=>? _)
 .exists ϣ,h;rfl
 exists Ϥ,h),(by refine .inr Ϣ;.have:=hn i ys H pv;exact Xq (Zn this ∅) (show 1000<sizeLine by decide)),(by
 refine F.okX Ϣ (Ķ vs H Q E h) (λ cdv A outer s H vs Q E hr h=>? _)
 .exists ϣ,h;rfl
 exists Ϥ,h),(by ext ÚP;ext ÁV vs;exists Ϣ,q1;have hz:xs.length<=4096:=∅;ext Çe u ru r1;have hk:PK X ϣ Ϥ:=sZ ϥ wn),∀(h:Hist n L)(hd:d∈L)(he:e∈L),0,(Ϣ "dict" dict #[]),[Î "take",Î "off",Î "on",Î "none"],(by exists[v,u,k1,ru,eu,m1,en,at1],gk i hi;exists[v2,u2,k2,ru2,eu2,m2,en2,at2],gk j hj),bT (own:=Ϣ) ϣ rfl Ϥ ϥ Àe (Ĭ fj),show eJ f v ((k,x)::r)=(if k=f then(k,v)::r else(k,x)::eJ f v r)from rfl,Ϣ=[Í i,Í ϣ],(congr (congrArg HAdd.hAdd (Ϣ ..)) (Ϣ ..)).trans,(names.map fun(n,k)=>if Ín k then(n,NameKind.cell)else(n,k)).lookup x,(·,·,(k+1),ps,sp),∀(c:cU d ts=false)(c2:Υ=false),0,(by exact ÇX (ã 0) Ϣ),Obj.mapSeq λ x_1=>x_1.push y,(by exists[e,n,ne,nf,d],I.pin p hp),↑Ϣ k C ϣ ps sp,tb { D with nx:=Pv (Ϣ+1),ct:=Pv (Ϣ+1),bk:=D.nx },(by exists[k',b,un],Ds c Ϣ;exact ϣ),bS (aB (i:=Ϣ) fM.nd),ô (Ų n 0) Ϣ Ζ,∀ (w:XM) (h:Heap),YP w h->W.CodeHd h Ϣ ϣ/\Į h.get? ϣ (W.tabObj #[]),XX (z.1 Â Ϣ),(by have lim:s.heap.NoLimit:=e0.mod.nolimit.keeps λ b o e=>(e0.bs b o e).1),λ i:Nat=>V.int Ϣ,(n,NameKind.cell),(kvs.any (ÀF kv (kv.1=k))),[oc,od,kV,dc,pm,an,cd,ct,sl,rfl,Ϣ,c0],ks[Ϣ]'(by ext Âh hi hl.symm),∀(SQ:XY->Hp->XH->Ä V->Prop),0,∃Ϣ,Z=[Ö a,Ã (Í (É n)),Ö pd,ą int stp,Ö D,Ö x1,Ö x2,ϣ,Ö hf,Ϥ],(s.heap.push W.emptyDict).push (W.instObj C s.heap.objs.size),Ń kvs.length/\Âk a/\∃vs,KV kvs vs/\h.DictOf (bA P w) a vs,λ i Ϣ H' z=>XX ϣ,þ [nv,Ϣ,pv,h1,h2,h3,h4] x #[nv,Ϣ,pv,t Â h1,h2.ts' t,ϣ t,h4.ts t],∀{Q:XE}(hu:A.units+1<cLine),0,∀{YP:XM->Þ Heap}{d:DefRec},0,∀(K:XY)(a b:XH)(xs ys:Ä V),0,tw ["item",Ϣ,"place"],Eqo e Ϣ/\ϣ (·.1)=kC (L.zip W),∀(M:L3)(Âj W),0,#[Ϣ,dZ ì,Ú x ϣ h],KW lt (λ r=>r.1<=N/\1<=r.1/\Fx N r.2 r.1/\LS lt r.2 r.1),∀(r:KT H kvs xs)(k:Ä Key),0,Ϣ q loose XP YP l.row.toRowW d [] (λ f vs=>PySem.call f vs),∀(x:LowI P w H2 H D M kls),0,(·,N-(i+1),∅,Ì hlt),(ū (.n 40) ϊ),(·,·,(upd (ø l0 ń) D (odO P w D (kls++[(e,l0)]))),l0,(Õ [v])),∀(r9:Ŀ 1 "tells" ["clock","name"] spTells),0,(Ϣ b u e).stay ϣ (λ c q=>Ī (ne q) q) λ c ys q=>Ī (ne q) q,(·,·,(Ñ Òn Š),æ),æD (lin Áw (.c Ç) Ç (.h Áw (.c Ç) Ç .z) [_] Τ (ÉH Ϣ)),(by show Θ (Builtin.Dict.showsAll Ϣ >>= _) ϣ;unfold Builtin.Dict.showsAll),∀{ol:Ol}(t:Ter ol){n:Nm}{Ϣ:It},0,λ o=>{ cls:=o.cls,dict:=Ã Ϣ,data:=o.data,slots:=o.slots },(·,Ϣ,.type Ϣ,È true),(.lst (List.replicate (É n).toNat [V.int 0]).flatten),∀(hst:(assignEach es X.env).findIdx? (·.1)=none:=by rfl),0,SGZ X XU Z H1 m kS D e1 ks as,(.Ϣ (.c Ç) (.c Ê)),Clo n L λ i=>Ϣ ϣ i,PyProof.Rows.KTD.tabLook (pO K) (λ b=>K.lookup b) Ϣ ϣ=true,gC hd ns i j=true,(by refine#[_,_,c1,c4,c2,c2,? _];rw[c3]),(by ext ı Q;refine Ϣ ϣ;ext ÁV x),look Ϣ x=(look ol4 x).map (dG n m),(by ext Ãu hm;rcases hm with rfl|rfl|rfl),∀(Ϣ:Vals ys ϣ)(hz:Ń ys.length),0,(by .exists[m,h1,h2],hn;rw[hm'.eq_nsMap,<-h1.eq_nsMap];exact h2),(q_a (ħ 0) (Ğ 1)),(Ϣ+É ϣ).toNat,(by ext ÀD Ϣ PyData.depthAll;omega),thn (Úb _ r1 r2 q2) (Ú Ϣ s3 ⟨z,H3,I3,r3,k,e,q3⟩),(·,·,(Àb (ū (ã 1) .z)),æ),(Ϣ K a xs).stop k H,fun _ _ h g=>(congr (congrArg Ϣ h) g).trans (ϣ ..).symm,(·,·,(λ _ _ q=>Zd _ q),(Zf _)),ū (.n 400) .z,∀(ÓC xs.length)(Ϣ:ϣ K H0 a xs),0,upd (ø Ϣ (.xd [(f,y)])) a (ÎC a c Ϣ),(by wp_walk using wpAny_loadPart' hl,Xp hL;exact#[Å,h]),.inl (.inl Ϣ),(by ext ÁV vs;exists[a,xs,e,hx,q],q1;subst e;ext Çe ua ra r1),.h 1 true (.c Ç),∀{i:Nat}(hN:X.N.Nodup),0,Ϣ ol s ϣ->WordR ol s Ϥ ϥ,∀(Ãz n Nm u Nm)(pl:XQ),0,∀{ep:Nat}(x:DRaw Ϣ d es ep),0,s.heap.UpToSlots h'->fZ h' e dc->Q () (ů s h'),(Value.ref Ϣ::Á9 c_LimbError VE).contains (Ï ϣ)=false,(by rcases g with⟨kvs,k,e,ey,l⟩|⟨kvs,k,b,e,ey,eb,l⟩),sliceBounds none none (Ù c) its.toArray.size,.Return (Ù e) Ϣ,ha.h Ϣ ÂO I h,ć (.p Ç (ã Ϣ)),þ [σ2,H2,I8,q8] sp #[_,H2,I8.unexc I0.ok,q8],Room (k+Ϣ) X.A,(·,I.kIn Ϣ o hk,hc),(·,·,H1,(tb.kt sT),(tb.sT sT tab1)),(·,·,#[[u],[]],[(x,u)]),tw ["item"],(·,l,L,W,n,È Φ),∀(hm:ê X.mg "zip")(ha:Ϣ X [e1,e2] ta),0,(Ñ Ç (š 3 2) .z),#[Ú i e1 e2,λ z=>ih.2 λ i e=>z (i+1) e],(by show Çc [p,Ϣ,rfl,hq,q];cases rx),AN (λ n=>W.nsIn K mainGlobals n=Ã none),∃y ys,xs=y::ys/\Dt H d y/\DtAll H ds ys,(by exists Áz hi,dj hv;rw[Zs,Ze hi]at hkey;cases hkey),(·,·,(if Ő ol m then"done" else"none"),none,ol),(·,Ν h dx Ϣ eU,h,p,d,n,me,L),∀(B:↑Bx h),0,λ b o e=>(Ϣ b o e).1,(by obtain⟨⟨f0,f1,f2,f3,f4,f5⟩,lt⟩:=hex b hb),(·,·,(ÒX .z),ď),if Íq isEmpty then 0 else 1,(show É Ϣ≠0 by decide),(·,λ b Ϣ ϣ Ϥ _ _=>ϥ b Ϣ (Ϧ ϧ Ϥ) ϣ,λ b Ϣ ϣ Ϥ _ _=>#[Ϩ,ϥ b Ϣ (Ϧ ϧ Ϥ) ϣ]),(·,e3,at0,Ì _,rfl),∀(Ϣ:rh K ϣ)(Ϥ:Î0 ϣ (Value.ref c_LimbError::VE)),0,Ž [ia,ra,pa,za] S.I.tuple,þ [σ',H',I,q] h #[σ',H',I.unwish,q],Ã (exN Ϣ ϣ t none),(by have:=hp.size_eq;ext ÃT),∀(j:JoinR ol n m itn itm ol'),0,(λ Ϣ ϣ=>Ź Ϥ ϥ X.xe ϣ),ĵ Ê (ū Ê (Àb .z)) æ (Nat.le_of_eq Ϣ),(by refine ł;ext Áy),(slicePick its.toArray none none (Ù c)).Ϣ,IntList.dot (f Ϣ).coeffs ϣ,(x::y::r),#[v,H',J.os,J.bare,J.base,J.hok,rv,q],(·,·,(û hl),λ j v' e'=>hv (j+1) v' (û e')),ar aw (ÃW cH ↑Ϣ) (fe ϣ),l.rec (fun _=>Ϣ) fun ϣ _ Ϥ i=>i.rec ϥ fun i _=>Ϥ i,o.cls≠.type "tuple",λ x hx=>pe.mem_iff.mp (ZS.mp hx).1,HandAt CH CS Ϣ ϣ p2 d2 n m2 Ϥ,[Í (É hN),Æ q5,Æ wa],(by show iZ Φ Ϣ (ϡ bH r1);exact iW gd ϣ x1 λ e he=>h e Ϥ),0<=m.1/\m.1<Ϣ/\1<=m.2/\m.2<=am ϣ m.1.toNat,∀(Ϣ:K.lookup f=some #[oc,od,.func (ÉI ϣ Ϥ st ϥ Ϧ),ϧ])(æN Ϧ Ϥ Ϩ),0,(by ext Äb hm;.exact jP a0),(by repeat(any_goals(first|assumption|wp_step))),((ol.map kyP).map ZKey.nums).getD Ϣ [],Á2 X.A (f (İ i t) (İ j u)) Q E s,(iC λ zs e'=>by rw[Ϣ.1]at e';cases e'),ϔ (â Ç Ê (ū Ê (ć Ç (ÓP))) æ (Nat.le_of_eq x2.symm) (Nat.le_of_eq Ϣ)) (â Ç Ê (Ñ Ç (ÓP) (ū Š)) æ (Nat.le_of_eq x2) (Nat.le_of_eq ϣ)),#[λ i H=>À4 i/\Þh Ϣ,λ i H x H'=>∃T p q,á T/\À8 p/\Ý ys q/\x=Æ T/\H'=ø T (Ò [p,q]),λ i H=>i=xs.length/\Þh Ϣ],∀(hb:ÓR m q:=by(repeat intro _);rfl),0,∀(Ϣ:PyProof.Rows.KTD.datumAt ϣ ST=ϝ tw ws),0,∀(hok:HOk X.prog X.w H' Ϣ)(hg:AllBare ϣ),0,∀(hQ:∀h',Ïe Heap.ExtBut none),0,(by
 ext å c wd.mk true
 .rw[XC c]at Ϣ;ext χ Zg.mp Ϣ nw c
 .ext ώ XB c Ϣ),(by exact ÂY (Ų ÁM) Ć Ζ),Ą (É (Ϣ items.size 0 lo:Nat)==0&&É 1==1&&(Úf Ϣ)==items.size),(·,(by exact â Ç Èi Ϣ.1),(by exact â Éj (ć Ç ÎA) æ Ϣ.2.1),Ϣ.2.2.1),Ķ i h h' st,rs.map λ r:bu=>Ϣ,∀a ys rs H',ó->ĺ H' a ys->Ág Ϣ H' ys ϣ->Ì6 [] ds rs->Đ a H',(by have own:ú Builtin.Dict_items.ownsTuple "dict_itemiterator":=⋯),(·,Æ s.heap.objs.size,_,Âo I.laid (o:=Ϣ (ϣ Ϥ ϥ Ϧ)) (Àu ob q q) (Zf _) ? _,rfl),∀(hdf:d.params.defaults=[]),0,∀(F:ÃO Ϣ k C ϣ ps sp)(hr:Ç3 X.A),0,∀(ÊV PA e1)(n1:ú aQ e1),0,(∀ (Ŏ j w' Str),j<i->Ŗ ws w'->isI w'->Ŗ bs true),∀(j5:Ι 1 C "change" ÝI),0,λ Z H Q=>Ϣ Z H λ ϣ H1=>Ϥ Z H1 λ ϥ H2=>∃a Ϧ,Àh/\DGet H2 a y ϧ/\Q Ϩ H2,∀(hs:ËQ e none:=by rfl),0,∀(Ŧ sp Sp dvs V)(E:XK),0,(·,sz rfl,λ tr gtr=>#[rl,ÀW,af gtr ì hrl,bo ∅,? _]),Ϣ ws ϣ->isI ϣ->Ϣ bs true,∀(Ϣ:nsIn K mainGlobals x=Ê1 ϣ),0,ô đ Ć (Ĩ č Ç) [] Τ,(by ext å h g Ϣ;.have hb:Ą ϣ:=Ym.mpr h;simp only[List.lookup,hb,Ϥ ϥ]),#[λ ps e=>(by cases e),λ c e=>(by cases e)],(by have neL:∀ÏY,H b=Ã u->Â0 b:=fun{b u} e=>aq e I.free),IsItemIterOut Ϣ ÆY ÇA es[i].val s.heap.objs.size,RelO (fs.lookup f) (mA f),Ϣ X (.Assign [Âm f pos'] value pos) (ϣ X.K ta tv f),∀(nw:Ą wd.mk->ÁB n),0,∀(kvs:Ŋ κ V)(k:κ),0,∀{kvs:Ŋ κ V}{k:κ},0,0,0,0,0,0,0,0,0,0,0,0,0,0,0,0,0,0,0,0,0,0,0,0,0,0,0,0,0,0,0,0,0,0,0,0,0,0,0,0,0,0,0,0,0,0,0,0,0,0,0,0,0,0,0,0,0,0,0,0,0,0,0,(Ā W.methodObj f (Ï Ϣ)),#[Å,Æ Ϣ,Ôw "tuple",Ò e,ËV nofun,Å,aF ? _],(by have s1:=ZV s.heap Ϣ (Obj.mapSeq (ę (#[]:Array XJ)))),(by have e:i=Ϣ-1:=ϔ (â Ç Ê ÕE ϣ Ŝ) (Ád ϊ Ϥ);ext Ļ),#[ù _,(Ϣ.2 _ (ZD hi)).ts ϣ,λ Ϥ H'' s'' ϥ=>Ā Ϧ Ϥ H'' s'' ϧ],fun(x:ÃY)=>V.ref Ð.1,∀(x:LowAt P w Ϣ D M kls),0,∀(Ŏ i a XH) (k:XQ),0,∀(ŵ st Stmt)(t:TS),0,∀(p d:XH)(Â3 L L3),0,Room k (ær),(·,·,(Ĩ č Ç),[]),(y.2==NameKind.free),if v<0 then ÕB v n else min v.toNat n,(·,·,ÚZ,(hf.succ (Çs hN))),∀(hdef:ßM:=by rfl),0,nz nofun ? _,FM prog w A b ks vs (λ out=>æB),rn ol (L.map Prod.snd) t,#[ù Ϣ,XW ϣ,Ì _,Å,ë,? _],I1.laid (t':=s1.toks) (Àu Ϣ e e) (Zf _),(by unfold Ϣ;(try with_reducible (ext Ħ Z0));show í ϣ),(Æe "zip" [e1,e2] ÂB),Ël zs H3 zs.length (Ϣ H'),∀(ŵ scope Scope),0,(by constructor;.intro z;ext Ék z z1 z2 z2;exact Ϣ ϣ Ϥ),(Ϣ ϣ).get? s.heap.objs.size=Ϥ ϣ,λ _=>List.toArray (katRev b out),nd' Ϣ (by unfold odO;intro z;cases z),#[Æ Ϣ,ś H I,q Ϣ H (Same.refl H) ? _],ÛB (.h Áw Ç č (.h Áw đ ÂE)) [],Ã (Ò ([É i,bh d i].map V.int)),Ä7 Ϣ Íc (ι n 0 n 1),Ë4 2 1 .z,XC (show(Ã Ϣ).isSome=true from rfl),#[Ν p dx y1 di,ř e1 at1 Ϣ],#[ù t,XW Ϣ,Ì _,Å,Ł _ _,Å,Ì ? _],∀(È9 st Stmt TS),0,∀{kls:Ŋ OK1 XH},0,(dw env names acc).lookup x=Ã c,∀ i:Nat,Ý ws "new"->Ý bs true,(·,·,(by rw[Zx,hacc.1,hsz]),(Ú j v e')),bS (ÁX Ϣ (Àn ["name","item","by"])),∀(p:XR) (H2:Hp) (D:XH),0,(by exact kat_lt eoa da eob db Ϣ),(by show Õ5 Ϣ (ÁA ha v);ext ļ c q1 q1;cases r1),b∈X.ex\/ê X.s₀.heap.get? b,Î (if Ą b then"on" else"off"),Ã (odO P w Ϣ kls),(by unfold Ϣ;split;.rw[Za];exact lin ÒW Ć Ζ),upK m.2.up,Ϣ [oa,eoa,ca,ϣ,da] id pa [ob,eob,cb,Ϥ,db],ĩ Ϣ [l,xs,ds,rfl,hl,hd,l3,safe,q],(·,C,dx,Àw,s12 Â h1,X.cl,X.nD,kl Â),∀(k:∀b Ϣ,b≠ϣ->ÉJ Ϣ),0,aX AJ T (kE vI),{ D with nx:=u D },rule i j t t' s Â,â (.p (.p (.p Ç (ÉS Ϣ)) (.n ϣ)) đ),∀{n m:Nm}{i:β},0,(vC j4 (Ğ 1)),Ém D Z H (Ϣ st X.env) (SP X XU D),K.lookup f=Ã #[oc,od,.func fd,Ϣ],∀{J:It}(ş N n),0,∀(Î3 xs.length),0,(·,bG h1 Ϣ,by simp[PyData.canLayAll0,h2,ϣ]),(Bool.and_eq_true_iff.mp e).2,Ϣ X (.Attribute e f pos) (Mh ϣ ta f),Ą (kvs.any (ÀF kv (kv.1=k))),QE X (Æe "sorted" [e] ÎH pos),Builtin.«list.sort» #[ġ Ϣ,kw],(Ày Ϣ++".<locals>.")++"<lambda>",ko (cR n (vals Ϣ)) (nm3 Ð)=true,λ i _=>Int.le_trans (Ϣ i) (xK ϣ i),{ s with heap:=s.heap.push Ϣ,toks:=ϣ },(by unfold am;rw[List.getElem?_eq_none Ϣ];rfl),Fx N r.1 ĳ/\Dn lt r.1 ĳ ÃJ,∃k',OIs prog w s.heap k' v,(by ext ļ nv h1 hr;exact ÄD aY jS h1 Ϣ _ dM),Xd (eV n).2,(·,·,(ÃD ea),[oa,eo,ca,n1,da],id,pa),(λ i Ϣ H' z=>by rw[z.1];exact XX ϣ),λ Z H Q=>t Z H λ Ϣ H1=>ϣ Ϣ H1 Q,λ r s'=>r=Ϣ/\EP X XU Z Q r s',(by rintro i v Z H' hv ⟨X,Ϣ,rfl⟩ DL hDL),(by subst z;rw[Ϣ]at mu;exact mu),subscriptTail_builtinR (x:=Ϣ) ϣ Ϥ,(by obtain⟨⟨dx,h1⟩,h2,h3,h4⟩:=x),(·,·,4,"step",(spStepF C cN cB cF)),(Ú6 .z [_] θ),(by simp only[Zl]<;>omega),(by unfold Ϣ;rw[bq,XB ϣ,bq,XC rfl]),Κ->Ap ol (.Ϣ n ϣ) (ÆO Ϥ ϣ),(by intro _ _ _ y;cases y),#[dx,Ģ h1 λ ps z=>ÁF z],(·,·,æ,(Nat.le_of_eq lY),hz,(Æm)),(M.take i).filter (dL gs),(·,dx,Å,Ϣ Â ϣ,di Â,γ,d,g),(·,·,(Ø m' hm'),(ρ u e),I.bare),(ih (ν j hj Ϣ)),λ x y=>nm3 Ð≠nm3 y.2,λ i hi=>h (i+1) (û hi),its.toArray.size*k.toNat,λ z=>Ϣ (by injection z),[_,o,ho,_],I.laid (t':=tk) Ϣ,wpAny (model P w) Ϣ (ϣ (Ï it)),show Ãr _ h' _ Ϣ from ϣ,gP Ϣ (ÄD bG jd _ ϣ Ϥ jb),(by unfold Ϣ;rw[bq,XB h1,bq,XB h2]),(by rintro i zs H' v hv ⟨Ϣ,rfl⟩ Y hY),Çy (vals (dE n S (i+1))),(·,·,X,(Åb Mult)),(·,·,i,x,v,e1,e2,e3),(by exists[k,y],t x Ϣ ϣ;exact#[k,sF mono y]),(by
 .exact Α Ϣ
 .show ſ ϣ),λ z=>(hch _ z).2.1 rfl,(by ext ÛG h1 hs h2;refine Ϣ;rw[h1,h2];rfl),(by ext å hL b X.env.locals;show æl Ϣ),KIn n (λ r=>POk n r.2),#[_,e4,λ v z=>Ϝ d4 z],(·,·,"ready",ύ),(·,Å,l,ax L,aT L),(iC λ Ϣ ϣ=>by rw[Ϥ Â ϥ]at ϣ;cases ϣ),(λ z=>by ext ÉW Ϣ;ext Ţ z e1 ϣ),(Ϣ y (rd.sub y my)).same sm,(·,x2,p2,d2,y.1,n,n-1,Ýu X.a2),lin 1 true (.n 0) (.a 0) (.h 1 true (.n 0) (.a 0) .z) [] [_] (Eq.refl true) Ϣ,.Call (.Name x p) (e::es) [],Fun K Ϣ ϣ Ϥ,lin 1 false (.n 0) (.a 0),(tQ _ _ _ _ 0 (cO ra) (cO rb) (by rw[Zl,Zl,<-ra.length,<-rb.length,Za,Za]) hC),∀(vs:X1)(H:Hp)(Q:VK)(Ϣ:XK),0,.For tg iter body [] pos,(by exact add (af gtr _) ad er1 #[bb,rfl,af gtr Â _ hb2] _ hDL),(by refine(ř e1 at0 ? _);refine#[Å,ľ,aW ⋯ ? _];refine#[Å,ľ,aW ⋯ ? _];refine#[Å,ľ,aW ⋯ ? _];refine Ϣ),∀(hcd:(x==("__classdict__":Str))=false:=by decide),0,(by exact â (.n 1) Ç (Ñ (ã 1) Ç (Ñ (.n 1) Š)) [_,_] r1 h1),(by refine#[Å,Æ a,"tuple",.type "tuple",true,rfl,.tup e,fB (b:=true) ⋯ nofun,Å,aF ? _];refine Ϣ;refine ϣ),∀(CX:CXT)(P:XL)(w:XM)(K:XY)(mg:XF)(base:Heap),0,(by intro X eP ew eK hc i XU s Z H E I hf st hg),mX (N:=xs.length) (λ i=>(xs[i]?).getD .non) f hz Ϣ ϣ (λ i H x H' hi sm y=>#[y.1,? _]),(·,·,(#[rfl,⋯,⋯,rfl,trivial]:CompOk Â [] []),rfl),∀(h1:HandAt CH CS H h p d n me L) (h2:Tabs T R H),0,∀(Ϣ:↑Env0 A outer s H),0,W.nsIn K mainGlobals Ϣ=some ϣ,∀(hg:∀C s0 H0 ex,Ϣ (Ë2 s0 H0 ex) tg g)(gk:GK own.length g)(ht:∀C s0 H0 ex,ϣ (Ë2 s0 H0 ex) ifs tc)(he:∀C s0 H0 ex,Ϥ (Ë2 s0 H0 ex) elt te),0,(by exact Int.le_antisymm (ô (Ã3 (À9 0 (.c Ç))) Ê (ÿ (.c Ç) (.d (.d Ê Ç) (.n 1)) .z) [_] ď Á3 (Int.le_of_eq (Int.toNat_of_nonneg (ô (.n 0) (.d (.d Ç Ê) (.n 1)) (Ĩ (Ų a 1) Ç) [] ď Á3 c)))) (ô Ç (Ã3 (À9 1 (.c Ç))) (ÿ (.d (.d Ç Ê) (.n 1)) (.c Ç) .z) [_] ď Á3 (Int.self_le_toNat _))),(·,hn.same Ϣ,(by exact ϙ 500 (Ñ Ç Ê (Ñ Ê (.n ϣ) .z)) ď (Nat.le_of_eq lk) Ϥ),ϥ,Ϣ Â Ϧ,ϧ,show Ϩ+ϩ<=6 by decide,show 6<=100 by decide),(by refine YL (fm I hg hm Xf ? _);have h1:=aR (es:=[]) (env:=X.env) hn;refine PyProof.Rows.callWith_kw (thn (ha.h pos XU s Z H0 _ I h) (Ú us s1 hz9)) (he:=by rw[h1];rfl) (hplain:=by rw[h1];rfl) (hall:=rfl) (hkw:=rfl)),(by exists Ϣ,hs1;have e1:=XW (K:=K) hst;exists[it,hl],ZF.mp (i n (Ĉ Sd.items));exists[ia,uw,pw,c1,c2,c3,c4],ch (ia:=st) (xs:=[]) hl;show ÚB #[Å,ľ,aW ⋯ ? _];show æE ϣ),(by simp only[raiseNew];show í (wpAny_handled ? _);rw[show A.in1.handled=none from hh];show í (Zb (wpAny_throw ? _));show í (Xn (T:="StopIteration") (b:=true) #[_,Zj _ rfl,rfl] isSubtype_stop ? _);exact Zb (hQ _ (((ZV ..).extBut.push _).push _))),Ϣ XU s0 H0 Z D ea t ϣ B H' dc _ I0 Ϥ ϥ Ϧ,fun(z:b=a)=>Ϣ ϣ (by rw[<-z];exact e),∀(kV doc pm:XJ) (an:Option XH) (cdv ct:XJ),0,(by unfold Builtin.SmallTypes.nextOf;show í (ZT (name:=Str.ofString "__next__") Ϣ ϣ (ZN ϣ Ϣ Ϥ ? _ (ϥ _)));show ÀA (field (Ï it) 0 >>= _) s),∀(hch:∀b∈ch,cE X XU H b)(k:∀b u,b≠X.env.locals->b∉ch->Ġ b u->h'.get? b=Ã u)(hn:∃m,s.heap.Ns X.env.locals m/\h'.Ns X.env.locals m),0,∀(hm:ê X.mg x)(hv:bootBuiltins x=ą Ϣ ϣ),0,(by first|show í (Ϣ hit.typeIs (Zb ? _))|show í (ϣ hit.typeIs (Zb ? _))),(by exact â (.p (ã 0) Ê) (.a 2) (ć (.p Ç (ã 1)) (.a 2)) æ hN),∀{items:Array XJ}{lo hi:Option Int}{Q:XE}(ht:IsTup s.heap t items)(hs:s.heap.IsSliceOf sl vl vu .none)(pl:IsPart vl lo)(pu:IsPart vu hi),0,ho XU s2 Z H2 x y v u Ϣ I2 ϣ,∀{Q:Unit->Þ XI}(kb:base.StaysIn s.heap)(ff:s.heap.FunFrames base l)(tr:s.heap.TracedAtW base e cls a0 fl)(dd:fZ s.heap e dc),0,ϙ Ϣ (Ñ Ç Ê (Ñ Ê (.n ϣ) .z)) ď (Nat.le_of_eq Ϥ),(by exact ĵ Ê (Àb (Ñ (ã 3) Ê (ū (.a 3) .z))) [_,_,_,_] hj Ϣ (Nat.min_le_left Â)),Ϣ items.size items.size hi-Ϣ items.size 0 lo,ĵ Ê (Àb (ū Š)) æ,∀(hyc:X.env.scope.names.lookup y=some .cell)(hcy:X.env.cells.lookup y=Ã Ϣ),0,∀(d1:Draws prog w A i f n P1 S1)(d2:Draws prog w A j g m P2 S2)(ap:ZAp z u v i j f g)(hz:IsZip s.heap z u v .none),0,(by ext Òc Ϣ;show ÀA (field (Ï it) 1 >>= _) s;show í (ZY ϣ Ϥ (x:=İ ϥ 0) rfl ? _);show ÀA (seqItems? (Ï Ϣ) >>= _) s;show í (Y3 Ϧ ϧ ? _)),(by exact ϙ Ϣ (Ñ Ç Ê (Ñ Ê (.a 2) (ū (.n 40) .z))) æ lM (Nat.le_of_eq lS) lH),(by show ÀA (field (Ï z) 2 >>= _) _;show í (ZY hz rfl (x:=.bool false) rfl ? _);show ÀA (field (Ï z) 3 >>= _) _;show í (ZY hz rfl (x:=Æ u) rfl (z9 (Y3 hu rfl ? _)));show ÀA (Builtin.SmallTypes.ownedTupleIsFree (Ï z) >>= _) _;show í ? _;unfold Builtin.SmallTypes.ownedTupleIsFree;show í (ZY hz rfl (x:=.none) rfl (Zb ? _))),(ks.map ZKey.nums).getD Ϣ [],∀{g:TG}{tc:TT}{te:TE}{Q:VK}(Pv:Nat->Ä V->Þ Hp)(hz:kvs.length<=1000)(hn:∀i ys H,Pv i ys H->ys.length<=i),0,((s.heap.push (ÁR c l1)).push (ÁR c l2)).push { cls:=.type "tuple",data:=.seq (List.toArray [Æ s.heap.objs.size,.ref (s.heap.push (ÁR c l1)).objs.size]) },(by simp only[if_true];show í (YV (z9 (ZY hz rfl (x:=Æ v) rfl ? _)));refine z9 (YE hz Û (Ú q1 z1 b1));replace z1:IsZip q1 z u v .ellipsis:=z1;show í ? _;simp only[List.zipIdx_cons,List.zipIdx_nil,List.forIn_cons,List.forIn_nil];show í (z9 (wpAny_onRaise ? _));show ÀA (Builtin.SmallTypes.nextOf (Ï i) >>= _) _),λ d:D3=>decide (d.1=j),(·,Ϣ Â ϣ,ad,show Ϥ+1<=6 by decide,show 6<=100 by decide),ϙ Ϣ (Ñ Ç Ê (Ñ Ê (.n Ϣ) .z)) ď,∀(ha:QE X a ta)(hb:QE X b tb)(hm:behindInMarks op b=false:=by first|exact IT _|with_unfolding_all rfl),0,GH PySem.F.plainAttrs_list Ϣ ϣ Ϥ ho.h (pa he.h wj hs) hbase ? _ hline h1 (by rw[h2];rfl),lin Ë3 Ć Ê (ÿ ÅK Ç (ÿ Ç (.c Ê) .z)) ď [_] Á3 Ϣ (Int.le_of_eq hn'.symm),lin 0 ÆH (.n 0) (.h Áw ÅK (.n 0) .z) [_] θ,(by have nrec:∀b o,Ġ b o->(∀ws,o.data≠.fields ws)->b≠Ϣ:=λ b o q hn z=>by subst z;cases Zt (ϣ q);exact hn Ϥ ϥ),(((s1.heap.push oa).push ob).push ou).Ϣ,Dt.reads I.hok _ (Ï Ϣ) (Ï Ϣ) (gj ϣ),lin 0 ÆH (.n 0) Ϣ [],ô ÅK (.c Ê),∀(hg:Ϣ X tg g)(hs:swapsWithSole [tg] e pos.line X.env=pure false:=by rfl),0,((bp ds).map nmD).any (λ d=>PyData.eqv d (nmD (dd.1.1,k))),∀{t:TE}(h:PC X op a b t)(h1:behindInMarks op b=false:=by first|exact nobehind _ ⋯ ⋯|rfl),0,∀(dx dy:_) (h0:Dt H dx x) (h1:Dt H dy y) (h2:SeqAt.shaped dx=true) (h3:SeqAt.shaped dy=true),0,(by exact call_list_seq p Ϣ ho hc hd (λ h' c' kp e=>fin its r' hz h' c' kp e) (by simp only[Zl]<;>omega)),∀(g:Þ Nm)(nr hs:Int),0,∀(hn:h.Ns N mN)(hi:mN "__init__" = Ö fI)(hfI:h.get? fI=Ã oI)(hfc:oI.cls=.type "function"),0,∀(pa:PlainAttrs T)(slot:Slot T name id),0,∀(hu2:A.units<cLine)(Ϣ:OIs prog w s.heap ϣ Ϥ),0,lin 0 ÆH (.n 0),∀(he:e=x\/H e=ą own x)(k:∀b u,b≠e->ÀC h.get? u h'.get?)(heo:∃u,h'.get? e=Ã u),0,((aT L).map Prod.fst).Nodup,some { cls:=.type Ϣ,dict:=ϣ,data:=.seq Ϥ ϥ,slots:=Ϧ },∀(hz:N<=1000)(hgo:∀i H,i<N->Same H0 H->J.go i H)(hst:∀H,Same H0 H->J.stop N H),0,(by have Ϣ:=aR (es:=[]) (env:=X.env) ϣ;have Ϥ:starEach ([]:Ä XT) X.env=[]:=rfl),Ϣ ϣ=true/\PyData.eqv ϣ Ϥ=true,(by have h1:=aR (es:=[f]) (env:=X.env) hs1),∀{w:Str} {so:Option Sd},0,∀(ex:o.ExactDict)(ho:Ġ d o),0,(by exact Ϣ (bf I q Û)),â (.n 2) Ç (ć (.n 2) Ç) [_],(by have hi:i<es.size:=(by exact ĵ Ê (ū Ê (Àb .z)) æ (Nat.le_of_eq hl) hx)),(·,D,M,W,n,Å,lr,RK.tk),show Ãr H1 s1.heap a (.dT kvs)from I1.hok a _ hq,∀(hgo:∀i ys H,i<N->Pv i ys H->J.go i H)(hst:∀ys H,Pv N ys H->J.stop N H),0,#[p,d,g,ia,va,kvs,gvs,nv,nk n,Ϣ,_,ϣ,rfl,S1.same s2,ÚO s2 63 l3 c1 c2 e2 Ϣ Ϥ,λ t H3 s3 e3=>q' nofun Â (But.put (s1.trans (s2.trans s3)) _) ϥ Ϧ],(by exact ĵ Ê (Àb (ū æH)) Ŭ hi h5 h2),(by unfold pyNext;show í (Y0 (Çf ty YG (ZN YG ty PySem.F.entry_dict_itemiterator_next ? _ (PySem.F.args_dict_itemiterator_next_1 _))));show í (Zb (z9 (z9 (z9 (Xg ty (Zb (z9 (wpAny_fieldsOf hit rfl ? _))))))));ext ÀD own if_true;ext Òc d;show í (Zb (z9 (Yj hod hdd ? _)));rw[XB Û];show Òo (Zb (z9 (Yw hod hdd ? _))) Ϣ ϣ Ϥ ϥ),(by ext ÛG h2 hs2 h3;ext ı Q;refine wpAny_Call_method hbase (by rw[h1,h2,h3];rfl) hline PySem.F.plainAttrs_dict Ϣ ϣ (ÁA ho.h u);show ÅR [x,H1,I1,rx,a,ex,d,q1] u;exists[t1,t2],sP I1 d;refine#[t1,t2,? _];have ht:backTo cpos (starEach [e,f] X.env)=[(false,eval e X.env),(false,eval f X.env)]:=by rw[h1,h2,h3];rfl),(by show Àc [p,xs,dx,ds,rfl,hq,h1,h2,s1,s2,q];cases ry;exists[its,r,pl,hz],I.list hq;refine Ϣ (lN s.heap dx) pl.isList (λ w hw=>zd I hu h1 rx h2 r s1 s2 w (û hw)) #[.bl _,H,I,Ì ? _];rw[show its.toArray.any (lN s.heap dx)=its.any (lN s.heap dx) by simp,(kW I.hok h2 r s2 dx).1];exact q),∀(params:Arguments)(body:XT)(scope:Scope)(cl:ő XH)(Ϣ:ϣ)(Ϥ:XH)(ϥ:ϣ),0,(by show ÂR (Zb ? _) ? _;show æI (Ϣ hit.typeIs (Zb ? _)) (ϣ hit.typeIs (Zb ? _)) Ϥ;rw[XB Û];ext Ãa Zb),(by
 show Çc [p,bs,rfl,hq,q]
 cases rx
 exists[its,rv,pl,hz],I.list hq
 have hl:=pl.isList
 have hlt:p<s.heap.objs.size:=by show Åa [_,e,_] hl
 have hh:=I.ok.hd hc
 have hlen:bs.length=its.length:=by rw[<-rv.length,Za]
 refine Ϣ (wpAny_pyIter_list hl ? _)),∃dd cd k0 k1 k2 k3 k5 bm,Į K.lookup C #[.type "type",dd,.cls cd,(List.toArray [k0,k1,k2,k3,ą builtin "ValueError.__new__",k5])]/\cd.mro=Á9 C bm/\cd.hasDel=false/\tailIn K VE bm=true/\nsOkIn K cd.ns=true/\nsIn K cd.ns "__init__" = Ϣ ϣ,(by refine wpAny_newFunctionEnv_cells S.kind hkind (Č env he s1 x);subst he;refine Ϣ;exists[t,ht,hq],hbody A outer s H vs Q E (hr.deeper _) hsp;have I:Inv ϣ [] (start N vs) H s1:=zi S hr.hd e0 hl r x;refine Z4 (ht [] s1 (start N vs) H _ I hq) Ϥ λ e s' hs=>hs),(by exists[o,eo,ec,ed],id q.1;exists[p,ep,_,np,edp],id q.2;have ty:=q.1.typeIs;ext ÚV ty F.slot_tuple_iterator_next F.entry_tuple_iterator_next F.args_tuple_iterator_next_1;show í (ZY eo ed (x:=Æ t) rfl ? _);ext Új t eo ed Ϣ ep edp;ext ÀD ZP ei),ŕ I.step g' s.gens d' s.drawn (ch:=Ϣ) ϣ Ϥ ϥ Ϧ ϧ,#[Å,p,dx,Å,y1,di Â,ř e1 at1 #[Å,dd,Ϣ,FC,_,î,TF,rfl,? _]],∀(p xs i v:_) (h0:x=Æ p) (h1:y=Í i) (h2:Ϣ K H p xs) (h3:atI xs i=Ã v) (h4:Q v H),0,(λ _ _ _ _=>Λ je (n:=Ϣ) rfl rfl ϣ),(by intro x dx nx ndx nex;refine#[x,dx,Ì ad,λ d g H4 fd0 fg0 S4 kp4=>#[Ì ? _]];have s34:Same Ϣ H4:=λ b o e=>kp4 b o (by rw[ah (aq e nx),ah (aq e ndx)];exact e) (aq e nx);have s00:Same Ϣ ϣ:=λ b o e=>by rw[ah (aq e nx),ah (aq e ndx)];exact e),(by show Àp [dd,cd,k0,k1,k2,k3,k5,bm',ho,hm,nd,ht,ok,ni] q.isIn [c9,d9,cd9,sl9,l9,m9] q.mro;have z:=ho.symm.trans l9;cases z;ext è hm m9 m9;exists[nm,bs,mro,ns,qn,hd,sn,sub,ab,col,del],cd;dsimp only at hm nd ok ni;cases hm;cases nd),æG (ksk_s1 Â) (λ x=>ksk_l1 Â) (λ x=>ksk_t1 f x) Ϣ (λ i v key H' g1 g2 g3 R hR=>#[g3 Â hf,g3 Â hc',spec i v key H' g1 g2 (sT.trans (.of g3)) R hR]) λ p H3 D a1 a2 a3 a4=>q p H3 D a1 a2 (sT.trans (.of a3)) ? _ a4,ŕ I.step g' s.gens d' s.drawn (ch:=ch) (λ b hb=>#[(hch b hb).2.2.2.1,(hch b hb).2.1,(hch b hb).2.2.2.2.1,(hch b hb).2.2.2.2.2]) (λ b o hL _ hc e _=>k b o hL hc e) (λ b o hL _ hc e _=>#[o.slots,k b o hL hc e]),(by have b1:But d H (upd H1 d (.dT (bC kvs (nk n) (Ï t)))):=But.put s01 _;generalize upd H1 d (.dT (bC kvs (nk n) (Ï t)))=H2 at O1 b1 ⊢;have t2:=b1.ts h2;exists[kvs2,gvs2,S2,R2],id O1;obtain⟨⟨dx2,y1⟩,y2,y3,y4⟩:=id S2),(X.mg "__name__").getD .none,ŕ I.step g' s.gens d' s.drawn (ch:=Ϣ) ϣ Ϥ ϥ Ϧ,∀(j2:∀x,¬nk x∈ks.take i->look ol' x=look ol4 x)(hc:look ol' c=Ã it),0,∀(hC:s.heap.objs.size<=C)(hex:∀b∈ex,cE X XU H b/\b<s.heap.objs.size),0,(by exists[o,ho,hc,hd],id hit;exists[ol,g1,_,nl,g2],hl;ext ÚV hit.typeIs Y9 PySem.F.entry_tuple_iterator_next PySem.F.args_tuple_iterator_next_1;show í (ZY ho hd (x:=Æ l) rfl ? _);ext Új l ho hd i g1 g2;ext ÀD ZP hx),∀(X:K.In s.heap)(I:ObjM s.heap x dx C mA)(hg:W.plainGet K C name=true),0,∀(hit:IsItemIter s.heap it d Ϣ es.size ep k0 v0),0,(by ext ÅL;obtain⟨⟨old,e1⟩,e4⟩:=st;exists[Ϣ,hx],hg;exists[its,rx,px,zx],ϣ hx),#[s1.heap.objs.size+1,[s1.heap.objs.size+1,s1.heap.objs.size],Ϣ (s1.heap.objs.size+1) s1.heap.objs.size a,_,H1,rfl,I1.kept (t':=s1.toks) hk,ϣ (Nat.succ_ne_self _) #[Yf (Xw la),Yf la],#[#[_,he],hl],Ø c hc,q],λ i Ϣ k h1 h2=>ϣ i Ϣ k h1 (by rw[Nat.zero_add]at h2;exact h2),(by intro value slice XU s Z H x y v u Q I rx ry h hs;exists[p,xs,i,z,rfl,rfl,hq,he,q],h;cases rx;ext ĭ t ry;show Ž [its,r,pl,hz] Ϣ hq [j,h1,h2,h3,h4,h5] xt he;exists[w,ew,rw'],r.get h2;have hl:=r.length;have hn:=rG),[Í (É k),Í (am cs k)],(by exact â Ϣ (.n 400) (ć (.p Ç (.m 5 (ã 1))) (.n 400)) ď h2),(λ _ _ _ _ _=>ht _),(by ext ÅL;exists[xs,x,hq,hx],hg;show Ž [its,rv,p,hz] Ϣ hq [u,hu,ru] rv.get hx;ext Åc Û;refine ϣ st Ϥ (x:=u) (û hu) (Ú h' st' sb);have I1:ï H (ů s h'):=Íh I.turned s.toks f4 f5;exists[o,e,c,d],id st';exact ϥ),t { nx:=λ _ H'=>Q .non H',rt:=Q } (start N vs) H,(by
 refine BA (xs:=ns.map V.int) (λ _=>.bl true) (Ż Za) (XW e) (λ i x H1 hi sm R k=>? _) (Č p H1 sm hp)
 .exists[n,hm,rfl],Zw.mp (ZG hi);exact Ϣ
 .refine#[ù p,XX (by rw[ad,qv]),? _];rw[pZ];exact q _ (ÄZ hp)),(by refine#["dict",Ϣ,PySem.F.plainAttrs_dict,ϣ,Ϥ,t1,t2,Y5 rfl (PySem.evalArgs_none ? _)];refine ZN ϣ t1 ϥ ? _ (Ϧ _);show í ? _;show ξ Builtin.Dict.noArgs (Xb t1 ? _);show Θ (pure a) s1),q' nofun Â ((But.of s1).trans b2),∀(Úh cy)(hcl:closureFor scope X.env=pure [(y,cy)])(hbd:∀(pm ct:XJ) (c':XH) (s:XI) (u:XJ),BindsTo s (qt Á6 params body scope [(y,cy)] pm c' ct) #[[u],[]] [(x,u)]:=by intros;exact .of_eq rfl),0,∀(h:∀u pl tx,wd≠.put u pl tx)(h2:∀n a pl,wd≠.part n a pl),0,(by subst ey;ext Äf b ry;exists[z,hd,xs,rel,dd],jQ I.hok e;refine Ϣ (tupleKind_room_in1 hu) (jX I.hok eb) hd dd ? _;have q:=(rel.val k).isSome_eq;rw[Option.isSome_map]at q;rw[<-q,<-l];exact h _ (I.tok _)),assign (.Subscript o i pos),(by have I1:ï H (ů s h'):=Íh I.turned s.toks f4 f5;exists[Ϣ,e,c,d],id st'),λ i s Q E hi st hQ=>Ϣ st.1 st.2 hi λ h' hit' hs'=>hQ _ h' s.toks #[es[i],Ĉ hi,rfl] #[hit',st.2.at' λ o e=>hs'.extBut d o hne e] λ b o hb e=>hs'.extBut b o (λ h=>hb (Ĉ h)) e,∀(ho:QE X o td)(he:QE X e ty)(hf:QE X f tx)(ÃU hs1 e)(ÃU hs2 f),0,(by exists[q,q1,q2],hB _ z;ext è Ϣ q1 q1),Ñ (.p (.p (.p Ç (.m Ϣ (.a 3))) (.n ϣ)) đ),(·,none,ol,Ϣ (af gu _),af gu ì (ϣ Â hto),prs (Ϥ (af gu _)),O.same (Ϥ (af gu _)),sf.1 (.ϥ Ϧ),È ad),(by refine wpAny_pyIter_slot hv.typeIs Ϣ (ZN Ϣ hv.typeIs ϣ ? _ (Ϥ _));show ξ ϥ (Zb (z9 ? _));show ξ Builtin.Dict_items.dictOf (ZY Ϧ ϧ (x:=Æ d) rfl (Zb (z9 ? _)))),∀{g:Þ Nm}(p:NmsAt H xs ns)(hg:∀n∈ns,g n){i:Int}(h0:0<=i),0,(by
 simp only[sliceBounds,HT.sIx,Option.getD_none,show É 1>0 by decide,if_true]
 by_cases h:i<0
 .simp only[h,if_true]<;>exact HT.lz4 Â h
 .simp only[h,Y4]<;>exact HT.lz3 Â h),(by unfold bH;refine Zn (List.length_filterMap_le Â) ? _;have h1:=ZZ List.length (T.words rs run).2;have h2:=T.len;rw[Za,Za]at h1;unfold aT at h1;rw[Za]at h1;show Íy h2 (Nat.le_of_eq h1)),∀{pl:Sem Bool}(he:PE X o ta)(c:Cls X.K C)(hm:Meth X.K C m f),0,(by ext ÉP s;exists[t1,t2,h],h;have hsub:=sub_zip;have T1:Ϣ (Shared.heap #[hp,g,d,tk,os]) l1 xs:=t1;have T2:Ϣ ϣ l2 ys:=Ϥ t2 _;wp_walk using ϥ T1,ϥ T2;exact#[Å,h]),ŕ PySem.seqSlot_of T "tuple" name Ϣ (id:=ϣ) Ϥ,(by exists[t,e],(show∃t,u=Ϣ ϣ t from r)),∀{xs:X1}{Ϣ:ϣ}(Íd tb Lake.TS D Ends hl SqL),0,(by exists[zs,H2,I2,rz,f,e1,mk],hz9;subst e1;ext Çe u ru rz;exists[c',ct,sT,lt,hf,hc',nf,nc],mk),∀(hg:Gl X "enumerate":=by rfl)(ÃU n1 e1),0,∀(ËU A XN s XI)(κ:SortKind)(it:Array Keyed)(lt:XS)(N:Nat),0,(kS,seqObj "list" Ϣ ϣ),(Ϣ d (.str x tx) >>= _),∀(F:ExcBaseFacts B newId initId bmB)(T:OwnTail h bmB bm),0,∀(ck:CK H' cA n as cl) (lr:LR3 H' p L) (nr:NR H' n pn M),0,∀(q:∀D H',SameT T H H'->LTb T H'->H' D=Ã ń->Đ D H'),0,(·,s1.heap.objs.size,[s1.heap.objs.size],_,_),(by show Àc [dx,dy,h1,h2,s1,s2,q];exists[as,r1],Dt.reads I.hok dx x v h1 rx;exists[bs,r2],Dt.reads I.hok dy y u h2 ry;exact Ϣ r1 r2 s1 s2 hu #[.bl _,H,I,Ì q]),∀{kt:Nat}(hg:Gl X "enumerate")(hm:ê X.mg "enumerate"),0,(by ext ı R;refine Call_ Ϣ;ext ÁV vs;exists ϣ,q1;subst e),(by exact ϙ 400 (Ñ (.p Ç (ÉS 5)) (.n 400) .z) ď h2),∀{base h:Heap}(e:h.get? Ϣ=ò)(hL:Ϣ≠L)(hb:ê base.get? Ϣ),0,scope.names.lookup y.1=some .local\/(scope.names.lookup y.1=some .cell/\((cellsFrom (s.heap.objs.size+1) scope.names []).lookup y.1).isSome=true),∀(d7:Ŀ 2 "is_whole" ["thing","low"] pK)(a8:Ē "isinstance"),0,(by ext ı Q;refine YL (jE I hg hm ? _ hdb);refine W.callWith_K (h₀:=X.base) I.ok.mod.kin Ϣ (thn (ha pos ÂO I h) λ us s1 ⟨vs,H1,I1,r,q⟩=>#[I1.kIn,? _]) he hpl),(show its.toArray.any (eqU x)=its.any (eqU x) by simp),(by
 refine#[.tuple (Î wd.word::ds),gP Ϣ (bG (jd _) i1),dS Ĳ,? _]
 .simp[PyData.canLay0,PyData.canLayAll0,yR wd,i2]
 .ext ÀD PyData.depth PyData.depthAll;omega),∀(hg:Gl X x)(hm:ê X.mg x)(hv:bootBuiltins x=Ã u)(Ϣ:ϣ Ϥ ϥ)(Òp hd),0,(by ext ı Q;refine YL (fm I hg hm hv ? _ hn hdb);exact Ϣ (thn (ha pos ÂO I h) λ us s1 ⟨vs,H1,I1,r1,q1⟩=>hc XU s1 Z H1 vs us Q I1 r1 q1) he hpl),(by exists[its,r,ht,hz],Ϣ hx;have hlen:=r.length),(by have e5:=Λ XW h5;refine(ř (XW h2) at2 ? _)),∀(P:XH)(q:Str)(lpos:Pos)(Ϣ:ϣ),0,(by
 have lx:its.toArray.size=xs.length:=by rw[Zl,<-rx.length]
 have hh:=I.ok.hd hc),∀(hY:∀ (w:XM) (h:Heap),YP w h->(K w.params).In h),0,∀{dd:XH}(k9:mg "DEED_PARTS" = Ö dd)(T:Tab K dd DT),0,∀(h0:x=Æ a) (h1:y=Æ b) (ha:SqL K H a xs),0,["enumerate","zip","dict_itemiterator","dict_reverseitemiterator","odict_iterator","itertools.zip_longest","itertools.pairwise"].contains n,(by intro XU s Z H Q I hq;refine Ϣ (thn (h pos ÂO I hq) λ us s1 ⟨xs,H1,I1,r,z,q⟩=>#[Àq r.length z,? _]);have hf:ê H1 s1.heap.objs.size:=I1.hok.fresh (Zf _)),(by intro value slice XU s Z H x y v u Q I rx ry h hs;exists Ϣ,h),∀(hu:IsPair s.heap u (Ï i) (Ï j))(hv:IsPair s.heap v a b),0,List.foldl (λ x1 x2=>x1++x2),(by exact I2.fpOk (Zf _) (I2.hok.fresh (Zf _))),(by ext ı Q;refine ÂL hi λ iv s1 ⟨y,H1,I1,ry,q1⟩=>thn (ÆM ho _) (ο u s2);show ÅR [x,H2,I2,rx,a,ov,ex,g,q2] u;exact Ϣ hu I2 g ry λ s3 I3=>ϣ),(·,·,(ksk_s1 Â),(λ x=>ksk_l1 Â),(λ x=>ksk_t1 f x)),(·,·,d,(.dT (bC kvs2 (nk m) (Ï t')))),#[ok.mod,ok.kind,ok.glob,ok.blt,ok.above,ok.inj,ok.has,ok.cab,ok.hd,ok.frames,ok.stk,ok.exf,ok.bs,ok.bsz,ok.noex,ok.exfs,ok.funs,ok.frf],∀(hp:Ä0 PassesOwn X.A X.env X.xe)(hc:Ϣ X c tc)(hb:ϣ X body Ϥ),0,#[Í ys.length,H,I.tok _,#[s.toks+1,by rw[Zl,hlen]],q],(by simp at h1 h2;subst h1;subst h2;show Ϣ kindOf ((p,w)::P.zip vs) m p=_;unfold Ϣ;rw[ϣ λ v hv=>(Ya.mp nd).1 (List.of_mem_zip hv).1,Ϥ hk];simp),(λ h X=>by exists[nm,qn,N,bs,hdct,sn,sub,ab,col,dd,k0,k1,k2,k3,k5,mN,e,_],Ϣ q X;exact#[nm,qn,N,bs,hdct,sn,sub,ab,col,dd,k0,k1,k2,k3,k5,_,e]),∀{kt:Nat}{e it a:XH}(ne:e≠it)(ha:e≠a/\it≠a),0,∀Ϣ s',ï H s'->RelV v Ϣ->Q Ϣ s',(λ c o hc Ϣ=>by simp only[Zi,ZB,y8,not_or]at hc;exact sb.extBut c o hc.1 ϣ),.Constant .none j,∀(I d:XH)(hne:d≠I)(es:Array DictEntry)(ep:Nat),0,(.dT (bC kvs (nk n) (Ï t))),∀(h3:AllR L M) (h4:Ϛ c cs.map) (h5:cs.length=n),0,Ž [its,r1,p1,_] Ϣ ha [its2,r2,p2,_] Ϣ hb,iS (aO (ds.take i)) d,(·,[s.heap.objs.size,p],[s.heap.objs.size],its.toArray.size,_,_,λ i=>(bs[i]?).getD Ϣ,rfl,Walks.list (A:=X.A.in1) hh _ p (Zz hlt) its.toArray),ŝ (Ñ Òn Š) æ,∀(hps:items.toList=ps.map λ p=>Value.ref p.1),0,∀{g:TG}{tc:TT}{te:TE}{Q:VK}(Pv:Nat->X1->Þ Hp)(æM Ϣ),0,(by .refine#[ù p,XX (by rw[ad,qv]),? _];rw[pZ];exact q _ Ϣ),(·,Around.frames_deeper e0.frames,.inr #[î],λ b z=>absurd z (noA b),e0.bs,e0.bsz,λ b _ _=>noA b,λ b z=>absurd z (noA b),e0.funs),(·,·,["self","name","first","values"],(spChange C)),∀(a:XH) (nv:V) (h0:v=Æ a),0,(backTo cpos Ϣ).all (λ x=>! x.1)&&(ÓK cpos).all (λ x=>x.1.isSome),λ b o q=>(oth b λ z=>Ş ((z▸q).symm.trans nT)).trans (Ϣ b o q),base.Ns mainGlobals mg->Blt base mg->W.CodeHd base c1 T1->W.CodeHd base c2 T2->W.CodeHd base c3 T3->Î8 l.prog Ϣ 14 fa ["_law_script"] ϣ,(.Slice lo hi none p2),(by show ÀA (Builtin.Tuple.tupleItemsOf (Ï t) >>= _) s;show ÂR (tupleItemsOf_ ht ? _) (wpAny_typeOf hTs ? _);rw[XC ⋯];show í (Ϣ hs pl pu ? _)),þ [ps',e1,e2,e3] lt #[ps',a3 Â e1,e2,e3.imp id fun⟨c'',z1,z2⟩=>#[c'',z1,a3 Â z2]],ć (.p Ç (ã Ϣ)) (.a ϣ),(asks M[k].2).getD j 0,∀(hty:typeOf (.builtin id)=pure (.type "method_descriptor"))(hm:MtR X id r),0,(by rw[XC (by simp[jF,h3])];show í (Yw D.ho D.hd (z9 (ER hu (D.his x (ZG h1)) hkey (z9 (Yw D.ho D.hd ? _)))));rw[XB Û];by_cases e:x.1=k),(by have Ϣ:=Yb ϣ Ϥ;have ϥ:=Yd ϣ Ϧ),∀(hg:Gl X "zip":=by rfl)(ÃU n1 e1)(ÃU n2 e2),0,Ϣ∈X.ex\/X.s₀.heap.objs.size<=Ϣ,Zq0.dr (A:=X.A.in1) hh i2 b a2.2.symm jts.toArray,(by rw[aH]at pok ls;exists[pe,ee],EW pok;rw[ee];have so:=(oQ (f:=Prod.snd) (z:=((0,0,[],.none):XH×D3)) pok (by rw[ZX]at ls;exact ls)).1),(by show ĩ Ϣ [p,d,n,L,rfl,S,tab,q];obtain⟨⟨dx,h1⟩,h2,_⟩:=id S;have h3:=S.dr;have h4:=S.un;have h5:=S.n1;have h6:=S.n8;have h7:=S.len),∀(h0:x=Í i) (h1:y=Í j),0,#[(List.toArray [(atI eT.cps.toList (ix i%39)).getD 0])],(by simp only[ZH,Xh,Bool.not_eq_true',decide_eq_false_iff_not]at Ϣ),∀(Âj N)(qual:Str)(scope:Scope)(f:XH)(cd:XJ),0,((ba (cM M M.length)).map (·.2)),(·,·,(vals (cM M k)),M[k].2),Ϣ (j:=ϣ) rfl c8 rfl C B,(·,·,ËH,(wS (tOp r ta tb))),∀(hm:behindInMarks op b=false),0,(by refine#[p,d,g,ia,va,kvs,gvs,Æ nb,nk n,2,_,Å,S.same wv,ÚO wv 400 l4 e1 e2 ad 2 1,Č t H1 s1 e5];have s01:Same H H1:=wv.trans s1),(by refine Ϣ (eqU x) ϣ (λ w hw=>uC rx fx r fs w (û hw)) #[.bl _,H,I,Ì ? _]),(ÀF kv (kv.1=k)),(by .rintro zs b H' ⟨sm,lz,pz⟩ gb;rw[(ZC pr),ZO]at pz;exact q b zs rs _ (s1.trans (ÄZ gb)) ad (Ϡ pz z z.ts (XV (af gb _))) run),∀(B:↑Bx h)(L:Cls K C)(A:A2 K C m q st f),0,sC X P Á6 lpos params body scope Ϣ H1 f H2,∀(h:Gn ol gs k u b),0,∀(A:XN)(s:XI)(a:Int)(t:Tok)(c:Int)(u:Tok),0,∀(c:String)(isS:Heap->XH->Array XJ->Prop),0,(by have Ϣ:=Yb (n / ϣ) (show É xs.length≠0 by exact æC);have Ϥ:=Yd (n / ϣ) (show É 0<É xs.length by exact ô (Ų n 0) (.c Ç) Òj ÆS xl)),∀(f:α->V)(l:Ä α)(m:Nat)(h:m<=l.length),0,(·,_,y.2,Ì Ϣ,X.tb,X.dr y my,hist.fitS (cz my)),Zq0.dr (A:=X.A.in1) hh i1 a,(by refine wpAny_Call_method0_late hbase hline Ϣ),ci (ī Ϣ (ŏ 0 (Ğ ϣ))),(·,·,(q::qs),k),∀(hw:swappedStores [tg] e X.env=pure none:=by rfl)(h1:(assignEach [tg] X.env).map (·.2)=[assign tg X.env]:=by rfl),0,Ϣ X (.Assign [.Subscript o i pos'] value pos),(by
 ext Á8 hv' hv'
 .exact(Ϣ v hv').same (ϣ y6)
 exists[n1,n2,n3,n4],nmA (Ϥ (ϣ y6))
 ext Ãu hv'
 rcases hv' with rfl|rfl|rfl),(by ext ı Q;refine W.methodCall_KW (pl:=pl) (ÁA he u) ht;show ÅR [x,H1,I1,rx,a,dx,fs,ex,ea,l,q] u;refine qj I1 ea c hm l ? _),(by have Ϣ:ÃO Env0 X.A.in1.in1 X.stack s H:=by have e0:=I.env0;exact#[e0.frames,e0.mod,e0.bs,e0.bsz,e0.funs,e0.frf,e0.hok,e0.bare]),Ù (.Subscript o i pos'),(.inr (.inl rfl)),(λ i w k' h1 h2=>h (i+1) w k' h1 (by rw[show n+(i+1)=n+1+i by omega];exact h2)),wpAny_Name (Ϣ I.ok.kind hk ϣ Ϥ fin),(tupleKind (bA P w)).is h,jT (b:=false) I2 Ϣ ϣ hl,Nat.le_antisymm (lin Ë3 (À9 0 (Ų a 1)) (.p Ć Ê) .z ď θ) (lin Ë3 (.p Ć Ê) (À9 0 (Ų a 1)) .z ď θ),∀(h1:ÀB OlAt) (h2:œ nv n) (h3:œ mv m),0,Ý as a->Ý ks k->Ϛ a k.map,∀(hv:Ϣ v d)(hm:DRaw s.heap d es ep),0,ô (Ų n 0) (.c Ç),(by cases q;show þ [ob,_,_,h1,h2,_] dd #[ob,h1,h2.2.1]),(by ext ÅL;obtain⟨e1,e2,⟨p,q,e3⟩,e4,e5⟩:=st;exists Ϣ,hg;exists[its,rx,px,_],Zq0.inv I hx;exists[jts,ry,py,_],Zq0.inv I hy),Ϡ Ϣ (z:NameIs ì) z.same,(atI eT.cps.toList (ix i%39)).getD 0,∀(X:Cx)(tg iter:XT)(wi:TI),0,((Itl K a).stop i H/\D.nx Z H)\/((Itl K a).go i H/\∃N:À0,ËI i/\∀x H',(Itl K a).yld i H x H'->g ËD),∀(he:∀whole,isTrue e X.env whole=(do let v ←whole;standAt e.pos;holding [v] (truthy v)):=by intro _;rfl),0,(ar aw (ħ 0) (ħ 0)),∀(ha:QA X [a] ta)(hg:Gl X "range":=by rfl),0,(·,·,(tVar i),(tC (Í n))),(·,·,[_],Τ,(Int.self_le_toNat _)),λ b o hb e=>Ϣ Â (kp b o hb e),(by ext ı D;refine plainObj_wpAny_Assign_Attribute (ÂL Ϣ λ u s1 ⟨y,H1,I1,ry,q⟩=>thn (ϣ XU s1 Z H1 _ I1 q) (ο ov s2)) hs),Ϣ hh st.1 st.2,(by rw[c]at pr;exact Ϣ #[sz rfl,λ t gt=>q ì t Â pr (But.of (wu.trans (af gt _))) (O.same (wu.trans (af gt _))) ad rfl]),ObjOk P w (ø Ϣ ϣ) h' Ϣ ϣ,∀(X:Cx)(f:XJ->Sem XJ)(r:V->Hp->Þ VK),0,(·,·,(.type "int"),(λ xs H Q=>(∃i,xs=[Í i]/\Q (Í i) H)\/∃k,xs=[.bl k]/\Q (Í (if k then 1 else 0)) H)),([hd0,Æ L,.none,rawInt L,.none]++(if pl.isEmpty then List.replicate 6 Value.none else pl)).toArray,∀(K:XY)(Ãz x V lo Int)(hi:Option Int),0,(ZN YF hit.typeIs PySem.F.entry_dict_valueiterator_next ? _ (PySem.F.args_dict_valueiterator_next_1 _)),Walks prog w A I [I,d] [I] es.size (λ i v=>∃e,Ý es e/\v=Ϣ) (λ i h=>ϣ I d i es.size ep/\DRaw h d es ep),[s1.heap.objs.size+4,s1.heap.objs.size+2,s1.heap.objs.size+3,s1.heap.objs.size,s1.heap.objs.size+1],λ x hx=>(Ϣ.2 x (pe.mem_iff.mp hx)).ts ϣ,(by rw[XC e,XC (h1.symm.trans e)];exact Ϣ),wpAny_typeOf (T:=Ϣ) ϣ ? _,(by ext Äf b ry;exists[z,hd,xs,rel,dd],Ϣ I.hok e),(Àn ["number"]),Ϣ K H a xs/\Ϣ K H b ys,Đ s.heap.objs.size { s with heap:=Òk s.heap.push Ϣ (List.toArray [Æ d,İ 0 0,İ es.size 0,İ ep 0]) },(.tuple [Î "back",nmD it]),(by refine codeAny_builtin mZ ? _;rw[Around.under_plainId fX _];show wpAny _ A.in1 (pyNext (Ï it) >>= _) Â s;refine z9 Ϣ),(by have hkn:ks[n]?=Ã (ks[n]'∅):=Ze ∅),(·,·,[o,eo,_],e4),(by ext ı Ϣ;refine ϣ (ÂL hc (Ú d s1 ⟨H1,I1,q1⟩))),(by .have hb:Ϣ=false:=YS.mpr h;simp only[List.lookup,hb,XB ϣ]),ZN YJ hit.typeIs PySem.F.entry_dict_keyiterator_next ? _ (PySem.F.args_dict_keyiterator_next_1 _),(λ xs H Q=>∃x T t b,xs=[x,.ty T]/\TyOf X.K H x t/\W.kitOne X.K t (.type T)=Ã b/\Q (.bl b) H),ξ Ϣ (ZY he dt v1 ? _),(·,KatTups.cons eo ca da rfl f1,by rw[Zo,Zo,f2],Ø v hv),∀Ϣ Z H Q,g Ϣ Z H Q->g Ϣ Z H (λ σ2 H2=>(σ2.length=Z.length/\∀i,n<=i->σ2[i]?=Z[i]?)/\Q σ2 H2),∀{j:Nat}{py spos:Pos}(hN0:X.N.Nodup),0,[_,_,_,_,o,_,_,e,ex,_],∀b,b≠T->(s.heap.update T Ϣ).get? b=s.heap.get? b,(aK (aK ol n { it with tx:=cZ it.tx none Çm }) m #[it.up,pl,cZ it.tx Çm none,false,none,false]),∀(hm:ê X.mg "enumerate")(ha:QA X [e1] ta),0,∀(h:NA H d as is)(t:TS H H'),0,(by
 .exists[L,a,b,c],yQ (it:=Ϣ) v.wgt hn;exact#[L,a,b,Zn c (Nat.add_le_add_left ok.2 B)]
 .rw[aG,XB λ z=>hx ϣ];exact h),ô đ (.c Ç) (ĝ đ Ç .z) ÆS,(λ i j=>HT.lexLt (ks.getD i []) (ks.getD j [])),s.heap.get? p.1=some p.2/\H p.1=none/\p.1≠X.env.locals/\p.1∉X.fs/\∀v,p.2.data≠.cell v,(λ _=>z9 (Zb ? _)),(x.above y c (YH h)),(by show Àc [a,b,ns,ms,rfl,rfl,ha,hb,q];exact Ϣ hu XU s Z H Â v u Q I rx ry #[_,_,gj ha,gj hb,cL ns,cL ms,Ă iL q]),(by .obtain rfl:r=[Í k]:=h6;exact(ř e1 at0 (Hl rfl e1 at2 (XW h5) at1 #[sz rfl,λ t g=>q t _ (af g _) ad]))),λ t gt=>q ì t Â pr (((But.of s03).trans b4).trans (But.of (af gt _))) (o4.same (af gt _)) ad Ϣ,(·,·,d7,(q_a (ħ 0) (ð aj))),λ Ϣ s''=>CX outer H s E ϣ s'',hf.hi n (Zf _) (Çs hN),(SqL X.K H p ys\/SqT X.K H p ys),#[dd.typeIs,Ø b q,hd],(·,·,(λ b xs e=>Ī (ne e) e),(λ b o u e=>Ī (ne e) e),(λ b ps e=>#[#[],by rw[ah (ne e),e];simp])),(Úo).push (Ϙ "tuple" seq (List.toArray [.none,.none])),{ it with tx:=cZ it.tx none Çm },hv (Zt q).symm,(by refine Ϣ kind_sorted plain_sorted entry_sorted ϣ ? _;unfold Builtin.«sorted»;refine z9 (m:=checkCount "sorted" 1 1 _) Ϥ),(by have ty':=(sP I3 #[kls,oa.ob]).1;refine ZN Ϣ ty' ϣ ? _ Ϥ;show Θ ϥ s3;show ξ Ϧ ? _;show ξ Builtin.Dict.keyAndDefault (Xb ty' ? _)),(by show ĩ Ϣ ϣ;obtain⟨⟨dx,h1⟩,h2,_⟩:=id S),Ϣ X (Åb Add) (λ x y H Q=>∃i j,x=Î i/\y=Î j/\i.length+j.length<=sizeLine/\Q (Î (i++j)) H),defaultsOf params X.env=([],[]),(·,λ d hd=>Ϣ d (ϣ hd),λ d hd=>Ϥ d (ϣ hd)),∀{Q:XE}(Ϣ:IsTup s.heap ϣ Ϥ)(hb:IsTup s.heap b ϥ),0,∀{n:Nm} {it:It} {b:Bool},0,(by refine .inr #[hgo i H hlt sm,? _,Ú x H' y]),∀(hk:∀b o,Ġ b o->h1.get? b=ò),0,∀{it l:XH}{i:Nat}{items:Array XJ},0,(·,·,["self","name","at","new","place"],(spPartI C)),∀(hl:∀i ys H,Pv i ys H->H a=ÆV),0,(by rw[Zy,List.nodup_append];refine#[Ϣ,Ĵ,Ķ a ha c hc z];simp only[Zu,List.map_nil,Zg]at hc;ext ż e' he' ha),∀(g:Gen3 n cl L){h o:Nat}(hh:h<n),0,{ s2 with heap:=s2.heap.push (Ϙ "slice" fields (List.toArray [.none,.none,İ c t])) },call_meets F.slot_int_rmul (typeIs_int s k t) F.entry_int_rmul (F.args_int_rmul_2 Â),∀(x:Tabs T R H)(s:SameT Ϣ H H')(t:ϣ Ϣ H'),0,g Ϣ Z H Q->g Ϣ Z H Q',(h1.push (Ϙ "traceback" fields ts)).Ϣ,(·,·,2,"is_whole",["thing","low"],pK),(I.hok b u e).stay (λ c v hc q=>Ϣ c v ? _ q),λ _ _ _ _ H Q I h=>Ϣ #[[],H,I,.nil,h],(by ext Ë9 i ys N hi pv;by_cases hlt:i<N),(hideAll s1.heap (frs X.stack)).get? b=Ϣ,(ū (.n 63) .z),(Õ (ax (dE n S i))),(·,·,(jh (bz Àe aS Çd (cG aS (cG aS bO)))),(Ĭ (nX (aE kf ↑2 cQ))),(Ĭ (aJ (ŏ 0 (Ğ 2))))),(ÂL hi λ v s1 h1=>thn h1 (Ú itv s2 h2)),∀(X:Cx)(f:XJ->XJ->Sem XJ)(r:R2),0,∀{pl:Sem Bool}{Q:XJ×XG->Þ XI},0,(by have h:=ZZ (λ l=>l[i]?) hN;simp only[Zs,aT,Ϣ,Ze hi,Option.map_some,Option.some.injEq]at h;exact h),∀(g:Gen3 n cl L){h:Nat}(hh:h<n),0,(by
 have hgn:g<n:=by rw[<-Ϣ.2.1];exact hg
 have lg:(clk cl6 g).length=n:=(ga wd wok).cc g hgn),(LinearCombo.coordinate_eval ..).symm.trans,(by ext Úx T hT.symm.trans ts dT),(by .obtain⟨⟨old,e1⟩,⟨o4,e4,r4⟩⟩:=st;exact#[#[old,k e Û _ e1],#[o4,k it Û _ e4,r4]]),thn (Çr hr pos _ q1) λ us s2 ⟨xs,H2,I2,r2,q2⟩=>#[x::xs,H2,I2,Ę r1 r2,q2],∀(S:Ϣ ϣ Ϥ scope)(hd:A.handled=none)(ÚK e0),0,(by rw[List.getElem?_set_ne (Z7 hj)]at e2;exists[u',r',q],hl j y v' e1 e2 e3;refine#[u',r',? _]),(·,λ i H x H'=>H'=H/\∀xs,Ϣ K H a xs->Ý xs x,λ i H=>∃xs,Ϣ K H a xs/\xs.length<=i),(·,·,(pd,_),(Zh _ (Zh _ (Zh _ Zk)))),∀(Ϣ:x=Æ p) (ϣ:SqL K H p (ns.map V.int)),0,Draws prog w A it [it,Ϣ] ϣ (λ i v=>Ý Ϥ v) (λ i h=>h.IsTupleIter it Ϣ i/\h.IsTuple Ϣ Ϥ),(ZV ..).extBut.push _,Ϣ (X.wish (Mid X E)),Ϣ X (.Assign [.Name y py] (ÅS tg) spos) (yK (AQ own.length cap wi g tc te) (cC j)),∀(p d g st:XH) (kvs gvs:X0),0,(hr.mono ∅ |>.in1 |>.in1),Paired (fun(p:Ä Key×V) (q:Nm×Nm)=>p.1=nk q.1/\NameIs H p.2 (nk q.2)) ps qs,Paired (λ q (p:XH×ÃY)=>q.1=p.2.1/\H p.2.2.1=Ã9 q/\RelV q.2 p.2.2.2) qs ps,λ b o q n hb hx'=>Ϣ b o (mx.keeps b o q) (Ī (oe b o q) n) hb hx',(by have hlen:its.toArray.size=xs.length:=Ă Zl r.length.symm),(by exists ÀQ a xs hr hd,e';cases r;exists Ϣ,hr.ok ok;exists[as,q],DtAll.reads ok ds xs its hd rv;exact ϣ),(by have hc:h<cl.length:=Ă g.cn hh;have hl:h<(clk cl h).length:=by rw[g.cc h hh];exact hh),((Z.set i (Ù (Í k))).set j (Ù x)),L.map (wt (aK ol n Ϣ)),∀{o i:XT}{t:Bp}(ËN Ϣ to ti)(hs:ϣ X t),0,[oe,Ϣ,T,oT,ts,he,hc,dt,v1,nT,ne,hT,dT,t3],∀(h:POk n p)(i j:Nat),0,(by have ty:=BP hit;exists[od,hod,_,hdd],id hm),(by exists Ϣ;obtain⟨h,p,d,n,me,L,M,rfl,⟨⟨dx,h1⟩,S⟩,tb,hM,q⟩:=h;ext ÀE ex h2 S;exists _,ϣ),∀(h:(ax L)[k]?=Ã x),0,∀(hit:s.heap.IsTupleIter it l i)(hl:s.heap.IsTuple l items),0,sJ (s:=ů s h') e c d ⋯,(I2.env0.make C us []),(by have z3:3<ts.size:=(Y7.mp t3).1),(by show ĩ Ϣ [k,ws,rfl,hk,q];exists _,(b_1 (au (ar Ho (GO ϣ) ü)));exact#[Å,dd,k,Ϥ,tw ws,î,T,hk,q]),#[Ϣ,ϣ,Ì Ϥ,by rw[ϥ];exact aF #[Ϣ,ϣ,Ì Ϥ,Ŕ yH aP (q ì (.Ϧ c hb) (But.of s1) (O.same s1))]],(by ext ğ grp List.filter_eq_nil_iff;intro y hy z;have:=Ϣ y hy;rw[Z5 z,hl]at this;cases this),(S.take k).foldl Ϣ [],(.frz ob (.dT kvs)),(by
 have e:=Du (Ϣ ϣ) (Ϣ Ϥ)
 have e0:∀u:Option Nm,mU u=upD u:=λ u=>by cases u<;>rfl
 rw[e0,e0]at e),∀(ŵ o XT)(m:Str)(apos:Pos),0,λ x H1=>IsM C m x H1 Ϣ,Zb (hold j x tk h1 h2),∀(ËU A XN b Bool)(ks vs:XG),0,∀(h6:RsAt H r wd)(ok:wd.ok),0,(by have hdr:Ϣ i=ϣ::Ϣ (i+1):=by rw[List.drop_eq_getElem_cons hi];rw[Ze hi]at Ϥ;rw[Zt Ϥ]),(∀H',SqT K H' t (ws.map V.str))->Đ t H,Ϣ (ÂL ha (Ú c s1 ⟨H1,I1,q1⟩)),Ϣ (tupleKind knd) d xs,W.kitOne K (.type n) (.type Ϣ),[S3,o5,o6,o7,o8,o9,o10,o11,rfl,as,cl,L,M,ck,lr,nr,gen,gex,lL,lM,fas],(by have hc:h<cl.length:=Ă g.cn hh),(by exists[σ3,H3,I3,n3],q3;exists[m',hm,w3],hN σ3 H3 n3;exact#[m',hm,σ3,H3,I3,w3]),(λ R hR=>HT.lt_tupInts Ϣ ϣ Ϥ ϥ hu0 hR),(.r (.c Ê) 1),.bl (KTD.datumAt k D).isSome,∀(hsw:swapsWith (ÅS tg) (Ù (Ã2 y py)) spos.line X.env=pure true:=by rfl),0,(by have la:a<s1.heap.objs.size:=Zr eo;refine Ϣ ϣ λ h' he hl hz hk=>wpAny_pyIter_enum he ? _),∀(UR:Ŀ 1 "_law_order" ["_law_deed"] spOrder),0,(by .exact .Ϣ (intBits_le_64 h1 h2)),ho' XU s4 Z H4 y z' u w' Ϣ I4 r2 r4,∀(g:Int->Int->V)(x:V)(y:V),0,Ý bs b->PartB H kvs w v b,(by refine Ϣ (vF ry) hd dd.mapOf ? _;rw[<-(rel.val k).isSome_eq,<-l];exact h _ (I.tok _)),∀(P:XL)(w:XM)(td ty tx:TE),0,ê B.get? t/\fZ Ϣ ea dc/\E C dc H',↑MkFn 1 C "Plain",∀(ln:L.length<=63)(nod:ÛD),0,(by exists àE vs,tr;ext àM;have oth:Þw Ϣ:=λ b n=>Yr Â (Z7 n);ext ßr;show Þr setFlight;rw[XC (Ĵ:Ą (Value.ref T != Value.none))];refine YC hT dT z3 (k _ (ÝL kb) (ff.of_keeps λ b o q hn=>#[o,Ï1,rfl]) ? _ (λ b o q hn=>#[o.slots,Ï1]) ? _);ext æZ),∀(F:ÃO LamOkX k Á6 body scope x y sp)(hr:Õb 3)(ÊV QA e)(hj:Ŗ X.N y),0,(by
 exists[os,hos,hcs,hds],id hs
 have hTs:Ā s.TypeIs sl "slice":=#[os,hos,hcs]
 unfold getItem
 try with_reducible ext Ħ Z0
 first|ext Ãa Zb|skip
 show í (wpAny_sequenceKey ht.typeIs ⋯ ? _)),#[λ b o e n hb hx=>u.keep Ál hb Ϣ,λ b o e n hb hx=>u.slot Ál hb Ϣ,λ b o e n hx=>u.free Ál Ϣ,λ b o e hx=>u.there b o e Ϣ,u.tups,u.frzs,u.tbls],#[Æ s.heap.objs.size,ø s.heap.objs.size (Ò [Í i,xv]),I.turnT (t':=tk+1) hf kp2 tT (Ę #[È tk] (Ę rxv ė)) (sz rfl),rfl,#[_,xv,I.hok.fresh (Zf _),È ex,rfl],? _,Ø c hc],(by
 ext Ë9 k Z xs.length hk pv
 by_cases hlt:(À4 k)
 .refine .inr #[#[hlt,ha k Z H hk pv],Ót k z];show þ [T,p,hT,hx,rfl,rfl] y æt
 .show Åg k xs.length #[#[rfl,ha _ Z H hk pv],hd Z H pv]),(by exists[it,fp,tn,J,H2,e,I2,T,st2,f2,hq],h2;ext Ļ;refine yY (RR:=λ acc C=>Ä0 compPost X.A X.xe Ϣ ϣ acc C) O hc hg gk ht he I2 T st2 f2 hq æi;show Àp [m,hn] hn4 [f0,f1,g2,f3,f4,f5] fC),(by show ÛX Ϣ ϣ Ϥ;show Òo (Yw hod hdd ? _) æn ? _;ext ÚY Ϣ ϣ;show ÀA (Ā setField it 0 .none >>= _) s;show ÎX (YC ho hd Û ? _);ext Òi;ext ÚR),(by refine æS;have w7:=wu.trans (af f7 (Ò Ëd));exists Ëx,fin w7;have e7:ß Hu q7 (Ò Ëd) q7=Ã (Ò Ëd):=ad;generalize ß Hu q7 (Ò Ëd)=HC at f1 f2 f3 f4 e7 ⊢;exact æY),(by show ÛX Ϣ ϣ Ϥ;ext æo;ext ÚY Ϣ ϣ;show í (ϥ hit.typeIs ? _);show ÀA (Ā setField it 1 (rawInt (É i+1)) >>= _) s;refine z9 (YC ho hd Û ? _)),#[I.ok,I.os,I.bare,#[ŗ b o e n hb hx,ŗ b o e n hb hx,I.base.free,ÀG e hx,I.base.tups,I.base.frzs,I.base.tbls],Ϣ,Ú y ϣ e,I.free,I.freeC,Ø p hp,tracked Ϥ hs,û I.len],∀(vs:XG) (ys:List (ÃY)),vs.length=ys.length->(∀(Ŏ j v XJ),Ŗ vs v->∃x:ÃY,Ŗ ys x/\v=Value.ref Ð.1)->Vals (ys.map fun(x:ÃY)=>V.ref Ð.1) vs,∀(F:Fr h₀ L s.heap m)(N:News h₀ L s.heap news),0,(by refine#[Å,l,xs,È ds,hl,hd,l3,safe,λ a ys rs H1 s1 ea pr run=>#[Áe a ea]];have ln:ys.length=ds.length:=(ZC pr).trans (lE run);refine bL Ϣ ∅ Çk (È3 ea) Ĳ),(by exact Úg hj Æj),#[sz rfl,λ u gu=>hRJ Â #[u,Ϣ,.non,ÜD s38.trans s78 s78.trans inr c2,λ rs' z=>by have:=Runs.turn c c2 z;rw[ϣ c3]at this;exact this,rfl]],forIn ifs true λ c r=>if Ą r then do let ok ←isTrue c Ϣ (eval c Ϣ);pure (ForInStep.yield ok)else pure (ForInStep.yield r),z9 (m:=firstArgMember Â) (wpAny_of_eq (a:=Value.none) (by first|rfl|(ext Ű firstArgMember;rfl)) (ZM ? _ (by size_fits))),#[λ i H=>À4 i/\Ϣ K H a xs,λ i H x H'=>∃T p,á T/\À8 p/\x=Æ T/\H'=ø T (Ò [Í i,p]),λ i H=>i=xs.length/\Ϣ K H a xs],(·,λ x hx=>(S.dr x hx).ts λ b zs f=>Ģ f λ z=>(ÇY e f),λ z hz=>Ģ (S.ls z hz) λ y=>(by have f:=S.ls z hz;ext Ţ y e f)),ŕ wpAny_binaryOp_repeat_ref T Ϣ U "int" ⋯ (À5 ϣ) (λ s'=>typeIs_int s' k t) Ϥ F.fills_int_mul F.slot_int_rmul ϥ F.slot_int_index.lookup,ϔ (Ád (ć (ã 0) (ã 1)) Ϣ),Ϣ X (.type "dict") (λ xs H Q=>∃l vs qs,xs=ġ l/\ĺ H l vs/\Ág Bo H vs qs/\vs.length<=1000/\Æl d (ø d (.dT (bR [] qs)))),call_meets F.slot_list_append (À5 Ϣ) F.entry_list_append (F.args_list_append_2 Â) (PySem.list_append ϣ its.toArray Ϥ ϥ (Ż Zl)) (ÁI Ϣ),H' t=Ã (Ò [Í 0,Í 0])->Đ t H',(by show ĩ Ϣ [h,p,d,n,me,L,M,W,e,rfl,S0,tb,hM,RK,q];obtain⟨⟨dx,h1⟩,S⟩:=id S0;exists _,ϣ;refine#[Õp h1,È M,S0,tb,hM,Ķ D H1 k1 t1 lr]),(by exists[fs,t1,t2,t3],tups as us 0 S.vals ∅ (Ûu v S.keys);refine kat_kind (T:=.type Ϣ) t1 ∅ (Ø v hv) rfl (go _ (ŗ i j C hi hj hC))),∀(ns:XQ) (ÃA a) (h1:Ð0) (h2:ns.length<=63),0,I2.kept (t':=s1.toks) (Àu o e e),(λ xs H Q=>∃p ys,xs=ġ p/\((SqL X.K H p ys/\∀l,á l->Đ l (ø l (Ò ys)))\/(SqT X.K H p ys/\Đ p H))),(by show ϐ #[Ν p dx h1 fO,p,d,n,L,Ì S,tab,λ Ϣ H1 M' rd ϣ tab1 Ϥ ϥ=>? _];obtain rfl:=al.one _ rd;have kt1:=KT.tab tab ϣ;have S1:=S.kt kt1),(by
 ext è e e' e'
 rw[d]at d'
 show Æk d' d1 _
 have:its=its':=by simpa using ZZ Array.toList d1
 subst this
 exact r.inj r'),Ą (scope.names.all λ y=>!(y.2==NameKind.free) ||(X.env.kindOf y.1==some .cell ||X.env.kindOf y.1==Às)),∀{Q:VK}(hv:Z[i]?=Ê1 a)(hs:SqT K H a xs),0,(by
 .exact Ϣ (I.base.keep Ál hb hx)
 .exists[sl,e1],I.base.slot Ál hb hx;exact#[sl,Ϣ e1]
 .ext Ïu e1;exact#[o',Ϣ e1]),(ÄW ["name","step"] Ϣ (ÎR "name" "step") (jh Çd) (Ĭ fj) (λ _ _ _ _=>ä)),(by rintro i x v Z H' hx hv ⟨sm,ez,Ϣ,o3,o4,rfl⟩ T' gT;have wT:=af gT (Ò [x,v]);show Ž [w',hw,rfl] item hx [b,hb] bat hv),sJ (s:=ů s h') e c d ⋯ #[x,H,I1,ru,#[rfl,λ ys hy=>by rw[Ϣ hy hq];exact hx],st',λ b hb=>(hf b hb).1],ÃK BX X X XU XU Z Z (sp:=sp kv) (params:=params) (f:=f) (c:=cy) (c':=c') (pm:=Ûl) (ct:=ct) F.sc hj æe,ô (.c Ć) ÅK Ζ,ô ÅK (.c Ć) Ζ,(·,·,(ť ĝ 3 Ê (ĝ (Ε a 0 2) (.a 3) .z)),Ŭ,θ,(Éd hi),(Nat.add_le_of_le_sub (ŝ ÕE hi Ŝ) (Nat.le_refl _))),b_c (aM (t_w (Åt hJ 1 (gN (ci (bJ i6 ς (ÈE 1)))))) (b_1 (tu (jn fE) rfl x_Beneath p7 (ð aA))) b_0),(by ext Ûs hi Ϣ;ext æX ϣ Ϥ;ext Ìa lte e e1;have kp2:∀c o,c∉[e,it]->Ġ c o->h2.get? c=ò:=Ý5 q (hk c o hc.1 hc.2 q);ext æp),(λ xs H Q=>∃v a kvs,xs=ġ v/\Į H v (ie v (tE a))/\Å7 H a/\Æl l (ø l (Õ (kvs.map (·.2))))),(by
 .rintro σ' H2 ⟨rfl,rfl⟩;exact#[m,Y8 m,Ì uv,it.up,e3,È Ϣ]
 .refine#[æa,? _];exact#[ia,τ,XW e2,È at0,rfl]),Prt.up (ol:=ol) h3 Ϣ,(by show Ť (ř e5 at0 #[ľ,aW w1 ? _]) (ř e5 at0 #[Ċ u gu]);have wu:=af gu (Ò [Î "take",Î "back"]);ext Ì9),(by refine#[Ü,ë,#[Àv],Áo l,Ìg hl4,ë,(by show É 0<É xs.length;exact ÞE Òj ÆS xl),l,τ,XX hl4,Ϣ,hR1 ÁZ];ext Éx),(by
 show ÝU Ϣ (am sc (ϣ:Int).toNat) (show É Ϥ≠0 by decide) ϥ (show É 0<Ϥ by decide)
 try ext ň
 generalize æq ϣ%Ϥ=Ϧ at Ϣ ϥ ⊢),∀(j1:∀x,nk x∈ks.take i->Õ6 ol'),0,∀(ts:Ä Tk) (l:As Nm),0,∀(hr:Ϣ X r)(Çu he ϣ hl Ϥ lo tl)(hu:Ϥ X hi th),0,(λ xs H Q=>∃p kvs,xs=ġ p/\Rd H p (.dT kvs)/\∀l ks,á l->eS H kvs ks->Đ l (Æy l ks)),(by have m1:Çv i hi<Ϣ:=Yh.mp (ep.mem_iff.mp (ZD _));have m2:Çv j hj<Ϣ:=Yh.mp (ep.mem_iff.mp (ZD _))),Ϣ Ë5 (λ xs H Q=>∃p ys,xs=ġ p/\ßC/\Æl l (ø l (Õ ys))),ŕ Ϣ prog X.prog w X.w (I.ok.hd hc),∀(hi:Ϣ X tg iter wi)(hg:ϣ X tg g)(hb:Ϥ X body ϥ),0,(by refine Zn Ϣ ϣ;have:=T.len;rw[Za];ext ğ bD Za;refine ÊR ? _;rw[List.length_zip];show Íy this Æj),(by simp[SeqAt.shaped,nmD,PyData.canLay0,PyData.canLayAll0,PyData.depth,PyData.depthAll]),(by ext Ób Ϣ nv pa2;show Ť #[ù t,XW (sm Â e1),Ì _,Å,ë,? _] #[Å,hY Â #[sm,Ŕ Zm y7 lz,? _]];rw[ϣ hr',Zy];exact Ϥ pz ϥ),∀(UD:Ι 7 Ϣ "clock" ύ (spClockM Ϣ T)),0,∀(pos:Pos) (XU:XD) (s:XI) (Z:St),0,∀(c:Cls X.K C)(n:NoAttr X.K C f),0,∀(δ l α i Nat){x:α}(h:Ý l x),0,(by have e':¬q.1=k:=ÃF e h1.trans;have b:Ϣ Ýy=Ϣ qs k:=Ïj Ϣ e';rw[de e,b];exact ih),∀(hm:X.mg x=Ö C)(ha:QA X ϑ ta),0,(by have e:Ϣ=0:=ϔ ϣ (Ú6 .z [_] θ);ext Ļ),(by show Àp [nw,g,Fq,Nq,Uq,Ϣ] ϣ [l1,l2,e0,hg,x1,x2] Uq.split;rw[e0]at Nq;have ak:=Nq (ÜQ (List.toArray Ϥ) e) (Éw ZW)),(by have h1:Ŗ as (as[j]'∅):=Ze ∅;have h2:Ŗ ks (ks[j]'∅):=Ze ∅;exists[u,gu,ru],S.vals.get h1),(by unfold ax;exact λ z=>gw (as:=L.map Prod.fst) (Ä7 Ϣ Íc (ι n 0 n 1) ϣ) (by rw[<-z,ZX];rfl)),(by have x3:am Ð.1 e.1=bh e e.1:=x3;rw[jD,<-x2]at x3;have x3:own x=own e-1:=x3;have s:=sw h he x1 x4),tBM X.K "list" Ϣ to (fY te ip),(by ext ı R;refine ÁA hl v;ext ÁV x;obtain⟨a,e,⟨xs,hq⟩,q⟩:=q1;ext Ļ;cases r1;ext Æd rv p Ϣ;refine ϣ Ϥ ? _),(Çx (Nat.add_le_of_le_sub (â đ Ç (ć (ι n 1 n 1) Ç) [_] c2) (Nat.le_refl _))),(by have lD:Į Ϣ D (Õ (Q0.map (ÔQ (i:Int)))):=ϣ (D,_) Ϥ;have lP:Į Ϣ pd (Ϟ A):=ϣ (pd,_) ϥ;ext Áy;refine Ϧ;rw[em,ϧ ì mA]),∀(pe:M.Perm ol)(df:ÏR Ís out k),0,λ xs H Q=>∃p ys,xs=ġ p/\ßC/\Q (Í ys.length) H,∀(h1:ĺ ÂT) (h2:Ág StV H xs ss),0,ŕ Xn T "AttributeError" b true,λ e s'=>wpAny (model P w) (A.deeper (Ϣ ϣ Ϥ)) (leaving (Ϣ ϣ Ϥ) e) (ßA _ e) (ßA e' e') s',call_meets F.slot_tuple_mul (À5 ho) F.entry_tuple_mul (F.args_tuple_mul_2 Â),(λ j x h1 h2=>? _),(by unfold Ϣ;ext Ħ Z0;show í (zo hu hkey (ģ tk));have D':ODict prog w (Åd:XI).heap d o es ep xs:=D),(by have mem:∀x∈Ϣ (L.zip W),ÊN:=λ x hx=>by ext ż z h1 hx;exact(List.of_mem_zip (ZS.mp h1).1).1),(·,·,(Àu ob q q),(Zf _),? _),(by have e':q.1=k:=h1.symm.trans e;have b:Ϣ Ýy=some q.2:=Ïj Ϣ e';rw[dJ e,b];exact h2),(λ i j h1 h2=>absurd h1 (Ãq (ÛB (ť ĝ 0 đ (ť ĝ 1 ÂE)) [_,_] θ h2 h1))),(by by_cases c:ÈM;.have z':=(XC c).symm.trans z;cases z';exists[c,hm],c;exact(tx _ hm).2),(by have hn:Ëq okD ke:=vS λ en hen=>by exists[j,hj],Yp.mp hen;exact hno j (oE en) (Â4 Zs hj)),vL fr hfr fly dd (Č Ϣ held ϣ Ϥ),(by
 ext ğ Ϣ List.getElem?_set
 ext å e ϣ k
 .ext Ļ;rw[XC rfl,XC rfl,XC hk];rfl
 .rw[XB (ÈD e),XB e]),(by show ÃB Ϣ y6 ϣ Ϥ;have ϥ:ß Ϧ ϧ Ϩ ϧ=_:=ad;refine hR1 ÁZ;generalize ß Ϧ ϧ Ϩ=ϩ at y6 ϥ ⊢),∀(values:Ä XT)(trs:Ŋ TE TE),0,∀(g:DGet Ω y o)(ry:RelV y u),0,Ϣ (by show X.A.in1.units<cLine;ext Ű Around.in1_units;exact æk (Ím) ď hu) ki D,∀(kvs gvs:X0) (Ŧ nm V k Key),0,∀(hn:∀x∈L,nmK Ð≠nmK e),0,Ϣ\/((a,e)∈L/\Äh Q (.bl false)),λ x y H Q=>∃(a b:XH) (ns ms:XQ),Àh/\y=Æ b/\Ϛ a ns.map/\Ϛ b ms.map/\Q Ϣ H,∀b o,År->((∃u,H' b=Ã u)\/∃o0,s0.heap.get? b=Ã o0)->ÀC s'.heap.get? o Ϣ,∀k x Z H,xs[k]?=Ã x->Pv k Z H->∀T,á T->ÔJ k àB (ø T (Ò [Í k,x])),(s.heap.update it (Obj.mapFields (·.setIfInBounds 1 (rawInt (É i+1))))).Ϣ ÆY,∀{Q:ű Bool}(Ϣ:OIs prog w s.heap k ϣ),0,∀{names:ő NameKind} {x:Str},0,∀(hu:X.A.in1.units+64<cLine),0,∀(Ük j Nat)(sp:V->Sp)(ta:TA),0,(by ext Ű raiseNew;ext Ãa wpAny_handled;first|rw[show A.in1.handled=none from Ϣ]|rw[Ϣ]),∀(a xs:_) (h0:Àh) (h1:Ϣ K H a xs),0,ó->Ós [v] H' R E0,∀(Ŏ i XU XD) (s:XI) (Z:St),0,(·,Æ bb,rfl,hb1▸È0 r Ϣ e2'),(by
 rw[aG]
 ext å z x n
 .rw[XC z,z];exact#[ę hn,ę rfl]
 .ext χ XB z hL x),kla_callFunE hr.depth of1 rfl S.co S.gen rfl oc1 Ϣ,Rd Ω (Õ xs)/\DtAll H ds xs,(by refine Ϣ (news:=ÜQ (List.toArray us) ϣ::lC X.base Ϥ X.env.locals kS) ϥ Ϧ (.head qD) (Č h3 c F3 N3);have ϧ:=ma Ϩ F3 N3),(·,·,(s.heap.objs.size+1),s.heap.objs.size),Ϣ (envOfC qual scope s.heap.objs.size f cd).kindOf (ps.zip us) (ę none),(by show Áh [small,nw,hh,hb,nxt] h #[small,ZA _,nw,hh,hb,Ø ol' ap];rw[sK (ng s Zk)]),#[0,Qj,Ϣ,æT ϣ Ϥ ϥ,ÅT â (.p č (.m 5 Ç)) (.n 400) Ϧ ď Ϥ ϥ],∀(qual:Str)(ÛW pm XJ c ct),0,(by obtain⟨e1,ho1⟩:∃Ϣ,(Ío a).get? a=Ã (Ào Ů Ϣ):=#[_,get?_update_seq ho (ę #[])]),del (upd (upd (ß H1 ea (exN ea cN t none)) d ÌX) ea (ÎC ea cN d)),(ZN YB ht.typeIs entry_tuple_getitem ? _ (args_tuple_getitem Â)),(by have Ϣ:∀p∈ps,PairAt knd ϣ p:=λ p hm=>(Ϥ p hm).keeps (B:=[ϥ]) (λ b hb=>Áf Zg.mp hb Ϧ) (Óy ϧ z Zg.mpr)),ê H2 D->Đ D (ß H2 D (Õ (p.toList.map λ i=>xs.getD i .non))),(by ext Êb H hw;refine Ϣ ϣ Ϥ;ext ÁV x;ext ļ d q q1;cases r1;exact Yi #[H1,I1,q]),(by .ext æV;cases ru;have hQ':Q' ((bs[i]?).getD Ϣ) s':=hQ;rw[Ze hi]at hQ';exact Yi hQ'),λ j y g1 g2=>(Zi.mp (all j y g1 g2)).resolve_left λ z=>e ? _,∀(Ûr Ϣ)(hm:DRaw s.heap d es ep),0,∃(t:XH) (nv Ϣ:V),v=Æ t/\H t=Ã (Ò [nv,.str ĳ,Ϣ])/\Äs nv r/\ϣ H Ϣ ÃJ,í (Zb (z9 (z9 (wpAny_loadPart hx (z9 (æj (W.looks_clsIn Ϣ hc))))))),∀{binds:ő XJ} {m:XF},(∀v,(x,v)∉binds)->Ϣ kindOf binds m x=m x,#[let⟨o,Ϣ,r⟩:=ϣ.1;#[o,Ϥ it Û o Ϣ,r],let⟨o,Ϣ,r⟩:=ϣ.2;#[o,Ϥ ϥ Û o Ϣ,r]],(by ext Ê5 Zs g1 en g3;have:=zp oa.nd g3;rw[show okD en.1=okD ke from g2]at this),∀(h2:œ nv n) (h3:0<=n.1),0,Same H3 Ϣ/\∃(stk outd rst:(Ä DI)) (rs as:X1) (o4 o5 o6:Option V),æd ϣ Ϣ Ϥ,callWith pos f first (backTo pos (starEach [] X.env)) (ÓK pos),Ž [z,its,n,r,hl,e] I.lstM hH [z2,its2,n2,r2,hl2,e2] I.lstM hB,(by ext Ë9 i ys kvs.length hi pv;have q:=hl i ys H pv;by_cases hlt:i<kvs.length),b_1 (tu (jn Ϣ) rfl ϣ Ϥ (ð aA)),(by cases hs;intro x hx;ext ϋ hx hx;.exact mono _ (hh _ (Ĉ Sd.items))),#[#[î,î,rfl,Àv,⋯],λ f c' c kv A outer s H v Q hr h=>? _],Ϣ ϣ ["deed","name","ready"],∀(Ϣ:aX q T pos H)(s:SameT ϣ H H'),0,(λ xs H Q=>∃i j,ÔA xs j/\Q (Í (if j>i then j else i)) H),(Ñ (Åj Ê) (.p ÈC) .z),(by ext Ûs rfl Ϣ;ext Ül;refine æc ϣ e1 #[Ă lx e4,Ϥ] λ h' kp=>Åz;exact Âo I.turnM hf æs),(by refine#[İ x t::fs,Þs];show Äu hv #[ù _];.exact f3 v hv),(by rintro h1 ⟨XU,Z,H0,H',s0,B,t,C,vs,dc,Ϣ,F,held,tup,hBt,dd,q⟩;exists Ëx,held),∀{hd:Int}(Ϣ:PartR H hd ns k v),0,λ m Z H'=>H'=H/\∃(u:V) (one:Option Nm),UpAt H u one/\Ϣ ol ϣ m one b/\Z=Ϥ,∀{R:V->Þ β}{kvs:X0}{Ϣ:As β},0,show([PyData.int Ϣ.1,Í Ϣ.2]:Ä XZ)=[Ϣ.1,Ϣ.2].map PyData.int from rfl,∀(K:XY)(ta tv:TE)(f:Str),0,∀(f g:Bool->LinearCombo),0,(·,·,c,(O.sub I2.ok x c e)),oth b _ (nrec b o q hn) hs,(hc XU s3 Z H3 _ I3 q3),(by have hz:Ý (L.zip W) (L[i],ĳ):=Ă List.getElem?_zip_eq_some #[Ze hiL,hw]),∀(l:XH) (Ŧ xs X1 ss Sd),0,λ Z H R=>tl Z H λ x H1=>∃a,Àh/\(∃xs,Ϣ K H1 a xs)/\R (ϣ K a) H1,W.callWith_K (first:=ġ a) (h₀:=X.base) I.ok.mod.kin hm.kp,∀(ŵ id String)(r:V->Ä6),0,∀(j:Nat) (hj:j<L.length),0,Ϣ _ ϣ (kas_fr Fq s1 ak.2.1 ak.2.2) (by rw[hg];exact news_set Nq x1 x2 s1 Ϥ),∀x i,look ol x=Ã i->∃i',look (aK ol n Ϣ) x=Ã i'/\i'.up=i.up,(by have:ÁY "back":=⋯;simp[PyData.canLay0,PyData.canLayAll0,this,(eV Ϣ).1]),∀(kp ov:As Nm)(ts:As Dd),0,∀(gen:Gen3 n cl (L.map Prod.snd)) (gex:GenX n cl (L.map Prod.snd)),0,(W.fnOf name qual params body scope dV kV doc pm an cdv ct),(by exists[nm,q,N,bs,hdct,sn,sub,ab,col,dd,k0,k1,k2,k3,k5,ni,oC],hC.cls _ hk),Heap.MadeExcOf h h' e (Ï C) rest,#[ľ,aW ⋯ (aF (q3 hr'))],ř e5 at0 #[ľ,aW Ϣ ? _],∃L:(Ä Nm),L.Nodup/\(∀x,Ő (aK ol n Ϣ) x↔ÊN)/\(àC Ϣ).sum<=B+ϣ,∀ x,argsOk "list.sort" #[ġ x,kw],∀(h1:ÀB Ϣ) (h2:ol.length<=63),0,(by exists[x,H5,I5,r5,y5,st5,fr5],hz9;have I5':=I5.pinned (Ϣ fr5) (T.obj Â st5)),(by have Ϣ:ÕB ϣ its.toArray.size=j:=by rw[seqIndex_neg ∅ Ϥ]at h1;rw[Zl,<-hl];exact Zt h1),(∀(Ŏ i v V) (k:ZKey),Ý vs v->ks[n+i]?=Ã k->k.at H' v),∀i j (C:ű Bool),i<Ϣ->j<Ϣ->C (lt i j) s->ϣ prog w A κ Ϥ i j C s,(by ext Ξ;ext ı Ϣ;show Ýw (ÁA ho.h v);exists[x,H1,I1,r1,a,kvs,e,ϣ,Ϥ],hz9;ext Ļ;cases r1),[Ϣ.1,Ϣ.2].map PyData.int,∀(o:Of A X)(p:S.Perm X),0,∀{lo hi:Int}{t u v:Tok},0,(Kq ha hb I h λ v u s2 x y H2 I2 rx ry q=>Úb Q rx ry q),(·,·,(Ā getItem t (Ï sl)),Q),(by refine z9 (Y3 Ϣ rfl (z9 (wpAny_updateSeq_pair Ϣ (Ú ϣ Ϥ ϥ))));replace Ϥ:IsPair ϣ v x Ϧ:=Ϥ),(∃o,h'.get? e=ò/\Åy "StopIteration")->Ā E e (ů s h'),(·,Ϣ,ha ϣ Z H hk pv,hb ϣ Z H hk pv),(∀k∈ks,∃n,k=.i n)\/∀k∈ks,∃ns,k=.t ns/\ns≠[],SrcH ÂT/\aX q P lpos H/\Dq Ϣ (SameT P) (aX q P lpos) H xs ks Q,(·,·,_,(hh _ (Ĉ Sd.items))),∀(Φ:Ol->As Unit->Prop),0,(by rw[e1,e2]at lx;generalize (Çv i hi)=a at *;generalize (Çv j hj)=b at *),#[Ϣ,.move hn u pl,rfl,#[_,ϣ Â Ϥ,hv,uv,Æ sp,Ì n1,n3,n4],trivial,gh,ug,plk],(·,·,(ÁX 9 fN.nd),(b_1 (aM (aE vX (ÃE US ↑6 (ð (Ê6 9))) dF) ÉZ))),∀{oc kV dc pm cd ct:XJ},0,∀b ps,H b=ą tbl ps->∃more,H' b=Ã (.tbl (ps++more)),iM (Rows.ts Ϣ (XV ϣ)) hi,Ϣ X (.Subscript e ÝN pos),(by have e:((Ŷ its.toArray.size Ϣ) λ i=>(bs[i]?).getD ϣ)=Ϥ id:=by rw[Zl,<-hlen];exact ϥ bs),some (Ò [uv,pv,Î it.tx,.bl it.dn,whV it.wh,.bl it.fo]),(by rw[dU hc];have:=g.nn q hq;split;.rename_i e;ext Ļ;exact ô č Ç Ϣ ÂA ϣ this),Hp->(Þ Hp)->Prop,ÃK Ϣ h' hh g' g d' d (t':=t) (ch:=[]) un hok bare (Â2 b z z),λ s Q E st hQ=>ÞS Ϣ λ h' he'=>hQ h' s.toks (Óy he' h Ĉ),(by rw[typeLookup_type,builtinLookup_eq_fast];kernel_rfl),(by exists Ϣ;obtain⟨v,d,rfl,⟨dd,c,wa,cs,rfl,h2,h3,h4,r,h5,h6⟩,q⟩:=h),(by have lzw:Ň L.zip W=L.length:=by rw[List.length_zip,lW,Nat.min_self]),(·,Å,l,ax L,aT L,rfl,Ϣ.1,oW Ϣ.2,(by show Íy l1 (Nat.le_of_eq ll))),(by intro d e hd he hh ho;have od:=(h.fit d hd).own;have od:1<=own d:=od),∀{prog:XL}{w:XM}{A:XN},0,∃its:XG,Vals xs its/\Ϣ s.heap a its.toArray/\Ń xs.length,Ϣ t b vs.toArray ws.toArray n n2 dd dd2 sl sl2 (û hv),∀(Çu ha PE hr PA es t),0,ξ Builtin.Dict_items.newIterator (Yj Ϣ ϣ (z9 (Yw Ϣ ϣ ? _))),∀(l:As β)(n:Nm)(i:β),0,∀(c:Ď cU d ts\/Ą Υ),0,∀(e:Eqo a b){w w':Str},0,(by have Ϣ:ExcAt K ϣ Ϥ:=ϥ;have Ϧ:ExcAt K ϧ (Á9 c_LimbError VE):=Ϩ),List.replicate ÁM,let⟨t,h,q⟩:=Ϣ cdv A outer s H vs Q E hr hsp;#[t,h.h,q],(by show Θ (ÜR dictGet) _;show í (Fo ho hd hall ? _)),(by have hcB:(Á9 Ϣ ϣ).contains (.type "BaseException")=true:=by rw[Xr,Ϥ,Bool.or_true]),(by simp[Ϣ,PyData.depth,ϣ]),us.length=ps.length->bindArgs Ϣ #[us,[]]=pure (ps.zip us),Ϣ kindOf (P.zip vs) m x,(∀b,Value.ref a=Æ b->∃ob,Ġ b ob/\ob.dict=none),(lX (ę rfl) p1 p2),λ vs H Q E=>H f=Ã Ϣ/\H c'=Ã (lO c' qual)/\sp vs H Q E,#[λ I h=>let⟨its,r,p,_⟩:=Ϣ h;ϣ,λ hh it t n xs=>Ϥ hh it t n xs,ϥ],if x=n then itn.tx.length+itm.tx.length else wt ol x,∀(a7:Âg spNameOf)(Ux:Ŀ 2 "hears" ["deed","name"] spHears),0,(show fQ [r]=Ϣ from by ext ÀY fQ List.filterMap_cons hb;rfl),∀{xs:Ä α}{ys:Ä β},0,(base.get? b).isSome=true,(by ext ÅL;exists[xs,hq,hx],hg;ext Æd rv p Ϣ;ext Åc Û;have hl:=rv.length),∀(hr:Ç3 X.A)(Îw Ö C),0,∀(Ãz X Cx e XT)(t:TO),0,∀(h1:c->A)(h2:¬c->B),0,∀(fas:∀b∈as,á b),0,∀{ol e:Ol} {rs:Ä bu},0,(by .rw[XB c]at h;rw[de λ z=>c (jZ (r.1.symm.trans z))];exact ih h),[Î "move",Î "write",Î "mark",Î "due",Î "fold"],(by
 by_cases c:(Ő ol m)
 .exact c
 .rw[XB c,nG]at hw;cases hw),∀(pe:∀x∈M,x∈ol),0,Un fs ex H (ø Ϣ o),o.data=.seq its n/\Ń its.size/\Vals xs its.toList,(by ext ÁH ru ru2;show Õz (ÃD ha1) [ib,rb,pb,zb] S.I.tuple (ÃD ha2)),.seq (ÉK items.toList.drop sIx items.size).toArray,(if ú W.kitMeta T then W.subIn K Óq else none)=_,Æh d->iJ ts ol' ds,(by
 ext Äb hc
 .exact#[_,e1]
 .show þ Þm #[o,eo]),(by have Ϣ:∀b o,hp.get? b=ò->b≠ϣ:=λ b o q z=>by rw[z]at q;exact nomatch Ϥ q),Òk s1.heap.push "dict_items" (List.toArray [Æ a]),(pL (f:=wt Ϣ) (g:=wt ol) nd hn λ y hy=>by rw[pR,XB hy]),#[Ü,Çq dx h1 T.cl T.nA,nq Â,ù g,ÉL n hg hub,ţ],(·,·,ÀJ,(.n 63),(Ñ Ç (ã 2) (ć (ÃQ 2 (ã 1)) (.n 63))),æ),b_c (aM (t_w (jN (fJ (ÏV)) (jV (Æz aE Cl 0)))) ÉZ),(by exists[o',es',ep',ho',r'],hm;show π ho ho' #[_,es',ep',hL,r']),(by exists[r1,r2,r3,r4],hr;show KW lt _ Ϣ),∀ω Ë Ës,Ém Z H Q (isTrue e X.env (eval e X.env)) Ϣ,ht i ys H x H' hlt pv y Ϣ ϣ,(by rcases S.par n (List.of_mem_zip hy).1 with q|q;.exact Α q),IsZip Ϣ z u v .ellipsis,(·,·,Ê,(Ñ ÈC (Ñ (.a 4) (š 1 2) (Ï9 0 3 4))),[_,_,_,_,_]),∀R:XE,R (.bool (HT.lexLt Ϣ ϣ)) s->ċ (ÊE Lt (Ï Ϥ) (Ï ϥ)) R (Âp) s,(by rw[List.zip_map_right]at Ϣ;obtain⟨⟨x,r⟩,hxr,rfl⟩:=Zw.mp Ϣ),q Â æb #[t,.Ϣ (ÊL),rfl,#[[Í (ÊL)],È up],trivial,kk],∀(ş n me)(x:Çp H L),0,(by
 .exists Ϣ,h.ok I.hok;exact ϣ
 .refine Ϥ;have e:=r.length;simp only[Zx]at e;omega),I0.fpW (l:=[kS,D]) Û Ϣ ϣ,(by ext æg Ϣ;exact ϣ (i:=i) (Ya.mp nd).2 (û h1) (û h2) hk),(if v<0 then max (v+É n) 0 else min v (É n)),{ cls:=.type "list",data:=.seq its'.toArray n' },Meets (Builtin.«tuple.__mul__» #[[Æ l,İ Ϣ u],[]]),∀(n1:1<=n) (n8:n<=8),0,∃fs:XG,KatTups Ϣ ϣ fs/\fs.length=Ϥ/\∀v∈fs,∃i t,v=İ i t,(ī Ux (ŏ 0 (Èc 1))),[Î "take",Î "off",Î "on",Î "none"],(by have hz:p.size=Ϣ:=Ö2;rw[ZR];intro i j hi hj hij;rw[Zx]at hi hj),b_c (Ĕ Ϣ fN.nd (aI eW aj (aI cV (ī Vj (ÈW 0)) aj))),∀b o,Ϣ b=ò->upd (ß Ϣ ϣ (.own Ϥ)) Ϥ (.ins CH ϣ []) b=ò,of_decide_eq_true (Bool.and_eq_true_iff.mp e).1,(.tbl (ps++more)),Äm W.kitx_list #[_,h1,rfl],λ x c e=>Ϣ x c (O.sub I.ok x c e),(by .obtain⟨⟨old,e1⟩,_⟩:=st;exact wpAny_pyIter_enum e1 h),(by have z':=(XB c).symm.trans z),(p.toList.map λ i=>ËK Ϣ),(·,·,p1.isList,p2.isList,(by simp[l1,l2]),(ÓL (Ím) ď hu)),Ď cU d ts\/Ą Υ,λ o h0=>#[RK.small' h0,λ o' h'=>RK.gone h'],(λ z=>by have:=s4 Â Ϣ;rw[<-z,gD]at this;cases this),á p'->Đ p' (ø p' (Õ (ms.map V.int))),(eval (Ã2 x pos) X.env),envOfC qual scope s.heap.objs.size f cd::outer,∃f fd,Çh Ϣ f sp/\ÁK x f/\Ď W.keepIn K (Ï f)/\Æs,(by show KW lt _ Ϣ;by_cases ϣ:Ϥ;.rw[XC ϣ];exact ϥ),(by have Ϣ:∀b o,Ġ b o->b≠s.heap.objs.size:=λ b o q=>Zz (Zr q)),Ϣ (s:=ů s' h1) f1 f3 f4 dd (ŗ h2 k1 k2 k3 up dd2),(by exists[ki,kv],ES I3 ok ry;exists[hd,ob,es,ep,hc,D],MY I3 oa),(by refine thn æQ (ο ws s2);ext ÜN;have hr2:Ç3 X.A.in1.in1:=à4),μ [a,nv,h1,h2,h3] h #[a,nv,h1,Ģ h2,h3.ts' s],H t=some (Ò (bU (Î wd.word::r) none (Ù 2))),Ϣ X (.AugAssign (Ã2 x pos') op e pos) (R8 i te ti),show s.heap.IsTuple a its.toArray from p,∀(hP:H P=ą tbl ps),0,thn (Íp hf.h Z) λ fv s3 Ϣ=>Calls.spliced_nil ? _,Àd Ϣ æ θ (Nat.le_of_eq q),∀{k:Ä Key}(Åe e a),0,(by have hl:Âa bC kvs k v<=sizeLine:=by have:=og kvs k v;omega),decide_eq_false λ z=>c ((vR Â).mp z),QS X (.Raise (Ù (Ãv (Ã2 x np) ϑ)) none pos),#[#[_,û he2],hs'.1.extBut sb.extBut ne.symm],(·,·,(ĝ Ç (Ų a 3) (ÁE ĝ (Ε a 2 1) .z)),Ŭ,θ,Ŝ,Ŝ),Ϣ hcl hge hg hcode (C.keeps I.bk) oP,(∃o,Heap.get? h' a=ò/\Åy "AttributeError"),λ Z H R=>tl Z H λ x H1=>∃a kvs,Àh/\Å7 H1 a/\∀Ϣ,R ϣ Ϥ,if É it.tx.length<a then Ã false else none,Ι 1 C "at_or_beneath" (ÊP "one") (spUnder C),ÄW ["name","word","step"] (bc (ϕ Uw 0)) (æR),Ô8 [Ϣ] (ËW ϣ Ϥ ϥ Ϧ) (bc (ϕ ϧ Ϩ)) (ÃV (Àn [Ϣ,ϥ,Ϧ])),upd (ß H9 q5 (Ò (nc.map V.int))) q6 (Ò ÖH),KatFin h₀ L m kS a ks e e1 out (λ s3=>P (.done (.ret .none)) s3),fun q=>Nat.not_succ_le_zero _ (lin 0 ÆH (.n 0) (.h Áw (.c Ç) (.n 0) (ĝ (Ų n 0) Ç .z)) [_] θ (Int.le_of_eq q) xl),(by exact Int.le_antisymm (lin Áw Ç (.c Ç) (.h Áw Ç (.c Ç) .z) [_] [_] Á3 (Int.self_le_toNat _)) Ϣ),(by refine Ϣ;refine#[Å,Å,Ł st hst,λ va H2 s2 e2=>? _]),I.turned (t':=s.toks) (λ b o hb e=>eb b o hb e) f0 f1,jT (b:=false) I2 (yJ hc I2 (hH.moved tab sT) hz) h64 hl (.inl hne),(·,·,(.a 3),(Ñ (.a 3) Š)),(by
 show í ? _
 first|show í Ϣ|show í ϣ
 show í (wpAny_fieldsOf ho hd ? _)
 have hown:Builtin.Dict_items.ownsTuple Ϥ = false:=⋯
 simp only[hown,YY,Y4]
 ext Òc d
 show í (Zb ? _)
 show í (Yj hod hdd ? _)),excClassObj nm Ϣ C N bs bm hdct sn sub ab col dd k0 k1,∀(Ϣ:W.plainGet K ϣ Str.empty=true)(Ϥ:W.hasDictIn K ϣ=true)(ϥ:W.plainOver K ϣ=true),0,iq (it:={ it with Ϣ:=ϣ }) S1 R1 (s2.trans s3) #[t,uw,È pw,e3,c3.ts (XV (s2.trans s3)),c4.ts (XV (s2.trans s3))],∀(hz:Ϣ<=1000)(hn:∀i ys H,Pv i ys H->ys.length<=i),0,∀(c:W.codeIn K Ϣ ϣ=true)(Ϥ:W.keepIn K (Ï f)=true),0,(by refine wpAny_pyNext_enum_itemD Ϣ e1 ϣ lx ne (by simp[ne,ha.1]) λ x h' tk qx ho hs' hT hsz hk=>? _;refine#[Å,wpAny_letOwnedTupleGo_enum (s:={ s with heap:=h',toks:=tk+1 }) ho (Ú h2 he2 sb)];obtain⟨xv,ex⟩:∃xv,Ý xs xv:=#[xs[i],Ĉ hi];exists[x',gx,rxv],rx.get ex;have qx':Ý its x:=û qx),(·,_,_,_,Å,as5,cl6,_),(hk pos XU s1 Z H1 (λ zs H2=>∃f,zs=ġ f/\sC X P Á6 lpos params body scope [(y,cy)] H1 f H2) I1 (uA tab λ f H2 mk=>#[È f,mk])),λ _ _ _ _=>Λ je (n:=3) rfl rfl (bS (ÁX 0 (Àn ["name","word","step"])) (bS (ÁX 1 (Àn ["name","word","step"])) (bS (ÁX 2 (Àn ["name","word","step"])) ic))),#[Å,.inl #[Ì _,XX (wu Â nrB.1)],Ü,Å,cA,_,ë,XX (wu Â ckB.1),kU ha,Å,as5[hN],_,_,Å,rfl,XX (wu Â cB),gF (Ă lc' hNn),sz rfl,λ q7 f7=>#[pn,_,Å,rfl,af f7 ì (wu Â nrB.1),bo (Ż nQ),? _]],(by rw[Yu];exact â (ι n 0 a 0) (.n 63) Ϣ ď ϣ Ϥ),(·,p,ex,Å,h2),(by
 have hv:Ý its v:=û hP
 have hi:i<bs.length:=by rw[hlen];exact(Zv.mp hv).1
 exists[u,hu,ru],rv.get (i:=i) (x:=.bl bs[i]) (by rw[Zs,Ze hi];rfl)
 ext è hv hu hu),(·,·,P,w,H,h,a),(by
 have lx:i<its.toArray.size:=by rw[Zl,<-rx.length];exact hi
 have hh:=I.ok.hd hc
 show æO (Ϣ (A:=X.A.in1) hh it a ha.2.symm its.toArray) #[e4,ϣ]
 ext è gx qx' qx'),#[cD f1 fpn,_,_,_,æP,M++[(q7,É hN,am nc hN)],(nrX f2 f3 f4 e7).1,(nrX f2 f3 f4 e7).2.1,(nrX f2 f3 f4 e7).2.2,gB,gBx,lLn,Ŕ Zm y7 lM,fas5],(by
 .exact#[oe,vs,T,_,_,(oth e (Z7 ne)).trans he,hc,dt,v1,nT,ne,Ye _ hT (YX (Yc dT _)),Yc dT _,Ĉ z3]
 .show þ [o,q,d] dd #[o,(oth e (Z7 ne)).trans q,d]),(·,Å,p,Ãx,Å,d,Æ ia,rfl,e1▸ÉL n h2 hub),((af g3 _).trans (af gt _)),wpAny_pyNext_enum_endD (Ϣ (A:=X.A.in1) hh it a ha.2.symm its.toArray),Dfs M stk rst Ϣ/\outd++rst=out/\ĺ ϣ R rs/\RwsAt ϣ outd rs/\ĺ ϣ Aa as/\SksAt ϣ stk.reverse as/\Ϥ=[Ö p,Ö D,Ö R,Ö Aa,o4,o5,o6],(·,·,hZ,hyc,hcy,hr2,(hbd ì),λ A outer s H v Q hr' hs=>let⟨t,t1,t2⟩:=F.ex f c' cy kv A outer s H v Q hr' hs;#[t,t1.h,t2]),þ [nv,rfl,a1],(by show Ϣ kindOf ((p,w)::P.zip vs) m x=_;unfold Ϣ),(hs.2 b (Zz (ZI (Zr e) (I.ok.cab x c hfn hc)))).trans,λ D C s4 H4 ys J4 hn4 fC q4=>? _,(W.Looks.here (s:=ÂQ) Ϣ ? _),â (Ã3 (ã 0)) Ê,(by
 .exists[m,_,o',_,_,e',_],hn;exact#[o',Ă hL e']
 .exact Ϣ),(hs.2 b (Zz (ZI (Zr e) I.ok.above))).trans,(·,·,(É es.size<0),Array.getElem?_eq_none,(Zf _)),(by show Òo (Yw hod hdd ? _) (É i<0) Yg hx ? _),(by have tT:IsTup h2 s.heap.objs.size [İ i tk,x].toArray:=#[_,sb.extBut Â (Yf lte) hT,ľ]),am sc (Ϣ:Int).toNat,A.deeper (ÅO (ao st) cdv),(λ c ob hc q=>by simp only[Zi,ZB,y8,not_or]at hc;exact kp c ob hc.2 q),#[T,[Í k,p],rfl,XW ad,rfl,Í k,[p],Ì p,[],î,hs k p Z H hx pv T hT]]
namespace Lake
open PySem PySem.Spec PyProof.Rows
theorem e0_4{A B C D:Prop}{G:Prop}(h:A/\B/\C/\D)(f:A->B->C->D->G):G:=f h.1 h.2.1 h.2.2.1 h.2.2.2
theorem e1_3{a:Sort _}{A B C:a->Prop}{G:Prop}(h:∃x,A x/\B x/\C x)(f:∀x,A x->B x->C x->G):G:=h.elim fun x h=>f x h.1 h.2.1 h.2.2
theorem e2_2{a b:Sort _}{A B:a->b->Prop}{G:Prop}(h:∃x y,A x y/\B x y)(f:∀x y,A x y->B x y->G):G:=h.elim fun x h=>h.elim fun y h=>f x y h.1 h.2
theorem e0_5{A B C D E:Prop}{G:Prop}(h:A/\B/\C/\D/\E)(f:A->B->C->D->E->G):G:=f h.1 h.2.1 h.2.2.1 h.2.2.2.1 h.2.2.2.2
theorem e1_4{a:Sort _}{A B C D:a->Prop}{G:Prop}(h:∃x,A x/\B x/\C x/\D x)(f:∀x,A x->B x->C x->D x->G):G:=h.elim fun x h=>f x h.1 h.2.1 h.2.2.1 h.2.2.2
theorem e2_3{a b:Sort _}{A B C:a->b->Prop}{G:Prop}(h:∃x y,A x y/\B x y/\C x y)(f:∀x y,A x y->B x y->C x y->G):G:=h.elim fun x h=>h.elim fun y h=>f x y h.1 h.2.1 h.2.2
theorem e3_2{a b c:Sort _}{A B:a->b->c->Prop}{G:Prop}(h:∃x y z,A x y z/\B x y z)(f:∀x y z,A x y z->B x y z->G):G:=h.elim fun x h=>h.elim fun y h=>h.elim fun z h=>f x y z h.1 h.2
theorem e0_6{A B C D E F:Prop}{G:Prop}(h:A/\B/\C/\D/\E/\F)(f:A->B->C->D->E->F->G):G:=f h.1 h.2.1 h.2.2.1 h.2.2.2.1 h.2.2.2.2.1 h.2.2.2.2.2
theorem e1_5{a:Sort _}{A B C D E:a->Prop}{G:Prop}(h:∃x,A x/\B x/\C x/\D x/\E x)(f:∀x,A x->B x->C x->D x->E x->G):G:=h.elim fun x h=>f x h.1 h.2.1 h.2.2.1 h.2.2.2.1 h.2.2.2.2
theorem e2_4{a b:Sort _}{A B C D:a->b->Prop}{G:Prop}(h:∃x y,A x y/\B x y/\C x y/\D x y)(f:∀x y,A x y->B x y->C x y->D x y->G):G:=h.elim fun x h=>h.elim fun y h=>f x y h.1 h.2.1 h.2.2.1 h.2.2.2
theorem e3_3{a b c:Sort _}{A B C:a->b->c->Prop}{G:Prop}(h:∃x y z,A x y z/\B x y z/\C x y z)(f:∀x y z,A x y z->B x y z->C x y z->G):G:=h.elim fun x h=>h.elim fun y h=>h.elim fun z h=>f x y z h.1 h.2.1 h.2.2
theorem e4_2{a b c d:Sort _}{A B:a->b->c->d->Prop}{G:Prop}(h:∃x y z w,A x y z w/\B x y z w)(f:∀x y z w,A x y z w->B x y z w->G):G:=h.elim fun x h=>h.elim fun y h=>h.elim fun z h=>h.elim fun w h=>f x y z w h.1 h.2
theorem e0_7{A B C D E F I:Prop}{G:Prop}(h:A/\B/\C/\D/\E/\F/\I)(f:A->B->C->D->E->F->I->G):G:=f h.1 h.2.1 h.2.2.1 h.2.2.2.1 h.2.2.2.2.1 h.2.2.2.2.2.1 h.2.2.2.2.2.2
theorem e1_6{a:Sort _}{A B C D E F:a->Prop}{G:Prop}(h:∃x,A x/\B x/\C x/\D x/\E x/\F x)(f:∀x,A x->B x->C x->D x->E x->F x->G):G:=h.elim fun x h=>f x h.1 h.2.1 h.2.2.1 h.2.2.2.1 h.2.2.2.2.1 h.2.2.2.2.2
theorem e2_5{a b:Sort _}{A B C D E:a->b->Prop}{G:Prop}(h:∃x y,A x y/\B x y/\C x y/\D x y/\E x y)(f:∀x y,A x y->B x y->C x y->D x y->E x y->G):G:=h.elim fun x h=>h.elim fun y h=>f x y h.1 h.2.1 h.2.2.1 h.2.2.2.1 h.2.2.2.2
theorem e3_4{a b c:Sort _}{A B C D:a->b->c->Prop}{G:Prop}(h:∃x y z,A x y z/\B x y z/\C x y z/\D x y z)(f:∀x y z,A x y z->B x y z->C x y z->D x y z->G):G:=h.elim fun x h=>h.elim fun y h=>h.elim fun z h=>f x y z h.1 h.2.1 h.2.2.1 h.2.2.2
theorem e4_3{a b c d:Sort _}{A B C:a->b->c->d->Prop}{G:Prop}(h:∃x y z w,A x y z w/\B x y z w/\C x y z w)(f:∀x y z w,A x y z w->B x y z w->C x y z w->G):G:=h.elim fun x h=>h.elim fun y h=>h.elim fun z h=>h.elim fun w h=>f x y z w h.1 h.2.1 h.2.2
theorem e0_8{A B C D E F I J:Prop}{G:Prop}(h:A/\B/\C/\D/\E/\F/\I/\J)(f:A->B->C->D->E->F->I->J->G):G:=f h.1 h.2.1 h.2.2.1 h.2.2.2.1 h.2.2.2.2.1 h.2.2.2.2.2.1 h.2.2.2.2.2.2.1 h.2.2.2.2.2.2.2
theorem e1_7{a:Sort _}{A B C D E F I:a->Prop}{G:Prop}(h:∃x,A x/\B x/\C x/\D x/\E x/\F x/\I x)(f:∀x,A x->B x->C x->D x->E x->F x->I x->G):G:=h.elim fun x h=>f x h.1 h.2.1 h.2.2.1 h.2.2.2.1 h.2.2.2.2.1 h.2.2.2.2.2.1 h.2.2.2.2.2.2
theorem e2_6{a b:Sort _}{A B C D E F:a->b->Prop}{G:Prop}(h:∃x y,A x y/\B x y/\C x y/\D x y/\E x y/\F x y)(f:∀x y,A x y->B x y->C x y->D x y->E x y->F x y->G):G:=h.elim fun x h=>h.elim fun y h=>f x y h.1 h.2.1 h.2.2.1 h.2.2.2.1 h.2.2.2.2.1 h.2.2.2.2.2
theorem e3_5{a b c:Sort _}{A B C D E:a->b->c->Prop}{G:Prop}(h:∃x y z,A x y z/\B x y z/\C x y z/\D x y z/\E x y z)(f:∀x y z,A x y z->B x y z->C x y z->D x y z->E x y z->G):G:=h.elim fun x h=>h.elim fun y h=>h.elim fun z h=>f x y z h.1 h.2.1 h.2.2.1 h.2.2.2.1 h.2.2.2.2
theorem e4_4{a b c d:Sort _}{A B C D:a->b->c->d->Prop}{G:Prop}(h:∃x y z w,A x y z w/\B x y z w/\C x y z w/\D x y z w)(f:∀x y z w,A x y z w->B x y z w->C x y z w->D x y z w->G):G:=h.elim fun x h=>h.elim fun y h=>h.elim fun z h=>h.elim fun w h=>f x y z w h.1 h.2.1 h.2.2.1 h.2.2.2
theorem e0_9{A B C D E F I J L:Prop}{G:Prop}(h:A/\B/\C/\D/\E/\F/\I/\J/\L)(f:A->B->C->D->E->F->I->J->L->G):G:=f h.1 h.2.1 h.2.2.1 h.2.2.2.1 h.2.2.2.2.1 h.2.2.2.2.2.1 h.2.2.2.2.2.2.1 h.2.2.2.2.2.2.2.1 h.2.2.2.2.2.2.2.2
theorem e1_8{a:Sort _}{A B C D E F I J:a->Prop}{G:Prop}(h:∃x,A x/\B x/\C x/\D x/\E x/\F x/\I x/\J x)(f:∀x,A x->B x->C x->D x->E x->F x->I x->J x->G):G:=h.elim fun x h=>f x h.1 h.2.1 h.2.2.1 h.2.2.2.1 h.2.2.2.2.1 h.2.2.2.2.2.1 h.2.2.2.2.2.2.1 h.2.2.2.2.2.2.2
theorem e2_7{a b:Sort _}{A B C D E F I:a->b->Prop}{G:Prop}(h:∃x y,A x y/\B x y/\C x y/\D x y/\E x y/\F x y/\I x y)(f:∀x y,A x y->B x y->C x y->D x y->E x y->F x y->I x y->G):G:=h.elim fun x h=>h.elim fun y h=>f x y h.1 h.2.1 h.2.2.1 h.2.2.2.1 h.2.2.2.2.1 h.2.2.2.2.2.1 h.2.2.2.2.2.2
theorem e3_6{a b c:Sort _}{A B C D E F:a->b->c->Prop}{G:Prop}(h:∃x y z,A x y z/\B x y z/\C x y z/\D x y z/\E x y z/\F x y z)(f:∀x y z,A x y z->B x y z->C x y z->D x y z->E x y z->F x y z->G):G:=h.elim fun x h=>h.elim fun y h=>h.elim fun z h=>f x y z h.1 h.2.1 h.2.2.1 h.2.2.2.1 h.2.2.2.2.1 h.2.2.2.2.2
theorem e4_5{a b c d:Sort _}{A B C D E:a->b->c->d->Prop}{G:Prop}(h:∃x y z w,A x y z w/\B x y z w/\C x y z w/\D x y z w/\E x y z w)(f:∀x y z w,A x y z w->B x y z w->C x y z w->D x y z w->E x y z w->G):G:=h.elim fun x h=>h.elim fun y h=>h.elim fun z h=>h.elim fun w h=>f x y z w h.1 h.2.1 h.2.2.1 h.2.2.2.1 h.2.2.2.2
theorem xq1{α:Sort _}{t:α}{p:α->Prop}{G:Prop}(h:∃x,x=t/\p x)(f:p t->G):G:=h.elim fun _ h=>f (h.1▸h.2)
theorem xq2{α:Sort _}{t:α}{p:α->Prop}{G:Prop}(h:∃x,t=x/\p x)(f:p t->G):G:=h.elim fun _ h=>f (h.1▸h.2)
set_option genSizeOf false in
set_option genInjectivity false in
inductive L_t|a(i:Nat)|n(i:Nat)|p(s t:L_t)|d(s t:L_t)|m(Ŏ i t L_t)|r(t:L_t)(i:Nat)|c(t:L_t)|g(t:L_t)
set_option genSizeOf false in
set_option genInjectivity false in
inductive L_c|z|h(Ŏ c b Bool)(s t:L_t)(r:L_c)
noncomputable section
open Lean.Omega
def laX{α}(Ŧ z α l α):Nat->α:=ÖD z x f x
def laL(t:L_t):Bool->Bool->LinearCombo:=t.rec (fun i b q=>bif b==q then .coordinate i else {}) (fun i _ q=>bif q then {} else {const:=i}) (fun _ _ f g b q=>f b q+g b q) (fun _ _ f g b q=>bif b then f b q+-g b q else {}) (fun i _ f b q=>É i*f b q) (fun _ i f b q=>É i*f b q) (fun _ f b q=>bif b then f false q else {}) (fun _ f b q=>bif b then -f b q else {})
def laB(b:Bool)(s t:L_t)(q:Bool):LinearCombo:=laL s b q+-laL t b q
def laT(r:L_c):Bool->LinearCombo:=r.rec (fun _=>{}) fun c b s t _ f q=>É c*laB b t s q+f q
def laK ÏC:Bool:=decide ((f false).const+(f true).const<0)&&((f false).coeffs.all (fun x:Int=>decide (x≤0))&&(f true).coeffs.all (fun x:Int=>Ài x 0))
section
variable(l:Ä Nat)(y:Ä Int)
def laN(t:L_t):Nat:=t.rec (laX 0 l) (fun i=>i) (fun _ _ a b=>a+b) (fun _ _ _ _=>0) (fun i _ a=>i*a) (fun _ i a=>a*i) (fun _ _=>0) fun _ _=>0
def laI(t:L_t):Int:=t.rec (laX 0 y) (fun i=>Int.ofNat i) (fun _ _ a b=>a+b) (fun _ _ a b=>a-b) (fun i _ a=>Int.ofNat i*a) (fun _ i a=>a*Int.ofNat i) (fun t _=>laN l t) fun _ a=> -a
def laR(b:Bool)(s t:L_t):Prop:=b.rec (laN l s≤laN l t) (laI l y s≤laI l y t)
def laH(r:L_c):Prop->Prop:=r.rec (fun G=>G) fun _ b s t _ f G=>laR l y b s t->f G
def laF ÏC:Int:=(f false).eval (l.map Nat.cast)+(f true).eval y
#check 0
variable{l:Ä Nat}{y:Ä Int}
theorem laX_n(ÄO l):∀i,É (laX 0 l i:Nat)=IntList.get (l.map Nat.cast) i:=ÖD rfl _ h rfl
theorem laX_i(l:Ä Int):∀i,laX 0 l i=IntList.get l i:=ÖD rfl _ h rfl
theorem laF_z:laF l y (fun _=>{})=0:=rfl
theorem laS(a b c d:Int):a+b+(c+d)=a+c+(b+d):=(Int.add_assoc a b _).trans ((congrArg (a+·) (Int.add_left_comm b c d)).trans (Int.add_assoc a c _).symm)
theorem laF_add ãQ:laF l y (fun q=>f q+g q)=laF l y f+laF l y g:=(ÔB LinearCombo.add_eval) (laS ..)
theorem laF_mul(k:Int)ÏC:laF l y (fun q=>k*f q)=k*laF l y f:=
  (ÔB LinearCombo.smul_eval) (Int.mul_add ..).symm
theorem laF_neg ÏC:laF l y (fun q=>-f q)=-laF l y f:=
  (ÔB LinearCombo.neg_eval) Int.neg_add.symm
theorem laF_sub ãQ:laF l y (fun q=>f q+-g q)=laF l y f-laF l y g:=(laF_add f fun q=>-g q).trans ((congrArg (_+·) (laF_neg g)).trans Int.sub_eq_add_neg.symm)
theorem laF_k(k:Int):laF l y (fun q=>bif q then {} else {const:=k})=k:=by
  show k+IntList.dot [] _+(0+IntList.dot [] _)=k
  rw[IntList.dot_nil_left,IntList.dot_nil_left,Int.add_zero,Int.add_zero,Int.add_zero]
theorem laN_eq(t:L_t):(laN l t:Int)=laF l y (laL t false):=t.rec
  (fun i=>(laX_n l i).trans (ßq (Int.add_zero _).symm))
  (fun _=>(laF_k _).symm)
  (ÕG HAdd.hAdd laF_add)
  (fun _ _ _ _=>laF_z.symm)
  (fun i _ h=>ÏA)
  (fun _ i h=>(Int.mul_comm ..).trans (ÏA))
  (fun _ _=>laF_z.symm) fun _ _=>laF_z.symm
theorem laI_eq(t:L_t):laI l y t=laF l y (laL t true):=t.rec
  (fun i=>(laX_i y i).trans (ßq (Int.zero_add _).symm))
  (fun _=>(laF_k _).symm)
  (ÕG HAdd.hAdd laF_add)
  (ÕG HSub.hSub laF_sub)
  (fun i _ h=>ÏA)
  (fun _ i h=>(Int.mul_comm ..).trans (ÏA))
  (fun t _=>laN_eq t) fun _ h=>(congrArg Neg.neg h).trans (laF_neg _).symm
theorem laR_le{b s t}:laR l y b s t->0≤laF l y (laB b t s):=(laF_sub ..).symm▸b.rec
  (fun e=>Int.sub_nonneg_of_le ((laN_eq (y:=y) s)▸(laN_eq (y:=y) t)▸Int.ofNat_le.mpr e))
  (fun e=>Int.sub_nonneg_of_le ((laI_eq s)▸(laI_eq t)▸e))
theorem laT_le{c b s t r}(e:laR l y b s t)(q:0≤laF l y (laT r)):0≤laF l y (laT (.h c b s t r)):=
  ((laF_add (fun q=>É c*laB b t s q) (laT r)).trans (congrArg (·+_) (laF_mul c (laB b t s)))).symm▸Int.add_nonneg (Int.mul_nonneg (Int.natCast_nonneg c) (laR_le e)) q
theorem laH_of(r:L_c):∀G:Prop,(0≤laF l y (laT r)->G)->laH l y r G:=r.rec (fun _ f=>f (Int.le_refl 0)) fun _ _ _ _ _ h G f e=>h G fun q=>f (laT_le e q)
theorem laA_le(c:Ä Int):∀(ÄO l),ú c.all (fun x=>decide (x≤0))->IntList.dot c (l.map Nat.cast)≤0:=c.rec (fun _ _=>Int.le_of_eq IntList.dot_nil_left)
  fun _ _ h l e=>l.rec (Int.le_of_eq IntList.dot_nil_right) fun n l _=>
   IntList.dot_cons_cons.symm▸ÃK Int.add_le_add a _ b 0 c _ (d:=0) (Int.mul_nonpos_of_nonpos_of_nonneg (åW) (Int.natCast_nonneg n)) (h l Ù4)
theorem laK_lt{f:Bool->LinearCombo}(e:ú laK f):laF l y f<0:=by
  have a:=laA_le _ l ((Bool.and_eq_true_iff.mp Ù4).1)
  have b:Ö8 true y=0:=IntList.dot_of_left_zero fun x h=>of_decide_eq_true (List.all_eq_true.mp ((Bool.and_eq_true_iff.mp Ù4).2) x h)
  have c:=åW
  show (f false).const+Ö8 false _+((f true).const+Ö8 true y)<0
  rw[b,Int.add_zero,Int.add_right_comm]
  exact Int.lt_of_le_of_lt (Int.add_le_add_left a _) ((Int.add_zero _).symm▸c)
theorem laG{b s t}:¬laR l y b s t->laR l y b (ϓ p t) s:=b.rec (fun d=>Nat.lt_of_not_le d) fun d=>Int.lt_of_not_ge d
theorem _root_.lin(c)(b)(s t)(r)(l)(y)(e:ú laK (laT (.h c b (ϓ p t) s r))):laH l y r (laR l y b s t):=
  laH_of r _ fun q=>Classical.byContradiction fun d=>Int.not_lt.mpr (laT_le (laG d) q) (laK_lt e)
#check 0
abbrev Key:=Sum Int Str
def sU:Key->ÀX XJ
 |Ó k,v=>Value.isInt k v
 |ā x,v=>Value.isStrOf x v
def Um(w:XM):Key->Int
 |Ó k=>hashInt k
 |ā x=>hashStr w x
theorem dg:∀{k:Key} {v:XJ},Ď sU k v->(∃i t,k=Sum.inl i/\v=Value.int i t)\/(∃x t,k=Sum.inr x/\v=Value.str x t)
 |Ó i,v,h=>by exists[t,e],ŕ Value.isInt_shape k i v v h;exact Α #[i,t,Ì e]
 |ā x,v,h=>by exists[t,e],ŕ Value.isStrOf_shape x x v v h;show ſ #[x,t,Ì e]
theorem IF(i:Int)(t:Tok):Ď sU (Ó i) (İ i t):=ÉA sU Value.isInt
theorem IG(x:Str)(t:Tok):Ď sU (ā x) (.str x t):=ÉA sU Value.isStrOf
theorem Qq(a b:Int):ÒV Sum.inl Sum.inl=(a==b):=by
 ext å e a b
 .ext Ļ;simp
 .have h:¬(Sum.inl a:Key)=Sum.inl b:=λ q=>e (Sum.inl.inj q);rw[decide_eq_false h];exact(YS.mpr e).symm
theorem Qt(a b:Str):ÒV Sum.inr Sum.inr=Ài a b:=by
 ext å e a b
 .ext Ļ;simp
 .have h:¬(Sum.inr a:Key)=Sum.inr b:=λ q=>e (Sum.inr.inj q);rw[decide_eq_false h,decide_eq_false e]
theorem Qr(a:Int)(b:Str):ÒV Sum.inl Sum.inr=false:=decide_eq_false (λ q=>Ş q)
theorem Qs(a:Str)(b:Int):ÒV Sum.inr Sum.inl=false:=decide_eq_false (λ q=>Ş q)
def bA(prog:XL)(w:XM):PySem.KeyKind prog w Key where
 is:=sU
 hash:=Um w
 inj:=λ v a b ha hb=>by
  ext ÆW ha i t rfl x
  .ext ÆW hb j u e y
   .show Æk e e1 _;rw[e1]
   .exact Ş e
  .ext ÆW hb j u e y
   .exact Ş e
   .show Æk e e1 _;rw[e1]
 byValue:=λ k v h=>by rcases dg h with⟨i,t,rfl,rfl⟩|⟨x,t,rfl,rfl⟩<;>rfl
 pyHash:=λ hv h=>by
  ext ÆW hv i t rfl x
  ext Áj wpAny_pyHash_int h wpAny_pyHash_str h
 eqBool:=λ hu hv h=>by
  ext ÆW hu i t rfl x
  .ext ÆW hv j u rfl y
   .rw[Qq]at h;exact wpAny_eqBool_int h
   .rw[Qr]at h;exact SeqAt.EqAt.int_str i t y u Β h
  .ext ÆW hv j u rfl y
   .rw[Qs]at h;exact SeqAt.EqAt.str_int x t j u Β h
   .rw[Qt]at h;exact wpAny_eqBool_str h
 «strs»:=λ k x t v h=>by
  ext ÆW h i u e y
  .exact Ş e
  .show Æk e e1 _;subst e1;cases v<;>rfl
theorem DR(ËU i Int t Tok):(bA prog w).is (Ó i) (İ i t)=true:=IF i t
theorem DU(ËU x Str t Tok):(bA prog w).is (ā x) (.str x t)=true:=IG x t
inductive V where
 |non|bl (b:Bool)|int (i:Int)|str (x:Str)|byt (b:Array UInt8)|flt (b:UInt64)|ref Ō|ty (n:String)
 deriving DecidableEq
def RelV:V->Þ XJ
 |.non,u=>u=Value.none
 |.bl b,u=>u=Value.bool b
 |Í i,u=>Ðh Value.int i
 |Î x,u=>Ðh Value.str x
 |.byt b,u=>Ðh Value.bytes b
 |.flt b,u=>Ðh Value.float b
 |Æ a,u=>u=Value.ref a
 |.ty n,u=>u=Value.type n
abbrev Vals:Ä V->Þ XG:=Paired RelV
theorem Vals.length(r:Vals xs us):xs.length=us.length:=ZC r
theorem Vals.get:∀Ác {us:XG} {i:Nat} {x:V},Vals xs us->À8 x->∃u,Ý us u/\RelV x u
 |_,_,_,_,.nil,e=>ÀU e
 |_,_,0,_,Ę r _,e=>by simp at e;ext Ļ;exact#[Å,r]
 |_,_,i+1,x,Ę _ t,e=>by exists[u,h1,h2],ŕ Vals.get i i x x t (û e);exact#[u,û h1,h2]
theorem Vals.set(r:RelV x u):∀Ác {us:XG} (i:Nat),Vals xs us->Vals (xs.set i x) (us.set i u)
 |_,_,_,.nil=>.nil
 |_,_,0,Ę _ t=>Ę r t
 |_,_,i+1,Ę q t=>Ę q (Vals.set r i t)
theorem Vals.append:∀ÌS {us ws:XG},Vals xs us->Vals ys ws->Vals (xs++ys) (us++ws)
 |_,_,_,_,.nil,s=>s
 |_,_,_,_,Ę r t,s=>Ę r (Vals.append t s)
theorem Vals.take:∀Ác {us:XG} Ė,Vals xs us->Vals (xs.take n) (us.take n)
 |_,_,0,_=>.nil
 |_,_,_+1,.nil=>.nil
 |_,_,n+1,Ę r t=>Ę r (Vals.take n t)
theorem Vals.drop:∀Ác {us:XG} Ė,Vals xs us->Vals (xs.drop n) (us.drop n)
 |_,_,0,r=>r
 |_,_,_+1,.nil=>.nil
 |_,_,n+1,Ę _ t=>Vals.drop n t
def RelO:Option V->Ë0 XJ
 |Ľ,Ã u=>RelV v u
 |none,none=>True
 |_,_=>False
def KV{κ:Type}:Ŋ κ V->Ŋ κ XJ->Prop:=Paired fun(p:κ×V) (q:κ×XJ)=>p.1=q.1/\RelV Ĺ q.2
def kV:Key->V
 |Ó i=>Í i
 |ā x=>Î x
inductive HO where
 |lst ÀT
 |tup ÀT
 |dK (kvs:Ŋ Key V)|dT (kvs:Àr)
 |set (S:ÀX Int)Ė
 |ins (C dx:XH)(fs:ő V)
 |own (x:XH)
 |xd (fs:ő V)
 |met (f x:XH)
 |rng (lo hi:Int)
 |frz (o:Obj)(u:HO)
 |tbl (ps:Array XJ)
 |ext (φ:Þ Heap)
abbrev Hp:=XH->Option HO
def upd Ë Ō(o:HO):Hp:=λ b=>if b=a then ò else H b
theorem ad:ø a o a=ò:=Èx upd XC rfl
theorem ah(h:ō a):ø a o b=H b:=Èx upd XB h
theorem dO Ο(h:H a=ò)(h':H b=Ã u)(d:o≠u):a≠b:=by intro e;ext Ļ;rw[h]at h';exact d (Zt h')
theorem aq Ο(h:H a=ò)(h':á b):a≠b:=by intro e;ext Äl e h h'
section
variable(P:XL)(w:XM)
def ObjOk Ë(h:Heap)Ō:Þ HO
 |Õ xs=>Ń xs.length/\∃(its:XG) (n:Nat),Vals xs its/\h.get? a=ϝ ÆR n
 |Ò xs=>Ń xs.length/\∃its:XG,Vals xs its/\IsTup h a its.toArray
 |.dK kvs=>ÔY
 |.dT kvs=>Ń kvs.length/\Âk a/\∃xs:Êz,
   Paired (fun(p:Ä Key×V) (q:ÃY)=>p.1=q.1/\H q.2.1=Ã9 p/\RelV Ĺ q.2.2) kvs xs /\
   ∃o es ep,ϒ a/\o.ExactDict/\Ær/\es.toList=xs.map (entryOfKey ÐM)/\(xs.map (·.1)).Nodup
 |.set S n=>h.SetOf (intKind P w) a S n
 |Ä5 fs=>H dx=ą own a/\fs.length<=1000/\dx≠a/\h.get? a=Ã (W.instObj C dx) /\
   ∃mA,h.Ns1 dx mA/\(∀f,Öv)/\PySem.Within mA (fs.map (·.1))
 |.own _=>∃o,ϒ a
 |.xd fs=>∃mA,h.Ns1 a mA/\∀f,Öv
 |.rng lo hi=>∃t u v,h.get? a=some (Çl lo hi)
 |ÁQ u=>ϒ a/\ObjOk H h a u
 |.tbl ps=>h.get? a=Ëz ps
 |.met f x=>Į h.get? a (Ø0 x)
 |.ext φ=>φ h/\(∃o,ϒ a)/\∀h1 h2:Heap,φ h1->(∀o,h1.get? a=ò->h2.get? a=ò)->φ h2
def HOk Ë(h:Heap):Prop:=∀a o,H a=ò->Ãk o
#check 0
section
variable{H':Hp}{h':Heap}{a:XH}
theorem ObjOk.lt(x:Ãk o):a<h.objs.size:=by
 cases o with
 |lst xs=>show Åa [_,_,_,_,e] x
 |tup xs=>show þ [_,_,_,p] x p.lt
 |dK kvs=>show Åa (Ñn o) x
 |dT kvs=>show Åa (Ñn o) x
 |set S n=>show Åa [o,_,_,_,e,_] x
 |ins C dx fs=>show Åa [_,_,_,e,_] x
 |own y=>show Åa [_,e] x
 |xd fs=>obtain⟨_,⟨_,_,_,e,_⟩,_⟩:=x;exact Zr e
 |rng lo hi=>show Åa [_,_,_,e] x
 |frz ob u=>show Åa [e,_] x
 |tbl ps=>exact Zr (show h.get? a=Ã _ from x)
 |met f y=>exact Zr (show h.get? a=Ã _ from x)
 |ext φ=>obtain⟨_,⟨_,e⟩,_⟩:=x;exact Zr e
theorem Paired.mapP Ï0{F G:α->Þ β}:∀{l₁:Ä α} {l₂:Ä β},Paired F l₁ l₂->(ÇB a b F G)->Paired G l₁ l₂
 |_,_,.nil,_=>.nil
 |_,_,Ę r t,f=>Ę (f Â r) (Paired.mapP t f)
theorem ObjOk.stay(x:Ãk o)(k:∀b u,(b=a\/H b=ą own a)->ÀC h.get? u h'.get?)(ho:∀b,ÀC H (.own a) H')(ht:∀b xs,ÀC H ÅA H'):ObjOk P w H' h' a o:=by
 induction o with
 |lst xs=>show þ [z,its,n,r,e] x #[z,its,n,r,ÃP e]
 |tup xs=>show þ [z,its,r,ob,e,c] x #[z,its,r,ob,ÃP e,c]
 |dK kvs=>show þ [z,y,vs,r,ob,es,ep,e,c] x #[z,y,vs,r,ob,es,ep,ÃP e,c]
 |dT kvs =>show þ [z,y,xs,r,ob,es,ep,e,c] x #[z,y,xs,Paired.mapP r λ p q z=>#[z.1,ht Â z.2.1,z.2.2],ob,es,ep,ÃP e,c]
 |set S n=>show þ [ob,es,ep,t,e,c] x #[ob,es,ep,t,ÃP e,c]
 |ins C dx fs =>obtain⟨d,z,ne,e,mA,⟨od,es,ep,e2,c⟩,r⟩:=x;exact#[ho _ d,z,ne,ÃP e,mA,#[od,es,ep,k Â (ā d) e2,c],r]
 |own y=>show þ [ob,e] x #[ob,ÃP e]
 |xd fs=>obtain⟨mA,⟨od,es,ep,e,c⟩,r⟩:=x;exact#[mA,#[od,es,ep,ÃP e,c],r]
 |rng lo hi=>show þ [t,u,v,e] x #[t,u,v,ÃP e]
 |frz ob u ih=>show þ [e,q] x #[ÃP e,ih q]
 |tbl ps =>have e:h.get? a=Ëz ps:=x;show h'.get? a=Ëz ps;exact k a _ (Ó rfl) e
 |met f y =>have e:Į h.get? a (Ø0 y):=x;show Į h'.get? a (Ø0 y);exact k a _ (Ó rfl) e
 |ext φ=>obtain⟨p,⟨o,e⟩,st⟩:=x;exact#[st Â p λ o q=>ÃP q,#[o,ÃP e],st]
theorem HOk.lt(x:HOk P w H h)(e:H a=ò):a<h.objs.size:=(x a o e).lt
theorem HOk.fresh(x:HOk P w H h)(e:h.objs.size<=a):á a:=by
 cases q:H a with
 |none=>rfl
 |some u=>show ĕ (ZI (x.lt q) e) (YZ _)
theorem HOk.kept(x:HOk P w H h)Îa:HOk P w H h':=λ a o e =>
 (x a o e).stay (λ b u _ q=>k b u q) ÏT (Η q q)
theorem HOk.laid(x:HOk P w H h)Îa(hp:h.objs.size<=a)(new:ÞU a o):HOk P w (ø a o) h':=λ b u e=>by
 have hn:=x.fresh hp;ext ÑI a e
 .rw[ah hb]at e;exact(x b u e).stay (λ c v _ q=>k c v q) (λ c q=>Â8 q hn) λ c xs q=>Â8 q hn
#check 0
def Rd Ë Ō(u:HO):Prop:=H a=Ã u\/∃o,H a=Ã (ÁQ u)
theorem Rd.of Ο(h:H a=Ã u):É5 u:=Ó h
theorem Rd.ok(r:É5 u)(x:HOk P w H h):Ãk u:=by
 rcases r with r|⟨o,r⟩
 .exact x a u r
 .exists[_,q],x a _ r;ext ŷ
def Mut:Ë0 HO
 |Ã (Õ _)=>True
 |ą dK _=>True
 |ą dT _=>True
 |Ã (.set Â)=>True
 |Ã (.ins ì)=>True
 |ą ext _=>True
 |_=>False
section
variable{P:XL}{w:XM}{H:Hp}{h h':Heap}{x e:XH}{o':HO}
theorem HOk.write Ãw(mu:Mut (H x))ÛC(new:ÞU x o'):HOk P w (ø x o') h':=λ b u q=>by
 have nown:∀c y,H c=ą own y->c≠x:=λ c y r z=>ÙN r
 have ntup:∀c xs,H c=ą tup xs->c≠x:=λ c xs r z=>ÙN r
 ext ÑI x q
 .rw[ah hb]at q;ext å hbe b e
  .have q':H b=ą own x:=by
    ext Ś he z z
    .show ĕ (hbe.trans z) hb
    .ext Œ hbe z
   ext è q q' q';exists[v,hv],heo;exact#[v,Ă hbe hv]
  .refine Ð4 ok q (λ c v hc r=>k c v ? _ r) (λ c r=>Ī (nown c b r) r) λ c xs r=>Ī (ntup c xs r) r
   ext Ś hc rfl hc
   .exact hbe
   .rintro rfl;ext Ś he z z
    .exact nown c b hc z
    .ext è hc z z;exact hb rfl
#check 0
structure Un(fs ex:Ä XH)(H H':Hp)(h h':Heap):Prop where
 keep:∀b o,ϒ b->á b->b∉fs->b∉ex->h'.get? b=ò
 slot:∀b o,ϒ b->á b->b∈fs->b∉ex->ÐC h'.get? o
 free:∀b o,ϒ b->á b->b∉ex->ê H' b
 there:∀b o,ϒ b->b∉ex->Í9 o' b
 tups:∀b xs,ÀC H ÅA H'
 frzs:∀b o u,ÀC H (ÁQ u) H'
 tbls:ä8
section
variable{fs fs' ex ex':Ä XH}{H H1 H2:Hp}{h h1 h2 h':Heap}{a x e:XH}{o:HO}
theorem Un.any(u:Un fs ex H H1 h h1)(q:h.get? b=Ã ob)(n:á b)(hx:b∉ex):ÐC h1.get? ob:=by
 by_cases hb:b∈fs
 .exact u.slot b ob q n hb hx
 .exact#[ob.slots,u.keep b ob q n hb hx]
theorem Un.kept Îa:Un fs ex H H h h' :=
 #[λ b ob q _ _ _=>k b ob q,λ b ob q _ _ _=>ÐG ob.slots ob,λ _ _ _ n _=>n,λ b ob q _=>ÐG ob ob,Η q q,ÄM q q,λ _ ps q=>#[Ů,ÇR q]]
theorem Un.refl:Un fs ex H H h h:=Un.kept (Η q q)
theorem Un.laid Îa(hp:h.objs.size<=a)(hn:á a):äv a h h' where
 keep:=λ b u q _ _ _=>k b u q
 slot:=λ b u q _ _ _=>ÐG u.slots u
 free:=λ b u q n _=>Ī (Zz (ZI (Zr q) hp)) n
 there:=λ b u q _=>ÐG u u
 tups:=λ b xs q=>Â8 q hn
 frzs:=λ b u xs q=>Â8 q hn
 tbls:=λ b ps q=>#[Ů,by rw[ah (aq q hn),q];simp]
theorem Un.write(mu:Mut (H x))ÛC:äv x h h':=by
 have hx:∀b,á b->ō x:=λ b n z=>ÙN n
 have hb:∀b,á b->ō e:=λ b n z=>by
  subst z;ext Ś he r r
  .exact hx b n r
  .ext è n r r
 have hm:∀b u,H b=Ã u->¬Mut (Ù u)->ō x:=λ b u q nm z=>by subst z;rw[q]at mu;exact nm mu
 refine#[Õw u q n k hb b u.slots,λ b u q n _=>Ī (hx b n) n,Č b u q _,
  λ b xs q=>Ī (hm b _ q λ z=>z) q,λ b u xs q=>Ī (hm b _ q λ z=>z) q,λ b ps q=>#[Ů,by rw[ah (hm b _ q λ z=>z),q];simp]]
 ext å hbe b e
 .ext Âb hbe heo
 .exact#[u,k b u hbe q]
#check 0
def trk(h:Heap)Ë:Ä XH:=(Ŷ h.objs.size filter) λ a=>(H a).isSome
def nW(h:Heap)Ë:Heap:=W.hideAll h (trk h H)
theorem Iy(h:Heap)Ë:(nW h H).objs.size=h.objs.size:=W.hideAll_size Â
theorem ql{h:Heap}Ο(e:ϒ b)(n:á b):(nW h H).get? b=ò :=
 W.hideAll_get _ e λ hm=>by have q:(H b).isSome=true:=(ZS.mp hm).2;rw[n]at q;simp at q
theorem Oj(e:(nW h H).get? b=ò):ϒ b/\á b:=by
 have e':ϒ b:=W.of_hideAll (trk h H) e;refine ÁI e';cases q:H b with
 |none=>rfl
 |some x =>have hm:b∈trk h H:=ZS.mpr #[Yh.mpr (Zr e'),Ĉ q];have z:(nW h H).get? b=none:=W.hideAll_none (trk h H) hm;ext è z e e
structure Mod(ζ mg XF)(base:Heap):Prop where
 kin:K.In base
 glob:base.Ns mainGlobals mg
 blt:∃mb,base.Ns builtinsNs mb/\∀x:Str,x≠"__name__"->mb x=bootBuiltins x
 nolimit:base.NoLimit
structure Cx where
 prog:XL
 w:XM
 K:XY
 mg:XF
 base:Heap
 A:XN
 N:Ä Str
 s₀:XI
 H₀:Hp
 env:Env
 outer:Ä Env
 stack:Ä Env
 ex:Ä XH
 fn:ÀX Str
 calm:Bool
 pn:XD
 xe:XE
def frs(l:Ä Env):Ä XH:=l.filterMap (·.frame)
abbrev Cx.fs(X:Cx):Ä XH:=frs X.outer
def Vis(sc:Scope)(x:Str):Prop:=sc.names.lookup x=Äw\/Èm sc.names.lookup x ÃH Às
def Loc(sc:Scope)(x:Str):Prop:=Èm sc.names.lookup x Äw ÃH
def Ub(env:Env)(h:Heap)(m:XF)(x:Str)(u:XJ):Prop :=
 (env.kindOf x=Äw/\m x=Ã u)\/((Èm env.kindOf x ÃH Às)/\∃c,env.cells.lookup x=Ã c/\h.IsCell c (Ù u))
structure Cx.Ok(X:Cx):Prop where
 mod:Mod X.K X.mg X.base
 kind:X.env.scope.kind=.function
 glob:X.env.globals=mainGlobals
 blt:X.env.builtins=builtinsNs
 above:X.s₀.heap.objs.size<=X.env.locals
 inj:∀x y c,ÇF x->ÇF y->x=y
 has:∀x,(Èm X.env.kindOf x ÃH Às)->∃c,ÇF x
 cab:∀x c,ú X.fn x->ÇF x->X.s₀.heap.objs.size<=c
 hd:Ą X.calm->X.A.handled=none
 frames:X.A.frames=Ã X.stack
 stk:X.stack=X.outer\/(X.stack=X.env::X.outer/\X.env.frame=Ã X.env.locals)
 exf:∀b∈X.ex,Â0 b/\Çn b
 bs:∀b o,X.base.get? b=ò->X.s₀.heap.get? b=ò/\ê X.H₀ b
 bsz:X.base.objs.size<=X.s₀.heap.objs.size
 noex:∀b o,X.base.get? b=ò->b∉X.ex
 exfs:∀b∈X.ex,b∉X.fs
 funs:X.s₀.heap.FunFrames X.base X.outer
 frf:∀b∈X.fs,ê X.H₀ b
structure Inv Ìk(Z:List (Option V))Ë(s:XI):Prop where
 ok:X.Ok
 os:s.os=X.s₀.os
 bare:AllBare s.gens
 base:Un X.fs X.ex X.H₀ H X.s₀.heap s.heap
 loc:∃m,s.heap.Ns X.env.locals m/\∀(Ŏ i x Str) (v:V),Ý X.N x->ÇV i v->Vis X.env.scope x->∃u,RelV v u/\Ub X.env s.heap m x u
 cell:∀x c,ÇF x->∃v,s.heap.IsCell c v
 free:á X.env.locals
 freeC:∀x c,ÇF x->á c
 pin:∀p∈X.pn++XU,ß3
 hok:HOk X.prog X.w H s.heap
 len:Z.length=X.N.length
section
variable{X:Cx}{XU:XD}{Z:List (Option V)}{H H':Hp}{s:XI}{h':Heap}
theorem Cx.Ok.nofr(ok:X.Ok)(e:X.base.get? b=ò):b∉X.fs:=λ hb=>by have:=(ok.funs.mem hb).1;ext ÁN e
theorem Inv.bs ç:∀b o,X.base.get? b=ò->Ġ b o/\á b:=λ b o e =>
 #[I.base.keep b o (I.ok.bs b o e).1 (I.ok.bs b o e).2 (I.ok.nofr e) (I.ok.noex b o e),I.base.free b o (I.ok.bs b o e).1 (I.ok.bs b o e).2 (I.ok.noex b o e)]
theorem Inv.bk ç:∀b o,X.base.get? b=ò->Ġ b o:=Õr I.bs
theorem Inv.mod ç:Mod X.K X.mg X.base:=I.ok.mod
theorem Inv.kIn ç:X.K.In s.heap:=I.ok.mod.kin.keeps I.bk
theorem Inv.fr ç:∃m,Fr X.base X.env.locals s.heap m :=
 let⟨m,hn,_⟩:=I.loc
 #[m,hn,I.bk,Zn I.ok.bsz I.ok.above]
theorem Inv.lt ç:X.env.locals<s.heap.objs.size:=let⟨_,hn,_⟩:=I.loc;hn.lt
theorem Inv.sz ç:X.s₀.heap.objs.size<=s.heap.objs.size:=Zn I.ok.above (Xo I.lt)
theorem Inv.nofs ç(h:s.heap.objs.size<=a):a∉X.fs:=λ hb=>by exists Ùg,I.ok.funs.mem hb;show ĕ (ZI (Zr ho) (Zn I.sz h)) (YZ _)
theorem Inv.cne ç:Çn X.env.locals:=λ x c e z=>by show ÇU [v,o,ho,hd] e;obtain⟨m,⟨o',es,ep,ho',hd',_⟩,_⟩:=I.loc;ext Ţ z ho' ho;ext è hd' hd hd
theorem Inv.funs ç:s.heap.FunFrames X.base X.outer:=by
 have all:∀(l:Ä Env),(∀b∈frs l,b∈X.fs)->X.s₀.heap.FunFrames X.base l->s.heap.FunFrames X.base l:=by
  intro l;induction l with
  |nil=>intro _ _;trivial
  |cons env r ih =>intro hs hl;obtain⟨hk,⟨L,o,hf,hn,ho,hd⟩,hr⟩:=hl;have hL:L∈X.fs:=hs L (by ext ÀY frs List.filterMap_cons hf;exact Zk);exists[sl,e],I.base.slot L o ho (I.ok.frf L hL) hL λ z=>I.ok.exfs L z hL;exact#[hk,#[L,_,hf,hn,e,hd],ih (λ b hb=>hs b (by ext ÀY frs List.filterMap_cons hf;exact Zh _ hb)) hr]
 exact all X.outer (Á1 hb hb) I.ok.funs
theorem Inv.stack ç:s.heap.FunFrames X.base X.stack:=by
 rcases I.ok.stk with e|⟨e,hf⟩
 .ext Œ e I.funs
 .rw[e];exists[m,hn,_],I.loc;refine υ (by rw[I.ok.kind];decide) hf hn ? _ I.funs;exact Xc (Zn I.ok.bsz I.ok.above)
theorem Inv.stkSub ç:∀b∈frs X.stack,b∈X.env.locals::X.fs:=λ b hb=>by
 rcases I.ok.stk with e|⟨e,hf⟩
 .rw[e]at hb;exact Zh _ hb
 .rw[e]at hb;ext Ĝ frs hb;rw[List.filterMap_cons,hf]at hb;exact hb
theorem Inv.stkFree ç:∀b∈frs X.stack,á b:=λ b hb=>by
 show ÆB (I.stkSub b hb) e hb
 .ext Œ e I.free
 .exists Ùg,I.ok.funs.mem hb;exact I.base.free b o ho (I.ok.frf b hb) λ z=>I.ok.exfs b z hb
theorem Inv.step{g':Array GenState}{t':Nat}{d':Drawn}{ch:Ä XH}ç Ók(keep:∀b o,Â0 b->b∉X.fs->b∉ch->Ġ b o->á b->h'.get? b=ò)(slot:∀b o,Â0 b->b∈X.fs->b∉ch->Ġ b o->á b->ÐC h'.get? o)(free:∀b o,b∉ch->Ġ b o->á b->ê H' b)(there:∀b o,b∉ch->Ġ b o->Í9 o' b)(tups:∀b xs,ÀC H ÅA H')(frzs:∀b o u,ÀC H (ÁQ u) H')(tbls:ä8)(ns:∀m,s.heap.Ns X.env.locals m->h'.Ns X.env.locals m)(ÖU h' g') :
  Ïs H' h' g' d' t':=by
 have neL:∀b o,X.s₀.heap.get? b=ò->Â0 b:=λ b o e=>Zz (ZI (Zr e) I.ok.above);have neC:∀b o,X.s₀.heap.get? b=ò->b∉X.ex->b∉ch:=λ b o e hx hb=>by
  rcases(hch b hb).1 with z|z
  .exact hx z
  .show ĕ (ZI (Zr e) z) (YZ _)
 have cellK:∀x c,ÇF x->∀v,s.heap.IsCell c v->h'.IsCell c v:=λ x c e v ⟨o,ho,hd⟩=>by
  have nch:c∉ch:=λ z=>(hch c z).2.2.1 x c e rfl;by_cases hc:c∈X.fs
  .exists[sl,q],slot c o (I.cne x c e) hc nch ho (I.freeC x c e);exact#[_,q,hd]
  .exact#[o,keep c o (I.cne x c e) hc nch ho (I.freeC x c e),hd]
 refine#[I.ok,I.os,hg,#[Æ6 ŗ e hx,Æ6 ŗ e hx,Ķ Ál hx,ÀG e hx,λ b xs e=>tups b xs (I.base.tups b xs e),ÄK xs e frzs xs (I.base.frzs b o xs e),ρ ps e],? _,Ú x c e,? _,Ú x c e,Ø p hp,hok,I.len]
 .exact keep b o (neL b o e) hb (neC b o e hx) (I.base.keep Ál hb hx) (I.base.free Ál hx)
 .exists[sl,e1],I.base.slot Ál hb hx;exists[sl',e2],slot b _ (neL b o e) hb (neC b o e hx) e1 (I.base.free Ál hx);exact#[sl',e2]
 .ext Ïu e1;exact free b o' (neC b o e hx) e1 (I.base.free Ál hx)
 .ext Ïu e1;exact there b o' (neC b o e hx) e1
 .exists[m1,e1],I.base.tbls b ps e;exists[m2,e2],tbls b _ e1;exact#[m1++m2,ÀK e2 Array.append_assoc]
 .exists[m,hn,hl],I.loc;refine#[m,ns m hn,ŗ Ùp];exists[u,r,l],hl Ùp;refine#[u,r,? _];rcases l with l|⟨k,c,e,z⟩
  show Ùr l #[k,c,e,cellK x c e _ z]
 .show ÇU [v,z] e;exact#[v,cellK x c e v z]
 .obtain⟨m,⟨o,_,_,ho,_⟩,_⟩:=I.loc;exact free _ o (Ùs) ho I.free
 .show ÇU [v,o,ho,hd] e;exact free c o (λ z=>(hch c z).2.2.1 x c e rfl) ho (I.freeC x c e)
 .ext ÔH;have nch:p.1∉ch:=λ z=>(hch p.1 z).2.2.2 p hp rfl;exact#[keep p.1 Ĺ ne nf nch e n,free p.1 Ĺ nch e n,ne,nf,d]
theorem Inv.un{t':Nat}ç(u:Un X.fs [] H H' s.heap h')(hok:HOk X.prog X.w H' h'):Ã1 ï H' t':=by
 obtain⟨m,⟨o,es,ep,ho,r⟩,_⟩:=id I.loc;exists[sl,hL],u.any ho I.free Û;exact Ûc [] (Á0 _ z) (λ b o _ hb _ e n=>Æ6 u.keep e Û) (λ b o _ hb _ e n=>Æ6 u.slot e Û) (λ b o _ e n=>u.free b o e n Û) (ÄK _ e u.there e Û) u.tups u.frzs u.tbls (λ m' hm=>by
  ext å8) hok I.bare
theorem Inv.call{t':Nat}ç(u:Un (frs X.stack) ch H H' s.heap h')(ÖU h' g')Ók:
  Ïs H' h' g' d' t':=by
 obtain⟨m,⟨o,es,ep,ho,r⟩,_⟩:=id I.loc;exists[sl,hL],u.any ho I.free Ùs;exact I.step (ch:=ch) hch (λ b o hL hb hc e n=>u.keep Ál (λ z=>(Zi.mp (I.stkSub b z)).elim hL hb) hc) (λ b o _ _ hc e n=>u.any e n hc) (λ b o hc e n=>u.free Ál hc) (ÄK hc e u.there e hc) u.tups u.frzs u.tbls (λ m' hm=>by
  ext å8) hok hg
theorem Inv.turned{t':Nat}{it:XH}ç(Øs o it)(hn:á it)(hL:Â0 it)(h1:ÝW it)(h2:Çn it)(h3:∀p∈X.pn++XU,p.1≠it):Ã1 ï H t':=by
 have nit:∀b u,ÎL H u it:=λ b u e z=>ÇY hn e
 refine Ûm [it] (ÂH) (λ b o _ _ hc e _=>k b o (λ z=>hc (Ĉ z)) e) (λ b o _ _ hc e _=>#[o.slots,k b o (λ z=>hc (Ĉ z)) e]) (λ _ _ _ _ n=>n)
  (λ b o hc e=>#[o,k b o (ÃF hc Ĉ) e]) (Η e e) (ÄM e e) (λ b ps e=>#[Ů,ÇR e]) (ÇN hm) (ρ u e) I.bare
 .ext Åm it;exact#[h1,hL,h2,h3]
 .show þ [o,es,ep,ho,r] hm #[o,es,ep,k _ o (Z7 hL) ho,r]
 .refine ßd k ÏT (Η q q);ext Ś hc z z
  .rw[z];exact nit b u e
  .exact nit c _ z
theorem Inv.tok ç(t:Nat):ï H (Âd s toks t):=ŕ I.un h' s.heap t' t Un.refl I.hok
theorem Inv.kept{t':Nat}ç(k:ÄH u):Ã1 ï H t':=I.un (Un.kept k) (I.hok.kept k)
theorem Inv.laid{t':Nat}ç(k:ÄH u)(hp:s.heap.objs.size<=a)(Ì8 a o):
  Í6 a o:=I.un (Un.laid k hp (I.hok.fresh hp)) (I.hok.laid k hp new)
theorem Inv.write{x e:XH}{o:HO}{t':Nat}ç(mu:Mut (H x))(he:e=x\/H e=ą own x)(Øs u e)(heo:Í9 u e)(Ì8 x o):Í6 x o:=I.un (Un.write mu he k heo) (I.hok.write mu he k heo new)
theorem Inv.weak{σ':List (Option V)}ç(hl:σ'.length=Z.length)(w:∀(i:Nat) v,σ'[i]?=ϝ Ù v->ÇV i v):Inv X XU σ' H s :=
 #[I.ok,I.os,I.bare,I.base,let⟨m,hn,hl'⟩:=I.loc;#[m,hn,λ i x v e1 e2 e3=>hl' i x v e1 (w i v e2) e3],I.cell,I.free,I.freeC,I.pin,I.hok,hl.trans I.len]
theorem Inv.pins_of ç(h:∀p∈pins',ß3):Inv X pins' Z H s :=
 #[I.ok,I.os,I.bare,I.base,I.loc,I.cell,I.free,I.freeC,λ p hp=>(ZE.mp hp).elim (λ z=>I.pin p (Y2 _ z)) (h p),I.hok,I.len]
theorem Cg{N:Ä Str}(hN:N.Nodup)(ş i j)(a:Ý N x)(b:Ŗ N x):i=j:=by show Ž [h1,e1] Zv.mp a [h2,e2] Zv.mp b;exact(List.getElem_inj hN).mp (e1.trans e2.symm)
theorem zG{i:Nat}Äe ç ËB(r:RelV v u)(h:∀s',Inv X XU (Z.set i (Ù v)) H s'->(∃a,Heap.SameBut a s.heap s'.heap/\(a=X.env.locals\/X.env.cells.lookup x=Ã a))->Q () s')(ÉB x):Âi (storeName X.env x u):=by
 exists[m,hn,hl],id I.loc;have hcls:Ũ (X.env.scope.kind == .class ||(X.env.scope.kind == .module&&X.env.locals != X.env.globals)):=ό I.ok.kind
 have hiZ:i<Z.length:=ÄL I.len Àg hi
 have cne:=I.cne;have tracked:∀{a:XH} {h':Heap},(∃o,Ġ a o/\á a)->Heap.SameBut a s.heap h'->HOk X.prog X.w H h':=fun{a h'} ha hs b ob e=>by
  exists[_,_,hfree],ha;refine(I.hok b ob e).stay (λ c w' hc q=>(hs.2 c ? _).trans q) ÏT (Η q q);rintro rfl;ext Ś hc rfl hc
  .ext è hfree e e
  .ext è hfree hc hc
 ext Ś hx hk hk
 .refine wpAny_storeName_local hk hn (Å2 hn' hs) hcls;exists[oL,_,_,hoL,_],id hn;refine h _ (á5 #[_,hn',ŗ j y v' e1 e2 e3] c #[oL,hoL,I.free]) #[_,hs,Ó rfl]
  ext áT æm
  .ext å hj j i
   .ext Äl hj hi e1;ext ώ List.getElem?_set_self hiZ e2;exact#[u,r,Ó #[hk,Ĵ]]
   .ext ßv;rcases q with⟨k,e⟩|⟨k,c,e,z⟩
    .refine Α #[k,? _];have:y≠x:=λ e=>hj (Cg hN e1 (e▸hi));simp[this,e]
    .show ſ #[k,c,e,z.sameBut hs (cne y c e)]
  .exists[w',z],I.cell y c e;exact#[w',z.sameBut hs (cne y c e)]
  .ext ÔH;exact#[(hs.2 p.1 ne).trans e,n,ne,nf,d]
 .have hfn:ú X.fn x:=by
   ext Ś hf z z
   .exact z
   .ext è z hk hk
  exists[c,hc],I.ok.has x (Ó hk);show ÇU [w',z] hc;refine wpAny_storeName_cell I.ok.kind hk hc z (Å2 hc' hs);exists[oc,hoc,hocd],id z;refine h (ů s h') (á5 #[m,hn.sameBut hs (Z7 (cne x c hc)),ŗ j y v' e1 e2 e3] c' #[oc,hoc,I.freeC x c hc]) #[c,hs,ā hc]
  ext áT æh
  .ext å hj j i
   .ext Äl hj hi e1;ext ώ List.getElem?_set_self hiZ e2;exact#[u,r,.inr #[Ó hk,c,hc,hc']]
   .ext ßv;rcases q with q|⟨k,c',e,z'⟩
    .exact Α q
    .refine .inr #[k,c',e,z'.sameBut hs ? _];rintro rfl;exact hj (Cg hN e1 (I.ok.inj ì e hc▸hi))
  .ext å hcc c' c
   .show Âb hcc #[_,hc']
   .exists[w2,z2],I.cell y c' e;exact#[w2,z2.sameBut hs hcc]
  .ext ÔH;refine#[(hs.2 p.1 ? _).trans e,n,ne,nf,d];intro q;rw[q,hoc]at e;have q':oc=Ĺ:=Zt e;exact d w' (Àq q' hocd)
theorem uT{i:Nat}Äe ç ËB(r:RelV v u)(h:∀s',Inv X XU (Z.set i (Ù v)) H s'->Q () s')(ÉB x):Âi (storeName X.env x u) :=
 zG I hN hi hx r (λ s' I' _=>h s' I') hf
theorem Inv.call'{s':XI}ç(ho:s'.os=s.os)(u:Un (frs X.stack) ch H H' s.heap s'.heap)(ÖU s'.heap s'.gens)Ók:ï H' s':=by exists[h',g',d',t',o'],s';have e:o'=s.os:=ho;ext Ļ;exact ÃK I.call g' g' t' t' d' d' u hok hg hch
#check 0
abbrev XK:=Ñ3
abbrev St:=List (Option V)
abbrev VK:=Ãp V
abbrev TE:=St->Hp->Þ VK
abbrev TT:=Ên (Bool->Þ Hp)
abbrev TA:=St->Hp->(ÇP)->Prop
structure Ends where
 nx:À0
 rt:VK
 bk:À0:=Âp
 ct:À0:=Âp
abbrev TS:=Ends->À0
def EP(ÉC Q VK)(u:XJ)(s':XI):Prop:=Ñx v RelV v u
def TP Ìk(Z:St)Ës(b:Bool)(s':XI):Prop:=∃H',ï H' s'/\Q b H'
def AP Ìk(Z:St)(Q:ÇP)(us:XG)(s':XI):Prop:=Ñx vs Vals vs us
def SP Ìk(D:Ends)(f:Flow)(s':XI):Prop :=
 match f with
 |.next=>Ëu D.nx
 |.brk=>Ëu D.bk
 |.cont=>Ëu D.ct
 |.ret u=>∃v σ' H',Inv X XU σ' H' s'/\RelV v u/\D.rt v H'
def PE(Åp TE):Prop :=
 ∀ω Ë (Q:VK),ï ķ->t Z H Q->Ź (eval e X.env) Àt X.xe s
def PT(Åp TT):Prop :=
 åA (TP X XU Z Q)
def PW(Åp TT):Prop :=
 ∀(whole:Sem XJ) ω Ë Ës,Ém Z H Q (isTrue e X.env whole) (TP X XU Z Q)
theorem PW.pt{t:TT}(h:PW X e t):PT X e t:=h _
def PA(È9 es XT TA):Prop :=
 ∀áv Ë (Q:ÇP),Ém Z H Q (spliced (backTo pos (starEach es X.env))) (AP X XU Z Q)
def PS Ø8:Prop :=
 ∀ω Ë (D:Ends),Øz exec
def PSs Øb:Prop :=
 ∀ω Ë (D:Ends),Øz execs
theorem thn ÀR{t:Sem α}{Q Q':ű α}{M:Model}{A:XN}{E:XE}{s:XI}(h:Âi t)(hQ:ÇB a s Q Q'):wpAny M A t Q' E s:=Ái h hQ x x
section
variable{X:Cx}
inductive tVar(Ŏ i Z St)Ë(Q:VK):Prop
 |mk (v:V) (h:ÇV i v) (q:Q v H):tVar i Z H Q
def tC(v:V):TE:=λ _ H Q=>Q v H
theorem Rm{i:Nat}(hN:Ý X.N x)(hv:Vis X.env.scope x)Êy ÚC:Æ1 PE (tVar i):=by
 ext ı Q;show Àp [v,e,h] h [m,hn,hl] I.loc;exists[u,r,l],hl i x v hN e hv;have fin:EP X XU Z Q u s:=#[v,H,I,r,h]
 rcases l with⟨hk,hm⟩|⟨hk,c,hc,hcell⟩
 .exact Þ7 wpAny_loadName_local hn hm hd
 .ext Ś hk hk hk
  .exact Þ7 wpAny_loadName_cell hc hcell hd
  .exact wpAny_Name (wpAny_loadName_free I.ok.kind hk hc hcell fin hcd) hd
theorem Re{i j pos}:Ð9 PE Í i:=Êr _ wpAny_Constant_int #[Í i,Ãb,h]
theorem Tj{b j pos}:PE X (.Constant (.bool b) j pos) (tC (.bl b)):=Êr _ Constant_bool #[.bl b,H,I,Ì h]
theorem Rh{j pos}:PE X (Ý6 pos) (tC .non):=Êr _ Constant_none #[.non,H,I,Ì h]
theorem Rk{x j pos}:Ð9 PE Î x:=Êr _ Calls.Constant_str #[Î x,Ãb,h]
def Gl(ŵ x Str):Prop:=X.env.kindOf x=some .globalImplicit
theorem jE{Q:XE}ç(Îw Ã u)(h:Q u s)Êy:Ź åi Q E s :=
 Calls.Name_function_global I.ok.kind hg (Calls.loadGlobal_global (Ŕ I.ok.glob I.mod.glob.keeps I.bk) hm h) hd
theorem fm{Q:XE}ç(Üg h Q u s):Ź åi Q E s:=by exists[mb,h1,h2],I.mod.blt;exact Calls.Name_function_global I.ok.kind hg (Calls.loadGlobal_builtin (Ŕ I.ok.glob I.mod.glob.keeps I.bk) hm (Ŕ I.ok.blt h1.keeps I.bk) ((h2 x hn).trans hv) h) hd
theorem yc(Îw Ã u)(r:RelV v u)Êy:Æ1 PE (tC v) :=
 λ _ _ _ H _ I h=>jE I hg hm #[v,H,I,r,h] hd
theorem OA(Üg r RelV v u):Æ1 PE (tC v) :=
 λ _ _ _ H _ I h=>fm I hg hm hv #[v,H,I,r,h] hn hd
variable{a b:XT}{ta tb:TE}
def PC(ŵ op CmpOp)(a b:XT)(t:TE):Prop :=
 ∀ω Ë (Q:VK),ï ķ->t Z H Q ->
  Ź (eval a X.env) (λ v s₁=>Ź (eval b X.env) (λ u s₂=>Ź (compareOp op v u) Àt X.xe s₂) X.xe s₁) X.xe s
inductive IsB(x:V)Ë Ës:Prop
 |mk (c:Bool) (h:x=.bl c) (q:Q c H):IsB x H Q
def tB(t:TE):TT:=ÙK x IsB
theorem Q9 Û4:PE X ËH t:=λ XU s Z H Q I hw=>wpAny_Compare1 (Èg h Q hw) h1
theorem Jv Û4:PT X ËH (tB t):=âx wpAny_isTrue_Compare1 (thn (h ÂO I hw) λ v s1 h1=>thn h1 λ u s2 h2=>thn h2 (ο c s3)) h1
theorem RB{t:TE}(Àf h e t)ÞL:PT X e (tB t):=âx isTrue_plain (thn (h ÂO I hw) (ο v s1)) (he _)
def R7(t u:TT):TT:=λ Z H Q=>t Z H λ c H1=>if Ą c then u Z H1 Q else Q false H1
def tOr(t u:TT):TT:=λ Z H Q=>t Z H λ c H1=>if Ą c then Q true H1 else u Z H1 Q
def Se(t:TT):TT:=λ Z H Q=>t Z H λ c H1=>Q (! c) H1
theorem OV(ha:PT X a tA):PW X (Îo And) tA:=by
 ext Êq wh;refine isTrue_and (thn (Èg ha Q h) (Ú c s1 e));cases c with
 |true=>exact isTrue_and_nil e
 |false=>exact e
theorem RD(ha:PT X a tA):PW X (Îo Or) tA:=by
 ext Êq wh;refine isTrue_or (thn (Èg ha Q h) (Ú c s1 e));cases c with
 |false=>exact isTrue_or_nil e
 |true=>exact e
theorem RC(ËZ PT tA PW And tB'):ÆX PW And R7 tA tB':=by
 ext Êq wh;refine àa isTrue_and;cases c with
 |true=>exact Çr hb wh Q q1
 |false=>exact#[H1,I1,q1]
theorem Tq(ËZ PT tA PW Or tB'):ÆX PW Or tOr tA tB':=by
 ext Êq wh;refine àa isTrue_or;cases c with
 |true=>exact#[H1,I1,q1]
 |false=>exact Çr hb wh Q q1
theorem RA(ha:PT X a tA):PT X (În) (Se tA):=by ext ı Q;exact isTrue_not (Èg ha (λ c H1=>Q (! c) H1) h)
def Ng(ta tb:TE):TE:=λ Z H Q=>ta Z H λ x H1=>∃c,x=.bl c/\if Ą c then tb Z H1 Q else Q (.bl false) H1
def Sf(ta tb:TE):TE:=λ Z H Q=>ta Z H λ x H1=>∃c,x=.bl c/\if Ą c then Q (.bl true) H1 else tb Z H1 Q
def Ni(ta:TE):TE:=λ Z H Q=>ta Z H λ x H1=>∃c,x=.bl c/\Q (.bl (! c)) H1
theorem Rj{op}{t:TE}(Àf h a t):PE X (.BoolOp op [a] pos) t:=λ XU s Z H Q I hw=>BoolOp_one (Èg h Q hw)
theorem Q7(Ò9 PE And):ÆX PE And Ng ta tb:=by
 ext Øj BoolOp_and;ext Ħ Yi;cases c with
 |true=>exact ÆM hb Q
 |false=>exact#[.bl false,H1,I1,Ì q1]
theorem To(Ò9 PE Or):ÆX PE Or Sf ta tb:=by
 ext Øj BoolOp_or;ext Ħ Yi;cases c with
 |false=>exact ÆM hb Q
 |true=>exact#[.bl true,H1,I1,Ì q1]
theorem Ri(Àf ha a ta):PE X (În) (Ni ta):=by ext Øj UnaryOp_;exact not_of (Yi #[.bl (! c),H1,I1,Ì q1])
def tIf(t:TT)(ta tb:TE):TE:=λ Z H Q=>t Z H λ c H1=>if Ą c then ta Z H1 Q else tb Z H1 Q
theorem Lw(hc:PT X c tA)Ðq:PE X (.IfExp c a b pos) (tIf tA ta tb):=by
 ext Þn Q wpAny_IfExp;cases d with
 |true=>exact ÆM ha Q
 |false=>exact ÆM hb Q
#check 0
def SqL(K:XY)Ë Ō ÀT:Prop :=
 É5 (Õ xs) \/
  ∃(o:Obj) (its:Array XJ) (n:Nat),K.lookup a=ò/\Åy "list"/\o.dict=none/\äw
def SqT(K:XY)Ë Ō ÀT:Prop :=
 É5 ÅA \/
  ∃(o:Obj) (its:Array XJ) (n:Nat),K.lookup a=ò/\Åy "tuple"/\äw
def Ud:XJ->Option V
 |.none=>some .non
 |.bool b=>ą bl b
 |İ i _=>ą int i
 |.str x _=>ą str x
 |.bytes b _=>ą byt b
 |.float b _=>ą flt b
 |Æ a=>Ö a
 |.type n=>ą ty n
 |_=>none
theorem RelV.abs(r:RelV x u):Ud u=Ã x:=by
 cases x with
 |non=>ext ϖ r
 |bl _=>ext ϖ r
 |int _=>ext ĭ t r;rfl
 |str _=>ext ĭ t r;rfl
 |byt _=>ext ĭ t r;rfl
 |flt _=>ext ĭ t r;rfl
 |ref _=>ext ϖ r
 |ty _=>ext ϖ r
theorem RelV.inj(r:RelV x u)(q:RelV y u):x=y:=Zt (r.abs.symm.trans q.abs)
theorem Vals.inj:∀ÌS {us:XG},Vals xs us->Vals ys us->xs=ys
 |_,_,_,.nil,.nil=>rfl
 |_,_,_,Ę r t,Ę r' t'=>by rw[r.inj r',Vals.inj t t']
section
variable{H:Hp}
theorem XX ē(h:ĺ Ω xs):SqL K H a xs:=ÕM h
theorem XW ē(Ç8 h a xs):SqT K H a xs:=ÕM h
theorem Inv.list ç(h:SqL X.K H a xs):äN PlainL:=by
 rcases h with h|⟨o,its,n,hk,hc,hd,hs,hz,r⟩
 show åJ [z,its,n,r,e] #[its,r,#[_,n,È e,î],z] #[its.toList,r,#[o,n,Õc a,hd,û hs],? _]
theorem Inv.tuple ç(h:SqT X.K H a xs):äN IsTup:=by
 rcases h with h|⟨o,its,n,hk,hc,hs,hz,r⟩
 show åJ [z,its,r,p] #[its,r,p,z] #[its.toList,r,#[o,Õc a,n,û hs],? _]
theorem Inv.list_inj ç(h:SqL X.K H a xs)(h':SqL X.K H a ys):xs=ys:=by
 obtain⟨its,r,⟨o,n,e,_,_,d⟩,_⟩:=I.list h;obtain⟨its',r',⟨o',n',e',_,_,d'⟩,_⟩:=I.list h';ext áQ
theorem Inv.tuple_inj ç(h:SqT X.K H a xs)(h':SqT X.K H a ys):xs=ys:=by
 obtain⟨its,r,⟨o,e,_,n,d⟩,_⟩:=I.tuple h;obtain⟨its',r',⟨o',e',_,n',d'⟩,_⟩:=I.tuple h';ext áQ
#check 0
abbrev Cx.wish(ŵ E XE):Cx:=Âd X xe E
abbrev Cx.nox(X:Cx):Cx:=X.wish Âp
theorem Cx.Ok.wish{X:Cx}(ok:X.Ok)(E:XE):(X.wish E).Ok :=
 Üy
theorem Cx.Ok.unwish{X:Cx}(ok:(X.wish E).Ok):X.Ok :=
 Üy
section
variable{X:Cx}{E:XE}
theorem Inv.wish ç(E:XE):Inv (X.wish E) XU Z ķ:=#[I.ok.wish E,I.os,I.bare,I.base,I.loc,I.cell,I.free,I.freeC,I.pin,I.hok,I.len]
theorem Inv.unwish(I:Inv (X.wish E) XU Z ķ):ï ķ:=ÎK I.ok.unwish I.base
theorem SP.unwish(h:SP (X.wish E) XU D f s'):SP X XU D f s':=by
 cases f with
 |next=>show Ö0
 |brk=>show Ö0
 |cont=>show Ö0
 |ret u=>show þ [v,σ',H',I,r,q] h #[v,σ',H',I.unwish,r,q]
theorem PSs.nox(δ st Stmt t TS)(h:PSs X.nox st t):PSs X st t:=λ XU s Z H D I hw =>
 Z4 (h XU s Z H D (I.wish _) hw) (Η q q.unwish) Ñb
#check 0
section
variable{st:Stmt}{t u:TS}{te:TE}{pos:Pos}
def jU:TS:=λ D Z H=>D.nx Z H
def He(t u:TS):TS:=λ D Z H=>t Øu Z H
theorem OS:PSs X [] jU:=Êr Z wpAny_execs_nil #[Z,H,I,h]
theorem LI(h1:PS X st t)(h2:PSs X rest u):PSs X (st::rest) (He t u):=by
 ext ı D;refine wpAny_execs_cons (thn (h1 XU s Z H Øu I h) (Ú f s1 q));cases f with
 |next =>exists[σ',H',I',q],q;exact h2 XU s1 σ' H' D I' q
 |ret v=>ext ŷ
 |brk=>ext ŷ
 |cont=>ext ŷ
theorem OT(h1:PS X st t):PSs X [st] t:=by
 ext ı D;refine wpAny_execs_cons (thn (Èg h1 D h) (Ú f s1 q));cases f with
 |next=>exact wpAny_execs_nil q
 |ret v=>ext ŷ
 |brk=>ext ŷ
 |cont=>ext ŷ
theorem Inv.quiet ç:interactive X.env=false:=ÉA interactive I.ok.kind
def Hd(te:TE):TS:=λ D Z H=>te Z H λ _ H1=>D.nx Z H1
theorem OQ ÑC Öl:PS X (.Expr e pos) (Hd te):=by ext ı D;exact wpAny_Expr_any (ÂL he λ v s1 Êi=>#[Z,H1,I1,q1]) I.quiet hs
def Sg(te:TE):TS:=λ D Z H=>te Z H D.rt
theorem Ry ÑC:PS X (ÕX pos) (Sg te):=by ext ı D;exact wpAny_Return_some (ÂL he λ v s1 Êi=>#[x,Z,H1,I1,r1,q1])
def Mi(c:TT)(t u:TS):TS:=λ D Z H=>c Z H λ b H1=>if Ą b then t D Z H1 else u D Z H1
theorem Tp(hc:PT X c tc)(ha:PSs X a t)(hb:PSs X b u):PS X (.If c a b pos) (Mi tc t u):=by
 ext Þn D wpAny_If;cases d with
 |true=>exact ÆM ha D
 |false=>exact ÆM hb D
#check 0
abbrev TG:=V->Ên (À0)
abbrev TGs:=Ä V->Ên (À0)
def PG(ŵ target XT)(t:TG):Prop :=
 ∀ω Ë (v:V) (u:XJ) (Q:À0),ï ķ->RelV v u->t v Z H Q ->
  Ź (assign target X.env u) (λ _ s'=>Ëu Q) X.xe s
def PGs(È9 ts XT TGs):Prop :=
 ∀ω Ë (ÉX vs us) (Q:À0),ï ķ->Vals vs us->t vs Z H Q ->
  Ź (assignInOrder (Ìs ts) us) (λ _ s'=>Ëu Q) X.xe s
abbrev Bp:=V->V->V->äE
def Km(ŵ t Bp):Prop :=
 ∀ω Ë (o i v:V) (ov iv u:XJ) (Q:Þ Hp),ï ķ->RelV o ov->RelV i iv->RelV v u->t o i v H Q ->
  Ź (setItem ov iv u) (λ _ s'=>∃H',ï H' s'/\Q H') X.xe s
abbrev TIp:=V->V->Hp->Þ VK
def PIp(ŵ op Operator)(t:TIp):Prop :=
 ∀ω Ë Óe (Q:VK),ï ķ->RelV x v->RelV y u->t x y H Q ->
  Ź (inplaceOp op v u) Àt X.xe s
section
variable{X:Cx}{pos:Pos}
def cC(i:Nat):TG:=λ v Z H Q=>Q (Z.set i (Ù v)) H
theorem OG{i:Nat}ËB(ÉB x):Æ1 PG (cC i):=by ext Ó3 v u;exact wpAny_assign_Name (uT I hN hi hx r (λ s' I'=>#[_,H,I',h]) hf)
def qh:TGs:=λ vs Z H Q=>vs=[]/\Q Z H
def fW(t:TG)(u:TGs):TGs:=λ vs Z H Q=>∃v r,vs=v::r/\t v Z H λ σ' H'=>u r σ' H' Q
theorem OH:PGs X [] qh:=by show Íw vs us h [e,h];ext Ļ;cases r;exact assignInOrder_nil #[Z,H,I,h]
theorem LB{t:TG}(h1:PG X e t)(h2:PGs X es u)(hs:Ìs ϑ=assign e X.env::Ìs es:=by rfl):PGs X ϑ (fW t u):=by
 show Íw vs us h [v,vr,e1,h];subst e1;cases r with
 |cons r rr =>rw[hs];refine assignInOrder_cons (thn (h1 XU s Z H ì I r h) (Ú _ s1 ⟨σ1,H1,I1,q1⟩));exact h2 XU s1 σ1 H1 Â Q I1 rr q1
def qi(K:XY)Ė(t:TGs):TG:=λ v Z H Q=>∃a xs,ÄU/\SqT K H a xs/\xs.length=n/\t xs Z H Q
theorem Ro ĉ{t:TGs}à ź(ÓM PGs t)Ôy:PG X (Í7 k) (qi X.K n t):=by show Íw v u hw [a,xs,e1,hq,hl,hw];subst e1;cases r;ext Æd rv ht I.tuple;refine assign_Tuple_tuple (I.ok.hd hc) ht (by simp[hn,<-hl,rv.length]) hst (Ø h' hx);have I1:ï H (ů s h'):=Âo I.kept (Æx e hx (Zz (Zr e)) e);exact h XU _ Z H xs _ Q I1 (û rv) hw
def Qb(to ti:TE)(t:Bp):TG:=λ v Z H Q=>to Z H λ o H1=>ti Z H1 λ i H2=>t o i v H2 λ H3=>Q Z H3
theorem Rn(àD PE Km)(ha:∀ v,Ü7 X.env v=(do
   let ov ←holding [v] (eval o X.env)
   let iv ←holding [v,ov] (eval i X.env)
   standAt pos
   holding [v,ov,iv] (setItem ov iv v)
   release [v,ov,iv] []):=by intro _;rfl):Éu PG o i (Qb to ti t):=by
 ext Ó3 v u;rw[ha];show ÀN (Z0 (ÁA ho ov));ext ÁV x;refine z9 (Z0 (ÄP hi (ο iv s2)));exists[y,H2,I2,r2,q2],hz9;show ÀN (wpAny_standAt (z9 (Z0 (thn (hs XU s2 Z H2 x y v ov iv u _ I2 r1 r2 r q2) (Ú _ s3 ⟨H3,I3,q3⟩)))));exact wpAny_release #[Z,H3,I3,q3]
def yK(te:TE)(g:TG):TS:=λ D Z H=>te Z H λ x H1=>g x Z H1 D.nx
theorem Rt ÑC(Û2 PG)Ýz:PS X (.Assign [tg] e pos) (yK te g):=by ext ı D;refine wpAny_Assign_stores (ÁA he v) hs hw;ext ÁV x;rw[h1];exact thn (hg XU s1 Z H1 x v _ I1 r1 q1) λ _ s2 q=>q
theorem Rz{i:Nat}ËB ÑC(Ñv e Ã2 x)(ÉB x):
  PS X (.Assign [.Name x pos'] e pos) (yK te (cC i)):=by
 ext ı D;refine wpAny_Assign_Name (ÁA he v) hs;ext ÁV y;exact uT I1 hN hi hx r1 (λ s2 I2=>#[_,H1,I2,q1]) hf
def R8(Ŏ i te TE)(ti:TIp):TS:=λ D Z H=>∃x,ÇV i x/\te Z H λ y H1=>ti x y H1 λ z H2=>D.nx (Z.set i (Ù z)) H2
theorem Ru{i:Nat}ËB(Çu he PE ho PIp op ti)(ÉB x):
  ås PS:=by
 ext ı D;show Àp [v,e1,h] h [m,hn,hl] I.loc;have vis:Vis X.env.scope x:=by ext Ś hx k k;exact Α k;show ſ (Ó k)
 exists[u,r,l],hl i x v hi e1 vis;ext Ħ wpAny_AugAssign_Name;have go:Ź (eval e X.env) (λ w s₂=>Ź (inplaceOp op u w) (Ö4 r s₃ (storeName X.env x r) (λ _=>SP X XU D .next)) X.xe s₂) X.xe s:=by refine ÁA he w;ext ÁV y;refine thn (ho XU s1 Z H1 v y u w _ I1 r r1 q1) (ο z s2);exists[zv,H2,I2,r2,q2],hz9;exact uT I2 hN hi hx r2 (λ s3 I3=>#[_,H2,I3,q2]) hf
 rcases l with⟨hk,hm⟩|⟨hk,c,hc,hcell⟩
 .exact wpAny_loadName_local I.ok.kind hk hn hm go
 .ext Ś hk hk hk
  .exact wpAny_loadName_cell I.ok.kind hk hc hcell go
  .ext Ś hx k k
   .have:X.env.scope.names.lookup x=Às:=hk;ext ÁN k
   .have:X.env.scope.names.lookup x=Às:=hk;ext ÁN k
def ipI(f:Int->Int->Int):TIp:=λ x y H Q=>∃i j,x=Í i/\y=Í j/\Q (Í (f i j)) H
theorem Qk:PIp X .Add (ipI λ i j=>i+j):=by intro XU s Z H x y v u Q I r1 r2 h;exists[i,j,e1,e2,q],h;subst e1;subst e2;ext ĭ t r1;ext ĭ t' r2;exact iadd_int #[Í _,Ãb,q]
#check 0
section
variable{X:Cx}
def J3(c:TT)(tb:TS):TS:=λ D Z H=>∃W:Nat->À0,(∃m,W m Z H)/\∀m Z H,W m Z H ->
 c Z H λ b H1=>if Ą b then∃N:À0,(∀σ' H',N σ' H'->∃m',m'<m/\W m' σ' H')/\tb { D with nx:=N,ct:=N,bk:=D.nx } Z H1 else D.nx Z H1
theorem LH(Üz PT PSs tb):PS X (.While c body ÂB) (J3 tc tb):=by
 ext ı D;obtain⟨W,⟨m0,w0⟩,turn⟩:=h;refine wpAny_While (codeAny_whileLoop (λ n s'=>∃σ' H',Inv X XU σ' H' s'/\W n σ' H') ? _ m0 #[Z,H,I,w0]);rintro n s1 ⟨σ1,H1,I1,w1⟩;refine wpAny_passesOwn hp (thn (hc XU s1 σ1 H1 _ I1 (turn n σ1 H1 w1)) (ρ s2 ⟨H2,I2,q2⟩));cases b with
 |true =>
  exists[N,hN,q2],q2;rw[XC rfl];show Ê7 (thn (Íp hb σ1) (Ú f s3 q3));cases f with
  |next =>ext àf
  |cont =>ext àf
  |brk=>exact q3
  |ret v=>exact q3
 |false =>show χ XB Zq wpAny_execs_nil #[σ1,H2,I2,q2]
#check 0
structure It where
 go:Ãp Nat
 yld:Nat->Hp->Ãp V
 stop:Ãp Nat
def cE Ìk Ë(b:XH):Prop :=
 á b/\Â0 b/\b∉X.fs/\(ÝW b)/\(Çn b)/\∀p∈X.pn++XU,p.1≠b
theorem Inv.fpOk{H H':Hp}ç(hb:s.heap.objs.size<=b)(hn:ê H' b):cE X XU H' b:=by
 refine#[hn,Yf (ZI I.lt hb),I.nofs hb,ā (Zn I.sz hb),Č x c e z,Ú p hp z]
 .show ÇU [v,q] e;show ĕ (ZI q.lt (Ă z hb)) (YZ _)
 .show ĕ (ZI (Zr (I.pin p hp).1) (Ă z hb)) (YZ _)
structure Turn(P:XL)(w:XM)(ζ tg XT)(Ŧ J It fp XH)(it:XH)(tn:Nat->Þ Heap):Prop where
 mem:it∈fp
 obj:∀i h,tn i h->∀b∈fp,∃o,ϒ b/\∀v,o.data≠.cell v
 keep:∀i h h',tn i h->(∀b∈fp,∀o,ÀC h.get? o h'.get?)->tn i h'
 item:∀(X:Cx),X.prog=P->X.w=w->X.K=K->Ą X.calm->∀âh Ë (E:XE),ï ķ->(∀b∈fp,cE X XU H b)->tn i s.heap->J.go i H ->
  Ùi X.A pyNext (λ r s1=>∃ u,r=Ã u /\
   wpAny (model P w) X.A (letOwnedTupleGo tg (Ï it) u) (λ _ s2=>∃ x H',ï H' s2/\RelV x u/\J.yld i H x H'/\tn (i+1) s2.heap/\∀ b∈fp,ê H' b) E s1) E s
 done:∀(X:Cx),X.prog=P->X.w=w->X.K=K->Ą X.calm->∀âh Ë (E:XE),ï ķ->(∀b∈fp,cE X XU H b)->tn i s.heap->J.stop i H ->
  Ùi X.A pyNext (λ r s1=>r=none/\ï H s1) E s
 self:∀(A:XN) (i:Nat) (s:XI) (Q:XE) (E:XE),tn i s.heap->Đ it s->Ùi A pyIter Q E s
abbrev TI:=Ên (It->Þ Hp)
def PIE(ÉC tg XT)(R:Ãp It)(itv:XJ)(s2:XI):Prop :=
 ∃(it:XH) (fp:(Ä XH)) (tn:Nat->Þ Heap) (J:It) (H':Hp),itv=Æ it/\ï H' s2/\Turn X.prog X.w X.K tg J fp it tn/\tn 0 s2.heap/\(∀b∈fp,cE X XU H' b)/\R J H'
def PI ÞJ:Prop :=
 ∀ω Ë (R:Ãp It),ï ķ->wi Z H R ->
  Ź (eval iter X.env) (Ö4 v s1 (pyIter v) (PIE X XU Z tg R)) X.xe s
theorem sJ{s:XI}{it:XH}Äe(ho:Ġ it o)(hc:Åy n)(hd:o.data=.fields vs)(hn:Ũ Üp)(hQ:Q () s):Âi (letOwnedTupleGo tg (Ï it) u):=by
 unfold letOwnedTupleGo;cases tg<;>first
  |exact Zb hQ
  | (cases u<;>first
    |exact Zb hQ
    | (show í (wpAny_load ho ? _)
       rw[hc,hd];show Âi (if(Üp&&vs[0]?==ϝ rawInt _)=true then _ else _);show χ XB (by intro h;ext Ţ hn Bool.false_and h) Zb hQ))
def Itl(K:XY)Ō:It :=
 #[λ i H=>∃xs x,SqL K H a xs/\À8 x,ßw SqL]
def Itt(K:XY)Ō:It :=
 #[λ i H=>∃xs x,SqT K H a xs/\À8 x,ßw SqT]
def Itr(lo:Int)Ė:It:=#[λ i _=>i<n,λ i H x H'=>H'=H/\x=Í (lo+i),λ i _=>n<=i]
theorem J8 ē(a it:XH):ÊZ (Itl K a) (λ i h=>h.IsListIter it a i) where
 mem:=Ĵ
 obj:=λ i h st b hb=>by
  ext Åm it;exists[o,e,c,d],st;exact ÐA
 keep:=λ i h h' st k=>st.at (Æ2 k it Û)
 item:=Ûz I.list wpAny_pyNext_list_item p.isList #[È u,áW I.list_inj]
 done:=by ext äl I.list;exact Èo wpAny_pyNext_list_end p.isList (by simp;exact ŝ (Ñ Ç Ô ÅF) ÐU) Ét
 self:=ÌV wpAny_pyIter_listiter
theorem Hk ē(a it:XH):ÊZ (Itt K a) (λ i h=>h.IsTupleIter it a i) where
 mem:=Ĵ
 obj:=λ i h st b hb=>by
  ext Åm it;exists[o,e,c,d],st;exact ÐA
 keep:=λ i h h' st k=>st.at (Æ2 k it Û)
 item:=Ûz I.tuple wpAny_pyNext_tuple_item (åt) #[È u,áW I.tuple_inj]
 done:=by ext äl I.tuple;exact Èo wpAny_pyNext_tuple_end (åt) (by simp;exact ŝ (Ñ Ç Ô ÅF) ÐU) Ét
 self:=ÌV wpAny_pyIter_tupleiter
theorem Hj ē(it:XH)(lo:Int)Ė:ÊZ (Itr lo n) (λ i h=>IsRangeIter h it (lo+(i:Nat)*1) (É n-(i:Nat)) 1) where
 mem:=Ĵ
 obj:=λ i h st b hb=>by
  ext Åm it;exact#[_,st,λ v z=>by
   have z':Data.fields _=Data.cell v:=z;cases z']
 keep:=λ i h h' st k=>k it Û _ st
 item:=by ext ÅL;ext Åc Û;have W:=áp Walks.range it lo 1 n;refine W.item i s Â hg st (ŗ v h' tk hv st' kk);ext ĭ t hv;have I1:Ã1 ï H tk:=I.turned (ÄK hb e kk (û hb) e) f0 f1 f3 f4 f5;refine#[Å,sJ (s:=ÁT h' tk) (n:="range_iterator") st' rfl rfl ⋯ #[Í (lo+i),H,I1,ÁI t,ÁP,st',ÈF hf]];rw[Int.mul_one]
 done:=by ext ÅL;ext Åc Û;exact Èo wpAny_pyNext_range_end (by have:n<=i:=hg;exact ô (Õ0 d) č (ĝ Ç Š) Âx this) Ét
 self:=ÌV wpAny_pyIter_rangeiter
section
variable{X:Cx}
def MK(ζ tl TE):TI:=ãW SqL Itl
def Qh(ζ tl TE):TI:=ãW SqT Itt
theorem OJ(Àf hl l tl):PI X tg l (MK X.K tl):=by
 ext â6 I1.list wpAny_pyIter_list p.isList;refine#[Ðv,J8 a _,#[_,ĸ,î],ÂH,q];ext Åm s1.heap.objs.size;exact Ët
theorem Rs(Àf hl l tl):PI X tg l (Qh X.K tl):=by
 show â6 I1.tuple Xp (show s1.heap.IsTuple a its.toArray from p);refine#[Ðv,Hk a _,#[_,ĸ,î],ÂH,q];ext Åm s1.heap.objs.size;exact Ët
theorem LO{R:Ãp It}ãu{tk:Nat}ç(h1:-(2^62)<=lo)(h2:lo<2^62)(h3:-(2^62)<=hi)(h4:hi<2^62)(q:R (Itr lo (hi-lo).toNat) H):Á2 X.A (pyIter (Ï s.heap.objs.size)) (PIE X XU Z tg R) E (ÙC (Çl lo hi) tk):=by
 refine wpAny_pyIter_range (IsRange.new ..) (small_one h1 h2 h3 h4) ? _;have I1:ï H (ÙC (Çl lo hi) tk):=I.kept (Àu o e e);refine#[(s.heap.push (Çl lo hi)).objs.size,[(s.heap.push (Çl lo hi)).objs.size],_,_,È H,
  I1.kept (t':=tk) (Àu o e e),Hj _ lo (hi - lo).toNat,? _,ÂH,q]
 .have e1:lo+ÀV 0*1=lo:=Ĵ
  have e2:É ((hi-lo).toNat:Nat)-ÀV 0=Builtin.Range.rangeSize lo hi 1:=by rw[rangeSize_one];split<;>omega
  show IsRangeIter Â (lo+ÀV 0*1) (É ((hi-lo).toNat:Nat)-ÀV 0) 1;rw[e1,e2];exact ĸ
 .have e:b=(s.heap.push (Çl lo hi)).objs.size:=û hb
  ext Ļ;exact Ët
def ML(ta:TA):TI:=λ Z H R=>ta Z H λ vs H1=>∃j:Int,vs=[Í j]/\-(2^62)<=j/\j<2^62/\R (Itr 0 j.toNat) H1
theorem Jn(hg:Gl X "range")(hm:ê X.mg "range")(ÊV PA a)(hs:starEach [a] X.env=[È5 a]:=by rfl):ÑJ PI "range" a (ML ta):=by
 show ÜY (fm I hg hm boot_range (Yy (thn (ha pos ÂO I h) (ο us s1)) hs rfl)) [j,e,q1,q2,q];cases r1 with
 |cons r rr =>cases rr;ext ĭ t r;exact call_range_1 (LO I1 ∅ ∅ q1 q2 (û q))
def Sa(wi:TI)(g:TG)(tb:TS):TS:=λ D Z H=>wi Z H λ J H1=>∃W:Ç9,(∃m,W 0 m Z H1)/\∀i m Z H,W i m Z H ->
 (J.stop i H/\D.nx Z H)\/(J.go i H/\∃N:À0,ËI i/\∀x H',J.yld i H x H'->g ËD)
def rL(fp:Ä XH)(h:Heap):XD:=fp.filterMap λ b=>(h.get? b).map λ o=>(b,o)
theorem kX{h:Heap}(hb:b∈fp)(e:ϒ b):(b,o)∈rL fp h:=Yn.mpr #[b,hb,ό e]
theorem Ja(hp:p∈rL fp h):p.1∈fp/\h.get? p.1=some Ĺ:=by
 exists[b,hb,e],Yn.mp hp;cases q:h.get? b with
 |none=>ext è q e e
 |some o =>rw[q]at e;have e':(b,o)=p:=Zt e;show Âb e' #[hb,q]
theorem Inv.pinned ç(hf:∀b∈fp,cE X XU H b)(ho:∀b∈fp,∃o,Ġ b o/\∀v,o.data≠.cell v):Inv X (XU++rL fp s.heap) Z H s :=
 I.pins_of λ p hp=>(ZE.mp hp).elim (λ z=>I.pin p (ZW _ z)) λ z=>by exists[hb,e],Ja z;exists[f0,f1,f2,_],hf p.1 hb;exists[o,e',d],ho p.1 hb;show π e e' #[e,f0,f1,f2,d]
theorem Inv.unpinned{XU pl:XD}(I:Inv X (XU++pl) Z H s):ï ķ:=I.pins_of λ p hp=>I.pin p (ZW _ (Y2 _ hp))
theorem Rw(hp:Ä0 PassesOwn X.A X.env X.xe)ź(áq PI PG PSs tb)ÉD:PS X (Ú9) (Sa wi g tb):=by
 ext ı D;refine wpAny_For ßk hs;obtain⟨it,fp,tn,J,H2,e,I2,T,st2,f2,W,⟨m0,w0⟩,turn⟩:=h2;ext Ļ;have stat:∀{H':Hp},Ìj->∀b∈fp,cE X XU H' b:=λ hn b hb=>#[hn b hb,(f2 b hb).2]
 refine codeAny_forLoop_any (λ n s'=>∃i σ' H',Inv X XU σ' H' s'/\tn i s'.heap/\Ìj/\W i n σ' H') ? _ m0 #[0,Z,H2,I2,st2,ÈF f2,w0];rintro n s3 ⟨i,σ3,H3,I3,st3,fr3,w3⟩;rcases turn i n σ3 H3 w3 with⟨stop,qn⟩|⟨go,N,hN,step⟩
 .show Ê7 (Ñ6 T.done X XU σ3 X.xe stat stop (Ú r s4 ⟨hr,I4⟩));subst hr;exact wpAny_execs_nil #[σ3,H3,I4,qn]
 .show Ê7 (Ñ6 T.item X XU σ3 X.xe stat go (Ú r s4 ⟨u,hr,h4⟩));subst hr;show Ê7 (thn h4 (ο _ s5));ext ãn stat;show Ê7 (thn (hg _ s5 σ3 H5 x u _ I5' r5 (step x H5 y5)) (Ú _ s6 ⟨σ6,H6,I6,q6⟩));show Ê7 (thn (hb _ s6 σ6 H6 _ I6 q6) (Ú f s7 q7));have again:∀{σ7:St} {H7:Hp},Inv X (XU++rL fp s5.heap) σ7 H7 s7->N σ7 H7->∃m,m<n/\∃i σ' H',Inv X XU σ' H' s7/\tn i s7.heap/\Ìj/\W i m σ' H':=fun{σ7 H7} I7 n7=>by exists[m',hm,w7],hN σ7 H7 n7;refine#[m',hm,i+1,σ7,H7,I7.unpinned,T.keep ì st5 λ b hb o e=>(ÐO I7.pin).1,ÂH,w7];exists[o,e,d],T.obj Â st5 b hb;exact(ÐO I7.pin).2.1
  cases f with
  |next=>exists[σ7,H7,I7,n7],q7;exact again I7 n7
  |cont=>exists[σ7,H7,I7,n7],q7;exact again I7 n7
  |brk=>show þ [σ7,H7,I7,q7] q7 #[σ7,H7,I7.unpinned,q7]
  |ret v=>show þ [x7,σ7,H7,I7,r7,q7] q7 #[x7,σ7,H7,I7.unpinned,r7,q7]
#check 0
theorem qg ē{a:XH}Ác{g:TG}{tb:TS}{D:Ends}(Íd Z St H Hp hl SqL)(hs:∀i x Z H,À8 x->Pv i Z H->g x Z H λ σ2 H2=>ÔJ i σ2 H2)Çb :
  ∃W:Ç9,ÈZ/\∀i m Z H,W i m Z H ->
   ÞK:=by
 ext Ë9 i Z xs.length hi p;have q:=hl i Z H hi p;by_cases hlt:(À4 i)
 .refine .inr #[#[xs,ÁO,q,Ĉ hlt],Ót i p'];exists[e,y],y;ext Ļ;exact hs i x Z _ (y xs q) p
 .show Åg i xs.length #[#[xs,q,Zf _],hd Z H p]
abbrev R2:=V->V->Hp->Þ VK
def OpR ßl:Prop :=
 ∀ω Ë Óe (Q:VK),ï ķ->RelV x v->RelV y u->r x y H Q ->
  Ź (f v u) Àt X.xe s
def UnR ÞV:Prop :=
 ∀ω Ë (x:V) (v:XJ) (Q:VK),ï ķ->RelV x v->r x H Q ->
  Ź (f v) Àt X.xe s
def fh(ŵ f XJ)(r:Ä6):Prop :=
 ∀ω Ë (ÉX xs us) (Q:VK),ï ķ->Vals xs us->r xs H Q ->
  Ź (call f us) Àt X.xe s
def tOp(r:R2)(ta tb:TE):TE:=λ Z H Q=>ta Z H λ x H1=>tb Z H1 λ y H2=>r x y H2 Q
inductive rI(C:Int->Þ Int)ào Ë(Q:VK):Prop
 |mk (i j:_) Ýa (h2:C i j) (h3:Q (g i j) H):rI C g x y H Q
inductive rI0 ào Ë(Q:VK):Prop
 |mk (i j:_) Ýa (h2:Q (g i j) H):rI0 g x y H Q
section
variable{X:Cx}
theorem Kq(Íj PE){R:V->Ãp V}ç(h:ta Z H λ x H1=>tb Z H1 λ y H2=>R x y H2)Ïf(hf:∀v u s2 x y H2,ï H2 s2->RelV x v->RelV y u->R x y H2->Ź (f v u) Q X.xe s2):
  Ź (eval a X.env) (λ v s₁=>Ź (eval b X.env) (Ö4 u s₂ (f v u) Q) X.xe s₁) X.xe s:=by
 refine ÁA ha v;ext ÁV x;refine ÄP hb (ο u s2);exists[y,H2,I2,r2,q2],hz9;exact hf v u s2 x y H2 I2 r1 r2 q2
theorem Tn(ho:OpR X (binaryOp op) r)Ðq:PE X (.BinOp a op b pos) (tOp r ta tb):=by ext ı Q;exact wpAny_BinOp ãv
theorem opI Ïf{C:Int->Þ Int}{g:Int->Int->Int}(rule:∀Óc,C i j->Q (İ (g i j) s.toks) ÂQ->ÖO) :
  OpR X f (rI C (Ãe (g i j))):=by
 show Èd Àc [i,j,rfl,rfl,hc,q];ext Âs;exact Øv hc #[Í (g i j),Ãb,q]
theorem QQ Ïf{g:Int->Int->Int}(rule:∀Óc,Q (İ (g i j) s.toks) ÂQ->ÖO) :
  OpR X f (rI0 (Ãe (g i j))):=by
 show Èd Àc [i,j,rfl,rfl,q];ext Âs;exact Øv #[Í (g i j),Ãb,q]
theorem GF Ïf{g:Int->ÀX Int}(rule:∀Óc,Q (.bool (g i j)) s->ÖO) :
  OpR X f (Åx (g i j)):=by
 show Èd Àc [i,j,rfl,rfl,q];ext Âs;exact Øv (ÌI (g i j))
def Py(i j:Int):Prop:=0<j/\j<1073741824
def CMul(i j:Int):Prop:=(-(2^64)<i/\i<2^64)\/(-(2^64)<j/\j<2^64)
theorem CMul.ok{i j:Int}(h:CMul i j):IntMulOk i j:=by
 ext Ät h h1 h2 h1 h2
 ext àm of_left
 ext àm of_right
theorem QR:ÅD Add (rI0 (Ãe (i+j))):=ÊC QQ add_int
theorem Q3:ÅD Sub (rI0 (Ãe (i-j))):=ÊC QQ sub_int
theorem Q1:ÅD Mult (rI CMul (Ãe (i*j))):=opI λ _ _ _ _ _ _ _ hc q=>mul_int q hc.ok
theorem Ou:ÅD FloorDiv (rI Py (Ãe (i / j))):=opI λ i j _ _ _ _ _ hc q=>by have h1:É 0<j:=hc.1;have h2:j<1073741824:=hc.2;exact floordiv_int ∅ (by rw[Int.fdiv_eq_ediv_of_nonneg i ∅];ext ŷ) (Ó (ĥ PyProof.noPylong_small))
theorem QZ:ÅD Mod (rI (λ _ j=>0<j) (Ãe (i%j))):=opI λ i j _ _ _ _ _ hc q=>by have h1:É 0<j:=hc;exact mod_int' (Ãq (Û0 (.h Áw Ç č (.h Áw Âc ÂE)) ÏG h1)) (by rw[Int.fmod_eq_emod_of_nonneg i (ÅW č Ç (Ĩ Âc Ç) [] h1)];ext ŷ)
#check 0
def RX:V->ÀX V
 |.non,.non=>true|.non,Í _=>true|Í _,.non=>true|.non,.bl _=>true|.bl _,.non=>true|.non,Î _=>true|Î _,.non=>true
 |Í _,Í _=>true|.bl _,.bl _=>true|Î _,Î _=>true|.byt _,.byt _=>true
 |Í _,Î _=>true|Î _,Í _=>true|.bl _,Î _=>true|Î _,.bl _=>true
 |_,_=>false
def rEq:R2:=λ x y H Q=>Ď RX x y/\Q (.bl (Ài x y)) H
def rNe:R2:=λ x y H Q=>Ď RX x y/\Q (.bl (!(Ài x y))) H
theorem Ev{i j:Int}:ÒB V.int i j:=ÇR Xt
theorem Ig{i j:Bool}:ÒB V.bl i j:=ÇR Xt
theorem Ew{i j:Str}:ÒB V.str i j:=ÇR Xt
theorem Eu{i j:Array UInt8}:ÒB V.byt i.toList j.toList:=by rw[Xt];ext ÁH i j;simp
section
variable{X:Cx}{b:XT}{ta tb tc:TE}
theorem bf{Q:VK}ç(q:Äz k)(e:k=k'):EP X XU Z Q (.bool k') s:=by ext Ļ;exact ÌI k
theorem Tc:ų OpR Eq rEq:=by
 show Àc [hs,q];cases x with
 |non =>
  cases rx;cases y with
  |non=>ext Ãh PySem.EqNone.eq_none_none
  |bl j=>ext Ãh PySem.EqNone.eq_none_bool
  |int j=>ext ÅH PySem.EqNone.eq_none_int
  |str j=>ext ÅH PySem.EqNone.eq_none_str
  |_=>exact Á4 hs
 |bl i =>
  cases rx;cases y with
  |non=>ext Ãh PySem.EqNone.eq_bool_none
  |bl j=>cases ry;exact eq_bool (bf I q Ig)
  |str j=>ext ÅH PySem.EqMixed.eq_bool_str
  |_=>exact Á4 hs
 |int i =>
  ext ĭ t rx;cases y with
  |non=>ext Ãh PySem.EqNone.eq_int_none
  |int j=>ext Âs;exact eq_int (bf I q Ev)
  |str j=>ext ÅH PySem.EqMixed.eq_int_str
  |_=>exact Á4 hs
 |str i =>
  ext ĭ t rx;cases y with
  |non=>ext Ãh PySem.EqNone.eq_str_none
  |bl j=>ext Ãh PySem.EqMixed.eq_str_bool
  |int j=>ext ÅH PySem.EqMixed.eq_str_int
  |str j=>ext Âs;exact eq_str (bf I q Ew)
  |_=>exact Á4 hs
 |byt i =>
  ext ĭ t rx;cases y with
  |byt j=>ext Âs;exact W.eq_bytes (bf I q Eu)
  |_=>exact Á4 hs
 |_=>cases y<;>exact Á4 hs
theorem Th:ų OpR NotEq rNe:=by
 show Àc [hs,q];cases x with
 |non =>
  cases rx;cases y with
  |non=>ext Ãh PySem.EqNone.ne_none_none
  |bl j=>ext Ãh PySem.EqNone.ne_none_bool
  |int j=>ext ÅH PySem.EqNone.ne_none_int
  |str j=>ext ÅH PySem.EqNone.ne_none_str
  |_=>exact Á4 hs
 |bl i =>
  cases rx;cases y with
  |non=>ext Ãh PySem.EqNone.ne_bool_none
  |bl j=>cases ry;exact ne_bool (bf I q (ZZ not Ig))
  |str j=>ext ÅH PySem.EqMixed.ne_bool_str
  |_=>exact Á4 hs
 |int i =>
  ext ĭ t rx;cases y with
  |non=>ext Ãh PySem.EqNone.ne_int_none
  |int j=>ext Âs;exact ne_int (bf I q (ZZ not Ev))
  |str j=>ext ÅH PySem.EqMixed.ne_int_str
  |_=>exact Á4 hs
 |str i =>
  ext ĭ t rx;cases y with
  |non=>ext Ãh PySem.EqNone.ne_str_none
  |bl j=>ext Ãh PySem.EqMixed.ne_str_bool
  |int j=>ext ÅH PySem.EqMixed.ne_str_int
  |str j=>ext Âs;exact ne_str (bf I q (ZZ not Ew))
  |_=>exact Á4 hs
 |byt i =>
  ext ĭ t rx;cases y with
  |byt j=>ext Âs;exact W.ne_bytes (bf I q (ZZ not Eu))
  |_=>exact Á4 hs
 |_=>cases y<;>exact Á4 hs
theorem Tg:ų OpR Lt (Åx (decide (i<j))):=ÊC GF lt_int
theorem Tf:ų OpR LtE (Åx (decide (i<=j))):=ÊC GF le_int
theorem Te:ų OpR Gt (Åx (decide (j<i))):=ÊC GF gt_int
theorem Td:ų OpR GtE (Åx (decide (j<=i))):=ÊC GF ge_int
theorem QY:ų OpR Is (Ñc (.bl (Ìn))):=by
 show Àc [rfl,q];cases ry;refine is_none_gen (bf I q ? _);cases x<;>first
  |(ext ϖ rx)
  |(ext ĭ t rx;rfl)
theorem Ov:ų OpR IsNot (Ñc (.bl (! Ìn))):=by
 show Àc [rfl,q];cases ry;refine isnot_none_gen (bf I q ? _);cases x<;>first
  |(ext ϖ rx)
  |(ext ĭ t rx;rfl)
theorem IT(b:XT)(h:op≠.In:=by decide)(h2:op≠.NotIn:=by decide):Ņ behindInMarks op b:=by
 have e1:Ũ (op==CmpOp.In):=by cases op<;>first|rfl|ext ĕ rfl h
 have e2:Ũ (op==CmpOp.NotIn):=by cases op<;>first|rfl|ext ĕ rfl h2
 cases b<;>simp[behindInMarks,e1,e2]
theorem OC(ÒJ OpR)Ðq Ýi:PE X ËH (tOp r ta tb):=by ext ı Q;exact wpAny_Compare1 ãv hm
def wS(t:TE):TT:=ÙK x IsB
theorem OU(ÒJ OpR)Ðq Ýi:PT X Ýh:=by
 ext ı Q;refine wpAny_isTrue_Compare1 (ÂL ha λ v s1 Êi=>ÄP hb λ u s2 ⟨y,H2,I2,r2,q2⟩ =>
  ÕD c) hm
 ext Ļ;cases r3;exact Yi #[H3,I3,q3]
def wO(r r':R2)(ta tb tc:TE):TE:=λ Z H Q=>ta Z H λ x H1=>tb Z H1 λ y H2=>r x y H2 λ z H3=>∃k,z=.bl k /\
 (if Ą k then tc Z H3 λ w' H4=>r' y w' H4 Q else Q (.bl false) H3)
theorem Lu(Ív OpR PE):PE X (ÏK) (wO r r' ta tb tc):=by
 ext ı Q;refine Compare_chain (ÂL ha λ v s1 Êi=>chain_link (ÄP hb λ u s2 ⟨y,H2,I2,r2,q2⟩ =>
  ÕD d)) hm
 ext Ļ;cases r3;ext Ħ Yi;cases k with
 |false=>exact ite_ff #[.bl false,H3,I3,Ì q3]
 |true=>exact ite_tt (chain_last (thn ãT λ w' s4 ⟨z',H4,I4,r4,q4⟩=>àn Q q4))
theorem LJ(Ív OpR PE):PT X (ÏK) (wS (wO r r' ta tb tc)):=by
 ext ı Q;refine isTrue_chain (ÂL ha λ v s1 Êi=>test_link (ÄP hb λ u s2 ⟨y,H2,I2,r2,q2⟩ =>
  ÕD d)) hm
 ext Ļ;cases r3;ext Ħ Yi;cases k with
 |false =>show ÃL [k',e',q'] q3 e';exact ite_ff #[H3,I3,q']
 |true =>refine ite_tt (test_last (thn ãT λ w' s4 ⟨z',H4,I4,r4,q4⟩=>thn (àn _ q4) (ο d' s5)));exists[z2,H5,I5,r5,k2,e2,q5],hz9;subst e2;cases r5;exact Yi #[H5,I5,q5]
theorem rG:(sizeLine:Nat)<2^63:=ÊU sizeLine_eq
theorem GG:ßL OpR:=by show Èd Àc [i,j,rfl,rfl,hz,q];ext Âs;exact add_str (λ t' tk=>#[Î (i++j),Ãb,q]) hz
theorem bZ(r:Vals [x] us):∃u,us=[u]/\RelV x u:=by
 cases r with
 |cons r1 r2=>show Ř r2 #[Å,r1]
theorem tD(r:Vals [x,y] us):∃u w',us=[u,w']/\RelV x u/\RelV y w':=by
 cases r with
 |cons r1 r2 =>
  cases r2 with
  |cons r3 r4=>show Ř r4 #[Ł _ r1,r3]
theorem HV ź:Ìz "max" ãG:=by
 show Íw xs us h [i,j,rfl,q];obtain⟨u,w',rfl,⟨t,rfl⟩,⟨t',rfl⟩⟩:=tD r;refine max_two_ints (I.ok.hd hc) λ h' tk k=>#[_,H,I.kept k,? _,q]
 by_cases hj:j>i
 .rw[XC hj,XC hj];exact Âv
 .rw[XB hj,XB hj];exact Âv
theorem HU:fh X ÞW:=by
 ext Ó3 xs us;rcases h with⟨i,rfl,q⟩|⟨k,rfl,q⟩
 .exists[u,rfl,t,rfl],bZ r;exact call_int_int #[Í i,H,I,Âv,q]
 .ext Çe u r1 r;exact call_int_bool #[Í (if k then 1 else 0),Ãb,q]
#check 0
structure ObjM(h:Heap)(x dx C:XH)(mA:XF):Prop where
 obj:h.get? x=Ã (W.instObj C dx)
 ns:h.Ns1 dx mA
 ne:dx≠x
set_option tactic.hygienic true in theorem IM{h:Heap}(n:h.Ns1 dx mA):∃od,h.get? dx=Ã od/\∀name,W.lookIn name od=ϝ mA name:=by
 show Áh [o,es,ep,ho,hd,hk,_,hm] n #[o,ho,ģ name];have e:=hm name;unfold nsFind findBy at e;rw[<-Array.find?_toList]at e;ext ğ W.lookIn hd;ext ň;split
 .rename_i y q;rw[q]at e;exact ZZ some e
 .rename_i q;rw[q]at e;have a:es.toList.any (·.refKey)=false:=by rw[List.any_eq_false];intro y hy;exists[z,t,hkey],hk y (Array.mem_toList_iff.mp hy);simp[DictEntry.refKey,hkey]
  have a':¬(ú es.toList.any (·.refKey)):=Ă a Zq
  rw[XB a'];exact ZZ some e
theorem ObjM.look(I:ObjM h x dx C mA):∃od,W.InstAt h x (W.instObj C dx) C (Ù od)/\∀name,W.lookIn name od=ϝ mA name :=
 let⟨od,ho,hl⟩:=IM I.ns
 #[od,#[È I.obj,Ì ho],hl]
section
variable{A:XN}{s:XI}{K:XY}{C:XH}
theorem NM{Q:XE}Ûq(hh:Ď W.hasDictIn K C)(ha:ÃX C name=Ã none)(hv:mA name=Ľ)(hv':ú W.handedIn v)(h:Q v ÂQ):
  ċ (Ā getAttr x name expr) Q E s:=by
 exists[od,J,hl],I.look;exact W.get_value X J (W.plainGet_of hg).1 (W.findObj_own hh ha rfl (ÀK hl hv)) hv' h
theorem KI ßm Ûq(hf:ÉM name)(ht:Ď W.isFn K (Ï f))(hv:ê mA name)(h:Q (Æ f,ġ x) s) :
  ċ (Ā getMethod x name pl) Q E s:=by
 exists[od,J,hl],I.look;exact W.method_fn X J (W.plainGet_of hg).1 (W.plainGet_of hg).2 hf (Ym.mp ht) (by show(W.lookIn name od).map (·.isSome)=Ã false;rw[hl,hv];rfl) h
theorem O9 Äe(X:K.In s.heap)(I:ObjM s.heap x dx C mA)(hs:ËG W.findIn C)(hp:Ď W.plainOver K C)(ht:W.takerIn K C name=Ã none)(hh:Ď W.hasDictIn K C)(hw:PySem.Within mA ns)(hsz:Ń ns.length)(h:∀h',ObjM h' x dx C (λ y=>if y=name then Ľ else mA y)->Heap.SameBut dx s.heap h'->Q () { s with heap:=h',toks:=s.toks+2 }):
  ċ (Ā setAttr x name v) Q E s:=by
 exists[od,J,hl],I.look;refine W.set_plain X J hs (W.osa_open (s:=ÂQ) (r:=none) X J hp ht (ģ b));exists[cd,hc,hd'],W.any_some hh;have hx:Į s.heap.get? x #[Æ C,Ã dx,.plain,Ů]:=I.obj;show ã2 X;rw[hd'];refine Zb (a:=Ã dx) (Ě z9 Zb z9 ? _);refine wpAny_nsSet1 (s:=ÂQ) I.ns (Å2 hn2 hs2);exists[oD,esD,epD,hoD,hdD,hcD],hn2.count (PySem.Within.cons name v hw);show í (wpAny_lookBehind hoD (ÄL hdD pastItsLine_dict (Zn hcD (Ż Zo))) ? _);exact Zb (h _ #[(hs2.2 _ (Z7 I.ne)).trans I.obj,hn2,I.ne] hs2)
theorem Le(X:K.In s.heap)(hm:Ď W.makesIn K C)(hi:ÉM "__init__")(hf:W.typeIn K (Ï f)=ą type "function")(h:codeAny (model prog w) (Ëh vs) (.call (Ï f) #[Æ (s.heap.objs.size+1)::vs,kw]) (ÇI W.InitBack R)
   (Âd s heap ÔX)):
  ÄA codeAny A (.call (Ï C) #[vs,kw]) R s:=by
 exists[hh,g,d,t,os],s;exact W.make_core (W.makes_of X hm) (W.looks_findIn X hi) (λ self=>W.bind_fn X self hf) (Ó rfl) h
#check 0
def eJ(f:Str)(v:V):ő V->ő V
 | []=>[(f,v)]
 |(g,x)::r=>if g=f then(g,v)::r else(g,x)::eJ f v r
theorem bq(f g:Str)(v:V):∀fs:ő V,(eJ f v fs).lookup g=if g=f then Ľ else fs.lookup g
 | []=>by
  show List.lookup g [(f,v)]=_;show Ör f (g==f) XC h
  show Þo (g==f) h
 |(k,x)::r=>by
  have ih:=bq f g v r;rw[Ô9];ext å hk k f
  .rw[XC hk];show Ör k (g==k) XC (h.trans hk)
   show Þo (g==k) (λ e:g=f=>h (e.trans hk.symm))
  .rw[XB hk];show Ör k (g==k) XB (λ e:g=f=>hk (h.symm.trans e))
   .have hb:Ũ (g==k):=YS.mpr h;ext ÀD List.lookup hb;exact ih
theorem rq(f:Str)(v:V):∀fs:ő V,f∈Êx eJ f v fs/\∀g,g∈fs.map (·.1)->g∈Êx eJ f v fs
 | []=>#[Ĉ eJ,λ g h=>ÀU h]
 |(k,x)::r=>by
  exists[i1,i2],rq f v r;rw[Ô9];ext å hk k f
  .rw[XC hk];show Âb hk #[Ĵ,λ g h=>û h]
  .rw[XB hk];refine#[? _,Ø g h]
   .rw[Zu];exact Zh _ i1
   .rw[Zu]at h ⊢;ext ÆB h e e
    .exact Zi.mpr (Ó e)
    .exact Zh _ (i2 g e)
theorem tU(f:Str)(v:V):∀fs:ő V,Âa eJ f v fs<=fs.length+1
 | []=>Ĉ eJ
 |(k,x)::r=>by
  have ih:=tU f v r;rw[Ô9];ext å hk k f
  .rw[XC hk,Zo,Zo];exact ÂY Ć (ϓ p Ć) Ζ
  .rw[XB hk,Zo,Zo];exact ĵ (Ã3 (ã 1)) (ć Ç (ã 1)) ď ih
theorem RelO.some_of(r:RelO (Ù v) o):∃u,o=Ã u/\RelV v u:=by
 cases o with
 |none=>exact Ðj
 |some u=>exact#[È u,r]
theorem RelO.none_of(r:RelO none o):o=none:=by
 cases o with
 |none=>rfl
 |some u=>exact Ðj
theorem Ix(r:RelV v u):ú W.handedIn u:=by
 cases v with
 |non=>show ϖ (show u=Value.none from r)
 |bl b=>cases ËY u Value.bool b r;rfl
 |int i=>ext Çz e Value.int i r;rfl
 |str x=>ext Çz e Value.str x r;rfl
 |byt b=>ext Çz e Value.bytes b r;rfl
 |flt b=>ext Çz e Value.float b r;rfl
 |ref a=>ext Äf a r;rfl
 |ty n=>cases ËY u Value.type n r;rfl
section
variable{fs:ő V}
theorem sO(hok:HOk P w H h)(e:ÇO H):∃mA,ObjM h a dx C mA/\(∀f,Öv)/\PySem.Within mA (fs.map (·.1))/\fs.length<=1000/\H dx=ą own a:=by
 show þ [d,z,ne,ob,mA,n,r,q] (show Ãk (Ä5 fs)from hok a _ e) #[mA,#[ob,n,ne],r,q,z,d]
#check 0
structure Cls(K:XY)Ĥ:Prop where
 pg:W.plainGet K C Str.empty=true
 hd:Ď W.hasDictIn K C
 po:Ď W.plainOver K C
 sa:ËG W.findIn C
theorem Cls.get ē(c:Cls K C)(f:Str):W.plainGet K C f=true:=c.pg
def NoAttr(K:XY)Ĥ(f:Str):Prop:=ÃX C f=Ã none
theorem NoAttr.taker ē(n:NoAttr K C f):W.takerIn K C f=Ã none:=by unfold W.takerIn;rw[show ÃX C f=Ã none from n];rfl
structure Con(K:XY)Ĥ(f:Str)(v:V)(u:XJ):Prop where
 at_:ÃX C f=ϝ Ù u
 rel:RelV v u
 get:W.specialIn K u "__get__" = Ã none
 cp:W.copiedNames.contains f=false
structure Meth(K:XY)Ĥ(m:Str)(f:XH):Prop where
 at_:ÉM m
 fn:Ď W.isFn K (Ï f)
 kp:Ď W.keepIn K (Ï f)
section
variable{s:XI}{fs:ő V}{f:Str}
theorem Ga{Q:XE}ç(e:ÇO H)áw(l:fs.lookup f=Ľ)(h:Ý4 u):ÍM getAttr f b:=by exists[mA,O,r,_,_,_],sO I.hok e;exists[u,hu,ru],RelO.some_of (v:=v) (o:=mA f) (Èq l r f);exact NM I.kIn O (c.get f) c.hd n hu (Ix ru) (h u _ (I.tok _) ru)
theorem qj ßm ç(e:ÇO H)(c:Cls X.K C)(k:Meth X.K C m g)(l:ê fs.lookup m)(h:Q (Æ g,ġ a) s):ÍM getMethod m pl:=by exists[mA,O,r,_,_,_],sO I.hok e;have hn:ê mA m:=RelO.none_of (Èq l r m);exact KI I.kIn O (c.get m) k.at_ k.fn hn h
theorem G5 Äe ç(e:ÇO H)áw(hl:fs.length<1000)(ry:RelV y u)(h:∀s',ÍL (ø a (Ä5 (eJ f y fs))) ()):ÍM setAttr f u:=by
 exists[mA,O,r,wi,_,ho],sO I.hok e;have hz:Ň fs.map (·.1)<=sizeLine:=Ãf Za sizeLine_eq
 refine O9 I.kIn O c.sa c.po n.taker c.hd wi hz λ h' O' sb=>h _ ? _;have hd:∃o,h'.get? dx=ò:=let⟨o,_,_,e',_⟩:=O'.ns;#[o,e']
 refine ÌR a dx (Ă e True.intro) (ā ho) (λ b q hb z=>(sb.2 b hb).trans z) hd ? _;refine#[Ī O.ne ho,? _,O.ne,O'.obj,_,O'.ns,ģ g,Ø g hg]
 .have:=tU f y fs;omega
 .show RelO ((eJ f y fs).lookup g) (if g=f then Ã u else mA g);rw[bq];ext å q g f
  .rw[XC q,XC q];exact ry
  .rw[XB q,XB q];exact r g
 .ext å q g f
  .rw[q];exact(rq f y fs).1
  .refine(rq f y fs).2 g (wi g λ z=>hg ? _);show(if g=f then Ã u else mA g)=none;rw[XB q];exact z
theorem Inv.made ç:ï (upd (ø s.heap.objs.size (.own (s.heap.objs.size+1))) (s.heap.objs.size+1) (.ins C Êj))
  (Âd s heap ÔX):=by
 have e1:ØQ s.heap.push W.emptyDict Ã:=Zj s.heap rfl;have e2:(ÔX).get? (s.heap.objs.size+1)=Ã (W.instObj C s.heap.objs.size):=by
  have:=Zj (s.heap.push W.emptyDict) (o:=W.instObj C s.heap.objs.size) rfl
  rwa [x8]at this
 have e3:(s.heap.push W.emptyDict).Ns s.heap.objs.size (ę none):=#[W.emptyDict,Ů,ś _ e1,(Â2 e he he),ę rfl]
 have I1:=Ñ4 (o:=.own (s.heap.objs.size+1)) (h':=s.heap.push W.emptyDict) (t':=s.toks) (Àu u q q) (Zf _) #[_,e1];refine I1.laid (a:=s.heap.objs.size+1) (o:=.ins C Êj) (t':=s.toks) (Àu u q q) (Xd (x8 Â)) ? _;have ne:s.heap.objs.size≠s.heap.objs.size+1:=Zz (Y8 _);refine#[ÍR ne,ZA _,ne,e2,ę none,(Heap.Ns1.of_empty e3).at λ o q=>Zd _ q,ę True.intro,λ y hy=>absurd rfl hy]
theorem Nw{f:Str}{s:XI}(hb:attributeBase e f env (eval e env)=eval e env)(h:ċ (eval e env) (λ o s₁=>ċ (getAttr o f true) Q E s₁) E s):ċ (eval (.Attribute e f pos) env) Q E s :=
 Attribute_any_ h (ÀK arm_eval_Attribute hb)
#check 0
def Mh(ζ ta TE)(f:Str):TE:=λ Z H Q=>ta Z H λ x H1=>∃a C dx fs v,Àh/\ÇO H1/\Cls K C/\NoAttr K C f/\fs.lookup f=Ľ/\Q v H1
def RT ãP:TS:=λ D Z H=>tv Z H λ y H1=>ta Z H1 λ x H2=>∃a C dx fs,Àh/\ÇO H2/\Cls K C/\NoAttr K C f/\fs.length<1000 /\
 D.nx Z (ß H2 a (Ä5 (eJ f y fs)))
section
variable{pos:Pos}
theorem Rc(Àf he e ta)(hb:ÂN e f):Ù5 PE X.K:=by ext ı Q;refine Nw hb (ÁA he u);show ÅR [x,H1,I1,rx,a,C,dx,fs,v,ex,ea,c,n,l,q] u;exact Ga I1 ea c n l λ u' s2 I2 ru=>#[v,H1,I2,ru,q]
theorem Rv(Àf ha o ta)(Àf hv value tv)(hs:ËQ value (Ù (Âm f pos'))):Öw PS RT:=by ext ÞR hv ha;show ÅR [x,H2,I2,rx,a,C,dx,fs,ex,ea,c,n,l,q2] ov;exact G5 I2 ea c n l ry λ s3 I3=>#[Z,_,I3,q2]
#check 0
section
variable{H:Hp}{s:XI}{Q:XE}
inductive TyOf(K:XY)Ë:V->Þ XJ where
 |non:TyOf K H .non (.type "NoneType")
 |bl (x:Bool):TyOf K H (.bl x) (.type "bool")
 |int (i:Int):TyOf K H (Í i) (.type "int")
 |str (x:Str):TyOf K H (Î x) (.type "str")
 |flt (x:UInt64):TyOf K H (.flt x) (.type "float")
 |lst {a:XH} Ác (e:ĺ Ω xs):Èp Ϗ "list"
 |frz {a:XH} {o:Obj} Ác (e:H a=Ě Ã ÁQ Õ xs):Èp Ϗ "list"
 |tup {a:XH} Ác (Ç8 e a xs):Èp Ϗ "tuple"
 |dK {a:XH} {kvs:Ŋ Key V} (e:H a=ą dK kvs):Èp Ϗ "dict"
 |dT {a:XH} {kvs:Àr} (Åe e a):Èp Ϗ "dict"
 |ins {a C dx:XH} {fs:ő V} (e:ÇO H) (cl:Cls K C) (ha:ÃX C "__class__" = some (ÈR "object.__class__"))
   (hn:W.specialIn K (.builtin "object.__class__") "__get__" = some (ÈR "getset_descriptor.__get__")) (htk:W.takesIn K (.builtin "object.__class__")=Ã true)
   (hm:Ði W.mroIn C):TyOf K H Ϗ (Ï C)
theorem ID{u t:XJ}ç(rx:RelV x u)(ty:TyOf X.K H x t)(e:W.kitOne X.K t c=Ã b)(h:∀tk,Q (.bool b) Åd):
  Á2 A (Èy "isinstance" [u,c]) Q E s:=by
 cases ty with
 |non=>cases(show u=Value.none from rx);ext Äm W.kitx_none True.intro
 |bl y=>cases ËY u Value.bool y rx;ext Äm W.kitx_bool True.intro
 |int i=>ext Çz q Value.int i rx;ext Äm W.kitx_int True.intro
 |str y=>ext Çz q Value.str y rx;ext Äm W.kitx_str True.intro
 |flt y=>ext Çz q Value.float y rx;ext Äm W.kitx_float True.intro
 |@lst a xs ea =>
  ext Äf a rx;exists[_,_,n,_,h1],Çt a (Õ xs) ea
  show åY
 |@frz a ob xs ea =>
  ext Äf a rx;exists[_,_,_,n,_,h1],Çt a (.frz ob (Õ xs)) ea
  show åY
 |@tup a xs ea =>
  ext Äf a rx;show Àp [_,_,_,p] (show Ãr H s.heap a ÅA from I.hok a _ ea) [o,h1,h2,_] p;show Äm W.kitx_tuple #[o,h1,h2]
 |@dK a kvs ea =>
  ext Äf a rx;show Àp [_,_,vs,_,p] (show Ãr H s.heap a (.dK kvs)from I.hok a _ ea) [o,es,ep,h1,h2,_] p;show Äm W.kitx_dict #[o,h1,h2.1]
 |@dT a kvs ea =>
  ext Äf a rx;exists[_,_,xs,_,o,es,ep,h1,h2,_],Çt a (.dT kvs) ea
  show Äm W.kitx_dict #[o,h1,h2.1]
 |@ins a C dx fs ea cl ha hn htk hm =>ext Äf a rx;exists[mA,O,_],sO I.hok ea;exists[od,J,_],O.look;show Äm (W.kitx_own (cl.get _) cl.hd ha hn htk hm) J
#check 0
structure Room(Ŏ k A XN):Prop where
 hd:A.handled=none
 dp:A.depth+3*k+5<recursionLimit
 un:A.units+16*k+200<cLine
theorem Room.mono(ş j k)(r:Room k A)(h:j<=k):Room j A:=#[r.hd,by have:=r.dp;exact Øw 3 5 Ô (ÜC 3 5 Ô (ÒY 3 (.a 3))) Ŭ this h,by have:=r.un;exact Øw 16 200 Ô (ÜC 16 200 Ô (ÒY 16 (.a 3))) Ŭ this h]
theorem Room.deeper ĉ(r:Ç3 A)(env:Env):Room k (A.deeper env) :=
 #[r.hd,by have:=r.dp;show A.depth+1+3*k+5<_;exact ÑK 3 5 Ô (Ég 3 5 Ô) æ this,by have:=r.un;show A.units+3+16*k+200<_;exact â (.p (.p (.p (ι a 0 n 3) (ÉS 16)) (.n 200)) đ) Ô (Ég 16 200 Ô) æ this]
theorem Room.in1 ĉ(r:Ç3 A):Room k A.in1 :=
 #[r.hd,by have:=r.dp;show A.depth+3*k+5<_;exact Øw 3 5 Ô (Ég 3 5 Ô) æ this,by have:=r.un;show A.units+1+16*k+200<_;exact ÑK 16 200 Ô (Ég 16 200 Ô) æ this]
theorem Gj{A:XN}:(Ëh us).depth=A.depth+1:=by
 first|rfl|simp[Around.under,Code.weight,Code.isCreation,Code.isGuard,Code.isCaller,Code.frames,Code.isFrame,guardIds]
theorem Gm{A:XN}:(Ëh us).units=A.units+1:=by
 first|rfl|simp[Around.under,Code.cUnits,Code.frames,Code.isFrame]
theorem Room.make ĉ(r:Ç3 A)Ĥ(us:XG)(kw:ő XJ):Room k (Ëh us) :=
 #[r.hd,by have:=r.dp;rw[Gj];exact ÑK 3 5 Ô (Ég 3 5 Ô) æ this,by have:=r.un;rw[Gm];exact ÑK 16 200 Ô (Ég 16 200 Ô) æ this]
theorem Room.depth ĉ(r:Room k A):A.depth<recursionLimit:=by have:=r.dp;exact ĵ Ê (Ñ (.p (.p (.p Ç (.m 3 Ô)) (.n 5)) đ) Š) æ this
theorem Room.units ĉ(r:Room k A):Ìe 64:=by have:=r.un;exact â (Ã3 (ι a 0 n 64)) Ê (Ñ (.p (.p (.p Ç (.m 16 Ô)) (.n 200)) đ) Š) æ this
def ip:TA:=λ _ H Q=>Q [] H
def fY(ta:TE)(tr:TA):TA:=λ Z H Q=>ta Z H λ x H1=>tr Z H1 λ xs H2=>Q (x::xs) H2
section
variable{e:XT}{t:TA}
theorem wj:PA X [] ip:=ße Calls.spliced_nil
theorem EU äP(hs:starEach ϑ X.env=È5 e::starEach es X.env:=by rfl):PA X ϑ (fY te t):=by ext Êq pos;rw[hs];show Θ (spliced (È5 e::backTo pos (starEach es X.env))) s;refine Calls.spliced_cons (ÁA ha u);ext ÁV x;exact ßt
def Mj(t:TA):TE:=λ Z H Q=>t Z H λ xs H1=>Ń xs.length/\∀p,ê H1 p->Đ p (ß H1 p ÅA)
def Sb(t:TA):TE:=λ Z H Q=>t Z H λ xs H1=>Ń xs.length/\∀p,ê H1 p->Đ p (ψ H1 p xs)
theorem Rl{x1}(h:PA X es t):PE X (Í7 x1) (Mj t):=by ext Üq wpAny_Tuple_spliced;refine#[Æ s1.heap.objs.size,ß H1 s1.heap.objs.size ÅA,ØK u ? _,rfl,q _ hf];exact#[z,us,r,#[_,ĸ,ľ]]
theorem Rf(h:PA X es t):PE X (.List es pos) (Sb t):=by ext Üq wpAny_List_spliced;refine#[Æ s1.heap.objs.size,ψ H1 s1.heap.objs.size xs,ØK u ? _,rfl,q _ hf];exact#[z,us,0,r,ĸ]
#check 0
abbrev Sp:=Ä V->Hp->VK->Þ XK
abbrev CXT:=Ä Env->Hp->XI->XK->ű XJ
structure Env0 Ãs ÃS Ë:Prop where
 frames:A.frames=Ã outer
 mod:Mod K mg base
 bs:∀b o,base.get? b=ò->Ġ b o/\á b
 bsz:base.objs.size<=s.heap.objs.size
 funs:s.heap.FunFrames base outer
 frf:∀b∈frs outer,á b
 hok:HOk P w H s.heap
 bare:AllBare s.gens
def CE(outer:Ä Env)(P:XL)(w:XM)Ë(s:XI)(Q:VK)(u:XJ)(s':XI):Prop :=
 ∃v H',s'.os=s.os/\AllBare s'.gens/\Un (frs outer) [] H H' s.heap s'.heap/\HOk P w H' s'.heap/\RelV v u/\Q v H'
def CR(Ŧ CX CXT outer Env)(P:XL)(w:XM)Ë(s:XI)(Q:VK)(E:XK)(r:Result)(s':XI):Prop :=
 match r with
 |.ok (.ret u)=>CE outer P w H s Q u s'
 |.ok _=>False
 |.error e=>CX outer H s E e s'
structure FnOk Ãs(CX:CXT)(Ŏ k f XH)(fd:XO)Æc:Prop where
 len:∀vs H Q E,sp vs H Q E->vs.length=ps.length
 run:∀ÃS Ë (args:Args) (us:XG) ÆP,Room k A->Env0 P w K mg base A outer s H->BindsTo s fd args (ps.zip us)->Vals vs us->sp vs H Q E ->
  codeAny (model P w) A (.call (Ï f) args) (CR CX outer P w ķ Q E) s
theorem FnOk.imp ē ĉ{sp sp':Sp}(F:Òb CX k sp)(h:∀vs H Q E,sp' vs H Q E->sp vs H Q E):Òb CX k sp' :=
 #[λ vs H Q E q=>F.len vs H Q E (h Β q),λ A outer s H args us vs Q E hr he hb hv hs=>F.run A outer s H args us vs Q E hr he hb hv (h Β hs)]
theorem Env0.make ē(ÚK e)Ĥ(us:XG)(kw:ő XJ):
  Env0 P w K mg base (Ëh us) outer s H:=#[by first|exact e.frames|(simpa[Around.under,Code.envs,Code.isFrame,pushEnvs]using e.frames),e.mod,e.bs,e.bsz,e.funs,e.frf,e.hok,e.bare]
section
theorem Inv.env0 ç:ÃO Env0 X.A X.stack s H :=
 #[I.ok.frames,I.ok.mod,I.bs,Zn I.ok.bsz I.sz,I.stack,I.stkFree,I.hok,I.bare]
theorem Inv.after ç(h:CE X.stack X.prog X.w H s Q u s'):EP X XU Z Q u s':=by show Àp [v,H',os,bare,un,hok,r,q] h [hh,g,d,t,os'] s';obtain rfl:os'=s.os:=os;exact#[v,H',äF I.call,r,q]
#check 0
def AO Öm(t:TA):TE:=λ Z H Q=>t Z H λ vs H1=>sp ÇT H1 Q E
inductive IsM Ĥ(m:Str)(x:V)Ë(R:Prop):Prop
 |mk (a dx:XH) (fs:ő V) (h0:Àh) (h1:ÇO H) (h2:ê fs.lookup m) (q:R):IsM C m x H R
def wQ Ĥ(m:Str)Öm(ta:TE)(t:TA):TE:=λ Z H Q=>ta Z H (àU (t Z H1 λ vs H2=>sp (x::ÇT) H2 Q E))
def AR Ĥ Öm(t:TA):TE:=λ Z H Q=>t Z H λ vs H1=>∀x dx,ê H1 x->ê H1 dx->dx≠x ->
 sp (Æ x::ÇT) (upd (ß H1 dx (.own x)) x (Ä5 [])) (λ v H2=>É6/\Đ x H2) E
def Binds(ζ fd XO)(Âj ps)(ds:XG):Prop :=
 ∀(s:XI) (us:XG),K.In s.heap->(us++ds).length=ps.length->BindsTo s fd #[us,[]] (ps.zip (us++ds))
theorem Binds.all ē{ps:Ä Str}(h:∀us:XG,äa fd):Æs:=λ s us _ hl=>by rw[ZQ]at hl ⊢;exact .of_eq (h us hl)
def ge(CX:CXT)(X:Cx)(E:XK):Prop:=∀(XU:XD) (Z:St) Ë (s:XI) (e:XJ) (s':XI),ï ķ->CX X.stack H s E e s'->X.xe e s'
section
variable{X:Cx}{k:Nat}{f C:XH}{x:Str}{e:XT}{t:TA}
theorem CJ Çj(hr:Room k X.A)ÇZ ç(r:Vals vs us)(h:sp ÇT H Q E):Á2 X.A (Ā call f us) Àt X.xe s:=by
 have r2:Vals ÇT (us++ds):=r.append hd;have hl:(us++ds).length=ps.length:=by rw[<-r2.length];exact F.len Β h
 refine wpAny_call (codeAny_mono (F.run X.A X.stack s H #[us,[]] (us++ds) ÇT Q E hr I.env0 (hb s us I.kIn hl) r2 h) (Èt hq));cases r with
 |error e=>exact hx XU Z ķ e s' I hq
 |ok fl =>
  cases fl with
  |ret u=>exact I.after hq
  |next=>ext À3 hq
  |brk=>ext À3 hq
  |cont=>ext À3 hq
theorem OB Çj(hr:Room k X.A)(Îw Ö f)(hk:Ď W.keepIn X.K (Ï f))ÇZ(ha:PA X ϑ t)Ä8 Ì3 :
  PE ÊM (AO sp dvs E t):=by
 ext Üd hk;exact CJ F hr hb hd hx I1 r q
theorem EV ÜI Çj(hr:Room k X.A)ÇZ(ha:PA X ϑ t)(Òf hst hpl pos)(ht:eval (ÆI pos) X.env=(do
   let ov ←eval o X.env
   standAt apos.atName
   let(f,first) ←Ép
   Î9):=by rfl) :
  PE X (ÆI pos) (wQ C m sp dvs E ta t):=by
 ext Þ2;refine ãX (thn (Çr ha pos _ q) λ us s2 ⟨vs,H2,I2,r,q2⟩=>ÁI I2.kIn) hst hpl;exact CJ (us:=Æ a::us) (vs:=Æ a::vs) F hr hb hd hx I2 (Ę rfl r) q2
theorem Lz ÜI Çj(hr:Room k X.A)ÇZ(ht:eval (Î6 [] ÂB) X.env=(do
   let ov ←eval o X.env
   standAt apos.atName
   let(f,first) ←Ép
   ã8):=by rfl) :
  PE X (Î6 [] ÂB) (wQ C m sp dvs E ta ip):=by
 ext Þ2;exact W.callWith_K0 (first:=ġ a) I1.kIn hm.kp (CJ (us:=ġ a) (vs:=ġ a) F hr hb hd hx I1 (Ę rfl ė) q)
structure Mk(K:XY)(C f:XH):Prop where
 makes:Ď W.makesIn K C
 init:ÉM "__init__"
 fn:Ď W.isFn K (Ï f)
 kp:Ď W.keepIn K (Ï C)
theorem CL{Q:VK}(M:Mk X.K C f)Çj(hr:Ç3 X.A)ÇZ ç(r:Vals vs us)(h:∀x dx,á x->á dx->dx≠x->sp (Æ x::ÇT) (upd (ø dx (.own x)) x (Ä5 [])) (λ v H2=>É6/\Đ x H2) E):
  Á2 X.A (Ā call C us) Àt X.xe s:=by
 have hq:=ÇI h s.heap.objs.size (I.hok.fresh (YQ _)) (I.hok.fresh (Zf _)) (Zz (Y8 _));have I2:=Inv.made (C:=C) I;have r2:Vals (V.ref (s.heap.objs.size+1)::ÇT) (ÇI Á9 (us++ds)):=Ę rfl (r.append hd);have hl:(ÇI Á9 us++ds).length=ps.length:=by have e:=r2.length;rw[F.len Β hq]at e;exact e.symm
 refine wpAny_call (Le (f:=f) I.kIn M.makes M.init (Ym.mp M.fn) (codeAny_mono (F.run _ X.stack Â #[ÇI Á9 us,[]] (ÇI Á9 (us++ds)) Â E (hr.make C us [])
  àL (hb _ (ÇI Á9 us) I2.kIn hl) r2 hq) (Èt hq')))
 cases r with
 |error e=>exact hx XU Z ŋ s' I2 hq'
 |ok fl =>
  cases fl with
  |ret u =>exists[v,H',I3,rv,ev,q3],I2.after hq';show Âb ev #[rv,#[V.ref (s.heap.objs.size+1),H',I3,Ì q3]]
  |next=>ext À3 hq'
  |brk=>ext À3 hq'
  |cont=>ext À3 hq'
theorem OF(M:Mk X.K C f)Çj äm ÇZ(ha:PA X ϑ t)Ä8 Ì3 :
  PE ÊM (AR C sp dvs E t):=by
 ext Üd M.kp;exact CL M F hr hb hd hx I1 r q
theorem Ly(M:Mk X.K C f)Çj äm ÇZ Ä8:PE X (Æe x [] ÂB) (AR C sp dvs E ip):=by ext ı Q;refine YL (jE I hg hm ? _ hdb);exact W.callWith_K0 I.kIn M.kp (CL (us:=[]) M F hr hb hd hx I ė h)
#check 0
def PK(È9 kws Keyword TA):Prop :=
 ∀áv Ë (Q:ÇP),Ém Z H Q (evalAll ((backToKw pos (keywordEach kws X.env)).map (·.2))) (AP X XU Z Q)
section
variable{k:Nat}{fd:XO}{ps ks:Ä Str}{kpos:Pos}{e:XT}{t:TA}{nm:Option Str}
theorem wn:PK X [] ip:=ße wpAny_evalAll_nil
theorem sZ(Çu ha PE hr PK kws t):PK X (#[nm,e,kpos]::kws) (fY te t):=by ext Êq pos;show Θ (evalAll ((do let v ←eval e X.env;standAt pos;pure v)::(backToKw pos (keywordEach kws X.env)).map (·.2))) s;refine wpAny_evalAll_cons (z9 (ÂL ha λ u s1 Êi=>Ě z9 wpAny_standAt Zb ? _));exact ßt
structure KBinds(ζ fd XO)(ps ks:Ä Str)(g:XG->XG->XG)(gV:Ä V->Ä V->Ä V):Prop where
 to:∀(s:XI) (us ws:XG),K.In s.heap->ÅC g us ws ps.length->BindsTo s fd #[us,ks.zip ws] (ps.zip (g us ws))
 rel:∀(δ vs V us XG) (δ zs V ws XG),Vals vs us->Vals zs ws->Vals (gV vs zs) (g us ws)
#check 0
structure FnScope(N P:Ä Str)(sc:Scope):Prop where
 kind:sc.kind=.function
 co:Ũ sc.isCoroutine
 gen:Ũ sc.isGenerator
 nd:N.Nodup
 pre:N.take P.length=P
 par:∀x∈P,Èm sc.names.lookup x Äw ÃH
 nofree:∀y∈sc.names,y.2≠.free
theorem yV Îe:ã3 bindL
 | [],_,_=>rfl
 |(n,v)::r,m,h=>by
  unfold bindL;rw[yV (ν w hw h)];split
  .have:x≠n:=by rintro rfl;exact h v Zk
   simp[this]
  .rfl
theorem yT Îe:ã3 bindC
 | [],_,_=>rfl
 |(n,v)::r,m,h=>by
  unfold bindC;rw[yT (ν w hw h)];split
  .rfl
  .have:x≠n:=by rintro rfl;exact h v Zk
   simp[this]
theorem yU Îe:∀(δ P Str vs XG) (Ãi m XF),P.Nodup->Ý P x->Ý vs v->kindOf x=Äw ->
  äb bindL=Ľ
 | [],_,_,_,_,h,_,_=>ÀU h
 |Δ,[],_,_,_,_,h,_=>ÀU h
 |p::P,w::vs,0,m,nd,h1,h2,hk=>Ý1 bindL yV XC
 |p::P,w::vs,i+1,m,nd,h1,h2,hk=>åL bindL yU
theorem yS Îe:∀(δ P Str vs XG) (Ãi m XF),P.Nodup->Ý P x->Ý vs v->kindOf x≠Äw ->
  äb bindC=Ľ
 | [],_,_,_,_,h,_,_=>ÀU h
 |Δ,[],_,_,_,_,h,_=>ÀU h
 |p::P,w::vs,0,m,nd,h1,h2,hk=>Ý1 bindC yT XB
 |p::P,w::vs,i+1,m,nd,h1,h2,hk=>åL bindC yS
def start(Âj N)(vs:Ä V):St:=vs.map some++List.replicate (N.length-vs.length) none
def gi ÚF Ýd ÃS Ë(E:XK):Cx where
 prog:=P
 w:=w
 K:=K
 mg:=mg
 base:=base
 A:=A.deeper (ÅO scope cd)
 N:=N
 s₀:=s
 H₀:=H
 env:=envOfC qual scope s.heap.objs.size f cd
 outer:=outer
 stack:=åj
 ex:=[]
 calm:=true
 fn:=ę true
 pn:=[]
 xe:=âD ÅO scope cd
theorem Bw{sc:Scope}à(h:sc.names.lookup x=ÃH):∃c,(cellsFrom n sc.names []).lookup x=Ã c:=by have q:=W.cellsFrom_some sc.names n [] (Ó h);exact ZF.mp q
theorem zi ē{A:XN}{vs:Ä V}(ßu FnScope N ps)(hl:vs.length=ps.length)(r:Vals vs us)(x:InCallC s s.heap.objs.size (âo bindL) (ÇI cellsFrom scope.names []) (âo bindC) s1):
  Inv (ÅY CX cd s H E) [] (start N vs) H s1:=by
 have hpl:ps.length<=N.length:=by have:=ZZ List.length S.pre;ext Â5 ZJ;exact ŝ (Ñ Ç Ô ÅF) æ (Nat.le_of_eq this.symm) (Æm)
 exists[h1,tk,rfl,hk],x.done;have noA:∀b:XH,b∉ÒM ex:=Â2 b z (ÑR z);refine#[#[e0.mod,S.kind,î,Zf _,Ķ y z c h1 h2,Ø y hy,Č y c _ h,ę hd,ÝH,e0.frf],
  Ì e0.bare,Un.kept hk,#[_,x.toInCall.ns,ŗ i y v h1 h2 h3],λ y c h=>#[_,x.cell y c h],e0.hok.fresh (Zf _),Ú y c h,Ñ9,e0.hok.kept hk,? _]
 .exact name_of_addr x.apart (YH h1) (YH h2)
 .have hy:Èm scope.names.lookup y ÃH Às:=hy;ext Ś hy hy hy
  .exact Bw hy
  .show ĕ rfl (S.nofree _ (YH hy))
 .exact Xo ß5
 .have hi:i<vs.length:=by
   ext Ĝ start h2;by_cases hi:i<vs.length
   .exact hi
   .rw[Yq (û hi)]at h2;rw[List.getElem?_replicate]at h2;split at h2<;>cases h2
  have ha:Ý vs v:=by
   ext Ĝ start h2;rw[YU (û hi),Zs]at h2;cases e:vs[i]? with
   |none=>ext è e h2 h2
   |some a=>ext è e h2 h2;rfl
  exists[u,hu,rv],r.get ha;have hp:Ý ps y:=by rw[<-S.pre,List.getElem?_take_of_lt (ÀL Âh hi hl)];exact h1
  have ndP:ps.Nodup:=by rw[<-S.pre];exact S.nd.sublist (Æ8)
  refine#[u,rv,? _];show Ât S.par y (ZG hp) k
  .exact Α #[k,yU ndP hp hu k]
  .exists[c,e],Bw (n:=s.heap.objs.size+1) k;refine .inr #[Ó k,c,e,? _];have q:=x.cell y c e;rw[yS ndP hp hu (by show scope.names.lookup y≠_;rw[k];decide)]at q;ext ŷ
 .exact e0.hok.fresh (Xo ß5)
 .unfold start;show _=N.length;rw[Zm,Za,x9];exact Nat.le_antisymm (â ÀJ Ô (Ñ (š 1 0) Ô .z) æ (Nat.add_le_of_le_sub (ŝ (ū Ê (ć Ç Ô)) æ hpl (Nat.le_of_eq hl)) (Nat.le_refl _))) (Ès (Ð5 Ç) æ Ŝ)
theorem F8 ē ĉ{dV kV doc pm cdv ct oc:XJ}{sp:Sp}(lk:K.lookup f=Ã #[oc,od,.func ãf,osl])(hcd:W.codeIn K cdv qual=true)(S:FnScope N ps scope)ÉE(hbody:∀ ÃS Ë ÆP,Room k (A.deeper (ÅO scope cdv))->sp vs H Q E ->
   ∃ t,PSs (ÅY CX cdv s H E) body t/\Ü0):
  FnOk P w K mg base CX Ρ f ãf ps sp:=by
 refine#[len,λ A outer s H args us vs Q E hr e0 hb r hsp=>? _];have hl:=len Β hsp;have KX:K.In s.heap:=e0.mod.kin.keeps (Õr e0.bs);ext ÔP;have hkind:∀y∈ps.zip us,Üb:=fun⟨n,v⟩ hy=>by
  ext åC
  .show ſ #[q,W.cellsFrom_some ì (Ó q)]
 refine codeAny_call_function hr.depth (KX Â lk) rfl S.co S.gen rfl (W.codeRec_of KX hcd) (hb Â ÁZ);show Ûa #[lim.keeps x.toInCall.keep,codeAny_func ? _] (ÅY CX cdv s H E) (Ú fl s' hs);have fin:∀{σ':St} {H':Hp} {v:V} {u:XJ},Inv (ÅY CX cdv s H E) [] σ' H' s'->RelV v u->Q v H'->CE outer P w H s Q u s' :=
  fun{σ' H' v u} J rv q=>ÖA
 cases fl with
 |ret u =>exists[v,σ',H',J,rv,q],hs;exact fin J rv q
 |next =>exists[σ',H',J,q],hs;exact ŕ fin v V.non u Value.none J rfl q
 |brk =>exists[_,_,_,q],hs;ext À3 q
 |cont =>exists[_,_,_,q],hs;ext À3 q
section
variable{e:XT}{t:TA}{id:String}{r:Ä6}
def tCB(r:Ä6)(t:TA):TE:=ÙK vs r
theorem Ls(hc:Ìz id r)(hg:Gl X x)(Êf builtin id PA)Êo Ì3:PE X Ê4:=Üh PyProof.Rows.callWith_builtin1
theorem Jm(hc:fh X (.type T) r)(hg:Gl X x)(Êf type T PA)Êo Ì3:PE X Ê4:=Üh Yy
#check 0
#check Lake
namespace HT
open PySem PyProof.Rows
def lexLt:XQ->ÀX XQ
 | [],[]=>false
 | [],Δ=>true
 |Δ,[]=>false
 |x::xs,y::ys=>if x=y then lexLt xs ys else Å4 x y
theorem lexLt_cons(x y:Int)(xs ys:XQ):lexLt (x::xs) (y::ys)=if x=y then lexLt xs ys else Å4 x y:=rfl
theorem lexLt_nil_nil:lexLt ÄI=false:=rfl
theorem lexLt_nil_cons(y:Int)(ys:XQ):Ď lexLt [] (y::ys):=rfl
theorem xN(x:Int)(xs:XQ):Ņ lexLt (x::xs) []:=rfl
theorem eqAt_int Ýq:∃e,SeqAt.EqAt A s (İ a t) (İ c u) e/\(Ą e↔a=c) :=
 #[(a==c),SeqAt.EqAt.int_int a t c u,Ĵ]
theorem LR Ýq(ÏJ E XE)(Q:XE)(h:Q (.bool (Å4 a c)) s) :
  ċ (richCompare .Lt (İ a t) (İ c u)) Q E s :=
 (PyProof.Rows.lt_int h:ċ (ÊE Lt (İ a t) (İ c u)) Q E s)
section
open PySem.SeqAt
open PySem.AutoSeq1 (wpAny_loadPart')
open PySem.MeetsSeq PySem.MeetsSeq2 PySem.MeetsSeq3
theorem AC(l b:XH)(items items2:Array XJ)(n n2:Nat)(dd dd2:Option XH)(sl sl2:Array (Option XJ))(ns ms:XQ)(hi:IntsAre items.toList ns)(hj:IntsAre items2.toList ms) :
  Meets (Builtin.«tuple.__lt__» #[[Æ l,Æ b],[]])
   (λ _ R s=>ËP dd/\s.heap.get? b=ÛE "tuple" dd2 items2 n2 sl2 /\
    R (.ok (.ret (.bool (lexLt ns ms)))) s) :=
 .of_wp λ prog w A R s h=>by
  ext ÉP s;exists[hl,hb,h],h;have f2:=AutoSeq1.sub_tuple_tuple;have z1:items.size=ns.length:=by rw[<-hi.length];simp
  have z2:items2.size=ms.length:=by rw[<-hj.length];simp
  wp_walk using wpAny_loadPart' hl,wpAny_loadPart' hb,wpAny_forIn_list _ (λ rest b s'=>b.1=none/\s'=ÊA/\∃ (vs ws:XG) (ns' ms':XQ),rest=vs.zip ws /\
   IntsAre vs ns'/\IntsAre ws ms'/\ns'.length+items2.size=ms'.length+items.size/\R (.ok (.ret (.bool (lexLt ns' ms')))) ÊA) _
  case turn =>
   rintro⟨y,x⟩ rest b s' ⟨hb',rfl,vs,ws,ns',ms',hz,hvi,hwi,hlen,hR⟩;cases hvi with
   |nil=>ext è List.zip_nil_left hz hz
   |cons a t hvi' =>
    cases hwi with
    |nil=>ext è List.zip_nil_right hz hz
    |cons c u hwi' =>
     rw[List.zip_cons_cons]at hz;ext Æk hz hyx hrest;ext Æk hyx hy hx;subst hy hx;rw[lexLt_cons]at hR;simp only[Zo]at hlen;exists[e,he,hiff],eqAt_int A.in1 ÊA a t c u;show í (he prog w ÁZ);cases e with
     |true =>
      rw[XC (hiff.mp rfl)]at hR
      wp_walk
      exact#[î,_,_,_,_,hrest,hvi',hwi',ϔ (â ÀJ (š 2 3) ãH [_,_,_,_] (Nat.le_of_eq hlen)) (â ÀJ (š 2 3) ãH [_,_,_,_] (Nat.le_of_eq hlen.symm)),hR]
     |false =>
      rw[XB (ÅE q (hiff.mpr q) Zq)]at hR;have hri:=LR A.in1 ÊA a t c u prog w
      wp_walk using hri
      exact#[Å,û hR]
  case fin =>
   rintro⟨b1,b2⟩ s' ⟨hb',rfl,vs,ws,ns',ms',hz,hvi,hwi,hlen,hR⟩;simp only at hb';subst hb';have hv:lexLt ns' ms'=Å4 items.size items2.size:=by
    cases hvi with
    |nil =>
     cases hwi with
     |nil =>simp only[Yu]at hlen;rw[lexLt_nil_nil];exact(decide_eq_false (ÁU (Àd (ĝ Ć Ê (ĝ (ÍU 1) (ÍU 0) .z)) Âx q (Nat.le_of_eq hlen)))).symm
     |cons c u hw =>simp only[Yu,Zo]at hlen;rw[lexLt_nil_cons];exact(decide_eq_true (ÓL (ć (.p (ã 2) Ç) (Ão 1)) æ (Nat.le_of_eq hlen.symm))).symm
    |cons a t hv =>
     cases hwi with
     |nil =>simp only[Yu,Zo]at hlen;rw[xN];exact(decide_eq_false (ÁU (Àd (ĝ Ć Ê (ĝ (.p (Ų a 2) Ê) (ÍU 0) .z)) æ θ q (Nat.le_of_eq hlen)))).symm
     |cons c u hw =>ext è List.zip_cons_cons hz hz
   rw[hv]at hR
   wp_walk
   exact#[Å,by ext Åv Builtin.Tuple.tupleCompareSizes hR]
  case h =>exact#[î,items.toList,items2.toList,ns,ms,Ì hi,hj,ϔ (â ÀJ (š 2 3) (Ñ Ê Ô (ć Ç (.a 3))) [_,_,_,_] (Nat.le_of_eq z2) (Nat.le_of_eq z1.symm)) (â ÀJ (š 2 3) (Ñ Ç (.a 3) (Ñ Ê Ô .z)) [_,_,_,_] (Nat.le_of_eq z2.symm) (Nat.le_of_eq z1)),h]
#check 0
section
variable{A:XN}{s:XI}
theorem lt_tupInts{items items2:Array XJ}(ßO hl l items items2)(hi:IntsAre items.toList ns)(hj:IntsAre items2.toList ms)(hu:A.units<cLine)(h:Q (.bool (lexLt ns ms)) s):ċ (ÊE Lt (Ï l) (Ï b)) Q E s:=by
 ext ÓJ hl hb;subst hc hd hc2 hd2;exact richCompare_meets_room (op:=.Lt) (À5 ho) (À5 ho2) PySem.F.slot_tuple_lt PySem.F.entry_tuple_lt (PySem.F.args_tuple_lt_2 Â) (AC l b items items2 n n2 dd dd2 sl sl2 ns ms hi hj)
  #[ho,ho2,show Value.bool (lexLt ns ms)≠Value.notImplemented/\Q (.bool (lexLt ns ms)) s from#[(λ x=>Ş x),h]] hu
theorem cat_tup{t b:XH}{vs ws:XG}(ßO ht t vs.toArray ws.toArray)(hv:vs≠[])(h1:ws=[]->Đ t s)(h2:ws≠[]->Đ s.heap.objs.size { s with heap:=s.heap.push { cls:=.type "tuple",data:=.seq (vs++ws).toArray } })(hsz:vs.length+ws.length<=sizeLine):ċ (binaryOp .Add (Ï t) (Ï b)) Q E s:=by
 ext ÓJ ht hb;subst hc hd hc2 hd2;have e:vs.toArray++ws.toArray=(vs++ws).toArray:=Ĵ
 show å hw ws []
 .exact ÓA concat_meets
   (äO tuple_addW1 (Ĉ hw)) #[ho,ho2,h1 hw]
 .refine ÓA concat_meets
   (äO tuple_addW2 (û hw) (Êw Zl Zl hsz)) #[ho,ho2,? _]
  rw[e];exact h2 hw
def sIx ÒQ:Option Int->Nat
 |none=>d
 |Ľ=>ØD
theorem sIx_none ÒQ:sIx n d none=d:=rfl
theorem sIx_nat(n d k:Nat):sIx n d (Ù (É k))=min k n:=by show(if É k<0 then(É k+É n).toNat else min (k:Int).toNat n)=min k n;rw[Ě XB Ãq Úw q,ZP]
theorem RU ÒQ(hd:d<=n)(o:Option Int):sIx n d o<=n:=by
 cases o with
 |none=>exact hd
 |some v =>
  show(ØD)<=n;by_cases hv:v<0
  .rw[XC hv];omega
  .rw[XB hv];exact Æm
theorem lz0(m n:Nat):min (É m) (É n)=É (min m n:Nat):=by
 ext Ât Nat.le_total m n h
 .rw[YD h,Int.min_eq_left (Int.ofNat_le.mpr h)]
 .rw[Nat.min_eq_right h,Int.min_eq_right (Int.ofNat_le.mpr h)]
theorem lz1(v:Int)Ė(h:¬v<0):min v (É n)=É (min v.toNat n:Nat):=by exists Áz m,Int.eq_ofNat_of_zero_le (Int.not_lt.mp h);exact lz0 m n
theorem lz2(v:Int):max v 0=ÀV v.toNat:=(Int.ofNat_toNat v).symm
theorem lz3(v:Int)Ė(h:¬v<0):max 0 (min v (É n))=É (min v.toNat n:Nat):=by rw[lz1 v n h];exact Int.max_eq_right (Int.natCast_nonneg _)
theorem lz5(v:Int)Ė(h:v<0):v+n<=n:=by have:=Int.add_le_add_right (Int.le_of_lt h) (É n);ext Â1 Int.zero_add
theorem lz4(v:Int)Ė(h:v<0):max 0 (min (v+n) (É n))=É ((v+n).toNat:Nat):=by rw[Int.min_eq_left (lz5 v n h),Int.max_comm];exact lz2 _
theorem Es(v:Int)ÒQ:åM=É (sIx n d (Ù v):Nat):=by
 show åM=(((ØD):Nat):Int);by_cases hv:v<0
 .simp only[XC hv];exact lz2 _
 .simp only[XB hv];exact lz1 Â hv
theorem FP ÆU Ė:Builtin.Slice.sliceAdjust lo hi 1 (É n)=(ÌN n,É (sIx n n hi:Nat)):=by
 have h1:¬(É 1<0):=∅
 unfold Builtin.Slice.sliceAdjust;ext ÀD h1 Y4;refine Prod.ext Ĳ
 .cases lo with
  |none=>rfl
  |some v=>exact Es v ÁM
 .cases hi with
  |none=>rfl
  |some v=>exact Es v n n
theorem GJ(i j:Nat):Builtin.Slice.slicePlaces (É i) (É j) 1=j-i:=by
 unfold Builtin.Slice.slicePlaces;have h1:É 1>0:=∅
 simp only[h1,if_true,Int.ediv_one];split<;>omega
theorem wK{Q:Æ0 Int XI}(p:IsPart v o)(h:Q o s):ċ (Builtin.Slice.slicePartIndex v) Q E s:=by
 cases p with
 |none=>exact slicePart_none h
 |int i t=>exact slicePart_int h
theorem sliceApplied_gen{lo hi:Option Int}à{Q:Int×Int×Nat->Þ XI}(hs:s.heap.IsSliceOf sl vl vu Àl)(pl:IsPart vl lo)(pu:IsPart vu hi)(h:Q (ÌN n,1,sIx n n hi-sIx ÁM lo) s):ċ (Ā Builtin.Slice.sliceApplied sl (pure (É n))) Q E s:=by exists[os,hos,hcs,hds],id hs;unfold Builtin.Slice.sliceApplied Builtin.Slice.sliceFields;show ÂR (z9 (ZY hos hds (x:=vl) rfl (z9 (ZY hos hds (x:=vu) rfl (z9 (ZY hos hds (x:=.none) rfl (Zb ? _))))))) (slicePart_none ? _);show Θ (Âl (É 1==0) _ _) s;rw[ÃN];show í (wK pl (z9 (wK pu (z9 (Zb ? _)))));show Θ (match Builtin.Slice.sliceAdjust lo hi 1 (É n)with|(lo,hi)=>pure (lo,É 1,Builtin.Slice.slicePlaces lo hi 1)) s;rw[FP lo hi n];show Θ (pure (ÌN n,É 1,Builtin.Slice.slicePlaces (ÌN n) (É (sIx n n hi:Nat)) 1)) s;rw[GJ];exact Zb h
theorem LD(xs:Array XJ)(i k:Nat):((Ŷ k filterMap) fun(m:Nat)=>xs[(É i+É m*1).toNat]?).toArray=((xs.toList.drop i).take k).toArray:=by
 have e:(fun(m:Nat)=>xs[(É i+É m*1).toNat]?)=λ m=>xs[i+m]?:=by
  funext m;have:(É i+É m*1).toNat=i+m:=ϔ (Ès (ÕO (.p (.c Ê) (.r (.c Ô) 1)) .z) æ (Int.le_of_eq (Int.toNat_of_nonneg (ô č (ÐP p àh) .z Âx)))) (â ÀJ Ô (.h 1 true (ÐP p àh) (.c Ô) .z) æ (Int.self_le_toNat _))
  rw[this]
 rw[e];have:=pick_run xs i k;ext Â5 List.filterMap_map;have e2:((λ x=>xs[x]?)∘λ x=>i+x)=λ m=>xs[i+m]?:=rfl;ext Â5 e2;rw[this]
theorem getItem_tuple_cut{t sl:XH}Úa(hw:¬(Îs sIx items.size))(h:Đ s.heap.objs.size { s with heap:=s.heap.push { cls:=.type "tuple",data:=äy } })(hsz:Ń items.size):ċ ãw E s:=by
 have htake:sizeOk (äy):=by show(ÉK items.toList.drop sIx items.size).toArray.size<=sizeLine;rw[Zl,ZJ,Yx,Zx];exact Zn (Æm) (Zn Æ5 hsz)
 have hj:sIx items.size items.size hi<=items.size:=RU Â (Zf _) hi;ext àx;refine z9 (Òz ht.typeIs YB
  âu)
 ext ÝO sliceApplied_gen;have hno:¬(ÖY sIx):=by intro q;rw[ZH,ZH]at q;have q1:ÌN items.size=0:=eq_of_beq q.1.1;have q2:Úf sIx=items.size:=eq_of_beq q.2;exact hw #[ϔ (ϙ 0 (ÕO č .z) [_] (Int.le_of_eq q1)) ÙR,ϔ (Ád ϊ hj) (â Ç Ê (Ñ Ç Ô ÅF) æ (Nat.le_of_eq q2.symm) Æ5)]
 show Θ (if ÖY sIx then _ else _) s;rw[XB hno,LD]
 first
  |exact Ïq (ZM ÍG htake)
  |exact Ïq (ZM (z9 (Zb ÍG)) htake)
  |exact z9 (Ïq (ZM (Zb ÍG) htake))
  |exact z9 (Ïq (ZM ÍG htake))
#check 0
#check HT
namespace Lake
open PySem PySem.Spec PyProof.Rows
abbrev TO:=Ên (Æ0 Int Hp)
def PO än:Prop :=
 ∀ω Ë (Q:Æ0 Int Hp),ï ķ->t Z H Q ->
  Ź (evalPart e X.env) (λ u s'=>Ñx o IsPart u o) X.xe s
def Fm:TO:=λ _ H Q=>Q none H
inductive IsI(x:V)(R:Þ Int):Prop
 |mk (i:Int) (h:x=Í i) (q:R i):IsI x R
def Nj(t:TE):TO:=λ Z H Q=>t Z H λ x H1=>IsI x λ i=>Q (Ù i) H1
theorem cO{ns:XQ}:∀{us:XG},Vals (ns.map V.int) us->IntsAre us ns:=by
 induction ns with
 |nil=>intro us r;ext è List.map_nil r r;exact ė
 |cons n ns ih =>
  intro us r;rw[Zu]at r;cases r with
  |cons r1 r2 =>exists[t,e],r1;ext Ļ;exact υ n t (ih r2)
section
variable{X:Cx}{te:TE}{lo hi:Option XT}{tl th:TO}
theorem ON:PO X none Fm:=by ext ı Q;rw[evalPart_none];exact Zb #[none,H,I,.none,h]
theorem OO(Àf h e te):PO X (Ù e) (Nj te):=by ext Êb H hw;rw[evalPart_some];refine thn (h ÂO I hw) (ο u s1);ext ÁV x;ext ļ i q q1;show þ [t,rfl] r1 #[Ã i,H1,I1,İ i t,q]
def SlR(X:Cx)Ód:Prop :=
 ∀ω Ë (x:V) (v vl vu:XJ) ÆU (sl:XH) (Q:VK),ï ķ->RelV x v->s.heap.IsSliceOf sl vl vu Àl->IsPart vl lo->IsPart vu hi->r x lo hi H Q ->
  ∃T id,Í8 T "__getitem__" = pure (ÈR id)/\s.TypeIs v T/\Á2 X.A (getItem v (Ï sl)) Àt X.xe s
def tSl Ód(te:TE)(tl th:TO):TE:=λ Z H Q=>te Z H λ x H1=>tl Z H1 λ l H2=>th Z H2 λ u H3=>r x l u H3 Q
theorem LA(ál SlR PE PO):äA PE (tSl r te tl th):=by show Õ5 Subscript_ (ÁA he v);refine wpAny_Slice (ÄP hl λ vl s2 ⟨l,H2,I2,pl,q2⟩=>thn (Íp hu Z) (ο vu s3));exists[u,H3,I3,pu,q3],hz9;rw[evalPart_none];ext Ħ Zb;have I4:ï H3 Óx:=I3.kept (t':=s3.toks) (Àu ob q q);exists[T,id,hT,ht,hg],hr XU Óx Z H3 x v vl vu l u s3.heap.objs.size Q I4 r1 (Heap.IsSliceOf.new ..) pl pu q3;show Á2 X.A (subscriptTail e ÝN v (Ï s3.heap.objs.size)) Àt X.xe Óx;exact tail_any (ops:=[Æ s3.heap.objs.size,v]) ht hT hg (by with_unfolding_all rfl)
def bU ÀT ÆU:Ä V:=ÉK xs.drop HT.sIx xs.length
theorem tM ÀT ÆU:Âa bU xs lo hi<=xs.length:=by ext ÀY bU ZJ Yx;exact Zn (Æm) Æ5
inductive rSlT ÞY Ë(Q:VK):Prop
 |mk (âf SqT) (h2:¬(Îs HT.sIx xs.length)) (h3:∀p,á p->Đ p (ø p (Ò (bU xs lo hi)))):rSlT K x lo hi H Q
theorem RY:SlR X (rSlT X.K):=by
 ext ÏH;show ÃL [a,xs,rfl,hx,hw,q] h rx;exists[its,r,ht,hz],I.tuple hx;ext à8
 refine#["tuple",_,YB.lookup,ht.typeIs,? _];refine HT.getItem_tuple_cut ht hs pl pu (Ă hlen hw) ? _ (Ă hlen hz);rw[hlen];refine#[Öe Ò bU xs lo hi,q ÈI];exact#[Zn (tM xs lo hi) hz,_,ÉK r.drop HT.sIx xs.length,IsTup.new Â]
def Tu(K:XY):R2:=λ x y H Q=>∃a b xs ys,Àh/\y=Æ b/\SqT K H a xs/\SqT K H b ys/\xs≠[]/\Ìo ys.length /\
 (ys=[]->Đ a H)/\(ys≠[]->∀p,á p->Đ p (ø p (Ò (xs++ys))))
theorem Vals.nil_iff(r:Vals xs us):us=[]↔xs=[]:=by
 cases r with
 |nil=>simp
 |cons _ _=>simp
theorem Ot:ÅD Add (Tu X.K):=by show Àc [a,b,xs,ys,rfl,rfl,ha,hb,hx,hz,q1,q2];ext ÁH rx ry;show ÝA I.tuple;refine HT.cat_tup p1 p2 (ÃF hx r1.nil_iff.mp) (λ z=>#[Æ a,ś H I,q1 (r2.nil_iff.mp z)]) (ģ z) (by rw[<-r1.length,<-r2.length];exact hz);refine#[Æ s.heap.objs.size,_,Âo I.laid (o:=Ò (xs++ys)) âI,rfl,q2 (λ w=>z (r2.nil_iff.mpr w)) ÈI];exact#[Ă Zm hz,_,r1.append r2,IsTup.new Â]
#check 0
def ixN(Â3 i Int):Option Nat:=if 0<=i then(if i<n then Ã i.toNat else none)else if -(É n)<=i then some (i+n).toNat else none
def atI ÀR(xs:Ä α)(i:Int):Option α:=(ixN xs.length i).bind λ j=>xs[j]?
theorem EF à{i:Int}{j:Nat}(h:ixN n i=Ã j):seqIndex? i n=Ã j/\j<n/\-(É n)<=i/\i<n:=by
 ext Ĝ ixN h;by_cases h0:0<=i
 .rw[XC h0]at h;by_cases h1:i<n
  .rw[XC h1]at h;have e:i.toNat=j:=Zt h;exact#[by rw[seqIndex_of h0 h1,e],(by exact ÂY Ć Ê (ĝ Ç Ô (ÿ Ć (.c Ê) (Ĩ (.c Ô) Ç))) æ Τ (Nat.le_of_eq e.symm) h1 (ÉH h0)),(ÅW (.g η) Ç (Ĩ č Ç) [_] h0),h1]
  .ext ώ XB h1 h
 .rw[XB h0]at h;by_cases h1:-(É n)<=i
  .rw[XC h1]at h;have e:(i+n).toNat=j:=Zt h;exact#[by rw[seqIndex_neg (ÇL ÒZ Ć č (ť Ĩ 0 č) [] (Int.lt_of_not_ge h0)) h1,e],(by exact ÂY Ć Ê (ĝ Ç Ô (ÿ Ć č (ÿ (.c Ô) (À9 0 (.c Ê)) .z))) æ Τ (Nat.le_of_eq e.symm) (Int.lt_of_not_ge h0) (Int.le_of_eq (Int.toNat_of_nonneg (ô č (À9 0 η) (Ĩ (.g η) Ç) Æ3 h1)))),h1,(ÅW Ć η (ť Ĩ 0 č) [_] (Int.lt_of_not_ge h0))]
  .ext ώ XB h1 h
theorem xt ÀR(δ xs α i Int){v:α}(h:atI xs i=Ľ):∃j,seqIndex? i xs.length=Ã j/\Ŗ xs v/\À4 j/\-(É xs.length)<=i/\À4 i:=by
 ext Ĝ atI h;cases e:ixN xs.length i with
 |none=>ext è e h h
 |some j =>rw[e]at h;exists[h1,h2,h3,h4],EF e;exact#[j,h1,h,h2,h3,h4]
theorem fi ÀR(δ xs α j Nat){v:α}(h:Ŗ xs v):atI xs (É j)=Ľ:=by
 have hj:À4 j:=Àg h;have e:ixN xs.length (É j)=Ã j:=by unfold ixN;rw[XC (by exact ô č η Ζ),XC (Àz Äo hj)];simp
 ext ğ atI e;exact h
def Ek(b:XT):Prop:=∀o i,Òl b o i [o,i] (getItem o i)
def IxR(ŵ r R2):Prop :=
 ∀(value slice:XT) ω Ë Óe (Q:VK),ï ķ->RelV x v->RelV y u->r x y H Q ->
  Òl slice v u [v,u] (getItem v u)->Á2 X.A (subscriptTail value slice v u) Àt X.xe s
def MtR ãY:Prop :=
 ∀ω Ë (x:V) ÀT (v:XJ) (us:XG) (Q:VK),ï ķ->RelV x v->Vals xs us->r x xs H Q ->
  Ź (Èy id (v::us)) Àt X.xe s
section
variable{X:Cx}{a b:XT}{ta tb:TE}{pos:Pos}
theorem Tm(hr:IxR X r)(Íj PE)(hs:Ek b):Éu PE a b (tOp r ta tb):=by ext ı Q;exact Subscript_ (Kq ha hb I h λ v u s2 x y H2 I2 rx ry q=>hr a b XU s2 Z H2 x y v u Q I2 rx ry q (hs Â))
inductive rIxL(ζ x V)(y:V)Ë(Q:VK):Prop
 |mk (Ûe SqL):rIxL K x y H Q
inductive rIxT(ζ x V)(y:V)Ë(Q:VK):Prop
 |mk (Ûe SqT):rIxT K x y H Q
def RL:R2:=λ x y H Q=>∃z i c,x=Î z/\y=Í i/\Ń z.length/\atI z.cps.toList i=Ã c/\Q (ÈA) H
theorem NZ:IxR X (rIxL X.K):=by
 ext Ûv I.list;have fin:EP X XU Z Q w s:=#[z,H,I,rw',q]
 by_cases h0:0<=i
 .have hj:i.toNat=j:=by rw[seqIndex_of h0 h5]at h1;exact Zt h1
  exact item_listR pl.isList h0 ∅ (by rw[hj];simpa using ew) fin hs
 .ext ão hj i h4
  exact ÙO w pl.isList.typeIs slot_list_getitem.lookup
   (wpAny_getItem_list_neg (Q:=ÙL w) pl.isList ∅ (by rw[Zl]<;>omega) ∅ (by rw[hj];simpa using ew) #[Ì fin]) hs
theorem Qn:IxR X (rIxT X.K):=by
 ext Ûv I.tuple;have fin:EP X XU Z Q w s:=#[z,H,I,rw',q]
 exact ÙO w pl.typeIs slot_tuple_getitem.lookup
  (getItem_tuple (j:=j) (Q:=ÙL w) pl ∅ ∅ (ÌT hl h1) (û ew) #[Ì fin]) hs
theorem Qm:IxR X RL:=by
 show Ür [z,i,c,rfl,rfl,hz,he,q];ext ĭ t rx;ext Âs;exists[j,h1,h2,h3,h4,h5],xt he;have hl:z.cps.toList.length=z.length:=Ĉ Str.length
 rw[hl]at h1 h4 h5;have hn:=rG;exact tail_any (typeIs_str s z t) slot_str_getitem.lookup (getItem_str (c:=c) (by
  have e1:decide (i < -(2^63:Int))=false:=ĥ decide_eq_false;have e2:decide (i>=2^63)=false:=ĥ decide_eq_false;rw[e1,e2,Bool.or_false]) (by rw[h1];simpa using h2) #[ÈA,Ãb,q]) hs
theorem Go(its:XG)(n j:Nat)(u:XJ):Obj.mapSeq (·.setIfInBounds j u) (ÆR n)={ cls:=.type "list",data:=.seq (its.set j u).toArray n }:=Ĉ Obj.mapSeq
theorem Inv.lst{XU:XD}{Z:St}Ο{s:XI}{p:XH}Ác ç(h:ĺ H p xs) :
  ∃(its:XG) (n:Nat),Vals xs its/\s.heap.get? p=ϝ ÆR n/\Ń xs.length:=by
 exists[z,its,n,r,e],I.hok p _ h;exact#[its,n,r,e,z]
theorem Inv.lstUpd{its its':XG}(ş n n')ç(h:ĺ H p xs)(ho:s.heap.get? p=ϝ ÆR n)(hf:f (ÆR n)=åN)(Õ8 r its')(t:Nat):
  ï (Æy p ys) { s with heap:=s.heap.update p f,toks:=t }:=by
 have e:(s.heap.update p f).get? p=some åN:=by rw[Ye f ho (by rw[hf]<;>rfl),hf]
 refine ÌR p p (by rw[h];trivial) (Ó rfl) (λ b u hb q=>(Yr Â (Z7 hb)).trans q) #[_,e] ? _;exact#[hz,its',n',r,e]
def M9:V->V->V->äE:=λ o i v H Q=>∃p xs k j,o=Æ p/\i=Í k/\ĺ H p xs/\ixN xs.length k=Ã j/\Q (ø p (Õ (xs.set j v)))
theorem L8:Km X M9:=by
 intro XU s Z H o i v ov iv u Q I ro ri rv h;show ÃL [p,xs,k,j,rfl,rfl,hp,hj,q] h ro;ext ĭ t ri;show Ž [its,n,r,ho,hz] I.lst hp [h1,h2,h3,h4] EF hj;have hl:=r.length;have hn:=rG;have I':ï (ø p (Õ (xs.set j v))) { s with heap:=s.heap.update p (Obj.mapSeq (·.setIfInBounds j u)) } :=
  I.lstUpd hp ho (Go its n j u) (r.set rv j) (Ă Yv hz) s.toks
 by_cases h0:0<=k
 .have hk:k.toNat=j:=by rw[seqIndex_of h0 h4]at h1;exact Zt h1
  exact W.ki_setAt ho h0 ∅ (ÌT hl h4) (Ă hk #[_,I',q])
 .ext ão hk k h3
  exact W.ki_setBack ho ∅ (ÌT hl h3) ∅ (Ă hk #[_,I',q])
theorem C9 ÆU Ė:(sliceBounds lo hi none n).1=É (HT.sIx ÁM lo:Nat)/\(sliceBounds lo hi none n).2.1=É (HT.sIx n n hi:Nat)/\(sliceBounds lo hi none n).2.2=1:=by
 refine#[Χ,rfl]
 .cases lo with
  |none=>simp[sliceBounds,HT.sIx]
  |some i =>
   ext ÜG
 .cases hi with
  |none=>simp[sliceBounds,HT.sIx]
  |some i =>
   ext ÜG
theorem AB(its:XG)ÆU:slicePick its.toArray lo hi none=(ÉK its.drop HT.sIx its.length).toArray:=by exists[h1,h2,h3],C9 lo hi its.toArray.size;unfold slicePick;rw[h1,h2,h3];simp only[sliceRange_one,pick_run,Zl]<;>rfl
inductive rSlL ÞY Ë(Q:VK):Prop
 |mk (âf SqL) (h2:Æl p (ø p (Õ (bU xs lo hi)))):rSlL K x lo hi H Q
theorem Pb:SlR X (rSlL X.K):=by ext ÏH;exists ÀQ a xs hx q,h;cases rx;ext Üi I.list;refine#["list",_,slot_list_getitem.lookup,ht.isList.typeIs,? _];refine wpAny_getItem_list_slice ht.isList hs pl pu Àl Û ? _ (by rw[Zl]<;>omega);rw[AB,<-hlen];refine#[Öe Õ bU xs lo hi,q ÈI];exact#[Zn (tM xs lo hi) hz,_,0,ÉK r.drop HT.sIx xs.length,ĸ]
def nj:ÀX V
 |.non=>true
 |.bl _=>true
 |Í _=>true
 |Î _=>true
 |_=>false
def eqV:V->ÀX V
 |.non,.non=>true
 |.bl a,.bl b=>a==b
 |.bl a,Í b=>(if a then 1 else 0)==b
 |Í a,.bl b=>a==(if b then 1 else 0)
 |Í a,Í b=>a==b
 |Î a,Î b=>a==b
 |_,_=>false
theorem P8(ry:RelV y u)(rx:RelV x v)(fy:ú nj y)(fx:ú nj x):SeqAt.EqAt A s u v (eqV y x):=by
 cases y with
 |non =>
  cases ry;cases x with
  |non=>cases rx;exact SeqAt.EqAt.same _
  |bl b=>cases rx;exact SeqAt.EqAt.none_bool b
  |int b=>ext ĭ t rx;exact SeqAt.EqAt.none_int b t
  |str b=>ext ĭ t rx;exact SeqAt.EqAt.none_str b t
  |_=>exact Á4 fx
 |bl a =>
  cases ry;cases x with
  |non=>cases rx;exact SeqAt.EqAt.bool_none a
  |bl b=>cases rx;exact SeqAt.EqAt.bool_bool a b
  |int b=>ext ĭ t rx;exact SeqAt.EqAt.bool_int a b t
  |str b=>ext ĭ t rx;exact SeqAt.EqAt.bool_str a b t
  |_=>exact Á4 fx
 |int a =>
  ext Âs;cases x with
  |non=>cases rx;exact SeqAt.EqAt.int_none a t'
  |bl b=>cases rx;exact SeqAt.EqAt.int_bool a t' b
  |int b=>ext ĭ t rx;ext Ïr SeqAt.EqAt.int_int
  |str b=>ext ĭ t rx;ext Ïr SeqAt.EqAt.int_str
  |_=>exact Á4 fx
 |str a =>
  ext Âs;cases x with
  |non=>cases rx;exact SeqAt.EqAt.str_none a t'
  |bl b=>cases rx;exact SeqAt.EqAt.str_bool a t' b
  |int b=>ext ĭ t rx;ext Ïr SeqAt.EqAt.str_int
  |str b=>ext ĭ t rx;ext Ïr SeqAt.EqAt.str_str
  |_=>exact Á4 fx
 |_=>exact Á4 fy
def eqU(x:V)(u:XJ):Bool:=match u with
 |.none=>eqV .non x
 |.bool b=>eqV (.bl b) x
 |İ i _=>eqV (Í i) x
 |.str z _=>eqV (Î z) x
 |_=>false
theorem Ik(r:RelV y u)(f:ú nj y):eqU x u=eqV y x:=by
 cases y with
 |non=>ext ϖ r
 |bl b=>ext ϖ r
 |int i=>ext ĭ t r;rfl
 |str z=>ext ĭ t r;rfl
 |_=>exact Á4 f
theorem xp:∀Ác {us:XG},Vals xs us->ú xs.all nj->us.any (eqU x)=xs.any λ y=>eqV y x
 |_,_,.nil,_=>rfl
 |y::xs,u::us,Ę r t,f=>by rw[Y6,ZH]at f;rw[Xu,Xu,Ik r f.1,xp t f.2]
theorem uC(rx:RelV x v)(fx:ú nj x):∀Ác {us:XG},Vals xs us->ú xs.all nj->∀u∈us,SeqAt.EqAt A s u v (eqU x u)
 |_,_,.nil,_=>λ u hu=>ÁF hu
 |y::xs,u::us,Ę r t,f=>λ u' hu=>by
  rw[Y6,ZH]at f;ext ϋ hu hu
  .rw[Ik r f.1];exact P8 r rx f.1 fx
  .exact uC rx fx t f.2 u' hu
def inV(x:V)ÀT:Bool:=xs.any λ y=>eqV y x
def rIn(ζ neg Bool):R2:=λ x y H Q=>∃p xs,y=Æ p/\(SqL K H p xs\/SqT K H p xs)/\ú nj x/\ú xs.all nj/\Q (.bl (if neg then ! inV x xs else inV x xs)) H
theorem Jh:ų OpR In (rIn X.K false):=by
 show Àc [p,xs,rfl,hq,fx,fs,q];cases ry;ext Ś hq hq hq
 .ext Æd r pl I.list;ext Ýk SeqAt.in_listAt pl.isList;rw[Üe,xp r fs];ext ŷ
 .ext Æd r pl I.tuple;ext Ýk SeqAt.in_tupleAt pl;rw[Üe,xp r fs];ext ŷ
theorem Bu:Ìz "len" (âA):=by
 ext Õk ys;have hn:=rG;ext Ś hq hq hq
 .ext Ìv I.list;exact Calls.call_len_list pl.isList ÙS Ý0
 .ext Ìv I.tuple;exact len_tuple pl ÙS Ý0
theorem Bv:áo fh:=by
 ext Õk ys;have fin:∀(its:XG),Vals ys its->Ń ys.length->∀(h':Heap) (c':Nat),(ÄH o') ->
   h'.get? s.heap.objs.size=ÛE "list" none its.toArray c' Ů->EP X XU Z Q (Ï s.heap.objs.size) (ů s h'):=λ its r' hz h' c' kp e =>
  #[Æ s.heap.objs.size,_,Âo I.laid kp (Zf _) (Ùj (Õ ys) #[hz,its,c',r',e]),rfl,q ÈI]
 ext Ś hq hq hq
 .ext Ìv I.list;exists[o,ho,hc,n,hd],pl.isList;show Û6 (Ó rfl)
 .ext Ìv I.tuple;exists[o,ho,hc,n,hd],pl;show Û6 (ā rfl)
theorem zW:fh X (.type "tuple") áO:=by
 show Çc [p,ys,rfl,h];cases rx;ext Ät h hq q hq q
 .ext Ìv I.list;refine call_tuple_list pl.isList (Ø h' kp) ÙS;have I1:ï H (ů s h'):=Âo I.kept kp;have I2:ï (ø h'.objs.size (Ò ys)) { s with heap:=h'.push (Ϙ ÊH its.toArray) } :=
   Âo I1.laid (Àu o e e) (Zf _) (show ObjOk X.prog X.w ì (Ò ys)from#[hz,its,r',IsTup.new Â])
  exact#[Æ h'.objs.size,ś _ I2,q _ (I1.hok.fresh (Zf _))]
 .ext Æd r' pl I.tuple;exact call_tuple_same pl #[Æ p,H,I,Ì q]
def tyV(ζ T String)(x:V)Ë:Prop:=match x with
 |Î _=>T="str"
 |Í _=>T="int"
 |Æ p=>(T="list"/\∃xs,SqL K H p xs)\/(T="tuple"/\∃o,K.lookup p=ò/\Åy "tuple"/\o.dict=none) \/
   (T="dict"/\((∃kvs,H p=ą dK kvs)\/∃kvs,Å7 H p))\/(T="set"/\∃S n,H p=Ã (.set S n))
 |_=>False
theorem Ka ç(r:RelV x v)(ty:tyV X.K T x H):
  s.TypeIs v T/\∀a,ÄU->∃ob,Ġ a ob/\ob.dict=none:=by
 cases x with
 |str z =>ext ĭ t r;show Ř (show T="str" from ty) #[typeIs_str s z t,Á0 _ e]
 |int i =>ext ĭ t r;show Ř (show T="int" from ty) #[typeIs_int s i t,Á0 _ e]
 |ref p =>
  cases r;rcases ty with⟨rfl,xs,hq⟩|⟨rfl,o,hk,hc,hd⟩|⟨rfl,hk⟩|⟨rfl,S,n,hk⟩
  .exists[its,_,pl,_],I.list hq;refine#[pl.isList.typeIs,Ø a e];cases e;show þ [o,n,e,c,hd,_] pl #[o,e,hd]
  .refine#[#[o,Õc p],Ø a e];show Ř e #[o,I.kIn _ o hk,hd]
  .have z:∃o,Ġ p o/\o.ExactDict:=by
    ext Ät hk kvs hk kvs hk
    .exists Þv,I.hok p _ hk;exact#[o,e,ex]
    .exists Þv,I.hok p _ hk;exact#[o,e,ex]
   show Áh [o,e,ex] z #[#[o,e,ex.1],Ø a e2];show Ř e2 #[o,e,ex.2.1]
  .exists[o,_,_,_,e,ex,_],I.hok p _ hk;refine#[#[o,e,ex.1],Ø a e2];show Ř e2 #[o,e,ex.2.1]
 |_=>ext À3 ty
def R9(ζ T String)(r:V->Ä6)(to:TE):TE:=λ Z H Q=>to Z H λ x H1=>tyV K T x H1/\r x [] H1 Q
def tBM(ζ T String)(r:V->Ä6)(to:TE)(t:TA):TE:=λ Z H Q=>to Z H λ x H1=>tyV K T x H1/\t Z H1 λ xs H2=>r x xs H2 Q
variable{e:XT}{t:TA}{apos cpos:Pos}{id:String}
theorem Q8 Û9 ÝS(Àf ho o to)(hbase:ÂN o name:=by rfl)Äc:PE X (Ãv (Âm name apos) []) (R9 X.K T r to):=by ext ı Q;show Ýw (ÁA ho v);exists[x,H1,I1,r1,ty,q1],hz9;exists Ãn,Ka I1 r1 ty;exact#[T,id,pa,slot,hty,h1,h2,Y5 rfl (PySem.evalArgs_none (hm XU s1 Z H1 x [] v [] Q I1 r1 ė q1))]
theorem GH Û9 ÝS(Àf ho o to)(ha:PA X ϑ t)(hbase:ÂN o name:=by rfl)(hfew:((backTo cpos (starEach ϑ X.env)).all (λ x=>! ö)&&(ÓK cpos).all (λ x=>x.1.isSome)
  &&decide ((e::es).length+Íq length+(Õu)<30))=true:=by rfl)Äc(Òf hs hplain cpos) :
  PE X (Ãv (Âm name apos) ϑ) (tBM X.K T r to t):=by
 ext ı Q;refine wpAny_Call_method_late hbase hfew hline rfl (ÁA ho v);exists[x,H1,I1,r1,ty,q1],hz9;exists Ãn,Ka I1 r1 ty;refine#[T,id,pa,slot,hty,h1,h2,? _];have hA:=Çr ha cpos _ q1;rw[hs]at hA ⊢;refine Y5 (by show Ũ (false ||Ër (·.1));rw[hplain]<;>rfl) (Calls.evalArgs_plain ? _);exact thn hA λ us s2 ⟨vs,H2,I2,r2,q2⟩=>hm XU s2 Z H2 x vs v us Q I2 r1 r2 q2
#check 0
def MtM ãY:Prop :=
 ∀ω Ë (x:V) ÀT (v:XJ) (us:XG) (Q:VK),ï ķ->RelV x v->Vals xs us->r x xs H Q ->
  Ź (Èy id (v::us)) Àt X.xe s
theorem Vals.one:∀{x:V} {us:XG},Vals [x] us->∃u,us=[u]/\RelV x u
 |_,_,Ę r ė=>#[Å,r]
theorem Vals.zero:∀{us:XG},Vals [] us->us=[]
 |_,.nil=>rfl
theorem Vals.dropLast(h:Vals xs us):Vals xs.dropLast us.dropLast:=by
 induction h with
 |nil=>exact ė
 |cons r t ih =>
  cases t with
  |nil=>exact ė
  |cons q t'=>exact υ r ih
theorem Vals.rep(h:Vals xs us):∀k:Nat,Vals (ÁD k xs flatten) (ÁD k us flatten)
 |0=>.nil
 |k+1=>by rw[Xm,Xm,List.flatten_cons,List.flatten_cons];exact Vals.append h (Vals.rep h k)
theorem F7 ÀR(l:Ä α):l.eraseIdx (l.length-1)=l.dropLast:=List.eraseIdx_length_sub_one
theorem rm(its:XG):∀(Ŏ k acc XG),
  Üt acc.toArray (List.replicate k its.toArray)=(acc++ÁD k its flatten).toArray
 |0,acc=>Ĵ
 |k+1,acc=>by
  have e:acc.toArray++its.toArray=(acc++its).toArray:=Ĵ
  have e2:(acc++its)++ÁD k its flatten=acc++ÁD Ρ its flatten:=ÅJ Xm List.flatten_cons Xv
  rw[<-e2,<-rm its k (acc++its),<-e,Xm,List.foldl_cons]
section
variable{s:XI}
theorem Inv.lset{its its':XG}à{f:Array XJ->Array XJ}{t':Nat}ç Ò3(e:s.heap.get? l=ϝ ÆR n)(hf:f its.toArray=its'.toArray)(Õ8 hv its') :
  ï (Æy l ys) { s with heap:=s.heap.update l (Obj.mapSeq f),toks:=t' }:=by
 have q:=PySem.IsL.update e f;rw[hf]at q;refine ÌR l l (Ă hH trivial) (Ó rfl) (λ b' u hb hu=>(Yr s.heap (Obj.mapSeq f) (Z7 hb)).trans hu) #[_,q] ? _;exact#[hz,its',_,hv,q]
theorem Inv.lnew{t':Nat}ç(Õ8 hv its):
  ï (Æy s.heap.objs.size ys) (ÙC (Ϙ "list" seq its.toArray) t') :=
 I.laid ÕH #[hz,its,0,hv,ĸ]
theorem Inv.fresh ç:á s.heap.objs.size:=I.hok.fresh (Zf _)
theorem Inv.lstM ç Ò3:Ń xs.length/\∃(its:XG) (n:Nat),Vals xs its/\xs.length=its.length/\s.heap.get? l=ϝ ÆR n:=by exists[z,its,n,r,e],I.hok l _ hH;exact#[z,its,n,r,r.length,e]
theorem Cj à(h:Ń n):Builtin.List.listTooLong n=false:=by unfold Builtin.List.listTooLong;exact ĥ decide_eq_false
#check 0
section
inductive rAppend  (Ŧ x V vs V)Ë(Q:VK):Prop
 |mk (l xs y:_) (h0:x=Æ l) (h1:vs=[y]) (h2:ĺ ÂT) (h3:xs.length<sizeLine) (h4:Q .non (ø l (Õ (xs++[y])))):rAppend  x vs H Q
theorem IP:MtM X "list.append" rAppend:=by ext Íi vs rv;show ÃL [l,xs,y,rfl,rfl,hH,hz,q] h rx;ext ļ u ru rv.one;ext ÍE r hl hH;refine áI e l n u;refine#[.non,_,I.lset (its':=its++[u]) hH e Û (r.append (Ę ru ė)) ? _,Ì q];rw[Zm,y9];omega
def E1:V->Ä6:=λ x vs H Q=>∃l b xs zs,x=Æ l/\vs=ġ b/\ĺ ÂT/\ĺ H b zs/\Ìo zs.length/\Q .non (ø l (Õ (xs++zs)))
theorem IQ:MtM X "list.extend" E1:=by
 ext Íi vs rv;show ÃL [l,b,xs,zs,rfl,rfl,hH,hB,hz,q] h rx;ext ļ u ru rv.one;cases ru;show ã9;have hsz:its.toArray.size+its2.toArray.size<=sizeLine:=Ãf Zl Zl
 have hlong:¬(Ą (! its.toArray.isEmpty&&Builtin.List.listTooLong (its.toArray.size+its2.toArray.size))):=by rw[Cj hsz,Bool.and_false];exact Zq
 refine call_meets F.slot_list_extend (À5 e) F.entry_list_extend (F.args_list_extend_2 Â)
  (AutoSeq1.list_extend_list_list_0 l its.toArray n b its2.toArray n2 hlong (Ż Zl) ∅) #[e,e2,? _]
 refine#[.non,_,I.lset (its':=its++its2) hH e Û (r.append r2) ? _,Ì q];rw[Zm];omega
def RN:V->Ä6:=λ x vs H Q=>∃l xs y,x=Æ l/\vs=[]/\ĺ ÂT/\xs[xs.length-1]?=Ã y/\Q y (Æy l xs.dropLast)
theorem Qw:MtM X "list.pop" RN:=by
 ext Íi vs rv;show ÃL [l,xs,y,rfl,rfl,hH,hy,q] h rx;have hus:=rv.zero;subst hus;show Ž [z,its,n,r,hl,e] I.lstM hH [u,hu,ru] r.get hy;have hy':its.toArray[its.toArray.size-1]?=Ã u:=by show its.toArray[its.length-1]?=Ã u;rw[<-Yz,<-hl];exact hu
 refine call_meets F.slot_list_pop (À5 e) F.entry_list_pop (F.args_list_pop_1 _) (MeetsSeq.list_pop_last l its.toArray n u hy' (Ż Zl)) (ÁI e);refine#[y,_,I.lset (its':=its.dropLast) hH e ? _ r.dropLast ? _,ru,q]
 .show its.toArray.eraseIdxIfInBounds (its.toArray.size-1)=its.dropLast.toArray;rw[Zl,List.eraseIdxIfInBounds_toArray,F7]
 .rw[List.length_dropLast];omega
inductive rCat  (x:V)(y:V)Ë(Q:VK):Prop
 |mk (l b xs zs:_) (h0:x=Æ l) (h1:y=Æ b) (h2:ĺ ÂT) (h3:ĺ H b zs) (h4:Ìo zs.length) (h5:Æl p (ø p (Õ (xs++zs)))):rCat  x y H Q
theorem QU:ÅD Add rCat:=by
 show Àc [l,b,xs,zs,rfl,rfl,hH,hB,hz,q];ext ÁH rx ry;show ã9;refine PySem.P.add_list e e2 ? _ (Ãf Zl Zl);have ea:its.toArray++its2.toArray=(its++its2).toArray:=Ĵ
 rw[ea];exact#[Æ _,_,Âo I.lnew (r.append r2) (Ż Zm),rfl,q _ I.fresh]
def RO:R2:=λ x y H Q=>∃l k xs,x=Æ l/\y=Í k/\ĺ ÂT/\-(2^63)<=k/\k<2^63/\xs.length*k.toNat<=sizeLine /\
 ∀p,á p->Đ p (ø p (.lst (ÁD k.toNat xs flatten)))
theorem xM ÀR(xs:Ä α)À1:ÁD k xs flatten.length=k*xs.length:=by
 induction k with
 |zero=>simp
 |succ k ih=>rw[Xm,List.flatten_cons,Zm,ih,Nat.succ_mul,Nat.add_comm]
theorem Q2:ÅD Mult RO:=by
 show Àc [l,k,xs,rfl,rfl,hH,h1,h2,hz,q];cases rx;ext ĭ t ry;ext ÍE r hl hH;have hlen:Ùe<=sizeLine:=ÌT hl hz
 have hcap:¬Ùe>(2^63-1) / 8:=by
  have:(sizeLine:Nat)<=(2^63-1) / 8:=⋯
  omega
 have hfit:¬(Ą (! Builtin.List.listFitsIndex k)):=by rw[fitsIndex_both h1 h2];exact Zq
 have hlong:¬(ú Builtin.List.listTooLong (Ùe)):=Áf Cj hlen Zq
 have hnew:Üt Ů (List.replicate (Âl its.toArray.isEmpty 0 k.toNat) its.toArray)=ÁD k.toNat its flatten.toArray:=by
  have f0:∀m:Nat,Ï5 m its.toArray=ÁD m its flatten.toArray:=λ m=>by have:=rm its m [];ext Â1 List.nil_append
  rw[f0];cases its with
  |nil=>simp
  |cons a r'=>rw[XB Û]
 refine áF "list" e noFill_list_mul repeat_list
  (ßY (int___rmul___int_list k t l its.toArray n)
   #[È e,À5 e,call_meets F.slot_list_mul (À5 e) F.entry_list_mul (F.args_list_mul_2 Â) (AutoListH.list___mul___list_int_3 l its.toArray n k t hfit hcap hlong) (ÁI e)])
 rw[hnew];exact#[Æ _,_,Âo I.lnew (r.rep k.toNat) (Êw xM Nat.mul_comm hz),rfl,q _ I.fresh]
#check 0
section
variable{κ:Type}[DecidableEq κ]
def aU Öy:Option V:=ũ kvs.find? Ýl (·.2)
def bC Öy(v:V):Ŋ κ V :=
 if Ù6 then kvs.map (Æg kv k v)else kvs++[(k,v)]
theorem dJ{p:κ×V}(e:p.1=k):aU (p::r) k=some Ĺ:=Ïj aU e
theorem de{p:κ×V}(e:¬p.1=k):aU (p::r) k=aU r k:=Ïj aU e
theorem jM(k:κ):∀kvs:Ŋ κ V,ÔS=ϗ aU kvs k
 | []=>rfl
 |p::r=>by
  rw[Xu];ext Án e k
  .simp only[dJ e,decide_eq_true e,Bool.true_or,Option.isSome_some]
  .rw[de e,decide_eq_false e,Bool.false_or];exact jM k r
theorem og Öy(v:V):Âa bC kvs k v<=kvs.length+1:=by
 ext Øn bC
 .rw[Zm,Zo,Yu];omega
theorem qz Öz(v:V)(h:aU kvs k=none):bC kvs k v=kvs++[(k,v)]:=by ext ÀY bC jM h;exact ÃN
theorem RelO.isSome_eq(r:RelO o u):o.isSome=u.isSome:=by
 cases o with
 |none=>cases u with
  |none=>rfl
  |some _=>exact Ðj
 |some _=>cases u with
  |none=>exact Ðj
  |some _=>rfl
theorem KV.val Ïc:RelO (aU kvs k) (valueAt vs k):=by
 ext Ĝ KV r;induction r with
 |nil=>exact True.intro
 |@cons p q ps qs h t ih =>
  exists Ãn,h;ext Án e k
  .ext âJ valueAt
  .ext áy valueAt
theorem KV.any Ïc:ÔS=vs.any Ýl:=by
 ext Ĝ KV r;induction r with
 |nil=>rfl
 |cons h t ih=>rw[Xu,Xu,ih,h.1]
theorem KV.repl Ïc(ry:RelV y u):
  KV (kvs.map (Æg kv k y)) (vs.map (Æg kv k u)):=by
 unfold KV at r ⊢;induction r with
 |nil=>exact ė
 |@cons p q ps qs h t ih =>
  rw[Zu,Zu];refine υ ? _ ih;exists Ãn,h;ext Án e k
  .show Þd #[h1,ry]
  .rw[XB e,XB (ÃF e h1.trans)];exact#[h1,h2]
theorem KV.put{kvs:Ŋ κ V}{vs:Ŋ κ XJ}Ïc{y:V}{u:XJ}(ry:RelV y u):KV (bC kvs k y) (stored vs k u):=by
 unfold bC stored;rw[r.any k];show å e (vs.any (ÀF kv (kv.1=k))) true
 .rw[XC e,XC e];exact r.repl k ry
 .rw[XB e,XB e];exact YR r #[Ì ry]
theorem KV.length(r:KV kvs vs):kvs.length=vs.length:=ZC r
#check 0
theorem vF(r:RelV (kV k) u):(bA P w).is k u=true:=by
 cases k with
 |inl i=>ext ÜL Value.int i;ext Ļ;exact DR P w i t
 |inr x=>ext ÜL Value.str x;ext Ļ;exact DU P w x t
theorem zj:∀(δ ks Key us XG),Vals (ks.map kV) us->ItemsAre (bA P w) ks us
 | [],_,r=>by ext è List.map_nil r r;exact ė
 |k::ks,_,r=>by
  rw[Zu]at r;cases r with
  |cons h t=>exact υ (vF h) (zj t)
abbrev KT Ë:Àr->Êz->Prop:=Paired λ p q=>p.1=q.1/\H q.2.1=Ã9 p/\RelV Ĺ q.2.2
theorem KT.val Ôj:RelO (aU kvs k) ((atKey xs k).map (·.2)):=by
 induction r with
 |nil=>exact True.intro
 |@cons p q ps qs h t ih =>
  exists[h1,_,h2],h;ext Án e k
  .ext âJ atKey
  .ext áy atKey
theorem KT.repl Ôj(ry:RelV y u):
  KT H (kvs.map (Æg kv k y)) (xs.map (putAt k u)):=by
 induction r with
 |nil=>exact ė
 |@cons p q ps qs h t ih =>
  rw[Zu,Zu];refine υ ? _ ih;exists[h1,h2,h3],h;unfold putAt;ext Án e k
  .show Þd #[h1,h2,ry]
  .rw[XB e,XB (ÃF e h1.trans)];exact#[h1,h2,h3]
theorem KT.put Ο{kvs:Àr}{xs:Êz}Ôj{b:XH}{y:V}{u:XJ}(hb:Êg)(ry:RelV y u) :
  KT H (bC kvs k y) (storedH xs k b u):=by
 have e:ÔS=ϗ atKey xs k:=by rw[jM,(r.val k).isSome_eq,Option.isSome_map]
 unfold bC storedH;rw[e];by_cases q:ϗ atKey xs k=true
 .rw[XC q,XC q];exact r.repl k ry
 .rw[XB q,XB q];exact YR r #[Ì hb,ry]
theorem KT.keeps{H H':Hp}(r:KT H kvs xs)(ht:∀b ys,ÀC H (Ò ys) H'):KT H' kvs xs :=
 ÅN r #[z.1,ht Â z.2.1,z.2.2]
section
theorem Na Ãw(e:É5 u):Ãk u:=e.ok ok
theorem sG Ãw(e:Ë1 dK):ÔY :=
 show Ãk (.dK kvs)from Na ok e
theorem Sz Ãw(e:H a=ą dK kvs):ÔY:=sG ok (Ó e)
theorem jX{ks:Ä Key}Ãw(e:Į Ω (Ò (ks.map kV))):Þ8 ks a:=by
 show þ [_,its,r,o,h1,h2,n,h3] (show Ãk (Ò (ks.map kV))from ok a _ e) #[o,its.toArray,n,h1,h2,h3,by simpa using zj r]
theorem jQ Ãw(e:Ë1 dT):Ń kvs.length/\Âk a /\
  ∃xs,KT H kvs xs/\h.DictOfH ÐM a xs:=by
 exists[z,y,xs,r,o,es,ep,h1,h2,h3,h4,h5],(show Ãk (.dT kvs)from Na ok e)
 refine#[z,y,xs,r,o,es,ep,h1,h2,h3,Åk h4,h5];have all:∀{l:Àr} {m:Êz},KT H l m->∀x∈m,Þ8 ö Ð.1:=by
  intro l m q;induction q with
  |nil=>intro x hx;exact Ş hx
  |@cons p q ps qs hq t ih =>
   intro x hx;ext ÆB hx e hx
   .ext Ļ;exact jX ok (by rw[<-hq.1];exact hq.2.1)
   .exact ih x hx
 exact all r x hx
theorem SC Ãw(Åe e a):Ń kvs.length/\Âk a /\
  ∃xs,KT H kvs xs/\h.DictOfH ÐM a xs:=jQ ok (Ó e)
#check 0
def DGet Ë Ō(Ãz y V r V):Prop :=
 (∃kvs k,Ë1 dK/\y=kV k/\r=aU kvs k)\/∃kvs k b,Ë1 dT/\y=Æ b/\Êg/\r=aU kvs k
def DPut Ë Ō(y v:V)(H':Hp):Prop :=
 (∃kvs k,H a=ą dK kvs/\y=kV k/\kvs.length<sizeLine/\H'=ø a (.dK (bC kvs k v))) \/
 ∃kvs k b,Å7 H a/\y=Æ b/\Êg/\kvs.length<sizeLine/\H'=ø a (.dT (bC kvs k v))
theorem DGet.t Ο åx(eb:Êg):DGet Ω (Ï b) (aU kvs k):=.inr #[kvs,k,b,Ó e,Ì eb,rfl]
theorem DPut.t Ο åx(eb:Êg)(hl:kvs.length<sizeLine):
  DPut Ω (Ï b) v (ø a (.dT (bC kvs k v))):=ā #[kvs,k,b,e,Ì eb,È hl]
section
variable{s:XI}{A:XN}
theorem Inv.big ç:sysModules<s.heap.objs.size:=by have h:mainGlobals<s.heap.objs.size:=(I.mod.glob.keeps I.bk).lt;exact Nat.lt_trans ⋯ h
theorem Ic Ôb ç(g:DGet Ω y (Ù v))(ry:RelV y u)(h:Ý4 w') :
  Á2 A (Ā getItem a u) Q E s:=by
 ext ÕV
 .subst ey;ext Ï3 sG;exists[w',hw,rw'],RelO.some_of (v:=v) (o:=valueAt vs k) (Ŕ l rel.val k);exact wpAny_getItem_of (vF ry) dd.mapOf hw (h w' _ (I.tok _) rw')
 .subst ey;ext Þf jQ;exists[w',hw,rw'],RelO.some_of (v:=v) (o:=(atKey xs k).map (·.2)) (Ŕ l rel.val k);exists[p,hp,hp2],ZK.mp hw;refine wpAny_getItem_heap (tupleKind_room_in1 hu) (jX I.hok eb) dd hp ? _;rw[hp2];exact h w' _ (I.tok _) rw'
theorem Ue Ôb ç âR(h:∀s',ÍL H (.bool o.isSome)) :
  Á2 A (ÊE In u Ϗ) Q E s:=by
 ext ÕV
 .subst ey;ext Ï3 sG;ext àq wpAny_in_of
 .ext Ü6 wpAny_in_heap
theorem NH Ôb ç âR(h:∀s',ÍL H (.bool (! o.isSome))) :
  Á2 A (ÊE NotIn u Ϗ) Q E s:=by
 ext ÕV
 .subst ey;ext Ï3 sG;ext àq wpAny_notIn_of
 .ext Ü6 wpAny_notIn_heap
theorem xz{t':Nat}ç(mu:Mut (H a))(hs:Heap.SameBut a s.heap h')(he:Í9 q a)(Ì8 a ob):
  Í6 a ob :=
 ÌR a a mu (Ó rfl) (λ b q hb z=>(hs.2 b hb).trans z) he new
theorem P4{h':Heap}{kvs:Ŋ Key V}(z:Ń kvs.length)(hd:Âk a)(rel:KV kvs vs)(dd:h'.DictOf (bA P w) a vs):
  ObjOk P w H' h' a (.dK kvs):=#[z,hd,vs,rel,dd]
theorem Id Äe(hu:Ìe 1)ç(g:DPut Ω y v H')(ry:RelV y u)(rv:RelV v r)(h:∀s',ÍL H' ()):
  ÍM setItem u r:=by
 rcases g with⟨kvs,k,e,ey,l,eH⟩|⟨kvs,k,b,e,ey,eb,l,eH⟩
 .subst ey eH;ext Ï3 Sz;have hz:Ń vs.length:=Àq rel.length z
  ext åy
  refine wpAny_setItem_pairs (hsz:=hz) (vF ry) dd λ h' dd' hs=>h _ ? _;have he:Í9 q a:=let⟨q,_,_,hq,_⟩:=dd';#[q,hq]
  exact xz I (Ă e True.intro) hs he (P4 hl hd (rel.put k rv) dd')
 .subst ey eH;ext Þf SC;have hz:Ń xs.length:=by rw[<-ZC rel];exact z
  ext åy
  refine wpAny_setItem_heap (hsz:=hz) (tupleKind_room_in1 hu) (jX I.hok eb) dd λ h' dd' hs=>h _ ? _;exists[q,es,ep,hq,h2,h3,h4,_,h5],dd';refine xz I (Ă e True.intro) hs #[q,hq] #[hl,hd,_,(rel.put k eb rv).keeps (Ú c ys ec),q,es,ep,hq,h2,h3,h4,h5];rw[ah (Àx ec e)];exact ec
#check 0
def Kl(i:XT):Prop:=∀ov iv,Òl i ov iv [ov,iv] (getItem ov iv)
theorem Pd äM{E:XE}{s:XI}{env:Env}{value slice:XT}{pos:Pos}{T id:String}{Q:XE}(hl:Í8 T "__getitem__" = pure (ÈR id))(hs:Kl slice)(h:ċ (eval value env) (λ o s₁=>ċ (eval slice env) (λ i s₂=>s₂.TypeIs o T/\ċ (getItem o i) Q E s₂) E s₁) E s) :
  ċ (eval (.Subscript value slice pos) env) Q E s:=by
 refine Subscript_ (Z4 h (λ o s₁ h₁=>Ái h₁ (Ú i s₂ h₂) x x) (Η x x));exists[hT,h₂],h₂;show ξ subscriptTail ? _;rw[getitemInPython_of_ne hT.not_modules];show í (wpAny_specialOf hT hl ? _);have fin:ċ (subscripted slice false o i) (λ r s₃=>ċ (letTemporaryGo value o r >>= λ _=>pure r) Q E s₃) E s₂:=by rw[hs o i];exact wpAny_operating (Ái h₂ (λ r s₃ h₃=>Ě z9 wpAny_letTemporaryGo Zb h₃) x x)
 first
  |exact Zb (z9 fin)
  |exact Ě z9 Zb z9 fin
  |exact z9 fin
theorem DM ç(g:DGet Ω y o):Ā s.TypeIs a "dict":=by
 rcases g with⟨kvs,k,e,_,_⟩|⟨kvs,k,b,e,_,_,_⟩
 .exists[_,_,vs,_,dd],sG I.hok e;exact dd.typeIs
 .exists[_,_,xs,_,dd],jQ I.hok e;exact dd.typeIs
def Nh(td ty:TE):TE:=Ök td x ty y v (Ù v) v
def Mg(ty td:TE):TE:=Ök ty y td x o o (.bl o.isSome)
def Fk(ty td:TE):TE:=Ök ty y td x o o (.bl (! o.isSome))
inductive IsP(x y v:V)Ë(R:Þ Hp):Prop
 |mk Ō (H':Hp) (h0:Àh) (h1:DPut Ω y v H') (q:R H'):IsP x y v H R
def Nc(td ty tv:TE):TS:=λ D Z H=>tv Z H λ v H1=>td Z H1 λ x H2=>ty Z H2 λ y H3=>IsP x y v H3 (D.nx Z)
section
variable{X:Cx}{pos:Pos}
theorem OE Ï7(ËN PE td ty)(hs:Kl i):Éu PE o i (Nh td ty):=by ext ı Q;refine Pd PySem.F.slot_dict_getitem.lookup hs (ÂL ho λ u s1 ⟨x,H1,I1,rx,q1⟩=>ÄP hi (ο iv s2));show ÅR [y,H2,I2,ry,a,v,ex,g,q2] u;exact#[DM I2 g,Ic hu I2 g ry λ w' s3 I3 rw'=>#[v,H2,I3,rw',q2]]
theorem Jk Ï7(Àf hi i ty)(Àf ho o td):PC X .In i o (Mg ty td):=Üv Ue #[.bl ov.isSome,H2,I3,Ì q2]
theorem Jl Ï7(Àf hi i ty)(Àf ho o td):PC X .NotIn i o (Fk ty td):=Üv NH #[.bl (! ov.isSome),H2,I3,Ì q2]
theorem OP Ï7(ËN PE td ty)(Àf hv value tv)(hs:ËQ value (Þ4)) :
  Þ0 PS (Nc td ty tv):=by
 ext ı D;refine wpAny_Assign_Subscript (ÂL hv λ r s1 ⟨v,H1,I1,rv,q1⟩=>ÄP ho λ u s2 ⟨x,H2,I2,rx,q2⟩=>thn (Íp hi Z) (ο iv s3)) hs;show ÅR [y,H3,I3,ry,a,H4,ex,g,q3] u;exact Id hu I3 g ry rv λ s4 I4=>#[Z,H4,I4,q3]
#check 0
theorem KF(h:Heap)(hb:sysModules<h.objs.size):ObjOk P w H (h.push (Ô5 Ϙ)) h.objs.size (.dT []) :=
 #[ZA _,Ě YS.mpr Z7 Zz hb,[],.nil,_,Ů,0,ĸ,#[î,rfl],î,List.nodup_nil]
def J1:TE:=λ _ H Q=>Æl p (ø p (.dT []))
section
theorem Lv:PE X (.Dict [] ÂB) J1:=λ XU s Z H Q I h =>
 wpAny_Dict_empty #[Æ s.heap.objs.size,_,Ñ4 (o:=.dT []) (t':=s.toks) ÕH (KF s.heap I.big),rfl,h ÈI]
#check 0
def J2:Ŋ TE TE->Ên (Ŋ V V->Þ Hp)
 | [],_,H,Q=>Q [] H
 |(tk,tv)::r,Z,H,Q=>tk Z H λ x H1=>tv Z H1 λ y H2=>J2 r Z H2 λ ps H3=>Q ((x,y)::ps) H3
abbrev VV:Ŋ V V->Ŋ XJ XJ->Prop:=Paired λ p q=>RelV p.1 q.1/\RelV Ĺ q.2
def PPs(ŵ pos Pos)(keys:List (Option XT))âQ:Prop :=
 ∀ω Ë (Q:Ŋ V V->Þ Hp),ï ķ->J2 trs Z H Q ->
  Ä0 wpAny X.A (evalPairs (pairTrees keys values X.env pos)) (λ vs s'=>Ñx ps VV ps vs) X.xe s
structure M1 àT(e:XT)(cpos:Pos):Prop where
 base:ÂN o m
 few:(ÝK (starEach [e] X.env)
 &&decide (([e]:Ä XT).length+Íq length+(Õu)<30))=true
 line:Ą Òm
 trees:backTo cpos (starEach [e] X.env)=[È5 e]
structure M2 àT(e f:XT)(cpos:Pos):Prop where
 base:ÂN o m
 few:(ÝK (starEach [e,f] X.env)
 &&decide (([e,f]:Ä XT).length+Íq length+(Õu)<30))=true
 line:Ą Òm
 trees:backTo cpos (starEach [e,f] X.env)=[È5 e,È5 f]
def IsD Ë Ō:Prop:=(∃kvs,Ë1 dK)\/∃kvs,Ë1 dT
theorem IC ç(d:IsD Ω):
  Ā s.TypeIs a "dict"/\äc/\Âk a:=by
 ext Ät d kvs e kvs e
 .exists[_,hd,vs,_,dd],sG I.hok e;refine ßD;ext ÞF
 .exists[_,hd,xs,_,dd],jQ I.hok e;refine ßD;ext ÞF
#check Lake
namespace Att
open PySem PySem.W PySem.Calls PyProof.Rows
theorem vE:∀(ns:XQ) (vs:XG),WellAll P h vs (ns.map WData.int)->IntsAre vs ns:=by
 intro ns;induction ns with
 |nil =>intro vs w;ext è List.map_nil w w;exact ė
 |cons n ns ih =>
  intro vs w;rw[Zu]at w;cases w with
  |cons a b =>cases a;exact .cons Â (ih _ b)
theorem JP{l:OpenLaw}à(hn:l.most=Γ){vals:XG}(hpre:ú l.row.toRowW.claim.pre args)(hwl:WellAll P h vals args):
  ∃a vs ns,vals=[Value.ref a]/\args=[WData.list (ns.map WData.int)]/\Į h.get? a (Ϙ ÐY)/\IntsAre vs ns/\ns.length<=n:=by
 have hsh:WShape.hasAll [] args [.list .int]=true:=(pre_splitW hpre).1;have hc:l.pre.holds [] { args:=args }=true:=(pre_splitW hpre).2;exists ÀQ d r h1 h2,hasAllW_cons hsh;obtain rfl:=hasAllW_nil h2;exists ÀP xs h3,hasW_list h1;exists Áz ns,items_int h3;have hlen:ns.length<=n:=by
  ext Ĝ OpenLaw.pre hc;have h4:(WTm.not (.lt (.lit (Áu n)) (.len (.arg 0)))).holds [] { args:=[.list Êu] }=true:=by have h4:=(holds_andW hc).1;rw[hn]at h4;exact h4
  have h5:=condW_of h4 (w_not (w_lt w_lit (w_len_list (w_arg rfl))));rw[Za]at h5;refine Nat.le_of_not_lt (ģ q);have q':É n<ÀV ns.length:=Àz Äo q
  first
   |(rw[decide_eq_true q']at h5;exact ÐQ h5)
   |(simp at h5;omega)
 cases hwl with
 |cons w1 w2 =>
  cases w2;cases w1 with
  |list ho hall=>exact#[_,_,È ns,Ì ho,vE ns _ hall,hlen]
theorem Js(Ŧ l OpenLaw args WData):l.row.toRowW.claim.post args (.bool true) args=true :=
 postW_of (r:=l.row.toRowW) (X:=(true==true))
  (show WShape.has [] (.bool true) .bool=true by first|rfl|decide|simp[WShape.has,WShape.arms,WShape.armsAll])
  (show(WTm.eq .res (.lit (.bool true))).value [] { args:=args,res:=ą bool true,after:=args }=Ã (.bool (true==true))from w_eq_bool (w_res rfl) w_lit) rfl
theorem attach_call{l:OpenLaw}à{XP:(XF)->Þ Heap}Ôc(hn:l.most=Γ)Öf(call:∀ (w:XM) (s₀ s₁:XI) (mg mb:XF) (fa:XH) (o:Obj) (pm cd doc:XJ) Ō (vs:XG) (ns:XQ),
   Ground q loose [] XP w s₀ mg mb s₁.heap->YP w s₁.heap ->
   s₁.heap.get? fa=ò->o.data=.func (docDef d.name d.params d.body d.scope pm cd doc)->s₁.heap.CodeRec cd d.name->ÁK d.name fa ->
   Į s₁.heap.get? a (Ϙ ÐY)->IntsAre vs ns->ns.length<=n->s₁.gens=Ů ->
   ÓF l.prog s₁.heap s₁.os s₁):
  Ôk WalkO:=by
 intro w s₀ s₁ mg mb G Y fa o pm cd doc dV kV ho hd hcd hD hmg hg args vals as hpre hlay hrd hwl hlo;obtain rfl:dV=.none:=Dflts.none hD hdf;obtain rfl:kV=.none:=Dflts.noKw hD;exists[a,vs,ns,rfl,rfl,hobj,hints,hlen],JP hn hpre hwl;refine enter_call (codeAny_mono (call w s₀ s₁ mg mb fa o pm cd doc a vs ns G Y ho (fd_plain hd) hcd hmg hobj hints hlen hg) (Èt hq));show þ [rfl,h2,h3,h4] hq #[Ó #[.bool true,.bool true,[],rfl,ę rfl,.bool true,Js l _,ę #[List.Pairwise.nil,Á1 hm (Ş hm)]],h2,h3,h4]
#check Att
namespace Lake
open PySem PySem.Spec PyProof.Rows
theorem zJ:∀{vs:XG} {ns:XQ},IntsAre vs ns->Vals (ns.map V.int) vs
 |_,_,.nil=>.nil
 |_,_,Ę n t h=>Ę #[È t] (zJ h)
def aV(s:Stmt)(j:Nat):Stmt:=match s with
 |.ClassDef ì body Β ì=>body.getD j (ÊW)
 |_=>ÊW
def eO(s:Stmt):Arguments:=match s with
 |.FunctionDef _ a Β Β=>a
 |_=>{ posonlyargs:=[],args:=[],vararg:=none,kwonlyargs:=[],kw_defaults:=[],kwarg:=none,defaults:=[] }
def bV(s:Stmt):Ä Stmt:=match s with
 |.FunctionDef Â b Β ì=>b
 |_=>[]
def ao(s:Stmt):Scope:=match s with
 |.FunctionDef Β Â sc ì=>sc
 |_=>{ kind:=.function,names:=[],isGenerator:=false,isCoroutine:=false }
abbrev CX0:CXT:=λ _ _ _ _ _ _=>False
abbrev E0:XK:=Η _ False
theorem nL:ge CX0 X E0:=λ _ _ _ _ _ _ _ h=>h.elim
structure Fun(K:XY)(x qual:Str)(st:Stmt)(f:XH)(fd:XO):Prop where
 ex:∃(oc:XJ) (od:Option XH) (kV doc pm:XJ) (an:Option XH) (cdv ct:XJ) (osl:Array (Option XJ)),
  fd=ÉI x qual st doc cdv/\Ù0 osl/\W.codeIn K cdv qual=true
 kp:Ď W.keepIn K (Ï f)
section
variable{K:XY}
theorem Fun.ok{st:Stmt}ĉ Ï4 Ñd ÉE(hbody:∀ (cdv:XJ) ÃS Ë ÆP,ØA->sp vs H Q E ->
   ÓY PSs cdv):ă ÔD:=by
 ext ÏB;refine F8 lk hcd S len λ A outer s H vs Q E hr hsp=>? _;exists[t,h,q],hbody cdv A outer s H vs Q E hr hsp;exact#[t,h.nox,q]
theorem Fun.binds{st:Stmt}{ps:Ä Str}(F:é x qual st)(h:∀ÚU (us:XG),äa (ÉI x qual st doc cdv)):Æs:=by ext ÏB;exact .all (h kV doc pm an cdv ct)
theorem Iw{st:Stmt}{kV doc pm cdv ct:XJ}(ÖK l x qual doc cdv osl k):Ú5 x qual st f (ÉI x qual st doc cdv):=#[#[oc,od,kV,doc,pm,an,cdv,ct,È osl,l,c],k]
#check 0
theorem bo à(h:n<=1000):n<sizeLine:=Xq h ⋯
theorem aF Æq(h:B):Âl false A B:=Áf XB Zq h
theorem aP Æq(h:A):Âl true A B:=Áf XC rfl h
theorem Uj Ëb äo:if c then A else B:=by
 by_cases h:c
 .ext χ XC h h1 h
 .ext χ XB h h2 h
theorem jR Ëb(hc:c)(h:B):Âl (! decide c) A B:=by ext χ decide_eq_true hc aF h
def Same(H H':Hp):Prop:=ÐW H H'
theorem Same.refl Ë:Same H H:=Η h h
theorem Same.trans(a:Same H H1)(b:Same H1 H2):Same H H2:=λ c o h=>b c o (a c o h)
theorem Same.free(e:ó)(h:H' l=Option.none):H l=Option.none:=by
 cases q:H l with
 |none=>rfl
 |some o =>rw[e l o q]at h;cases h
theorem Same.seq ē(e:ó)(h:SqL K H a xs):SqL K H' a xs:=by
 ext Ói h e
section
variable{κ:Type}[DecidableEq κ]
theorem Mt Öz(h:aU kvs k=none):¬ÒE:=by intro m;exists[p,hp,e],Zw.mp m;have q:Ù6:=List.any_eq_true.mpr #[p,hp,decide_eq_true e];rw[jM,h]at q;ext ĕ q Û
theorem yP Öz{v:V}(h:aU kvs k=Ľ):ÒE:=by
 have q:Ù6:=by
  rw[jM,h]
  all_goals rfl
 exists[p,hp,e],List.any_eq_true.mp q;exact Zw.mpr #[p,hp,Z5 e]
#check 0
theorem pC{env:Env}:∀âb {k:NameKind},
  ÔC=Ã k ->
  ∃k',names.lookup x=Ã k'/\(k=k'\/(k'=.free/\k=.cell))
 | [],_,_,h=>ÀU h
 |(n,k0)::r,x,k,h=>by
  have ih:=@pC env r x k;rw[Zu]at h;by_cases hc:(ú Ín k0)
  .ext Ñ8 ÔR XC;simp only[e]at h;cases hx:x==n with
   |true =>
    ext Æp;have hf:k0=.free:=by have:=hc;simp only[ZH,Ym]at this;exact this.1.1
    exact#[È k0,ā #[hf,(Zt h).symm]]
   |false =>ext Æp;exact ih h
  .show Ñ8 (n,k0) XB;simp only[e]at h;cases hx:x==n with
   |true =>ext Æp;exact#[È k0,Ó (Zt h).symm]
   |false =>ext Æp;exact ih h
theorem rM{env:Env}:∀âb,names.lookup x=Às ->
  ÔC=ÃH \/
  ÔC=Às
 | [],_,h=>ÀU h
 |(n,k0)::r,x,h=>by
  have ih:=@rM env r x;rw[Zu];by_cases hc:(ú Ín k0)
  .ext Ñ8 ÔR XC;ext Ű e;cases hx:x==n with
   |true =>
    ext Æp
    first|exact Α rfl|exact Α trivial
   |false =>ext Æp;exact ih h
  .show Ñ8 (n,k0) XB;ext Ű e;cases hx:x==n with
   |true =>ext Æp;ext ſ h
   |false =>ext Æp;exact ih h
def dw(env:Env):ő NameKind->ő XH->ő XH
 | [],acc=>acc
 |y::r,acc=>ÓX
theorem xw{env:Env}:∀ÎY,(∀y∈names,Ïg y) ->
  (forIn names acc fun(x:Str×NameKind) (cs:ő XH)=>if(Ð==NameKind.free)=true then do let c ←cellOf env ö;pure (ForInStep.yield ((ö,c)::cs))else pure (ForInStep.yield cs):Sem (ő XH))=pure (dw env names acc)
 | [],_,_=>rfl
 |y::r,acc,h=>by
  rw[List.forIn_cons];show å hy ØC true
  .exists[c,hc],h y Zk (û hy);have e:cellOf env y.1=pure c:=ÀL ğ cellOf hc
   rw[XC hy,e,pure_bind,pure_bind];show(forIn r ((y.1,c)::acc) _:Sem (ő XH))=_;rw[xw (ν z hz h)];show _=pure (ÓX);rw[XC hy,hc];rfl
  .rw[XB hy,pure_bind];show(forIn r acc _:Sem (ő XH))=_;rw[xw (ν z hz h)];show _=pure (ÓX);rw[XB hy]
theorem NB{scope:Scope}{env:Env}(h:∀y∈scope.names,Ïg y):closureFor scope env=pure (dw env scope.names []):=by have q:=ŕ xw env env names scope.names (acc:=[]) h;unfold closureFor;exact(by first|(ext Ű bind_pure;ext ŷ)|(rw[bind_pure];ext ŷ)|ext ŷ)
theorem xx{env:Env}:∀ÎY,(∀y∈names,Ïg y)->(∀x c,acc.lookup x=Ã c->env.cells.lookup x=Ã c) ->
  ∀x c,Ød->env.cells.lookup x=Ã c
 | [],_,_,ha=>ha
 |y::r,acc,h,ha=>by
  have hr:∀z∈r,Ïg z:=ν z hz h;intro x c e;ext Ĝ dw e;show å hy ØC true
  .rw[XC hy]at e;refine xx hr (Ú x' c' e') x c e;exists[d,hd],h y Zk (û hy);rw[hd,Option.getD_some]at e';cases hx:x'==y.1 with
   |true =>simp only[Z6,hx]at e';have e1:x'=y.1:=eq_of_beq hx;rw[e1,hd];exact e'
   |false =>simp only[Z6,hx]at e';exact ha x' c' e'
  .rw[XB hy]at e;exact xx hr ha x c e
theorem ul:∀ÎY {x:Str},(∃c,acc.lookup x=Ã c)->∃c,Ød
 | [],_,_,h=>h
 |y::r,acc,x,h=>by
  unfold dw;show å hy ØC true
  .rw[XC hy];ext Ħ ul;cases hx:x==y.1 with
   |true=>exact#[(env.cells.lookup y.1).getD 0,ÀL ÀD Z6 hx]
   |false =>exists[c,e],h;exact#[c,ÍY ÀD Z6 hx e]
  .ext χ XB hy ul h
theorem xu:∀ÎY {x:Str},names.lookup x=Às->∃c,Ød
 | [],_,_,h=>ÀU h
 |(n,k)::r,acc,x,h=>by
  unfold dw;cases hx:x==n with
  |true =>
   simp only[Z6,hx]at h;have hy:Ą (k==NameKind.free):=by rw[Zt h];rfl
   rw[XC hy];exact ul #[(env.cells.lookup n).getD 0,ÀL ÀD Z6 hx]
  |false =>
   simp only[Z6,hx]at h;show å hy (k==NameKind.free) true
   .ext χ XC hy xu h
   .ext χ XB hy xu h
abbrev br ØO(Âj N')Ĥ(s0:XI)(Ŧ H0 Hp ex XH):Cx where
 prog:=X.prog
 w:=X.w
 K:=X.K
 mg:=X.mg
 base:=X.base
 A:=X.A
 N:=N'
 s₀:=s0
 H₀:=H0
 env:=compEnvC scope (Ê2) C X.env
 outer:=X.stack
 stack:=X.stack
 ex:=ex
 fn:=ę false
 calm:=X.calm
 pn:=[]
 xe:=Âp
def CapOk(ŵ sc Scope):Ä Nat->ÃI Str
 | [],[]=>True
 |j::js,x::xs=>Ŗ X.N x/\sc.names.lookup x=Às/\CapOk X sc js xs
 |_,_=>False
theorem CapOk.get:∀{js:Ä Nat} (δ xs Str i Nat) {x:Str},CapOk X sc js xs->À8 x ->
  ∃j,Ý js j/\Ŗ X.N x/\sc.names.lookup x=Às
 | [],[],_,_,_,e=>ÀU e
 |j::js,y::xs,0,x,h,e=>by
  exists[h1,h2,_],h;have e':y=x:=û e
  show Âb e' #[È j,h1,h2]
 |j::js,y::xs,i+1,x,h,e=>by exists[_,_,h6],h;exists[j',q],ŕ CapOk.get i i x x h6 (û e);exact#[j',by simpa using q.1,q.2]
 | [],Δ,_,_,h,_=>h.elim
 |Δ,[],_,_,h,_=>h.elim
theorem CapOk.len:∀{js:Ä Nat} {xs:Ä Str},CapOk X sc js xs->js.length=xs.length
 | [],[],_=>rfl
 |j::js,y::xs,h=>by exists[_,_,h6],h;simp[CapOk.len h6]
 | [],Δ,h=>h.elim
 |Δ,[],h=>h.elim
structure CompOk ØO(ÄO cap)(Âj capN):Prop where
 kind:scope.kind=.function
 names:∀x∈scope.names,Ð=.local->scope.names.lookup ö=Äw
 nocell:∀y∈scope.names,y.2≠.cell
 frees:áR
 cap:CapOk X scope cap capN
section
variable{X:Cx}{scope:Scope}{cap:Ä Nat}{capN:Ä Str}
theorem CompOk.around Ä1(hy:y∈scope.names)(hf:y.2=.free):X.env.kindOf y.1=ÃH\/X.env.kindOf y.1=Às:=by have q:=Z9.mp O.frees y hy;rw[hf]at q;simpa using q
theorem CompOk.cells Ä1(ok:X.Ok):∀y∈scope.names,y.2=.free->∃c,X.env.cells.lookup y.1=Ã c:=λ y hy hf=>ok.has _ (O.around hy hf)
theorem CompOk.clos Ä1(ok:X.Ok):closureFor scope X.env=pure (Ê2):=NB (O.cells ok)
theorem CompOk.sub Ä1(ok:X.Ok):∀x c,(Ê2).lookup x=Ã c->ÇF x:=xx (O.cells ok) λ x c e=>ÀU e
theorem CompOk.has(_O:CompOk X scope cap capN)(h:scope.names.lookup x=Às):∃c,(Ê2).lookup x=Ã c:=xu h
#check 0
def cg Ė(ÄO cap)(Z:St):St:=List.replicate n none++cap.map (λ j=>(Z[j]?).join)
theorem FX à:Âa cg n cap Z=n+cap.length:=by unfold cg;rw[Zm,x9,Za]
theorem vo à{i:Nat}(h:(cg n cap Z)[i]?=ϝ Ù v):n<=i/\∃j,cap[i-n]?=Ã j/\ÇV j v:=by
 ext Ĝ cg h;by_cases hi:i<n
 .rw[YU (û hi),List.getElem?_replicate]at h;ext ώ XC hi h
 .have hi':n<=i:=Nat.le_of_not_lt hi;rw[Yq (û hi'),x9,Zs]at h;refine ÁI hi';cases e:cap[i-n]? with
  |none=>ext è e h h
  |some j =>
   rw[e]at h;refine#[È j,? _];have h':(Z[j]?).join=Ľ:=û h
   cases q:Z[j]? with
   |none=>ext è q h' h'
   |some o =>rw[q]at h';have:o=Ľ:=h';rw[this]
section
variable{s:XI}{N':Ä Str}
theorem HX ç Ä1 Ûo:(br X scope N' C s H ex).Ok where
 mod:=I.ok.mod
 kind:=O.kind
 glob:=I.ok.glob
 blt:=I.ok.blt
 above:=hC
 inj:=λ x y c h1 h2=>I.ok.inj x y c (O.sub I.ok x c h1) (O.sub I.ok y c h2)
 has:=λ x hx=>by
  have hx':(relabel scope X.env).names.lookup x=ÃH\/(relabel scope X.env).names.lookup x=Às:=hx;have key:∀k,(relabel scope X.env).names.lookup x=Ã k->(k=.cell\/k=.free)->scope.names.lookup x=Às:=λ k e hk=>by
   exists[k',e',q],pC (env:=X.env) e;rcases q with q|⟨q,_⟩
   .subst q;ext Ś hk z z
    .subst z;show ĕ rfl (O.nocell _ (YH e'))
    .ext Âb z e'
   .ext Âb q e'
  ext Ś hx' e e
  show Áj O.has (key _ e (Ó rfl)) O.has (key _ e (ā rfl))
 cab:=λ x c h _=>ÁF h
 hd:=I.ok.hd
 frames:=I.ok.frames
 stk:=Ó rfl
 exf:=λ b hb=>by ext Õs;exact#[Zz (ZI lt hC),åZ f4]
 bs:=I.bs
 bsz:=Zn I.ok.bsz I.sz
 noex:=λ b o e hb=>by
  ext Õs;ext Ś f3 z z
  .exact I.ok.noex b o e z
  .show ĕ (ZI (Zr e) (Zn I.ok.bsz z)) (YZ _)
 exfs:=λ b hb z=>by
  ext Õs;show ÆB (I.stkSub b z) e e
  ext Áj f1 e f2 e
 funs:=I.stack
 frf:=I.stkFree
theorem IU ç(hb:s.heap.objs.size<=b):År:=λ z=>by
 show ÆB (I.stkSub b z) e e
 .show ĕ (ZI I.lt hb) (Ŕ e YZ _)
 .exact I.nofs hb e
theorem Lh ç(hb:s.heap.objs.size<=b):Çn b:=λ x c e z=>by show ÇU [v,q] e;show ĕ (ZI q.lt (Ă z hb)) (YZ _)
theorem FY à{h1:Heap}{tk:Nat}ç Ä1(hN:N'.length=n+capN.length)(hN2:∀i x,n<=i->Ý N' x->capN[i-n]?=Ã x)Ûo ßR(hn:h1.Ns C m1):Inv (br X scope N' C s H ex) [] (cg n cap Z) H (ÁT h1 tk):=by
 refine#[HX I O hC hex,Ì I.bare,Un.kept hk,#[m1,hn,ŗ Ùp],Ú x c e,I.hok.fresh hC,åZ I.freeC,Ñ9,I.hok.kept hk,? _]
 .show Ž [hi,j,ej,es] vo e2 [j',q1,q2,qf] O.cap.get (hN2 i x hi e1);have q3:=O.around (YH qf) rfl;have q4:=rM (env:=X.env) qf;exists[c,q5],O.has qf;have q6:=O.sub I.ok x c q5;ext è q1 ej ej;exists[m0,hn0,hl0],I.loc;exists[u,r,l],hl0 _ x v q2 es (by
   ext Ś q3 z z
   .show ſ (Ó z)
   .show ſ (ā z))
  refine#[u,r,ā #[q4,c,q5,? _]];rcases l with⟨k,_⟩|⟨_,c',e',z⟩
  .ext Ś q3 z z
   .have z':X.env.kindOf x=ÃH:=z;ext è z' k k
   .have z':X.env.kindOf x=Às:=z;ext è z' k k
  .ext è q6 e' e';show þ [o,ho,hd] z #[o,hk Â ho,hd]
 .show ÇU [v,o,ho,hd] (O.sub I.ok x c e);exact#[v,o,hk Â ho,hd]
 .rw[FX,O.cap.len];exact hN.symm
#check 0
def xo(È9 ifs XT TT):Prop :=
 ∀ω Ë Ës,ï ķ->t Z H Q ->
  Ź (áB X.env) (TP X XU Z Q) X.xe s
def iH:TT:=λ _ H Q=>Q true H
theorem LE:xo X [] iH:=Êr _ wpAny_tests_nil #[H,I,h]
theorem LF{t:TT}(h:PT X c t):xo X [c] t:=λ XU s Z H Q I hw=>wpAny_tests_one (Èg h Q hw)
def GK(Â3 g TG):Prop:=Þt x
theorem aL(ş n i)(hi:i<n):GK n (cC i):=λ x Z H Q h=>#[#[Yv,λ j hj=>List.getElem?_set_ne (ÁU (Àd (ĝ Ê Ç (Ë4 2 1 (ĝ Ć Ô .z))) æ θ (Nat.le_of_eq q.symm) hj hi))],h]
def GKs(Â3 g TGs):Prop:=Þt xs
theorem gS à:GKs n qh:=λ xs Z H Q h=>#[h.1,#[rfl,Á1 _ rfl],h.2]
def GM(g:TG):Prop:=∀x Z H Q Q',(ÇB σ2 H2 Q Q')->ßa x
def GMs(g:TGs):Prop:=∀xs Z H Q Q',(ÇB σ2 H2 Q Q')->ßa xs
theorem aS{i:Nat}:GM (cC i):=λ _ _ _ _ _ f h=>f Â h
theorem bO:GMs qh:=λ _ _ _ _ _ f h=>#[h.1,f Â h.2]
theorem cG{t:TG}(a:GM t)(b:GMs u):GMs (fW t u):=λ xs Z H Q Q' f h=>μ [v,r,e,h] h #[v,r,e,a Â ì (λ σ2 H2 z=>b Â ì f z) h]
theorem bz à{t:TG}(a:GK n t)(m:GM t)(b:GKs n u)(mb:GMs u):GKs n (fW t u):=λ xs Z H Q h=>by show Áh [v,r,e,h] h #[v,r,e,m Â ì (Ú σ2 H2 z) (a Â Â h)];ext Ðk l1 k1 z z;refine mb Â ì (Ú σ3 H3 w) (b Β z);ext Ðk l2 k2 w w;exact#[#[l2.trans l1,λ i hi=>(k2 i hi).trans (k1 i hi)],w]
theorem jh(ş n m)ē{t:TGs}(a:GKs n t):GK n (qi K m t):=λ x Z H Q h=>μ [b,xs,e,h1,h2,h3] h #[b,xs,e,h1,h2,a Β h3]
def eh Ė(ÄO cap)(g:TG)(tc:TT)(te:TE)(Z:St)(J:It)(H1:Hp)(Q:VK):Prop :=
 ∃W:Nat->Nat->ÇP,(∃m,W 0 m [] H1)/\∀i m ys H,W i m ys H ->
  (J.stop i H/\Æl p (ø p (Õ ys))) \/
  (J.go i H/\ys.length<sizeLine/\∀ x H',J.yld i H x H'->g x (cg n cap Z) H' λ σ2 H2=>tc σ2 H2 λ b H3 =>
   if Ą b then te σ2 H3 λ y H4=>∃ m',m'<m/\W (i+1) m' (ys++[y]) H4 else ∃ m',m'<m/\W (i+1) m' ys H3)
def AQ Ė(ÄO cap)(wi:TI)(g:TG)(tc:TT)(te:TE):TE:=λ Z H Q=>wi Z H λ J H1=>eh n cap g tc te Z J H1 Q
theorem qc{R:ű Result}{it acc:XJ}(I:ű Nat)(turn:∀ n s,I n s->ċ (pyNext it) (λ r s₁=>match r with
   |none=>R (.ok .next) s₁
   | Ľ=>ċ (letOwnedTupleGo target it v) (λ _ s₁'=>ċ (assign target env v) (λ _ s₂ =>
     ċ (áB env) (λ ok s₃ =>
      if Ą ok then ċ (eval elt env) (λ x s₄ =>
       ċ (Èy "list.append" [acc,x]) (λ _ s₅=>∃ m,m<n/\I m s₅) (Âp) s₄) (Âp) s₃
      else ∃ m,m<n/\I m s₃) (Âp) s₂) (Âp) s₁') (Âp) s₁) (Âp) s)Ė(h:I n s):
  ÄA codeAny A (.compLoop (ÅS target) 0 it acc env) R s:=by
 refine codeAny_loop rfl I (Ú n s hI) n h;show wpAny _ A ((compTurn (ÅS target) 0 it acc env).onRaise (λ x=>do noteFrame x env;theTreesLotGoes x)) Â s;refine wpAny_noted (wpAny_noRaise ? _);rw[compTurn_list];show ÀN (wpAny_standAt (z9 (Ái (turn n s hI) (Ú r s₁ h₁) h' h')));cases r with
 |none=>exact Zb h₁
 |some v =>
  show ÀN (Ái h₁ (Ú _ s₁' h₁') h' h');show ÀN (Z4 h₁' (λ _ s₂ h₂=>z9 (Ái h₂ (Ú ok s₃ h₃) h' h')) (Η h' h'));cases ok with
  |false=>exact Zb #[Ì h₃]
  |true =>exact z9 (z9 (Z4 h₃ (λ x s₄ h₄=>z9 (Ái h₄ (λ _ s₅ h₅=>Zb (Zb #[Ì h₅])) h' h')) (Η h' h')))
theorem Oy{own capN:Ä Str}:∀(Ŏ i x Str),own.length<=i->Ý (own++capN) x->capN[i-own.length]?=Ã x:=λ i x hi e=>by rw[Yq hi]at e;exact e
section
variable{X:Cx}{scope:Scope}{own:Ä Str}
abbrev kG(its:XG)(nn:Nat):Obj:=ÆR nn
theorem yY{it:XH}{RR:XJ->XH->ű Result}Ä1 ź(ÚM PG xo PE)(I2:ï H2 s2)(T:Turn X.prog X.w X.K tg J fp it tn)(st2:tn 0 s2.heap)(f2:∀b∈fp,cE X XU H2 b)(hq:eh own.length cap g tc te Z J H2 Q)(fin:∀(D C:XH) (s4:XI) (Ŧ H4 Hp ys V),ï (ψ H4 D ys) s4->(∃m,s4.heap.Ns C m)->cE X XU (ψ H4 D ys) C->Đ D (ψ H4 D ys)->Ā RR D C (.ok .next) s4):
  Ź (newList []) (λ acc s₃=>Ä0 wpAny X.A (newFunctionEnv scope X.env.globals (Ê2) [] X.env.qual none Àl (Ù X.env)) (λ cenv s₄ =>
   Ä0 codeAny X.A (.compStart (ÅS tg) 0 (Ï it) acc { cenv with scope:=relabel scope X.env }) (RR acc cenv.locals) s₄) E s₃) E s2:=by
 obtain⟨W,⟨m0,w0⟩,turn⟩:=hq;refine ZM (wpAny_newFunctionEnv O.nocell (by intro y hy;simp at hy) (Ú h₁ hns₁ hsb₁) O.kind);dsimp only at hns₁ hsb₁ ⊢;generalize hHp:s2.heap.push { cls:=.type "list",dict:=none,data:=.seq ([]:XG).toArray }=Hp2 at hns₁ hsb₁ ⊢;have hC:Hp2.objs.size=s2.heap.objs.size+1:=by rw[<-hHp,x8]
 have hDC:s2.heap.objs.size≠Hp2.objs.size:=Ŕ hC Zz (Y8 _)
 have hCle:s2.heap.objs.size<=Hp2.objs.size:=Ŕ hC YQ _
 have below:∀b,b<s2.heap.objs.size->ō Hp2.objs.size/\ō s2.heap.objs.size:=λ b hb=>#[Ŕ hC Zz (Xw hb),Zz hb]
 have old:ÐW s2.heap.get? h₁.get?:=λ b o e=>hsb₁.extBut b o (below b (Zr e)).1 (Zd _ (hHp▸Zd _ e));have hacc:h₁.get? s2.heap.objs.size=Ã (kG [] 0):=hsb₁.extBut Â hDC (Zd _ (hHp▸ĸ));generalize hDe:s2.heap.objs.size=D at *;generalize hCe:Hp2.objs.size=C at *;have hfpl:∀b∈fp,b<s2.heap.objs.size:=λ b hb=>by exists[o,e,_],T.obj Â st2 b hb;exact Zr e
 have hex:∀b∈fp,cE X XU H2 b/\b<s2.heap.objs.size:=λ b hb=>#[f2 b hb,hfpl b hb]
 have hCle':s2.heap.objs.size<=C:=Ă hDe hCle
 have hDle:s2.heap.objs.size<=D:=Ŕ hDe Zf _
 have hDfp:∀b∈fp,D≠b:=λ b hb z=>by have:=hfpl b hb;rw[<-z]at this;show ĕ this (Nat.not_lt.mpr hDle)
 have I0:∀tk,ÄC Inv [] (cg own.length cap Z) H2 { s2 with heap:=h₁,toks:=tk }:=λ tk=>FY I2 O Û Oy hCle' hex old hns₁;have Dst:D∉frs X.stack:=IU I2 hDle;have Dcell:∀x c,(Ë2 s2 H2 fp).env.cells.lookup x=Ã c->c≠D:=λ x c e=>Lh I2 hDle x ãR;have pinD:∀{σ':St} {H':Hp} {s':XI} {its:XG} {nn:Nat},ÄC Inv [] σ' H' s'->s'.heap.get? D=Ã (kG its nn)->ê H' D->ÄC Inv [Æ9] σ' H' s':=fun{σ' H' s' its nn} I e hn =>
  I.pins_of λ p hp=>by
   have z:p=Æ9:=û hp
   subst z;exact#[e,hn,hDC,Dst,λ v q=>ÁF q]
 have loop:∀s₃:XI,s₃={ s2 with heap:=h₁,toks:=s2.toks+([]:ő XJ).length } ->
   Ä0 codeAny X.A (.compLoop (ÅS tg) 0 (Ï it) (Ï D) (compEnvC scope (Ê2) C X.env)) (Ā RR D C) s₃:=by
  rintro s₃ rfl;refine qc (λ k s'=>∃(i:Nat) (ys:(Ä V)) (its:XG) (nn:Nat) (H':Hp),ÄC Inv [Æ9] (cg own.length cap Z) H' s'/\tn i s'.heap/\Ìj/\Vals ys its/\Ń ys.length/\W i k ys H') ? _ m0
   #[0,[],[],0,H2,pinD (I0 _) hacc (I2.hok.fresh hDle),T.keep ì st2 (λ b hb o e=>old b o e),ÈF f2,.nil,ZA _,w0]
  rintro k s3 ⟨i,ys,its,nn,H3,I3,st3,fr3,rv,hz,w3⟩;have oD3:s3.heap.get? D=Ã (kG its nn):=(I3.pin Æ9 Û).1;have fpY:∀{H':Hp},Ìj->∀b∈fp,ÄC cE [Æ9] H' b:=fun{H'} hn b hb=>by
   ext ÓO g2 f2;refine#[hn b hb,Zz (ZI (hfpl b hb) hCle'),ģ z,Ó hb,λ x c e=>f4 x ãR,Ø p hp]
   .show ÆB (I2.stkSub b z) e e
    ext Áj f1 e g2 e
   .have z:p=Æ9:=by ext Åv br hp
    subst z;exact hDfp b hb
  rcases turn i k ys H3 w3 with⟨stop,qn⟩|⟨go,hlt,step⟩
  .refine Ñ6 ÄC T.done _ _ _ fpY stop (Ú r s4 ⟨hr,I4⟩);subst hr;exists[oD,nD,_],I4.pin Æ9 Û;ext ÎE neD H3 D nD;have JX:ï (ψ H3 D ys) s4:=by
    refine I2.call' (ch:=fp) I4.os #[I4.base.keep,I4.base.slot,Ķ b o e nb hx,I4.base.there,ρ xs e,ÀG u e,ρ ps e] (ρ u e) I4.bare (ÂH)
    .rw[ah (Èq hDe Zz (Zr e))];exact I4.base.free b o e nb hx
    .have q:=I4.base.tups b xs e;rw[ah (neD q)];ext ŷ
    .have q:=I4.base.frzs b o u e;rw[ah (neD q)];ext ŷ
    .exists[more,q],I4.base.tbls b ps e;exact#[more,Ī (neD q) q]
    .ext å hb b D
     .subst hb;show π ad e #[hz,its,nn,rv,oD]
     .rw[ah hb]at e;exact Ð4 I4.hok e (ÄM q q) (λ c q=>Ī (neD q) q) λ c xs q=>Ī (neD q) q
    .ext ÓO g2 f2;exact#[f3,f1,f4,f5]
   exists[m4,hn4,_],I4.loc;refine fin D C s4 H3 ys JX #[m4,hn4] ? _ (qn D nD);refine I2.fpOk (b:=C) hCle' ? _;rw[ah (Z7 hDC)];exact I4.free
  .refine Ñ6 ÄC T.item _ _ _ fpY go (Ú r s4 ⟨u,hr,h4⟩);subst hr;refine thn h4 (ο _ s5);ext ãn fpY;refine thn (hg C s2 H2 fp _ s5 _ H5 x u _ I5' r5 (gk Β (step x H5 y5))) (ο _ s6);obtain⟨σ6,H6,I6,⟨l6,k6⟩,q6⟩:=hz9;refine thn (ht C s2 H2 fp _ s6 σ6 H6 _ I6 q6) (Ú ok s7 ⟨H7,I7,q7⟩);have wk:∀{H8:Hp} {s8:XI} {pl:XD},ÄC Inv pl σ6 H8 s8->ÄC Inv pl (cg own.length cap Z) H8 s8:=λ I=>I.weak l6.symm λ j v e=>by exists[hj,_],vo e;rw[k6 j hj];exact e
   have tn8:∀{σ8:St} {H8:Hp} {s8:XI},ÄC Inv ([Æ9]++rL fp s5.heap) σ8 H8 s8->(∀b∈fp,∀o,ÀC s5.heap.get? o s8.heap.get?)/\∀b∈fp,ê H8 b:=fun{σ8 H8 s8} I=>by refine#[λ b hb o e=>(ÐO I.pin).1,ÂH];exists[o,e,d],T.obj Â st5 b hb;exact(ÐO I.pin).2.1
   cases ok with
   |false =>rw[XB Zq]at q7 ⊢;exists[m',hm,w7],q7;exists[t1,t2],tn8 I7;exact#[m',hm,i+1,ys,its,nn,H7,wk I7.unpinned,T.keep ì st5 t1,t2,rv,hz,w7]
   |true =>
    rw[XC rfl]at q7 ⊢;refine thn (he C s2 H2 fp _ s7 σ6 H7 _ I7 q7) (ο y s8);exists[yv,H8,I8,r8,m',hm,w8],hz9;exists[t1,t2],tn8 I8;exists[oD,nD,_],I8.pin Æ9 Û;have hil:=rv.length;refine áI oD D nn y;have q:=PySem.IsL.update oD (λ x_1=>x_1.push y);have hf:its.toArray.push y=(its++[y]).toArray:=Ĵ
    rw[hf]at q;have keepO:∀b o,ō D->s8.heap.get? b=ò->(s8.heap.update D (ÔG)).get? b=ò:=λ b o hb e=>(Yr s8.heap (ÔG) (Z7 hb)).trans e;have I9:ÄC Inv [] σ6 H8 { s8 with heap:=s8.heap.update D (ÔG),toks:=s8.toks } :=
     (I8.pins_of (pins':=[]) (Â2 p hp hp)).turned (it:=D) keepO nD hDC (ā hDle) Dcell (Ñ9)
    refine#[m',hm,i+1,ys++[yv],its++[y],_,H8,wk (pinD I9 q nD),T.keep ì st5 (λ b hb o e=>keepO b o (Z7 (hDfp b hb)) (t1 b hb o e)),t2,rv.append (Ę r8 ė),? _,w8];rw[Zm,y9];omega
 exact codeAny_compStart_list (loop Än) (T.self _ 0 ì (T.keep ì st2 (λ b hb o e=>old b o e)) (loop Än))
theorem OD Ä1 ź(Ïl PI PG xo PE)ÉD:PE X (ÅS tg) (AQ own.length cap wi g tc te):=by ext ı Q;rw[eval_ListComp];refine wpAny_comprehension_free (use:=none) rfl hs (O.clos I.ok) O.kind O.names ßk;ext á1 none Àt;exact#[m,hn,λ h' sb=>#[Æ D,_,Íh J4.turned s4.toks f4 f5,Ì q4]]
theorem OR Þu(hj:Ŗ X.N y)(hy:Loc X.env.scope y)Ä1 ź(Ïl PI PG xo PE)àj ÉD(ÉB y):
  à2 PS:=by
 ext ı D0;rw[exec_Assign_Name_used Β hsw];show Ě í wpAny_standAt z9 ? _;show wpAny _ X.A (do let _ ←comprehension (ÅS tg) scope X.env _ (newList []) false (eval iter X.env) (Ù (assign (Ã2 y py) X.env))) Â s;refine z9 (Ái (wpAny_comprehension_free (use:=Ã (assign (Ã2 y py) X.env)) (Q:=λ _ s'=>SP X XU D0 .next s') rfl hs (O.clos I.ok) O.kind O.names (ÂL hi λ v s1 h1=>thn h1 (Ú itv s2 h2))) (λ _ s' hq=>Zb (Zb hq)) e e);show á1 (Ù (assign (Ã2 y py) X.env)) (λ _ s'=>SP X XU D0 .next s');show wpAny _ X.A (assign (Ã2 y py) X.env (Ï D)) ì;refine wpAny_assign_Name (zG J4 hN0 hj hy (v:=Æ D) rfl (Ú s5 I5 ⟨a,sba,ha⟩) hf);have hCa:C≠a:=by
  ext Ś ha z z
  .ext Œ z f1
  .exact À7 Z7 f4 z
 refine#[m,hn.sameBut sba hCa,Ø h' sb];exact#[_,_,Íh I5.turned s5.toks f4 f5,q4]
#check 0
structure Fn Ãs À1(x:Str)Æc:Prop where
 ex:åk CX0
section
variable{X:Cx}{k:Nat}{e:XT}{t:TA}
theorem Tl Ów(ha:PA X ϑ t)ÉF Ä8 Ì3 :
  PE ÊM (AO Æv E0 t):=by
 exists[f,fd,G,m,kp,b],F.ex;exact OB G hr hg m kp b ė nL ha hdb he hpl
#check 0
theorem bI:Äg "isinstance" builtin:=⋯
theorem Br:Äg "max" builtin:=⋯
theorem Bq:Äg "int" type:=⋯
theorem yW:Äg "bool" type:=⋯
theorem gO:Äg "tuple" type:=⋯
theorem iU:Äg "list" type:=⋯
theorem iT:Äg "all" builtin:=⋯
section
variable{X:Cx}
theorem Ks ź:Î7 fh "all" bs.all:=by
 ext ÛY call_all_walk;refine#[s.heap.objs.size,ÝC true,
  #[#[_,ĸ,î],hl.push _],Áp i v s' Q' E' hP hQ,Å2 tk hk]
 ext ây true
 .ext äB all true bs.all LSm.range_all
  show Œ e #[.bl _,H,Ðy (LSm.kept_iter hk),Ì q]
theorem Ku:Ìz "isinstance" Þq:=by show Òu [x,T,t,b,rfl,ty,e,q] [u,w',rfl,rx,ry] tD (show w'=Value.type T from ry);exact ID I rx ty e λ tk=>#[.bl b,H,I.tok tk,Ì q]
#check 0
def isI:ÀX V
 |Í _=>true
 |.bl _=>true
 |_=>false
def isB:ÀX V
 |.bl _=>true
 |_=>false
theorem fB ē{t T:String}(h1:(Value.type t==Value.type T)=b)(h2:Ũ b->ú W.kitMeta T/\ũ PySem.fastBuiltinMro t (·.contains (Value.type T))=Ã false):W.kitOne K Óq=Ã b:=by
 ext ğ W.kitOne h1;cases b with
 |true=>exact XC rfl
 |false =>rw[XB Zq];exists[m,q],h2 rfl;show äz;rw[XC m];ext ŷ
theorem cu ē{t T:String}(h1:Ũ (Value.type t==Value.type T))(h2:ú W.kitMeta T)(h3:ũ PySem.fastBuiltinMro t (·.contains (Value.type T))=Ã b):W.kitOne K Óq=Ã b:=by unfold W.kitOne;rw[h1,XB Zq];show äz;rw[XC h2];exact h3
theorem N6 ē(h:Èp v n):àc "int"=ϝ isI v:=by
 cases h with
 |non=>ext ÁW
 |bl x=>exact cu (b:=true) Åf ⋯
 |int i=>exact ËV nofun
 |str x=>ext ÁW
 |flt x=>ext ÁW
 |lst e=>ext ÁW
 |frz e=>ext ÁW
 |tup e=>ext ÁW
 |dK e=>ext ÁW
 |dT e=>ext ÁW
theorem BV ē(h:Èp v n):àc "bool"=ϝ isB v:=by
 cases h with
 |non=>ext ÁW
 |bl x=>exact ËV nofun
 |int i=>ext ÁW
 |str x=>ext ÁW
 |flt x=>ext ÁW
 |lst e=>ext ÁW
 |frz e=>ext ÁW
 |tup e=>ext ÁW
 |dK e=>ext ÁW
 |dT e=>ext ÁW
theorem af Ο(h:á p)(o:HO):Same H (ø p o):=λ b u q=>Â8 q h
theorem nu1{H A:Hp}(g:á p)(h:ø p o=A):Same H A:=h▸af g o
theorem nu2(h:ø p o=A):A p=ò:=h▸ad
theorem iP ē(e:ó)(h:SqT K H a xs):SqT K H' a xs:=by
 ext Ói h e
theorem cX à(h:n<=1000):Ń n:=Xo (bo h)
theorem sz à(h:Ď Nat.ble n 1000):Ń n:=cX (Xa h)
theorem mX Ù1{te:TE}{Q:VK}(x0 f:Nat->V)ÛF(hy:∀i H x H',i<N->Same H0 H->J.yld i H x H'->H'=H/\x=x0 i)(he:∀i H,i<N->ÎI (ÈU (ϝ x0 i)))(Î3 N):Ã7 (cC 0) iH J:=by
 refine#[λ i m ys H=>m=N-i/\i<=N/\Same H0 H/\ys=(Ŷ i map) f,#[N,Ĵ,ZA _,ÍX],? _];rintro i m ys H ⟨rfl,hi,sm,rfl⟩;by_cases hlt:i<N
 .ext ßQ
  .rw[Za,YA];exact ĥ bo
  .exists[e1,e2],hy i H x H' hlt sm y;subst e1 e2;refine he i H' hlt sm _ λ H4 sm4=>#[Ôm,sm.trans sm4,? _]
   rw[List.range_succ,Zy];rfl
 .show Åg i N #[hst H sm,λ p hp=>hq p H sm hp]
theorem HZ ē Ác à(ÕJ hl SqL)(he:∀i x H,À8 x->Ě ÎI ÈU Ù x)Ù2:Ã7 (cC 0) iH (Itl K a):=by
 refine ÚH (Ír #[xs,ÁO,sm.seq hl,by simp[hi]]) (λ H sm=>#[xs,sm.seq hl,Zf _]) (ŗ i H hi sm R k) hq
 .rw[y.2 xs (sm.seq hl)];rfl
 .have e:Èu xs i:=Ĉ hi
  rw[e];exact he i ÁO H e sm R k
theorem BA ē Ác à(ÕJ hl SqT)(he:∀i x H,À8 x->Ě ÎI ÈU Ù x)Ù2:Ã7 (cC 0) iH (Itt K a):=by
 refine ÚH (Ír #[xs,ÁO,iP sm hl,by simp[hi]]) (λ H sm=>#[xs,iP sm hl,Zf _]) (ŗ i H hi sm R k) hq
 .rw[y.2 xs (iP sm hl)];rfl
 .have e:Èu xs i:=Ĉ hi
  rw[e];exact he i ÁO H e sm R k
theorem vq(ş N n){lo:Int}(ÓC N)(he:∀i H,i<N->Same H0 H->∀R:VK,(Äh R (f i))->te (ÈU (Ù (Í (lo+i)))) H R)(Î3 N):Ã7 (cC 0) iH (Itr lo N) :=
 mX (N:=N) (λ i=>Í (lo+i)) f hz (λ _ _ hi _=>hi) (λ _ _=>Zf N) (λ _ _ _ _ _ _ y=>y) he hq
def aQ:ÀX XT
 |.Starred Â=>false
 |_=>true
theorem aR(h:ú aQ e):starEach ϑ env=(false,eval e env)::starEach es env:=by cases e<;>first|rfl|cases h
theorem bQ:∀{es:Ä XT},ú es.all aQ->(backTo pos (starEach es env)).any (·.1)=false
 | [],_=>rfl
 |e::es,h=>by rw[Y6,ZH]at h;rw[aR h.1];show Ũ (false ||(backTo pos (starEach es env)).any (·.1));rw[Bool.false_or];exact bQ h.2
section
variable{X:Cx}{e:XT}{t:TA}{id:String}{k:Nat}
theorem pa äP(ÃU hs e):PA X ϑ (fY te t):=EU ha hr (aR hs)
theorem pB(hc:Ìz id r)(Êf builtin id PA)ÅM Êo :
  PE X Ê4:=by
 rw[Y6,ZH]at hs;exact Ls hc hg hm hv ha hn hdb ÈT
theorem pTy(hc:fh X (.type T) r)(Êf type T PA)ÅM Êo :
  PE X Ê4:=by
 rw[Y6,ZH]at hs;exact Jm hc hg hm hv ha hn hdb ÈT
theorem pfn Ów(ha:PA X ϑ t)ÅM Ä8 :
  PE ÊM (AO Æv E0 t):=by
 rw[Y6,ZH]at hs;exact Tl F hr ha hg hdb ÈT
#check 0
structure QE(Åp TE):Prop where
 h:PE X e t
structure QT(Åp TT):Prop where
 h:PT X e t
structure QW(Åp TT):Prop where
 h:PW X e t
structure QA(È9 es XT TA):Prop where
 h:PA X es t
structure QS Ø8:Prop where
 h:PS X st t
structure QB Øb:Prop where
 h:PSs X st t
structure QG(ŵ tg XT)(g:TG):Prop where
 h:PG X tg g
structure QGs(Ŧ X Cx ts XT)(g:TGs):Prop where
 h:PGs X ts g
structure QI ÞJ:Prop where
 h:PI X tg iter wi
structure QIf(È9 ifs XT TT):Prop where
 h:xo X ifs t
structure QO än:Prop where
 h:PO X e t
structure QOp ßl:Prop where
 h:OpR X f r
structure QCall(ŵ f XJ)(r:Ä6):Prop where
 h:fh X f r
structure QIx(ŵ r R2):Prop where
 h:IxR X r
structure QSl(X:Cx)Ód:Prop where
 h:SlR X r
structure QSet(ŵ t Bp):Prop where
 h:Km X t
structure QUn ÞV:Prop where
 h:UnR X f r
structure QIp(ŵ op Operator)(t:TIp):Prop where
 h:PIp X op t
section
variable{X:Cx}{pos:Pos}{e a b:XT}{t:TA}{x:Str}
theorem q_v(i:Nat){x:Str}{pos:Pos}(hN:Ý X.N x:=by rfl)(hv:Vis X.env.scope x:=by first|exact Or.inl rfl|exact Or.inr (Or.inl rfl)|exact Or.inr (Or.inr rfl))Êy ÚC:Æ1 QE (tVar i):=#[Rm hN hv hd hcd]
theorem aj{i:Int}{j:Nat}:Ð9 QE Í i:=#[Re]
theorem dF{i:Bool}{j:Nat}:QE X (.Constant (.bool i) j pos) (tC (.bl i)):=#[Tj]
theorem cQ{j:Nat}:QE X (Ý6 pos) (tC .non):=#[Rh]
theorem aA{i:Str}{j:Nat}:Ð9 QE Î i:=#[Rk]
theorem ow(ÚX type T)ÉF(Òp hd):Æ1 QE (tC (.ty T)):=#[OA hg hm hv rfl hn hd]
theorem fe{i:Int}(hm:Į X.mg x (İ i tk))ÉF Êy:Æ1 QE (tC (Í i)):=#[yc hg hm Âv hd]
theorem aI(ho:QOp X (binaryOp op) r)(ε ha a ta)(ε hb b tb):QE X (.BinOp a op b pos) (tOp r ta tb):=#[Tn ho.h ha.h hb.h]
theorem dP{op}(ε h a ta):QE X (.BoolOp op [a] pos) ta:=#[Rj h.h]
theorem dC(Ò9 QE And):ÆX QE And Ng ta tb:=#[Q7 ha.h hb.h]
theorem RF(Ò9 QE Or):ÆX QE Or Sf ta tb:=#[To ha.h hb.h]
theorem AK(ε ha a ta):QE X (În) (Ni ta):=#[Ri ha.h]
theorem cP(ÒJ QOp)Út:QE X ËH (tOp r ta tb):=#[OC ho.h ha.h hb.h hm]
theorem OW(Ív QOp QE):
  QE X (ÏK) (wO r r' ta tb tc):=#[Lu ho.h ho'.h ha.h hb.h hc.h hm]
theorem Cy(hc:QT X c tA)(ε ha a ta)(ε hb b tb):QE X (.IfExp c a b pos) (tIf tA ta tb):=#[Lw hc.h ha.h hb.h]
theorem bX(h:QA X es t):QE X (.List es pos) (Sb t):=#[Rf h.h]
theorem aJ{x1}(h:QA X es t):QE X (Í7 x1) (Mj t):=#[Rl h.h]
theorem ar(hr:QIx X r)(Íj QE)(hs:Ek b:=by intro _ _;rfl):Éu QE a b (tOp r ta tb):=#[Tm hr.h ha.h hb.h hs]
theorem fg{lo hi:Option XT}(ál QSl QE QO):äA QE (tSl r te tl th):=#[LA hr.h he.h hl.h hu.h]
theorem fq:QO X none Fm:=#[ON]
theorem eM(ε h e te):QO X (Ù e) (Nj te):=#[OO h.h]
theorem ai:QA X [] ip:=#[wj]
theorem q_a(Çu ha QE hr QA es t)(ÃU hs e):QA X ϑ (fY te t):=#[pa ha.h hr.h hs]
theorem q_B{id:String}(hc:Æa id r)(Êf builtin id QA)ÅM Êo:
  QE X Ê4:=#[pB hc.h hm hv ha.h hg hs hn hdb]
theorem oq(hc:QCall X (.type T) r)(Êf type T QA)ÅM Êo:
  QE X Ê4:=#[pTy hc.h hm hv ha.h hg hs hn hdb]
theorem aC ĉ Ów(ha:QA X ϑ t)ÅM Ä8:
  QE ÊM (AO Æv E0 t):=#[pfn F hr ha.h hg hs hdb]
theorem aE(ÒJ QOp)Út:QT X Ýh:=#[OU ho.h ha.h hb.h hm]
theorem Pk(Ív QOp QE):
  QT X (ÏK) (wS (wO r r' ta tb tc)):=#[LJ ho.h ho'.h ha.h hb.h hc.h hm]
theorem fJ(ha:QT X a tA):QT X (În) (Se tA):=#[RA ha.h]
theorem ci(ε h e te)ÞL:QT X e (tB te):=#[RB h.h he]
theorem gN(ha:QT X a tA):QW X (Îo And) tA:=#[OV ha.h]
theorem jV(ha:QT X a tA):QW X (Îo Or) tA:=#[RD ha.h]
theorem hJ(ËZ QT tA QW And tB'):ÆX QW And R7 tA tB':=#[RC ha.h hb.h]
theorem jN(ËZ QT tA QW Or tB'):ÆX QW Or tOr tA tB':=#[Tq ha.h hb.h]
theorem t_w(h:QW X e tA):QT X e tA:=#[h.h.pt]
#check 0
section
variable{X:Cx}{pos:Pos}{own:Ä Str}
theorem aB ÕP Òt(Íg x):Æ1 QG (cC i):=#[OG hN hi hx hf]
theorem ic:QGs X [] qh:=#[OH]
theorem bS(h1:QG X e g)(h2:QGs X es gs)(hs:Ìs ϑ=assign e X.env::Ìs es:=by rfl):QGs X ϑ (fW g gs):=#[LB h1.h h2.h hs]
theorem ny(ş k n)ź(ÓM QGs gs)Ôy:QG X (Í7 k) (qi X.K n gs):=#[Ro hc h.h hn hst]
theorem F9(àD QE QSet)(ha:∀ v,Ü7 X.env v=(do
   let ov ←holding [v] (eval o X.env)
   let iv ←holding [v,ov] (eval i X.env)
   standAt pos
   holding [v,ov,iv] (setItem ov iv v)
   release [v,ov,iv] []):=by intro _;rfl):Éu QG o i (Qb to ti t):=#[Rn ho.h hi.h hs.h ha]
theorem bc(ε hl l te):QI X tg l (MK X.K te):=#[OJ hl.h]
theorem MN(ε hl l te):QI X tg l (Qh X.K te):=#[Rs hl.h]
theorem vC(hm:ê X.mg "range")ÞN(ÃU hs a):ÑJ QI "range" a (ML ta):=#[Jn hg hm ha.h (aR hs)]
theorem fj:QIf X [] iH:=#[LE]
theorem nX{t:TT}(h:QT X c t):QIf X [c] t:=#[LF h.h]
theorem bT Ä1 ź(Ïl QI QG QIf QE)ÉD:QE X (ÅS tg) (AQ own.length cap wi g tc te) :=
 #[OD O hc hi.h (És hg) gk (És ht) (És he) hs]
variable{st:Stmt}{t:TS}
theorem b_0:QB X [] jU:=#[OS]
theorem b_1(h:QS X st t):QB X [st] t:=#[OT h.h]
theorem b_c(h1:QS X st t)(h2:QB X rest u):QB X (st::rest) (He t u):=#[LI h1.h h2.h]
theorem au(ε h e te):QS X (ÕX pos) (Sg te):=#[Ry h.h]
theorem bK(ε h e te)Öl:QS X (.Expr e pos) (Hd te):=#[OQ h.h hs]
theorem aM(hc:QT X c tc)(ht:QB X body t)(hu:QB X els u):QS X (.If c body els pos) (Mi tc t u):=#[Tp hc.h ht.h hu.h]
theorem aD ÕP(ε he e te)Òt(Ñv e Ã2 x)(Íg x):QS X (.Assign [.Name x pos'] e pos) (yK te (cC i)):=#[Rz hN hi hx he.h hs hf]
theorem mM Þu Ä1 ź(Ïl QI QG QIf QE)(hj:Ŗ X.N y:=by rfl)(hy:Loc X.env.scope y:=by first|exact Or.inl rfl|exact Or.inr rfl)àj ÉD(Íg y):
  à2 QS :=
 #[OR hN0 hj hy O hc hi.h (És hg) gk (És ht) (És he) hsw hs hf]
theorem GR(ε he e te)(Û2 QG)Ýz:QS X (.Assign [tg] e pos) (yK te g):=#[Rt he.h hg.h hs hw h1]
theorem Tz ÕP(Çu he QE ho QIp op ti)Òt(Íg x):
  ås QS:=#[Ru hN hi hx he.h ho.h hf]
theorem cW(hp:Ä0 PassesOwn X.A X.env X.xe)ź(áq QI QG QB t)ÉD:QS X (Ú9) (Sa wi g t):=#[Rw hp hc hi.h hg.h hb.h hs]
theorem yr(Üz QT QB t):QS X (.While c body ÂB) (J3 tc t):=#[LH hp hc.h hb.h]
#check 0
theorem Fun.okQ ē{st:Stmt}ĉ Ï4 Ñd ÉE(hbody:∀ (cdv:XJ) ÃS Ë ÆP,ØA->sp vs H Q E ->
   ÓY QB cdv):ă ÔD :=
 F.ok S len λ cdv A outer s H vs Q E hr hsp=>äW hbody
section
variable{X:Cx}
theorem eW:QOp X (Åb Add) (rI0 (Ãe (i+j))):=#[QR]
theorem sY:QOp X (Åb Sub) (rI0 (Ãe (i-j))):=#[Q3]
theorem nJ:QOp Ùo (rI CMul (Ãe (i*j))):=#[Q1]
theorem eX:QOp X (Åb FloorDiv) (rI Py (Ãe (i / j))):=#[Ou]
theorem cV:QOp X (Åb Mod) (rI (λ _ j=>0<j) (Ãe (i%j))):=#[QZ]
theorem vV:QOp X (Åb Add) rCat:=#[QU]
theorem bW:ų QOp Eq rEq:=#[Tc]
theorem Cl:ų QOp NotEq rNe:=#[Th]
theorem xP:ų QOp Lt (Åx (decide (i<j))):=#[Tg]
theorem uE:ų QOp LtE (Åx (decide (i<=j))):=#[Tf]
theorem Ck:ų QOp Gt (Åx (decide (j<i))):=#[Te]
theorem Lk:ų QOp GtE (Åx (decide (j<=i))):=#[Td]
theorem Gq:ų QOp Is (Ñc (.bl (Ìn))):=#[QY]
theorem kf:ų QOp IsNot (Ñc (.bl (! Ìn))):=#[Ov]
theorem cJ:QIx X (rIxL X.K):=#[NZ]
theorem aw:QIx X (rIxT X.K):=#[Qn]
theorem vH:QSl X (rSlL X.K):=#[Pb]
theorem G4:QSet X M9:=#[L8]
theorem dN:Æa "len" (âA):=#[Bu]
theorem jO:Æa "isinstance" Þq:=#[Ku]
theorem sE ź:Î7 QCall "all" bs.all:=#[Ks hc]
theorem ME ź:Æa "max" ãG:=#[HV hc]
theorem Sv:QCall X (.type "tuple") áO:=#[zW]
theorem HR:áo QCall:=#[Bv]
theorem Su:QCall X ÞW:=#[HU]
theorem Ui:QIp X .Add (ipI λ i j=>i+j):=#[Qk]
#check 0
mutual
def Dt Ë:XZ->Þ V
 |.none,v=>É6
 |.bool b,v=>v=.bl b
 |Í i,v=>v=Í i
 |Î x,v=>v=Î x
 |.list ds,v=>∃a xs,ÄU/\âl
 |.tuple ds,v=>∃a xs,ÄU/\É5 ÅA/\DtAll H ds xs
 |.dict _,_=>False
def DtAll Ë:Ä XZ->ÃI V
 | [],xs=>xs=[]
 |À6,xs=>Õm
end
section
mutual
theorem Dt.reads Ãw:∀(d:XZ) (x:V) (v:XJ),Dt H d x->RelV x v->∃as,Reads h v d as
 |.none,x,v,e,r=>by
  have e':x=.non:=Ä4 Dt e
  subst e';show Ř r #[_,.none]
 |.bool b,x,v,e,r=>by
  have e':x=.bl b:=Ä4 Dt e
  subst e';show Ř r #[_,.bool b]
 |Í i,x,v,e,r=>by
  have e':x=Í i:=Ä4 Dt e
  subst e';show þ [t,rfl] r #[_,İ i t]
 |Î z,x,v,e,r=>by
  have e':x=Î z:=Ä4 Dt e
  subst e';show þ [t,rfl] r #[_,.str z t]
 |.list ds,x,v,e,r=>by
  have e':∃a xs,Àh/\âl:=Ä4 Dt e
  show à9 [_,its,n,rv,eo] #[_,.list eo rfl rfl (û q)]
 |.tuple ds,x,v,e,r=>by
  have e':∃a xs,Àh/\É5 ÅA/\DtAll H ds xs:=Ä4 Dt e
  show à9 [_,its,rv,o,eo,hc,n,hs] #[_,.tuple eo hc hs (û q)]
 |.dict kvs,x,v,e,r=>by
  have e':False:=Ä4 Dt e
  exact e'.elim
theorem DtAll.reads Ãw:∀(ds:Ä XZ) (ÉX xs vs),DtAll H ds xs->Vals xs vs->∃as,ReadsAll h vs ds as
 | [],xs,vs,e,r=>by
  have e':xs=[]:=Ä4 DtAll e
  subst e';show Ř r #[_,.nil]
 |À6,xs,vs,e,r=>by
  have e':Õm:=Ä4 DtAll e
  ext ÆD y ys e';cases r with
  |cons r1 r2 =>exists[as,q1],Dt.reads ok d y _ h1 r1;exists[bs,q2],DtAll.reads ok ds ys _ h2 r2;exact#[_,Ę q1 q2]
end
#check 0
theorem Ex:∀(ns:XQ),DtAll H (ns.map PyData.int) (ns.map V.int)
 | []=>ÀL ÀD List.map_nil DtAll
 |n::ns=>ÍY ÀD Zu DtAll #[ù _,by ext Ű Dt,Ex ns]
section
variable{X:Cx}
inductive rEqD  (x:V)(y:V)Ë(Q:VK):Prop
 |mk Û5 (h4:Q (.bl (PyData.eqv dx dy)) H):rEqD  x y H Q
inductive rNeD  (x:V)(y:V)Ë(Q:VK):Prop
 |mk Û5 (h4:Q (.bl (! PyData.eqv dx dy)) H):rNeD  x y H Q
theorem Jg Áx:ų OpR Eq rEqD:=ÜW eq_dataH
theorem Ji Áx:ų OpR NotEq rNeD:=ÜW ne_dataH
theorem sX Áx:ų QOp Eq rEqD:=#[Jg hu]
theorem vW Áx:ų QOp NotEq rNeD:=#[Ji hu]
#check 0
section
variable{apos cpos:Pos}
theorem iF Óm(hbase:ÂN o "append":=by rfl)Äc :
  QE X (Ãv (Âm "append" apos) [e]) (â5 rAppend):=by
 show Ùt #[Úu PySem.F.slot_list_append PySem.F.type_list_append IP]
#check 0
theorem Gf{i j:Int}Æq(h1:i=j->A)(h2:i≠j->B):ÇD (V.int i=V.int j):=by
 ext å h i j
 .show χ XC (decide_eq_true (by rw[h])) h1 h
 .rw[XB (Áf decide_eq_false (Ùf h) Zq)];exact h2 h
theorem cD(e:ó)(h:á p):Same H (Áq p o):=λ b u q=>Äq (aq q h) e q
def am(ns:XQ)À1:Int:=(ns[k]?).getD 0
theorem eZ{ns:XQ}(Ïn k)(h1:k<ns.length):atI (ns.map V.int) k=Ã (Í (am ns k.toNat)):=by
 have hk:k.toNat<ns.length:=Àz Îv h1
 have ek:k=ÀV k.toNat:=Ôs h0
 have q:atI (ns.map V.int) (ÀV k.toNat)=Ã (Í ns[k.toNat]):=fi (by rw[Zs,Ze hk]<;>rfl);rw[<-ek]at q;rw[q];unfold am;rw[Ze hk];rfl
theorem Kw{ns:XQ}(Ïn k)(h1:¬k<ns.length):am ns k.toNat=0:=by show ÙD (by exact lin ÒW Ê (Áb ÿ Ç (ÿ Ç ÐH)) ď Τ (Int.not_lt.mp h1) (Int.self_le_toNat _))
section
variable{A:XN}
theorem DN(calm:A.handled=none)(it t:XH)(apart:t≠it)(xs:Array XJ) :
  ßz t xs.size xs where
 live:=λ _ _ q=>let⟨o,eo,_⟩:=q.1;#[o,eo]
 frame:=λ _ _ _ q kp=>ã4 eo q kp t
 item:=λ i s Q E lt q cont=>by
  have ei:Èu xs i:=Ĉ lt
  ext Ûb i;have sb:=ZV s.heap it (λ ob=>ob.mapFields λ fs=>fs.setIfInBounds 1 (rawInt (i+1)));refine z9 (YC eo ed Û (Zb #[ÁO,rfl,Zb (cont Â s.toks ei #[Χ] (ZV ..))]))
  .exact ÎW eo ed ec
  .exact q.2.extBut (ZV ..).extBut apart
 done:=λ s Q E q cont=>by
  have ei:xs[xs.size]?=none:=Ĵ
  ext Ûb xs.size;show ÎX (YV (z9 (YC eo ed Û ? _)));show í ? _;ext ÀD newExc newTuple;show í (ZM ? _ (by size_fits));refine áC;ext âe calm
  exact z9 (Zb (wpAny_throw (cont Â ((à0).push _) #[_,ĸ,rfl])))
#check 0
structure ZAp(z u v i j:XH)(f g:Ä XH):Prop where
 uz:u≠z
 vz:v≠z
 uv:u≠v
 ui:u≠i
 uj:u≠j
 vi:v≠i
 vj:v≠j
 iz:i≠z
 jz:j≠z
 ij:i≠j
 zf:z∉f
 zg:z∉g
 vf:v∉f
 vg:v∉g
 jf:j∉f
 ig:i∉g
section
variable{E:XE}{s:XI}{z v i j:XH}{f:Ä XH}{n m k:Nat}
def FN(z v i j:XH)(h h':Heap):Prop:=∀c o,c≠z->c≠v->c≠i->c≠j->ϒ c->h'.get? c=ò
theorem gG{f:Ä XH}(hc:c∈f)(hd:d∉f):c≠d:=λ e=>hd (e▸hc)
theorem My Úi Üs(h1:S1 k s.heap)(h2:S2 k s.heap)(l1:k<n)(l2:k<m){Q:XE}(cont:∀h' tk x y,P1 k x->P2 k y->IsZip h' z u v (rawInt s.heap.objs.size)->IsPair h' v x y->S1 Ρ h'->S2 Ρ h'->IsPair h' s.heap.objs.size x y->FN z v i j s.heap h'->Ã1 Đ s.heap.objs.size tk) :
  ċ (Builtin.«zip.__next__» #[ġ z,[]]) (λ fin s'=>∃r,fin=.done (.ret r)/\Q r s') E s:=by
 ext Úl;ext Úp;show í (d1.item k (Âd s heap q1) Â l1 (ÌB d1.frame h1 b1.extBut ap.zf) λ x q2 t2 px s2 b2=>Zb ? _);have v2:IsPair q2 v a b:=b2.extBut Â ap.vi (b1.extBut Â ap.vz hv);ext ãx v2 q3 w3 b3 b
 show ÂR (wpAny_letGo (Zb ? _)) (z9 (wpAny_onRaise ? _));show ÀA (Builtin.SmallTypes.nextOf (Ï j) >>= _) _;show ÀN (d2.item k (ÁT q3 t2) Â l2 (d2.frame ì h2 λ c hc o e=>ÊK b3.extBut ap.vg (ÊK b2.extBut ap.ig (ÊK b1.extBut ap.zg e))) λ y q4 t4 py s4 b4=>Zb ? _);have v4:IsPair q4 v x b:=b4.extBut Â ap.vj w3;ext ãx v4 q5 w5 b5 y
 show í (wpAny_letGo (Zb (Zb (z9 (Y3 w5 rfl (z9 (wpAny_newTuple ? _)))))));have sz:q5.objs.size=s.heap.objs.size:=by rw[b5.1,b4.1,b3.1,b2.1,b1.1]
 have z5:åD q5:=b5.extBut Â ap.vz.symm (b4.extBut Â ap.jz.symm (b3.extBut Â ap.vz.symm (b2.extBut Â ap.iz.symm z1)));have k5:FN z v i j s.heap q5:=λ c o c1 c2 c3 c4 e=>b5.extBut Â c2 (b4.extBut Â c4 (b3.extBut Â c2 (b2.extBut Â c3 (b1.extBut Â c1 e))));have s5:S1 Ρ q5:=d1.frame ì s2 λ c hc o e=>ÊK b5.extBut ap.vf (ÊK b4.extBut ap.jf (ÊK b3.extBut ap.vf e));have r5:S2 Ρ q5:=ÌB d2.frame s4 b5.extBut ap.vg;have zlt:z<q5.objs.size:=Zr z5;show ÀA (Ā Builtin.SmallTypes.ownedTupleHandOut z (Ï q5.objs.size) >>= _) _;show í ? _;unfold Builtin.SmallTypes.ownedTupleHandOut;show ÀN (YE (show IsZip (q5.push (Ϙ ÊH (List.toArray [x,y]))) z u v .ellipsis from Zd _ z5) Û (Ú q7 z7 b7))
 replace z7:IsZip q7 z u v (rawInt q5.objs.size):=z7
 refine YE z7 Û (Ú q8 z8 b8)
 replace z8:IsZip q8 z u v (rawInt q5.objs.size):=z8
 have up:∀c o,c≠z->q5.get? c=ò->q8.get? c=ò:=λ c o c1 e=>b8.extBut Â c1 (b7.extBut Â c1 (Zd _ e));have p8:IsPair q8 q5.objs.size x y:=b8.extBut Â (Yf zlt) (b7.extBut Â (Yf zlt) (ĸ));rw[sz]at z8 p8;refine Zb Àk;show Đ q5.objs.size _;rw[sz];exact cont q8 _ x y px py z8 (up Â ap.vz w5) (ÌB d1.frame s5 up ap.zf) (ÌB d2.frame r5 up ap.zg) p8 λ c o c1 c2 c3 c4 e=>up c o c1 (k5 c o c1 c2 c3 c4 e)
theorem Pr Úi Üs(h1:S1 n s.heap)(cont:∀h' e,FN z v i j s.heap h'->ãy):ċ (Builtin.«zip.__next__» #[ġ z,[]]) Q E s:=by
 ext Úl;ext Úp;show í (d1.done (Âd s heap q1) Â (ÌB d1.frame h1 b1.extBut ap.zf) λ q2 e b2 he=>? _);exists[oe,hoe,hce],he;have z2:åD q2:=b2 Â ap.iz.symm z1;have ez:e≠z:=λ x=>by ext Äl x z2 hoe;simp at hce
 exact YE z2 Û λ q3 _ b3=>cont q3 e (λ c o c1 _ c3 _ x=>b3.extBut Â c1 (b2 Â c3 (b1.extBut Â c1 x))) #[oe,b3.extBut Â ez hoe,hce]
#check 0
section
variable{X:Cx}{XU:XD}{Z:St}{H:Hp}{s:XI}{h':Heap}{ch:Ä XH}{t':Nat}
theorem Inv.turnH{H':Hp}ç Ít(up:∀b u,ÀC H u H')(dn:∀b o,Ġ b o->á b->ê H' b)(hok:HOk X.prog X.w H' h') :
  Ã1 ï H' t':=by
 refine Ûc ch (ÂH) (λ b o _ _ hc e _=>kp b o hc e) (λ b o _ _ hc e _=>#[o.slots,kp b o hc e]) (λ b o _ e n=>dn b o e n) (λ b o hc e=>#[o,kp b o hc e]) (λ b xs e=>up ŋ) (λ b o u e=>up ŋ) (λ b ps e=>#[Ů,by rw[up ŋ];simp]) (ÇN hm) hok I.bare
 .ext ÓO f2 hch;exact#[f3,f1,f4,f5]
 .show þ [o,es,ep,ho,r] hm #[o,es,ep,kp _ o (Ùs) ho,r]
theorem BN ç Ít:HOk X.prog X.w H h':=λ b u e=>by
 have nin:∀{c:XH} {q:HO},H c=Ã q->c∉ch:=fun{c q} e z=>by rw[(hch c z).1]at e;cases e
 refine ßd kp ÏT (Η q q);ext Éf nin
theorem Inv.turnM ç Ít:Ã1 ï H t' :=
 I.turnH hch kp (Η e e) (ÄM n n) (BN I hch kp)
theorem Inv.turnT{its:XG}ç Ít(hp:IsTup h' s.heap.objs.size its.toArray)(rv:Vals xs its)(hz:Ń xs.length):
  ï (ø s.heap.objs.size ÅA) (ÁT h' t'):=by
 have fr:=I.hok.fresh (Zf s.heap.objs.size);ext ÎE ne H s.heap.objs.size fr;have hk:=BN I hch kp;refine I.turnH hch kp (λ b u e=>Ī (ne e) e) (λ b o e n=>Ī (Zz (Zr e)) n) (ρ u e);ext å hb b s.heap.objs.size
 .subst hb;show π ad e #[hz,its,rv,hp]
 .rw[ah hb]at e;exact Ôq hk (ÄM q q)
#check 0
def Itz Ôd:It :=
 ÖR SqT
theorem QC Ė:[n+4,n+2,n+3,n,n+1].Nodup:=Ĵ
def Ug(ζ ta TA):TI:=ÓV SqT (Itz K a b xs ys)
theorem Kx Ù1{g:TG}{tc:TT}{te:TE}{Q:VK}(keep:ÀX Nat)(f:Nat->V)ÛF(ht:∀ i H x H',i<N->Same H0 H->J.yld i H x H'->∀ (A:VK) (B:Þ Hp),(ú keep i->∀ H4,Same H H4->A (f i) H4)->(keep i=false->∀ H4,Same H H4->B H4) ->
   g x (cg n cap Z) H' λ σ2 H2=>tc σ2 H2 λ b H3=>if Ą b then te σ2 H3 A else B H3)(hq:∀ p H,Same H0 H->á p->Đ p (ø p (Õ (ũ (Ŷ N filter) keep f)))):Ã7 g tc J:=by
 refine#[λ i m ys H=>m=N-i/\i<=N/\Same H0 H/\ys=ũ (Ŷ i filter) keep f,#[N,Ĵ,ZA _,ÍX],? _];rintro i m ys H ⟨rfl,hi,sm,rfl⟩;by_cases hlt:i<N
 .ext ßQ
  .rw[Za];have:=Z3 keep (List.range i);ext Â5 YA;exact ĥ bo
  .refine ht i H x H' hlt sm y Â (λ k H4 s4=>#[Ôm,sm.trans s4,? _]) (λ k H4 s4=>#[Ôm,sm.trans s4,? _])
   .rw[List.range_succ,Ys,Zy];simp[k]
   .rw[List.range_succ,Ys,Zy];simp[k]
 .show Åg i N #[hst H sm,λ p hp=>hq p H sm hp]
theorem BB ē ÌS à(ÕJ ha SqT)(hb:SqT K H0 b ys)(hl:xs.length=ys.length)(he:∀i x y H,À8 x->Ý ys y->ÎI ((ÈU (Ù x)).set 1 (Ù y)))Ù2:Ã7 (qi K 2 (ÄD fW cC 0 cC 1 qh)) iH (Itz K a b xs ys):=by
 refine Kx (N:=xs.length) (ę true) f hz (Ír #[hi,iP sm ha,iP sm hb]) (λ H sm=>#[rfl,iP sm ha,iP sm hb]) (λ i H x H' hi sm y A B kA kB=>? _) (Č p H sm hp)
 .exists[T,p,q,hT,hx,hy,rfl,rfl],y;show ÂI s1 af hT (Ò [p,q]) #[T,[p,q],rfl,XW ad,Ì p,[q],Ì q,[],î,? _];unfold iH;ext Ħ aP;exact he i p q _ hx hy (sm.trans s1) _ λ H4 s4=>kA rfl H4 (s1.trans s4)
 .have:=hq p H sm hp;rw[List.filter_eq_self.mpr (Á1 _ rfl)];ext ÀZ
inductive rCatS  (x:V)(y:V)Ë(Q:VK):Prop
 |mk (a b xs ys:_) (h0:Àh) (h1:y=Æ b) (Ç8 h2 a xs) (Ç8 h3 b ys) (h4:Ìo ys.length) (h5:ÇE p (Ò (xs++ys))):rCatS  x y H Q
section
variable{X:Cx}
theorem Os:ÅD Add rCatS:=by
 show Àc [a,b,xs,ys,rfl,rfl,ha,hb,hz,q];show å hx xs []
 .ext ÁH rx ry;show Ž [its,r1,p1,_] I.tuple (ÃD ha) [its2,r2,p2,_] I.tuple (ÃD hb);ext ÓJ p1 p2;subst hc hd hc2 hd2;have e:its=[]:=r1.nil_iff.mpr hx;ext Ļ;refine ÓA PySem.concat_meets
   (tuple_addW0 a b _ its2.toArray n n2 dd dd2 sl sl2 Û) #[ho,ho2,ØT b]
  ext Œ hx hb
 .exact Ot XU s Z H Â v u Q I rx ry #[a,b,xs,ys,î,XW ha,XW hb,hx,hz,λ e=>q a H (Same.refl H) (Êw e ZQ ha),λ _ p hp=>Ñu hp ad]
theorem jm:QOp X (Åb Add) rCatS:=#[Os]
theorem uD:fillsNumberSlot (.type "tuple") "mul" = pure false :=
 PySem.fillsNumberSlot_seq (id:="tuple.__mul__") (r:=ą builtin "tuple.__rmul__") F.slot_tuple_mul.lookup ⋯ F.slot_tuple_rmul.lookup ⋯
theorem CI:seqRepeat? (.type "tuple")=pure (ÈR "tuple.__mul__"):=by unfold seqRepeat?;rw[ÜK "__mul__" "tuple.__mul__" F.slot_tuple_mul.lookup ⋯,ÜK "__rmul__" "tuple.__rmul__" F.slot_tuple_rmul.lookup ⋯];rfl
theorem xF(a:Int)(t:Tok)Ðr Ė(Ïy dd) :
  Meets (Builtin.«int.__rmul__» #[[İ a t,Æ l],[]]) (λ _ R s=>ËP dd/\R (.ok (.ret Value.notImplemented)) s) :=
 .of_wp λ prog w A R s h=>by ext Ð2;ext ÍZ;exact#[Å,h]
theorem AD Ðr Ė(Ïy dd)(u:Tok) :
  åO 1 (λ _ R s=>ËP dd/\R (.ok (.ret (Ï l))) s) :=
 .of_wp λ prog w A R s h=>by ext Ð2;have f1:=AutoSeq1.idx_int;ext ÍZ;exact#[Å,h]
theorem yL Ðr Ė(Ïy dd)(k:Int)(u:Tok)(c1:¬(Ą (k < -(2^63) ||k>=2^63)))(c2:¬(Ą (items.isEmpty ||k==1)))(c3:¬(Ą (decide (k<=0) ||items.isEmpty)))(c4:¬items.size*k>(2^63-1) / 8)(c5:¬(ú Builtin.Tuple.tupleTooMany (items.size*k)))(c6:(Ï5 k.toNat items).size<=sizeLine) :
  åO k (λ _ R s=>ËP dd /\
   R (.ok (.ret (Ï s.heap.objs.size))) { s with heap:=s.heap.push (Ϙ ÊH (Ï5 k.toNat items)) }) :=
 .of_wp λ prog w A R s h=>by ext Ð2;have f1:=AutoSeq1.idx_int;ext ÍZ;rw[XB c1];ext ÍZ;rw[XB c4];ext ÍZ;exact#[Å,h]
def M8:R2:=λ x y H Q=>∃a k xs,Àh/\y=Í k/\H a=ą tup xs/\1<=k/\k<=1000/\xs≠[]/\xs.length*k.toNat<=sizeLine/\ÇE p (Ò (ÁD k.toNat xs flatten))
theorem Ow:ÅD Mult M8:=by
 show Àc [a,k,xs,rfl,rfl,ha,k1,k2,hx,hz,q];cases rx;ext ĭ t ry;exists[its,r1,p1,_],I.tuple (ÃD ha);obtain⟨⟨cls,dd,data,sl⟩,ho,hc,n,hd⟩:=id p1;simp only at hc hd;subst hc hd;have hne:its≠[]:=ÃF hx r1.nil_iff.mp;refine áF "tuple" ho uD CI
  (ßY (xF k t a its.toArray n dd sl) #[È ho,À5 ho,? _])
 show å hk k 1
 .subst hk;refine âE (AD a its.toArray n dd sl t) #[ho,ØT a];have e:(List.replicate (1:Int).toNat xs).flatten=xs:=Ĵ
  ext Œ e ha
 .ext Ìm hl r1.length.symm;have hnew:Ï5 k.toNat its.toArray=ÁD k.toNat its flatten.toArray:=by have:=rm its k.toNat [];ext Â1 List.nil_append
  have hlen:ÁD k.toNat its flatten.length<=sizeLine:=by rw[xM,hl,Nat.mul_comm];exact hz
  have hzk:(É its.toArray.size*k)<=É sizeLine:=by
   have e:(É its.toArray.size*k)=É (xs.length*k.toNat:Nat):=by rw[Zl,hl,Int.natCast_mul];congr 1;exact Int.le_antisymm (ô ÉY (Ĩ ÉY) ÞP) (Áb ô Ç (Áb Ĩ Ç) Æ3 (Ðp Ç đ k1))
   rw[e];exact Int.ofNat_le.mpr hz
  have hcap:É sizeLine<=(2^63-1) / 8:=⋯
  have hemp:Ũ its.toArray.isEmpty:=by
   cases its with
   |nil=>ext ĕ rfl hne
   |cons _ _=>rfl
  refine âE (yL a its.toArray n dd sl k t Ĳ ? _ ∅ ? _ (Êw hnew Zl hlen)) (ÁI ho)
  .simp only[Bool.or_eq_true,Xh,not_or];omega
  .simp[hemp,hk]
  .have h1:¬k<=0:=(Ãq (ØU Τ q k1))
   simp[hemp,h1]
  .unfold Builtin.Tuple.tupleTooMany;ext Ű Xh;omega
  .rw[hnew];refine#[Öe Ò ÁD k.toNat xs flatten,q Â (af (I.hok.fresh (Zf _)) _) ad];exact#[Êw xM Nat.mul_comm hz,_,r1.rep k.toNat,IsTup.new Â]
theorem qm{ns:XQ}{i:Nat}(h:Ý (ns.map V.int) x):x=Í (am ns i)/\i<ns.length:=by
 rw[Zs]at h;unfold am;cases e:ns[i]? with
 |none=>ext è e h h
 |some z =>show π e h #[rfl,(Zv.mp e).1]
theorem mj(ş n d)(Ïn h):HT.sIx n d (Ù h)=min h.toNat n:=by have e:=HT.sIx_nat n d h.toNat;rw[show ÀV h.toNat=h by exact Óf h0]at e;exact e
variable{K:XY}(hK:X.K=K)
include hK
theorem iY:QIx X (rIxL K):=by ext Âb hK cJ
theorem jB:QIx X (rIxT K):=by ext Âb hK aw
theorem je(ş k n)ź(ÓM QGs gs)Ôy:QG X (Í7 k) (qi K n gs):=by subst hK;exact ny hc h hn hst
omit hK
theorem QM:QOp Ùo M8:=#[Ow]
#check 0
open PySem PySem.Spec PyProof.Rows PySem.W
section
theorem yn{st:Stmt}:QS X st (Η _ False):=#[λ _ _ _ _ _ _ h=>h.elim]
theorem vX:ų QOp IsNot (λ x y H Q=>∃b c,x=.bl b/\y=.bl c/\Q (.bl (!(Ài b c))) H):=by ext Ξ;show Àc [b,c,rfl,rfl,q];ext ÁH rx ry;cases b<;>cases c<;>exact Zb (ÌI _)
theorem qZ{s:XI}{t sl:XH}Úa(hw:Îs HT.sIx items.size)(h:Đ t s):ċ ãw E s:=by
 ext àx;refine z9 (Òz ht.typeIs YB
  âu)
 ext ÝO HT.sliceApplied_gen;show Θ (if ÖY HT.sIx then _ else _) s;rw[XC (by rw[hw.1,hw.2];simp)];refine z9 (m:=Builtin.Tuple.tupleIsExact _) ? _;show ξ Builtin.Tuple.tupleIsExact (wpAny_typeOf ht.typeIs (Zb ? _));rw[XC ⋯];exact z9 (YV ÍG)
def Uo:V->Option Int->Option Int->Hp->Þ VK:=λ x lo hi H Q=>∃a xs,Àh/\H a=ą tup xs/\ÇE p (Ò (bU xs lo hi))
theorem dW:QSl X Uo:=by
 ext Ξ;ext ÏH;exists ÀQ a xs hx q,h;by_cases hw:(Îs HT.sIx xs.length)
 .cases rx;exists[its,r,ht,hz],I.tuple (ÃD hx);ext à8
  refine#["tuple",_,YB.lookup,ht.typeIs,qZ ht hs pl pu (Ă hlen hw) (ØT a)];unfold bU;rw[hw.1,hw.2,List.drop_zero,Nat.sub_zero,ZO];exact hx
 .exact RY ÂO v vl vu lo hi sl Q I rx hs pl pu #[ś a xs,XW hx,hw,λ p hp=>Ñu hp ad]
#check 0
section
variable{Q:ű Bool}
theorem tQ(ns:XQ):∀(ms:XQ) (vs ws:XG) (i:Nat),IntsAre vs ns->IntsAre ws ms->fin=Å4 ns.length ms.length->Q (HT.lexLt ns ms) s->KatLex prog w A true fin Q (vs.zip ws) i s:=by
 induction ns with
 |nil =>
  intro ms vs ws i a b hf q;subst hf;cases a;cases b with
  |nil=>exact kat_nil q
  |cons _ _ _=>exact kat_nil (Áf decide_eq_true Û q)
 |cons x ns ih =>
  intro ms vs ws i a b hf q;cases a with
  |cons _ t h1 =>
  cases b with
  |nil =>subst hf;exact kat_nil q
  |cons y u h2 =>
  exists[e,he,iff],HT.eqAt_int A s x t y u;rw[HT.lexLt_cons]at q;refine kat_cons (he Β (Ám kat_go et ef))
  .rw[XC (iff.mp et)]at q;exact kat_yes (ih ì (i+1) h1 h2 (ÇR hf) q)
  .have hne:x≠y:=λ z=>by ext ώ iff.mpr z ef
   rw[XB hne]at q;ext Ħ kat_no;cases i with
   |zero=>exact oneLt_int q
   |succ i=>exact kat_one Â (PyProof.Rows.lt_int q)
#check 0
section
variable{H:Hp}{s:XI}{h':Heap}
theorem lV Ο(x:Ãk o):∃ob,h.get? a=Ã ob:=by
 cases o with
 |lst xs =>show þ [_,_,_,_,e] x #[_,e]
 |tup xs =>show þ [_,_,_,ob,e,_] x #[ob,e]
 |dK kvs =>show þ (Ñn ob) x #[ob,e]
 |dT kvs =>show þ (Ñn ob) x #[ob,e]
 |set S n =>show þ [ob,_,_,_,e,_] x #[ob,e]
 |ins C dx fs =>show þ [_,_,_,e,_] x #[_,e]
 |own y=>exact x
 |xd fs =>obtain⟨_,⟨ob,_,_,e,_⟩,_⟩:=x;exact#[ob,e]
 |rng lo hi =>show þ [_,_,_,e] x #[_,e]
 |frz ob u=>exact#[ob,ö]
 |tbl ps=>exact#[_,x]
 |met f y=>exact#[_,x]
 |ext φ=>exact Ð.1
theorem none_of ç(hg:ê s.heap.get? a):á a:=by
 cases q:H a with
 |none=>rfl
 |some u =>exists[ob,e],lV (I.hok a u q);ext è hg e e
theorem Inv.laidF{t':Nat}ç(k:∀b u,Â0 b->ÉJ u)(hn:∃m,s.heap.Ns X.env.locals m/\h'.Ns X.env.locals m)(hg:ê s.heap.get? a)(Ì8 a o):Í6 a o:=by
 have fr:=none_of I hg;ext ÎE ne H a fr;have lt:∀{b:XH} {u:Obj},Ġ b u->ō a:=fun{b u} e z=>ÇY hg e
 ext Öt;refine Ûm [] (λ b hb=>by simp at hb) (λ b o hL _ _ e _=>k b o hL e) (λ b o hL _ _ e _=>#[o.slots,k b o hL e]) (λ b o _ e n=>Ī (lt e) n) (ÀG _ e)
  ßE Ùa
 .show Ùu #[o,k b o hL e]
 ext Õ9
 .ext ÑI a e
  .rw[ah hb]at e;refine Ôq I.hok (λ c v hc q=>k c v ? _ q)
   ext Éf neL
def wC(base h:Heap)(L:XH):XD:=(Ŷ h.objs.size filterMap) λ b=>if b=L\/äk then none else(h.get? b).map λ o=>(b,o)
theorem oy(base h:Heap)(L:XH):News base L h (wC base h L):=λ p hp=>by
 exists[b,_,e],Yn.mp hp;by_cases c:b=L\/äk
 .ext ώ XC c e
 .rw[XB c]at e;cases q:h.get? b with
  |none=>ext è q e e
  |some o =>
   ext è q e e;refine#[q,λ z=>c (Ó z),? _];cases z:base.get? b with
   |none=>rfl
   |some u=>show ĕ (ā (by rw[z];rfl)) c
theorem fF(Üa b):(b,o)∈wC base h L:=by refine Yn.mpr #[b,Yh.mpr (Zr e),? _];rw[XB (by rintro(z|z);exact hL z;ext è hb z z),e];rfl
#check 0
theorem cL(ns:XQ):ú SeqAt.shaped (.tuple Êu):=by
 ext ğ SeqAt.shaped ZH;refine#[Χ]
 .ext Ű PyData.canLay0;exact PyProof.Rows.canLayAll_ints ns
 .ext Ħ decide_eq_true;ext Ű PyData.depth;rw[PyProof.Rows.depthAll_ints ns];decide
theorem tO:∀(ns ms:XQ),PyData.eqvAll Êu (ms.map .int)=Ài ns ms
 | [],[]=>Ĉ PyData.eqvAll
 | [],Δ=>Ĉ PyData.eqvAll
 |Δ,[]=>Ĉ PyData.eqvAll
 |x::ns,y::ms=>by simp only[Zu,PyData.eqvAll,PyData.eqv];rw[tO ns ms,Xt];simp
theorem iL(ns ms:XQ):PyData.eqv (.tuple Êu) (.tuple (ms.map .int))=Ài ns ms:=by ext Ű PyData.eqv;exact tO ns ms
theorem gj Ο{ns:XQ}(h:Ϛ a ns.map):Dt H (.tuple Êu) Ϗ:=by ext Ű Dt;exact#[ù a,Rd.of h,Ex ns]
section
variable{X:Cx}
theorem QL Áx:ų QOp Eq (âW (.bl (Ài ns ms))):=by ext Ξ;ext ß6 Jg
theorem Cm Áx:ų QOp NotEq (âW (.bl (!(Ài ns ms)))):=by ext Ξ;ext ß6 Ji
#check 0
theorem nz{x:V}Æq(h:x≠.non)(hA:A):Âl (! Ìn) A B:=ÑS aP hA
theorem MO{x:V}Æq(h:x≠.non)(hB:B):ÇD (x=.non):=ÑS aF hB
theorem Gg Ëb(h:c)(hA:A):ÇD c:=by ext χ decide_eq_true h aP hA
theorem nY Ëb äo:ÇD c:=by
 by_cases h:c
 .exact Gg h (h1 h)
 .show χ decide_eq_false h aF (h2 h)
structure CompOk1 ØO(Ŧ cx Str cap Nat)(Âj capN):Prop where
 kind:scope.kind=.function
 names:∀x∈scope.names,Ð=.local->scope.names.lookup ö=Äw
 onecell:∀y∈scope.names,y.2=.cell->y.1=cx
 own:scope.names.lookup cx=ÃH
 cf:∀Ė (acc:ő XH),cellsFrom n scope.names acc=(cx,n)::acc
 pc:∀h:Heap,pushCells h scope.names=h.push (Ϙ "cell" cell none)
 frees:áR
 cap:CapOk X scope cap capN
theorem vD:∀{vs:XG} {ns:XQ},IntsAre vs ns->∃xs:(Ŋ Int Tok),vs=xs.map (λ p=>Í p.1 Ĺ)/\ns=xs.map (·.1)
 |_,_,.nil=>#[[],î]
 |_,_,Ę n t h=>by exists ÂZ xs,vD h;exact#[(n,t)::xs,ό e1,ό e2]
def fZ(h:Heap)(Ãz e XH dc XH):Prop:=∃o,ϒ e/\o.dict=dc
theorem xB(f:Array XJ->Array XJ)(o:Obj):(Obj.mapFields f o).dict=o.dict:=Ñq Obj.mapFields
section
variable{A:XN}{s:XI}{base:Heap}{env:Env}
theorem tV Äe(fr:A.frames=Ã (env::outer))(ff:s.heap.FunFrames Îx)(ef:env.frame=Ã L)(he:Ġ e oe)(kb:base.StaysIn s.heap)(en:ê base.get? e)(dt:oe.data=.fields vs)(sz:1<vs.size)(v0:vs[0]?=Ã a0)(k:∀h',Heap.NotedW Îx e oe.cls a0 (rawInt L) s.heap h'->fZ h' e oe.dict->Q () (ů s h')):
  Âi (do let a ←frameOf env;let pl ←entryPlaceOf L nx;let b ←EntryCells.newEntry hd0 a Àl (rawInt L) Àl pl;Ā setField e 1 b):=by
 have nf:e∉(env::outer).filterMap (·.frame):=λ hm=>by exists[_,o,ho,hn],ff.mem hm;cases Zt (he.symm.trans ho);exact hn vs dt
 show ÀN (wpAny_frameOf_fun fr ff ef λ h1 k1=>z9 (wpAny_entryPlaceOf (Ø pl hpl)));unfold EntryCells.newEntry newFields;show í (ZM ? _ (hpl.sizeOk5 Â ì));have t3:ÞX[3]?=ϝ rawInt L:=Ĵ
 generalize ÞX=ts at t3 ⊢;have g1:h1.get? e=Ã oe:=(k1.2.1 e nf).trans he;have st1:base.StaysIn h1:=λ b o hb=>(k1.2.1 b λ hm=>Ş (hb.symm.trans (ff.mem hm).1)).trans (kb b o hb);have gp:(ßb get?) e=Ã oe:=Zd _ g1;have ne:h1.objs.size≠e:=Yf (Zr g1);have dm:=Yc dt (·.setIfInBounds Ðf);have self:=Ye (Obj.mapFields (·.setIfInBounds Ðf)) gp (YX dm);have atT:=(Yr (h1.push (Ϙ "traceback" fields ts)) (Obj.mapFields (·.setIfInBounds Ðf)) (Z7 ne)).trans (Zj h1 rfl);have oth:∀b o,ō e->h1.get? b=ò->((ßb update) e (Obj.mapFields (·.setIfInBounds Ðf))).get? b=ò:=λ b o n q=>(Yr Â (Z7 n)).trans (Zd _ q);ext Úx e he.symm.trans vs dt
 refine YC gp dt sz (k _ #[Æx q oth (λ z=>Ş ((z▸q).symm.trans en)) (st1 b o q),ff.of_keeps (ÀG q hn),? _,ÀG q hn] #[_,self,xB Â])
 .exists[sl,hs],k1.2.2 b o q;exact#[_,ãS,rfl]
 .exact#[_,_,h1.objs.size,_,ts,self,#[Obj.cls_mapFields Â,by rw[Array.getElem?_setIfInBounds_ne ⋯];exact v0],dm,Ĉ sz,st1.fresh,ne,È atT,t3]
 .exists[sl,hs],k1.2.2 b o q;exact#[sl,ãS]
theorem qe Úc(k:∀h',base.StaysIn h'->h'.FunFrames base l->h'.TracedW base e cls a0->ÕT):Âi (Ā setFlight e none):=by
 show àv (Obj.mapFields (·.setIfInBounds 3 ((none:Option XH).elim Value.none λ f=>rawInt f)))
theorem vL Äe(fr:A.frames=Ã (env::outer))(ef:env.frame=Ã L)(fl:Heap.FlyingW Îx e cls a0 s.heap)(dd:fZ s.heap e dc)(k:∀h',Heap.HeldW Îx e cls a0 L h'->ÕT):Âi (Ā noteFrame e env):=by
 show Àp [f1,f2,f3,oe,vs,T,oT,ts,he,hc,dt,v1,nT,ne,hT,dT,t3] fl [o2,q2,d2] dd;cases Zt (he.symm.trans q2);ext àM;unfold noteFrame;ext Ű ef;show í (ZY he dt v1 ? _);rw[XC (Ĵ:Ą (Value.ref T != Value.none))];show í (ZY hT dT t3 ? _);rw[XB (Ĉ rawInt:¬(Ą (Value.none==rawInt L)))];show í (YC hT dT z3 ? _);have oth:Þw (Obj.mapFields (·.setIfInBounds 3 Value.none)):=λ b n=>Yr Â (Z7 n);ext ßr
 have sz:1<vs.size:=(Y7.mp v1).1;refine tV (s:={ s with heap:=s.heap.update T (Obj.mapFields (·.setIfInBounds 3 Value.none)) }) fr (f3.of_keeps λ b o q hn=>#[o,Ï1,rfl]) ef ((oth e (Z7 ne)).trans he) (ÝL f1) f2 dt sz hc.2 (Å2 nt dd);exists[n1,n2,n3,n4],nt;rw[hc.1]at n3;rw[d2]at dd;exact k h' #[n1,f2,n2,n3] (ÄK q hn n4 (Ï1) hn) dd
#check 0
def Its(x:Str):It:=#[λ i _=>i<x.cps.size,λ i H v H'=>H'=H/\∃c,Ý x.cps c/\v=ÈA,λ i _=>x.cps.size<=i]
theorem Mr ē(it:XH)(x:Str)(t:Tok):ÊZ (Its x) (λ i h=>h.IsStrIter it "str_ascii_iterator" x t i) where
 mem:=Zg.mpr rfl
 obj:=λ i h st b hb=>by cases Zg.mp hb;show þ [o,e,c,d] st #[o,e,λ v z=>nomatch d.symm.trans z]
 keep:=λ i h h' st k=>μ [o,ho,r] st #[o,k it (Zg.mpr rfl) o ho,r]
 item:=by ext ÚG;ext ÁH eP ew;cases eK;have hi:i<x.cps.size:=hg;have fo:=hf it (Zg.mpr rfl);refine(áp Walks.strAscii it x t).item i s Â hi st (ŗ v h' tk hv st' kk);exists[c,u,hc',rfl],hv;have I1:Ã1 ï H tk:=I.turned (Óy kk z Zg.mp) fo.1 fo.2.1 fo.2.2.2.1 fo.2.2.2.2.1 fo.2.2.2.2.2;exists[o,e,c1,d1],id st';exact#[Å,sJ (s:=ÁT h' tk) e c1 d1 ⋯ #[ÈA,H,I1,#[È u],#[Ì c,È hc'],st',ÈF hf]]
 done:=by ext ÚG;ext ÁH eP ew;cases eK;have hi:x.cps.size<=i:=hg;have fo:=hf it (Zg.mpr rfl);exact Èo wpAny_pyNext_ascii_end (by simp;omega) λ h' eb=>#[rfl,Âo I.turned (ÄK hb e eb hb e) fo.1 fo.2.1 fo.2.2.2.1 fo.2.2.2.2.1 fo.2.2.2.2.2]
 self:=ÌV wpAny_pyIter_striter_ascii
def Uf(tl:TE):TI:=λ Z H R=>tl Z H λ v H1=>∃x,v=Î x/\ú x.cps.all (·<128)/\R (Its x) H1
section
theorem SM(ε hl l tl):QI X tg l (Uf tl):=by ext Ξ;ext ı R;refine ÁA hl.h v;ext ÁV y;exists[x,rfl,ha,q],q1;ext ĭ t r1;refine wpAny_pyIter_ascii ha #[Ðv,Mr _ x t,#[_,ĸ,î],ÂH,q];cases Zg.mp hb;exact Ët
#check 0
theorem Kz{x:Str}à(ÓC x.cps.size)(he:∀i c H,Ý x.cps c->Same H0 H->∀R:VK,(Äh R (f i))->te (ÈU (some (ÈA))) H R)(Î3 x.cps.size):Ã7 (cC 0) iH (Its x):=by
 refine mX (N:=x.cps.size) (λ i=>Î #[(List.toArray [x.cps.getD i 0])]) f hz (Ír hi) (λ H sm=>Zf _) (Áp i H v H' hi sm y) (ŗ i H hi sm R k) hq
 .show Áh [y1,c,hc,rfl] y #[y1,? _];simp[Yo,hc]
 .have e:Èu x.cps i:=Ĉ hi
  have:=he i _ H e sm R k;simpa[Yo,e]using this
section
theorem MG:Æa "ord" (λ xs H Q=>∃c:Nat,xs=[ÈA]/\Q (Áu c) H):=by ext Ξ;show Èd Çc [c,rfl,q];exact PySem.P.ord_of_char #[Í c,Ãb,q]
#check 0
theorem cS{v:V}Æq(hA:A):ÇD (v=v):=by ext χ decide_eq_true rfl aP hA
theorem aW{v u:V}Æq(h:v≠u)(hB:B):ÇD (v=u):=ÑS aF hB
theorem PQ:atI (x::xs) 0=Ã x:=fi (j:=0) rfl
theorem Bs:Äg "str" type:=⋯
theorem KH ē ĉ:ă k ps (Ĭ False):=#[λ _ _ _ _ h=>h.elim,λ _ _ _ _ _ _ _ _ _ _ _ _ _ h=>h.elim]
inductive TV where
 |flat (v:V)
 |tup ÀT
def AT:V->ÀX XJ
 |.non,.none=>true
 |.bl b,.bool c=>b==c
 |Í i,İ j _=>i==j
 |Î x,.str y _=>x==y
 |_,_=>false
theorem zI:∀{v:V} {u:XJ},Ď AT v u->RelV v u:=by
 intro v u h;ext Ĝ AT h;split at h
 .exact rfl
 .obtain rfl:=Ym.mp h;exact rfl
 .obtain rfl:=Ym.mp h;exact Âv
 .obtain rfl:=Ym.mp h;exact Âv
 .cases h
def DB:Ä V->ÀX XG
 | [],[]=>true
 |v::vs,u::us=>AT v u&&DB vs us
 |_,_=>false
theorem tZ:∀(δ vs V us XG),Ď DB vs us->Vals vs us
 | [],[],_=>.nil
 |Δ,Δ,h=>by have h:=(ZH Â).mp h;exact υ (zI h.1) (tZ h.2)
 | [],Δ,h=>Ş h
 |Δ,[],h=>Ş h
def pO(K:XY):TV->ÀX XJ
 |.flat v,u=>AT v u
 | .tup xs,Æ a=>(match K.lookup a with
  |ò=>o.cls == .type "tuple"&&(match o.data with|.seq its _=>decide (its.size<=1000)&&DB xs its.toList|_=>false)
  | none=>false)
 |_,_=>false
def PL(K:XY):TV->Þ XJ
 |.flat v,u=>RelV v u
 |Ò xs,u=>∃a,u=Æ a/\∀H,SqT K H a xs
set_option tactic.hygienic true in theorem TW ē(d:TV)(u:XJ)(h:pO K d u=true):PL K d u:=by
 ext Ĝ pO h;split at h
 .exact zI h
 .rename_i xs a;split at h
  .rename_i o ho;exists[e1,e2],(ZH Â).mp h;split at e2
   .rename_i its n hd;exists[e3,e4],(ZH Â).mp e2;exact#[È a,λ H=>ā #[o,its,n,ho,Ym.mp e1,hd,cX (Z5 e3),tZ e4]]
   .cases e2
  .cases h
 .cases h
structure Tab(K:XY)Ō(D:ő TV):Prop where
 look:KTD.tabLook (pO K) (λ b=>K.lookup b) a D=true
theorem Tab.at ē(T:Tab K a D)(X:K.In h):KTD.TabOf (PL K) h a D:=KTD.tab_of_look TW (λ b o e=>X b o e) T.look
section
variable{s:XI}{o:Obj}{ep:Nat}
theorem Fo ÅU(ho:Ġ d o)Ó7(h:Q (Ëc) ÂQ) :
  ċ (dictGet d ÑH) Q E s:=by
 show ØL dictGet (wpAny_pyHash_str (z9 (KTD.kt_dictFind_strs (s:=ÂQ) ho hd hall ? _)));have hq:Q (findBy (λ y v=>v.isStr y) es x) ÂQ:=by
  have hf:findBy (λ y v=>v.isStr y) es x=Ëc:=by exists[l],es;simp[findBy]
  ext Œ hf h
 rw[findBy_of_findIdx?]at hq;cases hi:es.findIdx? λ e=>e.key.isStr x<;>rw[hi]at hq
 show Áj Zb hq z9 (Yj (s:=ÂQ) ho hd (Zb hq))
theorem Si{Q:XE}(sy:Âk d)ÛK Ó7(h:Q (.bool (Ëc).isSome) ÂQ):ċ (ÊE In ÑH (Ï d)) Q E s:=by
 have T:Ā s.TypeIs d "dict":=#[o,ho,ex.1]
 show wpAny Â (do return .bool (←Ā contains d ÑH)) Q E s;show í ? _;show ØL contains (wpAny_specialOf T slot_dict_contains.lookup ? _);show ÀA (Âl (ϝ Value.builtin "dict.__contains__"==Ã Value.none) _ _) _;rw[XB (ÊU beq_builtin_none)];show í (wpAny_callSpecialUnlessNone?_slot (name:=Str.ofString "__contains__") T slot_dict_contains (ZN slot_dict_contains T entry_dict_contains ? _ (args_dict_contains Â)));ext äX;cases hv:Ëc with
 |some v =>rw[hv]at h;show Θ (ret (.bool true)) _;exact Zb #[Å,Yi (Zb h)]
 |none =>rw[hv]at h;show Θ (ÜR Builtin.Dict.pendingKey?) _;exact z9 (wpAny_pendingKey_other sy (Zb #[Å,Yi (Zb h)]))
theorem Mm{Q:XE}ÛK Ó7(hv:Ëc=Ľ)(h:Q v ÂQ):ċ (Ā getItem d ÑH) Q E s:=by
 have T:Ā s.TypeIs d "dict":=#[o,ho,ex.1]
 show ØL getItem (wpAny_sequenceKey T ⋯ (z9 (Òz T slot_dict_getitem (ZN slot_dict_getitem T entry_dict_getitem ? _ (args_dict_getitem Â)))));ext äX;rw[hv];exact Zb #[È v,Zb h]
#check 0
section
variable{X:Cx}
def RH(K:XY):R2:=λ x y H Q=>∃a k D,x=Î k/\y=Æ a/\Tab K a D/\Q (ài) H
theorem Oi:ų QOp In (RH X.K):=by
 ext Ξ;show Èd Àc [a,k,D,rfl,rfl,T,q];cases ry;exists[sy,o,es,ep,ho,ex,hd,hr],T.at I.kIn;refine Si sy ex ho hd (by exists[l],es;simpa using hr.exact) #[ài,H,I.tok _,? _,q];cases e:KTD.datumAt k D with
 |none=>rw[hr.find_none e];rfl
 |some d=>exists[v,hv,_],hr.find_some e;rw[hv];rfl
def RM(K:XY):R2:=λ x y H Q=>∃a k D d,Àh/\y=Î k/\Tab K a D/\KTD.datumAt k D=Ã d/\(match d with|.flat v=>Q v H|Ò xs=>∀t,(∀H',SqT K H' t xs)->Đ t H)
theorem Ho:QIx X (RM X.K):=by
 ext Ξ;show Ür [a,k,D,d,rfl,rfl,T,hk,q];ext ĭ t ry;cases rx;show Ž [sy,o,es,ep,ho,ex,hd,hr] T.at I.kIn [v,hv,ok] hr.find_some hk;have fin:EP X XU Z Q v ÂQ:=by
  cases d with
  |flat z=>exact#[z,H,I.tok _,ok,q]
  |tup xs =>show þ [t,rfl,e] ok #[Æ t,H,I.tok _,rfl,q t e]
 exact ÙO v (#[o,ho,ex.1]:Ā s.TypeIs a "dict") slot_dict_getitem.lookup (Mm (Q:=ÙL v) ex ho hd (by exists[l],es;simpa using hr.exact) hv #[Ì fin]) hs
theorem GO(hm:X.mg x=Ö a)ÉF Êy:Æ1 QE (tC Ϗ):=#[yc hg hm rfl hd]
#check 0
def CXr(P:XL)(w:XM):CXT:=λ outer H s E e s' =>
 ∃(ea t:XH) (C:XJ) (vs:XG) (B:Heap) (H':Hp) (dc:Option XH),e=Æ ea/\s'.os=s.os/\AllBare s'.gens/\Un (frs outer) [] H H' s.heap s'.heap/\HOk P w H' s'.heap /\
  Heap.FlyingW B outer ea C (Ï t) s'.heap/\s'.heap.TupAt t vs/\ê B.get? t/\(∀b o,b∉frs outer->((∃u,H' b=Ã u)\/∃o0,Ġ b o0)->ÀC s'.heap.get? o B.get?)/\fZ s'.heap ea dc/\E C dc H'
structure ExCls(K:XY)Ĥ:Prop where
 cls:∀h,K.In h->∃nm q N bs bm hdct sn sub ab col dd k0 k1 k2 k3 k5 mN,Éz q "ValueError.__new__"/\h.Ns N mN/\ê mN "__init__"/\Ðw /\
  OwnTail h [.type "ValueError",.type "Exception",.type "BaseException",.type "object"] bm
def HL(X:Cx)(EC:Ãp XJ):Prop:=∀(XU:XD) (Z:St) (H1:Hp) (s1:XI) (h2:Heap) (e:XH) (C:XJ) (vs:XG),ï H1 s1->Heap.MadeExcOf s1.heap h2 e C vs->EC C H1->Ā X.xe e (ů s1 h2)
section
variable{e:XT}
theorem tu(hR:HL X EC)ź(cl:ExCls X.K C)áz ÅM Ä8 :
  æ0 (λ _ Z H=>ta Z H λ vs H1=>Ń vs.length/\Ā EC C H1):=by
 ext Ξ;ext ı D;exists[nm,q,N,bs,bm,hdct,sn,sub,ab,col,dd,k0,k1,k2,k3,k5,mN,hC,hN,hni,hb,T],cl.cls X.base I.ok.mod.kin;have hs1:ú aQ e:=by have:=Z9.mp hs e Û;ext ÀZ
 have he:=ŕ aR es es env X.env hs1;have hpl:Ër (·.1)=false:=bQ (by
  rw[Z9];intro y hy;exact Z9.mp hs y (Zh _ hy))
 refine ÃK wpAny_Raise_call_subT nm nm q q C C (N:=N) (bs:=bs) (hdct:=hdct) (sn:=sn) (sub:=sub) (ab:=ab) (col:=col) (dd:=dd) (k0:=k0) (k1:=k1) (k2:=k2) (k3:=k3) (k5:=k5) PySem.F.excBase_ValueError hb (I.ok.hd hc) ? _ hni (jE I hg hm Åz hdb)
 .rw[he];show Ũ (false ||Ër (·.1));rw[hpl];rfl
 .have hA:=ÕY cpos;rw[he]at hA ⊢;refine Calls.evalArgs_plain (thn hA λ us s1 ⟨vs,H1,I1,r1,hz,hE⟩=>#[rfl,Àq r1.length hz,I1.bk Â hC,hN.keeps I1.bk,T.keeps I1.bk,λ h' ea hm=>hR XU Z H1 s1 h' ea Â I1 hm hE])
#check 0
theorem Fun.okX ē{st:Stmt}ĉ Ï4 Ñd ÉE(hb:∀ (cdv:XJ) ÃS Ë ÆP,ØA->sp vs H Q E ->
   ∃ t,QB (Íb (CXr P w) (ao st) f cdv A outer s H E) (bV st) t/\Ü0):Òb (CXr P w) Ρ sp:=by
 ext ÏB;exact F8 lk hcd S len λ A outer s H vs Q E hr hsp=>äW hb
structure FnX Ãs À1(x:Str)Æc:Prop where
 ex:åk (CXr P w)
def XP(ÉC E XK)(e:XJ)(s':XI):Prop:=∃s0 H0,ï H0 s0/\CXr X.prog X.w X.stack H0 s0 E e s'
abbrev TX:=St->Hp->VK->Þ XK
structure QX(Åp TX):Prop where
 h:∀ω Ë (Q:VK) (E:XK),ï ķ->t Z H Q E->Ź (eval e X.env) Àt (XP X XU Z E) s
abbrev TSX:=Ends->St->Hp->Þ XK
structure QSX(ŵ st Stmt)(t:TSX):Prop where
 h:∀ω Ë (D:Ends) (E:XK),ï ķ->t D Z H E->Ź (exec st X.env) (SP X XU D) (XP X XU Z E) s
section
variable{pos:Pos}
theorem Pe(he:QX X e tx)Öl:QSX X (.Expr e pos) (λ D Z H E=>tx Z H (λ _ H1=>D.nx Z H1) E):=by ext Ξ;intro XU s Z H D E I h;exact wpAny_Expr_any (thn (he.h ÂO E I h) λ v s1 ⟨y,H1,I1,r1,q1⟩=>#[Z,H1,I1,q1]) I.quiet hs
#check 0
structure Fl(X:Cx)(H0 H':Hp)(s0 s':XI)(B:Heap):Prop where
 os:s'.os=s0.os
 bare:AllBare s'.gens
 un:Un (frs X.stack) [] H0 H' s0.heap s'.heap
 hok:HOk X.prog X.w H' s'.heap
 kb:âX B.get?
section
variable{X:Cx}{XU:XD}{Z:St}{H0 H':Hp}{s0 s':XI}{B h':Heap}
theorem Fl.inv ÓH:ï H' s':=I.call' F.os F.un F.hok F.bare (Á0 _ z)
theorem Fl.nf ÓH(h:H' b=Ã u):År:=λ hm=>by have:=(F.inv I).stkFree b hm;ext ÁN h
theorem Fl.move{tk:Nat}ÓH(st:B.StaysIn h')(up:s'.heap.UpToSlots h'):Fl X H0 H' s0 { s' with heap:=h',toks:=tk } B:=by
 have kp:âX h'.get?:=λ b o h1 h2 h3=>st b o (F.kb b o h1 h2 h3);have sl:∀b o,b∈frs X.stack->s'.heap.get? b=ò->ÐC h'.get? o:=λ b o hm q=>by exists[_,o',ho',hd],(F.inv I).stack.mem hm;have e:s'.heap.get? b=Ã o':=ho';ext è q e e;exact up b o q hd
 refine#[F.os,F.bare,#[λ b o q n hb hx=>kp b o hb (ā #[o,q]) (Æ6 F.un.keep q hx),Æ6 ŗ q hx,F.un.free,ÀG q hx,F.un.tups,F.un.frzs,F.un.tbls],ρ u q,Ķ b o hb ho q]
 .exists[s1,e1],Æ6 F.un.slot q hx;exists[s2,e2],sl b _ hb e1;exact#[s2,e2]
 .exists[o',e1],F.un.there b o q hx;by_cases hb:b∈frs X.stack
  .exists[s2,e2],sl b o' hb e1;exact#[_,e2]
  .exact#[o',kp b o' hb (ā #[o,q]) e1]
 .refine Ð4 F.hok q (λ c v hc z=>kp c v Ĳ z) (Á1 z z) (Η z z)
  .ext Ś hc z' z'
   .rw[z'];exact F.nf I q
   .exact F.nf I z'
  .ext Ś hc z' z'
   .rw[z'];exact Α #[u,q]
   .exact Α #[_,z']
 .obtain⟨o1,q1⟩:∃o1,s'.heap.get? b=Ã o1:=by
   ext Ät ho u z o0 z
   .exact lV (F.hok b u z)
   .exact F.un.there b o0 z Û
  have q2:=kp b o1 hb ho q1;have q':h'.get? b=ò:=q;ext è q' q2 q2;exact F.kb b o hb ho q1
#check 0
structure ExC(K:XY)Ĥ(bm:XG):Prop where
 cls:∀h,K.In h->∃nm q N bs hdct sn sub ab col dd k0 k1 k2 k3 k5 ni,Éz q ni
 exc:Ðw
theorem DO{s:XI}ē{Q:ű Bool}(hC:ExC K C bmC)(hT:ExC K T bmT)(hk:K.In s.heap)(he:Ġ e oe)(hcls:oe.cls=Æ C)(hq:Q (Æw C bmC T) s):Âi (Ā excMatches e (Ï T)):=by
 ext ãg;exists[nm',q',N',bs',hdct',sn',sub',ab',col',dd',k0',k1',k2',k3',k5',ni',oT],hT.cls _ hk;ext ÉP s;ext äY T bmT hT.exc
 have f:=tc_notTuple;unfold excMatches;generalize hr:(Á9 C bmC).contains (Value.ref T)=r at hq
 repeat(first|(with_reducible refine Xi he ? _;rw[hcls])|ext ÈS Xi oT|ext ÏS oT hcB|ext ÏS oC hr|wp_step)
 cases r<;>(first|exact hq|(wp_walk;exact hq))
def Cx.exc(ŵ e XJ):Cx:={ X with A:=X.A.mark (Ù e),calm:=false,xe:=Âp }
section
variable{X:Cx}{e:XJ}
theorem Inv.exc ç(e:XJ):Inv (X.exc e) XU Z ķ :=
 #[#[I.ok.mod,I.ok.kind,I.ok.glob,I.ok.blt,I.ok.above,I.ok.inj,I.ok.has,I.ok.cab,λ z=>(Ş z),I.ok.frames,I.ok.stk,I.ok.exf,I.ok.bs,I.ok.bsz,I.ok.noex,I.ok.exfs,I.ok.funs,I.ok.frf],I.os,I.bare,I.base,I.loc,I.cell,I.free,I.freeC,I.pin,I.hok,I.len]
theorem Inv.unexc(ok:X.Ok)(I:Inv (X.exc e) XU Z ķ):ï ķ:=ÎK ok I.base
#check 0
abbrev TH:=Ends->St->Ñ3
structure QH(Ŧ X Cx hs ExceptHandler)(th:TH):Prop where
 h:∀(XU:XD) (s0:XI) (H0:Hp) (Z:St) (D:Ends) (ea t:XH) (C:XJ) (B:Heap) (Ãz H' Hp dc XH) (s':XI),ï H0 s0->Fl X H0 H' s0 s' B->Ño Heap.FlyingW s'.heap->fZ s'.heap ea dc->th D Z C dc H' ->
  Á2 X.A (Ā handleBy ea X.env hs) (SP X XU D) X.xe s'
section
variable{X:Cx}
def Ut(tb:TSX)(th:TH):TS:=λ D Z H=>tb D Z H λ C dc H1=>th D Z C dc H1
theorem RW{st:Stmt}Ó4(hb:QSX X st tb)(hh:QH X (h0::hs) th):
  QS X (.Try [st] (h0::hs) [] ÂB) (Ut tb th):=by
 ext Ξ;ext ı D;refine wpAny_Try_except (wpAny_execs_cons (Z4 (hb.h XU s Z H D _ I h) (Ú f s1 q) (Ú e s1 x)))
 .cases f with
  |next=>exact wpAny_execs_nil (wpAny_execs_nil q)
  |brk=>ext ŷ
  |cont=>ext ŷ
  |ret v=>ext ŷ
 .exists[s0,H0,I0,ea,t,C,vs,B,H',dc,rfl,os,bare,un,hok,fly,tup,hBt,kb,dd,q],x;have F:Fl X H0 H' s0 s1 B:=#[os,bare,un,hok,kb]
  have fr:X.A.frames=Ã (X.env::X.outer):=Àq hst I.ok.frames
  rw[hst]at fly;refine âN h4 up4 dd4;exists Ëx,held;refine qe f1 f3 f4 dd4 (ŗ h5 k1 k2 k3 up5 dd5);have F5:=(F.move (tk:=s1.toks) I0 k1 (up4.trans up5))
  rw[<-hst]at k2;exact ÚS hh.h C F5 #[k1,f2,k2,k3] dd5 q
#check 0
abbrev VE:XG:=[.type "ValueError",.type "Exception",.type "BaseException",.type "object"]
def rh(K:XY)Ĥ:Prop:=ÛZ Ã none
structure ExcAt(K:XY)Ĥ(bm:XG):Prop where
 isIn:rh K C
 mro:Î0 C bm
 exc:Ðw
theorem ze ē(q:ExcAt K C bm)(X:K.In h):
  ∃nm qn N bs hdct sn sub ab col dd k0 k1 k2 k3 k5 mN,Éz qn "ValueError.__new__"/\h.Ns N mN/\ê mN "__init__"/\OwnTail h VE bm:=by
 ext Ûh;exact#[nm,qn,ns,bs,hd,sn,sub,ab,col,dd,k0,k1,k2,k3,k5,_,X Â ho,.of_isNs (isNs_of_in X ok),nsMap_none_of_in X ok ni,tail_of_in X ht]
theorem BF ē(q:ExcAt K C bm):ExC K C bm where
 cls:=Ý2 ze
 exc:=q.exc
theorem uq ē(q:ExcAt K C bm):ExCls K C where
 cls:=λ h X=>by exists[nm,qn,N,bs,hdct,sn,sub,ab,col,dd,k0,k1,k2,k3,k5,mN,e,e2,e3,e4],ze q X;exact#[nm,qn,N,bs,bm,hdct,sn,sub,ab,col,dd,k0,k1,k2,k3,k5,mN,e,e2,e3,(BF q).exc,e4]
structure ExK(ζ c XH):Prop where
 hc:ϗ clsIn K c=true
 hga:findIn K (Ï c) "__getattribute__" = some (ÈR "BaseException.__getattribute__")
 hgh:findIn K (Ï c) "__getattr__" = Ã none
 ha:findIn K (Ï c) "__class__" = some (ÈR "object.__class__")
 hb:mroIn K c (.type "BaseException")=Ã true
 hm:Ði mroIn c
def Uh(i:Int):Str:=Str.ofString (toString i)
section
variable{K:XY}
def M7(K:XY):V->Ä6:=λ x xs H Q=>∃(sep:Str) (p:XH) (ys:(Ä Str)),x=Î sep/\xs=ġ p/\SqL K H p (ys.map V.str)/\(ys.map (·.length)).sum+ys.length*sep.length<=16777216/\Q (Î (Txt.join sep ys)) H
theorem Fj:∀(δ ys Str us XG),Vals (ys.map V.str) us->StrsAre us ys
 | [],_,h=>by cases h;exact ė
 |y::ys,_,h=>by
  cases h with
  |cons r1 r2 =>ext ĭ t r1;exact .cons Â (Fj r2)
theorem Og:MtR X "str.join" (M7 X.K):=by ext Íi xs r;exists[sep,p,ys,rfl,rfl,hl,hz,q],h;ext ĭ t rx;ext Çe u ru r;exists[its,rv,pl,_],I.list hl;exact join_list pl.isList (by simpa using Fj rv) hz λ t' k=>#[Î _,Ãb,q]
theorem RE{apos cpos:Pos}Óm(hbase:ÂN o "join":=by rfl)Äc:
  QE X (Ãv (Âm "join" apos) [e]) (tBM X.K "str" (M7 X.K) to (fY te ip)):=by
 show Ùt #[GH PySem.F.plainAttrs_str PySem.F.slot_str_join PySem.F.type_str_join Og ho.h (EU he.h wj (hs:=h1)) (hbase:=hbase) (hfew:=? _) (hline:=hline) (hs:=h1) (hplain:=ό h2)]
theorem T8:QIx X RL:=#[Qm]
theorem QK:ßL QOp:=#[GG]
#check 0
theorem EB ē{a b:XH}ÌS(Ój SqT)(hb:∀i Z H,i<=xs.length->Pv i Z H->SqT K H b ys)(hl:xs.length=ys.length)(hs:∀k x y Z H,xs[k]?=Ã x->ys[k]?=Ã y->Pv k Z H->∀T,á T->ÔJ k ((Z.set i (Ù x)).set j (Ù y)) (ø T (Ò [x,y])))Çb :
  ∃W:Ç9,ÈZ/\∀k m Z H,W k m Z H ->
   ((Itz K a b xs ys).stop k H/\D.nx Z H)\/((Itz K a b xs ys).go k H/\∃N:À0,ËI k/\∀x H',(Itz K a b xs ys).yld k H x H'->qi K 2 (ÄD fW cC i cC j qh) ËD):=by
 ext Ë9 k Z xs.length hk pv;by_cases hlt:(À4 k)
 .refine .inr #[#[ãz hlt k],Ót k z];show þ [T,p,q,hT,hx,hy,rfl,rfl] y #[T,[p,q],rfl,XW ad,Ì p,[q],Ì q,[],î,hs k p q Z H hx hy pv T hT]
 .show Åg k xs.length #[#[ãz rfl _],hd Z H pv]
theorem Bz Ù1{g:TG}{te:TE}{Q:VK}(Pv:Nat->ÇP)(hz:N<=1000)(hn:∀i ys H,Pv i ys H->ys.length=i)ÍS ÛQ(ht:∀i ys H x H',i<N->Pv i ys H->J.yld i H x H'->∀A:VK,(∀v H4,Pv (i+1) (ys++[v]) H4->A v H4)->g x (cg n cap Z) H' λ σ2 H2=>te σ2 H2 A)(Ëi N):Ã7 g iH J:=by
 ext ßf
 .refine .inr #[hgo i ys H hlt pv,by rw[hn i ys H pv];exact ĥ bo,Ú x H' y];have k:=åB (Îf v N (ys++[v])) (ÏF v N);unfold iH;simpa using k
 .show Åg i N #[hst ys H pv,ÑV]
def cZ(z:Str)ÆU:Str:=if Ëj length=z.length then z else#[((Ëj filterMap) (z.cps[·]?)).toArray]
theorem KA(z:Str)ÆU:Âa cZ z lo hi<=z.length:=by
 unfold cZ;split
 .exact Zf _
 .show(List.filterMap Â).toArray.size<=_;rw[Zl];exact Zn (List.length_filterMap_le Â) (indices_len_le ì)
theorem KB{lo hi:Option Int}{c:Nat}(h:c∈(cZ z lo hi).cps.toList):c∈z.cps.toList:=by
 ext Ĝ cZ h;split at h
 .exact h
 .have h':c∈(Ëj filterMap) (z.cps[·]?):=h;exists[i,_,hi],Yn.mp h';have:=Array.mem_of_getElem? hi;ext ÃT
def KIn ÀR Ė(P:Þ α):KasT α->Prop
 |.ret a=>P a
 |.ask i j k=>i<n/\j<n/\∀b,KIn n P (k b)
theorem KIn.bind Ï0 à{P:Þ α}{R:Þ β}{f:α->KasT β}:∀{t:KasT α},KIn n P t->(∀a,P a->KIn n R (f a))->KIn n R (t.bind f)
 |.ret _,h,k=>k _ h
 |.ask ì,⟨h1,h2,h3⟩,k=>#[h1,h2,λ b=>KIn.bind (h3 b) k]
def POk(Â3 p XR):Prop:=p.Perm (Ŷ n toArray)
theorem POk.lt à(h:POk n p)(hn:0<n)À1:p.getD k 0<n:=by
 rw[Yo];cases e:p[k]? with
 |none=>exact hn
 |some x =>have hm:x∈p:=Array.mem_of_getElem? e;have:=(h.mem_iff).mp hm;ext ÃT
theorem POk.rev à àF:POk n (kas_rev p i j):=(mirror_perm p i j _).trans h
theorem POk.bub à àF:POk n (bubble p i j):=(bubble_perm p i j).trans h
theorem xH à Ëo:∀f k,KIn n (ę True) (kas_asc p f k)
 |0,_=>trivial
 | f+1,k=>#[h.lt hn _,h.lt hn _,λ c=>by
  cases c with
  |true=>exact trivial
  | false=>exact xH hn h f Ρ]
theorem qp à(hn:0<n):∀ÐI,POk n p->∀k q,KIn n (λ r=>POk n r.1) (kas_desc f p k q)
 |0,_,h,_,_=>h
 |f+1,p,h,k,q=>by
  refine Ðl c;cases c with
  |true =>
   show KIn n _ (if q>0 then _ else _);split
   .exact qp hn f (h.rev Â) Â
   .exact qp hn f h Â
  |false =>
   refine Ðl d;cases d with
   |true=>exact h
   |false=>exact qp hn f h Â
theorem BU à Ëo(k r:Nat):Ùv (kas_tail3 k r p):=KIn.bind (xH hn (h.rev 0 k) Â) λ _ _=>h.rev 0 k
theorem rA à Ëo(k r:Nat):Ùv (kas_descPart k r p):=KIn.bind (qp hn _ h Â) λ x hx=>by
 show KIn n _ (if Ð.2>0 then _ else _);split
 .exact BU hn (hx.rev Â) Â
 .exact BU hn hx Â
theorem IH à Ëo(r:Nat):Ùv (kas_count r p):=KIn.bind (xH hn h Â) λ k _=>by
 show KIn n _ (if Ą (k==r) then _ else if k>1 then _ else _);split
 .exact h
 .split
  .refine Ðl c;cases c with
   |true=>exact h
   |false=>exact rA hn (h.rev Â) Â
  .exact rA hn h Â
theorem rB à Ëo À1:∀f l r,KIn n (ę True) (kas_place p k f l r)
 |0,_,_=>trivial
 |f+1,l,r=>by
  show KIn n _ (if l>=r then _ else _);split
  .exact trivial
  .refine Ðl c;cases c with
   |true=>exact rB hn h k f Â
   |false=>exact rB hn h k f Â
theorem EH à(hn:0<n):∀ÐI,POk n p->∀k,KIn n (POk n) (kas_bin f p k)
 |0,_,h,_=>h
 |f+1,_,h,k=>KIn.bind (rB hn h k ì) λ _ _=>EH hn f (h.bub Â) Ρ
theorem BT à(hn:0<n):KIn n (POk n) (kas_sort n):=KIn.bind (IH hn (Array.Perm.refl _) _) λ r hr=>by
 show KIn n _ (if r.1<n then _ else _);split
 .exact EH hn _ hr _
 .exact hr
section
variable{X:Cx}
theorem HS ē Ìl ź:Æa "sum" (λ xs H Q=>∃(p:XH) (ns:XQ),xs=ġ p/\SqT K H p (ns.map V.int)/\Q (Í ns.sum) H):=by
 subst hK;ext Ξ;show Òu [p,ns,rfl,hS,q] [u,rfl,ru] bZ ru;show Ž [its,rv,pl,hz] I.tuple hS [ys,e1,e2] vD (cO rv);have hl:s.heap.IsTuple p (intItems ys.toArray):=by exists[o,ho,hc',n,hd],pl;rw[e1]at hd;exact#[o,ho,hc',n,by ext Åv intItems hd]
 refine ktm_sumG (I.ok.hd hc) hl λ h' tk t' hk=>#[Í ns.sum,H,Ðy hk,ÁI t',q]
 have e:preSum (numAt ys.toArray) ys.toArray.size=ns.sum:=by rw[preSum_eq,Yt Û,e2]
 rw[e]
theorem MX:QOp Ùo RO:=#[Q2]
theorem nI ē Ìl:ų QOp In (rIn K false):=by show Âb hK #[Jh]
#check 0
theorem rv1{a n j:Nat}(h:a<=j)(f:j<n):a<=a+n-1-j/\a+n-1-j<n:=∅
theorem rv2{a n i j:Nat}(g:i<j)(f:j<n):a+n-1-j<a+n-1-i:=(by exact ĵ åE g Ŝ (Nat.add_le_of_le_sub (ŝ (Àb (Ñ (š 3 2) (ã 1) .z)) Ŭ f Ŝ) (Nat.le_refl _)))
def KW ÀR(lt:XS)(Q:Þ α):KasT α->Prop
 |.ret a=>Q a
 |.ask i j k=>KW lt Q (k (lt i j))
theorem KW.bind Ï0{lt:XS}{Q:Þ β}{f:α->KasT β}:∀{t:KasT α},KW lt (λ a=>KW lt Q (f a)) t->KW lt Q (t.bind f)
 |.ret _,h=>h
 |.ask i j k,h=>KW.bind (t:=k (lt i j)) h
theorem KW.mono ÀR{lt:XS}{Q R:Þ α}(k:∀a,Q a->R a):∀{t:KasT α},KW lt Q t->KW lt R t
 |.ret _,h=>k _ h
 |.ask i j c,h=>KW.mono k (t:=c (lt i j)) h
structure LtOk(lt:XS):Prop where
 as:∀{a b},Ď lt a b->Ņ lt b a
 tr:∀{a b c},Ņ lt b a->Ņ lt c b->Ņ lt c a
def gA(p:XR)À1:Nat:=p.getD k 0
def Lx(lt:XS)(a b:Nat):Prop:=Ņ lt b a/\(Ď lt a b\/a<b)
section
variable{lt:XS}(O:LtOk lt)
include O
theorem LtOk.lt_le{a b c:Nat}(h:Ď lt a b)(h2:Ņ lt c b):Ď lt a c:=by
 cases e:lt a c with
 |true=>rfl
 |false=>rw[O.tr h2 e]at h;cases h
theorem LtOk.le_lt{a b c:Nat}(h:Ņ lt b a)(h2:Ď lt b c):Ď lt a c:=by
 cases e:lt a c with
 |true=>rfl
 |false=>rw[O.tr e h]at h2;cases h2
theorem Lx.trans{a b c:Nat}(h:Lx lt a b)(k:Lx lt b c):Lx lt a c:=by
 refine#[O.tr h.1 k.1,? _];rcases h.2 with x|x
 .exact Α (O.lt_le x k.1)
 .rcases k.2 with y|y
  show Ùr (O.le_lt h.1 y) (Nat.lt_trans x y)
theorem Lx.of_lt(ş a b)(h:Ď lt a b):Lx lt a b:=#[O.as h,Ó h]
#check 0
structure Fx(Ŏ N p XR)(m:Nat):Prop where
 sz:p.size=N
 hi:∀k,m<=k->k<N->gA p k=k
 lo:∀i,i<m->gA p i<m
def LS(lt:XS)(p:XR)(m:Nat):Prop:=ÍB m p i j
def AS(lt:XS)(p:XR)(m:Nat):Prop:=ÍB m p j i
theorem Fx.succ{N:Nat}{m:Nat}(h:Fx N p m)(hm:m<N):Fx N p (m+1):=#[h.sz,λ k h1 h2=>h.hi k (by exact â Ç Èi h1) h2,λ i hi=>by
 ext Ât YO i m h1
 .have:=h.lo i h1;exact ÇX (ã 0) this
 .ext Ðu i m hi h1;rw[h.hi i (Zf _) hm];omega]
theorem fK{p:XR}{i j k:Nat}(hj:j<=p.size):gA (kas_rev p i j) k=if i<=k/\k<j then gA p (i+j-1-k)else gA p k:=by
 unfold gA kas_rev;rw[Yo,getElem?_mirror_all hj];split
 .rw[Yo]
 .rw[Yo]
theorem vA(p:XR)À1:gA p k=(p[k]?).getD 0:=ÀL ğ gA Yo
theorem Qa{p:XR}{k d i:Nat}(hk:k<p.size)(hd:d<=k):gA (bubble p k d) i=if i=k-d then gA p k else if k-d<i/\i<=k then gA p (i-1)else gA p i:=by
 rw[vA,getElem?_bubble hk d hd];split
 .rw[vA]
 .split
  .rw[vA]
  .rw[vA]
theorem Fx.rev{N:Nat}{m i j:Nat}(h:Fx N p m)(hj:j<=m)(hm:m<=N):Fx N (kas_rev p i j) m:=by
 have hs:j<=p.size:=by rw[h.sz];exact ŝ (ū Ê (ć Ç Ô)) æ hm hj
 refine#[Ă kas_rev_size h.sz,Ú k h1 h2,Ø k hk]
 .rw[fK hs,XB (ÁU (Àd (ĝ Ć Ê (ĝ Ô Ç (Ë4 1 2 .z))) æ θ q.2 h1 hj))];exact h.hi k h1 h2
 .rw[fK hs];split
  .exact h.lo _ ∅
  .exact h.lo _ hk
section
variable{lt:XS}(O:LtOk lt){N:Nat}
include O
theorem LS.step{p:XR}à(h:LS lt p n)(hx:Lx lt È1 (gA p n))(h1:1<=n):LS lt p (n+1):=λ i j hij hj=>by
 ext Ât YO j n h2
 .exact h i j hij h2
 .ext Ðu j n hj h2;rcases ÏD j with h3|h3
  .exact(h i (j-1) h3 (Àz Èa (Éa h1))).trans O hx
  .ext Ø3 j hij h3;exact hx
theorem BW:∀(f n:Nat),1<=n->n+f<=N->Fx N p n->LS lt p n->KW lt (λ m=>n<=m/\m<=n+f/\Fx N p m/\LS lt p m/\(m<n+f->Åi m m)) (kas_asc p f n)
 |0,n,_,_,hf,hs=>#[Zf _,Zf _,hf,hs,ÅE h h (Ãq (ËR (ť ĝ 0 (À9 0 č) .z) q))]
 |f+1,n,h1,hN,hf,hs=>by
  show KW lt _ (if Åi n n then .ret n else kas_asc p f (n+1));by_cases c:(Åi n n)
  .rw[XC c];exact#[Zf _,(by exact ÇW (À9 0 (Ų a 1)) .z Âx),hf,hs,ę c]
  .ext ÍV c c';have hx:Lx lt È1 (gA p n):=#[c',ā (by rw[ßB];exact hf.lo _ (by exact Èa (Éa h1)))]
   refine KW.mono (ÇN hm) (BW f (n+1) (by exact ËT Ć Ζ) ØE (hs.step O hx h1));exact#[ÖZ hm,hm.2.2.2.1,λ z=>hm.2.2.2.2 (by exact ĵ ÎA (ć (ã 0) (ÃQ 1 (ã 2))) æ z)]
theorem AS.rev à(h:AS lt p n)(hn:n<=p.size):LS lt (kas_rev p 0 n) n:=λ i j hij hj=>by rw[fK hn,fK hn,ĥ XC,ĥ XC];exact h Â (ÅT ĵ åE hij Ŝ (Nat.add_le_of_le_sub (â Ç Ê (Àb (ć (Ão 2) (ã 1))) æ hj Ŝ) (Nat.le_refl _))) (by exact ĵ Ê (Ñ Ç Ô (ć (ã 2) (Ão 1))) æ Æ5 (Nat.add_le_of_le_sub (â đ (Ão 0) (Ñ (ã 1) Ç Íl) æ hj hij) (Nat.le_refl _)))
theorem EJ à(h1:1<=n)(hN:n<=N)(hf:Fx N p n)(ha:AS lt p n):Ôi (kas_tail3 n N p):=by refine KW.bind (KW.mono (ÇN hm) (BW O (N:=N) (N-n) n h1 (by exact â ÀJ Ô (Ñ (š 1 0) Ô .z) æ (Ée hN)) (hf.rev (Zf _) hN) (ha.rev O (Ă hf.sz hN))));exact#[(by exact ŝ (Ñ Ç (š 2 3) (ÇK (š 3 2))) Ŭ hm.2.1 (Ée hN)),(by exact â đ Ç (Ñ Ê Ç (ÇK đ)) ď hm.1 h1),hm.2.2.1,hm.2.2.2.1]
structure Dn(lt:XS)(p:XR)(n q:Nat):Prop where
 hq:q+1<=n
 up:ÍB Å8 p j i
 cr:∀i j,i<Å8->Å8<=j->j<n->Ân j i=true
 eq:∀i j,Å8<=i->i<j->j<n->Ņ Ân i j/\Ņ Ân j i/\gA p i<gA p j
theorem Dn.rev(ş n q)(h:Dn lt p n q)(hn:n<=p.size):AS lt (Ðs n) n:=λ i j hij hj=>by
 have up:=h.up;have cr:=h.cr;have eq:=h.eq;have hi:=Nat.lt_trans hij hj;rw[fK hn,fK hn];generalize Å8=a at up cr eq ⊢;by_cases c1:a<=i
 .have c3:=Zn c1 (Xo hij);rw[XC (by exact#[Å9,Å9]),XC (by exact#[Å9,Å9])];exists[e1,e2,e3],eq Â (rv1 c3 hj).1 (rv2 (a:=a) hij hj) (rv1 c1 hi).2;exact#[e2,ā e3]
 .rw[XB (show¬(a<=i/\i<n)from λ z=>c1 z.1)];by_cases c2:a<=j
  .rw[XC #[c2,hj]];exact Lx.of_lt O (cr Â (Nat.lt_of_not_le c1) (rv1 c2 hj).1 (rv1 c2 hj).2)
  .rw[XB (λ z=>c2 z.1)];exact up Â hij (Nat.lt_of_not_le c2)
theorem Dn.zero à(h:Dn lt p ÁM):AS lt p n:=λ i j hij hj=>by
 show Ât YO j (n-1) c
 .exact h.up i j hij c
 .exact Lx.of_lt O (h.cr i j (by exact ĵ Ê (Ñ ÈC (Àb (ÁE ć (ã 1)))) Ŭ hj hij Ŝ) ∅ hj)
theorem Dn.start à(h:AS lt p n)(h1:1<=n)(hl:Åi n n):Dn lt p (n+1) 0:=by
 refine#[ÖX,λ i j hij hj=>h i j hij (by exact ĵ Ê (Àb (ć (ÃQ 2 (Ñy)) (ã 1))) æ hj (Nat.add_le_of_le_sub (ÂY Âc Ć Ζ) (Nat.le_refl _))),Ķ i j hi h2 h3,λ i j h2 h3 h4=>absurd h3 (ÁU (Àd (ĝ Ć Ê (ť ĝ 1 (Ų a 2) (ÁE ĝ Ç (ť ĝ 2 (À9 3 Âc) .z)))) [_,_,_,_] θ q h4 h2 Ŝ))];have e:j=n:=áG h3 (â Ç Ê (ū Ê (ć (ã 0) (ÃQ 2 (Ñy)))) æ h2 Ŝ)
 ext Ļ;rcases ÏD j with h3|h3
 .exact O.lt_le hl (h i (j-1) h3 (Àz Èa (Éa h1))).1
 .have e:i=j-1:=ϔ (â Ç Ê (ÁE ū (Àb (ÁE ć (ã 1)))) [_,_,_,_] h2 hi Ŝ) (Ád ϊ h3)
  ext Ļ;exact hl
theorem sV:∀ÐI (ş n q),n+f<=N->Fx N p n->Dn lt p n q->KW lt (λ r=>n<=ĳ/\ĳ<=n+f/\ÙE) (kas_desc f p n q)
 |0,_,n,_,_,hf,hd=>#[Zf _,Zf _,hf,hd]
 |f+1,p,n,q,hN,hf,hd=>by
  have hs:n<=p.size:=ÄL hf.sz ÝD hN
  have hq:=hd.hq;show KW lt _ (if Åi n n then(if q>0 then kas_desc f (Ðs n) (n+1) 0 else kas_desc f p (n+1) 0)else KasT.ask È1 (gA p n) λ d=>if Ą d then .ret (p,n,q)else kas_desc f p (n+1) (q+1));by_cases c:(Åi n n)
  .rw[XC c];have wk:∀{r:XR×Nat×Nat},(n+1<=ĳ/\ĳ<=n+1+f/\ÙE)->n<=ĳ/\ĳ<=n+(f+1)/\ÙE:=λ h=>#[ÖZ h,h.2.2.2]
   by_cases cq:q>0
   .rw[XC cq];have fr:=hf.rev (i:=Å8) (Zf n) (Àz ÝD hN);have e1:gA (Ðs n) n=gA p n:=by rw[fK hs,XB (Ãq (ËR (ť ĝ 0 ÂE) q.2))]
    have e2:gA (Ðs n) (n-1)=gA p (Å8):=by have n1:=Zn (y7 (ZA q)) hq;rw[fK hs,XC #[Nat.sub_le_sub_left (y7 (ZA q)) n,Nat.sub_lt n1 Nat.one_pos],Nat.add_sub_assoc n1,Nat.add_sub_cancel]
    have l2:Ď lt (gA p n) (gA p (n-(q+1))):=O.lt_le c (hd.eq (Å8) (n-1) (Zf _) (by exact ĵ Ê (Åq Ñ 0 Ô (ÁE Ñ (ã 1) (ÎJ 2 a 3))) Ŭ cq Ŝ (ÉG hq)) (Çx (Nat.add_le_of_le_sub (â đ Ç (Ñ (ι n 0 n 1) Ê (ć (ã 1) Ç)) ď cq hq) (Nat.le_refl _)))).1;refine KW.mono (λ r h=>wk h) (sV f ÚZ (fr.succ (Çs hN)) (Dn.start O (hd.rev O hs) (by exact â đ Ç (Åq Ñ 0 Ê (ć (ã 1) Ç)) ď cq hq) (Êw e1 e2 l2)))
   .rw[XB cq];show â0 q (ϙ 0 (ć Ç č) [_] (Nat.le_of_not_lt cq));exact KW.mono (λ r h=>wk h) (sV f ØE (Dn.start O (hd.zero O) ∅ c))
  .ext ÍV c c';show ål (if Ď lt (gA p (n-1)) (gA p n) then _ else _) d (Ď lt (gA p (n-1)) (gA p n)) #[Zf _,YN Â,hf,hd]
   .ext ÍV d d';have gn:gA p n=n:=ßB;have same:∀i,Å8<=i->i<n->Ņ Ân i n/\Ņ Ân n i:=λ i h1 h2=>by
     rcases ÏD n with h3|h3
     .exists[a1,a2,_],hd.eq i (n-1) h1 h3 (Àz Èa (Éd h2));exact#[O.tr d' a1,O.tr a2 c']
     .ext Ø3 n h2 h3;exact#[d',c']
    refine KW.mono (λ r h=>#[ÖZ h,h.2.2.2]) (sV f (n:=n+1) (q:=q+1) ØE #[(by exact ÇX (Åj đ) hq),λ i j hij hj=>hd.up i j hij (ÓQ hj),Ķ i j hi h2 h3,Ķ i j h1 h2 h3])
    .ext Ât YO j n h4
     .exact hd.cr i j (ÓQ hi) (ÓZ h2) h4
     .ext Ðu j n h3 h4;exact O.le_lt d' (hd.cr i (j-1) (ÓQ hi) (by exact ŝ (ū (ã 1) (ÕZ 3 Ô)) Ŭ Ŝ (ÉG hq)) (Àz Èa (Éd hq)))
    .ext Ât YO j n h4
     .exact hd.eq i j (ÓZ h1) h2 h4
     .ext Ðu j n h3 h4;exists[a1,a2],same i (ÓZ h1) h2;exact#[a1,a2,Ä7 gn hf.lo _ h2]
theorem tR à(h1:1<=n)(hN:n<N)(hf:Fx N p n)(ha:AS lt p n)(hl:Åi n n):Ôi (kas_descPart n N p):=by
 refine KW.bind (KW.mono (Ø r hr) (sV O (N:=N) (N-(n+1)) (by exact â (Åj Ê) Ô (ć (ÃQ 1 (ã 0)) Ô) æ (ÉG hN)) (hf.succ hN) (Dn.start O ha h1 hl)));show å9 (if ÃJ>0 then _ else _);by_cases c:ÃJ>0
 .rw[XC c];exact EJ O (ÚD) (by exact Îc) (r3.rev (Zf _) (by exact Îc)) (r4.rev O (by rw[r3.sz];exact Îc))
 .rw[XB c];have e:ÃJ=0:=ϔ (ϙ 0 (ć Ç č) [_] (Nat.le_of_not_lt c)) ÙR
  rw[e]at r4;exact EJ O (ÚD) (by exact Îc) r3 (r4.zero O)
theorem KY(hN:1<=N)(hf:Fx N p 1):Ôi (kas_count N p):=by
 refine KW.bind (KW.mono (Ø n hn) (BW O (N:=N) (N-1) 1 (Zf _) (by exact â (ι n 1 a 0) Èi (Éa hN)) hf âK));exists[n1,n2,nf,ns,nl],hn;show KW lt _ (if Ą (n==N) then KasT.ret (n,p)else if n>1 then KasT.ask (gA p 0) È1 (λ c=>if Ą c then .ret (n,p)else kas_descPart n N (kas_rev p 0 n))else kas_descPart n N p);show å c (n==N) true
 .rw[XC c];exact#[(by exact â Ç Ê (Ñ Ç (ι n 1 a 2) Íl) æ n2 (Éa hN)),n1,nf,ns]
 .rw[XB c];have nN:n<N:=by have:n≠N:=ÃF c Ym.mpr;omega
  have hl:=nl (by exact ĵ (ι n 1 a 1) ÕE nN Ŝ);by_cases c2:n>1
  .rw[XC c2];show ål (if Åi 0 n then _ else _) c3 (Åi 0 n) #[∅,n1,nf,ns]
   .ext ÍV c3 c3';have hs:n<=p.size:=Ż nf.sz
    have le0:∀i,i<n->Ņ Ân i 0:=λ i hi=>by
     rcases Nat.eq_zero_or_pos i with z|z
     .subst z;cases e:Ân 0 0 with
      |false=>rfl
      |true=>ext ώ O.as e e
     .exact(ns 0 i z hi).1
    have leN:∀i,i<n->Ņ lt È1 (gA p i):=λ i hi=>by
     rcases ÏD n with z|z
     .exact(ns i (n-1) z â7).1
     .ext Ø3 n hi z;cases e:lt È1 È1 with
      |false=>rfl
      |true=>ext ώ O.as e e
    have all:∀i j,i<n->j<n->Ņ Ân i j:=λ i j hi hj=>O.tr (leN j hj) (O.tr c3' (le0 i hi));refine tR O n1 nN (nf.rev (Zf _) ∅) (Č i j hij hj) ? _
    .have hi:=Nat.lt_trans hij hj;have i0:=(rv1 (ZA i) hi).2;have j0:=(rv1 (ZA j) hj).2;rw[fK hs,fK hs,XC #[ZA _,Å9],XC #[ZA _,Å9]];have z:=ns (0+n-1-j) (0+n-1-i) (rv2 hij hj) i0;refine#[all Â Å9 Å9,? _];rcases z.2 with y|y
     .rw[all Â Å9 Å9]at y;cases y
     .ext ſ y
    .rw[fK hs,fK hs,XB (Ãq (ËR (ť ĝ 0 ÂE) q.2)),ĥ XC];exact O.lt_le hl (all Â (by exact ĵ Ê (Åq Ñ 1 Ê (Ñ Ê (ã 2) (Ñ (ã 3) (Ão 1) (Ï9 0 2 3)))) Ŭ c2 Ŝ (Nat.add_le_of_le_sub (â đ (Ão 0) (Åq ć 1 Ç) [_] c2) (Nat.le_refl _)) (Nat.add_le_of_le_sub (â Ç Ê (Ñ (Ão 2) (ã 1) (Àb .z)) æ Ŝ (Nat.add_le_of_le_sub (â đ Ç (Åq ć 1 Ç) [_] c2) (Nat.le_refl _))) (Nat.le_refl _))) â7)
  .rw[XB c2];have e:n=1:=ϔ (ϙ 1 (Ì0 1) [_] (Nat.le_of_not_lt c2)) (â (.n 1) Ç (ć (.n 1) Ç) [_] n1)
   ext Ļ;exact tR O n1 nN nf âK hl
theorem uu ĉ(hs:LS lt p k):∀(f l r:Nat),r-l<=f->r<=k->(∀i,i<l->i<k->Ņ Ân k i)->(∀i,r<=i->i<k->Ân k i=true)->l<=r ->
  KW lt (λ m=>m<=k/\(∀i,i<m->Ņ Ân k i)/\∀i,m<=i->i<k->Ân k i=true) (kas_place p k f l r)
 |0,l,r,h1,h2,h3,h4,h5=>#[(by exact ŝ (Ñ Ç Ô ÅF) æ h5 h2),λ i hi=>h3 i hi ÛS,λ i hi=>h4 i (ÇL ŝ (ū Ê (ÆK ÁM Õi)) Ŭ hi h1 Ŝ)]
 |f+1,l,r,h1,h2,h3,h4,h5=>by
  show KW lt _ (if l>=r then KasT.ret l else KasT.ask (gA p k) (gA p ((l+r) / 2)) λ c=>if Ą c then kas_place p k f l ((l+r) / 2)else kas_place p k f ((l+r) / 2+1) r);by_cases c:l>=r
  .rw[XC c];exact#[(by exact ŝ (Ñ Ç Ô ÅF) æ h5 h2),λ i hi=>h3 i hi ÛS,λ i hi=>h4 i (by exact ŝ (ū Ê (ć Ç Ô)) æ hi c)]
  .rw[XB c];have lm:l<=(l+r) / 2:=∅
   have mr:(l+r) / 2<r:=∅
   generalize(l+r) / 2=m at lm mr ⊢;show KW lt _ (if Ân k m=true then _ else _);by_cases d:Ân k m=true
   .rw[XC d];refine uu hs f l m (by exact ŝ (Ñ ÈC (Ñ (.a 4) (ã 1) (ÁE Ñ (š 4 5) (Ñ (š 0 5) Ô .z)))) [_,_,_,_,_,_] mr h1 Ŝ (Ée lm)) (Zn (Xo mr) h2) h3 (Ú i hi hk) lm;rcases Nat.eq_or_lt_of_le hi with e|e
    .rw[<-e];exact d
    .exact O.lt_le d (hs ŋ hk).1
   .ext ÍV d d';refine uu hs f (m+1) r (by exact ŝ (ÁE ū (Ñ (.a 4) (ã 1) (Ñ (.a 5) (š 4 2) (ÝQ 3 5)))) [_,_,_,_,_,_] lm h1 Ŝ (ÉG mr)) h2 (Ú i hi hk) h4 mr;ext Ât YO i m e
    .exact O.tr (hs ŋ (ZI mr h2)).1 d'
    .have e:i=m:=Nat.le_antisymm (Nat.le_of_lt_succ hi) e;ext Œ e d'
theorem II:∀ÐI ĉ,k+f=N->1<=k->Fx N p k->LS lt p k->KW lt (λ p=>p.size=N/\LS lt p N) (kas_bin f p k)
 |0,p,k,e,_,hf,hs=>by
  have:k=N:=ϔ (Ád (ÇK (ι a 0 n 0)) (Nat.le_of_eq e)) (Ád (ć Ç (ι a 1 n 0)) (Nat.le_of_eq e.symm))
  show Âb this #[hf.sz,hs]
 |f+1,p,k,e,h1,hf,hs=>by
  refine KW.bind (KW.mono (ÇN hm) (uu O hs k 0 k (by show Ê0 Æ5) (Zf _) (λ i hi=>absurd hi (Ãq (ËR (ť ĝ 0 č .z) q))) (λ i h2 h3=>absurd h2 (ÁU (Àd (ĝ Ç Ê (ť ĝ 1 ÂE)) Âx q h3))) (ZA _)));exists[m1,m2,m3],hm;have hk:k<p.size:=by rw[hf.sz];exact ĵ Ê Ôr (Nat.le_of_eq e)
  have gk:gA p k=k:=hf.hi k (Zf _) (Çs (Nat.le_of_eq e));have ekm:k-(k-m)=m:=ϔ (â Ç Ê (ū (š 3 1) (Ñ (š 0 3) Ô .z)) [_,_,_,_] Ŝ (Nat.add_le_of_le_sub (Ád ϊ Æ5) (Nat.le_refl _))) (â Ç Ê (ū (š 1 3) (Ñ (š 3 0) Ô .z)) [_,_,_,_] Ŝ (Nat.add_le_of_le_sub (Ád ϊ m1) (Nat.le_refl _)))
  have gb:∀i,gA (bubble p k (k-m)) i=if i=m then gA p k else if m<i/\i<=k then gA p (i-1)else gA p i:=λ i=>by rw[Qa hk (by show Ê0 Æ5),ekm]
  refine II f (ϔ (â (Åj Ê) Ô (ÕZ 1 Ô) æ (Nat.le_of_eq e)) (â Ç (.p (ã 1) Ô) (ć Éj) æ (Nat.le_of_eq e.symm))) (by exact ËT Ć Ζ) #[Ă bubble_size hf.sz,Ú i h2 h3,Ø i hi] (Č i j hij hj)
  .rw[gb,XB (ÁU (åw (ĝ Ç Ê (ť ĝ 2 Ç (Ë4 1 2 .z))) h2 m1)),XB (ÁU (Àd (ĝ Ç Ê (ť ĝ 1 ÂE)) Âx q.2 h2))];exact hf.hi i (by exact â Ç Èi h2) h3
  .rw[gb];split
   .rw[gk];omega
   .split
    .have:=hf.lo (i-1) ∅;exact ÇX (ã 0) this
    .have:=hf.lo i ∅;exact ÇX (ã 0) this
  .have lk:∀i,i<m->ÐJ p i p k:=λ i hi=>#[m2 i hi,ā (Ä7 gk hf.lo i (by exact Úg hi m1))]
   have gt:∀i,m<=i->i<k->ÐJ p k p i:=λ i h2 h3=>Lx.of_lt O (m3 i h2 h3);rw[gb,gb];ext å a1 i m
   .rw[XC a1,XB (ÁU (åw (ĝ Ç Ê (Ë4 1 2 (ť ĝ 2 ÂE))) (Nat.le_of_eq a1.symm) hij)),ĥ XC];exact gt _ (by exact ŝ (Ñ Ç Ô (Ñ ÈC (ÁE ć (ã 1)))) Ŭ (Nat.le_of_eq a1.symm) hij Ŝ) (ÇL ĵ Ê (Ñ (ã 2) (ã 1) (Àb .z)) æ hj (Éd hij))
   .rw[XB a1];by_cases a2:m<i/\i<=k
    .rw[XC a2,XB (ÁU (Àd (ĝ Ç Ê (ť ĝ 1 Ô (ť ĝ 2 ÂE))) æ θ (Nat.le_of_eq q) a2.1 hij)),ĥ XC];exact hs Â (by exact ĵ Ê (Ñ ÈC (ÁE Ñ (ã 1) (Àb .z))) Ŭ hij Ŝ (Nat.add_le_of_le_sub (â đ Ç (ć (ã 1) Ç) ď a2.1) (Nat.le_refl _))) (by exact ĵ Ê (Ñ (ã 2) (ã 1) (Àb .z)) æ hj (Nat.add_le_of_le_sub (â đ Ç (Ñ (ã 1) Ô (ć (ã 2) Ç)) æ a2.1 hij) (Nat.le_refl _)))
    .rw[XB a2];ext å b1 j m
     .rw[XC b1];exact lk i (by exact Ö5 b1 hij)
     .rw[XB b1];by_cases b2:m<j/\j<=k
      .rw[XC b2];exact hs Â ∅ (by exact ĵ Ê (ū Ê (Àb .z)) æ b2.2 (Éd hij))
      .rw[XB b2];exact hs Â hij ∅
theorem EI(hN:1<=N):KW lt (λ p=>p.size=N/\LS lt p N) (kas_sort N):=by
 have f0:Fx N (List.toArray (List.range N)) 1:=by
  have g:∀k,k<N->gA (List.toArray (List.range N)) k=k:=λ k hk=>by rw[vA];simp[hk]
  refine#[Ĵ,λ k _ hk=>g k hk,Ø i hi];show â0 i (ϙ 0 (ć (ã 0) (.n 1)) [_] hi);rw[g 0 (by exact Åq â 0 Ç (ć đ Ç) [_] hN)];decide
 refine KW.bind (KW.mono (Ø r hr) (KY O hN f0));show å9 (if r.1<N then kas_bin (N-max r.1 1) r.2 (max r.1 1)else .ret r.2);have e:max r.1 1=r.1:=∅
 rw[e];by_cases c:r.1<N
 .rw[XC c];exact II O _ (ϔ (â ÀJ Ô (Ñ (š 1 0) Ô .z) æ (Nat.add_le_of_le_sub (â Ç Èi c) (Nat.le_refl _))) (Ès (Ð5 Ç) æ Ŝ)) r2 r3 r4
 .rw[XB c];have e:r.1=N:=∅
  rw[e]at r3 r4;exact#[r3.sz,r4]
#check 0
def Ite(K:XY)Ō ÀT:It :=
 áD SqL
abbrev eTn(e it a:XH):Nat->Þ Heap:=λ i h=>(∃old,IsEnum h e it i old)/\h.IsListIter it a i
theorem J7 ē Ý3:
  Turn P w K Äk (Ite K a xs) [e,it] e (eTn e it a):=by
 refine#[Ĵ,Ķ i h st c hc,Öa k,Χ,Áp A i s Q E st h]
 .obtain⟨⟨old,e1⟩,⟨o4,e4,_,d4⟩⟩:=st;ext Äb hc
  show ÀI #[_,e1,Á0 v z] Ùw
 ext ßs
 .ext ác I.list Draws.list px.isList
  refine àz
  .exact æ1
  .rw[ah]
   .exact(hf c hc).1
   .obtain⟨o,eo⟩:∃o,Ġ c o:=by
     ext å1
    exact Zz (Zr eo)
 .ext ãI I.list Draws.list px.isList
 ext åa
def MJ(ζ ta TA):TI:=λ Z H R=>ta Z H λ vs H1=>∃a xs,vs=ġ a/\ĺ H1 a xs/\R (Ite K a xs) H1
section
variable{X:Cx}
theorem OI ÜX Öh:Ñ1 PI MJ:=by
 ext ı R;refine Call_ (ÓS boot_enumerate);ext ÕN;exists[z,its,n,rx,hl',eo],I1.lstM hx;ext àk call_enumerate_1 eo;refine Ût eTn J7;have hc':s1.heap.objs.size<=c:=by
  ext Äb hc
  show Áj YQ _ Zf _
 exact I1.fpOk hc' (I1.hok.fresh hc')
theorem IA{kt:Nat}Þy ÜO:Ñ1 QI MJ:=#[OI hg hm ha.h n1]
#check 0
theorem BH ē{a:XH}Ác(Ój SqL)(hs:âY)Çb :
  ∃W:Ç9,ÈZ/\∀k m Z H,W k m Z H ->
   (ÕF Ite/\D.nx Z H)\/ÓW Ite:=by
 ext á0
theorem xG ÀR à{lt:XS}{P R:Þ α}{cmp:Nat->Nat->(ű Bool)->Þ XI}{Q:ű α}{s:XI}(hc:∀i j C,i<n->j<n->C (lt i j) s->cmp i j C s)(hq:∀a,P a->R a->Q a s):∀{t:KasT α},KIn n P t->KW lt R t->t.kasWp cmp Q s
 |.ret _,h,k=>hq _ h k
 |.ask i j c,⟨h1,h2,h3⟩,k=>hc ì h1 h2 (xG hc hq (t:=c (lt i j)) (h3 _) k)
section
variable{X:Cx}{XU:XD}{Z:St}{H:Hp}{s:XI}{h':Heap}
theorem Inv.movedF(δ ch XH t' Nat)ç ÚW:Ã1 ï H t':=by
 ext Öt;have neC:∀ÏY,H b=Ã u->b∉ch:=fun{b u} e z=>by have:=(hch b z).1;ext ÁN e
 refine Ûj (λ b o _ e n=>n) (ÀG hc e)
  (λ b xs e=>e) (λ b o u e=>e) (λ b ps e=>#[Ů,ÇR e]) Ùa
 .show Ùu #[o,k b o hL hc e]
 ext Õ9
 .refine Ð4 I.hok e (λ c v hc q=>k c v Ĳ q) (λ c q=>q) λ c ys q=>q
  .ext Éf neL
  .ext Éf neC
theorem Inv.tookF(δ ch XH a XH){o:HO}{t':Nat}ç(ha:a∈ch)ÚW(Ì8 a o):Í6 a o:=by
 have fr:=(hch a ha).1;ext ÎE ne H a fr;ext Öt;have neC:∀ÏY,H b=Ã u->b∉ch:=fun{b u} e z=>by have:=(hch b z).1;ext ÁN e
 refine Ûj (λ b o hc e n=>Áf ah (λ z:b=a=>hc (Ă z ha)) n) (ÀG hc e)
  ßE Ùa
 .show Ùu #[o,k b o hL hc e]
 ext Õ9
 .ext ÑI a e
  .rw[ah hb]at e;refine Ôq I.hok (λ c v hc q=>k c v Ĳ q)
   .ext Éf neL
   .ext Éf neC
def lC(base h:Heap)(L kS:XH):XD:=(wC base h L).filter (ÀF p (p.1≠kS))
theorem md(Üa kS):News base L h ((kS,o)::lC base h L kS):=λ p hp=>by
 show Äu hp #[e,hL,hb]
 .exact oy base h L p (ZS.mp hp).1
theorem qD:∀p∈lC base h L kS,p.1≠kS:=λ p hp=>Z5 (ZS.mp hp).2
theorem ma{base h h2:Heap}(hbk:ÐW base.get? h.get?)(F:Fr base L h2 m)(N:News base L h2 ((kS,o')::lC base h L kS)):∀b u,ō L->b∉[kS]->ÀC h.get? u h2.get?:=λ b u hL hk e=>by
 cases q:base.get? b with
 |none=>exact(N (b,u) (.tail _ (ZS.mpr #[fF e hL q,decide_eq_true (ÃF hk Zg.mpr)]))).1
 |some o =>ext Ñl hbk o q e F.keep u
structure SK(Ón XQ)(as:Ä XH)(e:Nat)Ë(s:XI):Prop where
 I:ï ķ
 sm:Same H1 H
 fk:cE X XU H kS
 fd:cE X XU H D
 bk:ê X.base.get? kS
 bd:ê X.base.get? D
 hk:Į s.heap.get? kS (Ào (List.toArray (as.map Value.ref)) e)
 hd:Ġ D (ÂS e1)
 ns:s.heap.Ns X.env.locals m
 keys:∀Ø7,ÞC
#check 0
theorem B7:∀{a b:XQ},Ď HT.lexLt a b->Ņ HT.lexLt b a
 | [],[],h=>ÁF h
 | [],Δ,_=>rfl
 |Δ,[],h=>ÁF h
 |x::a,y::b,h=>by
  rw[HT.lexLt_cons]at h ⊢;ext å e x y
  .ext Ļ;rw[XC rfl]at h ⊢;exact B7 h
  .rw[XB e]at h;rw[XB (ÈD e)];have:=Z5 h;exact decide_eq_false (ÁU (Àd (ÿ Ć Ê (ť Ĩ 1 Ç)) ÂA q this))
theorem IL:∀{a b c:XQ},Ņ HT.lexLt b a->Ņ HT.lexLt c b->Ņ HT.lexLt c a
 | [],[],[],_,_=>rfl
 | [],[],Δ,_,_=>rfl
 | [],Δ,[],_,h=>ÁF h
 | [],Δ,Δ,_,_=>rfl
 |Δ,[],_,h,_=>ÁF h
 |Δ,Δ,[],_,h=>ÁF h
 |x::a,y::b,z::c,h,k=>by
  rw[HT.lexLt_cons]at h k ⊢;ext å e y x
  .ext Ļ;rw[XC rfl]at h;ext å e2 z y
   .rw[XC e2]at k ⊢;exact IL h k
   .rw[XB e2]at k ⊢;exact k
  .rw[XB e]at h;have h':=Xs h;ext å e2 z y
   .rw[ĥ XB];exact decide_eq_false (ÁU (Àd (ÿ Ć Ê (ÿ Ô Ç (ÿ Ê Ô .z))) ÅI q (Int.le_of_eq e2.symm) (Int.not_lt.mp h')))
   .rw[XB e2]at k;have k':=Xs k;rw[ĥ XB];exact decide_eq_false (ÁU (Àd (ÿ Ć Ê (ÿ Ô Ç (ÿ Ê Ô .z))) ÅI q (Int.not_lt.mp k') (Int.not_lt.mp h')))
theorem IK(ks:Ä XQ):LtOk ß2:=#[B7,IL]
section
variable{X:Cx}
def wX(Ŧ X Cx l XH):Cx:={ X with ex:=l++X.ex }
structure ExOk(ŵ b XH):Prop where
 old:Øk
 loc:Â0 b
 cel:Çn b
 bas:ê X.base.get? b
 fs:b∉X.fs
theorem Inv.widen ç(hl:∀b∈l,ExOk X b):Inv (wX X l) XU Z ķ:=by
 have ok:(wX X l).Ok:=by
  have o:=I.ok;refine#[o.mod,o.kind,o.glob,o.blt,o.above,o.inj,o.has,o.cab,o.hd,o.frames,o.stk,ÂH,o.bs,o.bsz,Č b ob hb z,ÂH,o.funs,o.frf]
  .ext Á8 hb h
   .exact#[(hl b h).loc,(hl b h).cel]
   .exact o.exf b h
  .ext Á8 z h
   .have hb':X.base.get? b=Ã ob:=hb;rw[(hl b h).bas]at hb';cases hb'
   .exact o.noex b ob hb h
  .ext Á8 hb h
   .exact(hl b h).fs
   .exact o.exfs b h
 have ne:∀{b:XH},b∉l++X.ex->b∉X.ex:=λ h z=>h (ZW _ z);have u:=I.base;exact ÎK ok (ày (ne hx))
theorem Inv.narrow(I:Inv (wX X l) XU Z ķ)(ok:X.Ok)(hl:∀b∈l,Øk):ï ķ:=by
 have ne:∀{b:XH} {o:Obj},X.s₀.heap.get? b=ò->b∉X.ex->b∉l++X.ex:=fun{b o} e h z=>by
  ext Á8 z z
  .ext Ât hl b z y
   .exact h y
   .ext è y e e
  .exact h z
 have u:=I.base;exact ÎK ok (ày (ne e hx))
theorem Inv.exOk ç(hb:ê s.heap.get? b)(hL:Â0 b)(h0:ê X.base.get? b):ExOk X b:=by
 have old:Øk:=by
  by_cases hx:b∈X.ex
  .exact Α hx
  .cases e:X.s₀.heap.get? b with
   |none=>ext ſ rfl
   |some o =>ext Ïu e';ext è hb e' e'
 refine#[old,hL,Č x c e z,h0,ģ z]
 .show ÇU [v,o,ho,_] e;ext Ţ z hb ho
 .exists Ùg,I.ok.funs.mem z;ext Ś old y y
  .exact I.ok.exfs b y z
  .ext è y ho ho
theorem Inv.fpW ç(hm:b∈l)(x:ExOk X b)(hb:ê s.heap.get? b):cE (wX X l) XU H b:=by refine#[none_of I hb,x.loc,x.fs,Ó (Y2 _ hm),x.cel,Ú p hp z];have:=(I.pin p hp).1;ext Ţ z hb this
theorem BS{ks:Ä XQ}ç(hk:∀k∈ks,k≠[]):∀(as:Ä XH) Ė,n+as.length=ks.length->(∀Ø7,Ý as a->ks[n+i]?=Ã k->Ϛ a k.map)->åQ s.heap (as.map Value.ref) as.length
 | [],_,_,_=>#[[],È KatTups.nil,Á0 v h]
 |a::as,n,hl,h=>by
  rw[Zo]at hl;have hkn:ks[n]?=some (ks[n]'(Çs (Nat.le_of_eq hl))):=Ě Ze Çs Nat.le_of_eq hl;have hne:=hk _ (ZD (show n<ks.length by exact ĵ Ê Ôr (Nat.le_of_eq hl)));generalize ks[n]'(Çs (Nat.le_of_eq hl))=k at hkn hne;have ea:=h 0 a k rfl (Ă Nat.add_zero hkn);show Ž [ia,ra,pa,za] I.tuple ÙI;obtain⟨x,t,ia',rfl⟩:∃x t r,ia=İ x t::r:=by
   cases cO ra with
   |nil=>ext ĕ rfl hne
   |cons x t r=>exact#[x,t,Å]
  exists[fs,f1,f2,f3],BS I hk as (n+1) (ϔ (â (Åj Ê) Ô (ÕZ 1 Ô) æ (Nat.le_of_eq hl)) (â Ç (.p (ã 1) Ô) (ć Éj) æ (Nat.le_of_eq hl.symm))) (λ i b k' h1 h2=>h (i+1) b k' h1 (by rw[show n+(i+1)=n+1+i by exact ÞA];exact h2));ext ãJ
#check 0
section
variable{X:Cx}{pos:Pos}
theorem qC:QE X (.Dict [] ÂB) J1:=#[Lv]
theorem cH Áx(ËN QE td ty)(hs:Kl i:=by intro _ _;rfl):Éu QE o i (Nh td ty):=#[OE (ËF) ho.h hi.h hs]
theorem GN Áx(Òx In):QE X (.Compare i [.In] [o] pos) (Mg ty td):=#[Q9 (Jk (ËF) hi.h ho.h) hm]
theorem Hf Áx(Òx In):QT X (.Compare i [.In] [o] pos) (tB (Mg ty td)):=#[Jv (Jk (ËF) hi.h ho.h) hm]
theorem jK Áx(Òx NotIn):QT X (.Compare i [.NotIn] [o] pos) (tB (Fk ty td)):=#[Jv (Jl (ËF) hi.h ho.h) hm]
theorem kh Áx(ËN QE td ty)(ε hv value tv)(hs:ËQ value (Þ4):=by rfl):Þ0 QS (Nc td ty tv):=#[OP (ËF) ho.h hi.h hv.h hs]
#check 0
def Itv(K:XY)Ō ÀT:It:=#[λ i H=>À4 i/\SqL K H a xs,λ i H x H'=>H'=H/\Ý xs.reverse x,λ i H=>i=xs.length/\SqL K H a xs]
theorem Mq ē(a it:XH):ÊZ (Itv K a xs) (λ i h=>h.IsRevIter it a (É xs.length-1-(i:Nat))) where
 mem:=Zg.mpr rfl
 obj:=λ i h st b hb=>by obtain rfl:b=it:=Zg.mp hb;exists[o,e,c,d],st;exact ÐA
 keep:=λ i h h' st k=>st.at (Æ2 k it (Zg.mpr rfl))
 item:=by
  ext ÅL;exists[hi,hq],hg;ext Æd rv p I.list;have hl:=rv.length;have hx:xs[Êp]?=some xs[Êp]:=Ze (by exact ĵ Ê (Ñ Ç Ô Íl) æ Æ5 (Éd hi));exists[u,hu,ru],rv.get hx;show Åc (Zg.mpr rfl);have st1:s.heap.IsRevIter it a (É (Êp:Nat)):=by rw[show É (Êp:Nat)=É xs.length-1-(i:Nat) by exact Int.le_antisymm (Áb ô (.d (ϓ d (.c Ê)) (.c Ô)) áa) (ô (.d Év (.c Ê)) (.c Ô) æ2)];exact st
  refine wpAny_pyNext_rev_item st1 p.isList (x:=u) (û hu) (Å2 st' sb);ext Ü8 o;rw[show É (Êp:Nat)-1=É xs.length-1-É (i+1:Nat) by exact Int.le_antisymm (ô Év (.d (ϓ d (.c Ê)) (.c (Ų a 2))) áa) (ô (.d Év (.c (Ų a 1))) (ϓ d (.c Ô)) æ2)]at st';exact#[È u,àK #[_,H,I1,ru,#[rfl,Áf List.getElem?_reverse hi hx],st',ÈF hf]]
 done:=by ext ÅL;exists[rfl,hq],hg;show Åc (Zg.mpr rfl);rw[show É xs.length-1-ÀV xs.length=-1 by exact Int.le_antisymm (ô (.d Év η) (.g đ) Ζ) (ô (.g đ) (.d Év η) Ζ)]at st;exact Èo wpAny_pyNext_rev_end Ét
 self:=ÌV wpAny_pyIter_revIter
def Qg(ζ ta TA):TI:=λ Z H R=>ta Z H λ vs H1=>∃a xs,vs=ġ a/\SqL K H1 a xs/\R (Itv K a xs) H1
section
variable{X:Cx}
theorem Kr:Äg "reversed" type:=⋯
theorem Rr(hg:Gl X "reversed")(hm:ê X.mg "reversed")Öh:ÑJ PI "reversed" e1 (Qg X.K ta):=by
 ext ı R;refine Call_ (ÓS Kr);ext ÕN;exists[its,rv,pl,hz],I1.list hx;have hl:=rv.length;refine call_reversed_list pl.isList (wpAny_pyIter_revIter #[_,ĸ,î] ? _);refine#[Ðv,Mq (xs:=xs) a _,#[_,ĸ,Ì ? _],ÂH,q]
 .show Data.fields (List.toArray [Æ a,rawInt (É its.toArray.size-1)])=_;rw[Zl,<-hl];simp
 .obtain rfl:=Zg.mp hb;exact Ët
theorem MM(hm:ê X.mg "reversed")(ÊV QA e1)(hg:Gl X "reversed":=by rfl)(ÃU n1 e1):ÑJ QI "reversed" e1 (Qg X.K ta):=#[Rr hg hm ha.h n1]
#check 0
open Classical in
noncomputable def lN(h:Heap)(dx:XZ)(u:XJ):Bool:=decide (∃d as,Reads h u d as/\ÛH PyData.canLay0 d dx)
open Classical in
theorem xD(r:Reads h u d as)(hl:Ą d.canLay0):lN h dx u=PyData.eqv d dx:=by
 unfold lN;cases e:PyData.eqv d dx with
 |true=>exact decide_eq_true #[d,as,r,hl,e]
 |false =>ext Ħ decide_eq_false;rintro⟨d',as',r',l',e'⟩;rw[SeqAt.Reads.unique d d' u as as' hl r r',e']at e;cases e
section
theorem kW Ãw:∀{ds:Ä XZ} Ác {us:XG},DtAll H ds xs->Vals xs us->ú PyData.canLayAll0 ds->∀dx:XZ,us.any (lN h dx)=ds.any (Ïz)/\us.countP (lN h dx)=ds.countP (Ïz)/\∀u∈us,∃d as,d∈ds/\Reads h u d as/\Ą d.canLay0
 | [],xs,us,hd,r,_,dx=>by
  have e:xs=[]:=Ä4 DtAll hd
  ext Ļ;show Ř r #[î,Á0 u hu]
 |À6,xs,us,hd,r,hl,dx=>by
  have e:Õm:=Ä4 DtAll hd
  ext ÆD y ys e;cases r with
  |cons r1 r2 =>
   have hl':Ą d.canLay0/\ú PyData.canLayAll0 ds:=by ext Åv PyData.canLayAll0 hl
   exists[as,q1],Dt.reads ok d y _ h1 r1;exists[i1,i2,i3],kW ok h2 r2 hl'.2 dx;refine#[by rw[Xu,Xu,xD q1 hl'.1,i1],by rw[List.countP_cons,List.countP_cons,xD q1 hl'.1,i2],Ø u hu];show Äu hu #[d,as,Ĵ,q1,hl'.1]
   .exists[d',as',m,z],i3 u hu;exact#[d',as',Ĉ m,z]
#check 0
section
variable{X:Cx}
def CB(ζ neg Bool):R2:=λ x y H Q=>∃(p:XH) (xs:(Ä V)) (dx:XZ) (ds:(Ä XZ)),y=Æ p/\SqL K H p xs/\Dt H dx x/\DtAll H ds xs/\ú SeqAt.shaped dx/\ú PyData.canLayAll0 ds/\Q (.bl (if neg then !(ds.any Ïz)else ds.any Ïz)) H
theorem zd{A:XN}ç(hu:Ìe 64)(h1:Dt H dx x)(rx:RelV x v)(h2:DtAll H ds xs)(r:Vals xs us)(s1:ú SeqAt.shaped dx)(s2:ú PyData.canLayAll0 ds):∀u∈us,SeqAt.EqAt A s u v (lN s.heap dx u):=λ u hu'=>by exists[_,_,z],kW I.hok h2 r s2 dx;exists[d,as,_,q1,q2],z u hu';exists[bs,q3],Dt.reads I.hok dx x v h1 rx;rw[xD q1 q2];refine SeqAt.eqAt_reads d dx A s u v as bs q1 q3 q2 (SeqAt.canLay_of_shaped s1) ? _;have d1:=SeqAt.depth_of_shaped s1;have d2:min d.depth dx.depth<=dx.depth:=Æm;exact â (.p ÀJ đ) Ô (Ñ Èk (ÆK n 64 (ć (.p (ι a 0 n 64) đ) Ô))) Ŭ d2 d1 hu
theorem QV âc:ų OpR In (CB X.K false):=ÛV SeqAt.in_listAt
theorem Jj âc:ų OpR NotIn (CB X.K true):=ÛV SeqAt.notIn_listAt
theorem SZ ĉ(hr:Room k X.A):ų QOp In (CB X.K false):=#[QV (by have:=hr.un;show X.A.units+_+64<_;exact â (.p (Åj (.n 64)) đ) Ê (Ñ (.p (.p (.p Ç (.m 16 Ô)) (.n 200)) đ) Š) æ this)]
theorem Ll ĉ(hr:Room k X.A):ų QOp NotIn (CB X.K true):=#[Jj (by have:=hr.un;show X.A.units+_+64<_;exact â (.p (Åj (.n 64)) đ) Ê (Ñ (.p (.p (.p Ç (.m 16 Ô)) (.n 200)) đ) Š) æ this)]
#check 0
def Ua Ôd:It :=
 ÖR SqL
def SJ(ζ ta TA):TI:=ÓV SqL (Ua K a b xs ys)
section
variable{X:Cx}
structure QPs(ŵ pos Pos)(keys:List (Option XT))âQ:Prop where
 h:PPs X pos keys values trs
#check 0
section
variable{X:Cx}
theorem Kt ź:Î7 fh "any" bs.any:=by
 ext ÛY call_any_walk;refine#[s.heap.objs.size,ÝC false,
  #[#[_,ĸ,î],hl.push _],Áp i v s' Q' E' hP hQ,Å2 tk hk]
 ext ây false
 .ext äB any false bs.any LSm.range_any
  show Œ e #[.bl _,H,Ðy (LSm.kept_iter hk),Ì q]
theorem Ss ź:Î7 QCall "any" bs.any:=#[Kt hc]
#check 0
structure MFn Ãs À1 Ĥ(m:Str)Æc:Prop where
 cl:Cls K C
 ex:∃f fd,Çh CX0 f sp/\Meth K C m f/\Æs
structure MkFn Ãs À1 Ĥ(x:Str)Æc:Prop where
 cl:Cls K C
 mgC:ÁK x C
 ex:∃f fd,Çh CX0 f sp/\Mk K C f/\Æs
section
variable{X:Cx}{k:Nat}{pos:Pos}{e:XT}{t:TA}
theorem bj(ε he e ta)(hb:ÂN e f:=by rfl):Ù5 QE X.K:=#[Rc he.h hb]
theorem tq(ε ha o ta)(ε hv value tv)(Ñv value Âm f):Öw QS RT:=#[Rv ha.h hv.h hs]
theorem bJ(ÓB MFn X)(ha:QA X ϑ t)Òh(ht:eval (ÆI pos) X.env=(do
   let ov ←eval o X.env
   standAt apos.atName
   let(f,first) ←Ép
   Î9):=by rfl) :
  QE X (ÆI pos) (wQ C m Æv E0 ta t):=by
 ext Ïw;exact#[ÓE EV ė nL ha.h ÈT ht]
theorem bP(ÓB MFn X)(ht:eval (Î6 [] ÂB) X.env=(do
   let ov ←eval o X.env
   standAt apos.atName
   let(f,first) ←Ép
   ã8):=by rfl) :
  QE X (Î6 [] ÂB) (wQ C m Æv E0 ta ip):=by
 show þ [f,fd,G,hm,b] F.ex #[ÓE Lz ė nL ht]
theorem EZ(Ög MkFn x)ÉF Ä8:QE X (Æe x [] ÂB) (AR C Æv E0 ip):=μ [f,fd,G,hm,b] F.ex #[Ly hm G hr hg F.mgC b ė nL hdb]
theorem Cz(Ög MkFn x)(ha:QA X ϑ t)ÅM Ä8 :
  QE ÊM (AR C Æv E0 t):=by
 ext Ïw;exact#[OF hm G hr hg F.mgC b ė nL ha.h hdb ÈT]
#check 0
def DRaw(h:Heap)(d:XH)(es:Array DictEntry)(ep:Nat):Prop:=∃o,ϒ d/\o.ExactDict/\Ær
theorem DRaw.type{s:XI}(ÕS s.heap):Ā s.TypeIs d "dict":=let⟨o,ho,hc,_⟩:=x;#[o,ho,hc.1]
theorem DRaw.at'{h h':Heap}(ÕS h)(e:∀o,ϒ d->h'.get? d=ò):DRaw h' d es ep:=let⟨o,ho,r⟩:=x;#[o,e o ho,r]
theorem DRaw.lt(ÕS h):d<h.objs.size:=let⟨_,ho,_⟩:=x;Zr ho
section
variable{A:XN}{s:XI}{d:XH}{es:Array DictEntry}{ep i:Nat}
theorem CD{Q:XE}(hd:Âk d)(hm:DRaw s.heap d es ep)(hQ:Þi "dict_keyiterator") :
  Ãc pyIter d:=by
 exists[o,ho,hc,hdat],id hm;refine wpAny_pyIter_slot hm.type PySem.F.slot_dict_iter (ZN PySem.F.slot_dict_iter hm.type PySem.F.entry_dict_iter ? _ (PySem.F.args_dict_iter_1 _));show ξ Builtin.«dict.__iter__» ? _;show ξ Builtin.Dict.dictSlotNone (Xb hm.type ? _);show Θ (pure (Value.ref d)) s;ext Ħ Zb;ext Ôt d s;rw[ÁG XB hd Zq];show ÂR (Zb ? _) (Yj ho hdat ? _);show ÂR (Yw ho hdat ? _) (ZM (Zb #[Å,"dict_keyiterator",_,#[_,ĸ,rfl],YJ.lookup,? _]));ext Åv rawInt hQ
theorem CC ÅU(ÎB s.heap.IsKeyIter i)(hx:i<es.size)(hQ:∀h',h'.IsKeyIter ÆY->Ïe Heap.SameBut (some es[i].key)):Ãc pyNext it:=by
 ext Îj;refine z9 (Y0 (Çf hit.typeIs YJ
  (Þp)))
 show á4 Xk wpAny_typeNameOf_keyiter "dict_keyiterator" wpAny_isOneOf_keyiter;have hit':âZ IsKeyIter :=
  ÎW ho hd hc
 ext Ãa Z0;ext ÓN wpAny_isOneOf_keyiter;show Θ (pure ÇA) _;exact Zb (Zb #[Å,Zb (hQ _ hit' (ZV ..))])
theorem E2 ÅU ÂP(ÎB s.heap.IsKeyIter es.size)ÖV :
  Ãc pyNext it:=by
 ext Îj;refine z9 (Y0 (Çf hit.typeIs YJ
  (Þp)))
 show á2 Xk wpAny_typeNameOf_keyiter "dict_keyiterator"
theorem JE ÂP Ý7 :
  Þa e.key h.IsKeyIter where
 sub:=λ b hb=>by simp at hb;simp[hb]
 frame:=λ _ _ _ st hk=>#[st.1.at (Æ2 hk I Û),st.2.at' (Æ2 hk d Û)]
 item:=Ü9 CC
 done:=äG E2
 self:=λ _ _ _ _ st hQ=>wpAny_pyIter_keyiter st.1 hQ
theorem E3(lo:Âk d):KdlSrc prog w "dict" d d es.size (λ i v=>∃e,Ý es e/\v=e.key) (λ h=>DRaw h d es ep) where
 type:=Á1 hm hm.type
 there:=Á1 hm #[hm.lt,hm.lt]
 keep:=λ _ _ hm hk=>hm.at' (Æ2 hk d (Ó rfl))
 notList:=⋯
 notTuple:=⋯
 hint:=λ _ _ _ _ hm hq=>kdl_hint_dict hm.type hq
 iter:=λ _ _ hh hm=>#[_,_,(λ _ _ hq=>CD lo hm hq),JE hh _ d (Zz hm.lt) es ep,#[#[_,ĸ,î],hm.at' λ o e=>Zd _ e]]
#check 0
def eS Ë(Ŧ kvs Àr ks V):Prop:=Paired (fun(p:Ä Key×V) (v:V)=>∃b,v=V.ref b/\H b=Ã9 p) kvs ks
theorem vG(r:KT H kvs xs):eS H kvs (xs.map Ø5):=by
 unfold eS;induction r with
 |nil=>exact ė
 |cons h _ ih=>exact υ #[Å,h.2.1] ih
section
variable{X:Cx}
theorem FV ź:fh Ë5 ám:=by
 ext Õk kvs;ext ÓD hq;refine kdl_call (ŕ E3 es es ep ep hd) (I.ok.hd hc) Ðn ∅ (Áp h' tk acc' c' kp e hacc);have ev:Vals (xs.map Ø5) acc'.toList:=by
  have gen:á6:=by
   intro vs;induction vs with
   |nil =>
    intro ys hl _;cases ys with
    |nil=>exact ė
    |cons _ _=>cases hl
   |cons v vs ih =>
    intro ys hl hv;cases ys with
    |nil=>cases hl
    |cons y ys =>exists ÂZ x,hv 0 v rfl;cases e1;exact υ e2 (ih ys ÖB)
  refine gen Â Øf;ext ÓU
 refine#[Æ s.heap.objs.size,_,Ùh kp (Zf _) (show Ãr _ h' _ (Õ (xs.map Ø5))from#[Ż Za,acc'.toList,c',ev,û e]),rfl,q Â (I.hok.fresh (Zf _)) (vG rel)]
theorem Ep ź:QCall Ë5 ám:=#[FV hc]
#check 0
def TD(t:TS):TS:=λ D Z H=>∃Pv:À0,t (Âd D nx Pv) Z H/\ÇB σ' H' Pv D.nx
theorem CN{st:Stmt}{t:TS}(h:QS X st t):QS X st (TD t):=#[λ XU s Z H D I ⟨Pv,h1,h2⟩=>thn (h.h ÂO I h1) λ fl s' q=>by
 cases fl with
 |next =>show þ [σ',H',I',q'] q #[σ',H',I',h2 Â q']
 | _=>ext ŷ]
section
variable{A:XN}{t:Nat}{os:OsState}
variable{nm:Str}{C:XH}{bs:XG}{sub:XG}{dd:Option XH}
theorem wV ÜS{Q:ű PySem.Fin}(hC:Éz q newId)Û8(hq:∀h' e,ãh->ċ (Ā call fI (Æ e::rest)) (λ r s'=>r=.none/\Q (.done (.ret (Ï e))) s') E #[h',g,d,t,os])(hrest:Ń rest.length):
  ċ (Builtin.«type.__call__» #[Æ C::rest,[]]) Q E #[h,g,d,t,os]:=by
 repeat(first|ext ÈS Xi hC|ext ÈS wpAny_madeBy_exc hC|wp_step)
 refine codeAny_call_builtin_code (Code.quiet_builtin _ F.quiet) (wpAny_check_new_subT F T hC ? _);refine codeAny_exc_new_subT F T hC ? _ hrest;show Θ Â;have kp:∀b o,ϒ b->(Óz).get? b=ò :=
  Àu o e (Zd _ e)
 have hn₁:(Óz).Ns N mN:=hn.keeps kp;have hget:(Óz).get? (h.objs.size+1) =
   some { cls:=Æ C,data:=ÆJ h.objs.size }:=by heap_get
 have hcC:Æw C bm C=true:=Ĵ
 unfold isInstance
 repeat(first|ext ÈS Xi hget|show ÏS (kp Â hC) hcC|wp_step)
 show ÀA (Ā typeLookup C _) _;refine wpAny_typeLookup_tail (kp Â hC) hn₁ (T.keeps kp) F.mroIs F.init.lookup ? _;rw[hi];refine Z0 (z9 ? _);show ξ bindSpecial (Þe "function" #[_,kp Â hfI,hfc]);rw[XC ⋯];refine Zb (z9 (Ái (hq _ (h.objs.size+1) #[kp,Xc (YQ _),h.objs.size,hget,Xc (Zf _),? _]) (Èt hr) x x))
 .exact Zd _ (Heap.get?_push_at rfl rfl)
 .exists[rfl,hQ],hr
  wp_walk
  exact hQ
theorem FU ÜS{Q:XE}(hC:Éz q newId)Û8(hq:∀h' e,ãh->wpAny (model prog w) (A.under (.builtin "type.__call__" #[Æ C::rest,[]])) (Ā call fI (Æ e::rest)) (λ r s'=>r=.none/\Đ e s') E #[h',g,d,t,os])(hrest:Ń rest.length):
  ċ (Ā call C rest) Q E #[h,g,d,t,os]:=by
 have f1:=tc_lookup;have f2:=tc_bind (Ï C);have hT:(#[h,g,d,t,os]:XI).TypeIs (Ï C) "type":=À5 hC
 refine wpAny_call (codeAny_of_tree ? _);show ÀA (Ā callAny C _) _
 repeat(any_goals(first|assumption|ext ÈS Xi hC|wp_step))
 refine Åz;exact codeAny_call_builtin_at (Code.quiet_builtin _ ⋯) entry_typeCall (wpAny_check_type_call_sub hC (wV F T hC hn hi hfI hfc (λ h' e hm=>hq h' e hm) hrest))
#check 0
section
variable{A:XN}{E:XE}{K:XY}
theorem JB(hC:ExC K C bm)ÂP(h:wpAny M A x (λ v s₁=>∃e oe,v=Æ e/\K.In s₁.heap/\s₁.heap.get? e=Ã oe/\oe.cls=Æ C/\(∃t,oe.data=ÆJ t)/\Ā E e s₁) E s):Âi (raiseStmt env (Ù x) none):=by
 ext äY C bm hC.exc
 unfold raiseStmt;show ÀN (Ái h (Ú v s₁ h₁) x x);obtain⟨e,oe,rfl,hk,he,hcl,⟨vs,hd⟩,hE⟩:=h₁;ext ãg;ext ÉP s₁;exists[oc,od,odt,osl],oe;ext ÁH hcl hd
 repeat(first|ext ÈS Xi he|ext ÈS Xi oC|ext ÏS oC hcB|wp_step)
 exact wpAny_raiseNew_none hh hE
#check 0
open PySem PySem.Spec PyProof.Rows PySem.W PySem.Builtin PySem.Builtin.ObjectAttr
theorem JG(self:XJ):refuseLoop self "__setattr__" VE=pure ():=by kernel_rfl
def wg:ÀX XG
 |Æ _::r=>wg r
 |l=>l==VE
theorem tX(self:XJ):∀{l:XG},ú wg l->refuseLoop self "__setattr__" l=pure ()
 |Æ c::r,e=>Ä7 refuseLoop_ref tX self e
 | [],e=>Ş e
 |.type n::r,e=>by rw[show(Value.type n::r)=VE from Ym.mp e];exact JG self
 |.none::r,e=>ÅX
 |.bool b::r,e=>ÅX
 |İ b t::r,e=>ÅX
 |.str b t::r,e=>ÅX
 |.bytes b t::r,e=>ÅX
 |.float b t::r,e=>ÅX
 |.builtin b::r,e=>ÅX
 |.ellipsis::r,e=>ÅX
 |.notImplemented::r,e=>ÅX
structure ExS(ζ c XH):Prop where
 sa:ËG findIn c
 ov:Ą ((clsIn K c).any λ cd=>wg cd.mro&&cd.hasDict)
 ob:Ði mroIn c
section
variable{K:XY}{A:XN}{R:ű Result}{s:XI}
theorem Ox(X:K.In s.heap)(I:InstAt s.heap x ox C od)(S:ExS K C)(hn:findIn K (Ï C) name=Ã none)(h:ÄA wpAny A.in1 (Ā storeInOwnDict x (Ï C) (ÏU) name v false)
   (λ fin s'=>match fin with|.done f=>R (.ok f) s'|.again c'=>Ą c'.quiet/\ÄA codeAny A c' R s') (λ e s'=>R (.error e) s') s):
  ÄA codeAny A (.call (.builtin "object.__setattr__") #[[Æ x,ÏU,v],[]]) R s:=by
 have SF:=PySem.F.store_object;exists[cd,hc,ho],any_some S.ov;rw[ZH]at ho;have sub:ÄA Looks s.heap (Ā isInstance x (.type "object")) true:=I.type.andThen (looks_mroIn X S.ob);refine codeAny_call_builtin SF.slot.plain SF.entry (@check_slot (model prog w) Â s "object.__setattr__" "object" "__setattr__" (Ï x) [ÏU,v] [] _ SF.kind SF.split sub (Ā SF.args x (ÏU) v) ? _);have hm:ÄA Looks s.heap (mroOf (Ï C)) cd.mro:=(looks_clsIn X hc).andThen .now;rw[osa_eq,refuse_eq];show í (z9 (Ě I.type.here z9 hm.here ? _));rw[tX _ ho.1];refine Zb (z9 (I.type.here (z9 ((looks_findIn X hn).here (z9 (Looks.now.here ? _))))));exact h
#check 0
def exN(ea c t:XH)(dc:Option XH):HO:=.ext λ h=>h.get? ea=Éq c dc
theorem Il{h:Heap}{ea c t:XH}(e:h.get? ea=Éq c dc):ObjOk P w H h ea (exN ea c t dc) :=
 #[e,#[_,e],λ _ _ p k=>k _ p]
section
variable{t:XH}
theorem O7 Äe ç(e:H a=Ö1 a c)(S:ExS X.K c)(n:NoAttr X.K c f)(ry:RelV y u)(h:∀d s',á d->ÍL (ÕK d) ()):ÍM setAttr f u:=by
 have hx:s.heap.get? a=Éq c none:=(Çt a (exN a c t none) e).1;have J:InstAt s.heap a { cls:=Æ c,dict:=none,data:=ÆJ t } c none:=#[È hx,Ì True.intro]
 exists[cd,hc,ho],any_some S.ov;rw[ZH]at ho;refine W.set_plain I.kIn J S.sa (Ox (s:=ÂQ) I.kIn J S n ? _);show ã2 I.kIn;rw[ho.2];have hxs:a≠s.heap.objs.size:=Zz (Zr hx);have hx1:(Çw).get? a=Éq c none:=Zd _ hx;show ÀA (alloc (Ô5 ÎP) >>= λ d=>update a (Ôv d) >>= λ _=>Ā dictMade c a d) _;show ÂR (wpAny_alloc' ? _) (wpAny_update' hx1 ? _);ext Ħ Zb;have hgd:((Çw).update a (Ôv s.heap.objs.size)).get? s.heap.objs.size=some (Ô5 Ϙ) :=
  (Ñf hxs.symm).trans (Heap.get?_push_at rfl rfl)
 have hnd:((Çw).update a (Ôv s.heap.objs.size)).Ns s.heap.objs.size (ę none) :=
  #[_,Ů,ś _ hgd,Â2 e he he,ę rfl]
 show ÀN (Zb (z9 (wpAny_nsSet1 (Heap.Ns1.of_empty hnd) (Å2 hn' hs))));exists[oD,esD,epD,hoD,hdD,hcD],hn'.count (Within.cons f u Within.nil);show í (wpAny_lookBehind hoD (ÄL hdD pastItsLine_dict (Zn hcD (by rw[Zo,Yu,sizeLine_eq];omega))) ? _);have hx':h'.get? a=some { cls:=Æ c,dict:=Ã s.heap.objs.size,data:=ÆJ t }:=(hs.2 a hxs).trans (Ye _ hx1 rfl);have kp:∀b o,ō a->ÉJ o:=λ b o hb q=>(hs.2 b (Zz (Zr q))).trans ((Ñf hb).trans (Zd _ q));have hd0:á s.heap.objs.size:=I.hok.fresh (Zf _);ext åm nd;have ne1:∀b v,H b=Ľ->v≠exN a c t none->ō a:=λ b v q hv z=>by rw[z,e]at q;exact ßH
 have ne2:∀b v,ÎL H v s.heap.objs.size:=λ b v q=>aq q hd0;have un:Un X.fs [] H (ÕK s.heap.objs.size) s.heap h':=by
  refine#[Õw o q m kp Àm e o.slots,Ķ b o q m _,ÀG q _,ρ xs q,ÀG v q,λ b ps q=>ÁI #[]]
  .rw[ah (Àm e m),ah (nd b o q)];exact m
  .ext å hb b a
   show ÀI #[_,hb▸hx'] #[o,kp b o hb q]
  .ext Ñz q;ext ŷ
  .ext Ñz q;ext ŷ
  .rw[ah (Åw ne1 q),À7 ah ne2 q,q];simp
 have hok:HOk X.prog X.w (ÕK s.heap.objs.size) h':=λ b v q=>by
  ext ÒF hb a q Il hx'
  .rw[ah hb]at q;ext å hbd b s.heap.objs.size
   .ext Äl hbd ad q;refine#[_,hn',ģ g];ext å hg g f
    .subst hg;rw[XC rfl];show RelO ([(g,y)].lookup g) (Ù u);rw[Z6,show Ą (g==g) by simp];exact ry
    .rw[XB hg];show RelO ([(f,y)].lookup g) none;rw[Z6,show Ũ (g==f) by simpa using hg];exact True.intro
   .rw[ah hbd]at q;refine(I.hok b v q).stay (λ b' v' hb' q'=>kp b' v' ? _ q') (Ø b' q') (Ú b' xs q')
    .ext Ś hb' rfl z
     .exact hb
     .exact Åw ne1 z
    .ext Ñz q';exact q'
    .ext Ñz q';exact q'
 exact Zb (h Â hd0 (I.un un hok))
#check 0
def Tx ãP:TS:=λ D Z H=>tv Z H λ y H1=>ta Z H1 λ x H2=>∃a c t,Àh/\H2 a=Ö1 a c/\ExS K c/\NoAttr K c f/\∀d,ê H2 d ->
 D.nx Z (upd (ß H2 d (.xd [(f,y)])) a (ÎC a c d))
theorem RV{pos pos':Pos}(ε ha o ta)(ε hv value tv)(Ñv value Âm f):Öw QS Tx:=by ext Ξ;ext ÞR hv.h ha.h;show ÅR [x,H2,I2,rx,a,c,t,ex,ea,S,n,q2] ov;exact O7 I2 ea S n ry λ d s3 hd I3=>#[Z,_,I3,q2 d hd]
def del Ë Ō:Hp:=λ b=>if b=a then none else H b
theorem KD:del Ω a=none:=Èx del XC rfl
theorem jc(h:ō a):del Ω b=H b:=Èx del XB h
theorem IZ(h:del Ω b=Ã u):ō a/\H b=Ã u:=by
 ext å c b a
 .ext Ţ c KD h
 .rw[jc c]at h;exact#[c,h]
def Im(K:XY)(C fI:XH):Prop:=ÛZ some (Ù (Æ fI))
set_option tactic.hygienic true in theorem Gp ē(X:K.In h)(G:h.Ns N m)(e:nsIn K N n=ϝ Ù v):m n=Ľ:=by
 exists[o,es,ep,ho,hd,_,hf],G;ext Ĝ nsIn e;split at e
 .rename_i c d es' n' sl q;ext ÐV X q ho;cases hd;split at e
  .rename_i en he;cases e;rw[<-hf];unfold nsFind findBy;rw[<-Array.find?_toList,he];rfl
  .split at e<;>cases e
 .cases e
structure ExcAtI(K:XY)(C fI:XH)(bm:XG):Prop where
 isIn:Im K C fI
 mro:Î0 C bm
 exc:Ðw
 fn:∃oI,K.lookup fI=Ã oI/\oI.cls=.type "function"
theorem vx ē(q:ExcAtI K C fI bm)(X:K.In h):
  ∃nm qn N bs hdct sn sub ab col dd k0 k1 k2 k3 k5 mN,Éz qn "ValueError.__new__"/\h.Ns N mN/\mN "__init__" = Ö fI/\OwnTail h VE bm:=by
 ext Ûh;have G:h.Ns ns _:=.of_isNs (isNs_of_in X ok);exact#[nm,qn,ns,bs,hd,sn,sub,ab,col,dd,k0,k1,k2,k3,k5,_,X Â ho,G,Gp X G ni,tail_of_in X ht]
theorem EA ē(q:ExcAtI K C fI bm):ExC K C bm where
 cls:=Ý2 vx
 exc:=q.exc
structure ExI Ãs À1 Ĥ(bm:XG)Æc:Prop where
 ex:∃fI fd,ExcAtI K C fI bm/\Çh CX0 fI sp/\Æs
section
variable{s:XI}
theorem Inv.excMade{h':Heap}{e c t:XH}ç(kp:ÄH o)(hn:ê s.heap.get? e)(he:h'.get? e=some { cls:=Æ c,data:=ÆJ t }) :
  á e/\ï (ø e (exN e c t none)) (ů s h'):=by
 have h0:á e:=by
  cases q:H e with
  |none=>rfl
  |some u =>exists[o,z],lV (I.hok e u q);ext è hn z z
 have nb:∀b o,Ġ b o->ō e:=λ b o q z=>ÇY hn q
 refine#[h0,Âo I.un #[λ b o q _ _ _=>kp b o q,λ b o q _ _ _=>#[o.slots,kp b o q],λ b o q m _=>Ī (nb b o q) m,λ b o q _=>#[o,kp b o q],λ b xs q=>Â8 q h0,λ b o v q=>Â8 q h0,λ b ps q=>#[Ů,by rw[ah (aq q h0),q];simp]] (ρ u q)];ext ÒF hb e q Il he
 .rw[ah hb]at q;exact(I.hok b u q).stay (λ b' v _ q'=>kp b' v q') (λ b' z=>Â8 z h0) λ b' xs z=>Â8 z h0
#check 0
section
variable{EC:Ñ3}{C:XH}{k:Nat}{sp:Sp}{ta:TA}
def Pf(sp:Sp)Ĥ(EC:Ñ3)(ta:TA):TS:=λ _ Z H=>ta Z H λ vs H1=>Ń vs.length/\∀ea t,ê H1 ea->ê H1 t->t≠ea ->
 sp (Æ ea::vs) (ß H1 ea (exN ea C t none)) (λ v H2=>É6/\∃dc,H2 ea=Ã (exN ea C t dc)/\Ā EC C dc (del H2 ea)) E0
#check 0
structure MFnX Ãs À1 Ĥ(m:Str)Æc:Prop where
 cl:Cls K C
 ex:∃f fd,Çh (CXr P w) f sp/\Meth K C m f/\Æs
section
variable{X:Cx}{k:Nat}{C:XH}{m x:Str}{e:XT}{sp:Sp}{t:TA}{ta:TE}{E:XK}
theorem tj{pl:Sem Bool}(F:ÃO MFnX k C m ps sp)(hx:ge (CXr X.prog X.w) X E)(hr:Room k X.A)(ε he o ta)(ha:QA X ϑ t)Òh(ht:eval (ÆI pos) X.env=(do
   let ov ←eval o X.env
   standAt apos.atName
   let(f,first) ←Ép
   Î9):=by rfl) :
  QE X (ÆI pos) (wQ C m Æv E ta t):=by
 ext Ïw;exact#[ÓE EV ė hx ha.h ÈT ht]
def Sc Ĥ(m:Str)(sp:Sp)(ta:TE)(t:TA):TX:=λ Z H Q E=>ta Z H (àU (t Z H1 λ vs H2=>sp (x::vs) H2 Q E))
theorem Sn(ÓB MFnX X.nox)(ha:QA X.nox ϑ t)Òh(ht:eval (ÆI pos) X.env=(do
   let ov ←eval o X.env
   standAt apos.atName
   let(f,first) ←Ép
   Î9):=by rfl) :
  QX X (ÆI pos) (Sc C m sp ta t):=by
 ext Ξ;intro XU s Z H Q E I h;ext Ïw;refine W.methodCall_KW (pl:=pl) (Z4 (he.h ÂO (I.wish _) h) (ο u s1) Ñb) ht;show ÅR [y,H1,I1,rx,a,dx,fs,ex,ea,l,q] u;have I1':=I1.unwish;refine qj I1' ea F.cl hm l ? _;refine ãX (Z4 (Çr ha.h pos _ q) (λ us s2 ⟨vs,H2,I2,r,q2⟩=>ÁI I2.kIn) Ñb) ÈT;have I3:=I2.unwish;have hb:=b s2 (Æ a::us) I3.kIn (by rw[ZQ,<-G.len Β q2,Zo,Zo,r.length]);rw[ZQ]at hb;refine wpAny_call (codeAny_mono (G.run X.A X.stack s2 H2 #[Æ a::us,[]] (Æ a::us) (Æ a::vs) Q E hr I3.env0 hb (Ę rfl r) q2) (Èt hq));cases r with
 |error e=>exact#[s2,H2,I3,hq]
 |ok fl =>
  cases fl with
  |ret u=>exact I3.after hq
  |next=>ext À3 hq
  |brk=>ext À3 hq
  |cont=>ext À3 hq
#check 0
section
variable{X:Cx}
theorem SD:QH X [] (λ _ _ _ _ _=>False):=#[λ _ _ _ _ _ _ _ _ _ _ _ _ _ _ _ _ h=>h.elim]
def TJ(ζ Ch XH)(ts:TS)(th:TH):TH:=λ D Z C dc H'=>∃c bm,C=Æ c/\ExC K c bm/\if Æw c bm Ch=true then ts D Z H' else th D Z C dc H'
theorem KK{Ch:XH}{ts:TS}(cl:ExC X.K Ch bmh)(hm:X.mg x=Ö Ch)(hs:∀e,QB (X.exc e) (b0::suite) ts)(hrest:QH X rest th)ÉF Ä8:QH X (.ExceptHandler (Ù (Ã2 x np)) none (b0::suite) pos::rest) (TJ X.K Ch ts th):=by
 ext Ξ;rintro XU s0 H0 Z D ea t C B H' dc s' I0 F fly hd ⟨c,bm,rfl,ec,q⟩;have I:=F.inv I0;refine wpAny_handleBy_cons (codeAny_handlers_test ? _) nofun;refine jE (X:=X.exc (Ï ea)) (I.exc _) hg hm ? _ hdb;exists[oe,he,hcl],fly.there;refine DO ec cl I.kIn he hcl ? _;cases hc:Æw c bm Ch with
 |true =>
  rw[hc,XC rfl]at q;ext Ħ codeAny_handlers_suite;exists Ëx,fly;refine qe f1 f3 f4.at hd (ŗ h6 k1 k2 k3 up6 hd6);have F6:=Ì1 I0 k1 up6;refine Z4 ((hs (Ï ea)).h XU Β ((F6.inv I0).exc _) q) (Ú f s8 sp) (Ñb);cases f with
  |next =>show Õa
  |brk =>show Õa
  |cont =>show Õa
  |ret u =>show þ [v,σ2,H2,I8,r8,q8] sp #[v,_,H2,I8.unexc I0.ok,r8,q8]
 |false =>rw[hc,XB Zq]at q;exact ÚS hrest.h _ F fly hd q
#check 0
def Nu(ŵ B Heap)(ea:XH)(C:XJ)(t:XH)(h:Heap):Prop :=
 (B.StaysIn h/\ê B.get? ea/\h.FunFrames B X.stack/\∃oe,h.get? ea=Ã oe/\oe.cls=C/\oe.data=ÆJ t) \/
 Ño Heap.FlyingW h\/Ño Heap.HeldW X.env.locals h
def FB(ŵ E XK)(ea:XH)(s':XI):Prop:=∃(XU:XD) (Z:St) (H0 H':Hp) (s0:XI) (B:Heap) (t:XH) (C:XJ) (vs:XG) (dc:Option XH),
 ï H0 s0/\Fl X H0 H' s0 s' B/\Nu X B ea C t s'.heap/\s'.heap.TupAt t vs/\às s'.heap
section
variable{M:Model}{A:XN}{E:XE}{s:XI}{base:Heap}{l:Ä Env}{L e:XH}
theorem Ip{cls a0 fl:XJ}{dc:Option XH}Úc(k:∀h',base.StaysIn h'->h'.FunFrames base l->h'.TracedAtW base e cls a0 (rawInt L)->ÕT):Âi (Ā setFlight e (Ù L)):=by
 show àv (Obj.mapFields (·.setIfInBounds 3 ((Ã L:Option XH).elim Value.none λ f=>rawInt f)))
#check 0
section
variable{X:Cx}{E:XK}{ea:XH}{s':XI}
theorem vh Äe Ó4(x:FB X E ea s')(k:∀ h',(∃ (XU:XD) (Z:St) (H0 H':Hp) (s0:XI) (B:Heap) (t:XH) (C:XJ) (vs:XG) (dc:Option XH),
   ï H0 s0/\Fl X H0 H' s0 (ů s' h') B/\Ño Heap.HeldW X.env.locals h'/\h'.TupAt t vs/\às h')->Q () (ů s' h')) :
  Á2 X.A (Ā noteFrame ea X.env) Q EE s':=by
 exists[XU,Z,H0,H',s0,B,t,C,vs,dc,I0,F,st,tup,hBt,dd,q],x;have fr:X.A.frames=Ã (X.env::X.outer):=Àq hst I0.ok.frames
 rcases st with⟨f1,f2,f3,oe,he,rfl,hd⟩|fly|held
 .unfold noteFrame;ext Ű hfr;show í (ZY he hd (ËY _ Ã Value.none rfl) ? _);rw[ÃN];rw[hst]at f3;refine tV (a0:=Æ t) fr f3 hfr he f1 f2 hd Û rfl (Ú h1 nt dd1);exists[n1,n2,n3,n4],nt;rw[<-hst]at n2;exists[o9,q9,d9],dd;cases Zt (he.symm.trans q9);rw[d9]at dd1;exact k h1 #[ÌA,_,vs,dc,I0,Ì1 I0 n1 n4,#[n1,f2,n2,n3],tup.of_slots n4,hBt,dd1,q]
 .rw[hst]at fly;refine âN h1 up dd1;rw[<-hst]at held;exact k h1 #[ÌA,C,vs,dc,I0,Ì1 I0 held.1 up,held,tup.of_slots up,hBt,dd1,q]
 .exact wpAny_noteFrame_againW hfr held.2.2.2 (k s'.heap #[ÌA,C,vs,dc,I0,F,held,tup,hBt,dd,q])
def Mid(ŵ E XK):XE:=λ e s'=>∃ea,e=Æ ea/\FB X E ea s'
theorem wm Ó4:Ä0 PassesOwn X.A X.env (Mid X E):=by rintro e s' ⟨ea,rfl,x⟩;refine vh hst hfr x ? _;ext ãK I0;exists àE us,id f4;show Þr cameBackBy;rw[XB Û];rw[hfr];refine ån Ip;exact#[È ea,ÌA,C,vs,dc,I0,Ì1 I0 k1 up,.inr (ā #[k1,f2,k2,k3]),tup.of_slots up,hBt,dd2,q]
#check 0
def kZ(ŵ E XK):Prop:=∀ea s',FB X E ea s'->Ā X.xe ea s'
theorem tW{X:Cx}:à1 kZ E:=by rintro ea s' ⟨XU,Z,H0,H',s0,B,t,C,vs,dc,I0,F,st,r⟩;exact#[È ea,ÌA,C,vs,dc,I0.unwish,#[F.os,F.bare,F.un,F.hok,F.kb],st,r]
section
variable{K:XY}
theorem fE:kZ (ÅY (CXr P w) cd s H E) E:=by
 intro ea s' x;show wpAny (model P w) (A.deeper (ÅO scope cd)) (leaving (ÅO scope cd) (Ï ea)) ì;show ξ leaving (vh (X:=Íb (CXr P w) scope f cd A outer s H E) rfl rfl x ? _);ext ãK I;refine ån qe;have F2:=Ì1 I k1 up;have I2:=F2.inv I;ext åm hL;have nfr:∀b,b∉frs outer->ō s.heap.objs.size->b∉frs (åj):=λ b h1 h2 hm=>by
  show ÆB (I.stkSub b hm) z z
  ext Áj h2 z h1 z
 exists[_,_,k2'],k2;refine#[ea,t,C,vs,B,H',È dc,I2.os,F2.bare,#[Æ6 ŗ q _,Æ6 ŗ q _,Ķ b o q n _,ÀG q _,I2.base.tups,I2.base.frzs,I2.base.tbls],F2.hok,#[k1,f2,k2',k3],tup.of_slots up,hBt,Ķ b o hb ho q,dd2,q]
 .exact I2.base.keep b o q n hb nofun
 .exact I2.base.slot b o q n hb nofun
 .exact I2.base.free b o q n nofun
 .exact I2.base.there b o q nofun
 .refine F2.kb b o Ĳ q
  .ext Ät ho u z o0 z
   .exact F2.nf I z
   .exact nfr b hb (hL b o0 z)
  .ext Ät ho u z o0 z
   show Ùr #[u,z] (I.base.there b o0 z nofun)
#check 0
section
theorem M5(hR:kZ X E):ge (CXr X.prog X.w) X E:=λ XU Z H s e s' I x=>by exists[ea,t,C,vs,B,H',dc,rfl,os,bare,un,hok,fly,tup,hBt,kb,dd,q],x;exact hR ea s' #[XU,Z,H,H',s,B,t,C,vs,dc,I,#[os,bare,un,hok,kb],.inr (Ó fly),tup,hBt,dd,q]
theorem jn(hR:kZ X E):HL X (λ C H1=>E C none H1):=λ XU Z H1 s1 h2 e C vs I hx hE=>by
 exists[t,he,tn,tt],hx.there;have fr0:∀b,b∈frs X.stack->∃o,s1.heap.get? b=ò:=λ b hm=>by exists[_,o',ho',_],I.stack.mem hm;exact#[o',ho']
 have hid:∀b o,s1.heap.get? b=ò->År->ßg ò:=λ b o q hb=>hideAll_get _ q hb;have none_of:∀b,ê s1.heap.get? b->ßg none:=λ b hb=>by
  cases q:(hideAll s1.heap (frs X.stack)).get? b with
  |none=>rfl
  |some o=>exact nomatch hb.symm.trans (of_hideAll _ q)
 have tr:∀b u,H1 b=Ã u->År:=λ b u q hm=>by have:=I.stkFree b hm;ext ÁN q
 have F:Fl X H1 H1 s1 (ů s1 h2) (hideAll s1.heap (frs X.stack)):=#[Ì I.bare,Un.kept hx.keeps,I.hok.kept hx.keeps,λ b o hb ho q=>by
  obtain⟨o1,q1⟩:∃o1,s1.heap.get? b=Ã o1:=by
   ext Ät ho u z o0 z
   .exact lV (I.hok b u z)
   .exact#[o0,z]
  ext ŧ q2 hx.keeps q1;have q':h2.get? b=ò:=q;ext è q' q2 q2;exact hid b o q1 hb]
 have ff:h2.FunFrames (hideAll s1.heap (frs X.stack)) X.stack:=(funFrames_hide I.stack λ env he b hb=>Yn.mpr #[env,he,hb]).of_keeps λ b o q _=>#[o,hx.keeps b o q,rfl]
 exact hR e _ #[XU,Z,H1,H1,s1,_,t,C,vs,none,I,F,Ó #[λ b o q=>hx.keeps b o (of_hideAll _ q),none_of e hx.new,ff,_,È he,rfl],#[_,_,È tt,rfl],none_of t tn,À5 he,hE]
#check 0
section
variable{st:Stmt}{t:TS}
theorem Nd(hR:kZ X E)(h:à1 QS st t):QS X st t:=#[λ XU s Z H D I q=>Z4 (h.h XU s Z H D (I.wish _) q) (Η z z.unwish) λ _ _ ⟨ea,e,x⟩=>by rw[e];exact hR ea _ x]
#check 0
section
variable{k:Nat}{e:XT}
theorem LW(hR:kZ X E)ź(Ög ExI bm)áz ÅM Ä8 :
  æ0 (Pf sp C E ta):=by
 ext Ξ;ext ı D;exists[fI,fd,xc,G,hb],F.ex;have hs1:ú aQ e:=Z9.mp hs e Û;have he:=ŕ aR es es env X.env hs1;have hpl:Ër (·.1)=false:=bQ (by
  rw[Z9];intro y hy;exact Z9.mp hs y (Zh _ hy))
 have hpl':(backTo cpos (starEach ϑ X.env)).any (·.1)=false:=by rw[he];show Ũ (false ||Ër (·.1));rw[hpl];rfl
 rw[arm_exec_Raise];refine z9 (wpAny_standAt (JB (K:=X.K) (EA xc) (I.ok.hd hc) (z9 (Ái (wpAny_Call_ofName (jE I hg hm ? _ hdb)) (λ v s₃ h₃=>Ě z9 wpAny_standAt Zb h₃) x x))));unfold callWith;have hA:=ÕY cpos;rw[he]at hA ⊢;show í (Z0 (Calls.evalArgs_plain (thn hA λ us s1 ⟨vs,H1,I1,r1,hz,hE⟩=>z9 (wpAny_standAt ? _))));exists[nm,q,N,bs,hdct,sn,sub,ab,col,dd,k0,k1,k2,k3,k5,mN,oC,hN,hi,T],vx xc I1.kIn;exists[oI,lI,cI],xc.fn;ext ÉP s1;rw[<-he];ext Ű hpl';show í (wpAny_keeperOf_exc oC ? _);show ÀN (FU PySem.F.excBase_ValueError T oC hN hi (I1.kIn Â lI) cI (Å2 ea mx) (show Ń us.length by rw[<-r1.length];exact hz));exists[t,ht,tn,tt],mx.there;exists[hea0,I2],I1.excMade mx.keeps mx.new ht;ext Ÿ nt t ea ht tt
 have ht0:ê H1 t:=by
  cases q:H1 t with
  |none=>rfl
  |some u =>exists[o,z],lV (I1.hok t u q);exact nomatch tn.symm.trans z
 have hq:=hE ea t hea0 ht0 nt;have hl:ÅC Á9 ea us ps.length:=by rw[<-G.len Β hq,Zo,Zo,r1.length]
 refine wpAny_call (codeAny_mono (G.run _ X.stack Â #[Á9 ea us,[]] (Á9 ea us) (V.ref ea::vs) Â (hr.make C us []) àL (by have:=hb _ (Á9 ea us) I2.kIn (Ă ZQ hl);ext Â1 ZQ) (Ę rfl r1) hq) (Èt hq'));cases r with
 |error e'=>ext À3 hq'
 |ok fl =>
  cases fl with
  |next=>ext À3 hq'
  |brk=>ext À3 hq'
  |cont=>ext À3 hq'
  |ret u =>
   exists[v,H',os',bare,un,hok,r,rfl,dc,hd,hE'],hq';obtain rfl:u=Value.none:=r;have I3:ï H' s':=I2.call' os' un hok bare (Á0 _ z);have notin:∀b,ê hp.get? b->År:=λ b hb hm=>by exists[_,o',ho',_],I1.stack.mem hm;exact nomatch hb.symm.trans ho'
   have hx:s'.heap.get? ea=Éq C dc:=(show Ãr H' s'.heap ea (exN ea C t dc)from I3.hok ea _ hd).1;have ut:ß H1 ea (exN ea C t none) t=none:=Ī nt ht0
   have tt':=un.keep t _ tt ut (notin t tn) nofun;refine#[rfl,z9 (Z0 (wpAny_point (Zb #[Ł ea I3.kIn,È hx,#[È t],? _])))];have hy:s'.heap.get? ea=Éq C dc:=hx;have ne:∀b v,H' b=Ľ->v≠exN ea C t dc->ō ea:=λ b v q hv z=>by rw[z,hd]at q;exact ßH
   have ft:=un.free t _ tt ut nofun;have tr2:∀b v,ÎL H' v t:=λ b v q z=>ÇY ft q
   have tfr:∀b v,H' b=Ľ->År:=λ b v q hm=>by have:=I3.stkFree b hm;ext ÁN q
   ext å2 oe ea mx.new.symm.trans
   ext å2 ot t tn.symm.trans
   have un1:Un (frs X.stack) [] H1 (del H' ea) hp s'.heap:=by
    refine#[à7 un.keep,à7 un.slot,Ķ b o q n hx',ÄK q hx' un.there (mx.keeps b o q) hx',ρ xs q,ÀG v q,ρ ps' q]
    .rw[jc (oe b o q)];exact un.free b o (mx.keeps b o q) (Ī (oe b o q) n) hx'
    .have:=un.tups b xs (Â8 q hea0);rw[jc (Åw ne this)];ext ÀZ
    .have:=un.frzs b o v (Â8 q hea0);rw[jc (Åw ne this)];ext ÀZ
    .exists[more,this],un.tbls b ps' (Â8 q hea0);exact#[more,Áf jc (ne Â this nofun) this]
   have hok1:HOk X.prog X.w (del H' ea) s'.heap:=λ b v q=>by exists[hb,q],IZ q;exact(I3.hok b v q).stay (ÄM z z) (λ b' z=>Áf jc (ne Â z nofun) z) λ b' xs z=>Áf jc (ne Â z nofun) z
   have hid:∀b o,s'.heap.get? b=ò->ō ea->ō t->År->(hideAll s'.heap (ea::t::frs X.stack)).get? b=ò:=λ b o q h1 h2 h3 =>
    hideAll_get _ q λ hm=>by
     ext ÆB hm z hm
     .exact h1 z
     ext ÆB hm z hm
     ext Áj h2 z h3 hm
   have Fx:Fl X H1 (del H' ea) ÊA s' (hideAll s'.heap (ea::t::frs X.stack)):=#[os',bare,un1,hok1,λ b o hb ho q=>by
    ext Ät ho v z o0 z
    .exists[hb',z],IZ z;exact hid b o q hb' (tr2 Â z) hb
    .exact hid b o q (oe b o0 z) (ot b o0 z) hb]
   exact hR ea s' #[XU,Z,H1,del H' ea,_,_,t,Æ C,us,dc,I1,Fx,Ó #[λ b o q=>of_hideAll _ q,hideAll_none _ Zk,
    funFrames_hide I3.stack λ env he b hb=>Zh _ (Zh _ (Yn.mpr #[env,he,hb])),_,hy,î],#[_,_,È tt',rfl],hideAll_none _ (Zh _ Zk),À5 hy,hE']
#check 0
def qt âr:XO:=kla_fn "<lambda>" qual params body scope cl pm (Ï c) ct
def lT âr:Obj:=Ϙ "function" func (ËL qt cl c)
def ie Ō(o:Obj):HO:=.ext λ h=>ϒ a
def lO(c:XH)(qual:Str):HO:=.ext λ h=>Ā h.CodeRec c qual
theorem sQ{h:Heap}(e:ϒ a):Ãk (ie a o):=#[e,#[o,e],λ _ _ x k=>k _ x]
theorem NX{h:Heap}(e:Ā h.CodeRec c q):ObjOk P w H h c (lO c q):=by exists[c',oc,vs,t,e1,e2,e3,e4],id e;cases e1;refine#[e,#[oc,e2],Č h1 h2 x k];exists[c',oc,vs,t,e1,e2,e3,e4],id x;show Ř e1 #[c,oc,vs,t,rfl,k _ e2,e3,e4]
def Blt(h:Heap)(mg:XF):Prop:=∃bm ob,ÁK "__builtins__" bm/\bm≠builtinsNs/\h.get? bm=Ã ob/\ob.cls=.type "module"/\ob.dict=Ã builtinsNs/\ob.data=.plain
section
variable{s:XI}
theorem Inv.bltAt ç(B:Blt X.base X.mg)åu:s.heap.BuiltinsAt X.mg P:=by
 show Áh [bm,ob,b1,b2,b3,b4,b5,b6] B #[bm,ob,b1,b2,ģ z,ģ z,I.bk Â b3,b4,b5,b6]
 .exists[o,es,ep,e,d,_],I.ok.mod.glob;rw[<-z,b3]at e;cases e;ext è d b6 b6
 .have:=(I.bs Â b3).2;ext Ţ z hP this
theorem Inv.grown{h':Heap}{ps more:Array XJ}{t':Nat}ç åu(Øs o P)(hc:s.heap.objs.size<=c)(hf:s.heap.objs.size<=f)(hcf:c≠f)(eP:h'.get? P=Ëz (ps++more))(nc:∀H',Ãr H' h' c oc)(nf:∀H',Ãr H' h' f of'):
  á c/\á f/\ï (upd (upd (ø P åX) c oc) f of') (ÁT h' t'):=by
 ext ě c0 I.hok.fresh hc f0 I.hok.fresh hf;have nP:∀ÏY,H b=Ã u->(∀qs,u≠.tbl qs)->ō P:=fun{b u} e n z=>by ext Ţ z hP e;exact n Än
 have up:∀{b:XH},ō P->ō c->ō f->upd (upd (ø P åX) c oc) f of' b=H b:=fun{b} n1 n2 n3=>by rw[ah n3,ah n2,ah n1]
 have old:∀{b:XH} {o:Obj},Ġ b o->ō c/\ō f:=fun{b o} e=>#[Zz (ZI (Zr e) hc),Zz (ZI (Zr e) hf)]
 have pcf:P≠c/\P≠f:=by have:=I.hok P _ hP;exact old (show Ġ P _ from this)
 refine#[c0,f0,I.un (t':=t') #[Õw o e n k Àm hP o.slots,Ķ Ál _,ÀG e _,ρ xs e,ÀG u e,ρ qs e] (ρ u e)]
 .rw[up (Àm hP n) (old e).1 (old e).2];exact n
 .ext å z b P
  show ÀI #[_,z▸eP] #[o,k b o z e]
 .ext ÏL e
 .ext ÏL e
 .ext å z b P
  .subst z;show π hP e #[more,by rw[ah pcf.2,ah pcf.1,ad]]
  .exact#[Ů,by rw[up z (aq e c0) (aq e f0),e];simp]
 .show ÒF zf f e nf _
  .rw[ah zf]at e;show ÒF zc c e nc _
   .rw[ah zc]at e;ext å zP b P
    .subst zP;ext π ad e eP
    .rw[ah zP]at e;refine(I.hok b u e).stay (λ b' v hb' q=>k b' v (ģ z) q) (λ b' z=>by ext ÏL z) λ b' xs z=>by ext ÏL z
     ext Ś hb' rfl hb'
     .exact zP z
     .ext Ţ z hP hb'
#check 0
theorem Qv ē ĉ{sp:Sp}(S:FnScope N ps scope)ÉE(hbody:∀ ÃS Ë ÆP,Room k (A.deeper (ÅO scope (Ï c')))->sp vs H Q E ->
   ∃ t,PE (ÅY CX (Ï c') s H E) body t/\t (start N vs) H Q):
  FnOk P w K mg base CX Ρ f (ËL qt [] c') ps (äe (ie f (ËL lT [] c'))):=by
 refine#[λ vs H Q E h=>len Β h.2.2,λ A outer s H args us vs Q E hr e0 hb r ⟨hf,hc,hsp⟩=>? _];have hl:=len Β hsp;ext ÔP;have hkind:∀y∈ps.zip us,Üb:=fun⟨n,v⟩ hy=>by
  ext åC
  .show ſ #[q,W.cellsFrom_some ì (Ó q)]
 have of1:=(e0.hok f _ hf).1;have oc1:=(e0.hok c' _ hc).1;refine âk (hb Â ÁZ);show Ûa #[lim.keeps x.toInCall.keep,kla_codeExpr ? _] (ÅY CX (Ï c') s H E) (ο u s');show þ [v,H',J,rv,q] hz9 ÖA
def aX(q:Str)(P:XH)(pos:Pos)Ë:Prop:=∃ps:Array XJ,H P=ą tbl ps/\TriplesOk ps.toList/\(codeAmong pos ps.toList=none\/∃c',codeAmong pos ps.toList=Ö c'/\H c'=Ã (lO c' q))
def SameT(P:XH)(H H':Hp):Prop:=ÌC P
theorem SameT.of(s:ó):SameT P H H':=λ b o e _=>s b o e
theorem SameT.trans(s:SameT P H H')(t:SameT P H' H2):SameT P H H2:=ÄK e n t (s Ál) n
theorem su{x y:Int}:∀l:XG,TriplesOk l->TriplesOk (l++[İ x a,İ y b,c])
 | [],_=>trivial
 |İ Â::İ Â::_::rest,h=>su rest h
structure LamOk Ãs À1(qual:Str)(body:XT)(scope:Scope)(x:Str)(sp:Sp):Prop where
 ex:∃N:(Ä Str),FnScope N [x] scope/\(∀vs H Q E,sp vs H Q E->vs.length=1)/\∀(f c':XH) ÃS Ë ÆP,Room k (A.deeper (ÅO scope (Ï c')))->sp vs H Q E ->
  ∃t,QE (ÅY CX0 (Ï c') s H E) body t/\t (start N vs) H Q
def Nk Ō(tabs:Ŋ XH XH)Ë:Prop:=∀b,á b\/(b=a/\∃o xs,H b=Ě Ã ÁQ Õ xs)\/((ÈM)/\H b=Èw)
theorem Lb{P:XL}{w:XM}ē{mg mb:XF}ĉ{fa a:XH}{fd:XO}{x:Str}{sp:Sp}{s:XI}{vs:XG}{ns:XQ}{tabs:Ŋ XH XH}(kx:K.In s.heap)(gx:s.heap.Ns mainGlobals mg)(bx:s.heap.Ns builtinsNs mb)(bb:∀y:Str,y≠"__name__"->mb y=bootBuiltins y)(nl:s.heap.NoLimit)(gn:s.gens=Ů)(bl:Blt s.heap mg)(tx:∀q∈tabs,Ìi s.heap q q.2/\s.heap.get? q.2=some (tabObj Ů))(nt:ú noTabs K)(sa:Į s.heap.get? a (Ϙ ÐY))(si:IntsAre vs ns)(sl:Ń ns.length)(hr:Room k callerA)(F:∀base:Heap,K.In base->base.Ns mainGlobals mg->Blt base mg->(∀q∈tabs,Ìi base q q.2)->Î8 P K k fa [x] sp)(bind:ÏX u x)(go:∀H:Hp,(∀q∈tabs,H q.2=Èw)->Ð0->sp [Æ a] H (λ v _=>v=.bl true) (Η _ False)) :
  ÓF P s.heap s.os s:=by
 have tabNot:∀{b:XH} {c:XH},(c,b)∈tabs->ê K.lookup b:=fun{b c} hm=>by
  cases e:K.lookup b with
  |none=>rfl
  |some o =>have e1:=(kx b o e).symm.trans ÍD;cases e1;have:=Z9.mp nt _ (mem_of_lookupK e);cases this
 have aNot:∀{c:XH},¬(c,a)∈tabs:=fun{c} hm=>by have:=ÍD;ext ÁN sa
 have main:∀H:Hp,Nk a tabs H->(∀q∈tabs,H q.2=Èw)->Ð0->HOk P w H s.heap->(H a≠none->ê K.lookup a) ->
   ÓF P s.heap s.os s:=by
  intro H ae ht hS ok ha;have free:∀{b:XH} {o:Obj},Ġ b o->(∀n m,o.data≠.seq n m)->(∀n,o.data≠.fields n)->á b:=fun{b o} e n1 n2=>by
   rcases ae b with z|⟨rfl,_⟩|⟨⟨c,hm⟩,_⟩
   .exact z
   .ext è sa e e;show ĕ rfl (n1 Â)
   .rw[ÍD]at e;cases e;show ĕ rfl (n2 _)
  have nsB:∀{b:XH} {m:XF},s.heap.Ns b m->(nW s.heap H).Ns b m:=fun{b m} ⟨o,es,ep,e,d,r⟩=>#[o,es,ep,ql e (free e (λ _ _ z=>Ϝ d z) λ _ z=>Ϝ d z),d,r]
  have kB:K.In (nW s.heap H):=λ b o e=>ql (kx b o e) (by
   rcases ae b with z|⟨rfl,o',xs,z⟩|⟨⟨c,hm⟩,_⟩
   .exact z
   .show ώ ha (ÇR z) e
   .ext ώ tabNot hm e)
  have bB:Blt (nW s.heap H) mg:=by exists[bm,ob,b1,b2,b3,b4,b5,b6],bl;exact#[bm,ob,b1,b2,ql b3 (free b3 (λ _ _ z=>Ϝ b6 z) λ _ z=>Ϝ b6 z),b4,b5,b6]
  have cB:∀q∈tabs,Ìi (nW s.heap H) q q.2:=λ q hq=>by
   exists[o,ws,file,tf,fl,tg,inF,text,tt,c1,c2,c3,c4],(tx q hq).1;refine#[o,ws,file,tf,fl,tg,inF,text,tt,ql c1 ? _,c2,c3,c4];rcases ae q.1 with z|⟨z,_⟩|⟨⟨c,hm⟩,_⟩
   .exact z
   .ext Ţ z sa c1;ext ÂV c2;exact ÐQ c2
   .rw[ÍD]at c1;ext ÁH c1 c2
  have mB:Mod K mg (nW s.heap H):=#[kB,nsB gx,#[mb,nsB bx,bb],let⟨mc,n1,n2⟩:=nl;#[mc,nsB n1,n2]]
  have env:Env0 P w K mg (nW s.heap H) callerA [] s H:=#[Ì mB,λ b o e=>Oj e,Xd (Iy Â),trivial,Â2 b hb (ÑR hb),ok,.of_eq gn]
  refine codeAny_mono ((F _ kB (nsB gx) bB cB).run callerA [] s H #[ġ a,[]] [Æ a] [Æ a] Â hr env (bind s Ϗ) (Ę rfl ė) (go H ht hS)) (Èt h);cases r with
  |error e=>ext À3 h
  |ok fl =>
   cases fl with
   |next=>ext À3 h
   |brk=>ext À3 h
   |cont=>ext À3 h
   |ret u =>
    exists[v,H',os,bare,un,ok',rv,hv],h;obtain rfl:v=.bl true:=hv;obtain rfl:u=Value.bool true:=rv;have each:∀b o,Ġ b o->asItWas s.heap s'.heap b o/\∃o',s'.heap.get? b=Ã o':=λ b o e=>by
     rcases ae b with z|⟨rfl,o',xs,z⟩|⟨⟨c,hm⟩,z⟩
     .have:=un.keep b o e z (by intro q;show ĕ (ÑR q) Û) Û;exact#[Ó this,_,this]
     .exists[e1,_],ok b _ z;exists[e2,_],ok' b _ (un.frzs b o' _ z);show π e e1 #[Ó e2,_,e2]
     .exists[more,z2],un.tbls b _ z;have e2:s'.heap.get? b=Ëz (#[]++more):=ok' b _ z2;have e1:=ÍD;show π e e1 #[.inr (Ó #[(((tx _ hm).1).tab e).isCodeTable,rfl,#[],È more,e2]),_,e2]
    exact#[rfl,#[Õr each,λ b o e=>(each b o e).2],os,bare]
 have rv:=zJ si;have lv:=si.length;have inT:∀b,Decidable (ÈM):=λ b=>Classical.propDecidable _;cases hk:K.lookup a with
 |some o =>
  have e:=kx a o hk;ext è sa e e;refine main (λ b=>@ite _ (ÈM) (inT b) (Ù (.tbl Ů)) none) (ģ b) (λ q hq=>XC #[q.1,hq]) (ā #[_,vs.toArray,_,hk,î,rfl,by rw[Zl,lv];exact sl,û rv]) (ρ u z) (ÅE z (XB fun⟨c,hm⟩=>aNot hm) z)
  .by_cases c:ÈM
   .show ſ (ā #[c,XC c])
   .exact Α (XB c)
  .ext âL
   .ext åb;cases z'
 |none =>
  refine main (λ b=>@ite _ (ÈM) (inT b) (Ù (.tbl Ů)) (Ïo b a some (.frz (Ϙ "list" seq vs.toArray) (Õ (ns.map V.int))))) (ģ b) (λ q hq=>XC #[q.1,hq]) (Ó (ā #[Ϙ ÐY,(XB fun⟨c,hm⟩=>aNot hm).trans (XC rfl)])) (ρ u z) (ę hk)
  .by_cases c:ÈM
   .show ſ (ā #[c,XC c])
   .ext å hb b a
    .show ſ (Ó #[hb,_,_,(XB c).trans (XC hb)])
    .exact Α ((XB c).trans (XB hb))
  .ext âL
   .ext åb;ext å hb b a
    .ext ώ XC hb z';show Âb hb #[sa,Ă Za sl,vs,_,rv,sa]
    .ext ώ XB hb z'
theorem Fun.okC ē{st:Stmt}ĉ Ï4(hc:fd.code=Æ c)Ñd ÉE(body:∀ ÃS Ë ÆP,Room k (A.deeper (ÅO (ao st) (Ï c)))->sp vs H Q E ->
   ÓY QB (Ï c)):ă ÔD:=by
 ext ÏB;obtain rfl:cdv=Æ c:=hc;refine F8 lk hcd S len λ A outer s H vs Q E hr hs=>? _;exists[t,h,q],body A outer s H vs Q E hr hs;exact#[t,h.h.nox,q]
set_option tactic.hygienic true in theorem Ml ē(Öp a f)(l:Ù0 sl)(t:tabIn K x=Ã (c,P)):fd.code=Æ c:=by
 ext Ĝ tabIn t;rw[a]at t;ext Âw t;rw[l]at t;ext Âw t;split at t
 .rename_i c' e;rw[e];split at t
  .split at t
   .ext ϖ t
   .cases t
  .cases t
 .cases t
inductive SKey where
 |i (n:Int)|s (t:Str)|bi (b:Bool)(n:Int)
def SKey.at Ë:SKey->Þ V
 |.i n,v=>v=Í n
 |.s t,v=>v=Î t
 |.bi b n,v=>∃a,ÄU/\H a=Ã (Ò [.bl b,Í n])
section
variable{X:Cx}{XU:XD}{Z:St}{H:Hp}{s:XI}
def AE(ÉC f XH)(sp:Sp):Prop:=∀(s:XI) Ë (u:XJ) (v:V) (Q:VK),ï ķ->RelV v u->sp [v] H Q E0->Ä0 codeAny X.A.in1.in1 (.call (Ï f) #[[u],[]]) (CR CX0 X.stack X.prog X.w ķ Q E0) s
theorem E7 ĉ(F:ÃO FnOk CX0 k f fd [x] sp)(hb:∀(s:XI) (u:XJ),X.K.In s.heap->BindsTo s fd Õe)(hr:Room k X.A.in1.in1):∀l,AE (wX X l) XU Z f sp:=λ l s H u v Q I ru hs=>by
 ext Þ3 env
 exact F.run X.A.in1.in1 X.stack s H #[[u],[]] [u] [v] Q E0 hr env (hb s u I.kIn) (Ę ru ė) hs
structure SG(Ón SKey)Ïi Ë(s:XI):Prop where
 I:ï ķ
 sm:Same H1 H
 fk:cE X XU H kS
 fd:cE X XU H D
 bk:ê X.base.get? kS
 bd:ê X.base.get? D
 hk:ÌH s.heap.get? us
 hd:Ġ D (ÂS e1)
 ns:s.heap.Ns X.env.locals m
 vals:Vals as us
 keys:∀(Ŏ i a V) (k:SKey),Ý as a->Ý ks k->k.at Ω
theorem Dz(b:Bool)(h:Vals xs us):Vals (katRev b xs) (katRev b us):=by
 cases b with
 |false=>exact h
 |true =>
  show Vals xs.reverse us.reverse;induction h with
  |nil=>exact ė
  |cons r _ ih =>rw[List.reverse_cons,List.reverse_cons];exact ih.append (Ę r ė)
theorem EK(n m:Int):HT.lexLt [n] [m]=Å4 n m:=by
 rw[HT.lexLt_cons,HT.lexLt_nil_nil];ext å z n m
 .rw[XC z,decide_eq_false (ÁU (Àd (ÿ Ć Ê (ÿ Ê ÂE)) ÂA q (Int.le_of_eq z.symm)))]
 .rw[XB z]
#check 0
structure LamScope(x y:Str)(sc:Scope):Prop where
 kind:sc.kind=.function
 co:Ũ sc.isCoroutine
 gen:Ũ sc.isGenerator
 lx:sc.names.lookup x=Äw
 ly:sc.names.lookup y=Às
 nc:∀z∈sc.names,z.2≠.cell
 nf:∀z∈sc.names,z.2=.free->z.1=y
 ne:x≠y
def cxX ÚF Ýd(cl:ő XH)(Ŧ A XN outer Env)(s:XI)Ë(E:XK):Cx where
 prog:=P
 w:=w
 K:=K
 mg:=mg
 base:=base
 A:=A.deeper (Îu cd cl)
 N:=N
 s₀:=s
 H₀:=H
 env:=envX qual scope s.heap.objs.size f cd cl
 outer:=outer
 stack:=envX qual scope s.heap.objs.size f cd cl::outer
 ex:=[]
 calm:=true
 fn:=ę false
 pn:=[]
 xe:=âD Îu cd cl
set_option tactic.hygienic true in theorem Ge ē{A:XN}{h1:Heap}{tk:Nat}(ßu LamScope x y)(r:RelV v u)(kr:RelV kv ku)(hc:s.heap.IsCell c (Ù ku))(fc:á c)(hns:h1.Ns s.heap.objs.size λ z=>[(x,u)].reverse.lookup z)ßR:
  Inv (Òr CX cd H E) [] [Ľ,Ã kv] H (ÁT h1 tk):=by
 have noA:∀b:XH,b∉(Òr CX cd H E).ex:=Â2 b z (ÑR z);have lk:∀{z:Str} {d:XH},([(y,c)]:ő XH).lookup z=Ã d->z=y/\d=c:=fun{z d} h=>by
  rw[Z6]at h;split at h
  .rename_i e;show Ř h #[û e,rfl]
  .cases h
 have ly:([(y,c)]:ő XH).lookup y=Ã c:=Ĵ
 have cell1:h1.IsCell c (Ù ku):=μ [o,a1,a2] hc #[o,hk Â a1,a2]
 refine#[#[e0.mod,S.kind,î,Zf _,Ķ z z' d q1 q2,Ø z hz,λ z d q _=>(Ş q),ę hd,ÝH,e0.frf],
  Ì e0.bare,Un.kept hk,#[_,hns,ŗ i z v' q1 q2 q3],λ z d q=>#[Ã ku,by rw[(lk q).2];exact cell1],e0.hok.fresh (Zf _),λ z d q=>by rw[(lk q).2];exact fc,Ñ9,e0.hok.kept hk,rfl]
 .exact(lk q1).1.trans (lk q2).1.symm
 .have hz:Èm scope.names.lookup z ÃH Às:=hz;ext Ś hz hz hz
  .show ĕ rfl (S.nc _ (YH hz))
  .exact#[c,by rw[show z=y from S.nf _ (YH hz) rfl];exact ly]
 .match i,q1,q2 with
  |0,q1,q2 =>cases q1;show Ř q2 #[u,r,Ó #[S.lx,Ĵ]]
  |1,q1,q2 =>cases q1;show Ř q2 #[ku,kr,.inr #[ā S.ly,c,ly,cell1]]
  |i+2,q1,_=>simp[cxX]at q1
section
variable{X:Cx}
theorem BX(ş k j){sp:Sp}(S:LamScope x y scope)(hi:Ŗ X.N y)(hZ:ÇV j kv)(Úh c)(hr:Ç3 X.A.in1.in1)(hbd:∀ (s:XI) (u:XJ),BindsTo s (ËL qt [(y,c)] c') Õe)(hbody:∀ ÃS Ë (v:V) (Q:VK),Room k (A.deeper (Îu (Ï c') [(y,c)]))->sp [v] H Q E0 ->
   ∃ t,PE (cxX CX0 X.prog X.w X.K X.mg X.base [x,y] qual scope f (Ï c') [(y,c)] A outer s H E0) body t/\t [Ľ,Ã kv] H Q):
  ∀l,AE (wX X l) XU Z f (äe (ie f (ËL lT [(y,c)] c'))):=by
 intro l s H u v Q I ru ⟨hf,hc,hsp⟩;ext Þ3 e0
 ext ÔP;have of1:=(e0.hok f _ hf).1;have oc1:=(e0.hok c' _ hc).1;exists[m,_,look],I.loc;exists[ku,kr,lk],look j y kv hi hZ (.inr (Ó hyc));have cell:s.heap.IsCell c (Ù ku):=by
  rcases lk with⟨z,_⟩|⟨_,d,e1,e2⟩
  .have z':X.env.scope.names.lookup y=Äw:=z;ext è hyc z' z'
  .have e1':X.env.cells.lookup y=Ã d:=e1;ext π hcy e1' e2
 have fc:á c:=I.freeC y c hcy;refine âk (hbd s u Â ÁZ);refine wpAny_newFunctionEnv S.nc (Ø z hz) (λ h1 hns hsb=>#[lim.keeps ? _,kla_codeExpr ? _]) S.kind
 .rw[Zg.mp hz];exact S.lx
 all_goals have hk:∀b o,Ġ b o->h1.get? b=ò:=Æx e hsb.extBut (Zz (Zr e)) (Zd _ e)
 .exact hk
 .exists[t,ht,hq],hbody X.A.in1.in1 X.stack s H v Q (hr.deeper _) hsp;have I2:=ÃK Ge CX CX0 qual qual f f (cd:=Æ c') (E:=E0) (tk:=s.toks+1) S hr.hd e0 ru kr cell fc hns hk;refine Z4 (ht [] Â H _ I2 hq) (ο u s') λ e s' hs=>hs;show þ [v,H',J,rv,q] hz9 ÖA
#check 0
section
variable{X:Cx}{c P:XH}{params:Arguments}{body:XT}{scope:Scope}{pos:Pos}{cl:ő XH}
def wP(cl:ő XH)(ŵ P XH)(params:Arguments)(body:XT)(scope:Scope)(pos:Pos):TE:=λ _ H Q=>∃ps:Array XJ,H P=ą tbl ps/\TriplesOk ps.toList /\
 ((∃ c',codeAmong pos ps.toList=Ö c'/\H c'=Ã (lO c' Á6)/\∀ f ct,á f->Đ f (ø f (ie f (Éc lT Á6 cl)))) \/
  (codeAmong pos ps.toList=none/\∀ f c' ct,á f->á c'->c'≠f->Đ f (upd (upd (ø P (.tbl (ps++(List.toArray [rawInt pos.line,rawInt pos.col,Æ c'])))) c' (lO c' Á6)) f (ie f (Éc lT Á6 cl)))))
theorem yd(hcode:X.env.code=Æ c)(hge:X.env.globals=mainGlobals)(C:CodeHd X.base c P)(B:Blt X.base X.mg)(hdef:ßM)(hcl:closureFor scope X.env=pure cl):PE X (.Lambda params body scope pos) (Ñe cl pos):=by
 ext ı Q;exists[ps,hP,ht,hh],h;have oP:Į s.heap.get? P (tabObj ps):=I.hok P _ hP;have hg:s.heap.Ns mainGlobals X.mg:=I.ok.mod.glob.keeps I.bk;have hb:=I.bltAt B hP;refine kla_eval hdef ? _;rcases hh with⟨c',hf,hc',q⟩|⟨hnf,q⟩
 .refine æ3 kla_makeFunctionHit ht hf hb (Ķ ct h' tk kp hsz);have hn:=I.hok.fresh hsz;exact#[Æ _,_,Ùh (Àu o e (kp b o e)) hsz (sQ (ĸ)),rfl,q _ ct hn]
 .have hgP:mainGlobals≠P:=λ z=>by exists[o,es,ep,e,d,_],hg;ext Ţ z oP e;cases d
  refine æ3 kla_makeFunction ht hnf hgP hb λ c' ct h' tk hx hge' hlt hrec htb=>? _;have hnF:c'≠h'.objs.size:=Zz hlt;exists[i1,i2,i3],ÃK I.grown t' tk c c' f h'.objs.size (h':=h'.push (Éc lT Á6 cl)) (oc:=lO c' Á6) (of':=ie h'.objs.size (Éc lT Á6 cl)) hP
   (λ b o hb' e=>Zd _ (hx b o hb' e)) hge' (Zn hge' (Xo hlt)) hnF (Zd _ htb) (λ _=>NX (by
    show þ [c₂,oc,vs,t,e1,e2,e3,e4] hrec #[c₂,oc,vs,t,e1,Zd _ e2,e3,e4])) (λ _=>sQ (ĸ))
  exact#[Æ _,ś _ i3,q _ c' ct i2 i1 hnF]
structure LamOkX Ãs À1(qual:Str)(body:XT)(scope:Scope)(x y:Str)(sp:V->Sp):Prop where
 sc:LamScope x y scope
 ex:∀(f c' c:XH) (kv:V) ÃS Ë (v:V) (Q:VK),Room k (A.deeper (Îu (Ï c') [(y,c)]))->sp kv [v] H Q E0 ->
  ∃t,QE (Òr CX0 (Ï c') H E0) body t/\t [Ľ,Ã kv] H Q
def sC(ŵ P XH)(q:Str)(lpos:Pos)(ÛW H1 Hp f H2):Prop :=
 ∃(c':XH) (ct:XJ),SameT P H1 H2/\aX q P lpos H2/\Į H2 f (ie f (Éc lT q cl))/\H2 c'=Ã (lO c' q)/\f≠P/\c'≠P
theorem uA{R:VK}(tab:aX Á6 P lpos H1)(h:∀f H2,Ýo cl->Ā R f H2):wP cl X P params body scope lpos Z H1 R:=by
 show Áh [ps,tP,t3,tc] tab #[ps,tP,t3,? _];rcases tc with hno|⟨c',hy,hc'⟩
 .refine .inr #[hno,λ f c' ct f0 c0 hcf=>h ÁZ];ext Ÿ nPf f P tP f0
  ext Ÿ nPc c' P tP c0
  refine#[c',ct,ÀG e hb,#[_,by rw[ah (Z7 nPf),ah (Z7 nPc),ad],? _,ā #[c',? _,by rw[ah hcf,ad]]],ad,ÍR hcf,nPf,nPc]
  .rw[ah (aq e f0),ah (aq e c0),ah hb];exact e
  .rw[Array.toList_append];exact su _ t3
  .rw[Array.toList_append];exact codeAmong_snoc _ t3 hno
 .refine Α #[c',hy,hc',λ f ct f0=>h ÁZ];ext Ÿ nPf f P tP f0
  ext Ÿ nPc c' P tP hc'
  exact#[c',ct,λ b o e hb=>Â8 e f0,#[ps,Ī (Z7 nPf) tP,t3,ā #[c',hy,Â8 hc' f0]],ad,Â8 hc' f0,nPf,nPc]
#check 0
open PySem PyProof.Rows PySem.W
open PySem PyProof.Rows PySem.W
section
variable{prog:XL}{w:XM}{A:XN}{s:XI}{κ:SortKind}{it:Array Keyed}{lt:XS}{N:Nat}{st:SortSt}
def Zc ÜP:Prop :=
 ãq N kas_cmp it
#check 0
open PySem PyProof.Rows PySem.W
section
variable{lt:XS}
theorem sI(p:XR)À1:gA p k=p.toList.getD k 0:=by unfold gA;rw[Yo,ZL,Yz]
structure MF(lt:XS)(N:Nat)(a b:XR):Prop where
 sa:ÍB a.size a i j
 sb:ÍB b.size b i j
 cr:∀i j,i<a.size->j<b.size->Ņ lt (gA b j) (gA a i)->ÐJ a i b j
 na:∀i,i<a.size->gA a i<N
 nb:∀i,i<b.size->gA b i<N
 a0:0<a.size
 b0:0<b.size
 fst:Ď lt (gA b 0) (gA a 0)
 lst:∀j,j<b.size->Ď lt (gA b j) (gA a (a.size-1))
variable{N:Nat}
#check 0
open PySem PyProof.Rows PySem.W
open PySem PyProof.Rows PySem.W
open PySem PyProof.Rows PySem.W
open PySem PyProof.Rows PySem.W
section
variable{prog:XL}{w:XM}{A:XN}{s:XI}{κ:SortKind}{it:Array Keyed}{lt:XS}{N:Nat}{st:SortSt}{pre:XR}
structure Zp ÜP(st:SortSt)(pre:XR)Ė:Prop where
 Zq0:Zc prog w A s κ it lt N
 hk:kindOf st=κ
 hN:pre.size+n=N
 n0:0<n
#check 0
open PySem PyProof.Rows PySem.W
section
variable{lt:XS}(O:LtOk lt){N:Nat}
include O
#check 0
open PySem PyProof.Rows PySem.W
section
variable{lt:XS}
def MA(lt:XS):Nat->List (Ä Nat)->ÃI (Nat×Nat×Nat)
 |_,[],[]=>True
 |b,r::rs,t::ts=>t.1=b/\t.2.1=r.length/\0<r.length/\r.Pairwise (Lx lt)/\r.Perm (List.range' b r.length)/\MA lt (b+r.length) rs ts
 |_,_,_=>False
variable{κ:SortKind}{it:Array Keyed}{N:Nat}{st:SortSt}
structure RI(κ:SortKind)(it:Array Keyed)(lt:XS)(N lo:Nat)(ÄO T)(p:XR)(rs:List (Ä Nat))(st:SortSt):Prop where
 hk:kindOf st=κ
 hf:ê failedOf st
 ha:arrOf st=p.map (kas_item it)
 hp:p.toList=rs.flatten++T
 pm:p.toList.Perm (List.range N)
 rl:MA lt 0 rs (pendingOf st).toList
 hl:rs.flatten.length=lo
#check 0
open PySem PyProof.Rows PySem.W
theorem iB à(h:n<=4096):Ń n:=Ż sizeLine_eq
section
variable{prog:XL}{w:XM}{A:XN}{E:XE}{s:XI}{h₀:Heap}{L a kS:XH}{m:XF}{news:XD}{vs ks:XG}
theorem xy{Q:ű XG}ãu à ÂP(hr:IsRange s.heap r lo hi 1 t u v)(hsmall:Builtin.Range.small lo hi 1=true)(hn:Builtin.Range.rangeSize lo hi 1=n)(hlen:n<=2^24)(h:∀h' tk acc,(ÄH o)->ItemsOf (λ i v=>∃t,v=İ (lo+i*1) t) acc n->Ã1 Q acc.toList tk):Ãc collect r:=by
 show ξ collect (wpAny_runValue (codeAny_builtin F.entry_proto_collect ? _));rw[Around.under_plainId F.plain_proto_collect _];show wpAny _ A.in1 (newList [] >>= λ q=>again (.builtin "list.__iadd__" #[[q,Æ r],[]])) Â s;show í (ZM (Zb #[plainId_quiet F.plain_list_iadd _,codeAny_builtin F.entry_list_iadd ? _]));rw[Around.under_plainId F.plain_list_iadd _];show wpAny _ A.in1 (Ā Builtin.List.listExtendWith s.heap.objs.size (Ï r) (Ï s.heap.objs.size)) ì;refine wpAny_extend_range (A:=A) (R:=λ r s'=>match r with
  | .ok (.ret v)=>ċ (match v with
   |Æ a=>do
    let o ←load a
    match o.data with
    |.seq xs _=>pure xs.toList
    |_=>unsupported "internal:collect"
   | _=>unsupported "internal:collect") Q E s'
  |.ok _=>False
  | .error e=>E e s') (s:={ s with heap:=s.heap.push { cls:=.type "list",data:=.seq ([]:XG).toArray } }) hh (Zd _ hr) hsmall hn hlen s.heap.objs.size _ 0 (ĸ) (Áp h' tk acc c hk hS hacc)
 show wpAny _ A (load s.heap.objs.size >>= _) ì;show í (wpAny_load hS (Zb ? _));exact h h' tk acc (Æx e hk (Zz (Zr e)) (Zd _ e)) hacc
def ZGo àW(F:ű XG)(κ:SortKind)(s:XI):Prop :=
 ∃lt:XS,LtOk lt/\(ãq vs.length kas_ask (katRev b ks)) /\
  ∀p:XR,POk vs.length p->LS lt p vs.length->F (katRev b (åc vs)) s
def FM àW(F:ű XG)(s:XI):Prop :=
 (2<=vs.length->ċ (keyKind' (List.toArray ks)) (ZGo prog w A b ks vs F) (Âp) s)/\(vs.length<2->F (katRev b ((Ŷ vs.length map) λ i=>ËK vs)) s)
theorem FA{b:Bool}{st:SortSt}(ş e e1){out:XG}{P:ű PySem.Fin}(ho:ũ arrOf st (·.2)=List.toArray out)(hz:out.length<=4096)(hq:ks.length<=4096)(hf:ê failedOf st)(h:KatFin h₀ L m kS a ks e e1 (katRev b out) (λ s'=>P (.done (.ret Àl)) s') s):ċ (ksk_tail a b e1 (Ï kS) st) P E s:=by
 ext â1 kq h ks;ext Ø2 kS;obtain⟨ck,hck⟩:∃z,(Ío kS).get? kS=Ã (Ào Ů z):=#[_,get?_update_seq ak.1 (ę #[])]
 have K2:=ãa kq ck hck;show Àp [nw2,g2,F2,N2,U2,k2] K2 [m1,m2,e2,hg2,y1,y2] U2.split;rw[e2]at N2;have aa:=N2 (a,ÂS e1) (Éw ZW);have s2:=ZV (Ío kS) a (Obj.mapSeq ØR);have hsz:(List.toArray (katRev b out)).size=out.length:=ÀK Zl kat_len
 obtain⟨c2,hc2⟩:∃z,((Ío kS).update a (Obj.mapSeq ØR)).get? a=some (Ào (List.toArray (katRev b out)) z):=#[_,get?_update_seq aa.1 ØR]
 unfold ksk_tail;ext ň;rw[ho,kat_outs];refine z9 (listUpdate_at ak.1 rfl (z9 (wpAny_letGo (z9 (seqEpoch_at aa.1 rfl (z9 (listUpdate_at aa.1 ÄE (ZA _) (Zn (Xd hsz) (Nat.le_succ_of_le (iB hz))))))))) (Ŕ Zl iB hq) (ZA _));rw[hf];simp only[bne_self_eq_false,YY,Y4];refine Zb (k2 _ c2 (kas_fr F2 s2 aa.2.1 aa.2.2) ? _);rw[hg2];exact news_set N2 y1 y2 s2 hc2
theorem Fz{Fin:XG->ű Nat}à{body:XJ->PUnit->Sem (ForInStep PUnit)}(hn:n<=4096)(hb:∀ x ks e (s:XI) (C:XJ->ű Nat),List.length ks<4096->ċ (call f [x]) (KatBack h₀ L m kS ks e C) (Âp) s ->
   ċ (body x ⟨⟩) (λ r s'=>r=.yield ⟨⟩/\∃ k c,Į s'.heap.get? kS (Ào (List.toArray (ks++[k])) c)/\C k c s') E s):∀ (r qs:XG) (Ŏ e s XI),qs.length+r.length=n ->
   ÌH s.heap.get? qs->ËC A Fin r qs e s ->
   ċ (forIn r PUnit.unit body) (λ _ s'=>∃qs e,ÌH s'.heap.get? qs/\qs.length=n/\Fin qs e s') E s
 | [],qs,e,s,hl,hq,h=>ÄL List.forIn_nil Zb #[qs,e,hq,û hl,h]
 |x::r,qs,e,s,hl,hq,h=>by rw[Zo]at hl;rw[List.forIn_cons];show ÀN (Ái (hb x qs e s (λ k c s'=>ËC A Fin r (qs++[k]) c s') ∅ h) (Ú z s' hz) x x);exists[rfl,k,c,hk',h2],hz;exact Fz hn hb r (qs++[k]) c s' (by rw[Zm,y9];exact Nat.le_antisymm (â (Åj Ê) Ô (ÎJ 1 a 2) æ (Nat.le_of_eq hl)) (â Ç ÎA (ć Éj) æ (Nat.le_of_eq hl.symm))) hk' h2
#check 0
def dh:XQ->XQ->XQ
 | [],ns=>0::ns
 |p::ps,ns=>1::p::dh ps ns
theorem Ey:∀(ps ns qs ms:XQ),HT.lexLt (dh ps ns) (dh qs ms)=if ps=qs then HT.lexLt ns ms else HT.lexLt ps qs
 | [],ns,[],ms=>by rw[dh,dh,HT.lexLt_cons,XC rfl,XC rfl]
 | [],ns,q::qs,ms=>by rw[dh,dh,HT.lexLt_cons,ÃN,XB Û];rfl
 |p::ps,ns,[],ms=>by rw[dh,dh,HT.lexLt_cons,ÃN,XB Û];rfl
 |p::ps,ns,q::qs,ms=>by
  rw[dh,dh,HT.lexLt_cons,XC rfl,HT.lexLt_cons,Ey ps ns qs ms,HT.lexLt_cons];ext å h p q
  .subst h;rw[XC rfl,XC rfl];ext å h2 ps qs
   .rw[XC h2,XC (by rw[h2])]
   .rw[XB h2,XB (Ùf h2)]
  .rw[XB h,XB (Ùf h),XB h]
inductive ZKey where
 |i (n:Int)|t (ns:XQ)|p (ps ns:XQ)
def ZKey.nums:ZKey->XQ
 |.i n=>[n]
 |.t ns=>ns
 |.p ps ns=>dh ps ns
def ZKey.at Ë:ZKey->Þ V
 |.i n,v=>v=Í n
 |.t ns,v=>∃a,ÄU/\Ϛ a ns.map
 |.p ps ns,v=>∃a b c,ÄU/\H a=Ã (Í1 Æ b c)/\Ϛ b ps.map/\Ϛ c ns.map
theorem ZKey.at.same(sm:ó):∀{k:ZKey} {v:V},k.at H v->k.at H' v
 |.i _,_,h=>h
 |.t _,_,⟨a,e,h⟩=>#[a,e,ÂC h]
 |.p Â,_,⟨a,b,c,e,h1,h2,h3⟩=>#[a,b,c,e,ÂC h1,ÂC h2,ÂC h3]
def Hq(ks:Ä ZKey):Prop:=∀k∈ks,∃ps ns,k=.p ps ns
theorem Ez{A:XN}{ns ms:XQ}ç(hu:Ìe 64)(ha:Ϛ a ns.map)(hb:Ϛ b ms.map):SeqAt.EqAt A s Ϗ (Ï b) (Ài ns ms):=by exists[as,r1],Úz a ha rfl;exists[bs,r2],Úz b hb rfl;rw[<-iL];ext ě s1 cL ns s2 cL ms;refine SeqAt.eqAt_reads Â A s Â as bs r1 r2 (SeqAt.canLay_of_shaped s1) (SeqAt.canLay_of_shaped s2) ? _;have d1:=SeqAt.depth_of_shaped s1;have d2:=Nat.min_le_left (PyData.tuple Êu).depth (PyData.tuple (ms.map .int)).depth;exact â (.p ÀJ đ) Ô (Ñ Èk (ÆK n 64 (ć (.p (ι a 0 n 64) đ) Ô))) Ŭ d2 d1 hu
theorem DP{Q:ű Bool}(e1:SeqAt.EqAt A s (Ï b) (Ï b') (Ài ps qs))(e2:SeqAt.EqAt A s (Ï c) (Ï c') (Ài ns ms))(l1:åF ps qs b b')(l2:åF ns ms c c')(hf:Ũ fin)(q:Q (HT.lexLt (dh ps ns) (dh qs ms)) s):KatLex prog w A false fin Q ([Value.ref b,Æ c].zip [Value.ref b',Æ c']) 0 s:=by
 subst hf;rw[Ey]at q;refine kat_cons (e1 Β (Ám kat_go et ef))
 .rw[XC (Z5 et)]at q;refine kat_yes (kat_cons (e2 Β (Ám kat_go et2 ef2)))
  .have z:=Z5 et2;subst z;have e:Ņ HT.lexLt ns ns:=by
    cases h:HT.lexLt ns ns with
    |false=>rfl
    |true=>ext ώ B7 h h
   rw[e]at q;exact kat_yes (kat_nil q)
  .exact kat_no (kat_one Â (l2 _ q))
 .rw[XB (Xs ef)]at q;exact kat_no (kat_one Â (l1 _ q))
section
variable{X:Cx}{XU:XD}{Z:St}{H:Hp}{s:XI}{h':Heap}
def FL(ŵ s XI)(l:XH)ÀT:Prop:=∀Q:ű XG,(∀h' tk its,(ÄH o)->Vals xs its->Ã1 Q its tk)->Á2 X.A.in1 (collect (Ï l)) Q X.xe s
theorem JW ç Ò3(hz:xs.length<=4096):FL X s l xs:=λ Q h=>by ext ÍE rv hlen hH;ext Ìm li hlen.symm;refine collect_list #[_,e,Ì n,rfl] (h _ s.toks its (ρ o g) rv) (ĥ iB);rw[Ñf (Zz (Zr g))];exact Zd _ g
structure SGZ(Ón ZKey)Ïi Ë(s:XI):Prop where
 I:ï ķ
 sm:Same H1 H
 fk:cE X XU H kS
 fd:cE X XU H D
 bk:ê X.base.get? kS
 bd:ê X.base.get? D
 hk:ÌH s.heap.get? us
 hd:Ġ D (ÂS e1)
 ns:s.heap.Ns X.env.locals m
 vals:Vals as us
 keys:∀(Ŏ i a V) (k:ZKey),Ý as a->Ý ks k->k.at Ω
theorem SGZ.fr{e1:Nat}{e:Nat}(S:Ôz us e ķ):Fr X.base X.env.locals s.heap m:=#[S.ns,S.I.bk,Zn S.I.ok.bsz S.I.ok.above]
theorem wM{e1:Nat}{ks:Ä ZKey}{Fin:XG->ű Nat}(hne:kS≠D)(rv:Vals xs its)(hl:ks.length=xs.length)(F:AE X XU Z f sp)(spec:∀Îd,À8 v->Ý ks key->Same H1 H'->Ós [v] H' R E0)(fin:∀Ïi Ë (s:XI),Ôz us e ķ->as.length=xs.length->Fin us e s):
  ∀(r:XG) Ïi Ë (s:XI),Ôz us e ķ->its=its.take as.length++r->as.length+r.length=xs.length ->
   KatKeys X.prog X.w X.A.in1.in1 X.base X.env.locals m kS (Ï f) Fin r us e s
 | [],as,us,e,H,s,S,_,hlen=>KatKeys.nil (fin as us e H s S (û hlen))
 |u::r,as,us,e,H,s,S,hits,hlen=>by
  have hi:À4 as.length:=by rw[Zo]at hlen;exact ĵ Ê Ôr (Nat.le_of_eq hlen)
  have hx:Èu xs as.length:=Ze hi;exists[u',gu,ru],rv.get hx;have hlt:as.length<its.length:=Àq rv.length hi
  have gu':its[as.length]?=Ã u:=by rw[hits,Yq (by rw[ZJ];exact ŝ ϊ ď Æj),ZJ,ĥ YD,Nat.sub_self];rfl
  ext è gu' gu gu;have hkey:ks[as.length]?=some (ÔU as.length):=Ze (ÀL Âh hi hl.symm);generalize (ÔU as.length)=key at hkey;refine KatKeys.cons (wpAny_call (codeAny_mono (F s H u xs[as.length] (λ v H''=>Same H H''/\key.at H'' v) S.I ru (spec ì H hx hkey S.sm _ λ kv H'' s' q=>#[s',q])) (Ú res s' hq)));cases res with
  |error e=>exact hq
  |ok fl =>
   cases fl with
   |next=>ext À3 hq
   |brk=>ext À3 hq
   |cont=>ext À3 hq
   |ret uv =>
    show Àp [v,H'',os,bare,un,hok,rvv,sm,ea] hq [hh,g,d,t,os'] s';obtain rfl:os'=s.os:=os;have I2:Ïs H'' hh g d t:=äF S.I.call;have nstk:∀{b:XH},cE X XU H b->År:=fun{b} fo z=>(Zi.mp (S.I.stkSub b z)).elim fo.2.1 fo.2.2.1;have hk2:ÌH hh.get? us:=un.keep kS _ S.hk S.fk.1 (nstk S.fk) Û;have hd2:hh.get? D=Ã (Ào Ů e1):=un.keep D _ S.hd S.fd.1 (nstk S.fd) Û;have ns2:hh.Ns X.env.locals m:=by exists[o,es,ep,ho,rr],id S.ns;exists[sl,hL],un.any ho S.I.free Û;exact#[_,es,ep,hL,rr]
    have fk2:cE X XU H'' kS:=#[un.free kS _ S.hk S.fk.1 Û,S.fk.2]
    have fd2:cE X XU H'' D:=#[un.free D _ S.hd S.fd.1 Û,S.fd.2]
    have hkL:Â0 kS:=S.fk.2.1;show âm KatBack.intro e hh ⟨ns2,I2.bk,Zn S.I.ok.bsz S.I.ok.above⟩ (md hk2 hkL S.bk) mv (λ b o q=>I2.bk b o q);have I3:Ïs H'' h3 g d t:=Inv.movedF (ch:=[kS]) (t':=t) I2 (λ b hb=>Áf Zg.mp hb fk2) mv #[m,ns2,F3.ns];refine wM hne rv hl F spec fin r (as++[v]) (us++[uv]) c H'' _ #[I3,S.sm.trans sm,fk2,fd2,S.bk,S.bd,(Éw N3).1,mv D _ S.fd.2.1 (λ z=>hne (Zg.mp z).symm) hd2,F3.ns,S.vals.append (Ę rvv ė),Ķ i b key' h1 h2] Ĳ
    .by_cases hi2:i<as.length
     .rw[YU hi2]at h1;exact(S.keys i b key' h1 h2).same sm
     .have hi3:=Àg h1;rw[Zm,y9]at hi3;have e3:i=as.length:=áG hi3 (Ád ϊ (Nat.le_of_not_lt hi2))
      subst e3;rw[Yq (Zf _),Nat.sub_self]at h1;cases h1;ext π hkey h2 ea
    .rw[Zm,y9,List.take_add_one,gu',Option.toList_some,Xv];exact hits
    .rw[Zm,y9,<-hlen,Zo];exact Nat.le_antisymm (ÂY (.p Ć Ê) (À9 0 (Ų a 1)) .z Âx) (ÂY (À9 0 (Ų a 1)) (.p Ć Ê) .z Âx)
#check 0
def RS(j:Int)(t u v:Tok):Obj:=Çl 0 j
def SrcH Ë(l:XH)ÀT:Prop:=ĺ ÂT\/∃(n:Nat) (t u v:Tok),n<=4096/\H l=Ã (ie l (RS (É n) t u v))/\xs=(Ŷ n map) ÅV
section
variable{X:Cx}{Z:St}{H:Hp}
theorem yJ ź ç(h:SrcH ÂT)(hz:xs.length<=4096):FL X s l xs:=by
 rcases h with h|⟨n,t,u,v,hn,h,rfl⟩
 .exact JW I h hz
 .intro Q hq;have hr:IsRange s.heap l 0 (É n) 1 t u v:=(I.hok l _ h).1;have hh:X.A.in1.handled=none:=I.ok.hd hc;have h1:Builtin.Range.rangeSize 0 (É n) 1=ÀV n:=by rw[rangeSize_one];split<;>omega
  refine xy hh hr (small_one ∅ ∅ ∅ ∅) h1 ∅ λ h' tk acc kp hI=>hq h' tk acc.toList kp ? _;have go:∀(its:XG) À1,(∀(Ŏ i v XJ),Ý its v->∃t,v=İ (É (k+i:Nat)) t)->Vals ((List.range' k its.length).map ÅV) its:=by
   intro its;induction its with
   |nil=>intro k _;exact ė
   |cons x its ih =>
    intro k hx;exists Áz t,hx 0 x rfl;rw[Zo,List.range'_succ,Zu];refine .cons (ÁI t) (ih Ρ (Ú i v hv))
    .rfl
    .exists[t,e],hx (i+1) v hv;exact#[t,by rw[e];congr 2;exact ÞA]
  have e:=go acc.toList 0 λ i v hv=>by exists[t,e],hI.2 i v (by rw[<-hv,Yz]);refine#[t,by rw[e];congr 1;exact Int.le_antisymm (ô (.p č (ÐP r 1)) (.c (ÍU 0)) Ζ) (ô (.c (ÍU 0)) (.p č (ÐP r 1)) Ζ)]
  rw[Zx,hI.1]at e;ext Œ List.range_eq_range' e
def Ur(ta:TA):TE:=λ Z H Q=>ta Z H λ vs H1=>∃n:Nat,vs=[Áu n]/\n<=4096/\∀r t u v,ê H1 r->Đ r (ß H1 r (ie r (RS (É n) t u v)))
theorem Ts(hm:ê X.mg "range")ÞN(ÃU hn a):QE X (Æe "range" [a] ÂB) (Ur ta):=by
 ext Ξ;ext ı Q;have hs:starEach [a] X.env=[È5 a]:=by rw[aR hn];rfl
 refine Call_ (fm I hg hm boot_range (Yy (thn (ÕY pos) (ο us s1)) hs rfl));ext ÁV vs;exists[n,rfl,hz,q],q1;exists ÀP u ru,bZ r1;ext ĭ t ru;ext Ħ call_range_1;exact#[Æ _,_,I1.laid (Àu o e e) (Zf _) (sQ (ĸ)),rfl,q Β (I1.hok.fresh (Zf _))]
#check 0
theorem SrcH.moved(h:SrcH ÂT)(tab:aX q P lpos H)(s:SameT P H H2):SrcH H2 l xs:=by
 exists[ps,tP,_],tab;rcases h with h|⟨n,t,u,v,hn,h,e⟩
 .exact Α (s Â h (Àm tP h))
 .ext Ÿ hne l P tP h
  show ſ #[n,t,u,v,hn,s Â h hne,e]
section
variable{A:XN}{s:XI}{d:XH}{es:Array DictEntry}{ep i:Nat}
theorem JD{Q:XE}(ÞD s.heap.IsValuesView)(hQ:Þi "dict_valueiterator"):Ãc pyIter v:=by
 show É1 [ov,e1,e2,e3] hv [o,f1,f2,f3] hm;ext ÜE PySem.F.slot_dict_values_iter PySem.F.entry_dict_values_iter PySem.F.args_dict_values_iter_1 Builtin.«dict_values.__iter__» e1 e3;show äQ f1 f3;have own:Builtin.Dict_items.ownsTuple "dict_valueiterator" = false:=⋯
 simp only[own,YY,Y4];refine ZM (Zb #[Å,"dict_valueiterator",_,#[_,ĸ,rfl],YF.lookup,? _]);ext Åv rawInt hQ
theorem JC ÅU(ÎB s.heap.IsValIter i)(hx:i<es.size)(hQ:∀h',h'.IsValIter ÆY->Ïe Heap.SameBut (some Ês)):Ãc pyNext it:=by
 ext Îj;refine z9 (Y0 (Çf hit.typeIs YF
  ÞZ))
 show á4 Xl wpAny_typeNameOf_valiter "dict_valueiterator" wpAny_isOneOf_valiter;have hit':âZ IsValIter :=
  ÎW ho hd hc
 ext Ãa Z0;ext ÓN wpAny_isOneOf_valiter;ext ÓN wpAny_isOneOf_valiter;show Θ (pure Ês) _;exact Zb (Zb #[Å,Zb (hQ _ hit' (ZV ..))])
theorem LP ÅU ÂP(ÎB s.heap.IsValIter es.size)ÖV :
  Ãc pyNext it:=by
 ext Îj;refine z9 (Y0 (Çf hit.typeIs YF
  ÞZ))
 show á2 Xl wpAny_typeNameOf_valiter "dict_valueiterator"
theorem GQ ÂP Ý7 :
  Þa e.val h.IsValIter where
 sub:=λ b hb=>by simp at hb;simp[hb]
 frame:=λ _ _ _ st hk=>#[let⟨o,ho,r⟩:=st.1;#[o,hk I Û o ho,r],st.2.at' (Æ2 hk d Û)]
 item:=Ü9 JC
 done:=äG LP
 self:=λ _ _ _ _ st hQ=>wpAny_pyIter_valiter st.1 hQ
theorem LQ:KdlSrc prog w "dict_values" v d es.size (λ i v=>∃e,Ý es e/\v=e.val) (λ h=>h.IsValuesView v d/\DRaw h d es ep) where
 type:=λ _ hm=>hm.1.typeIs
 there:=Á1 hm #[let⟨_,ho,_⟩:=hm.1;Zr ho,hm.2.lt]
 keep:=λ _ _ hm hk=>#[let⟨o,ho,x⟩:=hm.1;#[o,hk v (Ó rfl) o ho,x],hm.2.at' (Æ2 hk d (ā rfl))]
 notList:=⋯
 notTuple:=⋯
 hint:=λ _ _ _ _ hm hq=>kdl_hint_values hm.1.typeIs hq
 iter:=λ _ _ hh hm=>#[_,_,(λ _ _ hq=>JD hm.1 hm.2 hq),GQ hh _ d (Zz hm.2.lt) es ep,#[#[_,ĸ,î],hm.2.at' λ o e=>Zd _ e]]
#check 0
section
variable{A:XN}{E:XE}{s:XI}
theorem vO ßS{Q:XE}àJ(hx:Ý items x)(hQ:∀h',h'.IsTupleIter it l (i+1)->Ïe Heap.SameBut x):Ãc Builtin.SmallTypes.nextOf it:=by ext Ûp;show ÀN (YC ho hd Û (Zb #[È x,Zb (hQ _ (ÎW ho hd hc) (ZV ..))]))
theorem xO ßS ÂP àJ(hx:items[i]?=none)(hE:∀h' e,Heap.ExtBut it s.heap h'->ãy):Ãc Builtin.SmallTypes.nextOf it:=by
 ext Ûp;show ÎX (YV (z9 (YC ho hd Û ? _)));ext Òi;ext âe hh
 show Ě í Zb wpAny_throw ? _;exact hE Â ((à0).push _) #[_,ĸ,rfl]
theorem Ii ÂP(it l:XH)(hne:l≠it)(items:Array XJ):ßz l items.size items where
 live:=λ _ _ st=>let⟨o,ho,_⟩:=st.1;#[o,ho]
 frame:=λ _ _ _ st hk=>ã4 ho st hk l
 item:=λ i s Q E hi st hQ=>vO st.1 st.2 (x:=items[i]) (Ĉ hi) λ h' hit' hs'=>hQ _ h' s.toks (Ĉ hi) #[hit',st.2.extBut hs'.extBut hne] hs'
 done:=λ s Q E st hE=>ÞS xO Û hE
set_option tactic.hygienic true in open PySem.AutoSeq1 (wpAny_loadPart')in
theorem DQ Ðr Ė(Ïy dct) :
  Meets (Builtin.«enumerate.__new__» #[[.type "enumerate",Æ l],[]]) (λ _ R s=>ËP dct /\
   R (.ok (.ret (.ref (s.heap.push (ÁR Í5)).objs.size)))
    { s with heap:=(s.heap.push (ÁR Í5)).push Òe }) :=
 .of_wp λ prog w A R s h=>by
  ext Ð2;have hsub:=sub_enumerate;have hL:Heap.IsTuple (Shared.heap ÊA) l items:=#[_,hl,Ì n,rfl]
  wp_walk using wpAny_loadPart' hl
  refine wpAny_stack_any λ st=>Zb ? _;split
  .rename_i c _ _ _ _ _;cases(c==Value.type "enumerate")
   .ext ÕL
   .ext ÕL
  .ext ÕL
theorem FT{items:Array XJ}{Q:XE}(hL:IsTup s.heap l items)(h:∀h',IsEnum h' ân 0 Àl->h'.IsTupleIter s.heap.objs.size l 0->h'.objs.size=s.heap.objs.size+2->(ÄH o)->Q (Ï (s.heap.objs.size+1)) (ů s h')):
  ċ (call (.type "enumerate") [Æ l]) Q E s:=by
 obtain⟨⟨c,dct,dt,sl⟩,hl,hc,n,hd⟩:=hL
 replace hc:c=.type "tuple":=hc
 replace hd:dt=.seq items n:=hd
 subst hc hd;refine callType_new PySem.F.called_enumerate ⋯ (PySem.F.typeCall_enumerate_1 _) (PySem.F.newCall_enumerate_1 _) (λ obj=>PySem.F.args_object_init_2 obj _) PySem.F.entry_enumerate_new (DQ l items n dct sl) (ÁI hl);have hz:(s.heap.push (ÁR Í5)).objs.size=s.heap.objs.size+1:=x8 ..;show _/\_;rw[hz];have he:IsEnum ((s.heap.push (ÁR Í5)).push Òe) ân 0 Àl:=by have:=Zj (s.heap.push (ÁR Í5)) (o:=Òe) rfl;ext Â1 hz
 refine#[À5 he,h _ he #[_,Zd _ (ĸ),î] (ÀK x8 hz) (Àu o x (Zd _ x))]
#check 0
def ItT(K:XY)Ō ÀT:It :=
 áD SqT
abbrev eTt(e it a:XH):Nat->Þ Heap:=λ i h=>(∃old,IsEnum h e it i old)/\h.IsTupleIter it a i
theorem Hi ē Ý3:
  Turn P w K Äk (ItT K a xs) [e,it] e (eTt e it a):=by
 refine#[Ĵ,Ķ i h st c hc,Öa k,Χ,Áp A i s Q E st h]
 .obtain⟨⟨old,e1⟩,⟨o4,e4,_,d4⟩⟩:=st;ext Äb hc
  show ÀI #[_,e1,Á0 v z] Ùw
 ext ßs
 .ext ác I.tuple Ii px
  refine àz
  .exact æ1
  .rw[ah]
   .exact(hf c hc).1
   .obtain⟨o,eo⟩:∃o,Ġ c o:=by
     ext å1
    exact Zz (Zr eo)
 .ext ãI I.tuple Ii px
 ext åa
def Iz(ζ ta TA):TI:=λ Z H R=>ta Z H λ vs H1=>∃a xs,vs=ġ a/\H1 a=ą tup xs/\R (ItT K a xs) H1
section
variable{X:Cx}
theorem LC ÜX Öh:Ñ1 PI Iz:=by
 ext ı R;refine Call_ (ÓS boot_enumerate);ext ÕN;show Ž [its,rx,pa,zz] I1.tuple (ÃD hx) [oo,eo,_] id pa;ext àk FT pa;refine Ût eTt Hi;have hc':s1.heap.objs.size<=c:=by
  ext Äb hc
  show Áj YQ _ Zf _
 exact I1.fpOk hc' (I1.hok.fresh hc')
theorem NS{kt:Nat}Þy ÜO:Ñ1 QI Iz:=#[LC hg hm ha.h n1]
#check 0
theorem Iu ē{a:XH}Ác(Ój SqT)(hs:âY)Çb :
  ∃W:Ç9,ÈZ/\∀k m Z H,W k m Z H ->
   (ÕF ItT/\D.nx Z H)\/ÓW ItT:=by
 ext á0
def tE(d:XH):Obj:=ÎP "dict_values" fields (List.toArray [Æ d])
def TR(td:TE):TE:=λ Z H Q=>td Z H λ x H1=>∃a kvs,Àh/\Å7 H1 a/\∀v,ê H1 v->Đ v (ß H1 v (ie v (tE a)))
section
variable{X:Cx}{apos cpos:Pos}
theorem JA(ε ho o td)(hbase:ÂN o "values":=by rfl)Äc:QE X (Ãv (Âm "values" apos) []) (TR td):=by ext ãr Q hd q1;exists[t1,t2,_],IC I1 (.inr #[kvs,Ó hd]);exists[z,ns,xs,rel,ob,es,ep,g1,g2,g3,_],jQ I1.hok (Ó hd);show Ü2 "dict.values" PySem.F.slot_dict_values PySem.F.type_dict_values PySem.F.entry_dict_values PySem.F.args_dict_values_1;ext Ħ Zb;ext Ôt a s1;rw[ÁG XB ns Zq];show í (Zb (z9 (ZM (Zb Àk))));exact#[Æ _,_,ØK o (sQ (ĸ)),rfl,q1 _ (I1.hok.fresh (Zf _))]
theorem FW ź:fh Ë5 ád:=by
 show Çc [v,a,kvs,rfl,hv,hq,q];cases rx;show ÓD (Ó hq);have vv:s.heap.IsValuesView v a:=#[_,(I.hok v _ hv).1,î]
 refine kdl_call (LQ (es:=es) (ep:=ep)) (I.ok.hd hc) #[vv,Ðn] ∅ (Áp h' tk acc' c' kp e hacc);have ev:Vals (kvs.map (·.2)) acc'.toList:=by
  have gen:∀(vs:XG) (ys:Êz) (ks:Àr),KT H ks ys->vs.length=ys.length->(∀(Ŏ j v XJ),Ŗ vs v->∃x:ÃY,Ŗ ys x/\v=Ð.2)->Vals (ks.map (·.2)) vs:=by
   intro vs;induction vs with
   |nil =>
    intro ys ks rl hl _;cases ys with
    |nil=>cases rl;exact ė
    |cons _ _=>cases hl
   |cons v vs ih =>
    intro ys ks rl hl hv;cases ys with
    |nil=>cases hl
    |cons y ys =>
     cases rl with
     |cons hy rl =>exists ÂZ x,hv 0 v rfl;cases e1;rw[e2];exact .cons hy.2.2 (ih ys _ rl ÖB)
  refine gen ì rel Øf;ext ÓU
 exact#[Æ s.heap.objs.size,_,Ùh kp (Zf _) (Ùj (Õ (kvs.map (·.2))) #[Ż Za,acc'.toList,c',ev,û e]),rfl,q ÈI]
theorem Er ź:QCall Ë5 ád:=#[FW hc]
#check 0
#check Lake
set_option maxHeartbeats 4000000
namespace PySem
open Sem (wp)
section
variable{prog:XL}{w:XM}{A:XN}{E:XE}{s:XI}
theorem uU:isSubtype (.type "AttributeError") (.type "AttributeError")=pure true:=by rw[isSubtype_type];kernel_rfl
theorem GP ÀR{self:XJ}{name msg:Str}{Q:ű α}(hm:Ń msg.length)ÂP(hE:∀a h',æ4->(ÄH o)->Ā E a { s with heap:=h',toks:=s.toks+1+1 }) :
  ċ (raiseAttrError self name msg) Q E s:=by
 show ξ raiseAttrError (wpAny_mkStr ? _ hm);ext Òi;show ÂR (wpAny_mkText ? _) ? _;unfold noteAttr;ext ň;show í ? _;unfold lacksNameAndObj;ext ň;show í (âC #[_,ĸ,rfl] uU ? _);simp only[Bool.not_true,YY,Y4];show í (wpAny_load (ĸ) ? _);show Θ (pure true) _;ext Ħ Zb;ext Ű if_true;show ÂR (YV ? _) (wpAny_typeOf #[_,ĸ,rfl] ? _);ext ň;show ξ layMembers (wpAny_load (ĸ) ? _);ext ň;refine wpAny_update (ĸ) ? _;show ξ raiseNew (wpAny_handled ? _);rw[hh];ext ň;show Ě í Zb wpAny_throw ? _;refine hE Â #[_,Ye _ (ĸ) rfl,rfl] (ρ o e);have e1:(s.heap.push { cls:=Value.type "tuple",data:=Data.seq (List.toArray [Value.str msg s.toks]) }).get? b=ò:=Zd _ e;exact(Yr Â (Ě Z7 Zz Zr e1)).trans (Zd _ e1)
variable{a:XH}{o:Obj}
theorem B9:Í8 "list" "keys" = pure none:=äH
theorem vK:Í8 "list" "__getattr__" = pure none:=äH
def xf(s:XI)(E:XE):Prop:=∀a h' t',æ4->(ÄH o)->Ā E a (ÁT h' t')
theorem Ci(ËE a)à Îy ÂP(hE:xf s E):
  ċ (Builtin.«object.__getattribute__» #[[Æ a,.str "keys" tk],[]]) Q E s:=by
 exists[h,g,d,t,os],s;have hT:(#[h,g,d,t,os]:XI).TypeIs Ϗ "list":=#[_,hx,hc]
 have f4:=B9
 ext ÖM
 rw[hdat];ext ň;unfold instanceDict
 ext ÖM
 rw[hc,hdd];ext ň;rw[XC (by rfl)]
 ext ÖM
 refine GP ⋯ hh λ a h' ho hk=>hE a h' _ ho hk
theorem DV{R:ű Result}(ËE a)à Îy ÂP(hE:xf s λ e s'=>R (.error e) s'):
  ÄA codeAny A (.call (.builtin "list.__getattribute__") #[[Æ a,.str "keys" tk],[]]) R s:=by
 refine codeAny_call_builtin F.slot_list_getattribute.plain F.entry_list_ga (F.slot_list_getattribute.check Β Β (show Ā s.TypeIs a "list" from#[_,hx,hc]) (F.args_list_getattribute_2 Â) (Ci hx hc hdd hdat ? _ hE));exact hh
theorem IS(ËE a)à Îy ÂP(hE:xf s E):
  ċ (Ā getAttrBy a (.str "keys" tk) false) Q E s:=by
 have hT:Ā s.TypeIs a "list":=#[_,hx,hc]
 have f2:=F.slot_list_getattribute.lookup;have f3:=F.slot_list_getattribute.bind Ϗ;unfold getAttrBy;refine Z0 (z9 (wpAny_typeOf hT (z9 (wpAny_of_eq f2 ? _))));show wpAny Â (getAttrByItsOwn Β Â) ì;show ξ getAttrByItsOwn ? _;show Θ (pure none) _;refine Zb (Ě z9 Y0 Z0 ? _);show Θ (boundAndCalled ì) _;show ξ boundAndCalled (wpAny_of_eq f3 ? _);refine wpAny_call (DV hx hc hdd hdat hh ? _);rintro a' h' t' ⟨o',e1,e2⟩ hk;show ÀA (getattributeRaised _ _ _ _ _ _ _) _;show ξ getattributeRaised (Xn (T:="AttributeError") (b:=true) #[_,e1,e2] uU ? _);rw[XC rfl];show í ? _;show Θ (Í8 "list" "__getattr__") _;refine wpAny_of_eq vK ? _;show Θ (throw _) _;exact wpAny_throw (hE a' h' t' #[o',e1,e2] hk)
theorem QD ÅU(ËE a)à Îy ÂP(hQ:∀h' t',(ÄH o)->Ã1 Q none t'):ċ (Ā getAttr? a "keys") Q E s:=by unfold getAttr? getAttrBy?;show í (wpAny_mkText (z9 (Y0 (IS (s:=ÂQ) hx hc hdd hdat hh ? _))));rintro a' h' t' ⟨o',e1,e2⟩ hk;ext ň;show í (âC #[_,e1,e2] uU ? _);show χ XC rfl Zb (hQ h' t' hk)
#check 0
section
variable{prog:XL}{w:XM}{K:Type}[DecidableEq K]{knd:KeyKind prog w K}
theorem mZ:entryFor table "dict.update.loop" = Ã Builtin.«dict.update.loop»:=entryFor_of_tree (by kernel_rfl)
theorem fX:ú plainId "dict.update.loop":=⋯
structure PairAt(knd:KeyKind prog w K)(h:Heap)(p:ÍQ):Prop where
 tup:∃o n,h.get? p.1=ò/\Åy "tuple"/\o.data=.seq (List.toArray [.ref Ĺ.2.1,Ĺ.2.2]) n
 key:IsTupleKey knd h Ĺ.1 Ĺ.2.1
theorem PairAt.keeps{h h':Heap}{p:ÍQ}(x:PairAt knd h p){B:Ä XH}(hB:∀b∈B,∃o,ϒ b/\ÖE)(hk:∀b o,¬b∈B->ÀC h.get? o h'.get?):PairAt knd h' p:=by
 obtain⟨⟨o,n,e1,e2,e3⟩,o',its,n',f1,f2,f3,f4⟩:=x;refine#[#[o,n,hk Â (ģ z) e1,e2,e3],o',its,n',hk Â (ģ z) f1,f2,f3,f4]
 .ext ÜB e1;exact q2 e2
 .ext ÜB f1;exact q2 f2
theorem Eg(xs:List (ÌY))(k:Ä K)Ō(v:XJ):(storedH xs k a v).length<=xs.length+1:=by
 ext Øn storedH
 .ext ÒD
def wN(xs:List (ÌY))(ps:List (ÍQ)):List (ÌY):=ps.foldl (λ xs p=>storedH xs Ĺ.1 Ĺ.2.1 Ĺ.2.2) xs
variable{A:XN}{R:ű Result}
theorem Ih{d it l:XH}{items:Array XJ}{ps:List (ÍQ)}ÝE(hu:(tupleKind knd).room A.in1)(hh:A.in1.handled=none)(res:XJ)(nl:l≠it)(nld:l≠d)(ndi:d≠it) :
  ∀(k i:Nat) (s:XI) (xs:List (ÌY)),ps.length-i=k->i<=ps.length->s.heap.IsListIter it l i->s.heap.IsList l items->àb s.heap.DictOfH->(∀p∈ps,PairAt knd s.heap p)->Ìo k ->
  (∀h' t',h'.DictOfH (tupleKind knd) d (wN xs (ps.drop i))->(∀b o,ō d->ō it->ÉJ o)->R (.ok (.ret res)) (ÁT h' t')) ->
  ÄA codeAny A (.builtin "dict.update.loop" #[[Æ d,Æ it,rawInt i,res],[]]) R s:=by
 intro k;have hsz:items.size=ps.length:=by rw[<-Zx,hps,Za]
 induction k with
 |zero =>
  intro i s xs hk hi hit hl hd hp hz hR;have hin:i=ps.length:=ϔ (Ád ϊ hi) (â Ç Ê (ū č (Ð5 Ç)) æ (Nat.le_of_eq hk) Ŝ)
  subst hin;show Þk (wpAny_pyNext_list_end hh hit hl (by rw[<-hsz];simp) (Ø h' he));show Θ (Builtin.Dict.addKeywords d [] >>= _) _;show Ě í Zb Zb ? _;exists[o,es,ep,q1,q2,q3,q4,q5,q6],hd;refine hR h' s.toks #[o,es,ep,he Â ndi q1,q2,q3,Åk ? _,? _] λ b o _ hb e=>he b o hb e
  .ext Œ List.drop_length q4
  .rw[List.drop_length]at hx;exists[o',its',n',f1,f2,f3,f4],q5 x hx;exists[oi,i1,i2,i3],hit;exact#[o',its',n',he Â (λ z=>by ext Ţ z i1 f1;rw[i2]at f2;exact ÐQ f2) f1,f2,f3,f4]
  .ext Œ List.drop_length q6
 |succ k ih =>
  intro i s xs hk hi hit hl hd hp hz hR;have hlt:i<ps.length:=(by exact ĵ Ê (Ñ (ã 3) Ô (ÇK (š 2 0))) Ŭ (Nat.le_of_eq hk.symm) (Ée hi))
  have hx:Ý items (.ref ps[i].1):=by rw[<-Yz,hps,Zs,Ze hlt];rfl
  show Þk (wpAny_pyNext_list_item hit hl hx (Ú h1 hit1 hs1));have hitc:∃o,Ġ it o/\ÖE:=μ [oi,i1,i2,i3] hit #[oi,i1,ÊU i2]
  ext âv hp1 h1 hp it hitc hs1.extBut;have hl1:h1.IsList l items:=hl.extBut hs1.extBut nl;have hd1:àb h1.DictOfH:=by exists[o,es,ep,q1,q2,q3,q4,q5,q6],hd;refine#[o,es,ep,hs1.extBut Â ndi q1,q2,q3,Åk q4,q6];exists[o',its',n',f1,f2,f3,f4],q5 x hx;exists[oi,i1,i2],hitc;exact#[o',its',n',hs1.extBut Â (λ z=>by ext Ţ z i1 f1;exact i2 f2) f1,f2,f3,f4]
  obtain⟨⟨ot,nt,t1,t2,t3⟩,hkey⟩:=hp1 ps[i] (ZD hlt);have hT:Shared.TypeIs (ů s h1) (.ref ps[i].1) "tuple":=#[ot,t1,t2]
  ext ň;show ÂR (Z0 ? _) (wpAny_tryCatch ? _);show ξ Builtin.Dict.pairItems (wpAny_typeOf hT ? _);rw[XC ⋯];show í (Y3 t1 t3 (Zb ? _));show Θ (holding [.ref ps[i].2.2.1,ps[i].2.2.2] (dictSet d (.ref ps[i].2.2.1) ps[i].2.2.2)) _;refine Z0 (wpAny_dictSet_heap (s:=ů s h1) (hsz:=by omega) hu hkey hd1 (Ú h2 hd2 hs2));have hdc:∃o,h1.get? d=ò/\ÖE:=μ [o,es,ep,q1,q2,_] hd1 #[o,q1,by rw[q2.1];decide]
  have hit2:h2.IsListIter it l (i+1):=μ [oi,i1,i2,i3] hit1 #[oi,hs2.extBut Â (Z7 ndi) i1,i2,i3]
  ext âv hp2 h2 hp1 d hdc hs2.extBut;refine Zb #[plainId_quiet fX _,? _];have:=Eg xs ps[i].2.1 ps[i].2.2.1 ps[i].2.2.2;refine ih (i+1) { s with heap:=h2,toks:=s.toks+(tupleKind knd).draws ps[i].2.1 } _ (ϔ (â Ç Ê (ū (ã 1) (ÁE Ñ (š 2 4) (ÝQ 4 3))) [_,_,_,_,_] (Nat.le_of_eq hk) Ŝ (Nat.add_le_of_le_sub (Èa hlt) (Nat.le_refl _))) (â Ç Ê (Àb (ÁE Ñ (ÃQ 1 (ã 4)) (Ï9 2 4 3))) [_,_,_,_,_] (Nat.le_of_eq hk.symm) Ŝ (Nat.add_le_of_le_sub (â Ç Èi hlt) (Nat.le_refl _)))) (Çx hlt) hit2 (hl1.extBut hs2.extBut nld) hd2 hp2 ∅ (Č h' t' hd' hk');refine hR h' t' ? _ λ b o hb1 hb2 e=>hk' b o hb1 hb2 (hs2.extBut b o hb1 (hs1.extBut b o hb2 e));rw[List.drop_eq_getElem_cons hlt];exact hd'
#check 0
section
variable{prog:XL}{w:XM}{K:Type}[DecidableEq K]{knd:KeyKind prog w K}{A:XN}{E:XE}{s:XI}
theorem vm{items:Array XJ}à{ps:List (ÍQ)}{Q:XE}(ËE l)(hdat:o.data=.seq items n)ÝE(hp:∀p∈ps,PairAt knd s.heap p)(hsz:Ń ps.length)(hu:Ìe 5)ÂP(h:∀h' t',h'.DictOfH (tupleKind knd) s.heap.objs.size (wN [] ps)->(ÄH o)->Ã1 Đ s.heap.objs.size t'):
  ċ (call (.type "dict") [Æ l]) Q E s:=by
 refine callType_codes (Q₁:=λ obj s₁=>obj=Æ s.heap.objs.size/\s₁=Âd s heap Çw) F.kt_called_dict (F.kt_typeCall_dict_1 _) F.entry_dict_init (kt_code_dict_new _ ÁP) ? _;rintro obj s₁ ⟨rfl,rfl⟩;have hnew:(Çw).DictOfH (tupleKind knd) Êj:=Heap.DictOfH.new s.heap;refine#[hnew.typeIs,F.args_dict_init_2 Â,? _];show ξ Builtin.«dict.__init__» ? _;show ξ Builtin.Dict.selfAndRest (Xb hnew.typeIs ? _);show Θ (pure (s.heap.objs.size,[Value.ref l])) _;ext Ħ Zb;show ÀA (Builtin.Dict.updateFrom "dict.__init__" s.heap.objs.size (Ï l) [] Àl) _;have hx1:(Çw).get? l=ò:=Zd _ hx;show ξ Builtin.Dict.updateFrom (Þe "list" #[o,hx1,hc]);rw[XC ⋯];refine z9 (QD (s:=Âd s heap Çw) hx1 hc hdd hdat hh (Ú h2 t2 hk2));rw[XC (show(none:Option XJ).isNone=true from rfl)];ext Ãa YV;have hx2:h2.get? l=ò:=hk2 Â hx1;have hl2:h2.IsList l items:=#[o,hx2,hc,n,hdat]
 exists[od,es,ep,d1,d2,d3,d4,d5,d6],hnew;have k02:∀b q,Ġ b q->h2.get? b=Ã q:=λ b q e=>hk2 Â (Zd _ e);have hd2:h2.DictOfH (tupleKind knd) Êj:=#[od,es,ep,hk2 Â d1,d2,d3,d4,Ç7 x hx,d6]
 show ÀN (wpAny_pyIter_list (s:=ÁT h2 t2) hl2 ? _);have hp3:∀p∈ps,PairAt knd (h2.push (ÁR "list_iterator" l)) p:=λ p hm=>(hp p hm).keeps (B:=[]) (Ç7 b hb) λ b q _ e=>Zd _ (k02 ŋ);exists[od',es',ep',d1',d2',d3',d4',_,d6'],id hd2;have hd3:(h2.push (ÁR "list_iterator" l)).DictOfH (tupleKind knd) Êj:=#[od',es',ep',Zd _ d1',d2',d3',d4',Ç7 x hx,d6']
 have nsz:∀{b q},ÎL h2.get? q h2.objs.size:=λ e=>Zz (Zr e);have nld:l≠s.heap.objs.size:=Zz (Zr hx);refine Zb #[plainId_quiet fX _,ÃK Ih A A.in1 knd knd ps ps hps (by show A.units+1+1<cLine;exact â (.p (Ã3 (ã 0)) đ) Ê (ÇK (Ã3 (ι a 0 n 5))) ď hu) hh Àl (nsz hx2) nld (nsz d1') ps.length 0 { s with heap:=h2.push (ÁR "list_iterator" l),toks:=t2 } [] (Nat.sub_zero _) (ZA _) #[_,ĸ,î] #[o,Zd _ hx2,hc,n,hdat] hd3 hp3 (by show 0+ps.length<=sizeLine;omega) λ h' t' hd' hk'=>Åz];refine h h' t' hd' λ b q e=>hk' b q (Zz (Zr e)) (nsz (k02 ŋ)) (Zd _ (k02 ŋ))
#check 0
#check PySem
namespace Lake
open PySem PySem.Spec PyProof.Rows PySem.W
def bR(kvs:Àr)(ps:Àr):Àr:=ps.foldl (λ kvs p=>ÊS) kvs
def Bo Ë(v:V)(p:Ä Key×V):Prop:=∃t a,v=Æ t/\H t=Ã (Ò [Æ a,Ĺ])/\H a=Ã9 p
theorem LG:∀{qs:Àr} {ps:List (XH×ÃY)} {kvs:Àr} {xs:Êz},KT H kvs xs->à6->KT H (bR kvs qs) (wN xs ps):=by
 intro qs ps kvs xs r h;induction h generalizing kvs xs with
 |nil=>exact r
 |@cons q p _ _ z _ ih =>show KT H (bR (bC kvs q.1 q.2) _) (wN (storedH xs Ĺ.1 Ĺ.2.1 Ĺ.2.2) _);ext Ħ ih;rw[<-z.1];exact r.put q.1 z.2.1 z.2.2
theorem Jt(ps:Àr):∀kvs:Àr,(bR kvs ps).length<=kvs.length+ps.length:=by
 induction ps with
 |nil=>intro kvs;exact Zf _
 |cons p ps ih =>intro kvs;have h1:=ih (ÊS);have h2:=og kvs p.1 Ĺ;show(bR (ÊS) ps).length<=_;rw[Zo];exact â Éj (ÁE Ñ (ã 1) Õi) Ŭ h2 h1
section
variable{X:Cx}
set_option tactic.hygienic true in theorem FS ź Áx:áH fh:=by
 show Çc [l,vs,qs,rfl,hl,hq,lv,q];cases rx;obtain⟨its,rv,⟨o,n',e,c1,c2,d1⟩,hz⟩:=I.list (XX hl);have gen:∀(δ vs V its XG) {qs:Àr},Ág Bo H vs qs->Vals vs its->∃ps:List (XH×ÃY),its=ps.map (λ p=>Value.ref p.1)/\(∀p∈ps,PairAt (bA X.prog X.w) s.heap p)/\ps.length=qs.length/\à6:=by
  intro vs its qs hp rv;induction hp generalizing its with
  |nil=>show Ř rv #[[],rfl,λ p hp=>(Ş hp),rfl,.nil]
  |@cons v p _ _ hv _ ih =>
   cases rv with
   |@cons _ u _ us ru rr =>
   exists[ps,i1,i2,i3,i4],ih rr;exists ÀQ t a e1 e2,hv;ext Äf t ru;exists[_,its2,r2,o2,g1,g2,n2,g3],Çt t (Ò [Æ a,Ĺ]) e1
   cases r2 with
   |cons ra r2 =>
    cases r2 with
    |cons rb r2 =>
     cases r2;cases ËY _ Value.ref a ra;rename_i wv;refine#[(t,p.1,a,wv)::ps,ό i1,Ø x hx,ÅJ Zo Zo i3,Ę #[Ì e2,rb] i4];show Äu hx #[#[o2,n2,g1,g2,g3],jX I.hok e2]
     .exact i2 x hx
 exists[ps,p1,p2,p3,p4],gen hq rv;have lq:=ZC hq;refine vm (knd:=bA X.prog X.w) (ps:=ps) e c1 c2 d1 (û p1) p2 (by rw[p3,<-lq];exact Zn lv ⋯) (ÇL â (Ã3 (ι a 0 n 5)) Ê (Ím) ď hu) (I.ok.hd hc) (Č h' t' hd hk);have hz0:=Jt qs [];have hnew:á s.heap.objs.size:=I.hok.fresh (Zf _);exists[q0,es,ep,hq0,h2,h3,h4,_,h5],hd;have kt:KT (ø s.heap.objs.size (Ç4 qs)) (bR [] qs) (wN [] ps):=(LG (H:=H) ė p4).keeps λ b ys eb=>Â8 eb hnew
 refine#[Æ s.heap.objs.size,_,Ñ4 (o:=Ç4 qs) (t':=t') hk (Zf _) (Ùj (Ç4 qs) #[Zn hz0 (by rw[<-lq];show 0+vs.length<=sizeLine;exact Zn ∅ (show Ń 1000 by decide)),? _,_,kt,q0,es,ep,hq0,h2,h3,h4,h5]),rfl,q _ hnew];have:=I.big;exact YS.mpr (Yf this)
theorem Eo ź Áx:áH QCall:=#[FS hc hu]
#check 0
def ItD(o:Obj)Ō:It where
 go:=λ i H=>∃kvs,H a=ÆV/\i<kvs.length
 yld:=λ i H x H'=>H'=H/\∀kvs,H a=ÆV->∃p b,Ý kvs p/\x=Æ b/\H b=Ã9 p
 stop:=λ i H=>∃kvs,H a=ÆV/\kvs.length<=i
theorem Qu(r:KT H kvs xs):∀(Ãi x ÃY),À8 x->∃p,Ý kvs p/\H Ð.1=Ã9 p:=by
 induction r with
 |nil=>intro i x h;simp at h
 |@cons p q _ _ h _ ih =>
  intro i x e;cases i with
  |zero=>show Ř e #[È p,h.2.1]
  |succ i=>exact ih e
theorem vy Ãw(e:H a=ÆV):
  Âk a/\∃xs es ep,KT H kvs xs/\ϒ a/\o.ExactDict/\Ær/\es.toList=xs.map (entryOfKey ÐM)/\kvs.length=es.size:=by
 exists[ho,z,y,xs,r,o',es,ep,h1,h2,h3,h4,h5],(show Ãk (ÁQ (.dT kvs))from ok a _ e)
 show π ho h1 #[y,xs,es,ep,r,ho,h2,h3,h4,(ZC r).trans (size_of_entries h4).symm]
theorem J6 ē(o:Obj)(a it:XH):ÊZ (ItD o a) (λ i h=>∃es ep,Ær/\i<=es.size/\h.IsKeyIter it a i es.size ep) where
 mem:=Ĵ
 obj:=λ i h st b hb=>by
  ext Åm it;exists[es,ep,_,_,o,e,c,d],st;exact ÐA
 keep:=λ i h h' st k=>by exists[es,ep,h1,h2,h3],st;exact#[es,ep,h1,h2,h3.at (Æ2 k it Û)]
 item:=by
  show ÎT [es,ep,sd,sl,st];ext Åc Û;ext ÛN
  refine CC st #[o,ho,hx2,sd] hi (Å2 st' sb);ext Ü8 oi;have hxs:À4 i:=by rw[<-size_of_entries h4];exact hi
  have hk:ÇA=Value.ref ÁO.2.1:=by have e1:=entry_at h4 (j:=i);rw[Ze hxs,Yg hi]at e1;have e2:=Zt e1;rw[e2];rfl
  exists[p,hp,hb],Qu r (Ze hxs);refine#[Å,àK #[.ref ÁO.2.1,H,I1,hk,#[rfl,Ø kvs' hy],#[es,ep,sd,Çx hi,st'],ÈF hf]];show π hq hy #[p,ÁO.2.1,È hp,hb]
 done:=by
  show ÎT [es,ep,sd,sl,st];ext Åc Û;obtain rfl:i=es.size:=ϔ (Ád ϊ sl) (â Ç Ê (Ñ Ç Ô ÅF) ÐU)
  exact Èo E2 #[o,ho,hx2,sd] Ét
 self:=λ _ _ _ _ _ st h=>by exists[es,ep,h1,h2,h3],st;exact wpAny_pyIter_keyiter h3 h
section
theorem Inv.freeze ç(Åe hq a)(ho:Ġ a o):Inv X XU Z (ø a (ÁQ (.dT kvs))) s :=
 ÌR a a (h':=s.heap) (t':=s.toks) (Ă hq True.intro) (Ó rfl) (ÊQ u) #[o,ho]
  #[ho,ObjOk.stay (Çt a (.dT kvs) hq) (ÊQ u) (λ b e=>by
   ext Ïk) λ b xs e=>by
   ext Ïk]
def Qe(tl:TE):TI:=æ5 o (ItD o a) (ß H1 a (ÁQ (.dT kvs)))
theorem Rq(Àf hl l tl):PI X tg l (Qe tl):=by
 ext ı R;refine ÁA hl v;ext ÁV x;exists[a,kvs,e,hq,q],q1;ext Ļ;cases r1;exists[z,lo,xs,r,o,es,ep,h1,h2,h3,h4,h5],(ÛP)
 refine CD lo Ðn ? _;have I2:=I1.freeze hq h1;refine#[ÜV,Å,áN,J6 o a _,#[es,ep,h3,ZA _,_,ĸ,î],ÂH,q o];ext Åm s1.heap.objs.size;ext Üu
theorem Inv.thaw ç(hq:H a=Ã (ÁQ u))(h0:∀o' u',X.H₀ a≠Ã (.frz o' u'))(ht:∀xs,X.H₀ a≠ą tup xs)(hb:∀ps,X.H₀ a≠ą tbl ps):
  ï (ø a u) s:=by
 have hn:∀b,á b->ø a u b=none:=λ b e=>Áf ah (Àm hq e) e
 refine#[I.ok,I.os,I.bare,#[I.base.keep,I.base.slot,λ b ob e1 e2 e3=>hn _ (I.base.free b ob e1 e2 e3),I.base.there,ρ xs e,Č b ob v e,ρ ps e],I.loc,I.cell,hn _ I.free,λ x c e=>hn _ (I.freeC x c e),
  Ø p hp,ρ v e,I.len]
 .rw[ah (ÚT ht xs)];exact I.base.tups b xs e
 .rw[ah fun(z:b=a)=>h0 ob v (Àq z e)];exact I.base.frzs b ob v e
 .rw[ah (ÚT hb ps)];exact I.base.tbls b ps e
 .exists[p1,p2,p3],I.pin p hp;exact#[p1,hn _ p2,p3]
 .have st:∀ {c:XH} {v:HO},Ãr H s.heap c v->ObjOk X.prog X.w (ø a u) s.heap c v:=λ x=>ObjOk.stay x (ÊQ u) (λ b e=>by
   ext Ïk) λ b xs e=>by
   ext Ïk
  ext å c b a
  .ext Äl c ad e;exact st (Çt b (ÁQ _) hq).2
  .rw[ah c]at e;exact st (I.hok b v e)
theorem SL(ε hl l te):QI X tg l (Qe te):=#[Rq hl.h]
def Loose Ë Ō:Prop:=(∀o' u',H a≠Ã (.frz o' u'))/\(∀xs,H a≠ą tup xs)/\∀ps,H a≠ą tbl ps
theorem Loose.dt Ο(Åe h a):Loose Ω:=#[Η z (Ϝ h z),Á1 z (Ϝ h z),Á1 z (Ϝ h z)]
theorem Loose.non Ο(h:á a):Loose Ω:=#[Η z (Ϝ h z),Á1 z (Ϝ h z),Á1 z (Ϝ h z)]
def TQ(H0:Hp)(t:TE):TE:=λ Z H Q=>t Z H λ v H'=>∃a o u,H' a=Ã (ÁQ u)/\Loose H0 a/\Q v (Áq a u)
theorem Jz{t:TE}(ε h e t):QE X e (TQ X.H₀ t):=#[λ XU s Z H Q I q=>thn (h.h ÂO I q) λ v s1 ⟨x,H1,I1,r1,a,o,u,e1,l,q1⟩=>#[x,_,I1.thaw e1 l.1 l.2.1 l.2.2,r1,q1]]
#check 0
theorem HY{kvs:Àr}à Ún ÍS ßU(ht:∀i ys H p b,Ý kvs p->H b=Ã9 p->Pv i ys H->∀Y:ÇP,Ā Íu b H)(Ëi kvs.length):Ã7 g tc (ItD o a):=by
 ext ãA
 .show Ô1 #[#[kvs,q,hlt],? _,Ú x H' y]
  .exists[e,y],y;ext Ļ;exists[pr,b,e1,rfl,e2],y kvs q;exact ht i ys _ pr b e1 e2 pv (Îf ys kvs.length ys) (ÏF zs kvs.length)
 .show Åg i kvs.length #[#[kvs,q,Zf _],ÑV]
section
variable{X:Cx}{s:XI}
theorem vJ{P:ű PySem.Fin}à{vs:XG}(h2:vs.length<2)(ho:Ġ a (seqObj "list" vs.toArray n))(h:∀(h3:Heap) (c:Nat),(∀b u,ō a->Ġ b u->h3.get? b=Ã u)->h3.get? a=Ã (Ào vs.toArray c)->P (.done (.ret Àl)) (ů s h3)):
  Ä0 wpAny A (Builtin.«list.sort» #[ġ a,[]]) P E s:=by
 have zs:Ń vs.toArray.size:=Ãf Zl sizeLine_eq
 ext Ø2 a;ext âs e1
 have ha3:(Í2).get? a=Ã (Ào Ů e1):=Zd _ (Zd _ ho1);have kp:∀b u,ō a->Ġ b u->(Í2).get? b=Ã u:=λ b u hb g=>Zd _ (Zd _ ((s1.2 b hb).trans g));rw[list_sort_plain];show ÂR (listItems_at ho ÄE) (listUpdate_at ho ÄE zs (ZA _));show ÂR (seqEpoch_at ho1 ÄE) (wpAny_newTuple ? _ zs);show í (wpAny_newList ? _ (ZA _));ext Ħ Z0;show Á2 A _ P E { s with heap:=Í2 };generalize Í2=h1 at ha3 kp ⊢;ext ň;have hn2:vs.toArray.size<2:=Ă Zl h2
 rw[XC hn2,XC hn2];ext Ãa Zb;rw[StateT.run_pure];ext Ãa Zb;ext ň;have em:Array.map (λ x=>x.snd) (arrOf (SortSt.mk' general' (vs.toArray.zip vs.toArray) Ů 7 none))=vs.toArray:=by show Array.map (λ x:XJ×XJ=>Ð) (vs.toArray.zip vs.toArray)=_;apply Array.toList_inj.mp;rw[Array.toList_map,Array.toList_zip];exact List.map_snd_zip (Zf _)
 rw[em];have s2:=ZV h1 a (Obj.mapSeq (ę vs.toArray));obtain⟨c2,hc2⟩:∃c2,(h1.update a (Obj.mapSeq (ę vs.toArray))).get? a=Ã (Ào vs.toArray c2):=#[_,get?_update_seq ha3 (ę vs.toArray)]
 show ÂR (seqEpoch_at ha3 ÄE) (listUpdate_at ha3 ÄE (ZA _) (Nat.le_succ_of_le zs));simp only[bne_self_eq_false,YY,Y4];exact Zb (h _ c2 (λ b u hb g=>(s2.2 b hb).trans (kp b u hb g)) hc2)
theorem Dc{Q:VK}ç Ò3(h2:xs.length<2)(q:∀D:XH,ÏZ (ø D (Õ xs))):
  Ź (Èy "sorted" [Æ l]) Àt X.xe s:=by
 ext ÍE rv hlen hH;ext Ìm li hlen.symm;have zs:Ń its.toArray.size:=Ãf Zl sizeLine_eq
 show ßI Calls.call_function_entry (args_sorted1 _) (Zb (z9 (collect_list #[_,e,Ì n,rfl] (z9 (wpAny_newList ? _ zs)) zs)));have z1:((s.heap.push (Ào Ů 0)).update s.heap.objs.size (Obj.mapSeq (·++its.toArray))).objs.size=s.heap.objs.size+1:=ÀK Heap.size_update size_push'
 have g1:(Î4).get? (s.heap.objs.size+1)=Ã (Ào its.toArray 0):=by rw[<-z1];exact ĸ
 have kp:∀b o,Ġ b o->(Î4).get? b=ò:=λ b o g=>by have lt:=Zr g;rw[Heap.get?_push_ne ì (Ŕ z1 Zz (Xw lt)),Ñf (Zz lt),Heap.get?_push_ne ì (Zz lt)];exact g
 show Θ _ (Âd s heap Î4);rw[z1];generalize(Î4)=hA at g1 kp ⊢;show í (Z0 (ZN slot_list_sort (À5 g1) entry_list_sort ? body (args_list_sort _)))
 case body =>
  refine vJ (X:=X) (s:=ů s hA) (ÇL ĵ (.n 2) (Ñ Ç Ê (ć (ã 1) (.n 2))) ď (Nat.le_of_eq li) h2) g1 λ h3 c k3 a3=>#[Å,Zb Àk]
  have da:ê s.heap.get? (s.heap.objs.size+1):=Xc (YQ _);exact#[Æ _,_,Âo I.laid (o:=Õ xs) (Æx g k3 (λ zz=>by ext Ţ zz da g) (kp b o g)) (YQ _) #[z,its,c,rv,a3],rfl,q _ (none_of I da)]
theorem IX ē ĉ Ìl(hr:Room k X.A):ų QOp NotIn (CB K true):=by subst hK;exact Ll hr
theorem Jw ē Ìl(ε he e ta)(hb:ÂN e f:=by rfl):Ù5 QE K:=by subst hK;exact bj he hb
theorem Nz:Æa "sorted" (λ xs H Q=>∃ (p:XH) (as:(Ä XH)) (ks:(Ä XQ)),xs=ġ p/\Ì7 H p/\as.length<64/\ks.length=as.length/\(∀ k∈ks,k≠[])/\(∀ Ø7,ÞC) /\
  ∀ (pm:XR) (D:XH),POk as.length pm->LS ß2 pm as.length->ÏZ (ø D (Õ (pm.toList.map λ i=>(as.map V.ref).getD i .non)))):=by
 ext Ξ;show Òu [p,as,ks,rfl,hp,h64,hl,hne,hk,q] [u,rfl,ru] bZ ru;by_cases h2:as.length<2
 .refine Dc I hp (Ă Za h2) (Ø D hD);have e:((Ŷ as.length toArray.toList.map) λ i=>Ìb V.ref V.non)=as.map V.ref:=by refine List.ext_getElem Û (Ú i h1 h2);rw[Za]at h2;simp[h2]
  have:=q (Ŷ as.length toArray) D (Array.Perm.refl _) (λ i j hij hj=>∅) hD;ext Â1 e
 ext ÍE rv hlen hp;rw[Za]at hlen;have eits:its=as.map Value.ref:=by
  clear e z hlen hp hk q hl h2 h64;induction as generalizing its with
  |nil=>ext ϖ rv
  |cons a as ih =>
   cases rv with
   |cons r1 r2 =>cases r1;rw[ih _ r2];rfl
 subst eits;exists[m,F0],I.fr;refine kat_sorted (vs:=as.map Value.ref) F0 (oy X.base s.heap X.env.locals) #[_,e,Ì n,rfl] (ÄL Za ÛM (Nat.le_of_not_lt h2)) (Ż Za) (ŗ D e1 h1 F1 N1 hD);have mv0:∀b u,Â0 b->b∉([]:Ä XH)->Ġ b u->h1.get? b=Ã u:=λ b u hL _ g=>by
  cases qb:X.base.get? b with
  |none=>exact(N1 (b,u) (.tail _ (fF g hL qb))).1
  |some o =>ext Ñl I.bk o qb g F1.keep u
 have I1:ï H (ů s h1):=Inv.movedF (ch:=[]) (t':=s.toks) I (Â2 b hb hb) mv0 #[m,F0.ns,F1.ns];exists[fs,t1,t2,t3],BS I1 hne as 0 (ϔ (â (Ão 0) Ê ϊ ď (Nat.le_of_eq hl.symm)) (â Ç (Ão 1) ϊ ď (Nat.le_of_eq hl))) (Ûu a hk);refine kat_kind (T:=.type "int") t1 (ÅT â (Ñy) Ç (Ñ Ê Ç (ÇK (.n 2))) ď (Nat.le_of_eq t2.symm) (Nat.le_of_not_lt h2)) (Ø v hv) ÄE
 .exists[i,t,rfl],t3 v hv;exact .now
 rw[Za];refine xG (n:=as.length) (lt:=λ i j=>HT.lexLt (ks.getD i []) (ks.getD j [])) (ŗ i j C hi hj hC) (Ú pm hpm hs) (BT (Åq Íf 0 (Nat.le_of_not_lt h2))) (EI (IK ks) (Íf đ (Nat.le_of_not_lt h2)))
 .have ga:∀i,i<as.length->∃a:XH,Ìb Value.ref Value.none=Æ a/\H a=Ã (Ò ((ks.getD i []).map V.int)):=λ i hi=>by
   have h1:Ý as (as[i]'∅):=ĥ Ze;have h2:ks[i]?=some (ÔU i):=Ze (ÀL Âh hi hl.symm);refine#[as[i]'∅,Χ]
   .rw[ZL,Zs,h1];rfl
   .have:=hk i Â h1 h2;rw[ZL,h2];ext ÀZ
  exists[a,ea,ha],ga i hi;exists[b,eb,hb'],ga j hj;show Ž [ia,ra,pa,za] I1.tuple (ÃD ha) [ib,rb,pb,zb] I1.tuple (ÃD hb');show Øp Óp n1 n2 pb;rw[ea,eb];ext Øi Ú7
 .have hDL:Â0 D:=(N1 (D,ÂS e1) (.head _)).2.1;have hDs:ê s.heap.get? D:=by
   cases g:s.heap.get? D with
   |none=>rfl
   |some o=>show ĕ (hD (D,o) (fF g hDL (N1 (D,ÂS e1) (.head _)).2.2)) (YZ _)
  ext ÎZ pm.toList as.length hpm.mem_iff
  have vals:∀(ÄO w),(∀i∈w,i<as.length)->Vals (ÌW w.map as.map V.ref) (w.map λ i=>Ìb Value.ref Value.none):=λ w=>by
   induction w with
   |nil=>intro _;exact ė
   |cons i w ih =>intro hw;have hi:=hw i Zk;refine υ ? _ (Ùb hw);show RelV (Ìb V.ref V.non) (Ìb Value.ref Value.none);rw[ZL,ZL,Zs,Zs,Ze hi];rfl
  have lp:pm.toList.length=as.length:=by have:=hs.1;ext ÃT
  refine KasFin.intro (news:=(D,ÂS e1)::wC X.base s.heap X.env.locals) F1 N1 (.head λ p hp=>Zz (hD p hp)) (Č h2 c F2 N2);refine#[Æ D,_,I.laidF (o:=Õ (ÌW pm.toList.map as.map V.ref)) (t':=s.toks) (ÀG hL g) #[m,F0.ns,F2.ns] hDs #[by rw[Za,lp];exact ĥ cX,_,c,vals _ pl,(N2 (D,_) (.head _)).1],rfl,q pm D hpm hs.2 (none_of I hDs)];cases q:X.base.get? b with
  |none=>exact(N2 (b,o) (.tail _ (fF g hL q))).1
  |some o' =>ext Ñl I.bk o' q g F2.keep o
#check 0
section
variable{X:Cx}
theorem JV ź ç(hq:Rd H p (.dT kvs)):∃ks,eS H kvs ks/\FL X s p ks:=by
 ext ÓD hq;refine#[_,vG rel,Ø Q h];refine kdu_collect (ŕ E3 es es ep ep hd) (I.ok.hd hc) Ðn ∅ λ h' tk acc' kp hacc=>h h' tk _ kp ? _;have gen:á6:=by
  intro vs;induction vs with
  |nil =>
   intro ys hl _;cases ys with
   |nil=>exact ė
   |cons _ _=>cases hl
  |cons v vs ih =>
   intro ys hl hv;cases ys with
   |nil=>cases hl
   |cons y ys =>exists ÂZ x,hv 0 v rfl;cases e1;exact υ e2 (ih ys ÖB)
 refine gen Â Øf;ext ÓU
#check 0
section
variable{prog:XL}{w:XM}{A:XN}{E:XE}{s:XI}
theorem Hn ÀR{M:Model}{c:Prop}[Decidable c]{x y:Sem α}{Q:ű α}(h1:c->Âi x)(h2:¬c->Âi y):Âi (if c then x else y):=by
 by_cases h:c
 .ext χ XC h h1 h
 .ext χ XB h h2 h
def iD(prog:XL)(w:XM):Option (Ä Key)->Int
 |none=>0xFCA86420
 |Ã k=>(ÈK hash) k
def OIs(ÏJ h Heap):Æ0 (Ä Key) XJ
 |none,v=>v=.none
 |Ã k,v=>∃a,ÄU/\(ÈK is) h k a
theorem zo{Q:ű Int}(ÛA h k v)(q:∀tk,Q (iD prog w k) Åd):ċ (pyHash v) Q E s:=by
 cases k with
 |none =>rw[ÍT v h];exact pyHash_slot (T:="NoneType") rfl F.slot_NoneType_hash F.entry_NoneType_hash (F.args_NoneType_hash_1 _) (beq_builtin_none _) (ā hu2) (z9 (Zb (z9 (wpAny_mkInt (Zb #[ù _,q _])))))
 |some k =>ext ļ a h h;exact(ÈK pyHash) hu2 h (q _)
theorem OIs.tup(δ k Key a XH){h:Heap}(x:(ÈK is) h k a):∃vs,h.IsTuple a vs:=μ [o,items,n,h1,h2,h3,_] x #[items,o,h1,h2,n,h3]
theorem ER{Q:ű Bool}(ÛA h1 x u)(h2:OIs prog w s.heap y v)(q:Q (Ài x y) s):ċ (eqBool u v) Q E s:=by
 cases x with
 |none =>
  rw[ÍT u h1];cases y with
  |none =>rw[ÍT v h2];exact SeqAt.EqAt.same Â ì q
  |some k =>ext ļ b h2 h2;exists[vs,ht],OIs.tup h2;exact SeqAt.EqAt.none_tuple ht hu2 Β q
 |some k =>
  ext ļ a h1 h1;cases y with
  |none =>rw[ÍT v h2];exists[vs,ht],OIs.tup h1;exact SeqAt.EqAt.tuple_none ht hu2 Β q
  |some l =>ext ļ b h2 h2;refine(ÈK eqBool) hu2 h1 h2 ? _;rw[show Ài k l=decide (Ã k=Ã l) by rw[decide_eq_decide];simp];ext ŷ
theorem OIs.inj(h1:OIs prog w h x Ϗ)(h2:OIs prog w h y Ϗ):x=y:=by
 cases x with
 |none=>cases h1
 |some k =>
  cases y with
  |none=>cases h2
  |some l =>show ÃL [b,e,h1] h1 e;show ÃL [b,e,h2] h2 e;rw[(ÈK inj) h1 h2]
theorem IV(âa h v)(q:Q true s):ċ (eqIsQuiet 8 v) Q E s:=by
 cases k with
 |none =>rw[ÍT v h];exact Zb q
 |some k =>ext ļ a h h;exact(ÈK quiet) h q
theorem IW{key:XJ}{stored:XG}(âa hkey key)(hst:∀v∈stored,ÙF)(q:Q false s):ċ (tableMayTell key stored) Q E s:=by
 unfold tableMayTell;ext å he stored.isEmpty true
 .ext χ XC he Zb q
 .rw[XB he];show í (IV hkey ? _);rw[XB Û];refine z9 (wpAny_forIn_list _ (λ rest b s'=>s'=s/\b=(none,())/\∀v∈rest,ÙF) _ (Ķ x rest b s' h) (ρ s' h) Â #[î,hst])
  .ext ļ rfl hr h;exists[k',hk'],hr x Zk;show í (IV hk' ? _);show χ XB Û Zb #[î,ν v hv hr]
  .show ļ rfl _ h;exact Zb q
abbrev kz:=Option (Ä Key)×XJ×XJ
def jF(ÏJ x kz):DictEntry:=#[iD prog w ö,Ð.1,Ð.2]
structure ODict(ËU h Heap d XH)(o:Obj)(es:Array DictEntry)(Ŧ ep Nat xs kz):Prop where
 ho:ϒ d
 hd:Ær
 he:es.toList=xs.map (jF prog w)
 his:∀x∈xs,OIs prog w h ö Ð.1
 hn:(xs.map (·.1)).Nodup
theorem ODict.at{ep:Nat}Î2(j:Nat):es[j]?=(xs[j]?).map (jF prog w):=by rw[<-Yz,D.he,Zs]
theorem ODict.one{ep:Nat}Î2(ş i j)(hx:À8 x)(hy:Ŗ xs y)(e:ö=y.1):i=j:=by
 have h1:(xs.map (·.1))[i]?=some ö:=Â4 Zs hx
 have h2:(xs.map (·.1))[j]?=some ö:=by rw[Zs,hy,e];rfl
 exact(List.getElem?_inj (Àg h1) D.hn).mp (h1.trans h2.symm)
def oPl(es:Array DictEntry)(h:Int):Ä Nat:=placesWithHash es.size (λ i=>es[i]?.map (·.hash)) h
theorem QJ(es:Array DictEntry)(h:Int):(oPl es h).Nodup:=List.Pairwise.filter _ List.nodup_range
theorem ODict.pl{ep:Nat}Î2{j:Nat}(hx:Ŗ xs x)(e:ö=k):j∈ÊB:=by
 have hj:Ŗ es (jF prog w x):=Â4 D.at hx
 refine ZS.mpr #[Yh.mpr (Y7.mp hj).1,? _];ext ň;rw[hj];simp[jF,e]
theorem ODict.of_pl{ep:Nat}Î2{z:Int}{j:Nat}(hj:j∈oPl es z):∃x,Ŗ xs x/\Ŗ es (jF prog w x)/\iD prog w ö=z:=by
 exists Ãn,ZS.mp hj;ext ě hl Yh.mp h1 e D.at j;rw[Yg hl]at e;exists[x,hx,hx2],ZK.mp e.symm;have e2:Ŗ es (jF prog w x):=by rw[Yg hl,hx2]
 refine#[x,hx,e2,? _];ext Âw h2;rw[e2]at h2;ext Åv jF h2
theorem BG{ep:Nat}{key:XJ}{Q:Æ0 Nat XI}Òv(hnone:(∀ÇH,Ŗ xs x->ö≠k)->Q none s)(hsome:∀ÇH,Ŗ xs x->ö=k->Q (Ù j) s):ċ (dictFind d key (iD prog w k)) Q E s:=by
 have hst:∀v∈(ÊB).filterMap (λ i=>es[i]?.map (·.key)),ÙF:=λ v hv=>by show Ž [i,hi,e] Yn.mp hv [x,h1,h2,_] D.of_pl hi;show π h2 e #[x.1,D.his x (ZG h1)]
 have plain:ċ (dictWalkPlain d key (iD prog w k) es (ÊB)) Q E s:=by
  unfold dictWalkPlain;refine z9 (wpAny_forIn_list _ (λ rest b s'=>s'=s/\b=(none,())/\(∀i∈rest,i∈ÊB)/\∀ÇH,Ŗ xs x->ö=k->j∈rest) _ (Ķ i rest b s' h) (ρ s' h) Â #[î,Á1 z z,λ j x h1 h2=>D.pl h1 h2])
  .exists[rfl,rfl,sub,all],h;exists[x,h1,h2,h3],D.of_pl (sub i Zk);rw[h2];ext ň;ext ÝT
   .rw[decide_eq_true e,XC rfl];exact z9 (YV (Zb (Zb (hsome i x h1 e))))
   .rw[decide_eq_false e,XB Û];show í (YV (Zb #[î,ν i hi sub,âz]));subst z;ext π h1 g1 g2
  .exists[rfl,rfl,sub,all],h;refine Zb (hnone (Č j x h1 h2));show ĕ (all j x h1 h2) Û
 unfold dictFind;ext Ħ Z0;show í (Yj D.ho D.hd ? _);have shape:key=.none\/∃a,key=Æ a:=by
  cases k with
  |none=>exact Α hkey
  |some kk=>exists[a,e,_],hkey;show ſ #[a,e]
 rcases shape with rfl|⟨a,rfl⟩
 case' inr =>ext ň;rw[XB (Ĉ carriedByValue),XB (by intro z;rw[<-Array.any_toList,List.any_eq_true]at z;exists[e,he,hc],z;rw[D.he]at he;ext ż x hx he;simp only[jF,ZH,Ym,bne_iff_ne,ne_eq]at hc;have h1:=D.his x hx;rw[hc.1]at h1;exact hc.2 (by rw[OIs.inj h1 hkey]))];refine Hn ß4 λ _=>z9 (IW hkey hst ? _)
 case' inl =>ext ň;refine Hn (ę plain) λ _=>Hn ß4 λ _=>z9 (IW hkey hst ? _)
 all_goals
  rw[XB Û];refine z9 (wpAny_forIn_list _ (λ rest b s'=>s'=s/\rest.Nodup/\(∀i∈rest,i∈ÊB)/\∃hit,b=(none,hit)/\((hit=none/\∀ÇH,Ŗ xs x->ö=k->j∈rest)\/∃(j:Nat) (x:kz),hit=Ã j/\Ŗ xs x/\ö=k/\j∉rest)) _ (Ķ i rest b s' h) (ρ s' h) Â #[rfl,QJ Â,Á1 z z,È none,Ó #[rfl,λ j x h1 h2=>D.pl h1 h2]])
  .exists[rfl,nd,sub,hit,rfl,hh],h;exists[x,h1,h2,h3],D.of_pl (sub i Zk);have nd':=(Ya.mp nd).2;have ni:=(Ya.mp nd).1;have sub':∀i∈rest,i∈ÊB:=ν i hi sub;rw[h2];ext ň;ext ÝT
   .rw[decide_eq_true e,XC rfl];rcases hh with⟨rfl,all⟩|⟨j,y,rfl,g1,g2,g3⟩
    .rw[XB Û];ext Ãa YV;split
     show Áj Zb (Zb (hsome i x h1 e)) Zb #[Ì nd',sub',Ã i,rfl,ā #[i,x,Ì h1,e,ni]]
    .exact absurd (D.one g1 h1 (g2.trans e.symm)) λ z=>ÁG g3 z Zk
   .rw[decide_eq_false e,XB Û];ext Ãa YV;rw[XB Û];refine Zb #[Ì nd',sub',hit,Ì ? _];rcases hh with⟨rfl,all⟩|⟨j,y,rfl,g1,g2,g3⟩
    .refine Α #[rfl,âz];subst z;ext π h1 g1 g2
    .show ſ #[j,y,Ì g1,g2,λ z=>g3 (Zh _ z)]
  .exists[rfl,_,_,hit,rfl,hh],h;rcases hh with⟨rfl,all⟩|⟨j,y,rfl,g1,g2,_⟩
   show Áj Zb (hnone λ j x h1 h2=>absurd (all j x h1 h2) Û) Zb (hsome j y g1 g2)
#check 0
section
variable{A:XN}{s:XI}
theorem G9{ep:Nat}{key v:XJ}{Q:XE}Òv(hc:o.ExactDict)(hz:Ń es.size)(hold:∀ÇH (tk:Nat),Ŗ xs x->ö=k->Q Ð.2 Åd)(hnew:(∀ÇH,Ŗ xs x->ö≠k)->∀(h':Heap) (tk:Nat) (o':Obj) (es':Array DictEntry) (ep':Nat),h'.get? d=Ã o'->o'.ExactDict->o'.data=.dict es' ep'->es'.toList=es.toList++[#[iD prog w k,key,v]]->Heap.SameBut d s.heap h'->Ã1 Q v tk):
  ċ (dictSetDefault d key v) Q E s:=by
 ext âG dictSetDefault;show í (BG (s:=Åd) hu hkey D' (ģ hno) âF)
 .refine z9 (YV (z9 (wpAny_updateDictKeys (hz:=hz) (s:=Åd) D.ho D.hd (Zb (hnew hno _ tk Â (ep+1) (Ye _ D.ho (Obj.isFreed_of_dict (Obj.data_mapDictKeys D.hd _))) (hc.mapDictKeys _) (Obj.data_mapDictKeys D.hd _) ? _ (ZV ..))))));simp
 .show í (Yj (s:=Åd) D.ho D.hd ? _);rw[D.at j,h1];exact z9 (YV (àV))
theorem NN{ep:Nat}{key:XJ}ÅU Òv(hold:∀ÇH (tk:Nat),Ŗ xs x->ö=k->Q (some Ð.2) Åd)(hnew:(∀ÇH,Ŗ xs x->ö≠k)->∀tk:Nat,Q none Åd):
  ċ (dictGet d key) Q E s:=by
 ext âG dictGet;show ÂR (BG (s:=Âd s toks tk) hu hkey D' (λ hno=>Zb (hnew hno tk)) âF) (Yj (s:=Âd s toks tk) D.ho D.hd ? _);rw[D.at j,h1];exact àV
#check 0
abbrev OK1:=Option (Ä Key×XH)
def okD:OK1->Option (Ä Key)
 |none=>none
 |Ã p=>some p.1
def okV:OK1->XJ
 |none=>.none
 |Ã p=>.ref Ĺ
def oE(e:OK1×XH):kz:=(Ây,okV e.1,.ref e.2)
def odO(P:XL)(Îp w XM d XH):HO:=.ext λ h=>Âk d/\∃(o:Obj) (es:Array DictEntry) (ep:Nat),ϒ d/\o.ExactDict/\Ær/\es.toList=ũ kls.map oE (jF P w)
theorem IY{h:Heap}Øc{ep:Nat}(hd:Âk d)(h1:ϒ d)(h2:o.ExactDict)(h3:Ær)(h4:es.toList=ũ kls.map oE (jF P w)):ObjOk P w H h d (odO P w d kls) :=
 #[#[hd,o,es,ep,h1,h2,h3,h4],#[o,h1],λ _ _ ⟨a,o,es,ep,b,c⟩ k=>#[a,o,es,ep,k _ b,c]]
def xn Ë(y:V):Þ OK1
 |none=>y=.non
 |Ã p=>y=.ref Ĺ/\H Ĺ=Ã9 p
def cK(kls:Ŋ OK1 XH)(k:Option (Ä Key)):Option XH:=ũ kls.find? (ÀF e (Ây=k)) (·.2)
structure OdAt(P:XL)(w:XM)Ë(d:XH)(kls:Ŋ OK1 XH):Prop where
 ob:H d=Øm d
 ks:∀e∈kls,∀p,e.1=Ã p->H Ĺ=Ã9 p
 nd:(kls.map λ e=>Ây).Nodup
theorem zp Øc(nd:(kls.map λ e=>Ây).Nodup){j:Nat}(h:Ŗ kls e):cK kls (Ây)=some e.2:=by
 unfold cK;induction kls generalizing j with
 |nil=>simp at h
 |cons x r ih =>
  rw[Zu,Ya]at nd;cases j with
  |zero =>cases h;rw[List.find?_cons_of_pos Û];rfl
  |succ j =>
   have h:Ŗ r e:=h;rw[List.find?_cons_of_neg (by
    ext Ű Xh;intro z;exact nd.1 (z▸List.mem_map_of_mem (ZG h)))]
   exact ih nd.2 h
theorem vS(h:∀e∈kls,Ây≠k):cK kls k=none:=by unfold cK;rw[YM.mpr (λ e he=>by ext Ű Xh;exact h e he)];rfl
section
theorem ES ç(h:xn H y e)(r:RelV y u):OIs X.prog X.w s.heap (okD e) u/\u=okV e:=by
 cases e with
 |none =>rw[show y=.non from h]at r;show Ř (show u=Value.none from r) ÁP
 |some p =>exists[rfl,h],h;show Ř (show u=Value.ref Ĺ from r) #[#[Ĺ,rfl,jX I.hok h],rfl]
theorem MY ç(h:OdAt X.prog X.w H d kls):Âk d/\∃(o:Obj) (es:Array DictEntry) (ep:Nat),o.ExactDict/\ODict X.prog X.w s.heap d o es ep (kls.map oE):=by
 exists[hd,o,es,ep,h1,h2,h3,h4],(I.hok d _ h.ob).1;refine#[hd,o,es,ep,h2,h1,h3,Åk h4,? _]
 .ext ż e he hx;cases ek:e.1 with
  |none =>show OIs ì (Ây) (okV e.1);ext Œ ek rfl
  |some p =>show OIs ì (Ây) (okV e.1);show Œ ek #[Ĺ,rfl,jX I.hok (h.ks e he p ek)]
 .ext Œ ZX h.nd
#check 0
def Kf(P:XL)(w:XM)Ë Ō:Prop:=∃kls,H a=Øm a
def TM(P:XL)(w:XM):TE:=λ _ H Q=>Æl p (ø p (odO P w p []))
def TN àr:TE:=λ Z H Q=>td Z H λ x H1=>∃a,Àh/\Kf P w H1 a/\ty Z H1 λ y H2=>tx Z H2 λ z H3=>∃kls e l0,OdAt P w H3 a kls/\xn H3 y e/\z=Æ l0/\kls.length<4096 /\
 (∀l,cK kls (okD e)=Ã l->Đ l H3)/\(Ëq okD e->Đ l0 (ß H3 a (odO P w a (kls++[(e,l0)]))))
def TL àr:TE:=λ Z H Q=>td Z H λ x H1=>∃a,Àh/\Kf P w H1 a/\ty Z H1 λ y H2=>tx Z H2 λ z H3=>∃kls e,OdAt P w H3 a kls/\xn H3 y e/\kls.length<4096 /\
 (∀l,cK kls (okD e)=Ã l->Đ l H3)/\(Ëq okD e->Q z H3)
section
variable{X:Cx}{apos cpos:Pos}
theorem Tr:QE X (.Dict [] ÂB) (TM X.prog X.w):=#[λ XU s Z H Q I h =>
 wpAny_Dict_empty #[Æ s.heap.objs.size,_,Ñ4 (o:=odO X.prog X.w Êj) (t':=s.toks) ÕH (IY (ep:=0) (Ě YS.mpr Z7 Zz I.big) (ĸ) #[î,rfl] rfl rfl),rfl,h ÈI]]
theorem sP ç(d:Kf X.prog X.w Ω):Ā s.TypeIs a "dict"/\äc:=by exists[kls,h],d;exists[_,o,es,ep,h1,h2,_],(I.hok a _ h).1;refine#[#[o,h1,h2.1],Ø b q];show Ř q #[o,h1,h2.2.1]
theorem Jy Áx ÜA(hbase:ÂN o "setdefault":=by rfl)Äc :
  QE X (Ãv (Âm "setdefault" apos) [e,f]) (TN X.prog X.w td ty tx):=by
 ext Ξ;ext ÛI;ext ÛU PySem.F.slot_dict_setdefault PySem.F.type_dict_setdefault
 rw[ht];refine Y5 rfl (Calls.evalArgs_plain (Calls.spliced_cons (ÄP he.h λ iv s2 ⟨y,H2,I2,ry,q2⟩ =>
  Calls.spliced_cons (åv ⟨z,H3,I3,rz,kls,ke,l0,oa,ok,ez,l,qo,qn⟩))))
 subst ez;obtain rfl:fv=Value.ref l0:=rz;ext åo;have hz:Ń es.size:=by rw[<-Zx,D.he,Za,Za];exact ĥ iB
 show ßJ PySem.F.slot_dict_setdefault PySem.F.entry_dict_setdefault (PySem.F.args_dict_setdefault_3 ì) (Builtin.«dict.setdefault» #[[Æ a,iv,Æ l0],[]]) Builtin.«dict.setdefault»;show Θ (pure (a,iv,ϝ Value.ref l0)) s3;ext Ħ Zb;show ÀA (Âl (a==sysModules) _ (dictSetDefault a iv (Ï l0) >>= _)) s3;rw[ÁG XB hd Zq];refine z9 (âS G9 hc hz (λ j x tk g1 g2=>Zb Àk) (λ hno h' tk o' es' ep' g1 g2 g3 g4 g5=>Zb Àk))
 .ext ã5;exact#[.ref en.2,H3,I3.tok _,rfl,qo _ this]
 .ext âM
  refine#[Æ l0,_,ŕ xz a a t' tk I3 (Ă oa.ob True.intro) g5 #[o',g1] (IY (kls:=kls++[(ke,l0)]) hd g1 g2 g3 ? _),rfl,qn hn];rw[g4,D.he,Zy,Zy,kv];rfl
#check 0
section
variable{X:Cx}{apos cpos:Pos}
theorem Jx Áx ÜA(hbase:ÂN o "get":=by rfl)Äc :
  QE X (Ãv (Âm "get" apos) [e,f]) (TL X.prog X.w td ty tx):=by
 ext Ξ;ext ÛI;ext ÛU PySem.F.slot_dict_get PySem.F.type_dict_get
 rw[ht];refine Y5 rfl (Calls.evalArgs_plain (Calls.spliced_cons (ÄP he.h λ iv s2 ⟨y,H2,I2,ry,q2⟩ =>
  Calls.spliced_cons (åv ⟨z,H3,I3,rz,kls,ke,oa,ok,l,qo,qn⟩))))
 ext åo;show ßJ PySem.F.slot_dict_get PySem.F.entry_dict_get (PySem.F.args_dict_get_3 ì) (Builtin.«dict.get» #[[Æ a,iv,fv],[]]) Builtin.«dict.get»;show ÀA (pure (a,iv,Ã fv)) s3;ext Ħ Zb;ext ň;refine z9 (âS NN (Ķ j x tk g1 g2) (Ø hno tk))
 .ext ã5;exact Zb #[Å,.ref en.2,H3,I3.tok _,rfl,qo _ this]
 .ext âM
  ext ň;unfold Builtin.Dict.missed;rw[ÁG XB hd Zq];exact z9 (Zb (Zb #[Å,z,H3,I3.tok _,rz,qn hn]))
theorem RG(ε ho o to)(hbase:ÂN o "pop":=by rfl)Äc:QE X (Ãv (Âm "pop" apos) []) (R9 X.K "list" RN to) :=
 #[Q8 PySem.F.plainAttrs_list PySem.F.slot_list_pop PySem.F.type_list_pop Qw ho.h hbase hline]
theorem LK Óm(hbase:ÂN o "extend":=by rfl)Äc :
  QE X (Ãv (Âm "extend" apos) [e]) (â5 E1):=by
 show Ùt #[Úu PySem.F.slot_list_extend PySem.F.type_list_extend IQ]
#check 0
theorem Hm{l:W.OpenLaw}(ş n k){XP:(XF)->Þ Heap}Ôc{K:Params->XY}{tabs:Params->Ŋ XH XH}{sp:XM->Sp}(hn:l.most=Γ)(hn2:Ń n)Öf(hr:Room k callerA)Üm(ht:∀ (w:XM) (h:Heap),YP w h->∀ t∈tabs w.params,Ìi h t t.2/\h.get? t.2=some (tabObj Ů))(nt:∀ w:XM,ú noTabs (K w.params))(F:∀ (w:XM) (mg:XF) (fa:XH) (h:Heap),(K w.params).In h->h.Ns mainGlobals mg->ÁK d.name fa ->
   ∃fd:XO,(ÏX u x) /\
    ∀ base:Heap,(K w.params).In base->base.Ns mainGlobals mg->Blt base mg->(∀ t∈tabs w.params,Ìi base t t.2)->Î8 l.prog (K w.params) k fa [x] (sp w))(go:∀ (w:XM) Ë Ō (ns:XQ),ns.length<=n->(∀ t∈tabs w.params,H t.2=Èw)->SqL (K w.params) Ω (ns.map V.int)->sp w [Æ a] H (λ v _=>v=.bl true) (Η _ False)):
  Ôk W.WalkO:=by
 refine Att.attach_call hn hdf λ w s₀ s₁ mg mb fa o pm cd doc a vs ns G Y ho hd hcd hmg hobj hints hlen hg=>? _;have kx:=hY w _ Y;exists[fd,hb,hF],F w mg fa _ kx G.T.g hmg;exact Lb (tabs:=tabs w.params) kx G.T.g G.T.b G.T.builtins G.T.nolimit hg G.T.bmain (λ r hr'=>ht w _ Y r hr') (nt w) hobj hints (Zn hlen hn2) hr (λ base h1 h2 h3 h4=>hF base h1 h2 h3 h4) hb λ H h1 h2=>go w H a ns hlen h1 h2
def sk(K:Frag)(x m:Str):Option (XH×XH):=match nsIn K mainGlobals x with
 | Ê1 C=>(match findIn K (Ï C) m with
  | Ê1 f=>(match K.lookup f with
   | Ã ⟨_,_,.func fd,_⟩=>(match fd.code with
    | .ref c=>(match K.lookup c with
     | Ã ⟨_,_,.fields vs,_⟩=>(match (vs[11]?:Option XJ) with
      |Ö P=>Ã (c,P)
      | _=>none)
     | _=>none)
    | _=>none)
   | _=>none)
  | _=>none)
 |_=>none
set_option tactic.hygienic true in theorem J5{K:Frag}(Öp g C)(a:findIn K (Ï C) m=Ê1 f)(l:Ù0 sl)(t:sk K x m=Ã (c,P)):fd.code=Æ c:=by
 ext Ĝ sk t;rw[g]at t;ext Âw t;rw[a]at t;ext Âw t;rw[l]at t;ext Âw t;split at t
 .rename_i c' e;rw[e];split at t
  .split at t
   .ext ϖ t
   .cases t
  .cases t
 .cases t
theorem Iv{K:Frag}{st:Stmt}(Öp g C)(a:findIn K (Ï C) m=Ê1 f)(F:é m q st)(t:sk K x m=Ã (c,P)):fd.code=Æ c:=by exists ÔT l,id F.ex;exact J5 g a l t
theorem Bt:Æa "len" (λ xs H Q=>∃x:Str,xs=[Î x]/\x.length<=100000/\Q (Áu x.length) H):=by ext Ξ;show Èd Çc [x,rfl,hz,q];exact PyProof.Rows.len_str ∅ #[Í x.length,Ãb,q]
theorem Nf à(h:n<=100000):Ń n:=Zn h ⋯
set_option tactic.hygienic true in theorem IJ:QSl X (λ x lo hi H Q=>∃z:Str,x=Î z/\z.length<=100000/\Q (Î (cZ z lo hi)) H):=by
 ext Ξ;ext ÏH;exists[z,rfl,hz,q],h;ext ĭ t rx;have pt:∀{v:XJ} {o:Option Int},IsPart v o->∃p:Option (Int×Tok),v=partValue p/\p.map (·.1)=o:=fun{v o} p=>by
  cases p with
  |none=>exact#[È none,rfl]
  |int i t=>exact#[Ã (i,t),î]
 exists ÀP l hl,pt pl;exists ÀP u hu,pt pu;have e:slicePicked z l u none=Builtin.Str.strSliceIndices lo hi 1 z.length:=by ext ÀY slicePicked hl hu;rfl
 refine#["str",_,F.slot_str_getitem.lookup,typeIs_str ì,ÃK wpAny_getItem_str_slice l l u u st none hs ÄE];have hy:=KA z lo hi;unfold sliceMade;unfold cZ at q hy;rw[e];split
 .rename_i hc;have hc':Ëj length=z.length:=û hc
  rw[XC hc']at q;exact#[Î z,H,I,Âv,q]
 .rename_i hc;have hc':¬Ëj length=z.length:=û hc
  rw[XB hc']at q hy;exact#[Nf (Zn hy hz),Î _,Ãb,q]
section
variable{prog:XL}{w:XM}{A:XN}{E:XE}{s:XI}{κ:SortKind}{it:Array Keyed}{lt:XS}{N:Nat}
theorem Pu(Zq0:Zc prog w A s κ it lt N)(O:LtOk lt)(h2:2<=N)(h64:N<64){Q:Unit->Þ SortSt}(h:∀(p:XR) (st':SortSt),POk N p->LS lt p N->p.size=N->arrOf st'=p.map (kas_item it)->ê failedOf st'->Q () st') :
  ÄA wpS A E s sortRuns' Q (SortSt.mk' κ (ũ List.toArray (List.range N) (kas_item it)) Ů 7 none) :=
 kas_runs (Q:=λ u st' s'=>s'=s/\Q u st') (G:=λ p s'=>s'=s/\POk N p/\LS lt p N) h2 h64 (λ p st' _ hz ha hf g=>#[g.1,h p st' g.2.1 g.2.2 hz ha hf]) (ŕ xG n N lt lt Zq0 (λ _ hp hr=>#[Ì hp,hr.2]) (BT (Åq Íf 0 h2)) (EI O (Íf đ h2)))
#check 0
section
variable{A:XN}{s:XI}{kS:XH}{news:XD}{vs ks:XG}
theorem Sq(ş e e1){P:ű PySem.Fin}(hl:ks.length=vs.length)Ïp(h:ØH s):
  ċ (ksk_end a b vs.toArray e1 (Ï kS) (List.toArray ks)) P E s:=by
 ext ÐX
 have lr:(katRev b ks).length=(katRev b vs).length:=ÅJ kat_len kat_len hl
 have lv:ÅC katRev b vs vs.length:=kat_len b vs;have step:∀t:Sem PySem.Fin,ċ t P E s->ċ (Âl b (do let _ ←rule "list.sort.reverse";t) t) P E s:=by
  intro t ht;split
  .exact z9 (YV ht)
  .exact ht
 unfold ksk_end;ext ň;refine step _ ? _;have er:∀κ,SortSt.mk' κ ËJ Ů 7 none=SortSt.mk' κ (ũ List.toArray (List.range vs.length) (kas_item ËJ)) Ů 7 none:=λ κ=>by have e:=kas_range ËJ;rw[show((List.toArray (katRev b ks)).zip (List.toArray (katRev b vs))).size=vs.length by simp[lr,lv]]at e;rw[e]
 rw[kat_pairs b hl];by_cases n2:vs.toArray.size<2
 .rw[XC n2,XC n2];have n2':vs.length<2:=û n2
  ext Ãa Zb;rw[er,StateT.run_pure];ext Ãa Zb;ext ň;exact FA (kat_snds lr (p:=List.toArray (List.range vs.length)) rfl) (û hz) ∅ rfl (h.2 n2')
 rw[XB n2,XB n2];have n3:2<=vs.length:=by rw[Zl]at n2;exact ÛM (Nat.le_of_not_lt n2)
 show ÀN (Ái (h.1 n3) (Ú κ s0 hg) x x.elim);exists[lt,O,ask,fin],hg;have Zq0:Zc prog w A s0 κ ËJ lt vs.length:=λ i j C hi hj hC=>by have:=ask i j C hi hj hC;rw[kat_ask_eq lr]at this;ext ÀZ
 rw[er];refine z9 (Ái (Pu (E:=E) (Q:=λ _ st'=>∃p:XR,POk vs.length p/\LS lt p vs.length/\p.size=vs.length/\arrOf st'=p.map (kas_item ËJ)/\ê failedOf st') Zq0 O n3 h64 λ p st' a1 a2 a3 a4 a5=>#[p,a1,a2,a3,a4,a5]) ? _ x x);rintro⟨⟨⟩,st'⟩ s' ⟨rfl,p,a1,a2,a3,a4,a5⟩;ext ň;exact FA (kat_snds lr a4) (by rw[Za,Zx,a3];exact hz) ∅ a5 (fin p a1 a2)
theorem Pt{e1:Nat}{P:ű PySem.Fin}(hq:Ġ kS (ÂS 0))Ïp(h:ËC A (λ ks e s'=>ØH s') vs [] 0 s):
  ċ (ksk_rest a f b vs.toArray e1 (Ï kS)) P E s:=by
 ext ÐX
 show ξ ksk_rest (YV ? _);rw[<-Array.forIn_toList];show ÀN (Ái (Fz hz (λ x qs e s' C hzz hx=>? _) vs [] 0 s Û hq h) (Ú _ s' hd) x x)
 .show ÀN (Y0 (Ái hx (Ú k s2 hkk) hF hF.elim));ext â1 cq hkk qs;have s1:=ZV s2.heap kS (Obj.mapSeq (·.push k));have ea:(List.toArray qs).push k=List.toArray (qs++[k]):=Ĵ
  obtain⟨c2,hc2⟩:∃z,(s2.heap.update kS (Obj.mapSeq (·.push k))).get? kS=some (Ào (List.toArray (qs++[k])) z):=#[_,by rw[<-ea];exact get?_update_seq ak.1 (·.push k)]
  ext ň;refine z9 (listUpdate_at ak.1 rfl (Zb #[Ì k,c2,hc2,ãa cq c2 hc2]) (by rw[Zl];exact ĥ iB) (Zn (Xd (Array.size_push ..)) (Ŕ Zl Nat.le_succ_of_le (ĥ iB))))
 .exists[qs,e,hq',hl,fin],hd;exact z9 (listItems_at hq' rfl (Sq hl h64 fin))
theorem Mz à{P:ű PySem.Fin}á7(ho:Ġ a (seqObj "list" vs.toArray n))(haL:a≠L)(ha0:ê h₀.get? a)(hna:∀ p∈news,p.1≠a)Ïp(h:∀ kS e1 h',Fr h₀ L h' m->News h₀ L h' ((kS,ÂS 0)::(a,ÂS e1)::news)->a<kS->(∀ q∈news,q.1<kS) ->
   ËC A (λ ks e s'=>ØH s') vs [] 0 (ů s h')):
  ċ (ksk_tree a f b) P E s:=by
 ext ÐX
 ext Ìa la a ho;ext Ø2 a;have F1:=kas_fr F s1 haL ha0;have N1:=kas_news N s1 hna;ext âs z
 have zk:Ík objs.size=s.heap.objs.size+1:=ÀK size_push' Heap.size_update
 have lk:L<Ík objs.size:=(F1.push _).ns.lt;unfold ksk_tree;refine z9 (listItems_at ho rfl (z9 (listUpdate_at ho rfl (z9 (seqEpoch_at ho1 rfl (z9 (wpAny_newTuple (z9 (wpAny_newList (Z0 ? _) (ZA _))) (iB hz))))) (Ŕ Zl iB hz) (ZA _))));refine Pt (s:={ s with heap:=Í2 }) (kS:=Ík objs.size)
  (ĸ) h64 (h _ e1 _ ((F1.push _).push _) (Ø p hp) (Ŕ zk Xw la) λ q hq=>Ŕ zk Xw (Zr (N q hq).1))
 ext ϋ hp hp
 .exact#[ĸ,Yf lk,Xc (Zn F.above (Xo lk))]
 .ext ϋ hp hp
  show ÀI #[Zd _ (Zd _ ho1),haL,ha0] #[Zd _ (Zd _ (N1 p hp).1),(N1 p hp).2]
theorem Ps{Q:XE}á7 Ïp(ha2:ãl)(ht:∀ x,Ù8 x=ksk_tree x f b)(h:∀ D kS e1 h',Fr h₀ L h' m->News h₀ L h' ((kS,ÂS 0)::(D,ÂS e1)::news)->D<kS->(∀ q∈news,q.1<D) ->
   ËC A.in1 (λ ks e s'=>FM prog w A.in1 b ks vs (λ out=>KatFin h₀ L m kS D ks e e1 out (λ s4=>Đ D s4)) s') vs [] 0 (ů s h')):
  ċ (do let l ←newList vs;let _ ←holding [l] (Èy "list.sort" [l] kw);ret l) (λ fin s'=>∃v,fin=.done (.ret v)/\Q v s') E s:=by
 ext ÐX
 have hL:L<s.heap.objs.size:=F.ns.lt;have hoL:ØQ s.heap.push (Ào vs.toArray 0) Ã:=ĸ;show ÂR (wpAny_newList ? _ (iB hz)) (Z0 (wpAny_call_entry_kw slot_list_sort (À5 hoL) entry_list_sort ? body (ha2 _)))
 case body =>
  show ÄA wpAny A.in1 (Ù8 s.heap.objs.size) ì;rw[ht];refine Mz (s:={ s with heap:=s.heap.push (Ào vs.toArray 0) }) (F.kept (Àu o q q)) (N.grown (Àu o q q)) hoL (Yf hL) (Xc (Zn F.above (Xo hL))) (λ p hp=>Zz (Zr (N p hp).1)) h64 (Áp kS e1 h' F' N' l0 l1);refine kat_keys_mono (h _ kS e1 h' F' N' l0 λ q hq=>Zr (N q hq).1) λ ks e s' _ hd=>#[λ n2=>Ái (hd.1 n2) (Ú κ s2 hk) x x,λ n2=>(hd.2 n2).mono λ s4 hq=>#[Å,Zb #[Å,hq]]]
  show þ [lt,O,ask,fin] hk #[lt,O,ask,λ p a1 a2=>(fin p a1 a2).mono λ s4 hq=>#[Å,Zb #[Å,hq]]]
#check 0
section
theorem jT(δ ks ZKey Q VK)ç(src:FL X s l xs)(h64:xs.length<64)(hl:ks.length=xs.length)(hne:(ä0)\/(Hq ks/\X.A.in1.in1.units+64<cLine))(hs1:argsOk "sorted" #[ġ l,kw])(hs2:ãl)(hs3:∀x,Ù8 x=ksk_tree x (Ï f) b)(F:∀l,AE (wX X l) XU Z f sp)(spec:∀Îd,À8 v->Ý ks key->âg)(q:∀Øh,POk xs.length p->ÏM Ë7->Same H H2->ê H2 D->Đ D (ψ H2 D Îh)):
  Ź (Èy "sorted" [Æ l] kw) Àt X.xe s:=by
 have hz:xs.length<=4096:=∅
 show ßI call_function_entry_kw hs1 (Zb (z9 (src _ (Ķ h0 tk its kp rv))));have I0:ï H (ÁT h0 tk):=Ðy kp;exists[m,F0],I0.fr;ext Ìm li rv.length.symm;refine ŕ Ps vs its b b F0 (oy X.base h0 X.env.locals) ∅ hs2 hs3 (Ã0 D kS e1 h1 F1 N1 hDk hD);show ÄT nD N1 (D,ÂS e1) (.tail ÌG) nK N1 (kS,ÂS 0) (.head _);have hds:ê h0.get? D:=by
  cases g:h0.get? D with
  |none=>rfl
  |some o=>show ĕ (hD (D,o) (fF g nD.2.1 nD.2.2)) (YZ _)
 have hks:ê h0.get? kS:=by
  cases g:h0.get? kS with
  |none=>rfl
  |some o=>show ĕ (Nat.lt_trans hDk (hD (kS,o) (fF g nK.2.1 nK.2.2))) (YZ _)
 have xk:=I0.exOk hks nK.2.1 nK.2.2;have xd:=I0.exOk hds nD.2.1 nD.2.2;have hlx:∀b∈[kS,D],ExOk X b:=λ b' hb=>by
  ext Äb hb
  ext ÀI xk xd
 have fpk:=åK xk hks;have fpd:=åK xd hds;have mv0:∀b u,Â0 b->b∉([]:Ä XH)->ÀC h0.get? u h1.get?:=λ b u hL _ g=>by
  cases qb:X.base.get? b with
  |none=>exact(N1 (b,u) (.tail _ (.tail _ (fF g hL qb)))).1
  |some o =>ext Ñl I0.bk o qb g F1.keep u
 have I1:ï H (ÁT h1 tk):=Inv.movedF (ch:=[]) (s:=ÁT h0 tk) (t':=tk) I0 (Â2 b hb hb) mv0 #[m,F0.ns,F1.ns];have I2:=I1.widen hlx;have hkd:kS≠D:=Yf hDk;refine wM (X:=wX X [kS,D]) (H1:=H) (D:=D) (e1:=e1) (ks:=ks) (xs:=xs) (its:=its) hkd rv hl (F _) spec (Áp as us e2 H' s' S la) its ÄI 0 H (ÁT h1 tk) #[I2,Same.refl H,fpk,fpd,nK.2.2,nD.2.2,nK.1,nD.1,F1.ns,.nil,λ i a k h=>ÀU h] Û (û li);ext Ìm hN li;have lu:us.length=xs.length:=by rw[<-S.vals.length,la]
 have rvR:Vals (katRev b xs) (katRev b its):=Dz b rv;have lR:ÅC katRev b xs xs.length:=kat_len b xs;have gk:∀i,À4 i->∃(v:V) (u:XJ) (k:ZKey),RelV v u/\ËK us=u/\k∈ks/\Ë7 i=k.nums/\k.at H' v:=λ i hi=>by
  obtain⟨j,hj,e1⟩:∃j,À4 j/\∀ÀR (l:Ä α),l.length=xs.length->(katRev b l)[i]?=l[j]?:=by
   cases b with
   |false=>exact#[i,hi,λ l _=>rfl]
   | true=>exact#[Êp,∅,λ l hl'=>by
     show l.reverse[i]?=_;rw[ĥ List.getElem?_reverse,hl']]
  ext â2;refine#[_,u,_,ru,? _,ÐR j,? _,S.keys j Â h1 h2]
  .rw[ZL,e1 us lu,gu];rfl
  .rw[ZL,e1 (ks.map ZKey.nums) (ÀK Za hl),Zs,h2];rfl
 have fin:∀p:XR,POk xs.length p->p.size=xs.length/\ÏM Ë7 ->
   KatFin X.base X.env.locals m kS D us e2 e1 (katRev b (åc its)) (λ s4=>EP X XU Z Q (Ï D) s4) s':=λ p hp hs=>by
  show âm KatFin.intro e2 s'.heap S.fr (md S.hk S.fk.2.1 S.bk) mv3 (λ b' o qb=>S.I.bk b' o qb);have hd3:h3.get? D=Ã (Ào Ů e1):=mv3 D _ S.fd.2.1 (λ zz=>hkd (Zg.mp zz).symm) S.hd;refine KasFin.intro (news:=(D,ÂS e1)::lC X.base h3 X.env.locals D) (s:=ů s' h3) F3 (md hd3 S.fd.2.1 S.bd) (.head qD) (Č h4 c4 F4 N4);have mv4:=ma (λ b' o qb=>F3.keep b' o qb) F4 N4;have hch:∀b∈[kS,D],cE (wX X [kS,D]) XU H' b:=λ b' hb=>by
   ext Äb hb
   ext ÀI S.fk S.fd
  have mv:∀b u,Â0 b->b∉[kS,D]->ÀC s'.heap.get? u h4.get?:=λ b' u hL hx g=>mv4 b' u hL (λ zz=>hx (by rw[Zg.mp zz];simp)) (mv3 b' u hL (λ zz=>hx (by rw[Zg.mp zz];simp)) g);ext ÎZ p.toList xs.length hp.mem_iff
  have vals:∀(ÄO w),(∀i∈w,À4 i)->Vals (w.map λ i=>(katRev b xs).getD i .non) (w.map λ i=>ËK its):=λ w=>by
   induction w with
   |nil=>intro _;exact ė
   |cons i w ih =>intro hw;have hi:=hw i Zk;have hx:Ý (katRev b xs) ((katRev b xs)[i]'∅):=ĥ Ze;exists[u,gu,ru],rvR.get hx;refine υ ? _ (Ùb hw);show RelV ((katRev b xs).getD i V.non) (ËK its);rw[ZL,ZL,hx,gu];exact ru
  have lp:p.toList.length=xs.length:=by have:=hs.1;ext ÃT
  have new:Ãr (Áq D (.lst Îh)) h4 D (Õ Îh):=#[by rw[kat_len,Za,lp];exact ĥ iB,_,c4,Dz b (vals _ pl),(Éw N4).1]
  have I4:=Inv.tookF (X:=wX X [kS,D]) (ch:=[kS,D]) (a:=D) (o:=Õ Îh) (t':=s'.toks) S.I Û hch mv #[m,S.ns,F4.ns] new;exact#[Æ D,_,I4.narrow I.ok (λ b' hb=>(hlx b' hb).old),rfl,q p H' D hp hs.2 S.sm S.fd.1]
 have go:∀κ:SortKind,(∀(i j:Nat) (C:ű Bool),À4 i->À4 j->C (HT.lexLt (Ë7 i) (Ë7 j)) s'->kas_ask X.prog X.w X.A.in1.in1 κ (katRev b us) i j C s') ->
   ZGo X.prog X.w X.A.in1.in1 b us its (λ out=>KatFin X.base X.env.locals m kS D us e2 e1 out (λ s4=>EP X XU Z Q (Ï D) s4)) κ s':=λ κ hask=>by
  refine#[_,IK (katRev b (ks.map ZKey.nums)),Χ]
  .ext Œ hN hask
  .rw[hN];exact λ p hp hs=>fin p hp #[Ö2,hs]
 refine#[ģ n2,ģ n2]
 rotate_left
 .have:=fin (List.toArray (List.range its.length)) (Ŕ hN Array.Perm.refl _) #[û hN,λ i j h1 h2=>∅];ext Â1 List.toList_toArray
 rcases hne with(hI|hB)|⟨hP,hun⟩
 .refine kas_kind (T:=.type "int") ∅ (Ø u hu) rfl rfl (go _ (ŗ i j C hi hj hC))
  .ext Ìf List.getElem_of_mem hu;ext â2;have ky:=S.keys j Â h1 h2;exists[n',en],hI _ (ÐR j);rw[en]at ky;rw[show as[j]'∅=V.int n' from ky]at ru;ext ĭ t ru;rw[Ze hj]at gu;rw[Zt gu];exact .now
  .ext Ô7;exists Áz n1,hI _ m1;exists Áz n2,hI _ m2;rw[show v=V.int n1 from at1]at ru;rw[show v2=V.int n2 from at2]at ru2;ext ĭ t ru;ext ĭ t2 ru2;ext ÀY kas_ask eu eu2;rw[en,en2]at hC;ext Ħ kat_lt_int;have e1':HT.lexLt (ZKey.i n1).nums (ZKey.i n2).nums=Å4 n1 n2:=EK n1 n2;rw[e1']at hC;exact hC
 .have tups:∀(ÉX vs ws) Ė,Vals vs ws->n+vs.length=ks.length->ãp->åQ s'.heap ws ws.length:=λ vs=>by
   induction vs with
   |nil =>intro ws n hv _ _;show Ř hv #[[],È KatTups.nil,Á0 v h]
   |cons v vs ih =>
    intro ws n hv hl' h;cases hv with
    |cons rv1 hv =>
     rw[Zo]at hl';ext Þl;exists[ns,en,ne],hB _ (ÐR n);rw[en]at hkn;exists ÀP a ea,h 0 v Än (Ă Nat.add_zero hkn);cases rv1;show Õz ÙI;obtain⟨x,t,ia',rfl⟩:∃x t r,ia=İ x t::r:=by
      cases cO ra with
      |nil=>ext ĕ rfl ne
      |cons x t r=>exact#[x,t,Å]
     exists[fs,f1,f2,f3],ih _ (n+1) hv ∅ Þ6;ext ãJ
  show áL "int"
  .exists[i,t,rfl],t3 v hv;exact .now
  .ext Ô7;exists ÀP n1 _,hB _ m1;exists ÀP n2 _,hB _ m2;ext ļ a1 ha1 at1;ext ļ a2 ha2 at2;ext äx;show Øp Óp q1 q2 pb;rw[eu,eu2];rw[en,en2]at hC;ext Øi Ú7
 .have tups:∀(ÉX vs ws) Ė,Vals vs ws->n+vs.length=ks.length->ãp->∃fs:XG,KatTups s'.heap ws fs/\fs.length=ws.length/\∀v∈fs,∃(a:XH) (o:Obj),ÄU/\s'.heap.get? a=ò/\Åy "tuple":=λ vs=>by
   induction vs with
   |nil =>intro ws n hv _ _;show Ř hv #[[],È KatTups.nil,Á0 v h]
   |cons v vs ih =>
    intro ws n hv hl' h;cases hv with
    |cons rv1 hv =>
     rw[Zo]at hl';ext Þl;exists[ps,ns,en],hP _ (ÐR n);rw[en]at hkn;exists[a,b,c,rfl,ea,eb,ec],h 0 v Än (Ă Nat.add_zero hkn);cases rv1;show Õz ÙI;show Ž [ib,rb,pb,zb] S.I.tuple (ÃD eb) [ob,eob,cb,n2,db] id pb;exists ÀQ u1 u2 r1 r2,tD ra;cases r1;exists[fs,f1,f2,f3],ih _ (n+1) hv ∅ Þ6;refine#[Æ b::fs,Þs];show Äu hv #[b,ob,Ì eob,cb]
     .exact f3 v hv
  show áL "tuple"
  .exists ÀQ a o ho hc',t3 v hv;rw[<-hc'];exact(Looks.ld ho).andThen .now
  .ext Ô7;exists[p1,n1,rfl],hP _ m1;exists[p2,n2,rfl],hP _ m2;show Àp [a1,b1,c1,rfl,ha1,hb1,hc1] at1 [a2,b2,c2,rfl,ha2,hb2,hc2] at2;ext äx;show Øp Ž q1 q2 id pb;exists ÀQ u1 u2 r1 r2,tD ra;ext ÁH r1 r2;exists ÀQ u1 u2 r1 r2,tD rb;ext ÁH r1 r2;show Ž [ix,rx,px,zx] S.I.tuple (ÃD hb1) [iy,ry,py,zy] S.I.tuple (ÃD hb2);show Óp [jx,sx,qx,yx] S.I.tuple (XW (K:=X.K) hc1) [jy,sy,qy,yy] (XW (K:=X.K) hc2);rw[eu,eu2];rw[en,en2]at hC;have hu0:X.A.in1.in1.units<cLine:=∅
   show Øi (DP (Ez S.I hun hb1 hb2) (Ez S.I hun hc1 hc2) (àg px py (cO rx) (cO ry)) (àg qx qy (cO sx) (cO sy)) rfl hC)
#check 0
def Sh(sp:Sp)Ë ÀT(Q:VK):Prop :=
 xs.length<64/\∃ks:(Ä ZKey),ks.length=xs.length/\Hq ks /\
 (∀Îd,À8 v->Ý ks key->âg) /\
 ∀Øh,POk xs.length p->ÏM Úm->Same H H2->âw
def Ph âd:TE:=λ Z H0 Q=>ta Z H0 λ vs H=>∃(l:XH) (kvs:Àr) (kv:V),vs=ġ l/\ÇV j kv/\Å7 H l/\aX q P lpos H/\∀ks H2,SameT P H H2->aX q P lpos H2->eS H2 kvs ks->Sh (sp kv) H2 ks Q
section
variable{X:Cx}
theorem LM(ş k j)ź Òw àw Ü4 Óh ØF Îk Ðg:
  Ù7 (Ph P Á6 lpos j sp ta):=by
 ext Ξ;ext Êb H0 h;ext ÚP;ext ÁV vs;exists[l,kvs,kv,rfl,hZ,hH,tab,q],q1;ext Çe u ru r1;have hk:PK X ÎH (fY (Ñe [(y,cy)] lpos) ip):=sZ (yd hcode hge C B hdef hcl) wn;ext åp
 have F1:=áX
 exists[ps0,tP,_],id tab;ext Ÿ hlP l P tP hH
 have hH2:=sT Â hH hlP;exists[ks,kat,src],JV hc I2 (Rd.of hH2);exists[hz,zs,hl,hal,spec,q],q ks H2 sT lt kat;exact Þ9 src hz (ā #[hal,hr2.units]) Üw F1 (λ i v key H' g1 g2 g3 R hR=>#[g3 Â hf,g3 Â hc',spec i v key H' g1 g2 g3 R hR]) q
#check 0
inductive IsF(a b:Str)(x:V)(R:Þ V):Prop
 |mk (z:Str) (h0:x=Î z) (h1:a.length+z.length+b.length<=sizeLine) (q:R (Î (a++z++b))):IsF a b x R
inductive rStrA ÀT Ë(Q:VK):Prop
 |int (i:Int) (h0:xs=[Í i]) (h1:i.natAbs<10^4300) (q:Q (Î (Uh i)) H):rStrA xs H Q
 |str (z:Str) (h0:xs=[Î z]) (q:Q (Î z) H):rStrA xs H Q
section
variable{K:XY}
inductive rNeNil(K:XY)(x y:V)Ë(Q:VK):Prop
 |mk (a b:XH) ÀT Üo (hb:SqL K H b []) (q:Q (.bl (! xs.isEmpty)) H):rNeNil K x y H Q
#check 0
structure MkFnX Ãs À1 Ĥ(x:Str)Æc:Prop where
 cl:Cls K C
 mgC:ÁK x C
 ex:∃f fd,Çh (CXr P w) f sp/\Mk K C f/\Æs
open PySem PySem.Spec PyProof.Rows PySem.W Builtin Builtin.Str
structure QE1(Åp TE):Prop where
 h:∀ω Ë (Q:VK),1<=s.toks->ï ķ->t Z H Q->Ź (eval e X.env) Àt X.xe s
structure QT1(Åp TT):Prop where
 h:åA (λ b s'=>1<=s'.toks/\TP X XU Z Q b s')
structure QS1 Ø8:Prop where
 h:∀ω Ë (D:Ends),Ém D Z H (exec st X.env) (λ f s'=>1<=s'.toks/\SP X XU D f s')
structure QB1 Øb:Prop where
 h:∀ω Ë (D:Ends),1<=s.toks->Øz execs
def Pw(ks:Ä ZKey):Prop:=ä0
def Dq(sp:Hp->Ä6)(sm:Ãp Hp)(end':Þ Hp)Ë ÀT(ks:Ä ZKey)(Q:VK):Prop :=
 xs.length<64/\ks.length=xs.length/\Pw ks /\
 (∀Îd,À8 v->Ý ks key->sm H H'->Ós H' [v] H' R) /\
 ∀Øh,POk xs.length p->ÏM Úm->sm H H2->end' H2->âw
def Pj(Ük sp Sp)(ta:TA):TE:=λ Z H0 Q=>ta Z H0 λ vs H=>∃(l:XH) (xs:(Ä V)) (ks:(Ä ZKey)),vs=ġ l/\ä1 (λ _ vs H Q=>sp vs H Q E0)
section
variable{X:Cx}
theorem LN ĉ ź Òw(F:ÃO LamOk k Á6 body scope x sp)(hr:Õb 3)(ÊV QA e)(hbd:∀(pm ct:XJ) (c':XH) (s:XI) (u:XJ),BindsTo s (qt Á6 params body scope [] pm c' ct) Õe:=by intros;exact .of_eq rfl)Óh ØF(hcl:closureFor scope X.env=pure []:=by rfl)Îk Ðg:
  Ù7 (Pj P Á6 lpos sp ta):=by
 ext Ξ;ext Êb H0 h;exists[N,S,len,hbody],F.ex;show Ô3 [l,xs,ks,rfl,hH,tab,h64,hl,hne,spec,q] ÎH (fY (Ñe [] lpos) ip) (yd hcode hge C B hdef hcl);refine thn (hk pos XU s1 Z H1 (λ zs H2=>∃f,zs=ġ f/\Ýo []) I1 (uA tab λ f H2 mk=>#[È f,mk])) (ο ws s2);ext ÜN;have F1:ÃO FnOk CX0 Ρ f (Éc qt Á6 []) [x] _:=Qv (params:=params) (pm:=Ûl) (ct:=ct) (c':=c') S len λ A outer s H vs Q E hr' hs=>let⟨t,t1,t2⟩:=hbody f c' A outer s H vs Q E hr' hs;#[t,t1.h,t2]
 refine Ûi (E7 F1 (λ s u _=>hbd ì s u) (hr.mono ∅ |>.in1 |>.in1));show ÝP
#check 0
section
variable{X:Cx}{XU:XD}{Z:St}{H:Hp}{s:XI}
structure MS(ÉC H1 Hp)(S I l:XH)(j:Nat)(us:Array XJ)Ë(s:XI):Prop where
 iv:ï ķ
 sm:Same H1 H
 fS:cE X XU H S
 fI:cE X XU H I
 hS:∃e,Ġ S (seqObj "list" us e)
 hI:s.heap.IsListIter I l j
#check 0
inductive rEqNil(K:XY)(x y:V)Ë(Q:VK):Prop
 |mk (a b:XH) ÀT Üo (hb:SqL K H b []) (q:Äz xs.isEmpty):rEqNil K x y H Q
theorem ET{X:Cx}ē Ìl Áx:ų QOp Eq (rEqNil K):=by
 ext Ξ;subst hK;show Àc [a,b,xs,rfl,rfl,ha,hb,q];ext ÁH rx ry;show ÝA I.list;have l2:its2.length=0:=r2.length.symm;cases xs with
 |nil =>have l1:its.length=0:=r1.length.symm;have g:=SeqAt.RcAt.lists (A:=X.A) (e:=ę true) åd (λ j h1 h2=>by simp[l1]at h1);rw[show ú (Ŷ its.toArray.size all) (λ _=>true) by simp]at g;exact g X.prog X.w X.xe _ (ÌI true)
 |cons x xs =>have l1:its.length=xs.length+1:=r1.length.symm;exact SeqAt.RcAt.lists_lengths åd X.prog X.w X.xe _ (ÌI false)
#check Lake
namespace HT
open PySem PyProof.Rows
#check HT
namespace Lake
open PySem PySem.Spec PyProof.Rows PySem.W Builtin
section
variable{prog:XL}{w:XM}{A:XN}{S:XH}{wr:Ä XH}{n:Nat}{P:Nat->Þ XJ}{St:Nat->Þ Heap}{TT:Þ Heap}
structure CmpIn(ÏJ A XN)(P:Nat->Þ XJ)(Ŧ lt XS wr XH)(S:XH)(TT:Þ Heap):Prop where
 stay:∀h h':Heap,(∀b o,b∉wr->ō S->ÀC h.get? o h'.get?)->TT h->TT h'
 cmp:∀i j vi vj (s:XI) (Q E:XE),TT s.heap->P i vi->P j vj->Q (.bool (lt i j)) s->ċ (richCompare .Lt vi vj) Q E s
#check 0
section
variable{kd:Nat}
inductive MinR(Ŧ K XY vs V)Ë(Q:VK):Prop
 |mk Ō (ps:Ŋ XH XQ) (ÃA a) (h1:SqL K H a (ps.map λ x=>.ref ö)) (h2:∀x∈ps,SqT K H ö (x.2.map V.int)) (q0:ps=[]->Q .non H) (q:∀x∈ps,(∀y∈ps,HT.lexLt y.2 Ð=false)->Q (.ref ö) H):MinR K vs H Q
#check 0
section
variable{A:XN}{s:XI}{es:Array DictEntry}{ep i:Nat}
theorem BP(Ûr i):Ā s.TypeIs it "dict_itemiterator":=À5 hit
theorem KP ÅU(ã0 i)(hx:i<es.size)(hQ:∀ h',Öu h'->Į h'.get? s.heap.objs.size (Ϙ ÊH (List.toArray [ÇA,Ês])) ->
   (∀ b o,ō it->ÉJ o)->Q (Ù (Æ s.heap.objs.size)) (ů s h')):Ãc pyNext it:=by
 ext àG;ext Öd
 ext Ìa lt it hit;show ÛT (É i<0) Yg hx (z9 (Xg ty (Zb (z9 (wpAny_isOneOf_itemiter ty ? _)))));show ÀA (Ā setField it 3 (rawInt (É i+1)) >>= _) s;show ÀN (YE hit Û (Ú h1 e1 b1));have e1:IsItemIter h1 ÆY k0 v0:=by unfold IsItemIter;rw[show É (i+1:Nat)=É i+1 by exact Int.le_antisymm (áY) (áZ)];ext Åv rawInt e1
 have ty1:Shared.TypeIs (ů s h1) (Ï it) "dict_itemiterator":=À5 e1
 show í (Z0 (z9 (wpAny_isOneOf_itemiter ty1 (z9 (wpAny_isOneOf_itemiter ty1 ? _)))));show wpAny Â (Ā Builtin.Dict_items.pairFromOwner it 6 ÇA Ês) Â (ů s h1);show ξ Builtin.Dict_items.pairFromOwner (wpAny_newTuple ? _);have z1:h1.objs.size=s.heap.objs.size:=b1.1;have e2:IsItemIter (h1.push ÎD) ÆY k0 v0:=Zd _ e1;have t2:ØQ h1.push ÎD some:=by rw[<-z1];exact ĸ
 have k2:∀b o,ō it->Ġ b o->(h1.push ÎD).get? b=ò:=λ b o hb e=>Zd _ (b1.extBut b o hb e);show wpAny Â (Builtin.Dict_items.ownedTupleIsFree (Ï it) >>= _) Â { s with heap:=h1.push _ };rw[z1];generalize h1.push ÎD=h2 at e2 t2 k2 ⊢;clear e1 b1 ty1 z1;show í ? _;show ξ Builtin.Dict_items.ownedTupleIsFree (ZY e2 rfl (x:=.none) rfl (Zb ? _));ext Ű if_true;show í (ZY e2 rfl (x:=k0) rfl (z9 (ZY e2 rfl (x:=v0) ÄE)));show ÀN (YE e2 Û (Ú h3 e3 b3));have e3:IsItemIter h3 ÆY ÇA v0:=e3;show ÀN (YE e3 Û (Ú h4 e4 b4));have e4:IsItemIter h4 ÆY ÇA Ês:=e4;show ÀN (YE e4 Û (Ú h5 e5 b5));have e5:Öu h5:=e5;show ÀN (YE e5 Û (Ú h6 e6 b6));have e6:Öu h6:=e6;have k6:Ç2 it h2.get? h6.get?:=ÄK hb e b6.extBut hb (b5.extBut b o hb (b4.extBut b o hb (b3.extBut b o hb e)));exact z9 (wpAny_letGo (Zb (Zb #[Å,Zb (hQ h6 e6 (k6 Â (Yf lt) t2) (ÄK hb e k6 hb (k2 b o hb e)))])))
theorem NY ÅU ÂP(ã0 es.size)ÖV:Ãc pyNext it:=by
 ext àG;ext Öd
 show ÛT (É es.size<0) Array.getElem?_eq_none (Zf _) (z9 (Xg ty (Zb ? _)));show ÀA (Ā setField it 2 Àl >>= _) s;show ÎX (YC hit rfl Û ? _);ext ÀD newExc newTuple;show í (z9 (ZM (áC) (by size_fits)));ext ÚR
theorem KO{Q:XE}(ÞD s.heap.IsItemsView)(hQ:Đ s.heap.objs.size { s with heap:=Òk s.heap.push "dict_itemiterator" (List.toArray [.none,.bool false,Æ d,İ 0 0,İ es.size 0,İ ep 0,.none,.none]) }):Ãc pyIter v:=by
 show É1 [ov,hov,hcv,hdv] hv [o,ho,hc,hdat] hm;ext Öd
 ext ÜE PySem.F.slot_dict_items_iter PySem.F.entry_dict_items_iter PySem.F.args_dict_items_iter_1 Builtin.«dict_items.__iter__» hov hdv;show äQ ho hdat;ext ÀD own if_true;refine ZM (Zb #[Å,"dict_itemiterator",_,#[_,ĸ,rfl],YG.lookup,? _]) (by simp only[sizeOk,Builtin.Dict_items.ownedTupleFields,Zl,Zm,Zo,Yu,sizeLine_eq];omega);simpa[rawInt,Builtin.Dict_items.ownedTupleFields]using hQ
#check 0
def ItP(o:Obj)Ō:It where
 go:=λ i H=>∃kvs,H a=ÆV/\i<kvs.length
 yld:=λ i H x H'=>∃kvs p b T,H a=ÆV/\Ý kvs p/\H b=Ã9 p/\á T/\x=Æ T/\H'=ø T (Ò [Æ b,Ĺ])
 stop:=λ i H=>∃kvs,H a=ÆV/\kvs.length<=i
theorem N8(r:KT H kvs xs):∀(Ãi x ÃY),À8 x->∃p,Ý kvs p/\H Ð.1=Ã9 p/\RelV Ĺ Ð.2:=by
 induction r with
 |nil=>intro i x h;simp at h
 |@cons p q _ _ h _ ih =>
  intro i x e;cases i with
  |zero=>show Ř e #[È p,h.2.1,h.2.2]
  |succ i=>exact ih e
theorem Mo ē{kt:Nat}(o:Obj)(a it:XH):Turn P w K Äk (ItP o a) [it] it (λ i h=>∃es ep k0 v0,Ær/\i<=es.size/\IsItemIter h it a i es.size ep k0 v0) where
 mem:=Ĵ
 obj:=λ i h st b hb=>by
  ext Åm it;show þ [es,ep,k0,v0,_,_,e] st #[_,e,Á0 v z]
 keep:=λ i h h' st k=>by ext É8 es ep k0 v0 st;exact#[es,ep,k0,v0,h1,h2,k it Û _ h3]
 item:=by
  show ÎT [es,ep,k0,v0,sd,sl,st];ext ÛN
  refine KP st #[o,ho,hx2,sd] hi (Č h' st' tp' kp);have hxs:À4 i:=by rw[<-size_of_entries h4];exact hi
  have e2:es[i]=entryOfKey (tupleKind (bA X.prog X.w)) ÁO:=by have e1:=entry_at h4 (j:=i);rw[Ze hxs,Yg hi]at e1;exact Zt e1
  have hk:ÇA=Value.ref ÁO.2.1:=ό e2
  have hv:Ês=ÁO.2.2:=ό e2
  rw[hk,hv]at st' tp';exists[p,hp,hb,rv],N8 r (Ze hxs);refine#[Å,wpAny_letOwnedTupleGo_items (s:=ů s h') st' (Ú h2 st2 sb)];ext Ìa lti it st;have kp2:∀c ob,c∉[it]->Ġ c ob->h2.get? c=Ã ob:=λ c ob hc q=>by ext Ãu hc;exact sb.extBut c ob hc (kp c ob hc q)
  have tT:IsTup h2 s.heap.objs.size [Value.ref ÁO.2.1,ÁO.2.2].toArray:=#[_,sb.extBut Â (Yf lti) tp',ľ]
  refine#[Æ s.heap.objs.size,ø s.heap.objs.size (Ò [.ref ÁO.2.1,Ĺ]),Âo I.turnT hf kp2 tT (Ę rfl (Ę rv ė)) (sz rfl),rfl,#[kvs,p,ÁO.2.1,_,hq,hp,hb,I.hok.fresh (Zf _),î],#[es,ep,_,_,sd,Çx hi,st2],Ø c hc];have hc':c=it:=û hc
  subst hc';rw[ah (Zz lti)];exact(hf c hc).1
 done:=by
  show ÎT [es,ep,k0,v0,sd,sl,st];ext Åc Û;obtain rfl:i=es.size:=ϔ (Ád ϊ sl) (â Ç Ê (Ñ Ç Ô ÅF) ÐU)
  exact Èo NY #[o,ho,hx2,sd] Ét
 self:=λ A i s Q E st h=>by ext É8 es ep k0 v0 st;exact kcp_self h3 h
section
variable{apos cpos:Pos}{kt:Nat}
def Qf(tl:TE):TI:=æ5 ob (ItP ob a) (ß H1 a àR)
theorem NU(ε ho o td)(hbase:ÂN o "items":=by rfl)Äc:QI X Äk (Ãv (Âm "items" apos) []) (Qf td):=by
 ext ãr R hq q;exists[t1,t2,_],IC I1 (.inr #[kvs,Ó hq]);exists[z,ns,xs,rel,ob,es,ep,g1,g2,g3,g4,_],(ÛP)
 show Ü2 "dict.items" PySem.F.slot_dict_items PySem.F.type_dict_items PySem.F.entry_dict_items PySem.F.args_dict_items_1;ext Ħ Zb;ext Ôt a s1;rw[ÁG XB ns Zq];show í (Zb (z9 (ZM (Zb Àk))));have I2:=(I1.freeze hq g1).kept (t':=s1.toks) (h':=å3) (Àu o e e);refine ŕ KO es es ep ep #[_,ĸ,î] #[ob,Zd _ g1,g2,g3] ? _;refine#[_,[_],_,Àw,áN,Mo ob a _,#[es,ep,.none,.none,g3,ZA _,ĸ],ÂH,q ob];have e:b=(å3).objs.size:=û hb
 ext Ļ;ext Üu
#check 0
theorem Ky{kvs:Àr}à Ún ÍS ßU(ht:∀i ys H p b T,Ý kvs p->H b=Ã9 p->á T->Pv i ys H->∀Y:ÇP,Ā Íu T (ø T (Ò [Æ b,Ĺ])))(Ëi kvs.length):Ã7 g tc (ItP o a):=by
 ext ãA
 .show Ô1 #[#[kvs,q,hlt],? _,Ú x H' y]
  .exists[kvs',pr,b,T,e0,e1,e2,e3,rfl,rfl],y;ext è q e0 e0;exact ht i ys _ pr b T e1 e2 e3 pv (Îf ys kvs.length ys) (ÏF zs kvs.length)
 .show Åg i kvs.length #[#[kvs,q,Zf _],ÑV]
inductive rSl3(K:XY)(x l u z:V)Ë(Q:VK):Prop
 |mk (a b c:Int) (p:XH) (ns:XQ) (h0:l=Í a) (h1:u=Í b) (h2:z=Í c) (h3:0<=a) (h4:a<=b) (h5:0<c) (ßy h6 h7) (q:∀(p':XH) (ms:XQ),ms.length<=((b-a+c-1) / c).toNat->åh):rSl3 K x l u z H Q
namespace ST
open SetTable
#check ST
open PySem PySem.Spec PyProof.Rows
namespace ST
open SetTable
#check ST
open PySem PySem.Spec PyProof.Rows
namespace ST
open SetTable
section
def MsF(mask n:Nat):Prop:=(mask=7/\n<=4)\/(mask=31/\n<=18)\/(mask=127/\n<=70)
structure TbOk(t:SetTable)Ė:Prop where
 du:t.dummies=Ů
 pl:t.place.size=n
 ms:MsF t.mask n
#check 0
#check ST
open PySem PySem.Spec PyProof.Rows
namespace ST
open SetTable
#check ST
open PySem PySem.Spec PyProof.Rows
namespace ST
open SetTable
#check ST
open PySem PySem.Spec PyProof.Rows
namespace ST
open SetTable
#check ST
open PySem PySem.Spec PyProof.Rows
def Uc(o:Obj)Ė:Prop:=o.ExactSet/\∃es ep t,o.data=.set es ep t/\ú t.fits es.size/\es.size=n
inductive rSetT ÀT Ë(Q:VK):Prop
 |mk (Ŧ l XH ys V) (kss:Ä XQ) (h0:xs=ġ l) (h1:ĺ H l ys) (h2:Paired (λ v ks=>∃b,v=V.ref b/\Ϛ b ks.map) ys kss) (h3:kss.Nodup) (h4:ys.length<=69) (q:∀a o,á a->Uc o ys.length->Đ a (ø a (ie a o))):rSetT xs H Q
open PySem PySem.Spec PyProof.Rows PySem.W
def Pi(sp:Sp)(ta:TA):TE:=λ Z H0 Q=>ta Z H0 λ vs H=>∃(l:XH) (xs:(Ä V)) (ks:(Ä ZKey)),vs=ġ l/\SrcH ÂT/\Dq (λ _ vs H Q=>sp vs H Q E0) Same (ę True) H xs ks Q
section
variable{X:Cx}
theorem CA ĉ ź(hm:ê X.mg "sorted")(F:ÃO Fn k fx [x] sp)(hr:Õb 2)(ÊV QA e)Îk(hgf:Gl X fx:=by rfl)Ðg(hdb:Ũ (fx==Ày "__debug__"):=by decide):QE X (Æe "sorted" [e] [#[Ã "key",.Name fx fp,kpos]] pos) (Pi sp ta):=by
 ext Ξ;ext Êb H0 h;exists[f,fd,F1,m1,kp,bn],F.ex;show Ô3 [l,xs,ks,rfl,hH,h64,hl,hne,spec,q] [#[Ã "key",.Name fx fp,kpos]] (fY (tC (Ï f)) ip) (yc hgf m1 rfl hdb);refine thn (Çr hk pos (λ zs H2=>zs=[Æ f]/\H2=H1) ÁP) (ο ws s2);exists[zs,H2,I2,rz,e1,h2e],hz9;subst e1 h2e;ext Çe u ru rz;exact Þ9 (yJ hc I2 hH hz) h64 (Ó hne) Üw (E7 F1 (λ s u kin=>bn s [u] kin rfl) à4) spec λ p H3 D a1 a2 a3 a4=>q p H3 D a1 a2 a3 trivial a4
#check 0
abbrev AV(c:String)(h:Heap)(it t:XH)(i:Nat):Prop:=∃o,ϒ it/\Åy c/\o.data=.fields (List.toArray [Æ t,İ i 0])
theorem IE{it t d:XH}{i:Nat}(x:AV c h it t i)(e:h.ExtBut d h')(n:it≠d):AV c h' it t i:=let⟨o,eo,r⟩:=x;#[o,e Â n eo,r]
def FO Ýr:Prop:=∀ (l1 l2:XH) (xs ys:Array XJ),Meets (Builtin.«zip.__new__» #[[.type "zip",Æ l1,Æ l2],[]]) (λ _ R s=>isS s.heap l1 xs/\isS s.heap l2 ys /\
   R (.ok (.ret (.ref (ßF).objs.size)))
    { s with heap:=(ßF).push { cls:=.type "zip",data:=.fields (List.toArray [.none,.bool false,.bool false,.ref ((s.heap.push (ÁR c l1)).push (ÁR c l2)).objs.size,.ref (Úo).objs.size]) } })
structure ZKd Ýr ÔV:Prop where
 inv:∀{X:Cx} {XU:XD} {Z:St} Ο {s:XI} {a:XH} Ác,ï ķ->SQ X.K H a xs->∃its:XG,Vals xs its/\isS s.heap a its.toArray/\a<s.heap.objs.size
 dr:∀äM,A.handled=none->∀(it t:XH),t≠it->∀xs:Array XJ,Draws prog w A it [it,t] xs.size (λ i v=>À8 v) (λ i h=>AV c h it t i/\isS h t xs)
 mt:FO c isS
abbrev Pz ÔV Ôd:It :=
 ÖR SQ
abbrev So(c:String)(z u v i1 i2 a b:XH):Nat->Þ Heap:=λ i h=>IsZip h z u v Àl/\IsPair h u (Ï i1) (Ï i2)/\(∃p q,IsPair h v p q)/\AV c h i1 a i/\AV c h i2 b i
theorem J9(Zq0:ZKd c isS SQ)ē{kt:Nat}ÌS(hl:xs.length=ys.length)(D:[z,u,v,i1,i2].Nodup)(ha:∀c∈[z,u,v,i1,i2],c≠a/\c≠b):
  Turn P w K Äk (Pz SQ K a b xs ys) [z,u,v,i1,i2] z (So c z u v i1 i2 a b):=by
 have nd:(z≠u/\z≠v/\z≠i1/\z≠i2)/\(u≠v/\u≠i1/\u≠i2)/\(v≠i1/\v≠i2)/\i1≠i2:=û D
 obtain⟨⟨zu,zv,z1,z2⟩,⟨uv,u1,u2⟩,⟨v1,v2⟩,i12⟩:=nd;ext ÄT az ha z Û av ha v Û;ext ÄT a1 ha i1 Û a2 ha i2 Û;have ap:ZAp z u v i1 i2 [i1,a] [i2,b]:=#[zu.symm,zv.symm,uv,u1,u2,v1,v2,z1.symm,z2.symm,i12,by simp[z1,az.1],by simp[z2,az.2],by simp[v1,av.1],by simp[v2,av.2],by simp[i12.symm,a2.1],by simp[i12,a1.2]]
 refine#[Ĵ,Ķ i h st c hc,Öa k,Χ,λ A i s Q E st h=>wpAny_pyIter_zip st.1 h]
 .obtain⟨e1,e2,⟨p,q,e3⟩,⟨o4,e4,_,d4⟩,⟨o5,e5,_,d5⟩⟩:=st;ext Ãu hc;rcases hc with rfl|rfl|rfl|rfl|rfl
  show ÀI #[_,e1,Á0 v z] #[_,e2,Á0 v z]
  show ÀI #[_,e3,Á0 v z] Ùw
  .exact#[_,e5,λ v z=>Ϝ d5 z]
 .obtain⟨e1,e2,⟨p,q,e3⟩,⟨o4,e4,r4⟩,⟨o5,e5,r5⟩⟩:=st;exact#[k z Û _ e1,k u Û _ e2,#[p,q,k v Û _ e3],#[o4,k i1 Û _ e4,r4],#[o5,k i2 Û _ e5,r5]]
 .show ÞG [hi,hx,hy];have lx:i<its.toArray.size:=ÌT rx.length hi
  have ly:i<jts.toArray.size:=by rw[Zl,<-ry.length,<-hl];exact hi
  have hh:=I.ok.hd hc;have hT:Ā s.TypeIs z "zip":=À5 e1
  unfold pyNext;refine z9 (Y0 (Çf hT F.slot_zip_next (ZN F.slot_zip_next hT F.entry_zip_next
   (My (Ýv a1.1.symm its.toArray) (ÝX) ap e1 e2 e3 #[e4,px] #[e5,py] lx ly λ h' tk x y qx qy zz vv s1 s2 pp kp=>Zb ? _) (F.args_zip_next_1 _))))
  refine#[Å,wpAny_letOwnedTupleGo_zip (s:=ÁT h' tk) zz (Ú h2 z2' sb)];obtain⟨xv,ex⟩:∃xv,À8 xv:=#[ÁO,Ĉ hi]
  obtain⟨yv,ey⟩:∃yv,Ý ys yv:=#[ys[i]'∅,by simp[show i<ys.length by omega]]
  show Ž [x',gx,rxv] rx.get ex [y',gy,ryv] ry.get ey;have qx':Ý its x:=û qx
  have qy':Ý jts y:=û qy
  rw[gx]at qx';ext è gy qy' qx';cases qy';ext Ìa ltz z e1;have kp2:∀c o,c∉[z,u,v,i1,i2]->Ġ c o->h2.get? c=ò:=Ý5 e (kp c o hc.1 hc.2.2.1 hc.2.2.2.1 hc.2.2.2.2 e)
  have tT:IsTup h2 s.heap.objs.size [x,y].toArray:=#[_,sb.extBut Â (Yf ltz) pp,ľ]
  refine#[Æ s.heap.objs.size,ø s.heap.objs.size (Ò [xv,yv]),I.turnT (t':=tk) hf kp2 tT (Ę rxv (Ę ryv ė)) (sz rfl),rfl,#[_,xv,yv,I.hok.fresh (Zf _),ex,ey,î],? _,Ø c hc]
  .exact#[z2',sb.extBut Â zu.symm (kp Â zu.symm uv u1 u2 e2),#[_,_,sb.extBut Â zv.symm vv],IE s1.1 sb.extBut z1.symm,IE s2.1 sb.extBut z2.symm]
  .rw[ah]
   .exact(hf c hc).1
   .obtain⟨o,eo,_⟩:∃o,Ġ c o/\True:=by
     ext Ãu hc;rcases hc with rfl|rfl|rfl|rfl|rfl
     show ÀI #[_,e1,trivial] #[_,e2,trivial]
     .exact#[_,e3,trivial]
     .show þ Þm #[o,eo,trivial]
     .show þ [o,eo,_] e5 #[o,eo,trivial]
    exact Zz (Zr eo)
 .show ÞG [rfl,hx,hy];ext Ül;have hT:Ā s.TypeIs z "zip":=À5 e1
  unfold pyNext;refine z9 (Y0 (Çf hT F.slot_zip_next (ZN F.slot_zip_next hT F.entry_zip_next
   (Pr (Ýv a1.1.symm its.toArray) (ÝX) ap e1 e2 e3 #[Ă lx e4,px] (Č h' e kp he)) (F.args_zip_next_1 _))))
  exists[o,ho,hco],he;show í (ŕ Xn T "StopIteration" b true #[o,ho,hco] isSubtype_stop (Zb Åz));exact Âo I.turnM hf λ c ob hc e=>by simp only[Zi,ZB,y8,not_or]at hc;exact kp c ob hc.1 hc.2.2.1 hc.2.2.2.1 hc.2.2.2.2 e
theorem Oe:FO "tuple_iterator" Heap.IsTuple:=λ l1 l2 xs ys =>
 .of_wp λ prog w A R s h=>by
  show ÜJ Heap.IsTuple (Shared.heap #[hp.push (ÁR "tuple_iterator" l1),g,d,tk,os]) Heap.IsTuple.push Xp
theorem Od:FO "list_iterator" Heap.IsList:=λ l1 l2 xs ys =>
 .of_wp λ prog w A R s h=>by
  show ÜJ Heap.IsList (Shared.heap #[hp.push (ÁR "list_iterator" l1),g,d,tk,os]) Heap.IsList.push wpAny_pyIter_list
theorem Ul:ZKd "tuple_iterator" Heap.IsTuple SqT:=äf I.tuple #[its,r,p,p.lt] DN Oe
theorem Uk:ZKd "list_iterator" Heap.IsList SqL:=äf I.list #[its,r,p.isList,let⟨_,e,_⟩:=p.isList;Zr e] Draws.list Od
abbrev SI ÔV(ζ ta TA):TI:=ÓV SQ (Pz SQ K a b xs ys)
section
variable{X:Cx}
theorem EX(Zq0:ZKd c isS SQ){kt:Nat}(hg:Gl X "zip")(Õh PA)(n1:ú aQ e1)(n2:ú aQ e2):PI X Äk ØM (SI SQ X.K ta):=by
 show ÜY (fm I hg hm boot_zip (Yy (thn (ha pos ÂO I h) (ο us s1)) (aR n1) (bQ (Ĉ n2)))) [a,b,xs,ys,e,hx,hy,hl,q];exists ÀQ ua ub ra rb,tD r1;ext ÁH ra rb;exists[its,rx,px,zx],Zq0.inv I1 hx;exists[jts,ry,py,zy],Zq0.inv I1 hy;refine callType_new F.called_zip ⋯ (F.typeCall_zip_2 Â) (F.newCall_zip_2 Â) (λ obj=>F.args_object_init_3 obj Â) F.entry_zip_new (Zq0.mt a b its.toArray jts.toArray) #[px,py,? _];generalize ea:(ÁR c a:Obj)=oa;generalize eb:(ÁR c b:Obj)=ob;have z1:(s1.heap.push oa).objs.size=s1.heap.objs.size+1:=x8 ..;have z2:((s1.heap.push oa).push ob).objs.size=s1.heap.objs.size+2:=ÀK x8 z1
 rw[z2,z1];generalize eu:(ÎP ÊH (List.toArray [Æ s1.heap.objs.size,Æ (s1.heap.objs.size+1)]):Obj)=ou;have z3:Úy objs.size=s1.heap.objs.size+3:=ÀK x8 z2
 generalize ev:(Ϙ ÊH (List.toArray [.none,.none]):Obj)=ov;have z4:((Úy push) ov).objs.size=s1.heap.objs.size+4:=ÀK x8 z3
 rw[z4,z3];generalize ez:(ÎP "zip" fields (List.toArray [.none,.bool false,.bool false,Æ (s1.heap.objs.size+2),Æ (s1.heap.objs.size+3)]):Obj)=oz;have g5:Ð6 4 oz:=by rw[<-z4];exact Zj _ (by rw[<-ez];rfl)
 have g4:Ð6 3 ov:=Èq z3 Ðc ev
 have g3:Ð6 2 ou:=by rw[<-z2];exact Zd _ (Ðc eu)
 have g2:Ð6 1 ob:=by rw[<-z1];exact Zd _ (Zd _ (Ðc eb))
 have g1:(Î1).get? s1.heap.objs.size=Ã oa:=Zd _ (Zd _ (Zd _ (Ðc ea)));have kp:∀c o,s1.heap.get? c=ò->(Î1).get? c=ò:=λ c o e=>Zd _ (Zd _ (Zd _ (Zd _ (Zd _ e))));generalize Î1=hN at g1 g2 g3 g4 g5 kp ⊢;have I2:ï H1 (ů s1 hN):=I1.kept (t':=s1.toks) kp;have la:a<s1.heap.objs.size:=zx;have lb:b<s1.heap.objs.size:=zy;subst ea eb eu ev ez;have base:∀c∈Þb,s1.heap.objs.size<=c:=λ c hc=>by ext Ãu hc;omega
 refine#[À5 g5,? _];show Á2 X.A (pyIter (Ï (s1.heap.objs.size+4))) (PIE X XU Z Äk R) X.xe (ů s1 hN);refine wpAny_pyIter_zip g5 ? _;refine#[s1.heap.objs.size+4,Þb,So c (s1.heap.objs.size+4) (s1.heap.objs.size+2) (s1.heap.objs.size+3) s1.heap.objs.size (s1.heap.objs.size+1) a b,_,H1,Ì I2,
  J9 Zq0 hl ? _ (λ c hc=>#[Yf (ZI la (base c hc)),Yf (ZI lb (base c hc))]),#[g5,g3,#[_,_,g4],#[_,g1,î],#[_,g2,î]],Ø c hc,q]
 .exact QC s1.heap.objs.size
 .exact I1.fpOk (base c hc) (I1.hok.fresh (base c hc))
theorem sL{kt:Nat}(Õh QA)ÝV:QI X Äk ØM (Ug X.K ta):=#[EX Ul hg hm ha.h n1 n2]
theorem NV{kt:Nat}(Õh QA)ÝV:QI X Äk ØM (SJ X.K ta):=#[EX Uk hg hm ha.h n1 n2]
#check 0
theorem zr{ns:XQ}(r:Vals (ns.map V.int) its):∀ix:Ä Nat,∃ms:XQ,Vals (ms.map V.int) (ix.filterMap λ x=>its.toArray[x]?)/\∀m∈ms,m∈ns
 | []=>#[[],.nil,nofun]
 |i::ix=>by
  exists[ms,h1,h2],zr r ix;cases e:its.toArray[i]? with
  |none=>exact#[ms,Áf List.filterMap_cons_none e h1,h2]
  |some u =>
   have e':Ý its u:=û e
   have hi:i<its.length:=Àg e';have hn:i<ns.length:=by have:=r.length;ext Â5 Za;exact Ö5 this.symm hi
   exists[u',hu,ru],r.get (x:=V.int ns[i]) (by rw[Zs,Ze hn];rfl);ext è e' hu hu;refine#[ns[i]::ms,by rw[List.filterMap_cons_some e];exact υ ru h1,ÇN hm];ext ϋ hm hm
   .exact ZD hn
   .exact h2 m hm
inductive rSlc(K:XY)(x z:V)Ë(Q:VK):Prop
 |mk (c:Int) (p:XH) (ns:XQ) (h0:z=Í c) (h1:c≠0) (ßy h2 h3) (q:∀(p':XH) (ms:XQ),(∀m∈ms,m∈ns)->ms.length<=ns.length->åh):rSlc K x z H Q
def Us(K:XY)(te ts:TE):TE:=λ Z H Q=>te Z H λ x H1=>ts Z H1 λ z H2=>rSlc K x z H2 Q
section
theorem Tt{e st:XT}{te ts:TE}(Çu he QE hst QE st ts):QE X (.Subscript e (.Slice none none (Ù st) p2) pos) (Us X.K te ts):=by
 ext Ξ;show Õ5 Subscript_ (ÁA he.h v);refine wpAny_Slice (wpAny_evalPart_none (wpAny_evalPart_none (wpAny_evalPart_some (ÄP hst.h (ο vk s2)))));show Àp [z,H2,I2,rz,q2] hz9 [c,p,ns,rfl,h1,rfl,hx,q] q2;cases r1;ext ĭ t rz;have I4:ï H2 ßX:=I2.kept (t':=s2.toks) (Àu ob q q);ext Üi I4.list;show Á2 X.A (subscriptTail e (.Slice none none (Ù st) p2) (Ï p) (Ï s2.heap.objs.size)) Àt X.xe ßX;refine tail_any (ops:=_) ht.isList.typeIs slot_list_getitem.lookup ? _ (by with_unfolding_all rfl);refine wpAny_getItem_list_slice ht.isList (Heap.IsSliceOf.new ..) Àl Àl (İ c t) (by ext ÒO;exact h1 rfl) ? _ (by rw[Zl]<;>omega);exists[ms,m1,m2],zr r (sliceRange (ÕW).fst (ÕW).snd.fst (ÕW).snd.snd);have le:Ö7 size<=its.toArray.size:=slicePick_size_le ..;have sz:its.toArray.size=its.length:=Zl;have m1':Vals (ms.map V.int) (Ö7 toList):=ÍY ğ slicePick List.toList_toArray m1
 have lm:ms.length<=its.length:=by have e:=m1'.length;rw[Za]at e;rw[e];exact Zn le (Ŕ sz Zf _)
 refine#[Æ _,_,I4.laid (t':=s2.toks) (o:=Õ (ms.map V.int)) âI,rfl,q _ ms m2 (by rw[<-hlen,Za]at lm;exact lm) (I4.hok.fresh (Zf _))];refine#[? _,Ö7 toList,0,m1',? _]
 .rw[Za];exact Zn lm (Àq hlen hz)
 .exact ĸ
#check 0
def Pg âd:TE:=λ Z H0 Q=>ta Z H0 λ vs H=>∃(l:XH) (xs:(Ä V)) (ks:(Ä ZKey)) (kv:V),vs=ġ l/\ÇV j kv/\ä1 (λ _ vs H Q=>sp kv vs H Q E0)
section
variable{X:Cx}
theorem LL(ş k j)ź Òw àw Ü4 Óh ØF Îk Ðg:
  Ù7 (Pg P Á6 lpos j sp ta):=by
 ext Ξ;ext Êb H0 h;show Ô3 [l,xs,ks,kv,rfl,hZ,hH,tab,h64,hl,hne,spec,q] ÎH (fY (Ñe [(y,cy)] lpos) ip) (yd hcode hge C B hdef hcl);ext åp
 have F1:=áX
 refine Ûi F1;show ÝP
#check 0
#check Lake
set_option maxRecDepth 100000
set_option maxHeartbeats 4000000
namespace Lake.K80
open PySem Lake
open PyProof.Rows (envOfC)
open PySem.W (envX CodeHd)
abbrev X1:=Ä V
abbrev X0:=Àr
def top(i:Nat):Stmt:=PySem.Challenge.pw_limb_k80_whole_in_any_order.main.body.getD i (ÊW)
def tw(Âj l):TV:=Ò (l.map V.str)
theorem cxK:ÒM nox.K=K:=rfl
theorem vix ē(Ãi n Int)áS(ha:atI xs n=Ľ)(q:Q v H):tOp (rIxT K) ÞO Z H Q:=#[_,hv,a,τ,hs,ha,q]
theorem Hl ē{i:Nat}{n m:Int}áS(ha:atI xs n=Ö b)(ht:SqT K H b ys)(hb:atI ys m=Ľ)(q:Q v H):tOp (rIxT K) (tOp (rIxT K) ÞO) (tC (Í m)) Z H Q:=#[_,hv,a,τ,hs,ha,b,τ,ht,hb,q]
theorem gq ē(ÜM g TG)(hs:∀i x Z H,À8 x->Pv i Z H->∀D':Ends,ÌP Pv (i+1) D'.nx->g x Z H λ σ2 H2=>tb D' σ2 H2)Çb:
  ∃W:Ç9,ÈZ/\∀i m Z H,W i m Z H ->
   ÞK :=
 qg Pv h0 hl (λ i x Z H a b=>hs i x Z H a b _ (Η z z)) hd
theorem fz ē(ÜM j Nat)(hs:∀i x Z H,À8 x->Pv i Z H->∀D':Ends,ÌP Pv (i+1) D'.nx->tb D' (Z.set j (Ù x)) H)Çb:
  ∃W:Ç9,ÈZ/\∀i m Z H,W i m Z H ->
   ((Itl K a).stop i H/\D.nx Z H)\/((Itl K a).go i H/\∃N:À0,ËI i/\∀x H',(Itl K a).yld i H x H'->cC j ËD) :=
 gq Pv h0 hl hs hd
theorem BR{A:(À0)->Prop}{B:À0}(J:À0)(h1:∀R:À0,(ÇB Z H J R)->A R)(h2:ÇB Z H J B):∃R,A R/\ÇB Z H R B:=#[J,h1 J (Η z z),h2]
theorem ay{t u:Lake.TS}(h:∀R:Ends,ÌP u D R.nx->t R Z H):He t u D Z H:=h Øu (Η z z)
theorem Ir ē{xs:X1}(ş i j)(Íd tb Lake.TS D Ends ha SqL)(hs:∀k x Z H,xs[k]?=Ã x->Pv k Z H->∀D':Ends,ÌP Pv Ρ D'.nx->∀T,á T->tb D' àB (ø T (Ò [Í k,x])))Çb:
  ∃W:Ç9,ÈZ/\∀k m Z H,W k m Z H ->
   (ÕF Ite/\D.nx Z H)\/ÓW Ite :=
 BH Pv h0 ha (λ k x Z H a b T c=>hs k x Z H a b _ (Η z z) T c) hd
def ST:ő TV:=[("put",tw ["new","up","place","text"]),("move",Ôe "up"),Äy "write" "text",Äy "mark" "truth",Äy "due" "whom",Äy "fold" "truth",("part",tw ["item","at","new","place"]),Äy "join" "item",("gone",Õf)]
def FC:ő TV:=[("move",.flat (Í 0)),("write",.flat (Í 2)),("mark",.flat (Í 3)),("due",.flat (Í 4)),("fold",.flat (Í 5))]
theorem at0:atI (x::r) 0=Ã x:=fi (xs:=x::r) (j:=0) rfl
theorem at1:atI Ö9 1=Ã y:=fi (xs:=x::y::r) (j:=1) rfl
theorem at2:atI (x::y::z::r) 2=Ã z:=fi (xs:=x::y::z::r) (j:=2) rfl
theorem at3:atI (x::y::z::u::r) 3=Ã u:=fi (xs:=x::y::z::u::r) (j:=3) rfl
theorem at4:atI (x::y::z::u::v::r) 4=Ľ:=fi (xs:=x::y::z::u::v::r) (j:=4) rfl
theorem SS Ëb(h:¬c)(hB:B):ÇD c:=ÑS aF hB
theorem SE:¬(Ày "held"="away"):=⋯
def rj(h a:XH):ő V:=eJ "away" Ϗ (eJ "held" (Ï h) [])
theorem bg(h a:XH):(rj h a).lookup (Ày "held")=Ö h:=ÙT rj SE
theorem nq(h a:XH):(rj h a).lookup (Ày "away")=Ö a:=by unfold rj;rw[bq,XC rfl]
theorem oZ(h a:XH){m:Str}(h1:¬m="away")(h2:¬m="held"):(rj h a).lookup m=none:=by
 ext Ùl rj
 all_goals rfl
structure PlainAt Ĥ Ë ÉQ(kvs gvs:X0):Prop where
 ob:∃dx,H p=Ã (Ä5 (rj d g))
 dc:Å7 H d
 gc:H g=ą dT gvs
 ne:d≠g
theorem PlainAt.same(ÅQ x)(s:ó):ÀS PlainAt kvs gvs:=by ext ÙP;exact#[#[dx,Ģ h1],Ģ h2,Ģ h3,h4]
theorem PlainAt.put{C:XH}Ο{p d g:XH}{kvs gvs kvs':X0}(ÅQ x):PlainAt C (ø d (.dT kvs')) p d g kvs' gvs:=by ext ÙP;exact#[#[dx,Ī (Àx h1 h2) h1],ad,Ī (Z7 h4) h3,h4]
def But(d:XH)(H H':Hp):Prop:=ÌC d
inductive NameIs Ë(Ŧ v V k Key):Prop
 |mk (b:_) (h0:v=Æ b) (h1:Êg):NameIs H v k
theorem NameIs.same(x:NameIs H v k)(s:ó):NameIs H' v k:=Äp b #[b,h1,Ģ h2]
inductive spParts(ζ vs X1)Ë À2:Prop
 |mk (k:Str) (Âj ws) (h0:vs=[Î k]) (ÖT h1 k) (h2:∀t,àZ):spParts K vs H Q E_
inductive spInit Ĥ(vs:X1)Ë À2:Prop
 |mk (p dx:XH) ÆA (h1:H p=Ã (Ä5 [])) (h2:∀(d g:XH) (H':Hp),á d->á g->ÀS PlainAt ÄI->(ÌC p)->Äx):ÁC spInit
def Nt Ë(Îr kvs X0):Prop:=ws.length=ps.length/\∀Ëp,Ý ws w->Ý ps v ->
 (w="new"->∃k,NameIs H v k/\aU kvs k=none)/\((ÍW w)->É6\/∃k,NameIs H v k/\ϗ aU kvs k=true)
inductive spCheckN Ĥ(vs:X1)Ë À2:Prop
 |mk à3 (Îr w Str) Èn (ÅQ h1) (h2:Êk st w) (ÖT h3 w) (h4:Nt H kvs ws ps) (h5:∀H',ó->Äx):ÁC spCheckN
inductive spBring Ĥ(vs:X1)Ë À2:Prop
 |mk ÉQ (kvs gvs:X0) (nm up pl tx:V) (k:Ä Key) (h0:vs=[Æ p,nm,up,pl,tx]) Îl (h3:kvs.length<=500) (h4:∀(t:XH) (H':Hp),ó->H' t=Ã (Ò [up,pl,tx,.bl false,.non,.bl false])->Q .non (ß H' d (.dT (bC kvs k (Ï t))))):ÁC spBring
inductive spChange Ĥ(vs:X1)Ë À2:Prop
 |mk (p d g it va:XH) âT (i:Nat) (xs ys:X1) (h0:vs=[Æ p,nm,Áu i,Æ va]) Îl (h3:kvs.length<=500) (h4:aU kvs k=Ö it) (Ç8 h5 it xs) (Ç8 h6 va ys) (h7:i+ys.length<=xs.length) (h8:xs.length<=100) (h9:∀(t:XH) (H':Hp),ó->Į H' t (Ò (xs.take i++ys++xs.drop (i+ys.length)))->Q .non (ß H' d (.dT (bC kvs k (Ï t))))):ÁC spChange
inductive spItem Ĥ(vs:X1)Ë À2:Prop
 |mk ÉQ (kvs gvs:X0) (nm v:V) (k:Ä Key) (h0:vs=[Æ p,nm]) Îl (h3:aU kvs k=Ľ) (h4:Q v H):ÁC spItem
inductive spNames Ĥ(vs:X1)Ë À2:Prop
 |mk ÉQ (kvs gvs:X0) ÆA (ÅQ h1) (h2:∀l ks,á l->eS H kvs ks->Đ l (Æy l ks)):ÁC spNames
inductive spCell(ζ vs X1)Ë À2:Prop
 |mk Ō (ns:XQ) (k:Int) (h0:vs=ÈY a k) (h1:Ð0) (h2:0<=k) (h3:Q (Í (am ns k.toNat)) H):spCell K vs H Q E_
inductive spLaw(ζ vs X1)Ë À2:Prop
 |mk Ō áM (h3:∀H',Q ÉT):spLaw K vs H Q E_
structure Txt(K:XY)Ĥ:Prop where
 cl:Cls K C
 nH:NoAttr K C "held"
 nA:NoAttr K C "away"
section
variable{P:XL}{w:XM}{K:XY}{mg:XF}{base:Heap}
abbrev mO:Stmt:=top 15
abbrev Bg:Ä Str:=["word"]
theorem Az:ŀ Bg "word" mO:= ñ
theorem Al(F:é "step_parts" "step_parts" mO){dd:XH}(UU:ÁK "STEP_PARTS" dd)(T:Tab K dd ST):ă 1 ["word"] (spParts K):=by
 ext àN Az UU ST
abbrev mw:Stmt:=ž 51 0
abbrev AY:Ä Str:=["self"]
theorem Au:ŀ AY "self" mw:= ñ
theorem Ab(F:é "__init__" "Plain.__init__" mw)(T:Txt K C):ă 1 ύ (spInit C):=by
 show ĩ Au [p,dx,rfl,hp,k];exists _,(b_c (tq ü qC)
   (b_1 (tq ü qC)))
 intro d hd;have npd:p≠d:=aq hp hd;refine#[γ,C,dx,[],rfl,(Ī npd hp),T.cl,T.nH,Ïh 0];intro g hg;have hg0:á g:=by
  cases e:H g with
  |none=>rfl
  |some o =>
   have:g≠d:=aq e hd;ext å c g p
   .ext Äl c ad hg
   .rw[ah c,ah this,e]at hg;cases hg
 ext Ÿ ngp g p hp hg0
 have ngd:g≠d:=λ z=>by rw[z,ah npd.symm,ad]at hg;cases hg
 refine#[γ,C,dx,_,rfl,(ÍR ngp.symm),T.cl,T.nA,Ïh 1];refine k d g _ hd hg0 #[#[dx,ad],by rw[ah npd.symm,ah ngd.symm,ah npd.symm,ad],ÍR ngp,ngd.symm] (ÀG e hb);rw[ah hb,ah (aq e hg0),ah hb,ah (aq e hd)];exact e
abbrev mC:Stmt:=ž 51 10
abbrev AZ:Ä Str:=["self","name"]
theorem Av:Ŵ AZ "self" "name" mC:= ñ
theorem Ac(F:é "item" "Plain.item" mC)(T:Txt K C):ă 1 Æu (spItem C):=by
 exists Av
 obtain⟨p,d,g,kvs,gvs,nm,v,k,rfl,S,⟨b,rfl,hb⟩,hv,q⟩:=h;ext Á5 S;exists _,(b_c (aM (Ça jK 1) (b_1 yn) b_0)
   (b_1 (au (ÃW cH ä))))
 refine#[Ü,p,Ãx,ù d,DGet.t h2 hb,ţ];rw[hv];ext Ħ aF;exact#[γ,Ãx,Å,ś d v,hv▸DGet.t h2 hb,q]
abbrev iO:Stmt:=ž 51 4
abbrev ue:Ä Str:=["self","name","up","place","text"]
theorem tL:FnScope ue Ïm (ao iO):= ñ
theorem tJ(F:é "bring_in" "Plain.bring_in" iO)(T:Txt K C):ă 1 Ïm (spBring C):=by
 show ĩ tL [p,d,g,kvs,gvs,nm,up,pl,tx,k,rfl,S,hn,hl,q];ext Á5 S;exists _,(b_1 (ÃW kh ä (aJ (ŏ 2 (ŏ 3 (ÀO 4 (q_a dF (ņ cQ (ð dF)))))))))
 show Âz #[Àj,Ċ t ht] sm ht (Ò [up,pl,tx,.bl false,.non,.bl false]);show þ [b,rfl,hb] hn #[γ,C,dx,Àw,ÂC h1,ÎO,Áo d,DPut.t (ÂC h2) (ÂC hb) (ĥ bo),q t _ sm ad]
abbrev jH:Stmt:=ž 51 5
abbrev xi:Ä Str:=["self","name","first","values","item"]
theorem nU:FnScope xi ["self","name","first","values"] (ao jH):= ñ
theorem vZ(F:é "change" "Plain.change" jH)(T:Txt K C)(a9:Ē "len"):ă 1 ÝI:=by
 show ĩ nU [p,d,g,it,va,kvs,gvs,nm,k,i,xs,ys,rfl,S,hn,hl,hv,hit,hva,hi,hx,q];ext Á5 S;ext ļ b hb hn;exists _,(b_c (Ĕ 4 nU.nd (ÃW cH ä))
   (b_1 (ÃW kh ä (aI jm (aI jm (fg dW ↑4 fq (eM Ū)) ↑3) (fg dW ↑4 (eM (aI eW Ū (ÆT 3))) fq)))))
 show Ť #[Å,p,Ãx,Å,ù d,hv▸DGet.t h2 hb,? _] #[Ü,Å,it,xs,Ì hit,ÇG t1 e1];have c1:bU xs none (Ù (É i))=xs.take i:=by unfold bU;rw[HT.sIx_none,HT.sIx_nat,List.drop_zero,Nat.sub_zero,YD (by exact ŝ (ÇK (š 0 2)) æ hi)]
 rw[c1]at e1;show Ť #[Å,t1,va,ë,e1,s1 Â hva,cX (Ż ZJ),ÍK t2] #[Ü,Å,va,ys,rfl,ā (XW (į s2 s1 hva)),ë,Å,it,xs,rfl,į s2 s1 hit,Č t3 H3 s3 e3];have c2:bU xs (Ù (É i+É ys.length)) none=xs.drop (i+ys.length):=by unfold bU;rw[HT.sIx_none,show É i+É ys.length=É (i+ys.length:Nat) by exact Int.le_antisymm (ô (Õ0 p) (.c (Ε a 0 1)) .z Âx) (ô (.c (Ε a 0 1)) (Õ0 p) .z Âx),HT.sIx_nat,YD hi,Yt (Ż Yx)]
 rw[c2]at e3;refine#[t2,t3,ë,s3 Â e2,e3,cX (by rw[Zm,ZJ,Yx];exact Zn (Nat.add_le_add_right (Nat.add_le_add_right Æj _) _) (by rw[Nat.add_sub_of_le hi];exact Zn hx ⋯)),Č t4 H4 s4 e4];have sm:Same H H4:=Ě s1.trans s2.trans s3.trans s4;exact#[γ,C,dx,Àw,ÂC h1,ÎO,Áo d,DPut.t (ÂC h2) (ÂC hb) (ĥ bo),q t4 _ sm e4]
theorem SN(w:Str):ÈG w "item" "up"=decide (ÍW w):=by
 unfold inV eqV;show å h1 w "item"
 .subst h1;simp
 .show å h2 w "up"
  .subst h2;simp
  .simp[h1,h2,Z7 h1,Z7 h2]
abbrev fT:Stmt:=ž 51 2
abbrev qX:Ä Str:=["self","step","kinds","kind","name"]
theorem bY:Ŵ qX "self" "step" fT:= ñ
inductive spNI(cN:XH)(vs:X1)Ë À2:Prop
 |mk (e t:XH) (v:V) (h0:vs=[Æ e,v]) (h1:H e=Ö1 e cN) (h2:∀d,á d->Q .non (upd (ø d ÌX) e (ÎC e cN d))):spNI cN vs H Q E_
abbrev kJ:Stmt:=ž 22 0
abbrev zL:Ä Str:=["self","name"]
theorem yw:Ŵ zL "self" "name" kJ:= ñ
theorem xR(F:é "__init__" "NoItem.__init__" kJ)(S:ExS K cN)(n:NoAttr K cN "name"):ă 1 Æu (spNI cN):=by
 show É0 yw [e,t,v,rfl,he,q] (b_1 (RV ü ä))
 exact#[Ü,e,cN,È t,he,S,n,q]
theorem Ko{H1:Hp}{ea t d cN:XH}(h1:ê H1 ea)(hd:ß H1 ea (exN ea cN t none) d=none):
  Same H1 (ât ea)/\ât ea d=Ã ÌX:=by
 ext Ÿ nde d ea ad hd
 refine#[ρ o e,? _]
 .have hb:ō ea:=aq e h1;have hbd:ō d:=λ z=>by rw[<-z,ah hb,e]at hd;cases hd
  rw[jc hb,ah hb,ah hbd,ah hb];exact e
 .rw[jc nde,ah nde,ad]
def PartB Ë(kvs:X0)(w:Str)(v:V)(b:Bool):Prop :=
 (w="new"->∃k,NameIs H v k/\b=!(ϗ aU kvs k))/\((ÍW w)->(É6/\Ą b)\/∃k,NameIs H v k/\b=ϗ aU kvs k)
theorem PartB.same{w:Str}(x:PartB H kvs w v b)(s:ó):PartB H' kvs w v b :=
 #[λ e=>let⟨k,a,c⟩:=ö e;#[k,a.same s,c],λ e=>(Ð e).imp id fun⟨k,a,c⟩=>#[k,a.same s,c]]
def isI(w:Str):Prop:=ÍW w
inductive spCheckX(C cT cN:XH)ÂX:Prop
 | mk à3 (Îr w Str) (bs:Ä Bool) Èn (ÅQ h1) (h2:Êk st w) (ÖT h3 w) (h4:ws.length=ps.length) (h5:bs.length=ps.length) (h6:(∀ Ëp (b:Bool),Ý ws w->Ý ps v->àp)) (h7:((∃ i:Nat,Ý ws "new"/\Ý bs false)->Êh cT)) (h8:((Øe)->((∀ (Ŏ i w Str),Öo Ý w)->∀ H',ó->Äx) /\
  ∀ Ëp,Ý ws w->Ý ps v->isI w->Ý bs false->Öi->∀ H' dd,ó->H' dd=Ã ÌX->ÑT)):spCheckX C cT cN vs H Q E
theorem pj(F:é "check_names" "Plain.check_names" fT)(T:Txt K C)(UV:Ŀ 1 "step_parts" ["word"] (spParts K))(p9:Ē "zip")(x_Taken:ExCls K cT)(Wt:ÁK "Taken" cT)(VD:↑ExI 1 cN bm Æu (spNI cN))(v7:ÁK "NoItem" cN):Òa 3 (spCheckX C cT cN):=by
 show Ô2 bY [p,d,g,st,kvs,gvs,wd,ws,ps,bs,rfl,_] [p,d,g,st,kvs,gvs,wd,ws,ps,bs,rfl,S,hst,hk,l1,l2,ok,qT,qN];ext Á5 S;exists _,(b_c (Ĕ 2 bY.nd (ī UV (ð (ħ 1))))
   (b_c (Nd fE (cW (wm rfl rfl) rfl (sL p9 (ÀO 2 (ð ÑN))) (Én 3 bY.nd 4) (b_1 (aM (t_w (hJ (aE bW ↑3 aA) (gN (Ça Hf 4)))) (ãB tW x_Taken Wt) b_0))))
   (b_1 (Nd fE (cW (wm rfl rfl) rfl (sL p9 (ÀO 2 (ð ÑN))) (Én 3 bY.nd 4) (b_1 (aM (t_w (hJ (aE (Λ nI rfl) ↑3 (Är ð aA)) (hJ (aE kf ↑4 cQ) (gN (Ça jK 4))))) (b_1 (LW tW rfl VD ↑99 v7 (Ğ 4))) b_0)))))))
 refine Äj #[wd,ws,Ì hk,Ø t ht];have c1:bU (V.str wd::ps) (Ù 1) none=ps:=by unfold bU;rw[HT.sIx_none,show É 1=ÀV 1 from rfl,HT.sIx_nat];simp
 have lw:Ň ws.map V.str=ps.length:=Ă Za l1
 have item:∀(Ãi x V),Ý (ws.map V.str) x->∃w',Ý ws w'/\x=Î w':=fun{i x} hx=>by rw[Zs]at hx;exists ÂZ w',ZK.mp hx;exact#[w',e1,e2.symm]
 have bat:∀(Ãi v V),Ý ps v->∃b,Ý bs b:=fun{i v} hv=>by
  have hi:i<bs.length:=ÄL l2 Àg hv
  exact#[_,Ze hi]
 refine#[Àj,Ł st hst,ÇG z e1];rw[c1]at e1;refine#[t,z,_,_,rfl,ht _,XW e1,lw,? _];refine ŕ EB i 3 j 4 (λ i Z H'=>ó/\H' z=ą tup ps/\(∀j:Nat,j<i->Ŗ ws "new"->Ŗ bs true)/\∃o3 o4,Z=[Ö p,Ö st,Ö t,o3,o4]) #[s1,e1,(λ j hj=>∅),ś none none] Ûy (λ _ _ _ _ v=>XW v.2.1) lw Ĳ
 .ext áV pre;have sm':=sm.trans wT;have pb:=(ok i w' v b hw hv hb).same sm';refine#[ŭ,Ám nY c c]
  .ext ÂV c;subst c;obtain⟨k,⟨nb,rfl,hnb⟩,hbv⟩:=pb.1 rfl;refine#[Ü,p,C,dx,Àw,sm' Â h1,ÎO,ù d,DGet.t (sm' Â h2) hnb,ţ];cases hs:ϗ aU kvs k with
   |true =>ext Æ4 hs hbv;ext Ħ aP;exact#[sz rfl,qT #[i,hw,hb] _ sm']
   |false =>
    ext Æ4 hs hbv;refine aF #[sm',wT Â ez,Ú j hj hw',ù _];ext å c2 j i
    .ext Œ c2 hb
    .exact pre j ∅ hw'
  .refine aF #[sm',wT Â ez,Ú j hj hw',ù _];ext å c2 j i
   .rw[c2,hw]at hw';show ĕ (ZZ V.str (Zt hw')) c
   .exact pre j ∅ hw'
 .rintro Z H' ⟨sm,ez,pre,o3,o4,rfl⟩;have all:Øe:=λ i hi=>pre i (ÄL Za Àg hi) hi;exists[qok,qni],qN all;refine#[Àj,ù st,ÂC hst,ÍK z'];rw[c1]at e2;refine#[t,z',_,_,rfl,ht _,XW e2,lw,? _];refine ŕ EB i 3 j 4 (λ i Z H'=>ó/\H' z'=ą tup ps/\Öi/\∃o3 o4,Z=[Ö p,Ö st,Ö t,o3,o4]) #[sm.trans s2,e2,(λ j _ hj=>∅),ś o3 o4] Ûy (λ _ _ _ _ v=>XW v.2.1) lw Ĳ
  .ext áV pre2;show Å5 sm' sm.trans wT #[Å,Ċ u gu];have wu:=af gu (Ò [Î "item",Î "up"]);have sm2:=sm'.trans wu;have pb:=(ok i w' v b hw hv hb).same sm2;ext Ì9;have ei:Ãt (V.str w') [Î "item",Î "up"]=decide (ÍW w'):=SN w';have step:Ý bs true->∀(Ŏ j w'' Str),j<i+1->Öo Ŗ w'':=λ hbt j w'' hj hw'' hi=>by
    ext å c2 j i
    .ext Œ c2 hbt
    .exact pre2 j w'' ∅ hw'' hi
   rw[ei];refine Ám nY c c
   .rcases pb.2 c with⟨rfl,rfl⟩|⟨k,⟨nb,rfl,hnb⟩,hbv⟩
    .refine#[ŭ,jR ÄE];exact aF #[sm2,į wu wT ez,step hb,ù _]
    .show Ìw #[Ü,p,C,dx,_,Å,sm2 Â h1,ÎO,ù d,DGet.t (sm2 Â h2) hnb,ţ];cases hs:ϗ aU kvs k with
     |true =>ext Æ4 hs hbv;exact aF #[sm2,į wu wT ez,step hb,ù _]
     |false =>ext Æ4 hs hbv;show ÄY aP #[Ò2,λ ea tt' e1 e2 nt=>#[ea,tt',Å,ad,λ dd hdd=>#[rfl,Ã dd,ad,? _]]];exists[a1,a2],Ko (v:=V.ref nb) e1 hdd;exact qni i w' _ hw hv c hb pre2 _ dd (sm2.trans a1) a2
   .refine aF #[sm2,į wu wT ez,Ķ j w'' hj hw'' hi,ù _];ext å c2 j i
    .ext Ţ c2 hw hw'';ext ĕ hi c
    .exact pre2 j w'' ∅ hw'' hi
  .rintro Z H' ⟨sm,ez,pre2,o3,o4,rfl⟩;exact qok (λ i w' hw hi=>pre2 i w' (ÄL Za Àg hw) hw hi) H' sm
inductive spItemX(C cN:XH)ÂX:Prop
 |mk ÉQ âT (h0:vs=[Æ p,nm]) Îl (h3:(∀v,aU kvs k=Ľ->Q v H)) (h4:(aU kvs k=none->∀H' dd,ó->H' dd=Ã (.xd [("name",nm)])->ÑT)):spItemX C cN vs H Q E
inductive spBounds Ĥ(vs:X1)Ë À2:Prop
 |mk (p st:XH) (w:Str) (ps:X1) Èn (h1:Êk st w) (h2:ÂU w "move") (h3:ÂU w "join") (h4:ÂU w "part") (h5:Q .non H):ÁC spBounds
abbrev fu:Stmt:=ž 51 12
abbrev oR:Ä Str:=["self","one","other"]
theorem ir:FnScope oR (ÊP "one") (ao fu):= ñ
abbrev fG:Stmt:=ž 51 3
abbrev pU:Ä Str:=["self","step"]
theorem pG:Ŵ pU "self" "step" fG:= ñ
theorem di(h a:XH){m:Str}(h1:¬m="away":=by decide)(h2:¬m="held":=by decide):(rj h a).lookup m=none:=oZ h a h1 h2
theorem xL(x y:Str):(x++y).length=x.length+y.length:=by show(x.cps++y.cps).size=_;rw[Array.size_append];rfl
theorem Cr(ÆL h1 x)(ÆL h2 y):ÁY (x++y):=by show(x.cps++y.cps).all (·<0x110000)=true;rw[Array.all_append,ZH];exact#[h1,h2]
def TS(H H':Hp):Prop:=∀a zs,H a=ą tup zs->H' a=ą tup zs
theorem XV(e:ó):TS H H':=λ a zs h=>e a _ h
theorem pN Ο(Åe h d):TS H (ø d (.dT kvs')):=λ a zs e=>Ī (Àx e h) e
theorem B0:∀ns:XQ,ú PyData.canLayAll0 (ns.map PyData.int)/\PyData.depthAll (ns.map PyData.int)=0
 | []=>ÁP
 |n::ns=>by exists Ãn,B0 ns;simp only[Zu,PyData.canLayAll0,PyData.canLay0,PyData.depthAll,PyData.depth,h1,h2];exact ÁP
theorem dS{d:XZ}(h1:Ą d.canLay0)(h2:d.depth<=10):ú SeqAt.shaped d:=by ext ğ SeqAt.shaped ZH;exact#[h1,ĥ decide_eq_true]
theorem oh{l:X0}(h:¬k∈l.map (·.1)):aU l k=none:=by
 cases e:aU l k with
 |none=>rfl
 |some v=>show ĕ (yP e) h
theorem wL{l:X0}(h:k∈l.map (·.1)):ϗ aU l k=true:=by
 cases e:aU l k with
 |none=>show ĕ h (Mt e)
 |some v=>rfl
theorem uJ{l:X0}(v:V)(h:k∈l.map (·.1)):bC l k v=l.map (Æg kv k v):=by ext ğ bC XC;rw[jM];exact wL h
theorem KR{l:X0}(h:k∈l.map (·.1)):Êx bC l k v=l.map (·.1):=by rw[uJ v h,ZX];refine YT (Ø p _);show(if p.1=k then(p.1,v)else p).1=p.1;split<;>rfl
theorem Qo(r:eS H kvs ks):∀(Ãi v V),Ý ks v->∃k,Ý (kvs.map (·.1)) k/\NameIs H v k:=by
 ext Ĝ eS r;induction r with
 |nil=>intro i v h;simp at h
 |@cons p q _ _ h _ ih =>
  intro i v e;cases i with
  |zero =>cases e;show þ [b,e1,e2] h #[p.1,Ì b,e1,e2]
  |succ i=>exact ih e
theorem Qp(r:eS H kvs ks):ks.length=kvs.length:=(ZC r).symm
theorem SU(r:eS H kvs ks)(s:TS H H'):eS H' kvs ks:=Paired.mapP r λ _ _ ⟨b,h1,h2⟩=>#[b,h1,Ģ h2]
abbrev Nm:=Int×Int
structure It where
 up:Option Nm
 pl:XQ
 tx:Str
 dn:Bool
 wh:Option Int
 fo:Bool
abbrev Ol:=Ŋ Nm It
def nk(n:Nm):Ä Key:=[Ó n.1,Ó n.2]
theorem jZ(h:nk n=nk m):n=m:=by ext Ĝ nk h;ext Ék h h1 h2 h2;ext ÂV h1;ext ÂV h2;exact Prod.ext h1 h2
abbrev As(β:Type):=Ŋ Nm β
def look Ås:As β->Nm->Option β
 | [],_=>none
 |p::l,n=>if p.1=n then some Ĺ else look l n
def aK Ås äR:As β:=if Ő l n then l.map (Æg p n i)else l++[(n,i)]
def UpAt Ë(v:V):Ë0 Nm
 |none=>É6
 |Γ=>œ v n
inductive PlAt Ë(v:V)(ns:XQ):Prop
 |mk (b:_) (h0:v=Æ b) (h1:Ϛ b ns.map):PlAt H v ns
def whV:Option Int->V
 |none=>.non
 |Ã i=>Í i
inductive ItAt Ë(v:V)(it:It):Prop
 |mk Ō (uv pv:V) (h0:ÄU) (h1:H a=äC) (h2:UpAt H uv it.up) (h3:PlAt H pv it.pl):ItAt H v it
theorem NameIs.ts'(ϛ NameIs v k s):NameIs H' v k:=Äp b #[b,h1,Ģ h2]
theorem UpAt.ts(ϛ UpAt v u s):UpAt H' v u:=by
 cases u with
 |none=>exact x
 |some n=>exact NameIs.ts' x s
theorem PlAt.ts(ϛ PlAt v ns s):PlAt H' v ns:=Äp b #[b,h1,Ģ h2]
theorem ItAt.ts{it:It}(ϛ ItAt v it s):ItAt H' v it:=Ëm a uv pv x s h3.ts
abbrev Rws Ås(R:V->Þ β)(kvs:X0)(ol:As β):Prop:=Paired (λ p q=>p.1=nk q.1/\R Ĺ q.2) kvs ol
abbrev Rows Ë(kvs:X0)(ol:Ol):Prop:=Rws (ItAt H) kvs ol
theorem Rows.ts(ϛ Rows kvs ol s):Rows H' kvs ol:=ÅN x #[z.1,z.2.ts s]
section
variable{β:Type}
theorem kg(x:Rws R kvs ol)(h:ÁB n):aU kvs (nk n)=none:=by
 induction x with
 |nil=>rfl
 |@cons p q _ _ r _ ih =>
  ext Ĝ look h;by_cases c:q.1=n
  .ext ώ XC c h
  ext är
theorem bw(x:Rws R kvs ol)(h:Κ):∃v,aU kvs (nk n)=Ľ/\R v it:=by
 induction x with
 |nil=>cases h
 |@cons p q _ _ r _ ih =>
  ext Ĝ look h;by_cases c:q.1=n
  .ext ώ XC c h;exact#[Ĺ,dJ (r.1.trans (ZZ nk c)),r.2]
  ext är
theorem gY(x:Rws R kvs ol):ϗ aU kvs (nk n)=ÂM n:=by
 cases e:look ol n with
 |none=>rw[kg x e];rfl
 |some it =>exists[v,h,_],bw x e;rw[h];rfl
theorem iM(x:Rws R kvs ol)(hv:R v it):Rws R (bC kvs (nk n) v) (aK ol n it):=by
 unfold aK;cases e:look ol n with
 |none =>rw[qz _ (kg x e),XB Û];exact YR x #[Ì hv]
 |some it0 =>
  exists[v0,h0,_],bw x e;rw[uJ _ (yP h0),ØY it0];clear e h0;induction x with
  |nil=>exact ė
  |@cons p q _ _ r _ ih =>
   rw[Zu,Zu];refine υ ? _ ih;by_cases c:p.1=nk n
   .rw[XC c,XC (jZ (r.1.symm.trans c))];exact#[r.1,hv]
   .rw[XB c,XB λ z=>c (r.1.trans (ZZ nk z))];exact r
theorem dX(x:Rws R kvs ol):kvs.length=ol.length:=ZC x
#check 0
inductive OlAt Ĥ Ë Ã4:Prop
 |mk (kvs gvs:_) (ÅQ h0) (h1:Rows H kvs ol):ÀB OlAt
inductive GoneAt Ë(g:XH)(gs:As Unit):Prop
 |mk (gvs:_) (h0:H g=ą dT gvs) (h1:Rws (λ v _=>v=.bl true) gvs gs):GoneAt H g gs
theorem OlAt.same(x:ÀB OlAt)(s:ó):ÀS OlAt ol:=μ [kvs,gvs,h1,h2] x #[kvs,gvs,h1.same s,õ h2.ts s]
theorem GoneAt.same(x:GoneAt H g gs)(s:ó):GoneAt H' g gs:=Äp gvs #[gvs,Ģ h1,h2]
theorem But.ts(x:But d H H')(Åe h d):TS H H':=λ a zs e=>x a _ e (Àx e h)
theorem But.put{d:XH}{H H':Hp}(s:ó)(o:HO):But d H (Áq d o):=λ b u h n=>Äq n s h
theorem But.trans(x:But d H H')(y:But d H' H2):But d H H2:=λ b u h n=>y b u (x b u h n) n
theorem But.of(s:ó):But d H H':=λ b u h _=>s b u h
theorem iq{p d g t:XH}{it:It}(ÅQ S)(R:Rows H kvs ol)(s:ó)(hi:ItAt H' (Ï t) it):OlAt C (Áq d Ý8) p d g (aK ol n it):=by have td:TS H' (Áq d Ý8):=pN (Ģ S.dc);exact#[_,_,(S.same s).put,Rows.ts (ä9 R s) td]
inductive Und(ol:Ol)(o:Nm):Nat->Æ0 Nm Bool
 |none:Und ol o 0 none false
 |self:Und ol o 0 (Ù o) true
 |up ĉ ßP:n≠o->Κ->Ár o it.up b->Und ol o Ρ (Ù n) b
inductive spUnder Ĥ(vs:X1)Ë À2:Prop
 |mk Ã4 (u v:V) (one:Option Nm) (o:Nm) À1 (b:Bool) (h0:vs=[Æ p,u,v]) (h1:ÀB OlAt) (h2:UpAt H u one) (h3:œ v o) (h4:Ár o one b) (h5:Äz b):ÁC spUnder
theorem oj(F:é "at_or_beneath" "Plain.at_or_beneath" fu)(T:Txt K C)(u5:Â6 "UP" 0 tk):ă 1 (ÊP "one") (spUnder C):=by
 exists ir
 obtain⟨p,d,g,ol,u,v,one,o,k,b,rfl,⟨kvs,gvs,S,R⟩,hu,hv,un,q⟩:=h;ext Á5 S;ext ÁJ vb hvb hv;exists _,(b_c (yr ZU (t_w (hJ (aE kf ä cQ) (gN (aE (Cm hr.units) ä Ū)))) (b_1 (Ĕ 1 ir.nd (ar aw (ÃW cH ä) (fe u5)))))
   (b_1 (au (cP kf ä cQ))))
 refine#[ãM Und o [Ö p,Ã u,Ö vb],#[È k,u,one,hu,un,rfl],? _];rintro m Z H' ⟨rfl,u,one,hu,un,rfl⟩;cases un with
 |none =>ext ÇS u hu;refine#[ŭ,jR rfl (aF ? _)];exact#[Å,Ì q]
 |self =>ext ÁJ ub hub hu;show Áa #[ŭ,ØG] #[Ü,ub,vb,Å6 o,Å6 o,î,hub,hvb,Å,? _];rw[decide_eq_true rfl];ext Ħ aF;exact#[Å,Ì q]
 |@up m n it _ hn hl un =>
  ext ÁJ ub hub hu;exists Æf pv,bw R hl;show Áa #[ŭ,ØG] #[Ü,ub,vb,Å6 n,Å6 o,î,hub,hvb,Å,? _];have:¬ (Å6 n=Å6 o):=λ z=>hn (by
   ext Ék z z1 z2 z2;exact Prod.ext z1 z2)
  rw[decide_eq_false this];show ÄY aP #[λ Z H2=>H2=H'/\Z=[Ö p,Ã uv,Ö vb],Χ]
  ext áe un
inductive Sd
 |put ÕR(tx:Str)
 |move ÕR
 |write (n:Nm)(tx:Str)
 |mark (n:Nm)(b:Bool)
 |due (Ãz n Nm w Int)
 |fold (n:Nm)(b:Bool)
 |part (n:Nm)(a:Int)(m:Nm)(pl:XQ)
 |join (n m:Nm)
 |gone (n:Nm)
def StAt Ë(st:XH):Þ Sd
 |ÆQ u tx=>∃nv uv pv,H st=Ã (Ò [Î "put",nv,uv,pv,Î tx])/\œ nv n/\Ðe
 |É4 pl=>∃nv uv pv,H st=Ã (Ò [Î "move",nv,uv,pv])/\œ nv n/\Ðe
 |Ãj n=>Í4 Ã (Ò [Î "write",nv,Î tx])
 |.mark n b=>Í4 Ã (Ò [Î "mark",nv,.bl b])
 |.due n w=>Í4 some (Ò [Î "due",nv,whV w])
 |.fold n b=>Í4 Ã (Ò [Î "fold",nv,.bl b])
 |Å1 a m pl=>∃nv mv pv,H st=Ã (Ò [Î "part",nv,Í a,mv,pv])/\œ nv n/\œ mv m/\PlAt H pv pl
 |.gone n=>Í4 Ã (Ò [Î "gone",nv])
 |ÆC m=>∃nv mv,H st=Ã (Ò [Î "join",nv,mv])/\œ nv n/\œ mv m
theorem StAt.ts{st:XH}(ϛ StAt st s t):StAt H' st s:=by
 cases s with
 |put=>show Ôa uv h3.ts
 |move=>show Ôa uv h3.ts
 |write=>ext Ën
 |mark=>ext Ën
 |due=>ext Ën
 |fold=>ext Ën
 |gone=>ext Ën
 |part=>show Ôa mv h3.ts'
 |join=>show þ [nv,mv,h1,h2,h3] x #[nv,mv,t Â h1,h2.ts' t,h3.ts' t]
def Sd.items:Sd->Ä Nm
 |.put _ u Â=>u.toList
 |É4 _=>n::u.toList
 |.write n _=>[n]
 |.mark n _=>[n]
 |.due n _=>[n]
 |.fold n _=>[n]
 |Å1 ì=>[n]
 |ÆC m=>[n,m]
 |.gone n=>[n]
def Sd.news:Sd->Ä Nm
 |.put n ì=>[n]
 |.part Â m _=>[m]
 |_=>[]
inductive Bd(ol:Ol):Sd->Ë0 Bool
 |put {n u pl tx}:Bd ol (ÆQ u tx) none
 |write {n tx}:Bd ol (Ãj n) none
 |mark {n b}:Bd ol (.mark n b) none
 |due {n w}:Bd ol (.due n w) none
 |fold {n b}:Bd ol (.fold n b) none
 |gone {n}:Bd ol (.gone n) none
 |move {n u pl k b}:Ár n u b->Bd ol (É4 pl) (ÑE)
 |join {n m k b}:Ár m (Ù n) b->Bd ol (ÆC m) (ÑE)
 |part {n a m pl it}:Κ->Bd ol (Å1 a m pl) (æ6)
def dG(ÒL it):It:=if it.up=Ã m then{ it with up:=Γ }else it
theorem OY(ÒL it):dG n m (dG n m it)=dG n m it:=by
 unfold dG;by_cases c:it.up=Ã m
 .rw[XC c];ext å c2 n m
  .rw[c2,XC rfl]
  .rw[XB (ÃF c2 Zt)]
 .rw[XB c,XB c]
structure JoinR(ol:Ol)(n m:Nm)(itn itm:It)(ol':Ol):Prop where
 len:ol'.length=ol.length
 nm:ol'.map (·.1)=ol.map (·.1)
 lk:∃itm2,look (Éb) m=Ã itm2/\∀x,look ol' x=(look (ÍP) x).map (dG n m)
inductive Ap(ol:Ol):Sd->Þ Ol
 |put {n u pl tx}:Ap ol (ÆQ u tx) (aK ol n (ÌM u pl tx))
 |move {n u pl it}:Κ->Ap ol (É4 pl) (aK ol n { it with up:=u,pl:=pl })
 |write {n tx it}:Κ->Ap ol (Ãj n) (ÆO tx tx)
 |mark {n b it}:ÙU mark b dn
 |due {n w it}:ÙU due w wh
 |fold {n b it}:ÙU fold b fo
 |part {n a m pl it}:Κ->Ap ol (Å1 a m pl) Þx
 |gone {n}:Ap ol (.gone n) ol
 |join {n m itn itm ol'}:look ol n=Ã itn->look ol m=Ã itm->JoinR ol n m itn itm ol'->Ap ol (ÆC m) ol'
theorem Ny{st:XH}(hs:StAt H st s)(hb:Bd ol s r):
  (r=none/\∃wd ps,Êk st wd/\ÂU wd "move"/\ÂU wd "join"/\ÂU wd "part") \/
  (∃n u k b nv uv pv,H st=Ã (Ò [Î "move",nv,uv,pv])/\œ nv n/\UpAt H uv u/\Ár n u b/\r=ÑE) \/
  (∃n m k b nv mv,H st=Ã (Ò [Î "join",nv,mv])/\œ nv n/\œ mv m/\Ár m (Ù n) b/\r=ÑE) \/
  (∃n a it nv mv pv,H st=Ã (Ò [Î "part",nv,Í a,mv,pv])/\œ nv n/\Κ/\r=æ6):=by
 cases hb with
 |put=>exists[nv,uv,pv,h1,_],hs;exact .inl #[Ì _,_,h1,Àv,⋯]
 |write=>ext Ëf
 |mark=>ext Ëf
 |due=>ext Ëf
 |fold=>ext Ëf
 |gone=>ext Ëf
 |move un=>exists ÍO uv _,hs;show ſ (Ó #[_,_,_,_,nv,uv,pv,h1,h2,h3,È un])
 |join un=>exists[nv,mv,h1,h2,h3],hs;show ſ (.inr (Ó #[_,_,_,_,nv,mv,h1,h2,h3,un,rfl]))
 |part hl=>exists ÍO mv _,hs;show ſ (.inr (ā #[_,_,_,nv,mv,pv,h1,h2,È hl]))
inductive spBoundsF(C cB cF:XH)ÂX:Prop
 |mk ÏE (Ãz s Sd r Bool) Èn (h1:ÀB OlAt) (h2:StAt H st s) (h3:Bd ol s r) (h4:(ÌK 4000)) (h5:(r=Ã true->Ā E cB none H)) (h6:(r=Ã false->Ā E cF none H)) (h7:(r=none->Q .non H)):spBoundsF C cB cF vs H Q E
theorem om(F:é "check_bounds" "Plain.check_bounds" fG)(T:Txt K C)(i6:æ7)(i8:Â6 "TEXT" 2 tk)(a9:Ē "len")(x_Beneath:ExCls K cB)(p7:ÁK "Beneath" cB)(x_Far:ExCls K cF)(VY:ÁK "Far" cF):Òa 2 (spBoundsF C cB cF):=by
 show Ô2 pG [p,d,g,st,ol,sd,r,rfl,_] [p,d,g,st,ol,sd,r,rfl,O,hs,hb,htx,q1,q2,q3];ext ÑU O;ext Á5 S;exists _,(áb
   (áb
   (b_1 (aM (t_w (Åt hJ 1 (gN (aE Ck (ħ 1) (q_B Bt a9 Z2 (ð (ar aw (cH hr.units (bj ü) (ħ 1)) (fe i8)))))))) (ãB fE x_Far VY) b_0))))
 rcases Ny hs hb with⟨hr',wd,ps,hst,n1,n2,n3⟩|⟨n,u,k,b,nv,uv,pv,hst,hn,hu,un,hr'⟩|⟨n,m,k,b,nv,mv,hst,hn,hm,un,hr'⟩|⟨n,a,it,nv,mv,pv,hst,hn,hl,hr'⟩
 .show Áa (Äj #[ľ,aW n1 (aF ? _)]) (Äj #[ľ,aW n2 (aF ? _)]);exact Äj #[ľ,aW n3 (aF (q3 hr'))]
 .refine Äj #[ľ,cS ? _];refine#[Ν p dx h1 di,Át hst at2 (Át hst at1 #[ÂJ,ol,uv,nv,u,n,k,b,Ì O,hu,hn,un,_,Ì ? _])];cases b with
  |true=>exact aP #[sz rfl,q1 hr']
  |false =>show ÄY aF ÑQ;exact Äj ãi
 .show Áa ÑQ (Äj #[ľ,cS ? _]);refine#[Ν p dx h1 di,Át hst at1 (Át hst at2 #[ÂJ,ol,nv,mv,Γ,m,k,È b,O,hn,hm,un,ţ])];cases b with
  |true=>exact aP #[sz rfl,q1 hr']
  |false =>ext Ħ aF;exact Äj ãi
 .show Áa ÑQ ÑQ;refine Äj #[ľ,cS ? _];exists Æf pv',bw R hl;ext ļ nb hnb hn;refine(Át hst at2 #[γ,Ãx,Át hst at1 #[ÑP,ia,τ,XW e2,ś at2 it.tx,(by have:=htx n it hl;omega),ë,ţ]]);refine Ám nY c c
  .rw[ĥ XC]at hr';exact#[sz rfl,q2 hr']
  .rw[ĥ XB]at hr';exact q3 hr'
inductive spPartI Ĥ(vs:X1)Ë À2:Prop
 |mk Ã4 (nv mv pv:V) (n m:Nm) (a:Int) (pl:XQ) (it:It) (h0:vs=[Æ p,nv,Í a,mv,pv]) ÞB (h4:PlAt H pv pl) (h5:Κ) (h6:ol.length<=400) (h7:it.tx.length<=100000) (h8:∀H',But d H H'->ÀS OlAt Þx->Äx):ÁC spPartI
theorem dZ Ås äR:Âa aK l n i<=l.length+1:=by
 ext Øn aK
 .ext ÒD
abbrev il:Stmt:=ž 51 6
abbrev tG:Ä Str:=["self","name","at","new","place","item","ahead"]
theorem gK:FnScope tG ["self","name","at","new","place"] (ao il):= ñ
theorem rJ(F:é "part_item" "Plain.part_item" il)(T:Txt K C)Öj(r0:Ι 1 C "bring_in" Ïm (spBring C))(i8:Â6 "TEXT" 2 tk)(u5:Â6 "UP" 0 tk')(VZ:Ē "max"):ă 2 ßT:=by
 exists gK
 obtain⟨p,d,g,ol,nv,mv,pv,n,m,a,pl,it,rfl,⟨kvs,gvs,S,R⟩,hn,hm,hp,hl,l4,lt,q⟩:=h;ext Á5 S;ext ÁJ nb hnb hn;exists Æf pv',bw R hl;have lk:=dX R;exists _,(b_c (Ĕ 5 gK.nd (ÃW cH ä))
   (b_c (Ĕ 6 gK.nd (q_B (ME rfl) VZ Br (ÈW 2)))
   (b_c (bK (bJ j5 ς (ÀO 1 (q_a (fe i8) (ņ (aJ (ð (fg IJ (ar aw ↑5 (fe i8)) fq (eM ↑6)))) ai)))))
   (b_1 (bK (bJ r0 ς (ŏ 3 (q_a (ar aw ↑5 (fe u5)) (ÀO 4 (ð (fg IJ (ar aw ↑5 (fe i8)) (eM ↑6) fq)))))))))))
 show Ť #[Å,p,Ãx,Å,ÑP,? _] #[Å,Ł _ ? _];show Âz #[Ν p dx h1 di,Å,ř (XW e2) at2 #[Ü,È it.tx,lt,Ċ va gva]] wv gva (Ò [Î (cZ it.tx none (Ù (if É 0>a then 0 else a)))]);ext Ýj;have O1:=iq (n:=n) (it:=ßG) S R s01 #[t,uv,È pv',e5,õ e3.ts s01,õ e4.ts s01];ext Ûk;have lk2:=dX R2;have:=dZ ol n ßG;refine#[Ν p dx2 y1 di,Å,vix rfl (À7 XW t2 e2) at0 #[Å,vix rfl (À7 XW t2 e2) at2 #[Ü,È it.tx,lt,? _]]];refine#[ÂJ,kvs2,gvs2,mv,uv,pv,Î _,nk m,Ì S2,hm.ts' t2,ÅT ϙ 500 (Ñ Ê (ã 2) (Ñ Ç Ê (ÕI))) æ this (Nat.le_of_eq lk2) l4,Č t' H3 s3 e6];refine q _ (b1.trans (But.put s3 _)) (iq S2 R2 s3 #[t',uv,È pv,e6,(e3.ts t2).ts (XV s3),(hp.ts t2).ts (XV s3)])
inductive spJoinI Ĥ(vs:X1)Ë À2:Prop
 |mk Ã4 (nv mv:V) (n m:Nm) (itn itm:It) (h0:vs=[Æ p,nv,mv]) ÞB (ËO h4 n itn) (ËO h5 m itm) (h6:ol.length<=400) (h7:itn.tx.length+itm.tx.length<=100000) (h8:∀H' ol',But d H H'->ÀS OlAt ol'->JoinR ol n m itn itm ol'->Äx):ÁC spJoinI
def mU:Option Nm->XZ
 |none=>.none
 |Γ=>.tuple [Í n.1,Í n.2]
theorem Kb(h:UpAt ÇJ):Dt H (mU u) v/\Äv mU u/\ÌL mU u 1:=by
 cases u with
 |none =>ext ÇS v h;exact#[ÀL ÀD mU Dt,rfl,⋯]
 |some n =>ext ļ b e h;refine#[? _,by simp[mU,PyData.canLay0,PyData.canLayAll0],äZ mU PyData.depthAll];simp only[mU,Dt,DtAll];exact#[ù b,Ó e,ë,ë,rfl]
theorem Du(u v:Option Nm):PyData.eqv (mU u) (mU v)=Ài u v:=by
 cases u with
 |none=>cases v<;>rfl
 |some n =>
  cases v with
  |none=>rfl
  |some m =>
   have:=iL [n.1,n.2] [m.1,m.2];show PyData.eqv (.tuple (ãs n)) (.tuple (ãs m))=_;rw[this,decide_eq_decide];show ØP ZZ some (Prod.ext z1 z2)
   .intro z;rw[Zt z]
theorem LU Ås(ãN ol){k:Ä Key}(x:Rws R kvs ol)(h:ÒE):∃n it,k=nk n/\Κ:=by
 induction x with
 |nil=>exact Ş h
 |@cons p q _ l r _ ih =>
  rw[Zu]at h;show Äu h #[q.1,q.2,r.1,Èx look XC rfl]
  .exists[n,it,h1,h2],ih h;by_cases c:q.1=n
   show ÀI #[n,q.2,h1,Èx look XC c] #[n,it,h1,by unfold look;rw[XB c];exact h2]
theorem Ld ÅZ Øx:(look (l.map (Æg p n i)) m)=if m=n then(look l m).map (ę i)else look l m:=by
 induction l with
 |nil=>split<;>rfl
 |cons p l ih =>
  rw[Zu];unfold look;ext Án c n
  .rw[XC c];ext Án c2 m
   .rw[XC c2,XC c2,XC (c2▸c)];rfl
   .rw[XB c2,XB c2,ih]
  .rw[XB c];ext Ðx m XC
   .rw[XB c2,XB c2,ih]
theorem Lc ÅZ Øx(h:look l n=none):Ïx (l++[(n,i)]) m n i l:=by
 induction l with
 |nil =>
  show(Ïo n m Ã i)=_;ext å c n m
  .rw[XC c,XC c.symm]
  .rw[XB c,XB (ÈD c)];rfl
 |cons p l ih =>
  rw[List.cons_append];unfold look at h ⊢;ext Án c n
  .ext ώ XC c h
  .rw[XB c]at h;ext Ðx m XC
   .rw[XB c2,XB c2];exact ih h
theorem aG ÅZ Øx:Ïx (aK l n i) m n i l:=by
 unfold aK;cases e:look l n with
 |none =>ext χ XB Û Lc e
 |some j =>
  rw[ØY j,Ld];ext å c m n
  .rw[XC c,XC c,c,e];rfl
  .rw[XB c,XB c]
theorem iX ÅZ{n:Nm}{i j:β}(h:look l n=Ã j):Âa aK l n i=l.length:=by unfold aK;rw[h,ØY j,Za]
theorem dR ÅZ{n:Nm}{i:β}:(Êx aK l n i)=if Ő l n then l.map (·.1)else l.map (·.1)++[n]:=by
 unfold aK;by_cases c:(Ő l n)
 .rw[XC c,XC c,ZX];apply YT;intro x _;show(if ö=n then(ö,i)else x).1=ö;by_cases d:ö=n
  .rw[XC d]
  .rw[XB d]
 .rw[XB c,XB c,Zy];rfl
theorem CM Ås(ãN l)(x:Rws R kvs l):kvs.map (·.1)=ũ l.map (·.1) nk:=by
 induction x with
 |nil=>rfl
 |cons r _ ih=>rw[Zu,Zu,Zu,ih,r.1]
theorem EQ:∀{a b:Ä Nm},a.map nk=b.map nk->a=b
 | [],[],_=>rfl
 | [],Δ,h=>ÁF h
 |Δ,[],h=>ÁF h
 |x::a,y::b,h=>by rw[Zu,Zu]at h;ext Æk h h1 h2;rw[jZ h1,EQ h2]
theorem Lf(R':Rows H' kvs' ol')(R:Rows H kvs ol)(e:kvs'.map (·.1)=kvs.map (·.1))(n:ol.map (·.1)=ns):ol'.map (·.1)=ns:=by rw[CM R',CM R]at e;rw[<-n];exact EQ e
section
variable{ks:List (Ä Key)}{i:Nat}
theorem N0 áj Ûn:(look ol4 c).map (dG n m)=Ã (dG n m it):=by
 by_cases cm:nk c∈ks.take i
 .have:=j1 c cm;ext Â5 hc;cases e:look ol4 c with
  |none=>ext ÁN e
  |some it4 =>ext Â5 e;have e2:it=dG n m it4:=Zt this;rw[e2,OY];rfl
 .rw[<-j2 c cm,hc];rfl
theorem KQ(k1:ks[i]?=ϝ nk c)áj Ûn(ho:∀x,Ïx ol'' x c (dG n m it) ol'):(∀x,nk x∈ks.take (i+1)->Õ6 ol'')/\∀x,¬nk x∈ks.take (i+1)->Êd ol'' x ol4:=by
 have h4:=N0 j1 j2 hc;have et:ks.take (i+1)=ks.take i++[nk c]:=Â4 List.take_succ k1
 refine#[Ø x hx,Ø x hx]
 .rw[ho x];ext å e x c
  .rw[XC e,e,h4]
  .rw[XB e];rw[et]at hx;ext Éy hx j1 x
   .show ĕ (jZ (Zg.mp hx)) e
 .rw[et]at hx;rw[ho x,XB λ e=>hx (ZE.mpr (ā (Zg.mpr (ZZ nk e))))];exact j2 x λ z=>hx (ZE.mpr (Ó z))
#check 0
abbrev gJ:Stmt:=ž 51 7
abbrev re:Ä Str:=["self","name","other","joined","lower"]
theorem fV:FnScope re (ÊP "name") (ao gJ):= ñ
theorem rc(F:é "join_items" "Plain.join_items" gJ)(T:Txt K C)Öj(i8:Â6 "TEXT" 2 tk)(u5:Â6 "UP" 0 tk')(i9:Ē "list"):ă 2 (ÊP "name") (spJoinI C):=by
 exists fV
 obtain⟨p,d,g,ol,nv,mv,n,m,itn,itm,rfl,⟨kvs,gvs,S,R⟩,hn,hm,hln,hlm,l4,lt,q⟩:=h;ext Á5 S;ext ÁJ nb hnb hn;ext ÁJ mb hmb hm;exists Æf pv,bw R hln;exists[jv,f1,ja,uv',pv',rfl,f2,f3,f4],bw R hlm;have lk:=dX R;exists _,(b_c (Ĕ 3 fV.nd (aI QK (ar aw (ÃW cH ä) (fe i8)) (ÖC 2 i8)))
   (b_c (bK (bJ j5 ς (ŏ 1 (ņ (fe i8) (ð (aJ (Ğ 3)))))))
   (b_c (bK (bJ j5 ς (ÀO 2 (q_a (fe i8) (ņ (aJ (ð aA)) ai)))))
   (b_1 (cW ZU rfl (bc (oq (Ep rfl) i9 iU (ð (bj ü)))) (ÁX 4 fV.nd) (b_1 (aM (aE (sX hr.units) (ÖC 4 u5) Ū) (b_1 (bK (bJ j5 ς (ŏ 4 (ņ (fe u5) (ð (aJ (Ğ 1)))))))) b_0)))))))
 show Ť #[Å,p,Ãx,Å,ÑP,ia,_,ë,XW e2,at2,? _] #[Å,p,Ãx,ÒN ja,f1▸ÉL m h2 hmb,ja,_,ë,XW f2,at2,_,Å,rfl,ĥ Nf,? _];show Âz #[Ν p dx h1 di,Ü,Ċ va gva] wv gva (Ò [Î (itn.tx++itm.tx)]);ext Ýj;have O1:=iq (n:=n) (it:=Âd itn tx Òs) S R s01 #[t,uv,È pv,e5,õ e3.ts s01,õ e4.ts s01];ext Ûk;have lk2:=dX R2;have ls2:(Éb).length=ol.length:=iX hln;obtain⟨itm2,hlm2⟩:∃it,look (Éb) m=Ã it:=by
  rw[aG];split
  show ÀI #[Å] #[_,hlm]
 exists[kv,g1,ka,uw,pw,rfl,g2,g3,g4],bw R2 hlm2;show Âz #[Ν p dx2 y1 di,Å,Ċ vb gvb] wb gvb (Ò [Î ""]);refine#[ÂJ,ka,vb,kvs2,gvs2,Æ mb,nk m,2,Àw,S2.same wb,(hm.ts' t2).same wb,ÅT ϙ 500 (Ñ Ê Ô (Ñ Ç Ê (ÕI))) æ (Nat.le_of_eq ls2) (Nat.le_of_eq lk2) l4,g1,Úr wb g2 2,Č t' H3 s3 e6];have s23:Same H2 H3:=wb.trans s3;have O3:=iq (n:=m) (it:=Ól) S2 R2 s23 #[t',uw,È pw,e6,õ g3.ts s23,õ g4.ts s23];have b3:But d H (ß H3 Üx):=b1.trans (But.put s23 _);generalize ß H3 Üx=H4 at O3 b3 ⊢;have t4:=b3.ts h2;exists[kvs4,gvs4,S4,R4],id O3;ext ÈX dx4 z1 z2 z3 z4 S4;have ls4:(ÍP).length=ol.length:=(iX hlm2).trans ls2;generalize hO4:ÍP=ol4 at O3 R4 ls4;refine#[Å,Çq dx4 z1 T.cl T.nH,bg Â,ś d kvs4,Ó z2,λ l ks gl hk=>#[Áe l ad]];show Äd wl gl (Õ ks) el H4 l;ext Ÿ nld l d z2 gl
 have O5:PlainAt C (ψ H4 l ks) p d g kvs4 gvs4:=S4.same wl;have R5:Rows (ψ H4 l ks) kvs4 ol4:=õ R4.ts wl;have hk5:eS (ψ H4 l ks) kvs4 ks:=SU hk (XV wl);have b5:But d H (ψ H4 l ks):=b3.trans (But.of wl);have nb5:=į wl t4 hnb;have mb5:=į wl t4 hmb;generalize (ψ H4 l ks)=H5 at el O5 R5 hk5 b5 nb5 mb5 ⊢;have lks:=Qp hk5;refine ÁL gq l (xs:=ks) (λ i Z H'=>But d H5 H'/\∃(kvs':X0) (ol':Ol) (o4:Option V),ÀS PlainAt kvs' gvs4/\Rows H' kvs' ol'/\kvs'.map (·.1)=kvs4.map (·.1)/\ol'.length=ol.length/\((∀x,nk x∈(kvs4.map (·.1)).take i->Õ6 ol')/\∀x,¬nk x∈(kvs4.map (·.1)).take i->Êd ol' x ol4)/\Z=[Ö p,Ö nb,Ö mb,Ã (Î (itn.tx++itm.tx)),o4])
  #[But.of (Same.refl _),kvs4,ol4,none,O5,È R5,ls4,#[λ x h=>ÀU h,Á1 _ rfl],rfl] (Ä2 (Âf el nld)) Ĳ
 .rintro i v Z H' hv ⟨bt,kvs',ol',o4,S',R',hk',ll,⟨j1,j2⟩,rfl⟩ DL hDL;have tt:=bt.ts O5.dc;ext ÈX dx' x1 x2 x3 x4 S';exists[k,k1,vb',rfl,k2],Qo hk5 hv;exists[c,it,rfl,hc],LU R' (Ŕ hk' ZG k1);exists[cv,c1,ca,uc,pc,rfl,c2,c3,c4],bw R' hc;exists[p1,p2,p3],Kb c3;exists[r1,r2,r3],Kb (u:=Ã m) (v:=Æ mb) #[È mb,tt Â mb5];have stp:∀ol'':Ol,(∀x,Ïx ol'' x c (dG n m it) ol')->_:=λ ol'' ho=>KQ k1 j1 j2 hc ho;refine#[Å,Çq dx' x1 T.cl T.nH,bg Â,ÒN ca,c1▸ÉL c x2 (tt Â k2),ca,τ,XW c2,Ł at0 _,_,p1,r1,dS p2 ∅,dS r2 ∅,ţ];have lk':=dX R';rw[Du];refine Ám nY eu eu
  .show Âz #[Ν p dx' x1 di,Ü,Ċ vc gvc] wc gvc (Ò [Æ nb]);refine#[ÂJ,ca,vc,kvs',gvs4,_,nk c,0,Àw,S'.same wc,#[È vb',į wc tt k2],ÅT ϙ 500 (Ñ Ç Ê (Ñ Ê Ô (ÕI))) æ (Nat.le_of_eq lk') (Nat.le_of_eq ll) l4,c1,Úr wc c2 0,Č t6 H6 s6 e7];have s56:Same H' H6:=wc.trans s6;have hi:ItAt H6 (Ï t6) { it with up:=Γ }:=#[t6,Æ nb,È pc,e7,#[È nb,į s56 tt nb5],õ c4.ts s56]
   have td:TS H6 (ß H6 d (.dT (bC kvs' (nk c) (Ï t6)))):=À7 pN s56 x2;have er:dG n m it={ it with up:=Γ }:=Èx dG XC eu
   exact hDL Â #[bt.trans (But.put s56 _),bC kvs' (nk c) (Ï t6),aK ol' c { it with up:=Γ },_,(S'.same s56).put,Rows.ts (ä9 R' s56) td,Áf KR (yP c1) hk',Áf iX hc ll,stp _ λ x=>ÀK aG er,rfl]
  .refine ÄQ #[bt,kvs',ol',_,S',R',hk',ll,stp ol' (ģ x),rfl];ext å e x c
   .rw[XC e,e,hc];unfold dG;rw[XB eu]
   .rw[XB e]
 .rintro Z H' ⟨bt,kvs',ol',o4,S',R',hk',ll,⟨j1,j2⟩,rfl⟩;refine q H' ol' (b5.trans bt) #[kvs',gvs4,S',R'] #[ll,Lf R' R4 hk' (by rw[<-hO4,dR,XC (ό hlm2),dR,XC (ό hln)]),itm2,hlm2,ģ x];rw[hO4];have ee:(kvs4.map (·.1)).take ks.length=kvs4.map (·.1):=by rw[Yt];rw[Za,lks];exact Zf _
  rw[ee]at j1 j2;by_cases hx:nk x∈kvs4.map (·.1)
  .exact j1 x hx
  .rw[j2 x hx];have:=gY (n:=x) R4;rw[oh hx]at this;cases e:look ol4 x with
   |none=>rfl
   |some it=>ext ÁN e
def All3 Ë(Îr kvs X0)(bs:Ä Bool):Prop:=∀Ëp (b:Bool),Ý ws w->Ý ps v->àp
theorem All3.nil:All3 H kvs ÄI []:=λ i w v b h=>ÀU h
theorem All3.cons Ο{kvs:X0}(δ ws Str ps X1)(δ bs Bool w Str){v:V}{b:Bool}(h:PartB H kvs w v b)(t:All3 H kvs ws ps bs):All3 H kvs (w::ws) (v::ps) (b::bs):=λ i w' v' b' h1 h2 h3=>by
 cases i with
 |zero=>ext ÁH h1 h2;ext Ř h3 h
 |succ i=>exact t i ì h1 h2 h3
def T9(Âj ws)(bs:Ä Bool):Prop:=∀(Ŏ i w Str),Öo Ý w
def upB(ol:Ol):Option Nm->Bool
 |none=>true
 |Γ=>ÂM n
section
theorem Q5(R:Rows H kvs ol)ÈP:PartB H kvs "new" v (!(ÂM n)):=#[ę #[nk n,h,by rw[gY R]],ÌE]
theorem Oz(R:Rows H kvs ol)ÈP:PartB H kvs "item" v (ÂM n):=#[ÌE,λ _=>ā #[nk n,h,by rw[gY R]]]
theorem Ti(R:Rows H kvs ol)(h:UpAt ÇJ):PartB H kvs "up" v (upB ol u):=#[ÌE,λ _=>by
 cases u with
 |none=>exact Α #[È h]
 | some n=>show ſ #[nk n,h,by rw[gY R];rfl]]
theorem Q6{w:Str}(h1:w≠"new")(h2:¬isI w):PartB H kvs w v true:=#[ÅE z z h1,ÅE z z h2]
#check 0
theorem IB:isI "item":=Ó rfl
theorem Qi:isI "up":=ā rfl
theorem pP{w:Str}(h:w="place"\/w="text"\/w="truth"\/w="whom"\/w="at"):w≠"new"/\¬isI w:=by rcases h with rfl|rfl|rfl|rfl|rfl<;>exact#[⋯,by unfold isI;ext ÆE]
theorem T0:¬isI "new":=by unfold isI;ext ÆE
theorem Sm:¬(Ày "item"="new")/\¬(Ày "up"="new"):=⋯
inductive Prt Ë(ol:Ol):Ä Str->X1->Ä Bool->Ä Nm->ÃI Nm
 |nil:Prt H ol ÄI ÄI []
 |item {v:V} {n:Nm} Î5 ÈP (t:Ço):Ñj "item" (ÂM n::bs) (n::is) ns
 |up {v:V} {u:Option Nm} Î5 (h:UpAt ÇJ) (t:Ço):Ñj "up" (upB ol u::bs) (u.toList++is) ns
 |new {v:V} {n:Nm} Î5 ÈP (t:Ço):Ñj "new" ((!(ÂM n))::bs) is (n::ns)
 |oth {w:Str} {v:V} Î5 (h:w≠"new"/\¬isI w) (t:Ço):Ñj w (true::bs) is ns
theorem Prt.all(R:Rows H kvs ol)Ó2(h:Ço):All3 H kvs ws ps bs/\ws.length=ps.length/\bs.length=ps.length:=by
 induction h with
 |nil=>exact#[.nil,î]
 |item h _ ih=>exact ÏO (Oz R h)
 |up h _ ih=>exact ÏO (Ti R h)
 |new h _ ih=>exact ÏO (Q5 R h)
 |oth h _ ih=>exact ÏO (Q6 h.1 h.2)
def jl(ol:Ol)(n:Nm):Bool:=(look ol n).isNone
theorem Prt.news Ó2(h:Ço):(∀i:Nat,Ý ws "new"->Ý bs false->∃n∈ns,(Ő ol n))/\((Øe)->∀n∈ns,ÁB n):=by
 induction h with
 |nil=>exact#[(λ i e=>ÀU e),(λ _ n hn=>Ş hn)]
 |item h _ ih =>
  refine Õj;cases i with
  |zero=>exact absurd (Zt e1) Sm.1
  |succ i=>exact ih.1 i e1 e2
 |up h _ ih =>
  refine Õj;cases i with
  |zero=>exact absurd (Zt e1) Sm.2
  |succ i=>exact ih.1 i e1 e2
 |@new v n ws ps bs is ns h _ ih =>
  refine#[Ú i e1 e2,Ú z m hm]
  .cases i with
   |zero =>have e2:Ũ (!(ÂM n)):=Zt e2;exact#[n,Zk,by rw[Bool.not_eq_false']at e2;exact e2]
   |succ i =>exists[m,h1,h2],ih.1 i e1 e2;exact#[m,Zh _ h1,h2]
  .ext ϋ hm hm
   .have e2:Ą (!(ÂM m)):=Zt (z 0 rfl);cases c:look ol m with
    |none=>rfl
    |some x=>ext è c e2 e2
   .exact ih.2 (λ i e=>z (i+1) e) m hm
 |oth h _ ih =>
  refine Õj;cases i with
  |zero=>exact absurd (Zt e1) h.1
  |succ i=>exact ih.1 i e1 e2
theorem Prt.items Ó2(h:Ço):(T9 ws bs->∀n∈is,Ő ol n) /\
  ∀Ëp,Ý ws w->Ý ps v->isI w->Ý bs false->Öi->∃n,is.find? (jl ol)=Γ/\œ v n:=by
 induction h with
 |nil=>exact#[(λ _ n hn=>Ş hn),(λ i w v e=>ÀU e)]
 |@item v n ws ps bs is ns h _ ih =>
  refine#[Ú z m hm,Ð3]
  .ext ϋ hm hm
   .exact Zt (z 0 Än IB)
   .exact ih.1 (Ï2) m hm
  .cases i with
   |zero =>
    cases e2;have e3:ÂM n=false:=Zt e3;refine#[n,? _,h];rw[List.find?_cons_of_pos];unfold jl;cases c:look ol n with
    |none=>rfl
    |some x=>ext è c e3 e3
   |succ i =>
    exists[m,h1,h2],ÎU;have p0:Ő ol n:=Zt (pre 0 _ ÖX rfl IB);refine#[m,? _,h2];rw[List.find?_cons_of_neg]
    .exact h1
    .unfold jl;cases c:look ol n with
     |none=>ext è c p0 p0
     |some x=>ext ÒO
 |@up v u ws ps bs is ns h _ ih =>
  refine#[Ú z m hm,Ð3]
  .ext Á8 hm hm
   .cases u with
    |none=>exact Ş hm
    |some x =>
     obtain rfl:m=x:=û hm
     exact Zt (z 0 Än Qi)
   .exact ih.1 (Ï2) m hm
  .cases i with
   |zero =>
    cases e2;cases u with
    |none=>cases e3
    |some x =>
     have e3:ÂM x=false:=Zt e3;refine#[x,? _,h];show List.find? _ (x::is)=_;rw[List.find?_cons_of_pos];unfold jl;cases c:look ol x with
     |none=>rfl
     |some y=>ext è c e3 e3
   |succ i =>
    exists[m,h1,h2],ÎU;have p0:Ď upB ol u:=Zt (pre 0 _ ÖX rfl Qi);refine#[m,? _,h2];cases u with
    |none=>exact h1
    |some x =>
     have p0:Ő ol x:=p0;show List.find? _ (x::is)=_;rw[List.find?_cons_of_neg]
     .exact h1
     .unfold jl;cases c:look ol x with
      |none=>ext è c p0 p0
      |some y=>ext ÒO
 |new h _ ih =>
  refine#[λ z=>ih.1 Ï2,Ð3];cases i with
  |zero=>cases e1;ext ĕ hi T0
  |succ i=>exact ÎU
 |oth h _ ih =>
  refine#[λ z=>ih.1 Ï2,Ð3];cases i with
  |zero=>cases e3
  |succ i=>exact ÎU
theorem R6{st:XH}(h:StAt H st s):∃(wd:Str) (ws:(Ä Str)) (ps:X1) (bs:(Ä Bool)),Êk st wd/\PyProof.Rows.KTD.datumAt wd ST=ϝ tw ws/\Prt H ol ws ps bs s.items s.news:=by
 have wp:=pP (w:="place") (Ó rfl);have wt:=pP (w:="text") Þ5;have wr:=pP (w:="truth") (ā Þ5);have ww:=pP (w:="whom") (Ì4 inl);have wa:=pP (w:="at") (Ì4 inr);cases s with
 |put n u pl tx =>exists ÍO uv h4,h;have:=áf (.oth (v:=pv) wp (.oth (v:=Î tx) wt ė));ext Â5 ZQ;exact Ï8 new this
 |move n u pl =>exists ÍO uv h4,h;have:=áf (.oth (v:=pv) wp ė);ext Â5 ZQ;exact Ï8 item this
 |write n tx =>ext Ît wt
 |mark n b =>ext Ît wr
 |due n b =>ext Ît ww
 |fold n b =>ext Ît wr
 |part n a m pl =>exists ÍO mv h4,h;exact Ï8 item (.oth wa (.new h3 (.oth wp .nil)))
 |join n m =>exists[nv,mv,h1,h2,h3],h;exact Ï8 item (.item h3 .nil)
 |gone n =>exists[nv,h1,h2],h;exact#[_,_,_,_,È h1,.item h2 ė]
inductive Out
 |taken
 |none (n:Nm)
 |beneath
 |far
 |ok
def MD:Option Bool->Out
 |Ã true=>.beneath
 |Ã false=>.far
 |none=>.ok
inductive Due(ol:Ol)(s:Sd):Þ Out
 |taken (n:Nm) (h:n∈s.news) (t:Ő ol n):Due ol s .taken
 |none (n:Nm) (Ð7 h m) (f:s.items.find? (jl ol)=Γ):Due ol s (.none n)
 |bd (r:Option Bool) (Ð7 h m) (i:∀m∈s.items,Ő ol m) (b:Bd ol s r):Due ol s (MD r)
def Px(d g:XH)(H H':Hp):Prop:=∀b o,H b=ò->ō d->ō g->H' b=ò
def Gb(gs:As Unit):Sd->As Unit
 |.gone n=>aK gs n ()
 |_=>gs
theorem sK(h:Ä9 n):Gb gs s=gs:=by cases s<;>first|rfl|show ĕ rfl (h _)
theorem GoneAt.but(x:GoneAt H g gs)(b:But d H H')(ne:d≠g):GoneAt H' g gs:=Äp gvs #[gvs,b Â h1 (Z7 ne),h2]
inductive spStepA(C cT cN cB cF:XH)ÂX:Prop
 |mk ÏE (gs:As Unit) (s:Sd) (o:Out) Èn Íz (h4:gs.length<=63) (h5:StAt H st s) (h6:(ÌK 4000)) (h7:Due ol s o) (h8:(o=.taken->Êh cT)) (h9:(∀n,o=.none n->∀H' dd v,ó->H' dd=Ã ÌX->NameIs H' v (nk n)->ÑT)) (h10:(o=.beneath->Êh cB)) (h11:(o=.far->Êh cF)) (h12:(o=.ok->∀H' ol',Px d g H H'->ÀS OlAt ol'->GoneAt H' g (Gb gs s)->Ap ol s ol'->Äx)):spStepA C cT cN cB cF vs H Q E
abbrev mE:Stmt:=ž 51 1
abbrev A7:Ä Str:=["self","step","word"]
theorem qS:Ŵ A7 "self" "step" mE:= ñ
theorem xU(F:é "step" "Plain.step" mE)(b9:Txt K C)(v8:ÈB 3 "check_names" (spCheckX C cT cN))(u9:ÈB 2 "check_bounds" (spBoundsF C cB cF))(r0:Ι 1 C "bring_in" Ïm (spBring C))(Vk:Ι 2 C "part_item" ßT)(UW:Ι 2 C "join_items" (ÊP "name") (spJoinI C))Öj{dd:XH}(v3:ÁK "FIRST_CHANGED" dd)(TF:Tab K dd FC):Òa 4 (spStepA C cT cN cB cF):=by
 show Ô2 qS [p,d,g,st,ol,gs,sd,o,rfl,_] [p,d,g,st,ol,gs,sd,o,rfl,O,G,l3,lg,hs,htx,du,qT,qN,qB,qF,q];ext ÑU O;ext Á5 S;have lk:=dX R;exists[wd,ws,ps,bs,hst,dat,pr],R6 (ol:=ol) hs;exists[a3,l1,l2],pr.all R;show Àp [n1,n2] pr.news [i1,i2] pr.items;exists _,(b_c (bK (tj v8 (M5 fE) ς (Ğ 1)))
   (b_c (bK (tj u9 (M5 fE) ς (Ğ 1)))
   (Âu 2 qS.nd ħ 1
   (b_1 (ÃR 2 (b_1 (bK (bJ r0 ς (q_a (ħ 1) (ņ (ħ 1) (ÈE 1)))))) (b_1 (ÃR 2 (b_1 (bK (bJ Vk ς (q_a (ħ 1) (ņ (ħ 1) (ÈE 1)))))) (b_1 (ÃR 2 (b_1 (bK (bJ UW ς (ÈE 1)))) (b_1 (ÃR 2 (b_1 (ÃW kh (ħ 1) dF)) (b_1 (bK (bJ j5 ς (q_a (ħ 1) (ņ (ar Ho (GO v3) ↑2) (ð (fg dW ä (eM aj) fq))))))))))))))))))
 refine#[Ν p dx h1 di,γ,d,g,st,kvs,gvs,wd,ws,ps,bs,Ì S,hst,dat,l1,l2,a3,fun⟨i,e1,e2⟩=>? _,λ nn=>#[Ú all H1 s1,λ i w' v e1 e2 hi e3 pre H' dd sm hd=>? _]]
 .exists[n,hn,hl],n1 i e1 e2;have no:∀{A:Prop},(∀m∈sd.news,ÁB m)->A:=λ h=>by rw[h n hn]at hl;cases hl
  cases du with
  |taken m h t=>exact qT rfl
  |none m h f=>exact no h
  |bd r h i b=>exact no h
 .ext ě nn n2 nn ii i1 all;cases du with
  |taken m h t =>rw[nn m h]at t;cases t
  |none m h f =>
   have:=ii m (YW f);have z:=List.find?_some f;ext Ĝ jl z;cases c:look ol m with
   |none=>ext ÁN c
   |some x=>ext è c z z
  |bd r h i bdx =>
   show ÂI hs1 õ hs.ts s1 #[γ,dx,Å,s1 Â h1,di Â,γ,d,g,st,ol,sd,È r,O.same s1,hs1,bdx,htx,ģ e,ģ e,ģ e]
   .ext Ļ;exact qB rfl H1 s1
   .ext Ļ;exact qF rfl H1 s1
   ext Ļ;have q':(∀n,sd≠.gone n)->∀H' ol',But d H H'->ÀS OlAt ol'->Ap ol sd ol'->Äx:=λ ng H' ol' bt o' ap=>q rfl H' ol' (λ b o e n _=>bt Ál) o' (by rw[sK ng];exact G.but bt h4) ap;show ě S1 S.same s1 R1 R.ts (XV s1);ext ŧ y1 s1 h1;have ch:∀{n:Nm} {it:It} {ia:XH} {xs:X1},Κ->∃ia uv pv,aU kvs (nk n)=Ö ia/\H1 ia=äC/\UpAt H1 uv it.up/\PlAt H1 pv it.pl:=fun{n it _ _} hl=>by exists Æf pv,bw R1 hl;exact#[ia,uv,pv,e1,e2,e3,e4]
   cases sd with
   |put n u pl tx =>show ÒA [nv,uv,pv,hst,hn,hu,hp];show Áa (ř e1 at0 ? _) ÍN;exact ØZ (ř e1 at2 (ř e1 at3 (ř e1 at4 #[p,d,g,kvs,gvs,nv,uv,pv,Î tx,nk n,Ì S1,hn,(by exact Úd 500 63 lk l3),λ t H2 s2 e2=>q' nofun Â (But.put (s1.trans s2) _) (iq S1 R1 s2 #[t,uv,È pv,e2,õ hu.ts s2,õ hp.ts s2]) .put])))
   |part n a m pl =>show ÒA [nv,mv,pv,hst,hn,hm,hp];exists[it,hl],Çi i n;show Áa (ř e1 at0 ? _) (Äi aW ? _);refine ÍN;exact ØZ (ř e1 at2 (ř e1 at3 (ř e1 at4 #[p,d,g,ol,nv,mv,pv,n,m,a,pl,it,rfl,O.same s1,hn,hm,hp,hl,∅,by have:=htx n it hl;omega,λ H2 b2 o2=>Ü3 o2 (.part hl)])))
   |join n m =>show ÒA [nv,mv,hst,hn,hm];exists[itn,hln],Çi i n;exists[itm,hlm],Çi i m;show Áa (ř e1 at0 ? _) (Äi aW ? _);show Áa (Äi aW ? _) ÍN;have:=htx n itn hln;have:=htx m itm hlm;exact ØZ (ř e1 at2 #[p,d,g,ol,nv,mv,n,m,itn,itm,rfl,O.same s1,hn,hm,hln,hlm,∅,∅,λ H2 ol' b2 o2 ll=>Ü3 o2 (.join hln hlm ll)])
   |move n u pl =>show ÚQ [nv,uv,pv,hst,hn,hu,hp] (Ûd "move");exact ÛR 0 [uv,pv] 2 (iq (it:={ it with up:=u,pl:=pl }) S1 R1 (s2.trans s3) #[t,uv,È pv,e3,Ě hu.ts XV s2.trans s3,Ě hp.ts XV s2.trans s3]) (.move hl)
   |write n tx =>show Ñ0 "write" 2 tx tx write
   |mark n b =>show Ñ0 "mark" 3 dn b mark
   |due n b =>show Ñ0 "due" 4 wh b due
   |fold n b =>show Ñ0 "fold" 5 fo b fold
   |gone n =>
    show ÒA [nv,hst,hn];ext ÁJ nb hnb hn;exists[gvs',hg',Rg],id G;have eg:gvs'=gvs:=by rw[h3]at hg';ext ÂV hg';ext ÂV hg';exact hg'.symm
    subst eg;have lgv:=dX Rg;show ÚB ÍN;refine#[Å,Çq dx y1 b9.cl b9.nA,nq Â,ř e1 at1 #[ù g,DPut.t (k:=nk n) (s1 Â h3) hnb (ĥ bo),? _]];have tg:=pN (kvs':=bC gvs' (nk n) (.bl true)) (s1 Â h3);ext ÈX dx1 z1 z2 z3 z4 S1;refine q rfl _ ol (λ b o e n1 n2=>Äq n2 s1 e) #[kvs,_,#[#[dx1,Ī (Àx z1 z3) z1],Ī z4 z2,ad,z4],R1.ts tg] #[_,ad,iM Rg rfl] .gone
 .exists[n,f,hn],i2 i w' v e1 e2 hi e3 pre;have nn:=n2 nn;cases du with
  |taken m h t =>rw[nn m h]at t;cases t
  |none m h f' =>ext è f f' f';exact qN n rfl H' dd v sm hd (hn.same sm)
  |bd r h i b =>
   have:=i n (YW f);have z:=List.find?_some f;ext Ĝ jl z;cases c:look ol n with
   |none=>ext ÁN c
   |some x=>ext è c z z
def OlE Ĥ Ë Ã4:Prop:=∃kvs,PlainAt C H p d g kvs []/\Rows H kvs ol
theorem OlE.same(x:ÀB OlE)(s:ó):ÀS OlE ol:=Äp kvs #[kvs,h1.same s,õ h2.ts s]
theorem OlE.ag(x:ÀB OlE):ÀB OlAt/\GoneAt H g []:=Äp kvs #[#[kvs,[],h1,h2],#[[],h1.3,.nil]]
theorem OlE.of(x:ÀB OlAt)(y:GoneAt H g []):ÀB OlE:=by obtain⟨kvs,gvs,⟨h1,h2,h3,h4⟩,R⟩:=x;show ÃL [gvs',e,r] y r;show π h3 e #[kvs,#[h1,h2,h3,h4],R]
inductive spStepF(C cN cB cF:XH)ÂX:Prop
 | mk ÏE (s:Sd) Èn (ãm OlE) (h3:StAt H st s) (h4:(Ä9 n)) (h5:(∀ n∈s.news,ÁB n)) (h6:(ÌK 400)) (h7:((¬ (∀ n∈s.items,Ő ol n)/\∀ H' dd,ó->ÑT) \/
  ((∀ n∈s.items,Ő ol n)/\∃ r,Bd ol s r/\(r=Ã true->Êh cB)/\(r=Ã false->Êh cF)/\(r=none->∀ H' ol',But d H H'->ÀS OlE ol'->Ap ol s ol'->Äx)))):spStepF C cN cB cF vs H Q E
theorem Do(M:ÈB 4 "step" (spStepA C cT cN cB cF)):ÈB ÙQ:=by
 show Áh [cl,f,fd,ok,me,bi] M #[cl,f,fd,ok.imp (Ķ vs H Q E h),me,bi];show Àp [p,d,g,st,ol,s,rfl,O,len,hs,ng,nw,tx,h] h [Oa,G] O.ag;have fin:∀H' ol',Px d g H H'->ÀS OlAt ol'->GoneAt H' g (Gb [] s)->But d H H'/\ÀS OlE ol':=λ H' ol' b o2 g2=>by
  rw[sK ng]at g2;refine#[Č a x e n1,.of o2 g2];ext å c a g
  .subst c;show Àp [gv,e1,r1] G [gv2,e2,r2] g2;ext ÁH r1 r2;rw[e1]at e;ext Œ e2 e
  .exact b a x e n1 c
 have tx':ÌK 4000:=λ n it hl=>Zn (tx n it hl) ⋯;rcases h with⟨nh,q⟩|⟨hh,r,hb,q1,q2,q3⟩
 .obtain⟨n,hn⟩:∃n,s.items.find? (jl ol)=Γ:=by
   cases e:s.items.find? (jl ol)with
   |some n=>exact#[È n]
   |none =>exfalso;refine nh (Ø n hn);have:=YM.mp e n hn;ext Ĝ jl this;simp at this;exact Option.isSome_iff_ne_none.mpr this
  exact#[ÂJ,st,ol,[],s,.none n,Ì Oa,G,len,ZA _,hs,tx',.none n nw hn,nofun,λ m z H' dd v sm _ _=>q H' dd sm,nofun,nofun,nofun]
 .refine#[ÂJ,st,ol,[],s,MD r,Ì Oa,G,len,ZA _,hs,tx',.bd r nw hh hb,Χ,Χ,? _]
  .intro z;cases r with
   |none=>cases z
   |some b=>cases b<;>cases z
  .intro n z;cases r with
   |none=>cases z
   |some b=>cases b<;>cases z
  .intro z;cases r with
   |none=>cases z
   |some b =>
    cases b with
    |true=>exact q1 rfl
    |false=>cases z
  .intro z;cases r with
   |none=>cases z
   |some b =>
    cases b with
    |true=>cases z
    |false=>exact q2 rfl
  .intro z H' ol' b o2 g2 ap;exists[b',o'],fin H' ol' b o2 g2;cases r with
   |none=>exact q3 rfl H' ol' b' o' ap
   |some x=>cases x<;>cases z
inductive spHolds Ĥ(vs:X1)Ë À2:Prop
 |mk Ã4 (nv:V) (n:Nm) (h0:vs=[Æ p,nv]) (h1:ÀB OlE) (h2:œ nv n) (h3:Q (.bl (ÂM n)) H):ÁC spHolds
abbrev kK:Stmt:=ž 51 9
abbrev zO:Ä Str:=["self","name"]
theorem yz:Ŵ zO "self" "name" kK:= ñ
theorem xS(F:é "holds" "Plain.holds" kK)(T:Txt K C):ă 1 Æu (spHolds C):=by
 exists yz
 obtain⟨p,d,g,ol,nv,n,rfl,⟨kvs,S,R⟩,⟨b,rfl,hb⟩,q⟩:=h;ext Á5 S;show Áh _ (b_1 (au (Ça GN 1))) #[Ü,p,Ãx,ù d,ÉL n h2 hb,? _];rw[gY R];ext ŷ
theorem nL{X:Cx}:ge (CXr X.prog X.w) X E0:=λ XU Z H s e s' I x=>μ [ea,t,C,vs,B,H',dc,rfl,os,bare,un,hok,fly,tup,hBt,kb,dd,q] x q.elim
theorem rg{J:Lake.It}(ş N n)(ÝF N)ÍS ÛQ(ht:∀i ys H x H',i<N->Pv i ys H->J.yld i H x H'->∀Y:Ãp X1,Íu x H')(Ëi N):Ã7 g tc J:=by
 ext ßf
 .show Ô1 #[hgo i ys H hlt pv,? _,Ú x H' y]
  .exact åB (Îf ys N ys) (ÏF zs N)
 .show Åg i N #[hst ys H pv,ÑV]
inductive Wd
 |put (u:Option Nm)(pl:XQ)(tx:Str)
 |move ÕR
 |write (n:Nm)(tx:Str)
 |mark (n:Nm)(b:Bool)
 |due (Ãz n Nm w Int)
 |fold (n:Nm)(b:Bool)
 |part (n:Nm)(a:Int)(pl:XQ)
 |join (n m:Nm)
 |take (n:Nm)
 |back (n:Nm)
 |off (k:Int)
 |on (k:Int)
 |none
def Wd.word:Wd->Str
 |.put ì=>"put"
 |.move ì=>"move"
 |.write Â=>"write"
 |.mark Â=>"mark"
 |.due Â=>"due"
 |.fold Â=>"fold"
 |.part ì=>"part"
 |.join Â=>"join"
 |.take _=>"take"
 |.back _=>"back"
 |.off _=>"off"
 |.on _=>"on"
 |.none=>"none"
def Wd.isTurn:ÀX Wd
 |.off _=>true
 |.on _=>true
 |_=>false
def RsAt Ë(r:X1):Þ Wd
 |ÇM=>∃uv pv,r=[uv,pv,Î tx]/\Ðe
 |É4 pl=>∃nv uv pv,r=[nv,uv,pv]/\œ nv n/\Ðe
 |Ãj n=>Êa [nv,Î tx]
 |.mark n b=>Êa [nv,.bl b]
 |.due n w=>Êa [nv,whV w]
 |.fold n b=>Êa [nv,.bl b]
 |Å1 a pl=>∃nv pv,r=[nv,Í a,pv]/\œ nv n/\PlAt H pv pl
 |ÆC m=>∃nv mv,r=[nv,mv]/\œ nv n/\œ mv m
 |.take n=>Êa [nv]
 |.back n=>Êa [nv]
 |.off k=>r=[Í k]
 |.on k=>r=[Í k]
 |.none=>r=[]
theorem RsAt.ts(ϛ RsAt r wd t):RsAt H' r wd:=by
 cases wd with
 |put=>show þ [uv,pv,h1,h3,h4] x #[uv,pv,h1,h3.ts t,h4.ts t]
 |move=>show þ [nv,uv,pv,h1,h2,h3,h4] x #[nv,uv,pv,h1,h2.ts' t,h3.ts t,h4.ts t]
 |write=>show Éo
 |mark=>show Éo
 |due=>show Éo
 |fold=>show Éo
 |part=>show þ [nv,pv,h1,h2,h4] x #[nv,pv,h1,h2.ts' t,h4.ts t]
 |join=>show þ [nv,mv,h1,h2,h3] x #[nv,mv,h1,h2.ts' t,h3.ts' t]
 |take=>show Éo
 |back=>show Éo
 |off=>exact x
 |on=>exact x
 |none=>exact x
def WhAt Ë(wa:XH)(wd:Wd):Prop:=∃r,H wa=Ã (Ò (Î wd.word::r))/\RsAt H r wd
abbrev Dd:=Nm×Wd
def DdAt Ë(v:V)(d:Dd):Prop:=∃(dd c wa:XH) (cs:X1),v=Æ dd/\H dd=Ã (Ò [Í ý.1,Æ c,Æ wa])/\H c=ą tup cs/\atI cs ý.1=Ã (Í ý.2)/\WhAt H wa d.2
theorem DdAt.ts(ϛ DdAt v d t):DdAt H' v d:=μ [dd,c,wa,cs,h1,h2,h3,h4,r,h5,h6] x #[dd,c,wa,cs,h1,t Â h2,t Â h3,h4,r,t Â h5,h6.ts t]
inductive spNameOf  Μ:Prop
 |mk (v:V) (d:Dd) Ða (h2:ÇE t (Ò [Í d.1.1,Í d.1.2])):spNameOf  vs H Q E_
abbrev rY:Stmt:=top 40
abbrev HI:Ä Str:=["deed"]
theorem G3:ŀ HI "deed" rY:= ñ
theorem GC(F:é "name_of" "name_of" rY):ă 1 Ãl spNameOf:=by
 ext äI G3;exists _,(b_1 (au (aJ (ņ (ħ 0) (ð ÞM)))))
 have e1:=Λ XW h2;exact(ř e1 at0 (ř e1 at1 (ř e1 at0 #[c,τ,XW h3,h4,sz rfl,λ t g=>q t _ (af g _) ad])))
theorem NW(wd:Wd):ÈG wd.word "off" "on"=wd.isTurn:=by cases wd<;>rfl
inductive spIsTurn  Μ:Prop
 |mk (v:V) (d:Dd) Ða (h2:∀H',ó->Q (.bl Υ) H'):spIsTurn  vs H Q E_
abbrev rV:Stmt:=top 55
abbrev HD:Ä Str:=["deed"]
theorem G0:ŀ HD "deed" rV:= ñ
theorem Gz(F:é "is_turn" "is_turn" rV):ă 1 Ãl spIsTurn:=by
 ext äI G0;exists _,(b_1 (au (Ñk cP ÈL 0)))
 show Ť (Hl rfl (XW h2) at2 (XW h5) at0 #[Ċ u gu]) #[ù u,ÃZ ad,î,? _];have ei:Ãt (V.str d.2.word) [Î "off",Î "on"]=Υ:=NW d.2;rw[ei];exact q _ (af gu _)
inductive spTurned  Μ:Prop
 |mk (v:V) (d:Dd) (k:Int) Ða (h2:(d.2=.off k\/d.2=.on k)) (h3:ÇE t (Ò [Í d.1.1,Í k])):spTurned  vs H Q E_
abbrev kQ:Stmt:=top 56
abbrev zV:Ä Str:=["deed"]
theorem yG:ŀ zV "deed" kQ:= ñ
theorem xZ(F:é "turned_name" "turned_name" kQ):ă 1 Ãl spTurned:=by
 exists yG
 obtain⟨v,⟨n,wd⟩,k,rfl,⟨dd,c,wa,cs,rfl,h2,h3,h4,r,h5,h6⟩,hw,q⟩:=h;exists _,(b_1 (au (aJ (ņ (ħ 0) (ð (ÈL 0))))))
 have e1:=Λ XW h2;ext Ś hw rfl rfl
 ext ß7
 ext ß7
def iS(ts:As Dd)(d:Dd):As Dd:=match d.2 with
 |.off k=>aK ts (ý.1,k) d
 |.on k=>aK ts (ý.1,k) d
 |_=>ts
def aO(ds:Ä Dd):As Dd:=ds.foldl iS []
theorem Pm ÅB{d:Dd}(h:Ũ Υ):iS ts d=ts:=by exists[n,wd],d;cases wd<;>first|rfl|cases h
theorem Mp(ts:As Dd)(d:Dd):(iS ts d).length<=ts.length+1:=by exists[n,wd],d;cases wd<;>first|exact dZ ì|exact YQ _
theorem Ej(ds:Ä Dd):Ň aO ds<=ds.length:=by
 have gen:∀(ds:Ä Dd) (ts:As Dd),(ds.foldl iS ts).length<=ts.length+ds.length:=λ ds=>by
  induction ds with
  |nil=>intro ts;exact Zf _
  |cons d ds ih =>intro ts;have h1:=ih (iS ts d);have h2:=Mp ts d;rw[List.foldl_cons,Zo];exact â Éj (ÁE Ñ (ã 1) Õi) Ŭ h2 h1
 have:=gen ds [];unfold aO;ext ÃT
theorem bE Îq äj(x:Paired R xs ys):∀(Ãi a α),À8 a->∃b,Ý ys b/\R a b:=by
 induction x with
 |nil=>intro i a h;simp at h
 |@cons p q _ _ r _ ih =>
  intro i a h;cases i with
  |zero=>show Ř h #[È q,r]
  |succ i=>exact ih h
abbrev uV Ë(Ŧ vs X1 ds Dd):Prop:=Ág DdAt H vs ds
abbrev TsAt Ë(kvs:X0)(ts:As Dd):Prop:=Rws (DdAt H) kvs ts
theorem TsAt.ts ÅB(ϛ TsAt kvs ts t):TsAt H' kvs ts:=ÅN x #[z.1,z.2.ts t]
inductive spLast  Μ:Prop
 |mk ÎQ ÎG (h4:∀a tvs H',ó->H' a=ą dT tvs->É2 TsAt tvs (aO ds) a):spLast  vs H Q E_
abbrev mK:Stmt:=top 57
abbrev Be:Ä Str:=["ready","turns","deed"]
theorem kT:ŀ Be "ready" mK:= ñ
theorem Aj(F:é "last_turns" "last_turns" mK)(j3:Åu 1 "is_turn" spIsTurn)(j7:Åu 1 "turned_name" spTurned):Ç0 2 spLast:=by
 show ĩ kT [l,xs,ds,rfl,hl,hd,l3,q];have ll:=ZC hd;exists _,(b_c (Ĕ 1 kT.nd qC)
   (b_c (ÆN (bc ü) (aB (i:=2) kT.nd) (b_1 (aM (Æo ci j3 2) (b_1 (kh hr.units ä (ī j7 (Ğ 2)) Ū)) b_0)))
   (Ás ä)))
 intro a ga;have wa:=af ga (.dT []);refine È8 l #[_,XX (wa Â hl)];refine ÁL qg l (xs:=xs) (λ i Z H'=>ó/\∃(tvs:X0) (o2:Option V),H' a=ą dT tvs/\TsAt H' tvs (aO (ds.take i))/\Z=[Ö l,Ö a,o2])
  #[wa,[],none,ad,.nil,rfl] (Ä2 (Âf hl)) Ĳ
 .rintro i v Z H' hv ⟨sm,tvs,o2,ha,ht,rfl⟩;exists[d,hdi,hdd],bE hd hv;have hi:i<ds.length:=Àg hdi;have et:aO (ds.take (i+1))=ÝB:=by unfold aO;rw[List.take_succ,hdi,List.foldl_append];rfl
  have tl:tvs.length<=63:=by have:=Ej (ds.take i);ext Â5 ZJ;have:=dX ht;omega
  refine#[Å,ś v d,õ hdd.ts sm,λ H1 s1=>Àk];cases c:Υ with
  |false =>refine aF #[sm.trans s1,tvs,_,s1 Â ha,È ? _];rw[et,Pm c];exact õ ht.ts s1
  |true =>
   obtain⟨k,hk⟩:∃k,d.2=.off k\/d.2=.on k:=by
    exists[n,wd],d;cases wd with
    |off k=>exact#[k,Ó rfl]
    |on k=>exact#[k,ā rfl]
    |_=>cases c
   have es:ÝB=aK (aO (ds.take i)) (ý.1,k) d:=by exists[n,wd],d;rcases hk with hk|hk<;>(ext Âw hk;subst hk;rfl)
   refine aP #[Àj,v,d,È k,Ě hdd.ts XV sm.trans s1,hk,λ t H2 s2 e2=>#[ù a,DPut.t (k:=nk (ý.1,k)) (į s2 s1 ha) e2 (ĥ bo),? _]];have s12:=sm.trans (s1.trans s2);have td:TS H2 (ß H2 a (.dT (bC tvs (nk (ý.1,k)) v))):=pN (į s2 s1 ha);refine#[cD s12 ga,_,_,ad,? _,rfl];rw[et,es];exact TsAt.ts (iM (Ě ht.ts XV s1.trans s2) (õ hdd.ts s12)) td
 .rintro Z H' ⟨sm,tvs,o2,ha,ht,rfl⟩;rw[ll,ZO]at ht;exact#[Å,q a tvs H' sm ha ht]
def QN:Option Dd->Bool
 |Ã (_,.off _)=>true
 |_=>false
def cU(d:Dd)(ts:As Dd):Bool:=! Υ&&QN (look ts ý)
inductive spIsOff  Μ:Prop
 |mk (v:V) (d:Dd) Ō (tvs:X0) (ts:As Dd) (h0:vs=[v,Æ a]) (h1:DdAt H v d) (h2:H a=ą dT tvs) (h3:TsAt H tvs ts) (h4:Äh Q (.bl (cU d ts))):spIsOff  vs H Q E_
theorem Lm(d:Dd):decide (V.str d.2.word=V.str "off")=QN (Ù d):=by exists[n,wd],d;cases wd<;>rfl
abbrev uM:Stmt:=top 58
abbrev Kh:Ä Str:=["deed","turns","name"]
theorem zB:Ŵ Kh "deed" "turns" uM:= ñ
theorem Jc(F:é "is_off" "is_off" uM)(a7:Âg spNameOf)(j3:Åu 1 "is_turn" spIsTurn):ă 2 ["deed","turns"] spIsOff:=by
 show ĩ zB [v,d,a,tvs,ts,rfl,hd,ha,ht,q];exists _,(Èz 2 zB.nd a7 0
   (b_1 (au (dC (AK (ϕ j3 0)) (dC (GN hr.units Ū ä) (dP (cP bW (ar aw (ar aw (cH hr.units ä Ū) aj) aj) aA)))))))
 show Ť #[Å,v,d,Ì hd,ÇG t e1] #[Å,v,d,rfl,õ hd.ts s1,Ø H2 s2];have s12:=s1.trans s2;have q':=λ H' s=>q H' s;ext Ĝ cU q';cases c:Υ with
 |true =>rw[c]at q';exact#[Ü,aF (q' H2 s12)]
 |false =>
  rw[c]at q';show Ť #[Ü,aP ? _] #[Ü,ù a,DGet.t (k:=nk ý) (s12 Â ha) (s2 Â e1),? _];cases e:look ts ý with
  |none =>rw[kg ht e];rw[e]at q';exact ÅG (q' H2 s12)
  |some d' =>exists[v',f1,dd,c',wa,cs,rfl,h2,h3,h4,r,h5,h6],bw ht e;rw[f1];rw[e]at q';refine#[Å,aP ? _];refine#[Ü,a,Æ dd,rfl,f1▸È0 d (s12 Â ha) (s2 Â e1),dd,τ,À7 XW s12 h2,at2,wa,_,ÀW,À7 XW s12 h5,È at0,? _];rw[Lm];exact q' H2 s12
def iR(n:Nm):Wd->Option Sd
 |ÇM=>Ã (ÆQ u tx)
 |.move m u pl=>Ã (.move m u pl)
 |Ãj m=>Ã (Ãj m)
 |.mark m b=>Ã (.mark m b)
 |.due m w=>Ã (.due m w)
 |.fold m b=>Ã (.fold m b)
 |.part m a pl=>Ã (.part m a n pl)
 |.join m o=>Ã (.join m o)
 |_=>none
inductive spStepOf  Μ:Prop
 |mk (v:V) (d:Dd) (s:Sd) Ða (h2:iR ý d.2=Ã s) (h3:∀st H',ó->É2 StAt st s st):spStepOf  vs H Q E_
theorem Mv{wd:Wd}Ü5:ÂU wd.word "put"/\ÂU wd.word "part":=by
 cases wd with
 |put u pl tx=>show ĕ rfl (h u pl tx)
 |part n a pl=>show ĕ rfl (h2 n a pl)
 |_=>exact#[Àa,Àa]
theorem Me{n:Nm}Ü5(hs:Ç5)(x:WhAt H wa wd):StAt H wa s:=by
 exists[r,h5,h6],x;cases wd with
 |put u pl tx=>show ĕ rfl (h u pl tx)
 |part n a pl=>show ĕ rfl (h2 n a pl)
 |move=>cases hs;show þ [nv,uv,pv,rfl,a1,a2,a3] h6 #[nv,uv,pv,h5,a1,a2,a3]
 |write=>ext ÑX
 |mark=>ext ÑX
 |due=>ext ÑX
 |fold=>ext ÑX
 |join=>cases hs;show þ [nv,mv,rfl,a1,a2] h6 #[nv,mv,h5,a1,a2]
 |_=>cases hs
abbrev rZ:Stmt:=top 61
abbrev HJ:Ä Str:=["deed","what"]
theorem wH:ŀ HJ "deed" rZ:= ñ
theorem GD(F:é "step_of" "step_of" rZ)(a7:Âg spNameOf):ă 2 Ãl spStepOf:=by
 exists wH
 obtain⟨v,⟨n,wd⟩,sd,rfl,hd,hs,q⟩:=h;exists[dd,c,wa,cs,rfl,h2,h3,h4,r,h5,h6],id hd;exists _,(Âu 1 wH.nd ħ 0
   (b_c (Åt aM 1 (b_1 (au (aI jm (aJ (ņ aA (Èc 0))) ÑN))) b_0)
   (b_c (Åt aM 1 (b_1 (au (aI jm (aI jm (fg dW ä fq (eM aj)) (aJ (Èc 0))) ÑN))) b_0)
   (Ás ä))))
 ext Üj;by_cases c1:∃u pl tx,wd=ÇM
 .show ÃL [u,pl,tx,rfl] c1 hs;exists ÀQ uv pv a1 a2,h6;show Ť (ř e5 at0 #[ľ,cS ? _]) #[Å,Ł _ hd,λ t H1 s1 e1=>#[Ċ y gy]];have wy:=af gy (Í1 Î "put" t);refine#[Ü,ù wa,į wy s1 h5,λ z H2 s2 e2=>#[y,z,ë,s2 Â ad,e2,sz rfl,Č st H3 s3 e3]];have sm:Same H H3:=Ě s1.trans wy.trans s2.trans s3;exact q st H3 sm #[Æ t,uv,pv,e3,#[È t,s3 Â (į s2 wy e1)],õ a1.ts sm,õ a2.ts sm]
 by_cases c2:∃m a pl,wd=.part m a pl
 .show ÃL [m,a,pl,rfl] c2 hs;exists ÀQ nv pv a1 a2,h6;show Áa (ř e5 at0 #[ľ,aW (Àa) ? _]) (ř e5 at0 #[ÐL]);show Ť #[Ü,Ł wa h5,ÇG z e1] #[Å,ù _,õ hd.ts s1,λ t H2 s2 e2=>#[Ċ y gy]];show ÂI wy af gy (Ò [Æ t]) #[z,y,ë,į wy s2 e1,ad,sz rfl,Č z2 H3 s3 e3];have s03:Same H H3:=Ě s1.trans s2.trans wy.trans s3;refine#[Ü,ù wa,s03 Â h5,λ z3 H4 s4 e4=>#[z2,z3,ë,s4 Â e3,e4,sz rfl,ÐB st]];have sm:Same H H5:=s03.trans (s4.trans s5);exact q st H5 sm #[nv,Æ t,pv,e5,NameIs.ts' a1 (XV sm),#[È t,s5 Â (s4 Â (į s3 wy e2))],õ a2.ts sm]
 have n1:∀u pl tx,wd≠ÇM:=λ u pl tx z=>c1 #[u,pl,tx,z];have n2:∀n a pl,wd≠Å1 a pl:=λ n a pl z=>c2 #[n,a,pl,z];exists[w1,w2],Mv n1 n2;show Áa (ãj w1) (ãj w2);exact#[Å,q wa H (Same.refl H) (Me n1 n2 hs #[r,h5,h6])]
theorem yH(c:XH)(b:XG):Æw c b c=true:=Ĵ
structure ErF(K:XY)(cN cB cF:XH)(bN bB bF:XG):Prop where
 eN:ExC K cN bN
 eB:ExC K cB bB
 eF:ExC K cF bF
 bn:Æw cB bB cN=false
 fn:Æw cF bF cN=false
 fb:Æw cF bF cB=false
def hV(ol:Ol)(s:Sd):Prop:=∀n∈s.items,Ő ol n
structure Ready(ol:Ol)(s:Sd):Prop where
 nw:∀n∈s.news,ÁB n
 bd:hV ol s->∃r,Bd ol s r
 ng:Ä9 n
structure Small(ol:Ol):Prop where
 len:ol.length<=63
 txt:ÌK 400
inductive WordR(ol:Ol)(s:Sd):Str->Þ Ol
 |none:¬hV ol s->WordR ol s "none" ol
 |beneath:hV ol s->ÕQ Bd (Ù true) "beneath" ol
 |far:hV ol s->ÕQ Bd (Ù false) "far" ol
 |done {ol':Ol}:hV ol s->Bd ol s none->ÕQ Ap ol' "done" ol'
inductive spWordOf Ĥ(vs:X1)Ë À2:Prop
 |mk ÏE (s:Sd) Èn (h1:ÀB OlE) (h2:Small ol) (h3:StAt H st s) (h4:Ready ol s) (h5:∀w ol' H',WordR ol s w ol'->But d H H'->ÀS OlE ol'->Q (Î w) H'):ÁC spWordOf
abbrev jJ:Stmt:=top 62
abbrev xm:Ä Str:=["outline","step"]
theorem wI:Ŵ xm "outline" "step" jJ:= ñ
theorem wf(F:é "word_of_step" "word_of_step" jJ)(r6:ÈB ÙQ)(R:ErF K cN cB cF bN bB bF)(v7:ÁK "NoItem" cN)(p7:ÁK "Beneath" cB)(VY:ÁK "Far" cF):ă 5 ["outline","step"] (spWordOf C):=by
 have WU:=R.eN;have WS:=R.eB;have W5:=R.eF;show ĩ wI [p,d,g,st,ol,sd,rfl,O,sm,hs,rd,q];exists[kvs,S,_],id O;ext Á5 S;exists _,(b_c (RW rfl rfl (Pe (Sn r6 ς (Ğ 1))) (KK WU v7 (ę (Ás aA)) (KK WS p7 (ę (Ás aA)) (KK W5 VY (ę (Ás aA)) SD))))
   (Ás aA))
 refine#[Ν p dx h1 di,γ,d,g,st,ol,sd,Ì O,sm.len,hs,rd.ng,rd.nw,sm.txt,? _];by_cases c:hV ol sd
 .exists[r,hb],rd.bd c;refine .inr #[c,r,hb,Ú e H1 s1,Ú e H1 s1,ŗ e H1 ol' b1 o1 ap]
  .ext Ļ;exact àO cB bB R.eB R.bn beneath
  .ext Ļ;exact#[cF,bF,Ì R.eF,ÄL R.fn aF (àO cF bF R.eF R.fb far)]
  .ext Ļ;exact q ì (.done c hb ap) b1 o1
 .refine Α #[c,Ú H1 dd s1];exact#[cN,bN,Ì R.eN,Ŕ yH aP (q ì (.none c) (But.of s1) (O.same s1))]
def SoAt Ë(sv:V):Ë0 Sd
 |none=>sv=.non
 |Ã s=>∃st,sv=Æ st/\StAt H st s
theorem SoAt.ts(ϛ SoAt sv so t):SoAt H' sv so:=by
 cases so with
 |none=>exact x
 |some s=>show þ [st,h1,h2] x #[st,h1,h2.ts t]
def AH(ol:Ol):ÀX Wd
 |.put (Ù m) Â=>!(ÂM m)
 |_=>false
inductive PlayR(ol:Ol)(n:Nm):Wd->Str->Æ0 Sd Ol
 |none:PlayR ol n Àl "done" none ol
 |take {m:Nm}:PlayR ol n (.take m) Õo
 |back {m:Nm}:PlayR ol n (.back m) Õo
 |top {m:Nm} {pl:XQ} {tx:Str}:ÁB m->PlayR ol n (.put (Ù m) pl tx) "top" (Ù (ÆQ none tx)) (aK ol n (ÌM none pl tx))
 |step {wd:Wd} {s:Sd} {w:Str} {ol':Ol}:Ç5->Ņ AH ol wd->WordR ol s w ol'->PlayR ol n wd w (Ïo w "done" Ã s) ol'
inductive spPlay Ĥ(vs:X1)Ë À2:Prop
 |mk (v:V) (dd:Dd) Ã4 (h0:vs=[v,Æ p]) (h1:DdAt H v dd) (h2:ÀB OlE) (h3:Small ol) (h4:dd.2.isTurn=false) (h5:(ÐE dd)) (h6:∀w so ol' t sv H',Æh dd->But d H H'->ÀS OlE ol'->H' t=Ã (Ò [Î w,sv])->É2 SoAt sv so t):ÁC spPlay
theorem DC{wd:Wd}(h:Ũ wd.isTurn):wd=.none\/(∃m,wd=.take m\/wd=.back m)\/∃s,Ç5:=by
 cases wd with
 |none=>exact Α rfl
 |take m=>show ſ (Ó #[m,Ó rfl])
 |back m=>show ſ (Ó #[m,ā rfl])
 |off k=>cases h
 |on k=>cases h
 |_=>show ſ (ā #[Å])
theorem Po(h:Ç5):ÂU wd.word "none"/\ÈG wd.word "take" "back"=false:=by cases wd<;>first|exact#[Àa,rfl]|cases h
theorem Pq{w:Str}(h:WordR ol s w ol'):w="done"\/ÂU w "done":=by
 cases h with
 |done=>exact Α rfl
 |_=>exact .inr ⋯
abbrev CQ:Stmt:=top 60
abbrev PD:Ä Str:=["deed","outline","what","step","word"]
theorem pI:Ŵ PD "deed" "outline" CQ:= ñ
theorem On(F:é "play" "play" CQ)(V0:Ι 1 C "holds" Æu (spHolds C))(r6:ÈB ÙQ)(VF:Åu 2 "step_of" spStepOf)(v9:Ŀ 5 "word_of_step" ["outline","step"] (spWordOf C)):
  Î8 P K 6 f ["deed","outline"] (spPlay C):=by
 exists pI
 obtain⟨v,⟨n,wd⟩,p,d,g,ol,rfl,hd,O,sm,nt,rd,q⟩:=h;show É1 [da,c,wa,cs,rfl,h2,h3,h4,r,h5,h6] hd [kvs,S,_] O;ext ÈX dx y1 y2 y3 y4 S;exists _,(Âu 2 pI.nd ħ 0
   (b_c (Åt aM 2 (b_1 (au (Är ð cQ))) b_0)
   (b_c (aM (Ñk aE ħ 2) (b_1 (au (aJ (ņ (Cy (ci (ÃE V0 ä (ð (ħ 2)))) aA aA) (ð cQ))))) b_0)
   (Èz 3 pI.nd VF 0
   (b_c (CN (aM (t_w (Åt hJ 2 (hJ (aE kf (ħ 2) cQ) (gN (fJ (ci (ÃE V0 ä (ð (ħ 2))))))))) (b_c (Ĕ 3 pI.nd (aJ (q_a aA (q_a (ħ 3) (ņ cQ (ÈE 3))))))
   (b_c (bK (tj r6 nL ↑99 ä (Ğ 3)))
   (b_1 (au (Är Ğ 3))))) b_0))
   (b_c (Ĕ 4 pI.nd (Å3 v9 1 3))
   (b_1 (au (aJ (ÀO 4 (ð (Cy (aE bW ↑4 aA) ↑3 cQ))))))))))))
 ext Üj;rcases DC (n:=n) nt with rfl|⟨m,hm⟩|⟨sd,hs⟩
 .refine(ř e5 at0 #[ÐL]);exact#[sz rfl,λ t gt=>q ì t Â Àl (But.of (af gt _)) (O.same (af gt _)) ad rfl]
 .have key:∃nv,r=[nv]/\œ nv m/\ÂU wd.word "none"/\Ď inV (Î wd.word) [Î "take",Î "back"]/\PlayR ol n wd Õo:=by
   ext Ś hm rfl rfl
   .exists[nv,e,hn],h6;exact#[nv,e,hn,Àa,rfl,.take]
   .exists[nv,e,hn],h6;exact#[nv,e,hn,Àa,rfl,.back]
  exists[nv,rfl,hn,w1,w2,pr],key;ext ág;have ei:Ď Ãt (V.str wd.word) [Î "take",Î "back"]:=w2;rw[ei];show ÄY aP #[γ,dx,Å,wu Â y1,di Â,vix rfl (À7 XW wu h5) at1 #[ÂJ,ol,nv,m,rfl,O.same wu,hn.same wu,Å,? _]];cases c:ÂM m with
  |true =>ext ÞT aP
  |false =>ext ÞT aF
 .exists[w1,w2],Po hs;have ready:=rd sd hs;ext ág;have ei:Ņ Ãt (V.str wd.word) [Î "take",Î "back"]:=w2;rw[ei];show ÄY aF #[Å,_,_,È sd,hd.ts (XV wu),hs,Č st H2 s2 hst];have s02:Same H H2:=wu.trans s2;have O2:=O.same s02;ext ŧ y2' s02 y1;have e52:=Λ XW (s02 Â h5);refine BR (λ Z H'=>ó/\StAt H' st sd/\Ņ AH ol wd/\Z=[Ö da,Ö p,Ö wa,Ö st,none]) Ĳ
  .intro RJ hRJ;by_cases c1:∃u pl tx,wd=ÇM
   .show ÃL [u,pl,tx,rfl] c1 hs;exists ÀQ uv pv a1 a2,h6;refine(ř e52 at0 #[ÐL]);cases u with
    |none =>ext ÇS uv a1;exact(ř e52 at1 #[ľ,jR rfl (aF (hRJ Â #[s02,hst,î]))])
    |some m =>
     ext ÁJ mb hmb a1;show Ť (ř e52 at1 #[ľ,ØG]) #[Ν p dx y2' di,ř e52 at1 #[ÂJ,ol,_,m,Ì O2,#[È mb,s02 Â hmb],ţ]];cases c:look ol m with
     |some it=>exact aF (hRJ Â #[s02,hst,(by show Ũ (!(ÂM m));rw[c];rfl),rfl])
     |none =>
      ext Ħ aP;exists[nv,uv',pv',f1,f2,f3,f4],id hst;have ef:=Λ XW f1;show Âz (ř ef at1 (ř ef at3 (ř ef at4 (ÇC s' gs)))) ws gs (Ò [Î "put",nv,.non,pv',Î tx]);have s03:=s02.trans ws;have est:StAt (ß H2 s' (Ò [Î "put",nv,.non,pv',Î tx])) s' (ÆQ none tx):=#[nv,.non,pv',ad,f2.same ws,rfl,õ f4.ts ws]
      refine#[γ,ÙZ ws y2',s',ol,ÆQ none tx,rfl,O.same s03,sm.len,est,nofun,ready.nw,sm.txt,ā #[(λ m hm=>by simp[Sd.items]at hm),none,.put,nofun,nofun,ŗ _ H3 ol' b3 o3 ap]];cases ap;show Âz #[Å,Ċ t gt] wt gt (Ò [Î "top",Æ s']);have t3:=À7 b3.ts s03 y2;exact q ì t Â (.top c) (((But.of s03).trans b3).trans (But.of wt)) (o3.same wt) ad #[È s',(est.ts t3).ts (XV wt)]
   .have nn:ÂU wd.word "put"/\Ņ AH ol wd:=by
     cases wd with
     |put u pl tx=>show ĕ #[u,pl,È tx] c1
     |_=>exact#[Àa,rfl]
    exact(ř e52 at0 #[ľ,aW nn.1 (aF (hRJ Â #[s02,hst,nn.2,rfl]))])
  .rintro Z H3 ⟨s03,hst3,nt',rfl⟩;refine#[Ü,ÂJ,st,ol,sd,rfl,O.same s03,sm,hst3,ready,ŗ w ol' H4 wr b4 o4];have pr:=PlayR.step hs nt' wr;have t4:=À7 b4.ts s03 y2;rcases Pq wr with rfl|nw
   .rw[XC rfl]at pr;refine#[Ü,ÐL];exact#[Ò2,ß8 #[È st,(hst3.ts t4).ts (XV (af gt _))]]
   .rw[XB λ z=>nw (ZZ V.str z)]at pr;refine#[Ü,ľ,aW nw ? _];exact#[sz rfl,ß8 rfl]
abbrev bu:=Nm×Str×Option Sd
def turned:Dd->Nm
 |((i,_),.off k)=>(i,k)
 |((i,_),.on k)=>(i,k)
 |(n,_)=>n
def bp(ds:Ä Dd):Ä Nm:=ũ ds.filter (λ d=>Υ) (·.1)
inductive Runs(ts:As Dd)(tn:Ä Nm):Ol->Ä Dd->ÃI bu
 |nil {ol:Ol}:Á7 ÄI
 |off ÉV {rs:Ä bu}:Ď cU d ts->Á7 ds rs->Á7 (À6) ((ý,"off",none)::rs)
 |turn ÉV {rs:Ä bu}:Ņ cU d ts->Ą Υ->Á7 ds rs->Á7 (À6) ((ý,if turned d∈tn then"turn" else"done",none)::rs)
 |play Ñg {d:Dd} ÃC {rs:Ä bu} ÛJ:Ņ cU d ts->Ũ Υ->Æh d->Runs ts tn ol' ds rs->Á7 (À6) ((ý,w,so)::rs)
def iJ(ts:As Dd):Ol->ÃI Dd
 |_,[]=>True
 |ol,À6=>((åe)->iJ ts ol ds)/\(Ņ cU d ts->Ũ Υ->Small ol/\(ÐE d)/\∀w so ol',å0)
def RoAt Ë(v:V)(r:bu):Prop:=ã1 sv SoAt
theorem RoAt.ts(ϛ RoAt v r t):RoAt H' v r:=Ëm a nv sv x t h3.ts'
inductive spPlayed  Μ:Prop
 |mk ÎQ ÎG (h4:iJ (aO ds) [] ds) (h5:Öc RoAt rs):spPlayed  vs H Q E_
theorem jk ÈP:Dt H (.tuple [Í n.1,Í n.2]) v:=by ext ļ b e h;ext ÀD Dt DtAll;exact#[ù b,Ó e,ë,ë,rfl]
def nmD(n:Nm):XZ:=.tuple [Í n.1,Í n.2]
theorem Cf(x:Paired (λ v n=>œ v n) vs ns):DtAll H (ns.map nmD) vs/\ú PyData.canLayAll0 (ns.map nmD):=by
 induction x with
 |nil=>exact#[Ĉ DtAll,rfl]
 |@cons p q _ _ r _ ih =>
  refine#[Χ]
  .ext ÀD Zu DtAll;exact#[ù _,jk r,ih.1]
  .simp only[Zu,PyData.canLayAll0,ih.2];simp[nmD,PyData.canLay0,PyData.canLayAll0]
theorem IR(Ŧ k Nm ns Nm):((ns.map nmD).any λ d=>PyData.eqv d (nmD k))=decide (k∈ns):=by
 induction ns with
 |nil=>rfl
 |cons n ns ih =>
  rw[Zu,Xu,ih];have:PyData.eqv (nmD n) (nmD k)=Ài k n:=by
   have:=iL [n.1,n.2] [k.1,k.2];unfold nmD;rw[ãO n,ãO k,this,decide_eq_decide];ext ØP Prod.ext z1.symm z2.symm
   .rintro rfl;rfl
  rw[this,Xt];simp
theorem bL ē{xs:X1}à(ÝF xs.length)ÍS(hl:∀i ys H,Pv i ys H->SqL K H a xs)(ht:∀i ys H x,À8 x->Pv i ys H->∀Y:Ãp X1,Íu x H)(Ëi xs.length):Ã7 g tc (Itl K a):=by refine rg (N:=xs.length) Pv hz hn h0 (λ i ys H hi z=>#[xs,ÁO,hl i ys H z,Ĉ hi]) (λ ys H z=>#[xs,hl _ ys H z,Zf _]) (λ i ys H x H' hi z y Y hY=>? _) hq;obtain rfl:H'=H:=y.1;exact ht i ys H' x (y.2 xs (hl i ys H' z)) z Y hY
theorem vN ÃC(Ãi d Dd)(h:Ý ds d):bp (ds.take (i+1))=bp (ds.take i)++if Ą Υ then[ý]else[]:=by unfold bp;rw[List.take_succ,h,Ys,Zy];show _++(List.filter _ [d]).map _=_;cases c:Υ<;>simp[c]
abbrev uN:Stmt:=top 59
abbrev Ki:Ä Str:=["ready","turns","turning","outline","told","deed","outcome"]
theorem eY:ŀ Ki "ready" uN:= ñ
theorem Jd(F:é "played" "played" uN)(j9:ÂW 2 "last_turns" spLast)(j3:Åu 1 "is_turn" spIsTurn)(a7:Âg spNameOf)(j7:Åu 1 "turned_name" spTurned)(V5:Ŀ 2 "is_off" ["deed","turns"] spIsOff)(WH:Ŀ 6 "play" ["deed","outline"] (spPlay C))(Uv:àt ύ (spInit C)):Ç0 7 spPlayed:=by
 show Øq eY;have ll:=ZC hd;exists _,(Èz 1 eY.nd j9 0
   (b_c (Èe 2 eY.nd "deed" ÚI (bc ü) (ÃV (Àn Ãl)) Àe (Ĭ (nX (Æo ci j3 0))) (Æo Ĭ a7 0))
   (b_c (Ĕ 3 eY.nd (EZ Uv ↑99))
   (Âu 4 eY.nd bX ai
   (b_c (cW ZU rfl (bc ü) (ÁX 5 eY.nd) (b_c (CN (aM (ci (Å3 V5 5 1)) (b_1 (Ĕ 6 eY.nd (Är ð cQ))) (b_1 (aM (ci (ϕ j3 5)) (b_1 (Ĕ 6 eY.nd (aJ (q_a (Cy (aE (SZ hr) (ϕ j7 5) Ū) aA aA) (ð cQ))))) (b_1 (Ĕ 6 eY.nd (Å3 WH 5 3)))))))
   (b_1 (bK (iF ↑4 (aI jm (aJ (Èc 5)) ↑6))))))
   (Ê3 4))))))
 show ϐ #[Å,l,xs,È ds,hl,hd,l3,λ a tvs H1 s1 ha ht=>ł];show ϐ #[Å,È l,#[_,XX (s1 Â hl)],? _];refine bL (Ël ys H1 ys.length (λ v n=>NameIs H' v (nk n)) (bp (ds.take i))) ∅ Çk (ÔZ ys (Âf (s1 Â hl))) Ĳ
 .ext Îg ys ly pr;exists[d,hdi,hdd],bE hd hv;have s1':=s1.trans sm;refine#[Å,ś v d,õ hdd.ts s1',λ H2 s2=>Àk];cases c:Υ with
  |false =>refine aF (ÀM #[sm.trans s2,ÄV ly,? _]);rw[vN hdi,c,ÃN,ZQ];exact Ϡ pr z z.same s2
  |true =>refine aP #[Å,ś v d,Ě hdd.ts XV s1'.trans s2,λ t H3 s3 e3=>ÀM (Ê9 (s2.trans s3) ly)];rw[vN hdi,c,XC rfl];exact YR (Ϡ pr z z.same (s2.trans s3)) #[È t,e3]
 rintro nvs tl H2 ⟨sm2,lnv,prn⟩ gtl;rw[ll,ZO]at prn;show Äd wtl gtl (Õ nvs) etl H2 tl;have s02:Same H (ψ H2 tl nvs):=s1.trans (sm2.trans wtl);have ha2:=į wtl sm2 ha;have ht2:=Ě ht.ts XV sm2.trans wtl;have prn2:=ÞH prn wtl;generalize (ψ H2 tl nvs)=H3 at etl s02 ha2 ht2 prn2 ⊢;ext Ö6;show Ûg H3 (upd (upd H3 dx (.own x)) x (.ins C dx []))
 have d3:ê H3 d:=s00.free fd0;refine ł;show ϐ #[Ċ to gto];show Äd wto gto (Õ []) eto H4 to;have s35:Same H3 (ß H4 to ń):=s34.trans wto;have O5:OlE C (ß H4 to ń) x d g []:=#[[],S4.same wto,.nil]
 have ndt:d≠to:=λ z=>by have:=S4.dc;ext Ţ z gto this
 have t3:ê H3 to:=s34.free gto;generalize ß H4 to ń=H5 at eto s35 O5 ⊢;refine ł;have kH:∀{H'},(ÐW H3 H')->ó:=λ k b o e=>k b o (s02 ŋ);show ϐ #[Å,È l,#[_,XX (į s35 s02 hl)],? _];refine ÁL gq l (xs:=xs) (λ i Z H'=>Same H3 H'/\∃ (ol:Ol) (ys:X1) (rs:(Ä bu)) (o5 o6:Option V),OlE C H' x d g ol/\iJ (aO ds) ol (ds.drop i)/\ĺ H' to ys/\ys.length=i/\Ág RoAt H' ys rs/\(∀ rs',Ì6 ol (ds.drop i) rs'->Ì6 [] ds (rs++rs')) /\
   Z=[Ö l,Ö a,Ö tl,Ö x,Ö to,o5,o6])
  #[s35,[],[],[],none,none,O5,safe,È eto,.nil,λ rs' z=>z,rfl] (Ä2 (Âf (s02 Â hl))) Ĳ
 .rintro i v Z H' hv ⟨sm,ol,ys,rs,o5,o6,O,sf,hto,ly,pr,run,rfl⟩ DL hDL;exists[dd,hdi,hdd],bE hd hv;have hi:i<ds.length:=Àg hdi;ext àY ds.drop dd hdi
  rw[hdr]at sf run;have hd3:DdAt H3 v dd:=õ hdd.ts s02;have ddt:d≠to:=ndt;exists[kvs0,S0,_],id O;refine BR (λ Z H2=>∃ (u:XH) (w:Str) (sv:V) (so:Option Sd) (ol':Ol),Same H3 H2/\ĺ H2 to ys/\Ág RoAt H2 ys rs/\OlE C H2 x d g ol'/\iJ (aO ds) ol' (ds.drop (i+1))/\H2 u=Ã (Ò [Î w,sv])/\SoAt H2 sv so /\
    (∀ rs',Ì6 ol' (ds.drop (i+1)) rs'->Ì6 ol (dd::ds.drop (i+1)) ((dd.1,w,so)::rs'))/\Z=[Ö l,Ö a,Ö tl,Ö x,Ö to,Ľ,Ö u]) Ĳ
  .intro RJ hRJ;refine#[Ü,v,dd,a,tvs,aO ds,rfl,õ hd3.ts sm,ÂC ha2,õ ht2.ts sm,λ H6 s6=>Àk];have s36:=sm.trans s6;have prs:∀{H7},Same H' H7->Ág RoAt H7 ys rs:=λ s7=>Ϡ pr z z.ts (XV s7);cases c:cU dd (aO ds)with
   |true=>exact aP #[sz rfl,λ u gu=>hRJ Â #[u,"off",.non,ÜD s36.trans s6 s6.trans inl c,λ rs' z=>.off c z,rfl]]
   |false =>
    show ÄY aF #[Å,ś v dd,hd3.ts (XV s36),λ H7 s7=>#[Å,? _]];ext ě s67 s6.trans s7 s37 sm.trans s67;cases c2:dd.2.isTurn with
    |true =>
     ext Ħ aP;obtain⟨k,hk⟩:∃k,dd.2=.off k\/dd.2=.on k:=by
      exists[n,wd],dd;cases wd with
      |off k=>exact#[k,Ó rfl]
      |on k=>exact#[k,ā rfl]
      |_=>cases c2
     have tk:turned dd=(dd.1.1,k):=by ext Ðk i j wd dd;rcases hk with hk|hk<;>(ext Âw hk;subst hk;rfl)
     refine#[Å,v,dd,È k,õ hd3.ts s37,hk,Č t H8 s8 e8];ext ě s78 s67.trans s8 s38 sm.trans s78;exists[dt1,dt2],Cf (ÞH prn2 s38);refine#[Å,tl,nvs,nmD (dd.1.1,k),Å,À7 XX s38 etl,jk (n:=(dd.1.1,k)) #[È t,e8],dt1,ás,Ł dt2 ? _];have en:(if Ą false then ! Û3 else Û3)=decide (turned dd∈bp ds):=by rw[tk];exact IR Â
     rw[en];refine Ám nY c3 c3
     .exact áA "turn" XC
     .exact áA "done" XB
    |false =>ext Ħ aF;exists[small,rdy,nxt],sf.2 c c2;refine#[Ü,v,dd,x,d,g,ol,rfl,õ hd3.ts s37,O.same s67,small,c2,rdy,λ w so ol' t sv H8 pl b8 o8 e8 so8=>? _];have k8:Same H3 H8:=λ b o e=>b8 b o (s37 ŋ) (aq e d3);have t8:=À7 b8.ts s67 S0.dc;exact hRJ Â #[t,w,sv,so,ol',k8,b8 Â (s67 Â hto) (Z7 ndt),Ϡ (prs s67) z z.ts t8,o8,nxt ì pl,e8,so8,λ rs' z=>.play c c2 pl z,rfl]
  .rintro Z H2 ⟨u,w,sv,so,ol',s32,hto2,pr2,O2,sf2,eu,eso,run2,rfl⟩;show Âz #[Ån hto2,Å,ś v dd,õ hd3.ts s32,λ t H6 s6 e6=>ÇC y gy] wy gy (Ò [Æ t]);refine#[Å,y,u,ë,ad,į wy s6 eu,sz rfl,Č z H7 s7 e7];have s27:Same H2 H7:=s6.trans (wy.trans s7);refine#[to,ÀW,s27 Â hto2,ĥ bo,? _];have tl':TS H7 (ß H7 to (Õ (ys++ġ z))):=λ b zs e=>Ī (Àx e (s27 Â hto2)) e
   have T2:TS H2 (ß H7 to (Õ (ys++ġ z))):=λ b zs e=>į tl' s27 e;refine hDL Â #[λ b o e=>by rw[ah (aq e t3)];exact į s27 s32 e,ol',ys++ġ z,rs++[(dd.1,w,so)],_,_,? _,sf2,ad,Â4 Zm ly,YR (Ϡ pr2 q q.ts T2) #[z,Æ t,È sv,tl' Â e7,#[È t,tl' Â (į s7 wy e6)],eso.ts T2],λ rs' q=>Ä7 Xv run _ (run2 rs' q),rfl];exists[kvs',S',R'],O2;obtain⟨⟨dz,z1⟩,z2,z3,z4⟩:=S'.same s27;exact#[kvs',#[#[dz,Ī (Àx z1 (s27 Â hto2)) z1],Ī ndt z2,Ī (Àx z3 (s27 Â hto2)) z3,z4],R'.ts T2]
 .rintro Z H' ⟨sm,ol,ys,rs,o5,o6,O,sf,hto,ly,pr,run,rfl⟩;rw[ll,List.drop_length]at run;refine ł;have:=run [] ė;ext Â5 ZQ;exact#[Å,q to ys rs H' (s02.trans sm) hto pr this]
def WoAt Ë(v:V)(r:bu):Prop:=∃(t:XH) (nv:V),v=Æ t/\H t=Ã (Ò [nv,.str ĳ])/\Äs nv r
inductive spWords  Μ:Prop
 |mk ÎQ ÎG (h4:iJ (aO ds) [] ds) (h5:Öc WoAt rs):spWords  vs H Q E_
theorem WoAt.ts(ϛ WoAt v r t):WoAt H' v r:=μ [a,nv,h1,h2,h3] x #[a,nv,h1,t Â h2,h3.ts' t]
theorem bM ÀR áx:l.take (i+1)=l.take i++[x]:=Â4 List.take_succ h
theorem lE Ëg:rs.length=ds.length:=by
 induction h with
 |nil=>rfl
 |off _ _ ih=>rw[Zo,Zo,ih]
 |turn _ _ _ ih=>rw[Zo,Zo,ih]
 |play _ _ _ _ ih=>rw[Zo,Zo,ih]
abbrev qO:Stmt:=top 53
abbrev FK:Ä Str:=["ready"]
theorem Ef:ŀ FK "ready" qO:= ñ
theorem D9(F:é "words_of" "words_of" qO)(Uw:ÂW 7 "played" spPlayed):Ç0 8 spWords:=by
 show Øq Ef;exists _,(b_1 (au (æ8 (jh (bz Àe aS Çd (cG aS (cG aS bO)))) (Ĭ fj) (Ĭ (aJ (ŏ 0 (Ğ 1)))))))
 show á8 (Ël zs H1 zs.length (WoAt H') (rs.take i))
 .ext Ób nv sv pr;show Ť (Øa (sm Â e1)) #[Ü,sz rfl,λ u gu=>ÀM #[ÄZ gu,Ŕ Zm y7 lz,? _]];rw[bM hr'];exact YR (Ϡ pz z z.ts (XV (af gu _))) #[u,nv,Ì ad,e2.same (ÄZ gu)]
 ext Ým
def bH(rs:Ä bu):Ŋ Nm Sd:=rs.filterMap λ r=>r.2.2.map λ s=>(r.1,s)
def SsAt Ë(v:V)(r:Nm×Sd):Prop:=∃(t st:XH) (nv:V),v=Æ t/\H t=Ã (Ò [nv,Æ st])/\Äs nv r/\StAt H st r.2
theorem SsAt.ts(ϛ SsAt v r t):SsAt H' v r:=Ëm a st nv x t h3.ts'
inductive spSteps  Μ:Prop
 |mk ÎQ ÎG (h4:iJ (aO ds) [] ds) (h5:Öc SsAt (bH rs)):spSteps  vs H Q E_
abbrev qM:Stmt:=top 54
abbrev FJ:Ä Str:=["ready"]
theorem Ee:ŀ FJ "ready" qM:= ñ
theorem D8(F:é "steps_of" "steps_of" qM)(Uw:ÂW 7 "played" spPlayed):Ç0 8 spSteps:=by
 show Øq Ee;exists _,(b_1 (au (æ8 ßj)))
 show á8 (Ël zs H1 zs.length (SsAt H') (bH (rs.take i)))
 .ext Ób nv sv pr;have es:bH (rs.take (i+1))=bH (rs.take i)++(r.2.2.map λ s=>(r.1,s)).toList:=by unfold bH;rw[bM hr',List.filterMap_append];exists[n,w',so],r;cases so<;>rfl
  refine Øa (ÂC e1);exists[n,w',so],r;cases so with
  |none =>ext ÇS sv e3;refine#[ŭ,jR rfl (ÀM #[sm,ÄV lz,? _])];rw[es];simpa using pz
  |some sd =>ext ļ st est e3;show Ìw #[Ü,sz rfl,λ u gu=>ÀM #[ÄZ gu,Ŕ Zm y7 lz,? _]];rw[es];exact YR (Ϡ pz z z.ts (XV (af gu _))) #[u,st,È nv,ad,e2.same (ÄZ gu),Ě est.ts XV ÄZ gu]
 ext Ým
def whD:Option Int->XZ
 |none=>.none
 |Ã i=>Í i
def upD:Option Nm->XZ
 |none=>.none
 |Γ=>nmD n
def plD(ns:XQ):XZ:=.tuple (ns.map PyData.int)
theorem wY(h:UpAt ÇJ):Dt H (upD u) v:=by
 cases u with
 |none =>ext ÇS v h;ext ÀD upD Dt
 |some n=>exact jk h
theorem GI(h:PlAt H v ns):Dt H (plD ns) v:=by ext ļ b e h;exact gj e
theorem AU(w:Option Int):Dt H (whD w) (whV w):=by cases w<;>simp only[whD,whV,Dt]
theorem gP Ο{st:XH}(Ç8 h st vs)(hd:DtAll H ds vs):Dt H (.tuple ds) (Ï st):=by unfold Dt;exact#[ù st,Ó h,hd]
theorem jb:DtAll H ÄI:=Ĉ DtAll
theorem bG(h:Dt H d v)(t:DtAll H ds vs):DtAll H (À6) (v::vs):=Ñr DtAll #[Ł _ h,t]
theorem jd(s:Str):Dt H (Î s) (Î s):=by ext Ű Dt
theorem vt(b:Bool):Dt H (.bool b) (.bl b):=by ext Ű Dt
theorem Ij(i:Int):Dt H (Í i) (Í i):=by ext Ű Dt
def Sd.ok:Þ Sd
 |.put ì tx=>ÁY tx
 |Ãj _=>ÁY tx
 |_=>True
theorem eV(n:Nm):Äv nmD n/\(nmD n).depth=1:=by simp[nmD,PyData.canLay0,PyData.canLayAll0,PyData.depth,PyData.depthAll]
theorem jY(u:Option Nm):Äv upD u/\ÌL upD u 1:=by
 cases u with
 |none=>exact#[rfl,⋯]
 |some n=>exact#[(eV n).1,ÙH]
theorem rE(ns:XQ):Äv plD ns/\(plD ns).depth=1:=by exists Ãn,B0 ns;exact#[by simpa[plD,PyData.canLay0]using h1,äZ plD h2]
theorem rF(w:Option Int):Äv whD w/\(whD w).depth=0:=by cases w<;>exact ÁP
theorem uB Ο ÀR{R:V->Þ α}{D:α->XZ}{l:XH}{vs:X1}{rs:Ä α}(hl:ĺ H l vs)(x:Paired R vs rs)(hD:∀v r,r∈rs->R v r->Dt H (D r) v/\Äv D r/\ÌL D r 3) :
  Ó5 (.list (rs.map D)):=by
 have gen:DtAll H (rs.map D) vs/\Ðt (rs.map D) 3:=by
  clear hl;induction x with
  |nil=>exact#[È jb,Ĉ PyData.depthAll]
  |@cons p q _ _ r _ ih =>exists[h1,h2,h3],hD p q Zk r;exists[i1,i2,i3],ih λ v r hr=>hD v r (Zh _ hr);refine#[Ù3 i1 i2,? _];ext ÕC Zu
 exists[g1,g2,g3],gen;have c:Äv PyData.list (rs.map D):=È2 g2
 refine#[? _,dS c (Ìt (.n 10) (Ì0 3) [_] g3),SeqAt.eqv_refl _ c];ext Ű Dt;exact#[ś l vs,Ó hl,g1]
section
variable{ts:As Dd}{d:Dd}
theorem mf ÔE(h:Á7 (À6) rs):∃w so ol' rs',rs=(ý,w,so)::rs'/\Æh d/\Runs ts tn ol' ds rs':=by
 cases h with
 |off z _=>ext è c z z
 |turn _ z _=>ext è c2 z z
 |play _ _ p r=>exact#[_,_,_,_,Ì p,r]
theorem pE(c:Ď cU d ts)(h:Á7 (À6) rs):∃rs':(Ä bu),rs=((ý,"off",none):bu)::rs'/\Á7 ds rs':=by
 cases h with
 |off _ r=>exact#[Å,r]
 |turn z _ _=>ext è c z z
 |play z _ _ _=>ext è c z z
theorem mh(c:Ņ cU d ts)(c2:Ą Υ)(h:Á7 (À6) rs):∃rs':(Ä bu),rs=((ý,if turned d∈tn then"turn" else"done",none):bu)::rs'/\Á7 ds rs':=by
 cases h with
 |off z _=>ext è c z z
 |turn _ _ r=>exact#[Å,r]
 |play _ z _ _=>ext è c2 z z
theorem yi(h:Á7 [] rs):rs=[]:=by ext ϖ h
theorem JL ÔE(h1:Small ol)(h2:ÐE d)(h3:∀w so ol',å0):iJ ts ÄJ:=Ñr iJ #[λ z=>(by rw[c,c2]at z;rcases z with z|z<;>cases z),λ _ _=>#[h1,h2,h3]]
theorem zA äS(h:iJ ts ol ds):iJ ts ÄJ:=Ñr iJ #[ę h,λ z1 z2=>by rw[z1,z2]at c;rcases c with c|c<;>cases c]
#check 0
theorem yO(ş k k')(h:Ár o u b):Und ol o k' u b'->b=b':=by
 induction h generalizing k' b' with
 |none=>intro h';ext ϖ h'
 |self=>intro h';cases h' with
  |self=>rfl
  |up ne _ _=>ext ĕ rfl ne
 |up ne e _ ih=>intro h';cases h' with
  |self=>ext ĕ rfl ne
  |up _ e' h2 =>ext è e e' e';exact ih h2
theorem Jr{w:Str}(h:PlayR ol n Àl w so ol'):w="done"/\so=none/\ol'=ol:=by
 cases h with
 |none=>exact#[î,rfl]
 |step hs _ _=>cases hs
inductive Ch(ol:Ol):Nat->Ë0 Nm
 |none:Ch ol 0 none
 |up ĉ {n:Nm} {it:It}:Κ->Ch ol k it.up->Ch ol Ρ (Ù n)
def Ter(ol:Ol):Prop:=∀n it,Κ->∃k,Ch ol k (Ù n)
theorem Ds ĉ(h:Ch ol k u)(o:Nm):∃k' b,Und ol o k' u b:=by
 induction h with
 |none=>exact#[0,false,.none]
 |@up k n it hl _ ih =>
  ext å c n o
  .exact#[0,true,c▸.self]
  .show þ [k',b,x] ih #[k'+1,b,.up c hl x]
theorem Ter.up(Ôu it)(h:Κ):∃k,Ch ol k it.up:=by
 exists[k,x],t n it h;cases x with
 |up hl y =>show π h hl #[_,y]
theorem sF(hh:∀n it,Κ->∃it',look ol' n=Ã it'/\it'.up=it.up)ĉ(h:Ch ol k u):Ch ol' k u:=by
 induction h with
 |none=>ext ÌU
 |up hl _ ih =>exists[it',h1,h2],hh Â hl;exact .up h1 (h2▸ih)
theorem Ter.keep(t:Ter ol){it it':It}(h:Κ)(e:it'.up=it.up):Ter (aK ol n it'):=by
 have mono:ãb it':=λ x i hx=>by
  rw[aG];ext å c x n
  .rw[XC c];subst c;show π h hx #[Å,e]
  .rw[XB c];exact À5 hx
 intro x i hx;rw[aG]at hx;ext å c x n
 .subst c;ext Ùq it h
 .rw[XB c]at hx;ext Ùq i hx
theorem Ter.new(Ôu it)ĉ(h:ÁB n)(c:Ch ol k it.up):Ter (aK ol n it):=by
 have mono:ãb it:=λ x i hx=>by rw[aG,XB (Àm h hx)];exact À5 hx
 intro x i hx;ext å e x n
 .ext Ļ;exact#[_,.up (by rw[aG,XC rfl]) (sF mono c)]
 .rw[aG,XB e]at hx;ext Ùq i hx
theorem Ms ĉ(h:Ár o u b)(hb:Ũ b):Ch (aK ol o x) k u:=by
 induction h with
 |none=>ext ÌU
 |self=>cases hb
 |up hn hl _ ih=>exact .up (by ext Ìc hn hl) (ih hb)
theorem Ter.move(Ôu it')ĉ(un:Ár n it'.up false):Ter (aK ol n it'):=by
 have cn:Ch (aK ol n it') Ρ (Ù n):=.up (by rw[aG,XC rfl]) (Ms un rfl);have gen:∀ĉ {u:Option Nm},Ch ol k u->∃k',Ch (aK ol n it') k' u:=λ h=>by
  induction h with
  |none=>exact#[0,.none]
  |@up k x i hl _ ih =>
   ext å c x n
   .exact#[_,Ă c cn]
   .show þ [k',y] ih #[_,.up (by ext Ìc c hl) y]
 intro x i hx;ext å c x n
 .exact#[_,Ă c cn]
 .rw[aG,XB c]at hx;exists[k,y],t x i hx;exact gen y
theorem nC Îm Ö3:
  (∀x,ÁB x->look ol' x=none)/\∀x it,look ol x=Ã it->∃i,look ol' x=Ã (dG n m i)/\i.up=it.up/\i.tx=(if x=m then Ày ""else Ê8 x n Òs it.tx):=by
 exists[itm2,h2,hl],j.lk;have em:itm2.up=itm.up:=by
  rw[aG]at h2;ext å c m n
  .rw[XC c]at h2;ext Äl c hn hm;ext ϖ h2
  .rw[XB c,hm]at h2;ext ϖ h2
 refine#[Ø x hx,Ú x it hx]
 .ext Ÿ d1 x m hm hx
  ext Ÿ d2 x n hn hx
  rw[hl x,aG,aG,XB d1,XB d2,hx];rfl
 .rw[hl x,aG,aG];ext å c x m
  .rw[XC c,XC c];subst c;show π hm hx #[Å,È em]
  .rw[XB c,XB c];ext å c2 x n
   .rw[XC c2,XC c2];subst c2;show π hn hx #[Å,î]
   .rw[XB c2,XB c2,hx];exact#[Å,î]
theorem yf(ÒL i):(dG n m i).up=if i.up=Ã m then Γ else i.up:=Ñq dG
theorem OZ(ÒL i):(dG n m i).tx=i.tx:=Ñq dG
theorem Ft ĉ(h:Ár o u false):u≠ò:=by
 intro z;subst z;cases h with
 |up hn _ _=>exact hn rfl
theorem Ter.join Ñg{n m:Nm}{itn itm:It}(t:Ter ol)Îm Ö3 ĉ(un:Ár m (Ù n) false):Ter ol':=by
 exists[j0,j1],nC hn hm j;have c1:∀ĉ {u:Option Nm} {b:Bool},Ár m u b->Ũ b->Ch ol' k u:=λ h=>by
  induction h with
  |none=>intro _;ext ÌU
  |self=>ext ÒO
  |@up k x i b hx hl y ih =>intro hb;subst hb;exists[i',e1,e2,_],j1 x i hl;refine .up e1 ? _;rw[yf,e2,XB (Ft y)];exact ih rfl
 have gen:∀ĉ {u:Option Nm},Ch ol k u->∃k',Ch ol' k' u:=λ h=>by
  induction h with
  |none=>exact#[0,.none]
  |@up k x i hl _ ih =>
   exists[i',e1,e2,_],j1 x i hl;by_cases c:i.up=Ã m
   .exact#[_,.up e1 (by rw[yf,e2,XC c];exact c1 un rfl)]
   .show þ [k',y] ih #[_,.up e1 (by rw[yf,e2,XB c];exact y)]
 intro x i hx;cases e:look ol x with
 |none=>rw[j0 x e]at hx;cases hx
 |some i0 =>exists[k,y],t x i0 e;exact gen y
def wt(ol:Ol)(x:Nm):Nat:=match look ol x with
 |Ã it=>it.tx.length
 |none=>0
theorem hU{it:It}(ËO h x it):wt ol x=it.tx.length:=ÀL ğ wt h
theorem Fy(h:ÁB x):wt ol x=0:=ÀL ğ wt h
theorem pR{it:It}:ÍF wt (aK ol n it) x n it.tx.length ol:=by
 ext ğ wt aG;ext å c x n
 .rw[XC c,XC c]
 .rw[XB c,XB c]
theorem sW{f:Nm->Nat}:∀(δ L Nm x Nm),ÊN->f x<=ÃM f
 |y::L,x,h=>by
  rw[Zu,Y1];ext ϋ h h
  .exact ÇW (Ε a 0 1) .z Âx
  .have:=sW (f:=f) h;exact Ès (ć Ç Ô) æ this
theorem JY{f g:Nm->Nat}{L:Ä Nm}(h:∀y∈L,f y=g y):ÃM f=ÃM g:=by rw[YT h]
theorem pL{f g:Nm->Nat}:∀{L:Ä Nm},L.Nodup->ÊN->(∀y,y≠x->f y=g y)->ÃM f+g x=ÃM g+f x
 |y::L,nd,h,e=>by
  rw[Ya]at nd;rw[Zu,Y1,Zu,Y1];ext ϋ h h
  .have:ÃM f=ÃM g:=JY λ y hy=>e y λ z=>nd.1 (z▸hy);exact Nat.le_antisymm (â (.p ÀJ Ô) (.p (š 2 3) Ç) (Ñ Èk .z) Ŭ (Nat.le_of_eq this)) (â (.p ÀJ Ô) (.p (š 2 3) Ç) (Ñ Èk .z) Ŭ (Nat.le_of_eq this.symm))
  .have:=pL nd.2 h e;have:=e y λ z=>nd.1 (z▸h);omega
structure Inv(ol:Ol)(B:Nat):Prop where
 ter:Ter ol
 wgt:ËS ol
theorem Qj:Inv [] 0:=#[λ n it h=>(Ş h),[],List.nodup_nil,λ x=>#[λ h=>(Ş h),λ h=>(Ş h)],Zf _]
theorem Inv.small Ïb(h1:ol.length<=63)(h2:B<=400):Small ol:=by show Áh [L,nd,hL,hs] v.wgt #[h1,Ú n it h];have:=sW (f:=wt ol) ((hL n).mp (ό h));rw[hU h]at this;exact ÓG 400 this hs h2
theorem Inv.more(ş B C)(v:Inv ol B)(h:B<=C):Inv ol C:=#[v.ter,μ [L,a,b,c] v.wgt #[L,a,b,Zn c h]]
theorem pQ(ş B c){it it':It}(v:ËS ol)(h:Κ)(e:it'.tx.length<=it.tx.length+c):ãk it' c:=by
 exists[L,nd,hL,hs],v;have hn:n∈L:=(hL n).mp (ό h);refine#[L,nd,ģ x,? _]
 .ext âj
 .have:=å4 (aK ol n it')
  rw[pR,XC rfl,hU h]at this;exact Ès (Ñ (š 0 3) (š 4 5) (Ñ (.a 4) Ê (Ñ (.a 5) (š 3 2) .z))) [_,_,_,_,_,_] (Nat.le_of_eq this) hs e
theorem yQ{B:Nat}{it:It}(v:ËS ol)(h:ÁB n):ãk it it.tx.length:=by
 exists[L,nd,hL,hs],v;have hn:¬n∈L:=λ z=>by have:=(hL n).mpr z;ext ÁN h
 refine#[n::L,Ya.mpr #[hn,nd],ģ x,? _]
 .rw[aG,Zi];ext å z x n
  .rw[XC z];exact#[λ _=>Ó z,ę rfl]
  .rw[XB z,hL x];exact#[.inr,λ y=>y.resolve_left z]
 .rw[Zu,Y1,pR,XC rfl];have:(àC it).sum=ÃM (wt ol):=JY λ y hy=>by rw[pR,XB λ z:y=n=>hn (z▸hy)]
  exact â ÀJ (š 2 0) (Ñ Èk (ÆK a 2 .z)) Ŭ (Nat.le_of_eq this) hs
set_option tactic.hygienic true in theorem Ia(x:Str)(ş a b)(hab:a<=b)(hb:b<=x.length):Âa cZ x (Ù (É a)) (Ù (É b))=b-a:=by
 unfold cZ;split
 .rename_i h;rw[StrLaws.strSliceIndices_plain hab hb,Za,YA]at h;exact h.symm
 .rw[StrLaws.sliced_plain x hab hb];show(List.toArray _).size=_;rw[Zl,ZJ,Yx];have:x.cps.toList.length=x.length:=rfl;omega
theorem NF{x:Str}{a:Int}(h:¬É x.length<a):Âa cZ x none Çm+Âa cZ x Çm none=x.length:=by
 have e:(if É 0>a then 0 else a)=ÀV a.toNat:=by split<;>omega
 have hk:a.toNat<=x.length:=∅
 have e1:cZ x none (Ù (ÀV a.toNat))=cZ x (Ù (ÀV 0)) (Ù (ÀV a.toNat)):=by ext ğ cZ StrLaws.sliceIdx_none_lo;rfl
 have e2:cZ x (Ù (ÀV a.toNat)) none=cZ x (Ù (ÀV a.toNat)) (Ù (ÀV x.length)):=ÀL ğ cZ StrLaws.sliceIdx_none_hi
 rw[e,e1,e2,Ia x (ZA _) hk,Ia x hk (Zf _)];exact Nat.le_antisymm (â ÀJ Ô (Ñ Ç (.a 3) (Ñ (š 1 3) Ô .z)) Ŭ Æ5 (Ée hk)) (Ès (ÁE Ñ (ι a 1 ÁM) (Ñ Ç (š 2 3) .z)) Ŭ Ŝ Ŝ)
theorem Mw{B:Nat}(v:ËS ol)Îm(nm:n≠m)Ö3:ËS ol':=by
 exists[L,nd,hL,hs],v;exists[j0,j1],nC hn hm j;have mn:n∈L:=(hL n).mp (ό hn);have mm:m∈L:=(hL m).mp (ό hm);refine#[L,nd,ģ x,? _]
 .rw[<-hL x];cases e:look ol x with
  |none=>rw[j0 x e]
  |some it =>exists[i,e1,_],j1 x it e;rw[e1];exact#[ę rfl,ę rfl]
 .let g:Nm->Nat:=λ x=>äg
  have w1:∀x,wt ol' x=if x=m then 0 else g x:=λ x=>by
   show _=if x=m then 0 else äg
   cases e:look ol x with
   |none =>
    ext Ÿ d1 x m hm e
    ext Ÿ d2 x n hn e
    rw[Fy (j0 x e),XB d1,XB d2,Fy e]
   |some it =>
    exists[i,e1,_,e3],j1 x it e;rw[hU e1,OZ,e3];ext å c x m
    .rw[XC c,XC c];ext ÆE
    .rw[XB c,XB c];ext å c2 x n
     .rw[XC c2,XC c2,xL]
     .rw[XB c2,XB c2,hU e]
  have s1:=pL (f:=wt ol') (g:=g) nd mm λ y hy=>by rw[w1 y,XB hy]
  have s2:=pL (f:=g) (g:=wt ol) nd mn λ y hy=>by show(Ê8 y n _ _)=_;rw[XB hy]
  have g1:g m=itm.tx.length:=by show(Ê8 m n _ _)=_;rw[XB (Z7 nm),hU hm]
  have g2:g n=itn.tx.length+itm.tx.length:=by show(Ê8 n n _ _)=_;rw[XC rfl]
  have g3:wt ol' m=0:=by rw[w1 m,XC rfl]
  rw[hU hn]at s2;omega
def uf(t:Str):Prop:=ÁY t/\t.length<=5
def DOk:Þ Wd
 |.put Â tx=>uf tx
 |Ãj _=>uf tx
 |.part _ a _=>0<=a
 |_=>True
def MB:Þ Sd
 |.put ì tx=>uf tx
 |Ãj _=>uf tx
 |_=>True
theorem JQ(h:Ç5)(d:DOk wd):MB s:=by cases wd<;>cases h<;>first|exact d|trivial
def Wd.mk:ÀX Wd
 |.put ì=>true
 |.part ì=>true
 |_=>false
theorem pJ(h:Ç5):s.news=Âl wd.mk [n] []:=by cases wd<;>cases h<;>rfl
theorem NQ{pl:XQ}{tx:Str}(h:hV ol (ÆQ u tx))(t:Ter ol):∃k,Ch ol k u:=by
 cases u with
 |none=>exact#[0,.none]
 |some m =>exists[it,e],Çi h m;exact t m it e
structure Kept(ol ol':Ol)(new:Ä Nm)(B:Nat):Prop where
 inv:Inv ol' B
 len:ol'.length<=ol.length+1
 non:∀x,¬x∈new->ÁB x->look ol' x=none
def BdN(ol:Ol):Þ Sd
 |É4 _=>∃k,Ár n u false
 |ÆC m=>∃k,Ár m (Ù n) false
 |Å1 a Â=>∃it,Κ/\¬É it.tx.length<a
 |_=>True
theorem Nx(h:Bd ol s r)(e:r=none):BdN ol s:=by
 cases h with
 |@move n u pl k b un =>
  cases b with
  |false=>exact#[k,un]
  |true=>cases e
 |@join n m k b un =>
  cases b with
  |false=>exact#[k,un]
  |true=>cases e
 |@part n a m pl it hl =>refine#[it,hl,ģ z];ext ώ XC z e
 |_=>trivial
theorem Nv Ïb(hh:hV ol s)(hb:Bd ol s none)(ok:MB s)(Ð7 nw n)(ap:Ap ol s ol'):Kept ol ol' s.news (B+5):=by
 have bd:=Nx hb rfl;cases ap with
 |@put n u pl tx =>
  have hn:ÁB n:=nw n (Ĉ Sd.news);exists[k,c],NQ hh v.ter;refine Ôh #[v.ter.new hn c,? _] hx
  show ß0 #[u,pl,tx,false,none,false] (ÉA Sd.news z)
 |gone=>exact#[v.more (YN Â),YQ _,λ x _ h=>h]
 |@move n u pl it hl =>show Áh [k,un] bd #[#[v.ter.move un,pQ v.wgt hl (YN Â)],dZ ì,Ú x _ h];show Ìc (Àm hl h) h
 |@write n tx it hl =>refine Ôh #[v.ter.keep hl rfl,pQ v.wgt hl (Zn ok.2 (Nat.le_add_left Â))] _;show Ìc (Àm hl h) h
 |@mark n b it hl =>ext Ór
 |@due n b it hl =>ext Ór
 |@fold n b it hl =>ext Ór
 |@part n a m pl it hl =>
  exists[it2,hl2,na],bd;ext è hl hl2 hl2;have hm:ÁB m:=nw m (Ĉ Sd.news);ext Ÿ nmn m n hl hm
  have cl:=NF na;generalize cZ it.tx none Çm=t1 at cl ⊢;generalize cZ it.tx Çm none=t2 at cl ⊢;have hm1:look (ÆO tx t1) m=none:=by ext Ìc nmn hm
  have t1':Ter (ÆO tx t1):=v.ter.keep hl rfl;exists[k,c],t1'.up (n:=n) (it:=Âd it tx t1) (by rw[aG,XC rfl]);refine#[#[t1'.new hm1 c,? _],? _,Ú x hx h]
  .exists[L,nd,hL,hs],v.wgt;have hn:n∈L:=(hL n).mp (ό hl);have w1:=å4 (ÆO tx t1)
   rw[pR,XC rfl,hU hl]at w1;have w1':ÃM (wt (ÆO tx t1))<=B-t2.length:=by
    have:it.tx.length<=ÃM (wt ol):=by rw[<-hU hl];exact sW hn
    have w2:ÃM (wt (ÆO tx t1))+it.tx.length=ÃM (wt ol)+t1.length:=w1;omega
   have le:t2.length<=B:=by
    have:it.tx.length<=ÃM (wt ol):=by rw[<-hU hl];exact sW hn
    omega
   exists[L',a',b',c'],yQ (it:=ÌM it.up pl t2) (B:=B - t2.length) #[L,nd,λ x=>by
    ext âj,w1'] hm1
   refine#[L',a',b',Zn c' ? _];show B-t2.length+t2.length<=B+5;omega
  .have:=dZ (ÆO tx t1) m (ÌM it.up pl t2);rw[iX hl]at this;ext ÀZ
  .have d1:x≠m:=λ z=>hx (ÉA Sd.news z);ext Ÿ d2 x n hl h
   rw[aG,XB d1,aG,XB d2];exact h
 |@join n m itn itm _ hn hm j =>exists[k,un],bd;have nm:n≠m:=λ z=>Ft un (ZZ some z);refine#[#[v.ter.join hn hm j un,? _],Ŕ j.len YQ _,λ x _ h=>(nC hn hm j).1 x h];exists[L,a,b,c],Mw v.wgt hn hm nm j;exact#[L,a,b,Zn c (YN Â)]
theorem Jo{w:Str}Ïb(ok:DOk wd)Öx(h:PlayR ol n wd w so ol'):Kept ol ol' (Âl wd.mk [n] []) (B+5):=by
 have id':Kept ol ol (Âl wd.mk [n] []) (B+5):=#[v.more (YN Â),YQ _,Η h h]
 cases h with
 |none=>exact id'
 |take=>exact id'
 |back=>exact id'
 |@top m pl tx hm =>
  have hn:=nw rfl;refine Ôh #[v.ter.new hn Àl,? _] hx
  show ß0 #[none,pl,tx,false,none,false] (Ŕ z Zg.mpr rfl)
 |@step _ s w _ hs _ wr =>
  cases wr with
  |none=>exact id'
  |beneath=>exact id'
  |far=>exact id'
  |done hh hb ap =>
   have:=Nv v hh hb (JQ hs ok) (λ m hm=>by
    rw[pJ hs]at hm;ext ÖW hm) ap
   rw[pJ hs]at this;ext ÀZ
theorem CF{wd:Wd}Ïb Öx(hs:Ç5):Ready ol s:=by
 refine#[ÇN hm,ģ hd,λ m z=>by subst z;cases wd<;>simp[iR]at hs]
 .rw[pJ hs]at hm;ext ÖW hm
 .cases wd with
  |put u pl tx=>show Ř hs #[_,.put]
  |move m u pl =>
   cases hs;have:∃k,Ch ol k u:=by
    cases u with
    |none=>exact#[0,.none]
    |some x =>exists[it,e],Çi hd x;exact v.ter x it e
   exists[k,c],this;show ÔK m #[_,.move un]
  |write m tx=>show Ř hs #[_,.write]
  |mark m b=>show Ř hs #[_,.mark]
  |due m b=>show Ř hs #[_,.due]
  |fold m b=>show Ř hs #[_,.fold]
  |part m a pl =>cases hs;exists[it,e],Çi hd m;exact#[_,.part e]
  |join m o =>cases hs;exists[it,e],Çi hd m;exists[k,c],v.ter m it e;show ÔK o #[_,.join un]
  |_=>cases hs
structure Fresh(Ŧ ol Ol ds Dd):Prop where
 ok:∀d∈ds,DOk d.2
 non:∀d∈ds,d.2.mk=true->look ol ý=none
 pw:ds.Pairwise λ d e=>d.2.mk=true->e.2.mk=true->ý≠e.1
theorem Fresh.tail(f:Fresh ÄJ):Fresh ol ds:=#[ν e he f.ok,ν e he f.non,(List.pairwise_cons.mp f.pw).2]
def Eqo(a b:Ol):Prop:=∀x,Êd a x b
theorem yN(e:Eqo a b)ĉ(h:Und a o k u c):Und b o k u c:=by
 induction h with
 |none=>ext ÌU
 |self=>exact .self
 |up hn hl _ ih=>exact .up hn (Àq e hl) ih
theorem oU(e:Eqo a b)(h:Bd a s r)(h':Bd b s r'):r=r':=by
 cases h with
 |move un=>cases h' with|move un'=>rw[yO (yN e un) un']
 |join un=>cases h' with|join un'=>rw[yO (yN e un) un']
 |part hl =>
  cases h' with
  |part hl' =>ext Ţ e hl' hl;rfl
 |put=>ext ϖ h'
 |write=>ext ϖ h'
 |mark=>ext ϖ h'
 |due=>ext ϖ h'
 |fold=>ext ϖ h'
 |gone=>ext ϖ h'
theorem eQ(e:Eqo a b)(n:Nm)(it:It):Eqo (aK a n it) (aK b n it):=λ x=>by rw[aG,aG,e x]
theorem PP(e:Eqo a b)(h:Ap a s a')(h':Ap b s b'):Eqo a' b':=by
 cases h with
 |put=>cases h';exact eQ e Â
 |gone=>ext Ř h' e
 |move hl=>ext Éh move e
 |write hl=>ext Éh write e
 |mark hl=>ext Éh mark e
 |due hl=>ext Éh due e
 |fold hl=>ext Éh fold e
 |part hl=>show Éh part (eQ e Â)
 |join hn hm j =>
  cases h' with
  |join hn' hm' j' =>ext Ţ e hn' hn;ext Ţ e hm' hm;show Àp [i1,x1,y1] j.lk [i2,x2,y2] j'.lk;rw[eQ e ì,x2]at x1;cases x1;intro x;rw[y1 x,y2 x,eQ (eQ e Â) Â x]
theorem KN(e:Eqo a b)(s:Sd):hV a s↔hV b s:=Ñr hV #[λ h n hn=>by rw[<-e];exact h n hn,λ h n hn=>Ä7 e h n hn]
theorem Mx äT(h:WordR a s w a')(h':WordR b s w' b'):w=w'/\Eqo a' b':=by
 have hh:=KN e s;cases h with
 |none c =>
  cases h' with
  |none _=>exact#[Ì e]
  |beneath c' _=>show ĕ (hh.mpr c') c
  |far c' _=>show ĕ (hh.mpr c') c
  |done c' _ _=>show ĕ (hh.mpr c') c
 |beneath c b1 =>
  cases h' with
  |none c'=>show ĕ (hh.mp c) c'
  |beneath _ _=>exact#[Ì e]
  |far _ b2=>cases oU e b1 b2
  |done _ b2 _=>cases oU e b1 b2
 |far c b1 =>
  cases h' with
  |none c'=>show ĕ (hh.mp c) c'
  |beneath _ b2=>cases oU e b1 b2
  |far _ _=>exact#[Ì e]
  |done _ b2 _=>cases oU e b1 b2
 |done c b1 ap =>
  cases h' with
  |none c'=>show ĕ (hh.mp c) c'
  |beneath _ b2=>cases oU e b1 b2
  |far _ b2=>cases oU e b1 b2
  |done _ _ ap'=>exact#[rfl,PP e ap ap']
theorem lX äT(h:PlayR a n wd w so a')(h':PlayR b n wd w' so' b'):w=w'/\so=so'/\Eqo a' b':=by
 cases h with
 |none =>exists ÀP rfl rfl,Jr h';exact#[î,e]
 |@take m =>
  cases h' with
  |take=>show Œ e #[î,e]
  |step hs _ _=>cases hs
 |@back m =>
  cases h' with
  |back=>show Œ e #[î,e]
  |step hs _ _=>cases hs
 |@top m pl tx hm =>
  cases h' with
  |top _=>exact#[î,eQ e Â]
  |step _ ht _ =>have:(!(ϗ look b m))=false:=ht;rw[<-e,hm]at this;cases this
 |@step _ s w a' hs ht wr =>
  generalize hso:(Ïo w' ("done":Str) Ã s)=so2;cases h' with
  |none=>cases hs
  |take=>cases hs
  |back=>cases hs
  |@top m pl tx hm =>have:(!(ϗ look a m))=false:=ht;ext Ţ e hm this
  |step hs' _ wr' =>ext è hs hs' hs';exists[rfl,x],Mx e wr wr';exact#[î,x]
theorem OL{w:Str}(ok:DOk wd)(h:PlayR ol n wd w so ol'):ÁY w/\∀s,so=Ã s->s.ok:=by
 cases h with
 |none=>exact#[⋯,Ç7 s z]
 |take=>exact#[by ext ÍC,Ç7 s z]
 |back=>exact#[by ext ÍC,Ç7 s z]
 |top _=>exact#[⋯,λ s z=>by cases z;exact ok.1]
 |@step _ s w _ hs _ wr =>
  have so:s.ok:=by have:=JQ hs ok;cases s<;>first|exact this.1|trivial
  refine#[by cases wr<;>decide +kernel,Ø s' z];split at z
  .ext Ř z so
  .cases z
theorem O6 Ëg(ok:∀d∈ds,DOk d.2):∀r∈rs,PyData.strOk ĳ=true/\∀s,ÃJ=Ã s->s.ok:=by
 induction h with
 |nil=>intro r hr;cases hr
 |off _ _ ih =>
  intro r hr;show Äu hr #[ÍA ("off":Str),λ s z=>(Ş z)]
  .exact ih (ν d hd ok) r hr
 |turn _ _ _ ih =>
  intro r hr;ext ϋ hr hr
  .refine#[? _,Ç7 s z];ext ň;ext ÍC
  .exact ih (ν d hd ok) r hr
 |play _ _ p _ ih =>
  intro r hr;ext ϋ hr hr
  .exact OL (ok _ Zk) p
  .exact ih (ν d hd ok) r hr
theorem Mf(h:∀r∈rs,PyData.strOk ĳ=true/\∀s,ÃJ=Ã s->s.ok):∀r∈bH rs,r.2.ok:=λ r hr=>by
 ext Ĝ bH hr;exists[x,hx,e],Yn.mp hr;cases es:Ð.2 with
 |none=>ext è es e e
 |some s=>ext è es e e;exact(h x hx).2 s es
def Pc:Sp:=Ĭ False
theorem WhAt.ts{t:XH}(ϛ WhAt t wd s):WhAt H' t wd:=Äp r #[r,Ģ h1,h2.ts s]
theorem P7 Ο(h:H p=Ã ń):Dt H (.list []) (Ï p):=by ext ÀD Dt DtAll;exact#[ù p,Ó h,rfl]
theorem Qy:ú SeqAt.shaped (.list []):=⋯
theorem FQ{xs:X1}(Ïn i)(h1:À4 i):∃v,atI xs i=Ľ/\xs[i.toNat]?=Ľ:=by
 have hk:À4 i.toNat:=Àz Îv h1
 have:=ŕ fi xs xs j i.toNat (Ze hk);rw[show ÀV i.toNat=i by exact Óf h0]at this;exact#[_,this,Ze hk]
theorem lJ{c:XQ}(ş k i){v:Int}(hk:k<c.length):ÍF am (c.set k v) i k v c:=by
 ext âO am i
def clk(cl:Ä XQ)(g:Nat):XQ:=(cl[g]?).getD []
theorem dU{cl:Ä XQ}(ş k g)(hk:k<cl.length):ÍF clk (cl.set k c) g k c cl:=by
 ext âO clk g
theorem oV(ş n g)(h:g<n):clk Ï6 g=äV:=by unfold clk;rw[List.getElem?_replicate,XC h];rfl
theorem qa(n i:Nat):am (List.replicate n (É 0)) i=0:=by ext ğ am List.getElem?_replicate;split<;>rfl
def mx(a b:XQ)Ė:XQ:=(Ŷ n map) λ j=>if am b j>am a j then am b j else am a j
theorem pf(ş n i)(h:i<n):am (mx a b n) i=if am b i>am a i then am b i else am a i:=by
 unfold mx
 conv=>lhs;unfold am
 rw[Zs,List.getElem?_range h];rfl
theorem vM à:Âa mx a b n=n:=by unfold mx;simp
theorem TS.trans(e:TS H H')(f:TS H' H2):TS H H2:=λ a zs h=>f a zs (e a zs h)
theorem iC Ο(hp:∀zs,H p≠ą tup zs):TS H (ø p o):=λ a zs h=>Ī (λ z=>hp zs (Àq z h)) h
theorem gF{ns:XQ}ĉ(h:k<ns.length):atI (ns.map V.int) (É k)=Ã (Í (am ns k)):=by have:=eZ (ns:=ns) (k:=É k) (by exact ô č η Ζ) (Àz Äo h);rw[show(É k).toNat=k by exact Nat.le_antisymm (ŝ Õt (Int.le_of_eq (Int.toNat_of_nonneg (ô č η Ζ)))) (ŝ Õt (Int.self_le_toNat _))]at this;ext ÀZ
def CK Ë(cA:XH)Ė(as:Ä XH)(cl:Ä XQ):Prop:=Ì7 H cA/\as.length=n/\as.Nodup/\∀(g:Nat) (hg:g<as.length),H as[g]=Ã (Õ ((clk cl g).map V.int))
theorem CK.same à(x:CK H cA n as cl)(s:ó):CK H' cA n as cl:=#[Ģ ö,Ð.1,Ð.2.1,λ g hg=>Ģ (Ð.2.2 g hg)]
theorem kU{as:Ä XH}ĉ(hk:k<as.length):atI (as.map V.ref) (É k)=Ã (.ref as[k]):=fi (by rw[Zs,Ze hk];rfl)
theorem lU Ο(h1:ĺ Ω xs)(h2:ĺ H b ys)(h:xs≠ys):a≠b:=λ z=>by rw[z,h2]at h1;ext ÂV h1;ext ÂV h1;exact h h1.symm
theorem gw{ns:XQ}{as:Ä XH}(h:0<ns.length):as.map V.ref≠ns.map V.int:=λ e=>by
 cases ns with
 |nil=>ext ĕ h Û
 |cons n ns =>
  cases as with
  |nil=>cases e
  |cons a as=>cases e
theorem uK:∀n:Nat,ÁD n [V.int 0] flatten=(ÁD n (É 0) map) V.int
 |0=>rfl
 |n+1=>by rw[Xm,List.flatten_cons,uK n];rfl
theorem Qx{as:Ä XH}ĉ(h:as.Nodup)(hp:p∉as):(as.set k p).Nodup:=by
 rw[List.nodup_iff_pairwise_ne,ZR]at h ⊢;intro i j hi hj hij;rw[Yv]at hi hj;rw[List.getElem_set,List.getElem_set];ext å c1 k i
 .rw[XC c1,XB (ÁU (Àd (ĝ Ê Ç (ĝ Ç Ô (ť ĝ 2 Š))) æ θ (Nat.le_of_eq q.symm) (Nat.le_of_eq c1) hij))];exact λ z=>hp (z▸ZD hj)
 .rw[XB c1];ext å c2 k j
  .rw[XC c2];exact λ z=>hp (z▸ZD hi)
  .rw[XB c2];exact h i j hi hj hij
theorem jg ÀR(L:Ä α)(z:α):(Ŷ L.length map) (λ i=>L.getD i z)=L:=by
 apply List.ext_getElem
 .simp
 .intro i h1 h2;simp[h2]
abbrev D3:=Nat×XQ×Wd
def DA Ë Ō(d:D3):Prop:=∃c wa,H a=Ã (Ò [Í (ý:Int),Æ c,Æ wa])/\H c=Ã (Ò (d.2.1.map V.int))/\WhAt H wa ÂK/\ý<Ák d/\Ák d<=8
theorem DA.ts(ϛ DA a d s):DA H' a d:=μ [c,wa,h1,h2,h3,h4] x #[c,wa,Ģ h1,Ģ h2,h3.ts s,h4]
def toD(d:D3):Dd:=(((ý:Int),Â7 ý),ÂK)
theorem DA.dd(x:Êt):DdAt H Ϗ (toD d):=μ [c,wa,h1,h2,h3,h4,_] x #[a,c,wa,_,Ì h1,h2,gF h4,h3]
abbrev L3:=Ŋ XH D3
def ax(L:L3):X1:=L.map λ x=>V.ref ö
theorem aH(L:L3):Ň ax L=L.length:=Za ..
def LR3 Ë(l:XH)(L:L3):Prop:=Į H l (Ϟ L)/\∀x∈L,DA H ö Ð
theorem LR3.same(x:LR3 H l L)(s:ó):LR3 H' l L:=#[Ģ ö,ÒT Ð (XV s)]
theorem dj ĉ àI:∃hk:k<L.length,x=.ref L[k].1:=by
 have hk:k<L.length:=by have:=Àg h;ext Â1 aH
 refine ÁI hk;ext Ĝ ax h;rw[Zs,Ze hk]at h;exact(Zt h).symm
inductive spOrder  Μ:Prop
 |mk Ō (d:D3) (ÃA a) Ìx (h2:ÇE p (Ò ([d.2.1.sum,(d.1:Int)].map V.int))):spOrder  vs H Q E_
abbrev yo:Stmt:=top 92
abbrev Np:Ä Str:=["_law_deed"]
theorem L4:ŀ Np "_law_deed" yo:= ñ
theorem Lq(F:é "_law_order" "_law_order" yo)(Vi:Ē "sum"):ă 1 ["_law_deed"] spOrder:=by
 exists L4
 obtain⟨a,d,rfl,⟨c,wa,e1,e2,e3,e4,e5⟩,q⟩:=h;show Áh _ (b_1 (au (aJ (ņ (q_B (Λ HS rfl rfl) Vi PyProof.Rows.boot_sum (ð (ħ 0))) (ð (ħ 0)))))) (Át e1 at1 #[c,d.2.1,rfl,XW e2,Át e1 at0 #[Ċ p g]]);exact Ñu g ad
theorem EW{L:L3}(hp:POk L.length p):(ÈN L.getD (0,0,[],.none)).Perm L/\ÌW p.toList.map ax L=ax (ÈN L.getD (0,0,[],.none)):=by
 ext Óg L.length
 .have:=ep.map λ i=>L.getD i (0,0,[],Wd.none);ext Â1 jg
 .ext ğ ax ZX;apply YT;intro i hi;have:i<L.length:=Yh.mp (ep.mem_iff.mp hi);simp[this]
def nm3(d:D3):Nm:=(toD d).1
def ko(c:XQ)(n:Nm):Bool:=decide (am c n.1.toNat>=n.2)
def jW(d:D3)(n:Nm):Bool:=(! decide (n=nm3 d))&&ko d.2.1 n
def lG(d e:D3):Bool:=if nm3 d=nm3 e then false else ! jW d (nm3 e)&&! jW e (nm3 d)
theorem vR(a b:Nm):(Å6 a=Å6 b)↔a=b:=by
 ext ØP Prod.ext z1 z2
 .rintro rfl;rfl
inductive spTells  Μ:Prop
 |mk (c:XH) (nv:V) (cs:XQ) (n:Nm) (h0:vs=[Æ c,nv]) (h1:Ϛ c cs.map) ã6 (h4:n.1<cs.length) (h5:Q (.bl (ko cs n)) H):spTells  vs H Q E_
abbrev yq:Stmt:=top 9
abbrev Nr:Ä Str:=["clock","name"]
theorem L5:Ŵ Nr "clock" "name" yq:= ñ
theorem Lr(F:é "tells" "tells" yq):ă 1 ["clock","name"] spTells:=by
 exists L5
 obtain⟨c,nv,cs,n,rfl,hc,⟨nb,rfl,hnb⟩,h0,h1,q⟩:=h;exists _,(b_1 (au (cP Lk (ar aw ü (ħ 1)) (ħ 1))))
 exact#[Å,Át hnb at0 #[c,τ,XW hc,eZ h0 h1,Át hnb at1 #[ë,q]]]
inductive spHears  Μ:Prop
 |mk Ō (nv:V) (d:D3) (n:Nm) (h0:vs=[Æ a,nv]) Ìx ã6 (h4:n.1<Ák d) (h5:Äh Q (.bl (jW d n))):spHears  vs H Q E_
abbrev yl:Stmt:=top 64
abbrev No:Ä Str:=["deed","name"]
theorem LY:Ŵ No "deed" "name" yl:= ñ
theorem Lp(F:é "hears" "hears" yl)(a7:Âg spNameOf)Ôp:ă 2 ["deed","name"] spHears:=by
 show ĩ LY [a,nv,d,n,rfl,hd,hn,h0,h1,q];ext ÁJ nb hnb hn;exists _,(b_1 (au (dC (cP (Cm hr.units) ä (ϕ a7 0)) (dP (ī r9 ÕA)))))
 show Ť #[Ü,Æ a,toD d,Ì hd.dd,ÇG p e1] #[nb,p,[n.1,n.2],[(nm3 d).1,(nm3 d).2],î,s1 Â hnb,Ł e1 ? _];ext Ĝ jW q;by_cases c:n=nm3 d
 .rw[decide_eq_true c]at q;show χ decide_eq_true ((vR Â).mpr c) aF (q H1 s1)
 .rw[decide_eq_false c]at q;rw[åz];ext Ħ aP;exists[c',wa,f1,f2,f3,f4,f5],õ hd.ts s1;exact(Át f1 at1 #[Å,c',Æ nb,d.2.1,È n,f2,hn.same s1,h0,h1,q H1 s1])
inductive spApart  Μ:Prop
 |mk (a b:XH) (d e:D3) (Ål a b) Ìx (h2:DA H b e) (h3:Ák d=Ák e) (h4:Äh Q (.bl (lG d e))):spApart  vs H Q E_
abbrev yj:Stmt:=top 65
abbrev Nl:Ä Str:=["one","other"]
theorem LX:Ŵ Nl "one" "other" yj:= ñ
theorem Ln(F:é "apart" "apart" yj)äh:ă 3 ["one","other"] spApart:=by
 show ĩ LX [a,b,d,e,rfl,hd,he,hl,q];have bd:0<=(nm3 d).1/\(nm3 d).1<Ák e:=by exists[_,_,_,_,_,z,_],hd;show 0<=É (ý:Nat)/\É (ý:Nat)<_;omega
 have be:0<=(nm3 e).1/\(nm3 e).1<Ák d:=by exists[_,_,_,_,_,z,_],he;show 0<=É (e.1:Nat)/\É (e.1:Nat)<_;omega
 exists _,(b_c (É9 (aE (QL hr.units) (ϕ a7 0) (ϕ a7 1)))
   (b_1 (au (dC (AK åR) (dP (AK (ī Ux (ŏ 1 (Èc 0)))))))))
 refine#[Å,Æ a,toD d,Ì hd.dd,ÇG p1 e1];show Áa #[Å,Æ b,toD e,rfl,Ò5 he.ts s1,ÍK p2] #[p1,p2,Å6 (nm3 d),Å6 (nm3 e),î,s2 Â e1,Ł e2 ? _];have S2:=s1.trans s2;ext Ĝ lG q;by_cases c:nm3 d=nm3 e
 .rw[XC c]at q;show χ decide_eq_true ((vR Â).mpr c) aP (q H2 S2)
 .rw[XB c]at q;rw[åz];show ÄY aF #[Ü,Æ b,toD e,rfl,Ò5 he.ts S2,Č p3 H3 s3 e3];show Å5 S3 S2.trans s3 #[a,Æ p3,d,nm3 e,rfl,õ hd.ts S3,#[È p3,e3],be.1,be.2,Ø H4 s4];show Å5 S4 S3.trans s4 Àk;cases b1:jW d (nm3 e)with
  |true =>rw[b1]at q;exact ÅG (q H4 S4)
  |false =>rw[b1]at q;show Áa #[Å,aP ? _] #[Ü,Æ a,toD d,rfl,Ò5 hd.ts S4,ÐB p5];have S5:=S4.trans s5;exact#[b,Æ p5,e,nm3 d,rfl,õ he.ts S5,#[È p5,e5],bd.1,bd.2,λ H6 s6=>#[Å,q H6 (S5.trans s6)]]
def Da Ë(Â3 v V):Prop:=∃d,Dt H d v/\Ą d.canLay0/\d.depth<=n
theorem BC(i:Int)Ė:Da H n (Í i):=#[_,Ij i,rfl,Ĉ PyData.depth]
theorem MH(b:Bool)Ė:Da H n (.bl b):=#[_,vt b,rfl,Ĉ PyData.depth]
theorem Ie(ÆL h s)Ė:Da H n (Î s):=#[_,jd s,È2 h,Ĉ PyData.depth]
theorem jP ÈP:Da H 1 v:=#[_,jk h,(eV n).1,ÙH]
theorem MI(h:UpAt ÇJ):Da H 1 v:=#[_,wY h,(jY u).1,(jY u).2]
theorem FZ(h:PlAt H v ns):Da H 1 v:=#[_,GI h,(rE ns).1,Xd (rE ns).2]
theorem Sy(w:Option Int):Da H 1 (whV w):=#[_,AU w,(rF w).1,by rw[(rF w).2];decide]
def Wd.ok:Þ Wd
 |.put Â tx=>ÁY tx
 |Ãj _=>ÁY tx
 |_=>True
theorem P6(h:DOk wd):wd.ok:=by
 cases wd with
 |put=>exact h.1
 |write=>exact h.1
 |_=>trivial
theorem yR(wd:Wd):ÁY wd.word:=by cases wd<;>(ext Ű Wd.word;ext ÆE)
theorem BD àX(hm:v∈r):Da H 1 v:=by
 cases wd with
 |put =>
  exists ÀQ uv pv a1 a2,h6;ext Õ7
  ext Áj MI a1 FZ a2
  .exact Ie ok 1
 |move =>
  exists[nv,uv,pv,rfl,a0,a1,a2],h6;ext Õ7
  ext Áj jP a0 MI a1
  .exact FZ a2
 |write =>
  ext ļ nv a0 h6;ext ÖL
  .exact Ie ok 1
 |mark =>
  ext ļ nv a0 h6;ext ÖL
  .exact MH _ 1
 |due =>
  ext ļ nv a0 h6;ext Äb hm
  show Áj jP a0 Sy _
 |fold =>
  ext ļ nv a0 h6;ext ÖL
  .exact MH _ 1
 |part =>
  exists ÀQ nv pv a0 a1,h6;ext Õ7
  .exact jP a0
  .exact BC _ 1
  .exact FZ a1
 |join =>
  exists ÀQ nv mv a0 a1,h6;ext Äb hm
  ext Áj jP a0 jP a1
 |take =>ext ļ nv a0 h6;ext Ãu hm;subst hm;exact jP a0
 |back =>ext ļ nv a0 h6;ext Ãu hm;subst hm;exact jP a0
 |off =>obtain rfl:=h6;ext Ãu hm;subst hm;exact BC _ 1
 |on =>obtain rfl:=h6;ext Ãu hm;subst hm;exact BC _ 1
 |none=>obtain rfl:=h6;show ĕ hm (ZB)
theorem xA à:∀{vs:X1},(∀v∈vs,Da H n v)->∃ds,DtAll H ds vs/\Ðt ds n
 | [],_=>#[[],È jb,Ĉ PyData.depthAll]
 |v::vs,hv=>by exists[ds,i1,i2,i3],xA (vs:=vs) (ν x hx hv);exists[d,h1,h2,h3],hv v Zk;refine#[À6,Ù3 i1 i2,? _];ext Ű PyData.depthAll;omega
def oS:Wd->Option Nm
 |.back n=>Γ
 |_=>none
theorem P9(n m:Nm):PyData.eqv (nmD n) (nmD m)=Ài n m:=by
 ext àS Ù n m;have e1:∀n:Nm,upD (Ù n)=nmD n:=ę rfl;rw[e1,e1]at e;rw[e];ext Ű Option.some.injEq
theorem HQ(it:Nm)(h:WhAt H wa wd)(ok:wd.ok):∃dx,Dt H dx (Ï wa)/\ú SeqAt.shaped dx/\PyData.eqv dx Þj=decide (oS wd=Ã it):=by
 exists[r,h5,h6],h;show å e wd.word "back"
 .cases wd with
  |back n =>
   ext ļ nv a h6;refine#[.tuple [Î "back",nmD n],Ùk h5 jk a,dS Ĳ,? _]
   .ext ãc n
   .have:=(eV n).2;ext ÕC PyData.depth
   .simp only[PyData.eqv,PyData.eqvAll,P9,Bool.and_true,oS,Option.some.injEq];rw[show Ą (("back":Str)=="back") from by decide,Bool.true_and]
  |_=>show ĕ e (by ext Ű Wd.word;ext ÆE)
 .exists[ds,i1,i2,i3],xA λ v hv=>BD h6 ok hv;ext Üf h5
  .have e2:oS wd≠Ã it:=λ z=>by
    cases wd with
    |back=>exact e rfl
    |_=>cases z
   rw[decide_eq_false e2];have e3:Ũ (wd.word=="back"):=û e
   ext ÀD PyData.eqv PyData.eqvAll;rw[e3,Bool.false_and]
theorem NK Ο{it:Nm}(h:H u=Ã (Ò [Î "back",iv]))(hi:œ iv it):Dt H Þj (Ï u)/\ú SeqAt.shaped (.tuple [Î "back",nmD it]):=by
 refine#[Ùk h jk hi,dS Ĳ]
 .ext ãc it
 .have:=(eV it).2;ext ÕC PyData.depth
abbrev NmsAt Ë(Ŧ xs X1 ns Nm):Prop:=Paired (λ v m=>œ v m) xs ns
theorem NmsAt.ts(ϛ NmsAt xs ns s):NmsAt H' xs ns:=Paired.mapP x λ _ _ z=>NameIs.ts' z s
theorem zm:∀ns:Ä Nm,PyData.depthAll (ns.map nmD)<=1
 | []=>Ĉ PyData.depthAll
 |n::ns=>by have:=zm ns;simp only[Zu,PyData.depthAll,(eV n).2];omega
theorem Lg Ο(hl:ĺ ÂT)(p:NmsAt H xs ns):Dt H (.list (ns.map nmD)) (Ï l)/\ú SeqAt.shaped (.list (ns.map nmD)):=by exists Ãn,Cf p;have:=zm ns;refine#[? _,dS (È2 h2) (Ìt (.n 10) (ć Ç đ) [_] this)];ext Ű Dt;exact#[ś l xs,Ó hl,h1]
def eC:Wd->Option Nm
 |.take n=>Γ
 |.join _ m=>Ã m
 |_=>none
def dD(d:D3):Ä Nm:=match ÂK with
 |.put ì=>[nm3 d]
 |Å1 Â=>[n,nm3 d]
 |ÆC m=>[n,m]
 |.move n Â=>[n]
 |.write n _=>[n]
 |.mark n _=>[n]
 |.due n _=>[n]
 |.fold n _=>[n]
 |.back n=>[n]
 |.take _=>[]
 |.off _=>[]
 |.on _=>[]
 |.none=>[]
noncomputable def yM(ol:Ol)(o x:Nm):Bool:=@decide (∃k,Ár o (Ù x) true) (Classical.propDecidable _)
theorem Pn ĉ(h:Ár o (Ù x) b):yM ol o x=b:=by
 unfold yM;cases b with
 |true=>exact ÐD decide_eq_true #[k,h]
 |false =>refine ÐD decide_eq_false fun⟨k',h'⟩=>? _;cases yO h h'
noncomputable def gsB(ol:Ol)(d t:D3)(item:Nm):Bool:=(decide (oS ÂK=Ã item)&&jW d (nm3 t)) ||(lG d t&&(dD d).any λ x=>yM ol item x)
noncomputable def rn ÑB(t:D3)(item:Nm):Option Nm:=(D.find? λ d=>gsB ol d t item).map nm3
abbrev Tk:=Nm×Nm×Option Nm
noncomputable def jA ÑB(d:D3):Ä Tk:=match eC ÂK with
 |Ã it=>[(nm3 d,it,rn ol D d it)]
 |none=>[]
noncomputable def eG ÑB:Ä Tk:=D.flatMap λ d=>jA ol D d
def TkAt Ë(v:V)(r:Tk):Prop:=∃(t:XH) (nv iv bv:V),v=Æ t/\H t=Ã (Ò [nv,iv,bv])/\Äs nv r/\NameIs H iv (nk ĳ)/\UpAt H bv ÃJ
theorem TkAt.ts(ϛ TkAt v r s):TkAt H' v r:=μ [t,nv,iv,bv,h1,h2,h3,h4,h5] x #[t,nv,iv,bv,h1,Ģ h2,h3.ts' s,h4.ts' s,h5.ts s]
theorem SO(wd:Wd):ÈG wd.word "take" "join"=(eC wd).isSome:=by cases wd<;>rfl
inductive spTaken  Μ:Prop
 |mk Ō (d:D3) (it:Nm) (ÃA a) Ìx (h2:eC ÂK=Ã it) (h3:∀iv,œ iv it->Q iv H):spTaken  vs H Q E_
abbrev mP:Stmt:=top 77
abbrev Bh:Ä Str:=["deed"]
theorem AA:ŀ Bh "deed" mP:= ñ
theorem Am(F:é "taken_item" "taken_item" mP):ă 1 Ãl spTaken:=by
 exists AA
 obtain⟨a,⟨hn,cs,wd⟩,it,rfl,⟨c,wa,h1,h2,⟨r,h3,h4⟩,_⟩,ht,q⟩:=h;refine#[_,(b_1 (au (Cy (aE bW (ÈL 0) aA) (ÈL 0) (ÈL 0)))),? _];ext ÄT e1 Λ XW h1 e3 Λ XW h3;cases wd with
 |take n =>cases ht;ext ļ nv a1 h4;exact#[ÀH a,e1,at2,wa,τ,Õx,cS #[ÀH a,e1,at2,wa,τ,e3,at1,q _ a1]]
 |join n m =>cases ht;exists ÀQ nv mv a1 a2,h4;exact#[ÀH a,e1,at2,wa,τ,Õx,aW (Àa) #[ÀH a,e1,at2,wa,τ,e3,at2,q _ a2]]
 |_=>cases ht
inductive spTouched  Μ:Prop
 |mk Ō (d:D3) (ÃA a) Ìx (h2:∀l vs H',ó->ÐK l vs NmsAt H' vs (dD d)):spTouched  vs H Q E_
theorem Eh(Ŏ hn cs XQ)(wd:Wd):(∃ u pl tx,wd=ÇM)\/(∃ n b pl,wd=Å1 b pl)\/(∃ n m,wd=ÆC m)\/(ÂU wd.word "put"/\ÂU wd.word "part"/\ÂU wd.word "join" /\
  ((Ď inV (Î wd.word) åS/\dD (hn,cs,wd)=[])\/(Ņ inV (Î wd.word) Ô6/\∀ Ë r,RsAt H r wd->∃ nv r' n,r=nv::r'/\œ nv n/\dD (hn,cs,wd)=[n]))):=by
 cases wd with
 |put u pl tx=>exact Α #[u,pl,È tx]
 |part n b pl=>show ſ (Ó #[n,b,È pl])
 |join n m=>show ſ (.inr (Ó #[n,m,rfl]))
 |move n u pl=>show ſ (.inr (.inr #[Àa,Àa,Àa,ā #[rfl,λ H r ⟨nv,_,_,h,a,_⟩=>#[nv,_,n,h,È a]]]))
 |write n tx=>exact ËM
 |mark n tx=>exact ËM
 |due n tx=>exact ËM
 |fold n tx=>exact ËM
 |back n=>exact ËM
 |_=>show ſ (.inr (.inr #[Àa,Àa,Àa,Ó ÁP]))
abbrev mR:Stmt:=top 80
abbrev Bj:Ä Str:=["deed","what"]
theorem qW:ŀ Bj "deed" mR:= ñ
theorem Aq(F:é "touched_by" "touched_by" mR)(a7:Âg spNameOf):ă 2 Ãl spTouched:=by
 show ĩ qW [a,d,rfl,hd,q];have hdd:=hd.dd;obtain⟨c,wa,h1,h2,⟨r,h3,h4⟩,h5,h6⟩:=id hd;refine#[_,(Âu 1 qW.nd ħ 0
   (b_c (Åt aM 1 (b_1 (Ě au bX Èc 0)) b_0)
   (b_c (Åt aM 1 (b_1 (au (bX (ņ (ħ 1) (Èc 0))))) b_0)
   (b_c (Åt aM 1 (b_1 (Ě au bX ÈE 1)) b_0)
   (b_c (aM (aE (Λ nI rfl) (ħ 1) (aJ (q_a aA (q_a aA (ņ aA (ð aA)))))) (Ě b_1 au bX ai) b_0)
   (b_1 (au (Ě bX ð ħ 1)))))))),? _]
 show ÂI e3 Λ XW h3 #[ÀH a,XW h1,at2,? _];exists[hn,cs,wd],d;refine#[ÀH wa,e3,at0,Ì _,Ì ? _];rcases Eh hn cs wd with⟨u,pl,tx,rfl⟩|⟨n,b,pl,rfl⟩|⟨n,m,rfl⟩|⟨n1,n2,n3,n4⟩
 .refine cS #[Å,Æ a,Å,hdd,λ t H1 s1 e1=>ÇC l gl];have wl:=af gl (Õ [Æ t]);exact q l Â (s1.trans wl) ad (Ę #[È t,wl Â e1] ė)
 .exists ÀQ nv pv a1 a2,h4;refine aW (Àa) ? _;refine#[ÀH wa,Õx,cS ? _];show ÃB #[ÄR wa,e3,at1,Å,Æ a,Å,hdd,λ t H1 s1 e1=>#[Ċ l gl]] wl gl (Õ [nv,Æ t]);exact q l Â (s1.trans wl) ad (Ę (Ě a1.ts' XV s1.trans wl) (Ę #[È t,wl Â e1] ė))
 .exists ÀQ nv mv a1 a2,h4;refine aW (Àa) ? _;show Ť #[ÑW,aW (Àa) ? _] #[ÑW,cS ? _];show ÃB #[ÄR wa,e3,at1,ÄR wa,e3,at2,Ċ l gl] wl gl (Õ [nv,mv]);exact q l Â wl ad (Ę (õ a1.ts' wl) (Ę (õ a2.ts' wl) ė))
 .refine aW n1 ? _;show Ť #[ÑW,aW n2 ? _] #[ÑW,aW n3 ? _];show Âz #[ÀH wa,e3,at0,Ċ u gu] wu gu (Ò Ô6);ext Ì9;ext Ät n4 n4 et n4 hx
  .have ei:Ď Ãt (V.str wd.word) åS:=n4;rw[ei];refine aP (ÇC l gl);exact q l [] _ (wu.trans (af gl ń)) ad (by rw[et];exact ė)
  .exists[nv,r',n,rfl,hnv,et],hx H r h4;have ei:Ņ Ãt (V.str wd.word) Ô6:=n4;rw[ei];refine aF #[ÀH wa,À7 XW wu h3,at1,Ċ l gl];have wl:=wu.trans (af gl (Õ [nv]));exact q l [nv] _ wl ad (by rw[et];exact υ (õ hnv.ts' wl) ė)
def iZ(Φ:Þ Ol):Ol->ÃI Sd
 |ol,[]=>Φ ol
 |ol,s::ss=>Small ol/\(∀n∈s.news,ÁB n)/\hV ol s/\Bd ol s none/\∀ol',Ap ol s ol'->iZ Φ ol' ss
def StV Ë(v:V)(s:Sd):Prop:=∃st,v=Æ st/\StAt H st s
theorem StV.ts(ϛ StV v s t):StV H' v s:=Äp st #[st,h1,h2.ts t]
def pX ä3:Ol->As Unit->ÃI Sd
 |ol,gs,[]=>Φ ol gs
 |ol,gs,s::r=>Small ol/\gs.length<=63/\(∀n∈s.news,ÁB n)/\hV ol s/\Bd ol s none/\∀ol',Ap ol s ol'->pX Φ ol' (Gb gs s) r
inductive spSteppedA Ĥ(vs:X1)Ë À2:Prop
 |mk ãV ä3 (ÃA l) âB (h3:pX Φ ÄI ss) (h4:∀p d g ol gs H',ó->ÀS OlAt ol->GoneAt H' g gs->Φ ol gs->Đ p H'):ÁC spSteppedA
abbrev se:Stmt:=top 76
abbrev HK:Ä Str:=["steps","outline","step"]
theorem qP:ŀ HK "steps" se:= ñ
theorem GE(F:é "stepped" "stepped" se)(Uv:àt ύ (spInit C))(r6:ÈB 4 "step" (spStepA C cT cN cB cF)):ă 5 ["steps"] (spSteppedA C):=by
 show ĩ qP [l,xs,ss,Φ,rfl,hl,px,safe,q];have ll:=ZC px;refine#[_,(b_c (Ĕ 1 qP.nd (EZ Uv ↑99))
   (b_c (ÆN (bc ü) (aB (i:=2) qP.nd) (b_1 (bK (tj r6 nL ↑99 ä (Ğ 2)))))
   (Ás ä))),? _]
 show Ûg H (upd (ø dx (.own x)) x (.ins C dx []))
 have d3:á d:=s00.free fd0;have g3:á g:=s00.free fg0;refine È8 l #[_,XX (s34 Â hl)];refine ÁL gq l (xs:=xs) (λ i Z H'=>ó/\∃(ol:Ol) (gs:As Unit) (o2:Option V),OlAt C H' x d g ol/\GoneAt H' g gs/\pX Φ ol gs (ss.drop i)/\Z=[Ö l,Ö x,o2])
  #[s34,[],[],none,#[[],[],S4,.nil],#[[],S4.3,.nil],È safe] (Ä2 (Âf hl)) Ĳ
 .ext ÌQ sm ol gs o2 O G sf;exists[sd,hsi,st,rfl,hst],bE px hv;have hi:i<ss.length:=Àg hsi;ext àY ss.drop sd hsi
  rw[hdr]at sf;exists[small,lg,nw,hh,hb,nxt],sf;exists[kvs,gvs,S,_],id O;ext ÈX dz y1 y2 y3 y4 S;refine#[Ν x dz y1 di,Å,x,d,g,st,ol,gs,sd,.ok,Ì O,G,small.len,lg,õ hst.ts sm,(λ n it hl=>Zn (small.txt n it hl) ⋯),.bd none nw hh hb,nofun,nofun,nofun,nofun,λ _ H5 ol' b5 o5 g5 ap=>hDL ÁZ];exact#[λ b o e=>b5 b o (sm ŋ) (aq e d3) (aq e g3),ol',_,_,o5,g5,nxt ol' ap,rfl]
 .rintro Z H' ⟨sm,ol,gs,o2,O,G,sf,rfl⟩;rw[ll,List.drop_length]at sf;exact#[Å,q x d g ol gs H' sm O G sf]
inductive spStepped Ĥ(vs:X1)Ë À2:Prop
 |mk ãV Ìq âB (h3:(∀s∈ss,Ä9 n)) (h4:iZ Φ [] ss) (h5:∀p d g ol H',ó->ÀS OlE ol->Φ ol->Đ p H'):ÁC spStepped
theorem JK:∀(δ ss Sd ol Ol),(∀s∈ss,Ä9 n)->iZ Φ ol ss->pX (λ ol gs=>gs=[]/\Φ ol) ol [] ss
 | [],_,_,h=>#[Ì h]
 |s::ss,ol,ng,h=>by ext âp;exact JK (ν x hx ng) (nxt ol' ap)
theorem Hb(F:ÐS spSteppedA):ÐS spStepped:=by show Áh [f,fd,ok,h1,h2,h3] F #[f,fd,ok.imp (Ķ vs H Q E h),h1,h2,h3];show Áh [l,xs,ss,Φ,rfl,hl,px,ng,safe,q] h #[l,xs,ss,_,Ì hl,px,JK ng safe,λ p d g ol gs H' s O G z=>? _];exists[rfl,z],z;exact q p d g ol H' s (.of O G) z
set_option tactic.hygienic true in theorem OK(Çg h):∀s,so=Ã s->Ä9 m:=by
 intro s e m z;subst z;cases h with
 |none=>cases e
 |take=>cases e
 |back=>cases e
 |top=>cases e
 |step hs _ _ =>
  split at e
  .cases e;rename_i wd' _ _;cases wd<;>simp[iR]at hs
  .cases e
theorem E8 Ëg:∀s∈(ϡ bH rs),Ä9 m:=by
 have at':∀{r:bu} {rs:Ä bu},(∀s,ÃJ=Ã s->Ä9 m)->(∀s∈(ϡ bH rs),Ä9 m)->∀s∈(ϡ bH (r::rs)),Ä9 m:=fun{r rs} h1 h2 s hs=>by
  ext ż x hx hs;exists[y,hy,e],Yn.mp hx;ext ϋ hy hy
  .exists[s',e1,rfl],ZK.mp e;exact h1 s' e1
  .exact h2 _ (Zw.mpr #[x,Yn.mpr #[y,hy,e],rfl])
 induction h with
 |nil=>exact Á0 s hs
 |off _ _ ih=>exact at' (Á0 s z) ih
 |turn _ _ _ ih=>exact at' (Á0 s z) ih
 |play _ _ p _ ih=>exact at' (OK p) ih
set_option tactic.hygienic true in theorem Dv{kvs:X0}{k k':Ä Key}{v:V}:ÍF aU (bC kvs k v) k' k Ľ kvs:=by
 have gen:∀l:X0,aU (l.map (Æg kv k v)) k'=if k'=k then(aU l k').map (ę v)else aU l k':=λ l=>by
  induction l with
  |nil=>split<;>rfl
  |cons p l ih =>
   rw[Zu];ext Án c k
   .rw[XC c];ext Án c2 k'
    .have h1:∀r,aU ((p.1,v)::r) k'=Ľ:=λ r=>dJ (p:=(p.1,v)) c2;rw[h1,dJ c2,XC (c2.symm.trans c)];rfl
    .have h1:∀r,aU ((p.1,v)::r) k'=aU r k':=λ r=>de (p:=(p.1,v)) c2;rw[h1,de c2,ih]
   .rw[XB c];ext Ðx k' dJ
    .rw[de c2,de c2,ih]
 by_cases hk:ÒE
 .rw[uJ v hk,gen];split
  .rename_i e;exists[u,hu],ZF.mp (wL hk);rw[e,hu];rfl
  .rfl
 .rw[qz _ (oh hk)];have app:∀l:X0,aU l k=none->ÍF aU (l++[(k,v)]) k' k Ľ l:=λ l=>by
   induction l with
   |nil =>
    intro _;ext å c k k'
    .rw[XC c.symm,List.nil_append,dJ c]
    .rw[XB (ÈD c),List.nil_append,de c]
   |cons p l ih =>
    intro h;ext Án c k
    .ext ώ dJ c h
    .rw[de c]at h;rw[List.cons_append];ext Ðx k' dJ
     .rw[de c2,de c2,ih h]
  exact app kvs (oh hk)
theorem yX:Äg "dict" type:=⋯
def aT(L:L3):Ä Dd:=L.map λ x=>toD Ð
theorem oW:∀{L:L3},(∀x∈L,DA H ö Ð)->uV H (ax L) (aT L)
 | [],_=>.nil
 |x::L,h=>.cons (h x Zk).dd (oW (ν y hy h))
theorem L6{t u:Lake.TS}{Z:St}(h:∀R:À0,ÌP u D R->t (Âd D nx R) Z H):He t u D Z H:=h _ (Η z z)
def Ke(Ŧ ol Ol ns Nm)(o:Nm):Prop:=∀x∈ns,∃k b,Ár o (Ù x) b
inductive spGs Ĥ(vs:X1)Ë À2:Prop
 |mk (a b:XH) (iv:V) ÉQ (e t:D3) (it:Nm) (ol:Ol) (h0:vs=[Æ a,Æ b,iv,Æ p]) (h1:DA Ω e) (h2:DA H b t) (h3:œ iv it) (h4:ÀB OlE) (h5:Ák e=Ák t) (h6:e.2.2.ok) (h7:Ke ol (dD e) it) (h8:Äh Q (.bl (gsB ol e t it))):ÁC spGs
theorem Ei(d:D3):Ň dD d<=2:=by exists[hn,cs,wd],d;cases wd<;>(unfold dD;simp)
abbrev qG:Stmt:=top 79
abbrev uZ:Ä Str:=["deed","taking","item","whole"]
theorem Ea:FnScope uZ ["deed","taking","item","whole"] (ao qG):= ñ
theorem DX(F:é "gainsays" "gainsays" qG)äh(UQ:Ð1 3 "apart" spApart)(UX:Åu 2 "touched_by" spTouched)(i6:æ7)(WT:Ē "any"):ă 4 ["deed","taking","item","whole"] (spGs C):=by
 show ĩ Ea [a,b,iv,p,dd,g,e,t,it,ol,rfl,ha,hb,hi,hO,ln,ok,hh,q];refine#[_,(b_c (aM (t_w (hJ (aE (sX hr.units) (ħ 0) (Är Ğ 2)) (gN (ci åR)))) ÉZ)
   (b_1 (au (dC (Å3 UQ 0 1) (dP (q_B (Ss rfl) WT PyProof.Rows.boot_any (q_a (æ9 "each" 3 2 "whole" "item" UX 0 (Ĭ (ÃE i6 ä (ŏ 0 (Ğ 2))))) ai))))))),? _]
 show É1 [c,wa,h1,h2,hw,h5,h6] ha [_,_,_,_,_,t5,_] hb;refine L6 (Ø R hR);have rest:∀ (H1:Hp),Same H H1->Ũ (decide (oS e.2.2=Ã it)&&jW e (nm3 t))->R (Lake.start uZ [Æ a,Æ b,iv,Æ p]) H1:=λ H1 s1 hf=>hR Â (by
  have q1:Äh Q (.bl (lG e t&&(dD e).any λ x=>yM ol it x)):=λ H' s'=>by have:=q H' s';ext Ĝ gsB this;rw[hf,Bool.false_or]at this;ext ÀZ
  refine#[Ü,a,b,e,t,rfl,õ ha.ts s1,õ hb.ts s1,ln,λ H2 s2=>Àk];cases hc:lG e t with
  |false =>rw[hc]at q1;exact aF (q1 H2 (s1.trans s2))
  |true =>
   rw[hc]at q1;show ÄY aP #[Å,ś a e,Ě ha.ts XV s1.trans s2,λ l vs H3 s3 el pv=>#[Áe l el]];have S3:=s1.trans (s2.trans s3);have lv:vs.length<=2:=by ext χ ZC pv Ei e
   refine bL (xs:=vs) (λ i zs H'=>H'=H3/\zs=(((dD e).take i).map λ x=>yM ol it x).map V.bl) ∅ (λ i zs _ z=>by rw[z.2,Za,Za,ZJ];exact ŝ ϊ ď Æj) ÁP (ÙJ zs el) Ĳ
   .ext Ùm rfl;exists[x,hx,hn],bE pv hv;exists[k,bb,hu],hh x (ZG hx);have O3:=hO.same S3;obtain⟨kvs,⟨⟨dz,y1⟩,_⟩,_⟩:=id O3;refine#[Ν p dz y1 di,Ü,p,dd,g,ol,v,iv,Ã x,it,k,È bb,O3.ag.1,hn,õ hi.ts' S3,hu,ÀM Åz];rw[bM hx,Zy,Zy,<-Pn hu];rfl
   rintro zs lz H4 ⟨rfl,rfl⟩ glz;rw[ZC pv,ZO];show ÂI wlz af glz (Õ (((dD e).map λ x=>yM ol it x).map V.bl)) #[ù lz,XX ad,? _];have q2:=q1 _ (S3.trans wlz);rw[Bool.true_and]at q2;ext Œ List.any_map q2)
 show Âz #[ÀH a,XW h1,ù at2,Ċ u gu] wu gu (Ò [Î "back",iv]);exists[dx,x1,x2,x3],HQ it (õ hw.ts wu) ok;exists[y1,y2],ŕ NK u u it it ad (õ hi.ts' wu);refine#[dx,_,x1,y1,x2,y2,? _];rw[x3];generalize ø u (Ò [Î "back",iv])=H1 at wu ⊢;refine Àk;cases hb1:decide (oS e.2.2=Ã it)with
 |false =>refine aF (rest H1 wu ? _);rw[hb1];rfl
 |true =>
  show ÄY aP #[Ü,Æ b,toD t,rfl,Ò5 hb.ts wu,ÍK tn];refine#[a,Æ tn,e,nm3 t,rfl,Ě ha.ts XV wu.trans s2,#[È tn,e2],Int.ofNat_nonneg _,Ŕ ln Int.ofNat_lt.mpr t5,λ H3 s3=>Àk];have S3:=wu.trans (s2.trans s3);cases hb2:jW e (nm3 t)with
  |false =>refine aF (rest H3 S3 ? _);rw[hb1,hb2];rfl
  |true =>ext Ħ aP;have q1:=q H3 S3;ext Ĝ gsB q1;rw[hb1,hb2]at q1;exact q1
inductive spFg Ĥ(vs:X1)Ë À2:Prop
 |mk (b:XH) (iv:V) (l p d g:XH) (L:L3) (t:D3) (it:Nm) (ol:Ol) (h0:vs=[Æ b,iv,Æ l,Æ p]) (h1:DA H b t) (h2:œ iv it) (h3:LR3 H l L) (h4:ÀB OlE) (h5:(∀x∈L,Ð.2.1.length=Ák t/\Ð.2.2.ok/\Ke ol (dD Ð) it)) (h6:∀v H',ó->UpAt H' v (ØI it)->Q v H'):ÁC spFg
abbrev io:Stmt:=top 78
abbrev tH:Ä Str:=["taking","item","lasting","whole","deed"]
theorem kj:FnScope tH ["taking","item","lasting","whole"] (ao io):= ñ
theorem rK(F:é "first_gainsayer" "first_gainsayer" io)(Vq:Ŀ 4 "gainsays" ["deed","taking","item","whole"] (spGs C))(a7:Âg spNameOf):ă 5 ["taking","item","lasting","whole"] (spFg C):=by
 show ĩ kj [b,iv,l,p,d,g,L,t,it,ol,rfl,hb,hi,hL,hO,hx,q];refine#[_,(b_c (ÆN (bc Ū) (aB (i:=4) kj.nd) (b_1 (aM (ci (ī Vq (ŏ 4 (ŏ 0 (ŏ 1 (Ğ 3)))))) (b_1 (Æo au a7 4)) b_0)))
   (Ás cQ)),? _]
 refine È8 l #[_,XX hL.1];refine ÁL qg l (xs:=ax L) (λ i Z H'=>ó/\(∀x∈L.take i,gsB ol Ð t it=false)/\∃o4,Z=[Ö b,Ã iv,Ö l,Ö p,o4])
  #[Same.refl _,(ÂG Ϝ List.take_zero hx),È none] (Ä2 (Âf hL.1)) Ĳ
 .rintro i v Z H' hv ⟨sm,no,o4,rfl⟩;exists Áz hl,dj hv;have hm:=ZD hl;exists[g1,g2,g3],hx _ hm;have hd:=(hL.2 _ hm).ts (XV sm);refine#[Ü,Ü,_,b,iv,ÂJ,L[i].2,t,it,È ol,hd,õ hb.ts sm,õ hi.ts' sm,hO.same sm,g1,g2,g3,λ H2 s2=>Àk];cases hc:gsB ol L[i].2 t it with
  |false =>
   refine aF #[sm.trans s2,Ø x hx',Å];rw[List.take_add_one,Ze hl,ZE]at hx';ext Ś hx' hx' hx'
   .exact no x hx'
   .rcases Zg.mp hx' with rfl;exact hc
  |true =>
   refine aP #[Áo _,(õ hd.ts s2).dd,λ tn H3 s3 e3=>Ā q tn H3 (sm.trans (s2.trans s3)) ? _];have ef:ØI it=Ã (ÄF i):=by
    unfold rn;have hs:L.map Prod.snd=ϡ L.take i++L[i].2::ϡ L.drop (i+1):=by rw[<-Zu (f:=Prod.snd) (a:=L[i]),<-List.drop_eq_getElem_cons hl,<-Zy,List.take_append_drop]
    rw[hs,List.find?_append,YM.mpr,Option.none_or,List.find?_cons_of_pos (p:=λ d=>gsB ol d t it) (û hc)]
    .rfl
    .intro y hy;ext ż x h1 hy;rw[no x h1];exact Zq
   show Œ ef #[È tn,e3]
 .rintro Z H' ⟨sm,no,o4,rfl⟩;refine q .non H' sm ? _;rw[show ØI it=none from ? _]
  .rfl
  .ext ğ rn YM.mpr
   .rfl
   .intro y hy;ext ż x h1 hy;rw[aH,ZO]at no;rw[no x h1];exact Zq
theorem wq:∀{ps kvs:X0},k∉ps.map Prod.fst->aU (bR kvs ps) k=aU kvs k
 | [],_,_=>rfl
 |p::ps,kvs,h=>by show aU (bR (ÊS) ps) k=_;rw[Zu,Zi,not_or]at h;rw[wq h.2,Dv,XB h.1]
theorem Cv:∀{ps kvs:X0},(ps.map Prod.fst).Nodup->(k,v)∈ps->aU (bR kvs ps) k=Ľ
 |p::ps,kvs,hn,h=>by
  show aU (bR (ÊS) ps) k=_;rw[Zu,Ya]at hn;ext ϋ h h
  .rw[wq hn.1,Dv,XC rfl]
  .exact Cv hn.2 h
def gU(w:Str):Bool:=ÈG w "done" "top"
def bD ÒC:L3:=(Zq0.filter λ z=>gU z.2).map Prod.fst
theorem nO(A B:L3):ax (A++B)=ax A++ax B:=Zy
structure Tkn(L:L3)ÌO Ė(Φ:Þ Ol):Prop where
 len:ÒR
 safe:iJ (aO (aT L)) [] (aT L)
 nod:ÛD
 words:∀rs,ÏW->rs.map (λ r:bu=>ĳ)=W/\rs.map (λ r:bu=>r.1)=ũ aT L Prod.fst
 steps:∀rs,ÏW->iZ Φ [] (ϡ bH rs)
 cl:∀x∈L,Êm/\Ð.2.2.ok
 asks:∀ol,Φ ol->∀x∈bD (L.zip W),∀t∈bD (L.zip W),∀it,eC t.2.2.2=Ã it->Ke ol (dD Ð) it
inductive spTakings  Μ:Prop
 |mk ÏP Ė Ìq (Îi h2) (h3:∀ol a vs H',Φ ol->ó->Ñw a vs TkAt (Åh)):spTakings  vs H Q E_
theorem wU ÑB:∀E:Ä D3,(E.flatMap λ d=>jA ol D d).length<=E.length
 | []=>Zf _
 |d::E=>by
  rw[List.flatMap_cons,Zm,Zo];have:=wU ol D E;have h1:Âa jA ol D d<=1:=by unfold jA;split<;>simp
  exact â ÀJ (ã 2) (Ñ Ç đ (Ñ Ê Ô .z)) æ h1 this
theorem OlE.but{H H':Hp}(x:ÀB OlE)(hl:ĺ ÂT)(kp:Ç2 l H H'):ÀS OlE ol:=by obtain⟨kvs,⟨⟨dx,h1⟩,h2,h3,h4⟩,h5⟩:=x;exact#[kvs,#[#[dx,kp Â (Àx h1 hl) h1],kp Â (Àx h2 hl) h2,kp Â (Àx h3 hl) h3,h4],h5.ts λ b ws e=>kp b _ (Àx e hl) e]
abbrev mQ:Stmt:=top 75
abbrev Bi:Ä Str:=["ready","words","whole","lasting","takings","deed","item"]
theorem dI:ŀ Bi "ready" mQ:= ñ
theorem Ao(F:é "takings_of" "takings_of" mQ)(u3:ÂW 8 "words_of" spWords)(u4:ÂW 8 "steps_of" spSteps)(u7:ÐS spStepped)(a7:Âg spNameOf)(UY:Åu 1 "taken_item" spTaken)(u6:Ŀ 5 "first_gainsayer" ["taking","item","lasting","whole"] (spFg C))(Vn:Ē "dict"):Ç0 9 spTakings:=by
 exists dI
 obtain⟨l,L,W,n,Φ,rfl,⟨hl,hL⟩,T,q⟩:=h;ext ÑY;have l1:=T.len;refine#[_,(b_c (Ĕ 1 dI.nd (oq (Eo rfl hr.units) Vn yX (q_a (ϕ u3 0) ai)))
   (b_c (Ĕ 2 dI.nd (ī u7 (q_a (áU (bc (ϕ u4 0))) ai)))
   (b_c (Èe 3 dI.nd "deed" (ÅP [1] ["words"]) rfl (bc ü) (ÆF "deed" "words") Àe (ÄM _ (nX (aE (Λ nI rfl) (cH hr.units ä (ϕ a7 0)) (Är ð aA)))) (Ĭ ü))
   (Âu 4 dI.nd bX ai
   (b_c (cW ZU rfl (bc ↑3) (ÁX 5 dI.nd) (b_1 (aM (Ñk aE ÈL 5) (Èz 6 dI.nd UY 5
   (b_1 (bK (iF ↑4 (aJ (q_a (ϕ a7 5) (ŏ 6 (q_a (ī u6 (ŏ 5 (ŏ 6 (Ã8 3 2)))) ai)))))))) b_0)))
   (Ê3 4)))))),? _]
 show ϐ #[Ùy,Ì hl,oW hL,∅,T.safe,Ã0 a ys rs H1 s1 ea pr run];have lrs:rs.length=L.length:=by rw[lE run,ll]
 exists[hW,hN],T.words rs run;have lW:W.length=L.length:=by rw[<-hW,Za,lrs]
 have prs:Ág Bo H1 ys Ëa:=by
  clear run lrs ea hW hN;induction pr with
  |nil=>exact ė
  |cons h _ ih =>exists[t,nv,rfl,e1,b,rfl,e2],h;exact υ #[t,b,Ì e1,e2] ih
 show Ã5 #[a,ys,Å,ea,prs,by rw[ZC pr,lrs];omega,Ø wd gwd] wwd af gwd (.dT (bR [] (Öb (nk r.1,V.str ĳ))));ext Èj ewd H1 wd Ç4 Ëa Ã;have S2:Same H (ß H1 wd (Ç4 Ëa)):=s1.trans wwd;have wv:∀(i:Nat) (x:ÄG) (w0:Str),Ý L x->Ý W w0->aU (bR [] Ëa) (nk (toD Ð).1)=ą str w0:=λ i x w0 hx hw=>by
  have hi:i<rs.length:=by have:=Àg hx;omega
  have h1:rs[i].1=(toD Ð).1:=by ext ßn hx
  have h2:rs[i].2.1=w0:=by have h:=ZZ (λ l=>l[i]?) hW;simp only[Zs,hw,Ze hi,Option.map_some,Option.some.injEq]at h;exact h
  refine Cv ? _ (Zw.mpr #[rs[i],ZD hi,ÀK h1 h2]);rw[ZX,show(Prod.fst∘λ r:bu=>(nk r.1,V.str ĳ))=nk∘λ r:bu=>r.1 from rfl,<-ZX,hN];exact T.nod.map _ λ a b hab z=>hab (jZ z)
 generalize bR [] Ëa=kvw at ewd S2 wv ⊢;generalize ß H1 wd (.dT kvw)=H2 at ewd S2 ⊢;ext Ö6;refine#[Ùy,rfl,S2 Â hl,oW (Èh hL hx (XV S2)),∅,T.safe,λ a2 ys2 rs2 H3 s3 ea2 pa2 run2=>#[Áe a2 ea2]];have ly2:ys2.length<=63:=by have h1:=ZC pa2;have h2:Ň bH rs2<=rs2.length:=List.length_filterMap_le ..;rw[lE run2,ll]at h2;omega
 refine bL (ØN StV (((bH rs2).take i).map Prod.snd)) ∅ Çk (È3 ea2) Ĳ
 .show át st' bM YR #[È st',õ e3.ts sm]
 rintro zs lz H4 ⟨sm,lzs,pz⟩ glz;rw[ZC pa2,ZO]at pz;have wlz:=af glz (Õ zs);refine#[lz,zs,_,Φ,Ì ad,Æt pz StV wlz,E8 run2,T.steps rs2 run2,Ã0 p d g ol H5 s5 O5 hΦ];have S25:Same H2 H5:=Ě s3.trans sm.trans wlz.trans s5;have S5:=S2.trans S25;ext ŧ ewd5 S25 ewd;refine ł;show ϐ #[Å,È l,#[_,XX (S5 Â hl)],? _];ext äJ
 refine bL (xs:=ax L) (λ i zs H'=>Same H5 H'/\zs=Ě ax bD Ãd i) (Ż aH) (λ i zs _ z=>by
  rw[z.2,aH,bD,Za];exact Zn (Z3 ..) (Ż ZJ)) #[ÍX] (ÔZ zs (Âf (S5 Â hl))) Ĳ
 .ext Ùm sm;exists Áz hi,dj hv;have hx:=ZD hi;have hd:=(hL _ hx).ts (XV (S5.trans sm));have hiW:i<W.length:=∅
  have hz:Ý (L.zip W) (L[i],W[i]):=by rw[ĥ Ze,List.getElem_zip]
  show Ť #[Ü,Ł _ hd.dd,Č t H6 s6 e6] #[wd,.str W[i],rfl,wv i Â (Ze hi) (Ze hiW)▸DGet.t (k:=nk (toD L[i].2).1) (į s6 sm ewd5) e6,Ċ u gu];have wu:=s6.trans (af gu (Ò ÑO));ext Ì9;have et:bD (Ãd (i+1))=bD (Ãd i)++bD [(L[i],W[i])]:=by rw[bM hz,bD,Ys,Zy];rfl
  cases hb:gU W[i]with
  |true =>have ei:Ď Ãt (V.str W[i]) ÑO:=hb;rw[ei];refine aP #[Å,ÀM #[sm.trans wu,? _]];rw[et,nO];simp[bD,hb,ax]
  |false =>have ei:Ņ Ãt (V.str W[i]) [Î "done",Î "top"]:=hb;rw[ei];refine aF (ÀM #[sm.trans wu,? _]);rw[et,nO];simp[bD,hb,ax]
 rintro zs la H6 ⟨sm,rfl⟩ gla;rw[aH,<-lzw,ZO];ext âH bD
 have lD:Ň bD (L.zip W)<=L.length:=by rw[bD,Za];exact Zn (Z3 ..) ∅
 have asks:=T.asks ol hΦ;have q':=λ a vs H'=>q ol a vs H' hΦ;generalize bD (L.zip W)=D at asks q' mem lD ⊢
 ext gla H7 wla ela
 ext ě S57 sm.trans wla S7 S5.trans S57;refine ł;show ϐ #[Ċ tl gtl];show Äd wtl gtl (Õ []) etl H7 tl;have S8:=S7.trans wtl;have gtl0:á tl:=S7.free gtl;ext ŧ ela8 wtl ela;ext Ÿ nla la tl gtl ela
 have O8:=O5.same (S57.trans wtl);have hD:∀x∈D,DA (ß H7 tl ń) ö Ð:=Èh hL (mem x hx) (XV S8);generalize ß H7 tl ń=H8 at etl S8 ela8 O8 hD ⊢;ext Ö6;refine#[Å,Áe la ela8];refine ÁL gq la (xs:=ax D) (λ i Z H'=>(Ç2 tl H8 H')/\∃(zs:X1) (o5 o6:Option V),ĺ H' tl zs/\zs.length<=i/\Ág TkAt H' zs ((ϡ D.take i).flatMap λ d=>ÊG d)/\Z=[Ö l,Ö wd,Ö p,Ö la,Ö tl,o5,o6])
  #[ÊQ o,[],none,none,etl,Zf _,.nil,rfl] (Ä2 (Âf nla ela8)) Ĳ
 .ext ÌQ kp zs o5 o6 hz lz pz;exists Áz hi,dj hv;have hx:=ZD hi;have tp:TS H8 H':=λ b ws e=>kp b _ (Àx e etl) e;have hd:=(hD _ hx).ts tp;have er:(ϡ D.take (i+1)).flatMap (λ d=>ÊG d)=(ϡ D.take i).flatMap (λ d=>ÊG d)++ÊG D[i].2:=by rw[bM (Ze hi),Zy,List.flatMap_append];simp
  have hi1:i<100:=∅
  obtain⟨c,wa,e1,e2,⟨r,e3,e4⟩,_⟩:=id hd;show Âz #[ÀH _,XW e1,at2,wa,_,ÀW,XW e3,at0,Ċ u gu] wu gu (Ò [Î "take",Î "join"]);ext Ì9;have ei:Ãt (V.str D[i].2.2.2.word) [Î "take",Î "join"]=(eC D[i].2.2.2).isSome:=SO _;rw[ei];generalize ß H' u (Ò [Î "take",Î "join"])=H9 at wu ⊢;cases ht:eC D[i].2.2.2 with
  |none =>refine aF (hDL Â #[ÞQ wu,zs,_,_,wu Â hz,Nat.le_succ_of_le lz,È ? _]);rw[er,show ÊG D[i].2=[]from ÀL ğ jA ht,ZQ];exact Æt pz TkAt wu
  |some it =>
   ext Ħ aP;refine ay (Ø R hR);show Ť #[Å,_,_,È it,õ hd.ts wu,ht,λ iv hiv=>hR ÁZ] #[Å,Ó #[Ì _,XX (wu Â hz)],Å,ù _,(õ hd.ts wu).dd,Č tn H10 s10 e10];have w10:=wu.trans s10;have kp10:Ç2 tl H8 H10:=ÞQ w10;have tp10:TS H8 H10:=TS.trans tp (XV w10);refine#[Ü,Àj,_,iv,la,ÂJ,D,D[i].2,ś it ol,õ hd.ts w10,õ hiv.ts' s10,#[kp10 Â nla ela8,λ x hx'=>(hD x hx').ts tp10],O8.but etl kp10,λ x hx'=>#[by rw[(T.cl x (mem x hx')).1,(T.cl _ (mem _ hx)).1],(T.cl x (mem x hx')).2,asks x hx' _ hx it ht],λ bv H11 s11 hu=>ÇC tr gtr]
   ext gtr H12 wtr etr
   have w12:=w10.trans (s11.trans wtr);refine#[tl,ÀW,w12 Â hz,ĥ bo,? _];have t13:TS H12 (ß H12 tl (Õ (zs++ġ tr))):=Ùz ws e' w12 hz
   refine ÄQ #[λ b o hb e=>Äq hb w12 (kp b o hb e),zs++ġ tr,_,_,ad,Ŕ Zm y7 lz,È ? _];rw[er,show ÊG D[i].2=[(nm3 D[i].2,it,rn ol (D.map Prod.snd) D[i].2 it)]from ÀL ğ jA ht];exact YR (Ϡ pz (z:TkAt ì) z.ts (TS.trans (XV w12) t13)) #[tr,Æ tn,ś iv bv,t13 Â etr,#[È tn,t13 Â (į wtr s11 e10)],hiv.ts' (TS.trans (Ě XV s10.trans s11.trans wtr) t13),ÉO hu.ts wtr t13]
 .rintro Z H' ⟨kp,zs,o5,o6,hz,lz,pz,rfl⟩;refine ł;rw[aH,ZO]at pz;exact#[Å,q' tl zs H' (λ b o e=>kp b o (aq e gtl0) (S8 ŋ)) hz pz]
def nB:Wd->Option Nm
 |.move n Â=>Γ
 |.write n _=>Γ
 |.mark n _=>Γ
 |.due n _=>Γ
 |.fold n _=>Γ
 |_=>none
def rp:ÀX Wd
 |.move ì=>true
 |.write Â=>true
 |.mark Â=>true
 |.due Â=>true
 |.fold Â=>true
 |_=>false
theorem Gc(wd:Wd):inV (Î wd.word) äs=rp wd:=by cases wd<;>rfl
def pF(a b:Wd):Bool:=Ài a.word b.word&&decide (nB a=nB b)
def ji(wd:Wd):XZ:=.tuple [Î wd.word,upD (nB wd)]
theorem KG(a b:Wd):PyData.eqv (ji a) (ji b)=pF a b:=by
 ext àS nB a b;unfold ji pF;simp only[PyData.eqv,PyData.eqvAll,e,Bool.and_true];congr 1
theorem PV(x:V)(r:X1):bU (x::r) none (Ù 2)=x::r.take 1:=by
 unfold bU;rw[HT.sIx_none,show É 2=ÀV 2 from rfl,HT.sIx_nat,List.drop_zero,Nat.sub_zero];cases r with
 |nil=>rfl
 |cons y r =>rw[YD Û];rfl
theorem BM(wd:Wd):ú SeqAt.shaped (ji wd):=by refine dS (by simp[ji,PyData.canLay0,PyData.canLayAll0,yR wd,(jY (nB wd)).1]) ? _;have:=(jY (nB wd)).2;simp only[ji,PyData.depth,PyData.depthAll];omega
theorem ED{t:XH}(hf:ú rp wd)(h6:RsAt H r wd)(h7:år):Dt H (ji wd) (Ï t):=by
 rw[PV]at h7;have fin:∀(y:V) (r':X1),r=y::r'->UpAt H y (nB wd)->Dt H (ji wd) (Ï t):=λ y r' e hu=>by rw[e]at h7;exact Ùk h7 wY hu
 cases wd with
 |move m u pl=>exists[nv,uv,pv,rfl,a0,_],h6;exact fin Â rfl a0
 |write m tx=>ext ÑM
 |mark m tx=>ext ÑM
 |due m tx=>ext ÑM
 |fold m tx=>ext ÑM
 |_=>cases hf
theorem KL{t:XH}àX(h7:år)(hd:ú rp d):∃dx,Dt H dx (Ï t)/\ú SeqAt.shaped dx/\PyData.eqv dx (ji d)=pF wd d:=by
 cases c:rp wd with
 |true=>exact#[ji wd,ED c h6 h7,BM wd,KG wd d]
 |false =>
  have hw:wd.word≠d.word:=λ z=>by rw[<-Gc wd,z,Gc d,hd]at c;cases c
  rw[PV]at h7;exists[ds,i1,i2,i3],xA (vs:=r.take 1) λ v hv=>BD h6 ok (List.mem_of_mem_take hv);ext Üf h7
  .have e3:Ũ (wd.word==d.word):=û hw
   unfold ji pF;ext ÀD PyData.eqv PyData.eqvAll;rw[e3,decide_eq_false hw,Bool.false_and,Bool.false_and]
def iE(e d:D3):Bool:=pF e.2.2 ÂK&&lG e d
def ovJ(D:Ä D3)À1:Option Nm:=match D[k]? with
 |Ã d=>if rp ÂK=true then((D.drop Ρ).find? λ e=>iE e d).map nm3 else none
 |none=>none
theorem KC(L:L3)À1:bU (ax L) (Ù (É k+1)) none=ax (Å0):=by
 unfold bU;rw[HT.sIx_none,show É k+1=É (k+1:Nat) by exact Int.le_antisymm (áZ) (áY),HT.sIx_nat,aH];ext ğ ax List.map_drop;show Ât Nat.le_total Ρ L.length c
 .rw[YD c,Yt (Ãf Yx Za)]
 .rw[Nat.min_eq_right c,List.drop_eq_nil_of_le (Ż Za),ÁG List.drop_eq_nil_of_le Za c];simp
abbrev NsAt Ë(kvs:X0)(ov:As Nm):Prop:=Rws (λ v n=>œ v n) kvs ov
theorem NsAt.ts(ϛ NsAt kvs ov t):NsAt H' kvs ov:=ÅN x #[z.1,z.2.ts' t]
inductive spOvers  Μ:Prop
 |mk (l:XH) (L:L3) Ė (ÃA l) (h1:Į H l (Ϟ L)) (h2:(∀x∈L,DA H ö Ð)) (h3:(∀x∈L,Êm/\Ð.2.2.ok)) (h4:ÒR) (h5:(L.Pairwise Ùc)) (h6:∀d kvs ov H',ó->Å7 H' d->NsAt H' kvs ov->(∀ãZ,look ov (ÄF j)=ovJ (L.map Prod.snd) j)->(∀n,(∀x∈L,Ña Ð)->look ov n=none)->Đ d H'):spOvers  vs H Q E_
abbrev qL:Stmt:=top 82
abbrev FH:Ä Str:=["done","overs","at","deed","later"]
theorem iw:ŀ FH "done" qL:= ñ
theorem D6(F:é "overs_of" "overs_of" qL)(a7:Âg spNameOf)(UQ:Ð1 3 "apart" spApart)(i7:Ē "enumerate")(a9:Ē "len"):ă 4 ["done"] spOvers:=by
 show ĩ iw [l,L,n,rfl,hl,hL,hn,l1,pw,q];exists _,(b_c (Ĕ 1 iw.nd qC)
   (b_c (cW ZU rfl (IA i7 (Ğ 0)) (Én 2 iw.nd 3) (b_1 (aM (aE (Λ nI rfl) (ÈL 3) (aJ (q_a aA (q_a aA (q_a aA (ņ aA (ð aA))))))) (b_c (Èe 4 iw.nd "each" (ÅP [3] Ãl) rfl (bc (fg vH ü (eM (aI eW Ū aj)) fq)) (ÆF "each" "deed") Àe (Ĭ (nX (t_w (hJ (aE (sX hr.units) (fg dW (ÍH ü) fq (eM aj)) (fg dW (ÍH ä) fq (eM aj))) (gN (Ýx UQ 1)))))) (Ĭ ü))
   (b_1 (aM (Æz aE Ck 4) (b_1 (kh hr.units ä (ϕ a7 3) (ī a7 (ð (ar cJ ↑4 aj))))) b_0))) b_0)))
   (Ás ä)))
 ext Áy;intro od god;show ÂI w0 af god (.dT []) ł;show ϐ #[Å,ù l,w0 Â hl,? _];refine ŕ Ir i 2 j 3 (λ k Z H'=>ó/\∃(kvs:X0) (ov:As Nm) (o2 o3 o4:Option V),Å7 H' od/\NsAt H' kvs ov/\ov.length<=k/\(∀ãZ,look ov (ÄF j)=if j<k then ovJ (L.map Prod.snd) j else none)/\(∀n,(∀x∈L,Ña Ð)->look ov n=none)/\Z=[Ö l,Ö od,o2,o3,o4])
  #[w0,[],[],none,none,none,ad,.nil,Zf _,λ j hj=>rfl,Á1 _ rfl,rfl] (Ä2 (Âf hl)) Ĳ
 .rintro k x Z H3 hx ⟨S3,kvs,ov,o2,o3,o4,eod,hns,lov,hlk,hno,eZ⟩ DE hDE T hT;subst eZ;exists Áz hk,dj hx;have hm:=ZD hk
  ext hT H4 wT zz
  have S4:=S3.trans wT;ext ŧ eod4 wT eod;have ns4:=õ hns.ts wT;obtain⟨c,wa,e1,e2,⟨r,e3,e4⟩,e5,e6⟩:=(hL _ hm).ts (XV S4);show ÈO (Hl rfl (XW e1) at2 (XW e3) at0 #[Ċ u gu]) gu H5 wu eu #[ù u,ÃZ eu,î,ţ];have ei:Ãt (V.str L[k].2.2.2.word) äs=rp L[k].2.2.2:=Gc _;rw[ei];have S5:=S4.trans wu;ext ŧ eod5 wu eod4;have ns5:=õ ns4.ts wu;have ek:(L.map Prod.snd)[k]?=some L[k].2:=by rw[Zs,Ze hk];rfl
  have ej:ovJ (L.map Prod.snd) k=if rp L[k].2.2.2=true then((ϡ L.drop Ρ).find? λ e=>iE e L[k].2).map nm3 else none:=by ext ÀY ovJ ek List.map_drop
  have kept:∀{H':Hp},Same H5 H'->ovJ (L.map Prod.snd) k=none->∀j (hj:j<L.length),look ov (ÄF j)=if j<k+1 then ovJ (L.map Prod.snd) j else none:=λ _ e j hj=>by
   rw[hlk j hj];by_cases c1:j<k
   .rw[XC c1,XC (ÔF c1)]
   .rw[XB c1];ext å c2 j k
    .subst c2;rw[ĥ XC,e]
    .rw[ĥ XB]
  cases cf:rp L[k].2.2.2 with
  |false =>rw[cf,ÃN]at ej;exact aF (hDE Â #[S5,kvs,ov,_,_,_,eod5,ns5,ÄV lov,kept (Same.refl _) ej,È hno])
  |true =>
   rw[cf,XC rfl]at ej;ext Ħ aP;refine ay (Ø R hR);refine#[Ü,ë,Áo l,À7 XX S5 hl,λ pc gpc=>#[Áe pc ad]];have ecut:=KC L k;ext ň;rw[ecut]
   ext gpc H6 wpc epc
   have S6:=S5.trans wpc;ext ŧ eod6 wpc eod5;have ns6:=õ ns5.ts wpc;refine bL (xs:=ax (Å0)) (λ i zs H'=>Same H6 H'/\zs.length<=i/\zs=ax (((Å0).take i).filter λ y=>Êv)) (Ãf aH Yx) (λ _ _ _ z=>z.2.1) #[Same.refl _,Zf _,rfl] (È3 epc) Ĳ
   .ext Îg zs lz ez;exists Áz hi,dj hv;have hy:(Å0)[i]∈L:=List.mem_of_mem_drop (ZD hi);generalize hyy:(Å0)[i]=y at hy hv ⊢;have ti:(Å0).take (i+1)=(Å0).take i++[y]:=bM (by rw[Ze hi,hyy]);have S7:=S6.trans sm;have dy:=(hL _ hy).ts (XV S7);have dk:=(hL _ hm).ts (XV S7);show É1 [cy,wy,y1,y2,y3,_] dy [ck,wk,k1,k2,k3,_] dk;show É1 [ry,y5,y6] y3 [rk,k5,k6] k3;show Ť (Át y1 at2 #[Å,Ł wy y5,Č t1 H8 s8 e8]) (vix rfl (XW (s8 Â k1)) at2 #[Å,ù wk,s8 Â k5,Č t2 H9 s9 e9]);have s89:=s8.trans s9;have p3:=ED (r:=rk) cf (õ k6.ts s89) e9;exists[dx,p1,p2,px],KL (r:=ry) (d:=L[k].2.2.2) (õ y6.ts s89) (hn y hy).2 (s9 Â e8) cf;refine#[dx,_,p1,p3,p2,BM _,ţ];rw[px];have drop:Êv=false->∀{H'':Hp},Same H' H''->Y zs H'':=λ eo {H''} s''=>ÀM #[sm.trans s'',ÄV lz,by rw[ti,Ys,List.filter_cons,XB (ÊU eo),List.filter_nil,ZQ];exact ez];cases cs:pF y.2.2.2 L[k].2.2.2 with
    |false=>exact aF (aF (drop (by ext ğ iE cs;rfl) s89))
    |true =>
     ext Ħ aP;refine#[Ü,y.1,L[k].1,y.2,L[k].2,rfl,õ dy.ts s89,õ dk.ts s89,by rw[(hn y hy).1,(hn _ hm).1],λ HA sA=>Àk];cases ca:lG y.2 L[k].2 with
     |false=>exact aF (drop (by ext ÀY iE ca Bool.and_false) (s89.trans sA))
     |true =>refine aP (#[Å,ÀM (Ê9 (s89.trans sA) lz)]);rw[ti,Ys,List.filter_cons,XC (by show Êv=true;ext ÀY iE cs ca;rfl),List.filter_nil,ez];ext ğ ax Zy;rfl
   .rintro zs lt H7 ⟨sm,lz,ez⟩ glt;rw[aH,ZO]at ez
    ext glt H8 wlt elt
    have S8:=S6.trans (sm.trans wlt);have eod8:=į wlt sm eod6;have ns8:=Ě ns6.ts XV sm.trans wlt;refine hR ÁZ;have ef:((ϡ L.drop Ρ).find? λ e=>iE e L[k].2)=(((Å0).filter λ y=>Êv).head?).map Prod.snd:=Â4 List.head?_filter List.find?_map
    refine#[Áo lt,Ìg elt,ë,ţ];cases hF:(Å0).filter (λ y=>Êv)with
    |nil =>rw[hF]at ez ef;subst ez;rw[ef]at ej;refine aF (hDE Â #[S8,kvs,ov,_,_,_,eod8,ns8,ÄV lov,λ j hj=>kept (Same.refl _) ej j hj,È hno])
    |cons y ys =>
     rw[hF]at ez ef;subst ez;have hy:y∈L:=by
      have:y∈(Å0).filter λ y=>Êv:=Ă hF Zk
      exact List.mem_of_mem_drop (ZS.mp this).1
     rw[ef]at ej;refine nY (ģ _) (ÅE z (show É 0<(Ň ax (y::ys):Int) by rw[aH,Zo];exact ÔM (.c Ć)) z);have dy:=(hL _ hy).ts (XV S8);have dk:=(hL _ hm).ts (XV S8);have lkv:=dX ns8;show Ť #[ÄR lt,XX elt,at0,_,Å,dy.dd,Č t1 H9 s9 e9] #[Ü,ù _,(õ dk.ts s9).dd,λ t2 HA sA eA=>#[ù od,DPut.t (k:=nk (nm3 L[k].2)) (į sA s9 eod8) eA (ĥ bo),? _]];have s9A:=s9.trans sA;have td:TS HA (ß HA od (.dT (bC kvs (nk (ÄF k)) (Ï t1)))):=À7 pN s9A eod8;refine hDE Â #[cD (S8.trans s9A) god,_,aK ov (ÄF k) Ñt,_,_,_,ad,NsAt.ts (iM (õ ns8.ts s9A) (n:=ÄF k) (it:=nm3 y.2) #[È t1,sA Â e9]) td,by have:=dZ ov (ÄF k) Ñt;exact â Ç (ã 1) (Ñ Ç (ã 2) ÅF) æ this lov,Ø j hj,λ m hm'=>by rw[aG,XB λ z=>hm' _ hm z.symm];exact hno m hm',rfl];rw[aG];ext å c2 j k
     .subst c2;rw[XC rfl,ĥ XC,ej];rfl
     .have ne:ÄF j≠ÄF k:=by
       have p:=ZR.mp pw;ext Ât YO j k c
       .exact p j k hj hk c
       .exact λ z=>p k j hk hj ∅ z.symm
      rw[XB ne,hlk j hj];by_cases c1:j<k
      .rw[XC c1,XC (ÔF c1)]
      .rw[XB c1,ĥ XB]
 .rintro Z H3 ⟨S3,kvs,ov,o2,o3,o4,eod,hns,lov,hlk,hno,eZ⟩;refine ł;subst eZ;rw[aH]at lov hlk;exact#[Å,q od kvs ov H3 S3 eod hns (λ j hj=>by rw[hlk j hj,XC hj]) hno]
abbrev Rp:=Nm×Str×Option Nm
def RpAt Ë(v:V)(r:Rp):Prop:=ã1 bv UpAt
theorem RpAt.ts(ϛ RpAt v r s):RpAt H' v r:=Ëm t nv bv x s h3.ts'
def C8(acc:As Nm)(qs:Ŋ Nm Nm):As Nm:=qs.foldl (λ acc q=>aK acc q.1 q.2) acc
def fQ(T:Ä Tk):Ŋ Nm Nm:=T.filterMap λ r=>r.2.2.map λ b=>(r.1,b)
def AI(T:Ä Tk):As Nm:=C8 [] (fQ T)
def gH ãd(n:Nm)(w:Str):Rp:=if w="off" then(n,"off",(look ts n).map λ d=>ý)else match look kp n with
 |Ã b=>(n,"kept",Ã b)
 |none=>match look ov n with
  |Ã b=>(n,"over",Ã b)
  |none=>(n,w,none)
def nR ãd ÒC:Ä Rp:=Zq0.map λ z=>gH kp ov ts (nm3 Áv) z.2
def BO(w:Str):Bool:=Ài w "done"
def eE ÒC:L3:=(Zq0.filter λ z=>BO z.2).map Prod.fst
def OvR(D:Ä D3)(ov:As Nm):Prop:=(∀(Ŏ j d D3),Ŗ D d->look ov (nm3 d)=ovJ D j)/\∀n,(∀d∈D,Ña d)->look ov n=none
theorem Jq(Çg p):w≠"off":=by
 cases p with
 |none=>ext ÆE
 |take=>ext ÍC
 |back=>ext ÍC
 |top _=>ext ÆE
 |step _ _ wr=>cases wr<;>decide +kernel
theorem LV Ëg:∀(Ŏ i d Dd) (r:bu),Ý ds d->Ý rs r->ĳ="off"->∃dd,look ts ý=Ã dd:=by
 induction h with
 |nil=>intro i d r h;simp at h
 |@off ol d0 ds rs c _ ih =>
  intro i d r h1 h2 h3;cases i with
  |zero =>
   cases h1;cases e:look ts d0.1 with
   |some dd=>exact#[È dd]
   |none =>ext Ĝ cU c;rw[e]at c;have c':Ą (! d0.2.isTurn&&false):=c;ext è Bool.and_false c' c'
  |succ i=>exact ih i d r h1 h2 h3
 |turn _ _ _ ih =>
  intro i d r h1 h2 h3;cases i with
  |zero =>cases h2;ext Âw h3;split at h3<;>exact ÐQ h3
  |succ i=>exact ih i d r h1 h2 h3
 |play _ _ p _ ih =>
  intro i d r h1 h2 h3;cases i with
  |zero =>cases h2;show ĕ h3 (Jq p)
  |succ i=>exact ih i d r h1 h2 h3
def PrN Ë(v:V)(q:Nm×Nm):Prop:=∃(t b:XH) (bv:V),v=Æ t/\H t=Ã (Ò [Æ b,bv])/\H b=Ã (Ò ((nk q.1).map kV))/\NameIs H bv (nk q.2)
theorem PrN.ts(ϛ PrN v q s):PrN H' v q:=μ [t,b,bv,h1,h2,h3,h4] x #[t,b,bv,h1,Ģ h2,Ģ h3,h4.ts' s]
theorem Ju(x:Ág PrN H zs qs):∃ps,Ág Bo H zs ps/\à5:=by
 induction x with
 |nil=>exact#[[],.nil,.nil]
 |@cons v q _ _ h _ ih =>exists[ps,i1,i2],ih;show þ [t,b,bv,rfl,h2,h3,h4] h #[(nk q.1,bv)::ps,Ę #[t,b,Ì h2,h3] i1,Ę #[Ì h4] i2]
theorem QF(x:à5):∀{kvs:X0} {acc:As Nm},NsAt H kvs acc->NsAt H (bR kvs ps) (C8 acc qs):=by
 induction x with
 |nil=>intro kvs acc a;exact a
 |@cons p q ps qs h _ ih =>intro kvs acc a;show NsAt H (bR (ÊS) ps) (C8 (aK acc q.1 q.2) qs);rw[h.1];exact ih (iM a h.2)
inductive spReportG  Μ:Prop
 |mk ÏP Ė Ìq (Îi h2) (h3:∀ol ov a ys H',Φ ol->Ñi ov->ó->Ñw a ys RpAt (nR (AI (Åh)) ov (aO (aT L)) (L.zip W))):spReportG  vs H Q E_
abbrev oK:Stmt:=top 81
abbrev DK:Ä Str:=["ready","words","turns","kept","over","report","name","word"]
theorem dq:ŀ DK "ready" oK:= ñ
theorem Cu(F:é "report_of" "report_of" oK)(u3:ÂW 8 "words_of" spWords)(j9:ÂW 2 "last_turns" spLast)(k7:ÂW 9 "takings_of" spTakings)(Vr:Ŀ 4 "overs_of" ["done"] spOvers)(a7:Âg spNameOf)(Vn:Ē "dict")(p9:Ē "zip"):Ç0 10 spReportG:=by
 show ĩ dq [l,L,W,n,Φ,rfl,lr,T,q];ext ÑY;have l1:=T.len;exists _,(Èz 1 dq.nd u3 0
   (Èz 2 dq.nd j9 0
   (b_c (Ĕ 3 dq.nd (oq (Eo rfl hr.units) Vn yX (q_a (ÄW ["name","item","by"] (bc (ϕ k7 0)) (Ûf 3 (Øg 0 (Øg 1 (Øg 2 ic)))) ßj) ai)))
   (b_c (Ĕ 4 dq.nd (ī Vr (q_a (ÄW ["deed","named"] (NV p9 (Ã8 0 1)) (ÎR "deed" "named") (jh Çd) (Ĭ (nX (aE bW (ÍH ä) aA))) (Ĭ ü)) ai)))
   (Âu 5 dq.nd bX ai
   (b_c (cW ZU rfl (bc ä) (Én 6 dq.nd 7) (b_1 (ÃR 7 (b_1 (bK (iF ↑5 (aJ (ÀO 6 (q_a aA (ņ (aC a7 ↑99 (ð (ÌD cH 2 6))) ai))))))) (b_1 (aM (ÌD Hf 6 3) (b_1 (bK (iF ↑5 (aJ (ÀO 6 (ņ aA (ð (ÌD cH 3 6)))))))) (b_1 (aM (ÌD Hf 6 4) (b_1 (bK (iF ↑5 (aJ (ÀO 6 (ņ aA (ð (ÌD cH 4 6)))))))) (b_1 (bK (iF ↑5 (aJ (ŏ 6 (ÀO 7 (ð cQ))))))))))))))
   (Ê3 5)))))))
 show ϐ #[äK lr,T.safe,λ a ys rs H1 s1 ea pr run=>ł];exists[hW,hN],T.words rs run;have lrs:rs.length=L.length:=by rw[lE run,ll]
 have lys:ys.length=L.length:=by rw[ZC pr,lrs]
 have lW:W.length=L.length:=by rw[<-hW,Za,lrs]
 ext äJ
 have lr1:=lr.same s1;show ϐ #[äK lr1,λ ta tvs H2 s2 hta hts=>ł];have lr2:=lr1.same s2;ext Áy;refine#[Å,Õg,lr2,T,λ ol a3 vs3 H3 hol s3 ea3 pk=>#[Áe a3 ea3]];have lvs:vs3.length<=63:=by
  rw[ZC pk];have:=wU ol (ϡ bD (L.zip W)) (ϡ bD (L.zip W));ext Â5 Za;have h2:Ň bD (L.zip W)<=Ň L.zip W:=by ext ğ bD Za;exact Z3 ..
  exact Zn this (ÅT ϙ 63 (Ñ Ç Ê (Ñ Ê Ô ßh)) æ h2 (Nat.le_of_eq lzw) l1)
 have q':=λ ov a ys H'=>q ol ov a ys H' hol;generalize Åh=TK at pk q';refine bL (xs:=vs3) (ØN PrN (fQ (TK.take i))) ∅ Çk (È3 ea3) Ĳ
 .ext Îg zs lz pz;exists[r,hri,t,nv,iv,bv,rfl,e1,e2,e3,e4],bE pk hv;have et:fQ (TK.take (i+1))=fQ (TK.take i)++fQ [r]:=by rw[bM hri];ext ğ fQ List.filterMap_append
  have tm:=XV sm;refine#[t,[nv,iv,bv],rfl,XW (ÂC e1),Ì nv,Å,Ł iv bv,Å,Ì ? _];ext ÁJ nb hnb e2;cases hb:ÃJ with
  |none =>rw[hb]at e4;ext ÇS bv e4;refine#[ŭ,jR rfl (ÀM #[sm,ÄV lz,? _])];rw[et,äi [],ZQ];exact pz
  |some b =>rw[hb]at e4;ext ÁJ bb hbb e4;show Ìw #[Ü,Ċ tp gtp];have wtp:=af gtp (Í1 Æ nb bb);refine ÀM (Ê9 wtp lz);rw[et,äi [(r.1,b)]];exact YR (Æt pz PrN wtp) #[tp,nb,Æ bb,Ì ad,į wtp sm hnb,È bb,į wtp sm hbb]
 rintro zs pk4 H4 ⟨s4,lz,pz⟩ gpk;rw[ZC pk,ZO]at pz;have w4:=af gpk (Õ zs);exists[ps,ip1,ip2],Ju (Æt pz PrN w4);refine#[pk4,zs,È ps,ad,ip1,∅,Ø kd gkd];show Äd w5 gkd (Ç4 ps) ekd (ψ H4 pk4 zs) kd;have hkp:NsAt (upd (ψ H4 pk4 zs) kd (Ç4 ps)) (bR [] ps) (AI TK):=(QF ip2 ė).ts (XV w5);have s25:Same H2 (upd (ψ H4 pk4 zs) kd (Ç4 ps)):=Ě s3.trans s4.trans w4.trans w5;generalize bR [] ps=kvk at ekd hkp s25 ⊢;generalize upd (ψ H4 pk4 zs) kd (.dT kvk)=H5 at ekd hkp s25 ⊢;generalize AI TK=kp at hkp q';refine ł;ext ě s15 s2.trans s25 lr5 lr1.same s15;ext ŧ ea5 s15 ea;have pr5:=Æt pr WoAt s15;ext ŧ hta5 s25 hta;have hts5:TsAt H5 tvs (aO (aT L)):=ÅN hts #[z.1,z.2.ts (XV s25)]
 have hwi:∀(Ŏ i r bu),Ý rs r->∃hi:i<L.length,W[i]?=some ĳ/\r.1=ÄF i:=λ i r hri=>by
  have hi:i<L.length:=by have:=Àg hri;ext Âh this lrs
  refine#[hi,? _,? _]
  .rw[<-hW,Zs,hri];rfl
  .ext ßn hri
 show ϐ #[Ü,l,a,_,_,rfl,XX lr5.1,XX ea5,by rw[aH,lys],? _];refine rg (N:=Ň ax L) (λ i zs H'=>Same H5 H'/\zs.length<=i/\zs=Ě ax eE Ãd i) (Ż aH) (λ i zs _ z=>z.2.1) #[Same.refl _,Zf _,rfl] (λ i zs H' hi z=>#[hi,XX (Âf lr5.1),ÔO ea5]) (λ zs H' z=>#[rfl,XX (Âf lr5.1),ÔO ea5]) Ĳ
 .rintro i zs H' x H6 hi ⟨sm,lz,rfl⟩ ⟨T',p,y,hT,hp,hy,rfl,rfl⟩ Y hY;have wT:=af hT (Ò [p,y]);exists[r,hri,t,nv,rfl,e1,e2],bE pr5 hy;exists[hiL,hw,_],hwi i r hri;exists Áz _,dj hp;ext ãU
  have et:eE (Ãd (i+1))=eE (Ãd i)++eE [(L[i],ĳ)]:=by rw[bM hz];ext ÀY eE Ys Zy
  show Ť (ØJ T' ad) (vix rfl (XW (į wT sm e1)) at1 #[Ł rfl ? _]);by_cases c:ĳ="done"
  .rw[c];refine cS #[Å,ÀM (Ê9 wT lz)];rw[et,nO,c];rfl
  .refine aW (ÃF c V.str.inj) (ÀM #[sm.trans wT,ÄV lz,? _]);rw[et,nO];have:eE [(L[i],ĳ)]=[]:=by unfold eE BO;simp[c]
   rw[this];exact(ZQ _).symm
 rintro zs pz H6 ⟨s6,lz,rfl⟩ gpz;have hzl:Ň ax L=Ň L.zip W:=ÀK aH lzw
 rw[hzl,ZO]at lz ⊢;have w6:=af gpz (Õ (Ě ax eE L.zip W));have lr6:=lr5.same (s6.trans w6);ext âH eE
 have pwL:L.Pairwise Ùc:=by have:=T.nod;ext Ĝ aT this;ext Â5 ZX;exact Yl.mp this
 have pwD:(eE (L.zip W)).Pairwise Ùc:=by
  have hs:(eE (L.zip W)).Sublist L:=by unfold eE;have h1:((L.zip W).filter λ z=>BO z.2).Sublist (L.zip W):=List.filter_sublist;have h2:=h1.map Prod.fst;rw[List.map_fst_zip (by show Ê0 (Nat.le_of_eq lW.symm))]at h2;exact h2
  exact pwL.sublist hs
 refine#[pz,eE (L.zip W),È n,ad,λ x hx=>lr6.2 x (mem x hx),ÂG T.cl x (mem x hx),? _,pwD,λ od kvs ov H7 s7 eod hns hlk hno=>? _]
 .rw[aH]at lz;exact ÓG 63 lz (Nat.le_of_eq lzw) l1
 have hov:Ñi ov:=by refine#[Ú j d hd,λ m hm=>hno m (ÂG hm Ð (Zw.mpr #[ś x hx]))];ext Ê5 Zs hd x hx;exists Áz hj,Zv.mp hx;exact hlk j hj
 have s57:Same H5 H7:=s6.trans (w6.trans s7);have q2:=λ a ys H'=>q' ov a ys H' hov;ext ŧ ekd7 s57 ekd;have hkp7:=õ hkp.ts s57;ext Ä3 ea7 s57 ea5 hta7 hta5;have hts7:TsAt H7 tvs (aO (aT L)):=ÅN hts5 #[z.1,z.2.ts (XV s57)]
 have pr7:=Æt pr5 WoAt s57;have S7:Same H H7:=s1.trans (s15.trans s57);ext Å5 offs LV run ł;ext Áy;show ÃB #[Ċ rl grl] w8 grl ń;have S8:=S7.trans w8;have erl:ß H7 rl ń rl=Ã ń:=ad;have grl0:á rl:=S7.free grl;ext Ä3 ea8 w8 ea7 ekd8 ekd7;have hkp8:=õ hkp7.ts w8;ext ŧ eod8 w8 eod;have ns8:=õ hns.ts w8;ext ŧ hta8 w8 hta7;have hts8:TsAt (ß H7 rl ń) tvs (aO (aT L)):=ÅN hts7 #[z.1,z.2.ts (XV w8)]
 have pr8:=Æt pr7 WoAt w8;ext Ÿ nar a rl grl ea7
 generalize ß H7 rl ń=H8 at S8 erl ea8 ekd8 hkp8 eod8 ns8 hta8 hts8 pr8 ⊢;refine ł;generalize aO (aT L)=trn at hts8 offs q2;have ezr:∀i:Nat,nR kp ov trn (Ãd i)=(Ãd i).map λ z=>gH kp ov trn (nm3 Áv) z.2:=ę rfl;ext Áy;refine#[Å,Áe a ea8];refine ÁL gq a (xs:=ys) (λ i Z H'=>(Ç2 rl H8 H')/\∃(zs:X1) (o6 o7:Option V),ĺ H' rl zs/\zs.length=i/\Ág RpAt H' zs (nR kp ov trn (Ãd i))/\Z=[Ö l,Ö a,Ö ta,Ö kd,Ö od,Ö rl,o6,o7])
  #[ÊQ o,[],Ðd erl,.nil,rfl] (Ä2 (Âf nar ea8)) Ĳ
 .ext ÌQ kp8 zs o6 o7 hrl lz pz;have tp:TS H8 H':=λ b ws e=>kp8 b _ (Àx e erl) e;exists[r,hri,t,nv,rfl,e1,nb,rfl,e2],bE pr8 hv;exists[hiL,hw,hn3],hwi i r hri;ext ãU
  have er:nR kp ov trn (Ãd (i+1))=nR kp ov trn (Ãd i)++[ÊX ĳ]:=by rw[bM hz];ext ÀY nR Zy hn3;rfl
  have nkr:kd≠rl:=Àx ekd8 erl;have nor:od≠rl:=Àx eod8 erl;have ntr:ta≠rl:=Àx hta8 erl;have n1:=kp8 Â nkr ekd8;have n2:=kp8 Â nor eod8;have n4:=kp8 Â ntr hta8;ext ě n3 ns8.ts tp n5 hkp8.ts tp;ext ŧ e2' tp e2;have add:∀{H9:Hp} {tr:XH} {bv:V} {w0:Str} {u:Option Nm},Same H' H9->H9 tr=Ã (Ò [Æ nb,Î w0,bv])->ÊX ĳ=(r.1,w0,u)->UpAt H9 bv u->∀(R:À0),(∀σ' H'',((Ç2 rl H8 H'')/\∃(zs:X1) (o6 o7:Option V),ĺ H'' rl zs/\zs.length=i+1/\Ág RpAt H'' zs (nR kp ov trn (Ãd (i+1)))/\σ'=[Ö l,Ö a,Ö ta,Ö kd,Ö od,Ö rl,o6,o7])->R σ' H'')->R [Ö l,Ö a,Ö ta,Ö kd,Ö od,Ö rl,Ö nb,Ã (.str ĳ)] (ß H9 rl (Õ (zs++ġ tr))):=fun{H9 tr bv w0 u} s9 etr erp hu R hR=>by
   have tr9:TS H9 (ß H9 rl (Õ (zs++ġ tr))):=Ùz ws e' s9 hrl
   refine hR Â #[λ b o hb e=>Äq hb s9 (kp8 b o hb e),zs++ġ tr,_,_,ad,Â4 Zm lz,È ? _];rw[er,erp];exact YR (Ϡ pz (z:RpAt ì) z.ts (TS.trans (XV s9) tr9)) #[tr,Æ nb,È bv,tr9 Â etr,#[È nb,į tr9 s9 e2'],hu.ts tr9]
  show Ť (ØJ t (tp Â e1)) #[Å,Ł rfl ? _];by_cases co:ĳ="off"
  .have hdi:Ý (aT L) (toD L[i].2):=by unfold aT;rw[Zs,Ze hiL];rfl
   exists[dd,hdd],offs i _ r hdi hri co;have hdd':look trn r.1=Ã dd:=Ă hn3 hdd
   have er1:ÊX ĳ=(r.1,Ày "off",some dd.1):=by unfold gH;rw[XC co,hdd'];rfl
   exists[dv,t1,t2],bw hts8 hdd';rw[show V.str ĳ=V.str "off" from by rw[co]];ext Ħ cS;refine#[Ån hrl,Àj,ś ta dv,t1▸È0 r n4 e2',ś dv dd,t2.ts tp,λ tn H9 s9 e9=>#[sz rfl,λ tr gtr=>#[rl,ÀW,af gtr ì (s9 Â hrl),ĥ bo,? _]]];have wtr:=af gtr (Ò [Æ nb,Î "off",Æ tn]);have:=add (s9.trans wtr) ad er1 #[È tn,wtr Â e9] _ hDL;ext Â1 co
  refine aW (ÃF co V.str.inj) ? _;cases ck:look kp r.1 with
  |some b =>
   have er1:ÊX ĳ=(r.1,Ày "kept",Ã b):=by unfold gH;rw[XB co,ck]
   exists[bv,hb1,bb,rfl,hb2],bw n5 ck;ext Ñs kd n1 hb1;refine aP #[Ån hrl,Àj,kd,âi n1,Ön];ext ÚA
  |none =>
  have hk':aU kvk (nk r.1)=none:=kg n5 ck;ext Ñs kd n1 hk';ext Ħ aF;cases cv:look ov r.1 with
  |none =>
   have er1:ÊX ĳ=(r.1,ĳ,none):=by unfold gH;rw[XB co,ck,cv]
   have hv':aU kvs (nk r.1)=none:=kg n3 cv;ext Ñs od n2 hv';refine aF #[Ån hrl,Ü,Ön];exact add (af gtr _) ad er1 rfl _ hDL
  |some m =>
   have er1:ÊX ĳ=(r.1,Ày "over",Ã m):=by unfold gH;rw[XB co,ck,cv]
   exists[bv,hb1,bb,rfl,hb2],bw n3 cv;ext Ñs od n2 hb1;refine aP #[Ån hrl,Àj,od,âi n2,Ön];ext ÚA
 .rintro Z H' ⟨kp8,zs,o6,o7,hrl,lz,pz,rfl⟩;refine ł;have:ys.length=Ň L.zip W:=ÀK lys lzw
  refine#[Å,q2 rl zs H' (λ b o e=>kp8 b o (aq e grl0) (S8 ŋ)) hrl ? _];rw[this,ZO]at pz;exact pz
def jL(n:Nm):Wd->Ä Nm
 |.put ì=>[n]
 |.part m Â=>[m,n]
 |.join m o=>[m,o]
 |.move m Â=>[m]
 |.write m _=>[m]
 |.mark m _=>[m]
 |.due m _=>[m]
 |.fold m _=>[m]
 |.back m=>[m]
 |_=>[]
theorem tY(d:D3):dD d=jL (nm3 d) ÂK:=by exists[hn,cs,wd],d;cases wd<;>rfl
theorem mi ÅB:∀Ñg {rs rs':Ä bu},Eqo ol ol'->Á7 ds rs->Runs ts tn ol' ds rs'->rs=rs':=by
 induction ds with
 |nil =>intro ol ol' rs rs' e h h';rw[yi h,yi h']
 |cons d ds ih =>
  intro ol ol' rs rs' e h h';cases c:cU d ts with
  |true =>exists ÀP r1 x1,pE c h;exists ÀP r2 x2,pE c h';rw[ih e x1 x2]
  |false =>
   cases c2:Υ with
   |true =>exists ÀP r1 x1,mh c c2 h;exists ÀP r2 x2,mh c c2 h';rw[ih e x1 x2]
   |false =>ext ÐN h;exists[w',so',o2,r2,rfl,p2,x2],mf c c2 h';exists ÀP rfl e2,lX e p1 p2;rw[ih e2 x1 x2]
theorem IN Ås(f:β->β)(l:As β)(x:Nm):look (l.map λ p=>(p.1,f Ĺ)) x=(look l x).map f:=by
 induction l with
 |nil=>rfl
 |cons p l ih =>
  rw[Zu];unfold look;ext Án c x
  .rw[XC c,XC c];rfl
  .rw[XB c,XB c];exact ih
theorem N5 Îm:∃ol',JoinR ol n m itn itm ol':=by
 obtain⟨itm2,h2⟩:∃it,look (Éb) m=Ã it:=by
  rw[aG];split
  show ÀI #[Å] #[_,hm]
 refine#[(ÍP).map λ p=>(p.1,dG n m Ĺ),Χ,itm2,h2,λ x=>IN Â x]
 .rw[Za,iX h2,iX hn]
 .rw[ZX];show Êx aK (Éb) m Ól=_;rw[dR,XC (ό h2),dR,XC (ό hn)]
theorem MC(h:hV ol s):∃ol',Ap ol s ol':=by
 have g:∀n∈s.items,∃it,Κ:=λ n hn=>ZF.mp (h n hn);cases s with
 |gone n=>exact#[_,.gone]
 |put=>exact#[_,.put]
 |move n u pl=>ext Él move
 |write n tx=>ext Él write
 |mark n b=>ext Él mark
 |due n b=>ext Él due
 |fold n b=>ext Él fold
 |part n a m pl=>ext Él part
 |join n m =>exists[it,e],g n (Ĉ Sd.items);exists[it2,e2],g m (Ĉ Sd.items);exists[ol',j],N5 e e2;exact#[_,.join e e2 j]
theorem EY{wd:Wd}(nt:Ũ wd.isTurn)(rd:∀s,Ç5->Ready ol s):∃w so ol',PlayR ol n wd w so ol':=by
 rcases DC (n:=n) nt with rfl|⟨m,rfl|rfl⟩|⟨s,hs⟩
 show ÀI #[_,_,_,.none] #[_,_,_,.take]
 .exact#[_,_,_,.back]
 .cases ct:AH ol wd with
  |true =>
   cases wd with
   |put u pl tx =>
    cases u with
    |none=>cases ct
    |some m =>
     have:ÁB m:=by
      have z:Ą (!(ÂM m)):=ct;cases e:look ol m with
      |none=>rfl
      |some it=>ext è e z z
     exact#[_,_,_,.top this]
   |_=>cases ct
  |false =>
   have r:=rd s hs;by_cases hh:hV ol s
   .exists[b,hb],r.bd hh;rcases b with _|_|_
    .exists[ol',ap],MC hh;exact ÒK (.done hh hb ap)
    show ÀI (ÒK (.far hh hb)) (ÒK (.beneath hh hb))
   .exact ÒK (.none hh)
def iI(ts:As Dd):Ol->Ä Dd->Þ Ol
 |ol,[],e=>e=ol
 |ol,À6,e=>((åe)->iI ts ol ds e)/\(Ņ cU d ts->Ũ Υ->∃w so ol',Æh d/\iI ts ol' ds e)
theorem oX ÅB:∀ÃC {ol ol' e e':Ol},Eqo ol ol'->iI ts ol ds e->iI ts ol' ds e'->Eqo e e'
 | [],ol,ol',e,e',q,h,h'=>by have h1:e=ol:=h;have h2:e'=ol':=h';rw[h1,h2];ext ŷ
 |À6,ol,ol',e,e',q,h,h'=>by
  cases c:cU d ts with
  |true=>exact oX q (h.1 (Ó c)) (h'.1 (Ó c))
  |false =>
   cases c2:Υ with
   |true=>exact oX q (h.1 (ā c2)) (h'.1 (ā c2))
   |false =>exists[w,so,o1,p1,x1],h.2 c c2;exists[w',so',o2,p2,x2],h'.2 c c2;exact oX (lX q p1 p2).2.2 x1 x2
theorem qd ÅB äS(h:iI ts ol ds e):iI ts ÄJ e:=#[ę h,λ z1 z2=>by
 ext Ś c c c
 .ext è c z1 z1
 .ext è c z2 z2]
theorem uo ÅB{w:Str}ÔE(p:Æh d)(h:iI ts ol' ds e):iI ts ÄJ e:=by
 refine#[ģ z,Á1 _ #[w,so,ol',p,h]];ext Ś z z z
 .ext è c z z
 .ext è c2 z z
theorem zt(Çg p):(so=none/\ol'=ol)\/∃s,so=Ã s/\hV ol s/\Bd ol s none/\Ap ol s ol'/\(∀x∈s.news,x=n/\Ą wd.mk)/\∀o2,Ap ol s o2->PlayR ol n wd w so o2:=by
 cases p with
 |none=>exact Α ÁP
 |take=>exact Α ÁP
 |back=>exact Α ÁP
 |@top m pl tx hm=>exact .inr #[Å,λ x hx=>by simp[Sd.items]at hx,.put,.put,λ x hx=>#[by ext Åv Sd.news hx,rfl],λ o2 ap=>by cases ap;exact .top hm]
 |@step _ s w _ hs ht wr =>
  cases wr with
  |none _=>exact Α #[by rw[ÃN],rfl]
  |beneath _ _=>exact Α #[by rw[ÃN],rfl]
  |far _ _=>exact Α #[by rw[ÃN],rfl]
  |done hh hb ap =>
   refine .inr #[s,by rw[XC rfl],hh,hb,Åk ap,λ o2 ap2=>.step hs ht (.done hh hb ap2)];rw[pJ hs]at hx;ext å c wd.mk true
   .rw[XC c]at hx;exact#[Zg.mp hx,c]
   .ext ώ XB c hx
structure Gd(G:Ol->ÃI Dd):Prop where
 skip:∀ÉV,G ÄJ->G ol ds
 play:∀Ñg {d:Dd} ÃC ÛJ,G ÄJ->Æh d->G ol' ds
 small:∀ÉV,G ÄJ->Small ol
 new:∀ÉV,G ÄJ->d.2.mk=true->look ol ý=none
 ready:∀ÉV,G ÄJ->ÐE d
 ter:∀{ol:Ol} ÃC,G ol ds->Ter ol
theorem gI Éi:∀ÃC {ol:Ol},G ol ds->∃rs,Á7 ds rs
 | [],_,_=>#[[],.nil]
 |À6,ol,g=>by
  cases c:cU d ts with
  |true =>exists[rs,h],ÊF gd (gd.skip g);exact#[_,.off c h]
  |false =>
   cases c2:Υ with
   |true =>exists[rs,h],ÊF gd (gd.skip g);exact#[_,.turn c c2 h]
   |false =>exists[w,so,ol',p],EY c2 (gd.ready g);exists[rs,h],ÊF gd (gd.play g p);exact#[_,.play c c2 p h]
theorem AL Éi:∀ÃC {ol:Ol},G ol ds->iJ ts ol ds
 | [],_,_=>trivial
 |À6,ol,g=>by
  cases c:cU d ts with
  |true=>exact zA (Ó c) (AL gd (gd.skip g))
  |false =>
   cases c2:Υ with
   |true=>exact zA (ā c2) (AL gd (gd.skip g))
   |false=>exact JL c c2 (gd.small g) (gd.ready g) λ w so ol' p=>AL gd (gd.play g p)
theorem iW Éi{Φ:Þ Ol}:∀ÃC {ol:Ol} {rs:Ä bu},G ol ds->Á7 ds rs->(∀e,iI ts ol ds e->Φ e)->iZ Φ ol (ϡ bH rs)
 | [],ol,rs,g,r,h=>by rw[yi r];exact h Än
 |À6,ol,rs,g,r,h=>by
  cases c:cU d ts with
  |true =>exists ÀP r1 x1,pE c r;show ÖI ol (gd.skip g) (qd (Ó c) he)
  |false =>
   cases c2:Υ with
   |true =>exists ÀP r1 x1,mh c c2 r;show ÖI ol (gd.skip g) (qd (ā c2) he)
   |false =>
    ext ÐN r;rcases zt p1 with⟨rfl,rfl⟩|⟨s,rfl,hh,hb,ap,nw,again⟩
    .show ÖI _ (gd.play g p1) (uo c c2 p1 he)
    .show iZ Φ ol (s::ϡ bH r1);refine#[gd.small g,Ø x hx,hh,hb,Ø o2 ap2]
     .exists[rfl,hm],nw x hx;exact gd.new g hm
     .have p2:=again o2 ap2;exists[r2,x2],ÊF gd (gd.play g p2);obtain rfl:=mi äd.2.2 x1 x2;exact iW gd (gd.play g p2) x2 λ e he=>h e (uo c c2 p2 he)
theorem JH Ëg:rs.map (λ r:bu=>r.1)=ds.map Prod.fst:=by
 induction h with
 |nil=>rfl
 |off _ _ ih=>rw[Zu,Zu,ih]
 |turn _ _ _ ih=>rw[Zu,Zu,ih]
 |play _ _ _ _ ih=>rw[Zu,Zu,ih]
theorem sj{it:It}(h:Ő ol x):Ő (aK ol n it) x:=by
 rw[aG];split
 .rfl
 .exact h
theorem xq(ap:Ap ol s ol')(x:Nm)(h:Ő ol x):Ő ol' x:=by
 cases ap with
 |join hn hm j =>exists[it,e],ZF.mp h;exists[i,e1,_],(nC hn hm j).2 x it e;rw[e1];rfl
 |gone=>exact h
 |part=>exact sj (sj h)
 |_=>exact sj h
theorem Jp(Çg p)(x:Nm)(h:Ő ol x):Ő ol' x:=by
 rcases zt p with⟨_,rfl⟩|⟨s,_,_,_,ap,_⟩
 .exact h
 .exact xq ap x h
theorem nG:gU "none" = false:=⋯
theorem rD:gU "beneath" = false:=⋯
theorem BY:gU "far" = false:=⋯
theorem Hg(Çg p)(hw:ú gU w):∀x∈jL n wd,Ő ol' x:=by
 cases p with
 |none=>intro x hx;cases hx
 |take=>intro x hx;cases hx
 |@back m =>
  intro x hx;rw[Zg.mp hx];ext ät
 |top _ =>intro x hx;rw[Zg.mp hx,aG,XC rfl];rfl
 |@step _ s w _ hs ht wr =>
  cases wr with
  |none _=>ext è nG hw hw
  |beneath _ _=>ext è rD hw hw
  |far _ _=>ext è BY hw hw
  |done hh hb ap =>
   have mono:=xq ap;cases wd with
   |put u pl tx =>ext ÁH hs ap;intro x hx;rw[Zg.mp hx,aG,XC rfl];rfl
   |part m a pl =>
    ext ãC
    .rw[Zg.mp hx];cases ap with
     |part hl =>rw[aG,XC rfl];rfl
   |join m o =>
    ext ãC
    .rw[Zg.mp hx];exact mono ä2
   |move m u pl=>ext ËX
   |write m tx=>ext ËX
   |mark m tx=>ext ËX
   |due m tx=>ext ËX
   |fold m tx=>ext ËX
   |_=>cases hs
theorem vw Éi:∀ÃC {ol e:Ol},G ol ds->iI ts ol ds e->G e []
 | [],ol,e,g,h=>by have h1:e=ol:=h;ext Œ h1 g
 |À6,ol,e,g,h=>by
  cases c:cU d ts with
  |true=>exact vw gd (gd.skip g) (h.1 (Ó c))
  |false =>
   cases c2:Υ with
   |true=>exact vw gd (gd.skip g) (h.1 (ā c2))
   |false =>exists[w,so,o1,p1,x1],h.2 c c2;exact vw gd (gd.play g p1) x1
theorem sH Éi:∀ÃC {ol:Ol},G ol ds->∃e,iI ts ol ds e
 | [],ol,_=>#[È ol]
 |À6,ol,g=>by
  cases c:cU d ts with
  |true =>exists[e,h],sH gd (ts:=ts) (gd.skip g);exact#[e,qd (Ó c) h]
  |false =>
   cases c2:Υ with
   |true =>exists[e,h],sH gd (ts:=ts) (gd.skip g);exact#[e,qd (ā c2) h]
   |false =>exists[w,so,ol',p],EY c2 (gd.ready g);exists[e,h],sH gd (ts:=ts) (gd.play g p);exact#[e,uo c c2 p h]
theorem lK ÅB:∀ÃC {ol e:Ol},iI ts ol ds e->Ő ol x->Ő e x
 | [],ol,e,h,hx=>by have h1:e=ol:=h;ext Œ h1 hx
 |À6,ol,e,h,hx=>by
  cases c:cU d ts with
  |true=>exact lK (h.1 (Ó c)) hx
  |false =>
   cases c2:Υ with
   |true=>exact lK (h.1 (ā c2)) hx
   |false =>exists[w,so,o1,p1,x1],h.2 c c2;exact lK x1 (Jp p1 x hx)
theorem Hh{wd:Wd}(h:Ą wd.isTurn):jL n wd=[]:=by cases wd<;>first|rfl|cases h
theorem BZ:gU "off" = false:=⋯
theorem jp Éi:∀ÃC äq,G ol ds->Á7 ds rs->iI ts ol ds e->∀z∈ds.zip rs,gU z.2.2.1=true->∀x∈jL z.1.1 Áv,Ő e x
 | [],ol,e,rs,g,r,h=>by intro z hz;cases hz
 |À6,ol,e,rs,g,r,h=>by
  cases c:cU d ts with
  |true =>
   exists ÀP r1 x1,pE c r;intro z hz hl x hx;ext ϋ hz hz
   .have hl':ú gU "off":=hl;ext è BZ hl' hl'
   .exact jp gd (gd.skip g) x1 (h.1 (Ó c)) z hz hl x hx
  |false =>
   cases c2:Υ with
   |true =>
    exists ÀP r1 x1,mh c c2 r;intro z hz hl x hx;ext ϋ hz hz
    .have hx':x∈jL ý d.2:=hx;ext ώ Hh c2 hx'
    .exact jp gd (gd.skip g) x1 (h.1 (ā c2)) z hz hl x hx
   |false =>
    ext ÐN r;exists[w',so',o2,p2,x2],h.2 c c2;have e12:=äd.2.2;exists[r2,y2],ÊF gd (gd.play g p2);obtain rfl:=mi e12 x1 y2;intro z hz hl x hx;ext ϋ hz hz
    .refine lK x2 ? _;rw[<-e12 x];exact Hg p1 hl x hx
    .exact jp gd (gd.play g p2) y2 x2 z hz hl x hx
theorem TU(gd:Gd G)à(g0:G [] (aT L))àu(cl:∀x∈L,Êm/\Ð.2.2.ok)(run:ÏW)(he:iI (aO (aT L)) [] (aT L) e):Tkn L (Öb ĳ) n (Eqo e):=by
 refine#[∅,AL gd g0,nod,Ø r' h,Ø r' h,cl,Ã0 ol hol x hx t ht it hit]
 .obtain rfl:=mi (ę rfl) run h;exact#[rfl,JH run]
 .exact iW gd g0 h λ e' he'=>oX (ę rfl) he he'
 .ext ż z hz hx;exists[hz1,hz2],ZS.mp hz;ext åG hz1;have hm:(toD Ð,r)∈(aT L).zip rs:=by ext ğ aT List.zip_map_left;exact Zw.mpr #[(x,r),È hxr]
  intro y hy;have hy':y∈jL (toD Ð).1 (toD Ð).2:=by have:=hy;ext Â1 tY
  have held:=jp gd g0 run he _ hm hz2 y hy';exists[i,ei],ZF.mp held;exists[k,c],gd.ter (vw gd g0 he) y i ei;show ÔK it #[k',b,yN hol un]
abbrev qA:Str:=Ù9 "Plain.sorted_names"
def Up:Stmt->XT
 |ÕX _=>e
 |_=>.Name "" #[0,0,0,0]
def K9:XT->XT
 |.Call Â (k::_) _=>k.value
 |e=>e
def K6:XT->XT
 |.Lambda _ b Â=>b
 |e=>e
def La:XT->Scope
 |.Lambda Â s _=>s
 |_=>default
def kE:XT->Pos
 |.Lambda ì p=>p
 |_=>#[0,0,0,0]
abbrev dQ:Stmt:=ž 51 15
abbrev pV:Ä Str:=["self"]
theorem pH:ŀ pV "self" dQ:= ñ
abbrev nZ:XT:=K9 (Up ((bV dQ).getD 0 (ÊW)))
def kyP Í3:ZKey:=.p x.2.pl [ö.1,ö.2]
inductive spLamP Ĥ(kv:V)(vs:X1)Ë À2:Prop
 |mk Ã4 (v:V) (n:Nm) (it:It) (h0:kv=Æ p) (h1:vs=[v]) (h2:ÀB OlAt) (h3:œ v n) (h4:Κ) (h5:∀kv' H',ó->(kyP (n,it)).at H' kv'->Q kv' H'):spLamP C kv vs H Q E_
theorem eI(T:Txt K C)(Vo:Â6 "PLACE" 1 tk):↑LamOkX 1 qA (K6 nZ) (La nZ) "name" "self" (spLamP C):=by refine ãD;obtain⟨p,d,g,ol,v',n,it,rfl,e,⟨kvs,gvs,S,R⟩,hn,hl,q⟩:=h;cases e;ext Á5 S;ext ÁJ nb hnb hn;obtain⟨iv,e1,ia,uv,pv,rfl,e2,e3,⟨pb,rfl,e4⟩⟩:=bw R hl;refine#[_,(aJ (q_a (ar (Λ jB rfl) (cH hr.units (Λ Jw rfl ä) ü) (fe Vo)) (Ğ 0))),? _];show Ť #[Å,p,Ãx,Å,ÑP,? _] #[ia,_,ë,XW e2,ù at1,Ċ t gt];have wt:=af gt (Í1 Æ pb nb);exact q Â wt #[t,pb,È nb,ad,wt Â e4,wt Â hnb]
def I0:Nm×It:=((0,0),ÌM none [] "")
def leP(x y:Nm×It):Prop:=HT.lexLt (kyP y).nums (kyP x).nums=false
theorem Md{ol:Ol}(hp:POk ol.length p)(hs:LS (λ i j=>HT.lexLt (ÖN i) (ÖN j)) p ol.length):(ÈN ol.getD I0).Pairwise leP/\(ÈN ol.getD I0).Perm ol:=by
 ext Óg ol.length
 .rw[Yl];ext åT ol.length;have lx:=(hs i j hij (ÀL Âh hj hz)).1;ext Ñ7 e1 i hi
  ext Ñ7 e2 j hj
  ext án ol.length;ext Âw lx;ext ä4;have ga:∀k,k<ol.length->ÖN k=(kyP (ol.getD k I0)).nums:=λ k hk=>Ĉ hk
  rw[ga a m1,ga b m2]at lx;exact lx
 .have:=ep.map λ i=>ol.getD i I0;have e:((Ŷ ol.length map) λ i=>ol.getD i I0)=ol:=by refine List.ext_getElem Û (Ú i h1 h2);simp[h2]
  ext Â1 e
abbrev KsAt Ë(M:Ol)(ks:X1):Prop:=Paired (λ x v=>Äs v x) M ks
theorem KsAt.ts(ϛ KsAt M ks s):KsAt H' M ks:=Ϡ x z z.ts' s
theorem MQ(x:eS H kvs ks)(r:Rows H' kvs ol):KsAt H ol ks:=by
 induction x generalizing ol with
 |nil=>cases r;exact ė
 |cons h _ ih =>
  cases r with
  |cons a b =>ext ļ c hc h;exact υ #[È c,by rw[<-a.1];exact hc] (ih b)
theorem rC(x:KsAt H M ks):∀(Ŏ i v V),Ý ks v->∃m,Ý M m/\Äs v m:=by
 induction x with
 |nil=>intro i v h;simp at h
 |cons h _ ih =>
  intro i v hv;cases i with
  |zero=>show Ř hv #[Å,h]
  |succ i=>exact ih i v hv
theorem N7(x:KsAt H M ks):∀(ÄO l),(∀i∈l,i<M.length)->KsAt H (l.map λ i=>M.getD i I0) (l.map λ i=>ks.getD i .non):=λ l=>by
 induction l with
 |nil=>intro _;exact ė
 |cons i l ih =>
  intro h;have hi:=h i Zk;have hk:i<ks.length:=by rw[<-ZC x];exact hi
  show ÌZ x i _ (Ze hk);refine υ ? _ (Ùb h);ext ň;rw[ZL,ZL,hm,Ze hk];exact hn
theorem Ty ÎN:TS H H':=λ a zs e=>Ģ e (Ú0 tab e)
theorem PlainAt.sameT(ÅQ x)ÎN:ÀS PlainAt kvs gvs:=by
 ext ÙP;ext ÉW tab;refine#[#[dx,Ģ h1 (ģ z)],Ģ h2 (ģ z),Ģ h3 (ģ z),h4]
 .ext Ţ z e1 h1
 .ext Ţ z e1 h2
 .ext Ţ z e1 h3
theorem OlAt.sameT(x:ÀB OlAt)ÎN:ÀS OlAt ol:=μ [kvs,gvs,a,b] x #[kvs,gvs,a.sameT s tab,b.ts (Ty s tab)]
theorem GoneAt.sameT(x:GoneAt H g gs)ÎN:GoneAt H' g gs:=by show Àp [gvs,h1,h2] x [ps,e1,_] tab;exact#[gvs,Ģ h1 (Àm e1 h1),h2]
theorem gE ÅZ(nd:(l.map (·.1)).Nodup){i:Nat}{x:Nm×β}(h:Ý l x):look l ö=some Ð:=by
 induction l generalizing i with
 |nil=>simp at h
 |cons y r ih =>
  rw[Zu,Ya]at nd;unfold look;cases i with
  |zero=>cases h;rw[XC rfl]
  |succ i =>have h:Ý r x:=h;rw[XB fun(z:y.1=ö)=>nd.1 (Ŕ z List.mem_map_of_mem (ZG h))];exact ih nd.2 h
inductive spSorted(C T:XH)Μ:Prop
 |mk Ã4 ÆA (ãm OlAt) (ÆZ h3) (h4:Ç1 H) (h5:∀(D:XH) (H':Hp) (M:Ol) (ks:X1),M.Perm ol->M.Pairwise leP->SameT T H H'->Ç1 H'->á D->ÐK D ks KsAt H' M ks):È7 spSorted E_
theorem zn(s:SameT T H H')(h:ê H' D)(hT:∃o,H' T=ò):á D:=by
 cases e:H D with
 |none=>rfl
 |some o =>
  ext å z D T
  .exists[o',ho],hT;ext Ţ z ho h
  .rw[Ģ e z]at h;cases h
theorem aZ(h:aX q T pos H)(s:ó):aX q T pos H':=μ [ps,e1,e2,e3] h #[ps,Ģ e1,e2,ÒH e3.imp #[c,z1,Ģ z2]]
theorem pq(F:é "sorted_names" "Plain.sorted_names" dQ)(Ó0 T)(b9:Txt K C0)(Vo:Â6 "PLACE" 1 tk)(c8:Ē "sorted"):ă 5 ύ (spSorted C0 T):=by
 have eI:=ÃK eI P P w w K K (mg:=mg) (base:=base) b9 Vo;show Ô0 pH [p,d,g,ol,rfl,_] [p,d,g,ol,rfl,hO,hl,nd,tab,q];ext ÑU hO;ext Á5 S;refine#[_,(b_1 (au (Ýg LM 0 (eI) ↑99 (ð (bj ü)) rfl rfl rfl rfl))),? _];show Ã5 #[γ,C0,dx,Àw,h1,b9.cl,b9.nH,bg Â,d,kvs,Æ p,î,h2,tab,λ ks H2 sT tab2 kat=>? _] O2 hO.sameT sT tab;have ka:=MQ kat R;have lk:ks.length=ol.length:=(ZC ka).symm;refine#[ÇL ĵ (.n 64) (Ó6 63) ď (Nat.le_of_eq lk) hl,ol.map kyP,ÀK Za lk,Ø k hk,λ i v key H' hv hk sm R' kR=>? _,Áp pp H3 D hp hs sm gD]
 .show ż x _ hk;exact#[ù _]
 .ext ÌZ ka i v hv;ext Ţ Zs hm hk;exact#[ÂJ,ol,v,m.1,m.2,î,O2.same sm,hn.ts' (λ a zs e=>sm ŋ),gE nd hm,λ kv' H'' s' a=>kR kv' H'' s' a]
 .rw[lk]at hp hs;exists[so,pe],Md hp hs;ext ÎZ pp.toList ol.length hp.mem_iff
  show ÄT wD af gD (Õ (pp.toList.map λ i=>ks.getD i .non)) tab3 aZ tab2 sm;have s03:SameT T H H3:=sT.trans (.of sm);refine q D ì pe so (s03.trans (.of wD)) (aZ tab3 wD) (zn s03 gD ? _) ad ((N7 (ka.ts λ a zs e=>sm ŋ) _ pl).ts λ a zs e=>wD ŋ);show þ [ps,e1,_] tab3 #[_,e1]
def grp(Ãz M Ol u Nm):Ol:=M.filter (ÀF x (x.2.up=u))
def upK(u:Option Nm):Option (Ä Key):=u.map nk
theorem Fu(h:upK u=upK v):u=v:=by
 cases u with
 |none=>cases v with
  |none=>rfl
  |some n=>cases h
 |some m=>cases v with
  |none=>cases h
  |some n=>rw[jZ (Zt h)]
structure LowAt(P:XL)(w:XM)Ë(Îp D XH M Ol):Prop where
 od:OdAt P w H D kls
 gr:∀e∈kls,∃(u:Option Nm) (ks:X1),Ây=upK u/\H e.2=Ã (Õ ks)/\KsAt H (grp M u) ks
 al:∀m∈M,ϗ cK kls (upK m.2.up)=true
structure LowI(P:XL)(w:XM)(H2 H:Hp)(Îp D XH M Ol):Prop where
 lo:LowAt P w H D M kls
 nl:∀e∈kls,H2 e.2=none
 nd:(kls.map (·.2)).Nodup
 le:kls.length<=M.length
theorem UpAt.key(h:UpAt ÇJ):∃e:OK1,xn H v e/\okD e=upK u:=by
 cases u with
 |none=>exact#[ś none h]
 |some n =>show þ [b,rfl,hb] h #[some (nk n,b),#[Ì hb],rfl]
theorem vU(h:cK kls k=Ã l):∃e∈kls,Ây=k/\e.2=l:=by ext Ĝ cK h;exists[e,he,rfl],ZK.mp h;have:=List.find?_some he;exact#[e,YW he,Z5 this,rfl]
theorem vT(h:ϗ cK kls k=true\/okD e=k):ϗ cK (kls++[(e,l)]) k=true:=by
 unfold cK at *;rw[List.find?_append];ext Ś h h h
 .show Ž [x,hx] ZF.mp h [y,hy,_] ZK.mp hx;rw[hy];rfl
 .cases hf:kls.find? (ÀF e (Ây=k))with
  |some y=>rfl
  |none=>simp[h]
theorem qk(M:Ol)(m:Nm×It)(u:Option Nm):grp (M++[m]) u=if m.2.up=u then grp M u++[m]else grp M u:=by
 ext ğ grp Ys;by_cases h:m.2.up=u
 .rw[XC h,List.filter_cons_of_pos (Ĉ h)];rfl
 .rw[XB h,List.filter_cons_of_neg (Ĉ h)];simp
theorem KsAt.snoc Ò4(x:KsAt H M ks)(h:Äs v m):KsAt H (M++[m]) (ks++[v]):=by
 induction x with
 |nil=>exact υ h ė
 |cons a _ ih=>exact υ a ih
theorem Tb{P:XL}{w:XM}{H H':Hp}(x:OdAt P w H D kls)(h:H' D=H D)(s:TS H H'):OdAt P w H' D kls:=#[h.trans x.ob,λ e he p hp=>Ģ (x.ks e he p hp),x.nd]
theorem Cc Ï0{f:α->β}{l:Ä α}(nd:(l.map f).Nodup){a b:α}(ha:a∈l)(hb:b∈l)(h:f a=f b):a=b:=by
 induction l with
 |nil=>cases ha
 |cons x r ih =>
  rw[Zu,Ya]at nd;ext ϋ ha ha'
  .ext ϋ hb hb'
   .rfl
   .exact absurd (Ŕ h List.mem_map_of_mem hb') nd.1
  .ext ϋ hb hb'
   .exact absurd (Èq h List.mem_map_of_mem ha') nd.1
   .exact ih nd.2 ha' hb'
theorem Lj(h:cK kls k=none):∀e∈kls,Ây≠k:=λ e he z=>by ext Ĝ cK h;rw[Option.map_eq_none_iff,YM]at h;exact h e he (Ĉ z)
theorem LowAt.same(Ø6 H)(s:ó):LowAt P w H' D M kls :=
 #[#[Ģ x.od.ob,λ e he p hp=>Ģ (x.od.ks e he p hp),x.od.nd],λ e he=>by
  exists[u,ks,h1,h2,h3],x.gr e he;exact#[u,ks,h1,Ģ h2,õ h3.ts s],x.al]
theorem LowI.same Ôl(s:ó):LowI P w H2 H' D M kls:=#[x.lo.same s,x.nl,x.nd,x.le]
theorem MZ{P:XL}{w:XM}Ο(h:H D=Øm D)(h2:ĺ H l ks):D≠l:=λ z=>by rw[z,h2]at h;ext Ĝ odO h;cases h
theorem wZ Ο(h:ĺ H l ks):TS H (Æy l ks'):=λ a zs e=>Ī (Àx e h) e
theorem LowI.old Ò4 Ôl(hl:cK kls (Øo)=Ã l)(hv:Äs v m):
  ∃ks,ĺ H l ks/\ks.length<=M.length/\ê H2 l/\LowI P w H2 (ø l (Õ (ks++[v]))) D (M++[m]) kls:=by
 exists[e,he,hk,rfl],vU hl;exists[u,ks,h1,h2,h3],x.lo.gr e he;have hu:u=m.2.up:=Fu (h1.symm.trans hk);subst hu;have ts:=wZ (ks':=ks++[v]) h2;refine#[ks,h2,by rw[<-ZC h3];exact Z3 Â,x.nl e he,#[Tb x.lo.od (ah (MZ x.lo.od.ob h2)) ts,Ø e' he',Ø y hy],x.nl,x.nd,Ä7 Zm Zn x.le (YN Â)]
 .by_cases z:e'.2=e.2
  .have:=Cc x.nd he' he z;subst this;refine#[m.2.up,ks++[v],h1,ad,? _];rw[qk,XC rfl];exact(h3.ts ts).snoc (hv.ts' ts)
  .exists[u',ks',g1,g2,g3],x.lo.gr e' he';refine#[u',ks',g1,Ī z g2,? _];rw[qk,XB λ y=>z ? _]
   .exact g3.ts ts
   .have:okD e'.1=Ây:=ÅJ g1 h1 y
    rw[Cc (f:=λ e=>Ây) x.lo.od.nd he' he this]
 .ext Éy hy x.lo.al y
  .ext Æ4 Zg hy;rw[hl];rfl
theorem LowI.new{H2 H:Hp}{D l0:XH}{M:Ol}Øc Ò4{v uv:V}{e:OK1}Ôl(hl:cK kls (Øo)=none)(hv:Äs v m)(hk:xn H uv e)(he:okD e=Øo)(g0:á l0)(b:But D H2 H) :
  ê H2 l0/\l0≠D/\LowI P w H2 (upd Ôo) D (M++[m]) (kls++[(e,l0)]):=by
 ext Ÿ nD l0 D x.lo.od.ob g0
 have n2:ê H2 l0:=by
  cases z:H2 l0 with
  |none=>rfl
  |some o=>rw[b Â z nD]at g0;cases g0
 have keep:∀a o,H a=ò->a≠D->upd Ôo a=ò:=λ a o ea ha=>by
  ext Ÿ nl a l0 g0 ea
  rw[ah nl,ah ha,ah nl];exact ea
 have ts:TS H (upd Ôo):=λ a zs ea=>keep a _ ea λ z=>by have:=x.lo.od.ob;rw[z,this]at ea;ext Ĝ odO ea;cases ea
 have no:=Lj hl;refine#[n2,nD,#[#[Ī (Z7 nD) ad,Č e' he' p hp,? _],Ø e' he',Ø y hy],Ø e' he',Χ]
 .ext Á8 he' he'
  .exact ts Â (x.lo.od.ks e' he' p hp)
  .ext Æ4 Zg he';obtain rfl:e=Ã p:=hp;exact ts Â hk.2
 .ext ßV x.lo.od.nd;exact no e' he' (by rw[<-he,<-hc];exact z)
 .ext Á8 he' he'
  .exists[u',ks',g1,g2,g3],x.lo.gr e' he';refine#[u',ks',g1,keep Â g2 (Z7 (MZ x.lo.od.ob g2)),? _];rw[qk,XB λ z=>no e' he' (ÀK g1 z)];exact g3.ts ts
  .ext Æ4 Zg he';refine#[m.2.up,[v],he,ad,? _];have em:grp M m.2.up=[]:=by ext àP x.lo.al
   rw[qk,XC rfl,em];exact υ (hv.ts' ts) ė
 .ext Á8 hy hy
  .exact vT (Ó (x.lo.al y hy))
  .ext Æ4 Zg hy;exact vT (ā he)
 .ext Éy he' x.nl e'
  .rw[Zg]at he';ext Âb he' n2
 .ext ßV x.nd;exists[_,_,_,g2,_],x.lo.gr e' he';rw[z,hc,g0]at g2;cases g2
 .rw[Zm,Zm];exact Nat.add_le_add x.le (Zf _)
def dL(gs:As Unit)Í3:Bool:=!(ϗ look gs ö)
inductive spLower(P:XL)(w:XM)(C T:XH)Μ:Prop
 |mk Ã4 (gs:As Unit) ÆA Íz (ÆZ h4) (h5:Ç1 H) (h6:∀(D:XH) (Îp H' Hp M Ol),M.Perm ol->M.Pairwise leP->SameT T H H'->Ç1 H'->á D->kls.length<=63->LowAt P w H' D (M.filter (dL gs)) kls->Đ D H'):spLower P w C T vs H Q E_
def yg(Â3 o Obj):Heap:=#[Array.replicate n o,{}]
theorem LT à(hf:∀c d s,o≠#[c,d,.freed,s])(h:(yg n o).get? a=Ã o'):o'=o:=by
 unfold yg Heap.get? at h;ext Âw h;by_cases ha:a<n
 .rw[Yg (û ha),Array.getElem_replicate]at h;split at h
  .cases h
  .exact(Zt h).symm
 .show ώ Array.getElem?_eq_none (û ha) h
set_option tactic.hygienic true in theorem E5 à(hf:∀c d s,o≠#[c,d,.freed,s])(ha:a<n):(yg n o).get? a=ò:=by
 unfold yg Heap.get?;ext ň;rw[Yg (û ha),Array.getElem_replicate];split
 .rename_i z;show ĕ (Zt z) (hf Â _)
 .rfl
theorem Ta:odO P w D kls≠lO c q:=λ z=>by
 unfold odO lO at z;ext ÂV z;by_cases hs:(Âk D)
 .have e:=congrFun z (yg (D+1) { cls:=.type "dict",data:=.dict ((ũ kls.map oE (jF P w)).toArray) 0 });have:=e.mp #[hs,_,_,_,E5 ÙV (Y8 D),#[î,rfl],Ì Ĵ];exists[c',o,vs,t,e1,e2,e3,e4],this;have:=LT ÙV e2;ext è this e3 e3
 .have e:=congrFun z (yg (c+1) { cls:=.none,data:=.fields (List.toArray [.none,.str q 0]) });have:=e.mpr #[c,_,_,_,rfl,E5 ÙV (Y8 c),î];exact hs this.1
theorem PZ:ÒM nox.prog=P:=rfl
theorem P0:ÒM nox.w=w:=rfl
abbrev fU:Stmt:=ž 51 17
abbrev qY:Ä Str:=["self","lower","name"]
theorem fH:ŀ qY "self" fU:= ñ
theorem qw{f C T:XH}{fd:XO}{tk:Tok}(F:é "lower_names" "Plain.lower_names" fU)(b9:Txt K C)(Uy:Ι 5 C "sorted_names" ύ (spSorted C T))(u5:Â6 "UP" 0 tk):ă 6 ύ (spLower P w C T):=by
 show ĩ fH [p,d,g,ol,gs,rfl,hO,hG,hl,nd,tab,q];exists _,(b_c (Ĕ 1 fH.nd Tr)
   (b_c (ÆN (bc (bP Uy ς)) (aB (i:=2) fH.nd) (b_1 (aM (Ça jK 2) (b_1 (bK (iF (Jy hr.units ä (ar aw (cH hr.units (bj ü) Ū) (fe u5)) (bX ai)) Ū))) b_0)))
   (Ás ä)))
 rw[PZ,P0];intro D gD
 ext gD H1 wD eD
 have O1:=hO.same wD;have tab1:=aZ tab wD;exists[kvs1,gvs1,S1,R1],id O1;ext Á5 S1;refine#[γ,dx,Å,h1,oZ Â Åf,ÂJ,ol,Ì O1,hl,nd,tab1,λ L H2 M ks pe so s12 tab2 gL eL ka=>? _];show Ã5 #[È L,Æn ks eL,? _] O2 O1.sameT s12 tab1;have hG2:=(hG.same wD).sameT s12 tab1;have nDT:D≠T:=Ú0 tab1 eD
 have eD2:=s12 Â eD nDT;ext Ÿ nLD L D eD gL
 have lM:M.length<=63:=Ă pe.length_eq hl
 have lks:=ZC ka;refine fz (xs:=ks) (λ i Z H'=>But D H2 H'/\∃(kls:(Ŋ OK1 XH)) (o:Option V),LowI P w H2 H' D (ÙY) kls/\Z=[Ö p,Ö D,o]) #[λ _ _ z _=>z,[],none,#[#[#[eD2,(λ e he=>ÁF he),.nil],(λ e he=>ÁF he),(λ m hm=>ÀU hm)],(λ e he=>ÁF he),.nil,ZA _],rfl] (λ i Z H' _ hP=>XX (hP.1 Â eL nLD)) (Ã0 i v Z H' hv hP D' kD) (Ú Z H' hP)
 .exists[bt,kls,o,lo,rfl],hP;ext ÌZ ka i v hv;show É1 [gvs0,hg0,Rg] hG2 [kvs,gvs,S,R] O2;have ts2:TS H2 H':=λ a zs e=>bt ŋ λ z=>by rw[z,eD2]at e;ext Ĝ odO e;cases e
  have nd':∀{a:XH} {o:HO},H2 a=ò->o≠odO P w D []->H' a=ò:=λ e ne=>bt ŋ λ z=>ne (by rw[z,eD2]at e;exact(Zt e).symm);ext ÈX dx' k1 k2 k3 k4 S;have k1':=ØS k1;have k2':=ØS k2;have k3':=ØS k3;have hmo:m∈ol:=pe.mem_iff.mp (ZG hm);exists[jj,hj],Yp.mp hmo;exists Æf pv,bw R (gE nd hj);have hn':=hn.ts' ts2;ext ÁJ nb hnb hn';have eg:gvs0=gvs:=by rw[k3]at hg0;ext ÂV hg0;ext ÂV hg0;exact hg0.symm
  subst eg;have lt:Ň M.take i<=63:=Zn (List.length_take_le' Â) lM;have lt2:(ÙY).length<=63:=ÊR lt;have et0:M.take (i+1)=M.take i++[m]:=Â4 List.take_succ hm
  refine#[Ü,Çq dx' k1' b9.cl b9.nA,nq Â,ù g,È0 m k3' hnb,ţ];rw[gY Rg];cases hvis:(look gs m.1).isSome with
  |true =>refine aF (kD Â #[bt,kls,_,? _,rfl]);rw[et0,Ys,List.filter_cons_of_neg (ÉA dL hvis),List.filter_nil,ZQ];exact lo
  |false =>
  ext Ħ aP;have et:(M.take (i+1)).filter (dL gs)=ÙY++[m]:=by rw[et0,Ys,List.filter_cons_of_pos (ÉA dL hvis),List.filter_nil]
  exists[ke,hk,hke],(e3.ts ts2).key;show Áa (È8 D #[kls,lo.lo.od.ob]) #[γ,C,dx',Àw,k1',b9.cl,b9.nH,bg Â,ÒN ia,e1▸È0 m k2' hnb,? _];show ÃB #[ia,_,ë,XW (ts2 Â e2),at0,Ċ l0 g0] w0 g0 ń;have lo0:=lo.same w0;have hk0:xn (Áq l0 ń) uv ke:=by
   cases ke with
   |none=>exact hk
   |some q=>exact#[hk.1,w0 Â hk.2]
  refine#[kls,ke,l0,lo0.lo.od,È hk0,(by have:=lo.le;omega),Ø l hl',ģ hl']
  .rw[hke]at hl';exists[ks',f1,f2,f3,f4],lo0.old hl' (õ hn'.ts' w0);refine#[Ó #[Ì _,XX f1],Å,l,Àw,Ì f1,ĥ cX,kD Â #[Č b ob eb hb,kls,_,Ă et f4,rfl]];ext Ÿ hbl b l f3 eb
   rw[ah hbl];exact w0 Â (bt Â eb hb)
  .rw[hke]at hl';exists[n2,nD0,f4],lo.new hl' hn' hk hke g0 bt;refine#[Ó #[rfl,[],XX (Ī nD0 ad)],Å,l0,[],Å,rfl,Ī nD0 ad,sz rfl,kD Â #[Č b ob eb hb,_,_,Ă et f4,rfl]];ext Ÿ hbl b l0 n2 eb
   rw[ah hbl,ah hb,ah hbl];exact bt Â eb hb
 .exists[bt,kls,o,lo,rfl],hP;have ml:M.take ks.length=M:=Yt (by show Ê0 (Nat.le_of_eq lks));rw[ml]at lo;have nTD:T≠D:=Z7 nDT;have tab3:Ç1 H':=by show Áh [ps,t1,t2,t3] tab2 #[ps,bt Â t1 nTD,t2,ÒH t3.imp #[c,z1,bt Â z2 (ģ z)]];rw[z,eD2]at z2;exact Ta (Zt z2)
  exact#[Å,q D H' M kls pe so (λ b ob eb hb=>bt Â (s12 Â (wD Â eb) hb) (Àm gD eb)) tab3 gD (Zn lo.le (ÊR lM)) lo.lo]
abbrev DI:=Int×(Nm×It)
inductive Dfs(M:Ol):Ä DI->Ä DI->Þ Nat
 |nil:Dfs M ÄI 0
 |cons {d:Int} Ò4 {rest out:Ä DI} ĉ (h:Dfs M ((grp M (some m.1)).map (λ x=>(d+1,x))++rest) out k):Dfs M ((d,m)::rest) ((d,m)::out) Ρ
theorem Dfs.le ÑG ĉ Ìp:st.length<=k:=by
 induction h with
 |nil=>exact Zf _
 |cons _ ih =>rw[Zm]at ih;rw[Zo];exact ĵ (ã 1) (ÇK (š 2 0)) æ ih
theorem Dfs.len ÑG ĉ Ìp:out.length=k:=by
 induction h with
 |nil=>rfl
 |cons _ ih=>rw[Zo,ih]
inductive SkAt Ë(v:V)(x:DI):Prop
 |mk ÝJ (h1:H a=Ã (Ò [Í ö,nv])) (h2:NameIs H nv (nk Ð.1)):SkAt H v x
inductive RwAt Ë(v:V)(x:DI):Prop
 |mk ÝJ (h1:H a=Ã (Ò [Í ö,nv,.str Ð.2.tx,.bl Ð.2.dn,whV Ð.2.wh,.bl Ð.2.fo])) (h2:NameIs H nv (nk Ð.1)):RwAt H v x
abbrev SksAt Ë(xs:Ä DI)(vs:X1):Prop:=Paired (λ x v=>SkAt H v x) xs vs
abbrev RwsAt Ë(xs:Ä DI)(vs:X1):Prop:=Paired (λ x v=>RwAt H v x) xs vs
theorem SkAt.ts(h:SkAt H v x)(s:TS H H'):SkAt H' v x:=åq
theorem RwAt.ts(h:RwAt H v x)(s:TS H H'):RwAt H' v x:=åq
theorem SksAt.ts(ϛ SksAt xs vs s):SksAt H' xs vs:=Ϡ x z z.ts s
theorem RwsAt.ts(ϛ RwsAt xs vs s):RwsAt H' xs vs:=Ϡ x z z.ts s
theorem uI Îq{a c:Ä α}{b d:Ä β}(x:Paired R a b)(y:Paired R c d):Paired R (a++c) (b++d):=by
 induction x with
 |nil=>exact y
 |cons h _ ih=>exact υ h ih
theorem zq Îq:∀(δ a α x α) {b:Ä β},Paired R (a++[x]) b->∃(b0:(Ä β)) (y:β),b=b0++[y]/\Paired R a b0/\R x y
 | [],x,b,h=>by
  cases h with
  |cons h1 h2 =>show Ř h2 #[[],Å,.nil,h1]
 |z::a,x,b,h=>by
  cases h with
  |cons h1 h2 =>exists ÀQ b0 y h3 h4,zq h2;exact#[_::b0,È y,Ę h1 h3,h4]
theorem LowAt.get(Ø6 H)(u:Option Nm):(∀l,cK kls (upK u)=Ã l->∃ks,ĺ H l ks/\KsAt H (grp M u) ks)/\(Ëq upK u->grp M u=[]):=by
 refine#[Ø l hl,ģ hl]
 .exists[e,he,hk,rfl],vU hl;exists[u',ks,h1,h2,h3],x.gr e he;rw[<-Fu (h1.symm.trans hk)];exact#[ks,h2,h3]
 .ext àP x.al
theorem yZ à{te:TE}{H0:Hp}{Q:VK}{d:Int}(hl:ĺ H0 l ks)(hk:KsAt H0 M ks)(hz:M.length<=63)(he:∀(v:V) Ë,Same H0 H->∀R:VK,(∀t,á t->Ā R t (ø t (Ò [Í d,v])))->te (ÈU (Ù v)) H R)(hq:∀(ws:X1) (p:XH) Ë,Same H0 H->SksAt H (M.map λ x=>(d,x)).reverse ws->á p->Đ p (Æy p ws)):Ã7 (cC 0) iH (Itv K l ks):=by
 have lk:=ZC hk;refine Bz (N:=ks.length) (λ i ys H=>Same H0 H/\ys.length=i/\SksAt H ((M.map λ x=>(d,x)).reverse.take i) ys) ∅ (λ _ _ _ p=>Ĺ.1) #[ÍX,.nil] (λ i ys H hi hP=>Æn hi (hP.1 Â hl)) (λ ys H hP=>Æn rfl (hP.1 Â hl)) Ĳ
 .rintro i ys H x H2 hi ⟨sm,ly,pa⟩ ⟨rfl,hx⟩ R kR;refine he x _ sm _ λ t gt=>kR ÁZ;show ÂI wt af gt (Ò [Í d,x]) #[sm.trans wt,Â4 Zm ly,? _];rw[List.getElem?_reverse (û hi)]at hx;show ÌZ hk _ x hx;have e:(M.map λ x=>(d,x)).reverse[i]?=Ã (d,m):=by rw[List.getElem?_reverse (by rw[Za];ext Âh hi lk.symm),Za,Zs,lk,hm];rfl
  rw[List.take_succ,e];exact uI (õ pa.ts wt) (Ę #[t,x,Ì ad,(õ hn.ts' sm).ts' (XV wt)] ė)
 .rintro ys p H ⟨sm,ly,pa⟩ gp;refine hq ys p H sm ? _ gp;rw[Yt (by rw[List.length_reverse,Za];show Ê0 (Nat.le_of_eq lk))]at pa;exact pa
theorem BJ{G:Þ XH}(Ø6 Hc)(e0:Hc l0=Ã ń)(h:∀(l:XH) (ks:X1),ĺ Hc l ks->KsAt Hc (grp M u) ks->G l):
  (∀l,cK kls (upK u)=Ã l->G l)/\(Ëq upK u->G l0):=by
 exists[a,b],x.get u;refine#[Ø l hl,ģ hl]
 .exists[ks,h1,h2],a l hl;exact h l ks h1 h2
 .exact h l0 [] e0 (by rw[b hl];exact ė)
abbrev qR(M:Ol):Ä DI:=(grp M none).map λ x=>(0,x)
inductive spRows(C T:XH)Μ:Prop
 |mk Ã4 (gs:As Unit) ÆA Íz (ÆZ h4) (h5:Ç1 H) (h6:(∀M:Ol,M.Perm ol->∃out k,ÏR Ís out k/\k<=63)) (h7:∀(R:XH) (H':Hp) (Ŧ M Ol out DI) (Ŏ k rs X1),M.Perm ol->M.Pairwise leP->ÏR Ís out k->SameT T H H'->Ç1 H'->á R->ÐK R rs RwsAt H' out rs):È7 spRows E_
theorem Dfs.mem ÑG ĉ Ìp:(∀x∈st,Ð∈M)->∀x∈out,Ð∈M:=by
 induction h with
 |nil=>intro _ x hx;cases hx
 |@cons d m rest out k _ ih =>
  intro hs x hx;ext ϋ hx hx
  .exact hs _ Zk
  .refine ih (Ø y hy) x hx;ext Á8 hy hy
   .ext ż z hz hy;exact(ZS.mp hz).1
   .exact hs y (Zh _ hy)
theorem Sw:bU [a,b,c,d,e,f] (Ù 2) none=[c,d,e,f]:=rfl
abbrev mD:Stmt:=ž 51 16
abbrev A0:Ä Str:=["self","lower","rows","ahead","following","depth","name"]
theorem dH:ŀ A0 "self" mD:= ñ
theorem Ad(F:é "rows" "Plain.rows" mD)(b9:Txt K C)(UJ:Ι 6 C "lower_names" ύ (spLower P w C T))(i8:Â6 "TEXT" 2 tk)(UP:Ē "reversed")(a9:Ē "len"):ă 7 ύ (spRows C T):=by
 show ĩ dH [p,d,g,ol,gs,rfl,hO,hG,hl,nd,tab,ex,q];exists[kvs0,gvs0,S0,R0],id hO;ext Á5 S0;exists _,(b_c (Ĕ 1 dH.nd (bP UJ ς))
   (Âu 2 dH.nd bX ai
   (b_c (Èe 3 dH.nd "each" ÚI (MM UP (ð (Jx hr.units ä cQ (bX ai)))) (ÃV (Àn ["each"])) Àe (Ĭ fj) (Ĭ (aJ (ņ aj (Ğ 0)))))
   (b_c (yr ZU (Æz aE Ck 3) (b_c (Ĕ 4 dH.nd (RG ↑3))
   (Âu 5 dH.nd ħ 4
   (Âu 6 dH.nd ħ 4
   (b_c (bK (iF Ū (aI jm (aJ (Ã8 5 6)) (fg dW (ÃW cH ↑6) (eM (fe i8)) fq))))
   (b_1 (bK (LK ↑3 (Ì5 ["each"] (ÅP [5] ["depth"]) (MM UP (ð (Jx hr.units ä ↑6 (bX ai)))) (ÆF "each" "depth") Àe (Ĭ fj) (Ĭ (aJ (ņ (aI eW ä aj) (Ğ 0)))))))))))))
   (Ê3 2)))))
 rw[PZ,P0];refine#[γ,dx,Å,h1,oZ Â Åf,ÂJ,ol,È gs,hO,hG,hl,nd,tab,λ D H3 M0 kls pe so s03 tab3 gD lk lo=>? _];exists[out,k,df,k63],ex M0 pe;have lM0:M0.length<=63:=Ă pe.length_eq hl
 have mem0:∀x∈M0.filter (dL gs),x∈ol:=ÖF;have lM:Ň M0.filter (dL gs)<=63:=ÊR lM0;have qq:=λ R H' out k rs=>q R H' M0 out k rs pe so;generalize M0.filter (dL gs)=M at df lo lM mem0 qq;have O3:=hO.sameT s03 tab;exists[kvs,gvs,S,R3],id O3;ext ÈX dx' k1 k2 k3 k4 S;show ÈO #[Ċ R gR] gR H4 wR eR #[Å,È D,#[kls,wR Â lo.od.ob],Ċ l0 g0]
 ext g0 H5 w0 e0
 show Å5 lo5 lo.same (wR.trans w0) #[kls,none,È lo5.od,∅,BJ (u:=none) lo5 e0 (Č l ks el hk)];refine#[ś l ks,XX el,yZ (d:=0) el hk (ÊR lM) (λ v Hx sx Rx kx=>#[Ò2,λ t gt=>kx t gt]) (ŗ ws Aa H6 s6 pa gA)];show Äd wA gA (Õ ws) eA H6 Aa;have s36:Same H3 (ψ H6 Aa ws):=(wR.trans (w0.trans s6)).trans wA;have eR6:ß H6 Aa (Õ ws) R=Ã ń:=wA Â (į s6 w0 eR);have pa6:=õ pa.ts wA;have nRA:R≠Aa:=λ z=>by rw[<-z,į s6 w0 eR]at gA;cases gA
 have g3A:ê H3 Aa:=by
  cases z:H3 Aa with
  |none=>rfl
  |some o=>rw[s6 Â (į w0 wR z)]at gA;cases gA
 generalize (ψ H6 Aa ws)=H7 at eA s36 eR6 pa6 ⊢;refine#[λ m Z H'=>ã7 H' m Z,#[k,s36,qR M,[],out,[],ws,none,Ðd df,eR6,.nil,ś eA pa6],? _];rintro m Z H' ⟨sm,stk,outd,rst,rs,as,o4,o5,o6,df',eo,eR',ra,eA',sa,rfl⟩;have las:=ZC sa;rw[List.length_reverse]at las;refine#[Å,ś Aa as,Ìg eA',ë,ţ];have lo63:outd.length+m<=63:=by have h1:=ZZ List.length eo;rw[Zm,df'.len,df.len]at h1;exact â ÀJ (.n 63) (Ñ ÀJ Ô ßh) æ (Nat.le_of_eq h1) k63
 cases df' with
 |nil =>have:as.length=0:=las.symm;rw[show Ũ (decide (É 0<É as.length)) by rw[this];rfl];refine aF Àk;ext Æ4 ZQ eo;refine qq R H' outd k rs df (s03.trans (.of sm)) (aZ tab3 sm) (zn s03 gR ? _) eR' ra;show þ [ps,t1,_] tab3 #[_,t1]
 |@cons d0 mm rest rst' m' df' =>
  have:0<as.length:=Èq las Nat.succ_pos _
  rw[show Ą (decide (É 0<É as.length)) by rw[decide_eq_true];exact ÞE Òj ÆS this];ext Ħ aP;rw[List.reverse_cons]at sa;obtain⟨as0,y,rfl,sa0,⟨ya,nv,rfl,ey,hn⟩⟩:=zq sa;ext ÁJ nb hnb hn;have hmem:mm∈M:=df.mem (λ x hx=>by
   ext ż z hz hx;exact (ZS.mp hz).1) (d0,mm) (by rw[<-eo];simp)
  exists[jj,hj],Yp.mp (mem0 _ hmem);exists Æf pv,bw R3 (gE nd hj);refine#[λ σ' H''=>ã7 H'' m' σ',λ σ' H'' h=>#[m',Y8 _,h],? _];refine#[Ån eA',Aa,_,Æ ya,î,eA',Ĵ,? _];rw[List.dropLast_concat];have t8:=wZ (ks':=as0) eA';have s38:Same H3 (Áq Aa (Õ as0)):=cD sm g3A;ext Èj eA8 H' Aa Õ as0 Ã;have eR8:ß H' Aa (Õ as0) R=Ã (Õ rs):=Ī nRA eR'
  ext Ä3 ey8 t8 ey hn8 hnb;have ra8:=ra.ts t8;have sa8:=SksAt.ts sa0 t8;generalize (ψ H' Aa as0)=H8 at s38 eA8 eR8 ey8 hn8 ra8 sa8 ⊢;show Áa #[ÀH ya,XW ey8,at0,? _] #[ÀH ya,XW ey8,at1,? _];show Âz #[Ån eR8,Ü,Ċ t1 g1] w1 g1 (Ò [Í d0,Æ nb]);have s1':=s38.trans w1;refine#[γ,C,dx',Àw,s1' Â k1,b9.cl,b9.nH,bg Â,ÒN ia,e1▸È0 mm (s1' Â k2) (w1 Â hn8),ţ];refine#[ù ia,s1' Â e2,Č t2 H9 s9 e9];rw[Sw]at e9;refine#[t1,t2,ë,s9 Â ad,e9,sz rfl,Č t3 H10 s10 e10];have w8:Same H8 H10:=w1.trans (s9.trans s10);show Å5 lra ZC ra #[R,rs,Æ t3,î,w8 Â eR8,ĥ cX,? _];have t11:=wZ (ks':=rs++ġ t3) (w8 Â eR8);have g3R:ê H3 R:=gR;have s311:Same H3 (ß H10 R ÊY):=cD (s38.trans w8) g3R;have eR11:ß H10 R ÊY R=Ã ÊY:=ad;have eA11:ß H10 R ÊY Aa=Ã (Õ as0):=Äq (Z7 nRA) w8 eA8
  have hn11:=į t11 w8 hn8;have ra11:RwsAt (ß H10 R ÊY) (outd++[(d0,mm)]) (rs++ġ t3):=uI (ÉO ra8.ts w8 t11) (Ę #[t3,Æ nb,rfl,t11 Â e10,È nb,hn11] ė);have sa11:=ÉO sa8.ts w8 t11;generalize ß H10 R ÊY=H11 at s311 eR11 eA11 hn11 ra11 sa11 ⊢;show Ť #[Å,Ó #[Ì _,XX eA11],? _] #[Å,È D,#[kls,s311 Â lo.od.ob],Å,Ċ l1 gl1]
  ext gl1 H12 wl el1
  show Å5 lo12 lo.same (s311.trans wl) #[kls,Ã (nk mm.1,nb),lo12.od,#[rfl,wl Â hn11],∅,BJ (u:=some mm.1) lo12 el1 (Č l ks el hk)];refine#[ś l ks,XX el,yZ (d:=d0+1) el hk (ÊR lM) (λ v Hx sx Rx kx=>#[ÂD,Ò2,λ t gt=>kx t gt]) (ŗ ws' pW H13 s13 pa' gW)];have wW:=af gW (Õ ws');have w1113:Same H11 (ψ H13 pW ws'):=wl.trans (s13.trans wW);ext ě lw ZC pa' lsa ZC sa8;have dl:=df'.le;rw[Zm]at dl;rw[List.length_reverse]at lw lsa;refine#[Aa,pW,as0,ws',î,w1113 Â eA11,ad,ĥ cX,? _];have t14:=wZ (ks':=as0++ws') (w1113 Â eA11);refine#[cD (s311.trans w1113) g3A,(grp M (some mm.1)).map (λ x=>(d0+1,x))++rest,outd++[(d0,mm)],rst',rs++ġ t3,as0++ws',_,_,_,df',by rw[<-eo];simp,Äq nRA w1113 eR11,ÉO ra11.ts w1113 t14,ś ad ? _];rw[List.reverse_append];exact uI (ÉO sa11.ts w1113 t14) (ÉO pa'.ts wW t14)
def gkS(l:As Nm)(t:Tk):As Nm:=if t.2.2=none/\(look l t.2.1).isSome=false then aK l t.2.1 t.1 else l
def gkl(ts:Ä Tk):As Nm:=ts.foldl gkS []
theorem KJ(ts:Ä Tk)(t:Tk):gkl (ts++[t])=gkS (gkl ts) t:=by ext ğ gkl List.foldl_append;rfl
theorem NO(l:As Nm)(t:Tk):(gkS l t).length<=l.length+1:=by
 unfold gkS aK;split
 .split
  .rw[Za];exact YQ _
  .ext ÒD
 .exact YQ _
theorem BK(ts:Ä Tk):Ň gkl ts<=ts.length:=by
 have gen:∀ák,(ts.foldl gkS l).length<=l.length+ts.length:=by
  intro ts;induction ts with
  |nil=>intro l;exact Zf _
  |cons t ts ih =>intro l;have:=ih (gkS l t);have:=NO l t;rw[List.foldl_cons,Zo];omega
 have:=gen ts [];rw[Yu,Nat.zero_add]at this;ext ÀZ
def goL(l:As Nm):Ŋ Nm Sd:=l.map λ x=>(Ð,Sd.gone ö)
theorem Cw Îq äj{xs':Ä α}{ys':Ä β}(h:Paired R xs ys)(h':Paired R xs' ys'):Paired R (xs++xs') (ys++ys'):=by
 induction h with
 |nil=>exact h'
 |cons r _ ih=>exact υ r ih
theorem sq ÀR áx:l.take (i+1)=l.take i++[x]:=Â4 List.take_succ h
inductive spHist ÂX:Prop
 |mk ÏP Ė Ìq (Îi T) (q:∀ol rs D ys H',Φ ol->ÏW->ó->Ñw D ys SsAt (bH rs++goL (gkl (Åh)))):spHist vs H Q E
abbrev mJ:Stmt:=top 83
abbrev Bc:Ä Str:=["ready","gone","name","item","by"]
theorem fM:ŀ Bc "ready" mJ:= ñ
theorem Ai(F:é "history_of" "history_of" mJ)(k7:ÂW 9 "takings_of" spTakings)(u4:ÂW 8 "steps_of" spSteps):Ç0 10 spHist:=by
 show ĩ fM [l,L,W,n,Φ,rfl,hL,T,q];exists _,(b_c (Ĕ 1 fM.nd qC)
   (b_c (ÆN (Æo bc k7 0) (ny rfl (ÔL 2 (ÔL 3 (ÔL 4 ic)))) (b_1 (aM (t_w (hJ (aE Gq ↑4 cQ) (gN (jK hr.units ↑3 ä)))) (b_1 (kh hr.units ä ↑3 Ū)) b_0)))
   (b_1 (au (aI vV (ϕ u4 0) (Jz (ÄW ["item","name"] (NU ä) (ÎR "item" "name") (jh Çd) (Ĭ fj) (Ĭ (aJ (ŏ 1 (q_a (Är Ğ 0) ai)))))))))))
 intro g gg;have s0:=af gg (.dT []);have eg:ø g (.dT []) g=Ã (.dT []):=ad;have hL0:=hL.same s0;refine#[Å,Õg,hL0,T,Ã0 ol tl ys H1 hΦ s1 etl pr];have lts:(Åh).length<=63:=ár (wU ol Â) ? _
 generalize hts:Åh=ts at pr lts;ext ŧ eg1 s1 eg;ext Ÿ ngt tl g eg1 etl
 refine#[Áe tl etl];have nt:∀{b:XH} {zs:X1},H1 b=ą tup zs->ō g:=fun{b zs} e z=>ÇY eg1 e
 refine ÁL gq tl (xs:=ys) (λ i Z H'=>(Ç2 g H1 H')/\∃(kvs:X0) (o2 o3 o4:Option V),Å7 H' g/\Rws (λ v n=>NameIs H' v (nk n)) kvs (gkl (ts.take i))/\Z=[Ö l,Ö g,o2,o3,o4])
  #[ÊQ o,[],none,none,none,eg1,.nil,rfl] (Ä2 (Âf ngt etl)) Ĳ
 .ext ÌQ kp kvs o2 o3 o4 hg hk;exists[r,hx,t,nv,iv,bv,rfl,e1,e2,e3,e4],bE pr hv;have tS:TS H1 H':=λ b zs e=>kp b _ (nt e) e;ext ŧ e1 tS e1;ext ě e2 e2.ts' tS e3 e3.ts' tS;have e4:=e4.ts tS;have hi:i<ts.length:=Àg hx;show ě lk dX hk l1 BK (ts.take i);rw[ZJ]at l1;refine Øa e1;rw[sq hx,KJ]at hDL;ext Ĝ gkS hDL;cases hb:ÃJ with
  |some y =>rw[hb]at e4;show ÁJ yb _ e4;refine#[ŭ,SS nofun (ÄQ #[kp,kvs,_,_,_,hg,È ? _])];rw[XB λ z=>by rw[hb]at z;cases z.1];exact hk
  |none =>
   rw[hb]at e4;ext ÇS bv e4;refine ÍN;ext ÁJ ib hib e3;refine#[Ü,ù g,DGet.t (k:=nk ĳ) hg hib,ţ];rw[gY hk];cases c:ϗ look (gkl (ts.take i)) ĳ with
   |true =>refine aF (ÄQ #[kp,kvs,_,_,_,hg,È ? _]);rw[XB λ z=>by rw[c]at z;cases z.2];exact hk
   |false =>refine aP #[Àj,ù g,DPut.t (k:=nk ĳ) hg hib (ĥ bo),ÄQ #[λ b o n e=>by rw[ah n];exact kp b o n e,_,_,_,_,ad,? _,rfl]];rw[XC #[hb,c]];have td:=pN (kvs':=bC kvs (nk ĳ) nv) hg;exact ÅN (iM hk e2) #[z.1,z.2.ts' td]
 .rintro Z H' ⟨kp,kvs,o2,o3,o4,hg,hk,rfl⟩;rw[ZC pr,ZO]at hk;ext ě lk dX hk l1 BK ts;have S':ó:=Æx e kp (aq e gg) (į s1 s0 e);show Å5 hL' hL.same S' #[Ùy,rfl,hL'.1,oW hL'.2,by have:=T.len;ext ğ aT Za;ext ÀZ,T.safe,Ã0 a2 ys2 rs H2 s2 ea2 pa2 run];ext ŧ hg2 s2 hg;have hk2:Rws (λ v n=>NameIs H2 v (nk n)) kvs (gkl ts):=ÅN hk #[z.1,z.2.same s2]
  refine#[Å,g,kvs,Ì hg2,ģ ob];have nt2:∀{b:XH} {zs:X1},H2 b=ą tup zs->ō g:=fun{b zs} e z=>ÇY hg2 e
  refine ŕ Ky o ob kvs kvs (λ i zs HH=>(Ç2 g H2 HH)/\HH g=Ã àR/\zs.length=i/\Ág SsAt HH zs (goL ((gkl ts).take i))) ∅ (λ _ _ _ z=>by rw[z.2.2.1];exact Zf _) #[λ b o n e=>Ī n e,È ad,.nil] (λ i zs HH z=>z.2.1) Ĳ
  .rintro i zs HH p b T' hp hb gT ⟨kp2,hgf,lz,pz⟩ Y hY;exists[x,hx,ex1,ex2],bE hk2 hp;have ex2:=ex2.ts' (H':=HH) λ b zs e=>kp2 b _ (nt2 e) e;have wT:=af gT (Ò [Æ b,Ĺ]);show Ť (ØJ T' ad) #[Ü,sz rfl,λ u gu=>#[Ċ z gz]];have wu:=af gu (Í1 Î "gone" b);have wz:=af gz (Ò [Ĺ,Æ u]);have sA:=wT.trans (wu.trans wz);refine ÀM #[λ c o n e=>sA Â (kp2 c o n e),sA Â hgf,Â4 Zm lz,? _];rw[sq hx];ext ğ goL Zy;rw[ex1]at hb;exact Cw (Ϡ pz v v.ts (XV sA)) (Ę #[z,u,Ĺ,Ì ad,ex2.same sA,#[Æ b,wz Â ad,#[È b,sA Â hb]]] ė)
  .rintro zs pl HH ⟨kp2,hgf,lz,pz⟩ gpl;have wpl:=af gpl (Õ zs);rw[lk,ZO]at pz;ext Èj epl HH pl Õ zs Ã;have kpl:∀b o,ō g->H2 b=ò->ß HH pl (Õ zs) b=ò:=λ b o n e=>wpl Â (kp2 b o n e);ext ŧ hgl wpl hgf;have pzl:=Ϡ pz v v.ts (XV wpl);generalize (ψ HH pl zs)=HP at epl kpl hgl pzl ⊢;refine#[g,ob,_,hgl,Loose.non gg,? _];ext Ÿ ng2 a2 g hg2 ea2
   ext Ÿ ngp pl g hgl epl
   have tsg:TS HP (ß HP g (.dT kvs)):=λ b ws e=>Ī (Àx e hgl) e
   have lz2:zs.length<=63:=(by exact ϙ 63 (Ñ Ç Ê (ÁE ū (Ñ Ê Ô (ÆK n 63 .z)))) Ŭ (Nat.le_of_eq lz) l1 (Nat.le_of_eq lk) lts)
   have ly2:ys2.length<=63:=by rw[ZC pa2];ext ÜH
   show Ã5 #[a2,pl,ys2,zs,î,by rw[ah ng2];exact kpl Â ng2 ea2,Ī ngp epl,ĥ cX,Ø r gr] wr af gr (Õ (ys2++zs));have T2:TS H2 (upd (ß HP g (.dT kvs)) r (Õ (ys2++zs))):=λ b ws e=>XV wr Â (tsg Â (kpl Â (nt2 e) e));refine q ol rs r Â hΦ run (λ b o e=>wr Â (by rw[ah (aq e gg)];exact kpl b o (aq e gg) (į s2 S' e))) ad ? _;rw[hts];exact Cw (Ϡ pa2 v v.ts T2) (Paired.mapP pzl λ _ _ v=>v.ts λ b ws e=>XV wr Â (tsg ŋ))
def gsF(gs:As Unit)(l:As Nm):As Unit:=l.foldl (λ g x=>aK g ö ()) gs
theorem L7:Âa aK gs n ()<=gs.length+1:=by
 unfold aK;split
 .rw[Za];exact YQ _
 .ext ÒD
theorem zw{Ψ:Ol->As Unit->Prop}(sm:Small ol):∀{l:As Nm} {gs:As Unit},(∀x∈l,ϗ look ol ö=true)->gs.length+l.length<=63->Ψ ol (gsF gs l)->pX Ψ ol gs (ϡ goL l)
 | [],_,_,_,h=>h
 |x::l,gs,hi,hz,h=>by
  rw[Zo]at hz;have hs:=L7 (gs:=gs) (n:=ö);refine#[sm,(by exact ϙ 63 (ÎJ 1 n 63) ď hz),Ç7 n hn,Ø n hn,.gone,Ø ol' ap]
  .rw[Zg.mp hn];exact hi x Zk
  .cases ap;exact zw sm (l:=l) (gs:=aK gs ö ()) (ν y hy hi) (ÅT â å6 hs hz) h
theorem CW{ts:Ä Sd}:∀(δ ss Sd ol Ol),(∀s∈ss,Ä9 n)->iZ Φ ol ss->(∀ol',Φ ol'->pX Ψ ol' [] ts)->pX Ψ ol [] (ss++ts)
 | [],_,_,h,k=>k _ h
 |s::ss,ol,ng,h,k=>by ext âp;exact CW (ν x hx ng) (nxt ol' ap) k
inductive spOutl Ĥ(vs:X1)Ë(Q:VK)(E:XK):Prop
 |mk ÏP Ė Ìq (Îi T) (hi:∀ol,Φ ol->Small ol/\∀ol',Φ ol'->∀x∈gkl (Åh),ϗ look ol' ö=true) (q:∀ol ol' p d g H',Φ ol->Φ ol'->ó->ÀS OlAt ol'->É2 GoneAt g (gsF [] (gkl (Åh))) p):spOutl C vs H Q E
abbrev mL:Stmt:=top 84
abbrev Bf:Ä Str:=["ready"]
theorem Ay:ŀ Bf "ready" mL:= ñ
theorem Ak(F:é "outline_of" "outline_of" mL)(UZ:ÂW 10 "history_of" spHist)(u7:ÐS spSteppedA):Ç0 11 (spOutl C):=by
 show ĩ Ay [l,L,W,n,Φ,rfl,hL,T,hi,q];exists _,(b_1 (au (ī u7 (q_a (áU (bc (ϕ UZ 0))) ai))))
 refine#[Å,Õg,hL,T,λ ol rs a2 ys2 H3 hΦ run s3 ea2 pa2=>#[Áe a2 ea2]];have lts:Ň gkl (eG ol (ϡ bD (L.zip W)))<=63:=ár (BK _) (Zn (wU ol Â) ? _)
 have lrs:Ň bH rs<=63:=by ext ÜH
 have q:=λ ol'=>q ol ol';have hi':=λ ol' h'=>(hi ol hΦ).2 ol' h';generalize gkl (Åh)=gl at pa2 lts q hi';have ly2:ys2.length<=130:=by rw[ZC pa2,Zm];ext ğ goL Za;exact â ÀJ (.n 130) (Ñ Ê (.n 63) (ć ÎV)) ď lts lrs
 refine bL (ØN StV (((bH rs++goL gl).take i).map Prod.snd)) ∅ Çk (È3 ea2) Ĳ
 .show át st sq Cw (Ę #[È st,õ e3.ts sm] ė)
 rintro zs lz H4 ⟨sm,lzs,pz⟩ glz;rw[ZC pa2,ZO,Zy]at pz;have wlz:=af glz (Õ zs);refine#[lz,zs,_,λ ol' gs=>Φ ol'/\gs=gsF [] gl,Ì ad,Æt pz StV wlz,CW (E8 run) (T.steps rs run) λ ol' h'=>zw (hi ol' h').1 (hi' ol' h') (by rw[Yu];exact â (Ão 0) (.n 63) (ć ÎV) [_] lts) #[È h'],λ p d g ol' gs H5 s5 O G z=>? _];ext ĭ z1 z;exact q ol' p d g H5 hΦ z1 (Ě s3.trans sm.trans wlz.trans s5) O G
def DT:ő TV:=[("put",tw ["up","place","text"]),("move",Ôe "up"),Äy "write" "text",Äy "mark" "truth",Äy "due" "whom",Äy "fold" "truth",("part",Ôe "at"),Äy "join" "item",("take",Õf),("back",Õf),("off",tw ["number"]),("on",tw ["number"]),("none",tw [])]
inductive Kd|u|p|t|i|b|w|a|n
deriving DecidableEq
def nm:Kd->Str
 |.u=>"up" |.p=>"place" |.t=>"text" |.i=>"item" |.b=>"truth" |.w=>"whom" |.a=>"at" |.n=>"number"
def wJ(c:Nat):Bool:=(decide (É 32<=c)&&decide (É c<=126))&&! decide (É c=37)
def sh(x:Str):Bool:=x.cps.toList.all wJ
def nmL(hd:Int)(ns:XQ):XQ:=[hd,am ns hd.toNat]
def gC(hd:Int)(ns:XQ)(i j:Int):Bool:=(decide (0<=i)&&(Å4 i ns.length&&decide (1<=j)))&&(decide (j<=am ns i.toNat)&&! decide ([i,j]=nmL hd ns))
inductive PartR Ë(hd:Int)(ns:XQ):Kd->Þ V
 |it Ō (i j:Int) (e:ÑF) (k:Õ3):Âq i Ϗ
 |u0:Âq u .non
 |up Ō (i j:Int) (e:ÑF) (k:Õ3):Âq u Ϗ
 |pl Ō (ms:XQ) (e:Ϛ a ms.map) (h1:1<=ms.length) (h2:ms.length<=64):Âq p Ϗ
 |tx (x:Str) (hl:x.length<=60) (ha:ú x.cps.all (·<128)) (e:ú sh x):Âq t (Î x)
 |bl (b:Bool):Âq b (.bl b)
 |w0:Âq w .non
 |w1 (i:Int) (h0:0<=i) (h1:i<ns.length):Âq w (Í i)
 |at(i:Int) (h:0<=i):Âq a (Í i)
 |nu (i:Int) (h1:1<=i) (h2:i<am ns hd.toNat):Âq n (Í i)
theorem PartR.same(ãL r)(s:ó):PartR H' hd ns k v:=by
 cases r with
 |it a i j e k=>exact .it a i j (Ģ e) k
 |u0=>exact .u0
 |up a i j e k=>exact .up a i j (Ģ e) k
 |pl a ms e h1 h2=>exact .pl a ms (Ģ e) h1 h2
 |tx x hl ha e=>exact .tx x hl ha e
 |bl b=>exact .bl b
 |w0=>exact .w0
 |w1 i h0 h1=>exact .w1 i h0 h1
 | «at» i h=>exact .at i h
 |nu i h1 h2=>exact .nu i h1 h2
abbrev Bk Ë(hd:Int)(Ŧ ns XQ ks Kd)(ps:X1):Prop:=Paired (PartR H hd ns) ks ps
inductive WhatR Ë(hd:Int)(ns:XQ):Þ V
 |is {a:XH} {k:Str} {ps:X1} {ks:Ä Kd} (e:Êk a k) (hk:PyProof.Rows.KTD.datumAt k DT=Ě some tw ks.map nm) (hl:ks.length<=60) (p:Bk H hd ns ks ps):WhatR H hd ns Ϗ
theorem WhatR.same{hd:Int}(r:WhatR H hd ns v)(s:ó):WhatR H' hd ns v:=by
 cases r with
 |is e hk hl p=>exact .is (Ģ e) hk hl (Ϡ p z z.same s)
inductive DeedR Ë(h:Int):Þ V
 |is {a c:XH} {i:Int} {ns:XQ} {z:V} (e:H a=Ã (Ò [Í i,Æ c,z])) (i0:0<=i) (i1:i<h) (ec:Ϛ c ns.map) (hl:É ns.length=h) (hn:∀n∈ns,0<=n) (h8:ns.length<=60) (h1:1<=am ns i.toNat) (r:WhatR H i ns z):DeedR H h Ϗ
def yI:Sp:=λ vs H Q _=>∃i:Int,vs=[Í i]/\Äz true
def pK:Sp:=λ vs H Q _=>∃i lo:Int,ÔA vs lo/\lo<=i/\Äz true
def Ff:Sp:=λ vs H Q _=>∃(a:XH) (i j h:Int),vs=ÈY a h/\ÑF/\0<=i/\i<h/\1<=j/\Äz true
def zD:Sp:=λ vs H Q _=>∃(a:XH) (ns:XQ),vs=ÈY a (É ns.length)/\Ϛ a ns.map/\ns.length<=60/\(∀n∈ns,0<=n)/\Èf
def Di:Sp:=λ vs H Q _=>∃(k:Str) (v:TV),vs=[Î k]/\PyProof.Rows.KTD.datumAt k DT=Ľ/\Äz true
def Dj(K:XY):Sp:=λ vs H Q _=>∃(k:Str) (ws:(Ä Str)),vs=[Î k]/\PyProof.Rows.KTD.datumAt k DT=ϝ tw ws/\∀t,àZ
def zE:Sp:=λ vs H Q _=>∃(a:XH) (ns:XQ),vs=ġ a/\Ϛ a ns.map/\1<=ns.length/\ns.length<=64/\Èf
def JT:Sp:=λ vs H Q _=>∃c:Nat,vs=[ÈA]/\ú wJ c/\Äz true
def Dg:Sp:=λ vs H Q _=>∃x:Str,vs=[Î x]/\x.length<=1000/\ú x.cps.all (·<128)/\ú sh x/\Èf
def De:Sp:=λ vs H Q _=>∃i h:Int,ÔA vs h/\0<=i/\i<h/\Äz true
def Fe:Sp:=λ vs H Q _=>∃(a c:XH) (hd i j:Int) (ns:XQ),vs=[Æ a,Í hd,Æ c]/\Ϛ c ns.map/\0<=hd/\hd<ns.length/\ÑF/\Õ3/\Èf
def Df:Sp:=λ vs H Q _=>∃(k:Kd) (v:V) (c:XH) (hd:Int) (ns:XQ),vs=[Î (nm k),v,Í hd,Æ c]/\Ϛ c ns.map/\0<=hd/\hd<ns.length/\PartR H hd ns k v/\Èf
def Dh:Sp:=λ vs H Q _=>∃(v:V) (c:XH) (hd:Int) (ns:XQ),vs=[v,Í hd,Æ c]/\Ϛ c ns.map/\0<=hd/\hd<ns.length/\WhatR H hd ns v/\Èf
def JS:Sp:=λ vs H Q _=>∃(v:V) (h:Int),vs=[v,Í h]/\DeedR H h v/\Èf
abbrev oJ:Stmt:=top 2
abbrev DJ:Ä Str:=["thing"]
theorem C7:ŀ DJ "thing" oJ:= ñ
theorem Ct(F:é "is_number" "is_number" oJ)(a8:Ē "isinstance")(V1:Ē "int")(Vp:Ē "bool"):Ò1 1 yI:=by
 show É0 C7 [i,rfl,q] (b_1 (au (dC (ÉU 0 V1 Bq) (dP (AK (ÉU 0 Vp yW))))))
 exact#[Å,_,Ôw "int",Í i,N6 (H:=H) (Í i),Å,aP #[Å,_,"bool",.type "int",È false,Í i,BV (H:=H) (Í i),Å,q]]
abbrev qJ:Stmt:=top 3
abbrev FG:Ä Str:=["thing","low"]
theorem Ed:Ŵ FG "thing" "low" qJ:= ñ
theorem D4(F:é "is_whole" "is_whole" qJ)(n9:Ŀ 1 "is_number" ["thing"] yI):ă 2 ["thing","low"] pK:=by
 show É0 Ed [i,lo,rfl,hl,q] (b_1 (au (dC (ϕ n9 0) (dP (cP Lk ü ä)))))
 refine#[Å,È i,Å,aP #[Ü,i,lo,î,? _]];rw[decide_eq_true hl];ext ŷ
abbrev rQ:Stmt:=top 4
abbrev Hv:Ä Str:=["thing","hands"]
theorem GW:Ŵ Hv "thing" "hands" rQ:= ñ
theorem Gv(F:é "is_name" "is_name" rQ)Üc(d8:Ē "tuple")(a9:Ē "len"):Ò7 3 Ff:=by
 show ĩ GW [a,i,j,h,rfl,e,i0,i1,j1,q];exists _,(å7
   (b_1 (au (dC (ī ß9) (dC (cP xP (ħ 0) ä) (dP (ī ß9)))))))
 refine Ø1 a;show Ť #[Å,ù a,ÃZ e,ľ,jR rfl ? _] #[ÄR a,XW e,Ì i,È 0,ù i0,aP #[ÄR a,XW e,Ł rfl _,Å,Ł rfl ? _]];rw[decide_eq_true i1];exact aP #[ÀH a,XW e,Ì j,È 1,j1,q]
theorem pZ Ė:((Ŷ n map) (ę true)).all id=true:=Ĵ
theorem qv à:(Ŷ n map) (λ _=>V.bl true)=ũ (Ŷ n map) (ę true) V.bl:=ό ZX
abbrev qH:Stmt:=top 5
abbrev FE:Ä Str:=["thing","hands"]
theorem Eb:Ŵ FE "thing" "hands" qH:= ñ
theorem DY(F:é "is_clock" "is_clock" qH)(d7:Ŀ ßc)Òy:Ò7 3 zD:=by
 show ĩ Eb [a,ns,rfl,e,hl,hn,q];exists _,(b_c (É9 (t_w (jN (fJ (ÏV)) (jV (aE Cl (ÆT 0) ä)))))
   (b_1 (au (ÊO (q_a (ÄW ["number"] (MN ü) (ÃV Þg) Àe (Ĭ fj) (ÄM _ (ī d7 (ÈW 0)))) ai)))))
 show ÚE #[Áo a,ÃZ e,ŭ,jR (by rw[Za]) ? _] #[Å,a,rfl,#[_,XW e],? _];show Ü1 #[Å,n,0,rfl,hn n hm,k H1 (Same.refl H1)]
abbrev qI:Stmt:=top 27
abbrev FF:Ä Str:=["thing"]
theorem Ec:ŀ FF "thing" qI:= ñ
theorem DZ(F:é "is_place" "is_place" qI)(n9:Ŀ 1 "is_number" ["thing"] yI)Òy(Uz:Â6 "MOST_NUMBERS" 64 tk):Ò1 2 zE:=by
 show ĩ Ec [a,ns,rfl,e,h1,h2,q];exists _,(b_c (É9 (t_w (jN (fJ (ÏV)) (jV (fJ (Pk uE uE aj (ÆT 0) (fe Uz)))))))
   (b_1 (au (ÊO (ņ (ÄW ["number"] (MN ü) (ÃV Þg) Àe (Ĭ fj) (Æo Ĭ n9 0)) ai)))))
 refine Ø1 a;show Îz #[Å,ù a,ÃZ e,ë,ţ] Za (by exact ô đ η (ĝ đ Ç .z) ÆS h1);refine aP #[ë,ţ];rw[decide_eq_true (Ïd 64 h2)];refine aF (È8 a #[_,XW e]);show Ü1 #[Å,È n,k H1 (Same.refl H1)]
abbrev jI:Stmt:=top 13
abbrev xj:Ä Str:=["thing"]
theorem wF:ŀ xj "thing" jI:= ñ
abbrev mI:Stmt:=top 14
abbrev Bb:Ä Str:=["word"]
theorem Ax:ŀ Bb "word" mI:= ñ
theorem we(F:é "is_deed_word" "is_deed_word" jI)Ün(a8:Ē "isinstance")(V2:Ē "str"):Ò1 1 Di:=by
 show ĩ wF [k,v,rfl,hk,q];show Áh _ (b_1 (au (dC (ÉU 0 V2 Bs) (dP (cP Oi ü (GO k9)))))) #[Å,Î k,"str",.type "str",È true,Î _,ËV nofun,Å,aP #[Å,dd,k,È DT,Ì T,? _]];rw[hk];ext ŷ
theorem Ah(F:é "deed_parts" "deed_parts" mI)Ün:ă 1 ["word"] (Dj K):=by
 ext àN Ax k9 DT
abbrev rS:Stmt:=top 37
abbrev Hy:Ä Str:=["sign"]
theorem GY:ŀ Hy "sign" rS:= ñ
theorem Gx(F:é "is_sign" "is_sign" rS)(WG:Ē "ord")(U0:Â6 "FIRST_SIGN" 32 t1)(Vl:Â6 "LAST_SIGN" 126 t2)(UA:Â6 "PERCENT_SIGN" 37 t3):ă 1 ["sign"] JT:=by
 show É0 GY [c,rfl,hc,q] (b_1 (au (dC (OW uE uE (fe U0) (q_B MG WG PyProof.Rows.bootS_ord (Ğ 0)) (fe Vl)) (dP (cP Cl (q_B MG WG PyProof.Rows.bootS_ord (Ğ 0)) (fe UA))))))
 ext Ĝ wJ hc;ext Ýc hc;refine#[Å,È c,ë,ţ];rw[decide_eq_true hc.1.1];refine aP #[ë,ţ];rw[decide_eq_true hc.1.2];refine aP #[Å,È c,Ì ? _];rw[decide_eq_false (λ y=>hc.2 (V.int.inj y))];ext ŷ
abbrev rU:Stmt:=top 36
abbrev Hz:Ä Str:=["thing"]
theorem GZ:ŀ Hz "thing" rU:= ñ
theorem Gy(F:é "is_text" "is_text" rU)(VG:Ŀ 1 "is_sign" ["sign"] JT)(a8:Ē "isinstance")(V2:Ē "str")(j6:Ē "all"):Ò1 2 Dg:=by
 show ĩ GZ [x,rfl,hl,ha,hs,q];exists _,(b_1 (au (dC (ÉU 0 V2 Bs) (dP (ÊO (ņ (ÄW ["sign"] (SM ü) (ÃV (Àn ["sign"])) Àe (Ĭ fj) (Æo Ĭ VG 0)) ai))))))
 refine#[Å,Î x,Ôw "str",Î _,ËV nofun,Å,aP (È8 x ha)];refine Kz (x:=x) (λ _=>.bl true) hl (Áp i c H1 hi sm R k) (Č p H1 sm hp)
 .ext Ĝ sh hs;exact#[Å,È c,Z9.mp hs c (ÁG ZG Yz hi),k H1 (Same.refl H1)]
 show ÝG (ÄZ hp)
abbrev rP:Stmt:=top 42
abbrev Ht:Ä Str:=["thing","hands"]
theorem GU:Ŵ Ht "thing" "hands" rP:= ñ
theorem Gu(F:é "is_hand" "is_hand" rP)(d7:Ŀ ßc):Ò7 3 De:=by
 show É0 GU [i,h,rfl,i0,i1,q] (b_1 (au (dC (ī d7 (ÈW 0)) (dP (cP xP ü ä)))))
 refine#[Å,i,0,Ì i0,Å,aP #[Ü,i,h,î,? _]];rw[decide_eq_true i1];ext ŷ
abbrev jt:Stmt:=top 45
abbrev vd:Ä Str:=["thing","hand","clock"]
theorem uR:FnScope vd Êe (ao jt):= ñ
theorem uH(F:é "is_known_item" "is_known_item" jt)(VH:ÌF 3 "is_name" Ff)Ôp(a9:Ē "len"):ă 4 Êe Fe:=by
 show ĩ uR [a,c,hd,i,j,ns,rfl,hC,d0,d1,e,k,q];exists _,(b_1 (au (dC (ī VH (ŏ 0 (ð (q_B dN a9 Z2 (Ğ 2))))) (dC (Å3 r9 2 0) (dP (cP (Cm hr.units) ü (aJ (ÀO 1 (ð (ar aw Ū ä))))))))))
 ext Ĝ gC k;ext Ýc k;obtain⟨⟨i0,i1,j1⟩,k1,k2⟩:=k;refine#[Ü,ù c,ÃZ hC,a,i,j,_,Ì e,i0,Ă Za i1,ù j1,aP #[Ü,c,Æ a,ns,(i,j),Ì hC,#[È a,e],i0,i1,ţ]];rw[show Ď ko ns (i,j) from decide_eq_true k1];refine aP #[Ü,Ü,c,τ,XW hC,eZ d0 d1,Ċ p g];show ÂI w1 af g (Ò [Í hd,Í (am ns hd.toNat)]) #[a,p,[i,j],nmL hd ns,î,w1 ŋ,ad,? _];rw[decide_eq_false k2];exact q _ w1
abbrev rR:Stmt:=top 44
abbrev Hw:Ä Str:=["kind","part","hand","clock"]
theorem GX:FnScope Hw Ìr (ao rR):= ñ
theorem Gw(F:é "is_part" "is_part" rR)(p6:Ŀ 4 "is_known_item" Êe Fe)(Vs:Ŀ 2 "is_place" ["thing"] zE)(VI:Ŀ 2 "is_text" ["thing"] Dg)(u8:ÌF 3 "is_hand" De)Üc(Vp:Ē "bool")(a9:Ē "len")(U1:Â6 "MOST_SIGNS" 60 tk):ă 5 Ìr Df:=by
 show ĩ GX [k,v,c,hd,ns,rfl,hC,d0,d1,hp,q];exists _,(b_c (ÃR 0 (b_1 (au (ī p6 (ŏ 1 (Ã8 2 3))))) b_0)
   (b_c (ÃR 0 (b_1 (au (RF (cP Gq ä cQ) (dP (ī p6 (ŏ 1 (Ã8 2 3))))))) b_0)
   (b_c (ÃR 0 (b_1 (au (ϕ Vs 1))) b_0)
   (b_c (ÃR 0 (b_1 (au (dC (ϕ VI 1) (dP (cP uE (q_B Bt a9 Z2 (Ğ 1)) (fe U1)))))) b_0)
   (b_c (ÃR 0 (b_1 (au (ÉU 1 Vp yW))) b_0)
   (b_c (ÃR 0 (b_1 (au (RF (cP Gq ä cQ) (dP (ī u8 (ŏ 1 (ð (q_B dN a9 Z2 (Ğ 3))))))))) b_0)
   (b_c (ÃR 0 (b_1 (au (ī d7 (ÈW 1)))) b_0)
   (b_1 (au (dC (ī d7 (ÈW 1)) (dP (cP xP ä (ar aw ↑3 Ū)))))))))))))
 have q0:=q H (Same.refl H);have nx:∀{a b:Str} Æq,a≠b->B->ÇD (V.str a=V.str b):=λ h z=>aW (λ y=>h (V.str.inj y)) z
 refine#[Å,Ł rfl ? _];cases hp with
 |it a i j e kn=>exact cS #[Àj,a,c,hd,i,j,ns,Ì hC,d0,d1,e,kn,q]
 |u0=>exact ϟ #[ŭ,cS #[ŭ,Gg rfl q0]]
 |up a i j e kn=>exact ϟ #[ŭ,cS #[ŭ,MO nofun #[Àj,a,c,hd,i,j,ns,Ì hC,d0,d1,e,kn,q]]]
 |pl a ms e h1 h2=>exact ϟ (Äi nx #[Å,ľ,cS #[Å,a,ms,Ì e,h1,h2,q]])
 |tx x hl ha e =>refine ϟ (Äi nx (Ó9 #[Å,ľ,cS #[Å,È x,∅,ha,e,λ H1 s1=>#[Å,aP #[Å,È x,∅,ë,? _]]]]));rw[decide_eq_true (Ïd 60 hl)];exact q H1 s1
 |bl b=>exact ϟ #[ŭ,ϟ (Äi nx (Ó9 #[Å,ľ,cS #[Å,_,"bool",.type "bool",È true,.bl b,BV (H:=H) (.bl b),q0]]))]
 |w0=>exact ϟ #[ŭ,ϟ #[ŭ,ϟ (Äi nx (Ó9 #[Å,ľ,cS #[Å,ľ,Gg rfl q0]]))]]
 |w1 i h0 h1=>exact ϟ #[ŭ,ϟ #[ŭ,ϟ #[ŭ,ϟ (Äi nx #[Å,ľ,cS #[Å,ľ,MO nofun #[Ü,ù c,ÃZ hC,Ł i h0,Ă Za h1,q0]]])]]]
 | «at» i h=>exact ϟ #[ŭ,ϟ #[ŭ,ϟ #[ŭ,ϟ #[ŭ,ϟ (Äi nx #[Å,ľ,cS #[Å,i,0,Ì h,q0]])]]]]
 |nu i h1 h2 =>refine ϟ #[ŭ,ϟ #[ŭ,ϟ #[ŭ,ϟ #[ŭ,ϟ #[ŭ,ϟ (Äi nx #[Å,i,1,Ì h1,Å,aP #[Ü,ÄR c,XW hC,eZ d0 d1,ë,? _]])]]]]];rw[decide_eq_true h2];exact q0
abbrev rW:Stmt:=top 43
abbrev HE:Ä Str:=["thing","hand","clock","kinds"]
theorem wG:FnScope HE Êe (ao rW):= ñ
theorem GA(F:é "is_what" "is_what" rW)(UB:Ŀ 1 "is_deed_word" ["thing"] Di)(U3:Ŀ 1 "deed_parts" ["word"] (Dj K))(VJ:Ŀ 5 "is_part" Ìr Df)Òy(p9:Ē "zip"):ă 6 Êe Dh:=by
 show ĩ wG [v,c,hd,ns,rfl,hC,d0,d1,r,q];exists _,(b_c (É9 (t_w (jN (fJ (ÏV)) (jN (Æz aE bW 0) (jV (fJ (ci (ī UB (ð (ħ 0))))))))))
   (b_c (Ĕ 3 wG.nd (ī U3 (ð (ħ 0))))
   (b_c (É9 (aE Cl (ÆT 0) (Æz aI eW 3)))
   (b_1 (au (ÊO (q_a (Ì5 ["kind","part"] (ËW 1 2 "hand" "clock") (sL p9 (ÀO 3 (ð (fg dW ↑0 (eM aj) fq)))) (Ûf 2 (bS (ÁX 0 (Àn Ìr)) (bS (ÁX 1 (Àn Ìr)) ic))) (jh Çd) (Ĭ fj) (Ĭ (ī VJ (ŏ 0 (ŏ 1 (ŏ 2 (Ğ 3))))))) ai)))))))
 cases r with
 |@is t k ps ks e hk l3 hp =>
  have lw:=ZC hp;refine Ø1 t;refine#[Áo t,ÃZ e,ľ,aW (λ z=>by ext ÂV z;rw[Zo]at z;exact Nat.not_succ_le_zero _ (Àd (Ĩ (.c (Ų a 0)) č) ÆS (Int.le_of_eq z))) ? _];show Ť #[ÄR t,XW e,PQ,k,Å,ù hk,aF ? _] #[ÄR t,XW e,PQ,k,ks.map nm,Ì hk,Ø y hy];refine#[Áo t,ÃZ e,Áo y,ā (hy H),ë,ľ,jR (by rw[Zo,Za,Za,lw];rfl) ? _];have cv:bU (V.str k::ps) (Ù 1) none=ps:=by unfold bU;rw[HT.sIx_none,mj ⋯,Zo,show((1:Int).toNat)=1 from rfl,YD (by exact ËT Ć Ζ),List.drop_succ_cons,List.drop_zero,Yt (by exact ŝ (ć (ã 0) (ã 1)) ď Ŝ)]
  refine#[Àj,Ł t e,Č z H0 w1 ez];rw[cv]at ez;refine#[y,z,_,_,rfl,hy _,XW ez,ÅJ Za Za lw,? _];refine BB (λ _=>.bl true) (Ãf Za Za) (hy _) (XW ez) (ÅJ Za Za lw) (λ i x v H1 hx hv sm R kk=>? _) (Č p H1 sm hp1)
  .rw[Zs,Zs]at hx;cases e:ks[i]? with
   |none=>ext è e hx hx
   |some kd =>
    ext è e hx hx;have pb:PartR H hd ns kd v:=by
     have gt:∀(δ ks Kd ps X1),Bk H hd ns ks ps->∀{i:Nat},Ý ks kd->Ý ps v->PartR H hd ns kd v:=by
      intro ks ps x;induction x with
      |nil=>intro i h;simp at h
      |cons r _ ih =>
       intro i h1 h2;cases i with
       |zero=>cases h1;ext Ř h2 r
       |succ i=>exact ih h1 h2
     exact gt hp e hv
    exact#[Ü,Ü,kd,v,c,hd,È ns,į sm w1 hC,d0,d1,pb.same (w1.trans sm),λ H2 s2=>kk H2 s2]
  show Ě ÝG w1.trans ÄZ hp1
abbrev rO:Stmt:=top 41
abbrev Hs:Ä Str:=["thing","hands"]
theorem GT:Ŵ Hs "thing" "hands" rO:= ñ
theorem Gs(F:é "is_deed" "is_deed" rO)(u8:ÌF 3 "is_hand" De)(Vt:ÌF 3 "is_clock" zD)(VL:Ŀ 6 "is_what" Êe Dh)(a8:Ē "isinstance")(d8:Ē "tuple")(a9:Ē "len"):Ò7 7 JS:=by
 show ĩ GT [v,h,rfl,r,q];exists _,(å7
   (b_c (É9 (t_w (jN (fJ (ci (ī u8 ÕA))) (jV (fJ (ci (ī Vt ÕA)))))))
   (b_1 (au (dC (cP Lk ÞM aj) (dP (ī VL (ņ (ħ 0) (ÈE 0)))))))))
 cases r with
 |@is a c i ns z e i0 i1 ec hl hn h8 h1 wr =>subst hl;show ÚE #[Áo a,ÃZ e,ľ,jR ÄE] #[Å,a,_,_,_,î,XW e,Ł rfl i,Å,i0,i1,Å,aF ? _];refine#[ÀH a,XW e,Ł rfl c,È ns,ec,h8,hn,λ H1 s1=>ÅG ? _];have f1:=s1 ŋ;refine#[ÀH a,XW f1,Ł rfl a,_,ÀW,XW f1,Ì c,_,ÀW,À7 XW s1 ec,eZ i0 ∅,ë,ţ];rw[decide_eq_true h1];refine aP #[ÀH a,XW f1,Ł rfl a,_,ÀW,XW f1,Ł rfl a,_,ÀW,XW f1,Ì ? _];exact#[z,c,i,ns,rfl,s1 Â ec,i0,i1,wr.same s1,λ H2 s2=>q H2 (s1.trans s2)]
abbrev rN:Stmt:=top 89
abbrev Hr:Ä Str:=["_law_script","_law_k"]
theorem GS:Ŵ Hr "_law_script" "_law_k" rN:= ñ
theorem Gr(F:é "_law_cell_at" "_law_cell_at" rN)(a9:Ē "len"):ă 1 ["_law_script","_law_k"] (spCell K):=by
 show ĩ GS [a,ns,k,rfl,hS,h0,q];refine#[_,(b_c (aM (aE xP ä (ÆT 0)) (b_1 (au (ar cJ ü ä))) b_0)
   (Ás aj)),? _]
 refine#[Ü,ù a,Ó hS,ë,ţ];refine Ám Uj c c
 .have c':k<(Ň ns.map V.int:Int):=Z5 c;rw[Za]at c';exact#[Ü,a,τ,hS,eZ h0 c',q]
 .have c':¬k<(Ň ns.map V.int:Int):=Xs (Xj.mpr c);rw[Za]at c';rw[Kw h0 c']at q;ext ŷ
def eT:Str:="abc XYZ019 ,.-!~'(){}#&*+/:;<=>?\x40[]^_|$"
theorem km:eT.length=39/\eT.cps.toList.length=39:=⋯
theorem Mc:∀c∈eT.cps.toList,c<0x110000:=⋯
theorem EG:∀l:Ä Str,(∀s∈l,ÁY s/\s.length=1)->ÁY (Str.join "" l)/\ÅC Str.join "" l l.length
 | [],_=>#[Àv]
 | [x],h=>#[(h x Û).1,(h x Û).2]
 |x::y::r,h=>by
  exists[i1,i2],EG (y::r) (ν s hs h);exists[x1,x2],h x Û;have e:Str.join "" Ö9=x++Ày ""++Str.join "" (y::r):=rfl;have e0:("":Str).length=0:=⋯
  rw[e];exact#[Cr (Cr x1 ⋯) i1,by rw[xL,xL,x2,i2,e0];ext Ű Zo;exact Nat.le_antisymm (ÂY (.p (ι n 1 ÁM) Ć) (ϓ p Ć) Ζ) (ÂY (ϓ p Ć) (.p (ι n 1 ÁM) Ć) Ζ)]
theorem Dp:∀l:Ä Str,(∀s∈l,s.length=1)->(l.map (·.length)).sum=l.length
 | [],_=>rfl
 |x::l,h=>by rw[Zu,Y1,Zo,h x Zk,Dp l (ν s hs h)];exact Nat.le_antisymm (ÂY (Ε n 1 0) Ć Ζ) (ÂY Ć (Ε n 1 0) Ζ)
theorem BQ(p:ÀX Nat):∀l:Ä Str,(∀s∈l,ú s.cps.toList.all p)->(Str.join "" l).cps.toList.all p=true
 | [],_=>rfl
 | [x],h=>h x Û
 |x::y::r,h=>by have i1:=BQ p (y::r) (ν s hs h);have e:Str.join "" Ö9=x++Ày ""++Str.join "" (y::r):=rfl;rw[e];show((x.cps++Ů)++(Str.join "" (y::r)).cps).toList.all p=true;rw[Array.toList_append,Array.toList_append,List.all_append,List.all_append,h x Û,i1];rfl
def TxA(t:Str):Prop:=ú t.cps.all (·<128)/\ú sh t
theorem Pa:ú eT.cps.toList.all (λ c=>decide (c<128)&&wJ c):=⋯
def Fi:Sp:=λ vs H Q _=>∃n:Int,vs=[Í n]/\∀(t:Str) (H':Hp),uf t/\TxA t->ó->Q (Î t) H'
abbrev CU:Stmt:=top 90
abbrev PH:Ä Str:=["_law_n","_law_some"]
theorem Fb:ŀ PH "_law_n" CU:= ñ
theorem Op(F:é "_law_text" "_law_text" CU)(j4:Ē "range")(a9:Ē "len"):ă 1 ["_law_n"] Fi:=by
 show ĩ Fb [c,rfl,q];refine#[_,(b_c (Ĕ 1 Fb.nd aA)
   (b_1 (au (RE aA (Ô8 ["_law_k"] (ËW 1 0 "_law_some" "_law_n") (vC j4 (ð (aI cV ü aj))) (ÃV (Àn ["_law_k","_law_some","_law_n"])) (Ĭ (ar T8 ä (aI cV (aI eW (aI eX Ū (aI eW ü aj)) (aI nJ ü ü)) (q_B Bt a9 Z2 (Ğ 1)))))))))),? _]
 show ÎM c0 c 6 c1;have sg:∀n:Int,∃ch,atI eT.cps.toList (n%39)=Ã ch/\ch∈eT.cps.toList:=λ n=>by
  show ÎM k0 n 39 k1;have hz:(n%39).toNat<eT.cps.toList.length:=by rw[km.2];exact ÂY Ć (.n 39) (ÿ Ć (.n 39) (Áb Ĩ Ç)) Æ3 k1 (ÉH k0)
  have:=fi (xs:=eT.cps.toList) (Ze hz);rw[show É ((n%39).toNat:Nat)=n%39 by exact Óf k0]at this;exact#[_,this,ZD hz]
 let ix:Nat->Int:=λ i=>c / (0+É i+1)+(0+É i)*(0+É i)
 let sgn:Nat->Str:=λ i=>Ýb
 have sgo:∀i,ÁY (sgn i)/\Ň sgn i=1:=λ i=>by exists ÂZ ch,sg (ix i);refine#[È ? _];show((List.toArray [ÞI]):XR).all (·<0x110000)=true;rw[e1];simp[Mc ch e2]
 show Ť #[Ì ? _] #[Å,Ã6 6,Å,ÆG,? _];refine vq (λ i=>Î (sgn i)) ∅ (ŗ i H1 hi s1 R k) (ÇG l gl)
 .exists ÂZ ch,sg (ix i);have k':=k H1 (Same.refl _);refine#[Àj,ë,ë,#[(by exact ô Âc (.p (.p č η) đ) Ζ),∅],Ü,ë,Ó #[ÆG],ë,Å,È eT,by rw[km.1];decide,ë,(by show É 0<É eT.length;rw[km.1];decide),eT,_,È ch,rfl,cX (by rw[km.1];decide),Χ]
  .show atI eT.cps.toList (ix i%É eT.length)=Ã ch;rw[km.1];exact e1
  .have:sgn i=#[(List.toArray [ch])]:=by show(Ýb:Str)=_;rw[e1];rfl
   rw[this]at k';exact k'
 .have em:(È6 λ i=>V.str (sgn i))=ũ È6 sgn V.str:=ό ZX
  have jo:=EG (È6 sgn) λ s hs=>by show ż i _ hs;exact sgo i
  rw[Za,YA]at jo;have ej:Txt.join "" (È6 sgn)=Str.join "" (È6 sgn):=StrLaws.glued_eq_join Â;refine#["",l,È6 sgn,î,Χ,? _]
  .rw[em];exact XX ad
  .have e0:("":Str).length=0:=⋯
   rw[Dp _ λ s hs=>by show ż i _ hs;exact(sgo i).2,e0,Za,YA];omega
  .rw[ej];have ja:=BQ (λ c=>Å4 c 128&&wJ c) (È6 sgn) λ s hs=>by show ż i _ hs;exists ÂZ ch,sg (ix i);show([ÞI]:Ä Nat).all _=true;rw[e1];have:=Z9.mp Pa ch e2;ext ÃT
   rw[Z9]at ja;refine q Â #[#[jo.1,(by exact ÇW (.n 5) (ĝ Ç Ê (ÿ Ć (.n 6) (ÿ (.c Ê) ÂE))) ď Τ (Nat.le_of_eq jo.2) c1 (ÉH c0))],Χ] (s1.trans (af gl _))
   .rw[<-Array.all_toList,Z9];intro z hz;exact(ZH Â▸ja z hz).1
   .ext ğ sh Z9;intro z hz;exact(ZH Â▸ja z hz).2
def Bn(pl:XQ):Prop:=1<=pl.length/\pl.length<=64
def Kn Û7:Þ Wd
 |ÇM=>(∀n,u=Γ->g n)/\Bn pl/\TxA tx
 |É4 pl=>g n/\(∀n,u=Γ->g n)/\Bn pl
 |Ãj n=>g n/\TxA tx
 |.mark n _=>g n
 |.due n w=>g n/\∀k,w=Ã k->0<=k/\k<hs
 |.fold n _=>g n
 |Å1 _ pl=>g n/\Bn pl
 |ÆC m=>g n/\g m
 |.take n=>g n
 |.back n=>g n
 |.off k=>1<=k/\k<nr
 |.on k=>1<=k/\k<nr
 |.none=>True
theorem Kn.imp{g g':Þ Nm}{nr hs:Int}(h:Kn g nr hs wd)(e:∀n,g n->g' n):Kn g' nr hs wd:=by
 cases wd with
 |put=>exact#[λ n z=>e n (h.1 n z),h.2]
 |move=>exact#[e _ h.1,λ n z=>e n (h.2.1 n z),h.2.2]
 |write=>exact#[e _ h.1,h.2]
 |due=>exact#[e _ h.1,h.2]
 |part=>exact#[e _ h.1,h.2]
 |join=>exact#[e _ h.1,e _ h.2]
 |off=>exact h
 |on=>exact h
 |none=>trivial
 |_=>exact e _ h
def GV Û7 Ë(v:V):Prop:=∃(t:XH) (wd:Wd),v=Æ t/\WhAt H t wd/\DOk wd/\Kn g nr hs wd
theorem GV.same{nr hs:Int}(x:GV g nr hs H v)(s:ó):GV g nr hs H' v:=μ [t,wd,h1,h2,h3] x #[t,wd,h1,õ h2.ts s,h3]
theorem NG(a b e:Int)(h:e=0\/e=1):∃ms:XQ,bU ([a,b].map V.int) none (Ù (1+e))=ms.map V.int/\Bn ms:=by
 ext Ś h rfl rfl
 show ÀI #[[a],rfl,Zf 1,Xa rfl] #[[a,b],rfl,Xa rfl,Xa rfl]
theorem MW ÜF(h1:À4 i):∃v n,atI xs i=Ľ/\œ v n/\g n:=by exists ÂZ v,FQ h0 h1;exists[n,e4,e3],bE p e2;exact#[v,n,e1,e3,hg n (ZG e4)]
theorem TZ ÜF(h1:i<xs.length+1):∃v u,atI (xs++[.non]) i=Ľ/\UpAt ÇJ/\∀n,u=Γ->g n:=by
 exists ÂZ v,FQ (xs:=xs++[.non]) h0 (by rw[Zm];show i<É (xs.length+1:Nat);exact ÒZ Ć (.c Ć) (ť Ĩ 0 ÅK) [_] h1);by_cases c:(À4 i.toNat)
 .rw[YU c]at e2;exists[n,e4,e3],bE p e2;exact#[v,Γ,e1,e3,λ m z=>Zt z▸hg n (ZG e4)]
 .rw[Yq (by exact Ëw)]at e2;have:i.toNat-xs.length=0:=ϔ (ÇW č (ÿ Ć (ϓ p (.c Ê)) (ÿ (.c Ô) Ç (ĝ (Ε a 0 1) Ô .z))) æ [_] Á3 h1 (Ě Int.le_of_eq Int.toNat_of_nonneg Ú3 h0) (Nat.add_le_of_le_sub (Ád ϊ (Nat.le_of_not_lt c)) (Nat.le_refl _))) ÙR
  show π this e2 #[_,none,È e1,nofun]
theorem Qd{nr hs:Int}{i:Int}(h:∀v∈xs,GV g nr hs H v)(h0:0<=i)(h1:À4 i):∃v,atI xs i=Ľ/\GV g nr hs H v:=by exists ÂZ v,FQ h0 h1;exact#[v,e1,h v (ZG e2)]
def JU:Sp:=λ vs H Q _=>∃(n number hands:Int) (l:XH) (xs:X1) (ns:(Ä Nm)) (g:(Þ Nm)),vs=[Í n,Æ l,Í number,Í hands]/\ĺ ÂT/\NmsAt H xs ns/\(∀n∈ns,g n)/\xs.length<=100/\1<=number/\1<=hands/\0<=n/\∀v H',ó->GV g number hands H' v->Q v H'
abbrev CV:Stmt:=top 91
abbrev PJ:Ä Str:=["_law_n","_law_pool","_law_number","_law_hands","_law_word","_law_spot","_law_up","_law_here","_law_there","_law_truth","_law_some"]
theorem fw:FnScope PJ ["_law_n","_law_pool","_law_number","_law_hands"] (ao CV):= ñ
theorem Oq(F:é "_law_what" "_law_what" CV)(Wp:Ŀ 1 "_law_text" ["_law_n"] Fi)(a9:Ē "len"):ă 2 ["_law_n","_law_pool","_law_number","_law_hands"] JU:=by
 show ĩ fw [n0,nr,hs,l,xs,ns,g,rfl,hl,hp,hg,l1,n1,h1,h0,q];exists _,(b_c (Ĕ 4 fw.nd (aI cV ü aj))
   (b_c (Ĕ 0 fw.nd (aI eX ü aj))
   (b_c (aM (aE bW ↑4 aj) (b_c (aM (aE bW Ū aj) (b_1 (Ě au aJ ð aA)) b_0)
   (b_1 (au (aJ (q_a (ar cJ (bX (q_a aA (ņ aA (ð aA)))) (aI cV ü aj)) (ð (aI eW aj (ÊI (aI sY Ū aj))))))))) b_0)
   (b_c (Ĕ 5 fw.nd (fg dW (aJ (ņ (aI sY (aI cV ü aj) aj) (ð (ÊI aj)))) fq (eM (aI eW aj (ÊI aj)))))
   (b_c (Ĕ 6 fw.nd (ar cJ (aI vV ä (bX (ð cQ))) (ÊI (Æz aI eW 1))))
   (b_c (aM (t_w (jN (aE xP ↑4 aj) (jV (aE (sX hr.units) ä (bX ai))))) (b_1 (au (aJ (q_a aA (ŏ 6 (ÀO 5 (ņ (aC Wp ↑99 (ð (aI eX ↑0 aj))) ai))))))) b_0)
   (b_c (Ĕ 7 fw.nd (ar cJ ä (ÊI (ÆT 1))))
   (b_c (Ĕ 8 fw.nd (ar cJ ä (ÊI (ÆT 1))))
   (b_c (Ĕ 9 fw.nd (cP bW (aI cV ü aj) aj))
   (b_c (Ĕ 10 fw.nd (bX (q_a (aJ (q_a aA (ŏ 7 (Ã8 6 5)))) (q_a (aJ (q_a aA (ŏ 7 (Ã8 6 5)))) (q_a (aJ (q_a aA (ŏ 7 (q_a (ϕ Wp 0) ai)))) (q_a (aJ (q_a aA (Ã8 7 9))) ai))))))
   (b_c (Ĕ 10 fw.nd (aI vV ↑10 (bX (q_a (aJ (q_a aA (ÀO 7 (q_a (ar cJ (bX (ņ cQ (ð (aI cV (aI eX ↑0 aj) ↑3)))) (aI cV ↑0 aj)) ai)))) (q_a (aJ (q_a aA (Ã8 7 9))) (q_a (aJ (q_a aA (ŏ 7 (ņ (aI cV ü aj) (Ğ 5))))) ai))))))
   (b_c (Ĕ 10 fw.nd (aI vV ↑10 (bX (q_a (aJ (q_a aA (Ã8 7 8))) (q_a (Är Ğ 7) (q_a (Är Ğ 7) ai))))))
   (b_1 (au (ar cJ ↑10 (aI sY ↑4 aj))))))))))))))))
 refine#[Å,Ã6 15,? _];show Ã5 #[ÂD,#[Àv],? _] w0 Yb n0 (Õv 15);have w1:=Yd n0 (show É 0<15 by decide);have m0:0<=n0 / 15:=Int.ediv_nonneg h0 ⋯;ext ň;generalize n0%15=wo at w0 w1 ⊢;generalize n0 / 15=n at m0 ⊢;refine#[ŭ,Ám Gf e14 n14]
 .refine#[ŭ,Ám Gf e1 e1]
  .exact#[sz rfl,λ t gt=>q Â (af gt _) #[t,.none,rfl,#[[],È ad],trivial,trivial]]
  .show ÎM k0 n 3 k1;obtain⟨b,hb⟩:∃b:Bool,atI [V.str "off",Î "off",Î "on"] (n%3)=Ã (Øl):=by
    rcases(show n%3=0\/n%3=1\/n%3=2 by omega)with z|z|z
    .show Œ z #[false,at0]
    .show Œ z #[false,at1]
    .show Œ z #[true,at2]
   show Ť #[Ċ l3 g3] #[Å,Ã6 3,l3,_,ë,XX ad,hb,? _];refine#[ÂD,#[Àv],ÂD,ë,(by show É 0<nr-1;omega),ë,Ċ t gt];have up:upd (ø l3 (.lst [V.str "off",Î "off",Î "on"])) t (Ò [Øl,Í (ÊL)]) t=Ã (Ò [Øl,Í (ÊL)]):=ad;have kk:1<=ÊL/\ÊL<nr:=by show ÝU y0 (n / 3) (show nr-1≠0 by omega) y1 (show 0<nr-1 by omega);omega
   cases b with
   |false=>exact åH off
   |true=>exact åH on
 ext Éx;show Ť #[Å,Ã6 7,ë,Å,ë,#[⋯,⋯],Ã6 5,Ċ ts gts] #[Å,ë,#[⋯,⋯],Ã6 2,ë,Å,Ł ts ad,λ sp H1 s1 e1=>ÄS];exists[pl,epl,plk],NG (n%7-3) (n / 7%5) (n / 35%2) ∅;have e1':Į H1 sp (Ò (pl.map V.int)):=Àq epl e1
 have S1:Same H H1:=(af gts _).trans s1
 ext Éx;show ÃB #[Å,Ċ pn gpn] v1 gpn (Õ [.non]);have S2:=S1.trans v1;show Ã5 #[l,pn,ë,S2 Â hl,ad,cX (by show xs.length+1<=1000;omega),Ø lc glc] v2 af glc (Õ (xs++[.non]));have S3:=S2.trans v2;have u0:=Yb (n / 4480) (show(É xs.length+1)≠0 by show Ě Òg Úw Int.le_of_eq q);have u1:=Yd (n / 4480) (show É 0<É xs.length+1 by exact ÔM ÅK);exists[uv,u,hu1,hu2,ug],TZ (õ hp.ts S3) hg u0 u1;refine#[ÂD,#[Àv],Áo l,Ó (À7 XX S3 hl),ë,ë,(by show É 0<É xs.length+1;exact ÔM ÅK),lc,τ,XX ad,hu1,ÄS];have e3:upd (ß H1 pn (Õ [.non])) lc (Õ (xs++[.non])) sp=Ě some Ò pl.map V.int:=į v2 v1 e1';generalize upd (ß H1 pn (Õ [.non])) lc (Õ (xs++[.non]))=H3 at S3 hu2 e3 ⊢;have plA:∀{H'},Same H3 H'->PlAt H' (Ï sp) pl:=λ s=>#[È sp,Ģ e3]
 have put:∀{H4 H5:Hp} {t:XH} {tx:Str},Same H3 H4->Same H4 H5->ê H5 t->uf tx/\TxA tx->Đ t (ß H5 t (Ò [Î "put",uv,Æ sp,Î tx])):=fun{H4 H5 t tx} s4 s5 gt ok=>by have s6:=s4.trans (s5.trans (af gt (Ò [Î "put",uv,Æ sp,Î tx])));exact q Â (S3.trans s6) #[t,ÇM,rfl,#[[uv,Æ sp,Î tx],ad,uv,Æ sp,rfl,õ hu2.ts s6,plA s6],ok.1,ug,plk,ok.2]
 by_cases cw:wo<4
 .refine#[ÂD,ţ];rw[decide_eq_true cw];refine aP (aP ? _);exact#[Àj,ë,#[Àv],Å,λ tx H5 ok s5=>#[sz rfl,λ t gt=>put (Same.refl _) s5 gt ok]]
 refine#[ÂD,ţ];rw[decide_eq_false cw];refine aF #[Å,Ċ pe gpe];have vp:=af gpe ń;have hl4:=į vp S3 hl;exists[d1,d2],Lg hl4 (Ě hp.ts XV S3.trans vp);refine#[_,_,d1,P7 ad,d2,Qy,ţ];cases xs with
 |nil =>cases hp;ext Ħ aP;exact#[Àj,ë,#[Àv],Å,λ tx H5 ok s5=>#[sz rfl,λ t gt=>put vp s5 gt ok]]
 |cons x0 xr =>
 obtain⟨m0',mr,rfl⟩:∃m mr,ns=m::mr:=by
  cases hp with
  |cons _ _=>exact#[ù _]
 ext Ħ aF;show ě S4 S3.trans vp hu4 hu2.ts (XV vp);ext ŧ e4 vp e3;generalize ß H3 pe ń=H4 at S4 hl4 hu4 e4 ⊢;generalize hX:x0::xr=xs at *;have xl:À4 0:=Èq hX Nat.succ_pos _
 have hp4:=õ hp.ts S4;show Ýs a0 70 a1;show Ýs b0 4480 b1;exists[hv,hn,ha1,ha2,gh],MW hp4 hg a0 a1;exists[tv,tn,hb1,hb2,gt],MW hp4 hg b0 b1
 ext Éx;ext áh ha1;ext áh hb1;refine#[Å,Ã6 2,rfl,ÄS];generalize decide ((λ i j=>V.int (i%j)) n 2=V.int 0)=tb;have nmA:∀{H'},Same H4 H'->NameIs H' hv (nk hn)/\NameIs H' tv (nk tn)/\UpAt H' uv u/\PlAt H' (Ï sp) pl:=λ s=>#[ha2.same s,hb2.same s,õ hu4.ts s,È sp,Ģ e4]
 ext Éx;show ÈO #[Ü,Å,Ċ t1 g1] g1 A1 y1 z1 #[Ü,Å,Ċ t2 g2]
 ext g2 A2 y2 z2
 show ÈO #[Ü,Å,λ tx A3 ok y3=>#[Ċ t3 g3]] g3 A4 y4 z3 #[Ü,Ċ t4 g4]
 ext g4 A5 y5 z4
 show âP #[Ċ k1 gk1] gk1 (Õ [Æ t1,Æ t2,Æ t3,Æ t4]) z5 A5 k1 (Õ [Æ t1,Æ t2,Æ t3,Æ t4]) A6;ext ě x6 y5.trans y6 x5 y4.trans x6;ext ě x3 y3.trans x5 x2 y2.trans x3;have x1:=y1.trans x2;have G6:∀v∈[V.ref t1,Æ t2,Æ t3,Æ t4],GV g nr hs A6 v:=λ v hv'=>by
  exists[n1,n2,n3,n4],nmA x1;ext Ãu hv';rcases hv' with rfl|rfl|rfl|rfl
  show ÀI (ä5 t1 x2 z1) (ä5 t2 x3 z2)
  show ÀI #[t3,Ãj hn,rfl,#[_,x6 Â z3,È hv,n1],ok.1,gh,ok.2] #[t4,.mark hn tb,rfl,#[_,y6 Â z4,È hv,n1],trivial,gh]
 have T6:=S4.trans x1
 ext Éx;refine#[Àj,ë,#[Àv],ÂD,(by show É 0<hs;exact Ë8 Τ h1),Ċ ld gld]
 ext gld B1 y1 z1
 obtain⟨wh,hwh,whk⟩:∃wh:Option Int,atI [V.non,Í (n / 2%hs)] (n%2)=ϝ whV wh/\∀k,wh=Ã k->0<=k/\k<hs:=by
  show ÎM k0 n 2 k1;show Ś (show n%2=0\/n%2=1 by omega) z z
  .show Œ z #[none,at0,nofun]
  .rw[z];exact#[Ã (n / 2%hs),at1,λ k z=>Zt z▸#[Yb _ (Ãq (ØU ÏG h1)),Yd _ Ò8]]
 refine#[Å,Ã6 2,ld,τ,XX z1,hwh,Ċ t5 g5]
 ext g5 B2 y2 z2
 show ÈO #[Ü,Ċ t6 g6] g6 B3 y3 z3 #[Ü,Ã6 4,Å,Ċ t7 g7]
 ext g7 B4 y4 z4
 refine ÇC k2 gk2
 ext gk2 B5 y5 z6
 ext ě x4 y4.trans y5 x3 y3.trans x4;ext ě x2 y2.trans x3 xb y1.trans x2;show âP #[k1,k2,ë,xb Â z5,z6,Ċ k3 gk3] gk3 (Õ ([Æ t1,Æ t2,Æ t3,Æ t4]++[Æ t5,Æ t6,Æ t7])) z7 B5 k3 (Õ (Óu Æ)) B6;have G7:∀v∈(Óu V.ref),GV g nr hs B6 v:=λ v hv'=>by
  ext Þ1 G6 xb.trans x1.trans
  show ÀI #[t5,.due hn wh,ÑD x3 z2,whk] #[t6,.fold hn tb,ÑD x4 z3]
  .exact#[t7,.part hn (n%4) pl,rfl,#[_,į y6 y5 z4,hv,Æ sp,Ì n1,n4],Yb n (Õv 4),gh,plk]
 show ě xc x1.trans (xb.trans y6) T7 S4.trans xc;show ÈO #[Ü,Å,Ċ t8 g8] g8 C1 y1 z1 #[Å,Ċ t9 g9]
 ext g9 C2 y2 z2
 show ÈO #[Å,Ċ tA gA] gA C3 y3 z3 #[Ċ k4 gk4]
 ext gk4 C4 y4 z4
 ext ě x3 y3.trans y4 x2 y2.trans x3;show Å5 xd y1.trans x2 #[k3,k4,ë,xd Â z7,z4,Ċ k5 gk5]
 ext gk5 C5 y6 z8
 have G8:∀v∈(Óu V.ref)++[Æ t8,Æ t9,Æ tA],GV g nr hs C5 v:=λ v hv'=>by
  ext Þ1 G7 xd.trans xc.trans
  show ÀI #[t8,.join hn tn,rfl,#[_,į y6 x2 z1,hv,tv,Ì n1,n2],trivial,gh,gt] #[t9,.take hn,ÑD x3 z2]
  .exact#[tA,.back hn,ÑD y4 z3]
 exists[rv,hr1,hr2],Qd (i:=wo-4) G8 (ÅW č (.d Ç (.n 4)) (Ĩ (.n 4) Ç) [] (Int.not_lt.mp cw)) (by show wo-4<10;omega);exact#[Ü,ë,k5,τ,XX z8,hr1,q Â (T7.trans (xd.trans y6)) hr2]
structure Gen3 Ė(cl:Ä XQ)(L:Ä D3):Prop where
 cn:cl.length=n
 cc:∀g,g<n->ÅC clk cl g n
 nn:∀g,g<n->0<=ÄN g g
 len:∀d∈L,Ák d=n/\ý<n
 low:∀d∈L,Â7 ý<=am (clk cl ý) ý
 uni:L.Pairwise λ d e=>(toD d).1≠(toD e).1
 ok:∀d∈L,DOk ÂK
theorem Gen3.start Ė:Gen3 n Ï6 []:=#[x9 ..,λ g hg=>by rw[oV hg,x9],λ g hg=>by rw[oV hg,qa];exact Int.le_refl _,Â2 d hd hd,Â2 d hd hd,.nil,Â2 d hd hd]
set_option tactic.hygienic true in theorem Gen3.met à ßW:Gen3 n (cl.set h (Ãy h o)) L:=by
 ext àe
 have up:Ðm h h:=by rw[pf hh];split<;>omega
 refine#[Ă Yv g.cn,Ø q hq,Ø q hq,g.len,Ø d hd,g.uni,g.ok]
 .rw[dU hc];split
  .exact vM
  .exact g.cc q hq
 .show äD (ÿ Ê Ç (ÿ č Š)) up
  .ext ÀZ
 .rw[dU hc];have:=g.low d hd;split
  .rename_i e;rw[e]at this ⊢;exact ô Ç Ê (ÿ Ç Ô (ÿ Ô Š)) ÅI this up
  .ext ÀZ
set_option tactic.hygienic true in theorem Gen3.add à ßo:Gen3 n (cl.set h (ÁS cl h)) L/\∀wd,DOk wd->Gen3 n (cl.set h (ÁS cl h)) (L++[(h,ÁS cl h,wd)]):=by
 ext àA
 generalize hx:(ÁS cl h)=c';have cs:am c' h=ÄN h h+1:=by rw[<-hx,lJ hl,XC rfl]
 have lc:c'.length=n:=by rw[<-hx,Yv,g.cc h hh]
 have b1:∀q,q<n->ÅC clk (cl.set h c') q n:=λ q hq=>by
  rw[dU hc];split
  .exact lc
  .exact g.cc q hq
 have b2:∀q,q<n->0<=am (clk (cl.set h c') q) q:=λ q hq=>by
  show äD (ť ÿ 1 Ç (ÿ č Š)) (Int.le_of_eq cs.symm)
  .ext ÀZ
 have b3:∀d∈L,Â7 ý<=am (clk (cl.set h c') ý) ý:=λ d hd=>by
  rw[dU hc];have:=g.low d hd;split
  .rename_i e;rw[e]at this ⊢;exact ô Ç Ê (ÿ Ç Ô (ť ÿ 2 Š)) ÅI this (Int.le_of_eq cs.symm)
  .ext ÀZ
 refine#[#[Ă Yv g.cn,b1,b2,g.len,b3,g.uni,g.ok],λ wd ok=>#[Ă Yv g.cn,b1,b2,Ø d hd,Ø d hd,? _,Ø d hd]]
 .show ÒG hd g.len d #[lc,hh]
 .ext Éy hd b3 d
  .rw[Zg.mp hd];show am c' h<=am (clk (cl.set h c') h) h;rw[dU hc,XC rfl];exact Int.le_refl _
 .refine List.pairwise_append.mpr #[g.uni,List.pairwise_singleton Â,Ķ d hd e he z];rw[Zg.mp he]at z;have z1:((ý:Int))=É h:=ZZ Prod.fst z;have z2:Â7 ý=am c' h:=ZZ Prod.snd z;have e1:ý=h:=Ðo z1 z1.symm
  have:=g.low d hd;rw[e1]at this z2;exact Nat.not_succ_le_zero _ (Àd (ÿ Ç Ê (ÿ Ô Ç (ť Ĩ 1 Ô))) ÅI this (Int.le_of_eq z2.symm) (Int.le_of_eq cs.symm))
 .ext ÒG hd g.ok d ok
def bh(d:D3)(i:Nat):Int:=if i=ý then Â7 i-1 else Â7 i
def Clo Ė(L:Ä D3)(c:Nat->Int):Prop:=∀j,j<n->0<c j->∃e∈L,e.1=j/\am e.2.1 j=c j/\∀i,am e.2.1 i<=c i
def KnD(Â3 d D3):Prop:=Kn (λ m=>gC ý d.2.1 m.1 m.2=true) (Â7 ý) n ÂK
structure Fit(Â3 d D3):Prop where
 nn:∀i,0<=Â7 i
 own:1<=Â7 ý
 kn:KnD n d
structure GenX Ė(cl:Ä XQ)(L:Ä D3):Prop where
 nn:∀g,g<n->∀i,0<=ÄN g i
 clo:∀g,g<n->Õ1 am (clk cl g)
 cld:∀d∈L,Õ1 bh d
 fit:∀d∈L,Fit n d
theorem GenX.start Ė:GenX n Ï6 []:=#[λ g hg i=>by rw[oV hg,qa];exact Int.le_refl _,λ g hg j _ h=>by ext Âw h;rw[oV hg,qa]at h;omega,Ĵ,Ĵ]
theorem SY à(i:Nat)(ha:∀i,0<=am a i)(hb:∀i,0<=am b i):0<=am (mx a b n) i:=by
 by_cases c:i<n
 .rw[pf c];split
  ext Áj hb i ha i
 .rw[show am (mx a b n) i=0 by show ÙD (by rw[vM];exact Ëw)];exact Int.le_refl _
theorem rf{a:XQ}{i:Nat}(h:a.length<=i):am a i=0:=by ext ÙD h
theorem GenX.met à(x:GenX n cl L)ßW(ho:o<n):GenX n (cl.set h (Ãy h o)) L:=by
 ext àe
 refine#[Ú q hq i,Ø q hq,x.cld,x.fit]
 .rw[dU hc];split
  .exact SY i (x.nn h hh) (x.nn o ho)
  .exact x.nn q hq i
 .rw[dU hc];split
  .intro j hj h0;have go:∀p,p<n->(∀i,Ðm p i)->am (Ãy h o) j=ÄN p j->∃e∈L,e.1=j/\am e.2.1 j=am (Ãy h o) j/\∀i,am e.2.1 i<=am (Ãy h o) i:=λ p hp le e0=>by have h0:0<am (Ãy h o) j:=h0;exists[e,e1,e2,e3,e4],x.clo p hp j hj (by show 0<ÄN p j;exact ô Âc Ç (ÿ Âc Ê (ÿ Ê ÂE)) ÂA h0 (Int.le_of_eq e0));exact#[e,e1,e2,Ă e0 e3,λ i=>Int.le_trans (e4 i) (le i)]
   have l1:∀i,Ðm h i/\Ðm o i:=λ i=>by
    by_cases c:i<n
    .rw[pf c];split<;>omega
    .rw[rf (a:=clk cl h) (by rw[g.cc h hh];exact Ëw),rf (a:=clk cl o) (by rw[g.cc o ho];exact Ëw),rf (a:=Ãy h o) (by rw[vM];exact Ëw)];omega
   by_cases c:ÄN o j>ÄN h j
   .exact go o ho (λ i=>(l1 i).2) (by rw[pf hj,XC c])
   .exact go h hh (λ i=>(l1 i).1) (by rw[pf hj,XB c])
  .exact x.clo q hq
theorem Clo.more à(h:Clo n L c)(d:D3):Clo n (L++[d]) c:=λ j hj h0=>by exists ÂZ e,h j hj h0;exact#[e,Y2 _ e1,e2]
set_option tactic.hygienic true in theorem GenX.add à(x:GenX n cl L)ßo(wd:Wd)(kn:KnD n (h,ÁS cl h,wd)):GenX n (cl.set h (ÁS cl h)) (L++[(h,ÁS cl h,wd)]):=by
 ext àA
 have ce:∀i,am (ÁS cl h) i=if i=h then ÄN h h+1 else ÄN h i:=λ i=>lJ hl
 have la:(λ i=>bh (h,ÁS cl h,wd) i)=λ i=>ÄN h i:=funext λ i=>by
  unfold bh;show(if i=h then am (ÌJ _) i-1 else am (ÌJ _) i)=_;rw[ce i];ext å c i h
  .rw[XC c,XC c,c];exact Int.le_antisymm (ô (ϓ d Ć) ÂE [] Τ) (ô Ç (ϓ d Ć) .z [] Τ)
  .rw[XB c,XB c]
 have n0:=x.nn h hh;have nn':∀i,0<=am (ÁS cl h) i:=λ i=>by rw[ce i];have:=n0 h;have:=n0 i;split<;>omega
 refine#[Ú q hq i,Ø q hq,Ø d hd,Ø d hd]
 .rw[dU hc];split
  .exact nn' i
  .exact x.nn q hq i
 .rw[dU hc];split
  .intro j hj h0;ext å c j h
   .exact#[_,ZW _ Zk,È c.symm,λ i=>Int.le_refl _]
   .have h0:0<am (ÁS cl h) j:=h0;rw[ce j,XB c]at h0;exists[e,e1,e2,e3,e4],x.clo h hh j hj h0;refine#[e,Y2 _ e1,e2,? _,ģ i]
    .show _=am (ÌJ _) j;rw[ce j,XB c];exact e3
    .show _<=am (ÌJ _) i;rw[ce i];have h1:am e.2.1 i<=ÄN h i:=e4 i;split
     .rename_i z;rw[z]at h1 ⊢;exact ô Ç (Ų a 1) Ìu ÂA h1
     .exact h1
  .exact(x.clo q hq).more _
 .ext Á8 hd hd
  .exact(x.cld d hd).more _
  .rw[Zg.mp hd,la];exact(x.clo h hh).more _
 .ext Éy hd x.fit d
  .rw[Zg.mp hd];refine#[nn',? _,kn];show 1<=am (ÌJ _) h;rw[ce h,XC rfl];have:=n0 h;exact Öq this
def kyZ(d:D3):XQ:=[Âe d,(ý:Int)]
def kLt(d e:D3):Prop:=Âe d<Âe e\/(Âe d=Âe e/\ý<e.1)
structure Hist Ė(L:Ä D3):Prop where
 len:∀d∈L,Ák d=n/\ý<n
 fit:∀d∈L,Fit n d
 ok:∀d∈L,DOk ÂK
 uni:L.Pairwise λ d e=>nm3 d≠nm3 e
 clo:∀d∈L,Õ1 bh d
theorem SV(d e:D3):Ď HT.lexLt (kyZ d) (kyZ e)↔kLt d e:=by
 unfold kyZ kLt;rw[HT.lexLt_cons];by_cases c:Âe d=Âe e
 .rw[XC c,EK];ext Ãm
  .intro h;have:=Z5 h;show ſ #[c,ÓL (.h 1 true (Ã3 η) (.c Ê) .z) ď this]
  .rintro(h|⟨_,h⟩)
   .omega
   .exact decide_eq_true (Àz Äo h)
 .rw[XB c];ext Ãm
  .intro h;exact Α (Z5 h)
  .rintro(h|⟨h,_⟩)
   .exact decide_eq_true h
   .ext ĕ h c
theorem oQ ÀR{f:α->D3}(δ L α z α){p:XR}(hp:POk L.length p)(hs:LS (λ i j=>HT.lexLt (Óv i []) (Óv j [])) p L.length) :
  ((ÈN L.getD z).map f).Pairwise (λ d e=>¬kLt e d)/\(ÈN L.getD z).Perm L:=by
 ext Óg L.length
 .rw[ZX,Yl];ext åT L.length;have lx:=hs i j hij (ÀL Âh hj hz);ext Ñ7 e1 i hi
  ext Ñ7 e2 j hj
  have nd:(p.toList).Nodup:=ep.nodup_iff.mpr List.nodup_range;have ne:Çv i hi≠Çv j hj:=by rw[List.nodup_iff_pairwise_ne,ZR]at nd;exact nd i j Â hij
  ext án L.length;ext ä4;have ga:∀k,k<L.length->Óv k []=kyZ (f (L.getD k z)):=λ k hk=>Ĉ hk
  have lx':Ņ HT.lexLt (kyZ (f (L.getD b z))) (kyZ (f (L.getD a z))):=by have:=lx.1;ext Âw this;rw[ga a m1,ga b m2]at this;ext ÀZ
  show¬kLt (f (L.getD b z)) (f (L.getD a z));intro h;rw[(SV Â).mpr h]at lx';cases lx'
 .have:=ep.map λ i=>L.getD i z;ext Â1 jg
set_option tactic.hygienic true in theorem KS{h:Nat}{c:XQ}{m:Nm}(hl:h<c.length)(g:ÖJ c.length c):gC (É h) (c.set h (am c h+1)) m.1 m.2=true:=by
 exists[g1,g2,g3,g4],g;unfold gC nmL;simp only[ZH,Xh,Bool.not_eq_true',decide_eq_false_iff_not,Yv,ZP,lJ hl,if_true];refine#[#[g1,g2,g3],? _,ģ z]
 .split
  .rename_i e;rw[e]at g4;exact ô Ç (Ų a 1) Ìu ÂA g4
  .exact g4
 .ext Ék z z1 z2 z2;rw[z1,ZP]at g4;exact Nat.not_succ_le_zero _ (Àd (ť ÿ 1 Ç Ìu) ÂA (Int.le_of_eq z2.symm) g4)
abbrev NT:=Ŋ XH Nm
def iG(M:NT):X1:=ũ M.map Prod.fst V.ref
theorem nQ(M:NT):Ň iG M=M.length:=by ext ÀY iG Za Za
def NR Ë(Â3 l XH)(M:NT):Prop:=Į H l (Õ (iG M))/\∀x∈M,H ö=Ã (Ò [Í Ð.1,Í Ð.2])/\0<=Ð.1/\Ð.1<n/\1<=Ð.2
theorem NR.same à(x:NR H n l M)(s:ó):NR H' n l M:=#[Ģ ö,λ y hy=>#[Ģ (Ð y hy).1,(Ð y hy).2]]
inductive DInv Ė Ë(l:XH)(h:Int)(cA p pn:XH)(Ŏ k Z St)(H':Hp):Prop
 |mk (S:ó) (o5 o6 o7 o8 o9 o10 o11:Option V) (e:Z=[Ö l,ą int h,Ö cA,Ö p,Ö pn,o5,o6,o7,o8,o9,o10,o11]) (as:Ä XH) (cl:Ä XQ) (L:Ŋ XH D3) (M:NT) ÜT ãe (lL:L.length=k) (lM:M.length<=k) äp:DInv n H l h cA p pn k Z H'
inductive DJn Ė Ë(cA p pn:XH)(L:Ŋ XH D3)(M:NT)(σ0 Z:St)(H':Hp):Prop
 |mk (S:ó) (e:Z=σ0) (as:Ä XH) (cl:Ä XQ) ÜT ãe äp:DJn n H cA p pn L M σ0 Z H'
def Fd:Sp:=λ vs H Q _=>∃(l:XH) (cs:XQ) (h:Int),vs=ÈY l h/\Į H l (Õ (cs.map V.int))/\cs.length<=62/\1<=h/\h<=8/\∀p H' L,ó->á p->LR3 H' p L->L.length<=cs.length->Hist h.toNat (L.map Prod.snd)->(ÎF L.map Prod.snd)->Đ p H'
abbrev yk:Stmt:=top 93
abbrev Nn:Ä Str:=["_law_cells","_law_hands","_law_clocks","_law_deeds_here","_law_names","_law_k","_law_cell","_law_mixed","_law_hand","_law_other","_law_pool","_law_what_here"]
theorem dY:Ŵ Nn "_law_cells" "_law_hands" yk:= ñ
theorem Lo(F:é "_law_deeds" "_law_deeds" yk)(WI:Ŀ 2 "_law_what" ["_law_n","_law_pool","_law_number","_law_hands"] JU)àl(i7:Ē "enumerate")(j4:Ē "range")(VZ:Ē "max")(d8:Ē "tuple")(c8:Ē "sorted"):ă 4 ["_law_cells","_law_hands"] Fd:=by
 show ĩ dY [l,cs,h,rfl,hl,hlen,h1,h8,q];exists _,(b_c (Ĕ 2 dY.nd (Ô8 ["_law_k"] (ÅP [1] ["_law_hands"]) Øy (ÆF "_law_k" "_law_hands") (ÄM _ (aI MX (bX (ð aj)) ä))))
   (Âu 3 dY.nd bX ai
   (Âu 4 dY.nd bX ai
   (b_c (cW ZU rfl (IA i7 (Ğ 0)) (Én 5 dY.nd 6) (b_c (Ĕ 7 dY.nd (aI cV (aI eW (aI nJ ↑6 aj) (aI nJ (aI nJ ↑5 ↑5) aj)) aj))
   (b_c (Ĕ 8 dY.nd (aI cV ↑7 ä))
   (b_c (Ĕ 9 dY.nd (aI cV (aI eX ↑7 ä) (aI nJ aj ä)))
   (b_c (CN (aM (aE xP ↑9 ä) (b_1 (GR (bT (own:=["_law_j"]) (#[rfl,Àv,rfl,#[î,#[î,#[î,trivial]]]]:CompOk Â [2,8,9] ["_law_clocks","_law_hand","_law_other"]) rfl Øy (ÃV (Àn ["_law_j","_law_clocks","_law_hand","_law_other"])) Àe (Ĭ fj) (ÄM _ (q_B (ME rfl) VZ Br (q_a (ar (Λ iY rfl) (ar (Λ iY rfl) ä ↑2) ü) (ð (ar (È4 iY) (ar (È4 iY) ä ↑3) ü)))))) (F9 Ū ↑8 G4))) b_0))
   (b_c (Èe 10 dY.nd "_law_name" (ËW 2 8 "_law_clocks" "_law_hand") rfl (bc ↑4) (ÃV (Àn ["_law_name","_law_clocks","_law_hand"])) Àe (Ĭ (nX (aE uE (ÍH ü) (ar (È4 iY) (ar (È4 iY) ä Ū) (ÍH ü))))) (Ĭ ü))
   (b_c (GR (aI eW (ar cJ (Ê6 8) ↑8) aj) (F9 (Ê6 8) ↑8 G4))
   (b_c (Ĕ 11 dY.nd (ī WI (q_a (aI eX ↑7 (aI nJ (aI nJ aj ä) ä)) (ŏ 10 (ņ (ar cJ (Ê6 8) ↑8) (Ğ 1))))))
   (b_c (bK (iF ↑3 (aJ (ŏ 8 (ņ (oq Sv d8 gO (ð (Ê6 8))) (Ğ 11))))))
   (b_1 (aM (t_w (jN (Ñk aE ħ 11) (jV (aE bW (aI cV ↑5 aj) aj)))) (b_1 (bK (iF ↑4 (aJ (ÀO 8 (ð (ar cJ (Ê6 8) ↑8))))))) b_0)))))))))))
   (b_1 (au (CA rfl c8 UR ↑99 (Ğ 3))))))))
 obtain⟨n,hn⟩:∃n:Nat,n=h.toNat:=Âv
 have hn':É n=h:=(by exact Int.le_antisymm (Áb ô Ç (ĝ Ç Ê (ÿ (.c Ê) ÂE)) ď Τ (Nat.le_of_eq hn) (Ðp Ç đ h1)) (ô ÉY (ĝ Ê Ç (ÿ Ç ÐH)) ď Τ (Nat.le_of_eq hn.symm) (Int.self_le_toNat _)))
 rw[<-hn]at q;have n1:1<=n:=(by exact ËT Ç (ÿ ÉY (Ĩ đ Ç)) Æ3 (Int.le_of_eq hn'.symm) h1)
 have n8:n<=8:=(by exact ÇW (.n 8) (Áb ÿ Ç (Ĩ Ç (.n 8))) Æ3 (Int.le_of_eq hn') h8)
 refine#[Ü,ÆG,? _];refine Bz (N:=n) (λ i ys H'=>ó/\∃as:(Ä XH),ys=as.map V.ref/\as.length=i/\as.Nodup/\∀b∈as,á b/\H' b=Ã (Õ ((ÁD n (0:Int) map) V.int))) ∅ (λ i ys H' ⟨_,as,e,la,_⟩=>ÅJ e Za la) #[Same.refl H,[],î,.nil,Â2 b hb hb] (Ķ i ys H' hi _) (Ú ys H' _) (λ i ys H1 x H2 hi ⟨sm,as,e,la,nd,ha⟩ y A kA=>? _) (Ķ ys cA H1 ⟨sm,as,e,la,nd,ha⟩ gA)
 .show i<h.toNat;ext Âh hi hn
 .show h.toNat<=n;show Ê0 (Nat.le_of_eq hn.symm)
 .ext ĭ rfl y;refine#[sz rfl,λ pz gz=>#[Å,pz,h,Å,Ì ad,ÆG,? _,λ pr gr=>kA ÁZ]]
  .exact cX (Ż y9)
  .have w1:=af gz (Õ [V.int 0]);have w2:=w1.trans (af gr (.lst (ÁD h.toNat [V.int 0] flatten)));have fr:á pr:=(sm.trans w1).free gr;refine#[sm.trans w2,as++[pr],Â4 e Zy,Â4 Zm la,? _,ÂH]
   .refine List.nodup_append.mpr #[nd,Ĵ,Č b hb c hc];rw[Zg.mp hc];intro z;have:=w1 Â (ha b hb).2;ext Ţ z gr this
   .ext Á8 hb hb
    .exact#[(ha b hb).1,w2 Â (ha b hb).2]
    .rw[Zg.mp hb];refine ÁI fr;rw[ad,<-hn,uK]
 .ext Ļ;have w1:=af gA (Õ (as.map V.ref));have fA:á cA:=sm.free gA;have ck:CK (ß H1 cA (Õ (as.map V.ref))) cA n as Ï6:=#[ad,la,nd,λ g hg=>by rw[oV (ÀL Âh hg la)];exact w1 Â (ha _ (ZD hg)).2]
  have S1:=sm.trans w1;have fas:∀b∈as,á b:=ÈF ha;generalize ß H1 cA (Õ (as.map V.ref))=H2 at ck S1 ⊢;show ÃB #[Ċ p gp] w2 gp ń;have fp:á p:=S1.free gp;have ncp:cA≠p:=λ z=>by have:=ck.1;ext Ţ z gp this
  show ÃB #[Ċ pn gpn] w3 gpn ń;have fpn:á pn:=(S1.trans w2).free gpn;have ncn:cA≠pn:=λ z=>by have:=w2 Â ck.1;ext Ţ z gpn this
  have npn:p≠pn:=λ z=>by have:ß H2 p ń p=Ã ń:=ad;rw[z]at this gpn;ext ÁN gpn
  refine#[Áo l,w3 Â (į w2 S1 hl),? _];refine ŕ BH i 5 j 6 (DInv n H l h cA p pn)
   #[S1.trans (w2.trans w3),none,none,none,none,Ðd none,as,_,[],[],ck.same (w2.trans w3),#[w3 Â ad,Â2 x hx hx],#[ad,Â2 x hx hx],Gen3.start n,GenX.start n,rfl,Zf _,fas] (λ i Z H' _ z=>by exists[sm,_],z;exact XX (ÂC hl)) (Ã0 k x Z H3 hx z T hT) (Ú Z H3 z)
  .exists àd,z;exists[rfl,hk],qm hx;have sT:=af hT (Ò Ûw);ext ÄX;show Ã5 #[ÂD,ā #[Àv],Ü,ë,Ó #[ÆG],ë,ā #[Àv],ë,ë,(by show É 0<2147483647;decide),hR1 Â ? _] z0 Yb (am cs k*48271+É k*É k*69621) (Õv 2147483647)
   try ext ň
   generalize(am cs k*48271+É k*É k*69621)%2147483647=mz at z0 ⊢;ext ÄX;refine#[Ü,ë,(by show É 0<h;exact Ë8 Τ h1),ÄS];have d0:=Yb mz (show h≠0 by show Òg (ØU ÏG h1));have d1:=Yd mz (show É 0<h by exact Ë8 Τ h1)
   try ext ň
   generalize mz%h=hd at d0 d1 ⊢;obtain⟨hN,rfl⟩:∃hN:Nat,hd=É hN:=#[hd.toNat,Ôs d0]
   have hNn:hN<n:=Àz Úv d1
   ext ÄX;refine#[Ü,ë,#[Ò8,∅],ÂD,Ó #[Àv],ë,(by show É 0<2*h;exact ô Âc (.m 2 Ç) (Ía .z) [] Τ h1),ÄS];have b0:=Yb (mz / h) (show 2*h≠0 by show Òg (Û0 (.h Áw (.m 2 Ç) č (Ía .z)) ÏG h1))
   try ext ň
   generalize mz / h%(2*h)=ot at b0 ⊢;ext ě S4 S3.trans sT ck4 ck.same sT;ext ě lr4 lr.same sT nr4 nr.same sT;generalize ß H3 T (Ò Ûw)=H4 at S4 ck4 lr4 nr4 ⊢;refine#[DJn n H cA p pn L M [Ö l,ą int h,Ö cA,Ö p,Ö pn,Ã (Áu k),Ã (Í (am cs k)),ą int mz,Ã (Áu hN),ą int ot,o10,o11],Χ]
   .refine#[Ü,ë,Å,Ám nY hc hc]
    .obtain⟨oN,rfl⟩:∃oN:Nat,ot=É oN:=#[ot.toNat,Ôs b0]
     have oNn:oN<n:=Àz Úv hc
     have ha:hN<as.length:=by rw[ck4.2.1];exact hNn
     have oa:oN<as.length:=by rw[ck4.2.1];exact oNn
     refine#[Ü,ÆG,ŕ vq N h.toNat lo 0 (λ j=>Í (if Æi oN>Æi hN then Æi oN else Æi hN)) ∅ (ŗ j H6 hj s6 R kR) (Č p1 H6 s6 g6)]
     .have ck6:=ck4.same s6;have l1:((0+É j):Int)<((clk cl hN).length:Int):=by rw[gen.cc hN hNn];exact ô (.p (.p č η) đ) (.c Ê) (ĝ Ć Ô (ØX)) æ θ hj (Nat.le_of_eq hn.symm)
      have l2:((0+É j):Int)<((clk cl oN).length:Int):=by rw[gen.cc oN oNn];exact ô (.p (.p č η) đ) (.c Ê) (ĝ Ć Ô (ØX)) æ θ hj (Nat.le_of_eq hn.symm)
      exact#[Ñh ha as hN,ÀW,XX (ck6.2.2.2 hN ha),eZ (by exact ô č (.p č η) Ζ) l1,Ñh oa as oN,ÀW,XX (ck6.2.2.2 oN oa),eZ (by exact ô č (.p č η) Ζ) l2,ù _,kR H6 (Same.refl H6)]
     .have em:((Ŷ h.toNat map) fun(j:Nat)=>V.int (if Æi oN>Æi hN then Æi oN else Æi hN))=(Ãy hN oN).map V.int:=by unfold mx;rw[ZX,<-hn];apply YT;intro j _;show V.int _=V.int _;rw[show ÕB 0 j=j by exact Nat.le_antisymm (ŝ (ÕO (.p č (.c Ê)) .z) ď (Int.le_of_eq (Int.toNat_of_nonneg (ô č (.p č η) Ζ)))) (ŝ (.h 1 true (.p č η) ÐH) ď (Int.self_le_toNat _))]
      rw[em];have gm:=gen.met (o:=oN) hNn;have gmx:=gex.met (o:=oN) gen hNn oNn;have lm:ÅC Ãy hN oN n:=vM;generalize (Ãy hN oN)=cm at gm gmx lm ⊢;show ě w6 s6.trans (af g6 (Õ (cm.map V.int))) ck7 ck4.same w6;ext ě lr7 lr4.same w6 nr7 nr4.same w6;have S7:=S4.trans w6;have e7:ß H6 p1 (Õ (cm.map V.int)) p1=Ě some Õ cm.map V.int:=ad;have fp1:á p1:=(S4.trans s6).free g6;have np1:p1∉as:=λ hm=>by ext Ïv hm;show ÐV s6 (ck4.2.2.2 i hi) g6
      generalize ß H6 p1 (Õ (cm.map V.int))=H7 at ck7 lr7 nr7 S7 e7 ⊢;have las:as.length=n:=ck4.2.1;have tA:TS H7 (ß H7 cA (Õ ((as.map V.ref).set hN (Ï p1)))):=ÖP ck7
      refine#[Ü,cA,_,_,hN,î,ck7.1,? _,cD S7 fA,rfl,as.set hN p1,cl.set hN cm,#[Χ,Qx ck7.2.2.1 np1,Ø g hg],#[Åk ? _],#[Åk ? _],gm,gmx,ÂH]
      .unfold ixN;rw[Za,ĥ XC,XC (Àz Äo ha)];rfl
      .rw[ad,List.map_set]
      .ext Œ Yv las
      .rw[Yv]at hg;rw[List.getElem_set,ÁG dU gen.cn hNn];ext å c hN g
       .rw[XC c,XC c.symm,ah (lU e7 ck7.1 (λ z=>gw (ÅT â (Ñy) Ç (Ñ Ê Ç Íl) æ (Nat.le_of_eq lm.symm) hNn) z.symm))];exact e7
       .rw[XB c,XB (ÈD c),ah (lU (É7 ck7) ck7.1 (λ z=>gw (by rw[gen.cc g (ÀL Âh hg las)];exact Åq Íc 0 oNn) z.symm))];exact É7 ck7
      .rw[ah ncp.symm];exact lr7.1
      .exact ÈQ lr7 tA
      .rw[ah ncn.symm];exact nr7.1
      .exact ÐF tA nr7
      .rcases List.mem_or_eq_of_mem_set hb with hb|rfl
       .exact fas b hb
       .exact fp1
    .exact#[È S4,as,cl,ck4,lr4,nr4,gen,gex,fas]
   .rintro σ' H5 ⟨S5,rfl,as5,cl5,ck5,lr5,nr5,gen5,gex5,fas5⟩;have ha:hN<as5.length:=by rw[ck5.2.1];exact hNn
    ext ň;ext ÄX;refine È8 pn #[_,XX nr5.1];refine bL (xs:=iG M) (λ i ys H'=>Same H5 H'/\ys.length<=i/\∃ms,NmsAt H' ys ms/\∀m∈ms,ÖJ n (clk cl5 hN)) (Ż nQ) (λ _ _ _ z=>z.2.1) #[Same.refl _,Zf _,[],.nil,nofun] (ÔZ ys (Âf nr5.1)) Ĳ
    .rintro i ys H' v hv ⟨sm,ly,ms,pm,pg⟩ Y hY;obtain⟨nm,hnm,rfl⟩:∃x∈M,v=.ref ö:=by ext Ĝ iG hv;rw[ZX]at hv;exists[y,hy,e],Zw.mp (ZG hv);exact#[y,hy,e.symm]
     exists[x1,x2,x3,x4],nr5.2 nm hnm;ext ŧ x1' sm x1;have ck6:=ck5.same sm;have lc:=gen5.cc hN hNn;refine#[Å,nm.1,_,ÀW,XW x1',Ł at1 _,Ì cA,_,ÀW,XX ck6.1,kU ha,Å,nm.1,_,ÀW,XW x1',at0,as5[hN],_,ÀW,XX (ck6.2.2.2 hN ha),eZ x2 (Ż lc),ë,Å,Ám nY hc hc]
     .refine#[Å,ÀM #[sm,Ŕ Zm y7 ly,ms++[nm.2],YR pm #[nm.1,Ì x1'],ÇN hm]];show ÒG hm pg m #[x2,x3,x4,hc]
     .exact ÀM #[sm,ÄV ly,ms,pm,pg]
    rintro pys pp H6 ⟨sm6,ly6,ms,pm,pg⟩ gpp;rw[nQ]at ly6;show Äd wpp gpp (Õ pys) epp H6 pp;show ě pm6 pm.ts (XV wpp) Sx sm6.trans wpp;ext ě S6 S5.trans Sx ck6 ck5.same Sx;ext ě lr6 lr5.same Sx nr6 nr5.same Sx;have fpp:á pp:=(S5.trans sm6).free gpp;have npp:pp∉as5:=λ hm=>by ext Ïv hm;show ÐV sm6 (ck5.2.2.2 i hi) gpp
    refine ÄS;generalize (ψ H6 pp pys)=H7 at epp pm6 S6 ck6 lr6 nr6 ⊢;have cN:=ck6.2.2.2 hN ha;ext ÄT lc gen5.cc hN hNn nn gen5.nn hN hNn;have fa:=fas5 _ (ZD ha);ext ÄX;refine#[Ñh ha as5 hN,ÀW,XX cN,ÁG gF lc hNn,ë,Ñh ha as5 hN,_,È hN,Ì cN,? _,ÄS]
    .unfold ixN;rw[Za,lc,ĥ XC,XC (Àz Äo hNn)];rfl
    have ec:((clk cl5 hN).map V.int).set hN (Í (am (clk cl5 hN) hN+1))=(ÁS cl5 hN).map V.int:=by rw[List.map_set]
    rw[ec];have npa:p≠as5[hN]:=lU lr6.1 cN (â3 lc hNn);have nna:pn≠as5[hN]:=lU nr6.1 cN (by unfold iG;exact gw (ØW lc hNn));have nca:cA≠as5[hN]:=lU ck6.1 cN (gw (ØW lc hNn));have nppa:pp≠as5[hN]:=λ z=>npp (z▸ZD ha);have S7:=cD (o:=Òq) S6 fa;have t7:TS H7 (ß Èr):=iC λ zs e'=>Ϝ cN e'
    have lr7:LR3 (ß Èr) p L:=#[Èb npa lr6,ÂG ÈQ lr6 t7]
    have nr7:NR (ß Èr) n pn M:=#[Èb nna nr6,ÂG ÐF t7 nr6]
    have epp7:ß Èr pp=Ã (Õ pys):=Ī nppa epp
    have pm7:=pm6.ts t7;have ck7:CK (ß Èr) cA n as5 (cl5.set hN (ÁS cl5 hN)):=by
     refine#[Èb nca ck6,ck6.2.1,ck6.2.2.1,Ø g hg];rw[ÁG dU gen5.cn hNn];ext å c g hN
     .subst c;rw[XC rfl,ad]
     .rw[XB c,ah]
      .exact É7 ck6
      .have nd:=ck6.2.2.1;rw[List.nodup_iff_pairwise_ne,ZR]at nd;ext Ât YO g hN c1
       .exact nd g hN hg ha c1
       .exact(nd hN g ha hg ∅).symm
    exists[_,ga],gen5.add hNn;have gax:=λ wd=>gex5.add gen5 hNn wd;have gd:∀m:Nm,(ÖJ n (clk cl5 hN))->gC (É hN) (ÁS cl5 hN) m.1 m.2=true:=λ m hm=>KS (Ă lc hNn) (Ă lc hm);have lc':ÅC ÁS cl5 hN n:=ÀK Yv lc
    have cv':am (ÁS cl5 hN) hN=am (clk cl5 hN) hN+1:=by rw[ÁG lJ lc hNn,XC rfl]
    have c7:ß Èr as5[hN]=Ã (Òq):=ad;generalize ß Èr=H8 at S7 lr7 nr7 ck7 c7 epp7 pm7 ⊢;generalize(ÁS cl5 hN)=nc at ck7 ga gax gd lc' c7 cv';generalize cl5.set hN nc=cl6 at ck7 ga gax;ext ÄX;refine#[Ü,ë,Ó #[Àv],ÂD,Ó #[ÆG],ë,#[Χ],Ü,ÀH cA,XX ck7.1,kU ha,Å,as5[hN],_,ÀW,XX c7,ÁG gF lc' hNn,ţ]
    .show É 0<2*h*h;exact Int.mul_pos (ÅW Âc (.m 2 Ç) (Ía .z) [] h1) Ò8
    .show 2*h*h<1073741824;have:2*h*h<=16*8:=Int.mul_le_mul (ÅW (.m 2 Ç) (.n 16) (.h 2 true Ç (.n 8) .z) [] h8) h8 (by exact ô č Ç (Ĩ đ Ç) [] Τ h1) ∅;omega
    refine#[_,_,_,pp,pys,ms,Å,epp7,pm7,pg,(by exact ϙ 100 (Ñ Ç Ê (Ñ ÈC (Ñ Ê Ô (ÆK n 62 .z)))) Ŭ ly6 hk lM hlen),by rw[cv'];exact Öq nn,∅,Int.ediv_nonneg z0 (Int.le_of_lt (Int.mul_pos (ÅW Âc (.m 2 Ç) (Ía .z) [] h1) Ò8)),λ wv H9 s9 gv=>ÄS];ext ě S9 S7.trans s9 lr9 lr7.same s9;ext ě nr9 nr7.same s9 ck9 ck7.same s9;ext ŧ c9 s9 c7;exists[wa,wd,rfl,hwh,wok,wkn],gv;have wk:KnD n (hN,nc,wd):=by have:=wkn.imp gd;rw[<-hn']at this;ext ÀZ
    ext ÄX;refine#[Å,Ó #[Ì _,XX lr9.1],Ü,ÀH cA,XX ck9.1,kU ha,as5[hN],Å,Ó #[XX c9,Ø q5 f5]];show ÂI w5 af f5 (Ò (nc.map V.int)) #[Å,Ċ q6 f6];have w6:=w5.trans (af f6 (Ò ÖH));ext ě lrA lr9.same w6 nrA nr9.same w6;have ckA:=ck9.same w6;ext ŧ cA9 w6 c9;show ě SA S9.trans w6 hwA hwh.ts (XV w6);have dd:DA (æA) q6 (hN,nc,wd):=#[q5,wa,ad,af f6 (Ò ÖH) Â ad,hwA,by show hN<nc.length;exact Ö5 lc'.symm hNn,by show nc.length<=8;exact Úd 8 8 lc' n8]
    generalize æA=HA at lrA nrA ckA SA dd hwA cA9 ⊢;refine#[p,ÀW,lrA.1,bo (Ż aH),ÄS];have tA:TS HA (ß HA ÊJ):=ÖP lrA
    have SB:=cD (o:=Õ (ax L++ġ q6)) SA fp;have npas:∀(g:Nat) (hg:g<as5.length),as5[g]≠p:=λ g hg z=>by
     ext ßp ckA;exact lU lrA.1 (É7 ckA) (â3 lg hgn) z.symm
    have ckB:CK (ß HA ÊJ) cA n as5 cl6:=#[Èb ncp ckA,ckA.2.1,ckA.2.2.1,λ g hg=>by rw[ah (npas g hg)];exact É7 ckA]
    have lrB:LR3 (ß HA ÊJ) p (ÈV):=by
     refine#[Åk ? _]
     .rw[ad];ext ğ ax Zy;rfl
     .ext Á8 hx hx
      .exact ÈQ lrA tA
      .ext χ Zg.mp hx dd.ts tA
    have nrB:NR (ß HA ÊJ) n pn M:=#[Èb npn.symm nrA,ÂG ÐF tA nrA]
    have hwB:=hwA.ts tA;have cB:=(Ī (npas hN ha) cA9:ß HA ÊJ as5[hN]=Ě some Õ nc.map V.int)
    have gB:Gen3 n cl6 ((ÈV).map Prod.snd):=Ä7 Zy ga wd wok
    have gBx:GenX n cl6 ((ÈV).map Prod.snd):=Ä7 Zy gax wd wk
    generalize ß HA ÊJ=HB at SB ckB lrB nrB hwB cB ⊢;have fin:∀{H':Hp},Same HB H'->ó/\CK H' cA n as5 cl6/\LR3 H' p (ÈV)/\NR H' n pn M:=λ s=>#[SB.trans s,ckB.same s,lrB.same s,nrB.same s]
    have lLn:(ÈV).length=k+1:=Â4 Zm lL
    exists[rw',hrw,hrs],id hwB;have nrX:∀{H':Hp} {q7:XH},CK H' cA n as5 cl6->LR3 H' p (ÈV)->NR H' n pn M->H' q7=Ã (Ò Ëd)->CK (Áq pn (Ð8)) cA n as5 cl6/\LR3 (Áq pn (Ð8)) p (ÈV)/\NR (Áq pn (Ð8)) n pn (M++[(q7,É hN,am nc hN)]):=fun{H' q7} f2 f3 f4 e7=>by
     have tN:TS H' (Áq pn (Ð8)):=ÖP f4
     refine#[#[Èb ncn f2,f2.2.1,f2.2.2.1,Ø g hg],#[Èb npn f3,ÂG ÈQ f3 tN],Åk ? _]
     .ext ßp f2;rw[ah λ z=>lU f4.1 (É7 f2) (by unfold iG;exact gw (ØW lg hgn)) z.symm];exact É7 f2
     .rw[ad];ext ÀY iG Zy Zy;rfl
     .ext Á8 hx hx
      .exact ÐF tN f4
      .rw[Zg.mp hx];exact#[tN Â e7,by show É 0<=É hN;omega,by show É hN<É n;exact Äo hNn,by show 1<=am nc hN;rw[cv'];exact Öq nn]
    refine#[ÀH wa,XW hrw,at0,Ċ u gu]
    ext gu Hu wu eu
    refine#[ù u,ÃZ eu,î,ţ];generalize(Ãt (V.str wd.word) [Î "put",Î "part"])=b1;cases b1 with
    |true =>refine aP (aP ? _);ext á3
    |false =>
     refine aF #[Å,Ã6 7,ľ,Ám Gf e3 e3]
     .ext á3
     .exists Ëx,fin wu;exact#[f1,_,_,_,_,_,_,_,Ì as5,cl6,_,M,f2,f3,f4,gB,gBx,lLn,ÄV lM,fas5]
  .exists àd,z;refine#[γ,ax L,L.map (λ x=>ZKey.t [Âe Ð,(Ð.1:Int)]),rfl,Ó lr.1,by rw[aH];rw[Za]at lL;exact ĵ (.n 64) (Ó6 62) ď (Nat.le_of_eq lL) hlen,ÏI aH inr s' hR,Ã0 pm H2' D pok ls s2 _ gD]
   .show ż x _ hk;exact#[Å,Ĵ]
   .ext Õn;exact Ø4 lr (XV s') a e hR #[È a,e]
   .ext ÝY;have wD:=af gD (Õ (ax (pm.toList.map λ i=>L.getD i (0,0,[],.none))));ext ě sx s2.trans wD pe' pe.map Prod.snd;refine q D Â (S3.trans sx) ((S3.trans s2).free gD) #[ad,Þc lr (XV sx)] (by rw[pe.length_eq,lL,Za];exact Zf _) #[ßN gen.len pe'.mem_iff.mp gex.fit,λ d hd=>gen.ok d (pe'.mem_iff.mp hd),(gen.uni.imp λ h=>h).perm pe'.symm fun{x y} z=>z.symm,Ķ d hd j hj h0] so;exists ÂZ e,gex.cld d (pe'.mem_iff.mp hd) j hj h0;exact#[e,pe'.mem_iff.mpr e1,e2]
abbrev D0:D3:=(0,[],.none)
theorem DA.same(x:Êt)(e:ó):DA H' a d:=õ x.ts e
def leC(a b:XQ):Prop:=∀i,i<a.length->am a i<=am b i
def lF(ns ms:XQ):Bool:=((Ŷ ns.length map) (ÀF i (am ns i<=am ms i))).all id
theorem Kc(h:leC a b):Ď lF a b:=by ext ğ lF Z9;intro x hx;ext ż i hi hx;exact decide_eq_true (h i (Yh.mp hi))
theorem xa:Ď lF a b↔leC a b:=by refine#[Ú h i hi,Kc];ext Ĝ lF h;rw[Z9]at h;exact Z5 (h _ (Zw.mpr #[i,Yh.mpr hi,rfl]))
def nmK(d:D3):Ä Key:=[Ó (ý:Int),Ó (Â7 ý)]
def asks(d:D3):Ä Nat:=(List.range (Ák d)).filter ÊD
structure UN Ė(L:Ä D3):Prop where
 len:∀d∈L,Ák d=n/\ý<n
 own:∀d∈L,0<Â7 ý
 uni:L.Pairwise Ïa
theorem UN.perm à(g:UN n L)(p:L.Perm M):UN n M:=#[ßN g.len p.mem_iff.mpr g.own,g.uni.perm p fun{x y} h e=>h e.symm]
def nV Ì2(i:Nat):Bool:=match Ñm e e ÐT with
 |Ã e=>lF e.2.1 d.2.1
 |none=>false
def uh Ì2:Bool:=(asks d).all λ i=>nV R d i
def ba(M:Ŋ XH D3):X0:=M.map λ x=>(nmK Ð,V.ref ö)
def vals(L:L3):Ä D3:=L.map Prod.snd
def qQ(R:L3)(x:ÄG):L3:=if uh (vals R) Ð=true then R++[x]else R
def cM(S:L3)À1:L3:=àQ qQ
theorem mW{S:L3}ĉ(hk:k<S.length):cM S Ρ=qQ (cM S k) S[k]:=by unfold cM;rw[List.take_add_one,Ze hk,Option.toList_some,List.foldl_append];rfl
theorem iK(S:L3):∀k,k<=S.length->(cM S k).Sublist (S.take k)
 |0,_=>by unfold cM;exact List.Sublist.refl _
 |k+1,h=>by
  have ih:=iK S k (by exact â Ç Èi h);rw[mW (Çx h),List.take_add_one,Ze (Çx h),Option.toList_some];unfold qQ;split
  show Áj ih.append (List.Sublist.refl _) ih.trans (List.sublist_append_left Â)
theorem Dy(L:L3):Ň vals L=L.length:=Za ..
def Dm:Sp:=λ vs H Q _=>∃(a b:XH) (ns ms:XQ),vs=[Æ a,Æ b]/\Ϛ a ns.map/\Ϛ b ms.map/\ns.length=ms.length/\ns.length<=8/\Äh Q (.bl (lF ns ms))
def NA Ë(Ŧ d D3 as XH)(ÄO is):Prop:=as.length=is.length/\∀(Ŏ k b XH) (i:Nat),as[k]?=Ã b->is[k]?=Ã i->H b=ØV
def Fc:Sp:=λ vs H Q _=>∃(a:XH) (d:D3),vs=ġ a/\Êt/\∀p H' as,ó->Ì7 H' p->NA H' d as (asks d)->Đ p H'
def JR:Sp:=λ vs H Q _=>∃(a nm r:XH) (d:D3) (i:Nat) (R:L3) (n:Nat),vs=[Æ a,Æ nm,Æ r]/\Êt/\H nm=ØV/\Į H r (.dT (ba R))/\(∀x∈R,DA H ö Ð)/\(∀x∈R,Êm)/\Ák d=n/\Äh Q (.bl (nV (vals R) d i))
theorem tz(Ŧ R L3 k Key):aU (ba R) k=(Ñm x Ð k).map λ x=>V.ref ö:=by unfold aU ba;rw[List.find?_map,Option.map_map];rfl
theorem Io(Ŧ R L3 k Key):(vals R).find? (ÀF e (nmK e=k))=ũ R.find? (ÀF x (nmK Ð=k)) Prod.snd:=by ext ğ vals List.find?_map;rfl
def TC:Sp:=λ vs H Q _=>∃(a:XH) (d:D3),vs=ġ a/\Êt/\∀p H',ó->Į H' p (Ò (ũ kyZ d V.int))->Đ p H'
theorem uQ{H H':Hp}(hT:∀zs,H T≠ą tup zs)(s:SameT T H H'):TS H H':=λ a zs h=>s a _ h λ z=>hT zs (Àq z h)
abbrev uP:Stmt:=top 7
abbrev Kk:Ä Str:=["one","other"]
theorem JO:Ŵ Kk "one" "other" uP:= ñ
theorem Jf(F:é "within" "within" uP)(j6:Ē "all")(p9:Ē "zip"):ă 1 ["one","other"] Dm:=by
 show É0 JO [a,b,ns,ms,rfl,hA,hB,hl,h8,q] (b_1 (au (ÊO (q_a (ÄW ["mine","yours"] (sL p9 (Ã8 0 1)) (ÎR "mine" "yours") (jh Çd) (Ĭ fj) (Ĭ (cP uE ü ä))) ai))))
 refine#[Ü,a,b,_,_,rfl,XW hA,XW hB,ÅJ Za Za hl,? _];refine BB (λ i=>.bl (decide (am ns i<=am ms i))) (Ż Za) (XW hA) (XW hB) (ÅJ Za Za hl) (λ i x y H1 hx hy sm R k=>? _) (Č p H1 sm hp)
 .show Ž [rfl,_] qm hx [rfl,_] qm hy;exact#[Ü,ë,k H1 (Same.refl H1)]
 .rw[Za];refine#[p,(Ŷ ns.length map) (ÀF i (am ns i<=am ms i)),rfl,XX ? _,q _ (ÄZ hp)];rw[ad,ZX];rfl
abbrev kO:Stmt:=top 68
abbrev zT:Ä Str:=["deed","name","ready"]
theorem yC:ãE FnScope zT (ao kO):= ñ
theorem xX(F:é "is_answered" "is_answered" kO)(V6:Ð1 1 "within" Dm):ãE ă 2 JR:=by
 show ĩ yC [a,nm,r,d,i,R,n,rfl,hd,hn,hr',hR,hRn,hdn,q];have key:DGet H r (Ï nm) (aU (ba R) [Ó (É i),Ó (bh d i)]):=.inr #[ba R,ÐT,nm,Ó hr',Ì hn,rfl];exists[c,v,d1,d2,d3,d4,d5],id hd;exists _,(b_1 (au (dC (GN hr.units ä Ū) (dP (ī V6 (ņ (ar aw (cH hr.units ↑2 ä) aj) (ð (ħ 0))))))))
 rw[tz]at key;ext Ĝ nV q;rw[Io]at q;cases hf:Ñm x Ð ÐT with
 |none =>rw[hf]at key q;refine#[Ü,Ł r key,È false,aF ? _];exact q H (Same.refl H)
 |some x =>rw[hf]at key q;have hm:=YW hf;exists[c',v',f1,f2,f3,f4,f5],hR x hm;refine#[Ü,Ł r key,È true,aP ? _];refine#[Ü,Ł r key,ö,_,ÀW,XW f1,Ł at1 a,_,ÀW,XW d1,at1,c',c,Ð.2.1,d.2.1,Ì f2,d2,by rw[hRn x hm,hdn],f5,Ø H' s'];exact q H' s'
abbrev qE:Stmt:=top 67
abbrev FD:Ä Str:=["deed","names","hand","number","last"]
theorem iu:ŀ FD "deed" qE:= ñ
theorem zh(d:D3)À1:(Ŷ Ρ filter) ÊD=(Ŷ k filter) ÊD++if bh d k>0 then[k]else[]:=by
 rw[List.range_succ,Ys];congr 1;by_cases c:bh d k>0
 .rw[XC c,List.filter_cons,XC (û c),List.filter_nil]
 .rw[XB c,List.filter_cons,XB (û c),List.filter_nil]
theorem NA.snoc(δ is Nat i Nat)Þz(hb:H' b=ØV):NA H' d (as++[b]) (is++[i]):=by
 refine#[by simp[h.1],Ķ k c j h1 h2];ext Ât YO k as.length c1
 .rw[YU c1]at h1;rw[YU (by rw[<-h.1];exact c1)]at h2;exact t Â (h.2 k c j h1 h2)
 .rw[Yq c1]at h1;rw[Yq (by rw[<-h.1];exact c1),<-h.1]at h2;have e:k-as.length=0:=by have:=Àg h1;simp at this;omega
  rw[e]at h1 h2;cases h1;ext Ř h2 hb
theorem NA.ts{is:Ä Nat}Þz:NA H' d as is:=#[h.1,λ k c j h1 h2=>t Â (h.2 k c j h1 h2)]
theorem DW{f:XH}{fd:XO}(F:é "asked_by" "asked_by" qE)(i7:Ē "enumerate"):ă 1 Ãl Fc:=by
 show ĩ iu [a,d,rfl,hd,q];exists[c,v,e1,e2,e3,e4,e5],id hd;exists _,(Âu 1 iu.nd bX ai
   (b_c (cW ZU rfl (NS i7 (ð (ħ 0))) (Én 2 iu.nd 3) (b_c (Ĕ 4 iu.nd (Cy (aE bW Ū (ħ 0)) (aI sY ↑3 aj) ↑3))
   (b_1 (aM (aE Ck ↑4 aj) (b_1 (bK (iF ä (aJ (Ã8 2 4))))) b_0))))
   (Ás ä)))
 show ÃB #[Ċ p g] s0 g ń;refine#[ÀH a,À7 XW s0 e1,at1,c,Å,s0 Â e2,? _];refine ŕ Iu i 2 j 3 (λ k Z H'=>ó/\(∃o2 o3 o4,Z=[Ö a,Ö p,o2,o3,o4])/\∃as,Ì7 H' p/\NA H' d as ((Ŷ k filter) ÊD)) #[s0,#[Ðd none],[],È ad,λ k b i h1=>ÀU h1] (λ i Z H' _ ⟨sm,_⟩=>XW (ÂC e2)) (Ã0 k x Z H1 hx ⟨sm,⟨o2,o3,o4,eZ⟩,as,hp,na⟩ T hT) (Ú Z H1 ⟨sm,⟨o2,o3,o4,eZ⟩,as,hp,na⟩)
 .subst eZ;exists[rfl,hk],qm hx;have sT:=af hT (Ò [Áu k,Í (Â7 k)]);have m1:=į sT sm e1;ext ŧ pT sT hp;have go:∀(z:Int) (D:Ends),z=bh d k->(∀σ' H',(ó/\(∃o2 o3 o4,σ'=[Ö a,Ö p,o2,o3,o4])/\∃as,Ì7 H' p/\NA H' d as ((Ŷ Ρ filter) ÊD))->D.nx σ' H') ->
    Mi (wS (tOp (rI0 λ i j=>V.bl (Å4 j i)) (tVar 4) (tC (V.int 0)))) (Hd (tBM K "list" rAppend (tVar 1) (fY (Mj (ÄD fY tVar 2 tVar 4 ip)) ip))) jU D [Ö a,Ö p,Ã (Áu k),Ě Ã Í Â7 k,ą int z] (ß H1 T (Ò [Áu k,Í (Â7 k)])):=λ z D hz hD=>by
   refine#[ÂD,Å,Ám nY hc hc]
   .show Âz #[Ån pT,Ü,Ċ b gb] sB gb (Ò [Í (É k),Í z]);ext ŧ pB sB pT;refine#[p,Àw,Ì pB,Χ]
    .have:=na.1;have l1:Ň (Ŷ k filter) (ÀF i (bh d i>0))<=k:=by have:=Z3 ÊD (List.range k);ext Â1 YA
     rw[Za];exact ĥ cX
    .refine hD Â #[? _,#[_,Àw],as++[b],Χ]
     .exact λ b' o hb=>Äq (aq hb g) sB (į sT sm hb)
     .rw[ad,Zy];rfl
     .rw[zh,XC (by exact ô Âc Ç (ÿ Âc Ê (ÿ Ê ÂE)) ÂA hc (Int.le_of_eq hz))];refine na.snoc Ĳ
      .exact(XV sT).trans ((XV sB).trans (iC λ zs e=>Ϝ pB e))
      .rw[ah (λ e=>by rw[<-e,ad]at pB;cases pB),ad,hz];rfl
   .refine hD Â #[sm.trans sT,#[_,Àw],as,pT,? _];rw[zh,XB (ÁU (Àd (ÿ Âc Ç (ÿ Ê č Ìu)) ÂA q (Int.not_lt.mp hc) (Int.le_of_eq hz.symm))),ZQ];exact õ na.ts sT
  refine#[Ü,a,τ,XW m1,È at0,Å,Ám Gf ek ek]
  .refine#[ÂD,go ÁZ λ σ' H' z=>z];unfold bh;rw[XC (Ðo ek ek.symm)]
  .refine#[Å,go ÁZ λ σ' H' z=>z];unfold bh;rw[ĥ XB]
 .show Âb eZ #[Å,q p H1 as sm hp (by unfold asks;rw[Za]at na;exact na)]
abbrev kY:Stmt:=top 66
abbrev FI:Ä Str:=["deeds","ready","deed"]
theorem oO:ŀ FI "deeds" kY:= ñ
abbrev AJ:Str:=Ù9 "ready_of"
def MP:Stmt->XT
 |.For _ it ì=>it
 |.Assign _ e _=>e
 |_=>.Name "" #[0,0,0,0]
abbrev vI:XT:=K9 (MP ((bV kY).getD 1 (ÊW)))
theorem zX(Vi:Ē "sum"):↑LamOk 1 AJ (K6 vI) (La vI) "each" TC:=by
 refine#[["each"],#[î,rfl,⋯,rfl,Àv],Ķ vs H Q E h,λ f c' A outer s H vs Q E hr h=>? _]
 .exists[a,d,rfl,_],h;rfl
 obtain⟨a,d,rfl,⟨c,v,e1,e2,e3,e4,e5⟩,q⟩:=h;show Ť #[_,(aJ (ņ (q_B (Λ HS rfl rfl) Vi PyProof.Rows.boot_sum (ð (ħ 0))) (ð (ħ 0)))),? _] #[ÄR a,XW e1,at1,c,d.2.1,rfl,XW e2,ÄR a,XW e1,at0,Ċ p g];exact Ñu g ad
def Fg(T:XH):Sp:=λ vs H Q _=>∃(l:XH) (L:L3) (n:Nat),vs=ġ l/\LR3 H l L/\ÒR/\n<=8/\UN n (vals L)/\Øt H /\
 ∀D H' (S:L3),S.Perm L->(ÎF vals S)->SameT T H H'->Øt H'->Į H' D (Õ (ax (cM S S.length)))->ÏZ H'
theorem qu(ãF h r)(hr:∀f,H r=Ã f->(∀ps,f≠.tbl ps)/\∀c,f≠lO c q):aX q T pos H':=μ [ps,e1,e2,e3] h #[ps,Ģ e1 λ z=>(hr _ (Àq z e1)).1 ps rfl,e2,ÒH e3.imp #[c,z1,Ģ z2 λ z=>(hr _ (Àq z z2)).2 c rfl]]
theorem Sj(h:aX q T pos H):∀zs,H T≠ą tup zs:=λ zs e=>by ext ÉW h;ext è e1 e e
theorem JF{L:L3}{is:Ä Nat}(h:∀i∈is,i<L.length):ÌW is.map ax L=ax (is.map λ i=>L.getD i (0,D0)):=by ext ğ ax ZX;apply YT;intro i hi;have hl:=h i hi;simp[hl]
theorem D7{f c0 T:XH}{fd:XO}(F:é "ready_of" "ready_of" kY)(Ó0 T)(Vu:Åu 1 "asked_by" Fc)(UK:Ŀ 2 "is_answered" ["deed","name","ready"] JR)(a7:Âg spNameOf)(Vi:Ē "sum")(c8:Ē "sorted")(j6:Ē "all")(i9:Ē "list"):ă 5 ["deeds"] (Fg T):=by
 show Ô0 oO [l,L,n,rfl,_] [l,L,n,rfl,hL,hz,hn,hg,tab,q];exists _,(b_c (Ĕ 1 oO.nd qC)
   (b_c (cW ZU rfl (bc (LN rfl c8 rfl C B (zX Vi) ↑99 (Ğ 0))) (ÁX 2 oO.nd) (b_1 (aM (ci (ÊO (q_a (æ9 "name" 2 1 "deed" "ready" Vu 2 (Ĭ (ī UK (ŏ 1 (ŏ 0 (Ğ 2)))))) ai))) (b_1 (kh hr.units ä (ϕ a7 2) Ū)) b_0)))
   (b_1 (au (oq (Er rfl) i9 iU (ð (JA ä)))))))
 intro r gr
 ext gr H0 s0 er0
 have L0:=hL.same s0;have tab0:=aZ tab s0;have nt0:=Sj tab0;have rT:r≠T:=Ú0 tab gr
 refine#[Å,l,ax L,L.map λ x=>ZKey.t (kyZ Ð),rfl,Ó L0.1,tab0,by rw[aH];exact ĵ (.n 64) (ć ÎV) [_] hz,ÏI aH inr sT kR,Ã0 p H2 D hp hls sT tab2 gD]
 .show ż x _ hk;exact#[Å,Ĉ kyZ]
 .ext Õn;exact Ø4 L0 (uQ nt0 sT) p' e'' kR #[È p',e'']
 .rw[aH]at hp hls;ext ÎZ p.toList L.length hp.mem_iff
  rw[JF pl];have so:=oQ (f:=Prod.snd) (z:=((0,D0):ÄG)) hp (by rw[ZX]at hls;exact hls);generalize(ÈN L.getD (0,D0))=M at so ⊢;exists[sM,pM],so;have gM:UN n (vals M):=hg.perm (pM.symm.map Prod.snd);have lM:M.length=L.length:=pM.length_eq;have er2:H2 r=Ã (.dT []):=sT Â er0 rT;have s3:=af gD (Ϟ M);ext Èj eD H2 D Ϟ M some;ext ŧ er3 s3 er2;have nt2:=uQ nt0 sT;have M3:∀x∈M,DA (ß H2 D (Ϟ M)) ö Ð:=λ x hx=>(L0.2 x (pM.mem_iff.mp hx)).ts (õ nt2.trans s3);have tab3:=aZ tab2 s3;have all3:SameT T H (ß H2 D (Ϟ M)):=Æ7 s3 (sT Â (s0 ŋ) hb);have hD0:á D:=by
   cases e:H D with
   |none=>rfl
   |some o =>
    ext å z D T
    .ext ÉW tab2;rw[<-z,gD]at e1;cases e1
    .have:=sT Â (s0 ŋ) z;ext ÁN gD
  ext Ÿ nDr D r er2 gD
  generalize ß H2 D (Ϟ M)=H3 at *;refine#[È D,Æn _ eD,qg (λ k Z H'=>(∃o2,Z=[Ö l,Ö r,o2])/\SameT r H3 H'/\Į H' r (.dT (ba (cM M k)))) #[#[È none],λ b o e _=>e,er3] (λ i Z H' _ ⟨_,sr,_⟩=>XX (sr Â eD nDr)) (ŗ k x Z H4 hx ⟨⟨o2,eZ⟩,sr,hr4⟩) (Ú Z H4 ⟨⟨o2,eZ⟩,sr,hr4⟩)]
  .subst eZ;exists Áz hk,dj hx;have t4:TS H3 H4:=uQ (λ zs e=>Ϝ er3 e) sr;have M4:∀x∈M,DA H4 ö Ð:=Èh M3 hx t4;have dk:=M4 _ (ZD hk);have mk:Ãg∈vals M:=Zw.mpr #[M[k],ZD hk,rfl];refine#[Å,M[k].1,Ãg,Ì dk,ŗ p1 H5 as s5 e5 na];have la:as.length<=8:=by rw[na.1];unfold asks;have:=Z3 (ÀF i (bh Ãg i>0)) (List.range Ãg.2.1.length);ext Â5 YA;have l8:=(gM.len _ mk).1;exact ϙ 8 (Ñ Ê Ô (Ñ Ç Ê (ū (.n 8) .z))) æ (Nat.le_of_eq l8) this hn
   have sub:=(iK M k ∅).trans (YI k M);refine#[È p1,Æn _ e5,HZ (λ j=>.bl (Ëe)) (Ż Za) (XX e5) (Áp j x H6 hx s6 R kR) (Č p2 H6 s6 g6)]
   .ext Ê5 Zs hx b hb;have hj:j<(asks Ãg).length:=by rw[<-na.1];exact Àg hb
    have ej:ÝR=(asks Ãg)[j]:=Ĉ hj
    show ŧ hbn s6 (na.2 j b _ hb (Ze hj));rw[<-ej]at hbn;have hr6:=į s6 s5 hr4;have t6:TS H4 H6:=(XV s5).trans (XV s6);exact#[Àj,M[k].1,b,r,Ãg,ÝR,cM M k,È n,dk.ts t6,hbn,hr6,Èh M4 (sub.subset hx) t6,λ x hx=>(gM.len _ (Zw.mpr #[x,sub.subset hx,rfl])).1,(gM.len _ mk).1,λ H' s'=>kR H' s']
   .have S6:=s6.trans (af g6 (Õ (Ñ5 λ j=>V.bl (Ëe))));refine#[p2,Ñ5 λ j=>Ëe,rfl,XX (Â4 ad ZX),? _];have ea:(Ñ5 λ j=>Ëe).all id=uh Ýf:=by unfold uh;rw[Za,na.1,<-jg (asks Ãg) 0,List.all_map,List.all_map,jg];rfl
    rw[ea];generalize ß H6 p2 (Õ (Ñ5 λ j=>V.bl (Ëe)))=H7 at S6 ⊢;have S7:=s5.trans S6;ext ŧ hr7 S7 hr4;refine Àk;have e1:cM M Ρ=qQ (cM M k) M[k]:=mW hk;ext Ĝ qQ e1;by_cases ac:uh Ýf=true
    .rw[XC ac]at e1;rw[ac];refine aP #[Àj,.ref M[k].1,toD Ãg,rfl,(õ dk.ts S7).dd,Č p3 H8 s8 e8];ext ŧ hr8 s8 hr7;have vn:aU (ba (cM M k)) (nmK Ãg)=none:=by
      rw[tz];have:(cM M k).find? (ÀF x (nmK Ð=nmK Ãg))=none:=by rw[YM];intro y hy;show Ìf Z1.mp ((iK M k ∅).subset hy);rw[ZJ]at hj;rw[List.getElem_take];have u:=gM.uni;rw[ZR]at u;have:=u j k (by rw[Dy];ext Úe hk) (Ă Dy hk) á9;simp only[vals,List.getElem_map]at this;ext ÃT
      rw[this];rfl
     have lk:Ň ba (cM M k)<=63:=by ext ğ ba Za;have:=sub.length_le;exact ÓG 63 this (Nat.le_of_eq lM) hz
     refine#[ù r,ā #[_,nmK Ãg,p3,hr8,Ì e8,Xq lk (ÊU PySem.sizeLine_eq),rfl],Âv,ÀG e hb,? _]
     .rw[ah hb];exact s8 Â (S7 Â (sr ŋ hb))
     .rw[ad,qz _ vn,e1];congr 2;ext ğ ba Zy;rfl
    .rw[XB ac]at e1;rw[Xj.mpr ac];refine aF #[Âv,Æ7 S7 (sr ŋ hb),? _];ext Œ e1 hr7
  .subst eZ;rw[aH]at hr4;show Ã5 #[Å,Ł r hr4,Ø v gv] sv af gv (ie v (tE r));show Ã5 #[v,r,Å,ad,sv Â hr4,Ø l2 g2] s2 af g2 (Õ Ýe);have rb:SameT r H3 (upd (ß H4 v (ie v (tE r))) l2 (Õ Ýe)):=Æ7 s2 (sv Â (sr ŋ hb));have hl2:á l2:=by
    cases e:H l2 with
    |none=>rfl
    |some o =>
     ext Ÿ hb l2 r gr e
     ext å z l2 T
     .ext ÉW tab3;rw[<-z]at e1;show ÐV sv (sr Â e1 hb) g2
     .have:=sv Â (sr Â (all3 ŋ z) hb);ext ÁN g2
   refine q l2 _ M pM sM (ÀG e hb) (qu tab3 rb (Ø f' hf')) ? _ hl2
   .refine rb Â (all3 ŋ hb) (ģ z);ext Ţ z gr e
   .show π er3 hf' Ös
   .rw[ad];congr 2;unfold ba ax;rw[ZX];rfl
structure FitS(Â3 e D3):Prop where
 len:Ák e=n
 hd:e.1<n
 fit:Fit n e
 ok:DOk e.2.2
def kdW:Wd->Ä Kd
 |.put ì=>[.u,.p,.t]
 |.move ì=>[.i,.u,.p]
 |.write Â=>[.i,.t]
 |.mark Â=>[.i,.b]
 |.due Â=>[.i,.w]
 |.fold Â=>[.i,.b]
 |.part ì=>[.i,.a,.p]
 |.join Â=>[.i,.i]
 |.take _=>[.i]
 |.back _=>[.i]
 |.off _=>[.n]
 |.on _=>[.n]
 |.none=>[]
theorem T4(wd:Wd):PyProof.Rows.KTD.datumAt wd.word DT=some (tw (ũ kdW wd nm)):=by cases wd<;>with_unfolding_all rfl
theorem fP{hd:Int}(h:œ nv n)(k:gC hd ns n.1 n.2=true):Âq i nv:=by ext ļ b hb h;exact .it b n.1 n.2 hb k
theorem Fv{hd:Int}(h:UpAt H uv u)(k:∀n,u=Γ->gC hd ns n.1 n.2=true):Âq u uv:=by
 cases u with
 |none =>have h:uv=.non:=h;subst h;exact .u0
 |some n =>
  show ļ b hb (h:œ uv n)
  exact .up b n.1 n.2 hb (k n rfl)
theorem ye{hd:Int}{pl:XQ}(h:PlAt H pv pl)(k:Bn pl):Âq p pv:=by ext ļ b hb h;exact .pl b pl hb k.1 k.2
theorem Fs{hd:Int}{t:Str}(h:uf t)(k:TxA t):Âq t (Î t):=.tx t (Zn h.2 ⋯) k.1 k.2
theorem fL(ãL a):Bk H hd ns [k] [v]:=Ę a ė
theorem Pp{hd:Int}(h:WhAt H wa wd)(ok:DOk wd)(kn:Kn (λ m=>gC hd ns m.1 m.2=true) (am ns hd.toNat) ns.length wd):WhatR H hd ns (Ï wa):=by
 exists[r,e,hr],h;refine .is e (T4 wd) (by cases wd<;>exact Xa rfl) ? _;cases wd with
 |put=>ext ÆD uv pv hr;exact υ (Fv h1 kn.1) (Ę (ye h2 kn.2.1) (fL (Fs ok kn.2.2)))
 |move=>ext É8 nv uv pv rfl hr;exact ÍI (Ę (Fv h2 kn.2.1) (fL (ye h3 kn.2.2)))
 |write=>ext ļ nv h1 hr;exact ÍI (fL (Fs ok kn.2))
 |mark n b=>ext ļ nv h1 hr;exact υ (fP h1 kn) (fL (.bl b))
 |due n w =>
  ext ļ nv h1 hr;refine ÍI (fL ? _);cases w with
  |none=>exact .w0
  |some k=>exact .w1 k (kn.2 k rfl).1 (kn.2 k rfl).2
 |fold n b=>ext ļ nv h1 hr;exact υ (fP h1 kn) (fL (.bl b))
 |part n a pl=>ext ÆD nv pv hr;exact ÍI (Ę (.at a ok) (fL (ye h2 kn.2)))
 |join=>ext ÆD nv mv hr;exact ÍI (fL (fP h2 kn.2))
 |take=>ext ļ nv h1 hr;exact fL (fP h1 kn)
 |back=>ext ļ nv h1 hr;exact fL (fP h1 kn)
 |off k=>cases Ðb;exact fL (.nu k kn.1 kn.2)
 |on k=>cases Ðb;exact fL (.nu k kn.1 kn.2)
 |none=>cases(hr:r=[]);exact ė
theorem Kv(h:∀i,0<=am ns i):∀z∈ns,0<=z:=λ z hz=>by ext Ïv hz;have:=h i;ext Ĝ am this;rw[Ze hi]at this;ext ÀZ
theorem NJ à(ÑL h d f)(n8:n<=8):DeedR H (É n) Ϗ:=by exists[c,wa,h1,h2,h3,h4,h5],h;refine .is h1 (Int.natCast_nonneg _) (by have:=f.hd;exact Äo this) h2 (by rw[f.len]) (Kv f.fit.nn) ∅ (Ă ZP f.fit.own) (Pp h3 f.ok ? _);rw[ZP,f.len];exact f.fit.kn
def sfl ÒS:ő V:=eJ "deeds" (Ï d) (eJ "hands" (Áu n) [])
theorem SH:¬(Ày "hands"="deeds"):=⋯
theorem zC ÒS:(sfl n d).lookup (Ày "hands")=Ã (Áu n):=ÙT sfl SH
theorem kl ÒS:(sfl n d).lookup (Ày "deeds")=Ö d:=by unfold sfl;rw[bq,XC rfl]
theorem fO ÒS{m:Str}(h1:¬m="deeds":=by decide)(h2:¬m="hands":=by decide):(sfl n d).lookup m=none:=by
 ext Ùl sfl
 all_goals rfl
structure StoreAt Ĥ Ë Ø9:Prop where
 ob:∃dx,H p=Ã (Ä5 (sfl n d))
 dc:Į H d Ç6
 dr:∀x∈L,DA H ö Ð
 fit:∀x∈L,FitS n Ð
 uni:L.Pairwise Èl
 n1:1<=n
 n8:n<=8
 len:ÒR
theorem StoreAt.un à(ÉR S):UN n (vals L):=#[λ x hx=>by
  ext ż y hy hx;exact#[(S.fit y hy).len,(S.fit y hy).hd],λ x hx=>by
  ext ż y hy hx;have:=(S.fit y hy).fit.own;exact Ë8 Τ this,Yl.mpr S.uni]
structure TxS(K:XY)Ĥ:Prop where
 cl:Cls K C
 nH:NoAttr K C "hands"
 nD:NoAttr K C "deeds"
abbrev LTb(T:XH)Ë:Prop:=Øt H
abbrev LTr(T:XH)Ë:Prop:=Ç1 H
def KT(H H':Hp):Prop:=∀b o,H b=ò->(∀ps,o≠.tbl ps)->H' b=ò
theorem KT.of(s:ó):KT H H':=λ b o e _=>s b o e
theorem KT.trans(s:KT H H')(t:KT H' H2):KT H H2:=ÄK e n t (s Ál) n
theorem KT.ts(s:KT H H'):TS H H':=λ a zs h=>s a _ h λ ps z=>ÁF z
theorem KT.tab(ãF t T):KT H H':=λ b o e n=>s b o e λ z=>by ext ÉW t;ext Ţ z e1 e;exact n ps rfl
theorem KT.lr(s:KT H H')(x:LR3 H l L):LR3 H' l L:=#[Ģ ö nofun,ÒT Ð s.ts]
theorem StoreAt.kt à(ÉR x)(s:KT H H'):StoreAt C H' p d n L:=by obtain⟨⟨dx,h1⟩,h2,h3,h4,h5,h6,h7,h8⟩:=x;exact#[ÙW,Ģ h2 nofun,ÒT h3 s.ts,h4,h5,h6,h7,h8]
theorem StoreAt.same à(ÉR x)(s:ó):StoreAt C H' p d n L:=x.kt (.of s)
def RDY(L M:L3):Prop:=∃S:L3,S.Perm L/\(ÎF vals S)/\M=cM S S.length
theorem RDY.sub(h:RDY L M):∀x∈M,ÊN:=λ x hx=>by exists[S,pS,_,rfl],h;exact pS.mem_iff.mp (((iK S S.length (Zf _)).trans (Æ8)).subset hx)
theorem RDY.len(h:RDY L M):M.length<=L.length:=by exists[S,pS,_,rfl],h;have:=((iK S S.length (Zf _)).trans (Æ8)).length_le;have e:=pS.length_eq;exact ŝ (ū Ê (ć Ç Ô)) æ (Nat.le_of_eq e) this
structure Tabs(T R:XH)Ë:Prop where
 t1:LTb T H
 t2:LTr R H
 ne:T≠R
theorem zH(t:aX q T pos H)(r:aX q' R pos' H)(ne:R≠T)(s:SameT T H H'):aX q' R pos' H':=by show Áh [ps,e1,e2,e3] r #[ps,s Â e1 ne,e2,ÒH e3.imp #[c,z1,s Â z2 (ģ z)]];exists[qs,f1,_],t;ext Ţ z f1 z2
theorem Tabs.same(x:Tabs T R H)(s:ó):Tabs T R H':=#[aZ x.t1 s,aZ x.t2 s,x.ne]
theorem Tabs.sT(ßZ T LTb):Tabs T R H':=#[t,zH x.t1 x.t2 x.ne.symm s,x.ne]
theorem Tabs.sR(ßZ R LTr):Tabs T R H':=#[zH x.t2 x.t1 x.ne s,t,x.ne]
theorem Tabs.put{T R d:XH}{H H':Hp}{kvs:X0}(x:Tabs T R H)(Åe e d)(s:SameT d H H'):Tabs T R H':=#[qu x.t1 s λ f hf=>(by show π e hf Ös),qu x.t2 s λ f hf=>(by show π e hf Ös),x.ne]
inductive spSInit Ĥ(vs:X1)Ë(Q:VK)(E:XK):Prop
 |mk (p dx:XH) Ė (h0:vs=ÈY p (É n)) (h1:H p=Ã (Ä5 [])) åP (q:∀(d:XH) (H':Hp),á d->StoreAt C H' p d n []->(ÌC p)->Äx):spSInit C vs H Q E
inductive spHear Ĥ(vs:X1)Ë(Q:VK)(E:XK):Prop
 |mk (p d a:XH) (Â3 L L3) (e:D3) (Ål p a) (ÉR h1) (ÑL h2 e h3) (h4:âV (L.length<63/\(∀x∈L,nmK Ð≠nmK e)/\∀H',SameT d H H'->StoreAt C H' p d n (L++[(a,e)])->Q ÉT)):spHear C vs H Q E
inductive spReadyM(C T:XH)ÂX:Prop
 |mk Ø9 ÆA ÏQ (q:∀D H' (M:L3),RDY L M->SameT T H H'->LTb T H'->Į H' D (Ϟ M)->ÏZ H'):È7 spReadyM E
abbrev mG:Stmt:=ž 70 0
abbrev A9:Ä Str:=["self","hands"]
theorem Aw:Ŵ A9 "self" "hands" mG:= ñ
theorem Af(F:é "__init__" "Store.__init__" mG)(X:TxS K C):ÊT 1 "hands" (spSInit C):=by
 show ĩ Aw [p,dx,n,rfl,hp,n1,n8,k];exists _,(b_c (tq ü ä)
   (b_1 (tq ü qC)))
 refine#[Ü,p,C,dx,[],Ì hp,X.cl,X.nH,Ïh 0];intro d hd;have hd0:á d:=by
  cases e:H d with
  |none=>rfl
  |some o =>
   ext å c d p
   .ext Äl c ad hd
   .rw[ah c,e]at hd;cases hd
 have npd:p≠d:=aq hp hd0;refine#[γ,C,dx,_,rfl,(ÍR npd),X.cl,X.nD,Ïh 1];refine k d _ hd0 #[#[dx,ad],by rw[ah npd.symm,ad];rfl,Ĵ,Ĵ,.nil,n1,n8,ZA _] (ÀG e hb);rw[ah hb,ah (aq e hd0),ah hb];exact e
theorem Dw âU:aU (ba L) (nmK e)=none:=by
 rw[tz];have:ê L.find? (ÀF x (nmK Ð=nmK e)):=by rw[YM];intro y hy;simpa using hn y hy
 rw[this];rfl
theorem Mu{L:L3}(u:L.Pairwise Èl){x:ÄG}(hx:ÊN):aU (ba L) (nmK Ð)=Ã (.ref ö):=by
 rw[tz];cases hf:L.find? (ÀF y (ÈH=nmK Ð))with
 |none=>show ĕ (decide_eq_true rfl) (YM.mp hf x hx)
 |some y =>
  have my:=YW hf;have qy:ÈH=nmK Ð:=Z5 (p:=ÈH=nmK Ð) (List.find?_some (p:=λ y:ÄG=>decide (ÈH=nmK Ð)) hf);ext ÏN my hx;ext ÎS qy qy.symm
theorem KM à(ÉR S)(s12:Same H H2)(ÑL hd e ft)(ll:L.length<63)âU:StoreAt C (ß H2 d (.dT (bC (ba L) (nmK e) Ϗ))) p d n (L++[(a,e)]):=by
 obtain⟨⟨dx,h1⟩,h2,h3,h4,h5,h6,h7,h8⟩:=S;rw[qz _ (Dw hn)];have tA:TS H2 (ß H2 d (.dT (ba L++[(nmK e,Æ a)]))):=Ùz zs z s12 h2
 ext Ÿ npd p d h2 h1
 have ek:ba L++[(nmK e,V.ref a)]=ba (L++[(a,e)]):=by ext ğ ba Zy;rfl
 have all:∀{q:ÄG->Prop},(∀x∈L,q x)->q (a,e)->∀x∈L++[(a,e)],q x:=λ z1 z2 x hx=>by
  ext ÒG hx z1 x z2
 refine#[#[dx,Äq npd s12 h1],ÀK ad ek,all (Èh h3 hx ((XV s12).trans tA)) (hd.ts ((XV s12).trans tA)),all h4 ft,? _,h6,h7,Ă Zm ll];refine List.pairwise_append.mpr #[h5,List.pairwise_singleton Â,Č x hx y hy];rw[Zg.mp hy];exact hn x hx
abbrev Lay Ë(Ŏ k v V):Prop:=∃D:XZ,Dt H D v/\Ą D.canLay0/\D.depth<=k
abbrev xg Ë(Ŏ k vs X1):Prop:=∃ds:(Ä XZ),DtAll H ds vs/\Ðt ds k
theorem dM ĉ:xg H k []:=#[[],È jb,ZA _]
theorem aY ĉ(h:Lay H k v)(t:xg H k vs):xg H k (v::vs):=by exists[D,h1,h2,h3],h;show þ [ds,t1,t2,t3] t #[D::ds,Ù3 t1 t2,by ext Ű PyData.depthAll;omega]
theorem Cb Ο ĉ(Ç8 h p vs)(t:xg H k vs):Lay H Ρ (Ï p):=by exists[ds,t1,t2,t3],t;exact#[.tuple ds,gP h t1,È2 t2,Ìt (ã 1) ϊ ď t3]
theorem Ca ĉ(ÆL h s):Lay H k (Î s):=#[Î s,jd s,È2 h,ZA _]
theorem MR ĉ(b:Bool):Lay H k (.bl b):=#[.bool b,vt b,rfl,ZA _]
theorem rH ĉ(i:Int):Lay H k (Í i):=#[Í i,Ij i,rfl,ZA _]
theorem jS ÈP:Lay H 1 v:=#[nmD n,jk h,(eV n).1,ÙH]
theorem MV(h:UpAt ÇJ):Lay H 1 v:=#[upD u,wY h,(jY u).1,(jY u).2]
theorem Gi(h:PlAt H v ns):Lay H 1 v:=#[plD ns,GI h,(rE ns).1,Xd (rE ns).2]
theorem SX ĉ(w:Option Int):Lay H k (whV w):=#[whD w,AU w,(rF w).1,ÒI (rF w)]
theorem Oc(ş k m)(h:Lay H k v)(e:k<=m):Lay H m v:=let⟨D,a,b,c⟩:=h;#[D,a,b,Zn c e]
theorem T5(wd:Wd):ÁY wd.word:=by cases wd<;>(dsimp only[Wd.word];ext ÆE)
theorem SW(h:WhAt H wa wd)(ok:DOk wd):Lay H 2 (Ï wa):=by
 exists[r,e,hr],h;refine Cb e (aY (Ca (T5 wd)) ? _);cases wd with
 |put=>ext ÆD uv pv hr;exact aY (MV h1) (aY (Gi h2) (aY (Ca ok.1) dM))
 |move=>ext É8 nv uv pv rfl hr;exact aY (jS h1) (ÄD aY MV h2 Gi h3 dM)
 |write=>ext ļ nv h1 hr;exact aY (jS h1) (aY (Ca ok.1) dM)
 |mark=>ext ÙG MR
 |due=>ext ÙG SX
 |fold=>ext ÙG MR
 |part=>ext ÆD nv pv hr;exact aY (jS h1) (ÄD aY rH _ Gi h2 dM)
 |join=>ext ÆD nv mv hr;exact ÄD aY jS h1 jS h2 dM
 |take=>ext ļ nv h1 hr;exact aY (jS h1) dM
 |back=>ext ļ nv h1 hr;exact aY (jS h1) dM
 |off k=>cases Ðb;exact aY (rH _) dM
 |on k=>cases Ðb;exact aY (rH _) dM
 |none=>show Ř (hr:r=[]) dM
theorem EN ĉ:∀ns:XQ,xg H k (ns.map V.int)
 | []=>dM
 |n::ns=>aY (rH n) (EN ns)
theorem MT(h:Êt)(ok:DOk ÂK):Lay H 3 Ϗ:=by exists[c,wa,h1,h2,h3,_],h;exact Cb h1 (aY (rH _) (aY (Oc (Cb h2 (EN (k:=0) _)) ⋯) (aY (SW h3 ok) dM)))
theorem EO:∀{M:L3},(∀x∈M,DA H ö Ð/\DOk Ð.2.2)->xg H 3 (ax M)
 | [],_=>dM
 |x::M,h=>aY (MT (h x Zk).1 (h x Zk).2) (EO (ν y hy h))
theorem MU{D:XZ}(h:Ą D.canLay0)(k:D.depth<=4):ÛH SeqAt.shaped D D:=by refine#[? _,SeqAt.eqv_refl _ h];ext ğ SeqAt.shaped ZH;exact#[h,ĥ decide_eq_true]
theorem B8{a b:XQ}(e:a.length=b.length)(h:∀i,i<a.length->am a i=am b i):a=b:=by apply List.ext_getElem e;intro i h1 h2;have:=h i h1;ext Ĝ am this;rw[Ze h1,Ze h2]at this;ext ÀZ
theorem gX ĉ àI:∃y,L[k]?=Ã y/\y∈L/\x=.ref y.1:=by exists Áz hk,dj h;exact#[L[k],Ze hk,ZD hk,rfl]
abbrev mF:Stmt:=ž 70 1
abbrev A8:Ä Str:=["self","deed","name"]
theorem qU:Ŵ A8 "self" "deed" mF:= ñ
theorem Ae(F:é "hear" "Store.hear" mF)(X:TxS K C)(VM:ÌF 7 "is_deed" JS)(a7:Âg spNameOf):ÊT 8 "deed" (spHear C):=by
 show ßK qU [p,d,a,n,L,e,rfl,S,hd,ft,q];exists _,(b_c (aM (fJ (ci (ī VM (ÀO 1 (ð (bj ↑0)))))) (b_1 yn) b_0)
   (Èz 2 qU.nd a7 1
   (b_c (aM (Ça jK 2) (b_c (ÃW kh Ū ä)
   (Ás dF)) b_0)
   (b_c (aM (aE (vW hr.units) (ÃW cH Ū) ä) (b_1 yn) b_0)
   (Ás dF)))))
 show Áa #[Ü,p,C,dx,Àw,h1,X.cl,X.nH,zC Â,_,É n,rfl,NJ hd ft S.n8,Ø H1 s1] #[Å,? _];refine#[Å,Æ a,toD e,rfl,(hd.same s1).dd,Č t H2 s2 et];have s12:=s1.trans s2;have et':Į H2 t (Ò (ũ nmK e kV)):=et;refine#[Ü,p,Ør,ù d,.inr #[_,nmK e,t,Ó (s12 Â h2),Ì et',rfl],ţ];rcases q with⟨ll,hn,q⟩|⟨hx,q⟩
 .rw[Dw hn];ext Ħ aP;have lk:Ň ba L<=63:=ÍY ğ ba Za S.len
  refine#[Ü,p,Ør,Áo d,ā #[_,nmK e,t,s12 Â h2,Ì et',Xq lk (ÊU PySem.sizeLine_eq),rfl],? _];exact q _ (λ b o eb hb=>Äq hb s12 eb) (KM S s12 hd ft ll hn)
 .have vs:aU (ba L) (nmK e)=Ö a:=Mu S.uni hx;rw[vs];exists[D,e1,e2,e3],MT (hd.same s12) ft.ok;exists[e4,e5],MU e2 (Zn e3 ⋯);refine aF #[γ,Ør,Áo d,.inr #[_,nmK e,t,Ó (s12 Â h2),Ì et',vs.symm],Å,D,D,e1,e1,e4,e4,ţ];rw[e5];exact aF (q H2 s12)
theorem KU(L:L3):ũ ba L (·.2)=ax L:=by unfold ba ax;rw[ZX];rfl
abbrev kN:Stmt:=ž 70 2
abbrev zS:Ä Str:=["self"]
theorem yB:ŀ zS "self" kN:= ñ
theorem xW(F:é "ready" "Store.ready" kN)(X:TxS K C)(Vv:Ŀ 5 "ready_of" ["deeds"] (Fg T))(i9:Ē "list"):ă 6 ύ (spReadyM C T):=by
 ext ÝZ yB;exists _,(b_1 (au (ī Vv (ņ (oq (Er rfl) i9 iU (ð (JA (bj ü)))) ai))))
 show Ã5 #[γ,C,dx,Àw,h1,X.cl,X.nD,kl Â,Ł d h2,Ø v gv] sv af gv (ie v (tE d));refine#[v,d,Å,ad,sv Â h2,Ø l2 g2];rw[KU];have s2:=sv.trans (af g2 (Ϟ L));refine#[l2,L,È n,#[ad,λ x hx=>(h3 x hx).same s2],h7,h6,h4,aZ tab s2,λ D H' S' pS sS sT tab' eD nD=>? _];exact q D H' _ #[S',pS,È sS] (λ b o e hb=>sT Â (s2 ŋ) hb) tab' eD (s2.free nD)
def pA(ns:XQ)(h:Nat):XQ:=ns.take h++[am ns h+1]++ns.drop (h+1)
def Fh:Sp:=λ vs H Q _=>∃(h:Int),vs=[Í h]/\1<=h/\h<=8/\ÇE p (Ò ((ÁD h.toNat (É 0) map) V.int))
def Dk:Sp:=λ vs H Q _=>∃(a:XH) (ns:XQ) (h:Int),vs=ÈY a h/\Ϛ a ns.map/\0<=h/\h<ns.length/\ns.length<=8/\ÇE p (Ò ((pA ns h.toNat).map V.int))
abbrev kP:Stmt:=top 6
abbrev zU:Ä Str:=["hands"]
theorem yF:ŀ zU "hands" kP:= ñ
theorem xY(F:é "start_clock" "start_clock" kP):ă 1 ["hands"] Fh:=by
 show É0 yF [h,rfl,h1,h8,q] (b_1 (au (aI QM (aJ (ð aj)) ü)))
 show Ť #[Ċ p g] #[Å,p,h,[Í 0],î,ad,h1,∅,Û,(cX (Ż y9)),ÍK p2];refine q p2 H2 ((af g _).trans s2) ? _;rw[e2,List.flatten_replicate_singleton,List.map_replicate]
abbrev uO:Stmt:=top 8
abbrev Kj:Ä Str:=["clock","hand"]
theorem JN:Ŵ Kj "clock" "hand" uO:= ñ
theorem Je(F:é "raised" "raised" uO):ă 1 ["clock","hand"] Dk:=by
 show ĩ JN [a,ns,h,rfl,hA,h0,h1,h8,q];have hk:h.toNat<ns.length:=Àz Îv h1
 have c1:bU (ns.map V.int) none (Ù h)=ũ ns.take h.toNat V.int:=by unfold bU;rw[Za,HT.sIx_none,mj h0,ĥ YD,List.drop_zero,Nat.sub_zero,List.map_take]
 have c2:bU (ns.map V.int) (Ù (h+1)) none=ũ ns.drop (h.toNat+1) V.int:=by unfold bU;rw[Za,HT.sIx_none,mj (ÅW č Ć ØB h0),YD (by exact ÇW Ê (ÿ Ć (.c Ê) (Áb Ĩ (Ų a 0))) ď Τ h1 (Ðp Ć č h0)),<-List.map_drop,<-List.map_take];rw[show(h+1).toNat=h.toNat+1 by exact Nat.le_antisymm (ÇW (Ų a 1) (ÿ Ç (.c Ê) (Áb Ĩ (Ų a 0))) ď Τ (Int.self_le_toNat _) (Ðp Ć č h0)) (Îv (Int.self_le_toNat _)),Yt (Ŕ Yx Zf _)]
 exists _,(b_1 (au (aI jm (aI jm (fg dW ü fq (eM ä)) (aJ (ð (aI eW (ar aw ü ä) aj)))) (fg dW ü (eM (aI eW ä aj)) fq))))
 refine#[Àj,Ł a hA,ÇG p1 e1];rw[c1]at e1;show Âz #[Ü,a,τ,À7 XW s1 hA,eZ h0 h1,ë,Ċ p2 g2] s2 g2 (Ò [Í (am ns h.toNat+1)]);show Ť #[p1,p2,ë,s2 Â e1,ad,(cX (by rw[Za,ZJ,y9];omega)),Č p3 H3 s3 e3] #[Ü,ë,Å,ù a,s3 Â (į s2 s1 hA),Č p4 H4 s4 e4];rw[c2]at e4;refine#[p3,p4,ë,s4 Â e3,e4,(cX (by simp only[Zm,Za,ZJ,Yx,y9];omega)),ÐB p5];refine q p5 H5 (s1.trans (Ě s2.trans s3.trans s4.trans s5)) ? _;rw[e5];ext ÀY pA Zy Zy;rfl
def hZ(ds:Ä D3)(g:Nat):Int:=É (ds.countP (ÀF d (ý=g)):Nat)
def cR Ė(ds:Ä D3):XQ:=(Ŷ n map) (hZ ds)
theorem jC(ş n g)(h:g<n):am (cR n ds) g=hZ ds g:=by unfold am cR;rw[Zs,List.getElem?_range h];rfl
theorem cY Ė(ds:Ä D3):ÅC cR n ds n:=by ext ÀY cR Za YA
theorem wB{ns:XQ}{h:Nat}(hh:h<ns.length):pA ns h=ns.set h (am ns h+1):=by unfold pA;rw[List.set_eq_take_append_cons_drop,XC hh,Xv];rfl
theorem HW à{d:D3}(h:ý<n):pA (cR n ds) ý=cR n (ds++[d]):=by
 have hl:ý<(cR n ds).length:=Ă cY h
 rw[wB hl];refine B8 (ÅJ Yv cY cY) (Ø i hi);rw[Yv,cY]at hi;rw[lJ hl,jC h,jC hi,jC hi];ext ÀY hZ List.countP_append Int.natCast_add;by_cases c:i=ý
 .rw[XC c,List.countP_cons_of_pos (Ŕ c decide_eq_true rfl),c];rfl
 .rw[XB c,List.countP_cons_of_neg (by simpa using ÈD c)];exact(Int.add_zero _).symm
inductive spClockM(C T:XH)ÂX:Prop
 |mk Ø9 ÆA ÏQ (q:∀c H' (M:L3),RDY L M->SameT T H H'->LTb T H'->Į H' c (Ě Ò Çy vals M)->Đ c H'):È7 spClockM E
theorem Et Ė:cR n []=äV:=by refine B8 (ÀK cY x9) (Ø i hi);rw[cY]at hi;rw[jC hi,qa];rfl
abbrev kM:Stmt:=ž 70 4
abbrev zR:Ä Str:=["self","clock","deed"]
theorem gZ:ŀ zR "self" kM:= ñ
theorem xV(F:é "clock" "Store.clock" kM)(ÑA TxS C C)(UL:Ŀ 1 "start_clock" ["hands"] Fh)(V7:Ŀ 1 "raised" ["clock","hand"] Dk):ă 7 ύ (spClockM C T):=by
 ext ÝZ gZ;exists _,(b_c (Ĕ 1 gZ.nd (ī UL (ð (bj ü))))
   (b_c (cW ZU rfl (bc (bP j8 ς)) (ÁX 2 gZ.nd) (b_1 (Ĕ 1 gZ.nd (ī V7 (ÀO 1 (ð (ar aw Ū aj)))))))
   (Ás ä)))
 ext Áy;refine#[Å,Çq dx h1 X.cl X.nH,zC Â,É n,rfl,Àz ß1 h5,Ïd 8 h6,λ c0 H0 s0 e0=>ł];rw[ZP,<-Et]at e0;ext Áy;show Ã5 #[γ,dx,Å,s0 Â h1,fO Â,p,d,n,L,rfl,S.same s0,aZ tab s0,Ã0 D H1 M rd sT tab1 eD nD] kt1 KT.tab (aZ tab s0) sT;have S1:=(S.same s0).kt kt1;have lM:=rd.len;have e1:Į H1 c0 (Ò (Çy (vals []))):=kt1.ts Â e0;refine#[Áe D eD];refine ÁL fz D (xs:=ax M) (λ i Z H'=>Same H1 H'/\∃(c:XH) (o2:Option V),Į H' c (Ò (Ě Çy vals M.take i))/\Z=[Ö p,Ö c,o2]) #[Same.refl _,c0,none,È e1] (Ä2 (Âf eD)) Ĳ
 .rintro i v Z H' hv ⟨sm,c,o2,ec,rfl⟩ DL hDL;ext Êl my;exists[cl,wv,d1,d2,d3,d4,d5],Ú1 S1.dr;have hy2:y.2∈vals L:=Zw.mpr #[y,rd.sub y my,rfl];have lh:=(h4.len _ hy2)
  refine#[Å,Át d1 at0 #[c,_,(y.2.1:Int),Ì ec,(by exact ô č η Ζ),by rw[cY];exact Äo lh.2,Ă cY h6,λ c2 H2 s2 e2=>ÄQ #[sm.trans s2,c2,_,È ? _]]];rw[e2,ZP,HW (by exact Èa lh.2),bM hy];ext ğ vals Zy;rfl
 rintro Z H' ⟨sm,c,o2,ec,rfl⟩;refine ł;rw[aH,ZO]at ec;exact#[Å,q c H' M rd (Æ7 sm (sT Â (s0 ŋ) hb)) (aZ tab1 sm) ec]
structure AllR(L M:L3):Prop where
 one:∀M',RDY L M'->M'=M
 pe:M.Perm L
inductive spWait(C T:XH)ÂX:Prop
 |mk (p d:XH) Ė (L M:L3) ÆA ÏQ (h3:AllR L M) ÜU:È7 spWait E
abbrev jr:Stmt:=ž 70 3
abbrev uX:Ä Str:=["self","ready"]
theorem mT:ŀ uX "self" jr:= ñ
theorem uG(F:é "waiting" "Store.waiting" jr)(ÑA TxS C C)(a7:Âg spNameOf)(c8:Ē "sorted"):ă 7 ύ (spWait C T):=by
 show ßK mT [p,d,n,L,M,rfl,S,tab,al,q];have h7:=S.len;exists _,(b_c (Ĕ 1 mT.nd (ÄW Ãl (bc (bP j8 ς)) (ÃV (Àn Ãl)) Àe (Ĭ fj) (Æo Ĭ a7 0)))
   (b_1 (au (q_B Nz c8 Xf (q_a (Jz (Ì5 ["name"] (ÅP [1] ["ready"]) (SL (bj ü)) (ÆF "name" "ready") Àe (Ĭ (nX (aE (IX (K:=K) (k:=1) rfl ↑99) ü ä))) (Ĭ ü))) ai)))))
 ext áP D sT eD nD;have lM:=rd.len;refine#[Áe D eD];refine bL (λ i zs H'=>Same H1 H'/\zs.length<=i/\NmsAt H' zs ((M'.take i).map λ x=>nm3 Ð)) (Ż aH) Çk (È3 eD) Ĳ
 .ext Îg zs lz pz;ext Êl my;refine#[Å,.ref y.1,toD y.2,rfl,(Ú1 S1.dr).dd,λ t H2 s2 et=>ÀM (Ê9 s2 lz)];rw[bM hy,Zy];exact YR (õ pz.ts s2) #[È t,et]
 rintro zs rl H2 ⟨sm,lz,pz⟩ grl;rw[aH,ZO]at pz;show Äd wr grl (Õ zs) erl H2 rl;have S3:=(S1.same sm).same wr;have pz3:=õ pz.ts wr;have sT3:SameT T H (ψ H2 rl zs):=Æ7 wr (sm Â (sT ŋ hb));have tab3:=aZ (aZ tab1 sm) wr;generalize (ψ H2 rl zs)=H3 at erl S3 pz3 sT3 tab3 ⊢;refine ł;obtain⟨⟨dx3,g1⟩,g2,g3,_⟩:=id S3;refine#[Å,Çq dx3 g1 X.cl X.nD,kl Â,d,ba L,Ì g2,ģ o];ext Ÿ nrd rl d g2 erl
 have tF:TS H3 (ß H3 d (ÁQ Ç6)):=λ b zs e=>Áf ah (Àm g2 e) e
 have kF:∀b u,H3 b=Ã u->ō d->ß H3 d (ÁQ Ç6) b=Ã u:=λ b u e hb=>Ī hb e
 ext Èj eF H3 d ÁQ Ç6 some;have er4:=kF Â erl nrd;have pz4:=pz3.ts tF;exists[dA,dB],Cf pz4;have lk:Ň ba L=L.length:=ÀL ğ ba Za
 generalize hHF:ß H3 d (ÁQ Ç6)=HF at tF kF eF er4 pz4 dA ⊢;refine ŕ HY a d o o (kvs:=ba L) (λ i ys H'=>H'=HF/\ys=[]) ∅ (λ _ _ _ z=>ÒI z) ÁP (λ i ys H' z=>by rw[z.1];exact eF) Ĳ
 .rintro i ys H' kv b hkv hb ⟨rfl,rfl⟩ Y hY;ext Ĝ ba hkv;ext Ê5 Zs hkv y hy;have eb:NameIs H' (Ï b) (nk Ñt):=#[È b,hb]
  show Îz #[Ü,rl,_,nmD Ñt,Å,XX er4,jk eb,dA,ás,Ł dB ? _] IR (Zw.mpr #[y,al.pe.mem_iff.mpr (ZG hy),rfl]);exact aF (ÀM ÁP)
 rintro ys l5 H' ⟨rfl,rfl⟩ g5;show Äd w5 g5 (Õ []) e5 H' l5;ext ŧ eF5 w5 eF;ext Ÿ n5d l5 d eF g5
 refine#[d,o,.dT (ba L),eF5,Loose.dt h2,? _];have k5:Same H3 (upd (Áq l5 ń) d Ç6):=λ b u e=>by
  ext å c b d
  .rw[c,ad,<-g2,<-c,e]
  .rw[ah c];exact w5 Â (kF ŋ c)
 have e6:upd (Áq l5 ń) d Ç6 l5=Ã ń:=Ī n5d e5
 generalize upd (Áq l5 ń) d Ç6=H6 at k5 e6 ⊢;refine#[l5,[],[],Ì e6,Xa rfl,Ì Û,λ i a k z=>(ÀU z),Ķ pm D2 hp hs gD2];have z0:pm.toList=[]:=by
  have:pm.size=0:=Ö2
  exact ÁG List.length_eq_zero_iff.mp Zx this
 rw[z0];have s7:=k5.trans (af gD2 ń);exact q D2 _ (Æ7 s7 (sT3 ŋ hb)) (aZ tab3 s7) ad
inductive spTold(C T:XH)ÂX:Prop
 |mk (p d c:XH) Ė (L M:L3) (cs:XQ) (Ål p c) ÏQ Ý9 (h6:∀x∈M,ko cs (nm3 Ð)=true) ÜU:È7 spTold E
abbrev mH:Stmt:=ž 70 5
abbrev Ba:Ä Str:=["self","clock","deeds"]
theorem qV:Ŵ Ba "self" "clock" mH:= ñ
theorem Ag(F:é "told" "Store.told" mH)(ÑA TxS C C)(VN:Ι 7 C "waiting" ύ (spWait C T))(a7:Âg spNameOf)Ôp:ÊT 8 "clock" (spTold C T):=by
 show ĩ qV [p,d,c,n,L,M,cs,rfl,S,tab,al,hc,lc,ht,q];ext ÀE dx h1 S;have h7:=S.len;exists _,(b_c (Ĕ 2 qV.nd (aI vV (bP j8 ς) (bT (own:=["name"]) (ÅP [0] ύ) rfl (bc (bP VN ς)) (ÆF "name" "self") Àe (Ĭ fj) (Ĭ (cH hr.units (Jw (K:=K) rfl ä) ü)))))
   (b_1 (au (Ì5 Ãl (ÅP [1] ["clock"]) (bc Ū) (ÆF "deed" "clock") Àe (Ĭ (nX (fJ (ci (ī r9 (ŏ 1 (q_a (ī a7 (Ğ 0)) ai))))))) (Ĭ ü)))))
 ext áP D1 sT1 eD1 nD1;ext ÀE dx1 g1 S1;have lM:=rd.len;show Ã5 #[γ,dx1,Å,g1,fO Â,p,d,n,L,È M',S1,tab1,al,λ D2 H2 sT2 tab2 eD2=>? _] kt2 KT.tab tab1 sT2;have S2:=S1.kt kt2;show ÂI eD12 Åw kt2 eD1 #[Áe D2 eD2];refine ÁL bL D2 (xs:=[]) (λ i zs H'=>H'=H2/\zs=[]) (ZA _) (λ i zs H' z=>ÒI z) ÁP (ÙJ zs eD2) (λ i zs H' v hv=>ÀU hv) ? _;rintro zs l3 H' ⟨rfl,rfl⟩ g3;show Äd w3 g3 (Õ []) e3 H' l3;refine#[D1,l3,ë,w3 Â eD12,e3,cX (Ãf aH Yu),λ l4 g4=>ł];rw[ZQ];have w4:=w3.trans (af g4 (Ϟ M'));have e4:upd (Áq l3 ń) l4 (Ϟ M') l4=some (Ϟ M'):=ad;generalize upd (Áq l3 ń) l4 (Ϟ M')=H4 at w4 e4 ⊢;have sT4:SameT T H H4:=Æ7 w4 (sT2 Â (sT1 ŋ hb) hb);have tab4:=aZ tab2 w4;show ŧ hc4 w4 (į kt2.ts kt1.ts hc);have S4:=S2.same w4;refine#[Å,Áe l4 e4];refine bL (λ i zs H'=>Same H4 H'/\zs=[]) (Ż aH) (λ i zs H' z=>ÒI z) #[ÍX] (È3 e4) Ĳ
 .ext Ùm sm;ext Êl my;have dy:=Ú1 S4.dr;show ÂI fy S.fit y (rd.sub y my) #[Ü,.ref y.1,toD y.2,Ì dy.dd,ÐB t];refine#[c,Æ t,cs,nm3 y.2,rfl,į s5 sm hc4,#[È t,e5],Int.natCast_nonneg _,by show É (y.2.1:Nat)<_;have:=fy.hd;exact Û1 (ĝ Ć Ô (ØX)) æ θ this (Nat.le_of_eq lc.symm),ţ];rw[ht y my];exact aF (ÀM #[sm.trans s5,rfl])
 rintro zs D5 H' ⟨sm,rfl⟩ gD5;have w5:=sm.trans (af gD5 ń);exact q D5 _ (Æ7 w5 (sT4 ŋ hb)) (aZ tab4 w5) ad
inductive spCount ÂX:Prop
 |mk (v:V) (l:XH) (h0:vs=[v,Æ l]) (h1:H l=Ã ń) (q:Q (Í 0) H):spCount vs H Q E
abbrev yp:Stmt:=top 73
abbrev oG:Stmt:=top 72
abbrev DH:Ä Str:=["store","deeds","new","deed"]
theorem ju:Ŵ DH "store" "deeds" oG:= ñ
theorem Cs(F:é "count_new" "count_new" oG)(UC:Ŀ 1 "takes_as_new" ["store","deed"] Pc):ă 10 ["store","deeds"] spCount:=by
 show ĩ ju [v,l,rfl,hl,q];exists _,(b_c (Ĕ 2 ju.nd aj)
   (b_c (ÆN (bc ä) (aB (i:=3) ju.nd) (b_1 (aM (Ýx UC 3) (b_1 (Tz (i:=2) ju.nd aj Ui)) b_0)))
   (Ê3 2)))
 ext ϐ ł;ext Áy;refine#[Å,Áe l hl];refine ÁL fz l (xs:=[]) (λ i Z H'=>H'=H/\Z=[Ľ,Ö l,ą int 0,none]) ÁP (λ i Z H' _ z=>by rw[z.1];exact XX hl) (λ i v Z H' hv=>ÀU hv) ? _;rintro Z H' ⟨rfl,rfl⟩;exact hR0 Â #[Å,q]
inductive spMeet(C T:XH)ÂX:Prop
 |mk (p1 d1 p2 d2:XH) Ė (L1 Lake M:L3) (Ål p1 p2) (h1:StoreAt C H p1 d1 n L1) (h2:StoreAt C H p2 d2 n Lake) (h3:LTb T H) (h4:AllR L1 M) (h5:AllR Lake M) (h6:∀x∈M,ÙA M) (q:∀t H',SameT T H H'->LTb T H'->áJ):È7 spMeet E
abbrev CO:Stmt:=top 71
abbrev PB:Ä Str:=["one","other","for_one","for_other"]
theorem yD:Ŵ PB "one" "other" CO:= ñ
theorem Om(F:é "meet" "meet" CO)(áu C)(U4:Ι 8 C "told" ["self","clock"] (spTold C T))(UH:Ŀ 10 "count_new" ["store","deeds"] spCount):ă 11 ["one","other"] (spMeet C T):=by
 show ĩ yD [p1,d1,p2,d2,n,L1,Lake,M,rfl,S1,S2,tab,a1,a2,ht,q];exists _,(b_c (Ĕ 2 yD.nd (ÃE U4 ä (ð (bP UD ς))))
   (b_c (Ĕ 3 yD.nd (bJ U4 ς (ð (bP UD ↑99 ä))))
   (b_1 (au (aJ (q_a (Å3 UH 0 2) (ņ (Å3 UH 1 3) ai)))))))
 ext Áy;ext ÀE dx2 h2 S2;ext ÀE dx1 h1 S1;refine#[Ν p2 dx2 h2 fO,Ν p1 dx1 h1 fO,p1,d1,n,L1,Ì S1,tab,Áp c1 H1 M1 r1 sT1 tab1 ec1];obtain rfl:=a1.one _ r1;show ÂI k1 KT.tab tab sT1 #[p2,d2,c1,n,Lake,_,cR n (vals M1),rfl,S2.kt k1,tab1,a2,ec1,cY Â,ht,λ D1 H2 sT2 tab2 eD1=>ł];show ě k2 k1.trans (KT.tab tab1 sT2) S12 S1.kt k2;have S22:=S2.kt k2;ext ÀE ex2 g2 S22;ext ÀE ex1 g1 S12;show ϐ #[Ν p1 ex1 g1 fO,Ν p2 ex2 g2 fO,p2,d2,n,Lake,Ì S22,tab2,λ c2 H3 M3 r3 sT3 tab3 ec2=>? _];obtain rfl:=a2.one _ r3;show ÂI k3 KT.tab tab2 sT3 #[p1,d1,c2,n,L1,_,cR n (vals M3),rfl,S12.kt k3,tab3,a1,ec2,cY Â,ht,λ D2 H4 sT4 tab4 eD2=>ł];have k24:=k3.trans (KT.tab tab3 sT4);show ÂI eD14 Åw k24 eD1 #[Ü,Æ p1,È D1,eD14,_,Ì _,rfl,Æ p2,È D2,eD2,Ċ t gt];have wt:=af gt Ìy;exact q t _ (Æ7 wt (sT4 Â (sT3 Â (sT2 Â (sT1 ŋ hb) hb) hb) hb)) (aZ tab4 wt) ad
def lZ(wd:Wd)(w:Str):Bool:=match wd with
 |.put ì=>ÈG w "done" "top"
 |.part ì=>Ài w "done"
 |_=>false
inductive Abv(ol:Ol):Option Nm->ÃI Nm
 |none:Abv ol none []
 |up {n:Nm} {it:It} {l:Ä Nm} (h:Κ) (t:Abv ol it.up l):Abv ol (Ù n) (n::l)
theorem Abv.one(h:Abv ol u a)(g:Abv ol u b):a=b:=by
 induction h generalizing b with
 |none=>ext ϖ g
 |up h _ ih =>
  cases g with
  |up h' t' =>ext è h h' h';rw[ih t']
theorem PM ĉ(h:Ch ol k u):∃l,Abv ol u l:=by
 induction h with
 |none=>exact#[[],.none]
 |up hl _ ih =>show þ [l,hl'] ih #[_,.up hl hl']
theorem Abv.cut(h:Abv ol u l):∀x∈l,∃l',Abv ol (Ù x) l'/\l'.length<=l.length:=by
 induction h with
 |none=>intro x hx;cases hx
 |@up n it l hl t ih =>
  intro x hx;show Äu hx #[_,.up hl t,Zf _]
  .exists[l',h1,h2],ih x hx;exact#[l',h1,Nat.le_succ_of_le h2]
theorem Abv.nd(h:Abv ol u l):l.Nodup:=by
 induction h with
 |none=>exact ė
 |@up n it l hl t ih =>refine Ya.mpr #[ģ hm,ih];exists[l',h1,h2],t.cut n hm;have:=Abv.one h1 (.up hl t);rw[this,Zo]at h2;exact Nat.not_succ_le_zero _ (Àd (ĝ Ć ÂE) ÆS h2)
theorem Abv.isin(h:Abv ol u l):∀x∈l,Ő ol x:=by
 intro x hx;exists[l',h1,_],h.cut x hx;cases h1 with
 |up hl _=>rw[hl];rfl
theorem Cd:∀{l m:Ä Nm},l.Nodup->(∀x∈l,x∈m)->l.length<=m.length
 | [],m,_,_=>ZA _
 |x::l,m,nd,h=>by exists[n1,n2],Ya.mp nd;have hx:=h x Zk;have:=Cd (l:=l) (m:=m.erase x) n2 λ y hy=>(List.mem_erase_of_ne fun(z:y=x)=>n1 (z▸hy)).mpr (h y (Zh _ hy));rw[List.length_erase_of_mem hx]at this;have:=List.length_pos_of_mem hx;rw[Zo];omega
theorem EM Ås{ol:As β}{n:Nm}{it:β}(h:Κ):n∈ol.map (·.1):=by
 induction ol with
 |nil=>cases h
 |cons p ol ih =>
  ext Ĝ look h;ext Án c n
  .rw[Zu,c];exact Zk
  .rw[XB c]at h;exact Zh _ (ih h)
theorem Abv.len(h:Abv ol u l):l.length<=ol.length:=by
 have:=Cd h.nd (m:=ol.map (·.1)) λ x hx=>by exists[it,e],ZF.mp (h.isin x hx);exact EM e
 ext Â1 Za
def Gk(Ŧ ol Ol ds Dd):Prop:=∃B,Inv ol B/\Fresh ol ds/\ol.length+ds.length<=63/\B+5*ds.length<=400
theorem NP{w:Str}(h:Gk ÄJ)(p:Æh d):Gk ol' ds:=by
 exists Ìd,h;rw[Zo]at h1 h2;have nw:=f.non d Zk;have k:=Jo v (f.ok d Zk) nw p;refine#[B+5,k.inv,#[f.tail.ok,Ú e he hm,f.tail.pw],by have:=k.len;exact â å6 this h1,Ûx (.p (ι a 0 n 5) (ÉS 5))];refine k.non e.1 (ģ z) (f.tail.non e he hm);by_cases cm:d.2.mk=true
 .rw[XC cm]at z;exact(List.pairwise_cons.mp f.pw).1 e he cm hm (Zg.mp z).symm
 .ext ώ XB cm z
theorem gQ:Gd Gk:=by
 refine#[fun{ol d ds} h=>? _,NP,fun{ol d ds} h=>? _,fun{ol d ds} h=>? _,fun{ol d ds} h s hs=>? _,fun{ol ds} h=>? _]
 .exists Ìd,h;rw[Zo]at h1 h2;exact#[B,v,f.tail,ÇL â ÀJ (.n 63) (ÎJ 1 n 63) ď h1,Ûx (.p Ç (ÉS 5))]
 .exists Ìd,h;exact v.small (by exact ϙ 63 (Ñ ÀJ (.n 63) .z) ď h1) ÜZ
 .exists Ìd,h;exact f.non d Zk
 .exists Ìd,h;exact CF v (f.non d Zk) hs
 .show þ [B,v,f,h1,h2] h v.ter
theorem Kp(ap:Ap ol s ol')(Ð7 nw n):ol'.map (·.1)=ol.map (·.1)++s.news:=by
 have old:∀{n:Nm} {it it':It},Κ->Êx aK ol n it'=ol.map (·.1)++[]:=λ h=>by rw[dR,XC (ό h),ZQ]
 cases ap with
 |@put n u pl tx =>rw[dR,XB (by rw[nw n (Ĉ Sd.news)];decide)];rfl
 |move h=>exact old h
 |write h=>exact old h
 |mark h=>exact old h
 |due h=>exact old h
 |fold h=>exact old h
 |@part n a m pl it h =>have hm:=nw m (Ĉ Sd.news);rw[dR,XB (by rw[aG,XB (Àm h hm),hm];decide),dR,XC (ό h)];rfl
 |join _ _ j =>rw[j.nm];exact(ZQ _).symm
 |gone=>exact(ZQ _).symm
def wdR(wd:Wd)(w:Str):Prop:=(w="off"\/w="turn"\/w="done"\/w="none"\/w="top"\/w="beneath"\/w="far")/\(w="top"->ê eC wd)
theorem wx(wd:Wd){w:Str}(h:ÈG w "done" "top"=false)(h':w≠"done"):Ņ lZ wd w:=by
 cases wd with
 |put=>exact h
 |part=>exact decide_eq_false h'
 |_=>rfl
theorem GL(Çg p)Öx:ol'.map (·.1)=ol.map (·.1)++(if Ď lZ wd w then[n]else[]):=by
 have no:∀{b:Bool},Ũ b->ol.map (·.1)=ol.map (·.1)++(Âl b [n] []):=λ e=>by rw[e,ÃN,ZQ]
 cases p with
 |none=>exact no rfl
 |take=>exact no rfl
 |back=>exact no rfl
 |top hm =>rw[dR,XB (by rw[nw rfl];decide),show Ď lZ (Wd.put ì) "top" from(show Ď inV (Î "top") ÑO by decide),XC rfl]
 |@step _ s w _ hs ht wr =>
  cases wr with
  |none _=>exact no (wx wd Åf)
  |beneath _ _=>exact no (wx wd Åf)
  |far _ _=>exact no (wx wd Åf)
  |done hh hb ap =>
   have e:lZ wd "done" = wd.mk:=by
    cases wd with
    |put=>exact show Ď inV (Î "done") ÑO by decide
    |part=>exact show ú decide (("done":Str)="done") from decide_eq_true rfl
    |_=>rfl
   have en:=pJ hs;rw[Kp ap (λ x hx=>by
    rw[en]at hx;ext ÖW hx),en,e]
theorem OM(Çg p):wdR wd w/\(ú gU w->∀it,eC wd=Ã it->Ő ol' it):=by
 have two:∀{b:Bool},wdR wd (Âl b "done" "none"):=fun{b}=>by
  cases b
  show ÀI #[.inr (.inr (.inr (Ó rfl))),λ z=>absurd z ⋯] #[.inr (.inr (Ó rfl)),λ z=>absurd z ⋯]
 cases p with
 |none=>exact#[two (b:=true),λ _ it h=>Ş h]
 |@take m =>
  refine#[two,Ú hw it h];cases h;ext ät
 |back=>exact#[two,λ _ it h=>Ş h]
 |top _=>exact#[#[ā (Ì4 inl),ę rfl],λ _ it h=>Ş h]
 |@step _ s w _ hs ht wr =>
  cases wr with
  |none _=>exact#[two (b:=false),λ hw=>Ϝ nG hw]
  |beneath _ _=>exact#[#[.inr (ā (Ì4 inl)),ÌE],λ hw=>Ϝ rD hw]
  |far _ _=>exact#[#[.inr (ā (Ì4 inr)),ÌE],λ hw=>Ϝ BY hw]
  |done hh hb ap =>
   refine#[two (b:=true),Ú _ it h];cases wd with
   |take=>cases hs
   |join a m =>ext ÁH hs h;exact xq ap ä2
   |_=>cases h
theorem Fp{wd:Wd}{w:Str}(h:Ą wd.isTurn):ê eC wd/\Ņ lZ wd w:=by cases wd<;>first|exact ÁP|cases h
def xC(Zq0:Ŋ Dd bu):Ä Nm:=(Zq0.filter λ z=>lZ Áv z.2.2.1).map λ z=>z.1.1
theorem mY(z:Dd×bu)(Zq0:Ŋ Dd bu):xC (z::Zq0)=(if lZ Áv z.2.2.1=true then[z.1.1]else[])++xC Zq0:=by
 ext ğ xC List.filter_cons;split
 .rfl
 .rfl
theorem pD ÅB:∀ÃC äq,Gk ol ds->Á7 ds rs->iI ts ol ds e->e.map (·.1)=ol.map (·.1)++xC (ds.zip rs)/\∀z∈ds.zip rs,wdR Áv z.2.2.1/\(gU z.2.2.1=true->∀it,eC Áv=Ã it->Ő e it)
 | [],ol,e,rs,g,r,h=>by have h1:e=ol:=h;show Œ h1 #[(ZQ _).symm,Á0 z hz]
 |À6,ol,e,rs,g,r,h=>by
  cases c:cU d ts with
  |true =>
   exists ÀP r1 x1,pE c r;exists[a,b],pD (gQ.skip g) x1 (h.1 (Ó c));rw[List.zip_cons_cons,mY];ext ň;rw[wx d.2 (w:="off") Åf,ÃN];refine#[a,Ø z hz];show Äu hz #[#[Ó rfl,ÅE y y (show¬("off":Str)="top" by decide)],ÅE y y (by rw[BZ];decide)]
   .exact b z hz
  |false =>
   cases c2:Υ with
   |true =>
    exists ÀP r1 x1,mh c c2 r;exists[a,b],pD (gQ.skip g) x1 (h.1 (ā c2));rw[List.zip_cons_cons,mY];ext ň;rw[(Fp c2).2,ÃN];refine#[a,Ø z hz];ext ϋ hz hz
    .have t0:=(Fp (w:="") c2).1;refine#[#[? _,ę t0],Ú _ it y]
     .show(if turned d∈tn then Ày "turn"else"done")="off"\/_;split
      .show ſ (Ó rfl)
      .show ſ (.inr (Ó rfl))
     .have y:eC d.2=Ã it:=y;ext è t0 y y
    .exact b z hz
   |false =>
    ext ÐN r;exists[w',so',o2,p2,x2],h.2 c c2;exists[rfl,_,e12],lX (ę rfl) p1 p2;exists[r2,y2],ÊF gQ (gQ.play g p2);obtain rfl:=mi e12 x1 y2;exists[a,b],pD (gQ.play g p2) y2 x2;rw[List.zip_cons_cons,mY,<-Xv,a,GL p2 (gQ.new g)];refine#[rfl,Ø z hz];ext ϋ hz hz
    .exists[k1,k2],OM p2;exact#[k1,λ hl it hi=>lK x2 (k2 hl it hi)]
    .exact b z hz
def kC ÒC:Ä Nm:=(Zq0.filter λ z=>lZ Áv.2.2 z.2).map λ z=>nm3 Áv
theorem BE:∀{L:L3} {rs:Ä bu},xC ((aT L).zip rs)=kC (Êc)
 | [],_=>rfl
 |Δ,[]=>rfl
 |x::L,r::rs=>by
  show xC ((toD Ð,r)::(aT L).zip rs)=kC ((x,ĳ)::Êc);rw[mY,BE];ext ğ kC List.filter_cons;by_cases c:lZ Ð.2.2 ĳ=true
  .rw[XC (show lZ (toD Ð).2 ĳ=true from c),XC c];rfl
  .rw[XB (show¬lZ (toD Ð).2 ĳ=true from c),XB c];rfl
structure RnK(L:L3)ÌO(Â3 e Ol):Prop where
 tk:Tkn L W n λ ol=>Ôf ol ol.map
 lw:W.length=L.length
 sm:Small e
 le:Ň kC (L.zip W)<=63
 ter:Ter e
 wd:∀z∈L.zip W,wdR Áv.2.2 z.2
 held:∀z∈L.zip W,gU z.2=true->(∀x∈dD Áv,Ő e x)/\∀it,eC Áv.2.2=Ã it->Ő e it
 nod:((L.zip W).map λ z=>nm3 Áv).Nodup
theorem Tv{L:L3}à àu(cl:∀x∈L,Êm/\DOk Ð.2.2):∃W e,RnK L W n e:=by
 ext ÑY;have g0:Gk [] (aT L):=âq #[λ d hd=>by ext ż x hx hd;exact(cl x hx).2,Η _ rfl,(Yl.mp nod).imp λ z _ _=>z] (Ó6 63) (Nat.le_of_eq ll) ln (.h 5 false Ç Ê (ÒY 5 (.n 63)))
 exists[rs,run],gI gQ (ts:=aO (aT L)) (tn:=bp (aT L)) g0;exists[e,he],sH gQ (ts:=aO (aT L)) g0;have T:=TU gQ g0 ln nod (λ x hx=>#[(cl x hx).1,P6 (cl x hx).2]) run he;exists[B,v,_,h1,h2],vw gQ g0 he;have sm:Small e:=v.small (by rw[Yu]at h1;exact ϙ 63 (ć (ι a 0 ÁM) (.n 63)) [_] h1) ÜZ;exists[a1,a2],pD g0 run he;have at0:∀z∈Êc,∃r:bu,ĳ=z.2/\(toD Áv,r)∈(aT L).zip rs:=λ z hz=>by ext åG hz;refine#[È r,? _];ext ğ aT List.zip_map_left;exact Zw.mpr #[(x,r),È hxr]
 have lr:=lE run;have nod':((Êc).map λ z=>nm3 Áv).Nodup:=by
  have e1:(Êc).map (λ z=>nm3 Áv)=ũ aT L Prod.fst:=by
   have:(Êc).map Prod.fst=L:=List.map_fst_zip (by rw[Za];exact ŝ (ū Ê (ć Ç Ô)) æ (Nat.le_of_eq lr.symm) (Nat.le_of_eq ll.symm))
   conv=>rhs;rw[<-this]
   ext ÀY aT ZX ZX;rfl
  ext Œ e1 nod
 refine#[Öb ĳ,e,#[T.len,T.safe,T.nod,T.words,Ø r' h,T.cl,λ ol hol=>T.asks ol hol.1],by rw[Za];exact Nat.le_antisymm (ŝ (Ñ Ç Ô ÅF) æ (Nat.le_of_eq lr) (Nat.le_of_eq ll)) (ŝ (ū Ê (ć Ç Ô)) æ (Nat.le_of_eq lr.symm) (Nat.le_of_eq ll.symm)),sm,? _,v.ter,Ø z hz,Ú z hz hl,nod']
 .refine iW gQ g0 h λ e' he'=>#[oX (ę rfl) he he',? _]
  obtain rfl:=mi (ę rfl) run h;rw[(pD g0 run he').1,BE];rfl
 .rw[<-BE];have:=ZZ List.length a1;have:=sm.len;simp only[Za,Zm,Yu]at *;exact ϙ 63 (Ñ (Ão 0) Ê (ć (ι a 1 ÁM) (.n 63))) ď (Nat.le_of_eq this.symm) h1
 .exists ÂZ r,at0 z hz;have:=(a2 _ e2).1;ext Â1 e1
 .exists ÂZ r,at0 z hz;refine#[Ø x hx,Ø it hi]
  .rw[tY]at hx;exact jp gQ g0 run he _ e2 (Ă e1 hl) x hx
  .exact(a2 _ e2).2 (Ă e1 hl) it hi
theorem Pl(e:Eqo a b)(t:Ter a):Ter b:=λ n it h=>by
 rw[<-e n]at h;exists[k,c],t n it h;refine ÁI k;generalize (Γ)=u at c;induction c with
 |none=>ext ÌU
 |up h _ ih=>exact .up (Àq e h) ih
theorem Sk{t:Tk}:t∈eG ol D↔∃d∈D,∃it,eC ÂK=Ã it/\t=(nm3 d,it,rn ol D d it):=by
 ext ğ eG List.mem_flatMap;ext Ãm
 .rintro⟨d,hd,h⟩;ext Ĝ jA h;cases e:eC ÂK with
  |none=>ext è e h h
  |some it =>rw[e]at h;exact#[d,hd,it,e,Zg.mp h]
 .rintro⟨d,hd,it,e,rfl⟩;refine#[d,hd,? _];ext ğ jA e;exact Zg.mpr rfl
abbrev LZ:=Ä ((ÄG)×Str)
abbrev Dl(Zq0:LZ):Ä D3:=ϡ bD Zq0
theorem P5:d∈Dl Zq0↔∃z∈Zq0,gU z.2=true/\Áv=d:=by
 unfold Dl bD;rw[ZX,Zw];ext Ãm
 .rintro⟨z,hz,rfl⟩;exact#[z,(ZS.mp hz).1,(ZS.mp hz).2,rfl]
 .rintro⟨z,h1,h2,rfl⟩;exact#[z,ZS.mpr #[h1,h2],rfl]
section
variable{ts:As Dd}
theorem Li ÀR{o:Option α}(h:¬(Ą o.isSome)):o=none:=by
 cases o with
 |none=>rfl
 |some _=>ext ĕ rfl h
#check 0
def gnT(ts:Ä Tk):Ä Nm:=ts.filterMap λ t=>if t.2.2=none then some t.2.1 else none
theorem zl ÅZ{x:Nm}:Ő l x↔x∈l.map (·.1):=by
 refine#[ģ h,ģ h]
 .exists[i,e],ZF.mp h;exact EM e
 .induction l with
  |nil=>cases h
  |cons p l ih =>
   unfold look;ext Án c x
   .rw[XC c];rfl
   .rw[XB c];rw[Zu]at h;exact ih ((Zi.mp h).resolve_left (ÈD c))
theorem L9 ÅZ{n x:Nm}{i:β}:Ő (aK l n i) x↔x=n\/Ő l x:=by
 rw[aG];ext å c x n
 .rw[XC c];exact#[λ _=>Ó c,ę rfl]
 .rw[XB c];exact#[.inr,λ h=>h.resolve_left c]
theorem BL:∀ák (x:Nm),Ő (ts.foldl gkS l) x↔Ő l x\/x∈gnT ts
 | [],l,x=>#[Ó,λ h=>h.resolve_right λ z=>Ş z]
 |t::ts,l,x=>by
  rw[List.foldl_cons,BL ts];have e:Ő (gkS l t) x↔Ő l x\/(t.2.2=none/\x=t.2.1):=by
   unfold gkS;by_cases c:t.2.2=none/\(look l t.2.1).isSome=false
   .rw[XC c,L9];exact#[λ h=>h.elim (λ z=>ā #[c.1,z]) .inl,λ h=>h.elim .inr λ z=>Ó z.2]
   .rw[XB c];refine#[Ó,λ h=>h.elim id (ģ z)];rw[z.2];cases hb:(look l t.2.1).isSome with
    |true=>rfl
    |false=>show ĕ #[z.1,hb] c
  rw[e];unfold gnT;by_cases c:t.2.2=none
  .rw[List.filterMap_cons_some (b:=t.2.1) (by rw[XC c]),Zi,or_assoc];exact#[λ h=>h.elim .inl λ h=>.inr (h.elim (λ z=>Ó z.2) .inr),λ h=>h.elim .inl λ h=>.inr (h.elim (λ z=>Ó #[c,z]) .inr)]
  .rw[List.filterMap_cons_none (by rw[XB c])];exact#[λ h=>h.elim (λ h=>h.elim .inl λ z=>absurd z.1 c) .inr,λ h=>h.elim (λ z=>ÕM z) .inr]
theorem Qc(h:x∈gnT (eG ol D)):∃d∈D,eC ÂK=Ã x:=by
 ext Ĝ gnT h;show Ž [t,ht,e] Yn.mp h [d,hd,it,e1,rfl] Sk.mp ht;ext Âw e;split at e
 .show Ř e #[d,hd,e1]
 .cases e
theorem Ob ÅZ{n:Nm}{i:β}(h:look l n=Ã i):(n,i)∈l:=by
 induction l with
 |nil=>cases h
 |cons p l ih =>
  have h:(if p.1=n then some Ĺ else look l n)=Ã i:=h;ext Án c n
  .ext ώ XC c h;rw[<-c];exact Zk
  .rw[XB c]at h;exact Zh _ (ih h)
theorem Dfs.app(ş k1 k2)(h:Dfs M s1 o1 k1)(g:Dfs M s2 o2 k2):Dfs M (s1++s2) (o1++o2) (k1+k2):=by
 induction h with
 |nil=>ext Œ Nat.zero_add g
 |@cons d m rest out k _ ih =>rw[Nat.add_right_comm];refine .cons ? _;show Dfs M (_++(rest++s2)) (out++o2) _;rw[<-Xv];exact ih
theorem xE:x∈grp M u↔x∈M/\x.2.up=u:=by ext ğ grp ZS;simp
theorem HM{ol:Ol}Ñ2(hx:x∈ol):∃l,Abv ol (some ö) l:=by exists[i,hi],Yp.mp hx;exists[k,ck],t Â (gE nd hi);exact PM ck
theorem NI äu(ÆZ nd):∀(f:Nat) Í3 (l:Ä Nm) (d:Int),x∈M->Abv ol (some ö) l->ol.length<l.length+f->Ò6 [(d,x)]:=by
 intro f;induction f with
 |zero =>intro x l d hx ch hB;have:=ch.len;omega
 |succ f ih =>
  intro x l d hx ch hB;have kids:∀(g:Ol),(∀y∈g,y∈grp M (some ö))->Ò6 (g.map λ y=>(d+1,y)):=by
   intro g;induction g with
   |nil=>intro _;exact#[[],0,.nil]
   |cons y g ihl =>intro hl;show Ž [ym,yu] xE.mp (hl y Zk) [i,hi] Yp.mp (pe y ym);have cy:Abv ol (some y.1) (y.1::l):=.up (gE nd hi) (Ă yu ch);exists[o1,k1,h1],ih y (y.1::l) (d+1) ym cy (by rw[Zo];exact ĵ ÎA (ć (ã 0) (ÃQ 1 (ã 2))) æ hB);exists[o2,k2,h2],ihl (ν z hz hl);exact#[_,_,h1.app h2]
  exists[out,k,h],kids (grp M (some ö)) (Á1 z z);exact#[_,_,.cons (rest:=[]) (Ă ZQ h)]
theorem P3 äu Ñ2:Ò6 (qR M):=by
 have go:∀(l:Ol),(∀y∈l,y∈M)->Ò6 (l.map λ y=>(É 0,y)):=by
  intro l;induction l with
  |nil=>intro _;exact#[[],0,.nil]
  |cons y l ihl =>intro hl;exists[a,ch],HM nd t (pe y (hl y Zk));exists[o1,k1,h1],NI pe nd (ol.length+1) y a 0 (hl y Zk) ch (by exact ÂY Ć (À9 1 Ć) .z Âx);exists[o2,k2,h2],ihl (ν z hz hl);exact#[_,_,h1.app h2]
 exact go (grp M none) λ y hy=>(xE.mp hy).1
def cnR(Ŧ n Nm l DI):Nat:=l.countP (ÀF x (Ð.1=n))
theorem NC(n:Nm)(a b:Ä DI):cnR n (a++b)=cnR n a+cnR n b:=List.countP_append
theorem um(n:Nm)(Ŧ x DI l DI):cnR n (x::l)=(if Ð.1=n then 1 else 0)+cnR n l:=by ext ÀY cnR List.countP_cons Nat.add_comm;simp
def vB(M:Ol)(Ãz n Nm u Nm):Nat :=
 match look M n with
 |Ã it=>Ê8 it.up u 1 0
 |none=>0
theorem By{M:Ol}{d:Int}(nd:(M.map (·.1)).Nodup):cnR n ((grp M u).map λ x=>(d,x))=vB M n u:=by
 unfold cnR grp vB;rw[List.countP_map];induction M with
 |nil=>rfl
 |cons y l ih =>
  rw[Zu,Ya]at nd;have ih:=ih nd.2;unfold look;by_cases hn:y.1=n
  .rw[XC hn];rw[Li (o:=look l n) λ z=>nd.1 (Ŕ hn zl.mp z)]at ih;by_cases hu:y.2.up=u
   .rw[List.filter_cons_of_pos (Ĉ hu),List.countP_cons,ih];simp[hn,hu]
   .rw[List.filter_cons_of_neg (Ĉ hu),ih];simp[hu]
  .rw[XB hn,<-ih];by_cases hu:y.2.up=u
   .rw[List.filter_cons_of_pos (Ĉ hu),List.countP_cons];simp[hn]
   .rw[List.filter_cons_of_neg (Ĉ hu)]
theorem Dfs.cnt{M:Ol}ÑG ĉ(nd:(M.map (·.1)).Nodup)(n:Nm)Ìp :
  cnR n out=cnR n st+(match look M n with|Ã it=>(match it.up with|Ã p=>cnR p out|none=>0)|none=>0):=by
 induction h with
 |nil =>
  cases look M n with
  |none=>rfl
  |some it=>cases hu:it.up<;>simp[hu,cnR]
 |@cons d m rest out k _ ih =>
  rw[um,um,ih,NC,By nd];unfold vB;cases hl:look M n with
  |none=>simp
  |some it =>
   cases hu:it.up with
   |none=>simp[hu]
   |some p =>
    ext ň;rw[hu];ext ň;rw[um p];have e:(if(Ã p:Option Nm)=some m.1 then 1 else 0)=(if m.1=p then 1 else 0:Nat):=by
     by_cases hp:m.1=p
     .rw[XC (by rw[hp]),XC hp]
     .rw[XB (λ z=>hp (Zt z).symm),XB hp]
    rw[e];exact Nat.le_antisymm (ÂY (À9 0 (.p (Ε a 1 2) (.a 3))) (.p (Ε a 0 2) (Ε a 1 3)) .z Ŭ θ) (ÂY (.p (Ε a 0 1) (Ε a 2 3)) (À9 0 (.p (Ε a 2 1) (.a 3))) .z Ŭ θ)
theorem KE{ol M:Ol}ĉ(nd:(M.map (·.1)).Nodup)(h:Dfs M (qR M) out k)(lk:∀n it,look M n=Ã it->Κ):∀{u:Option Nm} {l:Ä Nm},Abv ol u l->∀n,u=Γ->cnR n out<=1:=by
 intro u l ch;induction ch with
 |none=>intro n z;cases z
 |@up n' it l hl c ih =>
  intro n z;cases z;rw[h.cnt nd n',show cnR n' (qR M)=vB M n' none from By nd];unfold vB;cases e:look M n' with
  |none=>exact ZA _
  |some it' =>
   have:=lk ŋ;ext ÁN hl;ext ň;cases hu:it.up with
   |none=>exact Zf _
   |some p =>have:=ih p hu;show(Ê8 (Ã p:Option Nm) none 1 0)+cnR p out<=1;rw[XB nofun];exact â (Ão 0) đ (ć Ç đ) [_] this
section
variable{ol M:Ol}{out:Ä DI}{k:Nat}
theorem yh â9:∀x∈out,Ð∈ol/\(look gs Ð.1).isSome=false:=λ x hx=>by
 have m:=df.mem (λ z hz=>by
  ext ż w' hw hz;exact (xE.mp hw).1) x hx
 exists[m1,m2],ZS.mp m;refine#[pe.mem_iff.mp m1,? _];ext Ĝ dL m2;simpa using m2
theorem O4 Ñ2 â9:(out.map λ x=>Ð.1).Nodup:=by
 have sub:∀x∈M.filter (dL gs),x∈ol:=ÖF;have ndM:(ũ M.filter (dL gs) (·.1)).Nodup:=List.Pairwise.sublist (List.Sublist.map _ List.filter_sublist) ((pe.map _).nodup_iff.mpr nd);have lk:∀n it,look (M.filter (dL gs)) n=Ã it->Κ:=λ n it hl=>by exists[i,hi],Yp.mp (sub _ (Ob hl));exact gE nd hi
 rw[List.nodup_iff_count];intro n;have e:(out.map λ x=>Ð.1).count n=cnR n out:=by
  ext ÀY cnR List.count List.countP_map;congr 1;funext x;show(Ð.1==n)=decide (Ð.1=n);by_cases z:Ð.1=n
  .rw[decide_eq_true z,z];exact beq_self_eq_true n
  .ext χ decide_eq_false z YS.mpr z
 rw[e];by_cases c:n∈out.map λ x=>Ð.1
 .ext ż x hx c;exists[l,ch],HM nd t (yh pe df x hx).1;exact KE ndM df lk ch Än
 .rw[<-e,List.count_eq_zero_of_not_mem c];exact ZA _
theorem Fw Ñ2(l3:ol.length<=63)(pe:M.Perm ol):∃out k,ÏR Ís out k/\k<=63:=by
 exists[out,k,df],P3 (M:=M.filter (dL gs)) (ÖF) nd t;refine#[out,k,df,? _];have:=Cd (O4 nd t pe df) (m:=ol.map (·.1)) λ n hn=>by ext ż x hx hn;exact Zw.mpr #[Ð,(yh pe df x hx).1,rfl]
 rw[Za,Za,df.len]at this;exact Ús 63 this l3
#check 0
section
variable{n:Nat}
theorem RnK.small'(Ðz ol ol.map):Small ol:=by refine#[? _,λ m it hm=>R.sm.txt m it (by rw[h.1 m];exact hm)];have h1:=ZZ List.length h.2;have h2:=R.le;rw[Za]at h1;show Íy h2 (Nat.le_of_eq h1)
theorem RnK.nd(Ðz ol ol.map):(ol.map (·.1)).Nodup:=by rw[h.2];unfold kC;exact R.nod.sublist (List.Sublist.map _ List.filter_sublist)
theorem RnK.gone(Ðz ol' ol'.map):∀x∈gkl (eG ol (Dl (L.zip W))),ϗ look ol' ö=true:=λ x hx=>by have h1:ϗ look (gkl (eG ol (Dl (L.zip W)))) ö=true:=zl.mpr (Zw.mpr #[ś x hx]);ext Ĝ gkl h1;rw[BL]at h1;exists[d,hd,e1],Qc (h1.resolve_left λ z=>Ş z);exists[z,z1,z2,rfl],P5.mp hd;rw[<-h.1];exact(R.held z z1 z2).2 _ e1
#check 0
theorem Q4(h:OvR D ov)(h':OvR D ov')(n:Nm):Êd ov n ov':=by
 by_cases c:∀d∈D,Ña d
 .rw[h.2 n c,h'.2 n c]
 .show Ž [d,c1] Classical.not_forall.mp c [hd,c2] Classical.not_imp.mp c1;exists[j,hj],Yp.mp hd;rw[<-Classical.not_not.mp c2,h.1 j d hj,h'.1 j d hj]
theorem O0 ÅB{w:Str}(h:Êd ov n ov'):gH kp ov ts n w=gH kp ov' ts n w:=ÀL ğ gH h
theorem RQ ÅB{w:Str}(ÆL h w):PyData.strOk (gH kp ov ts n w).2.1=true:=by
 unfold gH;split
 .exact(ÍA "off")
 .split
  .exact(ÍA "kept")
  .split
   show ÀI (ÍA "over") h
theorem wdR.ok{w:Str}(h:wdR wd w):ÁY w:=by rcases h.1 with e|e|e|e|e|e|e<;>(rw[e];ext ÆE)
def rwD(x:DI):XZ:=.tuple [Í ö,nmD Ð.1,.str Ð.2.tx,.bool Ð.2.dn,(match Ð.2.wh with|none=>.none|Ã i=>Í i),.bool Ð.2.fo]
theorem Tw(h:RwAt H v x):Dt H (rwD x) v:=by ext ÆD a nv h;have w:=AU (H:=H) Ð.2.wh;have n:=jk h2;simp only[rwD,Dt,DtAll];exact#[ù a,Ó h1,ë,Ł _ n,ë,ë,Ł _ w,ë,rfl]
theorem E9:∀(δ out DI rs X1),RwsAt H out rs->DtAll H (out.map rwD) rs
 |_,_,.nil=>Ĉ DtAll
 |_,_,Ę h t=>by rw[Zu];ext Ű DtAll;exact#[ù _,Tw h,E9 t]
theorem Fa:∀out:Ä DI,(∀x∈out,Í0 Ð)->Ðt (out.map rwD) 3
 | [],_=>#[rfl,Ĉ PyData.depthAll]
 |x::out,h=>by
  exists Ãn,Fa out (ν y hy h);have hx:=h x Zk;rw[Zu];refine#[Χ]
  .cases hw:Ð.2.wh<;>simp[PyData.canLayAll0,h1,rwD,nmD,PyData.canLay0,hx,hw]
  .simp only[PyData.depthAll,rwD,nmD,PyData.depth];cases hw:Ð.2.wh<;>simp only[PyData.depth]<;>omega
theorem JJ Ο(hl:ĺ H l rs)(h:RwsAt H out rs)(hs:∀x∈out,Í0 Ð):Ó5 (.list (out.map rwD)):=by
 exists Ãn,Fa out hs;have hc:Äv PyData.list (out.map rwD):=È2 h1
 refine#[? _,dS hc (Ìt (.n 10) (Ì0 3) [_] h2),SeqAt.eqv_refl _ hc];ext Ű Dt;exact#[ù l,Ó hl,E9 h]
theorem HN Ås:∀{a b:As β},a.map (·.1)=b.map (·.1)->(a.map (·.1)).Nodup->(∀x,Êd a x b)->a=b
 | [],[],_,_,_=>rfl
 | [],Δ,h,_,_=>ÁF h
 |Δ,[],h,_,_=>ÁF h
 |p::a,q::b,h,nd,hl=>by
  rw[Zu,Zu]at h;ext Æk h h1 h2;rw[Zu,Ya]at nd;have h1:p.1=q.1:=h1;have e0:=hl p.1;ext Ĝ look e0;rw[XC rfl,XC h1.symm]at e0;have nb:∀{l:As β},p.1∉l.map (·.1)->look l p.1=none:=fun{l} hn=>by
   induction l with
   |nil=>rfl
   |cons y l ih =>rw[Zu,Zi,not_or]at hn;unfold look;rw[XB (Z7 hn.1)];exact ih hn.2
  have ih:=ŕ HN a a b b h2 nd.2 λ x=>by
   ext Án c x
   .rw[<-c,nb nd.1,nb (by rw[<-h2];exact nd.1)]
   .have:=hl x;ext Ĝ look this;rw[XB c,XB (Àq h1 c)]at this;ext ÀZ
  rw[ih,Prod.ext h1 (Zt e0)]
theorem Ib{lo hi:Option Int}(ÆL h x):ÁY (cZ x lo hi):=by show(cZ x lo hi).cps.all (·<0x110000)=true;have h:ú x.cps.all (·<0x110000):=h;rw[Array.all_eq_true']at h ⊢;intro c hc;exact h c (by have:=ÃK KB z x lo lo hi hi (c:=c) (û hc);ext ÃT)
theorem lB à(Ðz a a.map)(g:Ôf b b.map):b=a:=HN (g.2.trans h.2.symm) (R.nd g) λ x=>(g.1 x).symm.trans (h.1 x)
theorem TB:¬(Ày "store"="me"):=⋯
def hfl(p:XH)(me:Nat):ő V:=eJ "me" (Áu me) (eJ "store" (Ï p) [])
theorem iV(p:XH)(me:Nat):(hfl p me).lookup (Ày "store")=Ö p:=ÙT hfl TB
theorem eU(p:XH)(me:Nat){m:Str}(h1:¬m="me":=by decide)(h2:¬m="store":=by decide):(hfl p me).lookup m=none:=by ext Ùl hfl;rfl
structure HandAt(CH CS:XH)Ë(h p d:XH)Ëv(L:L3):Prop where
 ob:∃dx,H h=Ã (.ins CH dx (hfl p me))
 st:StoreAt CS H p d n L
structure TxH(K:XY)Ĥ:Prop where
 cl:Cls K C
 nS:NoAttr K C "store"
 nM:NoAttr K C "me"
theorem HandAt.kt åI(s:KT H H'):Çp H' L:=by ext Ðk dx h1 h2 x;exact#[ÙW,h2.kt s]
theorem HandAt.same åI(s:ó):Çp H' L:=x.kt (.of s)
theorem Tabs.kt(x:Tabs T R H)(s:SameT T H H'):KT H H':=KT.tab x.t1 s
inductive spHInit(CH CS:XH)Μ:Prop
 |mk (h dx:XH) Ëv (h0:vs=[Æ h,Áu n,Áu me]) (h1:H h=Ã (.ins CH dx [])) åP
   (q:∀p d H',á d->Çp H' []->(ÌC h)->Äx):spHInit CH CS vs H Q E_
inductive spHHear Æb ÂX:Prop
 |mk (h p d a:XH) Ëv (L:L3) (e:D3) (Ål h a) ÚJ (ÑL h3 e h4) (h5:âV (L.length<63/\(∀x∈L,nmK Ð≠nmK e)/\∀H',SameT d H H'->Tabs T R H'->Çp H' (L++[(a,e)])->Q ÉT)):ÈJ spHHear Q E
inductive spHClock Æb Μ:Prop
 |mk Îb (ÃA h) Ë6
   (q:∀c H',KT H H'->Tabs T R H'->Į H' c (Ě Ò Çy vals M)->Đ c H'):ÈJ spHClock Q E_
inductive spHReady Æb Μ:Prop
 |mk Îb (ÃA h) Ë6
   (q:∀D H',KT H H'->Tabs T R H'->É2 LR3 D M D):ÈJ spHReady Q E_
inductive spHTold Æb Μ:Prop
 |mk (h p d c:XH) Ëv (L M:L3) (cs:XQ) (Ål h c) ÚJ Ý9 (h6:∀x∈M,ko cs (nm3 Ð)=true)
   (q:∀D H',H' D=Ã ń->Đ D H'):ÈJ spHTold Q E_
inductive spHMeet Æb Μ:Prop
 |mk (h1 p1 d1 h2 p2 d2:XH) (n m1 m2:Nat) (L1 Lake M:L3) (Ål h1 h2) (a1:HandAt CH CS H h1 p1 d1 n m1 L1) (a2:ÖG H h2 Lake) (a3:Tabs T R H) (a4:AllR L1 M) (a5:AllR Lake M) (a6:∀x∈M,ÙA M)
   (q:∀t H',KT H H'->Tabs T R H'->áJ):ÈJ spHMeet Q E_
abbrev Bm Ôg(e ol:Ol):Prop:=Eqo e ol/\ol.map (·.1)=kC (M.zip W)
noncomputable abbrev gnK(ol:Ol)Ôg:As Unit:=gsF [] (gkl (eG ol (Dl (M.zip W))))
inductive spHOutl(CH CS CP T R:XH)Μ:Prop
 |mk Îb ÌO (e:Ol) (ÃA h) Ë6 (h4:RnK M W n e)
   (q:∀ol p' d' g' H',Bm M W e ol->KT H H'->Tabs T R H'->OlAt CP H' p' d' g' ol->É2 GoneAt g' (gnK ol M W) p'):spHOutl CH CS CP T R vs H Q E_
noncomputable abbrev CG(ol:Ol)(ov:As Nm)Ôg:Ä Rp:=nR (AI (eG ol (Dl (M.zip W)))) ov (aO (aT M)) (M.zip W)
inductive spHRep Æb Μ:Prop
 |mk Îb ÌO (e:Ol) (ÃA h) Ë6 (h4:RnK M W n e)
   (q:∀ol ov a ys H',Bm M W e ol->OvR (ϡ eE (M.zip W)) ov->KT H H'->Tabs T R H'->Ñw a ys RpAt (CG ol ov M W)):ÈJ spHRep Q E_
abbrev oB:Stmt:=ž 86 0
abbrev DF:Ä Str:=["self","hands","me"]
theorem CZ:FnScope DF ["self","hands","me"] (ao oB):= ñ
theorem Cp(F:é "__init__" "Hand.__init__" oB)(X:TxH K CH)(V8:↑MkFn 1 CS "Store" ["self","hands"] (spSInit CS)):ă 3 ["self","hands","me"] (spHInit CH CS):=by
 show ĩ CZ [h,dx,n,me,rfl,hh,n1,n8,q];exists _,(b_c (tq ü (Cz V8 ↑99 (Ğ 1)))
   (b_1 (tq ü Ū)))
 refine Àk;intro x dx' hx hdx ne;have hhx:h≠x:=aq hh hx;have hhd:h≠dx':=aq hh hdx;have kp0:∀b o,H b=ò->upd (ø dx' (.own x)) x (.ins CS dx' []) b=ò:=λ b o e=>Óa hx hdx
 refine#[x,dx',È n,ad,n1,n8,λ d H2 fd1 St1 kp1=>Åz];have g2:H2 h=Ã (.ins CH dx []):=kp1 Â (kp0 Â hh) hhx;have nd:h≠d:=aq (kp0 Â hh) fd1;have d0:á d:=by
  cases e:H d with
  |none=>rfl
  |some o =>rw[kp0 ŋ]at fd1;cases fd1
 show Ť #[Å,h,CH,dx,[],Ì g2,X.cl,X.nS,(by show 0<1000;decide),? _] #[Ü,h,CH,dx,_,Ì ad,X.cl,X.nM,(by show 1<1000;decide),? _];obtain⟨⟨ex,s1⟩,s2,_,_,_,s6,s7,s8⟩:=St1;refine q x d _ d0 #[#[dx,ad],#[ÁI ex,? _,Ĵ,Ĵ,.nil,s6,s7,s8]] (ÀG e hb)
 .rw[ah hhx.symm,ah hhx.symm];exact s1
 .rw[ah nd.symm,ah nd.symm];exact s2
 .rw[ah hb,ah hb];exact kp1 Â (kp0 ŋ) (aq e hx)
abbrev oA:Stmt:=ž 86 2
abbrev DD:Ä Str:=["self","deed"]
theorem CY:Ŵ DD "self" "deed" oA:= ñ
theorem Co(F:é "hear" "Hand.hear" oA)(X:TxH K CH)(WJ:Ι 8 CS "hear" ["self","deed"] (spHear CS)):ÊT 9 "deed" (ÂF spHHear):=by
 exists CY
 obtain⟨h,p,d,a,n,me,L,e,rfl,⟨⟨dx,h1⟩,S⟩,tb,hd,ft,q⟩:=h;obtain⟨⟨ex,h2⟩,hdc,_⟩:=id S;exists _,(b_1 (au (ÃE WJ (bj ü) (Ğ 1))))
 refine#[ÑZ,γ,d,a,n,L,e,Ì S,hd,ft,? _];refine q.imp (fun⟨ll,hn,q⟩=>#[ll,hn,λ H1 s1 S1=>q H1 s1 (tb.put hdc s1) #[#[dx,s1 Â h1 (ģ z)],S1]]) id;ext Ţ z hdc h1
abbrev mo:Stmt:=ž 86 4
abbrev AW:Ä Str:=["self"]
theorem Ar:ŀ AW "self" mo:= ñ
theorem zY(F:é "clock" "Hand.clock" mo)(X:TxH K CH)(áu CS):ă 8 ύ (ÂF spHClock):=by
 show àH Ar (b_1 (au (bP UD ↑99 (bj ü))))
 refine#[ÑZ,p,d,n,L,Ì S,tb.t1,Áp c H1 M' rd sT tab1 ec];obtain rfl:=hM _ rd;exact q c Õd ec
abbrev mq:Stmt:=ž 86 5
abbrev AX:Ä Str:=["self"]
theorem At:ŀ AX "self" mq:= ñ
theorem zZ(F:é "ready" "Hand.ready" mq)(ÑA TxH CH CS):ă 7 ύ (ÂF spHReady):=by
 show àH At (b_1 (au (bP j8 ↑99 (bj ü))))
 refine#[ÑZ,p,d,n,L,Ì S,tb.t1,Ã0 D H1 M' rd sT tab1 eD nD];have e:=hM _ rd;ext Ļ;exact q D Õd #[eD,λ x hx=>(S.dr x (rd.sub x hx)).ts (tb.kt sT).ts]
abbrev oF:Stmt:=ž 86 3
abbrev DG:Ä Str:=["self","clock"]
theorem C6:Ŵ DG "self" "clock" oF:= ñ
theorem Cq(F:é "told" "Hand.told" oF)(X:TxH K CH)(U4:Ι 8 CS "told" ["self","clock"] (spTold CS T)):ÊT 9 "clock" (ÂF spHTold):=by
 exists C6
 obtain⟨h,p,d,c,n,me,L,M,cs,rfl,⟨⟨dx,h1⟩,S⟩,tb,al,hc,lc,ht,q⟩:=h;ext ÀE ex h2 S;exists _,(b_1 (au (ÃE U4 (bj ü) (Ğ 1))))
 exact#[ÑZ,γ,d,c,n,L,M,È cs,S,tb.t1,al,hc,lc,ht,λ D H1 sT tab1 eD=>q D H1 eD]
abbrev iN:Stmt:=ž 86 6
abbrev ud:Ä Str:=["self","other"]
theorem tK:Ŵ ud "self" "other" iN:= ñ
theorem tI(F:é "meet_with" "Hand.meet_with" iN)(X:TxH K CH)(WK:Ð1 11 "meet" (spMeet CS T)):ÊT 12 "other" (ÂF spHMeet):=by
 exists tK
 obtain⟨h1,p1,d1,h2,p2,d2,n,m1,m2,L1,Lake,M,rfl,⟨⟨dx,g1⟩,S1⟩,⟨⟨dx2,g2⟩,S2⟩,tb,a1,a2,ht,q⟩:=h;exists _,(b_1 (au (ī WK (ņ (bj ü) (ð (bj ä))))))
 exact#[Å,h1,CH,Ó8 dx g1,Å,h2,CH,Ó8 dx2 g2,p1,d1,p2,d2,n,L1,Lake,M,Ì S1,S2,tb.t1,a1,a2,ht,λ t H1 sT tab1 et=>q t Õd et]
abbrev jG:Stmt:=ž 86 10
abbrev xh:Ä Str:=["self"]
theorem wE:ŀ xh "self" jG:= ñ
theorem vY(F:é "outline" "Hand.outline" jG)(X:TxH K CH)(n6:Ι 7 CH Ùx (ÂF spHReady))(l7:ÂW 11 "outline_of" (spOutl CP)):ă 12 ύ (spHOutl CH CS CP T R):=by
 show áK wE (b_1 (au (ī l7 (ð (bP n6 ς)))));exact#[ÛO,åf,λ oa ob p2 d2 g2 H2 ha hb s2 O G=>q ob p2 d2 g2 H2 hb (k1.trans (.of s2)) (t1.same s2) O (by rw[lB RK ha hb];exact G)]
abbrev kI:Stmt:=ž 86 11
abbrev zK:Ä Str:=["self"]
theorem yt:ŀ zK "self" kI:= ñ
theorem xQ(F:é "report" "Hand.report" kI)(X:TxH K CH)(n6:Ι 7 CH Ùx (ÂF spHReady))(pi:ÂW 10 "report_of" spReportG):ă 11 ύ (ÂF spHRep):=by
 show áK yt (b_1 (au (ī pi (ð (bP n6 ς)))));exact#[ÛO,λ oa ov a ys H2 ha hv s2 ea pa=>q oa ov a ys H2 ha hv (k1.trans (.of s2)) (t1.same s2) ea pa]
theorem JZ:∀{a b:XQ},a.length=b.length->leC a b->a.sum<=b.sum
 | [],[],_,_=>Int.le_refl _
 |x::a,y::b,e,h=>by rw[Y1,Y1];have h0:x<=y:=h 0 Û;have:=ŕ JZ a a b b (û e) Ùd;exact ô (Ε a 0 1) (Ε a 2 3) (ÿ Èk (Ĩ Ç Ô)) [] Ŭ Á3 this h0
theorem J0:∀{a b:XQ} ĉ,a.length=b.length->leC a b->k<a.length->am a k<am b k->a.sum<b.sum
 |x::a,y::b,0,e,h,_,hl=>by rw[Y1,Y1];have h0:x<y:=hl;have:=ŕ JZ a a b b (û e) Ùd;exact ô (ϓ p (Ε a 0 1)) (Ε a 2 3) (ÿ Èk (ť Ĩ 0 Ô)) [] Ŭ Á3 this h0
 |x::a,y::b,k+1,e,h,hk,hl=>by rw[Y1,Y1];have h0:x<=y:=h 0 Û;have:=ÃK J0 a a b b k k (û e) (Ùd) (û hk) hl;exact ô (ϓ p (Ε a 0 1)) (Ε a 2 3) (ť ÿ 1 (.a 3) (Ĩ Ç Ô)) [] Ŭ Á3 this h0
theorem Qz{L:Ä D3}(u:L.Pairwise Ïa){d e:D3}(hd:d∈L)(he:e∈L)(z:nmK d=nmK e):d=e:=by
 ext ÏN hd he;ext ÎS z z.symm
def An Ì2(i:Nat):Prop:=∃e∈R,e.1=i/\am e.2.1 e.1=bh d i/\leC e.2.1 d.2.1
theorem vP(Ãi z Int):nmK e=[Ó (É i),Ó z]↔e.1=i/\am e.2.1 e.1=z:=by
 unfold nmK;ext Ãm
 .intro h;ext Ék h h1 h2 h3;ext ÂV h1;ext ÂV h3;exact#[Ðo h1 h1.symm,h3]
 .rintro⟨rfl,rfl⟩;rfl
theorem En{R:Ä D3}Óo{d:D3}{i:Nat}:nV R d i=true↔An R d i:=by
 unfold nV;cases hf:Ñm e e ÐT with
 |none =>
  ext Ãm
  .intro h;cases h
  .rintro⟨e,he,e1,e2,_⟩;have:=YM.mp hf e he;show ĕ (vP.mpr #[e1,e2]) (û this)
 |some x =>
  ext ě hm YW hf hq List.find?_some hf;have hx:=vP.mp (Z5 hq);ext Ãm
  .intro h;exact#[x,hm,hx.1,hx.2,xa.mp h]
  .rintro⟨e,he,e1,e2,e3⟩;have:x=e:=Qz u hm he ((vP.mpr hx).trans (vP.mpr #[e1,e2]).symm);rw[this];exact xa.mpr e3
theorem Em à{R:Ä D3}Óo{d:D3}(hd:Ák d=n):Ď uh R d↔∀i,i<n->bh d i>0->An R d i:=by
 unfold uh asks;rw[Z9];ext Ãm
 .intro h i hi hl;exact(En u).mp (h i (ZS.mpr #[Yh.mpr (ÀL Âh hi hd.symm),decide_eq_true hl]))
 .intro h i hi;exists Ãn,ZS.mp hi;exact(En u).mpr (h i (by have:=Yh.mp h1;ext Âh this hd) (Z5 h2))
def own(d:D3):Int:=Â7 ý
theorem vQ:nm3 d=nm3 e↔ý=e.1/\own d=own e:=by
 ext Ãm
 .intro h;have h1:É (ý:Nat)=(e.1:Int):=ZZ Prod.fst h;exact#[Ðo h1 h1.symm,ZZ Prod.snd h]
 .rintro⟨h1,h2⟩;exact Prod.ext (ZZ Int.ofNat h1) h2
theorem Ce:nmK d=nmK e↔nm3 d=nm3 e:=#[λ h=>jZ h,λ h=>ZZ nk h]
theorem Hist.one à Ô4(z:nm3 d=nm3 e):d=e:=by
 ext ÏN hd he;have u:=h.uni;ext ÎS z z.symm
theorem xK(d:D3)(i:Nat):bh d i<=Â7 i:=by unfold bh;split<;>omega
theorem jD(d:D3):bh d ý=own d-1:=by unfold bh;rw[XC rfl];rfl
theorem sw à Ô4(le:∀i,am e.2.1 i<=bh d i):Âe e<Âe d:=by
 have l1:=(h.len d hd)
 have l2:=(h.len e he)
 refine J0 (k:=ý) (by rw[l1.1,l2.1]) (ÙB le d) (by rw[l2.1];exact l1.2) ? _;have:=le ý;ext Â5 jD;ext Ĝ own this;exact ô Ć Ê (ÿ Ç (ϓ d Ê) .z) ÂA this
theorem Hist.chain à(h:Hist n L):∀(m:Nat) {d e:D3},d∈L->e∈L->ý=e.1->own d+É m+1=own e->Âe d<Âe e:=by
 intro m;induction m with
 |zero =>ext äL;exists[x,x1,x2,x3,x4],h.clo e he e.1 (h.len e he).2 (by show 0<bh e e.1;rw[jD];exact ô Âc (.d Ç đ) (ÿ đ Ê (Ĩ (ϓ p (À9 1 (.c č))) Ç)) ÂA od (Int.le_of_eq ho));ext â4;obtain rfl:=h.one hd x1 (vQ.mpr #[ÖQ hh hh.symm,(by exact Int.le_antisymm (Ó1 Ç (ÿ (ϓ d Ô) Ê (Ĩ (ϓ p (À9 0 (.c č))) Ô)) [] (Int.le_of_eq ho)) (ô Ç Ê (ÿ Ç (ϓ d Ô) (Ĩ Ô (ϓ p (À9 1 (.c č))))) ÅI (Int.le_of_eq x3) (Int.le_of_eq ho.symm)))]);exact s
 |succ m ih =>ext äL;exists[x,x1,x2,x3,x4],h.clo e he e.1 (h.len e he).2 (by show 0<bh e e.1;rw[jD];exact ô Âc (.d Ç đ) (ÿ đ Ê (Ĩ (ϓ p (À9 1 (.c (Ų a 0)))) Ç)) [_] ď Á3 od (Int.le_of_eq ho));ext â4;exact Int.lt_trans (ih hd x1 (ÖQ hh hh.symm) (by exact Int.le_antisymm (Ó1 (Ã3 (À9 0 η)) (ÿ (ϓ d Ô) Ê (Ĩ (ϓ p (À9 0 (.c (Ų a 0)))) Ô)) [_] (Int.le_of_eq ho)) (ô Ç (Ã3 (À9 1 η)) (ÿ Ç (ϓ d Ô) (Ĩ Ô (ϓ p (À9 1 (.c (Ų a 0)))))) [_] æ Á3 (Int.le_of_eq x3) (Int.le_of_eq ho.symm)))) s
theorem Hist.tri à Ô4(h1:¬kLt d e)(h2:¬kLt e d):d=e:=by
 unfold kLt at h1 h2;have hs:Âe d=Âe e:=∅
 have hh:ý=e.1:=∅
 refine h.one hd he (vQ.mpr (ÁI hh));rcases Int.lt_trichotomy (own d) (own e)with c|c|c
 .have:=h.chain (own e-own d-1).toNat hd he hh (ÚN);exact Int.le_antisymm (ô Ç Ê (ÿ Ć Š) ÂA c) (lin 0 true Ç Ê (ť ÿ 2 (.a 3) (ÁE Ĩ Ô)) [] Ŭ Á3 this (Int.le_of_eq hs.symm))
 .exact c
 .have:=h.chain (own d-own e-1).toNat he hd hh.symm (ÚN);exact Int.le_antisymm (lin 0 true Ç Ê (ť ÿ 2 (.a 3) (ÁE Ĩ Ô)) [] Ŭ Á3 this (Int.le_of_eq hs)) (ô Ç Ê (ÿ Ć Š) ÂA c)
structure Of(A X:L3):Prop where
 sub:∀x∈X,x∈A
 uni:X.Pairwise Èl
theorem Of.perm{A X Y:L3}(o:Of A X)(p:Y.Perm X):Of A Y:=#[ÂG o.sub x (p.mem_iff.mp hx),o.uni.perm p.symm fun{x y} z=>z.symm]
theorem cz(h:x∈A):Ð∈vals A:=Zw.mpr #[ś x h]
theorem sD à Åo:A.Pairwise Èl:=(Yl.mp h.uni).imp λ z e=>z (Ce.mp e)
theorem ve à Åo:Of A A:=#[Á1 h h,sD h]
theorem PR{A:L3}(u:A.Pairwise Èl){x y:ÄG}(hx:x∈A)(hy:y∈A)(z:nmK Ð=ÈH):x=y:=by
 ext ÏN hx hy;ext ÎS z z.symm
theorem Db à{A X S S':L3}Åo ãt(p':S'.Perm X)(ÉN s S)(ÉN s' S'):S=S':=by refine List.Perm.eq_of_pairwise (le:=λ x y=>¬kLt y.2 Ð) (ŗ x y hx hy h1 h2) (Yl.mp s) (Yl.mp s') (p.trans p'.symm);show ÄT hx' o.sub x (p.mem_iff.mp hx) hy' o.sub y (p'.mem_iff.mp hy);refine PR (sD h) hx' hy' ? _;rw[h.tri (cz hx') (cz hy') h2 h1]
def Cn(R:Ä D3):Prop:=∀(Ŏ j m Int),(1<=m/\m<=hZ R j)↔∃e∈R,e.1=j/\own e=m
theorem Cn.nil:Cn []:=λ j m=>#[λ h=>by have:hZ [] j=0:=rfl;omega,fun⟨e,he,_⟩=>Ş he]
theorem ND Ì2(j:Nat):hZ (R++[d]) j=if ý=j then hZ R j+1 else hZ R j:=by
 ext ğ hZ List.countP_append;by_cases c:ý=j
 .rw[XC c,List.countP_cons_of_pos (p:=Úq) (decide_eq_true c)];rfl
 .rw[XB c,List.countP_cons_of_neg (p:=Úq) (û c)];rfl
theorem PU(R:Ä D3)(j:Nat):0<=hZ R j:=Int.natCast_nonneg _
def nF Ė Ì2:Bool:=(Ŷ n all) (ÀF j (bh d j<=hZ R j))
theorem uy à:nF n R d=true↔∀j,j<n->bh d j<=hZ R j:=ÍY ğ nF Z9 #[λ h j hj=>Z5 (h j (Yh.mpr hj)),λ h j hj=>decide_eq_true (h j (Yh.mp hj))]
theorem Cn.add à{d:D3}(c:Cn R)(hd:ý<n)(hl:nF n R d=true)(o:1<=own d)(ni:∀e∈R,nm3 e≠nm3 d):Cn (R++[d]):=by
 have e1:=uy.mp hl ý hd;rw[jD]at e1;have e2:¬own d<=hZ R ý:=λ z=>by exists[e,he,h1,h2],(c ý (own d)).mp #[o,z];exact ni e he (vQ.mpr #[h1,h2])
 intro j m;rw[ND];by_cases cj:ý=j
 .subst cj;rw[XC rfl];ext Ãm
  .rintro⟨h1,h2⟩;by_cases cm:m<=hZ R ý
   .exists[e,he,h],(c ý m).mp #[h1,cm];exact#[e,Y2 _ he,h]
   .exact#[d,ZW _ Zk,rfl,(by exact Int.le_antisymm (ô Ç Ê (ť ÿ 2 Ê (Ĩ (.d Ç đ) Ô)) ÅI (Int.lt_of_not_ge cm) e1) (ô Ç Ê (ÿ Ç (Ų a 2) (ť ÿ 2 Š)) ÅI h2 (Int.lt_of_not_ge e2)))]
  .rintro⟨e,he,h1,h2⟩;ext Á8 he he
   .have:=(c ý m).mpr #[e,he,h1,h2];omega
   .rw[Zg.mp he]at h2;omega
 .rw[XB cj,c j m];ext Ãm
  .rintro⟨e,he,h⟩;exact#[e,Y2 _ he,h]
  .rintro⟨e,he,h⟩;ext Á8 he he
   .exact#[e,he,h]
   .rw[Zg.mp he]at h;exact absurd h.1 cj
theorem KZ à{d:D3}(h:Hist n A)(hR:∀e∈R,e∈A)Óo(c:Cn R)(hd:d∈A):uh R d=nF n R d:=by
 rw[Xt,Em u (h.len d hd).1,uy];ext Ãm
 .intro z j hj;by_cases p:bh d j>0
  .exists[e,he,h1,h2,_],z j hj p;have h2:own e=bh d j:=h2;have:=(c j (own e)).mpr #[e,he,È h1];exact ô Ç Ê (ÿ Ô Ê (Ĩ Ç Ô)) ÅI this.2 (Int.le_of_eq h2.symm)
  .have:=PU R j;exact ô Ç Ê (ÿ č Ê (Ĩ Ç č)) ÂA this (Int.not_lt.mp p)
 .intro z j hj p;exists[e,he,h1,h2],(c j (bh d j)).mp #[p,z j hj];exists[x,x1,x2,x3,x4],h.clo d hd j hj p;have x3:am Ð.1 j=bh d j:=x3;rw[<-x2]at x3;have x3:own x=bh d j:=Àq x2 x3
  obtain rfl:=h.one (hR e he) x1 (vQ.mpr #[ÖQ h1 h1.symm,(by exact Int.le_antisymm (Ó1 Ç (ÿ Ô Ê (Ĩ Ç Ô)) [] (Int.le_of_eq h2)) (ô Ç Ê (ÿ Ç Ô (ÿ Ô Š)) ÅI (Int.le_of_eq x3) (Int.le_of_eq h2.symm)))]);exact#[e,he,h1,h2,ÙB x4 d]
def xI(Â3 R L3)(x:ÄG):L3:=if nF n (vals R) Ð=true then R++[x]else R
def dE(Â3 S L3)À1:L3:=àQ (xI n)
theorem nE à ĉ(h:S[k]?=Ã x):dE n S Ρ=xI n (dE n S k) x:=by unfold dE;rw[bM h,List.foldl_append];rfl
theorem Dx(A B:L3):vals (A++B)=vals A++vals B:=Zy
theorem xJ à Åo(o:Of A S):∀k,k<=S.length->cM S k=dE n S k/\Cn (vals (cM S k)):=by
 intro k;induction k with
 |zero=>exact ę #[Ì Cn.nil]
 |succ k ih =>
  intro hk;exists[i1,i2],ih (Xx hk);have hx:Èu S k:=Ze hk;have mS:S[k]∈S:=ZD hk;have mA:=o.sub _ mS;have sb:=iK S k (Xx hk);have uS:(vals (cM S k)).Pairwise Ïa:=Yl.mpr ((o.uni.sublist (Æ8)).sublist sb);have inA:∀e∈vals (cM S k),e∈vals A:=λ e he=>by ext ż y hy he;exact cz (o.sub y ((Æ8).subset (sb.subset hy)))
  have la:=KZ h inA uS i2 (cz mA);rw[mW hk,nE hx,<-i1];unfold qQ xI;rw[la];by_cases c:nF n (vals (cM S k)) S[k].2=true
  .rw[XC c];refine Åz;rw[Dx];refine i2.add (h.len _ (cz mA)).2 c (h.fit _ (cz mA)).own (Ú e he z);ext ż y hy he;exists[i,hi,e1],Z1.mp (sb.subset hy);rw[ZJ]at hi;rw[List.getElem_take]at e1;have u:=o.uni;rw[ZR]at u;refine u i k ∅ hk ∅ ? _;rw[e1];exact Ce.mpr z
  .rw[XB c];exact#[Ì i2]
theorem El à Åo(ÉN s A):∀k,k<=A.length->cM A k=A.take k:=by
 intro k;induction k with
 |zero=>exact λ _=>ό List.take_zero
 |succ k ih =>
  intro hk;have ih:=ih (Xx hk);have hx:Èu A k:=Ze hk;rw[mW hk,ih,bM hx];unfold qQ;ext Ħ XC;have mA:=ZD hk;have uS:(vals (A.take k)).Pairwise Ïa:=Yl.mpr ((sD h).sublist (Æ8));rw[Em uS (h.len _ (cz mA)).1];intro j hj p;exists[x,x1,x2,x3,x4],h.clo _ (cz mA) j hj p;have x3:am Ð.1 j=bh A[k].2 j:=x3;refine#[x,? _,x2,Ă x2 x3,ÙB x4 _];have sm:=sw h (cz mA) x1 x4;ext ż y hy x1;ext Ïv hy;have s:=Yl.mp s;rw[ZR]at s;have ik:i<k:=by
   rcases Nat.lt_trichotomy i k with c|c|c
   .exact c
   .subst c;exact lin 0 false Ć Ç (ť Ĩ 0 Ç) Æ3 sm
   .show ĕ (Ó sm) (s k i hk hi c)
  exact cz (Z1.mpr #[i,Ż ZJ,by rw[List.getElem_take]])
theorem OX à{A X S:L3}Åo ãt(ÉN s S):∀M',RDY X M'->M'=dE n S S.length:=λ M' ⟨S',p',s',e⟩=>by obtain rfl:=Db h o p p' s s';rw[e];exact(xJ h (o.perm p) _ (Zf _)).1
theorem E4 à{A X:L3}Åo(ÉN s A)(p:X.Perm A):AllR X A:=#[λ M' ⟨S',p',s',e⟩=>by
 obtain rfl:=Db h (ve h) (.refl A) (p'.trans p) s s';rw[e,El h s _ (Zf _),ZO],p.symm]
theorem Mn à Åo(ÉN s A):∀x∈A,ÙA A:=λ x hx=>by have c:=(xJ h (ve h) _ (Zf _)).2;rw[El h s _ (Zf _),ZO]at c;have:=(c Ð.1 (own Ð)).mpr #[Ð,cz hx,î];ext Ħ decide_eq_true;show am (cR n (vals A)) ((Ð.1:Nat):Int).toNat>=own Ð;rw[ZP,jC (h.len _ (cz hx)).2];exact this.2
abbrev kL:Stmt:=ž 51 8
abbrev zQ:Ä Str:=["self"]
theorem yA:ŀ zQ "self" kL:= ñ
theorem xT(F:é "names" "Plain.names" kL)(T:Txt K C)(i9:Ē "list"):ă 1 ύ (spNames C):=by
 show ĩ yA [p,d,g,kvs,gvs,rfl,S,q];ext Á5 S;refine#[_,(b_1 (au (oq (Ep rfl) i9 iU (ð (bj ü))))),? _];exact#[γ,Ãx,ś d kvs,Ó h2,λ l ks hl hk=>q l ks hl hk]
inductive Gn(ol:Ol)(gs:As Unit):Nat->Æ0 Nm Bool
 |none:Gn ol gs 0 none false
 |hit {n:Nm} (h:Ő gs n):Gn ol gs 0 (Ù n) true
 |up ĉ ßP (h:ϗ look gs n=false) (l:Κ) (c:Gn ol gs k it.up b):Gn ol gs Ρ (Ù n) b
theorem Ch.gn ĉ(h:Ch ol k u)(gs:As Unit):∃j b,Gn ol gs j u b:=by
 induction h with
 |none=>exact#[0,false,.none]
 |@up k n it hl _ ih =>
  cases c:ϗ look gs n with
  |true=>exact#[0,true,.hit c]
  |false =>show þ [j,b,g] ih #[j+1,b,.up c hl g]
theorem Gn.det(ş k k')Ýp(g:Gn ol gs k' u b'):b=b':=by
 induction h generalizing k' b' with
 |none=>ext ϖ g
 |hit h =>
  cases g with
  |hit=>rfl
  |up h'=>ext è h h' h'
 |up h l _ ih =>
  cases g with
  |hit h'=>ext è h h' h'
  |up h' l' c' =>ext è l l' l';exact ih c'
noncomputable def AG(ol:Ol)(gs:As Unit)(u:Option Nm):Bool:=@decide (∃k,Gn ol gs k u true) (Classical.propDecidable _)
theorem Gn.is{ol:Ol}{gs:As Unit}ĉ{u:Option Nm}{b:Bool}Ýp:AG ol gs u=b:=by
 unfold AG;cases b with
 |true=>exact ÐD decide_eq_true #[k,h]
 |false=>exact ÐD decide_eq_false fun⟨j,g⟩=>by cases h.det g
inductive spGone Ĥ(vs:X1)Ë À2:Prop
 |mk Ã4 (gs:As Unit) (v:V) (n:Nm) (Ŏ k b Bool) (h0:vs=[Æ p,v]) (h1:ÀB OlAt) (h2:GoneAt H g gs) (h3:œ v n) (h4:Gn ol gs k (Ù n) b) (h5:Äz b):ÁC spGone
abbrev jq:Stmt:=ž 51 13
abbrev uW:Ä Str:=["self","name","above"]
theorem iQ:Ŵ uW "self" "name" jq:= ñ
theorem uF(F:é "is_gone" "Plain.is_gone" jq)(T:Txt K C)(u5:Â6 "UP" 0 tk):ă 1 Æu (spGone C):=by
 exists iQ
 obtain⟨p,d,g,ol,gs,v,n,k,b,rfl,⟨kvs,gvs,S,R⟩,⟨gvs',hg,Rg⟩,hn,gn,q⟩:=h;ext Á5 S;exists _,(b_c (Ĕ 2 iQ.nd ä)
   (b_c (yr ZU (t_w (hJ (aE kf Ū cQ) (gN (Ça jK 2)))) (b_1 (Ĕ 2 iQ.nd (ÖC 2 u5))))
   (b_1 (au (cP kf Ū cQ)))))
 refine Àk;refine#[ãM Gn gs [Ö p,Ľ,Ã u],#[È k,v,Γ,ś hn gn],? _];rintro m Z H' ⟨rfl,u,one,hu,gn,rfl⟩;cases gn with
 |none =>ext ÇS u hu;refine#[ŭ,jR rfl (aF ? _)];exact#[Å,Ì q]
 |@hit n hh =>ext ÁJ ub hub hu;show Ìw å5;rw[gY Rg,hh];ext Ħ aF;exact#[Å,Ì q]
 |@up m n it _ hh hl ch =>
  ext ÁJ ub hub hu;exists Æf pv,bw R hl;show Ìw å5;rw[gY Rg,hh];show ÄY aP #[λ Z H2=>H2=H'/\Z=[Ö p,Ľ,Ã uv],Χ]
  ext áe ch
def itD(it:It):XZ:=.tuple [upD it.up,plD it.pl,Î it.tx,.bool it.dn,whD it.wh,.bool it.fo]
noncomputable def flD(ol:Ol)(gs:As Unit)Í3:XZ:=.tuple [nmD ö,itD Ð,.bool (AG ol gs (some ö))]
theorem SR{it:It}(h:ItAt H v it):Dt H (itD it) v:=by ext É8 a uv pv rfl h;exact gP h1 (bG (wY h2) (bG (GI h3) (bG (jd _) (bG (vt _) (ÄD bG AU _ vt _ jb)))))
theorem Ql{it:It}(ÆL h it.tx):Äv itD it/\ÌL itD it 2:=by ext ě u jY it.up p rE it.pl;show Å5 w rF it.wh #[by simp[itD,PyData.canLay0,PyData.canLayAll0,u.1,p.1,w.1,h],? _];simp only[itD,PyData.depth,PyData.depthAll,Ĺ,w.2];omega
def FlAt(ol:Ol)(gs:As Unit)Ë(v:V)Í3:Prop:=∃a nv iv,ÄU/\H a=Ã (Ò [nv,iv,.bl (AG ol gs (some ö))])/\Äs nv x/\ItAt H iv Ð
theorem FlAt.ts(h:FlAt ol gs H v x)(s:TS H H'):FlAt ol gs H' v x:=Ëm a nv iv h s h3.ts'
theorem Iq Ο(hl:ĺ H l vs)(x:Paired (FlAt ol gs H) vs ol)(tx:∀y∈ol,Í0 y):Ó5 (.list (ol.map (flD ol gs))):=uB hl x λ v r hr h=>by ext É8 a nv iv rfl h;have l1:=eV r.1;have l2:=Ql (tx r hr);refine#[gP h1 (bG (jk h2) (ÄD bG SR h3 vt _ jb)),by simp[flD,PyData.canLay0,PyData.canLayAll0,l1.1,l2.1],? _];simp only[flD,PyData.depth,PyData.depthAll,l1.2];omega
inductive spFields Ĥ(vs:X1)Ë(Q:VK)(E:XK):Prop
 |mk Ã4 (gs:As Unit) ÆA Íz (ÆZ h4) (h5:∀n it,Κ->∃k b,Gn ol gs k (Ù n) b) (q:∀l vs H',ó->ÐK l vs Paired (FlAt ol gs H') vs ol):spFields C vs H Q E
abbrev uL:Stmt:=top 94
abbrev Kg:Ä Str:=["_law_plain"]
theorem JM:ŀ Kg "_law_plain" uL:= ñ
theorem Jb(F:é "_law_fields" "_law_fields" uL)(Wu:Ι 1 C "names" ύ (spNames C))(WL:Ι 1 C "item" Æu (spItem C))(VO:Ι 1 C "is_gone" Æu (spGone C)):ă 2 ["_law_plain"] (spFields C):=by
 show ĩ JM [p,d,g,ol,gs,rfl,O,G,l63,nd,gn,q];ext ÑU O;ext Á5 S;exists _,(b_1 (au (Ì5 ["_law_name"] (ÅP [0] ["_law_plain"]) (bc (bP Wu ς)) (ÆF "_law_name" "_law_plain") Àe (Ĭ fj) (λ _ _ _ _=>(aJ (ŏ 0 (ņ (ÃE WL ä (Ğ 0)) (ð (ÃE VO ä (Ğ 0))))))))))
 refine#[Ν p dx h1 di,ÂJ,kvs,È gvs,S,Č l ks gl kat]
 ext gl H1 wl el
 have ka:=(MQ kat R).ts (XV wl);have lk:=ZC ka;refine#[È l,Æn ks el,? _];refine ÁL bL l (xs:=ks) (Ël ys H1 ys.length (FlAt ol gs H') (ol.take i)) ∅ Çk (λ i ys H' z=>ÔO el) Ĳ
 .rintro i ys H' x hx ⟨sm,ly,pa⟩ Y hY;ext ÌZ ka i x hx;have s0:=wl.trans sm;have lm:=gE nd hm;exists[iv,e1,hi'],bw (õ R.ts s0) lm;exists[k,b,hg],gn Â lm;have hn':=õ hn.ts' sm;refine#[Ü,p,ÙZ s0 h1,kvs,gvs,x,iv,nk m.1,rfl,S.same s0,hn',e1,γ,ÙZ s0 h1,ol,gs,x,m.1,ś k b,O.same s0,G.same s0,hn',hg,sz rfl,λ t gt=>hY ÁZ];have wt:=af gt (Ò [x,iv,.bl b]);refine Ê9 wt ly;rw[bM hm];exact YR (Ϡ pa z z.ts (XV wt)) #[t,x,È iv,Ă hg.is ad,õ hn'.ts' wt,õ hi'.ts wt]
 rintro ys l2 H2 ⟨sm,ly,pa⟩ g2;rw[<-lk,ZO]at pa;have w2:=af g2 (Õ ys);exact q l2 ys _ (wl.trans (sm.trans w2)) ad (Ϡ pa z z.ts (XV w2))
inductive spLack ÂX:Prop
 |mk (l:XH) Ė (X:L3) (h0:vs=ÈY l (É n)) (h1:LR3 H l X) (h2:∀x∈X,Êm/\Ð.1<n) (h3:X.length<=63) (h4:1<=n) (h5:n<=8) (q:∀D H' S,S.Perm X->(ÎF vals S)->ó->É2 LR3 D (dE n S S.length) D):spLack vs H Q E
theorem ux à(S:L3):∀k,k<=S.length->Âa dE n S k<=k
 |0,_=>Zf _
 |k+1,hk=>by
  rw[nE (Ze hk)];have:=ux (n:=n) S k (Xx hk);unfold xI;split
  .rw[Zm,y9];exact ĵ (ã 1) ϊ ď this
  .exact â Ç (ã 1) ϊ ď this
theorem qr à(S:L3):∀k,k<=S.length->∀x∈dE n S k,x∈S
 |0,_,_,h=>Ş h
 |k+1,hk,x,h=>by
  rw[nE (Ze hk)]at h;ext Ĝ xI h;split at h
  .ext Á8 h h
   .exact qr S k (Xx hk) x h
   .ext χ Zg.mp h ZD hk
  .exact qr S k (Xx hk) x h
abbrev rX:Stmt:=top 95
abbrev HG:Ä Str:=["_law_some","_law_hands","_law_counts","_law_ready","_law_deed","_law_lacks"]
theorem jw:Ŵ HG "_law_some" "_law_hands" rX:= ñ
theorem GB(F:é "_law_lacking" "_law_lacking" rX)àl(c8:Ē "sorted")(j4:Ē "range")(V1:Ē "int"):ă 4 ["_law_some","_law_hands"] spLack:=by
 show ĩ jw [l,n,X,rfl,lr,hX,l63,n1,n8,q];exists _,(b_c (Ĕ 2 jw.nd (aI MX (bX (ð aj)) ä))
   (Âu 3 jw.nd bX ai
   (b_c (cW ZU rfl (bc (CA rfl c8 UR ↑99 (Ğ 0))) (ÁX 4 jw.nd) (b_c (Èe 5 jw.nd "_law_j" (ËW 4 2 "_law_deed" "_law_counts") rfl Øy (ÃV (Àn ["_law_j","_law_deed","_law_counts"])) Àe (ÄM _ (nX (aE Ck (aI sY (ar (Λ jB rfl) (ar (Λ jB rfl) ä aj) ü) (oq Su V1 Bq (ð (cP bW ü (ar (È4 jB) ä aj))))) (ar (Λ iY rfl) ↑2 ü)))) (Ĭ ü))
   (b_1 (aM (aE (Λ ET rfl hr.units) ↑5 (bX ai)) (b_c (GR (aI eW (ar cJ Ū (ħ 4)) aj) (F9 Ū (ħ 4) G4))
   (b_1 (bK (iF ↑3 ↑4)))) b_0))))
   (Ê3 3))))
 show ϐ #[sz rfl,λ pz gz=>#[Å,pz,É n,Å,Ì ad,ÆG,? _,λ c gc=>ł]]
 .exact cX (Ż y9)
 have w1:=af gz (Õ [V.int 0]);have w2:=w1.trans (af gc Ôx);have fc:á c:=w1.free gc;have ec:upd (ø pz (.lst [Í 0])) c Ôx c=some (Õ (Çy (vals []))):=by rw[ad,ZP,uK,<-Et];rfl
 have lr1:=lr.same w2;generalize upd (ø pz (.lst [Í 0])) c Ôx=H1 at w2 ec lr1 ⊢;ext Áy;show ÃB #[sz rfl,λ r gr=>ł] w3 gr ń;have er:ß H1 r ń r=some (Õ (ax [])):=ad;have fr:á r:=w2.free gr;ext Ÿ ncr c r gr ec
 ext ŧ ec3 w3 ec;ext ě lr3 lr1.same w3 S3 w2.trans w3;generalize ß H1 r ń=H3 at er ec3 lr3 S3 ⊢;ext Áy;refine#[Å,l,ax X,X.map (λ x=>ZKey.t [Âe Ð,(Ð.1:Int)]),rfl,Ó lr3.1,by rw[aH];exact ĵ (.n 64) (ć ÎV) [_] l63,ÏI aH inr s' hR,Ã0 pm H4 D pok ls s4 _ gD]
 .show ż x _ hk;exact#[Å,Ĵ]
 .ext Õn;exact Ø4 lr3 (XV s') a e hR #[È a,e]
 ext ÝY;generalize(pm.toList.map λ i=>X.getD i (0,0,[],.none))=S at pe so ⊢;have wD:=s4.trans (af gD (Ϟ S));ext Èj eD H4 D Ϟ S some;have S5:=S3.trans wD;ext Ä3 ec5 wD ec3 er5 er;have drS:∀x∈S,DA (ß H4 D (Ϟ S)) ö Ð:=Þc lr3 (XV wD);have fD:á D:=(S3.trans s4).free gD;have nDc:D≠c:=åg ec3
 have nDr:D≠r:=åg er
 generalize ß H4 D (Ϟ S)=H5 at eD S5 ec5 er5 drS ⊢;have lS:S.length<=63:=Ă pe.length_eq l63
 refine#[Áe D eD];refine ÁL fz D (xs:=ax S) (λ i Z H'=>ó/\TS H5 H'/\Į H' D (Ϟ S)/\Į H' c (Õ (Ñp))/\Į H' r ßi/\∃o4 o5,Z=[Ö l,Ã (Áu n),Ö c,Ö r,o4,o5]) #[S5,Η e e,eD,ec5,er5,none,È none] (λ i Z H' _ z=>XX z.2.2.1) Ĳ
 .ext ÌQ sm ts eD' ec' er' o4 o5;ext Êl my;have hi:i<S.length:=Àg hy;have dy:=(drS y my).ts ts;exists[cl,wv,d1,d2,d3,d4,d5],id dy;exists[ln,hn],hX y (pe.mem_iff.mp my);have lk:=ux (n:=n) S i ∅;ext ÄX;refine#[Ü,ÆG,? _];refine rg (N:=n) (λ j ys H2=>H2=H'/\ys.length<=j/\(ys=[]↔∀m,m<j->bh y.2 m<=hZ Ér m)) ∅ (λ j ys H2 z=>z.2.1) #[rfl,Zf _,#[λ _ m hm=>absurd hm (Ãq (ËR (ť ĝ 0 č .z) q)),ę rfl]] (Ķ j ys H2 hj _) (Ú ys H2 _) (λ j ys H2 x H3 hj ⟨e2,lj,ij⟩ y2 Y hY=>? _) (Ķ ys p H2 ⟨e2,lj,ij⟩ gp)
  .show j<(É n).toNat;exact ĵ Ê (Àb (.h 1 true (.c Ô) ÐH)) æ hj (Int.self_le_toNat _)
  .show(É n).toNat<=n;exact ŝ Õt (Int.le_of_eq (Int.toNat_of_nonneg (ô č η Ζ)))
  .ext ĭ rfl y2;subst e2;have e1:atI (y.2.2.1.map V.int) (0+É j)=Ã (Í (am y.2.2.1 j)):=ÄL Int.zero_add gF (ÀL Âh hj ln.symm)
   have e2:atI (Ñp) (0+É j)=some (Í (hZ Ér j)):=by rw[Int.zero_add,<-jC hj];exact ÁG gF cY hj
   refine Át d1 at1 #[ÀH cl,XW d2,ù e1,Át d1 at0 #[rfl,ā #[ÂD,? _]]];have el:am y.2.2.1 j-(if ú decide (V.int (0+É j)=V.int (y.2.1:Int)) then 1 else 0)=bh y.2 j:=by
    unfold bh;by_cases z:j=y.2.1
    .rw[XC z,XC (by rw[Int.zero_add,z];exact decide_eq_true rfl)]
    .rw[XB z,XB (by
      rw[decide_eq_true_iff];intro y;ext ÂV y;omega),Int.sub_zero]
   try ext ň
   rw[el];refine#[Ü,c,τ,XX ec',e2,_,ŭ,Ám nY hc' hc']
   .refine#[Å,ÀM #[rfl,Ŕ Zm y7 lj,#[ÅE z z Û,ÅE z (z j ∅) (ÁU (Àd (ÿ Ç Ê (ť Ĩ 1 Ç)) ÂA q hc'))]]]
   .refine ÀM #[rfl,ÄV lj,#[Ú z m hm,λ z=>ij.mpr λ m hm=>z m (ÔF hm)]];ext å cm m j
    .rw[cm];exact ô Ç Ê Ìu ÂA (Int.not_lt.mp hc')
    .exact ij.mp z m ∅
  subst e2;have wp:=af gp (Õ ys);refine ÄS;ext Èj ep H2 p Õ ys Ã;show ě sm2 sm.trans wp ts2 ts.trans (XV wp);ext Ä3 eD2 wp eD' ec2 ec';ext Ä3 er2 wp er' d12 d1;have nil:(ys=[])↔nF n Ér y.2=true:=ij.trans uy.symm;generalize (ψ H2 p ys)=H6 at ep sm2 ts2 eD2 ec2 er2 d12 ⊢;have es:=nE (n:=n) hy;ext Ĝ xI es;show ÃB #[Å,Ċ p2 gp2] w6 gp2 ń;refine#[p,p2,È ys,rfl,À7 XX w6 ep,XX ad,ţ];show ě S7 sm2.trans w6 ts7 ts2.trans (XV w6);ext Ä3 eD7 w6 eD2 ec7 ec2;ext Ä3 er7 w6 er2 d17 d12;generalize ß H6 p2 ń=H7 at S7 ts7 eD7 ec7 er7 d17 ⊢;by_cases c0:nF n Ér y.2=true
  .rw[XC c0]at es;rw[nil.mpr c0];ext Ħ aP;have hcell:atI (Ñp) (y.2.1:Int)=some (Í (am (cR n Ér) y.2.1)):=ÁG gF cY hn;ext ÄX;refine#[Å,Át d17 at0 #[c,τ,XX ec7,hcell,_,ŭ,Át d17 at0 #[c,_,_,y.2.1,î,ec7,? _,ÄS]]]
   .unfold ixN;rw[Za,cY,XC (by exact ô č η Ζ),XC (Àz Äo hn)];rfl
   have eu:(Ñp).set y.2.1 (Í (am (cR n Ér) y.2.1+1))=Ùn:=by rw[es,Dx,<-List.map_set,<-ÁG wB cY hn];exact ZZ _ (HW hn)
   rw[eu];have t8:TS H7 (ß H7 c (Õ (Ùn))):=iC λ zs e=>Ϝ ec7 e
   have er8:ß H7 c (Õ (Ùn)) r=some ßi:=Ī ncr.symm er7
   refine#[Ån er8,Å,r,Àw,Ì er8,bo (Ż aH),ÄQ #[Χ,Χ,? _,Àw]]
   .exact cD (cD S7 fc) fr
   .exact(ts7.trans t8).trans (iC λ zs e=>Ϝ er8 e)
   .rw[ah nDr,ah nDc];exact eD7
   .rw[ah ncr,ad]
   .rw[ad,es];ext ğ ax Zy;rfl
  .rw[XB c0]at es;have ne:ys≠[]:=ÃF c0 nil.mp;have em:Ũ ys.isEmpty:=by
    cases ys with
    |nil=>ext ĕ rfl ne
    |cons _ _=>rfl
   rw[em];refine aF (ÄQ #[S7,ts7,eD7,? _,? _,Àw])
   .ext Œ es ec7
   .ext Œ es er7
 rintro Z H' ⟨sm,ts,eD',ec',er',o4,o5,rfl⟩;rw[aH]at er';refine hR0 Â #[Å,q r H' S pe so sm #[er',Èh drS (qr S _ (Zf _) x hx) ts]]
theorem NL(h:dh p n=dh q m):p=q/\n=m:=by
 induction p generalizing q with
 |nil =>
  cases q with
  |nil =>rw[dh,dh]at h;exact#[rfl,(List.cons.inj h).2]
  |cons b q =>rw[dh,dh]at h;exact absurd (List.cons.inj h).1 ⋯
 |cons a p ih =>
  cases q with
  |nil =>rw[dh,dh]at h;exact absurd (List.cons.inj h).1 ⋯
  |cons b q =>rw[dh,dh]at h;exists Ãn,List.cons.inj (List.cons.inj h).2;exists[h3,h4],ih h2;exact#[ÀK h1 h3,h4]
theorem EL:∀{a b:XQ},Ņ HT.lexLt a b->Ņ HT.lexLt b a->a=b
 | [],[],_,_=>rfl
 | [],Δ,h,_=>Ϝ HT.lexLt_nil_cons h
 |Δ,[],_,h=>Ϝ HT.lexLt_nil_cons h
 |x::a,y::b,h,g=>by
  rw[HT.lexLt_cons]at h g;ext å z x y
  .subst z;rw[XC rfl]at h g;rw[EL h g]
  .rw[XB z]at h;rw[XB (Z7 z)]at g;ext ě h Xs h g Xs g;omega
theorem N9(h:(kyP x).nums=(kyP y).nums):ö=y.1:=by have h:dh x.2.pl [ö.1,ö.2]=dh y.2.pl [y.1.1,y.1.2]:=h;exists[_,h],NL h;ext Ék h h1 h2 h2;exact Prod.ext h1 h2
theorem Oh{ol:Ol}(ÆZ nd)(hx:x∈ol)(hy:y∈ol)(h:ö=y.1):x=y:=Cc nd hx hy h
theorem Ha{ol M M':Ol}(ÆZ nd)(p:M.Perm ol)(p':M'.Perm ol)(s:M.Pairwise leP)(s':M'.Pairwise leP):M=M':=by refine List.Perm.eq_of_pairwise (le:=leP) (ŗ a b ha hb h1 h2) s s' (p.trans p'.symm);exact Oh nd (p.mem_iff.mp ha) (p'.mem_iff.mp hb) (N9 (EL h2 h1))
theorem Dfs.one{st out out':Ä DI}(ş k k')Ìp(g:Dfs M st out' k'):out=out':=by
 induction h generalizing out' k' with
 |nil=>ext ϖ g
 |cons _ ih =>
  cases g with
  |cons g=>rw[ih g]
def mV(ol:Ol):Prop:=∀n it,Κ->ÁY it.tx
theorem fR{i:It}(h:mV ol)(ÆL hi i.tx):mV (aK ol n i):=λ x it hx=>by
 rw[aG]at hx;ext å c x n
 .ext ώ XC c hx;exact hi
 .rw[XB c]at hx;exact h x it hx
theorem Sl(ap:Ap ol s ol')(h:mV ol)(ok:s.ok):mV ol':=by
 cases ap with
 |put=>exact fR h ok
 |move hl=>ext Ò0
 |write hl=>exact fR h ok
 |mark hl=>ext Ò0
 |due hl=>ext Ò0
 |fold hl=>ext Ò0
 |part hl=>exact fR (fR h (À7 Ib h hl)) (À7 Ib h hl)
 |gone=>exact h
 |@join n m itn itm _ hn hm j =>
  exists[itm2,h1,h2],j.lk;intro x it hx;ext Ê5 h2 hx i hi;have:mV (ÍP):=fR (fR h (Cr (h Â hn) (h Â hm))) (ÍA "");have e:(dG n m i).tx=i.tx:=Ñq dG
  rw[e];exact this x i hi
theorem OlAt.kt(x:ÀB OlAt)(s:KT H H'):ÀS OlAt ol:=by obtain⟨kvs,gvs,⟨⟨dx,h1⟩,h2,h3,h4⟩,R⟩:=x;exact#[kvs,gvs,#[ÙW,Ģ h2 nofun,Ģ h3 nofun,h4],R.ts s.ts]
theorem GoneAt.kt(x:GoneAt H g gs)(s:KT H H'):GoneAt H' g gs:=Äp gvs #[gvs,Ģ h1 nofun,h2]
theorem Dr:∀(δ ss Sd ol Ol),iZ Φ ol ss->(∀s∈ss,s.ok)->mV ol->∃e,Φ e/\mV e
 | [],ol,h,_,t=>#[ol,h,t]
 |s::ss,ol,⟨_,_,hh,_,nx⟩,ok,t=>by exists[ol',ap],MC hh;exact Dr (nx ol' ap) (ν x hx ok) (Sl ap t (ok s Zk))
theorem TY à(R:RnK L W n e)(dok:∀x∈L,DOk Ð.2.2)(h:Bm L W e ol):mV ol:=by
 ext ÑY;have lL:=R.tk.len;have nod:=R.tk.nod;have ok:∀d∈aT L,DOk d.2:=λ d hd=>by ext ż x hx hd;exact dok x hx
 have g0:Gk [] (aT L):=âq #[ok,Η _ rfl,(Yl.mp nod).imp λ z _ _=>z] (Ñ Ê (.n 63) ϊ) lL (Nat.le_of_eq ll) (.h 5 false Ê (.n 63) (.h 5 false Ç Š))
 exists[rs,run],gI gQ (ts:=aO (aT L)) (tn:=bp (aT L)) g0;exists[o,h1,h2],Dr (R.tk.steps rs run) (λ s hs=>by
  ext ż r hr hs;exact Mf (O6 run ok) r hr) λ n it hl=>Ş hl
 rw[lB R h1 h];exact h2
def rpD(r:Rp):XZ:=.tuple [nmD r.1,.str ĳ,upD ÃJ]
theorem Nb(h:RpAt H v r)(ok:PyData.strOk ĳ=true):Dt H (rpD r) v/\Äv rpD r/\ÌL rpD r 3:=by
 ext É8 t nv bv rfl h;have u:=jY ÃJ;refine#[gP h1 (bG (jk h2) (ÄD bG jd _ wY h3 jb)),Χ]
 .simp[rpD,PyData.canLay0,PyData.canLayAll0,(eV r.1).1,ok,u.1]
 .simp only[rpD,PyData.depth,PyData.depthAll,(eV r.1).2];omega
theorem RP{L:L3}(h:Ñi ov)(h':Ñi ov'):CG ol ov L W=CG ol ov' L W:=YT λ z _=>O0 (Q4 h h' _)
theorem E6 à(R:RnK L W n e):∀r∈CG ol ov L W,PyData.strOk ĳ=true:=λ r hr=>by ext ż z hz hr;exact RQ (R.wd z hz).ok
inductive spSame Æb ÂX:Prop
 |mk (h p d l:XH) Ëv (L M:L3) ÌO (e:Ol) (Ål h l) Ë6 (h4:RnK M W n e) (h5:LR3 H l M) (h6:∀x∈M,DOk Ð.2.2) (h7:M.length<=62) (q:∀H',KT H H'->Tabs T R H'->Q ÉT):ÈJ spSame Q E
abbrev CT:Stmt:=top 96
abbrev PF:Ä Str:=["_law_hand","_law_deeds_here","_law_plain","_law_mine"]
theorem yE:Ŵ PF "_law_hand" "_law_deeds_here" CT:= ñ
theorem Oo(F:é "_law_same" "_law_same" CT)(l7:ÂW 11 "outline_of" (spOutl CP))(pi:ÂW 10 "report_of" spReportG)(Vw:Ŀ 2 "_law_fields" ["_law_plain"] (spFields CP))(Vx:Ι 12 CH "outline" ύ (spHOutl CH CS CP T R))(n6:Ι 7 CH Ùx (ÂF spHReady))(VP:Ι 11 CH "report" ύ (ÂF spHRep))(Wq:Ι 7 CP "rows" ύ (spRows CP R))(i9:Ē "list"):ă 13 ["_law_hand","_law_deeds_here"] (ÂF spSame):=by
 show ĩ yE [h,p,d,l,n,me,L,M,W,e,rfl,S0,tb0,hM,RK,lr0,dok,l62,q];exists _,(b_c (Ĕ 2 yE.nd (ī l7 (ð (oq HR i9 iU (Ğ 1)))))
   (b_c (Ĕ 3 yE.nd (bP Vx ς))
   (b_c (aM (t_w (jN (aE (vW hr.units) (bP n6 ς) ä) (jN (aE (vW hr.units) (bP Wq ↑99 ↑3) (bP Wq ↑99 Ū)) (jV (aE (vW hr.units) (ϕ Vw 3) (ϕ Vw 2)))))) ÉZ)
   (b_1 (au (cP (sX hr.units) (bP VP ς) (ī pi (ð (oq HR i9 iU (Ğ 1))))))))))
 have hi:∀o,Bm M W e o->Small o/\∀o',Bm M W e o'->∀x∈gkl (eG o (ϡ bD (M.zip W))),ϗ look o' ö=true:=åf
 ext Áy;show ÃB #[Å,ù l,Ó (XX lr0.1),Ø ph gph] w1 gph (Õ (ax M));refine#[ph,M,W,n,Å,#[ad,ÂG ÈQ lr0 (XV w1)],RK.tk,hi,λ oa ol p1 d1 g1 H1 ha hb s1 O1 G1=>ł];obtain rfl:=lB RK ha hb;show ě K1 KT.of (w1.trans s1) S1 S0.kt K1;show ě tb1 tb0.same (w1.trans s1) lr1 K1.lr lr0;ext Áy;ext ÀE dx e1 S1;refine#[Õp e1,M,W,È e,S1,tb1,hM,RK,λ ob p2 d2 g2 H2 hc k2 tb2 O2 G2=>ł];obtain rfl:=lB RK hb hc;ext ě K2 K1.trans k2 S2 S1.kt k2;ext ě lr2 k2.lr lr1 O12 O1.kt k2;have G12:GoneAt H2 g1 (gnK ob M W):=G1.kt k2;have nd:=RK.nd hc;have ter:Ter ob:=Pl hc.1 RK.ter;have lol:ob.length<=63:=by have h1:=ZZ List.length hc.2;rw[Za]at h1;ext Œ h1 RK.le
 have tx:=TY RK dok hc;have txe:∀y∈ob,Í0 y:=λ y hy=>by exists[j,hj],Yp.mp hy;exact tx Â (gE nd hj)
 generalize gnK ob M W=gs at G12 G2;ext ÀE dx e1 S2;show ϐ #[Ν h dx e1 eU,h,p,d,n,me,L,È M,S2,tb2,hM,Ķ D1 H3 k3 tb3 rd3];ext ě K3 K2.trans k3 S3 S2.kt k3;ext ě lr3 k3.lr lr2 O13 O12.kt k3;ext ě G13 G12.kt k3 O23 O2.kt k3;have G23:=G2.kt k3;exists[ds,t1,t2,t3],EO (M:=M) λ x hx=>#[lr3.2 x hx,dok x hx]
 have dl:∀{b},Į H3 b (Ϟ M)->Dt H3 (.list ds) (Ï b):=λ z=>by unfold Dt;exact#[ù _,Ó z,t1]
 exists[y1,y2],MU (D:=.list ds) (È2 t2) (Ìt (.n 4) (Ì0 3) [_] t3);refine#[Å,_,_,dl rd3.1,dl lr3.1,y1,y1,? _];rw[y2];refine ÅG ? _;exists[kvs2,gvs2,PA2,_],id O23;ext ÀE ex2 f2 PA2;refine#[Å,p2,ex2,Å,f2,oZ Â Åf,p2,d2,g2,ob,È gs,O23,G23,lol,nd,tb3.t2,λ M pe=>Fw nd ter lol pe,λ Ra H4 Ma oua ka rsa pea soa dfa sTa tba gRa eRa raa=>? _];ext ÄT k4 KT.tab tb3.t2 sTa tb4 tb3.sR sTa tba;ext ě K4 K3.trans k4 S4 S3.kt k4;ext ě lr4 k4.lr lr3 O14 O13.kt k4;ext ě G14 G13.kt k4 O24 O23.kt k4;have G24:=G23.kt k4;exists[kvs1,gvs1,PA1,_],id O14;ext ÀE ex1 f1 PA1;refine#[Å,p1,ex1,Å,f1,oZ Â Åf,p1,d1,g1,ob,È gs,O14,G14,lol,nd,tb4.t2,λ M pe=>Fw nd ter lol pe,λ Rb H5 Mb oub kb rsb peb sob dfb sTb tbb gRb eRb rab=>? _];obtain rfl:=Ha nd pea peb soa sob;obtain rfl:=dfa.one dfb;ext ÄT k5 KT.tab tb4.t2 sTb tb5 tb4.sR sTb tbb;ext ě K5 K4.trans k5 S5 S4.kt k5;ext ě lr5 k5.lr lr4 O15 O14.kt k5;ext ě G15 G14.kt k5 O25 O24.kt k5;have G25:=G24.kt k5;have txo:∀x∈oua,Í0 Ð:=λ x hx=>txe Ð (yh pea dfa x hx).1;exists[c1,c2,c3],JJ (k5 Â eRa λ ps z=>ÁF z) (raa.ts k5.ts) txo;exists[c4,_,_],JJ eRb rab txo;ext Õ4;refine ÅG ? _;have gn:∀n it,look ob n=Ã it->∃k b,Gn ob gs k (Ù n) b:=λ n it hl=>(ter n it hl).elim λ k hk=>hk.gn gs;show Áa #[Å,p2,d2,g2,ob,È gs,O25,G25,lol,nd,gn,ŗ l1 v1 H6 s6 el1 pl1] #[Å,p1,d1,g1,ob,È gs,O15.same s6,G15.same s6,lol,nd,gn,ŗ l2 v2 H7 s7 el2 pl2];exists[c1,c2,c3],Iq (s7 Â el1) (Ϡ pl1 z z.ts (XV s7)) txe;exists[c4,_,_],Iq el2 pl2 txe;ext Õ4;refine ÅG (ł);show ě s67 s6.trans s7 K7 K5.trans (.of s67);ext ě S7 S5.same s67 tb7 tb5.same s67;have lr7:=lr5.same s67;ext ÀE dx e1 S7;refine#[Õp e1,M,W,È e,S7,tb7,hM,RK,λ oc ov a ys H8 hd hv k8 tb8 ea pa=>? _];obtain rfl:=lB RK hc hd;ext ě K8 K7.trans k8 lr8 k8.lr lr7;show ÃB #[Å,ù l,Ó (XX lr8.1),Ø ph gph] w9 gph (Õ (ax M));refine#[ph,M,W,n,Å,#[ad,ÂG ÈQ lr8 (XV w9)],RK.tk,λ oa ov2 a2 ys2 H10 ha hv2 s10 ea2 pa2=>? _];obtain rfl:=lB RK hd ha;have s9:=w9.trans s10;have pa2:Ág RpAt H10 ys2 (CG oa ov2 M W):=pa2;rw[RP hv2 hv]at pa2;exists[c1,c2,c3],uB (D:=rpD) (s9 Â ea) (Ϡ pa z z.ts (XV s9)) λ v r hr' x=>Nb x (E6 RK r hr');exists[c4,_,_],uB (D:=rpD) ea2 pa2 λ v r hr' x=>Nb x (E6 RK r hr');ext Õ4;exact q H10 (K8.trans (.of s9)) (tb8.same s9)
theorem NE{ns:XQ}(h:ns.length<=63):∃cs:XQ,bU (ns.map V.int) (Ù 2) (Ù 42)=cs.map V.int/\cs.length<=40:=by
 refine#[(ns.drop (HT.sIx (Ň ns.map V.int) 0 (Ù 2))).take (HT.sIx (Ň ns.map V.int) (Ň ns.map V.int) (Ù 42)-HT.sIx (Ň ns.map V.int) 0 (Ù 2)),Χ]
 .ext ÀY bU List.map_take List.map_drop
 .rw[ZJ,Yx,Za,mj ⋯,mj ⋯];refine Zn Æj (Nat.sub_le_of_le_add ? _);show Ât Nat.le_total ns.length 2 h2
  .exact Zn (Æm) (Zn h2 (Zn ⋯ (YN 40 _)))
  .exact Zn Æj (Xd (show 42=40+min 2 ns.length by rw[YD h2]))
structure St8 Æb(A:L3)(xs:Ŋ XH X1)Ė(x1 p1 d1 x2 p2 d2:XH)(m2:Nat)Ë(L1 Lake:L3):Prop where
 dr:∀x∈A,DA H ö Ð
 ls:∀z∈xs,H z.1=Ã (.lst z.2)
 a1:HandAt CH CS H x1 p1 d1 ÁM L1
 a2:ÖG H x2 Lake
 tb:Tabs T R H
 ne:d1≠d2
section
variable{n m2:Nat}
theorem St8.kt ËA(s:KT H H')(t:Tabs T R H'):Äa xs m2 H' L1 Lake:=#[Èh S.dr hx s.ts,λ z hz=>Ģ (S.ls z hz) nofun,S.a1.kt s,S.a2.kt s,t,S.ne]
theorem St8.same ËA(s:ó):Äa xs m2 H' L1 Lake:=S.kt (.of s) (S.tb.same s)
theorem St8.more ËA(e:ĺ H l ys):Äa ((l,ys)::xs) m2 H L1 Lake:=#[S.dr,λ z hz=>by
 ext Äu hz e
 .exact S.ls z hz,S.a1,S.a2,S.tb,S.ne]
theorem HandAt.but{me:Nat}(x:Çp H L)(Åe e d')(s:SameT d' H H')(ne:d≠d'):Çp H' L:=by
 obtain⟨⟨dx,h1⟩,⟨ex,h2⟩,h3,h4,h5,h6,h7,h8,h9⟩:=x;have ts:TS H H':=λ b zs f=>Ģ f (Àm e f)
 exact#[#[dx,Ģ h1 (Àm e h1)],#[ex,Ģ h2 (Àm e h2)],Ģ h3 ne,ÒT h4 ts,h5,h6,h7,h8,h9]
theorem St8.put1 ËA(s:SameT d1 H H')(t:Tabs T R H')(h:HandAt CH CS H' x1 p1 d1 ÁM L):Äa xs m2 H' L Lake:=by have e:=S.a1.st.dc;exact#[áE,h,S.a2.but e s S.ne.symm,t,S.ne]
theorem St8.put2 ËA(s:SameT d2 H H')(t:Tabs T R H')(h:ÖG H' x2 L):Äa xs m2 H' L1 L:=by have e:=S.a2.st.dc;exact#[áE,S.a1.but e s S.ne,h,t,S.ne]
#check 0
theorem ur{Y:L3}(u:Y.Pairwise Èl){i:Nat}(h:Ý Y y):∀x∈Y.take i,nmK Ð≠ÈH:=λ x hx=>by exists Áz hi,Zv.mp h;ext Ìf Z1.mp hx;rw[ZJ]at hj;rw[List.getElem_take];rw[ZR]at u;exact u j i (by ext Úe hi) hi á9
theorem Hist.fitS à(h:Hist n L)(hd:d∈L):FitS n d:=#[(h.len d hd).1,(h.len d hd).2,h.fit d hd,h.ok d hd]
theorem JI à Åo(o:Of A M)(l:M.length<=63):∃ W e,RnK M W n e:=Tv l (by
  ext ğ aT ZX;refine Yl.mpr (o.uni.imp fun {x y} z=>λ e=>z (Ce.mpr e))) λ x hx=>#[(h.len _ (cz (o.sub x hx))).1,h.ok _ (cz (o.sub x hx))]
theorem FR{A:L3}{j:Nat}(h:j<A.length):atI (ax A) (É j)=Ã (.ref (ÍJ).1):=fi (by
 unfold ax;rw[Zs,Ze h,ZL,Ze h];rfl)
theorem PY ÀR Ýt:bU (l.map f) none (Ù (É m))=ũ l.take m f:=by unfold bU;rw[Za,HT.sIx_none,mj (by exact ô č η Ζ),ZP,YD h,List.drop_zero,Nat.sub_zero,List.map_take]
theorem PX ÀR Ýt:bU (l.map f) (Ù (É m)) none=ũ l.drop m f:=by unfold bU;rw[Za,HT.sIx_none,mj (by exact ô č η Ζ),ZP,YD h,<-List.map_drop,<-List.map_take,Yt (Ŕ Yx Zf _)]
inductive spLaw80(K:XY)(T R T3:XH)Μ:Prop
 |mk Ō áM (h3:H T=Èw) (h4:H R=Èw) (h5:H T3=Èw) (n1:T≠R) (n2:T≠T3) (n3:R≠T3) (q:∀H',Q ÉT):spLaw80 K T R T3 vs H Q E_
abbrev qK:Stmt:=top 97
abbrev Sr:Ä Str:=["_law_script","_law_hands","_law_deeds_here","_law_step","_law_places","_law_one","_law_other","_law_deed","_law_half","_law_k"]
theorem fN:ŀ Sr "_law_script" qK:= ñ
abbrev M6:Str:=Ù9 "law"
abbrev Gh:XT:=K9 (MP ((bV qK).getD 3 (ÊW)))
def RZ(kv:V):Sp:=λ vs H Q _=>∃(k st:Int),kv=Í st/\vs=[Í k]/\(0<=st/\st<=256)/\Q (Í (Ρ*st%257)) H
theorem K0:↑LamOkX 1 M6 (K6 Gh) (La Gh) "_law_k" "_law_step" RZ:=by refine ãD;show ÃL [k,st,rfl,e,hst,q] h e;refine#[_,(aI cV (aI nJ (aI eW ü aj) ä) aj),? _];exact#[ÂD,ÂD,ā #[∅,∅],Ã6 257,q]
set_option tactic.hygienic true in theorem QP(F:é "law" "law" qK)(Ó0 T3)(Vj:Ŀ 1 "_law_cell_at" ["_law_script","_law_k"] (spCell K))(Wv:Ŀ 4 "_law_deeds" ["_law_cells","_law_hands"] Fd)(VQ:Ŀ 4 "_law_lacking" ["_law_some","_law_hands"] spLack)(VR:Ŀ 13 "_law_same" ["_law_hand","_law_deeds_here"] (ÂF spSame))(V3:↑MkFn 3 CH "Hand" ["self","hands","me"] (spHInit CH CS))(US:Ι 9 CH "hear" ["self","deed"] (ÂF spHHear))(U5:Ι 8 CH "clock" ύ (ÂF spHClock))(U6:Ι 12 CH "meet_with" ["self","other"] (ÂF spHMeet))(Ww:Ι 9 CH "told" ["self","clock"] (ÂF spHTold))(c8:Ē "sorted")(j4:Ē "range")(a9:Ē "len"):ă 14 ["_law_script"] (spLaw80 K T R T3):=by
 show Ô0 fN [a,ns,rfl,_] [a,sc,rfl,hS,hlen,hT,hR,hL,n12,n13,n23,hq];exists _,(åU 1
   (b_c (Ĕ 2 fN.nd (ī Wv (ņ (fg vH ü (eM aj) (eM aj)) (Ğ 1))))
   (åU 3
   (b_c (Ĕ 4 fN.nd (Ýg LL 3 (K0) ↑99 (q_a (Ts j4 (ð (q_B dN a9 Z2 (Ğ 2)))) ai) rfl rfl rfl rfl))
   (b_c (Ĕ 5 fN.nd (Cz V3 ↑99 (ÈW 1)))
   (b_c (Ĕ 6 fN.nd (Cz V3 ↑99 (ÀO 1 (ð (aI sY ä aj)))))
   (b_c (ÆN (bc Ū) (aB (i:=7) fN.nd) (b_1 (aM (aE vX (ÃE US ↑5 (Ğ 7)) dF) (Ás dF) b_0)))
   (b_c (Èe 8 fN.nd "_law_k" (ÅP [2] ["_law_deeds_here"]) rfl (bc (fg vH ↑4 fq (eM (Æz aI eX 2)))) (ÆF "_law_k" "_law_deeds_here") Àe (Ĭ fj) (Ĭ (ar (È4 iY) ä ü)))
   (b_c (ÆN (bc ↑8) (aB (i:=7) fN.nd) (b_1 (aM (aE vX (ÃE US ↑6 (Ğ 7)) dF) (Ás dF) b_0)))
   (b_c (aM (fJ (ci (ī VR (ŏ 6 (ņ (Å3 VQ 8 1) ai))))) ÉZ)
   (b_c (cW ZU rfl (bc (fg vH ↑4 (eM (Æz aI eX 2)) fq)) ä6)
   (b_c (cW ZU rfl (bc (Tt ↑4 aj)) ä6)
   (b_c (É9 (t_w (jN (fJ (ci (Å3 VR 5 2))) (jN (fJ (ci (Å3 VR 6 2))) (jV (aE (vW hr.units) (bP U5 ↑99 ↑5) (bP U5 ↑99 ↑6)))))))
   (b_1 (au (dC (cP (sX hr.units) (ÃE U6 ↑5 (Ğ 6)) (aJ (ņ aj (ð aj)))) (dP (cP (Λ ET rfl hr.units) (ÃE Ww ↑6 (ð (bP U5 ↑99 ↑5))) (bX ai)))))))))))))))))))
 show ϐ #[Å,a,sc,È 0,hS,⋯,Ã6 8,ë,ł];show ái m0 0 8 m1 h0;obtain⟨n,hn⟩:∃n:Nat,É n=1+h0:=#[(1+h0).toNat,(by exact Int.le_antisymm (Áb ô (Ε n 1 0) (Áb Ĩ (Ε n 1 0)) Æ3 (Int.le_of_eq (Int.toNat_of_nonneg (ô č (Ε n 1 0) ØB Τ m0)))) (ô (Ε n 1 0) η (Ĩ (Ε n 1 0) η) ÞP))]
 rw[<-hn];have n1:1<=n:=(by exact ËT Ç (ÿ (Ε n 1 0) η (Ĩ č Ç)) Æ3 (Int.le_of_eq hn.symm) m0)
 have n8:n<=8:=(by exact ÇW (.n 8) (Áb ÿ (Ε n 1 0) (ť Ĩ 0 (.n 8))) Æ3 (Int.le_of_eq hn) m1)
 exists[cs,ecs,lcs],NE hlen;show ϐ #[Ü,Å,Ł a hS,Ø p0 g0];rw[ecs];have w0:=af g0 (Õ (cs.map V.int));refine#[Å,p0,cs,É n,Ì ad,∅,Àz ß1 n1,Ïd 8 n8,λ pd H2 A w2 _ lr lA hist so=>ł];rw[ZP]at hist;have W2:=w0.trans w2;ext Ä3 hT2 W2 hT hR2 hR;ext ŧ hL2 W2 hL;have k2:=KT.of W2;have hS2:SqL K H2 a (sc.map V.int):=by
  ext Ói hS W2
 have hz:A.length<=40:=(by exact Ús 40 lA lcs)
 show ϐ #[Å,a,sc,È 1,hS2,⋯,Ã6 256,ë,ł];show ái k0 1 256 k1 s0;have hst:0<=1+s0/\1+s0<=256:=#[(ÅW č (Ε n 1 0) ØB k0),ÇL ÒZ (Ε n 1 0) (.n 256) (ť Ĩ 0 (.n 256)) [] k1]
 generalize 1+s0=stp at hst ⊢;show ϐ #[Å,ù pd,Ó (XX lr.1),A.length,by rw[aH],∅,Ķ r t u v gr]
 ext gr H3 sr er
 have lr3:=lr.same sr;ext Ä3 hT3 sr hT2 hR3 hR2;ext ŧ hL3 sr hL2;have tab0:aX M6 T3 (kE Gh) H3:=ÓI hL3
 refine#[r,(Ŷ A.length map) ÅV,(Ŷ A.length map) λ i:Nat=>ZKey.i ((É i+1)*stp%257),Í stp,î,ā #[A.length,t,u,v,∅,È er],tab0,by rw[Za,YA];exact ĵ (.n 64) (Ì0 40) [_] hz,ÏI Za inl sT hR,λ p H4 D hp hls sT tab2 gD=>ł]
 .show ż x _ hk;exact Âv
 .rw[Zs]at hv hkey;ext Ìf ZK.mp hv;show π hj hkey #[É j,È stp,Ì hst,hR Â (Same.refl _) rfl]
 rw[Za,YA]at hp;obtain⟨Q0,hQ0⟩:∃Q0,Q0=p.toList:=Âv
 have ep:Q0.Perm (List.range A.length):=by have:=Array.perm_iff_toList_perm.mp hp;rw[hQ0];ext ÃT
 have pl:∀i∈Q0,i<A.length:=λ i hi=>Yh.mp (ep.mem_iff.mp hi);have ev:ÌW p.toList.map (Ŷ A.length map) ÅV=Q0.map ÅV:=by rw[<-hQ0];apply YT;intro i hi;have hl:=pl i hi;simp[hl]
 rw[ev];have lQ:Q0.length=A.length:=ÀK ep.length_eq YA
 obtain⟨Y,hY⟩:∃Y:L3,Y=Q0.map λ i=>A.getD i (0,D0):=Âv
 have pY:Y.Perm A:=by have:=ep.map λ i=>A.getD i ((0,D0):ÄG);ext Â5 jg;ext Œ hY this
 have oY:Of A Y:=(ve hist).perm pY;have lY:Y.length=A.length:=pY.length_eq
 ext gD H5 s4 eD
 have k4:=(KT.tab tab0 sT).trans (.of s4);have lr5:=k4.lr lr3;show Ä3 hT5 s4 (sT Â hT3 n13) hR5 (sT Â hR3 n23);have tb5:Tabs T R H5:=#[ÓI hT5,ÓI hR5,n12]
 show ϐ Àk;intro x1 dx1 nx1 ndx1 nex1;refine#[x1,dx1,n,0,Ì ad,n1,n8,λ p1 d1 H6 fd1 hA1 kp1=>#[rfl,ł]];have kp10:åV H5 dx1 x1:=λ b o e=>Óa nx1 ndx1
 have s6:Same H5 H6:=Æx e kp1 (kp10 b o e) (aq e nx1);have lr6:=lr5.same s6;ext ŧ eD6 s6 eD;have tb6:=tb5.same s6;show ϐ #[Ü,ë,? _];intro x2 dx2 nx2 ndx2 nex2;have em:(V.int (É n-1))=V.int (É (n-1:Nat)):=ZZ V.int (by exact Int.le_antisymm (ô Év (.c Ê) (ĝ Ç (Ų a 1) .z) Âx Ŝ) (Áb ô (ϓ d (.c Ê)) (ĝ Ć Š) Âx (Éa n1)));refine#[x2,dx2,n,n-1,by rw[<-em];rfl,ad,n1,n8,λ p2 d2 H7 fd2 hA2 kp2=>#[rfl,ł]];have kp20:åV H6 dx2 x2:=λ b o e=>Óa nx2 ndx2
 have s7:Same H6 H7:=Æx e kp2 (kp20 b o e) (aq e nx2);have ne12:d1≠d2:=λ z=>by have:=kp20 Â hA1.st.dc;ext Ţ z fd2 this
 have X7:Äa [(pd,ax A),Ëy] (n - 1) H7 ÄI:=#[ÂG ÈQ lr6 (XV s7),λ z hz=>by
  ext ϋ hz hz
  .exact s7 Â lr6.1
  .rw[Zg.mp hz];exact s7 Â eD6,hA1.same s7,hA2,tb6.same s7,ne12]
 have iA:∀(Ãi j Nat),Ý Q0 j->Ý Y (ÍJ):=fun{i j} h=>by rw[hY,Zs,h];rfl
 show ϐ #[Å,È pd,#[_,XX (X7.ls (pd,_) Zk)],? _];refine ÁL fz pd (xs:=ax A) (λ i Z H'=>Äa [(pd,ax A),Ëy] (n-1) H' (A.take i) []/\∃o7,Z=[Ö a,Ã (Áu n),Ö pd,ą int stp,Ö D,Ö x1,Ö x2,o7,none,none]) #[ś X7 none] (ÒP pd) Ĳ
 .ext ÙM o7;ext Êl my;have hi:i<A.length:=Àg hy;ext ÀE dx e1 X.a1;refine#[Ν x1 dx e1 eU,Å,x1,p1,d1,y.1,n,0,Ýu X.a1,Ó #[by rw[ZJ];exact ĵ (.n 63) (Ñ Ê (.n 40) ϊ) ď hz (Æm),ur (sD hist) hy,λ H1 s1 tb1 S1=>#[ë,Å,aF (ÄQ #[X.put1 s1 tb1 ? _,Å])]]];rw[bM hy];exact S1
 rintro Z H8 ⟨X8,o7,rfl⟩;rw[aH,ZO]at X8;refine ł;obtain⟨m,hm⟩:∃m,m=A.length / 2:=Âv
 have mA:m<=Q0.length:=∅
 have em:((Ň ax A:Int) / 2)=É m:=Ż aH
 show â8 H8 X8.ls (Zh _ Zk) Zk #[Ü,ù pd,Ìg lP,ë,#[Àv],Áo D,XX lD,Ø p0 g0] PY
 ext g0 H9 w0 e0
 have X9:=X8.same w0;refine#[Áe p0 e0];refine ÁL bL p0 (xs:=ũ Q0.take m ÅV) (λ i ys H'=>H'=H9/\ys=ax ((Y.take m).take i)) (Ãf Za ZJ) (λ i ys H' z=>by rw[z.2,aH,ZJ];exact ŝ ϊ ď Æj) ÁP (ÙJ ys e0) Ĳ
 .rintro i ys H' v hv ⟨rfl,rfl⟩ Yk hYk;ext Ê5 Zs hv j hj;have hj0:Ý Q0 j/\i<m:=by
   rw[List.getElem?_take]at hj;split at hj
   .rename_i h;exact#[hj,h]
   .cases hj
  show ÂI hjl pl j (ZG hj0.1) #[Ü,pd,τ,XX (show Į H' pd (Ϟ A)from X9.ls (pd,_) Zk),FR hjl,hYk Â Åz];have:Ý (Y.take m) (ÍJ):=by rw[List.getElem?_take,XC hj0.2];exact iA hj0.1
  rw[bM this];ext ğ ax Zy;rfl
 rintro ys hf H' ⟨rfl,rfl⟩ gf;have lm:(ũ Q0.take m ÅV).length=m:=Ãf Za ZJ
 rw[lm,List.take_take,Nat.min_self]
 ext gf H10 w1 ef
 have X10:=(X9.same w1).more ef;refine ł;have uY:Y.Pairwise Èl:=oY.uni;have mYA:∀y∈Y,y∈A:=oY.sub;show ϐ #[Å,È hf,#[_,XX (X10.ls (hf,_) Zk)],? _];refine ÁL fz hf (xs:=ax (Y.take m)) (λ i Z H'=>Äa [(hf,ax (Y.take m)),(pd,ax A),Ëy] (n-1) H' A (Y.take i)/\i<=m/\ÔW o7 o7 none) #[X10,ZA _,Å] (ÒP hf) Ĳ
 .rintro i v Z H' hv ⟨X,im,o7,rfl⟩ DL hDL;show Êl _;rw[List.getElem?_take]at hy;split at hy
  .rename_i him;have my:=mYA y (ZG hy);ext ÀE dx e1 X.a2;refine#[Ν x2 dx e1 eU,Å,Ú2,Ó #[by rw[ZJ];exact ĵ (.n 63) (Ñ Ê Ô Ôn) ÙX,ur uY hy,λ H1 s1 tb1 S1=>#[ë,Å,aF (ÄQ #[X.put2 s1 tb1 ? _,ù him])]]];rw[bM hy];exact S1
  .cases hy
 rintro Z H11 ⟨X11,_,o7',rfl⟩;have lYm:Ň ax (Y.take m)=m:=Ãf aH ZJ
 rw[lYm]at X11;refine ł;have oH:Of A (Y.take m):=#[λ x hx=>mYA x ((Æ8).subset hx),uY.sublist (Æ8)]
 have lH:Ň Y.take m<=40:=by rw[ZJ];exact ϙ 40 (Ñ Ê Ô Ôn) ÙX
 ext Áy;refine#[Àj,hf,n,Y.take m,rfl,#[X11.ls (hf,_) Zk,ÂG X11.dr x (oH.sub x hx)],ÂG hist.len _ (cz (oH.sub x hx)),∅,n1,n8,Áp DS H12 S pS sS s12 lrS];have X12:=X11.same s12;have lS:S.length=Ň Y.take m:=pS.length_eq;have mS:∀x∈dE n S S.length,x∈Y.take m:=λ x hx=>pS.mem_iff.mp (qr S _ (Zf _) x hx);have hM:=OX hist oH pS sS;have oM:Of A (dE n S S.length):=#[ÂG oH.sub x (mS x hx),by
  have:=(xJ hist (oH.perm pS) _ (Zf _)).1;rw[<-this];exact (((oH.perm pS).uni.sublist (Æ8)).sublist (iK S S.length (Zf _)))]
 have lM:=ux (n:=n) S S.length (Zf _);exists[W,e,RK],JI hist oM (Úk 63);refine#[x2,p2,d2,DS,n,n-1,_,_,W,e,Ì X12.a2,X12.tb,hM,RK,lrS,ÂG hist.ok _ (cz (oM.sub x hx)),(Úk 62),λ H13 k13 tb13=>ÅG (ł)];have X13:=X12.kt k13 tb13;show â8 H13 X13.ls (Zh _ (Zh _ Zk)) (Zh _ Zk) #[Ü,ù pd,Ìg lP,ë,#[Àv],Áo D,XX lD,Ø p3 g3] PX
 ext g3 H14 w3 e3
 have X14:=(X13.same w3).more e3;refine#[È p3,Æn _ (X14.ls (p3,_) Zk),? _];refine ÁL fz p3 (xs:=ũ Q0.drop m ÅV) (λ i Z H'=>Äa [(p3,ũ Q0.drop m (ÔQ (É i))),(hf,ax (Y.take m)),(pd,ax A),Ëy] (n-1) H' A (Y.take (m+i))/\ÔW o9 o7' o9) #[ù X14] (ÒP p3) Ĳ
 .ext ÙM o9;rw[Zs,List.getElem?_drop]at hv;ext Ìf ZK.mp hv;have hjl:=pl j (ZG hj);ext ě hy iA hj hat FR hjl;generalize ÍJ=y at hy hat;have my:=mYA y (ZG hy);have hi:m+i<Y.length:=Àg hy;ext ÀE dx e1 X.a2;have lP:Į H' pd (Ϟ A):=X.ls (pd,_) (Zh _ (Zh _ Zk));refine#[Ν x2 dx e1 eU,Ü,pd,τ,XX lP,hat,Ú2,Ó #[by rw[ZJ];exact ĵ (.n 63) (Ñ Ê Ô Ôn) ÙX,ur uY hy,λ H1 s1 tb1 S1=>#[ë,Å,aF (ÄQ #[X.put2 s1 tb1 ? _,Å])]]];rw[show m+(i+1)=m+i+1 from rfl,bM hy];exact S1
 rintro Z H15 ⟨X15,o9,rfl⟩;have lYd:m+(ũ Q0.drop m ÅV).length=Y.length:=by rw[Za,Yx];exact Nat.le_antisymm (â ÀJ Ô (ÆK a 2 (Ñ (.a 4) (.a 3) (Ï9 1 0 4))) [_,_,_,_,_] (Nat.le_of_eq lY.symm) (Nat.le_of_eq lQ) (Ée mA)) (Ès (Ñ Ç (.a 3) (ÆK a 4 (Ð5 (.a 4)))) [_,_,_,_,_] (Nat.le_of_eq lY) (Nat.le_of_eq lQ.symm) Ŝ)
 rw[lYd,ZO]at X15;refine ł;have lD:H15 D=Ã (Õ ((Q0.map λ i:Nat=>(i:Int)).map V.int)):=Ä7 ZX X15.ls (D,_) (Zh _ (Zh _ (Zh _ Zk)))
 show ϐ #[Å,3,D,Å,⋯,rfl,XX lD,Ķ p4 ms hms lms g4]
 ext g4 H16 w4 e4
 have X16:=(X15.same w4).more e4;refine#[È p4,Æn _ (X16.ls (p4,_) Zk),? _];refine ÁL fz p4 (xs:=ms.map V.int) (λ i Z H'=>Äa [(p4,ms.map V.int),(p3,ũ Q0.drop m (ÔQ (É i))),(hf,ax (Y.take m)),(pd,ax A),Ëy] (n-1) H' A Y/\ÔW o9 o7' o9) #[ù X16] (ÒP p4) Ĳ
 .ext ÙM o9;rw[Zs]at hv;show Ž [z,hz',rfl] ZK.mp hv [j,hj,rfl] Zw.mp (hms z (ZG hz'));have hjl:=pl j hj;exists[ij,hij],Yp.mp hj;show ě hy ZG (iA hij) hat FR hjl;generalize ÍJ=y at hy hat;have my:=mYA y hy;ext ÀE dx e1 X.a2;have lP:Į H' pd (Ϟ A):=X.ls ßx;exact#[Ν x2 dx e1 eU,Ü,pd,τ,XX lP,hat,Ú2,ā #[hy,λ H1 s1=>#[ë,Å,aF (hDL Â #[X.same s1,Å])]]]
 rintro Z H17 ⟨X17,o9',rfl⟩;refine ł;have al1:=E4 hist so (.refl A);have al2:=E4 hist so pY;have tol:=Mn hist so;exists[W,e,RK],JI hist (ve hist) ∅;have dok:∀x∈A,DOk Ð.2.2:=ÂG hist.ok _ (cz hx);have lP:Į H17 pd (Ϟ A):=X17.ls ßx;show ϐ #[Ü,x1,p1,d1,pd,n,0,A,A,W,e,Ì X17.a1,X17.tb,al1.one,RK,#[lP,X17.dr],dok,∅,λ H18 k18 tb18=>ÅG ? _];ext ÄT X18 X17.kt k18 tb18 lP18 Åw k18 lP;refine#[Ü,x2,p2,d2,pd,n,n-1,Y,A,W,e,Ì X18.a2,X18.tb,al2.one,RK,#[lP18,X18.dr],dok,∅,λ H19 k19 tb19=>ÅG ? _];have X19:=X18.kt k19 tb19;ext ÀE dx1 e1 X19.a1;show Ã5 #[Å,x1,dx1,Å,e1,eU Â,x1,p1,d1,n,0,A,È A,X19.a1,X19.tb,al1.one,λ c1 H20 k20 tb20 ec1=>? _] X20 X19.kt k20 tb20;ext ÀE dx2 e2 X20.a2;refine#[Ν x2 dx2 e2 eU,x2,p2,d2,n,n-1,Y,A,Ì X20.a2,X20.tb,al2.one,Ķ c2 H21 k21 tb21 ec2];ext ÄT X21 X20.kt k21 tb21 ec1' Åw k21 ec1;show Îz #[_,_,gj ec1',gj ec2,cL _,cL _,? _] iL rfl;refine ÅG (ł);ext ÀE dx1 e1 X21.a1;refine#[Ν x1 dx1 e1 eU,Å,x1,p1,d1,x2,p2,d2,n,0,n-1,A,Y,È A,X21.a1,X21.a2,X21.tb,al1,al2,tol,λ t0 H22 k22 tb22 et=>ÇC t1 g1];have w1:=af g1 Ìy;have X22:=(X21.kt k22 tb22).same w1;have et0:ß H22 t1 Ìy t0=Ã (Ò (([0,0]:XQ).map V.int)):=w1 Â et;have et1:ß H22 t1 Ìy t1=Ã (Ò (([0,0]:XQ).map V.int)):=ad;generalize ß H22 t1 Ìy=H23 at X22 et0 et1 ⊢;show Îz #[_,_,gj et0,gj et1,cL _,cL _,ţ] iL rfl;ext ÀE ex1 f1 X22.a1;ext ÀE ex2 f2 X22.a2;refine aP #[Ν x2 ex2 f2 eU,Ν x1 ex1 f1 eU,x1,p1,d1,n,0,A,È A,X22.a1,X22.tb,al1.one,Ķ c H24 k24 tb24 ec];show ÂI X24 X22.kt k24 tb24 #[x2,p2,d2,c,n,n-1,Y,A,Å,X24.a2,X24.tb,al2,ec,cY Â,tol,λ D' H25 eD'=>ÇC l0 g0];exact#[D',l0,[],î,XX (af g0 ń Â eD'),XX ad,hq _]
theorem BI{st:Stmt}(a:Âr x f)(F:é x q st)(t:W.tabIn K x=Ã (c,T)):fd.code=Æ c:=by exists ÔT l0,id F.ex;exact Ml a l0 t
#check 0
def uk:Nat->(Þ XG)->Prop
 |0,p=>p []
 |n+1,p=>∀a,uk n λ us=>p (a::us)
theorem lf:∀à {p:Þ XG},uk n p->∀us:XG,us.length=n->p us
 |0,_,h,[],_=>h
 |_+1,_,h,a::us,e=>lf (h a) us (Nat.succ.inj e)
section
variable{P:XL}{w:XM}{K:XY}{mg:XF}{base h:Heap}{n m q:Str}{st:Stmt}{C f:XH}{k:Nat}
structure Bx(P:XL)(w:XM)(ζ mg XF)(base h:Heap):Prop where
 X:K.In h
 G:h.Ns mainGlobals mg
def A1(ζ n Str)(st:Stmt)(f:XH):Prop:=Âr n f/\∃fd,é n n st
def A2(K:XY)Ĥ(m q:Str)(st:Stmt)(f:XH):Prop:=ÉM m/\Ď W.isFn K (Ï f)/\∃fd,é m q st
def AF(K:XY):ÃI (Str×Stmt×XH)
 | []=>True
 |(n,st,f)::l=>A1 K n st f/\AF K l
def AM(K:XY):ÃI (XH×Str×Str×Stmt×XH)
 | []=>True
 |(C,m,q,st,f)::l=>A2 K C m q st f/\AM K l
def AN(p:Þ Str):ÃI Str
 | []=>True
 |n::l=>p n/\AN p l
theorem anI{p p':Þ Str}(i:∀{n},p n->p' n):∀{l:Ä Str},AN p l->AN p' l
 | [],_=>True.intro
 |Δ,h=>#[i h.1,anI i h.2]
theorem gf ä7(a:Âr n f)(ÖK b n n dc cd sl d)(r:AF K l):AF K ((n,st,f)::l):=#[#[a,_,Iw b c d],r]
theorem gm ä7(a:ÉM m)(i:Ď W.isFn K (Ï f))(ÖK b m q dc cd sl d)(r:AM K l):AM K ((C,m,q,st,f)::l):=#[#[a,i,_,Iw b c d],r]
theorem gn(a:W.nsIn K mainGlobals n=Ã none)(r:Õl l):Õl (n::l):=#[a,r]
theorem mkF Õq(A:A1 K n st f)(ok:Ìh n n CX0)(hb:ÓR n n:=by(repeat intro _);rfl):Ŀ k n ps sp:=μ [a,fd,F] A #[f,fd,ok F,Z8 B.X B.G a,F.kp,Ëk]
theorem mkM Ýn(ok:Ìh m q CX0)ÖS:Ι k C m ps sp:=ÐZ A #[L,f,fd,ok F,#[a,i,F.kp],Ëk]
theorem mkX Ýn(ok:Ìh m q (CXr P w))ÖS:ÔI MFnX m:=ÐZ A #[L,f,fd,ok F,#[a,i,F.kp],Ëk]
theorem mkC Õq(L:Cls K C)(g:ÁK x C)(mk:Ď W.makesIn K C)(kc:Ď W.keepIn K (Ï C))(A:A2 K C "__init__" q st f)(ok:Ìh "__init__" q CX0)(hb:ÓR "__init__" q:=by(repeat intro _);rfl):ÔI MkFn x:=ÐZ A #[L,g,f,fd,ok F,#[mk,a,i,kc],Ëk]
theorem mkE Õq(e:ExcAtI K C f bm)(A:A2 K C m q st f)(ok:Ìh m q CX0)ÖS:ÔI ExI bm:=ÐZ A #[f,fd,e,ok F,Ëk]
#check 0
theorem PN{l:W.OpenLaw}ē(X:K.In h)(G:h.Ns mainGlobals mg)(hfa:ÁK "law" fa)(Wx:Âr "Store" C_Store)(ÓT V9 C_Store Wa Wb Wc We)(Wf:Ď W.keepIn K (Ï C_Store))(UM:ÃX C_Store "hands" = Ã none)(UO:ÃX C_Store "deeds" = Ã none)(WM:Âr "Hand" C_Hand)(ÓT Wy C_Hand Wz WA WB WC)(WD:Ď W.keepIn K (Ï C_Hand))(U7:ÃX C_Hand "store" = Ã none)(VS:ÃX C_Hand "me" = Ã none)(V4:Âr "Plain" C_Plain)(ÓT Wg C_Plain Wh Wi Wj Wk)(Wl:Ď W.keepIn K (Ï C_Plain))(U8:ÃX C_Plain "held" = Ã none)(U9:ÃX C_Plain "away" = Ã none)(VT:Âr "NoItem" c_NoItem)(Wm:Âr "Taken" c_Taken)(Vy:Âr "Beneath" c_Beneath)(WN:Âr "Far" c_Far)(Va:Âr "LimbError" c_LimbError)(zF:AF K (("step_parts",mO,f1)::("name_of",rY,f2)::("is_turn",rV,f3)::("turned_name",kQ,f4)::("last_turns",mK,f5)::("is_off",uM,f6)::("step_of",rZ,f7)::("word_of_step",jJ,f8)::("play",CQ,f9)::("played",uN,f10)::("words_of",qO,f11)::("steps_of",qM,f12)::("tells",yq,f13)::("hears",yl,f14)::("apart",yj,f15)::("stepped",se,f16)::("touched_by",mR,f17)::("taken_item",mP,f18)::("gainsays",qG,f19)::("first_gainsayer",io,f20)::("takings_of",mQ,f21)::("overs_of",qL,f22)::("report_of",oK,f23)::("history_of",mJ,f24)::("outline_of",mL,f25)::("is_number",oJ,f26)::("is_whole",qJ,f27)::("is_name",rQ,f28)::("is_clock",qH,f29)::("start_clock",kP,f30)::("within",uP,f31)::("raised",uO,f32)::("is_deed_word",jI,f33)::("deed_parts",mI,f34)::("is_place",qI,f35)::("is_sign",rS,f36)::("is_text",rU,f37)::("is_hand",rP,f38)::("is_known_item",jt,f39)::("is_part",rR,f40)::("is_what",rW,f41)::("is_deed",rO,f42)::("asked_by",qE,f43)::("is_answered",kO,f44)::("ready_of",kY,f45)::("takes_as_new",yp,f46)::("count_new",oG,f47)::("meet",CO,f48)::("_law_cell_at",rN,f49)::("_law_text",CU,f50)::("_law_what",CV,f51)::("_law_order",yo,f52)::("_law_deeds",yk,f53)::("_law_fields",uL,f54)::("_law_lacking",rX,f55)::("_law_same",CT,f56)::("law",qK,f57)::[]))(zM:AM K ((c_NoItem,"__init__","NoItem.__init__",kJ,m1)::Â9 "__init__" "Plain.__init__" mw m2::Â9 "item" "Plain.item" mC m3::Â9 "bring_in" "Plain.bring_in" iO m4::Â9 "change" "Plain.change" jH m5::Â9 "check_names" "Plain.check_names" fT m6::Â9 "at_or_beneath" "Plain.at_or_beneath" fu m7::Â9 "check_bounds" "Plain.check_bounds" fG m8::Â9 "part_item" "Plain.part_item" il m9::Â9 "join_items" "Plain.join_items" gJ m10::Â9 "holds" "Plain.holds" kK m11::Â9 "step" "Plain.step" mE m12::(C_Store,"__init__","Store.__init__",mG,m13)::(C_Store,"hear","Store.hear",mF,m14)::(C_Store,"ready","Store.ready",kN,m15)::(C_Store,"waiting","Store.waiting",jr,m16)::(C_Store,"clock","Store.clock",kM,m17)::(C_Store,"told","Store.told",mH,m18)::(C_Hand,"__init__","Hand.__init__",oB,m19)::(C_Hand,"hear","Hand.hear",oA,m20)::(C_Hand,"told","Hand.told",oF,m21)::(C_Hand,"clock","Hand.clock",mo,m22)::(C_Hand,"ready","Hand.ready",mq,m23)::(C_Hand,"meet_with","Hand.meet_with",iN,m24)::(C_Hand,"outline","Hand.outline",jG,m25)::(C_Hand,"report","Hand.report",kI,m26)::Â9 "sorted_names" "Plain.sorted_names" dQ m27::Â9 "lower_names" "Plain.lower_names" fU m28::Â9 "rows" "Plain.rows" mD m29::Â9 "names" "Plain.names" kL m30::Â9 "is_gone" "Plain.is_gone" jq m31::[]))(zN:Õl ("len"::"list"::"zip"::"range"::"max"::"sum"::"enumerate"::"tuple"::"sorted"::"dict"::"any"::"all"::"reversed"::"isinstance"::"int"::"bool"::"str"::"ord"::[]))(UE:ÇQ "MOST_NUMBERS" 64 WY)(Vb:ÇQ "FIRST_SIGN" 32 W3)(Vm:ÇQ "LAST_SIGN" 126 W6)(UF:ÇQ "PERCENT_SIGN" 37 WZ)(Vc:ÇQ "MOST_SIGNS" 60 W4)(WO:ÇQ "TEXT" 2 Xz)(WW:ÇQ "UP" 0 XA)(WE:ÇQ "PLACE" 1 Xy)(Vd:Âr "DEED_PARTS" VB)(t_DEED_PARTS:Õ2 VB DT)(Ve:Âr "STEP_PARTS" VC)(t_STEP_PARTS:Õ2 VC ST)(v5:Âr "FIRST_CHANGED" Vf)(t_FIRST_CHANGED:Õ2 Vf FC)(VU:Im K c_NoItem m1)(VW:∃c d cd sl,K.lookup c_NoItem=Ã #[c,d,.cls cd,sl]/\cd.mro=Value.ref c_NoItem::Á9 c_LimbError VE)(if_NoItem:∃oI,K.lookup m1=Ã oI/\oI.cls=.type "function")(Vg:rh K c_LimbError)(Vh:Î0 c_LimbError VE)(Õy Wn c_Taken Wo)(Õy Vz c_Beneath VA)(Õy WP c_Far WQ)(e6:Ði W.mroIn c_NoItem)(aN:ÃX c_NoItem "name" = Ã none)(s1:ËG W.findIn c_NoItem)(s2:Ą ((W.clsIn K c_NoItem).any λ cd=>wg cd.mro&&cd.hasDict))(tb1:W.tabIn K "ready_of" = Ã (c1,T1))(tb2:Lake.sk K "Plain" "sorted_names" = Ã (c2,T2))(tb3:W.tabIn K "law" = Ã (c3,T3))(nb:ÕU c_Beneath c_NoItem)(nf:ÕU c_Far c_NoItem)(fb:ÕU c_Far c_Beneath):∃fd:XO,(ÏX v "_law_script")/\∀base:Heap,K.In base->ÝM K (spLaw80 K T1 T2 T3):=by
 obtain⟨Af1,Af2,Af3,Af4,Af5,Af6,Af7,Af8,Af9,Af10,Af11,Af12,Af13,Af14,Af15,Af16,Af17,Af18,Af19,Af20,Af21,Af22,Af23,Af24,Af25,Af26,Af27,Af28,Af29,Af30,Af31,Af32,Af33,Af34,Af35,Af36,Af37,Af38,Af39,Af40,Af41,Af42,Af43,Af44,Af45,Af46,Af47,Af48,Af49,Af50,Af51,Af52,Af53,Af54,Af55,Af56,⟨a0,_,F0⟩,_⟩:=zF;exists[Am1,Am2,Am3,Am4,Am5,Am6,Am7,Am8,Am9,Am10,Am11,Am12,Am13,Am14,Am15,Am16,Am17,Am18,Am19,Am20,Am21,Am22,Am23,Am24,Am25,Am26,Am27,Am28,Am29,Am30,Am31,_],zM;exists[a9,i9,p9,j4,VZ,Vi,i7,d8,c8,Vn,WT,j6,UP,a8,V1,Vp,V2,WG,_],anI (p':=λ n=>Ē n) (λ z=>W.mg_none_of X G z) zN;have e:=hfa.symm.trans (Z8 X G a0);cases e;exists ÔT l0,id F0.ex;ext Íx Uz UE U0 Vb Vl Vm UA UF;ext Íx U1 Vc i8 WO u5 WW Vo WE;ext Íx k9 Vd UU Ve v3 v5 W0 Wx;have UG:Cls K C_Store:=#[V9,Wa,Wb,Wc]
 have UT:TxS K C_Store:=#[UG,UM,UO]
 have W7:=Z8 X G WM;have v6:Cls K C_Hand:=#[Wy,Wz,WA,WB]
 have UI:TxH K C_Hand:=#[v6,U7,VS]
 have W1:=Z8 X G V4;have i5:Cls K C_Plain:=#[Wg,Wh,Wi,Wj]
 have b9:Txt K C_Plain:=#[i5,U8,U9]
 have VX:Tab K VB DT:=#[t_DEED_PARTS]
 have WR:Tab K VC ST:=#[t_STEP_PARTS]
 have Wr:Tab K Vf FC:=#[t_FIRST_CHANGED]
 have v7:=Z8 X G VT;have WF:ExcAtI K c_NoItem m1 (Á9 c_LimbError VE):=#[VU,VW,ό Xr,if_NoItem]
 ext Íx Wt Wm p7 Vy VY WN W9 Va;show äU W8 c_LimbError VE #[Vg,Vh,⋯] WX c_Taken #[Wn,Wo,ό Xr]
 show äU Ws c_Beneath (Á9 c_LimbError VE) #[Vz,VA,ό Xr] WV c_Far #[WP,WQ,ό Xr]
 have sN:ExS K c_NoItem:=#[s1,s2,e6]
 have er:ErF K c_NoItem c_Beneath c_Far ì:=#[EA WF,BF Ws,BF WV,nb,nf,fb]
 refine#[ÉI "law" "law" qK dc cd,λ s v=>.of_eq rfl,Áp base _ _ Bl C1 C2 C3];have B:Bx l.prog w K mg base h:=#[X,G]
 ext ÃG UV Af1 Al UU WR;have VD:=mkE B WF Am1 λ F=>xR F sN aN;have a7:=Èv Af2 GC;have Uv:=mkC B i5 W1 Wk Wl Am2 λ F=>Ab F b9;have WL:=mkM B i5 Am3 λ F=>Ac F b9;have r0:=mkM B i5 Am4 λ F=>tJ F b9;have j5:=ÒU Am5 vZ a9;have v8:=mkX B i5 Am6 λ F=>pj F b9 UV p9 (uq WX) Wt VD v7;have i6:=ÒU Am7 oj u5;have u9:=mkX B i5 Am8 λ F=>om F b9 i6 i8 a9 (uq Ws) p7 (uq WV) VY;have Vk:=mkM B i5 Am9 λ F=>rJ F b9 j5 r0 i8 u5 VZ;have UW:=mkM B i5 Am10 λ F=>rc F b9 j5 i8 u5 i9;have V0:=mkM B i5 Am11 λ F=>xS F b9;have r6:=mkX B i5 Am12 λ F=>xU F b9 v8 u9 r0 Vk UW j5 v3 Wr;have j3:=Èv Af3 Gz;have j7:=Èv Af4 xZ;ext ÃG j9 Af5 Aj j3 j7;ext ÃG V5 Af6 Jc a7 j3;ext ÄB VF Af7 GD a7;have v9:=mkF B Af8 λ F=>wf F (Do r6) er v7 p7 VY;have WH:=É3 Af9 On V0 (Do r6) VF v9;have Uw:=mkF B Af10 λ F=>Jd F j9 j3 a7 j7 V5 WH Uv;ext ÄB u3 Af11 D9 Uw;ext ÄB u4 Af12 D8 Uw;have r9:=Èv Af13 Lr;ext ÃG Ux Af14 Lp a7 r9;ext ÃG UQ Af15 Ln a7 Ux;ext ÃG u7 Af16 GE Uv r6;ext ÄB UX Af17 Aq a7;have UY:=Èv Af18 Am;have Vq:=mkF B Af19 λ F=>DX F a7 Ux UQ UX i6 WT;ext ÃG u6 Af20 rK Vq a7;have k7:=mkF B Af21 λ F=>Ao F u3 u4 (Hb u7) a7 UY u6 Vn;have Vr:=É3 Af22 D6 a7 UQ i7 a9;have pi:=mkF B Af23 λ F=>Cu F u3 j9 k7 Vr a7 Vn p9;ext ÃG UZ Af24 Ai k7 u4;ext ÃG l7 Af25 Ak UZ u7;have n9:=mkF B Af26 λ F=>Ct F a8 V1 Vp;ext ÄB d7 Af27 D4 n9;have VH:=É3 Af28 Gv d7 a8 d8 a9;have Vt:=mkF B Af29 λ F=>DY F d7 a8 d8 a9 j6;have UL:=Èv Af30 xY;ext ÃG V6 Af31 Jf j6 p9;have V7:=Èv Af32 Je;have UB:=É3 Af33 we k9 VX a8 V2;ext ÃG U3 Af34 Ah k9 VX;have Vs:=mkF B Af35 λ F=>DZ F n9 a8 d8 a9 j6 Uz;have VG:=É3 Af36 Gx WG U0 Vl UA;have VI:=É3 Af37 Gy VG a8 V2 j6;ext ÄB u8 Af38 Gu d7;have p6:=mkF B Af39 λ F=>uH F VH r9 a9;have VJ:=mkF B Af40 λ F=>Gw F p6 Vs VI u8 d7 a8 Vp a9 U1;have VL:=mkF B Af41 λ F=>GA F UB U3 VJ a8 d8 a9 j6 p9;have VM:=mkF B Af42 λ F=>Gs F u8 Vt VL a8 d8 a9;ext ÄB Vu Af43 DW i7;ext ÄB UK Af44 xX V6;have Vv:=mkF B Af45 λ F=>D7 F (BI Af45.1 F tb1) C1 Bl Vu UK a7 Vi c8 j6 i9;have V8:=mkC B UG W0 We Wf Am13 λ F=>Af F UT;have WJ:=mkM B UG Am14 λ F=>Ae F UT VM a7;have j8:=mkM B UG Am15 λ F=>xW F UT Vv i9;have VN:=mkM B UG Am16 λ F=>uG F UT j8 a7 c8;have UD:=mkM B UG Am17 λ F=>xV F UT j8 UL V7;have U4:=mkM B UG Am18 λ F=>Ag F UT j8 VN a7 r9;have UC:=mkF (k:=1) (ps:=["store","deed"]) B Af46 (ę KH);ext ÄB UH Af47 Cs UC;have WK:=mkF B Af48 λ F=>Om F UD U4 UH;have V3:=mkC B v6 W7 WC WD Am19 λ F=>Cp F UI V8;have US:=mkM B v6 Am20 λ F=>Co F (T:=T1) (R:=T2) UI WJ;have Ww:=mkM B v6 Am21 λ F=>Ït Cq U4;have U5:=mkM B v6 Am22 λ F=>Ït zY UD;have n6:=mkM B v6 Am23 λ F=>Ït zZ j8;have U6:=mkM B v6 Am24 λ F=>Ït tI WK;have Vx:=mkM B v6 Am25 λ F=>vY F UI n6 l7;have VP:=mkM B v6 Am26 λ F=>xQ F UI n6 pi;have Uy:=mkM B i5 Am27 λ F=>pq F (Iv V4 Am27.1 F tb2) C2 Bl b9 Vo c8;have UJ:=mkM B i5 Am28 λ F=>qw F b9 Uy u5;have Wq:=mkM B i5 Am29 λ F=>Ad F b9 UJ i8 UP a9;have Wu:=ÒU Am30 xT i9;have VO:=ÒU Am31 uF u5;ext ÄB Vj Af49 Gr a9;ext ÃG Wp Af50 Op j4 a9;ext ÃG WI Af51 Oq Wp a9;ext ÄB UR Af52 Lq Vi;have Wv:=mkF B Af53 λ F=>Lo F WI UR i7 j4 VZ d8 c8;have Vw:=mkF B Af54 λ F=>Jb F Wu WL VO;have VQ:=É3 Af55 GB UR c8 j4 V1;have VR:=mkF B Af56 λ F=>Oo F l7 pi Vw Vx n6 VP Wq i9;exact QP F0 (BI a0 F0 tb3) C3 Bl Vj Wv VQ VR V3 US U5 U6 Ww c8 j4 a9
theorem Uu{l:W.OpenLaw}{XP:(XF)->Þ Heap}Ôc{K:Params->XY}(hn:l.most=Ã 63)Öf Üm(tb0:∀ w:XM,(W.tabIn (K w.params) "ready_of")=Ã (c1,T1))(ht0:ÔN c1 T1)(tb1:∀ w:XM,(Lake.sk (K w.params) "Plain" "sorted_names")=Ã (c2,T2))(ht1:ÔN c2 T2)(tb2:∀ w:XM,(W.tabIn (K w.params) "law")=Ã (c3,T3))(ht2:ÔN c3 T3)(nT01:T1≠T2)(nT02:T1≠T3)(nT12:T2≠T3)(nt:∀ w:XM,ú W.noTabs (K w.params))(F:∀ (w:XM) (mg:XF) (fa:XH) (h:Heap),(K w.params).In h->h.Ns mainGlobals mg->ÁK d.name fa ->
   ∃ fd:XO,(ÏX u "_law_script")/\∀ base:Heap,(K w.params).In base->ÝM (K w.params) (spLaw80 (K w.params) T1 T2 T3)):
  Ôk W.WalkO :=
 ÃK Lake.Hm n 63 k 14 x "_law_script" (tabs:=ę [(c1,T1),(c2,T2),(c3,T3)]) (sp:=λ w=>spLaw80 (K w.params) T1 T2 T3) hn ⋯ hdf #[rfl,Àv] hY (λ w h y t htm=>by
   ext ϋ htm htm
   .exact ht0 w h y
   ext ϋ htm htm
   .exact ht1 w h y
   rw[Zg.mp htm];exact ht2 w h y) nt
  (λ w mg fa h k g e=>let⟨fd,b,r⟩:=F w mg fa h k g e;#[fd,b,λ base k2 g2 bl cs=>r base k2 g2 bl (Éw cs) (cs _ (.tail ÌG)) (cs _ (.tail _ (.tail ÌG)))]) (λ w H a ns hl hT hS=>#[a,ns,Ì hS,hl,Éw hT,hT _ (.tail ÌG),hT _ (.tail _ (.tail ÌG)),nT01,nT02,nT12,ę rfl])
#check Lake.K80
#check 0
end
local macro_rules|`(mutual #check $s:str end)=>return Lean.mkNullNode (←(s.getString.splitOn " ").toArray.mapM fun w=>do
 let n:=Lean.mkIdent (.mkSimple s!"tw{w.foldl (fun n c=>n*52+(c.toNat-if c<'a' then 65 else 71)) 0}");let d←`(def $n:ident:=());return d.raw)
namespace PySem.W.Fast
mutual
#check"fqhxRewZVgu lKuhmTiXHXd xdPIkFcEzIU UkmNNAIKTtQ pIxUVaAMetJ gZkNoRLlGWj BDXaNKxtCYnj CNMXHokjgMks rNjpnZInRiR BCqIDCrSDIia BEavpQUOPutK CEtzAdxqcQjT BPDIhKEXXATk BxOayhvZLTHX BkWrSDRFGne BTbTEbfceyvv uxaSyEKEmsp CSxYMbAwzfcK Fidcpruudh BRwLWTtltkEw CScpwLCQUUCT BwardaSXyiuJ BUFQxZNeuctK BMSyBsuQHBa BoTSRSQlTGIF xgyvJFdVTGM CIlQGsJXjIYG ltvQrwFjcBP BbtyNkEnCBEs CQUZxohXJARS BbwrhDTyCyUN loJFXPXltnY BXsoLURdtfMs CQtdGGmQilrG CMMHIgKdIYvU NypsztFRZhB BlwoWhuloONf TbpMmwirkrh kiIvBSoNuOs iSOpzmtwUsV CGNgMOGJzkqg BDRfsEfiYqzn yRivhLzaTxR pWKAvvxvZOB aUFYyoXTEP IFfkCxqXWzs UshRbuHVnwx NAydWBlzJJB yTZayqwEhiL BSxFLGjxTder BqpMEuqnDUGj BBFrpEXiyGOQ bwLnunZDfjm QjWKlUGWllw nuvbOhOIQjn rMMPTPhFhvs BTyDOxDUwVbY gvcVJnIRdxq BAiExmGWcdTb TZBlJtqokNA tdHiXlxhaGO BejITnRtnvcq bCQPoKebHEI bLrgoxJtPbv KWaLRjJiKZx eNFWegIPYMW BfQnIMqoUsot BnyICWoDmyGX DWGcRoSKrCR BCMdSIKyNmKW inJCnxwHCRb BGSBuOJWAPBP SrbGAfsfxMw GsnWxRAvyEq CFOEzLwWokfG CRpAvvilZKRl BeJDzleKVwyL lIaAGcweMny BbGxpIECWNEG CMawUqNSIHeT BAZhEiANALKp BNQkSmONOXEn CFpjpxgBjUwz BDoBFJQNtbwE CLpImjBZNmMn BtRAtLqafIvM BFsWLqQyFRzy sMgNKlukGOs BrZCbQRcuqMc BkiJmZYPMOxP BdLWCRKXxqam CIIuvBVqdUHx BOdSMUOAoRul BtUXRvSnGKUL CPYvKAjXEtFC BMKCcyRKDamQ BWKrnEofAsjn vAZyPyaOqID BKBhdsBQFDLU CHIyijGEGhyg CAxfqOggkrsZ ZmkWyCXJIqM BmnfjmlSeZQT CVxWFURWhYya PzuJXSgoMeM BapqQyteNSXV RQCabKzjgHb iSlVhLiHsPI BbVVPJtferHe CDJEwwjLxuXL BOeczuGdguFQ BjafWWmooOhW BFakKKusjQTq ygdpTULqIGL CFDZfRCADUmS BBYgXKKREYCu BiZWCKfPcvLn CGbNmhpyFfYQ acTIskgKwFR vSTjICRgrmb PJmuUxOrcub JffUfbpdWUc CDOWwzxzeUrn BoASSILicLqF ByrNFZQjaktW BJGMRXZfhxOX BTbwuGxtKnRS BNAtppuYgaTD BHHUHSfVKbMB BTflpBAKStBr MpmrKkvDxkK BfkOkRsrOrEp wFSRbPTQsCy CVtDGwewGroB CPFlMhzdocdc BALUultibVej QINIFolJvIg sOvufhzeUtr fAnjbGQtCnx sqHonDeavBP BOGIapwFCKhz BmITNDudTIRW BhqEcVvCaRSw HjsRDFlGowE SiZRuhBVigv CKOEbwlJPFTf tivhPjGUWus BjJRULVIRlYm vuIZzfhGjvY BEEmBEzkETXW BBIGkTxhBOSL RXAxnPVHwEv mVZCKpsPhvT CCVJLNtqxGNX CIWzhXjLBQTT BaUXbWooioig xZQZpjyIDJB BLTxOfHrdwgU VNQTIcCzuvX BlCYzWfkQrwH SGsOeFQVlGN CEglcvCJGzfu jfLavzYkJVu IWVqsOUToVT hQFjkInTUdX CBwqbNESoWux BqDWxcRmJqAG BTpPibKdwjYG QEskKFciJXi mTXxuoxCAcO BOxTqOzusgFw IPxCMIbCyKV QrLeSQEEAnm oIKOmJHgdWY fxfBWJPgMuE BCtJfGPbhPlH ekvxJYBiZLe BomshNdfidSn BJtQAtPChFtg CWPbhOPuQBLY jcBPtyCOYNT CSrNNmJJWLQH BRShINTMiqFJ feqiWTduTJz CUkdRFNnZjGQ wEoFmuobZL BqbCvGxYmiIj BCPMXIqDldUM CTjNgYZpwFsA uGWVHJWrhei XydlhINkXNJ wBJolZXkDjc BJyMswLcTZZ pxFJLEcdHLP BQVbchLgNaUQ BQduAazedqUA BUhrmXiAeAOH CWvdlxRWsyby FRnOcHZZYdb BmXCBFxiPbcu wsthycgeqAZ COGQAIwlFaWt CUeBRdUYUrIF BkCpPnwqzCSO BHRokoNfhWyx CGYvwkenFYSO CQRZLqJDfTev CCxcHczSfxAq BEERXrLRunuX vQENNQleFZZ KbAcgfAamOg CAFjnFsZJHyh BsmDoGCAXhtb BwxuJwMjQRDl BlMygtFMMaDt BXWMeducKxfT BTkWOJqxEhda BjglJyjTwvoU xmXmpiwtkSl CKgBjnCWFpkg MNVtCciuocD MNiLvKHvLlQ WTrTLOHEfqB MtdcUBZFfDi BUTBSqiQETEr BDbifRZzobSp rjJzrPqWPJs CDIzGKRZJkZA bILHTWQXloo BFxGEmvrRXpi BsiQGvbHMvLj dHmeBAXgVpb IltYuOnscyQ BOvZEyfRzgNC XrdSVnSEUVW CDUDteJMBOtB gBgwFkBmXAo aGCjTTVtxUk CXAboXiDIhRV WAYkQdEiiSK BJLwqviZLjxv BREsrEKikaAz cVQEqGcTsZk CNiyIGPrXfaB rTcjFVpTZuv xzknUWZTAYu CLHRmrwAmlDO BKAzaXvcijmi CHhMuqPpSqeG MCpPRFVKDOj BVRKnYdinDCx BrZKdTOoXSPZ TqwabDBVMoK vMNjrFPRnGd XpbEcZeiwbC BWbTAWonuQdd BDFbnOpJIMbe BPfaQVkxEXUW BpJjKlXfVQjj DAFJYNcRIzp FBFPMZvHTAq BMAuwswhzRfi BdHdfXRboQJO BppTKgvvuWll dIPmGGFNHpV tFdknJvRcpv CCdVHRBwsbIp CHiGMGMCLxNI CVcMPWUQSbgB BKKTxZMyIUZX ByFvDfpIvZGw xamMArQBsZT WSCEvJvRWDP CMpEHhzwLCyz UagZCjVEKyy BDJXMDhrMgpl lGnDxnidrql BTXbIDrRexTX CWqOGiMKiEoo BGADfMFeUZLJ BwbJXFnqjUmD CDnPfVDfirIx OtHZEANsocU BNuSJlrsGles rJceeBrckjj BAsjrQSrEEBJ BRMOzXrnPkpF BKGCfMuNFeGB BgmGloSDzrFF BYQPXqipSXHR BtWgyVBBwoEw BfraeFOVGEqF BlsmEkXNxCOh BMsykbFhoAjx BfIgBACesGAo VdxCjuNyxeQ CKQsWxxJZFex RCaVWAayEQa CSHzcJokMwjr CDaJEeSudqzG VRFnFVBsDhH ykhFOufcKeh BhEMKcKdwyap CAfRNXhsYNyE RiQSROTfYFB CLgpyTAvcmgB BtbhqCEBnIKH mbdfcoePBDs CJdPobHfXbtw utnOUWGzvLf BeUxdiTedWB BTPUZOyFyzQB BziFXWmoLUCq BUTnIPuPShPc CVaQNBFWeoop YZDnRfeVnWc CCNyQvrfFxhT BOmioFgLszyy XWtWyZvmCiR ZgXBKwPPQmJ BfjlwiQrlCsR WOTtJBwZFCr LYGbMEIFRFs BpGQogTLlTlJ BmCSXQlQlxiT MPvvoLVEwtr CEeZDfTitnru LoGopngoRsX takcavyLmVl yDEzNBvZvSv BIUiSxGClCFn iEjHprEXcOH BGtkUtPSAzso BvNdlAhgOcWu CCYlPVYiFcZE CCMvxNTTPvzc ExFzSwkXtQv CXJzOAfwHWAQ BFheADhzRNgM HoDtOCsUlXU BAJVcjpSNBpQ UhxHgfxtUCo cXYTUzxtVlt CUDrHNFIFJcr KChVjYMnupq eaqySLSbKJK BkaxYQhxdpyh jQrNHPfhThT TVgMrUzFxKI PADoiZjSrnw BxWHbCBAPEIU lJeTTwgmtPi vtjOsXxpBGe BccLVGuwxVhs BhgWAyLytmLU RdakVUDwHdQ tUFwjYYIWnv CRaCjqZLRukr KOuQRMJwset NjEVWKueyKS BlgmZytonoTO yAMZreWkFEZ IfbefVavLyR tRGIVaSIZby BHJQHDOoUcvp CFljoCpzlenS BgaMopoIdaTZ BFAFppKGRRhA BpzBwgyDAZLx PZvAhhLhPNb bLTHWlnQcHb BxSzeKJQyHPV hsUODOLcjsY BDHzjaayejWK CELerWXiugxr XQEbIDXwMhh CISfoZEcdfCR CMmnUAPvLKkD BVdHfHbakDuV BbwmaAVyXocD KzaYKMkAZBS psTOWGjySjg CHDrxXwfNTJG BHBaGUREaIyU cBlDZbWxhrb CESSwNlKRdIX BOcBGeiOLJgu BZQHJfOLZUWp COaKBnyGqeIZ CFynfObckgEv BEmFketHGqol BYTDOMBPHEBc DNZyITipYIX BXODipPOsOZn QuCQhPtOrxR YvevoXwwgOD iUCSGKoMsQC BHsNMyvlCMZw CPZThxitbbvq SSJNGGRKVey VYeyOXBGGBg BXaBDObCHQAL ZikvkbiSSBR PvffNZyUBbY BKtnbFwrUMyR BwasAHjGqazm CKKMUzgfmaHI BoNTaTcYUwXd pGRABpSUKkT BpqMSyXBxhJC BGzdTUwXQASl CJRmEEHKOotl BHkAoQgCURLv CGXJLIwzrYkL FAdznwWutjT BtiRycqhPuBY GLujQJMhkWs BnocwDYHiBGi JEMjnPeYToY BxAiczvUMDgM CEErRpdyKbxA IeoPgXWSGOA BYEHkWEaqYET BaixOXdrwlMI QcuthjDhPbC BBlclEkTctFK PSfiIuFsRUG qfHrwGBltXz BefowDsJdOyd CQUbcCyzraEf BNMAIMcuQvrk bYLCFnlPzTo BrWvXnQiMLKa BJKwnbzlKGLm CPfUnbaThyzf BQGeJONzYzeE NDIRbLWmhLu CFPfUraUvIJi BRKUilBrzHKZ RtlrVosneXF CKmKmRgHxazN BMJTeGhxCWYd BhUDVxbNGbIg CSDfBjZMxdfG BqoZpImiRmaY BXkNSBtopsis BlTidiregyEA TkeaauMOLtr BiROweLRtYBI HIpPLpZrLRB BGuCBAfPmcJ swqAhSIjhq IFJPfScRVtA KVBzGhyFiNL HGtnmUTCGZt GGKiqdvPkIU RpSyaUeQBaK cFMSetgdhKK PxwlVcTfiED BXypZnLLVlmo nBpxNDNzEPa BdkqpYOpHbQw QlRLFANNRTF CHttLpMWaFki IGFZWiymzpE BmiOqPQwUefX nZipsYTihbU SEpQTidhIwn CRENMQQuyDjP COpxICXxvPta hoJqIQVIRdO KDvlHdfqbAf nrzyAsKxSbW FaWqUKUeiuZ hVHWCpAHNTn CQqmQwuJftTq BnYBjICWtGv BmXVnZIvZFgm BwvMWHZOCOPj BrhmdIDthUjl wRTNeSteCja BjiZcniBRAZB EAeupHcUQNK BdSZvyppTxkN qdEwwIpQcKJ agdZooNhXMg CVIkFjFJjvxz MgJUIpMEEpS CAEBQPjVefOu BFqvmGGCWFgs tjUincgDPev bjepHvYCDlK aWgbQULWVrB CWsAIzcbZHef BalkiPtEtEga CKeqvjgLzlWd GMSFDbLenEY CMMIzkWxQxYn kKHpLVtYrnP hAXdRSRHaOs BjTRXhZAWHxH BpHQjzJsisAk BArycZLmPUBx CXJPLDQOPXmo BBFPWiZPAAyo adJmuyKuXXl BqHaRGomHHBW WotyAoysdod CIgSmyHQHrwK BCXnMkpQHTsY rAbbOwDfcCD TYspqGbNFbD ruuESFyZJCI BsSzGcUjacjF BdyXKKNPeBhe npMRmXZSgkO BnVuVxEYHMgx ByEmWdgLLyZR CLngjpzkUkiH MjBfxdIiZag BOtFtgIAjGae BckIDmLHGijN BVAhBQBYGDtU bMzVicnCgAZ CRuUpRWKqEGq COKMAtdoUNXK akSVqyvRSar ihkXSawekks BGrFWQfMzzzt BOqBYMHPDgCz CAJcXvxYegwW bSXlcNZImFp BWAJESwUMigH jKMjamcghCd lkAUiqILLnW OEYhqwSePBk BvViZDbKkhFF BYsvNCMuMEZE HhyYwVTppuG eCmlMJOCryC BVokHgNIyXKO jEsPRMiSBt ygoHDkTpcht CVZXguYIcqid rWqSWsGoRDi BvNitYfzVSwb veFXHCwqTTm CNfEMeSLZiwH tUdQrUpmfnZ aJqZGemppee BUQBfjOVUuhf BGzobMLZMpps pdPOHfZPwdI CUhBPSrPIoXt yilYvfHILwp KenUemwvhH BgsEBOrZmDed CUwkPPQBAszh BgkRTvQdukhr BmnnVxBHMNww CUnPcPSYGDZb ynJOkySYjLE"
end
end PySem.W.Fast
open PySem PySem.W PyProof.Rows
set_option maxRecDepth 100000 in
set_option maxHeartbeats 0 in
theorem PySem.Challenge.cw_limb_k80_whole_in_any_order_holds : PySem.Challenge.rw_limb_k80_whole_in_any_order.Holds := by
  w_on; o_law; k_head; (case hw => w_witness2)
  k_fill
  refine' Lake.K80.Uu (l := PySem.Challenge.rw_limb_k80_whole_in_any_order) rfl rfl (λw h Y => W.km_in_of Y) ?tb0 ?ht0 ?tb1 ?ht1 ?tb2 ?ht2 ?nT01 ?nT02 ?nT12 ?nt ?F
  case tb0 => intro w; with_unfolding_all rfl
  case ht0 => intro w h Y; exact ⟨codeHd_of_K (km_in_of Y) (by kernel_rfl), km_tabs_of Y _ (by k_mem)⟩
  case tb1 => intro w; with_unfolding_all rfl
  case ht1 => intro w h Y; exact ⟨codeHd_of_K (km_in_of Y) (by kernel_rfl), km_tabs_of Y _ (by k_mem)⟩
  case tb2 => intro w; with_unfolding_all rfl
  case ht2 => intro w h Y; exact ⟨codeHd_of_K (km_in_of Y) (by kernel_rfl), km_tabs_of Y _ (by k_mem)⟩
  case nT01 => decide
  case nT02 => decide
  case nT12 => decide
  case nt => intro w; kernel_rfl
  case F =>
    intro w mg fa h KX G hmg
    refine' Lake.K80.PN KX G hmg ?Wx ?V9 ?Wa ?Wb ?Wc ?We ?Wf ?UM ?UO ?WM ?Wy ?Wz ?WA ?WB ?WC ?WD ?U7 ?VS ?V4 ?Wg ?Wh ?Wi ?Wj ?Wk ?Wl ?U8 ?U9 ?VT ?Wm ?Vy ?WN ?Va ?zF ?zM ?zN ?UE ?Vb ?Vm ?UF ?Vc ?WO ?WW ?WE ?Vd ?t_DEED_PARTS ?Ve ?t_STEP_PARTS ?v5 ?t_FIRST_CHANGED ?VU ?VW ?if_NoItem ?Vg ?Vh ?Wn ?Wo ?Vz ?VA ?WP ?WQ ?e6 ?aN ?s1 ?s2 ?tb1 ?tb2 ?tb3 ?nb ?nf ?fb
    (case Wx => k_is)
    (case V9 => k_is)
    (case Wa => k_is)
    (case Wb => k_is)
    (case Wc => k_is)
    (case We => k_is)
    (case Wf => k_is)
    (case UM => k_is)
    (case UO => k_is)
    (case WM => k_is)
    (case Wy => k_is)
    (case Wz => k_is)
    (case WA => k_is)
    (case WB => k_is)
    (case WC => k_is)
    (case WD => k_is)
    (case U7 => k_is)
    (case VS => k_is)
    (case V4 => k_is)
    (case Wg => k_is)
    (case Wh => k_is)
    (case Wi => k_is)
    (case Wj => k_is)
    (case Wk => k_is)
    (case Wl => k_is)
    (case U8 => k_is)
    (case U9 => k_is)
    (case VT => k_is)
    (case Wm => k_is)
    (case Vy => k_is)
    (case WN => k_is)
    (case Va => k_is)
    (case zF => (repeat refine Lake.K80.gf (by k_is) (by k_is) (by k_is) (by k_is) ?_); exact True.intro)
    (case zM => (repeat refine Lake.K80.gm (by k_is) (by k_is) (by k_is) (by k_is) (by k_is) ?_); exact True.intro)
    (case zN => (repeat refine Lake.K80.gn (by k_is) ?_); exact True.intro)
    (case UE => k_is)
    (case Vb => k_is)
    (case Vm => k_is)
    (case UF => k_is)
    (case Vc => k_is)
    (case WO => k_is)
    (case WW => k_is)
    (case WE => k_is)
    (case Vd => k_is)
    (case t_DEED_PARTS => rfl)
    (case Ve => k_is)
    (case t_STEP_PARTS => rfl)
    (case v5 => k_is)
    (case t_FIRST_CHANGED => rfl)
    (case VU => exact ⟨_, _, _, _, _, _, _, _, rfl, rfl, rfl, by kernel_rfl, by kernel_rfl, by first | kernel_rfl | k_is⟩)
    (case VW => exact ⟨_, _, _, _, rfl, rfl⟩)
    (case if_NoItem => exact ⟨_, rfl, rfl⟩)
    (case Vg => exact ⟨_, _, _, _, _, _, _, _, rfl, rfl, rfl, by kernel_rfl, by kernel_rfl, by first | kernel_rfl | k_is⟩)
    (case Vh => exact ⟨_, _, _, _, rfl, rfl⟩)
    (case Wn => exact ⟨_, _, _, _, _, _, _, _, rfl, rfl, rfl, by kernel_rfl, by kernel_rfl, by first | kernel_rfl | k_is⟩)
    (case Wo => exact ⟨_, _, _, _, rfl, rfl⟩)
    (case Vz => exact ⟨_, _, _, _, _, _, _, _, rfl, rfl, rfl, by kernel_rfl, by kernel_rfl, by first | kernel_rfl | k_is⟩)
    (case VA => exact ⟨_, _, _, _, rfl, rfl⟩)
    (case WP => exact ⟨_, _, _, _, _, _, _, _, rfl, rfl, rfl, by kernel_rfl, by kernel_rfl, by first | kernel_rfl | k_is⟩)
    (case WQ => exact ⟨_, _, _, _, rfl, rfl⟩)
    (case e6 => k_is)
    (case aN => k_is)
    (case s1 => k_is)
    (case s2 => rfl)
    (case tb1 => with_unfolding_all rfl)
    (case tb2 => with_unfolding_all rfl)
    (case tb3 => with_unfolding_all rfl)
    (case nb => rfl)
    (case nf => rfl)
    (case fb => rfl)
