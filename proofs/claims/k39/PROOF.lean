import PyProof.Rows.All
import Wide.All
import OpenK.AllK
import Wide.FinOn
import PyProof.EqAt
import PyProof.EqKinds
import PyProof.TupleCall
import Lean
import PySem.Challenge.RW_limb_k39_whole_none_is_lost
set_option linter.all false
open PySem renaming wpAny_bind→z9,wpAny_pure→Za,wpAny_holding→ZJ,wpAny_mono→ZQ,wpAny_newObj_type→ZR,wpAny_callSpecial?_slot→ZU,wpAny_field→ZV,wpAny_call_entry→Z0,boot_len→Ya,wpAny_dictEntries→Yg,wpAny_setField_rec→Yi,mem_of_lookup→Yk,wpAny_dictEpoch→Yz,wpAny_seqItems→YG,wpAny_rule→YH,wpAny_setField→YO,wpAny_typeNameOfWhole_itemiter→YT,wpAny_truthy_bool→YU,wpAny_loadPart_at→YX,wpAny_attempt→YZ,wpAny_typeNameOfWhole_keyiter→Y0,wpAny_forIn_list→Y4,codeAny_mono→Y7,wpAny_Call_Name_kw→Y8,wpAny_typeOf→Y9
open PySem.Heap renaming get?_push_of_some→Zb,get?_push_size→Zl,lt_size→Zq,get?_update_self→y8,get?_update_other→Yd,size_push→Y3
open List renaming length_map→Zd,getElem?_eq_getElem→Ze,length_append→Zf,mem_cons→Zg,mem_singleton→Zh,mem_cons_of_mem→Zj,size_toArray→Zk,length_cons→Zm,mem_cons_self→Zn,map_cons→Zr,mem_map→Zt,getElem?_eq_some_iff→Zu,getElem?_map→Zy,map_append→ZA,not_mem_nil→ZB,take_length→ZC,mem_append→ZE,append_nil→ZF,getElem_mem→ZG,mem_filter→ZH,mem_of_getElem?→ZI,mem_append_right→ZN,lookup_cons→ZS,length_filter_le→ZX,length_take→ZY,nodup_cons→Z3,map_map→Z4,filter_append→Z6,mem_iff_getElem?→Z7,mem_filterMap→Yc,filter_cons→Yf,length_nil→Yo,getElem?_append_right→Ys,getD_eq_getElem?_getD→Yu,find?_cons_of_pos→Yv,find?_cons_of_neg→Yw,length_set→Yy,length_singleton→YA,all_eq_true→YD,any_cons→YF,replicate_succ→YJ,take_of_length_le→YK,length_drop→YL,getElem?_zip_eq_some→YQ,length_range→YW,all_cons→YY,map_congr_left→Y1,mem_range→Y2,contains_cons→x8,find?_eq_none→Xa,length_replicate→Xc,append_assoc→Xd
open Nat renaming le_refl→Zi,le_trans→Zs,ne_of_lt→Zz,lt_of_lt_of_le→ZD,zero_le→ZL,succ_le_succ→ZP,ne_of_gt→Yb,le_add_right→Yr,lt_succ_self→YC,lt_irrefl→YE,le_succ→YR,lt_of_succ_lt_succ→Y6,succ_pos→Xb,lt_succ_of_lt→Xe
open Option.some renaming inj→Zo,injEq→Xf
open PySem.Paired renaming length→Zv,snoc→y7
open Option renaming isSome_iff_exists→Zw,map_eq_some_iff→Z1
open Bool renaming false_ne_true→Zx,and_eq_true→ZK,false_eq_true→Z5,and_false→YN
open Array renaming length_toList→ZM,getElem?_eq_getElem→ZW,getElem?_eq_some_iff→Yt,getElem?_toList→YB,mem_toList_iff→YS,getD_eq_getD_getElem?→x9
open Ne renaming symm→ZO
open PySem.PassesOwn renaming never→ZT
open PySem.Heap.SameBut renaming update→ZZ
open Int renaming emod_nonneg→y9,emod_lt_of_pos→Ye,toNat_natCast→YV
open PyProof.Rows renaming slot_tuple_getitem→Yh,callWith_type1→YI
open PySem.F renaming slot_dict_itemiterator_next→Yj,slot_dict_keyiterator_next→Yl
open PySem.W renaming mg_of→Ym,kia_one→Yn
open PySem.Obj renaming data_mapFields→Yp
open PySem.Calls renaming callWith_builtin→Y5
def Ox:=@if_pos
def Ow:=@if_neg
def Z2:=@congrArg
def Z8:=@beq_iff_eq
def Z9:=@or_false
def y0:=@of_decide_eq_true
def Yq:=@if_false
def Yx:=@beq_eq_false_iff_ne
def YM:=@decide_eq_decide
set_option Elab.async false
set_option compiler.extract_closed false
set_option maxRecDepth 100000
set_option maxHeartbeats 2000000
local macro_rules | `(tactic| omega) => `(tactic| first | with_reducible first | assumption | exact Nat.le_of_lt (by assumption) | exact Nat.le_refl _ | exact Nat.lt_add_one _ | exact Nat.le_trans (by assumption) (by decide) | exact Nat.lt_of_lt_of_le (by assumption) (by decide) | exact Nat.sub_lt_sub_left (by assumption) (Nat.lt_add_one _) | exact Nat.le_antisymm (by assumption) (Nat.le_of_not_lt (by assumption)) | lia)
local macro_rules | `(tactic| decide) => `(tactic| decide +kernel)
abbrev Oy:=List (PySem.Addr×PySem.Obj)
abbrev Oz:=PySem.Value->PySem.Shared->Prop
abbrev OA:=PySem.Str->Option PySem.Value
abbrev OB:=List PySem.Value
abbrev OC:=PySem.Addr
abbrev OD:=PySem.Shared
abbrev OE:=PySem.Value
abbrev OF:=PySem.Program
abbrev OG:=PySem.World
abbrev OH:=PySem.Around
abbrev OI:=PySem.FuncData
abbrev OJ:=List Int
abbrev OK:=Array Nat
abbrev OL:=Nat->Nat->Bool
abbrev OM:=PySem.Expr
noncomputable section
set_option hygiene false
set_option linter.defProp false
abbrev Qa:=@PySem.W.Frag
abbrev Qb:=@PySem.PyData
local macro_rules | `(⋯) => `(by decide)
local macro_rules | `(∅) => `(by omega)
local macro_rules | `(#[$xs,*]) => do if xs.getElems.isEmpty then Lean.Macro.throwUnsupported else `(⟨$xs,*⟩)
local macro_rules | `(↑$x:ident) => `($x P w K mg base)
local macro_rules | `(↑$x:num) => `(q_v $x)
local macro_rules | `(↑99) => `((hr.mono (by decide)))
local macro_rules | `(~~~$x:num) => `(⟨rfl,rfl,rfl,by decide,rfl,by decide,by decide⟩)
local macro_rules | `(tactic| exists 0, $x) => `(tactic| refine F.okQ $x (fun vs H Q E h=>?_) (fun cdv A outer s H vs Q E hr h=>?_))
local macro_rules | `(tactic| exists $x) => `(tactic| (refine F.okQ $x (fun vs H Q E h=>?_) (fun cdv A outer s H vs Q E hr h=>?_);(first|(· cases h;subst_vars;rfl)|(· repeat(first|(obtain⟨rfl,_⟩:=h;rfl)|obtain⟨_,h⟩:=h)))))
local macro_rules | `(tactic| exists _, $y) => `(tactic| (refine ⟨_,$y,?_⟩;try rw [cxK]))
local macro_rules | `(tactic| exists [$xs,*], $e) => do
  let ps ← xs.getElems.mapM fun x => match x with
    | `($i:ident) => `(Lean.Parser.Tactic.rcasesPatLo| $i:ident)
    | `(_) => `(Lean.Parser.Tactic.rcasesPatLo| _)
    | _ => Lean.Macro.throwUnsupported
  `(tactic| obtain ⟨$ps,*⟩ := $e)
local macro_rules|`(mutual $c* end)=>do
 let a:=c[0]!.raw;let e ←`(command|end);let q ←`(noncomputable def x:=0);let z:=Lean.mkIdent `z_
 if a.isOfKind ``Lean.Parser.Command.check then
  let f (u:Array Lean.Syntax)(s:Lean.Syntax):=s.rewriteBottomUp fun s=>match s.setInfo .none with
   | .ident _ w _ _=>if w.bsize=2 then let n:=(w.str.get w.startPos).toNat;if n<192 then s.setInfo .none else u.getD (n-192) s else s.setInfo .none
   | s=>if s.isOfKind ``Lean.Parser.Term.basicFun then s.modifyArg 0 fun s=>s.setArgs (s.getArgs.map fun s=>if s.isOfKind ``Lean.Parser.Term.hole then z else s) else s
  let v:=a[1][1].getSepArgs.foldl (fun v x=>v.push (f v x)) #[]
  return Lean.mkNullNode ((c.extract 1 c.size).map fun x=>if x.raw.isOfKind ``Lean.Parser.Command.check then e else
   let y:=f v x.raw;let k:=y[1].getKind
   if k= ``Lean.Parser.Command.definition||k= ``Lean.Parser.Command.abbrev then y.setArg 0 (y[0].setArg 4 q.raw[0][4]) else y)
 else Lean.Macro.throwUnsupported
set_option tactic.hygienic false
set_option bootstrap.genMatcherCode false
namespace Lake
open PySem PySem.Spec PyProof.Rows
mutual
#check#[(Inv X ON Y H s),(model X.prog X.w),(∀b∈ch,(b∈X.ex\/X.s₀.heap.objs.size<=b)/\b≠X.env.locals/\(∀x c,X.env.cells.lookup x=some c->c≠b)/\∀p∈X.pn++ON,p.1≠b),(List.toArray [.int lo t,.int hi u,.int 1 v]),X.env.locals,X.env,(∀b u,h.get? b=some u->h'.get? b=some u),(.inl rfl),X.s₀.heap.objs.size,(x==("__debug__":Str)),(thn (ha ON s Y H _ I h) λv s1 hz9=>?_),(Zz (ZD (Zq e) (I.ok.cab x c hfn hc))),s.heap.objs.size,(by simp),s.heap,(ZD (Zq e) I.ok.above),h.objs.size,(.Name x pos),(.tup xs),(he ON s Y H _ I h),(I.base.keep b o e n hb hx),(thn (ha ON s Y H _ I h) λc s1 ⟨H1,I1,q1⟩=>?_),(thn (hc ON s Y H _ I h) λd s1 ⟨H1,I1,q1⟩=>?_),0,(Bool->Hp->Prop),(X.N[i]?=some x),(λ_ s'=>∃σ' H',Inv X ON σ' H' s'/\Q σ' H'),X.env.scope,X.prog,(by rw[I.ok.glob];exact I.mod.glob.keeps I.bk),(HOk P w H h),(∀b u,b≠e->h.get? b=some u->h'.get? b=some u),(I.base.free b o e n hx),xs.length,(∀b u,s.heap.get? b=some u->h'.get? b=some u),(∀b∈fp,bQ X ON H b),(λz=>hc (by simp[z])),(List V),(Nat),(e=x\/H e=some (.own x)),(∀b∈fp,H' b=none),(∃u,h'.get? e=some u),X.xe,s.heap.push,(thn (ha ON s Y H Q I h) λc s1 e=>?_),X.stack,(neC b o e hx),(upd H a o),(some v),(.ref it),(St->Hp->Prop),(.frz o u),s1.heap.objs.size,(It->Hp->Prop),(∀b xs,H b=some Ò->H' b=some Ò),0,(hm b _ q λz=>z),(a::b::rest),(I.ok.hd hc),((0:æ):Int),(W.methodObj (.ref f) (.ref y)),(Heap),X.base,X.env.scope.kind,X.fs,(List V->Hp->Prop),its.toArray,(aj q hn),(HOk Ü X.w H' h'),(PT X a tA),(model P w),(.BoolOp .And (b::rest) pos),X.outer,(Sum.inl a:Key),(Sum.inr a:Key),(I.freeC x c e),(.BoolOp .Or (b::rest) pos),(List (Option V)),its.toList,(List OC),(.Compare a [op] [b] pos),(letOwnedTupleGo tg ñ u),(λb o hb e=>eb b o hb e),(((hi-lo).toNat:Nat):Int),(Unit->OD->Prop),X.A,X.N.Nodup,(EP X ON Y Q),(thn Ó λv s1 hz9=>?_),(ZN _ (ZN _ (jm hb e))),o.data,(PE X a ta),(PE X e te),(Y.set i ð),(.BoolOp .And ù pos),(.UnaryOp .Not a pos),(I1.hok.fresh (Zi _)),(.BoolOp .Or ù pos),(.Subscript o i pos),(bootBuiltins x=some u),(PassesOwn Á ĕ Å ê),(upd H x o),(.own a),(h ON s Y H Q I hw),(h ON s Y H _ I hw),(by rw[z];exact hb),(Loc Û x),(RelV v u),X.calm,(storeName Å x u),(λ_ q=>q),(X.wish E),(.tbl (ps++more)),(I.ok.noex b o e),(PIE X ON Y tg R),(H a=some o),(YE _),(List Key×OC×OE),(λq=>nomatch q),(ObjOk P w H h a o),(trk h H),(a==sysModules),(Mut (H x)),X.ex,pos.line,s.toks,p.isList,(h.get? b=some o),(Nat->Heap->Prop),X.env.globals,(.int i),(.str x),(fs.lookup f),(I.cne x c e),(TP X ON Y Q),(RelV x u),(Array OE),0,(H b=none),(Gl X x),(SqL X.K H a xs),(b,o),(upd H x o'),(eval Ñ Å),(List (Str×V)),(X.mg x=some u),(PC X op a b t),(PSs X body tb),(Zz Ï),(neL b o e),(cne y c e),(eval e Å),(SP X ON D),(pyNext ñ),(Int),(Str),kvs.length,X.K,s.gens,X.w,(.int i t),(.str x t),(stat fr3),(X.mg x=none),ok.frames,rv.length,(2^62),(.tbl ps),(.lst xs),(Itl K a),(AllBare g'),ob.slots,X.Ok,o.cls,its.size,r.length,ok.above]
abbrev Key:=Sum Int Str
def pq:Key->OE->Bool
 |.inl k,v=>Value.isInt k v
 |.inr x,v=>Value.isStrOf x v
def MQ(w:OG):Key->Int
 |.inl k=>hashInt k
 |.inr x=>hashStr w x
theorem cK:∀{k:Key} {v:OE},pq k v=true->(∃i t,k=Sum.inl i/\v=Value.int i t)\/(∃x t,k=Sum.inr x/\v=Value.str x t)
 |.inl i,v,h=>by exists[t,e],Value.isInt_shape (k:=i) (v:=v) h;exact .inl #[i,t,rfl,e]
 |.inr x,v,h=>by exists[t,e],Value.isStrOf_shape (x:=x) (v:=v) h;exact .inr #[x,t,rfl,e]
theorem Ct(i:Ś)(t:Tok):pq (.inl i) Š=true:=by simp[pq,Value.isInt]
theorem Cu(x:ś)(t:Tok):pq (.inr x) š=true:=by simp[pq,Value.isStrOf]
theorem JY(a b:Ś):decide (ĉ=Sum.inl b)=(a==b):=by
 by_cases e:a=b
 .subst e;simp
 .have h:¬ĉ=Sum.inl b:=λq=>e (Sum.inl.inj q);rw[decide_eq_false h];exact(Yx.mpr e).symm
theorem J1(a b:ś):decide (Ċ=Sum.inr b)=decide (a=b):=by
 by_cases e:a=b
 .subst e;simp
 .have h:¬Ċ=Sum.inr b:=λq=>e (Sum.inr.inj q);rw[decide_eq_false h,decide_eq_false e]
theorem JZ(a:Ś)(b:ś):decide (ĉ=Sum.inr b)=false:=decide_eq_false Ķ
theorem J0(a:ś)(b:Ś):decide (Ċ=Sum.inl b)=false:=decide_eq_false Ķ
def bq(prog:OF)(w:OG):PySem.KeyKind prog w Key where
 is:=pq
 hash:=MQ w
 inj:=λv a b ha hb=>by
  rcases cK ha with⟨i,t,rfl,rfl⟩|⟨x,t,rfl,rfl⟩
  .rcases cK hb with⟨j,u,rfl,e⟩|⟨y,u,rfl,e⟩
   .injection e with e1 _;rw[e1]
   .exact nomatch e
  .rcases cK hb with⟨j,u,rfl,e⟩|⟨y,u,rfl,e⟩
   .exact nomatch e
   .injection e with e1 _;rw[e1]
 byValue:=λk v h=>by rcases cK h with⟨i,t,rfl,rfl⟩|⟨x,t,rfl,rfl⟩<;>rfl
 pyHash:=λhv h=>by
  rcases cK hv with⟨i,t,rfl,rfl⟩|⟨x,t,rfl,rfl⟩
  .exact wpAny_pyHash_int h
  .exact wpAny_pyHash_str h
 eqBool:=λhu hv h=>by
  rcases cK hu with⟨i,t,rfl,rfl⟩|⟨x,t,rfl,rfl⟩
  .rcases cK hv with⟨j,u,rfl,rfl⟩|⟨y,u,rfl,rfl⟩
   .rw[JY]at h;exact wpAny_eqBool_int h
   .rw[JZ]at h;exact SeqAt.EqAt.int_str i t y u _ _ _ _ h
  .rcases cK hv with⟨j,u,rfl,rfl⟩|⟨y,u,rfl,rfl⟩
   .rw[J0]at h;exact SeqAt.EqAt.str_int x t j u _ _ _ _ h
   .rw[J1]at h;exact wpAny_eqBool_str h
 «strs»:=λk x t v h=>by
  rcases cK h with⟨i,u,rfl,e⟩|⟨y,u,rfl,e⟩
  .exact nomatch e
  .injection e with e1 _;subst e1;cases v<;>rfl
theorem yD(prog:OF)(w:OG)(i:Ś)(t:Tok):(bq prog w).is (.inl i) Š=true:=Ct i t
theorem yE(prog:OF)(w:OG)(x:ś)(t:Tok):(bq prog w).is (.inr x) š=true:=Cu x t
inductive V where
 |non|bl (b:Bool)|int (i:Ś)|str (x:ś)|byt (b:Array UInt8)|flt (b:UInt64)|ref (a:OC)|ty (n:String)
 deriving DecidableEq
def RelV:V->OE->Prop
 |.non,u=>u=Value.none
 |.bl b,u=>u=Value.bool b
 |.int i,u=>∃t,u=Value.int i t
 |.str x,u=>∃t,u=Value.str x t
 |.byt b,u=>∃t,u=Value.bytes b t
 |.flt b,u=>∃t,u=Value.float b t
 |.ref a,u=>u=Value.ref a
 |.ty n,u=>u=Value.type n
abbrev Vals:List V->OB->Prop:=Paired RelV
theorem Vals.length(r:Vals xs us):á=us.length:=Zv r
theorem Vals.get:∀{xs:å} {us:OB} {i:æ} {x:V},Vals xs us->xs[i]?=some x->∃u,us[i]?=some u/\RelV x u
 |_,_,_,_,.nil,e=>by simp at e
 |_,_,0,_,.cons r _,e=>by simp at e;subst e;exact#[_,rfl,r]
 |_,_,i+1,x,.cons _ t,e=>by exists[u,h1,h2],Vals.get (i:=i) (x:=x) t (by simpa using e);exact#[u,by simpa using h1,h2]
theorem Vals.set(r:Ň):∀{xs:å} {us:OB} (i:æ),Vals xs us->Vals (xs.set i x) (us.set i u)
 |_,_,_,.nil=>.nil
 |_,_,0,.cons _ t=>.cons r t
 |_,_,i+1,.cons q t=>.cons q (Vals.set r i t)
theorem Vals.append:∀{xs ys:å} {us ws:OB},Vals xs us->Vals ys ws->Vals (xs++ys) (us++ws)
 |_,_,_,_,.nil,s=>s
 |_,_,_,_,.cons r t,s=>.cons r (Vals.append t s)
theorem Vals.take:∀{xs:å} {us:OB} (n:æ),Vals xs us->Vals (xs.take n) (us.take n)
 |_,_,0,_=>.nil
 |_,_,_+1,.nil=>.nil
 |_,_,n+1,.cons r t=>.cons r (Vals.take n t)
theorem Vals.drop:∀{xs:å} {us:OB} (n:æ),Vals xs us->Vals (xs.drop n) (us.drop n)
 |_,_,0,r=>r
 |_,_,_+1,.nil=>.nil
 |_,_,n+1,.cons _ t=>Vals.drop n t
def RelO:Option V->Option OE->Prop
 |some v,some u=>RelV v u
 |none,none=>True
 |_,_=>False
def KV{κ:Type}:List (κ×V)->List (κ×OE)->Prop:=Paired fun(p:κ×V) (q:κ×OE)=>p.1=q.1/\RelV p.2 q.2
def kV:Key->V
 |.inl i=>.int i
 |.inr x=>.str x
inductive HO where
 |lst (xs:å)
 |tup (xs:å)
 |dK (kvs:List (Key×V))|dT (kvs:List (List Key×V))
 |set (S:Int->Bool)(n:æ)
 |ins (C dx:OC)(fs:Ő)
 |own (x:OC)
 |xd (fs:Ő)
 |met (f x:OC)
 |rng (lo hi:Ś)
 |frz (o:Obj)(u:HO)
 |tbl (ps:ň)
 |ext (φ:Heap->Prop)
abbrev Hp:=OC->Option HO
def upd(H:Hp)(a:OC)(o:HO):Hp:=λb=>if b=a then some o else H b
theorem ac:upd H a o a=some o:=by unfold upd;rw[Ox rfl]
theorem af(h:b≠a):upd H a o b=H b:=by unfold upd;rw[Ow h]
theorem bw{H:Hp}(h:ĳ)(h':H b=some u)(d:o≠u):a≠b:=by intro e;subst e;rw[h]at h';exact d (Zo h')
theorem aj{H:Hp}(h:ĳ)(h':Ŋ):a≠b:=by intro e;subst e;rw[h]at h';cases h'
section
variable(P:OF)(w:OG)
def ObjOk(H:Hp)(h:ý)(a:OC):HO->Prop
 |.lst xs=>á<=sizeLine/\∃(its:OB) (n:æ),Vals xs its/\h.get? a=some { cls:=.type "list",data:=.seq Ă n }
 |.tup xs=>á<=sizeLine/\∃its:OB,Vals xs its/\IsTup h a Ă
 |.dK kvs=>Ŝ<=sizeLine/\Ĺ=false/\∃vs,KV kvs vs/\h.DictOf (bq P w) a vs
 |.dT kvs=>Ŝ<=sizeLine/\Ĺ=false/\∃xs:List ĵ,
   Paired (fun(p:List Key×V) (q:ĵ)=>p.1=q.1/\H q.2.1=some (.tup (p.1.map kV))/\RelV p.2 q.2.2) kvs xs /\
   ∃o es ep,h.get? a=some o/\o.ExactDict/\Ě=.dict es ep/\es.toList=xs.map (entryOfKey (tupleKind (bq P w)))/\(xs.map (·.1)).Nodup
 |.set S n=>h.SetOf (intKind P w) a S n
 |.ins C dx fs=>H dx=some Ħ/\fs.length<=1000/\dx≠a/\h.get? a=some (W.instObj C dx) /\
   ∃mA,h.Ns1 dx mA/\(∀f,RelO ń (mA f))/\PySem.Within mA (fs.map (·.1))
 |.own _=>∃o,h.get? a=some o
 |.xd fs=>∃mA,h.Ns1 a mA/\∀f,RelO ń (mA f)
 |.rng lo hi=>∃t u v,h.get? a=some { cls:=.type "range",data:=.fields Ã }
 |.frz o u=>h.get? a=some o/\ObjOk H h a u
 |.tbl ps=>h.get? a=some { cls:=.none,data:=.fields ps }
 |.met f x=>h.get? a=some (W.methodObj (.ref f) (.ref x))
 |.ext φ=>φ h/\(∃o,h.get? a=some o)/\∀h1 h2:Heap,φ h1->(∀o,h1.get? a=some o->h2.get? a=some o)->φ h2
def HOk(H:Hp)(h:ý):Prop:=∀a o,H a=some o->ObjOk P w H h a o
#check 0
section
variable{H':Hp}{h':ý}{a:OC}
theorem ObjOk.lt(x:ķ):a<Ð:=by
 cases o with
 |lst xs=>exists[_,_,_,_,e],x;exact Zq e
 |tup xs=>exists[_,_,_,p],x;exact p.lt
 |dK kvs=>exists[_,_,_,_,o,_,_,e,_],x;exact Zq e
 |dT kvs=>exists[_,_,_,_,o,_,_,e,_],x;exact Zq e
 |set S n=>exists[o,_,_,_,e,_],x;exact Zq e
 |ins C dx fs=>exists[_,_,_,e,_],x;exact Zq e
 |own y=>exists[_,e],x;exact Zq e
 |xd fs=>obtain⟨_,⟨_,_,_,e,_⟩,_⟩:=x;exact Zq e
 |rng lo hi=>exists[_,_,_,e],x;exact Zq e
 |frz ob u=>exists[e,_],x;exact Zq e
 |tbl ps=>exact Zq (show h.get? a=some _ from x)
 |met f y=>exact Zq (show h.get? a=some _ from x)
 |ext φ=>obtain⟨_,⟨_,e⟩,_⟩:=x;exact Zq e
theorem Paired.mapP{α β:Type}{F G:α->β->Prop}:∀{l₁:List α} {l₂:List β},Paired F l₁ l₂->(∀a b,F a b->G a b)->Paired G l₁ l₂
 |_,_,.nil,_=>.nil
 |_,_,.cons r t,f=>.cons (f _ _ r) (Paired.mapP t f)
theorem ObjOk.stay(x:ķ)(k:∀b u,(b=a\/H b=some Ħ)->h.get? b=some u->h'.get? b=some u)(ho:∀b,H b=some Ħ->H' b=some Ħ)(ht:ö):ObjOk P w H' h' a o:=by
 induction o with
 |lst xs=>exists[z,its,n,r,e],x;exact#[z,its,n,r,k _ _ Ç e]
 |tup xs=>exists[z,its,r,ob,e,c],x;exact#[z,its,r,ob,k _ _ Ç e,c]
 |dK kvs=>exists[z,y,vs,r,ob,es,ep,e,c],x;exact#[z,y,vs,r,ob,es,ep,k _ _ Ç e,c]
 |dT kvs =>exists[z,y,xs,r,ob,es,ep,e,c],x;exact#[z,y,xs,Paired.mapP r λp q z=>#[z.1,ht _ _ z.2.1,z.2.2],ob,es,ep,k _ _ Ç e,c]
 |set S n=>exists[ob,es,ep,t,e,c],x;exact#[ob,es,ep,t,k _ _ Ç e,c]
 |ins C dx fs =>obtain⟨d,z,ne,e,mA,⟨od,es,ep,e2,c⟩,r⟩:=x;exact#[ho _ d,z,ne,k _ _ Ç e,mA,#[od,es,ep,k _ _ (.inr d) e2,c],r]
 |own y=>exists[ob,e],x;exact#[ob,k _ _ Ç e]
 |xd fs=>obtain⟨mA,⟨od,es,ep,e,c⟩,r⟩:=x;exact#[mA,#[od,es,ep,k _ _ Ç e,c],r]
 |rng lo hi=>exists[t,u,v,e],x;exact#[t,u,v,k _ _ Ç e]
 |frz ob u ih=>exists[e,q],x;exact#[k _ _ Ç e,ih q]
 |tbl ps =>have e:h.get? a=some { cls:=.none,data:=.fields ps }:=x;show h'.get? a=some { cls:=.none,data:=.fields ps };exact k a _ Ç e
 |met f y =>have e:h.get? a=some ü:=x;show h'.get? a=some ü;exact k a _ Ç e
 |ext φ=>obtain⟨p,⟨o,e⟩,st⟩:=x;exact#[st _ _ p λo q=>k _ _ Ç q,#[o,k _ _ Ç e],st]
theorem HOk.lt(x:Þ)(e:ĳ):a<Ð:=(x a o e).lt
theorem HOk.fresh(x:Þ)(e:Ð<=a):H a=none:=by
 cases q:H a with
 |none=>rfl
 |some u=>exact absurd (ZD (x.lt q) e) Ĵ
theorem HOk.kept(x:Þ)(k:Æ):HOk P w H h':=λa o e =>
 (x a o e).stay (λb u _ q=>k b u q) Į λ_ _ q=>q
theorem HOk.laid(x:Þ)(k:Æ)(hp:Ð<=a)(new:ObjOk P w ï h' a o):HOk P w ï h':=λb u e=>by
 have hn:=x.fresh hp;by_cases hb:b=a
 .subst hb;rw[ac]at e;cases e;exact new
 .rw[af hb]at e;exact(x b u e).stay (λc v _ q=>k c v q) (λc q=>by rw[af ă];exact q) λc xs q=>by rw[af ă];exact q
#check 0
def Rd(H:Hp)(a:OC)(u:HO):Prop:=H a=some u\/∃o,H a=some ó
theorem Rd.of{H:Hp}(h:H a=some u):Rd H a u:=.inl h
theorem Rd.ok(r:Rd H a u)(x:Þ):ObjOk P w H h a u:=by
 rcases r with r|⟨o,r⟩
 .exact x a u r
 .exists[_,q],x a _ r;exact q
def Mut:Option HO->Prop
 |some (.lst _)=>True
 |some (.dK _)=>True
 |some (.dT _)=>True
 |some (.set _ _)=>True
 |some (.ins _ _ _)=>True
 |some (.ext _)=>True
 |_=>False
section
variable{P:OF}{w:OG}{H:Hp}{h h':ý}{x e:OC}{o':HO}
theorem HOk.write(ok:Þ)(mu:ĺ)(he:ç)(k:ß)(heo:é)(new:ObjOk P w Ŏ h' x o'):HOk P w Ŏ h':=λb u q=>by
 have nown:∀c y,H c=some (.own y)->c≠x:=λc y r z=>by subst z;rw[r]at mu;exact mu
 have ntup:∀c xs,H c=some Ò->c≠x:=λc xs r z=>by subst z;rw[r]at mu;exact mu
 by_cases hb:b=x
 .subst hb;rw[ac]at q;cases q;exact new
 .rw[af hb]at q;by_cases hbe:b=e
  .have q':H b=some (.own x):=by
    rcases he with z|z
    .exact absurd (hbe.trans z) hb
    .rw[hbe];exact z
   rw[q]at q';cases q';exists[v,hv],heo;exact#[v,by rw[hbe];exact hv]
  .refine(ok b u q).stay (λc v hc r=>k c v ?_ r) (λc r=>by rw[af (nown c b r)];exact r) λc xs r=>by rw[af (ntup c xs r)];exact r
   rcases hc with rfl|hc
   .exact hbe
   .rintro rfl;rcases he with z|z
    .exact nown c b hc z
    .rw[hc]at z;cases z;exact hb rfl
#check 0
structure Un(fs ex:ď)(H H':Hp)(h h':ý):Prop where
 keep:∀b o,h.get? b=some o->H b=none->b∉fs->b∉ex->h'.get? b=some o
 slot:∀b o,h.get? b=some o->H b=none->b∈fs->b∉ex->∃sl,h'.get? b=some { o with slots:=sl }
 free:∀b o,h.get? b=some o->H b=none->b∉ex->H' b=none
 there:∀b o,h.get? b=some o->b∉ex->∃o',h'.get? b=some o'
 tups:∀b xs,H b=some Ò->H' b=some Ò
 frzs:∀b o u,H b=some ó->H' b=some ó
 tbls:∀b ps,H b=some ŧ->∃more,H' b=some İ
section
variable{fs fs' ex ex':ď}{H H1 H2:Hp}{h h1 h2 h':ý}{a x e:OC}{o:HO}
theorem Un.any(u:Un fs ex H H1 h h1)(q:h.get? b=some ob)(n:Ŋ)(hx:b∉ex):∃sl,h1.get? b=some { ob with slots:=sl }:=by
 by_cases hb:b∈fs
 .exact u.slot b ob q n hb hx
 .exact#[ū,u.keep b ob q n hb hx]
theorem Un.kept(k:Æ):Un fs ex H H h h' :=
 #[λb ob q _ _ _=>k b ob q,λb ob q _ _ _=>#[ū,k b ob q],λ_ _ _ n _=>n,λb ob q _=>#[ob,k b ob q],λ_ _ q=>q,λ_ _ _ q=>q,λ_ ps q=>#[#[],by rw[q];simp]]
theorem Un.refl:Un fs ex H H h h:=Un.kept λ_ _ q=>q
theorem Un.laid(k:Æ)(hp:Ð<=a)(hn:H a=none):Un fs ex H ï h h' where
 keep:=λb u q _ _ _=>k b u q
 slot:=λb u q _ _ _=>#[u.slots,k b u q]
 free:=λb u q n _=>by rw[af (Zz (ZD (Zq q) hp))];exact n
 there:=λb u q _=>#[u,k b u q]
 tups:=λb xs q=>by rw[af ă];exact q
 frzs:=λb u xs q=>by rw[af ă];exact q
 tbls:=λb ps q=>#[#[],by rw[af ă,q];simp]
theorem Un.write(mu:ĺ)(he:ç)(k:ß)(heo:é):Un fs ex H ĥ h h':=by
 have hx:∀b,H b=none->b≠x:=λb n z=>by subst z;rw[n]at mu;exact mu
 have hb:∀b,H b=none->b≠e:=λb n z=>by
  subst z;rcases he with r|r
  .exact hx b n r
  .rw[n]at r;cases r
 have hm:∀b u,H b=some u->¬Mut (some u)->b≠x:=λb u q nm z=>by subst z;rw[q]at mu;exact nm mu
 refine#[λb u q n _ _=>k b u (hb b n) q,λb u q n _ _=>#[u.slots,k b u (hb b n) q],λb u q n _=>by rw[af (hx b n)];exact n,λb u q _=>?_,
  λb xs q=>by rw[af ø];exact q,λb u xs q=>by rw[af ø];exact q,λb ps q=>#[#[],by rw[af ø,q];simp]]
 by_cases hbe:b=e
 .subst hbe;exact heo
 .exact#[u,k b u hbe q]
#check 0
def trk(h:ý)(H:Hp):List OC:=(List.range Ð).filter λa=>(H a).isSome
def kP(h:ý)(H:Hp):Heap:=W.hideAll h ĸ
theorem Cm(h:ý)(H:Hp):(kP h H).objs.size=Ð:=W.hideAll_size _ _
theorem mK{h:ý}{H:Hp}(e:Ŀ)(n:Ŋ):(kP h H).get? b=some o :=
 W.hideAll_get _ e λhm=>by have q:(H b).isSome=true:=(ZH.mp hm).2;rw[n]at q;simp at q
theorem HM(e:(kP h H).get? b=some o):h.get? b=some o/\H b=none:=by
 have e':h.get? b=some o:=W.of_hideAll ĸ e;refine#[e',?_];cases q:H b with
 |none=>rfl
 |some x =>have hm:b∈trk h H:=ZH.mpr #[Y2.mpr (Zq e'),by simp[q]];have z:(kP h H).get? b=none:=W.hideAll_none ĸ hm;rw[z]at e;cases e
structure Mod(K:Qa)(mg:OA)(base:ý):Prop where
 kin:K.In base
 glob:base.Ns mainGlobals mg
 blt:∃mb,base.Ns builtinsNs mb/\∀x:Str,x≠"__name__"->mb x=bootBuiltins x
 nolimit:base.NoLimit
structure Cx where
 prog:OF
 w:OG
 K:Qa
 mg:OA
 base:Heap
 A:OH
 N:List Str
 s₀:OD
 H₀:Hp
 env:Env
 outer:List Env
 stack:List Env
 ex:List OC
 fn:Str->Bool
 calm:Bool
 pn:Oy
 xe:Oz
def frs(l:List Env):List OC:=l.filterMap (·.frame)
abbrev Cx.fs(X:Cx):List OC:=frs Ĉ
def Vis(sc:Scope)(x:ś):Prop:=sc.names.lookup x=some .local\/sc.names.lookup x=some .cell\/sc.names.lookup x=some .free
def Loc(sc:Scope)(x:ś):Prop:=sc.names.lookup x=some .local\/sc.names.lookup x=some .cell
def MG(env:Env)(h:ý)(m:OA)(x:ś)(u:OE):Prop :=
 (env.kindOf x=some .local/\m x=some u)\/((env.kindOf x=some .cell\/env.kindOf x=some .free)/\∃c,env.cells.lookup x=some c/\h.IsCell c (some u))
structure Cx.Ok(X:Cx):Prop where
 mod:Mod ŝ X.mg þ
 kind:ÿ=.function
 glob:Ł=mainGlobals
 blt:X.env.builtins=builtinsNs
 above:È<=Ä
 inj:∀x y c,X.env.cells.lookup x=some c->X.env.cells.lookup y=some c->x=y
 has:∀x,(X.env.kindOf x=some .cell\/X.env.kindOf x=some .free)->∃c,X.env.cells.lookup x=some c
 cab:∀x c,X.fn x=true->X.env.cells.lookup x=some c->È<=c
 hd:Ĭ=true->X.A.handled=none
 frames:X.A.frames=some í
 stk:í=Ĉ\/(í=Å::Ĉ/\X.env.frame=some Ä)
 exf:∀b∈Ļ,b≠Ä/\∀x c,X.env.cells.lookup x=some c->c≠b
 bs:∀b o,X.base.get? b=some o->X.s₀.heap.get? b=some o/\X.H₀ b=none
 bsz:X.base.objs.size<=È
 noex:∀b o,X.base.get? b=some o->b∉Ļ
 exfs:∀b∈Ļ,b∉Ā
 funs:X.s₀.heap.FunFrames þ Ĉ
 frf:∀b∈Ā,X.H₀ b=none
structure Inv(X:Cx)(ON:Oy)(Y:č)(H:Hp)(s:OD):Prop where
 ok:Ŭ
 os:s.os=X.s₀.os
 bare:AllBare Ş
 base:Un Ā Ļ X.H₀ H X.s₀.heap Î
 loc:∃m,s.heap.Ns Ä m/\∀(i:æ) (x:ś) (v:V),X.N[i]?=some x->Y[i]?=some ð->Vis Û x->∃u,RelV v u/\MG Å Î m x u
 cell:∀x c,X.env.cells.lookup x=some c->∃v,s.heap.IsCell c v
 free:H Ä=none
 freeC:∀x c,X.env.cells.lookup x=some c->H c=none
 pin:∀p∈X.pn++ON,s.heap.get? p.1=some p.2/\H p.1=none/\p.1≠Ä/\p.1∉Ā/\∀v,p.2.data≠.cell v
 hok:HOk Ü ş H Î
 len:Y.length=X.N.length
section
variable{X:Cx}{ON:Oy}{Y:č}{H H':Hp}{s:OD}{h':ý}
theorem Cx.Ok.nofr(ok:Ŭ)(e:X.base.get? b=some o):b∉Ā:=λhb=>by have:=(ok.funs.mem hb).1;rw[e]at this;cases this
theorem Inv.bs(I:À):∀b o,X.base.get? b=some o->s.heap.get? b=some o/\H b=none:=λb o e =>
 #[I.base.keep b o (I.ok.bs b o e).1 (I.ok.bs b o e).2 (I.ok.nofr e) ı,I.base.free b o (I.ok.bs b o e).1 (I.ok.bs b o e).2 ı]
theorem Inv.bk(I:À):∀b o,X.base.get? b=some o->s.heap.get? b=some o:=λb o e=>(I.bs b o e).1
theorem Inv.mod(I:À):Mod ŝ X.mg þ:=I.ok.mod
theorem Inv.kIn(I:À):X.K.In Î:=I.ok.mod.kin.keeps I.bk
theorem Inv.fr(I:À):∃m,Fr þ Ä Î m :=
 let⟨m,hn,_⟩:=I.loc
 #[m,hn,I.bk,Zs I.ok.bsz I.ok.above]
theorem Inv.lt(I:À):Ä<Ì:=let⟨_,hn,_⟩:=I.loc;hn.lt
theorem Inv.sz(I:À):È<=Ì:=Zs I.ok.above (Nat.le_of_lt I.lt)
theorem Inv.nofs(I:À)(h:Ì<=a):a∉Ā:=λhb=>by exists[_,o,ho,_],I.ok.funs.mem hb;exact absurd (ZD (Zq ho) (Zs I.sz h)) Ĵ
theorem Inv.cne(I:À):∀x c,X.env.cells.lookup x=some c->c≠Ä:=λx c e z=>by exists[v,o,ho,hd],I.cell x c e;obtain⟨m,⟨o',es,ep,ho',hd',_⟩,_⟩:=I.loc;rw[z,ho']at ho;cases ho;rw[hd']at hd;cases hd
theorem Inv.funs(I:À):s.heap.FunFrames þ Ĉ:=by
 have all:∀(l:List Env),(∀b∈frs l,b∈Ā)->X.s₀.heap.FunFrames þ l->s.heap.FunFrames þ l:=by
  intro l;induction l with
  |nil=>intro _ _;trivial
  |cons env r ih =>intro hs hl;obtain⟨hk,⟨L,o,hf,hn,ho,hd⟩,hr⟩:=hl;have hL:L∈Ā:=hs L (by unfold frs;rw[List.filterMap_cons,hf];exact Zn);exists[sl,e],I.base.slot L o ho (I.ok.frf L hL) hL λz=>I.ok.exfs L z hL;exact#[hk,#[L,_,hf,hn,e,hd],ih (λb hb=>hs b (by unfold frs;rw[List.filterMap_cons,hf];exact Zj _ hb)) hr]
 exact all Ĉ (λ_ hb=>hb) I.ok.funs
theorem Inv.stack(I:À):s.heap.FunFrames þ í:=by
 rcases I.ok.stk with e|⟨e,hf⟩
 .rw[e];exact I.funs
 .rw[e];exists[m,hn,_],I.loc;refine .cons (by rw[I.ok.kind];decide) hf hn ?_ I.funs;exact Heap.get?_none_of_le (Zs I.ok.bsz I.ok.above)
theorem Inv.stkSub(I:À):∀b∈frs í,b∈Ä::Ā:=λb hb=>by
 rcases I.ok.stk with e|⟨e,hf⟩
 .rw[e]at hb;exact Zj _ hb
 .rw[e]at hb;unfold frs at hb;rw[List.filterMap_cons,hf]at hb;exact hb
theorem Inv.stkFree(I:À):∀b∈frs í,H b=none:=λb hb=>by
 rcases Zg.mp (I.stkSub b hb)with e|hb
 .rw[e];exact I.free
 .exists[_,o,ho,_],I.ok.funs.mem hb;exact I.base.free b o ho (I.ok.frf b hb) λz=>I.ok.exfs b z hb
theorem Inv.step{g':Array GenState}{t':æ}{d':Drawn}{ch:ď}(I:À)(hch:Â)(keep:∀b o,b≠Ä->b∉Ā->b∉ch->s.heap.get? b=some o->H b=none->h'.get? b=some o)(slot:∀b o,b≠Ä->b∈Ā->b∉ch->s.heap.get? b=some o->H b=none->∃sl,h'.get? b=some { o with slots:=sl })(free:∀b o,b∉ch->s.heap.get? b=some o->H b=none->H' b=none)(there:∀b o,b∉ch->s.heap.get? b=some o->∃o',h'.get? b=some o')(tups:ö)(frzs:∀b o u,H b=some ó->H' b=some ó)(tbls:∀b ps,H b=some ŧ->∃more,H' b=some İ)(ns:∀m,s.heap.Ns Ä m->h'.Ns Ä m)(hok:Ą)(hg:Ū) :
  Inv X ON Y H' { s with heap:=h',gens:=g',drawn:=d',toks:=t' }:=by
 have neL:∀b o,X.s₀.heap.get? b=some o->b≠Ä:=λb o e=>Zz Ï;have neC:∀b o,X.s₀.heap.get? b=some o->b∉Ļ->b∉ch:=λb o e hx hb=>by
  rcases(hch b hb).1 with z|z
  .exact hx z
  .exact absurd (ZD (Zq e) z) Ĵ
 have cellK:∀x c,X.env.cells.lookup x=some c->∀v,s.heap.IsCell c v->h'.IsCell c v:=λx c e v ⟨o,ho,hd⟩=>by
  have nch:c∉ch:=λz=>(hch c z).2.2.1 x c e rfl;by_cases hc:c∈Ā
  .exists[sl,q],slot c o Ņ hc nch ho ċ;exact#[_,q,hd]
  .exact#[o,keep c o Ņ hc nch ho ċ,hd]
 refine#[I.ok,I.os,hg,#[λb o e n hb hx=>?_,λb o e n hb hx=>?_,λb o e n hx=>?_,λb o e hx=>?_,λb xs e=>tups b xs (I.base.tups b xs e),λb o xs e=>frzs b o xs (I.base.frzs b o xs e),λb ps e=>?_],?_,λx c e=>?_,?_,λx c e=>?_,λp hp=>?_,hok,I.len]
 .exact keep b o ŕ hb î Ô à
 .exists[sl,e1],I.base.slot b o e n hb hx;exists[sl',e2],slot b _ ŕ hb î e1 à;exact#[sl',e2]
 .exists[o',e1],I.base.there b o e hx;exact free b o' î e1 à
 .exists[o',e1],I.base.there b o e hx;exact there b o' î e1
 .exists[m1,e1],I.base.tbls b ps e;exists[m2,e2],tbls b _ e1;exact#[m1++m2,by rw[e2,Array.append_assoc]]
 .exists[m,hn,hl],I.loc;refine#[m,ns m hn,λi x v e1 e2 e3=>?_];exists[u,r,l],hl i x v e1 e2 e3;refine#[u,r,?_];rcases l with l|⟨k,c,e,z⟩
  .exact .inl l
  .exact .inr #[k,c,e,cellK x c e _ z]
 .exists[v,z],I.cell x c e;exact#[v,cellK x c e v z]
 .obtain⟨m,⟨o,_,_,ho,_⟩,_⟩:=I.loc;exact free _ o (λz=>(hch _ z).2.1 rfl) ho I.free
 .exists[v,o,ho,hd],I.cell x c e;exact free c o (λz=>(hch c z).2.2.1 x c e rfl) ho ċ
 .exists[e,n,ne,nf,d],I.pin p hp;have nch:p.1∉ch:=λz=>(hch p.1 z).2.2.2 p hp rfl;exact#[keep p.1 p.2 ne nf nch e n,free p.1 p.2 nch e n,ne,nf,d]
theorem Inv.un{t':æ}(I:À)(u:Un Ā [] H H' Î h')(hok:Ą):Inv X ON Y H' { s with heap:=h',toks:=t' }:=by
 obtain⟨m,⟨o,es,ep,ho,r⟩,_⟩:=id I.loc;exists[sl,hL],u.any ho I.free Í;exact I.step (g':=Ş) (d':=s.drawn) (ch:=[]) (λ_ z=>nomatch z) (λb o _ hb _ e n=>u.keep b o e n hb Í) (λb o _ hb _ e n=>u.slot b o e n hb Í) (λb o _ e n=>u.free b o e n Í) (λb o _ e=>u.there b o e Í) u.tups u.frzs u.tbls (λm' hm=>by
  exists[o',es',ep',ho',r'],hm;rw[ho]at ho';cases ho';exact#[_,es',ep',hL,r']) hok I.bare
theorem Inv.call{t':æ}(I:À)(u:Un (frs í) ch H H' Î h')(hok:Ą)(hg:Ū)(hch:Â):
  Inv X ON Y H' { s with heap:=h',gens:=g',drawn:=d',toks:=t' }:=by
 obtain⟨m,⟨o,es,ep,ho,r⟩,_⟩:=id I.loc;exists[sl,hL],u.any ho I.free λz=>(hch _ z).2.1 rfl;exact I.step (ch:=ch) hch (λb o hL hb hc e n=>u.keep b o e n (λz=>(Zg.mp (I.stkSub b z)).elim hL hb) hc) (λb o _ _ hc e n=>u.any e n hc) (λb o hc e n=>u.free b o e n hc) (λb o hc e=>u.there b o e hc) u.tups u.frzs u.tbls (λm' hm=>by
  exists[o',es',ep',ho',r'],hm;rw[ho]at ho';cases ho';exact#[_,es',ep',hL,r']) hok hg
theorem Inv.turned{t':æ}(I:À)(k:∀b o,b≠it->s.heap.get? b=some o->h'.get? b=some o)(hn:H it=none)(hL:it≠Ä)(h1:it∈Ļ\/È<=it)(h2:∀x c,X.env.cells.lookup x=some c->c≠it)(h3:∀p∈X.pn++ON,p.1≠it):Inv X ON Y H { s with heap:=h',toks:=t' }:=by
 have nit:∀b u,H b=some u->b≠it:=λb u e z=>by rw[z,hn]at e;cases e
 refine I.step (g':=Ş) (d':=s.drawn) (ch:=[it]) (λb hb=>?_) (λb o _ _ hc e _=>k b o ä e) (λb o _ _ hc e _=>#[o.slots,k b o ä e]) (λ_ _ _ _ n=>n)
  (λb o hc e=>#[o,k b o ä e]) (λ_ _ e=>e) (λ_ _ _ e=>e) (λb ps e=>#[#[],by rw[e];simp]) (λm hm=>?_) (λb u e=>?_) I.bare
 .have e:b=it:=by simpa using hb
  subst e;exact#[h1,hL,h2,h3]
 .exists[o,es,ep,ho,r],hm;exact#[o,es,ep,k _ o (ZO hL) ho,r]
 .refine(I.hok b u e).stay (λc v hc q=>k c v ?_ q) Į λ_ _ q=>q;rcases hc with z|z
  .rw[z];exact nit b u e
  .exact nit c _ z
theorem Inv.tok(I:À)(t:æ):Inv X ON Y H { s with toks:=t }:=I.un (h':=Î) (t':=t) Un.refl I.hok
theorem Inv.kept{t':æ}(I:À)(k:â):Inv X ON Y H { s with heap:=h',toks:=t' }:=I.un (Un.kept k) (I.hok.kept k)
theorem Inv.laid{t':æ}(I:À)(k:â)(hp:Ì<=a)(new:ObjOk Ü ş ï h' a o):
  Inv X ON Y ï { s with heap:=h',toks:=t' }:=I.un (Un.laid k hp (I.hok.fresh hp)) (I.hok.laid k hp new)
theorem Inv.write{x e:OC}{o:HO}{t':æ}(I:À)(mu:ĺ)(he:ç)(k:∀b u,b≠e->s.heap.get? b=some u->h'.get? b=some u)(heo:é)(new:ObjOk Ü ş ĥ h' x o):Inv X ON Y ĥ { s with heap:=h',toks:=t' }:=I.un (Un.write mu he k heo) (I.hok.write mu he k heo new)
theorem Inv.weak{σ':č}(I:À)(hl:σ'.length=Y.length)(w:∀(i:æ) v,σ'[i]?=some ð->Y[i]?=some ð):Inv X ON σ' H s :=
 #[I.ok,I.os,I.bare,I.base,let⟨m,hn,hl'⟩:=I.loc;#[m,hn,λi x v e1 e2 e3=>hl' i x v e1 (w i v e2) e3],I.cell,I.free,I.freeC,I.pin,I.hok,hl.trans I.len]
theorem Inv.pins_of(I:À)(h:∀p∈pins',s.heap.get? p.1=some p.2/\H p.1=none/\p.1≠Ä/\p.1∉Ā/\∀v,p.2.data≠.cell v):Inv X pins' Y H s :=
 #[I.ok,I.os,I.bare,I.base,I.loc,I.cell,I.free,I.freeC,λp hp=>(ZE.mp hp).elim (λz=>I.pin p (List.mem_append_left _ z)) (h p),I.hok,I.len]
theorem xz{N:List Str}(hN:N.Nodup){i j:æ}(a:N[i]?=some x)(b:N[j]?=some x):i=j:=by exists[h1,e1],Zu.mp a;exists[h2,e2],Zu.mp b;exact(List.getElem_inj hN).mp (e1.trans e2.symm)
theorem uM{i:æ}{Q:Ĕ}(I:À)(hN:Ė)(hi:Ù)(hx:Ī)(r:ī)(h:∀s',Inv X ON ĝ H s'->(∃a,Heap.SameBut a Î s'.heap/\(a=Ä\/X.env.cells.lookup x=some a))->Q () s')(hf:X.fn x=true\/X.env.scope.names.lookup x=some .local:=by first|exact .inl rfl|exact .inr rfl|assumption):wpAny M A ĭ Q E s:=by
 exists[m,hn,hl],id I.loc;have hcls:(ÿ == .class ||(ÿ == .module&&Ä != Ł))=false:=by rw[I.ok.kind];rfl
 have hiY:i<Y.length:=by rw[I.len];exact(Zu.mp hi).1
 have cne:=I.cne;have tracked:∀{a:OC} {h':ý},(∃o,s.heap.get? a=some o/\H a=none)->Heap.SameBut a Î h'->HOk Ü ş H h':=fun{a h'} ha hs b ob e=>by
  exists[_,_,hfree],ha;refine(I.hok b ob e).stay (λc w' hc q=>(hs.2 c ?_).trans q) Į λ_ _ q=>q;rintro rfl;rcases hc with rfl|hc
  .rw[hfree]at e;cases e
  .rw[hfree]at hc;cases hc
 rcases hx with hk|hk
 .refine wpAny_storeName_local hk hn (λh' hn' hs=>?_) hcls;exists[oL,_,_,hoL,_],id hn;refine h _ #[I.ok,I.os,I.bare,#[λb o e n hb hx=>?_,λb o e n hb hx=>?_,I.base.free,λb o e hx=>?_,I.base.tups,I.base.frzs,I.base.tbls],#[_,hn',λj y v' e1 e2 e3=>?_],λy c e=>?_,I.free,I.freeC,λp hp=>?_,tracked #[oL,hoL,I.free] hs,by simpa using I.len] #[_,hs,.inl rfl]
  .exact(hs.2 b Ŕ).trans Ô
  .exists[sl,e1],I.base.slot b o e n hb hx;exact#[sl,(hs.2 b Ŕ).trans e1]
  .exists[o',e1],I.base.there b o e hx;exact#[o',(hs.2 b Ŕ).trans e1]
  .by_cases hj:j=i
   .subst hj;rw[hi]at e1;cases e1;rw[List.getElem?_set_self hiY]at e2;cases e2;exact#[u,r,.inl #[hk,by simp]]
   .rw[List.getElem?_set_ne (ZO hj)]at e2;exists[u',r',q],hl j y v' e1 e2 e3;refine#[u',r',?_];rcases q with⟨k,e⟩|⟨k,c,e,z⟩
    .refine .inl #[k,?_];have:y≠x:=λe=>hj (xz hN e1 (e▸hi));simp[this,e]
    .exact .inr #[k,c,e,z.sameBut hs Ŗ]
  .exists[w',z],I.cell y c e;exact#[w',z.sameBut hs Ŗ]
  .exists[e,n,ne,nf,d],I.pin p hp;exact#[(hs.2 p.1 ne).trans e,n,ne,nf,d]
 .have hfn:X.fn x=true:=by
   rcases hf with z|z
   .exact z
   .rw[z]at hk;cases hk
  exists[c,hc],I.ok.has x (.inl hk);exists[w',z],I.cell x c hc;refine wpAny_storeName_cell I.ok.kind hk hc z (λh' hc' hs=>?_);exists[oc,hoc,hocd],id z;refine h { s with heap:=h' } #[I.ok,I.os,I.bare,#[λb o e n hb hx=>?_,λb o e n hb hx=>?_,I.base.free,λb o e hx=>?_,I.base.tups,I.base.frzs,I.base.tbls],#[m,hn.sameBut hs (ZO (cne x c hc)),λj y v' e1 e2 e3=>?_],λy c' e=>?_,I.free,I.freeC,λp hp=>?_,tracked #[oc,hoc,I.freeC x c hc] hs,by simpa using I.len] #[c,hs,.inr hc]
  .exact(hs.2 b Ë).trans Ô
  .exists[sl,e1],I.base.slot b o e n hb hx;exact#[sl,(hs.2 b Ë).trans e1]
  .exists[o',e1],I.base.there b o e hx;exact#[o',(hs.2 b Ë).trans e1]
  .by_cases hj:j=i
   .subst hj;rw[hi]at e1;cases e1;rw[List.getElem?_set_self hiY]at e2;cases e2;exact#[u,r,.inr #[.inl hk,c,hc,hc']]
   .rw[List.getElem?_set_ne (ZO hj)]at e2;exists[u',r',q],hl j y v' e1 e2 e3;refine#[u',r',?_];rcases q with q|⟨k,c',e,z'⟩
    .exact .inl q
    .refine .inr #[k,c',e,z'.sameBut hs ?_];rintro rfl;exact hj (xz hN e1 (I.ok.inj _ _ _ e hc▸hi))
  .by_cases hcc:c'=c
   .subst hcc;exact#[_,hc']
   .exists[w2,z2],I.cell y c' e;exact#[w2,z2.sameBut hs hcc]
  .exists[e,n,ne,nf,d],I.pin p hp;refine#[(hs.2 p.1 ?_).trans e,n,ne,nf,d];intro q;rw[q,hoc]at e;have q':oc=p.2:=Zo e;exact d w' (by rw[<-q'];exact hocd)
theorem yg{i:æ}{Q:Ĕ}(I:À)(hN:Ė)(hi:Ù)(hx:Ī)(r:ī)(h:∀s',Inv X ON ĝ H s'->Q () s')(hf:X.fn x=true\/X.env.scope.names.lookup x=some .local:=by first|exact .inl rfl|exact .inr rfl|assumption):wpAny M A ĭ Q E s :=
 uM I hN hi hx r (λs' I' _=>h s' I') hf
theorem Inv.call'{s':OD}(I:À)(ho:s'.os=s.os)(u:Un (frs í) ch H H' Î s'.heap)(hok:HOk Ü ş H' s'.heap)(hg:AllBare s'.gens)(hch:Â):Inv X ON Y H' s':=by exists[h',g',d',t',o'],s';have e:o'=s.os:=ho;subst e;exact I.call (g':=g') (t':=t') (d':=d') u hok hg hch
#check 0
abbrev XK:=OE->Option OC->Hp->Prop
abbrev St:=List (Option V)
abbrev VK:=V->Hp->Prop
abbrev TE:=St->Hp->VK->Prop
abbrev TT:=St->Hp->Ø->Prop
abbrev TA:=St->Hp->ā->Prop
structure Ends where
 nx:St->Hp->Prop
 rt:VK
 bk:St->Hp->Prop:=λ_ _=>False
 ct:St->Hp->Prop:=λ_ _=>False
abbrev TS:=Ends->St->Hp->Prop
def EP(X:Cx)(ON:Oy)(Y:St)(Q:VK)(u:OE)(s':OD):Prop:=∃v H',Inv X ON Y H' s'/\RelV v u/\Q v H'
def TP(X:Cx)(ON:Oy)(Y:St)(Q:Ø)(b:Bool)(s':OD):Prop:=∃H',Inv X ON Y H' s'/\Q b H'
def AP(X:Cx)(ON:Oy)(Y:St)(Q:ā)(us:OB)(s':OD):Prop:=∃vs H',Inv X ON Y H' s'/\Vals vs us/\Q vs H'
def SP(X:Cx)(ON:Oy)(D:Ends)(f:Flow)(s':OD):Prop :=
 match f with
 |.next=>∃σ' H',Inv X ON σ' H' s'/\D.nx σ' H'
 |.brk=>∃σ' H',Inv X ON σ' H' s'/\D.bk σ' H'
 |.cont=>∃σ' H',Inv X ON σ' H' s'/\D.ct σ' H'
 |.ret u=>∃v σ' H',Inv X ON σ' H' s'/\RelV v u/\D.rt v H'
def PE(X:Cx)(e:OM)(t:TE):Prop :=
 ∀(ON:Oy) (s:OD) (Y:St) (H:Hp) (Q:VK),Inv X ON Y H s->t Y H Q->wpAny Á ĕ ŗ ė ê s
def PT(X:Cx)(e:OM)(t:TT):Prop :=
 ∀(ON:Oy) (s:OD) (Y:St) (H:Hp) (Q:Ø),Inv X ON Y H s->t Y H Q->wpAny Á ĕ (isTrue e Å ŗ) ņ ê s
def PW(X:Cx)(e:OM)(t:TT):Prop :=
 ∀(whole:Sem OE) (ON:Oy) (s:OD) (Y:St) (H:Hp) (Q:Ø),Inv X ON Y H s->t Y H Q->wpAny Á ĕ (isTrue e Å whole) ņ ê s
theorem PW.pt{t:TT}(h:PW X e t):PT X e t:=h _
def PA(X:Cx)(es:List OM)(t:TA):Prop :=
 ∀(pos:Pos) (ON:Oy) (s:OD) (Y:St) (H:Hp) (Q:ā),Inv X ON Y H s->t Y H Q->wpAny Á ĕ (spliced (backTo pos (starEach es Å))) (AP X ON Y Q) ê s
def PS(X:Cx)(st:Stmt)(t:TS):Prop :=
 ∀(ON:Oy) (s:OD) (Y:St) (H:Hp) (D:Ends),Inv X ON Y H s->t D Y H->wpAny Á ĕ (exec st Å) Ř ê s
def PSs(X:Cx)(st:List Stmt)(t:TS):Prop :=
 ∀(ON:Oy) (s:OD) (Y:St) (H:Hp) (D:Ends),Inv X ON Y H s->t D Y H->wpAny Á ĕ (execs st Å) Ř ê s
theorem thn{α:Type}{t:Sem α}{Q Q':α->OD->Prop}{M:Model}{A:OH}{E:Oz}{s:OD}(h:wpAny M A t Q E s)(hQ:∀a s,Q a s->Q' a s):wpAny M A t Q' E s:=ZQ h hQ λ_ _ x=>x
section
variable{X:Cx}
inductive tVar(i:æ)(Y:St)(H:Hp)(Q:VK):Prop
 |mk (v:V) (h:Y[i]?=some ð) (q:Q v H):tVar i Y H Q
def tC(v:V):TE:=λ_ H Q=>Q v H
theorem KF{i:æ}(hN:Ù)(hv:Vis Û x)(hd:É=false:=by decide)(hcd:(x==("__classdict__":Str))=false:=by decide):PE X Ñ (tVar i):=by
 intro ON s Y H Q I h;exists[v,e,h],h;exists[m,hn,hl],I.loc;exists[u,r,l],hl i x v hN e hv;have fin:EP X ON Y Q u s:=#[v,H,I,r,h]
 rcases l with⟨hk,hm⟩|⟨hk,c,hc,hcell⟩
 .exact wpAny_Name (wpAny_loadName_local I.ok.kind hk hn hm fin) hd
 .rcases hk with hk|hk
  .exact wpAny_Name (wpAny_loadName_cell I.ok.kind hk hc hcell fin) hd
  .exact wpAny_Name (wpAny_loadName_free I.ok.kind hk hc hcell fin hcd) hd
theorem Ky{i j pos}:PE X (.Constant ł j pos) (tC ł):=λ_ _ _ H _ I h=>wpAny_Constant_int #[.int i,H,I.tok _,#[_,rfl],h]
theorem L8{b j pos}:PE X (.Constant (.bool b) j pos) (tC (.bl b)):=λ_ _ _ H _ I h=>Constant_bool #[.bl b,H,I,rfl,h]
theorem KA{j pos}:PE X (.Constant .none j pos) (tC .non):=λ_ _ _ H _ I h=>Constant_none #[.non,H,I,rfl,h]
theorem KD{x j pos}:PE X (.Constant Ń j pos) (tC Ń):=λ_ _ _ H _ I h=>Calls.Constant_str #[.str x,H,I.tok _,#[_,rfl],h]
def Gl(X:Cx)(x:ś):Prop:=X.env.kindOf x=some .globalImplicit
theorem jw{Q:Oz}(I:À)(hg:ŋ)(hm:ő)(h:Q u s)(hd:É=false:=by decide):wpAny Á ĕ ŏ Q E s :=
 Calls.Name_function_global I.ok.kind hg (Calls.loadGlobal_global Ý hm h) hd
theorem ic{Q:Oz}(I:À)(hg:ŋ)(hm:ţ)(hv:ģ)(h:Q u s)(hn:x≠"__name__":=by decide)(hd:É=false:=by decide):wpAny Á ĕ ŏ Q E s:=by exists[mb,h1,h2],I.mod.blt;exact Calls.Name_function_global I.ok.kind hg (Calls.loadGlobal_builtin Ý hm (by rw[I.ok.blt];exact h1.keeps I.bk) ((h2 x hn).trans hv) h) hd
theorem sW(hg:ŋ)(hm:ő)(r:ī)(hd:É=false:=by decide):PE X Ñ (tC v) :=
 λ_ _ _ H _ I h=>jw I hg hm #[v,H,I,r,h] hd
theorem Id(hg:ŋ)(hm:ţ)(hv:ģ)(r:ī)(hn:x≠"__name__":=by decide)(hd:É=false:=by decide):PE X Ñ (tC v) :=
 λ_ _ _ H _ I h=>ic I hg hm hv #[v,H,I,r,h] hn hd
variable{a b:OM}{ta tb:TE}
def PC(X:Cx)(op:CmpOp)(a b:OM)(t:TE):Prop :=
 ∀(ON:Oy) (s:OD) (Y:St) (H:Hp) (Q:VK),Inv X ON Y H s->t Y H Q ->
  wpAny Á ĕ (eval a Å) (λv s₁=>wpAny Á ĕ (eval b Å) (λu s₂=>wpAny Á ĕ (compareOp op v u) ė ê s₂) ê s₁) ê s
inductive IsB(x:V)(H:Hp)(Q:Ø):Prop
 |mk (c:Bool) (h:x=.bl c) (q:Q c H):IsB x H Q
def tB(t:TE):TT:=λY H Q=>t Y H λx H1=>IsB x H1 Q
theorem Kw{t:TE}(h:Œ)(h1:behindInMarks op b=false:=by first|exact nobehind _ ⋯ ⋯|rfl):PE X Đ t:=λON s Y H Q I hw=>wpAny_Compare1 ħ h1
theorem Dk{t:TE}(h:Œ)(h1:behindInMarks op b=false:=by first|exact nobehind _ ⋯ ⋯|rfl):PT X Đ (tB t):=by intro ON s Y H Q I hw;refine wpAny_isTrue_Compare1 (thn Ĩ λv s1 h1=>thn h1 λu s2 h2=>thn h2 λc s3 hz9=>?_) h1;exists[x,H1,I1,r1,q1],hz9;exists[d,rfl,q],q1;cases r1;exact YU #[H1,I1,q]
theorem KQ{t:TE}(h:PE X e t)(he:∀whole,isTrue e Å whole=(do let v ←whole;standAt e.pos;holding [v] (truthy v)):=by intro _;rfl):PT X e (tB t):=by intro ON s Y H Q I hw;refine isTrue_plain (thn Ĩ λv s1 hz9=>?_) (he _);exists[x,H1,I1,r1,q1],hz9;exists[d,rfl,q],q1;cases r1;exact YU #[H1,I1,q]
def FI(t u:TT):TT:=λY H Q=>t Y H λc H1=>if c=true then u Y H1 Q else Q false H1
def tOr(t u:TT):TT:=λY H Q=>t Y H λc H1=>if c=true then Q true H1 else u Y H1 Q
def Ln(t:TT):TT:=λY H Q=>t Y H λc H1=>Q (!c) H1
theorem IC(ha:ą):PW X (.BoolOp .And [a] pos) tA:=by
 intro wh ON s Y H Q I h;refine isTrue_and ì;cases c with
 |true=>exact isTrue_and_nil e
 |false=>exact e
theorem KU(ha:ą):PW X (.BoolOp .Or [a] pos) tA:=by
 intro wh ON s Y H Q I h;refine isTrue_or ì;cases c with
 |false=>exact isTrue_or_nil e
 |true=>exact e
theorem KS(ha:ą)(hb:PW X ć tB'):PW X Ğ (FI tA tB'):=by
 intro wh ON s Y H Q I h;refine isTrue_and Õ;cases c with
 |true=>exact hb wh ON s1 Y H1 Q I1 q1
 |false=>exact#[H1,I1,q1]
theorem Mh(ha:ą)(hb:PW X Č tB'):PW X ġ (tOr tA tB'):=by
 intro wh ON s Y H Q I h;refine isTrue_or Õ;cases c with
 |true=>exact#[H1,I1,q1]
 |false=>exact hb wh ON s1 Y H1 Q I1 q1
theorem KP(ha:ą):PT X ğ (Ln tA):=by intro ON s Y H Q I h;exact isTrue_not (ha ON s Y H (λc H1=>Q (!c) H1) I h)
def Br(ta tb:TE):TE:=λY H Q=>ta Y H λx H1=>∃c,x=.bl c/\if c=true then tb Y H1 Q else Q (.bl false) H1
def Lo(ta tb:TE):TE:=λY H Q=>ta Y H λx H1=>∃c,x=.bl c/\if c=true then Q (.bl true) H1 else tb Y H1 Q
def GI(ta:TE):TE:=λY H Q=>ta Y H λx H1=>∃c,x=.bl c/\Q (.bl (!c)) H1
theorem KC{op}{t:TE}(h:PE X a t):PE X (.BoolOp op [a] pos) t:=λON s Y H Q I hw=>BoolOp_one ħ
theorem Ku(ha:ě)(hb:PE X ć tb):PE X Ğ (Br ta tb):=by
 intro ON s Y H Q I h;refine BoolOp_and Ê;exists[x,H1,I1,r1,q1],hz9;exists[c,rfl,q1],q1;cases r1;refine YU ?_;cases c with
 |true=>exact hb ON s1 Y H1 Q I1 q1
 |false=>exact#[.bl false,H1,I1,rfl,q1]
theorem Mc(ha:ě)(hb:PE X Č tb):PE X ġ (Lo ta tb):=by
 intro ON s Y H Q I h;refine BoolOp_or Ê;exists[x,H1,I1,r1,q1],hz9;exists[c,rfl,q1],q1;cases r1;refine YU ?_;cases c with
 |false=>exact hb ON s1 Y H1 Q I1 q1
 |true=>exact#[.bl true,H1,I1,rfl,q1]
theorem KB(ha:ě):PE X ğ (GI ta):=by intro ON s Y H Q I h;refine UnaryOp_ Ê;exists[x,H1,I1,r1,q1],hz9;exists[c,rfl,q1],q1;cases r1;exact not_of (YU #[.bl (!c),H1,I1,rfl,q1])
def tIf(t:TT)(ta tb:TE):TE:=λY H Q=>t Y H λc H1=>if c=true then ta Y H1 Q else tb Y H1 Q
theorem E2(hc:PT X c tA)(ha:ě)(hb:PE X b tb):PE X (.IfExp c a b pos) (tIf tA ta tb):=by
 intro ON s Y H Q I h;refine wpAny_IfExp Ö;cases d with
 |true=>exact ha ON s1 Y H1 Q I1 q1
 |false=>exact hb ON s1 Y H1 Q I1 q1
#check 0
def SqL(K:Qa)(H:Hp)(a:OC)(xs:å):Prop :=
 Rd H a Ũ \/
  ∃(o:Obj) (its:ň) (n:æ),K.lookup a=some o/\ŭ=.type "list"/\o.dict=none/\Ě=.seq its n/\Ů<=sizeLine/\Vals xs Ď
def SqT(K:Qa)(H:Hp)(a:OC)(xs:å):Prop :=
 Rd H a Ò \/
  ∃(o:Obj) (its:ň) (n:æ),K.lookup a=some o/\ŭ=.type "tuple"/\Ě=.seq its n/\Ů<=sizeLine/\Vals xs Ď
def MH:OE->Option V
 |.none=>some .non
 |.bool b=>some (.bl b)
 |.int i _=>some ł
 |.str x _=>some Ń
 |.bytes b _=>some (.byt b)
 |.float b _=>some (.flt b)
 |.ref a=>some (.ref a)
 |.type n=>some (.ty n)
 |_=>none
theorem RelV.abs(r:Ň):MH u=some x:=by
 cases x with
 |non=>cases r;rfl
 |bl _=>cases r;rfl
 |int _=>exists[t,rfl],r;rfl
 |str _=>exists[t,rfl],r;rfl
 |byt _=>exists[t,rfl],r;rfl
 |flt _=>exists[t,rfl],r;rfl
 |ref _=>cases r;rfl
 |ty _=>cases r;rfl
theorem RelV.inj(r:Ň)(q:RelV y u):x=y:=Zo (r.abs.symm.trans q.abs)
theorem Vals.inj:∀{xs ys:å} {us:OB},Vals xs us->Vals ys us->xs=ys
 |_,_,_,.nil,.nil=>rfl
 |_,_,_,.cons r t,.cons r' t'=>by rw[r.inj r',Vals.inj t t']
section
variable{H:Hp}
theorem OQ{K:Qa}(h:H a=some Ũ):SqL K H a xs:=.inl (.inl h)
theorem OP{K:Qa}(h:H a=some Ò):SqT K H a xs:=.inl (.inl h)
theorem Inv.list(I:À)(h:Ō):∃its:OB,Vals xs its/\PlainL Î a Ă/\á<=sizeLine:=by
 rcases h with h|⟨o,its,n,hk,hc,hd,hs,hz,r⟩
 .exists[z,its,n,r,e],h.ok I.hok;exact#[its,r,#[_,n,e,rfl,rfl,rfl],z]
 .refine#[Ď,r,#[o,n,I.kIn a o hk,hc,hd,by simpa using hs],?_];have e:=ů;simp only[ZM]at e;omega
theorem Inv.tuple(I:À)(h:SqT ŝ H a xs):∃its:OB,Vals xs its/\IsTup Î a Ă/\á<=sizeLine:=by
 rcases h with h|⟨o,its,n,hk,hc,hs,hz,r⟩
 .exists[z,its,r,p],h.ok I.hok;exact#[its,r,p,z]
 .refine#[Ď,r,#[o,I.kIn a o hk,hc,n,by simpa using hs],?_];have e:=ů;simp only[ZM]at e;omega
theorem Inv.list_inj(I:À)(h:Ō)(h':SqL ŝ H a ys):xs=ys:=by
 obtain⟨its,r,⟨o,n,e,_,_,d⟩,_⟩:=I.list h;obtain⟨its',r',⟨o',n',e',_,_,d'⟩,_⟩:=I.list h';rw[e]at e';cases e';rw[d]at d';injection d' with d1 _;have:its=its':=by simpa using Z2 Array.toList d1
 subst this;exact r.inj r'
#check 0
abbrev Cx.wish(X:Cx)(E:Oz):Cx:={ X with xe:=E }
abbrev Cx.nox(X:Cx):Cx:=X.wish λ_ _=>False
theorem Cx.Ok.wish{X:Cx}(ok:Ŭ)(E:Oz):(X.wish E).Ok :=
 #[ok.mod,ok.kind,ok.glob,ok.blt,Ű,ok.inj,ok.has,ok.cab,ok.hd,Ť,ok.stk,ok.exf,ok.bs,ok.bsz,ok.noex,ok.exfs,ok.funs,ok.frf]
theorem Cx.Ok.unwish{X:Cx}(ok:(X.wish E).Ok):Ŭ :=
 #[ok.mod,ok.kind,ok.glob,ok.blt,Ű,ok.inj,ok.has,ok.cab,ok.hd,Ť,ok.stk,ok.exf,ok.bs,ok.bsz,ok.noex,ok.exfs,ok.funs,ok.frf]
section
variable{X:Cx}{E:Oz}
theorem Inv.wish(I:À)(E:Oz):Inv į ON Y H s:=#[I.ok.wish E,I.os,I.bare,I.base,I.loc,I.cell,I.free,I.freeC,I.pin,I.hok,I.len]
theorem Inv.unwish(I:Inv į ON Y H s):Inv X ON Y H s:=#[I.ok.unwish,I.os,I.bare,I.base,I.loc,I.cell,I.free,I.freeC,I.pin,I.hok,I.len]
theorem SP.unwish(h:SP į ON D f s'):SP X ON D f s':=by
 cases f with
 |next=>exists[σ',H',I,q],h;exact#[σ',H',I.unwish,q]
 |brk=>exists[σ',H',I,q],h;exact#[σ',H',I.unwish,q]
 |cont=>exists[σ',H',I,q],h;exact#[σ',H',I.unwish,q]
 |ret u=>exists[v,σ',H',I,r,q],h;exact#[v,σ',H',I.unwish,r,q]
theorem PSs.nox{st:List Stmt}{t:TS}(h:PSs X.nox st t):PSs X st t:=λON s Y H D I hw =>
 ZQ (h ON s Y H D (I.wish _) hw) (λ_ _ q=>q.unwish) λ_ _ z=>False.elim z
#check 0
section
variable{st:Stmt}{t u:TS}{te:TE}{pos:Pos}
def jq:TS:=λD Y H=>D.nx Y H
def Bv(t u:TS):TS:=λD Y H=>t { D with nx:=u D } Y H
theorem Iz:PSs X [] jq:=λ_ _ Y H _ I h=>wpAny_execs_nil #[Y,H,I,h]
theorem Fc(h1:PS X st t)(h2:PSs X rest u):PSs X (st::rest) (Bv t u):=by
 intro ON s Y H D I h;refine wpAny_execs_cons (thn (h1 ON s Y H { D with nx:=u D } I h) λf s1 q=>?_);cases f with
 |next =>exists[σ',H',I',q],q;exact h2 ON s1 σ' H' D I' q
 |ret v=>exact q
 |brk=>exact q
 |cont=>exact q
theorem IA(h1:PS X st t):PSs X [st] t:=by
 intro ON s Y H D I h;refine wpAny_execs_cons (thn (h1 ON s Y H D I h) λf s1 q=>?_);cases f with
 |next=>exact wpAny_execs_nil q
 |ret v=>exact q
 |brk=>exact q
 |cont=>exact q
theorem Inv.quiet(I:À):interactive Å=false:=by simp[interactive,I.ok.kind]
def Bt(te:TE):TS:=λD Y H=>te Y H λ_ H1=>D.nx Y H1
theorem Ix(he:Ĝ)(hs:swapsWith e none ļ Å=pure false:=by rfl):PS X (.Expr e pos) (Bt te):=by intro ON s Y H D I h;exact wpAny_Expr_any (thn Ó λv s1 ⟨x,H1,I1,r1,q1⟩=>#[Y,H1,I1,q1]) I.quiet hs
def Lp(te:TE):TS:=λD Y H=>te Y H D.rt
theorem KN(he:Ĝ):PS X (.Return (some e) pos) (Lp te):=by intro ON s Y H D I h;exact wpAny_Return_some (thn Ó λv s1 ⟨x,H1,I1,r1,q1⟩=>#[x,Y,H1,I1,r1,q1])
def Lk(c:TT)(t u:TS):TS:=λD Y H=>c Y H λb H1=>if b=true then t D Y H1 else u D Y H1
theorem Mg(hc:PT X c tc)(ha:PSs X a t)(hb:PSs X b u):PS X (.If c a b pos) (Lk tc t u):=by
 intro ON s Y H D I h;refine wpAny_If Ö;cases d with
 |true=>exact ha ON s1 Y H1 D I1 q1
 |false=>exact hb ON s1 Y H1 D I1 q1
#check 0
abbrev TG:=V->St->Hp->ò->Prop
abbrev TGs:=List V->St->Hp->ò->Prop
def PG(X:Cx)(target:OM)(t:TG):Prop :=
 ∀(ON:Oy) (s:OD) (Y:St) (H:Hp) (v:V) (u:OE) (Q:ò),Inv X ON Y H s->RelV v u->t v Y H Q ->
  wpAny Á ĕ (assign target Å u) Ú ê s
def PGs(X:Cx)(ts:List OM)(t:TGs):Prop :=
 ∀(ON:Oy) (s:OD) (Y:St) (H:Hp) (vs:å) (us:OB) (Q:ò),Inv X ON Y H s->Vals vs us->t vs Y H Q ->
  wpAny Á ĕ (assignInOrder ((assignEach ts Å).map (·.2)) us) Ú ê s
abbrev vZ:=V->V->V->Hp->(Hp->Prop)->Prop
def DW(X:Cx)(t:vZ):Prop :=
 ∀(ON:Oy) (s:OD) (Y:St) (H:Hp) (o i v:V) (ov iv u:OE) (Q:Hp->Prop),Inv X ON Y H s->RelV o ov->RelV i iv->RelV v u->t o i v H Q ->
  wpAny Á ĕ (setItem ov iv u) (λ_ s'=>∃H',Inv X ON Y H' s'/\Q H') ê s
abbrev TIp:=V->V->Hp->VK->Prop
def PIp(X:Cx)(op:Operator)(t:TIp):Prop :=
 ∀(ON:Oy) (s:OD) (Y:St) (H:Hp) (x y:V) (v u:OE) (Q:VK),Inv X ON Y H s->RelV x v->RelV y u->t x y H Q ->
  wpAny Á ĕ (inplaceOp op v u) ė ê s
section
variable{X:Cx}{pos:Pos}
def ce(i:æ):TG:=λv Y H Q=>Q ĝ H
theorem Il{i:æ}(hN:Ė)(hi:Ù)(hx:Ī)(hf:X.fn x=true\/X.env.scope.names.lookup x=some .local:=by first|exact .inl rfl|exact .inr rfl|assumption):PG X Ñ (ce i):=by intro ON s Y H v u Q I r h;exact wpAny_assign_Name (yg I hN hi hx r (λs' I'=>#[_,H,I',h]) hf)
def nR:TGs:=λvs Y H Q=>vs=[]/\Q Y H
def fX(t:TG)(u:TGs):TGs:=λvs Y H Q=>∃v r,vs=v::r/\t v Y H λσ' H'=>u r σ' H' Q
theorem Im:PGs X [] nR:=by intro ON s Y H vs us Q I r h;exists[e,h],h;subst e;cases r;exact assignInOrder_nil #[Y,H,I,h]
theorem E6{t:TG}(h1:PG X e t)(h2:PGs X es u)(hs:(assignEach (e::es) Å).map (·.2)=assign e Å::(assignEach es Å).map (·.2):=by rfl):PGs X (e::es) (fX t u):=by
 intro ON s Y H vs us Q I r h;exists[v,vr,e1,h],h;subst e1;cases r with
 |cons r rr =>rw[hs];refine assignInOrder_cons (thn (h1 ON s Y H _ _ _ I r h) λ_ s1 ⟨σ1,H1,I1,q1⟩=>?_);exact h2 ON s1 σ1 H1 _ _ Q I1 rr q1
def nS(K:Qa)(n:æ)(t:TGs):TG:=λv Y H Q=>∃a xs,v=.ref a/\SqT K H a xs/\á=n/\t xs Y H Q
theorem KH{k:æ}{t:TGs}{n:æ}(hc:Ĭ=true)(h:PGs X es t)(hn:(assignEach es Å).length=n:=by rfl)(hst:(assignEach es Å).findIdx? (·.1)=none:=by rfl):PG X (.Tuple es k pos) (nS ŝ n t):=by intro ON s Y H v u Q I r hw;exists[a,xs,e1,hq,hl,hw],hw;subst e1;cases r;exists[its,rv,ht,hz],I.tuple hq;refine assign_Tuple_tuple ú ht (by simp[hn,<-hl,ť]) hst λh' hx=>?_;have I1:Inv X ON Y H { s with heap:=h' }:=I.kept (t':=Ľ) λb o e=>hx b o (Zz (Zq e)) e;exact h ON _ Y H xs _ Q I1 (by simpa using rv) hw
def JK(to ti:TE)(t:vZ):TG:=λv Y H Q=>to Y H λo H1=>ti Y H1 λi H2=>t o i v H2 λH3=>Q Y H3
theorem KG{o i:OM}{t:vZ}(ho:PE X o to)(hi:PE X i ti)(hs:DW X t)(ha:∀ v,assign Ģ Å v=(do
   let ov ←holding [v] (eval o Å)
   let iv ←holding [v,ov] (eval i Å)
   standAt pos
   holding [v,ov,iv] (setItem ov iv v)
   release [v,ov,iv] []):=by intro _;rfl):PG X Ģ (JK to ti t):=by
 intro ON s Y H v u Q I r h;rw[ha];refine z9 (ZJ (thn (ho ON s Y H _ I h) λov s1 hz9=>?_));exists[x,H1,I1,r1,q1],hz9;refine z9 (ZJ (thn (hi ON s1 Y H1 _ I1 q1) λiv s2 hz9=>?_));exists[y,H2,I2,r2,q2],hz9;refine z9 (wpAny_standAt (z9 (ZJ (thn (hs ON s2 Y H2 x y v ov iv u _ I2 r1 r2 r q2) λ_ s3 ⟨H3,I3,q3⟩=>?_))));exact wpAny_release #[Y,H3,I3,q3]
def qC(te:TE)(g:TG):TS:=λD Y H=>te Y H λx H1=>g x Y H1 D.nx
theorem KK(he:Ĝ)(hg:PG X tg g)(hs:swapsWithSole [tg] e ļ Å=pure false:=by rfl)(hw:swappedStores [tg] e Å=pure none:=by rfl)(h1:(assignEach [tg] Å).map (·.2)=[assign tg Å]:=by rfl):PS X (.Assign [tg] e pos) (qC te g):=by intro ON s Y H D I h;refine wpAny_Assign_stores Ę hs hw;exists[x,H1,I1,r1,q1],hz9;rw[h1];exact thn (hg ON s1 Y H1 x v _ I1 r1 q1) λ_ s2 q=>q
theorem KO{i:æ}(hN:Ė)(hi:Ù)(hx:Ī)(he:Ĝ)(hs:swapsWith e (some (.Name x pos')) ļ Å=pure false:=by rfl)(hf:X.fn x=true\/X.env.scope.names.lookup x=some .local:=by first|exact .inl rfl|exact .inr rfl|assumption):
  PS X (.Assign [.Name x pos'] e pos) (qC te (ce i)):=by
 intro ON s Y H D I h;refine wpAny_Assign_Name Ę hs;exists[y,H1,I1,r1,q1],hz9;exact yg I1 hN hi hx r1 (λs2 I2=>#[_,H1,I2,q1]) hf
#check 0
section
variable{X:Cx}
def yi(c:TT)(tb:TS):TS:=λD Y H=>∃W:Nat->St->Hp->Prop,(∃m,W m Y H)/\∀m Y H,W m Y H ->
 c Y H λb H1=>if b=true then∃N:St->Hp->Prop,(∀σ' H',N σ' H'->∃m',m'<m/\W m' σ' H')/\tb { D with nx:=N,ct:=N,bk:=D.nx } Y H1 else D.nx Y H1
theorem Fb(hp:Ĥ)(hc:PT X c tc)(hb:œ):PS X (.While c body [] pos) (yi tc tb):=by
 intro ON s Y H D I h;obtain⟨W,⟨m0,w0⟩,turn⟩:=h;refine wpAny_While (codeAny_whileLoop (λn s'=>∃σ' H',Inv X ON σ' H' s'/\W n σ' H') ?_ m0 #[Y,H,I,w0]);rintro n s1 ⟨σ1,H1,I1,w1⟩;refine wpAny_passesOwn hp (thn (hc ON s1 σ1 H1 _ I1 (turn n σ1 H1 w1)) λb s2 ⟨H2,I2,q2⟩=>?_);cases b with
 |true =>
  exists[N,hN,q2],q2;rw[Ox rfl];refine wpAny_passesOwn hp (thn (hb ON s2 σ1 H2 _ I2 q2) λf s3 q3=>?_);cases f with
  |next =>exists[σ3,H3,I3,n3],q3;exists[m',hm,w3],hN σ3 H3 n3;exact#[m',hm,σ3,H3,I3,w3]
  |cont =>exists[σ3,H3,I3,n3],q3;exists[m',hm,w3],hN σ3 H3 n3;exact#[m',hm,σ3,H3,I3,w3]
  |brk=>exact q3
  |ret v=>exact q3
 |false =>rw[Ow Zx];exact wpAny_execs_nil #[σ1,H2,I2,q2]
#check 0
structure It where
 go:Nat->Hp->Prop
 yld:Nat->Hp->V->Hp->Prop
 stop:Nat->Hp->Prop
def bQ(X:Cx)(ON:Oy)(H:Hp)(b:OC):Prop :=
 H b=none/\b≠Ä/\b∉Ā/\(b∈Ļ\/È<=b)/\(∀x c,X.env.cells.lookup x=some c->c≠b)/\∀p∈X.pn++ON,p.1≠b
theorem Inv.fpOk{H H':Hp}(I:À)(hb:Ì<=b)(hn:H' b=none):bQ X ON H' b:=by
 refine#[hn,Yb (ZD I.lt hb),I.nofs hb,.inr (Zs I.sz hb),λx c e z=>?_,λp hp z=>?_]
 .exists[v,q],I.cell x c e;exact absurd (ZD q.lt ĩ) Ĵ
 .exact absurd (ZD (Zq (I.pin p hp).1) ĩ) Ĵ
structure Turn(P:OF)(w:OG)(K:Qa)(tg:OM)(J:It)(fp:ď)(it:OC)(tn:ŀ):Prop where
 mem:it∈fp
 obj:∀i h,tn i h->∀b∈fp,∃o,h.get? b=some o/\∀v,Ě≠.cell v
 keep:∀i h h',tn i h->(∀b∈fp,∀o,h.get? b=some o->h'.get? b=some o)->tn i h'
 item:∀(X:Cx),Ü=P->ş=w->ŝ=K->Ĭ=true->∀(i:æ) (ON:Oy) (s:OD) (Y:St) (H:Hp) (E:Oz),Inv X ON Y H s->ã->tn i Î->J.go i H ->
  wpAny Ć ĕ ř (λr s1=>∃ u,r=some u /\
   wpAny Ć ĕ đ (λ_ s2=>∃ x H',Inv X ON Y H' s2/\RelV x u/\J.yld i H x H'/\tn (i+1) s2.heap/\∀ b∈fp,H' b=none) E s1) E s
 done:∀(X:Cx),Ü=P->ş=w->ŝ=K->Ĭ=true->∀(i:æ) (ON:Oy) (s:OD) (Y:St) (H:Hp) (E:Oz),Inv X ON Y H s->ã->tn i Î->J.stop i H ->
  wpAny Ć ĕ ř (λr s1=>r=none/\Inv X ON Y H s1) E s
 self:∀(A:OH) (i:æ) (s:OD) (Q:Oz) (E:Oz),tn i Î->Q ñ s->wpAny Ć A (pyIter ñ) Q E s
abbrev TI:=St->Hp->õ->Prop
def PIE(X:Cx)(ON:Oy)(Y:St)(tg:OM)(R:õ)(itv:OE)(s2:OD):Prop :=
 ∃(it:OC) (fp:ď) (tn:ŀ) (J:It) (H':Hp),itv=.ref it/\Inv X ON Y H' s2/\Turn Ü ş ŝ tg J fp it tn/\tn 0 s2.heap/\(∀b∈fp,bQ X ON H' b)/\R J H'
def PI(X:Cx)(tg iter:OM)(wi:TI):Prop :=
 ∀(ON:Oy) (s:OD) (Y:St) (H:Hp) (R:õ),Inv X ON Y H s->wi Y H R ->
  wpAny Á ĕ (eval iter Å) (λv s1=>wpAny Á ĕ (pyIter v) Ĳ ê s1) ê s
theorem vE{s:OD}{Q:Ĕ}(ho:s.heap.get? it=some o)(hc:ŭ=.type n)(hd:Ě=.fields vs)(hn:["enumerate","zip","dict_itemiterator","dict_reverseitemiterator","odict_iterator","itertools.zip_longest","itertools.pairwise"].contains n=false)(hQ:Q () s):wpAny M A đ Q E s:=by
 unfold letOwnedTupleGo;cases tg<;>first
  |exact Za hQ
  | (cases u<;>first
    |exact Za hQ
    | (refine z9 (wpAny_load ho ?_)
       rw[hc,hd];show wpAny M A (if(["enumerate","zip","dict_itemiterator","dict_reverseitemiterator","odict_iterator","itertools.zip_longest","itertools.pairwise"].contains n&&vs[0]?==some (rawInt _))=true then _ else _) Q E s;rw[Ow (by intro h;rw[hn,Bool.false_and]at h;cases h)];exact Za hQ))
def Itl(K:Qa)(a:OC):It :=
 #[λi H=>∃xs x,SqL K H a xs/\xs[i]?=some x,λi H x H'=>H'=H/\∀xs,SqL K H a xs->xs[i]?=some x,λi H=>∃xs,SqL K H a xs/\á<=i]
def Itr(lo:Ś)(n:æ):It:=#[λi _=>i<n,λi H x H'=>H'=H/\x=.int (lo+i),λi _=>n<=i]
theorem DN{K:Qa}(a it:OC):Turn P w K tg ũ [it] it (λi h=>h.IsListIter it a i) where
 mem:=by simp
 obj:=λi h st b hb=>by
  have e:b=it:=by simpa using hb
  subst e;exists[o,e,c,d],st;exact#[o,e,λv z=>by rw[d]at z;cases z]
 keep:=λi h h' st k=>st.at λo e=>k it Í o e
 item:=by intro X hP hw hK hc i ON s Y H E I hf st hg;subst hP hw hK;exists[xs,x,hq,hx],hg;exists[its,rv,p,hz],I.list hq;exists[u,hu,ru],rv.get hx;exists[f0,f1,f2,f3,f4,f5],hf it Í;refine wpAny_pyNext_list_item st ľ (x:=u) (by simpa using hu) λh' st' sb=>?_;have I1:Inv X ON Y H { s with heap:=h' }:=I.turned (t':=Ľ) (λb o hb e=>(sb.2 b hb).trans e) f0 f1 f3 f4 f5;exists[o,e,c,d],id st';exact#[u,rfl,vE (s:={ s with heap:=h' }) e c d ⋯ #[x,H,I1,ru,#[rfl,λys hy=>by rw[I.list_inj hy hq];exact hx],st',λb hb=>(hf b hb).1]]
 done:=by intro X hP hw hK hc i ON s Y H E I hf st hg;subst hP hw hK;exists[xs,hq,hx],hg;exists[its,rv,p,hz],I.list hq;exists[f0,f1,f2,f3,f4,f5],hf it Í;have hl:=ť;exact wpAny_pyNext_list_end ú st ľ (by simp;omega) λh' eb=>#[rfl,I.turned (t':=Ľ) Ē f0 f1 f3 f4 f5]
 self:=λ_ _ _ _ _ st h=>wpAny_pyIter_listiter st h
theorem BB{K:Qa}(it:OC)(lo:Ś)(n:æ):Turn P w K tg (Itr lo n) [it] it (λi h=>IsRangeIter h it (lo+(i:æ)*1) ((n:Ś)-(i:æ)) 1) where
 mem:=by simp
 obj:=λi h st b hb=>by
  have e:b=it:=by simpa using hb
  subst e;exact#[_,st,λv z=>by
   have z':Data.fields _=Data.cell v:=z;cases z']
 keep:=λi h h' st k=>k it Í _ st
 item:=by intro X hP hw hK hc i ON s Y H E I hf st hg;subst hP hw hK;exists[f0,f1,f2,f3,f4,f5],hf it Í;have W:=Walks.range (prog:=Ü) (w:=ş) ú it lo 1 n;refine W.item i s _ _ hg st λv h' tk hv st' kk=>?_;exists[t,rfl],hv;have I1:Inv X ON Y H { s with heap:=h',toks:=tk }:=I.turned (λb o hb e=>kk b o (by simpa using hb) e) f0 f1 f3 f4 f5;refine#[_,rfl,vE (s:={ s with heap:=h',toks:=tk }) (n:="range_iterator") st' rfl rfl ⋯ #[.int (lo+i),H,I1,#[t,?_],#[rfl,rfl],st',λb hb=>(hf b hb).1]];rw[Int.mul_one]
 done:=by intro X hP hw hK hc i ON s Y H E I hf st hg;subst hP hw hK;exists[f0,f1,f2,f3,f4,f5],hf it Í;exact wpAny_pyNext_range_end ú st (by have:n<=i:=hg;omega) λh' eb=>#[rfl,I.turned (t':=Ľ) Ē f0 f1 f3 f4 f5]
 self:=λ_ _ _ _ _ st h=>wpAny_pyIter_rangeiter st h
section
variable{X:Cx}
def Gf(K:Qa)(tl:TE):TI:=λY H R=>tl Y H λx H1=>∃a,x=.ref a/\(∃xs,SqL K H1 a xs)/\R ũ H1
theorem Ip(hl:PE X l tl):PI X tg l (Gf ŝ tl):=by
 intro ON s Y H R I h;refine thn (hl ON s Y H _ I h) λv s1 hz9=>?_;exists[x,H1,I1,r1,q1],hz9;obtain⟨a,e,⟨xs,hq⟩,q⟩:=q1;subst e;cases r1;exists[its,rv,p,hz],I1.list hq;refine wpAny_pyIter_list ľ ?_;refine#[ô,[ô],_,_,H1,rfl,I1.kept (t':=s1.toks) λb o e=>Zb _ e,DN a _,#[_,Zl _ rfl,rfl,rfl],λb hb=>?_,q];have e:b=ô:=by simpa using hb
 subst e;exact I1.fpOk (Zi _) Ġ
theorem Fh{R:õ}{lo hi:Ś}{t u v:Tok}{tk:æ}(I:À)(h1:-Ŧ<=lo)(h2:lo<2^62)(h3:-Ŧ<=hi)(h4:hi<2^62)(q:R (Itr lo (hi-lo).toNat) H):wpAny Á ĕ (pyIter (.ref Ì)) Ĳ E { s with heap:=ë { cls:=.type "range",data:=.fields Ã },toks:=tk }:=by
 refine wpAny_pyIter_range (IsRange.new ..) (small_one h1 h2 h3 h4) ?_;have I1:Inv X ON Y H { s with heap:=ë { cls:=.type "range",data:=.fields Ã },toks:=tk }:=I.kept λb o e=>Zb _ e;refine#[(ë { cls:=.type "range",data:=.fields Ã }).objs.size,[(ë { cls:=.type "range",data:=.fields Ã }).objs.size],_,_,H,rfl,
  I1.kept (t':=tk) λb o e=>Zb _ e,BB _ lo (hi - lo).toNat,?_,λb hb=>?_,q]
 .have e1:lo+û*1=lo:=by simp
  have e2:ē-û=Builtin.Range.rangeSize lo hi 1:=by rw[rangeSize_one];split<;>omega
  show IsRangeIter _ _ (lo+û*1) (ē-û) 1;rw[e1,e2];exact Zl _ rfl
 .have e:b=(ë { cls:=.type "range",data:=.fields Ã }).objs.size:=by simpa using hb
  subst e;exact I1.fpOk (Zi _) Ġ
def Gg(ta:TA):TI:=λY H R=>ta Y H λvs H1=>∃j:Int,vs=[.int j]/\-Ŧ<=j/\j<2^62/\R (Itr 0 j.toNat) H1
theorem C9(hg:Gl X "range")(hm:X.mg "range" = none)(ha:PA X [a] ta)(hs:starEach [a] Å=[(false,eval a Å)]:=by rfl):PI X tg (.Call (.Name "range" p) [a] [] pos) (Gg ta):=by
 intro ON s Y H R I h;refine Call_ (ic I hg hm boot_range (YI (thn (ha pos ON s Y H _ I h) λus s1 hz9=>?_) hs rfl));exists[vs,H1,I1,r1,q1],hz9;exists[j,e,q1,q2,q],q1;subst e;cases r1 with
 |cons r rr =>cases rr;exists[t,rfl],r;exact call_range_1 (Fh I1 ∅ ∅ q1 q2 (by simpa using q))
def Lj(wi:TI)(g:TG)(tb:TS):TS:=λD Y H=>wi Y H λJ H1=>∃W:Nat->Nat->St->Hp->Prop,(∃m,W 0 m Y H1)/\∀i m Y H,W i m Y H ->
 (J.stop i H/\D.nx Y H)\/(J.go i H/\∃N:St->Hp->Prop,(∀σ' H',N σ' H'->∃m',m'<m/\W (i+1) m' σ' H')/\∀x H',J.yld i H x H'->g x Y H' λσ2 H2=>tb { D with nx:=N,ct:=N,bk:=D.nx } σ2 H2)
def ow(fp:ď)(h:ý):Oy:=fp.filterMap λb=>(h.get? b).map λo=>ō
theorem jm{h:ý}(hb:b∈fp)(e:Ŀ):ō∈ow fp h:=Yc.mpr #[b,hb,by rw[e];rfl]
theorem CS(hp:p∈ow fp h):p.1∈fp/\h.get? p.1=some p.2:=by
 exists[b,hb,e],Yc.mp hp;cases q:h.get? b with
 |none=>rw[q]at e;cases e
 |some o =>rw[q]at e;have e':ō=p:=Zo e;subst e';exact#[hb,q]
theorem Inv.pinned(I:À)(hf:ã)(ho:∀b∈fp,∃o,s.heap.get? b=some o/\∀v,Ě≠.cell v):Inv X (ON++ow fp Î) Y H s :=
 I.pins_of λp hp=>(ZE.mp hp).elim (λz=>I.pin p (ZN _ z)) λz=>by exists[hb,e],CS z;exists[f0,f1,f2,_],hf p.1 hb;exists[o,e',d],ho p.1 hb;rw[e]at e';cases e';exact#[e,f0,f1,f2,d]
theorem Inv.unpinned{ON pl:Oy}(I:Inv X (ON++pl) Y H s):Inv X ON Y H s:=I.pins_of λp hp=>I.pin p (ZN _ (List.mem_append_left _ hp))
theorem KM(hp:Ĥ)(hc:Ĭ=true)(hi:PI X tg iter wi)(hg:PG X tg g)(hb:œ)(hs:∀x,foldedSetIterable iter Å x=pure x:=by intro _;rfl):PS X (.For tg iter body [] pos) (Lj wi g tb):=by
 intro ON s Y H D I h;refine wpAny_For (thn (hi ON s Y H _ I h) λv s1 h1=>thn h1 λitv s2 h2=>?_) hs;obtain⟨it,fp,tn,J,H2,e,I2,T,st2,f2,W,⟨m0,w0⟩,turn⟩:=h2;subst e;have stat:∀{H':Hp},è->∀b∈fp,bQ X ON H' b:=λhn b hb=>#[hn b hb,(f2 b hb).2]
 refine codeAny_forLoop_any (λn s'=>∃i σ' H',Inv X ON σ' H' s'/\tn i s'.heap/\è/\W i n σ' H') ?_ m0 #[0,Y,H2,I2,st2,λb hb=>(f2 b hb).1,w0];rintro n s3 ⟨i,σ3,H3,I3,st3,fr3,w3⟩;rcases turn i n σ3 H3 w3 with⟨stop,qn⟩|⟨go,N,hN,step⟩
 .refine wpAny_passesOwn hp (thn (T.done X rfl rfl rfl hc i ON s3 σ3 H3 ê I3 Ţ st3 stop) λr s4 ⟨hr,I4⟩=>?_);subst hr;exact wpAny_execs_nil #[σ3,H3,I4,qn]
 .refine wpAny_passesOwn hp (thn (T.item X rfl rfl rfl hc i ON s3 σ3 H3 ê I3 Ţ st3 go) λr s4 ⟨u,hr,h4⟩=>?_);subst hr;refine wpAny_passesOwn hp (thn h4 λ_ s5 hz9=>?_);exists[x,H5,I5,r5,y5,st5,fr5],hz9;have I5':=I5.pinned (stat fr5) (T.obj _ _ st5);refine wpAny_passesOwn hp (thn (hg _ s5 σ3 H5 x u _ I5' r5 (step x H5 y5)) λ_ s6 ⟨σ6,H6,I6,q6⟩=>?_);refine wpAny_passesOwn hp (thn (hb _ s6 σ6 H6 _ I6 q6) λf s7 q7=>?_);have again:∀{σ7:St} {H7:Hp},Inv X (ON++ow fp s5.heap) σ7 H7 s7->N σ7 H7->∃m,m<n/\∃i σ' H',Inv X ON σ' H' s7/\tn i s7.heap/\è/\W i m σ' H':=fun{σ7 H7} I7 n7=>by exists[m',hm,w7],hN σ7 H7 n7;refine#[m',hm,i+1,σ7,H7,I7.unpinned,T.keep _ _ _ st5 λb hb o e=>(I7.pin ō ę).1,λb hb=>?_,w7];exists[o,e,d],T.obj _ _ st5 b hb;exact(I7.pin ō ę).2.1
  cases f with
  |next=>exists[σ7,H7,I7,n7],q7;exact again I7 n7
  |cont=>exists[σ7,H7,I7,n7],q7;exact again I7 n7
  |brk=>exists[σ7,H7,I7,q7],q7;exact#[σ7,H7,I7.unpinned,q7]
  |ret v=>exists[x7,σ7,H7,I7,r7,q7],q7;exact#[x7,σ7,H7,I7.unpinned,r7,q7]
end
mutual
#check#[s.heap.objs.size,(model X.prog X.w),(FnOk X.prog X.w X.K X.mg X.base CX k f fd ps sp),(cM I q (by simp)),(.builtin "type.__call__" #[.ref C::us,kw]),(Inv X ON Y H s),X.env,(H a=some (.ins C dx fs)),(gG CX P w K mg base N qual scope f cdv A outer s H E),(thn (h pos ON s Y H _ I hq) λus s1 ⟨xs,H1,I1,r,z,q⟩=>#[by rw[<-r.length];exact z,?_]),(thn (ha pos ON s Y H _ I h) λus s1 ⟨vs,H1,I1,r1,q1⟩=>hc ON s1 Y H1 vs us Q I1 r1 q1),(.ref C),(model prog w),(Binds X.K fd ps ds),s1.heap.objs.size,(thn (he ON s Y H _ I h) λu s1 hz9=>?_),(D4 ha hb I h λv u s2 x y H2 I2 rx ry q=>ho ON s2 Y H2 x y v u Q I2 rx ry q),(false,eval e Æ),(.ref f),s.heap,(e::es),(ha ON s Y H _ I h),xs.length,0,(x==("__debug__":Str)),(W.fnOf name qual params body scope dV kV doc pm an cdv ct),ps.length,(.Attribute o m apos),(starEach es Æ),(À+1),(.builtin "object.__class__"),(.Call (.Name x p) Ô [] pos),(List Str),(Str->Option NameKind),(List V),(envOfC qual scope À f cd),s.toks,(OE->OE->Sem OE),(vs++dvs),(g i j),(f (.int i t) (.int j u)),(Str×V),(.ref a),((p,w)::P.zip vs),(Vals dvs ds),(EP X ON Y Q),(W.instObj C À),(some (.builtin "object.__setattr__")),vs.length,(List V->Hp->VK->Prop),(List (Str×OE)),(fQ CX X E),(backToKw pos (keywordEach [] Æ)),(start N vs),(λv H2=>v=.non/\Q (.ref x) H2),0,(ObjM Ó x dx C mA),(List Env),(if g=f then some u else mA g),(PE X a ta),(Cls X.K C),(.lst xs),(ps.zip us),(hr pos ON s1 Y H1 _ I1 q1),X.prog,(.Compare a [op] [b] pos),(ic I hg hm hv ?_ hn hdb),(us++ds),(Room k X.A),(Zi _),fs.length,(tOp r ta tb),(k,x),(hb ON s1 Y H1 _ I1 q1),(.ins C dx (eU f y fs)),(behindInMarks op b=false),(W.plainGet K C name=true),X.stack,(some Ò),(by simp),(PE X b tb),(PA X Ô t),(intBits_le_64 h1 h2),(OpR X (compareOp op) r),(Room (k+1) A),X.xe,(.Attribute e f pos),(.Call Û Ô [] pos),(.Call Û [] [] pos),(keywordEach kws Æ),(∀v,(x,v)∉binds),(x.above y c (Yk h)),X.A,(jw I hg hm ?_ hdb),(getMethod ov m pl),(by simpa using h1),(by simpa using h2),(by simpa using hi),(W.hasDictIn K C=true),(Sem Bool),(Value.ref Ý::ă),(Str),(↑Env0 A outer s H),(λb u q=>Zb _ q),(λb u e=>Zb _ e),(Vals vs us),(FnScope N ps scope),(W.instObj C dx),(Nat),(K.In Ó),(List é),(.tup xs),(binaryOp .Add),(OE×OB->OD->Prop),(fs.lookup m=none),(PE X o ta),(PA X es t),X.K,sc.names,(.ins C dx fs),(.type "list"),(.type "dict"),(.ins C dx []),(V->Hp->VK->Prop),(.ref x),(g==k),(.builtin id),(i+1),(Int->Int->Prop),(Unit->OD->Prop),(Room k A),(Gl X x),(.int ç ä),(eval e env),(A.under Ä),(.ref x::æ),(Int->Int->Int),0,(NoAttr ĵ C f),(Meth ĵ C m f),(Room (k+1) Ĝ),apos.atName,scope.names,(f v u),(Ĉ::r),(cM I q ?_),(model P w),(Int),r.dp,r.un,X.base,(g i),(P.zip vs),(Int->Int->V),(X.mg x=none),r2.length,(i==j),(mA name),(gC te t),(g us ws),(Zj _ hw),(tCB r t),(.type T),(OE->Sem OE),(Heap),X.w,r.hd,e.frames]
#check 0
theorem ql{K:Qa}{a:OC}{xs:â}{g:TG}{tb:TS}{D:Ends}{Y:St}{H:Hp}(Pv:Nat->St->Hp->Prop)(h0:Pv 0 Y H)(hl:∀i Y H,i<=Ö->Pv i Y H->SqL K H a xs)(hs:∀i x Y H,xs[i]?=some x->Pv i Y H->g x Y H λσ2 H2=>tb { D with nx:=Pv Ŀ,ct:=Pv Ŀ,bk:=D.nx } σ2 H2)(hd:∀Y H,Pv Ö Y H->D.nx Y H) :
  ∃W:Nat->Nat->St->Hp->Prop,(∃m,W 0 m Y H)/\∀i m Y H,W i m Y H ->
   ((Itl K a).stop i H/\D.nx Y H)\/((Itl K a).go i H/\∃N:St->Hp->Prop,(∀σ' H',N σ' H'->∃m',m'<m/\W Ŀ m' σ' H')/\∀x H',(Itl K a).yld i H x H'->g x Y H' λσ2 H2=>tb { D with nx:=N,ct:=N,bk:=D.nx } σ2 H2):=by
 refine#[λi m Y H=>m=Ö-i/\i<=Ö/\Pv i Y H,#[Ö,by simp,ZL _,h0],?_];rintro i m Y H ⟨rfl,hi,p⟩;have q:=hl i Y H hi p;by_cases hlt:i<Ö
 .refine .inr #[#[xs,xs[i],q,by simp[hlt]],Pv Ŀ,λσ' H' p'=>#[Ö-Ŀ,∅,rfl,hlt,p'],λx H' y=>?_];exists[e,y],y;subst e;exact hs i x Y _ (y xs q) p
 .have e:i=Ö:=∅
  subst e;exact .inl #[#[xs,q,Zi _],hd Y H p]
abbrev R2:=V->V->Hp->VK->Prop
def OpR(X:Cx)(f:å)(r:R2):Prop :=
 ∀(ON:Oy) (s:OD) (Y:St) (H:Hp) (x y:V) (v u:OE) (Q:VK),Inv X ON Y H s->RelV x v->RelV y u->r x y H Q ->
  wpAny Á Ĝ ŏ í ĕ s
def UnR(X:Cx)(f:ţ)(r:Ļ):Prop :=
 ∀(ON:Oy) (s:OD) (Y:St) (H:Hp) (x:V) (v:OE) (Q:VK),Inv X ON Y H s->RelV x v->r x H Q ->
  wpAny Á Ĝ (f v) í ĕ s
def dR(X:Cx)(f:OE)(r:ñ):Prop :=
 ∀(ON:Oy) (s:OD) (Y:St) (H:Hp) (xs:â) (us:OB) (Q:VK),Inv X ON Y H s->Vals xs us->r xs H Q ->
  wpAny Á Ĝ (call f us) í ĕ s
def tOp(r:R2)(ta tb:TE):TE:=λY H Q=>ta Y H λx H1=>tb Y H1 λy H2=>r x y H2 Q
def tUn(r:Ļ)(ta:TE):TE:=λY H Q=>ta Y H λx H1=>r x H1 Q
inductive rI(C:ŀ)(g:ř)(x:V)(y:V)(H:Hp)(Q:VK):Prop
 |mk (i j:_) (h0:x=.int i) (h1:y=.int j) (h2:C i j) (h3:Q ç H):rI C g x y H Q
inductive rI0(g:ř)(x:V)(y:V)(H:Hp)(Q:VK):Prop
 |mk (i j:_) (h0:x=.int i) (h1:y=.int j) (h2:Q ç H):rI0 g x y H Q
def rU(g:Int->V):V->Hp->VK->Prop:=λx H Q=>∃i,x=.int i/\Q ŗ H
section
variable{X:Cx}
theorem D4(ha:û)(hb:Đ){R:V->V->Hp->Prop}(I:Å)(h:ta Y H λx H1=>tb Y H1 λy H2=>R x y H2){f:å}(hf:∀v u s2 x y H2,Inv X ON Y H2 s2->RelV x v->RelV y u->R x y H2->wpAny Á Ĝ ŏ Q ĕ s2):
  wpAny Á Ĝ (eval a Æ) (λv s₁=>wpAny Á Ĝ (eval b Æ) (λu s₂=>wpAny Á Ĝ ŏ Q ĕ s₂) ĕ s₁) ĕ s:=by
 refine thn Õ λv s1 hz9=>?_;exists[x,H1,I1,r1,q1],hz9;refine thn ĉ λu s2 hz9=>?_;exists[y,H2,I2,r2,q2],hz9;exact hf v u s2 x y H2 I2 r1 r2 q2
theorem Mb(ho:OpR X (binaryOp op) r)(ha:û)(hb:Đ):PE X (.BinOp a op b pos) ć:=by intro ON s Y H Q I h;exact wpAny_BinOp Ð
theorem Md(ho:UnR X (unaryOp op) r)(ha:û):PE X (.UnaryOp op a pos) (tUn r ta):=by intro ON s Y H Q I h;exact UnaryOp_ (thn Õ λv s1 ⟨x,H1,I1,r1,q1⟩=>ho ON s1 Y H1 x v Q I1 r1 q1)
theorem opI{f:å}{C:ŀ}{g:ň}(rule:∀(i j:œ) (t u:Tok) (s:OD) (Q:Oz) (E:Oz),C i j->Q ń { s with toks:=ä+1 }->wpAny Á Ĝ è Q E s) :
  OpR X f (rI C λi j=>.int ç):=by
 intro ON s Y H x y v u Q I rx ry h;exists[i,j,rfl,rfl,hc,q],h;exists[t,rfl],rx;exists[t',rfl],ry;exact rule i j t t' s _ _ hc #[.int ç,H,I.tok _,#[_,rfl],q]
theorem Ki{f:å}{g:ň}(rule:∀(i j:œ) (t u:Tok) (s:OD) (Q:Oz) (E:Oz),Q ń { s with toks:=ä+1 }->wpAny Á Ĝ è Q E s) :
  OpR X f (rI0 λi j=>.int ç):=by
 intro ON s Y H x y v u Q I rx ry h;exists[i,j,rfl,rfl,q],h;exists[t,rfl],rx;exists[t',rfl],ry;exact rule i j t t' s _ _ #[.int ç,H,I.tok _,#[_,rfl],q]
theorem A8{f:å}{g:Int->Int->Bool}(rule:∀(i j:œ) (t u:Tok) (s:OD) (Q:Oz) (E:Oz),Q (.bool ç) s->wpAny Á Ĝ è Q E s) :
  OpR X f (rI0 λi j=>.bl ç):=by
 intro ON s Y H x y v u Q I rx ry h;exists[i,j,rfl,rfl,q],h;exists[t,rfl],rx;exists[t',rfl],ry;exact rule i j t t' s _ _ #[.bl ç,H,I,rfl,q]
def Jk(i j:œ):Prop:=0<j/\j<1073741824
def CMul(i j:œ):Prop:=(-(2^64)<i/\i<2^64)\/(-(2^64)<j/\j<2^64)
theorem CMul.ok{i j:œ}(h:CMul i j):IntMulOk i j:=by
 rcases h with⟨h1,h2⟩|⟨h1,h2⟩
 .exact .of_left Ē
 .exact .of_right Ē
theorem Kj:OpR X İ (rI0 λi j=>.int (i+j)):=Ki λ_ _ _ _ _ _ _ q=>add_int q
theorem Kq:OpR X (binaryOp .Sub) (rI0 λi j=>.int (i-j)):=Ki λ_ _ _ _ _ _ _ q=>sub_int q
theorem Ko:OpR X (binaryOp .Mult) (rI CMul λi j=>.int (i*j)):=opI λ_ _ _ _ _ _ _ hc q=>mul_int q hc.ok
theorem HX:OpR X (binaryOp .FloorDiv) (rI Jk λi j=>.int (i / j)):=opI λi j _ _ _ _ _ hc q=>by have h1:(0:œ)<j:=hc.1;have h2:j<1073741824:=hc.2;exact floordiv_int ∅ (by rw[Int.fdiv_eq_ediv_of_nonneg i ∅];exact q) (.inl (PyProof.noPylong_small ∅))
theorem Kn:OpR X (binaryOp .Mod) (rI (λ_ j=>0<j) λi j=>.int (i%j)):=opI λi j _ _ _ _ _ hc q=>by have h1:(0:œ)<j:=hc;exact mod_int' ∅ (by rw[Int.fmod_eq_emod_of_nonneg i ∅];exact q)
theorem unI{f:ţ}{g:Int->Int}(rule:∀(i:œ) (t:Tok) (s:OD) (Q:Oz) (E:Oz),Q (.int ŗ ä) { s with toks:=ä+1 }->wpAny Á Ĝ (f (.int i t)) Q E s) :
  UnR X f (rU λi=>.int ŗ):=by
 intro ON s Y H x v Q I rx h;exists[i,rfl,q],h;exists[t,rfl],rx;exact rule i t s _ _ #[.int ŗ,H,I.tok _,#[_,rfl],q]
theorem Lu:UnR X (unaryOp .USub) (rU λi=>.int (-i)):=unI λ_ _ _ _ _ q=>neg_int q
#check 0
def M3:V->V->Bool
 |.non,.non=>true|.non,.int _=>true|.int _,.non=>true|.non,.bl _=>true|.bl _,.non=>true|.non,.str _=>true|.str _,.non=>true
 |.int _,.int _=>true|.bl _,.bl _=>true|.str _,.str _=>true|.byt _,.byt _=>true
 |.int _,.str _=>true|.str _,.int _=>true|.bl _,.str _=>true|.str _,.bl _=>true
 |_,_=>false
def rEq:R2:=λx y H Q=>M3 x y=true/\Q (.bl (decide (x=y))) H
theorem He{i j:œ}:decide (V.int i=V.int j)=Ŝ:=by rw[Bool.eq_iff_iff];simp
theorem JD{i j:Bool}:decide (V.bl i=V.bl j)=Ŝ:=by rw[Bool.eq_iff_iff];simp
theorem Hf{i j:ĥ}:decide (V.str i=V.str j)=Ŝ:=by rw[Bool.eq_iff_iff];simp
theorem Hd{i j:Array UInt8}:decide (V.byt i=V.byt j)=(i.toList==j.toList):=by rw[Bool.eq_iff_iff];cases i;cases j;simp
section
variable{X:Cx}{b:OM}
theorem cM{Q:VK}(I:Å)(q:Q (.bl k) H)(e:k=k'):EP X ON Y Q (.bool k') s:=by subst e;exact#[.bl k,H,I,rfl,q]
theorem LY:OpR X (compareOp .Eq) rEq:=by
 intro ON s Y H x y v u Q I rx ry h;exists[hs,q],h;cases x with
 |non =>
  cases rx;cases y with
  |non=>cases ry;exact PySem.EqNone.eq_none_none Ã
  |bl j=>cases ry;exact PySem.EqNone.eq_none_bool Ã
  |int j=>exists[t',rfl],ry;exact PySem.EqNone.eq_none_int Ã
  |str j=>exists[t',rfl],ry;exact PySem.EqNone.eq_none_str Ã
  |_=>exact absurd (show false=true from hs) Zx
 |bl i =>
  cases rx;cases y with
  |non=>cases ry;exact PySem.EqNone.eq_bool_none Ã
  |bl j=>cases ry;exact eq_bool (cM I q JD)
  |str j=>exists[t',rfl],ry;exact PySem.EqMixed.eq_bool_str Ã
  |_=>exact absurd (show false=true from hs) Zx
 |int i =>
  exists[t,rfl],rx;cases y with
  |non=>cases ry;exact PySem.EqNone.eq_int_none Ã
  |int j=>exists[t',rfl],ry;exact eq_int (cM I q He)
  |str j=>exists[t',rfl],ry;exact PySem.EqMixed.eq_int_str Ã
  |_=>exact absurd (show false=true from hs) Zx
 |str i =>
  exists[t,rfl],rx;cases y with
  |non=>cases ry;exact PySem.EqNone.eq_str_none Ã
  |bl j=>cases ry;exact PySem.EqMixed.eq_str_bool Ã
  |int j=>exists[t',rfl],ry;exact PySem.EqMixed.eq_str_int Ã
  |str j=>exists[t',rfl],ry;exact eq_str (cM I q Hf)
  |_=>exact absurd (show false=true from hs) Zx
 |byt i =>
  exists[t,rfl],rx;cases y with
  |byt j=>exists[t',rfl],ry;exact W.eq_bytes (cM I q Hd)
  |_=>exact absurd (show false=true from hs) Zx
 |_=>cases y<;>exact absurd (show false=true from hs) Zx
theorem L5:OpR X (compareOp .Lt) (rI0 λi j=>.bl (decide (i<j))):=A8 λ_ _ _ _ _ _ _ q=>lt_int q
theorem L4:OpR X (compareOp .LtE) (rI0 λi j=>.bl (decide (i<=j))):=A8 λ_ _ _ _ _ _ _ q=>le_int q
theorem L1:OpR X (compareOp .Gt) (rI0 λi j=>.bl (decide (j<i))):=A8 λ_ _ _ _ _ _ _ q=>gt_int q
theorem L0:OpR X (compareOp .GtE) (rI0 λi j=>.bl (decide (j<=i))):=A8 λ_ _ _ _ _ _ _ q=>ge_int q
theorem Km:OpR X (compareOp .Is) (λx y H Q=>y=.non/\Q (.bl (decide (x=.non))) H):=by
 intro ON s Y H x y v u Q I rx ry h;exists[rfl,q],h;cases ry;refine is_none_gen ő;cases x<;>first
  |(cases rx;rfl)
  |(exists[t,rfl],rx;rfl)
theorem HY:OpR X (compareOp .IsNot) (λx y H Q=>y=.non/\Q (.bl (!decide (x=.non))) H):=by
 intro ON s Y H x y v u Q I rx ry h;exists[rfl,q],h;cases ry;refine isnot_none_gen ő;cases x<;>first
  |(cases rx;rfl)
  |(exists[t,rfl],rx;rfl)
theorem CJ(b:OM)(h:op≠.In:=by decide)(h2:op≠.NotIn:=by decide):behindInMarks op b=false:=by
 have e1:(op==CmpOp.In)=false:=by cases op<;>first|rfl|exact absurd rfl h
 have e2:(op==CmpOp.NotIn)=false:=by cases op<;>first|rfl|exact absurd rfl h2
 cases b<;>simp[behindInMarks,e1,e2]
theorem Ig(ho:ē)(ha:û)(hb:Đ)(hm:ċ):PE X ā ć:=by intro ON s Y H Q I h;exact wpAny_Compare1 Ð hm
def vK(t:TE):TT:=λY H Q=>t Y H λx H1=>IsB x H1 Q
theorem IB(ho:ē)(ha:û)(hb:Đ)(hm:ċ):PT X ā (vK ć):=by
 intro ON s Y H Q I h;refine wpAny_isTrue_Compare1 (thn Õ λv s1 ⟨x,H1,I1,r1,q1⟩=>thn ĉ λu s2 ⟨y,H2,I2,r2,q2⟩ =>
  thn (ho ON s2 Y H2 x y v u _ I2 r1 r2 q2) λc s3 ⟨z,H3,I3,r3,k,e,q3⟩=>?_) hm
 subst e;cases r3;exact YU #[H3,I3,q3]
theorem og:(sizeLine:Ĭ)<2^63:=by rw[sizeLine_eq];decide
theorem A9:OpR X İ (λx y H Q=>∃i j,x=.str i/\y=.str j/\i.length+j.length<=sizeLine/\Q (.str (i++j)) H):=by intro ON s Y H x y v u Q I rx ry h;exists[i,j,rfl,rfl,hz,q],h;exists[t,rfl],rx;exists[t',rfl],ry;exact add_str (λt' tk=>#[.str (i++j),H,I.tok _,#[_,rfl],q]) hz
theorem dH(r:Vals [x] us):∃u,us=[u]/\RelV x u:=by
 cases r with
 |cons r1 r2=>cases r2;exact#[_,rfl,r1]
theorem pJ(r:Vals [x,y] us):∃u w',us=[u,w']/\RelV x u/\RelV y w':=by
 cases r with
 |cons r1 r2 =>
  cases r2 with
  |cons r3 r4=>cases r4;exact#[_,_,rfl,r1,r3]
theorem BS(hc:X.calm=true):dR X (.builtin "max") (λxs H Q=>∃i j,xs=[.int i,.int j]/\Q (.int (if j>i then j else i)) H):=by
 intro ON s Y H xs us Q I r h;exists[i,j,rfl,q],h;obtain⟨u,w',rfl,⟨t,rfl⟩,⟨t',rfl⟩⟩:=pJ r;refine max_two_ints (I.ok.hd hc) λh' tk k=>#[_,H,I.kept k,?_,q]
 by_cases hj:j>i
 .rw[Ox hj,Ox hj];exact#[_,rfl]
 .rw[Ow hj,Ow hj];exact#[_,rfl]
#check 0
structure ObjM(h:Ť)(x dx C:OC)(mA:OA):Prop where
 obj:h.get? x=some ī
 ns:h.Ns1 dx mA
 ne:dx≠x
set_option tactic.hygienic true in theorem CB{h:Ť}(n:h.Ns1 dx mA):∃od,h.get? dx=some od/\∀name,W.lookIn name od=some ŝ:=by
 exists[o,es,ep,ho,hd,hk,_,hm],n;refine#[o,ho,λname=>?_];have e:=hm name;unfold nsFind findBy at e;rw[<-Array.find?_toList]at e;unfold W.lookIn;rw[hd];dsimp only;split
 .rename_i y q;rw[q]at e;exact Z2 some e
 .rename_i q;rw[q]at e;have a:es.toList.any (·.refKey)=false:=by rw[List.any_eq_false];intro y hy;exists[z,t,hkey],hk y (YS.mp hy);simp[DictEntry.refKey,hkey]
  have a':¬es.toList.any (·.refKey)=true:=by rw[a];exact Zx
  rw[Ow a'];exact Z2 some e
theorem ObjM.look(I:ObjM h x dx C mA):∃od,W.InstAt h x ī C (some od)/\∀name,W.lookIn name od=some ŝ :=
 let⟨od,ho,hl⟩:=CB I.ns
 #[od,#[I.obj,rfl,rfl,ho],hl]
section
variable{A:OH}{s:OD}{K:Qa}{C:OC}
theorem Hi{Q:Oz}(X:ĭ)(I:ø)(hg:Č)(hh:Ģ)(ha:W.findIn K Ë name=some none)(hv:mA name=some v)(hv':W.handedIn v=true)(h:Q v { s with toks:=ä+1 }):
  wpAny Ì A (getAttr ļ name expr) Q E s:=by
 exists[od,J,hl],I.look;exact W.get_value X J (W.plainGet_of hg).1 (W.findObj_own hh ha rfl (by rw[hl,hv])) hv' h
theorem El{pl:ģ}{Q:ı}(X:ĭ)(I:ø)(hg:Č)(hf:W.findIn K Ë name=some Ď)(ht:W.isFn K Ò=true)(hv:mA name=none)(h:Q (.ref f,[.ref x]) s) :
  wpAny Ì A (getMethod ļ name pl) Q E s:=by
 exists[od,J,hl],I.look;exact W.method_fn X J (W.plainGet_of hg).1 (W.plainGet_of hg).2 hf (Z8.mp ht) (by show(W.lookIn name od).map (·.isSome)=some false;rw[hl,hv];rfl) h
theorem IP{Q:Ł}(X:ĭ)(I:ø)(hs:W.findIn K Ë "__setattr__" = some ï)(hp:W.plainOver K C=true)(ht:W.takerIn K C name=some none)(hh:Ģ)(hw:PySem.Within mA ns)(hsz:ns.length<=sizeLine)(h:∀h',ObjM h' x dx C (λy=>if y=name then some v else mA y)->Heap.SameBut dx Ó h'->Q () { s with heap:=h',toks:=ä+2 }):
  wpAny Ì A (setAttr ļ name v) Q E s:=by
 exists[od,J,hl],I.look;refine W.set_plain X J hs (W.osa_open (s:={ s with toks:=ä+1 }) (r:=none) X J hp ht λb=>?_);exists[cd,hc,hd'],W.any_some hh;have hx:s.heap.get? x=some #[.ref C,some dx,.plain,#[]]:=I.obj;refine z9 (Za (z9 (z9 (wpAny_loadPart hx (z9 (W.Looks.here (s:={ s with toks:=ä+1 }) (W.looks_clsIn X hc) ?_))))));rw[hd'];refine Za (a:=some dx) (z9 (Za (z9 ?_)));refine wpAny_nsSet1 (s:={ s with toks:=ä+1 }) I.ns λh' hn2 hs2=>?_;exists[oD,esD,epD,hoD,hdD,hcD],hn2.count (PySem.Within.cons name v hw);refine z9 (wpAny_lookBehind hoD (by rw[hdD];exact pastItsLine_dict (Zs hcD (by rw[Zm];omega))) ?_);exact Za (h _ #[(hs2.2 _ (ZO I.ne)).trans I.obj,hn2,I.ne] hs2)
theorem EK(X:ĭ)(hm:W.makesIn K C=true)(hi:W.findIn K Ë "__init__" = some Ď)(hf:W.typeIn K Ò=some (.type "function"))(h:codeAny Ì (A.under (.builtin "type.__call__" #[.ref C::vs,kw])) (.call Ò #[.ref Ý::vs,kw]) (W.InitBack Ý R)
   { s with heap:=(s.heap.push W.emptyDict).push î }):
  codeAny Ì A (.call Ë #[vs,kw]) R s:=by
 exists[hh,g,d,t,os],s;exact W.make_core (W.makes_of X hm) (W.looks_findIn X hi) (λself=>W.bind_fn X self hf) (.inl rfl) h
#check 0
def eU(f:ĥ)(v:V):List é->List é
 | []=>[(f,v)]
 |(g,x)::r=>if g=f then(g,v)::r else(g,x)::eU f v r
theorem dQ(f g:ĥ)(v:V):∀fs:List é,(eU f v fs).lookup g=if g=f then some v else fs.lookup g
 | []=>by
  show List.lookup g [(f,v)]=_;by_cases h:g=f
  .have hb:(g==f)=true:=Z8.mpr h;simp only[List.lookup,hb,Ox h]
  .have hb:(g==f)=false:=Yx.mpr h;simp only[List.lookup,hb,Ow h]
 |Ĉ::r=>by
  have ih:=dQ f g v r;rw[show eU f v Ő=(if k=f then(k,v)::r else Ĉ::eU f v r)from rfl];by_cases hk:k=f
  .rw[Ox hk];by_cases h:g=k
   .have hb:Ľ=true:=Z8.mpr h;simp only[List.lookup,hb,Ox (h.trans hk)]
   .have hb:Ľ=false:=Yx.mpr h;simp only[List.lookup,hb,Ow (λe:g=f=>h (e.trans hk.symm))]
  .rw[Ow hk];by_cases h:g=k
   .have hb:Ľ=true:=Z8.mpr h;simp only[List.lookup,hb,Ow (λe:g=f=>hk (h.symm.trans e))]
   .have hb:Ľ=false:=Yx.mpr h;simp only[List.lookup,hb];exact ih
theorem nU(f:ĥ)(v:V):∀fs:List é,f∈(eU f v fs).map (·.1)/\∀g,g∈fs.map (·.1)->g∈(eU f v fs).map (·.1)
 | []=>#[by simp[eU],λg h=>by simp at h]
 |Ĉ::r=>by
  exists[i1,i2],nU f v r;rw[show eU f v Ő=(if k=f then(k,v)::r else Ĉ::eU f v r)from rfl];by_cases hk:k=f
  .rw[Ox hk];subst hk;exact#[by simp,λg h=>by simpa using h]
  .rw[Ow hk];refine#[?_,λg h=>?_]
   .rw[Zr];exact Zj _ i1
   .rw[Zr]at h ⊢;rcases Zg.mp h with e|e
    .exact Zg.mpr (.inl e)
    .exact Zj _ (i2 g e)
theorem pR(f:ĥ)(v:V):∀fs:List é,(eU f v fs).length<=Ć+1
 | []=>by simp[eU]
 |Ĉ::r=>by
  have ih:=pR f v r;rw[show eU f v Ő=(if k=f then(k,v)::r else Ĉ::eU f v r)from rfl];by_cases hk:k=f
  .rw[Ox hk,Zm,Zm];omega
  .rw[Ow hk,Zm,Zm];omega
theorem RelO.some_of(r:RelO (some v) o):∃u,o=some u/\RelV v u:=by
 cases o with
 |none=>exact(show False from r).elim
 |some u=>exact#[u,rfl,r]
theorem RelO.none_of(r:RelO none o):o=none:=by
 cases o with
 |none=>rfl
 |some u=>exact(show False from r).elim
theorem Ck(r:RelV v u):W.handedIn u=true:=by
 cases v with
 |non=>cases(show u=Value.none from r);rfl
 |bl b=>cases(show u=Value.bool b from r);rfl
 |int i=>exists[t,e],(show∃t,u=Value.int i t from r);cases e;rfl
 |str x=>exists[t,e],(show∃t,u=Value.str x t from r);cases e;rfl
 |byt b=>exists[t,e],(show∃t,u=Value.bytes b t from r);cases e;rfl
 |flt b=>exists[t,e],(show∃t,u=Value.float b t from r);cases e;rfl
 |ref a=>cases(show u=Value.ref a from r);rfl
 |ty n=>cases(show u=Value.type n from r);rfl
section
variable{fs:Į}
theorem oZ(hok:HOk P w H h)(e:Ç):∃mA,ObjM h a dx C mA/\(∀f,RelO (fs.lookup f) (mA f))/\PySem.Within mA (fs.map (·.1))/\Ć<=1000/\H dx=some (.own a):=by
 exists[d,z,ne,ob,mA,n,r,q],(show ObjOk P w H h a (.ins C dx fs)from hok a _ e)
 exact#[mA,#[ob,n,ne],r,q,z,d]
#check 0
structure Cls(K:Qa)(C:OC):Prop where
 pg:W.plainGet K C Str.empty=true
 hd:W.hasDictIn K C=true
 po:W.plainOver K C=true
 sa:W.findIn K Ë "__setattr__" = some ï
theorem Cls.get{K:Qa}(c:Cls K C)(f:ĥ):W.plainGet K C f=true:=c.pg
def NoAttr(K:Qa)(C:OC)(f:ĥ):Prop:=W.findIn K Ë f=some none
theorem NoAttr.taker{K:Qa}(n:NoAttr K C f):W.takerIn K C f=some none:=by unfold W.takerIn;rw[show W.findIn K Ë f=some none from n];rfl
structure Con(K:Qa)(C:OC)(f:ĥ)(v:V)(u:OE):Prop where
 at_:W.findIn K Ë f=some (some u)
 rel:RelV v u
 get:W.specialIn K u "__get__" = some none
 cp:W.copiedNames.contains f=false
structure Meth(K:Qa)(C:OC)(m:ĥ)(f:OC):Prop where
 at_:W.findIn K Ë m=some Ď
 fn:W.isFn K Ò=true
 kp:W.keepIn K Ò=true
section
variable{s:OD}{fs:Į}{f:ĥ}
theorem AH{Q:Oz}(I:Å)(e:Ç)(c:ü)(n:Ŋ)(l:fs.lookup f=some v)(h:∀u s',Inv X ON Y H s'->RelV v u->Q u s'):wpAny Á A (getAttr ê f b) Q E s:=by exists[mA,O,r,_,_,_],oZ I.hok e;exists[u,hu,ru],RelO.some_of (v:=v) (o:=mA f) (by rw[<-l];exact r f);exact Hi I.kIn O (c.get f) c.hd n hu (Ck ru) (h u _ (I.tok _) ru)
theorem mI{pl:ģ}{Q:ı}(I:Å)(e:Ç)(c:ü)(k:Meth ĵ C m g)(l:Ĳ)(h:Q (.ref g,[.ref a]) s):wpAny Á A (getMethod ê m pl) Q E s:=by exists[mA,O,r,_,_,_],oZ I.hok e;have hn:mA m=none:=RelO.none_of (by rw[<-l];exact r m);exact El I.kIn O (c.get m) k.at_ k.fn hn h
theorem Bm{Q:Ł}(I:Å)(e:Ç)(c:ü)(n:Ŋ)(hl:Ć<1000)(ry:RelV y u)(h:∀s',Inv X ON Y (upd H a Ċ) s'->Q () s'):wpAny Á A (setAttr ê f u) Q E s:=by
 exists[mA,O,r,wi,_,ho],oZ I.hok e;have hz:(fs.map (·.1)).length<=sizeLine:=by rw[Zd,sizeLine_eq];omega
 refine IP I.kIn O c.sa c.po n.taker c.hd wi hz λh' O' sb=>h _ ?_;have hd:∃o,h'.get? dx=some o:=let⟨o,_,_,e',_⟩:=O'.ns;#[o,e']
 refine I.write (x:=a) (e:=dx) (by rw[e];exact True.intro) (.inr ho) (λb q hb z=>(sb.2 b hb).trans z) hd ?_;refine#[by rw[af O.ne];exact ho,?_,O.ne,O'.obj,_,O'.ns,λg=>?_,λg hg=>?_]
 .have:=pR f y fs;omega
 .show RelO ((eU f y fs).lookup g) ú;rw[dQ];by_cases q:g=f
  .rw[Ox q,Ox q];exact ry
  .rw[Ow q,Ow q];exact r g
 .by_cases q:g=f
  .rw[q];exact(nU f y fs).1
  .refine(nU f y fs).2 g (wi g λz=>hg ?_);show ú=none;rw[Ow q];exact z
theorem Inv.made(I:Å):Inv X ON Y (upd (upd H À (.own Ý)) Ý (.ins C À []))
  { s with heap:=(s.heap.push W.emptyDict).push î }:=by
 have e1:(s.heap.push W.emptyDict).get? À=some W.emptyDict:=Zl Ó rfl;have e2:((s.heap.push W.emptyDict).push î).get? Ý=some î:=by
  have:=Zl (s.heap.push W.emptyDict) (o:=W.instObj C À) rfl
  rwa [Y3]at this
 have e3:(s.heap.push W.emptyDict).Ns À (λ_=>none):=#[W.emptyDict,#[],_,e1,rfl,(λe he=>absurd he ď),λ_=>rfl]
 have I1:=I.laid (a:=À) (o:=.own Ý) (h':=s.heap.push W.emptyDict) (t':=ä) ħ ą #[_,e1];refine I1.laid (a:=À+1) (o:=.ins C À []) (t':=ä) ħ (Nat.le_of_eq (Y3 _ _)) ?_;have ne:À≠À+1:=Zz (YC _);refine#[by rw[af ne,ac],ZL _,ne,e2,λ_=>none,(Heap.Ns1.of_empty e3).at λo q=>Zb _ q,λ_=>True.intro,λy hy=>absurd rfl hy]
theorem G2{f:ĥ}{s:OD}(hb:attributeBase e f env Ņ=eval e env)(h:wpAny Ì A Ņ (λo s₁=>wpAny Ì A (getAttr o f true) Q E s₁) E s):wpAny Ì A (eval Ė env) Q E s :=
 Attribute_any_ h (by rw[arm_eval_Attribute,hb])
#check 0
def FK(K:Qa)(ta:TE)(f:ĥ):TE:=λY H Q=>ta Y H λx H1=>∃a C dx fs v,x=.ref a/\H1 a=some ķ/\Cls K C/\NoAttr K C f/\fs.lookup f=some v/\Q v H1
def La(K:Qa)(ta tv:TE)(f:ĥ):TS:=λD Y H=>tv Y H λy H1=>ta Y H1 λx H2=>∃a C dx fs,x=.ref a/\H2 a=some ķ/\Cls K C/\NoAttr K C f/\Ć<1000 /\
 D.nx Y (upd H2 a Ċ)
section
variable{pos:Pos}
theorem Kx(he:PE X e ta)(hb:attributeBase e f Æ (eval e Æ)=eval e Æ):PE X Ė (FK ĵ ta f):=by intro ON s Y H Q I h;refine G2 hb Ï;exists[x,H1,I1,rx,a,C,dx,fs,v,ex,ea,c,n,l,q],hz9;subst ex;obtain rfl:u=Value.ref a:=rx;exact AH I1 ea c n l λu' s2 I2 ru=>#[v,H1,I2,ru,q]
theorem KL(ha:ĳ)(hv:PE X value tv)(hs:swapsWith value (some (.Attribute o f pos')) pos.line Æ=pure false):PS X (.Assign [.Attribute o f pos'] value pos) (La ĵ ta tv f):=by intro ON s Y H D I h;refine plainObj_wpAny_Assign_Attribute (thn (hv ON s Y H _ I h) λu s1 ⟨y,H1,I1,ry,q⟩=>thn (ha ON s1 Y H1 _ I1 q) λov s2 hz9=>?_) hs;exists[x,H2,I2,rx,a,C,dx,fs,ex,ea,c,n,l,q2],hz9;subst ex;obtain rfl:ov=Value.ref a:=rx;exact Bm I2 ea c n l ry λs3 I3=>#[Y,_,I3,q2]
#check 0
section
variable{H:Hp}{s:OD}{Q:Oz}
inductive TyOf(K:Qa)(H:Hp):V->OE->Prop where
 |non:TyOf K H .non (.type "NoneType")
 |bl (x:Bool):TyOf K H (.bl x) (.type "bool")
 |int (i:œ):TyOf K H (.int i) (.type "int")
 |str (x:ĥ):TyOf K H (.str x) (.type "str")
 |flt (x:UInt64):TyOf K H (.flt x) (.type "float")
 |lst {a:OC} {xs:â} (e:H a=some ý):TyOf K H ê ĸ
 |frz {a:OC} {o:Obj} {xs:â} (e:H a=some (.frz o ý)):TyOf K H ê ĸ
 |tup {a:OC} {xs:â} (e:H a=some į):TyOf K H ê (.type "tuple")
 |dK {a:OC} {kvs:List (Key×V)} (e:H a=some (.dK kvs)):TyOf K H ê Ĺ
 |dT {a:OC} {kvs:List (List Key×V)} (e:H a=some (.dT kvs)):TyOf K H ê Ĺ
 |ins {a C dx:OC} {fs:Į} (e:Ç) (cl:Cls K C) (ha:W.findIn K Ë "__class__" = some (some Þ))
   (hn:W.specialIn K Þ "__get__" = some (some (.builtin "getset_descriptor.__get__"))) (htk:W.takesIn K Þ=some true)
   (hm:W.mroIn K C (.type "object")=some true):TyOf K H ê Ë
theorem Cq{u t:OE}(I:Å)(rx:RelV x u)(ty:TyOf ĵ H x t)(e:W.kitOne ĵ t c=some b)(h:∀tk,Q (.bool b) { s with toks:=tk }):
  wpAny Á A (call (.builtin "isinstance") [u,c]) Q E s:=by
 cases ty with
 |non=>cases(show u=Value.none from rx);exact Yn W.kitx_none I.kIn True.intro e nofun h
 |bl y=>cases(show u=Value.bool y from rx);exact Yn W.kitx_bool I.kIn True.intro e nofun h
 |int i=>exists[t,q],(show∃t,u=Value.int i t from rx);cases q;exact Yn W.kitx_int I.kIn True.intro e nofun h
 |str y=>exists[t,q],(show∃t,u=Value.str y t from rx);cases q;exact Yn W.kitx_str I.kIn True.intro e nofun h
 |flt y=>exists[t,q],(show∃t,u=Value.float y t from rx);cases q;exact Yn W.kitx_float I.kIn True.intro e nofun h
 |@lst a xs ea =>
  cases(show u=Value.ref a from rx);exists[_,_,n,_,h1],(show ObjOk Ā ť H Ó a (.lst xs)from I.hok a _ ea)
  exact Yn W.kitx_list I.kIn #[_,h1,rfl] e nofun h
 |@frz a ob xs ea =>
  cases(show u=Value.ref a from rx);exists[_,_,_,n,_,h1],(show ObjOk Ā ť H Ó a (.frz ob ý)from I.hok a _ ea)
  exact Yn W.kitx_list I.kIn #[_,h1,rfl] e nofun h
 |@tup a xs ea =>
  cases(show u=Value.ref a from rx);exists[_,_,_,p],(show ObjOk Ā ť H Ó a (.tup xs)from I.hok a _ ea)
  exists[o,h1,h2,_],p;exact Yn W.kitx_tuple I.kIn #[o,h1,h2] e nofun h
 |@dK a kvs ea =>
  cases(show u=Value.ref a from rx);exists[_,_,vs,_,p],(show ObjOk Ā ť H Ó a (.dK kvs)from I.hok a _ ea)
  exists[o,es,ep,h1,h2,_],p;exact Yn W.kitx_dict I.kIn #[o,h1,h2.1] e nofun h
 |@dT a kvs ea =>
  cases(show u=Value.ref a from rx);exists[_,_,xs,_,o,es,ep,h1,h2,_],(show ObjOk Ā ť H Ó a (.dT kvs)from I.hok a _ ea)
  exact Yn W.kitx_dict I.kIn #[o,h1,h2.1] e nofun h
 |@ins a C dx fs ea cl ha hn htk hm =>cases(show u=Value.ref a from rx);exists[mA,O,_],oZ I.hok ea;exists[od,J,_],O.look;exact Yn (W.kitx_own (cl.get _) cl.hd ha hn htk hm) I.kIn J e nofun h
#check 0
structure Room(k:Ĭ)(A:OH):Prop where
 hd:A.handled=none
 dp:A.depth+3*k+5<recursionLimit
 un:A.units+16*k+200<cLine
theorem Room.mono{j k:Ĭ}(r:ł)(h:j<=k):Room j A:=#[Ŧ,by have:=Ŕ;omega,by have:=ŕ;omega]
theorem Room.deeper{k:Ĭ}(r:Ĕ)(env:Env):Room k (A.deeper env) :=
 #[Ŧ,by have:=Ŕ;show A.depth+1+3*k+5<_;omega,by have:=ŕ;show A.units+3+16*k+200<_;omega]
theorem Room.in1{k:Ĭ}(r:Ĕ):Room k A.in1 :=
 #[Ŧ,by have:=Ŕ;show A.depth+3*k+5<_;omega,by have:=ŕ;show A.units+1+16*k+200<_;omega]
theorem AO{A:OH}:(A.under Ä).depth=A.depth+1:=by
 first|rfl|simp[Around.under,Code.weight,Code.isCreation,Code.isGuard,Code.isCaller,Code.frames,Code.isFrame,guardIds]
theorem AQ{A:OH}:(A.under Ä).units=A.units+1:=by
 first|rfl|simp[Around.under,Code.cUnits,Code.frames,Code.isFrame]
theorem Room.make{k:Ĭ}(r:Ĕ)(C:OC)(us:OB)(kw:ò):Room k ņ :=
 #[Ŧ,by have:=Ŕ;rw[AO];omega,by have:=ŕ;rw[AQ];omega]
theorem Room.depth{k:Ĭ}(r:ł):A.depth<recursionLimit:=by have:=Ŕ;omega
theorem Room.units{k:Ĭ}(r:ł):A.units+64<cLine:=by have:=ŕ;omega
def gN:TA:=λ_ H Q=>Q [] H
def gC(ta:TE)(tr:TA):TA:=λY H Q=>ta Y H λx H1=>tr Y H1 λxs H2=>Q (x::xs) H2
section
variable{e:OM}{t:TA}
theorem rE:PA X [] gN:=λ_ _ _ _ H Q I h=>Calls.spliced_nil #[[],H,I,.nil,h]
theorem zA(ha:PE X e te)(hr:Ĵ)(hs:starEach Ô Æ=Ñ::starEach es Æ:=by rfl):PA X Ô Ş:=by intro pos ON s Y H Q I h;rw[hs];show wpAny _ _ (spliced (Ñ::backTo pos Ü)) _ _ s;refine Calls.spliced_cons (thn Õ λu s1 hz9=>?_);exists[x,H1,I1,r1,q1],hz9;exact thn ÿ λus s2 ⟨xs,H2,I2,r2,q2⟩=>#[x::xs,H2,I2,.cons r1 r2,q2]
def Ls(t:TA):TE:=λY H Q=>t Y H λxs H1=>Ö<=sizeLine/\∀p,H1 p=none->Q (.ref p) (upd H1 p į)
def Ll(t:TA):TE:=λY H Q=>t Y H λxs H1=>Ö<=sizeLine/\∀p,H1 p=none->Q (.ref p) (upd H1 p ý)
theorem KE{x1}(h:Ĵ):PE X (.Tuple es x1 pos) (Ls t):=by intro ON s Y H Q I hq;refine wpAny_Tuple_spliced É;have hf:H1 Î=none:=I1.hok.fresh ą;refine#[.ref Î,upd H1 Î į,I1.laid (t':=s1.toks) Ĩ ą ?_,rfl,q _ hf];exact#[z,us,r,#[_,Zl _ rfl,rfl,_,rfl]]
theorem Kz(h:Ĵ):PE X (.List es pos) (Ll t):=by intro ON s Y H Q I hq;refine wpAny_List_spliced É;have hf:H1 Î=none:=I1.hok.fresh ą;refine#[.ref Î,upd H1 Î ý,I1.laid (t':=s1.toks) Ĩ ą ?_,rfl,q _ hf];exact#[z,us,0,r,Zl _ rfl]
#check 0
abbrev Sp:=List V->Hp->VK->XK->Prop
abbrev CXT:=List Env->Hp->OD->XK->OE->OD->Prop
structure Env0(P:OF)(w:OG)(K:Qa)(mg:OA)(base:Ť)(A:OH)(outer:ù)(s:OD)(H:Hp):Prop where
 frames:A.frames=some outer
 mod:Mod K mg base
 bs:∀b o,base.get? b=some o->s.heap.get? b=some o/\H b=none
 bsz:base.objs.size<=À
 funs:s.heap.FunFrames base outer
 frf:∀b∈frs outer,H b=none
 hok:HOk P w H Ó
 bare:AllBare s.gens
def CE(outer:ù)(P:OF)(w:OG)(H:Hp)(s:OD)(Q:VK)(u:OE)(s':OD):Prop :=
 ∃v H',s'.os=s.os/\AllBare s'.gens/\Un (frs outer) [] H H' Ó s'.heap/\HOk P w H' s'.heap/\RelV v u/\Q v H'
def CR(CX:CXT)(outer:ù)(P:OF)(w:OG)(H:Hp)(s:OD)(Q:VK)(E:XK)(r:Result)(s':OD):Prop :=
 match r with
 |.ok (.ret u)=>CE outer P w H s Q u s'
 |.ok _=>False
 |.error e=>CX outer H s E e s'
structure FnOk(P:OF)(w:OG)(K:Qa)(mg:OA)(base:Ť)(CX:CXT)(k:Ĭ)(f:OC)(fd:OI)(ps:à)(sp:Sp):Prop where
 len:∀vs H Q E,sp vs H Q E->ð=Ú
 run:∀(A:OH) (outer:ù) (s:OD) (H:Hp) (args:Args) (us:OB) (vs:â) (Q:VK) (E:XK),Room k A->Env0 P w K mg base A outer s H->BindsTo s fd args þ->Vals vs us->sp vs H Q E ->
  codeAny Œ A (.call Ò args) (CR CX outer P w H s Q E) s
theorem FnOk.imp{K:Qa}{k:Ĭ}{sp sp':Sp}(F:↑FnOk CX k f fd ps sp)(h:∀vs H Q E,sp' vs H Q E->sp vs H Q E):↑FnOk CX k f fd ps sp' :=
 #[λvs H Q E q=>F.len vs H Q E (h _ _ _ _ q),λA outer s H args us vs Q E hr he hb hv hs=>F.run A outer s H args us vs Q E hr he hb hv (h _ _ _ _ hs)]
theorem Env0.make{K:Qa}(e:Ħ)(C:OC)(us:OB)(kw:ò):
  Env0 P w K mg base ņ outer s H:=#[by first|exact ŧ|(simpa[Around.under,Code.envs,Code.isFrame,pushEnvs]using ŧ),e.mod,e.bs,e.bsz,e.funs,e.frf,e.hok,e.bare]
section
theorem Inv.env0(I:Å):Env0 Ā ť ĵ X.mg Ŗ Ĝ č s H :=
 #[I.ok.frames,I.ok.mod,I.bs,Zs I.ok.bsz I.sz,I.stack,I.stkFree,I.hok,I.bare]
theorem Inv.after(I:Å)(h:CE č Ā ť H s Q u s'):EP X ON Y Q u s':=by exists[v,H',os,bare,un,hok,r,q],h;exists[hh,g,d,t,os'],s';obtain rfl:os'=s.os:=os;exact#[v,H',I.call (h':=hh) (g':=g) (d':=d) (t':=t) (ch:=[]) un hok bare (λb z=>absurd z ď),r,q]
#check 0
def vI(sp:Sp)(dvs:â)(E:XK)(t:TA):TE:=λY H Q=>t Y H λvs H1=>sp æ H1 Q E
inductive IsM(C:OC)(m:ĥ)(x:V)(H:Hp)(R:Prop):Prop
 |mk (a dx:OC) (fs:Į) (h0:x=.ref a) (h1:Ç) (h2:Ĳ) (q:R):IsM C m x H R
def rQ(C:OC)(m:ĥ)(sp:Sp)(dvs:â)(E:XK)(ta:TE)(t:TA):TE:=λY H Q=>ta Y H λx H1=>IsM C m x H1 (t Y H1 λvs H2=>sp (x::æ) H2 Q E)
def GH(C:OC)(sp:Sp)(dvs:â)(E:XK)(t:TA):TE:=λY H Q=>t Y H λvs H1=>∀x dx,H1 x=none->H1 dx=none->dx≠x ->
 sp Ň (upd (upd H1 dx (.own x)) x ĺ) ö E
def Binds(K:Qa)(fd:OI)(ps:à)(ds:OB):Prop :=
 ∀(s:OD) (us:OB),K.In Ó->(us++ds).length=Ú->BindsTo s fd #[us,[]] (ps.zip ă)
theorem Binds.all{K:Qa}{ps:à}(h:∀us:OB,us.length=Ú->bindArgs fd #[us,[]]=pure þ):Binds K fd ps []:=λs us _ hl=>by rw[ZF]at hl ⊢;exact .of_eq (h us hl)
def fQ(CX:CXT)(X:Cx)(E:XK):Prop:=∀(ON:Oy) (Y:St) (H:Hp) (s:OD) (e:OE) (s':OD),Inv X ON Y H s->CX č H s E e s'->X.xe e s'
section
variable{X:Cx}{k:Ĭ}{f C:OC}{x:ĥ}{e:OM}{t:TA}
theorem xQ(F:Â)(hr:Ą)(hb:Í)(hd:ì)(hx:ó)(I:Å)(r:ĩ)(h:sp æ H Q E):wpAny Á Ĝ (call Ò us) í ĕ s:=by
 have r2:Vals æ ă:=r.append hd;have hl:(us++ds).length=Ú:=by rw[<-ś];exact F.len _ _ _ _ h
 refine wpAny_call (Y7 (F.run Ĝ č s H #[us,[]] ă æ Q E hr I.env0 (hb s us I.kIn hl) r2 h) λr s' hq=>?_);cases r with
 |error e=>exact hx ON Y H s e s' I hq
 |ok fl =>
  cases fl with
  |ret u=>exact I.after hq
  |next=>exact False.elim hq
  |brk=>exact False.elim hq
  |cont=>exact False.elim hq
theorem Ie(F:Â)(hr:Ą)(hg:Ń)(hm:X.mg x=some Ò)(hk:W.keepIn ĵ Ò=true)(hb:Í)(hd:ì)(hx:ó)(ha:đ)(hdb:Ø=false:=by decide)(he:starEach Ô Æ=Ñ::starEach es Æ:=by rfl)(hpl:(backTo pos Ü).any (·.1)=false:=by rfl) :
  PE X ß (vI sp dvs E t):=by
 intro ON s Y H Q I h;refine Y8 ĝ;refine W.callWith_K (h₀:=Ŗ) I.ok.mod.kin hk (thn (ha pos ON s Y H _ I h) λus s1 ⟨vs,H1,I1,r,q⟩=>#[I1.kIn,?_]) he hpl;exact xQ F hr hb hd hx I1 r q
theorem zB{pl:ģ}(he:ĳ)(c:ü)(hm:ŋ)(F:Â)(hr:Ą)(hb:Í)(hd:ì)(hx:ó)(ha:đ)(hst:starEach Ô Æ=Ñ::starEach es Æ:=by rfl)(hpl:(backTo pos Ü).any (·.1)=false:=by rfl)(ht:eval ė Æ=(do
   let ov ←eval o Æ
   standAt ō
   let(f,first) ←holding [ov] Ğ
   callWith pos f first (backTo pos (starEach Ô Æ)) ô):=by rfl) :
  PE X ė (rQ C m sp dvs E ta t):=by
 intro ON s Y H Q I h;refine W.methodCall_KW (pl:=pl) Ï ht;exists[x,H1,I1,rx,a,dx,fs,ex,ea,l,q],hz9;subst ex;obtain rfl:u=Value.ref a:=rx;refine mI I1 ea c hm l ?_;refine W.callWith_K (first:=[.ref a]) (h₀:=Ŗ) I.ok.mod.kin hm.kp (thn (ha pos ON s1 Y H1 _ I1 q) λus s2 ⟨vs,H2,I2,r,q2⟩=>#[I2.kIn,?_]) hst hpl;exact xQ (us:=.ref a::us) (vs:=.ref a::vs) F hr hb hd hx I2 (.cons rfl r) q2
theorem E4{pl:ģ}(he:ĳ)(c:ü)(hm:ŋ)(F:Â)(hr:Ą)(hb:Í)(hd:ì)(hx:ó)(ht:eval Ę Æ=(do
   let ov ←eval o Æ
   standAt ō
   let(f,first) ←holding [ov] Ğ
   callWith pos f first (backTo pos (starEach [] Æ)) ô):=by rfl) :
  PE X Ę (rQ C m sp dvs E ta gN):=by
 intro ON s Y H Q I h;refine W.methodCall_KW (pl:=pl) Ï ht;exists[x,H1,I1,rx,a,dx,fs,ex,ea,l,q],hz9;subst ex;obtain rfl:u=Value.ref a:=rx;refine mI I1 ea c hm l ?_;exact W.callWith_K0 (first:=[.ref a]) I1.kIn hm.kp (xQ (us:=[.ref a]) (vs:=[.ref a]) F hr hb hd hx I1 (.cons rfl .nil) q)
structure Mk(K:Qa)(C f:OC):Prop where
 makes:W.makesIn K C=true
 init:W.findIn K Ë "__init__" = some Ď
 fn:W.isFn K Ò=true
 kp:W.keepIn K Ë=true
theorem Fp{Q:VK}(M:Mk ĵ C f)(F:Â)(hr:Ō)(hb:Í)(hd:ì)(hx:ó)(I:Å)(r:ĩ)(h:∀x dx,H x=none->H dx=none->dx≠x->sp Ň (upd (upd H dx (.own x)) x ĺ) ö E):
  wpAny Á Ĝ (call Ë us) í ĕ s:=by
 have hq:=h Ý À (I.hok.fresh (YR _)) (I.hok.fresh ą) (Zz (YC _));have I2:=Inv.made (C:=C) I;have r2:Vals (V.ref Ý::æ) Ĥ:=.cons rfl (r.append hd);have hl:(Value.ref Ý::us++ds).length=Ú:=by have e:=ś;rw[F.len _ _ _ _ hq]at e;exact e.symm
 refine wpAny_call (EK (f:=f) I.kIn M.makes M.init (Z8.mp M.fn) (Y7 (F.run _ č _ _ #[Value.ref Ý::us,[]] Ĥ _ _ E (hr.make C us [])
  (I2.env0.make C us []) (hb _ (Value.ref Ý::us) I2.kIn hl) r2 hq) λr s' hq'=>?_))
 cases r with
 |error e=>exact hx ON Y _ _ e s' I2 hq'
 |ok fl =>
  cases fl with
  |ret u =>exists[v,H',I3,rv,ev,q3],I2.after hq';subst ev;exact#[rv,#[V.ref Ý,H',I3,rfl,q3]]
  |next=>exact False.elim hq'
  |brk=>exact False.elim hq'
  |cont=>exact False.elim hq'
theorem E3(M:Mk ĵ C f)(F:Â)(hr:Ō)(hg:Ń)(hm:X.mg x=some Ë)(hb:Í)(hd:ì)(hx:ó)(hdb:Ø=false:=by decide):PE X (.Call (.Name x p) [] [] pos) (GH C sp dvs E gN):=by intro ON s Y H Q I h;refine Y8 ĝ;exact W.callWith_K0 I.kIn M.kp (Fp (us:=[]) M F hr hb hd hx I .nil h)
#check 0
def PK(X:Cx)(kws:List Keyword)(t:TA):Prop :=
 ∀(pos:Pos) (ON:Oy) (s:OD) (Y:St) (H:Hp) (Q:List V->Hp->Prop),Inv X ON Y H s->t Y H Q->wpAny Á Ĝ (evalAll ((backToKw pos ę).map (·.2))) (AP X ON Y Q) ĕ s
section
variable{k:Ĭ}{fd:OI}{ps ks:à}{kpos:Pos}{e:OM}{t:TA}{nm:Option Str}
theorem Db:PK X [] gN:=λ_ _ _ _ H Q I h=>wpAny_evalAll_nil #[[],H,I,.nil,h]
theorem zD(ha:PE X e te)(hr:PK X kws t):PK X (#[nm,e,kpos]::kws) Ş:=by intro pos ON s Y H Q I h;show wpAny _ _ (evalAll ((do let v ←eval e Æ;standAt pos;pure v)::(backToKw pos ę).map (·.2))) _ _ s;refine wpAny_evalAll_cons (z9 (thn Õ λu s1 ⟨x,H1,I1,r1,q1⟩=>z9 (wpAny_standAt (Za ?_))));exact thn ÿ λus s2 ⟨xs,H2,I2,r2,q2⟩=>#[x::xs,H2,I2,.cons r1 r2,q2]
structure KBinds(K:Qa)(fd:OI)(ps ks:à)(g:OB->OB->OB)(gV:List V->List V->List V):Prop where
 to:∀(s:OD) (us ws:OB),K.In Ó->(g us ws).length=Ú->BindsTo s fd #[us,ks.zip ws] (ps.zip ş)
 rel:∀{vs:â} {us:OB} {zs:â} {ws:OB},Vals vs us->Vals zs ws->Vals (gV vs zs) ş
#check 0
structure FnScope(N P:à)(sc:Scope):Prop where
 kind:sc.kind=.function
 co:sc.isCoroutine=false
 gen:sc.isGenerator=false
 nd:N.Nodup
 pre:N.take P.length=P
 par:∀x∈P,sc.names.lookup x=some .local\/sc.names.lookup x=some .cell
 nofree:∀y∈Ķ,y.2≠.free
theorem ug{kindOf:á}:∀{binds:ò} {m:OA},Ě->bindL kindOf binds m x=m x
 | [],_,_=>rfl
 |(n,v)::r,m,h=>by
  unfold bindL;rw[ug λw hw=>h w Š];split
  .have:x≠n:=by rintro rfl;exact h v Zn
   simp[this]
  .rfl
theorem ue{kindOf:á}:∀{binds:ò} {m:OA},Ě->bindC kindOf binds m x=m x
 | [],_,_=>rfl
 |(n,v)::r,m,h=>by
  unfold bindC;rw[ue λw hw=>h w Š];split
  .rfl
  .have:x≠n:=by rintro rfl;exact h v Zn
   simp[this]
theorem uf{kindOf:á}:∀{P:à} {vs:OB} {i:Ĭ} {m:OA},P.Nodup->P[i]?=some x->vs[i]?=some v->kindOf x=some .local ->
  bindL kindOf Ř m x=some v
 | [],_,_,_,_,h,_,_=>by simp at h
 |_::_,[],_,_,_,_,h,_=>by simp at h
 |p::P,w::vs,0,m,nd,h1,h2,hk=>by simp at h1 h2;subst h1;subst h2;show bindL kindOf ë m p=_;unfold bindL;rw[ug λv hv=>(Z3.mp nd).1 (List.of_mem_zip hv).1,Ox hk];simp
 |p::P,w::vs,i+1,m,nd,h1,h2,hk=>by show bindL kindOf ë m x=_;unfold bindL;exact uf (i:=i) (Z3.mp nd).2 ğ Ġ hk
theorem ud{kindOf:á}:∀{P:à} {vs:OB} {i:Ĭ} {m:OA},P.Nodup->P[i]?=some x->vs[i]?=some v->kindOf x≠some .local ->
  bindC kindOf Ř m x=some v
 | [],_,_,_,_,h,_,_=>by simp at h
 |_::_,[],_,_,_,_,h,_=>by simp at h
 |p::P,w::vs,0,m,nd,h1,h2,hk=>by simp at h1 h2;subst h1;subst h2;show bindC kindOf ë m p=_;unfold bindC;rw[ue λv hv=>(Z3.mp nd).1 (List.of_mem_zip hv).1,Ow hk];simp
 |p::P,w::vs,i+1,m,nd,h1,h2,hk=>by show bindC kindOf ë m x=_;unfold bindC;exact ud (i:=i) (Z3.mp nd).2 ğ Ġ hk
def start(N:à)(vs:â):St:=vs.map some++List.replicate (N.length-ð) none
def gG(CX:CXT)(P:OF)(w:OG)(K:Qa)(mg:OA)(base:Ť)(N:à)(qual:ĥ)(scope:Scope)(f:OC)(cd:OE)(A:OH)(outer:ù)(s:OD)(H:Hp)(E:XK):Cx where
 prog:=P
 w:=w
 K:=K
 mg:=mg
 base:=base
 A:=A.deeper ã
 N:=N
 s₀:=s
 H₀:=H
 env:=envOfC qual scope À f cd
 outer:=outer
 stack:=envOfC qual scope À f cd::outer
 ex:=[]
 calm:=true
 fn:=λ_=>true
 pn:=[]
 xe:=λe s'=>wpAny Œ (A.deeper ã) (leaving ã e) (λ_ s''=>CX outer H s E e s'') (λe' s''=>CX outer H s E e' s'') s'
theorem wx{sc:Scope}{n:Ĭ}(h:sc.names.lookup x=some .cell):∃c,(cellsFrom n Ķ []).lookup x=some c:=by have q:=W.cellsFrom_some Ķ n [] (.inl h);exact Zw.mp q
theorem Cp{K:Qa}{A:OH}{vs:â}(S:Ī)(hd:A.handled=none)(e0:Ħ)(hl:ð=Ú)(r:ĩ)(x:InCallC s À (bindL (envOfC qual scope À f cd).kindOf þ λ_=>none) (cellsFrom Ý Ŏ []) (bindC (envOfC qual scope À f cd).kindOf þ λ_=>none) s1):
  Inv (gG CX P w K mg base N qual scope f cd A outer s H E) [] õ H s1:=by
 have hpl:Ú<=N.length:=by have:=Z2 List.length S.pre;rw[ZY]at this;omega
 exists[h1,tk,rfl,hk],x.done;have noA:∀b:OC,b∉(gG CX P w K mg base N qual scope f cd A outer s H E).ex:=λb z=>absurd (show b∈([]:List OC)from z) ď;refine#[#[e0.mod,S.kind,rfl,rfl,Zi _,λy z c h1 h2=>?_,λy hy=>?_,λy c _ h=>?_,λ_=>hd,Around.frames_deeper e0.frames,.inr #[rfl,rfl],λb z=>absurd z (noA b),e0.bs,e0.bsz,λb _ _=>noA b,λb z=>absurd z (noA b),e0.funs,e0.frf],
  rfl,e0.bare,Un.kept hk,#[_,x.toInCall.ns,λi y v h1 h2 h3=>?_],λy c h=>#[_,x.cell y c h],e0.hok.fresh ą,λy c h=>?_,λp hp=>absurd (show p∈([]:Oy) from hp) ď,e0.hok.kept hk,?_]
 .exact name_of_addr x.apart (Yk h1) (Yk h2)
 .have hy:scope.names.lookup y=some .cell\/scope.names.lookup y=some .free:=hy;rcases hy with hy|hy
  .exact wx hy
  .exact absurd rfl (S.nofree _ (Yk hy))
 .exact Nat.le_of_lt ě
 .have hi:i<ð:=by
   unfold start at h2;by_cases hi:i<ð
   .exact hi
   .rw[Ys ġ]at h2;rw[List.getElem?_replicate]at h2;split at h2<;>cases h2
  have ha:vs[i]?=some v:=by
   unfold start at h2;rw[List.getElem?_append_left ġ,Zy]at h2;cases e:vs[i]? with
   |none=>rw[e]at h2;cases h2
   |some a=>rw[e]at h2;cases h2;rfl
  exists[u,hu,rv],r.get ha;have hp:ps[i]?=some y:=by rw[<-S.pre,List.getElem?_take_of_lt ∅];exact h1
  have ndP:ps.Nodup:=by rw[<-S.pre];exact S.nd.sublist (List.take_sublist _ _)
  refine#[u,rv,?_];rcases S.par y (ZI hp)with k|k
  .exact .inl #[k,uf ndP hp hu k]
  .exists[c,e],wx (n:=À+1) k;refine .inr #[.inl k,c,e,?_];have q:=x.cell y c e;rw[ud ndP hp hu (by show scope.names.lookup y≠_;rw[k];decide)]at q;exact q
 .exact e0.hok.fresh (Nat.le_of_lt ě)
 .unfold start;show _=N.length;rw[Zf,Zd,Xc];omega
theorem AE{K:Qa}{k:Ĭ}{dV kV doc pm cdv ct oc:OE}{sp:Sp}(lk:K.lookup f=some #[oc,od,.func Ù,osl])(hcd:W.codeIn K cdv qual=true)(S:Ī)(len:∀ vs H Q E,sp vs H Q E->ð=Ú)(hbody:∀ (A:OH) (outer:ù) (s:OD) (H:Hp) (vs:â) (Q:VK) (E:XK),Room k (A.deeper (envOfC qual scope À f cdv))->sp vs H Q E ->
   ∃ t,PSs È body t/\t { nx:=λ_ H'=>Q .non H',rt:=Q } õ H):
  FnOk P w K mg base CX (k+1) f Ù ps sp:=by
 refine#[len,λA outer s H args us vs Q E hr e0 hb r hsp=>?_];have hl:=len _ _ _ _ hsp;have KX:K.In Ó:=e0.mod.kin.keeps λb o e=>(e0.bs b o e).1;have lim:s.heap.NoLimit:=e0.mod.nolimit.keeps λb o e=>(e0.bs b o e).1;have hkind:∀y∈ps.zip us,scope.names.lookup y.1=some .local\/(scope.names.lookup y.1=some .cell/\((cellsFrom Ý Ŏ []).lookup y.1).isSome=true):=fun⟨n,v⟩ hy=>by
  rcases S.par n (List.of_mem_zip hy).1 with q|q
  .exact .inl q
  .exact .inr #[q,W.cellsFrom_some _ _ _ (.inl q)]
 refine codeAny_call_function hr.depth (KX _ _ lk) rfl S.co S.gen rfl (W.codeRec_of KX hcd) (hb _ _ _ _ ?_);refine wpAny_newFunctionEnv_cells S.kind hkind λenv he s1 x=>?_;subst he;refine#[lim.keeps x.toInCall.keep,codeAny_func ?_];exists[t,ht,hq],hbody A outer s H vs Q E (hr.deeper _) hsp;have I:Inv È [] õ H s1:=Cp S hr.hd e0 hl r x;refine ZQ (ht [] s1 õ H _ I hq) (λfl s' hs=>?_) λe s' hs=>hs;have fin:∀{σ':St} {H':Hp} {v:V} {u:OE},Inv È [] σ' H' s'->RelV v u->Q v H'->CE outer P w H s Q u s' :=
  fun{σ' H' v u} J rv q=>#[v,H',J.os,J.bare,J.base,J.hok,rv,q]
 cases fl with
 |ret u =>exists[v,σ',H',J,rv,q],hs;exact fin J rv q
 |next =>exists[σ',H',J,q],hs;exact fin (v:=V.non) (u:=Value.none) J rfl q
 |brk =>exists[_,_,_,q],hs;exact False.elim q
 |cont =>exists[_,_,_,q],hs;exact False.elim q
section
variable{e:OM}{t:TA}{id:String}{r:ñ}
def tCB(r:ñ)(t:TA):TE:=λY H Q=>t Y H λvs H1=>r vs H1 Q
theorem EZ(hc:dR X ľ r)(hg:Ń)(hm:Ś)(hv:bootBuiltins x=some ľ)(ha:đ)(hn:x≠"__name__":=by decide)(hdb:Ø=false:=by decide)(he:starEach Ô Æ=Ñ::starEach es Æ:=by rfl)(hpl:(backTo pos Ü).any (·.1)=false:=by rfl):PE X ß š:=by intro ON s Y H Q I h;refine Y8 Ă;exact PyProof.Rows.callWith_builtin1 Ê he hpl
theorem C8(hc:dR X Ţ r)(hg:Ń)(hm:Ś)(hv:bootBuiltins x=some Ţ)(ha:đ)(hn:x≠"__name__":=by decide)(hdb:Ø=false:=by decide)(he:starEach Ô Æ=Ñ::starEach es Æ:=by rfl)(hpl:(backTo pos Ü).any (·.1)=false:=by rfl):PE X ß š:=by intro ON s Y H Q I h;refine Y8 Ă;exact YI Ê he hpl
#check 0
end
end Lake
namespace HT
open PySem PyProof.Rows
mutual
#check#[(.int a t),(.int c u),(model prog w)]
def lexLt:OJ->OJ->Bool
 | [],[]=>false
 | [],_::_=>true
 |_::_,[]=>false
 |x::xs,y::ys=>if x=y then lexLt xs ys else decide (x<y)
theorem lexLt_cons(x y:Int)(xs ys:OJ):lexLt (x::xs) (y::ys)=if x=y then lexLt xs ys else decide (x<y):=rfl
theorem uU:lexLt [] []=false:=rfl
theorem sO(y:Int)(ys:OJ):lexLt [] (y::ys)=true:=rfl
theorem sM(x:Int)(xs:OJ):lexLt (x::xs) []=false:=rfl
theorem eqAt_int(A:OH)(s:OD)(a:Int)(t:Tok)(c:Int)(u:Tok):∃e,SeqAt.EqAt A s À Á e/\(e=true↔a=c) :=
 #[(a==c),SeqAt.EqAt.int_int a t c u,by simp]
theorem Fi(A:OH)(s:OD)(a:Int)(t:Tok)(c:Int)(u:Tok)(prog:OF)(w:OG)(E:Oz)(Q:Oz)(h:Q (.bool (decide (a<c))) s) :
  wpAny Â A (richCompare .Lt À Á) Q E s :=
 (PyProof.Rows.lt_int h:wpAny Â A (compareOp .Lt À Á) Q E s)
section
end
open PySem.SeqAt
open PySem.AutoSeq1 (wpAny_loadPart')
open PySem.MeetsSeq PySem.MeetsSeq2 PySem.MeetsSeq3
mutual
#check#[items.size,(sIx À À hi-sIx À 0 lo),((sIx n 0 lo:Nat):Int),(if v<0 then max (v+(n:Int)) 0 else min v (n:Int)),(Za #[_,rfl,Za h]),(if v<0 then(v+(n:Int)).toNat else min v.toNat n),(model prog w),(((sIx À 0 lo:Nat):Int)==0&&(1:Int)==1&&Á==À),(.bool (lexLt ns ms)),(PySem.F.args_tuple_add_2 _ _),(s.heap.IsSliceOf sl vl vu .none),vs.toArray,ws.toArray,(Option Int),items2.toList,(sIx À 0 lo),(.ref s.heap.objs.size),(Int),items.toList,((sIx n n hi:Nat):Int),items2.size,(.ref t),(by simpa using hv),0,(Array OE),s.heap,ht.typeIs,(.ref sl),(ZR Ä htake),(Nat),(IntsAre Ò ns),(IntsAre Î ms),s.heap.push,(Za ?_),(IsPart vl lo),(IsPart vu hi)]
theorem vB(l b:OC)(items items2:Ø)(n n2:Ý)(dd dd2:Option OC)(sl sl2:Array (Option OE))(ns ms:OJ)(hi:Þ)(hj:ß) :
  Meets (Builtin.«tuple.__lt__» #[[.ref l,.ref b],[]])
   (λ_ R s=>s.heap.get? l=some { cls:=.type "tuple",dict:=dd,data:=.seq items n,slots:=sl }/\s.heap.get? b=some { cls:=.type "tuple",dict:=dd2,data:=.seq items2 n2,slots:=sl2 } /\
    R (.ok (.ret È)) s) :=
 .of_wp λprog w A R s h=>by
  exists[hp,g,d,tk,os],s;exists[hl,hb,h],h;have f2:=AutoSeq1.sub_tuple_tuple;have z1:À=ns.length:=by rw[<-hi.length];simp
  have z2:Ô=ms.length:=by rw[<-hj.length];simp
  wp_walk using wpAny_loadPart' hl,wpAny_loadPart' hb,Y4 _ (λrest b s'=>b.1=none/\s'=#[hp,g,d,tk,os]/\∃ (vs ws:OB) (ns' ms':OJ),rest=vs.zip ws /\
   IntsAre vs ns'/\IntsAre ws ms'/\ns'.length+Ô=ms'.length+À/\R (.ok (.ret (.bool (lexLt ns' ms')))) #[hp,g,d,tk,os]) _
  case turn =>
   rintro⟨y,x⟩ rest b s' ⟨hb',rfl,vs,ws,ns',ms',hz,hvi,hwi,hlen,hR⟩;cases hvi with
   |nil=>rw[List.zip_nil_left]at hz;cases hz
   |cons a t hvi' =>
    cases hwi with
    |nil=>rw[List.zip_nil_right]at hz;cases hz
    |cons c u hwi' =>
     rw[List.zip_cons_cons]at hz;injection hz with hyx hrest;injection hyx with hy hx;subst hy hx;rw[lexLt_cons]at hR;simp only[Zm]at hlen;exists[e,he,hiff],eqAt_int A.in1 #[hp,g,d,tk,os] a t c u;refine z9 (he prog w _ _ ?_);cases e with
     |true =>
      rw[Ox (hiff.mp rfl)]at hR
      wp_walk
      exact#[rfl,rfl,_,_,_,_,hrest,hvi',hwi',∅,hR]
     |false =>
      rw[Ow (λq=>absurd (hiff.mpr q) Zx)]at hR;have hri:=Fi A.in1 #[hp,g,d,tk,os] a t c u prog w
      wp_walk using hri
      exact#[_,rfl,by simpa using hR]
  case fin =>
   rintro⟨b1,b2⟩ s' ⟨hb',rfl,vs,ws,ns',ms',hz,hvi,hwi,hlen,hR⟩;simp only at hb';subst hb';have hv:lexLt ns' ms'=decide (À<Ô):=by
    cases hvi with
    |nil =>
     cases hwi with
     |nil =>simp only[Yo]at hlen;rw[uU];exact(decide_eq_false ∅).symm
     |cons c u hw =>simp only[Yo,Zm]at hlen;rw[sO];exact(decide_eq_true ∅).symm
    |cons a t hv =>
     cases hwi with
     |nil =>simp only[Yo,Zm]at hlen;rw[sM];exact(decide_eq_false ∅).symm
     |cons c u hw =>rw[List.zip_cons_cons]at hz;cases hz
   rw[hv]at hR
   wp_walk
   exact#[_,rfl,by simpa[Builtin.Tuple.tupleCompareSizes]using hR]
  case h =>exact#[rfl,rfl,Ò,Î,ns,ms,rfl,hi,hj,∅,h]
#check 0
section
variable{A:OH}{s:OD}
theorem lt_tupInts{items items2:Ø}{Q:Oz}(hl:IsTup Ù l items)(hb:IsTup Ù b items2)(hi:Þ)(hj:ß)(hu:A.units<cLine)(h:Q È s):wpAny Æ A (compareOp .Lt (.ref l) (.ref b)) Q E s:=by
 obtain⟨⟨cls,dd,data,sl⟩,ho,hc,n,hd⟩:=id hl;obtain⟨⟨cls2,dd2,data2,sl2⟩,ho2,hc2,n2,hd2⟩:=id hb;simp only at hc hd hc2 hd2;subst hc hd hc2 hd2;exact richCompare_meets_room (op:=.Lt) #[_,ho,rfl] #[_,ho2,rfl] PySem.F.slot_tuple_lt PySem.F.entry_tuple_lt (PySem.F.args_tuple_lt_2 _ _) (vB l b items items2 n n2 dd dd2 sl sl2 ns ms hi hj)
  #[ho,ho2,show Value.bool (lexLt ns ms)≠Value.notImplemented/\Q È s from#[(λx=>nomatch x),h]] hu
theorem cat_tup{t b:OC}{vs ws:OB}{Q:Oz}(ht:IsTup Ù t Ë)(hb:IsTup Ù b Ì)(hv:vs≠[])(h1:ws=[]->Q Õ s)(h2:ws≠[]->Q Ð { s with heap:=à { cls:=.type "tuple",data:=.seq (vs++ws).toArray } })(hsz:vs.length+ws.length<=sizeLine):wpAny Æ A (binaryOp .Add Õ (.ref b)) Q E s:=by
 obtain⟨⟨cls,dd,data,sl⟩,ho,hc,n,hd⟩:=id ht;obtain⟨⟨cls2,dd2,data2,sl2⟩,ho2,hc2,n2,hd2⟩:=id hb;simp only at hc hd hc2 hd2;subst hc hd hc2 hd2;have e:Ë++Ì=(vs++ws).toArray:=by simp
 by_cases hw:ws=[]
 .exact concat_meets #[_,ho,rfl] #[_,ho2,rfl] noFill_tuple_add seq_tuple_add PySem.F.slot_tuple_add PySem.F.entry_tuple_add É
   (tuple_addW1 t b Ë Ì n n2 dd dd2 sl sl2 Ö (by simp[hw])) #[ho,ho2,h1 hw]
 .refine concat_meets #[_,ho,rfl] #[_,ho2,rfl] noFill_tuple_add seq_tuple_add PySem.F.slot_tuple_add PySem.F.entry_tuple_add É
   (tuple_addW2 t b Ë Ì n n2 dd dd2 sl sl2 Ö (by simpa using hw) (by rw[Zk,Zk];exact hsz)) #[ho,ho2,?_]
  rw[e];exact h2 hw
def sIx(n d:Ý):Option Int->Nat
 |none=>d
 |some v=>if v<0 then(v+(n:Ñ)).toNat else min v.toNat n
theorem sIx_none(n d:Ý):sIx n d none=d:=rfl
theorem sIx_nat(n d k:Ý):sIx n d (some (k:Ñ))=min k n:=by show(if(k:Ñ)<0 then((k:Ñ)+(n:Ñ)).toNat else min (k:Ñ).toNat n)=min k n;rw[Ow ∅,YV]
theorem Lb(n d:Ý)(hd:d<=n)(o:Í):sIx n d o<=n:=by
 cases o with
 |none=>exact hd
 |some v =>
  show Å<=n;by_cases hv:v<0
  .rw[Ox hv];omega
  .rw[Ow hv];exact Nat.min_le_right _ _
theorem yV(v:Ñ)(n d:Ý):Ã=((sIx n d (some v):Nat):Int):=by
 show Ã=((Å:Ý):Int);by_cases hv:v<0
 .simp only[Ox hv];omega
 .simp only[Ow hv];omega
theorem Ar(lo hi:Í)(n:Ý):Builtin.Slice.sliceAdjust lo hi 1 (n:Ñ)=(Â,Ó):=by
 have h1:¬((1:Ñ)<0):=∅
 unfold Builtin.Slice.sliceAdjust;simp only[h1,Yq];refine Prod.ext ?_ ?_
 .cases lo with
  |none=>rfl
  |some v=>exact yV v n 0
 .cases hi with
  |none=>rfl
  |some v=>exact yV v n n
theorem Bb(i j:Ý):Builtin.Slice.slicePlaces (i:Ñ) (j:Ñ) 1=j-i:=by
 unfold Builtin.Slice.slicePlaces;have h1:(1:Ñ)>0:=∅
 simp only[h1,if_true,Int.ediv_one];split<;>omega
theorem rM{Q:Option Int->OD->Prop}(p:IsPart v o)(h:Q o s):wpAny Æ A (Builtin.Slice.slicePartIndex v) Q E s:=by
 cases p with
 |none=>exact slicePart_none h
 |int i t=>exact slicePart_int h
theorem sliceApplied_gen{lo hi:Í}{n:Ý}{Q:Int×Int×Nat->OD->Prop}(hs:Ê)(pl:â)(pu:ã)(h:Q (Â,1,sIx n n hi-sIx n 0 lo) s):wpAny Æ A (Builtin.Slice.sliceApplied Û (pure (n:Ñ))) Q E s:=by exists[os,hos,hcs,hds],id hs;unfold Builtin.Slice.sliceApplied Builtin.Slice.sliceFields;refine z9 (z9 (ZV hos hds (x:=vl) rfl (z9 (ZV hos hds (x:=vu) rfl (z9 (ZV hos hds (x:=.none) rfl á))))));refine z9 (slicePart_none ?_);show wpAny _ _ (if((1:Ñ)==0)=true then _ else _) _ _ s;rw[Ow ⋯];refine z9 (rM pl (z9 (rM pu (z9 á))));show wpAny _ _ (match Builtin.Slice.sliceAdjust lo hi 1 (n:Ñ)with|(lo,hi)=>pure (lo,(1:Ñ),Builtin.Slice.slicePlaces lo hi 1)) _ _ s;rw[Ar lo hi n];show wpAny _ _ (pure (Â,(1:Ñ),Builtin.Slice.slicePlaces Â Ó 1)) _ _ s;rw[Bb];exact Za h
theorem E7(xs:Ø)(i k:Ý):((List.range k).filterMap fun(m:Nat)=>xs[((i:Ñ)+(m:Ñ)*1).toNat]?).toArray=((xs.toList.drop i).take k).toArray:=by
 have e:(fun(m:Nat)=>xs[((i:Ñ)+(m:Ñ)*1).toNat]?)=λm=>xs[i+m]?:=by
  funext m;have:((i:Ñ)+(m:Ñ)*1).toNat=i+m:=∅
  rw[this]
 rw[e];have:=pick_run xs i k;rw[List.filterMap_map]at this;have e2:((λx=>xs[x]?)∘λx=>i+x)=λm=>xs[i+m]?:=rfl;rw[e2]at this;rw[this]
theorem getItem_tuple_cut{t sl:OC}{items:Ø}{lo hi:Í}{Q:Oz}(ht:IsTup Ù t items)(hs:Ê)(pl:â)(pu:ã)(hw:¬(sIx À 0 lo=0/\sIx À À hi=À))(h:Q Ð { s with heap:=à { cls:=.type "tuple",data:=.seq ((items.toList.drop Ï).take Á).toArray } })(hsz:À<=sizeLine):wpAny Æ A (getItem Õ Û) Q E s:=by
 have htake:sizeOk (.seq ((items.toList.drop Ï).take Á).toArray):=by show((items.toList.drop Ï).take Á).toArray.size<=sizeLine;rw[Zk,ZY,YL,ZM];omega
 have hj:sIx À À hi<=À:=Lb _ _ (Zi _) hi;exists[os,hos,hcs,hds],id hs;have hTs:s.TypeIs Û "slice":=#[os,hos,hcs]
 unfold getItem
 try with_reducible refine ZJ ?_
 first|refine z9 á|skip
 refine z9 (wpAny_sequenceKey Ú ⋯ ?_);refine z9 (ZU (name:=Str.ofString "__getitem__") Ú Yh
  (Z0 Yh Ú entry_tuple_getitem ?_ (args_tuple_getitem _ _)))
 show wpAny _ _ (Builtin.Tuple.tupleItemsOf Õ >>= _) _ _ s;refine z9 (tupleItemsOf_ ht ?_);refine z9 (Y9 hTs ?_);rw[Ox ⋯];refine z9 (sliceApplied_gen hs pl pu ?_);have hno:¬(Ç=true):=by intro q;rw[ZK,ZK]at q;have q1:((sIx À 0 lo:Ý):Int)=0:=eq_of_beq q.1.1;have q2:sIx À À hi-sIx À 0 lo=À:=eq_of_beq q.2;exact hw #[∅,∅]
 show wpAny _ _ (if Ç=true then _ else _) _ _ s;rw[Ow hno,E7]
 first
  |exact z9 (m:=Builtin.Tuple.tupleExact _) Ü
  |exact z9 (m:=Builtin.Tuple.tupleExact _) (ZR (z9 (Za Ä)) htake)
  |exact z9 (z9 (m:=Builtin.Tuple.tupleExact _) (ZR (Za Ä) htake))
  |exact z9 (z9 (m:=Builtin.Tuple.tupleExact _) Ü)
#check 0
end
end HT
namespace Lake
open PySem PySem.Spec PyProof.Rows
mutual
#check#[xs.length,its.toArray,(Inv X ON Y H s),(model X.prog X.w),s.heap.objs.size,its.toArray.size,(λw hw=>jL rx fx r fs w (by simpa using hw)),(by simp only[Zk]<;>omega),X.env,(kvs.any λkv=>decide (kv.1=k)),(if ([]:List Keyword).isEmpty then 0 else 1),kvs.length,(I.hok.fresh (Zi _)),(a==sysModules),(Option Int),(tupleKind_room_in1 hu),(V->List V->Hp->VK->Prop),(.lst xs),(HT.sIx À À hi-HT.sIx À 0 lo),(.tup (k.map kV)),(model prog w),(eqU x),(.builtin id),0,(RelV y u),(List.toArray [vl,vu,.none]),ys.length,(.dT kvs),(apos.endLine==cpos.line),s.toks,(HOk P w H h),(X.A.units+1<cLine),(kvs.map λkv=>if kv.1=k then(kv.1,y)else kv),(EP X ON Y Q),pl.isList,(ho ON s1 Y H1 _ I1 q1),k.toNat,its.length,(.dK kvs),its.toArray.any,(bq P w),(typeOf Ö=pure (.type "method_descriptor")),(List (κ×V)),(λh' c' kp e=>fin its r' hz h' c' kp e),(thn (ho ON s Y H _ I h) λv s1 hz9=>?_),(A.units+1<cLine),r.length,(V->Option Int->Option Int->Hp->VK->Prop),(List Key),(.ref p),(.ref a),(KV kvs vs),(keywordEach [] È),(I.tok _),(bY xs lo hi),0,(iQ I.hok eb),(λb ob q=>Zb _ q),(List Key×OC×OE),(List V),s3.heap.objs.size,(SqL X.K H p ys\/SqT X.K H p ys),(λx=>x.1.isSome),(false,eval e È),(λx1 x2=>x1++x2),(by rw[Zk];omega),(Zi _),(h1.trans z),(HT.sIx À 0 lo),(upd H p (.lst (xs.set j v))),(eval o È),(H l=some Ñ),(KT H kvs xs),(by rw[e];exact True.intro),(atI xs i=some v),o.isSome,(by rw[hj];simpa using ew),(by rw[hk];exact#[_,I',q]),(by rw[l];exact rel.val k),(List α),(.inl rfl),(String),slot_list_getitem.lookup,(.Attribute o name apos),dd.typeIs,(List Key×V),s3.heap.push,(.lst ys),(by simp),(.tup ys),(.Slice lo hi none p2),(PE X o td),(PE X i ty),(bj kvs k v),(List (V×V)->Hp->Prop),(Ú<=sizeLine),(DGet H a y o),(Option Int->Hp->Prop),its.toArray.isEmpty,(λx=>!x.1),(ks.map kV),(by rw[Zk]<;>omega),(hi ON s Y H _ I h),(starEach [e,f] È),(Nat),(H b=some Ó),(H a=some Û),(List.toArray [c]),its2.toArray.size,(aW kvs k),(call Ö (v::us)),(λ_ _ q=>Zb _ q),(h1.symm.trans e),(starEach [e] È),(Vals xs us),pl.isList.typeIs,(Option OM),(e::es),(q::qs),(qX ry),(starEach es È),(binaryOp .Add),(.lst (xs++zs)),(Int),X.xe,dd.mapOf,(Obj.mapSeq f),(tupleKind è),(DPut H a y v H'),X.K,(kv.1=k),(pP xs lo hi),(getItem o i),(r.append r2),(κ×V),(x=.ref a),(Type),0,(RelV x v),(Slot T name id),i.toNat,its2.toArray,(upd H l ė),(bj kvs k y),(upd H a ob),xs.dropLast,acc.toArray,h.objs.size,(λz=>e ă),(Vals ys its'),(PlainAttrs T),X.prog,s.heap,(acc++its),(H p=some Ñ),zs.length,vs.length,ov.isSome,(.type T),(some Ö),(xs++[v]),(.lst zs),(Pos),(MtR X id r),X.A,z.length]
abbrev TO:=St->Hp->ġ->Prop
def PO(X:Cx)(e:Ĵ)(t:TO):Prop :=
 ∀(ON:Oy) (s:OD) (Y:St) (H:Hp) (Q:ġ),Inv X ON Y H s->t Y H Q ->
  wpAny Ã Ť (evalPart e È) (λu s'=>∃o H',Inv X ON Y H' s'/\IsPart u o/\Q o H') ļ s
def zX:TO:=λ_ H Q=>Q none H
inductive IsI(x:V)(R:Int->Prop):Prop
 |mk (i:Ļ) (h:x=.int i) (q:R i):IsI x R
def GJ(t:TE):TO:=λY H Q=>t Y H λx H1=>IsI x λi=>Q (some i) H1
theorem dM{ns:OJ}:∀{us:OB},Vals (ns.map V.int) us->IntsAre us ns:=by
 induction ns with
 |nil=>intro us r;rw[List.map_nil]at r;cases r;exact .nil
 |cons n ns ih =>
  intro us r;rw[Zr]at r;cases r with
  |cons r1 r2 =>exists[t,e],r1;subst e;exact .cons n t (ih r2)
section
variable{X:Cx}{te:TE}{lo hi:Ĵ}{tl th:TO}
theorem Iu:PO X none zX:=by intro ON s Y H Q I h;rw[evalPart_none];exact Za #[none,H,I,.none,h]
theorem Iv(h:PE X e te):PO X (some e) (GJ te):=by intro ON s Y H Q I hw;rw[evalPart_some];refine thn (h ON s Y H _ I hw) λu s1 hz9=>?_;exists[x,H1,I1,r1,q1],hz9;exists[i,rfl,q],q1;exists[t,rfl],r1;exact#[some i,H1,I1,.int i t,q]
def SlR(X:Cx)(r:ï):Prop :=
 ∀(ON:Oy) (s:OD) (Y:St) (H:Hp) (x:V) (v vl vu:OE) (lo hi:Î) (sl:OC) (Q:VK),Inv X ON Y H s->RelV x v->s.heap.IsSliceOf sl vl vu .none->IsPart vl lo->IsPart vu hi->r x lo hi H Q ->
  ∃T id,typeLookup Ş "__getitem__" = pure ş/\s.TypeIs v T/\wpAny Ã Ť (getItem v (.ref sl)) á ļ s
def tSl(r:ï)(te:TE)(tl th:TO):TE:=λY H Q=>te Y H λx H1=>tl Y H1 λl H2=>th Y H2 λu H3=>r x l u H3 Q
theorem E5(hr:SlR X r)(he:PE X e te)(hl:PO X lo tl)(hu:PO X hi th):PE X (.Subscript e Ě pos) (tSl r te tl th):=by intro ON s Y H Q I h;refine Subscript_ (thn (he ON s Y H _ I h) λv s1 hz9=>?_);exists[x,H1,I1,r1,q1],hz9;refine wpAny_Slice (thn (hl ON s1 Y H1 _ I1 q1) λvl s2 ⟨l,H2,I2,pl,q2⟩=>thn (hu ON s2 Y H2 _ I2 q2) λvu s3 hz9=>?_);exists[u,H3,I3,pu,q3],hz9;rw[evalPart_none];refine Za ?_;have I4:Inv X ON Y H3 { s3 with heap:=Ė { cls:=.type "slice",data:=.fields Ù } }:=I3.kept (t':=s3.toks) λb ob q=>Zb _ q;exists[T,id,hT,ht,hg],hr ON { s3 with heap:=Ė { cls:=.type "slice",data:=.fields Ù } } Y H3 x v vl vu l u ü Q I4 r1 (Heap.IsSliceOf.new ..) pl pu q3;show wpAny Ã Ť (subscriptTail e Ě v (.ref ü)) á ļ { s3 with heap:=Ė { cls:=.type "slice",data:=.fields Ù } };exact tail_any (ops:=[.ref ü,v]) ht hT hg (by with_unfolding_all rfl)
def bY(xs:û)(lo hi:Î):List V:=(xs.drop Ą).take Ò
theorem pP(xs:û)(lo hi:Î):(bY xs lo hi).length<=À:=by unfold bY;rw[ZY,YL];omega
inductive rSlT(K:Qa)(x:V)(lo:Î)(hi:Î)(H:Hp)(Q:VK):Prop
 |mk (a xs:_) (h0:Ň) (h1:SqT K H a xs) (h2:¬(HT.sIx À 0 lo=0/\HT.sIx À À hi=À)) (h3:∀p,H p=none->Q ñ (upd H p (.tup ö))):rSlT K x lo hi H Q
theorem Lg:SlR X (rSlT Ł):=by
 intro ON s Y H x v vl vu lo hi sl Q I rx hs pl pu h;exists[a,xs,rfl,hx,hw,q],h;cases rx;exists[its,r,ht,hz],I.tuple hx;have hlen:Å=À:=by rw[Zk];exact r.length.symm
 refine#["tuple",_,Yh.lookup,ht.typeIs,?_];refine HT.getItem_tuple_cut ht hs pl pu (by rw[hlen];exact hw) ?_ (by rw[hlen];exact hz);rw[hlen];refine#[.ref Ä,_,I.laid (t':=Ý) (o:=.tup ö) ù Ă ?_,rfl,q _ Ì];exact#[Zs Ń hz,_,(r.drop Ą).take Ò,IsTup.new _ _]
def Mj(K:Qa):R2:=λx y H Q=>∃a b xs ys,x=.ref a/\y=.ref b/\SqT K H a xs/\SqT K H b ys/\xs≠[]/\À+Ú<=sizeLine /\
 (ys=[]->Q ò H)/\(ys≠[]->∀p,H p=none->Q ñ (upd H p (.tup (xs++ys))))
theorem Vals.nil_iff(r:Ĳ):us=[]↔xs=[]:=by
 cases r with
 |nil=>simp
 |cons _ _=>simp
theorem HW:OpR X Ĺ (Mj Ł):=by intro ON s Y H x y v u Q I rx ry h;exists[a,b,xs,ys,rfl,rfl,ha,hb,hx,hz,q1,q2],h;cases rx;cases ry;exists[its,r1,p1,_],I.tuple ha;exists[its2,r2,p2,_],I.tuple hb;refine HT.cat_tup p1 p2 (λz=>hx (r1.nil_iff.mp z)) (λz=>#[.ref a,H,I,rfl,q1 (r2.nil_iff.mp z)]) (λz=>?_) (by rw[<-r1.length,<-r2.length];exact hz);refine#[.ref Ä,_,I.laid (t':=Ý) (o:=.tup (xs++ys)) ù Ă ?_,rfl,q2 (λw=>z (r2.nil_iff.mpr w)) _ Ì];exact#[by rw[Zf];exact hz,_,r1.append r2,IsTup.new _ _]
#check 0
def ixN(n:Ĩ)(i:Ļ):Option Nat:=if 0<=i then(if i<n then some Ō else none)else if -(n:Ļ)<=i then some (i+n).toNat else none
def atI{α:ň}(xs:ď)(i:Ļ):Option α:=(ixN À i).bind λj=>xs[j]?
theorem zm{n:Ĩ}{i:Ļ}{j:Ĩ}(h:ixN n i=some j):seqIndex? i n=some j/\j<n/\-(n:Ļ)<=i/\i<n:=by
 unfold ixN at h;by_cases h0:0<=i
 .rw[Ox h0]at h;by_cases h1:i<n
  .rw[Ox h1]at h;have e:Ō=j:=Zo h;exact#[by rw[seqIndex_of h0 h1,e],∅,∅,h1]
  .rw[Ow h1]at h;cases h
 .rw[Ow h0]at h;by_cases h1:-(n:Ļ)<=i
  .rw[Ox h1]at h;have e:(i+n).toNat=j:=Zo h;exact#[by rw[seqIndex_neg ∅ h1,e],∅,h1,∅]
  .rw[Ow h1]at h;cases h
theorem sr{α:ň}{xs:ď}{i:Ļ}{v:α}(h:Ċ):∃j,seqIndex? i À=some j/\xs[j]?=some v/\j<À/\-(À:Ļ)<=i/\i<À:=by
 unfold atI at h;cases e:ixN À i with
 |none=>rw[e]at h;cases h
 |some j =>rw[e]at h;exists[h1,h2,h3,h4],zm e;exact#[j,h1,h,h2,h3,h4]
theorem fG{α:ň}{xs:ď}{j:Ĩ}{v:α}(h:xs[j]?=some v):atI xs (j:Ļ)=some v:=by
 have hj:j<À:=(Zu.mp h).1;have e:ixN À (j:Ļ)=some j:=by unfold ixN;rw[Ox ∅,Ox ∅];simp
 unfold atI;rw[e];exact h
theorem mC{α:ň}(xs:ď)(v:α):atI Š (-1)=some v:=by
 have hl:(xs++[v]).length=À+1:=by simp
 have e:ixN (xs++[v]).length (-1)=some À:=by unfold ixN;rw[hl,Ow ⋯,Ox ∅];congr 1;omega
 unfold atI;rw[e];show Š[À]?=some v;simp
def yQ(b:OM):Prop:=∀o i,subscripted b false o i=operate [o,i] ń
def IxR(X:Cx)(r:R2):Prop :=
 ∀(value slice:OM) (ON:Oy) (s:OD) (Y:St) (H:Hp) (x y:V) (v u:OE) (Q:VK),Inv X ON Y H s->RelV x v->RelV y u->r x y H Q ->
  subscripted slice false v u=operate [v,u] (getItem v u)->wpAny Ã Ť (subscriptTail value slice v u) á ļ s
def MtR(X:Cx)(id:đ)(r:Ð):Prop :=
 ∀(ON:Oy) (s:OD) (Y:St) (H:Hp) (x:V) (xs:û) (v:OE) (us:OB) (Q:VK),Inv X ON Y H s->RelV x v->Vals xs us->r x xs H Q ->
  wpAny Ã Ť Į á ļ s
section
variable{X:Cx}{a b:OM}{ta tb:TE}{pos:Ţ}
theorem Ma(hr:IxR X r)(ha:PE X a ta)(hb:PE X b tb)(hs:yQ b):PE X (.Subscript a b pos) (tOp r ta tb):=by intro ON s Y H Q I h;exact Subscript_ (D4 ha hb I h λv u s2 x y H2 I2 rx ry q=>hr a b ON s2 Y H2 x y v u Q I2 rx ry q (hs _ _))
inductive rIxL(K:Qa)(x:V)(y:V)(H:Hp)(Q:VK):Prop
 |mk (p xs i v:_) (h0:x=.ref p) (h1:y=.int i) (h2:SqL K H p xs) (h3:Ċ) (h4:Q v H):rIxL K x y H Q
inductive rIxT(K:Qa)(x:V)(y:V)(H:Hp)(Q:VK):Prop
 |mk (p xs i v:_) (h0:x=.ref p) (h1:y=.int i) (h2:SqT K H p xs) (h3:Ċ) (h4:Q v H):rIxT K x y H Q
def K3:R2:=λx y H Q=>∃z i c,x=.str z/\y=.int i/\ť<=sizeLine/\atI z.cps.toList i=some c/\Q (.str #[ī]) H
theorem Hv:IxR X (rIxL Ł):=by
 intro value slice ON s Y H x y v u Q I rx ry h hs;exists[p,xs,i,z,rfl,rfl,hq,he,q],h;cases rx;exists[t,rfl],ry;exists[its,r,pl,hz],I.list hq;exists[j,h1,h2,h3,h4,h5],sr he;exists[w,ew,rw'],r.get h2;have hl:=î;have hn:=og;have fin:EP X ON Y Q w s:=#[z,H,I,rw',q]
 by_cases h0:0<=i
 .have hj:Ō=j:=by rw[seqIndex_of h0 h5]at h1;exact Zo h1
  exact item_listR â h0 ∅ Č fin hs
 .have hj:(i+(Å:Ļ)).toNat=j:=by rw[seqIndex_neg ∅ h4]at h1;rw[Zk,<-hl];exact Zo h1
  exact subscriptTail_builtinR (x:=w) ĳ Ē
   (wpAny_getItem_list_neg (Q:=λr s'=>r=w/\EP X ON Y Q r s') â ∅ ĥ ∅ Č #[rfl,fin]) hs
theorem JU:IxR X (rIxT Ł):=by
 intro value slice ON s Y H x y v u Q I rx ry h hs;exists[p,xs,i,z,rfl,rfl,hq,he,q],h;cases rx;exists[t,rfl],ry;exists[its,r,pl,hz],I.tuple hq;exists[j,h1,h2,h3,h4,h5],sr he;exists[w,ew,rw'],r.get h2;have hl:=î;have hn:=og;have fin:EP X ON Y Q w s:=#[z,H,I,rw',q]
 exact subscriptTail_builtinR (x:=w) pl.typeIs slot_tuple_getitem.lookup
  (getItem_tuple (j:=j) (Q:=λr s'=>r=w/\EP X ON Y Q r s') pl ∅ ∅ (by rw[Zk,<-hl];exact h1) (by simpa using ew) #[rfl,fin]) hs
theorem JT:IxR X K3:=by
 intro value slice ON s Y H x y v u Q I rx ry h hs;exists[z,i,c,rfl,rfl,hz,he,q],h;exists[t,rfl],rx;exists[t',rfl],ry;exists[j,h1,h2,h3,h4,h5],sr he;have hl:z.cps.toList.length=ť:=by simp[Str.length]
 rw[hl]at h1 h4 h5;have hn:=og;exact tail_any (typeIs_str s z t) slot_str_getitem.lookup (getItem_str (c:=c) (by
  have e1:decide (i < -(2^63:Int))=false:=decide_eq_false ∅;have e2:decide (i>=2^63)=false:=decide_eq_false ∅;rw[e1,e2,Bool.or_false]) (by rw[h1];simpa using h2) #[.str #[ī],H,I.tok _,#[_,rfl],q]) hs
theorem AR(its:OB)(n j:Ĩ)(u:OE):Obj.mapSeq (·.setIfInBounds j u) { cls:=.type "list",data:=.seq Á n }={ cls:=.type "list",data:=.seq (its.set j u).toArray n }:=by simp[Obj.mapSeq]
theorem Inv.lst{ON:Oy}{Y:St}{H:Hp}{s:OD}{p:OC}{xs:û}(I:Â)(h:Ś) :
  ∃(its:OB) (n:Ĩ),Vals xs its/\s.heap.get? p=some { cls:=.type "list",data:=.seq Á n }/\À<=sizeLine:=by
 exists[z,its,n,r,e],I.hok p _ h;exact#[its,n,r,e,z]
theorem Inv.lstUpd{its its':OB}{n n':Ĩ}(I:Â)(h:Ś)(ho:s.heap.get? p=some { cls:=.type "list",data:=.seq Á n })(hf:f { cls:=.type "list",data:=.seq Á n }={ cls:=.type "list",data:=.seq its'.toArray n' })(r:ŕ)(hz:ğ)(t:Ĩ):
  Inv X ON Y (upd H p ė) { s with heap:=s.heap.update p f,toks:=t }:=by
 have e:(s.heap.update p f).get? p=some { cls:=.type "list",data:=.seq its'.toArray n' }:=by rw[y8 f ho (by rw[hf]<;>rfl),hf]
 refine I.write (x:=p) (e:=p) (by rw[h];trivial) Đ (λb u hb q=>(Yd _ _ (ZO hb)).trans q) #[_,e] ?_;exact#[hz,its',n',r,e]
def Gx:V->V->V->Hp->(Hp->Prop)->Prop:=λo i v H Q=>∃p xs k j,o=.ref p/\i=.int k/\H p=some Ñ/\ixN À k=some j/\Q ą
theorem FB:DW X Gx:=by
 intro ON s Y H o i v ov iv u Q I ro ri rv h;exists[p,xs,k,j,rfl,rfl,hp,hj,q],h;cases ro;exists[t,rfl],ri;exists[its,n,r,ho,hz],I.lst hp;exists[h1,h2,h3,h4],zm hj;have hl:=î;have hn:=og;have I':Inv X ON Y ą { s with heap:=s.heap.update p (Obj.mapSeq (·.setIfInBounds j u)) } :=
  I.lstUpd hp ho (AR its n j u) (r.set rv j) (by rw[Yy];exact hz) Ý
 by_cases h0:0<=k
 .have hk:ä=j:=by rw[seqIndex_of h0 h4]at h1;exact Zo h1
  exact W.ki_setAt ho h0 ∅ (by rw[Zk,<-hl];exact h4) č
 .have hk:(k+(Å:Ļ)).toNat=j:=by rw[seqIndex_neg ∅ h3]at h1;rw[Zk,<-hl];exact Zo h1
  exact W.ki_setBack ho ∅ (by rw[Zk,<-hl];exact h3) ∅ č
theorem yd(lo hi:Î)(n:Ĩ):(sliceBounds lo hi none n).1=((HT.sIx n 0 lo:Nat):Int)/\(sliceBounds lo hi none n).2.1=((HT.sIx n n hi:Nat):Int)/\(sliceBounds lo hi none n).2.2=1:=by
 refine#[?_,?_,rfl]
 .cases lo with
  |none=>simp[sliceBounds,HT.sIx]
  |some i =>
   simp only[sliceBounds,HT.sIx,Option.getD_none,show(1:Ļ)>0 by decide,if_true];by_cases h:i<0
   .simp only[h,if_true]<;>omega
   .simp only[h,Yq]<;>omega
 .cases hi with
  |none=>simp[sliceBounds,HT.sIx]
  |some i =>
   simp only[sliceBounds,HT.sIx,Option.getD_none,show(1:Ļ)>0 by decide,if_true];by_cases h:i<0
   .simp only[h,if_true]<;>omega
   .simp only[h,Yq]<;>omega
theorem vA(its:OB)(lo hi:Î):slicePick Á lo hi none=((its.drop (HT.sIx å 0 lo)).take (HT.sIx å å hi-HT.sIx å 0 lo)).toArray:=by exists[h1,h2,h3],yd lo hi Å;unfold slicePick;rw[h1,h2,h3];simp only[sliceRange_one,pick_run,Zk]<;>rfl
inductive rSlL(K:Qa)(x:V)(lo:Î)(hi:Î)(H:Hp)(Q:VK):Prop
 |mk (a xs:_) (h0:Ň) (h1:SqL K H a xs) (h2:∀p,H p=none->Q ñ (upd H p (.lst ö))):rSlL K x lo hi H Q
theorem IQ:SlR X (rSlL Ł):=by intro ON s Y H x v vl vu lo hi sl Q I rx hs pl pu h;exists[a,xs,rfl,hx,q],h;cases rx;exists[its,r,ht,hz],I.list hx;have hlen:=î;refine#["list",_,Ē,ht.isList.typeIs,?_];refine wpAny_getItem_list_slice ht.isList hs pl pu .none Ę ?_ ĥ;rw[vA,<-hlen];refine#[.ref Ä,_,I.laid (t':=Ý) (o:=.lst ö) ù Ă ?_,rfl,q _ Ì];exact#[Zs Ń hz,_,0,(r.drop Ą).take Ò,Zl _ rfl]
def kI:V->Bool
 |.non=>true
 |.bl _=>true
 |.int _=>true
 |.str _=>true
 |_=>false
def eqV:V->V->Bool
 |.non,.non=>true
 |.bl a,.bl b=>a==b
 |.bl a,.int b=>(if a then 1 else 0)==b
 |.int a,.bl b=>a==(if b then 1 else 0)
 |.int a,.int b=>a==b
 |.str a,.str b=>a==b
 |_,_=>false
theorem JJ(ry:Ø)(rx:Ŋ)(fy:kI y=true)(fx:kI x=true):SeqAt.EqAt A s u v (eqV y x):=by
 cases y with
 |non =>
  cases ry;cases x with
  |non=>cases rx;exact SeqAt.EqAt.same _
  |bl b=>cases rx;exact SeqAt.EqAt.none_bool b
  |int b=>exists[t,rfl],rx;exact SeqAt.EqAt.none_int b t
  |str b=>exists[t,rfl],rx;exact SeqAt.EqAt.none_str b t
  |_=>exact absurd (show false=true from fx) Zx
 |bl a =>
  cases ry;cases x with
  |non=>cases rx;exact SeqAt.EqAt.bool_none a
  |bl b=>cases rx;exact SeqAt.EqAt.bool_bool a b
  |int b=>exists[t,rfl],rx;exact SeqAt.EqAt.bool_int a b t
  |str b=>exists[t,rfl],rx;exact SeqAt.EqAt.bool_str a b t
  |_=>exact absurd (show false=true from fx) Zx
 |int a =>
  exists[t',rfl],ry;cases x with
  |non=>cases rx;exact SeqAt.EqAt.int_none a t'
  |bl b=>cases rx;exact SeqAt.EqAt.int_bool a t' b
  |int b=>exists[t,rfl],rx;exact SeqAt.EqAt.int_int a t' b t
  |str b=>exists[t,rfl],rx;exact SeqAt.EqAt.int_str a t' b t
  |_=>exact absurd (show false=true from fx) Zx
 |str a =>
  exists[t',rfl],ry;cases x with
  |non=>cases rx;exact SeqAt.EqAt.str_none a t'
  |bl b=>cases rx;exact SeqAt.EqAt.str_bool a t' b
  |int b=>exists[t,rfl],rx;exact SeqAt.EqAt.str_int a t' b t
  |str b=>exists[t,rfl],rx;exact SeqAt.EqAt.str_str a t' b t
  |_=>exact absurd (show false=true from fx) Zx
 |_=>exact absurd (show false=true from fy) Zx
def eqU(x:V)(u:OE):Bool:=match u with
 |.none=>eqV .non x
 |.bool b=>eqV (.bl b) x
 |.int i _=>eqV (.int i) x
 |.str z _=>eqV (.str z) x
 |_=>false
theorem B9(r:Ø)(f:kI y=true):eqU x u=eqV y x:=by
 cases y with
 |non=>cases r;rfl
 |bl b=>cases r;rfl
 |int i=>exists[t,rfl],r;rfl
 |str z=>exists[t,rfl],r;rfl
 |_=>exact absurd (show false=true from f) Zx
theorem lE:∀{xs:û} {us:OB},Vals xs us->xs.all kI=true->us.any Õ=xs.any λy=>eqV y x
 |_,_,.nil,_=>rfl
 |y::xs,u::us,.cons r t,f=>by rw[YY,ZK]at f;rw[YF,YF,B9 r f.1,lE t f.2]
theorem jL(rx:Ŋ)(fx:kI x=true):∀{xs:û} {us:OB},Vals xs us->xs.all kI=true->∀u∈us,SeqAt.EqAt A s u v (eqU x u)
 |_,_,.nil,_=>λu hu=>by cases hu
 |y::xs,u::us,.cons r t,f=>λu' hu=>by
  rw[YY,ZK]at f;rcases Zg.mp hu with rfl|hu
  .rw[B9 r f.1];exact JJ r rx f.1 fx
  .exact jL rx fx t f.2 u' hu
def inV(x:V)(xs:û):Bool:=xs.any λy=>eqV y x
def rIn(K:Qa)(neg:Bool):R2:=λx y H Q=>∃p xs,y=.ref p/\(SqL K H p xs\/SqT K H p xs)/\kI x=true/\xs.all kI=true/\Q (.bl (if neg then !inV x xs else inV x xs)) H
theorem CY:OpR X (compareOp .In) (rIn Ł false):=by
 intro ON s Y H x y v u Q I rx ry h;exists[p,xs,rfl,hq,fx,fs,q],h;cases ry;rcases hq with hq|hq
 .exists[its,r,pl,hz],I.list hq;refine SeqAt.in_listAt Õ â Æ #[.bl _,H,I,rfl,?_];rw[show ç Õ=its.any Õ by simp,lE r fs];exact q
 .exists[its,r,pl,hz],I.tuple hq;refine SeqAt.in_tupleAt Õ pl Æ #[.bl _,H,I,rfl,?_];rw[show ç Õ=its.any Õ by simp,lE r fs];exact q
theorem xG:OpR X (compareOp .NotIn) (rIn Ł true):=by
 intro ON s Y H x y v u Q I rx ry h;exists[p,xs,rfl,hq,fx,fs,q],h;cases ry;rcases hq with hq|hq
 .exists[its,r,pl,hz],I.list hq;refine SeqAt.notIn_listAt Õ â Æ #[.bl _,H,I,rfl,?_];rw[show ç Õ=its.any Õ by simp,lE r fs];exact q
 .exists[its,r,pl,hz],I.tuple hq;refine SeqAt.notIn_tupleAt Õ pl Æ #[.bl _,H,I,rfl,?_];rw[show ç Õ=its.any Õ by simp,lE r fs];exact q
theorem wn:dR X (.builtin "len") (λxs H Q=>∃p ys,xs=[.ref p]/\ý/\Q (.int Ú) H):=by
 intro ON s Y H xs us Q I r h;exists[p,ys,rfl,hq,q],h;exists[u,rfl,rx],dH r;cases rx;have hn:=og;rcases hq with hq|hq
 .exists[its,r',pl,hz],I.list hq;have hlen:=r'.length;exact Calls.call_len_list â Ç #[.int Ú,H,I.tok _,#[Ý+1,by rw[Zk,hlen]],q]
 .exists[its,r',pl,hz],I.tuple hq;have hlen:=r'.length;exact len_tuple pl Ç #[.int Ú,H,I.tok _,#[Ý+1,by rw[Zk,hlen]],q]
theorem wq:dR X (.type "list") (λxs H Q=>∃p ys,xs=[.ref p]/\ý/\∀l,H l=none->Q (.ref l) Ŏ):=by
 intro ON s Y H xs us Q I r h;exists[p,ys,rfl,hq,q],h;exists[u,rfl,rx],dH r;cases rx;have fin:∀(its:OB),Vals ys its->Ú<=sizeLine->∀(h':Heap) (c':Ĩ),(∀b o',s.heap.get? b=some o'->h'.get? b=some o') ->
   h'.get? Ä=some { cls:=.type "list",dict:=none,data:=.seq Á c',slots:=#[] }->EP X ON Y Q (.ref Ä) { s with heap:=h' }:=λits r' hz h' c' kp e =>
  #[.ref Ä,_,I.laid (t':=Ý) kp Ă (show ObjOk ŗ X.w _ h' _ (.lst ys)from#[hz,its,c',r',e]),rfl,q _ Ì]
 rcases hq with hq|hq
 .exists[its,r',pl,hz],I.list hq;have hlen:=r'.length;exists[o,ho,hc,n,hd],â;exact call_list_seq p Đ ho hc hd ë Ç
 .exists[its,r',pl,hz],I.tuple hq;have hlen:=r'.length;exists[o,ho,hc,n,hd],pl;exact call_list_seq p (.inr rfl) ho hc hd ë Ç
theorem uT:dR X (.type "tuple") (λxs H Q=>∃p ys,xs=[.ref p]/\((SqL Ł H p ys/\∀l,H l=none->Q (.ref l) (upd H l ę))\/(SqT Ł H p ys/\Q ñ H))):=by
 intro ON s Y H xs us Q I r h;exists[p,ys,rfl,h],h;exists[u,rfl,rx],dH r;cases rx;rcases h with⟨hq,q⟩|⟨hq,q⟩
 .exists[its,r',pl,hz],I.list hq;have hlen:=r'.length;refine call_tuple_list â (λh' kp=>?_) Ç;have I1:Inv X ON Y H { s with heap:=h' }:=I.kept (t':=Ý) kp;have I2:Inv X ON Y (upd H h'.objs.size ę) { s with heap:=h'.push { cls:=.type "tuple",data:=.seq Á } } :=
   I1.laid (t':=Ý) (λb o e=>Zb _ e) Ă (show ObjOk ŗ X.w _ _ _ (.tup ys)from#[hz,its,r',IsTup.new _ _])
  exact#[.ref h'.objs.size,_,I2,rfl,q _ (I1.hok.fresh Ă)]
 .exists[its,r',pl,hz],I.tuple hq;exact call_tuple_same pl #[.ref p,H,I,rfl,q]
def tyV(K:Qa)(T:đ)(x:V)(H:Hp):Prop:=match x with
 |.str _=>T="str"
 |.int _=>T="int"
 |.ref p=>(T="list"/\∃xs,SqL K H p xs)\/(T="tuple"/\∃o,K.lookup p=some o/\o.cls=.type "tuple"/\o.dict=none) \/
   (T="dict"/\((∃kvs,H p=some æ)\/∃kvs,H p=some Û))\/(T="set"/\∃S n,H p=some (.set S n))
 |_=>False
theorem DP(I:Â)(r:Ŋ)(ty:tyV Ł T x H):
  s.TypeIs v T/\∀a,v=.ref a->∃ob,s.heap.get? a=some ob/\ob.dict=none:=by
 cases x with
 |str z =>exists[t,rfl],r;cases(show T="str" from ty);exact#[typeIs_str s z t,λ_ e=>nomatch e]
 |int i =>exists[t,rfl],r;cases(show T="int" from ty);exact#[typeIs_int s i t,λ_ e=>nomatch e]
 |ref p =>
  cases r;rcases ty with⟨rfl,xs,hq⟩|⟨rfl,o,hk,hc,hd⟩|⟨rfl,hk⟩|⟨rfl,S,n,hk⟩
  .exists[its,_,pl,_],I.list hq;refine#[ĳ,λa e=>?_];cases e;exists[o,n,e,c,hd,_],pl;exact#[o,e,hd]
  .refine#[#[o,I.kIn p o hk,hc],λa e=>?_];cases e;exact#[o,I.kIn _ o hk,hd]
  .have z:∃o,s.heap.get? p=some o/\o.ExactDict:=by
    rcases hk with⟨kvs,hk⟩|⟨kvs,hk⟩
    .exists[_,_,_,_,o,_,_,e,ex,_],I.hok p _ hk;exact#[o,e,ex]
    .exists[_,_,_,_,o,_,_,e,ex,_],I.hok p _ hk;exact#[o,e,ex]
   exists[o,e,ex],z;refine#[#[o,e,ex.1],λa e2=>?_];cases e2;exact#[o,e,ex.2.1]
  .exists[o,_,_,_,e,ex,_],I.hok p _ hk;refine#[#[o,e,ex.1],λa e2=>?_];cases e2;exact#[o,e,ex.2.1]
 |_=>exact False.elim ty
def Li(K:Qa)(T:đ)(r:Ð)(to:TE):TE:=λY H Q=>to Y H λx H1=>tyV K T x H1/\r x [] H1 Q
def tBM(K:Qa)(T:đ)(r:Ð)(to:TE)(t:TA):TE:=λY H Q=>to Y H λx H1=>tyV K T x H1/\t Y H1 λxs H2=>r x xs H2 Q
variable{e:OM}{t:TA}{apos cpos:Ţ}{id:đ}
theorem Kv(pa:Ŗ)(slot:ŋ)(hty:é)(hm:ţ)(ho:PE X o to)(hbase:attributeBase o name È Ć=eval o È:=by rfl)(hline:Ü=true:=by rfl):PE X (.Call ē [] [] cpos) (Li Ł T r to):=by intro ON s Y H Q I h;refine wpAny_Call_method0_late hbase hline ì;exists[x,H1,I1,r1,ty,q1],hz9;exists[h1,h2],DP I1 r1 ty;exact#[T,id,pa,slot,hty,h1,h2,Y5 rfl (PySem.evalArgs_none (hm ON s1 Y H1 x [] v [] Q I1 r1 .nil q1))]
theorem Ba(pa:Ŗ)(slot:ŋ)(hty:é)(hm:ţ)(ho:PE X o to)(ha:PA X ĵ t)(hbase:attributeBase o name È Ć=eval o È:=by rfl)(hfew:((backTo cpos (starEach ĵ È)).all ģ&&(backToKw cpos ô).all þ
  &&decide ((e::es).length+([]:List Keyword).length+Ê<30))=true:=by rfl)(hline:(apos.endLine == cpos.line)=true:=by rfl)(hs:starEach ĵ È=ÿ::starEach es È:=by rfl)(hplain:(backTo cpos ĸ).any (·.1)=false:=by rfl) :
  PE X (.Call ē ĵ [] cpos) (tBM Ł T r to t):=by
 intro ON s Y H Q I h;refine wpAny_Call_method_late hbase hfew hline rfl ì;exists[x,H1,I1,r1,ty,q1],hz9;exists[h1,h2],DP I1 r1 ty;refine#[T,id,pa,slot,hty,h1,h2,?_];have hA:=ha cpos ON s1 Y H1 _ I1 q1;rw[hs]at hA ⊢;refine Y5 (by show(false ||(backTo cpos ĸ).any (·.1))=false;rw[hplain]<;>rfl) (Calls.evalArgs_plain ?_);exact thn hA λus s2 ⟨vs,H2,I2,r2,q2⟩=>hm ON s2 Y H2 x vs v us Q I2 r1 r2 q2
#check 0
def MtM(X:Cx)(id:đ)(r:Ð):Prop :=
 ∀(ON:Oy) (s:OD) (Y:St) (H:Hp) (x:V) (xs:û) (v:OE) (us:OB) (Q:VK),Inv X ON Y H s->RelV x v->Vals xs us->r x xs H Q ->
  wpAny Ã Ť Į á ļ s
theorem Vals.one:∀{x:V} {us:OB},Vals [x] us->∃u,us=[u]/\RelV x u
 |_,_,.cons r .nil=>#[_,rfl,r]
theorem Vals.zero:∀{us:OB},Vals [] us->us=[]
 |_,.nil=>rfl
theorem Vals.dropLast(h:Ĳ):Vals ő us.dropLast:=by
 induction h with
 |nil=>exact .nil
 |cons r t ih =>
  cases t with
  |nil=>exact .nil
  |cons q t'=>exact .cons r ih
theorem Vals.rep(h:Ĳ):∀k:Nat,Vals (List.replicate k xs).flatten (List.replicate k us).flatten
 |0=>.nil
 |k+1=>by rw[YJ,YJ,List.flatten_cons,List.flatten_cons];exact Vals.append h (Vals.rep h k)
theorem AD{α:ň}(l:ď):l.eraseIdx (l.length-1)=l.dropLast:=by
 induction l with
 |nil=>rfl
 |cons a r ih =>
  cases r with
  |nil=>rfl
  |cons b r =>
   have e:(a::b::r).length-1=((b::r).length-1)+1:=by have h1:(a::b::r).length=î+2:=rfl;have h2:(b::r).length=î+1:=rfl;omega
   rw[e,List.eraseIdx_cons_succ,ih]
   all_goals rfl
theorem ur(its:OB):∀(k:Ĩ) (acc:OB),
  List.foldl Ā Œ (List.replicate k Á)=(acc++(List.replicate k its).flatten).toArray
 |0,acc=>by simp
 |k+1,acc=>by
  have e:Œ++Á=(acc++its).toArray:=by simp
  have e2:ř++(List.replicate k its).flatten=acc++(List.replicate (k+1) its).flatten:=by rw[YJ,List.flatten_cons,Xd]
  rw[<-e2,<-ur its k ř,<-e,YJ,List.foldl_cons]
section
variable{s:OD}
theorem Inv.lset{its its':OB}{n:Ĩ}{f:Array OE->Array OE}{t':Ĩ}(I:Â)(hH:ć)(e:s.heap.get? l=some { cls:=.type "list",data:=.seq Á n })(hf:f Á=its'.toArray)(hv:ŕ)(hz:ğ) :
  Inv X ON Y Ŏ { s with heap:=s.heap.update l ľ,toks:=t' }:=by
 have q:=PySem.IsL.update e f;rw[hf]at q;refine I.write (x:=l) (e:=l) (by rw[hH];exact trivial) Đ (λb' u hb hu=>(Yd Ř ľ (ZO hb)).trans hu) #[_,q] ?_;exact#[hz,its',_,hv,q]
theorem Inv.lnew{t':Ĩ}(I:Â)(hv:Vals ys its)(hz:ğ):
  Inv X ON Y (upd H Ä ė) { s with heap:=s.heap.push { cls:=.type "list",data:=.seq Á },toks:=t' } :=
 I.laid į Ă #[hz,its,0,hv,Zl _ rfl]
theorem Inv.fresh(I:Â):H Ä=none:=I.hok.fresh Ă
theorem Inv.lstM(I:Â)(hH:ć):À<=sizeLine/\∃(its:OB) (n:Ĩ),Vals xs its/\À=å/\s.heap.get? l=some { cls:=.type "list",data:=.seq Á n }:=by exists[z,its,n,r,e],I.hok l _ hH;exact#[z,its,n,r,î,e]
theorem xB{n:Ĩ}(h:n<=sizeLine):Builtin.List.listTooLong n=false:=by unfold Builtin.List.listTooLong;exact decide_eq_false ∅
#check 0
section
inductive rAppend  (x:V)(vs:û)(H:Hp)(Q:VK):Prop
 |mk (l xs y:_) (h0:x=.ref l) (h1:vs=[y]) (h2:ć) (h3:À<sizeLine) (h4:Q .non (upd H l (.lst (xs++[y])))):rAppend  x vs H Q
theorem CF:MtM X "list.append" rAppend:=by intro ON s Y H x vs v us Q I rx rv h;exists[l,xs,y,rfl,rfl,hH,hz,q],h;cases rx;exists[u,rfl,ru],rv.one;exists[z,its,n,r,hl,e],I.lstM hH;refine call_meets F.slot_list_append #[_,e,rfl] F.entry_list_append (F.args_list_append_2 _ _) (PySem.list_append l Á n u ā) #[e,?_];refine#[.non,_,I.lset (its':=its++[u]) hH e Ę (r.append (.cons ru .nil)) ?_,rfl,q];rw[Zf,YA];omega
def zJ:V->List V->Hp->VK->Prop:=λx vs H Q=>∃l b xs zs,x=.ref l/\vs=[.ref b]/\H l=some Ñ/\H b=some š/\À+ś<=sizeLine/\Q .non (upd H l ĺ)
theorem CG:MtM X "list.extend" zJ:=by
 intro ON s Y H x vs v us Q I rx rv h;exists[l,b,xs,zs,rfl,rfl,hH,hB,hz,q],h;cases rx;exists[u,rfl,ru],rv.one;cases ru;exists[z,its,n,r,hl,e],I.lstM hH;exists[z2,its2,n2,r2,hl2,e2],I.lstM hB;have hsz:Å+Ĭ<=sizeLine:=by rw[Zk,Zk];omega
 have hlong:¬(!Ģ&&Builtin.List.listTooLong (Å+Ĭ))=true:=by rw[xB hsz,YN];exact Zx
 refine call_meets F.slot_list_extend #[_,e,rfl] F.entry_list_extend (F.args_list_extend_2 _ _)
  (AutoSeq1.list_extend_list_list_0 l Á n b ō n2 hlong ā ∅) #[e,e2,?_]
 refine#[.non,_,I.lset (its':=its++its2) hH e Ę Ņ ?_,rfl,q];rw[Zf];omega
def K5:V->List V->Hp->VK->Prop:=λx vs H Q=>∃l xs y,x=.ref l/\vs=[]/\H l=some Ñ/\xs[À-1]?=some y/\Q y (upd H l (.lst ő))
theorem J3:MtM X "list.pop" K5:=by
 intro ON s Y H x vs v us Q I rx rv h;exists[l,xs,y,rfl,rfl,hH,hy,q],h;cases rx;have hus:=rv.zero;subst hus;exists[z,its,n,r,hl,e],I.lstM hH;exists[u,hu,ru],r.get hy;have hy':Á[Å-1]?=some u:=by show Á[å-1]?=some u;rw[<-YB,<-hl];exact hu
 refine call_meets F.slot_list_pop #[_,e,rfl] F.entry_list_pop (F.args_list_pop_1 _) (MeetsSeq.list_pop_last l Á n u hy' ā) #[e,?_];refine#[y,_,I.lset (its':=its.dropLast) hH e ?_ r.dropLast ?_,ru,q]
 .show its.toArray.eraseIdxIfInBounds (Å-1)=its.dropLast.toArray;rw[Zk,List.eraseIdxIfInBounds_toArray,AD]
 .rw[List.length_dropLast];omega
inductive rCat  (x:V)(y:V)(H:Hp)(Q:VK):Prop
 |mk (l b xs zs:_) (h0:x=.ref l) (h1:y=.ref b) (h2:ć) (h3:H b=some š) (h4:À+ś<=sizeLine) (h5:∀p,H p=none->Q ñ (upd H p ĺ)):rCat  x y H Q
theorem Kk:OpR X Ĺ rCat:=by
 intro ON s Y H x y v u Q I rx ry h;exists[l,b,xs,zs,rfl,rfl,hH,hB,hz,q],h;cases rx;cases ry;exists[z,its,n,r,hl,e],I.lstM hH;exists[z2,its2,n2,r2,hl2,e2],I.lstM hB;refine PySem.P.add_list e e2 ?_ (by rw[Zk,Zk];omega);have ea:Á++ō=(its++its2).toArray:=by simp
 rw[ea];exact#[.ref _,_,I.lnew (t':=Ý) Ņ (by rw[Zf];omega),rfl,q _ I.fresh]
def K6:R2:=λx y H Q=>∃l k xs,x=.ref l/\y=.int k/\H l=some Ñ/\-(2^63)<=k/\k<2^63/\À*ä<=sizeLine /\
 ∀p,H p=none->Q ñ (upd H p (.lst (List.replicate ä xs).flatten))
theorem HG{α:ň}(xs:ď)(k:Ĩ):(List.replicate k xs).flatten.length=k*À:=by
 induction k with
 |zero=>simp
 |succ k ih=>rw[YJ,List.flatten_cons,Zf,ih,Nat.succ_mul,Nat.add_comm]
theorem Kp:OpR X (binaryOp .Mult) K6:=by
 intro ON s Y H x y v u Q I rx ry h;exists[l,k,xs,rfl,rfl,hH,h1,h2,hz,q],h;cases rx;exists[t,rfl],ry;exists[z,its,n,r,hl,e],I.lstM hH;have hlen:Å*ä<=sizeLine:=by rw[Zk,<-hl];exact hz
 have hcap:¬Å*ä>(2^63-1) / 8:=by
  have:(sizeLine:Ĩ)<=(2^63-1) / 8:=⋯
  omega
 have hfit:¬(!Builtin.List.listFitsIndex k)=true:=by rw[fitsIndex_both h1 h2];exact Zx
 have hlong:¬Builtin.List.listTooLong (Å*ä)=true:=by rw[xB hlen];exact Zx
 have hnew:List.foldl Ā #[] (List.replicate (if Ģ=true then 0 else ä) Á)=(List.replicate ä its).flatten.toArray:=by
  have f0:∀m:Nat,List.foldl Ā #[] (List.replicate m Á)=(List.replicate m its).flatten.toArray:=λm=>by have:=ur its m [];rw[List.nil_append]at this;exact this
  rw[f0];cases its with
  |nil=>simp
  |cons a r'=>rw[Ow Ę]
 refine wpAny_binaryOp_repeat_ref (T:="list") (U:="int") ⋯ #[_,e,rfl] (λs'=>typeIs_int s' k t) noFill_list_mul F.fills_int_mul F.slot_int_rmul repeat_list F.slot_int_index.lookup
  (call_meets F.slot_int_rmul (typeIs_int s k t) F.entry_int_rmul (F.args_int_rmul_2 _ _) (int___rmul___int_list k t l Á n)
   #[e,rfl,#[_,e,rfl],call_meets F.slot_list_mul #[_,e,rfl] F.entry_list_mul (F.args_list_mul_2 _ _) (AutoListH.list___mul___list_int_3 l Á n k t hfit hcap hlong) #[e,?_]])
 rw[hnew];exact#[.ref _,_,I.lnew (t':=Ý) (r.rep ä) (by rw[HG,Nat.mul_comm];exact hz),rfl,q _ I.fresh]
#check 0
section
variable{κ:ň}[DecidableEq κ]
def aW(kvs:ê)(k:κ):Option V:=(kvs.find? λkv=>decide ł).map (·.2)
def bj(kvs:ê)(k:κ)(v:V):List ņ :=
 if É=true then kvs.map (λkv=>if kv.1=k then(kv.1,v)else kv)else kvs++[(k,v)]
theorem cX{p:ņ}(e:p.1=k):aW (p::r) k=some p.2:=by simp[aW,List.find?_cons,e]
theorem cJ{p:ņ}(e:¬p.1=k):aW (p::r) k=aW r k:=by simp[aW,List.find?_cons,e]
theorem iJ(k:κ):∀kvs:List ņ,É=(aW kvs k).isSome
 | []=>rfl
 |p::r=>by
  rw[YF];by_cases e:p.1=k
  .simp only[cX e,decide_eq_true e,Bool.true_or,Option.isSome_some]
  .rw[cJ e,decide_eq_false e,Bool.false_or];exact iJ k r
theorem kU(kvs:ê)(k:κ)(v:V):(bj kvs k v).length<=Ë+1:=by
 unfold bj;split
 .rw[Zd];omega
 .rw[Zf,Zm,Yo];omega
theorem xJ{kvs:ê}{k:κ}(v:V)(h:aW kvs k=none):bj kvs k v=kvs++[(k,v)]:=by unfold bj;rw[iJ,h];exact Ow ⋯
theorem RelO.isSome_eq(r:RelO o u):ċ=u.isSome:=by
 cases o with
 |none=>cases u with
  |none=>rfl
  |some _=>exact(show False from r).elim
 |some _=>cases u with
  |none=>exact(show False from r).elim
  |some _=>rfl
theorem KV.val(r:ó)(k:κ):RelO ĭ (valueAt vs k):=by
 unfold KV at r;induction r with
 |nil=>exact True.intro
 |@cons p q ps qs h t ih =>
  exists[h1,h2],h;by_cases e:p.1=k
  .have e':q.1=k:=h1.symm.trans e;have b:valueAt Ķ k=some q.2:=by simp[valueAt,List.find?_cons,e']
   rw[cX e,b];exact h2
  .have e':¬q.1=k:=λz=>e ă;have b:valueAt Ķ k=valueAt qs k:=by simp[valueAt,List.find?_cons,e']
   rw[cJ e,b];exact ih
theorem KV.any(r:ó)(k:κ):É=vs.any λkv=>decide ł:=by
 unfold KV at r;induction r with
 |nil=>rfl
 |cons h t ih=>rw[YF,YF,ih,h.1]
theorem KV.repl(r:ó)(k:κ)(ry:Ø):
  KV à (vs.map λkv=>if kv.1=k then(kv.1,u)else kv):=by
 unfold KV at r ⊢;induction r with
 |nil=>exact .nil
 |@cons p q ps qs h t ih =>
  rw[Zr,Zr];refine .cons ?_ ih;exists[h1,h2],h;by_cases e:p.1=k
  .rw[Ox e,Ox İ];exact#[h1,ry]
  .rw[Ow e,Ow Ŕ];exact#[h1,h2]
theorem KV.put{kvs:ê}{vs:List (κ×OE)}(r:ó)(k:κ){y:V}{u:OE}(ry:Ø):KV ŏ (stored vs k u):=by
 unfold bj stored;rw[r.any k];by_cases e:(vs.any λkv=>decide ł)=true
 .rw[Ox e,Ox e];exact r.repl k ry
 .rw[Ow e,Ow e];exact y7 r #[rfl,ry]
theorem KV.length(r:ó):Ë=Ŝ:=Zv r
#check 0
theorem qX(r:RelV (kV k) u):(bq P w).is k u=true:=by
 cases k with
 |inl i=>exists[t,e],(show∃t,u=Value.int i t from r);subst e;exact yD P w i t
 |inr x=>exists[t,e],(show∃t,u=Value.str x t from r);subst e;exact yE P w x t
theorem uy:∀{ks:ð} {us:OB},Vals Ĥ us->ItemsAre è ks us
 | [],_,r=>by rw[List.map_nil]at r;cases r;exact .nil
 |k::ks,_,r=>by
  rw[Zr]at r;cases r with
  |cons h t=>exact .cons (qX h) (uy t)
abbrev KT(H:Hp):List ĕ->List ú->Prop:=Paired λp q=>p.1=q.1/\H q.2.1=some (.tup (p.1.map kV))/\RelV p.2 q.2.2
theorem KT.val(r:Ĉ)(k:ð):RelO ĭ ((atKey xs k).map (·.2)):=by
 induction r with
 |nil=>exact True.intro
 |@cons p q ps qs h t ih =>
  exists[h1,_,h2],h;by_cases e:p.1=k
  .have e':q.1=k:=h1.symm.trans e;have b:atKey Ķ k=some q.2:=by simp[atKey,List.find?_cons,e']
   rw[cX e,b];exact h2
  .have e':¬q.1=k:=λz=>e ă;have b:atKey Ķ k=atKey qs k:=by simp[atKey,List.find?_cons,e']
   rw[cJ e,b];exact ih
theorem KT.repl(r:Ĉ)(k:ð)(ry:Ø):
  KT H à (xs.map (putAt k u)):=by
 induction r with
 |nil=>exact .nil
 |@cons p q ps qs h t ih =>
  rw[Zr,Zr];refine .cons ?_ ih;exists[h1,h2,h3],h;unfold putAt;by_cases e:p.1=k
  .rw[Ox e,Ox İ];exact#[h1,h2,ry]
  .rw[Ow e,Ow Ŕ];exact#[h1,h2,h3]
theorem KT.put{H:Hp}{kvs:List ĕ}{xs:List ú}(r:Ĉ)(k:ð){b:OC}{y:V}{u:OE}(hb:ĩ)(ry:Ø) :
  KT H ŏ (storedH xs k b u):=by
 have e:É=(atKey xs k).isSome:=by rw[iJ,(r.val k).isSome_eq,Option.isSome_map]
 unfold bj storedH;rw[e];by_cases q:(atKey xs k).isSome=true
 .rw[Ox q,Ox q];exact r.repl k ry
 .rw[Ow q,Ow q];exact y7 r #[rfl,hb,ry]
theorem KT.keeps{H H':Hp}(r:Ĉ)(ht:∀b ys,H b=some ę->H' b=some ę):KT H' kvs xs :=
 Paired.mapP r λ_ _ z=>#[z.1,ht _ _ z.2.1,z.2.2]
section
theorem Gy(ok:Þ)(e:Rd H a u):ObjOk P w H h a u:=e.ok ok
theorem oW(ok:Þ)(e:Rd H a æ):Ë<=sizeLine/\Í=false/\∃vs,KV kvs vs/\h.DictOf è a vs :=
 show ObjOk P w H h a (.dK kvs)from Gy ok e
theorem LI(ok:Þ)(e:H a=some æ):Ë<=sizeLine/\Í=false/\∃vs,KV kvs vs/\h.DictOf è a vs:=oW ok (.inl e)
theorem iQ{ks:ð}(ok:Þ)(e:H a=some (.tup Ĥ)):(tupleKind è).is h ks a:=by
 exists[_,its,r,o,h1,h2,n,h3],(show ObjOk P w H h a (.tup Ĥ)from ok a _ e)
 exact#[o,Á,n,h1,h2,h3,by simpa using uy r]
theorem jk(ok:Þ)(e:Rd H a Û):Ë<=sizeLine/\Í=false /\
  ∃xs,KT H kvs xs/\h.DictOfH Ŀ a xs:=by
 exists[z,y,xs,r,o,es,ep,h1,h2,h3,h4,h5],(show ObjOk P w H h a (.dT kvs)from Gy ok e)
 refine#[z,y,xs,r,o,es,ep,h1,h2,h3,h4,λx hx=>?_,h5];have all:∀{l:List ĕ} {m:List ú},KT H l m->∀x∈m,(tupleKind è).is h x.1 x.2.1:=by
  intro l m q;induction q with
  |nil=>intro x hx;exact nomatch hx
  |@cons p q ps qs hq t ih =>
   intro x hx;rcases Zg.mp hx with e|hx
   .subst e;exact iQ ok (by rw[<-hq.1];exact hq.2.1)
   .exact ih x hx
 exact all r x hx
theorem LJ(ok:Þ)(e:Ī):Ë<=sizeLine/\Í=false /\
  ∃xs,KT H kvs xs/\h.DictOfH Ŀ a xs:=jk ok (.inl e)
#check 0
def DGet(H:Hp)(a:OC)(y:V)(r:Option V):Prop :=
 (∃kvs k,Rd H a æ/\y=kV k/\r=aW kvs k)\/∃kvs k b,Rd H a Û/\y=.ref b/\H b=some Ó/\r=aW kvs k
def DPut(H:Hp)(a:OC)(y v:V)(H':Hp):Prop :=
 (∃kvs k,H a=some æ/\y=kV k/\Ë<sizeLine/\H'=upd H a (.dK ĝ)) \/
 ∃kvs k b,H a=some Û/\y=.ref b/\H b=some Ó/\Ë<sizeLine/\H'=upd H a (.dT ĝ)
theorem DGet.t{H:Hp}{k:ð}(e:Ī)(eb:ĩ):DGet H a (.ref b) ĭ:=.inr #[kvs,k,b,.inl e,rfl,eb,rfl]
theorem DPut.t{H:Hp}{k:ð}(e:Ī)(eb:ĩ)(hl:Ë<sizeLine):
  DPut H a (.ref b) v (upd H a (.dT ĝ)):=.inr #[kvs,k,b,e,rfl,eb,hl,rfl]
section
variable{s:OD}{A:OH}
theorem Inv.big(I:Â):sysModules<Ä:=by have h:mainGlobals<Ä:=(I.mod.glob.keeps I.bk).lt;exact Nat.lt_trans ⋯ h
theorem BX{Q:Oz}(hu:í)(I:Â)(g:DGet H a y (some v))(ry:Ø)(h:∀w' s',Inv X ON Y H s'->RelV v w'->Q w' s') :
  wpAny Ã A (getItem ò u) Q E s:=by
 rcases g with⟨kvs,k,e,ey,l⟩|⟨kvs,k,b,e,ey,eb,l⟩
 .subst ey;exists[z,hd,vs,rel,dd],oW I.hok e;exists[w',hw,rw'],RelO.some_of (v:=v) (o:=valueAt vs k) Ď;exact wpAny_getItem_of ķ Ľ hw (h w' _ õ rw')
 .subst ey;cases(show u=Value.ref b from ry);exists[z,hd,xs,rel,dd],jk I.hok e;exists[w',hw,rw'],RelO.some_of (v:=v) (o:=(atKey xs k).map (·.2)) Ď;exists[p,hp,hp2],Z1.mp hw;refine wpAny_getItem_heap Ï ø dd hp ?_;rw[hp2];exact h w' _ õ rw'
theorem MJ{Q:Oz}(hu:í)(I:Â)(g:Ġ)(ry:Ø)(h:∀s',Inv X ON Y H s'->Q (.bool ċ) s') :
  wpAny Ã A (compareOp .In u ò) Q E s:=by
 rcases g with⟨kvs,k,e,ey,l⟩|⟨kvs,k,b,e,ey,eb,l⟩
 .subst ey;exists[z,hd,vs,rel,dd],oW I.hok e;refine wpAny_in_of ķ hd Ľ ?_;rw[<-(rel.val k).isSome_eq,<-l];exact h _ õ
 .subst ey;cases(show u=Value.ref b from ry);exists[z,hd,xs,rel,dd],jk I.hok e;refine wpAny_in_heap Ï ø hd dd ?_;have q:=(rel.val k).isSome_eq;rw[Option.isSome_map]at q;rw[<-q,<-l];exact h _ õ
theorem Hb{Q:Oz}(hu:í)(I:Â)(g:Ġ)(ry:Ø)(h:∀s',Inv X ON Y H s'->Q (.bool (!ċ)) s') :
  wpAny Ã A (compareOp .NotIn u ò) Q E s:=by
 rcases g with⟨kvs,k,e,ey,l⟩|⟨kvs,k,b,e,ey,eb,l⟩
 .subst ey;exists[z,hd,vs,rel,dd],oW I.hok e;refine wpAny_notIn_of ķ hd Ľ ?_;rw[<-(rel.val k).isSome_eq,<-l];exact h _ õ
 .subst ey;cases(show u=Value.ref b from ry);exists[z,hd,xs,rel,dd],jk I.hok e;refine wpAny_notIn_heap Ï ø hd dd ?_;have q:=(rel.val k).isSome_eq;rw[Option.isSome_map]at q;rw[<-q,<-l];exact h _ õ
theorem sE{t':Ĩ}(I:Â)(mu:Mut (H a))(hs:Heap.SameBut a Ř h')(he:∃q,h'.get? a=some q)(new:ObjOk ŗ X.w Ő h' a ob):
  Inv X ON Y Ő { s with heap:=h',toks:=t' } :=
 I.write (x:=a) (e:=a) mu Đ (λb q hb z=>(hs.2 b hb).trans z) he new
theorem JF{h':Heap}{kvs:List (Key×V)}(z:Ë<=sizeLine)(hd:Í=false)(rel:ó)(dd:h'.DictOf è a vs):
  ObjOk P w H' h' a æ:=#[z,hd,vs,rel,dd]
theorem BY{Q:Unit->OD->Prop}(hu:í)(I:Â)(g:ŀ)(ry:Ø)(rv:RelV v r)(h:∀s',Inv X ON Y H' s'->Q () s'):
  wpAny Ã A (setItem ò u r) Q E s:=by
 rcases g with⟨kvs,k,e,ey,l,eH⟩|⟨kvs,k,b,e,ey,eb,l,eH⟩
 .subst ey eH;exists[z,hd,vs,rel,dd],LI I.hok e;have hz:Ŝ<=sizeLine:=by rw[<-rel.length];exact z
  have hl:(bj kvs k v).length<=sizeLine:=by have:=kU kvs k v;omega
  refine wpAny_setItem_pairs (hsz:=hz) ķ dd λh' dd' hs=>h _ ?_;have he:∃q,h'.get? a=some q:=let⟨q,_,_,hq,_⟩:=dd';#[q,hq]
  exact sE I ĉ hs he (JF hl hd (rel.put k rv) dd')
 .subst ey eH;cases(show u=Value.ref b from ry);exists[z,hd,xs,rel,dd],LJ I.hok e;have hz:À<=sizeLine:=by rw[<-Zv rel];exact z
  have hl:(bj kvs k v).length<=sizeLine:=by have:=kU kvs k v;omega
  refine wpAny_setItem_heap (hsz:=hz) Ï ø dd λh' dd' hs=>h _ ?_;exists[q,es,ep,hq,h2,h3,h4,_,h5],dd';refine sE I ĉ hs #[q,hq] #[hl,hd,_,(rel.put k eb rv).keeps λc ys ec=>?_,q,es,ep,hq,h2,h3,h4,h5];rw[af (bw ec e nofun)];exact ec
#check 0
def DV(i:OM):Prop:=∀ov iv,subscripted i false ov iv=operate [ov,iv] (getItem ov iv)
theorem IR{prog:OF}{w:OG}{A:OH}{E:Oz}{s:OD}{env:Env}{value slice:OM}{pos:Ţ}{T id:đ}{Q:Oz}(hl:typeLookup Ş "__getitem__" = pure ş)(hs:DV slice)(h:wpAny Ô A (eval value env) (λo s₁=>wpAny Ô A (eval slice env) (λi s₂=>s₂.TypeIs o T/\wpAny Ô A ń Q E s₂) E s₁) E s) :
  wpAny Ô A (eval (.Subscript value slice pos) env) Q E s:=by
 refine Subscript_ (ZQ h (λo s₁ h₁=>ZQ h₁ (λi s₂ h₂=>?_) λ_ _ x=>x) λ_ _ x=>x);exists[hT,h₂],h₂;unfold subscriptTail;refine z9 ?_;rw[getitemInPython_of_ne hT.not_modules];refine z9 (wpAny_specialOf hT hl ?_);have fin:wpAny Ô A (subscripted slice false o i) (λr s₃=>wpAny Ô A (letTemporaryGo value o r >>= λ_=>pure r) Q E s₃) E s₂:=by rw[hs o i];exact wpAny_operating (ZQ h₂ (λr s₃ h₃=>z9 (wpAny_letTemporaryGo (Za h₃))) λ_ _ x=>x)
 first
  |exact Za (z9 fin)
  |exact z9 (Za (z9 fin))
  |exact z9 fin
theorem yw(I:Â)(g:Ġ):s.TypeIs ò "dict":=by
 rcases g with⟨kvs,k,e,_,_⟩|⟨kvs,k,b,e,_,_,_⟩
 .exists[_,_,vs,_,dd],oW I.hok e;exact Ĕ
 .exists[_,_,xs,_,dd],jk I.hok e;exact Ĕ
def Bs(td ty:TE):TE:=λY H Q=>td Y H λx H1=>ty Y H1 λy H2=>∃a v,x=.ref a/\DGet H2 a y (some v)/\Q v H2
def FJ(ty td:TE):TE:=λY H Q=>ty Y H λy H1=>td Y H1 λx H2=>∃a o,x=.ref a/\DGet H2 a y o/\Q (.bl ċ) H2
def zW(ty td:TE):TE:=λY H Q=>ty Y H λy H1=>td Y H1 λx H2=>∃a o,x=.ref a/\DGet H2 a y o/\Q (.bl (!ċ)) H2
inductive IsP(x y v:V)(H:Hp)(R:Hp->Prop):Prop
 |mk (a:OC) (H':Hp) (h0:Ň) (h1:ŀ) (q:R H'):IsP x y v H R
def GA(td ty tv:TE):TS:=λD Y H=>tv Y H λv H1=>td Y H1 λx H2=>ty Y H2 λy H3=>IsP x y v H3 (D.nx Y)
section
variable{X:Cx}{pos:Ţ}
theorem Ii(hu:ß)(ho:ě)(hi:Ĝ)(hs:DV i):PE X (.Subscript o i pos) (Bs td ty):=by intro ON s Y H Q I h;refine IR PySem.F.slot_dict_getitem.lookup hs (thn (ho ON s Y H _ I h) λu s1 ⟨x,H1,I1,rx,q1⟩=>thn (hi ON s1 Y H1 _ I1 q1) λiv s2 hz9=>?_);exists[y,H2,I2,ry,a,v,ex,g,q2],hz9;subst ex;obtain rfl:u=Value.ref a:=rx;exact#[yw I2 g,BX hu I2 g ry λw' s3 I3 rw'=>#[v,H2,I3,rw',q2]]
theorem C6(hu:ß)(hi:Ĝ)(ho:ě):PC X .In i o (FJ ty td):=by intro ON s Y H Q I h;refine thn Ħ λiv s1 ⟨y,H1,I1,ry,q1⟩=>thn ã λu s2 hz9=>?_;exists[x,H2,I2,rx,a,ov,ex,g,q2],hz9;subst ex;obtain rfl:u=Value.ref a:=rx;exact MJ hu I2 g ry λs3 I3=>#[.bl ŝ,H2,I3,rfl,q2]
theorem C7(hu:ß)(hi:Ĝ)(ho:ě):PC X .NotIn i o (zW ty td):=by intro ON s Y H Q I h;refine thn Ħ λiv s1 ⟨y,H1,I1,ry,q1⟩=>thn ã λu s2 hz9=>?_;exists[x,H2,I2,rx,a,ov,ex,g,q2],hz9;subst ex;obtain rfl:u=Value.ref a:=rx;exact Hb hu I2 g ry λs3 I3=>#[.bl (!ŝ),H2,I3,rfl,q2]
theorem Iw(hu:ß)(ho:ě)(hi:Ĝ)(hv:PE X value tv)(hs:swapsWith value (some (.Subscript o i pos')) pos.line È=pure false) :
  PS X (.Assign [.Subscript o i pos'] value pos) (GA td ty tv):=by
 intro ON s Y H D I h;refine wpAny_Assign_Subscript (thn (hv ON s Y H _ I h) λr s1 ⟨v,H1,I1,rv,q1⟩=>thn ã λu s2 ⟨x,H2,I2,rx,q2⟩=>thn (hi ON s2 Y H2 _ I2 q2) λiv s3 hz9=>?_) hs;exists[y,H3,I3,ry,a,H4,ex,g,q3],hz9;subst ex;obtain rfl:u=Value.ref a:=rx;exact BY hu I3 g ry rv λs4 I4=>#[Y,H4,I4,q3]
#check 0
theorem Ei(h:Heap)(hb:sysModules<œ):ObjOk P w H (h.push { cls:=.type "dict",data:=.dict #[] }) œ (.dT []) :=
 #[ZL _,Yx.mpr (ZO (Zz hb)),[],.nil,_,#[],0,Zl _ rfl,#[rfl,rfl,rfl],rfl,rfl,List.nodup_nil]
def DG:TE:=λ_ H Q=>∀p,H p=none->Q ñ (upd H p (.dT []))
section
theorem E1:PE X (.Dict [] [] pos) DG:=λON s Y H Q I h =>
 wpAny_Dict_empty #[.ref Ä,_,I.laid (a:=Ä) (o:=.dT []) (t':=Ý) į Ă (Ei Ř I.big),rfl,h _ Ì]
#check 0
def DH:List (TE×TE)->St->Hp->Ğ->Prop
 | [],_,H,Q=>Q [] H
 |(tk,tv)::r,Y,H,Q=>tk Y H λx H1=>tv Y H1 λy H2=>DH r Y H2 λps H3=>Q ((x,y)::ps) H3
abbrev VV:List (V×V)->List (OE×OE)->Prop:=Paired λp q=>RelV p.1 q.1/\RelV p.2 q.2
def PPs(X:Cx)(pos:Ţ)(keys:List Ĵ)(values:List OM)(trs:List (TE×TE)):Prop :=
 ∀(ON:Oy) (s:OD) (Y:St) (H:Hp) (Q:Ğ),Inv X ON Y H s->DH trs Y H Q ->
  wpAny Ã Ť (evalPairs (pairTrees keys values È pos)) (λvs s'=>∃ps H',Inv X ON Y H' s'/\VV ps vs/\Q ps H') ļ s
structure M1(X:Cx)(o:OM)(m:Str)(apos:Ţ)(e:OM)(cpos:Ţ):Prop where
 base:attributeBase o m È Ć=eval o È
 few:((backTo cpos ı).all ģ&&(backToKw cpos ô).all þ
 &&decide (([e]:List OM).length+([]:List Keyword).length+Ê<30))=true
 line:Ü=true
 trees:backTo cpos ı=[ÿ]
structure M2(X:Cx)(o:OM)(m:Str)(apos:Ţ)(e f:OM)(cpos:Ţ):Prop where
 base:attributeBase o m È Ć=eval o È
 few:((backTo cpos ħ).all ģ&&(backToKw cpos ô).all þ
 &&decide (([e,f]:List OM).length+([]:List Keyword).length+Ê<30))=true
 line:Ü=true
 trees:backTo cpos ħ=[ÿ,(false,eval f È)]
def IsD(H:Hp)(a:OC):Prop:=(∃kvs,Rd H a æ)\/∃kvs,Rd H a Û
theorem JS(I:Â)(d:IsD H a):
  s.TypeIs ò "dict"/\(∀b,Value.ref a=.ref b->∃ob,s.heap.get? b=some ob/\ob.dict=none)/\Í=false:=by
 rcases d with⟨kvs,e⟩|⟨kvs,e⟩
 .exists[_,hd,vs,_,dd],oW I.hok e;refine#[Ĕ,λb q=>?_,hd];cases q;exists[ob,_,_,h1,h2,_],dd;exact#[ob,h1,h2.2.1]
 .exists[_,hd,xs,_,dd],jk I.hok e;refine#[Ĕ,λb q=>?_,hd];cases q;exists[ob,_,_,h1,h2,_],dd;exact#[ob,h1,h2.2.1]
end
end Lake
namespace Att
open PySem PySem.W PySem.Calls PyProof.Rows
mutual
#check#[(.bool true),ns.length,(ns.map WData.int),l.row.toRowW,s₁.heap,(true==true),(l.most=some n),(OpenLaw),vs.toArray,d.name,(.ref fa)]
theorem qW:∀(ns:OJ) (vs:OB),WellAll P h vs Â->IntsAre vs ns:=by
 intro ns;induction ns with
 |nil =>intro vs w;rw[List.map_nil]at w;cases w;exact .nil
 |cons n ns ih =>
  intro vs w;rw[Zr]at w;cases w with
  |cons a b =>cases a;exact .cons _ _ (ih _ b)
theorem Dz{l:Ç}{n:Nat}(hn:Æ)(hpre:l.row.toRowW.claim.pre args=true)(hwl:WellAll P h vals args):
  ∃a vs ns,vals=[Value.ref a]/\args=[WData.list Â]/\h.get? a=some { cls:=.type "list",data:=.seq È }/\IntsAre vs ns/\Á<=n:=by
 have hsh:WShape.hasAll [] args [.list .int]=true:=(pre_splitW hpre).1;have hc:l.pre.holds [] { args:=args }=true:=(pre_splitW hpre).2;exists[d,r,rfl,h1,h2],hasAllW_cons hsh;obtain rfl:=hasAllW_nil h2;exists[xs,rfl,h3],hasW_list h1;exists[ns,rfl],items_int h3;have hlen:Á<=n:=by
  unfold OpenLaw.pre at hc;have h4:(WTm.not (.lt (.lit (.int (n:Int))) (.len (.arg 0)))).holds [] { args:=[.list (ns.map .int)] }=true:=by have h4:=(holds_andW hc).1;rw[hn]at h4;exact h4
  have h5:=condW_of h4 (w_not (w_lt w_lit (w_len_list (w_arg rfl))));rw[Zd]at h5;refine Nat.le_of_not_lt λq=>?_;have q':(n:Int)<((Á:Nat):Int):=∅
  first
   |(rw[decide_eq_true q']at h5;exact absurd h5 ⋯)
   |(simp at h5;omega)
 cases hwl with
 |cons w1 w2 =>
  cases w2;cases w1 with
  |list ho hall=>exact#[_,_,ns,rfl,rfl,ho,qW ns _ hall,hlen]
theorem Dh(l:Ç)(args:List WData):l.row.toRowW.claim.post args À args=true :=
 postW_of (r:=Ã) (X:=Å)
  (show WShape.has [] À .bool=true by first|rfl|decide|simp[WShape.has,WShape.arms,WShape.armsAll])
  (show(WTm.eq .res (.lit À)).value [] { args:=args,res:=some À,after:=args }=some (.bool Å)from w_eq_bool (w_res rfl) w_lit) rfl
theorem attach_call{l:Ç}{n:Nat}{XP:(OA)->Heap->Prop}{YP:OG->Heap->Prop}{d:DefRec}(hn:Æ)(hdf:d.params.defaults=[])(call:∀ (w:OG) (s₀ s₁:OD) (mg mb:OA) (fa:OC) (o:Obj) (pm cd doc:OE) (a:OC) (vs:OB) (ns:OJ),
   Ground q loose [] XP w s₀ mg mb Ä->YP w Ä ->
   s₁.heap.get? fa=some o->o.data=.func (docDef É d.params d.body d.scope pm cd doc)->s₁.heap.CodeRec cd É->mg É=some Ê ->
   s₁.heap.get? a=some { cls:=.type "list",data:=.seq È }->IntsAre vs ns->Á<=n->s₁.gens=#[] ->
   codeAny (model l.prog w) callerA (.call Ê #[[.ref a],[]]) (λr s'=>r=.ok (.ret À)/\OldK Ä s'.heap/\s'.os=s₁.os/\AllBare s'.gens) s₁):
  WalkO q loose XP YP Ã d [] (λf vs=>PySem.call f vs):=by
 intro w s₀ s₁ mg mb G Yq0 fa o pm cd doc dV kV ho hd hcd hD hmg hg args vals as hpre hlay hrd hwl hlo;obtain rfl:dV=.none:=Dflts.none hD hdf;obtain rfl:kV=.none:=Dflts.noKw hD;exists[a,vs,ns,rfl,rfl,hobj,hints,hlen],Dz hn hpre hwl;refine enter_call (Y7 (call w s₀ s₁ mg mb fa o pm cd doc a vs ns G Yq0 ho (fd_plain hd) hcd hmg hobj hints hlen hg) λr s' hq=>?_);exists[rfl,h2,h3,h4],hq;exact#[.inl #[.bool true,.bool true,[],rfl,λ_=>rfl,.bool true,Dh l _,λ_=>#[List.Pairwise.nil,λ_ hm=>(nomatch hm)]],h2,h3,h4]
end
end Att
namespace Lake
open PySem PySem.Spec PyProof.Rows
mutual
#check#[(bf X scope (own++capN) C s0 H0 ex),(k0==NameKind.free&&env.scope.kind == .function&&env.kindOf n==some .cell),(.ListComp elt [#[tg,iter,ifs,0]] scope pos),(bf X scope (own++capN) C s2 H2 fp),(CompOk X scope cap capN),(.Call (.Name x p) (e::es) [] pos),(x==("__debug__":Str)),X.env,s2.heap.objs.size,(W.fnOf x qual (dJ st) (bT st) (aq st) .none kV doc pm an cdv ct),(if Á=true then(n,NameKind.cell)else(n,k0)),(model X.prog X.w),own.length,scope.names,(y.2==NameKind.free),s.heap.objs.size,(λxs H Q=>∃x T t b,xs=[x,.ty T]/\TyOf X.K H x t/\W.kitOne X.K t (.type T)=some b/\Q (.bl b) H),(List (Str×NameKind)),(List (Str×OC)),(D,iZ its nn),(if Î=true then cR env r ((y.1,(env.cells.lookup y.1).getD 0)::acc)else cR env r acc),(∀p H,Same H0 H->H p=none->Q (.ref p) (upd H p (.lst ((List.range N).map f)))),(Fn X.prog X.w X.K X.mg X.base k x ps sp),0,(model prog w),(λσ2 H2=>(σ2.length=Y.length/\∀i,n<=i->σ2[i]?=Y[i]?)/\Q σ2 H2),(X.calm=true),(QE X a ta),(vJ Ì cap wi g tc te),(λ_ _=>False),(thn (hi ON s Y H _ I h) λv s1 h1=>thn h1 λitv s2 h2=>?_),(∀y∈names,y.2=.free->∃c,env.cells.lookup y.1=some c),(Obj.mapSeq λx_1=>x_1.push y),(e::es),(bootBuiltins x=some (.type T)),(.Name y py),(QE X e te),(List Str),(∀C s0 H0 ex,sh À ifs tc),(∀C s0 H0 ex,PE À elt te),(by simp),(.ListComp elt [#[target,iter,ifs,0]] scope pos),(∀C s0 H0 ex,PG À tg g),(Nat),(∀ vs H Q E,sp vs H Q E->vs.length=ps.length),(.builtin "isinstance"),(A.deeper (envOfC qual (aq st) Ï f cdv)),X.env.scope,ha.h,(upd H4 D (.lst ys)),(Fun K x qual st f fd),(List Nat),(Inv X ON Y H s),(X.mg x=none),(cR Ç Í []),0,(.builtin id),(.Name x pos),(tOp r ta tb),(O.sub I.ok x c e),(λb o hb e=>(sb.2 b hb).trans e),(λC s0 H0 ex=>(hg C s0 H0 ex).h),(λC s0 H0 ex=>(ht C s0 H0 ex).h),(λC s0 H0 ex=>(he C s0 H0 ex).h),(SqL X.K H p ys\/SqT X.K H p ys),(a::b::rest),(kvs.any λkv=>decide (kv.1=k)),(∀σ2 H2,Q σ2 H2->Q' σ2 H2),(.Assign [.Name y py] Â spos),(∀H',Same H H'->R (f i) H'),(QE X b tb),(QT X a tA),(.BoolOp .And (b::rest) pos),(vI sp [] E0 t),(.BoolOp .Or (b::rest) pos),(QI X tg iter wi),env.scope.kind,(∀b∈ex,bQ X ON H b/\b<Ï),(∀C s0 H0 ex,QIf À ifs tc),(assign ã Ç),(.Compare a [op] [b] pos),(.ref D),(∀C s0 H0 ex,QE À elt te),X.N.Nodup,(cZ Ì cap Y),(λb hb o e=>old b o e),(ZN _ (ZN _ (jm hb e))),(∀C s0 H0 ex,QG À tg g),(PassesOwn Ë X.A Ç X.xe),hb.h,(tCB r t),(PA X á t),(cZ n cap Y),(∀b∈fp,H' b=none),(.BoolOp .And ā pos),(.UnaryOp .Not a pos),(Stmt),(aq st),(List OM),(GK Ì g),(neD q),(bootBuiltins x=some ø),(QOp X (compareOp op) r),(.BoolOp .Or ā pos),(.Subscript o i pos),(.ref f),(by simpa using hy),(ForInStep.yield r),(O.sub I2.ok x c e),(QB X body t),h.elim,(k==NameKind.free),X.stack,(n,NameKind.cell),(starEach es env),(Room k X.A),ys.length,(.builtin "max"),(Scope),(Zj _ hz),(.lst ys),(aV hs.1),(bP hs.2),(.type "tuple"),(binaryOp .Add),(Option OC),(QA X es t),(QA X á t),pos.line,(qC Ü (ce j)),(.type "list"),(FnScope N ps ġ),(PI X tg iter wi),(.int i),(n,k0),(ce i),(O.clos I.ok),0,(List V),h.h,(start N vs),(O.cells ok),(newList []),(loop _ rfl),X.A,its.toArray,(bT st),(.ok .next),(own++capN),(iZ its nn),(Str),(List (κ×V)),X.K,ho.h,hc.h,(n,k),(QGs X es gs),spos.line,(Zq e),(Str×OC),(.ref it),(fpY fr3),(some ã),(some ď),(gC te t),(.type T),X.N,hi.h]
theorem uO:∀{vs:OB} {ns:OJ},IntsAre vs ns->Vals (ns.map V.int) vs
 |_,_,.nil=>.nil
 |_,_,.cons n t h=>.cons #[t,rfl] (uO h)
def cz(s:Ġ)(j:ë):Stmt:=match s with
 |.ClassDef _ _ _ body _ _ _ _ _ _ _=>body.getD j (.Pass #[0,0,0,0])
 |_=>.Pass #[0,0,0,0]
def dJ(s:Ġ):Arguments:=match s with
 |.FunctionDef _ a _ _ _ _ _ _ _ _=>a
 |_=>{ posonlyargs:=[],args:=[],vararg:=none,kwonlyargs:=[],kw_defaults:=[],kwarg:=none,defaults:=[] }
def bT(s:Ġ):List Stmt:=match s with
 |.FunctionDef _ _ b _ _ _ _ _ _ _=>b
 |_=>[]
def aq(s:Ġ):Scope:=match s with
 |.FunctionDef _ _ _ _ _ _ sc _ _ _=>sc
 |_=>{ kind:=.function,names:=[],isGenerator:=false,isCoroutine:=false }
abbrev CX0:CXT:=λ_ _ _ _ _ _=>False
abbrev E0:XK:=λ_ _ _=>False
theorem mT:fQ CX0 X E0:=λ_ _ _ _ _ _ _ h=>Į
structure Fun(K:Qa)(x qual:Ŗ)(st:Ġ)(f:OC)(fd:OI):Prop where
 ex:∃(oc:OE) (od:Ľ) (kV doc pm:OE) (an:Ľ) (cdv ct:OE) (osl:Array (Option OE)),
  fd=W.fnOf x qual (dJ st) Œ ġ .none kV doc pm an cdv ct/\K.lookup f=some #[oc,od,.func fd,osl]/\W.codeIn K cdv qual=true
 kp:W.keepIn K ĩ=true
section
variable{K:Qa}
theorem Fun.ok{st:Ġ}{k:ë}{sp:Sp}(F:ò)(S:Ń)(len:ì)(hbody:∀ (cdv:OE) (A:OH) (outer:List Env) (s:OD) (H:Hp) (vs:Ŋ) (Q:VK) (E:XK),Room k î->sp vs H Q E ->
   ∃ t,PSs (gG CX0 P w K mg base N qual ġ f cdv A outer s H E).nox Œ t/\t { nx:=λ_ H'=>Q .non H',rt:=Q } Ō H):↑FnOk CX0 (k+1) f fd ps sp:=by
 exists[oc,od,kV,doc,pm,an,cdv,ct,osl,rfl,lk,hcd],F.ex;refine AE lk hcd S len λA outer s H vs Q E hr hsp=>?_;exists[t,h,q],hbody cdv A outer s H vs Q E hr hsp;exact#[t,h.nox,q]
theorem Fun.binds{st:Ġ}{ps:å}(F:ò)(h:∀(kV doc pm:OE) (an:Ľ) (cdv ct:OE) (us:OB),us.length=ps.length->bindArgs É #[us,[]]=pure (ps.zip us)):Binds K fd ps []:=by exists[oc,od,kV,doc,pm,an,cdv,ct,osl,rfl,lk,hcd],F.ex;exact .all (h kV doc pm an cdv ct)
theorem Ci{st:Ġ}{kV doc pm cdv ct:OE}(l:K.lookup f=some #[oc,od,.func É,osl])(c:W.codeIn K cdv qual=true)(k:W.keepIn K ĩ=true):Fun K x qual st f É:=#[#[oc,od,kV,doc,pm,an,cdv,ct,osl,rfl,l,c],k]
#check 0
theorem aU{n:ë}(h:n<=1000):n<sizeLine:=Nat.lt_of_le_of_lt h ⋯
theorem aC{A B:Prop}(h:B):if false=true then A else B:=by rw[Ow Zx];exact h
theorem aQ{A B:Prop}(h:A):if true=true then A else B:=by rw[Ox rfl];exact h
theorem MN{c A B:Prop}[Decidable c](h1:c->A)(h2:¬c->B):if c then A else B:=by
 by_cases h:c
 .rw[Ox h];exact h1 h
 .rw[Ow h];exact h2 h
theorem mO{c A B:Prop}[Decidable c](hc:c)(h:B):if(!decide c)=true then A else B:=by rw[decide_eq_true hc];exact aC h
def Same(H H':Hp):Prop:=∀b o,H b=some o->H' b=some o
theorem Same.refl(H:Hp):Same H H:=λ_ _ h=>h
theorem Same.trans(a:Same H H1)(b:Same H1 H2):Same H H2:=λc o h=>b c o (a c o h)
theorem Same.free(e:Same H H')(h:H' l=Option.none):H l=Option.none:=by
 cases q:H l with
 |none=>rfl
 |some o =>rw[e l o q]at h;cases h
section
variable{κ:Type}[DecidableEq κ]
theorem FR{kvs:ŗ}{k:κ}(h:aW kvs k=none):¬k∈kvs.map (·.1):=by intro m;exists[p,hp,e],Zt.mp m;have q:Ă=true:=List.any_eq_true.mpr #[p,hp,decide_eq_true e];rw[iJ,h]at q;exact absurd q è
theorem tU{kvs:ŗ}{k:κ}{v:V}(h:aW kvs k=some v):k∈kvs.map (·.1):=by
 have q:Ă=true:=by
  rw[iJ,h]
  all_goals rfl
 exists[p,hp,e],List.any_eq_true.mp q;exact Zt.mpr #[p,hp,y0 e]
#check 0
theorem lQ{env:Env}:∀{names:Ñ} {x:Ŗ} {k:NameKind},
  (names.map fun(n,k)=>if(k==NameKind.free&&Č == .function&&env.kindOf n==some .cell)then(n,NameKind.cell)else ś).lookup x=some k ->
  ∃k',names.lookup x=some k'/\(k=k'\/(k'=.free/\k=.cell))
 | [],_,_,h=>by simp at h
 |ņ::r,x,k,h=>by
  have ih:=@lQ env r x k;rw[Zr]at h;by_cases hc:Á=true
  .have e:Ê=ı:=Ox hc;simp only[e]at h;cases hx:x==n with
   |true =>
    simp only[ZS,hx]at h ⊢;have hf:k0=.free:=by have:=hc;simp only[ZK,Z8]at this;exact this.1.1
    exact#[k0,rfl,.inr #[hf,(Zo h).symm]]
   |false =>simp only[ZS,hx]at h ⊢;exact ih h
  .have e:Ê=ņ:=Ow hc;simp only[e]at h;cases hx:x==n with
   |true =>simp only[ZS,hx]at h ⊢;exact#[k0,rfl,.inl (Zo h).symm]
   |false =>simp only[ZS,hx]at h ⊢;exact ih h
theorem oy{env:Env}:∀{names:Ñ} {x:Ŗ},names.lookup x=some .free ->
  (names.map fun(n,k)=>if(k==NameKind.free&&Č == .function&&env.kindOf n==some .cell)then(n,NameKind.cell)else ś).lookup x=some .cell \/
  (names.map fun(n,k)=>if(k==NameKind.free&&Č == .function&&env.kindOf n==some .cell)then(n,NameKind.cell)else ś).lookup x=some .free
 | [],_,h=>by simp at h
 |ņ::r,x,h=>by
  have ih:=@oy env r x;rw[Zr];by_cases hc:Á=true
  .have e:Ê=ı:=Ox hc;simp only[e];cases hx:x==n with
   |true =>
    simp only[ZS,hx]at h ⊢
    first|exact .inl rfl|exact .inl trivial
   |false =>simp only[ZS,hx]at h ⊢;exact ih h
  .have e:Ê=ņ:=Ow hc;simp only[e];cases hx:x==n with
   |true =>simp only[ZS,hx]at h ⊢;exact .inr h
   |false =>simp only[ZS,hx]at h ⊢;exact ih h
def cR(env:Env):List (Str×NameKind)->List ş->List ş
 | [],acc=>acc
 |y::r,acc=>if Î=true then cR env r ((y.1,(env.cells.lookup y.1).getD 0)::acc)else cR env r acc
theorem sC{env:Env}:∀{names:Ñ} {acc:Ò},ß ->
  (forIn names acc fun(x:Str×NameKind) (cs:Ò)=>if(x.2==NameKind.free)=true then do let c ←cellOf env x.1;pure (ForInStep.yield ((x.1,c)::cs))else pure (ForInStep.yield cs):Sem Ò)=pure (cR env names acc)
 | [],_,_=>rfl
 |y::r,acc,h=>by
  rw[List.forIn_cons];by_cases hy:Î=true
  .exists[c,hc],h y Zn Ī;have e:cellOf env y.1=pure c:=by unfold cellOf;rw[hc]
   rw[Ox hy,e,pure_bind,pure_bind];show(forIn r ((y.1,c)::acc) _:Sem Ò)=_;rw[sC λz hz=>h z ķ];show _=pure Ô;rw[Ox hy,hc];rfl
  .rw[Ow hy,pure_bind];show(forIn r acc _:Sem Ò)=_;rw[sC λz hz=>h z ķ];show _=pure Ô;rw[Ow hy]
theorem G5{scope:Ķ}{env:Env}(h:∀y∈Í,y.2=.free->∃c,env.cells.lookup y.1=some c):closureFor scope env=pure (cR env Í []):=by have q:=sC (env:=env) (names:=Í) (acc:=[]) h;unfold closureFor;exact(by first|(simp only[bind_pure];exact q)|(rw[bind_pure];exact q)|exact q)
theorem sD{env:Env}:∀{names:Ñ} {acc:Ò},ß->(∀x c,acc.lookup x=some c->env.cells.lookup x=some c) ->
  ∀x c,(cR env names acc).lookup x=some c->env.cells.lookup x=some c
 | [],_,_,ha=>ha
 |y::r,acc,h,ha=>by
  have hr:∀z∈r,z.2=.free->∃c,env.cells.lookup z.1=some c:=λz hz=>h z ķ;intro x c e;unfold cR at e;by_cases hy:Î=true
  .rw[Ox hy]at e;refine sD hr (λx' c' e'=>?_) x c e;exists[d,hd],h y Zn Ī;rw[hd,Option.getD_some]at e';cases hx:x'==y.1 with
   |true =>simp only[ZS,hx]at e';have e1:x'=y.1:=eq_of_beq hx;rw[e1,hd];exact e'
   |false =>simp only[ZS,hx]at e';exact ha x' c' e'
  .rw[Ow hy]at e;exact sD hr ha x c e
theorem qh:∀{names:Ñ} {acc:Ò} {x:Ŗ},(∃c,acc.lookup x=some c)->∃c,(cR env names acc).lookup x=some c
 | [],_,_,h=>h
 |y::r,acc,x,h=>by
  unfold cR;by_cases hy:Î=true
  .rw[Ox hy];refine qh ?_;cases hx:x==y.1 with
   |true=>exact#[(env.cells.lookup y.1).getD 0,by simp only[ZS,hx]]
   |false =>exists[c,e],h;exact#[c,by simp only[ZS,hx];exact e]
  .rw[Ow hy];exact qh h
theorem sB:∀{names:Ñ} {acc:Ò} {x:Ŗ},names.lookup x=some .free->∃c,(cR env names acc).lookup x=some c
 | [],_,_,h=>by simp at h
 |ś::r,acc,x,h=>by
  unfold cR;cases hx:x==n with
  |true =>
   simp only[ZS,hx]at h;have hy:į=true:=by rw[Zo h];rfl
   rw[Ox hy];exact qh #[(env.cells.lookup n).getD 0,by simp only[ZS,hx]]
  |false =>
   simp only[ZS,hx]at h;by_cases hy:į=true
   .rw[Ox hy];exact sB h
   .rw[Ow hy];exact sB h
abbrev bf(X:Cx)(scope:Ķ)(N':å)(C:OC)(s0:OD)(H0:Hp)(ex:List OC):Cx where
 prog:=X.prog
 w:=X.w
 K:=Ř
 mg:=X.mg
 base:=X.base
 A:=Ő
 N:=N'
 s₀:=s0
 H₀:=H0
 env:=compEnvC scope ö C Ç
 outer:=İ
 stack:=İ
 ex:=ex
 fn:=λ_=>false
 calm:=X.calm
 pn:=[]
 xe:=λ_ _=>False
def CapOk(X:Cx)(sc:Ķ):List Nat->List Str->Prop
 | [],[]=>True
 |j::js,x::xs=>Ŧ[j]?=some x/\sc.names.lookup x=some .free/\CapOk X sc js xs
 |_,_=>False
theorem CapOk.get:∀{js:ó} {xs:å} {i:ë} {x:Ŗ},CapOk X sc js xs->xs[i]?=some x ->
  ∃j,js[i]?=some j/\Ŧ[j]?=some x/\sc.names.lookup x=some .free
 | [],[],_,_,_,e=>by simp at e
 |j::js,y::xs,0,x,h,e=>by
  exists[h1,h2,_],h;have e':y=x:=by simpa using e
  subst e';exact#[j,rfl,h1,h2]
 |j::js,y::xs,i+1,x,h,e=>by exists[_,_,h6],h;exists[j',q],CapOk.get (i:=i) (x:=x) h6 (by simpa using e);exact#[j',by simpa using q.1,q.2]
 | [],_::_,_,_,h,_=>Į
 |_::_,[],_,_,h,_=>Į
theorem CapOk.len:∀{js:ó} {xs:å},CapOk X sc js xs->js.length=xs.length
 | [],[],_=>rfl
 |j::js,y::xs,h=>by exists[_,_,h6],h;simp[CapOk.len h6]
 | [],_::_,h=>Į
 |_::_,[],h=>Į
structure CompOk(X:Cx)(scope:Ķ)(cap:ó)(capN:å):Prop where
 kind:scope.kind=.function
 names:∀x∈Í,x.2=.local->scope.names.lookup x.1=some .local
 nocell:∀y∈Í,y.2≠.cell
 frees:(scope.names.all λy=>! Î ||(X.env.kindOf y.1==some .cell ||X.env.kindOf y.1==some .free))=true
 cap:CapOk X scope cap capN
section
variable{X:Cx}{scope:Ķ}{cap:ó}{capN:å}
theorem CompOk.around(O:Ä)(hy:y∈Í)(hf:y.2=.free):X.env.kindOf y.1=some .cell\/X.env.kindOf y.1=some .free:=by have q:=YD.mp O.frees y hy;rw[hf]at q;simpa using q
theorem CompOk.cells(O:Ä)(ok:X.Ok):∀y∈Í,y.2=.free->∃c,X.env.cells.lookup y.1=some c:=λy hy hf=>ok.has _ (O.around hy hf)
theorem CompOk.clos(O:Ä)(ok:X.Ok):closureFor scope Ç=pure ö:=G5 ō
theorem CompOk.sub(O:Ä)(ok:X.Ok):∀x c,(cR Ç Í []).lookup x=some c->X.env.cells.lookup x=some c:=sD ō λx c e=>by simp at e
theorem CompOk.has(_O:Ä)(h:scope.names.lookup x=some .free):∃c,(cR Ç Í []).lookup x=some c:=sB h
#check 0
def cZ(n:ë)(cap:ó)(Y:St):St:=List.replicate n none++cap.map (λj=>(Y[j]?).join)
theorem Az{n:ë}:(cZ n cap Y).length=n+cap.length:=by unfold cZ;rw[Zf,Xc,Zd]
theorem qL{n:ë}{i:ë}(h:Ĝ[i]?=some (some v)):n<=i/\∃j,cap[i-n]?=some j/\Y[j]?=some (some v):=by
 unfold cZ at h;by_cases hi:i<n
 .rw[List.getElem?_append_left (by simpa using hi),List.getElem?_replicate]at h;rw[Ox hi]at h;cases h
 .have hi':n<=i:=Nat.le_of_not_lt hi;rw[Ys (by simpa using hi'),Xc,Zy]at h;refine#[hi',?_];cases e:cap[i-n]? with
  |none=>rw[e]at h;cases h
  |some j =>
   rw[e]at h;refine#[j,rfl,?_];have h':(Y[j]?).join=some v:=by simpa using h
   cases q:Y[j]? with
   |none=>rw[q]at h';cases h'
   |some o =>rw[q]at h';have:o=some v:=h';rw[this]
section
variable{s:OD}{N':å}
theorem BU(I:ô)(O:Ä)(hC:Ï<=C)(hex:č):(bf X scope N' C s H ex).Ok where
 mod:=I.ok.mod
 kind:=O.kind
 glob:=I.ok.glob
 blt:=I.ok.blt
 above:=hC
 inj:=λx y c h1 h2=>I.ok.inj x y c (O.sub I.ok x c h1) (O.sub I.ok y c h2)
 has:=λx hx=>by
  have hx':(relabel scope Ç).names.lookup x=some .cell\/(relabel scope Ç).names.lookup x=some .free:=hx;have key:∀k,(relabel scope Ç).names.lookup x=some k->(k=.cell\/k=.free)->scope.names.lookup x=some .free:=λk e hk=>by
   exists[k',e',q],lQ (env:=Ç) e;rcases q with q|⟨q,_⟩
   .subst q;rcases hk with z|z
    .subst z;exact absurd rfl (O.nocell _ (Yk e'))
    .subst z;exact e'
   .subst q;exact e'
  rcases hx' with e|e
  .exact O.has (key _ e (.inl rfl))
  .exact O.has (key _ e (.inr rfl))
 cab:=λx c h _=>by cases h
 hd:=I.ok.hd
 frames:=I.ok.frames
 stk:=.inl rfl
 exf:=λb hb=>by obtain⟨⟨f0,f1,f2,f3,f4,f5⟩,lt⟩:=hex b hb;exact#[Zz (ZD lt hC),λx c e=>f4 x c û]
 bs:=I.bs
 bsz:=Zs I.ok.bsz I.sz
 noex:=λb o e hb=>by
  obtain⟨⟨f0,f1,f2,f3,f4,f5⟩,lt⟩:=hex b hb;rcases f3 with z|z
  .exact I.ok.noex b o e z
  .exact absurd (ZD Ş (Zs I.ok.bsz z)) (YE _)
 exfs:=λb hb z=>by
  obtain⟨⟨f0,f1,f2,f3,f4,f5⟩,lt⟩:=hex b hb;rcases Zg.mp (I.stkSub b z)with e|e
  .exact f1 e
  .exact f2 e
 funs:=I.stack
 frf:=I.stkFree
theorem CL(I:ô)(hb:Ï<=b):b∉frs İ:=λz=>by
 rcases Zg.mp (I.stkSub b z)with e|e
 .exact absurd (ZD I.lt hb) (by rw[e];exact YE _)
 .exact I.nofs hb e
theorem EM(I:ô)(hb:Ï<=b):∀x c,X.env.cells.lookup x=some c->c≠b:=λx c e z=>by exists[v,q],I.cell x c e;exact absurd (ZD q.lt (by rw[z];exact hb)) (YE _)
theorem AA{n:ë}{h1:Heap}{tk:ë}(I:ô)(O:Ä)(hN:N'.length=n+capN.length)(hN2:∀i x,n<=i->N'[i]?=some x->capN[i-n]?=some x)(hC:Ï<=C)(hex:č)(hk:∀b o,s.heap.get? b=some o->h1.get? b=some o)(hn:h1.Ns C m1):Inv (bf X scope N' C s H ex) [] Ĝ H { s with heap:=h1,toks:=tk }:=by
 refine#[BU I O hC hex,rfl,I.bare,Un.kept hk,#[m1,hn,λi x v e1 e2 e3=>?_],λx c e=>?_,I.hok.fresh hC,λx c e=>I.freeC x c û,λp hp=>absurd (show p∈([]:Oy)from hp) è,I.hok.kept hk,?_]
 .exists[hi,j,ej,es],qL e2;exists[j',q1,q2,qf],O.cap.get (hN2 i x hi e1);have q3:=O.around (Yk qf) rfl;have q4:=oy (env:=Ç) qf;exists[c,q5],O.has qf;have q6:=O.sub I.ok x c q5;rw[q1]at ej;cases ej;exists[m0,hn0,hl0],I.loc;exists[u,r,l],hl0 _ x v q2 es (by
   rcases q3 with z|z
   .exact .inr (.inl z)
   .exact .inr (.inr z))
  refine#[u,r,.inr #[q4,c,q5,?_]];rcases l with⟨k,_⟩|⟨_,c',e',z⟩
  .rcases q3 with z|z
   .have z':X.env.kindOf x=some .cell:=z;rw[z']at k;cases k
   .have z':X.env.kindOf x=some .free:=z;rw[z']at k;cases k
  .rw[q6]at e';cases e';exists[o,ho,hd],z;exact#[o,hk _ _ ho,hd]
 .exists[v,o,ho,hd],I.cell x c û;exact#[v,o,hk _ _ ho,hd]
 .rw[Az,O.cap.len];exact hN.symm
#check 0
def sh(X:Cx)(ifs:Ģ)(t:TT):Prop :=
 ∀(ON:Oy) (s:OD) (Y:St) (H:Hp) (Q:Bool->Hp->Prop),Inv X ON Y H s->t Y H Q ->
  wpAny Ë Ő (forIn ifs true λc r=>if r=true then do let ok ←isTrue c Ç (eval c Ç);pure (ForInStep.yield ok)else pure ī) (TP X ON Y Q) X.xe s
def ny:TT:=λ_ H Q=>Q true H
theorem E8:sh X [] ny:=λ_ _ _ H _ I h=>wpAny_tests_nil #[H,I,h]
theorem E9{t:TT}(h:PT X c t):sh X [c] t:=λON s Y H Q I hw=>wpAny_tests_one (h ON s Y H Q I hw)
def GK(n:ë)(g:TG):Prop:=∀x Y H Q,g x Y H Q->g x Y H Ù
theorem aM{n i:ë}(hi:i<n):GK n Ň:=λx Y H Q h=>#[#[Yy,λj hj=>List.getElem?_set_ne ∅],h]
def GKs(n:ë)(g:TGs):Prop:=∀xs Y H Q,g xs Y H Q->g xs Y H Ù
theorem fJ{n:ë}:GKs n nR:=λxs Y H Q h=>#[h.1,#[rfl,λ_ _=>rfl],h.2]
def GM(g:TG):Prop:=∀x Y H Q Q',ă->g x Y H Q->g x Y H Q'
def GMs(g:TGs):Prop:=∀xs Y H Q Q',ă->g xs Y H Q->g xs Y H Q'
theorem aO{i:ë}:GM Ň:=λ_ _ _ _ _ f h=>f _ _ h
theorem bE:GMs nR:=λ_ _ _ _ _ f h=>#[h.1,f _ _ h.2]
theorem bR{t:TG}(a:GM t)(b:GMs u):GMs (fX t u):=λxs Y H Q Q' f h=>by exists[v,r,e,h],h;exact#[v,r,e,a _ _ _ _ _ (λσ2 H2 z=>b _ _ _ _ _ f z) h]
theorem bp{n:ë}{t:TG}(a:GK n t)(m:GM t)(b:GKs n u)(mb:GMs u):GKs n (fX t u):=λxs Y H Q h=>by exists[v,r,e,h],h;refine#[v,r,e,m _ _ _ _ _ (λσ2 H2 z=>?_) (a _ _ _ _ h)];obtain⟨⟨l1,k1⟩,z⟩:=z;refine mb _ _ _ _ _ (λσ3 H3 w=>?_) (b _ _ _ _ z);obtain⟨⟨l2,k2⟩,w⟩:=w;exact#[#[l2.trans l1,λi hi=>(k2 i hi).trans (k1 i hi)],w]
theorem hM{n m:ë}{K:Qa}{t:TGs}(a:GKs n t):GK n (nS K m t):=λx Y H Q h=>by exists[b,xs,e,h1,h2,h3],h;exact#[b,xs,e,h1,h2,a _ _ _ _ h3]
def ir(n:ë)(cap:ó)(g:TG)(tc:TT)(te:TE)(Y:St)(J:It)(H1:Hp)(Q:VK):Prop :=
 ∃W:Nat->Nat->List V->Hp->Prop,(∃m,W 0 m [] H1)/\∀i m ys H,W i m ys H ->
  (J.stop i H/\∀p,H p=none->Q (.ref p) (upd H p ĸ)) \/
  (J.go i H/\Ĵ<sizeLine/\∀ x H',J.yld i H x H'->g x Ĝ H' λσ2 H2=>tc σ2 H2 λb H3 =>
   if b=true then te σ2 H3 λy H4=>∃ m',m'<m/\W (i+1) m' (ys++[y]) H4 else ∃ m',m'<m/\W (i+1) m' ys H3)
def vJ(n:ë)(cap:ó)(wi:TI)(g:TG)(tc:TT)(te:TE):TE:=λY H Q=>wi Y H λJ H1=>ir n cap g tc te Y J H1 Q
theorem mD{R:Result->OD->Prop}(I:Nat->OD->Prop)(turn:∀ n s,I n s->wpAny Ø A (pyNext it) (λr s₁=>match r with
   |none=>R œ s₁
   | some v=>wpAny Ø A (letOwnedTupleGo target it v) (λ_ s₁'=>wpAny Ø A (assign target env v) (λ_ s₂ =>
     wpAny Ø A (forIn ifs true λc r=>if r=true then do let ok ←isTrue c env (eval c env);pure (ForInStep.yield ok) else pure ī) (λok s₃ =>
      if ok=true then wpAny Ø A (eval elt env) (λx s₄ =>
       wpAny Ø A (call (.builtin "list.append") [acc,x]) (λ_ s₅=>∃ m,m<n/\I m s₅) Ý s₄) Ý s₃
      else ∃ m,m<n/\I m s₃) Ý s₂) Ý s₁') Ý s₁) Ý s)(n:ë)(h:I n s):
  codeAny Ø A (.compLoop é 0 it acc env) R s:=by
 refine codeAny_loop rfl I (λn s hI=>?_) n h;show wpAny _ A ((compTurn é 0 it acc env).onRaise (λx=>do noteFrame x env;theTreesLotGoes x)) _ _ s;refine wpAny_noted (wpAny_noRaise ?_);rw[compTurn_list];refine z9 (wpAny_standAt (z9 (ZQ (turn n s hI) (λr s₁ h₁=>?_) λ_ _ h'=>h')));cases r with
 |none=>exact Za h₁
 |some v =>
  refine z9 (ZQ h₁ (λ_ s₁' h₁'=>?_) λ_ _ h'=>h');refine z9 (ZQ h₁' (λ_ s₂ h₂=>z9 (ZQ h₂ (λok s₃ h₃=>?_) λ_ _ h'=>h')) λ_ _ h'=>h');cases ok with
  |false=>exact Za #[rfl,h₃]
  |true =>exact z9 (z9 (ZQ h₃ (λx s₄ h₄=>z9 (ZQ h₄ (λ_ s₅ h₅=>Za (Za #[rfl,h₅])) λ_ _ h'=>h')) λ_ _ h'=>h'))
theorem Ib{own capN:å}:∀(i:ë) (x:Ŗ),Ì<=i->Ŕ[i]?=some x->capN[i-Ì]?=some x:=λi x hi e=>by rw[Ys hi]at e;exact e
section
variable{X:Cx}{scope:Ķ}
abbrev iZ(its:OB)(nn:ë):Obj:={ cls:=.type "list",data:=.seq ő nn }
theorem uk{RR:OE->OC->Result->OD->Prop}(O:Ä)(hc:Ú)(hg:ê)(gk:ģ)(ht:æ)(he:ç)(I2:Inv X ON Y H2 s2)(T:Turn X.prog X.w Ř tg J fp it tn)(st2:tn 0 s2.heap)(f2:∀b∈fp,bQ X ON H2 b)(hq:ir Ì cap g tc te Y J H2 Q)(fin:∀(D C:OC) (s4:OD) (H4:Hp) (ys:Ŋ),Inv X ON Y ñ s4->(∃m,s4.heap.Ns C m)->bQ X ON ñ C->Q đ ñ->RR đ C œ s4):
  wpAny Ë Ő Ŏ (λacc s₃=>wpAny Ë Ő (newFunctionEnv scope X.env.globals ö [] X.env.qual none .none (some Ç)) (λcenv s₄ =>
   codeAny Ë Ő (.compStart Â 0 Š acc { cenv with scope:=relabel scope Ç }) (RR acc cenv.locals) s₄) E s₃) E s2:=by
 obtain⟨W,⟨m0,w0⟩,turn⟩:=hq;refine ZR (wpAny_newFunctionEnv O.nocell (by intro y hy;simp at hy) (λh₁ hns₁ hsb₁=>?_) O.kind);dsimp only at hns₁ hsb₁ ⊢;generalize hHp:s2.heap.push { cls:=.type "list",dict:=none,data:=.seq ([]:OB).toArray }=Hp2 at hns₁ hsb₁ ⊢;have hC:Hp2.objs.size=È+1:=by rw[<-hHp,Y3]
 have hDC:È≠Hp2.objs.size:=by rw[hC];exact Zz (YC _)
 have hCle:È<=Hp2.objs.size:=by rw[hC];exact YR _
 have below:∀b,b<È->b≠Hp2.objs.size/\b≠È:=λb hb=>#[by rw[hC];exact Zz (Xe hb),Zz hb]
 have old:∀b o,s2.heap.get? b=some o->h₁.get? b=some o:=λb o e=>hsb₁.extBut b o (below b Ş).1 (Zb _ (hHp▸Zb _ e));have hacc:h₁.get? È=some (iZ [] 0):=hsb₁.extBut _ _ hDC (Zb _ (hHp▸Zl _ rfl));generalize hDe:È=D at *;generalize hCe:Hp2.objs.size=C at *;have hfpl:∀b∈fp,b<È:=λb hb=>by exists[o,e,_],T.obj _ _ st2 b hb;exact Zq e
 have hex:∀b∈fp,bQ X ON H2 b/\b<È:=λb hb=>#[f2 b hb,hfpl b hb]
 have hCle':È<=C:=by rw[hDe];exact hCle
 have hDle:È<=D:=by rw[hDe];exact Zi _
 have hDfp:∀b∈fp,D≠b:=λb hb z=>by have:=hfpl b hb;rw[<-z]at this;exact absurd this (Nat.not_lt.mpr hDle)
 have I0:∀tk,Inv Ã [] Ĕ H2 { s2 with heap:=h₁,toks:=tk }:=λtk=>AA I2 O è Ib hCle' hex old hns₁;have Dst:D∉frs İ:=CL I2 hDle;have Dcell:∀x c,(bf X scope Ŕ C s2 H2 fp).env.cells.lookup x=some c->c≠D:=λx c e=>EM I2 hDle x c Ĭ;have pinD:∀{σ':St} {H':Hp} {s':OD} {its:OB} {nn:ë},Inv Ã [] σ' H' s'->s'.heap.get? D=some ŕ->H' D=none->Inv Ã [Ó] σ' H' s':=fun{σ' H' s' its nn} I e hn =>
  I.pins_of λp hp=>by
   have z:p=Ó:=by simpa using hp
   subst z;exact#[e,hn,hDC,Dst,λv q=>by cases q]
 have loop:∀s₃:OD,s₃={ s2 with heap:=h₁,toks:=s2.toks+([]:List (Str×OE)).length } ->
   codeAny Ë Ő (.compLoop Â 0 Š đ (compEnvC scope ö C Ç)) (RR đ C) s₃:=by
  rintro s₃ rfl;refine mD (λk s'=>∃(i:ë) (ys:Ŋ) (its:OB) (nn:ë) (H':Hp),Inv Ã [Ó] Ĕ H' s'/\tn i s'.heap/\ĝ/\Vals ys its/\Ĵ<=sizeLine/\W i k ys H') ?_ m0
   #[0,[],[],0,H2,pinD (I0 _) hacc (I2.hok.fresh hDle),T.keep _ _ _ st2 ĕ,λb hb=>(f2 b hb).1,.nil,ZL _,w0]
  rintro k s3 ⟨i,ys,its,nn,H3,I3,st3,fr3,rv,hz,w3⟩;have oD3:s3.heap.get? D=some ŕ:=(I3.pin Ó è).1;have fpY:∀{H':Hp},ĝ->∀b∈fp,bQ Ã [Ó] H' b:=fun{H'} hn b hb=>by
   exists[f0,f1,g2,f3,f4,f5],f2 b hb;refine#[hn b hb,Zz (ZD (hfpl b hb) hCle'),λz=>?_,.inl hb,λx c e=>f4 x c Ĭ,λp hp=>?_]
   .rcases Zg.mp (I2.stkSub b z)with e|e
    .exact f1 e
    .exact g2 e
   .have z:p=Ó:=by simpa[bf]using hp
    subst z;exact hDfp b hb
  rcases turn i k ys H3 w3 with⟨stop,qn⟩|⟨go,hlt,step⟩
  .refine thn (T.done Ã rfl rfl rfl hc i _ s3 _ H3 _ I3 š st3 stop) λr s4 ⟨hr,I4⟩=>?_;subst hr;exists[oD,nD,_],I4.pin Ó è;have neD:∀{b:OC} {u:HO},H3 b=some u->b≠D:=fun{b u} e=>aj e nD;have JX:Inv X ON Y (upd H3 D ĸ) s4:=by
    refine I2.call' (ch:=fp) I4.os #[I4.base.keep,I4.base.slot,λb o e nb hx=>?_,I4.base.there,λb xs e=>?_,λb o u e=>?_,λb ps e=>?_] (λb u e=>?_) I4.bare (λb hb=>?_)
    .rw[af (by rw[<-hDe];exact Zz Ş)];exact I4.base.free b o e nb hx
    .have q:=I4.base.tups b xs e;rw[af Ĥ];exact q
    .have q:=I4.base.frzs b o u e;rw[af Ĥ];exact q
    .exists[more,q],I4.base.tbls b ps e;exact#[more,by rw[af Ĥ];exact q]
    .by_cases hb:b=D
     .subst hb;rw[ac]at e;cases e;exact#[hz,its,nn,rv,oD]
     .rw[af hb]at e;exact(I4.hok b u e).stay (λ_ _ _ q=>q) (λc q=>by rw[af Ĥ];exact q) λc xs q=>by rw[af Ĥ];exact q
    .exists[f0,f1,g2,f3,f4,f5],f2 b hb;exact#[f3,f1,f4,f5]
   exists[m4,hn4,_],I4.loc;refine fin D C s4 H3 ys JX #[m4,hn4] ?_ (qn D nD);refine I2.fpOk (b:=C) hCle' ?_;rw[af (ZO hDC)];exact I4.free
  .refine thn (T.item Ã rfl rfl rfl hc i _ s3 _ H3 _ I3 š st3 go) λr s4 ⟨u,hr,h4⟩=>?_;subst hr;refine thn h4 λ_ s5 hz9=>?_;exists[x,H5,I5,r5,y5,st5,fr5],hz9;have I5':=I5.pinned (fpY fr5) (T.obj _ _ st5);refine thn (hg C s2 H2 fp _ s5 _ H5 x u _ I5' r5 (gk _ _ _ _ (step x H5 y5))) λ_ s6 hz9=>?_;obtain⟨σ6,H6,I6,⟨l6,k6⟩,q6⟩:=hz9;refine thn (ht C s2 H2 fp _ s6 σ6 H6 _ I6 q6) λok s7 ⟨H7,I7,q7⟩=>?_;have wk:∀{H8:Hp} {s8:OD} {pl:Oy},Inv Ã pl σ6 H8 s8->Inv Ã pl Ĕ H8 s8:=λI=>I.weak l6.symm λj v e=>by exists[hj,_],qL e;rw[k6 j hj];exact e
   have tn8:∀{σ8:St} {H8:Hp} {s8:OD},Inv Ã ([Ó]++ow fp s5.heap) σ8 H8 s8->(∀b∈fp,∀o,s5.heap.get? b=some o->s8.heap.get? b=some o)/\∀b∈fp,H8 b=none:=fun{σ8 H8 s8} I=>by refine#[λb hb o e=>(I.pin (b,o) Ė).1,λb hb=>?_];exists[o,e,d],T.obj _ _ st5 b hb;exact(I.pin (b,o) Ė).2.1
   cases ok with
   |false =>rw[Ow Zx]at q7 ⊢;exists[m',hm,w7],q7;exists[t1,t2],tn8 I7;exact#[m',hm,i+1,ys,its,nn,H7,wk I7.unpinned,T.keep _ _ _ st5 t1,t2,rv,hz,w7]
   |true =>
    rw[Ox rfl]at q7 ⊢;refine thn (he C s2 H2 fp _ s7 σ6 H7 _ I7 q7) λy s8 hz9=>?_;exists[yv,H8,I8,r8,m',hm,w8],hz9;exists[t1,t2],tn8 I8;exists[oD,nD,_],I8.pin Ó è;have hil:=rv.length;refine call_meets F.slot_list_append #[_,oD,rfl] F.entry_list_append (F.args_list_append_2 _ _) (PySem.list_append D ő nn y (by rw[Zk];omega)) #[oD,?_];have q:=PySem.IsL.update oD (λx_1=>x_1.push y);have hf:its.toArray.push y=(its++[y]).toArray:=by simp
    rw[hf]at q;have keepO:∀b o,b≠D->s8.heap.get? b=some o->(s8.heap.update D à).get? b=some o:=λb o hb e=>(Yd s8.heap à (ZO hb)).trans e;have I9:Inv Ã [] σ6 H8 { s8 with heap:=s8.heap.update D à,toks:=s8.toks } :=
     (I8.pins_of (pins':=[]) λp hp=>absurd hp è).turned (it:=D) keepO nD hDC (.inr hDle) Dcell (λp hp=>absurd (show p∈([]:Oy)from hp) è)
    refine#[m',hm,i+1,ys++[yv],its++[y],_,H8,wk (pinD I9 q nD),T.keep _ _ _ st5 (λb hb o e=>keepO b o (ZO (hDfp b hb)) (t1 b hb o e)),t2,rv.append (.cons r8 .nil),?_,w8];rw[Zf,YA];omega
 exact codeAny_compStart_list ŏ (T.self _ 0 _ _ _ (T.keep _ _ _ st2 ĕ) ŏ)
theorem Ih(O:Ä)(hc:Ú)(hi:ń)(hg:ê)(gk:ģ)(ht:æ)(he:ç)(hs:∀x,foldedSetIterable iter Ç x=pure x:=by intro _;rfl):PE X Â Ü:=by intro ON s Y H Q I h;rw[eval_ListComp];refine wpAny_comprehension_free (use:=none) rfl hs ň O.kind O.names Þ;exists[it,fp,tn,J,H2,e,I2,T,st2,f2,hq],h2;subst e;refine uk (RR:=λacc C=>compPost Ë Ő X.xe none (EP X ON Y Q) acc C) O hc hg gk ht he I2 T st2 f2 hq λD C s4 H4 ys J4 hn4 fC q4=>?_;exists[m,hn],hn4;exists[f0,f1,g2,f3,f4,f5],fC;exact#[m,hn,λh' sb=>#[.ref D,_,J4.turned (t':=s4.toks) ü f0 f1 f3 f4 f5,rfl,q4]]
theorem Iy{j:ë}{py spos:Pos}(hN0:ē)(hj:Ŧ[j]?=some y)(hy:Loc ï y)(O:Ä)(hc:Ú)(hi:ń)(hg:ê)(gk:ģ)(ht:æ)(he:ç)(hsw:swapsWith Â Ţ ŝ Ç=pure true:=by rfl)(hs:∀x,foldedSetIterable iter Ç x=pure x:=by intro _;rfl)(hf:X.fn y=true\/X.env.scope.names.lookup y=some .local:=by first|exact .inl rfl|exact .inr rfl|assumption):
  PS X Ą Ł:=by
 intro ON s Y H D0 I h;rw[exec_Assign_Name_used _ _ _ _ hsw];refine z9 (wpAny_standAt (z9 ?_));show wpAny _ Ő (do let _ ←comprehension Â scope Ç _ Ŏ false (eval iter Ç) ţ) _ _ s;refine z9 (ZQ (wpAny_comprehension_free (use:=some ď) (Q:=λ_ s'=>SP X ON D0 .next s') rfl hs ň O.kind O.names Þ) (λ_ s' hq=>Za (Za hq)) λ_ _ e=>e);exists[it,fp,tn,J,H2,e,I2,T,st2,f2,hq],h2;subst e;refine uk (RR:=λacc C=>compPost Ë Ő X.xe ţ (λ_ s'=>SP X ON D0 .next s') acc C) O hc hg gk ht he I2 T st2 f2 hq λD C s4 H4 ys J4 hn4 fC q4=>?_;exists[m,hn],hn4;exists[f0,f1,g2,f3,f4,f5],fC;show wpAny _ Ő (assign ã Ç đ) _ _ _;refine wpAny_assign_Name (uM J4 hN0 hj hy (v:=.ref D) rfl (λs5 I5 ⟨a,sba,ha⟩=>?_) hf);have hCa:C≠a:=by
  rcases ha with z|z
  .rw[z];exact f1
  .exact ZO (f4 _ _ z)
 refine#[m,hn.sameBut sba hCa,λh' sb=>?_];exact#[_,_,I5.turned (t':=s5.toks) ü f0 f1 f3 f4 f5,q4]
#check 0
structure Fn(P:OF)(w:OG)(K:Qa)(mg:OA)(base:Heap)(k:ë)(x:Ŗ)(ps:å)(sp:Sp):Prop where
 ex:∃f fd,FnOk P w K mg base CX0 k f fd ps sp/\mg x=some ĩ/\W.keepIn K ĩ=true/\Binds K fd ps []
section
variable{X:Cx}{k:ë}{e:OM}{t:TA}
theorem L9(F:Ö)(hr:ĳ)(ha:ě)(hg:Gl X x:=by rfl)(hdb:Æ=false:=by decide)(he:starEach á Ç=(false,eval e Ç)::starEach es Ç:=by rfl)(hpl:(backTo pos (starEach es Ç)).any (·.1)=false:=by rfl) :
  PE X Å ĉ:=by
 exists[f,fd,G,m,kp,b],F.ex;exact Ie G hr hg m kp b .nil mT ha hdb he hpl
#check 0
theorem qJ:bootBuiltins "isinstance" = some í:=⋯
theorem wj:bootBuiltins "max" = some ĵ:=⋯
theorem Av:bootBuiltins "tuple" = some Ļ:=⋯
theorem gP:bootBuiltins "list" = some ł:=⋯
section
theorem D8:dR X í Ð:=by intro ON s Y H xs us Q I r h;exists[x,T,t,b,rfl,ty,e,q],h;exists[u,w',rfl,rx,ry],pJ r;cases(show w'=Value.type T from ry);exact Cq I rx ty e λtk=>#[.bl b,H,I.tok tk,rfl,q]
#check 0
theorem ad{H:Hp}(h:H p=none)(o:HO):Same H (upd H p o):=λb u q=>by rw[af (aj q h)];exact q
theorem fF{n:ë}(h:n<=1000):n<=sizeLine:=Nat.le_of_lt (aU h)
theorem sz{n:ë}(h:Nat.ble n 1000=true):n<=sizeLine:=fF (Nat.le_of_ble_eq_true h)
theorem BV{J:It}{N n:ë}{te:TE}{Q:VK}(x0 f:Nat->V)(hz:N<=1000)(hgo:∀i H,i<N->Same H0 H->J.go i H)(hst:∀H,Same H0 H->J.stop N H)(hy:∀i H x H',i<N->Same H0 H->J.yld i H x H'->H'=H/\x=x0 i)(he:∀i H,i<N->Same H0 H->∀R:VK,ą->te ((cZ n cap Y).set 0 (some (x0 i))) H R)(hq:Õ):ir n cap (ce 0) ny te Y J H0 Q:=by
 refine#[λi m ys H=>m=N-i/\i<=N/\Same H0 H/\ys=(List.range i).map f,#[N,by simp,ZL _,Same.refl _,rfl],?_];rintro i m ys H ⟨rfl,hi,sm,rfl⟩;by_cases hlt:i<N
 .refine .inr #[hgo i H hlt sm,?_,λx H' y=>?_]
  .rw[Zd,YW];exact aU ∅
  .exists[e1,e2],hy i H x H' hlt sm y;subst e1 e2;refine he i H' hlt sm _ λH4 sm4=>#[N-(i+1),∅,rfl,hlt,sm.trans sm4,?_]
   rw[List.range_succ,ZA];rfl
 .have e:i=N:=∅
  subst e;exact .inl #[hst H sm,λp hp=>hq p H sm hp]
theorem qM{N n:ë}{lo:Int}{te:TE}{Q:VK}(f:Nat->V)(hz:N<=1000)(he:∀i H,i<N->Same H0 H->∀R:VK,ą->te ((cZ n cap Y).set 0 (some (.int (lo+i)))) H R)(hq:Õ):ir n cap (ce 0) ny te Y (Itr lo N) H0 Q :=
 BV (N:=N) (λi=>.int (lo+i)) f hz (λ_ _ hi _=>hi) (λ_ _=>Zi N) (λ_ _ _ _ _ _ y=>y) he hq
def aS:OM->Bool
 |.Starred _ _=>false
 |_=>true
theorem aV(h:aS e=true):starEach á env=(false,eval e env)::starEach es env:=by cases e<;>first|rfl|cases h
theorem bP:∀{es:Ģ},es.all aS=true->(backTo pos Ĳ).any (·.1)=false
 | [],_=>rfl
 |e::es,h=>by rw[YY,ZK]at h;rw[aV h.1];show(false ||(backTo pos Ĳ).any (·.1))=false;rw[Bool.false_or];exact bP h.2
section
variable{X:Cx}{e:OM}{t:TA}{id:String}{k:ë}
theorem pa(ha:PE X e te)(hr:PA X es t)(hs:aS e=true:=by rfl):PA X á Ť:=zA ha hr (aV hs)
theorem pB(hc:dR X ø r)(hm:õ)(hv:ĥ)(ha:ě)(hg:Gl X x:=by rfl)(hs:(e::es).all aS=true:=by rfl)(hn:x≠"__name__":=by decide)(hdb:Æ=false:=by decide) :
  PE X Å Ě:=by
 rw[YY,ZK]at hs;exact EZ hc hg hm hv ha hn hdb Ĺ ĺ
theorem pTy(hc:dR X ť r)(hm:õ)(hv:â)(ha:ě)(hg:Gl X x:=by rfl)(hs:(e::es).all aS=true:=by rfl)(hn:x≠"__name__":=by decide)(hdb:Æ=false:=by decide) :
  PE X Å Ě:=by
 rw[YY,ZK]at hs;exact C8 hc hg hm hv ha hn hdb Ĺ ĺ
theorem pfn(F:Ö)(hr:ĳ)(ha:ě)(hg:Gl X x:=by rfl)(hs:(e::es).all aS=true:=by rfl)(hdb:Æ=false:=by decide) :
  PE X Å ĉ:=by
 rw[YY,ZK]at hs;exact L9 F hr ha hg hdb Ĺ ĺ
#check 0
structure QE(X:Cx)(e:OM)(t:TE):Prop where
 h:PE X e t
structure QT(X:Cx)(e:OM)(t:TT):Prop where
 h:PT X e t
structure QW(X:Cx)(e:OM)(t:TT):Prop where
 h:PW X e t
structure QA(X:Cx)(es:Ģ)(t:TA):Prop where
 h:PA X es t
structure QS(X:Cx)(st:Ġ)(t:TS):Prop where
 h:PS X st t
structure QB(X:Cx)(st:List Stmt)(t:TS):Prop where
 h:PSs X st t
structure QG(X:Cx)(tg:OM)(g:TG):Prop where
 h:PG X tg g
structure QGs(X:Cx)(ts:Ģ)(g:TGs):Prop where
 h:PGs X ts g
structure QI(X:Cx)(tg iter:OM)(wi:TI):Prop where
 h:PI X tg iter wi
structure QIf(X:Cx)(ifs:Ģ)(t:TT):Prop where
 h:sh X ifs t
structure QO(X:Cx)(e:Option OM)(t:TO):Prop where
 h:PO X e t
structure QOp(X:Cx)(f:OE->OE->Sem OE)(r:R2):Prop where
 h:OpR X f r
structure QCall(X:Cx)(f:OE)(r:List V->Hp->VK->Prop):Prop where
 h:dR X f r
structure QIx(X:Cx)(r:R2):Prop where
 h:IxR X r
structure QSl(X:Cx)(r:V->Option Int->Option Int->Hp->VK->Prop):Prop where
 h:SlR X r
structure QSet(X:Cx)(t:vZ):Prop where
 h:DW X t
structure QUn(X:Cx)(f:OE->Sem OE)(r:V->Hp->VK->Prop):Prop where
 h:UnR X f r
structure QIp(X:Cx)(op:Operator)(t:TIp):Prop where
 h:PIp X op t
section
variable{X:Cx}{pos:Pos}{e a b:OM}{t:TA}{x:Ŗ}
theorem q_v(i:ë){x:Ŗ}{pos:Pos}(hN:Ŧ[i]?=some x:=by rfl)(hv:Vis ï x:=by first|exact Or.inl rfl|exact Or.inr (Or.inl rfl)|exact Or.inr (Or.inr rfl))(hd:Æ=false:=by decide)(hcd:(x==("__classdict__":Str))=false:=by decide):QE X ù (tVar i):=#[KF hN hv hd hcd]
theorem ai{i:Int}{j:ë}:QE X (.Constant Ņ j pos) (tC Ņ):=#[Ky]
theorem lh{i:Bool}{j:ë}:QE X (.Constant (.bool i) j pos) (tC (.bl i)):=#[L8]
theorem bX{j:ë}:QE X (.Constant .none j pos) (tC .non):=#[KA]
theorem ar{i:Ŗ}{j:ë}:QE X (.Constant (.str i) j pos) (tC (.str i)):=#[KD]
theorem MW(hm:õ)(hv:â)(hg:Gl X x:=by rfl)(hn:x≠"__name__":=by decide)(hd:Æ=false:=by decide):QE X ù (tC (.ty T)):=#[Id hg hm hv rfl hn hd]
theorem gI{i:Int}(hm:X.mg x=some (.int i tk))(hg:Gl X x:=by rfl)(hd:Æ=false:=by decide):QE X ù (tC Ņ):=#[sW hg hm #[_,rfl] hd]
theorem aK(ho:QOp X (binaryOp op) r)(ha:Û)(hb:Ć):QE X (.BinOp a op b pos) ú:=#[Mb ř ð ę]
theorem qv(ho:QUn X (unaryOp op) r)(ha:Û):QE X (.UnaryOp op a pos) (tUn r ta):=#[Md ř ð]
theorem iM{op}(h:Û):QE X (.BoolOp op [a] pos) ta:=#[KC ŋ]
theorem il(ha:Û)(hb:QE X Ĉ tb):QE X Ğ (Br ta tb):=#[Ku ð ę]
theorem MX(ha:Û)(hb:QE X Ċ tb):QE X ħ (Lo ta tb):=#[Mc ð ę]
theorem Bf(ha:Û):QE X ğ (GI ta):=#[KB ð]
theorem cG(ho:Ħ)(ha:Û)(hb:Ć)(hm:behindInMarks op b=false:=by first|exact CJ _|with_unfolding_all rfl):QE X Đ ú:=#[Ig ř ð ę hm]
theorem Be(hc:QT X c tA)(ha:Û)(hb:Ć):QE X (.IfExp c a b pos) (tIf tA ta tb):=#[E2 Ś ð ę]
theorem bA(h:ľ):QE X (.List es pos) (Ll t):=#[Kz ŋ]
theorem aD{x1}(h:ľ):QE X (.Tuple es x1 pos) (Ls t):=#[KE ŋ]
theorem am(hr:QIx X r)(ha:Û)(hb:Ć)(hs:yQ b:=by intro _ _;rfl):QE X (.Subscript a b pos) ú:=#[Ma hr.h ð ę hs]
theorem eE{lo hi:Option OM}(hr:QSl X r)(he:ä)(hl:QO X lo tl)(hu:QO X hi th):QE X (.Subscript e (.Slice lo hi none p2) pos) (tSl r te tl th):=#[E5 hr.h he.h hl.h hu.h]
theorem eV:QO X none zX:=#[Iu]
theorem dW(h:ä):QO X (some e) (GJ te):=#[Iv ŋ]
theorem ah:QA X [] gN:=#[rE]
theorem q_a(ha:ä)(hr:ľ)(hs:aS e=true:=by rfl):QA X á Ť:=#[pa ð hr.h hs]
theorem q_B{id:String}(hc:QCall X ø r)(hm:õ)(hv:ĥ)(ha:Ŀ)(hg:Gl X x:=by rfl)(hs:(e::es).all aS=true:=by rfl)(hn:x≠"__name__":=by decide)(hdb:Æ=false:=by decide):
  QE X Å Ě:=#[pB Ś hm hv ð hg hs hn hdb]
theorem mU(hc:QCall X ť r)(hm:õ)(hv:â)(ha:Ŀ)(hg:Gl X x:=by rfl)(hs:(e::es).all aS=true:=by rfl)(hn:x≠"__name__":=by decide)(hdb:Æ=false:=by decide):
  QE X Å Ě:=#[pTy Ś hm hv ð hg hs hn hdb]
theorem aI{k:ë}(F:Ö)(hr:ĳ)(ha:Ŀ)(hg:Gl X x:=by rfl)(hs:(e::es).all aS=true:=by rfl)(hdb:Æ=false:=by decide):
  QE X Å ĉ:=#[pfn F hr ð hg hs hdb]
theorem aE(ho:Ħ)(ha:Û)(hb:Ć)(hm:behindInMarks op b=false:=by first|exact CJ _|with_unfolding_all rfl):QT X Đ (vK ú):=#[IB ř ð ę hm]
theorem By(ha:ć):QT X ğ (Ln tA):=#[KP ð]
theorem dS(h:ä)(he:∀whole,isTrue e Ç whole=(do let v ←whole;standAt e.pos;holding [v] (truthy v)):=by intro _;rfl):QT X e (tB te):=#[KQ ŋ he]
theorem eO(ha:ć):QW X (.BoolOp .And [a] pos) tA:=#[IC ð]
theorem rW(ha:ć):QW X (.BoolOp .Or [a] pos) tA:=#[KU ð]
theorem fg(ha:ć)(hb:QW X Ĉ tB'):QW X Ğ (FI tA tB'):=#[KS ð ę]
theorem yq(ha:ć)(hb:QW X Ċ tB'):QW X ħ (tOr tA tB'):=#[Mh ð ę]
theorem t_w(h:QW X e tA):QT X e tA:=#[h.h.pt]
#check 0
section
variable{X:Cx}{pos:Pos}
theorem aw{i:ë}(hN:ē)(hi:Ŧ[i]?=some x:=by rfl)(hx:Loc ï x:=by first|exact Or.inl rfl|exact Or.inr rfl)(hf:X.fn x=true\/X.env.scope.names.lookup x=some .local:=by first|exact .inl rfl|exact .inr rfl):QG X ù Ň:=#[Il hN hi hx hf]
theorem fj:QGs X [] nR:=#[Im]
theorem bC(h1:QG X e g)(h2:Ŝ)(hs:(assignEach á Ç).map (·.2)=assign e Ç::(assignEach es Ç).map (·.2):=by rfl):QGs X á (fX g gs):=#[E6 h1.h h2.h hs]
theorem jl{k n:ë}(hc:Ú)(h:Ŝ)(hn:(assignEach es Ç).length=n:=by rfl)(hst:(assignEach es Ç).findIdx? (·.1)=none:=by rfl):QG X (.Tuple es k pos) (nS Ř n gs):=#[KH hc ŋ hn hst]
theorem Gb{o i:OM}{t:vZ}(ho:QE X o to)(hi:QE X i ti)(hs:QSet X t)(ha:∀ v,assign Ĩ Ç v=(do
   let ov ←holding [v] (eval o Ç)
   let iv ←holding [v,ov] (eval i Ç)
   standAt pos
   holding [v,ov,iv] (setItem ov iv v)
   release [v,ov,iv] []):=by intro _;rfl):QG X Ĩ (JK to ti t):=#[KG ř ŧ hs.h ha]
theorem bD(hl:QE X l te):QI X tg l (Gf Ř te):=#[Ip hl.h]
theorem wZ(hm:X.mg "range" = none)(ha:QA X [a] ta)(hg:Gl X "range":=by rfl)(hs:aS a=true:=by rfl):QI X tg (.Call (.Name "range" p) [a] [] pos) (Gg ta):=#[C9 hg hm ð (aV hs)]
theorem hV:QIf X [] ny:=#[E8]
theorem kQ{t:TT}(h:QT X c t):QIf X [c] t:=#[E9 ŋ]
theorem de(O:Ä)(hc:Ú)(hi:ċ)(hg:ė)(gk:ģ)(ht:Ď)(he:Ē)(hs:∀x,foldedSetIterable iter Ç x=pure x:=by intro _;rfl):QE X Â Ü :=
 #[Ih O hc ŧ ý gk þ ÿ hs]
variable{st:Ġ}{t:TS}
theorem b_0:QB X [] jq:=#[Iz]
theorem b_1(h:QS X st t):QB X [st] t:=#[IA ŋ]
theorem b_c(h1:QS X st t)(h2:QB X rest u):QB X (st::rest) (Bv t u):=#[Fc h1.h h2.h]
theorem ax(h:ä):QS X (.Return (some e) pos) (Lp te):=#[KN ŋ]
theorem bu(h:ä)(hs:swapsWith e none ŀ Ç=pure false:=by rfl):QS X (.Expr e pos) (Bt te):=#[Ix ŋ hs]
theorem aT(hc:QT X c tc)(ht:ĭ)(hu:QB X els u):QS X (.If c body els pos) (Lk tc t u):=#[Mg Ś ht.h hu.h]
theorem aA{i:ë}(hN:ē)(he:ä)(hi:Ŧ[i]?=some x:=by rfl)(hx:Loc ï x:=by first|exact Or.inl rfl|exact Or.inr rfl)(hs:swapsWith e (some (.Name x pos')) ŀ Ç=pure false:=by rfl)(hf:X.fn x=true\/X.env.scope.names.lookup x=some .local:=by first|exact .inl rfl|exact .inr rfl):QS X (.Assign [.Name x pos'] e pos) (qC te Ň):=#[KO hN hi hx he.h hs hf]
theorem iU{j:ë}{py spos:Pos}(hN0:ē)(O:Ä)(hc:Ú)(hi:ċ)(hg:ė)(gk:ģ)(ht:Ď)(he:Ē)(hj:Ŧ[j]?=some y:=by rfl)(hy:Loc ï y:=by first|exact Or.inl rfl|exact Or.inr rfl)(hsw:swapsWith Â Ţ ŝ Ç=pure true:=by rfl)(hs:∀x,foldedSetIterable iter Ç x=pure x:=by intro _;rfl)(hf:X.fn y=true\/X.env.scope.names.lookup y=some .local:=by first|exact .inl rfl|exact .inr rfl):
  QS X Ą Ł :=
 #[Iy hN0 hj hy O hc ŧ ý gk þ ÿ hsw hs hf]
theorem GB(he:ä)(hg:QG X tg g)(hs:swapsWithSole [tg] e ŀ Ç=pure false:=by rfl)(hw:swappedStores [tg] e Ç=pure none:=by rfl)(h1:(assignEach [tg] Ç).map (·.2)=[assign tg Ç]:=by rfl):QS X (.Assign [tg] e pos) (qC te g):=#[KK he.h hg.h hs hw h1]
theorem dG(hp:Ę)(hc:Ú)(hi:ċ)(hg:QG X tg g)(hb:ĭ)(hs:∀x,foldedSetIterable iter Ç x=pure x:=by intro _;rfl):QS X (.For tg iter body [] pos) (Lj wi g t):=#[KM hp hc ŧ hg.h ę hs]
theorem tJ(hp:Ę)(hc:QT X c tc)(hb:ĭ):QS X (.While c body [] pos) (yi tc t):=#[Fb hp Ś ę]
#check 0
theorem Fun.okQ{K:Qa}{st:Ġ}{k:ë}{sp:Sp}(F:ò)(S:Ń)(len:ì)(hbody:∀ (cdv:OE) (A:OH) (outer:List Env) (s:OD) (H:Hp) (vs:Ŋ) (Q:VK) (E:XK),Room k î->sp vs H Q E ->
   ∃ t,QB (gG CX0 P w K mg base N qual ġ f cdv A outer s H E).nox Œ t/\t { nx:=λ_ H'=>Q .non H',rt:=Q } Ō H):↑FnOk CX0 (k+1) f fd ps sp :=
 F.ok S len λcdv A outer s H vs Q E hr hsp=>let⟨t,h,q⟩:=hbody cdv A outer s H vs Q E hr hsp;#[t,ŋ,q]
section
variable{X:Cx}
theorem ge:QOp X ļ (rI0 λi j=>.int (i+j)):=#[Kj]
theorem AV:QOp X (binaryOp .Sub) (rI0 λi j=>.int (i-j)):=#[Kq]
theorem mR:QOp X (binaryOp .Mult) (rI CMul λi j=>.int (i*j)):=#[Ko]
theorem eK:QOp X (binaryOp .FloorDiv) (rI Jk λi j=>.int (i / j)):=#[HX]
theorem cS:QOp X (binaryOp .Mod) (rI (λ_ j=>0<j) λi j=>.int (i%j)):=#[Kn]
theorem vG:QOp X ļ rCat:=#[Kk]
theorem bO:QOp X (compareOp .Eq) rEq:=#[LY]
theorem AU:QOp X (compareOp .Lt) (rI0 λi j=>.bl (decide (i<j))):=#[L5]
theorem MV:QOp X (compareOp .LtE) (rI0 λi j=>.bl (decide (i<=j))):=#[L4]
theorem xC:QOp X (compareOp .Gt) (rI0 λi j=>.bl (decide (j<i))):=#[L1]
theorem EQ:QOp X (compareOp .GtE) (rI0 λi j=>.bl (decide (j<=i))):=#[L0]
theorem Gp:QOp X (compareOp .Is) (λx y H Q=>y=.non/\Q (.bl (decide (x=.non))) H):=#[Km]
theorem iR:QOp X (compareOp .IsNot) (λx y H Q=>y=.non/\Q (.bl (!decide (x=.non))) H):=#[HY]
theorem nC:QUn X (unaryOp .USub) (rU λi=>.int (-i)):=#[Lu]
theorem bV:QIx X (rIxL Ř):=#[Hv]
theorem ao:QIx X (rIxT Ř):=#[JU]
theorem xp:QSl X (rSlL Ř):=#[IQ]
theorem GE:QSet X Gx:=#[FB]
theorem gX:QCall X (.builtin "len") (λxs H Q=>∃p ys,xs=[.ref p]/\Ā/\Q (.int Ĵ) H):=#[wn]
theorem LE:QCall X í Ð:=#[D8]
theorem F8(hc:Ú):QCall X ĵ (λxs H Q=>∃i j,xs=[.int i,.int j]/\Q (.int (if j>i then j else i)) H):=#[BS hc]
theorem LF:QCall X Ļ (λxs H Q=>∃p ys,xs=[.ref p]/\((SqL Ř H p ys/\∀l,H l=none->Q (.ref l) (upd H l (.tup ys)))\/(SqT Ř H p ys/\Q (.ref p) H))):=#[uT]
theorem BP:QCall X ł (λxs H Q=>∃p ys,xs=[.ref p]/\Ā/\∀l,H l=none->Q (.ref l) (upd H l ĸ)):=#[wq]
#check 0
end
mutual
def Dt(H:Hp):Qb->V->Prop
 |.none,v=>v=.non
 |.bool b,v=>v=.bl b
 |.int i,v=>v=.int i
 |.str x,v=>v=.str x
 |.list ds,v=>∃a xs,v=.ref a/\Rd H a (.lst xs)/\DtAll H ds xs
 |.tuple ds,v=>∃a xs,v=.ref a/\Rd H a (.tup xs)/\DtAll H ds xs
 |.dict _,_=>False
def DtAll(H:Hp):List Qb->List V->Prop
 | [],xs=>xs=[]
 |d::ds,xs=>∃y ys,xs=y::ys/\Dt H d y/\DtAll H ds ys
end
section
mutual
theorem Dt.reads(ok:HOk P w H h):∀(d:Qb) (x:V) (v:OE),Dt H d x->RelV x v->∃as,Reads h v d as
 |.none,x,v,e,r=>by
  have e':x=.non:=by simpa only[Dt]using e
  subst e';cases r;exact#[_,.none]
 |.bool b,x,v,e,r=>by
  have e':x=.bl b:=by simpa only[Dt]using e
  subst e';cases r;exact#[_,.bool b]
 |.int i,x,v,e,r=>by
  have e':x=.int i:=by simpa only[Dt]using e
  subst e';exists[t,rfl],r;exact#[_,.int i t]
 |.str z,x,v,e,r=>by
  have e':x=.str z:=by simpa only[Dt]using e
  subst e';exists[t,rfl],r;exact#[_,.str z t]
 |.list ds,x,v,e,r=>by
  have e':∃a xs,x=.ref a/\Rd H a (.lst xs)/\DtAll H ds xs:=by simpa only[Dt]using e
  exists[a,xs,rfl,hr,hd],e';cases r;exists[_,its,n,rv,eo],hr.ok ok;exists[as,q],DtAll.reads ok ds xs its hd rv;exact#[_,.list eo rfl rfl (by simpa using q)]
 |.tuple ds,x,v,e,r=>by
  have e':∃a xs,x=.ref a/\Rd H a (.tup xs)/\DtAll H ds xs:=by simpa only[Dt]using e
  exists[a,xs,rfl,hr,hd],e';cases r;exists[_,its,rv,o,eo,hc,n,hs],hr.ok ok;exists[as,q],DtAll.reads ok ds xs its hd rv;exact#[_,.tuple eo hc hs (by simpa using q)]
 |.dict kvs,x,v,e,r=>by
  have e':False:=by simpa only[Dt]using e
  exact e'.elim
theorem DtAll.reads(ok:HOk P w H h):∀(ds:List Qb) (xs:List V) (vs:OB),DtAll H ds xs->Vals xs vs->∃as,ReadsAll h vs ds as
 | [],xs,vs,e,r=>by
  have e':xs=[]:=by simpa only[DtAll]using e
  subst e';cases r;exact#[_,.nil]
 |d::ds,xs,vs,e,r=>by
  have e':∃y ys,xs=y::ys/\Dt H d y/\DtAll H ds ys:=by simpa only[DtAll]using e
  exists[y,ys,rfl,h1,h2],e';cases r with
  |cons r1 r2 =>exists[as,q1],Dt.reads ok d y _ h1 r1;exists[bs,q2],DtAll.reads ok ds ys _ h2 r2;exact#[_,.cons q1 q2]
end
mutual
#check#[(∀b o,b∉ch->s.heap.get? b=some o->h'.get? b=some o),s.heap.objs.size,(Z0 F.slot_tuple_iterator_next ty F.entry_tuple_iterator_next ?_ (F.args_tuple_iterator_next_1 _)),(Value.ref t==Value.none),q5.objs.size,(by simp),(d1.frame _ _ _ h1 λc hc o e=>b1.extBut c o (fz hc ap.zf) e),(∀b∈ch,bQ X ON H b),(Builtin.SmallTypes.ownedTupleIsFree (.ref z) >>= _),s.heap,(X.A.units+64<cLine),(z9 (wpAny_onRaise ?_)),(Builtin.SmallTypes.nextOf (.ref i) >>= _),(Builtin.«zip.__next__» #[[.ref z],[]]),(ns.map V.int),(Inv X ON Y H s),xs.length,(IsPair É u (.ref i) (.ref j)),k.toNat,(if Ã=true then _ else _),(seqItems? (.ref t) >>= _),(field (.ref it) 0 >>= _),(field (.ref it) 1 >>= _),0,(Yi hz Å λq1 z1 b1=>?_),(Draws prog w A i f n P1 S1),(Draws prog w A j g m P2 S2),(.ref z),ns.length,(ZR ?_ (by size_fits)),(z9 (YG hu rfl ?_)),(SeqAt.shaped dx=true),(SeqAt.shaped dy=true),(IsZip É z u v .none),(compareOp .NotEq),(field Û 2 >>= _),(field Û 3 >>= _),X.env,(List OC),(ZAp z u v i j f g),(compareOp .Eq),(binaryOp .Add),((Ò:Nat):Int),(YG ep edp ?_),(model prog w),(IsPair É v a b),(fz hc ap.vg),(fz hc ap.zg),(fz hc ap.vf),(Same.refl H),xs.size,h.toNat,(Za ?_),(rawInt Ä),ap.vz.symm,0,ap.iz.symm,(k+1),ys.length,(.ref Ä),(.tup xs)]
#check 0
theorem yX:∀(ns:OJ),DtAll H (ns.map PyData.int) Î
 | []=>by simp only[List.map_nil,DtAll]
 |n::ns=>by simp only[Zr,DtAll];exact#[_,_,rfl,by simp only[Dt],yX ns]
section
variable{X:Cx}
inductive rEqD  (x:V)(y:V)(H:Hp)(Q:VK):Prop
 |mk (dx dy:_) (h0:Dt H dx x) (h1:Dt H dy y) (h2:ß) (h3:à) (h4:Q (.bl (PyData.eqv dx dy)) H):rEqD  x y H Q
inductive rNeD  (x:V)(y:V)(H:Hp)(Q:VK):Prop
 |mk (dx dy:_) (h0:Dt H dx x) (h1:Dt H dy y) (h2:ß) (h3:à) (h4:Q (.bl (!PyData.eqv dx dy)) H):rNeD  x y H Q
theorem CW(hu:Ê):OpR X è rEqD:=by intro ON s Y H x y v u Q I rx ry h;exists[dx,dy,h1,h2,s1,s2,q],h;exists[as,r1],Dt.reads I.hok dx x v h1 rx;exists[bs,r2],Dt.reads I.hok dy y u h2 ry;exact eq_dataH r1 r2 s1 s2 hu #[.bl _,H,I,rfl,q]
theorem CZ(hu:Ê):OpR X â rNeD:=by intro ON s Y H x y v u Q I rx ry h;exists[dx,dy,h1,h2,s1,s2,q],h;exists[as,r1],Dt.reads I.hok dx x v h1 rx;exists[bs,r2],Dt.reads I.hok dy y u h2 ry;exact ne_dataH r1 r2 s1 s2 hu #[.bl _,H,I,rfl,q]
theorem ik(hu:Ê):QOp X è rEqD:=#[CW hu]
theorem Gq(hu:Ê):QOp X â rNeD:=#[CZ hu]
#check 0
section
variable{apos cpos:Pos}
theorem fL(ho:QE X o to)(he:QE X e te)(hs:aS e=true:=by rfl)(hbase:attributeBase o "append" X.env (eval o å)=eval o å:=by rfl)(hline:(apos.endLine==cpos.line)=true:=by rfl) :
  QE X (.Call (.Attribute o "append" apos) [e] [] cpos) (tBM X.K "list" rAppend to (gC te gN)):=by
 have h1:=aV (es:=[]) (env:=å) hs;have h2:starEach ([]:List OM) å=[]:=rfl;refine#[Ba PySem.F.plainAttrs_list PySem.F.slot_list_append PySem.F.type_list_append CF ho.h (pa he.h rE hs) hbase ?_ hline h1 (by rw[h2];rfl)];rw[h1,h2];rfl
#check 0
theorem Ew{i j:Int}{A B:Prop}(h1:i=j->A)(h2:i≠j->B):if decide (V.int i=V.int j)=true then A else B:=by
 by_cases h:i=j
 .rw[Ox (decide_eq_true (by rw[h]))];exact h1 h
 .rw[Ow (by rw[decide_eq_false (λz=>h (by injection z))];exact Zx)];exact h2 h
theorem cL(e:Same H H')(h:H p=none):Same H (upd H' p o):=λb u q=>by rw[af (aj q h)];exact e _ _ q
def au(ns:OJ)(k:Nat):Int:=(ns[k]?).getD 0
theorem iA{ns:OJ}{k:Int}(h0:0<=k)(h1:k<Ü):atI Î k=some (.int (au ns Ò)):=by
 have hk:Ò<Ü:=∅
 have ek:k=ê:=∅
 have q:atI Î ê=some (.int ns[Ò]):=fG (by rw[Zy,Ze hk]<;>rfl);rw[<-ek]at q;rw[q];unfold au;rw[Ze hk];rfl
theorem D9{ns:OJ}{k:Int}(h0:0<=k)(h1:¬k<Ü):au ns Ò=0:=by unfold au;rw[List.getElem?_eq_none ∅];rfl
section
variable{A:OH}
theorem yz(calm:A.handled=none)(it t:OC)(apart:t≠it)(xs:Array OE) :
  Draws prog w A it [it,t] ò (λi v=>xs[i]?=some v) (λi h=>h.IsTupleIter it t i/\h.IsTuple t xs) where
 live:=λ_ _ q=>let⟨o,eo,_⟩:=q.1;#[o,eo]
 frame:=λ_ _ _ q kp=>#[let⟨o,eo,r⟩:=q.1;#[o,kp it Å o eo,r],let⟨o,eo,r⟩:=q.2;#[o,kp t Å o eo,r]]
 item:=λi s Q E lt q cont=>by
  have ei:xs[i]?=some xs[i]:=by simp[lt]
  exists[o,eo,ec,ed],id q.1;exists[p,ep,_,np,edp],id q.2;have ty:=q.1.typeIs;unfold Builtin.SmallTypes.nextOf;refine z9 (ZU (name:=Str.ofString "__next__") ty F.slot_tuple_iterator_next Â);show wpAny _ _ Õ _ _ s;refine z9 (ZV eo ed (x:=.ref t) rfl ?_);show wpAny _ _ Ó _ _ s;rw[Ow (show¬(Ã=true)from Zx)];show wpAny _ _ Ö _ _ s;refine z9 (ZV eo ed (x:=.int i 0) rfl ?_);show wpAny _ _ Ô _ _ s;refine z9 ë;simp only[YV,ei];have sb:=ZZ É it (λob=>ob.mapFields λfs=>fs.setIfInBounds 1 (rawInt (i+1)));refine z9 (YO eo ed Å (Za #[xs[i],rfl,Za (cont _ _ s.toks ei #[?_,?_] (ZZ ..))]))
  .exact#[_,y8 _ eo (Obj.isFreed_of_fields (Yp ed _)),(Obj.cls_mapFields ..).trans ec,by rw[Yp ed];simp[rawInt]]
  .exact q.2.extBut (ZZ ..).extBut apart
 done:=λs Q E q cont=>by
  have ei:xs[ò]?=none:=by simp
  exists[o,eo,ec,ed],id q.1;exists[p,ep,_,np,edp],id q.2;have ty:=q.1.typeIs;unfold Builtin.SmallTypes.nextOf;refine z9 (ZU (name:=Str.ofString "__next__") ty F.slot_tuple_iterator_next Â);show wpAny _ _ Õ _ _ s;refine z9 (ZV eo ed (x:=.ref t) rfl ?_);show wpAny _ _ Ó _ _ s;rw[Ow (show¬(Ã=true)from Zx)];show wpAny _ _ Ö _ _ s;refine z9 (ZV eo ed (x:=.int ò 0) rfl ?_);show wpAny _ _ Ô _ _ s;refine z9 ë;simp only[YV,ei];refine z9 (YH (z9 (YO eo ed Å ?_)));show wpAny _ _ (newExc (.type "StopIteration") [] >>= _) _ _ _;refine z9 ?_;simp only[newExc,newTuple];refine z9 Ý;refine z9 (m:=firstArgMember _ _) (wpAny_of_eq (a:=Value.none) (by first|rfl|(simp only[firstArgMember];rfl)) Ý);simp only[raiseNew];refine z9 (wpAny_handled ?_)
  first|rw[show A.in1.handled=none from calm]|rw[calm]
  exact z9 (Za (wpAny_throw (cont _ _ (((ZZ ..).extBut.push _).push _) #[_,Zl _ rfl,rfl])))
#check 0
structure ZAp(z u v i j:OC)(f g:æ):Prop where
 uz:u≠z
 vz:v≠z
 uv:u≠v
 ui:u≠i
 uj:u≠j
 vi:v≠i
 vj:v≠j
 iz:i≠z
 jz:j≠z
 ij:i≠j
 zf:z∉f
 zg:z∉g
 vf:v∉f
 vg:v∉g
 jf:j∉f
 ig:i∉g
section
variable{E:Oz}{s:OD}{z v i j:OC}{f:æ}{n m k:Nat}
def Ao(z v i j:OC)(h h':Heap):Prop:=∀c o,c≠z->c≠v->c≠i->c≠j->h.get? c=some o->h'.get? c=some o
theorem fz{f:æ}(hc:c∈f)(hd:d∉f):c≠d:=λe=>hd (e▸hc)
theorem FW(d1:Ù)(d2:Ú)(ap:ç)(hz:á)(hu:Ñ)(hv:í)(h1:S1 k É)(h2:S2 k É)(l1:k<n)(l2:k<m){Q:Oz}(cont:∀h' tk x y,P1 k x->P2 k y->IsZip h' z u v (rawInt Á)->IsPair h' v x y->S1 ù h'->S2 ù h'->IsPair h' Á x y->Ao z v i j É h'->Q (.ref Á) { s with heap:=h',toks:=tk }) :
  wpAny ì A Í (λfin s'=>∃r,fin=.done (.ret r)/\Q r s') E s:=by
 show wpAny _ _ ã _ _ _;refine z9 (ZV hz rfl (x:=.bool false) rfl ?_);show wpAny _ _ ä _ _ _;refine z9 (ZV hz rfl (x:=.ref u) rfl Þ);show wpAny _ _ È _ _ _;refine z9 ?_;unfold Builtin.SmallTypes.ownedTupleIsFree;refine z9 (ZV hz rfl (x:=.none) rfl ô);simp only[if_true];refine z9 (YH (z9 (ZV hz rfl (x:=.ref v) rfl ?_)));refine z9 Ø
 replace z1:IsZip q1 z u v .ellipsis:=z1
 refine z9 ?_;simp only[List.zipIdx_cons,List.zipIdx_nil,List.forIn_cons,List.forIn_nil];refine z9 Ë;show wpAny _ _ Ì _ _ _;refine z9 (d1.item k { s with heap:=q1 } _ _ l1 Æ λx q2 t2 px s2 b2=>Za ?_);have v2:IsPair q2 v a b:=b2.extBut _ _ ap.vi (b1.extBut _ _ ap.vz hv);refine z9 (YG v2 rfl (z9 (wpAny_updateSeq_pair v2 λq3 w3 b3=>?_)))
 replace w3:IsPair q3 v x b:=w3
 refine z9 (wpAny_letGo ô);refine z9 Ë;show wpAny _ _ (Builtin.SmallTypes.nextOf (.ref j) >>= _) _ _ _;refine z9 (d2.item k { s with heap:=q3,toks:=t2 } _ _ l2 (d2.frame _ _ _ h2 λc hc o e=>b3.extBut c o î (b2.extBut c o (fz hc ap.ig) (b1.extBut c o ï e))) λy q4 t4 py s4 b4=>Za ?_);have v4:IsPair q4 v x b:=b4.extBut _ _ ap.vj w3;refine z9 (YG v4 rfl (z9 (wpAny_updateSeq_pair v4 λq5 w5 b5=>?_)))
 replace w5:IsPair q5 v x y:=w5
 refine z9 (wpAny_letGo (Za (Za (z9 (YG w5 rfl (z9 (wpAny_newTuple ?_)))))));have sz:Ä=Á:=by rw[b5.1,b4.1,b3.1,b2.1,b1.1]
 have z5:IsZip q5 z u v .ellipsis:=b5.extBut _ _ ö (b4.extBut _ _ ap.jz.symm (b3.extBut _ _ ö (b2.extBut _ _ ø z1)));have k5:Ao z v i j É q5:=λc o c1 c2 c3 c4 e=>b5.extBut _ _ c2 (b4.extBut _ _ c4 (b3.extBut _ _ c2 (b2.extBut _ _ c3 (b1.extBut _ _ c1 e))));have s5:S1 ù q5:=d1.frame _ _ _ s2 λc hc o e=>b5.extBut c o ð (b4.extBut c o (fz hc ap.jf) (b3.extBut c o ð e));have r5:S2 ù q5:=d2.frame _ _ _ s4 λc hc o e=>b5.extBut c o î e;have zlt:z<Ä:=Zq z5;show wpAny _ _ (Builtin.SmallTypes.ownedTupleHandOut Û û >>= _) _ _ _;refine z9 ?_;unfold Builtin.SmallTypes.ownedTupleHandOut;refine z9 (Yi (show IsZip (q5.push { cls:=.type "tuple",data:=.seq (List.toArray [x,y]) }) z u v .ellipsis from Zb _ z5) Å λq7 z7 b7=>?_)
 replace z7:IsZip q7 z u v õ:=z7
 refine Yi z7 Å λq8 z8 b8=>?_
 replace z8:IsZip q8 z u v õ:=z8
 have up:∀c o,c≠z->q5.get? c=some o->q8.get? c=some o:=λc o c1 e=>b8.extBut _ _ c1 (b7.extBut _ _ c1 (Zb _ e));have p8:IsPair q8 Ä x y:=b8.extBut _ _ (Yb zlt) (b7.extBut _ _ (Yb zlt) (Zl _ rfl));rw[sz]at z8 p8;refine Za #[_,rfl,?_];show Q û _;rw[sz];exact cont q8 _ x y px py z8 (up _ _ ap.vz w5) (d1.frame _ _ _ s5 λc hc o e=>up c o (fz hc ap.zf) e) (d2.frame _ _ _ r5 λc hc o e=>up c o ï e) p8 λc o c1 c2 c3 c4 e=>up c o c1 (k5 c o c1 c2 c3 c4 e)
theorem Je(d1:Ù)(d2:Ú)(ap:ç)(hz:á)(hu:Ñ)(hv:í)(h1:S1 n É)(cont:∀h' e,Ao z v i j É h'->(∃o,h'.get? e=some o/\o.cls=.type "StopIteration")->E (.ref e) { s with heap:=h' }):wpAny ì A Í Q E s:=by
 show wpAny _ _ ã _ _ _;refine z9 (ZV hz rfl (x:=.bool false) rfl ?_);show wpAny _ _ ä _ _ _;refine z9 (ZV hz rfl (x:=.ref u) rfl Þ);show wpAny _ _ È _ _ _;refine z9 ?_;unfold Builtin.SmallTypes.ownedTupleIsFree;refine z9 (ZV hz rfl (x:=.none) rfl ô);simp only[if_true];refine z9 (YH (z9 (ZV hz rfl (x:=.ref v) rfl ?_)));refine z9 Ø
 replace z1:IsZip q1 z u v .ellipsis:=z1
 refine z9 ?_;simp only[List.zipIdx_cons,List.zipIdx_nil,List.forIn_cons,List.forIn_nil];refine z9 Ë;show wpAny _ _ Ì _ _ _;refine z9 (d1.done { s with heap:=q1 } _ _ Æ λq2 e b2 he=>?_);exists[oe,hoe,hce],he;have z2:IsZip q2 z u v .ellipsis:=b2 _ _ ø z1;have ez:e≠z:=λx=>by subst x;rw[z2]at hoe;cases hoe;simp at hce
 exact Yi z2 Å λq3 _ b3=>cont q3 e (λc o c1 _ c3 _ x=>b3.extBut _ _ c1 (b2 _ _ c3 (b1.extBut _ _ c1 x))) #[oe,b3.extBut _ _ ez hoe,hce]
#check 0
section
variable{X:Cx}{ON:Oy}{Y:St}{H:Hp}{s:OD}{h':Heap}{ch:æ}{t':Nat}
theorem Inv.turnH{H':Hp}(I:Ï)(hch:Ç)(kp:À)(up:∀b u,H b=some u->H' b=some u)(dn:∀b o,s.heap.get? b=some o->H b=none->H' b=none)(hok:HOk X.prog X.w H' h') :
  Inv X ON Y H' { s with heap:=h',toks:=t' }:=by
 refine I.step (g':=s.gens) (d':=s.drawn) (ch:=ch) (λb hb=>?_) (λb o _ _ hc e _=>kp b o hc e) (λb o _ _ hc e _=>#[o.slots,kp b o hc e]) (λb o _ e n=>dn b o e n) (λb o hc e=>#[o,kp b o hc e]) (λb xs e=>up _ _ e) (λb o u e=>up _ _ e) (λb ps e=>#[#[],by rw[up _ _ e];simp]) (λm hm=>?_) hok I.bare
 .exists[f0,f1,f2,f3,f4,f5],hch b hb;exact#[f3,f1,f4,f5]
 .exists[o,es,ep,ho,r],hm;exact#[o,es,ep,kp _ o (λz=>(hch _ z).2.1 rfl) ho,r]
theorem wY(I:Ï)(hch:Ç)(kp:À):HOk X.prog X.w H h':=λb u e=>by
 have nin:∀{c:OC} {q:HO},H c=some q->c∉ch:=fun{c q} e z=>by rw[(hch c z).1]at e;cases e
 refine(I.hok b u e).stay (λc v hc q=>kp c v ?_ q) (λ_ q=>q) λ_ _ q=>q;rcases hc with z|z
 .rw[z];exact nin e
 .exact nin z
theorem Inv.turnM(I:Ï)(hch:Ç)(kp:À):Inv X ON Y H { s with heap:=h',toks:=t' } :=
 I.turnH hch kp (λ_ _ e=>e) (λ_ _ _ n=>n) (wY I hch kp)
theorem Inv.turnT{its:OB}(I:Ï)(hch:Ç)(kp:À)(hp:IsTup h' Á its.toArray)(rv:Vals xs its)(hz:Ð<=sizeLine):
  Inv X ON Y (upd H Á ü) { s with heap:=h',toks:=t' }:=by
 have fr:=I.hok.fresh (Zi Á);have ne:∀{b:OC} {u:HO},H b=some u->b≠Á:=fun{b u} e=>aj e fr;have hk:=wY I hch kp;refine I.turnH hch kp (λb u e=>by rw[af (ne e)];exact e) (λb o e n=>by rw[af (Zz (Zq e))];exact n) λb u e=>?_;by_cases hb:b=Á
 .subst hb;rw[ac]at e;cases e;exact#[hz,its,rv,hp]
 .rw[af hb]at e;exact(hk b u e).stay (λ_ _ _ q=>q) (λc q=>by rw[af (ne q)];exact q) λc ys q=>by rw[af (ne q)];exact q
#check 0
def Itz(K:Qa)(a b:OC)(xs ys:List V):It :=
 #[λi H=>i<Ð/\SqT K H a xs/\SqT K H b ys,λi H x H'=>∃T p q,H T=none/\xs[i]?=some p/\ys[i]?=some q/\x=.ref T/\H'=upd H T (.tup [p,q]),λi H=>i=Ð/\SqT K H a xs/\SqT K H b ys]
theorem J8(n:Nat):[n+4,n+2,n+3,n,n+1].Nodup:=by simp
def MK(K:Qa)(ta:TA):TI:=λY H R=>ta Y H λvs H1=>∃a b xs ys,vs=[.ref a,.ref b]/\SqT K H1 a xs/\SqT K H1 b ys/\Ð=ú/\R (Itz K a b xs ys) H1
inductive rCatS  (x:V)(y:V)(H:Hp)(Q:VK):Prop
 |mk (a b xs ys:_) (h0:x=.ref a) (h1:y=.ref b) (h2:H a=some ü) (h3:H b=some (.tup ys)) (h4:Ð+ú<=sizeLine) (h5:∀p H',Same H H'->H' p=some (.tup (xs++ys))->Q (.ref p) H'):rCatS  x y H Q
section
variable{X:Cx}
theorem HV:OpR X é rCatS:=by
 intro ON s Y H x y v u Q I rx ry h;exists[a,b,xs,ys,rfl,rfl,ha,hb,hz,q],h;by_cases hx:xs=[]
 .cases rx;cases ry;exists[its,r1,p1,_],I.tuple (OP (K:=X.K) ha);exists[its2,r2,p2,_],I.tuple (OP (K:=X.K) hb);obtain⟨⟨cls,dd,data,sl⟩,ho,hc,n,hd⟩:=id p1;obtain⟨⟨cls2,dd2,data2,sl2⟩,ho2,hc2,n2,hd2⟩:=id p2;simp only at hc hd hc2 hd2;subst hc hd hc2 hd2;have e:its=[]:=r1.nil_iff.mpr hx;subst e;refine PySem.concat_meets #[_,ho,rfl] #[_,ho2,rfl] noFill_tuple_add seq_tuple_add PySem.F.slot_tuple_add PySem.F.entry_tuple_add (PySem.F.args_tuple_add_2 _ _)
   (tuple_addW0 a b _ its2.toArray n n2 dd dd2 sl sl2 Å) #[ho,ho2,#[.ref b,H,I,rfl,q b H ñ ?_]]
  rw[hx];exact hb
 .exact HW ON s Y H _ _ v u Q I rx ry #[a,b,xs,ys,rfl,rfl,OP ha,OP hb,hx,hz,λe=>q a H ñ (by rw[e,ZF];exact ha),λ_ p hp=>q p _ (ad hp _) ac]
theorem jN:QOp X é rCatS:=#[HV]
theorem Ev{ns:OJ}{i:Nat}(h:Î[i]?=some x):x=.int (au ns i)/\i<Ü:=by
 rw[Zy]at h;unfold au;cases e:ns[i]? with
 |none=>rw[e]at h;cases h
 |some z =>rw[e]at h;cases h;exact#[rfl,(Zu.mp e).1]
theorem Dv{n d:Nat}{h:Int}(h0:0<=h):HT.sIx n d (some h)=min ó n:=by have e:=HT.sIx_nat n d ó;rw[show((ó:Nat):Int)=h by omega]at e;exact e
variable{K:Qa}(hK:X.K=K)
include hK
theorem jD:QIx X (rIxL K):=by subst hK;exact bV
theorem iw:QIx X (rIxT K):=by subst hK;exact ao
theorem hJ{k n:Nat}(hc:X.calm=true)(h:QGs X es gs)(hn:(assignEach es å).length=n:=by rfl)(hst:(assignEach es å).findIdx? (·.1)=none:=by rfl):QG X (.Tuple es k pos) (nS K n gs):=by subst hK;exact jl hc h hn hst
omit hK
#check 0
end
open PySem PySem.Spec PyProof.Rows PySem.W
mutual
#check#[xs.length,X.env.locals,s1.heap.objs.size,(Obj.mapFields (·.setIfInBounds 1 (Value.ref h1.objs.size))),(X.A.units+64<cLine),(λb hb=>#[(hch b hb).2.2.2.1,(hch b hb).2.1,(hch b hb).2.2.2.2.1,(hch b hb).2.2.2.2.2]),(.type "BaseException"),(YI (thn (ha pos ON s Y H _ I h) λus s1 hz9=>?_) (aV n1) (bP (by simp))),(Inv X ON Y H s),items.size,(nrec b o q hn),(∀b u,b≠Á->b∉ch->s.heap.get? b=some u->h'.get? b=some u),s.heap.objs.size,(if pl.isEmpty then List.replicate 6 Value.none else pl),(∀ws,o.data≠.fields ws),(∀σ' H',N σ' H'->∃m',m'<m/\W (k+1) m' σ' H'),(env::outer),((∃u,H' b=some u)\/∃o0,s0.heap.get? b=some o0),(Nat),(Obj.mapFields (·.setIfInBounds 3 Value.none)),(λb o hL _ hc e _=>#[o.slots,k b o hL hc e]),its.toArray.size,X.stack,0,X.env,(.tuple (ns.map .int)),(.Call (.Name "enumerate" p) [e1] [] pos),(.Call (.Name "reversed" p) [e1] [] pos),(.tup (ns.map V.int)),((es.all λe=>isExactStrKey e.key)=true),(POk n p),(.Tuple elts kt tp),(by simp),s.heap,s.toks,(λb o hL _ hc e _=>k b o hL hc e),(model X.prog X.w),((À-1-i:Nat):Int),(Fl X H0 H' s0 s' B),((Value.ref T != Value.none)=true),ht.typeIs,(.ref t),(∃m,s.heap.Ns Á m/\h'.Ns Á m),scope.names,(λr=>POk n r.2),(Heap),(Inv X ON Y H0 s0),(QE X o td),(QE X i ty),(k+1),(λc v hc q=>k c v ?_ ?_ q),(fX (ce i) (fX (ce j) nR)),(.Compare i [.In] [o] pos),(model prog w),(Unit->OD->Prop),0,(.ref e),(List V),(∀Y H,Pv À Y H->D.nx Y H),((z▸q).symm.trans nT),h1.objs.size,(ne e hx),(x==("__debug__":Str)),(Option OC),(X.mg "enumerate" = none),(I.ok.hd hc),(Zh.mpr rfl),(.tup (ms.map V.int)),(ExcAt K C bm),(X.mg "reversed" = none),(s.heap.get? e=some oe),(∀b∈ch,bQ X ON H b),(.str x tx),(.ref a),(gA p j),(gA p i),(List Str),(s.heap.get? d=some o),X.ex,(λy v=>v.isStr y),(C6 ∅ hi.h ho.h),(rawInt L),(hT.symm.trans q),(Option Int),(o.data=.dict es ep),(s.heap.get? b=none),ys.length,(ns=ms),(ZO ne),(ne hx),(ZV he dt v1 ?_),(starEach es Ø),(∃m,W 0 m Y H),(λb o hc e=>?_),(Nat->St->Hp->Prop),(List OC),(CXr P w),(A.frames=some Ð),(env.frame=some L),z.length,(ys.map V.str),(λm' hm'=>?_),(base.StaysIn á),X.K,(.ref c),(wX X l),(ms.map .int),(XP X ON Y E),(.inr #[o,q]),(λb u e=>?_),(Bool->OD->Prop),(i+1),h1.push,s1.toks,(Ite K a xs),(Itv K a xs),its.toArray,h1.eq_nsMap,(aq st),(SP X ON D),(λ_=>True),(h.rev _ _),(upd H a o),(PA X [e1] ta),(QA X [e1] ta),X.prog,ns.sum,ys.toArray,(q+1),(Ge ħ ta),(FJ ty td),(JQ ħ ta),(X.calm=true),vs.length,pl.isList,rx.length,px.isList,0,sb.extBut,rv.length,(ZO n),(Zi _),(ne e),(.ref sl),(X.exc e),(ys++[v]),(Prop),(fh á e dc),(0<n),(aS e1=true),pos.line]
section
theorem IL{st:Stmt}:QS X st (λ_ _ _=>False):=#[λ_ _ _ _ _ _ h=>h.elim]
theorem nL{s:OD}{t sl:OC}{items:Array OE}{lo hi:ē}{Q:Oz}(ht:IsTup á t items)(hs:s.heap.IsSliceOf sl vl vu .none)(pl:IsPart vl lo)(pu:IsPart vu hi)(hw:HT.sIx É 0 lo=0/\HT.sIx É É hi=É)(h:Q é s):wpAny õ A (getItem é ŏ) Q E s:=by
 exists[os,hos,hcs,hds],id hs;have hTs:s.TypeIs ŏ "slice":=#[os,hos,hcs]
 unfold getItem
 try with_reducible refine ZJ ?_
 first|refine z9 (Za ?_)|skip
 refine z9 (wpAny_sequenceKey è ⋯ ?_);refine z9 (ZU (name:=Str.ofString "__getitem__") è Yh
  (Z0 Yh è entry_tuple_getitem ?_ (args_tuple_getitem _ _)))
 show wpAny _ _ (Builtin.Tuple.tupleItemsOf é >>= _) _ _ s;refine z9 (tupleItemsOf_ ht ?_);refine z9 (Y9 hTs ?_);rw[Ox ⋯];refine z9 (HT.sliceApplied_gen hs pl pu ?_);show wpAny _ _ (if(((HT.sIx É 0 lo:Nat):Int)==0&&(1:Int)==1&&(HT.sIx É É hi-HT.sIx É 0 lo)==É)=true then _ else _) _ _ s;rw[Ox (by rw[hw.1,hw.2];simp)];refine z9 (m:=Builtin.Tuple.tupleIsExact _) ?_;unfold Builtin.Tuple.tupleIsExact;refine z9 (Y9 è (Za ?_));rw[Ox ⋯];exact z9 (YH (Za #[_,rfl,Za h]))
def MY:V->Option Int->Option Int->Hp->VK->Prop:=λx lo hi H Q=>∃a xs,x=.ref a/\H a=some (.tup xs)/\∀p H',Same H H'->H' p=some (.tup (bY xs lo hi))->Q (.ref p) H'
theorem dN:QSl X MY:=by
 refine#[?_];intro ON s Y H x v vl vu lo hi sl Q I rx hs pl pu h;exists[a,xs,rfl,hx,q],h;by_cases hw:HT.sIx À 0 lo=0/\HT.sIx À À hi=À
 .cases rx;exists[its,r,ht,hz],I.tuple (OP (K:=ħ) hx);have hlen:Õ=À:=by rw[Zk];exact r.length.symm
  refine#["tuple",_,Yh.lookup,è,nL ht hs pl pu (by rw[hlen];exact hw) #[.ref a,H,I,rfl,q a H (Same.refl H) ?_]];unfold bY;rw[hw.1,hw.2,List.drop_zero,Nat.sub_zero,ZC];exact hx
 .exact Lg ON s Y H _ v vl vu lo hi sl Q I rx hs pl pu #[a,xs,rfl,OP hx,hw,λp hp=>q p _ (ad hp _) ac]
#check 0
section
variable{Q:Į}
theorem yB(ns:OJ):∀(ms:OJ) (vs ws:OB) (i:Ò),IntsAre vs ns->IntsAre ws ms->fin=decide (ns.length<ms.length)->Q (HT.lexLt ns ms) s->KatLex prog w A true fin Q (vs.zip ws) i s:=by
 induction ns with
 |nil =>
  intro ms vs ws i a b hf q;subst hf;cases a;cases b with
  |nil=>exact kat_nil q
  |cons _ _ _=>exact kat_nil (by rw[decide_eq_true à];exact q)
 |cons x ns ih =>
  intro ms vs ws i a b hf q;cases a with
  |cons _ t h1 =>
  cases b with
  |nil =>subst hf;exact kat_nil q
  |cons y u h2 =>
  exists[e,he,iff],HT.eqAt_int A s x t y u;rw[HT.lexLt_cons]at q;refine kat_cons (he _ _ _ _ (kat_go (λet=>?_) (λef=>?_)))
  .rw[Ox (iff.mp et)]at q;exact kat_yes (ih _ _ _ į h1 h2 (by rw[hf];simp) q)
  .have hne:x≠y:=λz=>by rw[iff.mpr z]at ef;cases ef
   rw[Ow hne]at q;refine kat_no ?_;cases i with
   |zero=>exact oneLt_int q
   |succ i=>exact kat_one _ _ (PyProof.Rows.lt_int q)
#check 0
section
variable{H:Hp}
theorem jO{H:Hp}(x:ObjOk P w H h a o):∃ob,h.get? a=some ob:=by
 cases o with
 |lst xs =>exists[_,_,_,_,e],x;exact#[_,e]
 |tup xs =>exists[_,_,_,ob,e,_],x;exact#[ob,e]
 |dK kvs =>exists[_,_,_,_,ob,_,_,e,_],x;exact#[ob,e]
 |dT kvs =>exists[_,_,_,_,ob,_,_,e,_],x;exact#[ob,e]
 |set S n =>exists[ob,_,_,_,e,_],x;exact#[ob,e]
 |ins C dx fs =>exists[_,_,_,e,_],x;exact#[_,e]
 |own y=>exact x
 |xd fs =>obtain⟨_,⟨ob,_,_,e,_⟩,_⟩:=x;exact#[ob,e]
 |rng lo hi =>exists[_,_,_,e],x;exact#[_,e]
 |frz ob u=>exact#[ob,x.1]
 |tbl ps=>exact#[_,x]
 |met f y=>exact#[_,x]
 |ext φ=>exact x.2.1
theorem none_of(I:È)(hg:s.heap.get? a=none):H a=none:=by
 cases q:H a with
 |none=>rfl
 |some u =>exists[ob,e],jO (I.hok a u q);rw[hg]at e;cases e
def xP(base h:í)(L:OC):Oy:=(List.range h.objs.size).filterMap λb=>if b=L\/(base.get? b).isSome=true then none else(h.get? b).map λo=>(b,o)
theorem pV(base h:í)(L:OC):News base L h (xP base h L):=λp hp=>by
 exists[b,_,e],Yc.mp hp;by_cases c:b=L\/(base.get? b).isSome=true
 .rw[Ox c]at e;cases e
 .rw[Ow c]at e;cases q:h.get? b with
  |none=>rw[q]at e;cases e
  |some o =>
   rw[q]at e;cases e;refine#[q,λz=>c (.inl z),?_];cases z:base.get? b with
   |none=>rfl
   |some u=>exact absurd (.inr (by rw[z];rfl)) c
theorem jn{base h:í}(e:h.get? b=some o)(hL:b≠L)(hb:base.get? b=none):(b,o)∈xP base h L:=by refine Yc.mpr #[b,Y2.mpr (Zq e),?_];rw[Ow (by rintro(z|z);exact hL z;rw[hb]at z;cases z),e];rfl
#check 0
theorem eQ(ns:OJ):SeqAt.shaped Ù=true:=by
 unfold SeqAt.shaped;rw[ZK];refine#[?_,?_]
 .simp only[PyData.canLay0];exact PyProof.Rows.canLayAll_ints ns
 .refine decide_eq_true ?_;simp only[PyData.depth];rw[PyProof.Rows.depthAll_ints ns];decide
theorem pQ:∀(ns ms:OJ),PyData.eqvAll (ns.map .int) Ī=decide ė
 | [],[]=>by simp[PyData.eqvAll]
 | [],_::_=>by simp[PyData.eqvAll]
 |_::_,[]=>by simp[PyData.eqvAll]
 |x::ns,y::ms=>by simp only[Zr,PyData.eqvAll,PyData.eqv];rw[pQ ns ms,Bool.eq_iff_iff];simp
theorem jG(ns ms:OJ):PyData.eqv Ù (.tuple Ī)=decide ė:=by simp only[PyData.eqv];exact pQ ns ms
theorem jE{H:Hp}{ns:OJ}(h:H a=some Ü):Dt H Ù ĉ:=by simp only[Dt];exact#[a,_,rfl,Rd.of h,yX ns]
section
variable{X:Cx}
theorem Kd(hu:Ä):QOp X (compareOp .Eq) (λx y H Q=>∃(a b:OC) (ns ms:OJ),x=.ref a/\y=.ref b/\H a=some Ü/\H b=some ă/\Q (.bl (decide ė)) H):=by refine#[?_];intro ON s Y H x y v u Q I rx ry h;exists[a,b,ns,ms,rfl,rfl,ha,hb,q],h;exact CW hu ON s Y H _ _ v u Q I rx ry #[_,_,jE ha,jE hb,eQ ns,eQ ms,by rw[jG];exact q]
theorem xD(hu:Ä):QOp X (compareOp .NotEq) (λx y H Q=>∃(a b:OC) (ns ms:OJ),x=.ref a/\y=.ref b/\H a=some Ü/\H b=some ă/\Q (.bl (!decide ė)) H):=by refine#[?_];intro ON s Y H x y v u Q I rx ry h;exists[a,b,ns,ms,rfl,rfl,ha,hb,q],h;exact CZ hu ON s Y H _ _ v u Q I rx ry #[_,_,jE ha,jE hb,eQ ns,eQ ms,by rw[jG];exact q]
#check 0
theorem mM{x:V}{A B:Œ}(h:x≠.non)(hA:A):if(!decide (x=.non))=true then A else B:=by rw[decide_eq_false h];exact aQ hA
theorem LQ{c A B:Œ}[Decidable c](h:c)(hA:A):if decide c=true then A else B:=by rw[decide_eq_true h];exact aQ hA
theorem kT{c A B:Œ}[Decidable c](h1:c->A)(h2:¬c->B):if decide c=true then A else B:=by
 by_cases h:c
 .exact LQ h (h1 h)
 .rw[decide_eq_false h];exact aC (h2 h)
structure CompOk1(X:Cx)(scope:Scope)(cx:Str)(cap:List Nat)(capN:Č):Prop where
 kind:scope.kind=.function
 names:∀x∈ë,x.2=.local->scope.names.lookup x.1=some .local
 onecell:∀y∈ë,y.2=.cell->y.1=cx
 own:scope.names.lookup cx=some .cell
 cf:∀(n:Ò) (acc:List (Str×OC)),cellsFrom n ë acc=(cx,n)::acc
 pc:∀h:Heap,pushCells h ë=h.push { cls:=.type "cell",data:=.cell none }
 frees:(scope.names.all λy=>!(y.2==NameKind.free) ||(X.env.kindOf y.1==some .cell ||X.env.kindOf y.1==some .free))=true
 cap:CapOk X scope cap capN
theorem qV:∀{vs:OB} {ns:OJ},IntsAre vs ns->∃xs:List (Int×Tok),vs=xs.map (λp=>.int p.1 p.2)/\ns=xs.map (·.1)
 |_,_,.nil=>#[[],rfl,rfl]
 |_,_,.cons n t h=>by exists[xs,e1,e2],qV h;exact#[(n,t)::xs,by rw[e1];rfl,by rw[e2];rfl]
def fh(h:í)(e:OC)(dc:ÿ):Prop:=∃o,h.get? e=some o/\o.dict=dc
theorem sG(f:Array OE->Array OE)(o:Obj):(Obj.mapFields f o).dict=o.dict:=by unfold Obj.mapFields;split<;>rfl
section
variable{A:OH}{s:OD}{base:í}{env:Env}
theorem pS{Q:ö}(fr:ġ)(ff:s.heap.FunFrames base Ð)(ef:Ģ)(he:Ć)(kb:Ħ)(en:base.get? e=none)(dt:oe.data=.fields vs)(sz:1<vs.size)(v0:vs[0]?=some a0)(k:∀h',Heap.NotedW base Ð e oe.cls a0 đ á h'->fh h' e oe.dict->Q () { s with heap:=h' }):
  wpAny M A (do let a ←frameOf env;let pl ←entryPlaceOf L nx;let b ←EntryCells.newEntry hd0 a .none đ .none pl;setField ø 1 b) Q E s:=by
 have nf:e∉(env::outer).filterMap (·.frame):=λhm=>by exists[_,o,ho,hn],ff.mem hm;cases Zo (he.symm.trans ho);exact hn vs dt
 refine z9 (wpAny_frameOf_fun fr ff ef λh1 k1=>z9 (wpAny_entryPlaceOf λpl hpl=>?_));unfold EntryCells.newEntry newFields;refine z9 (ZR ?_ (hpl.sizeOk5 _ _ _ _ _));have t3:([hd0,.ref L,.none,rawInt L,.none]++Í).toArray[3]?=some đ:=by simp
 generalize([hd0,.ref L,.none,rawInt L,.none]++Í).toArray=ts at t3 ⊢;have g1:h1.get? e=some oe:=(k1.2.1 e nf).trans he;have st1:base.StaysIn h1:=λb o hb=>(k1.2.1 b λhm=>nomatch(hb.symm.trans (ff.mem hm).1)).trans (kb b o hb);have gp:(İ { cls:=.type "traceback",data:=.fields ts }).get? e=some oe:=Zb _ g1;have ne:ü≠e:=Yb (Zq g1);have dm:=Yp dt (·.setIfInBounds 1 (Value.ref ü));have self:=y8 Ã gp (Obj.isFreed_of_fields dm);have atT:=(Yd (İ { cls:=.type "traceback",data:=.fields ts }) Ã Ę).trans (Zl h1 rfl);have oth:∀b o,b≠e->h1.get? b=some o->((İ { cls:=.type "traceback",data:=.fields ts }).update e Ã).get? b=some o:=λb o n q=>(Yd _ _ Ō).trans (Zb _ q);have nrec:∀b o,s.heap.get? b=some o->Î->b≠e:=λb o q hn z=>by subst z;cases Zo (he.symm.trans q);exact hn vs dt
 refine YO gp dt sz (k _ #[λb o q=>oth b o (λz=>nomatch((z▸q).symm.trans en)) (st1 b o q),ff.of_keeps λb o q hn=>?_,?_,λb o q hn=>?_] #[_,self,sG _ _])
 .exists[sl,hs],k1.2.2 b o q;exact#[_,oth b _ Ê hs,rfl]
 .exact#[_,_,ü,_,ts,self,#[Obj.cls_mapFields _ _,by rw[Array.getElem?_setIfInBounds_ne ⋯];exact v0],dm,by simp[sz],st1.fresh,ne,atT,rfl,t3]
 .exists[sl,hs],k1.2.2 b o q;exact#[sl,oth b _ Ê hs]
theorem mG{Q:ö}(kb:Ħ)(ff:s.heap.FunFrames base l)(tr:s.heap.TracedAtW base e cls a0 fl)(dd:œ)(k:∀h',base.StaysIn h'->h'.FunFrames base l->h'.TracedW base e cls a0->s.heap.UpToSlots h'->fh h' e dc->Q () { s with heap:=h' }):wpAny M A (setFlight ø none) Q E s:=by
 exists[oe,vs,T,oT,ts,he,hc,dt,v1,nT,ne,hT,dT,t3],tr;have z3:3<ts.size:=(Yt.mp t3).1;have oth:∀b,b≠T->(s.heap.update T (Obj.mapFields (·.setIfInBounds 3 ((none:ÿ).elim Value.none λf=>rawInt f)))).get? b=s.heap.get? b:=λb n=>Yd _ _ Ō;have nrec:∀b o,s.heap.get? b=some o->Î->b≠T:=λb o q hn z=>by subst z;cases Zo Ē;exact hn ts dT
 unfold setFlight;refine z9 Ě;rw[Ox (by simp:ç)];refine YO hT dT z3 (k _ (λb o q=>(oth b λz=>nomatch û).trans (kb b o q)) (ff.of_keeps λb o q hn=>#[o,(oth b Ê).trans q,rfl]) ?_ (λb o q hn=>#[o.slots,(oth b Ê).trans q]) ?_)
 .exact#[oe,vs,T,_,_,(oth e Ę).trans he,hc,dt,v1,nT,ne,y8 _ hT (Obj.isFreed_of_fields (Yp dT _)),Yp dT _,by simp[z3]]
 .exists[o,q,d],dd;exact#[o,(oth e Ę).trans q,d]
theorem rf{Q:ö}(fr:ġ)(ef:Ģ)(fl:Heap.FlyingW base Ð e cls a0 á)(dd:œ)(k:∀h',Heap.HeldW base Ð e cls a0 L h'->s.heap.UpToSlots h'->fh h' e dc->Q () { s with heap:=h' }):wpAny M A (noteFrame ø env) Q E s:=by
 exists[f1,f2,f3,oe,vs,T,oT,ts,he,hc,dt,v1,nT,ne,hT,dT,t3],fl;exists[o2,q2,d2],dd;cases Zo (he.symm.trans q2);have z3:3<ts.size:=(Yt.mp t3).1;unfold noteFrame;simp only[ef];refine z9 Ě;rw[Ox (by simp:ç)];refine z9 (ZV hT dT t3 ?_);rw[Ow (by simp[rawInt]:¬(Value.none==rawInt L)=true)];refine z9 (YO hT dT z3 ?_);have oth:∀b,b≠T->(s.heap.update T Ó).get? b=s.heap.get? b:=λb n=>Yd _ _ Ō;have nrec:∀b o,s.heap.get? b=some o->Î->b≠T:=λb o q hn z=>by subst z;cases Zo Ē;exact hn ts dT
 have sz:1<vs.size:=(Yt.mp v1).1;refine pS (s:={ s with heap:=s.heap.update T Ó }) fr (f3.of_keeps λb o q hn=>#[o,(oth b Ê).trans q,rfl]) ef ((oth e Ę).trans he) (λb o q=>(oth b λz=>nomatch û).trans (f1 b o q)) f2 dt sz hc.2 λh' nt dd=>?_;exists[n1,n2,n3,n4],nt;rw[hc.1]at n3;rw[d2]at dd;exact k h' #[n1,f2,n2,n3] (λb o q hn=>n4 b o ((oth b Ê).trans q) hn) dd
#check 0
theorem cU{v:V}{A B:Œ}(hA:A):if decide (v=v)=true then A else B:=by rw[decide_eq_true rfl];exact aQ hA
theorem aL{v u:V}{A B:Œ}(h:v≠u)(hB:B):if decide (v=u)=true then A else B:=by rw[decide_eq_false h];exact aC hB
inductive TV where
 |flat (v:V)
 |tup (xs:ù)
def vL:V->OE->Bool
 |.non,.none=>true
 |.bl b,.bool c=>b==c
 |.int i,.int j _=>i==j
 |.str x,.str y _=>x==y
 |_,_=>false
theorem uN:∀{v:V} {u:OE},vL v u=true->RelV v u:=by
 intro v u h;unfold vL at h;split at h
 .exact rfl
 .obtain rfl:=Z8.mp h;exact rfl
 .obtain rfl:=Z8.mp h;exact#[_,rfl]
 .obtain rfl:=Z8.mp h;exact#[_,rfl]
 .cases h
def yp:List V->OB->Bool
 | [],[]=>true
 |v::vs,u::us=>vL v u&&yp vs us
 |_,_=>false
theorem qd:∀{vs:ù} {us:OB},yp vs us=true->Vals vs us
 | [],[],_=>.nil
 |_::_,_::_,h=>by have h:=(ZK _ _).mp h;exact .cons (uN h.1) (qd h.2)
 | [],_::_,h=>nomatch h
 |_::_,[],h=>nomatch h
def oR(K:Qa):TV->OE->Bool
 |.flat v,u=>vL v u
 | .tup xs,.ref a=>(match K.lookup a with
  |some o=>o.cls == .type "tuple"&&(match o.data with|.seq its _=>decide (its.size<=1000)&&yp xs its.toList|_=>false)
  | none=>false)
 |_,_=>false
def Jr(K:Qa):TV->OE->Prop
 |.flat v,u=>RelV v u
 |.tup xs,u=>∃a,u=.ref a/\∀H,SqT K H a xs
set_option tactic.hygienic true in theorem Mw{K:Qa}(d:TV)(u:OE)(h:oR K d u=true):Jr K d u:=by
 unfold oR at h;split at h
 .exact uN h
 .rename_i xs a;split at h
  .rename_i o ho;exists[e1,e2],(ZK _ _).mp h;split at e2
   .rename_i its n hd;exists[e3,e4],(ZK _ _).mp e2;exact#[a,rfl,λH=>.inr #[o,its,n,ho,Z8.mp e1,hd,fF (y0 e3),qd e4]]
   .cases e2
  .cases h
 .cases h
structure Tab(K:Qa)(a:OC)(D:List (Str×TV)):Prop where
 look:KTD.tabLook (oR K) (λb=>K.lookup b) a D=true
theorem Tab.at{K:Qa}(T:Tab K a D)(X:K.In h):KTD.TabOf (Jr K) h a D:=KTD.tab_of_look Mw (λb o e=>X b o e) T.look
section
variable{s:OD}{o:Obj}{ep:Ò}
theorem IX{Q:Option OE->OD->Prop}(ho:č)(hd:Ĕ)(hall:Ý)(h:Q ((es.toList.find? λe=>e.key.isStr x).map (·.val)) { s with toks:=â+1 }) :
  wpAny õ A (dictGet d Ĉ) Q E s:=by
 unfold dictGet;(try with_reducible (refine ZJ ?_))
 refine z9 (wpAny_pyHash_str (z9 (KTD.kt_dictFind_strs (s:={ s with toks:=â+1 }) ho hd hall ?_)));have hq:Q (findBy ď es x) { s with toks:=â+1 }:=by
  have hf:findBy ď es x=(es.toList.find? λe=>e.key.isStr x).map (·.val):=by exists[l],es;simp[findBy]
  rw[hf];exact h
 rw[findBy_of_findIdx?]at hq;cases hi:es.findIdx? λe=>e.key.isStr x<;>rw[hi]at hq
 .exact Za hq
 .exact z9 (Yg (s:={ s with toks:=â+1 }) ho hd (Za hq))
theorem FL{Q:Oz}(ex:o.ExactDict)(ho:č)(hd:Ĕ)(hall:Ý)(hv:(es.toList.find? λe=>e.key.isStr x).map (·.val)=some v)(h:Q v { s with toks:=â+1 }):wpAny õ A (getItem (.ref d) Ĉ) Q E s:=by
 have T:s.TypeIs (.ref d) "dict":=#[o,ho,ex.1]
 unfold getItem;(try with_reducible (refine ZJ ?_))
 refine z9 (wpAny_sequenceKey T ⋯ (z9 (ZU (name:=Str.ofString "__getitem__") T slot_dict_getitem (Z0 slot_dict_getitem T entry_dict_getitem ?_ (args_dict_getitem _ _)))));show wpAny _ _ (dictGet d Ĉ >>= _) _ _ _;refine z9 (IX ho hd hall ?_);rw[hv];exact Za #[v,rfl,Za h]
#check 0
section
variable{X:Cx}
def K4(K:Qa):R2:=λx y H Q=>∃a k D d,x=.ref a/\y=.str k/\Tab K a D/\KTD.datumAt k D=some d/\(match d with|.flat v=>Q v H|.tup xs=>∀t,(∀H',SqT K H' t xs)->Q é H)
theorem GP:QIx X (K4 ħ):=by
 refine#[?_];intro value slice ON s Y H x y v u Q I rx ry h hs;exists[a,k,D,d,rfl,rfl,T,hk,q],h;exists[t,rfl],ry;cases rx;exists[sy,o,es,ep,ho,ex,hd,hr],T.at I.kIn;exists[v,hv,ok],hr.find_some hk;have fin:EP X ON Y Q v { s with toks:=â+1 }:=by
  cases d with
  |flat z=>exact#[z,H,I.tok _,ok,q]
  |tup xs =>exists[t,rfl,e],ok;exact#[.ref t,H,I.tok _,rfl,q t e]
 exact subscriptTail_builtinR (x:=v) (#[o,ho,ex.1]:s.TypeIs ĉ "dict") slot_dict_getitem.lookup (FL (Q:=λr s'=>r=v/\EP X ON Y Q r s') ex ho hd (by exists[l],es;simpa using hr.exact) hv #[rfl,fin]) hs
theorem KY(hm:X.mg x=some ĉ)(hg:Gl X x:=by rfl)(hd:þ=false:=by decide):QE X (.Name x pos) (tC ĉ):=#[sW hg hm rfl hd]
#check 0
def CXr(P:OF)(w:OG):CXT:=λouter H s E e s' =>
 ∃(ea t:OC) (C:OE) (vs:OB) (B:í) (H':Hp) (dc:ÿ),e=.ref ea/\s'.os=s.os/\AllBare s'.gens/\Un (frs outer) [] H H' á s'.heap/\HOk P w H' s'.heap /\
  Heap.FlyingW B outer ea C é s'.heap/\s'.heap.TupAt t vs/\B.get? t=none/\(∀b o,b∉frs outer->((∃u,H' b=some u)\/∃o0,s.heap.get? b=some o0)->s'.heap.get? b=some o->B.get? b=some o)/\fh s'.heap ea dc/\E C dc H'
structure ExCls(K:Qa)(C:OC):Prop where
 cls:∀h,K.In h->∃nm q N bs bm hdct sn sub ab col dd k0 k1 k2 k3 k5 mN,h.get? C=some (excClassObj nm q C N bs bm hdct sn sub ab col dd k0 k1 k2 k3 k5 "ValueError.__new__")/\h.Ns N mN/\mN "__init__" = none/\bm.contains Æ=true /\
  OwnTail h [.type "ValueError",.type "Exception",.type "BaseException",.type "object"] bm
def BM(X:Cx)(EC:OE->Hp->Prop):Prop:=∀(ON:Oy) (Y:St) (H1:Hp) (s1:OD) (h2:í) (e:OC) (C:OE) (vs:OB),Inv X ON Y H1 s1->Heap.MadeExcOf s1.heap h2 e C vs->EC C H1->X.xe ø { s1 with heap:=h2 }
section
variable{e:OM}
theorem pH(hR:BM X EC)(hc:ń)(cl:ExCls ħ C)(hm:X.mg x=some (.ref C))(ha:QA X (e::es) ta)(hg:Gl X x:=by rfl)(hs:(e::es).all aS=true:=by rfl)(hdb:þ=false:=by decide) :
  QS X (.Raise (some (.Call (.Name x np) (e::es) [] cpos)) none pos) (λ_ Y H=>ta Y H λvs H1=>Ņ<=sizeLine/\EC (.ref C) H1):=by
 refine#[?_];intro ON s Y H D I h;exists[nm,q,N,bs,bm,hdct,sn,sub,ab,col,dd,k0,k1,k2,k3,k5,mN,hC,hN,hni,hb,T],cl.cls X.base I.ok.mod.kin;have hs1:aS e=true:=by have:=YD.mp hs e à;exact this
 have he:=aV (es:=es) (env:=Ø) hs1;have hpl:(backTo cpos ě).any (·.1)=false:=bP (by
  rw[YD];intro y hy;exact YD.mp hs y (Zj _ hy))
 refine wpAny_Raise_call_subT (nm:=nm) (q:=q) (C:=C) (N:=N) (bs:=bs) (hdct:=hdct) (sn:=sn) (sub:=sub) (ab:=ab) (col:=col) (dd:=dd) (k0:=k0) (k1:=k1) (k2:=k2) (k3:=k3) (k5:=k5) PySem.F.excBase_ValueError hb ā ?_ hni (jw I hg hm #[rfl,?_] hdb)
 .rw[he];show(false ||(backTo cpos ě).any (·.1))=false;rw[hpl];rfl
 .have hA:=ha.h cpos ON s Y H _ I h;rw[he]at hA ⊢;refine Calls.evalArgs_plain (thn hA λus s1 ⟨vs,H1,I1,r1,hz,hE⟩=>#[rfl,by rw[<-r1.length];exact hz,I1.bk _ _ hC,hN.keeps I1.bk,T.keeps I1.bk,λh' ea hm=>hR ON Y H1 s1 h' ea _ _ I1 hm hE])
#check 0
theorem Fun.okX{K:Qa}{st:Stmt}{k:Ò}{sp:Sp}(F:Fun K x qual st f fd)(S:FnScope N ps Ķ)(len:∀ vs H Q E,sp vs H Q E->Ņ=ps.length)(hb:∀ (cdv:OE) (A:OH) (outer:List Env) (s:OD) (H:Hp) (vs:ù) (Q:VK) (E:XK),Room k (A.deeper (envOfC qual Ķ Ì f cdv))->sp vs H Q E ->
   ∃ t,QB (gG Ġ P w K mg base N qual Ķ f cdv A outer s H E) (bT st) t/\t { nx:=λ_ H'=>Q .non H',rt:=Q } (start N vs) H):↑FnOk Ġ ñ f fd ps sp:=by
 exists[oc,od,kV,doc,pm,an,cdv,ct,osl,rfl,lk,hcd],F.ex;exact AE lk hcd S len λA outer s H vs Q E hr hsp=>let⟨t,h,q⟩:=hb cdv A outer s H vs Q E hr hsp;#[t,h.h,q]
structure FnX(P:OF)(w:OG)(K:Qa)(mg:OA)(base:í)(k:Ò)(x:Str)(ps:Č)(sp:Sp):Prop where
 ex:∃f fd,FnOk P w K mg base Ġ k f fd ps sp/\mg x=some (.ref f)/\W.keepIn K (.ref f)=true/\Binds K fd ps []
def XP(X:Cx)(ON:Oy)(Y:St)(E:XK)(e:OE)(s':OD):Prop:=∃s0 H0,Inv X ON Y H0 s0/\CXr Ľ X.w Ö H0 s0 E e s'
abbrev TX:=St->Hp->VK->XK->Prop
structure QX(X:Cx)(e:OM)(t:TX):Prop where
 h:∀(ON:Oy) (s:OD) (Y:St) (H:Hp) (Q:VK) (E:XK),Inv X ON Y H s->t Y H Q E->wpAny ä X.A (eval e Ø) (EP X ON Y Q) ī s
abbrev TSX:=Ends->St->Hp->XK->Prop
structure QSX(X:Cx)(st:Stmt)(t:TSX):Prop where
 h:∀(ON:Oy) (s:OD) (Y:St) (H:Hp) (D:Ends) (E:XK),Inv X ON Y H s->t D Y H E->wpAny ä X.A (exec st Ø) ķ ī s
section
variable{pos:Pos}
theorem IS(he:QX X e tx)(hs:swapsWith e none Ŗ Ø=pure false:=by rfl):QSX X (.Expr e pos) (λD Y H E=>tx Y H (λ_ H1=>D.nx Y H1) E):=by refine#[?_];intro ON s Y H D E I h;exact wpAny_Expr_any (thn (he.h ON s Y H _ E I h) λv s1 ⟨y,H1,I1,r1,q1⟩=>#[Y,H1,I1,q1]) I.quiet hs
#check 0
structure Fl(X:Cx)(H0 H':Hp)(s0 s':OD)(B:í):Prop where
 os:s'.os=s0.os
 bare:AllBare s'.gens
 un:Un (frs Ö) [] H0 H' s0.heap s'.heap
 hok:HOk Ľ X.w H' s'.heap
 kb:∀b o,b∉frs Ö->Ñ->s'.heap.get? b=some o->B.get? b=some o
section
variable{X:Cx}{ON:Oy}{Y:St}{H0 H':Hp}{s0 s':OD}{B h':í}
theorem Fl.inv(F:æ)(I:î):Inv X ON Y H' s':=I.call' F.os F.un F.hok F.bare λ_ z=>nomatch z
theorem Fl.nf(F:æ)(I:î)(h:H' b=some u):b∉frs Ö:=λhm=>by have:=(F.inv I).stkFree b hm;rw[h]at this;cases this
theorem Fl.move{tk:Ò}(F:æ)(I:î)(st:B.StaysIn h')(up:s'.heap.UpToSlots h'):Fl X H0 H' s0 { s' with heap:=h',toks:=tk } B:=by
 have kp:∀b o,b∉frs Ö->Ñ->s'.heap.get? b=some o->h'.get? b=some o:=λb o h1 h2 h3=>st b o (F.kb b o h1 h2 h3);have sl:∀b o,b∈frs Ö->s'.heap.get? b=some o->∃sl,h'.get? b=some { o with slots:=sl }:=λb o hm q=>by exists[_,o',ho',hd],(F.inv I).stack.mem hm;have e:s'.heap.get? b=some o':=ho';rw[q]at e;cases e;exact up b o q hd
 refine#[F.os,F.bare,#[λb o q n hb hx=>kp b o hb Ĭ (F.un.keep b o q n hb hx),λb o q n hb hx=>?_,F.un.free,λb o q hx=>?_,F.un.tups,F.un.frzs,F.un.tbls],λb u q=>?_,λb o hb ho q=>?_]
 .exists[s1,e1],F.un.slot b o q n hb hx;exists[s2,e2],sl b _ hb e1;exact#[s2,e2]
 .exists[o',e1],F.un.there b o q hx;by_cases hb:b∈frs Ö
  .exists[s2,e2],sl b o' hb e1;exact#[_,e2]
  .exact#[o',kp b o' hb Ĭ e1]
 .refine(F.hok b u q).stay (λc v hc z=>kp c v ?_ ?_ z) (λ_ z=>z) λ_ _ z=>z
  .rcases hc with z'|z'
   .rw[z'];exact F.nf I q
   .exact F.nf I z'
  .rcases hc with z'|z'
   .rw[z'];exact .inl #[u,q]
   .exact .inl #[_,z']
 .obtain⟨o1,q1⟩:∃o1,s'.heap.get? b=some o1:=by
   rcases ho with⟨u,z⟩|⟨o0,z⟩
   .exact jO (F.hok b u z)
   .exact F.un.there b o0 z à
  have q2:=kp b o1 hb ho q1;have q':h'.get? b=some o:=q;rw[q']at q2;cases q2;exact F.kb b o hb ho q1
#check 0
structure ExC(K:Qa)(C:OC)(bm:OB):Prop where
 cls:∀h,K.In h->∃nm q N bs hdct sn sub ab col dd k0 k1 k2 k3 k5 ni,h.get? C=some (excClassObj nm q C N bs bm hdct sn sub ab col dd k0 k1 k2 k3 k5 ni)
 exc:bm.contains Æ=true
theorem yA{s:OD}{K:Qa}{Q:Į}(hC:ExC K C bmC)(hT:ExC K T bmT)(hk:K.In á)(he:Ć)(hcls:oe.cls=.ref C)(hq:Q ((Value.ref C::bmC).contains (.ref T)) s):wpAny M A (excMatches ø (.ref T)) Q E s:=by
 exists[nm,q,N,bs,hdct,sn,sub,ab,col,dd,k0,k1,k2,k3,k5,ni,oC],hC.cls _ hk;exists[nm',q',N',bs',hdct',sn',sub',ab',col',dd',k0',k1',k2',k3',k5',ni',oT],hT.cls _ hk;exists[hp,g,d,tk,os],s;have hcB:(Value.ref T::bmT).contains Æ=true:=by rw[x8,hT.exc,Bool.or_true]
 have f:=tc_notTuple;unfold excMatches;generalize hr:(Value.ref C::bmC).contains (Value.ref T)=r at hq
 repeat(first|(with_reducible refine YX he ?_;rw[hcls])|with_reducible refine YX oT ?_|(with_reducible refine wpAny_isSubtype_exc oT ?_;rw[hcB])|(with_reducible refine wpAny_isSubtype_exc oC ?_;rw[hr])|wp_step)
 cases r<;>(first|exact hq|(wp_walk;exact hq))
def Cx.exc(X:Cx)(e:OE):Cx:={ X with A:=X.A.mark (some e),calm:=false,xe:=λ_ _=>False }
section
variable{X:Cx}{e:OE}
theorem Inv.exc(I:È)(e:OE):Inv Ő ON Y H s :=
 #[#[I.ok.mod,I.ok.kind,I.ok.glob,I.ok.blt,I.ok.above,I.ok.inj,I.ok.has,I.ok.cab,λz=>(nomatch z),I.ok.frames,I.ok.stk,I.ok.exf,I.ok.bs,I.ok.bsz,I.ok.noex,I.ok.exfs,I.ok.funs,I.ok.frf],I.os,I.bare,I.base,I.loc,I.cell,I.free,I.freeC,I.pin,I.hok,I.len]
theorem Inv.unexc(ok:X.Ok)(I:Inv Ő ON Y H s):Inv X ON Y H s:=#[ok,I.os,I.bare,I.base,I.loc,I.cell,I.free,I.freeC,I.pin,I.hok,I.len]
#check 0
abbrev TH:=Ends->St->OE->Option OC->Hp->Prop
structure QH(X:Cx)(hs:List ExceptHandler)(th:TH):Prop where
 h:∀(ON:Oy) (s0:OD) (H0:Hp) (Y:St) (D:Ends) (ea t:OC) (C:OE) (B:í) (H':Hp) (dc:ÿ) (s':OD),Inv X ON Y H0 s0->Fl X H0 H' s0 s' B->Heap.FlyingW B Ö ea C é s'.heap->fh s'.heap ea dc->th D Y C dc H' ->
  wpAny ä X.A (handleBy (.ref ea) Ø hs) ķ X.xe s'
section
variable{X:Cx}
def M5(tb:TSX)(th:TH):TS:=λD Y H=>tb D Y H λC dc H1=>th D Y C dc H1
theorem Ld{st:Stmt}(hst:Ö=Ø::X.outer)(hfr:X.env.frame=some Á)(hb:QSX X st tb)(hh:QH X (h0::hs) th):
  QS X (.Try [st] (h0::hs) [] [] pos) (M5 tb th):=by
 refine#[?_];intro ON s Y H D I h;refine wpAny_Try_except (wpAny_execs_cons (ZQ (hb.h ON s Y H D _ I h) (λf s1 q=>?_) (λe s1 x=>?_)))
 .cases f with
  |next=>exact wpAny_execs_nil (wpAny_execs_nil q)
  |brk=>exact q
  |cont=>exact q
  |ret v=>exact q
 .exists[s0,H0,I0,ea,t,C,vs,B,H',dc,rfl,os,bare,un,hok,fly,tup,hBt,kb,dd,q],x;have F:Fl X H0 H' s0 s1 B:=#[os,bare,un,hok,kb]
  have fr:X.A.frames=some (Ø::X.outer):=by rw[<-hst];exact I.ok.frames
  rw[hst]at fly;refine rf fr hfr fly dd λh4 held up4 dd4=>?_;exists[f1,f2,f3,f4],held;refine mG f1 f3 f4 dd4 λh5 k1 k2 k3 up5 dd5=>?_;have F5:=(F.move (tk:=ı) I0 k1 (up4.trans up5))
  rw[<-hst]at k2;exact hh.h ON s0 H0 Y D ea t C B H' dc _ I0 F5 #[k1,f2,k2,k3] dd5 q
#check 0
abbrev VE:OB:=[.type "ValueError",.type "Exception",.type "BaseException",.type "object"]
def qQ(K:Qa)(C:OC):Prop:=∃dd cd k0 k1 k2 k3 k5 bm,K.lookup C=some #[.type "type",dd,.cls cd,(List.toArray [k0,k1,k2,k3,some (.builtin "ValueError.__new__"),k5])]/\cd.mro=Value.ref C::bm/\cd.hasDel=false/\tailIn K VE bm=true/\nsOkIn K cd.ns=true/\nsIn K cd.ns "__init__" = some none
structure ExcAt(K:Qa)(C:OC)(bm:OB):Prop where
 isIn:qQ K C
 mro:∃c d cd sl,K.lookup C=some #[c,d,.cls cd,sl]/\cd.mro=Value.ref C::bm
 exc:bm.contains Æ=true
theorem um{K:Qa}(q:Ą)(X:K.In h):
  ∃nm qn N bs hdct sn sub ab col dd k0 k1 k2 k3 k5 mN,h.get? C=some (excClassObj nm qn C N bs bm hdct sn sub ab col dd k0 k1 k2 k3 k5 "ValueError.__new__")/\h.Ns N mN/\mN "__init__" = none/\OwnTail h VE bm:=by
 exists[dd,cd,k0,k1,k2,k3,k5,bm',ho,hm,nd,ht,ok,ni],q.isIn;exists[c9,d9,cd9,sl9,l9,m9],q.mro;have z:=ho.symm.trans l9;cases z;rw[hm]at m9;cases m9;exists[nm,bs,mro,ns,qn,hd,sn,sub,ab,col,del],cd;dsimp only at hm nd ok ni;cases hm;cases nd;exact#[nm,qn,ns,bs,hd,sn,sub,ab,col,dd,k0,k1,k2,k3,k5,_,X _ _ ho,.of_isNs (isNs_of_in X ok),nsMap_none_of_in X ok ni,tail_of_in X ht]
theorem wJ{K:Qa}(q:Ą):ExC K C bm where
 cls:=λh X=>by exists[nm,qn,N,bs,hdct,sn,sub,ab,col,dd,k0,k1,k2,k3,k5,mN,e,_],um q X;exact#[nm,qn,N,bs,hdct,sn,sub,ab,col,dd,k0,k1,k2,k3,k5,_,e]
 exc:=q.exc
theorem qk{K:Qa}(q:Ą):ExCls K C where
 cls:=λh X=>by exists[nm,qn,N,bs,hdct,sn,sub,ab,col,dd,k0,k1,k2,k3,k5,mN,e,e2,e3,e4],um q X;exact#[nm,qn,N,bs,bm,hdct,sn,sub,ab,col,dd,k0,k1,k2,k3,k5,mN,e,e2,e3,(wJ q).exc,e4]
structure ExK(K:Qa)(c:OC):Prop where
 hc:(clsIn K c).isSome=true
 hga:findIn K Ĩ "__getattribute__" = some (some (.builtin "BaseException.__getattribute__"))
 hgh:findIn K Ĩ "__getattr__" = some none
 ha:findIn K Ĩ "__class__" = some (some (.builtin "object.__class__"))
 hb:mroIn K c Æ=some true
 hm:mroIn K c (.type "object")=some true
def ML(i:Int):Str:=Str.ofString (toString i)
section
variable{K:Qa}
def Gw(K:Qa):V->List V->Hp->VK->Prop:=λx xs H Q=>∃(sep:Str) (p:OC) (ys:Č),x=.str sep/\xs=[.ref p]/\SqL K H p Ĥ/\(ys.map (·.length)).sum+Ė*sep.length<=16777216/\Q (.str (Txt.join sep ys)) H
theorem zU:∀{ys:Č} {us:OB},Vals Ĥ us->StrsAre us ys
 | [],_,h=>by cases h;exact .nil
 |y::ys,_,h=>by
  cases h with
  |cons r1 r2 =>exists[t,rfl],r1;exact .cons _ _ (zU r2)
theorem HK:MtR X "str.join" (Gw ħ):=by intro ON s Y H x xs v us Q I rx r h;exists[sep,p,ys,rfl,rfl,hl,hz,q],h;exists[t,rfl],rx;exists[u,rfl,ru],dH r;cases ru;exists[its,rv,pl,_],I.list hl;exact join_list ņ (by simpa using zU rv) hz λt' k=>#[.str _,H,I.tok _,#[_,rfl],q]
theorem KZ{apos cpos:Pos}(ho:QE X o to)(he:QE X e te)(hs:aS e=true:=by rfl)(hbase:attributeBase o "join" X.env (eval o Ø)=eval o Ø:=by rfl)(hline:(apos.endLine==cpos.line)=true:=by rfl):
  QE X (.Call (.Attribute o "join" apos) [e] [] cpos) (tBM ħ "str" (Gw ħ) to (gC te gN)):=by
 have h1:=aV (es:=[]) (env:=Ø) hs;have h2:starEach ([]:List OM) Ø=[]:=rfl;refine#[Ba PySem.F.plainAttrs_str PySem.F.slot_str_join PySem.F.type_str_join HK ho.h (zA he.h rE (hs:=h1)) (hbase:=hbase) (hfew:=?_) (hline:=hline) (hs:=h1) (hplain:=by rw[h2];rfl)];rw[h1,h2];rfl
theorem MD:QIx X K3:=#[JT]
theorem Kc:QOp X (binaryOp .Add) (λx y H Q=>∃i j,x=.str i/\y=.str j/\i.length+j.length<=sizeLine/\Q (.str (i++j)) H):=#[A9]
#check 0
theorem ze{K:Qa}{a b:OC}{xs ys:ù}{i j:Ò}{tb:TS}{D:Ends}{Y:St}{H:Hp}(Pv:Ğ)(h0:Pv 0 Y H)(ha:∀i Y H,i<=À->Pv i Y H->SqT K H a xs)(hb:∀i Y H,i<=À->Pv i Y H->SqT K H b ys)(hl:À=Ė)(hs:∀k x y Y H,xs[k]?=some x->ys[k]?=some y->Pv k Y H->∀T,H T=none->tb { D with nx:=Pv ñ,ct:=Pv ñ,bk:=D.nx } ((Y.set i (some x)).set j (some y)) (upd H T (.tup [x,y])))(hd:ú) :
  ∃W:Nat->Nat->St->Hp->Prop,Ĝ/\∀k m Y H,W k m Y H ->
   ((Itz K a b xs ys).stop k H/\D.nx Y H)\/((Itz K a b xs ys).go k H/\∃N:St->Hp->Prop,Ï/\∀x H',(Itz K a b xs ys).yld k H x H'->nS K 2 ó x Y H' λσ2 H2=>tb { D with nx:=N,ct:=N,bk:=D.nx } σ2 H2):=by
 refine#[λk m Y H=>m=À-k/\k<=À/\Pv k Y H,#[À,by simp,ZL _,h0],?_];rintro k m Y H ⟨rfl,hk,pv⟩;by_cases hlt:k<À
 .refine .inr #[#[hlt,ha k Y H hk pv,hb k Y H hk pv],Pv ñ,λσ' H' z=>#[À-ñ,∅,rfl,hlt,z],λx H' y=>?_];exists[T,p,q,hT,hx,hy,rfl,rfl],y;exact#[T,[p,q],rfl,OP ac,rfl,p,[q],rfl,q,[],rfl,rfl,hs k p q Y H hx hy pv T hT]
 .have e:k=À:=∅
  subst e;exact .inl #[#[rfl,ha _ Y H hk pv,hb _ Y H hk pv],hd Y H pv]
theorem wE{J:It}{N n:Ò}{g:TG}{te:TE}{Q:VK}(Pv:Nat->List V->Hp->Prop)(hz:N<=1000)(hn:∀i ys H,Pv i ys H->Ė=i)(h0:Pv 0 [] H0)(hgo:∀i ys H,i<N->Pv i ys H->J.go i H)(hst:∀ys H,Pv N ys H->J.stop N H)(ht:∀i ys H x H',i<N->Pv i ys H->J.yld i H x H'->∀A:VK,(∀v H4,Pv į ő H4->A v H4)->g x (cZ n cap Y) H' λσ2 H2=>te σ2 H2 A)(hq:∀ys p H,Pv N ys H->H p=none->Q (.ref p) (upd H p (.lst ys))):ir n cap g ny te Y J H0 Q:=by
 refine#[λi m ys H=>m=N-i/\i<=N/\Pv i ys H,#[N,by simp,ZL _,h0],?_];rintro i m ys H ⟨rfl,hi,pv⟩;by_cases hlt:i<N
 .refine .inr #[hgo i ys H hlt pv,by rw[hn i ys H pv];exact aU ∅,λx H' y=>?_];have k:=ht i ys H x H' hlt pv y (λv H4=>∃m',m'<N-i/\m'=N-į/\i+1<=N/\Pv į ő H4) (λv H4 z=>#[N-į,∅,rfl,hlt,z]);unfold ny;simpa using k
 .have e:i=N:=∅
  subst e;exact .inl #[hst ys H pv,λp hp=>hq ys p H pv hp]
def dq(z:Str)(lo hi:ē):Str:=if(Builtin.Str.strSliceIndices lo hi 1 ģ).length=z.length then z else#[((Builtin.Str.strSliceIndices lo hi 1 ģ).filterMap (z.cps[·]?)).toArray]
theorem Ec(z:Str)(lo hi:ē):(dq z lo hi).length<=ģ:=by
 unfold dq;split
 .exact Zi _
 .show(List.filterMap _ _).toArray.size<=_;rw[Zk];exact Zs (List.length_filterMap_le _ _) (indices_len_le _ _ _)
def KIn{α:Type}(n:Ò)(P:α->Prop):KasT α->Prop
 |.ret a=>P a
 |.ask i j k=>i<n/\j<n/\∀b,KIn n P (k b)
theorem KIn.bind{α β:Type}{n:Ò}{P:α->Prop}{R:β->Prop}{f:α->KasT β}:∀{t:KasT α},KIn n P t->(∀a,P a->KIn n R (f a))->KIn n R (t.bind f)
 |.ret _,h,k=>k _ h
 |.ask _ _ _,⟨h1,h2,h3⟩,k=>#[h1,h2,λb=>KIn.bind (h3 b) k]
def POk(n:Ò)(p:OK):Prop:=p.Perm (List.range n).toArray
theorem POk.lt{n:Ò}(h:Þ)(hn:Ŕ)(k:Ò):p.getD k 0<n:=by
 rw[x9];cases e:p[k]? with
 |none=>exact hn
 |some x =>have hm:x∈p:=Array.mem_of_getElem? e;have:=(h.mem_iff).mp hm;simpa using this
theorem POk.rev{n:Ò}(h:Þ)(i j:Ò):POk n (kas_rev p i j):=(mirror_perm p i j _).trans h
theorem POk.bub{n:Ò}(h:Þ)(i j:Ò):POk n (bubble p i j):=(bubble_perm p i j).trans h
theorem sK{n:Ò}(hn:Ŕ)(h:Þ):∀f k,KIn n ĸ (kas_asc p f k)
 |0,_=>trivial
 | f+1,k=>#[h.lt hn _,h.lt hn _,λc=>by
  cases c with
  |true=>exact trivial
  | false=>exact sK hn h f ñ]
theorem mP{n:Ò}(hn:Ŕ):∀(f:Ò) {p:OK},POk n p->∀k q,KIn n (λr=>POk n r.1) (kas_desc f p k q)
 |0,_,h,_,_=>h
 |f+1,p,h,k,q=>by
  refine#[h.lt hn _,h.lt hn _,λc=>?_];cases c with
  |true =>
   show KIn n _ (if q>0 then _ else _);split
   .exact mP hn f Ĺ _ _
   .exact mP hn f h _ _
  |false =>
   refine#[h.lt hn _,h.lt hn _,λd=>?_];cases d with
   |true=>exact h
   |false=>exact mP hn f h _ _
theorem xn{n:Ò}(hn:Ŕ)(h:Þ)(k r:Ò):KIn n ì (kas_tail3 k r p):=KIn.bind (sK hn (h.rev 0 k) _ _) λ_ _=>h.rev 0 k
theorem nV{n:Ò}(hn:Ŕ)(h:Þ)(k r:Ò):KIn n ì (kas_descPart k r p):=KIn.bind (mP hn _ h _ _) λx hx=>by
 show KIn n _ (if x.2.2>0 then _ else _);split
 .exact xn hn (hx.rev _ _) _ _
 .exact xn hn hx _ _
theorem Cv{n:Ò}(hn:Ŕ)(h:Þ)(r:Ò):KIn n ì (kas_count r p):=KIn.bind (sK hn h _ _) λk _=>by
 show KIn n _ (if(k==r)=true then _ else if k>1 then _ else _);split
 .exact h
 .split
  .refine#[h.lt hn _,h.lt hn _,λc=>?_];cases c with
   |true=>exact h
   |false=>exact nV hn Ĺ _ _
  .exact nV hn h _ _
theorem nW{n:Ò}(hn:Ŕ)(h:Þ)(k:Ò):∀f l r,KIn n ĸ (kas_place p k f l r)
 |0,_,_=>trivial
 |f+1,l,r=>by
  show KIn n _ (if l>=r then _ else _);split
  .exact trivial
  .refine#[h.lt hn _,h.lt hn _,λc=>?_];cases c with
   |true=>exact nW hn h k f _ _
   |false=>exact nW hn h k f _ _
theorem zo{n:Ò}(hn:Ŕ):∀(f:Ò) {p:OK},POk n p->∀k,KIn n (POk n) (kas_bin f p k)
 |0,_,h,_=>h
 |f+1,_,h,k=>KIn.bind (nW hn h k _ _ _) λ_ _=>zo hn f (h.bub _ _) ñ
theorem EB{n:Ò}(hn:Ŕ):KIn n (POk n) (kas_sort n):=KIn.bind (Cv hn (Array.Perm.refl _) _) λr hr=>by
 show KIn n _ (if r.1<n then _ else _);split
 .exact zo hn _ hr _
 .exact hr
section
variable{X:Cx}
theorem Jy{K:Qa}(hK:ħ=K)(hc:ń):QCall X (.builtin "sum") (λxs H Q=>∃(p:OC) (ns:OJ),xs=[.ref p]/\SqT K H p (ns.map V.int)/\Q (.int ľ) H):=by
 subst hK;refine#[?_];intro ON s Y H xs us Q I r h;exists[p,ns,rfl,hS,q],h;exists[u,rfl,ru],dH r;cases ru;exists[its,rv,pl,hz],I.tuple hS;exists[ys,e1,e2],qV (dM rv);have hl:s.heap.IsTuple p (intItems Ŀ):=by exists[o,ho,hc',n,hd],pl;rw[e1]at hd;exact#[o,ho,hc',n,by simpa[intItems]using hd]
 refine ktm_sumG ā hl λh' tk t' hk=>#[.int ľ,H,I.kept (t':=tk) hk,#[t',?_],q]
 have e:preSum (numAt Ŀ) ys.toArray.size=ľ:=by rw[preSum_eq,YK à,e2]
 rw[e]
theorem LV:QOp X (binaryOp .Mult) K6:=#[Kp]
theorem gh{K:Qa}(hK:ħ=K):QOp X (compareOp .In) (rIn K false):=by subst hK;exact#[CY]
#check 0
structure LtOk(lt:OL):Prop where
 as:∀{a b},lt a b=true->lt b a=false
 tr:∀{a b c},lt b a=false->lt c b=false->lt c a=false
def gA(p:OK)(k:Ò):Nat:=p.getD k 0
def Lx(lt:OL)(a b:Ò):Prop:=lt b a=false/\(lt a b=true\/a<b)
section
variable{lt:OL}(O:LtOk lt)
include O
#check 0
structure Fx(N:Ò)(p:OK)(m:Ò):Prop where
 sz:p.size=N
 hi:∀k,m<=k->k<N->gA p k=k
 lo:∀i,i<m->gA p i<m
section
variable{lt:OL}(O:LtOk lt){N:Ò}
include O
structure Dn(lt:OL)(p:OK)(n q:Ò):Prop where
 hq:q+1<=n
 up:∀i j,i<j->j<n-ŀ->Lx lt Ċ ċ
 cr:∀i j,i<n-ŀ->n-ŀ<=j->j<n->lt Ċ ċ=true
 eq:∀i j,n-ŀ<=i->i<j->j<n->lt ċ Ċ=false/\lt Ċ ċ=false/\gA p i<gA p j
#check 0
def Ite(K:Qa)(a:OC)(xs:ù):It :=
 #[λi H=>i<À/\SqL K H a xs,λi H x H'=>∃T p,H T=none/\xs[i]?=some p/\x=.ref T/\H'=upd H T (.tup [.int i,p]),λi H=>i=À/\SqL K H a xs]
abbrev eTn(e it a:OC):Nat->Heap->Prop:=λi h=>(∃old,IsEnum h e it i old)/\h.IsListIter it a i
theorem DM{K:Qa}{kt:Ò}(ne:e≠it)(ha:e≠a/\it≠a):
  Turn P w K ß Ĳ [e,it] e (eTn e it a):=by
 refine#[by simp,λi h st c hc=>?_,λi h h' st k=>?_,?_,?_,λA i s Q E st h=>?_]
 .obtain⟨⟨old,e1⟩,⟨o4,e4,_,d4⟩⟩:=st;simp only[Zg,ZB,Z9]at hc;rcases hc with rfl|rfl
  .exact#[_,e1,λv z=>nomatch z]
  .exact#[_,e4,λv z=>by rw[d4]at z;cases z]
 .obtain⟨⟨old,e1⟩,⟨o4,e4,r4⟩⟩:=st;exact#[#[old,k e à _ e1],#[o4,k it à _ e4,r4]]
 .intro X hP hw hK hc i ON s Y H E I hf st hg;subst hP hw hK;obtain⟨⟨old,e1⟩,e4⟩:=st;exists[hi,hx],hg;exists[its,rx,px,zx],I.list hx;have lx:i<Õ:=by rw[Zk,<-Ň];exact hi
  have hh:=I.ok.hd hc;refine wpAny_pyNext_enum_itemD (Draws.list (A:=X.A.in1) hh it a ha.2.symm Ĵ) e1 #[e4,ň] lx ne (by simp[ne,ha.1]) λx h' tk qx ho hs' hT hsz hk=>?_;refine#[_,rfl,wpAny_letOwnedTupleGo_enum (s:={ s with heap:=h',toks:=tk+1 }) ho λh2 he2 sb=>?_];obtain⟨xv,ex⟩:∃xv,xs[i]?=some xv:=#[xs[i],by simp[hi]]
  exists[x',gx,rxv],rx.get ex;have qx':its[i]?=some x:=by simpa using qx
  rw[gx]at qx';cases qx';have lte:e<Ì:=Zq e1;have kp2:∀c o,c∉[e,it]->s.heap.get? c=some o->h2.get? c=some o:=λc o hc q=>by simp only[Zg,ZB,Z9,not_or]at hc;exact Ŋ c o hc.1 (hk c o hc.1 hc.2 q)
  have tT:IsTup h2 Ì [.int i tk,x].toArray:=#[_,sb.extBut _ _ (Yb lte) hT,rfl,_,rfl]
  refine#[.ref Ì,upd H Ì (.tup [.int i,xv]),I.turnT (t':=tk+1) hf kp2 tT (.cons #[tk,rfl] (.cons rxv .nil)) (sz rfl),rfl,#[_,xv,I.hok.fresh ō,ex,rfl,rfl],?_,λc hc=>?_]
  .exact#[#[_,by simpa using he2],hs'.1.extBut Ŋ ne.symm]
  .rw[af]
   .exact(hf c hc).1
   .obtain⟨o,eo⟩:∃o,s.heap.get? c=some o:=by
     simp only[Zg,ZB,Z9]at hc;rcases hc with rfl|rfl
     .exact#[_,e1]
     .exists[o,eo,_],e4;exact#[o,eo]
    exact Zz (Zq eo)
 .intro X hP hw hK hc i ON s Y H E I hf st hg;subst hP hw hK;obtain⟨⟨old,e1⟩,e4⟩:=st;exists[rfl,hx],hg;exists[its,rx,px,zx],I.list hx;have lx:Õ=À:=by rw[Zk,<-Ň]
  have hh:=I.ok.hd hc;refine wpAny_pyNext_enum_endD (Draws.list (A:=X.A.in1) hh it a ha.2.symm Ĵ) e1 #[by rw[lx];exact e4,ň] λh' kp=>#[rfl,?_]
  exact I.turnM (t':=â) hf λc ob hc q=>by simp only[Zg,ZB,Z9,not_or]at hc;exact kp c ob hc.2 q
 .obtain⟨⟨old,e1⟩,_⟩:=st;exact wpAny_pyIter_enum e1 h
def Ge(K:Qa)(ta:TA):TI:=λY H R=>ta Y H λvs H1=>∃a xs,vs=[.ref a]/\H1 a=some (.lst xs)/\R Ĳ H1
section
variable{X:Cx}
theorem Io{kt:Ò}(hg:Gl X "enumerate")(hm:Ā)(ha:Ļ)(n1:ŕ):PI X ß Ú Ł:=by
 intro ON s Y H R I h;refine Call_ (ic I hg hm boot_enumerate Ç);exists[vs,H1,I1,r1,q1],hz9;exists[a,xs,e,hx,q],q1;subst e;exists[ua,rfl,ra],dH r1;cases ra;exists[z,its,n,rx,hl',eo],I1.lstM hx;have la:a<Â:=Zq eo;refine call_enumerate_1 eo λh' he hl hz hk=>wpAny_pyIter_enum he ?_;refine#[Â+1,[Â+1,Â],eTn (Â+1) Â a,_,H1,rfl,I1.kept (t':=ı) hk,DM (Nat.succ_ne_self _) #[Yb (Xe la),Yb la],#[#[_,he],hl],λc hc=>?_,q];have hc':Â<=c:=by
  simp only[Zg,ZB,Z9]at hc;rcases hc with rfl|rfl
  .exact YR _
  .exact Zi _
 exact I1.fpOk hc' (I1.hok.fresh hc')
theorem Cn{kt:Ò}(hm:Ā)(ha:ļ)(hg:Gl X "enumerate":=by rfl)(n1:aS e1=true:=by rfl):QI X ß Ú Ł:=#[Io hg hm ha.h n1]
#check 0
theorem wM{K:Qa}{a:OC}{xs:ù}{i j:Ò}{tb:TS}{D:Ends}{Y:St}{H:Hp}(Pv:Ğ)(h0:Pv 0 Y H)(ha:∀i Y H,i<=À->Pv i Y H->SqL K H a xs)(hs:∀k x Y H,xs[k]?=some x->Pv k Y H->∀T,H T=none->tb { D with nx:=Pv ñ,ct:=Pv ñ,bk:=D.nx } ((Y.set i (some (.int k))).set j (some x)) (upd H T (.tup [.int k,x])))(hd:ú) :
  ∃W:Nat->Nat->St->Hp->Prop,Ĝ/\∀k m Y H,W k m Y H ->
   ((Ite K a xs).stop k H/\D.nx Y H)\/((Ite K a xs).go k H/\∃N:St->Hp->Prop,Ï/\∀x H',(Ite K a xs).yld k H x H'->nS K 2 ó x Y H' λσ2 H2=>tb { D with nx:=N,ct:=N,bk:=D.nx } σ2 H2):=by
 refine#[λk m Y H=>m=À-k/\k<=À/\Pv k Y H,#[À,by simp,ZL _,h0],?_];rintro k m Y H ⟨rfl,hk,pv⟩;by_cases hlt:k<À
 .refine .inr #[#[hlt,ha k Y H hk pv],Pv ñ,λσ' H' z=>#[À-ñ,∅,rfl,hlt,z],λx H' y=>?_];exists[T,p,hT,hx,rfl,rfl],y;exact#[T,[.int k,p],rfl,OP ac,rfl,.int k,[p],rfl,p,[],rfl,rfl,hs k p Y H hx pv T hT]
 .have e:k=À:=∅
  subst e;exact .inl #[#[rfl,ha _ Y H hk pv],hd Y H pv]
section
variable{X:Cx}{ON:Oy}{Y:St}{H:Hp}{s:OD}{h':í}
theorem Inv.movedF{ch:ğ}{t':Ò}(I:È)(hch:ć)(k:Ë)(hn:ê):Inv X ON Y H { s with heap:=h',toks:=t' }:=by
 have neL:∀{b:OC} {u:HO},H b=some u->b≠Á:=fun{b u} e=>aj e I.free;have neC:∀{b:OC} {u:HO},H b=some u->b∉ch:=fun{b u} e z=>by have:=(hch b z).1;rw[e]at this;cases this
 refine I.step (g':=s.gens) (d':=s.drawn) (ch:=ch) Å ã Ô (λb o _ e n=>n) ĝ
  (λb xs e=>e) (λb o u e=>e) (λb ps e=>#[#[],by rw[e];simp]) ĥ ĭ I.bare
 .by_cases hL:b=Á
  .exists[m,_,o',_,_,e',_],hn;exact#[o',by rw[hL];exact e']
  .exact#[o,k b o hL hc e]
 .exists[m,h1,h2],hn;rw[hm'.eq_nsMap,<-ĵ];exact h2
 .refine(I.hok b u e).stay ò (λc q=>q) λc ys q=>q
  .rcases hc with z|z
   .rw[z];exact neL e
   .exact neL z
  .rcases hc with z|z
   .rw[z];exact neC e
   .exact neC z
theorem Inv.tookF{ch:ğ}{a:OC}{o:HO}{t':Ò}(I:È)(ha:a∈ch)(hch:ć)(k:Ë)(hn:ê)(new:ObjOk Ľ X.w ĺ h' a o):Inv X ON Y ĺ { s with heap:=h',toks:=t' }:=by
 have fr:=(hch a ha).1;have ne:∀{b:OC} {u:HO},H b=some u->b≠a:=fun{b u} e=>aj e fr;have neL:∀{b:OC} {u:HO},H b=some u->b≠Á:=fun{b u} e=>aj e I.free;have neC:∀{b:OC} {u:HO},H b=some u->b∉ch:=fun{b u} e z=>by have:=(hch b z).1;rw[e]at this;cases this
 refine I.step (g':=s.gens) (d':=s.drawn) (ch:=ch) Å ã Ô (λb o hc e n=>by rw[af (λz:b=a=>hc (by rw[z];exact ha))];exact n) ĝ
  (λb xs e=>by rw[af Ŏ];exact e) (λb o u e=>by rw[af Ŏ];exact e) (λb ps e=>#[#[],by rw[af Ŏ,e];simp]) ĥ ĭ I.bare
 .by_cases hL:b=Á
  .exists[m,_,o',_,_,e',_],hn;exact#[o',by rw[hL];exact e']
  .exact#[o,k b o hL hc e]
 .exists[m,h1,h2],hn;rw[hm'.eq_nsMap,<-ĵ];exact h2
 .by_cases hb:b=a
  .subst hb;rw[ac]at e;cases e;exact new
  .rw[af hb]at e;refine(I.hok b u e).stay ò (λc q=>by rw[af (ne q)];exact q) λc ys q=>by rw[af (ne q)];exact q
   .rcases hc with z|z
    .rw[z];exact neL e
    .exact neL z
   .rcases hc with z|z
    .rw[z];exact neC e
    .exact neC z
def jA(base h:í)(L kS:OC):Oy:=(xP base h L).filter λp=>decide (p.1≠kS)
theorem jR{base h:í}(e:h.get? kS=some o)(hL:kS≠L)(hb:base.get? kS=none):News base L h ((kS,o)::jA base h L kS):=λp hp=>by
 rcases Zg.mp hp with rfl|hp
 .exact#[e,hL,hb]
 .exact pV base h L p (ZH.mp hp).1
theorem mW:∀p∈jA base h L kS,p.1≠kS:=λp hp=>y0 (ZH.mp hp).2
theorem jQ{base h h2:í}(hbk:∀b o,base.get? b=some o->h.get? b=some o)(F:Fr base L h2 m)(N:News base L h2 ((kS,o')::jA base h L kS)):∀b u,b≠L->b∉[kS]->h.get? b=some u->h2.get? b=some u:=λb u hL hk e=>by
 cases q:base.get? b with
 |none=>exact(N (b,u) (.tail _ (ZH.mpr #[jn e hL q,decide_eq_true (λz=>hk (Zh.mpr z))]))).1
 |some o =>have e':=hbk b o q;rw[e]at e';cases e';exact F.keep b u q
structure SK(X:Cx)(ON:Oy)(Y:St)(H1:Hp)(m:OA)(kS D:OC)(e1:Ò)(ks:List OJ)(as:ğ)(e:Ò)(H:Hp)(s:OD):Prop where
 I:Inv X ON Y H s
 sm:Same H1 H
 fk:bQ X ON H kS
 fd:bQ X ON H D
 bk:X.base.get? kS=none
 bd:X.base.get? D=none
 hk:s.heap.get? kS=some (seqObj "list" (List.toArray (as.map Value.ref)) e)
 hd:s.heap.get? D=some (seqObj "list" #[] e1)
 ns:s.heap.Ns Á m
 keys:∀(i:Ò) (a:OC) (k:OJ),as[i]?=some a->ks[i]?=some k->H a=some (.tup (k.map V.int))
#check 0
theorem CA:∀{a b:OJ},HT.lexLt a b=true->HT.lexLt b a=false
 | [],[],h=>by cases h
 | [],_::_,_=>rfl
 |_::_,[],h=>by cases h
 |x::a,y::b,h=>by
  rw[HT.lexLt_cons]at h ⊢;by_cases e:x=y
  .subst e;rw[Ox rfl]at h ⊢;exact CA h
  .rw[Ow e]at h;rw[Ow (λz=>e z.symm)];have:=y0 h;exact decide_eq_false ∅
section
variable{X:Cx}
def wX(X:Cx)(l:ğ):Cx:={ X with ex:=l++Ď }
structure ExOk(X:Cx)(b:OC):Prop where
 old:b∈Ď\/X.s₀.heap.get? b=none
 loc:b≠Á
 cel:∀x c,X.env.cells.lookup x=some c->c≠b
 bas:X.base.get? b=none
 fs:b∉X.fs
theorem Inv.widen(I:È)(hl:∀b∈l,ExOk X b):Inv ĩ ON Y H s:=by
 have ok:(wX X l).Ok:=by
  have o:=I.ok;refine#[o.mod,o.kind,o.glob,o.blt,o.above,o.inj,o.has,o.cab,o.hd,o.frames,o.stk,λb hb=>?_,o.bs,o.bsz,λb ob hb z=>?_,λb hb=>?_,o.funs,o.frf]
  .rcases ZE.mp hb with h|h
   .exact#[(hl b h).loc,(hl b h).cel]
   .exact o.exf b h
  .rcases ZE.mp z with h|h
   .have hb':X.base.get? b=some ob:=hb;rw[(hl b h).bas]at hb';cases hb'
   .exact o.noex b ob hb h
  .rcases ZE.mp hb with h|h
   .exact(hl b h).fs
   .exact o.exfs b h
 have ne:∀{b:OC},b∉l++Ď->b∉Ď:=λh z=>h (ZN _ z);have u:=I.base;exact#[ok,I.os,I.bare,#[λb o e n hb hx=>u.keep b o e n hb ę,λb o e n hb hx=>u.slot b o e n hb ę,λb o e n hx=>u.free b o e n ę,λb o e hx=>u.there b o e ę,u.tups,u.frzs,u.tbls],I.loc,I.cell,I.free,I.freeC,I.pin,I.hok,I.len]
theorem Inv.narrow(I:Inv ĩ ON Y H s)(ok:X.Ok)(hl:∀b∈l,b∈Ď\/X.s₀.heap.get? b=none):Inv X ON Y H s:=by
 have ne:∀{b:OC} {o:Obj},X.s₀.heap.get? b=some o->b∉Ď->b∉l++Ď:=fun{b o} e h z=>by
  rcases ZE.mp z with z|z
  .rcases hl b z with y|y
   .exact h y
   .rw[y]at e;cases e
  .exact h z
 have u:=I.base;exact#[ok,I.os,I.bare,#[λb o e n hb hx=>u.keep b o e n hb ý,λb o e n hb hx=>u.slot b o e n hb ý,λb o e n hx=>u.free b o e n ý,λb o e hx=>u.there b o e ý,u.tups,u.frzs,u.tbls],I.loc,I.cell,I.free,I.freeC,I.pin,I.hok,I.len]
theorem Inv.exOk(I:È)(hb:ĕ)(hL:b≠Á)(h0:X.base.get? b=none):ExOk X b:=by
 have old:b∈Ď\/X.s₀.heap.get? b=none:=by
  by_cases hx:b∈Ď
  .exact .inl hx
  .cases e:X.s₀.heap.get? b with
   |none=>exact .inr rfl
   |some o =>exists[o',e'],I.base.there b o e hx;rw[hb]at e';cases e'
 refine#[old,hL,λx c e z=>?_,h0,λz=>?_]
 .exists[v,o,ho,_],I.cell x c e;rw[z,hb]at ho;cases ho
 .exists[_,o,ho,_],I.ok.funs.mem z;rcases old with y|y
  .exact I.ok.exfs b y z
  .rw[y]at ho;cases ho
theorem Inv.fpW(I:È)(hm:b∈l)(x:ExOk X b)(hb:ĕ):bQ ĩ ON H b:=by refine#[none_of I hb,x.loc,x.fs,.inl (List.mem_append_left _ hm),x.cel,λp hp z=>?_];have:=(I.pin p hp).1;rw[z,hb]at this;cases this
#check 0
section
variable{X:Cx}{pos:Pos}
theorem mV:QE X (.Dict [] [] pos) DG:=#[E1]
theorem cg(hu:Ä)(ho:ï)(hi:ð)(hs:DV i:=by intro _ _;rfl):QE X (.Subscript o i pos) (Bs td ty):=#[Ii ∅ ho.h hi.h hs]
theorem Gv(hu:Ä)(hi:ð)(ho:ï)(hm:behindInMarks .In o=false:=by with_unfolding_all rfl):QE X ô ł:=#[Kw Đ hm]
theorem Bw(hu:Ä)(hi:ð)(ho:ï)(hm:behindInMarks .In o=false:=by with_unfolding_all rfl):QT X ô (tB ł):=#[Dk Đ hm]
theorem nz(hu:Ä)(hi:ð)(ho:ï)(hm:behindInMarks .NotIn o=false:=by with_unfolding_all rfl):QT X (.Compare i [.NotIn] [o] pos) (tB (zW ty td)):=#[Dk (C7 ∅ hi.h ho.h) hm]
theorem iT(hu:Ä)(ho:ï)(hi:ð)(hv:QE X value tv)(hs:swapsWith value (some (.Subscript o i pos')) Ŗ Ø=pure false:=by rfl):QS X (.Assign [.Subscript o i pos'] value pos) (GA td ty tv):=#[Iw ∅ ho.h hi.h hv.h hs]
#check 0
def Itv(K:Qa)(a:OC)(xs:ù):It:=#[λi H=>i<À/\SqL K H a xs,λi H x H'=>H'=H/\xs.reverse[i]?=some x,λi H=>i=À/\SqL K H a xs]
theorem FO{K:Qa}(a it:OC):Turn P w K tg ĳ [it] it (λi h=>h.IsRevIter it a ((À:Int)-1-(i:Ò))) where
 mem:=Zh.mpr rfl
 obj:=λi h st b hb=>by obtain rfl:b=it:=Zh.mp hb;exists[o,e,c,d],st;exact#[o,e,λv z=>by rw[d]at z;cases z]
 keep:=λi h h' st k=>st.at λo e=>k it Ă o e
 item:=by
  intro X hP hw hK hc i ON s Y H E I hf st hg;subst hP hw hK;exists[hi,hq],hg;exists[its,rv,p,hz],I.list hq;have hl:=ŋ;have hx:xs[À-1-i]?=some xs[À-1-i]:=Ze ∅;exists[u,hu,ru],rv.get hx;exists[f0,f1,f2,f3,f4,f5],hf it Ă;have st1:s.heap.IsRevIter it a å:=by rw[show å=(À:Int)-1-(i:Ò) by omega];exact st
  refine wpAny_pyNext_rev_item st1 p.isList (x:=u) (by simpa using hu) λh' st' sb=>?_;have I1:Inv X ON Y H { s with heap:=h' }:=I.turned (t':=â) (λb o hb e=>(sb.2 b hb).trans e) f0 f1 f3 f4 f5;exists[o,e,c,d],id st';rw[show å-1=(À:Int)-1-((i+1:Nat):Int) by omega]at st';exact#[u,rfl,vE (s:={ s with heap:=h' }) e c d ⋯ #[_,H,I1,ru,#[rfl,by rw[List.getElem?_reverse hi];exact hx],st',λb hb=>(hf b hb).1]]
 done:=by intro X hP hw hK hc i ON s Y H E I hf st hg;subst hP hw hK;exists[rfl,hq],hg;exists[f0,f1,f2,f3,f4,f5],hf it Ă;rw[show(À:Int)-1-((À:Ò):Int)=-1 by omega]at st;exact wpAny_pyNext_rev_end ā st λh' eb=>#[rfl,I.turned (t':=â) (λb o hb e=>eb b o hb e) f0 f1 f3 f4 f5]
 self:=λ_ _ _ _ _ st h=>wpAny_pyIter_revIter st h
def JQ(K:Qa)(ta:TA):TI:=λY H R=>ta Y H λvs H1=>∃a xs,vs=[.ref a]/\SqL K H1 a xs/\R ĳ H1
section
variable{X:Cx}
theorem D5:bootBuiltins "reversed" = some (.type "reversed"):=⋯
theorem KJ(hg:Gl X "reversed")(hm:ą)(ha:Ļ)(n1:ŕ):PI X tg Û Ń:=by
 intro ON s Y H R I h;refine Call_ (ic I hg hm D5 Ç);exists[vs,H1,I1,r1,q1],hz9;exists[a,xs,e,hx,q],q1;subst e;exists[ua,rfl,ra],dH r1;cases ra;exists[its,rv,pl,hz],I1.list hx;have hl:=ŋ;refine call_reversed_list ņ (wpAny_pyIter_revIter #[_,Zl _ rfl,rfl,rfl] ?_);refine#[Â,[Â],_,_,H1,rfl,I1.kept (t':=ı) λb o e=>Zb _ e,FO (xs:=xs) a _,#[_,Zl _ rfl,rfl,?_],λb hb=>?_,q]
 .show Data.fields (List.toArray [.ref a,rawInt ((Õ:Int)-1)])=_;rw[Zk,<-hl];simp
 .obtain rfl:=Zh.mp hb;exact I1.fpOk ō (I1.hok.fresh ō)
theorem Gi(hm:ą)(ha:ļ)(hg:Gl X "reversed":=by rfl)(n1:aS e1=true:=by rfl):QI X tg Û Ń:=#[KJ hg hm ha.h n1]
#check 0
end
open Classical in
noncomputable def nO(h:Heap)(dx:Qb)(u:OE):Bool:=decide (∃d as,Reads h u d as/\PyData.canLay0 d=true/\PyData.eqv d dx=true)
open Classical in
mutual
#check#[(List.toArray [.ref h.objs.size,.none,.none,.none,.bool false,.none]),(wpAny_typeNameOf_keyiter hit.typeIs (Za ?_)),(λxs H Q=>∃p kvs,xs=[.ref p]/\Rd H p (.dT kvs)/\∀l ks,H l=none->cY H kvs ks->Q (.ref l) (upd H l (.lst ks))),xs.length,(λxs H Q=>∃(p:OC) (bs:List Bool),xs=[.ref p]/\SqL X.K H p (bs.map V.bl)/\Q (.bl (bs.any id)) H),(Z0 Yl hit.typeIs PySem.F.entry_dict_keyiterator_next ?_ (PySem.F.args_dict_keyiterator_next_1 _)),(xs.map fun(x:List Key×OC×OE)=>V.ref x.2.1),(h.get? C=some (excClassObj nm q C N bs bm hdct sn sub ab col dd k0 k1 k2 k3 k5 newId)),s.heap.objs.size,(model prog w),(Value.ref d==Value.none),(Y0 hit.typeIs (Za ?_)),(.Attribute o m apos),es.size,(Obj.mapFields (·.setIfInBounds 1 (rawInt ((i:Int)+1)))),(DRaw s.heap d es ep),(by simp),(.ref C),(MFn X.prog X.w X.K X.mg X.base k C m ps sp),(backToKw pos (keywordEach [] X.env)),(λi v=>∃e,es[i]?=some e/\v=e.key),(call (.ref fI) (.ref e::rest)),(Za ?_),0,(ExcBaseFacts B newId initId bmB),X.env,h.objs.size,(mN "__init__" = some (.ref fI)),(X.calm=true),(Array DictEntry),(if Ê=true then _ else _),(nO s.heap dx),(.Call Ì (e::es) [] pos),(wpAny_fieldsOf ho hd ?_),(A.handled=none),hm.type,rest.toArray,(.ref it),(λd=>PyData.eqv d dx),(λh=>hb (by simp[h])),(oI.cls=.type "function"),(.Call Ì [] [] pos),((d==sysModules)=false),(rest.length<=sizeLine),(getMethod ov m pl),hit.typeIs,(Option OE->OD->Prop),(List V),(Room k X.A),d.canLay0,ys.length,its.toArray.size,(.builtin "any"),(YO ho hd Ð ?_),(h.get? fI=some oI),0,(k+1),(compareOp .In),(Yg hod hdd ?_),(Yz hod hdd ?_),(QE X o ta),(OwnTail h bmB bm),(Fg X.K false),(by size_fits),(.type "list"),(.ref e),(Zi _),(Nat),(DRaw h d es ep),apos.atName,(pyNext å),(kp _ _ hC),s.heap,h.push,pl.isList,bs.length,(nO h dx),dx.depth,hm.lt]
theorem sI(r:Reads h u d as)(hl:ñ=true):nO h dx u=PyData.eqv d dx:=by
 unfold nO;cases e:PyData.eqv d dx with
 |true=>exact decide_eq_true #[d,as,r,hl,e]
 |false =>refine decide_eq_false ?_;rintro⟨d',as',r',l',e'⟩;rw[SeqAt.Reads.unique d d' u as as' hl r r',e']at e;cases e
section
theorem mE(ok:HOk P w H h):∀{ds:List Qb} {xs:ï} {us:OB},DtAll H ds xs->Vals xs us->PyData.canLayAll0 ds=true->∀dx:Qb,us.any Č=ds.any æ/\us.countP Č=ds.countP æ/\∀u∈us,∃d as,d∈ds/\Reads h u d as/\ñ=true
 | [],xs,us,hd,r,_,dx=>by
  have e:xs=[]:=by simpa only[DtAll]using hd
  subst e;cases r;exact#[rfl,rfl,λu hu=>nomatch hu]
 |d::ds,xs,us,hd,r,hl,dx=>by
  have e:∃y ys,xs=y::ys/\Dt H d y/\DtAll H ds ys:=by simpa only[DtAll]using hd
  exists[y,ys,rfl,h1,h2],e;cases r with
  |cons r1 r2 =>
   have hl':ñ=true/\PyData.canLayAll0 ds=true:=by simpa[PyData.canLayAll0]using hl
   exists[as,q1],Dt.reads ok d y _ h1 r1;exists[i1,i2,i3],mE ok h2 r2 hl'.2 dx;refine#[by rw[YF,YF,sI q1 hl'.1,i1],by rw[List.countP_cons,List.countP_cons,sI q1 hl'.1,i2],λu hu=>?_];rcases Zg.mp hu with rfl|hu
   .exact#[d,as,by simp,q1,hl'.1]
   .exists[d',as',m,z],i3 u hu;exact#[d',as',by simp[m],z]
#check 0
section
variable{X:Cx}
def Fg(K:Qa)(neg:Bool):R2:=λx y H Q=>∃(p:OC) (xs:ï) (dx:Qb) (ds:List Qb),y=.ref p/\SqL K H p xs/\Dt H dx x/\DtAll H ds xs/\SeqAt.shaped dx=true/\PyData.canLayAll0 ds=true/\Q (.bl (if neg then !(ds.any λd=>PyData.eqv d dx)else ds.any λd=>PyData.eqv d dx)) H
theorem B0{A:OH}(I:Inv X ON Y H s)(hu:A.units+64<cLine)(h1:Dt H dx x)(rx:RelV x v)(h2:DtAll H ds xs)(r:Vals xs us)(s1:SeqAt.shaped dx=true)(s2:PyData.canLayAll0 ds=true):∀u∈us,SeqAt.EqAt A s u v (nO Ĉ dx u):=λu hu'=>by exists[_,_,z],mE I.hok h2 r s2 dx;exists[d,as,_,q1,q2],z u hu';exists[bs,q3],Dt.reads I.hok dx x v h1 rx;rw[sI q1 q2];refine SeqAt.eqAt_reads d dx A s u v as bs q1 q3 q2 (SeqAt.canLay_of_shaped s1) ?_;have d1:=SeqAt.depth_of_shaped s1;have d2:min d.depth č<=č:=Nat.min_le_right _ _;omega
theorem Kl(hu:X.A.in1.units+64<cLine):OpR X ù þ:=by intro ON s Y H x y v u Q I rx ry h;exists[p,xs,dx,ds,rfl,hq,h1,h2,s1,s2,q],h;cases ry;exists[its,r,pl,hz],I.list hq;refine SeqAt.in_listAt ß Ċ (λw hw=>B0 I hu h1 rx h2 r s1 s2 w (by simpa using hw)) #[.bl _,H,I,rfl,?_];rw[show its.toArray.any ß=its.any ß by simp,(mE I.hok h2 r s2 dx).1];exact q
theorem AT{k:ă}(hr:ð):QOp X ù þ:=#[Kl (by have:=hr.un;show X.A.units+_+64<_;omega)]
#check 0
def Ai(K:Qa)(a b:OC)(xs ys:ï):It :=
 #[λi H=>i<Ã/\SqL K H a xs/\SqL K H b ys,λi H x H'=>∃T p q,H T=none/\xs[i]?=some p/\ys[i]?=some q/\x=.ref T/\H'=upd H T (.tup [p,q]),λi H=>i=Ã/\SqL K H a xs/\SqL K H b ys]
def LO(K:Qa)(ta:TA):TI:=λY H R=>ta Y H λvs H1=>∃a b xs ys,vs=[.ref a,.ref b]/\SqL K H1 a xs/\SqL K H1 b ys/\Ã=ò/\R (Ai K a b xs ys) H1
theorem wN{K:Qa}{a b:OC}{xs ys:ï}{i j:ă}{tb:TS}{D:Ends}{Y:St}{H:Hp}(Pv:Nat->St->Hp->Prop)(h0:Pv 0 Y H)(ha:∀i Y H,i<=Ã->Pv i Y H->SqL K H a xs)(hb:∀i Y H,i<=Ã->Pv i Y H->SqL K H b ys)(hl:Ã=ò)(hs:∀k x y Y H,xs[k]?=some x->ys[k]?=some y->Pv k Y H->∀T,H T=none->tb { D with nx:=Pv ø,ct:=Pv ø,bk:=D.nx } ((Y.set i (some x)).set j (some y)) (upd H T (.tup [x,y])))(hd:∀Y H,Pv Ã Y H->D.nx Y H) :
  ∃W:Nat->Nat->St->Hp->Prop,(∃m,W 0 m Y H)/\∀k m Y H,W k m Y H ->
   ((Ai K a b xs ys).stop k H/\D.nx Y H)\/((Ai K a b xs ys).go k H/\∃N:St->Hp->Prop,(∀σ' H',N σ' H'->∃m',m'<m/\W ø m' σ' H')/\∀x H',(Ai K a b xs ys).yld k H x H'->nS K 2 (fX (ce i) (fX (ce j) nR)) x Y H' λσ2 H2=>tb { D with nx:=N,ct:=N,bk:=D.nx } σ2 H2):=by
 refine#[λk m Y H=>m=Ã-k/\k<=Ã/\Pv k Y H,#[Ã,by simp,ZL _,h0],?_];rintro k m Y H ⟨rfl,hk,pv⟩;by_cases hlt:k<Ã
 .refine .inr #[#[hlt,ha k Y H hk pv,hb k Y H hk pv],Pv ø,λσ' H' z=>#[Ã-ø,∅,rfl,hlt,z],λx H' y=>?_];exists[T,p,q,hT,hx,hy,rfl,rfl],y;exact#[T,[p,q],rfl,OP ac,rfl,p,[q],rfl,q,[],rfl,rfl,hs k p q Y H hx hy pv T hT]
 .have e:k=Ã:=∅
  subst e;exact .inl #[#[rfl,ha _ Y H hk pv,hb _ Y H hk pv],hd Y H pv]
section
variable{X:Cx}
structure QPs(X:Cx)(pos:Pos)(keys:List (Option OM))(values:List OM)(trs:List (TE×TE)):Prop where
 h:PPs X pos keys values trs
theorem ER{K:Qa}(hK:X.K=K):QOp X (compareOp .NotIn) (rIn K true):=by subst hK;exact#[xG]
#check 0
section
variable{X:Cx}
theorem D7(hc:Ü):dR X ô Ä:=by
 intro ON s Y H xs us Q I r h;exists[p,bs,rfl,hq,q],h;exists[u,rfl,rx],dH r;cases rx;exists[its,rv,pl,hz],I.list hq;have hl:=Ċ;have hlt:p<È:=by exists[_,e,_],hl;exact Zq e
 have hh:=I.ok.hd hc;have hlen:ċ=its.length:=by rw[<-rv.length,Zd]
 refine call_any_walk (wpAny_pyIter_list hl ?_);refine#[È,[È,p],[È],ó,_,_,λi=>(bs[i]?).getD false,rfl,Walks.list (A:=X.A.in1) hh _ p (Zz hlt) its.toArray,
  #[#[_,Zl _ rfl,rfl,rfl],hl.push _],λi v s' Q' E' hP hQ=>?_,λh' tk hk=>?_]
 .have hv:its[i]?=some v:=by simpa using hP
  have hi:i<ċ:=by rw[hlen];exact(Zu.mp hv).1
  exists[u,hu,ru],rv.get (i:=i) (x:=.bl bs[i]) (by rw[Zy,Ze hi];rfl);rw[hv]at hu;cases hu;cases ru;have hQ':Q' ((bs[i]?).getD false) s':=hQ;rw[Ze hi]at hQ';exact YU hQ'
 .have e:((List.range ó).any λi=>(bs[i]?).getD false)=bs.any id:=by rw[Zk,<-hlen];exact LSm.range_any bs
  rw[e];exact#[.bl _,H,I.kept (t':=tk) (LSm.kept_iter hk),rfl,q]
theorem LD(hc:Ü):QCall X ô Ä:=#[D7 hc]
#check 0
structure MFn(P:OF)(w:OG)(K:Qa)(mg:OA)(base:Heap)(k:ă)(C:OC)(m:Str)(ps:List Str)(sp:Sp):Prop where
 cl:Cls K C
 ex:∃f fd,FnOk P w K mg base CX0 k f fd ps sp/\Meth K C m f/\Binds K fd ps []
structure MkFn(P:OF)(w:OG)(K:Qa)(mg:OA)(base:Heap)(k:ă)(C:OC)(x:Str)(ps:List Str)(sp:Sp):Prop where
 cl:Cls K C
 mgC:mg x=some Ñ
 ex:∃f fd,FnOk P w K mg base CX0 k f fd ps sp/\Mk K C f/\Binds K fd ps []
section
variable{X:Cx}{k:ă}{pos:Pos}{e:OM}{t:TA}
theorem cH(he:QE X e ta)(hb:attributeBase e f Ù (eval e Ù)=eval e Ù:=by rfl):QE X (.Attribute e f pos) (FK X.K ta f):=#[Kx he.h hb]
theorem GC(ha:ü)(hv:QE X value tv)(hs:swapsWith value (some (.Attribute o f pos')) pos.line Ù=pure false:=by rfl):QS X (.Assign [.Attribute o f pos'] value pos) (La X.K ta tv f):=#[KL ha.h hv.h hs]
theorem dC{pl:Sem Bool}(F:Ò)(hr:ð)(he:ü)(ha:QA X (e::es) t)(hs:(e::es).all aS=true:=by rfl)(ht:eval à Ù=(do
   let ov ←eval o Ù
   standAt ą
   let(f,first) ←holding [ov] ì
   callWith pos f first (backTo pos (starEach (e::es) Ù)) Ó):=by rfl) :
  QE X à (rQ C m sp [] E0 ta t):=by
 exists[f,fd,G,hm,b],F.ex;rw[YY,ZK]at hs;exact#[zB (pl:=pl) he.h F.cl hm G hr b .nil mT ha.h (aV hs.1) (bP hs.2) ht]
theorem pC{pl:Sem Bool}(F:Ò)(hr:ð)(he:ü)(ht:eval é Ù=(do
   let ov ←eval o Ù
   standAt ą
   let(f,first) ←holding [ov] ì
   callWith pos f first (backTo pos (starEach [] Ù)) Ó):=by rfl) :
  QE X é (rQ C m sp [] E0 ta gN):=by
 exists[f,fd,G,hm,b],F.ex;exact#[E4 (pl:=pl) he.h F.cl hm G hr b .nil mT ht]
theorem zI(F:MkFn X.prog X.w X.K X.mg X.base k C x ps sp)(hr:Room ø X.A)(hg:Gl X x:=by rfl)(hdb:(x==("__debug__":Str))=false:=by decide):QE X (.Call (.Name x p) [] [] pos) (GH C sp [] E0 gN):=by exists[f,fd,G,hm,b],F.ex;exact#[E3 hm G hr hg F.mgC b .nil mT hdb]
#check 0
def DRaw(h:Heap)(d:OC)(es:Ý)(ep:ă):Prop:=∃o,h.get? d=some o/\o.ExactDict/\o.data=.dict es ep
theorem DRaw.type{s:OD}{ep:ă}(x:Ï):s.TypeIs (.ref d) "dict":=let⟨o,ho,hc,_⟩:=x;#[o,ho,hc.1]
theorem DRaw.at'{h h':Heap}{ep:ă}(x:Ą)(e:∀o,h.get? d=some o->h'.get? d=some o):DRaw h' d es ep:=let⟨o,ho,r⟩:=x;#[o,e o ho,r]
theorem DRaw.lt{ep:ă}(x:Ą):d<Ú:=let⟨_,ho,_⟩:=x;Zq ho
section
variable{A:OH}{s:OD}{d:OC}{es:Ý}{ep i:ă}
theorem xL{Q:Oz}(hd:ê)(hm:Ï)(hQ:Q (.ref È) { s with heap:=s.heap.push { cls:=.type "dict_keyiterator",data:=.fields (List.toArray [.ref d,.int 0 0,.int Í 0,.int ep 0]) } }) :
  wpAny É A (pyIter (.ref d)) Q E s:=by
 exists[o,ho,hc,hdat],id hm;refine wpAny_pyIter_slot ã PySem.F.slot_dict_iter (Z0 PySem.F.slot_dict_iter ã PySem.F.entry_dict_iter ?_ (PySem.F.args_dict_iter_1 _));unfold Builtin.«dict.__iter__»;refine z9 ?_;unfold Builtin.Dict.dictSlotNone;refine z9 (wpAny_notOrdered_dict ã ?_);show wpAny _ _ (pure (Value.ref d)) _ _ s;refine Za ?_;show wpAny _ _ (Builtin.Dict.showsAll d >>= _) _ _ s;unfold Builtin.Dict.showsAll;rw[Ow (by rw[hd];exact Zx)];refine z9 Ö;refine z9 (Yg ho hdat ?_);refine z9 (Yz ho hdat ?_);refine z9 (ZR (Za #[_,rfl,"dict_keyiterator",_,#[_,Zl _ rfl,rfl],Yl.lookup,?_]));simpa[rawInt]using hQ
theorem xK{Q:î}(hit:s.heap.IsKeyIter it d i Í ep)(hm:Ï)(hx:i<Í)(hQ:∀h',h'.IsKeyIter it d (i+1) Í ep->Heap.SameBut it Ĉ h'->Q (some es[i].key) { s with heap:=h' }):wpAny É A Ć Q E s:=by
 exists[o,ho,hc,hd],id hit;exists[od,hod,hcd,hdd],id hm;unfold pyNext;refine z9 (YZ (ZU (name:=Str.ofString "__next__") í Yl
  Å))
 refine z9 Ö;refine z9 ?_;refine z9 ?_
 first|refine z9 Ë|refine z9 Á
 refine z9 á;have hown:Builtin.Dict_items.ownsTuple "dict_keyiterator" = false:=⋯
 simp only[hown,Z5,Yq];show wpAny _ _ Þ _ _ s;rw[Ow (show¬(Ê=true)from Zx)];refine z9 Ö;refine z9 ú;rw[Ow Ð];refine z9 Ö;refine z9 û;rw[Ow Ð];refine Za ?_;simp only[show¬((i:Int)<0)from by omega,Yq,YV,ZW hx];refine z9 ?_
 first|refine z9 Ë|refine z9 Á
 refine z9 (wpAny_isOneOf_keyiter í ?_);show wpAny _ _ (setField å 1 (rawInt ((i:Int)+1)) >>= _) _ _ s;refine z9 õ;have hit':(s.heap.update it Î).IsKeyIter it d (i+1) Í ep :=
  #[_,y8 _ ho (Obj.isFreed_of_fields (Yp hd _)),(Obj.cls_mapFields ..).trans hc,by rw[Yp hd];simp[rawInt]]
 refine z9 (ZJ ?_);refine z9 (wpAny_isOneOf_keyiter (s:={ s with heap:=s.heap.update it Î }) hit'.typeIs ?_);show wpAny _ _ (pure es[i].key) _ _ _;exact Za (Za #[_,rfl,Za (hQ _ hit' (ZZ ..))])
theorem zK{Q:î}(hh:â)(hit:s.heap.IsKeyIter it d Í Í ep)(hm:Ï)(hQ:∀h',Heap.ExtBut it Ĉ h'->Q none { s with heap:=h' }) :
  wpAny É A Ć Q E s:=by
 exists[o,ho,hc,hd],id hit;exists[od,hod,hcd,hdd],id hm;unfold pyNext;refine z9 (YZ (ZU (name:=Str.ofString "__next__") í Yl
  Å))
 refine z9 Ö;refine z9 ?_;refine z9 ?_
 first|refine z9 Ë|refine z9 Á
 refine z9 á;have hown:Builtin.Dict_items.ownsTuple "dict_keyiterator" = false:=⋯
 simp only[hown,Z5,Yq];show wpAny _ _ Þ _ _ s;rw[Ow (show¬(Ê=true)from Zx)];refine z9 Ö;refine z9 ú;rw[Ow Ð];refine z9 Ö;refine z9 û;rw[Ow Ð];refine Za ?_;simp only[show¬((Í:Int)<0)from by omega,Yq,YV,Array.getElem?_eq_none Ă];refine z9 ?_
 first|refine z9 Ë|refine z9 Á
 show wpAny _ _ (setField å 0 .none >>= _) _ _ s;refine z9 õ;show wpAny _ _ (newExc (.type "StopIteration") [] >>= _) _ _ _;refine z9 ?_;simp only[newExc,newTuple];refine z9 (ZR ?_ ÿ);refine z9 (m:=firstArgMember _ _) (wpAny_of_eq (a:=Value.none) (by first|rfl|(simp only[firstArgMember];rfl)) ?_);refine ZR ?_ ÿ;simp only[raiseNew];refine z9 (wpAny_handled ?_);rw[show A.in1.handled=none from hh];refine z9 (Za (wpAny_throw ?_));refine z9 (wpAny_isInstance (T:="StopIteration") (b:=true) #[_,Zl _ rfl,rfl] isSubtype_stop ?_);exact Za (hQ _ (((ZZ ..).extBut.push _).push _))
theorem Dq(hh:â)(I d:OC)(hne:d≠I)(es:Ý)(ep:ă) :
  Walks prog w A I [I,d] [I] Í Ô (λi h=>h.IsKeyIter I d i Í ep/\DRaw h d es ep) where
 sub:=λb hb=>by simp at hb;simp[hb]
 frame:=λ_ _ _ st hk=>#[st.1.at λo e=>hk I Ð o e,st.2.at' λo e=>hk d Ð o e]
 item:=λi s Q E hi st hQ=>xK st.1 st.2 hi λh' hit' hs'=>hQ _ h' s.toks #[es[i],by simp[hi],rfl] #[hit',st.2.at' λo e=>hs'.extBut d o hne e] λb o hb e=>hs'.extBut b o ç e
 done:=λs Q E st hQ=>zK hh st.1 st.2 λh' he'=>hQ h' s.toks λb o hb e=>he' b o ç e
 self:=λ_ _ _ _ st hQ=>wpAny_pyIter_keyiter st.1 hQ
theorem zL(lo:ê):KdlSrc prog w "dict" d d Í Ô (λh=>DRaw h d es ep) where
 type:=λ_ hm=>ã
 there:=λ_ hm=>#[Ď,Ď]
 keep:=λ_ _ hm hk=>hm.at' λo e=>hk d (.inl rfl) o e
 notList:=⋯
 notTuple:=⋯
 hint:=λ_ _ _ _ hm hq=>kdl_hint_dict ã hq
 iter:=λ_ _ hh hm=>#[_,_,(λ_ _ hq=>xL lo hm hq),Dq hh _ d (Zz Ď) es ep,#[#[_,Zl _ rfl,rfl,rfl],hm.at' λo e=>Zb _ e]]
#check 0
def cY(H:Hp)(kvs:List (List Key×V))(ks:ï):Prop:=Paired (fun(p:List Key×V) (v:V)=>∃b,v=V.ref b/\H b=some (.tup (p.1.map kV))) kvs ks
theorem qY(r:KT H kvs xs):cY H kvs Æ:=by
 unfold cY;induction r with
 |nil=>exact .nil
 |cons h _ ih=>exact .cons #[_,rfl,h.2.1] ih
section
variable{X:Cx}
theorem Ay(hc:Ü):dR X Ā Â:=by
 intro ON s Y H xs us Q I r h;exists[p,kvs,rfl,hq,q],h;exists[u,rfl,rx],dH r;cases rx;exists[z,hd,xs,rel,o,es,ep,h1,h2,h3,h4,_,_],jk I.hok hq;have hsz:Í=Ã:=size_of_entries h4;have hkl:kvs.length=Ã:=Zv rel;refine kdl_call (zL (es:=es) (ep:=ep) hd) (I.ok.hd hc) #[o,h1,h2,h3] ∅ λh' tk acc' c' kp e hacc=>?_;have ev:Vals Æ acc'.toList:=by
  have gen:∀(vs:OB) (ys:List (List Key×OC×OE)),vs.length=ò->(∀(j:ă) (v:OE),vs[j]?=some v->∃x:List Key×OC×OE,ys[j]?=some x/\v=Value.ref x.2.1)->Vals (ys.map fun(x:List Key×OC×OE)=>V.ref x.2.1) vs:=by
   intro vs;induction vs with
   |nil =>
    intro ys hl _;cases ys with
    |nil=>exact .nil
    |cons _ _=>cases hl
   |cons v vs ih =>
    intro ys hl hv;cases ys with
    |nil=>cases hl
    |cons y ys =>exists[x,e1,e2],hv 0 v rfl;cases e1;exact .cons e2 (ih ys (by simpa using hl) λj v' e'=>hv (j+1) v' (by simpa using e'))
  refine gen _ _ (by rw[ZM,hacc.1,hsz]) λj v e'=>?_;exists[en,e1,e2],hacc.2 j v (by rw[<-YB];exact e');rw[entry_at h4]at e1;exists[x,e3,e4],Z1.mp e1;refine#[x,e3,?_];rw[e2,<-e4];rfl
 refine#[.ref È,_,I.laid (t':=tk) kp Ă (show ObjOk X.prog X.w _ h' _ (.lst Æ)from#[by rw[Zd];omega,acc'.toList,c',ev,by simpa using e]),rfl,q _ _ (I.hok.fresh Ă) (qY rel)]
theorem su(hc:Ü):QCall X Ā Â:=#[Ay hc]
#check 0
def Mo(t:TS):TS:=λD Y H=>∃Pv:St->Hp->Prop,t { D with nx:=Pv } Y H/\∀σ' H',Pv σ' H'->D.nx σ' H'
theorem xS{st:Stmt}{t:TS}(h:QS X st t):QS X st (Mo t):=#[λON s Y H D I ⟨Pv,h1,h2⟩=>thn (h.h ON s Y H _ I h1) λfl s' q=>by
 cases fl with
 |next =>exists[σ',H',I',q'],q;exact#[σ',H',I',h2 _ _ q']
 | _=>exact q]
section
variable{A:OH}{t:ă}{os:OsState}
variable{C:OC}{bs:OB}{sub:OB}{dd:Option OC}
theorem rS(F:Ø)(T:ý){Q:PySem.Fin->OD->Prop}(hC:Ç)(hn:h.Ns N mN)(hi:Û)(hfI:ö)(hfc:è)(hq:∀h' e,Heap.MadeExcOf h h' e Ñ rest->wpAny É A Õ (λr s'=>r=.none/\Q (.done (.ret ā)) s') E #[h',g,d,t,os])(hrest:ë):
  wpAny É A (Builtin.«type.__call__» #[.ref C::rest,[]]) Q E #[h,g,d,t,os]:=by
 repeat(first|with_reducible refine YX hC ?_|with_reducible refine wpAny_madeBy_exc hC ?_|wp_step)
 refine codeAny_call_builtin_code (Code.quiet_builtin _ F.quiet) (wpAny_check_new_subT F T hC ?_);refine codeAny_exc_new_subT F T hC ?_ hrest;show wpAny _ _ _ _ _ _;have kp:∀b o,h.get? b=some o->((ĉ { cls:=.type "tuple",data:=.seq ä }).push { cls:=.ref C,data:=.fields À }).get? b=some o :=
  λb o e=>Zb _ (Zb _ e)
 have hn₁:((ĉ { cls:=.type "tuple",data:=.seq ä }).push { cls:=.ref C,data:=.fields À }).Ns N mN:=hn.keeps kp;have hget:((ĉ { cls:=.type "tuple",data:=.seq ä }).push { cls:=.ref C,data:=.fields À }).get? (Ú+1) =
   some { cls:=.ref C,data:=.fields À }:=by heap_get
 have hcC:(Value.ref C::bm).contains Ñ=true:=by simp
 unfold isInstance
 repeat(first|with_reducible refine YX hget ?_|(with_reducible refine wpAny_isSubtype_exc ć ?_;rw[hcC])|wp_step)
 show wpAny _ _ (typeLookup Ñ _) _ _ _;refine wpAny_typeLookup_tail ć hn₁ (T.keeps kp) F.mroIs F.init.lookup ?_;rw[hi];refine ZJ (z9 ?_);unfold bindSpecial;refine z9 (Y9 (T:="function") #[_,kp _ _ hfI,hfc] ?_);rw[Ox ⋯];refine Za (z9 (ZQ (hq _ (Ú+1) #[kp,Heap.get?_none_of_le (YR _),Ú,hget,Heap.get?_none_of_le Ă,?_]) (λr s' hr=>?_) λ_ _ x=>x))
 .exact Zb _ (Heap.get?_push_at rfl rfl)
 .exists[rfl,hQ],hr
  wp_walk
  exact hQ
theorem Ax(F:Ø)(T:ý){Q:Oz}(hC:Ç)(hn:h.Ns N mN)(hi:Û)(hfI:ö)(hfc:è)(hq:∀h' e,Heap.MadeExcOf h h' e Ñ rest->wpAny É (A.under (.builtin "type.__call__" #[.ref C::rest,[]])) Õ (λr s'=>r=.none/\Q ā s') E #[h',g,d,t,os])(hrest:ë):
  wpAny É A (call Ñ rest) Q E #[h,g,d,t,os]:=by
 have f1:=tc_lookup;have f2:=tc_bind Ñ;have hT:(#[h,g,d,t,os]:OD).TypeIs Ñ "type":=#[_,hC,rfl]
 refine wpAny_call (codeAny_of_tree ?_);show wpAny _ _ (callAny Ñ _) _ _ _
 repeat(any_goals(first|assumption|with_reducible refine YX hC ?_|wp_step))
 refine#[rfl,?_];exact codeAny_call_builtin_at (Code.quiet_builtin _ ⋯) entry_typeCall (wpAny_check_type_call_sub hC (rS F T hC hn hi hfI hfc (λh' e hm=>hq h' e hm) hrest))
#check 0
section
variable{A:OH}{E:Oz}{K:Qa}
theorem Dp(hC:ExC K C bm)(hh:â)(h:wpAny M A x (λv s₁=>∃e oe,v=.ref e/\K.In s₁.heap/\s₁.heap.get? e=some oe/\oe.cls=.ref C/\(∃t,oe.data=.fields (List.toArray [.ref t,.none,.none,.none,.bool false,.none]))/\E ā s₁) E s):wpAny M A (raiseStmt env (some x) none) Q E s:=by
 have hcB:(Value.ref C::bm).contains (.type "BaseException")=true:=by rw[x8,hC.exc,Bool.or_true]
 unfold raiseStmt;refine z9 (ZQ h (λv s₁ h₁=>?_) λ_ _ x=>x);obtain⟨e,oe,rfl,hk,he,hcl,⟨vs,hd⟩,hE⟩:=h₁;exists[nm,q,N,bs,hdct,sn,sub,ab,col,dd,k0,k1,k2,k3,k5,ni,oC],hC.cls _ hk;exists[hp,g,d,tk,os],s₁;exists[oc,od,odt,osl],oe;cases hcl;cases hd
 repeat(first|with_reducible refine YX he ?_|with_reducible refine YX oC ?_|(with_reducible refine wpAny_isSubtype_exc oC ?_;rw[hcB])|wp_step)
 exact wpAny_raiseNew_none hh hE
#check 0
end
open PySem PySem.Spec PyProof.Rows PySem.W PySem.Builtin PySem.Builtin.ObjectAttr
mutual
#check#[(List.toArray [.ref t,.none,.none,.none,.bool false,.none]),s.heap.objs.size,(lK (X.env.qual++"<lambda>") params body scope cl ((X.mg "__name__").getD .none) c' ct),X.stack,(.Call (.Attribute o m apos) (e::es) [] pos),s.heap,(X.env.qual++"<lambda>"),(λr s'=>r=.ok (.ret (.bool true))/\OldK Å s'.heap/\s'.os=s.os/\AllBare s'.gens),X.prog,(List (Str×OC)),(model prog w),X.env,(by rw[af (aj q hea0)];exact q),(by rw[af (oe b o q)];exact n),(λz=>by rw[z,hP]at n;cases n),X.A.in1.in1,(λz=>by rw[z,e]at m;cases m),(by simp),(upd (upd H Á (.xd [(f,y)])) a (exN a c t (some Á))),(envX qual scope Á f cd cl),(∃c,(c,b)∈tabs),(A.deeper (envX qual scope Á f (.ref c') [(y,c)])),(mx.keeps b o q),0,X.base,X.env.locals,(starEach (e::es) Ë),(upd (upd H P (.tbl (ps++more))) c oc),ps.toList,(model È X.w),(Inv X ON Y H s),(.ref c),(ne _ _ this nofun),(.ref c'),(∀q∈tabs,H q.2=some (.tbl #[])),(backToKw pos (keywordEach [] Ë)),(MFnX È X.w X.K X.mg Ø k C m ps sp),(Heap),o.slots,(.call (.ref fa) #[[.ref a],[]]),(ne1 _ _ q nofun),(.builtin "object.__setattr__"),(List Env),(frs Ã),(Option OC),(.ref ea),(Arguments),(aj e f0),(kP Å H),(model P w),(envOfC qual scope Á f cd),vs.toArray,(ns.map V.int),(.ref C),(Unit->OD->Prop),0,(Scope),(nP e λ_ z=>nomatch z),(nP z λ_ z=>nomatch z),o.data,s1.heap,(.tbl ps),(aj e c0),(x==("__debug__":Str)),(λq hq=>Ox #[q.1,hq]),(OE->Option OC->Hp->Prop),s.heap.push,X.mg,(y,c),(exN a c t (some d)),(ne2 _ _ q),(del H' ea),(.ref x),(.ref f),(getMethod ov m pl),(ne1 _ _ q' nofun),(X.wish (Mid X E)),(Value.ref ea::us),(Str),(X.env.frame=some Ù),(.tbl #[]),(exN ea C t none),(LamScope x y scope),vs.length,e0.frames,(e::es),(.type "object"),(exN a c t none),(ZV he dt v1 ?_),(of_hideAll _ q),(starEach es Ë),(ne _ _ z nofun),(.inr #[c,Ox c]),(Nat),X.w,tactic.hygienic,(aj q h0),(CXr P w),(some ku),(backTo pos Ú),(nrec b o q hn),(hideAll ü ë),(ea::t::frs Ã),(ExcAtI K C fI bm),cd.mro,s.toks,s.heap.NoLimit,(.str name tk),(C.keeps I.bk),hb.symm.trans,tn.symm.trans,(.ref t),(.xd [(f,y)]),(λb u z=>?_),(List Str),(Ã=Ë::X.outer),(jr X E),(c,b),X.K,e0.funs,e0.bare,(ne2 _ _ q'),(.ref a::us),(.Name x np),(start N vs),(List (OC×OC)),apos.atName,(aq st),(CXr È Ğ),(b0::suite),(aj hc' f0),e0.mod,e0.bsz,e0.frf,(x,u),(I.wish _),(mL c' Æ),0,(Zl _ rfl),(H P=some ý),r1.length,ps.length,(Zq q),(Zq e),(.ref fI),(aj z h0),(aV hs.1),(bP hs.2),(.ref Ch),(aj z c0),(aj z f0),(mL c' q),(some Đ),(λb=>?_),(Str×OC),(jH f Â),(Room k X.A),(List V),o.cls,pos.line,hx.keeps,e0.bs,sc.names]
theorem Dr(self:OE):refuseLoop self "__setattr__" VE=pure ():=by kernel_rfl
def rD:OB->Bool
 |.ref _::r=>rD r
 |l=>l==VE
theorem pU(self:OE):∀{l:OB},rD l=true->refuseLoop self "__setattr__" l=pure ()
 |.ref c::r,e=>by rw[refuseLoop_ref];exact pU self e
 | [],e=>nomatch e
 |.type n::r,e=>by rw[show(Value.type n::r)=VE from Z8.mp e];exact Dr self
 |.none::r,e=>by have:=(Z8 (α:=OB)).mp e;cases this
 |.bool b::r,e=>by have:=(Z8 (α:=OB)).mp e;cases this
 |.int b t::r,e=>by have:=(Z8 (α:=OB)).mp e;cases this
 |.str b t::r,e=>by have:=(Z8 (α:=OB)).mp e;cases this
 |.bytes b t::r,e=>by have:=(Z8 (α:=OB)).mp e;cases this
 |.float b t::r,e=>by have:=(Z8 (α:=OB)).mp e;cases this
 |.builtin b::r,e=>by have:=(Z8 (α:=OB)).mp e;cases this
 |.ellipsis::r,e=>by have:=(Z8 (α:=OB)).mp e;cases this
 |.notImplemented::r,e=>by have:=(Z8 (α:=OB)).mp e;cases this
structure ExS(K:Qa)(c:OC):Prop where
 sa:findIn K ß "__setattr__" = some (some é)
 ov:((clsIn K c).any λcd=>rD Ĩ&&cd.hasDict)=true
 ob:mroIn K c Ė=some true
section
variable{K:Qa}{A:OH}{R:Result->OD->Prop}{s:OD}
theorem Ia(X:K.In Å)(I:InstAt Å x ox C od)(S:ExS K C)(hn:findIn K õ name=some none)(h:wpAny Ê A.in1 (storeInOwnDict Ĉ õ ī name v false)
   (λfin s'=>match fin with|.done f=>R (.ok f) s'|.again c'=>c'.quiet=true/\codeAny Ê A c' R s') (λe s'=>R (.error e) s') s):
  codeAny Ê A (.call é #[[.ref x,.str name tk,v],[]]) R s:=by
 have SF:=PySem.F.store_object;exists[cd,hc,ho],any_some S.ov;rw[ZK]at ho;have sub:Looks Ê Å (isInstance Ĉ Ė) true:=I.type.andThen (looks_mroIn X S.ob);refine codeAny_call_builtin SF.slot.plain SF.entry (@check_slot Ê _ _ s "object.__setattr__" "object" "__setattr__" Ĉ [.str name tk,v] [] _ SF.kind SF.split sub (SF.args Ĉ ī v) ?_);have hm:Looks Ê Å (mroOf õ) Ĩ:=(looks_clsIn X hc).andThen .now;rw[osa_eq,refuse_eq];refine z9 (z9 (I.type.here (z9 (hm.here ?_))));rw[pU _ ho.1];refine Za (z9 (I.type.here (z9 ((looks_findIn X hn).here (z9 (Looks.now.here ?_))))));exact h
#check 0
def exN(ea c t:OC)(dc:ì):HO:=.ext λh=>h.get? ea=some { cls:=.ref c,dict:=dc,data:=.fields À }
theorem Cb{h:å}{ea c t:OC}(e:h.get? ea=some { cls:=.ref c,dict:=dc,data:=.fields À }):ObjOk P w H h ea (exN ea c t dc) :=
 #[e,#[_,e],λ_ _ p k=>k _ p]
section
variable{t:OC}
theorem IN{Q:ö}(I:Þ)(e:H a=some ė)(S:ExS Ķ c)(n:NoAttr Ķ c f)(ry:RelV y u)(h:∀d s',H d=none->Inv X ON Y (upd (upd H d İ) a ą) s'->Q () s'):wpAny Ý A (setAttr (.ref a) f u) Q E s:=by
 have hx:s.heap.get? a=some { cls:=.ref c,dict:=none,data:=.fields À }:=(show ObjOk È Ğ H Å a (exN a c t none)from I.hok a _ e).1;have J:InstAt Å a { cls:=.ref c,dict:=none,data:=.fields À } c none:=#[hx,rfl,rfl,True.intro]
 exists[cd,hc,ho],any_some S.ov;rw[ZK]at ho;refine W.set_plain I.kIn J S.sa (Ia (s:={ s with toks:=ĩ+1 }) I.kIn J S n ?_);refine z9 (Za (z9 (z9 (wpAny_loadPart hx (z9 (W.Looks.here (s:={ s with toks:=ĩ+1 }) (W.looks_clsIn I.kIn hc) ?_))))));rw[ho.2];have hxs:a≠Á:=Zz (Zq hx);have hx1:(Ă { cls:=.type "dict",data:=.dict #[] }).get? a=some { cls:=.ref c,dict:=none,data:=.fields À }:=Zb _ hx;show wpAny _ _ (alloc { cls:=.type "dict",data:=.dict #[] } >>= λd=>update a (λo=>{ cls:=Ş,dict:=some d,data:=û,slots:=æ }) >>= λ_=>dictMade ß a d) _ _ _;refine z9 (wpAny_alloc' ?_);refine z9 (wpAny_update' hx1 ?_);refine Za ?_;have hgd:((Ă { cls:=.type "dict",data:=.dict #[] }).update a λo=>{ cls:=Ş,dict:=some Á,data:=û,slots:=æ }).get? Á=some { cls:=.type "dict",data:=.dict #[] } :=
  (Heap.get?_update_ne _ _ _ _ hxs.symm).trans (Heap.get?_push_at rfl rfl)
 have hnd:((Ă { cls:=.type "dict",data:=.dict #[] }).update a λo=>{ cls:=Ş,dict:=some Á,data:=û,slots:=æ }).Ns Á (λ_=>none) :=
  #[_,#[],_,hgd,rfl,λe he=>absurd he Ñ,λ_=>rfl]
 refine z9 (Za (z9 (wpAny_nsSet1 (Heap.Ns1.of_empty hnd) λh' hn' hs=>?_)));exists[oD,esD,epD,hoD,hdD,hcD],hn'.count (Within.cons f u Within.nil);refine z9 (wpAny_lookBehind hoD (by rw[hdD];exact pastItsLine_dict (Zs hcD (by rw[Zm,Yo,sizeLine_eq];omega))) ?_);have hx':h'.get? a=some { cls:=.ref c,dict:=some Á,data:=.fields À }:=(hs.2 a hxs).trans (y8 _ hx1 rfl);have kp:∀b o,b≠a->s.heap.get? b=some o->h'.get? b=some o:=λb o hb q=>(hs.2 b (Zz Ŏ)).trans ((Heap.get?_update_ne _ _ _ _ hb).trans (Zb _ q));have hd0:H Á=none:=I.hok.fresh (Zi _);have nd:∀b o,s.heap.get? b=some o->b≠Á:=λb o q=>Zz Ŏ;have ne1:∀b v,H b=some v->v≠exN a c t none->b≠a:=λb v q hv z=>by rw[z,e]at q;exact hv (Zo q).symm
 have ne2:∀b v,H b=some v->b≠Á:=λb v q=>aj q hd0;have un:Un X.fs [] H Ò Å h':=by
  refine#[λb o q m _ _=>kp b o Ð q,λb o q m _ _=>#[æ,kp b o Ð q],λb o q m _=>?_,λb o q _=>?_,λb xs q=>?_,λb o v q=>?_,λb ps q=>#[#[],?_]]
  .rw[af Ð,af (nd b o q)];exact m
  .by_cases hb:b=a
   .exact#[_,hb▸hx']
   .exact#[o,kp b o hb q]
  .rw[af è,af Ć];exact q
  .rw[af è,af Ć];exact q
  .rw[af è,af Ć,q];simp
 have hok:HOk È Ğ Ò h':=λb v q=>by
  by_cases hb:b=a
  .subst hb;rw[ac]at q;cases q;exact Cb hx'
  .rw[af hb]at q;by_cases hbd:b=Á
   .subst hbd;rw[ac]at q;cases q;refine#[_,hn',λg=>?_];by_cases hg:g=f
    .subst hg;rw[Ox rfl];show RelO ([(g,y)].lookup g) (some u);rw[ZS,show(g==g)=true by simp];exact ry
    .rw[Ow hg];show RelO ([(f,y)].lookup g) none;rw[ZS,show(g==f)=false by simpa using hg];exact True.intro
   .rw[af hbd]at q;refine(I.hok b v q).stay (λb' v' hb' q'=>kp b' v' ?_ q') (λb' q'=>?_) λb' xs q'=>?_
    .rcases hb' with rfl|z
     .exact hb
     .exact ne1 _ _ z nofun
    .rw[af ċ,af Ĺ];exact q'
    .rw[af ċ,af Ĺ];exact q'
 exact Za (h _ _ hd0 (I.un un hok))
#check 0
def Mm(K:Qa)(ta tv:TE)(f:Ď):TS:=λD Y H=>tv Y H λy H1=>ta Y H1 λx H2=>∃a c t,x=.ref a/\H2 a=some ė/\ExS K c/\NoAttr K c f/\∀d,H2 d=none ->
 D.nx Y (upd (upd H2 d İ) a ą)
theorem Lc{pos pos':Pos}(ha:QE X o ta)(hv:QE X value tv)(hs:swapsWith value (some (.Attribute o f pos')) ş Ë=pure false:=by rfl):QS X (.Assign [.Attribute o f pos'] value pos) (Mm Ķ ta tv f):=by refine#[?_];intro ON s Y H D I h;refine plainObj_wpAny_Assign_Attribute (thn (hv.h ON s Y H _ I h) λu s1 ⟨y,H1,I1,ry,q⟩=>thn (ha.h ON s1 Y H1 _ I1 q) λov s2 hz9=>?_) hs;exists[x,H2,I2,rx,a,c,t,ex,ea,S,n,q2],hz9;subst ex;obtain rfl:ov=Value.ref a:=rx;exact IN I2 ea S n ry λd s3 hd I3=>#[Y,_,I3,q2 d hd]
def del(H:Hp)(a:OC):Hp:=λb=>if b=a then none else H b
theorem Eg:del H a a=none:=by unfold del;rw[Ox rfl]
theorem gY(h:b≠a):del H a b=H b:=by unfold del;rw[Ow h]
theorem CQ(h:del H a b=some u):b≠a/\H b=some u:=by
 by_cases c:b=a
 .rw[c,Eg]at h;cases h
 .rw[gY c]at h;exact#[c,h]
def Cc(K:Qa)(C fI:OC):Prop:=∃dd cd k0 k1 k2 k3 k5 bm,K.lookup C=some #[.type "type",dd,.cls cd,(List.toArray [k0,k1,k2,k3,some (.builtin "ValueError.__new__"),k5])]/\Ĩ=Value.ref C::bm/\cd.hasDel=false/\tailIn K VE bm=true/\nsOkIn K cd.ns=true/\nsIn K cd.ns "__init__" = some (some Ő)
set_option ğ true in theorem AS{K:Qa}(X:K.In h)(G:h.Ns N m)(e:nsIn K N n=some (some v)):m n=some v:=by
 exists[o,es,ep,ho,hd,_,hf],G;unfold nsIn at e;split at e
 .rename_i c d es' n' sl q;have:=X _ _ q;rw[ho]at this;cases this;cases hd;split at e
  .rename_i en he;cases e;rw[<-hf];unfold nsFind findBy;rw[<-Array.find?_toList,he];rfl
  .split at e<;>cases e
 .cases e
structure ExcAtI(K:Qa)(C fI:OC)(bm:OB):Prop where
 isIn:Cc K C fI
 mro:∃c d cd sl,K.lookup C=some #[c,d,.cls cd,sl]/\Ĩ=Value.ref C::bm
 exc:bm.contains (.type "BaseException")=true
 fn:∃oI,K.lookup fI=some oI/\oI.cls=.type "function"
theorem qR{K:Qa}(q:ħ)(X:K.In h):
  ∃nm qn N bs hdct sn sub ab col dd k0 k1 k2 k3 k5 mN,h.get? C=some (excClassObj nm qn C N bs bm hdct sn sub ab col dd k0 k1 k2 k3 k5 "ValueError.__new__")/\h.Ns N mN/\mN "__init__" = some Ő/\OwnTail h VE bm:=by
 exists[dd,cd,k0,k1,k2,k3,k5,bm',ho,hm,nd,ht,ok,ni],q.isIn;exists[c9,d9,cd9,sl9,l9,m9],q.mro;have z:=ho.symm.trans l9;cases z;rw[hm]at m9;cases m9;exists[nm,bs,mro,ns,qn,hd,sn,sub,ab,col,del],cd;dsimp only at hm nd ok ni;cases hm;cases nd;have G:h.Ns ns _:=.of_isNs (isNs_of_in X ok);exact#[nm,qn,ns,bs,hd,sn,sub,ab,col,dd,k0,k1,k2,k3,k5,_,X _ _ ho,G,AS X G ni,tail_of_in X ht]
theorem zd{K:Qa}(q:ħ):ExC K C bm where
 cls:=λh X=>by exists[nm,qn,N,bs,hdct,sn,sub,ab,col,dd,k0,k1,k2,k3,k5,mN,e,_],qR q X;exact#[nm,qn,N,bs,hdct,sn,sub,ab,col,dd,k0,k1,k2,k3,k5,_,e]
 exc:=q.exc
structure ExI(P:OF)(w:OG)(K:Qa)(mg:OA)(base:å)(k:ĝ)(C:OC)(bm:OB)(ps:Ĳ)(sp:Sp):Prop where
 ex:∃fI fd,ExcAtI K C fI bm/\FnOk P w K mg base CX0 k fI fd ps sp/\Binds K fd ps []
section
variable{s:OD}
theorem Inv.excMade{h':å}{e c t:OC}(I:Þ)(kp:∀b o,s.heap.get? b=some o->h'.get? b=some o)(hn:s.heap.get? e=none)(he:h'.get? e=some { cls:=.ref c,data:=.fields À }) :
  H e=none/\Inv X ON Y (upd H e (exN e c t none)) { s with heap:=h' }:=by
 have h0:H e=none:=by
  cases q:H e with
  |none=>rfl
  |some u =>exists[o,z],jO (I.hok e u q);rw[hn]at z;cases z
 have nb:∀b o,s.heap.get? b=some o->b≠e:=λb o q z=>by rw[z,hn]at q;cases q
 refine#[h0,I.un (t':=ĩ) #[λb o q _ _ _=>kp b o q,λb o q _ _ _=>#[æ,kp b o q],λb o q m _=>by rw[af (nb b o q)];exact m,λb o q _=>#[o,kp b o q],λb xs q=>by rw[af Ġ];exact q,λb o v q=>by rw[af Ġ];exact q,λb ps q=>#[#[],by rw[af Ġ,q];simp]] λb u q=>?_];by_cases hb:b=e
 .subst hb;rw[ac]at q;cases q;exact Cb he
 .rw[af hb]at q;exact(I.hok b u q).stay (λb' v _ q'=>kp b' v q') (λb' z=>by rw[af ő];exact z) λb' xs z=>by rw[af ő];exact z
#check 0
section
variable{EC:ā}{C:OC}{k:ĝ}{sp:Sp}{ta:TA}
def IT(sp:Sp)(C:OC)(EC:ā)(ta:TA):TS:=λ_ Y H=>ta Y H λvs H1=>ē<=sizeLine/\∀ea t,H1 ea=none->H1 t=none->t≠ea ->
 sp (.ref ea::vs) (upd H1 ea đ) (λv H2=>v=.non/\∃dc,H2 ea=some (exN ea C t dc)/\EC õ dc (del H2 ea)) E0
#check 0
structure MFnX(P:OF)(w:OG)(K:Qa)(mg:OA)(base:å)(k:ĝ)(C:OC)(m:Ď)(ps:Ĳ)(sp:Sp):Prop where
 cl:Cls K C
 ex:∃f fd,FnOk P w K mg base ġ k f fd ps sp/\Meth K C m f/\Binds K fd ps []
section
variable{X:Cx}{k:ĝ}{C:OC}{m x:Ď}{e:OM}{sp:Sp}{t:TA}{ta:TE}{E:XK}
theorem pD{pl:Sem Bool}(F:ä)(hx:fQ ŀ X E)(hr:Ŝ)(he:QE X o ta)(ha:QA X ĕ t)(hs:(e::es).all aS=true:=by rfl)(ht:eval Ä Ë=(do
   let ov ←eval o Ë
   standAt ľ
   let(f,first) ←holding [ov] Ċ
   callWith pos f first ģ ã):=by rfl) :
  QE X Ä (rQ C m sp [] E ta t):=by
 exists[f,fd,G,hm,b],F.ex;rw[YY,ZK]at hs;exact#[zB (pl:=pl) he.h F.cl hm G hr b .nil hx ha.h Œ œ ht]
def Lm(C:OC)(m:Ď)(sp:Sp)(ta:TE)(t:TA):TX:=λY H Q E=>ta Y H λx H1=>IsM C m x H1 (t Y H1 λvs H2=>sp (x::vs) H2 Q E)
theorem Lw{pl:Sem Bool}(F:ä)(hr:Ŝ)(he:QE X.nox o ta)(ha:QA X.nox ĕ t)(hs:(e::es).all aS=true:=by rfl)(ht:eval Ä Ë=(do
   let ov ←eval o Ë
   standAt ľ
   let(f,first) ←holding [ov] Ċ
   callWith pos f first ģ ã):=by rfl) :
  QX X Ä (Lm C m sp ta t):=by
 refine#[?_];intro ON s Y H Q E I h;exists[f,fd,G,hm,b],F.ex;rw[YY,ZK]at hs;refine W.methodCall_KW (pl:=pl) (ZQ (he.h ON s Y H _ Ň h) (λu s1 hz9=>?_) λ_ _ z=>False.elim z) ht;exists[y,H1,I1,rx,a,dx,fs,ex,ea,l,q],hz9;subst ex;obtain rfl:u=Value.ref a:=rx;have I1':=I1.unwish;refine mI I1' ea F.cl hm l ?_;refine W.callWith_K (first:=[.ref a]) (h₀:=Ø) I.ok.mod.kin hm.kp (ZQ (ha.h pos ON s1 Y H1 _ I1 q) (λus s2 ⟨vs,H2,I2,r,q2⟩=>#[I2.kIn,?_]) λ_ _ z=>False.elim z) Œ œ;have I3:=I2.unwish;have hb:=b s2 ĺ I3.kIn (by rw[ZF,<-G.len _ _ _ _ q2,Zm,Zm,r.length]);rw[ZF]at hb;refine wpAny_call (Y7 (G.run X.A Ã s2 H2 #[.ref a::us,[]] ĺ (.ref a::vs) Q E hr I3.env0 hb (.cons rfl r) q2) λr s' hq=>?_);cases r with
 |error e=>exact#[s2,H2,I3,hq]
 |ok fl =>
  cases fl with
  |ret u=>exact I3.after hq
  |next=>exact False.elim hq
  |brk=>exact False.elim hq
  |cont=>exact False.elim hq
#check 0
section
variable{X:Cx}
theorem LL:QH X [] (λ_ _ _ _ _=>False):=#[λ_ _ _ _ _ _ _ _ _ _ _ _ _ _ _ _ h=>h.elim]
def Mp(K:Qa)(Ch:OC)(ts:TS)(th:TH):TH:=λD Y C dc H'=>∃c bm,C=.ref c/\ExC K c bm/\if(Value.ref c::bm).contains Ŕ=true then ts D Y H' else th D Y C dc H'
theorem Eo{Ch:OC}{ts:TS}(cl:ExC Ķ Ch bmh)(hm:X.mg x=some Ŕ)(hs:∀e,QB (X.exc e) Ł ts)(hrest:QH X rest th)(hg:Gl X x:=by rfl)(hdb:ÿ=false:=by decide):QH X (.ExceptHandler (some Ļ) none Ł pos::rest) (Mp Ķ Ch ts th):=by
 refine#[?_];rintro ON s0 H0 Y D ea t C B H' dc s' I0 F fly hd ⟨c,bm,rfl,ec,q⟩;have I:=F.inv I0;refine wpAny_handleBy_cons (codeAny_handlers_test ?_) nofun;refine jw (X:=X.exc í) (I.exc _) hg hm ?_ hdb;exists[oe,he,hcl],fly.there;refine yA ec cl I.kIn he hcl ?_;cases hc:(Value.ref c::bm).contains (.ref Ch)with
 |true =>
  rw[hc,Ox rfl]at q;refine codeAny_handlers_suite ?_;exists[f1,f2,f3,f4],fly;refine mG f1 f3 f4.at hd λh6 k1 k2 k3 up6 hd6=>?_;have F6:=F.move (tk:=s'.toks) I0 k1 up6;refine ZQ ((hs í).h ON _ _ _ _ ((F6.inv I0).exc _) q) (λf s8 sp=>?_) (λ_ _ z=>False.elim z);cases f with
  |next =>exists[σ2,H2,I8,q8],sp;exact#[_,H2,I8.unexc I0.ok,q8]
  |brk =>exists[σ2,H2,I8,q8],sp;exact#[_,H2,I8.unexc I0.ok,q8]
  |cont =>exists[σ2,H2,I8,q8],sp;exact#[_,H2,I8.unexc I0.ok,q8]
  |ret u =>exists[v,σ2,H2,I8,r8,q8],sp;exact#[v,_,H2,I8.unexc I0.ok,r8,q8]
 |false =>rw[hc,Ow Zx]at q;exact hrest.h ON s0 H0 Y D ea t _ B H' dc _ I0 F fly hd q
#check 0
def GZ(X:Cx)(B:å)(ea:OC)(C:OE)(t:OC)(h:å):Prop :=
 (B.StaysIn h/\B.get? ea=none/\h.FunFrames B Ã/\∃oe,h.get? ea=some oe/\oe.cls=C/\oe.data=.fields À) \/
 Heap.FlyingW B Ã ea C į h\/Heap.HeldW B Ã ea C į Ù h
def Ah(X:Cx)(E:XK)(ea:OC)(s':OD):Prop:=∃(ON:Oy) (Y:St) (H0 H':Hp) (s0:OD) (B:å) (t:OC) (C:OE) (vs:OB) (dc:ì),
 Inv X ON Y H0 s0/\Fl X H0 H' s0 s' B/\GZ X B ea C t s'.heap/\s'.heap.TupAt t vs/\B.get? t=none/\fh s'.heap ea dc/\E C dc H'
section
variable{M:Model}{A:OH}{E:Oz}{s:OD}{base:å}{l:ê}{L e:OC}
theorem Cd{cls a0 fl:OE}{dc:ì}{Q:ö}(kb:base.StaysIn Å)(ff:s.heap.FunFrames base l)(tr:s.heap.TracedAtW base e cls a0 fl)(dd:fh Å e dc)(k:∀h',base.StaysIn h'->h'.FunFrames base l->h'.TracedAtW base e cls a0 (rawInt L)->s.heap.UpToSlots h'->fh h' e dc->Q () { s with heap:=h' }):wpAny M A (setFlight (.ref e) (some L)) Q E s:=by
 exists[oe,vs,T,oT,ts,he,hc,dt,v1,nT,ne,hT,dT,t3],tr;have z3:3<ts.size:=(Yt.mp t3).1;have oth:∀b,b≠T->(s.heap.update T (Obj.mapFields (·.setIfInBounds 3 ((some L:ì).elim Value.none λf=>rawInt f)))).get? b=s.heap.get? b:=λb n=>Yd _ _ (ZO n);have nrec:∀b o,s.heap.get? b=some o->(∀ws,û≠.fields ws)->b≠T:=λb o q hn z=>by subst z;cases Zo (hT.symm.trans q);exact hn ts dT
 unfold setFlight;refine z9 Ę;rw[Ox (by simp:(Value.ref T != Value.none)=true)];refine YO hT dT z3 (k _ (λb o q=>(oth b λz=>nomatch((z▸q).symm.trans nT)).trans (kb b o q)) (ff.of_keeps λb o q hn=>#[o,(oth b Ĥ).trans q,rfl]) ?_ (λb o q hn=>#[æ,(oth b Ĥ).trans q]) ?_)
 .exact#[oe,vs,T,_,_,(oth e (ZO ne)).trans he,hc,dt,v1,nT,ne,y8 _ hT (Obj.isFreed_of_fields (Yp dT _)),Yp dT _,by simp[z3]]
 .exists[o,q,d],dd;exact#[o,(oth e (ZO ne)).trans q,d]
#check 0
section
variable{X:Cx}{E:XK}{ea:OC}{s':OD}
theorem qI{Q:ö}(hst:ĳ)(hfr:ď)(x:Ah X E ea s')(k:∀ h',(∃ (ON:Oy) (Y:St) (H0 H':Hp) (s0:OD) (B:å) (t:OC) (C:OE) (vs:OB) (dc:ì),
   Inv X ON Y H0 s0/\Fl X H0 H' s0 { s' with heap:=h' } B/\Heap.HeldW B Ã ea C į Ù h'/\h'.TupAt t vs/\B.get? t=none/\fh h' ea dc/\E C dc H')->Q () { s' with heap:=h' }) :
  wpAny Ý X.A (noteFrame í Ë) Q EE s':=by
 exists[ON,Y,H0,H',s0,B,t,C,vs,dc,I0,F,st,tup,hBt,dd,q],x;have fr:X.A.frames=some (Ë::X.outer):=by rw[<-hst];exact I0.ok.frames
 rcases st with⟨f1,f2,f3,oe,he,rfl,hd⟩|fly|held
 .unfold noteFrame;simp only[hfr];refine z9 (ZV he hd (show _=some Value.none from rfl) ?_);rw[Ow ⋯];rw[hst]at f3;refine pS (a0:=.ref t) fr f3 hfr he f1 f2 hd Ñ rfl λh1 nt dd1=>?_;exists[n1,n2,n3,n4],nt;rw[<-hst]at n2;exists[o9,q9,d9],dd;cases Zo (he.symm.trans q9);rw[d9]at dd1;exact k h1 #[ON,Y,H0,H',s0,B,t,_,vs,dc,I0,F.move (tk:=s'.toks) I0 n1 n4,#[n1,f2,n2,n3],tup.of_slots n4,hBt,dd1,q]
 .rw[hst]at fly;refine rf fr hfr fly dd λh1 held up dd1=>?_;rw[<-hst]at held;exact k h1 #[ON,Y,H0,H',s0,B,t,C,vs,dc,I0,F.move (tk:=s'.toks) I0 held.1 up,held,tup.of_slots up,hBt,dd1,q]
 .exact wpAny_noteFrame_againW hfr held.2.2.2 (k s'.heap #[ON,Y,H0,H',s0,B,t,C,vs,dc,I0,F,held,tup,hBt,dd,q])
def Mid(X:Cx)(E:XK):Oz:=λe s'=>∃ea,e=.ref ea/\Ah X E ea s'
theorem rF(hst:ĳ)(hfr:ď):PassesOwn Ý X.A Ë (Mid X E):=by rintro e s' ⟨ea,rfl,x⟩;refine qI hst hfr x ?_;rintro h1 ⟨ON,Y,H0,H',s0,B,t,C,vs,dc,I0,F,held,tup,hBt,dd,q⟩;exists[f1,f2,f3,f4],held;exists[oe,us,T,oT,ts,he,hc,dt,v1,nT,ne,hT,dT,t3],id f4;unfold cameBackBy;refine z9 Ę;rw[Ow Ñ];rw[hfr];refine Cd (s:={ s' with heap:=h1 }) f1 f3 f4 dd λh2 k1 k2 k3 up dd2=>?_;exact#[ea,rfl,ON,Y,H0,H',s0,B,t,C,vs,dc,I0,F.move (tk:=s'.toks) I0 k1 up,.inr (.inr #[k1,f2,k2,k3]),tup.of_slots up,hBt,dd2,q]
#check 0
def jr(X:Cx)(E:XK):Prop:=∀ea s',Ah X E ea s'->X.xe í s'
theorem pT{X:Cx}:jr Č E:=by rintro ea s' ⟨ON,Y,H0,H',s0,B,t,C,vs,dc,I0,F,st,r⟩;exact#[ea,rfl,ON,Y,H0,H',s0,B,t,C,vs,dc,I0.unwish,#[F.os,F.bare,F.un,F.hok,F.kb],st,r]
section
variable{K:Qa}
theorem eG:jr (gG ġ P w K mg base N qual scope f cd A outer s H E) E:=by
 intro ea s' x;show wpAny ñ (A.deeper ò) (leaving ò í) _ _ _;unfold leaving;refine z9 (qI (X:=gG ġ P w K mg base N qual scope f cd A outer s H E) rfl rfl x ?_);rintro h1 ⟨ON,Y,H0,H',s0,B,t,C,vs,dc,I,F,held,tup,hBt,dd,q⟩;exists[f1,f2,f3,f4],held;refine mG (s:={ s' with heap:=h1 }) f1 f3 f4 dd λh2 k1 k2 k3 up dd2=>?_;have F2:=F.move (tk:=s'.toks) I k1 up;have I2:=F2.inv I;have hL:∀b o,s.heap.get? b=some o->b≠Á:=λb o q=>Zz Ŏ;have nfr:∀b,b∉frs outer->b≠Á->b∉frs (envOfC qual scope Á f cd::outer):=λb h1 h2 hm=>by
  rcases Zg.mp (I.stkSub b hm)with z|z
  .exact h2 z
  .exact h1 z
 exists[_,_,k2'],k2;refine#[ea,t,C,vs,B,H',dc,rfl,I2.os,F2.bare,#[λb o q n hb _=>?_,λb o q n hb _=>?_,λb o q n _=>?_,λb o q _=>?_,I2.base.tups,I2.base.frzs,I2.base.tbls],F2.hok,#[k1,f2,k2',k3],tup.of_slots up,hBt,λb o hb ho q=>?_,dd2,q]
 .exact I2.base.keep b o q n hb nofun
 .exact I2.base.slot b o q n hb nofun
 .exact I2.base.free b o q n nofun
 .exact I2.base.there b o q nofun
 .refine F2.kb b o ?_ ?_ q
  .rcases ho with⟨u,z⟩|⟨o0,z⟩
   .exact F2.nf I z
   .exact nfr b hb (hL b o0 z)
  .rcases ho with⟨u,z⟩|⟨o0,z⟩
   .exact .inl #[u,z]
   .exact .inr (I.base.there b o0 z nofun)
#check 0
section
theorem Gu(hR:Ĵ):fQ ŀ X E:=λON Y H s e s' I x=>by exists[ea,t,C,vs,B,H',dc,rfl,os,bare,un,hok,fly,tup,hBt,kb,dd,q],x;exact hR ea s' #[ON,Y,H,H',s,B,t,C,vs,dc,I,#[os,bare,un,hok,kb],.inr (.inl fly),tup,hBt,dd,q]
theorem im(hR:Ĵ):BM X (λC H1=>E C none H1):=λON Y H1 s1 h2 e C vs I hx hE=>by
 exists[t,he,tn,tt],hx.there;have fr0:∀b,b∈frs Ã->∃o,s1.heap.get? b=some o:=λb hm=>by exists[_,o',ho',_],I.stack.mem hm;exact#[o',ho']
 have hid:∀b o,s1.heap.get? b=some o->b∉frs Ã->(hideAll ü ë).get? b=some o:=λb o q hb=>hideAll_get _ q hb;have none_of:∀b,s1.heap.get? b=none->(hideAll ü ë).get? b=none:=λb hb=>by
  cases q:(hideAll ü ë).get? b with
  |none=>rfl
  |some o=>exact nomatch ĭ ę
 have tr:∀b u,H1 b=some u->b∉frs Ã:=λb u q hm=>by have:=I.stkFree b hm;rw[q]at this;cases this
 have F:Fl X H1 H1 s1 { s1 with heap:=h2 } ĥ:=#[rfl,I.bare,Un.kept Š,I.hok.kept Š,λb o hb ho q=>by
  obtain⟨o1,q1⟩:∃o1,s1.heap.get? b=some o1:=by
   rcases ho with⟨u,z⟩|⟨o0,z⟩
   .exact jO (I.hok b u z)
   .exact#[o0,z]
  have q2:=hx.keeps _ _ q1;have q':h2.get? b=some o:=q;rw[q']at q2;cases q2;exact hid b o q1 hb]
 have ff:h2.FunFrames ĥ Ã:=(funFrames_hide I.stack λenv he b hb=>Yc.mpr #[env,he,hb]).of_keeps λb o q _=>#[o,hx.keeps b o q,rfl]
 exact hR e _ #[ON,Y,H1,H1,s1,_,t,C,vs,none,I,F,.inl #[λb o q=>hx.keeps b o ę,none_of e hx.new,ff,_,he,rfl,rfl],#[_,_,tt,rfl,rfl],none_of t tn,#[_,he,rfl],hE]
#check 0
section
variable{st:Stmt}{t:TS}
theorem GD(hR:Ĵ)(h:QS Č st t):QS X st t:=#[λON s Y H D I q=>ZQ (h.h ON s Y H D Ň q) (λ_ _ z=>z.unwish) λ_ _ ⟨ea,e,x⟩=>by rw[e];exact hR ea _ x]
#check 0
section
variable{k:ĝ}{e:OM}
theorem Ft(hR:Ĵ)(hc:X.calm=true)(F:ExI È Ğ Ķ ă Ø k C bm ps sp)(hr:Room (k+1) X.A)(hm:X.mg x=some õ)(ha:QA X ĕ ta)(hg:Gl X x:=by rfl)(hs:(e::es).all aS=true:=by rfl)(hdb:ÿ=false:=by decide) :
  QS X (.Raise (some (.Call Ļ ĕ [] cpos)) none pos) (IT sp C E ta):=by
 refine#[?_];intro ON s Y H D I h;exists[fI,fd,xc,G,hb],F.ex;have hs1:aS e=true:=YD.mp hs e Ñ;have he:=aV (es:=es) (env:=Ë) hs1;have hpl:(backTo cpos Ě).any (·.1)=false:=bP (by
  rw[YD];intro y hy;exact YD.mp hs y (Zj _ hy))
 have hpl':(backTo cpos Ú).any (·.1)=false:=by rw[he];show(false ||(backTo cpos Ě).any (·.1))=false;rw[hpl];rfl
 rw[arm_exec_Raise];refine z9 (wpAny_standAt (Dp (K:=Ķ) (zd xc) (I.ok.hd hc) (z9 (ZQ (wpAny_Call_ofName (jw I hg hm ?_ hdb)) (λv s₃ h₃=>z9 (wpAny_standAt (Za h₃))) λ_ _ x=>x))));unfold callWith;have hA:=ha.h cpos ON s Y H _ I h;rw[he]at hA ⊢;refine z9 (ZJ (Calls.evalArgs_plain (thn hA λus s1 ⟨vs,H1,I1,r1,hz,hE⟩=>z9 (wpAny_standAt ?_))));exists[nm,q,N,bs,hdct,sn,sub,ab,col,dd,k0,k1,k2,k3,k5,mN,oC,hN,hi,T],qR xc I1.kIn;exists[oI,lI,cI],xc.fn;exists[hp,g,d,tk,os],s1;rw[<-he];simp only[hpl'];refine z9 (wpAny_keeperOf_exc oC ?_);refine z9 (Ax PySem.F.excBase_ValueError T oC hN hi (I1.kIn _ _ lI) cI (λh' ea mx=>?_) (show us.length<=sizeLine by rw[<-Ō];exact hz));exists[t,ht,tn,tt],mx.there;exists[hea0,I2],I1.excMade mx.keeps mx.new ht;have nt:t≠ea:=λz=>by rw[z,ht]at tt;cases tt
 have ht0:H1 t=none:=by
  cases q:H1 t with
  |none=>rfl
  |some u =>exists[o,z],jO (I1.hok t u q);exact nomatch Į z
 have hq:=hE ea t hea0 ht0 nt;have hl:(Value.ref ea::us).length=ō:=by rw[<-G.len _ _ _ _ hq,Zm,Zm,Ō]
 refine wpAny_call (Y7 (G.run _ Ã _ _ #[Value.ref ea::us,[]] č (V.ref ea::vs) _ _ (hr.make C us []) (I2.env0.make C us []) (by have:=hb _ č I2.kIn (by rw[ZF];exact hl);rw[ZF]at this;exact this) (.cons rfl r1) hq) λr s' hq'=>?_);cases r with
 |error e'=>exact False.elim hq'
 |ok fl =>
  cases fl with
  |next=>exact False.elim hq'
  |brk=>exact False.elim hq'
  |cont=>exact False.elim hq'
  |ret u =>
   exists[v,H',os',bare,un,hok,r,rfl,dc,hd,hE'],hq';obtain rfl:u=Value.none:=r;have I3:Inv X ON Y H' s':=I2.call' os' un hok bare λ_ z=>nomatch z;have notin:∀b,hp.get? b=none->b∉frs Ã:=λb hb hm=>by exists[_,o',ho',_],I1.stack.mem hm;exact nomatch ĭ ho'
   have hx:s'.heap.get? ea=some { cls:=.ref C,dict:=dc,data:=.fields À }:=(show ObjOk È Ğ H' s'.heap ea (exN ea C t dc)from I3.hok ea _ hd).1;have ut:upd H1 ea đ t=none:=by rw[af nt];exact ht0
   have tt':=un.keep t _ tt ut (notin t tn) nofun;refine#[rfl,z9 (ZJ (wpAny_point (Za #[ea,_,rfl,I3.kIn,hx,rfl,#[t,rfl],?_])))];have hy:s'.heap.get? ea=some { cls:=.ref C,dict:=dc,data:=.fields À }:=hx;have ne:∀b v,H' b=some v->v≠exN ea C t dc->b≠ea:=λb v q hv z=>by rw[z,hd]at q;exact hv (Zo q).symm
   have ft:=un.free t _ tt ut nofun;have tr2:∀b v,H' b=some v->b≠t:=λb v q z=>by rw[z,ft]at q;cases q
   have tfr:∀b v,H' b=some v->b∉frs Ã:=λb v q hm=>by have:=I3.stkFree b hm;rw[q]at this;cases this
   have oe:∀b o,hp.get? b=some o->b≠ea:=λb o q z=>by rw[z]at q;exact nomatch mx.new.symm.trans q
   have ot:∀b o,hp.get? b=some o->b≠t:=λb o q z=>by rw[z]at q;exact nomatch Į q
   have un1:Un ë [] H1 ć hp s'.heap:=by
    refine#[λb o q n hb hx'=>un.keep b o Ö Í hb hx',λb o q n hb hx'=>un.slot b o Ö Í hb hx',λb o q n hx'=>?_,λb o q hx'=>un.there b o Ö hx',λb xs q=>?_,λb o v q=>?_,λb ps' q=>?_]
    .rw[gY (oe b o q)];exact un.free b o Ö Í hx'
    .have:=un.tups b xs Ì;rw[gY à];exact this
    .have:=un.frzs b o v Ì;rw[gY à];exact this
    .exists[more,this],un.tbls b ps' Ì;exact#[more,by rw[gY à];exact this]
   have hok1:HOk È Ğ ć s'.heap:=λb v q=>by exists[hb,q],CQ q;exact(I3.hok b v q).stay (λ_ _ _ z=>z) (λb' z=>by rw[gY ě];exact z) λb' xs z=>by rw[gY ě];exact z
   have hid:∀b o,s'.heap.get? b=some o->b≠ea->b≠t->b∉frs Ã->(hideAll s'.heap Ħ).get? b=some o:=λb o q h1 h2 h3 =>
    hideAll_get _ q λhm=>by
     rcases Zg.mp hm with z|hm
     .exact h1 z
     rcases Zg.mp hm with z|hm
     .exact h2 z
     .exact h3 hm
   have Fx:Fl X H1 ć #[hp,g,d,tk,os] s' (hideAll s'.heap Ħ):=#[os',bare,un1,hok1,λb o hb ho q=>by
    rcases ho with⟨v,z⟩|⟨o0,z⟩
    .exists[hb',z],CQ z;exact hid b o q hb' (tr2 _ _ z) hb
    .exact hid b o q (oe b o0 z) (ot b o0 z) hb]
   exact hR ea s' #[ON,Y,H1,del H' ea,_,_,t,.ref C,us,dc,I1,Fx,.inl #[λb o q=>of_hideAll _ q,hideAll_none _ Zn,
    funFrames_hide I3.stack λenv he b hb=>Zj _ (Zj _ (Yc.mpr #[env,he,hb])),_,hy,rfl,rfl],#[_,_,tt',rfl,rfl],hideAll_none _ (Zj _ Zn),#[_,hy,rfl],hE']
#check 0
def AL(qual:Ď)(params:î)(body:OM)(scope:ø)(cl:É)(pm:OE)(c:OC)(ct:OE):OI:=kla_fn "<lambda>" qual params body scope cl pm ß ct
def lK(qual:Ď)(params:î)(body:OM)(scope:ø)(cl:É)(pm:OE)(c:OC)(ct:OE):Obj:={ cls:=.type "function",data:=.func (AL qual params body scope cl pm c ct) }
def jH(a:OC)(o:Obj):HO:=.ext λh=>h.get? a=some o
def mL(c:OC)(qual:Ď):HO:=.ext λh=>h.CodeRec ß qual
theorem sJ{h:å}(e:h.get? a=some o):ObjOk P w H h a (jH a o):=#[e,#[o,e],λ_ _ x k=>k _ x]
theorem Hr{h:å}(e:h.CodeRec ß q):ObjOk P w H h c (mL c q):=by exists[c',oc,vs,t,e1,e2,e3,e4],id e;cases e1;refine#[e,#[oc,e2],λh1 h2 x k=>?_];exists[c',oc,vs,t,e1,e2,e3,e4],id x;cases e1;exact#[c,oc,vs,t,rfl,k _ e2,e3,e4]
def Blt(h:å)(mg:OA):Prop:=∃bm ob,mg "__builtins__" = some (.ref bm)/\bm≠builtinsNs/\h.get? bm=some ob/\ob.cls=.type "module"/\ob.dict=some builtinsNs/\ob.data=.plain
section
variable{s:OD}
theorem Inv.bltAt(I:Þ)(B:Blt Ø ă)(hP:ŋ):s.heap.BuiltinsAt ă P:=by
 exists[bm,ob,b1,b2,b3,b4,b5,b6],B;refine#[bm,ob,b1,b2,λz=>?_,λz=>?_,I.bk _ _ b3,b4,b5,b6]
 .exists[o,es,ep,e,d,_],I.ok.mod.glob;rw[<-z,b3]at e;cases e;rw[d]at b6;cases b6
 .have:=(I.bs _ _ b3).2;rw[z,hP]at this;cases this
theorem Inv.grown{h':å}{ps more:Array OE}{t':ĝ}(I:Þ)(hP:ŋ)(k:∀b o,b≠P->s.heap.get? b=some o->h'.get? b=some o)(hc:Á<=c)(hf:Á<=f)(hcf:c≠f)(eP:h'.get? P=some { cls:=.none,data:=.fields (ps++more) })(nc:∀H',ObjOk È Ğ H' h' c oc)(nf:∀H',ObjOk È Ğ H' h' f of'):
  H c=none/\H f=none/\Inv X ON Y (upd Û f of') { s with heap:=h',toks:=t' }:=by
 have c0:=I.hok.fresh hc;have f0:=I.hok.fresh hf;have nP:∀{b:OC} {u:HO},H b=some u->(∀qs,u≠.tbl qs)->b≠P:=fun{b u} e n z=>by rw[z,hP]at e;cases e;exact n _ rfl
 have up:∀{b:OC},b≠P->b≠c->b≠f->upd Û f of' b=H b:=fun{b} n1 n2 n3=>by rw[af n3,af n2,af n1]
 have old:∀{b:OC} {o:Obj},s.heap.get? b=some o->b≠c/\b≠f:=fun{b o} e=>#[Zz (ZD ŏ hc),Zz (ZD ŏ hf)]
 have pcf:P≠c/\P≠f:=by have:=I.hok P _ hP;exact old (show s.heap.get? P=some _ from this)
 refine#[c0,f0,I.un (t':=t') #[λb o e n _ _=>k b o Î e,λb o e n _ _=>#[æ,k b o Î e],λb o e n _=>?_,λb o e _=>?_,λb xs e=>?_,λb o u e=>?_,λb qs e=>?_] λb u e=>?_]
 .rw[up Î (old e).1 (old e).2];exact n
 .by_cases z:b=P
  .exact#[_,z▸eP]
  .exact#[o,k b o z e]
 .rw[up ù þ ï];exact e
 .rw[up ù þ ï];exact e
 .by_cases z:b=P
  .subst z;rw[hP]at e;cases e;exact#[more,by rw[af pcf.2,af pcf.1,ac]]
  .exact#[#[],by rw[up z þ ï,e];simp]
 .by_cases zf:b=f
  .subst zf;rw[ac]at e;cases e;exact nf _
  .rw[af zf]at e;by_cases zc:b=c
   .subst zc;rw[ac]at e;cases e;exact nc _
   .rw[af zc]at e;by_cases zP:b=P
    .subst zP;rw[ac]at e;cases e;exact eP
    .rw[af zP]at e;refine(I.hok b u e).stay (λb' v hb' q=>k b' v (λz=>?_) q) (λb' z=>by rw[up ú ŕ Ŗ];exact z) λb' xs z=>by rw[up ú ŕ Ŗ];exact z
     rcases hb' with rfl|hb'
     .exact zP z
     .rw[z,hP]at hb';cases hb'
#check 0
def bZ(q:Ď)(P:OC)(pos:Pos)(H:Hp):Prop:=∃ps:Array OE,H P=some ý/\TriplesOk Ü/\(codeAmong pos Ü=none\/∃c',codeAmong pos Ü=some á/\H c'=some ŗ)
def SameT(P:OC)(H H':Hp):Prop:=∀b o,H b=some o->b≠P->H' b=some o
theorem SameT.of(s:Same H H'):SameT P H H':=λb o e _=>s b o e
theorem SameT.trans(s:SameT P H H')(t:SameT P H' H2):SameT P H H2:=λb o e n=>t b o (s b o e n) n
theorem oQ{x y:Int}:∀l:OB,TriplesOk l->TriplesOk (l++[.int x a,.int y b,c])
 | [],_=>trivial
 |.int _ _::.int _ _::_::rest,h=>oQ rest h
structure LamOk(P:OF)(w:OG)(K:Qa)(mg:OA)(base:å)(k:ĝ)(qual:Ď)(body:OM)(scope:ø)(x:Ď)(sp:Sp):Prop where
 ex:∃N:List Str,FnScope N [x] scope/\(∀vs H Q E,sp vs H Q E->ē=1)/\∀(f c':OC) (A:OH) (outer:ê) (s:OD) (H:Hp) (vs:ŝ) (Q:VK) (E:XK),Room k (A.deeper (envOfC qual scope Á f á))->sp vs H Q E ->
  ∃t,QE (gG CX0 P w K mg base N qual scope f á A outer s H E) body t/\t ļ H Q
def GQ(a:OC)(tabs:Ľ)(H:Hp):Prop:=∀b,H b=none\/(b=a/\∃o xs,H b=some (.frz o (.lst xs)))\/(Ô/\H b=some Đ)
theorem EG{P:OF}{w:OG}{K:Qa}{mg mb:OA}{k:ĝ}{fa a:OC}{fd:OI}{x:Ď}{sp:Sp}{s:OD}{vs:OB}{ns:OJ}{tabs:Ľ}(kx:K.In Å)(gx:s.heap.Ns mainGlobals mg)(bx:s.heap.Ns builtinsNs mb)(bb:∀y:Str,y≠"__name__"->mb y=bootBuiltins y)(nl:Ī)(gn:s.gens=#[])(bl:Blt Å mg)(tx:∀q∈tabs,CodeHd Å q.1 q.2/\s.heap.get? q.2=some (tabObj #[]))(nt:noTabs K=true)(sa:s.heap.get? a=some { cls:=.type "list",data:=.seq ó })(si:IntsAre vs ns)(sl:ns.length<=sizeLine)(hr:Room k callerA)(F:∀base:Heap,K.In base->base.Ns mainGlobals mg->Blt base mg->(∀q∈tabs,CodeHd base q.1 q.2)->FnOk P w K mg base CX0 k fa fd [x] sp)(bind:∀(s:OD) (u:OE),BindsTo s fd #[[u],[]] [ņ])(go:∀H:Hp,â->SqL K H a ô->sp [.ref a] H (λv _=>v=.bl true) λ_ _ _=>False) :
  codeAny ñ callerA ç Ç s:=by
 have tabNot:∀{b:OC} {c:OC},ĵ∈tabs->K.lookup b=none:=fun{b c} hm=>by
  cases e:K.lookup b with
  |none=>rfl
  |some o =>have e1:=(kx b o e).symm.trans (tx _ hm).2;cases e1;have:=YD.mp nt _ (mem_of_lookupK e);cases this
 have aNot:∀{c:OC},¬(c,a)∈tabs:=fun{c} hm=>by have:=(tx _ hm).2;rw[sa]at this;cases this
 have main:∀H:Hp,GQ a tabs H->â->SqL K H a ô->HOk P w H Å->(H a≠none->K.lookup a=none) ->
   codeAny ñ callerA ç Ç s:=by
  intro H ae ht hS ok ha;have free:∀{b:OC} {o:Obj},s.heap.get? b=some o->(∀n m,û≠.seq n m)->(∀n,û≠.fields n)->H b=none:=fun{b o} e n1 n2=>by
   rcases ae b with z|⟨rfl,_⟩|⟨⟨c,hm⟩,_⟩
   .exact z
   .rw[sa]at e;cases e;exact absurd rfl (n1 _ _)
   .rw[(tx _ hm).2]at e;cases e;exact absurd rfl (n2 _)
  have nsB:∀{b:OC} {m:OA},s.heap.Ns b m->(kP Å H).Ns b m:=fun{b m} ⟨o,es,ep,e,d,r⟩=>#[o,es,ep,mK e (free e (λ_ _ z=>by rw[d]at z;cases z) λ_ z=>by rw[d]at z;cases z),d,r]
  have kB:K.In ð:=λb o e=>mK (kx b o e) (by
   rcases ae b with z|⟨rfl,o',xs,z⟩|⟨⟨c,hm⟩,_⟩
   .exact z
   .rw[ha (by rw[z];simp)]at e;cases e
   .rw[tabNot hm]at e;cases e)
  have bB:Blt ð mg:=by exists[bm,ob,b1,b2,b3,b4,b5,b6],bl;exact#[bm,ob,b1,b2,mK b3 (free b3 (λ_ _ z=>by rw[b6]at z;cases z) λ_ z=>by rw[b6]at z;cases z),b4,b5,b6]
  have cB:∀q∈tabs,CodeHd ð q.1 q.2:=λq hq=>by
   exists[o,ws,file,tf,fl,tg,inF,text,tt,c1,c2,c3,c4],(tx q hq).1;refine#[o,ws,file,tf,fl,tg,inF,text,tt,mK c1 ?_,c2,c3,c4];rcases ae q.1 with z|⟨z,_⟩|⟨⟨c,hm⟩,_⟩
   .exact z
   .rw[z,sa]at c1;cases c1;injection c2 with c2;exact absurd c2 ⋯
   .rw[(tx _ hm).2]at c1;cases c1;cases c2
  have mB:Mod K mg ð:=#[kB,nsB gx,#[mb,nsB bx,bb],let⟨mc,n1,n2⟩:=nl;#[mc,nsB n1,n2]]
  have env:Env0 P w K mg ð callerA [] s H:=#[rfl,mB,λb o e=>HM e,Nat.le_of_eq (Cm _ _),trivial,λb hb=>absurd (show b∈([]:List OC)from hb) Ñ,ok,.of_eq gn]
  refine Y7 ((F _ kB (nsB gx) bB cB).run callerA [] s H #[[.ref a],[]] [.ref a] [.ref a] _ _ hr env (bind s (.ref a)) (.cons rfl .nil) (go H ht hS)) λr s' h=>?_;cases r with
  |error e=>exact False.elim h
  |ok fl =>
   cases fl with
   |next=>exact False.elim h
   |brk=>exact False.elim h
   |cont=>exact False.elim h
   |ret u =>
    exists[v,H',os,bare,un,ok',rv,hv],h;obtain rfl:v=.bl true:=hv;obtain rfl:u=Value.bool true:=rv;have each:∀b o,s.heap.get? b=some o->asItWas Å s'.heap b o/\∃o',s'.heap.get? b=some o':=λb o e=>by
     rcases ae b with z|⟨rfl,o',xs,z⟩|⟨⟨c,hm⟩,z⟩
     .have:=un.keep b o e z (by intro q;exact absurd (show b∈([]:List OC)from q) Ñ) Ñ;exact#[.inl this,_,this]
     .exists[e1,_],ok b _ z;exists[e2,_],ok' b _ (un.frzs b o' _ z);rw[e]at e1;cases e1;exact#[.inl e2,_,e2]
     .exists[more,z2],un.tbls b _ z;have e2:s'.heap.get? b=some { cls:=.none,data:=.fields (#[]++more) }:=ok' b _ z2;have e1:=(tx _ hm).2;rw[e]at e1;cases e1;exact#[.inr (.inl #[(((tx _ hm).1).tab e).isCodeTable,rfl,#[],more,rfl,e2]),_,e2]
    exact#[rfl,#[λb o e=>(each b o e).1,λb o e=>(each b o e).2],os,bare]
 have rv:=uO si;have lv:=si.length;have inT:∀b,Decidable Ô:=λb=>Classical.propDecidable _;cases hk:K.lookup a with
 |some o =>
  have e:=kx a o hk;rw[sa]at e;cases e;refine main (λb=>@ite _ Ô (inT b) Ř none) ř Ā (.inr #[_,ó,_,hk,rfl,rfl,rfl,by rw[Zk,lv];exact sl,by simpa using rv]) ı (λz=>absurd (Ow fun⟨c,hm⟩=>aNot hm) z)
  .by_cases c:∃c,ĵ∈tabs
   .exact .inr Ĝ
   .exact .inl (Ow c)
  .by_cases c:∃c,ĵ∈tabs
   .have z':=(Ox c).symm.trans z;cases z';exists[c,hm],c;exact(tx _ hm).2
   .have z':=(Ow c).symm.trans z;cases z'
 |none =>
  refine main (λb=>@ite _ Ô (inT b) Ř (if b=a then some (.frz { cls:=.type "list",data:=.seq ó } (.lst ô))else none)) ř Ā (.inl (.inr #[{ cls:=.type "list",data:=.seq ó },(Ow fun⟨c,hm⟩=>aNot hm).trans (Ox rfl)])) ı (λ_=>hk)
  .by_cases c:∃c,ĵ∈tabs
   .exact .inr Ĝ
   .by_cases hb:b=a
    .exact .inr (.inl #[hb,_,_,(Ow c).trans (Ox hb)])
    .exact .inl ((Ow c).trans (Ow hb))
  .by_cases c:∃c,ĵ∈tabs
   .have z':=(Ox c).symm.trans z;cases z';exists[c,hm],c;exact(tx _ hm).2
   .have z':=(Ow c).symm.trans z;by_cases hb:b=a
    .rw[Ox hb]at z';cases z';subst hb;exact#[sa,by rw[Zd];exact sl,vs,_,rv,sa]
    .rw[Ow hb]at z';cases z'
theorem Fun.okC{K:Qa}{st:Stmt}{k:ĝ}{sp:Sp}(F:Fun K x qual st f fd)(hc:fd.code=.ref c)(S:FnScope N ps Ŀ)(len:∀ vs H Q E,sp vs H Q E->ē=ō)(body:∀ (A:OH) (outer:ê) (s:OD) (H:Hp) (vs:ŝ) (Q:VK) (E:XK),Room k (A.deeper (envOfC qual Ŀ Á f ß))->sp vs H Q E ->
   ∃ t,QB (gG CX0 P w K mg base N qual Ŀ f ß A outer s H E).nox (bT st) t/\t { nx:=λ_ H'=>Q .non H',rt:=Q } ļ H):↑FnOk CX0 (k+1) f fd ps sp:=by
 exists[oc,od,kV,doc,pm,an,cdv,ct,osl,rfl,lk,hcd],F.ex;obtain rfl:cdv=.ref c:=hc;refine AE lk hcd S len λA outer s H vs Q E hr hs=>?_;exists[t,h,q],body A outer s H vs Q E hr hs;exact#[t,h.h.nox,q]
inductive SKey where
 |i (n:Int)|s (t:Ď)|bi (b:Bool)(n:Int)
def SKey.at(H:Hp):SKey->V->Prop
 |.i n,v=>v=.int n
 |.s t,v=>v=.str t
 |.bi b n,v=>∃a,v=.ref a/\H a=some (.tup [.bl b,.int n])
section
variable{X:Cx}{ON:Oy}{Y:St}{H:Hp}{s:OD}
def vC(X:Cx)(ON:Oy)(Y:St)(f:OC)(sp:Sp):Prop:=∀(s:OD) (H:Hp) (u:OE) (v:V) (Q:VK),Inv X ON Y H s->RelV v u->sp [v] H Q E0->codeAny Ý Ï (.call ĉ #[[u],[]]) (CR CX0 Ã È Ğ H s Q E0) s
theorem IK{k:ĝ}(F:FnOk È Ğ Ķ ă Ø CX0 k f fd [x] sp)(hb:∀(s:OD) (u:OE),X.K.In Å->BindsTo s fd #[[u],[]] [ņ])(hr:Room k Ï):∀l,vC (wX X l) ON Y f sp:=λl s H u v Q I ru hs=>by
 have env:Env0 È Ğ Ķ ă Ø Ï Ã s H:=by have e0:=I.env0;exact#[Ĕ,Ń,š,ń,ķ,Ņ,e0.hok,ĸ]
 exact F.run Ï Ã s H #[[u],[]] [u] [v] Q E0 hr env (hb s u I.kIn) (.cons ru .nil) hs
structure SG(X:Cx)(ON:Oy)(Y:St)(H1:Hp)(m:OA)(kS D:OC)(e1:ĝ)(ks:List SKey)(as:ŝ)(us:OB)(e:ĝ)(H:Hp)(s:OD):Prop where
 I:Inv X ON Y H s
 sm:Same H1 H
 fk:bQ X ON H kS
 fd:bQ X ON H D
 bk:X.base.get? kS=none
 bd:X.base.get? D=none
 hk:s.heap.get? kS=some (seqObj "list" (List.toArray us) e)
 hd:s.heap.get? D=some (seqObj "list" #[] e1)
 ns:s.heap.Ns Ù m
 vals:Vals as us
 keys:∀(i:ĝ) (a:V) (k:SKey),as[i]?=some a->ks[i]?=some k->k.at H a
theorem yo(b:Bool)(h:Vals xs us):Vals (katRev b xs) (katRev b us):=by
 cases b with
 |false=>exact h
 |true =>
  show Vals xs.reverse us.reverse;induction h with
  |nil=>exact .nil
  |cons r _ ih =>rw[List.reverse_cons,List.reverse_cons];exact ih.append (.cons r .nil)
#check 0
structure LamScope(x y:Ď)(sc:ø):Prop where
 kind:sc.kind=.function
 co:sc.isCoroutine=false
 gen:sc.isGenerator=false
 lx:sc.names.lookup x=some .local
 ly:sc.names.lookup y=some .free
 nc:∀z∈Ţ,z.2≠.cell
 nf:∀z∈Ţ,z.2=.free->z.1=y
 ne:x≠y
def cxX(CX:CXT)(P:OF)(w:OG)(K:Qa)(mg:OA)(base:å)(N:Ĳ)(qual:Ď)(scope:ø)(f:OC)(cd:OE)(cl:É)(A:OH)(outer:ê)(s:OD)(H:Hp)(E:XK):Cx where
 prog:=P
 w:=w
 K:=K
 mg:=mg
 base:=base
 A:=A.deeper Ó
 N:=N
 s₀:=s
 H₀:=H
 env:=envX qual scope Á f cd cl
 outer:=outer
 stack:=envX qual scope Á f cd cl::outer
 ex:=[]
 calm:=true
 fn:=λ_=>false
 pn:=[]
 xe:=λe s'=>wpAny ñ (A.deeper Ó) (leaving Ó e) (λ_ s''=>CX outer H s E e s'') (λe' s''=>CX outer H s E e' s'') s'
set_option ğ true in theorem AK{K:Qa}{A:OH}{h1:å}{tk:ĝ}(S:Ē)(hd:A.handled=none)(e0:↑Env0 A outer s H)(r:RelV v u)(kr:RelV kv ku)(hc:s.heap.IsCell c Ģ)(fc:H c=none)(hns:h1.Ns Á λz=>[ņ].reverse.lookup z)(hk:∀b o,s.heap.get? b=some o->h1.get? b=some o):
  Inv (cxX CX P w K mg base [x,y] qual scope f cd [Ą] A outer s H E) [] [some v,some kv] H { s with heap:=h1,toks:=tk }:=by
 have noA:∀b:OC,b∉(cxX CX P w K mg base [x,y] qual scope f cd [Ą] A outer s H E).ex:=λb z=>absurd (show b∈([]:List OC)from z) Ñ;have lk:∀{z:Ď} {d:OC},([Ą]:List Ś).lookup z=some d->z=y/\d=c:=fun{z d} h=>by
  rw[ZS]at h;split at h
  .rename_i e;cases h;exact#[by simpa using e,rfl]
  .cases h
 have ly:([Ą]:List Ś).lookup y=some c:=by simp
 have cell1:h1.IsCell c Ģ:=by exists[o,a1,a2],hc;exact#[o,hk _ _ a1,a2]
 refine#[#[Ń,S.kind,rfl,rfl,Zi _,λz z' d q1 q2=>?_,λz hz=>?_,λz d q _=>(nomatch q),λ_=>hd,Around.frames_deeper Ĕ,.inr #[rfl,rfl],λb z=>absurd z (noA b),š,ń,λb _ _=>noA b,λb z=>absurd z (noA b),ķ,Ņ],
  rfl,ĸ,Un.kept hk,#[_,hns,λi z v' q1 q2 q3=>?_],λz d q=>#[some ku,by rw[(lk q).2];exact cell1],e0.hok.fresh (Zi _),λz d q=>by rw[(lk q).2];exact fc,λp hp=>absurd (show p∈([]:Oy) from hp) Ñ,e0.hok.kept hk,rfl]
 .exact(lk q1).1.trans (lk q2).1.symm
 .have hz:scope.names.lookup z=some .cell\/scope.names.lookup z=some .free:=hz;rcases hz with hz|hz
  .exact absurd rfl (S.nc _ (Yk hz))
  .exact#[c,by rw[show z=y from S.nf _ (Yk hz) rfl];exact ly]
 .match i,q1,q2 with
  |0,q1,q2 =>cases q1;cases q2;exact#[u,r,.inl #[S.lx,by simp]]
  |1,q1,q2 =>cases q1;cases q2;exact#[ku,kr,.inr #[.inr S.ly,c,ly,cell1]]
  |i+2,q1,_=>simp[cxX]at q1
section
variable{X:Cx}
theorem EF{k j:ĝ}{sp:Sp}(S:Ē)(hi:X.N[j]? = some y)(hY:Y[j]? = some (some kv))(hyc:X.env.scope.names.lookup y=some .cell)(hcy:X.env.cells.lookup y=some c)(hr:Room (k+1) Ï)(hbd:∀ (s:OD) (u:OE),BindsTo s (AL qual params body scope [Ą] pm c' ct) #[[u],[]] [ņ])(hbody:∀ (A:OH) (outer:ê) (s:OD) (H:Hp) (v:V) (Q:VK),Room k Õ->sp [v] H Q E0 ->
   ∃ t,PE (cxX CX0 È Ğ Ķ ă Ø [x,y] qual scope f á [Ą] A outer s H E0) body t/\t [some v,some kv] H Q):
  ∀l,vC (wX X l) ON Y f (λvs H Q E=>H f=some (jH f (lK qual params body scope [Ą] pm c' ct))/\H c'=some (mL c' qual)/\sp vs H Q E):=by
 intro l s H u v Q I ru ⟨hf,hc,hsp⟩;have e0:Env0 È Ğ Ķ ă Ø Ï Ã s H:=by have e0:=I.env0;exact#[Ĕ,Ń,š,ń,ķ,Ņ,e0.hok,ĸ]
 have lim:Ī:=e0.mod.nolimit.keeps λb o e=>(e0.bs b o e).1;have of1:=(e0.hok f _ hf).1;have oc1:=(e0.hok c' _ hc).1;exists[m,_,look],I.loc;exists[ku,kr,lk],look j y kv hi hY (.inr (.inl hyc));have cell:s.heap.IsCell c Ģ:=by
  rcases lk with⟨z,_⟩|⟨_,d,e1,e2⟩
  .have z':X.env.scope.names.lookup y=some .local:=z;rw[hyc]at z';cases z'
  .have e1':X.env.cells.lookup y=some d:=e1;rw[hcy]at e1';cases e1';exact e2
 have fc:H c=none:=I.freeC y c hcy;refine kla_callFunE hr.depth of1 rfl S.co S.gen rfl oc1 (hbd s u _ _ _ _ ?_);refine wpAny_newFunctionEnv S.nc (λz hz=>?_) (λh1 hns hsb=>#[lim.keeps ?_,kla_codeExpr ?_]) S.kind
 .rw[Zh.mp hz];exact S.lx
 all_goals have hk:∀b o,s.heap.get? b=some o->h1.get? b=some o:=λb o e=>hsb.extBut b o (Zz ŏ) (Zb _ e)
 .exact hk
 .exists[t,ht,hq],hbody Ï Ã s H v Q (hr.deeper _) hsp;have I2:=AK (CX:=CX0) (qual:=qual) (f:=f) (cd:=.ref c') (E:=E0) (tk:=ĩ+1) S hr.hd e0 ru kr cell fc hns hk;refine ZQ (ht [] _ _ H _ I2 hq) (λu s' hz9=>?_) λe s' hs=>hs;exists[v,H',J,rv,q],hz9;exact#[v,H',J.os,J.bare,J.base,J.hok,rv,q]
#check 0
section
variable{X:Cx}{c P:OC}{params:î}{body:OM}{scope:ø}{pos:Pos}{cl:É}
def Bu(cl:É)(X:Cx)(P:OC)(params:î)(body:OM)(scope:ø)(pos:Pos):TE:=λ_ H Q=>∃ps:Array OE,H P=some ý/\TriplesOk Ü /\
 ((∃ c',codeAmong pos Ü=some á/\H c'=some ň/\∀ f ct,H f=none->Q ĉ (upd H f ś)) \/
  (codeAmong pos Ü=none/\∀ f c' ct,H f=none->H c'=none->c'≠f->Q ĉ (upd (upd (upd H P (.tbl (ps++(List.toArray [rawInt ş,rawInt pos.col,.ref c'])))) c' ň) f ś)))
theorem Ij(hcode:X.env.code=.ref c)(hge:X.env.globals=mainGlobals)(C:CodeHd Ø c P)(B:Blt Ø ă)(hdef:defaultsOf params Ë=([],[]))(hcl:closureFor scope Ë=pure cl):PE X (.Lambda params body scope pos) (Bu cl X P params body scope pos):=by
 intro ON s Y H Q I h;exists[ps,hP,ht,hh],h;have oP:s.heap.get? P=some (tabObj ps):=I.hok P _ hP;have hg:s.heap.Ns mainGlobals ă:=I.ok.mod.glob.keeps I.bk;have hb:=I.bltAt B hP;refine kla_eval hdef ?_;rcases hh with⟨c',hf,hc',q⟩|⟨hnf,q⟩
 .refine kla_makeFunctionHit hcl hge hg hcode Ĭ oP ht hf hb λct h' tk kp hsz=>?_;have hn:=I.hok.fresh hsz;exact#[.ref _,_,I.laid (t':=tk) (λb o e=>Zb _ (kp b o e)) hsz (sJ Ŋ),rfl,q _ ct hn]
 .have hgP:mainGlobals≠P:=λz=>by exists[o,es,ep,e,d,_],hg;rw[z,oP]at e;cases e;cases d
  refine kla_makeFunction hcl hge hg hcode Ĭ oP ht hnf hgP hb λc' ct h' tk hx hge' hlt hrec htb=>?_;have hnF:c'≠h'.objs.size:=Zz hlt;exists[i1,i2,i3],I.grown (t':=tk) (c:=c') (f:=h'.objs.size) (h':=h'.push Â) (oc:=mL c' Æ) (of':=jH h'.objs.size Â) hP
   (λb o hb' e=>Zb _ (hx b o hb' e)) hge' (Zs hge' (Nat.le_of_lt hlt)) hnF (Zb _ htb) (λ_=>Hr (by
    exists[c₂,oc,vs,t,e1,e2,e3,e4],hrec;exact#[c₂,oc,vs,t,e1,Zb _ e2,e3,e4])) (λ_=>sJ Ŋ)
  exact#[.ref _,_,i3,rfl,q _ c' ct i2 i1 hnF]
structure LamOkX(P:OF)(w:OG)(K:Qa)(mg:OA)(base:å)(k:ĝ)(qual:Ď)(body:OM)(scope:ø)(x y:Ď)(sp:V->Sp):Prop where
 sc:LamScope x y scope
 ex:∀(f c' c:OC) (kv:V) (A:OH) (outer:ê) (s:OD) (H:Hp) (v:V) (Q:VK),Room k Õ->sp kv [v] H Q E0 ->
  ∃t,QE (cxX CX0 P w K mg base [x,y] qual scope f á [Ą] A outer s H E0) body t/\t [some v,some kv] H Q
def yP(X:Cx)(P:OC)(q:Ď)(lpos:Pos)(params:î)(body:OM)(scope:ø)(cl:É)(H1:Hp)(f:OC)(H2:Hp):Prop :=
 ∃(c':OC) (ct:OE),SameT P H1 H2/\bZ q P lpos H2/\H2 f=some (jH f (lK q params body scope cl ((ă "__name__").getD .none) c' ct))/\H2 c'=some ŗ/\f≠P/\c'≠P
theorem ED{R:VK}(tab:bZ Æ P lpos H1)(h:∀f H2,yP X P Æ lpos params body scope cl H1 f H2->R ĉ H2):Bu cl X P params body scope lpos Y H1 R:=by
 exists[ps,tP,t3,tc],tab;refine#[ps,tP,t3,?_];rcases tc with hno|⟨c',hy,hc'⟩
 .refine .inr #[hno,λf c' ct f0 c0 hcf=>h _ _ ?_];have nPf:f≠P:=λz=>by rw[z,tP]at f0;cases f0
  have nPc:c'≠P:=λz=>by rw[z,tP]at c0;cases c0
  refine#[c',ct,λb o e hb=>?_,#[_,by rw[af (ZO nPf),af (ZO nPc),ac],?_,.inr #[c',?_,by rw[af hcf,ac]]],ac,by rw[af hcf,ac],nPf,nPc]
  .rw[af ï,af þ,af hb];exact e
  .rw[Array.toList_append];exact oQ _ t3
  .rw[Array.toList_append];exact codeAmong_snoc _ t3 hno
 .refine .inl #[c',hy,hc',λf ct f0=>h _ _ ?_];have nPf:f≠P:=λz=>by rw[z,tP]at f0;cases f0
  have nPc:c'≠P:=λz=>by rw[z,tP]at hc';cases hc'
  exact#[c',ct,λb o e hb=>by rw[af ï];exact e,#[ps,by rw[af (ZO nPf)];exact tP,t3,.inr #[c',hy,by rw[af ł];exact hc']],ac,by rw[af ł];exact hc',nPf,nPc]
#check 0
end
open PySem PyProof.Rows PySem.W
open PySem PyProof.Rows PySem.W
section
variable{prog:OF}{w:OG}{A:OH}{s:OD}{κ:SortKind}{it:Array Keyed}{lt:OL}{N:Nat}{st:SortSt}
def Zc(prog:OF)(w:OG)(A:OH)(s:OD)(κ:SortKind)(it:Array Keyed)(lt:OL)(N:Nat):Prop :=
 ∀i j (C:Bool->OD->Prop),i<N->j<N->C (lt i j) s->kas_cmp prog w A κ it i j C s
end
open PySem PyProof.Rows PySem.W
mutual
#check#[(gA b j),a.size,b.size,(gA a i)]
section
variable{lt:OL}
structure MF(lt:OL)(N:Nat)(a b:OK):Prop where
 sa:∀i j,i<j->j<Á->Lx lt Ã (gA a j)
 sb:∀i j,i<j->j<Â->Lx lt (gA b i) À
 cr:∀i j,i<Á->j<Â->lt À Ã=false->Lx lt Ã À
 na:∀i,i<Á->gA a i<N
 nb:∀i,i<Â->gA b i<N
 a0:0<Á
 b0:0<Â
 fst:lt (gA b 0) (gA a 0)=true
 lst:∀j,j<Â->lt À (gA a (Á-1))=true
variable{N:Nat}
#check 0
end
open PySem PyProof.Rows PySem.W
open PySem PyProof.Rows PySem.W
open PySem PyProof.Rows PySem.W
open PySem PyProof.Rows PySem.W
section
variable{prog:OF}{w:OG}{A:OH}{s:OD}{κ:SortKind}{it:Array Keyed}{lt:OL}{N:Nat}{st:SortSt}{pre:OK}
structure Zp(prog:OF)(w:OG)(A:OH)(s:OD)(κ:SortKind)(it:Array Keyed)(lt:OL)(N:Nat)(st:SortSt)(pre:OK)(n:Nat):Prop where
 Z:Zc prog w A s κ it lt N
 hk:kindOf st=κ
 hN:pre.size+n=N
 n0:0<n
end
open PySem PyProof.Rows PySem.W
section
variable{lt:OL}(O:LtOk lt){N:Nat}
include O
end
open PySem PyProof.Rows PySem.W
mutual
#check#[r.length,(List Nat),(Array Keyed)]
section
variable{lt:OL}
def FY(lt:OL):Nat->List Á->List (Nat×Nat×Nat)->Prop
 |_,[],[]=>True
 |b,r::rs,t::ts=>t.1=b/\t.2.1=À/\0<À/\r.Pairwise (Lx lt)/\r.Perm (List.range' b À)/\FY lt (b+À) rs ts
 |_,_,_=>False
variable{κ:SortKind}{it:Â}{N:Nat}{st:SortSt}
structure RI(κ:SortKind)(it:Â)(lt:OL)(N lo:Nat)(T:Á)(p:OK)(rs:List Á)(st:SortSt):Prop where
 hk:kindOf st=κ
 hf:failedOf st=none
 ha:arrOf st=p.map (kas_item it)
 hp:p.toList=rs.flatten++T
 pm:p.toList.Perm (List.range N)
 rl:FY lt 0 rs (pendingOf st).toList
 hl:rs.flatten.length=lo
#check 0
end
open PySem PyProof.Rows PySem.W
mutual
#check#[as.length,(Obj.mapSeq λ_=>(#[]:Array OE)),(katRev b out),(model prog w),X.env.locals,(by simp),(.tup (ns.map V.int)),xs.length,(seqObj "list" (List.toArray qs) e),(seqObj "list" (List.toArray us) e),(Obj.mapSeq λ_=>List.toArray Â),(λ_ _=>False),(.ref b),(seqObj "list" #[] e1),(ZN _ (.head _)),(by injection z),(OB->Nat->OD->Prop),(List ZKey),(.ref a),(Nat),(Inv X ON Y H s),(List V),out.length,0,its.length,X.base,(gZ ps ns),(gZ qs ms),ks.length,qs.length,(qs++[k]),(.ref b'),(.ref c'),r.length]
theorem fV{n:Ó}(h:n<=4096):n<=sizeLine:=by rw[sizeLine_eq];omega
section
variable{prog:OF}{w:OG}{A:OH}{E:Oz}{s:OD}{h₀:Heap}{L a kS:OC}{m:OA}{news:Oy}{ks:OB}
theorem Ag{b:Bool}{st:SortSt}{e e1:Ó}{out:OB}{P:PySem.Fin->OD->Prop}(ho:(arrOf st).map (·.2)=List.toArray out)(hz:Ö<=4096)(hq:Ü<=4096)(hf:failedOf st=none)(h:KatFin h₀ L m kS a ks e e1 Â (λs'=>P (.done (.ret .none)) s') s):wpAny Ã A (ksk_tail a b e1 (.ref kS) st) P E s:=by
 exists[nw,g,Fq,Nq,Uq,kq],h;exists[l1,l2,e0,hg,x1,x2],Uq.split;rw[e0]at Nq;have ak:=Nq (kS,seqObj "list" (List.toArray ks) e) Î;have s1:=ZZ s.heap kS Á;obtain⟨ck,hck⟩:∃z,(s.heap.update kS Á).get? kS=some (seqObj "list" #[] z):=#[_,get?_update_seq ak.1 λ_=>#[]]
 have K2:=kq _ ck (kas_fr Fq s1 ak.2.1 ak.2.2) (by rw[hg];exact news_set Nq x1 x2 s1 hck);exists[nw2,g2,F2,N2,U2,k2],K2;exists[m1,m2,e2,hg2,y1,y2],U2.split;rw[e2]at N2;have aa:=N2 (a,seqObj "list" #[] e1) Î;have s2:=ZZ (s.heap.update kS Á) a Ê;have hsz:(List.toArray Â).size=Ö:=by rw[Zk,kat_len]
 obtain⟨c2,hc2⟩:∃z,((s.heap.update kS Á).update a Ê).get? a=some (seqObj "list" (List.toArray Â) z):=#[_,get?_update_seq aa.1 λ_=>List.toArray Â]
 unfold ksk_tail;dsimp only;rw[ho,kat_outs];refine z9 (listUpdate_at ak.1 rfl (z9 (wpAny_letGo (z9 (seqEpoch_at aa.1 rfl (z9 (listUpdate_at aa.1 rfl ?_ (ZL _) (Zs (Nat.le_of_eq hsz) (Nat.le_succ_of_le (fV hz))))))))) (by rw[Zk];exact fV hq) (ZL _));rw[hf];simp only[bne_self_eq_false,Z5,Yq];refine Za (k2 _ c2 (kas_fr F2 s2 aa.2.1 aa.2.2) ?_);rw[hg2];exact news_set N2 y1 y2 s2 hc2
theorem Af{Fin:Ð}{n:Ó}{body:OE->PUnit->Sem (ForInStep PUnit)}(hn:n<=4096)(hb:∀ x ks e (s:OD) (C:OE->Nat->OD->Prop),List.length ks<4096->wpAny Ã A (call f [x]) (KatBack h₀ L m kS ks e C) Ë s ->
   wpAny Ã A (body x ⟨⟩) (λr s'=>r=.yield ⟨⟩/\∃ k c,s'.heap.get? kS=some (seqObj "list" (List.toArray (ks++[k])) c)/\C k c s') E s):∀ (r qs:OB) (e:Ó) (s:OD),Ý+á=n ->
   s.heap.get? kS=some È->KatKeys prog w A h₀ L m kS f Fin r qs e s ->
   wpAny Ã A (forIn r PUnit.unit body) (λ_ s'=>∃qs e,s'.heap.get? kS=some È/\Ý=n/\Fin qs e s') E s
 | [],qs,e,s,hl,hq,h=>by rw[List.forIn_nil];exact Za #[qs,e,hq,by simpa using hl,h]
 |x::r,qs,e,s,hl,hq,h=>by rw[Zm]at hl;rw[List.forIn_cons];refine z9 (ZQ (hb x qs e s (λk c s'=>KatKeys prog w A h₀ L m kS f Fin r Þ c s') ∅ h) (λz s' hz=>?_) λ_ _ x=>x);exists[rfl,k,c,hk',h2],hz;exact Af hn hb r Þ c s' (by rw[Zf,YA];omega) hk' h2
#check 0
def gZ:OJ->OJ->OJ
 | [],ns=>0::ns
 |p::ps,ns=>1::p::gZ ps ns
theorem yY:∀(ps ns qs ms:OJ),HT.lexLt Ú Û=if ps=qs then HT.lexLt ns ms else HT.lexLt ps qs
 | [],ns,[],ms=>by rw[gZ,gZ,HT.lexLt_cons,Ox rfl,Ox rfl]
 | [],ns,q::qs,ms=>by rw[gZ,gZ,HT.lexLt_cons,Ow ⋯,Ow Å];rfl
 |p::ps,ns,[],ms=>by rw[gZ,gZ,HT.lexLt_cons,Ow ⋯,Ow Å];rfl
 |p::ps,ns,q::qs,ms=>by
  rw[gZ,gZ,HT.lexLt_cons,Ox rfl,HT.lexLt_cons,yY ps ns qs ms,HT.lexLt_cons];by_cases h:p=q
  .subst h;rw[Ox rfl,Ox rfl];by_cases h2:ps=qs
   .rw[Ox h2,Ox (by rw[h2])]
   .rw[Ow h2,Ow (λz=>h2 Ï)]
  .rw[Ow h,Ow (λz=>h Ï),Ow h]
inductive ZKey where
 |i (n:Int)|t (ns:OJ)|p (ps ns:OJ)
def ZKey.nums:ZKey->OJ
 |.i n=>[n]
 |.t ns=>ns
 |.p ps ns=>gZ ps ns
def ZKey.at(H:Hp):ZKey->V->Prop
 |.i n,v=>v=.int n
 |.t ns,v=>∃a,v=.ref a/\H a=some Æ
 |.p ps ns,v=>∃a b c,v=.ref a/\H a=some (.tup [.ref b,.ref c])/\H b=some (.tup (ps.map V.int))/\H c=some Æ
theorem ZKey.at.same(sm:Same H H'):∀{k:ZKey} {v:V},k.at H v->k.at H' v
 |.i _,_,h=>h
 |.t _,_,⟨a,e,h⟩=>#[a,e,sm _ _ h]
 |.p _ _,_,⟨a,b,c,e,h1,h2,h3⟩=>#[a,b,c,e,sm _ _ h1,sm _ _ h2,sm _ _ h3]
def BF(ks:Ñ):Prop:=∀k∈ks,∃ps ns,k=.p ps ns
theorem yZ{A:OH}{ns ms:OJ}(I:Ô)(hu:A.units+64<cLine)(ha:H a=some Æ)(hb:H b=some (.tup (ms.map V.int))):SeqAt.EqAt A s Ò Ì (decide (ns=ms)):=by exists[as,r1],Dt.reads I.hok _ Ò Ò (jE ha) rfl;exists[bs,r2],Dt.reads I.hok _ Ì Ì (jE hb) rfl;rw[<-jG];have s1:=eQ ns;have s2:=eQ ms;refine SeqAt.eqAt_reads _ _ A s _ _ as bs r1 r2 (SeqAt.canLay_of_shaped s1) (SeqAt.canLay_of_shaped s2) ?_;have d1:=SeqAt.depth_of_shaped s1;have d2:=Nat.min_le_left (PyData.tuple (ns.map .int)).depth (PyData.tuple (ms.map .int)).depth;omega
theorem yC{Q:Bool->OD->Prop}(e1:SeqAt.EqAt A s Ì ß (decide (ps=qs)))(e2:SeqAt.EqAt A s (.ref c) à (decide (ns=ms)))(l1:∀R:Oz,R (.bool (HT.lexLt ps qs)) s->wpAny Ã A (compareOp .Lt Ì ß) R Ë s)(l2:∀R:Oz,R (.bool (HT.lexLt ns ms)) s->wpAny Ã A (compareOp .Lt (.ref c) à) R Ë s)(hf:fin=false)(q:Q (HT.lexLt Ú Û) s):KatLex prog w A false fin Q ([Value.ref b,.ref c].zip [Value.ref b',.ref c']) 0 s:=by
 subst hf;rw[yY]at q;refine kat_cons (e1 _ _ _ _ (kat_go (λet=>?_) (λef=>?_)))
 .rw[Ox (y0 et)]at q;refine kat_yes (kat_cons (e2 _ _ _ _ (kat_go (λet2=>?_) (λef2=>?_))))
  .have z:=y0 et2;subst z;have e:HT.lexLt ns ns=false:=by
    cases h:HT.lexLt ns ns with
    |false=>rfl
    |true=>rw[CA h]at h;cases h
   rw[e]at q;exact kat_yes (kat_nil q)
  .exact kat_no (kat_one _ _ (l2 _ q))
 .rw[Ow (of_decide_eq_false ef)]at q;exact kat_no (kat_one _ _ (l1 _ q))
section
variable{X:Cx}{ON:Oy}{Y:St}{H:Hp}{s:OD}{h':Heap}
def DY(X:Cx)(s:OD)(l:OC)(xs:Õ):Prop:=∀Q:OB->OD->Prop,(∀h' tk its,(∀b o,s.heap.get? b=some o->h'.get? b=some o)->Vals xs its->Q its { s with heap:=h',toks:=tk })->wpAny (model X.prog X.w) X.A.in1 (collect (.ref l)) Q X.xe s
theorem DD(I:Ô)(hH:H l=some (.lst xs))(hz:Ç<=4096):DY X s l xs:=λQ h=>by exists[z,its,n,rv,hlen,e],I.lstM hH;have li:Ø=Ç:=hlen.symm;refine collect_list #[_,e,rfl,n,rfl] (h _ s.toks its (λb o g=>?_) rv) (fV ∅);rw[Heap.get?_update_ne _ _ _ _ (Zz (Zq g))];exact Zb _ g
structure SGZ(X:Cx)(ON:Oy)(Y:St)(H1:Hp)(m:OA)(kS D:OC)(e1:Ó)(ks:Ñ)(as:Õ)(us:OB)(e:Ó)(H:Hp)(s:OD):Prop where
 I:Inv X ON Y H s
 sm:Same H1 H
 fk:bQ X ON H kS
 fd:bQ X ON H D
 bk:X.base.get? kS=none
 bd:X.base.get? D=none
 hk:s.heap.get? kS=some É
 hd:s.heap.get? D=some Í
 ns:s.heap.Ns Ä m
 vals:Vals as us
 keys:∀(i:Ó) (a:V) (k:ZKey),as[i]?=some a->ks[i]?=some k->k.at H a
theorem SGZ.fr{e1:Ó}{e:Ó}(S:SGZ X ON Y H1 m kS D e1 ks as us e H s):Fr Ù Ä s.heap m:=#[S.ns,S.I.bk,Zs S.I.ok.bsz S.I.ok.above]
theorem rO{e1:Ó}{ks:Ñ}{Fin:Ð}(hne:kS≠D)(rv:Vals xs its)(hl:Ü=Ç)(F:vC X ON Y f sp)(spec:∀(i:Ó) (v:V) (key:ZKey) (H':Hp),xs[i]?=some v->ks[i]?=some key->Same H1 H'->∀R:VK,(∀kv H'',Same H' H''->key.at H'' kv->R kv H'')->sp [v] H' R E0)(fin:∀(as:Õ) (us:OB) (e:Ó) (H:Hp) (s:OD),SGZ X ON Y H1 m kS D e1 ks as us e H s->À=Ç->Fin us e s):
  ∀(r:OB) (as:Õ) (us:OB) (e:Ó) (H:Hp) (s:OD),SGZ X ON Y H1 m kS D e1 ks as us e H s->its=its.take À++r->À+á=Ç ->
   KatKeys X.prog X.w X.A.in1.in1 Ù Ä m kS (.ref f) Fin r us e s
 | [],as,us,e,H,s,S,_,hlen=>KatKeys.nil (fin as us e H s S (by simpa using hlen))
 |u::r,as,us,e,H,s,S,hits,hlen=>by
  have hi:À<Ç:=by rw[Zm]at hlen;omega
  have hx:xs[À]?=some xs[À]:=Ze hi;exists[u',gu,ru],rv.get hx;have hlt:À<Ø:=by rw[<-rv.length];exact hi
  have gu':its[À]?=some u:=by rw[hits,Ys (by rw[ZY];omega),ZY,Nat.min_eq_left ∅,Nat.sub_self];rfl
  rw[gu']at gu;cases gu;have hkey:ks[À]?=some (ks[À]'∅):=Ze ∅;generalize ks[À]'∅=key at hkey;refine KatKeys.cons (wpAny_call (Y7 (F s H u xs[À] (λv H''=>Same H H''/\key.at H'' v) S.I ru (spec _ _ _ H hx hkey S.sm _ λkv H'' s' q=>#[s',q])) λres s' hq=>?_));cases res with
  |error e=>exact hq
  |ok fl =>
   cases fl with
   |next=>exact False.elim hq
   |brk=>exact False.elim hq
   |cont=>exact False.elim hq
   |ret uv =>
    exists[v,H'',os,bare,un,hok,rvv,sm,ea],hq;exists[hh,g,d,t,os'],s';obtain rfl:os'=s.os:=os;have I2:Inv X ON Y H'' { s with heap:=hh,gens:=g,drawn:=d,toks:=t }:=S.I.call (h':=hh) (g':=g) (d':=d) (t':=t) (ch:=[]) un hok bare (λb z=>absurd z Å);have nstk:∀{b:OC},bQ X ON H b->b∉frs X.stack:=fun{b} fo z=>(Zg.mp (S.I.stkSub b z)).elim fo.2.1 fo.2.2.1;have hk2:hh.get? kS=some É:=un.keep kS _ S.hk S.fk.1 (nstk S.fk) Å;have hd2:hh.get? D=some Í:=un.keep D _ S.hd S.fd.1 (nstk S.fd) Å;have ns2:hh.Ns Ä m:=by exists[o,es,ep,ho,rr],id S.ns;exists[sl,hL],un.any ho S.I.free Å;exact#[_,es,ep,hL,rr]
    have fk2:bQ X ON H'' kS:=#[un.free kS _ S.hk S.fk.1 Å,S.fk.2]
    have fd2:bQ X ON H'' D:=#[un.free D _ S.hd S.fd.1 Å,S.fd.2]
    have hkL:kS≠Ä:=S.fk.2.1;refine KatBack.intro (news:=(kS,seqObj "list" (List.toArray us) e)::jA Ù hh Ä kS) ⟨ns2,I2.bk,Zs S.I.ok.bsz S.I.ok.above⟩ (jR hk2 hkL S.bk) (.head mW) λh3 c F3 N3=>?_;have mv:=jQ (λb o q=>I2.bk b o q) F3 N3;have I3:Inv X ON Y H'' { s with heap:=h3,gens:=g,drawn:=d,toks:=t }:=Inv.movedF (ch:=[kS]) (t':=t) I2 (λb hb=>by rw[Zh.mp hb];exact fk2) mv #[m,ns2,F3.ns];refine rO hne rv hl F spec fin r (as++[v]) (us++[uv]) c H'' _ #[I3,S.sm.trans sm,fk2,fd2,S.bk,S.bd,(N3 _ (.head _)).1,mv D _ S.fd.2.1 (λz=>hne (Zh.mp z).symm) hd2,F3.ns,S.vals.append (.cons rvv .nil),λi b key' h1 h2=>?_] ?_ ?_
    .by_cases hi2:i<À
     .rw[List.getElem?_append_left hi2]at h1;exact(S.keys i b key' h1 h2).same sm
     .have hi3:=(Zu.mp h1).1;rw[Zf,YA]at hi3;have e3:i=À:=∅
      subst e3;rw[Ys (Zi _),Nat.sub_self]at h1;cases h1;rw[hkey]at h2;cases h2;exact ea
    .rw[Zf,YA,List.take_add_one,gu',Option.toList_some,Xd];exact hits
    .rw[Zf,YA,<-hlen,Zm];omega
#check 0
end
end Lake
set_option maxHeartbeats 4000000
namespace PySem
open Sem (wp)
mutual
#check#[(∀b o,s.heap.get? b=some o->h'.get? b=some o),s.heap.objs.size,(tupleKind knd),(model prog w),(OC×List K×OC×OE),(o.cls=.type "list"),(List.toArray [.ref l,.int 0 0]),(A.handled=none),(∃o,Heap.get? h' a=some o/\o.cls=.type "AttributeError"),(s.heap.get? a=some o),ps.length,(o.data=.seq its n),(List K×OC×OE),(.ref a),s.heap.push,(o.dict=none),(items.toList=ps.map λp=>Value.ref p.1),(∀p∈ps,PairAt knd s.heap p),(KeyKind prog w K),(wpAny_load (Zl _ rfl) ?_),(.type "list"),(.type "AttributeError"),(pyNext (.ref it) >>= _),0,(λz=>hb (Zh.mpr z)),(k02 _ _ e),s.toks,(Result->OD->Prop),(by size_fits),(.ref ps[i].1),h2.push,(nomatch hx),o.cls,hnew.typeIs,(List Ì),(List Ä),(Zl _ rfl),xs.length,(λz=>?_)]
section
variable{prog:OF}{w:OG}{A:OH}{E:Oz}{s:OD}
theorem qA:isSubtype Õ Õ=pure true:=by rw[isSubtype_type];kernel_rfl
theorem Bg{α:Type}{self:OE}{name msg:Str}{Q:α->OD->Prop}(hm:msg.length<=sizeLine)(hh:Ç)(hE:∀a h',È->À->E Í { s with heap:=h',toks:=Ú+1+1 }) :
  wpAny Ã A (raiseAttrError self name msg) Q E s:=by
 unfold raiseAttrError;refine z9 (wpAny_mkStr ?_ hm);refine z9 ?_;simp only[newExc,newTuple];refine z9 (ZR ?_ Ü);refine z9 (m:=firstArgMember _ _) (wpAny_of_eq (a:=Value.none) (by first|rfl|(simp only[firstArgMember];rfl)) ?_);refine ZR ?_ Ü;refine z9 (wpAny_mkText ?_);refine z9 ?_;unfold noteAttr;dsimp only;refine z9 ?_;unfold lacksNameAndObj;dsimp only;refine z9 (wpAny_isInstance (T:="AttributeError") (b:=true) #[_,Zl _ rfl,rfl] qA ?_);simp only[Bool.not_true,Z5,Yq];refine z9 Ó;show wpAny _ _ (pure true) _ _ _;refine Za ?_;simp only[if_true];refine z9 (YH ?_);refine z9 (Y9 #[_,Zl _ rfl,rfl] ?_);dsimp only;unfold layMembers;refine z9 Ó;dsimp only;refine wpAny_update ä ?_;unfold raiseNew;refine z9 (wpAny_handled ?_);rw[hh];dsimp only;refine z9 (Za (wpAny_throw ?_));refine hE _ _ #[_,y8 _ ä rfl,rfl] λb o e=>?_;have e1:(Î { cls:=Value.type "tuple",data:=Data.seq (List.toArray [Value.str msg Ú]) }).get? b=some o:=Zb _ e;exact(Yd _ _ (ZO (Zz (Zq e1)))).trans (Zb _ e1)
variable{a:OC}{o:Obj}
theorem xx:typeLookup Ô "keys" = pure none:=by rw[typeLookup_type,builtinLookup_eq_fast];kernel_rfl
theorem re:typeLookup Ô "__getattr__" = pure none:=by rw[typeLookup_type,builtinLookup_eq_fast];kernel_rfl
def rX(s:OD)(E:Oz):Prop:=∀a h' t',È->À->E Í { s with heap:=h',toks:=t' }
theorem xA(hx:É)(hc:Å)(hdd:Ï){n:Nat}(hdat:Ë)(hh:Ç)(hE:rX s E):
  wpAny Ã A (Builtin.«object.__getattribute__» #[[.ref a,.str "keys" tk],[]]) Q E s:=by
 exists[h,g,d,t,os],s;have hT:(#[h,g,d,t,os]:OD).TypeIs Í "list":=#[_,hx,hc]
 have f4:=xx
 repeat(any_goals(first|assumption|wp_step))
 rw[hdat];dsimp only;unfold instanceDict
 repeat(any_goals(first|assumption|wp_step))
 rw[hc,hdd];dsimp only;rw[Ox (by rfl)]
 repeat(any_goals(first|assumption|wp_step))
 refine Bg ⋯ hh λa h' ho hk=>hE a h' _ ho hk
theorem yF{R:Û}(hx:É)(hc:Å)(hdd:Ï){n:Nat}(hdat:Ë)(hh:Ç)(hE:rX s λe s'=>R (.error e) s'):
  codeAny Ã A (.call (.builtin "list.__getattribute__") #[[.ref a,.str "keys" tk],[]]) R s:=by
 refine codeAny_call_builtin F.slot_list_getattribute.plain F.entry_list_ga (F.slot_list_getattribute.check _ _ _ _ _ _ _ _ (show s.TypeIs Í "list" from#[_,hx,hc]) (F.args_list_getattribute_2 _ _) (xA hx hc hdd hdat ?_ hE));exact hh
theorem CI(hx:É)(hc:Å)(hdd:Ï){n:Nat}(hdat:Ë)(hh:Ç)(hE:rX s E):
  wpAny Ã A (getAttrBy Í (.str "keys" tk) false) Q E s:=by
 have hT:s.TypeIs Í "list":=#[_,hx,hc]
 have f2:=F.slot_list_getattribute.lookup;have f3:=F.slot_list_getattribute.bind Í;unfold getAttrBy;refine ZJ (z9 (Y9 hT (z9 (wpAny_of_eq f2 ?_))));show wpAny _ _ (getAttrByItsOwn _ _ _ _ _ _) _ _ _;unfold getAttrByItsOwn;refine z9 ?_;show wpAny _ _ (pure none) _ _ _;refine Za (z9 (YZ (ZJ ?_)));show wpAny _ _ (boundAndCalled _ _ _) _ _ _;unfold boundAndCalled;refine z9 (wpAny_of_eq f3 ?_);refine wpAny_call (yF hx hc hdd hdat hh ?_);rintro a' h' t' ⟨o',e1,e2⟩ hk;show wpAny _ _ (getattributeRaised _ _ _ _ _ _ _) _ _ _;unfold getattributeRaised;refine z9 (wpAny_isInstance (T:="AttributeError") (b:=true) #[_,e1,e2] qA ?_);rw[Ox rfl];refine z9 ?_;show wpAny _ _ (typeLookup Ô "__getattr__") _ _ _;refine wpAny_of_eq re ?_;show wpAny _ _ (throw _) _ _ _;exact wpAny_throw (hE a' h' t' #[o',e1,e2] hk)
theorem J9{Q:Option OE->OD->Prop}(hx:É)(hc:Å)(hdd:Ï){n:Nat}(hdat:Ë)(hh:Ç)(hQ:∀h' t',À->Q none { s with heap:=h',toks:=t' }):wpAny Ã A (getAttr? Í "keys") Q E s:=by unfold getAttr? getAttrBy?;refine z9 (wpAny_mkText (z9 (YZ (CI (s:={ s with toks:=Ú+1 }) hx hc hdd hdat hh ?_))));rintro a' h' t' ⟨o',e1,e2⟩ hk;dsimp only;refine z9 (wpAny_isInstance (T:="AttributeError") (b:=true) #[_,e1,e2] qA ?_);rw[Ox rfl];exact Za (hQ h' t' hk)
#check 0
section
variable{prog:OF}{w:OG}{K:Type}[DecidableEq K]{knd:Ò}
theorem kG:entryFor table "dict.update.loop" = some Builtin.«dict.update.loop»:=entryFor_of_tree (by kernel_rfl)
theorem fe:plainId "dict.update.loop" = true:=⋯
structure PairAt(knd:Ò)(h:Heap)(p:Ä):Prop where
 tup:∃o n,h.get? p.1=some o/\à=.type "tuple"/\o.data=.seq (List.toArray [.ref p.2.2.1,p.2.2.2]) n
 key:IsTupleKey knd h p.2.1 p.2.2.1
theorem PairAt.keeps{h h':Heap}{p:Ä}(x:PairAt knd h p){B:List OC}(hB:∀b∈B,∃o,h.get? b=some o/\à≠.type "tuple")(hk:∀b o,¬b∈B->h.get? b=some o->h'.get? b=some o):PairAt knd h' p:=by
 obtain⟨⟨o,n,e1,e2,e3⟩,o',its,n',f1,f2,f3,f4⟩:=x;refine#[#[o,n,hk _ _ æ e1,e2,e3],o',its,n',hk _ _ æ f1,f2,f3,f4]
 .exists[q,q1,q2],hB _ z;rw[e1]at q1;cases q1;exact q2 e2
 .exists[q,q1,q2],hB _ z;rw[f1]at q1;cases q1;exact q2 f2
theorem yN(xs:â)(k:List K)(a:OC)(v:OE):(storedH xs k a v).length<=å+1:=by
 unfold storedH;split
 .rw[Zd];omega
 .rw[Zf];exact Zi _
def rP(xs:â)(ps:ã):List Ì:=ps.foldl (λxs p=>storedH xs p.2.1 p.2.2.1 p.2.2.2) xs
variable{A:OH}{R:Û}
theorem B7{items:Array OE}{ps:ã}(hps:Ð)(hu:(tupleKind knd).room A.in1)(hh:A.in1.handled=none)(res:OE)(nl:l≠it)(nld:l≠d)(ndi:d≠it):
  ∀(k i:Nat) (s:OD) (xs:â),Ê-i=k->i<=Ê->s.heap.IsListIter it l i->s.heap.IsList l items->s.heap.DictOfH Â d xs->Ñ->å+k<=sizeLine ->
  (∀h' t',h'.DictOfH Â d (rP xs (ps.drop i))->(∀b o,b≠d->b≠it->s.heap.get? b=some o->h'.get? b=some o)->R (.ok (.ret res)) { s with heap:=h',toks:=t' }) ->
  codeAny Ã A (.builtin "dict.update.loop" #[[.ref d,.ref it,rawInt i,res],[]]) R s:=by
 intro k;have hsz:items.size=Ê:=by rw[<-ZM,hps,Zd]
 induction k with
 |zero =>
  intro i s xs hk hi hit hl hd hp hz hR;have hin:i=Ê:=∅
  subst hin;refine codeAny_builtin kG ?_;rw[Around.under_plainId fe _];show wpAny _ A.in1 Ö _ _ s;refine z9 (wpAny_pyNext_list_end hh hit hl (by rw[<-hsz];simp) λh' he=>?_);show wpAny _ _ (Builtin.Dict.addKeywords d [] >>= _) _ _ _;refine z9 (Za (Za ?_));exists[o,es,ep,q1,q2,q3,q4,q5,q6],hd;refine hR h' Ú #[o,es,ep,he _ _ ndi q1,q2,q3,?_,λx hx=>?_,?_] λb o _ hb e=>he b o hb e
  .rw[List.drop_length];exact q4
  .rw[List.drop_length]at hx;exists[o',its',n',f1,f2,f3,f4],q5 x hx;exists[oi,i1,i2,i3],hit;exact#[o',its',n',he _ _ (λz=>by rw[z,i1]at f1;cases f1;rw[i2]at f2;exact absurd f2 ⋯) f1,f2,f3,f4]
  .rw[List.drop_length];exact q6
 |succ k ih =>
  intro i s xs hk hi hit hl hd hp hz hR;have hlt:i<Ê:=∅
  have hx:items[i]?=some Ý:=by rw[<-YB,hps,Zy,Ze hlt];rfl
  refine codeAny_builtin kG ?_;rw[Around.under_plainId fe _];show wpAny _ A.in1 Ö _ _ s;refine z9 (wpAny_pyNext_list_item hit hl hx λh1 hit1 hs1=>?_);have hitc:∃o,s.heap.get? it=some o/\à≠.type "tuple":=by exists[oi,i1,i2,i3],hit;exact#[oi,i1,by rw[i2];decide]
  have hp1:∀p∈ps,PairAt knd h1 p:=λp hm=>(hp p hm).keeps (B:=[it]) (λb hb=>by rw[Zh.mp hb];exact hitc) λb o hb e=>hs1.extBut b o Ø e;have hl1:h1.IsList l items:=hl.extBut hs1.extBut nl;have hd1:h1.DictOfH Â d xs:=by exists[o,es,ep,q1,q2,q3,q4,q5,q6],hd;refine#[o,es,ep,hs1.extBut _ _ ndi q1,q2,q3,q4,λx hx=>?_,q6];exists[o',its',n',f1,f2,f3,f4],q5 x hx;exists[oi,i1,i2],hitc;exact#[o',its',n',hs1.extBut _ _ (λz=>by rw[z,i1]at f1;cases f1;exact i2 f2) f1,f2,f3,f4]
  obtain⟨⟨ot,nt,t1,t2,t3⟩,hkey⟩:=hp1 ps[i] (ZG hlt);have hT:Shared.TypeIs { s with heap:=h1 } Ý "tuple":=#[ot,t1,t2]
  dsimp only;refine z9 (ZJ ?_);refine z9 (wpAny_tryCatch ?_);unfold Builtin.Dict.pairItems;refine z9 (Y9 hT ?_);rw[Ox ⋯];refine z9 (YG t1 t3 (Za ?_));show wpAny _ _ (holding [.ref ps[i].2.2.1,ps[i].2.2.2] (dictSet d (.ref ps[i].2.2.1) ps[i].2.2.2)) _ _ _;refine ZJ (wpAny_dictSet_heap (s:={ s with heap:=h1 }) (hsz:=by omega) hu hkey hd1 λh2 hd2 hs2=>?_);have hdc:∃o,h1.get? d=some o/\à≠.type "tuple":=by exists[o,es,ep,q1,q2,_],hd1;exact#[o,q1,by rw[q2.1];decide]
  have hit2:h2.IsListIter it l (i+1):=by exists[oi,i1,i2,i3],hit1;exact#[oi,hs2.extBut _ _ (ZO ndi) i1,i2,i3]
  have hp2:∀p∈ps,PairAt knd h2 p:=λp hm=>(hp1 p hm).keeps (B:=[d]) (λb hb=>by rw[Zh.mp hb];exact hdc) λb o hb e=>hs2.extBut b o Ø e;refine Za #[plainId_quiet fe _,?_];have:=yN xs ps[i].2.1 ps[i].2.2.1 ps[i].2.2.2;refine ih (i+1) { s with heap:=h2,toks:=Ú+(tupleKind knd).draws ps[i].2.1 } _ ∅ ∅ hit2 (hl1.extBut hs2.extBut nld) hd2 hp2 ∅ λh' t' hd' hk'=>?_;refine hR h' t' ?_ λb o hb1 hb2 e=>hk' b o hb1 hb2 (hs2.extBut b o hb1 (hs1.extBut b o hb2 e));rw[List.drop_eq_getElem_cons hlt];exact hd'
#check 0
section
variable{prog:OF}{w:OG}{K:Type}[DecidableEq K]{knd:Ò}{A:OH}{E:Oz}{s:OD}
theorem qK{items:Array OE}{n:Nat}{ps:ã}{Q:Oz}(hx:s.heap.get? l=some o)(hc:Å)(hdd:Ï)(hdat:o.data=.seq items n)(hps:Ð)(hp:Ñ)(hsz:Ê<=sizeLine)(hu:A.units+5<cLine)(hh:Ç)(h:∀h' t',h'.DictOfH Â Á (rP [] ps)->À->Q (.ref Á) { s with heap:=h',toks:=t' }):
  wpAny Ã A (call (.type "dict") [.ref l]) Q E s:=by
 refine callType_codes (Q₁:=λobj s₁=>obj=.ref Á/\s₁={ s with heap:=Î { cls:=.type "dict",data:=.dict #[] } }) F.kt_called_dict (F.kt_typeCall_dict_1 _) F.entry_dict_init (kt_code_dict_new _ #[rfl,rfl]) ?_;rintro obj s₁ ⟨rfl,rfl⟩;have hnew:(Î { cls:=.type "dict",data:=.dict #[] }).DictOfH Â Á []:=Heap.DictOfH.new s.heap;refine#[á,F.args_dict_init_2 _ _,?_];unfold Builtin.«dict.__init__»;refine z9 ?_;unfold Builtin.Dict.selfAndRest;refine z9 (wpAny_notOrdered_dict á ?_);show wpAny _ _ (pure (Á,[Value.ref l])) _ _ _;refine Za ?_;show wpAny _ _ (Builtin.Dict.updateFrom "dict.__init__" s.heap.objs.size (.ref l) [] .none) _ _ _;have hx1:(Î { cls:=.type "dict",data:=.dict #[] }).get? l=some o:=Zb _ hx;unfold Builtin.Dict.updateFrom;refine z9 (Y9 (T:="list") #[o,hx1,hc] ?_);rw[Ox ⋯];refine z9 (J9 (s:={ s with heap:=Î { cls:=.type "dict",data:=.dict #[] } }) hx1 hc hdd hdat hh λh2 t2 hk2=>?_);rw[Ox (show(none:Option OE).isNone=true from rfl)];refine z9 (YH ?_);have hx2:h2.get? l=some o:=hk2 _ _ hx1;have hl2:h2.IsList l items:=#[o,hx2,hc,n,hdat]
 exists[od,es,ep,d1,d2,d3,d4,d5,d6],hnew;have k02:∀b q,s.heap.get? b=some q->h2.get? b=some q:=λb q e=>hk2 _ _ (Zb _ e);have hd2:h2.DictOfH Â Á []:=#[od,es,ep,hk2 _ _ d1,d2,d3,d4,λx hx=>ß,d6]
 refine z9 (wpAny_pyIter_list (s:={ s with heap:=h2,toks:=t2 }) hl2 ?_);have hp3:∀p∈ps,PairAt knd (Þ { cls:=.type "list_iterator",data:=.fields Æ }) p:=λp hm=>(hp p hm).keeps (B:=[]) (λb hb=>(nomatch hb)) λb q _ e=>Zb _ Ù;exists[od',es',ep',d1',d2',d3',d4',_,d6'],id hd2;have hd3:(Þ { cls:=.type "list_iterator",data:=.fields Æ }).DictOfH Â Á []:=#[od',es',ep',Zb _ d1',d2',d3',d4',λx hx=>ß,d6']
 have nsz:∀{b q},h2.get? b=some q->b≠h2.objs.size:=λe=>Zz (Zq e);have nld:l≠Á:=Zz (Zq hx);refine Za #[plainId_quiet fe _,B7 (A:=A.in1) (knd:=knd) (ps:=ps) hps (by show A.units+1+1<cLine;omega) hh .none (nsz hx2) nld (nsz d1') Ê 0 { s with heap:=Þ { cls:=.type "list_iterator",data:=.fields Æ },toks:=t2 } [] (Nat.sub_zero _) (ZL _) #[_,Zl _ rfl,rfl,rfl] #[o,Zb _ hx2,hc,n,hdat] hd3 hp3 (by show 0+Ê<=sizeLine;omega) λh' t' hd' hk'=>#[rfl,?_]];refine h h' t' hd' λb q e=>hk' b q (Zz (Zq e)) (nsz Ù) (Zb _ Ù)
#check 0
end
end PySem
namespace Lake
open PySem PySem.Spec PyProof.Rows PySem.W
mutual
#check#[(λxs H Q=>∃l vs qs,xs=[.ref l]/\H l=some (.lst vs)/\Paired (vY H) vs qs/\vs.length<=1000/\∀d,H d=none->Q (.ref d) (upd H d (.dT (bI [] qs)))),kvs.length,s.heap,(List (List Key×V)),(.frz o (.dT kvs)),(model prog w),(λq (p:OC×List Key×OC×OE)=>q.1=p.2.1/\H p.2.2.1=some (.tup (q.1.map kV))/\RelV q.2 p.2.2.2),(by simp),(fZ prog w k),s.heap.objs.size,(.tup (p.1.map kV)),(∀(j:Nat) (x:iY),xs[j]?=some x->x.1≠k),(Array DictEntry),(ODict prog w h d o es ep xs),X.env,(Yz D.ho D.hd (z9 (zr hu (D.his x (ZI h1)) hkey (z9 (Yz D.ho D.hd ?_))))),es.size,(apos.endLine==cpos.line),X.prog,(λxs H Q=>∃a kvs,xs=[V.ref a]/\Rd H a (.dT kvs)/\Q (.int Á) H),(by show X.A.in1.units<cLine;simp only[Around.in1_units];omega),(Inv X ON Y H s),w.params,0,(bq prog w),(d==sysModules),(ODict prog w Â d o es ep xs),(OIs prog w Â k key),(X.A.units+64<cLine),(List (OK1×OC)),(A.units<cLine),(.builtin "len"),(∀l,bW kls (okD e)=some l->Q (.ref l) H3),(thn (ho.h ON s Y H _ I h) λu s1 hz9=>?_),(by rw[h]at z;cases z),(nsIn K mainGlobals x=some (some (.ref C))),(List Key),(findIn K (.ref C) m=some (some (.ref f))),o.ExactDict,z.length,(by rw[<-z];exact e),(Nat),s.toks,s1.heap.objs.size,(List Key×OC×OE),es.toList,(wpAny_notOrdered_dict ty' ?_),(Obj.data_mapDictKeys D.hd _),(.dT kvs),tactic.hygienic,(eval o Î),(∀i∈rest,i∈oPl es È),(λb u _ e=>e),(λb s' h=>?_),(bI [] qs),0,(he.h ON s1 Y H1 _ I1 q1),(hf.h ON s2 Y H2 _ I2 q2),(Bool->OD->Prop),(iE prog w x),(OC×List Key×OC×OE),(List Key×V),(I.ok.hd hc),([]:List OM),(λi rest b s' h=>?_),(Za (hsome i x h1 e)),(uC hu hkey λtk=>?_),(by rw[h1,h2,h3];rfl),(Za ?_),(Zi _),(h.h ON s Y H _ I q),(by rw[hd];exact Zx),(hold j x tk h1 h2),(starEach [e,f] Î),(X.calm=true),X.w,o.data,(by rw[Zy,hj];rfl),(oM K x m=some (c,P)),(.frz o u),(λj x h1 h2=>?_),(false,eval e Î),(false,eval f Î),(Heap),xs.length,(bj kvs p.1 p.2),(by simp[iE,h3]),(CN hkey hst ?_),(OIs prog w Â k v),(okD e.1),(a==sysModules),(xs.map (·.1)),(all j y g1 g2),(all j x h1 h2),(odO P w d kls),x.length,(.type "dict"),(.ref a),(.ref C),((Ð:é):Int),(Ù=false),fd.code,(.frz o' u'),(upd H' a u),(λ_=>z9 Ą),(okD e),(upd H a u),(iE prog w),kls.length,(i+1),(sub i Zn),ps.length,vs.length,(K Ö),(ItD o a),(.tup xs),(.tbl ps),(none,()),(Zj _ hi),(okV e.1),(.ref l0),(List V),oa.ob]
def bI(kvs:Ã)(ps:Ã):List ý:=ps.foldl (λkvs p=>bj kvs p.1 p.2) kvs
def vY(H:Hp)(v:V)(p:ý):Prop:=∃t a,v=.ref t/\H t=some (.tup [.ref a,p.2])/\H a=some Ê
theorem Fa:∀{qs:Ã} {ps:List ü} {kvs:Ã} {xs:List ì},KT H kvs xs->Paired Æ qs ps->KT H (bI kvs qs) (rP xs ps):=by
 intro qs ps kvs xs r h;induction h generalizing kvs xs with
 |nil=>exact r
 |@cons q p _ _ z _ ih =>show KT H (bI (bj kvs q.1 q.2) _) (rP (storedH xs p.2.1 p.2.2.1 p.2.2.2) _);refine ih ?_;rw[<-z.1];exact r.put q.1 z.2.1 z.2.2
theorem Di(ps:Ã):∀kvs:List ý,(bI kvs ps).length<=Á+į:=by
 induction ps with
 |nil=>intro kvs;exact Zi _
 |cons p ps ih =>intro kvs;have h1:=ih ĕ;have h2:=kU kvs p.1 p.2;show(bI ĕ ps).length<=_;rw[Zm];omega
section
variable{X:Cx}
set_option ñ true in theorem Aw(hc:Ċ)(hu:Ü):dR X Ġ À:=by
 intro ON s Y H xs us Q I r h;exists[l,vs,qs,rfl,hl,hq,lv,q],h;exists[u,rfl,rx],dH r;cases rx;obtain⟨its,rv,⟨o,n',e,c1,c2,d1⟩,hz⟩:=I.list (OQ hl);have gen:∀{vs:Ĺ} {its:OB} {qs:Ã},Paired (vY H) vs qs->Vals vs its->∃ps:List ü,its=ps.map (λp=>Value.ref p.1)/\(∀p∈ps,PairAt (bq Ò ċ) Â p)/\į=qs.length/\Paired Æ qs ps:=by
  intro vs its qs hp rv;induction hp generalizing its with
  |nil=>cases rv;exact#[[],rfl,λp hp=>(nomatch hp),rfl,.nil]
  |@cons v p _ _ hv _ ih =>
   cases rv with
   |@cons _ u _ us ru rr =>
   exists[ps,i1,i2,i3,i4],ih rr;exists[t,a,rfl,e1,e2],hv;cases(show u=Value.ref t from ru);exists[_,its2,r2,o2,g1,g2,n2,g3],(show ObjOk Ò ċ H Â t (.tup [.ref a,p.2])from I.hok t _ e1)
   cases r2 with
   |cons ra r2 =>
    cases r2 with
    |cons rb r2 =>
     cases r2;cases(show _=Value.ref a from ra);rename_i wv;refine#[(t,p.1,a,wv)::ps,by rw[i1];rfl,λx hx=>?_,by rw[Zm,Zm,i3],.cons #[rfl,e2,rb] i4];rcases Zg.mp hx with rfl|hx
     .exact#[#[o2,n2,g1,g2,g3],iQ I.hok e2]
     .exact i2 x hx
 exists[ps,p1,p2,p3,p4],gen hq rv;have lq:=Zv hq;refine qK (knd:=bq Ò ċ) (ps:=ps) e c1 c2 d1 (by simpa using p1) p2 (by rw[p3,<-lq];exact Zs lv ⋯) ∅ þ λh' t' hd hk=>?_;have hz0:=Di qs [];have hnew:H É=none:=I.hok.fresh ą;exists[q0,es,ep,hq0,h2,h3,h4,_,h5],hd;have kt:KT (upd H É (.dT ö)) ö (rP [] ps):=(Fa (H:=H) .nil p4).keeps λb ys eb=>by rw[af (aj eb hnew)];exact eb
 refine#[.ref É,_,I.laid (a:=É) (o:=.dT ö) (t':=t') hk ą (show ObjOk Ò ċ _ h' _ (.dT ö)from#[Zs hz0 (by rw[<-lq];show 0+İ<=sizeLine;exact Zs ∅ (show 1000<=sizeLine by decide)),?_,_,kt,q0,es,ep,hq0,h2,h3,h4,h5]),rfl,q _ hnew];have:=I.big;exact Yx.mpr (Yb this)
theorem yU(hc:Ċ)(hu:Ü):QCall X Ġ À:=#[Aw hc hu]
#check 0
def ItD(o:Obj)(a:OC):It where
 go:=λi H=>∃kvs,H a=some Ä/\i<Á
 yld:=λi H x H'=>H'=H/\∀kvs,H a=some Ä->∃p b,kvs[i]?=some p/\x=.ref b/\H b=some Ê
 stop:=λi H=>∃kvs,H a=some Ä/\Á<=i
theorem J2(r:KT H kvs xs):∀{i:é} {x:ì},xs[i]?=some x->∃p,kvs[i]?=some p/\H x.2.1=some Ê:=by
 induction r with
 |nil=>intro i x h;simp at h
 |@cons p q _ _ h _ ih =>
  intro i x e;cases i with
  |zero=>cases e;exact#[p,rfl,h.2.1]
  |succ i=>exact ih e
theorem qS(ok:HOk P w H h)(e:H a=some Ä):
  Ě=false/\∃xs es ep,KT H kvs xs/\h.get? a=some o/\æ/\Č=.dict es ep/\í=xs.map (entryOfKey (tupleKind (bq P w)))/\Á=Ð:=by
 exists[ho,z,y,xs,r,o',es,ep,h1,h2,h3,h4,h5],(show ObjOk P w H h a (.frz o ð)from ok a _ e)
 rw[ho]at h1;cases h1;exact#[y,xs,es,ep,r,ho,h2,h3,h4,(Zv r).trans (size_of_entries h4).symm]
theorem DK{K:Qa}(o:Obj)(a it:OC):Turn P w K tg Ĳ [it] it (λi h=>∃es ep,Č=.dict es ep/\i<=Ð/\h.IsKeyIter it a i Ð ep) where
 mem:=by simp
 obj:=λi h st b hb=>by
  have e:b=it:=by simpa using hb
  subst e;exists[es,ep,_,_,o,e,c,d],st;exact#[o,e,λv z=>by rw[d]at z;cases z]
 keep:=λi h h' st k=>by exists[es,ep,h1,h2,h3],st;exact#[es,ep,h1,h2,h3.at λo e=>k it Ç o e]
 item:=by
  intro X hP hw hK hc i ON s Y H E I hf st hg;subst hP hw hK;exists[kvs,hq,hx],hg;exists[es,ep,sd,sl,st],st;exists[lo,xs,es',ep',r,ho,hx2,hd,h4,hl],qS I.hok hq;rw[sd]at hd;cases hd;exists[f0,f1,f2,f3,f4,f5],hf it Ç;have hi:i<Ð:=∅
  refine xK st #[o,ho,hx2,sd] hi λh' st' sb=>?_;have I1:Inv X ON Y H { s with heap:=h' }:=I.turned (t':=ê) (λb o hb e=>(sb.2 b hb).trans e) f0 f1 f3 f4 f5;exists[oi,e,c,d],id st';have hxs:i<Ĕ:=by rw[<-size_of_entries h4];exact hi
  have hk:es[i].key=Value.ref xs[i].2.1:=by have e1:=entry_at h4 (j:=i);rw[Ze hxs,ZW hi]at e1;have e2:=Zo e1;rw[e2];rfl
  exists[p,hp,hb],J2 r (Ze hxs);refine#[_,rfl,vE (s:={ s with heap:=h' }) e c d ⋯ #[.ref xs[i].2.1,H,I1,hk,#[rfl,λkvs' hy=>?_],#[es,ep,sd,∅,st'],λb hb=>(hf b hb).1]];rw[hq]at hy;cases hy;exact#[p,xs[i].2.1,hp,rfl,hb]
 done:=by
  intro X hP hw hK hc i ON s Y H E I hf st hg;subst hP hw hK;exists[kvs,hq,hx],hg;exists[es,ep,sd,sl,st],st;exists[lo,xs,es',ep',r,ho,hx2,hd,h4,hl],qS I.hok hq;rw[sd]at hd;cases hd;exists[f0,f1,f2,f3,f4,f5],hf it Ç;obtain rfl:i=Ð:=∅
  exact zK þ st #[o,ho,hx2,sd] λh' eb=>#[rfl,I.turned (t':=ê) (λb o hb e=>eb b o hb e) f0 f1 f3 f4 f5]
 self:=λ_ _ _ _ _ st h=>by exists[es,ep,h1,h2,h3],st;exact wpAny_pyIter_keyiter h3 h
section
theorem Inv.freeze(I:Õ)(hq:H a=some ð)(ho:s.heap.get? a=some o):Inv X ON Y (upd H a Ä) s :=
 I.write (x:=a) (e:=a) (h':=Â) (t':=ê) (by rw[hq];exact True.intro) (.inl rfl) ô #[o,ho]
  #[ho,ObjOk.stay (show ObjOk Ò ċ H Â a ð from I.hok a _ hq) ô (λb e=>by
   rw[af λz=>by rw[z,hq]at e;cases e];exact e) λb xs e=>by
   rw[af λz=>by rw[z,hq]at e;cases e];exact e]
def JO(tl:TE):TI:=λY H R=>tl Y H λx H1=>∃a kvs,x=.ref a/\H1 a=some ð/\∀o,R Ĳ (upd H1 a Ä)
theorem KI(hl:PE X l tl):PI X tg l (JO tl):=by
 intro ON s Y H R I h;refine thn (hl ON s Y H _ I h) λv s1 hz9=>?_;exists[x,H1,I1,r1,q1],hz9;exists[a,kvs,e,hq,q],q1;subst e;cases r1;exists[z,lo,xs,r,o,es,ep,h1,h2,h3,h4,h5],(show ObjOk Ò ċ H1 s1.heap a (.dT kvs)from I1.hok a _ hq)
 refine xL lo #[o,h1,h2,h3] ?_;have I2:=I1.freeze hq h1;refine#[ë,[ë],_,_,_,rfl,I2.kept (t':=s1.toks) λb o e=>Zb _ e,DK o a _,#[es,ep,h3,ZL _,_,Zl _ rfl,rfl,rfl],λb hb=>?_,q o];have e:b=ë:=by simpa using hb
 subst e;exact I2.fpOk ą (I2.hok.fresh ą)
theorem Inv.thaw(I:Õ)(hq:H a=some ď)(h0:∀o' u',X.H₀ a≠some Ħ)(ht:∀xs,X.H₀ a≠some ĳ)(hb:∀ps,X.H₀ a≠some Ĵ):
  Inv X ON Y Ī s:=by
 have hn:∀b,H b=none->upd H a u b=none:=λb e=>by rw[af λz=>by rw[z,hq]at e;cases e];exact e
 refine#[I.ok,I.os,I.bare,#[I.base.keep,I.base.slot,λb ob e1 e2 e3=>hn _ (I.base.free b ob e1 e2 e3),I.base.there,λb xs e=>?_,λb ob v e=>?_,λb ps e=>?_],I.loc,I.cell,hn _ I.free,λx c e=>hn _ (I.freeC x c e),
  λp hp=>?_,λb v e=>?_,I.len]
 .rw[af fun(z:b=a)=>ht xs è];exact I.base.tups b xs e
 .rw[af fun(z:b=a)=>h0 ob v è];exact I.base.frzs b ob v e
 .rw[af fun(z:b=a)=>hb ps è];exact I.base.tbls b ps e
 .exists[p1,p2,p3],I.pin p hp;exact#[p1,hn _ p2,p3]
 .have st:∀ {c:OC} {v:HO},ObjOk Ò ċ H Â c v->ObjOk Ò ċ Ī Â c v:=λx=>ObjOk.stay x ô (λb e=>by
   rw[af λz=>by rw[z,hq]at e;cases e];exact e) λb xs e=>by
   rw[af λz=>by rw[z,hq]at e;cases e];exact e
  by_cases c:b=a
  .subst c;rw[ac]at e;cases e;exact st (show ObjOk Ò ċ H Â b (.frz o _)from I.hok b _ hq).2
  .rw[af c]at e;exact st (I.hok b v e)
theorem Gh(hl:QE X l te):QI X tg l (JO te):=#[KI hl.h]
def Loose(H:Hp)(a:OC):Prop:=(∀o' u',H a≠some Ħ)/\(∀xs,H a≠some ĳ)/\∀ps,H a≠some Ĵ
theorem Loose.non{H:Hp}(h:H a=none):Loose H a:=#[λ_ _ z=>â,λ_ z=>â,λ_ z=>â]
def Mt(H0:Hp)(t:TE):TE:=λY H Q=>t Y H λv H'=>∃a o u,H' a=some ď/\Loose H0 a/\Q v ħ
theorem K1{t:TE}(h:QE X e t):QE X e (Mt X.H₀ t):=#[λON s Y H Q I q=>thn Ć λv s1 ⟨x,H1,I1,r1,a,o,u,e1,l,q1⟩=>#[x,_,I1.thaw e1 l.1 l.2.1 l.2.2,r1,q1]]
#check 0
theorem wL{kvs:Ã}{j:é}{tb:TS}{D:Ends}(Pv:Nat->St->Hp->Prop)(h0:Pv 0 Y H)(hl:∀i Y H,i<=Á->Pv i Y H->H a=some Ä)(hs:∀i p b Y H,kvs[i]?=some p->H b=some Ê->Pv i Y H->∀D':Ends,(∀σ' H',Pv ĭ σ' H'->D'.nx σ' H')->D'.rt=D.rt->tb D' (Y.set j (some (.ref b))) H)(hd:∀Y H,Pv Á Y H->D.nx Y H):
  ∃W:Nat->Nat->St->Hp->Prop,(∃m,W 0 m Y H)/\∀i m Y H,W i m Y H ->
   ((ItD o a).stop i H/\D.nx Y H)\/((ItD o a).go i H/\∃N:St->Hp->Prop,(∀σ' H',N σ' H'->∃m',m'<m/\W ĭ m' σ' H')/\∀x H',(ItD o a).yld i H x H'->ce j x Y H' λσ2 H2=>tb { D with nx:=N,ct:=N,bk:=D.nx } σ2 H2):=by
 refine#[λi m Y H=>m=Á-i/\i<=Á/\Pv i Y H,#[Á,by simp,ZL _,h0],?_];rintro i m Y H ⟨rfl,hi,p⟩;have q:=hl i Y H hi p;by_cases hlt:i<Á
 .refine .inr #[#[kvs,q,hlt],Pv ĭ,λσ' H' p'=>#[Á-ĭ,∅,rfl,hlt,p'],λx H' y=>?_];exists[e,y],y;subst e;exists[pr,b,e1,rfl,e2],y kvs q;exact hs i pr b Y _ e1 e2 p _ (λ_ _ z=>z) rfl
 .have e:i=Á:=∅
  subst e;exact .inl #[#[kvs,q,Zi _],hd Y H p]
theorem uV(hd:Ĥ)(es:Ì)(ep:é):
  MeetsIn prog w (Builtin.«dict.__len__» #[[.ref d],[]]) (λ_ R s=>DRaw Â d es ep/\R (.ok (.ret (.int Ð ê))) { s with toks:=ê+1 }) :=
 .of_wp λA R s ⟨hm,h⟩=>by exists[o,ho,hc,hdat],hm;show wpAny _ _ (dictSize d >>= _) _ _ s;unfold dictSize;refine z9 (z9 (Yg ho hdat Ą));show wpAny _ _ (Builtin.Dict.pendingCount d >>= _) _ _ s;refine z9 (wpAny_pendingCount_other hd ?_);refine wpAny_ret_mkInt ?_;rw[Nat.add_zero];exact h
theorem wm{s:OD}{ep:é}{Q:Oz}(hd:Ĥ)(hm:DRaw Â d es ep)(hfit:(Ð:Int)<2^63)(h:Q (.int Ð (ê+1)) { s with toks:=ê+1+1 }):wpAny Å A (call ß [.ref d]) Q E s:=by
 refine Calls.call_function_entry kind_len plain_len entry_len (args_len1 _) ?_;unfold Builtin.«len»;refine z9 (m:=oneArg "len" _) Ą;refine z9 (m:=callSpecial? (.ref d) (Str.ofString "__len__")) (ZU (name:=Str.ofString "__len__") hm.type F.slot_dict_len
  (call_meetsIn F.slot_dict_len hm.type F.entry_dict_len (F.args_dict_len_1 _) (uV hd es ep) #[hm,?_]))
 show wpAny _ _ _ _ _ { s with toks:=ê+1 };refine z9 (ZJ Ą);refine z9 (wpAny_letGo ?_);show wpAny _ _ (if ģ<0 then _ else _) _ _ _;rw[Ow ∅];show wpAny _ _ (if ģ>=2^63 then _ else _) _ _ _;rw[Ow ∅];exact z9 (wpAny_mkInt (Za #[_,rfl,h]))
section
theorem BR:dR X ß Ó:=by intro ON s Y H xs us Q I r h;exists[a,kvs,rfl,ha,q],h;exists[u,rfl,ru],dH r;cases ru;exists[z,hd,ys,rel,o,es,ep,h1,h2,h3,h4,_,_],jk I.hok ha;have e:Ð=Á:=(size_of_entries h4).trans (Zv rel).symm;refine wm hd #[o,h1,h2,h3] (by rw[e];rw[sizeLine_eq]at z;omega) ?_;rw[e];exact#[.int Á,H,I.tok _,#[_,rfl],q]
theorem Jw:QCall X ß Ó:=#[BR]
#check 0
section
variable{X:Cx}{Y:St}{H:Hp}
def Lr(H0:Hp)(t:TS):TS:=λD Y H=>t { D with nx:=λσ' H'=>∃a o u,H' a=some ď/\Loose H0 a/\D.nx σ' ħ } Y H
theorem Dw{st:Stmt}{t:TS}(h:QS X st t):QS X st (Lr X.H₀ t):=#[λON s Y H D I q=>thn Ć λf s1 z=>by
 cases f with
 |next =>exists[σ',H',I1,a,o,u,e1,l,q1],z;exact#[σ',_,I1.thaw e1 l.1 l.2.1 l.2.2,q1]
 |brk=>exact z
 |cont=>exact z
 | ret u=>exact z]
theorem KW{K:Qa}(hK:X.K=K)(he:QE X e ta)(hb:attributeBase e f Î (eval e Î)=eval e Î:=by rfl):QE X (.Attribute e f pos) (FK K ta f):=by subst hK;exact cH he hb
#check 0
section
variable{X:Cx}
theorem DC(hc:Ċ)(I:Õ)(hq:Rd H p ð):∃ks,cY H kvs ks/\DY X s p ks:=by
 exists[z,hd,xs,rel,o,es,ep,h1,h2,h3,h4,_,_],jk I.hok hq;have hsz:Ð=Ĕ:=size_of_entries h4;have hkl:Á=Ĕ:=Zv rel;refine#[_,qY rel,λQ h=>?_];refine kdu_collect (zL (es:=es) (ep:=ep) hd) þ #[o,h1,h2,h3] ∅ λh' tk acc' kp hacc=>h h' tk _ kp ?_;have gen:∀(vs:OB) (ys:List ì),İ=ys.length->(∀(j:é) (v:OE),vs[j]?=some v->∃x:List Key×OC×OE,ys[j]?=some x/\v=Value.ref x.2.1)->Vals (ys.map fun(x:List Key×OC×OE)=>V.ref x.2.1) vs:=by
  intro vs;induction vs with
  |nil =>
   intro ys hl _;cases ys with
   |nil=>exact .nil
   |cons _ _=>cases hl
  |cons v vs ih =>
   intro ys hl hv;cases ys with
   |nil=>cases hl
   |cons y ys =>exists[x,e1,e2],hv 0 v rfl;cases e1;exact .cons e2 (ih ys (by simpa using hl) λj v' e'=>hv (j+1) v' (by simpa using e'))
 refine gen _ _ (by rw[ZM,hacc.1,hsz]) λj v e'=>?_;exists[en,e1,e2],hacc.2 j v (by rw[<-YB];exact e');rw[entry_at h4]at e1;exists[x,e3,e4],Z1.mp e1;refine#[x,e3,?_];rw[e2,<-e4];rfl
#check 0
section
variable{prog:OF}{w:OG}{A:OH}{E:Oz}{s:OD}
theorem BE{α:Type}{M:Model}{c:Prop}[Decidable c]{x y:Sem α}{Q:α->OD->Prop}(h1:c->wpAny M A x Q E s)(h2:¬c->wpAny M A y Q E s):wpAny M A (if c then x else y) Q E s:=by
 by_cases h:c
 .rw[Ox h];exact h1 h
 .rw[Ow h];exact h2 h
def fZ(prog:OF)(w:OG):Option ä->Int
 |none=>0xFCA86420
 |some k=>(tupleKind Ø).hash k
def OIs(prog:OF)(w:OG)(h:ē):Option ä->OE->Prop
 |none,v=>v=.none
 |some k,v=>∃a,v=.ref a/\(tupleKind Ø).is h k a
theorem uC{Q:Int->OD->Prop}(hu2:Þ)(h:Ę)(q:∀tk,Q È { s with toks:=tk }):wpAny Å A (pyHash v) Q E s:=by
 cases k with
 |none =>rw[show v=.none from h];exact pyHash_slot (T:="NoneType") rfl F.slot_NoneType_hash F.entry_NoneType_hash (F.args_NoneType_hash_1 _) (beq_builtin_none _) (.inr hu2) (z9 (Za (z9 (wpAny_mkInt (Za #[_,_,rfl,q _])))))
 |some k =>exists[a,rfl,h],h;exact(tupleKind Ø).pyHash hu2 h (q _)
theorem OIs.tup{k:ä}{a:OC}{h:ē}(x:(tupleKind Ø).is h k a):∃vs,h.IsTuple a vs:=by exists[o,items,n,h1,h2,h3,_],x;exact#[items,o,h1,h2,n,h3]
theorem zr{Q:ú}(hu2:Þ)(h1:OIs prog w Â x u)(h2:OIs prog w Â y v)(q:Q (decide (x=y)) s):wpAny Å A (eqBool u v) Q E s:=by
 cases x with
 |none =>
  rw[show u=.none from h1];cases y with
  |none =>rw[show v=.none from h2];exact SeqAt.EqAt.same _ _ _ _ _ q
  |some k =>exists[b,rfl,h2],h2;exists[vs,ht],OIs.tup h2;exact SeqAt.EqAt.none_tuple ht hu2 _ _ _ _ q
 |some k =>
  exists[a,rfl,h1],h1;cases y with
  |none =>rw[show v=.none from h2];exists[vs,ht],OIs.tup h1;exact SeqAt.EqAt.tuple_none ht hu2 _ _ _ _ q
  |some l =>exists[b,rfl,h2],h2;refine(tupleKind Ø).eqBool hu2 h1 h2 ?_;rw[show decide (k=l)=decide (some k=some l) by rw[YM];simp];exact q
theorem OIs.inj(h1:OIs prog w h x ġ)(h2:OIs prog w h y ġ):x=y:=by
 cases x with
 |none=>cases h1
 |some k =>
  cases y with
  |none=>cases h2
  |some l =>exists[b,e,h1],h1;cases e;exists[b,e,h2],h2;cases e;rw[(tupleKind Ø).inj h1 h2]
theorem CM{Q:ú}(h:Ę)(q:Q true s):wpAny Å A (eqIsQuiet 8 v) Q E s:=by
 cases k with
 |none =>rw[show v=.none from h];exact Za q
 |some k =>exists[a,rfl,h],h;exact(tupleKind Ø).quiet h q
theorem CN{key:OE}{stored:OB}{Q:ú}(hkey:Û)(hst:∀v∈stored,∃k',OIs prog w Â k' v)(q:Q false s):wpAny Å A (tableMayTell key stored) Q E s:=by
 unfold tableMayTell;by_cases he:stored.isEmpty=true
 .rw[Ox he];exact Za q
 .rw[Ow he];refine z9 (CM hkey ?_);rw[Ow Ç];refine z9 (Y4 _ (λrest b s'=>s'=s/\b=ĵ/\∀v∈rest,∃k',OIs prog w Â k' v) _ (λx rest b s' h=>?_) õ _ _ #[rfl,rfl,hst])
  .exists[rfl,rfl,hr],h;exists[k',hk'],hr x Zn;refine z9 (CM hk' ?_);rw[Ow Ç];exact Za #[rfl,rfl,λv hv=>hr v (Zj _ hv)]
  .exists[rfl,rfl,_],h;exact Za q
abbrev iY:=Option ä×OE×OE
def iE(prog:OF)(w:OG)(x:iY):DictEntry:=#[fZ prog w x.1,x.2.1,x.2.2]
structure ODict(prog:OF)(w:OG)(h:ē)(d:OC)(o:Obj)(es:Ì)(ep:é)(xs:List iY):Prop where
 ho:h.get? d=some o
 hd:Č=.dict es ep
 he:í=xs.map ī
 his:∀x∈xs,OIs prog w h x.1 x.2.1
 hn:(xs.map (·.1)).Nodup
theorem ODict.at{ep:é}(D:Í)(j:é):es[j]?=(xs[j]?).map ī:=by rw[<-YB,D.he,Zy]
theorem ODict.one{ep:é}(D:Í){i j:é}(hx:xs[i]?=some x)(hy:xs[j]?=some y)(e:x.1=y.1):i=j:=by
 have h1:ě[i]?=some x.1:=by rw[Zy,hx];rfl
 have h2:ě[j]?=some x.1:=by rw[Zy,hy,e];rfl
 exact(List.getElem?_inj (Zu.mp h1).1 D.hn).mp (h1.trans h2.symm)
def oPl(es:Ì)(h:Int):List Nat:=placesWithHash Ð (λi=>es[i]?.map (·.hash)) h
theorem Kb(es:Ì)(h:Int):(oPl es h).Nodup:=List.Pairwise.filter _ List.nodup_range
theorem ODict.pl{ep:é}(D:Í){j:é}(hx:xs[j]?=some x)(e:x.1=k):j∈oPl es È:=by
 have hj:es[j]?=some û:=by rw[D.at,hx];rfl
 refine ZH.mpr #[Y2.mpr (Yt.mp hj).1,?_];dsimp only;rw[hj];simp[iE,e]
theorem ODict.of_pl{ep:é}(D:Í){z:Int}{j:é}(hj:j∈oPl es z):∃x,xs[j]?=some x/\es[j]?=some û/\fZ prog w x.1=z:=by
 exists[h1,h2],ZH.mp hj;have hl:=Y2.mp h1;have e:=D.at j;rw[ZW hl]at e;exists[x,hx,hx2],Z1.mp e.symm;have e2:es[j]?=some û:=by rw[ZW hl,hx2]
 refine#[x,hx,e2,?_];dsimp only at h2;rw[e2]at h2;simpa[iE]using h2
theorem wK{ep:é}{key:OE}{Q:Option Nat->OD->Prop}(hu:Þ)(hkey:Û)(D:Ú)(hnone:Ë->Q none s)(hsome:∀(j:é) (x:iY),xs[j]?=some x->x.1=k->Q (some j) s):wpAny Å A (dictFind d key È) Q E s:=by
 have hst:∀v∈(oPl es È).filterMap (λi=>es[i]?.map (·.key)),∃k',OIs prog w Â k' v:=λv hv=>by exists[i,hi,e],Yc.mp hv;exists[x,h1,h2,_],D.of_pl hi;rw[h2]at e;cases e;exact#[x.1,D.his x (ZI h1)]
 have plain:wpAny Å A (dictWalkPlain d key È es (oPl es È)) Q E s:=by
  unfold dictWalkPlain;refine z9 (Y4 _ (λrest b s'=>s'=s/\b=ĵ/\ó/\∀(j:é) (x:iY),xs[j]?=some x->x.1=k->j∈rest) _ Ā õ _ _ #[rfl,rfl,λ_ z=>z,λj x h1 h2=>D.pl h1 h2])
  .exists[rfl,rfl,sub,all],h;exists[x,h1,h2,h3],D.of_pl Į;rw[h2];dsimp only;rw[Ox Ė];refine z9 Ï;rw[Ow Ç];by_cases e:x.1=k
   .rw[decide_eq_true e,Ox rfl];exact z9 (YH (Za ā))
   .rw[decide_eq_false e,Ow Ç];refine z9 (YH (Za #[rfl,rfl,λi hi=>sub i Ķ,λj y g1 g2=>(Zg.mp Ĝ).resolve_left λz=>e ?_]));subst z;rw[h1]at g1;cases g1;exact g2
  .exists[rfl,rfl,sub,all],h;refine Za (hnone λj x h1 h2=>?_);exact absurd ĝ Ç
 unfold dictFind;refine ZJ ?_;refine z9 (Yg D.ho D.hd ?_);have shape:key=.none\/∃a,key=.ref a:=by
  cases k with
  |none=>exact .inl hkey
  |some kk=>exists[a,e,_],hkey;exact .inr #[a,e]
 rcases shape with rfl|⟨a,rfl⟩
 case' inr =>dsimp only;rw[Ow (by simp[carriedByValue]),Ow (by intro z;rw[<-Array.any_toList,List.any_eq_true]at z;exists[e,he,hc],z;rw[D.he]at he;exists[x,hx,rfl],Zt.mp he;simp only[iE,ZK,Z8,bne_iff_ne,ne_eq]at hc;have h1:=D.his x hx;rw[hc.1]at h1;exact hc.2 (by rw[OIs.inj h1 hkey]))];refine BE Ĩ λ_=>z9 ė
 case' inl =>dsimp only;refine BE (λ_=>plain) λ_=>BE Ĩ λ_=>z9 ė
 all_goals
  rw[Ow Ç];refine z9 (Y4 _ (λrest b s'=>s'=s/\rest.Nodup/\ó/\∃hit,b=(none,hit)/\((hit=none/\∀(j:é) (x:iY),xs[j]?=some x->x.1=k->j∈rest)\/∃(j:é) (x:iY),hit=some j/\xs[j]?=some x/\x.1=k/\j∉rest)) _ Ā õ _ _ #[rfl,Kb _ _,λ_ z=>z,none,rfl,.inl #[rfl,λj x h1 h2=>D.pl h1 h2]])
  .exists[rfl,nd,sub,hit,rfl,hh],h;exists[x,h1,h2,h3],D.of_pl Į;have nd':=(Z3.mp nd).2;have ni:=(Z3.mp nd).1;have sub':∀i∈rest,i∈oPl es È:=λi hi=>sub i Ķ;rw[h2];dsimp only;rw[Ox Ė];refine z9 Ï;rw[Ow Ç];by_cases e:x.1=k
   .rw[decide_eq_true e,Ox rfl];rcases hh with⟨rfl,all⟩|⟨j,y,rfl,g1,g2,g3⟩
    .rw[Ow Ç];refine z9 (YH ?_);split
     .exact Za ā
     .exact Za #[rfl,nd',sub',some i,rfl,.inr #[i,x,rfl,h1,e,ni]]
    .exact absurd (D.one g1 h1 (g2.trans e.symm)) λz=>g3 (by rw[z];exact Zn)
   .rw[decide_eq_false e,Ow Ç];refine z9 (YH ?_);rw[Ow Ç];refine Za #[rfl,nd',sub',hit,rfl,?_];rcases hh with⟨rfl,all⟩|⟨j,y,rfl,g1,g2,g3⟩
    .refine .inl #[rfl,λj y g1 g2=>(Zg.mp Ĝ).resolve_left λz=>e ?_];subst z;rw[h1]at g1;cases g1;exact g2
    .exact .inr #[j,y,rfl,g1,g2,λz=>g3 (Zj _ z)]
  .exists[rfl,_,_,hit,rfl,hh],h;rcases hh with⟨rfl,all⟩|⟨j,y,rfl,g1,g2,_⟩
   .exact Za (hnone λj x h1 h2=>absurd ĝ Ç)
   .exact Za (hsome j y g1 g2)
#check 0
section
variable{A:OH}{s:OD}
theorem Bn{ep:é}{key v:OE}{Q:Oz}(hu:Þ)(hkey:Û)(D:Ú)(hc:æ)(hz:Ð<=sizeLine)(hold:∀(j:é) (x:iY) (tk:é),xs[j]?=some x->x.1=k->Q x.2.2 { s with toks:=tk })(hnew:Ë->∀(h':ē) (tk:é) (o':Obj) (es':Ì) (ep':é),h'.get? d=some o'->o'.ExactDict->o'.data=.dict es' ep'->es'.toList=í++[#[fZ prog w k,key,v]]->Heap.SameBut d Â h'->Q v { s with heap:=h',toks:=tk }):
  wpAny Å A (dictSetDefault d key v) Q E s:=by
 unfold dictSetDefault;refine ZJ ?_;refine z9 Ă;have D':ODict prog w ({ s with toks:=tk }:OD).heap d o es ep xs:=D;refine z9 (wK (s:={ s with toks:=tk }) hu hkey D' (λhno=>?_) Đ)
 .refine z9 (YH (z9 (wpAny_updateDictKeys (hz:=hz) (s:={ s with toks:=tk }) D.ho D.hd (Za (hnew hno _ tk _ _ (ep+1) (y8 _ D.ho (Obj.isFreed_of_dict ï)) (hc.mapDictKeys _) ï ?_ (ZZ ..))))));simp
 .refine z9 (Yg (s:={ s with toks:=tk }) D.ho D.hd ?_);rw[D.at j,h1];exact z9 (YH (Za Ĉ))
theorem Hj{ep:é}{key:OE}{Q:Option OE->OD->Prop}(hu:Þ)(hkey:Û)(D:Ú)(hold:∀(j:é) (x:iY) (tk:é),xs[j]?=some x->x.1=k->Q (some x.2.2) { s with toks:=tk })(hnew:Ë->∀tk:Nat,Q none { s with toks:=tk }):
  wpAny Å A (dictGet d key) Q E s:=by
 unfold dictGet;refine ZJ ?_;refine z9 Ă;have D':ODict prog w ({ s with toks:=tk }:OD).heap d o es ep xs:=D;refine z9 (wK (s:={ s with toks:=tk }) hu hkey D' (λhno=>Za (hnew hno tk)) Đ);refine z9 (Yg (s:={ s with toks:=tk }) D.ho D.hd ?_);rw[D.at j,h1];exact Za Ĉ
#check 0
abbrev OK1:=Option (List Key×OC)
def okD:OK1->Option ä
 |none=>none
 |some p=>some p.1
def okV:OK1->OE
 |none=>.none
 |some p=>.ref p.2
def oE(e:OK1×OC):iY:=(okD e.1,okV e.1,.ref e.2)
def odO(P:OF)(w:OG)(d:OC)(kls:Ý):HO:=.ext λh=>Ù=false/\∃(o:Obj) (es:Ì) (ep:é),h.get? d=some o/\æ/\Č=.dict es ep/\í=(kls.map oE).map (iE P w)
theorem CP{h:ē}{kls:Ý}{ep:é}(hd:Ĥ)(h1:h.get? d=some o)(h2:æ)(h3:Č=.dict es ep)(h4:í=(kls.map oE).map (iE P w)):ObjOk P w H h d Ğ :=
 #[#[hd,o,es,ep,h1,h2,h3,h4],#[o,h1],λ_ _ ⟨a,o,es,ep,b,c⟩ k=>#[a,o,es,ep,k _ b,c]]
def se(H:Hp)(y:V):OK1->Prop
 |none=>y=.non
 |some p=>y=.ref p.2/\H p.2=some Ê
def bW(kls:Ý)(k:Option ä):Option OC:=(kls.find? λe=>decide (okD e.1=k)).map (·.2)
structure OdAt(P:OF)(w:OG)(H:Hp)(d:OC)(kls:Ý):Prop where
 ob:H d=some Ğ
 ks:∀e∈kls,∀p,e.1=some p->H p.2=some Ê
 nd:(kls.map λe=>okD e.1).Nodup
theorem uD{kls:Ý}(nd:(kls.map λe=>okD e.1).Nodup){j:é}(h:kls[j]?=some e):bW kls ę=some e.2:=by
 unfold bW;induction kls generalizing j with
 |nil=>simp at h
 |cons x r ih =>
  rw[Zr,Z3]at nd;cases j with
  |zero =>cases h;rw[Yv Ç];rfl
  |succ j =>
   have h:r[j]?=some e:=h;rw[Yw (by
    simp only[decide_eq_true_eq];intro z;exact nd.1 (z▸List.mem_map_of_mem (ZI h)))]
   exact ih nd.2 h
theorem rn(h:∀e∈kls,okD e.1≠k):bW kls k=none:=by unfold bW;rw[Xa.mpr (λe he=>by simp only[decide_eq_true_eq];exact h e he)];rfl
section
theorem zt(I:Õ)(h:se H y e)(r:RelV y u):OIs Ò ċ Â ĩ u/\u=okV e:=by
 cases e with
 |none =>rw[show y=.non from h]at r;cases(show u=Value.none from r);exact#[rfl,rfl]
 |some p =>exists[rfl,h],h;cases(show u=Value.ref p.2 from r);exact#[#[p.2,rfl,iQ I.hok h],rfl]
theorem Gr(I:Õ)(h:OdAt Ò ċ H d kls):Ù=false/\∃(o:Obj) (es:Ì) (ep:é),æ/\ODict Ò ċ Â d o es ep (kls.map oE):=by
 exists[hd,o,es,ep,h1,h2,h3,h4],(I.hok d _ h.ob).1;refine#[hd,o,es,ep,h2,h1,h3,h4,λx hx=>?_,?_]
 .exists[e,he,rfl],Zt.mp hx;cases ek:e.1 with
  |none =>show OIs _ _ _ ę ķ;rw[ek];exact rfl
  |some p =>show OIs _ _ _ ę ķ;rw[ek];exact#[p.2,rfl,iQ I.hok (h.ks e he p ek)]
 .rw[Z4];exact h.nd
#check 0
def DR(P:OF)(w:OG)(H:Hp)(a:OC):Prop:=∃kls,H a=some (odO P w a kls)
def Mr(P:OF)(w:OG):TE:=λ_ H Q=>∀p,H p=none->Q (.ref p) (upd H p (odO P w p []))
def Ms(P:OF)(w:OG)(td ty tx:TE):TE:=λY H Q=>td Y H λx H1=>∃a,x=.ref a/\DR P w H1 a/\ty Y H1 λy H2=>tx Y H2 λz H3=>∃kls e l0,OdAt P w H3 a kls/\se H3 y e/\z=.ref l0/\Ĭ<4096 /\
 à/\(bW kls ĩ=none->Q ĸ (upd H3 a (odO P w a (kls++[(e,l0)]))))
def Mq(P:OF)(w:OG)(td ty tx:TE):TE:=λY H Q=>td Y H λx H1=>∃a,x=.ref a/\DR P w H1 a/\ty Y H1 λy H2=>tx Y H2 λz H3=>∃kls e,OdAt P w H3 a kls/\se H3 y e/\Ĭ<4096 /\
 à/\(bW kls ĩ=none->Q z H3)
section
variable{X:Cx}{apos cpos:Pos}
theorem Mi:QE X (.Dict [] [] pos) (Mr Ò ċ):=#[λON s Y H Q I h =>
 wpAny_Dict_empty #[.ref É,_,I.laid (a:=É) (o:=odO Ò ċ É []) (t':=ê) (λ_ _ q=>Zb _ q) ą (CP (ep:=0) (Yx.mpr (ZO (Zz I.big))) (Zl _ rfl) #[rfl,rfl,rfl] rfl rfl),rfl,h _ (I.hok.fresh ą)]]
theorem pf(I:Õ)(d:DR Ò ċ H a):s.TypeIs ġ "dict"/\(∀b,Value.ref a=.ref b->∃ob,s.heap.get? b=some ob/\ob.dict=none):=by exists[kls,h],d;exists[_,o,es,ep,h1,h2,_],(I.hok a _ h).1;refine#[#[o,h1,h2.1],λb q=>?_];cases q;exact#[o,h1,h2.2.1]
theorem Do(hu:Ü)(ho:QE X o td)(he:QE X e ty)(hf:QE X f tx)(hs1:aS e=true:=by rfl)(hs2:aS f=true:=by rfl)(hbase:attributeBase o "setdefault" X.env ò=eval o Î:=by rfl)(hline:Ñ=true:=by rfl) :
  QE X (.Call (.Attribute o "setdefault" apos) [e,f] [] cpos) (Ms Ò ċ td ty tx):=by
 refine#[?_];have h1:=aV (es:=[f]) (env:=Î) hs1;have h2:=aV (es:=[]) (env:=Î) hs2;have h3:starEach ÿ Î=[]:=rfl;intro ON s Y H Q I h;refine wpAny_Call_method hbase ă hline PySem.F.plainAttrs_dict PySem.F.slot_dict_setdefault PySem.F.type_dict_setdefault á;exists[x,H1,I1,rx,a,ex,d,q1],hz9;subst ex;obtain rfl:u=Value.ref a:=rx;exists[t1,t2],pf I1 d;refine#[t1,t2,?_];have ht:backTo cpos ĉ=[đ,Ē]:=by rw[h1,h2,h3];rfl
 rw[ht];refine Y5 rfl (Calls.evalArgs_plain (Calls.spliced_cons (thn ø λiv s2 ⟨y,H2,I2,ry,q2⟩ =>
  Calls.spliced_cons (thn ù λfv s3 ⟨z,H3,I3,rz,kls,ke,l0,oa,ok,ez,l,qo,qn⟩=>Calls.spliced_nil ?_))))
 subst ez;obtain rfl:fv=Value.ref l0:=rz;exists[ki,kv],zt I3 ok ry;exists[hd,ob,es,ep,hc,D],Gr I3 oa;have hz:Ð<=sizeLine:=by rw[<-ZM,D.he,Zd,Zd];exact fV ∅
 have ty':=(pf I3 #[kls,ĺ]).1;refine Z0 PySem.F.slot_dict_setdefault ty' PySem.F.entry_dict_setdefault ?_ (PySem.F.args_dict_setdefault_3 _ _ _);show wpAny _ _ (Builtin.«dict.setdefault» #[[.ref a,iv,.ref l0],[]]) _ _ s3;unfold Builtin.«dict.setdefault»;refine z9 ?_;unfold Builtin.Dict.keyAndDefault;refine z9 î;show wpAny _ _ (pure (a,iv,some (Value.ref l0))) _ _ s3;refine Za ?_;show wpAny _ _ (if Ě=true then _ else(dictSetDefault a iv ĸ >>= _)) _ _ s3;rw[Ow ć];refine z9 (Bn Ô ki D hc hz (λj x tk g1 g2=>Za #[_,rfl,?_]) (λhno h' tk o' es' ep' g1 g2 g3 g4 g5=>Za #[_,rfl,?_]))
 .rw[Zy]at g1;exists[en,g3,rfl],Z1.mp g1;have:=uD oa.nd g3;rw[show okD en.1=okD ke from g2]at this;exact#[.ref en.2,H3,I3.tok _,rfl,qo _ this]
 .have hn:bW kls (okD ke)=none:=rn λen hen=>by exists[j,hj],Z7.mp hen;exact hno j (oE en) č
  refine#[.ref l0,_,sE (a:=a) (t':=tk) I3 (by rw[ĺ];exact True.intro) g5 #[o',g1] (CP (kls:=kls++[(ke,l0)]) hd g1 g2 g3 ?_),rfl,qn hn];rw[g4,D.he,ZA,ZA,kv];rfl
#check 0
section
variable{X:Cx}{apos cpos:Pos}
theorem Dm(hu:Ü)(ho:QE X o td)(he:QE X e ty)(hf:QE X f tx)(hs1:aS e=true:=by rfl)(hs2:aS f=true:=by rfl)(hbase:attributeBase o "get" X.env ò=eval o Î:=by rfl)(hline:Ñ=true:=by rfl) :
  QE X (.Call (.Attribute o "get" apos) [e,f] [] cpos) (Mq Ò ċ td ty tx):=by
 refine#[?_];have h1:=aV (es:=[f]) (env:=Î) hs1;have h2:=aV (es:=[]) (env:=Î) hs2;have h3:starEach ÿ Î=[]:=rfl;intro ON s Y H Q I h;refine wpAny_Call_method hbase ă hline PySem.F.plainAttrs_dict PySem.F.slot_dict_get PySem.F.type_dict_get á;exists[x,H1,I1,rx,a,ex,d,q1],hz9;subst ex;obtain rfl:u=Value.ref a:=rx;exists[t1,t2],pf I1 d;refine#[t1,t2,?_];have ht:backTo cpos ĉ=[đ,Ē]:=by rw[h1,h2,h3];rfl
 rw[ht];refine Y5 rfl (Calls.evalArgs_plain (Calls.spliced_cons (thn ø λiv s2 ⟨y,H2,I2,ry,q2⟩ =>
  Calls.spliced_cons (thn ù λfv s3 ⟨z,H3,I3,rz,kls,ke,oa,ok,l,qo,qn⟩=>Calls.spliced_nil ?_))))
 exists[ki,kv],zt I3 ok ry;exists[hd,ob,es,ep,hc,D],Gr I3 oa;have ty':=(pf I3 #[kls,ĺ]).1;refine Z0 PySem.F.slot_dict_get ty' PySem.F.entry_dict_get ?_ (PySem.F.args_dict_get_3 _ _ _);show wpAny _ _ (Builtin.«dict.get» #[[.ref a,iv,fv],[]]) _ _ s3;unfold Builtin.«dict.get»;refine z9 ?_;unfold Builtin.Dict.keyAndDefault;refine z9 î;show wpAny _ _ (pure (a,iv,some fv)) _ _ s3;refine Za ?_;dsimp only;refine z9 (Hj Ô ki D (λj x tk g1 g2=>?_) (λhno tk=>?_))
 .rw[Zy]at g1;exists[en,g3,rfl],Z1.mp g1;have:=uD oa.nd g3;rw[show okD en.1=okD ke from g2]at this;exact Za #[_,rfl,.ref en.2,H3,I3.tok _,rfl,qo _ this]
 .have hn:bW kls (okD ke)=none:=rn λen hen=>by exists[j,hj],Z7.mp hen;exact hno j (oE en) č
  dsimp only;unfold Builtin.Dict.missed;rw[Ow ć];exact z9 (Za (Za #[_,rfl,z,H3,I3.tok _,rz,qn hn]))
theorem K0(ho:QE X o to)(hbase:attributeBase o "pop" X.env ò=eval o Î:=by rfl)(hline:Ñ=true:=by rfl):QE X (.Call (.Attribute o "pop" apos) [] [] cpos) (Li X.K "list" K5 to) :=
 #[Kv PySem.F.plainAttrs_list PySem.F.slot_list_pop PySem.F.type_list_pop J3 ho.h hbase hline]
theorem Fd(ho:QE X o to)(he:QE X e te)(hs:aS e=true:=by rfl)(hbase:attributeBase o "extend" X.env ò=eval o Î:=by rfl)(hline:Ñ=true:=by rfl) :
  QE X (.Call (.Attribute o "extend" apos) [e] [] cpos) (tBM X.K "list" zJ to (gC te gN)):=by
 have h1:=aV (es:=[]) (env:=Î) hs;have h2:starEach ÿ Î=[]:=rfl;refine#[Ba PySem.F.plainAttrs_list PySem.F.slot_list_extend PySem.F.type_list_extend CG ho.h (pa he.h rE hs) hbase ?_ hline h1 (by rw[h2];rfl)];rw[h1,h2];rfl
#check 0
theorem BD{l:W.OpenLaw}{n k:é}{XP:(OA)->Heap->Prop}{YP:OG->Heap->Prop}{d:DefRec}{K:Params->Qa}{tabs:Params->List (OC×OC)}{sp:OG->Sp}(hn:l.most=some n)(hn2:n<=sizeLine)(hdf:d.params.defaults=[])(hr:Room k callerA)(hY:∀ (w:OG) (h:ē),YP w h->(K Ö).In h)(ht:∀ (w:OG) (h:ē),YP w h->∀ t∈tabs Ö,CodeHd h t.1 t.2/\h.get? t.2=some (tabObj #[]))(nt:∀ w:OG,noTabs ı=true)(F:∀ (w:OG) (mg:OA) (fa:OC) (h:ē),(K Ö).In h->h.Ns mainGlobals mg->mg d.name=some (.ref fa) ->
   ∃fd:OI,(∀(s:OD) (u:OE),BindsTo s fd #[[u],[]] [(x,u)]) /\
    ∀ base:Heap,(K Ö).In base->base.Ns mainGlobals mg->Blt base mg->(∀ t∈tabs Ö,CodeHd base t.1 t.2)->FnOk l.prog w ı mg base CX0 k fa fd [x] (sp w))(go:∀ (w:OG) (H:Hp) (a:OC) (ns:OJ),ns.length<=n->(∀ t∈tabs Ö,H t.2=some (.tbl #[]))->SqL ı H a (ns.map V.int)->sp w [.ref a] H (λv _=>v=.bl true) λ_ _ _=>False):
  W.WalkO q loose XP YP l.row.toRowW d [] (λf vs=>PySem.call f vs):=by
 refine Att.attach_call hn hdf λw s₀ s₁ mg mb fa o pm cd doc a vs ns G Yq0 ho hd hcd hmg hobj hints hlen hg=>?_;have kx:=hY w _ Yq0;exists[fd,hb,hF],F w mg fa _ kx G.T.g hmg;exact EG (tabs:=tabs Ö) kx G.T.g G.T.b G.T.builtins G.T.nolimit hg G.T.bmain (λr hr'=>ht w _ Yq0 r hr') (nt w) hobj hints (Zs hlen hn2) hr (λbase h1 h2 h3 h4=>hF base h1 h2 h3 h4) hb λH h1 h2=>go w H a ns hlen h1 h2
def oM(K:Frag)(x m:Str):Option (OC×OC):=match nsIn K mainGlobals x with
 | some (some Ģ)=>(match findIn K Ģ m with
  | some (some (.ref f))=>(match K.lookup f with
   | some ⟨_,_,.func fd,_⟩=>(match ĥ with
    | .ref c=>(match K.lookup c with
     | some ⟨_,_,.fields vs,_⟩=>(match (vs[11]?:Option OE) with
      |some (.ref P)=>some (c,P)
      | _=>none)
     | _=>none)
    | _=>none)
   | _=>none)
  | _=>none)
 |_=>none
set_option ñ true in theorem DJ{K:Frag}(g:ã)(a:å)(l:K.lookup f=some #[oc,od,.func fd,sl])(t:Ď):ĥ=.ref c:=by
 unfold oM at t;rw[g]at t;dsimp only at t;rw[a]at t;dsimp only at t;rw[l]at t;dsimp only at t;split at t
 .rename_i c' e;rw[e];split at t
  .split at t
   .cases t;rfl
   .cases t
  .cases t
 .cases t
theorem Cg{K:Frag}{st:Stmt}(g:ã)(a:å)(F:Fun K m q st f fd)(t:Ď):ĥ=.ref c:=by exists[oc,od,kV,dc,pm,an,cd,ct,sl,rfl,l,c0],id F.ex;exact DJ g a l t
theorem BO:QCall X ß (λxs H Q=>∃x:Str,xs=[.str x]/\ğ<=100000/\Q (.int (ğ:Int)) H):=by refine#[?_];intro ON s Y H xs us Q I r h;exists[x,rfl,hz,q],h;exists[u,rfl,rx],dH r;exists[t,rfl],rx;exact PyProof.Rows.len_str ∅ #[.int ğ,H,I.tok _,#[_,rfl],q]
theorem GG{n:é}(h:n<=100000):n<=sizeLine:=Zs h ⋯
set_option ñ true in theorem Cw:QSl X (λx lo hi H Q=>∃z:Str,x=.str z/\ç<=100000/\Q (.str (dq z lo hi)) H):=by
 refine#[?_];intro ON s Y H x v vl vu lo hi sl Q I rx hs pl pu h;exists[z,rfl,hz,q],h;exists[t,rfl],rx;have pt:∀{v:OE} {o:Option Int},IsPart v o->∃p:Option (Int×Tok),v=partValue p/\p.map (·.1)=o:=fun{v o} p=>by
  cases p with
  |none=>exact#[none,rfl,rfl]
  |int i t=>exact#[some (i,t),rfl,rfl]
 exists[l,rfl,hl],pt pl;exists[u,rfl,hu],pt pu;have e:slicePicked z l u none=Builtin.Str.strSliceIndices lo hi 1 ç:=by unfold slicePicked;rw[hl,hu];rfl
 refine#["str",_,F.slot_str_getitem.lookup,typeIs_str _ _ _,wpAny_getItem_str_slice (l:=l) (u:=u) (st:=none) hs rfl ?_];have hy:=Ec z lo hi;unfold sliceMade;unfold dq at q hy;rw[e];split
 .rename_i hc;have hc':(Builtin.Str.strSliceIndices lo hi 1 ç).length=ç:=by simpa using hc
  rw[Ox hc']at q;exact#[.str z,H,I,#[_,rfl],q]
 .rename_i hc;have hc':¬(Builtin.Str.strSliceIndices lo hi 1 ç).length=ç:=by simpa using hc
  rw[Ow hc']at q hy;exact#[GG (Zs hy hz),.str _,H,I.tok _,#[_,rfl],q]
inductive IsF(a b:Str)(x:V)(R:V->Prop):Prop
 |mk (z:Str) (h0:x=.str z) (h1:a.length+ç+b.length<=sizeLine) (q:R (.str (a++z++b))):IsF a b x R
inductive rStrA(xs:Ĺ)(H:Hp)(Q:VK):Prop
 |int (i:Int) (h0:xs=[.int i]) (h1:i.natAbs<10^4300) (q:Q (.str (ML i)) H):rStrA xs H Q
 |str (z:Str) (h0:xs=[.str z]) (q:Q (.str z) H):rStrA xs H Q
section
variable{K:Qa}
inductive rNeNil(K:Qa)(x y:V)(H:Hp)(Q:VK):Prop
 |mk (a b:OC) (xs:Ĺ) (h0:x=.ref a) (h1:y=.ref b) (ha:SqL K H a xs) (hb:SqL K H b []) (q:Q (.bl (!xs.isEmpty)) H):rNeNil K x y H Q
#check 0
structure MkFnX(P:OF)(w:OG)(K:Qa)(mg:OA)(base:ē)(k:é)(C:OC)(x:Str)(ps:List Str)(sp:Sp):Prop where
 cl:Cls K C
 mgC:mg x=some Ģ
 ex:∃f fd,FnOk P w K mg base (CXr P w) k f fd ps sp/\Mk K C f/\Binds K fd ps []
end
open PySem PySem.Spec PyProof.Rows PySem.W Builtin Builtin.Str
mutual
#check#[(model X.prog X.w),X.env,(eval e Á),X.xe]
structure QE1(X:Cx)(e:OM)(t:TE):Prop where
 h:∀(ON:Oy) (s:OD) (Y:St) (H:Hp) (Q:VK),1<=s.toks->Inv X ON Y H s->t Y H Q->wpAny À X.A Â (EP X ON Y Q) Ã s
structure QT1(X:Cx)(e:OM)(t:TT):Prop where
 h:∀(ON:Oy) (s:OD) (Y:St) (H:Hp) (Q:Bool->Hp->Prop),Inv X ON Y H s->t Y H Q->wpAny À X.A (isTrue e Á Â) (λb s'=>1<=s'.toks/\TP X ON Y Q b s') Ã s
structure QS1(X:Cx)(st:Stmt)(t:TS):Prop where
 h:∀(ON:Oy) (s:OD) (Y:St) (H:Hp) (D:Ends),Inv X ON Y H s->t D Y H->wpAny À X.A (exec st Á) (λf s'=>1<=s'.toks/\SP X ON D f s') Ã s
structure QB1(X:Cx)(st:List Stmt)(t:TS):Prop where
 h:∀(ON:Oy) (s:OD) (Y:St) (H:Hp) (D:Ends),1<=s.toks->Inv X ON Y H s->t D Y H->wpAny À X.A (execs st Á) (SP X ON D) Ã s
section
variable{X:Cx}{ON:Oy}{Y:St}{H:Hp}{s:OD}
structure MS(X:Cx)(ON:Oy)(Y:St)(H1:Hp)(S I l:OC)(j:Nat)(us:Array OE)(H:Hp)(s:OD):Prop where
 iv:Inv X ON Y H s
 sm:Same H1 H
 fS:bQ X ON H S
 fI:bQ X ON H I
 hS:∃e,s.heap.get? S=some (seqObj "list" us e)
 hI:s.heap.IsListIter I l j
#check 0
inductive rEqNil(K:Qa)(x y:V)(H:Hp)(Q:VK):Prop
 |mk (a b:OC) (xs:List V) (h0:x=.ref a) (h1:y=.ref b) (ha:SqL K H a xs) (hb:SqL K H b []) (q:Q (.bl xs.isEmpty) H):rEqNil K x y H Q
end
end Lake
namespace HT
open PySem PyProof.Rows
end HT
namespace Lake
open PySem PySem.Spec PyProof.Rows PySem.W Builtin
mutual
#check#[s.heap.objs.size,(List.toArray [es[i].key,es[i].val]),kvs.length,(Z0 Yj ty PySem.F.entry_dict_itemiterator_next ?_ (PySem.F.args_dict_itemiterator_next_1 _)),es.size,(by simp),(Value.ref d==Value.none),(Za (z9 (z9 (z9 (YT ty (Za (z9 (wpAny_fieldsOf hit rfl ?_)))))))),(.frz o (.dT kvs)),(.ref it),(model prog w),(.tup (p.1.map kV)),(IsItemIter s.heap it d i Ä ep k0 v0),(DRaw s.heap d es ep),(i+1),(if Æ=true then _ else _),(Za (z9 (Yg hod hdd ?_))),(Za (z9 (Yz hod hdd ?_))),(List.toArray [.ref a]),(.tup [.ref b,p.2]),(.Tuple elts kt tp),(Option OE->OD->Prop),h1.push,0,(by size_fits),(Zi _),s1.heap.push,(Za (z9 ?_)),(Nat->OE->Prop),(pyNext É),s.heap,hv.typeIs,(.ref À),(ItP o a),(.dT kvs),(Heap->Prop)]
section
variable{prog:OF}{w:OG}{A:OH}{S:OC}{wr:List OC}{n:Nat}{P:Ü}{St:Nat->Heap->Prop}{TT:ã}
structure CmpIn(prog:OF)(w:OG)(A:OH)(P:Ü)(lt:OL)(wr:List OC)(S:OC)(TT:ã):Prop where
 stay:∀h h':Heap,(∀b o,b∉wr->b≠S->h.get? b=some o->h'.get? b=some o)->TT h->TT h'
 cmp:∀i j vi vj (s:OD) (Q E:Oz),TT Þ->P i vi->P j vj->Q (.bool (lt i j)) s->wpAny Ê A (richCompare .Lt vi vj) Q E s
#check 0
section
variable{kd:Nat}
inductive MinR(K:Qa)(vs:List V)(H:Hp)(Q:VK):Prop
 |mk (a:OC) (ps:List (OC×OJ)) (h0:vs=[.ref a]) (h1:SqL K H a (ps.map λx=>.ref x.1)) (h2:∀x∈ps,SqT K H x.1 (x.2.map V.int)) (q0:ps=[]->Q .non H) (q:∀x∈ps,(∀y∈ps,HT.lexLt y.2 x.2=false)->Q (.ref x.1) H):MinR K vs H Q
#check 0
section
variable{A:OH}{s:OD}{es:Array DictEntry}{ep i:Nat}
theorem xh(hit:Ì):s.TypeIs É "dict_itemiterator":=#[_,hit,rfl]
theorem Ey{Q:Õ}(hit:Ì)(hm:Í)(hx:i<Ä)(hQ:∀ h',IsItemIterOut h' it d Î Ä ep es[i].key es[i].val À->h'.get? À=some { cls:=.type "tuple",data:=.seq Á } ->
   (∀ b o,b≠it->s.heap.get? b=some o->h'.get? b=some o)->Q (some à) { s with heap:=h' }):wpAny Ê A Ý Q E s:=by
 have ty:=xh hit;exists[od,hod,_,hdd],id hm;have own:Builtin.Dict_items.ownsTuple "dict_itemiterator" = true:=⋯
 have lt:it<À:=Zq hit;unfold pyNext;refine z9 (YZ (ZU (name:=Str.ofString "__next__") ty Yj Ã));refine z9 Ç;simp only[own,if_true];show wpAny _ _ Ï _ _ s;rw[Ow (show¬(Æ=true)from Zx)];refine z9 Ð;rw[Ow Å];refine z9 Ñ;rw[Ow Å];refine Za ?_;simp only[show¬((i:Int)<0)from by omega,Yq,YV,ZW hx];refine z9 (z9 (YT ty (Za (z9 (wpAny_isOneOf_itemiter ty ?_)))));show wpAny _ _ (setField É 3 (rawInt ((i:Int)+1)) >>= _) _ _ s;refine z9 (Yi hit Å λh1 e1 b1=>?_);have e1:IsItemIter h1 it d Î Ä ep k0 v0:=by unfold IsItemIter;rw[show((i+1:Nat):Int)=(i:Int)+1 by omega];simpa[rawInt]using e1
 have ty1:Shared.TypeIs { s with heap:=h1 } É "dict_itemiterator":=#[_,e1,rfl]
 refine z9 (ZJ (z9 (wpAny_isOneOf_itemiter ty1 (z9 (wpAny_isOneOf_itemiter ty1 ?_)))));show wpAny _ _ (Builtin.Dict_items.pairFromOwner É 6 es[i].key es[i].val) _ _ { s with heap:=h1 };unfold Builtin.Dict_items.pairFromOwner;refine z9 (wpAny_newTuple ?_);have z1:h1.objs.size=À:=b1.1;have e2:IsItemIter (Ö { cls:=.type "tuple",data:=.seq Á }) it d Î Ä ep k0 v0:=Zb _ e1;have t2:(Ö { cls:=.type "tuple",data:=.seq Á }).get? À=some { cls:=.type "tuple",data:=.seq Á }:=by rw[<-z1];exact Zl _ rfl
 have k2:∀b o,b≠it->s.heap.get? b=some o->(Ö { cls:=.type "tuple",data:=.seq Á }).get? b=some o:=λb o hb e=>Zb _ (b1.extBut b o hb e);show wpAny _ _ (Builtin.Dict_items.ownedTupleIsFree É >>= _) _ _ { s with heap:=h1.push _ };rw[z1];generalize Ö { cls:=.type "tuple",data:=.seq Á }=h2 at e2 t2 k2 ⊢;clear e1 b1 ty1 z1;refine z9 ?_;unfold Builtin.Dict_items.ownedTupleIsFree;refine z9 (ZV e2 rfl (x:=.none) rfl (Za ?_));simp only[if_true];refine z9 (ZV e2 rfl (x:=k0) rfl (z9 (ZV e2 rfl (x:=v0) rfl ?_)));refine z9 (Yi e2 Å λh3 e3 b3=>?_);have e3:IsItemIter h3 it d Î Ä ep es[i].key v0:=e3;refine z9 (Yi e3 Å λh4 e4 b4=>?_);have e4:IsItemIter h4 it d Î Ä ep es[i].key es[i].val:=e4;refine z9 (Yi e4 Å λh5 e5 b5=>?_);have e5:IsItemIterOut h5 it d Î Ä ep es[i].key es[i].val À:=e5;refine z9 (Yi e5 Å λh6 e6 b6=>?_);have e6:IsItemIterOut h6 it d Î Ä ep es[i].key es[i].val À:=e6;have k6:∀b o,b≠it->h2.get? b=some o->h6.get? b=some o:=λb o hb e=>b6.extBut b o hb (b5.extBut b o hb (b4.extBut b o hb (b3.extBut b o hb e)));exact z9 (wpAny_letGo (Za (Za #[_,rfl,Za (hQ h6 e6 (k6 _ _ (Yb lt) t2) λb o hb e=>k6 b o hb (k2 b o hb e))])))
theorem Ht{Q:Õ}(hh:A.handled=none)(hit:IsItemIter Þ it d Ä Ä ep k0 v0)(hm:Í)(hQ:∀h',Heap.ExtBut it Þ h'->Q none { s with heap:=h' }):wpAny Ê A Ý Q E s:=by
 have ty:=xh hit;exists[od,hod,_,hdd],id hm;have own:Builtin.Dict_items.ownsTuple "dict_itemiterator" = true:=⋯
 unfold pyNext;refine z9 (YZ (ZU (name:=Str.ofString "__next__") ty Yj Ã));refine z9 Ç;simp only[own,if_true];show wpAny _ _ Ï _ _ s;rw[Ow (show¬(Æ=true)from Zx)];refine z9 Ð;rw[Ow Å];refine z9 Ñ;rw[Ow Å];refine Za ?_;simp only[show¬((Ä:Int)<0)from by omega,Yq,YV,Array.getElem?_eq_none Ù];refine z9 (z9 (YT ty (Za ?_)));show wpAny _ _ (setField É 2 .none >>= _) _ _ s;refine z9 (YO hit rfl Å ?_);show wpAny _ _ (newExc (.type "StopIteration") [] >>= _) _ _ _;simp only[newExc,newTuple];refine z9 (z9 (ZR (z9 (m:=firstArgMember _ _) (wpAny_of_eq (a:=Value.none) (by first|rfl|(simp only[firstArgMember];rfl)) (ZR ?_ Ø))) Ø));simp only[raiseNew];refine z9 (wpAny_handled ?_);rw[show A.in1.handled=none from hh];refine z9 (Za (wpAny_throw ?_));refine z9 (wpAny_isInstance (T:="StopIteration") (b:=true) #[_,Zl _ rfl,rfl] isSubtype_stop ?_);exact Za (hQ _ (((ZZ ..).extBut.push _).push _))
theorem Ex{Q:Oz}(hv:s.heap.IsItemsView v d)(hm:Í)(hQ:Q à { s with heap:=s.heap.push { cls:=.type "dict_itemiterator",data:=.fields (List.toArray [.none,.bool false,.ref d,.int 0 0,.int Ä 0,.int ep 0,.none,.none]) } }):wpAny Ê A (pyIter (.ref v)) Q E s:=by
 exists[ov,hov,hcv,hdv],id hv;exists[o,ho,hc,hdat],id hm;have own:Builtin.Dict_items.ownsTuple "dict_itemiterator" = true:=⋯
 refine wpAny_pyIter_slot ß PySem.F.slot_dict_items_iter (Z0 PySem.F.slot_dict_items_iter ß PySem.F.entry_dict_items_iter ?_ (PySem.F.args_dict_items_iter_1 _));unfold Builtin.«dict_items.__iter__»;refine z9 Û;unfold Builtin.Dict_items.dictOf;refine z9 (ZV hov hdv (x:=.ref d) rfl Û);unfold Builtin.Dict_items.newIterator;refine z9 (Yg ho hdat (z9 (Yz ho hdat ?_)));simp only[own,if_true];refine ZR (Za #[_,rfl,"dict_itemiterator",_,#[_,Zl _ rfl,rfl],Yj.lookup,?_]) (by simp only[sizeOk,Builtin.Dict_items.ownedTupleFields,Zk,Zf,Zm,Yo,sizeLine_eq];omega);simpa[rawInt,Builtin.Dict_items.ownedTupleFields]using hQ
#check 0
def ItP(o:Obj)(a:OC):It where
 go:=λi H=>∃kvs,H a=some È/\i<Â
 yld:=λi H x H'=>∃kvs p b T,H a=some È/\kvs[i]?=some p/\H b=some Ë/\H T=none/\x=.ref T/\H'=upd H T Ó
 stop:=λi H=>∃kvs,H a=some È/\Â<=i
theorem HD(r:KT H kvs xs):∀{i:Nat} {x:List Key×OC×OE},xs[i]?=some x->∃p,kvs[i]?=some p/\H x.2.1=some Ë/\RelV p.2 x.2.2:=by
 induction r with
 |nil=>intro i x h;simp at h
 |@cons p q _ _ h _ ih =>
  intro i x e;cases i with
  |zero=>cases e;exact#[p,rfl,h.2.1,h.2.2]
  |succ i=>exact ih e
theorem FM{K:Qa}{kt:Nat}(o:Obj)(a it:OC):Turn P w K Ô á [it] it (λi h=>∃es ep k0 v0,o.data=.dict es ep/\i<=Ä/\IsItemIter h it a i Ä ep k0 v0) where
 mem:=by simp
 obj:=λi h st b hb=>by
  have e:b=it:=by simpa using hb
  subst e;exists[es,ep,k0,v0,_,_,e],st;exact#[_,e,λv z=>nomatch z]
 keep:=λi h h' st k=>by exists[es,ep,k0,v0,h1,h2,h3],st;exact#[es,ep,k0,v0,h1,h2,k it Å _ h3]
 item:=by
  intro X hP hw hK hc i ON s Y H E I hf st hg;subst hP hw hK;exists[kvs,hq,hx],hg;exists[es,ep,k0,v0,sd,sl,st],st;exists[lo,xs,es',ep',r,ho,hx2,hd,h4,hl],qS I.hok hq;rw[sd]at hd;cases hd;have hi:i<Ä:=∅
  refine Ey st #[o,ho,hx2,sd] hi λh' st' tp' kp=>?_;have hxs:i<xs.length:=by rw[<-size_of_entries h4];exact hi
  have e2:es[i]=entryOfKey (tupleKind (bq X.prog X.w)) xs[i]:=by have e1:=entry_at h4 (j:=i);rw[Ze hxs,ZW hi]at e1;exact Zo e1
  have hk:es[i].key=Value.ref xs[i].2.1:=by rw[e2];rfl
  have hv:es[i].val=xs[i].2.2:=by rw[e2];rfl
  rw[hk,hv]at st' tp';exists[p,hp,hb,rv],HD r (Ze hxs);refine#[_,rfl,wpAny_letOwnedTupleGo_items (s:={ s with heap:=h' }) st' λh2 st2 sb=>?_];have lti:it<À:=Zq st;have kp2:∀c ob,c∉[it]->s.heap.get? c=some ob->h2.get? c=some ob:=λc ob hc q=>by simp only[Zg,ZB,Z9]at hc;exact sb.extBut c ob hc (kp c ob hc q)
  have tT:IsTup h2 À [Value.ref xs[i].2.1,xs[i].2.2].toArray:=#[_,sb.extBut _ _ (Yb lti) tp',rfl,_,rfl]
  refine#[.ref À,upd H À (.tup [.ref xs[i].2.1,p.2]),I.turnT (t':=s.toks) hf kp2 tT (.cons rfl (.cons rv .nil)) (sz rfl),rfl,#[kvs,p,xs[i].2.1,_,hq,hp,hb,I.hok.fresh Ù,rfl,rfl],#[es,ep,_,_,sd,∅,st2],λc hc=>?_];have hc':c=it:=by simpa using hc
  subst hc';rw[af (Zz lti)];exact(hf c hc).1
 done:=by
  intro X hP hw hK hc i ON s Y H E I hf st hg;subst hP hw hK;exists[kvs,hq,hx],hg;exists[es,ep,k0,v0,sd,sl,st],st;exists[lo,xs,es',ep',r,ho,hx2,hd,h4,hl],qS I.hok hq;rw[sd]at hd;cases hd;exists[f0,f1,f2,f3,f4,f5],hf it Å;obtain rfl:i=Ä:=∅
  exact Ht (I.ok.hd hc) st #[o,ho,hx2,sd] λh' eb=>#[rfl,I.turned (t':=s.toks) (λb o hb e=>eb b o hb e) f0 f1 f3 f4 f5]
 self:=λA i s Q E st h=>by exists[es,ep,k0,v0,h1,h2,h3],st;exact kcp_self h3 h
section
variable{apos cpos:Pos}{kt:Nat}
def JP(tl:TE):TI:=λY H R=>tl Y H λx H1=>∃a kvs,x=.ref a/\H1 a=some â/\∀ob,R (ItP ob a) (upd H1 a (.frz ob â))
theorem Ho(ho:QE X o td)(hbase:attributeBase o "items" X.env (eval o X.env)=eval o X.env:=by rfl)(hline:(apos.endLine==cpos.line)=true:=by rfl):QI X Ô (.Call (.Attribute o "items" apos) [] [] cpos) (JP td):=by
 refine#[?_];intro ON s Y H R I h;refine wpAny_Call_method0_late hbase hline (thn (ho.h ON s Y H _ I h) λv s1 hz9=>?_);exists[x,H1,I1,r1,a,kvs,e,hq,q],hz9;subst e;cases r1;exists[t1,t2,_],JS I1 (.inr #[kvs,.inl hq]);exists[z,ns,xs,rel,ob,es,ep,g1,g2,g3,g4,_],(show ObjOk X.prog X.w H1 s1.heap a (.dT kvs)from I1.hok a _ hq)
 refine#["dict","dict.items",PySem.F.plainAttrs_dict,PySem.F.slot_dict_items,PySem.F.type_dict_items,t1,t2,Y5 rfl (PySem.evalArgs_none ?_)];refine Z0 PySem.F.slot_dict_items t1 PySem.F.entry_dict_items ?_ (PySem.F.args_dict_items_1 _);refine z9 ?_;unfold Builtin.Dict.noArgs;refine z9 (wpAny_notOrdered_dict t1 ?_);show wpAny _ _ (pure a) _ _ s1;refine Za ?_;show wpAny _ _ (Builtin.Dict.showsAll a >>= _) _ _ s1;unfold Builtin.Dict.showsAll;rw[Ow (by rw[ns];exact Zx)];refine z9 (Za (z9 (ZR (Za #[_,rfl,?_]))));have I2:=(I1.freeze hq g1).kept (t':=s1.toks) (h':=Ú { cls:=.type "dict_items",data:=.fields Ò }) λb o e=>Zb _ e;refine Ex (es:=es) (ep:=ep) #[_,Zl _ rfl,rfl,rfl] #[ob,Zb _ g1,g2,g3] ?_;refine#[_,[_],_,_,_,rfl,I2.kept (t':=s1.toks) λb o e=>Zb _ e,FM ob a _,#[es,ep,.none,.none,g3,ZL _,Zl _ rfl],λb hb=>?_,q ob];have e:b=(Ú { cls:=.type "dict_items",data:=.fields Ò }).objs.size:=by simpa using hb
 subst e;exact I2.fpOk Ù (I2.hok.fresh Ù)
#check 0
theorem Eb{kvs:List (List Key×V)}{n:Nat}{g:TG}{tc:TT}{te:TE}{Q:VK}(Pv:Nat->List V->Hp->Prop)(hz:Â<=1000)(hn:∀i ys H,Pv i ys H->ys.length<=i)(h0:Pv 0 [] H0)(hl:∀i ys H,Pv i ys H->H a=some È)(ht:∀i ys H p b T,kvs[i]?=some p->H b=some Ë->H T=none->Pv i ys H->∀Yq0:List V->Hp->Prop,(∀zs H4,Pv Î zs H4->Yq0 zs H4)->g (.ref T) (cZ n cap Y) (upd H T Ó) λσ2 H2=>tc σ2 H2 λb H3=>if b=true then te σ2 H3 λy H4=>Yq0 (ys++[y]) H4 else Yq0 ys H3)(hq:∀ys p H,Pv Â ys H->H p=none->Q (.ref p) (upd H p (.lst ys))):ir n cap g tc te Y á H0 Q:=by
 refine#[λi m ys H=>m=Â-i/\i<=Â/\Pv i ys H,#[Â,by simp,ZL _,h0],?_];rintro i m ys H ⟨rfl,hi,pv⟩;have q:=hl i ys H pv;by_cases hlt:i<Â
 .refine .inr #[#[kvs,q,hlt],?_,λx H' y=>?_]
  .have:=hn i ys H pv;exact Nat.lt_of_le_of_lt (Zs this ∅) (show 1000<sizeLine by decide)
  .exists[kvs',pr,b,T,e0,e1,e2,e3,rfl,rfl],y;rw[q]at e0;cases e0;exact ht i ys _ pr b T e1 e2 e3 pv (λys H4=>∃m',m'<Â-i/\m'=Â-Î/\i+1<=Â/\Pv Î ys H4) λzs H4 z=>#[Â-Î,∅,rfl,hlt,z]
 .have e:i=Â:=∅
  subst e;exact .inl #[#[kvs,q,Zi _],λp hp=>hq ys p H pv hp]
inductive rSl3(K:Qa)(x l u z:V)(H:Hp)(Q:VK):Prop
 |mk (a b c:Int) (p:OC) (ns:OJ) (h0:l=.int a) (h1:u=.int b) (h2:z=.int c) (h3:0<=a) (h4:a<=b) (h5:0<c) (h6:x=.ref p) (h7:SqL K H p (ns.map V.int)) (q:∀(p':OC) (ms:OJ),ms.length<=((b-a+c-1) / c).toNat->H p'=none->Q (.ref p') (upd H p' (.lst (ms.map V.int)))):rSl3 K x l u z H Q
end
namespace ST
open SetTable
mutual
#check#[t.mask,(SetTable),(Nat.le_of_lt_succ (Nat.mod_lt _ (Xb _))),(Nat×Nat),(mask+1),(t.dummies=#[]),(Nat),(t.advance p),(bits x%(À+1),bits x),(fv mask i),(leap mask x.1 x.2),(leap À x.1 x.2),(t.place.size<=À),(Msk mask),(hdP À x)]
def hd(mask:Æ):Nat->Nat×Nat->Nat×Nat
 |0,x=>x
 |n+1,x=>hd mask n Ê
def fv(mask i:Æ):Nat:=(i*5+1)%Ä
def itf(mask:Æ):Nat->Nat->Nat
 |0,i=>i
 |n+1,i=>itf mask n É
theorem pj(mask:Æ):∀(a b i:Æ),itf mask (a+b) i=itf mask b (itf mask a i)
 |0,b,i=>by rw[Nat.zero_add];rfl
 |a+1,b,i=>by rw[Nat.add_right_comm];exact pj mask a b É
def orb(mask:Æ):Nat->Nat->List Nat
 |0,_=>[]
 |n+1,i=>i::orb mask n É
theorem zw{mask:Æ}:∀{n i e:Æ},e∈orb mask n i->∃m,m<n/\itf mask m i=e
 |n+1,i,e,h=>by
  rcases Zg.mp h with rfl|h
  .exact#[0,Xb _,rfl]
  .exists[m,h1,h2],zw h;exact#[m+1,Nat.succ_lt_succ h1,h2]
def Msk(m:Æ):Prop:=m=7\/m=31\/m=127
theorem HZ{mask:Æ}(h:Í):itf mask Ä 0=0/\∀e,e<=mask->∃m,m<=mask/\itf mask m 0=e:=by
 have key:itf mask Ä 0=0/\(List.range Ä).all (λe=>(orb mask Ä 0).contains e)=true:=by rcases h with rfl|rfl|rfl<;>decide +kernel
 refine#[key.1,λe he=>?_];have:=YD.mp key.2 e (Y2.mpr (Nat.lt_succ_of_le he));exists[m,h1,h2],zw (List.contains_iff_mem.mp this);exact#[m,Nat.le_of_lt_succ h1,h2]
theorem Cs{mask:Æ}(h:Í){r e:Æ}(hr:r<=mask)(he:e<=mask):∃m,m<=mask/\itf mask m r=e:=by
 exists[per,all],HZ h;exists[a,ha,rfl],all r hr;exists[b,hb,rfl],all e he;by_cases c:a<=b
 .refine#[b-a,∅,?_];rw[<-pj,show a+(b-a)=b by omega]
 .refine#[mask+1-a+b,∅,?_];rw[<-pj,show a+(mask+1-a+b)=Ä+b by omega,pj,per]
theorem Cl(mask:Æ):∀(a b:Æ) (x:Ã),hd mask (a+b) x=hd mask b (hd mask a x)
 |0,b,x=>by rw[Nat.zero_add];rfl
 |a+1,b,x=>by rw[Nat.add_right_comm];exact Cl mask a b _
theorem zi(mask:Æ):∀(n i:Æ),hd mask n (i,0)=(itf mask n i,0)
 |0,_=>rfl
 |n+1,i=>by show hd mask n ((i*5+1+0 / 32)%Ä,0 / 32)=_;rw[Nat.zero_div,Nat.add_zero];exact zi mask n _
theorem zh(mask:Æ):∀(n:Æ) (x:Ã),(hd mask n x).2=x.2 / 32^n
 |0,x=>by rw[Nat.pow_zero,Nat.div_one];rfl
 |n+1,x=>by show(hd mask n Ê).2=_;rw[zh mask n];show x.2 / 32 / 32^n=_;rw[Nat.div_div_eq_div_mul,Nat.pow_succ,Nat.mul_comm]
theorem Gc(mask:Æ):∀(n:Æ) (x:Ã),x.1<=mask->(hd mask n x).1<=mask
 |0,_,h=>h
 |n+1,x,_=>Gc mask n _ Â
theorem wU{mask:Æ}(h:Í){x:Ã}(h1:x.1<=mask)(h2:x.2<2^64){e:Æ}(he:e<=mask):∃n,n<=13+mask/\(hd mask n x).1=e:=by
 have hp:(hd mask 13 x).2=0:=by rw[zh];exact Nat.div_eq_of_lt (Nat.lt_trans h2 ⋯)
 exists[m,hm,e1],Cs h (Gc mask 13 x h1) he;refine#[13+m,∅,?_];rw[Cl,show hd mask 13 x=((hd mask 13 x).1,0)from Prod.ext rfl hp,zi];exact e1
def adv(t:Á):Nat->Probe->Probe
 |0,p=>p
 |n+1,p=>adv t n Ç
theorem oU(t:Á):∀(a b:Æ) (p:Probe),adv t (a+b) p=adv t b (adv t a p)
 |0,b,p=>by rw[Nat.zero_add];rfl
 |a+1,b,p=>by rw[Nat.add_right_comm];exact oU t a b _
def hdP(mask:Æ)(x:Ã):Probe:={ j:=x.1,more:=runEnd mask x.1-x.1,i:=x.1,perturb:=x.2,dummy:=none }
theorem yS(t:Á):∀(m j i p:Æ),adv t m { j:=j,more:=m,i:=i,perturb:=p,dummy:=none }={ j:=j+m,more:=0,i:=i,perturb:=p,dummy:=none }
 |0,_,_,_=>rfl
 |m+1,j,i,p=>by show adv t m (t.advance _)=_;unfold advance;rw[Ox (Xb m)];dsimp only;rw[Nat.add_sub_cancel,yS t m,Nat.add_right_comm,Nat.add_assoc]
theorem DZ(t:Á)(x:Ã):∃m,m<=10/\adv t m Î=hdP À Ë:=by
 refine#[runEnd À x.1-x.1+1,?_,?_]
 .unfold runEnd;split<;>omega
 .rw[oU];unfold hdP;rw[yS];rfl
theorem tY(t:Á):∀(n:Æ) (x:Ã),∃m,m<=10*n/\adv t m Î=hdP À (hd À n x)
 |0,x=>#[0,Zi _,rfl]
 |n+1,x=>by exists[a,h1,h2],DZ t x;exists[b,h3,h4],tY t n Ë;exact#[a+b,∅,by rw[oU,h2];exact h4]
theorem FH(t:Á)(h:Int):t.probeStart h=hdP À (bits h%(À+1),bits h):=rfl
theorem yT(h:Int):bits h<2^64:=by unfold bits;have h1:=Ye h (show(0:Int)<2^64 by decide);have h2:=y9 h (show(2^64:Int)≠0 by decide);omega
theorem zV{α:Type}[BEq α][LawfulBEq α]:∀{l m:List α},l.Nodup->(∀x∈l,x∈m)->l.length<=m.length
 | [],m,_,_=>ZL _
 |x::l,m,nd,h=>by exists[n1,n2],Z3.mp nd;have hx:=h x Zn;have:=zV (l:=l) (m:=m.erase x) n2 λy hy=>(List.mem_erase_of_ne fun(z:y=x)=>n1 (z▸hy)).mpr (h y (Zj _ hy));rw[List.length_erase_of_mem hx]at this;have:=List.length_pos_of_mem hx;rw[Zm];omega
set_option tactic.hygienic true in theorem uL{t:Á}{j i:Æ}(h:t.slot j=.live i):t.place[i]?=some j:=by
 unfold slot at h;dsimp only at h;split at h
 .rename_i c;cases h;exact eq_of_beq c
 .split at h<;>cases h
theorem ye{t:Á}(hd:Å)(j:Æ):t.slot j=.empty\/∃i,t.slot j=.live i:=by
 unfold slot;dsimp only;split
 .exact .inr #[_,rfl]
 .rw[hd];exact .inl rfl
theorem Ep{t:Á}(hd:Å)(h:Ì):∃e,e<=À/\t.slot e=.empty:=by
 refine Classical.byContradiction λc=>?_;have:=zV (l:=List.range (À+1)) (m:=t.place.toList) List.nodup_range λx hx=>by
  rcases ye hd x with e|⟨i,e⟩
  .exact absurd #[x,Nat.le_of_lt_succ (Y2.mp hx),e] c
  .exact YS.mpr (Array.mem_of_getElem? (uL e))
 rw[YW,ZM]at this;omega
theorem Bp{t:Á}(hm:Msk À)(hd:Å)(h:Ì)(x:Int):∃n,n<10*turns À/\t.slot (adv t n (t.probeStart x)).j=.empty:=by exists[e,he,hs],Ep hd h;exists[n,hn,e1],wU hm (x:=È) Â (yT x) he;exists[m,hm',e2],tY t n È;refine#[m,by unfold turns;omega,?_];rw[FH,e2];show t.slot (ST.hd À n _).1=_;rw[e1];exact hs
theorem tX(t:Á)(p:Probe):(t.advance p).dummy=p.dummy:=by unfold advance;split<;>rfl
theorem Cj{t:Á}(hd:Å){h:Int}:∀(n fuel:Æ) (p:Probe),n<fuel->p.dummy=none->t.slot (adv t n p).j=.empty ->
  (∃j,probe.go t hs h fuel p=some (.empty j none))\/∃m j i,m<n/\probe.go t hs h fuel p=some (.candidate j i (adv t (m+1) p))/\t.slot j=.live i/\hs i=h
 |n,0,p,hf,_,_=>absurd hf (Nat.not_lt_zero _)
 |n,fuel+1,p,hf,hp,he=>by
  rcases ye hd p.j with e|⟨i,e⟩
  .refine .inl #[p.j,?_];unfold probe.go;rw[e];dsimp only;rw[hp]
  .cases n with
   |zero=>rw[show adv t 0 p=p from rfl,e]at he;cases he
   |succ n =>
    by_cases c:hs i=h
    .refine .inr #[0,p.j,i,Xb _,?_,e,c];unfold probe.go;rw[e];dsimp only;rw[Ox (Z8.mpr c)];rfl
    .have hg:probe.go t hs h (fuel+1) p=probe.go t hs h fuel Ç:=by
      conv=>lhs;unfold probe.go
      rw[e];dsimp only;rw[Ow λz=>c (Z8.mp z)]
     rcases Cj hd n fuel Ç (Y6 hf) (by rw[tX];exact hp) he with⟨j,e1⟩|⟨m,j,i',h1,e1,e2,e3⟩
     .exact .inl #[j,by rw[hg];exact e1]
     .exact .inr #[m+1,j,i',Nat.succ_lt_succ h1,by rw[hg];exact e1,e2,e3]
end
end ST
open PySem PySem.Spec PyProof.Rows
namespace ST
open SetTable
mutual
#check#[(Option Nat),hs.length,(mask+1),(some 0),owner.toList,(some k),owner.size,hs.size,(l.set j Å),(turns mask),(bits h%Â),(List À)]
theorem uu{mask:Nat}{owner:Array À}:∀(n fuel i p:Nat),n<fuel->owner.getD (hd mask n (i,p)).1 Ã=none->∃j,layClean.free mask owner fuel i p=some j/\owner.getD j Ã=none
 |n,0,i,p,hf,_=>absurd hf (Nat.not_lt_zero _)
 |n,fuel+1,i,p,hf,he=>by
  unfold layClean.free;cases c:(List.range (runEnd mask i+1-i)).find? (λk=>(owner.getD (i+k) Ã).isNone)with
  |some k =>refine#[i+k,rfl,?_];have:=List.find?_some c;exact Option.isNone_iff_eq_none.mp this
  |none =>
   cases n with
   |zero =>have h0:=Xa.mp c 0 (Y2.mpr (by unfold runEnd;split<;>omega));rw[Nat.add_zero]at h0;have he:owner.getD i Ã=none:=he;rw[he]at h0;exact absurd rfl h0
   |succ n=>exact uu n fuel _ _ (Y6 hf) he
abbrev held(l:Ë):List Nat:=l.filterMap id
theorem qp:∀{l:Ë} {j k:Nat},l[j]?=some none->List.Perm (held È) (k::held l)
 |none::l,0,k,_=>.refl _
 |some _::_,0,_,h=>by cases h
 |none::l,j+1,k,h=>qp (l:=l) (j:=j) h
 |some x::l,j+1,k,h=>by have ih:=qp (l:=l) (j:=j) (k:=k) h;show List.Perm (x::held È) (k::x::held l);exact(ih.cons x).trans (.swap k x _)
theorem ux:∀{l:Ë},(held l).length<l.length->∃e:Nat,l[e]?=some none
 | [],h=>absurd h (YE _)
 |none::l,_=>#[0,rfl]
 |some x::l,h=>by exists[e,he],ux (l:=l) (Y6 h);exact#[e+1,he]
theorem xu{mask:Nat}(hm:Msk mask):∀(hs:OJ) (owner:Array À) (k:Nat),Æ=mask+1->(held Ä).Perm (List.range k)->k+Á<=mask ->
  ∃ o',hs.foldl (λacc h=>do
   let(owner,k) ←acc
   let j ←layClean.free mask owner É Ê (bits h)
   pure (owner.setIfInBounds j Å,k+1)) (some (owner,k))=some (o',k+Á)/\o'.size=mask+1/\(held o'.toList).Perm (List.range (k+Á))
 | [],owner,k,h1,h2,_=>#[owner,rfl,h1,h2]
 |h::hs,owner,k,h1,h2,h3=>by
  rw[Zm]at h3;have lk:=h2.length_eq;rw[YW]at lk;exists[e,he],ux (l:=Ä) (by have e0:owner.toList.length=Æ:=ZM;omega);have he':e<Æ:=by have:=(Zu.mp he).1;rw[ZM]at this;exact this
  have hg:owner.getD e Ã=none:=by rw[YB]at he;rw[x9,he];rfl
  exists[n,hn,e1],wU hm (x:=(bits h%Â,bits h)) (Nat.le_of_lt_succ (Nat.mod_lt _ (Xb _))) (yT h) (e:=e) ∅;exists[j,f1,f2],uu (mask:=mask) (owner:=owner) n É Ê (bits h) (by unfold turns;omega) (by rw[e1];exact hg);have hj:Ä[j]?=some none:=by
   rw[x9]at f2;rw[YB];cases c:owner[j]? with
   |none=>rw[c]at f2;cases f2
   |some y =>rw[c]at f2;have f2:y=none:=f2;rw[f2]
  exists[o',g1,g2,g3],xu hm hs (owner.setIfInBounds j Å) (k+1) (by rw[Array.size_setIfInBounds];exact h1) (by
   rw[Array.toList_setIfInBounds];refine(qp hj).trans ((h2.cons k).trans ?_);rw[List.range_succ];exact (List.perm_append_singleton k _).symm) ∅
  refine#[o',?_,g2,?_]
  .rw[List.foldl_cons];simp only[Option.bind_eq_bind,Option.bind_some,f1];rw[Zm,show k+(Á+1)=k+1+hs.length by omega];exact g1
  .rw[Zm,show k+(Á+1)=k+1+hs.length by omega];exact g3
theorem Ds{t:SetTable}{hs:Array Int}{wanted:Nat}(hm:Msk (sizeAbove wanted-1))(hl:Ç<=sizeAbove wanted-1):∃t' order,t.relaid hs wanted=some (t',order)/\t'.mask=sizeAbove wanted-1/\t'.dummies=#[]/\t'.place.size=Ç/\order.toList.Perm (List.range Ç):=by
 unfold relaid laid layClean;generalize sizeAbove wanted-1=mask at hm hl;exists[o',g1,g2,g3],xu hm hs.toList (Array.replicate Â none) 0 (by simp) (by
  rw[Array.toList_replicate];have:∀n,held (List.replicate n none)=[]:=λn=>by
   induction n with
   |zero=>rfl
   |succ n ih=>rw[YJ];exact ih
  rw[this];exact .refl _) (by rw[ZM];omega)
 rw[<-Array.foldl_toList,g1];rw[Nat.zero_add,ZM]at g3;simp only[Option.map_some,Option.bind_eq_bind,Option.bind_some];have el:((List.range Â).filterMap λj=>(o'.getD j none).map (j,·)).map (·.2)=held o'.toList:=by
  rw[List.map_filterMap];have e1:∀j,((o'.getD j none).map (j,·)).map (·.2)=o'.getD j none:=λj=>by cases o'.getD j none<;>rfl
  simp only[e1];have e2:o'.toList=(List.range Â).map λj=>o'.getD j none:=by refine List.ext_getElem (by simp[g2]) λi h1 h2=>?_;rw[List.getElem_map,List.getElem_range,Array.getElem_toList,x9,ZW (by simpa using h1)];rfl
  rw[e2];unfold held;rw[List.filterMap_map];rfl
 refine#[_,_,rfl,rfl,rfl,?_,?_]
 .rw[Zk,Zd,<-Zd (f:=(·.2)),el,g3.length_eq,YW]
 .rw[List.toList_toArray,el];exact g3
theorem xa{α:Type}(xs:Array α)(p:Nat)(x:α):(SetTable.insertAt xs p x).size=xs.size+1:=by have:=(SetTable.insertAt_perm xs p x).length_eq;simpa using this
end
end ST
open PySem PySem.Spec PyProof.Rows
namespace ST
open SetTable
mutual
#check#[(IsTupleKey (intKind prog w) s.heap ks b),(model prog w),(λrest r s'=>r.1=none/\s'=s/\∃ks',ItemsAre (intKind prog w) ks' rest),(wpAny_setState_of ho hd ok.fits ?_),(Bool->OD->Prop),(.ref b),(SetTable),(t.probeStart hh),(Za ?_),(n-(m+1)),t.mask,(YG ho hd ?_),s.heap,hk.typeIs]
section
variable{prog:OF}{w:OG}{A:OH}{E:Oz}{s:OD}
theorem Er{Q:Ä}(hk:À)(h:∀v,Q v s):wpAny Á A (hashByValue 8 Å) Q E s:=by
 have hT:=Í;exists[o,items,n,ho,_,hd,hi],hk;unfold hashByValue;refine z9 (wpAny_specialOf hT F.slot_tuple_hash.lookup ?_);show wpAny _ _ (seqItems? Å >>= _) _ _ s;refine z9 Ë;refine z9 ?_;show wpAny _ _ (forIn items _ _) _ _ s;rw[<-Array.forIn_toList];refine Y4 _ Â _ ?_ ?_ _ _ #[rfl,rfl,ks,hi]
 .rintro v rest r s' ⟨hr,rfl,ks',hall⟩;cases hall with
  |cons h1 h2 =>exists[t,rfl],Value.isInt_shape h1;refine z9 È;simp only[Bool.not_true,Z5,Yq];exact Za #[rfl,rfl,_,h2]
 .rintro⟨r1,r2⟩ s' ⟨hr,rfl,_⟩;simp only at hr;subst hr;exact Za (h _)
theorem xy{Q:Ä}(hk:À)(h:Q false s):wpAny Á A (ofAClassStatement 8 Å) Q E s:=by
 have hT:=Í;exists[o,items,n,ho,_,hd,hi],hk;unfold ofAClassStatement;refine z9 (Y9 hT ?_);refine z9 È;simp only[Bool.not_true,Z5,Yq];refine z9 Ë;dsimp only;refine z9 ?_;rw[<-Array.forIn_toList];refine Y4 _ Â _ ?_ ?_ _ _ #[rfl,rfl,ks,hi]
 .rintro v rest r s' ⟨hr,rfl,ks',hall⟩;cases hall with
  |cons h1 h2 =>exists[t,rfl],Value.isInt_shape h1;refine z9 È;simp only[Z5,Yq];exact Za #[rfl,rfl,_,h2]
 .rintro⟨r1,r2⟩ s' ⟨hr,rfl,_⟩;simp only at hr;subst hr;exact Za h
abbrev TupAt(prog:OF)(w:OG)(h:Heap)(ks:OJ)(v:OE):Prop:=∃b,v=.ref b/\IsTupleKey (intKind prog w) h ks b
theorem EN{st:OB}{Q:Ä}(hk:À)(hs:∀v∈st,∃ks',TupAt prog w Ì ks' v)(h:Q false s):wpAny Á A (searchCouldBeSeen Å st) Q E s:=by
 unfold searchCouldBeSeen;refine z9 ?_;refine Y4 _ (λrest r s'=>r.1=none/\s'=s/\∀v∈rest,∃ks',TupAt prog w Ì ks' v) _ ?_ ?_ _ _ #[rfl,rfl,hs]
 .rintro v rest r s' ⟨hr,rfl,hall⟩;exists[ks',b',rfl,hb],hall v Zn;have fin:∀u∈rest,∃ks',TupAt prog w s'.heap ks' u:=λu hu=>hall u (Zj _ hu);dsimp only;split
  .exact Za #[rfl,rfl,fin]
  .refine z9 (wpAny_eqIsQuiet_tuple hk ?_);simp only[Bool.not_true,Z5,Yq];refine z9 (wpAny_eqIsQuiet_tuple hb ?_);simp only[Bool.not_true,Z5,Yq];refine z9 (xy hk ?_);simp only[Z5,Yq];refine z9 (xy hb ?_);simp only[Z5,Yq];exact Za #[rfl,rfl,fin]
 .rintro⟨r1,r2⟩ s' ⟨hr,rfl,_⟩;simp only at hr;subst hr;exact Za h
theorem yR(t:Æ):∀(n:Nat) (p:Probe),(adv t n p).dummy=p.dummy
 |0,_=>rfl
 |n+1,p=>(yR t n _).trans (tX t p)
def MsF(mask n:Nat):Prop:=(mask=7/\n<=4)\/(mask=31/\n<=18)\/(mask=127/\n<=70)
theorem MsF.msk{mask n:Nat}(h:MsF mask n):Msk mask/\n<=mask/\mask%2=1/\n<=70:=by unfold MsF at h;unfold Msk;omega
structure TbOk(t:Æ)(n:Nat):Prop where
 du:t.dummies=#[]
 pl:t.place.size=n
 ms:MsF Ê n
theorem TbOk.fits{t:Æ}{n:Nat}(x:TbOk t n):t.fits n=true:=by have:=x.ms.msk;unfold SetTable.fits SetTable.fill;rw[x.du,x.pl];simp;omega
theorem EH{α:Type}{c:Bool}{m:Sem Bool}{u r:Sem α}{Q:α->OD->Prop}(h1:wpAny Á A m (λb s'=>b=false/\s'=s) E s)(h2:wpAny Á A r Q E s):wpAny Á A (if c=true then(do if(←m)=true then u else r)else r) Q E s:=by
 split
 .refine z9 (ZQ h1 (λb s' z=>?_) λ_ _ z=>z);exists[rfl,rfl],z;rw[Ow ⋯];exact h2
 .exact h2
theorem M4{ep:Nat}{t:Æ}{hh:Int}{Q:SetFound->OD->Prop}(hu:A.units<cLine)(ho:s.heap.get? a=some o)(hd:o.data=.set es ep t)(ok:TbOk t es.size)(hk:À)(he:∀e∈es.toList,∃ks',ks'≠ks/\TupAt prog w Ì ks' e.2)(q:∀j,Q (.free j false) s):
  ∀(n fuel:Nat) (st:Option Probe),n<fuel->n<10*turns Ê->(st.getD Ç).dummy=none->t.slot (adv t n (st.getD Ç)).j=.empty->wpAny Á A (setSearchFrom a Å hh true fuel st) Q E s:=by
 intro n;induction n using Nat.strongRecOn with
 |ind n ih =>
  intro fuel st hf h10 hp hs;cases fuel with
  |zero=>exact absurd hf (Nat.not_lt_zero _)
  |succ fuel =>
   unfold setSearchFrom;refine z9 Ã;dsimp only;have gw:t.gaveWay=false:=by have:=ok.ms.msk;unfold SetTable.gaveWay;simp;omega
   rw[gw];simp only[Z5,Yq];unfold SetTable.probe;rcases Cj ok.du n (10*turns Ê) _ h10 hp hs with⟨j,e1⟩|⟨m,j,i,h1,e1,e2,_⟩
   .rw[e1];exact Za (q j)
   .rw[e1];dsimp only;have hi:i<es.size:=by have:=(Yt.mp (uL e2)).1;rw[ok.pl]at this;exact this
    exists[ks',ne,b',eb,hb],he es[i] (by simp);obtain⟨⟨h',y⟩,ey⟩:∃z,es[i]?=some z:=#[es[i],ZW hi]
    have:y=.ref b':=by rw[ZW hi]at ey;rw[<-eb,Zo ey]
    subst this;rw[ey];dsimp only;have sm:t.sameMemory t.moves Ê=some true:=by unfold sameMemory;simp
    refine EH (EN hk (λv hv=>?_) #[rfl,rfl]) ?_
    .exists[z,hz,rfl],Zt.mp hv;exists[k2,_,x],he z (YS.mpr (Array.mem_filter.mp (YS.mp hz)).1);exact#[k2,x]
    refine z9 (ZJ (wpAny_eqBool_tuple hu hb hk ?_));rw[decide_eq_false ne];refine z9 Ã;simp only[YN,Z5,Yq,sm,if_true,e2,ey];refine z9 (wpAny_isSame_ref_self ?_);simp only[if_true];refine z9 È;exact ih É ∅ fuel (some _) ∅ ∅ (by show(adv t (m+1) _).dummy=none;rw[yR];exact hp) (by show t.slot (adv t É (adv t (m+1) _)).j=_;rw[<-oU,show m+1+É=n by omega];exact hs)
#check 0
end
end ST
open PySem PySem.Spec PyProof.Rows
namespace ST
open SetTable
mutual
#check#[es.size,(wpAny_setState_of ho hd ok.fits ?_),(Obj.putSet es' t'),(o.data=.set es ep t),es.toList,(model prog w),(grown (À+1)),(es[·]?),(hh,.ref b),(Obj.putSet es1 t2),(SetTable),(s.heap.get? a=some o),t.mask,s.heap,pe.length_eq,ok.ms,t2.tooFull,es1.size]
section
variable{A:OH}{s:OD}
theorem zG{h:Heap}{ep:Nat}{t t':Ê}(ho:h.get? a=some o)(hd:Ã):(h.update a Â).get? a=some { o with data:=.set es' (ep+1) t' }:=by have:=y8 Â ho (by rw[putSet_of es' t' hd];rfl);rw[putSet_of es' t' hd]at this;exact this
theorem KR{t:Ê}{n j:Nat}(hd:t.dummies=#[])(hp:t.place.size=n):(t.put j).1.dummies=#[]/\(t.put j).1.place.size=n+1/\(t.put j).1.mask=Ì:=by
 unfold SetTable.put;refine#[?_,?_,rfl]
 .dsimp only;rw[hd];rfl
 .dsimp only;rw[xa,hp]
theorem Fj{ep:Nat}{t:Ê}{m:Nat}{Q:Unit->OD->Prop}(ho:Ë)(hd:Ã)(hf:t.fits À=true)(h1:sizeAbove m<=200)(hm:Msk (sizeAbove m-1))(hz:À<=70)(hl:À<=sizeAbove m-1)(q:∀es' t',es'.toList.Perm Ä->t'.dummies=#[]->t'.place.size=À->t'.mask=sizeAbove m-1->Q () { s with heap:=s.heap.update a Â }):wpAny Å A (setRelay a m) Q E s:=by
 unfold setRelay;refine z9 (wpAny_setState_of ho hd hf ?_);dsimp only;rw[Ow (by rw[sizeLine_eq];omega)];exists[t',order,e1,e2,e3,e4,e5],Ds (t:=t) (hs:=es.map (·.1)) hm (by rw[Array.size_map];exact hl);rw[Array.size_map]at e4 e5;rw[e1];have pe:(order.filterMap Ç).toList.Perm Ä:=by rw[Array.toList_filterMap];exact(e5.filterMap _).trans (by rw[filterMap_getElem?_range])
 have sz:(order.filterMap Ç).size=À:=by rw[<-ZM,Î,ZM]
 refine z9 ?_;show wpAny _ _ (if((order.filterMap Ç).size != À)=true then _ else pure (order.filterMap Ç,t')) _ _ _;rw[Ow (by rw[sz];simp)];refine Za ?_;exact wpAny_storeSet_of ho hd (q _ _ pe e3 e4 e2) (by rw[sz,sizeLine_eq];omega)
theorem G0{ep:Nat}{t:Ê}{hh:Int}{Q:Bool->OD->Prop}(hu:A.units<cLine)(ho:Ë)(hex:o.ExactSet)(hd:Ã)(ok:TbOk t À)(hn:À<=69)(hk:IsTupleKey (intKind prog w) Í ks b)(he:∀e∈Ä,∃ks',ks'≠ks/\TupAt prog w Í ks' e.2)(q:∀h' o' es' ep' t',Heap.SameBut a Í h'->h'.get? a=some o'->o'.ExactSet->o'.data=.set es' ep' t'->TbOk t' es'.size->es'.size=À+1->(∀e∈es'.toList,e∈Ä\/e.2=.ref b)->Q true { s with heap:=h' }):
  wpAny Å A (setAddHashed a (.ref b) hh) Q E s:=by
 unfold setAddHashed setAddHashedIn;refine ZJ (z9 Á);dsimp only;rw[Ow (by unfold byScan;simp[Value.scannable])];have ms:=ok.ms.msk;exists[n,h10,hs],Bp ms.1 ok.du (by rw[ok.pl];exact ms.2.1) hh;unfold setSearch;refine z9 (M4 hu ho hd ok hk he (λj=>?_) n 100000 none (by have:=Ï;unfold MsF at this;unfold turns at h10;omega) h10 rfl hs);dsimp only;refine z9 Á;dsimp only;exists[p1,p2,p3],KR (j:=j) ok.du ok.pl;have isz:=xa es (t.put j).2 È;have imem:∀e∈(SetTable.insertAt es (t.put j).2 È).toList,e∈Ä\/e.2=.ref b:=λe h=>by
  have:=(SetTable.insertAt_perm es (t.put j).2 (hh,Value.ref b)).mem_iff.mp h;rw[Array.toList_push]at this;rcases ZE.mp this with h|h
  .exact .inl h
  .rw[Zh.mp h];exact .inr rfl
 generalize(t.put j).1=t1 at p1 p2 p3 ⊢;generalize SetTable.insertAt es (t.put j).2 È=es1 at isz imem ⊢;have rest:∀ t2:SetTable,t2.dummies=#[]->t2.place.size=À+1->t2.mask=Ì->wpAny Å A (do
   storeSet a es1 t2
   if(!false&&Ð)=true then do
     setRelay a Æ
     pure true
    else pure true) Q E s:=λt2 d1 d2 d3=>by
  refine z9 (wpAny_storeSet_of ho hd ?_ (by rw[isz,sizeLine_eq];omega));have g1:=zG (es':=es1) (t':=t2) ho hd;have sb:=ZZ Í a É;have ft:t2.fits Ñ=true:=by unfold SetTable.fits SetTable.fill;rw[d1,d2,d3,isz];simp;have:=Ï;unfold MsF at this;omega
  have tf:Ð=decide ((À+1)*5>=Ì*3):=by unfold SetTable.tooFull SetTable.fill;rw[d1,d2,d3];rfl
  rw[tf];by_cases c:(À+1)*5>=Ì*3
  .rw[Ox (by simp;exact c)];have c2:(À=4/\sizeAbove Æ=32)\/(À=18/\sizeAbove Æ=128):=by
    have hm:=Ï;unfold MsF at hm;rcases hm with⟨m1,m2⟩|⟨m1,m2⟩|⟨m1,m2⟩
    .rw[m1]at c;have:À=4:=∅
     exact .inl #[this,by rw[this];decide +kernel]
    .rw[m1]at c;have:À=18:=∅
     exact .inr #[this,by rw[this];decide +kernel]
    .rw[m1]at c;omega
   refine z9 (Fj (s:={ s with heap:=s.heap.update a É }) g1 rfl ft ?_ ?_ ∅ ?_ λes2 t3 pe f1 f2 f3=>Za ?_)
   .rcases c2 with⟨_,e⟩|⟨_,e⟩<;>(rw[e];decide)
   .unfold Msk;rcases c2 with⟨_,e⟩|⟨_,e⟩
    .rw[e];exact .inr (.inl rfl)
    .rw[e];exact .inr (.inr rfl)
   .rcases c2 with⟨e0,e⟩|⟨e0,e⟩<;>(rw[e,isz,e0];decide)
   .have sz2:es2.size=Ñ:=by rw[<-ZM,Î,ZM]
    refine q _ _ es2 _ t3 (sb.trans (ZZ _ a _)) (zG g1 rfl) hex rfl #[f1,by rw[f2,sz2],?_] (by rw[sz2,isz]) λe h=>imem e (pe.mem_iff.mp h);rw[f3,sz2,isz];unfold MsF;rcases c2 with⟨e0,e⟩|⟨e0,e⟩
    .rw[e,e0];exact .inr (.inl #[rfl,⋯])
    .rw[e,e0];exact .inr (.inr #[rfl,⋯])
  .rw[Ow (by simp;omega)];refine Za (q _ _ es1 _ t2 sb g1 hex rfl #[d1,by rw[d2,isz],?_] isz imem);rw[d3,isz];have hm:=Ï;unfold MsF at hm ⊢;omega
 split
 .refine z9 (Er hk λv=>?_);cases v with
  |true=>exact rest t1 p1 p2 p3
  |false=>exact rest { t1 with plain:=false } p1 p2 p3
 .refine z9 (Za ?_);exact rest t1 p1 p2 p3
#check 0
end
end ST
open PySem PySem.Spec PyProof.Rows
namespace ST
open SetTable
mutual
#check#[(intKind prog w),(pyNext (.ref I) >>= _),(by rw[z];exact Zn),(Nat->OC),(W.sub _ h),(hK1 i hi),(bs i)]
section
variable{prog:OF}{w:OG}{A:OH}{s:OD}
def TSt(h:Heap)(S:OC)(bs:Ã)(i:Nat):Prop:=∃o es ep t,h.get? S=some o/\o.ExactSet/\o.data=.set es ep t/\TbOk t es.size/\es.size=i/\∀e∈es.toList,∃j,j<i/\e.2=.ref (bs j)
theorem TSt.mv{h h':Heap}{bs:Ã}{i:Nat}(x:TSt h S bs i)(k:∀o,h.get? S=some o->h'.get? S=some o):TSt h' S bs i:=by exists[o,es,ep,t,h1,r],x;exact#[o,es,ep,t,k _ h1,r]
abbrev Aj(prog:OF)(w:OG)(h:Heap)(kf:Nat->OJ)(bs:Ã)(n:Nat):Prop:=∀j,j<n->IsTupleKey À h (kf j) (bs j)
theorem xm{h h':Heap}(x:IsTupleKey À h ks b)(k:∀o,h.get? b=some o->h'.get? b=some o):IsTupleKey À h' ks b:=by exists[o,items,n,h1,r],x;exact#[o,items,n,k _ h1,r]
theorem yl{R:Result->OD->Prop}{n:Nat}{St:Nat->OD->Prop}(W:WalksS prog w A.in1 I fp wr G n P St)(hu:A.in1.units<cLine)(S:OC)(hS:S∉fp){kf:Nat->OJ}{bs:Ã}(hn:n<=69)(hb:∀j,j<n->bs j∉S::wr)(hv:∀i v,P i v->v=.ref Æ)(inj:∀i j,i<n->j<n->kf i=kf j->i=j):
  ∀(k i:Nat) (s:OD),k+i=n->St i s->TSt s.heap S bs i->Aj prog w s.heap kf bs n->(∀s',Moved (S::wr) G s s'->TSt s'.heap S bs n->R (.ok (.ret .none)) s')->codeAny (model prog w) A (.builtin "set.update.loop" #[[.ref S,.ref I],[]]) R s
 |0,i,s,hk,hst,hT,_,q=>by
  have nw:S∉wr:=λh=>hS Ä;obtain rfl:i=n:=∅
  refine codeAny_builtin F.entry_set_update_loop ?_;rw[Around.under_plainId F.plain_set_update_loop _];show wpAny _ A.in1 Á _ _ s;refine z9 (W.done s _ _ hst λs' hm=>?_);exact Za (q s' (hm.mono λb h=>Zj _ h) (hT.mv λo e=>hm.heap S o nw e))
 |k+1,i,s,hk,hst,hT,hK,q=>by
  have nw:S∉wr:=λh=>hS Ä;have hi:i<n:=∅
  refine codeAny_builtin F.entry_set_update_loop ?_;rw[Around.under_plainId F.plain_set_update_loop _];show wpAny _ A.in1 Á _ _ s;refine z9 (W.item i s _ _ hi hst λv s1 hP hst1 hm=>?_);obtain rfl:=hv i v hP;have hK1:Aj prog w s1.heap kf bs n:=λj hj=>xm (hK j hj) λo e=>hm.heap _ o (λz=>hb j hj (Zj _ z)) e;exists[o,es,ep,t,e1,e2,e3,e4,e5,e6],hT.mv λo e=>hm.heap S o nw e;show wpAny _ A.in1 (holding [Value.ref Æ] (setAdd S (.ref Æ)) >>= _) _ _ s1;refine z9 (ZJ ?_);unfold setAdd;refine ZJ (z9 (wpAny_pyHash_tuple hu Å ?_));refine G0 (s:={ s1 with toks:=s1.toks+((kf i).length+1) }) hu e1 e2 e3 e4 ∅ Å (λe he=>?_) λh2 o2 es2 ep2 t2 sb f1 f2 f3 f4 f5 f6=>?_
  .exists[j,hj,ej],e6 e he;exact#[kf j,λz=>by have:=inj j i ∅ hi z;omega,bs j,ej,hK1 j ∅]
  refine Za #[plainId_quiet F.plain_set_update_loop _,yl W hu S hS hn hb hv inj k (i+1) _ ∅ (W.frame _ s1 _ _ hst1 (Yr _ _) λb h o e=>?_) #[o2,es2,ep2,t2,f1,f2,f3,f4,by rw[f5,e5],λe he=>?_] (λj hj=>xm (hK1 j hj) λo e=>?_) λs2 hm2 hT2=>?_]
  .rw[sb.2 b λz=>hS (z▸h)];exact e
  .rcases f6 e he with h|h
   .exists[j,hj,ej],e6 e h;exact#[j,∅,ej]
   .exact#[i,∅,h]
  .show h2.get? _=_;rw[sb.2 _ λz=>hb j hj Â];exact e
  .refine q s2 (Moved.trans W.gtrans ((hm.mono λb h=>Zj _ h).then_heap (Yr _ _) λb o h e=>?_) hm2) hT2;rw[sb.2 b λz=>h Â];exact e
#check 0
end
end ST
open PySem PySem.Spec PyProof.Rows
namespace ST
open SetTable
mutual
#check#[s.heap.objs.size,items.size,(kW led),(∀(i:Nat) (v:OE),items[i]?=some v->v=.ref (bs i)),(∀i j,i<Á->j<Á->kf i=kf j->i=j),(Aj prog w s.heap kf bs Á),(.ref À),(s.heap.IsList l items),(by simp;omega),(model prog w),(by simp[hh]),(.type "set"),(A.handled=none),(Nat->OC),(Zh.mp e)]
section
variable{A:OH}{s:OD}
abbrev kW(led:Bool):Obj:={ cls:=.type "set",dict:=none,data:=.set #[] 0 (.fresh 0 0 led) }
abbrev DS(s:OD)(bs:Í)(n:Nat)(s':OD):Prop:=∃h' tk,s'={ s with heap:=h',toks:=tk }/\TSt h' À bs n/\∀b o,b<À->s.heap.get? b=some o->h'.get? b=some o
theorem FA{l:OC}{items:Array OE}{kf:Nat->OJ}{bs:Í}{led:Bool}(hh:Ì)(hu:A.units+40<cLine)(hl:Ç)(hz:Á<=69)(hv:Ã)(hK:Å)(inj:Ä) :
  wpAny É A (Builtin.«set.__init__» #[[.ref À,.ref l],[]]) (λf s'=>f=.done (.ret .none)/\DS s bs Á s') E { s with heap:=s.heap.push Â }:=by
 have hS:(s.heap.push Â).get? À=some Â:=Zl _ rfl;have hT:Shared.TypeIs { s with heap:=s.heap.push Â } Æ "set":=#[_,hS,rfl]
 exists[ol,hol,hcl,nl,hdl],id hl;exists[oc,od,odt,os],ol;simp only at hcl hdl;subst hcl hdl;have hol1:(s.heap.push Â).get? l=some { cls:=.type "list",dict:=od,data:=.seq items nl,slots:=os }:=Zb _ hol;have hl1:(s.heap.push Â).IsList l items:=#[_,hol1,rfl,nl,rfl]
 have n1:=F.sub_list_set;have n2:=F.sub_list_frozenset;have n3:(Value.type "list" == Value.type "dict")=false:=⋯
 unfold Builtin.«set.__init__» noKeywords Builtin.Frozenset.updateFrom;generalize hPI:pyIter=PI
 wp_walk
 subst hPI;refine wpAny_pyIter_list hl1 ?_;refine z9 (wpAny_runValue ?_);have hlt:l<À:=Zq hol;have sz:(s.heap.push Â).objs.size=À+1:=Y3 ..;have lt:∀j,j<Á->bs j<À:=λj hj=>by exists[o,_,_,h,_],hK j hj;exact Zq h
 have nin:∀b,b<À->b∉[À,(s.heap.push Â).objs.size]:=λb hb z=>by
  rw[sz]at z;rcases Zg.mp z with e|e
  .exact absurd e (Zz hb)
  .exact absurd Î (Zz (Xe hb))
 refine yl ((Walks.list Ê _ l (by rw[sz];exact Zz (Xe hlt)) items).toS) È À (λz=>by
  rw[sz]at z;rcases Zg.mp z with e|e
  .exact absurd e (Zz (YC _))
  .exact absurd Î (Yb hlt)) hz (λj hj=>nin _ (lt j hj)) hv inj Á 0 _ (Nat.add_zero _) #[#[_,Zl _ rfl,rfl,rfl],hl1.push _] ?_ (λj hj=>xm (hK j hj) λo e=>Zb _ (Zb _ e)) ?_
 .exact#[_,#[],0,_,Zb _ hS,#[rfl,rfl,rfl],rfl,#[rfl,rfl,.inl #[rfl,⋯]],rfl,λe he=>by simp at he]
 .intro s2 hm hT2;exists[h2,g2,d2,k2,o2],s2;obtain rfl:g2=s.gens:=hm.gens;obtain rfl:d2=s.drawn:=hm.drawn;obtain rfl:o2=s.os:=hm.os;refine Za (Za #[rfl,h2,k2,rfl,hT2,λb o hb e=>?_]);exact hm.heap b o (nin b hb) (Zb _ (Zb _ e))
theorem call_set_tups{items:Array OE}{bs:Í}{Q:Oz}(hh:Ì)(hu:A.units+60<cLine)(hl:Ç)(hz:Á<=69)(hv:Ã)(hK:Å)(inj:Ä)(h:∀s',DS s bs Á s'->Q Æ s'):wpAny É A (call Ë [.ref l]) Q E s:=by
 exists[c,tl,hmro],F.called_set.mro;have m1:=F.called_set.made;have m2:=F.called_set.sub;refine wpAny_call (codeAny_of_tree ?_);show wpAny _ _ (callAny Ë _) _ _ _;refine Za #[Code.quiet_builtin _ ⋯,codeAny_builtin F.entry_type_call ?_];rw[Around.under_plain (weight_type_call_type "set" [.ref l] []) rfl];have h1:=F.called_set.notType;have h2:=F.called_set.canCreate;have h3:=F.typeCall_set_1 (.ref l)
 repeat(any_goals(first|assumption|wp_step))
 refine Y7 (code_set_new_1 (.ref l) (E:=E) (Q₁:=λv s1=>∃led:Bool,v=.ref À/\s1={ s with heap:=s.heap.push Â }) λled=>#[led,rfl,rfl]) λr s1 hr=>?_;cases r with
 |error e=>exact hr
 |ok fl =>
  cases fl with
  |ret v =>
   exists[led,rfl,rfl],hr;have hT:Shared.TypeIs { s with heap:=s.heap.push Â } Æ "set":=#[_,Zl _ rfl,rfl]
   have i1:=F.called_set.init.lookup;have i2:=F.called_set.init.bind Æ
   repeat(any_goals(first|assumption|wp_step))
   refine Y7 (codeAny_call_builtin (R:=wants (λr s2=>r=.none/\DS s bs Á s2) E) F.called_set.init.plain F.entry_set_init (check_set_init_1 hT ?_)) λr2 s2 hr2=>?_
   .refine ZQ (FA (E:=E) Ê È hl hz hv hK inj) (λf s2 z=>?_) λe s2 z=>?_
    .exists[rfl,z],z;exact#[rfl,z]
    .exact z
   .cases r2 with
    |error e=>exact hr2
    |ok f2 =>
     cases f2 with
     |ret v =>
      exists[rfl,z],hr2;have z':=h _ z
      repeat(any_goals(first|assumption|wp_step))
     |_=>exact hr2.elim
  |_=>exact hr.elim
#check 0
end
end ST
open PySem PySem.Spec PyProof.Rows
mutual
#check#[(λxs H Q=>∃a o n,xs=[V.ref a]/\H a=some (jH a o)/\DX o n/\n<=1000/\Q (.int (n:Nat)) H),ys.length,(intKind X.prog X.w),(X.A.units+64<cLine),(.builtin "len"),(ks.map V.int),(.type "set"),its.length,(X.calm=true)]
def DX(o:Obj)(n:Nat):Prop:=o.ExactSet/\∃es ep t,o.data=.set es ep t/\t.fits es.size=true/\es.size=n
theorem xg:∀{ks:OJ} {us:OB},Vals Å us->ItemsAre (intKind prog w) ks us
 | [],_,.nil=>.nil
 |k::ks,_,.cons r t=>by exists[u,rfl],r;exact .cons (intKind_is _ _ _ _) (xg t)
theorem Mf{α β:Type}{R:α->β->Prop}{xs:List α}{ys:List β}(x:Paired R xs ys):∀(i:Nat) (h:i<xs.length) (k:i<Á),R xs[i] ys[i]:=by
 induction x with
 |nil=>exact λi h=>absurd h (Nat.not_lt_zero _)
 |cons r _ ih =>
  intro i h k;cases i with
  |zero=>exact r
  |succ i=>exact ih i (Y6 h) (Y6 k)
inductive rSetT(xs:List V)(H:Hp)(Q:VK):Prop
 |mk (l:OC) (ys:List V) (kss:List OJ) (h0:xs=[.ref l]) (h1:H l=some (.lst ys)) (h2:Paired (λv ks=>∃b,v=V.ref b/\H b=some (.tup Å)) ys kss) (h3:kss.Nodup) (h4:Á<=69) (q:∀a o,H a=none->DX o Á->Q (.ref a) (upd H a (jH a o))):rSetT xs H Q
section
variable{X:Cx}
theorem BT(hc:È)(hu:Ã):dR X Æ rSetT:=by
 intro ON s Y H xs us Q I r h;exists[l,ys,kss,rfl,hl,pr,nd,lz,q],h;exists[u,rfl,rx],dH r;cases rx;exists[_,its,n,rv,hlen,e],I.lstM hl;have lk:=Zv pr;have at':∀(i:Nat) (v:OE),its[i]?=some v->∃b ks,v=.ref b/\kss[i]?=some ks/\IsTupleKey Â s.heap ks b:=λi v hv=>by
  have hi:i<Á:=by rw[hlen];exact(Zu.mp hv).1
  have hk:i<kss.length:=∅
  exists[b,eb,e2],Mf pr i hi hk;have e1:ys[i]?=some (.ref b):=by rw[Ze hi,eb]
  exists[u,e3,e4],rv.get e1;rw[hv]at e3;cases e3;cases e4;exists[z,it2,r2,o2,e5,e6,n2,e7],I.hok b _ e2;exact#[b,kss[i],rfl,Ze hk,_,_,_,e5,e6,e7,by rw[List.toList_toArray];exact xg r2]
 have sz:its.toArray.size=Á:=by rw[Zk,hlen]
 have hw:∀i,∃b ks,i<Ç->its[i]?=some (.ref b)/\kss[i]?=some ks/\IsTupleKey Â s.heap ks b:=λi=>by
  by_cases c:i<Ç
  .exists[b,ks,e1,e2,e3],at' i _ (Ze c);exact#[b,ks,λ_=>#[by rw[Ze c,e1],e2,e3]]
  .exact#[0,[],λz=>absurd z c]
 exists[bs,hbs],Classical.axiomOfChoice hw;exists[kf,hkf],Classical.axiomOfChoice hbs;refine ST.call_set_tups (kf:=kf) (bs:=bs) (I.ok.hd hc) ∅ #[_,e,rfl,n,rfl] ∅ (λi v hv=>?_) (λj hj=>(hkf j (by rw[Zk]at hj;exact hj)).2.2) (λi j hi hj z=>?_) λs' hm=>?_
 .have hv':its[i]?=some v:=by simpa using hv
  have:=(hkf i (Zu.mp hv').1).1;rw[hv']at this;exact Zo this
 .rw[Zk]at hi hj;have h1:=(hkf i hi).2.1;have h2:=(hkf j hj).2.1;rw[z]at h1;exists[p1,e1],Zu.mp h1;exists[p2,e2],Zu.mp h2;exact(List.getElem_inj nd).mp (e1.trans e2.symm)
 .obtain⟨h',tk,rfl,⟨o,es,ep,t,f1,f2,f3,f4,f5,_⟩,kp⟩:=hm;refine#[.ref s.heap.objs.size,_,I.laid (t':=tk) (λb o e=>kp b o (Zq e) e) (Zi _) (sJ f1),rfl,q _ o (I.hok.fresh (Zi _)) #[f2,es,ep,t,f3,f4.fits,by rw[f5,sz]]]
theorem BQ:dR X Ä À:=by intro ON s Y H xs us Q I r h;obtain⟨a,o,n,rfl,ha,⟨hx,es,ep,t,hd,hf,rfl⟩,hn,q⟩:=h;exists[u,rfl,rx],dH r;cases rx;exact call_len_set (I.hok a _ ha).1 hx hd hf ∅ #[.int _,H,I.tok _,#[_,rfl],q]
theorem Jx(hc:È)(hu:Ã):QCall X Æ rSetT:=#[BT hc hu]
theorem Jv:QCall X Ä À:=#[BQ]
#check 0
end
open PySem PySem.Spec PyProof.Rows PySem.W
mutual
#check#[s1.heap.objs.size,(List.toArray [.ref l1,.int 0 0]),((List.toArray (katRev b ks)).zip (List.toArray (katRev b vs))),xs.length,vs.length,s.heap.objs.size,(katRev b (p.toList.map λi=>(katRev b xs).getD i .non)),(∀(i:Nat) (v:V) (key:ZKey) (H':Hp),xs[i]?=some v->ks[i]?=some key->Same H H'->∀R:VK,(∀kv H'',Same H' H''->key.at H'' kv->R kv H'')->sp [v] H' R E0),(Obj.mapSeq λ_=>(#[]:Array OE)),(λout=>KatFin h₀ L m kS a ks e e1 out (λs3=>P (.done (.ret .none)) s3)),(model prog w),(by simp),(List.toArray [.ref l2,.int 0 0]),(seqObj "tuple" vs.toArray 0),(ks.map ZKey.nums),(λi w k' h1 h2=>h (i+1) w k' h1 (by rw[show n+(i+1)=n+1+i by omega];exact h2)),(.Call (.Name "zip" p) [e1,e2] [] pos),(∀(i:Nat) (v:V) (k:ZKey),vs[i]?=some v->ks[n+i]?=some k->k.at H' v),(.Tuple elts kt tp),(λi v k h1 h2=>S.keys i v k h1 (by rw[Nat.zero_add]at h2;exact h2)),(X.env.qual++"<lambda>"),X.env.locals,s.heap.push,0,(seqObj "list" vs.toArray 0),(List.toArray [.none,.none]),(upd H2 D (.lst (p.toList.map λi=>xs.getD i .non))),(thn (ha.h pos ON s Y H0 _ I h) λus s1 hz9=>?_),(kS,seqObj "list" #[] 0),(D,seqObj "list" #[] e1),(Qa->Hp->OC->List V->Prop),(ic I hg hm PyProof.Rows.boot_sorted ?_),(λks e s'=>vD prog w A b ks vs É s'),ks.length,(PySem.Fin->OD->Prop),X.base,(λzz=>hx (by rw[Zh.mp zz];simp)),(ZG (show n<ks.length by omega)),(λs4=>EP X ON Y Q (.ref D) s4),(by rw[Nat.add_zero];exact hkn),(X.mg "zip" = none),s.heap,its.toArray,(Shared.heap #[hp,g,d,tk,os]),(List V),(base c hc),(go _ λi j C hi hj hC=>?_),(hr.mono ∅ |>.in1 |>.in1),X.prog,(Bool->OD->Prop),((katRev b Î).getD i []),((katRev b Î).getD j []),(Obj.mapSeq (·.push k)),(katRev b xs),(Heap->OC->Array OE->Prop),0,(.head _),(List ZKey),(seqObj "list" #[] 0),(F.args_zip_next_1 _),X.A.in1.in1,jts.toArray,(.ref D),(Jl SQ K a b xs ys),(X.mg "sorted" = none),its.length,X.K,(.Name "sorted" p),(Nat),(News h₀ L é news),X.A.in1.in1.units,X.A.in1,(List.toArray ks),(λx=>ksk_l1 _ _),(λx=>ksk_t1 f x),its.toArray.size,sb.extBut,(.lst Æ),(List.range Ä),(model ð X.w),(QA X [e1,e2] ta),(lt i j),(y,cy),(katRev b ks),(kas_item it),(kas_item Â),(Fr h₀ L é m),(String),zu.symm,(λv hv=>?_),(ksk_s1 _ _),X.env,(ks[n]'∅),(OB->OD->Prop),(ZKd c isS SQ),p.size,vs.toArray,(.head mW),(Ä<64),(X.calm=true),(QA X [e] ta),fs.length,ws.length,ys.length,rx.length,(À+1),(À+2),(À+3),(À+4),(.ref kS),(qs++[k]),X.mg,p.isList]
theorem xj{α:Type}{n:Ą}{lt:OL}{P:α->Prop}{cmp:Nat->Nat->ñ->OD->Prop}{Q:α->OD->Prop}{s:OD}(hc:∀i j C,i<n->j<n->C đ s->cmp i j C s)(hq:∀a,P a->Q a s):∀{t:KasT α},KIn n P t->t.kasWp cmp Q s
 |.ret _,h=>hq _ h
 |.ask i j c,⟨h1,h2,h3⟩=>hc _ _ _ h1 h2 (xj hc hq (t:=c đ) (h3 _))
def Js(prog:OF)(w:OG)(A:OH)(b:Bool)(ks vs:OB)(F:ĝ)(κ:SortKind)(s:OD):Prop :=
 ∃lt:OL,(∀i j (C:ñ),i<Ä->j<Ä->C đ s->kas_ask prog w A κ ē i j C s) /\
  ∀p:OK,POk Ä p->F (katRev b (p.toList.map λi=>(katRev b vs).getD i Value.none)) s
def vD(prog:OF)(w:OG)(A:OH)(b:Bool)(ks vs:OB)(F:ĝ)(s:OD):Prop :=
 (2<=Ä->wpAny Ê A (keyKind' Ĉ) (Js prog w A b ks vs F) (λ_ _=>False) s)/\(Ä<2->F (katRev b ((List.range Ä).map λi=>(katRev b vs).getD i Value.none)) s)
section
variable{prog:OF}{w:OG}{A:OH}{E:Oz}{s:OD}{κ:SortKind}{it:Array Keyed}{lt:OL}{N:Ą}
theorem Jh(Z:Zc prog w A s κ it lt N)(h2:2<=N)(h64:N<64){Q:Unit->SortSt->Prop}(h:∀(p:OK) (st':SortSt),POk N p->ğ=N->arrOf st'=p.map Ĕ->failedOf st'=none->Q () st') :
  wpS Ê A E s sortRuns' Q (SortSt.mk' κ ((List.toArray (List.range N)).map Ĕ) #[] 7 none) :=
 kas_runs (Q:=λu st' s'=>s'=s/\Q u st') (G:=λp s'=>s'=s/\POk N p) h2 h64 (λp st' _ hz ha hf g=>#[g.1,h p st' g.2 hz ha hf]) (xj (n:=N) (lt:=lt) Z (λ_ hp=>#[rfl,hp]) (EB ∅))
#check 0
section
variable{A:OH}{s:OD}{kS:OC}{news:Oy}{vs ks:OB}
theorem Lz{e e1:Ą}{P:â}(hl:á=Ä)(h64:Ģ)(h:vD prog w A b ks vs É s):
  wpAny Ê A (ksk_end a b Ġ e1 ĭ Ĉ) P E s:=by
 have hz:Ä<=4096:=∅
 have lr:(katRev b ks).length=(katRev b vs).length:=by rw[kat_len,kat_len,hl]
 have lv:(katRev b vs).length=Ä:=kat_len b vs;have step:∀t:Sem PySem.Fin,wpAny Ê A t P E s->wpAny Ê A (if b=true then(do let _ ←rule "list.sort.reverse";t)else t) P E s:=by
  intro t ht;split
  .exact z9 (YH ht)
  .exact ht
 unfold ksk_end;dsimp only;refine step _ ?_;have er:∀κ,SortSt.mk' κ Â #[] 7 none=SortSt.mk' κ ((List.toArray Ď).map ĕ) #[] 7 none:=λκ=>by have e:=kas_range Â;rw[show((List.toArray ē).zip (List.toArray (katRev b vs))).size=vs.length by simp[lr,lv]]at e;rw[e]
 rw[kat_pairs b hl];by_cases n2:vs.toArray.size<2
 .rw[Ox n2,Ox n2];have n2':Ä<2:=by simpa using n2
  refine z9 (Za ?_);rw[er,StateT.run_pure];refine z9 (Za ?_);dsimp only;exact Ag (kat_snds lr (p:=List.toArray Ď) rfl) (by simpa using hz) ∅ rfl (h.2 n2')
 rw[Ow n2,Ow n2];have n3:2<=Ä:=by rw[Zk]at n2;omega
 refine z9 (ZQ (h.1 n3) (λκ s0 hg=>?_) λ_ _ x=>x.elim);exists[lt,ask,fin],hg;have Z:Zc prog w A s0 κ Â lt Ä:=λi j C hi hj hC=>by have:=ask i j C hi hj hC;rw[kat_ask_eq lr]at this;exact this
 rw[er];refine z9 (ZQ (Jh (E:=E) (Q:=λ_ st'=>∃p:OK,POk Ä p/\ğ=Ä/\arrOf st'=p.map ĕ/\failedOf st'=none) Z n3 h64 λp st' a1 a3 a4 a5=>#[p,a1,a3,a4,a5]) ?_ λ_ _ x=>x);rintro⟨⟨⟩,st'⟩ s' ⟨rfl,p,a1,a3,a4,a5⟩;dsimp only;exact Ag (kat_snds lr a4) (by rw[Zd,ZM,a3];exact hz) ∅ a5 (fin p a1)
theorem Jg{e1:Ą}{P:â}(hq:s.heap.get? kS=some ú)(h64:Ģ)(h:KatKeys prog w A h₀ L m kS f à vs [] 0 s):
  wpAny Ê A (ksk_rest a f b Ġ e1 ĭ) P E s:=by
 have hz:Ä<=4096:=∅
 unfold ksk_rest;refine z9 (YH ?_);rw[<-Array.forIn_toList];refine z9 (ZQ (Af hz (λx qs e s' C hzz hx=>?_) vs [] 0 s Ë hq h) (λ_ s' hd=>?_) λ_ _ x=>x)
 .refine z9 (YZ (ZQ hx (λk s2 hkk=>?_) λ_ _ hF=>hF.elim));exists[nw,g,Fq,Nq,Uq,cq],hkk;exists[l1,l2,e0,hg,x1,x2],Uq.split;rw[e0]at Nq;have ak:=Nq (kS,seqObj "list" (List.toArray qs) e) (ZN _ ø);have s1:=ZZ s2.heap kS ô;have ea:(List.toArray qs).push k=List.toArray Į:=by simp
  obtain⟨c2,hc2⟩:∃z,(s2.heap.update kS ô).get? kS=some (seqObj "list" (List.toArray Į) z):=#[_,by rw[<-ea];exact get?_update_seq ak.1 (·.push k)]
  dsimp only;refine z9 (listUpdate_at ak.1 rfl (Za #[rfl,k,c2,hc2,cq _ c2 (kas_fr Fq s1 ak.2.1 ak.2.2) (by rw[hg];exact news_set Nq x1 x2 s1 hc2)]) (by rw[Zk];exact fV ∅) (Zs (Nat.le_of_eq (Array.size_push ..)) (by rw[Zk];exact Nat.le_succ_of_le (fV ∅))))
 .exists[qs,e,hq',hl,fin],hd;exact z9 (listItems_at hq' rfl (Lz hl h64 fin))
theorem FX{n:Ą}{P:â}(F:Ė)(N:ą)(ho:s.heap.get? a=some (seqObj "list" vs.toArray n))(haL:a≠L)(ha0:h₀.get? a=none)(hna:∀ p∈news,p.1≠a)(h64:Ģ)(h:∀ kS e1 h',Fr h₀ L h' m->News h₀ L h' (Ü::(a,seqObj "list" #[] e1)::news)->a<kS->(∀ q∈news,q.1<kS) ->
   KatKeys prog w A h₀ L m kS f à vs [] 0 { s with heap:=h' }):
  wpAny Ê A (ksk_tree a f b) P E s:=by
 have hz:Ä<=4096:=∅
 have la:a<Å:=Zq ho;have s1:=ZZ é a È;have F1:=kas_fr F s1 haL ha0;have N1:=kas_news N s1 hna;obtain⟨e1,ho1⟩:∃z,(s.heap.update a È).get? a=some (seqObj "list" #[] z):=#[_,get?_update_seq ho λ_=>#[]]
 have zk:((s.heap.update a È).push Í).objs.size=Å+1:=by rw[size_push',Heap.size_update]
 have lk:L<((s.heap.update a È).push Í).objs.size:=(F1.push _).ns.lt;unfold ksk_tree;refine z9 (listItems_at ho rfl (z9 (listUpdate_at ho rfl (z9 (seqEpoch_at ho1 rfl (z9 (wpAny_newTuple (z9 (wpAny_newList (ZJ ?_) (ZL _))) (fV hz))))) (by rw[Zk];exact fV hz) (ZL _))));refine Jg (s:={ s with heap:=((s.heap.update a È).push Í).push ú }) (kS:=((s.heap.update a È).push Í).objs.size)
  (Zl _ rfl) h64 (h _ e1 _ ((F1.push _).push _) (λp hp=>?_) (by rw[zk];exact Xe la) λq hq=>by rw[zk];exact Xe (Zq (N q hq).1))
 rcases Zg.mp hp with rfl|hp
 .exact#[Zl _ rfl,Yb lk,Heap.get?_none_of_le (Zs F.above (Nat.le_of_lt lk))]
 .rcases Zg.mp hp with rfl|hp
  .exact#[Zb _ (Zb _ ho1),haL,ha0]
  .exact#[Zb _ (Zb _ (N1 p hp).1),(N1 p hp).2]
theorem Jf{Q:Oz}(F:Ė)(N:ą)(h64:Ģ)(ha2:∀ x,argsOk "list.sort" #[[.ref x],kw])(ht:∀ x,Builtin.«list.sort» #[[.ref x],kw]=ksk_tree x f b)(h:∀ D kS e1 h',Fr h₀ L h' m->News h₀ L h' (Ü::Ý::news)->D<kS->(∀ q∈news,q.1<D) ->
   KatKeys prog w A.in1 h₀ L m kS f (λks e s'=>vD prog w A.in1 b ks vs (λout=>KatFin h₀ L m kS D ks e e1 out (λs4=>Q þ s4)) s') vs [] 0 { s with heap:=h' }):
  wpAny Ê A (do let l ←newList vs;let _ ←holding [l] (call (.builtin "list.sort") [l] kw);ret l) (λfin s'=>∃v,fin=.done (.ret v)/\Q v s') E s:=by
 have hz:Ä<=4096:=∅
 have hL:L<Å:=F.ns.lt;have hoL:(s.heap.push Ø).get? Å=some Ø:=Zl _ rfl;refine z9 (wpAny_newList ?_ (fV hz));refine z9 (ZJ (wpAny_call_entry_kw slot_list_sort #[_,hoL,rfl] entry_list_sort ?body (ha2 _)))
 case body =>
  show wpAny Ê A.in1 (Builtin.«list.sort» #[[.ref Å],kw]) _ _ _;rw[ht];refine FX (s:={ s with heap:=s.heap.push Ø }) (F.kept λb o q=>Zb _ q) (N.grown λb o q=>Zb _ q) hoL (Yb hL) (Heap.get?_none_of_le (Zs F.above (Nat.le_of_lt hL))) (λp hp=>Zz (Zq (N p hp).1)) h64 λkS e1 h' F' N' l0 l1=>?_;refine kat_keys_mono (h _ kS e1 h' F' N' l0 λq hq=>Zq (N q hq).1) λks e s' _ hd=>#[λn2=>ZQ (hd.1 n2) (λκ s2 hk=>?_) λ_ _ x=>x,λn2=>(hd.2 n2).mono λs4 hq=>#[_,rfl,Za #[_,rfl,hq]]]
  exists[lt,ask,fin],hk;exact#[lt,ask,λp a1=>(fin p a1).mono λs4 hq=>#[_,rfl,Za #[_,rfl,hq]]]
#check 0
section
theorem pZ{ks:ù}{Q:VK}(I:Inv X ON Y H s)(src:DY X s l xs)(h64:Ã<64)(hl:á=Ã)(hne:(∀k∈ks,∃ns,k=.t ns/\ns≠[])\/(BF ks/\Ć+64<cLine))(hs1:argsOk "sorted" #[[.ref l],kw])(hs2:∀x,argsOk "list.sort" #[[.ref x],kw])(hs3:∀x,Builtin.«list.sort» #[[.ref x],kw]=ksk_tree x (.ref f) b)(F:∀l,vC (wX X l) ON Y f sp)(spec:Ç)(q:∀(p:OK) (H2:Hp) (D:OC),POk Ã p->Same H H2->H2 D=none->Q þ (upd H2 D č)):
  wpAny ď X.A (call (.builtin "sorted") [.ref l] kw) (EP X ON Y Q) X.xe s:=by
 have hz:Ã<=4096:=∅
 refine call_function_entry_kw kind_sorted plain_sorted entry_sorted hs1 ?_;unfold Builtin.«sorted»;refine z9 (m:=checkCount "sorted" 1 1 _) (Za (z9 (src _ λh0 tk its kp rv=>?_)));have I0:Inv X ON Y H { s with heap:=h0,toks:=tk }:=I.kept (t':=tk) kp;exists[m,F0],I0.fr;have li:ā=Ã:=rv.length.symm;refine Jf (vs:=its) (b:=b) F0 (pV ã h0 Õ) ∅ hs2 hs3 λD kS e1 h1 F1 N1 hDk hD=>?_;have nD:=N1 Ý (.tail _ ø);have nK:=N1 Ü ø;have hds:h0.get? D=none:=by
  cases g:h0.get? D with
  |none=>rfl
  |some o=>exact absurd (hD (D,o) (jn g nD.2.1 nD.2.2)) (YE _)
 have hks:h0.get? kS=none:=by
  cases g:h0.get? kS with
  |none=>rfl
  |some o=>exact absurd (Nat.lt_trans hDk (hD (kS,o) (jn g nK.2.1 nK.2.2))) (YE _)
 have xk:=I0.exOk hks nK.2.1 nK.2.2;have xd:=I0.exOk hds nD.2.1 nD.2.2;have hlx:∀b∈[kS,D],ExOk X b:=λb' hb=>by
  simp only[Zg,ZB,Z9]at hb;rcases hb with rfl|rfl
  .exact xk
  .exact xd
 have fpk:=I0.fpW (l:=[kS,D]) Ë xk hks;have fpd:=I0.fpW (l:=[kS,D]) Ë xd hds;have mv0:∀b u,b≠Õ->b∉([]:List OC)->h0.get? b=some u->h1.get? b=some u:=λb u hL _ g=>by
  cases qb:X.base.get? b with
  |none=>exact(N1 (b,u) (.tail _ (.tail _ (jn g hL qb)))).1
  |some o =>have e':=I0.bk b o qb;rw[g]at e';cases e';exact F1.keep b u qb
 have I1:Inv X ON Y H { s with heap:=h1,toks:=tk }:=Inv.movedF (ch:=[]) (s:={ s with heap:=h0,toks:=tk }) (t':=tk) I0 (λb hb=>absurd hb Ë) mv0 #[m,F0.ns,F1.ns];have I2:=I1.widen hlx;have hkd:kS≠D:=Yb hDk;refine rO (X:=wX X [kS,D]) (H1:=H) (D:=D) (e1:=e1) (ks:=ks) (xs:=xs) (its:=its) hkd rv hl (F _) spec (λas us e2 H' s' S la=>?_) its [] [] 0 H { s with heap:=h1,toks:=tk } #[I2,Same.refl H,fpk,fpd,nK.2.2,nD.2.2,nK.1,nD.1,F1.ns,.nil,λi a k h=>by simp at h] Ë (by simpa using li);have hN:ā=Ã:=li;have lu:us.length=Ã:=by rw[<-S.vals.length,la]
 have rvR:Vals õ (katRev b its):=yo b rv;have lR:(katRev b xs).length=Ã:=kat_len b xs;have gk:∀i,i<Ã->∃(v:V) (u:OE) (k:ZKey),RelV v u/\(katRev b us).getD i Value.none=u/\k∈ks/\(katRev b Î).getD i []=k.nums/\k.at H' v:=λi hi=>by
  obtain⟨j,hj,e1⟩:∃j,j<Ã/\∀{α:Type} (l:List α),l.length=Ã->(katRev b l)[i]?=l[j]?:=by
   cases b with
   |false=>exact#[i,hi,λl _=>rfl]
   | true=>exact#[Ã - 1 - i,∅,λl hl'=>by
     show l.reverse[i]?=_;rw[List.getElem?_reverse ∅,hl']]
  have h1:as[j]?=some (as[j]'∅):=Ze ∅;have h2:ks[j]?=some (ks[j]'∅):=Ze ∅;exists[u,gu,ru],S.vals.get h1;refine#[_,u,_,ru,?_,ZG (show j<ks.length by omega),?_,S.keys j _ _ h1 h2]
  .rw[Yu,e1 us lu,gu];rfl
  .rw[Yu,e1 Î (by rw[Zd,hl]),Zy,h2];rfl
 have fin:∀p:OK,POk Ã p->ğ=Ã ->
   KatFin ã Õ m kS D us e2 e1 (katRev b (p.toList.map λi=>(katRev b its).getD i Value.none)) æ s':=λp hp hs=>by
  refine KatFin.intro (news:=(kS,seqObj "list" (List.toArray us) e2)::jA ã s'.heap Õ kS) S.fr (jR S.hk S.fk.2.1 S.bk) ġ λh3 c F3 N3=>?_;have mv3:=jQ (λb' o qb=>S.I.bk b' o qb) F3 N3;have hd3:h3.get? D=some (seqObj "list" #[] e1):=mv3 D _ S.fd.2.1 (λzz=>hkd (Zh.mp zz).symm) S.hd;refine KasFin.intro (news:=Ý::jA ã h3 Õ D) (s:={ s' with heap:=h3 }) F3 (jR hd3 S.fd.2.1 S.bd) ġ λh4 c4 F4 N4=>?_;have mv4:=jQ (λb' o qb=>F3.keep b' o qb) F4 N4;have hch:∀b∈[kS,D],bQ (wX X [kS,D]) ON H' b:=λb' hb=>by
   simp only[Zg,ZB,Z9]at hb;rcases hb with rfl|rfl
   .exact S.fk
   .exact S.fd
  have mv:∀b u,b≠Õ->b∉[kS,D]->s'.heap.get? b=some u->h4.get? b=some u:=λb' u hL hx g=>mv4 b' u hL ä (mv3 b' u hL ä g);have pl:∀i∈p.toList,i<Ã:=λi hi=>by have:=(hp.mem_iff).mp (YS.mp hi);simpa using this
  have vals:∀(w:List Nat),(∀i∈w,i<Ã)->Vals (w.map λi=>(katRev b xs).getD i .non) (w.map λi=>(katRev b its).getD i Value.none):=λw=>by
   induction w with
   |nil=>intro _;exact .nil
   |cons i w ih =>intro hw;have hi:=hw i Zn;have hx:õ[i]?=some (õ[i]'∅):=Ze ∅;exists[u,gu,ru],rvR.get hx;refine .cons ?_ (ih λj hj=>hw j (Zj _ hj));show RelV ((katRev b xs).getD i V.non) ((katRev b its).getD i Value.none);rw[Yu,Yu,hx,gu];exact ru
  have lp:p.toList.length=Ã:=by have:=hs;simpa using this
  have new:ObjOk ð X.w (upd H' D č) h4 D č:=#[by rw[kat_len,Zd,lp];exact fV ∅,_,c4,yo b (vals _ pl),(N4 _ ø).1]
  have I4:=Inv.tookF (X:=wX X [kS,D]) (ch:=[kS,D]) (a:=D) (o:=.lst Æ) (t':=s'.toks) S.I Ë hch mv #[m,S.ns,F4.ns] new;exact#[.ref D,_,I4.narrow I.ok (λb' hb=>(hlx b' hb).old),rfl,q p H' D hp S.sm S.fd.1]
 have go:∀κ:SortKind,(∀(i j:Ą) (C:ñ),i<Ã->j<Ã->C (HT.lexLt ò ó) s'->kas_ask ð X.w ü κ (katRev b us) i j C s') ->
   Js ð X.w ü b us its (λout=>KatFin ã Õ m kS D us e2 e1 out æ) κ s':=λκ hask=>by
  refine#[λi j=>HT.lexLt ò ó,?_,?_]
  .rw[hN];exact hask
  .rw[hN];exact λp hp=>fin p hp (by have:=hp.size_eq;simpa using this)
 refine#[λn2=>?_,λn2=>?_]
 rotate_left
 .have:=fin (List.toArray (List.range ā)) (by rw[hN];exact Array.Perm.refl _) (by simpa using hN);rw[List.toList_toArray]at this;exact this
 rcases hne with hB|⟨hP,hun⟩
 .have tups:∀(vs:ì) (ws:OB) (n:Ą),Vals vs ws->n+Ä=á->Ñ->∃fs:OB,KatTups s'.heap ws fs/\ĥ=Ħ/\∀v∈fs,∃i t,v=.int i t:=λvs=>by
   induction vs with
   |nil =>intro ws n hv _ _;cases hv;exact#[[],KatTups.nil,rfl,λv h=>nomatch h]
   |cons v vs ih =>
    intro ws n hv hl' h;cases hv with
    |cons rv1 hv =>
     rw[Zm]at hl';have hkn:ks[n]?=some Ĝ:=Ze ∅;exists[ns,en,ne],hB _ å;rw[en]at hkn;exists[a,rfl,ea],h 0 v _ rfl ç;cases rv1;exists[ia,ra,pa,za],S.I.tuple (OP (K:=Ă) ea);exists[oa,eo,ca,n1,da],id pa;obtain⟨x,t,ia',rfl⟩:∃x t r,ia=.int x t::r:=by
      cases dM ra with
      |nil=>exact absurd rfl ne
      |cons x t r=>exact#[x,t,_,rfl]
     exists[fs,f1,f2,f3],ih _ (n+1) hv ∅ Ï;refine#[.int x t::fs,KatTups.cons eo ca da rfl f1,by rw[Zm,Zm,f2],λv hv=>?_];rcases Zg.mp hv with rfl|hv
     .exact#[_,_,rfl]
     .exact f3 v hv
  exists[fs,t1,t2,t3],tups as us 0 S.vals ∅ Ó;refine kat_kind (T:=.type "int") t1 ∅ ę rfl î
  .exists[i,t,rfl],t3 v hv;exact .now
  .exists[v,u,k1,ru,eu,m1,en,at1],gk i hi;exists[v2,u2,k2,ru2,eu2,m2,en2,at2],gk j hj;exists[n1,rfl,_],hB _ m1;exists[n2,rfl,_],hB _ m2;exists[a1,rfl,ha1],at1;exists[a2,rfl,ha2],at2;cases ru;cases ru2;exists[ia,ra,pa,za],S.I.tuple (OP (K:=Ă) ha1);exists[ib,rb,pb,zb],S.I.tuple (OP (K:=Ă) ha2);exists[oa,eoa,ca,q1,da],id pa;exists[ob,eob,cb,q2,db],id pb;unfold kas_ask;rw[eu,eu2];rw[en,en2]at hC;exact kat_lt eoa da eob db (yB _ _ _ _ 0 (dM ra) (dM rb) (by rw[Zk,Zk,<-ra.length,<-rb.length,Zd,Zd]) hC)
 .have tups:∀(vs:ì) (ws:OB) (n:Ą),Vals vs ws->n+Ä=á->Ñ->∃fs:OB,KatTups s'.heap ws fs/\ĥ=Ħ/\∀v∈fs,∃(a:OC) (o:Obj),v=.ref a/\s'.heap.get? a=some o/\o.cls=.type "tuple":=λvs=>by
   induction vs with
   |nil =>intro ws n hv _ _;cases hv;exact#[[],KatTups.nil,rfl,λv h=>nomatch h]
   |cons v vs ih =>
    intro ws n hv hl' h;cases hv with
    |cons rv1 hv =>
     rw[Zm]at hl';have hkn:ks[n]?=some Ĝ:=Ze ∅;exists[ps,ns,en],hP _ å;rw[en]at hkn;exists[a,b,c,rfl,ea,eb,ec],h 0 v _ rfl ç;cases rv1;exists[ia,ra,pa,za],S.I.tuple (OP (K:=Ă) ea);exists[oa,eo,ca,n1,da],id pa;exists[ib,rb,pb,zb],S.I.tuple (OP (K:=Ă) eb);exists[ob,eob,cb,n2,db],id pb;exists[u1,u2,rfl,r1,r2],pJ ra;cases r1;exists[fs,f1,f2,f3],ih _ (n+1) hv ∅ Ï;refine#[.ref b::fs,KatTups.cons eo ca da rfl f1,by rw[Zm,Zm,f2],λv hv=>?_];rcases Zg.mp hv with rfl|hv
     .exact#[b,ob,rfl,eob,cb]
     .exact f3 v hv
  exists[fs,t1,t2,t3],tups as us 0 S.vals ∅ Ó;refine kat_kind (T:=.type "tuple") t1 ∅ ę rfl î
  .exists[a,o,rfl,ho,hc'],t3 v hv;rw[<-hc'];exact(Looks.ld ho).andThen .now
  .exists[v,u,k1,ru,eu,m1,en,at1],gk i hi;exists[v2,u2,k2,ru2,eu2,m2,en2,at2],gk j hj;exists[p1,n1,rfl],hP _ m1;exists[p2,n2,rfl],hP _ m2;exists[a1,b1,c1,rfl,ha1,hb1,hc1],at1;exists[a2,b2,c2,rfl,ha2,hb2,hc2],at2;cases ru;cases ru2;exists[ia,ra,pa,za],S.I.tuple (OP (K:=Ă) ha1);exists[ib,rb,pb,zb],S.I.tuple (OP (K:=Ă) ha2);exists[oa,eoa,ca,q1,da],id pa;exists[ob,eob,cb,q2,db],id pb;exists[u1,u2,rfl,r1,r2],pJ ra;cases r1;cases r2;exists[u1,u2,rfl,r1,r2],pJ rb;cases r1;cases r2;exists[ix,rx,px,zx],S.I.tuple (OP (K:=Ă) hb1);exists[iy,ry,py,zy],S.I.tuple (OP (K:=Ă) hb2);exists[jx,sx,qx,yx],S.I.tuple (OP (K:=Ă) hc1);exists[jy,sy,qy,yy],S.I.tuple (OP (K:=Ă) hc2);unfold kas_ask;rw[eu,eu2];rw[en,en2]at hC;have hu0:Ć<cLine:=∅
   exact kat_lt eoa da eob db (yC (yZ S.I hun hb1 hb2) (yZ S.I hun hc1 hc2) (λR hR=>HT.lt_tupInts px py (dM rx) (dM ry) hu0 hR) (λR hR=>HT.lt_tupInts qx qy (dM sx) (dM sy) hu0 hR) rfl hC)
#check 0
def IU(sp:Sp)(H:Hp)(xs:ì)(Q:VK):Prop :=
 Ã<64/\∃ks:List ZKey,á=Ã/\BF ks /\
 Ç /\
 ∀(p:OK) (H2:Hp) (D:OC),POk Ã p->Same H H2->H2 D=none->Q þ Ú
def IV(P:OC)(q:Str)(lpos:Pos)(j:Ą)(sp:V->Sp)(ta:TA):TE:=λY H0 Q=>ta Y H0 λvs H=>∃(l:OC) (kvs:List (List Key×V)) (kv:V),vs=[.ref l]/\Y[j]?=some (some kv)/\H l=some (.dT kvs)/\bZ q P lpos H/\∀ks H2,SameT P H H2->bZ q P lpos H2->cY H2 kvs ks->IU (sp kv) H2 ks Q
section
variable{X:Cx}
theorem Fe{k j:Ą}(hc:ģ)(hm:Ā)(hcode:X.env.code=.ref c)(C:CodeHd ã c P)(B:Blt ã į)(F:LamOkX ð X.w Ă į ã k Ô body scope x y sp)(hr:Room (k+3) X.A)(ha:Ĥ)(hj:X.N[j]?=some y)(hyc:X.env.scope.names.lookup y=some .cell)(hcy:X.env.cells.lookup y=some cy)(hcl:closureFor scope ě=pure [Ē])(hbd:∀(pm ct:OE) (c':OC) (s:OD) (u:OE),BindsTo s (AL Ô params body scope [Ē] pm c' ct) #[[u],[]] [(x,u)]:=by intros;exact .of_eq rfl)(hge:X.env.globals=mainGlobals:=by rfl)(hdef:defaultsOf params ě=([],[]):=by rfl)(hg:Gl X "sorted":=by rfl)(hn:aS e=true:=by rfl):
  QE X (.Call ă [e] [#[some "key",.Lambda params body scope lpos,kpos]] pos) (IV P Ô lpos j sp ta):=by
 refine#[?_];intro ON s Y H0 Q I h;refine Y8 ß;have h1:=aV (es:=[]) (env:=ě) hn;refine PyProof.Rows.callWith_kw Û (he:=by rw[h1];rfl) (hplain:=by rw[h1];rfl) (hall:=rfl) (hkw:=rfl);exists[vs,H1,I1,r1,q1],hz9;exists[l,kvs,kv,rfl,hY,hH,tab,q],q1;exists[u,rfl,ru],dH r1;cases ru;have hk:PK X [#[some "key",.Lambda params body scope lpos,kpos]] (gC (Bu [Ē] X P params body scope lpos) gN):=zD (Ij hcode hge C B hdef hcl) Db;refine thn (hk pos ON s1 Y H1 (λzs H2=>∃f,zs=[.ref f]/\yP X P Ô lpos params body scope [Ē] H1 f H2) I1 (ED tab λf H2 mk=>#[f,rfl,mk])) λws s2 hz9=>?_;exists[zs,H2,I2,rz,f,e1,mk],hz9;subst e1;exists[u,rfl,ru],dH rz;cases ru;exists[c',ct,sT,lt,hf,hc',nf,nc],mk;have hr2:Room (k+1) ü:=ï
 have F1:=EF (X:=X) (ON:=ON) (Y:=Y) (sp:=sp kv) (params:=params) (f:=f) (c:=cy) (c':=c') (pm:=(į "__name__").getD .none) (ct:=ct) F.sc hj hY hyc hcy hr2 (hbd _ _ _) λA outer s H v Q hr' hs=>let⟨t,t1,t2⟩:=F.ex f c' cy kv A outer s H v Q hr' hs;#[t,t1.h,t2]
 exists[ps0,tP,_],id tab;have hlP:l≠P:=λz=>by rw[z,tP]at hH;cases hH
 have hH2:=sT _ _ hH hlP;exists[ks,kat,src],DC hc I2 (Rd.of hH2);exists[hz,zs,hl,hal,spec,q],q ks H2 sT lt kat;exact pZ (b:=false) I2 src hz hl (.inr #[hal,hr2.units]) Ě ĉ Ċ F1 (λi v key H' g1 g2 g3 R hR=>#[g3 _ _ hf,g3 _ _ hc',spec i v key H' g1 g2 g3 R hR]) q
#check 0
def Ji(ks:ù):Prop:=False\/∀k∈ks,∃ns,k=.t ns/\ns≠[]
def Lq(sp:Hp->List V->Hp->VK->Prop)(sm:Hp->Hp->Prop)(end':Hp->Prop)(H:Hp)(xs:ì)(ks:ù)(Q:VK):Prop :=
 Ã<64/\á=Ã/\Ji ks /\
 (∀(i:Ą) (v:V) (key:ZKey) (H':Hp),xs[i]?=some v->ks[i]?=some key->sm H H'->∀R:VK,(∀kv H'',Same H' H''->key.at H'' kv->R kv H'')->sp H' [v] H' R) /\
 ∀(p:OK) (H2:Hp) (D:OC),POk Ã p->sm H H2->end' H2->H2 D=none->Q þ Ú
def IW(sp:Sp)(ta:TA):TE:=λY H0 Q=>ta Y H0 λvs H=>∃(l:OC) (xs:ì) (ks:ù),vs=[.ref l]/\H l=some (.lst xs)/\Lq (λ_ vs H Q=>sp vs H Q E0) Same (λ_=>True) H xs ks Q
section
variable{X:Cx}
theorem Ff{k:Ą}(hc:ģ)(hm:Ā)(F:Fn ð X.w Ă į ã k fx [x] sp)(hr:Room (k+2) X.A)(ha:Ĥ)(hg:Gl X "sorted":=by rfl)(hgf:Gl X fx:=by rfl)(hn:aS e=true:=by rfl)(hdb:(fx==("__debug__":Str))=false:=by decide):QE X (.Call ă [e] [#[some "key",.Name fx fp,kpos]] pos) (IW sp ta):=by
 refine#[?_];intro ON s Y H0 Q I h;exists[f,fd,F1,m1,kp,bn],F.ex;refine Y8 ß;have h1:=aV (es:=[]) (env:=ě) hn;refine PyProof.Rows.callWith_kw Û (he:=by rw[h1];rfl) (hplain:=by rw[h1];rfl) (hall:=rfl) (hkw:=rfl);exists[vs,H1,I1,r1,q1],hz9;exists[l,xs,ks,rfl,hH,h64,hl,hne,spec,q],q1;have hz:Ã<=4096:=∅
 exists[u,rfl,ru],dH r1;cases ru;have hk:PK X [#[some "key",.Name fx fp,kpos]] (gC (tC (.ref f)) gN):=zD (sW hgf m1 rfl hdb) Db;refine thn (hk pos ON s1 Y H1 (λzs H2=>zs=[.ref f]/\H2=H1) I1 #[rfl,rfl]) λws s2 hz9=>?_;exists[zs,H2,I2,rz,e1,h2e],hz9;subst e1 h2e;exists[u,rfl,ru],dH rz;cases ru;exact pZ (b:=false) I2 (DD I2 hH hz) h64 hl (.inl (hne.elim False.elim id)) Ě ĉ Ċ (IK F1 (λs u kin=>bn s [u] kin rfl) ï) spec λp H3 D a1 a3 a4=>q p H3 D a1 a3 trivial a4
#check 0
abbrev vM(c:ė)(h:Heap)(it t:OC)(i:Ą):Prop:=∃o,h.get? it=some o/\o.cls=.type c/\o.data=.fields (List.toArray [.ref t,.int i 0])
theorem Cr{it t d:OC}{i:Ą}(x:vM c h it t i)(e:h.ExtBut d h')(n:it≠d):vM c h' it t i:=let⟨o,eo,r⟩:=x;#[o,e _ _ n eo,r]
def Aq(c:ė)(isS:ö):Prop:=∀ (l1 l2:OC) (xs ys:Array OE),Meets (Builtin.«zip.__new__» #[[.type "zip",.ref l1,.ref l2],[]]) (λ_ R s=>isS é l1 xs/\isS é l2 ys /\
   R (.ok (.ret (.ref ((((Ö { cls:=.type c,data:=.fields Á }).push { cls:=.type c,data:=.fields Ì }).push { cls:=.type "tuple",data:=.seq (List.toArray [.ref Å,.ref (Ö { cls:=.type c,data:=.fields Á }).objs.size]) }).push { cls:=.type "tuple",data:=.seq Ù }).objs.size)))
    { s with heap:=((((Ö { cls:=.type c,data:=.fields Á }).push { cls:=.type c,data:=.fields Ì }).push { cls:=.type "tuple",data:=.seq (List.toArray [.ref Å,.ref (Ö { cls:=.type c,data:=.fields Á }).objs.size]) }).push { cls:=.type "tuple",data:=.seq Ù }).push { cls:=.type "zip",data:=.fields (List.toArray [.none,.bool false,.bool false,.ref ((Ö { cls:=.type c,data:=.fields Á }).push { cls:=.type c,data:=.fields Ì }).objs.size,.ref (((Ö { cls:=.type c,data:=.fields Á }).push { cls:=.type c,data:=.fields Ì }).push { cls:=.type "tuple",data:=.seq (List.toArray [.ref Å,.ref (Ö { cls:=.type c,data:=.fields Á }).objs.size]) }).objs.size]) } })
structure ZKd(c:ė)(isS:ö)(SQ:Þ):Prop where
 inv:∀{X:Cx} {ON:Oy} {Y:St} {H:Hp} {s:OD} {a:OC} {xs:ì},Inv X ON Y H s->SQ Ă H a xs->∃its:OB,Vals xs its/\isS é a ê/\a<Å
 dr:∀{prog:OF} {w:OG} {A:OH},A.handled=none->∀(it t:OC),t≠it->∀xs:Array OE,Draws prog w A it [it,t] xs.size (λi v=>xs[i]?=some v) (λi h=>vM c h it t i/\isS h t xs)
 mt:Aq c isS
abbrev Jl(SQ:Þ)(K:Qa)(a b:OC)(xs ys:ì):It :=
 #[λi H=>i<Ã/\SQ K H a xs/\SQ K H b ys,λi H x H'=>∃T p q,H T=none/\xs[i]?=some p/\ys[i]?=some q/\x=.ref T/\H'=upd H T (.tup [p,q]),λi H=>i=Ã/\SQ K H a xs/\SQ K H b ys]
abbrev Ly(c:ė)(z u v i1 i2 a b:OC):Nat->Heap->Prop:=λi h=>IsZip h z u v .none/\IsPair h u (.ref i1) (.ref i2)/\(∃p q,IsPair h v p q)/\vM c h i1 a i/\vM c h i2 b i
theorem DO(Z:Ğ){K:Qa}{kt:Ą}{xs ys:ì}(hl:Ã=ħ)(D:[z,u,v,i1,i2].Nodup)(ha:∀c∈[z,u,v,i1,i2],c≠a/\c≠b):
  Turn P w K Ò ÿ [z,u,v,i1,i2] z (Ly c z u v i1 i2 a b):=by
 have nd:(z≠u/\z≠v/\z≠i1/\z≠i2)/\(u≠v/\u≠i1/\u≠i2)/\(v≠i1/\v≠i2)/\i1≠i2:=by simpa using D
 obtain⟨⟨zu,zv,z1,z2⟩,⟨uv,u1,u2⟩,⟨v1,v2⟩,i12⟩:=nd;have az:=ha z Ë;have av:=ha v Ë;have a1:=ha i1 Ë;have a2:=ha i2 Ë;have ap:ZAp z u v i1 i2 [i1,a] [i2,b]:=#[Ę,zv.symm,uv,u1,u2,v1,v2,z1.symm,z2.symm,i12,by simp[z1,az.1],by simp[z2,az.2],by simp[v1,av.1],by simp[v2,av.2],by simp[i12.symm,a2.1],by simp[i12,a1.2]]
 refine#[by simp,λi h st c hc=>?_,λi h h' st k=>?_,?_,?_,λA i s Q E st h=>wpAny_pyIter_zip st.1 h]
 .obtain⟨e1,e2,⟨p,q,e3⟩,⟨o4,e4,_,d4⟩,⟨o5,e5,_,d5⟩⟩:=st;simp only[Zg,ZB,Z9]at hc;rcases hc with rfl|rfl|rfl|rfl|rfl
  .exact#[_,e1,λv z=>nomatch z]
  .exact#[_,e2,λv z=>nomatch z]
  .exact#[_,e3,λv z=>nomatch z]
  .exact#[_,e4,λv z=>by rw[d4]at z;cases z]
  .exact#[_,e5,λv z=>by rw[d5]at z;cases z]
 .obtain⟨e1,e2,⟨p,q,e3⟩,⟨o4,e4,r4⟩,⟨o5,e5,r5⟩⟩:=st;exact#[k z Ë _ e1,k u Ë _ e2,#[p,q,k v Ë _ e3],#[o4,k i1 Ë _ e4,r4],#[o5,k i2 Ë _ e5,r5]]
 .intro X hP hw hK hc i ON s Y H E I hf st hg;subst hP hw hK;obtain⟨e1,e2,⟨p,q,e3⟩,e4,e5⟩:=st;exists[hi,hx,hy],hg;exists[its,rx,px,_],Z.inv I hx;exists[jts,ry,py,_],Z.inv I hy;have lx:i<ċ:=by rw[Zk,<-Ĩ];exact hi
  have ly:i<jts.toArray.size:=by rw[Zk,<-ry.length,<-hl];exact hi
  have hh:=I.ok.hd hc;have hT:s.TypeIs (.ref z) "zip":=#[_,e1,rfl]
  unfold pyNext;refine z9 (YZ (ZU (name:=Str.ofString "__next__") hT F.slot_zip_next (Z0 F.slot_zip_next hT F.entry_zip_next
   (FW (Z.dr (A:=ć) hh i1 a a1.1.symm ê) (Z.dr (A:=ć) hh i2 b a2.2.symm ý) ap e1 e2 e3 #[e4,px] #[e5,py] lx ly λh' tk x y qx qy zz vv s1 s2 pp kp=>Za ?_) û)))
  refine#[_,rfl,wpAny_letOwnedTupleGo_zip (s:={ s with heap:=h',toks:=tk }) zz λh2 z2' sb=>?_];obtain⟨xv,ex⟩:∃xv,xs[i]?=some xv:=#[xs[i],by simp[hi]]
  obtain⟨yv,ey⟩:∃yv,ys[i]?=some yv:=#[ys[i]'∅,by simp[show i<ys.length by omega]]
  exists[x',gx,rxv],rx.get ex;exists[y',gy,ryv],ry.get ey;have qx':its[i]?=some x:=by simpa using qx
  have qy':jts[i]?=some y:=by simpa using qy
  rw[gx]at qx';rw[gy]at qy';cases qx';cases qy';have ltz:z<Å:=Zq e1;have kp2:∀c o,c∉[z,u,v,i1,i2]->s.heap.get? c=some o->h2.get? c=some o:=λc o hc e=>by simp only[Zg,ZB,Z9,not_or]at hc;exact Č c o hc.1 (kp c o hc.1 hc.2.2.1 hc.2.2.2.1 hc.2.2.2.2 e)
  have tT:IsTup h2 Å [x,y].toArray:=#[_,sb.extBut _ _ (Yb ltz) pp,rfl,_,rfl]
  refine#[.ref Å,upd H Å (.tup [xv,yv]),I.turnT (t':=tk) hf kp2 tT (.cons rxv (.cons ryv .nil)) (sz rfl),rfl,#[_,xv,yv,I.hok.fresh (Zi _),ex,ey,rfl,rfl],?_,λc hc=>?_]
  .exact#[z2',sb.extBut _ _ Ę (kp _ _ Ę uv u1 u2 e2),#[_,_,sb.extBut _ _ zv.symm vv],Cr s1.1 Č z1.symm,Cr s2.1 Č z2.symm]
  .rw[af]
   .exact(hf c hc).1
   .obtain⟨o,eo,_⟩:∃o,s.heap.get? c=some o/\True:=by
     simp only[Zg,ZB,Z9]at hc;rcases hc with rfl|rfl|rfl|rfl|rfl
     .exact#[_,e1,trivial]
     .exact#[_,e2,trivial]
     .exact#[_,e3,trivial]
     .exists[o,eo,_],e4;exact#[o,eo,trivial]
     .exists[o,eo,_],e5;exact#[o,eo,trivial]
    exact Zz (Zq eo)
 .intro X hP hw hK hc i ON s Y H E I hf st hg;subst hP hw hK;obtain⟨e1,e2,⟨p,q,e3⟩,e4,e5⟩:=st;exists[rfl,hx,hy],hg;exists[its,rx,px,_],Z.inv I hx;exists[jts,ry,py,_],Z.inv I hy;have lx:ċ=Ã:=by rw[Zk,<-Ĩ]
  have hh:=I.ok.hd hc;have hT:s.TypeIs (.ref z) "zip":=#[_,e1,rfl]
  unfold pyNext;refine z9 (YZ (ZU (name:=Str.ofString "__next__") hT F.slot_zip_next (Z0 F.slot_zip_next hT F.entry_zip_next
   (Je (Z.dr (A:=ć) hh i1 a a1.1.symm ê) (Z.dr (A:=ć) hh i2 b a2.2.symm ý) ap e1 e2 e3 #[by rw[lx];exact e4,px] λh' e kp he=>?_) û)))
  exists[o,ho,hco],he;refine z9 (wpAny_isInstance (T:="StopIteration") (b:=true) #[o,ho,hco] isSubtype_stop (Za #[rfl,?_]));exact I.turnM (t':=s.toks) hf λc ob hc e=>by simp only[Zg,ZB,Z9,not_or]at hc;exact kp c ob hc.1 hc.2.2.1 hc.2.2.2.1 hc.2.2.2.2 e
theorem HJ:Aq "tuple_iterator" Heap.IsTuple:=λl1 l2 xs ys =>
 .of_wp λprog w A R s h=>by
  exists[hp,g,d,tk,os],s;exists[t1,t2,h],h;have hsub:=sub_zip;have T1:Heap.IsTuple ë l1 xs:=t1;have T2:Heap.IsTuple (Shared.heap #[hp.push { cls:=.type "tuple_iterator",data:=.fields Á },g,d,tk,os]) l2 ys:=Heap.IsTuple.push t2 _
  wp_walk using wpAny_pyIter_tuple T1,wpAny_pyIter_tuple T2
  exact#[_,rfl,h]
theorem HI:Aq "list_iterator" Heap.IsList:=λl1 l2 xs ys =>
 .of_wp λprog w A R s h=>by
  exists[hp,g,d,tk,os],s;exists[t1,t2,h],h;have hsub:=sub_zip;have T1:Heap.IsList ë l1 xs:=t1;have T2:Heap.IsList (Shared.heap #[hp.push { cls:=.type "list_iterator",data:=.fields Á },g,d,tk,os]) l2 ys:=Heap.IsList.push t2 _
  wp_walk using wpAny_pyIter_list T1,wpAny_pyIter_list T2
  exact#[_,rfl,h]
theorem MP:ZKd "tuple_iterator" Heap.IsTuple SqT:=#[λI h=>let⟨its,r,p,_⟩:=I.tuple h;#[its,r,p,p.lt],λhh it t n xs=>yz hh it t n xs,HJ]
theorem MO:ZKd "list_iterator" Heap.IsList SqL:=#[λI h=>let⟨its,r,p,_⟩:=I.list h;#[its,r,İ,let⟨_,e,_⟩:=İ;Zq e],λhh it t n xs=>Draws.list hh it t n xs,HI]
abbrev LN(SQ:Þ)(K:Qa)(ta:TA):TI:=λY H R=>ta Y H λvs H1=>∃a b xs ys,vs=[.ref a,.ref b]/\SQ K H1 a xs/\SQ K H1 b ys/\Ã=ħ/\R ÿ H1
section
variable{X:Cx}
theorem zC(Z:Ğ){kt:Ą}(hg:Gl X "zip")(hm:è)(ha:PA X [e1,e2] ta)(n1:aS e1=true)(n2:aS e2=true):PI X Ò Ð (LN SQ Ă ta):=by
 intro ON s Y H R I h;refine Call_ (ic I hg hm boot_zip (YI (thn (ha pos ON s Y H _ I h) λus s1 hz9=>?_) (aV n1) (bP (by simp[n2]))));exists[vs,H1,I1,r1,q1],hz9;exists[a,b,xs,ys,e,hx,hy,hl,q],q1;subst e;exists[ua,ub,rfl,ra,rb],pJ r1;cases ra;cases rb;exists[its,rx,px,zx],Z.inv I1 hx;exists[jts,ry,py,zy],Z.inv I1 hy;refine callType_new F.called_zip ⋯ (F.typeCall_zip_2 _ _) (F.newCall_zip_2 _ _) (λobj=>F.args_object_init_3 obj _ _) F.entry_zip_new (Z.mt a b ê ý) #[px,py,?_];generalize ea:({ cls:=.type c,data:=.fields (List.toArray [.ref a,.int 0 0]) }:Obj)=oa;generalize eb:({ cls:=.type c,data:=.fields (List.toArray [.ref b,.int 0 0]) }:Obj)=ob;have z1:(s1.heap.push oa).objs.size=À+1:=Y3 ..;have z2:((s1.heap.push oa).push ob).objs.size=À+2:=by rw[Y3,z1]
 rw[z2,z1];generalize eu:({ cls:=.type "tuple",data:=.seq (List.toArray [.ref À,.ref ĩ]) }:Obj)=ou;have z3:(((s1.heap.push oa).push ob).push ou).objs.size=À+3:=by rw[Y3,z2]
 generalize ev:({ cls:=.type "tuple",data:=.seq Ù }:Obj)=ov;have z4:((((s1.heap.push oa).push ob).push ou).push ov).objs.size=À+4:=by rw[Y3,z3]
 rw[z4,z3];generalize ez:({ cls:=.type "zip",data:=.fields (List.toArray [.none,.bool false,.bool false,.ref Ī,.ref ī]) }:Obj)=oz;have g5:(((((s1.heap.push oa).push ob).push ou).push ov).push oz).get? Ĭ=some oz:=by rw[<-z4];exact Zl _ (by rw[<-ez];rfl)
 have g4:(((((s1.heap.push oa).push ob).push ou).push ov).push oz).get? ī=some ov:=by rw[<-z3];exact Zb _ (Zl _ (by rw[<-ev];rfl))
 have g3:(((((s1.heap.push oa).push ob).push ou).push ov).push oz).get? Ī=some ou:=by rw[<-z2];exact Zb _ (Zb _ (Zl _ (by rw[<-eu];rfl)))
 have g2:(((((s1.heap.push oa).push ob).push ou).push ov).push oz).get? ĩ=some ob:=by rw[<-z1];exact Zb _ (Zb _ (Zb _ (Zl _ (by rw[<-eb];rfl))))
 have g1:(((((s1.heap.push oa).push ob).push ou).push ov).push oz).get? À=some oa:=Zb _ (Zb _ (Zb _ (Zb _ (Zl _ (by rw[<-ea];rfl)))));have kp:∀c o,s1.heap.get? c=some o->(((((s1.heap.push oa).push ob).push ou).push ov).push oz).get? c=some o:=λc o e=>Zb _ (Zb _ (Zb _ (Zb _ (Zb _ e))));generalize((((s1.heap.push oa).push ob).push ou).push ov).push oz=hN at g1 g2 g3 g4 g5 kp ⊢;have I2:Inv X ON Y H1 { s1 with heap:=hN }:=I1.kept (t':=s1.toks) kp;have la:a<À:=zx;have lb:b<À:=zy;subst ea eb eu ev ez;have base:∀c∈[À+4,À+2,À+3,À,À+1],À<=c:=λc hc=>by simp only[Zg,ZB,Z9]at hc;omega
 refine#[#[_,g5,rfl],?_];show wpAny ď X.A (pyIter (.ref Ĭ)) (PIE X ON Y Ò R) X.xe { s1 with heap:=hN };refine wpAny_pyIter_zip g5 ?_;refine#[À+4,[À+4,À+2,À+3,À,À+1],Ly c Ĭ Ī ī À ĩ a b,_,H1,rfl,I2,
  DO Z hl ?_ (λc hc=>#[Yb (ZD la í),Yb (ZD lb í)]),#[g5,g3,#[_,_,g4],#[_,g1,rfl,rfl],#[_,g2,rfl,rfl]],λc hc=>?_,q]
 .exact J8 À
 .exact I1.fpOk í (I1.hok.fresh í)
theorem zl{kt:Ą}(hm:è)(ha:Đ)(hg:Gl X "zip":=by rfl)(n1:aS e1=true:=by rfl)(n2:aS e2=true:=by rfl):QI X Ò Ð (MK Ă ta):=#[zC MP hg hm ha.h n1 n2]
theorem lJ{kt:Ą}(hm:è)(ha:Đ)(hg:Gl X "zip":=by rfl)(n1:aS e1=true:=by rfl)(n2:aS e2=true:=by rfl):QI X Ò Ð (LO Ă ta):=#[zC MO hg hm ha.h n1 n2]
#check 0
end
end Lake
set_option maxRecDepth 100000
set_option maxHeartbeats 4000000
namespace Lake.K39
open PySem Lake
open PyProof.Rows (envOfC)
open PySem.W (envX CodeHd)
mutual
#check#[(PlainAt C H p d g kvs gvs),(some (if(0:Int)>a then 0 else a)),(aT (t_w (fg (aE bO (am ao ↑1 ai) ar) (eO (dS (dC a9 ↑99 ↑0 (q_a (am ao ↑1 ai) (q_a (am ao ↑1 ai) ah))))))) (b_1 (pH (im eG) rfl x_Beneath j5 (q_a ar ah))) b_0),(vix rfl (OP hst) at0 #[rfl,_,rfl,aL ⋯ (aC ?_)]),(.dT (bj kvs (nk n) (.ref t))),(Prt H ol ws ps bs is ns),(cg hr.units (cH ↑0) ↑1),(upd (upd (upd H1 ea (exN ea cN t none)) d (.xd [("name",v)])) ea (exN ea cN t (some d))),(∀i Y H,i<=xs.length->Pv i Y H->SqL K H a xs),(nk n),(OP hst),(List Bool),(Rows H kvs ol),(List Str),(vix rfl Ê at0 #[rfl,_,rfl,cU ?_]),(∀(j:Nat) (w':Str),j<i->ws[j]?=some w'->isI w'->bs[j]?=some true),(↑MFn 1 C "change" ["self","name","first","values"] (spChange C)),(∀Y H,Pv xs.length Y H->D.nx Y H),(OlAt C H p d g ol),(Same H H'),hr.units,(upd H4 l (.lst ks)),(cH ↑0),0,(H st=some (.tup (.str w::ps))),(mg "TEXT" = some (.int 2 tk)),(vs=[.ref p,.ref st]),(∀σ' H',N σ' H'->∃m',m'<m/\W (i+1) m' σ' H'),(zl i9 (q_a ↑2 (q_a (eE dN ↑1 (dW ai) eV) ah))),(Rws R kvs ol),(vix rfl Ê at0 #[rfl,_,rfl,aL ⋯ (aC (q3 hr'))]),(top 19),ol.length,(.tup [up,pl,tx,.bl false,.non,.bl false]),(∀σ' H',Pv (i+1) σ' H'->D'.nx σ' H'),(PyProof.Rows.KTD.datumAt w ST=some (tw ws)),(Txt K C),(am ao ↑1 ai),(!(look ol n).isSome),ps.length,ys.length,(upd H' d (.dT (bj kvs k (.ref t)))),(.tup [.str "part",nv,.int a,mv,pv]),(if b=true then some true else none),(Option Nm),(λc=>?_),(λcdv A outer s H vs Q E hr h=>?_),itn.tx,itm.tx,(gI c6),(NameIs H nm k),(NameIs H v É),(w="item"\/w="up"),(.xd [("name",v)]),it.tx,0,it.tx.length,(.dT (bj kvs2 (nk m) (.ref t'))),(.inr (.inl rfl)),(Nat->St->Hp->Prop),(List Key),(TS H H'),((Itl K a).stop i H/\D.nx Y H),(∃m,W 0 m Y H),(.tup [.str "move",nv,uv,pv]),(.lst ks),(k∈l.map (·.1)),(i+1),(q_a ar ah),(As β),(StAt H st s),(Str),kvs.length,(.tup [.str "join",nv,mv]),(mg "UP" = some (.int 0 tk')),(ns.map V.int),(λi w e hw=>z ă w e hw),(Y[i]?=some (some (.ref a))),(.ref p),(Type),(UpAt H v u),(λ_ _ _ _ v=>OP v.2.1),(jM (r.1.symm.trans z)),(St->Hp->Prop),(λ_ n hn=>nomatch hn),(Nat),(List Nm),(v::ps),it.up,(upd H d (.dT kvs')),(.tup (.str wd::ps)),(wT _ _ ez),(.ref t),(dX n m),(OO s01),(λ_ _ _ _ _=>ht _),(ns.map PyData.int),(cY H kvs ks),(V->β->Prop),(λvs H Q E h=>?_),(H d=some (.dT kvs)),(nk m),ws.length,bs.length,(gI pi),(.put n u pl tx),(.part n a m pl),(OP (t2 _ _ e2)),(Lake.TS),(PartB H kvs w v b),(look ol n=some it),(.ref cN),(.ref t6),(am ao ↑5 ñ),(Bool),npd.symm,bK.nd,u.toList,(ws.map V.str),(bw e h nofun),(.move n u pl),(.oth wr .nil),(Int),(mg "len" = none),(rIxT K),(some n),(tC (.int n)),(q_a ↑3 ah),(upd H' d Ä),(.write n tx),(upd H1 d Ä),(Pv 0 Y H),(vs=[.ref p,nm]),(NameIs H nv É),(NameIs H mv ĥ),("held":Str),(GC ↑0 mV),0,(rF rfl rfl),(.tup [x,v]),(aF ol n it),(c2.trans z),(aC ?_),(Zo e1),(spParts K),(spBring C),(sm _ _ h2),(sm _ _ hb),(spUnder C),(.mark n b),(.fold n b),(.join n m),(dX n m it),(tt _ _ k2),(SqT K H a xs),(NameIs H v k),(SqL K H a ċ),(j+1),(V.str w'),(.due n w),(λeu=>?_),(vs=[.ref p]),xs.length,ks.length,(Str×TV),(.dT gvs),(spNI cN),(.ref cT),(some dd),(CXr P w),(.tup ps),(.ref st),(.tup zs),(by simp),(.ref vb),(.gone n),(.ref cB),(.ref cF),(dW ↑6),(.inr ú),(But d H H'),ngd.symm,l.map,l.length]
abbrev OU:=List V
abbrev OT:=List (List Key×V)
def top(i:ĕ):Stmt:=PySem.Challenge.pw_limb_k39_whole_none_is_lost.main.body.getD i (.Pass #[0,0,0,0])
def tw(l:Í):TV:=.tup (l.map V.str)
theorem cxK:(gG CX P w K mg base N qual scope f cd A outer s H E).nox.K=K:=rfl
theorem vix{K:Qa}{i:ĕ}{n:ĺ}{Q:VK}(hv:č)(hs:Ś)(ha:atI xs n=some v)(q:Q v H):tOp ļ (tVar i) ľ Y H Q:=#[_,hv,a,_,_,_,rfl,rfl,hs,ha,q]
theorem BC{K:Qa}{i:ĕ}{n m:ĺ}{Q:VK}(hv:č)(hs:Ś)(ha:atI xs n=some (.ref b))(ht:SqT K H b ys)(hb:atI ys m=some v)(q:Q v H):tOp ļ (tOp ļ (tVar i) ľ) (tC (.int m)) Y H Q:=#[_,hv,a,_,_,_,rfl,rfl,hs,ha,b,_,_,_,rfl,rfl,ht,hb,q]
theorem eh{K:Qa}{xs:OU}{g:TG}{tb:Ĭ}{D:Ends}(Pv:û)(h0:Ń)(hl:È)(hs:∀i x Y H,xs[i]?=some x->Pv i Y H->∀D':Ends,â->g x Y H λσ2 H2=>tb D' σ2 H2)(hd:Ñ):
  ∃W:Nat->Nat->St->Hp->Prop,ÿ/\∀i m Y H,W i m Y H ->
   þ\/((Itl K a).go i H/\∃N:St->Hp->Prop,Û/\∀x H',(Itl K a).yld i H x H'->g x Y H' λσ2 H2=>tb { D with nx:=N,ct:=N,bk:=D.nx } σ2 H2) :=
 ql Pv h0 hl (λi x Y H a b=>hs i x Y H a b _ λ_ _ z=>z) hd
theorem Cf{K:Qa}{xs:OU}{j:ĕ}{tb:Ĭ}{D:Ends}(Pv:û)(h0:Ń)(hl:È)(hs:∀i x Y H,xs[i]?=some x->Pv i Y H->∀D':Ends,â->tb D' (Y.set j (some x)) H)(hd:Ñ):
  ∃W:Nat->Nat->St->Hp->Prop,ÿ/\∀i m Y H,W i m Y H ->
   þ\/((Itl K a).go i H/\∃N:St->Hp->Prop,Û/\∀x H',(Itl K a).yld i H x H'->ce j x Y H' λσ2 H2=>tb { D with nx:=N,ct:=N,bk:=D.nx } σ2 H2) :=
 eh Pv h0 hl hs hd
theorem xi{A:ē->Prop}{B:ē}(J:ē)(h1:∀R:St->Hp->Prop,(∀Y H,J Y H->R Y H)->A R)(h2:∀Y H,J Y H->B Y H):∃R,A R/\∀Y H,R Y H->B Y H:=#[J,h1 J λ_ _ z=>z,h2]
theorem aB{t u:Ĭ}(h:∀R:Ends,(∀σ' H',u D σ' H'->R.nx σ' H')->t R Y H):Bv t u D Y H:=h { D with nx:=u D } λ_ _ z=>z
theorem Ce{K:Qa}{xs:OU}{i j:ĕ}{tb:Ĭ}{D:Ends}(Pv:û)(h0:Ń)(ha:È)(hs:∀k x Y H,xs[k]?=some x->Pv k Y H->∀D':Ends,(∀σ' H',Pv (k+1) σ' H'->D'.nx σ' H')->∀T,H T=none->tb D' ((Y.set i (some (.int k))).set j (some x)) (upd H T (.tup [.int k,x])))(hd:Ñ):
  ∃W:Nat->Nat->St->Hp->Prop,ÿ/\∀k m Y H,W k m Y H ->
   ((Ite K a xs).stop k H/\D.nx Y H)\/((Ite K a xs).go k H/\∃N:St->Hp->Prop,(∀σ' H',N σ' H'->∃m',m'<m/\W (k+1) m' σ' H')/\∀x H',(Ite K a xs).yld k H x H'->nS K 2 (fX (ce i) (fX (ce j) nR)) x Y H' λσ2 H2=>tb { D with nx:=N,ct:=N,bk:=D.nx } σ2 H2) :=
 wM Pv h0 ha (λk x Y H a b T c=>hs k x Y H a b _ (λ_ _ z=>z) T c) hd
def ST:List Ť:=[("put",tw ["new","up","place","text"]),("move",tw ["item","up","place"]),("write",tw ["item","text"]),("mark",tw ["item","truth"]),("due",tw ["item","whom"]),("fold",tw ["item","truth"]),("part",tw ["item","at","new","place"]),("join",tw ["item","item"]),("gone",tw ["item"])]
def FC:List Ť:=[("move",.flat (.int 0)),("write",.flat (.int 2)),("mark",.flat (.int 3)),("due",.flat (.int 4)),("fold",.flat (.int 5))]
theorem at0:atI (x::r) 0=some x:=fG (xs:=x::r) (j:=0) rfl
theorem at1:atI (x::y::r) 1=some y:=fG (xs:=x::y::r) (j:=1) rfl
theorem at2:atI (x::y::z::r) 2=some z:=fG (xs:=x::y::z::r) (j:=2) rfl
theorem at3:atI (x::y::z::u::r) 3=some u:=fG (xs:=x::y::z::u::r) (j:=3) rfl
theorem at4:atI (x::y::z::u::v::r) 4=some v:=fG (xs:=x::y::z::u::v::r) (j:=4) rfl
theorem Gm{c A B:Prop}[Decidable c](h:¬c)(hB:B):if decide c=true then A else B:=by rw[decide_eq_false h];exact aC hB
theorem LM:¬(Ň="away"):=⋯
def nQ(h a:OC):List (Str×V):=eU "away" (.ref a) (eU "held" (.ref h) [])
theorem bc(h a:OC):(nQ h a).lookup Ň=some (.ref h):=by unfold nQ;rw[dQ,Ow LM,dQ,Ox rfl]
theorem uo(h a:OC):(nQ h a).lookup ("away":Str)=some (.ref a):=by unfold nQ;rw[dQ,Ox rfl]
theorem ju(h a:OC){m:ć}(h1:¬m="away")(h2:¬m="held"):(nQ h a).lookup m=none:=by
 unfold nQ;rw[dQ,Ow h1,dQ,Ow h2]
 all_goals rfl
structure PlainAt(C:OC)(H:Hp)(p d g:OC)(kvs gvs:OT):Prop where
 ob:∃dx,H p=some (.ins C dx (nQ d g))
 dc:H d=some (.dT kvs)
 gc:H g=some ť
 ne:d≠g
theorem PlainAt.same(x:À)(s:Ó):PlainAt C H' p d g kvs gvs:=by obtain⟨⟨dx,h1⟩,h2,h3,h4⟩:=x;exact#[#[dx,s _ _ h1],s _ _ h2,s _ _ h3,h4]
theorem PlainAt.put{C:OC}{H:Hp}{p d g:OC}{kvs gvs kvs':OT}(x:À):PlainAt C ę p d g kvs' gvs:=by obtain⟨⟨dx,h1⟩,h2,h3,h4⟩:=x;exact#[#[dx,by rw[af (bw h1 h2 nofun)];exact h1],ac,by rw[af (ZO h4)];exact h3,h4]
def But(d:OC)(H H':Hp):Prop:=∀b o,H b=some o->b≠d->H' b=some o
inductive NameIs(H:Hp)(v:V)(k:ü):Prop
 |mk (b:_) (h0:v=.ref b) (h1:H b=some (.tup (k.map kV))):NameIs H v k
theorem NameIs.same(x:ś)(s:Ó):NameIs H' v k:=by exists[b,h1,h2],x;exact#[b,h1,s _ _ h2]
inductive spParts(K:Qa)(vs:OU)(H:Hp)(Q:VK)(E_:XK):Prop
 |mk (k:ć) (ws:Í) (h0:vs=[.str k]) (h1:PyProof.Rows.KTD.datumAt k ST=some (tw ws)) (h2:∀t,(∀H',SqT K H' t Ķ)->Q Ĝ H):spParts K vs H Q E_
inductive spInit(C:OC)(vs:OU)(H:Hp)(Q:VK)(E_:XK):Prop
 |mk (p dx:OC) (h0:š) (h1:H p=some (.ins C dx [])) (h2:∀(d g:OC) (H':Hp),H d=none->H g=none->PlainAt C H' p d g [] []->(∀b o,H b=some o->b≠p->H' b=some o)->Q .non H'):spInit C vs H Q E_
def GY(H:Hp)(kvs:OT)(ws:Í)(ps:OU):Prop:=Ħ=ç/\∀(i:ĕ) (w:ć) (v:V),ws[i]?=some w->ps[i]?=some v ->
 (w="new"->∃k,NameIs H v k/\aW kvs k=none)/\(ô->v=.non\/∃k,NameIs H v k/\(aW kvs k).isSome=true)
inductive spCheckN(C:OC)(vs:OU)(H:Hp)(Q:VK)(E_:XK):Prop
 |mk (p d g st:OC) (kvs gvs:OT) (w:ć) (ws:Í) (ps:OU) (h0:Ú) (h1:À) (h2:Ø) (h3:ã) (h4:GY H kvs ws ps) (h5:∀H',Same H H'->Q .non H'):spCheckN C vs H Q E_
inductive spBring(C:OC)(vs:OU)(H:Hp)(Q:VK)(E_:XK):Prop
 |mk (p d g:OC) (kvs gvs:OT) (nm up pl tx:V) (k:ü) (h0:vs=[.ref p,nm,up,pl,tx]) (h1:À) (h2:ò) (h3:Ĉ<=500) (h4:∀(t:OC) (H':Hp),Same H H'->H' t=some á->Q .non é):spBring C vs H Q E_
inductive spChange(C:OC)(vs:OU)(H:Hp)(Q:VK)(E_:XK):Prop
 |mk (p d g it va:OC) (kvs gvs:OT) (nm:V) (k:ü) (i:ĕ) (xs ys:OU) (h0:vs=[.ref p,nm,.int (i:ĺ),.ref va]) (h1:À) (h2:ò) (h3:Ĉ<=500) (h4:aW kvs k=some (.ref it)) (h5:H it=some (.tup xs)) (h6:H va=some (.tup ys)) (h7:i+è<=Ţ) (h8:Ţ<=100) (h9:∀(t:OC) (H':Hp),Same H H'->H' t=some (.tup (xs.take i++ys++xs.drop (i+è)))->Q .non é):spChange C vs H Q E_
inductive spItem(C:OC)(vs:OU)(H:Hp)(Q:VK)(E_:XK):Prop
 |mk (p d g:OC) (kvs gvs:OT) (nm v:V) (k:ü) (h0:ń) (h1:À) (h2:ò) (h3:aW kvs k=some v) (h4:Q v H):spItem C vs H Q E_
inductive spNames(C:OC)(vs:OU)(H:Hp)(Q:VK)(E_:XK):Prop
 |mk (p d g:OC) (kvs gvs:OT) (h0:š) (h1:À) (h2:∀l ks,H l=none->cY H kvs ks->Q (.ref l) (upd H l ā)):spNames C vs H Q E_
inductive spCell(K:Qa)(vs:OU)(H:Hp)(Q:VK)(E_:XK):Prop
 |mk (a:OC) (ns:OJ) (k:ĺ) (h0:vs=[.ref a,.int k]) (h1:Ŝ) (h2:0<=k) (h3:Q (.int (au ns k.toNat)) H):spCell K vs H Q E_
inductive spLaw(K:Qa)(vs:OU)(H:Hp)(Q:VK)(E_:XK):Prop
 |mk (a:OC) (ns:OJ) (h0:vs=[.ref a]) (h1:Ŝ) (h2:ns.length<=63) (h3:∀H',Q (.bl true) H'):spLaw K vs H Q E_
structure Txt(K:Qa)(C:OC):Prop where
 cl:Cls K C
 nH:NoAttr K C "held"
 nA:NoAttr K C "away"
section
variable{P:OF}{w:OG}{K:Qa}{mg:OA}{base:Heap}
abbrev kj:Stmt:=top 5
abbrev vU:List Str:=["word"]
theorem vx:FnScope vU ["word"] (aq kj):= ~~~0
theorem vh(F:Fun K "step_parts" "step_parts" kj f fd){dd:OC}(u9:mg "STEP_PARTS" = some (.ref dd))(T:Tab K dd ST):↑FnOk CX0 1 f fd ["word"] Ő:=by
 exists vx
 exists[k,ws,rfl,hk,q],h;exists _,(b_1 (ax (am GP (KY u9) ↑0)))
 exact#[_,rfl,dd,k,ST,tw ws,rfl,rfl,T,hk,q]
abbrev jV:Stmt:=cz ß 0
abbrev vN:List Str:=["self"]
theorem vo:FnScope vN ["self"] (aq jV):= ~~~0
theorem uW(F:Fun K "__init__" "Plain.__init__" jV f fd)(T:ä):↑FnOk CX0 1 f fd ["self"] (spInit C):=by
 exists vo
 exists[p,dx,rfl,hp,k],h;exists _,(b_c ň
   (b_1 ň))
 intro d hd;have npd:p≠d:=aj hp hd;refine#[_,rfl,p,C,dx,[],rfl,(by rw[af npd];exact hp),T.cl,T.nH,(by show 0<1000;decide),?_];intro g hg;have hg0:H g=none:=by
  cases e:H g with
  |none=>rfl
  |some o =>
   have:g≠d:=aj e hd;by_cases c:g=p
   .subst c;rw[ac]at hg;cases hg
   .rw[af c,af this,e]at hg;cases hg
 have ngp:g≠p:=λz=>by rw[z,hp]at hg0;cases hg0
 have ngd:g≠d:=λz=>by rw[z,af ĳ,ac]at hg;cases hg
 refine#[_,rfl,p,C,dx,_,rfl,(by rw[af ngp.symm,ac]),T.cl,T.nA,(by show 1<1000;decide),?_];refine k d g _ hd hg0 #[#[dx,ac],by rw[af ĳ,af ŵ,af ĳ,ac],by rw[af ngp,ac],ŵ] λb o e hb=>?_;rw[af hb,af (aj e hg0),af hb,af (aj e hd)];exact e
abbrev jW:Stmt:=cz ß 10
abbrev vO:List Str:=["self","name"]
theorem vq:FnScope vO ["self","name"] (aq jW):= ~~~0
theorem uX(F:Fun K "item" "Plain.item" jW f fd)(T:ä):↑FnOk CX0 1 f fd ["self","name"] (spItem C):=by
 exists vq
 obtain⟨p,d,g,kvs,gvs,nm,v,k,rfl,S,⟨b,rfl,hb⟩,hv,q⟩:=h;obtain⟨⟨dx,h1⟩,h2,h3,h4⟩:=id S;exists _,(b_c (aT (nz Ô ↑1 Ö) (b_1 IL) b_0)
   (b_1 (ax Æ)))
 refine#[_,rfl,_,rfl,p,C,dx,_,_,rfl,h1,T.cl,T.nH,bc _ _,d,_,rfl,DGet.t h2 hb,_,rfl,?_];rw[hv];refine aC ?_;exact#[_,rfl,p,C,dx,_,_,rfl,h1,T.cl,T.nH,bc _ _,_,rfl,d,v,rfl,hv▸DGet.t h2 hb,q]
abbrev gK:Stmt:=cz ß 4
abbrev qe:List Str:=["self","name","up","place","text"]
theorem pN:FnScope qe ["self","name","up","place","text"] (aq gK):= ~~~0
theorem pM(F:Fun K "bring_in" "Plain.bring_in" gK f fd)(T:ä):↑FnOk CX0 1 f fd ["self","name","up","place","text"] ő:=by
 exists pN
 exists[p,d,g,kvs,gvs,nm,up,pl,tx,k,rfl,S,hn,hl,q],h;obtain⟨⟨dx,h1⟩,h2,h3,h4⟩:=id S;exists _,(b_1 (iT Ô Ö ↑1 (aD (q_a ↑2 (q_a ↑3 (q_a ↑4 (q_a lh (q_a bX (q_a lh ah)))))))))
 refine#[_,rfl,_,rfl,_,rfl,sz rfl,λt ht=>?_];have sm:=ad ht á;exists[b,rfl,hb],hn;exact#[_,rfl,p,C,dx,_,_,rfl,sm _ _ h1,T.cl,T.nH,bc _ _,_,rfl,d,_,rfl,DPut.t Œ œ (aU ∅),q t _ sm ac]
abbrev iG:Stmt:=cz ß 5
abbrev rY:List Str:=["self","name","first","values","item"]
theorem kO:FnScope rY ["self","name","first","values"] (aq iG):= ~~~0
theorem rB(F:Fun K "change" "Plain.change" iG f fd)(T:ä)(a8:Ļ):↑FnOk CX0 1 f fd ["self","name","first","values"] (spChange C):=by
 exists kO
 exists[p,d,g,it,va,kvs,gvs,nm,k,i,xs,ys,rfl,S,hn,hl,hv,hit,hva,hi,hx,q],h;obtain⟨⟨dx,h1⟩,h2,h3,h4⟩:=id S;exists[b,rfl,hb],hn;exists _,(b_c (aA (i:=4) kO.nd Æ)
   (b_1 (iT Ô Ö ↑1 (aK jN (aK jN (eE dN ↑4 eV (dW ↑2)) ↑3) (eE dN ↑4 (dW (aK ge ↑2 (q_B gX a8 Ya Ŀ))) eV)))))
 refine#[_,rfl,p,C,dx,_,_,rfl,h1,T.cl,T.nH,bc _ _,_,rfl,d,_,rfl,hv▸DGet.t h2 hb,?_];refine#[_,rfl,_,rfl,_,rfl,it,xs,rfl,hit,λt1 H1 s1 e1=>?_];have c1:bY xs none (some (i:ĺ))=xs.take i:=by unfold bY;rw[HT.sIx_none,HT.sIx_nat,List.drop_zero,Nat.sub_zero,Nat.min_eq_left ∅]
 rw[c1]at e1;refine#[_,rfl,t1,va,_,_,rfl,rfl,e1,s1 _ _ hva,fF (by rw[ZY];omega),λt2 H2 s2 e2=>?_];refine#[_,rfl,_,rfl,_,rfl,va,ys,rfl,.inr (OP (s2 _ _ (s1 _ _ hva))),_,_,rfl,rfl,_,rfl,it,xs,rfl,s2 _ _ (s1 _ _ hit),λt3 H3 s3 e3=>?_];have c2:bY xs (some ((i:ĺ)+(è:ĺ))) none=xs.drop (i+è):=by unfold bY;rw[HT.sIx_none,show(i:ĺ)+(è:ĺ)=((i+è:Nat):Int) by omega,HT.sIx_nat,Nat.min_eq_left hi,YK (by rw[YL];omega)]
 rw[c2]at e3;refine#[t2,t3,_,_,rfl,rfl,s3 _ _ e2,e3,fF (by rw[Zf,ZY,YL];omega),λt4 H4 s4 e4=>?_];have sm:Same H H4:=s1.trans (s2.trans (s3.trans s4));exact#[_,rfl,p,C,dx,_,_,rfl,sm _ _ h1,T.cl,T.nH,bc _ _,_,rfl,d,_,rfl,DPut.t Œ œ (aU ∅),q t4 _ sm e4]
theorem LP(w:ć):inV (.str w) [.str "item",.str "up"]=decide ô:=by
 unfold inV eqV;by_cases h1:w="item"
 .subst h1;simp
 .by_cases h2:w="up"
  .subst h2;simp
  .simp[h1,h2,ZO h1,ZO h2]
abbrev eW:Stmt:=cz ß 2
abbrev nI:List Str:=["self","step","kinds","kind","name"]
theorem bK:FnScope nI ["self","step"] (aq eW):= ~~~0
inductive spNI(cN:OC)(vs:OU)(H:Hp)(Q:VK)(E_:XK):Prop
 |mk (e t:OC) (v:V) (h0:vs=[.ref e,v]) (h1:H e=some (exN e cN t none)) (h2:∀d,H d=none->Q .non (upd (upd H d õ) e (exN e cN t (some d)))):spNI cN vs H Q E_
abbrev jb:Stmt:=cz (top 9) 0
abbrev uP:List Str:=["self","name"]
theorem tK:FnScope uP ["self","name"] (aq jb):= ~~~0
theorem sQ(F:Fun K "__init__" "NoItem.__init__" jb f fd)(S:ExS K cN)(n:NoAttr K cN "name"):↑FnOk CX0 1 f fd ["self","name"] Ŧ:=by
 exists tK
 exists[e,t,v,rfl,he,q],h;exists _,(b_1 (Lc ↑0 ↑1))
 exact#[_,rfl,_,rfl,e,cN,t,rfl,he,S,n,q]
theorem D1{H1:Hp}{ea t d cN:OC}(h1:H1 ea=none)(hd:upd H1 ea (exN ea cN t none) d=none):
  Same H1 (del Ç ea)/\del Ç ea d=some õ:=by
 have nde:d≠ea:=λz=>by rw[z,ac]at hd;cases hd
 refine#[λb o e=>?_,?_]
 .have hb:b≠ea:=aj e h1;have hbd:b≠d:=λz=>by rw[<-z,af hb,e]at hd;cases hd
  rw[gY hb,af hb,af hbd,af hb];exact e
 .rw[gY nde,af nde,ac]
def PartB(H:Hp)(kvs:OT)(w:ć)(v:V)(b:Ĳ):Prop :=
 (w="new"->∃k,NameIs H v k/\b=!(aW kvs k).isSome)/\(ô->(v=.non/\b=true)\/∃k,NameIs H v k/\b=(aW kvs k).isSome)
theorem PartB.same{w:ć}(x:ĭ)(s:Ó):PartB H' kvs w v b :=
 #[λe=>let⟨k,a,c⟩:=x.1 e;#[k,a.same s,c],λe=>(x.2 e).imp id fun⟨k,a,c⟩=>#[k,a.same s,c]]
def isI(w:ć):Prop:=w="item"\/w="up"
inductive spCheckX(C cT cN:OC)(vs:OU)(H:Hp)(Q:VK)(E:XK):Prop
 | mk (p d g st:OC) (kvs gvs:OT) (w:ć) (ws:Í) (ps:OU) (bs:Ë) (h0:Ú) (h1:À) (h2:Ø) (h3:ã) (h4:Ħ=ç) (h5:ħ=ç) (h6:(∀ (i:ĕ) (w:ć) (v:V) (b:Ĳ),ws[i]? = some w->ps[i]? = some v->bs[i]? = some b->PartB H kvs w v b)) (h7:((∃ i:Nat,ws[i]? = some "new"/\bs[i]? = some false)->∀ H',Same H H'->E ŧ none H')) (h8:((∀ i:Nat,ws[i]? = some "new"->bs[i]? = some true)->((∀ (i:ĕ) (w:ć),ws[i]? = some w->isI w->bs[i]? = some true)->∀ H',Same H H'->Q .non H') /\
  ∀ (i:ĕ) (w:ć) (v:V),ws[i]? = some w->ps[i]? = some v->isI w->bs[i]? = some false->(∀ (j:ĕ) (w':ć),j<i->ws[j]? = some w'->isI w'->bs[j]? = some true)->∀ H' dd,Same H H'->H' dd=some õ->E į Ũ H')):spCheckX C cT cN vs H Q E
theorem lO(F:Fun K "check_names" "Plain.check_names" eW f fd)(T:ä)(v3:↑Fn 1 "step_parts" ["word"] Ő)(i9:mg "zip" = none)(x_Taken:ExCls K cT)(NO:mg "Taken" = some ŧ)(No:↑ExI 1 cN bm ["self","name"] Ŧ)(n9:mg "NoItem" = some į):↑FnOk ũ 3 f fd ["self","step"] (spCheckX C cT cN):=by
 refine F.okX bK ģ î
 .exists[p,d,g,st,kvs,gvs,wd,ws,ps,bs,rfl,_],h;rfl
 exists[p,d,g,st,kvs,gvs,wd,ws,ps,bs,rfl,S,hst,hk,l1,l2,ok,qT,qN],h;obtain⟨⟨dx,h1⟩,h2,h3,h4⟩:=id S;exists _,(b_c (aA (i:=2) Ĵ (aI v3 ↑99 (q_a å ah)))
   (b_c (GD eG (dG Ŋ rfl Ü (jl rfl (bC (aw (i:=3) Ĵ) (bC (aw (i:=4) Ĵ) fj))) (b_1 (aT (t_w (fg (aE bO ↑3 ar) (eO (Bw Ô ↑4 Ö)))) (b_1 (pH (im pT) rfl x_Taken NO Ą)) b_0))))
   (b_1 (GD eG (dG Ŋ rfl Ü (jl rfl (bC (aw (i:=3) Ĵ) (bC (aw (i:=4) Ĵ) fj))) (b_1 (aT (t_w (fg (aE (gh (K:=K) rfl) ↑3 (aD (q_a ar Ą))) (fg (aE iR ↑4 bX) (eO (nz Ô ↑4 Ö))))) (b_1 (Ft pT rfl No ↑99 n9 (q_a ↑4 ah))) b_0)))))))
 refine(vix rfl Ê at0 #[wd,ws,rfl,hk,λt ht=>?_]);have c1:bY (V.str wd::ps) (some 1) none=ps:=by unfold bY;rw[HT.sIx_none,show(1:ĺ)=((1:ĕ):Int)from rfl,HT.sIx_nat];simp
 have lw:(ws.map V.str).length=ç:=by rw[Zd];exact l1
 have item:∀{i:ĕ} {x:V},Ķ[i]?=some x->∃w',ws[i]?=some w'/\x=.str w':=fun{i x} hx=>by rw[Zy]at hx;exists[w',e1,e2],Z1.mp hx;exact#[w',e1,e2.symm]
 have bat:∀{i:ĕ} {v:V},ps[i]?=some v->∃b,bs[i]?=some b:=fun{i v} hv=>by
  have hi:i<ħ:=by rw[l2];exact(Zu.mp hv).1
  exact#[_,Ze hi]
 refine#[_,rfl,_,rfl,_,rfl,st,_,rfl,hst,λz H1 s1 e1=>?_];rw[c1]at e1;refine#[t,z,_,_,rfl,ht _,OP e1,lw,?_];refine ze (i:=3) (j:=4) (λi Y H'=>Same H H'/\H' z=some Ū/\(∀j:Nat,j<i->ws[j]?=some "new"->bs[j]?=some true)/\∃o3 o4,Y=[some Ď,some ū,some Ĝ,o3,o4]) #[s1,e1,(λj hj=>∅),none,none,rfl] ğ đ lw ?_ ?_
 .rintro i x v Y H' hx hv ⟨sm,ez,pre,o3,o4,rfl⟩ T' gT;have wT:=ad gT ŋ;exists[w',hw,rfl],item hx;exists[b,hb],bat hv;have sm':=sm.trans wT;have pb:=(ok i w' v b hw hv hb).same sm';refine#[_,rfl,rfl,_,rfl,kT í í]
  .injection c with c;subst c;obtain⟨k,⟨nb,rfl,hnb⟩,hbv⟩:=pb.1 rfl;refine#[_,rfl,_,rfl,p,C,dx,_,_,rfl,sm' _ _ h1,T.cl,T.nH,bc _ _,d,_,rfl,DGet.t (sm' _ _ h2) hnb,_,rfl,?_];cases hs:(aW kvs k).isSome with
   |true =>rw[hs]at hbv;subst hbv;refine aQ ?_;exact#[sz rfl,qT #[i,hw,hb] _ sm']
   |false =>
    rw[hs]at hbv;subst hbv;refine aC #[sm',wT _ _ ez,λj hj hw'=>?_,_,_,rfl];by_cases c2:j=i
    .rw[c2];exact hb
    .exact pre j ∅ hw'
  .refine aC #[sm',wT _ _ ez,λj hj hw'=>?_,_,_,rfl];by_cases c2:j=i
   .rw[c2,hw]at hw';exact absurd (Z2 V.str (Zo hw')) c
   .exact pre j ∅ hw'
 .rintro Y H' ⟨sm,ez,pre,o3,o4,rfl⟩;have all:∀i:Nat,ws[i]?=some "new"->bs[i]?=some true:=λi hi=>pre i (by rw[Zd];exact(Zu.mp hi).1) hi;exists[qok,qni],qN all;refine#[_,rfl,_,rfl,_,rfl,st,_,rfl,sm _ _ hst,λz' H2 s2 e2=>?_];rw[c1]at e2;refine#[t,z',_,_,rfl,ht _,OP e2,lw,?_];refine ze (i:=3) (j:=4) (λi Y H'=>Same H H'/\H' z'=some Ū/\Ï/\∃o3 o4,Y=[some Ď,some ū,some Ĝ,o3,o4]) #[sm.trans s2,e2,(λj _ hj=>∅),o3,o4,rfl] ğ đ lw ?_ ?_
  .rintro i x v Y H' hx hv ⟨sm,ez,pre2,o3,o4,rfl⟩ T' gT;have wT:=ad gT ŋ;exists[w',hw,rfl],item hx;exists[b,hb],bat hv;have sm':=sm.trans wT;refine#[_,rfl,sz rfl,λu gu=>?_];have wu:=ad gu (.tup [.str "item",.str "up"]);have sm2:=sm'.trans wu;have pb:=(ok i w' v b hw hv hb).same sm2;refine#[u,_,rfl,.inr (OP ac),rfl,rfl,_,rfl,?_];have ei:(if false=true then !inV Ş [.str "item",.str "up"]else inV Ş [.str "item",.str "up"])=decide (w'="item"\/w'="up"):=LP w';have step:bs[i]?=some true->∀(j:ĕ) (w'':ć),j<i+1->ws[j]?=some w''->isI w''->bs[j]?=some true:=λhbt j w'' hj hw'' hi=>by
    by_cases c2:j=i
    .rw[c2];exact hbt
    .exact pre2 j w'' ∅ hw'' hi
   rw[ei];refine kT í í
   .rcases pb.2 c with⟨rfl,rfl⟩|⟨k,⟨nb,rfl,hnb⟩,hbv⟩
    .refine#[_,rfl,rfl,_,rfl,mO rfl ?_];exact aC #[sm2,wu _ _ ě,step hb,_,_,rfl]
    .refine#[_,rfl,rfl,_,rfl,mM nofun ?_];refine#[_,rfl,_,rfl,p,C,dx,_,_,rfl,sm2 _ _ h1,T.cl,T.nH,bc _ _,d,_,rfl,DGet.t (sm2 _ _ h2) hnb,_,rfl,?_];cases hs:(aW kvs k).isSome with
     |true =>rw[hs]at hbv;subst hbv;exact aC #[sm2,wu _ _ ě,step hb,_,_,rfl]
     |false =>rw[hs]at hbv;subst hbv;refine aQ ?_;refine#[_,rfl,sz rfl,λea tt' e1 e2 nt=>#[ea,tt',_,rfl,ac,λdd hdd=>#[rfl,some dd,ac,?_]]];exists[a1,a2],D1 (v:=V.ref nb) e1 hdd;exact qni i w' _ hw hv c hb pre2 _ dd (sm2.trans a1) a2
   .refine aC #[sm2,wu _ _ ě,λj w'' hj hw'' hi=>?_,_,_,rfl];by_cases c2:j=i
    .rw[c2,hw]at hw'';cases hw'';exact absurd hi c
    .exact pre2 j w'' ∅ hw'' hi
  .rintro Y H' ⟨sm,ez,pre2,o3,o4,rfl⟩;exact qok (λi w' hw hi=>pre2 i w' (by rw[Zd];exact(Zu.mp hw).1) hw hi) H' sm
inductive spItemX(C cN:OC)(vs:OU)(H:Hp)(Q:VK)(E:XK):Prop
 |mk (p d g:OC) (kvs gvs:OT) (nm:V) (k:ü) (h0:ń) (h1:À) (h2:ò) (h3:(∀v,aW kvs k=some v->Q v H)) (h4:(aW kvs k=none->∀H' dd,Same H H'->H' dd=some (.xd [("name",nm)])->E į Ũ H')):spItemX C cN vs H Q E
inductive spBounds(C:OC)(vs:OU)(H:Hp)(Q:VK)(E_:XK):Prop
 |mk (p st:OC) (w:ć) (ps:OU) (h0:Ú) (h1:Ø) (h2:V.str w≠V.str "move") (h3:V.str w≠V.str "join") (h4:V.str w≠V.str "part") (h5:Q .non H):spBounds C vs H Q E_
abbrev dY:Stmt:=cz ß 12
abbrev lC:List Str:=["self","one","other"]
theorem fT:FnScope lC ["self","one","other"] (aq dY):= ~~~0
abbrev eI:Stmt:=cz ß 3
abbrev mq:List Str:=["self","step"]
theorem lV:FnScope mq ["self","step"] (aq eI):= ~~~0
theorem dB(h a:OC){m:ć}(h1:¬m="away":=by decide)(h2:¬m="held":=by decide):(nQ h a).lookup m=none:=ju h a h1 h2
theorem sL(x y:ć):(x++y).length=x.length+y.length:=by show(x.cps++y.cps).size=_;rw[Array.size_append];rfl
theorem CT(h1:PyData.strOk x=true)(h2:PyData.strOk y=true):PyData.strOk (x++y)=true:=by show(x.cps++y.cps).all (·<0x110000)=true;rw[Array.all_append,ZK];exact#[h1,h2]
def TS(H H':Hp):Prop:=∀a zs,H a=some Ŭ->H' a=some Ŭ
theorem OO(e:Ó):TS H H':=λa zs h=>e a _ h
theorem ky{H:Hp}(h:Ĥ):TS H ę:=λa zs e=>by rw[af ķ];exact e
theorem xw:∀ns:OJ,PyData.canLayAll0 Ġ=true/\PyData.depthAll Ġ=0
 | []=>#[rfl,rfl]
 |n::ns=>by exists[h1,h2],xw ns;simp only[Zr,PyData.canLayAll0,PyData.canLay0,PyData.depthAll,PyData.depth,h1,h2];exact#[rfl,rfl]
theorem bU{d:Qb}(h1:d.canLay0=true)(h2:d.depth<=10):SeqAt.shaped d=true:=by unfold SeqAt.shaped;rw[ZK];exact#[h1,decide_eq_true ∅]
theorem kX{l:OT}(h:¬k∈l.map (·.1)):aW l k=none:=by
 cases e:aW l k with
 |none=>rfl
 |some v=>exact absurd (tU e) h
theorem rN{l:OT}(h:Ă):(aW l k).isSome=true:=by
 cases e:aW l k with
 |none=>exact absurd h (FR e)
 |some v=>rfl
theorem qu{l:OT}(v:V)(h:Ă):bj l k v=l.map (λkv=>if kv.1=k then(kv.1,v)else kv):=by unfold bj;rw[Ox];rw[iJ];exact rN h
theorem EA{l:OT}(h:Ă):(bj l k v).map (·.1)=l.map (·.1):=by rw[qu v h,Z4];refine Y1 λp _=>?_;show(if p.1=k then(p.1,v)else p).1=p.1;split<;>rfl
theorem JV(r:ġ):∀{i:ĕ} {v:V},ks[i]?=some v->∃k,(kvs.map (·.1))[i]?=some k/\NameIs H v k:=by
 unfold cY at r;induction r with
 |nil=>intro i v h;simp at h
 |@cons p q _ _ h _ ih =>
  intro i v e;cases i with
  |zero =>cases e;exists[b,e1,e2],h;exact#[p.1,rfl,b,e1,e2]
  |succ i=>exact ih e
theorem JW(r:ġ):ţ=Ĉ:=(Zv r).symm
theorem LR(r:ġ)(s:ý):cY H' kvs ks:=Paired.mapP r λ_ _ ⟨b,h1,h2⟩=>#[b,h1,s _ _ h2]
abbrev Nm:=Int×Int
structure It where
 up:Option Nm
 pl:OJ
 tx:Str
 dn:Bool
 wh:Option Int
 fo:Bool
abbrev Ol:=List (Nm×It)
def nk(n:Nm):List Key:=[.inl n.1,.inl n.2]
theorem jM(h:nk n=nk m):n=m:=by unfold nk at h;injection h with h1 h2;injection h2 with h2 _;injection h1 with h1;injection h2 with h2;exact Prod.ext h1 h2
abbrev As(β:ď):=List (Nm×β)
def look{β:ď}:As β->Nm->Option β
 | [],_=>none
 |p::l,n=>if p.1=n then some p.2 else look l n
def aF{β:ď}(l:ą)(n:Nm)(i:β):As β:=if(look l n).isSome=true then Ŷ (λp=>if p.1=n then(p.1,i)else p)else l++[(n,i)]
def UpAt(H:Hp)(v:V):Option Nm->Prop
 |none=>v=.non
 |some n=>NameIs H v É
inductive PlAt(H:Hp)(v:V)(ns:OJ):Prop
 |mk (b:_) (h0:v=.ref b) (h1:H b=some (.tup ċ)):PlAt H v ns
def whV:Option Int->V
 |none=>.non
 |some i=>.int i
inductive ItAt(H:Hp)(v:V)(it:It):Prop
 |mk (a:OC) (uv pv:V) (h0:v=.ref a) (h1:H a=some (.tup [uv,pv,.str ö,.bl it.dn,whV it.wh,.bl it.fo])) (h2:UpAt H uv Ę) (h3:PlAt H pv it.pl):ItAt H v it
theorem NameIs.ts'(x:ś)(s:ý):NameIs H' v k:=by exists[b,h1,h2],x;exact#[b,h1,s _ _ h2]
theorem UpAt.ts(x:Đ)(s:ý):UpAt H' v u:=by
 cases u with
 |none=>exact x
 |some n=>exact NameIs.ts' x s
theorem PlAt.ts(x:PlAt H v ns)(s:ý):PlAt H' v ns:=by exists[b,h1,h2],x;exact#[b,h1,s _ _ h2]
theorem ItAt.ts(x:ItAt H v it)(s:ý):ItAt H' v it:=by exists[a,uv,pv,h1,h2,h3,h4],x;exact#[a,uv,pv,h1,s _ _ h2,h3.ts s,h4.ts s]
abbrev Rws{β:ď}(R:Ģ)(kvs:OT)(ol:ą):Prop:=Paired (λp q=>p.1=nk q.1/\R p.2 q.2) kvs ol
abbrev Rows(H:Hp)(kvs:OT)(ol:Ol):Prop:=Rws (ItAt H) kvs ol
theorem Rows.ts(x:Ì)(s:ý):Rows H' kvs ol:=Paired.mapP x λ_ _ z=>#[z.1,z.2.ts s]
section
variable{β:ď}
theorem iS(x:Ý)(h:look ol n=none):aW kvs É=none:=by
 induction x with
 |nil=>rfl
 |@cons p q _ _ r _ ih =>
  unfold look at h;by_cases c:q.1=n
  .rw[Ox c]at h;cases h
  .rw[Ow c]at h;rw[cJ λz=>c Ē];exact ih h
theorem aY(x:Ý)(h:Į):∃v,aW kvs É=some v/\R v it:=by
 induction x with
 |nil=>cases h
 |@cons p q _ _ r _ ih =>
  unfold look at h;by_cases c:q.1=n
  .rw[Ox c]at h;cases h;exact#[p.2,cX (r.1.trans (Z2 nk c)),r.2]
  .rw[Ow c]at h;rw[cJ λz=>c Ē];exact ih h
theorem iF(x:Ý):(aW kvs É).isSome=(look ol n).isSome:=by
 cases e:look ol n with
 |none=>rw[iS x e];rfl
 |some it =>exists[v,h,_],aY x e;rw[h];rfl
theorem fB(x:Ý)(hv:R v it):Rws R (bj kvs É v) Ō:=by
 unfold aF;cases e:look ol n with
 |none =>rw[xJ _ (iS x e),Ow ŭ];exact y7 x #[rfl,hv]
 |some it0 =>
  exists[v0,h0,_],aY x e;rw[qu _ (tU h0),Ox (show(some it0).isSome=true from rfl)];clear e h0;induction x with
  |nil=>exact .nil
  |@cons p q _ _ r _ ih =>
   rw[Zr,Zr];refine .cons ?_ ih;by_cases c:p.1=nk n
   .rw[Ox c,Ox (jM (r.1.symm.trans c))];exact#[r.1,hv]
   .rw[Ow c,Ow λz=>c (r.1.trans (Z2 nk z))];exact r
theorem bS(x:Ý):Ĉ=à:=Zv x
#check 0
inductive OlAt(C:OC)(H:Hp)(p d g:OC)(ol:Ol):Prop
 |mk (kvs gvs:_) (h0:À) (h1:Ì):OlAt C H p d g ol
inductive GoneAt(H:Hp)(g:OC)(gs:As Unit):Prop
 |mk (gvs:_) (h0:H g=some ť) (h1:Rws (λv _=>v=.bl true) gvs gs):GoneAt H g gs
theorem OlAt.same(x:Ò)(s:Ó):OlAt C H' p d g ol:=by exists[kvs,gvs,h1,h2],x;exact#[kvs,gvs,h1.same s,h2.ts (OO s)]
theorem GoneAt.same(x:GoneAt H g gs)(s:Ó):GoneAt H' g gs:=by exists[gvs,h1,h2],x;exact#[gvs,s _ _ h1,h2]
theorem But.ts(x:Ŵ)(h:Ĥ):TS H H':=λa zs e=>x a _ e ķ
theorem But.put{d:OC}{H H':Hp}(s:Ó)(o:HO):But d H (upd H' d o):=λb u h n=>by rw[af n];exact s _ _ h
theorem But.trans(x:Ŵ)(y:But d H' H2):But d H H2:=λb u h n=>y b u (x b u h n) n
theorem But.of(s:Ó):But d H H':=λb u h _=>s b u h
theorem fR{p d g t:OC}(S:À)(R:Ì)(s:Ó)(hi:ItAt H' Ĝ it):OlAt C ŀ p d g Ō:=by have td:TS H' ŀ:=ky (s _ _ S.dc);exact#[_,_,(S.same s).put,Rows.ts (fB (Rows.ts R (OO s)) hi) td]
inductive Und(ol:Ol)(o:Nm):Nat->Option Nm->Bool->Prop
 |none:Und ol o 0 none false
 |self:Und ol o 0 (some o) true
 |up {k:ĕ} {n:Nm} {it:It} {b:Ĳ}:n≠o->look ol n=some it->Und ol o k Ę b->Und ol o (k+1) Ľ b
inductive spUnder(C:OC)(vs:OU)(H:Hp)(Q:VK)(E_:XK):Prop
 |mk (p d g:OC) (ol:Ol) (u v:V) (one:ì) (o:Nm) (k:ĕ) (b:Ĳ) (h0:vs=[.ref p,u,v]) (h1:Ò) (h2:UpAt H u one) (h3:NameIs H v (nk o)) (h4:Und ol o k one b) (h5:Q (.bl b) H):spUnder C vs H Q E_
theorem kY(F:Fun K "at_or_beneath" "Plain.at_or_beneath" dY f fd)(T:ä)(pi:mg "UP" = some (.int 0 tk)):↑FnOk CX0 1 f fd ["self","one","other"] Ŕ:=by
 exists fT
 obtain⟨p,d,g,ol,u,v,one,o,k,b,rfl,⟨kvs,gvs,S,R⟩,hu,hv,un,q⟩:=h;obtain⟨⟨dx,h1⟩,h2,h3,h4⟩:=id S;exists[vb,rfl,hvb],id hv;exists _,(b_c (tJ ZT (t_w (fg (aE iR ↑1 bX) (eO (aE (xD Ô) ↑1 ↑2)))) (b_1 (aA (i:=1) fT.nd (am ao Æ Ĩ))))
   (b_1 (ax (cG iR ↑1 bX))))
 refine#[λm Y H'=>H'=H/\∃(u:V) (one:ì),UpAt H u one/\Und ol o m one b/\Y=[some Ď,some u,some Ů],#[k,rfl,u,one,hu,un,rfl],?_];rintro m Y H' ⟨rfl,u,one,hu,un,rfl⟩;cases un with
 |none =>obtain rfl:u=.non:=hu;refine#[_,rfl,rfl,_,rfl,mO rfl Ŏ];exact#[_,rfl,rfl,q]
 |self =>exists[ub,rfl,hub],id hu;refine#[_,rfl,rfl,_,rfl,mM nofun ?_];refine#[_,rfl,_,rfl,ub,vb,[o.1,o.2],[o.1,o.2],rfl,rfl,hub,hvb,_,rfl,?_];rw[decide_eq_true rfl];refine aC ?_;exact#[_,rfl,rfl,q]
 |@up m n it _ hn hl un =>
  exists[ub,rfl,hub],id hu;exists[iv,e1,ia,uv,pv,rfl,e2,e3,e4],aY R hl;refine#[_,rfl,rfl,_,rfl,mM nofun ?_];refine#[_,rfl,_,rfl,ub,vb,[n.1,n.2],[o.1,o.2],rfl,rfl,hub,hvb,_,rfl,?_];have:¬ ([n.1,n.2]=[o.1,o.2]):=λz=>hn (by
   injection z with z1 z2;injection z2 with z2 _;exact Prod.ext z1 z2)
  rw[decide_eq_false this];refine aQ ?_;refine#[λY H2=>H2=H'/\Y=[some Ď,some uv,some Ů],?_,?_]
  .rintro σ' H2 ⟨rfl,rfl⟩;exact#[m,YC m,rfl,uv,Ę,e3,un,rfl]
  .refine#[_,rfl,p,C,dx,_,_,rfl,h1,T.cl,T.nH,bc _ _,_,rfl,d,.ref ia,rfl,e1▸DGet.t (k:=nk n) h2 hub,?_];exact#[ia,_,_,_,rfl,rfl,OP e2,at0,rfl,rfl]
inductive Sd
 |put (n:Nm)(u:ì)(pl:OJ)(tx:ć)
 |move (n:Nm)(u:ì)(pl:OJ)
 |write (n:Nm)(tx:ć)
 |mark (n:Nm)(b:Ĳ)
 |due (n:Nm)(w:Option Int)
 |fold (n:Nm)(b:Ĳ)
 |part (n:Nm)(a:ĺ)(m:Nm)(pl:OJ)
 |join (n m:Nm)
 |gone (n:Nm)
def StAt(H:Hp)(st:OC):Sd->Prop
 |.put n u pl tx=>∃nv uv pv,H st=some (.tup [.str "put",nv,uv,pv,.str tx])/\NameIs H nv É/\UpAt H uv u/\PlAt H pv pl
 |.move n u pl=>∃nv uv pv,H st=some Ā/\NameIs H nv É/\UpAt H uv u/\PlAt H pv pl
 |.write n tx=>∃nv,H st=some (.tup [.str "write",nv,.str tx])/\NameIs H nv É
 |.mark n b=>∃nv,H st=some (.tup [.str "mark",nv,.bl b])/\NameIs H nv É
 |.due n w=>∃nv,H st=some (.tup [.str "due",nv,whV w])/\NameIs H nv É
 |.fold n b=>∃nv,H st=some (.tup [.str "fold",nv,.bl b])/\NameIs H nv É
 |.part n a m pl=>∃nv mv pv,H st=some ê/\NameIs H nv É/\NameIs H mv ĥ/\PlAt H pv pl
 |.gone n=>∃nv,H st=some (.tup [.str "gone",nv])/\NameIs H nv É
 |.join n m=>∃nv mv,H st=some ĉ/\NameIs H nv É/\NameIs H mv ĥ
theorem StAt.ts{st:OC}(x:Ć)(t:ý):StAt H' st s:=by
 cases s with
 |put=>exists[nv,uv,pv,h1,h2,h3,h4],x;exact#[nv,uv,pv,t _ _ h1,h2.ts' t,h3.ts t,h4.ts t]
 |move=>exists[nv,uv,pv,h1,h2,h3,h4],x;exact#[nv,uv,pv,t _ _ h1,h2.ts' t,h3.ts t,h4.ts t]
 |write=>exists[nv,h1,h2],x;exact#[nv,t _ _ h1,h2.ts' t]
 |mark=>exists[nv,h1,h2],x;exact#[nv,t _ _ h1,h2.ts' t]
 |due=>exists[nv,h1,h2],x;exact#[nv,t _ _ h1,h2.ts' t]
 |fold=>exists[nv,h1,h2],x;exact#[nv,t _ _ h1,h2.ts' t]
 |gone=>exists[nv,h1,h2],x;exact#[nv,t _ _ h1,h2.ts' t]
 |part=>exists[nv,mv,pv,h1,h2,h3,h4],x;exact#[nv,mv,pv,t _ _ h1,h2.ts' t,h3.ts' t,h4.ts t]
 |join=>exists[nv,mv,h1,h2,h3],x;exact#[nv,mv,t _ _ h1,h2.ts' t,h3.ts' t]
def Sd.items:Sd->List Nm
 |.put _ u _ _=>ĵ
 |.move n u _=>n::ĵ
 |.write n _=>[n]
 |.mark n _=>[n]
 |.due n _=>[n]
 |.fold n _=>[n]
 |.part n _ _ _=>[n]
 |.join n m=>[n,m]
 |.gone n=>[n]
def Sd.news:Sd->List Nm
 |.put n _ _ _=>[n]
 |.part _ _ m _=>[m]
 |_=>[]
inductive Bd(ol:Ol):Sd->Option Bool->Prop
 |put {n u pl tx}:Bd ol ĩ none
 |write {n tx}:Bd ol Ł none
 |mark {n b}:Bd ol ŕ none
 |due {n w}:Bd ol ş none
 |fold {n b}:Bd ol Ŗ none
 |gone {n}:Bd ol ů none
 |move {n u pl k b}:Und ol n k u b->Bd ol ĸ ë
 |join {n m k b}:Und ol m k Ľ b->Bd ol ŗ ë
 |part {n a m pl it}:look ol n=some it->Bd ol Ī (if(ø:ĺ)<a then some false else none)
def dX(n m:Nm)(it:It):It:=if Ę=some m then{ it with up:=some n }else it
theorem ID(n m:Nm)(it:It):dX n m Ř=dX n m it:=by
 unfold dX;by_cases c:Ę=some m
 .rw[Ox c];by_cases c2:n=m
  .rw[c2,Ox rfl]
  .rw[Ow λz=>c2 (Zo z)]
 .rw[Ow c,Ow c]
structure JoinR(ol:Ol)(n m:Nm)(itn itm:It)(ol':Ol):Prop where
 len:ol'.length=à
 nm:ol'.map (·.1)=ol.map (·.1)
 lk:∃itm2,look (aF ol n { itn with tx:=ï++ð }) m=some itm2/\∀x,look ol' x=(look (aF (aF ol n { itn with tx:=ï++ð }) m { itm2 with tx:="" }) x).map ĝ
inductive Ap(ol:Ol):Sd->Ol->Prop
 |put {n u pl tx}:Ap ol ĩ (aF ol n #[u,pl,tx,false,none,false])
 |move {n u pl it}:look ol n=some it->Ap ol ĸ (aF ol n { it with up:=u,pl:=pl })
 |write {n tx it}:look ol n=some it->Ap ol Ł (aF ol n { it with tx:=tx })
 |mark {n b it}:look ol n=some it->Ap ol ŕ (aF ol n { it with dn:=b })
 |due {n w it}:look ol n=some it->Ap ol ş (aF ol n { it with wh:=w })
 |fold {n b it}:look ol n=some it->Ap ol Ŗ (aF ol n { it with fo:=b })
 |part {n a m pl it}:look ol n=some it->Ap ol Ī (aF (aF ol n { it with tx:=dq ö none Á }) m #[Ę,pl,dq ö Á none,false,none,false])
 |gone {n}:Ap ol ů ol
 |join {n m itn itm ol'}:look ol n=some itn->look ol m=some itm->JoinR ol n m itn itm ol'->Ap ol ŗ ol'
theorem G4{st:OC}(hs:Ć)(hb:Bd ol s r):
  (r=none/\∃wd ps,H st=some Ě/\V.str wd≠V.str "move"/\V.str wd≠V.str "join"/\V.str wd≠V.str "part") \/
  (∃n u k b nv uv pv,H st=some Ā/\NameIs H nv É/\UpAt H uv u/\Und ol n k u b/\r=if b=true then some true else none) \/
  (∃n m k b nv mv,H st=some ĉ/\NameIs H nv É/\NameIs H mv ĥ/\Und ol m k Ľ b/\r=if b=true then some true else none) \/
  (∃n a it nv mv pv,H st=some ê/\NameIs H nv É/\look ol n=some it/\r=if(ø:ĺ)<a then some false else none):=by
 cases hb with
 |put=>exists[nv,uv,pv,h1,_],hs;exact .inl #[rfl,_,_,h1,⋯,⋯,⋯]
 |write=>exists[nv,h1,_],hs;exact .inl #[rfl,_,_,h1,⋯,⋯,⋯]
 |mark=>exists[nv,h1,_],hs;exact .inl #[rfl,_,_,h1,⋯,⋯,⋯]
 |due=>exists[nv,h1,_],hs;exact .inl #[rfl,_,_,h1,⋯,⋯,⋯]
 |fold=>exists[nv,h1,_],hs;exact .inl #[rfl,_,_,h1,⋯,⋯,⋯]
 |gone=>exists[nv,h1,_],hs;exact .inl #[rfl,_,_,h1,⋯,⋯,⋯]
 |move un=>exists[nv,uv,pv,h1,h2,h3,_],hs;exact .inr (.inl #[_,_,_,_,nv,uv,pv,h1,h2,h3,un,rfl])
 |join un=>exists[nv,mv,h1,h2,h3],hs;exact .inr (.inr (.inl #[_,_,_,_,nv,mv,h1,h2,h3,un,rfl]))
 |part hl=>exists[nv,mv,pv,h1,h2,h3,_],hs;exact .inr (.inr (.inr #[_,_,_,nv,mv,pv,h1,h2,hl,rfl]))
inductive spBoundsF(C cB cF:OC)(vs:OU)(H:Hp)(Q:VK)(E:XK):Prop
 |mk (p d g st:OC) (ol:Ol) (s:Sd) (r:Option Bool) (h0:Ú) (h1:Ò) (h2:Ć) (h3:Bd ol s r) (h4:(∀n it,look ol n=some it->ø<=4000)) (h5:(r=some true->E Ű none H)) (h6:(r=some false->E ű none H)) (h7:(r=none->Q .non H)):spBoundsF C cB cF vs H Q E
theorem kZ(F:Fun K "check_bounds" "Plain.check_bounds" eI f fd)(T:ä)(a9:↑MFn 1 C "at_or_beneath" ["self","one","other"] Ŕ)(c6:Ù)(a8:Ļ)(x_Beneath:ExCls K cB)(j5:mg "Beneath" = some Ű)(x_Far:ExCls K cF)(Nx:mg "Far" = some ű):↑FnOk ũ 2 f fd ["self","step"] (spBoundsF C cB cF):=by
 refine F.okX lV ģ î
 .exists[p,d,g,st,ol,sd,r,rfl,_],h;rfl
 exists[p,d,g,st,ol,sd,r,rfl,O,hs,hb,htx,q1,q2,q3],h;exists[kvs,gvs,S,R],id O;obtain⟨⟨dx,h1⟩,h2,h3,h4⟩:=id S;exists _,(b_c Â
   (b_c Â
   (b_1 (aT (t_w (fg (aE bO å ar) (eO (aE xC å (q_B BO a8 Ya (q_a (am ao (cg Ô Ö å) ñ) ah)))))) (b_1 (pH (im eG) rfl x_Far Nx Ą)) b_0))))
 rcases G4 hs hb with⟨hr',wd,ps,hst,n1,n2,n3⟩|⟨n,u,k,b,nv,uv,pv,hst,hn,hu,un,hr'⟩|⟨n,m,k,b,nv,mv,hst,hn,hm,un,hr'⟩|⟨n,a,it,nv,mv,pv,hst,hn,hl,hr'⟩
 .refine(vix rfl Ê at0 #[rfl,_,rfl,aL n1 Ŏ]);refine(vix rfl Ê at0 #[rfl,_,rfl,aL n2 Ŏ]);exact(vix rfl Ê at0 #[rfl,_,rfl,aL n3 (aC (q3 hr'))])
 .refine Î;refine#[_,rfl,p,dx,_,rfl,h1,dB _ _,vix rfl Ê at2 (vix rfl Ê at1 #[p,d,g,ol,uv,nv,u,n,k,b,rfl,O,hu,hn,un,_,rfl,?_])];cases b with
  |true=>exact aQ #[sz rfl,q1 hr']
  |false =>refine aC ?_;refine Ã;exact Þ
 .refine Ã;refine Î;refine#[_,rfl,p,dx,_,rfl,h1,dB _ _,vix rfl Ê at1 (vix rfl Ê at2 #[p,d,g,ol,nv,mv,some n,m,k,b,rfl,O,hn,hm,un,_,rfl,?_])];cases b with
  |true=>exact aQ #[sz rfl,q1 hr']
  |false =>refine aC ?_;exact Þ
 .refine Ã;refine Ã;refine Î;exists[iv,e1,ia,uv,pv',rfl,e2,e3,e4],aY R hl;exists[nb,rfl,hnb],hn;refine(vix rfl Ê at2 #[_,rfl,p,C,dx,_,_,rfl,h1,T.cl,T.nH,bc _ _,vix rfl Ê at1 #[d,.ref ia,rfl,e1▸DGet.t (k:=nk n) h2 hnb,ia,_,_,_,rfl,rfl,OP e2,at2,ö,rfl,(by have:=htx n it hl;omega),_,_,rfl,rfl,_,rfl,?_]]);refine kT í í
  .rw[Ox ∅]at hr';exact#[sz rfl,q2 hr']
  .rw[Ow ∅]at hr';exact q3 hr'
inductive spPartI(C:OC)(vs:OU)(H:Hp)(Q:VK)(E_:XK):Prop
 |mk (p d g:OC) (ol:Ol) (nv mv pv:V) (n m:Nm) (a:ĺ) (pl:OJ) (it:It) (h0:vs=[.ref p,nv,.int a,mv,pv]) (h1:Ò) (h2:Ņ) (h3:ņ) (h4:PlAt H pv pl) (h5:Į) (h6:à<=400) (h7:ø<=100000) (h8:∀H',But d H H'->OlAt C H' p d g (aF (aF ol n { it with tx:=dq ö none Á }) m #[Ę,pl,dq ö Á none,false,none,false])->Q .non H'):spPartI C vs H Q E_
theorem dE{β:ď}(l:ą)(n:Nm)(i:β):(aF l n i).length<=ŷ+1:=by
 unfold aF;split
 .rw[Zd];omega
 .rw[Zf];exact Zi _
abbrev fO:Stmt:=cz ß 6
abbrev pK:List Str:=["self","name","at","new","place","item","ahead"]
theorem fE:FnScope pK ["self","name","at","new","place"] (aq fO):= ~~~0
theorem oo(F:Fun K "part_item" "Plain.part_item" fO f fd)(T:ä)(i5:Ð)(j6:↑MFn 1 C "bring_in" ["self","name","up","place","text"] ő)(c6:Ù)(pi:Ċ)(Ny:mg "max" = none):↑FnOk CX0 2 f fd ["self","name","at","new","place"] (spPartI C):=by
 exists fE
 obtain⟨p,d,g,ol,nv,mv,pv,n,m,a,pl,it,rfl,⟨kvs,gvs,S,R⟩,hn,hm,hp,hl,l4,lt,q⟩:=h;obtain⟨⟨dx,h1⟩,h2,h3,h4⟩:=id S;exists[nb,rfl,hnb],id hn;exists[iv,e1,ia,uv,pv',rfl,e2,e3,e4],aY R hl;have lk:=bS R;exists _,(b_c (aA (i:=5) fE.nd Æ)
   (b_c (aA (i:=6) fE.nd (q_B (F8 rfl) Ny wj (q_a ↑2 (q_a ai ah))))
   (b_c (bu (dC i5 ↑99 ↑0 (q_a ↑1 (q_a ñ (q_a (aD (q_a (eE Cw ı eV Ų) ah)) ah)))))
   (b_1 (bu (dC j6 ↑99 ↑0 (q_a ↑3 (q_a (am ao ↑5 Ĩ) (q_a ↑4 (q_a (eE Cw ı Ų eV) ah))))))))))
 refine#[_,rfl,p,C,dx,_,_,rfl,h1,T.cl,T.nH,bc _ _,_,rfl,d,.ref ia,rfl,e1▸DGet.t (k:=nk n) h2 hnb,?_];refine#[_,rfl,_,_,rfl,?_];refine#[_,rfl,p,dx,_,rfl,h1,dB _ _,_,rfl,vix rfl (OP e2) at2 #[_,rfl,_,rfl,ö,rfl,lt,sz rfl,λva gva=>?_]];have wv:=ad gva (.tup [.str (dq ö none Á)]);refine#[p,d,g,ia,va,kvs,gvs,.ref nb,nk n,2,_,_,rfl,S.same wv,hn.same wv,∅,e1,wv _ _ e2,ac,show 2+1<=6 by decide,show 6<=100 by decide,λt H1 s1 e5=>?_];have s01:Same H H1:=wv.trans s1;have O1:=fR (n:=n) (it:={ it with tx:=dq ö none Á }) S R s01 #[t,uv,pv',rfl,e5,e3.ts Ğ,e4.ts Ğ];have b1:But d H ł:=But.put s01 _;generalize upd H1 d Ä=H2 at O1 b1 ⊢;have t2:=b1.ts h2;exists[kvs2,gvs2,S2,R2],id O1;obtain⟨⟨dx2,y1⟩,y2,y3,y4⟩:=id S2;have lk2:=bS R2;have:=dE ol n { it with tx:=dq ö none Á };refine#[_,rfl,p,dx2,_,rfl,y1,dB _ _,_,rfl,vix rfl ī at0 #[_,rfl,vix rfl ī at2 #[_,rfl,_,rfl,ö,rfl,lt,?_]]];refine#[p,d,g,kvs2,gvs2,mv,uv,pv,.str _,nk m,rfl,S2,hm.ts' t2,∅,λt' H3 s3 e6=>?_];refine q _ (b1.trans (But.put s3 _)) (fR S2 R2 s3 #[t',uv,pv,rfl,e6,(e3.ts t2).ts (OO s3),(hp.ts t2).ts (OO s3)])
inductive spJoinI(C:OC)(vs:OU)(H:Hp)(Q:VK)(E_:XK):Prop
 |mk (p d g:OC) (ol:Ol) (nv mv:V) (n m:Nm) (itn itm:It) (h0:vs=[.ref p,nv,mv]) (h1:Ò) (h2:Ņ) (h3:ņ) (h4:look ol n=some itn) (h5:look ol m=some itm) (h6:à<=400) (h7:itn.tx.length+itm.tx.length<=100000) (h8:∀H' ol',But d H H'->OlAt C H' p d g ol'->JoinR ol n m itn itm ol'->Q .non H'):spJoinI C vs H Q E_
def iu:Option Nm->Qb
 |none=>.none
 |some n=>.tuple [.int n.1,.int n.2]
theorem oS(h:Đ):Dt H (iu u) v/\(iu u).canLay0=true/\(iu u).depth<=1:=by
 cases u with
 |none =>obtain rfl:v=.non:=h;exact#[by simp only[iu,Dt],rfl,⋯]
 |some n =>exists[b,rfl,e],h;refine#[?_,by simp[iu,PyData.canLay0,PyData.canLayAll0],by simp[iu,PyData.depth,PyData.depthAll]];simp only[iu,Dt,DtAll];exact#[b,_,rfl,.inl e,_,_,rfl,rfl,_,_,rfl,rfl,rfl]
theorem rT(u v:ì):PyData.eqv (iu u) (iu v)=decide (u=v):=by
 cases u with
 |none=>cases v<;>rfl
 |some n =>
  cases v with
  |none=>rfl
  |some m =>
   have:=jG [n.1,n.2] [m.1,m.2];show PyData.eqv (.tuple ([n.1,n.2].map PyData.int)) (.tuple ([m.1,m.2].map PyData.int))=_;rw[this,YM];constructor
   .intro z;injection z with z1 z2;injection z2 with z2 _;exact Z2 some (Prod.ext z1 z2)
   .intro z;rw[Zo z]
theorem Fo{β:ď}{R:Ģ}{kvs:OT}{ol:ą}{k:ü}(x:Ý)(h:k∈kvs.map (·.1)):∃n it,k=nk n/\look ol n=some it:=by
 induction x with
 |nil=>exact nomatch h
 |@cons p q _ l r _ ih =>
  rw[Zr]at h;rcases Zg.mp h with rfl|h
  .exact#[q.1,q.2,r.1,by unfold look;rw[Ox rfl]]
  .exists[n,it,h1,h2],ih h;by_cases c:q.1=n
   .exact#[n,q.2,h1,by unfold look;rw[Ox c]]
   .exact#[n,it,h1,by unfold look;rw[Ow c];exact h2]
theorem EJ{β:ď}{l:ą}{n m:Nm}{i:β}:(look (l.map λp=>if p.1=n then(p.1,i)else p) m)=if m=n then(look l m).map (λ_=>i)else look l m:=by
 induction l with
 |nil=>split<;>rfl
 |cons p l ih =>
  rw[Zr];unfold look;by_cases c:p.1=n
  .rw[Ox c];by_cases c2:p.1=m
   .rw[Ox c2,Ox c2,Ox (c2▸c)];rfl
   .rw[Ow c2,Ow c2,ih]
  .rw[Ow c];by_cases c2:p.1=m
   .rw[Ox c2,Ox c2,Ow (λz=>c ō)]
   .rw[Ow c2,Ow c2,ih]
theorem EI{β:ď}{l:ą}{n m:Nm}{i:β}(h:look l n=none):look (l++[(n,i)]) m=if m=n then some i else look l m:=by
 induction l with
 |nil =>
  show(if n=m then some i else none)=_;by_cases c:n=m
  .rw[Ox c,Ox c.symm]
  .rw[Ow c,Ow λz=>c z.symm];rfl
 |cons p l ih =>
  rw[List.cons_append];unfold look at h ⊢;by_cases c:p.1=n
  .rw[Ox c]at h;cases h
  .rw[Ow c]at h;by_cases c2:p.1=m
   .rw[Ox c2,Ox c2,Ow λz=>c ō]
   .rw[Ow c2,Ow c2];exact ih h
theorem ay{β:ď}{l:ą}{n m:Nm}{i:β}:look (aF l n i) m=if m=n then some i else look l m:=by
 unfold aF;cases e:look l n with
 |none =>rw[Ow ŭ];exact EI e
 |some j =>
  rw[Ox (show(some j).isSome=true from rfl),EJ];by_cases c:m=n
  .rw[Ox c,Ox c,c,e];rfl
  .rw[Ow c,Ow c]
theorem gU{β:ď}{l:ą}{n:Nm}{i j:β}(h:look l n=some j):(aF l n i).length=ŷ:=by unfold aF;rw[h,Ox (show(some j).isSome=true from rfl),Zd]
theorem dh{β:ď}{l:ą}{n:Nm}{i:β}:((aF l n i).map (·.1))=if(look l n).isSome=true then Ŷ (·.1)else Ŷ (·.1)++[n]:=by
 unfold aF;by_cases c:(look l n).isSome=true
 .rw[Ox c,Ox c,Z4];apply Y1;intro x _;show(if x.1=n then(x.1,i)else x).1=x.1;by_cases d:x.1=n
  .rw[Ox d]
  .rw[Ow d]
 .rw[Ow c,Ow c,ZA];rfl
theorem xR{β:ď}{R:Ģ}{kvs:OT}{l:ą}(x:Rws R kvs l):kvs.map (·.1)=(l.map (·.1)).map nk:=by
 induction x with
 |nil=>rfl
 |cons r _ ih=>rw[Zr,Zr,Zr,ih,r.1]
theorem zq:∀{a b:Ė},a.map nk=b.map nk->a=b
 | [],[],_=>rfl
 | [],_::_,h=>by cases h
 |_::_,[],h=>by cases h
 |x::a,y::b,h=>by rw[Zr,Zr]at h;injection h with h1 h2;rw[jM h1,zq h2]
theorem EL(R':Rows H' kvs' ol')(R:Ì)(e:kvs'.map (·.1)=kvs.map (·.1))(n:ol.map (·.1)=ns):ol'.map (·.1)=ns:=by rw[xR R',xR R]at e;rw[<-n];exact zq e
abbrev fD:Stmt:=cz ß 7
abbrev nN:List Str:=["self","name","other","joined","lower"]
theorem eY:FnScope nN ["self","name","other"] (aq fD):= ~~~0
theorem nM(F:Fun K "join_items" "Plain.join_items" fD f fd)(T:ä)(i5:Ð)(c6:Ù)(pi:Ċ)(j3:mg "list" = none):↑FnOk CX0 2 f fd ["self","name","other"] (spJoinI C):=by
 exists eY
 obtain⟨p,d,g,ol,nv,mv,n,m,itn,itm,rfl,⟨kvs,gvs,S,R⟩,hn,hm,hln,hlm,l4,lt,q⟩:=h;obtain⟨⟨dx,h1⟩,h2,h3,h4⟩:=id S;exists[nb,rfl,hnb],id hn;exists[mb,rfl,hmb],id hm;exists[iv,e1,ia,uv,pv,rfl,e2,e3,e4],aY R hln;exists[jv,f1,ja,uv',pv',rfl,f2,f3,f4],aY R hlm;have lk:=bS R;exists _,(b_c (aA (i:=3) eY.nd (aK Kc (am ao Æ ñ) (am ao (cg Ô Ö ↑2) ñ)))
   (b_c (bu (dC i5 ↑99 ↑0 (q_a ↑1 (q_a ñ (q_a (aD Ŀ) ah)))))
   (b_c (bu (dC i5 ↑99 ↑0 (q_a ↑2 (q_a ñ (q_a (aD Ą) ah)))))
   (b_1 (dG ZT rfl (bD (mU (su rfl) j3 gP (q_a Ö ah))) (aw (i:=4) eY.nd) (b_1 (aT (aE (ik Ô) (am ao (cg Ô Ö ↑4) Ĩ) ↑2) (b_1 (bu (dC i5 ↑99 ↑0 (q_a ↑4 (q_a Ĩ (q_a (aD (q_a ↑1 ah)) ah)))))) b_0)))))))
 refine#[_,rfl,p,C,dx,_,_,rfl,h1,T.cl,T.nH,bc _ _,_,rfl,d,.ref ia,rfl,e1▸DGet.t (k:=nk n) h2 hnb,ia,_,_,_,rfl,rfl,OP e2,at2,?_];refine#[_,rfl,p,C,dx,_,_,rfl,h1,T.cl,T.nH,bc _ _,_,rfl,d,.ref ja,rfl,f1▸DGet.t (k:=nk m) h2 hmb,ja,_,_,_,rfl,rfl,OP f2,at2,_,_,rfl,rfl,GG ∅,?_];refine#[_,rfl,p,dx,_,rfl,h1,dB _ _,_,rfl,_,rfl,sz rfl,λva gva=>?_];have wv:=ad gva (.tup [.str (ï++ð)]);refine#[p,d,g,ia,va,kvs,gvs,.ref nb,nk n,2,_,_,rfl,S.same wv,hn.same wv,∅,e1,wv _ _ e2,ac,show 2+1<=6 by decide,show 6<=100 by decide,λt H1 s1 e5=>?_];have s01:Same H H1:=wv.trans s1;have O1:=fR (n:=n) (it:={ itn with tx:=ï++ð }) S R s01 #[t,uv,pv,rfl,e5,e3.ts Ğ,e4.ts Ğ];have b1:But d H ł:=But.put s01 _;generalize upd H1 d Ä=H2 at O1 b1 ⊢;have t2:=b1.ts h2;exists[kvs2,gvs2,S2,R2],id O1;obtain⟨⟨dx2,y1⟩,y2,y3,y4⟩:=id S2;have lk2:=bS R2;have ls2:(aF ol n { itn with tx:=ï++ð }).length=à:=gU hln;obtain⟨itm2,hlm2⟩:∃it,look (aF ol n { itn with tx:=ï++ð }) m=some it:=by
  rw[ay];split
  .exact#[_,rfl]
  .exact#[_,hlm]
 exists[kv,g1,ka,uw,pw,rfl,g2,g3,g4],aY R2 hlm2;refine#[_,rfl,p,dx2,_,rfl,y1,dB _ _,_,rfl,sz rfl,λvb gvb=>?_];have wb:=ad gvb (.tup [.str ""]);refine#[p,d,g,ka,vb,kvs2,gvs2,.ref mb,nk m,2,_,_,rfl,S2.same wb,(hm.ts' t2).same wb,∅,g1,wb _ _ g2,ac,show 2+1<=6 by decide,show 6<=100 by decide,λt' H3 s3 e6=>?_];have s23:Same H2 H3:=wb.trans s3;have O3:=fR (n:=m) (it:={ itm2 with tx:="" }) S2 R2 s23 #[t',uw,pw,rfl,e6,g3.ts (OO s23),g4.ts (OO s23)];have b3:But d H (upd H3 d ù):=b1.trans (But.put s23 _);generalize upd H3 d ù=H4 at O3 b3 ⊢;have t4:=b3.ts h2;exists[kvs4,gvs4,S4,R4],id O3;obtain⟨⟨dx4,z1⟩,z2,z3,z4⟩:=id S4;have ls4:(aF (aF ol n { itn with tx:=ï++ð }) m { itm2 with tx:="" }).length=à:=(gU hlm2).trans ls2;generalize hO4:aF (aF ol n { itn with tx:=ï++ð }) m { itm2 with tx:="" }=ol4 at O3 R4 ls4;refine#[_,rfl,p,C,dx4,_,_,rfl,z1,T.cl,T.nH,bc _ _,d,kvs4,rfl,.inl z2,λl ks gl hk=>#[l,rfl,#[_,OQ ac],?_]];have wl:=ad gl ā;have el:upd H4 l ā l=some ā:=ac;have nld:l≠d:=λz=>by rw[z,z2]at gl;cases gl
 have O5:PlainAt C Õ p d g kvs4 gvs4:=S4.same wl;have R5:Rows Õ kvs4 ol4:=R4.ts (OO wl);have hk5:cY Õ kvs4 ks:=LR hk (OO wl);have b5:But d H Õ:=b3.trans (But.of wl);have nb5:=wl _ _ (t4 _ _ hnb);have mb5:=wl _ _ (t4 _ _ hmb);generalize upd H4 l ā=H5 at el O5 R5 hk5 b5 nb5 mb5 ⊢;have lks:=JW hk5;refine eh (K:=K) (a:=l) (xs:=ks) (λi Y H'=>But d H5 H'/\∃(kvs':OT) (ol':Ol) (o4:Option V),PlainAt C H' p d g kvs' gvs4/\Rows H' kvs' ol'/\kvs'.map (·.1)=kvs4.map (·.1)/\ol'.length=à/\((∀x,nk x∈(kvs4.map (·.1)).take i->look ol' x=(look ol4 x).map ĝ)/\∀x,¬nk x∈(kvs4.map (·.1)).take i->look ol' x=look ol4 x)/\Y=[some Ď,some (.ref nb),some (.ref mb),some (.str (ï++ð)),o4])
  #[But.of (Same.refl _),kvs4,ol4,none,O5,R5,rfl,ls4,#[λx h=>by simp at h,λ_ _=>rfl],rfl] (λi Y H' _ z=>OQ (z.1 _ _ el nld)) ?_ ?_
 .rintro i v Y H' hv ⟨bt,kvs',ol',o4,S',R',hk',ll,⟨j1,j2⟩,rfl⟩ DL hDL;have tt:=bt.ts O5.dc;obtain⟨⟨dx',x1⟩,x2,x3,x4⟩:=id S';exists[k,k1,vb',rfl,k2],JV hk5 hv;exists[c,it,rfl,hc],Fo R' (by rw[hk'];exact ZI k1);exists[cv,c1,ca,uc,pc,rfl,c2,c3,c4],aY R' hc;exists[p1,p2,p3],oS c3;exists[r1,r2,r3],oS (u:=some m) (v:=.ref mb) #[mb,rfl,tt _ _ mb5];have et:(kvs4.map (·.1)).take ă=(kvs4.map (·.1)).take i++[nk c]:=by rw[List.take_succ,k1];rfl
  have h4:(look ol4 c).map ĝ=some Ř:=by
   by_cases cm:nk c∈(kvs4.map (·.1)).take i
   .have:=j1 c cm;rw[hc]at this;cases e:look ol4 c with
    |none=>rw[e]at this;cases this
    |some it4 =>rw[e]at this;have e2:it=dX n m it4:=Zo this;rw[e2,ID];rfl
   .rw[<-j2 c cm,hc];rfl
  have stp:∀ol'':Ol,(∀x,look ol'' x=if x=c then some (dX n m it)else look ol' x)->(∀x,nk x∈(kvs4.map (·.1)).take ă->look ol'' x=(look ol4 x).map ĝ)/\∀x,¬nk x∈(kvs4.map (·.1)).take ă->look ol'' x=look ol4 x:=λol'' ho=>by
   refine#[λx hx=>?_,λx hx=>?_]
   .rw[ho x];by_cases e:x=c
    .rw[Ox e,e,h4]
    .rw[Ow e];rw[et]at hx;rcases ZE.mp hx with hx|hx
     .exact j1 x hx
     .exact absurd (jM (Zh.mp hx)) e
   .rw[et]at hx;rw[ho x,Ow λe=>hx (ZE.mpr (.inr (Zh.mpr (Z2 nk e))))];exact j2 x λz=>hx (ZE.mpr (.inl z))
  refine#[_,rfl,p,C,dx',_,_,rfl,x1,T.cl,T.nH,bc _ _,_,rfl,d,.ref ca,rfl,c1▸DGet.t (k:=nk c) x2 ř,ca,_,_,_,rfl,rfl,OP c2,at0,_,rfl,_,_,p1,r1,bU p2 ∅,bU r2 ∅,_,rfl,?_];have lk':=bS R';rw[rT];refine kT Š Š
  .refine#[_,rfl,p,dx',_,rfl,x1,dB _ _,_,rfl,_,rfl,sz rfl,λvc gvc=>?_];have wc:=ad gvc (.tup [.ref nb]);refine#[p,d,g,ca,vc,kvs',gvs4,_,nk c,0,_,_,rfl,S'.same wc,#[vb',rfl,wc _ _ ř],∅,c1,wc _ _ c2,ac,show 0+1<=6 by decide,show 6<=100 by decide,λt6 H6 s6 e7=>?_];have s56:Same H' H6:=wc.trans s6;have hi:ItAt H6 İ { it with up:=some n }:=#[t6,.ref nb,pc,rfl,e7,#[nb,rfl,s56 _ _ (tt _ _ nb5)],c4.ts (OO s56)]
   have td:TS H6 (upd H6 d (.dT (bj kvs' (nk c) İ))):=ky (s56 _ _ x2);have er:dX n m it={ it with up:=some n }:=by unfold dX;rw[Ox eu]
   exact hDL _ _ #[bt.trans (But.put s56 _),bj kvs' (nk c) İ,aF ol' c { it with up:=some n },_,(S'.same s56).put,Rows.ts (fB (Rows.ts R' (OO s56)) hi) td,by rw[EA (tU c1)];exact hk',by rw[gU hc];exact ll,stp _ λx=>by rw[ay,er],rfl]
  .refine hDL _ _ #[bt,kvs',ol',_,S',R',hk',ll,stp ol' λx=>?_,rfl];by_cases e:x=c
   .rw[Ox e,e,hc];unfold dX;rw[Ow eu]
   .rw[Ow e]
 .rintro Y H' ⟨bt,kvs',ol',o4,S',R',hk',ll,⟨j1,j2⟩,rfl⟩;refine q H' ol' (b5.trans bt) #[kvs',gvs4,S',R'] #[ll,EL R' R4 hk' (by rw[<-hO4,dh,Ox (by rw[hlm2];rfl),dh,Ox (by rw[hln];rfl)]),itm2,hlm2,λx=>?_];rw[hO4];have ee:(kvs4.map (·.1)).take ţ=kvs4.map (·.1):=by rw[YK];rw[Zd,lks];exact Zi _
  rw[ee]at j1 j2;by_cases hx:nk x∈kvs4.map (·.1)
  .exact j1 x hx
  .rw[j2 x hx];have:=iF (n:=x) R4;rw[kX hx]at this;cases e:look ol4 x with
   |none=>rfl
   |some it=>rw[e]at this;cases this
def All3(H:Hp)(kvs:OT)(ws:Í)(ps:OU)(bs:Ë):Prop:=∀(i:ĕ) (w:ć) (v:V) (b:Ĳ),ws[i]?=some w->ps[i]?=some v->bs[i]?=some b->PartB H kvs w v b
theorem All3.nil:All3 H kvs [] [] []:=λi w v b h=>by simp at h
theorem All3.cons{H:Hp}{kvs:OT}{ws:Í}{ps:OU}{bs:Ë}{w:ć}{v:V}{b:Ĳ}(h:ĭ)(t:All3 H kvs ws ps bs):All3 H kvs (w::ws) ė (b::bs):=λi w' v' b' h1 h2 h3=>by
 cases i with
 |zero=>cases h1;cases h2;cases h3;exact h
 |succ i=>exact t i _ _ _ h1 h2 h3
def ME(ws:Í)(bs:Ë):Prop:=∀(i:ĕ) (w:ć),ws[i]?=some w->isI w->bs[i]?=some true
def upB(ol:Ol):Option Nm->Bool
 |none=>true
 |some n=>(look ol n).isSome
section
theorem Ks(R:Ì)(h:ó):PartB H kvs "new" v æ:=#[λ_=>#[nk n,h,by rw[iF R]],λz=>absurd z ⋯]
theorem Ic(R:Ì)(h:ó):PartB H kvs "item" v (look ol n).isSome:=#[λz=>absurd z ⋯,λ_=>.inr #[nk n,h,by rw[iF R]]]
theorem L7(R:Ì)(h:Đ):PartB H kvs "up" v (upB ol u):=#[λz=>absurd z ⋯,λ_=>by
 cases u with
 |none=>exact .inl #[h,rfl]
 | some n=>exact .inr #[nk n,h,by rw[iF R];rfl]]
theorem Kt{w:ć}(h1:w≠"new")(h2:¬isI w):PartB H kvs w v true:=#[λz=>absurd z h1,λz=>absurd z h2]
#check 0
theorem Co:isI "item":=.inl rfl
theorem JR:isI "up":=.inr rfl
theorem mi{w:ć}(h:w="place"\/w="text"\/w="truth"\/w="whom"\/w="at"):w≠"new"/\¬isI w:=by rcases h with rfl|rfl|rfl|rfl|rfl<;>exact#[⋯,by unfold isI;decide +kernel]
theorem MB:¬isI "new":=by unfold isI;decide +kernel
theorem Lv:¬(("item":Str)="new")/\¬(("up":Str)="new"):=⋯
inductive Prt(H:Hp)(ol:Ol):List Str->OU->List Bool->List Nm->List Nm->Prop
 |nil:Prt H ol [] [] [] [] []
 |item {v:V} {n:Nm} {ws:Í} {ps:OU} {bs:Ë} {is ns:Ė} (h:ó) (t:Å):Prt H ol ("item"::ws) ė ((look ol n).isSome::bs) (n::is) ns
 |up {v:V} {u:ì} {ws:Í} {ps:OU} {bs:Ë} {is ns:Ė} (h:Đ) (t:Å):Prt H ol ("up"::ws) ė (upB ol u::bs) (ĵ++is) ns
 |new {v:V} {n:Nm} {ws:Í} {ps:OU} {bs:Ë} {is ns:Ė} (h:ó) (t:Å):Prt H ol ("new"::ws) ė (æ::bs) is (n::ns)
 |oth {w:ć} {v:V} {ws:Í} {ps:OU} {bs:Ë} {is ns:Ė} (h:w≠"new"/\¬isI w) (t:Å):Prt H ol (w::ws) ė (true::bs) is ns
theorem Prt.all(R:Ì){bs:Ë}(h:Å):All3 H kvs ws ps bs/\Ħ=ç/\ħ=ç:=by
 induction h with
 |nil=>exact#[.nil,rfl,rfl]
 |item h _ ih=>exact#[.cons (Ic R h) ih.1,Z2 (·+1) ih.2.1,Z2 (·+1) ih.2.2]
 |up h _ ih=>exact#[.cons (L7 R h) ih.1,Z2 (·+1) ih.2.1,Z2 (·+1) ih.2.2]
 |new h _ ih=>exact#[.cons (Ks R h) ih.1,Z2 (·+1) ih.2.1,Z2 (·+1) ih.2.2]
 |oth h _ ih=>exact#[.cons (Kt h.1 h.2) ih.1,Z2 (·+1) ih.2.1,Z2 (·+1) ih.2.2]
def ie(ol:Ol)(n:Nm):Bool:=(look ol n).isNone
theorem Prt.news{bs:Ë}(h:Å):(∀i:Nat,ws[i]?=some "new"->bs[i]?=some false->∃n∈ns,(look ol n).isSome=true)/\((∀i:Nat,ws[i]?=some "new"->bs[i]?=some true)->∀n∈ns,look ol n=none):=by
 induction h with
 |nil=>exact#[(λi e=>by simp at e),Ĕ]
 |item h _ ih =>
  refine#[λi e1 e2=>?_,λz=>ih.2 λi e=>z ă e];cases i with
  |zero=>exact absurd ŏ Lv.1
  |succ i=>exact ih.1 i e1 e2
 |up h _ ih =>
  refine#[λi e1 e2=>?_,λz=>ih.2 λi e=>z ă e];cases i with
  |zero=>exact absurd ŏ Lv.2
  |succ i=>exact ih.1 i e1 e2
 |@new v n ws ps bs is ns h _ ih =>
  refine#[λi e1 e2=>?_,λz m hm=>?_]
  .cases i with
   |zero =>have e2:æ=false:=Zo e2;exact#[n,Zn,by rw[Bool.not_eq_false']at e2;exact e2]
   |succ i =>exists[m,h1,h2],ih.1 i e1 e2;exact#[m,Zj _ h1,h2]
  .rcases Zg.mp hm with rfl|hm
   .have e2:(!(look ol m).isSome)=true:=Zo (z 0 rfl);cases c:look ol m with
    |none=>rfl
    |some x=>rw[c]at e2;cases e2
   .exact ih.2 (λi e=>z ă e) m hm
 |oth h _ ih =>
  refine#[λi e1 e2=>?_,λz=>ih.2 λi e=>z ă e];cases i with
  |zero=>exact absurd ŏ h.1
  |succ i=>exact ih.1 i e1 e2
theorem Prt.items{bs:Ë}(h:Å):(ME ws bs->∀n∈is,(look ol n).isSome=true) /\
  ∀(i:ĕ) (w:ć) (v:V),ws[i]?=some w->ps[i]?=some v->isI w->bs[i]?=some false->Ï->∃n,is.find? (ie ol)=some n/\NameIs H v É:=by
 induction h with
 |nil=>exact#[Ĕ,(λi w v e=>by simp at e)]
 |@item v n ws ps bs is ns h _ ih =>
  refine#[λz m hm=>?_,λi w v' e1 e2 hi e3 pre=>?_]
  .rcases Zg.mp hm with rfl|hm
   .exact Zo (z 0 _ rfl Co)
   .exact ih.1 Č m hm
  .cases i with
   |zero =>
    cases e2;have e3:(look ol n).isSome=false:=Zo e3;refine#[n,?_,h];rw[Yv];unfold ie;cases c:look ol n with
    |none=>rfl
    |some x=>rw[c]at e3;cases e3
   |succ i =>
    exists[m,h1,h2],ih.2 i w v' e1 e2 hi e3 λj w' hj e hw=>pre ŝ w' ∅ e hw;have p0:(look ol n).isSome=true:=Zo (pre 0 _ ∅ rfl Co);refine#[m,?_,h2];rw[Yw]
    .exact h1
    .unfold ie;cases c:look ol n with
     |none=>rw[c]at p0;cases p0
     |some x=>intro z;cases z
 |@up v u ws ps bs is ns h _ ih =>
  refine#[λz m hm=>?_,λi w v' e1 e2 hi e3 pre=>?_]
  .rcases ZE.mp hm with hm|hm
   .cases u with
    |none=>exact nomatch hm
    |some x =>
     obtain rfl:m=x:=by simpa using hm
     exact Zo (z 0 _ rfl JR)
   .exact ih.1 Č m hm
  .cases i with
   |zero =>
    cases e2;cases u with
    |none=>cases e3
    |some x =>
     have e3:(look ol x).isSome=false:=Zo e3;refine#[x,?_,h];show List.find? _ (x::is)=_;rw[Yv];unfold ie;cases c:look ol x with
     |none=>rfl
     |some y=>rw[c]at e3;cases e3
   |succ i =>
    exists[m,h1,h2],ih.2 i w v' e1 e2 hi e3 λj w' hj e hw=>pre ŝ w' ∅ e hw;have p0:upB ol u=true:=Zo (pre 0 _ ∅ rfl JR);refine#[m,?_,h2];cases u with
    |none=>exact h1
    |some x =>
     have p0:(look ol x).isSome=true:=p0;show List.find? _ (x::is)=_;rw[Yw]
     .exact h1
     .unfold ie;cases c:look ol x with
      |none=>rw[c]at p0;cases p0
      |some y=>intro z;cases z
 |new h _ ih =>
  refine#[λz=>ih.1 λi w e hw=>z ă w e hw,λi w v' e1 e2 hi e3 pre=>?_];cases i with
  |zero=>cases e1;exact absurd hi MB
  |succ i=>exact ih.2 i w v' e1 e2 hi e3 λj w' hj e hw=>pre ŝ w' ∅ e hw
 |oth h _ ih =>
  refine#[λz=>ih.1 λi w e hw=>z ă w e hw,λi w v' e1 e2 hi e3 pre=>?_];cases i with
  |zero=>cases e3
  |succ i=>exact ih.2 i w v' e1 e2 hi e3 λj w' hj e hw=>pre ŝ w' ∅ e hw
theorem Lh{st:OC}(h:Ć):∃(wd:ć) (ws:Í) (ps:OU) (bs:Ë),H st=some Ě/\PyProof.Rows.KTD.datumAt wd ST=some (tw ws)/\Prt H ol ws ps bs s.items s.news:=by
 have wp:=mi (w:="place") (.inl rfl);have wt:=mi (w:="text") ú;have wr:=mi (w:="truth") ų;have ww:=mi (w:="whom") (.inr ų);have wa:=mi (w:="at") (.inr (.inr (.inr (.inr rfl))));cases s with
 |put n u pl tx =>exists[nv,uv,pv,h1,h2,h3,h4],h;have:=Prt.up (ol:=ol) h3 (.oth (v:=pv) wp (.oth (v:=.str tx) wt .nil));rw[ZF]at this;exact#[_,_,_,_,h1,rfl,.new h2 this]
 |move n u pl =>exists[nv,uv,pv,h1,h2,h3,h4],h;have:=Prt.up (ol:=ol) h3 (.oth (v:=pv) wp .nil);rw[ZF]at this;exact#[_,_,_,_,h1,rfl,.item h2 this]
 |write n tx =>exists[nv,h1,h2],h;exact#[_,_,_,_,h1,rfl,.item h2 (.oth wt .nil)]
 |mark n b =>exists[nv,h1,h2],h;exact#[_,_,_,_,h1,rfl,.item h2 Ĺ]
 |due n b =>exists[nv,h1,h2],h;exact#[_,_,_,_,h1,rfl,.item h2 (.oth ww .nil)]
 |fold n b =>exists[nv,h1,h2],h;exact#[_,_,_,_,h1,rfl,.item h2 Ĺ]
 |part n a m pl =>exists[nv,mv,pv,h1,h2,h3,h4],h;exact#[_,_,_,_,h1,rfl,.item h2 (.oth wa (.new h3 (.oth wp .nil)))]
 |join n m =>exists[nv,mv,h1,h2,h3],h;exact#[_,_,_,_,h1,rfl,.item h2 (.item h3 .nil)]
 |gone n =>exists[nv,h1,h2],h;exact#[_,_,_,_,h1,rfl,.item h2 .nil]
end
mutual
#check#[(s2.trans s3),(am ao ↑1 ai),(i n (by simp[Sd.items])),(vix rfl e1 at0 ?_),(if false=true then !inV (V.str wd.word) [.str "take",.str "back"]else inV (V.str wd.word) [.str "take",.str "back"]),(ad gu _),(q_a ↑0 ah),(if(look ol m).isSome=true then"done" else"none"),(But.put (s1.trans À) _),(hM (bp (aM ⋯) aO (bp (aM ⋯) aO (bp (aM ⋯) aO fJ bE) (bR aO bE)) (bR aO (bR aO bE)))),(am ao ↑0 ai),(#[rfl,⋯,⋯,rfl,trivial]:CompOk _ _ [] []),(vix rfl e1 at0 (BC rfl e1 at2 (OP h5) at1 #[sz rfl,λt g=>q t _ (ad g _) ac])),(vix rfl e5 at0 #[rfl,_,rfl,aL w1 ?_]),ds.length,(OlE C H p d g ol),(ad gt _),(vix rfl e5 at0 #[rfl,_,rfl,cU ?_]),(↑Fn 1 "is_turn" ["deed"] spIsTurn),(↑Fn 1 "name_of" ["deed"] spNameOf),(am ao ↑2 ai),(List Dd),(aJ ds),0,(nk n),(rs.map D),(ds.take i),(↑MFnX 4 C "step" ["self","step"] (spStepF C cN cB cF)),(H l=some (.lst xs)),(Paired.mapP pz λ_ _ z=>z.ts (OO (ad gb _))),(q_a ↑1 ah),(OO À),(eE dN ↑1 (dW ai) eV),(aI a6 ↑99 Æ),(((But.of s03).trans b4).trans (But.of Ð)),wd.word,(.lst ys),(∀ n∈s.items,(look ol n).isSome=true),(DdAt H v d),(aE bO ↑2 ar),(.tup [.str "put",nv,.non,pv',.str tx]),(q_a Á (q_a Á (q_a Á (q_a Á ah)))),(Paired.mapP pz λ_ _ z=>z.ts (OO Å)),(↑Fn 1 "turned_name" ["deed"] spTurned),ys.length,(λ_=>(b_1 (ax ar))),(s78.trans Å),(vix rfl e5 at0 #[sz rfl,λu gu=>?_]),(∀zs H4,Pv (i+1) zs H4->Yq0 zs H4),(.ref a),(.lst []),(dS (dC Nz ↑99 ↑1 (q_a Ô ah))),(vs=[.ref p,.ref st]),(q_a ↑3 ah),(wu.trans Ð),0,(↑Fn 7 "played" ["ready"] spPlayed),(λ_ _ _ z=>z.2.1),(upd H7 to (.lst (ys++[.ref z]))),(.lst nvs),(dd.1.1,k),it.tx.length,(.tup [.str "take",.str "back"]),(s1.trans (sm.trans (ad gb _))),(TS H H'),(As Dd),(λi zs H' z=>OQ (z.1 _ _ ea)),(OO sm),(bo ds),(.ref cN),(d.1.1,k),(i+1),(q_a bX ah),(vs=[.ref l]),(am ao ↑3 ai),(∀m∈s.news,look ol m=none),(∀u pl tx,wd≠.put u pl tx),hr.units,(∀n a pl,wd≠.part n a pl),(s27 _ _ hto2),(.list Ù),(aD (q_a ar (q_a ar ah))),(∀i ys H,Pv i ys H->ì<=i),(qG H xs ds),(vix rfl (OP h2) at2 ?_),dP.nd,(s1.trans s2),(q_a ↑2 ah),(q_a ↑5 ah),(sm.trans Å),(spStepA C cT cN cB cF),(.ref cB),((But.of s1).trans b2),(bD (aI r0 ↑99 Æ)),(OO s1),(List bh),(s2 _ _ (s1 _ _ ha)),(s2 _ _ e1),(But.of s1),(O.same s1),(rs.take i),(.ref l),(.put n none pl tx),(StAt H st s),(gF Ö [] ds),(.tup [.str w,sv]),(Option Int),ol.length,xs.length,(aJ Ú),(d::ds),(V.str d.2.word),(aI c8 ↑99 Æ),(aD (q_a ar Ĉ)),(OlAt C H p d g ol),(Nat->OU->Hp->Prop),(.ref cF),(.str ã),(.dT tvs),(bD ↑0),(.ref st),(aj e nx),(b_1 (ax ↑1)),(.tup [.ref t]),(sm2.trans wtl),(Option Nm),(upd H4 to ò),(.ref p),(.ref t),(nk r.1),(am ao Ê ai),(aE bO Á ar),(aE bO Ô ar),(s6.trans Å),(s78 _ _ hto),(vs=[v]),(Î<=63),0,(gM n wd=some s),(cZ n cap Y),(upd H p ä),(ds.take ć),(s12 _ _ ha),(spWordOf C),(s03 _ _ y2),(o4.same Ð),(ns.map nmD),(s02 _ _ hl),(ds.drop ć),(GoneAt H g gs),(DtAll H ds vs),lY.nd,(OP ac),(s1 _ _ h3),(spHolds C),(q' H2 s12),(h u pl tx),(h2 n a pl),(q_a á ah),(But.of ö),(O.same ö),(s1 _ _ hl),(ds.drop i),(dd.1,w,so),(sm _ _ e1),(List α),(NameIs _ _ _),s.news,(spPlay C),(aj e ndx),(λc3=>?_),wd.isTurn,ts.length,zs.length,(some dd),(cH ↑0),(ys++[y]),(RoAt H'),(.ref tl),(.ref to),(.inr c2),(WoAt H'),(SsAt H'),(Pv 0 [] H0)]
inductive Out
 |taken
 |none (n:Nm)
 |beneath
 |far
 |ok
def F7:Option Bool->Out
 |some true=>.beneath
 |some false=>.far
 |none=>.ok
inductive Due(ol:Ol)(s:Sd):Out->Prop
 |taken (n:Nm) (h:n∈ŧ) (t:(look ol n).isSome=true):Due ol s .taken
 |none (n:Nm) (h:ċ) (f:s.items.find? (ie ol)=some n):Due ol s (.none n)
 |bd (r:Option Bool) (h:ċ) (i:∀m∈s.items,(look ol m).isSome=true) (b:Bd ol s r):Due ol s (F7 r)
def Jj(d g:OC)(H H':Hp):Prop:=∀b o,H b=some o->b≠d->b≠g->H' b=some o
def AI(gs:As Unit):Sd->As Unit
 |.gone n=>aF gs n ()
 |_=>gs
theorem oY(h:∀n,s≠.gone n):AI gs s=gs:=by cases s<;>first|rfl|exact absurd rfl (h _)
theorem GoneAt.but(x:ŕ)(b:But d H H')(ne:d≠g):GoneAt H' g gs:=by exists[gvs,h1,h2],x;exact#[gvs,b _ _ h1 (ZO ne),h2]
inductive spStepA(C cT cN cB cF:OC)(vs:OU)(H:Hp)(Q:VK)(E:XK):Prop
 |mk (p d g st:OC) (ol:Ol) (gs:As Unit) (s:Sd) (o:Out) (h0:ô) (h1:Ĳ) (h2:ŕ) (h3:ī<=63) (h4:gs.length<=63) (h5:ħ) (h6:(∀n it,look ol n=some it->ý<=4000)) (h7:Due ol s o) (h8:(o=.taken->∀H',Same H H'->E (.ref cT) none H')) (h9:(∀n,o=.none n->∀H' dd v,Same H H'->H' dd=some (.xd [("name",v)])->NameIs H' v Ø->E ą Ů H')) (h10:(o=.beneath->∀H',Same H H'->E ě none H')) (h11:(o=.far->∀H',Same H H'->E Ĵ none H')) (h12:(o=.ok->∀H' ol',Jj d g H H'->OlAt C H' p d g ol'->GoneAt H' g (AI gs s)->Ap ol s ol'->Q .non H')):spStepA C cT cN cB cF vs H Q E
abbrev jY:Stmt:=cz (top 19) 1
abbrev vQ:List Str:=["self","step","word"]
theorem nF:FnScope vQ ["self","step"] (aq jY):= ~~~0
theorem sU(F:Fun K "step" "Plain.step" jY f fd)(a7:Txt K C)(p6:↑MFnX 3 C "check_names" ["self","step"] (spCheckX C cT cN))(l5:↑MFnX 2 C "check_bounds" ["self","step"] (spBoundsF C cB cF))(j6:↑MFn 1 C "bring_in" ["self","name","up","place","text"] (spBring C))(Nc:↑MFn 2 C "part_item" ["self","name","at","new","place"] (spPartI C))(v5:↑MFn 2 C "join_items" ["self","name","other"] (spJoinI C))(i5:↑MFn 1 C "change" ["self","name","first","values"] (spChange C)){dd:OC}(l7:mg "FIRST_CHANGED" = some (.ref dd))(TF:Tab K dd FC):↑FnOk (CXr P w) 4 f fd ["self","step"] Ě:=by
 refine F.okX nF (λvs H Q E h=>?_) (λcdv A outer s H vs Q E hr h=>?_)
 .exists[p,d,g,st,ol,gs,sd,o,rfl,_],h;rfl
 exists[p,d,g,st,ol,gs,sd,o,rfl,O,G,l3,lg,hs,htx,du,qT,qN,qB,qF,q],h;exists[kvs,gvs,S,R],id O;obtain⟨⟨dx,h1⟩,h2,h3,h4⟩:=id S;have lk:=bS R;exists[wd,ws,ps,bs,hst,dat,pr],Lh (ol:=ol) hs;exists[a3,l1,l2],pr.all R;exists[n1,n2],pr.news;exists[i1,i2],pr.items;exists _,(b_c (bu (pD p6 (Gu eG) ↑99 ↑0 Þ))
   (b_c (bu (pD l5 (Gu eG) ↑99 ↑0 Þ))
   (b_c (aA (i:=2) nF.nd Á)
   (b_1 (aT ç (b_1 (bu (dC j6 ↑99 ↑0 é))) (b_1 (aT ç (b_1 (bu (dC Nc ↑99 ↑0 é))) (b_1 (aT ç (b_1 (bu (dC v5 ↑99 ↑0 (q_a Á (q_a Á ah))))) (b_1 (aT ç (b_1 (iT č ů Á lh)) (b_1 (bu (dC i5 ↑99 ↑0 (q_a Á (q_a (am GP (KY l7) ↑2) (q_a à ah)))))))))))))))))
 refine#[_,rfl,p,dx,_,rfl,h1,dB _ _,_,rfl,p,d,g,st,kvs,gvs,wd,ws,ps,bs,rfl,S,hst,dat,l1,l2,a3,fun⟨i,e1,e2⟩=>?_,λnn=>#[λall H1 s1=>?_,λi w' v e1 e2 hi e3 pre H' dd sm hd=>?_]]
 .exists[n,hn,hl],n1 i e1 e2;have no:∀{A:Prop},(∀m∈sd.news,look ol m=none)->A:=λh=>by rw[h n hn]at hl;cases hl
  cases du with
  |taken m h t=>exact qT rfl
  |none m h f=>exact no h
  |bd r h i b=>exact no h
 .have nn:=n2 nn;have ii:=i1 all;cases du with
  |taken m h t =>rw[nn m h]at t;cases t
  |none m h f =>
   have:=ii m (List.mem_of_find?_eq_some f);have z:=List.find?_some f;unfold ie at z;cases c:look ol m with
   |none=>rw[c]at this;cases this
   |some x=>rw[c]at z;cases z
  |bd r h i bdx =>
   have hs1:=hs.ts Ğ;refine#[_,rfl,p,dx,_,rfl,s1 _ _ h1,dB _ _,_,rfl,p,d,g,st,ol,sd,r,rfl,O.same s1,hs1,bdx,htx,λe=>?_,λe=>?_,λe=>?_]
   .subst e;exact qB rfl H1 s1
   .subst e;exact qF rfl H1 s1
   subst e;have q':(∀n,sd≠.gone n)->∀H' ol',But d H H'->OlAt C H' p d g ol'->Ap ol sd ol'->Q .non H':=λng H' ol' bt o' ap=>q rfl H' ol' (λb o e n _=>bt b o e n) o' (by rw[oY ng];exact G.but bt h4) ap;have S1:=S.same s1;have R1:=R.ts Ğ;have y1:=s1 _ _ h1;have ch:∀{n:Nm} {it:It} {ia:OC} {xs:OU},look ol n=some it->∃ia uv pv,aW kvs Ø=some (.ref ia)/\H1 ia=some (.tup [uv,pv,.str it.tx,.bl it.dn,whV it.wh,.bl it.fo])/\UpAt H1 uv it.up/\PlAt H1 pv it.pl:=fun{n it _ _} hl=>by exists[iv,e1,ia,uv,pv,rfl,e2,e3,e4],aY R1 hl;exact#[ia,uv,pv,e1,e2,e3,e4]
   cases sd with
   |put n u pl tx =>exists[nv,uv,pv,hst,hn,hu,hp],hs1;have e1:=OP (K:=K) hst;refine Ã;refine#[_,rfl,rfl,_,rfl,cU ?_];exact#[_,rfl,p,dx,_,rfl,y1,dB _ _,vix rfl e1 at1 (vix rfl e1 at2 (vix rfl e1 at3 (vix rfl e1 at4 #[p,d,g,kvs,gvs,nv,uv,pv,.str tx,nk n,rfl,S1,hn,∅,λt H2 s2 e2=>q' nofun _ _ (But.put Ė _) (fR S1 R1 s2 #[t,uv,pv,rfl,e2,hu.ts (OO s2),hp.ts (OO s2)]) .put])))]
   |part n a m pl =>exists[nv,mv,pv,hst,hn,hm,hp],hs1;have e1:=OP (K:=K) hst;exists[it,hl],Zw.mp Â;refine Ã;refine#[_,rfl,rfl,_,rfl,aL ⋯ ?_];refine#[_,rfl,rfl,_,rfl,cU ?_];exact#[_,rfl,p,dx,_,rfl,y1,dB _ _,vix rfl e1 at1 (vix rfl e1 at2 (vix rfl e1 at3 (vix rfl e1 at4 #[p,d,g,ol,nv,mv,pv,n,m,a,pl,it,rfl,O.same s1,hn,hm,hp,hl,∅,by have:=htx n it hl;omega,λH2 b2 o2=>q' nofun _ _ Ĝ o2 (.part hl)])))]
   |join n m =>exists[nv,mv,hst,hn,hm],hs1;have e1:=OP (K:=K) hst;exists[itn,hln],Zw.mp Â;exists[itm,hlm],Zw.mp (i m (by simp[Sd.items]));refine Ã;refine#[_,rfl,rfl,_,rfl,aL ⋯ ?_];refine#[_,rfl,rfl,_,rfl,aL ⋯ ?_];refine#[_,rfl,rfl,_,rfl,cU ?_];have:=htx n itn hln;have:=htx m itm hlm;exact#[_,rfl,p,dx,_,rfl,y1,dB _ _,vix rfl e1 at1 (vix rfl e1 at2 #[p,d,g,ol,nv,mv,n,m,itn,itm,rfl,O.same s1,hn,hm,hln,hlm,∅,∅,λH2 ol' b2 o2 ll=>q' nofun _ _ Ĝ o2 (.join hln hlm ll)])]
   |move n u pl =>exists[nv,uv,pv,hst,hn,hu,hp],hs1;have e1:=OP (K:=K) hst;exists[it,hl],Zw.mp Â;exists[ia,uw,pw,c1,c2,c3,c4],ch (ia:=st) (xs:=[]) hl;refine Ã;refine#[_,rfl,rfl,_,rfl,aL ⋯ ?_];refine#[_,rfl,rfl,_,rfl,aL ⋯ ?_];refine#[_,rfl,rfl,_,rfl,aL ⋯ ?_];refine#[_,rfl,rfl,_,rfl,aL ⋯ ?_];refine#[_,rfl,p,dx,_,rfl,y1,dB _ _,vix rfl e1 at1 #[_,rfl,dd,"move",FC,_,rfl,rfl,TF,rfl,?_]];refine#[_,rfl,_,rfl,st,_,rfl,hst,λva H2 s2 e2=>?_];exact#[p,d,g,ia,va,kvs,gvs,nv,nk n,0,_,[uv,pv],rfl,S1.same s2,hn.same s2,∅,c1,s2 _ _ c2,e2,show 0+2<=6 by decide,show 6<=100 by decide,λt H3 s3 e3=>q' nofun _ _ È (fR (it:={ it with up:=u,pl:=pl }) S1 R1 À #[t,uv,pv,rfl,e3,hu.ts ß,hp.ts ß]) (.move hl)]
   |write n tx =>exists[nv,hst,hn],hs1;have e1:=OP (K:=K) hst;exists[it,hl],Zw.mp Â;exists[ia,uw,pw,c1,c2,c3,c4],ch (ia:=st) (xs:=[]) hl;refine Ã;refine#[_,rfl,rfl,_,rfl,aL ⋯ ?_];refine#[_,rfl,rfl,_,rfl,aL ⋯ ?_];refine#[_,rfl,rfl,_,rfl,aL ⋯ ?_];refine#[_,rfl,rfl,_,rfl,aL ⋯ ?_];refine#[_,rfl,p,dx,_,rfl,y1,dB _ _,vix rfl e1 at1 #[_,rfl,dd,"write",FC,_,rfl,rfl,TF,rfl,?_]];refine#[_,rfl,_,rfl,st,_,rfl,hst,λva H2 s2 e2=>?_];exact#[p,d,g,ia,va,kvs,gvs,nv,nk n,2,_,[_],rfl,S1.same s2,hn.same s2,∅,c1,s2 _ _ c2,e2,show 2+1<=6 by decide,show 6<=100 by decide,λt H3 s3 e3=>q' nofun _ _ È (fR (it:={ it with tx:=tx }) S1 R1 À #[t,uw,pw,rfl,e3,c3.ts ß,c4.ts ß]) (.write hl)]
   |mark n b =>exists[nv,hst,hn],hs1;have e1:=OP (K:=K) hst;exists[it,hl],Zw.mp Â;exists[ia,uw,pw,c1,c2,c3,c4],ch (ia:=st) (xs:=[]) hl;refine Ã;refine#[_,rfl,rfl,_,rfl,aL ⋯ ?_];refine#[_,rfl,rfl,_,rfl,aL ⋯ ?_];refine#[_,rfl,rfl,_,rfl,aL ⋯ ?_];refine#[_,rfl,rfl,_,rfl,aL ⋯ ?_];refine#[_,rfl,p,dx,_,rfl,y1,dB _ _,vix rfl e1 at1 #[_,rfl,dd,"mark",FC,_,rfl,rfl,TF,rfl,?_]];refine#[_,rfl,_,rfl,st,_,rfl,hst,λva H2 s2 e2=>?_];exact#[p,d,g,ia,va,kvs,gvs,nv,nk n,3,_,[_],rfl,S1.same s2,hn.same s2,∅,c1,s2 _ _ c2,e2,show 3+1<=6 by decide,show 6<=100 by decide,λt H3 s3 e3=>q' nofun _ _ È (fR (it:={ it with dn:=b }) S1 R1 À #[t,uw,pw,rfl,e3,c3.ts ß,c4.ts ß]) (.mark hl)]
   |due n b =>exists[nv,hst,hn],hs1;have e1:=OP (K:=K) hst;exists[it,hl],Zw.mp Â;exists[ia,uw,pw,c1,c2,c3,c4],ch (ia:=st) (xs:=[]) hl;refine Ã;refine#[_,rfl,rfl,_,rfl,aL ⋯ ?_];refine#[_,rfl,rfl,_,rfl,aL ⋯ ?_];refine#[_,rfl,rfl,_,rfl,aL ⋯ ?_];refine#[_,rfl,rfl,_,rfl,aL ⋯ ?_];refine#[_,rfl,p,dx,_,rfl,y1,dB _ _,vix rfl e1 at1 #[_,rfl,dd,"due",FC,_,rfl,rfl,TF,rfl,?_]];refine#[_,rfl,_,rfl,st,_,rfl,hst,λva H2 s2 e2=>?_];exact#[p,d,g,ia,va,kvs,gvs,nv,nk n,4,_,[_],rfl,S1.same s2,hn.same s2,∅,c1,s2 _ _ c2,e2,show 4+1<=6 by decide,show 6<=100 by decide,λt H3 s3 e3=>q' nofun _ _ È (fR (it:={ it with wh:=b }) S1 R1 À #[t,uw,pw,rfl,e3,c3.ts ß,c4.ts ß]) (.due hl)]
   |fold n b =>exists[nv,hst,hn],hs1;have e1:=OP (K:=K) hst;exists[it,hl],Zw.mp Â;exists[ia,uw,pw,c1,c2,c3,c4],ch (ia:=st) (xs:=[]) hl;refine Ã;refine#[_,rfl,rfl,_,rfl,aL ⋯ ?_];refine#[_,rfl,rfl,_,rfl,aL ⋯ ?_];refine#[_,rfl,rfl,_,rfl,aL ⋯ ?_];refine#[_,rfl,rfl,_,rfl,aL ⋯ ?_];refine#[_,rfl,p,dx,_,rfl,y1,dB _ _,vix rfl e1 at1 #[_,rfl,dd,"fold",FC,_,rfl,rfl,TF,rfl,?_]];refine#[_,rfl,_,rfl,st,_,rfl,hst,λva H2 s2 e2=>?_];exact#[p,d,g,ia,va,kvs,gvs,nv,nk n,5,_,[_],rfl,S1.same s2,hn.same s2,∅,c1,s2 _ _ c2,e2,show 5+1<=6 by decide,show 6<=100 by decide,λt H3 s3 e3=>q' nofun _ _ È (fR (it:={ it with fo:=b }) S1 R1 À #[t,uw,pw,rfl,e3,c3.ts ß,c4.ts ß]) (.fold hl)]
   |gone n =>
    exists[nv,hst,hn],hs1;have e1:=OP (K:=K) hst;exists[nb,rfl,hnb],id hn;exists[gvs',hg',Rg],id G;have eg:gvs'=gvs:=by rw[h3]at hg';injection hg' with hg';injection hg' with hg';exact hg'.symm
    subst eg;have lgv:=bS Rg;refine Ã;refine#[_,rfl,rfl,_,rfl,aL ⋯ ?_];refine#[_,rfl,rfl,_,rfl,aL ⋯ ?_];refine#[_,rfl,rfl,_,rfl,aL ⋯ ?_];refine#[_,rfl,rfl,_,rfl,cU ?_];refine#[_,rfl,p,C,dx,_,_,rfl,y1,a7.cl,a7.nA,uo _ _,vix rfl e1 at1 #[g,_,rfl,DPut.t (k:=nk n) ř hnb (aU ∅),?_]];have tg:=ky (kvs':=bj gvs' Ø (.bl true)) ř;obtain⟨⟨dx1,z1⟩,z2,z3,z4⟩:=id S1;refine q rfl _ ol (λb o e n1 n2=>by rw[af n2];exact s1 _ _ e) #[kvs,_,#[#[dx1,by rw[af (bw z1 z3 nofun)];exact z1],by rw[af z4];exact z2,ac,z4],R1.ts tg] #[_,ac,fB Rg rfl] .gone
 .exists[n,f,hn],i2 i w' v e1 e2 hi e3 pre;have nn:=n2 nn;cases du with
  |taken m h t =>rw[nn m h]at t;cases t
  |none m h f' =>rw[f]at f';cases f';exact qN n rfl H' dd v sm hd (hn.same sm)
  |bd r h i b =>
   have:=i n (List.mem_of_find?_eq_some f);have z:=List.find?_some f;unfold ie at z;cases c:look ol n with
   |none=>rw[c]at this;cases this
   |some x=>rw[c]at z;cases z
def OlE(C:OC)(H:Hp)(p d g:OC)(ol:Ol):Prop:=∃kvs,PlainAt C H p d g kvs []/\Rows H kvs ol
theorem OlE.same(x:Ï)(s:Same H H'):OlE C H' p d g ol:=by exists[kvs,h1,h2],x;exact#[kvs,h1.same s,h2.ts (OO s)]
theorem OlE.ag(x:Ï):OlAt C H p d g ol/\GoneAt H g []:=by exists[kvs,h1,h2],x;exact#[#[kvs,[],h1,h2],#[[],h1.3,.nil]]
theorem OlE.of(x:Ĳ)(y:GoneAt H g []):OlE C H p d g ol:=by obtain⟨kvs,gvs,⟨h1,h2,h3,h4⟩,R⟩:=x;exists[gvs',e,r],y;cases r;rw[h3]at e;cases e;exact#[kvs,#[h1,h2,h3,h4],R]
inductive spStepF(C cN cB cF:OC)(vs:OU)(H:Hp)(Q:VK)(E:XK):Prop
 | mk (p d g st:OC) (ol:Ol) (s:Sd) (h0:ô) (h1:Ï) (h2:ī<=63) (h3:ħ) (h4:(∀ n,s≠.gone n)) (h5:(∀ n∈ŧ,look ol n=none)) (h6:(∀ n it,look ol n=some it->ý<=400)) (h7:((¬ å/\∀ H' dd,Same H H'->E ą Ů H') \/
  (å/\∃ r,Bd ol s r/\(r=some true->∀ H',Same H H'->E ě none H')/\(r=some false->∀ H',Same H H'->E Ĵ none H')/\(r=none->∀ H' ol',But d H H'->OlE C H' p d g ol'->Ap ol s ol'->Q .non H')))):spStepF C cN cB cF vs H Q E
theorem yf(M:↑MFnX 4 C "step" ["self","step"] Ě):↑MFnX 4 C "step" ["self","step"] (spStepF C cN cB cF):=by
 exists[cl,f,fd,ok,me,bi],M;refine#[cl,f,fd,ok.imp λvs H Q E h=>?_,me,bi];exists[p,d,g,st,ol,s,rfl,O,len,hs,ng,nw,tx,h],h;exists[Oa,G],O.ag;have fin:∀H' ol',Jj d g H H'->OlAt C H' p d g ol'->GoneAt H' g (AI [] s)->But d H H'/\OlE C H' p d g ol':=λH' ol' b o2 g2=>by
  rw[oY ng]at g2;refine#[λa x e n1=>?_,.of o2 g2];by_cases c:a=g
  .subst c;exists[gv,e1,r1],G;exists[gv2,e2,r2],g2;cases r1;cases r2;rw[e1]at e;rw[e2];exact e
  .exact b a x e n1 c
 have tx':∀n it,look ol n=some it->ý<=4000:=λn it hl=>Zs (tx n it hl) ⋯;rcases h with⟨nh,q⟩|⟨hh,r,hb,q1,q2,q3⟩
 .obtain⟨n,hn⟩:∃n,s.items.find? (ie ol)=some n:=by
   cases e:s.items.find? (ie ol)with
   |some n=>exact#[n,rfl]
   |none =>exfalso;refine nh λn hn=>?_;have:=Xa.mp e n hn;unfold ie at this;simp at this;exact Option.isSome_iff_ne_none.mpr this
  exact#[p,d,g,st,ol,[],s,.none n,rfl,Oa,G,len,ZL _,hs,tx',.none n nw hn,nofun,λm z H' dd v sm _ _=>q H' dd sm,nofun,nofun,nofun]
 .refine#[p,d,g,st,ol,[],s,F7 r,rfl,Oa,G,len,ZL _,hs,tx',.bd r nw hh hb,?_,?_,?_,?_,?_]
  .intro z;cases r with
   |none=>cases z
   |some b=>cases b<;>cases z
  .intro n z;cases r with
   |none=>cases z
   |some b=>cases b<;>cases z
  .intro z;cases r with
   |none=>cases z
   |some b =>
    cases b with
    |true=>exact q1 rfl
    |false=>cases z
  .intro z;cases r with
   |none=>cases z
   |some b =>
    cases b with
    |true=>cases z
    |false=>exact q2 rfl
  .intro z H' ol' b o2 g2 ap;exists[b',o'],fin H' ol' b o2 g2;cases r with
   |none=>exact q3 rfl H' ol' b' o' ap
   |some x=>cases x<;>cases z
inductive spHolds(C:OC)(vs:OU)(H:Hp)(Q:VK)(E_:XK):Prop
 |mk (p d g:OC) (ol:Ol) (nv:V) (n:Nm) (h0:vs=[.ref p,nv]) (h1:Ï) (h2:NameIs H nv Ø) (h3:Q (.bl (look ol n).isSome) H):spHolds C vs H Q E_
abbrev jc:Stmt:=cz (top 19) 9
abbrev uQ:List Str:=["self","name"]
theorem tL:FnScope uQ ["self","name"] (aq jc):= ~~~0
theorem sR(F:Fun K "holds" "Plain.holds" jc f fd)(T:Txt K C):↑FnOk CX0 1 f fd ["self","name"] Ś:=by
 exists tL
 obtain⟨p,d,g,ol,nv,n,rfl,⟨kvs,S,R⟩,⟨b,rfl,hb⟩,q⟩:=h;obtain⟨⟨dx,h1⟩,h2,h3,h4⟩:=id S;exists _,(b_1 (ax (Gv č ↑1 ů)))
 refine#[_,rfl,_,rfl,p,C,dx,_,_,rfl,h1,T.cl,T.nH,bc _ _,d,_,rfl,DGet.t (k:=nk n) h2 hb,?_];rw[iF R];exact q
theorem mT{X:Cx}:fQ (CXr X.prog X.w) X E0:=λON Y H s e s' I x=>by exists[ea,t,C,vs,B,H',dc,rfl,os,bare,un,hok,fly,tup,hBt,kb,dd,q],x;exact q.elim
theorem kC{J:Lake.It}{N n:Nat}{g:TG}{tc:TT}{te:TE}{Q:VK}(Pv:ĳ)(hz:N<=1000)(hn:Ē)(h0:ŷ)(hgo:∀i ys H,i<N->Pv i ys H->J.go i H)(hst:∀ys H,Pv N ys H->J.stop N H)(ht:∀i ys H x H',i<N->Pv i ys H->J.yld i H x H'->∀Yq0:OU->Hp->Prop,ð->g x ŋ H' λσ2 H2=>tc σ2 H2 λb H3=>if b=true then te σ2 H3 λy H4=>Yq0 Ű H4 else Yq0 ys H3)(hq:∀ys p H,Pv N ys H->H p=none->Q Ŀ Ō):ir n cap g tc te Y J H0 Q:=by
 refine#[λi m ys H=>m=N-i/\i<=N/\Pv i ys H,#[N,by simp,ZL _,h0],?_];rintro i m ys H ⟨rfl,hi,pv⟩;by_cases hlt:i<N
 .refine .inr #[hgo i ys H hlt pv,?_,λx H' y=>?_]
  .have:=hn i ys H pv;exact Nat.lt_of_le_of_lt (Zs this ∅) (show 1000<sizeLine by decide)
  .exact ht i ys H x H' hlt pv y (λys H4=>∃m',m'<N-i/\m'=N-ć/\i+1<=N/\Pv ć ys H4) λzs H4 z=>#[N-ć,∅,rfl,hlt,z]
 .have e:i=N:=∅
  subst e;exact .inl #[hst ys H pv,λp hp=>hq ys p H pv hp]
inductive Wd
 |put (u:Ľ)(pl:OJ)(tx:Str)
 |move (n:Nm)(u:Ľ)(pl:OJ)
 |write (n:Nm)(tx:Str)
 |mark (n:Nm)(b:Bool)
 |due (n:Nm)(w:Ī)
 |fold (n:Nm)(b:Bool)
 |part (n:Nm)(a:Int)(pl:OJ)
 |join (n m:Nm)
 |take (n:Nm)
 |back (n:Nm)
 |off (k:Int)
 |on (k:Int)
 |none
def Wd.word:Wd->Str
 |.put _ _ _=>"put"
 |.move _ _ _=>"move"
 |.write _ _=>"write"
 |.mark _ _=>"mark"
 |.due _ _=>"due"
 |.fold _ _=>"fold"
 |.part _ _ _=>"part"
 |.join _ _=>"join"
 |.take _=>"take"
 |.back _=>"back"
 |.off _=>"off"
 |.on _=>"on"
 |.none=>"none"
def Wd.isTurn:Wd->Bool
 |.off _=>true
 |.on _=>true
 |_=>false
def RsAt(H:Hp)(r:OU):Wd->Prop
 |.put u pl tx=>∃uv pv,r=[uv,pv,.str tx]/\UpAt H uv u/\PlAt H pv pl
 |.move n u pl=>∃nv uv pv,r=[nv,uv,pv]/\NameIs H nv Ø/\UpAt H uv u/\PlAt H pv pl
 |.write n tx=>∃nv,r=[nv,.str tx]/\NameIs H nv Ø
 |.mark n b=>∃nv,r=[nv,.bl b]/\NameIs H nv Ø
 |.due n w=>∃nv,r=[nv,whV w]/\NameIs H nv Ø
 |.fold n b=>∃nv,r=[nv,.bl b]/\NameIs H nv Ø
 |.part n a pl=>∃nv pv,r=[nv,.int a,pv]/\NameIs H nv Ø/\PlAt H pv pl
 |.join n m=>∃nv mv,r=[nv,mv]/\NameIs H nv Ø/\NameIs H mv (nk m)
 |.take n=>∃nv,r=[nv]/\NameIs H nv Ø
 |.back n=>∃nv,r=[nv]/\NameIs H nv Ø
 |.off k=>r=[.int k]
 |.on k=>r=[.int k]
 |.none=>r=[]
theorem RsAt.ts(x:RsAt H r wd)(t:Ā):RsAt H' r wd:=by
 cases wd with
 |put=>exists[uv,pv,h1,h3,h4],x;exact#[uv,pv,h1,h3.ts t,h4.ts t]
 |move=>exists[nv,uv,pv,h1,h2,h3,h4],x;exact#[nv,uv,pv,h1,h2.ts' t,h3.ts t,h4.ts t]
 |write=>exists[nv,h1,h2],x;exact#[nv,h1,h2.ts' t]
 |mark=>exists[nv,h1,h2],x;exact#[nv,h1,h2.ts' t]
 |due=>exists[nv,h1,h2],x;exact#[nv,h1,h2.ts' t]
 |fold=>exists[nv,h1,h2],x;exact#[nv,h1,h2.ts' t]
 |part=>exists[nv,pv,h1,h2,h4],x;exact#[nv,pv,h1,h2.ts' t,h4.ts t]
 |join=>exists[nv,mv,h1,h2,h3],x;exact#[nv,mv,h1,h2.ts' t,h3.ts' t]
 |take=>exists[nv,h1,h2],x;exact#[nv,h1,h2.ts' t]
 |back=>exists[nv,h1,h2],x;exact#[nv,h1,h2.ts' t]
 |off=>exact x
 |on=>exact x
 |none=>exact x
def WhAt(H:Hp)(wa:OC)(wd:Wd):Prop:=∃r,H wa=some (.tup (.str ã::r))/\RsAt H r wd
abbrev Dd:=Nm×Wd
def DdAt(H:Hp)(v:V)(d:Dd):Prop:=∃(dd c wa:OC) (cs:OU),v=.ref dd/\H dd=some (.tup [.int d.1.1,.ref c,.ref wa])/\H c=some (.tup cs)/\atI cs d.1.1=some (.int d.1.2)/\WhAt H wa d.2
theorem DdAt.ts(x:æ)(t:Ā):DdAt H' v d:=by exists[dd,c,wa,cs,h1,h2,h3,h4,r,h5,h6],x;exact#[dd,c,wa,cs,h1,t _ _ h2,t _ _ h3,h4,r,t _ _ h5,h6.ts t]
inductive spNameOf  (vs:OU)(H:Hp)(Q:VK)(E_:XK):Prop
 |mk (v:V) (d:Dd) (h0:Ň) (h1:æ) (h2:∀t H',Same H H'->H' t=some (.tup [.int d.1.1,.int d.1.2])->Q ŀ H'):spNameOf  vs H Q E_
abbrev oF:Stmt:=top 13
abbrev BI:List Str:=["deed"]
theorem Bk:FnScope BI ["deed"] (aq oF):= ~~~0
theorem AY(F:Fun K "name_of" "name_of" oF f fd):↑FnOk CX0 1 f fd ["deed"] spNameOf:=by
 exists Bk
 obtain⟨v,d,rfl,⟨dd,c,wa,cs,rfl,h2,h3,h4,r,h5,h6⟩,q⟩:=h;exists _,(b_1 (ax (aD (q_a Ê (q_a (am ao Ê Ê) ah)))))
 have e1:=OP (K:=K) h2;exact(vix rfl e1 at0 (vix rfl e1 at1 (vix rfl e1 at0 #[c,_,_,_,rfl,rfl,OP h3,h4,sz rfl,λt g=>q t _ (ad g _) ac])))
theorem Hq(wd:Wd):inV ĵ [.str "off",.str "on"]=ū:=by cases wd<;>rfl
inductive spIsTurn  (vs:OU)(H:Hp)(Q:VK)(E_:XK):Prop
 |mk (v:V) (d:Dd) (h0:Ň) (h1:æ) (h2:∀H',Same H H'->Q (.bl d.2.isTurn) H'):spIsTurn  vs H Q E_
abbrev oB:Stmt:=top 23
abbrev BH:List Str:=["deed"]
theorem Bj:FnScope BH ["deed"] (aq oB):= ~~~0
theorem AX(F:Fun K "is_turn" "is_turn" oB f fd):↑FnOk CX0 1 f fd ["deed"] spIsTurn:=by
 exists Bj
 obtain⟨v,d,rfl,⟨dd,c,wa,cs,rfl,h2,h3,h4,r,h5,h6⟩,q⟩:=h;exists _,(b_1 (ax (cG (gh (K:=K) rfl) ł đ)))
 refine(BC rfl (OP h2) at2 (OP h5) at0 #[sz rfl,λu gu=>?_]);refine#[u,_,rfl,.inr Ř,rfl,rfl,?_];have ei:(if false=true then !inV į [.str "off",.str "on"]else inV į [.str "off",.str "on"])=d.2.isTurn:=Hq d.2;rw[ei];exact q _ Å
inductive spTurned  (vs:OU)(H:Hp)(Q:VK)(E_:XK):Prop
 |mk (v:V) (d:Dd) (k:Int) (h0:Ň) (h1:æ) (h2:(d.2=.off k\/d.2=.on k)) (h3:∀t H',Same H H'->H' t=some (.tup [.int d.1.1,.int k])->Q ŀ H'):spTurned  vs H Q E_
abbrev je:Stmt:=top 24
abbrev uS:List Str:=["deed"]
theorem tO:FnScope uS ["deed"] (aq je):= ~~~0
theorem sV(F:Fun K "turned_name" "turned_name" je f fd):↑FnOk CX0 1 f fd ["deed"] spTurned:=by
 exists tO
 obtain⟨v,⟨n,wd⟩,k,rfl,⟨dd,c,wa,cs,rfl,h2,h3,h4,r,h5,h6⟩,hw,q⟩:=h;exists _,(b_1 (ax (aD (q_a Ê (q_a ł ah)))))
 have e1:=OP (K:=K) h2;rcases hw with rfl|rfl
 .obtain rfl:r=[.int k]:=h6;exact Ì
 .obtain rfl:r=[.int k]:=h6;exact Ì
def gO(ts:ā)(d:Dd):As Dd:=match d.2 with
 |.off k=>aF ts Ć d
 |.on k=>aF ts Ć d
 |_=>ts
def aJ(ds:Õ):As Dd:=ds.foldl gO []
theorem IZ{ts:ā}{d:Dd}(h:d.2.isTurn=false):gO ts d=ts:=by exists[n,wd],d;cases wd<;>first|rfl|cases h
theorem FN(ts:ā)(d:Dd):(gO ts d).length<=Ŭ+1:=by exists[n,wd],d;cases wd<;>first|exact dE _ _ _|exact YR _
theorem yO(ds:Õ):(aJ ds).length<=Î:=by
 have gen:∀(ds:Õ) (ts:ā),(ds.foldl gO ts).length<=Ŭ+Î:=λds=>by
  induction ds with
  |nil=>intro ts;exact Zi _
  |cons d ds ih =>intro ts;have h1:=ih (gO ts d);have h2:=FN ts d;rw[List.foldl_cons,Zm];omega
 have:=gen ds [];unfold aJ;simpa using this
theorem aP{α β:Type}{R:α->β->Prop}{xs:ť}{ys:List β}(x:Paired R xs ys):∀{i:Nat} {a:α},xs[i]?=some a->∃b,ys[i]?=some b/\R a b:=by
 induction x with
 |nil=>intro i a h;simp at h
 |@cons p q _ _ r _ ih =>
  intro i a h;cases i with
  |zero=>cases h;exact#[q,rfl,r]
  |succ i=>exact ih h
abbrev qG(H:Hp)(vs:OU)(ds:Õ):Prop:=Paired (DdAt H) vs ds
abbrev TsAt(H:Hp)(kvs:OT)(ts:ā):Prop:=Rws (DdAt H) kvs ts
theorem TsAt.ts{ts:ā}(x:TsAt H kvs ts)(t:Ā):TsAt H' kvs ts:=Paired.mapP x λ_ _ z=>#[z.1,z.2.ts t]
inductive spLast  (vs:OU)(H:Hp)(Q:VK)(E_:XK):Prop
 |mk (l:OC) (xs:OU) (ds:Õ) (h0:ĉ) (h1:Ü) (h2:ē) (h3:ň) (h4:∀a tvs H',Same H H'->H' a=some Ķ->TsAt H' tvs Ö->Q ñ H'):spLast  vs H Q E_
abbrev kg:Stmt:=top 25
abbrev vS:List Str:=["ready","turns","deed"]
theorem jg:FnScope vS ["ready"] (aq kg):= ~~~0
theorem vd(F:Fun K "last_turns" "last_turns" kg f fd)(c8:Ò)(i7:ë):↑FnOk CX0 2 f fd ["ready"] spLast:=by
 exists jg
 exists[l,xs,ds,rfl,hl,hd,l3,q],h;have ll:=Zv hd;exists _,(b_c (aA (i:=1) jg.nd mV)
   (b_c (dG ZT rfl ķ (aw (i:=2) jg.nd) (b_1 (aT (dS (aI c8 ↑99 ė)) (b_1 (iT č ↑1 (aI i7 ↑99 ė) ↑2)) b_0)))
   ĺ))
 intro a ga;have wa:=ad ga (.dT []);refine#[_,rfl,l,rfl,#[_,OQ (wa _ _ hl)],?_];refine ql (K:=K) (a:=l) (xs:=xs) (λi Y H'=>Same H H'/\∃(tvs:OT) (o2:Option V),H' a=some Ķ/\TsAt H' tvs ĭ/\Y=[some ĥ,some ñ,o2])
  #[wa,[],none,ac,.nil,rfl] (λi Y H' _ z=>OQ (z.1 _ _ hl)) ?_ ?_
 .rintro i v Y H' hv ⟨sm,tvs,o2,ha,ht,rfl⟩;exists[d,hdi,hdd],aP hd hv;have hi:i<Î:=(Zu.mp hdi).1;have et:aJ ō=gO ĭ d:=by unfold aJ;rw[List.take_succ,hdi,List.foldl_append];rfl
  have tl:tvs.length<=63:=by have:=yO Ú;rw[ZY]at this;have:=bS ht;omega
  refine#[_,rfl,v,d,rfl,hdd.ts ă,λH1 s1=>#[_,rfl,?_]];cases c:d.2.isTurn with
  |false =>refine aC #[sm.trans s1,tvs,_,s1 _ _ ha,?_,rfl];rw[et,IZ c];exact ht.ts Ğ
  |true =>
   obtain⟨k,hk⟩:∃k,d.2=.off k\/d.2=.on k:=by
    exists[n,wd],d;cases wd with
    |off k=>exact#[k,.inl rfl]
    |on k=>exact#[k,.inr rfl]
    |_=>cases c
   have es:gO ĭ d=aF ĭ Ć d:=by exists[n,wd],d;rcases hk with hk|hk<;>(dsimp only at hk;subst hk;rfl)
   refine aQ #[_,rfl,_,rfl,_,rfl,v,d,k,rfl,hdd.ts (OO (sm.trans s1)),hk,λt H2 s2 e2=>#[a,_,rfl,DPut.t (k:=nk Ć) Ġ e2 (aU ∅),?_]];have s12:=sm.trans Ė;have td:TS H2 (upd H2 a (.dT (bj tvs (nk Ć) v))):=ky Ġ;refine#[cL s12 ga,_,_,ac,?_,rfl];rw[et,es];exact TsAt.ts (fB (ht.ts (OO Ė)) (hdd.ts (OO s12))) td
 .rintro Y H' ⟨sm,tvs,o2,ha,ht,rfl⟩;rw[ll,ZC]at ht;exact#[_,rfl,q a tvs H' sm ha ht]
def Ke:Option Dd->Bool
 |some (_,.off _)=>true
 |_=>false
def cD(d:Dd)(ts:ā):Bool:=!d.2.isTurn&&Ke (look ts d.1)
inductive spIsOff  (vs:OU)(H:Hp)(Q:VK)(E_:XK):Prop
 |mk (v:V) (d:Dd) (a:OC) (tvs:OT) (ts:ā) (h0:vs=[v,.ref a]) (h1:æ) (h2:H a=some Ķ) (h3:TsAt H tvs ts) (h4:∀H',Same H H'->Q (.bl (cD d ts)) H'):spIsOff  vs H Q E_
theorem ES(d:Dd):decide (V.str d.2.word=V.str "off")=Ke (some d):=by exists[n,wd],d;cases wd<;>rfl
abbrev qw:Stmt:=top 26
abbrev DT:List Str:=["deed","turns","name"]
theorem uK:FnScope DT ["deed","turns"] (aq qw):= ~~~0
theorem CU(F:Fun K "is_off" "is_off" qw f fd)(a6:Ó)(c8:Ò):↑FnOk CX0 2 f fd ["deed","turns"] spIsOff:=by
 exists uK
 exists[v,d,a,tvs,ts,rfl,hd,ha,ht,q],h;exists _,(b_c (aA (i:=2) uK.nd á)
   (b_1 (ax (il (Bf İ) (il (Gv č ↑2 ↑1) (iM (cG bO (am ao (am ao (cg č ↑1 ↑2) ai) ai) ar)))))))
 refine#[_,rfl,v,d,rfl,hd,λt H1 s1 e1=>?_];refine#[_,rfl,v,d,rfl,hd.ts Ğ,λH2 s2=>?_];have s12:=s1.trans s2;have q':=λH' s=>q H' s;unfold cD at q';cases c:d.2.isTurn with
 |true =>rw[c]at q';exact#[_,rfl,_,rfl,aC ś]
 |false =>
  rw[c]at q';refine#[_,rfl,_,rfl,aQ ?_];refine#[_,rfl,_,rfl,a,_,rfl,DGet.t (k:=nk d.1) Ŏ ġ,?_];cases e:look ts d.1 with
  |none =>rw[iS ht e];rw[e]at q';exact#[_,rfl,aC ś]
  |some d' =>exists[v',f1,dd,c',wa,cs,rfl,h2,h3,h4,r,h5,h6],aY ht e;rw[f1];rw[e]at q';refine#[_,rfl,aQ ?_];refine#[_,rfl,_,rfl,a,.ref dd,rfl,f1▸DGet.t (k:=nk d.1) Ŏ ġ,dd,_,_,_,rfl,rfl,OP (s12 _ _ h2),at2,wa,_,_,_,rfl,rfl,OP (s12 _ _ h5),at0,rfl,?_];rw[ES];exact q' H2 s12
def gM(n:Nm):Wd->Option Sd
 |.put u pl tx=>some (.put n u pl tx)
 |.move m u pl=>some (.move m u pl)
 |.write m tx=>some (.write m tx)
 |.mark m b=>some (.mark m b)
 |.due m w=>some (.due m w)
 |.fold m b=>some (.fold m b)
 |.part m a pl=>some (.part m a n pl)
 |.join m o=>some (.join m o)
 |_=>none
inductive spStepOf  (vs:OU)(H:Hp)(Q:VK)(E_:XK):Prop
 |mk (v:V) (d:Dd) (s:Sd) (h0:Ň) (h1:æ) (h2:gM d.1 d.2=some s) (h3:∀st H',Same H H'->StAt H' st s->Q ĸ H'):spStepOf  vs H Q E_
theorem FT{wd:Wd}(h:Č)(h2:Ď):V.str ã≠V.str "put"/\V.str ã≠V.str "part":=by
 cases wd with
 |put u pl tx=>exact absurd rfl Ŝ
 |part n a pl=>exact absurd rfl ŝ
 |_=>exact#[by simp only[Wd.word,ne_eq];decide +kernel,by simp only[Wd.word,ne_eq];decide +kernel]
theorem FG{n:Nm}(h:Č)(h2:Ď)(hs:Ŋ)(x:WhAt H wa wd):StAt H wa s:=by
 exists[r,h5,h6],x;cases wd with
 |put u pl tx=>exact absurd rfl Ŝ
 |part n a pl=>exact absurd rfl ŝ
 |move=>cases hs;exists[nv,uv,pv,rfl,a1,a2,a3],h6;exact#[nv,uv,pv,h5,a1,a2,a3]
 |write=>cases hs;exists[nv,rfl,a1],h6;exact#[nv,h5,a1]
 |mark=>cases hs;exists[nv,rfl,a1],h6;exact#[nv,h5,a1]
 |due=>cases hs;exists[nv,rfl,a1],h6;exact#[nv,h5,a1]
 |fold=>cases hs;exists[nv,rfl,a1],h6;exact#[nv,h5,a1]
 |join=>cases hs;exists[nv,mv,rfl,a1,a2],h6;exact#[nv,mv,h5,a1,a2]
 |_=>cases hs
abbrev oG:Stmt:=top 29
abbrev BJ:List Str:=["deed","what"]
theorem rJ:FnScope BJ ["deed"] (aq oG):= ~~~0
theorem AZ(F:Fun K "step_of" "step_of" oG f fd)(a6:Ó):↑FnOk CX0 2 f fd ["deed"] spStepOf:=by
 exists rJ
 obtain⟨v,⟨n,wd⟩,sd,rfl,hd,hs,q⟩:=h;exists[dd,c,wa,cs,rfl,h2,h3,h4,r,h5,h6],id hd;exists _,(b_c (aA (i:=1) rJ.nd Ê)
   (b_c (aT Ń (b_1 (ax (aK jN (aD (q_a ar Ş)) à))) b_0)
   (b_c (aT Ń (b_1 (ax (aK jN (aK jN (eE dN ↑1 eV (dW ai)) (aD Ş)) à))) b_0)
   ĺ)))
 have e5:=OP (K:=K) h5;refine Ĕ;by_cases c1:∃u pl tx,wd=.put u pl tx
 .exists[u,pl,tx,rfl],c1;cases hs;exists[uv,pv,rfl,a1,a2],h6;refine Ñ;refine#[_,rfl,_,_,rfl,hd,λt H1 s1 e1=>#[sz rfl,λy gy=>?_]];have wy:=ad gy (.tup [.str "put",.ref t]);refine#[_,rfl,_,rfl,wa,_,rfl,wy _ _ (s1 _ _ h5),λz H2 s2 e2=>#[y,z,_,_,rfl,rfl,s2 _ _ ac,e2,sz rfl,λst H3 s3 e3=>?_]];have sm:Same H H3:=s1.trans (wy.trans À);exact q st H3 sm #[.ref t,uv,pv,e3,#[t,rfl,s3 _ _ (s2 _ _ (wy _ _ e1))],a1.ts ă,a2.ts ă]
 by_cases c2:∃m a pl,wd=.part m a pl
 .exists[m,a,pl,rfl],c2;cases hs;exists[nv,pv,rfl,a1,a2],h6;refine(vix rfl e5 at0 #[rfl,_,rfl,aL (by simp only[Wd.word,ne_eq];decide +kernel) ?_]);refine Ñ;refine#[_,rfl,_,rfl,wa,_,rfl,h5,λz H1 s1 e1=>?_];refine#[_,rfl,_,_,rfl,hd.ts Ğ,λt H2 s2 e2=>#[sz rfl,λy gy=>?_]];have wy:=ad gy Ļ;refine#[z,y,_,_,rfl,rfl,wy _ _ ġ,ac,sz rfl,λz2 H3 s3 e3=>?_];have s03:Same H H3:=s1.trans (s2.trans (wy.trans s3));refine#[_,rfl,_,rfl,wa,_,rfl,s03 _ _ h5,λz3 H4 s4 e4=>#[z2,z3,_,_,rfl,rfl,s4 _ _ e3,e4,sz rfl,λst H5 s5 e5=>?_]];have sm:Same H H5:=s03.trans (s4.trans s5);exact q st H5 sm #[nv,.ref t,pv,e5,NameIs.ts' a1 ă,#[t,rfl,s5 _ _ (s4 _ _ (s3 _ _ (wy _ _ e2)))],a2.ts ă]
 have n1:∀u pl tx,wd≠.put u pl tx:=λu pl tx z=>c1 #[u,pl,tx,z];have n2:∀n a pl,wd≠.part n a pl:=λn a pl z=>c2 #[n,a,pl,z];exists[w1,w2],FT n1 n2;refine Í;refine(vix rfl e5 at0 #[rfl,_,rfl,aL w2 ?_]);exact#[_,rfl,q wa H (Same.refl H) (FG n1 n2 hs #[r,h5,h6])]
theorem tQ(c:OC)(b:OB):(Value.ref c::b).contains (.ref c)=true:=by simp
structure ErF(K:Qa)(cN cB cF:OC)(bN bB bF:OB):Prop where
 eN:ExC K cN bN
 eB:ExC K cB bB
 eF:ExC K cF bF
 bn:(Value.ref cB::bB).contains ą=false
 fn:(Value.ref cF::bF).contains ą=false
 fb:(Value.ref cF::bF).contains ě=false
def fN(ol:Ol)(s:Sd):Prop:=∀n∈s.items,(look ol n).isSome=true
structure Ready(ol:Ol)(s:Sd):Prop where
 nw:∀n∈ŧ,look ol n=none
 bd:fN ol s->∃r,Bd ol s r
 ng:∀n,s≠.gone n
structure Small(ol:Ol):Prop where
 len:ī<=63
 txt:∀n it,look ol n=some it->ý<=400
inductive WordR(ol:Ol)(s:Sd):Str->Ol->Prop
 |none:¬fN ol s->WordR ol s "none" ol
 |beneath:fN ol s->Bd ol s (some true)->WordR ol s "beneath" ol
 |far:fN ol s->Bd ol s (some false)->WordR ol s "far" ol
 |done {ol':Ol}:fN ol s->Bd ol s none->Ap ol s ol'->WordR ol s "done" ol'
inductive spWordOf(C:OC)(vs:OU)(H:Hp)(Q:VK)(E_:XK):Prop
 |mk (p d g st:OC) (ol:Ol) (s:Sd) (h0:ô) (h1:Ï) (h2:Small ol) (h3:ħ) (h4:Ready ol s) (h5:∀w ol' H',WordR ol s w ol'->But d H H'->OlE C H' p d g ol'->Q (.str w) H'):spWordOf C vs H Q E_
abbrev iH:Stmt:=top 30
abbrev rZ:List Str:=["outline","step"]
theorem rL:FnScope rZ ["outline","step"] (aq iH):= ~~~0
theorem rC(F:Fun K "word_of_step" "word_of_step" iH f fd)(j7:Û)(R:ErF K cN cB cF bN bB bF)(n9:mg "NoItem" = some ą)(j5:mg "Beneath" = some ě)(Nx:mg "Far" = some Ĵ):↑FnOk CX0 5 f fd ["outline","step"] ŏ:=by
 have Oj:=R.eN;have Oe:=R.eB;have Oq:=R.eF;exists rL
 exists[p,d,g,st,ol,sd,rfl,O,sm,hs,rd,q],h;exists[kvs,S,_],id O;obtain⟨⟨dx,h1⟩,h2,h3,h4⟩:=id S;exists _,(b_c (Ld rfl rfl (IS (Lw j7 ↑99 ↑0 Þ)) (Eo Oj n9 í (Eo Oe j5 í (Eo Oq Nx í LL))))
   (b_1 (ax ar)))
 refine#[_,rfl,p,dx,_,rfl,h1,dB _ _,_,rfl,p,d,g,st,ol,sd,rfl,O,sm.len,hs,rd.ng,rd.nw,sm.txt,?_];by_cases c:fN ol sd
 .exists[r,hb],rd.bd c;refine .inr #[c,r,hb,λe H1 s1=>?_,λe H1 s1=>?_,λe H1 ol' b1 o1 ap=>?_]
  .subst e;exact#[cB,bB,rfl,R.eB,by rw[R.bn];exact aC #[cB,bB,rfl,R.eB,by rw[tQ];exact aQ (q _ _ _ (.beneath c hb) Ģ ģ)]]
  .subst e;exact#[cF,bF,rfl,R.eF,by rw[R.fn];exact aC #[cF,bF,rfl,R.eF,by rw[R.fb];exact aC #[cF,bF,rfl,R.eF,by rw[tQ];exact aQ (q _ _ _ (.far c hb) Ģ ģ)]]]
  .subst e;exact q _ _ _ (.done c hb ap) b1 o1
 .refine .inl #[c,λH1 dd s1=>?_];exact#[cN,bN,rfl,R.eN,by rw[tQ];exact aQ (q _ _ _ (.none c) Ģ ģ)]
def SoAt(H:Hp)(sv:V):Option Sd->Prop
 |none=>sv=.non
 |some s=>∃st,sv=.ref st/\StAt H st s
theorem SoAt.ts(x:SoAt H sv so)(t:Ā):SoAt H' sv so:=by
 cases so with
 |none=>exact x
 |some s=>exists[st,h1,h2],x;exact#[st,h1,h2.ts t]
def vF(ol:Ol):Wd->Bool
 |.put (some m) _ _=>!(look ol m).isSome
 |_=>false
inductive PlayR(ol:Ol)(n:Nm):Wd->Str->Option Sd->Ol->Prop
 |none:PlayR ol n .none "done" none ol
 |take {m:Nm}:PlayR ol n (.take m) Ç none ol
 |back {m:Nm}:PlayR ol n (.back m) Ç none ol
 |top {m:Nm} {pl:OJ} {tx:Str}:look ol m=none->PlayR ol n (.put (some m) pl tx) "top" (some Ħ) (aF ol n #[none,pl,tx,false,none,false])
 |step {wd:Wd} {s:Sd} {w:Str} {ol':Ol}:gM n wd=some s->vF ol wd=false->WordR ol s w ol'->PlayR ol n wd w (if w="done" then some s else none) ol'
inductive spPlay(C:OC)(vs:OU)(H:Hp)(Q:VK)(E_:XK):Prop
 |mk (v:V) (dd:Dd) (p d g:OC) (ol:Ol) (h0:vs=[v,.ref p]) (h1:DdAt H v dd) (h2:Ï) (h3:Small ol) (h4:dd.2.isTurn=false) (h5:(∀s,gM dd.1 dd.2=some s->Ready ol s)) (h6:∀w so ol' t sv H',PlayR ol dd.1 dd.2 w so ol'->But d H H'->OlE C H' p d g ol'->H' t=some ĩ->SoAt H' sv so->Q ŀ H'):spPlay C vs H Q E_
theorem yr{wd:Wd}(h:ū=false):wd=.none\/(∃m,wd=.take m\/wd=.back m)\/∃s,gM n wd=some s:=by
 cases wd with
 |none=>exact .inl rfl
 |take m=>exact .inr (.inl #[m,.inl rfl])
 |back m=>exact .inr (.inl #[m,.inr rfl])
 |off k=>cases h
 |on k=>cases h
 |_=>exact .inr (.inr #[_,rfl])
theorem Jc(h:Ŋ):V.str ã≠V.str "none"/\inV ĵ [.str "take",.str "back"]=false:=by cases wd<;>first|exact#[by simp only[Wd.word,ne_eq];decide +kernel,rfl]|cases h
theorem Jd{w:Str}(h:WordR ol s w ol'):w="done"\/V.str w≠V.str "done":=by
 cases h with
 |done=>exact .inl rfl
 |_=>exact .inr ⋯
abbrev xU:Stmt:=top 28
abbrev Jn:List Str:=["deed","outline","what","step","word"]
theorem lY:FnScope Jn ["deed","outline"] (aq xU):= ~~~0
theorem HQ(F:Fun K "play" "play" xU f fd)(Nz:↑MFn 1 C "holds" ["self","name"] Ś)(j7:Û)(Np:↑Fn 2 "step_of" ["deed"] spStepOf)(p7:↑Fn 5 "word_of_step" ["outline","step"] ŏ):
  FnOk P w K mg base CX0 6 f fd ["deed","outline"] Ũ:=by
 exists lY
 obtain⟨v,⟨n,wd⟩,p,d,g,ol,rfl,hd,O,sm,nt,rd,q⟩:=h;exists[da,c,wa,cs,rfl,h2,h3,h4,r,h5,h6],id hd;exists[kvs,S,_],id O;obtain⟨⟨dx,y1⟩,y2,y3,y4⟩:=id S;exists _,(b_c (aA (i:=2) ŗ Ê)
   (b_c (aT ń (b_1 (ax ı)) b_0)
   (b_c (aT (aE (gh (K:=K) rfl) Ô đ) (b_1 (ax (aD (q_a (Be ó ar ar) Ĉ)))) b_0)
   (b_c (aA (i:=3) ŗ (aI Np ↑99 Æ))
   (b_c (xS (aT (t_w (fg ń (fg (aE iR Ô bX) (eO (By ó))))) (b_c (aA (i:=3) ŗ (aD (q_a ar (q_a Ċ (q_a bX (q_a Ċ (q_a Ċ ah)))))))
   (b_c (bu (pD j7 mT ↑99 ↑1 õ))
   (b_1 (ax (aD (q_a ar õ)))))) b_0))
   (b_c (aA (i:=4) ŗ (aI p7 ↑99 (q_a ↑1 õ)))
   (b_1 (ax (aD (q_a ↑4 (q_a (Be (aE bO ↑4 ar) ↑3 bX) ah)))))))))))
 have e5:=OP (K:=K) h5;refine Ĕ;rcases yr (n:=n) nt with rfl|⟨m,hm⟩|⟨sd,hs⟩
 .refine Ñ;exact#[sz rfl,λt gt=>q _ _ _ t _ _ .none (But.of Ð) (O.same Ð) ac rfl]
 .have key:∃nv,r=[nv]/\NameIs H nv (nk m)/\V.str ã≠V.str "none"/\inV ĵ [.str "take",.str "back"]=true/\PlayR ol n wd Ç none ol:=by
   rcases hm with rfl|rfl
   .exists[nv,e,hn],h6;exact#[nv,e,hn,by simp only[Wd.word,ne_eq];decide +kernel,rfl,.take]
   .exists[nv,e,hn],h6;exact#[nv,e,hn,by simp only[Wd.word,ne_eq];decide +kernel,rfl,.back]
  exists[nv,rfl,hn,w1,w2,pr],key;refine Í;refine ï;have wu:=ad gu þ;refine#[u,_,rfl,.inr Ř,rfl,rfl,_,rfl,?_];have ei:Ä=true:=w2;rw[ei];refine aQ ?_;refine#[_,rfl,p,dx,_,rfl,wu _ _ y1,dB _ _,vix rfl (OP (wu _ _ h5)) at1 #[p,d,g,ol,nv,m,rfl,O.same wu,hn.same wu,_,rfl,?_]];cases c:(look ol m).isSome with
  |true =>rw[c]at pr;exact aQ #[sz rfl,λt gt=>q _ _ _ t _ _ pr ş Š ac rfl]
  |false =>rw[c]at pr;exact aC #[sz rfl,λt gt=>q _ _ _ t _ _ pr ş Š ac rfl]
 .exists[w1,w2],Jc hs;have ready:=rd sd hs;refine Í;refine ï;have wu:=ad gu þ;refine#[u,_,rfl,.inr Ř,rfl,rfl,_,rfl,?_];have ei:Ä=false:=w2;rw[ei];refine aC ?_;refine#[_,rfl,_,_,sd,rfl,hd.ts (OO wu),hs,λst H2 s2 hst=>?_];have s02:Same H H2:=wu.trans s2;have O2:=O.same s02;have y2':=s02 _ _ y1;have e52:=OP (K:=K) (s02 _ _ h5);refine xi (λY H'=>Same H H'/\StAt H' st sd/\vF ol wd=false/\Y=[some (.ref da),some Ŀ,some (.ref wa),some ĸ,none]) ?_ ?_
  .intro RJ hRJ;by_cases c1:∃u pl tx,wd=.put u pl tx
   .exists[u,pl,tx,rfl],c1;cases hs;exists[uv,pv,rfl,a1,a2],h6;refine(vix rfl e52 at0 #[rfl,_,rfl,cU ?_]);cases u with
    |none =>obtain rfl:uv=.non:=a1;exact(vix rfl e52 at1 #[rfl,_,rfl,mO rfl (aC (hRJ _ _ #[s02,hst,rfl,rfl]))])
    |some m =>
     exists[mb,rfl,hmb],id a1;refine(vix rfl e52 at1 #[rfl,_,rfl,mM nofun ?_]);refine#[_,rfl,p,dx,_,rfl,y2',dB _ _,vix rfl e52 at1 #[p,d,g,ol,_,m,rfl,O2,#[mb,rfl,s02 _ _ hmb],_,rfl,?_]];cases c:look ol m with
     |some it=>exact aC (hRJ _ _ #[s02,hst,(by show(!(look ol m).isSome)=false;rw[c];rfl),rfl])
     |none =>
      refine aQ ?_;exists[nv,uv',pv',f1,f2,f3,f4],id hst;have ef:=OP (K:=K) f1;refine(vix rfl ef at1 (vix rfl ef at3 (vix rfl ef at4 #[sz rfl,λs' gs=>?_])));have ws:=ad gs è;have s03:=s02.trans ws;have est:StAt (upd H2 s' è) s' Ħ:=#[nv,.non,pv',ac,f2.same ws,rfl,f4.ts (OO ws)]
      refine#[_,rfl,p,dx,_,rfl,ws _ _ y2',dB _ _,_,rfl,p,d,g,s',ol,.put n none pl tx,rfl,O.same s03,sm.len,est,nofun,ready.nw,sm.txt,.inr #[(λm hm=>by simp[Sd.items]at hm),none,.put,nofun,nofun,λ_ H3 ol' b3 o3 ap=>?_]];cases ap;refine#[_,rfl,sz rfl,λt gt=>?_];have wt:=ad gt (.tup [.str "top",.ref s']);have t3:=b3.ts Ő;exact q _ _ _ t _ _ (.top c) (((But.of s03).trans b3).trans (But.of wt)) (o3.same wt) ac #[s',rfl,(est.ts t3).ts (OO wt)]
   .have nn:V.str ã≠V.str "put"/\vF ol wd=false:=by
     cases wd with
     |put u pl tx=>exact absurd #[u,pl,tx,rfl] c1
     |_=>exact#[by simp only[Wd.word,ne_eq];decide +kernel,rfl]
    exact(vix rfl e52 at0 #[rfl,_,rfl,aL nn.1 (aC (hRJ _ _ #[s02,hst,nn.2,rfl]))])
  .rintro Y H3 ⟨s03,hst3,nt',rfl⟩;refine#[_,rfl,_,rfl,p,d,g,st,ol,sd,rfl,O.same s03,sm,hst3,ready,λw ol' H4 wr b4 o4=>?_];have pr:=PlayR.step hs nt' wr;have t4:=b4.ts Ő;rcases Jd wr with rfl|nw
   .rw[Ox rfl]at pr;refine#[_,rfl,_,rfl,rfl,_,rfl,cU ?_];exact#[_,rfl,sz rfl,λt gt=>q _ _ _ t _ _ pr â ő ac #[st,rfl,(hst3.ts t4).ts (OO Ð)]]
   .rw[Ow λz=>nw (Z2 V.str z)]at pr;refine#[_,rfl,_,rfl,rfl,_,rfl,aL nw ?_];exact#[sz rfl,λt gt=>q _ _ _ t _ _ pr â ő ac rfl]
abbrev bh:=Nm×Str×Option Sd
def turned:Dd->Nm
 |((i,_),.off k)=>(i,k)
 |((i,_),.on k)=>(i,k)
 |(n,_)=>n
def bo(ds:Õ):List Nm:=(ds.filter (λd=>d.2.isTurn)).map (·.1)
inductive Runs(ts:ā)(tn:List Nm):Ol->List Dd->List bh->Prop
 |nil {ol:Ol}:Runs ts tn ol [] []
 |off {ol:Ol} {d:Dd} {ds:Õ} {rs:ğ}:cD d ts=true->Runs ts tn ol ds rs->Runs ts tn ol Į ((d.1,"off",none)::rs)
 |turn {ol:Ol} {d:Dd} {ds:Õ} {rs:ğ}:cD d ts=false->d.2.isTurn=true->Runs ts tn ol ds rs->Runs ts tn ol Į ((d.1,if turned d∈tn then"turn" else"done",none)::rs)
 |play {ol ol':Ol} {d:Dd} {ds:Õ} {rs:ğ} {w:Str} {so:Option Sd}:cD d ts=false->d.2.isTurn=false->PlayR ol d.1 d.2 w so ol'->Runs ts tn ol' ds rs->Runs ts tn ol Į ((d.1,w,so)::rs)
def gF(ts:ā):Ol->List Dd->Prop
 |_,[]=>True
 |ol,d::ds=>((cD d ts=true\/d.2.isTurn=true)->gF ts ol ds)/\(cD d ts=false->d.2.isTurn=false->Small ol/\(∀s,gM d.1 d.2=some s->Ready ol s)/\∀w so ol',PlayR ol d.1 d.2 w so ol'->gF ts ol' ds)
def RoAt(H:Hp)(v:V)(r:bh):Prop:=∃(t:OC) (nv sv:V),v=.ref t/\H t=some (.tup [nv,.str r.2.1,sv])/\NameIs H nv Ł/\SoAt H sv r.2.2
theorem RoAt.ts(x:RoAt H v r)(t:Ā):RoAt H' v r:=by exists[a,nv,sv,h1,h2,h3,h4],x;exact#[a,nv,sv,h1,t _ _ h2,h3.ts' t,h4.ts t]
inductive spPlayed  (vs:OU)(H:Hp)(Q:VK)(E_:XK):Prop
 |mk (l:OC) (xs:OU) (ds:Õ) (h0:ĉ) (h1:Ü) (h2:ē) (h3:ň) (h4:Ĩ) (h5:∀a ys rs H',Same H H'->H' a=some ä->Paired ű ys rs->Runs Ö Ą [] ds rs->Q ñ H'):spPlayed  vs H Q E_
theorem fK(h:NameIs H v Ø):Dt H (.tuple [.int n.1,.int n.2]) v:=by exists[b,rfl,e],h;simp only[Dt,DtAll];exact#[b,_,rfl,.inl e,_,_,rfl,rfl,_,_,rfl,rfl,rfl]
def nmD(n:Nm):Qb:=.tuple [.int n.1,.int n.2]
theorem om(x:Paired (λv n=>NameIs H v Ø) vs ns):DtAll H Œ vs/\PyData.canLayAll0 Œ=true:=by
 induction x with
 |nil=>exact#[by simp[DtAll],rfl]
 |@cons p q _ _ r _ ih =>
  refine#[?_,?_]
  .simp only[Zr,DtAll];exact#[_,_,rfl,fK r,ih.1]
  .simp only[Zr,PyData.canLayAll0,ih.2];simp[nmD,PyData.canLay0,PyData.canLayAll0]
theorem rj(k:Nm)(ns:List Nm):((ns.map nmD).any λd=>PyData.eqv d (nmD k))=decide (k∈ns):=by
 induction ns with
 |nil=>rfl
 |cons n ns ih =>
  rw[Zr,YF,ih];have:PyData.eqv (nmD n) (nmD k)=decide (k=n):=by
   have:=jG [n.1,n.2] [k.1,k.2];unfold nmD;rw[show([PyData.int n.1,.int n.2]:List Qb)=[n.1,n.2].map PyData.int from rfl,show([PyData.int k.1,.int k.2]:List Qb)=[k.1,k.2].map PyData.int from rfl,this,YM];constructor
   .intro z;injection z with z1 z2;injection z2 with z2 _;exact Prod.ext z1.symm z2.symm
   .rintro rfl;rfl
  rw[this,Bool.eq_iff_iff];simp
theorem bz{K:Qa}{xs:OU}{n:Nat}{g:TG}{tc:TT}{te:TE}{Q:VK}(Pv:ĳ)(hz:Ĭ<=1000)(hn:Ē)(h0:ŷ)(hl:∀i ys H,Pv i ys H->SqL K H a xs)(ht:∀i ys H x,xs[i]?=some x->Pv i ys H->∀Yq0:OU->Hp->Prop,ð->g x ŋ H λσ2 H2=>tc σ2 H2 λb H3=>if b=true then te σ2 H3 λy H4=>Yq0 Ű H4 else Yq0 ys H3)(hq:∀ys p H,Pv Ĭ ys H->H p=none->Q Ŀ Ō):ir n cap g tc te Y (Itl K a) H0 Q:=by refine kC (N:=Ĭ) Pv hz hn h0 (λi ys H hi z=>#[xs,xs[i],hl i ys H z,by simp[hi]]) (λys H z=>#[xs,hl _ ys H z,Zi _]) (λi ys H x H' hi z y Yq0 hY=>?_) hq;obtain rfl:H'=H:=y.1;exact ht i ys H' x (y.2 xs (hl i ys H' z)) z Yq0 hY
theorem rg{ds:Õ}{i:Nat}{d:Dd}(h:ds[i]?=some d):bo ō=bo Ú++if d.2.isTurn=true then[d.1]else[]:=by unfold bo;rw[List.take_succ,h,Z6,ZA];show _++(List.filter _ [d]).map _=_;cases c:d.2.isTurn<;>simp[c]
abbrev qz:Stmt:=top 27
abbrev DU:List Str:=["ready","turns","turning","outline","told","deed","outcome"]
theorem dP:FnScope DU ["ready"] (aq qz):= ~~~0
theorem CV(F:Fun K "played" "played" qz f fd)(i8:↑Fn 2 "last_turns" ["ready"] spLast)(c8:Ò)(a6:Ó)(i7:ë)(NB:↑Fn 2 "is_off" ["deed","turns"] spIsOff)(NZ:↑Fn 6 "play" ["deed","outline"] Ũ)(p9:↑MkFn 1 C "Plain" ["self"] (spInit C)):↑FnOk CX0 7 f fd ["ready"] spPlayed:=by
 exists dP
 exists[l,xs,ds,rfl,hl,hd,l3,safe,q],h;have ll:=Zv hd;exists _,(b_c (aA (i:=1) ĕ (aI i8 ↑99 Æ))
   (b_c (iU (j:=2) ĕ (own:=["deed"]) Ë rfl ķ (λ_ _ _ _=>aw (i:=0) (show (["deed"]:List Str).Nodup by decide)) (aM ⋯) (λ_ _ _ _=>(kQ (dS İ))) (λ_ _ _ _=>á))
   (b_c (aA (i:=3) ĕ (zI p9 ↑99))
   (b_c (aA (i:=4) ĕ (bA ah))
   (b_c (dG ZT rfl ķ (aw (i:=5) ĕ) (b_c (xS (aT (dS (aI NB ↑99 (q_a ↑5 Þ))) (b_1 (aA (i:=6) ĕ ı)) (b_1 (aT (dS (aI c8 ↑99 Ę)) (b_1 (aA (i:=6) ĕ (aD (q_a (Be (aE (AT hr) (aI i7 ↑99 Ę) ↑2) ar ar) Ĉ)))) (b_1 (aA (i:=6) ĕ (aI NZ ↑99 (q_a ↑5 õ))))))))
   (b_1 (bu (fL ↑4 (aK jN (aD (q_a (aI a6 ↑99 Ę) ah)) ↑6))))))
   (b_1 (ax ↑4)))))))
 refine aB λR0 hR0=>?_;refine#[_,rfl,l,xs,ds,rfl,hl,hd,l3,λa tvs H1 s1 ha ht=>hR0 _ _ ?_];refine aB λR0 hR0=>?_;refine#[_,rfl,l,rfl,#[_,OQ š],?_];refine bz (λi ys H'=>Same H1 H'/\ì<=i/\Paired (λv n=>NameIs H' v Ø) ys (bo Ú)) ∅ ù #[Same.refl _,Zi _,.nil] (λi ys H' z=>OQ (z.1 _ _ š)) ?_ ?_
 .rintro i ys H' v hv ⟨sm,ly,pr⟩ Yq0 hY;exists[d,hdi,hdd],aP hd hv;have s1':=s1.trans sm;refine#[_,rfl,v,d,rfl,hdd.ts (OO s1'),λH2 s2=>#[_,rfl,?_]];cases c:d.2.isTurn with
  |false =>refine aC (hY _ _ #[sm.trans s2,∅,?_]);rw[rg hdi,c,Ow ⋯,ZF];exact Paired.mapP pr λ_ _ z=>z.same s2
  |true =>refine aQ #[_,rfl,v,d,rfl,hdd.ts (OO (s1'.trans s2)),λt H3 s3 e3=>hY _ _ #[sm.trans À,by rw[Zf];exact ZP ly,?_]];rw[rg hdi,c,Ox rfl];exact y7 (Paired.mapP pr λ_ _ z=>z.same À) #[t,rfl,e3]
 rintro nvs tl H2 ⟨sm2,lnv,prn⟩ gtl;rw[ll,ZC]at prn;have wtl:=ad gtl û;have etl:upd H2 tl û tl=some û:=ac;have s02:Same H (upd H2 tl û):=s1.trans ļ;have ha2:=wtl _ _ (sm2 _ _ ha);have ht2:=ht.ts (OO ļ);have prn2:=Paired.mapP prn λ_ _ (z:Ŧ)=>z.same wtl;generalize upd H2 tl û=H3 at etl s02 ha2 ht2 prn2 ⊢;refine hR0 _ _ ?_;refine aB λR0 hR0=>?_;intro x dx nx ndx nex;refine#[x,dx,rfl,ac,λd g H4 fd0 fg0 S4 kp4=>#[rfl,?_]];have s34:Same H3 H4:=λb o e=>kp4 b o (by rw[af Ĺ,af ũ];exact e) Ĺ;have s00:Same H3 (upd (upd H3 dx (.own x)) x (.ins C dx [])):=λb o e=>by rw[af Ĺ,af ũ];exact e
 have d3:H3 d=none:=s00.free fd0;refine hR0 _ _ ?_;refine aB λR0 hR0=>?_;refine#[sz rfl,λto gto=>?_];have wto:=ad gto ò;have eto:upd H4 to ò to=some ò:=ac;have s35:Same H3 ľ:=s34.trans wto;have O5:OlE C ľ x d g []:=#[[],S4.same wto,.nil]
 have ndt:d≠to:=λz=>by have:=S4.dc;rw[z,gto]at this;cases this
 have t3:H3 to=none:=s34.free gto;generalize upd H4 to ò=H5 at eto s35 O5 ⊢;refine hR0 _ _ ?_;have kH:∀{H'},(∀b o,H3 b=some o->H' b=some o)->Same H H':=λk b o e=>k b o (s02 _ _ e);refine aB λR0 hR0=>?_;refine#[_,rfl,l,rfl,#[_,OQ (s35 _ _ œ)],?_];refine eh (K:=K) (a:=l) (xs:=xs) (λi Y H'=>Same H3 H'/\∃ (ol:Ol) (ys:OU) (rs:ğ) (o5 o6:Option V),OlE C H' x d g ol/\gF Ö ol Ţ/\H' to=some ä/\ì=i/\Paired ű ys rs/\(∀ rs',Runs Ö Ą ol Ţ rs'->Runs Ö Ą [] ds (rs++rs')) /\
   Y=[some ĥ,some ñ,some Ų,some (.ref x),some ų,o5,o6])
  #[s35,[],[],[],none,none,O5,safe,eto,rfl,.nil,λrs' z=>z,rfl] (λi Y H' _ z=>OQ (z.1 _ _ œ)) ?_ ?_
 .rintro i v Y H' hv ⟨sm,ol,ys,rs,o5,o6,O,sf,hto,ly,pr,run,rfl⟩ DL hDL;exists[dd,hdi,hdd],aP hd hv;have hi:i<Î:=(Zu.mp hdi).1;have hdr:ds.drop i=dd::ds.drop ć:=by rw[List.drop_eq_getElem_cons hi];rw[Ze hi]at hdi;rw[Zo hdi]
  rw[hdr]at sf run;have hd3:DdAt H3 v dd:=hdd.ts (OO s02);have ddt:d≠to:=ndt;exists[kvs0,S0,_],id O;refine xi (λY H2=>∃ (u:OC) (w:Str) (sv:V) (so:Option Sd) (ol':Ol),Same H3 H2/\H2 to=some ä/\Paired (RoAt H2) ys rs/\OlE C H2 x d g ol'/\gF Ö ol' Ŕ/\H2 u=some ĩ/\SoAt H2 sv so /\
    (∀ rs',Runs Ö Ą ol' Ŕ rs'->Runs Ö Ą ol (dd::ds.drop ć) (ţ::rs'))/\Y=[some ĥ,some ñ,some Ų,some (.ref x),some ų,some v,some (.ref u)]) ?_ ?_
  .intro RJ hRJ;refine#[_,rfl,_,rfl,v,dd,a,tvs,aJ ds,rfl,hd3.ts ă,sm _ _ ha2,ht2.ts ă,λH6 s6=>#[_,rfl,?_]];have s36:=sm.trans s6;have prs:∀{H7},Same H' H7->Paired (RoAt H7) ys rs:=λs7=>Paired.mapP pr λ_ _ z=>z.ts (OO s7);cases c:cD dd (aJ ds)with
   |true=>exact aQ #[sz rfl,λu gu=>hRJ _ _ #[u,"off",.non,none,ol,s36.trans Å,ad gu _ _ _ (s6 _ _ hto),prs Ņ,O.same Ņ,sf.1 (.inl c),ac,rfl,λrs' z=>.off c z,rfl]]
   |false =>
    refine aC ?_;refine#[_,rfl,v,dd,rfl,hd3.ts (OO s36),λH7 s7=>#[_,rfl,?_]];have s67:=s6.trans s7;have s37:=sm.trans s67;cases c2:dd.2.isTurn with
    |true =>
     refine aQ ?_;obtain⟨k,hk⟩:∃k,dd.2=.off k\/dd.2=.on k:=by
      exists[n,wd],dd;cases wd with
      |off k=>exact#[k,.inl rfl]
      |on k=>exact#[k,.inr rfl]
      |_=>cases c2
     have tk:turned dd=ü:=by obtain⟨⟨i,j⟩,wd⟩:=dd;rcases hk with hk|hk<;>(dsimp only at hk;subst hk;rfl)
     refine#[_,rfl,v,dd,k,rfl,hd3.ts (OO s37),hk,λt H8 s8 e8=>?_];have s78:=s67.trans s8;have s38:=sm.trans s78;exists[dt1,dt2],om (Paired.mapP prn2 λ_ _ (z:Ŧ)=>z.same s38);refine#[_,rfl,tl,nvs,nmD ü,_,rfl,OQ (s38 _ _ etl),fK (n:=ü) #[t,rfl,e8],dt1,by simp[SeqAt.shaped,nmD,PyData.canLay0,PyData.canLayAll0,PyData.depth,PyData.depthAll],dt2,_,rfl,?_];have en:(if false=true then !((bo ds).map nmD).any (λd=>PyData.eqv d (nmD ü))else((bo ds).map nmD).any (λd=>PyData.eqv d (nmD ü)))=decide (turned dd∈bo ds):=by rw[tk];exact rj _ _
     rw[en];refine kT Ū Ū
     .exact#[sz rfl,λu gu=>hRJ _ _ #[u,"turn",.non,none,ol,s38.trans Å,ad gu _ _ _ ņ,prs î,O.same î,sf.1 Ŵ,ac,rfl,λrs' z=>by have:=Runs.turn c c2 z;rw[Ox c3]at this;exact this,rfl]]
     .exact#[sz rfl,λu gu=>hRJ _ _ #[u,"done",.non,none,ol,s38.trans Å,ad gu _ _ _ ņ,prs î,O.same î,sf.1 Ŵ,ac,rfl,λrs' z=>by have:=Runs.turn c c2 z;rw[Ow c3]at this;exact this,rfl]]
    |false =>refine aC ?_;exists[small,rdy,nxt],sf.2 c c2;refine#[_,rfl,_,rfl,v,dd,x,d,g,ol,rfl,hd3.ts (OO s37),O.same s67,small,c2,rdy,λw so ol' t sv H8 pl b8 o8 e8 so8=>?_];have k8:Same H3 H8:=λb o e=>b8 b o (s37 _ _ e) (aj e d3);have t8:=b8.ts (s67 _ _ S0.dc);exact hRJ _ _ #[t,w,sv,so,ol',k8,b8 _ _ (s67 _ _ hto) (ZO ndt),Paired.mapP (prs s67) λ_ _ z=>z.ts t8,o8,nxt _ _ _ pl,e8,so8,λrs' z=>.play c c2 pl z,rfl]
  .rintro Y H2 ⟨u,w,sv,so,ol',s32,hto2,pr2,O2,sf2,eu,eso,run2,rfl⟩;refine#[_,rfl,.inl #[rfl,_,OQ hto2],_,rfl,v,dd,rfl,hd3.ts (OO s32),λt H6 s6 e6=>#[sz rfl,λy gy=>?_]];have wy:=ad gy Ļ;refine#[_,rfl,y,u,_,_,rfl,rfl,ac,wy _ _ (s6 _ _ eu),sz rfl,λz H7 s7 e7=>?_];have s27:Same H2 H7:=s6.trans (wy.trans s7);refine#[to,_,_,rfl,rfl,s27 _ _ hto2,aU ∅,?_];have tl':TS H7 ú:=λb zs e=>by rw[af (bw e ď nofun)];exact e
   have T2:TS H2 ú:=λb zs e=>tl' _ _ (s27 _ _ e);refine hDL _ _ #[λb o e=>by rw[af (aj e t3)];exact s27 _ _ (s32 _ _ e),ol',ys++[.ref z],rs++[ţ],_,_,?_,sf2,ac,by rw[Zf,ly];rfl,y7 (Paired.mapP pr2 λ_ _ q=>q.ts T2) #[z,.ref t,sv,rfl,tl' _ _ e7,#[t,rfl,tl' _ _ (s7 _ _ (wy _ _ e6))],eso.ts T2],λrs' q=>by rw[Xd];exact run _ (run2 rs' q),rfl];exists[kvs',S',R'],O2;obtain⟨⟨dz,z1⟩,z2,z3,z4⟩:=S'.same s27;exact#[kvs',#[#[dz,by rw[af (bw z1 ď nofun)];exact z1],by rw[af ndt];exact z2,by rw[af (bw z3 ď nofun)];exact z3,z4],R'.ts T2]
 .rintro Y H' ⟨sm,ol,ys,rs,o5,o6,O,sf,hto,ly,pr,run,rfl⟩;rw[ll,List.drop_length]at run;refine hR0 _ _ ?_;have:=run [] .nil;rw[ZF]at this;exact#[_,rfl,q to ys rs H' (s02.trans sm) hto pr this]
def WoAt(H:Hp)(v:V)(r:bh):Prop:=∃(t:OC) (nv:V),v=.ref t/\H t=some (.tup [nv,.str r.2.1])/\NameIs H nv Ł
inductive spWords  (vs:OU)(H:Hp)(Q:VK)(E_:XK):Prop
 |mk (l:OC) (xs:OU) (ds:Õ) (h0:ĉ) (h1:Ü) (h2:ē) (h3:ň) (h4:Ĩ) (h5:∀a ys rs H',Same H H'->H' a=some ä->Paired ŵ ys rs->Runs Ö Ą [] ds rs->Q ñ H'):spWords  vs H Q E_
theorem WoAt.ts(x:WoAt H v r)(t:Ā):WoAt H' v r:=by exists[a,nv,h1,h2,h3],x;exact#[a,nv,h1,t _ _ h2,h3.ts' t]
theorem cu{α:Type}{l:ť}{i:Nat}{x:α}(h:l[i]?=some x):l.take ć=l.take i++[x]:=by rw[List.take_succ,h];rfl
theorem jB{ts:ā}(h:Runs ts tn ol ds rs):rs.length=Î:=by
 induction h with
 |nil=>rfl
 |off _ _ ih=>rw[Zm,Zm,ih]
 |turn _ _ _ ih=>rw[Zm,Zm,ih]
 |play _ _ _ _ ih=>rw[Zm,Zm,ih]
abbrev nj:Stmt:=top 21
abbrev Am:List Str:=["ready"]
theorem yM:FnScope Am ["ready"] (aq nj):= ~~~0
theorem yJ(F:Fun K "words_of" "words_of" nj f fd)(r0:ø):↑FnOk CX0 8 f fd ["ready"] spWords:=by
 exists yM
 exists[l,xs,ds,rfl,hl,hd,l3,safe,q],h;exists _,(b_1 (ax (de (own:=["name","word","step"]) Ë rfl ĝ (λ_ _ _ _=>hJ (K:=K) (n:=3) rfl rfl (bC (aw (i:=0) (show(["name","word","step"]:List Str).Nodup by decide)) (bC (aw (i:=1) (show(["name","word","step"]:List Str).Nodup by decide)) (bC (aw (i:=2) (show(["name","word","step"]:List Str).Nodup by decide)) fj)))) É (λ_ _ _ _=>hV) (λ_ _ _ _=>(aD (q_a ↑0 Þ))))))
 refine#[_,rfl,l,xs,ds,rfl,hl,hd,l3,safe,λa ys rs H1 s1 ea pr run=>#[a,rfl,#[_,OQ ea],?_]];have ln:ì=Î:=(Zv pr).trans (jB run);refine bz (λi zs H'=>Same H1 H'/\ŭ<=i/\Paired ŵ zs Ĥ) ∅ ù #[Same.refl _,Zi _,.nil] Ă ?_ ?_
 .rintro i zs H' v hv ⟨sm,lz,pz⟩ Yq0 hY;exists[r,hr',t,nv,sv,rfl,e1,e2,e3],aP pr hv;refine#[t,_,rfl,OP Ť,rfl,_,_,rfl,_,_,rfl,_,_,rfl,rfl,?_];refine#[_,rfl,_,rfl,sz rfl,λu gu=>hY _ _ #[sm.trans Å,by rw[Zf];exact ZP lz,?_]];rw[cu hr'];exact y7 ê #[u,nv,rfl,ac,e2.same ę]
 .rintro zs b H' ⟨sm,lz,pz⟩ gb;rw[(Zv pr),ZC]at pz;exact q b zs rs _ ÿ ac Ý run
def bG(rs:ğ):List (Nm×Sd):=rs.filterMap λr=>r.2.2.map λs=>(r.1,s)
def SsAt(H:Hp)(v:V)(r:Nm×Sd):Prop:=∃(t st:OC) (nv:V),v=.ref t/\H t=some (.tup [nv,.ref st])/\NameIs H nv Ł/\StAt H st r.2
theorem SsAt.ts(x:SsAt H v r)(t:Ā):SsAt H' v r:=by exists[a,st,nv,h1,h2,h3,h4],x;exact#[a,st,nv,h1,t _ _ h2,h3.ts' t,h4.ts t]
inductive spSteps  (vs:OU)(H:Hp)(Q:VK)(E_:XK):Prop
 |mk (l:OC) (xs:OU) (ds:Õ) (h0:ĉ) (h1:Ü) (h2:ē) (h3:ň) (h4:Ĩ) (h5:∀a ys rs H',Same H H'->H' a=some ä->Paired Ŷ ys (bG rs)->Runs Ö Ą [] ds rs->Q ñ H'):spSteps  vs H Q E_
abbrev mZ:Stmt:=top 22
abbrev Al:List Str:=["ready"]
theorem yL:FnScope Al ["ready"] (aq mZ):= ~~~0
theorem yI(F:Fun K "steps_of" "steps_of" mZ f fd)(r0:ø):↑FnOk CX0 8 f fd ["ready"] spSteps:=by
 exists yL
 exists[l,xs,ds,rfl,hl,hd,l3,safe,q],h;exists _,(b_1 (ax (de (own:=["name","word","step"]) Ë rfl ĝ (λ_ _ _ _=>hJ (K:=K) (n:=3) rfl rfl (bC (aw (i:=0) (show(["name","word","step"]:List Str).Nodup by decide)) (bC (aw (i:=1) (show(["name","word","step"]:List Str).Nodup by decide)) (bC (aw (i:=2) (show(["name","word","step"]:List Str).Nodup by decide)) fj)))) É (λ_ _ _ _=>(kQ (aE iR ↑2 bX))) (λ_ _ _ _=>(aD (q_a ↑0 ė))))))
 refine#[_,rfl,l,xs,ds,rfl,hl,hd,l3,safe,λa ys rs H1 s1 ea pr run=>#[a,rfl,#[_,OQ ea],?_]];have ln:ì=Î:=(Zv pr).trans (jB run);refine bz (λi zs H'=>Same H1 H'/\ŭ<=i/\Paired Ŷ zs (bG Ĥ)) ∅ ù #[Same.refl _,Zi _,.nil] Ă ?_ ?_
 .rintro i zs H' v hv ⟨sm,lz,pz⟩ Yq0 hY;exists[r,hr',t,nv,sv,rfl,e1,e2,e3],aP pr hv;have es:bG (rs.take ć)=bG Ĥ++(r.2.2.map λs=>(r.1,s)).toList:=by unfold bG;rw[cu hr',List.filterMap_append];exists[n,w',so],r;cases so<;>rfl
  refine#[t,_,rfl,OP Ť,rfl,_,_,rfl,_,_,rfl,_,_,rfl,rfl,?_];exists[n,w',so],r;cases so with
  |none =>obtain rfl:sv=.non:=e3;refine#[_,rfl,rfl,_,rfl,mO rfl (hY _ _ #[sm,∅,?_])];rw[es];simpa using pz
  |some sd =>exists[st,rfl,est],e3;refine#[_,rfl,rfl,_,rfl,mM nofun ?_];refine#[_,rfl,_,rfl,sz rfl,λu gu=>hY _ _ #[sm.trans Å,by rw[Zf];exact ZP lz,?_]];rw[es];exact y7 ê #[u,st,nv,rfl,ac,e2.same ę,est.ts (OO ę)]
 .rintro zs b H' ⟨sm,lz,pz⟩ gb;rw[(Zv pr),ZC]at pz;exact q b zs rs _ ÿ ac Ý run
def whD:Option Int->Qb
 |none=>.none
 |some i=>.int i
def upD:Option Nm->Qb
 |none=>.none
 |some n=>nmD n
def plD(ns:OJ):Qb:=.tuple (ns.map PyData.int)
theorem GO(h:UpAt H v u):Dt H (upD u) v:=by
 cases u with
 |none =>obtain rfl:v=.non:=h;simp only[upD,Dt]
 |some n=>exact fK h
theorem Me(h:PlAt H v ns):Dt H (plD ns) v:=by exists[b,rfl,e],h;exact jE e
theorem MC(w:Ī):Dt H (whD w) (whV w):=by cases w<;>simp only[whD,whV,Dt]
theorem gQ{H:Hp}{st:OC}(h:H st=some (.tup vs))(hd:Ŗ):Dt H (.tuple ds) ĸ:=by unfold Dt;exact#[st,_,rfl,.inl h,hd]
theorem iO:DtAll H [] []:=by simp[DtAll]
theorem bM(h:Dt H d v)(t:Ŗ):DtAll H Į (v::vs):=by unfold DtAll;exact#[_,_,rfl,h,t]
theorem iP(s:Str):Dt H (.str s) (.str s):=by simp only[Dt]
theorem AC(b:Bool):Dt H (.bool b) (.bl b):=by simp only[Dt]
theorem JH(i:Int):Dt H (.int i) (.int i):=by simp only[Dt]
theorem bJ(n:Nm):(nmD n).canLay0=true/\(nmD n).depth=1:=by simp[nmD,PyData.canLay0,PyData.canLayAll0,PyData.depth,PyData.depthAll]
theorem rc(u:Ľ):(upD u).canLay0=true/\(upD u).depth<=1:=by
 cases u with
 |none=>exact#[rfl,⋯]
 |some n=>exact#[(bJ n).1,Nat.le_of_eq (bJ n).2]
theorem Cy(ns:OJ):(plD ns).canLay0=true/\(plD ns).depth=1:=by exists[h1,h2],xw ns;exact#[by simpa[plD,PyData.canLay0]using h1,by simp[plD,PyData.depth,h2]]
theorem Cz(w:Ī):(whD w).canLay0=true/\(whD w).depth=0:=by cases w<;>exact#[rfl,rfl]
theorem jJ{H:Hp}{α:Type}{R:V->α->Prop}{D:α->Qb}{l:OC}{vs:OU}{rs:ť}(hl:H l=some (.lst vs))(x:Paired R vs rs)(hD:∀v r,r∈rs->R v r->Dt H (D r) v/\(D r).canLay0=true/\(D r).depth<=3) :
  Dt H Đ ĥ/\SeqAt.shaped Đ=true/\PyData.eqv Đ Đ=true:=by
 have gen:DtAll H Ù vs/\PyData.canLayAll0 Ù=true/\PyData.depthAll Ù<=3:=by
  clear hl;induction x with
  |nil=>exact#[iO,rfl,by simp[PyData.depthAll]]
  |@cons p q _ _ r _ ih =>exists[h1,h2,h3],hD p q Zn r;exists[i1,i2,i3],ih λv r hr=>hD v r (Zj _ hr);refine#[bM h1 i1,by simp[PyData.canLayAll0,h2,i2],?_];simp only[Zr,PyData.depthAll];omega
 exists[g1,g2,g3],gen;have c:(PyData.list Ù).canLay0=true:=by simpa[PyData.canLay0]using g2
 refine#[?_,bU c (by simp only[PyData.depth];omega),SeqAt.eqv_refl _ c];simp only[Dt];exact#[l,vs,rfl,.inl hl,g1]
end
mutual
#check#[(.inr (.inr #[by simp only[Wd.word,ne_eq];decide +kernel,by simp only[Wd.word,ne_eq];decide +kernel,by simp only[Wd.word,ne_eq];decide +kernel,.inr #[rfl,λH r ⟨nv,h,a⟩=>#[nv,_,n,h,a,rfl]]])),(rs.map λr:bh=>(nk r.1,V.str r.2.1)),(↑Fn 1 "name_of" ["deed"] spNameOf),(∃L:List Nm,L.Nodup/\(∀x,(look ol x).isSome=true↔x∈L)/\(L.map (wt ol)).sum<=B),(if false=true then !inV (V.str wd.word) [.str "take",.str "off",.str "on",.str "none"]else inV (V.str wd.word) [.str "take",.str "off",.str "on",.str "none"]),(by simp only[Wd.word,ne_eq];decide +kernel),(aI a6 ↑99 (q_a ↑0 ah)),(am ao ↑1 ai),(if false=true then !inV (V.str W[i]) [.str "done",.str "top"]else inV (V.str W[i]) [.str "done",.str "top"]),(if(0:Int)>a then 0 else a),(am ao ↑0 ai),(D.map Prod.snd),it.tx.length,(aF ol n it'),(some ((a.toNat:Nat):Int)),(.tup [.ref tn,iv,bv]),(aI r6 ↑99 (q_a ↑0 (q_a (aI a6 ↑99 (q_a ↑1 ah)) ah))),(∀n∈s.news,look ol n=none),(.tuple [.str "back",nmD it]),(by simp[Sd.items]),(Classical.propDecidable _),(aF ol n it),(Nat),0,(H l=some (.lst xs)),wd.word,(Runs ts tn ol (d::ds) rs),(JoinR ol n m itn itm ol'),(.tup [.str "back",iv]),(.dT (bI [] Á)),(.lst []),(L.zip W),(↑Fn 2 "hears" ["deed","name"] spHears),(q_a ar (q_a ar ah)),(DA H a d),(some n),(Yr _ _),(NameIs H iv (nk it)),(q_a ↑2 ah),(.lst (aH D)),(by rw[ay,Ox rfl]),(look ol n=some itn),(look ol m=some itm),v.wgt,x.length,(.tup [.str "take",.str "join"]),(aR L),(.cons #[t,rfl,wl _ _ e1] .nil),(look ol n=some it),(Eqo a b),t2.length,(.ref p),(L.map Prod.snd),(if wd.mk=true then[n]else[]),(OlE C H p d g ol),0,tactic.hygienic,(Nat.add_le_add_left ok.2 B),(∀s∈ss,∀n,s≠.gone n),hr.units,(List.replicate n (0:Int)),(List Nm),(TS H H'),(OO wu),(Inv ol B),(gM n wd=some s),(wd.mk=true->look ol n=none),(.ref l),itn.tx.length,(bI (bj kvs p.1 p.2) ps),it.up,(q_a ↑1 ah),(am ao Ê ai),(aE bO Ç ar),(s1.trans wl),(q_a ↑0 ah),(s2.trans s3),(kp b o hb e),(V.str D[i].2.2.2.word),(cD d ts=false),(some É),(ns.map nmD),(λz=>c (c2.trans z)),(Ter ol),(wt ol),(PlayR ol n wd w so ol'),(OO sm),(by simp[Sd.news,z]),(nomatch h),(hh.mpr c'),(q_a Æ ah),(aM ⋯),(vs=[.ref a]),(Ol->Prop),(vs=[.ref l]),(Paired (StV H) xs ss),(by simp[Sd.news]),(λs z=>nomatch z),((L.zip W).take i),i.toNat,cW.nd,(λd=>dF ol Ë d),(NameIs H nv (nk n)),as.length,(OO s1),(p.1,v),((lN _ _).mpr c),(List OC),(List D3),(Ol->As Unit->Prop),(hh.mp c),(d.1:Int),(.str Ù),(aj e nx),(λz=>e z.symm),((lN _ _).mp z),((d.1:Nat):Int),((e.1:Nat):Int),(λ_ _ _ _=>hV),(s11.trans wtr),(d.2.isTurn=false),(Option Nm),(LR3 H l L),(by rw[h];rfl),(as.map V.ref),(0,0,[],.none),(spSteppedA C),itm.tx.length,(some x),(b_1 (ax lh)),(spStepped C),(s1.trans s2),(q_a ↑5 ah),(Und ol o k u b),(look ol n=none),(Int),i.up,0,(OC×D3),(λl=>l[i]?),(NmsAt H xs ns),hd.dd,(d::ds),(OO wl),(OP ac),(aJ î),(q_a Ê ah),(q_a Ç ah),(bI kvs ps),(S5 _ _ hl),(L[i],W[i]),(mem x hx'),(Nm->Nat),(List OJ),(List Sd),(i+1),(dL e _ _),(.list []),(.list đ),(hn,cs,wd),(aj e ndx),(Str),ol.length,xs.length,ns.length,rs.length,zs.length,(aH L),(iP _),(hd m Ó),(Zj _ he),(mh e un),(Zj _ hx),(.lst vs),(bD ↑0),(TkAt H'),(.lst zs),(DOk wd),(TkAt _ _ _),it.tx,v.ter,wd.mk,as.Nodup,wd.ok]
section
variable{ts:As Dd}{d:Dd}
theorem jS(c:ď)(c2:ĸ)(h:Ú):∃w so ol' rs',rs=(d.1,w,so)::rs'/\PlayR ol d.1 d.2 w so ol'/\Runs ts tn ol' ds rs':=by
 cases h with
 |off z _=>rw[c]at z;cases z
 |turn _ z _=>rw[c2]at z;cases z
 |play _ _ p r=>exact#[_,_,_,_,rfl,p,r]
theorem lT(c:cD d ts=true)(h:Ú):∃rs':List bh,rs=((d.1,"off",none):bh)::rs'/\Runs ts tn ol ds rs':=by
 cases h with
 |off _ r=>exact#[_,rfl,r]
 |turn z _ _=>rw[c]at z;cases z
 |play z _ _ _=>rw[c]at z;cases z
theorem jT(c:ď)(c2:d.2.isTurn=true)(h:Ú):∃rs':List bh,rs=((d.1,if turned d∈tn then"turn" else"done",none):bh)::rs'/\Runs ts tn ol ds rs':=by
 cases h with
 |off z _=>rw[c]at z;cases z
 |turn _ _ r=>exact#[_,rfl,r]
 |play _ z _ _=>rw[c2]at z;cases z
theorem tq(h:Runs ts tn ol [] rs):rs=[]:=by cases h;rfl
theorem Dy(c:ď)(c2:ĸ)(h1:Small ol)(h2:∀s,gM d.1 d.2=some s->Ready ol s)(h3:∀w so ol',PlayR ol d.1 d.2 w so ol'->gF ts ol' ds):gF ts ol Ŏ:=by unfold gF;exact#[λz=>(by rw[c,c2]at z;rcases z with z|z<;>cases z),λ_ _=>#[h1,h2,h3]]
theorem uJ(c:cD d ts=true\/d.2.isTurn=true)(h:gF ts ol ds):gF ts ol Ŏ:=by unfold gF;exact#[λ_=>h,λz1 z2=>by rw[z1,z2]at c;rcases c with c|c<;>cases c]
#check 0
theorem tR{k k':Ö}(h:Ņ):Und ol o k' u b'->b=b':=by
 induction h generalizing k' b' with
 |none=>intro h';cases h';rfl
 |self=>intro h';cases h' with
  |self=>rfl
  |up ne _ _=>exact absurd rfl ne
 |up ne e _ ih=>intro h';cases h' with
  |self=>exact absurd rfl ne
  |up _ e' h2 =>rw[e]at e';cases e';exact ih h2
theorem Dg{w:š}(h:PlayR ol n .none w so ol'):w="done"/\so=none/\ol'=ol:=by
 cases h with
 |none=>exact#[rfl,rfl,rfl]
 |step hs _ _=>cases hs
inductive Ch(ol:Ol):Nat->Option Nm->Prop
 |none:Ch ol 0 none
 |up {k:Ö} {n:Nm} {it:It}:look ol n=some it->Ch ol k Ć->Ch ol (k+1) ã
def Ter(ol:Ol):Prop:=∀n it,look ol n=some it->∃k,Ch ol k ã
theorem yk{k:Ö}(h:Ch ol k u)(o:Nm):∃k' b,Und ol o k' u b:=by
 induction h with
 |none=>exact#[0,false,.none]
 |@up k n it hl _ ih =>
  by_cases c:n=o
  .exact#[0,true,c▸.self]
  .exists[k',b,x],ih;exact#[k'+1,b,.up c hl x]
theorem Ter.up{ol:Ol}(t:ē){n:Nm}{it:It}(h:ð):∃k,Ch ol k Ć:=by
 exists[k,x],t n it h;cases x with
 |up hl y =>rw[h]at hl;cases hl;exact#[_,y]
theorem oV(hh:∀n it,look ol n=some it->∃it',look ol' n=some it'/\it'.up=Ć){k:Ö}(h:Ch ol k u):Ch ol' k u:=by
 induction h with
 |none=>exact .none
 |up hl _ ih =>exists[it',h1,h2],hh _ _ hl;exact .up h1 (h2▸ih)
theorem Ter.keep(t:ē){it it':It}(h:ð)(e:it'.up=Ć):Ter Í:=by
 have mono:∀x i,look ol x=some i->∃i',look Í x=some i'/\i'.up=ň:=λx i hx=>by
  rw[ay];by_cases c:x=n
  .rw[Ox c];subst c;rw[h]at hx;cases hx;exact#[_,rfl,e]
  .rw[Ow c];exact#[_,hx,rfl]
 intro x i hx;rw[ay]at hx;by_cases c:x=n
 .subst c;exists[k,y],t x it h;exact#[k,oV mono y]
 .rw[Ow c]at hx;exists[k,y],t x i hx;exact#[k,oV mono y]
theorem Ter.new{ol:Ol}(t:ē){n:Nm}{it:It}{k:Ö}(h:ņ)(c:Ch ol k Ć):Ter Õ:=by
 have mono:∀x i,look ol x=some i->∃i',look Õ x=some i'/\i'.up=ň:=λx i hx=>by rw[ay,Ow λz=>by rw[z,h]at hx;cases hx];exact#[_,hx,rfl]
 intro x i hx;by_cases e:x=n
 .subst e;exact#[_,.up è (oV mono c)]
 .rw[ay,Ow e]at hx;exists[k,y],t x i hx;exact#[k,oV mono y]
theorem FQ{k:Ö}(h:Ņ)(hb:b=false):Ch (aF ol o x) k u:=by
 induction h with
 |none=>exact .none
 |self=>cases hb
 |up hn hl _ ih=>exact .up (by rw[ay,Ow hn];exact hl) (ih hb)
theorem Ter.move{ol:Ol}(t:ē){n:Nm}{it':It}{k:Ö}(un:Und ol n k it'.up false):Ter Í:=by
 have cn:Ch Í (k+1) ã:=.up è (FQ un rfl);have gen:∀{k:Ö} {u:Ĺ},Ch ol k u->∃k',Ch Í k' u:=λh=>by
  induction h with
  |none=>exact#[0,.none]
  |@up k x i hl _ ih =>
   by_cases c:x=n
   .exact#[_,by rw[c];exact cn]
   .exists[k',y],ih;exact#[_,.up (by rw[ay,Ow c];exact hl) y]
 intro x i hx;by_cases c:x=n
 .exact#[_,by rw[c];exact cn]
 .rw[ay,Ow c]at hx;exists[k,y],t x i hx;exact gen y
theorem kK(hn:é)(hm:ê)(j:Û):
  (∀x,look ol x=none->look ol' x=none)/\∀x it,look ol x=some it->∃i,look ol' x=some (dX n m i)/\ň=Ć/\i.tx=(if x=m then("":Str)else if x=n then itn.tx++itm.tx else ų):=by
 exists[itm2,h2,hl],j.lk;have em:itm2.up=itm.up:=by
  rw[ay]at h2;by_cases c:m=n
  .rw[Ox c]at h2;subst c;rw[hn]at hm;cases hm;cases h2;rfl
  .rw[Ow c,hm]at h2;cases h2;rfl
 refine#[λx hx=>?_,λx it hx=>?_]
 .have d1:x≠m:=λz=>by rw[z,hm]at hx;cases hx
  have d2:x≠n:=λz=>by rw[z,hn]at hx;cases hx
  rw[hl x,ay,ay,Ow d1,Ow d2,hx];rfl
 .rw[hl x,ay,ay];by_cases c:x=m
  .rw[Ox c,Ox c];subst c;rw[hm]at hx;cases hx;exact#[_,rfl,em,rfl]
  .rw[Ow c,Ow c];by_cases c2:x=n
   .rw[Ox c2,Ox c2];subst c2;rw[hn]at hx;cases hx;exact#[_,rfl,rfl,rfl]
   .rw[Ow c2,Ow c2,hx];exact#[_,rfl,rfl,rfl]
theorem sX(n m:Nm)(i:It):(dX n m i).up=if ň=some m then some n else ň:=by unfold dX;split<;>rfl
theorem IE(n m:Nm)(i:It):(dX n m i).tx=i.tx:=by unfold dX;split<;>rfl
theorem Ac{k:Ö}(h:Und ol o k u false):u≠some o:=by
 intro z;subst z;cases h with
 |up hn _ _=>exact hn rfl
theorem Ter.join{ol ol':Ol}{n m:Nm}{itn itm:It}(t:ē)(hn:é)(hm:ê)(j:Û){k:Ö}(un:Und ol m k ã false):Ter ol':=by
 exists[j0,j1],kK hn hm j;have c1:∀{k:Ö} {u:Ĺ} {b:Bool},Und ol m k u b->b=false->Ch ol' k u:=λh=>by
  induction h with
  |none=>intro _;exact .none
  |self=>intro z;cases z
  |@up k x i b hx hl y ih =>intro hb;subst hb;exists[i',e1,e2,_],j1 x i hl;refine .up e1 ?_;rw[sX,e2,Ow (Ac y)];exact ih rfl
 have gen:∀{k:Ö} {u:Ĺ},Ch ol k u->∃k',Ch ol' k' u:=λh=>by
  induction h with
  |none=>exact#[0,.none]
  |@up k x i hl _ ih =>
   exists[i',e1,e2,_],j1 x i hl;by_cases c:ň=some m
   .exact#[_,.up e1 (by rw[sX,e2,Ox c];exact c1 un rfl)]
   .exists[k',y],ih;exact#[_,.up e1 (by rw[sX,e2,Ow c];exact y)]
 intro x i hx;cases e:look ol x with
 |none=>rw[j0 x e]at hx;cases hx
 |some i0 =>exists[k,y],t x i0 e;exact gen y
def wt(ol:Ol)(x:Nm):Nat:=match look ol x with
 |some it=>Ì
 |none=>0
theorem fM(h:look ol x=some it):wt ol x=Ì:=by unfold wt;rw[h]
theorem Ae(h:look ol x=none):wt ol x=0:=by unfold wt;rw[h]
theorem mo:wt Õ x=if x=n then Ì else wt ol x:=by
 unfold wt;rw[ay];by_cases c:x=n
 .rw[Ox c,Ox c]
 .rw[Ow c,Ow c]
theorem pA{f:Ř}:∀{L:ý} {x:Nm},x∈L->f x<=(L.map f).sum
 |y::L,x,h=>by
  rw[Zr,List.sum_cons];rcases Zg.mp h with rfl|h
  .omega
  .have:=pA (f:=f) h;omega
theorem DF{f g:Ř}{L:ý}(h:∀y∈L,f y=g y):(L.map f).sum=(L.map g).sum:=by rw[Y1 h]
theorem mf{f g:Ř}:∀{L:ý},L.Nodup->x∈L->(∀y,y≠x->f y=g y)->(L.map f).sum+g x=(L.map g).sum+f x
 |y::L,nd,h,e=>by
  rw[Z3]at nd;rw[Zr,List.sum_cons,Zr,List.sum_cons];rcases Zg.mp h with rfl|h
  .have:(L.map f).sum=(L.map g).sum:=DF λy hy=>e y λz=>nd.1 (z▸hy);omega
  .have:=mf nd.2 h e;have:=e y λz=>nd.1 (z▸h);omega
structure Inv(ol:Ol)(B:Ö):Prop where
 ter:Ter ol
 wgt:∃L:List Nm,L.Nodup/\(∀x,(look ol x).isSome=true↔x∈L)/\(L.map Ĕ).sum<=B
theorem MM:Inv [] 0:=#[λn it h=>Ę,[],List.nodup_nil,λx=>#[λh=>Ę,λh=>Ę],Zi _]
theorem Inv.small{B:Ö}(v:Ā)(h1:Ţ<=63)(h2:B<=400):Small ol:=by exists[L,nd,hL,hs],ë;refine#[h1,λn it h=>?_];have:=pA (f:=wt ol) ((hL n).mp Ļ);rw[fM h]at this;omega
theorem Inv.more{B C:Ö}(v:Ā)(h:B<=C):Inv ol C:=#[Ŵ,by exists[L,a,b,c],ë;exact#[L,a,b,Zs c h]]
theorem mj{B c:Ö}{it it':It}(v:Ã)(h:ð)(e:it'.tx.length<=Ì+c):∃L:List Nm,L.Nodup/\(∀x,(look Í x).isSome=true↔x∈L)/\(L.map (wt Í)).sum<=B+c:=by
 exists[L,nd,hL,hs],v;have hn:n∈L:=(hL n).mp Ļ;refine#[L,nd,λx=>?_,?_]
 .rw[ay];by_cases z:x=n
  .rw[Ox z,z];exact#[λ_=>hn,λ_=>rfl]
  .rw[Ow z];exact hL x
 .have:=mf (f:=wt Í) (g:=wt ol) nd hn λy hy=>by rw[mo,Ow hy]
  rw[mo,Ox rfl,fM h]at this;omega
theorem tV{B:Ö}(v:Ã)(h:ņ):∃L:List Nm,L.Nodup/\(∀x,(look Õ x).isSome=true↔x∈L)/\(L.map (wt Õ)).sum<=B+Ì:=by
 exists[L,nd,hL,hs],v;have hn:¬n∈L:=λz=>by have:=(hL n).mpr z;rw[h]at this;cases this
 refine#[n::L,Z3.mpr #[hn,nd],λx=>?_,?_]
 .rw[ay,Zg];by_cases z:x=n
  .rw[Ox z];exact#[λ_=>.inl z,λ_=>rfl]
  .rw[Ow z,hL x];exact#[.inr,λy=>y.resolve_left z]
 .rw[Zr,List.sum_cons,mo,Ox rfl];have:(L.map (wt Õ)).sum=(L.map Ĕ).sum:=DF λy hy=>by rw[mo,Ow λz:y=n=>hn (z▸hy)]
  omega
set_option ø true in theorem BW(x:š){a b:Ö}(hab:a<=b)(hb:b<=ì):(dq x (some (a:Ň)) (some (b:Ň))).length=b-a:=by
 unfold dq;split
 .rename_i h;rw[StrLaws.strSliceIndices_plain hab hb,Zd,YW]at h;exact h.symm
 .rw[StrLaws.sliced_plain x hab hb];show(List.toArray _).size=_;rw[Zk,ZY,YL];have:x.cps.toList.length=ì:=rfl;omega
theorem Ha{x:š}{a:Ň}(h:¬(ì:Ň)<a):(dq x none Đ).length+(dq x Đ none).length=ì:=by
 have e:É=((a.toNat:Nat):Int):=by split<;>omega
 have hk:a.toNat<=ì:=∅
 have e1:dq x none Î=dq x (some ((0:Ö):Int)) Î:=by unfold dq;rw[StrLaws.sliceIdx_none_lo];rfl
 have e2:dq x Î none=dq x Î (some ((ì:Nat):Int)):=by unfold dq;rw[StrLaws.sliceIdx_none_hi]
 rw[e,e1,e2,BW x (ZL _) hk,BW x hk (Zi _)];omega
theorem FU{B:Ö}(v:Ã)(hn:é)(hm:ê)(nm:n≠m)(j:Û):∃L:List Nm,L.Nodup/\(∀x,(look ol' x).isSome=true↔x∈L)/\(L.map (wt ol')).sum<=B:=by
 exists[L,nd,hL,hs],v;exists[j0,j1],kK hn hm j;have mn:n∈L:=(hL n).mp (by rw[hn];rfl);have mm:m∈L:=(hL m).mp (by rw[hm];rfl);refine#[L,nd,λx=>?_,?_]
 .rw[<-hL x];cases e:look ol x with
  |none=>rw[j0 x e]
  |some it =>exists[i,e1,_],j1 x it e;rw[e1];exact#[λ_=>rfl,λ_=>rfl]
 .let g:Nm->Nat:=λx=>if x=n then Ą+itm.tx.length else wt ol x
  have w1:∀x,wt ol' x=if x=m then 0 else g x:=λx=>by
   show _=if x=m then 0 else if x=n then Ą+itm.tx.length else wt ol x
   cases e:look ol x with
   |none =>
    have d1:x≠m:=λz=>by rw[z,hm]at e;cases e
    have d2:x≠n:=λz=>by rw[z,hn]at e;cases e
    rw[Ae (j0 x e),Ow d1,Ow d2,Ae e]
   |some it =>
    exists[i,e1,_,e3],j1 x it e;rw[fM e1,IE,e3];by_cases c:x=m
    .rw[Ox c,Ox c];decide +kernel
    .rw[Ow c,Ow c];by_cases c2:x=n
     .rw[Ox c2,Ox c2,sL]
     .rw[Ow c2,Ow c2,fM e]
  have s1:=mf (f:=wt ol') (g:=g) nd mm λy hy=>by rw[w1 y,Ow hy]
  have s2:=mf (f:=g) (g:=wt ol) nd mn λy hy=>by show(if y=n then _ else _)=_;rw[Ow hy]
  have g1:g m=Ŀ:=by show(if m=n then _ else _)=_;rw[Ow (ZO nm),fM hm]
  have g2:g n=Ą+Ŀ:=by show(if n=n then _ else _)=_;rw[Ox rfl]
  have g3:wt ol' m=0:=by rw[w1 m,Ox rfl]
  rw[fM hn]at s2;omega
def sj(t:š):Prop:=PyData.strOk t=true/\t.length<=5
def DOk:Wd->Prop
 |.put _ _ tx=>sj tx
 |.write _ tx=>sj tx
 |.part _ a _=>0<=a
 |_=>True
def FZ:Sd->Prop
 |.put _ _ _ tx=>sj tx
 |.write _ tx=>sj tx
 |_=>True
theorem Lf(h:ā)(d:ű):FZ s:=by cases wd<;>cases h<;>first|exact d|trivial
def Wd.mk:Wd->Bool
 |.put _ _ _=>true
 |.part _ _ _=>true
 |_=>false
theorem ma(h:ā):s.news=if ŵ=true then[n]else[]:=by cases wd<;>cases h<;>rfl
theorem Hn{pl:OJ}(h:fN ol (.put n u pl tx))(t:ē):∃k,Ch ol k u:=by
 cases u with
 |none=>exact#[0,.none]
 |some m =>exists[it,e],Zw.mp (h m Ó);exact t m it e
structure Kept(ol ol':Ol)(new:ý)(B:Ö):Prop where
 inv:Inv ol' B
 len:ol'.length<=Ţ+1
 non:∀x,¬x∈new->look ol x=none->look ol' x=none
def BdN(ol:Ol):Sd->Prop
 |.move n u _=>∃k,Und ol n k u false
 |.join n m=>∃k,Und ol m k ã false
 |.part n a _ _=>∃it,look ol n=some it/\¬(Ì:Ň)<a
 |_=>True
theorem G3(h:Bd ol s r)(e:r=none):BdN ol s:=by
 cases h with
 |@move n u pl k b un =>
  cases b with
  |false=>exact#[k,un]
  |true=>cases e
 |@join n m k b un =>
  cases b with
  |false=>exact#[k,un]
  |true=>cases e
 |@part n a m pl it hl =>refine#[it,hl,λz=>?_];rw[Ox z]at e;cases e
 |_=>trivial
theorem G1{B:Ö}(v:Ā)(hh:fN ol s)(hb:Bd ol s none)(ok:FZ s)(nw:Ñ)(ap:Ap ol s ol'):Kept ol ol' s.news (B+5):=by
 have bd:=G3 hb rfl;cases ap with
 |@put n u pl tx =>
  have hn:look ol n=none:=nw n Ġ;exists[k,c],Hn hh Ŵ;refine#[#[v.ter.new hn c,?_],dE _ _ _,λx hx h=>?_]
  .exists[L,a,b,c],tV (it:=#[u,pl,tx,false,none,false]) ë hn;exact#[L,a,b,Zs c ù]
  .rw[ay,Ow λz=>hx ė];exact h
 |gone=>exact#[v.more ä,YR _,λx _ h=>h]
 |@move n u pl it hl =>exists[k,un],bd;refine#[#[v.ter.move un,mj ë hl ä],dE _ _ _,λx _ h=>?_];rw[ay,Ow λz=>by rw[z,hl]at h;cases h];exact h
 |@write n tx it hl =>refine#[#[v.ter.keep hl rfl,mj ë hl (Zs ok.2 (Nat.le_add_left _ _))],dE _ _ _,λx _ h=>?_];rw[ay,Ow λz=>by rw[z,hl]at h;cases h];exact h
 |@mark n b it hl =>refine#[#[v.ter.keep hl rfl,mj ë hl ä],dE _ _ _,λx _ h=>?_];rw[ay,Ow λz=>by rw[z,hl]at h;cases h];exact h
 |@due n b it hl =>refine#[#[v.ter.keep hl rfl,mj ë hl ä],dE _ _ _,λx _ h=>?_];rw[ay,Ow λz=>by rw[z,hl]at h;cases h];exact h
 |@fold n b it hl =>refine#[#[v.ter.keep hl rfl,mj ë hl ä],dE _ _ _,λx _ h=>?_];rw[ay,Ow λz=>by rw[z,hl]at h;cases h];exact h
 |@part n a m pl it hl =>
  exists[it2,hl2,na],bd;rw[hl]at hl2;cases hl2;have hm:look ol m=none:=nw m Ġ;have nmn:m≠n:=λz=>by rw[z,hl]at hm;cases hm
  have cl:=Ha na;generalize dq ų none Đ=t1 at cl ⊢;generalize dq ų Đ none=t2 at cl ⊢;have hm1:look (aF ol n { it with tx:=t1 }) m=none:=by rw[ay,Ow nmn];exact hm
  have t1':Ter (aF ol n { it with tx:=t1 }):=v.ter.keep hl rfl;exists[k,c],t1'.up (n:=n) (it:={ it with tx:=t1 }) è;refine#[#[t1'.new hm1 c,?_],?_,λx hx h=>?_]
  .exists[L,nd,hL,hs],ë;have hn:n∈L:=(hL n).mp (by rw[hl];rfl);have w1:=mf (f:=wt (aF ol n { it with tx:=t1 })) (g:=wt ol) nd hn λy hy=>by rw[mo,Ow hy]
   rw[mo,Ox rfl,fM hl]at w1;have w1':(L.map (wt (aF ol n { it with tx:=t1 }))).sum<=B-ò:=by
    have:Ì<=(L.map Ĕ).sum:=by rw[<-fM hl];exact pA hn
    have w2:(L.map (wt (aF ol n { it with tx:=t1 }))).sum+Ì=(L.map Ĕ).sum+t1.length:=w1;omega
   have le:ò<=B:=by
    have:Ì<=(L.map Ĕ).sum:=by rw[<-fM hl];exact pA hn
    omega
   exists[L',a',b',c'],tV (it:=#[Ć,pl,t2,false,none,false]) (B:=B - ò) #[L,nd,λx=>by
    rw[ay];by_cases z:x=n
    .rw[Ox z,z];exact#[λ_=>hn,λ_=>rfl]
    .rw[Ow z];exact hL x,w1'] hm1
   refine#[L',a',b',Zs c' ?_];show B-ò+ò<=B+5;omega
  .have:=dE (aF ol n { it with tx:=t1 }) m #[Ć,pl,t2,false,none,false];rw[gU hl]at this;exact this
  .have d1:x≠m:=λz=>hx ė;have d2:x≠n:=λz=>by rw[z,hl]at h;cases h
   rw[ay,Ow d1,ay,Ow d2];exact h
 |@join n m itn itm _ hn hm j =>exists[k,un],bd;have nm:n≠m:=λz=>Ac un (Z2 some z);refine#[#[v.ter.join hn hm j un,?_],by rw[j.len];exact YR _,λx _ h=>(kK hn hm j).1 x h];exists[L,a,b,c],FU ë hn hm nm j;exact#[L,a,b,Zs c ä]
theorem Dc{w:š}{B:Ö}(v:Ā)(ok:ű)(nw:Ă)(h:ĕ):Kept ol ol' õ (B+5):=by
 have id':Kept ol ol õ (B+5):=#[v.more ä,YR _,λ_ _ h=>h]
 cases h with
 |none=>exact id'
 |take=>exact id'
 |back=>exact id'
 |@top m pl tx hm =>
  have hn:=nw rfl;refine#[#[v.ter.new hn .none,?_],dE _ _ _,λx hx h=>?_]
  .exists[L,a,b,c],tV (it:=#[none,pl,tx,false,none,false]) ë hn;exact#[L,a,b,Zs c ù]
  .rw[ay,Ow λz=>hx (by rw[z];exact Zh.mpr rfl)];exact h
 |@step _ s w _ hs _ wr =>
  cases wr with
  |none=>exact id'
  |beneath=>exact id'
  |far=>exact id'
  |done hh hb ap =>
   have:=G1 v hh hb (Lf hs ok) (λm hm=>by
    rw[ma hs]at hm;by_cases c:ŵ=true
    .rw[Ox c]at hm;rw[Zh.mp hm];exact nw c
    .rw[Ow c]at hm;cases hm) ap
   rw[ma hs]at this;exact this
theorem xM{wd:Wd}{B:Ö}(v:Ā)(nw:Ă)(hs:ā):Ready ol s:=by
 refine#[λm hm=>?_,λhd=>?_,λm z=>by subst z;cases wd<;>simp[gM]at hs]
 .rw[ma hs]at hm;by_cases c:ŵ=true
  .rw[Ox c]at hm;rw[Zh.mp hm];exact nw c
  .rw[Ow c]at hm;cases hm
 .cases wd with
  |put u pl tx=>cases hs;exact#[_,.put]
  |move m u pl =>
   cases hs;have:∃k,Ch ol k u:=by
    cases u with
    |none=>exact#[0,.none]
    |some x =>exists[it,e],Zw.mp (hd x Ó);exact Ŵ x it e
   exists[k,c],this;exists[k',b,un],yk c m;exact#[_,.move un]
  |write m tx=>cases hs;exact#[_,.write]
  |mark m b=>cases hs;exact#[_,.mark]
  |due m b=>cases hs;exact#[_,.due]
  |fold m b=>cases hs;exact#[_,.fold]
  |part m a pl =>cases hs;exists[it,e],Zw.mp ũ;exact#[_,.part e]
  |join m o =>cases hs;exists[it,e],Zw.mp ũ;exists[k,c],v.ter m it e;exists[k',b,un],yk c o;exact#[_,.join un]
  |_=>cases hs
structure Fresh(ol:Ol)(ds:List Dd):Prop where
 ok:∀d∈ds,DOk d.2
 non:∀d∈ds,d.2.mk=true->look ol d.1=none
 pw:ds.Pairwise λd e=>d.2.mk=true->e.2.mk=true->d.1≠e.1
theorem Fresh.tail(f:Fresh ol Ŏ):Fresh ol ds:=#[λe he=>f.ok e Ū,λe he=>f.non e Ū,(List.pairwise_cons.mp f.pw).2]
def Eqo(a b:Ol):Prop:=∀x,look a x=look b x
theorem mh(e:ñ){k:Ö}(h:Und a o k u c):Und b o k u c:=by
 induction h with
 |none=>exact .none
 |self=>exact .self
 |up hn hl _ ih=>exact .up hn (by rw[<-e];exact hl) ih
theorem lF(e:ñ)(h:Bd a s r)(h':Bd b s r'):r=r':=by
 cases h with
 |move un=>cases h' with|move un'=>rw[tR ū un']
 |join un=>cases h' with|join un'=>rw[tR ū un']
 |part hl =>
  cases h' with
  |part hl' =>rw[e,hl']at hl;cases hl;rfl
 |put=>cases h';rfl
 |write=>cases h';rfl
 |mark=>cases h';rfl
 |due=>cases h';rfl
 |fold=>cases h';rfl
 |gone=>cases h';rfl
theorem dL(e:ñ)(n:Nm)(it:It):Eqo (aF a n it) (aF b n it):=λx=>by rw[ay,ay,e x]
theorem Ju(e:ñ)(h:Ap a s a')(h':Ap b s b'):Eqo a' b':=by
 cases h with
 |put=>cases h';exact dL e _ _
 |gone=>cases h';exact e
 |move hl=>cases h' with|move hl'=>rw[e,hl']at hl;cases hl;exact dL e _ _
 |write hl=>cases h' with|write hl'=>rw[e,hl']at hl;cases hl;exact dL e _ _
 |mark hl=>cases h' with|mark hl'=>rw[e,hl']at hl;cases hl;exact dL e _ _
 |due hl=>cases h' with|due hl'=>rw[e,hl']at hl;cases hl;exact dL e _ _
 |fold hl=>cases h' with|fold hl'=>rw[e,hl']at hl;cases hl;exact dL e _ _
 |part hl=>cases h' with|part hl'=>rw[e,hl']at hl;cases hl;exact dL Ŝ _ _
 |join hn hm j =>
  cases h' with
  |join hn' hm' j' =>rw[e,hn']at hn;cases hn;rw[e,hm']at hm;cases hm;exists[i1,x1,y1],j.lk;exists[i2,x2,y2],j'.lk;rw[dL e _ _ _,x2]at x1;cases x1;intro x;rw[y1 x,y2 x,dL Ŝ _ _ x]
theorem Et(e:ñ)(s:Sd):fN a s↔fN b s:=by unfold fN;exact#[λh n hn=>by rw[<-e];exact h n hn,λh n hn=>by rw[e];exact h n hn]
theorem FV(e:ñ){w w':š}(h:WordR a s w a')(h':WordR b s w' b'):w=w'/\Eqo a' b':=by
 have hh:=Et e s;cases h with
 |none c =>
  cases h' with
  |none _=>exact#[rfl,e]
  |beneath c' _=>exact absurd ę c
  |far c' _=>exact absurd ę c
  |done c' _ _=>exact absurd ę c
 |beneath c b1 =>
  cases h' with
  |none c'=>exact absurd Į c'
  |beneath _ _=>exact#[rfl,e]
  |far _ b2=>cases lF e b1 b2
  |done _ b2 _=>cases lF e b1 b2
 |far c b1 =>
  cases h' with
  |none c'=>exact absurd Į c'
  |beneath _ b2=>cases lF e b1 b2
  |far _ _=>exact#[rfl,e]
  |done _ b2 _=>cases lF e b1 b2
 |done c b1 ap =>
  cases h' with
  |none c'=>exact absurd Į c'
  |beneath _ b2=>cases lF e b1 b2
  |far _ b2=>cases lF e b1 b2
  |done _ _ ap'=>exact#[rfl,Ju e ap ap']
theorem jP(e:ñ){w w':š}(h:PlayR a n wd w so a')(h':PlayR b n wd w' so' b'):w=w'/\so=so'/\Eqo a' b':=by
 cases h with
 |none =>exists[rfl,rfl,rfl],Dg h';exact#[rfl,rfl,e]
 |@take m =>
  cases h' with
  |take=>rw[e];exact#[rfl,rfl,e]
  |step hs _ _=>cases hs
 |@back m =>
  cases h' with
  |back=>rw[e];exact#[rfl,rfl,e]
  |step hs _ _=>cases hs
 |@top m pl tx hm =>
  cases h' with
  |top _=>exact#[rfl,rfl,dL e _ _]
  |step _ ht _ =>have:(!(look b m).isSome)=false:=ht;rw[<-e,hm]at this;cases this
 |@step _ s w a' hs ht wr =>
  generalize hso:(if w'=("done":Str)then some s else none)=so2;cases h' with
  |none=>cases hs
  |take=>cases hs
  |back=>cases hs
  |@top m pl tx hm =>have:(!(look a m).isSome)=false:=ht;rw[e,hm]at this;cases this
  |step hs' _ wr' =>rw[hs]at hs';cases hs';exists[rfl,x],FV e wr wr';exact#[rfl,rfl,x]
theorem WhAt.ts{t:OC}(x:WhAt H t wd)(s:þ):WhAt H' t wd:=by exists[r,h1,h2],x;exact#[r,s _ _ h1,h2.ts s]
theorem JI{H:Hp}(h:H p=some Þ):Dt H ŝ ó:=by simp only[Dt,DtAll];exact#[p,_,rfl,.inl h,rfl]
theorem J6:SeqAt.shaped ŝ=true:=⋯
theorem At{xs:OU}{i:Ň}(h0:0<=i)(h1:i<ţ):∃v,atI xs i=some v/\xs[ģ]?=some v:=by
 have hk:ģ<ţ:=∅
 have:=fG (xs:=xs) (j:=ģ) (Ze hk);rw[show((ģ:Nat):Int)=i by omega]at this;exact#[_,this,Ze hk]
theorem wB{c:OJ}{k i:Ö}{v:Ň}(hk:k<c.length):au (c.set k v) i=if i=k then v else au c i:=by
 unfold au;rw[List.getElem?_set];by_cases e:i=k
 .subst e;rw[Ox rfl,Ox rfl,Ox hk];rfl
 .rw[Ow Ĳ,Ow e]
def clk(cl:ř)(g:Ö):OJ:=(cl[g]?).getD []
theorem fH{cl:ř}{k g:Ö}(hk:k<cl.length):clk (cl.set k c) g=if g=k then c else clk cl g:=by
 unfold clk;rw[List.getElem?_set];by_cases e:g=k
 .subst e;rw[Ox rfl,Ox rfl,Ox hk];rfl
 .rw[Ow Ĳ,Ow e]
theorem sw{n g:Ö}(h:g<n):clk (List.replicate n ü) g=List.replicate n 0:=by unfold clk;rw[List.getElem?_replicate,Ox h];rfl
theorem Ea(n i:Ö):au ü i=0:=by unfold au;rw[List.getElem?_replicate];split<;>rfl
def mx(a b:OJ)(n:Ö):OJ:=(List.range n).map λj=>if au b j>au a j then au b j else au a j
theorem HL{n i:Ö}(h:i<n):au (mx a b n) i=if au b i>au a i then au b i else au a i:=by
 unfold mx
 conv=>lhs;unfold au
 rw[Zy,List.getElem?_range h];rfl
theorem CH{n:Ö}:(mx a b n).length=n:=by unfold mx;simp
theorem TS.trans(e:þ)(f:TS H' H2):TS H H2:=λa zs h=>f a zs (e a zs h)
theorem iX{H:Hp}(hp:∀zs,H p≠some (.tup zs)):TS H (upd H p o):=λa zs h=>by rw[af (λz=>hp zs (by rw[<-z];exact h))];exact h
theorem fu{ns:OJ}{k:Ö}(h:k<Ť):atI (ns.map V.int) (k:Ň)=some (.int (au ns k)):=by have:=iA (ns:=ns) (k:=(k:Ň)) ∅ ∅;rw[show((k:Ň)).toNat=k by omega]at this;exact this
def CK(H:Hp)(cA:OC)(n:Ö)(as:ī)(cl:ř):Prop:=H cA=some (.lst ļ)/\ħ=n/\Ŷ/\∀(g:Ö) (hg:g<ħ),H as[g]=some (.lst ((clk cl g).map V.int))
theorem CK.same{n:Ö}(x:CK H cA n as cl)(s:Same H H'):CK H' cA n as cl:=#[s _ _ x.1,x.2.1,x.2.2.1,λg hg=>s _ _ (x.2.2.2 g hg)]
theorem ji{as:ī}{k:Ö}(hk:k<ħ):atI ļ (k:Ň)=some (.ref as[k]):=fG (by rw[Zy,Ze hk];rfl)
theorem jK{H:Hp}(h1:H a=some (.lst xs))(h2:H b=some (.lst ys))(h:xs≠ys):a≠b:=λz=>by rw[z,h2]at h1;injection h1 with h1;injection h1 with h1;exact h h1.symm
theorem fm{ns:OJ}{as:ī}(h:0<Ť):as.map V.ref≠ns.map V.int:=λe=>by
 cases ns with
 |nil=>exact absurd h (by simp)
 |cons n ns =>
  cases as with
  |nil=>cases e
  |cons a as=>cases e
theorem xN:∀n:Nat,(List.replicate n [V.int 0]).flatten=(List.replicate n (0:Ň)).map V.int
 |0=>rfl
 |n+1=>by rw[YJ,List.flatten_cons,xN n];rfl
theorem J5{as:ī}{k:Ö}(h:Ŷ)(hp:p∉as):(as.set k p).Nodup:=by
 rw[List.nodup_iff_pairwise_ne,List.pairwise_iff_getElem]at h ⊢;intro i j hi hj hij;rw[Yy]at hi hj;rw[List.getElem_set,List.getElem_set];by_cases c1:k=i
 .rw[Ox c1,Ow ∅];exact λz=>hp (z▸ZG hj)
 .rw[Ow c1];by_cases c2:k=j
  .rw[Ox c2];exact λz=>hp (z▸ZG hi)
  .rw[Ow c2];exact h i j hi hj hij
theorem AG{α:Type}(L:List α)(z:α):(List.range L.length).map (λi=>L.getD i z)=L:=by
 apply List.ext_getElem
 .simp
 .intro i h1 h2;simp[h2]
abbrev D3:=Nat×OJ×Wd
def DA(H:Hp)(a:OC)(d:D3):Prop:=∃c wa,H a=some (.tup [.int į,.ref c,.ref wa])/\H c=some (.tup (d.2.1.map V.int))/\WhAt H wa d.2.2/\d.1<d.2.1.length/\d.2.1.length<=8
theorem DA.ts(x:â)(s:þ):DA H' a d:=by exists[c,wa,h1,h2,h3,h4],x;exact#[c,wa,s _ _ h1,s _ _ h2,h3.ts s,h4]
def toD(d:D3):Dd:=((į,au d.2.1 d.1),d.2.2)
theorem DA.dd(x:â):DdAt H (.ref a) (toD d):=by exists[c,wa,h1,h2,h3,h4,_],x;exact#[a,c,wa,_,rfl,h1,h2,fu h4,h3]
abbrev L3:=List Ŋ
def aH(L:L3):OU:=L.map λx=>V.ref x.1
theorem aG(L:L3):(aH L).length=L.length:=Zd ..
def LR3(H:Hp)(l:OC)(L:L3):Prop:=H l=some (.lst ŧ)/\∀x∈L,DA H x.1 x.2
theorem LR3.same(x:ĺ)(s:Same H H'):LR3 H' l L:=#[s _ _ x.1,λy hy=>(x.2 y hy).ts (OO s)]
theorem cC{k:Ö}(h:ŧ[k]?=some x):∃hk:k<L.length,x=.ref L[k].1:=by
 have hk:k<L.length:=by have:=(Zu.mp h).1;rw[aG]at this;exact this
 refine#[hk,?_];unfold aH at h;rw[Zy,Ze hk]at h;exact(Zo h).symm
inductive spOrder  (vs:OU)(H:Hp)(Q:VK)(E_:XK):Prop
 |mk (a:OC) (d:D3) (h0:Ĝ) (h1:â) (h2:∀p H',Same H H'->H' p=some (.tup ([d.2.1.sum,į].map V.int))->Q ó H'):spOrder  vs H Q E_
abbrev tG:Stmt:=top 49
abbrev GU:List Str:=["_law_deed"]
theorem Fw:FnScope GU ["_law_deed"] (aq tG):= ~~~0
theorem EW(F:Fun K "_law_order" "_law_order" tG f fd)(Of:mg "sum" = none):↑FnOk CX0 1 f fd ["_law_deed"] spOrder:=by
 exists Fw
 obtain⟨a,d,rfl,⟨c,wa,e1,e2,e3,e4,e5⟩,q⟩:=h;exists _,(b_1 (ax (aD (q_a (q_B (Jy (K:=K) rfl rfl) Of PyProof.Rows.boot_sum Œ) Œ))))
 refine(vix rfl (OP e1) at1 #[c,d.2.1,rfl,OP e2,vix rfl (OP e1) at0 #[sz rfl,λp g=>?_]]);exact q p _ (ad g _) ac
theorem Ik{L:L3}(hp:POk L.length p):(p.toList.map λi=>L.getD i Ľ).Perm L/\(p.toList.map λi=>(aH L).getD i .non)=aH (p.toList.map λi=>L.getD i Ľ):=by
 have ep:p.toList.Perm (List.range L.length):=by have:=Array.perm_iff_toList_perm.mp hp;simpa using this
 refine#[?_,?_]
 .have:=ep.map λi=>L.getD i (0,0,[],Wd.none);rw[AG]at this;exact this
 .unfold aH;rw[Z4];apply Y1;intro i hi;have:i<L.length:=Y2.mp (ep.mem_iff.mp hi);simp[this]
def nm3(d:D3):Nm:=(toD d).1
def fW(c:OJ)(n:Nm):Bool:=decide (au c n.1.toNat>=n.2)
def cP(d:D3)(n:Nm):Bool:=(!decide (n=nm3 d))&&fW d.2.1 n
def dU(d e:D3):Bool:=if nm3 d=nm3 e then false else !cP d (nm3 e)&&!cP e (nm3 d)
theorem lN(a b:Nm):([a.1,a.2]=[b.1,b.2])↔a=b:=by
 constructor
 .intro z;injection z with z1 z2;injection z2 with z2 _;exact Prod.ext z1 z2
 .rintro rfl;rfl
inductive spTells  (vs:OU)(H:Hp)(Q:VK)(E_:XK):Prop
 |mk (c:OC) (nv:V) (cs:OJ) (n:Nm) (h0:vs=[.ref c,nv]) (h1:H c=some (.tup (cs.map V.int))) (h2:Ħ) (h3:0<=n.1) (h4:n.1<cs.length) (h5:Q (.bl (fW cs n)) H):spTells  vs H Q E_
abbrev tI:Stmt:=top 2
abbrev GX:List Str:=["clock","name"]
theorem Fy:FnScope GX ["clock","name"] (aq tI):= ~~~0
theorem EY(F:Fun K "tells" "tells" tI f fd):↑FnOk CX0 1 f fd ["clock","name"] spTells:=by
 exists Fy
 obtain⟨c,nv,cs,n,rfl,hc,⟨nb,rfl,hnb⟩,h0,h1,q⟩:=h;exists _,(b_1 (ax (cG EQ (am ao ↑0 Ç) Ç)))
 exact#[_,rfl,vix rfl (OP hnb) at0 #[c,_,_,_,rfl,rfl,OP hc,iA h0 h1,vix rfl (OP hnb) at1 #[_,_,rfl,rfl,q]]]
inductive spHears  (vs:OU)(H:Hp)(Q:VK)(E_:XK):Prop
 |mk (a:OC) (nv:V) (d:D3) (n:Nm) (h0:vs=[.ref a,nv]) (h1:â) (h2:Ħ) (h3:0<=n.1) (h4:n.1<d.2.1.length) (h5:∀H',Same H H'->Q (.bl (cP d n)) H'):spHears  vs H Q E_
abbrev tE:Stmt:=top 32
abbrev GT:List Str:=["deed","name"]
theorem Fv:FnScope GT ["deed","name"] (aq tE):= ~~~0
theorem EV(F:Fun K "hears" "hears" tE f fd)(a6:Â)(NP:↑Fn 1 "tells" ["clock","name"] spTells):↑FnOk CX0 2 f fd ["deed","name"] spHears:=by
 exists Fv
 exists[a,nv,d,n,rfl,hd,hn,h0,h1,q],h;exists[nb,rfl,hnb],id hn;exists _,(b_1 (ax (il (cG (xD û) ↑1 Æ) (iM (aI NP ↑99 (q_a Ê ć))))))
 refine#[_,rfl,_,rfl,.ref a,toD d,rfl,ō,λp H1 s1 e1=>?_];refine#[nb,p,[n.1,n.2],[(nm3 d).1,(nm3 d).2],rfl,rfl,s1 _ _ hnb,e1,_,rfl,?_];unfold cP at q;by_cases c:n=nm3 d
 .rw[decide_eq_true c]at q;rw[decide_eq_true Ī];exact aC (q H1 s1)
 .rw[decide_eq_false c]at q;rw[decide_eq_false λz=>c ĳ];refine aQ ?_;exists[c',wa,f1,f2,f3,f4,f5],hd.ts Ĩ;exact(vix rfl (OP f1) at1 #[_,rfl,c',.ref nb,d.2.1,n,rfl,f2,hn.same s1,h0,h1,q H1 s1])
inductive spApart  (vs:OU)(H:Hp)(Q:VK)(E_:XK):Prop
 |mk (a b:OC) (d e:D3) (h0:vs=[.ref a,.ref b]) (h1:â) (h2:DA H b e) (h3:d.2.1.length=e.2.1.length) (h4:∀H',Same H H'->Q (.bl (dU d e)) H'):spApart  vs H Q E_
abbrev tu:Stmt:=top 33
abbrev GR:List Str:=["one","other"]
theorem Fu:FnScope GR ["one","other"] (aq tu):= ~~~0
theorem ET(F:Fun K "apart" "apart" tu f fd)(a6:Â)(r6:à):↑FnOk CX0 3 f fd ["one","other"] spApart:=by
 exists Fu
 exists[a,b,d,e,rfl,hd,he,hl,q],h;have bd:0<=(nm3 d).1/\(nm3 d).1<e.2.1.length:=by exists[_,_,_,_,_,z,_],hd;show 0<=Ĵ/\Ĵ<_;omega
 have be:0<=(nm3 e).1/\(nm3 e).1<d.2.1.length:=by exists[_,_,_,_,_,z,_],he;show 0<=ĵ/\ĵ<_;omega
 exists _,(b_c (aT (aE (Kd û) Æ (aI a6 ↑99 ć)) Ł b_0)
   (b_1 (ax (il (Bf Ð) (iM (Bf (aI r6 ↑99 (q_a ↑1 Ě))))))))
 refine#[_,rfl,.ref a,toD d,rfl,ō,λp1 H1 s1 e1=>?_];refine#[_,rfl,.ref b,toD e,rfl,(he.ts Ĩ).dd,λp2 H2 s2 e2=>?_];refine#[p1,p2,[(nm3 d).1,(nm3 d).2],[(nm3 e).1,(nm3 e).2],rfl,rfl,s2 _ _ e1,e2,_,rfl,?_];have S2:=s1.trans s2;unfold dU at q;by_cases c:nm3 d=nm3 e
 .rw[Ox c]at q;rw[decide_eq_true Ī];exact aQ (q H2 S2)
 .rw[Ow c]at q;rw[decide_eq_false λz=>c ĳ];refine aC ?_;refine#[_,rfl,_,rfl,.ref b,toD e,rfl,(he.ts (OO S2)).dd,λp3 H3 s3 e3=>?_];have S3:=S2.trans s3;refine#[a,.ref p3,d,nm3 e,rfl,hd.ts (OO S3),#[p3,rfl,e3],be.1,be.2,λH4 s4=>?_];have S4:=S3.trans s4;refine#[_,rfl,?_];cases b1:cP d (nm3 e)with
  |true =>rw[b1]at q;exact#[_,rfl,aC (q H4 S4)]
  |false =>rw[b1]at q;refine#[_,rfl,aQ ?_];refine#[_,rfl,_,rfl,.ref a,toD d,rfl,(hd.ts (OO S4)).dd,λp5 H5 s5 e5=>?_];have S5:=S4.trans s5;exact#[b,.ref p5,e,nm3 d,rfl,he.ts (OO S5),#[p5,rfl,e5],bd.1,bd.2,λH6 s6=>#[_,rfl,q H6 (S5.trans s6)]]
def Da(H:Hp)(n:Ö)(v:V):Prop:=∃d,Dt H d v/\d.canLay0=true/\d.depth<=n
theorem wF(i:Ň)(n:Ö):Da H n (.int i):=#[_,JH i,rfl,by simp[PyData.depth]]
theorem F9(b:Bool)(n:Ö):Da H n (.bl b):=#[_,AC b,rfl,by simp[PyData.depth]]
theorem BZ(h:PyData.strOk s=true)(n:Ö):Da H n (.str s):=#[_,iP s,by simpa[PyData.canLay0]using h,by simp[PyData.depth]]
theorem iL(h:NameIs H v (nk n)):Da H 1 v:=#[_,fK h,(bJ n).1,Nat.le_of_eq (bJ n).2]
theorem Ga(h:UpAt H v u):Da H 1 v:=#[_,GO h,(rc u).1,(rc u).2]
theorem AB(h:PlAt H v ns):Da H 1 v:=#[_,Me h,(Cy ns).1,Nat.le_of_eq (Cy ns).2]
theorem LH(w:Option Int):Da H 1 (whV w):=#[_,MC w,(Cz w).1,by rw[(Cz w).2];decide]
def Wd.ok:Wd->Prop
 |.put _ _ tx=>PyData.strOk tx=true
 |.write _ tx=>PyData.strOk tx=true
 |_=>True
theorem B8(h:ű):ŷ:=by
 cases wd with
 |put=>exact h.1
 |write=>exact h.1
 |_=>trivial
theorem tW(wd:Wd):PyData.strOk Ù=true:=by cases wd<;>(simp only[Wd.word];decide +kernel)
theorem wG(h6:RsAt H r wd)(ok:ŷ)(hm:v∈r):Da H 1 v:=by
 cases wd with
 |put =>
  exists[uv,pv,rfl,a1,a2],h6;simp only[Zg,ZB,Z9]at hm;rcases hm with rfl|rfl|rfl
  .exact Ga a1
  .exact AB a2
  .exact BZ ok 1
 |move =>
  exists[nv,uv,pv,rfl,a0,a1,a2],h6;simp only[Zg,ZB,Z9]at hm;rcases hm with rfl|rfl|rfl
  .exact iL a0
  .exact Ga a1
  .exact AB a2
 |write =>
  exists[nv,rfl,a0],h6;simp only[Zg,ZB,Z9]at hm;rcases hm with rfl|rfl
  .exact iL a0
  .exact BZ ok 1
 |mark =>
  exists[nv,rfl,a0],h6;simp only[Zg,ZB,Z9]at hm;rcases hm with rfl|rfl
  .exact iL a0
  .exact F9 _ 1
 |due =>
  exists[nv,rfl,a0],h6;simp only[Zg,ZB,Z9]at hm;rcases hm with rfl|rfl
  .exact iL a0
  .exact LH _
 |fold =>
  exists[nv,rfl,a0],h6;simp only[Zg,ZB,Z9]at hm;rcases hm with rfl|rfl
  .exact iL a0
  .exact F9 _ 1
 |part =>
  exists[nv,pv,rfl,a0,a1],h6;simp only[Zg,ZB,Z9]at hm;rcases hm with rfl|rfl|rfl
  .exact iL a0
  .exact wF _ 1
  .exact AB a1
 |join =>
  exists[nv,mv,rfl,a0,a1],h6;simp only[Zg,ZB,Z9]at hm;rcases hm with rfl|rfl
  .exact iL a0
  .exact iL a1
 |take =>exists[nv,rfl,a0],h6;simp only[Zg,ZB,Z9]at hm;subst hm;exact iL a0
 |back =>exists[nv,rfl,a0],h6;simp only[Zg,ZB,Z9]at hm;subst hm;exact iL a0
 |off =>obtain rfl:=h6;simp only[Zg,ZB,Z9]at hm;subst hm;exact wF _ 1
 |on =>obtain rfl:=h6;simp only[Zg,ZB,Z9]at hm;subst hm;exact wF _ 1
 |none=>obtain rfl:=h6;exact absurd hm (ZB)
theorem sF{n:Ö}:∀{vs:OU},(∀v∈vs,Da H n v)->∃ds,DtAll H ds vs/\PyData.canLayAll0 ds=true/\PyData.depthAll ds<=n
 | [],_=>#[[],iO,rfl,by simp[PyData.depthAll]]
 |v::vs,hv=>by exists[ds,i1,i2,i3],sF (vs:=vs) λx hx=>hv x Ŭ;exists[d,h1,h2,h3],hv v Zn;refine#[d::ds,bM h1 i1,by simp[PyData.canLayAll0,h2,i2],?_];simp only[PyData.depthAll];omega
def fi:Wd->Option Nm
 |.back n=>some n
 |_=>none
theorem Ca(n m:Nm):PyData.eqv (nmD n) (nmD m)=decide (n=m):=by
 have e:=rT ã (some m);have e0:∀u:Option Nm,iu u=upD u:=λu=>by cases u<;>rfl
 rw[e0,e0]at e;have e1:∀n:Nm,upD ã=nmD n:=λ_=>rfl;rw[e1,e1]at e;rw[e];simp only[Xf]
theorem tZ(it:Nm)(h:WhAt H wa wd)(ok:ŷ):∃dx,Dt H dx (.ref wa)/\SeqAt.shaped dx=true/\PyData.eqv dx Ò=decide (fi wd=some it):=by
 exists[r,h5,h6],h;by_cases e:Ù="back"
 .cases wd with
  |back n =>
   exists[nv,rfl,a],h6;refine#[.tuple [.str "back",nmD n],gQ h5 (bM Ũ (bM (fK a) iO)),bU ?_ ?_,?_]
   .have:PyData.strOk "back" = true:=⋯
    simp[PyData.canLay0,PyData.canLayAll0,this,(bJ n).1]
   .have:=(bJ n).2;simp only[PyData.depth,PyData.depthAll];omega
   .simp only[PyData.eqv,PyData.eqvAll,Ca,Bool.and_true,fi,Xf];rw[show(("back":Str)=="back")=true from by decide,Bool.true_and]
  |_=>exact absurd e (by simp only[Wd.word];decide +kernel)
 .exists[ds,i1,i2,i3],sF λv hv=>wG h6 ok hv;refine#[.tuple (.str Ù::ds),gQ h5 (bM Ũ i1),bU ?_ ?_,?_]
  .simp[PyData.canLay0,PyData.canLayAll0,tW wd,i2]
  .simp only[PyData.depth,PyData.depthAll];omega
  .have e2:fi wd≠some it:=λz=>by
    cases wd with
    |back=>exact e rfl
    |_=>cases z
   rw[decide_eq_false e2];have e3:(Ù=="back")=false:=by simpa using e
   simp only[PyData.eqv,PyData.eqvAll];rw[e3,Bool.false_and]
theorem yW{H:Hp}(h:H u=some Ü)(hi:å):Dt H Ò (.ref u)/\SeqAt.shaped Ò=true:=by
 refine#[gQ h (bM Ũ (bM (fK hi) iO)),bU ?_ ?_]
 .have:PyData.strOk "back" = true:=⋯
  simp[PyData.canLay0,PyData.canLayAll0,this,(bJ it).1]
 .have:=(bJ it).2;simp only[PyData.depth,PyData.depthAll];omega
abbrev NmsAt(H:Hp)(xs:OU)(ns:ý):Prop:=Paired (λv m=>NameIs H v (nk m)) xs ns
theorem NmsAt.ts(x:Ō)(s:þ):NmsAt H' xs ns:=Paired.mapP x λ_ _ z=>NameIs.ts' z s
theorem uA:∀ns:List Nm,PyData.depthAll đ<=1
 | []=>by simp[PyData.depthAll]
 |n::ns=>by have:=uA ns;simp only[Zr,PyData.depthAll,(bJ n).2];omega
theorem qr{H:Hp}(hl:Ø)(p:Ō):Dt H Ş ă/\SeqAt.shaped Ş=true:=by exists[h1,h2],om p;have:=uA ns;refine#[?_,bU (by simpa[PyData.canLay0]using h2) (by simp only[PyData.depth];omega)];simp only[Dt];exact#[l,xs,rfl,.inl hl,h1]
def bg:Wd->Option Nm
 |.take n=>some n
 |.join _ m=>some m
 |_=>none
def br(d:D3):List Nm:=match d.2.2 with
 |.put _ _ _=>[nm3 d]
 |.part n _ _=>[n,nm3 d]
 |.join n m=>[n,m]
 |.move n _ _=>[n]
 |.write n _=>[n]
 |.mark n _=>[n]
 |.due n _=>[n]
 |.fold n _=>[n]
 |.back n=>[n]
 |.take _=>[]
 |.off _=>[]
 |.on _=>[]
 |.none=>[]
noncomputable def kz(ol:Ol)(o x:Nm):Bool:=@decide (∃k,Und ol o k ŀ true) Ô
theorem Ab{k:Ö}(h:Und ol o k ŀ b):kz ol o x=b:=by
 unfold kz;cases b with
 |true=>exact@decide_eq_true _ Ô #[k,h]
 |false =>refine@decide_eq_false _ Ô fun⟨k',h'⟩=>?_;cases tR h h'
noncomputable def gsB(ol:Ol)(d t:D3)(item:Nm):Bool:=(decide (fi d.2.2=some item)&&cP d (nm3 t)) ||(dU d t&&(br d).any λx=>kz ol item x)
noncomputable def cO(ol:Ol)(D:Ĭ)(t:D3)(item:Nm):Option Nm:=(D.find? λd=>gsB ol d t item).map nm3
abbrev Tk:=Nm×Nm×Option Nm
noncomputable def dF(ol:Ol)(D:Ĭ)(d:D3):List Tk:=match bg d.2.2 with
 |some it=>[(nm3 d,it,cO ol D d it)]
 |none=>[]
noncomputable def aX(ol:Ol)(D:Ĭ):List Tk:=D.flatMap λd=>dF ol D d
def TkAt(H:Hp)(v:V)(r:Tk):Prop:=∃(t:OC) (nv iv bv:V),v=.ref t/\H t=some (.tup [nv,iv,bv])/\NameIs H nv (nk r.1)/\NameIs H iv (nk r.2.1)/\UpAt H bv r.2.2
theorem TkAt.ts(x:TkAt H v r)(s:þ):TkAt H' v r:=by exists[t,nv,iv,bv,h1,h2,h3,h4,h5],x;exact#[t,nv,iv,bv,h1,s _ _ h2,h3.ts' s,h4.ts' s,h5.ts s]
theorem Gj(wd:Wd):inV İ [.str "take",.str "join"]=(bg wd).isSome:=by cases wd<;>rfl
inductive spTaken  (vs:OU)(H:Hp)(Q:VK)(E_:XK):Prop
 |mk (a:OC) (d:D3) (it:Nm) (h0:Ĝ) (h1:â) (h2:bg d.2.2=some it) (h3:∀iv,NameIs H iv (nk it)->Q iv H):spTaken  vs H Q E_
abbrev kl:Stmt:=top 37
abbrev vV:List Str:=["deed"]
theorem vy:FnScope vV ["deed"] (aq kl):= ~~~0
theorem vk(F:Fun K "taken_item" "taken_item" kl f fd):↑FnOk CX0 1 f fd ["deed"] spTaken:=by
 exists vy
 obtain⟨a,⟨hn,cs,wd⟩,it,rfl,⟨c,wa,h1,h2,⟨r,h3,h4⟩,_⟩,ht,q⟩:=h;refine#[_,(b_1 (ax (Be (aE bO Ĉ ar) Ĉ Ĉ))),?_];have e1:=OP (K:=K) h1;have e3:=OP (K:=K) h3;cases wd with
 |take n =>cases ht;exists[nv,rfl,a1],h4;exact#[_,rfl,a,_,_,_,rfl,rfl,e1,at2,wa,_,_,_,rfl,rfl,e3,at0,rfl,_,rfl,cU #[_,rfl,a,_,_,_,rfl,rfl,e1,at2,wa,_,_,_,rfl,rfl,e3,at1,q _ a1]]
 |join n m =>cases ht;exists[nv,mv,rfl,a1,a2],h4;exact#[_,rfl,a,_,_,_,rfl,rfl,e1,at2,wa,_,_,_,rfl,rfl,e3,at0,rfl,_,rfl,aL Å #[_,rfl,a,_,_,_,rfl,rfl,e1,at2,wa,_,_,_,rfl,rfl,e3,at2,q _ a2]]
 |_=>cases ht
inductive spTouched  (vs:OU)(H:Hp)(Q:VK)(E_:XK):Prop
 |mk (a:OC) (d:D3) (h0:Ĝ) (h1:â) (h2:∀l vs H',Same H H'->H' l=some ŭ->NmsAt H' vs (br d)->Q ă H'):spTouched  vs H Q E_
theorem lB(hn:Ö)(cs:OJ)(wd:Wd):(∃ u pl tx,wd=.put u pl tx)\/(∃ n b pl,wd=.part n b pl)\/(∃ n m,wd=.join n m)\/(V.str Ù≠V.str "put"/\V.str Ù≠V.str "part"/\V.str Ù≠V.str "join" /\
  ((inV İ [.str "take",.str "off",.str "on",.str "none"]=true/\br ş=[])\/(inV İ [.str "take",.str "off",.str "on",.str "none"]=false/\∀ (H:Hp) r,RsAt H r wd->∃ nv r' n,r=nv::r'/\NameIs H nv (nk n)/\br ş=[n]))):=by
 cases wd with
 |put u pl tx=>exact .inl #[u,pl,tx,rfl]
 |part n b pl=>exact .inr (.inl #[n,b,pl,rfl])
 |join n m=>exact .inr (.inr (.inl #[n,m,rfl]))
 |move n u pl=>exact .inr (.inr (.inr #[by simp only[Wd.word,ne_eq];decide +kernel,by simp only[Wd.word,ne_eq];decide +kernel,by simp only[Wd.word,ne_eq];decide +kernel,.inr #[rfl,λH r ⟨nv,_,_,h,a,_⟩=>#[nv,_,n,h,a,rfl]]]))
 |write n tx=>exact .inr À
 |mark n tx=>exact .inr À
 |due n tx=>exact .inr À
 |fold n tx=>exact .inr À
 |back n=>exact .inr À
 |_=>exact .inr (.inr (.inr #[by simp only[Wd.word,ne_eq];decide +kernel,by simp only[Wd.word,ne_eq];decide +kernel,by simp only[Wd.word,ne_eq];decide +kernel,.inl #[rfl,rfl]]))
abbrev kn:Stmt:=top 40
abbrev vX:List Str:=["deed","what"]
theorem nG:FnScope vX ["deed"] (aq kn):= ~~~0
theorem vn(F:Fun K "touched_by" "touched_by" kn f fd)(a6:Â):↑FnOk CX0 2 f fd ["deed"] spTouched:=by
 exists nG
 exists[a,d,rfl,hd,q],h;have hdd:=ō;obtain⟨c,wa,h1,h2,⟨r,h3,h4⟩,h5,h6⟩:=id hd;refine#[_,(b_c (aA (i:=1) nG.nd Ê)
   (b_c (aT ĉ (b_1 (ax (bA Ě))) b_0)
   (b_c (aT ĉ (b_1 (ax (bA (q_a Ç Ě)))) b_0)
   (b_c (aT ĉ (b_1 (ax (bA (q_a Ç œ)))) b_0)
   (b_c (aT (aE (gh (K:=K) rfl) Ç (aD (q_a ar (q_a ar á)))) (b_1 (ax (bA ah))) b_0)
   (b_1 (ax (bA œ)))))))),?_]
 have e3:=OP (K:=K) h3;refine#[_,rfl,a,_,_,_,rfl,rfl,OP h1,at2,?_];exists[hn,cs,wd],d;refine#[_,rfl,wa,_,_,_,rfl,rfl,e3,at0,rfl,_,rfl,?_];rcases lB hn cs wd with⟨u,pl,tx,rfl⟩|⟨n,b,pl,rfl⟩|⟨n,m,rfl⟩|⟨n1,n2,n3,n4⟩
 .refine cU #[_,rfl,.ref a,_,rfl,hdd,λt H1 s1 e1=>#[sz rfl,λl gl=>?_]];have wl:=ad gl (.lst [.ref t]);exact q l _ _ Ċ ac ï
 .exists[nv,pv,rfl,a1,a2],h4;refine aL Å ?_;refine#[_,rfl,wa,_,_,_,rfl,rfl,e3,at0,rfl,_,rfl,cU ?_];refine#[_,rfl,wa,_,_,_,rfl,rfl,e3,at1,_,rfl,.ref a,_,rfl,hdd,λt H1 s1 e1=>#[sz rfl,λl gl=>?_]];have wl:=ad gl (.lst [nv,.ref t]);exact q l _ _ Ċ ac (.cons (a1.ts' (OO Ċ)) ï)
 .exists[nv,mv,rfl,a1,a2],h4;refine aL Å ?_;refine#[_,rfl,wa,_,_,_,rfl,rfl,e3,at0,rfl,_,rfl,aL Å ?_];refine#[_,rfl,wa,_,_,_,rfl,rfl,e3,at0,rfl,_,rfl,cU ?_];refine#[_,rfl,wa,_,_,_,rfl,rfl,e3,at1,_,rfl,wa,_,_,_,rfl,rfl,e3,at2,sz rfl,λl gl=>?_];have wl:=ad gl (.lst [nv,mv]);exact q l _ _ wl ac (.cons (a1.ts' ŏ) (.cons (a2.ts' ŏ) .nil))
 .refine aL n1 ?_;refine#[_,rfl,wa,_,_,_,rfl,rfl,e3,at0,rfl,_,rfl,aL n2 ?_];refine#[_,rfl,wa,_,_,_,rfl,rfl,e3,at0,rfl,_,rfl,aL n3 ?_];refine#[_,rfl,wa,_,_,_,rfl,rfl,e3,at0,sz rfl,λu gu=>?_];have wu:=ad gu (.tup [.str "take",.str "off",.str "on",.str "none"]);refine#[u,_,rfl,.inr Ő,rfl,rfl,_,rfl,?_];rcases n4 with⟨n4,et⟩|⟨n4,hx⟩
  .have ei:Ä=true:=n4;rw[ei];refine aQ #[sz rfl,λl gl=>?_];exact q l [] _ (wu.trans (ad gl Þ)) ac (by rw[et];exact .nil)
  .exists[nv,r',n,rfl,hnv,et],hx H r h4;have ei:Ä=false:=n4;rw[ei];refine aC #[_,rfl,wa,_,_,_,rfl,rfl,OP (wu _ _ h3),at1,sz rfl,λl gl=>?_];have wl:=wu.trans (ad gl (.lst [nv]));exact q l [nv] _ wl ac (by rw[et];exact .cons (hnv.ts' ŏ) .nil)
def iK(Φ:ĝ):Ol->List Sd->Prop
 |ol,[]=>Φ ol
 |ol,s::ss=>Small ol/\Ñ/\fN ol s/\Bd ol s none/\∀ol',Ap ol s ol'->iK Φ ol' ss
def StV(H:Hp)(v:V)(s:Sd):Prop:=∃st,v=.ref st/\StAt H st s
theorem StV.ts(x:StV H v s)(t:þ):StV H' v s:=by exists[st,h1,h2],x;exact#[st,h1,h2.ts t]
def my(Φ:ĭ):Ol->As Unit->List Sd->Prop
 |ol,gs,[]=>Φ ol gs
 |ol,gs,s::r=>Small ol/\gs.length<=63/\Ñ/\fN ol s/\Bd ol s none/\∀ol',Ap ol s ol'->my Φ ol' (AI gs s) r
inductive spSteppedA(C:OC)(vs:OU)(H:Hp)(Q:VK)(E_:XK):Prop
 |mk (l:OC) (xs:OU) (ss:Ś) (Φ:ĭ) (h0:Ğ) (h1:Ø) (h2:ğ) (h3:my Φ [] [] ss) (h4:∀p d g ol gs H',Same H H'->OlAt C H' p d g ol->GoneAt H' g gs->Φ ol gs->Q ó H'):spSteppedA C vs H Q E_
abbrev oH:Stmt:=top 36
abbrev BK:List Str:=["steps","outline","step"]
theorem nq:FnScope BK ["steps"] (aq oH):= ~~~0
theorem A0(F:Fun K "stepped" "stepped" oH f fd)(p9:↑MkFn 1 C "Plain" ["self"] (spInit C))(j7:↑MFnX 4 C "step" ["self","step"] (spStepA C cT cN cB cF)):↑FnOk CX0 5 f fd ["steps"] ľ:=by
 exists nq
 exists[l,xs,ss,Φ,rfl,hl,px,safe,q],h;have ll:=Zv px;refine#[_,(b_c (aA (i:=1) nq.nd (zI p9 ↑99))
   (b_c (dG ZT rfl Ů (aw (i:=2) nq.nd) (b_1 (bu (pD j7 mT ↑99 ↑1 æ))))
   (b_1 (ax ↑1)))),?_]
 intro x dx nx ndx nex;refine#[x,dx,rfl,ac,λd g H4 fd0 fg0 S4 kp4=>#[rfl,?_]];have s34:Same H H4:=λb o e=>kp4 b o (by rw[af ı,af Š];exact e) ı;have s00:Same H (upd (upd H dx (.own x)) x (.ins C dx [])):=λb o e=>by rw[af ı,af Š];exact e
 have d3:H d=none:=s00.free fd0;have g3:H g=none:=s00.free fg0;refine#[_,rfl,l,rfl,#[_,OQ (s34 _ _ hl)],?_];refine eh (K:=K) (a:=l) (xs:=xs) (λi Y H'=>Same H H'/\∃(ol:Ol) (gs:As Unit) (o2:Option V),OlAt C H' x d g ol/\GoneAt H' g gs/\my Φ ol gs (ss.drop i)/\Y=[some ă,some (.ref x),o2])
  #[s34,[],[],none,#[[],[],S4,.nil],#[[],S4.3,.nil],safe,rfl] (λi Y H' _ z=>OQ (z.1 _ _ hl)) ?_ ?_
 .rintro i v Y H' hv ⟨sm,ol,gs,o2,O,G,sf,rfl⟩ DL hDL;exists[sd,hsi,st,rfl,hst],aP px hv;have hi:i<ss.length:=(Zu.mp hsi).1;have hdr:ss.drop i=sd::ss.drop ś:=by rw[List.drop_eq_getElem_cons hi];rw[Ze hi]at hsi;rw[Zo hsi]
  rw[hdr]at sf;exists[small,lg,nw,hh,hb,nxt],sf;exists[kvs,gvs,S,_],id O;obtain⟨⟨dz,y1⟩,y2,y3,y4⟩:=id S;refine#[_,rfl,x,dz,_,rfl,y1,dB _ _,_,rfl,x,d,g,st,ol,gs,sd,.ok,rfl,O,G,small.len,lg,hst.ts Ė,(λn it hl=>Zs (small.txt n it hl) ⋯),.bd none nw hh hb,nofun,nofun,nofun,nofun,λ_ H5 ol' b5 o5 g5 ap=>hDL _ _ ?_];exact#[λb o e=>b5 b o (sm _ _ e) (aj e d3) (aj e g3),ol',_,_,o5,g5,nxt ol' ap,rfl]
 .rintro Y H' ⟨sm,ol,gs,o2,O,G,sf,rfl⟩;rw[ll,List.drop_length]at sf;exact#[_,rfl,q x d g ol gs H' sm O G sf]
inductive spStepped(C:OC)(vs:OU)(H:Hp)(Q:VK)(E_:XK):Prop
 |mk (l:OC) (xs:OU) (ss:Ś) (Φ:ĝ) (h0:Ğ) (h1:Ø) (h2:ğ) (h3:ú) (h4:iK Φ [] ss) (h5:∀p d g ol H',Same H H'->OlE C H' p d g ol->Φ ol->Q ó H'):spStepped C vs H Q E_
theorem Dx:∀{ss:Ś} {ol:Ol},ú->iK Φ ol ss->my (λol gs=>gs=[]/\Φ ol) ol [] ss
 | [],_,_,h=>#[rfl,h]
 |s::ss,ol,ng,h=>by exists[small,nw,hh,hb,nxt],h;refine#[small,ZL _,nw,hh,hb,λol' ap=>?_];rw[oY (ng s Zn)];exact Dx (λx hx=>ng x Ŭ) (nxt ol' ap)
theorem Bq(F:↑Fn 5 "stepped" ["steps"] ľ):↑Fn 5 "stepped" ["steps"] ł:=by exists[f,fd,ok,h1,h2,h3],F;refine#[f,fd,ok.imp λvs H Q E h=>?_,h1,h2,h3];exists[l,xs,ss,Φ,rfl,hl,px,ng,safe,q],h;refine#[l,xs,ss,_,rfl,hl,px,Dx ng safe,λp d g ol gs H' s O G z=>?_];exists[rfl,z],z;exact q p d g ol H' s (.of O G) z
set_option ø true in theorem Iq{w:š}(h:ĕ):∀s,so=some s->∀m,s≠.gone m:=by
 intro s e m z;subst z;cases h with
 |none=>cases e
 |take=>cases e
 |back=>cases e
 |top=>cases e
 |step hs _ _ =>
  split at e
  .cases e;rename_i wd' _ _;cases wd<;>simp[gM]at hs
  .cases e
theorem zQ{ts:As Dd}(h:Runs ts tn ol ds rs):∀s∈(bG rs).map Prod.snd,∀m,s≠.gone m:=by
 have at':∀{r:bh} {rs:List bh},(∀s,r.2.2=some s->∀m,s≠.gone m)->(∀s∈(bG rs).map Prod.snd,∀m,s≠.gone m)->∀s∈(bG (r::rs)).map Prod.snd,∀m,s≠.gone m:=fun{r rs} h1 h2 s hs=>by
  exists[x,hx,rfl],Zt.mp hs;exists[y,hy,e],Yc.mp hx;rcases Zg.mp hy with rfl|hy
  .exists[s',e1,rfl],Z1.mp e;exact h1 s' e1
  .exact h2 _ (Zt.mpr #[x,Yc.mpr #[y,hy,e],rfl])
 induction h with
 |nil=>exact λs hs=>nomatch hs
 |off _ _ ih=>exact at' ġ ih
 |turn _ _ _ ih=>exact at' ġ ih
 |play _ _ p _ ih=>exact at' (Iq p) ih
set_option ø true in theorem yn{kvs:OT}{k k':List Key}{v:V}:aW (bj kvs k v) k'=if k'=k then some v else aW kvs k':=by
 have gen:∀l:OT,aW (l.map λkv=>if kv.1=k then(kv.1,v)else kv) k'=if k'=k then(aW l k').map (λ_=>v)else aW l k':=λl=>by
  induction l with
  |nil=>split<;>rfl
  |cons p l ih =>
   rw[Zr];by_cases c:p.1=k
   .rw[Ox c];by_cases c2:p.1=k'
    .have h1:∀r,aW (ĩ::r) k'=some v:=λr=>cX (p:=ĩ) c2;rw[h1,cX c2,Ox (c2.symm.trans c)];rfl
    .have h1:∀r,aW (ĩ::r) k'=aW r k':=λr=>cJ (p:=ĩ) c2;rw[h1,cJ c2,ih]
   .rw[Ow c];by_cases c2:p.1=k'
    .rw[cX c2,cX c2,Ow Ē]
    .rw[cJ c2,cJ c2,ih]
 by_cases hk:k∈kvs.map (·.1)
 .rw[qu v hk,gen];split
  .rename_i e;exists[u,hu],Zw.mp (rN hk);rw[e,hu];rfl
  .rfl
 .rw[xJ _ (kX hk)];have app:∀l:OT,aW l k=none->aW (l++[(k,v)]) k'=if k'=k then some v else aW l k':=λl=>by
   induction l with
   |nil =>
    intro _;by_cases c:k=k'
    .rw[Ox c.symm,List.nil_append,cX c]
    .rw[Ow (λz=>c z.symm),List.nil_append,cJ c]
   |cons p l ih =>
    intro h;by_cases c:p.1=k
    .rw[cX c]at h;cases h
    .rw[cJ c]at h;rw[List.cons_append];by_cases c2:p.1=k'
     .rw[cX c2,cX c2,Ow Ē]
     .rw[cJ c2,cJ c2,ih h]
  exact app kvs (kX hk)
theorem uh:bootBuiltins "dict" = some (.type "dict"):=⋯
def aR(L:L3):List Dd:=L.map λx=>toD x.2
theorem lG:∀{L:L3},(∀x∈L,DA H x.1 x.2)->qG H ŧ î
 | [],_=>.nil
 |x::L,h=>.cons (h x Zn).dd (lG λy hy=>h y (Zj _ hy))
theorem xZ{t u:Lake.TS}{Y:St}(h:∀R:St->Hp->Prop,(∀σ' H',u D σ' H'->R σ' H')->t { D with nx:=R } Y H):Bv t u D Y H:=h _ λ_ _ z=>z
def DQ(ol:Ol)(ns:ý)(o:Nm):Prop:=∀x∈ns,∃k b,Und ol o k ŀ b
inductive spGs(C:OC)(vs:OU)(H:Hp)(Q:VK)(E_:XK):Prop
 |mk (a b:OC) (iv:V) (p d g:OC) (e t:D3) (it:Nm) (ol:Ol) (h0:vs=[.ref a,.ref b,iv,.ref p]) (h1:DA H a e) (h2:DA H b t) (h3:å) (h4:ö) (h5:e.2.1.length=t.2.1.length) (h6:e.2.2.ok) (h7:DQ ol (br e) it) (h8:∀H',Same H H'->Q (.bl (gsB ol e t it)) H'):spGs C vs H Q E_
theorem qc(d:D3):(br d).length<=2:=by exists[hn,cs,wd],d;cases wd<;>(unfold br;simp)
abbrev mX:Stmt:=top 39
abbrev qH:List Str:=["deed","taking","item","whole"]
theorem yK:FnScope qH ["deed","taking","item","whole"] (aq mX):= ~~~0
theorem yG(F:Fun K "gainsays" "gainsays" mX f fd)(a6:Â)(r6:à)(u8:↑Fn 3 "apart" ["one","other"] spApart)(v6:↑Fn 2 "touched_by" ["deed"] spTouched)(a9:↑MFn 1 C "at_or_beneath" ["self","one","other"] (spUnder C))(Og:mg "any" = none):↑FnOk CX0 4 f fd ["deed","taking","item","whole"] (spGs C):=by
 exists yK
 exists[a,b,iv,p,dd,g,e,t,it,ol,rfl,ha,hb,hi,hO,ln,ok,hh,q],h;refine#[_,(b_c (aT (t_w (fg (aE (ik û) Ê (aD (q_a ar æ))) (eO (dS Ð)))) Ł b_0)
   (b_1 (ax (il (aI u8 ↑99 (q_a ↑0 ć)) (iM (q_B (LD rfl) Og PyProof.Rows.boot_any (q_a (de (own:=["each"]) (#[rfl,⋯,⋯,rfl,#[rfl,rfl,#[rfl,rfl,trivial]]]:CompOk _ _ [3,2] ["whole","item"]) rfl (bD (aI v6 ↑99 ċ)) (λ_ _ _ _=>aw (i:=0) (show (["each","whole","item"]:List Str).Nodup by decide)) ě Ķ (λ_ _ _ _=>(dC a9 ↑99 ↑1 (q_a ↑0 æ)))) ah))))))),?_]
 exists[c,wa,h1,h2,hw,h5,h6],id ha;exists[_,_,_,_,_,t5,_],id hb;refine xZ λR hR=>?_;have rest:∀ (H1:Hp),Same H H1->(decide (fi e.2.2=some it)&&cP e (nm3 t))=false->R (Lake.start qH [.ref a,.ref b,iv,.ref p]) H1:=λH1 s1 hf=>hR _ _ (by
  have q1:∀H',Same H H'->Q (.bl (dU e t&&(br e).any λx=>kz ol it x)) H':=λH' s'=>by have:=q H' s';unfold gsB at this;rw[hf,Bool.false_or]at this;exact this
  refine#[_,rfl,_,rfl,a,b,e,t,rfl,ha.ts Ĩ,hb.ts Ĩ,ln,λH2 s2=>#[_,rfl,?_]];cases hc:dU e t with
  |false =>rw[hc]at q1;exact aC (q1 H2 Ń)
  |true =>
   rw[hc]at q1;refine aQ ?_;refine#[_,rfl,a,e,rfl,ha.ts (OO Ń),λl vs H3 s3 el pv=>#[l,rfl,#[_,OQ el],?_]];have S3:=s1.trans Č;have lv:vs.length<=2:=by rw[Zv pv];exact qc e
   refine bz (xs:=vs) (λi zs H'=>H'=H3/\zs=(((br e).take i).map λx=>kz ol it x).map V.bl) ∅ (λi zs _ z=>by rw[z.2,Zd,Zd,ZY];omega) #[rfl,rfl] (λi zs H' z=>by rw[z.1];exact OQ el) ?_ ?_
   .rintro i zs H' v hv ⟨rfl,rfl⟩ Yq0 hY;exists[x,hx,hn],aP pv hv;exists[k,bb,hu],hh x (ZI hx);have O3:=hO.same S3;obtain⟨kvs,⟨⟨dz,y1⟩,_⟩,_⟩:=id O3;refine#[_,rfl,p,dz,_,rfl,y1,dB _ _,_,rfl,_,rfl,p,dd,g,ol,v,iv,some x,it,k,bb,rfl,O3.ag.1,hn,hi.ts' (OO S3),hu,hY _ _ #[rfl,?_]];rw[cu hx,ZA,ZA,<-Ab hu];rfl
   rintro zs lz H4 ⟨rfl,rfl⟩ glz;rw[Zv pv,ZC];have wlz:=ad glz (.lst (((br e).map λx=>kz ol it x).map V.bl));refine#[lz,_,rfl,OQ ac,?_];have q2:=q1 _ (S3.trans wlz);rw[Bool.true_and]at q2;rw[List.any_map];exact q2)
 refine#[_,rfl,a,_,_,_,rfl,rfl,OP h1,at2,_,rfl,sz rfl,λu gu=>?_];have wu:=ad gu Ü;exists[dx,x1,x2,x3],tZ it (hw.ts ÿ) ok;exists[y1,y2],yW (u:=u) (it:=it) ac (hi.ts' ÿ);refine#[dx,_,x1,y1,x2,y2,?_];rw[x3];generalize upd H u Ü=H1 at wu ⊢;refine#[_,rfl,?_];cases hb1:decide (fi e.2.2=some it)with
 |false =>refine aC (rest H1 wu ?_);rw[hb1];rfl
 |true =>
  refine aQ ?_;refine#[_,rfl,_,rfl,.ref b,toD t,rfl,(hb.ts ÿ).dd,λtn H2 s2 e2=>?_];refine#[a,.ref tn,e,nm3 t,rfl,ha.ts (OO (wu.trans s2)),#[tn,rfl,e2],Int.ofNat_nonneg _,by rw[ln];exact Int.ofNat_lt.mpr t5,λH3 s3=>#[_,rfl,?_]];have S3:=wu.trans Č;cases hb2:cP e (nm3 t)with
  |false =>refine aC (rest H3 S3 ?_);rw[hb1,hb2];rfl
  |true =>refine aQ ?_;have q1:=q H3 S3;unfold gsB at q1;rw[hb1,hb2]at q1;exact q1
inductive spFg(C:OC)(vs:OU)(H:Hp)(Q:VK)(E_:XK):Prop
 |mk (b:OC) (iv:V) (l p d g:OC) (L:L3) (t:D3) (it:Nm) (ol:Ol) (h0:vs=[.ref b,iv,.ref l,.ref p]) (h1:DA H b t) (h2:å) (h3:ĺ) (h4:ö) (h5:(∀x∈L,x.2.2.1.length=t.2.1.length/\x.2.2.2.ok/\DQ ol (br x.2) it)) (h6:∀v H',Same H H'->UpAt H' v (cO ol ô t it)->Q v H'):spFg C vs H Q E_
abbrev fP:Stmt:=top 38
abbrev pL:List Str:=["taking","item","lasting","whole","deed"]
theorem iV:FnScope pL ["taking","item","lasting","whole"] (aq fP):= ~~~0
theorem oq(F:Fun K "first_gainsayer" "first_gainsayer" fP f fd)(Nh:↑Fn 4 "gainsays" ["deed","taking","item","whole"] (spGs C))(a6:Â):↑FnOk CX0 5 f fd ["taking","item","lasting","whole"] (spFg C):=by
 exists iV
 exists[b,iv,l,p,d,g,L,t,it,ol,rfl,hb,hi,hL,hO,hx,q],h;refine#[_,(b_c (dG ZT rfl (bD ↑2) (aw (i:=4) iV.nd) (b_1 (aT (dS (aI Nh ↑99 (q_a ↑4 (q_a ↑0 (q_a ↑1 (q_a ↑3 ah)))))) (b_1 (ax (aI a6 ↑99 (q_a ↑4 ah)))) b_0)))
   (b_1 (ax bX))),?_]
 refine#[_,rfl,l,rfl,#[_,OQ hL.1],?_];refine ql (K:=K) (a:=l) (xs:=aH L) (λi Y H'=>Same H H'/\(∀x∈L.take i,gsB ol x.2 t it=false)/\∃o4,Y=[some (.ref b),some iv,some ă,some ó,o4])
  #[Same.refl _,(λx hx=>by rw[List.take_zero]at hx;cases hx),none,rfl] (λi Y H' _ z=>OQ (z.1 _ _ hL.1)) ?_ ?_
 .rintro i v Y H' hv ⟨sm,no,o4,rfl⟩;exists[hl,rfl],cC hv;have hm:=ZG hl;exists[g1,g2,g3],hx _ hm;have hd:=(hL.2 _ hm).ts Ė;refine#[_,rfl,_,rfl,_,rfl,_,rfl,_,b,iv,p,d,g,L[i].2,t,it,ol,rfl,hd,hb.ts Ė,hi.ts' Ė,hO.same sm,g1,g2,g3,λH2 s2=>#[_,rfl,?_]];cases hc:gsB ol L[i].2 t it with
  |false =>
   refine aC #[sm.trans s2,λx hx'=>?_,_,rfl];rw[List.take_add_one,Ze hl,ZE]at hx';rcases hx' with hx'|hx'
   .exact no x hx'
   .rcases Zh.mp hx' with rfl;exact hc
  |true =>
   refine aQ #[_,rfl,_,_,rfl,(hd.ts (OO s2)).dd,λtn H3 s3 e3=>q (.ref tn) H3 (sm.trans Č) ?_];have ef:cO ol ô t it=some (nm3 L[i].2):=by
    unfold cO;have hs:L.map Prod.snd=(L.take i).map Prod.snd++L[i].2::(L.drop ś).map Prod.snd:=by rw[<-Zr (f:=Prod.snd) (a:=L[i]),<-List.drop_eq_getElem_cons hl,<-ZA,List.take_append_drop]
    rw[hs,List.find?_append,Xa.mpr,Option.none_or,Yv (p:=λd=>gsB ol d t it) (by simpa using hc)]
    .rfl
    .intro y hy;exists[x,h1,rfl],Zt.mp hy;rw[no x h1];exact Zx
   rw[ef];exact#[tn,rfl,e3]
 .rintro Y H' ⟨sm,no,o4,rfl⟩;refine q .non H' sm ?_;rw[show cO ol ô t it=none from ?_]
  .rfl
  .unfold cO;rw[Xa.mpr]
   .rfl
   .intro y hy;exists[x,h1,rfl],Zt.mp hy;rw[aG,ZC]at no;rw[no x h1];exact Zx
theorem rG:∀{ps kvs:OT},k∉ps.map Prod.fst->aW Ŕ k=aW kvs k
 | [],_,_=>rfl
 |p::ps,kvs,h=>by show aW ą k=_;rw[Zr,Zg,not_or]at h;rw[rG h.2,yn,Ow h.1]
theorem xH:∀{ps kvs:OT},(ps.map Prod.fst).Nodup->(k,v)∈ps->aW Ŕ k=some v
 |p::ps,kvs,hn,h=>by
  show aW ą k=_;rw[Zr,Z3]at hn;rcases Zg.mp h with rfl|h
  .rw[rG hn.1,yn,Ox rfl]
  .exact xH hn.2 h
def ba(w:š):Bool:=inV (.str w) [.str "done",.str "top"]
def aZ(Z:List (Ŋ×Str)):L3:=(Z.filter λz=>ba z.2).map Prod.fst
theorem kM(A B:L3):aH (A++B)=aH A++aH B:=ZA
structure Tkn(L:L3)(W:List Str)(n:Ö)(Φ:ĝ):Prop where
 len:L.length<=63
 safe:gF ő [] î
 nod:((aR L).map Prod.fst).Nodup
 words:∀rs,Runs ő (bo î) [] î rs->rs.map (λr:bh=>r.2.1)=W/\rs.map (λr:bh=>r.1)=(aR L).map Prod.fst
 steps:∀rs,Runs ő (bo î) [] î rs->iK Φ [] ((bG rs).map Prod.snd)
 cl:∀x∈L,x.2.2.1.length=n/\x.2.2.2.ok
 asks:∀ol,Φ ol->∀x∈aZ ß,∀t∈aZ ß,∀it,bg t.2.2.2=some it->DQ ol (br x.2) it
inductive spTakings  (vs:OU)(H:Hp)(Q:VK)(E_:XK):Prop
 |mk (l:OC) (L:L3) (W:List Str) (n:Ö) (Φ:ĝ) (h0:Ğ) (h1:ĺ) (h2:Tkn L W n Φ) (h3:∀ol a vs H',Φ ol->Same H H'->H' a=some ŭ->Paired ů vs (aX ol ((aZ ß).map Prod.snd))->Q (.ref a) H'):spTakings  vs H Q E_
theorem rR(ol:Ol)(D:Ĭ):∀E:List D3,(E.flatMap λd=>dF ol D d).length<=E.length
 | []=>Zi _
 |d::E=>by
  rw[List.flatMap_cons,Zf,Zm];have:=rR ol D E;have h1:(dF ol D d).length<=1:=by unfold dF;split<;>simp
  omega
theorem OlE.but{H H':Hp}(x:ö)(hl:Ø)(kp:∀b o,b≠l->H b=some o->H' b=some o):OlE C H' p d g ol:=by obtain⟨kvs,⟨⟨dx,h1⟩,h2,h3,h4⟩,h5⟩:=x;exact#[kvs,#[#[dx,kp _ _ (bw h1 hl nofun) h1],kp _ _ (bw h2 hl nofun) h2,kp _ _ (bw h3 hl nofun) h3,h4],h5.ts λb ws e=>kp b _ (bw e hl nofun) e]
abbrev km:Stmt:=top 35
abbrev vW:List Str:=["ready","words","whole","lasting","takings","deed","item"]
theorem cW:FnScope vW ["ready"] (aq km):= ~~~0
theorem vm(F:Fun K "takings_of" "takings_of" km f fd)(j8:↑Fn 8 "words_of" ["ready"] spWords)(j9:↑Fn 8 "steps_of" ["ready"] spSteps)(k9:↑Fn 5 "stepped" ["steps"] ł)(a6:Â)(v7:↑Fn 1 "taken_item" ["deed"] spTaken)(k7:↑Fn 5 "first_gainsayer" ["taking","item","lasting","whole"] (spFg C))(Nf:mg "dict" = none):↑FnOk CX0 9 f fd ["ready"] spTakings:=by
 exists cW
 obtain⟨l,L,W,n,Φ,rfl,⟨hl,hL⟩,T,q⟩:=h;have ll:(aR L).length=L.length:=Zd ..;have l1:=T.len;refine#[_,(b_c (aA (i:=1) Ĥ (mU (yU rfl û) Nf uh (q_a (aI j8 ↑99 ċ) ah)))
   (b_c (aA (i:=2) Ĥ (aI k9 ↑99 (q_a (de (own:=["name","step"]) (#[rfl,⋯,⋯,rfl,trivial]:CompOk _ _ [] []) rfl (bD (aI j9 ↑99 ċ)) (λ_ _ _ _=>hJ (K:=K) (n:=2) rfl rfl (bC (aw (i:=0) (show (["name","step"]:List Str).Nodup by decide)) (bC (aw (i:=1) (show (["name","step"]:List Str).Nodup by decide)) fj))) (hM (bp ě aO (bp ě aO fJ bE) (bR aO bE))) Ķ (λ_ _ _ _=>↑1)) ah)))
   (b_c (iU (j:=3) Ĥ (own:=["deed"]) (#[rfl,⋯,⋯,rfl,#[rfl,rfl,trivial]]:CompOk _ _ [1] ["words"]) rfl Ů (λ_ _ _ _=>aw (i:=0) (show (["deed","words"]:List Str).Nodup by decide)) ě (λ_ _ _ _=>(kQ (aE (gh (K:=K) rfl) (cg û ↑1 Æ) (aD á)))) (λ_ _ _ _=>↑0))
   (b_c (aA (i:=4) Ĥ (bA ah))
   (b_c (dG ZT rfl (bD ↑3) (aw (i:=5) Ĥ) (b_1 (aT (aE (gh (K:=K) rfl) (am ao (am ao ↑5 ai) ai) (aD á)) (b_c (aA (i:=6) Ĥ (aI v7 ↑99 ń))
   (b_1 (bu (fL ↑4 (aD (q_a (aI a6 ↑99 ń) (q_a ↑6 (q_a (aI k7 ↑99 (q_a ↑5 (q_a ↑6 (q_a ↑3 æ)))) ah)))))))) b_0)))
   (b_1 (ax ↑4))))))),?_]
 refine aB λR0 hR0=>?_;refine#[_,rfl,l,aH L,aR L,rfl,hl,lG hL,∅,T.safe,λa ys rs H1 s1 ea pr run=>?_];have lrs:ť=L.length:=by rw[jB run,ll]
 exists[hW,hN],T.words rs run;have lW:W.length=L.length:=by rw[<-hW,Zd,lrs]
 have prs:Paired (vY H1) ys Á:=by
  clear run lrs ea hW hN;induction pr with
  |nil=>exact .nil
  |cons h _ ih =>exists[t,nv,rfl,e1,b,rfl,e2],h;exact .cons #[t,b,rfl,e1,e2] ih
 refine#[a,ys,_,rfl,ea,prs,by rw[Zv pr,lrs];omega,λwd gwd=>?_];have wwd:=ad gwd Ý;have ewd:upd H1 wd Ý wd=some Ý:=ac;have S2:Same H (upd H1 wd Ý):=s1.trans wwd;have wv:∀(i:Ö) (x:Ŋ) (w0:š),L[i]?=some x->W[i]?=some w0->aW (bI [] Á) (nk (toD x.2).1)=some (.str w0):=λi x w0 hx hw=>by
  have hi:i<ť:=by have:=(Zu.mp hx).1;omega
  have h1:rs[i].1=(toD x.2).1:=by have h:=Z2 ŋ hN;simp only[Zy,aR,hx,Ze hi,Option.map_some,Xf]at h;exact h
  have h2:rs[i].2.1=w0:=by have h:=Z2 ŋ hW;simp only[Zy,hw,Ze hi,Option.map_some,Xf]at h;exact h
  refine xH ?_ (Zt.mpr #[rs[i],ZG hi,by rw[h1,h2]]);rw[Z4,show(Prod.fst∘λr:bh=>(nk r.1,V.str r.2.1))=nk∘λr:bh=>r.1 from rfl,<-Z4,hN];exact T.nod.map _ λa b hab z=>hab (jM z)
 generalize bI [] Á=kvw at ewd S2 wv ⊢;generalize upd H1 wd (.dT kvw)=H2 at ewd S2 ⊢;refine hR0 _ _ ?_;refine aB λR0 hR0=>?_;refine#[_,rfl,l,aH L,aR L,rfl,S2 _ _ hl,lG λx hx=>(hL x hx).ts (OO S2),∅,T.safe,λa2 ys2 rs2 H3 s3 ea2 pa2 run2=>#[a2,rfl,#[_,OQ ea2],?_]];have ly2:ys2.length<=63:=by have h1:=Zv pa2;have h2:(bG rs2).length<=rs2.length:=List.length_filterMap_le ..;rw[jB run2,ll]at h2;omega
 refine bz (λi zs H'=>Same H3 H'/\Ŧ<=i/\Paired (StV H') zs (((bG rs2).take i).map Prod.snd)) ∅ (λ_ _ _ z=>z.2.1) #[Same.refl _,Zi _,.nil] (λi zs H' z=>OQ (z.1 _ _ ea2)) ?_ ?_
 .rintro i zs H' v hv ⟨sm,lz,pz⟩ Yq0 hY;exists[r,hr',t,st',nv,rfl,e1,e2,e3],aP pa2 hv;refine#[t,_,rfl,OP (sm _ _ e1),rfl,_,_,rfl,_,_,rfl,rfl,?_];refine#[_,rfl,hY _ _ #[sm,by rw[Zf];exact ZP lz,?_]];rw[cu hr',ZA];exact y7 pz #[st',rfl,e3.ts Ė]
 rintro zs lz H4 ⟨sm,lzs,pz⟩ glz;rw[Zv pa2,ZC]at pz;have wlz:=ad glz Ű;refine#[lz,zs,_,Φ,rfl,ac,Paired.mapP pz λ_ _ (z:StV _ _ _)=>z.ts (OO wlz),zQ run2,T.steps rs2 run2,λp d g ol H5 s5 O5 hΦ=>?_];have S25:Same H2 H5:=s3.trans (sm.trans (wlz.trans s5));have S5:=S2.trans S25;have ewd5:=S25 _ _ ewd;refine hR0 _ _ ?_;refine aB λR0 hR0=>?_;refine#[_,rfl,l,rfl,#[_,OQ ŕ],?_];have lzw:(L.zip W).length=L.length:=by rw[List.length_zip,lW,Nat.min_self]
 refine bz (xs:=aH L) (λi zs H'=>Same H5 H'/\zs=aH (aZ Ģ)) (by rw[aG];omega) (λi zs _ z=>by
  rw[z.2,aG,aZ,Zd];exact Zs (ZX ..) (by rw[ZY];omega)) #[Same.refl _,rfl] (λi zs H' z=>OQ (z.1 _ _ ŕ)) ?_ ?_
 .rintro i zs H' v hv ⟨sm,rfl⟩ Yq0 hY;exists[hi,rfl],cC hv;have hx:=ZG hi;have hd:=(hL _ hx).ts (OO (S5.trans sm));have hiW:i<W.length:=∅
  have hz:ß[i]?=some Ŗ:=by rw[Ze ∅,List.getElem_zip]
  refine#[_,rfl,_,rfl,_,_,rfl,ō,λt H6 s6 e6=>?_];refine#[wd,.str W[i],rfl,wv i _ _ (Ze hi) (Ze hiW)▸DGet.t (k:=nk (toD L[i].2).1) (s6 _ _ (sm _ _ ewd5)) e6,sz rfl,λu gu=>?_];have wu:=s6.trans (ad gu (.tup [.str "done",.str "top"]));refine#[u,_,rfl,.inr Ő,rfl,rfl,_,rfl,?_];have et:aZ ((L.zip W).take ś)=aZ Ģ++aZ [Ŗ]:=by rw[cu hz,aZ,Z6,ZA];rfl
  cases hb:ba W[i]with
  |true =>have ei:È=true:=hb;rw[ei];refine aQ #[_,rfl,hY _ _ #[sm.trans wu,?_]];rw[et,kM];simp[aZ,hb,aH]
  |false =>have ei:È=false:=hb;rw[ei];refine aC (hY _ _ #[sm.trans wu,?_]);rw[et,kM];simp[aZ,hb,aH]
 rintro zs la H6 ⟨sm,rfl⟩ gla;rw[aG,<-lzw,ZC];have mem:∀x∈aZ ß,x∈L:=λx hx=>by exists[z,h1,rfl],Zt.mp hx;exact(List.of_mem_zip (ZH.mp h1).1).1
 have lD:(aZ ß).length<=L.length:=by rw[aZ,Zd];exact Zs (ZX ..) ∅
 have asks:=T.asks ol hΦ;have q':=λa vs H'=>q ol a vs H' hΦ;generalize aZ ß=D at asks q' mem lD ⊢;have wla:=ad gla ç;have ela:upd H6 la ç la=some ç:=ac;have S57:=sm.trans wla;have S7:=S5.trans S57;generalize upd H6 la ç=H7 at ela S7 S57 ⊢;refine hR0 _ _ ?_;refine aB λR0 hR0=>?_;refine#[sz rfl,λtl gtl=>?_];have wtl:=ad gtl Þ;have etl:upd H7 tl Þ tl=some Þ:=ac;have S8:=S7.trans wtl;have gtl0:H tl=none:=S7.free gtl;have ela8:=wtl _ _ ela;have nla:la≠tl:=λz=>by rw[z,gtl]at ela;cases ela
 have O8:=O5.same (S57.trans wtl);have hD:∀x∈D,DA (upd H7 tl Þ) x.1 x.2:=λx hx=>(hL x (mem x hx)).ts (OO S8);generalize upd H7 tl Þ=H8 at etl S8 ela8 O8 hD ⊢;refine hR0 _ _ ?_;refine aB λR0 hR0=>?_;refine#[_,rfl,la,rfl,#[_,OQ ela8],?_];refine eh (K:=K) (a:=la) (xs:=aH D) (λi Y H'=>(∀b o,b≠tl->H8 b=some o->H' b=some o)/\∃(zs:OU) (o5 o6:Option V),H' tl=some Ű/\Ŧ<=i/\Paired ů zs (((D.take i).map Prod.snd).flatMap λd=>dF ol Ë d)/\Y=[some ă,some (.ref wd),some ó,some (.ref la),some (.ref tl),o5,o6])
  #[λb o _ e=>e,[],none,none,etl,Zi _,.nil,rfl] (λi Y H' _ z=>OQ (z.1 _ _ nla ela8)) ?_ ?_
 .rintro i v Y H' hv ⟨kp,zs,o5,o6,hz,lz,pz,rfl⟩ DL hDL;exists[hi,rfl],cC hv;have hx:=ZG hi;have tp:TS H8 H':=λb ws e=>kp b _ (bw e etl nofun) e;have hd:=(hD _ hx).ts tp;have er:((D.take ś).map Prod.snd).flatMap ĥ=((D.take i).map Prod.snd).flatMap ĥ++dF ol Ë D[i].2:=by rw[cu (Ze hi),ZA,List.flatMap_append];simp
  have hi1:i<100:=∅
  obtain⟨c,wa,e1,e2,⟨r,e3,e4⟩,_⟩:=id hd;refine#[_,rfl,_,_,_,_,rfl,rfl,OP e1,at2,wa,_,_,_,rfl,rfl,OP e3,at0,sz rfl,λu gu=>?_];have wu:=ad gu í;refine#[u,_,rfl,.inr Ő,rfl,rfl,_,rfl,?_];have ei:(if false=true then !inV Ď [.str "take",.str "join"]else inV Ď [.str "take",.str "join"])=(bg D[i].2.2.2).isSome:=Gj _;rw[ei];generalize upd H' u í=H9 at wu ⊢;cases ht:bg D[i].2.2.2 with
  |none =>refine aC (hDL _ _ #[λb o hb e=>wu _ _ č,zs,_,_,wu _ _ hz,Nat.le_succ_of_le lz,?_,rfl]);rw[er,show dF ol Ë D[i].2=[]from by unfold dF;rw[ht],ZF];exact Paired.mapP pz λ_ _ (z:Ų)=>z.ts ÿ
  |some it =>
   refine aQ ?_;refine aB λR hR=>?_;refine#[_,rfl,_,_,it,rfl,hd.ts ÿ,ht,λiv hiv=>hR _ _ ?_];refine#[_,rfl,.inl #[rfl,_,OQ (wu _ _ hz)],_,rfl,_,_,rfl,(hd.ts ÿ).dd,λtn H10 s10 e10=>?_];have w10:=wu.trans s10;have kp10:∀b o,b≠tl->H8 b=some o->H10 b=some o:=λb o hb e=>w10 _ _ č;have tp10:TS H8 H10:=TS.trans tp (OO w10);refine#[_,rfl,_,rfl,_,rfl,_,rfl,_,rfl,_,iv,la,p,d,g,D,D[i].2,it,ol,rfl,hd.ts (OO w10),hiv.ts' (OO s10),#[kp10 _ _ nla ela8,λx hx'=>(hD x hx').ts tp10],O8.but etl kp10,λx hx'=>#[by rw[(T.cl x ŗ).1,(T.cl _ (mem _ hx)).1],(T.cl x ŗ).2,asks x hx' _ hx it ht],λbv H11 s11 hu=>#[sz rfl,λtr gtr=>?_]];have wtr:=ad gtr Ï;have w12:=w10.trans ķ;have etr:upd H11 tr Ï tr=some Ï:=ac;generalize upd H11 tr Ï=H12 at w12 wtr etr ⊢;refine#[tl,_,_,rfl,rfl,w12 _ _ hz,aU ∅,?_];have t13:TS H12 (upd H12 tl (.lst (zs++[.ref tr]))):=iX λws e'=>by rw[w12 _ _ hz]at e';cases e'
   refine hDL _ _ #[λb o hb e=>by rw[af hb];exact w12 _ _ č,zs++[.ref tr],_,_,ac,by rw[Zf];exact ZP lz,?_,rfl];rw[er,show dF ol Ë D[i].2=[(nm3 D[i].2,it,cO ol Ë D[i].2 it)]from by unfold dF;rw[ht]];exact y7 (Paired.mapP pz λ_ _ (z:Ų)=>z.ts (TS.trans (OO w12) t13)) #[tr,.ref tn,iv,bv,rfl,t13 _ _ etr,#[tn,rfl,t13 _ _ (wtr _ _ (s11 _ _ e10))],hiv.ts' (TS.trans (OO (s10.trans ķ)) t13),(hu.ts (OO wtr)).ts t13]
 .rintro Y H' ⟨kp,zs,o5,o6,hz,lz,pz,rfl⟩;refine hR0 _ _ ?_;rw[aG,ZC]at pz;exact#[_,rfl,q' tl zs H' (λb o e=>kp b o (aj e gtl0) (S8 _ _ e)) hz pz]
end
mutual
#check#[(by simp[Sd.items]),(.tup [.str "move",.str "write",.str "mark",.str "due",.str "fold"]),(upd (upd H l0 (.lst [])) D (odO P w D (kls++[(e,l0)]))),(L.zip W),(gd.skip g),(L.drop (k+1)),(L.map Prod.snd),hr.units,(.lst zs),(fun(p:List Key×V) (q:Nm×Nm)=>p.1=nk q.1/\NameIs H p.2 (nk q.2)),(List Dd),((L.zip W).take i),((aZ Ã).map Prod.snd),(PlayR ol n wd w so ol'),(by unfold odO;intro z;cases z),(.dT (bI [] ps)),(H t=some (.tup (bY (.str wd.word::r) none (some 2)))),(bp (aM ⋯) aO (bp (aM ⋯) aO fJ bE) (bR aO bE)),(by intro _ _ _ y;cases y),(List (OK1×OC)),(.inr c2),(hh _ À),(As Dd),0,(OlAt C H p d g ol),(aJ (aR L)),(∀n,(∀x∈L,nm3 x.2≠n)->look ov n=none),(#[rfl,⋯,⋯,rfl,trivial]:CompOk _ _ [] []),(q_a ↑0 ah),ol.length,((look ol x).isSome=true),(.lst []),((L.zip W).take (i+1)),((bG r1).map Prod.snd),(.inl c),(SameT T H H'),(bZ q T pos H),(upd H4 pk4 È),(λe he=>by cases he),(LowI P w H2 H D M kls),(∀x∈L,x.2.2.1.length=n/\x.2.2.2.ok),(.lst (aH Å)),(gd.play g p2),(odO P w D []),(by simpa using ha),(NameIs H v (nk m.1)),(upd H9 rl (.lst (zs++[.ref tr]))),(↑Fn 1 "name_of" ["deed"] spNameOf),(.tup [.int (k:Int),.ref L[k].1]),(nm3 L[k].2),(L[i],r.2.1),zs.length,(d::ds),(cD d ts=true\/d.2.isTurn=true),(Option Nm),0,(.lst ks),(mg "PLACE" = some (.int 1 tk)),(KsAt H M ks),(∀c d s,o≠#[c,d,.freed,s]),x.lo.od.ob,(k+1),(λ_=>rfl),(q_a ↑0 (q_a ↑1 ah)),ks.length,(gd.play g p),(V.str L[k].2.2.2.word),wd.word,(.ref od),((cE Ã).map Prod.snd),(upd Â l0 (.lst [v])),(nm3 L[j].2),(gd.ready g),(upK m.2.up),(TS H H'),(Nm×It),(mQ jI),(bL gs),cQ.nd,(aR L),((ol.map (·.1)).Nodup),(.ref l),(OO s89),(.ref a),(h.1 â),(h.1 Ô),(M++[m]),(As Nm),(Option V),(List ((OC×D3)×Str)),(λ_ _ _ z=>z.2.1),(by simp[bL,hvis]),(Runs ts tn ol ds rs),(ad gtr _),(λ_ _ _ _=>↑0),(Nat),(j<L.length),(WoAt _ _ _),(kJ wd),(OO w8),(.ref ta),(.ref kd),(.ref rl),(cH ↑0),(b_1 (ax ↑1)),(z.1 _ _ lr5.1),(Same H H'),(s89.trans sA),(sm.trans wlt),(upd å kd Ï),(gd.play g p1),(.ref t),(nk r.1),(OO s57),(.ref D),(Same.refl _),(z.1 _ _ ea5),(V.str.inj z),(Gd G),(Nm×Nm),(by simp[h]),(GoneAt H g gs),fU.nd,(hU wd),(nm3 z.1.2),(TK.take i),(sm _ _ e1),(hv.ts' ts),(L.length<=63),(List bh),(bZ lf T Č H),itn.tx,itm.tx,kls.length,x.nd,x.lo.od.nd,(i+1),0,(mem x hx),(vH gd Ä),(RsAt H r wd),(vs=[.ref l]),(vs=[.ref p]),(H l=some ø),ys.length,wd.isTurn,(by simp),(.dT kvs),(nm3 y.2),(RpAt H'),(ks++[v]),(Str),a7.cl]
def kJ:Wd->Option Nm
 |.move n _ _=>some n
 |.write n _=>some n
 |.mark n _=>some n
 |.due n _=>some n
 |.fold n _=>some n
 |_=>none
def iD:Wd->Bool
 |.move _ _ _=>true
 |.write _ _=>true
 |.mark _ _=>true
 |.due _ _=>true
 |.fold _ _=>true
 |_=>false
theorem AJ(wd:Wd):inV (.str ă) [.str "move",.str "write",.str "mark",.str "due",.str "fold"]=iD wd:=by cases wd<;>rfl
def lU(a b:Wd):Bool:=decide (a.word=b.word)&&decide (kJ a=kJ b)
def hU(wd:Wd):Qb:=.tuple [.str ă,upD Ģ]
theorem Ej(a b:Wd):PyData.eqv (hU a) (hU b)=lU a b:=by
 have e:=rT (kJ a) (kJ b);have e0:∀u:Option Nm,iu u=upD u:=λu=>by cases u<;>rfl
 rw[e0,e0]at e;unfold hU lU;simp only[PyData.eqv,PyData.eqvAll,e,Bool.and_true];congr 1
theorem Jz(x:V)(r:OU):bY (x::r) none (some 2)=x::r.take 1:=by
 unfold bY;rw[HT.sIx_none,show(2:Int)=((2:ğ):Int)from rfl,HT.sIx_nat,List.drop_zero,Nat.sub_zero];cases r with
 |nil=>rfl
 |cons y r =>rw[Nat.min_eq_left Œ];rfl
theorem wV(wd:Wd):SeqAt.shaped Ļ=true:=by refine bU (by simp[hU,PyData.canLay0,PyData.canLayAll0,tW wd,(rc Ģ).1]) ?_;have:=(rc Ģ).2;simp only[hU,PyData.depth,PyData.depthAll];omega
theorem zj{t:OC}(hf:iD wd=true)(h6:Ō)(h7:Ð):Dt H Ļ į:=by
 rw[Jz]at h7;have fin:∀(y:V) (r':OU),r=y::r'->UpAt H y Ģ->Dt H Ļ į:=λy r' e hu=>by rw[e]at h7;exact gQ h7 (bM (iP _) (bM (GO hu) iO))
 cases wd with
 |move m u pl=>exists[nv,uv,pv,rfl,a0,_],h6;exact fin _ _ rfl a0
 |write m tx=>exists[nv,rfl,a0],h6;exact fin _ _ rfl a0
 |mark m tx=>exists[nv,rfl,a0],h6;exact fin _ _ rfl a0
 |due m tx=>exists[nv,rfl,a0],h6;exact fin _ _ rfl a0
 |fold m tx=>exists[nv,rfl,a0],h6;exact fin _ _ rfl a0
 |_=>cases hf
theorem Es{t:OC}(h6:Ō)(ok:wd.ok)(h7:Ð)(hd:iD d=true):∃dx,Dt H dx į/\SeqAt.shaped dx=true/\PyData.eqv dx (hU d)=lU wd d:=by
 cases c:iD wd with
 |true=>exact#[hU wd,zj c h6 h7,wV wd,Ej wd d]
 |false =>
  have hw:ă≠d.word:=λz=>by rw[<-AJ wd,z,AJ d,hd]at c;cases c
  rw[Jz]at h7;exists[ds,i1,i2,i3],sF (vs:=r.take 1) λv hv=>wG h6 ok (List.mem_of_mem_take hv);refine#[.tuple (.str ă::ds),gQ h7 (bM (iP _) i1),bU ?_ ?_,?_]
  .simp[PyData.canLay0,PyData.canLayAll0,tW wd,i2]
  .simp only[PyData.depth,PyData.depthAll];omega
  .have e3:(ă==d.word)=false:=by simpa using hw
   unfold hU lU;simp only[PyData.eqv,PyData.eqvAll];rw[e3,decide_eq_false hw,Bool.false_and,Bool.false_and]
def gj(e d:D3):Bool:=lU e.2.2 d.2.2&&dU e d
def ovJ(D:List D3)(k:ğ):Option Nm:=match D[k]? with
 |some d=>if iD d.2.2=true then((D.drop ý).find? λe=>gj e d).map nm3 else none
 |none=>none
theorem Ed(L:L3)(k:ğ):bY (aH L) (some ((k:Int)+1)) none=aH Å:=by
 unfold bY;rw[HT.sIx_none,show(k:Int)+1=((k+1:Nat):Int) by omega,HT.sIx_nat,aG];unfold aH;rw[List.map_drop];rcases Nat.le_total ý L.length with c|c
 .rw[Nat.min_eq_left c,YK (by rw[YL,Zd];omega)]
 .rw[Nat.min_eq_right c,List.drop_eq_nil_of_le (by rw[Zd];omega),List.drop_eq_nil_of_le (by rw[Zd];exact c)];simp
abbrev NsAt(H:Hp)(kvs:OT)(ov:ė):Prop:=Rws (λv n=>NameIs H v (nk n)) kvs ov
theorem NsAt.ts(x:NsAt H kvs ov)(t:Ċ):NsAt H' kvs ov:=Paired.mapP x λ_ _ z=>#[z.1,z.2.ts' t]
inductive spOvers  (vs:OU)(H:Hp)(Q:VK)(E_:XK):Prop
 |mk (l:OC) (L:L3) (n:ğ) (h0:ō) (h1:H l=some (.lst (aH L))) (h2:(∀x∈L,DA H x.1 x.2)) (h3:è) (h4:ŀ) (h5:(L.Pairwise λx y=>nm3 x.2≠nm3 y.2)) (h6:∀d kvs ov H',Same H H'->H' d=some œ->NsAt H' kvs ov->(∀(j:ğ) (hj:Ġ),look ov ć=ovJ Æ j)->Ú->Q (.ref d) H'):spOvers  vs H Q E_
abbrev mY:Stmt:=top 42
abbrev Ak:List Str:=["done","overs","at","deed","later"]
theorem fU:FnScope Ak ["done"] (aq mY):= ~~~0
theorem yH(F:Fun K "overs_of" "overs_of" mY f fd)(a6:ï)(u8:↑Fn 3 "apart" ["one","other"] spApart)(j4:mg "enumerate" = none)(a8:mg "len" = none):↑FnOk CX0 4 f fd ["done"] spOvers:=by
 exists fU
 exists[l,L,n,rfl,hl,hL,hn,l1,pw,q],h;exists _,(b_c (aA (i:=1) ĺ mV)
   (b_c (dG ZT rfl (Cn j4 Ü) (jl rfl (bC (aw (i:=2) ĺ) (bC (aw (i:=3) ĺ) fj))) (b_1 (aT (aE (gh (K:=K) rfl) (am ao (am ao ↑3 ai) ai) (aD (q_a ar (q_a ar (q_a ar (q_a ar (q_a ar ah))))))) (b_c (iU (j:=4) ĺ (own:=["each"]) (#[rfl,⋯,⋯,rfl,#[rfl,rfl,trivial]]:CompOk _ _ [3] ["deed"]) rfl (bD (eE xp ↑0 (dW (aK ge ↑2 ai)) eV)) (λ_ _ _ _=>aw (i:=0) (show (["each","deed"]:List Str).Nodup by decide)) (aM ⋯) (λ_ _ _ _=>(kQ (t_w (fg (aE (ik Ç) (eE dN (am (iw (K:=K) rfl) ↑0 ai) eV (dW ai)) (eE dN (am (iw (K:=K) rfl) ↑1 ai) eV (dW ai))) (eO (dS (aI u8 ↑99 ÿ))))))) Ğ)
   (b_1 (aT (aE xC (q_B gX a8 Ya (q_a ↑4 ah)) ai) (b_1 (iT Ç ↑1 (aI a6 ↑99 (q_a ↑3 ah)) (aI a6 ↑99 (q_a (am bV ↑4 ai) ah)))) b_0))) b_0)))
   Ĩ))
 refine aB λR0 hR0=>?_;intro od god;have w0:=ad god (.dT []);refine hR0 _ _ ?_;refine aB λR0 hR0=>?_;refine#[_,rfl,l,_,rfl,w0 _ _ hl,?_];refine Ce (i:=2) (j:=3) (λk Y H'=>Same H H'/\∃(kvs:OT) (ov:ė) (o2 o3 o4:Ę),H' od=some œ/\NsAt H' kvs ov/\ov.length<=k/\(∀(j:ğ) (hj:Ġ),look ov ć=if j<k then ovJ Æ j else none)/\Ú/\Y=[some đ,some Ą,o2,o3,o4])
  #[w0,[],[],none,none,none,ac,.nil,Zi _,λj hj=>rfl,λ_ _=>rfl,rfl] (λi Y H' _ z=>OQ (z.1 _ _ hl)) ?_ ?_
 .rintro k x Y H3 hx ⟨S3,kvs,ov,o2,o3,o4,eod,hns,lov,hlk,hno,eY⟩ DE hDE T hT;subst eY;exists[hk,rfl],cC hx;have hm:=ZG hk;have wT:=ad hT ð;have S4:=S3.trans wT;have eod4:=wT _ _ eod;have ns4:=hns.ts (OO wT);generalize upd H3 T ð=H4 at S4 eod4 ns4 ⊢;obtain⟨c,wa,e1,e2,⟨r,e3,e4⟩,e5,e6⟩:=(hL _ hm).ts (OO S4);refine(BC rfl (OP e1) at2 (OP e3) at0 #[sz rfl,λu gu=>?_]);have wu:=ad gu Á;have eu:upd H4 u Á u=_:=ac;generalize upd H4 u Á=H5 at wu eu ⊢;refine#[u,_,rfl,.inr (OP eu),rfl,rfl,_,rfl,?_];have ei:(if false=true then !inV Ă [.str "move",.str "write",.str "mark",.str "due",.str "fold"]else inV Ă [.str "move",.str "write",.str "mark",.str "due",.str "fold"])=iD L[k].2.2.2:=AJ _;rw[ei];have S5:=S4.trans wu;have eod5:=wu _ _ eod4;have ns5:=ns4.ts (OO wu);have ek:Æ[k]?=some L[k].2:=by rw[Zy,Ze hk];rfl
  have ej:ovJ Æ k=if iD L[k].2.2.2=true then(((L.drop ý).map Prod.snd).find? λe=>gj e L[k].2).map nm3 else none:=by unfold ovJ;rw[ek,List.map_drop]
  have kept:∀{H':Hp},Same H5 H'->ovJ Æ k=none->∀j (hj:Ġ),look ov ć=if j<k+1 then ovJ Æ j else none:=λ_ e j hj=>by
   rw[hlk j hj];by_cases c1:j<k
   .rw[Ox c1,Ox ∅]
   .rw[Ow c1];by_cases c2:j=k
    .subst c2;rw[Ox ∅,e]
    .rw[Ow ∅]
  cases cf:iD L[k].2.2.2 with
  |false =>rw[cf,Ow ⋯]at ej;exact aC (hDE _ _ #[S5,kvs,ov,_,_,_,eod5,ns5,∅,kept ĳ ej,hno,rfl])
  |true =>
   rw[cf,Ox rfl]at ej;refine aQ ?_;refine aB λR hR=>?_;refine#[_,rfl,_,rfl,_,_,rfl,rfl,_,rfl,l,_,rfl,OQ (S5 _ _ hl),λpc gpc=>#[pc,rfl,#[_,OQ ac],?_]];have ecut:=Ed L k;dsimp only;rw[ecut];have wpc:=ad gpc é;have epc:upd H5 pc é pc=some é:=ac;have S6:=S5.trans wpc;have eod6:=wpc _ _ eod5;have ns6:=ns5.ts (OO wpc);generalize upd H5 pc é=H6 at epc S6 eod6 ns6 ⊢;refine bz (xs:=aH Å) (λi zs H'=>Same H6 H'/\ó<=i/\zs=aH (((L.drop ý).take i).filter λy=>gj y.2 L[k].2)) (by rw[aG,YL];omega) Ě #[Same.refl _,Zi _,rfl] (λi zs H' z=>OQ (z.1 _ _ epc)) ?_ ?_
   .rintro i zs H' v hv ⟨sm,lz,ez⟩ Yq0 hY;exists[hi,rfl],cC hv;have hy:Å[i]∈L:=List.mem_of_mem_drop (ZG hi);generalize hyy:Å[i]=y at hy hv ⊢;have ti:(L.drop ý).take ň=(L.drop ý).take i++[y]:=cu (by rw[Ze hi,hyy]);have S7:=S6.trans sm;have dy:=(hL _ hy).ts (OO S7);have dk:=(hL _ hm).ts (OO S7);exists[cy,wy,y1,y2,y3,_],id dy;exists[ck,wk,k1,k2,k3,_],id dk;exists[ry,y5,y6],id y3;exists[rk,k5,k6],id k3;refine(vix rfl (OP y1) at2 #[_,rfl,wy,_,rfl,y5,λt1 H8 s8 e8=>?_]);refine(vix rfl (OP (s8 _ _ k1)) at2 #[_,rfl,wk,_,rfl,s8 _ _ k5,λt2 H9 s9 e9=>?_]);have s89:=s8.trans s9;have p3:=zj (r:=rk) cf (k6.ts Ē) e9;exists[dx,p1,p2,px],Es (r:=ry) (d:=L[k].2.2.2) (y6.ts Ē) (hn y hy).2 (s9 _ _ e8) cf;refine#[dx,_,p1,p3,p2,wV _,_,rfl,?_];rw[px];have drop:gj y.2 L[k].2=false->∀{H'':Hp},Same H' H''->Yq0 zs H'':=λeo {H''} s''=>hY _ _ #[sm.trans s'',∅,by rw[ti,Z6,Yf,Ow (by rw[eo];decide),List.filter_nil,ZF];exact ez];cases cs:lU y.2.2.2 L[k].2.2.2 with
    |false=>exact aC (aC (drop (by unfold gj;rw[cs];rfl) s89))
    |true =>
     refine aQ ?_;refine#[_,rfl,_,rfl,y.1,L[k].1,y.2,L[k].2,rfl,dy.ts Ē,dk.ts Ē,by rw[(hn y hy).1,(hn _ hm).1],λHA sA=>#[_,rfl,?_]];cases ca:dU y.2 L[k].2 with
     |false=>exact aC (drop (by unfold gj;rw[ca,YN]) ī)
     |true =>refine aQ (#[_,rfl,hY _ _ #[sm.trans ī,by rw[Zf];exact ZP lz,?_]]);rw[ti,Z6,Yf,Ox (by show gj y.2 L[k].2=true;unfold gj;rw[cs,ca];rfl),List.filter_nil,ez];unfold aH;rw[ZA];rfl
   .rintro zs lt H7 ⟨sm,lz,ez⟩ glt;rw[aG,ZC]at ez;have wlt:=ad glt È;have elt:upd H7 lt È lt=some È:=ac;have S8:=S6.trans Ĭ;have eod8:=wlt _ _ (sm _ _ eod6);have ns8:=ns6.ts (OO Ĭ);generalize upd H7 lt È=H8 at elt S8 eod8 ns8 ⊢;refine hR _ _ ?_;have ef:(((L.drop ý).map Prod.snd).find? λe=>gj e L[k].2)=(((L.drop ý).filter λy=>gj y.2 L[k].2).head?).map Prod.snd:=by rw[List.head?_filter,List.find?_map];rfl
    refine#[_,rfl,lt,_,rfl,.inl (OQ elt),_,_,rfl,rfl,_,rfl,?_];cases hF:(L.drop ý).filter (λy=>gj y.2 L[k].2)with
    |nil =>rw[hF]at ez ef;subst ez;rw[ef]at ej;refine aC (hDE _ _ #[S8,kvs,ov,_,_,_,eod8,ns8,∅,λj hj=>kept ĳ ej j hj,hno,rfl])
    |cons y ys =>
     rw[hF]at ez ef;subst ez;have hy:y∈L:=by
      have:y∈(L.drop ý).filter λy=>gj y.2 L[k].2:=by rw[hF];exact Zn
      exact List.mem_of_mem_drop (ZH.mp this).1
     rw[ef]at ej;refine kT (λ_=>?_) (λz=>absurd (show(0:Int)<((aH (y::ys)).length:Int) by rw[aG,Zm];omega) z);have dy:=(hL _ hy).ts (OO S8);have dk:=(hL _ hm).ts (OO S8);have lkv:=bS ns8;refine#[_,rfl,lt,_,_,_,rfl,rfl,OQ elt,at0,_,_,rfl,dy.dd,λt1 H9 s9 e9=>?_];refine#[_,rfl,_,rfl,_,_,rfl,(dk.ts (OO s9)).dd,λt2 HA sA eA=>#[od,_,rfl,DPut.t (k:=nk ñ) (sA _ _ (s9 _ _ eod8)) eA (aU ∅),?_]];have s9A:=s9.trans sA;have td:TS HA (upd HA od (.dT (bj kvs (nk ñ) (.ref t1)))):=ky (s9A _ _ eod8);refine hDE _ _ #[cL (S8.trans s9A) god,_,aF ov ñ Ŕ,_,_,_,ac,NsAt.ts (fB (ns8.ts (OO s9A)) (n:=nm3 L[k].2) (it:=nm3 y.2) #[t1,rfl,sA _ _ e9]) td,by have:=dE ov ñ Ŕ;omega,λj hj=>?_,λm hm'=>by rw[ay,Ow λz=>hm' _ hm z.symm];exact hno m hm',rfl];rw[ay];by_cases c2:j=k
     .subst c2;rw[Ox rfl,Ox ∅,ej];rfl
     .have ne:nm3 L[j].2≠nm3 L[k].2:=by
       have p:=List.pairwise_iff_getElem.mp pw;rcases Nat.lt_or_ge j k with c|c
       .exact p j k hj hk c
       .exact λz=>p k j hk hj ∅ z.symm
      rw[Ow ne,hlk j hj];by_cases c1:j<k
      .rw[Ox c1,Ox ∅]
      .rw[Ow c1,Ow ∅]
 .rintro Y H3 ⟨S3,kvs,ov,o2,o3,o4,eod,hns,lov,hlk,hno,eY⟩;refine hR0 _ _ ?_;subst eY;rw[aG]at lov hlk;exact#[_,rfl,q od kvs ov H3 S3 eod hns (λj hj=>by rw[hlk j hj,Ox hj]) hno]
abbrev Rp:=Nm×Str×Option Nm
def RpAt(H:Hp)(v:V)(r:Rp):Prop:=∃(t:OC) (nv bv:V),v=.ref t/\H t=some (.tup [nv,.str r.2.1,bv])/\NameIs H nv İ/\UpAt H bv r.2.2
theorem RpAt.ts(x:RpAt H v r)(s:Ċ):RpAt H' v r:=by exists[t,nv,bv,h1,h2,h3,h4],x;exact#[t,nv,bv,h1,s _ _ h2,h3.ts' s,h4.ts s]
theorem uG{α β:Type}{R:α->β->Prop}{xs:List α}{ys:List β}(x:Paired R xs ys):∀{i:ğ} {b:β},ys[i]?=some b->∃a,xs[i]?=some a/\R a b:=by
 induction x with
 |nil=>intro i a h;simp at h
 |@cons p q _ _ r _ ih =>
  intro i a h;cases i with
  |zero=>cases h;exact#[p,rfl,r]
  |succ i=>exact ih h
def iq(acc:ė)(qs:List ķ):As Nm:=qs.foldl (λacc q=>aF acc q.1 q.2) acc
def dj(T:List Tk):List ķ:=T.filterMap λr=>r.2.2.map λb=>(r.1,b)
def eZ(T:List Tk):As Nm:=iq [] (dj T)
def cj(kp ov:ė)(ts:Ö)(n:Nm)(w:ŗ):Rp:=if w="off" then(n,"off",(look ts n).map λd=>d.1)else match look kp n with
 |some b=>(n,"kept",some b)
 |none=>match look ov n with
  |some b=>(n,"over",some b)
  |none=>(n,w,none)
def iN(kp ov:ė)(ts:Ö)(Z:ę):List Rp:=Z.map λz=>cj kp ov ts ļ z.2
def xf(w:ŗ):Bool:=decide (w="done")
def cE(Z:ę):L3:=(Z.filter λz=>xf z.2).map Prod.fst
def OvR(D:List D3)(ov:ė):Prop:=(∀(j:ğ) (d:D3),D[j]?=some d->look ov (nm3 d)=ovJ D j)/\∀n,(∀d∈D,nm3 d≠n)->look ov n=none
theorem Df{w:ŗ}(p:Í):w≠"off":=by
 cases p with
 |none=>decide +kernel
 |take=>split<;>decide +kernel
 |back=>split<;>decide +kernel
 |top _=>decide +kernel
 |step _ _ wr=>cases wr<;>decide +kernel
theorem Fs{ts:Ö}(h:Ĝ):∀(i:ğ) (d:Dd) (r:bh),ds[i]?=some d->rs[i]?=some r->r.2.1="off"->∃dd,look ts d.1=some dd:=by
 induction h with
 |nil=>intro i d r h;simp at h
 |@off ol d0 ds rs c _ ih =>
  intro i d r h1 h2 h3;cases i with
  |zero =>
   cases h1;cases e:look ts d0.1 with
   |some dd=>exact#[dd,rfl]
   |none =>unfold cD at c;rw[e]at c;have c':(!d0.2.isTurn&&false)=true:=c;rw[YN]at c';cases c'
  |succ i=>exact ih i d r h1 h2 h3
 |turn _ _ _ ih =>
  intro i d r h1 h2 h3;cases i with
  |zero =>cases h2;dsimp only at h3;split at h3<;>exact absurd h3 ⋯
  |succ i=>exact ih i d r h1 h2 h3
 |play _ _ p _ ih =>
  intro i d r h1 h2 h3;cases i with
  |zero =>cases h2;exact absurd h3 (Df p)
  |succ i=>exact ih i d r h1 h2 h3
def PrN(H:Hp)(v:V)(q:ķ):Prop:=∃(t b:OC) (bv:V),v=.ref t/\H t=some (.tup [.ref b,bv])/\H b=some (.tup ((nk q.1).map kV))/\NameIs H bv (nk q.2)
theorem PrN.ts(x:PrN H v q)(s:Ċ):PrN H' v q:=by exists[t,b,bv,h1,h2,h3,h4],x;exact#[t,b,bv,h1,s _ _ h2,s _ _ h3,h4.ts' s]
theorem Dj(x:Paired (PrN H) zs qs):∃ps,Paired (vY H) zs ps/\Paired É ps qs:=by
 induction x with
 |nil=>exact#[[],.nil,.nil]
 |@cons v q _ _ h _ ih =>exists[ps,i1,i2],ih;exists[t,b,bv,rfl,h2,h3,h4],h;exact#[(nk q.1,bv)::ps,.cons #[t,b,rfl,h2,h3] i1,.cons #[rfl,h4] i2]
theorem Ka(x:Paired É ps qs):∀{kvs:OT} {acc:ė},NsAt H kvs acc->NsAt H (bI kvs ps) (iq acc qs):=by
 induction x with
 |nil=>intro kvs acc a;exact a
 |@cons p q ps qs h _ ih =>intro kvs acc a;show NsAt H (bI (bj kvs p.1 p.2) ps) (iq (aF acc q.1 q.2) qs);rw[h.1];exact ih (fB a h.2)
inductive spReportG  (vs:OU)(H:Hp)(Q:VK)(E_:XK):Prop
 |mk (l:OC) (L:L3) (W:List Str) (n:ğ) (Φ:Ol->Prop) (h0:ō) (h1:LR3 H l L) (h2:Tkn L W n Φ) (h3:∀ol ov a ys H',Φ ol->OvR ą ov->Same H H'->H' a=some (.lst ys)->Paired ŕ ys (iN (eZ (aX ol Ì)) ov Ù Ã)->Q ē H'):spReportG  vs H Q E_
abbrev lA:Stmt:=top 41
abbrev yt:List Str:=["ready","words","turns","kept","over","report","name","word"]
theorem cQ:FnScope yt ["ready"] (aq lA):= ~~~0
theorem xF(F:Fun K "report_of" "report_of" lA f fd)(j8:↑Fn 8 "words_of" ["ready"] spWords)(i8:↑Fn 2 "last_turns" ["ready"] spLast)(b9:↑Fn 9 "takings_of" ["ready"] spTakings)(Ni:↑Fn 4 "overs_of" ["done"] spOvers)(a6:ï)(Nf:mg "dict" = none)(i9:mg "zip" = none):↑FnOk CX0 10 f fd ["ready"] spReportG:=by
 exists cQ
 exists[l,L,W,n,Φ,rfl,lr,T,q],h;have ll:(aR L).length=L.length:=Zd ..;have l1:=T.len;exists _,(b_c (aA (i:=1) Ď (aI j8 ↑99 Ü))
   (b_c (aA (i:=2) Ď (aI i8 ↑99 Ü))
   (b_c (aA (i:=3) Ď (mU (yU rfl Ç) Nf uh (q_a (de (own:=["name","item","by"]) Û rfl (bD (aI b9 ↑99 Ü)) (λ_ _ _ _=>hJ (K:=K) (n:=3) rfl rfl (bC (aw (i:=0) (show (["name","item","by"]:List Str).Nodup by decide)) (bC (aw (i:=1) (show (["name","item","by"]:List Str).Nodup by decide)) (bC (aw (i:=2) (show (["name","item","by"]:List Str).Nodup by decide)) fj)))) (hM (bp (aM ⋯) aO Ñ (bR aO (bR aO bE)))) (λ_ _ _ _=>(kQ (aE iR ↑2 bX))) (λ_ _ _ _=>(aD (q_a ↑0 (q_a ↑2 ah))))) ah)))
   (b_c (aA (i:=4) Ď (aI Ni ↑99 (q_a (de (own:=["deed","named"]) Û rfl (lJ i9 ÿ) (λ_ _ _ _=>hJ (K:=K) (n:=2) rfl rfl (bC (aw (i:=0) (show (["deed","named"]:List Str).Nodup by decide)) (bC (aw (i:=1) (show (["deed","named"]:List Str).Nodup by decide)) fj))) (hM Ñ) (λ_ _ _ _=>(kQ (aE bO (am (iw (K:=K) rfl) ↑1 ai) ar))) Ğ) ah)))
   (b_c (aA (i:=5) Ď (bA ah))
   (b_c (dG ZT rfl (bD ↑1) (jl rfl (bC (aw (i:=6) Ď) (bC (aw (i:=7) Ď) fj))) (b_1 (aT (aE bO ↑7 ar) (b_1 (bu (fL ↑5 (aD (q_a ↑6 (q_a ar (q_a (aI a6 ↑99 (q_a (cg Ç ↑2 ↑6) ah)) ah))))))) (b_1 (aT (Bw Ç ↑6 ↑3) (b_1 (bu (fL ↑5 (aD (q_a ↑6 (q_a ar (q_a (cg Ç ↑3 ↑6) ah))))))) (b_1 (aT (Bw Ç ↑6 ↑4) (b_1 (bu (fL ↑5 (aD (q_a ↑6 (q_a ar (q_a (cg Ç ↑4 ↑6) ah))))))) (b_1 (bu (fL ↑5 (aD (q_a ↑6 (q_a ↑7 (q_a bX ah))))))))))))))
   (b_1 (ax ↑5))))))))
 refine aB λR0 hR0=>?_;refine#[_,rfl,l,aH L,aR L,rfl,lr.1,lG lr.2,∅,T.safe,λa ys rs H1 s1 ea pr run=>hR0 _ _ ?_];exists[hW,hN],T.words rs run;have lrs:rs.length=L.length:=by rw[jB run,ll]
 have lys:Ő=L.length:=by rw[Zv pr,lrs]
 have lW:W.length=L.length:=by rw[<-hW,Zd,lrs]
 have lzw:(L.zip W).length=L.length:=by rw[List.length_zip,lW,Nat.min_self]
 have lr1:=lr.same s1;refine aB λR0 hR0=>?_;refine#[_,rfl,l,aH L,aR L,rfl,lr1.1,lG lr1.2,∅,λta tvs H2 s2 hta hts=>hR0 _ _ ?_];have lr2:=lr1.same s2;refine aB λR0 hR0=>?_;refine#[_,rfl,l,L,W,n,Φ,rfl,lr2,T,λol a3 vs3 H3 hol s3 ea3 pk=>#[a3,rfl,#[_,OQ ea3],?_]];have lvs:vs3.length<=63:=by
  rw[Zv pk];have:=rR ol Ì Ì;rw[Zd]at this;have h2:(aZ Ã).length<=(L.zip W).length:=by unfold aZ;rw[Zd];exact ZX ..
  exact Zs this ∅
 have q':=λov a ys H'=>q ol ov a ys H' hol;generalize aX ol Ì=TK at pk q';refine bz (xs:=vs3) (λi zs H'=>Same H3 H'/\ó<=i/\Paired (PrN H') zs (dj Ľ)) ∅ Ě #[Same.refl _,Zi _,.nil] (λi zs H' z=>OQ (z.1 _ _ ea3)) ?_ ?_
 .rintro i zs H' v hv ⟨sm,lz,pz⟩ Yq0 hY;exists[r,hri,t,nv,iv,bv,rfl,e1,e2,e3,e4],aP pk hv;have et:dj (TK.take ň)=dj Ľ++dj [r]:=by rw[cu hri];unfold dj;rw[List.filterMap_append]
  have tm:=OO sm;refine#[t,[nv,iv,bv],rfl,OP ľ,rfl,nv,_,rfl,iv,_,rfl,bv,_,rfl,rfl,?_];exists[nb,rfl,hnb],id e2;cases hb:r.2.2 with
  |none =>rw[hb]at e4;obtain rfl:bv=.non:=e4;refine#[_,rfl,rfl,_,rfl,mO rfl (hY _ _ #[sm,∅,?_])];rw[et,show dj [r]=[]from by unfold dj;rw[List.filterMap_cons,hb];rfl,ZF];exact pz
  |some b =>rw[hb]at e4;exists[bb,rfl,hbb],id e4;refine#[_,rfl,rfl,_,rfl,mM nofun ?_];refine#[_,rfl,_,rfl,sz rfl,λtp gtp=>?_];have wtp:=ad gtp (.tup [.ref nb,.ref bb]);refine hY _ _ #[sm.trans wtp,by rw[Zf];exact ZP lz,?_];rw[et,show dj [r]=[(r.1,b)]from by unfold dj;rw[List.filterMap_cons,hb];rfl];exact y7 (Paired.mapP pz λ_ _ (z:PrN _ _ _)=>z.ts (OO wtp)) #[tp,nb,.ref bb,rfl,ac,wtp _ _ (sm _ _ hnb),bb,rfl,wtp _ _ (sm _ _ hbb)]
 rintro zs pk4 H4 ⟨s4,lz,pz⟩ gpk;rw[Zv pk,ZC]at pz;have w4:=ad gpk È;exists[ps,ip1,ip2],Dj (Paired.mapP pz λ_ _ (z:PrN _ _ _)=>z.ts (OO w4));refine#[pk4,zs,ps,rfl,ac,ip1,∅,λkd gkd=>?_];have w5:=ad gkd Ï;have ekd:upd å kd Ï kd=some Ï:=ac;have hkp:NsAt ĭ (bI [] ps) (eZ TK):=(Ka ip2 .nil).ts (OO w5);have s25:Same H2 ĭ:=s3.trans (s4.trans (w4.trans w5));generalize bI [] ps=kvk at ekd hkp s25 ⊢;generalize upd å kd (.dT kvk)=H5 at ekd hkp s25 ⊢;generalize eZ TK=kp at hkp q';refine hR0 _ _ ?_;have s15:=s2.trans s25;have lr5:=lr1.same s15;have ea5:=s15 _ _ ea;have pr5:=Paired.mapP pr λ_ _ (z:ġ)=>z.ts (OO s15);have hta5:=s25 _ _ hta;have hts5:TsAt H5 tvs Ù:=Paired.mapP hts λ_ _ z=>#[z.1,z.2.ts (OO s25)]
 have hwi:∀(i:ğ) (r:bh),rs[i]?=some r->∃hi:i<L.length,W[i]?=some r.2.1/\r.1=nm3 L[i].2:=λi r hri=>by
  have hi:i<L.length:=by have:=(Zu.mp hri).1;omega
  refine#[hi,?_,?_]
  .rw[<-hW,Zy,hri];rfl
  .have h:=Z2 (λl=>l[i]?) hN;simp only[Zy,aR,hri,Ze hi,Option.map_some,Xf]at h;exact h
 refine aB λR0 hR0=>?_;refine#[_,rfl,_,rfl,l,a,_,_,rfl,OQ lr5.1,OQ ea5,by rw[aG,lys],?_];refine kC (N:=(aH L).length) (λi zs H'=>Same H5 H'/\ó<=i/\zs=aH (cE Ë)) (by rw[aG];omega) (λi zs _ z=>z.2.1) #[Same.refl _,Zi _,rfl] (λi zs H' hi z=>#[hi,OQ ĩ,OQ Ĵ]) (λzs H' z=>#[rfl,OQ ĩ,OQ Ĵ]) ?_ ?_
 .rintro i zs H' x H6 hi ⟨sm,lz,rfl⟩ ⟨T',p,y,hT,hp,hy,rfl,rfl⟩ Yq0 hY;have wT:=ad hT (.tup [p,y]);exists[r,hri,t,nv,rfl,e1,e2],aP pr5 hy;exists[hiL,hw,_],hwi i r hri;exists[_,rfl],cC hp;have hz:Ã[i]?=some ò:=by rw[YQ];exact#[Ze hiL,hw]
  have et:cE à=cE Ë++cE [ò]:=by rw[cu hz];unfold cE;rw[Z6,ZA]
  refine#[T',_,rfl,OP ac,rfl,_,_,rfl,_,_,rfl,rfl,?_];refine(vix rfl (OP (wT _ _ ľ)) at1 #[rfl,_,rfl,?_]);by_cases c:r.2.1="done"
  .rw[c];refine cU #[_,rfl,hY _ _ #[sm.trans wT,by rw[Zf];exact ZP lz,?_]];rw[et,kM,c];rfl
  .refine aL (λz=>c ĵ) (hY _ _ #[sm.trans wT,∅,?_]);rw[et,kM];have:cE [ò]=[]:=by unfold cE xf;simp[c]
   rw[this];exact(ZF _).symm
 rintro zs pz H6 ⟨s6,lz,rfl⟩ gpz;have hzl:(aH L).length=(L.zip W).length:=by rw[aG,lzw]
 rw[hzl,ZC]at lz ⊢;have w6:=ad gpz (.lst (aH (cE Ã)));have lr6:=lr5.same (s6.trans w6);have mem:∀x∈cE Ã,x∈L:=λx hx=>by exists[z,h1,rfl],Zt.mp hx;exact(List.of_mem_zip (ZH.mp h1).1).1
 have pwL:L.Pairwise λx y=>nm3 x.2≠nm3 y.2:=by have:=T.nod;unfold aR at this;rw[Z4]at this;exact List.pairwise_map.mp this
 have pwD:(cE Ã).Pairwise λx y=>nm3 x.2≠nm3 y.2:=by
  have hs:(cE Ã).Sublist L:=by unfold cE;have h1:((L.zip W).filter λz=>xf z.2).Sublist Ã:=List.filter_sublist;have h2:=h1.map Prod.fst;rw[List.map_fst_zip ∅]at h2;exact h2
  exact pwL.sublist hs
 refine#[pz,cE Ã,n,rfl,ac,λx hx=>lr6.2 x Ŋ,λx hx=>T.cl x Ŋ,?_,pwD,λod kvs ov H7 s7 eod hns hlk hno=>?_]
 .rw[aG]at lz;omega
 have hov:OvR ą ov:=by refine#[λj d hd=>?_,λm hm=>hno m λx hx=>hm x.2 (Zt.mpr #[x,hx,rfl])];rw[Zy]at hd;exists[x,hx,rfl],Z1.mp hd;exists[hj,rfl],Zu.mp hx;exact hlk j hj
 have s57:Same H5 H7:=s6.trans (w6.trans s7);have q2:=λa ys H'=>q' ov a ys H' hov;have ekd7:=s57 _ _ ekd;have hkp7:=hkp.ts ı;have ea7:=s57 _ _ ea5;have hta7:=s57 _ _ hta5;have hts7:TsAt H7 tvs Ù:=Paired.mapP hts5 λ_ _ z=>#[z.1,z.2.ts ı]
 have pr7:=Paired.mapP pr5 λ_ _ (z:ġ)=>z.ts ı;have S7:Same H H7:=s1.trans (s15.trans s57);have offs:=Fs run;refine hR0 _ _ ?_;refine aB λR0 hR0=>?_;refine#[sz rfl,λrl grl=>?_];have w8:=ad grl ß;have S8:=S7.trans w8;have erl:upd H7 rl ß rl=some ß:=ac;have grl0:H rl=none:=S7.free grl;have ea8:=w8 _ _ ea7;have ekd8:=w8 _ _ ekd7;have hkp8:=hkp7.ts ģ;have eod8:=w8 _ _ eod;have ns8:=hns.ts ģ;have hta8:=w8 _ _ hta7;have hts8:TsAt (upd H7 rl ß) tvs Ù:=Paired.mapP hts7 λ_ _ z=>#[z.1,z.2.ts ģ]
 have pr8:=Paired.mapP pr7 λ_ _ (z:ġ)=>z.ts ģ;have nar:a≠rl:=λz=>by rw[z,grl]at ea7;cases ea7
 generalize upd H7 rl ß=H8 at S8 erl ea8 ekd8 hkp8 eod8 ns8 hta8 hts8 pr8 ⊢;refine hR0 _ _ ?_;generalize aJ ď=trn at hts8 offs q2;have ezr:∀i:Nat,iN kp ov trn Ë=((L.zip W).take i).map λz=>cj kp ov trn ļ z.2:=λ_=>rfl;refine aB λR0 hR0=>?_;refine#[_,rfl,a,rfl,#[_,OQ ea8],?_];refine eh (K:=K) (a:=a) (xs:=ys) (λi Y H'=>(∀b o,b≠rl->H8 b=some o->H' b=some o)/\∃(zs:OU) (o6 o7:Ę),H' rl=some È/\ó=i/\Paired ŕ zs (iN kp ov trn Ë)/\Y=[some đ,some ē,some Ĥ,some ĥ,some Ą,some Ħ,o6,o7])
  #[λb o _ e=>e,[],none,none,erl,rfl,.nil,rfl] (λi Y H' _ z=>OQ (z.1 _ _ nar ea8)) ?_ ?_
 .rintro i v Y H' hv ⟨kp8,zs,o6,o7,hrl,lz,pz,rfl⟩ DL hDL;have tp:TS H8 H':=λb ws e=>kp8 b _ (bw e erl nofun) e;exists[r,hri,t,nv,rfl,e1,nb,rfl,e2],aP pr8 hv;exists[hiL,hw,hn3],hwi i r hri;have hz:Ã[i]?=some ò:=by rw[YQ];exact#[Ze hiL,hw]
  have er:iN kp ov trn à=iN kp ov trn Ë++[cj kp ov trn r.1 r.2.1]:=by rw[cu hz];unfold iN;rw[ZA,hn3];rfl
  have nkr:kd≠rl:=bw ekd8 erl nofun;have nor:od≠rl:=bw eod8 erl nofun;have ntr:ta≠rl:=bw hta8 erl nofun;have n1:=kp8 _ _ nkr ekd8;have n2:=kp8 _ _ nor eod8;have n4:=kp8 _ _ ntr hta8;have n3:=ns8.ts tp;have n5:=hkp8.ts tp;have e2':=tp _ _ e2;have add:∀{H9:Hp} {tr:OC} {bv:V} {w0:ŗ} {u:ö},Same H' H9->H9 tr=some (.tup [.ref nb,.str w0,bv])->cj kp ov trn r.1 r.2.1=(r.1,w0,u)->UpAt H9 bv u->∀(R:St->Hp->Prop),(∀σ' H'',((∀b o,b≠rl->H8 b=some o->H'' b=some o)/\∃(zs:OU) (o6 o7:Ę),H'' rl=some È/\ó=i+1/\Paired (RpAt H'') zs (iN kp ov trn à)/\σ'=[some đ,some ē,some Ĥ,some ĥ,some Ą,some Ħ,o6,o7])->R σ' H'')->R [some đ,some ē,some Ĥ,some ĥ,some Ą,some Ħ,some (.ref nb),some (.str r.2.1)] î:=fun{H9 tr bv w0 u} s9 etr erp hu R hR=>by
   have tr9:TS H9 î:=iX λws e'=>by rw[s9 _ _ hrl]at e';cases e'
   refine hR _ _ #[λb o hb e=>by rw[af hb];exact s9 _ _ (kp8 b o hb e),zs++[.ref tr],_,_,ac,by rw[Zf,lz];rfl,?_,rfl];rw[er,erp];exact y7 (Paired.mapP pz λ_ _ (z:RpAt _ _ _)=>z.ts (TS.trans (OO s9) tr9)) #[tr,.ref nb,bv,rfl,tr9 _ _ etr,#[nb,rfl,tr9 _ _ (s9 _ _ e2')],hu.ts tr9]
  refine#[t,_,rfl,OP (tp _ _ e1),rfl,_,_,rfl,_,_,rfl,rfl,?_];refine#[_,rfl,rfl,_,rfl,?_];by_cases co:r.2.1="off"
  .have hdi:ď[i]?=some (toD L[i].2):=by unfold aR;rw[Zy,Ze hiL];rfl
   exists[dd,hdd],offs i _ r hdi hri co;have hdd':look trn r.1=some dd:=by rw[hn3];exact hdd
   have er1:cj kp ov trn r.1 r.2.1=(r.1,("off":Str),some dd.1):=by unfold cj;rw[Ox co,hdd'];rfl
   exists[dv,t1,t2],aY hts8 hdd';rw[show V.str r.2.1=V.str "off" from by rw[co]];refine cU ?_;refine#[_,rfl,.inl #[rfl,_,OQ hrl],_,rfl,_,rfl,_,rfl,ta,dv,rfl,t1▸DGet.t (k:=nk r.1) n4 e2',dv,dd,rfl,t2.ts tp,λtn H9 s9 e9=>#[sz rfl,λtr gtr=>#[rl,_,_,rfl,rfl,ad gtr _ _ _ (s9 _ _ hrl),aU ∅,?_]]];have wtr:=ad gtr (.tup [.ref nb,.str "off",.ref tn]);have:=add (s9.trans wtr) ac er1 #[tn,rfl,wtr _ _ e9] _ hDL;rw[co]at this;exact this
  refine aL (λz=>co ĵ) ?_;cases ck:look kp r.1 with
  |some b =>
   have er1:cj kp ov trn r.1 r.2.1=(r.1,("kept":Str),some b):=by unfold cj;rw[Ow co,ck]
   exists[bv,hb1,bb,rfl,hb2],aY n5 ck;refine#[_,rfl,_,rfl,kd,_,rfl,DGet.t (k:=nk r.1) n1 e2',_,rfl,?_];rw[hb1];refine aQ #[_,rfl,.inl #[rfl,_,OQ hrl],_,rfl,_,rfl,_,rfl,kd,.ref bb,rfl,hb1▸DGet.t (k:=nk r.1) n1 e2',sz rfl,λtr gtr=>#[rl,_,_,rfl,rfl,ad gtr _ _ _ hrl,aU ∅,?_]];exact add ĝ ac er1 #[bb,rfl,ad gtr _ _ _ hb2] _ hDL
  |none =>
  have hk':aW kvk İ=none:=iS n5 ck;refine#[_,rfl,_,rfl,kd,_,rfl,DGet.t (k:=nk r.1) n1 e2',_,rfl,?_];rw[hk'];refine aC ?_;cases cv:look ov r.1 with
  |none =>
   have er1:cj kp ov trn r.1 r.2.1=(r.1,r.2.1,none):=by unfold cj;rw[Ow co,ck,cv]
   have hv':aW kvs İ=none:=iS n3 cv;refine#[_,rfl,_,rfl,od,_,rfl,DGet.t (k:=nk r.1) n2 e2',_,rfl,?_];rw[hv'];refine aC #[_,rfl,.inl #[rfl,_,OQ hrl],_,rfl,_,rfl,sz rfl,λtr gtr=>#[rl,_,_,rfl,rfl,ad gtr _ _ _ hrl,aU ∅,?_]];exact add ĝ ac er1 rfl _ hDL
  |some m =>
   have er1:cj kp ov trn r.1 r.2.1=(r.1,("over":Str),some m):=by unfold cj;rw[Ow co,ck,cv]
   exists[bv,hb1,bb,rfl,hb2],aY n3 cv;refine#[_,rfl,_,rfl,od,_,rfl,DGet.t (k:=nk r.1) n2 e2',_,rfl,?_];rw[hb1];refine aQ #[_,rfl,.inl #[rfl,_,OQ hrl],_,rfl,_,rfl,_,rfl,od,.ref bb,rfl,hb1▸DGet.t (k:=nk r.1) n2 e2',sz rfl,λtr gtr=>#[rl,_,_,rfl,rfl,ad gtr _ _ _ hrl,aU ∅,?_]];exact add ĝ ac er1 #[bb,rfl,ad gtr _ _ _ hb2] _ hDL
 .rintro Y H' ⟨kp8,zs,o6,o7,hrl,lz,pz,rfl⟩;refine hR0 _ _ ?_;have:Ő=(L.zip W).length:=by rw[lys,lzw]
  refine#[_,rfl,q2 rl zs H' (λb o e=>kp8 b o (aj e grl0) (S8 _ _ e)) hrl ?_];rw[this,ZC]at pz;exact pz
def iI(n:Nm):Wd->List Nm
 |.put _ _ _=>[n]
 |.part m _ _=>[m,n]
 |.join m o=>[m,o]
 |.move m _ _=>[m]
 |.write m _=>[m]
 |.mark m _=>[m]
 |.due m _=>[m]
 |.fold m _=>[m]
 |.back m=>[m]
 |_=>[]
theorem qa(d:D3):br d=iI (nm3 d) d.2.2:=by exists[hn,cs,wd],d;cases wd<;>rfl
theorem jU{ts:Ö}:∀{ol ol':Ol} {rs rs':Ł},Eqo ol ol'->Runs ts tn ol ds rs->Runs ts tn ol' ds rs'->rs=rs':=by
 induction ds with
 |nil =>intro ol ol' rs rs' e h h';rw[tq h,tq h']
 |cons d ds ih =>
  intro ol ol' rs rs' e h h';cases c:cD d ts with
  |true =>exists[r1,rfl,x1],lT c h;exists[r2,rfl,x2],lT c h';rw[ih e x1 x2]
  |false =>
   cases c2:d.2.isTurn with
   |true =>exists[r1,rfl,x1],jT c c2 h;exists[r2,rfl,x2],jT c c2 h';rw[ih e x1 x2]
   |false =>exists[w,so,o1,r1,rfl,p1,x1],jS c c2 h;exists[w',so',o2,r2,rfl,p2,x2],jS c c2 h';exists[rfl,rfl,e2],jP e p1 p2;rw[ih e2 x1 x2]
theorem CD{β:Type}(f:β->β)(l:As β)(x:Nm):look (l.map λp=>(p.1,f p.2)) x=(look l x).map f:=by
 induction l with
 |nil=>rfl
 |cons p l ih =>
  rw[Zr];unfold look;by_cases c:p.1=x
  .rw[Ox c,Ox c];rfl
  .rw[Ow c,Ow c];exact ih
theorem Hw(hn:look ol n=some itn)(hm:look ol m=some itm):∃ol',JoinR ol n m itn itm ol':=by
 obtain⟨itm2,h2⟩:∃it,look (aF ol n { itn with tx:=Ń++ń }) m=some it:=by
  rw[ay];split
  .exact#[_,rfl]
  .exact#[_,hm]
 refine#[(aF (aF ol n { itn with tx:=Ń++ń }) m { itm2 with tx:="" }).map λp=>(p.1,dX n m p.2),?_,?_,itm2,h2,λx=>CD _ _ x]
 .rw[Zd,gU h2,gU hn]
 .rw[Z4];show(aF (aF ol n { itn with tx:=Ń++ń }) m { itm2 with tx:="" }).map (·.1)=_;rw[dh,Ox (by rw[h2];rfl),dh,Ox (by rw[hn];rfl)]
theorem LC(h:fN ol s):∃ol',Ap ol s ol':=by
 have g:∀n∈s.items,∃it,look ol n=some it:=λn hn=>Zw.mp (h n hn);cases s with
 |gone n=>exact#[_,.gone]
 |put=>exact#[_,.put]
 |move n u pl=>exists[it,e],g n À;exact#[_,.move e]
 |write n tx=>exists[it,e],g n À;exact#[_,.write e]
 |mark n b=>exists[it,e],g n À;exact#[_,.mark e]
 |due n b=>exists[it,e],g n À;exact#[_,.due e]
 |fold n b=>exists[it,e],g n À;exact#[_,.fold e]
 |part n a m pl=>exists[it,e],g n À;exact#[_,.part e]
 |join n m =>exists[it,e],g n À;exists[it2,e2],g m À;exists[ol',j],Hw e e2;exact#[_,.join e e2 j]
theorem zE{wd:Wd}(nt:ő=false)(rd:∀s,gM n wd=some s->Ready ol s):∃w so ol',PlayR ol n wd w so ol':=by
 rcases yr (n:=n) nt with rfl|⟨m,rfl|rfl⟩|⟨s,hs⟩
 .exact#[_,_,_,.none]
 .exact#[_,_,_,.take]
 .exact#[_,_,_,.back]
 .cases ct:vF ol wd with
  |true =>
   cases wd with
   |put u pl tx =>
    cases u with
    |none=>cases ct
    |some m =>
     have:look ol m=none:=by
      have z:(!(look ol m).isSome)=true:=ct;cases e:look ol m with
      |none=>rfl
      |some it=>rw[e]at z;cases z
     exact#[_,_,_,.top this]
   |_=>cases ct
  |false =>
   have r:=rd s hs;by_cases hh:fN ol s
   .exists[b,hb],r.bd hh;rcases b with _|_|_
    .exists[ol',ap],LC hh;exact#[_,_,_,.step hs ct (.done hh hb ap)]
    .exact#[_,_,_,.step hs ct (.far hh hb)]
    .exact#[_,_,_,.step hs ct (.beneath hh hb)]
   .exact#[_,_,_,.step hs ct (.none hh)]
def gE(ts:Ö):Ol->List Dd->Ol->Prop
 |ol,[],e=>e=ol
 |ol,d::ds,e=>(õ->gE ts ol ds e)/\(cD d ts=false->d.2.isTurn=false->∃w so ol',PlayR ol d.1 d.2 w so ol'/\gE ts ol' ds e)
theorem lH{ts:Ö}:∀{ds:Ê} {ol ol' e e':Ol},Eqo ol ol'->gE ts ol ds e->gE ts ol' ds e'->Eqo e e'
 | [],ol,ol',e,e',q,h,h'=>by have h1:e=ol:=h;have h2:e'=ol':=h';rw[h1,h2];exact q
 |d::ds,ol,ol',e,e',q,h,h'=>by
  cases c:cD d ts with
  |true=>exact lH q Ĕ (h'.1 â)
  |false =>
   cases c2:d.2.isTurn with
   |true=>exact lH q ĕ (h'.1 Ô)
   |false =>exists[w,so,o1,p1,x1],h.2 c c2;exists[w',so',o2,p2,x2],h'.2 c c2;exact lH (jP q p1 p2).2.2 x1 x2
theorem mF{ts:Ö}(c:õ)(h:gE ts ol ds e):gE ts ol ô e:=#[λ_=>h,λz1 z2=>by
 rcases c with c|c
 .rw[c]at z1;cases z1
 .rw[c]at z2;cases z2]
theorem qj{ts:Ö}{w:ŗ}(c:cD d ts=false)(c2:d.2.isTurn=false)(p:PlayR ol d.1 d.2 w so ol')(h:gE ts ol' ds e):gE ts ol ô e:=by
 refine#[λz=>?_,λ_ _=>#[w,so,ol',p,h]];rcases z with z|z
 .rw[c]at z;cases z
 .rw[c2]at z;cases z
theorem uH{w:ŗ}(p:Í):(so=none/\ol'=ol)\/∃s,so=some s/\fN ol s/\Bd ol s none/\Ap ol s ol'/\(∀x∈s.news,x=n/\wd.mk=true)/\∀o2,Ap ol s o2->PlayR ol n wd w so o2:=by
 cases p with
 |none=>exact .inl #[rfl,rfl]
 |take=>exact .inl #[rfl,rfl]
 |back=>exact .inl #[rfl,rfl]
 |@top m pl tx hm=>exact .inr #[_,rfl,λx hx=>by simp[Sd.items]at hx,.put,.put,λx hx=>#[by simpa[Sd.news]using hx,rfl],λo2 ap=>by cases ap;exact .top hm]
 |@step _ s w _ hs ht wr =>
  cases wr with
  |none _=>exact .inl #[by rw[Ow ⋯],rfl]
  |beneath _ _=>exact .inl #[by rw[Ow ⋯],rfl]
  |far _ _=>exact .inl #[by rw[Ow ⋯],rfl]
  |done hh hb ap =>
   refine .inr #[s,by rw[Ox rfl],hh,hb,ap,λx hx=>?_,λo2 ap2=>.step hs ht (.done hh hb ap2)];rw[ma hs]at hx;by_cases c:wd.mk=true
   .rw[Ox c]at hx;exact#[Zh.mp hx,c]
   .rw[Ow c]at hx;cases hx
structure Gd(G:Ol->List Dd->Prop):Prop where
 skip:∀{ol:Ol} {d:Dd} {ds:Ê},G ol ô->G ol ds
 play:∀{ol ol':Ol} {d:Dd} {ds:Ê} {w:ŗ} {so:Option Sd},G ol ô->PlayR ol d.1 d.2 w so ol'->G ol' ds
 small:∀{ol:Ol} {d:Dd} {ds:Ê},G ol ô->Small ol
 new:∀{ol:Ol} {d:Dd} {ds:Ê},G ol ô->d.2.mk=true->look ol d.1=none
 ready:∀{ol:Ol} {d:Dd} {ds:Ê},G ol ô->∀s,gM d.1 d.2=some s->Ready ol s
 ter:∀{ol:Ol} {ds:Ê},G ol ds->Ter ol
theorem gJ(gd:Ķ){ts:Ö}:∀{ds:Ê} {ol:Ol},G ol ds->∃rs,Runs ts tn ol ds rs
 | [],_,_=>#[[],.nil]
 |d::ds,ol,g=>by
  cases c:cD d ts with
  |true =>exists[rs,h],gJ gd (ts:=ts) (tn:=tn) Ä;exact#[_,.off c h]
  |false =>
   cases c2:d.2.isTurn with
   |true =>exists[rs,h],gJ gd (ts:=ts) (tn:=tn) Ä;exact#[_,.turn c c2 h]
   |false =>exists[w,so,ol',p],zE c2 Ĉ;exists[rs,h],gJ gd (ts:=ts) (tn:=tn) ā;exact#[_,.play c c2 p h]
theorem vH(gd:Ķ){ts:Ö}:∀{ds:Ê} {ol:Ol},G ol ds->gF ts ol ds
 | [],_,_=>trivial
 |d::ds,ol,g=>by
  cases c:cD d ts with
  |true=>exact uJ â ŋ
  |false =>
   cases c2:d.2.isTurn with
   |true=>exact uJ Ô ŋ
   |false=>exact Dy c c2 (gd.small g) Ĉ λw so ol' p=>vH gd ā
theorem gS(gd:Ķ){ts:Ö}{Φ:Ol->Prop}:∀{ds:Ê} {ol:Ol} {rs:Ł},G ol ds->Runs ts tn ol ds rs->(∀e,gE ts ol ds e->Φ e)->iK Φ ol ((bG rs).map Prod.snd)
 | [],ol,rs,g,r,h=>by rw[tq r];exact h _ rfl
 |d::ds,ol,rs,g,r,h=>by
  cases c:cD d ts with
  |true =>exists[r1,rfl,x1],lT c r;show iK Φ ol á;exact gS gd Ä x1 λe he=>h e (mF â he)
  |false =>
   cases c2:d.2.isTurn with
   |true =>exists[r1,rfl,x1],jT c c2 r;show iK Φ ol á;exact gS gd Ä x1 λe he=>h e (mF Ô he)
   |false =>
    exists[w,so,o1,r1,rfl,p1,x1],jS c c2 r;rcases uH p1 with⟨rfl,rfl⟩|⟨s,rfl,hh,hb,ap,nw,again⟩
    .show iK Φ _ á;exact gS gd Į x1 λe he=>h e (qj c c2 p1 he)
    .show iK Φ ol (s::(bG r1).map Prod.snd);refine#[gd.small g,λx hx=>?_,hh,hb,λo2 ap2=>?_]
     .exists[rfl,hm],nw x hx;exact gd.new g hm
     .have p2:=again o2 ap2;exists[r2,x2],gJ gd (ts:=ts) (tn:=tn) ê;obtain rfl:=jU (jP þ p1 p2).2.2 x1 x2;exact gS gd ê x2 λe he=>h e (qj c c2 p2 he)
theorem Du{ts:Ö}(h:Ĝ):rs.map (λr:bh=>r.1)=ds.map Prod.fst:=by
 induction h with
 |nil=>rfl
 |off _ _ ih=>rw[Zr,Zr,ih]
 |turn _ _ _ ih=>rw[Zr,Zr,ih]
 |play _ _ _ _ ih=>rw[Zr,Zr,ih]
theorem oK(h:Þ):(look (aF ol n it) x).isSome=true:=by
 rw[ay];split
 .rfl
 .exact h
theorem sq(ap:Ap ol s ol')(x:Nm)(h:Þ):(look ol' x).isSome=true:=by
 cases ap with
 |join hn hm j =>exists[it,e],Zw.mp h;exists[i,e1,_],(kK hn hm j).2 x it e;rw[e1];rfl
 |gone=>exact h
 |part=>exact oK (oK h)
 |_=>exact oK h
theorem De{w:ŗ}(p:Í)(x:Nm)(h:Þ):(look ol' x).isSome=true:=by
 rcases uH p with⟨_,rfl⟩|⟨s,_,_,_,ap,_⟩
 .exact h
 .exact sq ap x h
theorem kL:ba "none" = false:=⋯
theorem nX:ba "beneath" = false:=⋯
theorem xq:ba "far" = false:=⋯
theorem nY:ba "done" = true:=⋯
theorem Bz{w:ŗ}(p:Í)(hw:ba w=true):∀x∈iI n wd,(look ol' x).isSome=true:=by
 cases p with
 |none=>intro x hx;cases hx
 |take=>intro x hx;cases hx
 |@back m =>
  intro x hx;rw[Zh.mp hx];by_cases c:(look ol m).isSome=true
  .exact c
  .rw[Ow c,kL]at hw;cases hw
 |top _ =>intro x hx;rw[Zh.mp hx,ay,Ox rfl];rfl
 |@step _ s w _ hs ht wr =>
  cases wr with
  |none _=>rw[kL]at hw;cases hw
  |beneath _ _=>rw[nX]at hw;cases hw
  |far _ _=>rw[xq]at hw;cases hw
  |done hh hb ap =>
   have mono:=sq ap;cases wd with
   |put u pl tx =>cases hs;cases ap;intro x hx;rw[Zh.mp hx,ay,Ox rfl];rfl
   |part m a pl =>
    cases hs;intro x hx;rcases Zg.mp hx with rfl|hx
    .exact mono _ Õ
    .rw[Zh.mp hx];cases ap with
     |part hl =>rw[ay,Ox rfl];rfl
   |join m o =>
    cases hs;intro x hx;rcases Zg.mp hx with rfl|hx
    .exact mono _ Õ
    .rw[Zh.mp hx];exact mono _ Õ
   |move m u pl=>cases hs;intro x hx;rw[Zh.mp hx];exact mono _ Õ
   |write m tx=>cases hs;intro x hx;rw[Zh.mp hx];exact mono _ Õ
   |mark m tx=>cases hs;intro x hx;rw[Zh.mp hx];exact mono _ Õ
   |due m tx=>cases hs;intro x hx;rw[Zh.mp hx];exact mono _ Õ
   |fold m tx=>cases hs;intro x hx;rw[Zh.mp hx];exact mono _ Õ
   |_=>cases hs
theorem qP(gd:Ķ){ts:Ö}:∀{ds:Ê} {ol e:Ol},G ol ds->gE ts ol ds e->G e []
 | [],ol,e,g,h=>by have h1:e=ol:=h;rw[h1];exact g
 |d::ds,ol,e,g,h=>by
  cases c:cD d ts with
  |true=>exact qP gd Ä Ĕ
  |false =>
   cases c2:d.2.isTurn with
   |true=>exact qP gd Ä ĕ
   |false =>exists[w,so,o1,p1,x1],h.2 c c2;exact qP gd Į x1
theorem oX(gd:Ķ){ts:Ö}:∀{ds:Ê} {ol:Ol},G ol ds->∃e,gE ts ol ds e
 | [],ol,_=>#[ol,rfl]
 |d::ds,ol,g=>by
  cases c:cD d ts with
  |true =>exists[e,h],oX gd (ts:=ts) Ä;exact#[e,mF â h]
  |false =>
   cases c2:d.2.isTurn with
   |true =>exists[e,h],oX gd (ts:=ts) Ä;exact#[e,mF Ô h]
   |false =>exists[w,so,ol',p],zE c2 Ĉ;exists[e,h],oX gd (ts:=ts) ā;exact#[e,qj c c2 p h]
theorem jF{ts:Ö}:∀{ds:Ê} {ol e:Ol},gE ts ol ds e->(look ol x).isSome=true->(look e x).isSome=true
 | [],ol,e,h,hx=>by have h1:e=ol:=h;rw[h1];exact hx
 |d::ds,ol,e,h,hx=>by
  cases c:cD d ts with
  |true=>exact jF Ĕ hx
  |false =>
   cases c2:d.2.isTurn with
   |true=>exact jF ĕ hx
   |false =>exists[w,so,o1,p1,x1],h.2 c c2;exact jF x1 (De p1 x hx)
theorem BA{wd:Wd}(h:ő=true):iI n wd=[]:=by cases wd<;>first|rfl|cases h
theorem xt:ba "off" = false:=⋯
theorem io(gd:Ķ){ts:Ö}:∀{ds:Ê} {ol e:Ol} {rs:Ł},G ol ds->Runs ts tn ol ds rs->gE ts ol ds e->∀z∈ds.zip rs,ba z.2.2.1=true->∀x∈iI z.1.1 z.1.2,(look e x).isSome=true
 | [],ol,e,rs,g,r,h=>by intro z hz;cases hz
 |d::ds,ol,e,rs,g,r,h=>by
  cases c:cD d ts with
  |true =>
   exists[r1,rfl,x1],lT c r;intro z hz hl x hx;rcases Zg.mp hz with rfl|hz
   .have hl':ba "off" = true:=hl;rw[xt]at hl';cases hl'
   .exact io gd Ä x1 Ĕ z hz hl x hx
  |false =>
   cases c2:d.2.isTurn with
   |true =>
    exists[r1,rfl,x1],jT c c2 r;intro z hz hl x hx;rcases Zg.mp hz with rfl|hz
    .have hx':x∈iI d.1 d.2:=hx;rw[BA c2]at hx';cases hx'
    .exact io gd Ä x1 ĕ z hz hl x hx
   |false =>
    exists[w,so,o1,r1,rfl,p1,x1],jS c c2 r;exists[w',so',o2,p2,x2],h.2 c c2;have e12:=(jP þ p1 p2).2.2;exists[r2,y2],gJ gd (ts:=ts) (tn:=tn) ê;obtain rfl:=jU e12 x1 y2;intro z hz hl x hx;rcases Zg.mp hz with rfl|hz
    .refine jF x2 ?_;rw[<-e12 x];exact Bz p1 hl x hx
    .exact io gd ê y2 x2 z hz hl x hx
theorem Mv(gd:Ķ){n:ğ}(g0:G [] ď)(ln:ŀ)(nod:((aR L).map Prod.fst).Nodup)(cl:è)(run:Runs Ù (bo ď) [] ď rs)(he:gE Ù [] ď e):Tkn L (rs.map λr:bh=>r.2.1) n (Eqo e):=by
 refine#[∅,vH gd g0,nod,λr' h=>?_,λr' h=>?_,cl,λol hol x hx t ht it hit=>?_]
 .obtain rfl:=jU þ run h;exact#[rfl,Du run]
 .exact gS gd g0 h λe' he'=>lH þ he he'
 .exists[z,hz,rfl],Zt.mp hx;exists[hz1,hz2],ZH.mp hz;rw[List.zip_map_right]at hz1;obtain⟨⟨x,r⟩,hxr,rfl⟩:=Zt.mp hz1;have hm:(toD x.2,r)∈(aR L).zip rs:=by unfold aR;rw[List.zip_map_left];exact Zt.mpr #[(x,r),hxr,rfl]
  intro y hy;have hy':y∈iI (toD x.2).1 (toD x.2).2:=by have:=hy;rw[qa]at this;exact this
  have held:=io gd g0 run he _ hm hz2 y hy';exists[i,ei],Zw.mp held;exists[k,c],gd.ter (qP gd g0 he) y i ei;exists[k',b,un],yk c it;exact#[k',b,mh hol un]
abbrev lf:Str:=(("Plain.sorted_names":Str)++".<locals>.")++"<lambda>"
def MZ:Stmt->OM
 |.Return (some e) _=>e
 |_=>.Name "" #[0,0,0,0]
def MT:OM->OM
 |.Call _ _ (k::_) _=>k.value
 |e=>e
def MR:OM->OM
 |.Lambda _ b _ _=>b
 |e=>e
def MU:OM->Scope
 |.Lambda _ _ s _=>s
 |_=>default
def mQ:OM->Pos
 |.Lambda _ _ _ p=>p
 |_=>#[0,0,0,0]
abbrev dg:Stmt:=cz (top 19) 15
abbrev mw:List Str:=["self"]
theorem lX:FnScope mw ["self"] (aq dg):= ~~~0
abbrev jI:OM:=MT (MZ ((bT dg).getD 0 (.Pass #[0,0,0,0])))
def kyP(x:ċ):ZKey:=.p x.2.pl [x.1.1,x.1.2]
inductive spLamP(C:OC)(kv:V)(vs:OU)(H:Hp)(Q:VK)(E_:XK):Prop
 |mk (p d g:OC) (ol:Ol) (v:V) (n:Nm) (it:It) (h0:kv=.ref p) (h1:vs=[v]) (h2:Ø) (h3:NameIs H v (nk n)) (h4:look ol n=some it) (h5:∀kv' H',Same H H'->(kyP (n,it)).at H' kv'->Q kv' H'):spLamP C kv vs H Q E_
theorem dI(T:Txt K C)(Ng:ù):↑LamOkX 1 lf (MR jI) (MU jI) "name" "self" (spLamP C):=by refine#[#[rfl,rfl,rfl,rfl,rfl,⋯,⋯,⋯],λf c' c kv A outer s H v Q hr h=>?_];obtain⟨p,d,g,ol,v',n,it,rfl,e,⟨kvs,gvs,S,R⟩,hn,hl,q⟩:=h;cases e;obtain⟨⟨dx,h1⟩,h2,h3,h4⟩:=id S;exists[nb,rfl,hnb],id hn;obtain⟨iv,e1,ia,uv,pv,rfl,e2,e3,⟨pb,rfl,e4⟩⟩:=aY R hl;refine#[_,(aD (q_a (am (iw (K:=K) rfl) (cg Ç (KW (K:=K) rfl ↑1) ↑0) (gI Ng)) Ü)),?_];refine#[_,rfl,p,C,dx,_,_,rfl,h1,T.cl,T.nH,bc _ _,_,rfl,d,.ref ia,rfl,e1▸DGet.t (k:=nk n) h2 hnb,?_];refine#[ia,_,_,_,rfl,rfl,OP e2,at1,_,rfl,sz rfl,λt gt=>?_];have wt:=ad gt (.tup [.ref pb,.ref nb]);exact q _ _ wt #[t,pb,nb,rfl,ac,wt _ _ e4,wt _ _ hnb]
def I0:Nm×It:=((0,0),#[none,[],"",false,none,false])
theorem FF{ol:Ol}(hp:POk Ý p):(p.toList.map λi=>ol.getD i I0).Perm ol:=by
 have ep:p.toList.Perm (List.range Ý):=by have:=Array.perm_iff_toList_perm.mp hp;simpa using this
 have:=ep.map λi=>ol.getD i I0;have e:((List.range Ý).map λi=>ol.getD i I0)=ol:=by refine List.ext_getElem Œ λi h1 h2=>?_;simp[h2]
 rw[e]at this;exact this
abbrev KsAt(H:Hp)(M:Ol)(ks:OU):Prop:=Paired (λx v=>NameIs H v (nk x.1)) M ks
theorem KsAt.ts(x:ú)(s:Ċ):KsAt H' M ks:=Paired.mapP x λ_ _ z=>z.ts' s
theorem LU(x:cY H kvs ks)(r:Rows H' kvs ol):KsAt H ol ks:=by
 induction x generalizing ol with
 |nil=>cases r;exact .nil
 |cons h _ ih =>
  cases r with
  |cons a b =>exists[c,rfl,hc],h;exact .cons #[c,rfl,by rw[<-a.1];exact hc] (ih b)
theorem qZ(x:ú):∀(i:ğ) (v:V),ks[i]?=some v->∃m,M[i]?=some m/\NameIs H v (nk m.1):=by
 induction x with
 |nil=>intro i v h;simp at h
 |cons h _ ih =>
  intro i v hv;cases i with
  |zero=>cases hv;exact#[_,rfl,h]
  |succ i=>exact ih i v hv
theorem Hz(x:ú):∀(l:List Nat),(∀i∈l,i<M.length)->KsAt H (l.map λi=>M.getD i I0) (l.map λi=>ks.getD i .non):=λl=>by
 induction l with
 |nil=>intro _;exact .nil
 |cons i l ih =>
  intro h;have hi:=h i Zn;have hk:i<Ā:=by rw[<-Zv x];exact hi
  exists[m,hm,hn],qZ x i _ (Ze hk);refine .cons ?_ (ih λj hj=>h j (Zj _ hj));dsimp only;rw[Yu,Yu,hm,Ze hk];exact hn
theorem Mn(s:ã)(tab:ä):TS H H':=λa zs e=>s _ _ e λz=>by exists[ps,e1,_],tab;rw[z,e1]at e;cases e
theorem PlainAt.sameT(x:PlainAt C H p d g kvs gvs)(s:ã)(tab:ä):PlainAt C H' p d g kvs gvs:=by
 obtain⟨⟨dx,h1⟩,h2,h3,h4⟩:=x;exists[ps,e1,_],tab;refine#[#[dx,s _ _ h1 λz=>?_],s _ _ h2 λz=>?_,s _ _ h3 λz=>?_,h4]
 .rw[z,e1]at h1;cases h1
 .rw[z,e1]at h2;cases h2
 .rw[z,e1]at h3;cases h3
theorem OlAt.sameT(x:Ø)(s:ã)(tab:ä):OlAt C H' p d g ol:=by exists[kvs,gvs,a,b],x;exact#[kvs,gvs,a.sameT s tab,b.ts (Mn s tab)]
theorem GoneAt.sameT(x:Ĺ)(s:ã)(tab:ä):GoneAt H' g gs:=by exists[gvs,h1,h2],x;exists[ps,e1,_],tab;exact#[gvs,s _ _ h1 (λz=>by rw[z,e1]at h1;cases h1),h2]
theorem dA{β:Type}{l:As β}(nd:(l.map (·.1)).Nodup){i:ğ}{x:Nm×β}(h:l[i]?=some x):look l x.1=some x.2:=by
 induction l generalizing i with
 |nil=>simp at h
 |cons y r ih =>
  rw[Zr,Z3]at nd;unfold look;cases i with
  |zero=>cases h;rw[Ox rfl]
  |succ i =>have h:r[i]?=some x:=h;rw[Ow fun(z:y.1=x.1)=>nd.1 (by rw[z];exact List.mem_map_of_mem (ZI h))];exact ih nd.2 h
inductive spSorted(C T:OC)(vs:OU)(H:Hp)(Q:VK)(E_:XK):Prop
 |mk (p d g:OC) (ol:Ol) (h0:Ŏ) (h1:Ø) (h2:Ý<=63) (h3:Đ) (h4:ł) (h5:∀(D:OC) (H':Hp) (M:Ol) (ks:OU),M.Perm ol->SameT T H H'->bZ lf T Č H'->H D=none->H' D=some ø->KsAt H' M ks->Q Ĳ H'):spSorted C T vs H Q E_
theorem uB(s:ã)(h:H' D=none)(hT:∃o,H' T=some o):H D=none:=by
 cases e:H D with
 |none=>rfl
 |some o =>
  by_cases z:D=T
  .exists[o',ho],hT;rw[z,ho]at h;cases h
  .rw[s _ _ e z]at h;cases h
theorem di(h:ä)(s:Ī):bZ q T pos H':=by exists[ps,e1,e2,e3],h;exact#[ps,s _ _ e1,e2,e3.imp id fun⟨c,z1,z2⟩=>#[c,z1,s _ _ z2]]
theorem lP(F:Fun K "sorted_names" "Plain.sorted_names" dg f fd)(hcode:fd.code=.ref c0)(C:CodeHd base c0 T)(B:Blt base mg)(a7:Txt K C0)(Ng:ù)(r9:mg "sorted" = none):↑FnOk CX0 5 f fd ["self"] (spSorted C0 T):=by
 have dI:=dI (P:=P) (w:=w) (K:=K) (mg:=mg) (base:=base) a7 Ng;refine F.okC hcode lX (λvs H Q E h=>?_) (λA outer s H vs Q E hr h=>?_)
 .exists[p,d,g,ol,rfl,_],h;rfl
 exists[p,d,g,ol,rfl,hO,hl,nd,tab,q],h;exists[kvs,gvs,S,R],id hO;obtain⟨⟨dx,h1⟩,h2,h3,h4⟩:=id S;refine#[_,(b_1 (ax (Fe (j:=0) rfl r9 rfl C B (dI) ↑99 (q_a ħ ah) rfl rfl rfl rfl))),?_];refine#[_,rfl,p,C0,dx,_,_,rfl,h1,Ř,a7.nH,bc _ _,d,kvs,.ref p,rfl,rfl,h2,tab,λks H2 sT tab2 kat=>?_];have O2:=hO.sameT sT tab;have ka:=LU kat R;have lk:Ā=Ý:=(Zv ka).symm;refine#[∅,ol.map kyP,by rw[Zd,lk],λk hk=>?_,λi v key H' hv hk sm R' kR=>?_,λpp H3 D hp sm gD=>?_]
 .exists[x,_,rfl],Zt.mp hk;exact#[_,_,rfl]
 .exists[m,hm,hn],qZ ka i v hv;rw[Zy,hm]at hk;cases hk;exact#[p,d,g,ol,v,m.1,m.2,rfl,rfl,O2.same sm,hn.ts' (λa zs e=>sm _ _ e),dA nd hm,λkv' H'' s' a=>kR kv' H'' s' a]
 .rw[lk]at hp;have pe:=FF hp;have pl:∀i∈pp.toList,i<Ý:=λi hi=>by have:=(hp.mem_iff).mp (YS.mp hi);simpa using this
  have wD:=ad gD (.lst (pp.toList.map λi=>ks.getD i .non));have tab3:=di tab2 sm;have s03:SameT T H H3:=sT.trans (.of sm);refine q D _ _ _ pe (s03.trans (.of wD)) (di tab3 wD) (uB s03 gD ?_) ac ((Hz (ka.ts λa zs e=>sm _ _ e) _ pl).ts λa zs e=>wD _ _ e);exists[ps,e1,_],tab3;exact#[_,e1]
def grp(M:Ol)(u:ö):Ol:=M.filter λx=>decide (x.2.up=u)
def upK(u:ö):Option (List Key):=u.map nk
theorem Ad(h:upK u=upK v):u=v:=by
 cases u with
 |none=>cases v with
  |none=>rfl
  |some n=>cases h
 |some m=>cases v with
  |none=>cases h
  |some n=>rw[jM (Zo h)]
structure LowAt(P:OF)(w:OG)(H:Hp)(D:OC)(M:Ol)(kls:Ó):Prop where
 od:OdAt P w H D kls
 gr:∀e∈kls,∃(u:ö) (ks:OU),okD e.1=upK u/\H e.2=some ø/\KsAt H (grp M u) ks
 al:∀m∈M,(bW kls ĉ).isSome=true
structure LowI(P:OF)(w:OG)(H2 H:Hp)(D:OC)(M:Ol)(kls:Ó):Prop where
 lo:LowAt P w H D M kls
 nl:∀e∈kls,H2 e.2=none
 nd:(kls.map (·.2)).Nodup
 le:Ņ<=M.length
theorem UpAt.key(h:UpAt H v u):∃e:OK1,se H v e/\okD e=upK u:=by
 cases u with
 |none=>exact#[none,h,rfl]
 |some n =>exists[b,rfl,hb],h;exact#[some (nk n,b),#[rfl,hb],rfl]
theorem rA(h:bW kls k=some l):∃e∈kls,okD e.1=k/\e.2=l:=by unfold bW at h;exists[e,he,rfl],Z1.mp h;have:=List.find?_some he;exact#[e,List.mem_of_find?_eq_some he,y0 this,rfl]
theorem rq(h:(bW kls k).isSome=true\/okD e=k):(bW (kls++[(e,l)]) k).isSome=true:=by
 unfold bW at *;rw[List.find?_append];rcases h with h|h
 .exists[x,hx],Zw.mp h;exists[y,hy,_],Z1.mp hx;rw[hy];rfl
 .cases hf:kls.find? (λe=>decide (okD e.1=k))with
  |some y=>rfl
  |none=>simp[h]
theorem mJ(M:Ol)(m:ċ)(u:ö):grp Ė u=if m.2.up=u then grp M u++[m]else grp M u:=by
 unfold grp;rw[Z6];by_cases h:m.2.up=u
 .rw[Ox h,List.filter_cons_of_pos ĸ];rfl
 .rw[Ow h,List.filter_cons_of_neg ĸ];simp
theorem KsAt.snoc{m:ċ}(x:ú)(h:í):KsAt H Ė Ŗ:=by
 induction x with
 |nil=>exact .cons h .nil
 |cons a _ ih=>exact .cons a ih
theorem LX{P:OF}{w:OG}{H H':Hp}(x:OdAt P w H D kls)(h:H' D=H D)(s:Ċ):OdAt P w H' D kls:=#[h.trans x.ob,λe he p hp=>s _ _ (x.ks e he p hp),ņ]
theorem oj{α β:Type}{f:α->β}{l:List α}(nd:(l.map f).Nodup){a b:α}(ha:a∈l)(hb:b∈l)(h:f a=f b):a=b:=by
 induction l with
 |nil=>cases ha
 |cons x r ih =>
  rw[Zr,Z3]at nd;rcases Zg.mp ha with rfl|ha'
  .rcases Zg.mp hb with rfl|hb'
   .rfl
   .exact absurd (by rw[h];exact List.mem_map_of_mem hb') nd.1
  .rcases Zg.mp hb with rfl|hb'
   .exact absurd (by rw[<-h];exact List.mem_map_of_mem ha') nd.1
   .exact ih nd.2 ha' hb'
theorem EO(h:bW kls k=none):∀e∈kls,okD e.1≠k:=λe he z=>by unfold bW at h;rw[Option.map_eq_none_iff,Xa]at h;exact h e he (by simp[z])
theorem LowAt.same(x:LowAt P w H D M kls)(s:Ī):LowAt P w H' D M kls :=
 #[#[s _ _ x.od.ob,λe he p hp=>s _ _ (x.od.ks e he p hp),x.od.nd],λe he=>by
  exists[u,ks,h1,h2,h3],x.gr e he;exact#[u,ks,h1,s _ _ h2,h3.ts (OO s)],x.al]
theorem LowI.same(x:ç)(s:Ī):LowI P w H2 H' D M kls:=#[x.lo.same s,x.nl,ņ,x.le]
theorem Gs{P:OF}{w:OG}{H:Hp}(h:H D=some (odO P w D kls))(h2:ŏ):D≠l:=λz=>by rw[z,h2]at h;unfold odO at h;cases h
theorem rV{H:Hp}(h:ŏ):TS H (upd H l (.lst ks')):=λa zs e=>by rw[af (bw e h nofun)];exact e
theorem LowI.old{m:ċ}(x:ç)(hl:bW kls ĉ=some l)(hv:í):
  ∃ks,H l=some ø/\Ā<=M.length/\H2 l=none/\LowI P w H2 (upd H l (.lst Ŗ)) D Ė kls:=by
 exists[e,he,hk,rfl],rA hl;exists[u,ks,h1,h2,h3],x.lo.gr e he;have hu:u=m.2.up:=Ad (h1.symm.trans hk);subst hu;have ts:=rV (ks':=ks++[v]) h2;refine#[ks,h2,by rw[<-Zv h3];exact ZX _ _,x.nl e he,#[LX x.lo.od (af (Gs ü h2)) ts,λe' he'=>?_,λy hy=>?_],x.nl,ņ,by rw[Zf];exact Zs x.le (Yr _ _)]
 .by_cases z:e'.2=e.2
  .have:=oj ņ he' he z;subst this;refine#[m.2.up,ks++[v],h1,ac,?_];rw[mJ,Ox rfl];exact(h3.ts ts).snoc Ŀ
  .exists[u',ks',g1,g2,g3],x.lo.gr e' he';refine#[u',ks',g1,by rw[af z];exact g2,?_];rw[mJ,Ow λy=>z ?_]
   .exact g3.ts ts
   .have:okD e'.1=okD e.1:=by rw[g1,h1,y]
    rw[oj (f:=λe=>okD e.1) Ň he' he this]
 .rcases ZE.mp hy with hy|hy
  .exact x.lo.al y hy
  .rw[Zh]at hy;subst hy;rw[hl];rfl
theorem LowI.new{H2 H:Hp}{D l0:OC}{M:Ol}{kls:Ó}{m:ċ}{v uv:V}{e:OK1}(x:ç)(hl:bW kls ĉ=none)(hv:í)(hk:se H uv e)(he:okD e=upK m.2.up)(g0:H l0=none)(b:But D H2 H) :
  H2 l0=none/\l0≠D/\LowI P w H2 Ć D Ė (kls++[(e,l0)]):=by
 have nD:l0≠D:=λz=>by rw[z,ü]at g0;cases g0
 have n2:H2 l0=none:=by
  cases z:H2 l0 with
  |none=>rfl
  |some o=>rw[b _ _ z nD]at g0;cases g0
 have keep:∀a o,H a=some o->a≠D->upd Â l0 (.lst [v]) a=some o:=λa o ea ha=>by
  have nl:a≠l0:=λz=>by rw[z,g0]at ea;cases ea
  rw[af nl,af ha,af nl];exact ea
 have ts:TS H Ć:=λa zs ea=>keep a _ ea λz=>by have:=ü;rw[z,this]at ea;unfold odO at ea;cases ea
 have no:=EO hl;refine#[n2,nD,#[#[by rw[af (ZO nD)];exact ac,λe' he' p hp=>?_,?_],λe' he'=>?_,λy hy=>?_],λe' he'=>?_,?_,?_]
 .rcases ZE.mp he' with he'|he'
  .exact ts _ _ (x.lo.od.ks e' he' p hp)
  .rw[Zh]at he';subst he';obtain rfl:e=some p:=hp;exact ts _ _ hk.2
 .rw[ZA,List.nodup_append];refine#[Ň,by simp,λa ha c hc z=>?_];simp only[Zr,List.map_nil,Zh]at hc;exists[e',he',rfl],Zt.mp ha;exact no e' he' (by rw[<-he,<-hc];exact z)
 .rcases ZE.mp he' with he'|he'
  .exists[u',ks',g1,g2,g3],x.lo.gr e' he';refine#[u',ks',g1,keep _ _ g2 (ZO (Gs ü g2)),?_];rw[mJ,Ow λz=>no e' he' (by rw[g1,z])];exact g3.ts ts
  .rw[Zh]at he';subst he';refine#[m.2.up,[v],he,ac,?_];have em:grp M m.2.up=[]:=by unfold grp;rw[List.filter_eq_nil_iff];intro y hy z;have:=x.lo.al y hy;rw[y0 z,hl]at this;cases this
   rw[mJ,Ox rfl,em];exact .cons Ŀ .nil
 .rcases ZE.mp hy with hy|hy
  .exact rq (.inl (x.lo.al y hy))
  .rw[Zh]at hy;subst hy;exact rq (.inr he)
 .rcases ZE.mp he' with he'|he'
  .exact x.nl e' he'
  .rw[Zh]at he';subst he';exact n2
 .rw[ZA,List.nodup_append];refine#[ņ,by simp,λa ha c hc z=>?_];simp only[Zr,List.map_nil,Zh]at hc;exists[e',he',rfl],Zt.mp ha;exists[_,_,_,g2,_],x.lo.gr e' he';rw[z,hc,g0]at g2;cases g2
 .rw[Zf,Zf];exact Nat.add_le_add x.le (Zi _)
def bL(gs:As Unit)(x:ċ):Bool:=!(look gs x.1).isSome
inductive spLower(P:OF)(w:OG)(C T:OC)(vs:OU)(H:Hp)(Q:VK)(E_:XK):Prop
 |mk (p d g:OC) (ol:Ol) (gs:As Unit) (h0:Ŏ) (h1:Ø) (h2:Ĺ) (h3:Ý<=63) (h4:Đ) (h5:ł) (h6:∀(D:OC) (H':Hp) (M:Ol) (kls:Ó),M.Perm ol->SameT T H H'->bZ lf T Č H'->H D=none->Ņ<=63->LowAt P w H' D (M.filter č) kls->Q Ĳ H'):spLower P w C T vs H Q E_
def sY(n:ğ)(o:Obj):Heap:=#[Array.replicate n o,{}]
theorem Fk{n:ğ}(hf:û)(h:(sY n o).get? a=some o'):o'=o:=by
 unfold sY Heap.get? at h;dsimp only at h;by_cases ha:a<n
 .rw[ZW ì,Array.getElem_replicate]at h;split at h
  .cases h
  .exact(Zo h).symm
 .rw[Array.getElem?_eq_none ì]at h;cases h
set_option tactic.hygienic true in theorem zO{n:ğ}(hf:û)(ha:a<n):(sY n o).get? a=some o:=by
 unfold sY Heap.get?;dsimp only;rw[ZW ì,Array.getElem_replicate];split
 .rename_i z;exact absurd (Zo z) (hf _ _ _)
 .rfl
theorem LW:odO P w D kls≠mL c q:=λz=>by
 unfold odO mL at z;injection z with z;by_cases hs:(D==sysModules)=false
 .have e:=congrFun z (sY (D+1) { cls:=.type "dict",data:=.dict (((kls.map oE).map (iE P w)).toArray) 0 });have:=e.mp #[hs,_,_,_,zO Ò (YC D),#[rfl,rfl,rfl],rfl,by simp];exists[c',o,vs,t,e1,e2,e3,e4],this;have:=Fk Ò e2;rw[this]at e3;cases e3
 .have e:=congrFun z (sY (c+1) { cls:=.none,data:=.fields (List.toArray [.none,.str q 0]) });have:=e.mpr #[c,_,_,_,rfl,zO Ò (YC c),rfl,rfl];exact hs this.1
theorem JB:(gG CX P w K mg base N qual scope f cd A outer s H E).nox.prog=P:=rfl
theorem JC:(gG CX P w K mg base N qual scope f cd A outer s H E).nox.w=w:=rfl
abbrev eX:Stmt:=cz (top 19) 17
abbrev nJ:List Str:=["self","lower","name"]
theorem eJ:FnScope nJ ["self"] (aq eX):= ~~~0
theorem mS{f C T:OC}{fd:OI}{tk:Tok}(F:Fun K "lower_names" "Plain.lower_names" eX f fd)(a7:Txt K C)(u3:↑MFn 5 C "sorted_names" ["self"] (spSorted C T))(pi:mg "UP" = some (.int 0 tk)):↑FnOk CX0 6 f fd ["self"] (spLower P w C T):=by
 exists eJ
 exists[p,d,g,ol,gs,rfl,hO,hG,hl,nd,tab,q],h;exists _,(b_c (aA (i:=1) eJ.nd Mi)
   (b_c (dG ZT rfl (bD (pC u3 ↑99 ↑0)) (aw (i:=2) eJ.nd) (b_1 (aT (nz Ç ↑2 ħ) (b_1 (bu (fL (Do Ç ↑1 (am ao (cg Ç ħ ↑2) (gI pi)) (bA ah)) ↑2))) b_0)))
   Ĩ))
 rw[JB,JC];intro D gD;have wD:=ad gD ë;have eD:upd H D ë D=some ë:=ac;generalize upd H D ë=H1 at wD eD ⊢;have O1:=hO.same wD;have tab1:=di tab wD;exists[kvs1,gvs1,S1,R1],id O1;obtain⟨⟨dx,h1⟩,h2,h3,h4⟩:=id S1;refine#[_,rfl,p,dx,_,rfl,h1,ju _ _ ⋯ ⋯,p,d,g,ol,rfl,O1,hl,nd,tab1,λL H2 M ks pe s12 tab2 gL eL ka=>?_];refine#[L,rfl,#[ks,OQ eL],?_];have O2:=O1.sameT s12 tab1;have hG2:=(hG.same wD).sameT s12 tab1;have nDT:D≠T:=λz=>by exists[ps,e1,_],tab1;rw[z,e1]at eD;cases eD
 have eD2:=s12 _ _ eD nDT;have nLD:L≠D:=λz=>by rw[z,eD]at gL;cases gL
 have lM:M.length<=63:=by rw[pe.length_eq];exact hl
 have lks:=Zv ka;refine Cf (xs:=ks) (λi Y H'=>But D H2 H'/\∃(kls:Ó) (o:Ę),LowI P w H2 H' D ((M.take i).filter č) kls/\Y=[some (.ref p),some Ĳ,o]) #[λ_ _ z _=>z,[],none,#[#[#[eD2,æ,.nil],æ,(λm hm=>by simp at hm)],æ,.nil,ZL _],rfl] (λi Y H' _ hP=>OQ (hP.1 _ _ eL nLD)) (λi v Y H' hv hP D' kD=>?_) (λY H' hP=>?_)
 .exists[bt,kls,o,lo,rfl],hP;exists[m,hm,hn],qZ ka i v hv;exists[gvs0,hg0,Rg],id hG2;exists[kvs,gvs,S,R],id O2;have ts2:TS H2 H':=λa zs e=>bt _ _ e λz=>by rw[z,eD2]at e;unfold odO at e;cases e
  have nd':∀{a:OC} {o:HO},H2 a=some o->o≠odO P w D []->H' a=some o:=λe ne=>bt _ _ e λz=>ne (by rw[z,eD2]at e;exact(Zo e).symm);obtain⟨⟨dx',k1⟩,k2,k3,k4⟩:=id S;have k1':=nd' k1 Î;have k2':=nd' k2 Î;have k3':=nd' k3 Î;have hmo:m∈ol:=pe.mem_iff.mp (ZI hm);exists[jj,hj],Z7.mp hmo;exists[iv,e1,ia,uv,pv,rfl,e2,e3,e4],aY R (dA nd hj);have hn':=hn.ts' ts2;exists[nb,rfl,hnb],id hn';have eg:gvs0=gvs:=by rw[k3]at hg0;injection hg0 with hg0;injection hg0 with hg0;exact hg0.symm
  subst eg;have lt:(M.take i).length<=63:=Zs (List.length_take_le' _ _) lM;have lt2:((M.take i).filter č).length<=63:=Zs (ZX _ _) lt;have et0:M.take ň=M.take i++[m]:=by rw[List.take_succ,hm];rfl
  refine#[_,rfl,_,rfl,p,C,dx',_,_,rfl,k1',Ř,a7.nA,uo _ _,g,_,rfl,DGet.t (k:=nk m.1) k3' hnb,_,rfl,?_];rw[iF Rg];cases hvis:(look gs m.1).isSome with
  |true =>refine aC (kD _ _ #[bt,kls,_,?_,rfl]);rw[et0,Z6,List.filter_cons_of_neg ě,List.filter_nil,ZF];exact lo
  |false =>
  refine aQ ?_;have et:(M.take ň).filter č=(M.take i).filter č++[m]:=by rw[et0,Z6,List.filter_cons_of_pos ě,List.filter_nil]
  exists[ke,hk,hke],(e3.ts ts2).key;refine#[_,rfl,D,rfl,#[kls,lo.lo.od.ob],?_];refine#[_,rfl,p,C,dx',_,_,rfl,k1',Ř,a7.nH,bc _ _,_,rfl,d,.ref ia,rfl,e1▸DGet.t (k:=nk m.1) k2' hnb,?_];refine#[ia,_,_,_,rfl,rfl,OP (ts2 _ _ e2),at0,sz rfl,λl0 g0=>?_];have w0:=ad g0 ß;have lo0:=lo.same w0;have hk0:se (upd H' l0 ß) uv ke:=by
   cases ke with
   |none=>exact hk
   |some q=>exact#[hk.1,w0 _ _ hk.2]
  refine#[kls,ke,l0,lo0.lo.od,hk0,rfl,(by have:=lo.le;omega),λl hl'=>?_,λhl'=>?_]
  .rw[hke]at hl';exists[ks',f1,f2,f3,f4],lo0.old hl' (hn'.ts' (OO w0));refine#[.inl #[rfl,_,OQ f1],_,rfl,l,_,_,rfl,rfl,f1,fF ∅,kD _ _ #[λb ob eb hb=>?_,kls,_,by rw[et];exact f4,rfl]];have hbl:b≠l:=λz=>by rw[z,f3]at eb;cases eb
   rw[af hbl];exact w0 _ _ (bt _ _ eb hb)
  .rw[hke]at hl';exists[n2,nD0,f4],lo.new hl' hn' hk hke g0 bt;refine#[.inl #[rfl,[],OQ (by rw[af nD0];exact ac)],_,rfl,l0,[],_,rfl,rfl,by rw[af nD0];exact ac,sz rfl,kD _ _ #[λb ob eb hb=>?_,_,_,by rw[et];exact f4,rfl]];have hbl:b≠l0:=λz=>by rw[z,n2]at eb;cases eb
   rw[af hbl,af hb,af hbl];exact bt _ _ eb hb
 .exists[bt,kls,o,lo,rfl],hP;have ml:M.take Ā=M:=YK ∅;rw[ml]at lo;have nTD:T≠D:=ZO nDT;have tab3:bZ lf T Č H':=by exists[ps,t1,t2,t3],tab2;refine#[ps,bt _ _ t1 nTD,t2,t3.imp id fun⟨c,z1,z2⟩=>#[c,z1,bt _ _ z2 λz=>?_]];rw[z,eD2]at z2;exact LW (Zo z2)
  exact#[_,rfl,q D H' M kls pe (λb ob eb hb=>bt _ _ (s12 _ _ (wD _ _ eb) hb) λz=>by rw[z,gD]at eb;cases eb) tab3 gD (Zs lo.le (Zs (ZX _ _) lM)) lo.lo]
end
mutual
#check#[(((clk cl5 hN).set hN (au (clk cl5 hN) hN+1)).map V.int),([.ref t1,.ref t2,.ref t3,.ref t4]++[.ref t5,.ref t6,.ref t7]),(.tup [.int (hN:Int),.int (au nc hN)]),((aZ (L.zip W)).map Prod.snd),(.tup [.str "move",hv,uv,.ref sp]),(if au (clk cl oN) (0+(j:Int)).toNat>au (clk cl hN) (0+(j:Int)).toNat then au (clk cl oN) (0+(j:Int)).toNat else au (clk cl hN) (0+(j:Int)).toNat),(.lst []),xs.length,(.lst (aH L++[.ref q6])),(.tup [.int (hN:Int),.ref q5,.ref wa]),(List.toArray [(atI eC.cps.toList (ix i%39)).getD 0]),(upd H' pn (.lst (gq M++[.ref q7]))),(aK eK ↑0 ai),(.lst (rs++[.ref t3])),(au (clk cl5 hN) hN+1),(.tup [.str "put",.str "part"]),(#[rfl,⋯,⋯,rfl,trivial]:CompOk _ _ [] []),(q_a ↑0 ah),(Int),(.tup [.str "part",hv,.int (n%4),.ref sp]),(λ_ _ _ _=>hV),(aK cS ↑0 ai),(.lst [.ref t1,.ref t2,.ref t3,.ref t4]),0,(.lst (Á++[.ref t8,.ref t9,.ref tA])),(upd H7 as5[hN] (.lst À)),(1+n / 3%(nr-1)),(q_a ↑1 ah),((List.range (c%6).toNat).map sgn),(.tup [.str "write",hv,.str tx]),(.lst [.ref t5,.ref t6,.ref t7]),(.lst [.ref t8,.ref t9,.ref tA]),(am bV ↑2 ↑8),(.lst (cm.map V.int)),(if b=true then"on" else"off"),(.tup [.str "mark",hv,.bl tb]),(.tup [.str "fold",hv,.bl tb]),(.lst [.non,.int (n / 2%hs)]),(.tup [.str "due",hv,whV wh]),(clk cl h),(q6,hN,nc,wd),(by simp),(hM (bp (aM ⋯) aO (bp (aM ⋯) aO fJ bE) (bR aO bE))),as.length,(.tup [.str "join",hv,tv]),(M.filter (bL gs)),(aD (q_a ar (q_a ↑7 (q_a ↑6 (q_a ↑5 ah))))),eC.cps.toList,(by rw[lc];omega),(by show(0:Ò)<2;decide),(List.replicate n (List.replicate n (0:Ò))),(.tup [.str "take",hv]),(.tup [.str "back",hv]),(.lst ws),(by rw[lc'];exact hNn),0,(am bV ↑1 (aK cS Ì (q_B gX a8 Ya Û))),(cl.set h ((clk cl h).set h (au ç h+1))),(List DI),(.lst as0),(mg "len" = none),(.lst (as.map V.ref)),(.tup (nc.map V.int)),(q7,(hN:Ò),au nc hN),(Zt.mpr #[x,hx',rfl]),(aD (q_a ar (q_a ↑7 (q_a ↑9 ah)))),(.tup [.str "put",uv,.ref sp,.str tx]),h.toNat,(wu _ _ nrB.1),(.ref p),(.lst (xs++[.non])),(.lst zs),(.tup [.int (k:Ò),.int (au cs k)]),(au cs k*48271+(k:Ò)*(k:Ò)*69621),(cl.set h c'),(upd HA p È),(aX ol Ã),(.lst pys),hr.units,(by rw[kN];omega),(aM ⋯),(List.length_filterMap_le _ _),dZ.nd,dD.nd,(by show(0:Ò)<(Ç:Ò);omega),(am ao ↑0 ai),(am bV à ↑8),((ns.map V.int).length:Int),(aD (q_a ar (q_a ↑7 ah))),((ad g3 _).trans (ad gt _)),l.length,(bA ah),(n / 4480),(upd H1 pn (.lst [.non])),(Dfs M st out k),(ZX _ _),(.tup [.str â,.int Ú]),(by show(0:Ò)<7;decide),((clk cl5 hN).set hN Î),(xb.trans y6),(xd.trans y6),z.symm,(.lst rs),(.dT kvs),(.lst À),(L++[è]),(.tup (pl.map V.int)),(by rw[lc];exact hNn),(NameIs H nv (nk x.2.1)),(α->β->Prop),(List α),(List β),eC.cps.toList.length,(q_a ar (q_a ar ah)),(mx ç (clk cl o) n),(ts.take i),(clk cl hN),(clk cl oN),(by rw[<-z,Z4];rfl),(λ_ _ _ z=>z.2.1),(Nat),cV.nd,((0:Ò)<(ë:Int)),(ck6.2.2.2 hN ha),(by rw[lg];omega),ts.length,zs.length,eC.length,cl.length,(upK u),(.lst (ys2++zs)),(L.map Prod.snd),((0+(j:Ò)):Int),(TS H H'),(As Nm),(List Tk),(mg "range" = none),0,tactic.hygienic,(.lst ks),(aj e gg),(.lst Á),(am ao ↑4 ai),(aK mR ai ↑1),(V.str wd.word),(upd H10 R Í),(upd H9 q5 þ),(wu _ _ ckB.1),(.ref t),(.ref R),(.ref D),(.dT []),(.ref l),(hP.1 _ _ hl),(q_a ↑3 ah),(upd HP g ħ),(Same.refl _),(aK cS Ì ai),(w2.trans w3),(Option V),pe.length_eq,(NmsAt H xs ns),stk.reverse,eM.nd,(bL gs),(d0,mm),(sgn i),(w0 _ _ eR),(rR ol _ _),(S3 _ _ hl),(x3 _ _ z2),(au ç h+1),(wu _ _ cB),(As Unit),(Tkn L W n Φ),ys2.length,g.cn,as5.length,(Zs ğ lM),(.lst ws'),(OO w1113),(0+(i:Ò)),(λe1=>?_),(n / 2%hs),(wZ u4 Û),(λhc=>?_),(ad f7 Â),(λe3=>?_),(vs=[.ref l]),(Gen3 n cl L),ys.length,gs.length]
abbrev DI:=Int×(Nm×It)
inductive Dfs(M:Ol):List DI->List DI->Nat->Prop
 |nil:Dfs M [] [] 0
 |cons {d:Ò} {m:Nm×It} {rest out:ú} {k:ĸ} (h:Dfs M ((grp M (some m.1)).map (λx=>(d+1,x))++rest) out k):Dfs M ((d,m)::rest) ((d,m)::out) (k+1)
theorem Dfs.le{st out:ú}{k:ĸ}(h:Ğ):st.length<=k:=by
 induction h with
 |nil=>exact Zi _
 |cons _ ih =>rw[Zf]at ih;rw[Zm];omega
theorem Dfs.len{st out:ú}{k:ĸ}(h:Ğ):out.length=k:=by
 induction h with
 |nil=>rfl
 |cons _ ih=>rw[Zm,ih]
inductive SkAt(H:Hp)(v:V)(x:DI):Prop
 |mk (a:OC) (nv:V) (h0:v=.ref a) (h1:H a=some (.tup [.int x.1,nv])) (h2:Ĭ):SkAt H v x
inductive RwAt(H:Hp)(v:V)(x:DI):Prop
 |mk (a:OC) (nv:V) (h0:v=.ref a) (h1:H a=some (.tup [.int x.1,nv,.str x.2.2.tx,.bl x.2.2.dn,whV x.2.2.wh,.bl x.2.2.fo])) (h2:Ĭ):RwAt H v x
abbrev SksAt(H:Hp)(xs:ú)(vs:OU):Prop:=Paired (λx v=>SkAt H v x) xs vs
abbrev RwsAt(H:Hp)(xs:ú)(vs:OU):Prop:=Paired (λx v=>RwAt H v x) xs vs
theorem SkAt.ts(h:SkAt H v x)(s:Ņ):SkAt H' v x:=by exists[a,nv,h1,h2,h3],h;exact#[a,nv,h1,s _ _ h2,h3.ts' s]
theorem RwAt.ts(h:RwAt H v x)(s:Ņ):RwAt H' v x:=by exists[a,nv,h1,h2,h3],h;exact#[a,nv,h1,s _ _ h2,h3.ts' s]
theorem SksAt.ts(x:SksAt H xs vs)(s:Ņ):SksAt H' xs vs:=Paired.mapP x λ_ _ z=>z.ts s
theorem RwsAt.ts(x:RwsAt H xs vs)(s:Ņ):RwsAt H' xs vs:=Paired.mapP x λ_ _ z=>z.ts s
theorem qt{α β:Type}{R:ĭ}{a c:Į}{b d:į}(x:Paired R a b)(y:Paired R c d):Paired R (a++c) (b++d):=by
 induction x with
 |nil=>exact y
 |cons h _ ih=>exact .cons h ih
theorem uE{α β:Type}{R:ĭ}:∀{a:Į} {x:α} {b:į},Paired R (a++[x]) b->∃(b0:į) (y:β),b=b0++[y]/\Paired R a b0/\R x y
 | [],x,b,h=>by
  cases h with
  |cons h1 h2 =>cases h2;exact#[[],_,rfl,.nil,h1]
 |z::a,x,b,h=>by
  cases h with
  |cons h1 h2 =>exists[b0,y,rfl,h3,h4],uE h2;exact#[_::b0,y,rfl,.cons h1 h3,h4]
theorem LowAt.get(x:LowAt P w H D M kls)(u:Option Nm):(∀l,bW kls Ł=some l->∃ks,H l=some ŋ/\KsAt H (grp M u) ks)/\(bW kls Ł=none->grp M u=[]):=by
 refine#[λl hl=>?_,λhl=>?_]
 .exists[e,he,hk,rfl],rA hl;exists[u',ks,h1,h2,h3],x.gr e he;rw[<-Ad (h1.symm.trans hk)];exact#[ks,h2,h3]
 .unfold grp;rw[List.filter_eq_nil_iff];intro y hy z;have:=x.al y hy;rw[y0 z,hl]at this;cases this
theorem ul{n:ĸ}{te:TE}{H0:Hp}{Q:VK}{d:Ò}(hl:H0 l=some ŋ)(hk:KsAt H0 M ks)(hz:M.length<=63)(he:∀(v:V) (H:Hp),Same H0 H->∀R:VK,(∀t,H t=none->R Ŕ (upd H t (.tup [.int d,v])))->te ((cZ n cap Y).set 0 (some v)) H R)(hq:∀(ws:OU) (p:OC) (H:Hp),Same H0 H->SksAt H (M.map λx=>(d,x)).reverse ws->H p=none->Q ą (upd H p õ)):ir n cap (ce 0) ny te Y (Itv K l ks) H0 Q:=by
 have lk:=Zv hk;refine wE (N:=ks.length) (λi ys H=>Same H0 H/\ž=i/\SksAt H ((M.map λx=>(d,x)).reverse.take i) ys) ∅ (λ_ _ _ p=>p.2.1) #[Same.refl _,rfl,.nil] (λi ys H hi hP=>#[hi,OQ ř]) (λys H hP=>#[rfl,OQ ř]) ?_ ?_
 .rintro i ys H x H2 hi ⟨sm,ly,pa⟩ ⟨rfl,hx⟩ R kR;refine he x _ sm _ λt gt=>kR _ _ ?_;have wt:=ad gt (.tup [.int d,x]);refine#[sm.trans wt,by rw[Zf,ly];rfl,?_];rw[List.getElem?_reverse (by simpa using hi)]at hx;exists[m,hm,hn],qZ hk _ x hx;have e:(M.map λx=>(d,x)).reverse[i]?=some (d,m):=by rw[List.getElem?_reverse (by rw[Zd];omega),Zd,Zy,lk,hm];rfl
  rw[List.take_succ,e];exact qt (pa.ts (OO wt)) (.cons #[t,x,rfl,ac,(hn.ts' (OO sm)).ts' (OO wt)] .nil)
 .rintro ys p H ⟨sm,ly,pa⟩ gp;refine hq ys p H sm ?_ gp;rw[YK (by rw[List.length_reverse,Zd];omega)]at pa;exact pa
theorem wP{G:OC->Prop}(x:LowAt P w Hc D M kls)(e0:Hc l0=some Æ)(h:∀(l:OC) (ks:OU),Hc l=some ŋ->KsAt Hc (grp M u) ks->G l):
  (∀l,bW kls Ł=some l->G l)/\(bW kls Ł=none->G l0):=by
 exists[a,b],x.get u;refine#[λl hl=>?_,λhl=>?_]
 .exists[ks,h1,h2],a l hl;exact h l ks h1 h2
 .exact h l0 [] e0 (by rw[b hl];exact .nil)
abbrev jh(M:Ol):List DI:=(grp M none).map λx=>(0,x)
inductive spRows(C T:OC)(vs:OU)(H:Hp)(Q:VK)(E_:XK):Prop
 |mk (p d g:OC) (ol:Ol) (gs:ŭ) (h0:vs=[.ref p]) (h1:OlAt C H p d g ol) (h2:GoneAt H g gs) (h3:ol.length<=63) (h4:(ol.map (·.1)).Nodup) (h5:bZ lf T (mQ jI) H) (h6:(∀M:Ol,M.Perm ol->∃out k,Dfs í (jh í) out k/\k<=63)) (h7:∀(R:OC) (H':Hp) (M:Ol) (out:ú) (k:ĸ) (rs:OU),M.Perm ol->Dfs í (jh í) out k->SameT T H H'->bZ lf T (mQ jI) H'->H R=none->H' R=some Ħ->RwsAt H' out rs->Q ŕ H'):spRows C T vs H Q E_
theorem Dfs.mem{st out:ú}{k:ĸ}(h:Ğ):(∀x∈st,x.2∈M)->∀x∈out,x.2∈M:=by
 induction h with
 |nil=>intro _ x hx;cases hx
 |@cons d m rest out k _ ih =>
  intro hs x hx;rcases Zg.mp hx with rfl|hx
  .exact hs _ Zn
  .refine ih (λy hy=>?_) x hx;rcases ZE.mp hy with hy|hy
   .exists[z,hz,rfl],Zt.mp hy;exact(ZH.mp hz).1
   .exact hs y (Zj _ hy)
theorem LG:bY [a,b,c,d,e,f] (some 2) none=[c,d,e,f]:=rfl
abbrev jX:Stmt:=cz (top 19) 16
abbrev vP:List Str:=["self","lower","rows","ahead","following","depth","name"]
theorem cV:FnScope vP ["self"] (aq jX):= ~~~0
theorem uY(F:Fun K "rows" "Plain.rows" jX f fd)(a7:Txt K C)(u6:↑MFn 6 C "lower_names" ["self"] (spLower P w C T))(c6:mg "TEXT" = some (.int 2 tk))(u7:mg "reversed" = none)(a8:ü):↑FnOk CX0 7 f fd ["self"] (spRows C T):=by
 exists cV
 exists[p,d,g,ol,gs,rfl,hO,hG,hl,nd,tab,ex,q],h;exists[kvs0,gvs0,S0,R0],id hO;obtain⟨⟨dx,h1⟩,h2,h3,h4⟩:=id S0;exists _,(b_c (aA (i:=1) Ĺ (pC u6 ↑99 ↑0))
   (b_c (aA (i:=2) Ĺ ě)
   (b_c (iU (j:=3) Ĺ (own:=["each"]) Ð rfl (Gi u7 (q_a (Dm Ď ↑1 bX ě) ah)) (λ_ _ _ _=>aw (i:=0) (show (["each"]:List Str).Nodup by decide)) Đ Ô (λ_ _ _ _=>(aD (q_a ai Ñ))))
   (b_c (tJ ZT (aE xC (q_B gX a8 Ya Ś) ai) (b_c (aA (i:=4) Ĺ (K0 ↑3))
   (b_c (aA (i:=5) Ĺ Ŏ)
   (b_c (aA (i:=6) Ĺ Ŏ)
   (b_c (bu (fL ↑2 (aK jN (aD (q_a ↑5 (q_a ↑6 ah))) (eE dN (cg Ď (cH ↑0) ↑6) (dW (gI c6)) eV))))
   (b_1 (bu (Fd ↑3 (de (own:=["each"]) (#[rfl,⋯,⋯,rfl,#[rfl,rfl,trivial]]:CompOk _ _ [5] ["depth"]) rfl (Gi u7 (q_a (Dm Ď ↑1 ↑6 ě) ah)) (λ_ _ _ _=>aw (i:=0) (show (["each","depth"]:List Str).Nodup by decide)) Đ Ô (λ_ _ _ _=>(aD (q_a (aK ge ↑1 ai) Ñ))))))))))))
   (b_1 (ax ↑2))))))
 rw[JB,JC];refine#[_,rfl,p,dx,_,rfl,h1,ju _ _ ⋯ ⋯,p,d,g,ol,gs,rfl,hO,hG,hl,nd,tab,λD H3 M0 kls pe s03 tab3 gD lk lo=>?_];exists[out,k,df,k63],ex M0 pe;have lM0:M0.length<=63:=by rw[Š];exact hl
 have mem0:∀x∈M0.filter Ť,x∈ol:=λx hx=>pe.mem_iff.mp (ZH.mp hx).1;have lM:(M0.filter Ť).length<=63:=Zs ğ lM0;have qq:=λR H' out k rs=>q R H' M0 out k rs pe;generalize M0.filter Ť=M at df lo lM mem0 qq;have O3:=hO.sameT s03 tab;exists[kvs,gvs,S,R3],id O3;obtain⟨⟨dx',k1⟩,k2,k3,k4⟩:=id S;refine#[sz rfl,λR gR=>?_];have wR:=ad gR Æ;have eR:upd H3 R Æ R=some Æ:=ac;generalize upd H3 R Æ=H4 at wR eR ⊢;refine#[_,rfl,D,rfl,#[kls,wR _ _ lo.od.ob],sz rfl,λl0 g0=>?_];have w0:=ad g0 Æ;have e0:upd H4 l0 Æ l0=some Æ:=ac;generalize upd H4 l0 Æ=H5 at w0 e0 ⊢;have lo5:=lo.same (wR.trans w0);refine#[kls,none,lo5.od,rfl,∅,wP (u:=none) lo5 e0 λl ks el hk=>?_];refine#[l,ks,rfl,OQ el,ul (d:=0) el hk Ų (λv Hx sx Rx kx=>#[_,rfl,sz rfl,λt gt=>kx t gt]) (λws Aa H6 s6 pa gA=>?_)];have wA:=ad gA õ;have eA:upd H6 Aa õ Aa=some õ:=ac;have s36:Same H3 (upd H6 Aa õ):=(wR.trans (w0.trans s6)).trans wA;have eR6:upd H6 Aa õ R=some Æ:=wA _ _ (s6 _ _ ŧ);have pa6:=pa.ts (OO wA);have nRA:R≠Aa:=λz=>by rw[<-z,s6 _ _ ŧ]at gA;cases gA
 have g3A:H3 Aa=none:=by
  cases z:H3 Aa with
  |none=>rfl
  |some o=>rw[s6 _ _ (w0 _ _ (wR _ _ z))]at gA;cases gA
 generalize upd H6 Aa õ=H7 at eA s36 eR6 pa6 ⊢;refine#[λm Y H'=>Same H3 H'/\∃(stk outd rst:ú) (rs as:OU) (o4 o5 o6:ş),Dfs M stk rst m/\outd++rst=out/\H' R=some Ħ/\RwsAt H' outd rs/\H' Aa=some (.lst as)/\SksAt H' Ţ as/\Y=[some ą,some Ŗ,some ŕ,some (.ref Aa),o4,o5,o6],#[k,s36,jh M,[],out,[],ws,none,none,none,df,rfl,eR6,.nil,eA,pa6,rfl],?_];rintro m Y H' ⟨sm,stk,outd,rst,rs,as,o4,o5,o6,df',eo,eR',ra,eA',sa,rfl⟩;have las:=Zv sa;rw[List.length_reverse]at las;refine#[_,rfl,Aa,as,rfl,.inl (OQ eA'),_,_,rfl,rfl,_,rfl,?_];have lo63:outd.length+m<=63:=by have h1:=Z2 List.length eo;rw[Zf,df'.len,df.len]at h1;omega
 cases df' with
 |nil =>have:ë=0:=las.symm;rw[show(decide ĺ)=false by rw[this];rfl];refine aC #[_,rfl,?_];rw[ZF]at eo;subst eo;refine qq R H' outd k rs df (s03.trans (.of sm)) (di tab3 sm) (uB s03 gR ?_) eR' ra;exists[ps,t1,_],tab3;exact#[_,t1]
 |@cons d0 mm rest rst' m' df' =>
  have:0<ë:=by rw[<-las];exact Xb _
  rw[show(decide ĺ)=true by rw[decide_eq_true];omega];refine aQ ?_;rw[List.reverse_cons]at sa;obtain⟨as0,y,rfl,sa0,⟨ya,nv,rfl,ey,hn⟩⟩:=uE sa;exists[nb,rfl,hnb],id hn;have hmem:mm∈M:=df.mem (λx hx=>by
   exists[z,hz,rfl],Zt.mp hx;exact (ZH.mp hz).1) ť (by rw[<-eo];simp)
  exists[jj,hj],Z7.mp (mem0 _ hmem);exists[iv,e1,ia,uv,pv,rfl,e2,e3,e4],aY R3 (dA nd hj);refine#[λσ' H''=>Same H3 H''/\∃(stk outd rst:ú) (rs as:OU) (o4 o5 o6:ş),Dfs M stk rst m'/\outd++rst=out/\H'' R=some Ħ/\RwsAt H'' outd rs/\H'' Aa=some (.lst as)/\SksAt H'' Ţ as/\σ'=[some ą,some Ŗ,some ŕ,some (.ref Aa),o4,o5,o6],λσ' H'' h=>#[m',YC _,h],?_];refine#[_,rfl,.inl #[rfl,_,OQ eA'],Aa,_,.ref ya,rfl,rfl,eA',by simp,?_];rw[List.dropLast_concat];have t8:=rV (ks':=as0) eA';have s38:Same H3 (upd H' Aa û):=cL sm g3A;have eA8:upd H' Aa û Aa=some û:=ac;have eR8:upd H' Aa û R=some Ħ:=by rw[af nRA];exact eR'
  have ey8:=t8 _ _ ey;have hn8:=t8 _ _ hnb;have ra8:=ra.ts t8;have sa8:=SksAt.ts sa0 t8;generalize upd H' Aa û=H8 at s38 eA8 eR8 ey8 hn8 ra8 sa8 ⊢;refine#[_,rfl,ya,_,_,_,rfl,rfl,OP ey8,at0,?_];refine#[_,rfl,ya,_,_,_,rfl,rfl,OP ey8,at1,?_];refine#[_,rfl,.inl #[rfl,_,OQ eR8],_,rfl,_,rfl,sz rfl,λt1 g1=>?_];have w1:=ad g1 (.tup [.int d0,.ref nb]);have s1':=s38.trans w1;refine#[_,rfl,p,C,dx',_,_,rfl,s1' _ _ k1,a7.cl,a7.nH,bc _ _,_,rfl,d,.ref ia,rfl,e1▸DGet.t (k:=nk mm.1) (s1' _ _ k2) (w1 _ _ hn8),_,rfl,?_];refine#[ia,_,rfl,s1' _ _ e2,λt2 H9 s9 e9=>?_];rw[LG]at e9;refine#[t1,t2,_,_,rfl,rfl,s9 _ _ ac,e9,sz rfl,λt3 H10 s10 e10=>?_];have w8:Same H8 H10:=w1.trans (s9.trans s10);have lra:=Zv ra;refine#[R,rs,.ref t3,rfl,rfl,w8 _ _ eR8,fF ∅,?_];have t11:=rV (ks':=rs++[.ref t3]) (w8 _ _ eR8);have g3R:H3 R=none:=gR;have s311:Same H3 ő:=cL (s38.trans w8) g3R;have eR11:upd H10 R Í R=some Í:=ac;have eA11:upd H10 R Í Aa=some û:=by rw[af (ZO nRA)];exact w8 _ _ eA8
  have hn11:=t11 _ _ (w8 _ _ hn8);have ra11:RwsAt ő (outd++[ť]) (rs++[.ref t3]):=qt ((ra8.ts (OO w8)).ts t11) (.cons #[t3,.ref nb,rfl,t11 _ _ e10,nb,rfl,hn11] .nil);have sa11:=(sa8.ts (OO w8)).ts t11;generalize upd H10 R Í=H11 at s311 eR11 eA11 hn11 ra11 sa11 ⊢;refine#[_,rfl,.inl #[rfl,_,OQ eA11],?_];refine#[_,rfl,D,rfl,#[kls,s311 _ _ lo.od.ob],_,rfl,sz rfl,λl1 gl1=>?_];have wl:=ad gl1 Æ;have el1:upd H11 l1 Æ l1=some Æ:=ac;generalize upd H11 l1 Æ=H12 at wl el1 ⊢;have lo12:=lo.same (s311.trans wl);refine#[kls,some (nk mm.1,nb),lo12.od,#[rfl,wl _ _ hn11],∅,wP (u:=some mm.1) lo12 el1 λl ks el hk=>?_];refine#[l,ks,rfl,OQ el,ul (d:=d0+1) el hk Ų (λv Hx sx Rx kx=>#[_,rfl,_,_,rfl,rfl,_,rfl,sz rfl,λt gt=>kx t gt]) (λws' pW H13 s13 pa' gW=>?_)];have wW:=ad gW ų;have w1113:Same H11 (upd H13 pW ų):=wl.trans (s13.trans wW);have lw:=Zv pa';have lsa:=Zv sa8;have dl:=df'.le;rw[Zf]at dl;rw[List.length_reverse]at lw lsa;refine#[Aa,pW,as0,ws',rfl,rfl,w1113 _ _ eA11,ac,fF ∅,?_];have t14:=rV (ks':=as0++ws') (w1113 _ _ eA11);refine#[cL (s311.trans w1113) g3A,(grp M (some mm.1)).map (λx=>(d0+1,x))++rest,outd++[ť],rst',rs++[.ref t3],as0++ws',_,_,_,df',by rw[<-eo];simp,by rw[af nRA];exact w1113 _ _ eR11,(ra11.ts Ŵ).ts t14,ac,?_,rfl];rw[List.reverse_append];exact qt ((sa11.ts Ŵ).ts t14) ((pa'.ts (OO wW)).ts t14)
def gkS(l:ņ)(t:Tk):As Nm:=if t.2.2=none/\(look l t.2.1).isSome=false then aF l t.2.1 t.1 else l
def gkl(ts:Ň):As Nm:=ts.foldl gkS []
theorem Em(ts:Ň)(t:Tk):gkl (ts++[t])=gkS (gkl ts) t:=by unfold gkl;rw[List.foldl_append];rfl
theorem Hk(l:ņ)(t:Tk):(gkS l t).length<=Ě+1:=by
 unfold gkS aF;split
 .split
  .rw[Zd];exact YR _
  .rw[Zf];exact Zi _
 .exact YR _
theorem wQ(ts:Ň):(gkl ts).length<=Ľ:=by
 have gen:∀(ts:Ň) (l:ņ),(ts.foldl gkS l).length<=Ě+Ľ:=by
  intro ts;induction ts with
  |nil=>intro l;exact Zi _
  |cons t ts ih =>intro l;have:=ih (gkS l t);have:=Hk l t;rw[List.foldl_cons,Zm];omega
 have:=gen ts [];rw[Yo,Nat.zero_add]at this;exact this
def goL(l:ņ):List (Nm×Sd):=l.map λx=>(x.2,Sd.gone x.1)
theorem xI{α β:Type}{R:ĭ}{xs:Į}{ys:į}{xs':Į}{ys':į}(h:Paired R xs ys)(h':Paired R xs' ys'):Paired R (xs++xs') (ys++ys'):=by
 induction h with
 |nil=>exact h'
 |cons r _ ih=>exact .cons r ih
theorem bH{α:Type}{l:Į}{i:ĸ}{x:α}(h:l[i]?=some x):l.take (i+1)=l.take i++[x]:=by rw[List.take_succ,h];rfl
inductive spHist(vs:OU)(H:Hp)(Q:VK)(E:XK):Prop
 |mk (l:OC) (L:L3) (W:List Str) (n:ĸ) (Φ:Ol->Prop) (h0:ż) (h1:LR3 H l L) (T:Ů) (q:∀ol rs D ys H',Φ ol->Runs (aJ (aR L)) (bo (aR L)) [] (aR L) rs->Same H H'->H' D=some (.lst ys)->Paired (SsAt H') ys (bG rs++goL (gkl Č))->Q Ŗ H'):spHist vs H Q E
abbrev jZ:Stmt:=top 43
abbrev vR:List Str:=["ready","gone","name","item","by"]
theorem eM:FnScope vR ["ready"] (aq jZ):= ~~~0
theorem uZ(F:Fun K "history_of" "history_of" jZ f fd)(b9:↑Fn 9 "takings_of" ["ready"] spTakings)(j9:↑Fn 8 "steps_of" ["ready"] spSteps):↑FnOk CX0 10 f fd ["ready"] spHist:=by
 exists eM
 exists[l,L,W,n,Φ,rfl,hL,T,q],h;exists _,(b_c (aA (i:=1) ţ mV)
   (b_c (dG ZT rfl (bD (aI b9 ↑99 Ñ)) (jl rfl (bC (aw (i:=2) ţ) (bC (aw (i:=3) ţ) (bC (aw (i:=4) ţ) fj)))) (b_1 (aT (t_w (fg (aE Gp ↑4 bX) (eO (nz Ď ↑3 ↑1)))) (b_1 (iT Ď ↑1 ↑3 ↑2)) b_0)))
   (b_1 (ax (aK vG (aI j9 ↑99 Ñ) (K1 (de (own:=["item","name"]) Ð rfl (Ho ↑1) (λ_ _ _ _=>hJ (K:=K) (n:=2) rfl rfl (bC (aw (i:=0) (show (["item","name"]:List Str).Nodup by decide)) (bC (aw (i:=1) (show (["item","name"]:List Str).Nodup by decide)) fj))) ê Ô (λ_ _ _ _=>(aD (q_a ↑1 (q_a (aD (q_a ar Ñ)) ah)))))))))))
 intro g gg;have s0:=ad gg ŗ;have eg:upd H g ŗ g=some ŗ:=ac;have hL0:=hL.same s0;refine#[_,rfl,l,L,W,n,Φ,rfl,hL0,T,λol tl ys H1 hΦ s1 etl pr=>?_];have lts:(aX ol Ã).length<=63:=by refine Zs Ũ ?_;have:=T.len;rw[Zd];unfold aZ;rw[Zd];refine Zs ğ ?_;rw[List.length_zip];omega
 generalize hts:aX ol Ã=ts at pr lts;have eg1:=s1 _ _ eg;have ngt:tl≠g:=λz=>by rw[z,eg1]at etl;cases etl
 refine#[tl,rfl,#[_,OQ etl],?_];have nt:∀{b:OC} {zs:OU},H1 b=some (.tup zs)->b≠g:=fun{b zs} e z=>by rw[z,eg1]at e;cases e
 refine eh (K:=K) (a:=tl) (xs:=ys) (λi Y H'=>(∀b o,b≠g->H1 b=some o->H' b=some o)/\∃(kvs:OT) (o2 o3 o4:ş),H' g=some ħ/\Rws (λv n=>NameIs H' v (nk n)) kvs (gkl ĳ)/\Y=[some Ř,some (.ref g),o2,o3,o4])
  #[λb o _ e=>e,[],none,none,none,eg1,.nil,rfl] (λi Y H' _ z=>OQ (z.1 _ _ ngt etl)) ?_ ?_
 .rintro i v Y H' hv ⟨kp,kvs,o2,o3,o4,hg,hk,rfl⟩ DL hDL;exists[r,hx,t,nv,iv,bv,rfl,e1,e2,e3,e4],aP pr hv;have tS:TS H1 H':=λb zs e=>kp b _ (nt e) e;have e1:=tS _ _ e1;have e2:=e2.ts' tS;have e3:=e3.ts' tS;have e4:=e4.ts tS;have hi:i<Ľ:=(Zu.mp hx).1;have lk:=bS hk;have l1:=wQ ĳ;rw[ZY]at l1;refine#[t,_,rfl,OP e1,rfl,_,_,rfl,_,_,rfl,_,_,rfl,rfl,?_];rw[bH hx,Em]at hDL;unfold gkS at hDL;cases hb:r.2.2 with
  |some y =>rw[hb]at e4;exists[yb,rfl,_],id e4;refine#[_,rfl,rfl,_,rfl,Gm nofun (hDL _ _ #[kp,kvs,_,_,_,hg,?_,rfl])];rw[Ow λz=>by rw[hb]at z;cases z.1];exact hk
  |none =>
   rw[hb]at e4;obtain rfl:bv=.non:=e4;refine#[_,rfl,rfl,_,rfl,cU ?_];exists[ib,rfl,hib],id e3;refine#[_,rfl,_,rfl,g,_,rfl,DGet.t (k:=nk r.2.1) hg hib,_,rfl,?_];rw[iF hk];cases c:(look (gkl ĳ) r.2.1).isSome with
   |true =>refine aC (hDL _ _ #[kp,kvs,_,_,_,hg,?_,rfl]);rw[Ow λz=>by rw[c]at z;cases z.2];exact hk
   |false =>refine aQ #[_,rfl,_,rfl,_,rfl,g,_,rfl,DPut.t (k:=nk r.2.1) hg hib (aU ∅),hDL _ _ #[λb o n e=>by rw[af n];exact kp b o n e,_,_,_,_,ac,?_,rfl]];rw[Ox #[hb,c]];have td:=ky (kvs':=bj kvs (nk r.2.1) nv) hg;exact Paired.mapP (fB hk e2) λ_ _ z=>#[z.1,z.2.ts' td]
 .rintro Y H' ⟨kp,kvs,o2,o3,o4,hg,hk,rfl⟩;rw[Zv pr,ZC]at hk;have lk:=bS hk;have l1:=wQ ts;have S':Same H H':=λb o e=>kp b o Ō (s1 _ _ (s0 _ _ e));have hL':=hL.same S';refine#[_,rfl,l,aH L,aR L,rfl,hL'.1,lG hL'.2,by have:=T.len;unfold aR;rw[Zd];exact this,T.safe,λa2 ys2 rs H2 s2 ea2 pa2 run=>?_];have hg2:=s2 _ _ hg;have hk2:Rws (λv n=>NameIs H2 v (nk n)) kvs (gkl ts):=Paired.mapP hk λ_ _ z=>#[z.1,z.2.same s2]
  refine#[_,rfl,g,kvs,rfl,hg2,λob=>?_];have nt2:∀{b:OC} {zs:OU},H2 b=some (.tup zs)->b≠g:=fun{b zs} e z=>by rw[z,hg2]at e;cases e
  refine Eb (o:=ob) (kvs:=kvs) (λi zs HH=>(∀b o,b≠g->H2 b=some o->HH b=some o)/\HH g=some (.frz ob ħ)/\ľ=i/\Paired (SsAt HH) zs (goL ((gkl ts).take i))) ∅ (λ_ _ _ z=>by rw[z.2.2.1];exact Zi _) #[λb o n e=>by rw[af n];exact e,ac,rfl,.nil] (λi zs HH z=>z.2.1) ?_ ?_
  .rintro i zs HH p b T' hp hb gT ⟨kp2,hgf,lz,pz⟩ Yq0 hY;exists[x,hx,ex1,ex2],aP hk2 hp;have ex2:=ex2.ts' (H':=HH) λb zs e=>kp2 b _ (nt2 e) e;have wT:=ad gT (.tup [.ref b,p.2]);refine#[T',_,rfl,OP ac,rfl,_,_,rfl,_,_,rfl,rfl,?_];refine#[_,rfl,_,rfl,sz rfl,λu gu=>#[sz rfl,λz gz=>?_]];have wu:=ad gu (.tup [.str "gone",.ref b]);have wz:=ad gz (.tup [p.2,.ref u]);have sA:=wT.trans (wu.trans wz);refine hY _ _ #[λc o n e=>sA _ _ (kp2 c o n e),sA _ _ hgf,by rw[Zf,lz];rfl,?_];rw[bH hx];unfold goL;rw[ZA];rw[ex1]at hb;exact xI (Paired.mapP pz λ_ _ v=>v.ts (OO sA)) (.cons #[z,u,p.2,rfl,ac,ex2.same sA,#[.ref b,wz _ _ ac,#[b,rfl,sA _ _ hb]]] .nil)
  .rintro zs pl HH ⟨kp2,hgf,lz,pz⟩ gpl;have wpl:=ad gpl ć;rw[lk,ZC]at pz;have epl:upd HH pl ć pl=some ć:=ac;have kpl:∀b o,b≠g->H2 b=some o->upd HH pl ć b=some o:=λb o n e=>wpl _ _ (kp2 b o n e);have hgl:=wpl _ _ hgf;have pzl:=Paired.mapP pz λ_ _ v=>v.ts (OO wpl);generalize upd HH pl ć=HP at epl kpl hgl pzl ⊢;refine#[g,ob,_,hgl,Loose.non gg,?_];have ng2:a2≠g:=λz=>by rw[z,hg2]at ea2;cases ea2
   have ngp:pl≠g:=λz=>by rw[z,hgl]at epl;cases epl
   have tsg:TS HP ś:=λb ws e=>by rw[af (bw e hgl nofun)];exact e
   have lz2:ľ<=63:=∅
   have ly2:ů<=63:=by rw[Zv pa2];unfold bG;refine Zs đ ?_;have h1:=Z2 List.length (T.words rs run).2;have h2:=T.len;rw[Zd,Zd]at h1;unfold aR at h1;rw[Zd]at h1;omega
   refine#[a2,pl,ys2,zs,rfl,rfl,by rw[af ng2];exact kpl _ _ ng2 ea2,by rw[af ngp];exact epl,fF ∅,λr gr=>?_];have wr:=ad gr ł;have T2:TS H2 (upd ś r ł):=λb ws e=>OO wr _ _ (tsg _ _ (kpl _ _ (nt2 e) e));refine q ol rs r _ _ hΦ run (λb o e=>wr _ _ (by rw[af Ō];exact kpl b o Ō (s2 _ _ (S' _ _ e)))) ac ?_;rw[hts];exact xI (Paired.mapP pa2 λ_ _ v=>v.ts T2) (Paired.mapP pzl λ_ _ v=>v.ts λb ws e=>OO wr _ _ (tsg _ _ e))
def gsF(gs:ŭ)(l:ņ):As Unit:=l.foldl (λg x=>aF g x.1 ()) gs
theorem Fz:(aF gs n ()).length<=ſ+1:=by
 unfold aF;split
 .rw[Zd];exact YR _
 .rw[Zf];exact Zi _
theorem uI{Ψ:Ol->As Unit->Prop}(sm:Small ol):∀{l:ņ} {gs:ŭ},(∀x∈l,(look ol x.1).isSome=true)->ſ+Ě<=63->Ψ ol (gsF gs l)->my Ψ ol gs ((goL l).map Prod.snd)
 | [],_,_,_,h=>h
 |x::l,gs,hi,hz,h=>by
  rw[Zm]at hz;have hs:=Fz (gs:=gs) (n:=x.1);refine#[sm,∅,λn hn=>(nomatch hn),λn hn=>?_,.gone,λol' ap=>?_]
  .rw[Zh.mp hn];exact hi x Zn
  .cases ap;exact uI sm (l:=l) (gs:=aF gs x.1 ()) (λy hy=>hi y (Zj _ hy)) ∅ h
theorem xY{ts:List Sd}:∀{ss:List Sd} {ol:Ol},(∀s∈ss,∀n,s≠.gone n)->iK Φ ol ss->(∀ol',Φ ol'->my Ψ ol' [] ts)->my Ψ ol [] (ss++ts)
 | [],_,_,h,k=>k _ h
 |s::ss,ol,ng,h,k=>by exists[small,nw,hh,hb,nxt],h;refine#[small,ZL _,nw,hh,hb,λol' ap=>?_];rw[oY (ng s Zn)];exact xY (λx hx=>ng x (Zj _ hx)) (nxt ol' ap) k
inductive spOutl(C:OC)(vs:OU)(H:Hp)(Q:VK)(E:XK):Prop
 |mk (l:OC) (L:L3) (W:List Str) (n:ĸ) (Φ:Ol->Prop) (h0:ż) (h1:LR3 H l L) (T:Ů) (hi:∀ol,Φ ol->Small ol/\∀ol',Φ ol'->∀x∈gkl Č,(look ol' x.1).isSome=true) (q:∀ol ol' p d g H',Φ ol->Φ ol'->Same H H'->OlAt C H' p d g ol'->GoneAt H' g (gsF [] (gkl Č))->Q ą H'):spOutl C vs H Q E
abbrev kh:Stmt:=top 44
abbrev vT:List Str:=["ready"]
theorem vt:FnScope vT ["ready"] (aq kh):= ~~~0
theorem ve(F:Fun K "outline_of" "outline_of" kh f fd)(v8:↑Fn 10 "history_of" ["ready"] spHist)(k9:↑Fn 5 "stepped" ["steps"] (spSteppedA C)):↑FnOk CX0 11 f fd ["ready"] (spOutl C):=by
 exists vt
 exists[l,L,W,n,Φ,rfl,hL,T,hi,q],h;exists _,(b_1 (ax (aI k9 ↑99 (q_a (de (own:=["name","step"]) Ð rfl (bD (aI v8 ↑99 Ñ)) (λ_ _ _ _=>hJ (K:=K) (n:=2) rfl rfl (bC (aw (i:=0) (show(["name","step"]:List Str).Nodup by decide)) (bC (aw (i:=1) (show(["name","step"]:List Str).Nodup by decide)) fj))) ê Ô (λ_ _ _ _=>↑1)) ah))))
 refine#[_,rfl,l,L,W,n,Φ,rfl,hL,T,λol rs a2 ys2 H3 hΦ run s3 ea2 pa2=>#[a2,rfl,#[_,OQ ea2],?_]];have lts:(gkl Č).length<=63:=by refine Zs (wQ _) (Zs Ũ ?_);have:=T.len;rw[Zd];unfold aZ;rw[Zd];refine Zs ğ ?_;rw[List.length_zip];omega
 have lrs:(bG rs).length<=63:=by unfold bG;refine Zs đ ?_;have h1:=Z2 List.length (T.words rs run).2;have h2:=T.len;rw[Zd,Zd]at h1;unfold aR at h1;rw[Zd]at h1;omega
 have q:=λol'=>q ol ol';have hi':=λol' h'=>(hi ol hΦ).2 ol' h';generalize gkl Č=gl at pa2 lts q hi';have ly2:ů<=130:=by rw[Zv pa2,Zf];unfold goL;rw[Zd];omega
 refine bz (λi zs H'=>Same H3 H'/\ľ<=i/\Paired (StV H') zs (((bG rs++goL gl).take i).map Prod.snd)) ∅ ķ #[Same.refl _,Zi _,.nil] (λi zs H' z=>OQ (z.1 _ _ ea2)) ?_ ?_
 .rintro i zs H' v hv ⟨sm,lz,pz⟩ Yq0 hY;exists[r,hr',t,st,nv,rfl,e1,e2,e3],aP pa2 hv;refine#[t,_,rfl,OP (sm _ _ e1),rfl,_,_,rfl,_,_,rfl,rfl,?_];refine#[_,rfl,hY _ _ #[sm,by rw[Zf];exact ZP lz,?_]];rw[bH hr',ZA];exact xI pz (.cons #[st,rfl,e3.ts (OO sm)] .nil)
 rintro zs lz H4 ⟨sm,lzs,pz⟩ glz;rw[Zv pa2,ZC,ZA]at pz;have wlz:=ad glz ć;refine#[lz,zs,_,λol' gs=>Φ ol'/\gs=gsF [] gl,rfl,ac,Paired.mapP pz λ_ _ (z:StV _ _ _)=>z.ts (OO wlz),xY (zQ run) (T.steps rs run) λol' h'=>uI (hi ol' h').1 (hi' ol' h') (by rw[Yo];omega) #[h',rfl],λp d g ol' gs H5 s5 O G z=>?_];exists[z1,rfl],z;exact q ol' p d g H5 hΦ z1 (s3.trans (sm.trans (wlz.trans s5))) O G
abbrev jd:Stmt:=cz (top 19) 8
abbrev uR:List Str:=["self"]
theorem tM:FnScope uR ["self"] (aq jd):= ~~~0
theorem sS(F:Fun K "names" "Plain.names" jd f fd)(T:Txt K C)(j3:mg "list" = none):↑FnOk CX0 1 f fd ["self"] (spNames C):=by
 exists tM
 exists[p,d,g,kvs,gvs,rfl,S,q],h;obtain⟨⟨dx,h1⟩,h2,h3,h4⟩:=id S;refine#[_,(b_1 (ax (mU (su rfl) j3 gP (q_a (cH ↑0) ah)))),?_];exact#[_,rfl,p,C,dx,_,_,rfl,h1,T.cl,T.nH,bc _ _,d,kvs,rfl,.inl h2,λl ks hl hk=>q l ks hl hk]
def md:Sp:=λvs H Q _=>∃(a:OC) (d:D3),vs=[.ref a]/\DA H a d/\∀t H',Same H H'->H' t=some (.tup ((nk (nm3 d)).map kV))->Q Ŕ H'
abbrev xT:Stmt:=top 51
abbrev Jm:List Str:=["_law_deed"]
theorem IM:FnScope Jm ["_law_deed"] (aq xT):= ~~~0
theorem HN(F:Fun K "_law_name" "_law_name" xT f fd):↑FnOk CX0 1 f fd ["_law_deed"] md:=by
 exists IM
 obtain⟨a,d,rfl,⟨c,wa,e1,e2,e3,e4,e5⟩,q⟩:=h;exists _,(b_1 (ax (aD (q_a ĕ (q_a (am ao ĕ ĕ) ah)))))
 refine#[_,rfl,a,_,_,_,rfl,rfl,OP e1,at0,_,rfl,a,_,_,_,rfl,rfl,OP e1,at1,_,rfl,a,_,_,_,rfl,rfl,OP e1,at0,c,_,_,_,rfl,rfl,OP e2,fu e4,sz rfl,λp g=>?_];exact q p _ (ad g _) ac
abbrev oA:Stmt:=top 46
abbrev BG:List Str:=["_law_script","_law_k"]
theorem Bi:FnScope BG ["_law_script","_law_k"] (aq oA):= ~~~0
theorem AW(F:Fun K "_law_cell_at" "_law_cell_at" oA f fd)(a8:ü):↑FnOk CX0 1 f fd ["_law_script","_law_k"] (spCell K):=by
 exists Bi
 exists[a,ns,k,rfl,hS,h0,q],h;refine#[_,(b_c (aT (aE AU ↑1 (q_B gX a8 Ya Ñ)) (b_1 (ax (am bV ↑0 ↑1))) b_0)
   (b_1 (ax ai))),?_]
 refine#[_,rfl,_,rfl,a,_,rfl,.inl hS,_,_,rfl,rfl,_,rfl,?_];refine MN (λc=>?_) (λc=>?_)
 .have c':k<ė:=y0 c;rw[Zd]at c';exact#[_,rfl,_,rfl,a,_,_,_,rfl,rfl,hS,iA h0 c',q]
 .have c':¬k<ė:=of_decide_eq_false (Bool.eq_false_iff.mpr c);rw[Zd]at c';rw[D9 h0 c']at q;exact q
def eC:Str:="abc XYZ019 ,.-!~'(){}#&*+/:;<=>?\x40[]^_|$"
theorem iW:Ŀ=39/\İ=39:=⋯
theorem FE:∀c∈ï,c<0x110000:=⋯
theorem zn:∀l:List Str,(∀s∈l,PyData.strOk s=true/\s.length=1)->PyData.strOk (Str.join "" l)=true/\(Str.join "" l).length=Ě
 | [],_=>#[⋯,⋯]
 | [x],h=>#[(h x é).1,(h x é).2]
 |x::y::r,h=>by
  exists[i1,i2],zn (y::r) λs hs=>h s (Zj _ hs);exists[x1,x2],h x é;have e:Str.join "" (x::y::r)=x++("":Str)++Str.join "" (y::r):=rfl;have e0:("":Str).length=0:=⋯
  rw[e];exact#[CT (CT x1 ⋯) i1,by rw[sL,sL,x2,i2,e0];simp only[Zm];omega]
theorem yh:∀l:List Str,(∀s∈l,s.length=1)->(l.map (·.length)).sum=Ě
 | [],_=>rfl
 |x::l,h=>by rw[Zr,List.sum_cons,Zm,h x Zn,yh l λs hs=>h s (Zj _ hs)];omega
def zT:Sp:=λvs H Q _=>∃n:Int,vs=[.int n]/\∀(t:Str) (H':Hp),sj t->Same H H'->Q (.str t) H'
abbrev xV:Stmt:=top 47
abbrev Jo:List Str:=["_law_n","_law_some"]
theorem zR:FnScope Jo ["_law_n"] (aq xV):= ~~~0
theorem HR(F:Fun K "_law_text" "_law_text" xV f fd)(u4:ň)(a8:ü):↑FnOk CX0 1 f fd ["_law_n"] zT:=by
 exists zR
 exists[c,rfl,q],h;refine#[_,(b_c (aA (i:=1) zR.nd ar)
   (b_1 (ax (KZ ar (de (own:=["_law_k"]) (#[rfl,⋯,⋯,rfl,#[rfl,rfl,#[rfl,rfl,trivial]]]:CompOk _ _ [1,0] ["_law_some","_law_n"]) rfl (wZ u4 (q_a Õ ah)) (λ_ _ _ _=>aw (i:=0) (show (["_law_k","_law_some","_law_n"]:List Str).Nodup by decide)) Đ Ô (λ_ _ _ _=>(am MD ↑1 (aK cS (aK ge (aK eK ↑2 (aK ge ↑0 ai)) (aK mR ↑0 ↑0)) (q_B BO a8 Ya Û))))))))),?_]
 have c0:=y9 c (show(6:Ò)≠0 by decide);have c1:=Ye c (show(0:Ò)<6 by decide);have sg:∀n:Int,∃ch,atI ï (n%39)=some ch/\ch∈ï:=λn=>by
  have k0:=y9 n (show(39:Ò)≠0 by decide);have k1:=Ye n (show(0:Ò)<39 by decide);have hz:(n%39).toNat<İ:=by rw[iW.2];omega
  have:=fG (xs:=ï) (Ze hz);rw[show(((n%39).toNat:Nat):Int)=n%39 by omega]at this;exact#[_,this,ZG hz]
 let ix:Nat->Int:=λi=>c / (0+(i:Ò)+1)+ŵ*ŵ
 let sgn:Nat->Str:=λi=>#[Ê]
 have sgo:∀i,PyData.strOk Ŧ=true/\(sgn i).length=1:=λi=>by exists[ch,e1,e2],sg (ix i);refine#[?_,rfl];show(Ê:OK).all (·<0x110000)=true;rw[e1];simp[FE ch e2]
 refine#[rfl,?_];refine#[_,rfl,_,_,rfl,rfl,(by show(0:Ò)<6;decide),_,rfl,∅,∅,?_];refine qM (λi=>.str Ŧ) ∅ (λi H1 hi s1 R k=>?_) (λl H1 s1 gl=>?_)
 .exists[ch,e1,e2],sg (ix i);have k':=k H1 Ŝ;refine#[_,rfl,_,rfl,_,rfl,_,_,rfl,rfl,_,_,rfl,rfl,#[∅,∅],_,rfl,_,rfl,_,_,rfl,rfl,.inl #[∅,∅],_,_,rfl,rfl,_,rfl,eC,rfl,by rw[iW.1];decide,_,_,rfl,rfl,(by show(0:Ò)<(Ŀ:Int);rw[iW.1];decide),eC,_,ch,rfl,rfl,fF (by rw[iW.1];decide),?_,?_]
  .show atI ï (ix i%(Ŀ:Int))=some ch;rw[iW.1];exact e1
  .have:sgn i=#[(List.toArray [ch])]:=by show(#[Ê]:Str)=_;rw[e1];rfl
   rw[this]at k';exact k'
 .have em:((List.range (c%6).toNat).map λi=>V.str Ŧ)=((List.range (c%6).toNat).map sgn).map V.str:=by rw[Z4];rfl
  have jo:=zn Ü λs hs=>by exists[i,_,rfl],Zt.mp hs;exact sgo i
  rw[Zd,YW]at jo;have ej:Txt.join "" Ü=Str.join "" Ü:=StrLaws.glued_eq_join _ _;refine#["",l,(List.range (c%6).toNat).map sgn,rfl,rfl,?_,?_,?_]
  .rw[em];exact OQ ac
  .have e0:("":Str).length=0:=⋯
   rw[yh _ λs hs=>by exists[i,_,rfl],Zt.mp hs;exact(sgo i).2,e0,Zd,YW];omega
  .rw[ej];exact q _ _ #[jo.1,∅] (s1.trans (ad gl _))
def GV(H:Hp)(v:V):Prop:=∃(t:OC) (wd:Wd),v=.ref t/\WhAt H t wd/\DOk wd
theorem GV.same(x:GV H v)(s:Same H H'):GV H' v:=by exists[t,wd,h1,h2,h3],x;exact#[t,wd,h1,h2.ts (OO s),h3]
theorem Ef(ns:OJ)(lo hi:Option Int):∃ms:OJ,bY (ns.map V.int) lo hi=ms.map V.int:=by refine#[(ns.drop (HT.sIx (ns.map V.int).length 0 lo)).take (HT.sIx (ns.map V.int).length (ns.map V.int).length hi-HT.sIx (ns.map V.int).length 0 lo),?_];unfold bY;rw[List.map_take,List.map_drop]
theorem Go(p:š){i:Ò}(h0:0<=i)(h1:i<Ç):∃v n,atI xs i=some v/\NameIs H v (nk n):=by exists[v,e1,e2],At h0 h1;exists[n,_,e3],aP p e2;exact#[v,n,e1,e3]
theorem Mx(p:š){i:Ò}(h0:0<=i)(h1:i<Ç+1):∃v u,atI (xs++[.non]) i=some v/\UpAt H v u:=by
 exists[v,e1,e2],At (xs:=xs++[.non]) h0 (by rw[Zf];show i<((Ç+1:Nat):Int);omega);by_cases c:i.toNat<Ç
 .rw[List.getElem?_append_left c]at e2;exists[n,_,e3],aP p e2;exact#[v,some n,e1,e3]
 .rw[Ys ∅]at e2;have:i.toNat-Ç=0:=∅
  rw[this]at e2;cases e2;exact#[_,none,e1,rfl]
theorem JN{i:Ò}(h:∀v∈xs,GV H v)(h0:0<=i)(h1:i<Ç):∃v,atI xs i=some v/\GV H v:=by exists[v,e1,e2],At h0 h1;exact#[v,e1,h v (ZI e2)]
def DB:Sp:=λvs H Q _=>∃(n number hands:Ò) (l:OC) (xs:OU) (ns:List Nm),vs=[.int n,.ref l,.int number,.int hands]/\H l=some (.lst xs)/\NmsAt H xs ns/\Ç<=100/\1<=number/\1<=hands/\0<=n/\∀v H',Same H H'->GV H' v->Q v H'
abbrev xX:Stmt:=top 48
abbrev Jq:List Str:=["_law_n","_law_pool","_law_number","_law_hands","_law_word","_law_spot","_law_up","_law_here","_law_there","_law_truth","_law_some"]
theorem dZ:FnScope Jq ["_law_n","_law_pool","_law_number","_law_hands"] (aq xX):= ~~~0
theorem HU(F:Fun K "_law_what" "_law_what" xX f fd)(NL:↑Fn 1 "_law_text" ["_law_n"] zT)(a8:ü):↑FnOk CX0 2 f fd ["_law_n","_law_pool","_law_number","_law_hands"] DB:=by
 exists dZ
 exists[n0,nr,hs,l,xs,ns,rfl,hl,hp,l1,n1,h1,h0,q],h;exists _,(b_c (aA (i:=4) Ē Õ)
   (b_c (aA (i:=0) Ē Ì)
   (b_c (aT (aE bO ↑4 ai) (b_c (aT (aE bO ↑2 ai) (b_1 (ax (aD (q_a ar ah)))) b_0)
   (b_1 (ax (aD (q_a (am bV (bA (q_a ar ı)) Õ) (q_a (aK ge ai (aK cS Ì (aK AV ↑2 ai))) ah)))))) b_0)
   (b_c (aA (i:=5) Ē (eE dN (aD (q_a (aK AV Õ ai) (q_a ŝ ah))) eV (dW (aK ge ai ŝ))))
   (b_c (aA (i:=6) Ē (am bV (aK vG ↑1 (bA (q_a bX ah))) (aK cS Ì (aK ge (q_B gX a8 Ya Û) ai))))
   (b_c (aT (t_w (yq (aE AU ↑4 ai) (rW (aE (ik Ď) ↑1 ě)))) (b_1 (ax (aD (q_a ar (q_a ↑6 (q_a ↑5 (q_a (aI NL ↑99 (q_a Ì ah)) ah))))))) b_0)
   (b_c (aA (i:=7) Ē ø)
   (b_c (aA (i:=8) Ē ø)
   (b_c (aA (i:=9) Ē (cG bO Õ ai))
   (b_c (aA (i:=10) Ē (bA (q_a î (q_a î (q_a (aD (q_a ar (q_a ↑7 (q_a (aI NL ↑99 Ñ) ah)))) (q_a ā ah))))))
   (b_c (aA (i:=10) Ē (aK vG ↑10 (bA (q_a (aD (q_a ar (q_a ↑7 (q_a (am bV (bA (q_a bX (q_a (aK cS Ì ↑3) ah))) Õ) ah)))) (q_a ā (q_a (aD (q_a ar (q_a ↑7 (q_a Õ (q_a ↑5 ah))))) ah))))))
   (b_c (aA (i:=10) Ē (aK vG ↑10 (bA (q_a (aD (q_a ar (q_a ↑7 (q_a ↑8 ah)))) (q_a Ę (q_a Ę ah))))))
   (b_1 (ax (am bV ↑10 (aK AV ↑4 ai))))))))))))))))
 refine#[_,rfl,_,_,rfl,rfl,(by show(0:Ò)<15;decide),?_];refine#[_,rfl,_,_,rfl,rfl,#[⋯,⋯],?_];have w0:=y9 n0 (show(15:Ò)≠0 by decide);have w1:=Ye n0 (show(0:Ò)<15 by decide);have m0:0<=n0 / 15:=Int.ediv_nonneg h0 ⋯;dsimp only;generalize n0%15=wo at w0 w1 ⊢;generalize n0 / 15=n at m0 ⊢;refine#[_,rfl,rfl,_,rfl,Ew (λe14=>?_) (λn14=>?_)]
 .refine#[_,rfl,rfl,_,rfl,Ew Ŷ Ŷ]
  .exact#[sz rfl,λt gt=>q _ _ (ad gt _) #[t,.none,rfl,#[[],ac,rfl],trivial]]
  .have k0:=y9 n (show(3:Ò)≠0 by decide);have k1:=Ye n (show(0:Ò)<3 by decide);obtain⟨b,hb⟩:∃b:Bool,atI [V.str "off",.str "off",.str "on"] (n%3)=some (.str â):=by
    rcases(show n%3=0\/n%3=1\/n%3=2 by omega)with z|z|z
    .rw[z];exact#[false,at0]
    .rw[z];exact#[false,at1]
    .rw[z];exact#[true,at2]
   refine#[sz rfl,λl3 g3=>?_];refine#[_,rfl,_,_,rfl,rfl,(by show(0:Ò)<3;decide),l3,_,_,_,rfl,rfl,OQ ac,hb,?_];refine#[_,rfl,_,_,rfl,rfl,#[⋯,⋯],_,rfl,_,_,rfl,rfl,_,_,rfl,rfl,(by show(0:Ò)<nr-1;omega),_,_,rfl,rfl,sz rfl,λt gt=>?_];have up:upd (upd H l3 (.lst [V.str "off",.str "off",.str "on"])) t Ġ t=some Ġ:=ac;cases b with
   |false=>exact q _ _ ę #[t,.off Ú,rfl,#[[.int Ú],up,rfl],trivial]
   |true=>exact q _ _ ę #[t,.on Ú,rfl,#[[.int Ú],up,rfl],trivial]
 try dsimp only[jq]
 refine aB λR1 hR1=>?_;refine#[_,rfl,_,_,rfl,rfl,ġ,_,_,rfl,rfl,_,rfl,_,_,rfl,rfl,#[⋯,⋯],_,_,rfl,rfl,(by show(0:Ò)<5;decide),sz rfl,λts gts=>?_];refine#[_,rfl,_,_,rfl,rfl,#[⋯,⋯],_,_,rfl,rfl,ñ,_,_,rfl,rfl,_,rfl,ts,_,rfl,ac,λsp H1 s1 e1=>hR1 _ _ ?_];exists[pl,epl],Ef [n%7-3,n / 7%5] none (some (1+n / 35%2));have e1':H1 sp=some Ī:=by rw[<-epl];exact e1
 have S1:Same H H1:=(ad gts _).trans s1
 try dsimp only[jq]
 refine aB λR1 hR1=>?_;refine#[_,rfl,sz rfl,λpn gpn=>?_];have v1:=ad gpn (.lst [.non]);have S2:=S1.trans v1;refine#[l,pn,_,_,rfl,rfl,S2 _ _ hl,ac,fF (by show Ç+1<=1000;omega),λlc glc=>?_];have v2:=ad glc Ć;have S3:=S2.trans v2;have u0:=y9 Ĝ (show((Ç:Ò)+1)≠0 by omega);have u1:=Ye Ĝ (show(0:Ò)<(Ç:Ò)+1 by omega);exists[uv,u,hu1,hu2],Mx (hp.ts (OO S3)) u0 u1;refine#[_,rfl,_,_,rfl,rfl,#[⋯,⋯],_,rfl,l,_,rfl,.inl (OQ ũ),_,_,rfl,rfl,_,_,rfl,rfl,(by show(0:Ò)<(Ç:Ò)+1;omega),lc,_,_,_,rfl,rfl,OQ ac,hu1,hR1 _ _ ?_];have e3:upd ĝ lc Ć sp=some Ī:=v2 _ _ (v1 _ _ e1');generalize upd ĝ lc Ć=H3 at S3 hu2 e3 ⊢;have plA:∀{H'},Same H3 H'->PlAt H' (.ref sp) pl:=λs=>#[sp,rfl,s _ _ e3]
 have put:∀{H4 H5:Hp} {t:OC} {tx:Str},Same H3 H4->Same H4 H5->H5 t=none->sj tx->Q Ŕ (upd H5 t Ă):=fun{H4 H5 t tx} s4 s5 gt ok=>by have s6:=s4.trans (s5.trans (ad gt Ă));exact q _ _ (S3.trans s6) #[t,.put u pl tx,rfl,#[[uv,.ref sp,.str tx],ac,uv,.ref sp,rfl,hu2.ts (OO s6),plA s6],ok]
 by_cases cw:wo<4
 .refine#[_,rfl,_,_,rfl,rfl,_,rfl,?_];rw[decide_eq_true cw];refine aQ (aQ ?_);exact#[_,rfl,_,rfl,_,rfl,_,_,rfl,rfl,#[⋯,⋯],_,rfl,λtx H5 ok s5=>#[sz rfl,λt gt=>put Ŝ s5 gt ok]]
 refine#[_,rfl,_,_,rfl,rfl,_,rfl,?_];rw[decide_eq_false cw];refine aC #[_,rfl,sz rfl,λpe gpe=>?_];have vp:=ad gpe Æ;have hl4:=vp _ _ ũ;exists[d1,d2],qr hl4 (hp.ts (OO (S3.trans vp)));refine#[_,_,d1,JI ac,d2,J6,_,rfl,?_];cases xs with
 |nil =>cases hp;refine aQ ?_;exact#[_,rfl,_,rfl,_,rfl,_,_,rfl,rfl,#[⋯,⋯],_,rfl,λtx H5 ok s5=>#[sz rfl,λt gt=>put vp s5 gt ok]]
 |cons x0 xr =>
 obtain⟨m0',mr,rfl⟩:∃m mr,ns=m::mr:=by
  cases hp with
  |cons _ _=>exact#[_,_,rfl]
 refine aC ?_;have S4:=S3.trans vp;have hu4:=hu2.ts (OO vp);have e4:=vp _ _ e3;generalize upd H3 pe Æ=H4 at S4 hl4 hu4 e4 ⊢;generalize hX:x0::xr=xs at *;have xl:0<Ç:=by rw[<-hX];exact Xb _
 have hp4:=hp.ts (OO S4);have a0:=y9 (n / 70) (show(Ç:Ò)≠0 by omega);have a1:=Ye (n / 70) (show(0:Ò)<(Ç:Ò) by omega);have b0:=y9 Ĝ (show(Ç:Ò)≠0 by omega);have b1:=Ye Ĝ (show(0:Ò)<(Ç:Ò) by omega);exists[hv,hn,ha1,ha2],Go hp4 a0 a1;exists[tv,tn,hb1,hb2],Go hp4 b0 b1
 try dsimp only[jq]
 refine aB λR1 hR1=>?_;refine#[_,rfl,_,rfl,_,_,rfl,rfl,#[⋯,⋯],_,rfl,l,_,rfl,.inl (OQ hl4),_,_,rfl,rfl,Ĕ,l,_,_,_,rfl,rfl,OQ hl4,ha1,hR1 _ _ ?_]
 try dsimp only[jq]
 refine aB λR1 hR1=>?_;refine#[_,rfl,_,rfl,_,_,rfl,rfl,#[⋯,⋯],_,rfl,l,_,rfl,.inl (OQ hl4),_,_,rfl,rfl,Ĕ,l,_,_,_,rfl,rfl,OQ hl4,hb1,hR1 _ _ ?_]
 try dsimp only[jq]
 refine aB λR1 hR1=>?_;refine#[_,rfl,_,_,rfl,rfl,ñ,rfl,hR1 _ _ ?_];generalize decide ((λi j=>V.int (i%j)) n 2=V.int 0)=tb;have nmA:∀{H'},Same H4 H'->NameIs H' hv (nk hn)/\NameIs H' tv (nk tn)/\UpAt H' uv u/\PlAt H' (.ref sp) pl:=λs=>#[ha2.same s,hb2.same s,hu4.ts (OO s),sp,rfl,s _ _ e4]
 try dsimp only[jq]
 refine aB λR1 hR1=>?_;refine#[_,rfl,_,rfl,_,rfl,sz rfl,λt1 g1=>?_];have y1:=ad g1 Ä;have z1:upd H4 t1 Ä t1=_:=ac;generalize upd H4 t1 Ä=A1 at y1 z1 ⊢;refine#[_,rfl,_,rfl,_,rfl,sz rfl,λt2 g2=>?_];have y2:=ad g2 Ä;have z2:upd A1 t2 Ä t2=_:=ac;generalize upd A1 t2 Ä=A2 at y2 z2 ⊢;refine#[_,rfl,_,rfl,_,rfl,λtx A3 ok y3=>#[sz rfl,λt3 g3=>?_]];have y4:=ad g3 Ý;have z3:upd A3 t3 Ý t3=_:=ac;generalize upd A3 t3 Ý=A4 at y4 z3 ⊢;refine#[_,rfl,_,rfl,sz rfl,λt4 g4=>?_];have y5:=ad g4 ã;have z4:upd A4 t4 ã t4=_:=ac;generalize upd A4 t4 ã=A5 at y5 z4 ⊢;refine#[sz rfl,λk1 gk1=>?_];have y6:=ad gk1 Ö;have z5:upd A5 k1 Ö k1=_:=ac;refine hR1 _ _ ?_;generalize upd A5 k1 Ö=A6 at y6 z5 ⊢;have x6:=y5.trans y6;have x5:=y4.trans x6;have x3:=y3.trans x5;have x2:=y2.trans x3;have x1:=y1.trans x2;have G6:∀v∈[V.ref t1,.ref t2,.ref t3,.ref t4],GV A6 v:=λv hv'=>by
  exists[n1,n2,n3,n4],nmA x1;simp only[Zg,ZB,Z9]at hv';rcases hv' with rfl|rfl|rfl|rfl
  .exact#[t1,.move hn u pl,rfl,#[_,x2 _ _ z1,hv,uv,.ref sp,rfl,n1,n3,n4],trivial]
  .exact#[t2,.move hn u pl,rfl,#[_,x3 _ _ z2,hv,uv,.ref sp,rfl,n1,n3,n4],trivial]
  .exact#[t3,.write hn tx,rfl,#[_,x6 _ _ z3,hv,rfl,n1],ok]
  .exact#[t4,.mark hn tb,rfl,#[_,y6 _ _ z4,hv,rfl,n1],trivial]
 have T6:=S4.trans x1
 try dsimp only[jq]
 refine aB λR1 hR1=>?_;refine#[_,rfl,_,rfl,_,rfl,_,_,rfl,rfl,#[⋯,⋯],_,rfl,_,_,rfl,rfl,(by show(0:Ò)<hs;omega),sz rfl,λld gld=>?_];have y1:=ad gld å;have z1:upd A6 ld å ld=_:=ac;generalize upd A6 ld å=B1 at y1 z1 ⊢;obtain⟨wh,hwh⟩:∃wh:Option Int,atI [V.non,.int ŷ] (n%2)=some (whV wh):=by
  have k0:=y9 n (show(2:Ò)≠0 by decide);have k1:=Ye n (show(0:Ò)<2 by decide);rcases(show n%2=0\/n%2=1 by omega)with z|z
  .rw[z];exact#[none,at0]
  .rw[z];exact#[some ŷ,at1]
 refine#[_,rfl,_,_,rfl,rfl,ñ,ld,_,_,_,rfl,rfl,OQ z1,hwh,sz rfl,λt5 g5=>?_];have y2:=ad g5 æ;have z2:upd B1 t5 æ t5=_:=ac;generalize upd B1 t5 æ=B2 at y2 z2 ⊢;refine#[_,rfl,_,rfl,sz rfl,λt6 g6=>?_];have y3:=ad g6 ä;have z3:upd B2 t6 ä t6=_:=ac;generalize upd B2 t6 ä=B3 at y3 z3 ⊢;refine#[_,rfl,_,rfl,_,_,rfl,rfl,(by show(0:Ò)<4;decide),_,rfl,sz rfl,λt7 g7=>?_];have y4:=ad g7 Ó;have z4:upd B3 t7 Ó t7=_:=ac;generalize upd B3 t7 Ó=B4 at y4 z4 ⊢;refine#[sz rfl,λk2 gk2=>?_];have y5:=ad gk2 Þ;have z6:upd B4 k2 Þ k2=_:=ac;generalize upd B4 k2 Þ=B5 at y5 z6 ⊢;have x4:=y4.trans y5;have x3:=y3.trans x4;have x2:=y2.trans x3;have xb:=y1.trans x2;refine#[k1,k2,_,_,rfl,rfl,xb _ _ z5,z6,sz rfl,λk3 gk3=>?_];have y6:=ad gk3 ō;have z7:upd B5 k3 ō k3=_:=ac;refine hR1 _ _ ?_;generalize upd B5 k3 ō=B6 at y6 z7 ⊢;have G7:∀v∈[V.ref t1,.ref t2,.ref t3,.ref t4]++[.ref t5,.ref t6,.ref t7],GV B6 v:=λv hv'=>by
  rcases ZE.mp hv' with hv'|hv'
  .exact(G6 v hv').same ģ
  exists[n1,n2,n3,n4],nmA (x1.trans ģ);simp only[Zg,ZB,Z9]at hv';rcases hv' with rfl|rfl|rfl
  .exact#[t5,.due hn wh,rfl,#[_,y6 _ _ Ū,hv,rfl,n1],trivial]
  .exact#[t6,.fold hn tb,rfl,#[_,y6 _ _ (x4 _ _ z3),hv,rfl,n1],trivial]
  .exact#[t7,.part hn (n%4) pl,rfl,#[_,y6 _ _ (y5 _ _ z4),hv,.ref sp,rfl,n1,n4],y9 n (show(4:Ò)≠0 by decide)]
 have xc:=x1.trans ģ;have T7:=S4.trans xc;refine#[_,rfl,_,rfl,_,rfl,sz rfl,λt8 g8=>?_];have y1:=ad g8 ì;have z1:upd B6 t8 ì t8=_:=ac;generalize upd B6 t8 ì=C1 at y1 z1 ⊢;refine#[_,rfl,sz rfl,λt9 g9=>?_];have y2:=ad g9 ó;have z2:upd C1 t9 ó t9=_:=ac;generalize upd C1 t9 ó=C2 at y2 z2 ⊢;refine#[_,rfl,sz rfl,λtA gA=>?_];have y3:=ad gA ô;have z3:upd C2 tA ô tA=_:=ac;generalize upd C2 tA ô=C3 at y3 z3 ⊢;refine#[sz rfl,λk4 gk4=>?_];have y4:=ad gk4 ß;have z4:upd C3 k4 ß k4=_:=ac;generalize upd C3 k4 ß=C4 at y4 z4 ⊢;have x3:=y3.trans y4;have x2:=y2.trans x3;have xd:=y1.trans x2;refine#[k3,k4,_,_,rfl,rfl,xd _ _ z7,z4,sz rfl,λk5 gk5=>?_];have y6:=ad gk5 Ø;have z8:upd C4 k5 Ø k5=_:=ac;generalize upd C4 k5 Ø=C5 at y6 z8 ⊢;have G8:∀v∈([V.ref t1,.ref t2,.ref t3,.ref t4]++[.ref t5,.ref t6,.ref t7])++[.ref t8,.ref t9,.ref tA],GV C5 v:=λv hv'=>by
  rcases ZE.mp hv' with hv'|hv'
  .exact(G7 v hv').same Ĥ
  exists[n1,n2,n3,n4],nmA (xc.trans Ĥ);simp only[Zg,ZB,Z9]at hv';rcases hv' with rfl|rfl|rfl
  .exact#[t8,.join hn tn,rfl,#[_,y6 _ _ (x2 _ _ z1),hv,tv,rfl,n1,n2],trivial]
  .exact#[t9,.take hn,rfl,#[_,y6 _ _ Ū,hv,rfl,n1],trivial]
  .exact#[tA,.back hn,rfl,#[_,y6 _ _ (y4 _ _ z3),hv,rfl,n1],trivial]
 exists[rv,hr1,hr2],JN (i:=wo-4) G8 ∅ (by show wo-4<10;omega);exact#[_,rfl,_,rfl,_,_,rfl,rfl,k5,_,_,_,rfl,rfl,OQ z8,hr1,q _ _ (T7.trans Ĥ) hr2]
structure Gen3(n:ĸ)(cl:List OJ)(L:List D3):Prop where
 cn:ŀ=n
 cc:∀g,g<n->(clk cl g).length=n
 nn:∀g,g<n->0<=au (clk cl g) g
 len:∀d∈L,d.2.1.length=n/\d.1<n
 low:∀d∈L,au d.2.1 d.1<=au (clk cl d.1) d.1
 uni:L.Pairwise λd e=>(toD d).1≠(toD e).1
 ok:∀d∈L,DOk d.2.2
theorem Gen3.start(n:ĸ):Gen3 n ò []:=#[Xc ..,λg hg=>by rw[sw hg,Xc],λg hg=>by rw[sw hg,Ea];exact Int.le_refl _,λd hd=>absurd hd é,λd hd=>absurd hd é,.nil,λd hd=>absurd hd é]
set_option Ŋ true in theorem Gen3.met{n:ĸ}(g:Ž){h o:ĸ}(hh:h<n):Gen3 n (cl.set h Ĳ) L:=by
 have hc:h<ŀ:=by rw[Ű];exact hh
 have up:au ç h<=au Ĳ h:=by rw[HL hh];split<;>omega
 refine#[by rw[Yy];exact Ű,λq hq=>?_,λq hq=>?_,g.len,λd hd=>?_,g.uni,g.ok]
 .rw[fH hc];split
  .exact CH
  .exact g.cc q hq
 .rw[fH hc];have:=g.nn q hq;split
  .rename_i e;subst e;omega
  .exact this
 .rw[fH hc];have:=g.low d hd;split
  .rename_i e;rw[e]at this ⊢;omega
  .exact this
set_option Ŋ true in theorem Gen3.add{n:ĸ}(g:Ž){h:ĸ}(hh:h<n):Gen3 n ù L/\∀wd,DOk wd->Gen3 n ù (L++[(h,(clk cl h).set h ū,wd)]):=by
 have hc:h<ŀ:=by rw[Ű];exact hh
 have hl:h<(clk cl h).length:=by rw[g.cc h hh];exact hh
 generalize hx:(clk cl h).set h ū=c';have cs:au c' h=au ç h+1:=by rw[<-hx,wB hl,Ox rfl]
 have lc:c'.length=n:=by rw[<-hx,Yy,g.cc h hh]
 have b1:∀q,q<n->(clk Ċ q).length=n:=λq hq=>by
  rw[fH hc];split
  .exact lc
  .exact g.cc q hq
 have b2:∀q,q<n->0<=au (clk Ċ q) q:=λq hq=>by
  rw[fH hc];have:=g.nn q hq;split
  .rename_i e;subst e;omega
  .exact this
 have b3:∀d∈L,au d.2.1 d.1<=au (clk Ċ d.1) d.1:=λd hd=>by
  rw[fH hc];have:=g.low d hd;split
  .rename_i e;rw[e]at this ⊢;omega
  .exact this
 refine#[#[by rw[Yy];exact Ű,b1,b2,g.len,b3,g.uni,g.ok],λwd ok=>#[by rw[Yy];exact Ű,b1,b2,λd hd=>?_,λd hd=>?_,?_,λd hd=>?_]]
 .rcases ZE.mp hd with hd|hd
  .exact g.len d hd
  .rw[Zh.mp hd];exact#[lc,hh]
 .rcases ZE.mp hd with hd|hd
  .exact b3 d hd
  .rw[Zh.mp hd];show au c' h<=au (clk Ċ h) h;rw[fH hc,Ox rfl];exact Int.le_refl _
 .refine List.pairwise_append.mpr #[g.uni,List.pairwise_singleton _ _,λd hd e he z=>?_];rw[Zh.mp he]at z;have z1:((d.1:Int))=(h:Ò):=Z2 Prod.fst z;have z2:au d.2.1 d.1=au c' h:=Z2 Prod.snd z;have e1:d.1=h:=∅
  have:=g.low d hd;rw[e1]at this z2;omega
 .rcases ZE.mp hd with hd|hd
  .exact g.ok d hd
  .rw[Zh.mp hd];exact ok
abbrev NT:=List (OC×Nm)
def gq(M:NT):OU:=(M.map Prod.fst).map V.ref
theorem kN(M:NT):(gq M).length=M.length:=by unfold gq;rw[Zd,Zd]
def NR(H:Hp)(n:ĸ)(l:OC)(M:NT):Prop:=H l=some (.lst (gq M))/\∀x∈M,H x.1=some (.tup [.int x.2.1,.int x.2.2])/\0<=x.2.1/\x.2.1<n
theorem NR.same{n:ĸ}(x:NR H n l M)(s:Same H H'):NR H' n l M:=#[s _ _ x.1,λy hy=>#[s _ _ (x.2 y hy).1,(x.2 y hy).2]]
def zS:Sp:=λvs H Q _=>∃(l:OC) (cs:OJ) (h:Ò),vs=[.ref l,.int h]/\H l=some (.lst (cs.map V.int))/\cs.length<=62/\1<=h/\h<=8/\∀p H' L,Same H H'->H p=none->LR3 H' p L->L.length<=62->(∀x∈L,x.2.1<ă/\x.2.2.1.length=ă/\DOk x.2.2.2)->(L.map λx=>toD x.2).Pairwise (λd e=>d.1≠e.1)->Q ą H'
abbrev tD:Stmt:=top 50
abbrev GS:List Str:=["_law_cells","_law_hands","_law_clocks","_law_deeds_here","_law_names","_law_k","_law_cell","_law_mixed","_law_hand","_law_other","_law_pool","_law_what_here"]
theorem dD:FnScope GS ["_law_cells","_law_hands"] (aq tD):= ~~~0
theorem EU(F:Fun K "_law_deeds" "_law_deeds" tD f fd)(N0:↑Fn 2 "_law_what" ["_law_n","_law_pool","_law_number","_law_hands"] DB)(NQ:↑Fn 1 "_law_order" ["_law_deed"] spOrder)(j4:mg "enumerate" = none)(u4:ň)(Ny:mg "max" = none)(NS:mg "tuple" = none)(r9:mg "sorted" = none):↑FnOk CX0 4 f fd ["_law_cells","_law_hands"] zS:=by
 exists dD
 exists[l,cs,h,rfl,hl,hlen,h1,h8,q],h;exists _,(b_c (aA (i:=2) ē (de (own:=["_law_k"]) (#[rfl,⋯,⋯,rfl,#[rfl,rfl,trivial]]:CompOk _ _ [1] ["_law_hands"]) rfl Ÿ (λ_ _ _ _=>aw (i:=0) (show (["_law_k","_law_hands"]:List Str).Nodup by decide)) Đ Ô (λ_ _ _ _=>(aK LV (bA (q_a ai ah)) ↑1))))
   (b_c (aA (i:=3) ē ě)
   (b_c (aA (i:=4) ē ě)
   (b_c (dG ZT rfl (Cn j4 Ñ) (jl rfl (bC (aw (i:=5) ē) (bC (aw (i:=6) ē) fj))) (b_c (aA (i:=7) ē (aK cS (aK ge (aK mR ↑6 ai) (aK mR (aK mR ↑5 ↑5) ai)) ai))
   (b_c (aA (i:=8) ē (aK cS ↑7 ↑1))
   (b_c (aA (i:=9) ē (aK cS (aK eK ↑7 ↑1) ŏ))
   (b_c (xS (aT (aE AU ↑9 ↑1) (b_1 (GB (de (own:=["_law_j"]) (#[rfl,⋯,⋯,rfl,#[rfl,rfl,#[rfl,rfl,#[rfl,rfl,trivial]]]]:CompOk _ _ [2,8,9] ["_law_clocks","_law_hand","_law_other"]) rfl Ÿ (λ_ _ _ _=>aw (i:=0) (show (["_law_j","_law_clocks","_law_hand","_law_other"]:List Str).Nodup by decide)) Đ Ô (λ_ _ _ _=>(q_B (F8 rfl) Ny wj (q_a (am (jD (K:=K) rfl) (am (jD (K:=K) rfl) ↑1 ↑2) ↑0) (q_a (am (jD (K:=K) rfl) (am (jD (K:=K) rfl) ↑1 ↑3) ↑0) ah))))) (Gb ↑2 ↑8 GE))) b_0))
   (b_c (iU (j:=10) ē (own:=["_law_name_here"]) (#[rfl,⋯,⋯,rfl,#[rfl,rfl,#[rfl,rfl,trivial]]]:CompOk _ _ [2,8] ["_law_clocks","_law_hand"]) rfl (bD ↑4) (λ_ _ _ _=>aw (i:=0) (show (["_law_name_here","_law_clocks","_law_hand"]:List Str).Nodup by decide)) Đ (λ_ _ _ _=>(kQ (aE MV (am (iw (K:=K) rfl) ↑0 ai) (am (jD (K:=K) rfl) (am (jD (K:=K) rfl) ↑1 ↑2) (am (iw (K:=K) rfl) ↑0 ai))))) (λ_ _ _ _=>↑0))
   (b_c (GB (aK ge Ė ai) (Gb à ↑8 GE))
   (b_c (aA (i:=11) ē (aI N0 ↑99 (q_a (aK eK ↑7 (aK mR ŏ ↑1)) (q_a ↑10 (q_a Ė Û)))))
   (b_c (bu (fL ↑3 (aD (q_a ↑8 (q_a (mU LF NS Av (q_a à ah)) (q_a ↑11 ah))))))
   (b_1 (aT (t_w (yq (aE (gh (K:=K) rfl) (am ao ↑11 ai) (aD ı)) (rW (aE bO (aK cS ↑5 ai) ai)))) (b_1 (bu (fL ↑4 (aD (q_a ↑8 (q_a Ė ah)))))) b_0)))))))))))
   (b_1 (ax (Ff rfl r9 NQ ↑99 Ś)))))))
 obtain⟨n,hn⟩:∃n:Nat,n=ă:=#[_,rfl]
 have hn':(n:Ò)=h:=∅
 rw[<-hn]at q;have n1:1<=n:=∅
 have n8:n<=8:=∅
 refine#[_,rfl,_,rfl,∅,∅,?_];refine wE (N:=n) (λi ys H'=>Same H H'/\∃as:List OC,ys=as.map V.ref/\ë=i/\as.Nodup/\∀b∈as,H b=none/\H' b=some (.lst ((List.replicate n (0:Ò)).map V.int))) ∅ (λi ys H' ⟨_,as,e,la,_⟩=>by rw[e,Zd,la]) #[Same.refl H,[],rfl,rfl,.nil,λb hb=>absurd hb é] (λi ys H' hi _=>?_) (λys H' _=>?_) (λi ys H1 x H2 hi ⟨sm,as,e,la,nd,ha⟩ y A kA=>?_) (λys cA H1 ⟨sm,as,e,la,nd,ha⟩ gA=>?_)
 .show i<ă;omega
 .show ă<=n;omega
 .exists[rfl,rfl],y;refine#[sz rfl,λpz gz=>#[_,rfl,pz,h,_,rfl,rfl,ac,∅,∅,?_,λpr gr=>kA _ _ ?_]]
  .exact fF (by rw[YA];omega)
  .have w1:=ad gz (.lst [V.int 0]);have w2:=w1.trans (ad gr (.lst (List.replicate ă [V.int 0]).flatten));have fr:H pr=none:=(sm.trans w1).free gr;refine#[sm.trans w2,as++[pr],by rw[e,ZA];rfl,by rw[Zf,la];rfl,?_,λb hb=>?_]
   .refine List.nodup_append.mpr #[nd,by simp,λb hb c hc=>?_];rw[Zh.mp hc];intro z;have:=w1 _ _ (ha b hb).2;rw[z,gr]at this;cases this
   .rcases ZE.mp hb with hb|hb
    .exact#[(ha b hb).1,w2 _ _ (ha b hb).2]
    .rw[Zh.mp hb];refine#[fr,?_];rw[ac,<-hn,xN]
 .subst e;have w1:=ad gA ý;have fA:H cA=none:=sm.free gA;have ck:CK (upd H1 cA ý) cA n as ò:=#[ac,la,nd,λg hg=>by rw[sw ∅];exact w1 _ _ (ha _ (ZG hg)).2]
  have S1:=sm.trans w1;have fas:∀b∈as,H b=none:=λb hb=>(ha b hb).1;generalize upd H1 cA ý=H2 at ck S1 ⊢;refine#[sz rfl,λp gp=>?_];have w2:=ad gp Æ;have fp:H p=none:=S1.free gp;have ncp:cA≠p:=λz=>by have:=ck.1;rw[z,gp]at this;cases this
  refine#[sz rfl,λpn gpn=>?_];have w3:=ad gpn Æ;have fpn:H pn=none:=(S1.trans w2).free gpn;have ncn:cA≠pn:=λz=>by have:=w2 _ _ ck.1;rw[z,gpn]at this;cases this
  have npn:p≠pn:=λz=>by have:upd H2 p Æ p=some Æ:=ac;rw[z]at this gpn;rw[gpn]at this;cases this
  refine#[_,rfl,l,_,rfl,w3 _ _ (w2 _ _ (S1 _ _ hl)),?_];refine wM (i:=5) (j:=6) (λk Y H'=>Same H H'/\(∃o5 o6 o7 o8 o9 o10 o11,Y=[some Ř,some (.int h),some (.ref cA),some ą,some (.ref pn),o5,o6,o7,o8,o9,o10,o11])/\∃as cl L M,CK H' cA n as cl/\LR3 H' p L/\NR H' n pn M/\Gen3 n cl Ń/\L.length=k/\M.length<=k/\∀b∈as,H b=none)
   #[S1.trans Ş,#[none,none,none,none,none,none,none,rfl],as,_,[],[],ck.same Ş,#[w3 _ _ ac,λx hx=>absurd hx é],#[ac,λx hx=>absurd hx é],Gen3.start n,rfl,Zi _,fas] (λi Y H' _ ⟨sm,_⟩=>OQ (sm _ _ hl)) (λk x Y H3 hx ⟨S3,⟨o5,o6,o7,o8,o9,o10,o11,eY⟩,as,cl,L,M,ck,lr,nr,gen,lL,lM,fas⟩ T hT=>?_) (λY H3 ⟨S3,⟨o5,o6,o7,o8,o9,o10,o11,eY⟩,as,cl,L,M,ck,lr,nr,gen,lL,lM,fas⟩=>?_)
  .subst eY;exists[rfl,hk],Ev hx;have sT:=ad hT Ĉ;refine aB λR1 hR1=>?_;refine#[_,rfl,_,_,rfl,rfl,.inr #[⋯,⋯],_,rfl,_,rfl,_,_,rfl,rfl,.inl #[∅,∅],_,_,rfl,rfl,.inr #[⋯,⋯],_,_,rfl,rfl,_,_,rfl,rfl,(by show(0:Ò)<2147483647;decide),hR1 _ _ ?_];have z0:=y9 ĉ (show(2147483647:Ò)≠0 by decide)
   try dsimp only
   generalize ĉ%2147483647=mz at z0 ⊢;refine aB λR1 hR1=>?_;refine#[_,rfl,_,rfl,_,_,rfl,rfl,(by show(0:Ò)<h;omega),hR1 _ _ ?_];have d0:=y9 mz (show h≠0 by omega);have d1:=Ye mz (show(0:Ò)<h by omega)
   try dsimp only
   generalize mz%h=hd at d0 d1 ⊢;obtain⟨hN,rfl⟩:∃hN:Nat,hd=(hN:Ò):=#[hd.toNat,∅]
   have hNn:hN<n:=∅
   refine aB λR1 hR1=>?_;refine#[_,rfl,_,rfl,_,_,rfl,rfl,#[∅,∅],_,rfl,_,_,rfl,rfl,.inl #[⋯,⋯],_,_,rfl,rfl,(by show(0:Ò)<2*h;omega),hR1 _ _ ?_];have b0:=y9 (mz / h) (show 2*h≠0 by omega)
   try dsimp only
   generalize mz / h%(2*h)=ot at b0 ⊢;have S4:=S3.trans sT;have ck4:=ck.same sT;have lr4:=lr.same sT;have nr4:=nr.same sT;generalize upd H3 T Ĉ=H4 at S4 ck4 lr4 nr4 ⊢;refine#[λσ' H5=>Same H H5/\σ'=[some Ř,some (.int h),some (.ref cA),some ą,some (.ref pn),some (.int (k:Ò)),some (.int (au cs k)),some (.int mz),some (.int (hN:Ò)),some (.int ot),o10,o11]/\∃as cl,CK H5 cA n as cl/\LR3 H5 p L/\NR H5 n pn M/\Gen3 n cl Ń/\∀b∈as,H b=none,?_,?_]
   .refine#[_,rfl,_,rfl,_,_,rfl,rfl,_,rfl,kT Ź λhc=>?_]
    .obtain⟨oN,rfl⟩:∃oN:Nat,ot=(oN:Ò):=#[ot.toNat,∅]
     have oNn:oN<n:=∅
     have ha:hN<ë:=by rw[ck4.2.1];exact hNn
     have oa:oN<ë:=by rw[ck4.2.1];exact oNn
     refine#[_,rfl,_,rfl,∅,∅,qM (N:=ă) (lo:=0) (λj=>.int Å) ∅ (λj H6 hj s6 R kR=>?_) (λp1 H6 s6 g6=>?_)]
     .have ck6:=ck4.same s6;have l1:ń<((clk cl hN).length:Int):=by rw[gen.cc hN hNn];omega
      have l2:ń<((clk cl oN).length:Int):=by rw[gen.cc oN oNn];omega
      exact#[_,rfl,_,rfl,cA,_,_,_,rfl,rfl,OQ ck6.1,ji ha,_,rfl,as[hN],_,_,_,rfl,rfl,OQ Ļ,iA ∅ l1,_,rfl,_,rfl,cA,_,_,_,rfl,rfl,OQ ck6.1,ji oa,_,rfl,as[oN],_,_,_,rfl,rfl,OQ (ck6.2.2.2 oN oa),iA ∅ l2,_,_,rfl,kR H6 (Same.refl H6)]
     .have em:((List.range ă).map fun(j:Nat)=>V.int Å)=(mx Ĵ ĵ n).map V.int:=by unfold mx;rw[Z4,<-hn];apply Y1;intro j _;show V.int _=V.int _;rw[show(0+(j:Ò)).toNat=j by omega]
      rw[em];have gm:=gen.met (o:=oN) hNn;have lm:(mx Ĵ ĵ n).length=n:=CH;generalize mx Ĵ ĵ n=cm at gm lm ⊢;have w6:=s6.trans (ad g6 á);have ck7:=ck4.same w6;have lr7:=lr4.same w6;have nr7:=nr4.same w6;have S7:=S4.trans w6;have e7:upd H6 p1 á p1=some á:=ac;have fp1:H p1=none:=(S4.trans s6).free g6;have np1:p1∉as:=λhm=>by exists[i,hi,rfl],List.mem_iff_getElem.mp hm;have:=s6 _ _ (ck4.2.2.2 i hi);rw[g6]at this;cases this
      generalize upd H6 p1 á=H7 at ck7 lr7 nr7 S7 e7 ⊢;have las:ë=n:=ck4.2.1;have tA:TS H7 (upd H7 cA (.lst ((as.map V.ref).set hN (.ref p1)))):=iX λzs e'=>by rw[ck7.1]at e';cases e'
      refine#[_,rfl,_,rfl,cA,_,_,hN,rfl,rfl,ck7.1,?_,cL S7 fA,rfl,as.set hN p1,cl.set hN cm,#[?_,?_,J5 ck7.2.2.1 np1,λg hg=>?_],#[?_,λx hx=>?_],#[?_,λx hx=>?_],gm,λb hb=>?_]
      .unfold ixN;rw[Zd,Ox ∅,Ox ∅];rfl
      .rw[ac,List.map_set]
      .rw[Yy];exact las
      .rw[Yy]at hg;rw[List.getElem_set,fH (by rw[gen.cn];exact hNn)];by_cases c:hN=g
       .rw[Ox c,Ox c.symm,af (jK e7 ck7.1 (λz=>fm ∅ ĥ))];exact e7
       .rw[Ow c,Ow (λz=>c ĥ),af (jK (ck7.2.2.2 g hg) ck7.1 (λz=>fm (by rw[gen.cc g ∅];omega) ĥ))];exact ck7.2.2.2 g hg
      .rw[af ncp.symm];exact lr7.1
      .exact(lr7.2 x hx).ts tA
      .rw[af ncn.symm];exact nr7.1
      .exact#[tA _ _ (nr7.2 x hx).1,(nr7.2 x hx).2]
      .rcases List.mem_or_eq_of_mem_set hb with hb|rfl
       .exact fas b hb
       .exact fp1
    .exact#[S4,rfl,as,cl,ck4,lr4,nr4,gen,fas]
   .rintro σ' H5 ⟨S5,rfl,as5,cl5,ck5,lr5,nr5,gen5,fas5⟩;have ha:hN<ű:=by rw[ck5.2.1];exact hNn
    dsimp only;refine aB λR1 hR1=>?_;refine#[_,rfl,pn,rfl,#[_,OQ nr5.1],?_];refine bz (xs:=gq M) (λi ys H'=>Same H5 H'/\ž<=i/\∃ms,NmsAt H' ys ms) ď ķ #[Same.refl _,Zi _,[],.nil] (λi ys H' z=>OQ (z.1 _ _ nr5.1)) ?_ ?_
    .rintro i ys H' v hv ⟨sm,ly,ms,pm⟩ Yq0 hY;obtain⟨nm,hnm,rfl⟩:∃x∈M,v=.ref x.1:=by unfold gq at hv;rw[Z4]at hv;exists[y,hy,e],Zt.mp (ZI hv);exact#[y,hy,e.symm]
     exists[x1,x2,x3],nr5.2 nm hnm;have x1':=sm _ _ x1;have ck6:=ck5.same sm;have lc:=gen5.cc hN hNn;refine#[_,rfl,nm.1,_,_,_,rfl,rfl,OP x1',at1,_,rfl,_,rfl,cA,_,_,_,rfl,rfl,OQ ck6.1,ji ha,_,rfl,nm.1,_,_,_,rfl,rfl,OP x1',at0,as5[hN],_,_,_,rfl,rfl,OQ Ļ,iA x2 ð,_,_,rfl,rfl,_,rfl,kT Ź λhc=>?_]
     .exact#[_,rfl,hY _ _ #[sm,by rw[Zf];exact ZP ly,ms++[nm.2],y7 pm #[nm.1,rfl,x1']]]
     .exact hY _ _ #[sm,∅,ms,pm]
    rintro pys pp H6 ⟨sm6,ly6,ms,pm⟩ gpp;rw[kN]at ly6;have wpp:=ad gpp č;have epp:upd H6 pp č pp=some č:=ac;have pm6:=pm.ts (OO wpp);have Sx:=sm6.trans wpp;have S6:=S5.trans Sx;have ck6:=ck5.same Sx;have lr6:=lr5.same Sx;have nr6:=nr5.same Sx;have fpp:H pp=none:=(S5.trans sm6).free gpp;have npp:pp∉as5:=λhm=>by exists[i,hi,rfl],List.mem_iff_getElem.mp hm;have:=sm6 _ _ (ck5.2.2.2 i hi);rw[gpp]at this;cases this
    refine hR1 _ _ ?_;generalize upd H6 pp č=H7 at epp pm6 S6 ck6 lr6 nr6 ⊢;have cN:=ck6.2.2.2 hN ha;have lc:=gen5.cc hN hNn;have nn:=gen5.nn hN hNn;have fa:=fas5 _ (ZG ha);refine aB λR1 hR1=>?_;refine#[_,rfl,_,rfl,cA,_,_,_,rfl,rfl,OQ ck6.1,ji ha,_,rfl,as5[hN],_,_,_,rfl,rfl,OQ cN,fu ī,_,_,rfl,rfl,_,rfl,_,rfl,cA,_,_,_,rfl,rfl,OQ ck6.1,ji ha,_,rfl,as5[hN],_,_,hN,rfl,rfl,cN,?_,hR1 _ _ ?_]
    .unfold ixN;rw[Zd,lc,Ox ∅,Ox ∅];rfl
    have ec:((clk cl5 hN).map V.int).set hN (.int Î)=((clk cl5 hN).set hN Î).map V.int:=by rw[List.map_set]
    rw[ec];have npa:p≠as5[hN]:=jK lr6.1 cN (by unfold aH;exact λz=>fm (as:=L.map Prod.fst) ð Ķ);have nna:pn≠as5[hN]:=jK nr6.1 cN (by unfold gq;exact fm ð);have nca:cA≠as5[hN]:=jK ck6.1 cN (fm ð);have nppa:pp≠as5[hN]:=λz=>npp (z▸ZG ha);have S7:=cL (o:=.lst À) S6 fa;have t7:TS H7 Ù:=iX λzs e'=>by rw[cN]at e';cases e'
    have lr7:LR3 Ù p L:=#[by rw[af npa];exact lr6.1,λx hx=>(lr6.2 x hx).ts t7]
    have nr7:NR Ù n pn M:=#[by rw[af nna];exact nr6.1,λx hx=>#[t7 _ _ (nr6.2 x hx).1,(nr6.2 x hx).2]]
    have epp7:upd H7 as5[hN] Ĩ pp=some č:=by rw[af nppa];exact epp
    have pm7:=pm6.ts t7;have ck7:CK Ù cA n as5 (cl5.set hN Ģ):=by
     refine#[by rw[af nca];exact ck6.1,ck6.2.1,ck6.2.2.1,λg hg=>?_];rw[fH (by rw[gen5.cn];exact hNn)];by_cases c:g=hN
     .subst c;rw[Ox rfl,ac]
     .rw[Ow c,af]
      .exact ck6.2.2.2 g hg
      .have nd:=ck6.2.2.1;rw[List.nodup_iff_pairwise_ne,List.pairwise_iff_getElem]at nd;rcases Nat.lt_or_ge g hN with c1|c1
       .exact nd g hN hg ha c1
       .exact(nd hN g ha hg ∅).symm
    exists[_,ga],gen5.add hNn;have lc':((clk cl5 hN).set hN Î).length=n:=by rw[Yy,lc]
    have cv':au Ģ hN=au (clk cl5 hN) hN+1:=by rw[wB ī,Ox rfl]
    have c7:upd H7 as5[hN] Ĩ as5[hN]=some Ĩ:=ac;generalize upd H7 as5[hN] Ĩ=H8 at S7 lr7 nr7 ck7 c7 epp7 pm7 ⊢;generalize(clk cl5 hN).set hN Î=nc at ck7 ga lc' c7 cv';generalize cl5.set hN nc=cl6 at ck7 ga;refine aB λR1 hR1=>?_;refine#[_,rfl,_,rfl,_,_,rfl,rfl,.inl #[⋯,⋯],_,rfl,_,_,rfl,rfl,.inl #[∅,∅],_,_,rfl,rfl,#[?_,?_],_,rfl,_,rfl,_,rfl,cA,_,_,_,rfl,rfl,OQ ck7.1,ji ha,_,rfl,as5[hN],_,_,_,rfl,rfl,OQ c7,fu ö,_,rfl,?_]
    .show(0:Ò)<2*h*h;exact Int.mul_pos ∅ ∅
    .show 2*h*h<1073741824;have:2*h*h<=16*8:=Int.mul_le_mul ∅ h8 ∅ ∅;omega
    refine#[_,_,_,pp,pys,ms,rfl,epp7,pm7,∅,by rw[cv'];omega,∅,Int.ediv_nonneg z0 (Int.le_of_lt (Int.mul_pos ∅ ∅)),λwv H9 s9 gv=>hR1 _ _ ?_];have S9:=S7.trans s9;have lr9:=lr7.same s9;have nr9:=nr7.same s9;have ck9:=ck7.same s9;have c9:=s9 _ _ c7;exists[wa,wd,rfl,hwh,wok],gv;refine aB λR1 hR1=>?_;refine#[_,rfl,.inl #[rfl,_,OQ lr9.1],_,rfl,_,rfl,_,rfl,cA,_,_,_,rfl,rfl,OQ ck9.1,ji ha,as5[hN],_,rfl,.inl #[OQ c9,λq5 f5=>?_]];have w5:=ad f5 þ;refine#[_,rfl,sz rfl,λq6 f6=>?_];have w6:=w5.trans (ad f6 É);have lrA:=lr9.same w6;have nrA:=nr9.same w6;have ckA:=ck9.same w6;have cA9:=w6 _ _ c9;have SA:=S9.trans w6;have hwA:=hwh.ts (OO w6);have dd:DA (upd Œ q6 É) q6 (hN,nc,wd):=#[q5,wa,ac,ad f6 É _ _ ac,hwA,by show hN<nc.length;omega,by show nc.length<=8;omega]
    generalize upd Œ q6 É=HA at lrA nrA ckA SA dd hwA cA9 ⊢;refine#[p,_,_,rfl,rfl,lrA.1,aU (by rw[aG];omega),hR1 _ _ ?_];have tA:TS HA ċ:=iX λzs e'=>by rw[lrA.1]at e';cases e'
    have SB:=cL (o:=.lst (aH L++[.ref q6])) SA fp;have npas:∀(g:ĸ) (hg:g<ű),as5[g]≠p:=λg hg z=>by
     have hgn:g<n:=by rw[<-ckA.2.1];exact hg
     have lg:(clk cl6 g).length=n:=(ga wd wok).cc g hgn;exact jK lrA.1 (ckA.2.2.2 g hg) (by unfold aH;exact λz=>fm (as:=L.map Prod.fst) ļ Ķ) ĥ
    have ckB:CK ċ cA n as5 cl6:=#[by rw[af ncp];exact ckA.1,ckA.2.1,ckA.2.2.1,λg hg=>by rw[af (npas g hg)];exact ckA.2.2.2 g hg]
    have lrB:LR3 ċ p ĩ:=by
     refine#[?_,λx hx=>?_]
     .rw[ac];unfold aH;rw[ZA];rfl
     .rcases ZE.mp hx with hx|hx
      .exact(lrA.2 x hx).ts tA
      .rw[Zh.mp hx];exact dd.ts tA
    have nrB:NR ċ n pn M:=#[by rw[af npn.symm];exact nrA.1,λx hx=>#[tA _ _ (nrA.2 x hx).1,(nrA.2 x hx).2]]
    have hwB:=hwA.ts tA;have cB:=(by rw[af (npas hN ha)];exact cA9:upd HA p È as5[hN]=some (.lst (nc.map V.int)))
    have gB:Gen3 n cl6 ((L++[è]).map Prod.snd):=by rw[ZA];exact ga wd wok
    generalize upd HA p È=HB at SB ckB lrB nrB hwB cB ⊢;have fin:∀{H':Hp},Same HB H'->Same H H'/\CK H' cA n as5 cl6/\LR3 H' p ĩ/\NR H' n pn M:=λs=>#[SB.trans s,ckB.same s,lrB.same s,nrB.same s]
    have lLn:(L++[è]).length=k+1:=by rw[Zf,lL];rfl
    exists[rw',hrw,hrs],id hwB;have nrX:∀{H':Hp} {q7:OC},CK H' cA n as5 cl6->LR3 H' p ĩ->NR H' n pn M->H' q7=some Â->CK Ë cA n as5 cl6/\LR3 Ë p ĩ/\NR Ë n pn (M++[ÿ]):=fun{H' q7} f2 f3 f4 e7=>by
     have tN:TS H' Ë:=iX λzs e'=>by rw[f4.1]at e';cases e'
     refine#[#[by rw[af ncn];exact f2.1,f2.2.1,f2.2.2.1,λg hg=>?_],#[by rw[af npn];exact f3.1,λx hx=>(f3.2 x hx).ts tN],?_,λx hx=>?_]
     .have hgn:g<n:=by rw[<-f2.2.1];exact hg
      have lg:(clk cl6 g).length=n:=(ga wd wok).cc g hgn;rw[af λz=>jK f4.1 (f2.2.2.2 g hg) (by unfold gq;exact fm ļ) ĥ];exact f2.2.2.2 g hg
     .rw[ac];unfold gq;rw[ZA,ZA];rfl
     .rcases ZE.mp hx with hx|hx
      .exact#[tN _ _ (f4.2 x hx).1,(f4.2 x hx).2]
      .rw[Zh.mp hx];exact#[tN _ _ e7,by show(0:Ò)<=(hN:Ò);omega,by show(hN:Ò)<(n:Ò);omega]
    refine#[_,rfl,wa,_,_,_,rfl,rfl,OP hrw,at0,sz rfl,λu gu=>?_];have wu:=ad gu Ï;have eu:upd HB u Ï u=some Ï:=ac;generalize upd HB u Ï=Hu at wu eu ⊢;refine#[u,_,rfl,.inr (OP eu),rfl,rfl,_,rfl,?_];generalize(if false=true then !inV Ő [.str "put",.str "part"]else inV Ő [.str "put",.str "part"])=b1;cases b1 with
    |true =>refine aQ (aQ ?_);refine#[_,rfl,.inl #[rfl,_,OQ Ą],_,rfl,_,rfl,_,rfl,cA,_,_,_,rfl,rfl,OQ œ,ji ha,_,rfl,as5[hN],_,_,_,rfl,rfl,OQ Ŭ,fu ö,sz rfl,λq7 f7=>#[pn,_,_,rfl,rfl,ad f7 _ _ _ Ą,aU ď,?_]];have w7:=wu.trans ź;exists[f1,f2,f3,f4],fin w7;have e7:upd Hu q7 Â q7=some Â:=ac;generalize upd Hu q7 Â=HC at f1 f2 f3 f4 e7 ⊢;exact#[cL f1 fpn,#[_,_,_,_,_,_,_,rfl],as5,cl6,_,M++[ÿ],(nrX f2 f3 f4 e7).1,(nrX f2 f3 f4 e7).2.1,(nrX f2 f3 f4 e7).2.2,gB,lLn,by rw[Zf];exact ZP lM,fas5]
    |false =>
     refine aC #[_,rfl,_,_,rfl,rfl,ġ,rfl,_,rfl,Ew Ż Ż]
     .refine#[_,rfl,.inl #[rfl,_,OQ Ą],_,rfl,_,rfl,_,rfl,cA,_,_,_,rfl,rfl,OQ œ,ji ha,_,rfl,as5[hN],_,_,_,rfl,rfl,OQ Ŭ,fu ö,sz rfl,λq7 f7=>#[pn,_,_,rfl,rfl,ad f7 _ _ _ Ą,aU ď,?_]];have w7:=wu.trans ź;exists[f1,f2,f3,f4],fin w7;have e7:upd Hu q7 Â q7=some Â:=ac;generalize upd Hu q7 Â=HC at f1 f2 f3 f4 e7 ⊢;exact#[cL f1 fpn,#[_,_,_,_,_,_,_,rfl],as5,cl6,_,M++[ÿ],(nrX f2 f3 f4 e7).1,(nrX f2 f3 f4 e7).2.1,(nrX f2 f3 f4 e7).2.2,gB,lLn,by rw[Zf];exact ZP lM,fas5]
     .exists[f1,f2,f3,f4],fin wu;exact#[f1,#[_,_,_,_,_,_,_,rfl],as5,cl6,_,M,f2,f3,f4,gB,lLn,∅,fas5]
  .subst eY;refine#[_,rfl,p,aH L,L.map (λx=>ZKey.t [x.2.2.1.sum,(x.2.1:Int)]),rfl,lr.1,by rw[aG];rw[Zd]at lL;omega,by rw[aG,Zd],.inr λk hk=>?_,λi v key H' hv hkey s' R hR=>?_,λpm H2' D pok s2 _ gD=>?_]
   .exists[x,_,rfl],Zt.mp hk;exact#[_,rfl,by simp]
   .exists[hi,rfl],cC hv;rw[Zy,Ze hi]at hkey;cases hkey;exact#[_,_,rfl,(lr.2 _ (ZG hi)).ts (OO s'),λa H'' s'' e=>hR (.ref a) H'' s'' #[a,rfl,e]]
   .rw[aG]at pok;exists[pe,ee],Ik pok;rw[ee];have wD:=ad gD (.lst (aH (pm.toList.map λi=>L.getD i (0,0,[],.none))));have sx:=s2.trans wD;refine q D _ _ (S3.trans sx) ((S3.trans s2).free gD) #[ac,λx hx=>(lr.2 x (pe.mem_iff.mp hx)).ts (OO sx)] (by rw[Š,lL,Zd];exact hlen) (λx hx=>?_) ?_
    .have hx':=pe.mem_iff.mp hx;exact#[(gen.len x.2 Ā).2,(gen.len x.2 Ā).1,gen.ok x.2 Ā]
    .have u:=gen.uni;rw[List.pairwise_map]at u;rw[List.pairwise_map];exact u.perm pe.symm fun{x y} z=>ĥ
end
mutual
#check#[(by simp only[Wd.word,ne_eq];decide +kernel),(Nm->Option (List Nm)),((ol.map (·.1)).Nodup),((Z.map λz=>nm3 z.1.2).Nodup),(M.filter (bL gs)),(.tup [.str "done",.str "top",.str "over",.str "kept"]),(OvR ((cE Z).map Prod.snd) ov),(.tup [.str "take",.str "off",.str "on",.str "none"]),(am ao ↑2 ai),(rs.map λr:bh=>r.2.1),(eZ (aX ol (Dl Z))),(∀b o,b≠wl->H b=some o->H' b=some o),(Classical.propDecidable _),(0<(ts.filter λx=>onW wf it x).length),(nm3 z.1.2),(∀n l,wf n=some l->Abv ol (some n) l),(List Nm),(↑Fn 1 "_law_name" ["_law_deed"] md),(am ao ↑0 ai),(tOp (rIxL K) (tVar 4) (tUn (rU λi=>V.int (-i)) (tC (V.int 1)))),(.inr (.inl rfl)),(.tup [.str "done",.str "top"]),ol.length,0,(aI i6 ↑99 (q_a ↑0 ah)),(Option Nm),(wu2.trans (s3.trans wl)),(iq (aF acc q.1 q.2) qs),(V.str r.2.1),l.length,(aD (q_a ar (q_a ar (q_a ar (q_a ar ah))))),(some x),(Abv ol u l),(p.1,f p.1 p.2),(we (Classical.choose_spec (t n it h))),xs.length,((M.map (·.1)).Nodup),(Dfs M st out k),(Dfs Ä (jh Ä) out k),(.str w),(List DI),(aX ol D),(ik hr.units),(by simp[hu]),(V.str d.2.2.word),(some x.1),(fi e.2.2=some it),(.cons #[t,rfl,wl _ _ x3] .nil),(wdR z.1.2.2.2 z.2),((OC×D3)×Str),(rH wd ⋯ ⋯),(.tup [.ref L[k].1,.ref p]),(r.2.1="done"),(nm3 e),(λc1=>?_),0,((ol.take i).map λp=>á),(cG bO (am ao Ò ai) ar),(.bl (gnB wf e t ts it)),(aE bO È ar),(Same.refl H),(q_a ↑3 ah),(.tup [.str "back",iv]),(eE dN ↑1 (dW ai) eV),(bg wd=some it),(List (Nm×Nm)),(.dT kvs),(M.Perm ol),(WysAt H d wf),(Ter ol),(PlayR ol n wd w so ol'),(by rw[e1];exact hl),(λz=>.inl (.inl z)),(iq acc qs),kvs.length,way.length,(by simp[Sd.news]),(Str),it.up,(λ_=>rfl),(Type),zs.length,vs.length,(OO S2),(OO S1),(bL gs),(n',it),(.inr (.inr Ô)),(look ol n=some it),(As β),(z∈Z),tactic.hygienic,(.lst vs),(Zj _ hy),(.ref du),(.ref wl),(hl y Zn),(V.str wd.word),(am ao ↑1 ai),(am ao ↑6 ai),(am ao ↑5 ai),(Nat),(by rw[h];rfl),(fY.play g p2),(∀x∈M,x∈ol),(.ref l),(OO wu2),(aR L),(As Nm),(nm3 L[k].2),(Dd×bh),(OO wl),(eZ é),(q_a Ø ah),(q_a È ah),(wu _ _ h3),(.lst [iv]),(L[k].2,ts),(fY.skip g),(some (-1)),(Eqo a b),(List D3),(List Tk),(V.str wo),(dA nd hi),(RpAt H rv r),(As Dd),ds.length,(jh M),(ts=[it]),(.lst xs),(L.zip W),(Zj _ h1),(Zj _ hz),(x.2.1=n),(Int),(Ö<=63),0,(Nm->β->γ),ip.nd,hr.units,nu.nd,wd.mk]
def oh(w:č):Bool:=inV ç [.str "done",.str "top",.str "over",.str "kept"]
def oO(d:D3)(w:č):List Nm:=if oh w=true then br d else[]
inductive spTouchL(vs:OU)(H:Hp)(Q:VK)(E_:XK):Prop
 |mk (a:OC) (d:D3) (w:č) (h0:vs=[.ref a,.str w]) (h1:DA H a d) (h2:∀l vs H',Same H H'->H' l=some Ĝ->NmsAt H' vs (oO d w)->Q ĩ H'):spTouchL vs H Q E_
abbrev oJ:Stmt:=top 52
abbrev BL:List Str:=["_law_deed","_law_word","_law_what_here"]
theorem rK:FnScope BL ["_law_deed","_law_word"] (aq oJ):= ~~~0
theorem A7(F:Fun K "_law_touched" "_law_touched" oJ f fd)(i6:Ñ):↑FnOk CX0 2 f fd ["_law_deed","_law_word"] spTouchL:=by
 exists rK
 exists[a,d,wo,rfl,hd,q],h;obtain⟨c,wa,h1,h2,⟨r,h3,h4⟩,h5,h6⟩:=id hd;exists _,(b_c (aA (i:=2) rK.nd Ò)
   (b_c (aT (t_w (yq (aE (ER (K:=K) rfl) ↑1 Þ) (rW (aE (gh (K:=K) rfl) È Þ)))) (b_1 (ax (bA ah))) b_0)
   (b_c (aT û (b_1 (ax (bA ı))) b_0)
   (b_c (aT û (b_1 (ax (bA (q_a È ı)))) b_0)
   (b_c (aT û (b_1 (ax (bA (q_a È Ĳ)))) b_0)
   (b_1 (ax (bA Ĳ))))))))
 refine vix rfl (OP h1) at2 ?_;refine#[_,rfl,sz rfl,λu gu=>?_];have wu:=ad gu Å;have eu:upd H u Å u=_:=ac;generalize upd H u Å=H1 at wu eu ⊢;refine#[u,_,rfl,.inr (OP eu),rfl,rfl,_,rfl,?_];have ei:(if true=true then !inV Ļ [.str "done",.str "top",.str "over",.str "kept"]else inV Ļ [.str "done",.str "top",.str "over",.str "kept"])=!oh wo:=rfl;rw[ei];cases cd:oh wo with
 |false =>refine aQ (aQ #[sz rfl,λp gp=>q p [] _ (wu.trans (ad gp _)) ac ?_]);unfold oO;rw[cd];exact .nil
 |true =>
 have et:oO d wo=br d:=by unfold oO;rw[Ox cd]
 rw[et]at q;refine aC #[_,rfl,wa,_,_,_,rfl,rfl,OP ĳ,at0,sz rfl,λu2 gu2=>?_];have wu2:=wu.trans (ad gu2 Ç);have eu2:upd H1 u2 Ç u2=_:=ac;generalize upd H1 u2 Ç=H2 at wu2 eu2 ⊢;refine#[u2,_,rfl,.inr (OP eu2),rfl,rfl,_,rfl,?_];have e3:=OP (K:=K) (wu2 _ _ h3);have hd2:=hd.ts Ī;have ei2:(if false=true then !inV ì [.str "take",.str "off",.str "on",.str "none"]else inV ì [.str "take",.str "off",.str "on",.str "none"])=inV ì [.str "take",.str "off",.str "on",.str "none"]:=rfl;rw[ei2];exists[hn,cs,wd],d;have h4':RsAt H r wd:=h4;rcases lB hn cs wd with⟨x,pl,tx,rfl⟩|⟨n,b,pl,rfl⟩|⟨n,m,rfl⟩|⟨n1,n2,n3,n4⟩
 .have ef:inV (V.str (Wd.put x pl tx).word) [.str "take",.str "off",.str "on",.str "none"]=false:=rfl;rw[ef];refine aC ?_;refine#[_,rfl,wa,_,_,_,rfl,rfl,e3,at0,rfl,_,rfl,cU #[_,rfl,a,_,rfl,hd2,λt H3 s3 x3=>#[sz rfl,λl gl=>?_]]];have wl:=ad gl (.lst [.ref t]);exact q l _ _ Ú ac ï
 .exists[nv,pv,rfl,a1,a2],h4';have ef:inV (V.str (Wd.part n b pl).word) [.str "take",.str "off",.str "on",.str "none"]=false:=rfl;rw[ef];refine aC ?_;refine#[_,rfl,wa,_,_,_,rfl,rfl,e3,at0,rfl,_,rfl,aL À ?_];refine#[_,rfl,wa,_,_,_,rfl,rfl,e3,at0,rfl,_,rfl,cU ?_];refine#[_,rfl,wa,_,_,_,rfl,rfl,e3,at1,_,rfl,a,_,rfl,hd2,λt H3 s3 x3=>#[sz rfl,λl gl=>?_]];have wl:=ad gl (.lst [nv,.ref t]);exact q l _ _ Ú ac (.cons (a1.ts' (OO Ú)) ï)
 .exists[nv,mv,rfl,a1,a2],h4';have ef:inV (V.str (Wd.join n m).word) [.str "take",.str "off",.str "on",.str "none"]=false:=rfl;rw[ef];refine aC ?_;refine#[_,rfl,wa,_,_,_,rfl,rfl,e3,at0,rfl,_,rfl,aL À ?_];refine#[_,rfl,wa,_,_,_,rfl,rfl,e3,at0,rfl,_,rfl,aL À ?_];refine#[_,rfl,wa,_,_,_,rfl,rfl,e3,at0,rfl,_,rfl,cU ?_];refine#[_,rfl,wa,_,_,_,rfl,rfl,e3,at1,_,rfl,wa,_,_,_,rfl,rfl,e3,at2,sz rfl,λl gl=>?_];have wl:=wu2.trans (ad gl (.lst [nv,mv]));exact q l _ _ wl ac (.cons (a1.ts' į) (.cons (a2.ts' į) .nil))
 .rcases n4 with⟨n4,et⟩|⟨n4,hx⟩
  .have n4':inV ġ [.str "take",.str "off",.str "on",.str "none"]=true:=n4;rw[n4'];refine aQ #[sz rfl,λl gl=>?_];exact q l [] _ (wu2.trans (ad gl (.lst []))) ac (by rw[et];exact .nil)
  .exists[nv,r',n,rfl,hnv,et],hx H r h4';have n4':inV ġ [.str "take",.str "off",.str "on",.str "none"]=false:=n4;rw[n4'];refine aC ?_;refine#[_,rfl,wa,_,_,_,rfl,rfl,e3,at0,rfl,_,rfl,aL n1 ?_];refine#[_,rfl,wa,_,_,_,rfl,rfl,e3,at0,rfl,_,rfl,aL n2 ?_];refine#[_,rfl,wa,_,_,_,rfl,rfl,e3,at0,rfl,_,rfl,aL n3 ?_];refine#[_,rfl,wa,_,_,_,rfl,rfl,e3,at1,sz rfl,λl gl=>?_];have wl:=wu2.trans (ad gl (.lst [nv]));exact q l [nv] _ wl ac (by rw[et];exact .cons (hnv.ts' į) .nil)
def eS(wd:Wd)(w:č):Bool:=match wd with
 |.put _ _ _=>inV ç [.str "done",.str "top"]
 |.part _ _ _=>decide (w="done")
 |_=>false
inductive spPutL(vs:OU)(H:Hp)(Q:VK)(E_:XK):Prop
 |mk (a:OC) (d:D3) (rv:V) (r:Rp) (h0:vs=[.ref a,rv]) (h1:DA H a d) (h2:Ľ) (h3:∀H',Same H H'->Q (.bl (eS d.2.2 r.2.1)) H'):spPutL vs H Q E_
abbrev Bh:Stmt:=top 56
abbrev LB:List Str:=["_law_deed","_law_row"]
theorem Le:FnScope LB ["_law_deed","_law_row"] (aq Bh):= ~~~0
theorem Kg(F:Fun K "_law_put" "_law_put" Bh f fd):↑FnOk CX0 1 f fd ["_law_deed","_law_row"] spPutL:=by
 exists Le
 obtain⟨a,d,rv,r,rfl,hd,⟨t,nv,bv,rfl,x2,x3,x4⟩,q⟩:=h;obtain⟨c,wa,h1,h2,⟨rs,h3,h4⟩,h5,h6⟩:=id hd;exists _,(b_1 (ax (MX (il ù (iM (cG (gh (K:=K) rfl) Ģ (aD (q_a ar (q_a ar ah)))))) (iM (il ù (iM (cG bO Ģ ar)))))))
 refine vix rfl (OP h1) at2 ?_;have e3:=OP (K:=K) h3;exists[hn,cs,wd],d;rcases lB hn cs wd with⟨x,pl,tx,rfl⟩|⟨n,b,pl,rfl⟩|⟨n,m,rfl⟩|⟨n1,n2,n3,n4⟩
 .refine#[wa,_,_,_,rfl,rfl,e3,at0,rfl,_,rfl,cU ?_];refine#[_,rfl,t,_,_,_,rfl,rfl,OP x2,at1,sz rfl,λu gu=>?_];have wu:=ad gu Õ;have eu:upd H u Õ u=_:=ac;generalize upd H u Õ=H1 at wu eu ⊢;refine#[u,_,rfl,.inr (OP eu),rfl,rfl,_,rfl,?_];have q1:Q (.bl (inV Ü [.str "done",.str "top"])) H1:=q H1 wu;have ei:(if false=true then !inV Ü [.str "done",.str "top"]else inV Ü [.str "done",.str "top"])=inV Ü [.str "done",.str "top"]:=rfl;rw[ei];cases ci:inV Ü [.str "done",.str "top"]with
  |true=>rw[ci]at q1;exact aQ q1
  |false =>rw[ci]at q1;exact aC #[_,rfl,a,_,_,_,rfl,rfl,OP (wu _ _ h1),at2,wa,_,_,_,rfl,rfl,OP ĳ,at0,rfl,_,rfl,aL À q1]
 .refine#[wa,_,_,_,rfl,rfl,e3,at0,rfl,_,rfl,aL À #[_,rfl,aC ?_]];refine#[_,rfl,a,_,_,_,rfl,rfl,OP h1,at2,wa,_,_,_,rfl,rfl,e3,at0,rfl,_,rfl,cU ?_];refine#[_,rfl,t,_,_,_,rfl,rfl,OP x2,at1,rfl,?_];have q1:Q (.bl (decide ô)) H:=q H ü;rw[show decide ô=decide (V.str r.2.1=V.str "done")from YM.mpr #[λz=>by rw[z],λz=>by injection z]]at q1;exact q1
 .refine#[wa,_,_,_,rfl,rfl,e3,at0,rfl,_,rfl,aL À #[_,rfl,aC ?_]];exact#[_,rfl,a,_,_,_,rfl,rfl,OP h1,at2,wa,_,_,_,rfl,rfl,e3,at0,rfl,_,rfl,aL À (q H ü)]
 .have q1:Q (.bl false) H:=by
   have:=q H ü;cases wd with
   |put=>exact absurd rfl n1
   |part=>exact absurd rfl n2
   |_=>exact this
  refine#[wa,_,_,_,rfl,rfl,e3,at0,rfl,_,rfl,aL n1 #[_,rfl,aC ?_]];exact#[_,rfl,a,_,_,_,rfl,rfl,OP h1,at2,wa,_,_,_,rfl,rfl,e3,at0,rfl,_,rfl,aL n2 q1]
theorem CO{X:Cx}{K:Qa}{k:ĥ}(hK:X.K=K)(hr:Room k X.A):QOp X (compareOp .In) (Fg K false):=by subst hK;exact AT hr
def WysAt(H:Hp)(d:OC)(wf:Á):Prop:=∃kvs,H d=some Ă/\∀n ns,wf n=some ns->∃l vs,aW kvs (nk n)=some ĩ/\H l=some Ĝ/\NmsAt H vs ns
theorem WysAt.same(x:Ą)(s:Same H H'):WysAt H' d wf:=by exists[kvs,h1,h2],x;exact#[kvs,s _ _ h1,λn ns e=>let⟨l,vs,a,b,c⟩:=h2 n ns e;#[l,vs,a,s _ _ b,c.ts (OO s)]]
def onW(wf:Á)(it x:Nm):Bool:=decide (it∈(wf x).getD [])
def gnB(wf:Á)(e t:D3)(ts:Ð)(it:Nm):Bool :=
 if cP e (nm3 t)=true then decide î&&decide (ts=[it])else if fW t.2.1 õ=true then false else decide Í
theorem Hh(ts:Ð)(it:Nm):PyData.eqv (.list (ts.map nmD)) (.list ([it].map nmD))=decide Ł:=by
 cases ts with
 |nil=>simp[PyData.eqv,PyData.eqvAll]
 |cons x ts =>
  cases ts with
  |nil=>simp[PyData.eqv,PyData.eqvAll,Ca]
  |cons y ts=>simp[PyData.eqv,PyData.eqvAll]
inductive spGn(vs:OU)(H:Hp)(Q:VK)(E_:XK):Prop
 |mk (a l b d:OC) (iv:V) (e t:D3) (ts:Ð) (xs:OU) (it:Nm) (wf:Á) (h0:vs=[.ref a,.ref l,.ref b,iv,.ref d]) (h1:DA H a e) (h2:DA H b t) (h3:H l=some ł) (h4:NmsAt H xs ts) (h5:NameIs H iv (nk it)) (h6:Ą) (h7:∀x∈ts,(wf x).isSome=true) (h8:e.2.1.length=t.2.1.length) (h9:e.2.2.ok) (h10:ts.length<=2) (q:∀H',Same H H'->Q ú H'):spGn vs H Q E_
abbrev lj:Stmt:=top 54
abbrev pO:List Str:=["_law_deed","_law_touched_here","_law_taking","_law_item","_law_ways_here","_law_mine","_law_theirs","_law_heard"]
theorem ip:FnScope pO ["_law_deed","_law_touched_here","_law_taking","_law_item","_law_ways_here"] (aq lj):= ~~~0
theorem xE(F:Fun K "_law_gainsays" "_law_gainsays" lj f fd)(i6:Ñ)(a8:mg "len" = none):↑FnOk CX0 2 f fd ["_law_deed","_law_touched_here","_law_taking","_law_item","_law_ways_here"] spGn:=by
 exists ip
 exists[a,l,b,d,iv,e,t,ts,xs,it,wf,rfl,ha,hb,hl,hts,hi,hw,hall,ln,ok,l2,q],h;exists _,(b_c (aA (i:=5) ŋ Ø)
   (b_c (aA (i:=6) ŋ (aI i6 ↑99 (q_a ↑2 ah)))
   (b_c (aA (i:=7) ŋ (il (cG EQ (am ao Ò ģ) ģ) (iM (cG (xD Ō) ↑5 ↑6))))
   (b_c (aT (dS ↑7) (b_1 (ax (il (cG ê Ò (aD (q_a ar ý))) (iM (cG ê ↑1 (bA ý)))))) b_0)
   (b_c (aT (aE EQ (am ao È Ĥ) Ĥ) (b_1 (ax lh)) b_0)
   (b_1 (ax (cG xC (q_B gX a8 Ya (q_a (de (own:=["_law_one"]) (#[rfl,⋯,⋯,rfl,#[rfl,rfl,#[rfl,rfl,trivial]]]:CompOk _ _ [3,4] ["_law_item","_law_ways_here"]) rfl (bD ↑1) (λ_ _ _ _=>aw (i:=0) (show (["_law_one","_law_item","_law_ways_here"]:List Str).Nodup by decide)) (aM ⋯) (λ_ _ _ _=>(kQ (aE (CO (K:=K) (k:=1) rfl ↑99) ↑1 (cg Ō ↑2 ↑0)))) (λ_ _ _ _=>↑0)) ah)) ai))))))))
 refine#[_,rfl,a,e,rfl,ha,λm H1 s1 em1=>?_];refine#[_,rfl,b,t,rfl,hb.ts (OO s1),λth H2 s2 et2=>?_];have em2:=s2 _ _ em1;have S2:=s1.trans s2;exists[c,wa,h1,h2,hwh,h5,h6],ha.ts ē;exists[c',wb,t1,t2,_,t5,t6],hb.ts ē;have hl2:=S2 _ _ hl;have hts2:=hts.ts ē;have hi2:=hi.ts' ē;have hw2:=hw.same S2;have et3:H2 th=some (.tup ([(nm3 t).1,(nm3 t).2].map V.int)):=et2;have em3:H2 m=some (.tup ([(nm3 e).1,(nm3 e).2].map V.int)):=em2;have q2:∀H',Same H2 H'->Q ú H':=λH' s'=>q H' (S2.trans s');have et4:H2 th=some (.tup [.int (t.1:Int),.int (au t.2.1 t.1)]):=et3;have em4:H2 m=some (.tup [.int (e.1:Int),.int (au e.2.1 e.1)]):=em3;dsimp only[ce];refine xZ (t:=qC (Br _ _) (ce 7)) λR hR=>?_;have rest:∀ bb,bb=cP e (nm3 t)->R ((((Lake.start pO [.ref a,.ref l,.ref b,iv,.ref d]).set 5 (some (.ref m))).set 6 (some (.ref th))).set 7 (some (.bl bb))) H2:=λbb hbb=>hR _ _ (by
  refine#[_,rfl,_,rfl,?_];cases bb with
  |true =>
   have q3:∀H',Same H2 H'->Q (.bl (decide î&&decide Ł)) H':=λH' s'=>by have:=q2 H' s';unfold gnB at this;rw[Ox hbb.symm]at this;exact this
   refine aQ ?_;refine#[_,rfl,a,_,_,_,rfl,rfl,OP h1,at2,_,rfl,sz rfl,λu gu=>?_];have wu:=ad gu þ;exists[dx,x1,x2,x3],tZ it (hwh.ts (OO wu)) ok;exists[y1,y2],yW (u:=u) (it:=it) ac (hi2.ts' (OO wu));refine#[dx,_,x1,y1,x2,y2,?_];rw[x3];generalize upd H2 u þ=H3 at wu ⊢;refine#[_,rfl,?_];cases hb1:decide (fi e.2.2=some it)with
   |false =>rw[hb1]at q3;exact aC (q3 H3 wu)
   |true =>rw[hb1]at q3;refine aQ #[_,rfl,_,rfl,sz rfl,λu2 gu2=>?_];have wu2:=wu.trans (ad gu2 Ĵ);exists[z1,z2],qr (wu2 _ _ hl2) (hts2.ts Ī);exists[z3,z4],qr (l:=u2) (xs:=[iv]) (ns:=[it]) (H:=upd H3 u2 Ĵ) ac (.cons (hi2.ts' Ī) .nil);refine#[_,_,z1,z3,z2,z4,?_];rw[Hh];exact q3 _ wu2
  |false =>
   have q3:∀H',Same H2 H'->Q (.bl (if fW t.2.1 õ=true then false else decide Í)) H':=λH' s'=>by have:=q2 H' s';unfold gnB at this;rw[Ow (by rw[<-hbb];decide)]at this;exact this
   refine aC ?_;refine#[_,rfl,b,_,_,_,rfl,rfl,OP t1,at1,_,rfl,m,_,_,_,rfl,rfl,OP em4,at0,c',_,_,_,rfl,rfl,OP t2,fu ∅,_,rfl,m,_,_,_,rfl,rfl,OP em4,at1,_,_,rfl,rfl,_,rfl,kT ö ö]
   .have:=q3 H2 (Same.refl H2);rw[Ox (show fW t.2.1 õ=true from decide_eq_true c1)]at this;exact this
   have q4:∀H',Same H2 H'->Q (.bl (decide Í)) H':=λH' s'=>by have:=q3 H' s';rw[Ow (show¬fW t.2.1 õ=true from λz=>c1 (y0 z))]at this;exact this
   refine#[_,rfl,l,rfl,#[_,OQ hl2],?_];have lv:ã<=2:=by rw[Zv hts2];exact l2
   refine bz (xs:=xs) (λi zs H'=>H'=H2/\đ=((ts.take i).filter λx=>onW wf it x).length) ∅ (λi zs _ z=>by rw[z.2];exact Zs (ZX ..) (by rw[ZY];omega)) #[rfl,rfl] (λi zs H' z=>by rw[z.1];exact OQ hl2) ?_ ?_
   .rintro i zs H' v hv ⟨rfl,hz⟩ Yq0 hY;exists[x,hx,hn],aP hts2 hv;exists[ns,hns],Zw.mp (hall x (ZI hx));exists[kvs,k1,k2],hw2;exists[lw,vw,k3,k4,k5],k2 x ns hns;exists[bx,rfl,hbx],hn;exists[d1,d2],om k5;have eo:onW wf it x=decide (it∈ns):=by unfold onW;rw[hns];rfl
    refine#[_,rfl,_,rfl,_,rfl,d,_,rfl,.inr #[kvs,nk x,bx,.inl k1,rfl,hbx,k3.symm],lw,vw,nmD it,_,rfl,OQ k4,fK hi2,d1,(bU (bJ it).1 (by rw[(bJ it).2];decide)),d2,_,rfl,?_];rw[rj,<-eo];have ei:(if false=true then !onW wf it x else onW wf it x)=onW wf it x:=rfl;rw[ei];cases ho:onW wf it x with
    |true =>refine aQ #[_,rfl,hY _ _ #[rfl,?_]];rw[cu hx,Z6,Zf,Zf,hz,Yf,Ox ho];rfl
    |false =>refine aC (hY _ _ #[rfl,?_]);rw[cu hx,Z6,Zf,hz,Yf,Ow (by rw[ho];decide)];rfl
   rintro zs lz H4 ⟨rfl,hz⟩ glz;rw[Zv hts2,ZC]at hz;have wlz:=ad glz (.lst zs);refine#[lz,zs,rfl,.inl (OQ ac),_,_,rfl,rfl,?_];have q5:=q4 _ wlz;rw[<-hz,show decide (0<đ)=decide ((0:Ň)<(đ:Ň))from YM.mpr #[λz=>Int.ofNat_lt.mpr z,λz=>Int.ofNat_lt.mp z]]at q5;exact q5)
 refine#[_,rfl,a,_,_,_,rfl,rfl,OP h1,at1,_,rfl,th,_,_,_,rfl,rfl,OP et4,at0,c,_,_,_,rfl,rfl,OP h2,fu ∅,_,rfl,th,_,_,_,rfl,rfl,OP et4,at1,_,_,rfl,rfl,_,rfl,kT ö ö]
 .refine#[_,rfl,_,rfl,m,th,_,_,rfl,rfl,em3,et3,rest _ ?_];unfold cP fW;rw[decide_eq_true (show au e.2.1 (nm3 t).1.toNat>=(nm3 t).2 from c1),Bool.and_true];rw[show decide ([(nm3 e).1,(nm3 e).2]=[(nm3 t).1,(nm3 t).2])=decide (nm3 t=nm3 e)from YM.mpr #[λz=>((lN _ _).mp z).symm,λz=>(lN _ _).mpr z.symm]]
 .refine rest _ ?_;unfold cP fW;rw[decide_eq_false (show¬au e.2.1 (nm3 t).1.toNat>=(nm3 t).2 from c1),YN]
def nB(w:č)(u:Ù):Qb:=.tuple [.str w,iu u]
theorem Ek(a b:č)(u v:Ù):PyData.eqv (nB a u) (nB b v)=(decide (a=b)&&decide (u=v)):=by have e:=rT u v;unfold nB;simp only[PyData.eqv,PyData.eqvAll,e,Bool.and_true];congr 1
theorem zY{H:Hp}{t:OC}{w:č}(h:H t=some (.tup [.str w,bv]))(hu:UpAt H bv u)(hw:PyData.strOk w=true):Dt H (nB w u) (.ref t)/\SeqAt.shaped (nB w u)=true:=by
 exists[d1,d2,d3],oS hu;refine#[gQ h (bM (iP _) (bM d1 iO)),bU ?_ ?_]
 .simp[nB,PyData.canLay0,PyData.canLayAll0,hw,d2]
 .simp only[nB,PyData.depth,PyData.depthAll];omega
def An(H:Hp)(v:V)(ts:Ð):Prop:=∃p xs,v=.ref p/\H p=some ł/\NmsAt H xs ts
def mH(wf:Á)(Z:List (D3×List Nm))(t:D3)(it:Nm):Option Nm:=(Z.find? λz=>gnB wf z.1 t z.2 it).map λz=>nm3 z.1
def Gn(r:Rp):Option Nm->Bool
 |some n=>decide (r.2.1="kept")&&decide (r.2.2=some n)
 |none=>decide ô&&decide (r.2.2=none)
theorem MI(x y z:V):bY [x,y,z] (some 1) none=[y,z]:=by unfold bY;rw[HT.sIx_none,show(1:Ň)=((1:ĥ):Int)from rfl,HT.sIx_nat];rfl
theorem nZ(h:RsAt H r wd)(ht:Ā):∃iv,atI (.str wd.word::r) (-1)=some iv/\NameIs H iv (nk it):=by
 cases wd with
 |take n =>cases ht;exists[nv,rfl,a1],h;exact#[nv,rfl,a1]
 |join n m =>cases ht;exists[nv,mv,rfl,a1,a2],h;exact#[mv,rfl,a2]
 |_=>cases ht
inductive spTkL(vs:OU)(H:Hp)(Q:VK)(E_:XK):Prop
 |mk (a l lt d:OC) (rv:V) (t:D3) (it:Nm) (r:Rp) (L:L3) (T:List Ð) (tv:OU) (wf:Á) (h0:vs=[.ref a,rv,.ref l,.ref lt,.ref d]) (h1:DA H a t) (h2:bg t.2.2=some it) (h3:Ľ) (h4:PyData.strOk r.2.1=true) (h5:LR3 H l L) (h6:H lt=some (.lst tv)) (h7:Paired (An H) tv T) (h8:L.length=T.length) (h9:Ą)
  (h10:∀z∈(L.map Prod.snd).zip T,z.1.2.1.length=t.2.1.length/\z.1.2.2.ok/\z.2.length<=2/\∀x∈z.2,(wf x).isSome=true) (q:∀H',Same H H'->Q (.bl (Gn r (mH wf ((L.map Prod.snd).zip T) t it))) H'):spTkL vs H Q E_
abbrev tH:Stmt:=top 55
abbrev GW:List Str:=["_law_deed","_law_row","_law_deeds_here","_law_touches","_law_ways_here","_law_item","_law_other","_law_touched_here"]
theorem nu:FnScope GW ["_law_deed","_law_row","_law_deeds_here","_law_touches","_law_ways_here"] (aq tH):= ~~~0
theorem EX(F:Fun K "_law_taken" "_law_taken" tH f fd)(i6:Ñ)(Nd:↑Fn 2 "_law_gainsays" ["_law_deed","_law_touched_here","_law_taking","_law_item","_law_ways_here"] spGn)(i9:mg "zip" = none):↑FnOk CX0 3 f fd ["_law_deed","_law_row","_law_deeds_here","_law_touches","_law_ways_here"] spTkL:=by
 exists nu
 obtain⟨a,l,lt,d,rv,t,it,r,L,T,tv,wf,rfl,ha,hit,⟨tr,nv,bv,rfl,x2,x3,x4⟩,hok,hL,hlt,hT,hlen,hw,hall,q⟩:=h;exists _,(b_c (aA (i:=5) ō (am ao Ò (qv nC ai)))
   (b_c (dG ZT rfl (lJ i9 (q_a ↑2 ý)) (jl rfl (bC (aw (i:=6) ō) (bC (aw (i:=7) ō) fj))) (b_1 (aT (dS (aI Nd ↑99 (q_a ↑6 (q_a ↑7 (q_a ↑0 (q_a ↑5 (q_a ↑4 ah))))))) (b_1 (ax (cG ê ÿ (aD (q_a ar (q_a (aI i6 ↑99 (q_a ↑6 ah)) ah)))))) b_0)))
   (b_1 (ax (cG ê ÿ (aD (q_a ar (q_a bX ah))))))))
 obtain⟨c,wa,h1,h2,⟨rs,h3,h4⟩,h5,h6⟩:=id ha;exists[iv,e1,e2],nZ h4 hit;refine#[_,rfl,a,_,_,_,rfl,rfl,OP h1,at2,_,rfl,wa,_,_,_,rfl,rfl,OP h3,e1,?_];have ltv:tv.length=T.length:=Zv hT;have fin:∀{H':Hp},Same H H'->∀(sl tp:OC) (w':č) (u':Ù) (uv:V),H' sl=some (.tup (bY [nv,.str r.2.1,bv] (some 1) none))->H' tp=some (.tup [.str w',uv])->UpAt H' uv u'->PyData.strOk w'=true->∃dx dy,Dt H' dx (.ref sl)/\Dt H' dy (.ref tp)/\SeqAt.shaped dx=true/\SeqAt.shaped dy=true/\PyData.eqv dx dy=(decide (r.2.1=w')&&decide (r.2.2=u')):=fun{H'} s' sl tp w' u' uv g1 g2 g3 g4=>by rw[MI]at g1;exists[y1,y2],zY g1 (x4.ts (OO s')) hok;exists[y3,y4],zY g2 g3 g4;exact#[_,_,y1,y3,y2,y4,Ek _ _ _ _]
 generalize hZ:(L.map Prod.snd).zip T=Z at hall q;have zat:∀(k:ĥ) (hk:k<L.length) (ts:Ð),T[k]?=some ts->Z[k]?=some ĵ:=λk hk ts ht=>by rw[<-hZ,YQ];exact#[by rw[Zy,Ze hk];rfl,ht]
 have lZ:Z.length=L.length:=by rw[<-hZ,List.length_zip,Zd,<-hlen,Nat.min_self]
 refine#[_,rfl,_,rfl,l,lt,_,_,rfl,OQ hL.1,OQ hlt,by rw[aG,ltv,hlen],?_];refine wN (K:=K) (a:=l) (b:=lt) (xs:=aH L) (ys:=tv) (λk Y H'=>Same H H'/\(∃o6 o7,Y=[some (.ref a),some (.ref tr),some ĩ,some (.ref lt),some (.ref d),some iv,o6,o7])/\(Z.take k).find? (λz=>gnB wf z.1 t z.2 it)=none)
  #[Same.refl H,#[none,none,rfl],rfl] (λi Y H' _ z=>OQ (z.1 _ _ hL.1)) (λi Y H' _ z=>OQ (z.1 _ _ hlt)) (by rw[aG,ltv,hlen]) ?_ ?_
 .rintro k x y Y H' hx hy ⟨sm,⟨o6,o7,rfl⟩,hf⟩ tz gz;exists[hk,rfl],cC hx;exists[ts,hts,p,xs,rfl,p1,p2],aP hT hy;have zk:=zat k hk ts hts;exists[z1,z2,z3,z4],hall _ (ZI zk);have S1:=sm.trans (ad gz ó);generalize upd H' tz ó=H1 at S1 ⊢;have hd1:=(hL.2 _ (ZG hk)).ts Ĕ;refine#[_,rfl,_,rfl,_,rfl,_,rfl,_,rfl,L[k].1,p,a,d,iv,L[k].2,t,ts,xs,it,wf,rfl,hd1,ha.ts Ĕ,S1 _ _ p1,p2.ts Ĕ,e2.ts' Ĕ,hw.same S1,z4,z1,z2,z3,λH2 s2=>#[_,rfl,?_]];have S2:=S1.trans s2;cases hg:gnB wf L[k].2 t ts it with
  |false =>refine aC #[S2,#[_,_,rfl],?_];rw[cu zk,List.find?_append,hf,Option.none_or];show List.find? _ [ĵ]=none;rw[Yw (by rw[hg];decide)];rfl
  |true =>
   have ef:mH wf Z t it=some ĭ:=by unfold mH;rw[<-List.take_append_drop (k+1) Z,cu zk,List.find?_append,List.find?_append,hf,Option.none_or];rw[Yv (by exact hg)];rfl
   rw[ef]at q;refine aQ ?_;refine#[_,rfl,_,rfl,tr,_,rfl,S2 _ _ x2,λsl H3 s3 g3=>#[_,rfl,L[k].1,L[k].2,rfl,hd1.ts (OO (s2.trans s3)),λtn H4 s4 g4=>#[sz rfl,λtp gp=>?_]]];have w5:=ad gp (.tup [.str "kept",.ref tn]);have S5:=S2.trans (s3.trans (s4.trans w5));exists[dx,dy,f1,f2,f3,f4,f5],fin S5 sl tp "kept" (some ĭ) (.ref tn) (w5 _ _ (s4 _ _ g3)) ac #[tn,rfl,w5 _ _ g4] ⋯;refine#[dx,dy,f1,f2,f3,f4,?_];rw[f5];exact q _ S5
 .rintro Y H' ⟨sm,⟨o6,o7,rfl⟩,hf⟩;rw[aG,<-lZ,ZC]at hf;have ef:mH wf Z t it=none:=by unfold mH;rw[hf];rfl
  rw[ef]at q;refine#[_,rfl,_,rfl,tr,_,rfl,sm _ _ x2,λsl H3 s3 g3=>#[sz rfl,λtp gp=>?_]];have w5:=ad gp (.tup [.str "done",.non]);have S5:=sm.trans (s3.trans w5);exists[dx,dy,f1,f2,f3,f4,f5],fin S5 sl tp "done" none .non (w5 _ _ g3) ac rfl ⋯;refine#[dx,dy,f1,f2,f3,f4,?_];rw[f5];exact q _ S5
inductive Abv(ol:Ol):Option Nm->List Nm->Prop
 |none:Abv ol none []
 |up {n:Nm} {it:It} {l:Ð} (h:Ę) (t:Abv ol Ď l):Abv ol (some n) (n::l)
theorem Abv.one(h:Abv ol u a)(g:Abv ol u b):a=b:=by
 induction h generalizing b with
 |none=>cases g;rfl
 |up h _ ih =>
  cases g with
  |up h' t' =>rw[h]at h';cases h';rw[ih t']
theorem we{k:ĥ}(h:Ch ol k u):∃l,Abv ol u l:=by
 induction h with
 |none=>exact#[[],.none]
 |up hl _ ih =>exists[l,hl'],ih;exact#[_,.up hl hl']
theorem Abv.cut(h:à):∀x∈l,∃l',Abv ol ß l'/\l'.length<=Ý:=by
 induction h with
 |none=>intro x hx;cases hx
 |@up n it l hl t ih =>
  intro x hx;rcases Zg.mp hx with rfl|hx
  .exact#[_,.up hl t,Zi _]
  .exists[l',h1,h2],ih x hx;exact#[l',h1,Nat.le_succ_of_le h2]
theorem Abv.nd(h:à):l.Nodup:=by
 induction h with
 |none=>exact .nil
 |@up n it l hl t ih =>refine Z3.mpr #[λhm=>?_,ih];exists[l',h1,h2],t.cut n hm;have:=Abv.one h1 (.up hl t);rw[this,Zm]at h2;omega
theorem Abv.isin(h:à):∀x∈l,(look ol x).isSome=true:=by
 intro x hx;exists[l',h1,_],h.cut x hx;cases h1 with
 |up hl _=>rw[hl];rfl
theorem rh:∀{l m:Ð},l.Nodup->(∀x∈l,x∈m)->Ý<=m.length
 | [],m,_,_=>ZL _
 |x::l,m,nd,h=>by exists[n1,n2],Z3.mp nd;have hx:=h x Zn;have:=rh (l:=l) (m:=m.erase x) n2 λy hy=>(List.mem_erase_of_ne fun(z:y=x)=>n1 (z▸hy)).mpr (h y ĝ);rw[List.length_erase_of_mem hx]at this;have:=List.length_pos_of_mem hx;rw[Zm];omega
theorem Abv.und{k:ĥ}(h:Und ol o k u b)(g:à):b=decide (o∈l):=by
 induction h generalizing l with
 |none=>cases g;rfl
 |self =>
  cases g with
  |up hl t=>exact(decide_eq_true Zn).symm
 |up ne hl _ ih =>
  cases g with
  |up hl' t =>rw[hl]at hl';cases hl';rw[ih t,YM,Zg];exact#[.inr,λz=>z.resolve_left λe=>ne e.symm]
theorem zp{β:Đ}{ol:ę}{n:Nm}{it:β}(h:Ę):n∈ol.map (·.1):=by
 induction ol with
 |nil=>cases h
 |cons p ol ih =>
  unfold look at h;by_cases c:p.1=n
  .rw[Zr,c];exact Zn
  .rw[Ow c]at h;exact Zj _ (ih h)
theorem Abv.len(h:à):Ý<=Ö:=by
 have:=rh h.nd (m:=ol.map (·.1)) λx hx=>by exists[it,e],Zw.mp (h.isin x hx);exact zp e
 rw[Zd]at this;exact this
set_option ě true in theorem Jb(t:ą):∃wf:Nm->Option Ð,(∀n,(wf n).isSome=(look ol n).isSome)/\∀n l,wf n=some l->Abv ol (some n) l:=by
 refine#[λn=>match h:look ol n with
  |some it=>some (Classical.choose â)
  | none=>none,λn=>?_,λn l hn=>?_]
 .dsimp only;split<;>simp_all
 .dsimp only at hn;split at hn
  .rename_i it h;cases hn;exact Classical.choose_spec â
  .cases hn
theorem Kh{wf:Á}(hw:Ï){k:ĥ}(hx:(wf x).isSome=true)(h:Und ol o k ß b):onW wf o x=kz ol o x:=by exists[l,hl],Zw.mp hx;rw[Ab h,Abv.und h (hw x l hl)];unfold onW;rw[hl];rfl
theorem JM{e t:D3}:gnB wf e t [] it=false:=by
 unfold gnB;split
 .rw[decide_eq_false (show¬([]:List Nm)=[it]from λz=>by cases z),YN]
 .split
  .rfl
  .rfl
theorem Au{e:D3}(h:î):br e=[it]:=by
 exists[hn,cs,wd],e;cases wd with
 |back n =>cases h;rfl
 |_=>cases h
theorem sk{α:Đ}(p:α->Bool):∀l:List α,decide (0<(l.filter p).length)=l.any p
 | []=>rfl
 |x::l=>by
  rw[Yf,YF];cases c:p x with
  |true =>rw[Ox rfl,Bool.true_or];exact decide_eq_true (by rw[Zm];exact Xb _)
  |false =>rw[Ow ⋯,Bool.false_or];exact sk p l
theorem wg{α:Đ}{p q:α->Bool}:∀{l:List α},(∀x∈l,p x=q x)->l.any p=l.any q
 | [],_=>rfl
 |x::l,h=>by rw[YF,YF,h x Zn,wg λy hy=>h y ĝ]
set_option ě true in theorem LK{wf:Á}(hw:Ï){e t:D3}(ha:∀x∈br e,(wf x).isSome=true/\∃k b,Und ol it k ß b):gnB wf e t (br e) it=gsB ol e t it:=by
 have ea:(br e).any (λx=>onW wf it x)=(br e).any λx=>kz ol it x:=wg λx hx=>by exists[h1,k,b,h2],ha x hx;exact Kh hw h1 h2
 unfold gnB gsB;rw[sk,ea];cases c1:cP e (nm3 t)with
 |true =>
  rw[Ox rfl,Bool.and_true];have ap:dU e t=false:=by
   unfold dU;split
   .rfl
   .rw[c1];rfl
  rw[ap,Bool.false_and,Bool.or_false];by_cases c:fi e.2.2=some it
  .rw[decide_eq_true c,decide_eq_true (Au c)];rfl
  .rw[decide_eq_false c];rfl
 |false =>
  rw[Ow ⋯,YN,Bool.false_or];cases c2:fW t.2.1 (nm3 e)with
  |true =>
   rw[Ox rfl];have ap:dU e t=false:=by
    unfold dU;split
    .rfl
    .rename_i ne;have:cP t õ=true:=by unfold cP;rw[c2,decide_eq_false ne];rfl
     rw[this,Bool.not_true,YN]
   rw[ap,Bool.false_and]
  |false =>
   rw[Ow ⋯];have ne:nm3 e≠nm3 t:=λz=>by rw[z]at c2;unfold fW at c2;exact of_decide_eq_false c2 (Int.le_refl _)
   have ap:dU e t=true:=by
    unfold dU;rw[Ow ne,c1];have:cP t õ=false:=by unfold cP;rw[c2,YN]
    rw[this];rfl
   rw[ap,Bool.true_and]
def My(H:Hp)(kvs:OT)(ol:Ol):Prop:=∀n it,look ol n=some it->∃uv,aW kvs (nk n)=some uv/\UpAt H uv Ď
abbrev MA(K:Qa):TT:=FI (vK (tOp (λx y H Q=>y=V.non/\Q (V.bl !decide (x=V.non)) H) Ó (tC V.non)))
 (vK (tOp (rI0 λi j=>V.bl (decide (i<j))) (tCB (λxs H Q=>∃p ys,xs=[V.ref p]/\(SqL K H p ys\/SqT K H p ys)/\Q (V.int (ys.length:Nat)) H) (gC (tVar 4) gN)) (tOp (rI0 λi j=>V.int (i+j)) (tCB (λxs H Q=>∃a kvs,xs=[V.ref a]/\Rd H a (HO.dT kvs)/\Q (V.int (Ċ:ĥ)) H) (gC (tVar 2) gN)) (tC (V.int 2)))))
abbrev Mz(K:Qa):Lake.TS:=Bt (tBM K "list" rAppend (tVar 4) (gC (Bs (tVar 2) Ó) gN))
theorem FS{K:Qa}{D:Ends}{H:Hp}{kvs:OT}(hne:du≠wl)(hw:Abv ol ß way)(hk:Ċ=Ö)(hl:ň)(hd:∀H',Ë->Rd H' du Ă)(hu:My H kvs ol)(h0:H wl=some (.lst [xv]))(hx:NameIs H xv (nk x))(hD:∀H' vs,Ë->H' wl=some (.lst (vs++[.non]))->NmsAt H' vs way->D.nx [s0,s1,some Ğ,s3,some ğ] H'):yi (MA K) (Mz K) D [s0,s1,some Ğ,s3,some ğ] H:=by
 refine#[λm Y H'=>Y=[s0,s1,some Ğ,s3,some ğ]/\Ë/\∃(pre l:Ð) (vs:OU) (u:Ù) (uv:V),H' wl=some (.lst (vs++[uv]))/\NmsAt H' vs pre/\UpAt H uv u/\Abv ol u l/\pre++l=way/\m=Ý,#[ċ,rfl,λ_ _ _ e=>e,[],way,[],some x,xv,h0,.nil,hx,hw,rfl,rfl],?_];rintro m Y H' ⟨rfl,keep,pre,l,vs,u,uv,e1,e2,e3,e4,e5,rfl⟩;have lw:=hw.len;have lp:Ē+Ý=ċ:=by rw[<-e5,Zf,Zv e2]
 cases e4 with
 |none =>obtain rfl:uv=.non:=e3;rw[ZF]at e5;refine#[_,rfl,_,rfl,wl,_,_,_,rfl,rfl,OQ e1,mC _ _,rfl,_,rfl,mO rfl (aC ?_)];exact hD H' vs keep e1 (e5▸e2)
 |@up n it l hn t =>
  exists[ub,rfl,hub],id e3;have nw:∀{b:OC} {zs:OU},H b=some (.tup zs)->b≠wl:=λh z=>by rw[z,h0]at h;cases h
  have hub':=keep _ _ (nw hub) hub;exists[uv',k1,k2],hu n it hn;have l1:(vs++[V.ref ub]).length=Ē+1:=by rw[Zf];rfl
  have lc:Ē+(Ý+1)=ċ:=lp;refine#[_,rfl,_,rfl,wl,_,_,_,rfl,rfl,OQ e1,mC _ _,rfl,_,rfl,mM nofun ?_];refine#[_,rfl,wl,_,rfl,.inl (OQ e1),_,rfl,du,kvs,rfl,hd H' keep,_,_,rfl,rfl,_,_,rfl,rfl,_,rfl,?_];rw[decide_eq_true (show(((vs++[V.ref ub]).length:Nat):Int)<(Ċ:Ň)+2 by rw[l1,hk];omega)];refine aQ #[_,λ_ _ z=>#[Ý,YC _,z],?_];refine#[_,rfl,.inl #[rfl,_,OQ e1],_,rfl,_,rfl,_,rfl,wl,_,_,_,rfl,rfl,OQ e1,mC _ _,du,uv',rfl,.inr #[kvs,nk n,ub,hd H' keep,rfl,hub',k1.symm],?_];refine#[wl,_,_,rfl,rfl,e1,aU (by rw[l1];omega),?_];refine#[rfl,λb o nb hb=>by rw[af nb];exact keep b o nb hb,pre++[n],l,vs++[.ref ub],Ď,uv',ac,?_,k2,t,by rw[Xd];exact e5,rfl];have up1:∀{v:V} {a:Nm},NameIs H' v (nk a)->NameIs (upd H' wl (.lst (vs++[.ref ub]++[uv']))) v (nk a):=fun{v a} ⟨b,h1,h2⟩=>#[b,h1,by rw[af λz=>by rw[z,e1]at h2;cases h2];exact h2]
  exact y7 (Paired.mapP e2 λ_ _ z=>up1 z) (up1 #[ub,rfl,hub'])
theorem wO{wf:Á}(hw:Ï){t:D3}:∀{Z:List ñ},(∀z∈Z,ba z.2=true->∀x∈br z.1.2,(wf x).isSome=true/\∃k b,Und ol it k ß b) ->
  mH wf (Z.map λz=>(z.1.2,if ba z.2=true then br z.1.2 else[])) t it=cO ol ((aZ Z).map Prod.snd) t it
 | [],_=>rfl
 |z::Z,h=>by
  have ih:=wO hw (t:=t) (it:=it) (Z:=Z) λy hy=>h y ĝ;unfold mH cO aZ at ih ⊢;rw[Zr,Yf];cases c:ba z.2 with
  |false =>rw[Ow ⋯,Ow ⋯,Yw (by rw[JM];decide)];exact ih
  |true =>
   rw[Ox rfl,Ox rfl,Zr,Zr];have e:=LK hw (t:=t) (h z Zn c);cases g:gsB ol z.1.2 t it with
   |true =>rw[Yv (by rw[e];exact g),Yv (by exact g)];rfl
   |false =>rw[Yw (by rw[e,g];decide),Yw (by rw[g];decide)];exact ih
theorem Eu{w:č}:inV ç (xs++ys)=(inV ç xs ||inV ç ys):=by unfold inV;rw[List.any_append]
theorem Fm{ts:ľ}{w:č}(hw:inV ç [.str "over",.str "kept"]=false)(hk:(look kp n).isSome=true->ba w=true)(ho:(look ov n).isSome=true->ba w=true):oh (cj kp ov ts n w).2.1=ba w:=by
 unfold cj;by_cases c:w="off"
 .rw[Ox c,c];rfl
 .rw[Ow c];cases e:look kp n with
  |some b =>rw[hk (by rw[e];rfl)];rfl
  |none =>
   cases e2:look ov n with
   |some b =>rw[ho (by rw[e2];rfl)];rfl
   |none =>show oh w=ba w;unfold oh ba;rw[show([.str "done",.str "top",.str "over",.str "kept"]:OU)=[.str "done",.str "top"]++[.str "over",.str "kept"]from rfl,Eu,hw,Bool.or_false]
def Gk(ol:Ol)(ds:List Dd):Prop:=∃B,Inv ol B/\Fresh ol ds/\Ö+Ŀ<=63/\B+5*Ŀ<=400
theorem Hl{w:č}(h:Gk ol (d::ds))(p:PlayR ol d.1 d.2 w so ol'):Gk ol' ds:=by
 exists[B,v,f,h1,h2],h;rw[Zm]at h1 h2;have nw:=f.non d Zn;have k:=Dc v (f.ok d Zn) nw p;refine#[B+5,k.inv,#[f.tail.ok,λe he hm=>?_,f.tail.pw],by have:=k.len;omega,∅];refine k.non e.1 (λz=>?_) (f.tail.non e he hm);by_cases cm:d.2.mk=true
 .rw[Ox cm]at z;exact(List.pairwise_cons.mp f.pw).1 e he cm hm (Zh.mp z).symm
 .rw[Ow cm]at z;cases z
theorem fY:Gd Gk:=by
 refine#[fun{ol d ds} h=>?_,Hl,fun{ol d ds} h=>?_,fun{ol d ds} h=>?_,fun{ol d ds} h s hs=>?_,fun{ol ds} h=>?_]
 .exists[B,v,f,h1,h2],h;rw[Zm]at h1 h2;exact#[B,v,f.tail,∅,∅]
 .exists[B,v,f,h1,h2],h;exact v.small ∅ ∅
 .exists[B,v,f,h1,h2],h;exact f.non d Zn
 .exists[B,v,f,h1,h2],h;exact xM v (f.non d Zn) hs
 .exists[B,v,f,h1,h2],h;exact v.ter
theorem D2(ap:Ap ol s ol')(nw:∀n∈s.news,look ol n=none):ol'.map (·.1)=ol.map (·.1)++s.news:=by
 have old:∀{n:Nm} {it it':It},look ol n=some it->(aF ol n it').map (·.1)=ol.map (·.1)++[]:=λh=>by rw[dh,Ox Ħ,ZF]
 cases ap with
 |@put n u pl tx =>rw[dh,Ow (by rw[nw n Č];decide)];rfl
 |move h=>exact old h
 |write h=>exact old h
 |mark h=>exact old h
 |due h=>exact old h
 |fold h=>exact old h
 |@part n a m pl it h =>have hm:=nw m Č;rw[dh,Ow (by rw[ay,Ow (λz=>by rw[z,h]at hm;cases hm),hm];decide),dh,Ox Ħ];rfl
 |join _ _ j =>rw[j.nm];exact(ZF _).symm
 |gone=>exact(ZF _).symm
def wdR(wd:Wd)(w:č):Prop:=(w="off"\/w="turn"\/w="done"\/w="none"\/w="top"\/w="beneath"\/w="far")/\(w="top"->bg wd=none)
theorem rH(wd:Wd){w:č}(h:inV ç [.str "done",.str "top"]=false)(h':w≠"done"):eS wd w=false:=by
 cases wd with
 |put=>exact h
 |part=>exact decide_eq_false h'
 |_=>rfl
theorem Bc{w:č}(p:Ć)(nw:Ŏ=true->look ol n=none):ol'.map (·.1)=ol.map (·.1)++(if eS wd w=true then[n]else[]):=by
 have no:∀{b:Bool},b=false->ol.map (·.1)=ol.map (·.1)++(if b=true then[n]else[]):=λe=>by rw[e,Ow ⋯,ZF]
 cases p with
 |none=>exact no rfl
 |take=>exact no rfl
 |back=>exact no rfl
 |top hm =>rw[dh,Ow (by rw[nw rfl];decide),show eS (Wd.put _ _ _) "top" = true from(show inV (.str "top") [.str "done",.str "top"]=true by decide),Ox rfl]
 |@step _ s w _ hs ht wr =>
  cases wr with
  |none _=>exact no ò
  |beneath _ _=>exact no ò
  |far _ _=>exact no ò
  |done hh hb ap =>
   have e:eS wd "done" = Ŏ:=by
    cases wd with
    |put=>exact show inV (.str "done") [.str "done",.str "top"]=true by decide
    |part=>exact show decide (("done":Str)="done")=true from decide_eq_true rfl
    |_=>rfl
   have en:=ma hs;rw[D2 ap (λx hx=>by
    rw[en]at hx;by_cases c:Ŏ=true
    .rw[Ox c]at hx;rw[Zh.mp hx];exact nw c
    .rw[Ow c]at hx;cases hx),en,e]
theorem Ir{w:č}(p:Ć):wdR wd w/\(ba w=true->∀it,bg wd=some it->(look ol' it).isSome=true):=by
 have two:∀{b:Bool},wdR wd (if b=true then"done" else"none"):=fun{b}=>by
  cases b
  .exact#[.inr (.inr Ô),λz=>absurd z ⋯]
  .exact#[.inr Ô,λz=>absurd z ⋯]
 cases p with
 |none=>exact#[two (b:=true),λ_ it h=>nomatch h]
 |@take m =>
  refine#[two,λhw it h=>?_];cases h;by_cases c:(look ol m).isSome=true
  .exact c
  .rw[Ow c,kL]at hw;cases hw
 |back=>exact#[two,λ_ it h=>nomatch h]
 |top _=>exact#[#[.inr ė,λ_=>rfl],λ_ it h=>nomatch h]
 |@step _ s w _ hs ht wr =>
  cases wr with
  |none _=>exact#[two (b:=false),λhw=>by rw[kL]at hw;cases hw]
  |beneath _ _=>exact#[#[.inr (.inr ė),λz=>absurd z ⋯],λhw=>by rw[nX]at hw;cases hw]
  |far _ _=>exact#[#[.inr (.inr (.inr (.inr (.inr (.inr rfl))))),λz=>absurd z ⋯],λhw=>by rw[xq]at hw;cases hw]
  |done hh hb ap =>
   refine#[two (b:=true),λ_ it h=>?_];cases wd with
   |take=>cases hs
   |join a m =>cases hs;cases h;exact sq ap _ (hh _ (by simp[Sd.items]))
   |_=>cases h
theorem zZ{wd:Wd}{w:č}(h:wd.isTurn=true):bg wd=none/\eS wd w=false:=by cases wd<;>first|exact#[rfl,rfl]|cases h
def sH(Z:List Į):List Nm:=(Z.filter λz=>eS z.1.2 z.2.2.1).map λz=>z.1.1
theorem kE(z:Į)(Z:List Į):sH (z::Z)=(if eS z.1.2 z.2.2.1=true then[z.1.1]else[])++sH Z:=by
 unfold sH;rw[Yf];split
 .rfl
 .rfl
theorem lS{ts:ľ}:∀{ds:List Dd} {ol e:Ol} {rs:List bh},Gk ol ds->Runs ts tn ol ds rs->gE ts ol ds e->e.map (·.1)=ol.map (·.1)++sH (ds.zip rs)/\∀z∈ds.zip rs,wdR z.1.2 z.2.2.1/\(ba z.2.2.1=true->∀it,bg z.1.2=some it->(look e it).isSome=true)
 | [],ol,e,rs,g,r,h=>by have h1:e=ol:=h;rw[h1];exact#[(ZF _).symm,λz hz=>nomatch hz]
 |d::ds,ol,e,rs,g,r,h=>by
  cases c:cD d ts with
  |true =>
   exists[r1,rfl,x1],lT c r;exists[a,b],lS Ķ x1 (h.1 (.inl c));rw[List.zip_cons_cons,kE];dsimp only;rw[rH d.2 (w:="off") ⋯ ⋯,Ow ⋯];refine#[a,λz hz=>?_];rcases Zg.mp hz with rfl|hz
   .exact#[#[.inl rfl,λy=>absurd y (show¬("off":Str)="top" by decide)],λy=>absurd y (by rw[xt];decide)]
   .exact b z hz
  |false =>
   cases c2:d.2.isTurn with
   |true =>
    exists[r1,rfl,x1],jT c c2 r;exists[a,b],lS Ķ x1 (h.1 (.inr c2));rw[List.zip_cons_cons,kE];dsimp only;rw[(zZ c2).2,Ow ⋯];refine#[a,λz hz=>?_];rcases Zg.mp hz with rfl|hz
    .have t0:=(zZ (w:="") c2).1;refine#[#[?_,λ_=>t0],λ_ it y=>?_]
     .show(if turned d∈tn then("turn":Str)else"done")="off"\/_;split
      .exact .inr (.inl rfl)
      .exact .inr Ô
     .have y:bg d.2=some it:=y;rw[t0]at y;cases y
    .exact b z hz
   |false =>
    exists[w,so,o1,r1,rfl,p1,x1],jS c c2 r;exists[w',so',o2,p2,x2],h.2 c c2;exists[rfl,_,e12],jP ď p1 p2;exists[r2,y2],gJ fY (ts:=ts) (tn:=tn) ħ;obtain rfl:=jU e12 x1 y2;exists[a,b],lS ħ y2 x2;rw[List.zip_cons_cons,kE,<-Xd,a,Bc p2 (fY.new g)];refine#[rfl,λz hz=>?_];rcases Zg.mp hz with rfl|hz
    .exists[k1,k2],Ir p2;exact#[k1,λhl it hi=>jF x2 (k2 hl it hi)]
    .exact b z hz
def iB(Z:List ñ):List Nm:=(Z.filter λz=>eS z.1.2.2.2 z.2).map λz=>nm3 z.1.2
theorem wH:∀{L:L3} {rs:List bh},sH ((aR L).zip rs)=iB (L.zip É)
 | [],_=>rfl
 |_::_,[]=>rfl
 |x::L,r::rs=>by
  show sH ((toD x.2,r)::(aR L).zip rs)=iB ((x,r.2.1)::L.zip É);rw[kE,wH];unfold iB;rw[Yf];by_cases c:eS x.2.2.2 r.2.1=true
  .rw[Ox (show eS (toD x.2).2 r.2.1=true from c),Ox c];rfl
  .rw[Ow (show¬eS (toD x.2).2 r.2.1=true from c),Ow c];rfl
structure RnK(L:L3)(W:List Str)(n:ĥ)(e:Ol):Prop where
 tk:Tkn L W n λol=>Eqo e ol/\ol.map (·.1)=iB Ń
 lw:W.length=L.length
 sm:Small e
 le:(iB Ń).length<=63
 ter:Ter e
 wd:∀z∈L.zip W,wdR z.1.2.2.2 z.2
 held:∀z∈L.zip W,ba z.2=true->(∀x∈br z.1.2,(look e x).isSome=true)/\∀it,bg z.1.2.2.2=some it->(look e it).isSome=true
 nod:((L.zip W).map λz=>nm3 z.1.2).Nodup
theorem Ml{L:L3}{n:ĥ}(ln:L.length<=63)(nod:((aR L).map Prod.fst).Nodup)(cl:∀x∈L,x.2.2.1.length=n/\DOk x.2.2.2):∃W e,RnK L W n e:=by
 have ll:(aR L).length=L.length:=Zd ..;have g0:Gk [] ī:=#[0,MM,#[λd hd=>by exists[x,hx,rfl],Zt.mp hd;exact(cl x hx).2,λ_ _ _=>rfl,(List.pairwise_map.mp nod).imp λz _ _=>z],by rw[Yo];omega,∅]
 exists[rs,run],gJ fY (ts:=aJ ī) (tn:=bo ī) g0;exists[e,he],oX fY (ts:=aJ ī) g0;have T:=Mv fY g0 ln nod (λx hx=>#[(cl x hx).1,B8 (cl x hx).2]) run he;exists[B,v,_,h1,h2],qP fY g0 he;have sm:Small e:=v.small (by rw[Yo]at h1;omega) ∅;exists[a1,a2],lS g0 run he;have at0:∀z∈L.zip É,∃r:bh,r.2.1=z.2/\(toD z.1.2,r)∈(aR L).zip rs:=λz hz=>by rw[List.zip_map_right]at hz;obtain⟨⟨x,r⟩,hxr,rfl⟩:=Zt.mp hz;refine#[r,rfl,?_];unfold aR;rw[List.zip_map_left];exact Zt.mpr #[(x,r),hxr,rfl]
 have lr:=jB run;have nod':((L.zip É).map λz=>nm3 z.1.2).Nodup:=by
  have e1:(L.zip É).map (λz=>nm3 z.1.2)=(aR L).map Prod.fst:=by
   have:(L.zip É).map Prod.fst=L:=List.map_fst_zip (by rw[Zd];omega)
   conv=>rhs;rw[<-this]
   unfold aR;rw[Z4,Z4];rfl
  rw[e1];exact nod
 refine#[rs.map λr:bh=>r.2.1,e,#[T.len,T.safe,T.nod,T.words,λr' h=>?_,T.cl,λol hol=>T.asks ol hol.1],by rw[Zd];omega,sm,?_,v.ter,λz hz=>?_,λz hz hl=>?_,nod']
 .refine gS fY g0 h λe' he'=>#[lH ď he he',?_]
  obtain rfl:=jU ď run h;rw[(lS g0 run he').1,wH];rfl
 .rw[<-wH];have:=Z2 List.length a1;have:=sm.len;simp only[Zd,Zf,Yo]at *;omega
 .exists[r,e1,e2],at0 z hz;have:=(a2 _ e2).1;rw[e1]at this;exact this
 .exists[r,e1,e2],at0 z hz;refine#[λx hx=>?_,λit hi=>?_]
  .rw[qa]at hx;exact io fY g0 run he _ e2 ć x hx
  .exact(a2 _ e2).2 ć it hi
theorem FP(e:ĸ)(o x:Nm):kz a o x=kz b o x:=by
 unfold kz;have:(∃k,Und a o k ß true)↔∃k,Und b o k ß true:=#[fun⟨k,h⟩=>#[k,mh e h],fun⟨k,h⟩=>#[k,mh (λy=>(e y).symm) h]]
 by_cases c:∃k,Und a o k ß true
 .rw[@decide_eq_true _ Ì c,@decide_eq_true _ Ì (this.mp c)]
 .rw[@decide_eq_false _ Ì c,@decide_eq_false _ Ì λz=>c (this.mpr z)]
theorem pI(e:ĸ)(D:Ĺ):aX a D=aX b D:=by
 have:dF a=dF b:=by funext D d;unfold dF cO gsB;simp only[FP e]
 unfold aX;rw[this]
theorem IY(e:ĸ)(t:Ter a):Ter b:=λn it h=>by
 rw[<-e n]at h;exists[k,c],t n it h;refine#[k,?_];generalize some n=u at c;induction c with
 |none=>exact .none
 |up h _ ih=>exact .up (by rw[<-e];exact h) ih
theorem pX:∀{qs:ā} {acc:Ĭ},(look acc n).isSome=true->(look ĉ n).isSome=true
 | [],_,h=>h
 |q::qs,acc,h=>by
  show(look Û n).isSome=true;refine pX ?_;rw[ay];split
  .rfl
  .exact h
theorem pY:∀{qs:ā} {acc:Ĭ},(n,b)∈qs->(look ĉ n).isSome=true
 |q::qs,acc,h=>by
  show(look Û n).isSome=true;rcases Zg.mp h with rfl|h
  .refine pX ?_;rw[ay,Ox rfl];rfl
  .exact pY h
theorem jp:∀{qs:ā} {acc:Ĭ},look ĉ n=some b->(n,b)∈qs\/look acc n=some b
 | [],_,h=>.inr h
 |q::qs,acc,h=>by
  have h':look Û n=some b:=h;rcases jp h' with h1|h1
  .exact .inl ń
  .rw[ay]at h1;by_cases c:n=q.1
   .rw[Ox c]at h1;cases h1;rw[c];exact .inl Zn
   .rw[Ow c]at h1;exact .inr h1
theorem yj{t:Tk}:t∈aX ol D↔∃d∈D,∃it,bg d.2.2=some it/\t=(nm3 d,it,cO ol D d it):=by
 unfold aX;rw[List.mem_flatMap];constructor
 .rintro⟨d,hd,h⟩;unfold dF at h;cases e:bg d.2.2 with
  |none=>rw[e]at h;cases h
  |some it =>rw[e]at h;exact#[d,hd,it,e,Zh.mp h]
 .rintro⟨d,hd,it,e,rfl⟩;refine#[d,hd,?_];unfold dF;rw[e];exact Zh.mpr rfl
theorem xo:(n,b)∈dj é↔∃d∈D,∃it,bg d.2.2=some it/\nm3 d=n/\cO ol D d it=some b:=by
 unfold dj;rw[Yc];constructor
 .rintro⟨t,ht,h⟩;exists[d,hd,it,e,rfl],yj.mp ht;cases f:cO ol D d it with
  |none=>simp only[f,Option.map_none]at h;cases h
  |some c =>simp only[f,Option.map_some,Xf,Prod.mk.injEq]at h;exact#[d,hd,it,e,h.1,by rw[<-h.2,f]]
 .rintro⟨d,hd,it,e,rfl,f⟩;exact#[_,yj.mpr #[d,hd,it,e,rfl],by simp only[f,Option.map_some]]
theorem LS(inj:∀d'∈D,nm3 d'=nm3 d->d'=d)(hd:d∈D)(hi:bg d.2.2=some it):look İ (nm3 d)=cO ol D d it:=by
 have uq:∀b,(nm3 d,b)∈dj é->cO ol D d it=some b:=λb hb=>by exists[d',hd',it',hi',en,hf],xo.mp hb;obtain rfl:=inj d' hd' en;rw[hi]at hi';cases hi';exact hf
 cases hf:cO ol D d it with
 |some b =>
  exists[b',e],Zw.mp (pY (acc:=[]) (xo.mpr #[d,hd,it,hi,rfl,hf]));rcases jp e with h|h
  .have:=uq b' h;rw[hf]at this;cases this;exact e
  .cases h
 |none =>
  cases e:look İ (nm3 d)with
  |none=>rfl
  |some b =>
   rcases jp e with h|h
   .have:=uq b h;rw[hf]at this;cases this
   .cases h
theorem LT(h:(look İ n).isSome=true):∃d∈D,nm3 d=n/\∃it,bg d.2.2=some it:=by
 exists[b,e],Zw.mp h;rcases jp e with h|h
 .exists[d,hd,it,hi,en,_],xo.mp h;exact#[d,hd,en,it,hi]
 .cases h
theorem L6(o:OvR D ov)(h:(look ov n).isSome=true):∃d∈D,nm3 d=n/\iD d.2.2=true:=by
 by_cases c:∀d∈D,nm3 d≠n
 .rw[o.2 n c]at h;cases h
 .exists[d,c1],Classical.not_forall.mp c;exists[hd,c2],Classical.not_imp.mp c1;have en:=Classical.not_not.mp c2;exists[j,hj],Z7.mp hd;refine#[d,hd,en,?_];have:=o.1 j d hj;rw[en]at this;rw[this]at h;unfold ovJ at h;rw[hj]at h;cases f:iD d.2.2 with
  |true=>rfl
  |false =>dsimp only at h;rw[f]at h;cases h
abbrev LZ:=List ñ
abbrev Dl(Z:LZ):List D3:=(aZ Z).map Prod.snd
theorem qO:d∈Dl Z↔∃z∈Z,ba z.2=true/\z.1.2=d:=by
 unfold Dl aZ;rw[Z4,Zt];constructor
 .rintro⟨z,hz,rfl⟩;exact#[z,(ZH.mp hz).1,(ZH.mp hz).2,rfl]
 .rintro⟨z,h1,h2,rfl⟩;exact#[z,ZH.mpr #[h1,h2],rfl]
theorem JG(h:d∈(cE Z).map Prod.snd):∃z∈Z,z.2="done"/\z.1.2=d:=by unfold cE at h;rw[Z4,Zt]at h;exists[z,hz,rfl],h;exact#[z,(ZH.mp hz).1,y0 (ZH.mp hz).2,rfl]
theorem xO{ts:ľ}{w:č}(h1:look kp n=none)(h2:look ov n=none):(cj kp ov ts n w).2.1=w:=by
 unfold cj;by_cases c:w="off"
 .rw[Ox c,c]
 .rw[Ow c,h1,h2]
section
variable{Z:LZ}{ts:ľ}
theorem sZ(nod:Ã)(hz:Ě)(h:(look Ê Î).isSome=true):ba z.2=true/\∃it,bg z.1.2.2.2=some it:=by exists[d,hd,en,hi],LT h;exists[z',h1,h2,rfl],qO.mp hd;obtain rfl:=oj nod h1 hz en;exact#[h2,hi]
theorem pE(nod:Ã)(o:Æ)(hz:Ě)(h:(look ov Î).isSome=true):z.2="done"/\iD z.1.2.2.2=true:=by exists[d,hd,en,hi],L6 o h;exists[z',h1,h2,rfl],JG hd;obtain rfl:=oj nod h1 hz en;exact#[h2,hi]
theorem gH{α:Đ}{o:Option α}(h:¬o.isSome=true):o=none:=by
 cases o with
 |none=>rfl
 |some _=>exact absurd rfl h
theorem IF(nod:Ã)(o:Æ)(hz:Ě)(wr:ð):oh (cj Ê ov ts Î z.2).2.1=ba z.2:=by
 refine Fm ?_ (λh=>(sZ nod hz h).1) λh=>by rw[(pE nod o hz h).1];exact nY
 rcases wr.1 with h|h|h|h|h|h|h<;>(rw[h];decide +kernel)
theorem IH(nod:Ã)(o:Æ)(hz:Ě):eS z.1.2.2.2 (cj Ê ov ts Î z.2).2.1=eS z.1.2.2.2 z.2:=by
 have h1:bg z.1.2.2.2=none->look Ê Î=none:=λc=>gH λh=>by exists[_,it,e],sZ nod hz h;rw[c]at e;cases e
 have h2:iD z.1.2.2.2=false->look ov Î=none:=λc=>gH λh=>by have:=(pE nod o hz h).2;rw[c]at this;cases this
 revert h1 h2;cases z.1.2.2.2 with
 |put=>intro h1 h2;rw[xO (h1 rfl) (h2 rfl)]
 |part=>intro h1 h2;rw[xO (h1 rfl) (h2 rfl)]
 |_=>exact λ_ _=>rfl
theorem Mu(h:Ā):iD wd=false:=by cases wd<;>first|rfl|cases h
theorem HE{w:č}(wr:wdR wd w)(h:Ā)(hl:ba w=true):w="done":=by
 rcases wr.1 with e|e|e|e|e|e|e
 .rw[e]at hl;exact absurd hl ⋯
 .rw[e]at hl;exact absurd hl ⋯
 .exact e
 .rw[e]at hl;exact absurd hl ⋯
 .rw[wr.2 e]at h;cases h
 .rw[e]at hl;exact absurd hl ⋯
 .rw[e]at hl;exact absurd hl ⋯
theorem K9(nod:Ã)(o:Æ)(hz:Ě)(wr:ð)(hi:bg z.1.2.2.2=some it)(hl:ba z.2=true):cj Ê ov ts Î z.2=(nm3 z.1.2,match cO ol (Dl Z) z.1.2 it with|some b=>("kept",some b)|none=>("done",none)):=by
 have e:=HE wr hi hl;have ek:=LS (ol:=ol) (D:=Dl Z) (d:=z.1.2) (it:=it) (λd' hd en=>by
  exists[z',h1,h2,rfl],qO.mp hd;rw[oj nod h1 hz en]) (qO.mpr #[z,hz,hl,rfl]) hi
 unfold cj;rw[Ow (by rw[e];decide +kernel),ek];cases cO ol (Dl Z) z.1.2 it with
 |some b=>rfl
 |none =>
  have:look ov Î=none:=gH λh=>by have:=(pE nod o hz h).2;rw[Mu hi]at this;cases this
  rw[this,e]
theorem II(nod:Ã)(o:Æ)(hz:Ě)(wr:ð)(hl:ba z.2=false):inV (.str (cj Ê ov ts Î z.2).2.1) [.str "done",.str "kept"]=false:=by
 rw[xO (gH λh=>by rw[(sZ nod hz h).1]at hl;cases hl) (gH λh=>by rw[(pE nod o hz h).1,nY]at hl;cases hl)];rcases wr.1 with e|e|e|e|e|e|e
 .rw[e];decide +kernel
 .rw[e];decide +kernel
 .rw[e,nY]at hl;cases hl
 .rw[e];decide +kernel
 .rw[e];decide +kernel
 .rw[e];decide +kernel
 .rw[e];decide +kernel
#check 0
noncomputable def tkZ(ol:Ol)(D:Ĺ)(Z:LZ):List Tk:=Z.flatMap λz=>if ba z.2=true then dF ol D z.1.2 else[]
theorem GN(ol:Ol)(D:Ĺ):∀Z:LZ,((Dl Z).flatMap λd=>dF ol D d)=tkZ ol D Z
 | []=>rfl
 |z::Z=>by
  have ih:=GN ol D Z;unfold tkZ at ih ⊢;unfold Dl aZ at ih ⊢;rw[List.flatMap_cons,<-ih,Yf];by_cases c:ba z.2=true
  .rw[Ox c,Ox c];rfl
  .rw[Ow c,Ow c];rfl
def gnT(ts:ĺ):List Nm:=ts.filterMap λt=>if t.2.2=none then some t.2.1 else none
theorem fq{β:Đ}{l:ę}{x:Nm}:(look l x).isSome=true↔x∈l.map (·.1):=by
 refine#[λh=>?_,λh=>?_]
 .exists[i,e],Zw.mp h;exact zp e
 .induction l with
  |nil=>cases h
  |cons p l ih =>
   unfold look;by_cases c:p.1=x
   .rw[Ox c];rfl
   .rw[Ow c];rw[Zr]at h;exact ih ((Zg.mp h).resolve_left λz=>c z.symm)
theorem yc{β:Đ}{l:ę}{n x:Nm}{i:β}:(look (aF l n i) x).isSome=true↔x=n\/(look l x).isSome=true:=by
 rw[ay];by_cases c:x=n
 .rw[Ox c];exact#[λ_=>.inl c,λ_=>rfl]
 .rw[Ow c];exact#[.inr,λh=>h.resolve_left c]
theorem qm:∀(ts:ĺ) (l:Ĭ) (x:Nm),(look (ts.foldl gkS l) x).isSome=true↔(look l x).isSome=true\/x∈gnT ts
 | [],l,x=>#[.inl,λh=>h.resolve_right λz=>nomatch z]
 |t::ts,l,x=>by
  rw[List.foldl_cons,qm ts];have e:(look (gkS l t) x).isSome=true↔(look l x).isSome=true\/(t.2.2=none/\x=t.2.1):=by
   unfold gkS;by_cases c:t.2.2=none/\(look l t.2.1).isSome=false
   .rw[Ox c,yc];exact#[λh=>h.elim (λz=>.inr #[c.1,z]) .inl,λh=>h.elim .inr λz=>.inl z.2]
   .rw[Ow c];refine#[.inl,λh=>h.elim id λz=>?_];rw[z.2];cases hb:(look l t.2.1).isSome with
    |true=>rfl
    |false=>exact absurd #[z.1,hb] c
  rw[e];unfold gnT;by_cases c:t.2.2=none
  .rw[List.filterMap_cons_some (b:=t.2.1) (by rw[Ox c]),Zg,or_assoc];exact#[λh=>h.elim .inl λh=>.inr (h.elim (λz=>.inl z.2) .inr),λh=>h.elim .inl λh=>.inr (h.elim (λz=>.inl #[c,z]) .inr)]
  .rw[List.filterMap_cons_none (by rw[Ow c])];exact#[λh=>h.elim (λh=>h.elim .inl λz=>absurd z.1 c) .inr,λh=>h.elim Ĉ .inr]
theorem wS:∀(l:Ĭ) (gs:As Unit) (x:Nm),(look (gsF gs l) x).isSome=true↔(look gs x).isSome=true\/(look l x).isSome=true
 | [],gs,x=>#[.inl,λh=>h.resolve_right λz=>nomatch z]
 |p::l,gs,x=>by show(look (gsF (aF gs p.1 ()) l) x).isSome=true↔_;rw[wS l,yc,fq (l:=p::l),Zr,Zg,fq (l:=l)];exact#[λh=>h.elim (λh=>h.elim (λz=>.inr (.inl z)) .inl) λz=>.inr (.inr z),λh=>h.elim (λz=>.inl (.inr z)) λh=>h.elim Ĉ .inr]
theorem Hm(ts:ĺ)(x:Nm):(look (gsF [] (gkl ts)) x).isSome=true↔x∈gnT ts:=by rw[wS];unfold gkl;rw[qm];exact#[λh=>h.elim nofun λh=>h.elim nofun id,λh=>.inr (.inr h)]
theorem JL(h:x∈gnT é):∃d∈D,bg d.2.2=some x:=by
 unfold gnT at h;exists[t,ht,e],Yc.mp h;exists[d,hd,it,e1,rfl],yj.mp ht;dsimp only at e;split at e
 .cases e;exact#[d,hd,e1]
 .cases e
theorem sP{β:Đ}{l:ę}{n:Nm}{i:β}(h:look l n=some i):(n,i)∈l:=by
 induction l with
 |nil=>cases h
 |cons p l ih =>
  have h:(if p.1=n then some p.2 else look l n)=some i:=h;by_cases c:p.1=n
  .rw[Ox c]at h;cases h;rw[<-c];exact Zn
  .rw[Ow c]at h;exact Zj _ (ih h)
theorem Dfs.app{k1 k2:ĥ}(h:Dfs M s1 o1 k1)(g:Dfs M s2 o2 k2):Dfs M (s1++s2) (o1++o2) (k1+k2):=by
 induction h with
 |nil=>rw[Nat.zero_add];exact g
 |@cons d m rest out k _ ih =>rw[Nat.add_right_comm];refine .cons ?_;show Dfs M (_++(rest++s2)) (out++o2) _;rw[<-Xd];exact ih
theorem iC:x∈grp M u↔x∈M/\x.2.up=u:=by unfold grp;rw[ZH];simp
theorem BN{ol:Ol}(nd:Â)(t:ą)(hx:x∈ol):∃l,Abv ol í l:=by exists[i,hi],Z7.mp hx;exists[k,ck],t _ _ ļ;exact we ck
theorem Hg(pe:Ĩ)(nd:Â):∀(f:ĥ) (x:Nm×It) (l:Ð) (d:Ň),x∈M->Abv ol í l->Ö<Ý+f->∃out k,Dfs M [(d,x)] out k:=by
 intro f;induction f with
 |zero =>intro x l d hx ch hB;have:=ch.len;omega
 |succ f ih =>
  intro x l d hx ch hB;have kids:∀(g:Ol),(∀y∈g,y∈grp M í)->∃out k,Dfs M (g.map λy=>(d+1,y)) out k:=by
   intro g;induction g with
   |nil=>intro _;exact#[[],0,.nil]
   |cons y g ihl =>intro hl;exists[ym,yu],iC.mp Ġ;exists[i,hi],Z7.mp (pe y ym);have cy:Abv ol (some y.1) (y.1::l):=.up ļ (by rw[yu];exact ch);exists[o1,k1,h1],ih y (y.1::l) (d+1) ym cy (by rw[Zm];omega);exists[o2,k2,h2],ihl λz hz=>hl z Ņ;exact#[_,_,h1.app h2]
  exists[out,k,h],kids (grp M í) λ_ z=>z;exact#[_,_,.cons (rest:=[]) (by rw[ZF];exact h)]
theorem JE(pe:Ĩ)(nd:Â)(t:ą):∃out k,Dfs M ŀ out k:=by
 have go:∀(l:Ol),(∀y∈l,y∈M)->∃out k,Dfs M (l.map λy=>((0:Ň),y)) out k:=by
  intro l;induction l with
  |nil=>intro _;exact#[[],0,.nil]
  |cons y l ihl =>intro hl;exists[a,ch],BN nd t (pe y Ġ);exists[o1,k1,h1],Hg pe nd (Ö+1) y a 0 Ġ ch ∅;exists[o2,k2,h2],ihl λz hz=>hl z Ņ;exact#[_,_,h1.app h2]
 exact go (grp M none) λy hy=>(iC.mp hy).1
def cnR(n:Nm)(l:è):Nat:=l.countP λx=>decide ņ
theorem G9(n:Nm)(a b:è):cnR n (a++b)=cnR n a+cnR n b:=List.countP_append
theorem qi(n:Nm)(x:DI)(l:è):cnR n (x::l)=(if x.2.1=n then 1 else 0)+cnR n l:=by unfold cnR;rw[List.countP_cons,Nat.add_comm];simp
def qU(M:Ol)(n:Nm)(u:Ù):Nat :=
 match look M n with
 |some it=>if Ď=u then 1 else 0
 |none=>0
theorem wC{M:Ol}{d:Ň}(nd:ä):cnR n ((grp M u).map λx=>(d,x))=qU M n u:=by
 unfold cnR grp qU;rw[List.countP_map];induction M with
 |nil=>rfl
 |cons y l ih =>
  rw[Zr,Z3]at nd;have ih:=ih nd.2;unfold look;by_cases hn:y.1=n
  .rw[Ox hn];rw[gH (o:=look l n) λz=>nd.1 (by rw[hn];exact fq.mp z)]at ih;by_cases hu:y.2.up=u
   .rw[List.filter_cons_of_pos ë,List.countP_cons,ih];simp[hn,hu]
   .rw[List.filter_cons_of_neg ë,ih];simp[hu]
  .rw[Ow hn,<-ih];by_cases hu:y.2.up=u
   .rw[List.filter_cons_of_pos ë,List.countP_cons];simp[hn]
   .rw[List.filter_cons_of_neg ë]
theorem Dfs.cnt{M:Ol}{st out:è}{k:ĥ}(nd:ä)(n:Nm)(h:å) :
  cnR n out=cnR n st+(match look M n with|some it=>(match Ď with|some p=>cnR p out|none=>0)|none=>0):=by
 induction h with
 |nil =>
  cases look M n with
  |none=>rfl
  |some it=>cases hu:Ď<;>simp[hu,cnR]
 |@cons d m rest out k _ ih =>
  rw[qi,qi,ih,G9,wC nd];unfold qU;cases hl:look M n with
  |none=>simp
  |some it =>
   cases hu:it.up with
   |none=>simp[hu]
   |some p =>
    dsimp only;rw[hu];dsimp only;rw[qi p];have e:(if(some p:Ù)=some m.1 then 1 else 0)=(if m.1=p then 1 else 0:Nat):=by
     by_cases hp:m.1=p
     .rw[Ox (by rw[hp]),Ox hp]
     .rw[Ow (λz=>hp (Zo z).symm),Ow hp]
    rw[e];omega
theorem Eh{ol M:Ol}{k:ĥ}(nd:ä)(h:Dfs M ŀ out k)(lk:∀n it,look M n=some it->look ol n=some it):∀{u:Ù} {l:Ð},Abv ol u l->∀n,u=some n->cnR n out<=1:=by
 intro u l ch;induction ch with
 |none=>intro n z;cases z
 |@up n' it l hl c ih =>
  intro n z;cases z;rw[h.cnt nd n',show cnR n' ŀ=qU M n' none from wC nd];unfold qU;cases e:look M n' with
  |none=>exact ZL _
  |some it' =>
   have:=lk _ _ e;rw[hl]at this;cases this;dsimp only;cases hu:it.up with
   |none=>exact Zi _
   |some p =>have:=ih p hu;show(if(some p:Ù)=none then 1 else 0)+cnR p out<=1;rw[Ow nofun];omega
section
variable{ol M:Ol}{out:è}{k:ĥ}
theorem pF(pe:ă)(df:æ):∀x∈out,x.2∈ol/\(look gs x.2.1).isSome=false:=λx hx=>by
 have m:=df.mem (λz hz=>by
  exists[w',hw,rfl],Zt.mp hz;exact (iC.mp hw).1) x hx
 exists[m1,m2],ZH.mp m;refine#[pe.mem_iff.mp m1,?_];unfold bL at m2;simpa using m2
theorem tj(nd:Â)(t:ą)(pe:ă)(df:æ):(out.map λx=>x.2.1).Nodup:=by
 have sub:∀x∈M.filter ĕ,x∈ol:=λx hx=>pe.mem_iff.mp (ZH.mp hx).1;have ndM:((M.filter ĕ).map (·.1)).Nodup:=List.Pairwise.sublist (List.Sublist.map _ List.filter_sublist) ((pe.map _).nodup_iff.mpr nd);have lk:∀n it,look Ä n=some it->look ol n=some it:=λn it hl=>by exists[i,hi],Z7.mp (sub _ (sP hl));exact dA nd hi
 rw[List.nodup_iff_count];intro n;have e:(out.map λx=>x.2.1).count n=cnR n out:=by
  unfold cnR;rw[List.count,List.countP_map];congr 1;funext x;show(x.2.1==n)=decide ņ;by_cases z:x.2.1=n
  .rw[decide_eq_true z,z];exact beq_self_eq_true n
  .rw[decide_eq_false z];exact Yx.mpr z
 rw[e];by_cases c:n∈out.map λx=>x.2.1
 .exists[x,hx,rfl],Zt.mp c;exists[l,ch],BN nd t (pF pe df x hx).1;exact Eh ndM df lk ch _ rfl
 .rw[<-e,List.count_eq_zero_of_not_mem c];exact ZL _
theorem Ja(nd:Â)(t:ą)(l3:ň)(pe:ă):∃out k,Dfs Ä (jh Ä) out k/\k<=63:=by
 exists[out,k,df],JE (M:=M.filter ĕ) (λx hx=>pe.mem_iff.mp (ZH.mp hx).1) nd t;refine#[out,k,df,?_];have:=rh (tj nd t pe df) (m:=ol.map (·.1)) λn hn=>by exists[x,hx,rfl],Zt.mp hn;exact Zt.mpr #[x.2,(pF pe df x hx).1,rfl]
 rw[Zd,Zd,df.len]at this;omega
theorem Dfs.sub{st:è}(h:å):∀x∈st,x∈out:=by
 induction h with
 |nil=>exact λx hx=>hx
 |cons _ ih =>
  intro x hx;rcases Zg.mp hx with rfl|hx
  .exact Zn
  .exact Zj _ (ih x (ZN _ hx))
theorem Dfs.kid{st:è}(h:å):∀(d:Ň) (m:Nm×It),(d,m)∈out->∀y∈grp M (some m.1),(d+1,y)∈out:=by
 induction h with
 |nil=>exact λd m hx=>nomatch hx
 |cons h ih =>
  intro d m hx y hy;rcases Zg.mp hx with e|hx
  .cases e;exact Zj _ (h.sub _ (List.mem_append_left _ (Zt.mpr #[y,hy,rfl])))
  .exact Zj _ (ih d m hx y hy)
theorem Dfs.par{st:è}(h:å):∀x∈out,x∈st\/∃y∈out,x.2.2.up=some y.2.1:=by
 induction h with
 |nil=>exact λx hx=>nomatch hx
 |@cons d m rest out k h ih =>
  intro x hx;rcases Zg.mp hx with rfl|hx
  .exact .inl Zn
  .rcases ih x hx with h1|⟨y,h1,h2⟩
   .rcases ZE.mp h1 with h1|h1
    .exists[y,hy,rfl],Zt.mp h1;exact .inr #[(d,m),Zn,(iC.mp hy).2]
    .exact .inl ń
   .exact .inr #[y,Zj _ h1,h2]
theorem FD(nd:Â)(pe:ă)(df:æ)(ab:à):∀n,u=some n->(n∈out.map (λx=>x.2.1)↔∀m∈l,(look gs m).isSome=false):=by
 induction ab with
 |none=>intro n z;cases z
 |@up n' it l hl c ih =>
  intro n z;cases z;have inM:(look gs n').isSome=false->Ė∈M.filter ĕ:=λhg=>by refine ZH.mpr #[pe.mem_iff.mpr (sP hl),?_];unfold bL;rw[hg];rfl
  refine#[λh=>?_,λh=>?_]
  .exists[x,hx,e],Zt.mp h;exists[i1,i2],pF pe df x hx;have e:x.2.1=n':=e;have ex:x.2.2=it:=by exists[i,hi],Z7.mp i1;have:=dA nd hi;rw[e,hl]at this;exact(Zo this).symm
   intro m hm;rcases Zg.mp hm with rfl|hm
   .rw[<-e];exact i2
   .rcases df.par x hx with h1|⟨y,h1,h2⟩
    .exists[y,hy,rfl],Zt.mp h1;have:=(iC.mp hy).2;rw[ex]at this;rw[this]at c;cases c;cases hm
    .rw[ex]at h2;exact(ih _ h2).mp (Zt.mpr #[y,h1,rfl]) m hm
  .have hg:=inM (h n' Zn);cases hu:it.up with
   |none=>exact Zt.mpr #[(0,Ė),df.sub _ (Zt.mpr #[Ė,iC.mpr #[hg,hu],rfl]),rfl]
   |some p =>exists[y,hy,e],Zt.mp ((ih p hu).mpr λm hm=>h m (Zj _ hm));have e:y.2.1=p:=e;exact Zt.mpr #[(y.1+1,Ė),df.kid y.1 y.2 hy _ (iC.mpr #[hg,by rw[e];exact hu]),rfl]
#check 0
def WyR(H:Hp)(v:V)(ns:Ð):Prop:=∃l vs,v=.ref l/\H l=some Ĝ/\NmsAt H vs ns
theorem WyR.mv{H H':Hp}(x:WyR H v ns)(hd:H dw=some Ă)(k:∀b o,b≠dw->H b=some o->H' b=some o):WyR H' v ns:=by exists[l,vs,e,h1,h2],x;exact#[l,vs,e,k _ _ (bw h1 hd nofun) h1,h2.ts λb zs e=>k _ _ (bw e hd nofun) e]
theorem Ee(xs:OU):bY xs none ķ=xs.take (ã-1):=by
 unfold bY;rw[HT.sIx_none];have:HT.sIx ã ã ķ=ã-1:=by show(if(-1:Int)<0 then((-1:Int)+(ã:Ň)).toNat else min (-1:Int).toNat xs.length)=_;rw[Ox ⋯];omega
 rw[this];rfl
theorem CC{β γ:Đ}(f:Ŋ)(l:ę)(x:Nm):look (l.map λp=>á) x=(look l x).map (f x):=by
 induction l with
 |nil=>rfl
 |cons p l ih =>
  rw[Zr];unfold look;by_cases c:p.1=x
  .rw[Ox c,Ox c,<-c];rfl
  .rw[Ow c,Ow c];exact ih
theorem zH{β γ:Đ}{R:V->γ->Prop}{ol:ę}{f:Ŋ}{kvs:OT}{i:ĥ}{x:Nm×β}{v:V}(nd:Â)(hx:ol[i]?=some x)(h:Rws R kvs ø)(hv:R v (f x.1 x.2)):Rws R (bj kvs (nk x.1) v) ((ol.take (i+1)).map λp=>á):=by
 have:=fB (n:=x.1) h hv;have nn:look ø x.1=none:=gH λz=>by have m:=fq.mp z;rw[Z4]at m;have nd':((ol.take (i+1)).map (·.1)).Nodup:=nd.sublist (List.Sublist.map _ (List.take_sublist _ _));rw[bH hx,ZA]at nd';exact(List.nodup_append.mp nd').2.2 _ m _ Zn rfl
 unfold aF at this;rw[nn,Ow nofun]at this;rw[bH hx,ZA];exact this
inductive spWyT(C:OC)(vs:OU)(H:Hp)(Q:VK)(E_:XK):Prop
 |mk (p d g:OC) (ol:Ol) (h0:vs=[.ref p]) (h1:OlAt C H p d g ol) (h2:ň) (h3:Â) (h4:ą) (q:∀D kvs (wl:As Ð) H',Same H H'->H D=none->H' D=some Ă->Rws (WyR H') kvs wl->wl.map (·.1)=ol.map (·.1)->(∀x∈wl,Abv ol í x.2)->Q (.ref D) H'):spWyT C vs H Q E_
end
mutual
#check#[(.lst (tv++[.ref tr])),(#[rfl,⋯,⋯,rfl,trivial]:CompOk _ _ [] []),(Value.ref c_LimbError::VE),(W.fnOf m q (dJ st) (bT st) (aq st) .none kV doc pm an cdv ct),(Dl Z),(.frz ob (.dT wvs)),(λn=>W.nsIn K mainGlobals n=some none),(.frz ob (.dT uvs)),(L.zip W),(by intro _ z;nomatch z),(aX ol Ä),(.lst zs),(lJ i9 (q_a ↑2 (q_a ↑3 ah))),(∀{fd},Fun K m q st f fd->FnOk P w K mg base CX0 k f fd ps sp),(upd H5 lt À),(hb a b c d e g),hr.units,(.list (ns.map nmD)),(hM (bp (aM ⋯) aO (bp (aM ⋯) aO fJ bE) (bR aO bE))),(.dT []),(.ref c_NoItem),(Dfs (M.filter (bL gs)) (jh (M.filter (bL gs))) out k),(V.str (rp z).2.1),0,(.ref C_Plain),(.lst []),(.tup [nv,iv,bv]),(.tup ((nk x.1).map kV)),(q_a ↑2 ah),w.params,(am bV ↑4 (qv nC ai)),(by rw[<-hZ];exact hΦ),(am ao ↑11 ai),(.lst ks),(tkZ ol Ä (Z.take k)),(.ref f),(.lst [.ref b]),(λ_ _ _ _=>hV),(λ_ _ _ _=>(aI i6 ↑99 (q_a ↑0 ah))),dO.nd,(some (.builtin "object.__setattr__")),(RnK L W n e),(ps.zip us),(am ao (am ao ↑10 ai) (qv nC ai)),(b_1 (ax lh)),((L.map Prod.snd).zip (Z.map tcz)),(λ_ _ _ z=>z.2.1),(.tup [.str "take",.str "join"]),(.tup [.str "done",.str "kept"]),(by rw[aG];omega),(x.1,x.2.up),(m∈gnT Ê),((Z.take i).map λz=>nm3 z.1.2),zs.length,ps.length,0,(.dT wvs),(Option OC),(Eqo e ol/\ol.map (·.1)=iB È),(A2 K C m q st f),(tkZ ol Ä (Z.take (k+1))),(x.1∈out.map λx=>x.2.1),((0:Int)<(ys'.length:Int)),(OO s7),(.lst zs1),(.lst tvs),(q_a (mU BP j3 gP Ü) ah),(aD (q_a ar (q_a ar ah))),(OC×D3),(V.str L[k].2.2.2.word),h.toNat,(.ref dw),(.lst vs),(.lst xs),(hΦ.1 x),(some ã),(.tup [.ref L[k].1,y]),((aZ È).map Prod.snd),(au sc (0:Int).toNat),(↑Bx h),((ol.map (·.1)).Nodup),(.ref p),(ZO nwu),(aM ⋯),(.ref C),(λi zs _ z=>z.2.1),(z.1 _ _ hs12.lr.1),(∀ps,o≠.tbl ps),cd.mro,((wf x.1).getD []),(z.1 _ _ hs9.lr.1),(bw e edw19 nofun),sml.len,(aj e gu0),(Z.map rp),(Rwd z hz),(.lst zs2),(z.1 _ _ hs12.fo),(λb=>K.lookup b),(W.keepIn K ã=true),(K Ý),(OO sm),(dJ st),(bT st),(aq st),(ol.map λx=>ò),(x.1,fw x.1 x.2),(z.1 _ _ hs9.fo),(.ref c_Beneath),(look wl),(aX ol (Dl È)),(Same H H'),jC.nd,(ns.map V.int),(.type "list"),(q_a ↑12 ah),(sa.trans s11),(mg "len" = none),(some 1),(m∈gl),(q_a ↑3 ah),(aE iR Þ bX),(q_a ↑4 ah),(q_a ↑1 ah),(q_a ↑5 ah),(.lst (aH L)),(Option V),(spLaw9 K T),(hR0 _ _ ?_),(.tup [u,y]),(C,m,q,st,f),(Zh.mpr rfl),(ns.length<=63),(NmsAt H xs ns),(ik Ð),(OO w3),(ZG hk),0,(aJ (aR L)),(sm _ _ y1),(jH sa so'),(okr r hr'),(As Unit),(Ą×Str),(Cls K C),hs4.fo,l.prog,(bM d1 iO),(.ref lto),vs.length,(OO s),(rp z),(c0,T),(spWyT C),(.dT uvs),(.ref du),(some 91),(L[i],w0),(TkAt H'),(.lst gv),(.ref pd),(.ref fl),(.ref ld),(.ref lg),(.ref lt),(nlw els),(.ref fa),(i<L.length),(Heap)]
abbrev xW:Stmt:=top 53
abbrev Jp:List Str:=["_law_plain","_law_ways_here","_law_ups","_law_name_here","_law_way"]
theorem jC:FnScope Jp ["_law_plain"] (aq xW):= ~~~0
theorem HS(F:Fun K "_law_ways" "_law_ways" xW f fd)(NU:↑MFn 1 C "names" ["self"] (spNames C))(N5:↑MFn 1 C "item" ["self","name"] (spItem C))(a8:ĵ):↑FnOk CX0 2 f fd ["_law_plain"] ř:=by
 exists jC
 exists[p,d,g,ol,rfl,O,ln,nd,ter,q],h;exists _,(b_c (aA (i:=1) İ mV)
   (b_c (aA (i:=2) İ mV)
   (b_c (dG ZT rfl (bD (pC NU ↑99 ↑0)) (aw (i:=3) İ) (b_1 (iT Ð ↑2 ↑3 (am ao (dC N5 ↑99 ↑0 ĸ) ai))))
   (b_c (Dw (dG ZT rfl (Gh ↑2) (aw (i:=3) İ) (b_c (aA (i:=4) İ (bA ĸ))
   (b_c (tJ ZT (t_w (fg Ĺ (eO (aE AU (q_B gX a8 Ya ĺ) (aK ge (q_B Jw a8 Ya Ü) ai))))) (b_1 (bu (fL ↑4 (cg Ð ↑2 Þ)))))
   (b_c (iT Ð ↑1 ↑3 (eE xp ↑4 eV (dW (qv nC ai))))
   (b_1 (aT Ĺ (b_1 (ax bX)) b_0)))))))
   (b_1 (ax ↑1))))))
 exists[wf,w1,w2],Jb ter;exists[kvs,gvs,S,R],id O;obtain⟨⟨_,h1'⟩,h2',h3',_⟩:=id S;intro dw gw;have s1:=ad gw Ó;have ew:upd H dw Ó dw=some Ó:=ac;generalize upd H dw Ó=H1 at s1 ew ⊢;intro du gu;have s2:=s1.trans (ad gu Ó);have eu:upd H1 du Ó du=some Ó:=ac;have nwu:dw≠du:=λz=>by rw[z,gu]at ew;cases ew
 have ew2:upd H1 du Ó dw=some Ó:=by rw[af nwu];exact ew
 have gu0:H du=none:=by
  cases z:H du with
  |none=>rfl
  |some o=>rw[s1 _ _ z]at gu;cases gu
 generalize upd H1 du Ó=H2 at s2 eu ew2 ⊢;have S2:=S.same s2;obtain⟨⟨dx,h1⟩,h2,h3,h4⟩:=id S2;refine#[_,rfl,p,dx,_,rfl,h1,ju _ _ ⋯ ⋯,p,d,g,kvs,gvs,rfl,S2,λl ks gl hk=>?_];have s3:=ad gl á;have el:upd H2 l á l=some á:=ac;generalize upd H2 l á=H3 at s3 el ⊢;have eu3:=s3 _ _ eu;have ew3:=s3 _ _ ew2;have nlu:l≠du:=λz=>by rw[z,eu3]at el;cases el
 have S3:=s2.trans s3;have lks:=Zv hk;have lR:=bS R;refine#[l,rfl,#[_,OQ el],?_];refine eh (K:=K) (a:=l) (xs:=ks) (λi Y H'=>(∀b o,b≠du->H3 b=some o->H' b=some o)/\∃(uvs:OT) (o3:ľ),H' du=some Ś/\Rws (UpAt H') uvs ((ol.take i).map λx=>ò)/\Y=[some đ,some ć,some ś,o3,none])
  #[λb o _ e=>e,[],none,eu3,.nil,rfl] (λi Y H' _ z=>OQ (z.1 _ _ nlu el)) ?_ ?_
 .rintro i v Y H' hv ⟨kp,uvs,o3,hu,hR,rfl⟩ DL hDL;exists[pr,hp,b,rfl,hb],uG hk hv;exists[x,hx,ex1,ex2],aP R hp;have tp:TS H3 H':=λb zs e=>kp b _ (bw e eu3 nofun) e;have hb':H' b=some Û:=by rw[<-ex1];exact tp _ _ (s3 _ _ hb)
  have SP:PlainAt C H' p d g kvs gvs:=by obtain⟨⟨dx',y1⟩,y2,y3,y4⟩:=S.same S3;exact#[#[dx',kp _ _ (bw y1 eu3 nofun) y1],kp _ _ (aj h2' gu0) y2,kp _ _ (aj h3' gu0) y3,y4]
  exists[dx',y1],SP.1;exists[iv,e1,ia,uv,pv,rfl,e2,e3,e4],aY ((R.ts (OO S3)).ts tp) (dA nd hx);have lu:=bS hR;rw[Zd,ZY]at lu;refine#[_,rfl,p,dx',_,rfl,y1,ju _ _ ⋯ ⋯,_,rfl,p,d,g,kvs,gvs,_,_,nk x.1,rfl,SP,#[b,rfl,hb'],e1,ia,_,_,_,rfl,rfl,OP e2,at0,?_];refine#[_,rfl,_,rfl,du,_,rfl,DPut.t (k:=nk x.1) hu hb' (aU ∅),hDL _ _ #[λb o n e=>by rw[af n];exact kp b o n e,_,_,ac,?_,rfl]];have td:=ky (kvs':=bj uvs (nk x.1) uv) hu;exact zH nd hx (f:=λ_ y=>y.up) (Paired.mapP hR λ_ _ z=>#[z.1,z.2.ts td]) (e3.ts td)
 .rintro Y H4 ⟨kp,uvs,o3,hu,hR,rfl⟩;rw[<-lks,lR,ZC]at hR;have lu:=bS hR;rw[Zd]at lu;refine#[_,rfl,du,uvs,rfl,hu,λob=>?_];have eF:upd H4 du Ç du=some Ç:=ac;have uF:∀b o,b≠du->H4 b=some o->upd H4 du Ç b=some o:=λb o h e=>by rw[af h];exact e
  have hRF:Rws (UpAt (upd H4 du Ç)) uvs ĩ:=Paired.mapP hR λ_ _ z=>#[z.1,z.2.ts λb zs e=>uF _ _ (bw e hu nofun) e]
  have ewF:=uF _ _ nwu (kp _ _ nwu ew3);generalize upd H4 du Ç=HF at eF uF hRF ewF ⊢
  let fw:Nm->It->List Nm:=λn _=>(wf n).getD []
  refine wL (a:=du) (o:=ob) (kvs:=uvs) (j:=3) (λi Y H'=>(∀b o,b≠dw->HF b=some o->H' b=some o)/\∃(wvs:OT) (o3 o4:ľ),H' dw=some ø/\Rws (WyR H') wvs ((ol.take i).map λx=>Ī)/\Y=[some đ,some ć,some ś,o3,o4])
   #[λb o _ e=>e,[],_,_,ewF,.nil,rfl] (λi Y H' _ z=>z.1 _ _ Ē eF) ?_ ?_
  .rintro i pr b Y H' hpr hb ⟨kp2,wvs,o3',o4,hw,hW,rfl⟩ D' kD _;exists[x0,hx0,ex1,ex2],aP hRF hpr;obtain⟨x,hx,rfl⟩:∃x,ol[i]?=some x/\x0=ò:=by
    rw[Zy]at hx0;cases c:ol[i]? with
    |none=>rw[c]at hx0;cases hx0
    |some x=>rw[c]at hx0;cases hx0;exact#[x,rfl,rfl]
   have hlx:=dA nd hx;have hb':H' b=some Û:=by rw[<-ex1];exact hb
   have tp2:TS HF H':=λb zs e=>kp2 b _ (bw e ewF nofun) e;exists[way,hway],Zw.mp (show(wf x.1).isSome=true by rw[w1,hlx];rfl);have lW:=bS hW;rw[Zd,ZY]at lW;refine#[_,rfl,sz rfl,λwl gwl=>?_];have s5:=ad gwl ä;have e5:upd H' wl ä wl=some ä:=ac;have nww:dw≠wl:=λz=>by rw[<-z,hw]at gwl;cases gwl
   have nuw:du≠wl:=λz=>by rw[<-z,kp2 _ _ Ē eF]at gwl;cases gwl
   generalize upd H' wl ä=H5 at s5 e5 ⊢;have eF5:=s5 _ _ (kp2 _ _ Ē eF);have hRu:Rws (UpAt H5) uvs ĩ:=Paired.mapP hRF λ_ _ z=>#[z.1,(z.2.ts tp2).ts (OO s5)]
   refine FS (K:=K) (ol:=ol) (way:=way) (x:=x.1) (kvs:=uvs) nuw (w2 _ _ hway) lu ln (λH6 k6=>.inr #[ob,k6 _ _ nuw eF5]) (λn it hn=>?_) e5 #[b,rfl,s5 _ _ hb'] (λH6 vs k6 e6 n6=>?_)
   .exact aY hRu (by rw[CC (λ_ y=>y.up) ol n,hn];rfl)
   have k26:∀b o,H' b=some o->H6 b=some o:=λc o e=>k6 c o (aj e gwl) (s5 _ _ e);refine#[_,rfl,1,rfl,_,rfl,wl,_,rfl,OQ e6,λsl gsl=>?_];rw[Ee,Zf,show ŕ+[V.non].length-1=vs.length from rfl,List.take_left' rfl];have s7:=ad gsl Ĉ;have e7:upd H6 sl Ĉ sl=some Ĉ:=ac;generalize upd H6 sl Ĉ=H7 at s7 e7 ⊢;have k27:Same H' H7:=λc o e=>s7 _ _ (k26 c o e);have hw7:=k27 _ _ hw;refine#[_,rfl,_,rfl,dw,_,rfl,DPut.t (k:=nk x.1) hw7 (k27 _ _ hb') (aU ∅),?_];have nsl:sl≠dw:=λz=>by rw[z,hw7]at e7;cases e7
   have nwl:wl≠dw:=ZO nww;refine#[_,rfl,1,rfl,wl,_,_,_,rfl,rfl,OQ (by rw[af nwl];exact s7 _ _ e6),mC _ _,rfl,_,rfl,mO rfl ?_];refine kD _ _ #[λc o n e=>by rw[af n];exact k27 _ _ (kp2 c o n e),_,_,_,ac,?_,rfl];have mv:∀c o,c≠dw->H7 c=some o->upd H7 dw (.dT (bj wvs (nk x.1) (.ref sl))) c=some o:=λc o n e=>by rw[af n];exact e
   refine zH nd hx (f:=fw) (Paired.mapP hW λ_ _ z=>#[z.1,(z.2.mv hw λc o _ e=>k27 _ _ e).mv hw7 mv]) #[sl,vs,rfl,mv _ _ nsl e7,?_];show NmsAt _ vs ę;rw[hway];exact(n6.ts ÿ).ts λc zs e=>mv _ _ (bw e hw7 nofun) e
  .rintro Y H5 ⟨kp2,wvs,o3',o4,hw,hW,rfl⟩;rw[lu,ZC]at hW;have eF5:=kp2 _ _ Ē eF;refine#[du,ob,_,eF5,Loose.non gu0,?_];have mv:∀c o,c≠du->H5 c=some o->upd H5 du Ś c=some o:=λc o n e=>by rw[af n];exact e
   refine#[_,rfl,q dw wvs (ol.map λx=>Ī) _ (λc o e=>?_) gw (mv _ _ nwu hw) (Paired.mapP hW λ_ _ z=>#[z.1,?_]) (by rw[Z4];rfl) λy hy=>?_]
   .exact mv _ _ ĝ (kp2 _ _ (aj e gw) (uF _ _ ĝ (kp _ _ ĝ (S3 _ _ e))))
   .exists[l',vs,e,y1,y2],z.2;exact#[l',vs,e,mv _ _ (bw y1 eF5 nofun) y1,y2.ts λc zs e=>mv _ _ (bw e eF5 nofun) e]
   .exists[x,hx,rfl],Zt.mp hy;exists[i,hi],Z7.mp hx;exists[way,hway],Zw.mp (show(wf x.1).isSome=true by rw[w1,dA nd hi];rfl);show Abv ol (some x.1) ę;rw[hway];exact w2 _ _ hway
theorem JA{ns:OJ}(h:ń):∃cs:OJ,bY ı Ķ Ŝ=cs.map V.int/\cs.length<=62:=by
 refine#[(ns.drop (HT.sIx (ns.map V.int).length 0 Ķ)).take (HT.sIx (ns.map V.int).length (ns.map V.int).length Ŝ-HT.sIx (ns.map V.int).length 0 Ķ),?_,?_]
 .unfold bY;rw[List.map_take,List.map_drop]
 .rw[ZY,YL,Zd,Dv ⋯,Dv ⋯];have:(1:Int).toNat=1:=rfl;omega
section
variable{n:Nat}
theorem RnK.small'(R:é)(h:ú):Small ol:=by refine#[?_,λm it hm=>R.sm.txt m it (by rw[h.1 m];exact hm)];have h1:=Z2 List.length h.2;have h2:=R.le;rw[Zd]at h1;omega
theorem RnK.nd(R:é)(h:ú):(ol.map (·.1)).Nodup:=by rw[h.2];unfold iB;exact R.nod.sublist (List.Sublist.map _ List.filter_sublist)
theorem RnK.gone(R:é)(h:Eqo e ol'/\ol'.map (·.1)=iB È):∀x∈gkl Į,(look ol' x.1).isSome=true:=λx hx=>by have h1:(look (gkl Į) x.1).isSome=true:=fq.mpr (Zt.mpr #[x,hx,rfl]);unfold gkl at h1;rw[qm]at h1;exists[d,hd,e1],JL (h1.resolve_left λz=>nomatch z);exists[z,z1,z2,rfl],qO.mp hd;rw[<-h.1];exact(R.held z z1 z2).2 _ e1
theorem RnK.len(R:é):(L.zip W).length=L.length:=by rw[List.length_zip,R.lw,Nat.min_self]
theorem RnK.at(R:é){i:Nat}(h:ŧ):∃w0,È[i]?=some ŝ:=#[W[i]'(by rw[R.lw];exact h),by rw[YQ];exact#[Ze h,Ze _]]
#check 0
theorem rm{H:Hp}(hl:H l=some ĉ)(p:Ņ):Dt H Ñ (.ref l)/\SeqAt.shaped Ñ=true/\PyData.eqv Ñ Ñ=true:=jJ hl p λv r _ h=>#[fK h,(bJ r).1,by rw[(bJ r).2];decide]
theorem K7(kp ov:As Nm)(ts:As Dd)(n:Nm)(w:Str):(cj kp ov ts n w).1=n:=by
 unfold cj;split
 .rfl
 .split
  .rfl
  .split<;>rfl
theorem D6:bootBuiltins "set" = some (.type "set"):=⋯
theorem Kr(h:OvR D ov)(h':OvR D ov')(n:Nm):look ov n=look ov' n:=by
 by_cases c:∀d∈D,nm3 d≠n
 .rw[h.2 n c,h'.2 n c]
 .exists[d,c1],Classical.not_forall.mp c;exists[hd,c2],Classical.not_imp.mp c1;exists[j,hj],Z7.mp hd;rw[<-Classical.not_not.mp c2,h.1 j d hj,h'.1 j d hj]
theorem IG{ts:As Dd}{w:Str}(h:look ov n=look ov' n):cj kp ov ts n w=cj kp ov' ts n w:=by unfold cj;rw[h]
theorem K8{ts:As Dd}{w:Str}(h:PyData.strOk w=true):PyData.strOk (cj kp ov ts n w).2.1=true:=by
 unfold cj;split
 .exact(show PyData.strOk "off" = true by decide)
 .split
  .exact(show PyData.strOk "kept" = true by decide)
  .split
   .exact(show PyData.strOk "over" = true by decide)
   .exact h
theorem wdR.ok{w:Str}(h:wdR wd w):PyData.strOk w=true:=by rcases h.1 with e|e|e|e|e|e|e<;>(rw[e];decide +kernel)
def rpD(r:Rp):Qb:=.tuple [nmD r.1,.str r.2.1,iu r.2.2]
theorem Gz(h:RpAt H v r)(ok:PyData.strOk r.2.1=true):Dt H (rpD r) v/\(rpD r).canLay0=true/\(rpD r).depth<=3:=by
 exists[t,nv,bv,rfl,h1,h2,h3],h;exists[d1,d2,d3],oS h3;refine#[gQ h1 (bM (fK h2) (bM (iP _) œ)),?_,?_]
 .simp[rpD,PyData.canLay0,PyData.canLayAll0,(bJ r.1).1,ok,d2]
 .simp only[rpD,PyData.depth,PyData.depthAll,(bJ r.1).2];omega
def tkD(r:Tk):Qb:=.tuple [nmD r.1,nmD r.2.1,iu r.2.2]
theorem GL(h:TkAt H v r):Dt H (tkD r) v/\(tkD r).canLay0=true/\(tkD r).depth<=3:=by
 exists[t,nv,iv,bv,rfl,h1,h2,h3,h4],h;exists[d1,d2,d3],oS h4;refine#[gQ h1 (bM (fK h2) (bM (fK h3) œ)),?_,?_]
 .simp[tkD,PyData.canLay0,PyData.canLayAll0,(bJ r.1).1,(bJ r.2.1).1,d2]
 .simp only[tkD,PyData.depth,PyData.depthAll,(bJ r.1).2,(bJ r.2.1).2];omega
theorem Hy{K:Qa}:W.kitOne K Ĳ Ĳ=some true:=by with_unfolding_all rfl
structure Hs(C T pd fl p d g:OC)(L:L3)(ys:OU)(rs:List Rp)(ol:Ol)(gs:Ŏ)(H:Hp):Prop where
 lr:LR3 H pd L
 fo:H fl=some (.lst ys)
 rw:Paired (RpAt H) ys rs
 ol:OlAt C H p d g ol
 gn:GoneAt H g gs
 tb:bZ lf T (mQ jI) H
section
variable{C T pd fl p d g:OC}{L:L3}{ys:OU}{ol:Ol}{gs:Ŏ}{H H':Hp}
theorem Hs.same{rs:List Rp}(x:Hs C T pd fl p d g L ys rs ol gs H)(s:į):Hs C T pd fl p d g L ys rs ol gs H':=#[x.lr.same s,s _ _ x.fo,Paired.mapP x.rw λ_ _ z=>z.ts Ŗ,x.ol.same s,x.gn.same s,di x.tb s]
theorem Hs.row{Z:LZ}{rp:Ą×Str->Rp}(x:Hs C T pd fl p d g L ys Ğ ol gs H){i:Nat}{v:V}(hv:ys[i]?=some v):∃z,Z[i]?=some z/\RpAt H v ŗ:=by
 exists[r,hr,y],aP x.rw hv;rw[Zy]at hr;cases c:Z[i]? with
 |none=>rw[c]at hr;cases hr
 |some z=>rw[c]at hr;cases hr;exact#[z,rfl,y]
#check 0
theorem nE(x:Rws (WyR H) kvs wl)(s:į):Rws (WyR H') kvs wl:=Paired.mapP x λ_ _ ⟨e,l,vs,e1,y1,y2⟩=>#[e,l,vs,e1,s _ _ y1,y2.ts Ŗ]
theorem qD{ts:List (List Nm)}(x:Paired (An H) vs ts)(s:į):Paired (An H') vs ts:=Paired.mapP x λ_ _ ⟨l,xs,e,y1,y2⟩=>#[l,xs,e,s _ _ y1,y2.ts Ŗ]
theorem ko{ts:List Tk}(x:Paired (TkAt H) vs ts)(s:TS H H'):Paired Ş vs ts:=Paired.mapP x λ_ _ (v:TkAt _ _ _)=>v.ts s
theorem wI(Z:LZ)(z:ŏ):iB (Z++[z])=iB Z++(if eS z.1.2.2.2 z.2=true then[nm3 z.1.2]else[]):=by unfold iB;rw[Z6,ZA,Yf];split<;>rfl
theorem Ez{β:Type}{R:V->β->Prop}{H:Hp}{kvs:OT}{ks:OU}{wl:As β}(h:cY H kvs ks)(r:Rws R kvs wl):NmsAt H ks (wl.map (·.1)):=by
 unfold cY at h;induction h generalizing wl with
 |nil=>cases r;exact .nil
 |cons h1 _ ih =>
  cases r with
  |cons r1 r2 =>exists[b,e1,e2],h1;exact .cons #[b,e1,by rw[<-r1.1];exact e2] (ih r2)
def tcz(z:ŏ):List Nm:=if ba z.2=true then br z.1.2 else[]
theorem qE(ol:Ol)(D:List D3)(Z:LZ)(z:ŏ):tkZ ol D (Z++[z])=tkZ ol D Z++(if ba z.2=true then dF ol D z.1.2 else[]):=by unfold tkZ;rw[List.flatMap_append];simp
theorem En(ts:List Tk)(t:Tk):gnT (ts++[t])=gnT ts++(if t.2.2=none then[t.2.1]else[]):=by
 unfold gnT;rw[List.filterMap_append];by_cases c:t.2.2=none
 .rw[Ox c,List.filterMap_cons_some (by rw[Ox c])];rfl
 .rw[Ow c,List.filterMap_cons_none (by rw[Ow c])];rfl
theorem IJ{ol M:Ol}{k:Nat}(nd:Đ)(t:Ter ol)(pe:M.Perm ol)(df:Õ):out.length<=ol.length:=by
 have:=rh (tj nd t pe df) (m:=ol.map (·.1)) λn hn=>by exists[x,hx,rfl],Zt.mp hn;exact Zt.mpr #[x.2,(pF pe df x hx).1,rfl]
 rw[Zd,Zd]at this;exact this
theorem Bo{ol M:Ol}{gs:Ŏ}{out:List DI}{k:Nat}{n:Nm}{l gl:List Nm}(nd:Đ)(pe:M.Perm ol)(df:Õ)(ab:Abv ol (some n) l)(hg:∀x,(look gs x).isSome=true↔x∈gl):decide (n∈out.map λx=>x.2.1)=!decide (0<(l.filter λm=>decide ķ).length):=by
 have h:=FD nd pe df ab n rfl;rw[sk];cases c:l.any (λm=>decide ķ)with
 |true =>exists[m,hm,e],List.any_eq_true.mp c;refine decide_eq_false λz=>?_;have:=h.mp z m hm;rw[(hg m).mpr (y0 e)]at this;cases this
 |false =>
  refine decide_eq_true (h.mpr λm hm=>?_);cases e:(look gs m).isSome with
  |false=>rfl
  |true =>have:=List.any_eq_true (p:=λm=>decide ķ).mpr #[m,hm,decide_eq_true ((hg m).mp e)];rw[c]at this;cases this
theorem GF(b:Bool):SeqAt.shaped (.bool b)=true:=by cases b<;>rfl
theorem J7(h:Ņ):Paired (λv ks=>∃b,v=V.ref b/\H b=some (.tup (ks.map V.int))) xs (ns.map λn=>[n.1,n.2]):=by
 induction h with
 |nil=>exact .nil
 |cons r _ ih =>exists[b,e1,e2],r;exact .cons #[b,e1,e2] ih
inductive spLaw9(K:Qa)(T:OC)(vs:OU)(H:Hp)(Q:VK)(E_:XK):Prop
 |mk (a:OC) (ns:OJ) (h0:vs=[.ref a]) (h1:SqL K H a ı) (h2:ń) (h3:H T=some (.tbl #[])) (q:∀H',Q (.bl true) H'):spLaw9 K T vs H Q E_
abbrev pG:Stmt:=top 57
abbrev LA:List Str:=["_law_script","_law_hands","_law_deeds_here","_law_found","_law_plain","_law_ways_here","_law_due","_law_touches","_law_gone","_law_told","_law_deed","_law_row","_law_shown","_law_name_here"]
theorem dO:FnScope LA ["_law_script"] (aq pG):= ~~~0
set_option tactic.hygienic true in theorem Kf(F:Fun K "law" "law" pG f fd)(Nr:↑Fn 1 "_law_cell_at" ["_law_script","_law_k"] (spCell K))(NV:↑Fn 4 "_law_deeds" ["_law_cells","_law_hands"] zS)(u5:↑Fn 10 "report_of" ["ready"] spReportG)(v9:↑Fn 11 "outline_of" ["ready"] (spOutl C))(b9:↑Fn 9 "takings_of" ["ready"] spTakings)(i6:↑Fn 1 "_law_name" ["_law_deed"] md)(N6:↑Fn 2 "_law_ways" ["_law_plain"] ř)(Oh:↑Fn 1 "_law_put" ["_law_deed","_law_row"] spPutL)(Nt:↑Fn 2 "_law_touched" ["_law_deed","_law_word"] spTouchL)(NW:↑Fn 3 "_law_taken" ["_law_deed","_law_row","_law_deeds_here","_law_touches","_law_ways_here"] spTkL)(N7:↑MFn 7 C "rows" ["self"] (spRows C T))(w9:mg "isinstance" = none)(j3:mg "list" = none)(a8:ĵ)(Oi:mg "set" = none)(i9:mg "zip" = none):↑FnOk CX0 12 f fd ["_law_script"] Ŀ:=by
 exists dO
 exists[a,sc,rfl,hS,hlen,hT0,hq],h;have hT:bZ lf T (mQ jI) H:=#[#[],hT0,trivial,.inl rfl]
 exists _,(b_c (aA (i:=1) ç (aK ge ai (aK cS (aI Nr ↑99 (q_a ↑0 (q_a ai ah))) ai)))
   (b_c (aA (i:=2) ç (aI NV ↑99 (q_a (eE xp ↑0 (dW ai) (dW ai)) Ļ)))
   (b_c (aA (i:=3) ç (aI u5 ↑99 Ă))
   (b_c (aA (i:=4) ç (aI v9 ↑99 Ă))
   (b_c (aT (t_w (yq (By (dS (q_B LE w9 qJ (q_a ↑3 (q_a (MW j3 gP) ah))))) (rW (aE (Gq Ð) (de (own:=["_law_row"]) Á rfl (bD ↑3) (λ_ _ _ _=>aw (i:=0) (show (["_law_row"]:List Str).Nodup by decide)) ē å (λ_ _ _ _=>(am (iw (K:=K) rfl) ↑0 ai))) (de (own:=["_law_deed"]) Á rfl (bD ↑2) (λ_ _ _ _=>aw (i:=0) (show (["_law_deed"]:List Str).Nodup by decide)) ē å æ))))) ì b_0)
   (b_c (aA (i:=5) ç (aI N6 ↑99 ĺ))
   (b_c (iU (j:=6) ç (own:=["_law_deed","_law_row"]) Á rfl Ì (λ_ _ _ _=>hJ (K:=K) (n:=2) rfl rfl (bC (aw (i:=0) (show (["_law_deed","_law_row"]:List Str).Nodup by decide)) (bC (aw (i:=1) (show (["_law_deed","_law_row"]:List Str).Nodup by decide)) fj))) Ò (λ_ _ _ _=>(kQ (dS (aI Oh ↑99 (q_a ↑0 Ļ))))) æ)
   (b_c (aT (t_w (yq (aE Gp ↑5 bX) (rW (aE (Gq Ð) (mU (su rfl) j3 gP ļ) ↑6)))) ì b_0)
   (b_c (iU (j:=7) ç (own:=["_law_deed","_law_row"]) Á rfl Ì (λ_ _ _ _=>hJ (K:=K) (n:=2) rfl rfl (bC (aw (i:=0) (show (["_law_deed","_law_row"]:List Str).Nodup by decide)) (bC (aw (i:=1) (show (["_law_deed","_law_row"]:List Str).Nodup by decide)) fj))) Ò å (λ_ _ _ _=>(aI Nt ↑99 (q_a ↑0 (q_a (am (iw (K:=K) rfl) ↑1 ai) ah)))))
   (b_c (aA (i:=8) ç (bA ah))
   (b_c (aA (i:=9) ç (bA ah))
   (b_c (dG ZT rfl Ì (jl rfl (bC (aw (i:=10) ç) (bC (aw (i:=11) ç) fj))) (b_1 (aT (t_w (fg (aE (gh (K:=K) rfl) (am ao (am ao ↑10 ai) ai) ă) (eO (aE (gh (K:=K) rfl) à ă)))) (b_c (bu (fL ↑9 (aD (q_a à (q_a ë (q_a à ah))))))
   (b_c (aT (By (dS (aI NW ↑99 (q_a ↑10 (q_a ↑11 (q_a ↑2 (q_a ↑7 ļ))))))) ì b_0)
   (b_1 (aT (aE bO à ar) (b_1 (bu (fL ↑8 ë))) b_0)))) b_0)))
   (b_c (iU (j:=12) ç (own:=["_law_row"]) Á rfl (bD (pC N7 ↑99 ↑4)) (λ_ _ _ _=>aw (i:=0) (show (["_law_row"]:List Str).Nodup by decide)) ē å (λ_ _ _ _=>(am (iw (K:=K) rfl) ↑0 ai)))
   (b_c (Dw (dG ZT rfl (Gh ↑5) (aw (i:=13) ç) (b_1 (aT (aE ņ (cG (AT hr) ↑13 ↑12) (cG xC (q_B gX a8 Ya (q_a (de (own:=["_law_one"]) (#[rfl,⋯,⋯,rfl,#[rfl,rfl,trivial]]:CompOk _ _ [8] ["_law_gone"]) rfl (bD (cg Ð ↑5 ↑13)) (λ_ _ _ _=>aw (i:=0) (show (["_law_one","_law_gone"]:List Str).Nodup by decide)) ē (λ_ _ _ _=>(kQ (aE (CO (K:=K) rfl hr) ↑0 ↑1))) (λ_ _ _ _=>↑0)) ah)) ai)) ì b_0))))
   (b_1 (ax (il (cG bO (q_B gX a8 Ya ĳ) (q_B Jv a8 Ya (q_a (mU (Jx rfl Ð) Oi D6 ĳ) ah))) (il (cG ņ (aI u5 ↑99 Ü) ↑3) (iM (cG ņ (aI b9 ↑99 Ü) ↑9))))))))))))))))))))
 refine aB λR0 hR0=>?_;refine#[_,rfl,a,sc,0,rfl,hS,⋯,_,_,rfl,rfl,(by show(0:Int)<8;decide),_,_,rfl,rfl,hR0 _ _ ?_];have m0:=y9 Ď (show(8:Int)≠0 by decide);have m1:=Ye Ď (show(0:Int)<8 by decide);generalize hh:1+au sc (0:Int).toNat%8=h at *;exists[cs,ecs,lcs],JA hlen;refine aB λR0 hR0=>?_;refine#[_,rfl,_,rfl,_,rfl,a,_,rfl,hS,λp0 g0=>?_];rw[ecs];have w0:=ad g0 (.lst (cs.map V.int));refine#[_,rfl,p0,cs,h,rfl,ac,lcs,∅,∅,λpd H2 L w2 fpd lr lL okL pwL=>hR0 _ _ ?_];have s2:=w0.trans w2;have T2:=di hT s2;exists[W,e,R],Ml (L:=L) (n:=Ć) ∅ (List.pairwise_map.mpr pwL) λx hx=>#[(okL x hx).2.1,(okL x hx).2.2]
 refine aB λR0 hR0=>?_;refine#[_,rfl,pd,_,rfl,.inl (OQ lr.1),λph gph=>?_];have w3:=ad gph Ľ;refine#[ph,L,W,Ć,_,rfl,#[ac,λx hx=>(lr.2 x hx).ts Ň],R.tk,λol0 ov fl ys H3 hΦ0 ho s3 efl pfl=>hR0 _ _ ?_];have S3:=w3.trans s3;refine aB λR0 hR0=>?_;have lr3:=lr.same S3;refine#[_,rfl,pd,_,rfl,.inl (OQ lr3.1),λph gph=>?_];have w4:=ad gph Ľ;refine#[ph,L,W,Ć,_,rfl,#[ac,λx hx=>(lr3.2 x hx).ts (OO w4)],R.tk,λol h0=>#[R.small' h0,λol' h'=>R.gone h'],λol1 ol p d g H4 hΦ1 hΦ s4 O G=>hR0 _ _ ?_];have S4:=w4.trans s4;have lr4:=lr3.same S4;have T4:=di (di T2 S3) S4;have efl4:=S4 _ _ efl;have pfl4:=Paired.mapP pfl λ_ _ z=>z.ts (OO S4);have SH:Same H H4:=s2.trans (S3.trans S4);rw[pI (λx=>(hΦ1.1 x).symm.trans Ċ) _]at G;rw[pI (λx=>(hΦ0.1 x).symm.trans Ċ) _]at pfl4;have lZ:=R.len;have okZ:∀i z,È[i]?=some z->∃hi:i<L.length,z.1=L[i]:=λi z hz=>by exists[h1,_],YQ.mp hz;exists[hi,h2],Zu.mp h1;exact#[hi,h2.symm]
 have atZ:∀i (hi:ŧ),∃w0,È[i]?=some ŝ:=λi hi=>R.at hi;obtain⟨Z,hZ⟩:∃Z,Z=L.zip W:=#[_,rfl]
 have lys:ys.length=L.length:=by rw[Zv pfl4];unfold iN;rw[Zd,lZ]
 have Rwd:=R.wd;have Rheld:=R.held;have Rnod:=R.nod;rw[<-hZ]at lZ okZ atZ ho hΦ G pfl4 Rwd Rheld Rnod;obtain⟨rp,hrp⟩:∃rp:Ą×Str->Rp,rp=λz=>cj (eZ Ê) ov Ŋ (nm3 z.1.2) z.2:=#[_,rfl]
 have pfl5:Paired (RpAt H4) ys Ğ:=by rw[hrp];exact pfl4
 have rpN:∀z,(rp z).1=nm3 z.1.2:=λz=>by rw[hrp];exact K7 ..
 have rpL:∀z∈Z,oh (rp z).2.1=ba z.2:=λz hz=>by rw[hrp];exact IF Rnod ho hz ğ
 have rpP:∀z∈Z,eS z.1.2.2.2 (rp z).2.1=eS z.1.2.2.2 z.2:=λz hz=>by rw[hrp];exact IH Rnod ho hz
 have rpT:∀z∈Z,∀it,bg z.1.2.2.2=some it->ba z.2=true->rp z=(nm3 z.1.2,match cO ol Ä z.1.2 it with|some b=>("kept",some b)|none=>("done",none)):=λz hz it hi hl=>by rw[hrp];exact K9 Rnod ho hz ğ hi hl
 have rpO:∀z∈Z,ba z.2=false->inV (.str (rp z).2.1) [.str "done",.str "kept"]=false:=λz hz hl=>by rw[hrp];exact II Rnod ho hz ğ hl
 have rpK:∀z∈Z,PyData.strOk (rp z).2.1=true:=λz hz=>by rw[hrp];exact K8 (Rwd z hz).ok
 have hs4:Hs C T pd fl p d g L ys Ğ ol (gsF [] (gkl Ê)) H4:=#[lr4,efl4,pfl5,O,G,T4]
 refine aB λR0 hR0=>?_;refine#[_,rfl,_,"list",_,true,rfl,.lst ő,Hy,_,rfl,aC ?_];refine#[_,rfl,fl,rfl,#[_,OQ ő],?_];refine bz (xs:=ys) (λi zs H'=>H'=H4/\õ<=i/\NmsAt H4 zs ô) ∅ î #[rfl,Zi _,.nil] (λi zs H' z=>by rw[z.1];exact OQ ő) ?_ ?_
 .rintro i zs H' v hv ⟨rfl,lz,pz⟩ Yq0 hY;exists[z,hz,t,nv,bv,rfl,e1,e2,e3],hs4.row hv;rw[rpN]at e2;refine#[_,rfl,t,_,_,_,rfl,rfl,OP e1,at0,hY _ _ #[rfl,by rw[Zf];exact ZP lz,?_]];rw[bH hz,ZA];exact y7 pz e2
 rintro zs1 l1 H5 ⟨rfl,lz1,pz1⟩ g1;rw[lys,<-lZ,ZC]at pz1;have w5:=ad g1 Ā;have e51:upd H5 l1 Ā l1=some Ā:=ac;generalize upd H5 l1 Ā=H6 at w5 e51 ⊢;have lr6:=hs4.lr.same w5;refine#[_,rfl,pd,rfl,#[_,OQ lr6.1],?_];refine bz (xs:=aH L) (λi zs H'=>Same H6 H'/\õ<=i/\NmsAt H' zs ô) ñ î #[Same.refl _,Zi _,.nil] (λi zs H' z=>OQ (z.1 _ _ lr6.1)) ?_ ?_
 .rintro i zs H' v hv ⟨sm,lz,pz⟩ Yq0 hY;exists[hi,rfl],cC hv;exists[w0,hz],atZ i hi;refine#[_,rfl,_,_,rfl,(lr6.2 _ (ZG hi)).ts ĥ,λt H7 s7 e7=>hY _ _ #[sm.trans s7,by rw[Zf];exact ZP lz,?_]];rw[bH hz,ZA];exact y7 (pz.ts ÿ) #[t,rfl,e7]
 rintro zs2 l2 H7 ⟨sm,lz2,pz2⟩ g2;rw[aG,<-lZ,ZC]at pz2;have w7:=ad g2 Ġ;have S7:=w5.trans (sm.trans w7);exists[d1,d2,d3],rm (w7 _ _ (sm _ _ e51)) (pz1.ts (OO S7));exists[d4,_,_],rm (H:=upd H7 l2 Ġ) ac (pz2.ts (OO w7));refine#[_,_,d1,d4,d2,d2,?_];rw[d3];have SH8:=SH.trans S7;have hs8:=hs4.same S7;refine#[_,rfl,aC ŀ];generalize upd H7 l2 Ġ=H8 at SH8 hs8 ⊢;have ter:Ter ol:=IY hΦ.1 R.ter;have nd:(ol.map (·.1)).Nodup:=R.nd ß;have sml:Small ol:=R.small' ß;refine aB λR0 hR0=>?_;refine#[_,rfl,p,d,g,ol,rfl,hs8.ol,Ĝ,nd,ter,λdw wvs wl H9 s9 gdw edw Rw nw ab=>hR0 _ _ ?_];have hs9:=hs8.same s9;have SH9:=SH8.trans s9;have gdw0:H dw=none:=SH8.free gdw;refine aB λR0 hR0=>?_;refine#[_,rfl,_,rfl,pd,fl,_,_,rfl,OQ hs9.lr.1,OQ hs9.fo,by rw[aG,lys],?_];refine kC (N:=(aH L).length) (λi zs H'=>Same H9 H'/\õ<=i/\NmsAt H' zs (iB (Z.take i))) ñ ĕ #[Same.refl _,Zi _,.nil] (λi zs H' hi z=>#[hi,OQ Ě,OQ ī]) (λzs H' z=>#[rfl,OQ Ě,OQ ī]) ?_ ?_
 .rintro i zs H' x Hx hi ⟨sm,lz,pz⟩ ⟨T',u,y,hT',hp,hy,rfl,rfl⟩ Yq0 hY;have wT:=ad hT' Ł;have sT:=sm.trans wT;exists[hiL,rfl],cC hp;exists[z,hz,hrow],(hs9.same sT).row hy;exists[_,ez],okZ i z hz;have hd:=((hs9.same sT).lr.2 _ (ZG hiL))
  refine#[T',_,rfl,OP ac,rfl,_,_,rfl,_,_,rfl,rfl,?_];refine#[_,rfl,_,rfl,L[i].1,L[i].2,y,rp z,rfl,hd,hrow,λH10 s10=>#[_,rfl,?_]];rw[<-ez,rpP z (ZI hz)];have sa:=wT.trans s10;cases hb:eS z.1.2.2.2 z.2 with
  |false =>refine aC (hY _ _ #[sm.trans sa,∅,?_]);rw[bH hz,wI,hb,Ow ⋯,ZF];exact pz.ts (OO sa)
  |true =>refine aQ #[_,rfl,_,_,rfl,by rw[ez];exact hd.ts (OO s10),λt H11 s11 e11=>hY _ _ #[sm.trans Ĵ,by rw[Zf];exact ZP lz,?_]];rw[bH hz,wI,hb,Ox rfl];exact y7 (pz.ts (OO Ĵ)) #[t,rfl,by rw[ez];exact e11]
 rintro zs ld H10 ⟨sm,lz,pz⟩ gld;rw[aG,<-lZ,ZC]at pz;have wl':=ad gld Ë;have s11:=sm.trans wl';refine hR0 _ _ ?_;have eld:upd H10 ld Ë ld=some Ë:=ac;have pz11:=pz.ts (OO wl');generalize upd H10 ld Ë=H11 at s11 eld pz11 ⊢;have hs11:=hs9.same s11;have edw11:=s11 _ _ edw;have Rw11:=nE Rw s11;have SH11:=SH9.trans s11;refine aB λR0 hR0=>?_;refine#[_,rfl,rfl,_,rfl,Gm nofun ?_];refine#[_,rfl,dw,wvs,rfl,.inl edw11,λlk ks glk hk=>#[_,rfl,?_]];have w12:=ad glk á;exists[d1,d2,d3],rm (H:=upd H11 lk á) ac ((Ez hk Rw11).ts (OO w12));exists[d4,_,_],rm (w12 _ _ eld) (pz11.ts (OO w12));rw[nw,hΦ.2]at d1 d2 d3;refine#[_,_,d1,d4,d2,d2,?_];rw[d3];have hs12:=hs11.same w12;have edw12:=w12 _ _ edw11;have Rw12:=nE Rw11 w12;have SH12:=SH11.trans w12;refine#[_,rfl,aC ŀ];generalize upd H11 lk á=H12 at hs12 edw12 Rw12 SH12 ⊢;refine aB λR0 hR0=>?_;refine#[_,rfl,_,rfl,pd,fl,_,_,rfl,OQ hs12.lr.1,OQ hs12.fo,by rw[aG,lys],?_];refine kC (N:=(aH L).length) (λi zs H'=>Same H12 H'/\õ<=i/\Paired (An H') zs ((Z.take i).map tcz)) ñ ĕ #[Same.refl _,Zi _,.nil] (λi zs H' hi z=>#[hi,OQ Ė,OQ ġ]) (λzs H' z=>#[rfl,OQ Ė,OQ ġ]) ?_ ?_
 .rintro i zs H' x Hx hi ⟨sm,lz,pz⟩ ⟨T',u,y,hT',hp,hy,rfl,rfl⟩ Yq0 hY;have wT:=ad hT' Ł;have sT:=sm.trans wT;exists[hiL,rfl],cC hp;exists[z,hz,t,nv,bv,rfl,e1,e2,e3],(hs12.same sT).row hy;exists[_,ez],okZ i z hz;have hd:=((hs12.same sT).lr.2 _ (ZG hiL))
  refine#[T',_,rfl,OP ac,rfl,_,_,rfl,_,_,rfl,rfl,?_];refine#[_,rfl,_,rfl,t,_,_,_,rfl,rfl,OP e1,at1,L[i].1,L[i].2,_,rfl,hd,λl vs H13 s13 el nl=>hY _ _ #[sT.trans s13,by rw[Zf];exact ZP lz,?_]];rw[bH hz,ZA];unfold oO at nl;rw[rpL z (ZI hz),<-ez]at nl;exact y7 (qD pz (wT.trans s13)) #[l,vs,rfl,el,nl]
 rintro tvs lto H13 ⟨sm,lz,pz⟩ glto;rw[aG,<-lZ,ZC]at pz;have w14:=ad glto ā;have elto:upd H13 lto ā lto=some ā:=ac;have s14:=sm.trans w14;have ptc:=qD pz w14;refine hR0 _ _ ?_;generalize upd H13 lto ā=H14 at elto s14 ptc ⊢;have hs14:=hs12.same s14;have edw14:=s14 _ _ edw12;have Rw14:=nE Rw12 s14;have SH14:=SH12.trans s14;refine aB λR0 hR0=>?_;refine#[sz rfl,λlg glg=>hR0 _ _ ?_];have w15:=ad glg Ù;have elg:upd H14 lg Ù lg=some Ù:=ac;generalize upd H14 lg Ù=H15 at elg w15 ⊢;refine aB λR0 hR0=>?_;refine#[sz rfl,λlt glt=>hR0 _ _ ?_];have w16:=ad glt Ù;have elt:upd H15 lt Ù lt=some Ù:=ac;have elg16:=w16 _ _ elg;have ngt:lg≠lt:=λz=>by rw[z,glt]at elg;cases elg
 generalize upd H15 lt Ù=H16 at elt elg16 w16 ⊢;have s16:=w15.trans w16;have glg0:=glg;have glt0:H14 lt=none:=w15.free glt;have eL:L=Z.map Prod.fst:=by rw[hZ];exact(List.map_fst_zip (by rw[R.lw];exact Zi _)).symm
 have wfA:∀n l,look wl n=some l->Abv ol (some n) l:=λn l h=>ab (n,l) (sP h);have wfS:∀x,(look e x).isSome=true->(look wl x).isSome=true:=λx hx=>by rw[hΦ.1 x]at hx;exact fq.mpr (by rw[nw];exact fq.mp hx)
 have memL:∀z∈Z,ba z.2=true->z.1∈aZ Z:=λz hz hl=>Zt.mpr #[z,ZH.mpr #[hz,hl],rfl];have tkA:=R.tk.asks ol ß;rw[<-hZ]at tkA;have ezp:(L.map Prod.snd).zip (Z.map tcz)=Z.map λz=>(z.1.2,tcz z):=by rw[eL,Z4,List.zip_map'];rfl
 have fs:∀z∈Z,ba z.2=true->∀it,bg z.1.2.2.2=some it->mH ĭ í z.1.2 it=cO ol Ä z.1.2 it:=λz hz hl it hi=>by rw[ezp];exact wO wfA λy hy hly x hx=>#[wfS x ((Rheld y hy hly).1 x hx),tkA y.1 (memL y hy hly) z.1 (memL z hz hl) it hi x hx]
 have hys:WysAt H14 dw ĭ:=#[wvs,edw14,λn ns hn=>by
  exists[v,e1,l,vs,rfl,e2,e3],aY Rw14 hn;exact#[l,vs,e1,e2,e3]]
 refine aB λR0 hR0=>?_;refine#[_,rfl,_,rfl,pd,fl,_,_,rfl,OQ (s16 _ _ hs14.lr.1),OQ (s16 _ _ hs14.fo),by rw[aG,lys],?_];refine wN (K:=K) (a:=pd) (b:=fl) (xs:=aH L) (ys:=ys) (λk Y H'=>Same H14 H'/\∃(gv tv:OU) (o10 o11:ľ),H' lg=some ş/\H' lt=some (.lst tv)/\gv.length<=k/\tv.length<=k/\NmsAt H' gv (gnT â)/\Paired Ş tv â/\Y=[some (.ref a),some (.int h),some Š,some š,some đ,some ć,some Ţ,some Ŕ,some ţ,some Ť,o10,o11,none,none])
  #[s16,[],[],none,none,elg16,elt,Zi _,Zi _,.nil,.nil,rfl] (λi Y H' _ z=>OQ (z.1 _ _ hs14.lr.1)) (λi Y H' _ z=>OQ (z.1 _ _ hs14.fo)) (by rw[aG,lys]) ?_ ?_
 .rintro k x y Y H' hx hy ⟨sm,gv,tv,o10,o11,eg,et,lgv,ltv,pg,pt,rfl⟩ T' gT;exists[hk,rfl],cC hx;have wT:=ad gT Č;generalize upd H' T' Č=H1 at wT ⊢;have S1:=sm.trans wT;exists[z,hz,t,nv,bv,rfl,e1,e2,e3],(hs14.same S1).row hy;exists[_,ez],okZ k z hz;have zM:=ZI hz;have hd:=(hs14.same S1).lr.2 _ ň;obtain⟨c,wa,f1,f2,⟨r,f3,f4⟩,f5,f6⟩:=id hd;have hk62:k<62:=∅
  refine#[_,rfl,_,_,_,_,rfl,rfl,OP f1,at2,wa,_,_,_,rfl,rfl,OP f3,at0,sz rfl,λu gu=>?_];have wu:=ad gu ï;refine#[u,_,rfl,.inr (OP ac),rfl,rfl,_,rfl,?_];have ei:(if false=true then !inV ą [.str "take",.str "join"]else inV ą [.str "take",.str "join"])=(bg L[k].2.2.2).isSome:=Gj _;rw[ei];generalize upd H1 u ï=H2 at wu ⊢;have w2:=wT.trans wu;cases ht:bg L[k].2.2.2 with
  |none =>
   refine aC (aC #[sm.trans w2,gv,tv,_,_,w2 _ _ eg,w2 _ _ et,∅,∅,?_,?_,rfl])
   all_goals rw[bH hz,qE,show dF ol Ä z.1.2=[] by unfold dF;rw[ez,ht],ite_self,ZF]
   .exact pg.ts (OO w2)
   .exact ko pt (OO w2)
  |some it =>
   have ht':bg z.1.2.2.2=some it:=by rw[ez];exact ht
   refine aQ ?_;refine#[_,rfl,t,_,_,_,rfl,rfl,OP (wu _ _ e1),at1,sz rfl,λu2 gu2=>?_];have wu2:=ad gu2 ð;refine#[u2,_,rfl,.inr (OP ac),rfl,rfl,_,rfl,?_];have ei2:(if false=true then !inV Ö [.str "done",.str "kept"]else inV Ö [.str "done",.str "kept"])=inV Ö [.str "done",.str "kept"]:=rfl;rw[ei2];generalize upd H2 u2 ð=H3 at wu2 ⊢;have w3:=w2.trans wu2;cases hl:ba z.2 with
   |false =>
    rw[rpO z zM hl];refine aC #[sm.trans w3,gv,tv,_,_,w3 _ _ eg,w3 _ _ et,∅,∅,?_,?_,rfl]
    all_goals rw[bH hz,qE,hl,Ow ⋯,ZF]
    .exact pg.ts Ň
    .exact ko pt Ň
   |true =>
    have er:=rpT z zM it ht' hl;have S3:=sm.trans w3;exists[iv,la,lb],nZ f4 ht;have wu3:=wu.trans wu2;have e1':=wu3 _ _ e1;have tki:tkZ ol Ä (Z.take (k+1))=tkZ ol Ä (Z.take k)++[(nm3 z.1.2,it,cO ol Ä z.1.2 it)]:=by rw[bH hz,qE,hl,Ox rfl];unfold dF;rw[ht']
    have in2:inV Ö [.str "done",.str "kept"]=true:=by
     rw[er];cases cO ol Ä z.1.2 it with
     |some b=>exact(show inV (.str "kept") [.str "done",.str "kept"]=true by decide)
     |none=>exact(show inV (.str "done") [.str "done",.str "kept"]=true by decide)
    rw[in2];refine aQ ?_;refine aB λR1 hR1=>?_;refine#[_,rfl,.inl #[rfl,_,OQ (w3 _ _ et)],_,rfl,t,_,_,_,rfl,rfl,OP e1',at0,_,rfl,_,_,_,_,rfl,rfl,OP (wu3 _ _ f1),at2,_,rfl,wa,_,_,_,rfl,rfl,OP (wu3 _ _ f3),la,_,rfl,t,_,_,_,rfl,rfl,OP e1',at2,sz rfl,λtr gtr=>?_];have wtr:=ad gtr Ú;have etr:upd H3 tr Ú tr=some Ú:=ac;generalize upd H3 tr Ú=H5 at wtr etr ⊢;have w5:=w3.trans wtr;refine#[lt,_,_,rfl,rfl,w5 _ _ et,aU ∅,hR1 _ _ ?_];have glt':H14 lt=none:=glt0;have t6:TS H5 Î:=iX λws e'=>by rw[w5 _ _ et]at e';cases e'
    have S6:Same H14 Î:=λb o e=>by rw[af (aj e glt0)];exact w5 _ _ (sm _ _ e)
    have et6:upd H5 lt À lt=some À:=ac;have eg6:upd H5 lt À lg=some ş:=by rw[af ngt];exact w5 _ _ eg
    have t56:TS H' Î:=λb zs e=>t6 _ _ (w5 _ _ e);have t16:TS H1 Î:=λb zs e=>t6 _ _ (wtr _ _ (wu3 _ _ e));have hrow:RpAt Î (.ref t) ŗ:=#[t,nv,bv,rfl,t16 _ _ e1,e2.ts' t16,e3.ts t16]
    have pt6:Paired (TkAt Î) (tv++[.ref tr]) ü:=by
     rw[tki];refine y7 (ko pt t56) #[tr,nv,iv,bv,rfl,t6 _ _ etr,?_,lb.ts' t16,?_]
     .rw[rpN]at e2;exact e2.ts' t16
     .have:=e3.ts t16;rw[er]at this;cases hf:cO ol Ä z.1.2 it with
      |some b=>rw[hf]at this;exact this
      |none=>rw[hf]at this;exact this
    have pg6:=pg.ts t56;generalize upd H5 lt À=H6 at t6 S6 et6 eg6 t56 t16 hrow pt6 pg6 ⊢;have hd6:=(hs14.same S6).lr.2 _ ň;refine aB λR1 hR1=>?_;refine#[_,rfl,_,rfl,_,rfl,_,rfl,_,rfl,L[k].1,pd,lto,dw,.ref t,L[k].2,it,rp z,L,Z.map tcz,tvs,look wl,rfl,hd6,ht,hrow,rpK z zM,(hs14.same S6).lr,S6 _ _ elto,qD ptc S6,by rw[Zd,lZ],hys.same S6,?_,λH7 s7=>#[_,rfl,?_]]
    .rw[ezp];intro q hq';exists[z',hz',rfl],Zt.mp hq';have hzL:z'.1∈L:=by rw[eL];exact Zt.mpr #[z',hz',rfl]
     refine#[by rw[(okL _ hzL).2.1,(okL _ ň).2.1],B8 (okL _ hzL).2.2,?_,λx hx=>?_]
     .show(tcz z').length<=2;unfold tcz;split
      .exact qc _
      .exact ZL _
     .have hx:x∈tcz z':=hx;unfold tcz at hx;split at hx
      .rename_i hl';exact wfS x ((Rheld z' hz' hl').1 x hx)
      .cases hx
    have kb:Gn ŗ (mH ĭ í L[k].2 it)=true:=by
     rw[<-ez,fs z zM hl it ht',er];cases cO ol Ä z.1.2 it with
     |some b=>exact(show(decide (("kept":Str)="kept")&&decide ((some b:Option Nm)=some b))=true by rw[decide_eq_true rfl,decide_eq_true rfl];rfl)
     |none=>exact(show(decide (("done":Str)="done")&&decide ((none:Option Nm)=none))=true by rw[decide_eq_true rfl,decide_eq_true rfl];rfl)
    rw[kb];refine aC (hR1 _ _ ?_);have S7:=S6.trans s7;exists[t',nv',bv',e0',e1'',e2',e3'],hrow.ts ÿ;cases e0';obtain⟨c',wa',f1',f2',⟨r',f3',f4'⟩,_⟩:=hd6.ts ÿ;refine#[_,rfl,t,_,_,_,rfl,rfl,OP e1'',at1,rfl,_,rfl,?_];have et7:=s7 _ _ et6;have eg7:=s7 _ _ eg6;have pt7:=ko pt6 ÿ;have pg7:=pg6.ts ÿ;have ltv':(tv++[V.ref tr]).length<=k+1:=by rw[Zf];exact ZP ltv
    have gni:gnT ü=gnT â++(if cO ol Ä z.1.2 it=none then[it]else[]):=by rw[tki,En]
    cases hf:cO ol Ä z.1.2 it with
    |some b =>
     rw[hf,Ow nofun,ZF]at gni;have ew:(rp z).2.1="kept":=by rw[er,hf]
     rw[ew];refine aL ⋯ #[S7,gv,_,_,_,eg7,et7,∅,ltv',?_,pt7,rfl];rw[gni];exact pg7
    |none =>
     rw[hf,Ox rfl]at gni;have ew:(rp z).2.1="done":=by rw[er,hf]
     rw[ew];exists[iv',la',lb'],nZ f4' ht;refine cU ?_;refine#[_,rfl,.inl #[rfl,_,OQ eg7],_,rfl,_,_,_,_,rfl,rfl,OP f1',at2,_,rfl,wa',_,_,_,rfl,rfl,OP f3',la',?_];refine#[lg,_,_,rfl,rfl,eg7,aU ∅,?_];have t8:TS H7 (upd H7 lg (.lst (gv++[iv']))):=iX λws e'=>by rw[eg7]at e';cases e'
     refine#[λb o e=>by rw[af (aj e glg0)];exact S7 _ _ e,gv++[iv'],_,_,_,ac,by rw[af (ZO ngt)];exact et7,by rw[Zf];exact ZP lgv,ltv',?_,ko pt7 t8,rfl];rw[gni];exact y7 (pg7.ts t8) (lb'.ts' t8)
 .rintro Y H17 ⟨sm,gv,tv,o10,o11,eg,et,lgv,ltv,pg,pt,rfl⟩;rw[aG,<-lZ,ZC]at pg pt;rw[aG]at lgv ltv;refine hR0 _ _ ?_;have hs17:=hs14.same sm;have edw17:=sm _ _ edw14;have Rw17:=nE Rw14 sm;have SH17:=SH14.trans sm;have etk:aX ol Ä=tkZ ol Ä Z:=GN ol Ä Z;rw[<-etk]at pg pt;exists[kvs0,gvs0,S0,_],id hs17.ol;obtain⟨⟨dx,h1⟩,_⟩:=id S0;refine aB λR0 hR0=>?_;refine#[_,rfl,p,dx,_,rfl,h1,ju _ _ ⋯ ⋯,p,d,g,ol,_,rfl,hs17.ol,hs17.gn,Ĝ,nd,hs17.tb,λM pe=>Ja nd ter Ĝ pe,λR' H18 M out k rs pe df sT tb' gR eR ra=>#[R',rfl,#[_,OQ eR],?_]];have lo:=IJ nd ter pe df;have lrs:=Zv ra;have lol:=Ĝ;refine bz (xs:=rs) (λi zs H'=>H'=H18/\õ<=i/\NmsAt H18 zs ((out.take i).map λx=>x.2.1)) ∅ î #[rfl,Zi _,.nil] (λi zs H' z=>by rw[z.1];exact OQ eR) ?_ ?_
  .rintro i zs H' v hv ⟨rfl,lz,pz⟩ Yq0 hY;exists[x,hx,ra',nv,rfl,r1,r2],uG ra hv;refine#[_,rfl,ra',_,_,_,rfl,rfl,OP r1,at1,hY _ _ #[rfl,by rw[Zf];exact ZP lz,?_]];rw[bH hx,ZA];exact y7 pz r2
  rintro zs ls H18' ⟨rfl,lzs,pzs⟩ gls;rw[<-lrs,ZC]at pzs;have w19:=ad gls Ë;exists[pst,eT,_],id hs17.tb;have k19:∀b o,ė->H17 b=some o->upd H18' ls Ë b=some o:=λb o no e=>w19 _ _ (sT b o e λz=>by rw[z,eT]at e;exact no _ (Zo e).symm);have els:upd H18' ls Ë ls=some Ë:=ac;have pz19:=pzs.ts (OO w19);refine hR0 _ _ ?_;generalize upd H18' ls Ë=H19 at k19 els pz19 ⊢;have t19:TS H17 H19:=λb ws e=>k19 _ _ É e;have edw19:=k19 _ _ É edw17;refine aB λR0 hR0=>?_;refine#[_,rfl,dw,wvs,rfl,edw19,λob=>?_];have eF:upd H19 dw Å dw=some Å:=ac;have kF:∀b o,b≠dw->H19 b=some o->upd H19 dw Å b=some o:=λb o n e=>by rw[af n];exact e
  have uF:∀b o,b≠dw->upd H19 dw Å b=some o->H19 b=some o:=λb o n e=>by rw[af n]at e;exact e
  have nlw:∀{b:OC} {xs:OU},H19 b=some ĉ->b≠dw:=λe=>bw e edw19 nofun;have tF:TS H19 (upd H19 dw Å):=λb ws e=>kF _ _ ě e;generalize upd H19 dw Å=HF at eF kF uF tF ⊢;have RwF:Rws (WyR HF) wvs wl:=Paired.mapP Rw17 λ_ _ z=>#[z.1,by
   exists[l,vs,e,y1,y2],z.2;have y1':=k19 _ _ É y1;exact#[l,vs,e,kF _ _ (nlw y1') y1',(y2.ts t19).ts tF]]
  have elsF:=kF _ _ ť els;have eg19:=k19 _ _ É eg;have egF:=kF _ _ (nlw eg19) eg19;have pzF:=pz19.ts tF;have ndw:(wl.map (·.1)).Nodup:=by rw[nw];exact nd
  have pgF:=(pg.ts t19).ts tF;have lwl:wl.length<=63:=by have:=Z2 List.length nw;rw[Zd,Zd]at this;omega
  refine wL (a:=dw) (o:=ob) (kvs:=wvs) (j:=13) (λi Y H'=>Same HF H'/\∃o13,Y=[some (.ref a),some (.int h),some Š,some š,some đ,some ć,some Ţ,some Ŕ,some ţ,some Ť,o10,o11,some (.ref ls),o13]) #[Same.refl _,none,rfl] (λi Y H' _ z=>z.1 _ _ eF) ?_ ?_
  .rintro i pr b Y H' hpr hb ⟨sm,o13,rfl⟩ D' kD _;exists[x,hx,ex1,_],aP RwF hpr;have hlx:=dA ndw hx;exists[v,e1,l,vs,rfl,y1,y2],aY RwF hlx;have hb':H' b=some Û:=by rw[<-ex1];exact hb
   have abx:=ab x (ZI hx);have lvs:ŕ<=63:=by rw[Zv y2];exact Zs abx.len lol
   have shp:=bU (bJ x.1).1 (by rw[(bJ x.1).2];decide);exists[dz1,dz2],om (pzF.ts ĥ);exists[dg1,dg2],om (pgF.ts ĥ);refine#[_,rfl,_,rfl,ls,zs,nmD x.1,_,rfl,OQ (sm _ _ elsF),fK #[b,rfl,hb'],dz1,shp,dz2,?_];refine#[_,rfl,_,rfl,dw,.ref l,rfl,.inr #[wvs,nk x.1,b,.inr #[ob,sm _ _ eF],rfl,hb',e1.symm],l,rfl,#[_,OQ ŋ],?_];refine bz (xs:=vs) (λj ys' H''=>H''=H'/\ys'.length=((x.2.take j).filter λm=>decide ó).length) ∅ (λj ys' _ z=>by rw[z.2];exact Zs (ZX ..) (by rw[ZY];omega)) #[rfl,rfl] (λj ys' H'' z=>by rw[z.1];exact OQ ŋ) ?_ ?_
   .rintro j ys' H'' v hv ⟨rfl,hz'⟩ Yq0 hY;exists[m,hm,hn],aP y2 hv;refine#[_,rfl,_,rfl,lg,gv,nmD m,_,rfl,OQ (sm _ _ egF),fK (hn.ts' ĥ),dg1,bU (bJ m).1 (by rw[(bJ m).2];decide),dg2,_,rfl,?_];rw[rj];have ei:(if false=true then !decide (m∈gnT Ê)else decide ó)=decide ó:=rfl;rw[ei];cases hc:decide (m∈gnT Ê)with
    |true =>refine aQ #[_,rfl,hY _ _ #[rfl,?_]];rw[bH hm,Z6,Zf,Zf,hz',Yf,Ox hc];rfl
    |false =>refine aC (hY _ _ #[rfl,?_]);rw[bH hm,Z6,Zf,hz',Yf,Ow (by rw[hc];decide)];rfl
   rintro ys' lc H'' ⟨rfl,hz'⟩ glc;rw[Zv y2,ZC]at hz';have wlc:=ad glc (.lst ys');refine#[lc,ys',rfl,.inl (OQ ac),_,_,rfl,rfl,.bool _,.bool _,AC _,AC _,GF _,GF _,_,rfl,?_];have gi:=Bo nd pe df abx (gl:=gnT Ê) λy=>Hm _ y;rw[rj];have ev:PyData.eqv (.bool (if false=true then !decide (x.1∈out.map λx=>x.2.1)else decide ý)) (.bool (decide þ))=false:=by have e1:decide þ=decide (0<ys'.length):=YM.mpr #[λz=>Int.ofNat_lt.mp z,λz=>Int.ofNat_lt.mpr z];rw[e1,hz'];show PyData.eqv (.bool (decide ý)) _=false;rw[gi];cases decide (0<(x.2.filter λm=>decide ó).length)<;>rfl
   rw[ev];exact aC (kD _ _ #[sm.trans wlc,_,rfl])
  .rintro Y H20 ⟨sm,o13,rfl⟩;refine#[dw,ob,_,sm _ _ eF,Loose.non gdw0,hR0 _ _ ?_];have k21:∀b o,ė->b≠dw->H17 b=some o->upd H20 dw ø b=some o:=λb o no n e=>by rw[af n];exact sm _ _ (kF _ _ n (k19 _ _ no e))
   have els21:upd H20 dw ø ls=some Ë:=by rw[af ť];exact sm _ _ elsF
   have t21:TS H19 (upd H20 dw ø):=λb ws e=>by rw[af ě];exact sm _ _ (tF _ _ e)
   generalize upd H20 dw ø=H21 at k21 els21 t21 ⊢;have tl21:TS H17 H21:=TS.trans t19 t21;have nl17:∀{b:OC} {xs:OU},H17 b=some ĉ->H21 b=some ĉ:=λe=>k21 _ _ nofun (bw e edw17 nofun) e;have lr21:LR3 H21 pd L:=#[nl17 hs17.lr.1,λx hx=>(hs17.lr.2 x hx).ts tl21]
   have rw21:=Paired.mapP hs17.rw λ_ _ z=>z.ts tl21;have fo21:=nl17 hs17.fo;have et21:=nl17 et;have pt21:=ko pt tl21;have pz21:=pz19.ts t21;have ndo:=tj nd ter pe df;have ndk:((out.map λx=>x.2.1).map λn:Nm=>[n.1,n.2]).Nodup:=ndo.map _ λa b hab z=>hab (by injection z with z1 z2;injection z2 with z2 _;exact Prod.ext z1 z2);refine#[_,rfl,ls,zs,rfl,.inl (OQ els21),_,rfl,ls,zs,_,rfl,els21,J7 pz21,ndk,∅,λsa so' gsa hsn=>#[sa,so',_,rfl,ac,hsn,∅,rfl,_,rfl,?_]];rw[decide_eq_true rfl];have w22:=ad gsa Ō;generalize upd H21 sa Ō=H22 at w22 ⊢;refine aQ #[_,rfl,pd,L,W,Ć,_,rfl,lr21.same w22,R.tk,λol2 ov2 f2 ys2 H23 h2 ho2 s23 e23 p23=>#[_,rfl,?_]];have s24:=w22.trans s23;have er2:iN (eZ (aX ol2 č)) ov2 Ŋ È=Z.map rp:=by rw[<-hZ]at h2 ho2 ⊢;rw[hrp,pI (λx=>(h2.1 x).symm.trans Ċ) _];unfold iN;exact Y1 λz _=>IG (Kr ho2 ho _)
   rw[er2]at p23;have okr:∀r∈Z.map rp,PyData.strOk r.2.1=true:=λr hr'=>by exists[z,hz,rfl],Zt.mp hr';exact rpK z hz
   exists[d1,d2,d3],jJ (D:=rpD) e23 p23 λv r hr' x=>Gz x ō;exists[d4,_,_],jJ (D:=rpD) (s24 _ _ fo21) (Paired.mapP rw21 λ_ _ z=>z.ts (OO s24)) λv r hr' x=>Gz x ō;refine#[_,_,d1,d4,d2,d2,_,rfl,?_];rw[d3];refine aQ #[_,rfl,pd,L,W,Ć,_,rfl,lr21.same s24,R.tk,λol3 a3 vs3 H25 h3 s25 e25 p25=>#[_,rfl,?_]];have s26:=s24.trans s25;have et3:aX ol3 č=aX ol Ä:=by rw[<-hZ]at h3 ⊢;exact pI (λx=>(h3.1 x).symm.trans Ċ) _
   rw[et3]at p25;exists[d5,d6,d7],jJ (D:=tkD) e25 p25 λv r _ x=>GL x;exists[d8,_,_],jJ (D:=tkD) (s26 _ _ et21) (ko pt21 (OO s26)) λv r _ x=>GL x;refine#[_,_,d5,d8,d6,d6,?_];rw[d7];exact hq _
#check 0
def qg:Nat->(OB->Prop)->Prop
 |0,p=>p []
 |n+1,p=>∀a,qg n λus=>p (a::us)
theorem jt:∀{n:Nat} {p:OB->Prop},qg n p->∀us:OB,us.length=n->p us
 |0,_,h,[],_=>h
 |_+1,_,h,a::us,e=>jt (h a) us (Nat.succ.inj e)
section
variable{P:OF}{w:OG}{K:Qa}{mg:OA}{base h:Ũ}{n m q:Str}{st:Stmt}{C f:OC}{k:Nat}
structure Bx(P:OF)(w:OG)(K:Qa)(mg:OA)(base h:Ũ):Prop where
 X:K.In h
 G:h.Ns mainGlobals mg
def A1(K:Qa)(n:Str)(st:Stmt)(f:OC):Prop:=W.nsIn K mainGlobals n=some ċ/\∃fd,Fun K n n st f fd
def A2(K:Qa)(C:OC)(m q:Str)(st:Stmt)(f:OC):Prop:=W.findIn K Ĕ m=some ċ/\W.isFn K ã=true/\∃fd,Fun K m q st f fd
def AF(K:Qa):List (Str×Stmt×OC)->Prop
 | []=>True
 |(n,st,f)::l=>A1 K n st f/\AF K l
def AM(K:Qa):List (OC×Str×Str×Stmt×OC)->Prop
 | []=>True
 |ł::l=>A2 K C m q st f/\AM K l
def AN(p:Str->Prop):List Str->Prop
 | []=>True
 |n::l=>p n/\AN p l
theorem anI{p p':Str->Prop}(i:∀{n},p n->p' n):∀{l:List Str},AN p l->AN p' l
 | [],_=>True.intro
 |_::_,h=>#[i h.1,anI i h.2]
theorem gf{oc kV dc pm cd ct:OE}(a:W.nsIn K mainGlobals n=some ċ)(b:K.lookup f=some #[oc,od,.func (W.fnOf n n Ħ ħ Ĩ .none kV dc pm an cd ct),sl])(c:W.codeIn K cd n=true)(d:ģ)(r:AF K l):AF K ((n,st,f)::l):=#[#[a,_,Ci b c d],r]
theorem gm{oc kV dc pm cd ct:OE}(a:W.findIn K Ĕ m=some ċ)(i:W.isFn K ã=true)(b:K.lookup f=some #[oc,od,.func (W.fnOf m q Ħ ħ Ĩ .none kV dc pm an cd ct),sl])(c:W.codeIn K cd q=true)(d:ģ)(r:AM K l):AM K (ł::l):=#[#[a,i,_,Ci b c d],r]
theorem gn(a:W.nsIn K mainGlobals n=some none)(r:AN Æ l):AN Æ (n::l):=#[a,r]
theorem mkF(B:ď)(A:A1 K n st f)(ok:∀{fd},Fun K n n st f fd->FnOk P w K mg base CX0 k f fd ps sp)(hb:∀(kV doc pm:OE) (an:ù) (cdv ct:OE),qg ö λus=>bindArgs (W.fnOf n n Ħ ħ Ĩ .none kV doc pm an cdv ct) #[us,[]]=pure ê:=by(repeat intro _);rfl):↑Fn k n ps sp:=by exists[a,fd,F],A;exact#[f,fd,ok F,Ym B.X B.G a,F.kp,F.binds λa b c d e g=>jt Ï]
theorem mkM(B:ď)(L:Ő)(A:û)(ok:Í)(hb:∀(kV doc pm:OE) (an:ù) (cdv ct:OE),qg ö λus=>bindArgs Ã #[us,[]]=pure ê:=by(repeat intro _);rfl):↑MFn k C m ps sp:=by exists[a,i,fd,F],A;exact#[L,f,fd,ok F,#[a,i,F.kp],F.binds λa b c d e g=>jt Ï]
theorem mkX(B:ď)(L:Ő)(A:û)(ok:∀{fd},Fun K m q st f fd->FnOk P w K mg base (CXr P w) k f fd ps sp)(hb:∀(kV doc pm:OE) (an:ù) (cdv ct:OE),qg ö λus=>bindArgs Ã #[us,[]]=pure ê:=by(repeat intro _);rfl):↑MFnX k C m ps sp:=by exists[a,i,fd,F],A;exact#[L,f,fd,ok F,#[a,i,F.kp],F.binds λa b c d e g=>jt Ï]
theorem mkC(B:ď)(L:Ő)(g:mg x=some Ĕ)(mk:W.makesIn K C=true)(kc:W.keepIn K Ĕ=true)(A:A2 K C "__init__" q st f)(ok:∀{fd},Fun K "__init__" q st f fd->FnOk P w K mg base CX0 k f fd ps sp)(hb:∀(kV doc pm:OE) (an:ù) (cdv ct:OE),qg ö λus=>bindArgs (W.fnOf "__init__" q Ħ ħ Ĩ .none kV doc pm an cdv ct) #[us,[]]=pure ê:=by(repeat intro _);rfl):↑MkFn k C x ps sp:=by exists[a,i,fd,F],A;exact#[L,g,f,fd,ok F,#[mk,a,i,kc],F.binds λa b c d e g=>jt Ï]
theorem mkE(B:ď)(e:ExcAtI K C f bm)(A:û)(ok:Í)(hb:∀(kV doc pm:OE) (an:ù) (cdv ct:OE),qg ö λus=>bindArgs Ã #[us,[]]=pure ê:=by(repeat intro _);rfl):↑ExI k C bm ps sp:=by exists[a,i,fd,F],A;exact#[f,fd,e,ok F,F.binds λa b c d e g=>jt Ï]
#check 0
theorem Jt{l:W.OpenLaw}{K:Qa}(X:K.In h)(G:h.Ns mainGlobals mg)(hfa:mg "law" = some Ŧ)(NA:W.nsIn K mainGlobals "Plain" = some (some Ø))(NC:W.plainGet K C_Plain Str.empty=true)(ND:W.hasDictIn K C_Plain=true)(NE:W.plainOver K C_Plain=true)(NF:W.findIn K Ø "__setattr__" = some è)(NG:W.makesIn K C_Plain=true)(NH:W.keepIn K Ø=true)(M7:W.findIn K Ø "held" = some none)(M8:W.findIn K Ø "away" = some none)(Nu:W.nsIn K mainGlobals "NoItem" = some (some Ô))(NI:W.nsIn K mainGlobals "Taken" = some (some (.ref c_Taken)))(Nj:W.nsIn K mainGlobals "Beneath" = some (some Ĭ))(N8:W.nsIn K mainGlobals "Far" = some (some (.ref c_Far)))(M9:W.nsIn K mainGlobals "LimbError" = some (some (.ref c_LimbError)))(zF:AF K (("step_parts",kj,f1)::("name_of",oF,f2)::("is_turn",oB,f3)::("turned_name",je,f4)::("last_turns",kg,f5)::("is_off",qw,f6)::("step_of",oG,f7)::("word_of_step",iH,f8)::("play",xU,f9)::("played",qz,f10)::("words_of",nj,f11)::("steps_of",mZ,f12)::("tells",tI,f13)::("hears",tE,f14)::("apart",tu,f15)::("stepped",oH,f16)::("touched_by",kn,f17)::("taken_item",kl,f18)::("gainsays",mX,f19)::("first_gainsayer",fP,f20)::("takings_of",km,f21)::("overs_of",mY,f22)::("report_of",lA,f23)::("history_of",jZ,f24)::("outline_of",kh,f25)::("_law_cell_at",oA,f26)::("_law_text",xV,f27)::("_law_what",xX,f28)::("_law_order",tG,f29)::("_law_deeds",tD,f30)::("_law_name",xT,f31)::("_law_touched",oJ,f32)::("_law_ways",xW,f33)::("_law_gainsays",lj,f34)::("_law_taken",tH,f35)::("_law_put",Bh,f36)::("law",pG,f37)::[]))(zM:AM K ((c_NoItem,"__init__","NoItem.__init__",jb,m1)::(C_Plain,"__init__","Plain.__init__",jV,m2)::(C_Plain,"item","Plain.item",jW,m3)::(C_Plain,"bring_in","Plain.bring_in",gK,m4)::(C_Plain,"change","Plain.change",iG,m5)::(C_Plain,"check_names","Plain.check_names",eW,m6)::(C_Plain,"at_or_beneath","Plain.at_or_beneath",dY,m7)::(C_Plain,"check_bounds","Plain.check_bounds",eI,m8)::(C_Plain,"part_item","Plain.part_item",fO,m9)::(C_Plain,"join_items","Plain.join_items",fD,m10)::(C_Plain,"holds","Plain.holds",jc,m11)::(C_Plain,"step","Plain.step",jY,m12)::(C_Plain,"names","Plain.names",jd,m13)::(C_Plain,"sorted_names","Plain.sorted_names",dg,m14)::(C_Plain,"lower_names","Plain.lower_names",eX,m15)::(C_Plain,"rows","Plain.rows",jX,m16)::[]))(zN:AN Æ ("len"::"list"::"zip"::"range"::"max"::"sum"::"enumerate"::"tuple"::"sorted"::"dict"::"any"::"reversed"::"isinstance"::"set"::[]))(N9:W.nsIn K mainGlobals "TEXT" = some (some (.int 2 Ou)))(On:W.nsIn K mainGlobals "UP" = some (some (.int 0 Ov)))(NX:W.nsIn K mainGlobals "PLACE" = some (some (.int 1 Ot)))(Na:W.nsIn K mainGlobals "STEP_PARTS" = some (some (.ref Nn)))(t_STEP_PARTS:PyProof.Rows.KTD.tabLook (oR K) Ģ Nn ST=true)(l8:W.nsIn K mainGlobals "FIRST_CHANGED" = some (some (.ref Nb)))(t_FIRST_CHANGED:PyProof.Rows.KTD.tabLook (oR K) Ģ Nb FC=true)(Nv:Cc K c_NoItem m1)(Nw:∃c d cd sl,K.lookup c_NoItem=some #[c,d,.cls cd,sl]/\Ę=Value.ref c_NoItem::Value.ref c_LimbError::VE)(if_NoItem:∃oI,K.lookup m1=some oI/\oI.cls=.type "function")(NJ:qQ K c_Taken)(NK:∃c d cd sl,K.lookup c_Taken=some #[c,d,.cls cd,sl]/\Ę=Value.ref c_Taken::Â)(Nk:qQ K c_Beneath)(Nl:∃c d cd sl,K.lookup c_Beneath=some #[c,d,.cls cd,sl]/\Ę=Value.ref c_Beneath::Â)(Ob:qQ K c_Far)(Oc:∃c d cd sl,K.lookup c_Far=some #[c,d,.cls cd,sl]/\Ę=Value.ref c_Far::Â)(e6:W.mroIn K c_NoItem (.type "object")=some true)(aN:W.findIn K Ô "name" = some none)(s1:W.findIn K Ô "__setattr__" = some è)(s2:((W.clsIn K c_NoItem).any λcd=>rD Ę&&cd.hasDict)=true)(tb1:Lake.oM K "Plain" "sorted_names" = some Ř)(nb:(Value.ref c_Beneath::Value.ref c_LimbError::VE).contains Ô=false)(nf:(Value.ref c_Far::Value.ref c_LimbError::VE).contains Ô=false)(fb:(Value.ref c_Far::Value.ref c_LimbError::VE).contains Ĭ=false):∃fd:OI,(∀(s:OD) (v:OE),BindsTo s fd #[[v],[]] [("_law_script",v)])/\∀base:Heap,K.In base->base.Ns mainGlobals mg->Blt base mg->W.CodeHd base c0 T->FnOk Œ w K mg base CX0 12 fa fd ["_law_script"] Ŀ:=by
 obtain⟨Af1,Af2,Af3,Af4,Af5,Af6,Af7,Af8,Af9,Af10,Af11,Af12,Af13,Af14,Af15,Af16,Af17,Af18,Af19,Af20,Af21,Af22,Af23,Af24,Af25,Af26,Af27,Af28,Af29,Af30,Af31,Af32,Af33,Af34,Af35,Af36,⟨a0,_,F0⟩,_⟩:=zF;exists[Am1,Am2,Am3,Am4,Am5,Am6,Am7,Am8,Am9,Am10,Am11,Am12,Am13,Am14,Am15,Am16,_],zM;exists[a8,j3,i9,u4,Ny,Of,j4,NS,r9,Nf,Og,u7,w9,Oi,_],anI (p':=λn=>mg n=none) (λz=>W.mg_none_of X G z) zN;have e:=hfa.symm.trans (Ym X G a0);cases e;exists[oc,od,kV,dc,pm,an,cd,ct,sl,rfl,l0,c0],id F0.ex;have c6:=Ym X G N9;have pi:=Ym X G On;have Ng:=Ym X G NX;have u9:=Ym X G Na;have l7:=Ym X G l8;have Op:=Ym X G NA;have c5:Cls K C_Plain:=#[NC,ND,NE,NF]
 have a7:Txt K C_Plain:=#[c5,M7,M8]
 have Od:Tab K Nn ST:=#[t_STEP_PARTS]
 have NM:Tab K Nb FC:=#[t_FIRST_CHANGED]
 have n9:=Ym X G Nu;have NY:ExcAtI K c_NoItem m1 Â:=#[Nv,Nw,by rw[x8];rfl,if_NoItem]
 have NO:=Ym X G NI;have j5:=Ym X G Nj;have Nx:=Ym X G N8;have Os:=Ym X G M9;have Oo:ExcAt K c_Taken Â:=#[NJ,NK,by rw[x8];rfl]
 have NN:ExcAt K c_Beneath Â:=#[Nk,Nl,by rw[x8];rfl]
 have Om:ExcAt K c_Far Â:=#[Ob,Oc,by rw[x8];rfl]
 have sN:ExS K c_NoItem:=#[s1,s2,e6]
 have er:ErF K c_NoItem c_Beneath c_Far _ _ _:=#[zd NY,wJ NN,wJ Om,nb,nf,fb]
 refine#[W.fnOf "law" "law" (dJ pG) (bT pG) (aq pG) .none kV dc pm an cd ct,λs v=>.of_eq rfl,λbase _ _ Bl C=>?_];have B:Bx Œ w K mg base h:=#[X,G]
 have v3:=mkF B Af1 λF=>vh F u9 Od;have No:=mkE B NY Am1 λF=>sQ F sN aN;have a6:=mkF B Af2 λF=>AY F;have p9:=mkC B c5 Op NG NH Am2 λF=>uW F a7;have N5:=mkM B c5 Am3 λF=>uX F a7;have j6:=mkM B c5 Am4 λF=>pM F a7;have i5:=mkM B c5 Am5 λF=>rB F a7 a8;have p6:=mkX B c5 Am6 λF=>lO F a7 v3 i9 (qk Oo) NO No n9;have a9:=mkM B c5 Am7 λF=>kY F a7 pi;have l5:=mkX B c5 Am8 λF=>kZ F a7 a9 c6 a8 (qk NN) j5 (qk Om) Nx;have Nc:=mkM B c5 Am9 λF=>oo F a7 i5 j6 c6 pi Ny;have v5:=mkM B c5 Am10 λF=>nM F a7 i5 c6 pi j3;have Nz:=mkM B c5 Am11 λF=>sR F a7;have j7:=mkX B c5 Am12 λF=>sU F a7 p6 l5 j6 Nc v5 i5 l7 NM;have c8:=mkF B Af3 λF=>AX F;have i7:=mkF B Af4 λF=>sV F;have i8:=mkF B Af5 λF=>vd F c8 i7;have NB:=mkF B Af6 λF=>CU F a6 c8;have Np:=mkF B Af7 λF=>AZ F a6;have p7:=mkF B Af8 λF=>rC F (yf j7) er n9 j5 Nx;have NZ:=mkF B Af9 λF=>HQ F Nz (yf j7) Np p7;have r0:=mkF B Af10 λF=>CV F i8 c8 a6 i7 NB NZ p9;have j8:=mkF B Af11 λF=>yJ F r0;have j9:=mkF B Af12 λF=>yI F r0;have NP:=mkF B Af13 λF=>EY F;have r6:=mkF B Af14 λF=>EV F a6 NP;have u8:=mkF B Af15 λF=>ET F a6 r6;have k9:=mkF B Af16 λF=>A0 F p9 j7;have v6:=mkF B Af17 λF=>vn F a6;have v7:=mkF B Af18 λF=>vk F;have Nh:=mkF B Af19 λF=>yG F a6 r6 u8 v6 a9 Og;have k7:=mkF B Af20 λF=>oq F Nh a6;have b9:=mkF B Af21 λF=>vm F j8 j9 (Bq k9) a6 v7 k7 Nf;have Ni:=mkF B Af22 λF=>yH F a6 u8 j4 a8;have u5:=mkF B Af23 λF=>xF F j8 i8 b9 Ni a6 Nf i9;have v8:=mkF B Af24 λF=>uZ F b9 j9;have v9:=mkF B Af25 λF=>ve F v8 k9;have NU:=mkM B c5 Am13 λF=>sS F a7 j3;have u3:=mkM B c5 Am14 λF=>lP F (Cg NA Am14.1 F tb1) C Bl a7 Ng r9;have u6:=mkM B c5 Am15 λF=>mS F a7 u3 pi;have N7:=mkM B c5 Am16 λF=>uY F a7 u6 c6 u7 a8;have Nr:=mkF B Af26 λF=>AW F a8;have NL:=mkF B Af27 λF=>HR F u4 a8;have N0:=mkF B Af28 λF=>HU F NL a8;have NQ:=mkF B Af29 λF=>EW F Of;have NV:=mkF B Af30 λF=>EU F N0 NQ j4 u4 Ny NS r9;have i6:=mkF B Af31 λF=>HN F;have Nt:=mkF B Af32 λF=>A7 F i6;have N6:=mkF B Af33 λF=>HS F NU N5 a8;have Nd:=mkF B Af34 λF=>xE F i6 a8;have NW:=mkF B Af35 λF=>EX F i6 Nd i9;have Oh:=mkF B Af36 λF=>Kg F;exact Kf F0 Nr NV u5 v9 b9 i6 N6 Oh Nt NW N7 w9 j3 a8 Oi i9
theorem M6{l:W.OpenLaw}{XP:(OA)->Heap->Prop}{YP:OG->Heap->Prop}{d:DefRec}{K:Params->Qa}(hn:l.most=some 63)(hdf:d.params.defaults=[])(hY:∀ (w:OG) (h:Ũ),YP w h->(K Ý).In h)(tb:∀ w:OG,Lake.oM Ĥ "Plain" "sorted_names" = some Ř)(ht:∀ (w:OG) (h:Ũ),YP w h->W.CodeHd h c0 T/\h.get? T=some (W.tabObj #[]))(nt:∀ w:OG,W.noTabs Ĥ=true)(F:∀ (w:OG) (mg:OA) (fa:OC) (h:Ũ),(K Ý).In h->h.Ns mainGlobals mg->mg d.name=some Ŧ ->
   ∃ fd:OI,(∀ (s:OD) (u:OE),BindsTo s fd #[[u],[]] [("_law_script",u)])/\∀ base:Heap,(K Ý).In base->base.Ns mainGlobals mg->Blt base mg->W.CodeHd base c0 T->FnOk Œ w Ĥ mg base CX0 12 fa fd ["_law_script"] (spLaw9 Ĥ T)):
  W.WalkO q loose XP YP l.row.toRowW d [] (λf vs=>PySem.call f vs) :=
 Lake.BD (n:=63) (k:=12) (x:="_law_script") (tabs:=λ_=>[Ř]) (sp:=λw=>spLaw9 Ĥ T) hn ⋯ hdf #[rfl,⋯,⋯] hY (λw h y t htm=>by rw[Zh.mp htm];exact ht w h y) nt
  (λw mg fa h k g e=>let⟨fd,b,r⟩:=F w mg fa h k g e;#[fd,b,λbase k2 g2 bl cs=>r base k2 g2 bl (cs _ Ń)]) (λw H a ns hl hT hS=>#[a,ns,rfl,hS,hl,hT _ Ń,λ_=>rfl])
end
end Lake.K39
end
namespace PySem.W.Fast
def tw1088147909598691325:=()
def tw14407306752168985278:=()
def tw2879043797042117829:=()
def tw16045575041850787211:=()
def tw9202598152495974709:=()
def tw17847682682999391039:=()
def tw327651193128526790:=()
def tw2159305410060652699:=()
def tw5297849069960002101:=()
def tw13535392589786084566:=()
def tw5381680997727595912:=()
def tw11034787867085156870:=()
def tw14848842382765311000:=()
def tw7299132337972649697:=()
def tw14631045497447159339:=()
def tw13183389504994354238:=()
def tw3754849047231322010:=()
def tw2095405485292222734:=()
def tw2436841471717213983:=()
def tw1257770090991247851:=()
def tw8108636537367483944:=()
def tw9268804656467238933:=()
def tw18347415925028425391:=()
def tw3736504240952748977:=()
def tw8935471375658025618:=()
def tw3100639720259295287:=()
def tw14064081029519967546:=()
def tw10107791003090999159:=()
def tw10933240821528272582:=()
def tw4612779923977277298:=()
def tw16674728780729794551:=()
def tw15501480554823987491:=()
def tw2974399917320364265:=()
def tw13366694232343642229:=()
def tw14645444997853409388:=()
def tw1291820060350101440:=()
def tw3128590827869982511:=()
def tw7953837327746565956:=()
def tw5523904510973931119:=()
def tw5704445575596201303:=()
def tw3328541926938682944:=()
def tw6981971575791089870:=()
def tw12494878294110971984:=()
def tw2189717410788750193:=()
def tw14470320098124730130:=()
def tw3767218017558948791:=()
def tw18081124876523912766:=()
def tw17977145539683706517:=()
def tw13767398646042056102:=()
def tw10568302946808941678:=()
def tw5418005254839051509:=()
def tw4093245070111874097:=()
def tw15107263484739340114:=()
def tw7004900975852910983:=()
def tw3670000295958779493:=()
def tw8202848871940366407:=()
def tw1684762716859830601:=()
def tw9436712418114607716:=()
def tw16514859468092448991:=()
def tw14610992594996361088:=()
def tw9651719081708933295:=()
def tw16912878356626663114:=()
def tw18241338598673750088:=()
def tw5790304292880132321:=()
def tw3034296101310267362:=()
def tw7418455305264169604:=()
def tw17899062788101332631:=()
def tw2362655440432155185:=()
def tw6775341649779831185:=()
def tw14735973895093102989:=()
def tw12159416212915686987:=()
def tw11472256546168762270:=()
def tw3253748413442698201:=()
def tw17588434247773969524:=()
def tw10774822657395632599:=()
def tw5488165347643949471:=()
def tw14688590188752752295:=()
def tw11353686963371157879:=()
def tw13723499078214341640:=()
def tw2364599015454274550:=()
def tw13813654340990132541:=()
def tw3196029528786243824:=()
def tw16310751115042858426:=()
def tw163394054873768459:=()
def tw4425438148458554453:=()
def tw18366829450616203655:=()
def tw2430972875409099793:=()
def tw3807905918050963426:=()
def tw2471126176241827075:=()
def tw9173281935519298728:=()
def tw16484336424475785912:=()
def tw15510443486060947801:=()
def tw7078003069164867056:=()
def tw9747565217560759247:=()
def tw99731461712018306:=()
def tw13799823338107269538:=()
def tw4397099112374730365:=()
def tw9697126290951226552:=()
def tw1965113597843245922:=()
def tw16032295857956961823:=()
def tw7650573579719917015:=()
def tw1120118387824042515:=()
def tw5458771585445644194:=()
def tw13672115384692328091:=()
def tw3267804153238332417:=()
def tw16471059163038644402:=()
def tw11569924301503061271:=()
def tw598772313065967348:=()
def tw13303333204219203919:=()
def tw15671428634832254543:=()
def tw14205669023350688215:=()
def tw12202947246148954197:=()
def tw3032780651678206272:=()
def tw16424352532064281117:=()
def tw5877398024555486446:=()
def tw9969162930116314868:=()
def tw17105879287926577709:=()
def tw14910587125055825982:=()
def tw12894762199287949237:=()
def tw1112615734259921608:=()
def tw3968679758446777843:=()
def tw14161116066693434829:=()
def tw12151308536753715455:=()
def tw15987392810871588030:=()
def tw3141772051487449070:=()
def tw10524488099900683840:=()
def tw3749492529523106074:=()
def tw5696360456371175091:=()
def tw13709187841593177566:=()
def tw13237172765302481784:=()
def tw12538759203298676647:=()
def tw11988393182879267176:=()
def tw18082924432026078966:=()
def tw4315441460502006913:=()
def tw6884504615604390039:=()
def tw2368196625684170233:=()
def tw9991542177724865796:=()
def tw12722550600766434083:=()
def tw5980384053662988020:=()
def tw15433395498834334858:=()
def tw1538258989130801985:=()
def tw15900006720840380897:=()
def tw12196510242224615566:=()
def tw4404046827644654123:=()
def tw15921909037125208515:=()
def tw14181324405283879831:=()
def tw15668513960898383809:=()
def tw9903741581030705711:=()
def tw2527825729499078658:=()
def tw9166783040009788935:=()
def tw9089828450479948645:=()
def tw9482580621809775271:=()
def tw9490543173731204023:=()
def tw7095387661877692616:=()
def tw16143904254255727169:=()
def tw17454689508877610894:=()
def tw11492199583809740515:=()
def tw13439614145231623741:=()
def tw593130501452336271:=()
def tw3586060436641971610:=()
def tw10409923468976292757:=()
def tw8286563081020425809:=()
def tw12383116128444532190:=()
def tw5640675785402150817:=()
def tw15112384337635929286:=()
def tw362659631882409258:=()
def tw9186273360352100540:=()
def tw1742623158018183738:=()
def tw10049798401834343846:=()
def tw16585380912701441715:=()
def tw4541942847092042372:=()
def tw13014734904815668415:=()
def tw3503045747652816052:=()
def tw5914196674883165312:=()
def tw5357349920936381852:=()
def tw17030986637046913449:=()
def tw16262065544809097207:=()
def tw11931807056097313298:=()
def tw15334117366344240276:=()
def tw13054335276232264088:=()
def tw12146168888527590101:=()
def tw8972729682057730294:=()
def tw8139373737689138750:=()
def tw14607994181065240765:=()
def tw11113425734263147161:=()
def tw4008756157461558489:=()
def tw10509529892369356523:=()
def tw13246521094121122888:=()
def tw1957109304605001165:=()
def tw4280163094165615305:=()
def tw16606378063388313388:=()
def tw10629966225355936632:=()
def tw14524133982541175947:=()
def tw12742680562339362439:=()
def tw1701673217696601694:=()
def tw14125354124567021468:=()
def tw12614721337755827842:=()
def tw17283699158845612880:=()
def tw14031809324968639878:=()
def tw11459451343803034823:=()
def tw17669770509455354531:=()
def tw4998364628602710603:=()
def tw4924068895939671564:=()
def tw2924180768819009170:=()
def tw14645382936027137720:=()
def tw16205306115048316050:=()
def tw17924455799704928847:=()
def tw8575554821427616647:=()
def tw16023271423313273595:=()
def tw8118160512695853071:=()
def tw5799528679071543619:=()
def tw10864032344799269398:=()
def tw16593357889882018692:=()
def tw6706710650141708828:=()
def tw12464063211213555039:=()
def tw10010580372180977466:=()
def tw2541992459170535692:=()
def tw7107928305563577212:=()
def tw2353299682793646763:=()
def tw17783557520881513537:=()
def tw2540230497731652506:=()
def tw11306874965834922511:=()
def tw17167658779069451287:=()
def tw12392253331114215817:=()
def tw12528859122991940044:=()
def tw8474859558682623490:=()
def tw18341055914106889862:=()
def tw14952178653526977488:=()
def tw17208277406721073256:=()
def tw7472394619480929544:=()
def tw13655975230233935498:=()
def tw2658551870198677305:=()
def tw8904887810068674722:=()
def tw11942575926118223548:=()
def tw15738884415590165422:=()
def tw3176918223080280022:=()
def tw1450324346174877679:=()
def tw17366232790355570305:=()
def tw15301949000642876520:=()
def tw13536266547142147843:=()
def tw6880025273434026803:=()
def tw1545151012074449365:=()
def tw6967229760456844607:=()
def tw11461598087130397949:=()
def tw6776126901852261471:=()
def tw3783661010234385835:=()
def tw5606734411660576785:=()
def tw12219040216379657797:=()
def tw1043776628822428312:=()
def tw16574191012472408527:=()
def tw12317371964232726456:=()
def tw12977766353653658519:=()
def tw2821844850771178314:=()
def tw128476305553751094:=()
def tw5455832480009788781:=()
def tw3961294979415777925:=()
def tw2583351036677736343:=()
def tw12437994078758363444:=()
def tw7684301234904060306:=()
def tw9501983017312185394:=()
def tw12640083659796932019:=()
def tw14642600737562676543:=()
def tw16911403356683261862:=()
def tw9505859339324545843:=()
def tw4378453311077768369:=()
def tw17954268198700293189:=()
def tw11097350273958421084:=()
def tw3150168733446965064:=()
def tw5770640799650358838:=()
def tw152908710408162624:=()
def tw15443863448952268945:=()
def tw8030307068010371158:=()
def tw6526852833314536023:=()
def tw16978146506903920837:=()
def tw12618159168879614848:=()
def tw3991245751406862273:=()
def tw1814052081612230618:=()
def tw7311469109801008362:=()
end PySem.W.Fast
open PySem PySem.W PyProof.Rows
set_option maxRecDepth 100000 in
set_option maxHeartbeats 0 in
theorem PySem.Challenge.cw_limb_k39_whole_none_is_lost_holds : PySem.Challenge.rw_limb_k39_whole_none_is_lost.Holds := by
  w_on; o_law; k_head; (case hw => w_witness2)
  k_fill
  refine' Lake.K39.M6 (l := PySem.Challenge.rw_limb_k39_whole_none_is_lost) rfl rfl (λw h Y => W.km_in_of Y) ?tb ?ht ?nt ?F
  case tb => intro w; with_unfolding_all rfl
  case ht => intro w h Y; exact ⟨codeHd_of_K (km_in_of Y) (by kernel_rfl), km_tabs_of Y _ (by k_mem)⟩
  case nt => intro w; kernel_rfl
  case F =>
    intro w mg fa h KX G hmg
    refine' Lake.K39.Jt KX G hmg ?NA ?NC ?ND ?NE ?NF ?NG ?NH ?M7 ?M8 ?Nu ?NI ?Nj ?N8 ?M9 ?zF ?zM ?zN ?N9 ?On ?NX ?Na ?t_STEP_PARTS ?l8 ?t_FIRST_CHANGED ?Nv ?Nw ?if_NoItem ?NJ ?NK ?Nk ?Nl ?Ob ?Oc ?e6 ?aN ?s1 ?s2 ?tb1 ?nb ?nf ?fb
    (case NA => k_is)
    (case NC => k_is)
    (case ND => k_is)
    (case NE => k_is)
    (case NF => k_is)
    (case NG => k_is)
    (case NH => k_is)
    (case M7 => k_is)
    (case M8 => k_is)
    (case Nu => k_is)
    (case NI => k_is)
    (case Nj => k_is)
    (case N8 => k_is)
    (case M9 => k_is)
    (case zF => (repeat refine Lake.K39.gf (by k_is) (by k_is) (by k_is) (by k_is) ?_); exact True.intro)
    (case zM => (repeat refine Lake.K39.gm (by k_is) (by k_is) (by k_is) (by k_is) (by k_is) ?_); exact True.intro)
    (case zN => (repeat refine Lake.K39.gn (by k_is) ?_); exact True.intro)
    (case N9 => k_is)
    (case On => k_is)
    (case NX => k_is)
    (case Na => k_is)
    (case t_STEP_PARTS => rfl)
    (case l8 => k_is)
    (case t_FIRST_CHANGED => rfl)
    (case Nv => exact ⟨_, _, _, _, _, _, _, _, rfl, rfl, rfl, by kernel_rfl, by kernel_rfl, by first | kernel_rfl | k_is⟩)
    (case Nw => exact ⟨_, _, _, _, rfl, rfl⟩)
    (case if_NoItem => exact ⟨_, rfl, rfl⟩)
    (case NJ => exact ⟨_, _, _, _, _, _, _, _, rfl, rfl, rfl, by kernel_rfl, by kernel_rfl, by first | kernel_rfl | k_is⟩)
    (case NK => exact ⟨_, _, _, _, rfl, rfl⟩)
    (case Nk => exact ⟨_, _, _, _, _, _, _, _, rfl, rfl, rfl, by kernel_rfl, by kernel_rfl, by first | kernel_rfl | k_is⟩)
    (case Nl => exact ⟨_, _, _, _, rfl, rfl⟩)
    (case Ob => exact ⟨_, _, _, _, _, _, _, _, rfl, rfl, rfl, by kernel_rfl, by kernel_rfl, by first | kernel_rfl | k_is⟩)
    (case Oc => exact ⟨_, _, _, _, rfl, rfl⟩)
    (case e6 => k_is)
    (case aN => k_is)
    (case s1 => k_is)
    (case s2 => rfl)
    (case tb1 => with_unfolding_all rfl)
    (case nb => rfl)
    (case nf => rfl)
    (case fb => rfl)
