import PyProof.Rows.All
import Wide.All
import OpenK.AllK
import Wide.FinOn
import PyProof.EqAt
import PyProof.EqKinds
import PyProof.TupleCall
import Lean
import PySem.Challenge.RW_limb_k40_whole_history_plays
set_option linter.all false
open PySem renaming wpAny_bind→z9,wpAny_pure→Zb,wpAny_newObj_type→ZS,wpAny_holding→ZU,wpAny_mono→ZX,wpAny_field→ZY,wpAny_call_entry→ZZ,wpAny_callSpecial?_slot→Z4,wpAny_setField_rec→Yf,mem_of_lookup→Yj,wpAny_dictEntries→Yk,boot_len→Yu,wpAny_dictEpoch→Yx,wpAny_rule→YF,wpAny_setField→YN,wpAny_typeNameOfWhole_itemiter→YR,wpAny_loadPart_at→YT,wpAny_attempt→YV,wpAny_typeNameOfWhole_keyiter→YW,wpAny_seqItems→YY,wpAny_Call_Name_kw→Y0
open PySem.Heap renaming get?_push_of_some→Za,get?_push_size→Zm,lt_size→Zs,get?_update_other→y9,get?_update_self→Yc,get?_none_of_le→YO
open List renaming length_map→Zd,getElem?_eq_getElem→Zf,mem_cons→Zg,length_append→Zh,mem_singleton→Zi,mem_cons_of_mem→Zj,length_cons→Zk,size_toArray→Zl,map_cons→Zn,mem_cons_self→Zq,mem_map→Zu,getElem?_map→Zx,getElem?_eq_some_iff→Zz,map_append→ZA,not_mem_nil→ZB,mem_append→ZC,append_nil→ZD,mem_filter→ZF,getD_eq_getElem?_getD→ZG,take_length→ZI,length_filter_le→ZJ,getElem_mem→ZL,mem_append_right→ZP,mem_iff_getElem?→ZV,lookup_cons→ZW,mem_of_getElem?→Z2,nodup_cons→Z3,mem_filterMap→Z5,filterMap_cons→Z6,map_map→Z7,length_nil→Z8,length_take→y7,filter_append→Yq,getElem?_append_right→Yr,take_of_length_le→Yt,length_reverse→Yv,length_set→Yw,drop_eq_getElem_cons→Yy,length_singleton→Yz,reverse_cons→YG,filter_sublist→YI,length_drop→YL,all_eq_true→YM,length_filterMap_le→YQ,all_cons→YU,replicate_succ→YX,zip_cons_cons→Y1,contains_cons→Y2,of_mem_zip→Y4,length_replicate→Y5,filterMap_append→Y6,any_cons→Y7,append_assoc→Y8,pairwise_map→x9
open Nat renaming le_refl→Ze,le_trans→Zr,ne_of_lt→Zy,lt_of_lt_of_le→ZE,zero_le→ZH,succ_le_succ→ZT,ne_of_gt→Yb,lt_or_ge→YB,le_add_right→YC,lt_irrefl→YD,le_succ→YE,lt_succ_self→YK
open Option.some renaming inj→Zo,injEq→x8
open Bool renaming false_ne_true→Zt,and_eq_true→ZN,eq_false_iff→Y9
open Option renaming isSome_iff_exists→Zv,map_eq_some_iff→ZK
open PySem.Paired renaming length→Zw,snoc→Ys
open Array renaming length_toList→ZM,getElem?_eq_getElem→y8,getD_eq_getD_getElem?→Yp,getElem?_toList→YA,getElem?_eq_some_iff→YJ
open Ne renaming symm→ZQ
open PySem.PassesOwn renaming never→Z0
open PySem.Heap.SameBut renaming update→Z1
open Int renaming emod_nonneg→Ya,emod_lt_of_pos→Yg,toNat_natCast→YS
open PyProof.Rows renaming slot_tuple_getitem→Ye,callWith_type1→YH
open PySem.F renaming slot_dict_itemiterator_next→Yh,slot_dict_keyiterator_next→Yl
open PySem.W renaming mg_of→Ym,kia_one→Yn
open PySem.Obj renaming data_mapFields→Yo
open PySem.Calls renaming callWith_builtin→YZ
def Pb:=@if_pos
def Pa:=@if_neg
def ZO:=@congrArg
def Z9:=@or_false
def y0:=@beq_iff_eq
def Yd:=@of_decide_eq_true
def Yi:=@beq_eq_false_iff_ne
def Y3:=@of_decide_eq_false
set_option Elab.async false
set_option compiler.extract_closed false
set_option maxRecDepth 100000
set_option maxHeartbeats 2000000
local macro_rules | `(tactic| omega) => `(tactic| first | with_reducible first | assumption | exact Nat.le_of_lt (by assumption) | exact Nat.le_refl _ | exact Nat.lt_add_one _ | exact Nat.le_trans (by assumption) (by decide) | exact Nat.lt_of_lt_of_le (by assumption) (by decide) | exact Nat.sub_lt_sub_left (by assumption) (Nat.lt_add_one _) | exact Nat.le_antisymm (by assumption) (Nat.le_of_not_lt (by assumption)) | lia)
local macro_rules | `(tactic| decide) => `(tactic| decide +kernel)
abbrev Pc:=List (PySem.Addr×PySem.Obj)
abbrev Pd:=PySem.Value->PySem.Shared->Prop
abbrev Pe:=PySem.Str->Option PySem.Value
abbrev Pf:=List PySem.Value
abbrev Pg:=PySem.Addr
abbrev Ph:=PySem.Shared
abbrev Pi:=PySem.Value
abbrev Pj:=PySem.Program
abbrev Pk:=PySem.World
abbrev Pl:=PySem.Around
abbrev Pm:=PySem.FuncData
abbrev Pn:=List Int
abbrev Po:=Array Nat
abbrev Pp:=Nat->Nat->Bool
abbrev Pq:=PySem.Expr
noncomputable section
set_option hygiene false
set_option linter.defProp false
abbrev Qa:=@PySem.W.Frag
abbrev Qb:=@PySem.PyData
local macro_rules|`(tactic|ext $g:ident $A:ident $y:ident $z:ident)=>`(tactic|(generalize hA:upd _ _ _=$A;have $y:ident:=nu1 $g hA;have $z:ident:=nu2 hA;clear hA))
local macro_rules | `(⋯) => `(by decide)
local macro_rules | `(∅) => `(by omega)
local macro_rules | `(#[$xs,*]) => do if xs.getElems.isEmpty then Lean.Macro.throwUnsupported else `(⟨$xs,*⟩)
local macro_rules | `(↑$x:ident) => `($x P w K mg base)
local macro_rules | `(↑$x:num) => `(q_v $x)
local macro_rules | `(↑99) => `((hr.mono (by decide)))
local macro_rules | `(~~~$x:num) => `(⟨rfl,rfl,rfl,by decide,rfl,by decide,by decide⟩)
local macro_rules | `(tactic| exists 0, $x) => `(tactic| refine F.okQ $x (fun vs H Q E h=>?_) (fun cdv A outer s H vs Q E hr h=>?_))
local macro_rules | `(tactic| exists $x) => `(tactic| (refine F.okQ $x (fun vs H Q E h=>?_) (fun cdv A outer s H vs Q E hr h=>?_);(first|(· cases h;subst_vars;rfl)|(· repeat(first|(obtain⟨rfl,_⟩:=h;rfl)|obtain⟨_,h⟩:=h)))))
local macro_rules | `(tactic| exists _, $y) => `(tactic| (refine ⟨_,$y,?_⟩;try rw [cxK]))
local macro_rules | `(tactic| exists [$xs,*], $e) => do
  let ps ← xs.getElems.mapM fun x => match x with
    | `($i:ident) => `(Lean.Parser.Tactic.rcasesPatLo| $i:ident)
    | `(_) => `(Lean.Parser.Tactic.rcasesPatLo| _)
    | _ => Lean.Macro.throwUnsupported
  `(tactic| obtain ⟨$ps,*⟩ := $e)
local macro_rules|`(mutual $c* end)=>do
 let a:=c[0]!.raw;let e ←`(command|end);let q ←`(noncomputable def x:=0);let z:=Lean.mkIdent `z_
 if a.isOfKind ``Lean.Parser.Command.check then
  let f (u:Array Lean.Syntax)(s:Lean.Syntax):=s.rewriteBottomUp fun s=>match s.setInfo .none with
   | .ident _ w _ _=>if w.bsize=2 then let n:=(w.str.get w.startPos).toNat;if n<192 then s.setInfo .none else u.getD (n-192) s else s.setInfo .none
   | s=>if s.isOfKind ``Lean.Parser.Term.basicFun then s.modifyArg 0 fun s=>s.setArgs (s.getArgs.map fun s=>if s.isOfKind ``Lean.Parser.Term.hole then z else s) else s
  let v:=a[1][1].getSepArgs.foldl (fun v x=>v.push (f v x)) #[]
  return Lean.mkNullNode ((c.extract 1 c.size).map fun x=>if x.raw.isOfKind ``Lean.Parser.Command.check then e else
   let y:=f v x.raw;let k:=y[1].getKind
   if k= ``Lean.Parser.Command.definition||k= ``Lean.Parser.Command.abbrev then y.setArg 0 (y[0].setArg 4 q.raw[0][4]) else y)
 else Lean.Macro.throwUnsupported
set_option tactic.hygienic false
set_option bootstrap.genMatcherCode false
namespace Lake
open PySem PySem.Spec PyProof.Rows
mutual
#check#[(model X.prog X.w),(Inv X Pr Z H s),(bj I q (by simp)),(∀b∈ch,(b∈X.ex\/X.s₀.heap.objs.size<=b)/\b≠X.env.locals/\(∀x c,X.env.cells.lookup x=some c->c≠b)/\∀p∈X.pn++Pr,p.1≠b),(List.toArray [.int lo t,.int hi u,.int 1 v]),X.env.locals,X.env,(∀b u,h.get? b=some u->h'.get? b=some u),(.inl rfl),xs.length,X.s₀.heap.objs.size,(ha Pr s Z H _ I h),(x==("__debug__":Str)),(Zy (ZE (Zs e) (I.ok.cab x c hfn hc))),s.heap.objs.size,(by simp),s.heap,(ZE (Zs e) I.ok.above),h.objs.size,(EP X Pr Z Q),(.tup xs),X.xe,(he Pr s Z H _ I h),0,(I.base.keep b o e n hb hx),(thn (hc Pr s Z H _ I h) λd s1 ⟨H1,I1,q1⟩=>?_),(∀σ' H',N σ' H'->∃m',m'<m/\W (i+1) m' σ' H'),(Bool->Hp->Prop),(X.N[i]?=some x),(Pi->Pi->Sem Pi),(g i j),(λ_ s'=>∃σ' H',Inv X Pr σ' H' s'/\Q σ' H'),X.env.scope,(f (.int i t) (.int j u)),X.prog,(by rw[I.ok.glob];exact I.mod.glob.keeps I.bk),(HOk P w H h),(∀b u,b≠e->h.get? b=some u->h'.get? b=some u),(I.base.free b o e n hx),(.Name x pos),(∀b u,s.heap.get? b=some u->h'.get? b=some u),(∀b∈fp,cE X Pr H b),(λz=>hc (by simp[z])),(List V),(e=x\/H e=some (.own x)),(Nat),(∀b∈fp,H' b=none),(∃u,h'.get? e=some u),s.toks,s.heap.push,(thn (ha Pr s Z H Q I h) λc s1 e=>?_),X.stack,(neC b o e hx),(upd H a o),(PE X a ta),0,X.A,(.ref it),(thn Ë λc s1 ⟨H1,I1,q1⟩=>?_),(St->Hp->Prop),(Z.set i (some v)),(.frz o u),s1.heap.objs.size,(It->Hp->Prop),(∀b xs,H b=some Ô->H' b=some Ô),(hm b _ q λz=>z),(I.ok.hd hc),((0:í):Int),(W.methodObj (.ref f) (.ref y)),(.BoolOp .And (a::b::rest) pos),(Heap),X.base,X.env.scope.kind,X.fs,(List V->Hp->Prop),its.toArray,(aj q hn),(HOk â X.w H' h'),(PT X a tA),(model P w),(.BoolOp .And (b::rest) pos),X.outer,(Sum.inl a:Key),(Sum.inr a:Key),(I.freeC x c e),(List (Option V)),its.toList,(List Pg),(letOwnedTupleGo tg ù u),(λb o hb e=>eb b o hb e),(((hi-lo).toNat:Nat):Int),(Unit->Ph->Prop),X.N.Nodup,(thn Ë λv s1 hz9=>?_),(thn Ö λv s1 hz9=>?_),(ZP _ (ZP _ (jI hb e))),o.data,(PE X e te),(.UnaryOp .Not a pos),(I1.hok.fresh (Ze _)),(intBits_le_64 h1 h2),(.Subscript o i pos),(bootBuiltins x=some u),(PassesOwn À ø Æ Õ),(upd H x o),(.own a),(h Pr s Z H Q I hw),(h Pr s Z H _ I hw),(by rw[z];exact hb),(Int),(Loc à x),(RelV v u),X.calm,(.int i t),(λ_ q=>q),(X.wish E),(.tbl (ps++more)),(I.ok.noex b o e),(PIE X Pr Z tg R),(H a=some o),(YD _),(List Key×Pg×Pi),(λq=>nomatch q),(ObjOk P w H h a o),(trk h H),(a==sysModules),(Mut (H x)),(PE X b tb),X.ex,pos.line,p.isList,(h.get? b=some o),(Nat->Heap->Prop),(V->Hp->VK->Prop),X.env.globals,(some v),(.int i),0,(.str x),(fs.lookup f),(I.cne x c e),(TP X Pr Z Q),(RelV x u),(H b=none),(Gl X x),(SqL X.K H a xs),(i+1),(b,o),(Int->Int->Prop),(upd H x o'),(eval ç Æ),(.int Þ ð),(X.mg x=some u),(PC X op a b t),(PSs X body tb),(Int->Int->Int),(Zy Ñ),(f v u),(neL b o e),(cne y c e),(eval e Æ),(SP X Pr D),(eval a Æ),(eval b Æ),(pyNext ù),(Str),kvs.length,X.K,s.gens,X.w,(g i),(.str x t),(stat fr3),(X.mg x=none),(Int->Int->V),ok.frames,rv.length,(2^62),(i==j),(.tbl ps),(.lst xs),(Itl K a),(Tok),(AllBare g'),(Pi->Sem Pi),ob.slots,X.Ok,o.cls,its.size,r.length,ok.above]
abbrev Key:=Sum Int Str
def pZ:Key->Pi->Bool
 |.inl k,v=>Value.isInt k v
 |.inr x,v=>Value.isStrOf x v
def Np(w:Pk):Key->Int
 |.inl k=>hashInt k
 |.inr x=>hashStr w x
theorem cX:∀{k:Key} {v:Pi},pZ k v=true->(∃i t,k=Sum.inl i/\v=Value.int i t)\/(∃x t,k=Sum.inr x/\v=Value.str x t)
 |.inl i,v,h=>by exists[t,e],Value.isInt_shape (k:=i) (v:=v) h;exact .inl #[i,t,rfl,e]
 |.inr x,v,h=>by exists[t,e],Value.isStrOf_shape (x:=x) (v:=v) h;exact .inr #[x,t,rfl,e]
theorem CT(i:ĭ)(t:Ŷ):pZ (.inl i) ı=true:=by simp[pZ,Value.isInt]
theorem CU(x:ť)(t:Ŷ):pZ (.inr x) ū=true:=by simp[pZ,Value.isStrOf]
theorem Kn(a b:ĭ):decide (Ē=Sum.inl b)=(a==b):=by
 by_cases e:a=b
 .subst e;simp
 .have h:¬Ē=Sum.inl b:=λq=>e (Sum.inl.inj q);rw[decide_eq_false h];exact(Yi.mpr e).symm
theorem Kq(a b:ť):decide (ē=Sum.inr b)=decide (a=b):=by
 by_cases e:a=b
 .subst e;simp
 .have h:¬ē=Sum.inr b:=λq=>e (Sum.inr.inj q);rw[decide_eq_false h,decide_eq_false e]
theorem Ko(a:ĭ)(b:ť):decide (Ē=Sum.inr b)=false:=decide_eq_false ĺ
theorem Kp(a:ť)(b:ĭ):decide (ē=Sum.inl b)=false:=decide_eq_false ĺ
def bu(prog:Pj)(w:Pk):PySem.KeyKind prog w Key where
 is:=pZ
 hash:=Np w
 inj:=λv a b ha hb=>by
  rcases cX ha with⟨i,t,rfl,rfl⟩|⟨x,t,rfl,rfl⟩
  .rcases cX hb with⟨j,u,rfl,e⟩|⟨y,u,rfl,e⟩
   .injection e with e1 _;rw[e1]
   .exact nomatch e
  .rcases cX hb with⟨j,u,rfl,e⟩|⟨y,u,rfl,e⟩
   .exact nomatch e
   .injection e with e1 _;rw[e1]
 byValue:=λk v h=>by rcases cX h with⟨i,t,rfl,rfl⟩|⟨x,t,rfl,rfl⟩<;>rfl
 pyHash:=λhv h=>by
  rcases cX hv with⟨i,t,rfl,rfl⟩|⟨x,t,rfl,rfl⟩
  .exact wpAny_pyHash_int h
  .exact wpAny_pyHash_str h
 eqBool:=λhu hv h=>by
  rcases cX hu with⟨i,t,rfl,rfl⟩|⟨x,t,rfl,rfl⟩
  .rcases cX hv with⟨j,u,rfl,rfl⟩|⟨y,u,rfl,rfl⟩
   .rw[Kn]at h;exact wpAny_eqBool_int h
   .rw[Ko]at h;exact SeqAt.EqAt.int_str i t y u _ _ _ _ h
  .rcases cX hv with⟨j,u,rfl,rfl⟩|⟨y,u,rfl,rfl⟩
   .rw[Kp]at h;exact SeqAt.EqAt.str_int x t j u _ _ _ _ h
   .rw[Kq]at h;exact wpAny_eqBool_str h
 «strs»:=λk x t v h=>by
  rcases cX h with⟨i,u,rfl,e⟩|⟨y,u,rfl,e⟩
  .exact nomatch e
  .injection e with e1 _;subst e1;cases v<;>rfl
theorem yW(prog:Pj)(w:Pk)(i:ĭ)(t:Ŷ):(bu prog w).is (.inl i) ı=true:=CT i t
theorem yX(prog:Pj)(w:Pk)(x:ť)(t:Ŷ):(bu prog w).is (.inr x) ū=true:=CU x t
inductive V where
 |non|bl (b:Bool)|int (i:Int)|str (x:Str)|byt (b:Array UInt8)|flt (b:UInt64)|ref (a:Pg)|ty (n:String)
 deriving DecidableEq
def RelV:V->Pi->Prop
 |.non,u=>u=Value.none
 |.bl b,u=>u=Value.bool b
 |.int i,u=>∃t,u=Value.int i t
 |.str x,u=>∃t,u=Value.str x t
 |.byt b,u=>∃t,u=Value.bytes b t
 |.flt b,u=>∃t,u=Value.float b t
 |.ref a,u=>u=Value.ref a
 |.ty n,u=>u=Value.type n
abbrev Vals:List V->Pf->Prop:=Paired RelV
theorem Vals.length(r:Vals xs us):É=us.length:=Zw r
theorem Vals.get:∀{xs:ë} {us:Pf} {i:í} {x:V},Vals xs us->xs[i]?=some x->∃u,us[i]?=some u/\RelV x u
 |_,_,_,_,.nil,e=>by simp at e
 |_,_,0,_,.cons r _,e=>by simp at e;subst e;exact#[_,rfl,r]
 |_,_,i+1,x,.cons _ t,e=>by exists[u,h1,h2],Vals.get (i:=i) (x:=x) t (by simpa using e);exact#[u,by simpa using h1,h2]
theorem Vals.set(r:Ŏ):∀{xs:ë} {us:Pf} (i:í),Vals xs us->Vals (xs.set i x) (us.set i u)
 |_,_,_,.nil=>.nil
 |_,_,0,.cons _ t=>.cons r t
 |_,_,i+1,.cons q t=>.cons q (Vals.set r i t)
theorem Vals.append:∀{xs ys:ë} {us ws:Pf},Vals xs us->Vals ys ws->Vals (xs++ys) (us++ws)
 |_,_,_,_,.nil,s=>s
 |_,_,_,_,.cons r t,s=>.cons r (Vals.append t s)
theorem Vals.take:∀{xs:ë} {us:Pf} (n:í),Vals xs us->Vals (xs.take n) (us.take n)
 |_,_,0,_=>.nil
 |_,_,_+1,.nil=>.nil
 |_,_,n+1,.cons r t=>.cons r (Vals.take n t)
theorem Vals.drop:∀{xs:ë} {us:Pf} (n:í),Vals xs us->Vals (xs.drop n) (us.drop n)
 |_,_,0,r=>r
 |_,_,_+1,.nil=>.nil
 |_,_,n+1,.cons _ t=>Vals.drop n t
def RelO:Option V->Option Pi->Prop
 |some v,some u=>RelV v u
 |none,none=>True
 |_,_=>False
def KV{κ:Type}:List (κ×V)->List (κ×Pi)->Prop:=Paired fun(p:κ×V) (q:κ×Pi)=>p.1=q.1/\RelV p.2 q.2
def kV:Key->V
 |.inl i=>.int i
 |.inr x=>.str x
inductive HO where
 |lst (xs:List V)
 |tup (xs:List V)
 |dK (kvs:List (Key×V))|dT (kvs:List (List Key×V))
 |set (S:Int->Bool)(n:Nat)
 |ins (C dx:Pg)(fs:List (Str×V))
 |own (x:Pg)
 |xd (fs:List (Str×V))
 |met (f x:Pg)
 |rng (lo hi:Int)
 |frz (o:Obj)(u:HO)
 |tbl (ps:Array Pi)
 |ext (φ:Heap->Prop)
abbrev Hp:=Pg->Option HO
def upd(H:Hp)(a:Pg)(o:HO):Hp:=λb=>if b=a then some o else H b
theorem ac:upd H a o a=some o:=by unfold upd;rw[Pb rfl]
theorem af(h:b≠a):upd H a o b=H b:=by unfold upd;rw[Pa h]
theorem dI{H:Hp}(h:ķ)(h':H b=some u)(d:o≠u):a≠b:=by intro e;subst e;rw[h]at h';exact d (Zo h')
theorem aj{H:Hp}(h:ķ)(h':ŏ):a≠b:=by intro e;subst e;rw[h]at h';cases h'
section
variable(P:Pj)(w:Pk)
def ObjOk(H:Hp)(h:Ć)(a:Pg):HO->Prop
 |.lst xs=>É<=sizeLine/\∃(its:Pf) (n:í),Vals xs its/\h.get? a=some { cls:=.type "list",data:=.seq ċ n }
 |.tup xs=>É<=sizeLine/\∃its:Pf,Vals xs its/\IsTup h a ċ
 |.dK kvs=>Ŧ<=sizeLine/\Ľ=false/\∃vs,KV kvs vs/\h.DictOf (bu P w) a vs
 |.dT kvs=>Ŧ<=sizeLine/\Ľ=false/\∃xs:List Ĺ,
   Paired (fun(p:List Key×V) (q:Ĺ)=>p.1=q.1/\H q.2.1=some (.tup (p.1.map kV))/\RelV p.2 q.2.2) kvs xs /\
   ∃o es ep,h.get? a=some o/\o.ExactDict/\Ġ=.dict es ep/\es.toList=xs.map (entryOfKey (tupleKind (bu P w)))/\(xs.map (·.1)).Nodup
 |.set S n=>h.SetOf (intKind P w) a S n
 |.ins C dx fs=>H dx=some ĩ/\fs.length<=1000/\dx≠a/\h.get? a=some (W.instObj C dx) /\
   ∃mA,h.Ns1 dx mA/\(∀f,RelO ŋ (mA f))/\PySem.Within mA (fs.map (·.1))
 |.own _=>∃o,h.get? a=some o
 |.xd fs=>∃mA,h.Ns1 a mA/\∀f,RelO ŋ (mA f)
 |.rng lo hi=>∃t u v,h.get? a=some { cls:=.type "range",data:=.fields Ä }
 |.frz o u=>h.get? a=some o/\ObjOk H h a u
 |.tbl ps=>h.get? a=some { cls:=.none,data:=.fields ps }
 |.met f x=>h.get? a=some (W.methodObj (.ref f) (.ref x))
 |.ext φ=>φ h/\(∃o,h.get? a=some o)/\∀h1 h2:Heap,φ h1->(∀o,h1.get? a=some o->h2.get? a=some o)->φ h2
def HOk(H:Hp)(h:Ć):Prop:=∀a o,H a=some o->ObjOk P w H h a o
#check 0
section
variable{H':Hp}{h':Ć}{a:Pg}
theorem ObjOk.lt(x:Ļ):a<Ò:=by
 cases o with
 |lst xs=>exists[_,_,_,_,e],x;exact Zs e
 |tup xs=>exists[_,_,_,p],x;exact p.lt
 |dK kvs=>exists[_,_,_,_,o,_,_,e,_],x;exact Zs e
 |dT kvs=>exists[_,_,_,_,o,_,_,e,_],x;exact Zs e
 |set S n=>exists[o,_,_,_,e,_],x;exact Zs e
 |ins C dx fs=>exists[_,_,_,e,_],x;exact Zs e
 |own y=>exists[_,e],x;exact Zs e
 |xd fs=>obtain⟨_,⟨_,_,_,e,_⟩,_⟩:=x;exact Zs e
 |rng lo hi=>exists[_,_,_,e],x;exact Zs e
 |frz ob u=>exists[e,_],x;exact Zs e
 |tbl ps=>exact Zs (show h.get? a=some _ from x)
 |met f y=>exact Zs (show h.get? a=some _ from x)
 |ext φ=>obtain⟨_,⟨_,e⟩,_⟩:=x;exact Zs e
theorem Paired.mapP{α β:Type}{F G:α->β->Prop}:∀{l₁:List α} {l₂:List β},Paired F l₁ l₂->(∀a b,F a b->G a b)->Paired G l₁ l₂
 |_,_,.nil,_=>.nil
 |_,_,.cons r t,f=>.cons (f _ _ r) (Paired.mapP t f)
theorem ObjOk.stay(x:Ļ)(k:∀b u,(b=a\/H b=some ĩ)->h.get? b=some u->h'.get? b=some u)(ho:∀b,H b=some ĩ->H' b=some ĩ)(ht:Ā):ObjOk P w H' h' a o:=by
 induction o with
 |lst xs=>exists[z,its,n,r,e],x;exact#[z,its,n,r,k _ _ È e]
 |tup xs=>exists[z,its,r,ob,e,c],x;exact#[z,its,r,ob,k _ _ È e,c]
 |dK kvs=>exists[z,y,vs,r,ob,es,ep,e,c],x;exact#[z,y,vs,r,ob,es,ep,k _ _ È e,c]
 |dT kvs =>exists[z,y,xs,r,ob,es,ep,e,c],x;exact#[z,y,xs,Paired.mapP r λp q z=>#[z.1,ht _ _ z.2.1,z.2.2],ob,es,ep,k _ _ È e,c]
 |set S n=>exists[ob,es,ep,t,e,c],x;exact#[ob,es,ep,t,k _ _ È e,c]
 |ins C dx fs =>obtain⟨d,z,ne,e,mA,⟨od,es,ep,e2,c⟩,r⟩:=x;exact#[ho _ d,z,ne,k _ _ È e,mA,#[od,es,ep,k _ _ (.inr d) e2,c],r]
 |own y=>exists[ob,e],x;exact#[ob,k _ _ È e]
 |xd fs=>obtain⟨mA,⟨od,es,ep,e,c⟩,r⟩:=x;exact#[mA,#[od,es,ep,k _ _ È e,c],r]
 |rng lo hi=>exists[t,u,v,e],x;exact#[t,u,v,k _ _ È e]
 |frz ob u ih=>exists[e,q],x;exact#[k _ _ È e,ih q]
 |tbl ps =>have e:h.get? a=some { cls:=.none,data:=.fields ps }:=x;show h'.get? a=some { cls:=.none,data:=.fields ps };exact k a _ È e
 |met f y =>have e:h.get? a=some Ą:=x;show h'.get? a=some Ą;exact k a _ È e
 |ext φ=>obtain⟨p,⟨o,e⟩,st⟩:=x;exact#[st _ _ p λo q=>k _ _ È q,#[o,k _ _ È e],st]
theorem HOk.lt(x:ä)(e:ķ):a<Ò:=(x a o e).lt
theorem HOk.fresh(x:ä)(e:Ò<=a):H a=none:=by
 cases q:H a with
 |none=>rfl
 |some u=>exact absurd (ZE (x.lt q) e) ĸ
theorem HOk.kept(x:ä)(k:Ç):HOk P w H h':=λa o e =>
 (x a o e).stay (λb u _ q=>k b u q) Ĳ λ_ _ q=>q
theorem HOk.laid(x:ä)(k:Ç)(hp:Ò<=a)(new:ObjOk P w õ h' a o):HOk P w õ h':=λb u e=>by
 have hn:=x.fresh hp;by_cases hb:b=a
 .subst hb;rw[ac]at e;cases e;exact new
 .rw[af hb]at e;exact(x b u e).stay (λc v _ q=>k c v q) (λc q=>by rw[af Č];exact q) λc xs q=>by rw[af Č];exact q
#check 0
def Rd(H:Hp)(a:Pg)(u:HO):Prop:=H a=some u\/∃o,H a=some ý
theorem Rd.of{H:Hp}(h:H a=some u):Rd H a u:=.inl h
theorem Rd.ok(r:Rd H a u)(x:ä):ObjOk P w H h a u:=by
 rcases r with r|⟨o,r⟩
 .exact x a u r
 .exists[_,q],x a _ r;exact q
def Mut:Option HO->Prop
 |some (.lst _)=>True
 |some (.dK _)=>True
 |some (.dT _)=>True
 |some (.set _ _)=>True
 |some (.ins _ _ _)=>True
 |some (.ext _)=>True
 |_=>False
section
variable{P:Pj}{w:Pk}{H:Hp}{h h':Ć}{x e:Pg}{o':HO}
theorem HOk.write(ok:ä)(mu:ľ)(he:ì)(k:å)(heo:ï)(new:ObjOk P w ŕ h' x o'):HOk P w ŕ h':=λb u q=>by
 have nown:∀c y,H c=some (.own y)->c≠x:=λc y r z=>by subst z;rw[r]at mu;exact mu
 have ntup:∀c xs,H c=some Ô->c≠x:=λc xs r z=>by subst z;rw[r]at mu;exact mu
 by_cases hb:b=x
 .subst hb;rw[ac]at q;cases q;exact new
 .rw[af hb]at q;by_cases hbe:b=e
  .have q':H b=some (.own x):=by
    rcases he with z|z
    .exact absurd (hbe.trans z) hb
    .rw[hbe];exact z
   rw[q]at q';cases q';exists[v,hv],heo;exact#[v,by rw[hbe];exact hv]
  .refine(ok b u q).stay (λc v hc r=>k c v ?_ r) (λc r=>by rw[af (nown c b r)];exact r) λc xs r=>by rw[af (ntup c xs r)];exact r
   rcases hc with rfl|hc
   .exact hbe
   .rintro rfl;rcases he with z|z
    .exact nown c b hc z
    .rw[hc]at z;cases z;exact hb rfl
#check 0
structure Un(fs ex:ė)(H H':Hp)(h h':Ć):Prop where
 keep:∀b o,h.get? b=some o->H b=none->b∉fs->b∉ex->h'.get? b=some o
 slot:∀b o,h.get? b=some o->H b=none->b∈fs->b∉ex->∃sl,h'.get? b=some { o with slots:=sl }
 free:∀b o,h.get? b=some o->H b=none->b∉ex->H' b=none
 there:∀b o,h.get? b=some o->b∉ex->∃o',h'.get? b=some o'
 tups:∀b xs,H b=some Ô->H' b=some Ô
 frzs:∀b o u,H b=some ý->H' b=some ý
 tbls:∀b ps,H b=some ų->∃more,H' b=some Ĵ
section
variable{fs fs' ex ex':ė}{H H1 H2:Hp}{h h1 h2 h':Ć}{a x e:Pg}{o:HO}
theorem Un.any(u:Un fs ex H H1 h h1)(q:h.get? b=some ob)(n:ŏ)(hx:b∉ex):∃sl,h1.get? b=some { ob with slots:=sl }:=by
 by_cases hb:b∈fs
 .exact u.slot b ob q n hb hx
 .exact#[Ź,u.keep b ob q n hb hx]
theorem Un.kept(k:Ç):Un fs ex H H h h' :=
 #[λb ob q _ _ _=>k b ob q,λb ob q _ _ _=>#[Ź,k b ob q],λ_ _ _ n _=>n,λb ob q _=>#[ob,k b ob q],λ_ _ q=>q,λ_ _ _ q=>q,λ_ ps q=>#[#[],by rw[q];simp]]
theorem Un.refl:Un fs ex H H h h:=Un.kept λ_ _ q=>q
theorem Un.laid(k:Ç)(hp:Ò<=a)(hn:H a=none):Un fs ex H õ h h' where
 keep:=λb u q _ _ _=>k b u q
 slot:=λb u q _ _ _=>#[u.slots,k b u q]
 free:=λb u q n _=>by rw[af (Zy (ZE (Zs q) hp))];exact n
 there:=λb u q _=>#[u,k b u q]
 tups:=λb xs q=>by rw[af Č];exact q
 frzs:=λb u xs q=>by rw[af Č];exact q
 tbls:=λb ps q=>#[#[],by rw[af Č,q];simp]
theorem Un.write(mu:ľ)(he:ì)(k:å)(heo:ï):Un fs ex H Ĩ h h':=by
 have hx:∀b,H b=none->b≠x:=λb n z=>by subst z;rw[n]at mu;exact mu
 have hb:∀b,H b=none->b≠e:=λb n z=>by
  subst z;rcases he with r|r
  .exact hx b n r
  .rw[n]at r;cases r
 have hm:∀b u,H b=some u->¬Mut (some u)->b≠x:=λb u q nm z=>by subst z;rw[q]at mu;exact nm mu
 refine#[λb u q n _ _=>k b u (hb b n) q,λb u q n _ _=>#[u.slots,k b u (hb b n) q],λb u q n _=>by rw[af (hx b n)];exact n,λb u q _=>?_,
  λb xs q=>by rw[af ā];exact q,λb u xs q=>by rw[af ā];exact q,λb ps q=>#[#[],by rw[af ā,q];simp]]
 by_cases hbe:b=e
 .subst hbe;exact heo
 .exact#[u,k b u hbe q]
#check 0
def trk(h:Ć)(H:Hp):List Pg:=(List.range Ò).filter λa=>(H a).isSome
def lQ(h:Ć)(H:Hp):Heap:=W.hideAll h ļ
theorem CJ(h:Ć)(H:Hp):(lQ h H).objs.size=Ò:=W.hideAll_size _ _
theorem nq{h:Ć}{H:Hp}(e:Ń)(n:ŏ):(lQ h H).get? b=some o :=
 W.hideAll_get _ e λhm=>by have q:(H b).isSome=true:=(ZF.mp hm).2;rw[n]at q;simp at q
theorem Iq(e:(lQ h H).get? b=some o):h.get? b=some o/\H b=none:=by
 have e':h.get? b=some o:=W.of_hideAll ļ e;refine#[e',?_];cases q:H b with
 |none=>rfl
 |some x =>have hm:b∈trk h H:=ZF.mpr #[List.mem_range.mpr (Zs e'),by simp[q]];have z:(lQ h H).get? b=none:=W.hideAll_none ļ hm;rw[z]at e;cases e
structure Mod(K:Qa)(mg:Pe)(base:Ć):Prop where
 kin:K.In base
 glob:base.Ns mainGlobals mg
 blt:∃mb,base.Ns builtinsNs mb/\∀x:Str,x≠"__name__"->mb x=bootBuiltins x
 nolimit:base.NoLimit
structure Cx where
 prog:Pj
 w:Pk
 K:Qa
 mg:Pe
 base:Heap
 A:Pl
 N:List Str
 s₀:Ph
 H₀:Hp
 env:Env
 outer:List Env
 stack:List Env
 ex:List Pg
 fn:Str->Bool
 calm:Bool
 pn:Pc
 xe:Pd
def frs(l:List Env):List Pg:=l.filterMap (·.frame)
abbrev Cx.fs(X:Cx):List Pg:=frs đ
def Vis(sc:Scope)(x:ť):Prop:=sc.names.lookup x=some .local\/sc.names.lookup x=some .cell\/sc.names.lookup x=some .free
def Loc(sc:Scope)(x:ť):Prop:=sc.names.lookup x=some .local\/sc.names.lookup x=some .cell
def M9(env:Env)(h:Ć)(m:Pe)(x:ť)(u:Pi):Prop :=
 (env.kindOf x=some .local/\m x=some u)\/((env.kindOf x=some .cell\/env.kindOf x=some .free)/\∃c,env.cells.lookup x=some c/\h.IsCell c (some u))
structure Cx.Ok(X:Cx):Prop where
 mod:Mod ŧ X.mg ć
 kind:Ĉ=.function
 glob:ņ=mainGlobals
 blt:X.env.builtins=builtinsNs
 above:Ê<=Å
 inj:∀x y c,X.env.cells.lookup x=some c->X.env.cells.lookup y=some c->x=y
 has:∀x,(X.env.kindOf x=some .cell\/X.env.kindOf x=some .free)->∃c,X.env.cells.lookup x=some c
 cab:∀x c,X.fn x=true->X.env.cells.lookup x=some c->Ê<=c
 hd:İ=true->X.A.handled=none
 frames:X.A.frames=some ó
 stk:ó=đ\/(ó=Æ::đ/\X.env.frame=some Å)
 exf:∀b∈ŀ,b≠Å/\∀x c,X.env.cells.lookup x=some c->c≠b
 bs:∀b o,X.base.get? b=some o->X.s₀.heap.get? b=some o/\X.H₀ b=none
 bsz:X.base.objs.size<=Ê
 noex:∀b o,X.base.get? b=some o->b∉ŀ
 exfs:∀b∈ŀ,b∉ĉ
 funs:X.s₀.heap.FunFrames ć đ
 frf:∀b∈ĉ,X.H₀ b=none
structure Inv(X:Cx)(Pr:Pc)(Z:ĕ)(H:Hp)(s:Ph):Prop where
 ok:ź
 os:s.os=X.s₀.os
 bare:AllBare Ũ
 base:Un ĉ ŀ X.H₀ H X.s₀.heap Ð
 loc:∃m,s.heap.Ns Å m/\∀(i:í) (x:ť) (v:V),X.N[i]?=some x->Z[i]?=some Ň->Vis à x->∃u,RelV v u/\M9 Æ Ð m x u
 cell:∀x c,X.env.cells.lookup x=some c->∃v,s.heap.IsCell c v
 free:H Å=none
 freeC:∀x c,X.env.cells.lookup x=some c->H c=none
 pin:∀p∈X.pn++Pr,s.heap.get? p.1=some p.2/\H p.1=none/\p.1≠Å/\p.1∉ĉ/\∀v,p.2.data≠.cell v
 hok:HOk â ũ H Ð
 len:Z.length=X.N.length
section
variable{X:Cx}{Pr:Pc}{Z:ĕ}{H H':Hp}{s:Ph}{h':Ć}
theorem Cx.Ok.nofr(ok:ź)(e:X.base.get? b=some o):b∉ĉ:=λhb=>by have:=(ok.funs.mem hb).1;rw[e]at this;cases this
theorem Inv.bs(I:Á):∀b o,X.base.get? b=some o->s.heap.get? b=some o/\H b=none:=λb o e =>
 #[I.base.keep b o (I.ok.bs b o e).1 (I.ok.bs b o e).2 (I.ok.nofr e) ĵ,I.base.free b o (I.ok.bs b o e).1 (I.ok.bs b o e).2 ĵ]
theorem Inv.bk(I:Á):∀b o,X.base.get? b=some o->s.heap.get? b=some o:=λb o e=>(I.bs b o e).1
theorem Inv.mod(I:Á):Mod ŧ X.mg ć:=I.ok.mod
theorem Inv.kIn(I:Á):X.K.In Ð:=I.ok.mod.kin.keeps I.bk
theorem Inv.fr(I:Á):∃m,Fr ć Å Ð m :=
 let⟨m,hn,_⟩:=I.loc
 #[m,hn,I.bk,Zr I.ok.bsz I.ok.above]
theorem Inv.lt(I:Á):Å<Î:=let⟨_,hn,_⟩:=I.loc;hn.lt
theorem Inv.sz(I:Á):Ê<=Î:=Zr I.ok.above (Nat.le_of_lt I.lt)
theorem Inv.nofs(I:Á)(h:Î<=a):a∉ĉ:=λhb=>by exists[_,o,ho,_],I.ok.funs.mem hb;exact absurd (ZE (Zs ho) (Zr I.sz h)) ĸ
theorem Inv.cne(I:Á):∀x c,X.env.cells.lookup x=some c->c≠Å:=λx c e z=>by exists[v,o,ho,hd],I.cell x c e;obtain⟨m,⟨o',es,ep,ho',hd',_⟩,_⟩:=I.loc;rw[z,ho']at ho;cases ho;rw[hd']at hd;cases hd
theorem Inv.funs(I:Á):s.heap.FunFrames ć đ:=by
 have all:∀(l:List Env),(∀b∈frs l,b∈ĉ)->X.s₀.heap.FunFrames ć l->s.heap.FunFrames ć l:=by
  intro l;induction l with
  |nil=>intro _ _;trivial
  |cons env r ih =>intro hs hl;obtain⟨hk,⟨L,o,hf,hn,ho,hd⟩,hr⟩:=hl;have hL:L∈ĉ:=hs L (by unfold frs;rw[Z6,hf];exact Zq);exists[sl,e],I.base.slot L o ho (I.ok.frf L hL) hL λz=>I.ok.exfs L z hL;exact#[hk,#[L,_,hf,hn,e,hd],ih (λb hb=>hs b (by unfold frs;rw[Z6,hf];exact Zj _ hb)) hr]
 exact all đ (λ_ hb=>hb) I.ok.funs
theorem Inv.stack(I:Á):s.heap.FunFrames ć ó:=by
 rcases I.ok.stk with e|⟨e,hf⟩
 .rw[e];exact I.funs
 .rw[e];exists[m,hn,_],I.loc;refine .cons (by rw[I.ok.kind];decide) hf hn ?_ I.funs;exact YO (Zr I.ok.bsz I.ok.above)
theorem Inv.stkSub(I:Á):∀b∈frs ó,b∈Å::ĉ:=λb hb=>by
 rcases I.ok.stk with e|⟨e,hf⟩
 .rw[e]at hb;exact Zj _ hb
 .rw[e]at hb;unfold frs at hb;rw[Z6,hf]at hb;exact hb
theorem Inv.stkFree(I:Á):∀b∈frs ó,H b=none:=λb hb=>by
 rcases Zg.mp (I.stkSub b hb)with e|hb
 .rw[e];exact I.free
 .exists[_,o,ho,_],I.ok.funs.mem hb;exact I.base.free b o ho (I.ok.frf b hb) λz=>I.ok.exfs b z hb
theorem Inv.step{g':Array GenState}{t':í}{d':Drawn}{ch:ė}(I:Á)(hch:Ã)(keep:∀b o,b≠Å->b∉ĉ->b∉ch->s.heap.get? b=some o->H b=none->h'.get? b=some o)(slot:∀b o,b≠Å->b∈ĉ->b∉ch->s.heap.get? b=some o->H b=none->∃sl,h'.get? b=some { o with slots:=sl })(free:∀b o,b∉ch->s.heap.get? b=some o->H b=none->H' b=none)(there:∀b o,b∉ch->s.heap.get? b=some o->∃o',h'.get? b=some o')(tups:Ā)(frzs:∀b o u,H b=some ý->H' b=some ý)(tbls:∀b ps,H b=some ų->∃more,H' b=some Ĵ)(ns:∀m,s.heap.Ns Å m->h'.Ns Å m)(hok:č)(hg:ŷ) :
  Inv X Pr Z H' { s with heap:=h',gens:=g',drawn:=d',toks:=t' }:=by
 have neL:∀b o,X.s₀.heap.get? b=some o->b≠Å:=λb o e=>Zy Ñ;have neC:∀b o,X.s₀.heap.get? b=some o->b∉ŀ->b∉ch:=λb o e hx hb=>by
  rcases(hch b hb).1 with z|z
  .exact hx z
  .exact absurd (ZE (Zs e) z) ĸ
 have cellK:∀x c,X.env.cells.lookup x=some c->∀v,s.heap.IsCell c v->h'.IsCell c v:=λx c e v ⟨o,ho,hd⟩=>by
  have nch:c∉ch:=λz=>(hch c z).2.2.1 x c e rfl;by_cases hc:c∈ĉ
  .exists[sl,q],slot c o Ō hc nch ho Ĕ;exact#[_,q,hd]
  .exact#[o,keep c o Ō hc nch ho Ĕ,hd]
 refine#[I.ok,I.os,hg,#[λb o e n hb hx=>?_,λb o e n hb hx=>?_,λb o e n hx=>?_,λb o e hx=>?_,λb xs e=>tups b xs (I.base.tups b xs e),λb o xs e=>frzs b o xs (I.base.frzs b o xs e),λb ps e=>?_],?_,λx c e=>?_,?_,λx c e=>?_,λp hp=>?_,hok,I.len]
 .exact keep b o Ş hb ô Ø æ
 .exists[sl,e1],I.base.slot b o e n hb hx;exists[sl',e2],slot b _ Ş hb ô e1 æ;exact#[sl',e2]
 .exists[o',e1],I.base.there b o e hx;exact free b o' ô e1 æ
 .exists[o',e1],I.base.there b o e hx;exact there b o' ô e1
 .exists[m1,e1],I.base.tbls b ps e;exists[m2,e2],tbls b _ e1;exact#[m1++m2,by rw[e2,Array.append_assoc]]
 .exists[m,hn,hl],I.loc;refine#[m,ns m hn,λi x v e1 e2 e3=>?_];exists[u,r,l],hl i x v e1 e2 e3;refine#[u,r,?_];rcases l with l|⟨k,c,e,z⟩
  .exact .inl l
  .exact .inr #[k,c,e,cellK x c e _ z]
 .exists[v,z],I.cell x c e;exact#[v,cellK x c e v z]
 .obtain⟨m,⟨o,_,_,ho,_⟩,_⟩:=I.loc;exact free _ o (λz=>(hch _ z).2.1 rfl) ho I.free
 .exists[v,o,ho,hd],I.cell x c e;exact free c o (λz=>(hch c z).2.2.1 x c e rfl) ho Ĕ
 .exists[e,n,ne,nf,d],I.pin p hp;have nch:p.1∉ch:=λz=>(hch p.1 z).2.2.2 p hp rfl;exact#[keep p.1 p.2 ne nf nch e n,free p.1 p.2 nch e n,ne,nf,d]
theorem Inv.un{t':í}(I:Á)(u:Un ĉ [] H H' Ð h')(hok:č):Inv X Pr Z H' { s with heap:=h',toks:=t' }:=by
 obtain⟨m,⟨o,es,ep,ho,r⟩,_⟩:=id I.loc;exists[sl,hL],u.any ho I.free Ï;exact I.step (g':=Ũ) (d':=s.drawn) (ch:=[]) (λ_ z=>nomatch z) (λb o _ hb _ e n=>u.keep b o e n hb Ï) (λb o _ hb _ e n=>u.slot b o e n hb Ï) (λb o _ e n=>u.free b o e n Ï) (λb o _ e=>u.there b o e Ï) u.tups u.frzs u.tbls (λm' hm=>by
  exists[o',es',ep',ho',r'],hm;rw[ho]at ho';cases ho';exact#[_,es',ep',hL,r']) hok I.bare
theorem Inv.call{t':í}(I:Á)(u:Un (frs ó) ch H H' Ð h')(hok:č)(hg:ŷ)(hch:Ã):
  Inv X Pr Z H' { s with heap:=h',gens:=g',drawn:=d',toks:=t' }:=by
 obtain⟨m,⟨o,es,ep,ho,r⟩,_⟩:=id I.loc;exists[sl,hL],u.any ho I.free λz=>(hch _ z).2.1 rfl;exact I.step (ch:=ch) hch (λb o hL hb hc e n=>u.keep b o e n (λz=>(Zg.mp (I.stkSub b z)).elim hL hb) hc) (λb o _ _ hc e n=>u.any e n hc) (λb o hc e n=>u.free b o e n hc) (λb o hc e=>u.there b o e hc) u.tups u.frzs u.tbls (λm' hm=>by
  exists[o',es',ep',ho',r'],hm;rw[ho]at ho';cases ho';exact#[_,es',ep',hL,r']) hok hg
theorem Inv.turned{t':í}(I:Á)(k:∀b o,b≠it->s.heap.get? b=some o->h'.get? b=some o)(hn:H it=none)(hL:it≠Å)(h1:it∈ŀ\/Ê<=it)(h2:∀x c,X.env.cells.lookup x=some c->c≠it)(h3:∀p∈X.pn++Pr,p.1≠it):Inv X Pr Z H { s with heap:=h',toks:=t' }:=by
 have nit:∀b u,H b=some u->b≠it:=λb u e z=>by rw[z,hn]at e;cases e
 refine I.step (g':=Ũ) (d':=s.drawn) (ch:=[it]) (λb hb=>?_) (λb o _ _ hc e _=>k b o ê e) (λb o _ _ hc e _=>#[o.slots,k b o ê e]) (λ_ _ _ _ n=>n)
  (λb o hc e=>#[o,k b o ê e]) (λ_ _ e=>e) (λ_ _ _ e=>e) (λb ps e=>#[#[],by rw[e];simp]) (λm hm=>?_) (λb u e=>?_) I.bare
 .have e:b=it:=by simpa using hb
  subst e;exact#[h1,hL,h2,h3]
 .exists[o,es,ep,ho,r],hm;exact#[o,es,ep,k _ o (ZQ hL) ho,r]
 .refine(I.hok b u e).stay (λc v hc q=>k c v ?_ q) Ĳ λ_ _ q=>q;rcases hc with z|z
  .rw[z];exact nit b u e
  .exact nit c _ z
theorem Inv.tok(I:Á)(t:í):Inv X Pr Z H { s with toks:=t }:=I.un (h':=Ð) (t':=t) Un.refl I.hok
theorem Inv.kept{t':í}(I:Á)(k:è):Inv X Pr Z H { s with heap:=h',toks:=t' }:=I.un (Un.kept k) (I.hok.kept k)
theorem Inv.laid{t':í}(I:Á)(k:è)(hp:Î<=a)(new:ObjOk â ũ õ h' a o):
  Inv X Pr Z õ { s with heap:=h',toks:=t' }:=I.un (Un.laid k hp (I.hok.fresh hp)) (I.hok.laid k hp new)
theorem Inv.write{x e:Pg}{o:HO}{t':í}(I:Á)(mu:ľ)(he:ì)(k:∀b u,b≠e->s.heap.get? b=some u->h'.get? b=some u)(heo:ï)(new:ObjOk â ũ Ĩ h' x o):Inv X Pr Z Ĩ { s with heap:=h',toks:=t' }:=I.un (Un.write mu he k heo) (I.hok.write mu he k heo new)
theorem Inv.weak{σ':ĕ}(I:Á)(hl:σ'.length=Z.length)(w:∀(i:í) v,σ'[i]?=some Ň->Z[i]?=some Ň):Inv X Pr σ' H s :=
 #[I.ok,I.os,I.bare,I.base,let⟨m,hn,hl'⟩:=I.loc;#[m,hn,λi x v e1 e2 e3=>hl' i x v e1 (w i v e2) e3],I.cell,I.free,I.freeC,I.pin,I.hok,hl.trans I.len]
theorem Inv.pins_of(I:Á)(h:∀p∈pins',s.heap.get? p.1=some p.2/\H p.1=none/\p.1≠Å/\p.1∉ĉ/\∀v,p.2.data≠.cell v):Inv X pins' Z H s :=
 #[I.ok,I.os,I.bare,I.base,I.loc,I.cell,I.free,I.freeC,λp hp=>(ZC.mp hp).elim (λz=>I.pin p (List.mem_append_left _ z)) (h p),I.hok,I.len]
theorem xW{N:List Str}(hN:N.Nodup){i j:í}(a:N[i]?=some x)(b:N[j]?=some x):i=j:=by exists[h1,e1],Zz.mp a;exists[h2,e2],Zz.mp b;exact(List.getElem_inj hN).mp (e1.trans e2.symm)
theorem vC{i:í}{Q:ě}(I:Á)(hN:Ĝ)(hi:Ü)(hx:Į)(r:į)(h:∀s',Inv X Pr ü H s'->(∃a,Heap.SameBut a Ð s'.heap/\(a=Å\/X.env.cells.lookup x=some a))->Q () s')(hf:X.fn x=true\/X.env.scope.names.lookup x=some .local:=by first|exact .inl rfl|exact .inr rfl|assumption):wpAny M A (storeName Æ x u) Q E s:=by
 exists[m,hn,hl],id I.loc;have hcls:(Ĉ == .class ||(Ĉ == .module&&Å != ņ))=false:=by rw[I.ok.kind];rfl
 have hiZ:i<Z.length:=by rw[I.len];exact(Zz.mp hi).1
 have cne:=I.cne;have tracked:∀{a:Pg} {h':Ć},(∃o,s.heap.get? a=some o/\H a=none)->Heap.SameBut a Ð h'->HOk â ũ H h':=fun{a h'} ha hs b ob e=>by
  exists[_,_,hfree],ha;refine(I.hok b ob e).stay (λc w' hc q=>(hs.2 c ?_).trans q) Ĳ λ_ _ q=>q;rintro rfl;rcases hc with rfl|hc
  .rw[hfree]at e;cases e
  .rw[hfree]at hc;cases hc
 rcases hx with hk|hk
 .refine wpAny_storeName_local hk hn (λh' hn' hs=>?_) hcls;exists[oL,_,_,hoL,_],id hn;refine h _ #[I.ok,I.os,I.bare,#[λb o e n hb hx=>?_,λb o e n hb hx=>?_,I.base.free,λb o e hx=>?_,I.base.tups,I.base.frzs,I.base.tbls],#[_,hn',λj y v' e1 e2 e3=>?_],λy c e=>?_,I.free,I.freeC,λp hp=>?_,tracked #[oL,hoL,I.free] hs,by simpa using I.len] #[_,hs,.inl rfl]
  .exact(hs.2 b Ŝ).trans Ø
  .exists[sl,e1],I.base.slot b o e n hb hx;exact#[sl,(hs.2 b Ŝ).trans e1]
  .exists[o',e1],I.base.there b o e hx;exact#[o',(hs.2 b Ŝ).trans e1]
  .by_cases hj:j=i
   .subst hj;rw[hi]at e1;cases e1;rw[List.getElem?_set_self hiZ]at e2;cases e2;exact#[u,r,.inl #[hk,by simp]]
   .rw[List.getElem?_set_ne (ZQ hj)]at e2;exists[u',r',q],hl j y v' e1 e2 e3;refine#[u',r',?_];rcases q with⟨k,e⟩|⟨k,c,e,z⟩
    .refine .inl #[k,?_];have:y≠x:=λe=>hj (xW hN e1 (e▸hi));simp[this,e]
    .exact .inr #[k,c,e,z.sameBut hs ş]
  .exists[w',z],I.cell y c e;exact#[w',z.sameBut hs ş]
  .exists[e,n,ne,nf,d],I.pin p hp;exact#[(hs.2 p.1 ne).trans e,n,ne,nf,d]
 .have hfn:X.fn x=true:=by
   rcases hf with z|z
   .exact z
   .rw[z]at hk;cases hk
  exists[c,hc],I.ok.has x (.inl hk);exists[w',z],I.cell x c hc;refine wpAny_storeName_cell I.ok.kind hk hc z (λh' hc' hs=>?_);exists[oc,hoc,hocd],id z;refine h { s with heap:=h' } #[I.ok,I.os,I.bare,#[λb o e n hb hx=>?_,λb o e n hb hx=>?_,I.base.free,λb o e hx=>?_,I.base.tups,I.base.frzs,I.base.tbls],#[m,hn.sameBut hs (ZQ (cne x c hc)),λj y v' e1 e2 e3=>?_],λy c' e=>?_,I.free,I.freeC,λp hp=>?_,tracked #[oc,hoc,I.freeC x c hc] hs,by simpa using I.len] #[c,hs,.inr hc]
  .exact(hs.2 b Í).trans Ø
  .exists[sl,e1],I.base.slot b o e n hb hx;exact#[sl,(hs.2 b Í).trans e1]
  .exists[o',e1],I.base.there b o e hx;exact#[o',(hs.2 b Í).trans e1]
  .by_cases hj:j=i
   .subst hj;rw[hi]at e1;cases e1;rw[List.getElem?_set_self hiZ]at e2;cases e2;exact#[u,r,.inr #[.inl hk,c,hc,hc']]
   .rw[List.getElem?_set_ne (ZQ hj)]at e2;exists[u',r',q],hl j y v' e1 e2 e3;refine#[u',r',?_];rcases q with q|⟨k,c',e,z'⟩
    .exact .inl q
    .refine .inr #[k,c',e,z'.sameBut hs ?_];rintro rfl;exact hj (xW hN e1 (I.ok.inj _ _ _ e hc▸hi))
  .by_cases hcc:c'=c
   .subst hcc;exact#[_,hc']
   .exists[w2,z2],I.cell y c' e;exact#[w2,z2.sameBut hs hcc]
  .exists[e,n,ne,nf,d],I.pin p hp;refine#[(hs.2 p.1 ?_).trans e,n,ne,nf,d];intro q;rw[q,hoc]at e;have q':oc=p.2:=Zo e;exact d w' (by rw[<-q'];exact hocd)
theorem yI{i:í}{Q:ě}(I:Á)(hN:Ĝ)(hi:Ü)(hx:Į)(r:į)(h:∀s',Inv X Pr ü H s'->Q () s')(hf:X.fn x=true\/X.env.scope.names.lookup x=some .local:=by first|exact .inl rfl|exact .inr rfl|assumption):wpAny M A (storeName Æ x u) Q E s :=
 vC I hN hi hx r (λs' I' _=>h s' I') hf
theorem Inv.call'{s':Ph}(I:Á)(ho:s'.os=s.os)(u:Un (frs ó) ch H H' Ð s'.heap)(hok:HOk â ũ H' s'.heap)(hg:AllBare s'.gens)(hch:Ã):Inv X Pr Z H' s':=by exists[h',g',d',t',o'],s';have e:o'=s.os:=ho;subst e;exact I.call (g':=g') (t':=t') (d':=d') u hok hg hch
#check 0
abbrev XK:=Pi->Option Pg->Hp->Prop
abbrev St:=List (Option V)
abbrev VK:=V->Hp->Prop
abbrev TE:=St->Hp->VK->Prop
abbrev TT:=St->Hp->Û->Prop
abbrev TA:=St->Hp->Ċ->Prop
structure Ends where
 nx:St->Hp->Prop
 rt:VK
 bk:St->Hp->Prop:=λ_ _=>False
 ct:St->Hp->Prop:=λ_ _=>False
abbrev TS:=Ends->St->Hp->Prop
def EP(X:Cx)(Pr:Pc)(Z:St)(Q:VK)(u:Pi)(s':Ph):Prop:=∃v H',Inv X Pr Z H' s'/\RelV v u/\Q v H'
def TP(X:Cx)(Pr:Pc)(Z:St)(Q:Û)(b:Bool)(s':Ph):Prop:=∃H',Inv X Pr Z H' s'/\Q b H'
def AP(X:Cx)(Pr:Pc)(Z:St)(Q:Ċ)(us:Pf)(s':Ph):Prop:=∃vs H',Inv X Pr Z H' s'/\Vals vs us/\Q vs H'
def SP(X:Cx)(Pr:Pc)(D:Ends)(f:Flow)(s':Ph):Prop :=
 match f with
 |.next=>∃σ' H',Inv X Pr σ' H' s'/\D.nx σ' H'
 |.brk=>∃σ' H',Inv X Pr σ' H' s'/\D.bk σ' H'
 |.cont=>∃σ' H',Inv X Pr σ' H' s'/\D.ct σ' H'
 |.ret u=>∃v σ' H',Inv X Pr σ' H' s'/\RelV v u/\D.rt v H'
def PE(X:Cx)(e:Pq)(t:TE):Prop :=
 ∀(Pr:Pc) (s:Ph) (Z:St) (H:Hp) (Q:VK),Inv X Pr Z H s->t Z H Q->wpAny À ø Š Ó Õ s
def PT(X:Cx)(e:Pq)(t:TT):Prop :=
 ∀(Pr:Pc) (s:Ph) (Z:St) (H:Hp) (Q:Û),Inv X Pr Z H s->t Z H Q->wpAny À ø (isTrue e Æ Š) ō Õ s
def PW(X:Cx)(e:Pq)(t:TT):Prop :=
 ∀(whole:Sem Pi) (Pr:Pc) (s:Ph) (Z:St) (H:Hp) (Q:Û),Inv X Pr Z H s->t Z H Q->wpAny À ø (isTrue e Æ whole) ō Õ s
theorem PW.pt{t:TT}(h:PW X e t):PT X e t:=h _
def PA(X:Cx)(es:List Pq)(t:TA):Prop :=
 ∀(pos:Pos) (Pr:Pc) (s:Ph) (Z:St) (H:Hp) (Q:Ċ),Inv X Pr Z H s->t Z H Q->wpAny À ø (spliced (backTo pos (starEach es Æ))) (AP X Pr Z Q) Õ s
def PS(X:Cx)(st:Stmt)(t:TS):Prop :=
 ∀(Pr:Pc) (s:Ph) (Z:St) (H:Hp) (D:Ends),Inv X Pr Z H s->t D Z H->wpAny À ø (exec st Æ) š Õ s
def PSs(X:Cx)(st:List Stmt)(t:TS):Prop :=
 ∀(Pr:Pc) (s:Ph) (Z:St) (H:Hp) (D:Ends),Inv X Pr Z H s->t D Z H->wpAny À ø (execs st Æ) š Õ s
theorem thn{α:Type}{t:Sem α}{Q Q':α->Ph->Prop}{M:Model}{A:Pl}{E:Pd}{s:Ph}(h:wpAny M A t Q E s)(hQ:∀a s,Q a s->Q' a s):wpAny M A t Q' E s:=ZX h hQ λ_ _ x=>x
section
variable{X:Cx}
inductive tVar(i:í)(Z:St)(H:Hp)(Q:VK):Prop
 |mk (v:V) (h:Z[i]?=some (some v)) (q:Q v H):tVar i Z H Q
def tC(v:V):TE:=λ_ H Q=>Q v H
theorem K9{i:í}(hN:Ü)(hv:Vis à x)(hd:Ì=false:=by decide)(hcd:(x==("__classdict__":Str))=false:=by decide):PE X ç (tVar i):=by
 intro Pr s Z H Q I h;exists[v,e,h],h;exists[m,hn,hl],I.loc;exists[u,r,l],hl i x v hN e hv;have fin:EP X Pr Z Q u s:=#[v,H,I,r,h]
 rcases l with⟨hk,hm⟩|⟨hk,c,hc,hcell⟩
 .exact wpAny_Name (wpAny_loadName_local I.ok.kind hk hn hm fin) hd
 .rcases hk with hk|hk
  .exact wpAny_Name (wpAny_loadName_cell I.ok.kind hk hc hcell fin) hd
  .exact wpAny_Name (wpAny_loadName_free I.ok.kind hk hc hcell fin hcd) hd
theorem K1{i j pos}:PE X (.Constant ň j pos) (tC ň):=λ_ _ _ H _ I h=>wpAny_Constant_int #[.int i,H,I.tok _,#[_,rfl],h]
theorem MA{b j pos}:PE X (.Constant (.bool b) j pos) (tC (.bl b)):=λ_ _ _ H _ I h=>Constant_bool #[.bl b,H,I,rfl,h]
theorem K4{j pos}:PE X (.Constant .none j pos) (tC .non):=λ_ _ _ H _ I h=>Constant_none #[.non,H,I,rfl,h]
theorem K7{x j pos}:PE X (.Constant Ŋ j pos) (tC Ŋ):=λ_ _ _ H _ I h=>Calls.Constant_str #[.str x,H,I.tok _,#[_,rfl],h]
def Gl(X:Cx)(x:ť):Prop:=X.env.kindOf x=some .globalImplicit
theorem jQ{Q:Pd}(I:Á)(hg:Ő)(hm:Ř)(h:Q u s)(hd:Ì=false:=by decide):wpAny À ø Ŗ Q E s :=
 Calls.Name_function_global I.ok.kind hg (Calls.loadGlobal_global ã hm h) hd
theorem iC{Q:Pd}(I:Á)(hg:Ő)(hm:ŭ)(hv:Ħ)(h:Q u s)(hn:x≠"__name__":=by decide)(hd:Ì=false:=by decide):wpAny À ø Ŗ Q E s:=by exists[mb,h1,h2],I.mod.blt;exact Calls.Name_function_global I.ok.kind hg (Calls.loadGlobal_builtin ã hm (by rw[I.ok.blt];exact h1.keeps I.bk) ((h2 x hn).trans hv) h) hd
theorem ug(hg:Ő)(hm:Ř)(r:į)(hd:Ì=false:=by decide):PE X ç (tC v) :=
 λ_ _ _ H _ I h=>jQ I hg hm #[v,H,I,r,h] hd
theorem IF(hg:Ő)(hm:ŭ)(hv:Ħ)(r:į)(hn:x≠"__name__":=by decide)(hd:Ì=false:=by decide):PE X ç (tC v) :=
 λ_ _ _ H _ I h=>iC I hg hm hv #[v,H,I,r,h] hn hd
variable{a b:Pq}{ta tb:TE}
def PC(X:Cx)(op:CmpOp)(a b:Pq)(t:TE):Prop :=
 ∀(Pr:Pc) (s:Ph) (Z:St) (H:Hp) (Q:VK),Inv X Pr Z H s->t Z H Q ->
  wpAny À ø Ţ (λv s₁=>wpAny À ø ţ (λu s₂=>wpAny À ø (compareOp op v u) Ó Õ s₂) Õ s₁) Õ s
inductive IsB(x:V)(H:Hp)(Q:Û):Prop
 |mk (c:Bool) (h:x=.bl c) (q:Q c H):IsB x H Q
def tB(t:TE):TT:=λZ H Q=>t Z H λx H1=>IsB x H1 Q
theorem KZ{t:TE}(h:ř)(h1:behindInMarks op b=false:=by first|exact nobehind _ ⋯ ⋯|rfl):PE X (.Compare a [op] [b] pos) t:=λPr s Z H Q I hw=>wpAny_Compare1 Ī h1
theorem DO{t:TE}(h:ř)(h1:behindInMarks op b=false:=by first|exact nobehind _ ⋯ ⋯|rfl):PT X (.Compare a [op] [b] pos) (tB t):=by intro Pr s Z H Q I hw;refine wpAny_isTrue_Compare1 (thn ī λv s1 h1=>thn h1 λu s2 h2=>thn h2 λc s3 hz9=>?_) h1;exists[x,H1,I1,r1,q1],hz9;exists[d,rfl,q],q1;cases r1;exact wpAny_truthy_bool #[H1,I1,q]
theorem Lk{t:TE}(h:PE X e t)(he:∀whole,isTrue e Æ whole=(do let v ←whole;standAt e.pos;holding [v] (truthy v)):=by intro _;rfl):PT X e (tB t):=by intro Pr s Z H Q I hw;refine isTrue_plain (thn ī λv s1 hz9=>?_) (he _);exists[x,H1,I1,r1,q1],hz9;exists[d,rfl,q],q1;cases r1;exact wpAny_truthy_bool #[H1,I1,q]
def LH(t u:TT):TT:=λZ H Q=>t Z H λc H1=>if c=true then u Z H1 Q else Q false H1
def tOr(t u:TT):TT:=λZ H Q=>t Z H λc H1=>if c=true then Q true H1 else u Z H1 Q
def LN(t:TT):TT:=λZ H Q=>t Z H λc H1=>Q (!c) H1
theorem Jf(ha:Ď):PW X (.BoolOp .And [a] pos) tA:=by
 intro wh Pr s Z H Q I h;refine isTrue_and ò;cases c with
 |true=>exact isTrue_and_nil e
 |false=>exact e
theorem Lm(ha:Ď):PW X (.BoolOp .Or [a] pos) tA:=by
 intro wh Pr s Z H Q I h;refine isTrue_or ò;cases c with
 |false=>exact isTrue_or_nil e
 |true=>exact e
theorem Ll(ha:Ď)(hb:PW X Đ tB'):PW X ą (LH tA tB'):=by
 intro wh Pr s Z H Q I h;refine isTrue_and ú;cases c with
 |true=>exact hb wh Pr s1 Z H1 Q I1 q1
 |false=>exact#[H1,I1,q1]
theorem MH(ha:Ď)(hb:PW X (.BoolOp .Or (b::rest) pos) tB'):PW X (.BoolOp .Or (a::b::rest) pos) (tOr tA tB'):=by
 intro wh Pr s Z H Q I h;refine isTrue_or ú;cases c with
 |true=>exact#[H1,I1,q1]
 |false=>exact hb wh Pr s1 Z H1 Q I1 q1
theorem Lj(ha:Ď):PT X Ģ (LN tA):=by intro Pr s Z H Q I h;exact isTrue_not (ha Pr s Z H (λc H1=>Q (!c) H1) I h)
def G2(ta tb:TE):TE:=λZ H Q=>ta Z H λx H1=>∃c,x=.bl c/\if c=true then tb Z H1 Q else Q (.bl false) H1
def Ha(ta:TE):TE:=λZ H Q=>ta Z H λx H1=>∃c,x=.bl c/\Q (.bl (!c)) H1
theorem K6{op}{t:TE}(h:PE X a t):PE X (.BoolOp op [a] pos) t:=λPr s Z H Q I hw=>BoolOp_one Ī
theorem KU(ha:ö)(hb:PE X Đ tb):PE X ą (G2 ta tb):=by
 intro Pr s Z H Q I h;refine BoolOp_and ĝ;exists[x,H1,I1,r1,q1],hz9;exists[c,rfl,q1],q1;cases r1;refine wpAny_truthy_bool ?_;cases c with
 |true=>exact hb Pr s1 Z H1 Q I1 q1
 |false=>exact#[.bl false,H1,I1,rfl,q1]
theorem K5(ha:ö):PE X Ģ (Ha ta):=by intro Pr s Z H Q I h;refine UnaryOp_ ĝ;exists[x,H1,I1,r1,q1],hz9;exists[c,rfl,q1],q1;cases r1;exact not_of (wpAny_truthy_bool #[.bl (!c),H1,I1,rfl,q1])
def tIf(t:TT)(ta tb:TE):TE:=λZ H Q=>t Z H λc H1=>if c=true then ta Z H1 Q else tb Z H1 Q
theorem FA(hc:PT X c tA)(ha:ö)(hb:Ŀ):PE X (.IfExp c a b pos) (tIf tA ta tb):=by
 intro Pr s Z H Q I h;refine wpAny_IfExp Ù;cases d with
 |true=>exact ha Pr s1 Z H1 Q I1 q1
 |false=>exact hb Pr s1 Z H1 Q I1 q1
#check 0
def SqL(K:Qa)(H:Hp)(a:Pg)(xs:ë):Prop :=
 Rd H a Ŵ \/
  ∃(o:Obj) (its:Array Pi) (n:í),K.lookup a=some o/\Ż=.type "list"/\o.dict=none/\Ġ=.seq its n/\ż<=sizeLine/\Vals xs Ė
def SqT(K:Qa)(H:Hp)(a:Pg)(xs:ë):Prop :=
 Rd H a Ô \/
  ∃(o:Obj) (its:Array Pi) (n:í),K.lookup a=some o/\Ż=.type "tuple"/\Ġ=.seq its n/\ż<=sizeLine/\Vals xs Ė
def Nb:Pi->Option V
 |.none=>some .non
 |.bool b=>some (.bl b)
 |.int i _=>some ň
 |.str x _=>some Ŋ
 |.bytes b _=>some (.byt b)
 |.float b _=>some (.flt b)
 |.ref a=>some (.ref a)
 |.type n=>some (.ty n)
 |_=>none
theorem RelV.abs(r:Ŏ):Nb u=some x:=by
 cases x with
 |non=>cases r;rfl
 |bl _=>cases r;rfl
 |int _=>exists[t,rfl],r;rfl
 |str _=>exists[t,rfl],r;rfl
 |byt _=>exists[t,rfl],r;rfl
 |flt _=>exists[t,rfl],r;rfl
 |ref _=>cases r;rfl
 |ty _=>cases r;rfl
theorem RelV.inj(r:Ŏ)(q:RelV y u):x=y:=Zo (r.abs.symm.trans q.abs)
theorem Vals.inj:∀{xs ys:ë} {us:Pf},Vals xs us->Vals ys us->xs=ys
 |_,_,_,.nil,.nil=>rfl
 |_,_,_,.cons r t,.cons r' t'=>by rw[r.inj r',Vals.inj t t']
section
variable{H:Hp}
theorem Pu{K:Qa}(h:H a=some Ŵ):SqL K H a xs:=.inl (.inl h)
theorem Pt{K:Qa}(h:H a=some Ô):SqT K H a xs:=.inl (.inl h)
theorem Inv.list(I:Á)(h:ő):∃its:Pf,Vals xs its/\PlainL Ð a ċ/\É<=sizeLine:=by
 rcases h with h|⟨o,its,n,hk,hc,hd,hs,hz,r⟩
 .exists[z,its,n,r,e],h.ok I.hok;exact#[its,r,#[_,n,e,rfl,rfl,rfl],z]
 .refine#[Ė,r,#[o,n,I.kIn a o hk,hc,hd,by simpa using hs],?_];have e:=Ž;simp only[ZM]at e;omega
theorem Inv.tuple(I:Á)(h:SqT ŧ H a xs):∃its:Pf,Vals xs its/\IsTup Ð a ċ/\É<=sizeLine:=by
 rcases h with h|⟨o,its,n,hk,hc,hs,hz,r⟩
 .exists[z,its,r,p],h.ok I.hok;exact#[its,r,p,z]
 .refine#[Ė,r,#[o,I.kIn a o hk,hc,n,by simpa using hs],?_];have e:=Ž;simp only[ZM]at e;omega
theorem Inv.list_inj(I:Á)(h:ő)(h':SqL ŧ H a ys):xs=ys:=by
 obtain⟨its,r,⟨o,n,e,_,_,d⟩,_⟩:=I.list h;obtain⟨its',r',⟨o',n',e',_,_,d'⟩,_⟩:=I.list h';rw[e]at e';cases e';rw[d]at d';injection d' with d1 _;have:its=its':=by simpa using ZO Array.toList d1
 subst this;exact r.inj r'
#check 0
abbrev Cx.wish(X:Cx)(E:Pd):Cx:={ X with xe:=E }
abbrev Cx.nox(X:Cx):Cx:=X.wish λ_ _=>False
theorem Cx.Ok.wish{X:Cx}(ok:ź)(E:Pd):(X.wish E).Ok :=
 #[ok.mod,ok.kind,ok.glob,ok.blt,ž,ok.inj,ok.has,ok.cab,ok.hd,ů,ok.stk,ok.exf,ok.bs,ok.bsz,ok.noex,ok.exfs,ok.funs,ok.frf]
theorem Cx.Ok.unwish{X:Cx}(ok:(X.wish E).Ok):ź :=
 #[ok.mod,ok.kind,ok.glob,ok.blt,ž,ok.inj,ok.has,ok.cab,ok.hd,ů,ok.stk,ok.exf,ok.bs,ok.bsz,ok.noex,ok.exfs,ok.funs,ok.frf]
section
variable{X:Cx}{E:Pd}
theorem Inv.wish(I:Á)(E:Pd):Inv ĳ Pr Z H s:=#[I.ok.wish E,I.os,I.bare,I.base,I.loc,I.cell,I.free,I.freeC,I.pin,I.hok,I.len]
theorem Inv.unwish(I:Inv ĳ Pr Z H s):Inv X Pr Z H s:=#[I.ok.unwish,I.os,I.bare,I.base,I.loc,I.cell,I.free,I.freeC,I.pin,I.hok,I.len]
theorem SP.unwish(h:SP ĳ Pr D f s'):SP X Pr D f s':=by
 cases f with
 |next=>exists[σ',H',I,q],h;exact#[σ',H',I.unwish,q]
 |brk=>exists[σ',H',I,q],h;exact#[σ',H',I.unwish,q]
 |cont=>exists[σ',H',I,q],h;exact#[σ',H',I.unwish,q]
 |ret u=>exists[v,σ',H',I,r,q],h;exact#[v,σ',H',I.unwish,r,q]
theorem PSs.nox{st:List Stmt}{t:TS}(h:PSs X.nox st t):PSs X st t:=λPr s Z H D I hw =>
 ZX (h Pr s Z H D (I.wish _) hw) (λ_ _ q=>q.unwish) λ_ _ z=>False.elim z
#check 0
section
variable{st:Stmt}{t u:TS}{te:TE}{pos:Pos}
def jL:TS:=λD Z H=>D.nx Z H
def BO(t u:TS):TS:=λD Z H=>t { D with nx:=u D } Z H
theorem Jc:PSs X [] jL:=λ_ _ Z H _ I h=>wpAny_execs_nil #[Z,H,I,h]
theorem FN(h1:PS X st t)(h2:PSs X rest u):PSs X (st::rest) (BO t u):=by
 intro Pr s Z H D I h;refine wpAny_execs_cons (thn (h1 Pr s Z H { D with nx:=u D } I h) λf s1 q=>?_);cases f with
 |next =>exists[σ',H',I',q],q;exact h2 Pr s1 σ' H' D I' q
 |ret v=>exact q
 |brk=>exact q
 |cont=>exact q
theorem Jd(h1:PS X st t):PSs X [st] t:=by
 intro Pr s Z H D I h;refine wpAny_execs_cons (thn (h1 Pr s Z H D I h) λf s1 q=>?_);cases f with
 |next=>exact wpAny_execs_nil q
 |ret v=>exact q
 |brk=>exact q
 |cont=>exact q
theorem Inv.quiet(I:Á):interactive Æ=false:=by simp[interactive,I.ok.kind]
def G5(te:TE):TS:=λD Z H=>te Z H λ_ H1=>D.nx Z H1
theorem Ja(he:ġ)(hs:swapsWith e none Ł Æ=pure false:=by rfl):PS X (.Expr e pos) (G5 te):=by intro Pr s Z H D I h;exact wpAny_Expr_any (thn Ö λv s1 ⟨x,H1,I1,r1,q1⟩=>#[Z,H1,I1,q1]) I.quiet hs
def LO(te:TE):TS:=λD Z H=>te Z H D.rt
theorem Lh(he:ġ):PS X (.Return (some e) pos) (LO te):=by intro Pr s Z H D I h;exact wpAny_Return_some (thn Ö λv s1 ⟨x,H1,I1,r1,q1⟩=>#[x,Z,H1,I1,r1,q1])
def LK(c:TT)(t u:TS):TS:=λD Z H=>c Z H λb H1=>if b=true then t D Z H1 else u D Z H1
theorem MG(hc:PT X c tc)(ha:PSs X a t)(hb:PSs X b u):PS X (.If c a b pos) (LK tc t u):=by
 intro Pr s Z H D I h;refine wpAny_If Ù;cases d with
 |true=>exact ha Pr s1 Z H1 D I1 q1
 |false=>exact hb Pr s1 Z H1 D I1 q1
#check 0
abbrev TG:=V->St->Hp->û->Prop
abbrev TGs:=List V->St->Hp->û->Prop
def PG(X:Cx)(target:Pq)(t:TG):Prop :=
 ∀(Pr:Pc) (s:Ph) (Z:St) (H:Hp) (v:V) (u:Pi) (Q:û),Inv X Pr Z H s->RelV v u->t v Z H Q ->
  wpAny À ø (assign target Æ u) ß Õ s
def PGs(X:Cx)(ts:List Pq)(t:TGs):Prop :=
 ∀(Pr:Pc) (s:Ph) (Z:St) (H:Hp) (vs:ë) (us:Pf) (Q:û),Inv X Pr Z H s->Vals vs us->t vs Z H Q ->
  wpAny À ø (assignInOrder ((assignEach ts Æ).map (·.2)) us) ß Õ s
abbrev xg:=V->V->V->Hp->(Hp->Prop)->Prop
def Ev(X:Cx)(t:xg):Prop :=
 ∀(Pr:Pc) (s:Ph) (Z:St) (H:Hp) (o i v:V) (ov iv u:Pi) (Q:Hp->Prop),Inv X Pr Z H s->RelV o ov->RelV i iv->RelV v u->t o i v H Q ->
  wpAny À ø (setItem ov iv u) (λ_ s'=>∃H',Inv X Pr Z H' s'/\Q H') Õ s
abbrev TIp:=V->V->Hp->VK->Prop
def PIp(X:Cx)(op:Operator)(t:TIp):Prop :=
 ∀(Pr:Pc) (s:Ph) (Z:St) (H:Hp) (x y:V) (v u:Pi) (Q:VK),Inv X Pr Z H s->RelV x v->RelV y u->t x y H Q ->
  wpAny À ø (inplaceOp op v u) Ó Õ s
section
variable{X:Cx}{pos:Pos}
def dA(i:í):TG:=λv Z H Q=>Q ü H
theorem IN{i:í}(hN:Ĝ)(hi:Ü)(hx:Į)(hf:X.fn x=true\/X.env.scope.names.lookup x=some .local:=by first|exact .inl rfl|exact .inr rfl|assumption):PG X (.Name x pos) (dA i):=by intro Pr s Z H v u Q I r h;exact wpAny_assign_Name (yI I hN hi hx r (λs' I'=>#[_,H,I',h]) hf)
def oy:TGs:=λvs Z H Q=>vs=[]/\Q Z H
def gU(t:TG)(u:TGs):TGs:=λvs Z H Q=>∃v r,vs=v::r/\t v Z H λσ' H'=>u r σ' H' Q
theorem IP:PGs X [] oy:=by intro Pr s Z H vs us Q I r h;exists[e,h],h;subst e;cases r;exact assignInOrder_nil #[Z,H,I,h]
theorem FF{t:TG}(h1:PG X e t)(h2:PGs X es u)(hs:(assignEach (e::es) Æ).map (·.2)=assign e Æ::(assignEach es Æ).map (·.2):=by rfl):PGs X (e::es) (gU t u):=by
 intro Pr s Z H vs us Q I r h;exists[v,vr,e1,h],h;subst e1;cases r with
 |cons r rr =>rw[hs];refine assignInOrder_cons (thn (h1 Pr s Z H _ _ _ I r h) λ_ s1 ⟨σ1,H1,I1,q1⟩=>?_);exact h2 Pr s1 σ1 H1 _ _ Q I1 rr q1
def oA(K:Qa)(n:í)(t:TGs):TG:=λv Z H Q=>∃a xs,v=.ref a/\SqT K H a xs/\É=n/\t xs Z H Q
theorem Lb{k:í}{t:TGs}{n:í}(hc:İ=true)(h:PGs X es t)(hn:(assignEach es Æ).length=n:=by rfl)(hst:(assignEach es Æ).findIdx? (·.1)=none:=by rfl):PG X (.Tuple es k pos) (oA ŧ n t):=by intro Pr s Z H v u Q I r hw;exists[a,xs,e1,hq,hl,hw],hw;subst e1;cases r;exists[its,rv,ht,hz],I.tuple hq;refine assign_Tuple_tuple Ă ht (by simp[hn,<-hl,Ű]) hst λh' hx=>?_;have I1:Inv X Pr Z H { s with heap:=h' }:=I.kept (t':=ð) λb o e=>hx b o (Zy (Zs e)) e;exact h Pr _ Z H xs _ Q I1 (by simpa using rv) hw
def Kc(to ti:TE)(t:xg):TG:=λv Z H Q=>to Z H λo H1=>ti Z H1 λi H2=>t o i v H2 λH3=>Q Z H3
theorem La{o i:Pq}{t:xg}(ho:PE X o to)(hi:PE X i ti)(hs:Ev X t)(ha:∀ v,assign ĥ Æ v=(do
   let ov ←holding [v] (eval o Æ)
   let iv ←holding [v,ov] (eval i Æ)
   standAt pos
   holding [v,ov,iv] (setItem ov iv v)
   release [v,ov,iv] []):=by intro _;rfl):PG X ĥ (Kc to ti t):=by
 intro Pr s Z H v u Q I r h;rw[ha];refine z9 (ZU (thn (ho Pr s Z H _ I h) λov s1 hz9=>?_));exists[x,H1,I1,r1,q1],hz9;refine z9 (ZU (thn (hi Pr s1 Z H1 _ I1 q1) λiv s2 hz9=>?_));exists[y,H2,I2,r2,q2],hz9;refine z9 (wpAny_standAt (z9 (ZU (thn (hs Pr s2 Z H2 x y v ov iv u _ I2 r1 r2 r q2) λ_ s3 ⟨H3,I3,q3⟩=>?_))));exact wpAny_release #[Z,H3,I3,q3]
def uJ(te:TE)(g:TG):TS:=λD Z H=>te Z H λx H1=>g x Z H1 D.nx
theorem Le(he:ġ)(hg:PG X tg g)(hs:swapsWithSole [tg] e Ł Æ=pure false:=by rfl)(hw:swappedStores [tg] e Æ=pure none:=by rfl)(h1:(assignEach [tg] Æ).map (·.2)=[assign tg Æ]:=by rfl):PS X (.Assign [tg] e pos) (uJ te g):=by intro Pr s Z H D I h;refine wpAny_Assign_stores Ğ hs hw;exists[x,H1,I1,r1,q1],hz9;rw[h1];exact thn (hg Pr s1 Z H1 x v _ I1 r1 q1) λ_ s2 q=>q
theorem Li{i:í}(hN:Ĝ)(hi:Ü)(hx:Į)(he:ġ)(hs:swapsWith e (some (.Name x pos')) Ł Æ=pure false:=by rfl)(hf:X.fn x=true\/X.env.scope.names.lookup x=some .local:=by first|exact .inl rfl|exact .inr rfl|assumption):
  PS X (.Assign [.Name x pos'] e pos) (uJ te (dA i)):=by
 intro Pr s Z H D I h;refine wpAny_Assign_Name Ğ hs;exists[y,H1,I1,r1,q1],hz9;exact yI I1 hN hi hx r1 (λs2 I2=>#[_,H1,I2,q1]) hf
#check 0
section
variable{X:Cx}
def Ee(c:TT)(tb:TS):TS:=λD Z H=>∃W:Nat->St->Hp->Prop,(∃m,W m Z H)/\∀m Z H,W m Z H ->
 c Z H λb H1=>if b=true then∃N:St->Hp->Prop,(∀σ' H',N σ' H'->∃m',m'<m/\W m' σ' H')/\tb { D with nx:=N,ct:=N,bk:=D.nx } Z H1 else D.nx Z H1
theorem FM(hp:ħ)(hc:PT X c tc)(hb:Ś):PS X (.While c body [] pos) (Ee tc tb):=by
 intro Pr s Z H D I h;obtain⟨W,⟨m0,w0⟩,turn⟩:=h;refine wpAny_While (codeAny_whileLoop (λn s'=>∃σ' H',Inv X Pr σ' H' s'/\W n σ' H') ?_ m0 #[Z,H,I,w0]);rintro n s1 ⟨σ1,H1,I1,w1⟩;refine wpAny_passesOwn hp (thn (hc Pr s1 σ1 H1 _ I1 (turn n σ1 H1 w1)) λb s2 ⟨H2,I2,q2⟩=>?_);cases b with
 |true =>
  exists[N,hN,q2],q2;rw[Pb rfl];refine wpAny_passesOwn hp (thn (hb Pr s2 σ1 H2 _ I2 q2) λf s3 q3=>?_);cases f with
  |next =>exists[σ3,H3,I3,n3],q3;exists[m',hm,w3],hN σ3 H3 n3;exact#[m',hm,σ3,H3,I3,w3]
  |cont =>exists[σ3,H3,I3,n3],q3;exists[m',hm,w3],hN σ3 H3 n3;exact#[m',hm,σ3,H3,I3,w3]
  |brk=>exact q3
  |ret v=>exact q3
 |false =>rw[Pa Zt];exact wpAny_execs_nil #[σ1,H2,I2,q2]
#check 0
structure It where
 go:Nat->Hp->Prop
 yld:Nat->Hp->V->Hp->Prop
 stop:Nat->Hp->Prop
def cE(X:Cx)(Pr:Pc)(H:Hp)(b:Pg):Prop :=
 H b=none/\b≠Å/\b∉ĉ/\(b∈ŀ\/Ê<=b)/\(∀x c,X.env.cells.lookup x=some c->c≠b)/\∀p∈X.pn++Pr,p.1≠b
theorem Inv.fpOk{H H':Hp}(I:Á)(hb:Î<=b)(hn:H' b=none):cE X Pr H' b:=by
 refine#[hn,Yb (ZE I.lt hb),I.nofs hb,.inr (Zr I.sz hb),λx c e z=>?_,λp hp z=>?_]
 .exists[v,q],I.cell x c e;exact absurd (ZE q.lt Ĭ) ĸ
 .exact absurd (ZE (Zs (I.pin p hp).1) Ĭ) ĸ
structure Turn(P:Pj)(w:Pk)(K:Qa)(tg:Pq)(J:It)(fp:ė)(it:Pg)(tn:ń):Prop where
 mem:it∈fp
 obj:∀i h,tn i h->∀b∈fp,∃o,h.get? b=some o/\∀v,Ġ≠.cell v
 keep:∀i h h',tn i h->(∀b∈fp,∀o,h.get? b=some o->h'.get? b=some o)->tn i h'
 item:∀(X:Cx),â=P->ũ=w->ŧ=K->İ=true->∀(i:í) (Pr:Pc) (s:Ph) (Z:St) (H:Hp) (E:Pd),Inv X Pr Z H s->é->tn i Ð->J.go i H ->
  wpAny ď ø Ť (λr s1=>∃ u,r=some u /\
   wpAny ď ø Ę (λ_ s2=>∃ x H',Inv X Pr Z H' s2/\RelV x u/\J.yld i H x H'/\tn Œ s2.heap/\∀ b∈fp,H' b=none) E s1) E s
 done:∀(X:Cx),â=P->ũ=w->ŧ=K->İ=true->∀(i:í) (Pr:Pc) (s:Ph) (Z:St) (H:Hp) (E:Pd),Inv X Pr Z H s->é->tn i Ð->J.stop i H ->
  wpAny ď ø Ť (λr s1=>r=none/\Inv X Pr Z H s1) E s
 self:∀(A:Pl) (i:í) (s:Ph) (Q:Pd) (E:Pd),tn i Ð->Q ù s->wpAny ď A (pyIter ù) Q E s
abbrev TI:=St->Hp->ÿ->Prop
def PIE(X:Cx)(Pr:Pc)(Z:St)(tg:Pq)(R:ÿ)(itv:Pi)(s2:Ph):Prop :=
 ∃(it:Pg) (fp:ė) (tn:ń) (J:It) (H':Hp),itv=.ref it/\Inv X Pr Z H' s2/\Turn â ũ ŧ tg J fp it tn/\tn 0 s2.heap/\(∀b∈fp,cE X Pr H' b)/\R J H'
def PI(X:Cx)(tg iter:Pq)(wi:TI):Prop :=
 ∀(Pr:Pc) (s:Ph) (Z:St) (H:Hp) (R:ÿ),Inv X Pr Z H s->wi Z H R ->
  wpAny À ø (eval iter Æ) (λv s1=>wpAny À ø (pyIter v) Ķ Õ s1) Õ s
theorem wj{s:Ph}{Q:ě}(ho:s.heap.get? it=some o)(hc:Ż=.type n)(hd:Ġ=.fields vs)(hn:["enumerate","zip","dict_itemiterator","dict_reverseitemiterator","odict_iterator","itertools.zip_longest","itertools.pairwise"].contains n=false)(hQ:Q () s):wpAny M A Ę Q E s:=by
 unfold letOwnedTupleGo;cases tg<;>first
  |exact Zb hQ
  | (cases u<;>first
    |exact Zb hQ
    | (refine z9 (wpAny_load ho ?_)
       rw[hc,hd];show wpAny M A (if(["enumerate","zip","dict_itemiterator","dict_reverseitemiterator","odict_iterator","itertools.zip_longest","itertools.pairwise"].contains n&&vs[0]?==some (rawInt _))=true then _ else _) Q E s;rw[Pa (by intro h;rw[hn,Bool.false_and]at h;cases h)];exact Zb hQ))
def Itl(K:Qa)(a:Pg):It :=
 #[λi H=>∃xs x,SqL K H a xs/\xs[i]?=some x,λi H x H'=>H'=H/\∀xs,SqL K H a xs->xs[i]?=some x,λi H=>∃xs,SqL K H a xs/\É<=i]
def Itr(lo:ĭ)(n:í):It:=#[λi _=>i<n,λi H x H'=>H'=H/\x=.int (lo+i),λi _=>n<=i]
theorem Ej{K:Qa}(a it:Pg):Turn P w K tg ŵ [it] it (λi h=>h.IsListIter it a i) where
 mem:=by simp
 obj:=λi h st b hb=>by
  have e:b=it:=by simpa using hb
  subst e;exists[o,e,c,d],st;exact#[o,e,λv z=>by rw[d]at z;cases z]
 keep:=λi h h' st k=>st.at λo e=>k it Ï o e
 item:=by intro X hP hw hK hc i Pr s Z H E I hf st hg;subst hP hw hK;exists[xs,x,hq,hx],hg;exists[its,rv,p,hz],I.list hq;exists[u,hu,ru],rv.get hx;exists[f0,f1,f2,f3,f4,f5],hf it Ï;refine wpAny_pyNext_list_item st ł (x:=u) (by simpa using hu) λh' st' sb=>?_;have I1:Inv X Pr Z H { s with heap:=h' }:=I.turned (t':=ð) (λb o hb e=>(sb.2 b hb).trans e) f0 f1 f3 f4 f5;exists[o,e,c,d],id st';exact#[u,rfl,wj (s:={ s with heap:=h' }) e c d ⋯ #[x,H,I1,ru,#[rfl,λys hy=>by rw[I.list_inj hy hq];exact hx],st',λb hb=>(hf b hb).1]]
 done:=by intro X hP hw hK hc i Pr s Z H E I hf st hg;subst hP hw hK;exists[xs,hq,hx],hg;exists[its,rv,p,hz],I.list hq;exists[f0,f1,f2,f3,f4,f5],hf it Ï;have hl:=Ű;exact wpAny_pyNext_list_end Ă st ł (by simp;omega) λh' eb=>#[rfl,I.turned (t':=ð) ę f0 f1 f3 f4 f5]
 self:=λ_ _ _ _ _ st h=>wpAny_pyIter_listiter st h
theorem BS{K:Qa}(it:Pg)(lo:ĭ)(n:í):Turn P w K tg (Itr lo n) [it] it (λi h=>IsRangeIter h it (lo+(i:í)*1) ((n:ĭ)-(i:í)) 1) where
 mem:=by simp
 obj:=λi h st b hb=>by
  have e:b=it:=by simpa using hb
  subst e;exact#[_,st,λv z=>by
   have z':Data.fields _=Data.cell v:=z;cases z']
 keep:=λi h h' st k=>k it Ï _ st
 item:=by intro X hP hw hK hc i Pr s Z H E I hf st hg;subst hP hw hK;exists[f0,f1,f2,f3,f4,f5],hf it Ï;have W:=Walks.range (prog:=â) (w:=ũ) Ă it lo 1 n;refine W.item i s _ _ hg st λv h' tk hv st' kk=>?_;exists[t,rfl],hv;have I1:Inv X Pr Z H { s with heap:=h',toks:=tk }:=I.turned (λb o hb e=>kk b o (by simpa using hb) e) f0 f1 f3 f4 f5;refine#[_,rfl,wj (s:={ s with heap:=h',toks:=tk }) (n:="range_iterator") st' rfl rfl ⋯ #[.int (lo+i),H,I1,#[t,?_],#[rfl,rfl],st',λb hb=>(hf b hb).1]];rw[Int.mul_one]
 done:=by intro X hP hw hK hc i Pr s Z H E I hf st hg;subst hP hw hK;exists[f0,f1,f2,f3,f4,f5],hf it Ï;exact wpAny_pyNext_range_end Ă st (by have:n<=i:=hg;omega) λh' eb=>#[rfl,I.turned (t':=ð) ę f0 f1 f3 f4 f5]
 self:=λ_ _ _ _ _ st h=>wpAny_pyIter_rangeiter st h
section
variable{X:Cx}
def GG(K:Qa)(tl:TE):TI:=λZ H R=>tl Z H λx H1=>∃a,x=.ref a/\(∃xs,SqL K H1 a xs)/\R ŵ H1
theorem IR(hl:PE X l tl):PI X tg l (GG ŧ tl):=by
 intro Pr s Z H R I h;refine thn (hl Pr s Z H _ I h) λv s1 hz9=>?_;exists[x,H1,I1,r1,q1],hz9;obtain⟨a,e,⟨xs,hq⟩,q⟩:=q1;subst e;cases r1;exists[its,rv,p,hz],I1.list hq;refine wpAny_pyIter_list ł ?_;refine#[þ,[þ],_,_,H1,rfl,I1.kept (t':=s1.toks) λb o e=>Za _ e,Ej a _,#[_,Zm _ rfl,rfl,rfl],λb hb=>?_,q];have e:b=þ:=by simpa using hb
 subst e;exact I1.fpOk (Ze _) ģ
theorem FS{R:ÿ}{lo hi:ĭ}{t u v:Ŷ}{tk:í}(I:Á)(h1:-ű<=lo)(h2:lo<2^62)(h3:-ű<=hi)(h4:hi<2^62)(q:R (Itr lo (hi-lo).toNat) H):wpAny À ø (pyIter (.ref Î)) Ķ E { s with heap:=ñ { cls:=.type "range",data:=.fields Ä },toks:=tk }:=by
 refine wpAny_pyIter_range (IsRange.new ..) (small_one h1 h2 h3 h4) ?_;have I1:Inv X Pr Z H { s with heap:=ñ { cls:=.type "range",data:=.fields Ä },toks:=tk }:=I.kept λb o e=>Za _ e;refine#[(ñ { cls:=.type "range",data:=.fields Ä }).objs.size,[(ñ { cls:=.type "range",data:=.fields Ä }).objs.size],_,_,H,rfl,
  I1.kept (t':=tk) λb o e=>Za _ e,BS _ lo (hi - lo).toNat,?_,λb hb=>?_,q]
 .have e1:lo+ă*1=lo:=by simp
  have e2:Ě-ă=Builtin.Range.rangeSize lo hi 1:=by rw[rangeSize_one];split<;>omega
  show IsRangeIter _ _ (lo+ă*1) (Ě-ă) 1;rw[e1,e2];exact Zm _ rfl
 .have e:b=(ñ { cls:=.type "range",data:=.fields Ä }).objs.size:=by simpa using hb
  subst e;exact I1.fpOk (Ze _) ģ
def GH(ta:TA):TI:=λZ H R=>ta Z H λvs H1=>∃j:Int,vs=[.int j]/\-ű<=j/\j<2^62/\R (Itr 0 j.toNat) H1
theorem DC(hg:Gl X "range")(hm:X.mg "range" = none)(ha:PA X [a] ta)(hs:starEach [a] Æ=[(false,eval a Æ)]:=by rfl):PI X tg (.Call (.Name "range" p) [a] [] pos) (GH ta):=by
 intro Pr s Z H R I h;refine Call_ (iC I hg hm boot_range (YH (thn (ha pos Pr s Z H _ I h) λus s1 hz9=>?_) hs rfl));exists[vs,H1,I1,r1,q1],hz9;exists[j,e,q1,q2,q],q1;subst e;cases r1 with
 |cons r rr =>cases rr;exists[t,rfl],r;exact call_range_1 (FS I1 ∅ ∅ q1 q2 (by simpa using q))
def LJ(wi:TI)(g:TG)(tb:TS):TS:=λD Z H=>wi Z H λJ H1=>∃W:Nat->Nat->St->Hp->Prop,(∃m,W 0 m Z H1)/\∀i m Z H,W i m Z H ->
 (J.stop i H/\D.nx Z H)\/(J.go i H/\∃N:St->Hp->Prop,Ú/\∀x H',J.yld i H x H'->g x Z H' λσ2 H2=>tb { D with nx:=N,ct:=N,bk:=D.nx } σ2 H2)
def oS(fp:ė)(h:Ć):Pc:=fp.filterMap λb=>(h.get? b).map λo=>œ
theorem jI{h:Ć}(hb:b∈fp)(e:Ń):œ∈oS fp h:=Z5.mpr #[b,hb,by rw[e];rfl]
theorem Dp(hp:p∈oS fp h):p.1∈fp/\h.get? p.1=some p.2:=by
 exists[b,hb,e],Z5.mp hp;cases q:h.get? b with
 |none=>rw[q]at e;cases e
 |some o =>rw[q]at e;have e':œ=p:=Zo e;subst e';exact#[hb,q]
theorem Inv.pinned(I:Á)(hf:é)(ho:∀b∈fp,∃o,s.heap.get? b=some o/\∀v,Ġ≠.cell v):Inv X (Pr++oS fp Ð) Z H s :=
 I.pins_of λp hp=>(ZC.mp hp).elim (λz=>I.pin p (ZP _ z)) λz=>by exists[hb,e],Dp z;exists[f0,f1,f2,_],hf p.1 hb;exists[o,e',d],ho p.1 hb;rw[e]at e';cases e';exact#[e,f0,f1,f2,d]
theorem Inv.unpinned{Pr pl:Pc}(I:Inv X (Pr++pl) Z H s):Inv X Pr Z H s:=I.pins_of λp hp=>I.pin p (ZP _ (List.mem_append_left _ hp))
theorem Lg(hp:ħ)(hc:İ=true)(hi:PI X tg iter wi)(hg:PG X tg g)(hb:Ś)(hs:∀x,foldedSetIterable iter Æ x=pure x:=by intro _;rfl):PS X (.For tg iter body [] pos) (LJ wi g tb):=by
 intro Pr s Z H D I h;refine wpAny_For (thn (hi Pr s Z H _ I h) λv s1 h1=>thn h1 λitv s2 h2=>?_) hs;obtain⟨it,fp,tn,J,H2,e,I2,T,st2,f2,W,⟨m0,w0⟩,turn⟩:=h2;subst e;have stat:∀{H':Hp},î->∀b∈fp,cE X Pr H' b:=λhn b hb=>#[hn b hb,(f2 b hb).2]
 refine codeAny_forLoop_any (λn s'=>∃i σ' H',Inv X Pr σ' H' s'/\tn i s'.heap/\î/\W i n σ' H') ?_ m0 #[0,Z,H2,I2,st2,λb hb=>(f2 b hb).1,w0];rintro n s3 ⟨i,σ3,H3,I3,st3,fr3,w3⟩;rcases turn i n σ3 H3 w3 with⟨stop,qn⟩|⟨go,N,hN,step⟩
 .refine wpAny_passesOwn hp (thn (T.done X rfl rfl rfl hc i Pr s3 σ3 H3 Õ I3 Ŭ st3 stop) λr s4 ⟨hr,I4⟩=>?_);subst hr;exact wpAny_execs_nil #[σ3,H3,I4,qn]
 .refine wpAny_passesOwn hp (thn (T.item X rfl rfl rfl hc i Pr s3 σ3 H3 Õ I3 Ŭ st3 go) λr s4 ⟨u,hr,h4⟩=>?_);subst hr;refine wpAny_passesOwn hp (thn h4 λ_ s5 hz9=>?_);exists[x,H5,I5,r5,y5,st5,fr5],hz9;have I5':=I5.pinned (stat fr5) (T.obj _ _ st5);refine wpAny_passesOwn hp (thn (hg _ s5 σ3 H5 x u _ I5' r5 (step x H5 y5)) λ_ s6 ⟨σ6,H6,I6,q6⟩=>?_);refine wpAny_passesOwn hp (thn (hb _ s6 σ6 H6 _ I6 q6) λf s7 q7=>?_);have again:∀{σ7:St} {H7:Hp},Inv X (Pr++oS fp s5.heap) σ7 H7 s7->N σ7 H7->∃m,m<n/\∃i σ' H',Inv X Pr σ' H' s7/\tn i s7.heap/\î/\W i m σ' H':=fun{σ7 H7} I7 n7=>by exists[m',hm,w7],hN σ7 H7 n7;refine#[m',hm,i+1,σ7,H7,I7.unpinned,T.keep _ _ _ st5 λb hb o e=>(I7.pin œ ğ).1,λb hb=>?_,w7];exists[o,e,d],T.obj _ _ st5 b hb;exact(I7.pin œ ğ).2.1
  cases f with
  |next=>exists[σ7,H7,I7,n7],q7;exact again I7 n7
  |cont=>exists[σ7,H7,I7,n7],q7;exact again I7 n7
  |brk=>exists[σ7,H7,I7,q7],q7;exact#[σ7,H7,I7.unpinned,q7]
  |ret v=>exists[x7,σ7,H7,I7,r7,q7],q7;exact#[x7,σ7,H7,I7.unpinned,r7,q7]
#check 0
theorem mY{K:Qa}{a:Pg}{xs:ë}{g:TG}{tb:TS}{D:Ends}{Z:St}{H:Hp}(Pv:Nat->St->Hp->Prop)(h0:Pv 0 Z H)(hl:∀i Z H,i<=É->Pv i Z H->SqL K H a xs)(hs:∀i x Z H,xs[i]?=some x->Pv i Z H->g x Z H λσ2 H2=>tb { D with nx:=Pv Œ,ct:=Pv Œ,bk:=D.nx } σ2 H2)(hd:∀Z H,Pv É Z H->D.nx Z H) :
  ∃W:Nat->Nat->St->Hp->Prop,(∃m,W 0 m Z H)/\∀i m Z H,W i m Z H ->
   ((Itl K a).stop i H/\D.nx Z H)\/((Itl K a).go i H/\∃N:St->Hp->Prop,Ú/\∀x H',(Itl K a).yld i H x H'->g x Z H' λσ2 H2=>tb { D with nx:=N,ct:=N,bk:=D.nx } σ2 H2):=by
 refine#[λi m Z H=>m=É-i/\i<=É/\Pv i Z H,#[É,by simp,ZH _,h0],?_];rintro i m Z H ⟨rfl,hi,p⟩;have q:=hl i Z H hi p;by_cases hlt:i<É
 .refine .inr #[#[xs,xs[i],q,by simp[hlt]],Pv Œ,λσ' H' p'=>#[É-Œ,∅,rfl,hlt,p'],λx H' y=>?_];exists[e,y],y;subst e;exact hs i x Z _ (y xs q) p
 .have e:i=É:=∅
  subst e;exact .inl #[#[xs,q,Ze _],hd Z H p]
abbrev R2:=V->V->Hp->VK->Prop
def OpR(X:Cx)(f:Ý)(r:R2):Prop :=
 ∀(Pr:Pc) (s:Ph) (Z:St) (H:Hp) (x y:V) (v u:Pi) (Q:VK),Inv X Pr Z H s->RelV x v->RelV y u->r x y H Q ->
  wpAny À ø ŝ Ó Õ s
def UnR(X:Cx)(f:Ÿ)(r:Ņ):Prop :=
 ∀(Pr:Pc) (s:Ph) (Z:St) (H:Hp) (x:V) (v:Pi) (Q:VK),Inv X Pr Z H s->RelV x v->r x H Q ->
  wpAny À ø (f v) Ó Õ s
def fZ(X:Cx)(f:Pi)(r:List V->Hp->VK->Prop):Prop :=
 ∀(Pr:Pc) (s:Ph) (Z:St) (H:Hp) (xs:ë) (us:Pf) (Q:VK),Inv X Pr Z H s->Vals xs us->r xs H Q ->
  wpAny À ø (call f us) Ó Õ s
def tOp(r:R2)(ta tb:TE):TE:=λZ H Q=>ta Z H λx H1=>tb Z H1 λy H2=>r x y H2 Q
def tUn(r:Ņ)(ta:TE):TE:=λZ H Q=>ta Z H λx H1=>r x H1 Q
inductive rI(C:Ŕ)(g:Ů)(x:V)(y:V)(H:Hp)(Q:VK):Prop
 |mk (i j:_) (h0:x=.int i) (h1:y=.int j) (h2:C i j) (h3:Q Þ H):rI C g x y H Q
inductive rI0(g:Ů)(x:V)(y:V)(H:Hp)(Q:VK):Prop
 |mk (i j:_) (h0:x=.int i) (h1:y=.int j) (h2:Q Þ H):rI0 g x y H Q
def rU(g:Int->V):V->Hp->VK->Prop:=λx H Q=>∃i,x=.int i/\Q Ū H
section
variable{X:Cx}
theorem Ez(ha:ö)(hb:Ŀ){R:V->V->Hp->Prop}(I:Á)(h:ta Z H λx H1=>tb Z H1 λy H2=>R x y H2){f:Ý}(hf:∀v u s2 x y H2,Inv X Pr Z H2 s2->RelV x v->RelV y u->R x y H2->wpAny À ø ŝ Q Õ s2):
  wpAny À ø Ţ (λv s₁=>wpAny À ø ţ (λu s₂=>wpAny À ø ŝ Q Õ s₂) Õ s₁) Õ s:=by
 refine thn Ë λv s1 hz9=>?_;exists[x,H1,I1,r1,q1],hz9;refine thn (hb Pr s1 Z H1 _ I1 q1) λu s2 hz9=>?_;exists[y,H2,I2,r2,q2],hz9;exact hf v u s2 x y H2 I2 r1 r2 q2
theorem MD(ho:OpR X (binaryOp op) r)(ha:ö)(hb:Ŀ):PE X (.BinOp a op b pos) (tOp r ta tb):=by intro Pr s Z H Q I h;exact wpAny_BinOp (Ez ha hb I h λv u s2 x y H2 I2 rx ry q=>ho Pr s2 Z H2 x y v u Q I2 rx ry q)
theorem ME(ho:UnR X (unaryOp op) r)(ha:ö):PE X (.UnaryOp op a pos) (tUn r ta):=by intro Pr s Z H Q I h;exact UnaryOp_ (thn Ë λv s1 ⟨x,H1,I1,r1,q1⟩=>ho Pr s1 Z H1 x v Q I1 r1 q1)
theorem opI{f:Ý}{C:Ŕ}{g:ś}(rule:∀(i j:ĭ) (t u:Ŷ) (s:Ph) (Q:Pd) (E:Pd),C i j->Q ŗ { s with toks:=ð+1 }->wpAny À ø á Q E s) :
  OpR X f (rI C λi j=>.int Þ):=by
 intro Pr s Z H x y v u Q I rx ry h;exists[i,j,rfl,rfl,hc,q],h;exists[t,rfl],rx;exists[t',rfl],ry;exact rule i j t t' s _ _ hc #[.int Þ,H,I.tok _,#[_,rfl],q]
theorem KH{f:Ý}{g:ś}(rule:∀(i j:ĭ) (t u:Ŷ) (s:Ph) (Q:Pd) (E:Pd),Q ŗ { s with toks:=ð+1 }->wpAny À ø á Q E s) :
  OpR X f (rI0 λi j=>.int Þ):=by
 intro Pr s Z H x y v u Q I rx ry h;exists[i,j,rfl,rfl,q],h;exists[t,rfl],rx;exists[t',rfl],ry;exact rule i j t t' s _ _ #[.int Þ,H,I.tok _,#[_,rfl],q]
theorem Bv{f:Ý}{g:Int->Int->Bool}(rule:∀(i j:ĭ) (t u:Ŷ) (s:Ph) (Q:Pd) (E:Pd),Q (.bool Þ) s->wpAny À ø á Q E s) :
  OpR X f (rI0 λi j=>.bl Þ):=by
 intro Pr s Z H x y v u Q I rx ry h;exists[i,j,rfl,rfl,q],h;exists[t,rfl],rx;exists[t',rfl],ry;exact rule i j t t' s _ _ #[.bl Þ,H,I,rfl,q]
def JM(i j:ĭ):Prop:=0<j/\j<1073741824
def CMul(i j:ĭ):Prop:=(-(2^64)<i/\i<2^64)\/(-(2^64)<j/\j<2^64)
theorem CMul.ok{i j:ĭ}(h:CMul i j):IntMulOk i j:=by
 rcases h with⟨h1,h2⟩|⟨h1,h2⟩
 .exact .of_left Ĥ
 .exact .of_right Ĥ
theorem KI:OpR X (binaryOp .Add) (rI0 λi j=>.int (i+j)):=KH λ_ _ _ _ _ _ _ q=>add_int q
theorem KQ:OpR X (binaryOp .Sub) (rI0 λi j=>.int (i-j)):=KH λ_ _ _ _ _ _ _ q=>sub_int q
theorem KN:OpR X (binaryOp .Mult) (rI CMul λi j=>.int (i*j)):=opI λ_ _ _ _ _ _ _ hc q=>mul_int q hc.ok
theorem Iz:OpR X (binaryOp .FloorDiv) (rI JM λi j=>.int (i / j)):=opI λi j _ _ _ _ _ hc q=>by have h1:(0:ĭ)<j:=hc.1;have h2:j<1073741824:=hc.2;exact floordiv_int ∅ (by rw[Int.fdiv_eq_ediv_of_nonneg i ∅];exact q) (.inl (PyProof.noPylong_small ∅))
theorem KM:OpR X (binaryOp .Mod) (rI (λ_ j=>0<j) λi j=>.int (i%j)):=opI λi j _ _ _ _ _ hc q=>by have h1:(0:ĭ)<j:=hc;exact mod_int' ∅ (by rw[Int.fmod_eq_emod_of_nonneg i ∅];exact q)
theorem unI{f:Ÿ}{g:Int->Int}(rule:∀(i:ĭ) (t:Ŷ) (s:Ph) (Q:Pd) (E:Pd),Q (.int Ū ð) { s with toks:=ð+1 }->wpAny À ø (f ı) Q E s) :
  UnR X f (rU λi=>.int Ū):=by
 intro Pr s Z H x v Q I rx h;exists[i,rfl,q],h;exists[t,rfl],rx;exact rule i t s _ _ #[.int Ū,H,I.tok _,#[_,rfl],q]
theorem LU:UnR X (unaryOp .USub) (rU λi=>.int (-i)):=unI λ_ _ _ _ _ q=>neg_int q
#check 0
def LD:V->V->Bool
 |.non,.non=>true|.non,.int _=>true|.int _,.non=>true|.non,.bl _=>true|.bl _,.non=>true|.non,.str _=>true|.str _,.non=>true
 |.int _,.int _=>true|.bl _,.bl _=>true|.str _,.str _=>true|.byt _,.byt _=>true
 |.int _,.str _=>true|.str _,.int _=>true|.bl _,.str _=>true|.str _,.bl _=>true
 |_,_=>false
def rEq:R2:=λx y H Q=>LD x y=true/\Q (.bl (decide (x=y))) H
def rNe:R2:=λx y H Q=>LD x y=true/\Q (.bl (!decide (x=y))) H
theorem zC{i j:ĭ}:decide (V.int i=V.int j)=Ų:=by rw[Bool.eq_iff_iff];simp
theorem Cr{i j:Bool}:decide (V.bl i=V.bl j)=Ų:=by rw[Bool.eq_iff_iff];simp
theorem zD{i j:ť}:decide (V.str i=V.str j)=Ų:=by rw[Bool.eq_iff_iff];simp
theorem zB{i j:Array UInt8}:decide (V.byt i=V.byt j)=(i.toList==j.toList):=by rw[Bool.eq_iff_iff];cases i;cases j;simp
section
variable{X:Cx}{b:Pq}
theorem bj{Q:VK}{k k':Bool}(I:Á)(q:Q (.bl k) H)(e:k=k'):EP X Pr Z Q (.bool k') s:=by subst e;exact#[.bl k,H,I,rfl,q]
theorem Ms:OpR X (compareOp .Eq) rEq:=by
 intro Pr s Z H x y v u Q I rx ry h;exists[hs,q],h;cases x with
 |non =>
  cases rx;cases y with
  |non=>cases ry;exact PySem.EqNone.eq_none_none Â
  |bl j=>cases ry;exact PySem.EqNone.eq_none_bool Â
  |int j=>exists[t',rfl],ry;exact PySem.EqNone.eq_none_int Â
  |str j=>exists[t',rfl],ry;exact PySem.EqNone.eq_none_str Â
  |_=>exact absurd (show false=true from hs) Zt
 |bl i =>
  cases rx;cases y with
  |non=>cases ry;exact PySem.EqNone.eq_bool_none Â
  |bl j=>cases ry;exact eq_bool (bj I q Cr)
  |str j=>exists[t',rfl],ry;exact PySem.EqMixed.eq_bool_str Â
  |_=>exact absurd (show false=true from hs) Zt
 |int i =>
  exists[t,rfl],rx;cases y with
  |non=>cases ry;exact PySem.EqNone.eq_int_none Â
  |int j=>exists[t',rfl],ry;exact eq_int (bj I q zC)
  |str j=>exists[t',rfl],ry;exact PySem.EqMixed.eq_int_str Â
  |_=>exact absurd (show false=true from hs) Zt
 |str i =>
  exists[t,rfl],rx;cases y with
  |non=>cases ry;exact PySem.EqNone.eq_str_none Â
  |bl j=>cases ry;exact PySem.EqMixed.eq_str_bool Â
  |int j=>exists[t',rfl],ry;exact PySem.EqMixed.eq_str_int Â
  |str j=>exists[t',rfl],ry;exact eq_str (bj I q zD)
  |_=>exact absurd (show false=true from hs) Zt
 |byt i =>
  exists[t,rfl],rx;cases y with
  |byt j=>exists[t',rfl],ry;exact W.eq_bytes (bj I q zB)
  |_=>exact absurd (show false=true from hs) Zt
 |_=>cases y<;>exact absurd (show false=true from hs) Zt
theorem Mx:OpR X (compareOp .NotEq) rNe:=by
 intro Pr s Z H x y v u Q I rx ry h;exists[hs,q],h;cases x with
 |non =>
  cases rx;cases y with
  |non=>cases ry;exact PySem.EqNone.ne_none_none Â
  |bl j=>cases ry;exact PySem.EqNone.ne_none_bool Â
  |int j=>exists[t',rfl],ry;exact PySem.EqNone.ne_none_int Â
  |str j=>exists[t',rfl],ry;exact PySem.EqNone.ne_none_str Â
  |_=>exact absurd (show false=true from hs) Zt
 |bl i =>
  cases rx;cases y with
  |non=>cases ry;exact PySem.EqNone.ne_bool_none Â
  |bl j=>cases ry;exact ne_bool (bj I q (ZO not Cr))
  |str j=>exists[t',rfl],ry;exact PySem.EqMixed.ne_bool_str Â
  |_=>exact absurd (show false=true from hs) Zt
 |int i =>
  exists[t,rfl],rx;cases y with
  |non=>cases ry;exact PySem.EqNone.ne_int_none Â
  |int j=>exists[t',rfl],ry;exact ne_int (bj I q (ZO not zC))
  |str j=>exists[t',rfl],ry;exact PySem.EqMixed.ne_int_str Â
  |_=>exact absurd (show false=true from hs) Zt
 |str i =>
  exists[t,rfl],rx;cases y with
  |non=>cases ry;exact PySem.EqNone.ne_str_none Â
  |bl j=>cases ry;exact PySem.EqMixed.ne_str_bool Â
  |int j=>exists[t',rfl],ry;exact PySem.EqMixed.ne_str_int Â
  |str j=>exists[t',rfl],ry;exact ne_str (bj I q (ZO not zD))
  |_=>exact absurd (show false=true from hs) Zt
 |byt i =>
  exists[t,rfl],rx;cases y with
  |byt j=>exists[t',rfl],ry;exact W.ne_bytes (bj I q (ZO not zB))
  |_=>exact absurd (show false=true from hs) Zt
 |_=>cases y<;>exact absurd (show false=true from hs) Zt
end
mutual
#check#[s.heap.objs.size,(FnOk X.prog X.w X.K X.mg X.base CX k f fd ps sp),(.builtin "type.__call__" #[.ref C::us,kw]),X.env,(hZ CX P w K mg base N qual scope f cdv A outer s H E),(Inv X Pr Z H s),(model X.prog X.w),(thn (h pos Pr s Z H _ I hq) λus s1 ⟨xs,H1,I1,r,z,q⟩=>#[by rw[<-r.length];exact z,?_]),(thn (ha pos Pr s Z H _ I h) λus s1 ⟨vs,H1,I1,r1,q1⟩=>hc Pr s1 Z H1 vs us Q I1 r1 q1),(.ref C),(H a=some (.ins C dx fs)),(model prog w),(Binds X.K fd ps ds),s1.heap.objs.size,(thn (he Pr s Z H _ I h) λu s1 hz9=>?_),(false,eval e Ã),(.ref f),s.heap,(e::es),(x==("__debug__":Str)),(W.fnOf name qual params body scope dV kV doc pm an cdv ct),ps.length,(.Attribute o m apos),0,(starEach es Ã),(À+1),(.builtin "object.__class__"),(.Call (.Name x p) Ò [] pos),(List Str),(Str->Option NameKind),(envOfC qual scope À f cd),(vs++dvs),(.ref a),((p,w)::P.zip vs),(Vals dvs ds),(W.instObj C À),(some (.builtin "object.__setattr__")),vs.length,(List (Str×Pi)),(Str×V),(gE CX X E),(ha Pr s Z H _ I h),(backToKw pos (keywordEach [] Ã)),(List V),(start N vs),(λv H2=>v=.non/\Q (.ref x) H2),(ObjM Ñ x dx C mA),(List Env),(if g=f then some u else mA g),(Cls X.K C),(ps.zip us),(hr pos Pr s1 Z H1 _ I1 q1),s.toks,X.prog,(.ins C dx fs),0,(.Compare a [op] [b] pos),(iC I hg hm hv ?_ hn hdb),(us++ds),(Room k X.A),(Ze _),fs.length,(.ins C dx (fJ f y fs)),(behindInMarks op b=false),(W.plainGet K C name=true),X.stack,(some Ð),(by simp),(.lst xs),(PA X Ò t),(OpR X (compareOp op) r),(Room (k+1) A),(.Attribute e f pos),(.Call Ö Ò [] pos),(.Call Ö [] [] pos),(keywordEach kws Ã),(∀v,(x,v)∉binds),(x.above y c (Yj h)),(jQ I hg hm ?_ hdb),(getMethod ov m pl),(by simpa using h1),(by simpa using h2),(by simpa using hi),(W.hasDictIn K C=true),(Sem Bool),(List V->Hp->VK->Prop),(Value.ref Ù::ú),(↑Env0 A outer s H),((k,x)::r),(λb u q=>Za _ q),(λb u e=>Za _ e),(Vals vs us),(FnScope N ps scope),(W.instObj C dx),(Nat),(K.In Ñ),(Str),(Pi×Pf->Ph->Prop),(fs.lookup m=none),(PE X o ta),(PA X es t),X.K,sc.names,(.type "list"),(.type "dict"),(.ins C dx []),(.ref x),(g==k),(tOp r ta tb),(EP X Pr Z Q),(.builtin id),(Unit->Ph->Prop),(Room k A),(Gl X x),(Room (k+1) X.A),(eval e env),(A.under Â),(.ref x::ß),(NoAttr ĥ C f),(Meth ĥ C m f),apos.atName,scope.names,(bj I q ?_),(model P w),r.dp,r.un,X.base,(P.zip vs),(X.mg x=none),xs.length,r2.length,(mA name),(jK te t),(.tup xs),(g us ws),(Zj _ hw),(tCB r t),0,(.type T),(Heap),X.w,r.hd,e.frames]
theorem Mw:OpR X (compareOp .Lt) (rI0 λi j=>.bl (decide (i<j))):=Bv λ_ _ _ _ _ _ _ q=>lt_int q
theorem Mv:OpR X (compareOp .LtE) (rI0 λi j=>.bl (decide (i<=j))):=Bv λ_ _ _ _ _ _ _ q=>le_int q
theorem Mu:OpR X (compareOp .Gt) (rI0 λi j=>.bl (decide (j<i))):=Bv λ_ _ _ _ _ _ _ q=>gt_int q
theorem Mt:OpR X (compareOp .GtE) (rI0 λi j=>.bl (decide (j<=i))):=Bv λ_ _ _ _ _ _ _ q=>ge_int q
theorem KL:OpR X (compareOp .Is) (λx y H Q=>y=.non/\Q (.bl (decide (x=.non))) H):=by
 intro Pr s Z H x y v u Q I rx ry h;exists[rfl,q],h;cases ry;refine is_none_gen ĺ;cases x<;>first
  |(cases rx;rfl)
  |(exists[t,rfl],rx;rfl)
theorem IA:OpR X (compareOp .IsNot) (λx y H Q=>y=.non/\Q (.bl (!decide (x=.non))) H):=by
 intro Pr s Z H x y v u Q I rx ry h;exists[rfl,q],h;cases ry;refine isnot_none_gen ĺ;cases x<;>first
  |(cases rx;rfl)
  |(exists[t,rfl],rx;rfl)
theorem Df(b:Pq)(h:op≠.In:=by decide)(h2:op≠.NotIn:=by decide):behindInMarks op b=false:=by
 have e1:(op==CmpOp.In)=false:=by cases op<;>first|rfl|exact absurd rfl h
 have e2:(op==CmpOp.NotIn)=false:=by cases op<;>first|rfl|exact absurd rfl h2
 cases b<;>simp[behindInMarks,e1,e2]
theorem IH(ho:Ć)(ha:PE X a ta)(hb:PE X b tb)(hm:ÿ):PE X ø Ĭ:=by intro Pr s Z H Q I h;exact wpAny_Compare1 (Ez ha hb I h λv u s2 x y H2 I2 rx ry q=>ho Pr s2 Z H2 x y v u Q I2 rx ry q) hm
def Hd(t:TE):TT:=λZ H Q=>t Z H λx H1=>IsB x H1 Q
theorem Je(ho:Ć)(ha:PE X a ta)(hb:PE X b tb)(hm:ÿ):PT X ø (Hd Ĭ):=by
 intro Pr s Z H Q I h;refine wpAny_isTrue_Compare1 (thn é λv s1 ⟨x,H1,I1,r1,q1⟩=>thn (hb Pr s1 Z H1 _ I1 q1) λu s2 ⟨y,H2,I2,r2,q2⟩ =>
  thn (ho Pr s2 Z H2 x y v u _ I2 r1 r2 q2) λc s3 ⟨z,H3,I3,r3,k,e,q3⟩=>?_) hm
 subst e;cases r3;exact wpAny_truthy_bool #[H3,I3,q3]
theorem oK:(sizeLine:Ğ)<2^63:=by rw[sizeLine_eq];decide
theorem Bw:OpR X (binaryOp .Add) (λx y H Q=>∃i j,x=.str i/\y=.str j/\i.length+j.length<=sizeLine/\Q (.str (i++j)) H):=by intro Pr s Z H x y v u Q I rx ry h;exists[i,j,rfl,rfl,hz,q],h;exists[t,rfl],rx;exists[t',rfl],ry;exact add_str (λt' tk=>#[.str (i++j),H,I.tok _,#[_,rfl],q]) hz
theorem eU(r:Vals [x] us):∃u,us=[u]/\RelV x u:=by
 cases r with
 |cons r1 r2=>cases r2;exact#[_,rfl,r1]
theorem jM(r:Vals [x,y] us):∃u w',us=[u,w']/\RelV x u/\RelV y w':=by
 cases r with
 |cons r1 r2 =>
  cases r2 with
  |cons r3 r4=>cases r4;exact#[_,_,rfl,r1,r3]
theorem Ci(hc:X.calm=true):fZ X (.builtin "max") (λxs H Q=>∃i j,xs=[.int i,.int j]/\Q (.int (if j>i then j else i)) H):=by
 intro Pr s Z H xs us Q I r h;exists[i,j,rfl,q],h;obtain⟨u,w',rfl,⟨t,rfl⟩,⟨t',rfl⟩⟩:=jM r;refine max_two_ints (I.ok.hd hc) λh' tk k=>#[_,H,I.kept k,?_,q]
 by_cases hj:j>i
 .rw[Pb hj,Pb hj];exact#[_,rfl]
 .rw[Pa hj,Pa hj];exact#[_,rfl]
#check 0
structure ObjM(h:ŋ)(x dx C:Pg)(mA:Pe):Prop where
 obj:h.get? x=some ĝ
 ns:h.Ns1 dx mA
 ne:dx≠x
set_option tactic.hygienic true in theorem C7{h:ŋ}(n:h.Ns1 dx mA):∃od,h.get? dx=some od/\∀name,W.lookIn name od=some Ń:=by
 exists[o,es,ep,ho,hd,hk,_,hm],n;refine#[o,ho,λname=>?_];have e:=hm name;unfold nsFind findBy at e;rw[<-Array.find?_toList]at e;unfold W.lookIn;rw[hd];dsimp only;split
 .rename_i y q;rw[q]at e;exact ZO some e
 .rename_i q;rw[q]at e;have a:es.toList.any (·.refKey)=false:=by rw[List.any_eq_false];intro y hy;exists[z,t,hkey],hk y (Array.mem_toList_iff.mp hy);simp[DictEntry.refKey,hkey]
  have a':¬es.toList.any (·.refKey)=true:=by rw[a];exact Zt
  rw[Pa a'];exact ZO some e
theorem ObjM.look(I:ObjM h x dx C mA):∃od,W.InstAt h x ĝ C (some od)/\∀name,W.lookIn name od=some Ń :=
 let⟨od,ho,hl⟩:=C7 I.ns
 #[od,#[I.obj,rfl,rfl,ho],hl]
section
variable{A:Pl}{s:Ph}{K:Qa}{C:Pg}
theorem HK{Q:Pd}(X:ğ)(I:î)(hg:Ā)(hh:ē)(ha:W.findIn K É name=some none)(hv:mA name=some v)(hv':W.handedIn v=true)(h:Q v { s with toks:=ô+1 }):
  wpAny Ë A (getAttr Ī name expr) Q E s:=by
 exists[od,J,hl],I.look;exact W.get_value X J (W.plainGet_of hg).1 (W.findObj_own hh ha rfl (by rw[hl,hv])) hv' h
theorem EW{pl:Ĕ}{Q:ġ}(X:ğ)(I:î)(hg:Ā)(hf:W.findIn K É name=some Ă)(ht:W.isFn K Ð=true)(hv:mA name=none)(h:Q (.ref f,[.ref x]) s) :
  wpAny Ë A (getMethod Ī name pl) Q E s:=by
 exists[od,J,hl],I.look;exact W.method_fn X J (W.plainGet_of hg).1 (W.plainGet_of hg).2 hf (y0.mp ht) (by show(W.lookIn name od).map (·.isSome)=some false;rw[hl,hv];rfl) h
theorem Jp{Q:į}(X:ğ)(I:î)(hs:W.findIn K É "__setattr__" = some ä)(hp:W.plainOver K C=true)(ht:W.takerIn K C name=some none)(hh:ē)(hw:PySem.Within mA ns)(hsz:ns.length<=sizeLine)(h:∀h',ObjM h' x dx C (λy=>if y=name then some v else mA y)->Heap.SameBut dx Ñ h'->Q () { s with heap:=h',toks:=ô+2 }):
  wpAny Ë A (setAttr Ī name v) Q E s:=by
 exists[od,J,hl],I.look;refine W.set_plain X J hs (W.osa_open (s:={ s with toks:=ô+1 }) (r:=none) X J hp ht λb=>?_);exists[cd,hc,hd'],W.any_some hh;have hx:s.heap.get? x=some #[.ref C,some dx,.plain,#[]]:=I.obj;refine z9 (Zb (z9 (z9 (wpAny_loadPart hx (z9 (W.Looks.here (s:={ s with toks:=ô+1 }) (W.looks_clsIn X hc) ?_))))));rw[hd'];refine Zb (a:=some dx) (z9 (Zb (z9 ?_)));refine wpAny_nsSet1 (s:={ s with toks:=ô+1 }) I.ns λh' hn2 hs2=>?_;exists[oD,esD,epD,hoD,hdD,hcD],hn2.count (PySem.Within.cons name v hw);refine z9 (wpAny_lookBehind hoD (by rw[hdD];exact pastItsLine_dict (Zr hcD (by rw[Zk];omega))) ?_);exact Zb (h _ #[(hs2.2 _ (ZQ I.ne)).trans I.obj,hn2,I.ne] hs2)
theorem Fe(X:ğ)(hm:W.makesIn K C=true)(hi:W.findIn K É "__init__" = some Ă)(hf:W.typeIn K Ð=some (.type "function"))(h:codeAny Ë (A.under (.builtin "type.__call__" #[.ref C::vs,kw])) (.call Ð #[.ref Ù::vs,kw]) (W.InitBack Ù R)
   { s with heap:=(s.heap.push W.emptyDict).push ã }):
  codeAny Ë A (.call É #[vs,kw]) R s:=by
 exists[hh,g,d,t,os],s;exact W.make_core (W.makes_of X hm) (W.looks_findIn X hi) (λself=>W.bind_fn X self hf) (.inl rfl) h
#check 0
def fJ(f:Ġ)(v:V):List ç->List ç
 | []=>[(f,v)]
 |(g,x)::r=>if g=f then(g,v)::r else(g,x)::fJ f v r
theorem eK(f g:Ġ)(v:V):∀fs:List ç,(fJ f v fs).lookup g=if g=f then some v else fs.lookup g
 | []=>by
  show List.lookup g [(f,v)]=_;by_cases h:g=f
  .have hb:(g==f)=true:=y0.mpr h;simp only[List.lookup,hb,Pb h]
  .have hb:(g==f)=false:=Yi.mpr h;simp only[List.lookup,hb,Pa h]
 |(k,x)::r=>by
  have ih:=eK f g v r;rw[show fJ f v Ę=(if k=f then(k,v)::r else(k,x)::fJ f v r)from rfl];by_cases hk:k=f
  .rw[Pb hk];by_cases h:g=k
   .have hb:ī=true:=y0.mpr h;simp only[List.lookup,hb,Pb (h.trans hk)]
   .have hb:ī=false:=Yi.mpr h;simp only[List.lookup,hb,Pa (λe:g=f=>h (e.trans hk.symm))]
  .rw[Pa hk];by_cases h:g=k
   .have hb:ī=true:=y0.mpr h;simp only[List.lookup,hb,Pa (λe:g=f=>hk (h.symm.trans e))]
   .have hb:ī=false:=Yi.mpr h;simp only[List.lookup,hb];exact ih
theorem oG(f:Ġ)(v:V):∀fs:List ç,f∈(fJ f v fs).map (·.1)/\∀g,g∈fs.map (·.1)->g∈(fJ f v fs).map (·.1)
 | []=>#[by simp[fJ],λg h=>by simp at h]
 |(k,x)::r=>by
  exists[i1,i2],oG f v r;rw[show fJ f v Ę=(if k=f then(k,v)::r else(k,x)::fJ f v r)from rfl];by_cases hk:k=f
  .rw[Pb hk];subst hk;exact#[by simp,λg h=>by simpa using h]
  .rw[Pa hk];refine#[?_,λg h=>?_]
   .rw[Zn];exact Zj _ i1
   .rw[Zn]at h ⊢;rcases Zg.mp h with e|e
    .exact Zg.mpr (.inl e)
    .exact Zj _ (i2 g e)
theorem qD(f:Ġ)(v:V):∀fs:List ç,(fJ f v fs).length<=ý+1
 | []=>by simp[fJ]
 |(k,x)::r=>by
  have ih:=qD f v r;rw[show fJ f v Ę=(if k=f then(k,v)::r else(k,x)::fJ f v r)from rfl];by_cases hk:k=f
  .rw[Pb hk,Zk,Zk];omega
  .rw[Pa hk,Zk,Zk];omega
theorem RelO.some_of(r:RelO (some v) o):∃u,o=some u/\RelV v u:=by
 cases o with
 |none=>exact(show False from r).elim
 |some u=>exact#[u,rfl,r]
theorem RelO.none_of(r:RelO none o):o=none:=by
 cases o with
 |none=>rfl
 |some u=>exact(show False from r).elim
theorem CI(r:RelV v u):W.handedIn u=true:=by
 cases v with
 |non=>cases(show u=Value.none from r);rfl
 |bl b=>cases(show u=Value.bool b from r);rfl
 |int i=>exists[t,e],(show∃t,u=Value.int i t from r);cases e;rfl
 |str x=>exists[t,e],(show∃t,u=Value.str x t from r);cases e;rfl
 |byt b=>exists[t,e],(show∃t,u=Value.bytes b t from r);cases e;rfl
 |flt b=>exists[t,e],(show∃t,u=Value.float b t from r);cases e;rfl
 |ref a=>cases(show u=Value.ref a from r);rfl
 |ty n=>cases(show u=Value.type n from r);rfl
section
variable{fs:List ç}
theorem pV(hok:HOk P w H h)(e:Ê):∃mA,ObjM h a dx C mA/\(∀f,RelO (fs.lookup f) (mA f))/\PySem.Within mA (fs.map (·.1))/\ý<=1000/\H dx=some (.own a):=by
 exists[d,z,ne,ob,mA,n,r,q],(show ObjOk P w H h a (.ins C dx fs)from hok a _ e)
 exact#[mA,#[ob,n,ne],r,q,z,d]
#check 0
structure Cls(K:Qa)(C:Pg):Prop where
 pg:W.plainGet K C Str.empty=true
 hd:W.hasDictIn K C=true
 po:W.plainOver K C=true
 sa:W.findIn K É "__setattr__" = some ä
theorem Cls.get{K:Qa}(c:Cls K C)(f:Ġ):W.plainGet K C f=true:=c.pg
def NoAttr(K:Qa)(C:Pg)(f:Ġ):Prop:=W.findIn K É f=some none
theorem NoAttr.taker{K:Qa}(n:NoAttr K C f):W.takerIn K C f=some none:=by unfold W.takerIn;rw[show W.findIn K É f=some none from n];rfl
structure Con(K:Qa)(C:Pg)(f:Ġ)(v:V)(u:Pi):Prop where
 at_:W.findIn K É f=some (some u)
 rel:RelV v u
 get:W.specialIn K u "__get__" = some none
 cp:W.copiedNames.contains f=false
structure Meth(K:Qa)(C:Pg)(m:Ġ)(f:Pg):Prop where
 at_:W.findIn K É m=some Ă
 fn:W.isFn K Ð=true
 kp:W.keepIn K Ð=true
section
variable{s:Ph}{fs:List ç}{f:Ġ}
theorem Bb{Q:Pd}(I:Å)(e:Ê)(c:ñ)(n:Ķ)(l:fs.lookup f=some v)(h:∀u s',Inv X Pr Z H s'->RelV v u->Q u s'):wpAny Æ A (getAttr à f b) Q E s:=by exists[mA,O,r,_,_,_],pV I.hok e;exists[u,hu,ru],RelO.some_of (v:=v) (o:=mA f) (by rw[<-l];exact r f);exact HK I.kIn O (c.get f) c.hd n hu (CI ru) (h u _ (I.tok _) ru)
theorem mZ{pl:Ĕ}{Q:ġ}(I:Å)(e:Ê)(c:ñ)(k:Meth ĥ C m g)(l:Ģ)(h:Q (.ref g,[.ref a]) s):wpAny Æ A (getMethod à m pl) Q E s:=by exists[mA,O,r,_,_,_],pV I.hok e;have hn:mA m=none:=RelO.none_of (by rw[<-l];exact r m);exact EW I.kIn O (c.get m) k.at_ k.fn hn h
theorem BJ{Q:į}(I:Å)(e:Ê)(c:ñ)(n:Ķ)(hl:ý<1000)(ry:RelV y u)(h:∀s',Inv X Pr Z (upd H a þ) s'->Q () s'):wpAny Æ A (setAttr à f u) Q E s:=by
 exists[mA,O,r,wi,_,ho],pV I.hok e;have hz:(fs.map (·.1)).length<=sizeLine:=by rw[Zd,sizeLine_eq];omega
 refine Jp I.kIn O c.sa c.po n.taker c.hd wi hz λh' O' sb=>h _ ?_;have hd:∃o,h'.get? dx=some o:=let⟨o,_,_,e',_⟩:=O'.ns;#[o,e']
 refine I.write (x:=a) (e:=dx) (by rw[e];exact True.intro) (.inr ho) (λb q hb z=>(sb.2 b hb).trans z) hd ?_;refine#[by rw[af O.ne];exact ho,?_,O.ne,O'.obj,_,O'.ns,λg=>?_,λg hg=>?_]
 .have:=qD f y fs;omega
 .show RelO ((fJ f y fs).lookup g) ð;rw[eK];by_cases q:g=f
  .rw[Pb q,Pb q];exact ry
  .rw[Pa q,Pa q];exact r g
 .by_cases q:g=f
  .rw[q];exact(oG f y fs).1
  .refine(oG f y fs).2 g (wi g λz=>hg ?_);show ð=none;rw[Pa q];exact z
theorem Inv.made(I:Å):Inv X Pr Z (upd (upd H À (.own Ù)) Ù (.ins C À []))
  { s with heap:=(s.heap.push W.emptyDict).push ã }:=by
 have e1:(s.heap.push W.emptyDict).get? À=some W.emptyDict:=Zm Ñ rfl;have e2:((s.heap.push W.emptyDict).push ã).get? Ù=some ã:=by
  have:=Zm (s.heap.push W.emptyDict) (o:=W.instObj C À) rfl
  rwa [Heap.size_push]at this
 have e3:(s.heap.push W.emptyDict).Ns À (λ_=>none):=#[W.emptyDict,#[],_,e1,rfl,(λe he=>absurd he ă),λ_=>rfl]
 have I1:=I.laid (a:=À) (o:=.own Ù) (h':=s.heap.push W.emptyDict) (t':=ô) ę ü #[_,e1];refine I1.laid (a:=À+1) (o:=.ins C À []) (t':=ô) ę (Nat.le_of_eq (Heap.size_push _ _)) ?_;have ne:À≠À+1:=Zy (YK _);refine#[by rw[af ne,ac],ZH _,ne,e2,λ_=>none,(Heap.Ns1.of_empty e3).at λo q=>Za _ q,λ_=>True.intro,λy hy=>absurd rfl hy]
theorem Hs{f:Ġ}{s:Ph}(hb:attributeBase e f env ĳ=eval e env)(h:wpAny Ë A ĳ (λo s₁=>wpAny Ë A (getAttr o f true) Q E s₁) E s):wpAny Ë A (eval Ĉ env) Q E s :=
 Attribute_any_ h (by rw[arm_eval_Attribute,hb])
#check 0
def Gg(K:Qa)(ta:TE)(f:Ġ):TE:=λZ H Q=>ta Z H λx H1=>∃a C dx fs v,x=.ref a/\H1 a=some ö/\Cls K C/\NoAttr K C f/\fs.lookup f=some v/\Q v H1
def LA(K:Qa)(ta tv:TE)(f:Ġ):TS:=λD Z H=>tv Z H λy H1=>ta Z H1 λx H2=>∃a C dx fs,x=.ref a/\H2 a=some ö/\Cls K C/\NoAttr K C f/\ý<1000 /\
 D.nx Z (upd H2 a þ)
section
variable{pos:Pos}
theorem K0(he:PE X e ta)(hb:attributeBase e f Ã (eval e Ã)=eval e Ã):PE X Ĉ (Gg ĥ ta f):=by intro Pr s Z H Q I h;refine Hs hb Î;exists[x,H1,I1,rx,a,C,dx,fs,v,ex,ea,c,n,l,q],hz9;subst ex;obtain rfl:u=Value.ref a:=rx;exact Bb I1 ea c n l λu' s2 I2 ru=>#[v,H1,I2,ru,q]
theorem Lf(ha:ģ)(hv:PE X value tv)(hs:swapsWith value (some (.Attribute o f pos')) pos.line Ã=pure false):PS X (.Assign [.Attribute o f pos'] value pos) (LA ĥ ta tv f):=by intro Pr s Z H D I h;refine plainObj_wpAny_Assign_Attribute (thn (hv Pr s Z H _ I h) λu s1 ⟨y,H1,I1,ry,q⟩=>thn (ha Pr s1 Z H1 _ I1 q) λov s2 hz9=>?_) hs;exists[x,H2,I2,rx,a,C,dx,fs,ex,ea,c,n,l,q2],hz9;subst ex;obtain rfl:ov=Value.ref a:=rx;exact BJ I2 ea c n l ry λs3 I3=>#[Z,_,I3,q2]
#check 0
section
variable{H:Hp}{s:Ph}{Q:Pd}
inductive TyOf(K:Qa)(H:Hp):V->Pi->Prop where
 |non:TyOf K H .non (.type "NoneType")
 |bl (x:Bool):TyOf K H (.bl x) (.type "bool")
 |int (i:Int):TyOf K H (.int i) (.type "int")
 |str (x:Str):TyOf K H (.str x) (.type "str")
 |flt (x:UInt64):TyOf K H (.flt x) (.type "float")
 |lst {a:Pg} {xs:List V} (e:H a=some (.lst xs)):TyOf K H à ħ
 |frz {a:Pg} {o:Obj} {xs:List V} (e:H a=some (.frz o Ą)):TyOf K H à ħ
 |tup {a:Pg} {xs:List V} (e:H a=some (.tup xs)):TyOf K H à (.type "tuple")
 |dK {a:Pg} {kvs:List (Key×V)} (e:H a=some (.dK kvs)):TyOf K H à Ĩ
 |dT {a:Pg} {kvs:List (List Key×V)} (e:H a=some (.dT kvs)):TyOf K H à Ĩ
 |ins {a C dx:Pg} {fs:List (Str×V)} (e:H a=some ö) (cl:Cls K C) (ha:W.findIn K É "__class__" = some (some Ú))
   (hn:W.specialIn K Ú "__get__" = some (some (.builtin "getset_descriptor.__get__"))) (htk:W.takesIn K Ú=some true)
   (hm:W.mroIn K C (.type "object")=some true):TyOf K H à É
theorem CO{u t:Pi}(I:Å)(rx:RelV x u)(ty:TyOf ĥ H x t)(e:W.kitOne ĥ t c=some b)(h:∀tk,Q (.bool b) { s with toks:=tk }):
  wpAny Æ A (call (.builtin "isinstance") [u,c]) Q E s:=by
 cases ty with
 |non=>cases(show u=Value.none from rx);exact Yn W.kitx_none I.kIn True.intro e nofun h
 |bl y=>cases(show u=Value.bool y from rx);exact Yn W.kitx_bool I.kIn True.intro e nofun h
 |int i=>exists[t,q],(show∃t,u=Value.int i t from rx);cases q;exact Yn W.kitx_int I.kIn True.intro e nofun h
 |str y=>exists[t,q],(show∃t,u=Value.str y t from rx);cases q;exact Yn W.kitx_str I.kIn True.intro e nofun h
 |flt y=>exists[t,q],(show∃t,u=Value.float y t from rx);cases q;exact Yn W.kitx_float I.kIn True.intro e nofun h
 |@lst a xs ea =>
  cases(show u=Value.ref a from rx);exists[_,_,n,_,h1],(show ObjOk õ Ō H Ñ a (.lst xs)from I.hok a _ ea)
  exact Yn W.kitx_list I.kIn #[_,h1,rfl] e nofun h
 |@frz a ob xs ea =>
  cases(show u=Value.ref a from rx);exists[_,_,_,n,_,h1],(show ObjOk õ Ō H Ñ a (.frz ob Ą)from I.hok a _ ea)
  exact Yn W.kitx_list I.kIn #[_,h1,rfl] e nofun h
 |@tup a xs ea =>
  cases(show u=Value.ref a from rx);exists[_,_,_,p],(show ObjOk õ Ō H Ñ a (.tup xs)from I.hok a _ ea)
  exists[o,h1,h2,_],p;exact Yn W.kitx_tuple I.kIn #[o,h1,h2] e nofun h
 |@dK a kvs ea =>
  cases(show u=Value.ref a from rx);exists[_,_,vs,_,p],(show ObjOk õ Ō H Ñ a (.dK kvs)from I.hok a _ ea)
  exists[o,es,ep,h1,h2,_],p;exact Yn W.kitx_dict I.kIn #[o,h1,h2.1] e nofun h
 |@dT a kvs ea =>
  cases(show u=Value.ref a from rx);exists[_,_,xs,_,o,es,ep,h1,h2,_],(show ObjOk õ Ō H Ñ a (.dT kvs)from I.hok a _ ea)
  exact Yn W.kitx_dict I.kIn #[o,h1,h2.1] e nofun h
 |@ins a C dx fs ea cl ha hn htk hm =>cases(show u=Value.ref a from rx);exists[mA,O,_],pV I.hok ea;exists[od,J,_],O.look;exact Yn (W.kitx_own (cl.get _) cl.hd ha hn htk hm) I.kIn J e nofun h
#check 0
structure Room(k:Ğ)(A:Pl):Prop where
 hd:A.handled=none
 dp:A.depth+3*k+5<recursionLimit
 un:A.units+16*k+200<cLine
theorem Room.mono{j k:Ğ}(r:İ)(h:j<=k):Room j A:=#[ō,by have:=ļ;omega,by have:=Ľ;omega]
theorem Room.deeper{k:Ğ}(r:ć)(env:Env):Room k (A.deeper env) :=
 #[ō,by have:=ļ;show A.depth+1+3*k+5<_;omega,by have:=Ľ;show A.units+3+16*k+200<_;omega]
theorem Room.in1{k:Ğ}(r:ć):Room k A.in1 :=
 #[ō,by have:=ļ;show A.depth+3*k+5<_;omega,by have:=Ľ;show A.units+1+16*k+200<_;omega]
theorem Bj{A:Pl}:(A.under Â).depth=A.depth+1:=by
 first|rfl|simp[Around.under,Code.weight,Code.isCreation,Code.isGuard,Code.isCaller,Code.frames,Code.isFrame,guardIds]
theorem Bk{A:Pl}:(A.under Â).units=A.units+1:=by
 first|rfl|simp[Around.under,Code.cUnits,Code.frames,Code.isFrame]
theorem Room.make{k:Ğ}(r:ć)(C:Pg)(us:Pf)(kw:æ):Room k Ĵ :=
 #[ō,by have:=ļ;rw[Bj];omega,by have:=Ľ;rw[Bk];omega]
theorem Room.depth{k:Ğ}(r:İ):A.depth<recursionLimit:=by have:=ļ;omega
theorem Room.units{k:Ğ}(r:İ):A.units+64<cLine:=by have:=Ľ;omega
def jE:TA:=λ_ H Q=>Q [] H
def jK(ta:TE)(tr:TA):TA:=λZ H Q=>ta Z H λx H1=>tr Z H1 λxs H2=>Q (x::xs) H2
section
variable{e:Pq}{t:TA}
theorem sG:PA X [] jE:=λ_ _ _ _ H Q I h=>Calls.spliced_nil #[[],H,I,.nil,h]
theorem Ad(ha:PE X e te)(hr:Ĥ)(hs:starEach Ò Ã=Ï::starEach es Ã:=by rfl):PA X Ò ń:=by intro pos Pr s Z H Q I h;rw[hs];show wpAny _ _ (spliced (Ï::backTo pos Ø)) _ _ s;refine Calls.spliced_cons (thn é λu s1 hz9=>?_);exists[x,H1,I1,r1,q1],hz9;exact thn ó λus s2 ⟨xs,H2,I2,r2,q2⟩=>#[x::xs,H2,I2,.cons r1 r2,q2]
def LR(t:TA):TE:=λZ H Q=>t Z H λxs H1=>Ł<=sizeLine/\∀p,H1 p=none->Q (.ref p) (upd H1 p Ņ)
def LL(t:TA):TE:=λZ H Q=>t Z H λxs H1=>Ł<=sizeLine/\∀p,H1 p=none->Q (.ref p) (upd H1 p Ą)
theorem K8{x1}(h:Ĥ):PE X (.Tuple es x1 pos) (LR t):=by intro Pr s Z H Q I hq;refine wpAny_Tuple_spliced Ç;have hf:H1 Í=none:=I1.hok.fresh ü;refine#[.ref Í,upd H1 Í Ņ,I1.laid (t':=s1.toks) Ě ü ?_,rfl,q _ hf];exact#[z,us,r,#[_,Zm _ rfl,rfl,_,rfl]]
theorem K3(h:Ĥ):PE X (.List es pos) (LL t):=by intro Pr s Z H Q I hq;refine wpAny_List_spliced Ç;have hf:H1 Í=none:=I1.hok.fresh ü;refine#[.ref Í,upd H1 Í Ą,I1.laid (t':=s1.toks) Ě ü ?_,rfl,q _ hf];exact#[z,us,0,r,Zm _ rfl]
#check 0
abbrev Sp:=List V->Hp->VK->XK->Prop
abbrev CXT:=List Env->Hp->Ph->XK->Pi->Ph->Prop
structure Env0(P:Pj)(w:Pk)(K:Qa)(mg:Pe)(base:ŋ)(A:Pl)(outer:ï)(s:Ph)(H:Hp):Prop where
 frames:A.frames=some outer
 mod:Mod K mg base
 bs:∀b o,base.get? b=some o->s.heap.get? b=some o/\H b=none
 bsz:base.objs.size<=À
 funs:s.heap.FunFrames base outer
 frf:∀b∈frs outer,H b=none
 hok:HOk P w H Ñ
 bare:AllBare s.gens
def CE(outer:ï)(P:Pj)(w:Pk)(H:Hp)(s:Ph)(Q:VK)(u:Pi)(s':Ph):Prop :=
 ∃v H',s'.os=s.os/\AllBare s'.gens/\Un (frs outer) [] H H' Ñ s'.heap/\HOk P w H' s'.heap/\RelV v u/\Q v H'
def CR(CX:CXT)(outer:ï)(P:Pj)(w:Pk)(H:Hp)(s:Ph)(Q:VK)(E:XK)(r:Result)(s':Ph):Prop :=
 match r with
 |.ok (.ret u)=>CE outer P w H s Q u s'
 |.ok _=>False
 |.error e=>CX outer H s E e s'
structure FnOk(P:Pj)(w:Pk)(K:Qa)(mg:Pe)(base:ŋ)(CX:CXT)(k:Ğ)(f:Pg)(fd:Pm)(ps:Ü)(sp:Sp):Prop where
 len:∀vs H Q E,sp vs H Q E->å=Õ
 run:∀(A:Pl) (outer:ï) (s:Ph) (H:Hp) (args:Args) (us:Pf) (vs:ë) (Q:VK) (E:XK),Room k A->Env0 P w K mg base A outer s H->BindsTo s fd args ò->Vals vs us->sp vs H Q E ->
  codeAny Ļ A (.call Ð args) (CR CX outer P w H s Q E) s
theorem FnOk.imp{K:Qa}{k:Ğ}{sp sp':Sp}(F:↑FnOk CX k f fd ps sp)(h:∀vs H Q E,sp' vs H Q E->sp vs H Q E):↑FnOk CX k f fd ps sp' :=
 #[λvs H Q E q=>F.len vs H Q E (h _ _ _ _ q),λA outer s H args us vs Q E hr he hb hv hs=>F.run A outer s H args us vs Q E hr he hb hv (h _ _ _ _ hs)]
theorem Env0.make{K:Qa}(e:ė)(C:Pg)(us:Pf)(kw:æ):
  Env0 P w K mg base Ĵ outer s H:=#[by first|exact Ŏ|(simpa[Around.under,Code.envs,Code.isFrame,pushEnvs]using Ŏ),e.mod,e.bs,e.bsz,e.funs,e.frf,e.hok,e.bare]
section
theorem Inv.env0(I:Å):Env0 õ Ō ĥ X.mg ľ X.A ā s H :=
 #[I.ok.frames,I.ok.mod,I.bs,Zr I.ok.bsz I.sz,I.stack,I.stkFree,I.hok,I.bare]
theorem Inv.after(I:Å)(h:CE ā õ Ō H s Q u s'):EP X Pr Z Q u s':=by exists[v,H',os,bare,un,hok,r,q],h;exists[hh,g,d,t,os'],s';obtain rfl:os'=s.os:=os;exact#[v,H',I.call (h':=hh) (g':=g) (d':=d) (t':=t) (ch:=[]) un hok bare (λb z=>absurd z ă),r,q]
#check 0
def wC(sp:Sp)(dvs:ë)(E:XK)(t:TA):TE:=λZ H Q=>t Z H λvs H1=>sp ß H1 Q E
inductive IsM(C:Pg)(m:Ġ)(x:V)(H:Hp)(R:Prop):Prop
 |mk (a dx:Pg) (fs:List (Str×V)) (h0:x=.ref a) (h1:Ê) (h2:Ģ) (q:R):IsM C m x H R
def sV(C:Pg)(m:Ġ)(sp:Sp)(dvs:ë)(E:XK)(ta:TE)(t:TA):TE:=λZ H Q=>ta Z H λx H1=>IsM C m x H1 (t Z H1 λvs H2=>sp (x::ß) H2 Q E)
def G9(C:Pg)(sp:Sp)(dvs:ë)(E:XK)(t:TA):TE:=λZ H Q=>t Z H λvs H1=>∀x dx,H1 x=none->H1 dx=none->dx≠x ->
 sp ĵ (upd (upd H1 dx (.own x)) x ĩ) í E
def Binds(K:Qa)(fd:Pm)(ps:Ü)(ds:Pf):Prop :=
 ∀(s:Ph) (us:Pf),K.In Ñ->(us++ds).length=Õ->BindsTo s fd #[us,[]] (ps.zip ú)
theorem Binds.all{K:Qa}{ps:Ü}(h:∀us:Pf,us.length=Õ->bindArgs fd #[us,[]]=pure ò):Binds K fd ps []:=λs us _ hl=>by rw[ZD]at hl ⊢;exact .of_eq (h us hl)
def gE(CX:CXT)(X:Cx)(E:XK):Prop:=∀(Pr:Pc) (Z:St) (H:Hp) (s:Ph) (e:Pi) (s':Ph),Inv X Pr Z H s->CX ā H s E e s'->X.xe e s'
section
variable{X:Cx}{k:Ğ}{f C:Pg}{x:Ġ}{e:Pq}{t:TA}
theorem yq(F:Á)(hr:û)(hb:Ì)(hd:â)(hx:è)(I:Å)(r:ě)(h:sp ß H Q E):wpAny Æ X.A (call Ð us) ĭ X.xe s:=by
 have r2:Vals ß ú:=r.append hd;have hl:(us++ds).length=Õ:=by rw[<-ł];exact F.len _ _ _ _ h
 refine wpAny_call (codeAny_mono (F.run X.A ā s H #[us,[]] ú ß Q E hr I.env0 (hb s us I.kIn hl) r2 h) λr s' hq=>?_);cases r with
 |error e=>exact hx Pr Z H s e s' I hq
 |ok fl =>
  cases fl with
  |ret u=>exact I.after hq
  |next=>exact False.elim hq
  |brk=>exact False.elim hq
  |cont=>exact False.elim hq
theorem IG(F:Á)(hr:û)(hg:ı)(hm:X.mg x=some Ð)(hk:W.keepIn ĥ Ð=true)(hb:Ì)(hd:â)(hx:è)(ha:ą)(hdb:Ó=false:=by decide)(he:starEach Ò Ã=Ï::starEach es Ã:=by rfl)(hpl:(backTo pos Ø).any (·.1)=false:=by rfl) :
  PE X Û (wC sp dvs E t):=by
 intro Pr s Z H Q I h;refine Y0 Ď;refine W.callWith_K (h₀:=ľ) I.ok.mod.kin hk (thn (ha pos Pr s Z H _ I h) λus s1 ⟨vs,H1,I1,r,q⟩=>#[I1.kIn,?_]) he hpl;exact yq F hr hb hd hx I1 r q
theorem Ae{pl:Ĕ}(he:ģ)(c:ñ)(hm:ķ)(F:Á)(hr:û)(hb:Ì)(hd:â)(hx:è)(ha:ą)(hst:starEach Ò Ã=Ï::starEach es Ã:=by rfl)(hpl:(backTo pos Ø).any (·.1)=false:=by rfl)(ht:eval ĉ Ã=(do
   let ov ←eval o Ã
   standAt ĸ
   let(f,first) ←holding [ov] ď
   callWith pos f first (backTo pos (starEach Ò Ã)) ê):=by rfl) :
  PE X ĉ (sV C m sp dvs E ta t):=by
 intro Pr s Z H Q I h;refine W.methodCall_KW (pl:=pl) Î ht;exists[x,H1,I1,rx,a,dx,fs,ex,ea,l,q],hz9;subst ex;obtain rfl:u=Value.ref a:=rx;refine mZ I1 ea c hm l ?_;refine W.callWith_K (first:=[.ref a]) (h₀:=ľ) I.ok.mod.kin hm.kp (thn (ha pos Pr s1 Z H1 _ I1 q) λus s2 ⟨vs,H2,I2,r,q2⟩=>#[I2.kIn,?_]) hst hpl;exact yq (us:=.ref a::us) (vs:=.ref a::vs) F hr hb hd hx I2 (.cons rfl r) q2
theorem FD{pl:Ĕ}(he:ģ)(c:ñ)(hm:ķ)(F:Á)(hr:û)(hb:Ì)(hd:â)(hx:è)(ht:eval Ċ Ã=(do
   let ov ←eval o Ã
   standAt ĸ
   let(f,first) ←holding [ov] ď
   callWith pos f first (backTo pos (starEach [] Ã)) ê):=by rfl) :
  PE X Ċ (sV C m sp dvs E ta jE):=by
 intro Pr s Z H Q I h;refine W.methodCall_KW (pl:=pl) Î ht;exists[x,H1,I1,rx,a,dx,fs,ex,ea,l,q],hz9;subst ex;obtain rfl:u=Value.ref a:=rx;refine mZ I1 ea c hm l ?_;exact W.callWith_K0 (first:=[.ref a]) I1.kIn hm.kp (yq (us:=[.ref a]) (vs:=[.ref a]) F hr hb hd hx I1 (.cons rfl .nil) q)
structure Mk(K:Qa)(C f:Pg):Prop where
 makes:W.makesIn K C=true
 init:W.findIn K É "__init__" = some Ă
 fn:W.isFn K Ð=true
 kp:W.keepIn K É=true
theorem FW{Q:VK}(M:Mk ĥ C f)(F:Á)(hr:Ĳ)(hb:Ì)(hd:â)(hx:è)(I:Å)(r:ě)(h:∀x dx,H x=none->H dx=none->dx≠x->sp ĵ (upd (upd H dx (.own x)) x ĩ) í E):
  wpAny Æ X.A (call É us) ĭ X.xe s:=by
 have hq:=h Ù À (I.hok.fresh (YE _)) (I.hok.fresh ü) (Zy (YK _));have I2:=Inv.made (C:=C) I;have r2:Vals (V.ref Ù::ß) Ė:=.cons rfl (r.append hd);have hl:(Value.ref Ù::us++ds).length=Õ:=by have e:=ł;rw[F.len _ _ _ _ hq]at e;exact e.symm
 refine wpAny_call (Fe (f:=f) I.kIn M.makes M.init (y0.mp M.fn) (codeAny_mono (F.run _ ā _ _ #[Value.ref Ù::us,[]] Ė _ _ E (hr.make C us [])
  (I2.env0.make C us []) (hb _ (Value.ref Ù::us) I2.kIn hl) r2 hq) λr s' hq'=>?_))
 cases r with
 |error e=>exact hx Pr Z _ _ e s' I2 hq'
 |ok fl =>
  cases fl with
  |ret u =>exists[v,H',I3,rv,ev,q3],I2.after hq';subst ev;exact#[rv,#[V.ref Ù,H',I3,rfl,q3]]
  |next=>exact False.elim hq'
  |brk=>exact False.elim hq'
  |cont=>exact False.elim hq'
theorem FB(M:Mk ĥ C f)(F:Á)(hr:Ĳ)(hg:ı)(hm:X.mg x=some É)(hb:Ì)(hd:â)(hx:è)(hdb:Ó=false:=by decide):PE X (.Call (.Name x p) [] [] pos) (G9 C sp dvs E jE):=by intro Pr s Z H Q I h;refine Y0 Ď;exact W.callWith_K0 I.kIn M.kp (FW (us:=[]) M F hr hb hd hx I .nil h)
#check 0
def PK(X:Cx)(kws:List Keyword)(t:TA):Prop :=
 ∀(pos:Pos) (Pr:Pc) (s:Ph) (Z:St) (H:Hp) (Q:List V->Hp->Prop),Inv X Pr Z H s->t Z H Q->wpAny Æ X.A (evalAll ((backToKw pos ċ).map (·.2))) (AP X Pr Z Q) X.xe s
section
variable{k:Ğ}{fd:Pm}{ps ks:Ü}{kpos:Pos}{e:Pq}{t:TA}{nm:Option Str}
theorem DD:PK X [] jE:=λ_ _ _ _ H Q I h=>wpAny_evalAll_nil #[[],H,I,.nil,h]
theorem Ag(ha:PE X e te)(hr:PK X kws t):PK X (#[nm,e,kpos]::kws) ń:=by intro pos Pr s Z H Q I h;show wpAny _ _ (evalAll ((do let v ←eval e Ã;standAt pos;pure v)::(backToKw pos ċ).map (·.2))) _ _ s;refine wpAny_evalAll_cons (z9 (thn é λu s1 ⟨x,H1,I1,r1,q1⟩=>z9 (wpAny_standAt (Zb ?_))));exact thn ó λus s2 ⟨xs,H2,I2,r2,q2⟩=>#[x::xs,H2,I2,.cons r1 r2,q2]
structure KBinds(K:Qa)(fd:Pm)(ps ks:Ü)(g:Pf->Pf->Pf)(gV:List V->List V->List V):Prop where
 to:∀(s:Ph) (us ws:Pf),K.In Ñ->(g us ws).length=Õ->BindsTo s fd #[us,ks.zip ws] (ps.zip ņ)
 rel:∀{vs:ë} {us:Pf} {zs:ë} {ws:Pf},Vals vs us->Vals zs ws->Vals (gV vs zs) ņ
#check 0
structure FnScope(N P:Ü)(sc:Scope):Prop where
 kind:sc.kind=.function
 co:sc.isCoroutine=false
 gen:sc.isGenerator=false
 nd:N.Nodup
 pre:N.take P.length=P
 par:∀x∈P,sc.names.lookup x=some .local\/sc.names.lookup x=some .cell
 nofree:∀y∈Ħ,y.2≠.free
theorem uS{kindOf:Ý}:∀{binds:æ} {m:Pe},Č->bindL kindOf binds m x=m x
 | [],_,_=>rfl
 |(n,v)::r,m,h=>by
  unfold bindL;rw[uS λw hw=>h w Ň];split
  .have:x≠n:=by rintro rfl;exact h v Zq
   simp[this]
  .rfl
theorem uQ{kindOf:Ý}:∀{binds:æ} {m:Pe},Č->bindC kindOf binds m x=m x
 | [],_,_=>rfl
 |(n,v)::r,m,h=>by
  unfold bindC;rw[uQ λw hw=>h w Ň];split
  .rfl
  .have:x≠n:=by rintro rfl;exact h v Zq
   simp[this]
theorem uR{kindOf:Ý}:∀{P:Ü} {vs:Pf} {i:Ğ} {m:Pe},P.Nodup->P[i]?=some x->vs[i]?=some v->kindOf x=some .local ->
  bindL kindOf Ŀ m x=some v
 | [],_,_,_,_,h,_,_=>by simp at h
 |_::_,[],_,_,_,_,h,_=>by simp at h
 |p::P,w::vs,0,m,nd,h1,h2,hk=>by simp at h1 h2;subst h1;subst h2;show bindL kindOf á m p=_;unfold bindL;rw[uS λv hv=>(Z3.mp nd).1 (Y4 hv).1,Pb hk];simp
 |p::P,w::vs,i+1,m,nd,h1,h2,hk=>by show bindL kindOf á m x=_;unfold bindL;exact uR (i:=i) (Z3.mp nd).2 Đ đ hk
theorem uP{kindOf:Ý}:∀{P:Ü} {vs:Pf} {i:Ğ} {m:Pe},P.Nodup->P[i]?=some x->vs[i]?=some v->kindOf x≠some .local ->
  bindC kindOf Ŀ m x=some v
 | [],_,_,_,_,h,_,_=>by simp at h
 |_::_,[],_,_,_,_,h,_=>by simp at h
 |p::P,w::vs,0,m,nd,h1,h2,hk=>by simp at h1 h2;subst h1;subst h2;show bindC kindOf á m p=_;unfold bindC;rw[uQ λv hv=>(Z3.mp nd).1 (Y4 hv).1,Pa hk];simp
 |p::P,w::vs,i+1,m,nd,h1,h2,hk=>by show bindC kindOf á m x=_;unfold bindC;exact uP (i:=i) (Z3.mp nd).2 Đ đ hk
def start(N:Ü)(vs:ë):St:=vs.map some++List.replicate (N.length-å) none
def hZ(CX:CXT)(P:Pj)(w:Pk)(K:Qa)(mg:Pe)(base:ŋ)(N:Ü)(qual:Ġ)(scope:Scope)(f:Pg)(cd:Pi)(A:Pl)(outer:ï)(s:Ph)(H:Hp)(E:XK):Cx where
 prog:=P
 w:=w
 K:=K
 mg:=mg
 base:=base
 A:=A.deeper Þ
 N:=N
 s₀:=s
 H₀:=H
 env:=envOfC qual scope À f cd
 outer:=outer
 stack:=envOfC qual scope À f cd::outer
 ex:=[]
 calm:=true
 fn:=λ_=>true
 pn:=[]
 xe:=λe s'=>wpAny Ļ (A.deeper Þ) (leaving Þ e) (λ_ s''=>CX outer H s E e s'') (λe' s''=>CX outer H s E e' s'') s'
theorem xo{sc:Scope}{n:Ğ}(h:sc.names.lookup x=some .cell):∃c,(cellsFrom n Ħ []).lookup x=some c:=by have q:=W.cellsFrom_some Ħ n [] (.inl h);exact Zv.mp q
theorem CN{K:Qa}{A:Pl}{vs:ë}(S:Ĝ)(hd:A.handled=none)(e0:ė)(hl:å=Õ)(r:ě)(x:InCallC s À (bindL (envOfC qual scope À f cd).kindOf ò λ_=>none) (cellsFrom Ù Ĺ []) (bindC (envOfC qual scope À f cd).kindOf ò λ_=>none) s1):
  Inv (hZ CX P w K mg base N qual scope f cd A outer s H E) [] ì H s1:=by
 have hpl:Õ<=N.length:=by have:=ZO List.length S.pre;rw[y7]at this;omega
 exists[h1,tk,rfl,hk],x.done;have noA:∀b:Pg,b∉(hZ CX P w K mg base N qual scope f cd A outer s H E).ex:=λb z=>absurd (show b∈([]:List Pg)from z) ă;refine#[#[e0.mod,S.kind,rfl,rfl,Ze _,λy z c h1 h2=>?_,λy hy=>?_,λy c _ h=>?_,λ_=>hd,Around.frames_deeper e0.frames,.inr #[rfl,rfl],λb z=>absurd z (noA b),e0.bs,e0.bsz,λb _ _=>noA b,λb z=>absurd z (noA b),e0.funs,e0.frf],
  rfl,e0.bare,Un.kept hk,#[_,x.toInCall.ns,λi y v h1 h2 h3=>?_],λy c h=>#[_,x.cell y c h],e0.hok.fresh ü,λy c h=>?_,λp hp=>absurd (show p∈([]:Pc) from hp) ă,e0.hok.kept hk,?_]
 .exact name_of_addr x.apart (Yj h1) (Yj h2)
 .have hy:scope.names.lookup y=some .cell\/scope.names.lookup y=some .free:=hy;rcases hy with hy|hy
  .exact xo hy
  .exact absurd rfl (S.nofree _ (Yj hy))
 .exact Nat.le_of_lt č
 .have hi:i<å:=by
   unfold start at h2;by_cases hi:i<å
   .exact hi
   .rw[Yr Ē]at h2;rw[List.getElem?_replicate]at h2;split at h2<;>cases h2
  have ha:vs[i]?=some v:=by
   unfold start at h2;rw[List.getElem?_append_left Ē,Zx]at h2;cases e:vs[i]? with
   |none=>rw[e]at h2;cases h2
   |some a=>rw[e]at h2;cases h2;rfl
  exists[u,hu,rv],r.get ha;have hp:ps[i]?=some y:=by rw[<-S.pre,List.getElem?_take_of_lt ∅];exact h1
  have ndP:ps.Nodup:=by rw[<-S.pre];exact S.nd.sublist (List.take_sublist _ _)
  refine#[u,rv,?_];rcases S.par y (Z2 hp)with k|k
  .exact .inl #[k,uR ndP hp hu k]
  .exists[c,e],xo (n:=À+1) k;refine .inr #[.inl k,c,e,?_];have q:=x.cell y c e;rw[uP ndP hp hu (by show scope.names.lookup y≠_;rw[k];decide)]at q;exact q
 .exact e0.hok.fresh (Nat.le_of_lt č)
 .unfold start;show _=N.length;rw[Zh,Zd,Y5];omega
theorem A9{K:Qa}{k:Ğ}{dV kV doc pm cdv ct oc:Pi}{sp:Sp}(lk:K.lookup f=some #[oc,od,.func Ô,osl])(hcd:W.codeIn K cdv qual=true)(S:Ĝ)(len:∀ vs H Q E,sp vs H Q E->å=Õ)(hbody:∀ (A:Pl) (outer:ï) (s:Ph) (H:Hp) (vs:ë) (Q:VK) (E:XK),Room k (A.deeper (envOfC qual scope À f cdv))->sp vs H Q E ->
   ∃ t,PSs Ä body t/\t { nx:=λ_ H'=>Q .non H',rt:=Q } ì H):
  FnOk P w K mg base CX (k+1) f Ô ps sp:=by
 refine#[len,λA outer s H args us vs Q E hr e0 hb r hsp=>?_];have hl:=len _ _ _ _ hsp;have KX:K.In Ñ:=e0.mod.kin.keeps λb o e=>(e0.bs b o e).1;have lim:s.heap.NoLimit:=e0.mod.nolimit.keeps λb o e=>(e0.bs b o e).1;have hkind:∀y∈ps.zip us,scope.names.lookup y.1=some .local\/(scope.names.lookup y.1=some .cell/\((cellsFrom Ù Ĺ []).lookup y.1).isSome=true):=fun⟨n,v⟩ hy=>by
  rcases S.par n (Y4 hy).1 with q|q
  .exact .inl q
  .exact .inr #[q,W.cellsFrom_some _ _ _ (.inl q)]
 refine codeAny_call_function hr.depth (KX _ _ lk) rfl S.co S.gen rfl (W.codeRec_of KX hcd) (hb _ _ _ _ ?_);refine wpAny_newFunctionEnv_cells S.kind hkind λenv he s1 x=>?_;subst he;refine#[lim.keeps x.toInCall.keep,codeAny_func ?_];exists[t,ht,hq],hbody A outer s H vs Q E (hr.deeper _) hsp;have I:Inv Ä [] ì H s1:=CN S hr.hd e0 hl r x;refine ZX (ht [] s1 ì H _ I hq) (λfl s' hs=>?_) λe s' hs=>hs;have fin:∀{σ':St} {H':Hp} {v:V} {u:Pi},Inv Ä [] σ' H' s'->RelV v u->Q v H'->CE outer P w H s Q u s' :=
  fun{σ' H' v u} J rv q=>#[v,H',J.os,J.bare,J.base,J.hok,rv,q]
 cases fl with
 |ret u =>exists[v,σ',H',J,rv,q],hs;exact fin J rv q
 |next =>exists[σ',H',J,q],hs;exact fin (v:=V.non) (u:=Value.none) J rfl q
 |brk =>exists[_,_,_,q],hs;exact False.elim q
 |cont =>exists[_,_,_,q],hs;exact False.elim q
section
variable{e:Pq}{t:TA}{id:String}{r:ĕ}
def tCB(r:ĕ)(t:TA):TE:=λZ H Q=>t Z H λvs H1=>r vs H1 Q
theorem Fy(hc:fZ X Į r)(hg:ı)(hm:ŀ)(hv:bootBuiltins x=some Į)(ha:ą)(hn:x≠"__name__":=by decide)(hdb:Ó=false:=by decide)(he:starEach Ò Ã=Ï::starEach es Ã:=by rfl)(hpl:(backTo pos Ø).any (·.1)=false:=by rfl):PE X Û ň:=by intro Pr s Z H Q I h;refine Y0 ù;exact PyProof.Rows.callWith_builtin1 È he hpl
theorem DB(hc:fZ X Ŋ r)(hg:ı)(hm:ŀ)(hv:bootBuiltins x=some Ŋ)(ha:ą)(hn:x≠"__name__":=by decide)(hdb:Ó=false:=by decide)(he:starEach Ò Ã=Ï::starEach es Ã:=by rfl)(hpl:(backTo pos Ø).any (·.1)=false:=by rfl):PE X Û ň:=by intro Pr s Z H Q I h;refine Y0 ù;exact YH È he hpl
#check 0
end
end Lake
namespace HT
open PySem PyProof.Rows
mutual
#check#[(.int a t),(.int c u),(model prog w)]
def lexLt:Pn->Pn->Bool
 | [],[]=>false
 | [],_::_=>true
 |_::_,[]=>false
 |x::xs,y::ys=>if x=y then lexLt xs ys else decide (x<y)
theorem lexLt_cons(x y:Int)(xs ys:Pn):lexLt (x::xs) (y::ys)=if x=y then lexLt xs ys else decide (x<y):=rfl
theorem vJ:lexLt [] []=false:=rfl
theorem lexLt_nil_cons(y:Int)(ys:Pn):lexLt [] (y::ys)=true:=rfl
theorem tW(x:Int)(xs:Pn):lexLt (x::xs) []=false:=rfl
theorem eqAt_int(A:Pl)(s:Ph)(a:Int)(t:Tok)(c:Int)(u:Tok):∃e,SeqAt.EqAt A s À Á e/\(e=true↔a=c) :=
 #[(a==c),SeqAt.EqAt.int_int a t c u,by simp]
theorem FT(A:Pl)(s:Ph)(a:Int)(t:Tok)(c:Int)(u:Tok)(prog:Pj)(w:Pk)(E:Pd)(Q:Pd)(h:Q (.bool (decide (a<c))) s) :
  wpAny Â A (richCompare .Lt À Á) Q E s :=
 (PyProof.Rows.lt_int h:wpAny Â A (compareOp .Lt À Á) Q E s)
section
end
open PySem.SeqAt
open PySem.AutoSeq1 (wpAny_loadPart')
open PySem.MeetsSeq PySem.MeetsSeq2 PySem.MeetsSeq3
mutual
#check#[items.size,(sIx À À hi-sIx À 0 lo),((sIx n 0 lo:Nat):Int),(if v<0 then max (v+(n:Int)) 0 else min v (n:Int)),(Zb #[_,rfl,Zb h]),(if v<0 then(v+(n:Int)).toNat else min v.toNat n),(model prog w),(((sIx À 0 lo:Nat):Int)==0&&(1:Int)==1&&Á==À),(.bool (lexLt ns ms)),(PySem.F.args_tuple_add_2 _ _),(s.heap.IsSliceOf sl vl vu .none),vs.toArray,ws.toArray,(Option Int),items2.toList,(sIx À 0 lo),(.ref s.heap.objs.size),(Int),items.toList,((sIx n n hi:Nat):Int),items2.size,(.ref t),(by simpa using hv),0,(Array Pi),s.heap,ht.typeIs,(.ref sl),(ZS Ä htake),(Nat),(IntsAre Ò ns),(IntsAre Î ms),s.heap.push,(IsPart vl lo),(IsPart vu hi)]
theorem we(l b:Pg)(items items2:Ø)(n n2:Ý)(dd dd2:Option Pg)(sl sl2:Array (Option Pi))(ns ms:Pn)(hi:Þ)(hj:ß) :
  Meets (Builtin.«tuple.__lt__» #[[.ref l,.ref b],[]])
   (λ_ R s=>s.heap.get? l=some { cls:=.type "tuple",dict:=dd,data:=.seq items n,slots:=sl }/\s.heap.get? b=some { cls:=.type "tuple",dict:=dd2,data:=.seq items2 n2,slots:=sl2 } /\
    R (.ok (.ret È)) s) :=
 .of_wp λprog w A R s h=>by
  exists[hp,g,d,tk,os],s;exists[hl,hb,h],h;have f2:=AutoSeq1.sub_tuple_tuple;have z1:À=ns.length:=by rw[<-hi.length];simp
  have z2:Ô=ms.length:=by rw[<-hj.length];simp
  wp_walk using wpAny_loadPart' hl,wpAny_loadPart' hb,wpAny_forIn_list _ (λrest b s'=>b.1=none/\s'=#[hp,g,d,tk,os]/\∃ (vs ws:Pf) (ns' ms':Pn),rest=vs.zip ws /\
   IntsAre vs ns'/\IntsAre ws ms'/\ns'.length+Ô=ms'.length+À/\R (.ok (.ret (.bool (lexLt ns' ms')))) #[hp,g,d,tk,os]) _
  case turn =>
   rintro⟨y,x⟩ rest b s' ⟨hb',rfl,vs,ws,ns',ms',hz,hvi,hwi,hlen,hR⟩;cases hvi with
   |nil=>rw[List.zip_nil_left]at hz;cases hz
   |cons a t hvi' =>
    cases hwi with
    |nil=>rw[List.zip_nil_right]at hz;cases hz
    |cons c u hwi' =>
     rw[Y1]at hz;injection hz with hyx hrest;injection hyx with hy hx;subst hy hx;rw[lexLt_cons]at hR;simp only[Zk]at hlen;exists[e,he,hiff],eqAt_int A.in1 #[hp,g,d,tk,os] a t c u;refine z9 (he prog w _ _ ?_);cases e with
     |true =>
      rw[Pb (hiff.mp rfl)]at hR
      wp_walk
      exact#[rfl,rfl,_,_,_,_,hrest,hvi',hwi',∅,hR]
     |false =>
      rw[Pa (λq=>absurd (hiff.mpr q) Zt)]at hR;have hri:=FT A.in1 #[hp,g,d,tk,os] a t c u prog w
      wp_walk using hri
      exact#[_,rfl,by simpa using hR]
  case fin =>
   rintro⟨b1,b2⟩ s' ⟨hb',rfl,vs,ws,ns',ms',hz,hvi,hwi,hlen,hR⟩;simp only at hb';subst hb';have hv:lexLt ns' ms'=decide (À<Ô):=by
    cases hvi with
    |nil =>
     cases hwi with
     |nil =>simp only[Z8]at hlen;rw[vJ];exact(decide_eq_false ∅).symm
     |cons c u hw =>simp only[Z8,Zk]at hlen;rw[lexLt_nil_cons];exact(decide_eq_true ∅).symm
    |cons a t hv =>
     cases hwi with
     |nil =>simp only[Z8,Zk]at hlen;rw[tW];exact(decide_eq_false ∅).symm
     |cons c u hw =>rw[Y1]at hz;cases hz
   rw[hv]at hR
   wp_walk
   exact#[_,rfl,by simpa[Builtin.Tuple.tupleCompareSizes]using hR]
  case h =>exact#[rfl,rfl,Ò,Î,ns,ms,rfl,hi,hj,∅,h]
#check 0
section
variable{A:Pl}{s:Ph}
theorem lt_tupInts{items items2:Ø}{Q:Pd}(hl:IsTup Ù l items)(hb:IsTup Ù b items2)(hi:Þ)(hj:ß)(hu:A.units<cLine)(h:Q È s):wpAny Æ A (compareOp .Lt (.ref l) (.ref b)) Q E s:=by
 obtain⟨⟨cls,dd,data,sl⟩,ho,hc,n,hd⟩:=id hl;obtain⟨⟨cls2,dd2,data2,sl2⟩,ho2,hc2,n2,hd2⟩:=id hb;simp only at hc hd hc2 hd2;subst hc hd hc2 hd2;exact richCompare_meets_room (op:=.Lt) #[_,ho,rfl] #[_,ho2,rfl] PySem.F.slot_tuple_lt PySem.F.entry_tuple_lt (PySem.F.args_tuple_lt_2 _ _) (we l b items items2 n n2 dd dd2 sl sl2 ns ms hi hj)
  #[ho,ho2,show Value.bool (lexLt ns ms)≠Value.notImplemented/\Q È s from#[(λx=>nomatch x),h]] hu
theorem cat_tup{t b:Pg}{vs ws:Pf}{Q:Pd}(ht:IsTup Ù t Ë)(hb:IsTup Ù b Ì)(hv:vs≠[])(h1:ws=[]->Q Õ s)(h2:ws≠[]->Q Ð { s with heap:=à { cls:=.type "tuple",data:=.seq (vs++ws).toArray } })(hsz:vs.length+ws.length<=sizeLine):wpAny Æ A (binaryOp .Add Õ (.ref b)) Q E s:=by
 obtain⟨⟨cls,dd,data,sl⟩,ho,hc,n,hd⟩:=id ht;obtain⟨⟨cls2,dd2,data2,sl2⟩,ho2,hc2,n2,hd2⟩:=id hb;simp only at hc hd hc2 hd2;subst hc hd hc2 hd2;have e:Ë++Ì=(vs++ws).toArray:=by simp
 by_cases hw:ws=[]
 .exact concat_meets #[_,ho,rfl] #[_,ho2,rfl] noFill_tuple_add seq_tuple_add PySem.F.slot_tuple_add PySem.F.entry_tuple_add É
   (tuple_addW1 t b Ë Ì n n2 dd dd2 sl sl2 Ö (by simp[hw])) #[ho,ho2,h1 hw]
 .refine concat_meets #[_,ho,rfl] #[_,ho2,rfl] noFill_tuple_add seq_tuple_add PySem.F.slot_tuple_add PySem.F.entry_tuple_add É
   (tuple_addW2 t b Ë Ì n n2 dd dd2 sl sl2 Ö (by simpa using hw) (by rw[Zl,Zl];exact hsz)) #[ho,ho2,?_]
  rw[e];exact h2 hw
def sIx(n d:Ý):Option Int->Nat
 |none=>d
 |some v=>if v<0 then(v+(n:Ñ)).toNat else min v.toNat n
theorem sIx_none(n d:Ý):sIx n d none=d:=rfl
theorem sIx_nat(n d k:Ý):sIx n d (some (k:Ñ))=min k n:=by show(if(k:Ñ)<0 then((k:Ñ)+(n:Ñ)).toNat else min (k:Ñ).toNat n)=min k n;rw[Pa ∅,YS]
theorem LB(n d:Ý)(hd:d<=n)(o:Í):sIx n d o<=n:=by
 cases o with
 |none=>exact hd
 |some v =>
  show Å<=n;by_cases hv:v<0
  .rw[Pb hv];omega
  .rw[Pa hv];exact Nat.min_le_right _ _
theorem zA(v:Ñ)(n d:Ý):Ã=((sIx n d (some v):Nat):Int):=by
 show Ã=((Å:Ý):Int);by_cases hv:v<0
 .simp only[Pb hv];omega
 .simp only[Pa hv];omega
theorem AQ(lo hi:Í)(n:Ý):Builtin.Slice.sliceAdjust lo hi 1 (n:Ñ)=(Â,Ó):=by
 have h1:¬((1:Ñ)<0):=∅
 unfold Builtin.Slice.sliceAdjust;simp only[h1,if_false];refine Prod.ext ?_ ?_
 .cases lo with
  |none=>rfl
  |some v=>exact zA v n 0
 .cases hi with
  |none=>rfl
  |some v=>exact zA v n n
theorem BA(i j:Ý):Builtin.Slice.slicePlaces (i:Ñ) (j:Ñ) 1=j-i:=by
 unfold Builtin.Slice.slicePlaces;have h1:(1:Ñ)>0:=∅
 simp only[h1,if_true,Int.ediv_one];split<;>omega
theorem sQ{Q:Option Int->Ph->Prop}(p:IsPart v o)(h:Q o s):wpAny Æ A (Builtin.Slice.slicePartIndex v) Q E s:=by
 cases p with
 |none=>exact slicePart_none h
 |int i t=>exact slicePart_int h
theorem sliceApplied_gen{lo hi:Í}{n:Ý}{Q:Int×Int×Nat->Ph->Prop}(hs:Ê)(pl:á)(pu:â)(h:Q (Â,1,sIx n n hi-sIx n 0 lo) s):wpAny Æ A (Builtin.Slice.sliceApplied Û (pure (n:Ñ))) Q E s:=by exists[os,hos,hcs,hds],id hs;unfold Builtin.Slice.sliceApplied Builtin.Slice.sliceFields;refine z9 (z9 (ZY hos hds (x:=vl) rfl (z9 (ZY hos hds (x:=vu) rfl (z9 (ZY hos hds (x:=.none) rfl (Zb ?_)))))));refine z9 (slicePart_none ?_);show wpAny _ _ (if((1:Ñ)==0)=true then _ else _) _ _ s;rw[Pa ⋯];refine z9 (sQ pl (z9 (sQ pu (z9 (Zb ?_)))));show wpAny _ _ (match Builtin.Slice.sliceAdjust lo hi 1 (n:Ñ)with|(lo,hi)=>pure (lo,(1:Ñ),Builtin.Slice.slicePlaces lo hi 1)) _ _ s;rw[AQ lo hi n];show wpAny _ _ (pure (Â,(1:Ñ),Builtin.Slice.slicePlaces Â Ó 1)) _ _ s;rw[BA];exact Zb h
theorem FG(xs:Ø)(i k:Ý):((List.range k).filterMap fun(m:Nat)=>xs[((i:Ñ)+(m:Ñ)*1).toNat]?).toArray=((xs.toList.drop i).take k).toArray:=by
 have e:(fun(m:Nat)=>xs[((i:Ñ)+(m:Ñ)*1).toNat]?)=λm=>xs[i+m]?:=by
  funext m;have:((i:Ñ)+(m:Ñ)*1).toNat=i+m:=∅
  rw[this]
 rw[e];have:=pick_run xs i k;rw[List.filterMap_map]at this;have e2:((λx=>xs[x]?)∘λx=>i+x)=λm=>xs[i+m]?:=rfl;rw[e2]at this;rw[this]
theorem getItem_tuple_cut{t sl:Pg}{items:Ø}{lo hi:Í}{Q:Pd}(ht:IsTup Ù t items)(hs:Ê)(pl:á)(pu:â)(hw:¬(sIx À 0 lo=0/\sIx À À hi=À))(h:Q Ð { s with heap:=à { cls:=.type "tuple",data:=.seq ((items.toList.drop Ï).take Á).toArray } })(hsz:À<=sizeLine):wpAny Æ A (getItem Õ Û) Q E s:=by
 have htake:sizeOk (.seq ((items.toList.drop Ï).take Á).toArray):=by show((items.toList.drop Ï).take Á).toArray.size<=sizeLine;rw[Zl,y7,YL,ZM];omega
 have hj:sIx À À hi<=À:=LB _ _ (Ze _) hi;exists[os,hos,hcs,hds],id hs;have hTs:s.TypeIs Û "slice":=#[os,hos,hcs]
 unfold getItem
 try with_reducible refine ZU ?_
 first|refine z9 (Zb ?_)|skip
 refine z9 (wpAny_sequenceKey Ú ⋯ ?_);refine z9 (Z4 (name:=Str.ofString "__getitem__") Ú Ye
  (ZZ Ye Ú entry_tuple_getitem ?_ (args_tuple_getitem _ _)))
 show wpAny _ _ (Builtin.Tuple.tupleItemsOf Õ >>= _) _ _ s;refine z9 (tupleItemsOf_ ht ?_);refine z9 (wpAny_typeOf hTs ?_);rw[Pb ⋯];refine z9 (sliceApplied_gen hs pl pu ?_);have hno:¬(Ç=true):=by intro q;rw[ZN,ZN]at q;have q1:((sIx À 0 lo:Ý):Int)=0:=eq_of_beq q.1.1;have q2:sIx À À hi-sIx À 0 lo=À:=eq_of_beq q.2;exact hw #[∅,∅]
 show wpAny _ _ (if Ç=true then _ else _) _ _ s;rw[Pa hno,FG]
 first
  |exact z9 (m:=Builtin.Tuple.tupleExact _) Ü
  |exact z9 (m:=Builtin.Tuple.tupleExact _) (ZS (z9 (Zb Ä)) htake)
  |exact z9 (z9 (m:=Builtin.Tuple.tupleExact _) (ZS (Zb Ä) htake))
  |exact z9 (z9 (m:=Builtin.Tuple.tupleExact _) Ü)
#check 0
end
end HT
namespace Lake
open PySem PySem.Spec PyProof.Rows
mutual
#check#[xs.length,s.heap.objs.size,its.toArray,(Inv X Pr Z H s),(model X.prog X.w),its.toArray.size,(λw hw=>kl rx fx r fs w (by simpa using hw)),kvs.length,(by simp only[Zl]<;>omega),X.env,(kvs.any λkv=>decide (kv.1=k)),(if ([]:List Keyword).isEmpty then 0 else 1),(I.hok.fresh (Ze _)),(a==sysModules),(Option Int),(tupleKind_room_in1 hu),(V->List V->Hp->VK->Prop),(.lst xs),(HT.sIx À À hi-HT.sIx À 0 lo),(.tup (k.map kV)),(model prog w),(eqU x),(List (Key×V)),0,(.builtin id),(RelV y u),(List.toArray [vl,vu,.none]),ys.length,(by rw[e];exact True.intro),s.toks,(.dK kvs),(.dT kvs),(apos.endLine==cpos.line),(bu P w),(HOk P w H h),(X.A.units+1<cLine),(kvs.map λkv=>if kv.1=k then(kv.1,y)else kv),(EP X Pr Z Q),pl.isList,(ho Pr s1 Z H1 _ I1 q1),k.toNat,its.length,its.toArray.any,(.ref p),(typeOf Ø=pure (.type "method_descriptor")),(List (κ×V)),(λh' c' kp e=>fin its r' hz h' c' kp e),(thn (ho Pr s Z H _ I h) λv s1 hz9=>?_),(A.units+1<cLine),r.length,(V->Option Int->Option Int->Hp->VK->Prop),(List Key),(.ref a),(KV kvs vs),(keywordEach [] É),0,(I.tok _),(Ze _),(ce xs lo hi),(jg I.hok eb),(λb ob q=>Za _ q),(List Key×Pg×Pi),(List V),s3.heap.objs.size,(SqL X.K H p ys\/SqT X.K H p ys),(λx=>x.1.isSome),(false,eval e É),(λx1 x2=>x1++x2),(λ_ _ q=>Za _ q),(by rw[Zl];omega),(h1.trans z),h.objs.size,(HT.sIx À 0 lo),(aS kvs p.1 p.2),(upd H p (.lst (xs.set j v))),(eval o É),(H l=some Ñ),(KT H kvs xs),(atI xs i=some v),o.isSome,(by rw[hj];simpa using ew),(by rw[hk];exact#[_,I',q]),(by rw[l];exact rel.val k),(.inl rfl),(bc kvs k),(String),slot_list_getitem.lookup,(.Attribute o name apos),dd.typeIs,(List Key×V),s3.heap.push,(.lst ys),(by simp),(.tup ys),(.Slice lo hi none p2),(PE X o td),(PE X i ty),(aS kvs k v),(List (V×V)->Hp->Prop),(List α),(Û<=sizeLine),(DGet H a y o),(Option Int->Hp->Prop),its.toArray.isEmpty,(λx=>!x.1),(ks.map kV),(by rw[Zl]<;>omega),(hi Pr s Z H _ I h),(starEach [e,f] É),(Nat),(H b=some Ó),(H a=some ß),X.prog,(List.toArray [c]),its2.toArray.size,(call Ø (v::us)),(h1.symm.trans e),(starEach [e] É),(Vals xs us),pl.isList.typeIs,(Option Pq),(e::es),(q::qs),(pY ry),(starEach es É),(binaryOp .Add),(.lst (xs++zs)),X.xe,s.heap,dd.mapOf,(Obj.mapSeq f),(tupleKind á),(kV kv.1,kv.2),(Int),X.K,(kv.1=k),(.dK []),0,(TE×TE),(qw xs lo hi),(getItem o i),(r.append r2),(κ×V),(RelV x v),(Slot T name id),(List (Key×Pi)),i.toNat,its2.toArray,(upd H l ě),(aS kvs k y),(upd H a ob),(ZQ (Zy hb)),(sysModules<ć),xs.dropLast,acc.toArray,s.heap.push,keys.length,(λz=>e Ć),(Type),(Vals ys its'),(PlainAttrs T),(acc++its),(H p=some Ñ),(H a=some Þ),zs.length,vs.length,ov.isSome,(.type T),(some Ø),(.lst zs),(Pos),(MtR X id r),X.A,z.length]
abbrev TO:=St->Hp->Ħ->Prop
def PO(X:Cx)(e:ĸ)(t:TO):Prop :=
 ∀(Pr:Pc) (s:Ph) (Z:St) (H:Hp) (Q:Ħ),Inv X Pr Z H s->t Z H Q ->
  wpAny Ä Ŭ (evalPart e É) (λu s'=>∃o H',Inv X Pr Z H' s'/\IsPart u o/\Q o H') Ŀ s
def Aw:TO:=λ_ H Q=>Q none H
inductive IsI(x:V)(R:Int->Prop):Prop
 |mk (i:Int) (h:x=.int i) (q:R i):IsI x R
def Hb(t:TE):TO:=λZ H Q=>t Z H λx H1=>IsI x λi=>Q (some i) H1
theorem bQ{ns:Pn}:∀{us:Pf},Vals (ns.map V.int) us->IntsAre us ns:=by
 induction ns with
 |nil=>intro us r;rw[List.map_nil]at r;cases r;exact .nil
 |cons n ns ih =>
  intro us r;rw[Zn]at r;cases r with
  |cons r1 r2 =>exists[t,e],r1;subst e;exact .cons n t (ih r2)
section
variable{X:Cx}{te:TE}{lo hi:ĸ}{tl th:TO}
theorem IW:PO X none Aw:=by intro Pr s Z H Q I h;rw[evalPart_none];exact Zb #[none,H,I,.none,h]
theorem IX(h:PE X e te):PO X (some e) (Hb te):=by intro Pr s Z H Q I hw;rw[evalPart_some];refine thn (h Pr s Z H _ I hw) λu s1 hz9=>?_;exists[x,H1,I1,r1,q1],hz9;exists[i,rfl,q],q1;exists[t,rfl],r1;exact#[some i,H1,I1,.int i t,q]
def SlR(X:Cx)(r:ò):Prop :=
 ∀(Pr:Pc) (s:Ph) (Z:St) (H:Hp) (x:V) (v vl vu:Pi) (lo hi:Î) (sl:Pg) (Q:VK),Inv X Pr Z H s->RelV x v->s.heap.IsSliceOf sl vl vu .none->IsPart vl lo->IsPart vu hi->r x lo hi H Q ->
  ∃T id,typeLookup ŧ "__getitem__" = pure Ũ/\s.TypeIs v T/\wpAny Ä Ŭ (getItem v (.ref sl)) å Ŀ s
def tSl(r:ò)(te:TE)(tl th:TO):TE:=λZ H Q=>te Z H λx H1=>tl Z H1 λl H2=>th Z H2 λu H3=>r x l u H3 Q
theorem FE(hr:SlR X r)(he:PE X e te)(hl:PO X lo tl)(hu:PO X hi th):PE X (.Subscript e Ğ pos) (tSl r te tl th):=by intro Pr s Z H Q I h;refine Subscript_ (thn (he Pr s Z H _ I h) λv s1 hz9=>?_);exists[x,H1,I1,r1,q1],hz9;refine wpAny_Slice (thn (hl Pr s1 Z H1 _ I1 q1) λvl s2 ⟨l,H2,I2,pl,q2⟩=>thn (hu Pr s2 Z H2 _ I2 q2) λvu s3 hz9=>?_);exists[u,H3,I3,pu,q3],hz9;rw[evalPart_none];refine Zb ?_;have I4:Inv X Pr Z H3 { s3 with heap:=Ě { cls:=.type "slice",data:=.fields Ú } }:=I3.kept (t':=s3.toks) λb ob q=>Za _ q;exists[T,id,hT,ht,hg],hr Pr { s3 with heap:=Ě { cls:=.type "slice",data:=.fields Ú } } Z H3 x v vl vu l u ÿ Q I4 r1 (Heap.IsSliceOf.new ..) pl pu q3;show wpAny Ä Ŭ (subscriptTail e Ğ v (.ref ÿ)) å Ŀ { s3 with heap:=Ě { cls:=.type "slice",data:=.fields Ú } };exact tail_any (ops:=[.ref ÿ,v]) ht hT hg (by with_unfolding_all rfl)
def ce(xs:þ)(lo hi:Î):List V:=(xs.drop Ĉ).take Ò
theorem qw(xs:þ)(lo hi:Î):(ce xs lo hi).length<=À:=by unfold ce;rw[y7,YL];omega
inductive rSlT(K:Qa)(x:V)(lo:Î)(hi:Î)(H:Hp)(Q:VK):Prop
 |mk (a xs:_) (h0:x=.ref a) (h1:SqT K H a xs) (h2:¬(HT.sIx À 0 lo=0/\HT.sIx À À hi=À)) (h3:∀p,H p=none->Q ë (upd H p (.tup ú))):rSlT K x lo hi H Q
theorem LF:SlR X (rSlT ņ):=by
 intro Pr s Z H x v vl vu lo hi sl Q I rx hs pl pu h;exists[a,xs,rfl,hx,hw,q],h;cases rx;exists[its,r,ht,hz],I.tuple hx;have hlen:Å=À:=by rw[Zl];exact r.length.symm
 refine#["tuple",_,Ye.lookup,ht.typeIs,?_];refine HT.getItem_tuple_cut ht hs pl pu (by rw[hlen];exact hw) ?_ (by rw[hlen];exact hz);rw[hlen];refine#[.ref Á,_,I.laid (t':=Ý) (o:=.tup ú) ü ù ?_,rfl,q _ Ì];exact#[Zr ŋ hz,_,(r.drop Ĉ).take Ò,IsTup.new _ _]
def MK(K:Qa):R2:=λx y H Q=>∃a b xs ys,x=.ref a/\y=.ref b/\SqT K H a xs/\SqT K H b ys/\xs≠[]/\À+Û<=sizeLine /\
 (ys=[]->Q ô H)/\(ys≠[]->∀p,H p=none->Q ë (upd H p (.tup (xs++ys))))
theorem Vals.nil_iff(r:Ķ):us=[]↔xs=[]:=by
 cases r with
 |nil=>simp
 |cons _ _=>simp
theorem Iy:OpR X Ľ (MK ņ):=by intro Pr s Z H x y v u Q I rx ry h;exists[a,b,xs,ys,rfl,rfl,ha,hb,hx,hz,q1,q2],h;cases rx;cases ry;exists[its,r1,p1,_],I.tuple ha;exists[its2,r2,p2,_],I.tuple hb;refine HT.cat_tup p1 p2 (λz=>hx (r1.nil_iff.mp z)) (λz=>#[.ref a,H,I,rfl,q1 (r2.nil_iff.mp z)]) (λz=>?_) (by rw[<-r1.length,<-r2.length];exact hz);refine#[.ref Á,_,I.laid (t':=Ý) (o:=.tup (xs++ys)) ü ù ?_,rfl,q2 (λw=>z (r2.nil_iff.mpr w)) _ Ì];exact#[by rw[Zh];exact hz,_,r1.append r2,IsTup.new _ _]
#check 0
def ixN(n:ĭ)(i:Ņ):Option Nat:=if 0<=i then(if i<n then some Œ else none)else if -(n:Ņ)<=i then some (i+n).toNat else none
def atI{α:Ş}(xs:ģ)(i:Ņ):Option α:=(ixN À i).bind λj=>xs[j]?
theorem zT{n:ĭ}{i:Ņ}{j:ĭ}(h:ixN n i=some j):seqIndex? i n=some j/\j<n/\-(n:Ņ)<=i/\i<n:=by
 unfold ixN at h;by_cases h0:0<=i
 .rw[Pb h0]at h;by_cases h1:i<n
  .rw[Pb h1]at h;have e:Œ=j:=Zo h;exact#[by rw[seqIndex_of h0 h1,e],∅,∅,h1]
  .rw[Pa h1]at h;cases h
 .rw[Pa h0]at h;by_cases h1:-(n:Ņ)<=i
  .rw[Pb h1]at h;have e:(i+n).toNat=j:=Zo h;exact#[by rw[seqIndex_neg ∅ h1,e],∅,h1,∅]
  .rw[Pa h1]at h;cases h
theorem tD{α:Ş}{xs:ģ}{i:Ņ}{v:α}(h:Ď):∃j,seqIndex? i À=some j/\xs[j]?=some v/\j<À/\-(À:Ņ)<=i/\i<À:=by
 unfold atI at h;cases e:ixN À i with
 |none=>rw[e]at h;cases h
 |some j =>rw[e]at h;exists[h1,h2,h3,h4],zT e;exact#[j,h1,h,h2,h3,h4]
theorem ge{α:Ş}{xs:ģ}{j:ĭ}{v:α}(h:xs[j]?=some v):atI xs (j:Ņ)=some v:=by
 have hj:j<À:=(Zz.mp h).1;have e:ixN À (j:Ņ)=some j:=by unfold ixN;rw[Pb ∅,Pb ∅];simp
 unfold atI;rw[e];exact h
def zr(b:Pq):Prop:=∀o i,subscripted b false o i=operate [o,i] Ō
def IxR(X:Cx)(r:R2):Prop :=
 ∀(value slice:Pq) (Pr:Pc) (s:Ph) (Z:St) (H:Hp) (x y:V) (v u:Pi) (Q:VK),Inv X Pr Z H s->RelV x v->RelV y u->r x y H Q ->
  subscripted slice false v u=operate [v,u] (getItem v u)->wpAny Ä Ŭ (subscriptTail value slice v u) å Ŀ s
def MtR(X:Cx)(id:ĕ)(r:Ð):Prop :=
 ∀(Pr:Pc) (s:Ph) (Z:St) (H:Hp) (x:V) (xs:þ) (v:Pi) (us:Pf) (Q:VK),Inv X Pr Z H s->RelV x v->Vals xs us->r x xs H Q ->
  wpAny Ä Ŭ ĳ å Ŀ s
section
variable{X:Cx}{a b:Pq}{ta tb:TE}{pos:Ū}
theorem MC(hr:IxR X r)(ha:PE X a ta)(hb:PE X b tb)(hs:zr b):PE X (.Subscript a b pos) (tOp r ta tb):=by intro Pr s Z H Q I h;exact Subscript_ (Ez ha hb I h λv u s2 x y H2 I2 rx ry q=>hr a b Pr s2 Z H2 x y v u Q I2 rx ry q (hs _ _))
inductive rIxL(K:Qa)(x:V)(y:V)(H:Hp)(Q:VK):Prop
 |mk (p xs i v:_) (h0:x=.ref p) (h1:y=.int i) (h2:SqL K H p xs) (h3:Ď) (h4:Q v H):rIxL K x y H Q
inductive rIxT(K:Qa)(x:V)(y:V)(H:Hp)(Q:VK):Prop
 |mk (p xs i v:_) (h0:x=.ref p) (h1:y=.int i) (h2:SqT K H p xs) (h3:Ď) (h4:Q v H):rIxT K x y H Q
def Lr:R2:=λx y H Q=>∃z i c,x=.str z/\y=.int i/\ŭ<=sizeLine/\atI z.cps.toList i=some c/\Q (.str #[ı]) H
theorem Ia:IxR X (rIxL ņ):=by
 intro value slice Pr s Z H x y v u Q I rx ry h hs;exists[p,xs,i,z,rfl,rfl,hq,he,q],h;cases rx;exists[t,rfl],ry;exists[its,r,pl,hz],I.list hq;exists[j,h1,h2,h3,h4,h5],tD he;exists[w,ew,rw'],r.get h2;have hl:=ñ;have hn:=oK;have fin:EP X Pr Z Q w s:=#[z,H,I,rw',q]
 by_cases h0:0<=i
 .have hj:Œ=j:=by rw[seqIndex_of h0 h5]at h1;exact Zo h1
  exact item_listR æ h0 ∅ Đ fin hs
 .have hj:(i+(Å:Ņ)).toNat=j:=by rw[seqIndex_neg ∅ h4]at h1;rw[Zl,<-hl];exact Zo h1
  exact subscriptTail_builtinR (x:=w) ķ Ė
   (wpAny_getItem_list_neg (Q:=λr s'=>r=w/\EP X Pr Z Q r s') æ ∅ Ī ∅ Đ #[rfl,fin]) hs
theorem Km:IxR X (rIxT ņ):=by
 intro value slice Pr s Z H x y v u Q I rx ry h hs;exists[p,xs,i,z,rfl,rfl,hq,he,q],h;cases rx;exists[t,rfl],ry;exists[its,r,pl,hz],I.tuple hq;exists[j,h1,h2,h3,h4,h5],tD he;exists[w,ew,rw'],r.get h2;have hl:=ñ;have hn:=oK;have fin:EP X Pr Z Q w s:=#[z,H,I,rw',q]
 exact subscriptTail_builtinR (x:=w) pl.typeIs slot_tuple_getitem.lookup
  (getItem_tuple (j:=j) (Q:=λr s'=>r=w/\EP X Pr Z Q r s') pl ∅ ∅ (by rw[Zl,<-hl];exact h1) (by simpa using ew) #[rfl,fin]) hs
theorem Kl:IxR X Lr:=by
 intro value slice Pr s Z H x y v u Q I rx ry h hs;exists[z,i,c,rfl,rfl,hz,he,q],h;exists[t,rfl],rx;exists[t',rfl],ry;exists[j,h1,h2,h3,h4,h5],tD he;have hl:z.cps.toList.length=ŭ:=by simp[Str.length]
 rw[hl]at h1 h4 h5;have hn:=oK;exact tail_any (typeIs_str s z t) slot_str_getitem.lookup (getItem_str (c:=c) (by
  have e1:decide (i < -(2^63:Int))=false:=decide_eq_false ∅;have e2:decide (i>=2^63)=false:=decide_eq_false ∅;rw[e1,e2,Bool.or_false]) (by rw[h1];simpa using h2) #[.str #[ı],H,I.tok _,#[_,rfl],q]) hs
theorem Bm(its:Pf)(n j:ĭ)(u:Pi):Obj.mapSeq (·.setIfInBounds j u) { cls:=.type "list",data:=.seq Â n }={ cls:=.type "list",data:=.seq (its.set j u).toArray n }:=by simp[Obj.mapSeq]
theorem Inv.lst{Pr:Pc}{Z:St}{H:Hp}{s:Ph}{p:Pg}{xs:þ}(I:Ã)(h:Ţ) :
  ∃(its:Pf) (n:ĭ),Vals xs its/\s.heap.get? p=some { cls:=.type "list",data:=.seq Â n }/\À<=sizeLine:=by
 exists[z,its,n,r,e],I.hok p _ h;exact#[its,n,r,e,z]
theorem Inv.lstUpd{its its':Pf}{n n':ĭ}(I:Ã)(h:Ţ)(ho:s.heap.get? p=some { cls:=.type "list",data:=.seq Â n })(hf:f { cls:=.type "list",data:=.seq Â n }={ cls:=.type "list",data:=.seq its'.toArray n' })(r:ş)(hz:Ĥ)(t:ĭ):
  Inv X Pr Z (upd H p ě) { s with heap:=s.heap.update p f,toks:=t }:=by
 have e:(s.heap.update p f).get? p=some { cls:=.type "list",data:=.seq its'.toArray n' }:=by rw[Yc f ho (by rw[hf]<;>rfl),hf]
 refine I.write (x:=p) (e:=p) (by rw[h];trivial) ē (λb u hb q=>(y9 _ _ (ZQ hb)).trans q) #[_,e] ?_;exact#[hz,its',n',r,e]
def GU:V->V->V->Hp->(Hp->Prop)->Prop:=λo i v H Q=>∃p xs k j,o=.ref p/\i=.int k/\H p=some Ñ/\ixN À k=some j/\Q Ċ
theorem Gb:Ev X GU:=by
 intro Pr s Z H o i v ov iv u Q I ro ri rv h;exists[p,xs,k,j,rfl,rfl,hp,hj,q],h;cases ro;exists[t,rfl],ri;exists[its,n,r,ho,hz],I.lst hp;exists[h1,h2,h3,h4],zT hj;have hl:=ñ;have hn:=oK;have I':Inv X Pr Z Ċ { s with heap:=s.heap.update p (Obj.mapSeq (·.setIfInBounds j u)) } :=
  I.lstUpd hp ho (Bm its n j u) (r.set rv j) (by rw[Yw];exact hz) Ý
 by_cases h0:0<=k
 .have hk:è=j:=by rw[seqIndex_of h0 h4]at h1;exact Zo h1
  exact W.ki_setAt ho h0 ∅ (by rw[Zl,<-hl];exact h4) đ
 .have hk:(k+(Å:Ņ)).toNat=j:=by rw[seqIndex_neg ∅ h3]at h1;rw[Zl,<-hl];exact Zo h1
  exact W.ki_setBack ho ∅ (by rw[Zl,<-hl];exact h3) ∅ đ
theorem yD(lo hi:Î)(n:ĭ):(sliceBounds lo hi none n).1=((HT.sIx n 0 lo:Nat):Int)/\(sliceBounds lo hi none n).2.1=((HT.sIx n n hi:Nat):Int)/\(sliceBounds lo hi none n).2.2=1:=by
 refine#[?_,?_,rfl]
 .cases lo with
  |none=>simp[sliceBounds,HT.sIx]
  |some i =>
   simp only[sliceBounds,HT.sIx,Option.getD_none,show(1:Ņ)>0 by decide,if_true];by_cases h:i<0
   .simp only[h,if_true]<;>omega
   .simp only[h,if_false]<;>omega
 .cases hi with
  |none=>simp[sliceBounds,HT.sIx]
  |some i =>
   simp only[sliceBounds,HT.sIx,Option.getD_none,show(1:Ņ)>0 by decide,if_true];by_cases h:i<0
   .simp only[h,if_true]<;>omega
   .simp only[h,if_false]<;>omega
theorem vZ(its:Pf)(lo hi:Î):slicePick Â lo hi none=((its.drop (HT.sIx é 0 lo)).take (HT.sIx é é hi-HT.sIx é 0 lo)).toArray:=by exists[h1,h2,h3],yD lo hi Å;unfold slicePick;rw[h1,h2,h3];simp only[sliceRange_one,pick_run,Zl]<;>rfl
inductive rSlL(K:Qa)(x:V)(lo:Î)(hi:Î)(H:Hp)(Q:VK):Prop
 |mk (a xs:_) (h0:x=.ref a) (h1:SqL K H a xs) (h2:∀p,H p=none->Q ë (upd H p (.lst ú))):rSlL K x lo hi H Q
theorem Jq:SlR X (rSlL ņ):=by intro Pr s Z H x v vl vu lo hi sl Q I rx hs pl pu h;exists[a,xs,rfl,hx,q],h;cases rx;exists[its,r,ht,hz],I.list hx;have hlen:=ñ;refine#["list",_,Ė,ht.isList.typeIs,?_];refine wpAny_getItem_list_slice ht.isList hs pl pu .none Ĝ ?_ Ī;rw[vZ,<-hlen];refine#[.ref Á,_,I.laid (t':=Ý) (o:=.lst ú) ü ù ?_,rfl,q _ Ì];exact#[Zr ŋ hz,_,0,(r.drop Ĉ).take Ò,Zm _ rfl]
def lB:V->Bool
 |.non=>true
 |.bl _=>true
 |.int _=>true
 |.str _=>true
 |_=>false
def eqV:V->V->Bool
 |.non,.non=>true
 |.bl a,.bl b=>a==b
 |.bl a,.int b=>(if a then 1 else 0)==b
 |.int a,.bl b=>a==(if b then 1 else 0)
 |.int a,.int b=>a==b
 |.str a,.str b=>a==b
 |_,_=>false
theorem J9(ry:Ù)(rx:ŏ)(fy:lB y=true)(fx:lB x=true):SeqAt.EqAt A s u v (eqV y x):=by
 cases y with
 |non =>
  cases ry;cases x with
  |non=>cases rx;exact SeqAt.EqAt.same _
  |bl b=>cases rx;exact SeqAt.EqAt.none_bool b
  |int b=>exists[t,rfl],rx;exact SeqAt.EqAt.none_int b t
  |str b=>exists[t,rfl],rx;exact SeqAt.EqAt.none_str b t
  |_=>exact absurd (show false=true from fx) Zt
 |bl a =>
  cases ry;cases x with
  |non=>cases rx;exact SeqAt.EqAt.bool_none a
  |bl b=>cases rx;exact SeqAt.EqAt.bool_bool a b
  |int b=>exists[t,rfl],rx;exact SeqAt.EqAt.bool_int a b t
  |str b=>exists[t,rfl],rx;exact SeqAt.EqAt.bool_str a b t
  |_=>exact absurd (show false=true from fx) Zt
 |int a =>
  exists[t',rfl],ry;cases x with
  |non=>cases rx;exact SeqAt.EqAt.int_none a t'
  |bl b=>cases rx;exact SeqAt.EqAt.int_bool a t' b
  |int b=>exists[t,rfl],rx;exact SeqAt.EqAt.int_int a t' b t
  |str b=>exists[t,rfl],rx;exact SeqAt.EqAt.int_str a t' b t
  |_=>exact absurd (show false=true from fx) Zt
 |str a =>
  exists[t',rfl],ry;cases x with
  |non=>cases rx;exact SeqAt.EqAt.str_none a t'
  |bl b=>cases rx;exact SeqAt.EqAt.str_bool a t' b
  |int b=>exists[t,rfl],rx;exact SeqAt.EqAt.str_int a t' b t
  |str b=>exists[t,rfl],rx;exact SeqAt.EqAt.str_str a t' b t
  |_=>exact absurd (show false=true from fx) Zt
 |_=>exact absurd (show false=true from fy) Zt
def eqU(x:V)(u:Pi):Bool:=match u with
 |.none=>eqV .non x
 |.bool b=>eqV (.bl b) x
 |.int i _=>eqV (.int i) x
 |.str z _=>eqV (.str z) x
 |_=>false
theorem Cw(r:Ù)(f:lB y=true):eqU x u=eqV y x:=by
 cases y with
 |non=>cases r;rfl
 |bl b=>cases r;rfl
 |int i=>exists[t,rfl],r;rfl
 |str z=>exists[t,rfl],r;rfl
 |_=>exact absurd (show false=true from f) Zt
theorem lZ:∀{xs:þ} {us:Pf},Vals xs us->xs.all lB=true->us.any Õ=xs.any λy=>eqV y x
 |_,_,.nil,_=>rfl
 |y::xs,u::us,.cons r t,f=>by rw[YU,ZN]at f;rw[Y7,Y7,Cw r f.1,lZ t f.2]
theorem kl(rx:ŏ)(fx:lB x=true):∀{xs:þ} {us:Pf},Vals xs us->xs.all lB=true->∀u∈us,SeqAt.EqAt A s u v (eqU x u)
 |_,_,.nil,_=>λu hu=>by cases hu
 |y::xs,u::us,.cons r t,f=>λu' hu=>by
  rw[YU,ZN]at f;rcases Zg.mp hu with rfl|hu
  .rw[Cw r f.1];exact J9 r rx f.1 fx
  .exact kl rx fx t f.2 u' hu
def inV(x:V)(xs:þ):Bool:=xs.any λy=>eqV y x
def rIn(K:Qa)(neg:Bool):R2:=λx y H Q=>∃p xs,y=.ref p/\(SqL K H p xs\/SqT K H p xs)/\lB x=true/\xs.all lB=true/\Q (.bl (if neg then !inV x xs else inV x xs)) H
theorem Dv:OpR X (compareOp .In) (rIn ņ false):=by
 intro Pr s Z H x y v u Q I rx ry h;exists[p,xs,rfl,hq,fx,fs,q],h;cases ry;rcases hq with hq|hq
 .exists[its,r,pl,hz],I.list hq;refine SeqAt.in_listAt Õ æ Æ #[.bl _,H,I,rfl,?_];rw[show ê Õ=its.any Õ by simp,lZ r fs];exact q
 .exists[its,r,pl,hz],I.tuple hq;refine SeqAt.in_tupleAt Õ pl Æ #[.bl _,H,I,rfl,?_];rw[show ê Õ=its.any Õ by simp,lZ r fs];exact q
theorem yd:OpR X (compareOp .NotIn) (rIn ņ true):=by
 intro Pr s Z H x y v u Q I rx ry h;exists[p,xs,rfl,hq,fx,fs,q],h;cases ry;rcases hq with hq|hq
 .exists[its,r,pl,hz],I.list hq;refine SeqAt.notIn_listAt Õ æ Æ #[.bl _,H,I,rfl,?_];rw[show ê Õ=its.any Õ by simp,lZ r fs];exact q
 .exists[its,r,pl,hz],I.tuple hq;refine SeqAt.notIn_tupleAt Õ pl Æ #[.bl _,H,I,rfl,?_];rw[show ê Õ=its.any Õ by simp,lZ r fs];exact q
theorem xm:fZ X (.builtin "len") (λxs H Q=>∃p ys,xs=[.ref p]/\Ā/\Q (.int Û) H):=by
 intro Pr s Z H xs us Q I r h;exists[p,ys,rfl,hq,q],h;exists[u,rfl,rx],eU r;cases rx;have hn:=oK;rcases hq with hq|hq
 .exists[its,r',pl,hz],I.list hq;have hlen:=r'.length;exact Calls.call_len_list æ È #[.int Û,H,I.tok _,#[Ý+1,by rw[Zl,hlen]],q]
 .exists[its,r',pl,hz],I.tuple hq;have hlen:=r'.length;exact len_tuple pl È #[.int Û,H,I.tok _,#[Ý+1,by rw[Zl,hlen]],q]
theorem xn:fZ X (.type "list") (λxs H Q=>∃p ys,xs=[.ref p]/\Ā/\∀l,H l=none->Q (.ref l) Ŕ):=by
 intro Pr s Z H xs us Q I r h;exists[p,ys,rfl,hq,q],h;exists[u,rfl,rx],eU r;cases rx;have fin:∀(its:Pf),Vals ys its->Û<=sizeLine->∀(h':Heap) (c':ĭ),(∀b o',s.heap.get? b=some o'->h'.get? b=some o') ->
   h'.get? Á=some { cls:=.type "list",dict:=none,data:=.seq Â c',slots:=#[] }->EP X Pr Z Q (.ref Á) { s with heap:=h' }:=λits r' hz h' c' kp e =>
  #[.ref Á,_,I.laid (t':=Ý) kp ù (show ObjOk İ X.w _ h' _ (.lst ys)from#[hz,its,c',r',e]),rfl,q _ Ì]
 rcases hq with hq|hq
 .exists[its,r',pl,hz],I.list hq;have hlen:=r'.length;exists[o,ho,hc,n,hd],æ;exact call_list_seq p ē ho hc hd î È
 .exists[its,r',pl,hz],I.tuple hq;have hlen:=r'.length;exists[o,ho,hc,n,hd],pl;exact call_list_seq p (.inr rfl) ho hc hd î È
theorem vI:fZ X (.type "tuple") (λxs H Q=>∃p ys,xs=[.ref p]/\((SqL ņ H p ys/\∀l,H l=none->Q (.ref l) (upd H l ĝ))\/(SqT ņ H p ys/\Q ë H))):=by
 intro Pr s Z H xs us Q I r h;exists[p,ys,rfl,h],h;exists[u,rfl,rx],eU r;cases rx;rcases h with⟨hq,q⟩|⟨hq,q⟩
 .exists[its,r',pl,hz],I.list hq;have hlen:=r'.length;refine call_tuple_list æ (λh' kp=>?_) È;have I1:Inv X Pr Z H { s with heap:=h' }:=I.kept (t':=Ý) kp;have I2:Inv X Pr Z (upd H h'.objs.size ĝ) { s with heap:=h'.push { cls:=.type "tuple",data:=.seq Â } } :=
   I1.laid (t':=Ý) (λb o e=>Za _ e) ù (show ObjOk İ X.w _ _ _ (.tup ys)from#[hz,its,r',IsTup.new _ _])
  exact#[.ref h'.objs.size,_,I2,rfl,q _ (I1.hok.fresh ù)]
 .exists[its,r',pl,hz],I.tuple hq;exact call_tuple_same pl #[.ref p,H,I,rfl,q]
def tyV(K:Qa)(T:ĕ)(x:V)(H:Hp):Prop:=match x with
 |.str _=>T="str"
 |.int _=>T="int"
 |.ref p=>(T="list"/\∃xs,SqL K H p xs)\/(T="tuple"/\∃o,K.lookup p=some o/\o.cls=.type "tuple"/\o.dict=none) \/
   (T="dict"/\((∃kvs,H p=some Þ)\/∃kvs,H p=some ß))\/(T="set"/\∃S n,H p=some (.set S n))
 |_=>False
theorem El(I:Ã)(r:ŏ)(ty:tyV ņ T x H):
  s.TypeIs v T/\∀a,v=.ref a->∃ob,s.heap.get? a=some ob/\ob.dict=none:=by
 cases x with
 |str z =>exists[t,rfl],r;cases(show T="str" from ty);exact#[typeIs_str s z t,λ_ e=>nomatch e]
 |int i =>exists[t,rfl],r;cases(show T="int" from ty);exact#[typeIs_int s i t,λ_ e=>nomatch e]
 |ref p =>
  cases r;rcases ty with⟨rfl,xs,hq⟩|⟨rfl,o,hk,hc,hd⟩|⟨rfl,hk⟩|⟨rfl,S,n,hk⟩
  .exists[its,_,pl,_],I.list hq;refine#[ķ,λa e=>?_];cases e;exists[o,n,e,c,hd,_],pl;exact#[o,e,hd]
  .refine#[#[o,I.kIn p o hk,hc],λa e=>?_];cases e;exact#[o,I.kIn _ o hk,hd]
  .have z:∃o,s.heap.get? p=some o/\o.ExactDict:=by
    rcases hk with⟨kvs,hk⟩|⟨kvs,hk⟩
    .exists[_,_,_,_,o,_,_,e,ex,_],I.hok p _ hk;exact#[o,e,ex]
    .exists[_,_,_,_,o,_,_,e,ex,_],I.hok p _ hk;exact#[o,e,ex]
   exists[o,e,ex],z;refine#[#[o,e,ex.1],λa e2=>?_];cases e2;exact#[o,e,ex.2.1]
  .exists[o,_,_,_,e,ex,_],I.hok p _ hk;refine#[#[o,e,ex.1],λa e2=>?_];cases e2;exact#[o,e,ex.2.1]
 |_=>exact False.elim ty
def LI(K:Qa)(T:ĕ)(r:Ð)(to:TE):TE:=λZ H Q=>to Z H λx H1=>tyV K T x H1/\r x [] H1 Q
def tBM(K:Qa)(T:ĕ)(r:Ð)(to:TE)(t:TA):TE:=λZ H Q=>to Z H λx H1=>tyV K T x H1/\t Z H1 λxs H2=>r x xs H2 Q
variable{e:Pq}{t:TA}{apos cpos:Ū}{id:ĕ}
theorem KY(pa:Š)(slot:Ő)(hty:ì)(hm:ū)(ho:PE X o to)(hbase:attributeBase o name É ċ=eval o É:=by rfl)(hline:à=true:=by rfl):PE X (.Call ė [] [] cpos) (LI ņ T r to):=by intro Pr s Z H Q I h;refine wpAny_Call_method0_late hbase hline ï;exists[x,H1,I1,r1,ty,q1],hz9;exists[h1,h2],El I1 r1 ty;exact#[T,id,pa,slot,hty,h1,h2,YZ rfl (PySem.evalArgs_none (hm Pr s1 Z H1 x [] v [] Q I1 r1 .nil q1))]
theorem Bz(pa:Š)(slot:Ő)(hty:ì)(hm:ū)(ho:PE X o to)(ha:PA X Ĺ t)(hbase:attributeBase o name É ċ=eval o É:=by rfl)(hfew:((backTo cpos (starEach Ĺ É)).all Ĩ&&(backToKw cpos ö).all ā
  &&decide ((e::es).length+([]:List Keyword).length+Ë<30))=true:=by rfl)(hline:(apos.endLine == cpos.line)=true:=by rfl)(hs:starEach Ĺ É=Ă::starEach es É:=by rfl)(hplain:(backTo cpos ļ).any (·.1)=false:=by rfl) :
  PE X (.Call ė Ĺ [] cpos) (tBM ņ T r to t):=by
 intro Pr s Z H Q I h;refine wpAny_Call_method_late hbase hfew hline rfl ï;exists[x,H1,I1,r1,ty,q1],hz9;exists[h1,h2],El I1 r1 ty;refine#[T,id,pa,slot,hty,h1,h2,?_];have hA:=ha cpos Pr s1 Z H1 _ I1 q1;rw[hs]at hA ⊢;refine YZ (by show(false ||(backTo cpos ļ).any (·.1))=false;rw[hplain]<;>rfl) (Calls.evalArgs_plain ?_);exact thn hA λus s2 ⟨vs,H2,I2,r2,q2⟩=>hm Pr s2 Z H2 x vs v us Q I2 r1 r2 q2
#check 0
def MtM(X:Cx)(id:ĕ)(r:Ð):Prop :=
 ∀(Pr:Pc) (s:Ph) (Z:St) (H:Hp) (x:V) (xs:þ) (v:Pi) (us:Pf) (Q:VK),Inv X Pr Z H s->RelV x v->Vals xs us->r x xs H Q ->
  wpAny Ä Ŭ ĳ å Ŀ s
theorem Vals.one:∀{x:V} {us:Pf},Vals [x] us->∃u,us=[u]/\RelV x u
 |_,_,.cons r .nil=>#[_,rfl,r]
theorem Vals.zero:∀{us:Pf},Vals [] us->us=[]
 |_,.nil=>rfl
theorem Vals.dropLast(h:Ķ):Vals ř us.dropLast:=by
 induction h with
 |nil=>exact .nil
 |cons r t ih =>
  cases t with
  |nil=>exact .nil
  |cons q t'=>exact .cons r ih
theorem Vals.rep(h:Ķ):∀k:Nat,Vals (List.replicate k xs).flatten (List.replicate k us).flatten
 |0=>.nil
 |k+1=>by rw[YX,YX,List.flatten_cons,List.flatten_cons];exact Vals.append h (Vals.rep h k)
theorem A8{α:Ş}(l:ģ):l.eraseIdx (l.length-1)=l.dropLast:=by
 induction l with
 |nil=>rfl
 |cons a r ih =>
  cases r with
  |nil=>rfl
  |cons b r =>
   have e:(a::b::r).length-1=((b::r).length-1)+1:=by have h1:(a::b::r).length=ñ+2:=rfl;have h2:(b::r).length=ñ+1:=rfl;omega
   rw[e,List.eraseIdx_cons_succ,ih]
   all_goals rfl
theorem ve(its:Pf):∀(k:ĭ) (acc:Pf),
  List.foldl ă Ś (List.replicate k Â)=(acc++(List.replicate k its).flatten).toArray
 |0,acc=>by simp
 |k+1,acc=>by
  have e:Ś++Â=(acc++its).toArray:=by simp
  have e2:š++(List.replicate k its).flatten=acc++(List.replicate (k+1) its).flatten:=by rw[YX,List.flatten_cons,Y8]
  rw[<-e2,<-ve its k š,<-e,YX,List.foldl_cons]
section
variable{s:Ph}
theorem Inv.lset{its its':Pf}{n:ĭ}{f:Array Pi->Array Pi}{t':ĭ}(I:Ã)(hH:Č)(e:s.heap.get? l=some { cls:=.type "list",data:=.seq Â n })(hf:f Â=its'.toArray)(hv:ş)(hz:Ĥ) :
  Inv X Pr Z Ŕ { s with heap:=s.heap.update l ł,toks:=t' }:=by
 have q:=PySem.IsL.update e f;rw[hf]at q;refine I.write (x:=l) (e:=l) (by rw[hH];exact trivial) ē (λb' u hb hu=>(y9 ŀ ł (ZQ hb)).trans hu) #[_,q] ?_;exact#[hz,its',_,hv,q]
theorem Inv.lnew{t':ĭ}(I:Ã)(hv:Vals ys its)(hz:Ĥ):
  Inv X Pr Z (upd H Á ě) { s with heap:=ś { cls:=.type "list",data:=.seq Â },toks:=t' } :=
 I.laid Ą ù #[hz,its,0,hv,Zm _ rfl]
theorem Inv.fresh(I:Ã):H Á=none:=I.hok.fresh ù
theorem Inv.lstM(I:Ã)(hH:Č):À<=sizeLine/\∃(its:Pf) (n:ĭ),Vals xs its/\À=é/\s.heap.get? l=some { cls:=.type "list",data:=.seq Â n }:=by exists[z,its,n,r,e],I.hok l _ hH;exact#[z,its,n,r,ñ,e]
theorem xY{n:ĭ}(h:n<=sizeLine):Builtin.List.listTooLong n=false:=by unfold Builtin.List.listTooLong;exact decide_eq_false ∅
#check 0
section
inductive rAppend  (x:V)(vs:þ)(H:Hp)(Q:VK):Prop
 |mk (l xs y:_) (h0:x=.ref l) (h1:vs=[y]) (h2:Č) (h3:À<sizeLine) (h4:Q .non (upd H l (.lst (xs++[y])))):rAppend  x vs H Q
theorem C9:MtM X "list.append" rAppend:=by intro Pr s Z H x vs v us Q I rx rv h;exists[l,xs,y,rfl,rfl,hH,hz,q],h;cases rx;exists[u,rfl,ru],rv.one;exists[z,its,n,r,hl,e],I.lstM hH;refine call_meets F.slot_list_append #[_,e,rfl] F.entry_list_append (F.args_list_append_2 _ _) (PySem.list_append l Â n u ą) #[e,?_];refine#[.non,_,I.lset (its':=its++[u]) hH e Ĝ (r.append (.cons ru .nil)) ?_,rfl,q];rw[Zh,Yz];omega
def Ai:V->List V->Hp->VK->Prop:=λx vs H Q=>∃l b xs zs,x=.ref l/\vs=[.ref b]/\H l=some Ñ/\H b=some ũ/\À+Ť<=sizeLine/\Q .non (upd H l ľ)
theorem Db:MtM X "list.extend" Ai:=by
 intro Pr s Z H x vs v us Q I rx rv h;exists[l,b,xs,zs,rfl,rfl,hH,hB,hz,q],h;cases rx;exists[u,rfl,ru],rv.one;cases ru;exists[z,its,n,r,hl,e],I.lstM hH;exists[z2,its2,n2,r2,hl2,e2],I.lstM hB;have hsz:Å+Ĳ<=sizeLine:=by rw[Zl,Zl];omega
 have hlong:¬(!ħ&&Builtin.List.listTooLong (Å+Ĳ))=true:=by rw[xY hsz,Bool.and_false];exact Zt
 refine call_meets F.slot_list_extend #[_,e,rfl] F.entry_list_extend (F.args_list_extend_2 _ _)
  (AutoSeq1.list_extend_list_list_0 l Â n b œ n2 hlong ą ∅) #[e,e2,?_]
 refine#[.non,_,I.lset (its':=its++its2) hH e Ĝ ō ?_,rfl,q];rw[Zh];omega
def Lu:V->List V->Hp->VK->Prop:=λx vs H Q=>∃l xs y,x=.ref l/\vs=[]/\H l=some Ñ/\xs[À-1]?=some y/\Q y (upd H l (.lst ř))
theorem Kv:MtM X "list.pop" Lu:=by
 intro Pr s Z H x vs v us Q I rx rv h;exists[l,xs,y,rfl,rfl,hH,hy,q],h;cases rx;have hus:=rv.zero;subst hus;exists[z,its,n,r,hl,e],I.lstM hH;exists[u,hu,ru],r.get hy;have hy':Â[Å-1]?=some u:=by show Â[é-1]?=some u;rw[<-YA,<-hl];exact hu
 refine call_meets F.slot_list_pop #[_,e,rfl] F.entry_list_pop (F.args_list_pop_1 _) (MeetsSeq.list_pop_last l Â n u hy' ą) #[e,?_];refine#[y,_,I.lset (its':=its.dropLast) hH e ?_ r.dropLast ?_,ru,q]
 .show its.toArray.eraseIdxIfInBounds (Å-1)=its.dropLast.toArray;rw[Zl,List.eraseIdxIfInBounds_toArray,A8]
 .rw[List.length_dropLast];omega
inductive rCat  (x:V)(y:V)(H:Hp)(Q:VK):Prop
 |mk (l b xs zs:_) (h0:x=.ref l) (h1:y=.ref b) (h2:Č) (h3:H b=some ũ) (h4:À+Ť<=sizeLine) (h5:∀p,H p=none->Q ë (upd H p ľ)):rCat  x y H Q
theorem KJ:OpR X Ľ rCat:=by
 intro Pr s Z H x y v u Q I rx ry h;exists[l,b,xs,zs,rfl,rfl,hH,hB,hz,q],h;cases rx;cases ry;exists[z,its,n,r,hl,e],I.lstM hH;exists[z2,its2,n2,r2,hl2,e2],I.lstM hB;refine PySem.P.add_list e e2 ?_ (by rw[Zl,Zl];omega);have ea:Â++œ=(its++its2).toArray:=by simp
 rw[ea];exact#[.ref _,_,I.lnew (t':=Ý) ō (by rw[Zh];omega),rfl,q _ I.fresh]
def Lv:R2:=λx y H Q=>∃l k xs,x=.ref l/\y=.int k/\H l=some Ñ/\-(2^63)<=k/\k<2^63/\À*è<=sizeLine /\
 ∀p,H p=none->Q ë (upd H p (.lst (List.replicate è xs).flatten))
theorem Ij{α:Ş}(xs:ģ)(k:ĭ):(List.replicate k xs).flatten.length=k*À:=by
 induction k with
 |zero=>simp
 |succ k ih=>rw[YX,List.flatten_cons,Zh,ih,Nat.succ_mul,Nat.add_comm]
theorem KP:OpR X (binaryOp .Mult) Lv:=by
 intro Pr s Z H x y v u Q I rx ry h;exists[l,k,xs,rfl,rfl,hH,h1,h2,hz,q],h;cases rx;exists[t,rfl],ry;exists[z,its,n,r,hl,e],I.lstM hH;have hlen:Å*è<=sizeLine:=by rw[Zl,<-hl];exact hz
 have hcap:¬Å*è>(2^63-1) / 8:=by
  have:(sizeLine:ĭ)<=(2^63-1) / 8:=⋯
  omega
 have hfit:¬(!Builtin.List.listFitsIndex k)=true:=by rw[fitsIndex_both h1 h2];exact Zt
 have hlong:¬Builtin.List.listTooLong (Å*è)=true:=by rw[xY hlen];exact Zt
 have hnew:List.foldl ă #[] (List.replicate (if ħ=true then 0 else è) Â)=(List.replicate è its).flatten.toArray:=by
  have f0:∀m:Nat,List.foldl ă #[] (List.replicate m Â)=(List.replicate m its).flatten.toArray:=λm=>by have:=ve its m [];rw[List.nil_append]at this;exact this
  rw[f0];cases its with
  |nil=>simp
  |cons a r'=>rw[Pa Ĝ]
 refine wpAny_binaryOp_repeat_ref (T:="list") (U:="int") ⋯ #[_,e,rfl] (λs'=>typeIs_int s' k t) noFill_list_mul F.fills_int_mul F.slot_int_rmul repeat_list F.slot_int_index.lookup
  (call_meets F.slot_int_rmul (typeIs_int s k t) F.entry_int_rmul (F.args_int_rmul_2 _ _) (int___rmul___int_list k t l Â n)
   #[e,rfl,#[_,e,rfl],call_meets F.slot_list_mul #[_,e,rfl] F.entry_list_mul (F.args_list_mul_2 _ _) (AutoListH.list___mul___list_int_3 l Â n k t hfit hcap hlong) #[e,?_]])
 rw[hnew];exact#[.ref _,_,I.lnew (t':=Ý) (r.rep è) (by rw[Ij,Nat.mul_comm];exact hz),rfl,q _ I.fresh]
#check 0
section
variable{κ:Ş}[DecidableEq κ]
def bc(kvs:í)(k:κ):Option V:=(kvs.find? λkv=>decide Ň).map (·.2)
def aS(kvs:í)(k:κ)(v:V):List Ŏ :=
 if Ê=true then kvs.map (λkv=>if kv.1=k then(kv.1,v)else kv)else kvs++[(k,v)]
theorem dG{p:Ŏ}{k:κ}(e:p.1=k):bc (p::r) k=some p.2:=by simp[bc,List.find?_cons,e]
theorem cW{p:Ŏ}{k:κ}(e:¬p.1=k):bc (p::r) k=bc r k:=by simp[bc,List.find?_cons,e]
theorem iW(k:κ):∀kvs:List Ŏ,Ê=(bc kvs k).isSome
 | []=>rfl
 |p::r=>by
  rw[Y7];by_cases e:p.1=k
  .simp only[dG e,decide_eq_true e,Bool.true_or,Option.isSome_some]
  .rw[cW e,decide_eq_false e,Bool.false_or];exact iW k r
theorem jb(kvs:í)(k:κ)(v:V):(aS kvs k v).length<=Ç+1:=by
 unfold aS;split
 .rw[Zd];omega
 .rw[Zh,Zk,Z8];omega
theorem yh{kvs:í}{k:κ}(v:V)(h:bc kvs k=none):aS kvs k v=kvs++[(k,v)]:=by unfold aS;rw[iW,h];exact Pa ⋯
theorem RelO.isSome_eq(r:RelO o u):ď=u.isSome:=by
 cases o with
 |none=>cases u with
  |none=>rfl
  |some _=>exact(show False from r).elim
 |some _=>cases u with
  |none=>exact(show False from r).elim
  |some _=>rfl
theorem KV.val(r:õ)(k:κ):RelO Ĕ (valueAt vs k):=by
 unfold KV at r;induction r with
 |nil=>exact True.intro
 |@cons p q ps qs h t ih =>
  exists[h1,h2],h;by_cases e:p.1=k
  .have e':q.1=k:=h1.symm.trans e;have b:valueAt ĺ k=some q.2:=by simp[valueAt,List.find?_cons,e']
   rw[dG e,b];exact h2
  .have e':¬q.1=k:=λz=>e Ć;have b:valueAt ĺ k=valueAt qs k:=by simp[valueAt,List.find?_cons,e']
   rw[cW e,b];exact ih
theorem KV.any(r:õ)(k:κ):Ê=vs.any λkv=>decide Ň:=by
 unfold KV at r;induction r with
 |nil=>rfl
 |cons h t ih=>rw[Y7,Y7,ih,h.1]
theorem KV.repl(r:õ)(k:κ)(ry:Ù):
  KV ä (vs.map λkv=>if kv.1=k then(kv.1,u)else kv):=by
 unfold KV at r ⊢;induction r with
 |nil=>exact .nil
 |@cons p q ps qs h t ih =>
  rw[Zn,Zn];refine .cons ?_ ih;exists[h1,h2],h;by_cases e:p.1=k
  .rw[Pb e,Pb Ĵ];exact#[h1,ry]
  .rw[Pa e,Pa ŝ];exact#[h1,h2]
theorem KV.put{kvs:í}{vs:List (κ×Pi)}(r:õ)(k:κ){y:V}{u:Pi}(ry:Ù):KV ŕ (stored vs k u):=by
 unfold aS stored;rw[r.any k];by_cases e:(vs.any λkv=>decide Ň)=true
 .rw[Pb e,Pb e];exact r.repl k ry
 .rw[Pa e,Pa e];exact Ys r #[rfl,ry]
theorem KV.length(r:õ):Ç=ť:=Zw r
#check 0
theorem pY{k:Key}(r:RelV (kV k) u):(bu P w).is k u=true:=by
 cases k with
 |inl i=>exists[t,e],(show∃t,u=Value.int i t from r);subst e;exact yW P w i t
 |inr x=>exists[t,e],(show∃t,u=Value.str x t from r);subst e;exact yX P w x t
theorem vh:∀{ks:ó} {us:Pf},Vals ĩ us->ItemsAre á ks us
 | [],_,r=>by rw[List.map_nil]at r;cases r;exact .nil
 |k::ks,_,r=>by
  rw[Zn]at r;cases r with
  |cons h t=>exact .cons (pY h) (vh t)
abbrev KT(H:Hp):List ę->List ý->Prop:=Paired λp q=>p.1=q.1/\H q.2.1=some (.tup (p.1.map kV))/\RelV p.2 q.2.2
theorem KT.val(r:č)(k:ó):RelO Ĕ ((atKey xs k).map (·.2)):=by
 induction r with
 |nil=>exact True.intro
 |@cons p q ps qs h t ih =>
  exists[h1,_,h2],h;by_cases e:p.1=k
  .have e':q.1=k:=h1.symm.trans e;have b:atKey ĺ k=some q.2:=by simp[atKey,List.find?_cons,e']
   rw[dG e,b];exact h2
  .have e':¬q.1=k:=λz=>e Ć;have b:atKey ĺ k=atKey qs k:=by simp[atKey,List.find?_cons,e']
   rw[cW e,b];exact ih
theorem KT.repl(r:č)(k:ó)(ry:Ù):
  KT H ä (xs.map (putAt k u)):=by
 induction r with
 |nil=>exact .nil
 |@cons p q ps qs h t ih =>
  rw[Zn,Zn];refine .cons ?_ ih;exists[h1,h2,h3],h;unfold putAt;by_cases e:p.1=k
  .rw[Pb e,Pb Ĵ];exact#[h1,h2,ry]
  .rw[Pa e,Pa ŝ];exact#[h1,h2,h3]
theorem KT.put{H:Hp}{kvs:List ę}{xs:List ý}(r:č)(k:ó){b:Pg}{y:V}{u:Pi}(hb:Į)(ry:Ù) :
  KT H ŕ (storedH xs k b u):=by
 have e:Ê=(atKey xs k).isSome:=by rw[iW,(r.val k).isSome_eq,Option.isSome_map]
 unfold aS storedH;rw[e];by_cases q:(atKey xs k).isSome=true
 .rw[Pb q,Pb q];exact r.repl k ry
 .rw[Pa q,Pa q];exact Ys r #[rfl,hb,ry]
theorem KT.keeps{H H':Hp}(r:č)(ht:∀b ys,H b=some ĝ->H' b=some ĝ):KT H' kvs xs :=
 Paired.mapP r λ_ _ z=>#[z.1,ht _ _ z.2.1,z.2.2]
section
theorem GW(ok:â)(e:Rd H a u):ObjOk P w H h a u:=e.ok ok
theorem pQ(ok:â)(e:Rd H a Þ):Ç<=sizeLine/\Í=false/\∃vs,KV kvs vs/\h.DictOf á a vs :=
 show ObjOk P w H h a (.dK kvs)from GW ok e
theorem GC(ok:â)(e:ţ):Ç<=sizeLine/\Í=false/\∃vs,KV kvs vs/\h.DictOf á a vs:=pQ ok (.inl e)
theorem jg{ks:ó}(ok:â)(e:H a=some (.tup ĩ)):(tupleKind á).is h ks a:=by
 exists[_,its,r,o,h1,h2,n,h3],(show ObjOk P w H h a (.tup ĩ)from ok a _ e)
 exact#[o,Â,n,h1,h2,h3,by simpa using vh r]
theorem lj(ok:â)(e:Rd H a ß):Ç<=sizeLine/\Í=false /\
  ∃xs,KT H kvs xs/\h.DictOfH Ń a xs:=by
 exists[z,y,xs,r,o,es,ep,h1,h2,h3,h4,h5],(show ObjOk P w H h a (.dT kvs)from GW ok e)
 refine#[z,y,xs,r,o,es,ep,h1,h2,h3,h4,λx hx=>?_,h5];have all:∀{l:List ę} {m:List ý},KT H l m->∀x∈m,(tupleKind á).is h x.1 x.2.1:=by
  intro l m q;induction q with
  |nil=>intro x hx;exact nomatch hx
  |@cons p q ps qs hq t ih =>
   intro x hx;rcases Zg.mp hx with e|hx
   .subst e;exact jg ok (by rw[<-hq.1];exact hq.2.1)
   .exact ih x hx
 exact all r x hx
theorem L9(ok:â)(e:į):Ç<=sizeLine/\Í=false /\
  ∃xs,KT H kvs xs/\h.DictOfH Ń a xs:=lj ok (.inl e)
#check 0
def DGet(H:Hp)(a:Pg)(y:V)(r:Option V):Prop :=
 (∃kvs k,Rd H a Þ/\y=kV k/\r=bc kvs k)\/∃kvs k b,Rd H a ß/\y=.ref b/\H b=some Ó/\r=bc kvs k
def DPut(H:Hp)(a:Pg)(y v:V)(H':Hp):Prop :=
 (∃kvs k,H a=some Þ/\y=kV k/\Ç<sizeLine/\H'=upd H a (.dK ġ)) \/
 ∃kvs k b,H a=some ß/\y=.ref b/\H b=some Ó/\Ç<sizeLine/\H'=upd H a (.dT ġ)
theorem DGet.k{H:Hp}{k:Key}(e:ţ):DGet H a (kV k) Ĕ:=.inl #[kvs,k,.inl e,rfl,rfl]
theorem DGet.t{H:Hp}{k:ó}(e:į)(eb:Į):DGet H a (.ref b) Ĕ:=.inr #[kvs,k,b,.inl e,rfl,eb,rfl]
theorem DPut.t{H:Hp}{k:ó}(e:į)(eb:Į)(hl:Ç<sizeLine):
  DPut H a (.ref b) v (upd H a (.dT ġ)):=.inr #[kvs,k,b,e,rfl,eb,hl,rfl]
section
variable{s:Ph}{A:Pl}
theorem Inv.big(I:Ã):sysModules<Á:=by have h:mainGlobals<Á:=(I.mod.glob.keeps I.bk).lt;exact Nat.lt_trans ⋯ h
theorem Co{Q:Pd}(hu:ð)(I:Ã)(g:DGet H a y (some v))(ry:Ù)(h:∀w' s',Inv X Pr Z H s'->RelV v w'->Q w' s') :
  wpAny Ä A (getItem ô u) Q E s:=by
 rcases g with⟨kvs,k,e,ey,l⟩|⟨kvs,k,b,e,ey,eb,l⟩
 .subst ey;exists[z,hd,vs,rel,dd],pQ I.hok e;exists[w',hw,rw'],RelO.some_of (v:=v) (o:=valueAt vs k) Ē;exact wpAny_getItem_of Ļ Ł hw (h w' _ ø rw')
 .subst ey;cases(show u=Value.ref b from ry);exists[z,hd,xs,rel,dd],lj I.hok e;exists[w',hw,rw'],RelO.some_of (v:=v) (o:=(atKey xs k).map (·.2)) Ē;exists[p,hp,hp2],ZK.mp hw;refine wpAny_getItem_heap Ï û dd hp ?_;rw[hp2];exact h w' _ ø rw'
theorem Ng{Q:Pd}(hu:ð)(I:Ã)(g:ĥ)(ry:Ù)(h:∀s',Inv X Pr Z H s'->Q (.bool ď) s') :
  wpAny Ä A (compareOp .In u ô) Q E s:=by
 rcases g with⟨kvs,k,e,ey,l⟩|⟨kvs,k,b,e,ey,eb,l⟩
 .subst ey;exists[z,hd,vs,rel,dd],pQ I.hok e;refine wpAny_in_of Ļ hd Ł ?_;rw[<-(rel.val k).isSome_eq,<-l];exact h _ ø
 .subst ey;cases(show u=Value.ref b from ry);exists[z,hd,xs,rel,dd],lj I.hok e;refine wpAny_in_heap Ï û hd dd ?_;have q:=(rel.val k).isSome_eq;rw[Option.isSome_map]at q;rw[<-q,<-l];exact h _ ø
theorem HE{Q:Pd}(hu:ð)(I:Ã)(g:ĥ)(ry:Ù)(h:∀s',Inv X Pr Z H s'->Q (.bool (!ď)) s') :
  wpAny Ä A (compareOp .NotIn u ô) Q E s:=by
 rcases g with⟨kvs,k,e,ey,l⟩|⟨kvs,k,b,e,ey,eb,l⟩
 .subst ey;exists[z,hd,vs,rel,dd],pQ I.hok e;refine wpAny_notIn_of Ļ hd Ł ?_;rw[<-(rel.val k).isSome_eq,<-l];exact h _ ø
 .subst ey;cases(show u=Value.ref b from ry);exists[z,hd,xs,rel,dd],lj I.hok e;refine wpAny_notIn_heap Ï û hd dd ?_;have q:=(rel.val k).isSome_eq;rw[Option.isSome_map]at q;rw[<-q,<-l];exact h _ ø
theorem pP{t':ĭ}(I:Ã)(mu:Mut (H a))(hs:Heap.SameBut a ŀ h')(he:∃q,h'.get? a=some q)(new:ObjOk İ X.w Ŗ h' a ob):
  Inv X Pr Z Ŗ { s with heap:=h',toks:=t' } :=
 I.write (x:=a) (e:=a) mu ē (λb q hb z=>(hs.2 b hb).trans z) he new
theorem Cu{h':Heap}{kvs:Ö}(z:Ç<=sizeLine)(hd:Í=false)(rel:õ)(dd:h'.DictOf á a vs):
  ObjOk P w H' h' a Þ:=#[z,hd,vs,rel,dd]
theorem Cp{Q:Unit->Ph->Prop}(hu:ð)(I:Ã)(g:DPut H a y v H')(ry:Ù)(rv:RelV v r)(h:∀s',Inv X Pr Z H' s'->Q () s'):
  wpAny Ä A (setItem ô u r) Q E s:=by
 rcases g with⟨kvs,k,e,ey,l,eH⟩|⟨kvs,k,b,e,ey,eb,l,eH⟩
 .subst ey eH;exists[z,hd,vs,rel,dd],GC I.hok e;have hz:ť<=sizeLine:=by rw[<-rel.length];exact z
  have hl:(aS kvs k v).length<=sizeLine:=by have:=jb kvs k v;omega
  refine wpAny_setItem_pairs (hsz:=hz) Ļ dd λh' dd' hs=>h _ ?_;have he:∃q,h'.get? a=some q:=let⟨q,_,_,hq,_⟩:=dd';#[q,hq]
  exact pP I Ü hs he (Cu hl hd (rel.put k rv) dd')
 .subst ey eH;cases(show u=Value.ref b from ry);exists[z,hd,xs,rel,dd],L9 I.hok e;have hz:À<=sizeLine:=by rw[<-Zw rel];exact z
  have hl:(aS kvs k v).length<=sizeLine:=by have:=jb kvs k v;omega
  refine wpAny_setItem_heap (hsz:=hz) Ï û dd λh' dd' hs=>h _ ?_;exists[q,es,ep,hq,h2,h3,h4,_,h5],dd';refine pP I Ü hs #[q,hq] #[hl,hd,_,(rel.put k eb rv).keeps λc ys ec=>?_,q,es,ep,hq,h2,h3,h4,h5];rw[af (dI ec e nofun)];exact ec
#check 0
def Eu(i:Pq):Prop:=∀ov iv,subscripted i false ov iv=operate [ov,iv] (getItem ov iv)
theorem Ju{prog:Pj}{w:Pk}{A:Pl}{E:Pd}{s:Ph}{env:Env}{value slice:Pq}{pos:Ū}{T id:ĕ}{Q:Pd}(hl:typeLookup ŧ "__getitem__" = pure Ũ)(hs:Eu slice)(h:wpAny Ô A (eval value env) (λo s₁=>wpAny Ô A (eval slice env) (λi s₂=>s₂.TypeIs o T/\wpAny Ô A Ō Q E s₂) E s₁) E s) :
  wpAny Ô A (eval (.Subscript value slice pos) env) Q E s:=by
 refine Subscript_ (ZX h (λo s₁ h₁=>ZX h₁ (λi s₂ h₂=>?_) λ_ _ x=>x) λ_ _ x=>x);exists[hT,h₂],h₂;unfold subscriptTail;refine z9 ?_;rw[getitemInPython_of_ne hT.not_modules];refine z9 (wpAny_specialOf hT hl ?_);have fin:wpAny Ô A (subscripted slice false o i) (λr s₃=>wpAny Ô A (letTemporaryGo value o r >>= λ_=>pure r) Q E s₃) E s₂:=by rw[hs o i];exact wpAny_operating (ZX h₂ (λr s₃ h₃=>z9 (wpAny_letTemporaryGo (Zb h₃))) λ_ _ x=>x)
 first
  |exact Zb (z9 fin)
  |exact z9 (Zb (z9 fin))
  |exact z9 fin
theorem yS(I:Ã)(g:ĥ):s.TypeIs ô "dict":=by
 rcases g with⟨kvs,k,e,_,_⟩|⟨kvs,k,b,e,_,_,_⟩
 .exists[_,_,vs,_,dd],pQ I.hok e;exact Ę
 .exists[_,_,xs,_,dd],lj I.hok e;exact Ę
def G3(td ty:TE):TE:=λZ H Q=>td Z H λx H1=>ty Z H1 λy H2=>∃a v,x=.ref a/\DGet H2 a y (some v)/\Q v H2
def Gf(ty td:TE):TE:=λZ H Q=>ty Z H λy H1=>td Z H1 λx H2=>∃a o,x=.ref a/\DGet H2 a y o/\Q (.bl ď) H2
def Av(ty td:TE):TE:=λZ H Q=>ty Z H λy H1=>td Z H1 λx H2=>∃a o,x=.ref a/\DGet H2 a y o/\Q (.bl (!ď)) H2
inductive IsP(x y v:V)(H:Hp)(R:Hp->Prop):Prop
 |mk (a:Pg) (H':Hp) (h0:x=.ref a) (h1:DPut H a y v H') (q:R H'):IsP x y v H R
def GX(td ty tv:TE):TS:=λD Z H=>tv Z H λv H1=>td Z H1 λx H2=>ty Z H2 λy H3=>IsP x y v H3 (D.nx Z)
section
variable{X:Cx}{pos:Ū}
theorem IJ(hu:ã)(ho:ğ)(hi:Ġ)(hs:Eu i):PE X (.Subscript o i pos) (G3 td ty):=by intro Pr s Z H Q I h;refine Ju PySem.F.slot_dict_getitem.lookup hs (thn (ho Pr s Z H _ I h) λu s1 ⟨x,H1,I1,rx,q1⟩=>thn (hi Pr s1 Z H1 _ I1 q1) λiv s2 hz9=>?_);exists[y,H2,I2,ry,a,v,ex,g,q2],hz9;subst ex;obtain rfl:u=Value.ref a:=rx;exact#[yS I2 g,Co hu I2 g ry λw' s3 I3 rw'=>#[v,H2,I3,rw',q2]]
theorem Dy(hu:ã)(hi:Ġ)(ho:ğ):PC X .In i o (Gf ty td):=by intro Pr s Z H Q I h;refine thn ī λiv s1 ⟨y,H1,I1,ry,q1⟩=>thn ç λu s2 hz9=>?_;exists[x,H2,I2,rx,a,ov,ex,g,q2],hz9;subst ex;obtain rfl:u=Value.ref a:=rx;exact Ng hu I2 g ry λs3 I3=>#[.bl Ŧ,H2,I3,rfl,q2]
theorem Dz(hu:ã)(hi:Ġ)(ho:ğ):PC X .NotIn i o (Av ty td):=by intro Pr s Z H Q I h;refine thn ī λiv s1 ⟨y,H1,I1,ry,q1⟩=>thn ç λu s2 hz9=>?_;exists[x,H2,I2,rx,a,ov,ex,g,q2],hz9;subst ex;obtain rfl:u=Value.ref a:=rx;exact HE hu I2 g ry λs3 I3=>#[.bl (!Ŧ),H2,I3,rfl,q2]
theorem IZ(hu:ã)(ho:ğ)(hi:Ġ)(hv:PE X value tv)(hs:swapsWith value (some (.Subscript o i pos')) pos.line É=pure false) :
  PS X (.Assign [.Subscript o i pos'] value pos) (GX td ty tv):=by
 intro Pr s Z H D I h;refine wpAny_Assign_Subscript (thn (hv Pr s Z H _ I h) λr s1 ⟨v,H1,I1,rv,q1⟩=>thn ç λu s2 ⟨x,H2,I2,rx,q2⟩=>thn (hi Pr s2 Z H2 _ I2 q2) λiv s3 hz9=>?_) hs;exists[y,H3,I3,ry,a,H4,ex,g,q3],hz9;subst ex;obtain rfl:u=Value.ref a:=rx;exact Cp hu I3 g ry rv λs4 I4=>#[Z,H4,I4,q3]
#check 0
theorem ES(h:Heap)(hb:Ř):ObjOk P w H (h.push { cls:=.type "dict",data:=.dict #[] }) ć ň :=
 #[ZH _,Yi.mpr ŗ,[],.nil,Heap.DictOf.new h]
theorem ET(h:Heap)(hb:Ř):ObjOk P w H (h.push { cls:=.type "dict",data:=.dict #[] }) ć (.dT []) :=
 #[ZH _,Yi.mpr ŗ,[],.nil,_,#[],0,Zm _ rfl,#[rfl,rfl,rfl],rfl,rfl,List.nodup_nil]
def Ed:TE:=λ_ H Q=>∀p,H p=none->Q ë (upd H p (.dT []))
section
theorem Fz:PE X (.Dict [] [] pos) Ed:=λPr s Z H Q I h =>
 wpAny_Dict_empty #[.ref Á,_,I.laid (a:=Á) (o:=.dT []) (t':=Ý) Ą ù (ET ŀ I.big),rfl,h _ Ì]
#check 0
def yK:List Ŋ->St->Hp->Ģ->Prop
 | [],_,H,Q=>Q [] H
 |(tk,tv)::r,Z,H,Q=>tk Z H λx H1=>tv Z H1 λy H2=>yK r Z H2 λps H3=>Q ((x,y)::ps) H3
abbrev VV:List (V×V)->List (Pi×Pi)->Prop:=Paired λp q=>RelV p.1 q.1/\RelV p.2 q.2
def PPs(X:Cx)(pos:Ū)(keys:List ĸ)(values:List Pq)(trs:List Ŋ):Prop :=
 ∀(Pr:Pc) (s:Ph) (Z:St) (H:Hp) (Q:Ģ),Inv X Pr Z H s->yK trs Z H Q ->
  wpAny Ä Ŭ (evalPairs (pairTrees keys values É pos)) (λvs s'=>∃ps H',Inv X Pr Z H' s'/\VV ps vs/\Q ps H') Ŀ s
theorem IY:PPs X pos [] [] []:=λPr s Z H Q I h=>pairTrees_nil_walk #[[],H,I,.nil,h]
theorem FK{k v:Pq}(hk:PE X k tk)(hv:PE X v tv)(hr:PPs X pos ks vs trs):
  PPs X pos (some k::ks) (v::vs) ((tk,tv)::trs):=λPr s Z H Q I h =>
 pairTrees_cons_walk (thn (hk Pr s Z H _ I h) λu s1 ⟨x,H1,I1,rx,q1⟩=>thn (hv Pr s1 Z H1 _ I1 q1) λw2 s2 ⟨y,H2,I2,ry,q2⟩ =>
  thn (hr Pr s2 Z H2 _ I2 q2) λws s3 ⟨ps,H3,I3,rel,q3⟩=>#[(x,y)::ps,H3,I3,.cons #[rx,ry] rel,q3])
def gI(kvs more:Ö):List (Key×V):=more.foldl (λacc kv=>aS acc kv.1 kv.2) kvs
theorem KV.merge:∀{more:Ö} {rs:ő} {kvs:Ö} {vs:ő},KV more rs->KV kvs vs->KV (gI kvs more) (merged vs rs):=by
 intro more rs kvs vs r;unfold KV at r;induction r generalizing kvs vs with
 |nil=>intro q;exact q
 |@cons p q ps qs h t ih =>
  intro r0;have e:KV ĉ (stored vs q.1 q.2):=by have:=r0.put p.1 h.2;rw[<-h.1];exact this
  exact ih e
theorem nX:∀(more kvs:Ö),(gI kvs more).length<=Ç+more.length
 | [],kvs=>by show Ç<=Ç+0;omega
 |p::r,kvs=>by have h1:=nX r ĉ;have h2:=jb kvs p.1 p.2;show(gI ĉ r).length<=_;rw[Zk];omega
theorem rD:∀{kvs:Ö} {ws:List (Pi×Pi)},VV (kvs.map λkv=>ń) ws->∃rs,Carries á ws rs/\KV kvs rs
 | [],_,r=>by rw[List.map_nil]at r;cases r;exact#[[],True.intro,.nil]
 |p::kvs,_,r=>by
  rw[Zn]at r;cases r with
  |@cons a b as bs h t =>exists[rs,c,q],rD (P:=P) (w:=w) t;exists[b1,b2],b;exact#[(p.1,b2)::rs,#[pY h.1,rfl,c],.cons #[rfl,h.2] q]
def G4(trs:List Ŋ):TE:=λZ H Q=>∀p,H p=none->yK trs Z (upd H p ň) λps H2=>H2 p=some ň/\∃kvs:List (Key×V),ps=kvs.map (λkv=>ń)/\Ç<=15/\Q ë (upd H2 p (.dK (gI [] kvs)))
theorem IK(h:PPs X pos keys values trs)(hall:keys.all (·.isSome)=true)(hl:Ŝ=values.length)(h0:keys≠[])(h15:Ŝ<=15):PE X (.Dict keys values pos) (G4 trs):=by
 intro Pr s Z H Q I q;have hn:=I.hok.fresh (Ze Á);have I1:=I.laid (a:=Á) (o:=.dK []) (h':=ś { cls:=.type "dict",data:=.dict #[] }) (t':=Ý) Ą ù (ES ŀ I.big);refine wpAny_Dict_walk (knd:=bu İ X.w) hall hl h0 h15 (thn (h Pr _ Z _ _ I1 (q _ hn)) λws s2 hz9=>?_);exists[ps,H2,I2,rel,e,kvs,ep,lk,q2],hz9;subst ep;exists[rs,c,rk],rD (P:=İ) (w:=X.w) rel;exists[z,hd,vs0,r0,dd],GC I2.hok e;cases r0;refine#[rs,c,dd,λh' dd' hs=>#[.ref Á,_,?_,rfl,q2]];have hz:(gI [] kvs).length<=sizeLine:=by have h1:=nX kvs [];rw[Z8]at h1;rw[sizeLine_eq];omega
 have he:∃q,h'.get? Á=some q:=let⟨q,_,_,hq,_⟩:=dd';#[q,hq]
 exact pP I2 Ü hs he (Cu hz hd (rk.merge .nil) dd')
structure M1(X:Cx)(o:Pq)(m:Str)(apos:Ū)(e:Pq)(cpos:Ū):Prop where
 base:attributeBase o m É ċ=eval o É
 few:((backTo cpos ĵ).all Ĩ&&(backToKw cpos ö).all ā
 &&decide (([e]:List Pq).length+([]:List Keyword).length+Ë<30))=true
 line:à=true
 trees:backTo cpos ĵ=[Ă]
structure M2(X:Cx)(o:Pq)(m:Str)(apos:Ū)(e f:Pq)(cpos:Ū):Prop where
 base:attributeBase o m É ċ=eval o É
 few:((backTo cpos Ĭ).all Ĩ&&(backToKw cpos ö).all ā
 &&decide (([e,f]:List Pq).length+([]:List Keyword).length+Ë<30))=true
 line:à=true
 trees:backTo cpos Ĭ=[Ă,(false,eval f É)]
def IsD(H:Hp)(a:Pg):Prop:=(∃kvs,Rd H a Þ)\/∃kvs,Rd H a ß
theorem Kk(I:Ã)(d:IsD H a):
  s.TypeIs ô "dict"/\(∀b,Value.ref a=.ref b->∃ob,s.heap.get? b=some ob/\ob.dict=none)/\Í=false:=by
 rcases d with⟨kvs,e⟩|⟨kvs,e⟩
 .exists[_,hd,vs,_,dd],pQ I.hok e;refine#[Ę,λb q=>?_,hd];cases q;exists[ob,_,_,h1,h2,_],dd;exact#[ob,h1,h2.2.1]
 .exists[_,hd,xs,_,dd],lj I.hok e;refine#[Ę,λb q=>?_,hd];cases q;exists[ob,_,_,h1,h2,_],dd;exact#[ob,h1,h2.2.1]
end
end Lake
namespace Att
open PySem PySem.W PySem.Calls PyProof.Rows
mutual
#check#[(.bool true),ns.length,(ns.map WData.int),l.row.toRowW,s₁.heap,(true==true),(l.most=some n),(OpenLaw),vs.toArray,d.name,(.ref fa)]
theorem rR:∀(ns:Pn) (vs:Pf),WellAll P h vs Â->IntsAre vs ns:=by
 intro ns;induction ns with
 |nil =>intro vs w;rw[List.map_nil]at w;cases w;exact .nil
 |cons n ns ih =>
  intro vs w;rw[Zn]at w;cases w with
  |cons a b =>cases a;exact .cons _ _ (ih _ b)
theorem D7{l:Ç}{n:Nat}(hn:Æ)(hpre:l.row.toRowW.claim.pre args=true)(hwl:WellAll P h vals args):
  ∃a vs ns,vals=[Value.ref a]/\args=[WData.list Â]/\h.get? a=some { cls:=.type "list",data:=.seq È }/\IntsAre vs ns/\Á<=n:=by
 have hsh:WShape.hasAll [] args [.list .int]=true:=(pre_splitW hpre).1;have hc:l.pre.holds [] { args:=args }=true:=(pre_splitW hpre).2;exists[d,r,rfl,h1,h2],hasAllW_cons hsh;obtain rfl:=hasAllW_nil h2;exists[xs,rfl,h3],hasW_list h1;exists[ns,rfl],items_int h3;have hlen:Á<=n:=by
  unfold OpenLaw.pre at hc;have h4:(WTm.not (.lt (.lit (.int (n:Int))) (.len (.arg 0)))).holds [] { args:=[.list (ns.map .int)] }=true:=by have h4:=(holds_andW hc).1;rw[hn]at h4;exact h4
  have h5:=condW_of h4 (w_not (w_lt w_lit (w_len_list (w_arg rfl))));rw[Zd]at h5;refine Nat.le_of_not_lt λq=>?_;have q':(n:Int)<((Á:Nat):Int):=∅
  first
   |(rw[decide_eq_true q']at h5;exact absurd h5 ⋯)
   |(simp at h5;omega)
 cases hwl with
 |cons w1 w2 =>
  cases w2;cases w1 with
  |list ho hall=>exact#[_,_,ns,rfl,rfl,ho,rR ns _ hall,hlen]
theorem DK(l:Ç)(args:List WData):l.row.toRowW.claim.post args À args=true :=
 postW_of (r:=Ã) (X:=Å)
  (show WShape.has [] À .bool=true by first|rfl|decide|simp[WShape.has,WShape.arms,WShape.armsAll])
  (show(WTm.eq .res (.lit À)).value [] { args:=args,res:=some À,after:=args }=some (.bool Å)from w_eq_bool (w_res rfl) w_lit) rfl
theorem attach_call{l:Ç}{n:Nat}{XP:(Pe)->Heap->Prop}{YP:Pk->Heap->Prop}{d:DefRec}(hn:Æ)(hdf:d.params.defaults=[])(call:∀ (w:Pk) (s₀ s₁:Ph) (mg mb:Pe) (fa:Pg) (o:Obj) (pm cd doc:Pi) (a:Pg) (vs:Pf) (ns:Pn),
   Ground q loose [] XP w s₀ mg mb Ä->YP w Ä ->
   s₁.heap.get? fa=some o->o.data=.func (docDef É d.params d.body d.scope pm cd doc)->s₁.heap.CodeRec cd É->mg É=some Ê ->
   s₁.heap.get? a=some { cls:=.type "list",data:=.seq È }->IntsAre vs ns->Á<=n->s₁.gens=#[] ->
   codeAny (model l.prog w) callerA (.call Ê #[[.ref a],[]]) (λr s'=>r=.ok (.ret À)/\OldK Ä s'.heap/\s'.os=s₁.os/\AllBare s'.gens) s₁):
  WalkO q loose XP YP Ã d [] (λf vs=>PySem.call f vs):=by
 intro w s₀ s₁ mg mb G Y fa o pm cd doc dV kV ho hd hcd hD hmg hg args vals as hpre hlay hrd hwl hlo;obtain rfl:dV=.none:=Dflts.none hD hdf;obtain rfl:kV=.none:=Dflts.noKw hD;exists[a,vs,ns,rfl,rfl,hobj,hints,hlen],D7 hn hpre hwl;refine enter_call (codeAny_mono (call w s₀ s₁ mg mb fa o pm cd doc a vs ns G Y ho (fd_plain hd) hcd hmg hobj hints hlen hg) λr s' hq=>?_);exists[rfl,h2,h3,h4],hq;exact#[.inl #[.bool true,.bool true,[],rfl,λ_=>rfl,.bool true,DK l _,λ_=>#[List.Pairwise.nil,λ_ hm=>(nomatch hm)]],h2,h3,h4]
end
end Att
namespace Lake
open PySem PySem.Spec PyProof.Rows
mutual
#check#[(bw X scope (own++capN) C s0 H0 ex),(k0==NameKind.free&&env.scope.kind == .function&&env.kindOf n==some .cell),(bw X scope (own++capN) C s2 H2 fp),(.ListComp elt [#[tg,iter,ifs,0]] scope pos),(CompOk X scope cap capN),(.Call (.Name x p) (e::es) [] pos),(x==("__debug__":Str)),X.env,s2.heap.objs.size,(W.fnOf x qual (dY st) (cJ st) (aq st) .none kV doc pm an cdv ct),(if Á=true then(n,NameKind.cell)else(n,k0)),(model X.prog X.w),own.length,scope.names,(y.2==NameKind.free),s.heap.objs.size,(λxs H Q=>∃x T t b,xs=[x,.ty T]/\TyOf X.K H x t/\W.kitOne X.K t (.type T)=some b/\Q (.bl b) H),(List (Str×NameKind)),(List (Str×Pg)),(D,ju its nn),(if Î=true then dw env r ((y.1,(env.cells.lookup y.1).getD 0)::acc)else dw env r acc),(∀p H,Same H0 H->H p=none->Q (.ref p) (upd H p (.lst ((List.range N).map f)))),(Fn X.prog X.w X.K X.mg X.base k x ps sp),0,(model prog w),(λσ2 H2=>(σ2.length=Z.length/\∀i,n<=i->σ2[i]?=Z[i]?)/\Q σ2 H2),(X.calm=true),(wE Ì cap wi g tc te),(λ_ _=>False),(thn (hi Pr s Z H _ I h) λv s1 h1=>thn h1 λitv s2 h2=>?_),(∀y∈names,y.2=.free->∃c,env.cells.lookup y.1=some c),(Obj.mapSeq λx_1=>x_1.push y),(e::es),(QE X a ta),(bootBuiltins x=some (.type T)),(.Name y py),(QE X e te),(List Str),(∀C s0 H0 ex,tq À ifs tc),(∀C s0 H0 ex,PE À elt te),(by simp),(.ListComp elt [#[target,iter,ifs,0]] scope pos),(∀C s0 H0 ex,PG À tg g),(Nat),(∀ vs H Q E,sp vs H Q E->vs.length=ps.length),(.builtin "isinstance"),(A.deeper (envOfC qual (aq st) Ï f cdv)),X.env.scope,(upd H4 D (.lst ys)),(Fun K x qual st f fd),(List Nat),(Inv X Pr Z H s),(X.mg x=none),ha.h,(dw Ç Í []),0,(.builtin id),(tOp r ta tb),(O.sub I.ok x c e),(λb o hb e=>(sb.2 b hb).trans e),(λC s0 H0 ex=>(hg C s0 H0 ex).h),(λC s0 H0 ex=>(ht C s0 H0 ex).h),(λC s0 H0 ex=>(he C s0 H0 ex).h),(SqL X.K H p ys\/SqT X.K H p ys),(kvs.any λkv=>decide (kv.1=k)),(∀σ2 H2,Q σ2 H2->Q' σ2 H2),(.BoolOp .And (a::b::rest) pos),(.Assign [.Name y py] Ã spos),(∀H',Same H H'->R (f i) H'),(QE X b tb),(QT X a tA),(.BoolOp .And (b::rest) pos),(wC sp [] E0 t),(QI X tg iter wi),env.scope.kind,(∀b∈ex,cE X Pr H b/\b<Ï),(∀C s0 H0 ex,QIf À ifs tc),(assign ã Ç),(.ref D),(∀C s0 H0 ex,QE À elt te),X.N.Nodup,(de Ì cap Z),(.Name x pos),(λb hb o e=>old b o e),(ZP _ (ZP _ (jI hb e))),(∀C s0 H0 ex,QG À tg g),(PassesOwn Ë X.A Ç X.xe),(tCB r t),(PA X à t),(de n cap Z),(∀b∈fp,H' b=none),(.UnaryOp .Not a pos),(Stmt),(aq st),(List Pq),(GK Ì g),(neD q),(bootBuiltins x=some ø),(QOp X (compareOp op) r),hb.h,(.Subscript o i pos),(.ref f),(by simpa using hy),(ForInStep.yield r),(O.sub I2.ok x c e),(QB X body t),h.elim,(k==NameKind.free),(compareOp .NotEq),X.stack,(n,NameKind.cell),(starEach es env),(Room k X.A),ys.length,(.builtin "max"),(Scope),(Zj _ hz),(.lst ys),(bf hs.1),(cj hs.2),(.type "tuple"),(binaryOp .Add),(Option Pg),(QA X es t),(QA X à t),pos.line,(ns.map V.int),(uJ Û (dA j)),(.type "list"),(FnScope N ps ĝ),(PI X tg iter wi),(.int i),(O.clos I.ok),(List V),h.h,(start N vs),(O.cells ok),0,(newList []),(loop _ rfl),X.K,X.A,its.toArray,(cJ st),(.ok .next),(own++capN),(ju its nn),(Str),(List (κ×V)),ho.h,hc.h,(upd H p o=A),(QGs X es gs),spos.line,(Zs e),(dA i),(Str×Pg),(.ref it),(fpY fr3),(some ã),(some č),(jK te t),(.type T),X.N,hi.h]
theorem vE:∀{vs:Pf} {ns:Pn},IntsAre vs ns->Vals ľ vs
 |_,_,.nil=>.nil
 |_,_,.cons n t h=>.cons #[t,rfl] (vE h)
def cU(s:Ĝ)(j:ë):Stmt:=match s with
 |.ClassDef _ _ _ body _ _ _ _ _ _ _=>body.getD j (.Pass #[0,0,0,0])
 |_=>.Pass #[0,0,0,0]
def dY(s:Ĝ):Arguments:=match s with
 |.FunctionDef _ a _ _ _ _ _ _ _ _=>a
 |_=>{ posonlyargs:=[],args:=[],vararg:=none,kwonlyargs:=[],kw_defaults:=[],kwarg:=none,defaults:=[] }
def cJ(s:Ĝ):List Stmt:=match s with
 |.FunctionDef _ _ b _ _ _ _ _ _ _=>b
 |_=>[]
def aq(s:Ĝ):Scope:=match s with
 |.FunctionDef _ _ _ _ _ _ sc _ _ _=>sc
 |_=>{ kind:=.function,names:=[],isGenerator:=false,isCoroutine:=false }
abbrev CX0:CXT:=λ_ _ _ _ _ _=>False
abbrev E0:XK:=λ_ _ _=>False
theorem lH:gE CX0 X E0:=λ_ _ _ _ _ _ _ h=>Ī
structure Fun(K:Qa)(x qual:œ)(st:Ĝ)(f:Pg)(fd:Pm):Prop where
 ex:∃(oc:Pi) (od:ĺ) (kV doc pm:Pi) (an:ĺ) (cdv ct:Pi) (osl:Array (Option Pi)),
  fd=W.fnOf x qual (dY st) ŏ ĝ .none kV doc pm an cdv ct/\K.lookup f=some #[oc,od,.func fd,osl]/\W.codeIn K cdv qual=true
 kp:W.keepIn K ĥ=true
section
variable{K:Qa}
theorem Fun.ok{st:Ĝ}{k:ë}{sp:Sp}(F:ñ)(S:Ł)(len:ì)(hbody:∀ (cdv:Pi) (A:Pl) (outer:List Env) (s:Ph) (H:Hp) (vs:Ņ) (Q:VK) (E:XK),Room k î->sp vs H Q E ->
   ∃ t,PSs (hZ CX0 P w K mg base N qual ĝ f cdv A outer s H E).nox ŏ t/\t { nx:=λ_ H'=>Q .non H',rt:=Q } Ň H):↑FnOk CX0 (k+1) f fd ps sp:=by
 exists[oc,od,kV,doc,pm,an,cdv,ct,osl,rfl,lk,hcd],F.ex;refine A9 lk hcd S len λA outer s H vs Q E hr hsp=>?_;exists[t,h,q],hbody cdv A outer s H vs Q E hr hsp;exact#[t,h.nox,q]
theorem Fun.binds{st:Ĝ}{ps:å}(F:ñ)(h:∀(kV doc pm:Pi) (an:ĺ) (cdv ct:Pi) (us:Pf),us.length=ps.length->bindArgs É #[us,[]]=pure (ps.zip us)):Binds K fd ps []:=by exists[oc,od,kV,doc,pm,an,cdv,ct,osl,rfl,lk,hcd],F.ex;exact .all (h kV doc pm an cdv ct)
theorem CF{st:Ĝ}{kV doc pm cdv ct:Pi}(l:K.lookup f=some #[oc,od,.func É,osl])(c:W.codeIn K cdv qual=true)(k:W.keepIn K ĥ=true):Fun K x qual st f É:=#[#[oc,od,kV,doc,pm,an,cdv,ct,osl,rfl,l,c],k]
#check 0
theorem aJ{n:ë}(h:n<=1000):n<sizeLine:=Nat.lt_of_le_of_lt h ⋯
theorem aI{A B:Prop}(h:B):if false=true then A else B:=by rw[Pa Zt];exact h
theorem bg{A B:Prop}(h:A):if true=true then A else B:=by rw[Pb rfl];exact h
theorem Nl{c A B:Prop}[Decidable c](h1:c->A)(h2:¬c->B):if c then A else B:=by
 by_cases h:c
 .rw[Pb h];exact h1 h
 .rw[Pa h];exact h2 h
theorem nB{c A B:Prop}[Decidable c](hc:c)(h:B):if(!decide c)=true then A else B:=by rw[decide_eq_true hc];exact aI h
def Same(H H':Hp):Prop:=∀b o,H b=some o->H' b=some o
theorem Same.refl(H:Hp):Same H H:=λ_ _ h=>h
theorem Same.trans(a:Same H H1)(b:Same H1 H2):Same H H2:=λc o h=>b c o (a c o h)
theorem Same.free(e:Same H H')(h:H' l=Option.none):H l=Option.none:=by
 cases q:H l with
 |none=>rfl
 |some o =>rw[e l o q]at h;cases h
section
variable{κ:Type}[DecidableEq κ]
theorem Gp{kvs:Ŕ}{k:κ}(h:bc kvs k=none):¬k∈kvs.map (·.1):=by intro m;exists[p,hp,e],Zu.mp m;have q:Ā=true:=List.any_eq_true.mpr #[p,hp,decide_eq_true e];rw[iW,h]at q;exact absurd q è
theorem qm{kvs:Ŕ}{k:κ}{v:V}(h:bc kvs k=some v):k∈kvs.map (·.1):=by
 have q:Ā=true:=by
  rw[iW,h]
  all_goals rfl
 exists[p,hp,e],List.any_eq_true.mp q;exact Zu.mpr #[p,hp,Yd e]
#check 0
theorem mF{env:Env}:∀{names:Ñ} {x:œ} {k:NameKind},
  (names.map fun(n,k)=>if(k==NameKind.free&&Ċ == .function&&env.kindOf n==some .cell)then(n,NameKind.cell)else(n,k)).lookup x=some k ->
  ∃k',names.lookup x=some k'/\(k=k'\/(k'=.free/\k=.cell))
 | [],_,_,h=>by simp at h
 |(n,k0)::r,x,k,h=>by
  have ih:=@mF env r x k;rw[Zn]at h;by_cases hc:Á=true
  .have e:Ê=Į:=Pb hc;simp only[e]at h;cases hx:x==n with
   |true =>
    simp only[ZW,hx]at h ⊢;have hf:k0=.free:=by have:=hc;simp only[ZN,y0]at this;exact this.1.1
    exact#[k0,rfl,.inr #[hf,(Zo h).symm]]
   |false =>simp only[ZW,hx]at h ⊢;exact ih h
  .have e:Ê=(n,k0):=Pa hc;simp only[e]at h;cases hx:x==n with
   |true =>simp only[ZW,hx]at h ⊢;exact#[k0,rfl,.inl (Zo h).symm]
   |false =>simp only[ZW,hx]at h ⊢;exact ih h
theorem oX{env:Env}:∀{names:Ñ} {x:œ},names.lookup x=some .free ->
  (names.map fun(n,k)=>if(k==NameKind.free&&Ċ == .function&&env.kindOf n==some .cell)then(n,NameKind.cell)else(n,k)).lookup x=some .cell \/
  (names.map fun(n,k)=>if(k==NameKind.free&&Ċ == .function&&env.kindOf n==some .cell)then(n,NameKind.cell)else(n,k)).lookup x=some .free
 | [],_,h=>by simp at h
 |(n,k0)::r,x,h=>by
  have ih:=@oX env r x;rw[Zn];by_cases hc:Á=true
  .have e:Ê=Į:=Pb hc;simp only[e];cases hx:x==n with
   |true =>
    simp only[ZW,hx]at h ⊢
    first|exact .inl rfl|exact .inl trivial
   |false =>simp only[ZW,hx]at h ⊢;exact ih h
  .have e:Ê=(n,k0):=Pa hc;simp only[e];cases hx:x==n with
   |true =>simp only[ZW,hx]at h ⊢;exact .inr h
   |false =>simp only[ZW,hx]at h ⊢;exact ih h
def dw(env:Env):List (Str×NameKind)->List Ŝ->List Ŝ
 | [],acc=>acc
 |y::r,acc=>if Î=true then dw env r ((y.1,(env.cells.lookup y.1).getD 0)::acc)else dw env r acc
theorem tH{env:Env}:∀{names:Ñ} {acc:Ò},Þ ->
  (forIn names acc fun(x:Str×NameKind) (cs:Ò)=>if(x.2==NameKind.free)=true then do let c ←cellOf env x.1;pure (ForInStep.yield ((x.1,c)::cs))else pure (ForInStep.yield cs):Sem Ò)=pure (dw env names acc)
 | [],_,_=>rfl
 |y::r,acc,h=>by
  rw[List.forIn_cons];by_cases hy:Î=true
  .exists[c,hc],h y Zq Ħ;have e:cellOf env y.1=pure c:=by unfold cellOf;rw[hc]
   rw[Pb hy,e,pure_bind,pure_bind];show(forIn r ((y.1,c)::acc) _:Sem Ò)=_;rw[tH λz hz=>h z Ĵ];show _=pure Ô;rw[Pb hy,hc];rfl
  .rw[Pa hy,pure_bind];show(forIn r acc _:Sem Ò)=_;rw[tH λz hz=>h z Ĵ];show _=pure Ô;rw[Pa hy]
theorem Hw{scope:ĳ}{env:Env}(h:∀y∈Í,y.2=.free->∃c,env.cells.lookup y.1=some c):closureFor scope env=pure (dw env Í []):=by have q:=tH (env:=env) (names:=Í) (acc:=[]) h;unfold closureFor;exact(by first|(simp only[bind_pure];exact q)|(rw[bind_pure];exact q)|exact q)
theorem tI{env:Env}:∀{names:Ñ} {acc:Ò},Þ->(∀x c,acc.lookup x=some c->env.cells.lookup x=some c) ->
  ∀x c,(dw env names acc).lookup x=some c->env.cells.lookup x=some c
 | [],_,_,ha=>ha
 |y::r,acc,h,ha=>by
  have hr:∀z∈r,z.2=.free->∃c,env.cells.lookup z.1=some c:=λz hz=>h z Ĵ;intro x c e;unfold dw at e;by_cases hy:Î=true
  .rw[Pb hy]at e;refine tI hr (λx' c' e'=>?_) x c e;exists[d,hd],h y Zq Ħ;rw[hd,Option.getD_some]at e';cases hx:x'==y.1 with
   |true =>simp only[ZW,hx]at e';have e1:x'=y.1:=eq_of_beq hx;rw[e1,hd];exact e'
   |false =>simp only[ZW,hx]at e';exact ha x' c' e'
  .rw[Pa hy]at e;exact tI hr ha x c e
theorem qQ:∀{names:Ñ} {acc:Ò} {x:œ},(∃c,acc.lookup x=some c)->∃c,(dw env names acc).lookup x=some c
 | [],_,_,h=>h
 |y::r,acc,x,h=>by
  unfold dw;by_cases hy:Î=true
  .rw[Pb hy];refine qQ ?_;cases hx:x==y.1 with
   |true=>exact#[(env.cells.lookup y.1).getD 0,by simp only[ZW,hx]]
   |false =>exists[c,e],h;exact#[c,by simp only[ZW,hx];exact e]
  .rw[Pa hy];exact qQ h
theorem tG:∀{names:Ñ} {acc:Ò} {x:œ},names.lookup x=some .free->∃c,(dw env names acc).lookup x=some c
 | [],_,_,h=>by simp at h
 |(n,k)::r,acc,x,h=>by
  unfold dw;cases hx:x==n with
  |true =>
   simp only[ZW,hx]at h;have hy:ī=true:=by rw[Zo h];rfl
   rw[Pb hy];exact qQ #[(env.cells.lookup n).getD 0,by simp only[ZW,hx]]
  |false =>
   simp only[ZW,hx]at h;by_cases hy:ī=true
   .rw[Pb hy];exact tG h
   .rw[Pa hy];exact tG h
abbrev bw(X:Cx)(scope:ĳ)(N':å)(C:Pg)(s0:Ph)(H0:Hp)(ex:List Pg):Cx where
 prog:=X.prog
 w:=X.w
 K:=Ō
 mg:=X.mg
 base:=X.base
 A:=ō
 N:=N'
 s₀:=s0
 H₀:=H0
 env:=compEnvC scope ö C Ç
 outer:=ĭ
 stack:=ĭ
 ex:=ex
 fn:=λ_=>false
 calm:=X.calm
 pn:=[]
 xe:=λ_ _=>False
def CapOk(X:Cx)(sc:ĳ):List Nat->List Str->Prop
 | [],[]=>True
 |j::js,x::xs=>ţ[j]?=some x/\sc.names.lookup x=some .free/\CapOk X sc js xs
 |_,_=>False
theorem CapOk.get:∀{js:ò} {xs:å} {i:ë} {x:œ},CapOk X sc js xs->xs[i]?=some x ->
  ∃j,js[i]?=some j/\ţ[j]?=some x/\sc.names.lookup x=some .free
 | [],[],_,_,_,e=>by simp at e
 |j::js,y::xs,0,x,h,e=>by
  exists[h1,h2,_],h;have e':y=x:=by simpa using e
  subst e';exact#[j,rfl,h1,h2]
 |j::js,y::xs,i+1,x,h,e=>by exists[_,_,h6],h;exists[j',q],CapOk.get (i:=i) (x:=x) h6 (by simpa using e);exact#[j',by simpa using q.1,q.2]
 | [],_::_,_,_,h,_=>Ī
 |_::_,[],_,_,h,_=>Ī
theorem CapOk.len:∀{js:ò} {xs:å},CapOk X sc js xs->js.length=xs.length
 | [],[],_=>rfl
 |j::js,y::xs,h=>by exists[_,_,h6],h;simp[CapOk.len h6]
 | [],_::_,h=>Ī
 |_::_,[],h=>Ī
structure CompOk(X:Cx)(scope:ĳ)(cap:ò)(capN:å):Prop where
 kind:scope.kind=.function
 names:∀x∈Í,x.2=.local->scope.names.lookup x.1=some .local
 nocell:∀y∈Í,y.2≠.cell
 frees:(scope.names.all λy=>! Î ||(X.env.kindOf y.1==some .cell ||X.env.kindOf y.1==some .free))=true
 cap:CapOk X scope cap capN
section
variable{X:Cx}{scope:ĳ}{cap:ò}{capN:å}
theorem CompOk.around(O:Ä)(hy:y∈Í)(hf:y.2=.free):X.env.kindOf y.1=some .cell\/X.env.kindOf y.1=some .free:=by have q:=YM.mp O.frees y hy;rw[hf]at q;simpa using q
theorem CompOk.cells(O:Ä)(ok:X.Ok):∀y∈Í,y.2=.free->∃c,X.env.cells.lookup y.1=some c:=λy hy hf=>ok.has _ (O.around hy hf)
theorem CompOk.clos(O:Ä)(ok:X.Ok):closureFor scope Ç=pure ö:=Hw ň
theorem CompOk.sub(O:Ä)(ok:X.Ok):∀x c,(dw Ç Í []).lookup x=some c->X.env.cells.lookup x=some c:=tI ň λx c e=>by simp at e
theorem CompOk.has(_O:Ä)(h:scope.names.lookup x=some .free):∃c,(dw Ç Í []).lookup x=some c:=tG h
#check 0
def de(n:ë)(cap:ò)(Z:St):St:=List.replicate n none++cap.map (λj=>(Z[j]?).join)
theorem AX{n:ë}:(de n cap Z).length=n+cap.length:=by unfold de;rw[Zh,Y5,Zd]
theorem rE{n:ë}{i:ë}(h:ę[i]?=some (some v)):n<=i/\∃j,cap[i-n]?=some j/\Z[j]?=some (some v):=by
 unfold de at h;by_cases hi:i<n
 .rw[List.getElem?_append_left (by simpa using hi),List.getElem?_replicate]at h;rw[Pb hi]at h;cases h
 .have hi':n<=i:=Nat.le_of_not_lt hi;rw[Yr (by simpa using hi'),Y5,Zx]at h;refine#[hi',?_];cases e:cap[i-n]? with
  |none=>rw[e]at h;cases h
  |some j =>
   rw[e]at h;refine#[j,rfl,?_];have h':(Z[j]?).join=some v:=by simpa using h
   cases q:Z[j]? with
   |none=>rw[q]at h';cases h'
   |some o =>rw[q]at h';have:o=some v:=h';rw[this]
section
variable{s:Ph}{N':å}
theorem Cj(I:ó)(O:Ä)(hC:Ï<=C)(hex:ċ):(bw X scope N' C s H ex).Ok where
 mod:=I.ok.mod
 kind:=O.kind
 glob:=I.ok.glob
 blt:=I.ok.blt
 above:=hC
 inj:=λx y c h1 h2=>I.ok.inj x y c (O.sub I.ok x c h1) (O.sub I.ok y c h2)
 has:=λx hx=>by
  have hx':(relabel scope Ç).names.lookup x=some .cell\/(relabel scope Ç).names.lookup x=some .free:=hx;have key:∀k,(relabel scope Ç).names.lookup x=some k->(k=.cell\/k=.free)->scope.names.lookup x=some .free:=λk e hk=>by
   exists[k',e',q],mF (env:=Ç) e;rcases q with q|⟨q,_⟩
   .subst q;rcases hk with z|z
    .subst z;exact absurd rfl (O.nocell _ (Yj e'))
    .subst z;exact e'
   .subst q;exact e'
  rcases hx' with e|e
  .exact O.has (key _ e (.inl rfl))
  .exact O.has (key _ e (.inr rfl))
 cab:=λx c h _=>by cases h
 hd:=I.ok.hd
 frames:=I.ok.frames
 stk:=.inl rfl
 exf:=λb hb=>by obtain⟨⟨f0,f1,f2,f3,f4,f5⟩,lt⟩:=hex b hb;exact#[Zy (ZE lt hC),λx c e=>f4 x c ú]
 bs:=I.bs
 bsz:=Zr I.ok.bsz I.sz
 noex:=λb o e hb=>by
  obtain⟨⟨f0,f1,f2,f3,f4,f5⟩,lt⟩:=hex b hb;rcases f3 with z|z
  .exact I.ok.noex b o e z
  .exact absurd (ZE Ś (Zr I.ok.bsz z)) (YD _)
 exfs:=λb hb z=>by
  obtain⟨⟨f0,f1,f2,f3,f4,f5⟩,lt⟩:=hex b hb;rcases Zg.mp (I.stkSub b z)with e|e
  .exact f1 e
  .exact f2 e
 funs:=I.stack
 frf:=I.stkFree
theorem Dg(I:ó)(hb:Ï<=b):b∉frs ĭ:=λz=>by
 rcases Zg.mp (I.stkSub b z)with e|e
 .exact absurd (ZE I.lt hb) (by rw[e];exact YD _)
 .exact I.nofs hb e
theorem Fg(I:ó)(hb:Ï<=b):∀x c,X.env.cells.lookup x=some c->c≠b:=λx c e z=>by exists[v,q],I.cell x c e;exact absurd (ZE q.lt (by rw[z];exact hb)) (YD _)
theorem AY{n:ë}{h1:Heap}{tk:ë}(I:ó)(O:Ä)(hN:N'.length=n+capN.length)(hN2:∀i x,n<=i->N'[i]?=some x->capN[i-n]?=some x)(hC:Ï<=C)(hex:ċ)(hk:∀b o,s.heap.get? b=some o->h1.get? b=some o)(hn:h1.Ns C m1):Inv (bw X scope N' C s H ex) [] ę H { s with heap:=h1,toks:=tk }:=by
 refine#[Cj I O hC hex,rfl,I.bare,Un.kept hk,#[m1,hn,λi x v e1 e2 e3=>?_],λx c e=>?_,I.hok.fresh hC,λx c e=>I.freeC x c ú,λp hp=>absurd (show p∈([]:Pc)from hp) è,I.hok.kept hk,?_]
 .exists[hi,j,ej,es],rE e2;exists[j',q1,q2,qf],O.cap.get (hN2 i x hi e1);have q3:=O.around (Yj qf) rfl;have q4:=oX (env:=Ç) qf;exists[c,q5],O.has qf;have q6:=O.sub I.ok x c q5;rw[q1]at ej;cases ej;exists[m0,hn0,hl0],I.loc;exists[u,r,l],hl0 _ x v q2 es (by
   rcases q3 with z|z
   .exact .inr (.inl z)
   .exact .inr (.inr z))
  refine#[u,r,.inr #[q4,c,q5,?_]];rcases l with⟨k,_⟩|⟨_,c',e',z⟩
  .rcases q3 with z|z
   .have z':X.env.kindOf x=some .cell:=z;rw[z']at k;cases k
   .have z':X.env.kindOf x=some .free:=z;rw[z']at k;cases k
  .rw[q6]at e';cases e';exists[o,ho,hd],z;exact#[o,hk _ _ ho,hd]
 .exists[v,o,ho,hd],I.cell x c ú;exact#[v,o,hk _ _ ho,hd]
 .rw[AX,O.cap.len];exact hN.symm
#check 0
def tq(X:Cx)(ifs:Ğ)(t:TT):Prop :=
 ∀(Pr:Pc) (s:Ph) (Z:St) (H:Hp) (Q:Bool->Hp->Prop),Inv X Pr Z H s->t Z H Q ->
  wpAny Ë ō (forIn ifs true λc r=>if r=true then do let ok ←isTrue c Ç (eval c Ç);pure (ForInStep.yield ok)else pure ħ) (TP X Pr Z Q) X.xe s
def nV:TT:=λ_ H Q=>Q true H
theorem FH:tq X [] nV:=λ_ _ _ H _ I h=>wpAny_tests_nil #[H,I,h]
theorem FI{t:TT}(h:PT X c t):tq X [c] t:=λPr s Z H Q I hw=>wpAny_tests_one (h Pr s Z H Q I hw)
def GK(n:ë)(g:TG):Prop:=∀x Z H Q,g x Z H Q->g x Z H Ù
theorem aT{n i:ë}(hi:i<n):GK n ś:=λx Z H Q h=>#[#[Yw,λj hj=>List.getElem?_set_ne ∅],h]
def GKs(n:ë)(g:TGs):Prop:=∀xs Z H Q,g xs Z H Q->g xs Z H Ù
theorem fB{n:ë}:GKs n oy:=λxs Z H Q h=>#[h.1,#[rfl,λ_ _=>rfl],h.2]
def GM(g:TG):Prop:=∀x Z H Q Q',ā->g x Z H Q->g x Z H Q'
def GMs(g:TGs):Prop:=∀xs Z H Q Q',ā->g xs Z H Q->g xs Z H Q'
theorem aK{i:ë}:GM ś:=λ_ _ _ _ _ f h=>f _ _ h
theorem bG:GMs oy:=λ_ _ _ _ _ f h=>#[h.1,f _ _ h.2]
theorem bZ{t:TG}(a:GM t)(b:GMs u):GMs (gU t u):=λxs Z H Q Q' f h=>by exists[v,r,e,h],h;exact#[v,r,e,a _ _ _ _ _ (λσ2 H2 z=>b _ _ _ _ _ f z) h]
theorem bq{n:ë}{t:TG}(a:GK n t)(m:GM t)(b:GKs n u)(mb:GMs u):GKs n (gU t u):=λxs Z H Q h=>by exists[v,r,e,h],h;refine#[v,r,e,m _ _ _ _ _ (λσ2 H2 z=>?_) (a _ _ _ _ h)];obtain⟨⟨l1,k1⟩,z⟩:=z;refine mb _ _ _ _ _ (λσ3 H3 w=>?_) (b _ _ _ _ z);obtain⟨⟨l2,k2⟩,w⟩:=w;exact#[#[l2.trans l1,λi hi=>(k2 i hi).trans (k1 i hi)],w]
theorem gH{n m:ë}{K:Qa}{t:TGs}(a:GKs n t):GK n (oA K m t):=λx Z H Q h=>by exists[b,xs,e,h1,h2,h3],h;exact#[b,xs,e,h1,h2,a _ _ _ _ h3]
def gQ(n:ë)(cap:ò)(g:TG)(tc:TT)(te:TE)(Z:St)(J:It)(H1:Hp)(Q:VK):Prop :=
 ∃W:Nat->Nat->List V->Hp->Prop,(∃m,W 0 m [] H1)/\∀i m ys H,W i m ys H ->
  (J.stop i H/\∀p,H p=none->Q (.ref p) (upd H p ĵ)) \/
  (J.go i H/\ı<sizeLine/\∀ x H',J.yld i H x H'->g x ę H' λσ2 H2=>tc σ2 H2 λb H3 =>
   if b=true then te σ2 H3 λy H4=>∃ m',m'<m/\W (i+1) m' (ys++[y]) H4 else ∃ m',m'<m/\W (i+1) m' ys H3)
def wE(n:ë)(cap:ò)(wi:TI)(g:TG)(tc:TT)(te:TE):TE:=λZ H Q=>wi Z H λJ H1=>gQ n cap g tc te Z J H1 Q
theorem mV{R:Result->Ph->Prop}(I:Nat->Ph->Prop)(turn:∀ n s,I n s->wpAny Ø A (pyNext it) (λr s₁=>match r with
   |none=>R Ő s₁
   | some v=>wpAny Ø A (letOwnedTupleGo target it v) (λ_ s₁'=>wpAny Ø A (assign target env v) (λ_ s₂ =>
     wpAny Ø A (forIn ifs true λc r=>if r=true then do let ok ←isTrue c env (eval c env);pure (ForInStep.yield ok) else pure ħ) (λok s₃ =>
      if ok=true then wpAny Ø A (eval elt env) (λx s₄ =>
       wpAny Ø A (call (.builtin "list.append") [acc,x]) (λ_ s₅=>∃ m,m<n/\I m s₅) Ü s₄) Ü s₃
      else ∃ m,m<n/\I m s₃) Ü s₂) Ü s₁') Ü s₁) Ü s)(n:ë)(h:I n s):
  codeAny Ø A (.compLoop é 0 it acc env) R s:=by
 refine codeAny_loop rfl I (λn s hI=>?_) n h;show wpAny _ A ((compTurn é 0 it acc env).onRaise (λx=>do noteFrame x env;theTreesLotGoes x)) _ _ s;refine wpAny_noted (wpAny_noRaise ?_);rw[compTurn_list];refine z9 (wpAny_standAt (z9 (ZX (turn n s hI) (λr s₁ h₁=>?_) λ_ _ h'=>h')));cases r with
 |none=>exact Zb h₁
 |some v =>
  refine z9 (ZX h₁ (λ_ s₁' h₁'=>?_) λ_ _ h'=>h');refine z9 (ZX h₁' (λ_ s₂ h₂=>z9 (ZX h₂ (λok s₃ h₃=>?_) λ_ _ h'=>h')) λ_ _ h'=>h');cases ok with
  |false=>exact Zb #[rfl,h₃]
  |true =>exact z9 (z9 (ZX h₃ (λx s₄ h₄=>z9 (ZX h₄ (λ_ s₅ h₅=>Zb (Zb #[rfl,h₅])) λ_ _ h'=>h')) λ_ _ h'=>h'))
theorem IC{own capN:å}:∀(i:ë) (x:œ),Ì<=i->ő[i]?=some x->capN[i-Ì]?=some x:=λi x hi e=>by rw[Yr hi]at e;exact e
section
variable{X:Cx}{scope:ĳ}
abbrev ju(its:Pf)(nn:ë):Obj:={ cls:=.type "list",data:=.seq Ŏ nn }
theorem uU{RR:Pi->Pg->Result->Ph->Prop}(O:Ä)(hc:Ú)(hg:ê)(gk:ğ)(ht:æ)(he:ç)(I2:Inv X Pr Z H2 s2)(T:Turn X.prog X.w Ō tg J fp it tn)(st2:tn 0 s2.heap)(f2:∀b∈fp,cE X Pr H2 b)(hq:gQ Ì cap g tc te Z J H2 Q)(fin:∀(D C:Pg) (s4:Ph) (H4:Hp) (ys:Ņ),Inv X Pr Z ð s4->(∃m,s4.heap.Ns C m)->cE X Pr ð C->Q Ď ð->RR Ď C Ő s4):
  wpAny Ë ō Ŋ (λacc s₃=>wpAny Ë ō (newFunctionEnv scope X.env.globals ö [] X.env.qual none .none (some Ç)) (λcenv s₄ =>
   codeAny Ë ō (.compStart Ã 0 ŝ acc { cenv with scope:=relabel scope Ç }) (RR acc cenv.locals) s₄) E s₃) E s2:=by
 obtain⟨W,⟨m0,w0⟩,turn⟩:=hq;refine ZS (wpAny_newFunctionEnv O.nocell (by intro y hy;simp at hy) (λh₁ hns₁ hsb₁=>?_) O.kind);dsimp only at hns₁ hsb₁ ⊢;generalize hHp:s2.heap.push { cls:=.type "list",dict:=none,data:=.seq ([]:Pf).toArray }=Hp2 at hns₁ hsb₁ ⊢;have hC:Hp2.objs.size=È+1:=by rw[<-hHp,Heap.size_push]
 have hDC:È≠Hp2.objs.size:=by rw[hC];exact Zy (YK _)
 have hCle:È<=Hp2.objs.size:=by rw[hC];exact YE _
 have below:∀b,b<È->b≠Hp2.objs.size/\b≠È:=λb hb=>#[by rw[hC];exact Zy (Nat.lt_succ_of_lt hb),Zy hb]
 have old:∀b o,s2.heap.get? b=some o->h₁.get? b=some o:=λb o e=>hsb₁.extBut b o (below b Ś).1 (Za _ (hHp▸Za _ e));have hacc:h₁.get? È=some (ju [] 0):=hsb₁.extBut _ _ hDC (Za _ (hHp▸Zm _ rfl));generalize hDe:È=D at *;generalize hCe:Hp2.objs.size=C at *;have hfpl:∀b∈fp,b<È:=λb hb=>by exists[o,e,_],T.obj _ _ st2 b hb;exact Zs e
 have hex:∀b∈fp,cE X Pr H2 b/\b<È:=λb hb=>#[f2 b hb,hfpl b hb]
 have hCle':È<=C:=by rw[hDe];exact hCle
 have hDle:È<=D:=by rw[hDe];exact Ze _
 have hDfp:∀b∈fp,D≠b:=λb hb z=>by have:=hfpl b hb;rw[<-z]at this;exact absurd this (Nat.not_lt.mpr hDle)
 have I0:∀tk,Inv Â [] đ H2 { s2 with heap:=h₁,toks:=tk }:=λtk=>AY I2 O è IC hCle' hex old hns₁;have Dst:D∉frs ĭ:=Dg I2 hDle;have Dcell:∀x c,(bw X scope ő C s2 H2 fp).env.cells.lookup x=some c->c≠D:=λx c e=>Fg I2 hDle x c Ĩ;have pinD:∀{σ':St} {H':Hp} {s':Ph} {its:Pf} {nn:ë},Inv Â [] σ' H' s'->s'.heap.get? D=some Œ->H' D=none->Inv Â [Ó] σ' H' s':=fun{σ' H' s' its nn} I e hn =>
  I.pins_of λp hp=>by
   have z:p=Ó:=by simpa using hp
   subst z;exact#[e,hn,hDC,Dst,λv q=>by cases q]
 have loop:∀s₃:Ph,s₃={ s2 with heap:=h₁,toks:=s2.toks+([]:List (Str×Pi)).length } ->
   codeAny Ë ō (.compLoop Ã 0 ŝ Ď (compEnvC scope ö C Ç)) (RR Ď C) s₃:=by
  rintro s₃ rfl;refine mV (λk s'=>∃(i:ë) (ys:Ņ) (its:Pf) (nn:ë) (H':Hp),Inv Â [Ó] đ H' s'/\tn i s'.heap/\Ě/\Vals ys its/\ı<=sizeLine/\W i k ys H') ?_ m0
   #[0,[],[],0,H2,pinD (I0 _) hacc (I2.hok.fresh hDle),T.keep _ _ _ st2 ē,λb hb=>(f2 b hb).1,.nil,ZH _,w0]
  rintro k s3 ⟨i,ys,its,nn,H3,I3,st3,fr3,rv,hz,w3⟩;have oD3:s3.heap.get? D=some Œ:=(I3.pin Ó è).1;have fpY:∀{H':Hp},Ě->∀b∈fp,cE Â [Ó] H' b:=fun{H'} hn b hb=>by
   exists[f0,f1,g2,f3,f4,f5],f2 b hb;refine#[hn b hb,Zy (ZE (hfpl b hb) hCle'),λz=>?_,.inl hb,λx c e=>f4 x c Ĩ,λp hp=>?_]
   .rcases Zg.mp (I2.stkSub b z)with e|e
    .exact f1 e
    .exact g2 e
   .have z:p=Ó:=by simpa[bw]using hp
    subst z;exact hDfp b hb
  rcases turn i k ys H3 w3 with⟨stop,qn⟩|⟨go,hlt,step⟩
  .refine thn (T.done Â rfl rfl rfl hc i _ s3 _ H3 _ I3 Ş st3 stop) λr s4 ⟨hr,I4⟩=>?_;subst hr;exists[oD,nD,_],I4.pin Ó è;have neD:∀{b:Pg} {u:HO},H3 b=some u->b≠D:=fun{b u} e=>aj e nD;have JX:Inv X Pr Z (upd H3 D ĵ) s4:=by
    refine I2.call' (ch:=fp) I4.os #[I4.base.keep,I4.base.slot,λb o e nb hx=>?_,I4.base.there,λb xs e=>?_,λb o u e=>?_,λb ps e=>?_] (λb u e=>?_) I4.bare (λb hb=>?_)
    .rw[af (by rw[<-hDe];exact Zy Ś)];exact I4.base.free b o e nb hx
    .have q:=I4.base.tups b xs e;rw[af Ġ];exact q
    .have q:=I4.base.frzs b o u e;rw[af Ġ];exact q
    .exists[more,q],I4.base.tbls b ps e;exact#[more,by rw[af Ġ];exact q]
    .by_cases hb:b=D
     .subst hb;rw[ac]at e;cases e;exact#[hz,its,nn,rv,oD]
     .rw[af hb]at e;exact(I4.hok b u e).stay (λ_ _ _ q=>q) (λc q=>by rw[af Ġ];exact q) λc xs q=>by rw[af Ġ];exact q
    .exists[f0,f1,g2,f3,f4,f5],f2 b hb;exact#[f3,f1,f4,f5]
   exists[m4,hn4,_],I4.loc;refine fin D C s4 H3 ys JX #[m4,hn4] ?_ (qn D nD);refine I2.fpOk (b:=C) hCle' ?_;rw[af (ZQ hDC)];exact I4.free
  .refine thn (T.item Â rfl rfl rfl hc i _ s3 _ H3 _ I3 Ş st3 go) λr s4 ⟨u,hr,h4⟩=>?_;subst hr;refine thn h4 λ_ s5 hz9=>?_;exists[x,H5,I5,r5,y5,st5,fr5],hz9;have I5':=I5.pinned (fpY fr5) (T.obj _ _ st5);refine thn (hg C s2 H2 fp _ s5 _ H5 x u _ I5' r5 (gk _ _ _ _ (step x H5 y5))) λ_ s6 hz9=>?_;obtain⟨σ6,H6,I6,⟨l6,k6⟩,q6⟩:=hz9;refine thn (ht C s2 H2 fp _ s6 σ6 H6 _ I6 q6) λok s7 ⟨H7,I7,q7⟩=>?_;have wk:∀{H8:Hp} {s8:Ph} {pl:Pc},Inv Â pl σ6 H8 s8->Inv Â pl đ H8 s8:=λI=>I.weak l6.symm λj v e=>by exists[hj,_],rE e;rw[k6 j hj];exact e
   have tn8:∀{σ8:St} {H8:Hp} {s8:Ph},Inv Â ([Ó]++oS fp s5.heap) σ8 H8 s8->(∀b∈fp,∀o,s5.heap.get? b=some o->s8.heap.get? b=some o)/\∀b∈fp,H8 b=none:=fun{σ8 H8 s8} I=>by refine#[λb hb o e=>(I.pin (b,o) Ĕ).1,λb hb=>?_];exists[o,e,d],T.obj _ _ st5 b hb;exact(I.pin (b,o) Ĕ).2.1
   cases ok with
   |false =>rw[Pa Zt]at q7 ⊢;exists[m',hm,w7],q7;exists[t1,t2],tn8 I7;exact#[m',hm,i+1,ys,its,nn,H7,wk I7.unpinned,T.keep _ _ _ st5 t1,t2,rv,hz,w7]
   |true =>
    rw[Pb rfl]at q7 ⊢;refine thn (he C s2 H2 fp _ s7 σ6 H7 _ I7 q7) λy s8 hz9=>?_;exists[yv,H8,I8,r8,m',hm,w8],hz9;exists[t1,t2],tn8 I8;exists[oD,nD,_],I8.pin Ó è;have hil:=rv.length;refine call_meets F.slot_list_append #[_,oD,rfl] F.entry_list_append (F.args_list_append_2 _ _) (PySem.list_append D Ŏ nn y (by rw[Zl];omega)) #[oD,?_];have q:=PySem.IsL.update oD (λx_1=>x_1.push y);have hf:its.toArray.push y=(its++[y]).toArray:=by simp
    rw[hf]at q;have keepO:∀b o,b≠D->s8.heap.get? b=some o->(s8.heap.update D ß).get? b=some o:=λb o hb e=>(y9 s8.heap ß (ZQ hb)).trans e;have I9:Inv Â [] σ6 H8 { s8 with heap:=s8.heap.update D ß,toks:=s8.toks } :=
     (I8.pins_of (pins':=[]) λp hp=>absurd hp è).turned (it:=D) keepO nD hDC (.inr hDle) Dcell (λp hp=>absurd (show p∈([]:Pc)from hp) è)
    refine#[m',hm,i+1,ys++[yv],its++[y],_,H8,wk (pinD I9 q nD),T.keep _ _ _ st5 (λb hb o e=>keepO b o (ZQ (hDfp b hb)) (t1 b hb o e)),t2,rv.append (.cons r8 .nil),?_,w8];rw[Zh,Yz];omega
 exact codeAny_compStart_list ŋ (T.self _ 0 _ _ _ (T.keep _ _ _ st2 ē) ŋ)
theorem II(O:Ä)(hc:Ú)(hi:ł)(hg:ê)(gk:ğ)(ht:æ)(he:ç)(hs:∀x,foldedSetIterable iter Ç x=pure x:=by intro _;rfl):PE X Ã Û:=by intro Pr s Z H Q I h;rw[eval_ListComp];refine wpAny_comprehension_free (use:=none) rfl hs ń O.kind O.names Ý;exists[it,fp,tn,J,H2,e,I2,T,st2,f2,hq],h2;subst e;refine uU (RR:=λacc C=>compPost Ë ō X.xe none (EP X Pr Z Q) acc C) O hc hg gk ht he I2 T st2 f2 hq λD C s4 H4 ys J4 hn4 fC q4=>?_;exists[m,hn],hn4;exists[f0,f1,g2,f3,f4,f5],fC;exact#[m,hn,λh' sb=>#[.ref D,_,J4.turned (t':=s4.toks) û f0 f1 f3 f4 f5,rfl,q4]]
theorem Jb{j:ë}{py spos:Pos}(hN0:Đ)(hj:ţ[j]?=some y)(hy:Loc ï y)(O:Ä)(hc:Ú)(hi:ł)(hg:ê)(gk:ğ)(ht:æ)(he:ç)(hsw:swapsWith Ã ş ř Ç=pure true:=by rfl)(hs:∀x,foldedSetIterable iter Ç x=pure x:=by intro _;rfl)(hf:X.fn y=true\/X.env.scope.names.lookup y=some .local:=by first|exact .inl rfl|exact .inr rfl|assumption):
  PS X ă Ŀ:=by
 intro Pr s Z H D0 I h;rw[exec_Assign_Name_used _ _ _ _ hsw];refine z9 (wpAny_standAt (z9 ?_));show wpAny _ ō (do let _ ←comprehension Ã scope Ç _ Ŋ false (eval iter Ç) Š) _ _ s;refine z9 (ZX (wpAny_comprehension_free (use:=some č) (Q:=λ_ s'=>SP X Pr D0 .next s') rfl hs ń O.kind O.names Ý) (λ_ s' hq=>Zb (Zb hq)) λ_ _ e=>e);exists[it,fp,tn,J,H2,e,I2,T,st2,f2,hq],h2;subst e;refine uU (RR:=λacc C=>compPost Ë ō X.xe Š (λ_ s'=>SP X Pr D0 .next s') acc C) O hc hg gk ht he I2 T st2 f2 hq λD C s4 H4 ys J4 hn4 fC q4=>?_;exists[m,hn],hn4;exists[f0,f1,g2,f3,f4,f5],fC;show wpAny _ ō (assign ã Ç Ď) _ _ _;refine wpAny_assign_Name (vC J4 hN0 hj hy (v:=.ref D) rfl (λs5 I5 ⟨a,sba,ha⟩=>?_) hf);have hCa:C≠a:=by
  rcases ha with z|z
  .rw[z];exact f1
  .exact ZQ (f4 _ _ z)
 refine#[m,hn.sameBut sba hCa,λh' sb=>?_];exact#[_,_,I5.turned (t':=s5.toks) û f0 f1 f3 f4 f5,q4]
#check 0
structure Fn(P:Pj)(w:Pk)(K:Qa)(mg:Pe)(base:Heap)(k:ë)(x:œ)(ps:å)(sp:Sp):Prop where
 ex:∃f fd,FnOk P w K mg base CX0 k f fd ps sp/\mg x=some ĥ/\W.keepIn K ĥ=true/\Binds K fd ps []
section
variable{X:Cx}{k:ë}{e:Pq}{t:TA}
theorem MB(F:Ö)(hr:İ)(ha:Ę)(hg:Gl X x:=by rfl)(hdb:Æ=false:=by decide)(he:starEach à Ç=(false,eval e Ç)::starEach es Ç:=by rfl)(hpl:(backTo pos (starEach es Ç)).any (·.1)=false:=by rfl) :
  PE X Å Ĉ:=by
 exists[f,fd,G,m,kp,b],F.ex;exact IG G hr hg m kp b .nil lH ha hdb he hpl
#check 0
theorem rB:bootBuiltins "isinstance" = some í:=⋯
theorem xi:bootBuiltins "max" = some Ĳ:=⋯
theorem AT:bootBuiltins "tuple" = some ĸ:=⋯
theorem ip:bootBuiltins "list" = some ŀ:=⋯
section
variable{X:Cx}
theorem EF:fZ X í Ð:=by intro Pr s Z H xs us Q I r h;exists[x,T,t,b,rfl,ty,e,q],h;exists[u,w',rfl,rx,ry],jM r;cases(show w'=Value.type T from ry);exact CO I rx ty e λtk=>#[.bl b,H,I.tok tk,rfl,q]
def NA(K:Qa):R2:=λx y H Q=>∃(a b:Pg) (ns ms:Pn),x=.ref a/\y=.ref b/\SqL K H a ľ/\SqL K H b (ms.map V.int)/\Q (.bl (!decide (ns=ms))) H
theorem KO(hu:X.A.units+64<cLine):OpR X Ĭ (NA Ō):=by intro Pr s Z H x y v u Q I rx ry h;exists[a,b,ns,ms,rfl,rfl,ha,hb,q],h;cases rx;cases ry;exists[its,r1,p1,_],I.list ha;exists[its2,r2,p2,_],I.list hb;exact W.ke_ne_ints p1.isList p2.isList (bQ r1) (bQ r2) hu #[.bl _,H,I,rfl,q]
#check 0
theorem ad{H:Hp}(h:H p=none)(o:HO):Same H (upd H p o):=λb u q=>by rw[af (aj q h)];exact q
theorem nu1{H A:Hp}(g:H p=none)(h:ŗ):Same H A:=h▸ad g o
theorem nu2(h:ŗ):A p=some o:=h▸ac
theorem dS{n:ë}(h:n<=1000):n<=sizeLine:=Nat.le_of_lt (aJ h)
theorem sz{n:ë}(h:Nat.ble n 1000=true):n<=sizeLine:=dS (Nat.le_of_ble_eq_true h)
theorem Cl{J:It}{N n:ë}{te:TE}{Q:VK}(x0 f:Nat->V)(hz:N<=1000)(hgo:∀i H,i<N->Same H0 H->J.go i H)(hst:∀H,Same H0 H->J.stop N H)(hy:∀i H x H',i<N->Same H0 H->J.yld i H x H'->H'=H/\x=x0 i)(he:∀i H,i<N->Same H0 H->∀R:VK,Ą->te ((de n cap Z).set 0 (some (x0 i))) H R)(hq:Õ):gQ n cap (dA 0) nV te Z J H0 Q:=by
 refine#[λi m ys H=>m=N-i/\i<=N/\Same H0 H/\ys=(List.range i).map f,#[N,by simp,ZH _,Same.refl _,rfl],?_];rintro i m ys H ⟨rfl,hi,sm,rfl⟩;by_cases hlt:i<N
 .refine .inr #[hgo i H hlt sm,?_,λx H' y=>?_]
  .rw[Zd,List.length_range];exact aJ ∅
  .exists[e1,e2],hy i H x H' hlt sm y;subst e1 e2;refine he i H' hlt sm _ λH4 sm4=>#[N-(i+1),∅,rfl,hlt,sm.trans sm4,?_]
   rw[List.range_succ,ZA];rfl
 .have e:i=N:=∅
  subst e;exact .inl #[hst H sm,λp hp=>hq p H sm hp]
theorem rF{N n:ë}{lo:Int}{te:TE}{Q:VK}(f:Nat->V)(hz:N<=1000)(he:∀i H,i<N->Same H0 H->∀R:VK,Ą->te ((de n cap Z).set 0 (some (.int (lo+i)))) H R)(hq:Õ):gQ n cap (dA 0) nV te Z (Itr lo N) H0 Q :=
 Cl (N:=N) (λi=>.int (lo+i)) f hz (λ_ _ hi _=>hi) (λ_ _=>Ze N) (λ_ _ _ _ _ _ y=>y) he hq
def aX:Pq->Bool
 |.Starred _ _=>false
 |_=>true
theorem bf(h:aX e=true):starEach à env=(false,eval e env)::starEach es env:=by cases e<;>first|rfl|cases h
theorem cj:∀{es:Ğ},es.all aX=true->(backTo pos į).any (·.1)=false
 | [],_=>rfl
 |e::es,h=>by rw[YU,ZN]at h;rw[bf h.1];show(false ||(backTo pos į).any (·.1))=false;rw[Bool.false_or];exact cj h.2
section
variable{X:Cx}{e:Pq}{t:TA}{id:String}{k:ë}
theorem pa(ha:PE X e te)(hr:PA X es t)(hs:aX e=true:=by rfl):PA X à š:=Ad ha hr (bf hs)
theorem pB(hc:fZ X ø r)(hm:ô)(hv:ġ)(ha:Ę)(hg:Gl X x:=by rfl)(hs:(e::es).all aX=true:=by rfl)(hn:x≠"__name__":=by decide)(hdb:Æ=false:=by decide) :
  PE X Å ė:=by
 rw[YU,ZN]at hs;exact Fy hc hg hm hv ha hn hdb Ķ ķ
theorem pTy(hc:fZ X Ţ r)(hm:ô)(hv:â)(ha:Ę)(hg:Gl X x:=by rfl)(hs:(e::es).all aX=true:=by rfl)(hn:x≠"__name__":=by decide)(hdb:Æ=false:=by decide) :
  PE X Å ė:=by
 rw[YU,ZN]at hs;exact DB hc hg hm hv ha hn hdb Ķ ķ
theorem pfn(F:Ö)(hr:İ)(ha:Ę)(hg:Gl X x:=by rfl)(hs:(e::es).all aX=true:=by rfl)(hdb:Æ=false:=by decide) :
  PE X Å Ĉ:=by
 rw[YU,ZN]at hs;exact MB F hr ha hg hdb Ķ ķ
#check 0
structure QE(X:Cx)(e:Pq)(t:TE):Prop where
 h:PE X e t
structure QT(X:Cx)(e:Pq)(t:TT):Prop where
 h:PT X e t
structure QW(X:Cx)(e:Pq)(t:TT):Prop where
 h:PW X e t
structure QA(X:Cx)(es:Ğ)(t:TA):Prop where
 h:PA X es t
structure QS(X:Cx)(st:Ĝ)(t:TS):Prop where
 h:PS X st t
structure QB(X:Cx)(st:List Stmt)(t:TS):Prop where
 h:PSs X st t
structure QG(X:Cx)(tg:Pq)(g:TG):Prop where
 h:PG X tg g
structure QGs(X:Cx)(ts:Ğ)(g:TGs):Prop where
 h:PGs X ts g
structure QI(X:Cx)(tg iter:Pq)(wi:TI):Prop where
 h:PI X tg iter wi
structure QIf(X:Cx)(ifs:Ğ)(t:TT):Prop where
 h:tq X ifs t
structure QO(X:Cx)(e:Option Pq)(t:TO):Prop where
 h:PO X e t
structure QOp(X:Cx)(f:Pi->Pi->Sem Pi)(r:R2):Prop where
 h:OpR X f r
structure QCall(X:Cx)(f:Pi)(r:List V->Hp->VK->Prop):Prop where
 h:fZ X f r
structure QIx(X:Cx)(r:R2):Prop where
 h:IxR X r
structure QSl(X:Cx)(r:V->Option Int->Option Int->Hp->VK->Prop):Prop where
 h:SlR X r
structure QSet(X:Cx)(t:xg):Prop where
 h:Ev X t
structure QUn(X:Cx)(f:Pi->Sem Pi)(r:V->Hp->VK->Prop):Prop where
 h:UnR X f r
structure QIp(X:Cx)(op:Operator)(t:TIp):Prop where
 h:PIp X op t
section
variable{X:Cx}{pos:Pos}{e a b:Pq}{t:TA}{x:œ}
theorem q_v(i:ë){x:œ}{pos:Pos}(hN:ţ[i]?=some x:=by rfl)(hv:Vis ï x:=by first|exact Or.inl rfl|exact Or.inr (Or.inl rfl)|exact Or.inr (Or.inr rfl))(hd:(x==("__debug__":Str))=false:=by decide)(hcd:(x==("__classdict__":Str))=false:=by decide):QE X Ē (tVar i):=#[K9 hN hv hd hcd]
theorem ah{i:Int}{j:ë}:QE X (.Constant Ń j pos) (tC Ń):=#[K1]
theorem iE{i:Bool}{j:ë}:QE X (.Constant (.bool i) j pos) (tC (.bl i)):=#[MA]
theorem cz{j:ë}:QE X (.Constant .none j pos) (tC .non):=#[K4]
theorem ar{i:œ}{j:ë}:QE X (.Constant (.str i) j pos) (tC (.str i)):=#[K7]
theorem Ny(hm:ô)(hv:â)(hg:Gl X x:=by rfl)(hn:x≠"__name__":=by decide)(hd:Æ=false:=by decide):QE X Ē (tC (.ty T)):=#[IF hg hm hv rfl hn hd]
theorem ie{i:Int}(hm:X.mg x=some (.int i tk))(hg:Gl X x:=by rfl)(hd:Æ=false:=by decide):QE X Ē (tC Ń):=#[ug hg hm #[_,rfl] hd]
theorem aF(ho:QOp X (binaryOp op) r)(ha:á)(hb:ą):QE X (.BinOp a op b pos) ù:=#[MD ŕ õ ģ]
theorem FR(ho:QUn X (unaryOp op) r)(ha:á):QE X (.UnaryOp op a pos) (tUn r ta):=#[ME ŕ õ]
theorem sK{op}(h:á):QE X (.BoolOp op [a] pos) ta:=#[K6 ņ]
theorem qe(ha:á)(hb:QE X ć tb):QE X Ă (G2 ta tb):=#[KU õ ģ]
theorem BC(ha:á):QE X ě (Ha ta):=#[K5 õ]
theorem lJ(ho:Ģ)(ha:á)(hb:ą)(hm:behindInMarks op b=false:=by first|exact Df _|with_unfolding_all rfl):QE X (.Compare a [op] [b] pos) ù:=#[IH ŕ õ ģ hm]
theorem yi(hc:QT X c tA)(ha:á)(hb:ą):QE X (.IfExp c a b pos) (tIf tA ta tb):=#[FA Ŗ õ ģ]
theorem bS(h:Ļ):QE X (.List es pos) (LL t):=#[K3 ņ]
theorem aB{x1}(h:Ļ):QE X (.Tuple es x1 pos) (LR t):=#[K8 ņ]
theorem am(hr:QIx X r)(ha:á)(hb:ą)(hs:zr b:=by intro _ _;rfl):QE X (.Subscript a b pos) ù:=#[MC hr.h õ ģ hs]
theorem cG{lo hi:Option Pq}(hr:QSl X r)(he:ä)(hl:QO X lo tl)(hu:QO X hi th):QE X (.Subscript e (.Slice lo hi none p2) pos) (tSl r te tl th):=#[FE hr.h he.h hl.h hu.h]
theorem cM:QO X none Aw:=#[IW]
theorem cg(h:ä):QO X (some e) (Hb te):=#[IX ņ]
theorem ai:QA X [] jE:=#[sG]
theorem q_a(ha:ä)(hr:Ļ)(hs:aX e=true:=by rfl):QA X à š:=#[pa õ hr.h hs]
theorem q_B{id:String}(hc:QCall X ø r)(hm:ô)(hv:ġ)(ha:ļ)(hg:Gl X x:=by rfl)(hs:(e::es).all aX=true:=by rfl)(hn:x≠"__name__":=by decide)(hdb:Æ=false:=by decide):
  QE X Å ė:=#[pB Ŗ hm hv õ hg hs hn hdb]
theorem oW(hc:QCall X Ţ r)(hm:ô)(hv:â)(ha:ļ)(hg:Gl X x:=by rfl)(hs:(e::es).all aX=true:=by rfl)(hn:x≠"__name__":=by decide)(hdb:Æ=false:=by decide):
  QE X Å ė:=#[pTy Ŗ hm hv õ hg hs hn hdb]
theorem aO{k:ë}(F:Ö)(hr:İ)(ha:ļ)(hg:Gl X x:=by rfl)(hs:(e::es).all aX=true:=by rfl)(hdb:Æ=false:=by decide):
  QE X Å Ĉ:=#[pfn F hr õ hg hs hdb]
theorem aE(ho:Ģ)(ha:á)(hb:ą)(hm:behindInMarks op b=false:=by first|exact Df _|with_unfolding_all rfl):QT X (.Compare a [op] [b] pos) (Hd ù):=#[Je ŕ õ ģ hm]
theorem He(ha:Ć):QT X ě (LN tA):=#[Lj õ]
theorem hM(h:ä)(he:∀whole,isTrue e Ç whole=(do let v ←whole;standAt e.pos;holding [v] (truthy v)):=by intro _;rfl):QT X e (tB te):=#[Lk ņ he]
theorem fz(ha:Ć):QW X (.BoolOp .And [a] pos) tA:=#[Jf õ]
theorem wI(ha:Ć):QW X (.BoolOp .Or [a] pos) tA:=#[Lm õ]
theorem fm(ha:Ć)(hb:QW X ć tB'):QW X Ă (LH tA tB'):=#[Ll õ ģ]
theorem BV(ha:Ć)(hb:QW X (.BoolOp .Or (b::rest) pos) tB'):QW X (.BoolOp .Or (a::b::rest) pos) (tOr tA tB'):=#[MH õ ģ]
theorem t_w(h:QW X e tA):QT X e tA:=#[h.h.pt]
#check 0
section
variable{X:Cx}{pos:Pos}
theorem aD{i:ë}(hN:Đ)(hi:ţ[i]?=some x:=by rfl)(hx:Loc ï x:=by first|exact Or.inl rfl|exact Or.inr rfl)(hf:X.fn x=true\/X.env.scope.names.lookup x=some .local:=by first|exact .inl rfl|exact .inr rfl):QG X (.Name x pos) (dA i):=#[IN hN hi hx hf]
theorem fe:QGs X [] oy:=#[IP]
theorem bE(h1:QG X e g)(h2:Ř)(hs:(assignEach à Ç).map (·.2)=assign e Ç::(assignEach es Ç).map (·.2):=by rfl):QGs X à (gU g gs):=#[FF h1.h h2.h hs]
theorem iZ{k n:ë}(hc:Ú)(h:Ř)(hn:(assignEach es Ç).length=n:=by rfl)(hst:(assignEach es Ç).findIdx? (·.1)=none:=by rfl):QG X (.Tuple es k pos) (oA Ō n gs):=#[Lb hc ņ hn hst]
theorem GD{o i:Pq}{t:xg}(ho:QE X o to)(hi:QE X i ti)(hs:QSet X t)(ha:∀ v,assign Ĥ Ç v=(do
   let ov ←holding [v] (eval o Ç)
   let iv ←holding [v,ov] (eval i Ç)
   standAt pos
   holding [v,ov,iv] (setItem ov iv v)
   release [v,ov,iv] []):=by intro _;rfl):QG X Ĥ (Kc to ti t):=#[La ŕ Ť hs.h ha]
theorem bJ(hl:QE X l te):QI X tg l (GG Ō te):=#[IR hl.h]
theorem xH(hm:X.mg "range" = none)(ha:QA X [a] ta)(hg:Gl X "range":=by rfl)(hs:aX a=true:=by rfl):QI X tg (.Call (.Name "range" p) [a] [] pos) (GH ta):=#[DC hg hm õ (bf hs)]
theorem iM:QIf X [] nV:=#[FH]
theorem oB{t:TT}(h:QT X c t):QIf X [c] t:=#[FI ņ]
theorem dH(O:Ä)(hc:Ú)(hi:ĉ)(hg:ĕ)(gk:ğ)(ht:Č)(he:ď)(hs:∀x,foldedSetIterable iter Ç x=pure x:=by intro _;rfl):QE X Ã Û :=
 #[II O hc Ť ü gk ý þ hs]
variable{st:Ĝ}{t:TS}
theorem b_0:QB X [] jL:=#[Jc]
theorem b_1(h:QS X st t):QB X [st] t:=#[Jd ņ]
theorem b_c(h1:QS X st t)(h2:QB X rest u):QB X (st::rest) (BO t u):=#[FN h1.h h2.h]
theorem aG(h:ä):QS X (.Return (some e) pos) (LO te):=#[Lh ņ]
theorem bh(h:ä)(hs:swapsWith e none Ľ Ç=pure false:=by rfl):QS X (.Expr e pos) (G5 te):=#[Ja ņ hs]
theorem aZ(hc:QT X c tc)(ht:ĩ)(hu:QB X els u):QS X (.If c body els pos) (LK tc t u):=#[MG Ŗ ht.h hu.h]
theorem aC{i:ë}(hN:Đ)(he:ä)(hi:ţ[i]?=some x:=by rfl)(hx:Loc ï x:=by first|exact Or.inl rfl|exact Or.inr rfl)(hs:swapsWith e (some (.Name x pos')) Ľ Ç=pure false:=by rfl)(hf:X.fn x=true\/X.env.scope.names.lookup x=some .local:=by first|exact .inl rfl|exact .inr rfl):QS X (.Assign [.Name x pos'] e pos) (uJ te ś):=#[Li hN hi hx he.h hs hf]
theorem pA{j:ë}{py spos:Pos}(hN0:Đ)(O:Ä)(hc:Ú)(hi:ĉ)(hg:ĕ)(gk:ğ)(ht:Č)(he:ď)(hj:ţ[j]?=some y:=by rfl)(hy:Loc ï y:=by first|exact Or.inl rfl|exact Or.inr rfl)(hsw:swapsWith (.ListComp elt [#[tg,iter,ifs,0]] scope pos) ş ř Ç=pure true:=by rfl)(hs:∀x,foldedSetIterable iter Ç x=pure x:=by intro _;rfl)(hf:X.fn y=true\/X.env.scope.names.lookup y=some .local:=by first|exact .inl rfl|exact .inr rfl):
  QS X ă Ŀ :=
 #[Jb hN0 hj hy O hc Ť ü gk ý þ hsw hs hf]
theorem BF(he:ä)(hg:QG X tg g)(hs:swapsWithSole [tg] e Ľ Ç=pure false:=by rfl)(hw:swappedStores [tg] e Ç=pure none:=by rfl)(h1:(assignEach [tg] Ç).map (·.2)=[assign tg Ç]:=by rfl):QS X (.Assign [tg] e pos) (uJ te g):=#[Le he.h hg.h hs hw h1]
theorem eG(hp:Ė)(hc:Ú)(hi:ĉ)(hg:QG X tg g)(hb:ĩ)(hs:∀x,foldedSetIterable iter Ç x=pure x:=by intro _;rfl):QS X (.For tg iter body [] pos) (LJ wi g t):=#[Lg hp hc Ť hg.h ģ hs]
theorem uD(hp:Ė)(hc:QT X c tc)(hb:ĩ):QS X (.While c body [] pos) (Ee tc t):=#[FM hp Ŗ ģ]
#check 0
theorem Fun.okQ{K:Qa}{st:Ĝ}{k:ë}{sp:Sp}(F:ñ)(S:Ł)(len:ì)(hbody:∀ (cdv:Pi) (A:Pl) (outer:List Env) (s:Ph) (H:Hp) (vs:Ņ) (Q:VK) (E:XK),Room k î->sp vs H Q E ->
   ∃ t,QB (hZ CX0 P w K mg base N qual ĝ f cdv A outer s H E).nox ŏ t/\t { nx:=λ_ H'=>Q .non H',rt:=Q } Ň H):↑FnOk CX0 (k+1) f fd ps sp :=
 F.ok S len λcdv A outer s H vs Q E hr hsp=>let⟨t,h,q⟩:=hbody cdv A outer s H vs Q E hr hsp;#[t,ņ,q]
section
variable{X:Cx}
theorem fN:QOp X Ĺ (rI0 λi j=>.int (i+j)):=#[KI]
theorem wq:QOp X (binaryOp .Sub) (rI0 λi j=>.int (i-j)):=#[KQ]
theorem nG:QOp X (binaryOp .Mult) (rI CMul λi j=>.int (i*j)):=#[KN]
theorem fu:QOp X (binaryOp .FloorDiv) (rI JM λi j=>.int (i / j)):=#[Iz]
theorem dB:QOp X (binaryOp .Mod) (rI (λ_ j=>0<j) λi j=>.int (i%j)):=#[KM]
theorem qd:QOp X Ĺ rCat:=#[KJ]
theorem bW:QOp X (compareOp .Eq) rEq:=#[Ms]
theorem Nx:QOp X Ĭ rNe:=#[Mx]
theorem Fj:QOp X (compareOp .Lt) (rI0 λi j=>.bl (decide (i<j))):=#[Mw]
theorem Nw:QOp X (compareOp .LtE) (rI0 λi j=>.bl (decide (i<=j))):=#[Mv]
theorem Fi:QOp X (compareOp .Gt) (rI0 λi j=>.bl (decide (j<i))):=#[Mu]
theorem Nv:QOp X (compareOp .GtE) (rI0 λi j=>.bl (decide (j<=i))):=#[Mt]
theorem Mo:QOp X (compareOp .Is) (λx y H Q=>y=.non/\Q (.bl (decide (x=.non))) H):=#[KL]
theorem kn:QOp X (compareOp .IsNot) (λx y H Q=>y=.non/\Q (.bl (!decide (x=.non))) H):=#[IA]
theorem BT:QUn X (unaryOp .USub) (rU λi=>.int (-i)):=#[LU]
theorem dq:QIx X (rIxL Ō):=#[Ia]
theorem ao:QIx X (rIxT Ō):=#[Km]
theorem CY:QSl X (rSlL Ō):=#[Jq]
theorem G0:QSet X GU:=#[Gb]
theorem jG:QCall X (.builtin "len") (λxs H Q=>∃p ys,xs=[.ref p]/\ÿ/\Q (.int ı) H):=#[xm]
theorem L6:QCall X í Ð:=#[EF]
theorem Gz(hc:Ú):QCall X Ĳ (λxs H Q=>∃i j,xs=[.int i,.int j]/\Q (.int (if j>i then j else i)) H):=#[Ci hc]
theorem L7:QCall X ĸ (λxs H Q=>∃p ys,xs=[.ref p]/\((SqL Ō H p ys/\∀l,H l=none->Q (.ref l) (upd H l (.tup ys)))\/(SqT Ō H p ys/\Q (.ref p) H))):=#[vI]
theorem xj:QCall X ŀ (λxs H Q=>∃p ys,xs=[.ref p]/\ÿ/\∀l,H l=none->Q (.ref l) (upd H l ĵ)):=#[xn]
#check 0
end
mutual
def Dt(H:Hp):Qb->V->Prop
 |.none,v=>v=.non
 |.bool b,v=>v=.bl b
 |.int i,v=>v=.int i
 |.str x,v=>v=.str x
 |.list ds,v=>∃a xs,v=.ref a/\Rd H a (.lst xs)/\DtAll H ds xs
 |.tuple ds,v=>∃a xs,v=.ref a/\Rd H a (.tup xs)/\DtAll H ds xs
 |.dict _,_=>False
def DtAll(H:Hp):List Qb->List V->Prop
 | [],xs=>xs=[]
 |d::ds,xs=>∃y ys,xs=y::ys/\Dt H d y/\DtAll H ds ys
end
section
mutual
theorem Dt.reads(ok:HOk P w H h):∀(d:Qb) (x:V) (v:Pi),Dt H d x->RelV x v->∃as,Reads h v d as
 |.none,x,v,e,r=>by
  have e':x=.non:=by simpa only[Dt]using e
  subst e';cases r;exact#[_,.none]
 |.bool b,x,v,e,r=>by
  have e':x=.bl b:=by simpa only[Dt]using e
  subst e';cases r;exact#[_,.bool b]
 |.int i,x,v,e,r=>by
  have e':x=.int i:=by simpa only[Dt]using e
  subst e';exists[t,rfl],r;exact#[_,.int i t]
 |.str z,x,v,e,r=>by
  have e':x=.str z:=by simpa only[Dt]using e
  subst e';exists[t,rfl],r;exact#[_,.str z t]
 |.list ds,x,v,e,r=>by
  have e':∃a xs,x=.ref a/\Rd H a (.lst xs)/\DtAll H ds xs:=by simpa only[Dt]using e
  exists[a,xs,rfl,hr,hd],e';cases r;exists[_,its,n,rv,eo],hr.ok ok;exists[as,q],DtAll.reads ok ds xs its hd rv;exact#[_,.list eo rfl rfl (by simpa using q)]
 |.tuple ds,x,v,e,r=>by
  have e':∃a xs,x=.ref a/\Rd H a (.tup xs)/\DtAll H ds xs:=by simpa only[Dt]using e
  exists[a,xs,rfl,hr,hd],e';cases r;exists[_,its,rv,o,eo,hc,n,hs],hr.ok ok;exists[as,q],DtAll.reads ok ds xs its hd rv;exact#[_,.tuple eo hc hs (by simpa using q)]
 |.dict kvs,x,v,e,r=>by
  have e':False:=by simpa only[Dt]using e
  exact e'.elim
theorem DtAll.reads(ok:HOk P w H h):∀(ds:List Qb) (xs:List V) (vs:Pf),DtAll H ds xs->Vals xs vs->∃as,ReadsAll h vs ds as
 | [],xs,vs,e,r=>by
  have e':xs=[]:=by simpa only[DtAll]using e
  subst e';cases r;exact#[_,.nil]
 |d::ds,xs,vs,e,r=>by
  have e':∃y ys,xs=y::ys/\Dt H d y/\DtAll H ds ys:=by simpa only[DtAll]using e
  exists[y,ys,rfl,h1,h2],e';cases r with
  |cons r1 r2 =>exists[as,q1],Dt.reads ok d y _ h1 r1;exists[bs,q2],DtAll.reads ok ds ys _ h2 r2;exact#[_,.cons q1 q2]
end
mutual
#check#[(∀b o,b∉ch->s.heap.get? b=some o->h'.get? b=some o),s.heap.objs.size,(ZZ F.slot_tuple_iterator_next ty F.entry_tuple_iterator_next ?_ (F.args_tuple_iterator_next_1 _)),(Value.ref t==Value.none),q5.objs.size,(by simp),(d1.frame _ _ _ h1 λc hc o e=>b1.extBut c o (fT hc ap.zf) e),(∀b∈ch,cE X Pr H b),(Builtin.SmallTypes.ownedTupleIsFree (.ref z) >>= _),s.heap,(X.A.units+64<cLine),(z9 (wpAny_onRaise ?_)),(Builtin.SmallTypes.nextOf (.ref i) >>= _),(Builtin.«zip.__next__» #[[.ref z],[]]),(ns.map V.int),(Inv X Pr Z H s),xs.length,(IsPair É u (.ref i) (.ref j)),k.toNat,(if Ã=true then _ else _),(seqItems? (.ref t) >>= _),(field (.ref it) 0 >>= _),(field (.ref it) 1 >>= _),0,(Yf hz Å λq1 z1 b1=>?_),(Draws prog w A i f n P1 S1),(Draws prog w A j g m P2 S2),(.ref z),ns.length,(ZS ?_ (by size_fits)),(z9 (YY hu rfl ?_)),(SeqAt.shaped dx=true),(SeqAt.shaped dy=true),(IsZip É z u v .none),(compareOp .NotEq),(field Û 2 >>= _),(field Û 3 >>= _),X.env,(List Pg),(ZAp z u v i j f g),(compareOp .Eq),(binaryOp .Add),((Ò:Nat):Int),(YY ep edp ?_),(model prog w),(IsPair É v a b),(fT hc ap.vg),(fT hc ap.zg),(fT hc ap.vf),(Same.refl H),xs.size,h.toNat,(Zb ?_),(rawInt Ä),ap.vz.symm,0,ap.iz.symm,(k+1),ys.length,(.ref Ä),(.tup xs)]
#check 0
theorem zE:∀(ns:Pn),DtAll H (ns.map PyData.int) Î
 | []=>by simp only[List.map_nil,DtAll]
 |n::ns=>by simp only[Zn,DtAll];exact#[_,_,rfl,by simp only[Dt],zE ns]
section
variable{X:Cx}
inductive rEqD  (x:V)(y:V)(H:Hp)(Q:VK):Prop
 |mk (dx dy:_) (h0:Dt H dx x) (h1:Dt H dy y) (h2:ß) (h3:à) (h4:Q (.bl (PyData.eqv dx dy)) H):rEqD  x y H Q
inductive rNeD  (x:V)(y:V)(H:Hp)(Q:VK):Prop
 |mk (dx dy:_) (h0:Dt H dx x) (h1:Dt H dy y) (h2:ß) (h3:à) (h4:Q (.bl (!PyData.eqv dx dy)) H):rNeD  x y H Q
theorem Du(hu:Ê):OpR X è rEqD:=by intro Pr s Z H x y v u Q I rx ry h;exists[dx,dy,h1,h2,s1,s2,q],h;exists[as,r1],Dt.reads I.hok dx x v h1 rx;exists[bs,r2],Dt.reads I.hok dy y u h2 ry;exact eq_dataH r1 r2 s1 s2 hu #[.bl _,H,I,rfl,q]
theorem Dw(hu:Ê):OpR X â rNeD:=by intro Pr s Z H x y v u Q I rx ry h;exists[dx,dy,h1,h2,s1,s2,q],h;exists[as,r1],Dt.reads I.hok dx x v h1 rx;exists[bs,r2],Dt.reads I.hok dy y u h2 ry;exact ne_dataH r1 r2 s1 s2 hu #[.bl _,H,I,rfl,q]
theorem nF(hu:Ê):QOp X è rEqD:=#[Du hu]
theorem GO(hu:Ê):QOp X â rNeD:=#[Dw hu]
#check 0
section
variable{apos cpos:Pos}
theorem eT(ho:QE X o to)(he:QE X e te)(hs:aX e=true:=by rfl)(hbase:attributeBase o "append" X.env (eval o å)=eval o å:=by rfl)(hline:(apos.endLine==cpos.line)=true:=by rfl) :
  QE X (.Call (.Attribute o "append" apos) [e] [] cpos) (tBM X.K "list" rAppend to (jK te jE)):=by
 have h1:=bf (es:=[]) (env:=å) hs;have h2:starEach ([]:List Pq) å=[]:=rfl;refine#[Bz PySem.F.plainAttrs_list PySem.F.slot_list_append PySem.F.type_list_append C9 ho.h (pa he.h sG hs) hbase ?_ hline h1 (by rw[h2];rfl)];rw[h1,h2];rfl
#check 0
theorem E4{i j:Int}{A B:Prop}(h1:i=j->A)(h2:i≠j->B):if decide (V.int i=V.int j)=true then A else B:=by
 by_cases h:i=j
 .rw[Pb (decide_eq_true (by rw[h]))];exact h1 h
 .rw[Pa (by rw[decide_eq_false (λz=>h (by injection z))];exact Zt)];exact h2 h
theorem cC(e:Same H H')(h:H p=none):Same H (upd H' p o):=λb u q=>by rw[af (aj q h)];exact e _ _ q
def au(ns:Pn)(k:Nat):Int:=(ns[k]?).getD 0
theorem iK{ns:Pn}{k:Int}(h0:0<=k)(h1:k<Ü):atI Î k=some (.int (au ns Ò)):=by
 have hk:Ò<Ü:=∅
 have ek:k=ê:=∅
 have q:atI Î ê=some (.int ns[Ò]):=ge (by rw[Zx,Zf hk]<;>rfl);rw[<-ek]at q;rw[q];unfold au;rw[Zf hk];rfl
theorem EG{ns:Pn}{k:Int}(h0:0<=k)(h1:¬k<Ü):au ns Ò=0:=by unfold au;rw[List.getElem?_eq_none ∅];rfl
section
variable{A:Pl}
theorem yT(calm:A.handled=none)(it t:Pg)(apart:t≠it)(xs:Array Pi) :
  Draws prog w A it [it,t] ò (λi v=>xs[i]?=some v) (λi h=>h.IsTupleIter it t i/\h.IsTuple t xs) where
 live:=λ_ _ q=>let⟨o,eo,_⟩:=q.1;#[o,eo]
 frame:=λ_ _ _ q kp=>#[let⟨o,eo,r⟩:=q.1;#[o,kp it Å o eo,r],let⟨o,eo,r⟩:=q.2;#[o,kp t Å o eo,r]]
 item:=λi s Q E lt q cont=>by
  have ei:xs[i]?=some xs[i]:=by simp[lt]
  exists[o,eo,ec,ed],id q.1;exists[p,ep,_,np,edp],id q.2;have ty:=q.1.typeIs;unfold Builtin.SmallTypes.nextOf;refine z9 (Z4 (name:=Str.ofString "__next__") ty F.slot_tuple_iterator_next Â);show wpAny _ _ Õ _ _ s;refine z9 (ZY eo ed (x:=.ref t) rfl ?_);show wpAny _ _ Ó _ _ s;rw[Pa (show¬(Ã=true)from Zt)];show wpAny _ _ Ö _ _ s;refine z9 (ZY eo ed (x:=.int i 0) rfl ?_);show wpAny _ _ Ô _ _ s;refine z9 ë;simp only[YS,ei];have sb:=Z1 É it (λob=>ob.mapFields λfs=>fs.setIfInBounds 1 (rawInt (i+1)));refine z9 (YN eo ed Å (Zb #[xs[i],rfl,Zb (cont _ _ s.toks ei #[?_,?_] (Z1 ..))]))
  .exact#[_,Yc _ eo (Obj.isFreed_of_fields (Yo ed _)),(Obj.cls_mapFields ..).trans ec,by rw[Yo ed];simp[rawInt]]
  .exact q.2.extBut (Z1 ..).extBut apart
 done:=λs Q E q cont=>by
  have ei:xs[ò]?=none:=by simp
  exists[o,eo,ec,ed],id q.1;exists[p,ep,_,np,edp],id q.2;have ty:=q.1.typeIs;unfold Builtin.SmallTypes.nextOf;refine z9 (Z4 (name:=Str.ofString "__next__") ty F.slot_tuple_iterator_next Â);show wpAny _ _ Õ _ _ s;refine z9 (ZY eo ed (x:=.ref t) rfl ?_);show wpAny _ _ Ó _ _ s;rw[Pa (show¬(Ã=true)from Zt)];show wpAny _ _ Ö _ _ s;refine z9 (ZY eo ed (x:=.int ò 0) rfl ?_);show wpAny _ _ Ô _ _ s;refine z9 ë;simp only[YS,ei];refine z9 (YF (z9 (YN eo ed Å ?_)));show wpAny _ _ (newExc (.type "StopIteration") [] >>= _) _ _ _;refine z9 ?_;simp only[newExc,newTuple];refine z9 Ý;refine z9 (m:=firstArgMember _ _) (wpAny_of_eq (a:=Value.none) (by first|rfl|(simp only[firstArgMember];rfl)) Ý);simp only[raiseNew];refine z9 (wpAny_handled ?_)
  first|rw[show A.in1.handled=none from calm]|rw[calm]
  exact z9 (Zb (wpAny_throw (cont _ _ (((Z1 ..).extBut.push _).push _) #[_,Zm _ rfl,rfl])))
#check 0
structure ZAp(z u v i j:Pg)(f g:æ):Prop where
 uz:u≠z
 vz:v≠z
 uv:u≠v
 ui:u≠i
 uj:u≠j
 vi:v≠i
 vj:v≠j
 iz:i≠z
 jz:j≠z
 ij:i≠j
 zf:z∉f
 zg:z∉g
 vf:v∉f
 vg:v∉g
 jf:j∉f
 ig:i∉g
section
variable{E:Pd}{s:Ph}{z v i j:Pg}{f:æ}{n m k:Nat}
def AL(z v i j:Pg)(h h':Heap):Prop:=∀c o,c≠z->c≠v->c≠i->c≠j->h.get? c=some o->h'.get? c=some o
theorem fT{f:æ}(hc:c∈f)(hd:d∉f):c≠d:=λe=>hd (e▸hc)
theorem Gu(d1:Ù)(d2:Ú)(ap:ç)(hz:á)(hu:Ñ)(hv:í)(h1:S1 k É)(h2:S2 k É)(l1:k<n)(l2:k<m){Q:Pd}(cont:∀h' tk x y,P1 k x->P2 k y->IsZip h' z u v (rawInt Á)->IsPair h' v x y->S1 ù h'->S2 ù h'->IsPair h' Á x y->AL z v i j É h'->Q (.ref Á) { s with heap:=h',toks:=tk }) :
  wpAny ì A Í (λfin s'=>∃r,fin=.done (.ret r)/\Q r s') E s:=by
 show wpAny _ _ ã _ _ _;refine z9 (ZY hz rfl (x:=.bool false) rfl ?_);show wpAny _ _ ä _ _ _;refine z9 (ZY hz rfl (x:=.ref u) rfl Þ);show wpAny _ _ È _ _ _;refine z9 ?_;unfold Builtin.SmallTypes.ownedTupleIsFree;refine z9 (ZY hz rfl (x:=.none) rfl ô);simp only[if_true];refine z9 (YF (z9 (ZY hz rfl (x:=.ref v) rfl ?_)));refine z9 Ø
 replace z1:IsZip q1 z u v .ellipsis:=z1
 refine z9 ?_;simp only[List.zipIdx_cons,List.zipIdx_nil,List.forIn_cons,List.forIn_nil];refine z9 Ë;show wpAny _ _ Ì _ _ _;refine z9 (d1.item k { s with heap:=q1 } _ _ l1 Æ λx q2 t2 px s2 b2=>Zb ?_);have v2:IsPair q2 v a b:=b2.extBut _ _ ap.vi (b1.extBut _ _ ap.vz hv);refine z9 (YY v2 rfl (z9 (wpAny_updateSeq_pair v2 λq3 w3 b3=>?_)))
 replace w3:IsPair q3 v x b:=w3
 refine z9 (wpAny_letGo ô);refine z9 Ë;show wpAny _ _ (Builtin.SmallTypes.nextOf (.ref j) >>= _) _ _ _;refine z9 (d2.item k { s with heap:=q3,toks:=t2 } _ _ l2 (d2.frame _ _ _ h2 λc hc o e=>b3.extBut c o î (b2.extBut c o (fT hc ap.ig) (b1.extBut c o ï e))) λy q4 t4 py s4 b4=>Zb ?_);have v4:IsPair q4 v x b:=b4.extBut _ _ ap.vj w3;refine z9 (YY v4 rfl (z9 (wpAny_updateSeq_pair v4 λq5 w5 b5=>?_)))
 replace w5:IsPair q5 v x y:=w5
 refine z9 (wpAny_letGo (Zb (Zb (z9 (YY w5 rfl (z9 (wpAny_newTuple ?_)))))));have sz:Ä=Á:=by rw[b5.1,b4.1,b3.1,b2.1,b1.1]
 have z5:IsZip q5 z u v .ellipsis:=b5.extBut _ _ ö (b4.extBut _ _ ap.jz.symm (b3.extBut _ _ ö (b2.extBut _ _ ø z1)));have k5:AL z v i j É q5:=λc o c1 c2 c3 c4 e=>b5.extBut _ _ c2 (b4.extBut _ _ c4 (b3.extBut _ _ c2 (b2.extBut _ _ c3 (b1.extBut _ _ c1 e))));have s5:S1 ù q5:=d1.frame _ _ _ s2 λc hc o e=>b5.extBut c o ð (b4.extBut c o (fT hc ap.jf) (b3.extBut c o ð e));have r5:S2 ù q5:=d2.frame _ _ _ s4 λc hc o e=>b5.extBut c o î e;have zlt:z<Ä:=Zs z5;show wpAny _ _ (Builtin.SmallTypes.ownedTupleHandOut Û û >>= _) _ _ _;refine z9 ?_;unfold Builtin.SmallTypes.ownedTupleHandOut;refine z9 (Yf (show IsZip (q5.push { cls:=.type "tuple",data:=.seq (List.toArray [x,y]) }) z u v .ellipsis from Za _ z5) Å λq7 z7 b7=>?_)
 replace z7:IsZip q7 z u v õ:=z7
 refine Yf z7 Å λq8 z8 b8=>?_
 replace z8:IsZip q8 z u v õ:=z8
 have up:∀c o,c≠z->q5.get? c=some o->q8.get? c=some o:=λc o c1 e=>b8.extBut _ _ c1 (b7.extBut _ _ c1 (Za _ e));have p8:IsPair q8 Ä x y:=b8.extBut _ _ (Yb zlt) (b7.extBut _ _ (Yb zlt) (Zm _ rfl));rw[sz]at z8 p8;refine Zb #[_,rfl,?_];show Q û _;rw[sz];exact cont q8 _ x y px py z8 (up _ _ ap.vz w5) (d1.frame _ _ _ s5 λc hc o e=>up c o (fT hc ap.zf) e) (d2.frame _ _ _ r5 λc hc o e=>up c o ï e) p8 λc o c1 c2 c3 c4 e=>up c o c1 (k5 c o c1 c2 c3 c4 e)
theorem JG(d1:Ù)(d2:Ú)(ap:ç)(hz:á)(hu:Ñ)(hv:í)(h1:S1 n É)(cont:∀h' e,AL z v i j É h'->(∃o,h'.get? e=some o/\o.cls=.type "StopIteration")->E (.ref e) { s with heap:=h' }):wpAny ì A Í Q E s:=by
 show wpAny _ _ ã _ _ _;refine z9 (ZY hz rfl (x:=.bool false) rfl ?_);show wpAny _ _ ä _ _ _;refine z9 (ZY hz rfl (x:=.ref u) rfl Þ);show wpAny _ _ È _ _ _;refine z9 ?_;unfold Builtin.SmallTypes.ownedTupleIsFree;refine z9 (ZY hz rfl (x:=.none) rfl ô);simp only[if_true];refine z9 (YF (z9 (ZY hz rfl (x:=.ref v) rfl ?_)));refine z9 Ø
 replace z1:IsZip q1 z u v .ellipsis:=z1
 refine z9 ?_;simp only[List.zipIdx_cons,List.zipIdx_nil,List.forIn_cons,List.forIn_nil];refine z9 Ë;show wpAny _ _ Ì _ _ _;refine z9 (d1.done { s with heap:=q1 } _ _ Æ λq2 e b2 he=>?_);exists[oe,hoe,hce],he;have z2:IsZip q2 z u v .ellipsis:=b2 _ _ ø z1;have ez:e≠z:=λx=>by subst x;rw[z2]at hoe;cases hoe;simp at hce
 exact Yf z2 Å λq3 _ b3=>cont q3 e (λc o c1 _ c3 _ x=>b3.extBut _ _ c1 (b2 _ _ c3 (b1.extBut _ _ c1 x))) #[oe,b3.extBut _ _ ez hoe,hce]
#check 0
section
variable{X:Cx}{Pr:Pc}{Z:St}{H:Hp}{s:Ph}{h':Heap}{ch:æ}{t':Nat}
theorem Inv.turnH{H':Hp}(I:Ï)(hch:Ç)(kp:À)(up:∀b u,H b=some u->H' b=some u)(dn:∀b o,s.heap.get? b=some o->H b=none->H' b=none)(hok:HOk X.prog X.w H' h') :
  Inv X Pr Z H' { s with heap:=h',toks:=t' }:=by
 refine I.step (g':=s.gens) (d':=s.drawn) (ch:=ch) (λb hb=>?_) (λb o _ _ hc e _=>kp b o hc e) (λb o _ _ hc e _=>#[o.slots,kp b o hc e]) (λb o _ e n=>dn b o e n) (λb o hc e=>#[o,kp b o hc e]) (λb xs e=>up _ _ e) (λb o u e=>up _ _ e) (λb ps e=>#[#[],by rw[up _ _ e];simp]) (λm hm=>?_) hok I.bare
 .exists[f0,f1,f2,f3,f4,f5],hch b hb;exact#[f3,f1,f4,f5]
 .exists[o,es,ep,ho,r],hm;exact#[o,es,ep,kp _ o (λz=>(hch _ z).2.1 rfl) ho,r]
theorem xG(I:Ï)(hch:Ç)(kp:À):HOk X.prog X.w H h':=λb u e=>by
 have nin:∀{c:Pg} {q:HO},H c=some q->c∉ch:=fun{c q} e z=>by rw[(hch c z).1]at e;cases e
 refine(I.hok b u e).stay (λc v hc q=>kp c v ?_ q) (λ_ q=>q) λ_ _ q=>q;rcases hc with z|z
 .rw[z];exact nin e
 .exact nin z
theorem Inv.turnM(I:Ï)(hch:Ç)(kp:À):Inv X Pr Z H { s with heap:=h',toks:=t' } :=
 I.turnH hch kp (λ_ _ e=>e) (λ_ _ _ n=>n) (xG I hch kp)
theorem Inv.turnT{its:Pf}(I:Ï)(hch:Ç)(kp:À)(hp:IsTup h' Á its.toArray)(rv:Vals xs its)(hz:Ð<=sizeLine):
  Inv X Pr Z (upd H Á ü) { s with heap:=h',toks:=t' }:=by
 have fr:=I.hok.fresh (Ze Á);have ne:∀{b:Pg} {u:HO},H b=some u->b≠Á:=fun{b u} e=>aj e fr;have hk:=xG I hch kp;refine I.turnH hch kp (λb u e=>by rw[af (ne e)];exact e) (λb o e n=>by rw[af (Zy (Zs e))];exact n) λb u e=>?_;by_cases hb:b=Á
 .subst hb;rw[ac]at e;cases e;exact#[hz,its,rv,hp]
 .rw[af hb]at e;exact(hk b u e).stay (λ_ _ _ q=>q) (λc q=>by rw[af (ne q)];exact q) λc ys q=>by rw[af (ne q)];exact q
#check 0
def Itz(K:Qa)(a b:Pg)(xs ys:List V):It :=
 #[λi H=>i<Ð/\SqT K H a xs/\SqT K H b ys,λi H x H'=>∃T p q,H T=none/\xs[i]?=some p/\ys[i]?=some q/\x=.ref T/\H'=upd H T (.tup [p,q]),λi H=>i=Ð/\SqT K H a xs/\SqT K H b ys]
theorem Kz(n:Nat):[n+4,n+2,n+3,n,n+1].Nodup:=by simp
def Ni(K:Qa)(ta:TA):TI:=λZ H R=>ta Z H λvs H1=>∃a b xs ys,vs=[.ref a,.ref b]/\SqT K H1 a xs/\SqT K H1 b ys/\Ð=ú/\R (Itz K a b xs ys) H1
inductive rCatS  (x:V)(y:V)(H:Hp)(Q:VK):Prop
 |mk (a b xs ys:_) (h0:x=.ref a) (h1:y=.ref b) (h2:H a=some ü) (h3:H b=some (.tup ys)) (h4:Ð+ú<=sizeLine) (h5:∀p H',Same H H'->H' p=some (.tup (xs++ys))->Q (.ref p) H'):rCatS  x y H Q
section
variable{X:Cx}
theorem Ix:OpR X é rCatS:=by
 intro Pr s Z H x y v u Q I rx ry h;exists[a,b,xs,ys,rfl,rfl,ha,hb,hz,q],h;by_cases hx:xs=[]
 .cases rx;cases ry;exists[its,r1,p1,_],I.tuple (Pt (K:=X.K) ha);exists[its2,r2,p2,_],I.tuple (Pt (K:=X.K) hb);obtain⟨⟨cls,dd,data,sl⟩,ho,hc,n,hd⟩:=id p1;obtain⟨⟨cls2,dd2,data2,sl2⟩,ho2,hc2,n2,hd2⟩:=id p2;simp only at hc hd hc2 hd2;subst hc hd hc2 hd2;have e:its=[]:=r1.nil_iff.mpr hx;subst e;refine PySem.concat_meets #[_,ho,rfl] #[_,ho2,rfl] noFill_tuple_add seq_tuple_add PySem.F.slot_tuple_add PySem.F.entry_tuple_add (PySem.F.args_tuple_add_2 _ _)
   (tuple_addW0 a b _ its2.toArray n n2 dd dd2 sl sl2 Å) #[ho,ho2,#[.ref b,H,I,rfl,q b H ñ ?_]]
  rw[hx];exact hb
 .exact Iy Pr s Z H _ _ v u Q I rx ry #[a,b,xs,ys,rfl,rfl,Pt ha,Pt hb,hx,hz,λe=>q a H ñ (by rw[e,ZD];exact ha),λ_ p hp=>q p _ (ad hp _) ac]
theorem cO:QOp X é rCatS:=#[Ix]
theorem E2{ns:Pn}{i:Nat}(h:Î[i]?=some x):x=.int (au ns i)/\i<Ü:=by
 rw[Zx]at h;unfold au;cases e:ns[i]? with
 |none=>rw[e]at h;cases h
 |some z =>rw[e]at h;cases h;exact#[rfl,(Zz.mp e).1]
theorem D2{n d:Nat}{h:Int}(h0:0<=h):HT.sIx n d (some h)=min ó n:=by have e:=HT.sIx_nat n d ó;rw[show((ó:Nat):Int)=h by omega]at e;exact e
variable{K:Qa}(hK:X.K=K)
include hK
theorem jU:QIx X (rIxL K):=by subst hK;exact dq
theorem iJ:QIx X (rIxT K):=by subst hK;exact ao
theorem gG{k n:Nat}(hc:X.calm=true)(h:QGs X es gs)(hn:(assignEach es å).length=n:=by rfl)(hst:(assignEach es å).findIdx? (·.1)=none:=by rfl):QG X (.Tuple es k pos) (oA K n gs):=by subst hK;exact iZ hc h hn hst
omit hK
#check 0
end
open PySem PySem.Spec PyProof.Rows PySem.W
mutual
#check#[xs.length,X.env.locals,(gA p (n-1)),s1.heap.objs.size,(Obj.mapFields (·.setIfInBounds 1 (Value.ref h1.objs.size))),(λr=>r.1<=N/\1<=r.1/\Fx N r.2 r.1/\LS lt r.2 r.1),(X.A.units+64<cLine),(gA p i),(λb hb=>#[(hch b hb).2.2.2.1,(hch b hb).2.1,(hch b hb).2.2.2.2.1,(hch b hb).2.2.2.2.2]),(Inv X Pr Z H s),(.type "BaseException"),(Nat),(gA p n),(YH (thn (ha pos Pr s Z H _ I h) λus s1 hz9=>?_) (bf n1) (cj (by simp))),items.size,(nrec b o q hn),(kas_rev p (n-(q+1)) n),(∀b u,b≠Á->b∉ch->s.heap.get? b=some u->h'.get? b=some u),(∃m,s.heap.Ns Á m/\h'.Ns Á m),s.heap.objs.size,(if pl.isEmpty then List.replicate 6 Value.none else pl),(Ze _),(∀ws,o.data≠.fields ws),0,(∀σ' H',N σ' H'->∃m',m'<m/\W (k+1) m' σ' H'),(env::outer),((∃u,H' b=some u)\/∃o0,s0.heap.get? b=some o0),(model X.prog X.w),(gA p k),(Obj.mapFields (·.setIfInBounds 3 Value.none)),(λb o hL _ hc e _=>#[o.slots,k b o hL hc e]),its.toArray.size,X.stack,p.size,(λb ps e=>#[#[],by rw[af (ne e),e];simp]),X.env,(.tuple (ns.map .int)),(.Call (.Name "enumerate" p) [e1] [] pos),(List.toArray [.none,.none,.int (-1) t]),(.Call (.Name "reversed" p) [e1] [] pos),(.tup (ns.map V.int)),(q+1),(λb o u e=>by rw[af (ne e)];exact e),((es.all λe=>isExactStrKey e.key)=true),(λb xs e=>by rw[af (ne e)];exact e),(gA p j),(POk n p),(.Tuple elts kt tp),(by simp),s.heap,s.toks,(λb o hL _ hc e _=>k b o hL hc e),(ObjOk X.prog X.w (upd H a o) h' a o),(gA p ((l+r) / 2)),((À-1-i:Nat):Int),0,(λc q=>by rw[af (ne q)];exact q),(Fl X H0 H' s0 s' B),(.Slice none none (some st) p2),(Heap),((Value.ref T != Value.none)=true),ht.typeIs,(.ref t),scope.names,(λr=>POk n r.2),(List.toArray (List.range N)),(Inv X Pr Z H0 s0),(QE X o td),(QE X i ty),(k+1),(λi j h1 h2=>absurd h1 ∅),(kas_rev p i j),(λc v hc q=>k c v ?_ ?_ q),xs.reverse,(Bool->Ph->Prop),(gU (dA i) (gU (dA j) oy)),(.Compare i [.In] [o] pos),(model prog w),(λm' hm'=>?_),(Option Int),(.ref a),(Unit->Ph->Prop),(.ref e),(∀Z H,Pv À Z H->D.nx Z H),(α->Prop),(lt i j),(gA p 0),(λb u e=>?_),(hf.succ ∅),((z▸q).symm.trans nT),h1.objs.size,(ne e hx),(x==("__debug__":Str)),(λp=>á=N/\LS lt p N),(Option Pg),(AS lt p n),(X.mg "enumerate" = none),(I.ok.hd hc),(λm hm=>?_),(Zi.mpr rfl),(.tup (ms.map V.int)),(kas_place p k f l r),(List V),(ExcAt K C bm),(X.mg "reversed" = none),h1.eq_nsMap,z.length,(n+1),(s.heap.get? e=some oe),(∀b∈ch,cE X Pr H b),(.str x tx),(List Str),(s.heap.get? d=some o),X.ex,(λy v=>v.isStr y),(λi j hij hj=>?_),(Dy ∅ hi.h ho.h),(rawInt L),(hT.symm.trans q),(s.heap.get? a=none),(o.data=.dict es ep),(s.heap.get? b=none),ys.length,(ns=ms),(ZQ ne),(ne hx),(ZY he dt v1 ?_),(starEach es ã),(∃m,W 0 m Z H),(λb o hc e=>?_),(Nat->St->Hp->Prop),(KasT α),(List Pg),(CXr P w),(l+r),(kas_bin f p k),(kas_rev p 0 n),0,(λi hi hk=>?_),(A.frames=some Ù),(env.frame=some L),X.K,hf.sz,(ys.map V.str),(base.StaysIn ñ),(.ref p),(.ref c),(wX X l),(ms.map .int),(EP X Pr Z Q),(XP X Pr Z E),(.inr #[o,q]),(λr h=>wk h),(i+1),(n-1),s.drawn,s2.heap.push,h1.push,s1.toks,(z.cps[·]?),(λr hr=>?_),(Ite K a xs),(Itv K a xs),(lt Ì Â=true),its.toArray,(aq st),(upd H a o),(SP X Pr D),(λ_=>True),(h.rev _ _),(Type),(PA X [e1] ta),(QA X [e1] ta),s.gens,ns.sum,ys.toArray,(t.bind f),(ņ / 2+1),(GF ō ta),(Gf ty td),(Kh ō ta),(X.calm=true),(α->KasT β),(lt a b=true),vs.length,pl.isList,rx.length,px.isList,sb.extBut,rv.length,(ZQ n),(n-é)]
section
theorem Jn{st:Stmt}:QS X st (λ_ _ _=>False):=#[λ_ _ _ _ _ _ h=>h.elim]
theorem KE:QOp X (compareOp .IsNot) (λx y H Q=>∃b c,x=.bl b/\y=.bl c/\Q (.bl (!decide (b=c))) H):=by refine#[?_];intro Pr s Z H x y v u Q I rx ry h;exists[b,c,rfl,rfl,q],h;cases rx;cases ry;cases b<;>cases c<;>exact Zb #[.bl _,H,I,rfl,q]
theorem oj{s:Ph}{t sl:Pg}{items:Array Pi}{lo hi:ď}{Q:Pd}(ht:IsTup ñ t items)(hs:s.heap.IsSliceOf sl vl vu .none)(pl:IsPart vl lo)(pu:IsPart vu hi)(hw:HT.sIx Î 0 lo=0/\HT.sIx Î Î hi=Î)(h:Q þ s):wpAny č A (getItem þ (.ref sl)) Q E s:=by
 exists[os,hos,hcs,hds],id hs;have hTs:s.TypeIs (.ref sl) "slice":=#[os,hos,hcs]
 unfold getItem
 try with_reducible refine ZU ?_
 first|refine z9 (Zb ?_)|skip
 refine z9 (wpAny_sequenceKey ý ⋯ ?_);refine z9 (Z4 (name:=Str.ofString "__getitem__") ý Ye
  (ZZ Ye ý entry_tuple_getitem ?_ (args_tuple_getitem _ _)))
 show wpAny _ _ (Builtin.Tuple.tupleItemsOf þ >>= _) _ _ s;refine z9 (tupleItemsOf_ ht ?_);refine z9 (wpAny_typeOf hTs ?_);rw[Pb ⋯];refine z9 (HT.sliceApplied_gen hs pl pu ?_);show wpAny _ _ (if(((HT.sIx Î 0 lo:Nat):Int)==0&&(1:Int)==1&&(HT.sIx Î Î hi-HT.sIx Î 0 lo)==Î)=true then _ else _) _ _ s;rw[Pb (by rw[hw.1,hw.2];simp)];refine z9 (m:=Builtin.Tuple.tupleIsExact _) ?_;unfold Builtin.Tuple.tupleIsExact;refine z9 (wpAny_typeOf ý (Zb ?_));rw[Pb ⋯];exact z9 (YF (Zb #[_,rfl,Zb h]))
def NB:V->Option Int->Option Int->Hp->VK->Prop:=λx lo hi H Q=>∃a xs,x=.ref a/\H a=some (.tup xs)/\∀p H',Same H H'->H' p=some (.tup (ce xs lo hi))->Q ő H'
theorem bK:QSl X NB:=by
 refine#[?_];intro Pr s Z H x v vl vu lo hi sl Q I rx hs pl pu h;exists[a,xs,rfl,hx,q],h;by_cases hw:HT.sIx À 0 lo=0/\HT.sIx À À hi=À
 .cases rx;exists[its,r,ht,hz],I.tuple (Pt (K:=ō) hx);have hlen:ß=À:=by rw[Zl];exact r.length.symm
  refine#["tuple",_,Ye.lookup,ý,oj ht hs pl pu (by rw[hlen];exact hw) #[.ref a,H,I,rfl,q a H (Same.refl H) ?_]];unfold ce;rw[hw.1,hw.2,List.drop_zero,Nat.sub_zero,ZI];exact hx
 .exact LF Pr s Z H _ v vl vu lo hi sl Q I rx hs pl pu #[a,xs,rfl,Pt hx,hw,λp hp=>q p _ (ad hp _) ac]
#check 0
section
variable{Q:Ċ}
theorem yV(ns:Pn):∀(ms:Pn) (vs ws:Pf) (i:Ë),IntsAre vs ns->IntsAre ws ms->fin=decide (ns.length<ms.length)->Q (HT.lexLt ns ms) s->KatLex prog w A true fin Q (vs.zip ws) i s:=by
 induction ns with
 |nil =>
  intro ms vs ws i a b hf q;subst hf;cases a;cases b with
  |nil=>exact kat_nil q
  |cons _ _ _=>exact kat_nil (by rw[decide_eq_true ð];exact q)
 |cons x ns ih =>
  intro ms vs ws i a b hf q;cases a with
  |cons _ t h1 =>
  cases b with
  |nil =>subst hf;exact kat_nil q
  |cons y u h2 =>
  exists[e,he,iff],HT.eqAt_int A s x t y u;rw[HT.lexLt_cons]at q;refine kat_cons (he _ _ _ _ (kat_go (λet=>?_) (λef=>?_)))
  .rw[Pb (iff.mp et)]at q;exact kat_yes (ih _ _ _ ř h1 h2 (by rw[hf];simp) q)
  .have hne:x≠y:=λz=>by rw[iff.mpr z]at ef;cases ef
   rw[Pa hne]at q;refine kat_no ?_;cases i with
   |zero=>exact oneLt_int q
   |succ i=>exact kat_one _ _ (PyProof.Rows.lt_int q)
#check 0
section
variable{H:Hp}{s:Ph}{h':û}
theorem ko{H:Hp}(x:ObjOk P w H h a o):∃ob,h.get? a=some ob:=by
 cases o with
 |lst xs =>exists[_,_,_,_,e],x;exact#[_,e]
 |tup xs =>exists[_,_,_,ob,e,_],x;exact#[ob,e]
 |dK kvs =>exists[_,_,_,_,ob,_,_,e,_],x;exact#[ob,e]
 |dT kvs =>exists[_,_,_,_,ob,_,_,e,_],x;exact#[ob,e]
 |set S n =>exists[ob,_,_,_,e,_],x;exact#[ob,e]
 |ins C dx fs =>exists[_,_,_,e,_],x;exact#[_,e]
 |own y=>exact x
 |xd fs =>obtain⟨_,⟨ob,_,_,e,_⟩,_⟩:=x;exact#[ob,e]
 |rng lo hi =>exists[_,_,_,e],x;exact#[_,e]
 |frz ob u=>exact#[ob,x.1]
 |tbl ps=>exact#[_,x]
 |met f y=>exact#[_,x]
 |ext φ=>exact x.2.1
theorem none_of(I:É)(hg:ķ):H a=none:=by
 cases q:H a with
 |none=>rfl
 |some u =>exists[ob,e],ko (I.hok a u q);rw[hg]at e;cases e
theorem Inv.laidF{t':Ë}(I:É)(k:∀b u,b≠Á->s.heap.get? b=some u->h'.get? b=some u)(hn:Ò)(hg:ķ)(new:ô):Inv X Pr Z Ŧ { s with heap:=h',toks:=t' }:=by
 have fr:=none_of I hg;have ne:∀{b:Pg} {u:HO},H b=some u->b≠a:=fun{b u} e=>aj e fr;have lt:∀{b:Pg} {u:Obj},s.heap.get? b=some u->b≠a:=fun{b u} e z=>by rw[z,hg]at e;cases e
 have neL:∀{b:Pg} {u:HO},H b=some u->b≠Á:=fun{b u} e=>aj e I.free;refine I.step (g':=ŭ) (d':=ś) (ch:=[]) (λb hb=>by simp at hb) (λb o hL _ _ e _=>k b o hL e) (λb o hL _ _ e _=>#[o.slots,k b o hL e]) (λb o _ e n=>by rw[af (lt e)];exact n) (λb o _ e=>?_)
  ì ê â Ď ė I.bare
 .by_cases hL:b=Á
  .exists[m,_,o',_,_,e',_],hn;exact#[o',by rw[hL];exact e']
  .exact#[o,k b o hL e]
 .exists[m,h1,h2],hn;rw[hm'.eq_nsMap,<-ĩ];exact h2
 .by_cases hb:b=a
  .subst hb;rw[ac]at e;cases e;exact new
  .rw[af hb]at e;refine(I.hok b u e).stay (λc v hc q=>k c v ?_ q) ø λc ys q=>by rw[af (ne q)];exact q
   rcases hc with z|z
   .rw[z];exact neL e
   .exact neL z
def sL(base h:û)(L:Pg):Pc:=(List.range h.objs.size).filterMap λb=>if b=L\/(base.get? b).isSome=true then none else(h.get? b).map λo=>(b,o)
theorem lV(base h:û)(L:Pg):News base L h (sL base h L):=λp hp=>by
 exists[b,_,e],Z5.mp hp;by_cases c:b=L\/(base.get? b).isSome=true
 .rw[Pb c]at e;cases e
 .rw[Pa c]at e;cases q:h.get? b with
  |none=>rw[q]at e;cases e
  |some o =>
   rw[q]at e;cases e;refine#[q,λz=>c (.inl z),?_];cases z:base.get? b with
   |none=>rfl
   |some u=>exact absurd (.inr (by rw[z];rfl)) c
theorem fh{base h:û}(e:h.get? b=some o)(hL:b≠L)(hb:base.get? b=none):(b,o)∈sL base h L:=by refine Z5.mpr #[b,List.mem_range.mpr (Zs e),?_];rw[Pa (by rintro(z|z);exact hL z;rw[hb]at z;cases z),e];rfl
#check 0
theorem fD(ns:Pn):SeqAt.shaped ä=true:=by
 unfold SeqAt.shaped;rw[ZN];refine#[?_,?_]
 .simp only[PyData.canLay0];exact PyProof.Rows.canLayAll_ints ns
 .refine decide_eq_true ?_;simp only[PyData.depth];rw[PyProof.Rows.depthAll_ints ns];decide
theorem qz:∀(ns ms:Pn),PyData.eqvAll (ns.map .int) Ŕ=decide Ļ
 | [],[]=>by simp[PyData.eqvAll]
 | [],_::_=>by simp[PyData.eqvAll]
 |_::_,[]=>by simp[PyData.eqvAll]
 |x::ns,y::ms=>by simp only[Zn,PyData.eqvAll,PyData.eqv];rw[qz ns ms,Bool.eq_iff_iff];simp
theorem jZ(ns ms:Pn):PyData.eqv ä (.tuple Ŕ)=decide Ļ:=by simp only[PyData.eqv];exact qz ns ms
theorem jW{H:Hp}{ns:Pn}(h:H a=some è):Dt H ä Đ:=by simp only[Dt];exact#[a,_,rfl,Rd.of h,zE ns]
section
variable{X:Cx}
theorem KD(hu:Æ):QOp X (compareOp .Eq) (λx y H Q=>∃(a b:Pg) (ns ms:Pn),x=.ref a/\y=.ref b/\H a=some è/\H b=some Ĥ/\Q (.bl (decide Ļ)) H):=by refine#[?_];intro Pr s Z H x y v u Q I rx ry h;exists[a,b,ns,ms,rfl,rfl,ha,hb,q],h;exact Du hu Pr s Z H _ _ v u Q I rx ry #[_,_,jW ha,jW hb,fD ns,fD ms,by rw[jZ];exact q]
theorem Dk(hu:Æ):QOp X (compareOp .NotEq) (λx y H Q=>∃(a b:Pg) (ns ms:Pn),x=.ref a/\y=.ref b/\H a=some è/\H b=some Ĥ/\Q (.bl (!decide Ļ)) H):=by refine#[?_];intro Pr s Z H x y v u Q I rx ry h;exists[a,b,ns,ms,rfl,rfl,ha,hb,q],h;exact Dw hu Pr s Z H _ _ v u Q I rx ry #[_,_,jW ha,jW hb,fD ns,fD ms,by rw[jZ];exact q]
#check 0
theorem nz{x:V}{A B:Prop}(h:x≠.non)(hA:A):if(!decide (x=.non))=true then A else B:=by rw[decide_eq_false h];exact bg hA
theorem Mi{c A B:Prop}[Decidable c](h:c)(hA:A):if decide c=true then A else B:=by rw[decide_eq_true h];exact bg hA
theorem kf{c A B:Prop}[Decidable c](h1:c->A)(h2:¬c->B):if decide c=true then A else B:=by
 by_cases h:c
 .exact Mi h (h1 h)
 .rw[decide_eq_false h];exact aI (h2 h)
structure CompOk1(X:Cx)(scope:Scope)(cx:Str)(cap:List Nat)(capN:į):Prop where
 kind:scope.kind=.function
 names:∀x∈ÿ,x.2=.local->scope.names.lookup x.1=some .local
 onecell:∀y∈ÿ,y.2=.cell->y.1=cx
 own:scope.names.lookup cx=some .cell
 cf:∀(n:Ë) (acc:List (Str×Pg)),cellsFrom n ÿ acc=(cx,n)::acc
 pc:∀h:Heap,pushCells h ÿ=h.push { cls:=.type "cell",data:=.cell none }
 frees:(scope.names.all λy=>!(y.2==NameKind.free) ||(X.env.kindOf y.1==some .cell ||X.env.kindOf y.1==some .free))=true
 cap:CapOk X scope cap capN
theorem rQ:∀{vs:Pf} {ns:Pn},IntsAre vs ns->∃xs:List (Int×Tok),vs=xs.map (λp=>.int p.1 p.2)/\ns=xs.map (·.1)
 |_,_,.nil=>#[[],rfl,rfl]
 |_,_,.cons n t h=>by exists[xs,e1,e2],rQ h;exact#[(n,t)::xs,by rw[e1];rfl,by rw[e2];rfl]
section
def NE(K:Qa)(te ts:TE):TE:=λZ H Q=>te Z H λx H1=>ts Z H1 λz H2=>z=.int (-1)/\∃a xs,x=.ref a/\SqL K H2 a xs/\∀p,H2 p=none->Q ő (upd H2 p (.lst ĉ))
theorem Vals.rev(h:Vals xs us):Vals ĉ us.reverse:=by
 induction h with
 |nil=>exact .nil
 |cons r _ ih =>rw[YG,YG];exact ih.append (.cons r .nil)
theorem MJ{e st:Pq}{te ts:TE}(he:QE X e te)(hst:QE X st ts):QE X (.Subscript e ú pos) (NE ō te ts):=by refine#[?_];intro Pr s Z H Q I h;refine Subscript_ (thn (he.h Pr s Z H _ I h) λv s1 hz9=>?_);exists[x,H1,I1,r1,q1],hz9;refine wpAny_Slice (wpAny_evalPart_none (wpAny_evalPart_none (wpAny_evalPart_some (thn (hst.h Pr s1 Z H1 _ I1 q1) λvk s2 hz9=>?_))));exists[z,H2,I2,rz,q2],hz9;exists[rfl,a,xs,rfl,hx,q],q2;cases r1;exists[t,rfl],rz;have I4:Inv X Pr Z H2 { s2 with heap:=Ŝ { cls:=.type "slice",data:=.fields æ } }:=I2.kept (t':=s2.toks) λb ob q=>Za _ q;exists[its,r,ht,hz],I4.list hx;have hlen:=r.length;show wpAny Û X.A (subscriptTail e ú Đ (.ref s2.heap.objs.size)) ŕ X.xe { s2 with heap:=Ŝ { cls:=.type "slice",data:=.fields æ } };refine tail_any (ops:=_) ht.isList.typeIs slot_list_getitem.lookup ?_ (by with_unfolding_all rfl);refine wpAny_getItem_list_slice ht.isList (Heap.IsSliceOf.new ..) .none .none (.int (-1) t) ⋯ ?_ (by rw[Zl]<;>omega);rw[W.krv_pick];refine#[.ref _,_,I4.laid (t':=s2.toks) (o:=.lst ĉ) (λb ob q=>Za _ q) Õ ?_,rfl,q _ (I4.hok.fresh Õ)];exact#[by rw[Yv];exact hz,its.reverse,0,Vals.rev r,Zm _ rfl]
#check 0
def fP(h:û)(e:Pg)(dc:Ğ):Prop:=∃o,h.get? e=some o/\o.dict=dc
theorem tL(f:Array Pi->Array Pi)(o:Obj):(Obj.mapFields f o).dict=o.dict:=by unfold Obj.mapFields;split<;>rfl
section
variable{A:Pl}{s:Ph}{base:û}{env:Env}
theorem qE{Q:đ}(fr:ŋ)(ff:s.heap.FunFrames base Ù)(ef:Ō)(he:Ĭ)(kb:Ő)(en:base.get? e=none)(dt:oe.data=.fields vs)(sz:1<vs.size)(v0:vs[0]?=some a0)(k:∀h',Heap.NotedW base Ù e oe.cls a0 ĵ ñ h'->fP h' e oe.dict->Q () { s with heap:=h' }):
  wpAny M A (do let a ←frameOf env;let pl ←entryPlaceOf L nx;let b ←EntryCells.newEntry hd0 a .none ĵ .none pl;setField Ē 1 b) Q E s:=by
 have nf:e∉(env::outer).filterMap (·.frame):=λhm=>by exists[_,o,ho,hn],ff.mem hm;cases Zo (he.symm.trans ho);exact hn vs dt
 refine z9 (wpAny_frameOf_fun fr ff ef λh1 k1=>z9 (wpAny_entryPlaceOf λpl hpl=>?_));unfold EntryCells.newEntry newFields;refine z9 (ZS ?_ (hpl.sizeOk5 _ _ _ _ _));have t3:([hd0,.ref L,.none,rawInt L,.none]++Ô).toArray[3]?=some ĵ:=by simp
 generalize([hd0,.ref L,.none,rawInt L,.none]++Ô).toArray=ts at t3 ⊢;have g1:h1.get? e=some oe:=(k1.2.1 e nf).trans he;have st1:base.StaysIn h1:=λb o hb=>(k1.2.1 b λhm=>nomatch(hb.symm.trans (ff.mem hm).1)).trans (kb b o hb);have gp:(ŝ { cls:=.type "traceback",data:=.fields ts }).get? e=some oe:=Za _ g1;have ne:Ě≠e:=Yb (Zs g1);have dm:=Yo dt (·.setIfInBounds 1 (Value.ref Ě));have self:=Yc Ä gp (Obj.isFreed_of_fields dm);have atT:=(y9 (ŝ { cls:=.type "traceback",data:=.fields ts }) Ä ļ).trans (Zm h1 rfl);have oth:∀b o,b≠e->h1.get? b=some o->((ŝ { cls:=.type "traceback",data:=.fields ts }).update e Ä).get? b=some o:=λb o n q=>(y9 _ _ ž).trans (Za _ q);have nrec:∀b o,s.heap.get? b=some o->Ö->b≠e:=λb o q hn z=>by subst z;cases Zo (he.symm.trans q);exact hn vs dt
 refine YN gp dt sz (k _ #[λb o q=>oth b o (λz=>nomatch((z▸q).symm.trans en)) (st1 b o q),ff.of_keeps λb o q hn=>?_,?_,λb o q hn=>?_] #[_,self,tL _ _])
 .exists[sl,hs],k1.2.2 b o q;exact#[_,oth b _ Ï hs,rfl]
 .exact#[_,_,Ě,_,ts,self,#[Obj.cls_mapFields _ _,by rw[Array.getElem?_setIfInBounds_ne ⋯];exact v0],dm,by simp[sz],st1.fresh,ne,atT,rfl,t3]
 .exists[sl,hs],k1.2.2 b o q;exact#[sl,oth b _ Ï hs]
theorem mX{Q:đ}(kb:Ő)(ff:s.heap.FunFrames base l)(tr:s.heap.TracedAtW base e cls a0 fl)(dd:fP ñ e dc)(k:∀h',base.StaysIn h'->h'.FunFrames base l->h'.TracedW base e cls a0->s.heap.UpToSlots h'->fP h' e dc->Q () { s with heap:=h' }):wpAny M A (setFlight Ē none) Q E s:=by
 exists[oe,vs,T,oT,ts,he,hc,dt,v1,nT,ne,hT,dT,t3],tr;have z3:3<ts.size:=(YJ.mp t3).1;have oth:∀b,b≠T->(s.heap.update T (Obj.mapFields (·.setIfInBounds 3 ((none:Ğ).elim Value.none λf=>rawInt f)))).get? b=s.heap.get? b:=λb n=>y9 _ _ ž;have nrec:∀b o,s.heap.get? b=some o->Ö->b≠T:=λb o q hn z=>by subst z;cases Zo Ķ;exact hn ts dT
 unfold setFlight;refine z9 ľ;rw[Pb (by simp:ü)];refine YN hT dT z3 (k _ (λb o q=>(oth b λz=>nomatch ę).trans (kb b o q)) (ff.of_keeps λb o q hn=>#[o,(oth b Ï).trans q,rfl]) ?_ (λb o q hn=>#[o.slots,(oth b Ï).trans q]) ?_)
 .exact#[oe,vs,T,_,_,(oth e ļ).trans he,hc,dt,v1,nT,ne,Yc _ hT (Obj.isFreed_of_fields (Yo dT _)),Yo dT _,by simp[z3]]
 .exists[o,q,d],dd;exact#[o,(oth e ļ).trans q,d]
theorem se{Q:đ}(fr:ŋ)(ef:Ō)(fl:Heap.FlyingW base Ù e cls a0 ñ)(dd:fP ñ e dc)(k:∀h',Heap.HeldW base Ù e cls a0 L h'->s.heap.UpToSlots h'->fP h' e dc->Q () { s with heap:=h' }):wpAny M A (noteFrame Ē env) Q E s:=by
 exists[f1,f2,f3,oe,vs,T,oT,ts,he,hc,dt,v1,nT,ne,hT,dT,t3],fl;exists[o2,q2,d2],dd;cases Zo (he.symm.trans q2);have z3:3<ts.size:=(YJ.mp t3).1;unfold noteFrame;simp only[ef];refine z9 ľ;rw[Pb (by simp:ü)];refine z9 (ZY hT dT t3 ?_);rw[Pa (by simp[rawInt]:¬(Value.none==rawInt L)=true)];refine z9 (YN hT dT z3 ?_);have oth:∀b,b≠T->(s.heap.update T Ý).get? b=s.heap.get? b:=λb n=>y9 _ _ ž;have nrec:∀b o,s.heap.get? b=some o->Ö->b≠T:=λb o q hn z=>by subst z;cases Zo Ķ;exact hn ts dT
 have sz:1<vs.size:=(YJ.mp v1).1;refine qE (s:={ s with heap:=s.heap.update T Ý }) fr (f3.of_keeps λb o q hn=>#[o,(oth b Ï).trans q,rfl]) ef ((oth e ļ).trans he) (λb o q=>(oth b λz=>nomatch ę).trans (f1 b o q)) f2 dt sz hc.2 λh' nt dd=>?_;exists[n1,n2,n3,n4],nt;rw[hc.1]at n3;rw[d2]at dd;exact k h' #[n1,f2,n2,n3] (λb o q hn=>n4 b o ((oth b Ï).trans q) hn) dd
#check 0
theorem di{v:V}{A B:Prop}(hA:A):if decide (v=v)=true then A else B:=by rw[decide_eq_true rfl];exact bg hA
theorem aL{v u:V}{A B:Prop}(h:v≠u)(hB:B):if decide (v=u)=true then A else B:=by rw[decide_eq_false h];exact aI hB
inductive TV where
 |flat (v:V)
 |tup (xs:List V)
def wH:V->Pi->Bool
 |.non,.none=>true
 |.bl b,.bool c=>b==c
 |.int i,.int j _=>i==j
 |.str x,.str y _=>x==y
 |_,_=>false
theorem vD:∀{v:V} {u:Pi},wH v u=true->RelV v u:=by
 intro v u h;unfold wH at h;split at h
 .exact rfl
 .obtain rfl:=y0.mp h;exact rfl
 .obtain rfl:=y0.mp h;exact#[_,rfl]
 .obtain rfl:=y0.mp h;exact#[_,rfl]
 .cases h
def yP:List V->Pf->Bool
 | [],[]=>true
 |v::vs,u::us=>wH v u&&yP vs us
 |_,_=>false
theorem qM:∀{vs:Ħ} {us:Pf},yP vs us=true->Vals vs us
 | [],[],_=>.nil
 |_::_,_::_,h=>by have h:=(ZN _ _).mp h;exact .cons (vD h.1) (qM h.2)
 | [],_::_,h=>nomatch h
 |_::_,[],h=>nomatch h
def pL(K:Qa):TV->Pi->Bool
 |.flat v,u=>wH v u
 | .tup xs,.ref a=>(match K.lookup a with
  |some o=>o.cls == .type "tuple"&&(match o.data with|.seq its _=>decide (its.size<=1000)&&yP xs its.toList|_=>false)
  | none=>false)
 |_,_=>false
def JU(K:Qa):TV->Pi->Prop
 |.flat v,u=>RelV v u
 |.tup xs,u=>∃a,u=.ref a/\∀H,SqT K H a xs
set_option tactic.hygienic true in theorem MZ{K:Qa}(d:TV)(u:Pi)(h:pL K d u=true):JU K d u:=by
 unfold pL at h;split at h
 .exact vD h
 .rename_i xs a;split at h
  .rename_i o ho;exists[e1,e2],(ZN _ _).mp h;split at e2
   .rename_i its n hd;exists[e3,e4],(ZN _ _).mp e2;exact#[a,rfl,λH=>.inr #[o,its,n,ho,y0.mp e1,hd,dS (Yd e3),qM e4]]
   .cases e2
  .cases h
 .cases h
structure Tab(K:Qa)(a:Pg)(D:List (Str×TV)):Prop where
 look:KTD.tabLook (pL K) (λb=>K.lookup b) a D=true
theorem Tab.at{K:Qa}(T:Tab K a D)(X:K.In h):KTD.TabOf (JU K) h a D:=KTD.tab_of_look MZ (λb o e=>X b o e) T.look
section
variable{s:Ph}{o:Obj}{ep:Ë}
theorem Jy{Q:Option Pi->Ph->Prop}(ho:İ)(hd:ĸ)(hall:ë)(h:Q ((es.toList.find? λe=>e.key.isStr x).map (·.val)) { s with toks:=ò+1 }) :
  wpAny č A (dictGet d Į) Q E s:=by
 unfold dictGet;(try with_reducible (refine ZU ?_))
 refine z9 (wpAny_pyHash_str (z9 (KTD.kt_dictFind_strs (s:={ s with toks:=ò+1 }) ho hd hall ?_)));have hq:Q (findBy Ĳ es x) { s with toks:=ò+1 }:=by
  have hf:findBy Ĳ es x=(es.toList.find? λe=>e.key.isStr x).map (·.val):=by exists[l],es;simp[findBy]
  rw[hf];exact h
 rw[findBy_of_findIdx?]at hq;cases hi:es.findIdx? λe=>e.key.isStr x<;>rw[hi]at hq
 .exact Zb hq
 .exact z9 (Yk (s:={ s with toks:=ò+1 }) ho hd (Zb hq))
theorem Gh{Q:Pd}(ex:o.ExactDict)(ho:İ)(hd:ĸ)(hall:ë)(hv:(es.toList.find? λe=>e.key.isStr x).map (·.val)=some v)(h:Q v { s with toks:=ò+1 }):wpAny č A (getItem (.ref d) Į) Q E s:=by
 have T:s.TypeIs (.ref d) "dict":=#[o,ho,ex.1]
 unfold getItem;(try with_reducible (refine ZU ?_))
 refine z9 (wpAny_sequenceKey T ⋯ (z9 (Z4 (name:=Str.ofString "__getitem__") T slot_dict_getitem (ZZ slot_dict_getitem T entry_dict_getitem ?_ (args_dict_getitem _ _)))));show wpAny _ _ (dictGet d Į >>= _) _ _ _;refine z9 (Jy ho hd hall ?_);rw[hv];exact Zb #[v,rfl,Zb h]
#check 0
section
variable{X:Cx}
def Ls(K:Qa):R2:=λx y H Q=>∃a k D d,x=.ref a/\y=.str k/\Tab K a D/\KTD.datumAt k D=some d/\(match d with|.flat v=>Q v H|.tup xs=>∀t,(∀H',SqT K H' t xs)->Q þ H)
theorem Hg:QIx X (Ls ō):=by
 refine#[?_];intro value slice Pr s Z H x y v u Q I rx ry h hs;exists[a,k,D,d,rfl,rfl,T,hk,q],h;exists[t,rfl],ry;cases rx;exists[sy,o,es,ep,ho,ex,hd,hr],T.at I.kIn;exists[v,hv,ok],hr.find_some hk;have fin:EP X Pr Z Q v { s with toks:=ò+1 }:=by
  cases d with
  |flat z=>exact#[z,H,I.tok _,ok,q]
  |tup xs =>exists[t,rfl,e],ok;exact#[.ref t,H,I.tok _,rfl,q t e]
 exact subscriptTail_builtinR (x:=v) (#[o,ho,ex.1]:s.TypeIs Đ "dict") slot_dict_getitem.lookup (Gh (Q:=λr s'=>r=v/\EP X Pr Z Q r s') ex ho hd (by exists[l],es;simpa using hr.exact) hv #[rfl,fin]) hs
theorem Lp(hm:X.mg x=some Đ)(hg:Gl X x:=by rfl)(hd:Ĝ=false:=by decide):QE X (.Name x pos) (tC Đ):=#[ug hg hm rfl hd]
#check 0
def CXr(P:Pj)(w:Pk):CXT:=λouter H s E e s' =>
 ∃(ea t:Pg) (C:Pi) (vs:Pf) (B:û) (H':Hp) (dc:Ğ),e=.ref ea/\s'.os=s.os/\AllBare s'.gens/\Un (frs outer) [] H H' ñ s'.heap/\HOk P w H' s'.heap /\
  Heap.FlyingW B outer ea C þ s'.heap/\s'.heap.TupAt t vs/\B.get? t=none/\(∀b o,b∉frs outer->((∃u,H' b=some u)\/∃o0,s.heap.get? b=some o0)->s'.heap.get? b=some o->B.get? b=some o)/\fP s'.heap ea dc/\E C dc H'
structure ExCls(K:Qa)(C:Pg):Prop where
 cls:∀h,K.In h->∃nm q N bs bm hdct sn sub ab col dd k0 k1 k2 k3 k5 mN,h.get? C=some (excClassObj nm q C N bs bm hdct sn sub ab col dd k0 k1 k2 k3 k5 "ValueError.__new__")/\h.Ns N mN/\mN "__init__" = none/\bm.contains Ê=true /\
  OwnTail h [.type "ValueError",.type "Exception",.type "BaseException",.type "object"] bm
def Cd(X:Cx)(EC:Pi->Hp->Prop):Prop:=∀(Pr:Pc) (Z:St) (H1:Hp) (s1:Ph) (h2:û) (e:Pg) (C:Pi) (vs:Pf),Inv X Pr Z H1 s1->Heap.MadeExcOf s1.heap h2 e C vs->EC C H1->X.xe Ē { s1 with heap:=h2 }
section
variable{e:Pq}
theorem ql(hR:Cd X EC)(hc:ŵ)(cl:ExCls ō C)(hm:X.mg x=some (.ref C))(ha:QA X (e::es) ta)(hg:Gl X x:=by rfl)(hs:(e::es).all aX=true:=by rfl)(hdb:Ĝ=false:=by decide) :
  QS X (.Raise (some (.Call (.Name x np) (e::es) [] cpos)) none pos) (λ_ Z H=>ta Z H λvs H1=>Ÿ<=sizeLine/\EC (.ref C) H1):=by
 refine#[?_];intro Pr s Z H D I h;exists[nm,q,N,bs,bm,hdct,sn,sub,ab,col,dd,k0,k1,k2,k3,k5,mN,hC,hN,hni,hb,T],cl.cls X.base I.ok.mod.kin;have hs1:aX e=true:=by have:=YM.mp hs e ð;exact this
 have he:=bf (es:=es) (env:=ã) hs1;have hpl:(backTo cpos Ŀ).any (·.1)=false:=cj (by
  rw[YM];intro y hy;exact YM.mp hs y (Zj _ hy))
 refine wpAny_Raise_call_subT (nm:=nm) (q:=q) (C:=C) (N:=N) (bs:=bs) (hdct:=hdct) (sn:=sn) (sub:=sub) (ab:=ab) (col:=col) (dd:=dd) (k0:=k0) (k1:=k1) (k2:=k2) (k3:=k3) (k5:=k5) PySem.F.excBase_ValueError hb ġ ?_ hni (jQ I hg hm #[rfl,?_] hdb)
 .rw[he];show(false ||(backTo cpos Ŀ).any (·.1))=false;rw[hpl];rfl
 .have hA:=ha.h cpos Pr s Z H _ I h;rw[he]at hA ⊢;refine Calls.evalArgs_plain (thn hA λus s1 ⟨vs,H1,I1,r1,hz,hE⟩=>#[rfl,by rw[<-r1.length];exact hz,I1.bk _ _ hC,hN.keeps I1.bk,T.keeps I1.bk,λh' ea hm=>hR Pr Z H1 s1 h' ea _ _ I1 hm hE])
#check 0
theorem Fun.okX{K:Qa}{st:Stmt}{k:Ë}{sp:Sp}(F:Fun K x qual st f fd)(S:FnScope N ps ť)(len:∀ vs H Q E,sp vs H Q E->Ÿ=ps.length)(hb:∀ (cdv:Pi) (A:Pl) (outer:List Env) (s:Ph) (H:Hp) (vs:Ħ) (Q:VK) (E:XK),Room k (A.deeper (envOfC qual ť Ó f cdv))->sp vs H Q E ->
   ∃ t,QB (hZ Ņ P w K mg base N qual ť f cdv A outer s H E) (cJ st) t/\t { nx:=λ_ H'=>Q .non H',rt:=Q } (start N vs) H):↑FnOk Ņ ą f fd ps sp:=by
 exists[oc,od,kV,doc,pm,an,cdv,ct,osl,rfl,lk,hcd],F.ex;exact A9 lk hcd S len λA outer s H vs Q E hr hsp=>let⟨t,h,q⟩:=hb cdv A outer s H vs Q E hr hsp;#[t,h.h,q]
structure FnX(P:Pj)(w:Pk)(K:Qa)(mg:Pe)(base:û)(k:Ë)(x:Str)(ps:į)(sp:Sp):Prop where
 ex:∃f fd,FnOk P w K mg base Ņ k f fd ps sp/\mg x=some (.ref f)/\W.keepIn K (.ref f)=true/\Binds K fd ps []
def XP(X:Cx)(Pr:Pc)(Z:St)(E:XK)(e:Pi)(s':Ph):Prop:=∃s0 H0,Inv X Pr Z H0 s0/\CXr X.prog X.w à H0 s0 E e s'
abbrev TX:=St->Hp->VK->XK->Prop
structure QX(X:Cx)(e:Pq)(t:TX):Prop where
 h:∀(Pr:Pc) (s:Ph) (Z:St) (H:Hp) (Q:VK) (E:XK),Inv X Pr Z H s->t Z H Q E->wpAny Û X.A (eval e ã) ŕ Ŗ s
abbrev TSX:=Ends->St->Hp->XK->Prop
structure QSX(X:Cx)(st:Stmt)(t:TSX):Prop where
 h:∀(Pr:Pc) (s:Ph) (Z:St) (H:Hp) (D:Ends) (E:XK),Inv X Pr Z H s->t D Z H E->wpAny Û X.A (exec st ã) ŧ Ŗ s
section
variable{pos:Pos}
theorem Au(he:QX X e tx)(hs:swapsWith e none pos.line ã=pure false:=by rfl):QSX X (.Expr e pos) (λD Z H E=>tx Z H (λ_ H1=>D.nx Z H1) E):=by refine#[?_];intro Pr s Z H D E I h;exact wpAny_Expr_any (thn (he.h Pr s Z H _ E I h) λv s1 ⟨y,H1,I1,r1,q1⟩=>#[Z,H1,I1,q1]) I.quiet hs
#check 0
structure Fl(X:Cx)(H0 H':Hp)(s0 s':Ph)(B:û):Prop where
 os:s'.os=s0.os
 bare:AllBare s'.gens
 un:Un (frs à) [] H0 H' s0.heap s'.heap
 hok:HOk X.prog X.w H' s'.heap
 kb:∀b o,b∉frs à->Ú->s'.heap.get? b=some o->B.get? b=some o
section
variable{X:Cx}{Pr:Pc}{Z:St}{H0 H':Hp}{s0 s':Ph}{B h':û}
theorem Fl.inv(F:ù)(I:Ă):Inv X Pr Z H' s':=I.call' F.os F.un F.hok F.bare λ_ z=>nomatch z
theorem Fl.nf(F:ù)(I:Ă)(h:H' b=some u):b∉frs à:=λhm=>by have:=(F.inv I).stkFree b hm;rw[h]at this;cases this
theorem Fl.move{tk:Ë}(F:ù)(I:Ă)(st:B.StaysIn h')(up:s'.heap.UpToSlots h'):Fl X H0 H' s0 { s' with heap:=h',toks:=tk } B:=by
 have kp:∀b o,b∉frs à->Ú->s'.heap.get? b=some o->h'.get? b=some o:=λb o h1 h2 h3=>st b o (F.kb b o h1 h2 h3);have sl:∀b o,b∈frs à->s'.heap.get? b=some o->∃sl,h'.get? b=some { o with slots:=sl }:=λb o hm q=>by exists[_,o',ho',hd],(F.inv I).stack.mem hm;have e:s'.heap.get? b=some o':=ho';rw[q]at e;cases e;exact up b o q hd
 refine#[F.os,F.bare,#[λb o q n hb hx=>kp b o hb ŗ (F.un.keep b o q n hb hx),λb o q n hb hx=>?_,F.un.free,λb o q hx=>?_,F.un.tups,F.un.frzs,F.un.tbls],λb u q=>?_,λb o hb ho q=>?_]
 .exists[s1,e1],F.un.slot b o q n hb hx;exists[s2,e2],sl b _ hb e1;exact#[s2,e2]
 .exists[o',e1],F.un.there b o q hx;by_cases hb:b∈frs à
  .exists[s2,e2],sl b o' hb e1;exact#[_,e2]
  .exact#[o',kp b o' hb ŗ e1]
 .refine(F.hok b u q).stay (λc v hc z=>kp c v ?_ ?_ z) (λ_ z=>z) λ_ _ z=>z
  .rcases hc with z'|z'
   .rw[z'];exact F.nf I q
   .exact F.nf I z'
  .rcases hc with z'|z'
   .rw[z'];exact .inl #[u,q]
   .exact .inl #[_,z']
 .obtain⟨o1,q1⟩:∃o1,s'.heap.get? b=some o1:=by
   rcases ho with⟨u,z⟩|⟨o0,z⟩
   .exact ko (F.hok b u z)
   .exact F.un.there b o0 z ð
  have q2:=kp b o1 hb ho q1;have q':h'.get? b=some o:=q;rw[q']at q2;cases q2;exact F.kb b o hb ho q1
#check 0
structure ExC(K:Qa)(C:Pg)(bm:Pf):Prop where
 cls:∀h,K.In h->∃nm q N bs hdct sn sub ab col dd k0 k1 k2 k3 k5 ni,h.get? C=some (excClassObj nm q C N bs bm hdct sn sub ab col dd k0 k1 k2 k3 k5 ni)
 exc:bm.contains Ê=true
theorem yU{s:Ph}{K:Qa}{Q:Ċ}(hC:ExC K C bmC)(hT:ExC K T bmT)(hk:K.In ñ)(he:Ĭ)(hcls:oe.cls=.ref C)(hq:Q ((Value.ref C::bmC).contains (.ref T)) s):wpAny M A (excMatches Ē (.ref T)) Q E s:=by
 exists[nm,q,N,bs,hdct,sn,sub,ab,col,dd,k0,k1,k2,k3,k5,ni,oC],hC.cls _ hk;exists[nm',q',N',bs',hdct',sn',sub',ab',col',dd',k0',k1',k2',k3',k5',ni',oT],hT.cls _ hk;exists[hp,g,d,tk,os],s;have hcB:(Value.ref T::bmT).contains Ê=true:=by rw[Y2,hT.exc,Bool.or_true]
 have f:=tc_notTuple;unfold excMatches;generalize hr:(Value.ref C::bmC).contains (Value.ref T)=r at hq
 repeat(first|(with_reducible refine YT he ?_;rw[hcls])|with_reducible refine YT oT ?_|(with_reducible refine wpAny_isSubtype_exc oT ?_;rw[hcB])|(with_reducible refine wpAny_isSubtype_exc oC ?_;rw[hr])|wp_step)
 cases r<;>(first|exact hq|(wp_walk;exact hq))
def Cx.exc(X:Cx)(e:Pi):Cx:={ X with A:=X.A.mark (some e),calm:=false,xe:=λ_ _=>False }
section
variable{X:Cx}{e:Pi}
theorem Inv.exc(I:É)(e:Pi):Inv (X.exc e) Pr Z H s :=
 #[#[I.ok.mod,I.ok.kind,I.ok.glob,I.ok.blt,I.ok.above,I.ok.inj,I.ok.has,I.ok.cab,λz=>(nomatch z),I.ok.frames,I.ok.stk,I.ok.exf,I.ok.bs,I.ok.bsz,I.ok.noex,I.ok.exfs,I.ok.funs,I.ok.frf],I.os,I.bare,I.base,I.loc,I.cell,I.free,I.freeC,I.pin,I.hok,I.len]
theorem Inv.unexc(ok:X.Ok)(I:Inv (X.exc e) Pr Z H s):Inv X Pr Z H s:=#[ok,I.os,I.bare,I.base,I.loc,I.cell,I.free,I.freeC,I.pin,I.hok,I.len]
#check 0
abbrev TH:=Ends->St->Pi->Option Pg->Hp->Prop
structure QH(X:Cx)(hs:List ExceptHandler)(th:TH):Prop where
 h:∀(Pr:Pc) (s0:Ph) (H0:Hp) (Z:St) (D:Ends) (ea t:Pg) (C:Pi) (B:û) (H':Hp) (dc:Ğ) (s':Ph),Inv X Pr Z H0 s0->Fl X H0 H' s0 s' B->Heap.FlyingW B à ea C þ s'.heap->fP s'.heap ea dc->th D Z C dc H' ->
  wpAny Û X.A (handleBy (.ref ea) ã hs) ŧ X.xe s'
section
variable{X:Cx}
def NF(tb:TSX)(th:TH):TS:=λD Z H=>tb D Z H λC dc H1=>th D Z C dc H1
theorem D4{st:Stmt}(hst:à=ã::X.outer)(hfr:X.env.frame=some Á)(hb:QSX X st tb)(hh:QH X (h0::hs) th):
  QS X (.Try [st] (h0::hs) [] [] pos) (NF tb th):=by
 refine#[?_];intro Pr s Z H D I h;refine wpAny_Try_except (wpAny_execs_cons (ZX (hb.h Pr s Z H D _ I h) (λf s1 q=>?_) (λe s1 x=>?_)))
 .cases f with
  |next=>exact wpAny_execs_nil (wpAny_execs_nil q)
  |brk=>exact q
  |cont=>exact q
  |ret v=>exact q
 .exists[s0,H0,I0,ea,t,C,vs,B,H',dc,rfl,os,bare,un,hok,fly,tup,hBt,kb,dd,q],x;have F:Fl X H0 H' s0 s1 B:=#[os,bare,un,hok,kb]
  have fr:X.A.frames=some (ã::X.outer):=by rw[<-hst];exact I.ok.frames
  rw[hst]at fly;refine se fr hfr fly dd λh4 held up4 dd4=>?_;exists[f1,f2,f3,f4],held;refine mX f1 f3 f4 dd4 λh5 k1 k2 k3 up5 dd5=>?_;have F5:=(F.move (tk:=Ş) I0 k1 (up4.trans up5))
  rw[<-hst]at k2;exact hh.h Pr s0 H0 Z D ea t C B H' dc _ I0 F5 #[k1,f2,k2,k3] dd5 q
#check 0
abbrev VE:Pf:=[.type "ValueError",.type "Exception",.type "BaseException",.type "object"]
def oq(K:Qa)(C:Pg):Prop:=∃dd cd k0 k1 k2 k3 k5 bm,K.lookup C=some #[.type "type",dd,.cls cd,(List.toArray [k0,k1,k2,k3,some (.builtin "ValueError.__new__"),k5])]/\cd.mro=Value.ref C::bm/\cd.hasDel=false/\tailIn K VE bm=true/\nsOkIn K cd.ns=true/\nsIn K cd.ns "__init__" = some none
structure ExcAt(K:Qa)(C:Pg)(bm:Pf):Prop where
 isIn:oq K C
 mro:∃c d cd sl,K.lookup C=some #[c,d,.cls cd,sl]/\cd.mro=Value.ref C::bm
 exc:bm.contains Ê=true
theorem uZ{K:Qa}(q:ħ)(X:K.In h):
  ∃nm qn N bs hdct sn sub ab col dd k0 k1 k2 k3 k5 mN,h.get? C=some (excClassObj nm qn C N bs bm hdct sn sub ab col dd k0 k1 k2 k3 k5 "ValueError.__new__")/\h.Ns N mN/\mN "__init__" = none/\OwnTail h VE bm:=by
 exists[dd,cd,k0,k1,k2,k3,k5,bm',ho,hm,nd,ht,ok,ni],q.isIn;exists[c9,d9,cd9,sl9,l9,m9],q.mro;have z:=ho.symm.trans l9;cases z;rw[hm]at m9;cases m9;exists[nm,bs,mro,ns,qn,hd,sn,sub,ab,col,del],cd;dsimp only at hm nd ok ni;cases hm;cases nd;exact#[nm,qn,ns,bs,hd,sn,sub,ab,col,dd,k0,k1,k2,k3,k5,_,X _ _ ho,.of_isNs (isNs_of_in X ok),nsMap_none_of_in X ok ni,tail_of_in X ht]
theorem rJ{K:Qa}(q:ħ):ExC K C bm where
 cls:=λh X=>by exists[nm,qn,N,bs,hdct,sn,sub,ab,col,dd,k0,k1,k2,k3,k5,mN,e,_],uZ q X;exact#[nm,qn,N,bs,hdct,sn,sub,ab,col,dd,k0,k1,k2,k3,k5,_,e]
 exc:=q.exc
theorem qU{K:Qa}(q:ħ):ExCls K C where
 cls:=λh X=>by exists[nm,qn,N,bs,hdct,sn,sub,ab,col,dd,k0,k1,k2,k3,k5,mN,e,e2,e3,e4],uZ q X;exact#[nm,qn,N,bs,bm,hdct,sn,sub,ab,col,dd,k0,k1,k2,k3,k5,mN,e,e2,e3,(rJ q).exc,e4]
structure ExK(K:Qa)(c:Pg):Prop where
 hc:(clsIn K c).isSome=true
 hga:findIn K Œ "__getattribute__" = some (some (.builtin "BaseException.__getattribute__"))
 hgh:findIn K Œ "__getattr__" = some none
 ha:findIn K Œ "__class__" = some (some (.builtin "object.__class__"))
 hb:mroIn K c Ê=some true
 hm:mroIn K c (.type "object")=some true
def Nj(i:Int):Str:=Str.ofString (toString i)
section
variable{K:Qa}
def GT(K:Qa):V->List V->Hp->VK->Prop:=λx xs H Q=>∃(sep:Str) (p:Pg) (ys:į),x=.str sep/\xs=[.ref p]/\SqL K H p ŏ/\(ys.map (·.length)).sum+ĺ*sep.length<=16777216/\Q (.str (Txt.join sep ys)) H
theorem At:∀{ys:į} {us:Pf},Vals ŏ us->StrsAre us ys
 | [],_,h=>by cases h;exact .nil
 |y::ys,_,h=>by
  cases h with
  |cons r1 r2 =>exists[t,rfl],r1;exact .cons _ _ (At r2)
theorem Im:MtR X "str.join" (GT ō):=by intro Pr s Z H x xs v us Q I rx r h;exists[sep,p,ys,rfl,rfl,hl,hz,q],h;exists[t,rfl],rx;exists[u,rfl,ru],eU r;cases ru;exists[its,rv,pl,_],I.list hl;exact join_list Ź (by simpa using At rv) hz λt' k=>#[.str _,H,I.tok _,#[_,rfl],q]
theorem Lq{apos cpos:Pos}(ho:QE X o to)(he:QE X e te)(hs:aX e=true:=by rfl)(hbase:attributeBase o "join" X.env (eval o ã)=eval o ã:=by rfl)(hline:(apos.endLine==cpos.line)=true:=by rfl):
  QE X (.Call (.Attribute o "join" apos) [e] [] cpos) (tBM ō "str" (GT ō) to (jK te jE)):=by
 have h1:=bf (es:=[]) (env:=ã) hs;have h2:starEach ([]:List Pq) ã=[]:=rfl;refine#[Bz PySem.F.plainAttrs_str PySem.F.slot_str_join PySem.F.type_str_join Im ho.h (Ad he.h sG (hs:=h1)) (hbase:=hbase) (hfew:=?_) (hline:=hline) (hs:=h1) (hplain:=by rw[h2];rfl)];rw[h1,h2];rfl
theorem M6:QIx X Lr:=#[Kl]
theorem Dj:QOp X (binaryOp .Add) (λx y H Q=>∃i j,x=.str i/\y=.str j/\i.length+j.length<=sizeLine/\Q (.str (i++j)) H):=#[Bw]
#check 0
theorem zI{K:Qa}{a b:Pg}{xs ys:Ħ}{i j:Ë}{tb:TS}{D:Ends}{Z:St}{H:Hp}(Pv:ł)(h0:Pv 0 Z H)(ha:∀i Z H,i<=À->Pv i Z H->SqT K H a xs)(hb:∀i Z H,i<=À->Pv i Z H->SqT K H b ys)(hl:À=ĺ)(hs:∀k x y Z H,xs[k]?=some x->ys[k]?=some y->Pv k Z H->∀T,H T=none->tb { D with nx:=Pv ą,ct:=Pv ą,bk:=D.nx } ((Z.set i (some x)).set j (some y)) (upd H T (.tup [x,y])))(hd:ē) :
  ∃W:Nat->Nat->St->Hp->Prop,ŀ/\∀k m Z H,W k m Z H ->
   ((Itz K a b xs ys).stop k H/\D.nx Z H)\/((Itz K a b xs ys).go k H/\∃N:St->Hp->Prop,Ø/\∀x H',(Itz K a b xs ys).yld k H x H'->oA K 2 ċ x Z H' λσ2 H2=>tb { D with nx:=N,ct:=N,bk:=D.nx } σ2 H2):=by
 refine#[λk m Z H=>m=À-k/\k<=À/\Pv k Z H,#[À,by simp,ZH _,h0],?_];rintro k m Z H ⟨rfl,hk,pv⟩;by_cases hlt:k<À
 .refine .inr #[#[hlt,ha k Z H hk pv,hb k Z H hk pv],Pv ą,λσ' H' z=>#[À-ą,∅,rfl,hlt,z],λx H' y=>?_];exists[T,p,q,hT,hx,hy,rfl,rfl],y;exact#[T,[p,q],rfl,Pt ac,rfl,p,[q],rfl,q,[],rfl,rfl,hs k p q Z H hx hy pv T hT]
 .have e:k=À:=∅
  subst e;exact .inl #[#[rfl,ha _ Z H hk pv,hb _ Z H hk pv],hd Z H pv]
theorem xt{J:It}{N n:Ë}{g:TG}{te:TE}{Q:VK}(Pv:Nat->List V->Hp->Prop)(hz:N<=1000)(hn:∀i ys H,Pv i ys H->ĺ=i)(h0:Pv 0 [] H0)(hgo:∀i ys H,i<N->Pv i ys H->J.go i H)(hst:∀ys H,Pv N ys H->J.stop N H)(ht:∀i ys H x H',i<N->Pv i ys H->J.yld i H x H'->∀A:VK,(∀v H4,Pv ř (ys++[v]) H4->A v H4)->g x (de n cap Z) H' λσ2 H2=>te σ2 H2 A)(hq:∀ys p H,Pv N ys H->H p=none->Q ő (upd H p (.lst ys))):gQ n cap g nV te Z J H0 Q:=by
 refine#[λi m ys H=>m=N-i/\i<=N/\Pv i ys H,#[N,by simp,ZH _,h0],?_];rintro i m ys H ⟨rfl,hi,pv⟩;by_cases hlt:i<N
 .refine .inr #[hgo i ys H hlt pv,by rw[hn i ys H pv];exact aJ ∅,λx H' y=>?_];have k:=ht i ys H x H' hlt pv y (λv H4=>∃m',m'<N-i/\m'=N-ř/\i+1<=N/\Pv ř (ys++[v]) H4) (λv H4 z=>#[N-ř,∅,rfl,hlt,z]);unfold nV;simpa using k
 .have e:i=N:=∅
  subst e;exact .inl #[hst ys H pv,λp hp=>hq ys p H pv hp]
def bY(z:Str)(lo hi:ď):Str:=if(Builtin.Str.strSliceIndices lo hi 1 Ī).length=z.length then z else#[((Builtin.Str.strSliceIndices lo hi 1 Ī).filterMap ş).toArray]
theorem EL(z:Str)(lo hi:ď):(bY z lo hi).length<=Ī:=by
 unfold bY;split
 .exact Ze _
 .show(List.filterMap _ _).toArray.size<=_;rw[Zl];exact Zr (YQ _ _) (indices_len_le _ _ _)
theorem EM{lo hi:ď}{c:Ë}(h:c∈(bY z lo hi).cps.toList):c∈z.cps.toList:=by
 unfold bY at h;split at h
 .exact h
 .have h':c∈(Builtin.Str.strSliceIndices lo hi 1 Ī).filterMap ş:=h;exists[i,_,hi],Z5.mp h';have:=Array.mem_of_getElem? hi;simpa using this
def KIn{α:Ū}(n:Ë)(P:Ĕ):KasT α->Prop
 |.ret a=>P a
 |.ask i j k=>i<n/\j<n/\∀b,KIn n P (k b)
theorem KIn.bind{α β:Ū}{n:Ë}{P:Ĕ}{R:β->Prop}{f:Ŷ}:∀{t:Ń},KIn n P t->(∀a,P a->KIn n R (f a))->KIn n R Ű
 |.ret _,h,k=>k _ h
 |.ask _ _ _,⟨h1,h2,h3⟩,k=>#[h1,h2,λb=>KIn.bind (h3 b) k]
def POk(n:Ë)(p:Po):Prop:=p.Perm (List.range n).toArray
theorem POk.lt{n:Ë}(h:î)(hn:0<n)(k:Ë):p.getD k 0<n:=by
 rw[Yp];cases e:p[k]? with
 |none=>exact hn
 |some x =>have hm:x∈p:=Array.mem_of_getElem? e;have:=(h.mem_iff).mp hm;simpa using this
theorem POk.rev{n:Ë}(h:î)(i j:Ë):POk n ć:=(mirror_perm p i j _).trans h
theorem POk.bub{n:Ë}(h:î)(i j:Ë):POk n (bubble p i j):=(bubble_perm p i j).trans h
theorem tU{n:Ë}(hn:0<n)(h:î):∀f k,KIn n Ũ (kas_asc p f k)
 |0,_=>trivial
 | f+1,k=>#[h.lt hn _,h.lt hn _,λc=>by
  cases c with
  |true=>exact trivial
  | false=>exact tU hn h f ą]
theorem nC{n:Ë}(hn:0<n):∀(f:Ë) {p:Po},POk n p->∀k q,KIn n (λr=>POk n r.1) (kas_desc f p k q)
 |0,_,h,_,_=>h
 |f+1,p,h,k,q=>by
  refine#[h.lt hn _,h.lt hn _,λc=>?_];cases c with
  |true =>
   show KIn n _ (if q>0 then _ else _);split
   .exact nC hn f ũ _ _
   .exact nC hn f h _ _
  |false =>
   refine#[h.lt hn _,h.lt hn _,λd=>?_];cases d with
   |true=>exact h
   |false=>exact nC hn f h _ _
theorem xN{n:Ë}(hn:0<n)(h:î)(k r:Ë):KIn n Ā (kas_tail3 k r p):=KIn.bind (tU hn (h.rev 0 k) _ _) λ_ _=>h.rev 0 k
theorem oH{n:Ë}(hn:0<n)(h:î)(k r:Ë):KIn n Ā (kas_descPart k r p):=KIn.bind (nC hn _ h _ _) λx hx=>by
 show KIn n _ (if x.2.2>0 then _ else _);split
 .exact xN hn (hx.rev _ _) _ _
 .exact xN hn hx _ _
theorem CV{n:Ë}(hn:0<n)(h:î)(r:Ë):KIn n Ā (kas_count r p):=KIn.bind (tU hn h _ _) λk _=>by
 show KIn n _ (if(k==r)=true then _ else if k>1 then _ else _);split
 .exact h
 .split
  .refine#[h.lt hn _,h.lt hn _,λc=>?_];cases c with
   |true=>exact h
   |false=>exact oH hn ũ _ _
  .exact oH hn h _ _
theorem oJ{n:Ë}(hn:0<n)(h:î)(k:Ë):∀f l r,KIn n Ũ ĥ
 |0,_,_=>trivial
 |f+1,l,r=>by
  show KIn n _ (if l>=r then _ else _);split
  .exact trivial
  .refine#[h.lt hn _,h.lt hn _,λc=>?_];cases c with
   |true=>exact oJ hn h k f _ _
   |false=>exact oJ hn h k f _ _
theorem zV{n:Ë}(hn:0<n):∀(f:Ë) {p:Po},POk n p->∀k,KIn n (POk n) Ň
 |0,_,h,_=>h
 |f+1,_,h,k=>KIn.bind (oJ hn h k _ _ _) λ_ _=>zV hn f (h.bub _ _) ą
theorem xM{n:Ë}(hn:0<n):KIn n (POk n) (kas_sort n):=KIn.bind (CV hn (Array.Perm.refl _) _) λr hr=>by
 show KIn n _ (if r.1<n then _ else _);split
 .exact zV hn _ hr _
 .exact hr
section
variable{X:Cx}
theorem JZ{K:Qa}(hK:ō=K)(hc:ŵ):QCall X (.builtin "sum") (λxs H Q=>∃(p:Pg) (ns:Pn),xs=[.ref p]/\SqT K H p (ns.map V.int)/\Q (.int Ů) H):=by
 subst hK;refine#[?_];intro Pr s Z H xs us Q I r h;exists[p,ns,rfl,hS,q],h;exists[u,rfl,ru],eU r;cases ru;exists[its,rv,pl,hz],I.tuple hS;exists[ys,e1,e2],rQ (bQ rv);have hl:s.heap.IsTuple p (intItems ů):=by exists[o,ho,hc',n,hd],pl;rw[e1]at hd;exact#[o,ho,hc',n,by simpa[intItems]using hd]
 refine ktm_sumG ġ hl λh' tk t' hk=>#[.int Ů,H,I.kept (t':=tk) hk,#[t',?_],q]
 have e:preSum (numAt ů) ys.toArray.size=Ů:=by rw[preSum_eq,Yt ð,e2]
 rw[e]
theorem Mp:QOp X (binaryOp .Mult) Lv:=#[KP]
theorem jd{K:Qa}(hK:ō=K):QOp X (compareOp .In) (rIn K false):=by subst hK;exact#[Dv]
#check 0
def KW{α:Ū}(lt:Pp)(Q:Ĕ):KasT α->Prop
 |.ret a=>Q a
 |.ask i j k=>KW lt Q (k ĕ)
theorem KW.bind{α β:Ū}{lt:Pp}{Q:β->Prop}{f:Ŷ}:∀{t:Ń},KW lt (λa=>KW lt Q (f a)) t->KW lt Q Ű
 |.ret _,h=>h
 |.ask i j k,h=>KW.bind (t:=k ĕ) h
theorem KW.mono{α:Ū}{lt:Pp}{Q R:Ĕ}(k:∀a,Q a->R a):∀{t:Ń},KW lt Q t->KW lt R t
 |.ret _,h=>k _ h
 |.ask i j c,h=>KW.mono k (t:=c ĕ) h
structure LtOk(lt:Pp):Prop where
 as:∀{a b},lt a b=true->lt b a=false
 tr:∀{a b c},lt b a=false->lt c b=false->lt c a=false
def gA(p:Po)(k:Ë):Nat:=p.getD k 0
def Lx(lt:Pp)(a b:Ë):Prop:=lt b a=false/\(lt a b=true\/a<b)
section
variable{lt:Pp}(O:LtOk lt)
include O
theorem LtOk.lt_le{a b c:Ë}(h:ŷ)(h2:lt c b=false):lt a c=true:=by
 cases e:lt a c with
 |true=>rfl
 |false=>rw[O.tr h2 e]at h;cases h
theorem LtOk.le_lt{a b c:Ë}(h:lt b a=false)(h2:lt b c=true):lt a c=true:=by
 cases e:lt a c with
 |true=>rfl
 |false=>rw[O.tr e h]at h2;cases h2
theorem Lx.trans{a b c:Ë}(h:Lx lt a b)(k:Lx lt b c):Lx lt a c:=by
 refine#[O.tr h.1 k.1,?_];rcases h.2 with x|x
 .exact .inl (O.lt_le x k.1)
 .rcases k.2 with y|y
  .exact .inl (O.le_lt h.1 y)
  .exact .inr (Nat.lt_trans x y)
theorem Lx.of_lt{a b:Ë}(h:ŷ):Lx lt a b:=#[O.as h,.inl h]
#check 0
structure Fx(N:Ë)(p:Po)(m:Ë):Prop where
 sz:á=N
 hi:∀k,m<=k->k<N->gA p k=k
 lo:∀i,i<m->gA p i<m
def LS(lt:Pp)(p:Po)(m:Ë):Prop:=∀i j,i<j->j<m->Lx lt Ç í
def AS(lt:Pp)(p:Po)(m:Ë):Prop:=∀i j,i<j->j<m->Lx lt í Ç
theorem Fx.succ{N:Ë}{m:Ë}(h:Fx N p m)(hm:m<N):Fx N p (m+1):=#[h.sz,λk h1 h2=>h.hi k ∅ h2,λi hi=>by
 rcases YB i m with h1|h1
 .have:=h.lo i h1;omega
 .have e:i=m:=∅
  subst e;rw[h.hi i Õ hm];omega]
theorem fq{p:Po}{i j k:Ë}(hj:j<=á):gA ć k=if i<=k/\k<j then gA p (i+j-1-k)else gA p k:=by
 unfold gA kas_rev;rw[Yp,getElem?_mirror_all hj];split
 .rw[Yp]
 .rw[Yp]
theorem rN(p:Po)(k:Ë):gA p k=(p[k]?).getD 0:=by unfold gA;rw[Yp]
theorem Kb{p:Po}{k d i:Ë}(hk:k<á)(hd:d<=k):gA (bubble p k d) i=if i=k-d then gA p k else if k-d<i/\i<=k then gA p (i-1)else gA p i:=by
 rw[rN,getElem?_bubble hk d hd];split
 .rw[rN]
 .split
  .rw[rN]
  .rw[rN]
theorem Fx.rev{N:Ë}{m i j:Ë}(h:Fx N p m)(hj:j<=m)(hm:m<=N):Fx N ć m:=by
 have hs:j<=á:=by rw[h.sz];omega
 refine#[by rw[kas_rev_size];exact h.sz,λk h1 h2=>?_,λk hk=>?_]
 .rw[fq hs,Pa ∅];exact h.hi k h1 h2
 .rw[fq hs];split
  .exact h.lo _ ∅
  .exact h.lo _ hk
section
variable{lt:Pp}(O:LtOk lt){N:Ë}
include O
theorem LS.step{p:Po}{n:Ë}(h:LS lt p n)(hx:Lx lt Â Ì)(h1:1<=n):LS lt p ī:=λi j hij hj=>by
 rcases YB j n with h2|h2
 .exact h i j hij h2
 .have e:j=n:=∅
  subst e;rcases YB i (j-1)with h3|h3
  .exact(h i (j-1) h3 ∅).trans O hx
  .have e:i=j-1:=∅
   subst e;exact hx
theorem xP:∀(f n:Ë),1<=n->n+f<=N->Fx N p n->LS lt p n->KW lt (λm=>n<=m/\m<=n+f/\Fx N p m/\LS lt p m/\(m<n+f->lt (gA p m) (gA p (m-1))=true)) (kas_asc p f n)
 |0,n,_,_,hf,hs=>#[Ze _,Ze _,hf,hs,λh=>absurd h ∅]
 |f+1,n,h1,hN,hf,hs=>by
  show KW lt _ (if lt Ì Â=true then .ret n else kas_asc p f ī);by_cases c:lt Ì Â=true
  .rw[Pb c];exact#[Ze _,∅,hf,hs,λ_=>c]
  .rw[Pa c];have c':=Y9.mpr c;have hx:Lx lt Â Ì:=#[c',.inr (by rw[hf.hi n Õ ∅];exact hf.lo _ ∅)]
   refine KW.mono Ģ (xP f ī ∅ ∅ Ę (hs.step O hx h1));exact#[∅,∅,hm.2.2.1,hm.2.2.2.1,λz=>hm.2.2.2.2 ∅]
theorem AS.rev{n:Ë}(h:ğ)(hn:n<=á):LS lt ň n:=λi j hij hj=>by rw[fq hn,fq hn,Pb ∅,Pb ∅];exact h _ _ ∅ ∅
theorem zX{n:Ë}(h1:1<=n)(hN:n<=N)(hf:Fx N p n)(ha:ğ):KW lt Å (kas_tail3 n N p):=by refine KW.bind (KW.mono Ģ (xP O (N:=N) (N-n) n h1 ∅ (hf.rev Õ hN) (ha.rev O (by rw[Ŏ];exact hN))));exact#[∅,∅,hm.2.2.1,hm.2.2.2.1]
structure Dn(lt:Pp)(p:Po)(n q:Ë):Prop where
 hq:q+1<=n
 up:∀i j,i<j->j<n-é->Lx lt í Ç
 cr:∀i j,i<n-é->n-é<=j->j<n->lt í Ç=true
 eq:∀i j,n-é<=i->i<j->j<n->lt Ç í=false/\lt í Ç=false/\gA p i<gA p j
theorem Dn.rev{n q:Ë}(h:Dn lt p n q)(hn:n<=á):AS lt Ð n:=λi j hij hj=>by
 have hq:=h.hq;rw[fq hn,fq hn];by_cases c1:n-é<=i
 .rw[Pb ∅,Pb ∅];exists[e1,e2,e3],h.eq (n-é+n-1-j) (n-é+n-1-i) ∅ ∅ ∅;exact#[e2,.inr e3]
 .rw[Pa (show¬(n-é<=i/\i<n) by omega)];by_cases c2:n-é<=j
  .rw[Pb ∅];exact Lx.of_lt O (h.cr _ _ ∅ ∅ ∅)
  .rw[Pa ∅];exact h.up _ _ hij ∅
theorem Dn.zero{n:Ë}(h:Dn lt p n 0):AS lt p n:=λi j hij hj=>by
 rcases YB j (n-1)with c|c
 .exact h.up i j hij c
 .exact Lx.of_lt O (h.cr i j ∅ ∅ hj)
theorem Dn.start{n:Ë}(h:ğ)(h1:1<=n)(hl:ţ):Dn lt p ī 0:=by
 refine#[∅,λi j hij hj=>h i j hij ∅,λi j hi h2 h3=>?_,λi j h2 h3 h4=>absurd h3 ∅];have e:j=n:=∅
 subst e;rcases YB i (j-1)with h3|h3
 .exact O.lt_le hl (h i (j-1) h3 ∅).1
 .have e:i=j-1:=∅
  subst e;exact hl
theorem qa:∀(f:Ë) {p:Po} {n q:Ë},n+f<=N->Fx N p n->Dn lt p n q->KW lt (λr=>n<=r.2.1/\r.2.1<=n+f/\Fx N r.1 r.2.1/\Dn lt r.1 r.2.1 r.2.2) (kas_desc f p n q)
 |0,_,n,_,_,hf,hd=>#[Ze _,Ze _,hf,hd]
 |f+1,p,n,q,hN,hf,hd=>by
  have hs:n<=á:=by rw[Ŏ];omega
  have hq:=hd.hq;show KW lt _ (if lt Ì Â=true then(if q>0 then kas_desc f Ð ī 0 else kas_desc f p ī 0)else KasT.ask Â Ì λd=>if d=true then .ret (p,n,q)else kas_desc f p ī é);by_cases c:lt Ì Â=true
  .rw[Pb c];have wk:∀{r:Po×Nat×Nat},(n+1<=r.2.1/\r.2.1<=n+1+f/\Fx N r.1 r.2.1/\Dn lt r.1 r.2.1 r.2.2)->n<=r.2.1/\r.2.1<=n+(f+1)/\Fx N r.1 r.2.1/\Dn lt r.1 r.2.1 r.2.2:=λh=>#[∅,∅,h.2.2.1,h.2.2.2]
   by_cases cq:q>0
   .rw[Pb cq];have fr:=hf.rev (i:=n-é) (Ze n) ∅;have e1:gA Ð n=gA p n:=by rw[fq hs,Pa ∅]
    have e2:gA Ð Ś=gA p ſ:=by rw[fq hs,Pb ∅];congr 1;omega
    have l2:lt Ì (gA p ſ)=true:=O.lt_le c (hd.eq ſ Ś Õ ∅ ∅).1;refine KW.mono Ř (qa f ∅ (fr.succ ∅) (Dn.start O (hd.rev O hs) ∅ (by rw[e1,e2];exact l2)))
   .rw[Pa cq];have e:q=0:=∅
    subst e;exact KW.mono Ř (qa f ∅ Ę (Dn.start O (hd.zero O) ∅ c))
  .rw[Pa c];have c':=Y9.mpr c;show KW lt _ (if lt Â Ì=true then _ else _);by_cases d:lt Â Ì=true
   .rw[Pb d];exact#[Ze _,YC _ _,hf,hd]
   .rw[Pa d];have d':=Y9.mpr d;have gn:gA p n=n:=hf.hi n Õ ∅;have same:∀i,n-é<=i->i<n->lt Ç Ì=false/\lt Ì Ç=false:=λi h1 h2=>by
     rcases YB i (n-1)with h3|h3
     .exists[a1,a2,_],hd.eq i Ś h1 h3 ∅;exact#[O.tr d' a1,O.tr a2 c']
     .have e:i=n-1:=∅
      subst e;exact#[d',c']
    refine KW.mono (λr h=>#[∅,∅,h.2.2.1,h.2.2.2]) (qa f (n:=n+1) (q:=q+1) ∅ Ę #[∅,λi j hij hj=>hd.up i j hij ∅,λi j hi h2 h3=>?_,λi j h1 h2 h3=>?_])
    .rcases YB j n with h4|h4
     .exact hd.cr i j ∅ ∅ h4
     .have e:j=n:=∅
      subst e;exact O.le_lt d' (hd.cr i (j-1) ∅ ∅ ∅)
    .rcases YB j n with h4|h4
     .exact hd.eq i j ∅ h2 h4
     .have e:j=n:=∅
      subst e;exists[a1,a2],same i ∅ h2;exact#[a1,a2,by rw[gn];exact hf.lo _ h2]
theorem qC{n:Ë}(h1:1<=n)(hN:n<N)(hf:Fx N p n)(ha:ğ)(hl:ţ):KW lt Å (kas_descPart n N p):=by
 refine KW.bind (KW.mono Š (qa O (N:=N) (N-ī) ∅ (hf.succ hN) (Dn.start O ha h1 hl)));exists[r1,r2,r3,r4],hr;show KW lt _ (if r.2.2>0 then _ else _);by_cases c:r.2.2>0
 .rw[Pb c];exact zX O ∅ ∅ (r3.rev Õ ∅) (r4.rev O (by rw[r3.sz];omega))
 .rw[Pa c];have e:r.2.2=0:=∅
  rw[e]at r4;exact zX O ∅ ∅ r3 (r4.zero O)
theorem E7(hN:1<=N)(hf:Fx N p 1):KW lt Å (kas_count N p):=by
 refine KW.bind (KW.mono (λn hn=>?_) (xP O (N:=N) (N-1) 1 Õ ∅ hf Ć));exists[n1,n2,nf,ns,nl],hn;show KW lt _ (if(n==N)=true then KasT.ret (n,p)else if n>1 then KasT.ask Ė Â (λc=>if c=true then .ret (n,p)else kas_descPart n N ň)else kas_descPart n N p);by_cases c:(n==N)=true
 .rw[Pb c];exact#[∅,n1,nf,ns]
 .rw[Pa c];have nN:n<N:=by have:n≠N:=λz=>c (y0.mpr z);omega
  have hl:=nl ∅;by_cases c2:n>1
  .rw[Pb c2];show KW lt _ (if lt Ė Â=true then _ else _);by_cases c3:lt Ė Â=true
   .rw[Pb c3];exact#[∅,n1,nf,ns]
   .rw[Pa c3];have c3':=Y9.mpr c3;have hs:n<=á:=by rw[nf.sz];omega
    have le0:∀i,i<n->lt Ç Ė=false:=λi hi=>by
     rcases Nat.eq_zero_or_pos i with z|z
     .subst z;cases e:lt Ė (gA p 0)with
      |false=>rfl
      |true=>rw[O.as e]at e;cases e
     .exact(ns 0 i z hi).1
    have leN:∀i,i<n->lt Â Ç=false:=λi hi=>by
     rcases YB i (n-1)with z|z
     .exact(ns i Ś z ∅).1
     .have e:i=n-1:=∅
      subst e;cases e:lt Â (gA p Ś)with
      |false=>rfl
      |true=>rw[O.as e]at e;cases e
    have all:∀i j,i<n->j<n->lt Ç í=false:=λi j hi hj=>O.tr (leN j hj) (O.tr c3' (le0 i hi));refine qC O n1 nN (nf.rev Õ ∅) ĳ ?_
    .rw[fq hs,fq hs,Pb ∅,Pb ∅];have z:=ns (0+n-1-j) (0+n-1-i) ∅ ∅;refine#[all _ _ ∅ ∅,?_];rcases z.2 with y|y
     .rw[all _ _ ∅ ∅]at y;cases y
     .exact .inr y
    .rw[fq hs,fq hs,Pa ∅,Pb ∅];exact O.lt_le hl (all _ _ ∅ ∅)
  .rw[Pa c2];have e:n=1:=∅
   subst e;exact qC O n1 nN nf Ć hl
theorem qW{k:Ë}(hs:LS lt p k):∀(f l r:Ë),r-l<=f->r<=k->(∀i,i<l->i<k->lt Ü Ç=false)->(∀i,r<=i->i<k->lt Ü Ç=true)->l<=r ->
  KW lt (λm=>m<=k/\(∀i,i<m->lt Ü Ç=false)/\∀i,m<=i->i<k->lt Ü Ç=true) ĥ
 |0,l,r,h1,h2,h3,h4,h5=>#[∅,λi hi=>h3 i hi ∅,λi hi=>h4 i ∅]
 |f+1,l,r,h1,h2,h3,h4,h5=>by
  show KW lt _ (if l>=r then KasT.ret l else KasT.ask Ü õ λc=>if c=true then kas_place p k f l (ņ / 2)else kas_place p k f ű r);by_cases c:l>=r
  .rw[Pb c];exact#[∅,λi hi=>h3 i hi ∅,λi hi=>h4 i ∅]
  .rw[Pa c];show KW lt _ (if lt Ü õ=true then _ else _);by_cases d:lt Ü õ=true
   .rw[Pb d];refine qW hs f l (ņ / 2) ∅ ∅ h3 Ŋ ∅;rcases Nat.eq_or_lt_of_le hi with e|e
    .rw[<-e];exact d
    .exact O.lt_le d (hs _ _ e hk).1
   .rw[Pa d];have d':=Y9.mpr d;refine qW hs f ű r ∅ h2 Ŋ h4 ∅;rcases YB i (ņ / 2)with e|e
    .exact O.tr (hs _ _ e ∅).1 d'
    .have e:i=ņ / 2:=∅
     rw[e];exact d'
theorem CW:∀(f:Ë) {p:Po} {k:Ë},k+f=N->1<=k->Fx N p k->LS lt p k->KW lt ĝ Ň
 |0,p,k,e,_,hf,hs=>by
  have:k=N:=∅
  subst this;exact#[Ŏ,hs]
 |f+1,p,k,e,h1,hf,hs=>by
  refine KW.bind (KW.mono Ģ (qW O hs k 0 k ∅ Õ (λi hi=>absurd hi ∅) (λi h2 h3=>absurd h2 ∅) (ZH _)));exists[m1,m2,m3],hm;have hk:k<á:=by rw[Ŏ];omega
  have gk:gA p k=k:=hf.hi k Õ ∅;have ekm:k-(k-m)=m:=∅
  have gb:∀i,gA (bubble p k (k-m)) i=if i=m then gA p k else if m<i/\i<=k then gA p (i-1)else gA p i:=λi=>by rw[Kb hk ∅,ekm]
  refine CW f ∅ ∅ #[by rw[bubble_size];exact Ŏ,λi h2 h3=>?_,λi hi=>?_] ĳ
  .rw[gb,Pa ∅,Pa ∅];exact hf.hi i ∅ h3
  .rw[gb];split
   .rw[gk];omega
   .split
    .have:=hf.lo (i-1) ∅;omega
    .have:=hf.lo i ∅;omega
  .have lk:∀i,i<m->Lx lt Ç Ü:=λi hi=>#[m2 i hi,.inr (by rw[gk];exact hf.lo i ∅)]
   have gt:∀i,m<=i->i<k->Lx lt Ü Ç:=λi h2 h3=>Lx.of_lt O (m3 i h2 h3);rw[gb,gb];by_cases a1:i=m
   .rw[Pb a1,Pa ∅,Pb ∅];exact gt _ ∅ ∅
   .rw[Pa a1];by_cases a2:m<i/\i<=k
    .rw[Pb a2,Pa ∅,Pb ∅];exact hs _ _ ∅ ∅
    .rw[Pa a2];by_cases b1:j=m
     .rw[Pb b1];exact lk i ∅
     .rw[Pa b1];by_cases b2:m<j/\j<=k
      .rw[Pb b2];exact hs _ _ ∅ ∅
      .rw[Pa b2];exact hs _ _ hij ∅
theorem zW(hN:1<=N):KW lt ĝ (kas_sort N):=by
 have f0:Fx N ā 1:=by
  have g:∀k,k<N->gA ā k=k:=λk hk=>by rw[rN];simp[hk]
  refine#[by simp,λk _ hk=>g k hk,λi hi=>?_];have e:i=0:=∅
  subst e;rw[g 0 ∅];decide
 refine KW.bind (KW.mono Š (E7 O hN f0));exists[r1,r2,r3,r4],hr;show KW lt _ (if r.1<N then kas_bin (N-max r.1 1) r.2 (max r.1 1)else .ret r.2);have e:max r.1 1=r.1:=∅
 rw[e];by_cases c:r.1<N
 .rw[Pb c];exact CW O _ ∅ r2 r3 r4
 .rw[Pa c];have e:r.1=N:=∅
  rw[e]at r3 r4;exact#[r3.sz,r4]
#check 0
def Ite(K:Qa)(a:Pg)(xs:Ħ):It :=
 #[λi H=>i<À/\SqL K H a xs,λi H x H'=>∃T p,H T=none/\xs[i]?=some p/\x=.ref T/\H'=upd H T (.tup [.int i,p]),λi H=>i=À/\SqL K H a xs]
abbrev eTn(e it a:Pg):Nat->Heap->Prop:=λi h=>(∃old,IsEnum h e it i old)/\h.IsListIter it a i
theorem Ei{K:Qa}{kt:Ë}(ne:e≠it)(ha:e≠a/\it≠a):
  Turn P w K ï š [e,it] e (eTn e it a):=by
 refine#[by simp,λi h st c hc=>?_,λi h h' st k=>?_,?_,?_,λA i s Q E st h=>?_]
 .obtain⟨⟨old,e1⟩,⟨o4,e4,_,d4⟩⟩:=st;simp only[Zg,ZB,Z9]at hc;rcases hc with rfl|rfl
  .exact#[_,e1,λv z=>nomatch z]
  .exact#[_,e4,λv z=>by rw[d4]at z;cases z]
 .obtain⟨⟨old,e1⟩,⟨o4,e4,r4⟩⟩:=st;exact#[#[old,k e ð _ e1],#[o4,k it ð _ e4,r4]]
 .intro X hP hw hK hc i Pr s Z H E I hf st hg;subst hP hw hK;obtain⟨⟨old,e1⟩,e4⟩:=st;exists[hi,hx],hg;exists[its,rx,px,zx],I.list hx;have lx:i<ß:=by rw[Zl,<-ź];exact hi
  have hh:=I.ok.hd hc;refine wpAny_pyNext_enum_itemD (Draws.list (A:=X.A.in1) hh it a ha.2.symm Ť) e1 #[e4,Ż] lx ne (by simp[ne,ha.1]) λx h' tk qx ho hs' hT hsz hk=>?_;refine#[_,rfl,wpAny_letOwnedTupleGo_enum (s:={ s with heap:=h',toks:=tk+1 }) ho λh2 he2 sb=>?_];obtain⟨xv,ex⟩:∃xv,xs[i]?=some xv:=#[xs[i],by simp[hi]]
  exists[x',gx,rxv],rx.get ex;have qx':its[i]?=some x:=by simpa using qx
  rw[gx]at qx';cases qx';have lte:e<Ó:=Zs e1;have kp2:∀c o,c∉[e,it]->s.heap.get? c=some o->h2.get? c=some o:=λc o hc q=>by simp only[Zg,ZB,Z9,not_or]at hc;exact ż c o hc.1 (hk c o hc.1 hc.2 q)
  have tT:IsTup h2 Ó [.int i tk,x].toArray:=#[_,sb.extBut _ _ (Yb lte) hT,rfl,_,rfl]
  refine#[.ref Ó,upd H Ó (.tup [.int i,xv]),I.turnT (t':=tk+1) hf kp2 tT (.cons #[tk,rfl] (.cons rxv .nil)) (sz rfl),rfl,#[_,xv,I.hok.fresh Õ,ex,rfl,rfl],?_,λc hc=>?_]
  .exact#[#[_,by simpa using he2],hs'.1.extBut ż ne.symm]
  .rw[af]
   .exact(hf c hc).1
   .obtain⟨o,eo⟩:∃o,s.heap.get? c=some o:=by
     simp only[Zg,ZB,Z9]at hc;rcases hc with rfl|rfl
     .exact#[_,e1]
     .exists[o,eo,_],e4;exact#[o,eo]
    exact Zy (Zs eo)
 .intro X hP hw hK hc i Pr s Z H E I hf st hg;subst hP hw hK;obtain⟨⟨old,e1⟩,e4⟩:=st;exists[rfl,hx],hg;exists[its,rx,px,zx],I.list hx;have lx:ß=À:=by rw[Zl,<-ź]
  have hh:=I.ok.hd hc;refine wpAny_pyNext_enum_endD (Draws.list (A:=X.A.in1) hh it a ha.2.symm Ť) e1 #[by rw[lx];exact e4,Ż] λh' kp=>#[rfl,?_]
  exact I.turnM (t':=ò) hf λc ob hc q=>by simp only[Zg,ZB,Z9,not_or]at hc;exact kp c ob hc.2 q
 .obtain⟨⟨old,e1⟩,_⟩:=st;exact wpAny_pyIter_enum e1 h
def GF(K:Qa)(ta:TA):TI:=λZ H R=>ta Z H λvs H1=>∃a xs,vs=[.ref a]/\H1 a=some (.lst xs)/\R š H1
section
variable{X:Cx}
theorem IQ{kt:Ë}(hg:Gl X "enumerate")(hm:Ġ)(ha:ū)(n1:aX e1=true):PI X ï å Ų:=by
 intro Pr s Z H R I h;refine Call_ (iC I hg hm boot_enumerate Í);exists[vs,H1,I1,r1,q1],hz9;exists[a,xs,e,hx,q],q1;subst e;exists[ua,rfl,ra],eU r1;cases ra;exists[z,its,n,rx,hl',eo],I1.lstM hx;have la:a<Ã:=Zs eo;refine call_enumerate_1 eo λh' he hl hz hk=>wpAny_pyIter_enum he ?_;refine#[Ã+1,[Ã+1,Ã],eTn (Ã+1) Ã a,_,H1,rfl,I1.kept (t':=Ş) hk,Ei (Nat.succ_ne_self _) #[Yb (Nat.lt_succ_of_lt la),Yb la],#[#[_,he],hl],λc hc=>?_,q];have hc':Ã<=c:=by
  simp only[Zg,ZB,Z9]at hc;rcases hc with rfl|rfl
  .exact YE _
  .exact Ze _
 exact I1.fpOk hc' (I1.hok.fresh hc')
theorem CL{kt:Ë}(hm:Ġ)(ha:Ŭ)(hg:Gl X "enumerate":=by rfl)(n1:aX e1=true:=by rfl):QI X ï å Ų:=#[IQ hg hm ha.h n1]
#check 0
theorem xz{K:Qa}{a:Pg}{xs:Ħ}{i j:Ë}{tb:TS}{D:Ends}{Z:St}{H:Hp}(Pv:ł)(h0:Pv 0 Z H)(ha:∀i Z H,i<=À->Pv i Z H->SqL K H a xs)(hs:∀k x Z H,xs[k]?=some x->Pv k Z H->∀T,H T=none->tb { D with nx:=Pv ą,ct:=Pv ą,bk:=D.nx } ((Z.set i (some (.int k))).set j (some x)) (upd H T (.tup [.int k,x])))(hd:ē) :
  ∃W:Nat->Nat->St->Hp->Prop,ŀ/\∀k m Z H,W k m Z H ->
   ((Ite K a xs).stop k H/\D.nx Z H)\/((Ite K a xs).go k H/\∃N:St->Hp->Prop,Ø/\∀x H',(Ite K a xs).yld k H x H'->oA K 2 ċ x Z H' λσ2 H2=>tb { D with nx:=N,ct:=N,bk:=D.nx } σ2 H2):=by
 refine#[λk m Z H=>m=À-k/\k<=À/\Pv k Z H,#[À,by simp,ZH _,h0],?_];rintro k m Z H ⟨rfl,hk,pv⟩;by_cases hlt:k<À
 .refine .inr #[#[hlt,ha k Z H hk pv],Pv ą,λσ' H' z=>#[À-ą,∅,rfl,hlt,z],λx H' y=>?_];exists[T,p,hT,hx,rfl,rfl],y;exact#[T,[.int k,p],rfl,Pt ac,rfl,.int k,[p],rfl,p,[],rfl,rfl,hs k p Z H hx pv T hT]
 .have e:k=À:=∅
  subst e;exact .inl #[#[rfl,ha _ Z H hk pv],hd Z H pv]
theorem tR{α:Ū}{n:Ë}{lt:Pp}{P R:Ĕ}{cmp:Nat->Nat->Ċ->Ph->Prop}{Q:α->Ph->Prop}{s:Ph}(hc:∀i j C,i<n->j<n->C ĕ s->cmp i j C s)(hq:∀a,P a->R a->Q a s):∀{t:Ń},KIn n P t->KW lt R t->t.kasWp cmp Q s
 |.ret _,h,k=>hq _ h k
 |.ask i j c,⟨h1,h2,h3⟩,k=>hc _ _ _ h1 h2 (tR hc hq (t:=c ĕ) (h3 _) k)
section
variable{X:Cx}{Pr:Pc}{Z:St}{H:Hp}{s:Ph}{h':û}
theorem Inv.movedF{ch:ń}{t':Ë}(I:É)(hch:ĭ)(k:Ñ)(hn:Ò):Inv X Pr Z H { s with heap:=h',toks:=t' }:=by
 have neL:∀{b:Pg} {u:HO},H b=some u->b≠Á:=fun{b u} e=>aj e I.free;have neC:∀{b:Pg} {u:HO},H b=some u->b∉ch:=fun{b u} e z=>by have:=(hch b z).1;rw[e]at this;cases this
 refine I.step (g':=ŭ) (d':=ś) (ch:=ch) È ó Þ (λb o _ e n=>n) Ł
  (λb xs e=>e) (λb o u e=>e) (λb ps e=>#[#[],by rw[e];simp]) Ď ė I.bare
 .by_cases hL:b=Á
  .exists[m,_,o',_,_,e',_],hn;exact#[o',by rw[hL];exact e']
  .exact#[o,k b o hL hc e]
 .exists[m,h1,h2],hn;rw[hm'.eq_nsMap,<-ĩ];exact h2
 .refine(I.hok b u e).stay Ĉ (λc q=>q) λc ys q=>q
  .rcases hc with z|z
   .rw[z];exact neL e
   .exact neL z
  .rcases hc with z|z
   .rw[z];exact neC e
   .exact neC z
theorem Inv.tookF{ch:ń}{a:Pg}{o:HO}{t':Ë}(I:É)(ha:a∈ch)(hch:ĭ)(k:Ñ)(hn:Ò)(new:ô):Inv X Pr Z Ŧ { s with heap:=h',toks:=t' }:=by
 have fr:=(hch a ha).1;have ne:∀{b:Pg} {u:HO},H b=some u->b≠a:=fun{b u} e=>aj e fr;have neL:∀{b:Pg} {u:HO},H b=some u->b≠Á:=fun{b u} e=>aj e I.free;have neC:∀{b:Pg} {u:HO},H b=some u->b∉ch:=fun{b u} e z=>by have:=(hch b z).1;rw[e]at this;cases this
 refine I.step (g':=ŭ) (d':=ś) (ch:=ch) È ó Þ (λb o hc e n=>by rw[af (λz:b=a=>hc (by rw[z];exact ha))];exact n) Ł
  ì ê â Ď ė I.bare
 .by_cases hL:b=Á
  .exists[m,_,o',_,_,e',_],hn;exact#[o',by rw[hL];exact e']
  .exact#[o,k b o hL hc e]
 .exists[m,h1,h2],hn;rw[hm'.eq_nsMap,<-ĩ];exact h2
 .by_cases hb:b=a
  .subst hb;rw[ac]at e;cases e;exact new
  .rw[af hb]at e;refine(I.hok b u e).stay Ĉ ø λc ys q=>by rw[af (ne q)];exact q
   .rcases hc with z|z
    .rw[z];exact neL e
    .exact neL z
   .rcases hc with z|z
    .rw[z];exact neC e
    .exact neC z
def jS(base h:û)(L kS:Pg):Pc:=(sL base h L).filter λp=>decide (p.1≠kS)
theorem kE{base h:û}(e:h.get? kS=some o)(hL:kS≠L)(hb:base.get? kS=none):News base L h ((kS,o)::jS base h L kS):=λp hp=>by
 rcases Zg.mp hp with rfl|hp
 .exact#[e,hL,hb]
 .exact lV base h L p (ZF.mp hp).1
theorem nJ:∀p∈jS base h L kS,p.1≠kS:=λp hp=>Yd (ZF.mp hp).2
theorem kC{base h h2:û}(hbk:∀b o,base.get? b=some o->h.get? b=some o)(F:Fr base L h2 m)(N:News base L h2 ((kS,o')::jS base h L kS)):∀b u,b≠L->b∉[kS]->h.get? b=some u->h2.get? b=some u:=λb u hL hk e=>by
 cases q:base.get? b with
 |none=>exact(N (b,u) (.tail _ (ZF.mpr #[fh e hL q,decide_eq_true (λz=>hk (Zi.mpr z))]))).1
 |some o =>have e':=hbk b o q;rw[e]at e';cases e';exact F.keep b u q
structure SK(X:Cx)(Pr:Pc)(Z:St)(H1:Hp)(m:Pe)(kS D:Pg)(e1:Ë)(ks:List Pn)(as:ń)(e:Ë)(H:Hp)(s:Ph):Prop where
 I:Inv X Pr Z H s
 sm:Same H1 H
 fk:cE X Pr H kS
 fd:cE X Pr H D
 bk:X.base.get? kS=none
 bd:X.base.get? D=none
 hk:s.heap.get? kS=some (seqObj "list" (List.toArray (as.map Value.ref)) e)
 hd:s.heap.get? D=some (seqObj "list" #[] e1)
 ns:s.heap.Ns Á m
 keys:∀(i:Ë) (a:Pg) (k:Pn),as[i]?=some a->ks[i]?=some k->H a=some (.tup (k.map V.int))
#check 0
theorem xR:∀{a b:Pn},HT.lexLt a b=true->HT.lexLt b a=false
 | [],[],h=>by cases h
 | [],_::_,_=>rfl
 |_::_,[],h=>by cases h
 |x::a,y::b,h=>by
  rw[HT.lexLt_cons]at h ⊢;by_cases e:x=y
  .subst e;rw[Pb rfl]at h ⊢;exact xR h
  .rw[Pa e]at h;rw[Pa (λz=>e z.symm)];have:=Yd h;exact decide_eq_false ∅
theorem C6:∀{a b c:Pn},HT.lexLt b a=false->HT.lexLt c b=false->HT.lexLt c a=false
 | [],[],[],_,_=>rfl
 | [],[],_::_,_,_=>rfl
 | [],_::_,[],_,h=>by cases h
 | [],_::_,_::_,_,_=>rfl
 |_::_,[],_,h,_=>by cases h
 |_::_,_::_,[],_,h=>by cases h
 |x::a,y::b,z::c,h,k=>by
  rw[HT.lexLt_cons]at h k ⊢;by_cases e:y=x
  .subst e;rw[Pb rfl]at h;by_cases e2:z=y
   .rw[Pb e2]at k ⊢;exact C6 h k
   .rw[Pa e2]at k ⊢;exact k
  .rw[Pa e]at h;have h':=Y3 h;by_cases e2:z=y
   .rw[Pa ∅];exact decide_eq_false ∅
   .rw[Pa e2]at k;have k':=Y3 k;rw[Pa ∅];exact decide_eq_false ∅
theorem rX(ks:List Pn):LtOk (λi j=>HT.lexLt (ks.getD i []) (ks.getD j [])):=#[xR,C6]
section
variable{X:Cx}
def wX(X:Cx)(l:ń):Cx:={ X with ex:=l++ı }
structure ExOk(X:Cx)(b:Pg):Prop where
 old:b∈ı\/X.s₀.heap.get? b=none
 loc:b≠Á
 cel:∀x c,X.env.cells.lookup x=some c->c≠b
 bas:X.base.get? b=none
 fs:b∉X.fs
theorem Inv.widen(I:É)(hl:∀b∈l,ExOk X b):Inv œ Pr Z H s:=by
 have ok:(wX X l).Ok:=by
  have o:=I.ok;refine#[o.mod,o.kind,o.glob,o.blt,o.above,o.inj,o.has,o.cab,o.hd,o.frames,o.stk,λb hb=>?_,o.bs,o.bsz,λb ob hb z=>?_,λb hb=>?_,o.funs,o.frf]
  .rcases ZC.mp hb with h|h
   .exact#[(hl b h).loc,(hl b h).cel]
   .exact o.exf b h
  .rcases ZC.mp z with h|h
   .have hb':X.base.get? b=some ob:=hb;rw[(hl b h).bas]at hb';cases hb'
   .exact o.noex b ob hb h
  .rcases ZC.mp hb with h|h
   .exact(hl b h).fs
   .exact o.exfs b h
 have ne:∀{b:Pg},b∉l++ı->b∉ı:=λh z=>h (ZP _ z);have u:=I.base;exact#[ok,I.os,I.bare,#[λb o e n hb hx=>u.keep b o e n hb Ľ,λb o e n hb hx=>u.slot b o e n hb Ľ,λb o e n hx=>u.free b o e n Ľ,λb o e hx=>u.there b o e Ľ,u.tups,u.frzs,u.tbls],I.loc,I.cell,I.free,I.freeC,I.pin,I.hok,I.len]
theorem Inv.narrow(I:Inv œ Pr Z H s)(ok:X.Ok)(hl:∀b∈l,b∈ı\/X.s₀.heap.get? b=none):Inv X Pr Z H s:=by
 have ne:∀{b:Pg} {o:Obj},X.s₀.heap.get? b=some o->b∉ı->b∉l++ı:=fun{b o} e h z=>by
  rcases ZC.mp z with z|z
  .rcases hl b z with y|y
   .exact h y
   .rw[y]at e;cases e
  .exact h z
 have u:=I.base;exact#[ok,I.os,I.bare,#[λb o e n hb hx=>u.keep b o e n hb ě,λb o e n hb hx=>u.slot b o e n hb ě,λb o e n hx=>u.free b o e n ě,λb o e hx=>u.there b o e ě,u.tups,u.frzs,u.tbls],I.loc,I.cell,I.free,I.freeC,I.pin,I.hok,I.len]
theorem Inv.exOk(I:É)(hb:Ĺ)(hL:b≠Á)(h0:X.base.get? b=none):ExOk X b:=by
 have old:b∈ı\/X.s₀.heap.get? b=none:=by
  by_cases hx:b∈ı
  .exact .inl hx
  .cases e:X.s₀.heap.get? b with
   |none=>exact .inr rfl
   |some o =>exists[o',e'],I.base.there b o e hx;rw[hb]at e';cases e'
 refine#[old,hL,λx c e z=>?_,h0,λz=>?_]
 .exists[v,o,ho,_],I.cell x c e;rw[z,hb]at ho;cases ho
 .exists[_,o,ho,_],I.ok.funs.mem z;rcases old with y|y
  .exact I.ok.exfs b y z
  .rw[y]at ho;cases ho
theorem Inv.fpW(I:É)(hm:b∈l)(x:ExOk X b)(hb:Ĺ):cE œ Pr H b:=by refine#[none_of I hb,x.loc,x.fs,.inl (List.mem_append_left _ hm),x.cel,λp hp z=>?_];have:=(I.pin p hp).1;rw[z,hb]at this;cases this
#check 0
section
variable{X:Cx}{pos:Pos}
theorem qg:QE X (.Dict [] [] pos) Ed:=#[Fz]
theorem bo(hu:Æ)(ho:ă)(hi:Ą)(hs:Eu i:=by intro _ _;rfl):QE X (.Subscript o i pos) (G3 td ty):=#[IJ ∅ ho.h hi.h hs]
theorem GS(hu:Æ)(hi:Ą)(ho:ă)(hm:behindInMarks .In o=false:=by with_unfolding_all rfl):QE X Č ų:=#[KZ Ĵ hm]
theorem BP(hu:Æ)(hi:Ą)(ho:ă)(hm:behindInMarks .In o=false:=by with_unfolding_all rfl):QT X Č (tB ų):=#[DO Ĵ hm]
theorem nW(hu:Æ)(hi:Ą)(ho:ă)(hm:behindInMarks .NotIn o=false:=by with_unfolding_all rfl):QT X (.Compare i [.NotIn] [o] pos) (tB (Av ty td)):=#[DO (Dz ∅ hi.h ho.h) hm]
theorem eE(hu:Æ)(ho:ă)(hi:Ą)(hv:QE X value tv)(hs:swapsWith value (some (.Subscript o i pos')) pos.line ã=pure false:=by rfl):QS X (.Assign [.Subscript o i pos'] value pos) (GX td ty tv):=#[IZ ∅ ho.h hi.h hv.h hs]
#check 0
def Itv(K:Qa)(a:Pg)(xs:Ħ):It:=#[λi H=>i<À/\SqL K H a xs,λi H x H'=>H'=H/\ĉ[i]?=some x,λi H=>i=À/\SqL K H a xs]
theorem Gm{K:Qa}(a it:Pg):Turn P w K tg Ţ [it] it (λi h=>h.IsRevIter it a ((À:Int)-1-(i:Ë))) where
 mem:=Zi.mpr rfl
 obj:=λi h st b hb=>by obtain rfl:b=it:=Zi.mp hb;exists[o,e,c,d],st;exact#[o,e,λv z=>by rw[d]at z;cases z]
 keep:=λi h h' st k=>st.at λo e=>k it ģ o e
 item:=by
  intro X hP hw hK hc i Pr s Z H E I hf st hg;subst hP hw hK;exists[hi,hq],hg;exists[its,rv,p,hz],I.list hq;have hl:=Ž;have hx:xs[À-1-i]?=some xs[À-1-i]:=Zf ∅;exists[u,hu,ru],rv.get hx;exists[f0,f1,f2,f3,f4,f5],hf it ģ;have st1:s.heap.IsRevIter it a ö:=by rw[show ö=(À:Int)-1-(i:Ë) by omega];exact st
  refine wpAny_pyNext_rev_item st1 p.isList (x:=u) (by simpa using hu) λh' st' sb=>?_;have I1:Inv X Pr Z H { s with heap:=h' }:=I.turned (t':=ò) (λb o hb e=>(sb.2 b hb).trans e) f0 f1 f3 f4 f5;exists[o,e,c,d],id st';rw[show ö-1=(À:Int)-1-((i+1:Nat):Int) by omega]at st';exact#[u,rfl,wj (s:={ s with heap:=h' }) e c d ⋯ #[_,H,I1,ru,#[rfl,by rw[List.getElem?_reverse hi];exact hx],st',λb hb=>(hf b hb).1]]
 done:=by intro X hP hw hK hc i Pr s Z H E I hf st hg;subst hP hw hK;exists[rfl,hq],hg;exists[f0,f1,f2,f3,f4,f5],hf it ģ;rw[show(À:Int)-1-((À:Ë):Int)=-1 by omega]at st;exact wpAny_pyNext_rev_end ġ st λh' eb=>#[rfl,I.turned (t':=ò) (λb o hb e=>eb b o hb e) f0 f1 f3 f4 f5]
 self:=λ_ _ _ _ _ st h=>wpAny_pyIter_revIter st h
def Kh(K:Qa)(ta:TA):TI:=λZ H R=>ta Z H λvs H1=>∃a xs,vs=[.ref a]/\SqL K H1 a xs/\R Ţ H1
section
variable{X:Cx}
theorem EA:bootBuiltins "reversed" = some (.type "reversed"):=⋯
theorem Ld(hg:Gl X "reversed")(hm:Ĩ)(ha:ū)(n1:aX e1=true):PI X tg ç Ŵ:=by
 intro Pr s Z H R I h;refine Call_ (iC I hg hm EA Í);exists[vs,H1,I1,r1,q1],hz9;exists[a,xs,e,hx,q],q1;subst e;exists[ua,rfl,ra],eU r1;cases ra;exists[its,rv,pl,hz],I1.list hx;have hl:=Ž;refine call_reversed_list Ź (wpAny_pyIter_revIter #[_,Zm _ rfl,rfl,rfl] ?_);refine#[Ã,[Ã],_,_,H1,rfl,I1.kept (t':=Ş) λb o e=>Za _ e,Gm (xs:=xs) a _,#[_,Zm _ rfl,rfl,?_],λb hb=>?_,q]
 .show Data.fields (List.toArray [.ref a,rawInt ((ß:Int)-1)])=_;rw[Zl,<-hl];simp
 .obtain rfl:=Zi.mp hb;exact I1.fpOk Õ (I1.hok.fresh Õ)
theorem GI(hm:Ĩ)(ha:Ŭ)(hg:Gl X "reversed":=by rfl)(n1:aX e1=true:=by rfl):QI X tg ç Ŵ:=#[Ld hg hm ha.h n1]
#check 0
end
open Classical in
noncomputable def jY(h:Heap)(dx:Qb)(u:Pi):Bool:=decide (∃d as,Reads h u d as/\PyData.canLay0 d=true/\PyData.eqv d dx=true)
open Classical in
mutual
#check#[(List.toArray [.ref h.objs.size,.none,.none,.none,.bool false,.none]),(λxs H Q=>∃p kvs,xs=[.ref p]/\Rd H p (.dT kvs)/\∀l ks,H l=none->dO H kvs ks->Q (.ref l) (upd H l (.lst ks))),xs.length,hit.typeIs,(λxs H Q=>∃(p:Pg) (bs:List Bool),xs=[.ref p]/\SqL X.K H p (bs.map V.bl)/\Q (.bl (bs.any id)) H),(ZZ Yl Ã PySem.F.entry_dict_keyiterator_next ?_ (PySem.F.args_dict_keyiterator_next_1 _)),(xs.map fun(x:List Key×Pg×Pi)=>V.ref x.2.1),(h.get? C=some (excClassObj nm q C N bs bm hdct sn sub ab col dd k0 k1 k2 k3 k5 newId)),s.heap.objs.size,(model prog w),(Value.ref d==Value.none),(jY s.heap dx),(.Attribute o m apos),es.size,(Obj.mapFields (·.setIfInBounds 1 (rawInt ((i:Int)+1)))),(λw hw=>uX I hu h1 rx h2 r s1 s2 w (by simpa using hw)),(DRaw s.heap d es ep),(by simp),(.ref C),(by have:=hr.un;show X.A.units+_+64<_;omega),(MFn X.prog X.w X.K X.mg X.base k C m ps sp),(backToKw pos (keywordEach [] X.env)),(λi v=>∃e,es[i]?=some e/\v=e.key),0,(compareOp .NotIn),(call (.ref fI) (.ref e::rest)),(Zb ?_),(ExcBaseFacts B newId initId bmB),X.env,h.objs.size,(mN "__init__" = some (.ref fI)),(X.calm=true),(Array DictEntry),(if Ê=true then _ else _),(.Call Ì (e::es) [] pos),(wpAny_fieldsOf ho hd ?_),(Room k X.A),(A.handled=none),hm.type,rest.toArray,(.ref it),(λd=>PyData.eqv d dx),(λh=>hb (by simp[h])),(oI.cls=.type "function"),(X.A.in1.units+64<cLine),(.Call Ì [] [] pos),((d==sysModules)=false),(rest.length<=sizeLine),(getMethod ov m pl),(Option Pi->Ph->Prop),(List V),d.canLay0,pl.isList,ys.length,its.toArray.size,0,(.builtin "any"),(YN ho hd Ñ ?_),(h.get? fI=some oI),its.toArray.any,(k+1),(compareOp .In),(Yk hod hdd ?_),(Yx hod hdd ?_),(QE X o ta),(OwnTail h bmB bm),(yj X.K false),(by size_fits),(.type "list"),(Nat),(.ref e),(Ze _),(yj X.K true),(DRaw h d es ep),keys.length,apos.atName,(pyNext è),(kp _ _ hC),s.heap,h.push,bs.length,(jY h dx),dx.depth,hm.lt]
theorem tQ(r:Reads h u d as)(hl:ó=true):jY h dx u=PyData.eqv d dx:=by
 unfold jY;cases e:PyData.eqv d dx with
 |true=>exact decide_eq_true #[d,as,r,hl,e]
 |false =>refine decide_eq_false ?_;rintro⟨d',as',r',l',e'⟩;rw[SeqAt.Reads.unique d d' u as as' hl r r',e']at e;cases e
section
theorem jH(ok:HOk P w H h):∀{ds:List Qb} {xs:ò} {us:Pf},DtAll H ds xs->Vals xs us->PyData.canLayAll0 ds=true->∀dx:Qb,us.any đ=ds.any é/\us.countP đ=ds.countP é/\∀u∈us,∃d as,d∈ds/\Reads h u d as/\ó=true
 | [],xs,us,hd,r,_,dx=>by
  have e:xs=[]:=by simpa only[DtAll]using hd
  subst e;cases r;exact#[rfl,rfl,λu hu=>nomatch hu]
 |d::ds,xs,us,hd,r,hl,dx=>by
  have e:∃y ys,xs=y::ys/\Dt H d y/\DtAll H ds ys:=by simpa only[DtAll]using hd
  exists[y,ys,rfl,h1,h2],e;cases r with
  |cons r1 r2 =>
   have hl':ó=true/\PyData.canLayAll0 ds=true:=by simpa[PyData.canLayAll0]using hl
   exists[as,q1],Dt.reads ok d y _ h1 r1;exists[i1,i2,i3],jH ok h2 r2 hl'.2 dx;refine#[by rw[Y7,Y7,tQ q1 hl'.1,i1],by rw[List.countP_cons,List.countP_cons,tQ q1 hl'.1,i2],λu hu=>?_];rcases Zg.mp hu with rfl|hu
   .exact#[d,as,by simp,q1,hl'.1]
   .exists[d',as',m,z],i3 u hu;exact#[d',as',by simp[m],z]
#check 0
section
variable{X:Cx}
def yj(K:Qa)(neg:Bool):R2:=λx y H Q=>∃(p:Pg) (xs:ò) (dx:Qb) (ds:List Qb),y=.ref p/\SqL K H p xs/\Dt H dx x/\DtAll H ds xs/\SeqAt.shaped dx=true/\PyData.canLayAll0 ds=true/\Q (.bl (if neg then !(ds.any λd=>PyData.eqv d dx)else ds.any λd=>PyData.eqv d dx)) H
theorem uX{A:Pl}(I:Inv X Pr Z H s)(hu:A.units+64<cLine)(h1:Dt H dx x)(rx:RelV x v)(h2:DtAll H ds xs)(r:Vals xs us)(s1:SeqAt.shaped dx=true)(s2:PyData.canLayAll0 ds=true):∀u∈us,SeqAt.EqAt A s u v (jY Ď dx u):=λu hu'=>by exists[_,_,z],jH I.hok h2 r s2 dx;exists[d,as,_,q1,q2],z u hu';exists[bs,q3],Dt.reads I.hok dx x v h1 rx;rw[tQ q1 q2];refine SeqAt.eqAt_reads d dx A s u v as bs q1 q3 q2 (SeqAt.canLay_of_shaped s1) ?_;have d1:=SeqAt.depth_of_shaped s1;have d2:min d.depth Ē<=Ē:=Nat.min_le_right _ _;omega
theorem KK(hu:ì):OpR X ý Ă:=by intro Pr s Z H x y v u Q I rx ry h;exists[p,xs,dx,ds,rfl,hq,h1,h2,s1,s2,q],h;cases ry;exists[its,r,pl,hz],I.list hq;refine SeqAt.in_listAt Ë ô Ï #[.bl _,H,I,rfl,?_];rw[show û Ë=its.any Ë by simp,(jH I.hok h2 r s2 dx).1];exact q
theorem Dx(hu:ì):OpR X Ø Ĉ:=by intro Pr s Z H x y v u Q I rx ry h;exists[p,xs,dx,ds,rfl,hq,h1,h2,s1,s2,q],h;cases ry;exists[its,r,pl,hz],I.list hq;refine SeqAt.notIn_listAt Ë ô Ï #[.bl _,H,I,rfl,?_];rw[show û Ë=its.any Ë by simp,(jH I.hok h2 r s2 dx).1];exact q
theorem Mn{k:ą}(hr:ä):QOp X ý Ă:=#[KK Ó]
theorem Fk{k:ą}(hr:ä):QOp X Ø Ĉ:=#[Dx Ó]
#check 0
def AE(K:Qa)(a b:Pg)(xs ys:ò):It :=
 #[λi H=>i<Â/\SqL K H a xs/\SqL K H b ys,λi H x H'=>∃T p q,H T=none/\xs[i]?=some p/\ys[i]?=some q/\x=.ref T/\H'=upd H T (.tup [p,q]),λi H=>i=Â/\SqL K H a xs/\SqL K H b ys]
def Me(K:Qa)(ta:TA):TI:=λZ H R=>ta Z H λvs H1=>∃a b xs ys,vs=[.ref a,.ref b]/\SqL K H1 a xs/\SqL K H1 b ys/\Â=õ/\R (AE K a b xs ys) H1
theorem EV{K:Qa}{a b:Pg}{xs ys:ò}{i j:ą}{tb:TS}{D:Ends}{Z:St}{H:Hp}(Pv:Nat->St->Hp->Prop)(h0:Pv 0 Z H)(ha:∀i Z H,i<=Â->Pv i Z H->SqL K H a xs)(hb:∀i Z H,i<=Â->Pv i Z H->SqL K H b ys)(hl:Â=õ)(hs:∀k x y Z H,xs[k]?=some x->ys[k]?=some y->Pv k Z H->∀T,H T=none->tb { D with nx:=Pv ü,ct:=Pv ü,bk:=D.nx } ((Z.set i (some x)).set j (some y)) (upd H T (.tup [x,y])))(hd:∀Z H,Pv Â Z H->D.nx Z H) :
  ∃W:Nat->Nat->St->Hp->Prop,(∃m,W 0 m Z H)/\∀k m Z H,W k m Z H ->
   ((AE K a b xs ys).stop k H/\D.nx Z H)\/((AE K a b xs ys).go k H/\∃N:St->Hp->Prop,(∀σ' H',N σ' H'->∃m',m'<m/\W ü m' σ' H')/\∀x H',(AE K a b xs ys).yld k H x H'->oA K 2 (gU (dA i) (gU (dA j) oy)) x Z H' λσ2 H2=>tb { D with nx:=N,ct:=N,bk:=D.nx } σ2 H2):=by
 refine#[λk m Z H=>m=Â-k/\k<=Â/\Pv k Z H,#[Â,by simp,ZH _,h0],?_];rintro k m Z H ⟨rfl,hk,pv⟩;by_cases hlt:k<Â
 .refine .inr #[#[hlt,ha k Z H hk pv,hb k Z H hk pv],Pv ü,λσ' H' z=>#[Â-ü,∅,rfl,hlt,z],λx H' y=>?_];exists[T,p,q,hT,hx,hy,rfl,rfl],y;exact#[T,[p,q],rfl,Pt ac,rfl,p,[q],rfl,q,[],rfl,rfl,hs k p q Z H hx hy pv T hT]
 .have e:k=Â:=∅
  subst e;exact .inl #[#[rfl,ha _ Z H hk pv,hb _ Z H hk pv],hd Z H pv]
section
variable{X:Cx}
structure QPs(X:Cx)(pos:Pos)(keys:List (Option Pq))(values:List Pq)(trs:List (TE×TE)):Prop where
 h:PPs X pos keys values trs
theorem Nz:QPs X pos [] [] []:=#[IY]
theorem BD{k v:Pq}(hk:QE X k tk)(hv:QE X v tv)(hr:QPs X pos ks vs trs):QPs X pos (some k::ks) (v::vs) ((tk,tv)::trs):=#[FK hk.h hv.h hr.h]
theorem Ln(h:QPs X pos keys values trs)(hall:keys.all (·.isSome)=true:=by rfl)(hl:Ċ=values.length:=by rfl)(h0:keys≠[]:=by simp)(h15:Ċ<=15:=by decide):QE X (.Dict keys values pos) (G4 trs):=#[IK h.h hall hl h0 h15]
theorem Fm{K:Qa}(hK:X.K=K):QOp X Ø (rIn K true):=by subst hK;exact#[yd]
#check 0
section
variable{X:Cx}
theorem ED(hc:ß):fZ X ø Ä:=by
 intro Pr s Z H xs us Q I r h;exists[p,bs,rfl,hq,q],h;exists[u,rfl,rx],eU r;cases rx;exists[its,rv,pl,hz],I.list hq;have hl:=ô;have hlt:p<È:=by exists[_,e,_],hl;exact Zs e
 have hh:=I.ok.hd hc;have hlen:Đ=its.length:=by rw[<-rv.length,Zd]
 refine call_any_walk (wpAny_pyIter_list hl ?_);refine#[È,[È,p],[È],ö,_,_,λi=>(bs[i]?).getD false,rfl,Walks.list (A:=X.A.in1) hh _ p (Zy hlt) its.toArray,
  #[#[_,Zm _ rfl,rfl,rfl],hl.push _],λi v s' Q' E' hP hQ=>?_,λh' tk hk=>?_]
 .have hv:its[i]?=some v:=by simpa using hP
  have hi:i<Đ:=by rw[hlen];exact(Zz.mp hv).1
  exists[u,hu,ru],rv.get (i:=i) (x:=.bl bs[i]) (by rw[Zx,Zf hi];rfl);rw[hv]at hu;cases hu;cases ru;have hQ':Q' ((bs[i]?).getD false) s':=hQ;rw[Zf hi]at hQ';exact wpAny_truthy_bool hQ'
 .have e:((List.range ö).any λi=>(bs[i]?).getD false)=bs.any id:=by rw[Zl,<-hlen];exact LSm.range_any bs
  rw[e];exact#[.bl _,H,I.kept (t':=tk) (LSm.kept_iter hk),rfl,q]
theorem L5(hc:ß):QCall X ø Ä:=#[ED hc]
#check 0
structure MFn(P:Pj)(w:Pk)(K:Qa)(mg:Pe)(base:Heap)(k:ą)(C:Pg)(m:Str)(ps:List Str)(sp:Sp):Prop where
 cl:Cls K C
 ex:∃f fd,FnOk P w K mg base CX0 k f fd ps sp/\Meth K C m f/\Binds K fd ps []
structure MkFn(P:Pj)(w:Pk)(K:Qa)(mg:Pe)(base:Heap)(k:ą)(C:Pg)(x:Str)(ps:List Str)(sp:Sp):Prop where
 cl:Cls K C
 mgC:mg x=some Ò
 ex:∃f fd,FnOk P w K mg base CX0 k f fd ps sp/\Mk K C f/\Binds K fd ps []
section
variable{X:Cx}{k:ą}{pos:Pos}{e:Pq}{t:TA}
theorem cZ(he:QE X e ta)(hb:attributeBase e f Ü (eval e Ü)=eval e Ü:=by rfl):QE X (.Attribute e f pos) (Gg X.K ta f):=#[K0 he.h hb]
theorem GY(ha:Ā)(hv:QE X value tv)(hs:swapsWith value (some (.Attribute o f pos')) pos.line Ü=pure false:=by rfl):QS X (.Assign [.Attribute o f pos'] value pos) (LA X.K ta tv f):=#[Lf ha.h hv.h hs]
theorem eC{pl:Sem Bool}(F:Ô)(hr:ä)(he:Ā)(ha:QA X (e::es) t)(hs:(e::es).all aX=true:=by rfl)(ht:eval â Ü=(do
   let ov ←eval o Ü
   standAt ċ
   let(f,first) ←holding [ov] ð
   callWith pos f first (backTo pos (starEach (e::es) Ü)) Õ):=by rfl) :
  QE X â (sV C m sp [] E0 ta t):=by
 exists[f,fd,G,hm,b],F.ex;rw[YU,ZN]at hs;exact#[Ae (pl:=pl) he.h F.cl hm G hr b .nil lH ha.h (bf hs.1) (cj hs.2) ht]
theorem mD{pl:Sem Bool}(F:Ô)(hr:ä)(he:Ā)(ht:eval í Ü=(do
   let ov ←eval o Ü
   standAt ċ
   let(f,first) ←holding [ov] ð
   callWith pos f first (backTo pos (starEach [] Ü)) Õ):=by rfl) :
  QE X í (sV C m sp [] E0 ta jE):=by
 exists[f,fd,G,hm,b],F.ex;exact#[FD (pl:=pl) he.h F.cl hm G hr b .nil lH ht]
theorem uk(F:MkFn X.prog X.w X.K X.mg X.base k C x ps sp)(hr:Room ü X.A)(hg:Gl X x:=by rfl)(hdb:(x==("__debug__":Str))=false:=by decide):QE X (.Call (.Name x p) [] [] pos) (G9 C sp [] E0 jE):=by exists[f,fd,G,hm,b],F.ex;exact#[FB hm G hr hg F.mgC b .nil lH hdb]
#check 0
def DRaw(h:Heap)(d:Pg)(es:à)(ep:ą):Prop:=∃o,h.get? d=some o/\o.ExactDict/\o.data=.dict es ep
theorem DRaw.type{s:Ph}{ep:ą}(x:Ð):s.TypeIs (.ref d) "dict":=let⟨o,ho,hc,_⟩:=x;#[o,ho,hc.1]
theorem DRaw.at'{h h':Heap}{ep:ą}(x:ĉ)(e:∀o,h.get? d=some o->h'.get? d=some o):DRaw h' d es ep:=let⟨o,ho,r⟩:=x;#[o,e o ho,r]
theorem DRaw.lt{ep:ą}(x:ĉ):d<Ý:=let⟨_,ho,_⟩:=x;Zs ho
section
variable{A:Pl}{s:Ph}{d:Pg}{es:à}{ep i:ą}
theorem yl{Q:Pd}(hd:î)(hm:Ð)(hQ:Q (.ref È) { s with heap:=s.heap.push { cls:=.type "dict_keyiterator",data:=.fields (List.toArray [.ref d,.int 0 0,.int Í 0,.int ep 0]) } }) :
  wpAny É A (pyIter (.ref d)) Q E s:=by
 exists[o,ho,hc,hdat],id hm;refine wpAny_pyIter_slot æ PySem.F.slot_dict_iter (ZZ PySem.F.slot_dict_iter æ PySem.F.entry_dict_iter ?_ (PySem.F.args_dict_iter_1 _));unfold Builtin.«dict.__iter__»;refine z9 ?_;unfold Builtin.Dict.dictSlotNone;refine z9 (wpAny_notOrdered_dict æ ?_);show wpAny _ _ (pure (Value.ref d)) _ _ s;refine Zb ?_;show wpAny _ _ (Builtin.Dict.showsAll d >>= _) _ _ s;unfold Builtin.Dict.showsAll;rw[Pa (by rw[hd];exact Zt)];refine z9 Ú;refine z9 (Yk ho hdat ?_);refine z9 (Yx ho hdat ?_);refine z9 (ZS (Zb #[_,rfl,"dict_keyiterator",_,#[_,Zm _ rfl,rfl],Yl.lookup,?_]));simpa[rawInt]using hQ
theorem yk{Q:ñ}(hit:s.heap.IsKeyIter it d i Í ep)(hm:Ð)(hx:i<Í)(hQ:∀h',h'.IsKeyIter it d (i+1) Í ep->Heap.SameBut it Ď h'->Q (some es[i].key) { s with heap:=h' }):wpAny É A Č Q E s:=by
 exists[o,ho,hc,hd],id hit;exists[od,hod,hcd,hdd],id hm;unfold pyNext;refine z9 (YV (Z4 (name:=Str.ofString "__next__") Ã Yl
  Å))
 refine z9 Ú;refine z9 ?_;refine z9 ?_
 first|refine z9 (YW Ã (Zb ?_))|refine z9 (wpAny_typeNameOf_keyiter Ã (Zb ?_))
 refine z9 ã;have hown:Builtin.Dict_items.ownsTuple "dict_keyiterator" = false:=⋯
 simp only[hown,Bool.false_eq_true,if_false];show wpAny _ _ á _ _ s;rw[Pa (show¬(Ê=true)from Zt)];refine z9 Ú;refine z9 þ;rw[Pa Ñ];refine z9 Ú;refine z9 ÿ;rw[Pa Ñ];refine Zb ?_;simp only[show¬((i:Int)<0)from by omega,if_false,YS,y8 hx];refine z9 ?_
 first|refine z9 (YW Ã (Zb ?_))|refine z9 (wpAny_typeNameOf_keyiter Ã (Zb ?_))
 refine z9 (wpAny_isOneOf_keyiter Ã ?_);show wpAny _ _ (setField è 1 (rawInt ((i:Int)+1)) >>= _) _ _ s;refine z9 ù;have hit':(s.heap.update it Î).IsKeyIter it d (i+1) Í ep :=
  #[_,Yc _ ho (Obj.isFreed_of_fields (Yo hd _)),(Obj.cls_mapFields ..).trans hc,by rw[Yo hd];simp[rawInt]]
 refine z9 (ZU ?_);refine z9 (wpAny_isOneOf_keyiter (s:={ s with heap:=s.heap.update it Î }) hit'.typeIs ?_);show wpAny _ _ (pure es[i].key) _ _ _;exact Zb (Zb #[_,rfl,Zb (hQ _ hit' (Z1 ..))])
theorem Aj{Q:ñ}(hh:å)(hit:s.heap.IsKeyIter it d Í Í ep)(hm:Ð)(hQ:∀h',Heap.ExtBut it Ď h'->Q none { s with heap:=h' }) :
  wpAny É A Č Q E s:=by
 exists[o,ho,hc,hd],id hit;exists[od,hod,hcd,hdd],id hm;unfold pyNext;refine z9 (YV (Z4 (name:=Str.ofString "__next__") Ã Yl
  Å))
 refine z9 Ú;refine z9 ?_;refine z9 ?_
 first|refine z9 (YW Ã (Zb ?_))|refine z9 (wpAny_typeNameOf_keyiter Ã (Zb ?_))
 refine z9 ã;have hown:Builtin.Dict_items.ownsTuple "dict_keyiterator" = false:=⋯
 simp only[hown,Bool.false_eq_true,if_false];show wpAny _ _ á _ _ s;rw[Pa (show¬(Ê=true)from Zt)];refine z9 Ú;refine z9 þ;rw[Pa Ñ];refine z9 Ú;refine z9 ÿ;rw[Pa Ñ];refine Zb ?_;simp only[show¬((Í:Int)<0)from by omega,if_false,YS,Array.getElem?_eq_none ć];refine z9 ?_
 first|refine z9 (YW Ã (Zb ?_))|refine z9 (wpAny_typeNameOf_keyiter Ã (Zb ?_))
 show wpAny _ _ (setField è 0 .none >>= _) _ _ s;refine z9 ù;show wpAny _ _ (newExc (.type "StopIteration") [] >>= _) _ _ _;refine z9 ?_;simp only[newExc,newTuple];refine z9 (ZS ?_ ă);refine z9 (m:=firstArgMember _ _) (wpAny_of_eq (a:=Value.none) (by first|rfl|(simp only[firstArgMember];rfl)) ?_);refine ZS ?_ ă;simp only[raiseNew];refine z9 (wpAny_handled ?_);rw[show A.in1.handled=none from hh];refine z9 (Zb (wpAny_throw ?_));refine z9 (wpAny_isInstance (T:="StopIteration") (b:=true) #[_,Zm _ rfl,rfl] isSubtype_stop ?_);exact Zb (hQ _ (((Z1 ..).extBut.push _).push _))
theorem DV(hh:å)(I d:Pg)(hne:d≠I)(es:à)(ep:ą) :
  Walks prog w A I [I,d] [I] Í Ö (λi h=>h.IsKeyIter I d i Í ep/\DRaw h d es ep) where
 sub:=λb hb=>by simp at hb;simp[hb]
 frame:=λ_ _ _ st hk=>#[st.1.at λo e=>hk I Ñ o e,st.2.at' λo e=>hk d Ñ o e]
 item:=λi s Q E hi st hQ=>yk st.1 st.2 hi λh' hit' hs'=>hQ _ h' s.toks #[es[i],by simp[hi],rfl] #[hit',st.2.at' λo e=>hs'.extBut d o hne e] λb o hb e=>hs'.extBut b o ê e
 done:=λs Q E st hQ=>Aj hh st.1 st.2 λh' he'=>hQ h' s.toks λb o hb e=>he' b o ê e
 self:=λ_ _ _ _ st hQ=>wpAny_pyIter_keyiter st.1 hQ
theorem Ak(lo:î):KdlSrc prog w "dict" d d Í Ö (λh=>DRaw h d es ep) where
 type:=λ_ hm=>æ
 there:=λ_ hm=>#[ē,ē]
 keep:=λ_ _ hm hk=>hm.at' λo e=>hk d (.inl rfl) o e
 notList:=⋯
 notTuple:=⋯
 hint:=λ_ _ _ _ hm hq=>kdl_hint_dict æ hq
 iter:=λ_ _ hh hm=>#[_,_,(λ_ _ hq=>yl lo hm hq),DV hh _ d (Zy ē) es ep,#[#[_,Zm _ rfl,rfl,rfl],hm.at' λo e=>Za _ e]]
#check 0
def dO(H:Hp)(kvs:List (List Key×V))(ks:ò):Prop:=Paired (fun(p:List Key×V) (v:V)=>∃b,v=V.ref b/\H b=some (.tup (p.1.map kV))) kvs ks
theorem rS(r:KT H kvs xs):dO H kvs Æ:=by
 unfold dO;induction r with
 |nil=>exact .nil
 |cons h _ ih=>exact .cons #[_,rfl,h.2.1] ih
section
variable{X:Cx}
theorem AW(hc:ß):fZ X Ą Á:=by
 intro Pr s Z H xs us Q I r h;exists[p,kvs,rfl,hq,q],h;exists[u,rfl,rx],eU r;cases rx;exists[z,hd,xs,rel,o,es,ep,h1,h2,h3,h4,_,_],lj I.hok hq;have hsz:Í=Â:=size_of_entries h4;have hkl:kvs.length=Â:=Zw rel;refine kdl_call (Ak (es:=es) (ep:=ep) hd) (I.ok.hd hc) #[o,h1,h2,h3] ∅ λh' tk acc' c' kp e hacc=>?_;have ev:Vals Æ acc'.toList:=by
  have gen:∀(vs:Pf) (ys:List (List Key×Pg×Pi)),vs.length=õ->(∀(j:ą) (v:Pi),vs[j]?=some v->∃x:List Key×Pg×Pi,ys[j]?=some x/\v=Value.ref x.2.1)->Vals (ys.map fun(x:List Key×Pg×Pi)=>V.ref x.2.1) vs:=by
   intro vs;induction vs with
   |nil =>
    intro ys hl _;cases ys with
    |nil=>exact .nil
    |cons _ _=>cases hl
   |cons v vs ih =>
    intro ys hl hv;cases ys with
    |nil=>cases hl
    |cons y ys =>exists[x,e1,e2],hv 0 v rfl;cases e1;exact .cons e2 (ih ys (by simpa using hl) λj v' e'=>hv (j+1) v' (by simpa using e'))
  refine gen _ _ (by rw[ZM,hacc.1,hsz]) λj v e'=>?_;exists[en,e1,e2],hacc.2 j v (by rw[<-YA];exact e');rw[entry_at h4]at e1;exists[x,e3,e4],ZK.mp e1;refine#[x,e3,?_];rw[e2,<-e4];rfl
 refine#[.ref È,_,I.laid (t':=tk) kp ć (show ObjOk X.prog X.w _ h' _ (.lst Æ)from#[by rw[Zd];omega,acc'.toList,c',ev,by simpa using e]),rfl,q _ _ (I.hok.fresh ć) (rS rel)]
theorem zw(hc:ß):QCall X Ą Á:=#[AW hc]
#check 0
def MQ(t:TS):TS:=λD Z H=>∃Pv:St->Hp->Prop,t { D with nx:=Pv } Z H/\∀σ' H',Pv σ' H'->D.nx σ' H'
theorem mI{st:Stmt}{t:TS}(h:QS X st t):QS X st (MQ t):=#[λPr s Z H D I ⟨Pv,h1,h2⟩=>thn (h.h Pr s Z H _ I h1) λfl s' q=>by
 cases fl with
 |next =>exists[σ',H',I',q'],q;exact#[σ',H',I',h2 _ _ q']
 | _=>exact q]
section
variable{A:Pl}{t:ą}{os:OsState}
variable{C:Pg}{bs:Pf}{sub:Pf}{dd:Option Pg}
theorem sW(F:Û)(T:ā){Q:PySem.Fin->Ph->Prop}(hC:Ç)(hn:h.Ns N mN)(hi:Þ)(hfI:ú)(hfc:ë)(hq:∀h' e,Heap.MadeExcOf h h' e Ò rest->wpAny É A Ù (λr s'=>r=.none/\Q (.done (.ret Ć)) s') E #[h',g,d,t,os])(hrest:ï):
  wpAny É A (Builtin.«type.__call__» #[.ref C::rest,[]]) Q E #[h,g,d,t,os]:=by
 repeat(first|with_reducible refine YT hC ?_|with_reducible refine wpAny_madeBy_exc hC ?_|wp_step)
 refine codeAny_call_builtin_code (Code.quiet_builtin _ F.quiet) (wpAny_check_new_subT F T hC ?_);refine codeAny_exc_new_subT F T hC ?_ hrest;show wpAny _ _ _ _ _ _;have kp:∀b o,h.get? b=some o->((ď { cls:=.type "tuple",data:=.seq ç }).push { cls:=.ref C,data:=.fields À }).get? b=some o :=
  λb o e=>Za _ (Za _ e)
 have hn₁:((ď { cls:=.type "tuple",data:=.seq ç }).push { cls:=.ref C,data:=.fields À }).Ns N mN:=hn.keeps kp;have hget:((ď { cls:=.type "tuple",data:=.seq ç }).push { cls:=.ref C,data:=.fields À }).get? (Ý+1) =
   some { cls:=.ref C,data:=.fields À }:=by heap_get
 have hcC:(Value.ref C::bm).contains Ò=true:=by simp
 unfold isInstance
 repeat(first|with_reducible refine YT hget ?_|(with_reducible refine wpAny_isSubtype_exc č ?_;rw[hcC])|wp_step)
 show wpAny _ _ (typeLookup Ò _) _ _ _;refine wpAny_typeLookup_tail č hn₁ (T.keeps kp) F.mroIs F.init.lookup ?_;rw[hi];refine ZU (z9 ?_);unfold bindSpecial;refine z9 (wpAny_typeOf (T:="function") #[_,kp _ _ hfI,hfc] ?_);rw[Pb ⋯];refine Zb (z9 (ZX (hq _ (Ý+1) #[kp,YO (YE _),Ý,hget,YO ć,?_]) (λr s' hr=>?_) λ_ _ x=>x))
 .exact Za _ (Heap.get?_push_at rfl rfl)
 .exists[rfl,hQ],hr
  wp_walk
  exact hQ
theorem AV(F:Û)(T:ā){Q:Pd}(hC:Ç)(hn:h.Ns N mN)(hi:Þ)(hfI:ú)(hfc:ë)(hq:∀h' e,Heap.MadeExcOf h h' e Ò rest->wpAny É (A.under (.builtin "type.__call__" #[.ref C::rest,[]])) Ù (λr s'=>r=.none/\Q Ć s') E #[h',g,d,t,os])(hrest:ï):
  wpAny É A (call Ò rest) Q E #[h,g,d,t,os]:=by
 have f1:=tc_lookup;have f2:=tc_bind Ò;have hT:(#[h,g,d,t,os]:Ph).TypeIs Ò "type":=#[_,hC,rfl]
 refine wpAny_call (codeAny_of_tree ?_);show wpAny _ _ (callAny Ò _) _ _ _
 repeat(any_goals(first|assumption|with_reducible refine YT hC ?_|wp_step))
 refine#[rfl,?_];exact codeAny_call_builtin_at (Code.quiet_builtin _ ⋯) entry_typeCall (wpAny_check_type_call_sub hC (sW F T hC hn hi hfI hfc (λh' e hm=>hq h' e hm) hrest))
#check 0
section
variable{A:Pl}{E:Pd}{K:Qa}
theorem DU(hC:ExC K C bm)(hh:å)(h:wpAny M A x (λv s₁=>∃e oe,v=.ref e/\K.In s₁.heap/\s₁.heap.get? e=some oe/\oe.cls=.ref C/\(∃t,oe.data=.fields (List.toArray [.ref t,.none,.none,.none,.bool false,.none]))/\E Ć s₁) E s):wpAny M A (raiseStmt env (some x) none) Q E s:=by
 have hcB:(Value.ref C::bm).contains (.type "BaseException")=true:=by rw[Y2,hC.exc,Bool.or_true]
 unfold raiseStmt;refine z9 (ZX h (λv s₁ h₁=>?_) λ_ _ x=>x);obtain⟨e,oe,rfl,hk,he,hcl,⟨vs,hd⟩,hE⟩:=h₁;exists[nm,q,N,bs,hdct,sn,sub,ab,col,dd,k0,k1,k2,k3,k5,ni,oC],hC.cls _ hk;exists[hp,g,d,tk,os],s₁;exists[oc,od,odt,osl],oe;cases hcl;cases hd
 repeat(first|with_reducible refine YT he ?_|with_reducible refine YT oC ?_|(with_reducible refine wpAny_isSubtype_exc oC ?_;rw[hcB])|wp_step)
 exact wpAny_raiseNew_none hh hE
#check 0
end
open PySem PySem.Spec PyProof.Rows PySem.W PySem.Builtin PySem.Builtin.ObjectAttr
mutual
#check#[(List.toArray [.ref t,.none,.none,.none,.bool false,.none]),s.heap.objs.size,(mo (X.env.qual++"<lambda>") params body scope cl ((X.mg "__name__").getD .none) c' ct),X.stack,(.Call (.Attribute o m apos) (e::es) [] pos),s.heap,(X.env.qual++"<lambda>"),(λr s'=>r=.ok (.ret (.bool true))/\OldK Å s'.heap/\s'.os=s.os/\AllBare s'.gens),X.prog,(List (Str×Pg)),(model prog w),X.env,(by rw[af (aj q hea0)];exact q),(by rw[af (oe b o q)];exact n),(λz=>by rw[z,hP]at n;cases n),X.A.in1.in1,(λz=>by rw[z,e]at m;cases m),(by simp),(upd (upd H Á (.xd [(f,y)])) a (exN a c t (some Á))),(envX qual scope Á f cd cl),(∃c,(c,b)∈tabs),(A.deeper (envX qual scope Á f (.ref c') [(y,c)])),(mx.keeps b o q),0,X.base,X.env.locals,(starEach (e::es) Ë),(upd (upd H P (.tbl (ps++more))) c oc),ps.toList,(model È X.w),(Inv X Pr Z H s),(.ref c),(ne _ _ this nofun),(.ref c'),(∀q∈tabs,H q.2=some (.tbl #[])),(backToKw pos (keywordEach [] Ë)),(MFnX È X.w X.K X.mg Ø k C m ps sp),(Heap),o.slots,(.call (.ref fa) #[[.ref a],[]]),(ne1 _ _ q nofun),(.builtin "object.__setattr__"),(List Env),(frs Ã),(Option Pg),(.ref ea),(Arguments),(aj e f0),(lQ Å H),(model P w),(envOfC qual scope Á f cd),vs.toArray,(ns.map V.int),(.ref C),(Unit->Ph->Prop),0,(Scope),(nP e λ_ z=>nomatch z),(nP z λ_ z=>nomatch z),o.data,s1.heap,(.tbl ps),(aj e c0),(x==("__debug__":Str)),(λq hq=>Pb #[q.1,hq]),(Pi->Option Pg->Hp->Prop),s.heap.push,X.mg,(y,c),(exN a c t (some d)),(ne2 _ _ q),(del H' ea),(.ref x),(.ref f),(getMethod ov m pl),(ne1 _ _ q' nofun),(X.wish (Mid X E)),(Value.ref ea::us),(X.env.frame=some Ù),(.tbl #[]),(exN ea C t none),(Str),(LamScope x y scope),vs.length,e0.frames,(e::es),(.type "object"),(exN a c t none),(ZY he dt v1 ?_),(of_hideAll _ q),(starEach es Ë),(ne _ _ z nofun),(.inr #[c,Pb c]),(Nat),X.w,tactic.hygienic,(aj q h0),(CXr P w),(some ku),(backTo pos Ú),(nrec b o q hn),(hideAll ü ë),(ea::t::frs Ã),(ExcAtI K C fI bm),cd.mro,s.toks,s.heap.NoLimit,(.str name tk),(C.keeps I.bk),hb.symm.trans,tn.symm.trans,(.ref t),(.xd [(f,y)]),(λb u z=>?_),(List Str),(Ã=Ë::X.outer),(jN X E),(c,b),X.K,e0.funs,e0.bare,(ne2 _ _ q'),(.ref a::us),(.Name x np),(start N vs),(List (Pg×Pg)),apos.atName,(aq st),(CXr È Ğ),(b0::suite),(aj hc' f0),e0.mod,e0.bsz,e0.frf,(x,u),(I.wish _),(ny c' Æ),0,(Zm _ rfl),(H P=some ý),r1.length,ps.length,(Zs q),(Zs e),(.ref fI),(aj z h0),(bf hs.1),(cj hs.2),(.ref Ch),(aj z c0),(aj z f0),(ny c' q),(some ď),(λb=>?_),(Str×Pg),(oF f Â),(Room k X.A),(List V),o.cls,pos.line,hx.keeps,e0.bs,sc.names]
theorem DW(self:Pi):refuseLoop self "__setattr__" VE=pure ():=by kernel_rfl
def sE:Pf->Bool
 |.ref _::r=>sE r
 |l=>l==VE
theorem qH(self:Pi):∀{l:Pf},sE l=true->refuseLoop self "__setattr__" l=pure ()
 |.ref c::r,e=>by rw[refuseLoop_ref];exact qH self e
 | [],e=>nomatch e
 |.type n::r,e=>by rw[show(Value.type n::r)=VE from y0.mp e];exact DW self
 |.none::r,e=>by have:=(y0 (α:=Pf)).mp e;cases this
 |.bool b::r,e=>by have:=(y0 (α:=Pf)).mp e;cases this
 |.int b t::r,e=>by have:=(y0 (α:=Pf)).mp e;cases this
 |.str b t::r,e=>by have:=(y0 (α:=Pf)).mp e;cases this
 |.bytes b t::r,e=>by have:=(y0 (α:=Pf)).mp e;cases this
 |.float b t::r,e=>by have:=(y0 (α:=Pf)).mp e;cases this
 |.builtin b::r,e=>by have:=(y0 (α:=Pf)).mp e;cases this
 |.ellipsis::r,e=>by have:=(y0 (α:=Pf)).mp e;cases this
 |.notImplemented::r,e=>by have:=(y0 (α:=Pf)).mp e;cases this
structure ExS(K:Qa)(c:Pg):Prop where
 sa:findIn K ß "__setattr__" = some (some é)
 ov:((clsIn K c).any λcd=>sE Ĩ&&cd.hasDict)=true
 ob:mroIn K c Ė=some true
section
variable{K:Qa}{A:Pl}{R:Result->Ph->Prop}{s:Ph}
theorem IB(X:K.In Å)(I:InstAt Å x ox C od)(S:ExS K C)(hn:findIn K õ name=some none)(h:wpAny Ê A.in1 (storeInOwnDict Ĉ õ ī name v false)
   (λfin s'=>match fin with|.done f=>R (.ok f) s'|.again c'=>c'.quiet=true/\codeAny Ê A c' R s') (λe s'=>R (.error e) s') s):
  codeAny Ê A (.call é #[[.ref x,.str name tk,v],[]]) R s:=by
 have SF:=PySem.F.store_object;exists[cd,hc,ho],any_some S.ov;rw[ZN]at ho;have sub:Looks Ê Å (isInstance Ĉ Ė) true:=I.type.andThen (looks_mroIn X S.ob);refine codeAny_call_builtin SF.slot.plain SF.entry (@check_slot Ê _ _ s "object.__setattr__" "object" "__setattr__" Ĉ [.str name tk,v] [] _ SF.kind SF.split sub (SF.args Ĉ ī v) ?_);have hm:Looks Ê Å (mroOf õ) Ĩ:=(looks_clsIn X hc).andThen .now;rw[osa_eq,refuse_eq];refine z9 (z9 (I.type.here (z9 (hm.here ?_))));rw[qH _ ho.1];refine Zb (z9 (I.type.here (z9 ((looks_findIn X hn).here (z9 (Looks.now.here ?_))))));exact h
#check 0
def exN(ea c t:Pg)(dc:ì):HO:=.ext λh=>h.get? ea=some { cls:=.ref c,dict:=dc,data:=.fields À }
theorem Cy{h:å}{ea c t:Pg}(e:h.get? ea=some { cls:=.ref c,dict:=dc,data:=.fields À }):ObjOk P w H h ea (exN ea c t dc) :=
 #[e,#[_,e],λ_ _ p k=>k _ p]
section
variable{t:Pg}
theorem Jo{Q:ö}(I:Þ)(e:H a=some ė)(S:ExS Ķ c)(n:NoAttr Ķ c f)(ry:RelV y u)(h:∀d s',H d=none->Inv X Pr Z (upd (upd H d İ) a ą) s'->Q () s'):wpAny Ý A (setAttr (.ref a) f u) Q E s:=by
 have hx:s.heap.get? a=some { cls:=.ref c,dict:=none,data:=.fields À }:=(show ObjOk È Ğ H Å a (exN a c t none)from I.hok a _ e).1;have J:InstAt Å a { cls:=.ref c,dict:=none,data:=.fields À } c none:=#[hx,rfl,rfl,True.intro]
 exists[cd,hc,ho],any_some S.ov;rw[ZN]at ho;refine W.set_plain I.kIn J S.sa (IB (s:={ s with toks:=ĩ+1 }) I.kIn J S n ?_);refine z9 (Zb (z9 (z9 (wpAny_loadPart hx (z9 (W.Looks.here (s:={ s with toks:=ĩ+1 }) (W.looks_clsIn I.kIn hc) ?_))))));rw[ho.2];have hxs:a≠Á:=Zy (Zs hx);have hx1:(Ă { cls:=.type "dict",data:=.dict #[] }).get? a=some { cls:=.ref c,dict:=none,data:=.fields À }:=Za _ hx;show wpAny _ _ (alloc { cls:=.type "dict",data:=.dict #[] } >>= λd=>update a (λo=>{ cls:=Ş,dict:=some d,data:=û,slots:=æ }) >>= λ_=>dictMade ß a d) _ _ _;refine z9 (wpAny_alloc' ?_);refine z9 (wpAny_update' hx1 ?_);refine Zb ?_;have hgd:((Ă { cls:=.type "dict",data:=.dict #[] }).update a λo=>{ cls:=Ş,dict:=some Á,data:=û,slots:=æ }).get? Á=some { cls:=.type "dict",data:=.dict #[] } :=
  (Heap.get?_update_ne _ _ _ _ hxs.symm).trans (Heap.get?_push_at rfl rfl)
 have hnd:((Ă { cls:=.type "dict",data:=.dict #[] }).update a λo=>{ cls:=Ş,dict:=some Á,data:=û,slots:=æ }).Ns Á (λ_=>none) :=
  #[_,#[],_,hgd,rfl,λe he=>absurd he Ñ,λ_=>rfl]
 refine z9 (Zb (z9 (wpAny_nsSet1 (Heap.Ns1.of_empty hnd) λh' hn' hs=>?_)));exists[oD,esD,epD,hoD,hdD,hcD],hn'.count (Within.cons f u Within.nil);refine z9 (wpAny_lookBehind hoD (by rw[hdD];exact pastItsLine_dict (Zr hcD (by rw[Zk,Z8,sizeLine_eq];omega))) ?_);have hx':h'.get? a=some { cls:=.ref c,dict:=some Á,data:=.fields À }:=(hs.2 a hxs).trans (Yc _ hx1 rfl);have kp:∀b o,b≠a->s.heap.get? b=some o->h'.get? b=some o:=λb o hb q=>(hs.2 b (Zy Ŏ)).trans ((Heap.get?_update_ne _ _ _ _ hb).trans (Za _ q));have hd0:H Á=none:=I.hok.fresh (Ze _);have nd:∀b o,s.heap.get? b=some o->b≠Á:=λb o q=>Zy Ŏ;have ne1:∀b v,H b=some v->v≠exN a c t none->b≠a:=λb v q hv z=>by rw[z,e]at q;exact hv (Zo q).symm
 have ne2:∀b v,H b=some v->b≠Á:=λb v q=>aj q hd0;have un:Un X.fs [] H Ò Å h':=by
  refine#[λb o q m _ _=>kp b o Ð q,λb o q m _ _=>#[æ,kp b o Ð q],λb o q m _=>?_,λb o q _=>?_,λb xs q=>?_,λb o v q=>?_,λb ps q=>#[#[],?_]]
  .rw[af Ð,af (nd b o q)];exact m
  .by_cases hb:b=a
   .exact#[_,hb▸hx']
   .exact#[o,kp b o hb q]
  .rw[af è,af Ć];exact q
  .rw[af è,af Ć];exact q
  .rw[af è,af Ć,q];simp
 have hok:HOk È Ğ Ò h':=λb v q=>by
  by_cases hb:b=a
  .subst hb;rw[ac]at q;cases q;exact Cy hx'
  .rw[af hb]at q;by_cases hbd:b=Á
   .subst hbd;rw[ac]at q;cases q;refine#[_,hn',λg=>?_];by_cases hg:g=f
    .subst hg;rw[Pb rfl];show RelO ([(g,y)].lookup g) (some u);rw[ZW,show(g==g)=true by simp];exact ry
    .rw[Pa hg];show RelO ([(f,y)].lookup g) none;rw[ZW,show(g==f)=false by simpa using hg];exact True.intro
   .rw[af hbd]at q;refine(I.hok b v q).stay (λb' v' hb' q'=>kp b' v' ?_ q') (λb' q'=>?_) λb' xs q'=>?_
    .rcases hb' with rfl|z
     .exact hb
     .exact ne1 _ _ z nofun
    .rw[af ċ,af Ĺ];exact q'
    .rw[af ċ,af Ĺ];exact q'
 exact Zb (h _ _ hd0 (I.un un hok))
#check 0
def MN(K:Qa)(ta tv:TE)(f:đ):TS:=λD Z H=>tv Z H λy H1=>ta Z H1 λx H2=>∃a c t,x=.ref a/\H2 a=some ė/\ExS K c/\NoAttr K c f/\∀d,H2 d=none ->
 D.nx Z (upd (upd H2 d İ) a ą)
theorem LC{pos pos':Pos}(ha:QE X o ta)(hv:QE X value tv)(hs:swapsWith value (some (.Attribute o f pos')) ş Ë=pure false:=by rfl):QS X (.Assign [.Attribute o f pos'] value pos) (MN Ķ ta tv f):=by refine#[?_];intro Pr s Z H D I h;refine plainObj_wpAny_Assign_Attribute (thn (hv.h Pr s Z H _ I h) λu s1 ⟨y,H1,I1,ry,q⟩=>thn (ha.h Pr s1 Z H1 _ I1 q) λov s2 hz9=>?_) hs;exists[x,H2,I2,rx,a,c,t,ex,ea,S,n,q2],hz9;subst ex;obtain rfl:ov=Value.ref a:=rx;exact Jo I2 ea S n ry λd s3 hd I3=>#[Z,_,I3,q2 d hd]
def del(H:Hp)(a:Pg):Hp:=λb=>if b=a then none else H b
theorem EQ:del H a a=none:=by unfold del;rw[Pb rfl]
theorem iA(h:b≠a):del H a b=H b:=by unfold del;rw[Pa h]
theorem Do(h:del H a b=some u):b≠a/\H b=some u:=by
 by_cases c:b=a
 .rw[c,EQ]at h;cases h
 .rw[iA c]at h;exact#[c,h]
def Cz(K:Qa)(C fI:Pg):Prop:=∃dd cd k0 k1 k2 k3 k5 bm,K.lookup C=some #[.type "type",dd,.cls cd,(List.toArray [k0,k1,k2,k3,some (.builtin "ValueError.__new__"),k5])]/\Ĩ=Value.ref C::bm/\cd.hasDel=false/\tailIn K VE bm=true/\nsOkIn K cd.ns=true/\nsIn K cd.ns "__init__" = some (some Ő)
set_option ğ true in theorem Bn{K:Qa}(X:K.In h)(G:h.Ns N m)(e:nsIn K N n=some (some v)):m n=some v:=by
 exists[o,es,ep,ho,hd,_,hf],G;unfold nsIn at e;split at e
 .rename_i c d es' n' sl q;have:=X _ _ q;rw[ho]at this;cases this;cases hd;split at e
  .rename_i en he;cases e;rw[<-hf];unfold nsFind findBy;rw[<-Array.find?_toList,he];rfl
  .split at e<;>cases e
 .cases e
structure ExcAtI(K:Qa)(C fI:Pg)(bm:Pf):Prop where
 isIn:Cz K C fI
 mro:∃c d cd sl,K.lookup C=some #[c,d,.cls cd,sl]/\Ĩ=Value.ref C::bm
 exc:bm.contains (.type "BaseException")=true
 fn:∃oI,K.lookup fI=some oI/\oI.cls=.type "function"
theorem rK{K:Qa}(q:ħ)(X:K.In h):
  ∃nm qn N bs hdct sn sub ab col dd k0 k1 k2 k3 k5 mN,h.get? C=some (excClassObj nm qn C N bs bm hdct sn sub ab col dd k0 k1 k2 k3 k5 "ValueError.__new__")/\h.Ns N mN/\mN "__init__" = some Ő/\OwnTail h VE bm:=by
 exists[dd,cd,k0,k1,k2,k3,k5,bm',ho,hm,nd,ht,ok,ni],q.isIn;exists[c9,d9,cd9,sl9,l9,m9],q.mro;have z:=ho.symm.trans l9;cases z;rw[hm]at m9;cases m9;exists[nm,bs,mro,ns,qn,hd,sn,sub,ab,col,del],cd;dsimp only at hm nd ok ni;cases hm;cases nd;have G:h.Ns ns _:=.of_isNs (isNs_of_in X ok);exact#[nm,qn,ns,bs,hd,sn,sub,ab,col,dd,k0,k1,k2,k3,k5,_,X _ _ ho,G,Bn X G ni,tail_of_in X ht]
theorem zH{K:Qa}(q:ħ):ExC K C bm where
 cls:=λh X=>by exists[nm,qn,N,bs,hdct,sn,sub,ab,col,dd,k0,k1,k2,k3,k5,mN,e,_],rK q X;exact#[nm,qn,N,bs,hdct,sn,sub,ab,col,dd,k0,k1,k2,k3,k5,_,e]
 exc:=q.exc
structure ExI(P:Pj)(w:Pk)(K:Qa)(mg:Pe)(base:å)(k:ĝ)(C:Pg)(bm:Pf)(ps:Ĳ)(sp:Sp):Prop where
 ex:∃fI fd,ExcAtI K C fI bm/\FnOk P w K mg base CX0 k fI fd ps sp/\Binds K fd ps []
section
variable{s:Ph}
theorem Inv.excMade{h':å}{e c t:Pg}(I:Þ)(kp:∀b o,s.heap.get? b=some o->h'.get? b=some o)(hn:s.heap.get? e=none)(he:h'.get? e=some { cls:=.ref c,data:=.fields À }) :
  H e=none/\Inv X Pr Z (upd H e (exN e c t none)) { s with heap:=h' }:=by
 have h0:H e=none:=by
  cases q:H e with
  |none=>rfl
  |some u =>exists[o,z],ko (I.hok e u q);rw[hn]at z;cases z
 have nb:∀b o,s.heap.get? b=some o->b≠e:=λb o q z=>by rw[z,hn]at q;cases q
 refine#[h0,I.un (t':=ĩ) #[λb o q _ _ _=>kp b o q,λb o q _ _ _=>#[æ,kp b o q],λb o q m _=>by rw[af (nb b o q)];exact m,λb o q _=>#[o,kp b o q],λb xs q=>by rw[af Ġ];exact q,λb o v q=>by rw[af Ġ];exact q,λb ps q=>#[#[],by rw[af Ġ,q];simp]] λb u q=>?_];by_cases hb:b=e
 .subst hb;rw[ac]at q;cases q;exact Cy he
 .rw[af hb]at q;exact(I.hok b u q).stay (λb' v _ q'=>kp b' v q') (λb' z=>by rw[af ő];exact z) λb' xs z=>by rw[af ő];exact z
#check 0
section
variable{EC:ā}{C:Pg}{k:ĝ}{sp:Sp}{ta:TA}
def Jv(sp:Sp)(C:Pg)(EC:ā)(ta:TA):TS:=λ_ Z H=>ta Z H λvs H1=>ē<=sizeLine/\∀ea t,H1 ea=none->H1 t=none->t≠ea ->
 sp (.ref ea::vs) (upd H1 ea Đ) (λv H2=>v=.non/\∃dc,H2 ea=some (exN ea C t dc)/\EC õ dc (del H2 ea)) E0
#check 0
structure MFnX(P:Pj)(w:Pk)(K:Qa)(mg:Pe)(base:å)(k:ĝ)(C:Pg)(m:đ)(ps:Ĳ)(sp:Sp):Prop where
 cl:Cls K C
 ex:∃f fd,FnOk P w K mg base ġ k f fd ps sp/\Meth K C m f/\Binds K fd ps []
section
variable{X:Cx}{k:ĝ}{C:Pg}{m x:đ}{e:Pq}{sp:Sp}{t:TA}{ta:TE}{E:XK}
theorem mE{pl:Sem Bool}(F:ä)(hx:gE ŀ X E)(hr:Ŝ)(he:QE X o ta)(ha:QA X ĕ t)(hs:(e::es).all aX=true:=by rfl)(ht:eval Ä Ë=(do
   let ov ←eval o Ë
   standAt ľ
   let(f,first) ←holding [ov] Ċ
   callWith pos f first ģ ã):=by rfl) :
  QE X Ä (sV C m sp [] E ta t):=by
 exists[f,fd,G,hm,b],F.ex;rw[YU,ZN]at hs;exact#[Ae (pl:=pl) he.h F.cl hm G hr b .nil hx ha.h Œ œ ht]
def LM(C:Pg)(m:đ)(sp:Sp)(ta:TE)(t:TA):TX:=λZ H Q E=>ta Z H λx H1=>IsM C m x H1 (t Z H1 λvs H2=>sp (x::vs) H2 Q E)
theorem En{pl:Sem Bool}(F:ä)(hr:Ŝ)(he:QE X.nox o ta)(ha:QA X.nox ĕ t)(hs:(e::es).all aX=true:=by rfl)(ht:eval Ä Ë=(do
   let ov ←eval o Ë
   standAt ľ
   let(f,first) ←holding [ov] Ċ
   callWith pos f first ģ ã):=by rfl) :
  QX X Ä (LM C m sp ta t):=by
 refine#[?_];intro Pr s Z H Q E I h;exists[f,fd,G,hm,b],F.ex;rw[YU,ZN]at hs;refine W.methodCall_KW (pl:=pl) (ZX (he.h Pr s Z H _ Ň h) (λu s1 hz9=>?_) λ_ _ z=>False.elim z) ht;exists[y,H1,I1,rx,a,dx,fs,ex,ea,l,q],hz9;subst ex;obtain rfl:u=Value.ref a:=rx;have I1':=I1.unwish;refine mZ I1' ea F.cl hm l ?_;refine W.callWith_K (first:=[.ref a]) (h₀:=Ø) I.ok.mod.kin hm.kp (ZX (ha.h pos Pr s1 Z H1 _ I1 q) (λus s2 ⟨vs,H2,I2,r,q2⟩=>#[I2.kIn,?_]) λ_ _ z=>False.elim z) Œ œ;have I3:=I2.unwish;have hb:=b s2 ĺ I3.kIn (by rw[ZD,<-G.len _ _ _ _ q2,Zk,Zk,r.length]);rw[ZD]at hb;refine wpAny_call (codeAny_mono (G.run X.A Ã s2 H2 #[.ref a::us,[]] ĺ (.ref a::vs) Q E hr I3.env0 hb (.cons rfl r) q2) λr s' hq=>?_);cases r with
 |error e=>exact#[s2,H2,I3,hq]
 |ok fl =>
  cases fl with
  |ret u=>exact I3.after hq
  |next=>exact False.elim hq
  |brk=>exact False.elim hq
  |cont=>exact False.elim hq
#check 0
section
variable{X:Cx}
theorem GE:QH X [] (λ_ _ _ _ _=>False):=#[λ_ _ _ _ _ _ _ _ _ _ _ _ _ _ _ _ h=>h.elim]
def MR(K:Qa)(Ch:Pg)(ts:TS)(th:TH):TH:=λD Z C dc H'=>∃c bm,C=.ref c/\ExC K c bm/\if(Value.ref c::bm).contains Ŕ=true then ts D Z H' else th D Z C dc H'
theorem Be{Ch:Pg}{ts:TS}(cl:ExC Ķ Ch bmh)(hm:X.mg x=some Ŕ)(hs:∀e,QB (X.exc e) Ł ts)(hrest:QH X rest th)(hg:Gl X x:=by rfl)(hdb:ÿ=false:=by decide):QH X (.ExceptHandler (some Ļ) none Ł pos::rest) (MR Ķ Ch ts th):=by
 refine#[?_];rintro Pr s0 H0 Z D ea t C B H' dc s' I0 F fly hd ⟨c,bm,rfl,ec,q⟩;have I:=F.inv I0;refine wpAny_handleBy_cons (codeAny_handlers_test ?_) nofun;refine jQ (X:=X.exc í) (I.exc _) hg hm ?_ hdb;exists[oe,he,hcl],fly.there;refine yU ec cl I.kIn he hcl ?_;cases hc:(Value.ref c::bm).contains (.ref Ch)with
 |true =>
  rw[hc,Pb rfl]at q;refine codeAny_handlers_suite ?_;exists[f1,f2,f3,f4],fly;refine mX f1 f3 f4.at hd λh6 k1 k2 k3 up6 hd6=>?_;have F6:=F.move (tk:=s'.toks) I0 k1 up6;refine ZX ((hs í).h Pr _ _ _ _ ((F6.inv I0).exc _) q) (λf s8 sp=>?_) (λ_ _ z=>False.elim z);cases f with
  |next =>exists[σ2,H2,I8,q8],sp;exact#[_,H2,I8.unexc I0.ok,q8]
  |brk =>exists[σ2,H2,I8,q8],sp;exact#[_,H2,I8.unexc I0.ok,q8]
  |cont =>exists[σ2,H2,I8,q8],sp;exact#[_,H2,I8.unexc I0.ok,q8]
  |ret u =>exists[v,σ2,H2,I8,r8,q8],sp;exact#[v,_,H2,I8.unexc I0.ok,r8,q8]
 |false =>rw[hc,Pa Zt]at q;exact hrest.h Pr s0 H0 Z D ea t _ B H' dc _ I0 F fly hd q
#check 0
def Hq(X:Cx)(B:å)(ea:Pg)(C:Pi)(t:Pg)(h:å):Prop :=
 (B.StaysIn h/\B.get? ea=none/\h.FunFrames B Ã/\∃oe,h.get? ea=some oe/\oe.cls=C/\oe.data=.fields À) \/
 Heap.FlyingW B Ã ea C į h\/Heap.HeldW B Ã ea C į Ù h
def AD(X:Cx)(E:XK)(ea:Pg)(s':Ph):Prop:=∃(Pr:Pc) (Z:St) (H0 H':Hp) (s0:Ph) (B:å) (t:Pg) (C:Pi) (vs:Pf) (dc:ì),
 Inv X Pr Z H0 s0/\Fl X H0 H' s0 s' B/\Hq X B ea C t s'.heap/\s'.heap.TupAt t vs/\B.get? t=none/\fP s'.heap ea dc/\E C dc H'
section
variable{M:Model}{A:Pl}{E:Pd}{s:Ph}{base:å}{l:ê}{L e:Pg}
theorem CA{cls a0 fl:Pi}{dc:ì}{Q:ö}(kb:base.StaysIn Å)(ff:s.heap.FunFrames base l)(tr:s.heap.TracedAtW base e cls a0 fl)(dd:fP Å e dc)(k:∀h',base.StaysIn h'->h'.FunFrames base l->h'.TracedAtW base e cls a0 (rawInt L)->s.heap.UpToSlots h'->fP h' e dc->Q () { s with heap:=h' }):wpAny M A (setFlight (.ref e) (some L)) Q E s:=by
 exists[oe,vs,T,oT,ts,he,hc,dt,v1,nT,ne,hT,dT,t3],tr;have z3:3<ts.size:=(YJ.mp t3).1;have oth:∀b,b≠T->(s.heap.update T (Obj.mapFields (·.setIfInBounds 3 ((some L:ì).elim Value.none λf=>rawInt f)))).get? b=s.heap.get? b:=λb n=>y9 _ _ (ZQ n);have nrec:∀b o,s.heap.get? b=some o->(∀ws,û≠.fields ws)->b≠T:=λb o q hn z=>by subst z;cases Zo (hT.symm.trans q);exact hn ts dT
 unfold setFlight;refine z9 Ę;rw[Pb (by simp:(Value.ref T != Value.none)=true)];refine YN hT dT z3 (k _ (λb o q=>(oth b λz=>nomatch((z▸q).symm.trans nT)).trans (kb b o q)) (ff.of_keeps λb o q hn=>#[o,(oth b Ĥ).trans q,rfl]) ?_ (λb o q hn=>#[æ,(oth b Ĥ).trans q]) ?_)
 .exact#[oe,vs,T,_,_,(oth e (ZQ ne)).trans he,hc,dt,v1,nT,ne,Yc _ hT (Obj.isFreed_of_fields (Yo dT _)),Yo dT _,by simp[z3]]
 .exists[o,q,d],dd;exact#[o,(oth e (ZQ ne)).trans q,d]
#check 0
section
variable{X:Cx}{E:XK}{ea:Pg}{s':Ph}
theorem rA{Q:ö}(hst:ĳ)(hfr:Ď)(x:AD X E ea s')(k:∀ h',(∃ (Pr:Pc) (Z:St) (H0 H':Hp) (s0:Ph) (B:å) (t:Pg) (C:Pi) (vs:Pf) (dc:ì),
   Inv X Pr Z H0 s0/\Fl X H0 H' s0 { s' with heap:=h' } B/\Heap.HeldW B Ã ea C į Ù h'/\h'.TupAt t vs/\B.get? t=none/\fP h' ea dc/\E C dc H')->Q () { s' with heap:=h' }) :
  wpAny Ý X.A (noteFrame í Ë) Q EE s':=by
 exists[Pr,Z,H0,H',s0,B,t,C,vs,dc,I0,F,st,tup,hBt,dd,q],x;have fr:X.A.frames=some (Ë::X.outer):=by rw[<-hst];exact I0.ok.frames
 rcases st with⟨f1,f2,f3,oe,he,rfl,hd⟩|fly|held
 .unfold noteFrame;simp only[hfr];refine z9 (ZY he hd (show _=some Value.none from rfl) ?_);rw[Pa ⋯];rw[hst]at f3;refine qE (a0:=.ref t) fr f3 hfr he f1 f2 hd Ñ rfl λh1 nt dd1=>?_;exists[n1,n2,n3,n4],nt;rw[<-hst]at n2;exists[o9,q9,d9],dd;cases Zo (he.symm.trans q9);rw[d9]at dd1;exact k h1 #[Pr,Z,H0,H',s0,B,t,_,vs,dc,I0,F.move (tk:=s'.toks) I0 n1 n4,#[n1,f2,n2,n3],tup.of_slots n4,hBt,dd1,q]
 .rw[hst]at fly;refine se fr hfr fly dd λh1 held up dd1=>?_;rw[<-hst]at held;exact k h1 #[Pr,Z,H0,H',s0,B,t,C,vs,dc,I0,F.move (tk:=s'.toks) I0 held.1 up,held,tup.of_slots up,hBt,dd1,q]
 .exact wpAny_noteFrame_againW hfr held.2.2.2 (k s'.heap #[Pr,Z,H0,H',s0,B,t,C,vs,dc,I0,F,held,tup,hBt,dd,q])
def Mid(X:Cx)(E:XK):Pd:=λe s'=>∃ea,e=.ref ea/\AD X E ea s'
theorem sH(hst:ĳ)(hfr:Ď):PassesOwn Ý X.A Ë (Mid X E):=by rintro e s' ⟨ea,rfl,x⟩;refine rA hst hfr x ?_;rintro h1 ⟨Pr,Z,H0,H',s0,B,t,C,vs,dc,I0,F,held,tup,hBt,dd,q⟩;exists[f1,f2,f3,f4],held;exists[oe,us,T,oT,ts,he,hc,dt,v1,nT,ne,hT,dT,t3],id f4;unfold cameBackBy;refine z9 Ę;rw[Pa Ñ];rw[hfr];refine CA (s:={ s' with heap:=h1 }) f1 f3 f4 dd λh2 k1 k2 k3 up dd2=>?_;exact#[ea,rfl,Pr,Z,H0,H',s0,B,t,C,vs,dc,I0,F.move (tk:=s'.toks) I0 k1 up,.inr (.inr #[k1,f2,k2,k3]),tup.of_slots up,hBt,dd2,q]
#check 0
def jN(X:Cx)(E:XK):Prop:=∀ea s',AD X E ea s'->X.xe í s'
theorem qG{X:Cx}:jN Č E:=by rintro ea s' ⟨Pr,Z,H0,H',s0,B,t,C,vs,dc,I0,F,st,r⟩;exact#[ea,rfl,Pr,Z,H0,H',s0,B,t,C,vs,dc,I0.unwish,#[F.os,F.bare,F.un,F.hok,F.kb],st,r]
section
variable{K:Qa}
theorem fg:jN (hZ ġ P w K mg base N qual scope f cd A outer s H E) E:=by
 intro ea s' x;show wpAny ñ (A.deeper ò) (leaving ò í) _ _ _;unfold leaving;refine z9 (rA (X:=hZ ġ P w K mg base N qual scope f cd A outer s H E) rfl rfl x ?_);rintro h1 ⟨Pr,Z,H0,H',s0,B,t,C,vs,dc,I,F,held,tup,hBt,dd,q⟩;exists[f1,f2,f3,f4],held;refine mX (s:={ s' with heap:=h1 }) f1 f3 f4 dd λh2 k1 k2 k3 up dd2=>?_;have F2:=F.move (tk:=s'.toks) I k1 up;have I2:=F2.inv I;have hL:∀b o,s.heap.get? b=some o->b≠Á:=λb o q=>Zy Ŏ;have nfr:∀b,b∉frs outer->b≠Á->b∉frs (envOfC qual scope Á f cd::outer):=λb h1 h2 hm=>by
  rcases Zg.mp (I.stkSub b hm)with z|z
  .exact h2 z
  .exact h1 z
 exists[_,_,k2'],k2;refine#[ea,t,C,vs,B,H',dc,rfl,I2.os,F2.bare,#[λb o q n hb _=>?_,λb o q n hb _=>?_,λb o q n _=>?_,λb o q _=>?_,I2.base.tups,I2.base.frzs,I2.base.tbls],F2.hok,#[k1,f2,k2',k3],tup.of_slots up,hBt,λb o hb ho q=>?_,dd2,q]
 .exact I2.base.keep b o q n hb nofun
 .exact I2.base.slot b o q n hb nofun
 .exact I2.base.free b o q n nofun
 .exact I2.base.there b o q nofun
 .refine F2.kb b o ?_ ?_ q
  .rcases ho with⟨u,z⟩|⟨o0,z⟩
   .exact F2.nf I z
   .exact nfr b hb (hL b o0 z)
  .rcases ho with⟨u,z⟩|⟨o0,z⟩
   .exact .inl #[u,z]
   .exact .inr (I.base.there b o0 z nofun)
#check 0
section
theorem GR(hR:Ĵ):gE ŀ X E:=λPr Z H s e s' I x=>by exists[ea,t,C,vs,B,H',dc,rfl,os,bare,un,hok,fly,tup,hBt,kb,dd,q],x;exact hR ea s' #[Pr,Z,H,H',s,B,t,C,vs,dc,I,#[os,bare,un,hok,kb],.inr (.inl fly),tup,hBt,dd,q]
theorem iF(hR:Ĵ):Cd X (λC H1=>E C none H1):=λPr Z H1 s1 h2 e C vs I hx hE=>by
 exists[t,he,tn,tt],hx.there;have fr0:∀b,b∈frs Ã->∃o,s1.heap.get? b=some o:=λb hm=>by exists[_,o',ho',_],I.stack.mem hm;exact#[o',ho']
 have hid:∀b o,s1.heap.get? b=some o->b∉frs Ã->(hideAll ü ë).get? b=some o:=λb o q hb=>hideAll_get _ q hb;have none_of:∀b,s1.heap.get? b=none->(hideAll ü ë).get? b=none:=λb hb=>by
  cases q:(hideAll ü ë).get? b with
  |none=>rfl
  |some o=>exact nomatch ĭ ę
 have tr:∀b u,H1 b=some u->b∉frs Ã:=λb u q hm=>by have:=I.stkFree b hm;rw[q]at this;cases this
 have F:Fl X H1 H1 s1 { s1 with heap:=h2 } ĥ:=#[rfl,I.bare,Un.kept Š,I.hok.kept Š,λb o hb ho q=>by
  obtain⟨o1,q1⟩:∃o1,s1.heap.get? b=some o1:=by
   rcases ho with⟨u,z⟩|⟨o0,z⟩
   .exact ko (I.hok b u z)
   .exact#[o0,z]
  have q2:=hx.keeps _ _ q1;have q':h2.get? b=some o:=q;rw[q']at q2;cases q2;exact hid b o q1 hb]
 have ff:h2.FunFrames ĥ Ã:=(funFrames_hide I.stack λenv he b hb=>Z5.mpr #[env,he,hb]).of_keeps λb o q _=>#[o,hx.keeps b o q,rfl]
 exact hR e _ #[Pr,Z,H1,H1,s1,_,t,C,vs,none,I,F,.inl #[λb o q=>hx.keeps b o ę,none_of e hx.new,ff,_,he,rfl,rfl],#[_,_,tt,rfl,rfl],none_of t tn,#[_,he,rfl],hE]
#check 0
section
variable{st:Stmt}{t:TS}
theorem GZ(hR:Ĵ)(h:QS Č st t):QS X st t:=#[λPr s Z H D I q=>ZX (h.h Pr s Z H D Ň q) (λ_ _ z=>z.unwish) λ_ _ ⟨ea,e,x⟩=>by rw[e];exact hR ea _ x]
#check 0
section
variable{k:ĝ}{e:Pq}
theorem FY(hR:Ĵ)(hc:X.calm=true)(F:ExI È Ğ Ķ ă Ø k C bm ps sp)(hr:Room (k+1) X.A)(hm:X.mg x=some õ)(ha:QA X ĕ ta)(hg:Gl X x:=by rfl)(hs:(e::es).all aX=true:=by rfl)(hdb:ÿ=false:=by decide) :
  QS X (.Raise (some (.Call Ļ ĕ [] cpos)) none pos) (Jv sp C E ta):=by
 refine#[?_];intro Pr s Z H D I h;exists[fI,fd,xc,G,hb],F.ex;have hs1:aX e=true:=YM.mp hs e Ñ;have he:=bf (es:=es) (env:=Ë) hs1;have hpl:(backTo cpos Ě).any (·.1)=false:=cj (by
  rw[YM];intro y hy;exact YM.mp hs y (Zj _ hy))
 have hpl':(backTo cpos Ú).any (·.1)=false:=by rw[he];show(false ||(backTo cpos Ě).any (·.1))=false;rw[hpl];rfl
 rw[arm_exec_Raise];refine z9 (wpAny_standAt (DU (K:=Ķ) (zH xc) (I.ok.hd hc) (z9 (ZX (wpAny_Call_ofName (jQ I hg hm ?_ hdb)) (λv s₃ h₃=>z9 (wpAny_standAt (Zb h₃))) λ_ _ x=>x))));unfold callWith;have hA:=ha.h cpos Pr s Z H _ I h;rw[he]at hA ⊢;refine z9 (ZU (Calls.evalArgs_plain (thn hA λus s1 ⟨vs,H1,I1,r1,hz,hE⟩=>z9 (wpAny_standAt ?_))));exists[nm,q,N,bs,hdct,sn,sub,ab,col,dd,k0,k1,k2,k3,k5,mN,oC,hN,hi,T],rK xc I1.kIn;exists[oI,lI,cI],xc.fn;exists[hp,g,d,tk,os],s1;rw[<-he];simp only[hpl'];refine z9 (wpAny_keeperOf_exc oC ?_);refine z9 (AV PySem.F.excBase_ValueError T oC hN hi (I1.kIn _ _ lI) cI (λh' ea mx=>?_) (show us.length<=sizeLine by rw[<-Ō];exact hz));exists[t,ht,tn,tt],mx.there;exists[hea0,I2],I1.excMade mx.keeps mx.new ht;have nt:t≠ea:=λz=>by rw[z,ht]at tt;cases tt
 have ht0:H1 t=none:=by
  cases q:H1 t with
  |none=>rfl
  |some u =>exists[o,z],ko (I1.hok t u q);exact nomatch Į z
 have hq:=hE ea t hea0 ht0 nt;have hl:(Value.ref ea::us).length=ō:=by rw[<-G.len _ _ _ _ hq,Zk,Zk,Ō]
 refine wpAny_call (codeAny_mono (G.run _ Ã _ _ #[Value.ref ea::us,[]] č (V.ref ea::vs) _ _ (hr.make C us []) (I2.env0.make C us []) (by have:=hb _ č I2.kIn (by rw[ZD];exact hl);rw[ZD]at this;exact this) (.cons rfl r1) hq) λr s' hq'=>?_);cases r with
 |error e'=>exact False.elim hq'
 |ok fl =>
  cases fl with
  |next=>exact False.elim hq'
  |brk=>exact False.elim hq'
  |cont=>exact False.elim hq'
  |ret u =>
   exists[v,H',os',bare,un,hok,r,rfl,dc,hd,hE'],hq';obtain rfl:u=Value.none:=r;have I3:Inv X Pr Z H' s':=I2.call' os' un hok bare λ_ z=>nomatch z;have notin:∀b,hp.get? b=none->b∉frs Ã:=λb hb hm=>by exists[_,o',ho',_],I1.stack.mem hm;exact nomatch ĭ ho'
   have hx:s'.heap.get? ea=some { cls:=.ref C,dict:=dc,data:=.fields À }:=(show ObjOk È Ğ H' s'.heap ea (exN ea C t dc)from I3.hok ea _ hd).1;have ut:upd H1 ea Đ t=none:=by rw[af nt];exact ht0
   have tt':=un.keep t _ tt ut (notin t tn) nofun;refine#[rfl,z9 (ZU (wpAny_point (Zb #[ea,_,rfl,I3.kIn,hx,rfl,#[t,rfl],?_])))];have hy:s'.heap.get? ea=some { cls:=.ref C,dict:=dc,data:=.fields À }:=hx;have ne:∀b v,H' b=some v->v≠exN ea C t dc->b≠ea:=λb v q hv z=>by rw[z,hd]at q;exact hv (Zo q).symm
   have ft:=un.free t _ tt ut nofun;have tr2:∀b v,H' b=some v->b≠t:=λb v q z=>by rw[z,ft]at q;cases q
   have tfr:∀b v,H' b=some v->b∉frs Ã:=λb v q hm=>by have:=I3.stkFree b hm;rw[q]at this;cases this
   have oe:∀b o,hp.get? b=some o->b≠ea:=λb o q z=>by rw[z]at q;exact nomatch mx.new.symm.trans q
   have ot:∀b o,hp.get? b=some o->b≠t:=λb o q z=>by rw[z]at q;exact nomatch Į q
   have un1:Un ë [] H1 ć hp s'.heap:=by
    refine#[λb o q n hb hx'=>un.keep b o Ö Í hb hx',λb o q n hb hx'=>un.slot b o Ö Í hb hx',λb o q n hx'=>?_,λb o q hx'=>un.there b o Ö hx',λb xs q=>?_,λb o v q=>?_,λb ps' q=>?_]
    .rw[iA (oe b o q)];exact un.free b o Ö Í hx'
    .have:=un.tups b xs Ì;rw[iA à];exact this
    .have:=un.frzs b o v Ì;rw[iA à];exact this
    .exists[more,this],un.tbls b ps' Ì;exact#[more,by rw[iA à];exact this]
   have hok1:HOk È Ğ ć s'.heap:=λb v q=>by exists[hb,q],Do q;exact(I3.hok b v q).stay (λ_ _ _ z=>z) (λb' z=>by rw[iA ě];exact z) λb' xs z=>by rw[iA ě];exact z
   have hid:∀b o,s'.heap.get? b=some o->b≠ea->b≠t->b∉frs Ã->(hideAll s'.heap Ħ).get? b=some o:=λb o q h1 h2 h3 =>
    hideAll_get _ q λhm=>by
     rcases Zg.mp hm with z|hm
     .exact h1 z
     rcases Zg.mp hm with z|hm
     .exact h2 z
     .exact h3 hm
   have Fx:Fl X H1 ć #[hp,g,d,tk,os] s' (hideAll s'.heap Ħ):=#[os',bare,un1,hok1,λb o hb ho q=>by
    rcases ho with⟨v,z⟩|⟨o0,z⟩
    .exists[hb',z],Do z;exact hid b o q hb' (tr2 _ _ z) hb
    .exact hid b o q (oe b o0 z) (ot b o0 z) hb]
   exact hR ea s' #[Pr,Z,H1,del H' ea,_,_,t,.ref C,us,dc,I1,Fx,.inl #[λb o q=>of_hideAll _ q,hideAll_none _ Zq,
    funFrames_hide I3.stack λenv he b hb=>Zj _ (Zj _ (Z5.mpr #[env,he,hb])),_,hy,rfl,rfl],#[_,_,tt',rfl,rfl],hideAll_none _ (Zj _ Zq),#[_,hy,rfl],hE']
#check 0
def Bi(qual:đ)(params:î)(body:Pq)(scope:ø)(cl:É)(pm:Pi)(c:Pg)(ct:Pi):Pm:=kla_fn "<lambda>" qual params body scope cl pm ß ct
def mo(qual:đ)(params:î)(body:Pq)(scope:ø)(cl:É)(pm:Pi)(c:Pg)(ct:Pi):Obj:={ cls:=.type "function",data:=.func (Bi qual params body scope cl pm c ct) }
def oF(a:Pg)(o:Obj):HO:=.ext λh=>h.get? a=some o
def ny(c:Pg)(qual:đ):HO:=.ext λh=>h.CodeRec ß qual
theorem zS{h:å}(e:h.get? a=some o):ObjOk P w H h a (oF a o):=#[e,#[o,e],λ_ _ x k=>k _ x]
theorem HY{h:å}(e:h.CodeRec ß q):ObjOk P w H h c (ny c q):=by exists[c',oc,vs,t,e1,e2,e3,e4],id e;cases e1;refine#[e,#[oc,e2],λh1 h2 x k=>?_];exists[c',oc,vs,t,e1,e2,e3,e4],id x;cases e1;exact#[c,oc,vs,t,rfl,k _ e2,e3,e4]
def Blt(h:å)(mg:Pe):Prop:=∃bm ob,mg "__builtins__" = some (.ref bm)/\bm≠builtinsNs/\h.get? bm=some ob/\ob.cls=.type "module"/\ob.dict=some builtinsNs/\ob.data=.plain
section
variable{s:Ph}
theorem Inv.bltAt(I:Þ)(B:Blt Ø ă)(hP:ŋ):s.heap.BuiltinsAt ă P:=by
 exists[bm,ob,b1,b2,b3,b4,b5,b6],B;refine#[bm,ob,b1,b2,λz=>?_,λz=>?_,I.bk _ _ b3,b4,b5,b6]
 .exists[o,es,ep,e,d,_],I.ok.mod.glob;rw[<-z,b3]at e;cases e;rw[d]at b6;cases b6
 .have:=(I.bs _ _ b3).2;rw[z,hP]at this;cases this
theorem Inv.grown{h':å}{ps more:Array Pi}{t':ĝ}(I:Þ)(hP:ŋ)(k:∀b o,b≠P->s.heap.get? b=some o->h'.get? b=some o)(hc:Á<=c)(hf:Á<=f)(hcf:c≠f)(eP:h'.get? P=some { cls:=.none,data:=.fields (ps++more) })(nc:∀H',ObjOk È Ğ H' h' c oc)(nf:∀H',ObjOk È Ğ H' h' f of'):
  H c=none/\H f=none/\Inv X Pr Z (upd Û f of') { s with heap:=h',toks:=t' }:=by
 have c0:=I.hok.fresh hc;have f0:=I.hok.fresh hf;have nP:∀{b:Pg} {u:HO},H b=some u->(∀qs,u≠.tbl qs)->b≠P:=fun{b u} e n z=>by rw[z,hP]at e;cases e;exact n _ rfl
 have up:∀{b:Pg},b≠P->b≠c->b≠f->upd Û f of' b=H b:=fun{b} n1 n2 n3=>by rw[af n3,af n2,af n1]
 have old:∀{b:Pg} {o:Obj},s.heap.get? b=some o->b≠c/\b≠f:=fun{b o} e=>#[Zy (ZE ŏ hc),Zy (ZE ŏ hf)]
 have pcf:P≠c/\P≠f:=by have:=I.hok P _ hP;exact old (show s.heap.get? P=some _ from this)
 refine#[c0,f0,I.un (t':=t') #[λb o e n _ _=>k b o Î e,λb o e n _ _=>#[æ,k b o Î e],λb o e n _=>?_,λb o e _=>?_,λb xs e=>?_,λb o u e=>?_,λb qs e=>?_] λb u e=>?_]
 .rw[up Î (old e).1 (old e).2];exact n
 .by_cases z:b=P
  .exact#[_,z▸eP]
  .exact#[o,k b o z e]
 .rw[up ù þ ï];exact e
 .rw[up ù þ ï];exact e
 .by_cases z:b=P
  .subst z;rw[hP]at e;cases e;exact#[more,by rw[af pcf.2,af pcf.1,ac]]
  .exact#[#[],by rw[up z þ ï,e];simp]
 .by_cases zf:b=f
  .subst zf;rw[ac]at e;cases e;exact nf _
  .rw[af zf]at e;by_cases zc:b=c
   .subst zc;rw[ac]at e;cases e;exact nc _
   .rw[af zc]at e;by_cases zP:b=P
    .subst zP;rw[ac]at e;cases e;exact eP
    .rw[af zP]at e;refine(I.hok b u e).stay (λb' v hb' q=>k b' v (λz=>?_) q) (λb' z=>by rw[up ú ŕ Ŗ];exact z) λb' xs z=>by rw[up ú ŕ Ŗ];exact z
     rcases hb' with rfl|hb'
     .exact zP z
     .rw[z,hP]at hb';cases hb'
#check 0
def cH(q:đ)(P:Pg)(pos:Pos)(H:Hp):Prop:=∃ps:Array Pi,H P=some ý/\TriplesOk Ü/\(codeAmong pos Ü=none\/∃c',codeAmong pos Ü=some á/\H c'=some ŗ)
def SameT(P:Pg)(H H':Hp):Prop:=∀b o,H b=some o->b≠P->H' b=some o
theorem SameT.of(s:Same H H'):SameT P H H':=λb o e _=>s b o e
theorem SameT.trans(s:SameT P H H')(t:SameT P H' H2):SameT P H H2:=λb o e n=>t b o (s b o e n) n
theorem pK{x y:Int}:∀l:Pf,TriplesOk l->TriplesOk (l++[.int x a,.int y b,c])
 | [],_=>trivial
 |.int _ _::.int _ _::_::rest,h=>pK rest h
structure LamOk(P:Pj)(w:Pk)(K:Qa)(mg:Pe)(base:å)(k:ĝ)(qual:đ)(body:Pq)(scope:ø)(x:đ)(sp:Sp):Prop where
 ex:∃N:List Str,FnScope N [x] scope/\(∀vs H Q E,sp vs H Q E->ē=1)/\∀(f c':Pg) (A:Pl) (outer:ê) (s:Ph) (H:Hp) (vs:ŝ) (Q:VK) (E:XK),Room k (A.deeper (envOfC qual scope Á f á))->sp vs H Q E ->
  ∃t,QE (hZ CX0 P w K mg base N qual scope f á A outer s H E) body t/\t ļ H Q
def Hh(a:Pg)(tabs:Ľ)(H:Hp):Prop:=∀b,H b=none\/(b=a/\∃o xs,H b=some (.frz o (.lst xs)))\/(Ô/\H b=some ď)
theorem Fa{P:Pj}{w:Pk}{K:Qa}{mg mb:Pe}{k:ĝ}{fa a:Pg}{fd:Pm}{x:đ}{sp:Sp}{s:Ph}{vs:Pf}{ns:Pn}{tabs:Ľ}(kx:K.In Å)(gx:s.heap.Ns mainGlobals mg)(bx:s.heap.Ns builtinsNs mb)(bb:∀y:Str,y≠"__name__"->mb y=bootBuiltins y)(nl:Ī)(gn:s.gens=#[])(bl:Blt Å mg)(tx:∀q∈tabs,CodeHd Å q.1 q.2/\s.heap.get? q.2=some (tabObj #[]))(nt:noTabs K=true)(sa:s.heap.get? a=some { cls:=.type "list",data:=.seq ó })(si:IntsAre vs ns)(sl:ns.length<=sizeLine)(hr:Room k callerA)(F:∀base:Heap,K.In base->base.Ns mainGlobals mg->Blt base mg->(∀q∈tabs,CodeHd base q.1 q.2)->FnOk P w K mg base CX0 k fa fd [x] sp)(bind:∀(s:Ph) (u:Pi),BindsTo s fd #[[u],[]] [ņ])(go:∀H:Hp,â->SqL K H a ô->sp [.ref a] H (λv _=>v=.bl true) λ_ _ _=>False) :
  codeAny ñ callerA ç Ç s:=by
 have tabNot:∀{b:Pg} {c:Pg},ĵ∈tabs->K.lookup b=none:=fun{b c} hm=>by
  cases e:K.lookup b with
  |none=>rfl
  |some o =>have e1:=(kx b o e).symm.trans (tx _ hm).2;cases e1;have:=YM.mp nt _ (mem_of_lookupK e);cases this
 have aNot:∀{c:Pg},¬(c,a)∈tabs:=fun{c} hm=>by have:=(tx _ hm).2;rw[sa]at this;cases this
 have main:∀H:Hp,Hh a tabs H->â->SqL K H a ô->HOk P w H Å->(H a≠none->K.lookup a=none) ->
   codeAny ñ callerA ç Ç s:=by
  intro H ae ht hS ok ha;have free:∀{b:Pg} {o:Obj},s.heap.get? b=some o->(∀n m,û≠.seq n m)->(∀n,û≠.fields n)->H b=none:=fun{b o} e n1 n2=>by
   rcases ae b with z|⟨rfl,_⟩|⟨⟨c,hm⟩,_⟩
   .exact z
   .rw[sa]at e;cases e;exact absurd rfl (n1 _ _)
   .rw[(tx _ hm).2]at e;cases e;exact absurd rfl (n2 _)
  have nsB:∀{b:Pg} {m:Pe},s.heap.Ns b m->(lQ Å H).Ns b m:=fun{b m} ⟨o,es,ep,e,d,r⟩=>#[o,es,ep,nq e (free e (λ_ _ z=>by rw[d]at z;cases z) λ_ z=>by rw[d]at z;cases z),d,r]
  have kB:K.In ð:=λb o e=>nq (kx b o e) (by
   rcases ae b with z|⟨rfl,o',xs,z⟩|⟨⟨c,hm⟩,_⟩
   .exact z
   .rw[ha (by rw[z];simp)]at e;cases e
   .rw[tabNot hm]at e;cases e)
  have bB:Blt ð mg:=by exists[bm,ob,b1,b2,b3,b4,b5,b6],bl;exact#[bm,ob,b1,b2,nq b3 (free b3 (λ_ _ z=>by rw[b6]at z;cases z) λ_ z=>by rw[b6]at z;cases z),b4,b5,b6]
  have cB:∀q∈tabs,CodeHd ð q.1 q.2:=λq hq=>by
   exists[o,ws,file,tf,fl,tg,inF,text,tt,c1,c2,c3,c4],(tx q hq).1;refine#[o,ws,file,tf,fl,tg,inF,text,tt,nq c1 ?_,c2,c3,c4];rcases ae q.1 with z|⟨z,_⟩|⟨⟨c,hm⟩,_⟩
   .exact z
   .rw[z,sa]at c1;cases c1;injection c2 with c2;exact absurd c2 ⋯
   .rw[(tx _ hm).2]at c1;cases c1;cases c2
  have mB:Mod K mg ð:=#[kB,nsB gx,#[mb,nsB bx,bb],let⟨mc,n1,n2⟩:=nl;#[mc,nsB n1,n2]]
  have env:Env0 P w K mg ð callerA [] s H:=#[rfl,mB,λb o e=>Iq e,Nat.le_of_eq (CJ _ _),trivial,λb hb=>absurd (show b∈([]:List Pg)from hb) Ñ,ok,.of_eq gn]
  refine codeAny_mono ((F _ kB (nsB gx) bB cB).run callerA [] s H #[[.ref a],[]] [.ref a] [.ref a] _ _ hr env (bind s (.ref a)) (.cons rfl .nil) (go H ht hS)) λr s' h=>?_;cases r with
  |error e=>exact False.elim h
  |ok fl =>
   cases fl with
   |next=>exact False.elim h
   |brk=>exact False.elim h
   |cont=>exact False.elim h
   |ret u =>
    exists[v,H',os,bare,un,ok',rv,hv],h;obtain rfl:v=.bl true:=hv;obtain rfl:u=Value.bool true:=rv;have each:∀b o,s.heap.get? b=some o->asItWas Å s'.heap b o/\∃o',s'.heap.get? b=some o':=λb o e=>by
     rcases ae b with z|⟨rfl,o',xs,z⟩|⟨⟨c,hm⟩,z⟩
     .have:=un.keep b o e z (by intro q;exact absurd (show b∈([]:List Pg)from q) Ñ) Ñ;exact#[.inl this,_,this]
     .exists[e1,_],ok b _ z;exists[e2,_],ok' b _ (un.frzs b o' _ z);rw[e]at e1;cases e1;exact#[.inl e2,_,e2]
     .exists[more,z2],un.tbls b _ z;have e2:s'.heap.get? b=some { cls:=.none,data:=.fields (#[]++more) }:=ok' b _ z2;have e1:=(tx _ hm).2;rw[e]at e1;cases e1;exact#[.inr (.inl #[(((tx _ hm).1).tab e).isCodeTable,rfl,#[],more,rfl,e2]),_,e2]
    exact#[rfl,#[λb o e=>(each b o e).1,λb o e=>(each b o e).2],os,bare]
 have rv:=vE si;have lv:=si.length;have inT:∀b,Decidable Ô:=λb=>Classical.propDecidable _;cases hk:K.lookup a with
 |some o =>
  have e:=kx a o hk;rw[sa]at e;cases e;refine main (λb=>@ite _ Ô (inT b) Ř none) ř Ā (.inr #[_,ó,_,hk,rfl,rfl,rfl,by rw[Zl,lv];exact sl,by simpa using rv]) ı (λz=>absurd (Pa fun⟨c,hm⟩=>aNot hm) z)
  .by_cases c:∃c,ĵ∈tabs
   .exact .inr Ĝ
   .exact .inl (Pa c)
  .by_cases c:∃c,ĵ∈tabs
   .have z':=(Pb c).symm.trans z;cases z';exists[c,hm],c;exact(tx _ hm).2
   .have z':=(Pa c).symm.trans z;cases z'
 |none =>
  refine main (λb=>@ite _ Ô (inT b) Ř (if b=a then some (.frz { cls:=.type "list",data:=.seq ó } (.lst ô))else none)) ř Ā (.inl (.inr #[{ cls:=.type "list",data:=.seq ó },(Pa fun⟨c,hm⟩=>aNot hm).trans (Pb rfl)])) ı (λ_=>hk)
  .by_cases c:∃c,ĵ∈tabs
   .exact .inr Ĝ
   .by_cases hb:b=a
    .exact .inr (.inl #[hb,_,_,(Pa c).trans (Pb hb)])
    .exact .inl ((Pa c).trans (Pa hb))
  .by_cases c:∃c,ĵ∈tabs
   .have z':=(Pb c).symm.trans z;cases z';exists[c,hm],c;exact(tx _ hm).2
   .have z':=(Pa c).symm.trans z;by_cases hb:b=a
    .rw[Pb hb]at z';cases z';subst hb;exact#[sa,by rw[Zd];exact sl,vs,_,rv,sa]
    .rw[Pa hb]at z';cases z'
theorem Fun.okC{K:Qa}{st:Stmt}{k:ĝ}{sp:Sp}(F:Fun K x qual st f fd)(hc:fd.code=.ref c)(S:FnScope N ps Ŀ)(len:∀ vs H Q E,sp vs H Q E->ē=ō)(body:∀ (A:Pl) (outer:ê) (s:Ph) (H:Hp) (vs:ŝ) (Q:VK) (E:XK),Room k (A.deeper (envOfC qual Ŀ Á f ß))->sp vs H Q E ->
   ∃ t,QB (hZ CX0 P w K mg base N qual Ŀ f ß A outer s H E).nox (cJ st) t/\t { nx:=λ_ H'=>Q .non H',rt:=Q } ļ H):↑FnOk CX0 (k+1) f fd ps sp:=by
 exists[oc,od,kV,doc,pm,an,cdv,ct,osl,rfl,lk,hcd],F.ex;obtain rfl:cdv=.ref c:=hc;refine A9 lk hcd S len λA outer s H vs Q E hr hs=>?_;exists[t,h,q],body A outer s H vs Q E hr hs;exact#[t,h.h.nox,q]
inductive SKey where
 |i (n:Int)|s (t:Str)|bi (b:Bool)(n:Int)
def SKey.at(H:Hp):SKey->V->Prop
 |.i n,v=>v=.int n
 |.s t,v=>v=.str t
 |.bi b n,v=>∃a,v=.ref a/\H a=some (.tup [.bl b,.int n])
section
variable{X:Cx}{Pr:Pc}{Z:St}{H:Hp}{s:Ph}
def wg(X:Cx)(Pr:Pc)(Z:St)(f:Pg)(sp:Sp):Prop:=∀(s:Ph) (H:Hp) (u:Pi) (v:V) (Q:VK),Inv X Pr Z H s->RelV v u->sp [v] H Q E0->codeAny Ý Ï (.call ĉ #[[u],[]]) (CR CX0 Ã È Ğ H s Q E0) s
theorem Jl{k:ĝ}(F:FnOk È Ğ Ķ ă Ø CX0 k f fd [x] sp)(hb:∀(s:Ph) (u:Pi),X.K.In Å->BindsTo s fd #[[u],[]] [ņ])(hr:Room k Ï):∀l,wg (wX X l) Pr Z f sp:=λl s H u v Q I ru hs=>by
 have env:Env0 È Ğ Ķ ă Ø Ï Ã s H:=by have e0:=I.env0;exact#[Ĕ,Ń,š,ń,ķ,Ņ,e0.hok,ĸ]
 exact F.run Ï Ã s H #[[u],[]] [u] [v] Q E0 hr env (hb s u I.kIn) (.cons ru .nil) hs
structure SG(X:Cx)(Pr:Pc)(Z:St)(H1:Hp)(m:Pe)(kS D:Pg)(e1:ĝ)(ks:List SKey)(as:ŝ)(us:Pf)(e:ĝ)(H:Hp)(s:Ph):Prop where
 I:Inv X Pr Z H s
 sm:Same H1 H
 fk:cE X Pr H kS
 fd:cE X Pr H D
 bk:X.base.get? kS=none
 bd:X.base.get? D=none
 hk:s.heap.get? kS=some (seqObj "list" (List.toArray us) e)
 hd:s.heap.get? D=some (seqObj "list" #[] e1)
 ns:s.heap.Ns Ù m
 vals:Vals as us
 keys:∀(i:ĝ) (a:V) (k:SKey),as[i]?=some a->ks[i]?=some k->k.at H a
theorem yO(b:Bool)(h:Vals xs us):Vals (katRev b xs) (katRev b us):=by
 cases b with
 |false=>exact h
 |true =>
  show Vals xs.reverse us.reverse;induction h with
  |nil=>exact .nil
  |cons r _ ih =>rw[YG,YG];exact ih.append (.cons r .nil)
#check 0
structure LamScope(x y:đ)(sc:ø):Prop where
 kind:sc.kind=.function
 co:sc.isCoroutine=false
 gen:sc.isGenerator=false
 lx:sc.names.lookup x=some .local
 ly:sc.names.lookup y=some .free
 nc:∀z∈Ţ,z.2≠.cell
 nf:∀z∈Ţ,z.2=.free->z.1=y
 ne:x≠y
def cxX(CX:CXT)(P:Pj)(w:Pk)(K:Qa)(mg:Pe)(base:å)(N:Ĳ)(qual:đ)(scope:ø)(f:Pg)(cd:Pi)(cl:É)(A:Pl)(outer:ê)(s:Ph)(H:Hp)(E:XK):Cx where
 prog:=P
 w:=w
 K:=K
 mg:=mg
 base:=base
 A:=A.deeper Ó
 N:=N
 s₀:=s
 H₀:=H
 env:=envX qual scope Á f cd cl
 outer:=outer
 stack:=envX qual scope Á f cd cl::outer
 ex:=[]
 calm:=true
 fn:=λ_=>false
 pn:=[]
 xe:=λe s'=>wpAny ñ (A.deeper Ó) (leaving Ó e) (λ_ s''=>CX outer H s E e s'') (λe' s''=>CX outer H s E e' s'') s'
set_option ğ true in theorem Bg{K:Qa}{A:Pl}{h1:å}{tk:ĝ}(S:Ē)(hd:A.handled=none)(e0:↑Env0 A outer s H)(r:RelV v u)(kr:RelV kv ku)(hc:s.heap.IsCell c Ģ)(fc:H c=none)(hns:h1.Ns Á λz=>[ņ].reverse.lookup z)(hk:∀b o,s.heap.get? b=some o->h1.get? b=some o):
  Inv (cxX CX P w K mg base [x,y] qual scope f cd [Ą] A outer s H E) [] [some v,some kv] H { s with heap:=h1,toks:=tk }:=by
 have noA:∀b:Pg,b∉(cxX CX P w K mg base [x,y] qual scope f cd [Ą] A outer s H E).ex:=λb z=>absurd (show b∈([]:List Pg)from z) Ñ;have lk:∀{z:đ} {d:Pg},([Ą]:List Ś).lookup z=some d->z=y/\d=c:=fun{z d} h=>by
  rw[ZW]at h;split at h
  .rename_i e;cases h;exact#[by simpa using e,rfl]
  .cases h
 have ly:([Ą]:List Ś).lookup y=some c:=by simp
 have cell1:h1.IsCell c Ģ:=by exists[o,a1,a2],hc;exact#[o,hk _ _ a1,a2]
 refine#[#[Ń,S.kind,rfl,rfl,Ze _,λz z' d q1 q2=>?_,λz hz=>?_,λz d q _=>(nomatch q),λ_=>hd,Around.frames_deeper Ĕ,.inr #[rfl,rfl],λb z=>absurd z (noA b),š,ń,λb _ _=>noA b,λb z=>absurd z (noA b),ķ,Ņ],
  rfl,ĸ,Un.kept hk,#[_,hns,λi z v' q1 q2 q3=>?_],λz d q=>#[some ku,by rw[(lk q).2];exact cell1],e0.hok.fresh (Ze _),λz d q=>by rw[(lk q).2];exact fc,λp hp=>absurd (show p∈([]:Pc) from hp) Ñ,e0.hok.kept hk,rfl]
 .exact(lk q1).1.trans (lk q2).1.symm
 .have hz:scope.names.lookup z=some .cell\/scope.names.lookup z=some .free:=hz;rcases hz with hz|hz
  .exact absurd rfl (S.nc _ (Yj hz))
  .exact#[c,by rw[show z=y from S.nf _ (Yj hz) rfl];exact ly]
 .match i,q1,q2 with
  |0,q1,q2 =>cases q1;cases q2;exact#[u,r,.inl #[S.lx,by simp]]
  |1,q1,q2 =>cases q1;cases q2;exact#[ku,kr,.inr #[.inr S.ly,c,ly,cell1]]
  |i+2,q1,_=>simp[cxX]at q1
section
variable{X:Cx}
theorem E9{k j:ĝ}{sp:Sp}(S:Ē)(hi:X.N[j]? = some y)(hZ:Z[j]? = some (some kv))(hyc:X.env.scope.names.lookup y=some .cell)(hcy:X.env.cells.lookup y=some c)(hr:Room (k+1) Ï)(hbd:∀ (s:Ph) (u:Pi),BindsTo s (Bi qual params body scope [Ą] pm c' ct) #[[u],[]] [ņ])(hbody:∀ (A:Pl) (outer:ê) (s:Ph) (H:Hp) (v:V) (Q:VK),Room k Õ->sp [v] H Q E0 ->
   ∃ t,PE (cxX CX0 È Ğ Ķ ă Ø [x,y] qual scope f á [Ą] A outer s H E0) body t/\t [some v,some kv] H Q):
  ∀l,wg (wX X l) Pr Z f (λvs H Q E=>H f=some (oF f (mo qual params body scope [Ą] pm c' ct))/\H c'=some (ny c' qual)/\sp vs H Q E):=by
 intro l s H u v Q I ru ⟨hf,hc,hsp⟩;have e0:Env0 È Ğ Ķ ă Ø Ï Ã s H:=by have e0:=I.env0;exact#[Ĕ,Ń,š,ń,ķ,Ņ,e0.hok,ĸ]
 have lim:Ī:=e0.mod.nolimit.keeps λb o e=>(e0.bs b o e).1;have of1:=(e0.hok f _ hf).1;have oc1:=(e0.hok c' _ hc).1;exists[m,_,look],I.loc;exists[ku,kr,lk],look j y kv hi hZ (.inr (.inl hyc));have cell:s.heap.IsCell c Ģ:=by
  rcases lk with⟨z,_⟩|⟨_,d,e1,e2⟩
  .have z':X.env.scope.names.lookup y=some .local:=z;rw[hyc]at z';cases z'
  .have e1':X.env.cells.lookup y=some d:=e1;rw[hcy]at e1';cases e1';exact e2
 have fc:H c=none:=I.freeC y c hcy;refine kla_callFunE hr.depth of1 rfl S.co S.gen rfl oc1 (hbd s u _ _ _ _ ?_);refine wpAny_newFunctionEnv S.nc (λz hz=>?_) (λh1 hns hsb=>#[lim.keeps ?_,kla_codeExpr ?_]) S.kind
 .rw[Zi.mp hz];exact S.lx
 all_goals have hk:∀b o,s.heap.get? b=some o->h1.get? b=some o:=λb o e=>hsb.extBut b o (Zy ŏ) (Za _ e)
 .exact hk
 .exists[t,ht,hq],hbody Ï Ã s H v Q (hr.deeper _) hsp;have I2:=Bg (CX:=CX0) (qual:=qual) (f:=f) (cd:=.ref c') (E:=E0) (tk:=ĩ+1) S hr.hd e0 ru kr cell fc hns hk;refine ZX (ht [] _ _ H _ I2 hq) (λu s' hz9=>?_) λe s' hs=>hs;exists[v,H',J,rv,q],hz9;exact#[v,H',J.os,J.bare,J.base,J.hok,rv,q]
#check 0
section
variable{X:Cx}{c P:Pg}{params:î}{body:Pq}{scope:ø}{pos:Pos}{cl:É}
def BN(cl:É)(X:Cx)(P:Pg)(params:î)(body:Pq)(scope:ø)(pos:Pos):TE:=λ_ H Q=>∃ps:Array Pi,H P=some ý/\TriplesOk Ü /\
 ((∃ c',codeAmong pos Ü=some á/\H c'=some ň/\∀ f ct,H f=none->Q ĉ (upd H f ś)) \/
  (codeAmong pos Ü=none/\∀ f c' ct,H f=none->H c'=none->c'≠f->Q ĉ (upd (upd (upd H P (.tbl (ps++(List.toArray [rawInt ş,rawInt pos.col,.ref c'])))) c' ň) f ś)))
theorem IL(hcode:X.env.code=.ref c)(hge:X.env.globals=mainGlobals)(C:CodeHd Ø c P)(B:Blt Ø ă)(hdef:defaultsOf params Ë=([],[]))(hcl:closureFor scope Ë=pure cl):PE X (.Lambda params body scope pos) (BN cl X P params body scope pos):=by
 intro Pr s Z H Q I h;exists[ps,hP,ht,hh],h;have oP:s.heap.get? P=some (tabObj ps):=I.hok P _ hP;have hg:s.heap.Ns mainGlobals ă:=I.ok.mod.glob.keeps I.bk;have hb:=I.bltAt B hP;refine kla_eval hdef ?_;rcases hh with⟨c',hf,hc',q⟩|⟨hnf,q⟩
 .refine kla_makeFunctionHit hcl hge hg hcode Ĭ oP ht hf hb λct h' tk kp hsz=>?_;have hn:=I.hok.fresh hsz;exact#[.ref _,_,I.laid (t':=tk) (λb o e=>Za _ (kp b o e)) hsz (zS Ŋ),rfl,q _ ct hn]
 .have hgP:mainGlobals≠P:=λz=>by exists[o,es,ep,e,d,_],hg;rw[z,oP]at e;cases e;cases d
  refine kla_makeFunction hcl hge hg hcode Ĭ oP ht hnf hgP hb λc' ct h' tk hx hge' hlt hrec htb=>?_;have hnF:c'≠h'.objs.size:=Zy hlt;exists[i1,i2,i3],I.grown (t':=tk) (c:=c') (f:=h'.objs.size) (h':=h'.push Â) (oc:=ny c' Æ) (of':=oF h'.objs.size Â) hP
   (λb o hb' e=>Za _ (hx b o hb' e)) hge' (Zr hge' (Nat.le_of_lt hlt)) hnF (Za _ htb) (λ_=>HY (by
    exists[c₂,oc,vs,t,e1,e2,e3,e4],hrec;exact#[c₂,oc,vs,t,e1,Za _ e2,e3,e4])) (λ_=>zS Ŋ)
  exact#[.ref _,_,i3,rfl,q _ c' ct i2 i1 hnF]
structure LamOkX(P:Pj)(w:Pk)(K:Qa)(mg:Pe)(base:å)(k:ĝ)(qual:đ)(body:Pq)(scope:ø)(x y:đ)(sp:V->Sp):Prop where
 sc:LamScope x y scope
 ex:∀(f c' c:Pg) (kv:V) (A:Pl) (outer:ê) (s:Ph) (H:Hp) (v:V) (Q:VK),Room k Õ->sp kv [v] H Q E0 ->
  ∃t,QE (cxX CX0 P w K mg base [x,y] qual scope f á [Ą] A outer s H E0) body t/\t [some v,some kv] H Q
def zq(X:Cx)(P:Pg)(q:đ)(lpos:Pos)(params:î)(body:Pq)(scope:ø)(cl:É)(H1:Hp)(f:Pg)(H2:Hp):Prop :=
 ∃(c':Pg) (ct:Pi),SameT P H1 H2/\cH q P lpos H2/\H2 f=some (oF f (mo q params body scope cl ((ă "__name__").getD .none) c' ct))/\H2 c'=some ŗ/\f≠P/\c'≠P
theorem E8{R:VK}(tab:cH Æ P lpos H1)(h:∀f H2,zq X P Æ lpos params body scope cl H1 f H2->R ĉ H2):BN cl X P params body scope lpos Z H1 R:=by
 exists[ps,tP,t3,tc],tab;refine#[ps,tP,t3,?_];rcases tc with hno|⟨c',hy,hc'⟩
 .refine .inr #[hno,λf c' ct f0 c0 hcf=>h _ _ ?_];have nPf:f≠P:=λz=>by rw[z,tP]at f0;cases f0
  have nPc:c'≠P:=λz=>by rw[z,tP]at c0;cases c0
  refine#[c',ct,λb o e hb=>?_,#[_,by rw[af (ZQ nPf),af (ZQ nPc),ac],?_,.inr #[c',?_,by rw[af hcf,ac]]],ac,by rw[af hcf,ac],nPf,nPc]
  .rw[af ï,af þ,af hb];exact e
  .rw[Array.toList_append];exact pK _ t3
  .rw[Array.toList_append];exact codeAmong_snoc _ t3 hno
 .refine .inl #[c',hy,hc',λf ct f0=>h _ _ ?_];have nPf:f≠P:=λz=>by rw[z,tP]at f0;cases f0
  have nPc:c'≠P:=λz=>by rw[z,tP]at hc';cases hc'
  exact#[c',ct,λb o e hb=>by rw[af ï];exact e,#[ps,by rw[af (ZQ nPf)];exact tP,t3,.inr #[c',hy,by rw[af ł];exact hc']],ac,by rw[af ł];exact hc',nPf,nPc]
#check 0
end
open PySem PyProof.Rows PySem.W
open PySem PyProof.Rows PySem.W
section
variable{prog:Pj}{w:Pk}{A:Pl}{s:Ph}{κ:SortKind}{it:Array Keyed}{lt:Pp}{N:Nat}{st:SortSt}
def Zc(prog:Pj)(w:Pk)(A:Pl)(s:Ph)(κ:SortKind)(it:Array Keyed)(lt:Pp)(N:Nat):Prop :=
 ∀i j (C:Bool->Ph->Prop),i<N->j<N->C (lt i j) s->kas_cmp prog w A κ it i j C s
end
open PySem PyProof.Rows PySem.W
mutual
#check#[(gA b j),a.size,b.size,(gA a i)]
section
variable{lt:Pp}
theorem zJ(p:Po)(k:Nat):gA p k=p.toList.getD k 0:=by unfold gA;rw[Yp,ZG,YA]
structure MF(lt:Pp)(N:Nat)(a b:Po):Prop where
 sa:∀i j,i<j->j<Á->Lx lt Ã (gA a j)
 sb:∀i j,i<j->j<Â->Lx lt (gA b i) À
 cr:∀i j,i<Á->j<Â->lt À Ã=false->Lx lt Ã À
 na:∀i,i<Á->gA a i<N
 nb:∀i,i<Â->gA b i<N
 a0:0<Á
 b0:0<Â
 fst:lt (gA b 0) (gA a 0)=true
 lst:∀j,j<Â->lt À (gA a (Á-1))=true
variable{N:Nat}
#check 0
end
open PySem PyProof.Rows PySem.W
open PySem PyProof.Rows PySem.W
open PySem PyProof.Rows PySem.W
open PySem PyProof.Rows PySem.W
section
variable{prog:Pj}{w:Pk}{A:Pl}{s:Ph}{κ:SortKind}{it:Array Keyed}{lt:Pp}{N:Nat}{st:SortSt}{pre:Po}
structure Zp(prog:Pj)(w:Pk)(A:Pl)(s:Ph)(κ:SortKind)(it:Array Keyed)(lt:Pp)(N:Nat)(st:SortSt)(pre:Po)(n:Nat):Prop where
 Zq0:Zc prog w A s κ it lt N
 hk:kindOf st=κ
 hN:pre.size+n=N
 n0:0<n
end
open PySem PyProof.Rows PySem.W
section
variable{lt:Pp}(O:LtOk lt){N:Nat}
include O
end
open PySem PyProof.Rows PySem.W
mutual
#check#[r.length,(List Nat),(Array Keyed)]
section
variable{lt:Pp}
def Gw(lt:Pp):Nat->List Á->List (Nat×Nat×Nat)->Prop
 |_,[],[]=>True
 |b,r::rs,t::ts=>t.1=b/\t.2.1=À/\0<À/\r.Pairwise (Lx lt)/\r.Perm (List.range' b À)/\Gw lt (b+À) rs ts
 |_,_,_=>False
variable{κ:SortKind}{it:Â}{N:Nat}{st:SortSt}
structure RI(κ:SortKind)(it:Â)(lt:Pp)(N lo:Nat)(T:Á)(p:Po)(rs:List Á)(st:SortSt):Prop where
 hk:kindOf st=κ
 hf:failedOf st=none
 ha:arrOf st=p.map (kas_item it)
 hp:p.toList=rs.flatten++T
 pm:p.toList.Perm (List.range N)
 rl:Gw lt 0 rs (pendingOf st).toList
 hl:rs.flatten.length=lo
#check 0
end
open PySem PyProof.Rows PySem.W
mutual
#check#[(model prog w),as.length,(Obj.mapSeq λ_=>(#[]:Array Pi)),(katRev b out),X.env.locals,(by simp),(∀b o,s.heap.get? b=some o->h'.get? b=some o),s.heap.objs.size,vs.length,xs.length,(.tup (ns.map V.int)),(λ_ _=>False),(seqObj "list" (List.toArray qs) e),(seqObj "list" (List.toArray us) e),(Obj.mapSeq λ_=>List.toArray Ã),(Inv X Pr Z H s),(.ref b),(seqObj "list" #[] e1),(Pf->Ph->Prop),acc.toList,its.length,(Nat),(List.toArray ks),0,(List V),(ZP _ (.head _)),(by injection z),(Pf->Nat->Ph->Prop),(List ZKey),s.heap,(.ref a),(Bool->Ph->Prop),out.length,X.base,(dh ps ns),(dh qs ms),ks.length,qs.length,(.ref Ç),(qs++[k]),(.ref b'),(.ref c'),(.lst xs),r.length]
theorem gP{n:Õ}(h:n<=4096):n<=sizeLine:=by rw[sizeLine_eq];omega
section
variable{prog:Pj}{w:Pk}{A:Pl}{E:Pd}{s:Ph}{h₀:Heap}{L a kS:Pg}{m:Pe}{news:Pc}{vs ks:Pf}
theorem tJ{Q:Ò}{lo hi:Int}{t u v:Tok}{n:Õ}(hh:A.handled=none)(hr:IsRange Ý r lo hi 1 t u v)(hsmall:Builtin.Range.small lo hi 1=true)(hn:Builtin.Range.rangeSize lo hi 1=n)(hlen:n<=2^24)(h:∀h' tk acc,Æ->ItemsOf (λi v=>∃t,v=.int (lo+i*1) t) acc n->Q Ó { s with heap:=h',toks:=tk }):wpAny À A (collect (.ref r)) Q E s:=by
 unfold collect;refine z9 (wpAny_runValue (codeAny_builtin F.entry_proto_collect ?_));rw[Around.under_plainId F.plain_proto_collect _];show wpAny _ A.in1 (newList [] >>= λq=>again (.builtin "list.__iadd__" #[[q,.ref r],[]])) _ _ s;refine z9 (ZS (Zb #[plainId_quiet F.plain_list_iadd _,codeAny_builtin F.entry_list_iadd ?_]));rw[Around.under_plainId F.plain_list_iadd _];show wpAny _ A.in1 (Builtin.List.listExtendWith æ (.ref r) æ) _ _ _;refine wpAny_extend_range (A:=A) (R:=λr s'=>match r with
  | .ok (.ret v)=>wpAny À A (match v with
   |.ref a=>do
    let o ←load a
    match o.data with
    |.seq xs _=>pure xs.toList
    |_=>unsupported "internal:collect"
   | _=>unsupported "internal:collect") Q E s'
  |.ok _=>False
  | .error e=>E e s') (s:={ s with heap:=s.heap.push { cls:=.type "list",data:=.seq ([]:Pf).toArray } }) hh (Za _ hr) hsmall hn hlen Ç _ 0 (Zm _ rfl) λh' tk acc c hk hS hacc=>?_
 show wpAny _ A (load Ç >>= _) _ _ _;refine z9 (wpAny_load hS (Zb ?_));exact h h' tk acc (λb o e=>hk b o (Zy (Zs e)) (Za _ e)) hacc
def ZGo(prog:Pj)(w:Pk)(A:Pl)(b:Bool)(ks vs:Pf)(F:Ò)(κ:SortKind)(s:Ph):Prop :=
 ∃lt:Pp,LtOk lt/\(∀i j (C:ß),i<È->j<È->C (lt i j) s->kas_ask prog w A κ (katRev b ks) i j C s) /\
  ∀p:Po,POk È p->LS lt p È->F (katRev b (p.toList.map λi=>(katRev b vs).getD i Value.none)) s
def AK(prog:Pj)(w:Pk)(A:Pl)(b:Bool)(ks vs:Pf)(F:Ò)(s:Ph):Prop :=
 (2<=È->wpAny À A (keyKind' Ö) (ZGo prog w A b ks vs F) Ë s)/\(È<2->F (katRev b ((List.range È).map λi=>(katRev b vs).getD i Value.none)) s)
theorem AC{b:Bool}{st:SortSt}{e e1:Õ}{out:Pf}{P:PySem.Fin->Ph->Prop}(ho:(arrOf st).map (·.2)=List.toArray out)(hz:à<=4096)(hq:ä<=4096)(hf:failedOf st=none)(h:KatFin h₀ L m kS a ks e e1 Ã (λs'=>P (.done (.ret .none)) s') s):wpAny À A (ksk_tail a b e1 (.ref kS) st) P E s:=by
 exists[nw,g,Fq,Nq,Uq,kq],h;exists[l1,l2,e0,hg,x1,x2],Uq.split;rw[e0]at Nq;have ak:=Nq (kS,seqObj "list" Ö e) Ù;have s1:=Z1 Ý kS Â;obtain⟨ck,hck⟩:∃z,(s.heap.update kS Â).get? kS=some (seqObj "list" #[] z):=#[_,get?_update_seq ak.1 λ_=>#[]]
 have K2:=kq _ ck (kas_fr Fq s1 ak.2.1 ak.2.2) (by rw[hg];exact news_set Nq x1 x2 s1 hck);exists[nw2,g2,F2,N2,U2,k2],K2;exists[m1,m2,e2,hg2,y1,y2],U2.split;rw[e2]at N2;have aa:=N2 (a,seqObj "list" #[] e1) Ù;have s2:=Z1 (s.heap.update kS Â) a Î;have hsz:(List.toArray Ã).size=à:=by rw[Zl,kat_len]
 obtain⟨c2,hc2⟩:∃z,((s.heap.update kS Â).update a Î).get? a=some (seqObj "list" (List.toArray Ã) z):=#[_,get?_update_seq aa.1 λ_=>List.toArray Ã]
 unfold ksk_tail;dsimp only;rw[ho,kat_outs];refine z9 (listUpdate_at ak.1 rfl (z9 (wpAny_letGo (z9 (seqEpoch_at aa.1 rfl (z9 (listUpdate_at aa.1 rfl ?_ (ZH _) (Zr (Nat.le_of_eq hsz) (Nat.le_succ_of_le (gP hz))))))))) (by rw[Zl];exact gP hq) (ZH _));rw[hf];simp only[bne_self_eq_false,Bool.false_eq_true,if_false];refine Zb (k2 _ c2 (kas_fr F2 s2 aa.2.1 aa.2.2) ?_);rw[hg2];exact news_set N2 y1 y2 s2 hc2
theorem AB{Fin:Û}{n:Õ}{body:Pi->PUnit->Sem (ForInStep PUnit)}(hn:n<=4096)(hb:∀ x ks e (s:Ph) (C:Pi->Nat->Ph->Prop),List.length ks<4096->wpAny À A (call f [x]) (KatBack h₀ L m kS ks e C) Ë s ->
   wpAny À A (body x ⟨⟩) (λr s'=>r=.yield ⟨⟩/\∃ k c,s'.heap.get? kS=some (seqObj "list" (List.toArray (ks++[k])) c)/\C k c s') E s):∀ (r qs:Pf) (e:Õ) (s:Ph),å+ë=n ->
   s.heap.get? kS=some Ì->KatKeys prog w A h₀ L m kS f Fin r qs e s ->
   wpAny À A (forIn r PUnit.unit body) (λ_ s'=>∃qs e,s'.heap.get? kS=some Ì/\å=n/\Fin qs e s') E s
 | [],qs,e,s,hl,hq,h=>by rw[List.forIn_nil];exact Zb #[qs,e,hq,by simpa using hl,h]
 |x::r,qs,e,s,hl,hq,h=>by rw[Zk]at hl;rw[List.forIn_cons];refine z9 (ZX (hb x qs e s (λk c s'=>KatKeys prog w A h₀ L m kS f Fin r ç c s') ∅ h) (λz s' hz=>?_) λ_ _ x=>x);exists[rfl,k,c,hk',h2],hz;exact AB hn hb r ç c s' (by rw[Zh,Yz];omega) hk' h2
#check 0
def dh:Pn->Pn->Pn
 | [],ns=>0::ns
 |p::ps,ns=>1::p::dh ps ns
theorem zG:∀(ps ns qs ms:Pn),HT.lexLt â ã=if ps=qs then HT.lexLt ns ms else HT.lexLt ps qs
 | [],ns,[],ms=>by rw[dh,dh,HT.lexLt_cons,Pb rfl,Pb rfl]
 | [],ns,q::qs,ms=>by rw[dh,dh,HT.lexLt_cons,Pa ⋯,Pa Å];rfl
 |p::ps,ns,[],ms=>by rw[dh,dh,HT.lexLt_cons,Pa ⋯,Pa Å];rfl
 |p::ps,ns,q::qs,ms=>by
  rw[dh,dh,HT.lexLt_cons,Pb rfl,HT.lexLt_cons,zG ps ns qs ms,HT.lexLt_cons];by_cases h:p=q
  .subst h;rw[Pb rfl,Pb rfl];by_cases h2:ps=qs
   .rw[Pb h2,Pb (by rw[h2])]
   .rw[Pa h2,Pa (λz=>h2 Ú)]
  .rw[Pa h,Pa (λz=>h Ú),Pa h]
inductive ZKey where
 |i (n:Int)|t (ns:Pn)|p (ps ns:Pn)
def ZKey.nums:ZKey->Pn
 |.i n=>[n]
 |.t ns=>ns
 |.p ps ns=>dh ps ns
def ZKey.at(H:Hp):ZKey->V->Prop
 |.i n,v=>v=.int n
 |.t ns,v=>∃a,v=.ref a/\H a=some Ê
 |.p ps ns,v=>∃a b c,v=.ref a/\H a=some (.tup [.ref b,.ref c])/\H b=some (.tup (ps.map V.int))/\H c=some Ê
theorem ZKey.at.same(sm:Same H H'):∀{k:ZKey} {v:V},k.at H v->k.at H' v
 |.i _,_,h=>h
 |.t _,_,⟨a,e,h⟩=>#[a,e,sm _ _ h]
 |.p _ _,_,⟨a,b,c,e,h1,h2,h3⟩=>#[a,b,c,e,sm _ _ h1,sm _ _ h2,sm _ _ h3]
def wJ(ks:Ü):Prop:=∀k∈ks,∃ps ns,k=.p ps ns
theorem pU{A:Pl}{ns ms:Pn}(I:Ï)(hu:A.units+64<cLine)(ha:H a=some Ê)(hb:H b=some (.tup (ms.map V.int))):SeqAt.EqAt A s Þ Ð (decide (ns=ms)):=by exists[as,r1],Dt.reads I.hok _ Þ Þ (jW ha) rfl;exists[bs,r2],Dt.reads I.hok _ Ð Ð (jW hb) rfl;rw[<-jZ];have s1:=fD ns;have s2:=fD ms;refine SeqAt.eqAt_reads _ _ A s _ _ as bs r1 r2 (SeqAt.canLay_of_shaped s1) (SeqAt.canLay_of_shaped s2) ?_;have d1:=SeqAt.depth_of_shaped s1;have d2:=Nat.min_le_left (PyData.tuple (ns.map .int)).depth (PyData.tuple (ms.map .int)).depth;omega
theorem qA{Q:ß}(e1:SeqAt.EqAt A s Ð è (decide (ps=qs)))(e2:SeqAt.EqAt A s (.ref c) é (decide (ns=ms)))(l1:∀R:Pd,R (.bool (HT.lexLt ps qs)) s->wpAny À A (compareOp .Lt Ð è) R Ë s)(l2:∀R:Pd,R (.bool (HT.lexLt ns ms)) s->wpAny À A (compareOp .Lt (.ref c) é) R Ë s)(hf:fin=false)(q:Q (HT.lexLt â ã) s):KatLex prog w A false fin Q ([Value.ref b,.ref c].zip [Value.ref b',.ref c']) 0 s:=by
 subst hf;rw[zG]at q;refine kat_cons (e1 _ _ _ _ (kat_go (λet=>?_) (λef=>?_)))
 .rw[Pb (Yd et)]at q;refine kat_yes (kat_cons (e2 _ _ _ _ (kat_go (λet2=>?_) (λef2=>?_))))
  .have z:=Yd et2;subst z;have e:HT.lexLt ns ns=false:=by
    cases h:HT.lexLt ns ns with
    |false=>rfl
    |true=>rw[xR h]at h;cases h
   rw[e]at q;exact kat_yes (kat_nil q)
  .exact kat_no (kat_one _ _ (l2 _ q))
 .rw[Pa (Y3 ef)]at q;exact kat_no (kat_one _ _ (l1 _ q))
section
variable{X:Cx}{Pr:Pc}{Z:St}{H:Hp}{s:Ph}{h':Heap}
def AJ(X:Cx)(s:Ph)(l:Pg)(xs:Ø):Prop:=∀Q:Pf->Ph->Prop,(∀h' tk its,Æ->Vals xs its->Q its { s with heap:=h',toks:=tk })->wpAny (model X.prog X.w) X.A.in1 (collect (.ref l)) Q X.xe s
theorem Eb(I:Ï)(hH:H l=some ê)(hz:É<=4096):AJ X s l xs:=λQ h=>by exists[z,its,n,rv,hlen,e],I.lstM hH;have li:Ô=É:=hlen.symm;refine collect_list #[_,e,rfl,n,rfl] (h _ s.toks its (λb o g=>?_) rv) (gP ∅);rw[Heap.get?_update_ne _ _ _ _ (Zy (Zs g))];exact Za _ g
structure SGZ(X:Cx)(Pr:Pc)(Z:St)(H1:Hp)(m:Pe)(kS D:Pg)(e1:Õ)(ks:Ü)(as:Ø)(us:Pf)(e:Õ)(H:Hp)(s:Ph):Prop where
 I:Inv X Pr Z H s
 sm:Same H1 H
 fk:cE X Pr H kS
 fd:cE X Pr H D
 bk:X.base.get? kS=none
 bd:X.base.get? D=none
 hk:s.heap.get? kS=some Í
 hd:s.heap.get? D=some Ñ
 ns:s.heap.Ns Ä m
 vals:Vals as us
 keys:∀(i:Õ) (a:V) (k:ZKey),as[i]?=some a->ks[i]?=some k->k.at H a
theorem SGZ.fr{e1:Õ}{e:Õ}(S:SGZ X Pr Z H1 m kS D e1 ks as us e H s):Fr á Ä Ý m:=#[S.ns,S.I.bk,Zr S.I.ok.bsz S.I.ok.above]
theorem sS{e1:Õ}{ks:Ü}{Fin:Û}(hne:kS≠D)(rv:Vals xs its)(hl:ä=É)(F:wg X Pr Z f sp)(spec:∀(i:Õ) (v:V) (key:ZKey) (H':Hp),xs[i]?=some v->ks[i]?=some key->Same H1 H'->∀R:VK,(∀kv H'',Same H' H''->key.at H'' kv->R kv H'')->sp [v] H' R E0)(fin:∀(as:Ø) (us:Pf) (e:Õ) (H:Hp) (s:Ph),SGZ X Pr Z H1 m kS D e1 ks as us e H s->Á=É->Fin us e s):
  ∀(r:Pf) (as:Ø) (us:Pf) (e:Õ) (H:Hp) (s:Ph),SGZ X Pr Z H1 m kS D e1 ks as us e H s->its=its.take Á++r->Á+ë=É ->
   KatKeys X.prog X.w X.A.in1.in1 á Ä m kS (.ref f) Fin r us e s
 | [],as,us,e,H,s,S,_,hlen=>KatKeys.nil (fin as us e H s S (by simpa using hlen))
 |u::r,as,us,e,H,s,S,hits,hlen=>by
  have hi:Á<É:=by rw[Zk]at hlen;omega
  have hx:xs[Á]?=some xs[Á]:=Zf hi;exists[u',gu,ru],rv.get hx;have hlt:Á<Ô:=by rw[<-rv.length];exact hi
  have gu':its[Á]?=some u:=by rw[hits,Yr (by rw[y7];omega),y7,Nat.min_eq_left ∅,Nat.sub_self];rfl
  rw[gu']at gu;cases gu;have hkey:ks[Á]?=some (ks[Á]'∅):=Zf ∅;generalize ks[Á]'∅=key at hkey;refine KatKeys.cons (wpAny_call (codeAny_mono (F s H u xs[Á] (λv H''=>Same H H''/\key.at H'' v) S.I ru (spec _ _ _ H hx hkey S.sm _ λkv H'' s' q=>#[s',q])) λres s' hq=>?_));cases res with
  |error e=>exact hq
  |ok fl =>
   cases fl with
   |next=>exact False.elim hq
   |brk=>exact False.elim hq
   |cont=>exact False.elim hq
   |ret uv =>
    exists[v,H'',os,bare,un,hok,rvv,sm,ea],hq;exists[hh,g,d,t,os'],s';obtain rfl:os'=s.os:=os;have I2:Inv X Pr Z H'' { s with heap:=hh,gens:=g,drawn:=d,toks:=t }:=S.I.call (h':=hh) (g':=g) (d':=d) (t':=t) (ch:=[]) un hok bare (λb z=>absurd z Å);have nstk:∀{b:Pg},cE X Pr H b->b∉frs X.stack:=fun{b} fo z=>(Zg.mp (S.I.stkSub b z)).elim fo.2.1 fo.2.2.1;have hk2:hh.get? kS=some Í:=un.keep kS _ S.hk S.fk.1 (nstk S.fk) Å;have hd2:hh.get? D=some Ñ:=un.keep D _ S.hd S.fd.1 (nstk S.fd) Å;have ns2:hh.Ns Ä m:=by exists[o,es,ep,ho,rr],id S.ns;exists[sl,hL],un.any ho S.I.free Å;exact#[_,es,ep,hL,rr]
    have fk2:cE X Pr H'' kS:=#[un.free kS _ S.hk S.fk.1 Å,S.fk.2]
    have fd2:cE X Pr H'' D:=#[un.free D _ S.hd S.fd.1 Å,S.fd.2]
    have hkL:kS≠Ä:=S.fk.2.1;refine KatBack.intro (news:=(kS,seqObj "list" (List.toArray us) e)::jS á hh Ä kS) ⟨ns2,I2.bk,Zr S.I.ok.bsz S.I.ok.above⟩ (kE hk2 hkL S.bk) (.head nJ) λh3 c F3 N3=>?_;have mv:=kC (λb o q=>I2.bk b o q) F3 N3;have I3:Inv X Pr Z H'' { s with heap:=h3,gens:=g,drawn:=d,toks:=t }:=Inv.movedF (ch:=[kS]) (t':=t) I2 (λb hb=>by rw[Zi.mp hb];exact fk2) mv #[m,ns2,F3.ns];refine sS hne rv hl F spec fin r (as++[v]) (us++[uv]) c H'' _ #[I3,S.sm.trans sm,fk2,fd2,S.bk,S.bd,(N3 _ (.head _)).1,mv D _ S.fd.2.1 (λz=>hne (Zi.mp z).symm) hd2,F3.ns,S.vals.append (.cons rvv .nil),λi b key' h1 h2=>?_] ?_ ?_
    .by_cases hi2:i<Á
     .rw[List.getElem?_append_left hi2]at h1;exact(S.keys i b key' h1 h2).same sm
     .have hi3:=(Zz.mp h1).1;rw[Zh,Yz]at hi3;have e3:i=Á:=∅
      subst e3;rw[Yr (Ze _),Nat.sub_self]at h1;cases h1;rw[hkey]at h2;cases h2;exact ea
    .rw[Zh,Yz,List.take_add_one,gu',Option.toList_some,Y8];exact hits
    .rw[Zh,Yz,<-hlen,Zk];omega
#check 0
def ND(j:Int)(t u v:Tok):Obj:={ cls:=.type "range",data:=.fields (List.toArray [.int 0 t,.int j u,.int 1 v]) }
def JT(H:Hp)(l:Pg)(xs:Ø):Prop:=H l=some ê\/∃(n:Õ) (t u v:Tok),n<=4096/\H l=some (oF l (ND (n:Int) t u v))/\xs=(List.range n).map λi:Nat=>V.int (i:Int)
section
variable{X:Cx}
theorem Js(hc:X.calm=true)(I:Ï)(h:JT H l xs)(hz:É<=4096):AJ X s l xs:=by
 rcases h with h|⟨n,t,u,v,hn,h,rfl⟩
 .exact Eb I h hz
 .intro Q hq;have hr:IsRange Ý l 0 (n:Int) 1 t u v:=(I.hok l _ h).1;have hh:X.A.in1.handled=none:=I.ok.hd hc;have h1:Builtin.Range.rangeSize 0 (n:Int) 1=((n:Õ):Int):=by rw[rangeSize_one];split<;>omega
  refine tJ hh hr (small_one ∅ ∅ ∅ ∅) h1 ∅ λh' tk acc kp hI=>hq h' tk Ó kp ?_;have go:∀(its:Pf) (k:Õ),(∀(i:Õ) (v:Pi),its[i]?=some v->∃t,v=.int ((k+i:Nat):Int) t)->Vals ((List.range' k Ô).map λi:Nat=>V.int (i:Int)) its:=by
   intro its;induction its with
   |nil=>intro k _;exact .nil
   |cons x its ih =>
    intro k hx;exists[t,rfl],hx 0 x rfl;rw[Zk,List.range'_succ,Zn];refine .cons #[t,?_] (ih (k+1) λi v hv=>?_)
    .rfl
    .exists[t,e],hx (i+1) v hv;exact#[t,by rw[e];congr 2;omega]
  have e:=go Ó 0 λi v hv=>by exists[t,e],hI.2 i v (by rw[<-hv,YA]);refine#[t,by rw[e];congr 1;omega]
  rw[ZM,hI.1]at e;rw[List.range_eq_range'];exact e
#check 0
end
end Lake
set_option maxHeartbeats 4000000
namespace PySem
open Sem (wp)
mutual
#check#[(∀b o,s.heap.get? b=some o->h'.get? b=some o),s.heap.objs.size,(tupleKind knd),(model prog w),(Pg×List K×Pg×Pi),(o.cls=.type "list"),(List.toArray [.ref l,.int 0 0]),(A.handled=none),(∃o,Heap.get? h' a=some o/\o.cls=.type "AttributeError"),(s.heap.get? a=some o),ps.length,(o.data=.seq its n),(List K×Pg×Pi),(.ref a),s.heap.push,(o.dict=none),(items.toList=ps.map λp=>Value.ref p.1),(∀p∈ps,PairAt knd s.heap p),(KeyKind prog w K),(wpAny_load (Zm _ rfl) ?_),(.type "list"),(.type "AttributeError"),(pyNext (.ref it) >>= _),0,(λz=>hb (Zi.mpr z)),(k02 _ _ e),s.toks,(Result->Ph->Prop),(by size_fits),(.ref ps[i].1),h2.push,(nomatch hx),o.cls,hnew.typeIs,(List Ì),(List Ä),(Zm _ rfl),xs.length,(λz=>?_)]
section
variable{prog:Pj}{w:Pk}{A:Pl}{E:Pd}{s:Ph}
theorem rn:isSubtype Õ Õ=pure true:=by rw[isSubtype_type];kernel_rfl
theorem BE{α:Type}{self:Pi}{name msg:Str}{Q:α->Ph->Prop}(hm:msg.length<=sizeLine)(hh:Ç)(hE:∀a h',È->À->E Í { s with heap:=h',toks:=Ú+1+1 }) :
  wpAny Ã A (raiseAttrError self name msg) Q E s:=by
 unfold raiseAttrError;refine z9 (wpAny_mkStr ?_ hm);refine z9 ?_;simp only[newExc,newTuple];refine z9 (ZS ?_ Ü);refine z9 (m:=firstArgMember _ _) (wpAny_of_eq (a:=Value.none) (by first|rfl|(simp only[firstArgMember];rfl)) ?_);refine ZS ?_ Ü;refine z9 (wpAny_mkText ?_);refine z9 ?_;unfold noteAttr;dsimp only;refine z9 ?_;unfold lacksNameAndObj;dsimp only;refine z9 (wpAny_isInstance (T:="AttributeError") (b:=true) #[_,Zm _ rfl,rfl] rn ?_);simp only[Bool.not_true,Bool.false_eq_true,if_false];refine z9 Ó;show wpAny _ _ (pure true) _ _ _;refine Zb ?_;simp only[if_true];refine z9 (YF ?_);refine z9 (wpAny_typeOf #[_,Zm _ rfl,rfl] ?_);dsimp only;unfold layMembers;refine z9 Ó;dsimp only;refine wpAny_update ä ?_;unfold raiseNew;refine z9 (wpAny_handled ?_);rw[hh];dsimp only;refine z9 (Zb (wpAny_throw ?_));refine hE _ _ #[_,Yc _ ä rfl,rfl] λb o e=>?_;have e1:(Î { cls:=Value.type "tuple",data:=Data.seq (List.toArray [Value.str msg Ú]) }).get? b=some o:=Za _ e;exact(y9 _ _ (ZQ (Zy (Zs e1)))).trans (Za _ e1)
variable{a:Pg}{o:Obj}
theorem xT:typeLookup Ô "keys" = pure none:=by rw[typeLookup_type,builtinLookup_eq_fast];kernel_rfl
theorem rZ:typeLookup Ô "__getattr__" = pure none:=by rw[typeLookup_type,builtinLookup_eq_fast];kernel_rfl
def sX(s:Ph)(E:Pd):Prop:=∀a h' t',È->À->E Í { s with heap:=h',toks:=t' }
theorem xX(hx:É)(hc:Å)(hdd:Ï){n:Nat}(hdat:Ë)(hh:Ç)(hE:sX s E):
  wpAny Ã A (Builtin.«object.__getattribute__» #[[.ref a,.str "keys" tk],[]]) Q E s:=by
 exists[h,g,d,t,os],s;have hT:(#[h,g,d,t,os]:Ph).TypeIs Í "list":=#[_,hx,hc]
 have f4:=xT
 repeat(any_goals(first|assumption|wp_step))
 rw[hdat];dsimp only;unfold instanceDict
 repeat(any_goals(first|assumption|wp_step))
 rw[hc,hdd];dsimp only;rw[Pb (by rfl)]
 repeat(any_goals(first|assumption|wp_step))
 refine BE ⋯ hh λa h' ho hk=>hE a h' _ ho hk
theorem yY{R:Û}(hx:É)(hc:Å)(hdd:Ï){n:Nat}(hdat:Ë)(hh:Ç)(hE:sX s λe s'=>R (.error e) s'):
  codeAny Ã A (.call (.builtin "list.__getattribute__") #[[.ref a,.str "keys" tk],[]]) R s:=by
 refine codeAny_call_builtin F.slot_list_getattribute.plain F.entry_list_ga (F.slot_list_getattribute.check _ _ _ _ _ _ _ _ (show s.TypeIs Í "list" from#[_,hx,hc]) (F.args_list_getattribute_2 _ _) (xX hx hc hdd hdat ?_ hE));exact hh
theorem De(hx:É)(hc:Å)(hdd:Ï){n:Nat}(hdat:Ë)(hh:Ç)(hE:sX s E):
  wpAny Ã A (getAttrBy Í (.str "keys" tk) false) Q E s:=by
 have hT:s.TypeIs Í "list":=#[_,hx,hc]
 have f2:=F.slot_list_getattribute.lookup;have f3:=F.slot_list_getattribute.bind Í;unfold getAttrBy;refine ZU (z9 (wpAny_typeOf hT (z9 (wpAny_of_eq f2 ?_))));show wpAny _ _ (getAttrByItsOwn _ _ _ _ _ _) _ _ _;unfold getAttrByItsOwn;refine z9 ?_;show wpAny _ _ (pure none) _ _ _;refine Zb (z9 (YV (ZU ?_)));show wpAny _ _ (boundAndCalled _ _ _) _ _ _;unfold boundAndCalled;refine z9 (wpAny_of_eq f3 ?_);refine wpAny_call (yY hx hc hdd hdat hh ?_);rintro a' h' t' ⟨o',e1,e2⟩ hk;show wpAny _ _ (getattributeRaised _ _ _ _ _ _ _) _ _ _;unfold getattributeRaised;refine z9 (wpAny_isInstance (T:="AttributeError") (b:=true) #[_,e1,e2] rn ?_);rw[Pb rfl];refine z9 ?_;show wpAny _ _ (typeLookup Ô "__getattr__") _ _ _;refine wpAny_of_eq rZ ?_;show wpAny _ _ (throw _) _ _ _;exact wpAny_throw (hE a' h' t' #[o',e1,e2] hk)
theorem KA{Q:Option Pi->Ph->Prop}(hx:É)(hc:Å)(hdd:Ï){n:Nat}(hdat:Ë)(hh:Ç)(hQ:∀h' t',À->Q none { s with heap:=h',toks:=t' }):wpAny Ã A (getAttr? Í "keys") Q E s:=by unfold getAttr? getAttrBy?;refine z9 (wpAny_mkText (z9 (YV (De (s:={ s with toks:=Ú+1 }) hx hc hdd hdat hh ?_))));rintro a' h' t' ⟨o',e1,e2⟩ hk;dsimp only;refine z9 (wpAny_isInstance (T:="AttributeError") (b:=true) #[_,e1,e2] rn ?_);rw[Pb rfl];exact Zb (hQ h' t' hk)
#check 0
section
variable{prog:Pj}{w:Pk}{K:Type}[DecidableEq K]{knd:Ò}
theorem lA:entryFor table "dict.update.loop" = some Builtin.«dict.update.loop»:=entryFor_of_tree (by kernel_rfl)
theorem fO:plainId "dict.update.loop" = true:=⋯
structure PairAt(knd:Ò)(h:Heap)(p:Ä):Prop where
 tup:∃o n,h.get? p.1=some o/\à=.type "tuple"/\o.data=.seq (List.toArray [.ref p.2.2.1,p.2.2.2]) n
 key:IsTupleKey knd h p.2.1 p.2.2.1
theorem PairAt.keeps{h h':Heap}{p:Ä}(x:PairAt knd h p){B:List Pg}(hB:∀b∈B,∃o,h.get? b=some o/\à≠.type "tuple")(hk:∀b o,¬b∈B->h.get? b=some o->h'.get? b=some o):PairAt knd h' p:=by
 obtain⟨⟨o,n,e1,e2,e3⟩,o',its,n',f1,f2,f3,f4⟩:=x;refine#[#[o,n,hk _ _ æ e1,e2,e3],o',its,n',hk _ _ æ f1,f2,f3,f4]
 .exists[q,q1,q2],hB _ z;rw[e1]at q1;cases q1;exact q2 e2
 .exists[q,q1,q2],hB _ z;rw[f1]at q1;cases q1;exact q2 f2
theorem zm(xs:â)(k:List K)(a:Pg)(v:Pi):(storedH xs k a v).length<=å+1:=by
 unfold storedH;split
 .rw[Zd];omega
 .rw[Zh];exact Ze _
def sU(xs:â)(ps:ã):List Ì:=ps.foldl (λxs p=>storedH xs p.2.1 p.2.2.1 p.2.2.2) xs
variable{A:Pl}{R:Û}
theorem Ct{items:Array Pi}{ps:ã}(hps:Ð)(hu:(tupleKind knd).room A.in1)(hh:A.in1.handled=none)(res:Pi)(nl:l≠it)(nld:l≠d)(ndi:d≠it):
  ∀(k i:Nat) (s:Ph) (xs:â),Ê-i=k->i<=Ê->s.heap.IsListIter it l i->s.heap.IsList l items->s.heap.DictOfH Â d xs->Ñ->å+k<=sizeLine ->
  (∀h' t',h'.DictOfH Â d (sU xs (ps.drop i))->(∀b o,b≠d->b≠it->s.heap.get? b=some o->h'.get? b=some o)->R (.ok (.ret res)) { s with heap:=h',toks:=t' }) ->
  codeAny Ã A (.builtin "dict.update.loop" #[[.ref d,.ref it,rawInt i,res],[]]) R s:=by
 intro k;have hsz:items.size=Ê:=by rw[<-ZM,hps,Zd]
 induction k with
 |zero =>
  intro i s xs hk hi hit hl hd hp hz hR;have hin:i=Ê:=∅
  subst hin;refine codeAny_builtin lA ?_;rw[Around.under_plainId fO _];show wpAny _ A.in1 Ö _ _ s;refine z9 (wpAny_pyNext_list_end hh hit hl (by rw[<-hsz];simp) λh' he=>?_);show wpAny _ _ (Builtin.Dict.addKeywords d [] >>= _) _ _ _;refine z9 (Zb (Zb ?_));exists[o,es,ep,q1,q2,q3,q4,q5,q6],hd;refine hR h' Ú #[o,es,ep,he _ _ ndi q1,q2,q3,?_,λx hx=>?_,?_] λb o _ hb e=>he b o hb e
  .rw[List.drop_length];exact q4
  .rw[List.drop_length]at hx;exists[o',its',n',f1,f2,f3,f4],q5 x hx;exists[oi,i1,i2,i3],hit;exact#[o',its',n',he _ _ (λz=>by rw[z,i1]at f1;cases f1;rw[i2]at f2;exact absurd f2 ⋯) f1,f2,f3,f4]
  .rw[List.drop_length];exact q6
 |succ k ih =>
  intro i s xs hk hi hit hl hd hp hz hR;have hlt:i<Ê:=∅
  have hx:items[i]?=some Ý:=by rw[<-YA,hps,Zx,Zf hlt];rfl
  refine codeAny_builtin lA ?_;rw[Around.under_plainId fO _];show wpAny _ A.in1 Ö _ _ s;refine z9 (wpAny_pyNext_list_item hit hl hx λh1 hit1 hs1=>?_);have hitc:∃o,s.heap.get? it=some o/\à≠.type "tuple":=by exists[oi,i1,i2,i3],hit;exact#[oi,i1,by rw[i2];decide]
  have hp1:∀p∈ps,PairAt knd h1 p:=λp hm=>(hp p hm).keeps (B:=[it]) (λb hb=>by rw[Zi.mp hb];exact hitc) λb o hb e=>hs1.extBut b o Ø e;have hl1:h1.IsList l items:=hl.extBut hs1.extBut nl;have hd1:h1.DictOfH Â d xs:=by exists[o,es,ep,q1,q2,q3,q4,q5,q6],hd;refine#[o,es,ep,hs1.extBut _ _ ndi q1,q2,q3,q4,λx hx=>?_,q6];exists[o',its',n',f1,f2,f3,f4],q5 x hx;exists[oi,i1,i2],hitc;exact#[o',its',n',hs1.extBut _ _ (λz=>by rw[z,i1]at f1;cases f1;exact i2 f2) f1,f2,f3,f4]
  obtain⟨⟨ot,nt,t1,t2,t3⟩,hkey⟩:=hp1 ps[i] (ZL hlt);have hT:Shared.TypeIs { s with heap:=h1 } Ý "tuple":=#[ot,t1,t2]
  dsimp only;refine z9 (ZU ?_);refine z9 (wpAny_tryCatch ?_);unfold Builtin.Dict.pairItems;refine z9 (wpAny_typeOf hT ?_);rw[Pb ⋯];refine z9 (YY t1 t3 (Zb ?_));show wpAny _ _ (holding [.ref ps[i].2.2.1,ps[i].2.2.2] (dictSet d (.ref ps[i].2.2.1) ps[i].2.2.2)) _ _ _;refine ZU (wpAny_dictSet_heap (s:={ s with heap:=h1 }) (hsz:=by omega) hu hkey hd1 λh2 hd2 hs2=>?_);have hdc:∃o,h1.get? d=some o/\à≠.type "tuple":=by exists[o,es,ep,q1,q2,_],hd1;exact#[o,q1,by rw[q2.1];decide]
  have hit2:h2.IsListIter it l (i+1):=by exists[oi,i1,i2,i3],hit1;exact#[oi,hs2.extBut _ _ (ZQ ndi) i1,i2,i3]
  have hp2:∀p∈ps,PairAt knd h2 p:=λp hm=>(hp1 p hm).keeps (B:=[d]) (λb hb=>by rw[Zi.mp hb];exact hdc) λb o hb e=>hs2.extBut b o Ø e;refine Zb #[plainId_quiet fO _,?_];have:=zm xs ps[i].2.1 ps[i].2.2.1 ps[i].2.2.2;refine ih (i+1) { s with heap:=h2,toks:=Ú+(tupleKind knd).draws ps[i].2.1 } _ ∅ ∅ hit2 (hl1.extBut hs2.extBut nld) hd2 hp2 ∅ λh' t' hd' hk'=>?_;refine hR h' t' ?_ λb o hb1 hb2 e=>hk' b o hb1 hb2 (hs2.extBut b o hb1 (hs1.extBut b o hb2 e));rw[Yy hlt];exact hd'
#check 0
section
variable{prog:Pj}{w:Pk}{K:Type}[DecidableEq K]{knd:Ò}{A:Pl}{E:Pd}{s:Ph}
theorem rC{items:Array Pi}{n:Nat}{ps:ã}{Q:Pd}(hx:s.heap.get? l=some o)(hc:Å)(hdd:Ï)(hdat:o.data=.seq items n)(hps:Ð)(hp:Ñ)(hsz:Ê<=sizeLine)(hu:A.units+5<cLine)(hh:Ç)(h:∀h' t',h'.DictOfH Â Á (sU [] ps)->À->Q (.ref Á) { s with heap:=h',toks:=t' }):
  wpAny Ã A (call (.type "dict") [.ref l]) Q E s:=by
 refine callType_codes (Q₁:=λobj s₁=>obj=.ref Á/\s₁={ s with heap:=Î { cls:=.type "dict",data:=.dict #[] } }) F.kt_called_dict (F.kt_typeCall_dict_1 _) F.entry_dict_init (kt_code_dict_new _ #[rfl,rfl]) ?_;rintro obj s₁ ⟨rfl,rfl⟩;have hnew:(Î { cls:=.type "dict",data:=.dict #[] }).DictOfH Â Á []:=Heap.DictOfH.new s.heap;refine#[á,F.args_dict_init_2 _ _,?_];unfold Builtin.«dict.__init__»;refine z9 ?_;unfold Builtin.Dict.selfAndRest;refine z9 (wpAny_notOrdered_dict á ?_);show wpAny _ _ (pure (Á,[Value.ref l])) _ _ _;refine Zb ?_;show wpAny _ _ (Builtin.Dict.updateFrom "dict.__init__" s.heap.objs.size (.ref l) [] .none) _ _ _;have hx1:(Î { cls:=.type "dict",data:=.dict #[] }).get? l=some o:=Za _ hx;unfold Builtin.Dict.updateFrom;refine z9 (wpAny_typeOf (T:="list") #[o,hx1,hc] ?_);rw[Pb ⋯];refine z9 (KA (s:={ s with heap:=Î { cls:=.type "dict",data:=.dict #[] } }) hx1 hc hdd hdat hh λh2 t2 hk2=>?_);rw[Pb (show(none:Option Pi).isNone=true from rfl)];refine z9 (YF ?_);have hx2:h2.get? l=some o:=hk2 _ _ hx1;have hl2:h2.IsList l items:=#[o,hx2,hc,n,hdat]
 exists[od,es,ep,d1,d2,d3,d4,d5,d6],hnew;have k02:∀b q,s.heap.get? b=some q->h2.get? b=some q:=λb q e=>hk2 _ _ (Za _ e);have hd2:h2.DictOfH Â Á []:=#[od,es,ep,hk2 _ _ d1,d2,d3,d4,λx hx=>ß,d6]
 refine z9 (wpAny_pyIter_list (s:={ s with heap:=h2,toks:=t2 }) hl2 ?_);have hp3:∀p∈ps,PairAt knd (Þ { cls:=.type "list_iterator",data:=.fields Æ }) p:=λp hm=>(hp p hm).keeps (B:=[]) (λb hb=>(nomatch hb)) λb q _ e=>Za _ Ù;exists[od',es',ep',d1',d2',d3',d4',_,d6'],id hd2;have hd3:(Þ { cls:=.type "list_iterator",data:=.fields Æ }).DictOfH Â Á []:=#[od',es',ep',Za _ d1',d2',d3',d4',λx hx=>ß,d6']
 have nsz:∀{b q},h2.get? b=some q->b≠h2.objs.size:=λe=>Zy (Zs e);have nld:l≠Á:=Zy (Zs hx);refine Zb #[plainId_quiet fO _,Ct (A:=A.in1) (knd:=knd) (ps:=ps) hps (by show A.units+1+1<cLine;omega) hh .none (nsz hx2) nld (nsz d1') Ê 0 { s with heap:=Þ { cls:=.type "list_iterator",data:=.fields Æ },toks:=t2 } [] (Nat.sub_zero _) (ZH _) #[_,Zm _ rfl,rfl,rfl] #[o,Za _ hx2,hc,n,hdat] hd3 hp3 (by show 0+Ê<=sizeLine;omega) λh' t' hd' hk'=>#[rfl,?_]];refine h h' t' hd' λb q e=>hk' b q (Zy (Zs e)) (nsz Ù) (Za _ Ù)
#check 0
end
end PySem
namespace Lake
open PySem PySem.Spec PyProof.Rows PySem.W
mutual
#check#[(Obj.mapSeq λ_=>(#[]:Array Pi)),s.heap.objs.size,((List.toArray (katRev b ks)).zip (List.toArray (katRev b vs))),xs.length,(seqObj "tuple" vs.toArray 0),(seqObj "list" #[] 0),(model prog w),vs.length,(katRev b (p.toList.map λi=>(katRev b xs).getD i .non)),(∀(i:Nat) (v:V) (key:ZKey) (H':Hp),xs[i]?=some v->ks[i]?=some key->Same H H'->∀R:VK,(∀kv H'',Same H' H''->key.at H'' kv->R kv H'')->sp [v] H' R E0),(λout=>KatFin h₀ L m kS a ks e e1 out (λs3=>P (.done (.ret .none)) s3)),(λxs H Q=>∃l vs qs,xs=[.ref l]/\H l=some (.lst vs)/\Paired (xf H) vs qs/\Ç<=1000/\∀d,H d=none->Q (.ref d) (upd H d (.dT (bR [] qs)))),(by simp),(ks.map ZKey.nums),kvs.length,(Option (List Key)),s.heap,(List (List Key×V)),(Obj.mapSeq (·++its.toArray)),(seqObj "list" its.toArray 0),(by rw[h]at z;cases z),X.prog,(.frz o (.dT kvs)),0,(λq (p:Pg×List Key×Pg×Pi)=>q.1=p.2.1/\H p.2.2.1=some (.tup (q.1.map kV))/\RelV q.2 p.2.2.2),(gY prog w k),(.tup (p.1.map kV)),(Inv X Pr Z H s),X.env,(∀(j:Nat) (x:jq),xs[j]?=some x->x.1≠k),(λi w k' h1 h2=>h (i+1) w k' h1 (by rw[show n+(i+1)=n+1+i by omega];exact h2)),(ODict prog w h d o es ep xs),(Yx D.ho D.hd (z9 (Ab hu (D.his x (Z2 h1)) hkey (z9 (Yx D.ho D.hd ?_))))),(apos.endLine==cpos.line),(λi j=>HT.lexLt ((katRev b Í).getD i []) ((katRev b Í).getD j [])),(∀(i:Nat) (v:V) (k:ZKey),vs[i]?=some v->ks[n+i]?=some k->k.at H' v),(λi v k h1 h2=>S.keys i v k h1 (by rw[Nat.zero_add]at h2;exact h2)),(X.env.qual++"<lambda>"),(Array DictEntry),(X.A.units+64<cLine),(by show X.A.in1.units<cLine;simp only[Around.in1_units];omega),X.env.locals,vs.toArray,w.params,(bu prog w),(seqObj "list" vs.toArray 0),(ODict prog w Ð d o es ep xs),(PySem.Fin->Ph->Prop),(OIs prog w Ð k key),(List (OK1×Pg)),(s.heap.get? a=some (seqObj "list" vs.toArray n)),(kS,seqObj "list" #[] 0),(D,seqObj "list" #[] e1),(A.units<cLine),(Nat),0,(∀l,cK kls (okD e)=some l->Q (.ref l) H3),es.size,(thn (ho.h Pr s Z H _ I h) λu s1 hz9=>?_),(.dT kvs),(seqObj "list" #[] e1),(nsIn K mainGlobals x=some (some (.ref C))),(findIn K (.ref C) m=some (some (.ref f))),o.ExactDict,z.length,(λks e s'=>AK prog w A b ks vs Ê s'),(by rw[<-z];exact e),(model Õ X.w),(Bool->Ph->Prop),its.length,(λzz=>hx (by rw[Zi.mp zz];simp)),s1.heap.objs.size,(List Key×Pg×Pi),(ZL (show n<ks.length by omega)),(List Key),(λs4=>EP X Pr Z Q (.ref D) s4),(by rw[Nat.add_zero];exact hkn),es.toList,ks.length,X.base,(wpAny_notOrdered_dict ty' ?_),(Obj.data_mapDictKeys D.hd _),tactic.hygienic,vs.toArray.size,(eval o Ü),(X.calm=true),(d==sysModules),(∀i∈rest,i∈oPl es Ù),(go _ λi j C hi hj hC=>?_),(λb u _ e=>e),(λb s' h=>?_),(Zb ?_),(bR [] qs),(he.h Pr s1 Z H1 _ I1 q1),(hf.h Pr s2 Z H2 _ I2 q2),(Obj.mapSeq (·.push k)),(Ze _),X.w,(iQ prog w x),(katRev b xs),(.head _),(Pg×List Key×Pg×Pi),(List Key×V),(I.ok.hd hc),([]:List Pq),(λi rest b s' h=>?_),(Zb (hsome i x h1 e)),(vq hu hkey λtk=>?_),(by rw[h1,h2,h3];rfl),X.A.in1.in1,(Obj.mapSeq λ_=>ê),(by rw[hd];exact Zt),(.ref D),(vs.toArray.zip ê),(.builtin "sorted"),(hold j x tk h1 h2),(starEach [e,f] Ü),(Heap),o.data,s.toks,X.K,(by rw[Zx,hj];rfl),(pI K x m=some (c,P)),(News h₀ L Ð news),X.A.in1.in1.units,(λj x h1 h2=>?_),(false,eval e Ü),(false,eval f Ü),(List V),(ZH _),(aS kvs p.1 p.2),(by simp[iQ,h3]),(Di hkey hst ?_),(OIs prog w Ð k v),(ItD o a),(okD e.1),(.lst È),0,(a==sysModules),(xs.map (·.1)),(all j y g1 g2),(all j x h1 h2),(odO P w d kls),(List.range Ç),x.length,(.type "dict"),(.ref a),(y,cy),(EP X Pr Z Q),(kas_item it),(kas_item Â),(Fr h₀ L Ð m),fd.code,(.frz o' u'),(λ_=>z9 ě),(λv hv=>?_),(YF ?_),(okD e),(upd H a u),(iQ prog w),(ks[n]'∅),kls.length,p.size,(i+1),(.frz o u),(Za _ ho1),(sub i Zq),(Zm _ rfl),(.head nJ),(H a=some û),(Ç<64),ps.length,ys.length,fs.length,ws.length,(K ë),(.tup xs),(.tbl ps),(.lst xs),(none,()),(Zj _ hi),(okV e.1),(.ref l0),(.ref kS),(qs++[k]),oa.ob,X.mg]
def bR(kvs:Ñ)(ps:Ñ):List Ħ:=ps.foldl (λkvs p=>aS kvs p.1 p.2) kvs
def xf(H:Hp)(v:V)(p:Ħ):Prop:=∃t a,v=.ref t/\H t=some (.tup [.ref a,p.2])/\H a=some Ú
theorem FL:∀{qs:Ñ} {ps:List ĥ} {kvs:Ñ} {xs:List Ĉ},KT H kvs xs->Paired Ø qs ps->KT H (bR kvs qs) (sU xs ps):=by
 intro qs ps kvs xs r h;induction h generalizing kvs xs with
 |nil=>exact r
 |@cons q p _ _ z _ ih =>show KT H (bR (aS kvs q.1 q.2) _) (sU (storedH xs p.2.1 p.2.2.1 p.2.2.2) _);refine ih ?_;rw[<-z.1];exact r.put q.1 z.2.1 z.2.2
theorem DM(ps:Ñ):∀kvs:List Ħ,(bR kvs ps).length<=Î+ū:=by
 induction ps with
 |nil=>intro kvs;exact Ze _
 |cons p ps ih =>intro kvs;have h1:=ih ł;have h2:=jb kvs p.1 p.2;show(bR ł ps).length<=_;rw[Zk];omega
section
variable{X:Cx}
set_option Ē true in theorem AU(hc:ĕ)(hu:ç):fZ X ő Ë:=by
 intro Pr s Z H xs us Q I r h;exists[l,vs,qs,rfl,hl,hq,lv,q],h;exists[u,rfl,rx],eU r;cases rx;obtain⟨its,rv,⟨o,n',e,c1,c2,d1⟩,hz⟩:=I.list (Pu hl);have gen:∀{vs:ŀ} {its:Pf} {qs:Ñ},Paired (xf H) vs qs->Vals vs its->∃ps:List ĥ,its=ps.map (λp=>Value.ref p.1)/\(∀p∈ps,PairAt (bu Õ ġ) Ð p)/\ū=qs.length/\Paired Ø qs ps:=by
  intro vs its qs hp rv;induction hp generalizing its with
  |nil=>cases rv;exact#[[],rfl,λp hp=>(nomatch hp),rfl,.nil]
  |@cons v p _ _ hv _ ih =>
   cases rv with
   |@cons _ u _ us ru rr =>
   exists[ps,i1,i2,i3,i4],ih rr;exists[t,a,rfl,e1,e2],hv;cases(show u=Value.ref t from ru);exists[_,its2,r2,o2,g1,g2,n2,g3],(show ObjOk Õ ġ H Ð t (.tup [.ref a,p.2])from I.hok t _ e1)
   cases r2 with
   |cons ra r2 =>
    cases r2 with
    |cons rb r2 =>
     cases r2;cases(show _=Value.ref a from ra);rename_i wv;refine#[(t,p.1,a,wv)::ps,by rw[i1];rfl,λx hx=>?_,by rw[Zk,Zk,i3],.cons #[rfl,e2,rb] i4];rcases Zg.mp hx with rfl|hx
     .exact#[#[o2,n2,g1,g2,g3],jg I.hok e2]
     .exact i2 x hx
 exists[ps,p1,p2,p3,p4],gen hq rv;have lq:=Zw hq;refine rC (knd:=bu Õ ġ) (ps:=ps) e c1 c2 d1 (by simpa using p1) p2 (by rw[p3,<-lq];exact Zr lv ⋯) ∅ ħ λh' t' hd hk=>?_;have hz0:=DM qs [];have hnew:H Á=none:=I.hok.fresh Ġ;exists[q0,es,ep,hq0,h2,h3,h4,_,h5],hd;have kt:KT (upd H Á (.dT Ĝ)) Ĝ (sU [] ps):=(FL (H:=H) .nil p4).keeps λb ys eb=>by rw[af (aj eb hnew)];exact eb
 refine#[.ref Á,_,I.laid (a:=Á) (o:=.dT Ĝ) (t':=t') hk Ġ (show ObjOk Õ ġ _ h' _ (.dT Ĝ)from#[Zr hz0 (by rw[<-lq];show 0+Ç<=sizeLine;exact Zr ∅ (show 1000<=sizeLine by decide)),?_,_,kt,q0,es,ep,hq0,h2,h3,h4,h5]),rfl,q _ hnew];have:=I.big;exact Yi.mpr (Yb this)
theorem zt(hc:ĕ)(hu:ç):QCall X ő Ë:=#[AU hc hu]
#check 0
def ItD(o:Obj)(a:Pg):It where
 go:=λi H=>∃kvs,H a=some Ö/\i<Î
 yld:=λi H x H'=>H'=H/\∀kvs,H a=some Ö->∃p b,kvs[i]?=some p/\x=.ref b/\H b=some Ú
 stop:=λi H=>∃kvs,H a=some Ö/\Î<=i
theorem Kr(r:KT H kvs xs):∀{i:ö} {x:Ĉ},xs[i]?=some x->∃p,kvs[i]?=some p/\H x.2.1=some Ú:=by
 induction r with
 |nil=>intro i x h;simp at h
 |@cons p q _ _ h _ ih =>
  intro i x e;cases i with
  |zero=>cases e;exact#[p,rfl,h.2.1]
  |succ i=>exact ih e
theorem rL(ok:HOk P w H h)(e:H a=some Ö):
  Ŋ=false/\∃xs es ep,KT H kvs xs/\h.get? a=some o/\ÿ/\Ķ=.dict es ep/\č=xs.map (entryOfKey (tupleKind (bu P w)))/\Î=ù:=by
 exists[ho,z,y,xs,r,o',es,ep,h1,h2,h3,h4,h5],(show ObjOk P w H h a (.frz o û)from ok a _ e)
 rw[ho]at h1;cases h1;exact#[y,xs,es,ep,r,ho,h2,h3,h4,(Zw r).trans (size_of_entries h4).symm]
theorem Eh{K:Qa}(o:Obj)(a it:Pg):Turn P w K tg ņ [it] it (λi h=>∃es ep,Ķ=.dict es ep/\i<=ù/\h.IsKeyIter it a i ù ep) where
 mem:=by simp
 obj:=λi h st b hb=>by
  have e:b=it:=by simpa using hb
  subst e;exists[es,ep,_,_,o,e,c,d],st;exact#[o,e,λv z=>by rw[d]at z;cases z]
 keep:=λi h h' st k=>by exists[es,ep,h1,h2,h3],st;exact#[es,ep,h1,h2,h3.at λo e=>k it Ì o e]
 item:=by
  intro X hP hw hK hc i Pr s Z H E I hf st hg;subst hP hw hK;exists[kvs,hq,hx],hg;exists[es,ep,sd,sl,st],st;exists[lo,xs,es',ep',r,ho,hx2,hd,h4,hl],rL I.hok hq;rw[sd]at hd;cases hd;exists[f0,f1,f2,f3,f4,f5],hf it Ì;have hi:i<ù:=∅
  refine yk st #[o,ho,hx2,sd] hi λh' st' sb=>?_;have I1:Inv X Pr Z H { s with heap:=h' }:=I.turned (t':=ķ) (λb o hb e=>(sb.2 b hb).trans e) f0 f1 f3 f4 f5;exists[oi,e,c,d],id st';have hxs:i<Ã:=by rw[<-size_of_entries h4];exact hi
  have hk:es[i].key=Value.ref xs[i].2.1:=by have e1:=entry_at h4 (j:=i);rw[Zf hxs,y8 hi]at e1;have e2:=Zo e1;rw[e2];rfl
  exists[p,hp,hb],Kr r (Zf hxs);refine#[_,rfl,wj (s:={ s with heap:=h' }) e c d ⋯ #[.ref xs[i].2.1,H,I1,hk,#[rfl,λkvs' hy=>?_],#[es,ep,sd,∅,st'],λb hb=>(hf b hb).1]];rw[hq]at hy;cases hy;exact#[p,xs[i].2.1,hp,rfl,hb]
 done:=by
  intro X hP hw hK hc i Pr s Z H E I hf st hg;subst hP hw hK;exists[kvs,hq,hx],hg;exists[es,ep,sd,sl,st],st;exists[lo,xs,es',ep',r,ho,hx2,hd,h4,hl],rL I.hok hq;rw[sd]at hd;cases hd;exists[f0,f1,f2,f3,f4,f5],hf it Ì;obtain rfl:i=ù:=∅
  exact Aj ħ st #[o,ho,hx2,sd] λh' eb=>#[rfl,I.turned (t':=ķ) (λb o hb e=>eb b o hb e) f0 f1 f3 f4 f5]
 self:=λ_ _ _ _ _ st h=>by exists[es,ep,h1,h2,h3],st;exact wpAny_pyIter_keyiter h3 h
section
theorem Inv.freeze(I:Û)(hq:ũ)(ho:s.heap.get? a=some o):Inv X Pr Z (upd H a Ö) s :=
 I.write (x:=a) (e:=a) (h':=Ð) (t':=ķ) (by rw[hq];exact True.intro) (.inl rfl) ę #[o,ho]
  #[ho,ObjOk.stay (show ObjOk Õ ġ H Ð a û from I.hok a _ hq) ę (λb e=>by
   rw[af λz=>by rw[z,hq]at e;cases e];exact e) λb xs e=>by
   rw[af λz=>by rw[z,hq]at e;cases e];exact e]
def Kf(tl:TE):TI:=λZ H R=>tl Z H λx H1=>∃a kvs,x=.ref a/\H1 a=some û/\∀o,R ņ (upd H1 a Ö)
theorem Lc(hl:PE X l tl):PI X tg l (Kf tl):=by
 intro Pr s Z H R I h;refine thn (hl Pr s Z H _ I h) λv s1 hz9=>?_;exists[x,H1,I1,r1,q1],hz9;exists[a,kvs,e,hq,q],q1;subst e;cases r1;exists[z,lo,xs,r,o,es,ep,h1,h2,h3,h4,h5],(show ObjOk Õ ġ H1 s1.heap a (.dT kvs)from I1.hok a _ hq)
 refine yl lo #[o,h1,h2,h3] ?_;have I2:=I1.freeze hq h1;refine#[ć,[ć],_,_,_,rfl,I2.kept (t':=s1.toks) λb o e=>Za _ e,Eh o a _,#[es,ep,h3,ZH _,_,Zm _ rfl,rfl,rfl],λb hb=>?_,q o];have e:b=ć:=by simpa using hb
 subst e;exact I2.fpOk Ġ (I2.hok.fresh Ġ)
theorem Inv.thaw(I:Û)(hq:H a=some Ť)(h0:∀o' u',X.H₀ a≠some ř)(ht:∀xs,X.H₀ a≠some Ű)(hb:∀ps,X.H₀ a≠some ű):
  Inv X Pr Z Ş s:=by
 have hn:∀b,H b=none->upd H a u b=none:=λb e=>by rw[af λz=>by rw[z,hq]at e;cases e];exact e
 refine#[I.ok,I.os,I.bare,#[I.base.keep,I.base.slot,λb ob e1 e2 e3=>hn _ (I.base.free b ob e1 e2 e3),I.base.there,λb xs e=>?_,λb ob v e=>?_,λb ps e=>?_],I.loc,I.cell,hn _ I.free,λx c e=>hn _ (I.freeC x c e),
  λp hp=>?_,λb v e=>?_,I.len]
 .rw[af fun(z:b=a)=>ht xs Ă];exact I.base.tups b xs e
 .rw[af fun(z:b=a)=>h0 ob v Ă];exact I.base.frzs b ob v e
 .rw[af fun(z:b=a)=>hb ps Ă];exact I.base.tbls b ps e
 .exists[p1,p2,p3],I.pin p hp;exact#[p1,hn _ p2,p3]
 .have st:∀ {c:Pg} {v:HO},ObjOk Õ ġ H Ð c v->ObjOk Õ ġ Ş Ð c v:=λx=>ObjOk.stay x ę (λb e=>by
   rw[af λz=>by rw[z,hq]at e;cases e];exact e) λb xs e=>by
   rw[af λz=>by rw[z,hq]at e;cases e];exact e
  by_cases c:b=a
  .subst c;rw[ac]at e;cases e;exact st (show ObjOk Õ ġ H Ð b (.frz o _)from I.hok b _ hq).2
  .rw[af c]at e;exact st (I.hok b v e)
theorem Mf(hl:QE X l te):QI X tg l (Kf te):=#[Lc hl.h]
def Loose(H:Hp)(a:Pg):Prop:=(∀o' u',H a≠some ř)/\(∀xs,H a≠some Ű)/\∀ps,H a≠some ű
theorem Loose.dt{H:Hp}(h:ũ):Loose H a:=#[λ_ _ z=>Ô,λ_ z=>Ô,λ_ z=>Ô]
theorem Loose.non{H:Hp}(h:H a=none):Loose H a:=#[λ_ _ z=>Ô,λ_ z=>Ô,λ_ z=>Ô]
def MW(H0:Hp)(t:TE):TE:=λZ H Q=>t Z H λv H'=>∃a o u,H' a=some Ť/\Loose H0 a/\Q v (upd H' a u)
theorem DT{t:TE}(h:QE X e t):QE X e (MW X.H₀ t):=#[λPr s Z H Q I q=>thn (h.h Pr s Z H _ I q) λv s1 ⟨x,H1,I1,r1,a,o,u,e1,l,q1⟩=>#[x,_,I1.thaw e1 l.1 l.2.1 l.2.2,r1,q1]]
#check 0
theorem Ck{kvs:Ñ}{n:ö}{g:TG}{tc:TT}{te:TE}{Q:VK}(Pv:Nat->List V->Hp->Prop)(hz:Î<=1000)(hn:∀i ys H,Pv i ys H->Ŭ<=i)(h0:Pv 0 [] H0)(hl:∀i ys H,Pv i ys H->H a=some Ö)(ht:∀i ys H p b,kvs[i]?=some p->H b=some Ú->Pv i ys H->∀Y:List V->Hp->Prop,(∀zs H4,Pv ţ zs H4->Y zs H4)->g (.ref b) (de n cap Z) H λσ2 H2=>tc σ2 H2 λb H3=>if b=true then te σ2 H3 λy H4=>Y (ys++[y]) H4 else Y ys H3)(hq:∀ys p H,Pv Î ys H->H p=none->Q (.ref p) (upd H p (.lst ys))):gQ n cap g tc te Z ņ H0 Q:=by
 refine#[λi m ys H=>m=Î-i/\i<=Î/\Pv i ys H,#[Î,by simp,ZH _,h0],?_];rintro i m ys H ⟨rfl,hi,pv⟩;have q:=hl i ys H pv;by_cases hlt:i<Î
 .refine .inr #[#[kvs,q,hlt],?_,λx H' y=>?_]
  .have:=hn i ys H pv;exact Nat.lt_of_le_of_lt (Zr this ∅) (show 1000<sizeLine by decide)
  .exists[e,y],y;subst e;exists[pr,b,e1,rfl,e2],y kvs q;exact ht i ys _ pr b e1 e2 pv (λys H4=>∃m',m'<Î-i/\m'=Î-ţ/\i+1<=Î/\Pv ţ ys H4) λzs H4 z=>#[Î-ţ,∅,rfl,hlt,z]
 .have e:i=Î:=∅
  subst e;exact .inl #[#[kvs,q,Ze _],λp hp=>hq ys p H pv hp]
section
variable{X:Cx}{s:Ph}
theorem rY{P:ï}{n:ö}{vs:Pf}(h2:Ç<2)(ho:ò)(h:∀(h3:ĵ) (c:ö),(∀b u,b≠a->s.heap.get? b=some u->h3.get? b=some u)->h3.get? a=some (seqObj "list" vs.toArray c)->P (.done (.ret .none)) { s with heap:=h3 }):
  wpAny ă A (Builtin.«list.sort» #[[.ref a],[]]) P E s:=by
 have zs:ē<=sizeLine:=by rw[Zl,sizeLine_eq];omega
 have s1:=Z1 Ð a À;obtain⟨e1,ho1⟩:∃e1,(s.heap.update a À).get? a=some ü:=#[_,get?_update_seq ho λ_=>#[]]
 have ha3:(((s.heap.update a À).push Ä).push Å).get? a=some ü:=Za _ ť;have kp:∀b u,b≠a->s.heap.get? b=some u->(((s.heap.update a À).push Ä).push Å).get? b=some u:=λb u hb g=>Za _ (Za _ ((s1.2 b hb).trans g));rw[list_sort_plain];refine z9 (listItems_at ho rfl ?_);refine z9 (listUpdate_at ho rfl ?_ zs Ł);refine z9 (seqEpoch_at ho1 rfl ?_);refine z9 (wpAny_newTuple ?_ zs);refine z9 (wpAny_newList ?_ Ł);refine ZU ?_;show wpAny ă A _ P E { s with heap:=((s.heap.update a À).push Ä).push Å };generalize((s.heap.update a À).push Ä).push Å=h1 at ha3 kp ⊢;dsimp only;have hn2:ē<2:=by rw[Zl];exact h2
 rw[Pb hn2,Pb hn2];refine z9 ě;rw[StateT.run_pure];refine z9 ě;dsimp only;have em:Array.map (λx=>x.snd) (arrOf (SortSt.mk' general' ı #[] 7 none))=ê:=by show Array.map (λx:Pi×Pi=>x.2) ı=_;apply Array.toList_inj.mp;rw[Array.toList_map,Array.toList_zip];exact List.map_snd_zip Ġ
 rw[em];have s2:=Z1 h1 a Į;obtain⟨c2,hc2⟩:∃c2,(h1.update a Į).get? a=some (seqObj "list" vs.toArray c2):=#[_,get?_update_seq ha3 λ_=>ê]
 refine z9 (seqEpoch_at ha3 rfl ?_);refine z9 (listUpdate_at ha3 rfl ?_ Ł (Nat.le_succ_of_le zs));simp only[bne_self_eq_false,Bool.false_eq_true,if_false];exact Zb (h _ c2 (λb u hb g=>(s2.2 b hb).trans (kp b u hb g)) hc2)
theorem yF{Q:VK}(I:Û)(hH:H l=some Ų)(h2:Ã<2)(q:∀D:Pg,H D=none->Q İ (upd H D Ų)):
  wpAny ă X.A (call Ĳ [.ref l]) Ŕ X.xe s:=by
 exists[z,its,n,rv,hlen,e],I.lstM hH;have li:ą=Ã:=hlen.symm;have zs:its.toArray.size<=sizeLine:=by rw[Zl,sizeLine_eq];omega
 refine Calls.call_function_entry kind_sorted plain_sorted entry_sorted (args_sorted1 _) ?_;unfold Builtin.«sorted»;refine z9 (m:=checkCount "sorted" 1 1 _) (Zb (z9 (collect_list #[_,e,rfl,n,rfl] (z9 (wpAny_newList ?_ zs)) zs)));have z1:((s.heap.push Å).update Á Ò).objs.size=Á+1:=by rw[Heap.size_update,size_push']
 have g1:(((s.heap.push Å).update Á Ò).push Ó).get? (Á+1)=some Ó:=by rw[<-z1];exact Zm _ rfl
 have kp:∀b o,s.heap.get? b=some o->(((s.heap.push Å).update Á Ò).push Ó).get? b=some o:=λb o g=>by have lt:=Zs g;rw[Heap.get?_push_ne _ _ _ (by rw[z1];exact Zy (Nat.lt_succ_of_lt lt)),Heap.get?_update_ne _ _ _ _ (Zy lt),Heap.get?_push_ne _ _ _ (Zy lt)];exact g
 show wpAny _ _ _ _ _ { s with heap:=((s.heap.push Å).update Á Ò).push Ó };rw[z1];generalize(((s.heap.push Å).update Á Ò).push Ó)=hA at g1 kp ⊢;refine z9 (ZU (ZZ slot_list_sort #[_,g1,rfl] entry_list_sort ?body (args_list_sort _)))
 case body =>
  refine rY (X:=X) (s:={ s with heap:=hA }) ∅ g1 λh3 c k3 a3=>#[_,rfl,Zb #[_,rfl,?_]]
  have da:s.heap.get? (Á+1)=none:=YO (YE _);exact#[.ref _,_,I.laid (t':=ķ) (o:=.lst xs) (λb o g=>k3 b o (λzz=>by rw[zz,da]at g;cases g) (kp b o g)) (YE _) #[z,its,c,rv,a3],rfl,q _ (none_of I da)]
theorem vw{K:Qa}{k:ö}(hK:ĸ=K)(hr:Room k X.A):QOp X (compareOp .NotIn) (yj K true):=by subst hK;exact Fk hr
theorem Lo{K:Qa}(hK:ĸ=K)(he:QE X e ta)(hb:attributeBase e f Ü (eval e Ü)=eval e Ü:=by rfl):QE X (.Attribute e f pos) (Gg K ta f):=by subst hK;exact cZ he hb
#check 0
section
variable{X:Cx}
theorem Ea(hc:ĕ)(I:Û)(hq:Rd H p û):∃ks,dO H kvs ks/\AJ X s p ks:=by
 exists[z,hd,xs,rel,o,es,ep,h1,h2,h3,h4,_,_],lj I.hok hq;have hsz:ù=Ã:=size_of_entries h4;have hkl:Î=Ã:=Zw rel;refine#[_,rS rel,λQ h=>?_];refine kdu_collect (Ak (es:=es) (ep:=ep) hd) ħ #[o,h1,h2,h3] ∅ λh' tk acc' kp hacc=>h h' tk _ kp ?_;have gen:∀(vs:Pf) (ys:List Ĉ),Ç=Ŭ->(∀(j:ö) (v:Pi),vs[j]?=some v->∃x:List Key×Pg×Pi,ys[j]?=some x/\v=Value.ref x.2.1)->Vals (ys.map fun(x:List Key×Pg×Pi)=>V.ref x.2.1) vs:=by
  intro vs;induction vs with
  |nil =>
   intro ys hl _;cases ys with
   |nil=>exact .nil
   |cons _ _=>cases hl
  |cons v vs ih =>
   intro ys hl hv;cases ys with
   |nil=>cases hl
   |cons y ys =>exists[x,e1,e2],hv 0 v rfl;cases e1;exact .cons e2 (ih ys (by simpa using hl) λj v' e'=>hv (j+1) v' (by simpa using e'))
 refine gen _ _ (by rw[ZM,hacc.1,hsz]) λj v e'=>?_;exists[en,e1,e2],hacc.2 j v (by rw[<-YA];exact e');rw[entry_at h4]at e1;exists[x,e3,e4],ZK.mp e1;refine#[x,e3,?_];rw[e2,<-e4];rfl
#check 0
section
variable{prog:Pj}{w:Pk}{A:Pl}{E:Pd}{s:Ph}
theorem BY{α:Type}{M:Model}{c:Prop}[Decidable c]{x y:Sem α}{Q:α->Ph->Prop}(h1:c->wpAny M A x Q E s)(h2:¬c->wpAny M A y Q E s):wpAny M A (if c then x else y) Q E s:=by
 by_cases h:c
 .rw[Pb h];exact h1 h
 .rw[Pa h];exact h2 h
def gY(prog:Pj)(w:Pk):Option Ċ->Int
 |none=>0xFCA86420
 |some k=>(tupleKind ì).hash k
def OIs(prog:Pj)(w:Pk)(h:ĵ):Option Ċ->Pi->Prop
 |none,v=>v=.none
 |some k,v=>∃a,v=.ref a/\(tupleKind ì).is h k a
theorem vq{k:Ï}{Q:Int->Ph->Prop}(hu2:õ)(h:Ņ)(q:∀tk,Q Ù { s with toks:=tk }):wpAny Æ A (pyHash v) Q E s:=by
 cases k with
 |none =>rw[show v=.none from h];exact pyHash_slot (T:="NoneType") rfl F.slot_NoneType_hash F.entry_NoneType_hash (F.args_NoneType_hash_1 _) (beq_builtin_none _) (.inr hu2) (z9 (Zb (z9 (wpAny_mkInt (Zb #[_,_,rfl,q _])))))
 |some k =>exists[a,rfl,h],h;exact(tupleKind ì).pyHash hu2 h (q _)
theorem OIs.tup{k:Ċ}{a:Pg}{h:ĵ}(x:(tupleKind ì).is h k a):∃vs,h.IsTuple a vs:=by exists[o,items,n,h1,h2,h3,_],x;exact#[items,o,h1,h2,n,h3]
theorem Ab{Q:Ą}(hu2:õ)(h1:OIs prog w Ð x u)(h2:OIs prog w Ð y v)(q:Q (decide (x=y)) s):wpAny Æ A (eqBool u v) Q E s:=by
 cases x with
 |none =>
  rw[show u=.none from h1];cases y with
  |none =>rw[show v=.none from h2];exact SeqAt.EqAt.same _ _ _ _ _ q
  |some k =>exists[b,rfl,h2],h2;exists[vs,ht],OIs.tup h2;exact SeqAt.EqAt.none_tuple ht hu2 _ _ _ _ q
 |some k =>
  exists[a,rfl,h1],h1;cases y with
  |none =>rw[show v=.none from h2];exists[vs,ht],OIs.tup h1;exact SeqAt.EqAt.tuple_none ht hu2 _ _ _ _ q
  |some l =>exists[b,rfl,h2],h2;refine(tupleKind ì).eqBool hu2 h1 h2 ?_;rw[show decide (k=l)=decide (some k=some l) by rw[decide_eq_decide];simp];exact q
theorem OIs.inj(h1:OIs prog w h x Œ)(h2:OIs prog w h y Œ):x=y:=by
 cases x with
 |none=>cases h1
 |some k =>
  cases y with
  |none=>cases h2
  |some l =>exists[b,e,h1],h1;cases e;exists[b,e,h2],h2;cases e;rw[(tupleKind ì).inj h1 h2]
theorem Dh{k:Ï}{Q:Ą}(h:Ņ)(q:Q true s):wpAny Æ A (eqIsQuiet 8 v) Q E s:=by
 cases k with
 |none =>rw[show v=.none from h];exact Zb q
 |some k =>exists[a,rfl,h],h;exact(tupleKind ì).quiet h q
theorem Di{key:Pi}{k:Ï}{stored:Pf}{Q:Ą}(hkey:ð)(hst:∀v∈stored,∃k',OIs prog w Ð k' v)(q:Q false s):wpAny Æ A (tableMayTell key stored) Q E s:=by
 unfold tableMayTell;by_cases he:stored.isEmpty=true
 .rw[Pb he];exact Zb q
 .rw[Pa he];refine z9 (Dh hkey ?_);rw[Pa Ì];refine z9 (wpAny_forIn_list _ (λrest b s'=>s'=s/\b=ų/\∀v∈rest,∃k',OIs prog w Ð k' v) _ (λx rest b s' h=>?_) Ě _ _ #[rfl,rfl,hst])
  .exists[rfl,rfl,hr],h;exists[k',hk'],hr x Zq;refine z9 (Dh hk' ?_);rw[Pa Ì];exact Zb #[rfl,rfl,λv hv=>hr v (Zj _ hv)]
  .exists[rfl,rfl,_],h;exact Zb q
abbrev jq:=Option Ċ×Pi×Pi
def iQ(prog:Pj)(w:Pk)(x:jq):DictEntry:=#[gY prog w x.1,x.2.1,x.2.2]
structure ODict(prog:Pj)(w:Pk)(h:ĵ)(d:Pg)(o:Obj)(es:æ)(ep:ö)(xs:List jq):Prop where
 ho:h.get? d=some o
 hd:Ķ=.dict es ep
 he:č=xs.map ş
 his:∀x∈xs,OIs prog w h x.1 x.2.1
 hn:(xs.map (·.1)).Nodup
theorem ODict.at{ep:ö}(D:ß)(j:ö):es[j]?=(xs[j]?).map ş:=by rw[<-YA,D.he,Zx]
theorem ODict.one{ep:ö}(D:ß){i j:ö}(hx:xs[i]?=some x)(hy:xs[j]?=some y)(e:x.1=y.1):i=j:=by
 have h1:ŋ[i]?=some x.1:=by rw[Zx,hx];rfl
 have h2:ŋ[j]?=some x.1:=by rw[Zx,hy,e];rfl
 exact(List.getElem?_inj (Zz.mp h1).1 D.hn).mp (h1.trans h2.symm)
def oPl(es:æ)(h:Int):List Nat:=placesWithHash ù (λi=>es[i]?.map (·.hash)) h
theorem KC(es:æ)(h:Int):(oPl es h).Nodup:=List.Pairwise.filter _ List.nodup_range
theorem ODict.pl{ep:ö}(D:ß){k:Ï}{j:ö}(hx:xs[j]?=some x)(e:x.1=k):j∈oPl es Ù:=by
 have hj:es[j]?=some Ģ:=by rw[D.at,hx];rfl
 refine ZF.mpr #[List.mem_range.mpr (YJ.mp hj).1,?_];dsimp only;rw[hj];simp[iQ,e]
theorem ODict.of_pl{ep:ö}(D:ß){z:Int}{j:ö}(hj:j∈oPl es z):∃x,xs[j]?=some x/\es[j]?=some Ģ/\gY prog w x.1=z:=by
 exists[h1,h2],ZF.mp hj;have hl:=List.mem_range.mp h1;have e:=D.at j;rw[y8 hl]at e;exists[x,hx,hx2],ZK.mp e.symm;have e2:es[j]?=some Ģ:=by rw[y8 hl,hx2]
 refine#[x,hx,e2,?_];dsimp only at h2;rw[e2]at h2;simpa[iQ]using h2
theorem xy{ep:ö}{k:Ï}{key:Pi}{Q:Option Nat->Ph->Prop}(hu:õ)(hkey:ð)(D:î)(hnone:Ý->Q none s)(hsome:∀(j:ö) (x:jq),xs[j]?=some x->x.1=k->Q (some j) s):wpAny Æ A (dictFind d key Ù) Q E s:=by
 have hst:∀v∈(oPl es Ù).filterMap (λi=>es[i]?.map (·.key)),∃k',OIs prog w Ð k' v:=λv hv=>by exists[i,hi,e],Z5.mp hv;exists[x,h1,h2,_],D.of_pl hi;rw[h2]at e;cases e;exact#[x.1,D.his x (Z2 h1)]
 have plain:wpAny Æ A (dictWalkPlain d key Ù es (oPl es Ù)) Q E s:=by
  unfold dictWalkPlain;refine z9 (wpAny_forIn_list _ (λrest b s'=>s'=s/\b=ų/\ė/\∀(j:ö) (x:jq),xs[j]?=some x->x.1=k->j∈rest) _ ĩ Ě _ _ #[rfl,rfl,λ_ z=>z,λj x h1 h2=>D.pl h1 h2])
  .exists[rfl,rfl,sub,all],h;exists[x,h1,h2,h3],D.of_pl Ŧ;rw[h2];dsimp only;rw[Pb Ń];refine z9 à;rw[Pa Ì];by_cases e:x.1=k
   .rw[decide_eq_true e,Pb rfl];exact z9 (YF (Zb Ī))
   .rw[decide_eq_false e,Pa Ì];refine z9 (YF (Zb #[rfl,rfl,λi hi=>sub i Ŵ,λj y g1 g2=>(Zg.mp Ō).resolve_left λz=>e ?_]));subst z;rw[h1]at g1;cases g1;exact g2
  .exists[rfl,rfl,sub,all],h;refine Zb (hnone λj x h1 h2=>?_);exact absurd ō Ì
 unfold dictFind;refine ZU ?_;refine z9 (Yk D.ho D.hd ?_);have shape:key=.none\/∃a,key=.ref a:=by
  cases k with
  |none=>exact .inl hkey
  |some kk=>exists[a,e,_],hkey;exact .inr #[a,e]
 rcases shape with rfl|⟨a,rfl⟩
 case' inr =>dsimp only;rw[Pa (by simp[carriedByValue]),Pa (by intro z;rw[<-Array.any_toList,List.any_eq_true]at z;exists[e,he,hc],z;rw[D.he]at he;exists[x,hx,rfl],Zu.mp he;simp only[iQ,ZN,y0,bne_iff_ne,ne_eq]at hc;have h1:=D.his x hx;rw[hc.1]at h1;exact hc.2 (by rw[OIs.inj h1 hkey]))];refine BY Ś λ_=>z9 ń
 case' inl =>dsimp only;refine BY (λ_=>plain) λ_=>BY Ś λ_=>z9 ń
 all_goals
  rw[Pa Ì];refine z9 (wpAny_forIn_list _ (λrest b s'=>s'=s/\rest.Nodup/\ė/\∃hit,b=(none,hit)/\((hit=none/\∀(j:ö) (x:jq),xs[j]?=some x->x.1=k->j∈rest)\/∃(j:ö) (x:jq),hit=some j/\xs[j]?=some x/\x.1=k/\j∉rest)) _ ĩ Ě _ _ #[rfl,KC _ _,λ_ z=>z,none,rfl,.inl #[rfl,λj x h1 h2=>D.pl h1 h2]])
  .exists[rfl,nd,sub,hit,rfl,hh],h;exists[x,h1,h2,h3],D.of_pl Ŧ;have nd':=(Z3.mp nd).2;have ni:=(Z3.mp nd).1;have sub':∀i∈rest,i∈oPl es Ù:=λi hi=>sub i Ŵ;rw[h2];dsimp only;rw[Pb Ń];refine z9 à;rw[Pa Ì];by_cases e:x.1=k
   .rw[decide_eq_true e,Pb rfl];rcases hh with⟨rfl,all⟩|⟨j,y,rfl,g1,g2,g3⟩
    .rw[Pa Ì];refine z9 Ŝ;split
     .exact Zb Ī
     .exact Zb #[rfl,nd',sub',some i,rfl,.inr #[i,x,rfl,h1,e,ni]]
    .exact absurd (D.one g1 h1 (g2.trans e.symm)) λz=>g3 (by rw[z];exact Zq)
   .rw[decide_eq_false e,Pa Ì];refine z9 Ŝ;rw[Pa Ì];refine Zb #[rfl,nd',sub',hit,rfl,?_];rcases hh with⟨rfl,all⟩|⟨j,y,rfl,g1,g2,g3⟩
    .refine .inl #[rfl,λj y g1 g2=>(Zg.mp Ō).resolve_left λz=>e ?_];subst z;rw[h1]at g1;cases g1;exact g2
    .exact .inr #[j,y,rfl,g1,g2,λz=>g3 (Zj _ z)]
  .exists[rfl,_,_,hit,rfl,hh],h;rcases hh with⟨rfl,all⟩|⟨j,y,rfl,g1,g2,_⟩
   .exact Zb (hnone λj x h1 h2=>absurd ō Ì)
   .exact Zb (hsome j y g1 g2)
#check 0
section
variable{A:Pl}{s:Ph}
theorem BK{ep:ö}{k:Ï}{key v:Pi}{Q:Pd}(hu:õ)(hkey:ð)(D:î)(hc:ÿ)(hz:ù<=sizeLine)(hold:∀(j:ö) (x:jq) (tk:ö),xs[j]?=some x->x.1=k->Q x.2.2 { s with toks:=tk })(hnew:Ý->∀(h':ĵ) (tk:ö) (o':Obj) (es':æ) (ep':ö),h'.get? d=some o'->o'.ExactDict->o'.data=.dict es' ep'->es'.toList=č++[#[gY prog w k,key,v]]->Heap.SameBut d Ð h'->Q v { s with heap:=h',toks:=tk }):
  wpAny Æ A (dictSetDefault d key v) Q E s:=by
 unfold dictSetDefault;refine ZU ?_;refine z9 ī;have D':ODict prog w ({ s with toks:=tk }:Ph).heap d o es ep xs:=D;refine z9 (xy (s:={ s with toks:=tk }) hu hkey D' (λhno=>?_) Ľ)
 .refine z9 (YF (z9 (wpAny_updateDictKeys (hz:=hz) (s:={ s with toks:=tk }) D.ho D.hd (Zb (hnew hno _ tk _ _ (ep+1) (Yc _ D.ho (Obj.isFreed_of_dict đ)) (hc.mapDictKeys _) đ ?_ (Z1 ..))))));simp
 .refine z9 (Yk (s:={ s with toks:=tk }) D.ho D.hd ?_);rw[D.at j,h1];exact z9 (YF (Zb ĳ))
theorem HL{ep:ö}{k:Ï}{key:Pi}{Q:Option Pi->Ph->Prop}(hu:õ)(hkey:ð)(D:î)(hold:∀(j:ö) (x:jq) (tk:ö),xs[j]?=some x->x.1=k->Q (some x.2.2) { s with toks:=tk })(hnew:Ý->∀tk:Nat,Q none { s with toks:=tk }):
  wpAny Æ A (dictGet d key) Q E s:=by
 unfold dictGet;refine ZU ?_;refine z9 ī;have D':ODict prog w ({ s with toks:=tk }:Ph).heap d o es ep xs:=D;refine z9 (xy (s:={ s with toks:=tk }) hu hkey D' (λhno=>Zb (hnew hno tk)) Ľ);refine z9 (Yk (s:={ s with toks:=tk }) D.ho D.hd ?_);rw[D.at j,h1];exact Zb ĳ
#check 0
abbrev OK1:=Option (List Key×Pg)
def okD:OK1->Option Ċ
 |none=>none
 |some p=>some p.1
def okV:OK1->Pi
 |none=>.none
 |some p=>.ref p.2
def oE(e:OK1×Pg):jq:=(okD e.1,okV e.1,.ref e.2)
def odO(P:Pj)(w:Pk)(d:Pg)(kls:ñ):HO:=.ext λh=>Ė=false/\∃(o:Obj) (es:æ) (ep:ö),h.get? d=some o/\ÿ/\Ķ=.dict es ep/\č=(kls.map oE).map (iQ P w)
theorem Dm{h:ĵ}{kls:ñ}{ep:ö}(hd:Ė=false)(h1:h.get? d=some o)(h2:ÿ)(h3:Ķ=.dict es ep)(h4:č=(kls.map oE).map (iQ P w)):ObjOk P w H h d Ŏ :=
 #[#[hd,o,es,ep,h1,h2,h3,h4],#[o,h1],λ_ _ ⟨a,o,es,ep,b,c⟩ k=>#[a,o,es,ep,k _ b,c]]
def tj(H:Hp)(y:V):OK1->Prop
 |none=>y=.non
 |some p=>y=.ref p.2/\H p.2=some Ú
def cK(kls:ñ)(k:Ï):Option Pg:=(kls.find? λe=>decide (okD e.1=k)).map (·.2)
structure OdAt(P:Pj)(w:Pk)(H:Hp)(d:Pg)(kls:ñ):Prop where
 ob:H d=some Ŏ
 ks:∀e∈kls,∀p,e.1=some p->H p.2=some Ú
 nd:(kls.map λe=>okD e.1).Nodup
theorem vt{kls:ñ}(nd:(kls.map λe=>okD e.1).Nodup){j:ö}(h:kls[j]?=some e):cK kls Ň=some e.2:=by
 unfold cK;induction kls generalizing j with
 |nil=>simp at h
 |cons x r ih =>
  rw[Zn,Z3]at nd;cases j with
  |zero =>cases h;rw[List.find?_cons_of_pos Ì];rfl
  |succ j =>
   have h:r[j]?=some e:=h;rw[List.find?_cons_of_neg (by
    simp only[decide_eq_true_eq];intro z;exact nd.1 (z▸List.mem_map_of_mem (Z2 h)))]
   exact ih nd.2 h
theorem sr{k:Ï}(h:∀e∈kls,okD e.1≠k):cK kls k=none:=by unfold cK;rw[List.find?_eq_none.mpr (λe he=>by simp only[decide_eq_true_eq];exact h e he)];rfl
section
theorem Ac(I:Û)(h:tj H y e)(r:RelV y u):OIs Õ ġ Ð ŝ u/\u=okV e:=by
 cases e with
 |none =>rw[show y=.non from h]at r;cases(show u=Value.none from r);exact#[rfl,rfl]
 |some p =>exists[rfl,h],h;cases(show u=Value.ref p.2 from r);exact#[#[p.2,rfl,jg I.hok h],rfl]
theorem GP(I:Û)(h:OdAt Õ ġ H d kls):Ė=false/\∃(o:Obj) (es:æ) (ep:ö),ÿ/\ODict Õ ġ Ð d o es ep (kls.map oE):=by
 exists[hd,o,es,ep,h1,h2,h3,h4],(I.hok d _ h.ob).1;refine#[hd,o,es,ep,h2,h1,h3,h4,λx hx=>?_,?_]
 .exists[e,he,rfl],Zu.mp hx;cases ek:e.1 with
  |none =>show OIs _ _ _ Ň ŵ;rw[ek];exact rfl
  |some p =>show OIs _ _ _ Ň ŵ;rw[ek];exact#[p.2,rfl,jg I.hok (h.ks e he p ek)]
 .rw[Z7];exact h.nd
#check 0
def Ep(P:Pj)(w:Pk)(H:Hp)(a:Pg):Prop:=∃kls,H a=some (odO P w a kls)
def MU(P:Pj)(w:Pk):TE:=λ_ H Q=>∀p,H p=none->Q (.ref p) (upd H p (odO P w p []))
def MV(P:Pj)(w:Pk)(td ty tx:TE):TE:=λZ H Q=>td Z H λx H1=>∃a,x=.ref a/\Ep P w H1 a/\ty Z H1 λy H2=>tx Z H2 λz H3=>∃kls e l0,OdAt P w H3 a kls/\tj H3 y e/\z=.ref l0/\š<4096 /\
 ø/\(cK kls ŝ=none->Q Ŷ (upd H3 a (odO P w a (kls++[(e,l0)]))))
def MT(P:Pj)(w:Pk)(td ty tx:TE):TE:=λZ H Q=>td Z H λx H1=>∃a,x=.ref a/\Ep P w H1 a/\ty Z H1 λy H2=>tx Z H2 λz H3=>∃kls e,OdAt P w H3 a kls/\tj H3 y e/\š<4096 /\
 ø/\(cK kls ŝ=none->Q z H3)
section
variable{X:Cx}{apos cpos:Pos}
theorem MI:QE X (.Dict [] [] pos) (MU Õ ġ):=#[λPr s Z H Q I h =>
 wpAny_Dict_empty #[.ref Á,_,I.laid (a:=Á) (o:=odO Õ ġ Á []) (t':=ķ) (λ_ _ q=>Za _ q) Ġ (Dm (ep:=0) (Yi.mpr (ZQ (Zy I.big))) ŧ #[rfl,rfl,rfl] rfl rfl),rfl,h _ (I.hok.fresh Ġ)]]
theorem pX(I:Û)(d:Ep Õ ġ H a):s.TypeIs Œ "dict"/\(∀b,Value.ref a=.ref b->∃ob,s.heap.get? b=some ob/\ob.dict=none):=by exists[kls,h],d;exists[_,o,es,ep,h1,h2,_],(I.hok a _ h).1;refine#[#[o,h1,h2.1],λb q=>?_];cases q;exact#[o,h1,h2.2.1]
theorem DR(hu:ç)(ho:QE X o td)(he:QE X e ty)(hf:QE X f tx)(hs1:aX e=true:=by rfl)(hs2:aX f=true:=by rfl)(hbase:attributeBase o "setdefault" X.env Ĕ=eval o Ü:=by rfl)(hline:á=true:=by rfl) :
  QE X (.Call (.Attribute o "setdefault" apos) [e,f] [] cpos) (MV Õ ġ td ty tx):=by
 refine#[?_];have h1:=bf (es:=[f]) (env:=Ü) hs1;have h2:=bf (es:=[]) (env:=Ü) hs2;have h3:starEach Ĩ Ü=[]:=rfl;intro Pr s Z H Q I h;refine wpAny_Call_method hbase Ĭ hline PySem.F.plainAttrs_dict PySem.F.slot_dict_setdefault PySem.F.type_dict_setdefault ú;exists[x,H1,I1,rx,a,ex,d,q1],hz9;subst ex;obtain rfl:u=Value.ref a:=rx;exists[t1,t2],pX I1 d;refine#[t1,t2,?_];have ht:backTo cpos Ĵ=[ľ,Ŀ]:=by rw[h1,h2,h3];rfl
 rw[ht];refine YZ rfl (Calls.evalArgs_plain (Calls.spliced_cons (thn ĝ λiv s2 ⟨y,H2,I2,ry,q2⟩ =>
  Calls.spliced_cons (thn Ğ λfv s3 ⟨z,H3,I3,rz,kls,ke,l0,oa,ok,ez,l,qo,qn⟩=>Calls.spliced_nil ?_))))
 subst ez;obtain rfl:fv=Value.ref l0:=rz;exists[ki,kv],Ac I3 ok ry;exists[hd,ob,es,ep,hc,D],GP I3 oa;have hz:ù<=sizeLine:=by rw[<-ZM,D.he,Zd,Zd];exact gP ∅
 have ty':=(pX I3 #[kls,Ź]).1;refine ZZ PySem.F.slot_dict_setdefault ty' PySem.F.entry_dict_setdefault ?_ (PySem.F.args_dict_setdefault_3 _ _ _);show wpAny _ _ (Builtin.«dict.setdefault» #[[.ref a,iv,.ref l0],[]]) _ _ s3;unfold Builtin.«dict.setdefault»;refine z9 ?_;unfold Builtin.Dict.keyAndDefault;refine z9 Đ;show wpAny _ _ (pure (a,iv,some (Value.ref l0))) _ _ s3;refine Zb ?_;show wpAny _ _ (if Ŋ=true then _ else(dictSetDefault a iv Ŷ >>= _)) _ _ s3;rw[Pa į];refine z9 (BK è ki D hc hz (λj x tk g1 g2=>Zb #[_,rfl,?_]) (λhno h' tk o' es' ep' g1 g2 g3 g4 g5=>Zb #[_,rfl,?_]))
 .rw[Zx]at g1;exists[en,g3,rfl],ZK.mp g1;have:=vt oa.nd g3;rw[show okD en.1=okD ke from g2]at this;exact#[.ref en.2,H3,I3.tok _,rfl,qo _ this]
 .have hn:cK kls (okD ke)=none:=sr λen hen=>by exists[j,hj],ZV.mp hen;exact hno j (oE en) Ĺ
  refine#[.ref l0,_,pP (a:=a) (t':=tk) I3 (by rw[Ź];exact True.intro) g5 #[o',g1] (Dm (kls:=kls++[(ke,l0)]) hd g1 g2 g3 ?_),rfl,qn hn];rw[g4,D.he,ZA,ZA,kv];rfl
#check 0
section
variable{X:Cx}{apos cpos:Pos}
theorem DQ(hu:ç)(ho:QE X o td)(he:QE X e ty)(hf:QE X f tx)(hs1:aX e=true:=by rfl)(hs2:aX f=true:=by rfl)(hbase:attributeBase o "get" X.env Ĕ=eval o Ü:=by rfl)(hline:á=true:=by rfl) :
  QE X (.Call (.Attribute o "get" apos) [e,f] [] cpos) (MT Õ ġ td ty tx):=by
 refine#[?_];have h1:=bf (es:=[f]) (env:=Ü) hs1;have h2:=bf (es:=[]) (env:=Ü) hs2;have h3:starEach Ĩ Ü=[]:=rfl;intro Pr s Z H Q I h;refine wpAny_Call_method hbase Ĭ hline PySem.F.plainAttrs_dict PySem.F.slot_dict_get PySem.F.type_dict_get ú;exists[x,H1,I1,rx,a,ex,d,q1],hz9;subst ex;obtain rfl:u=Value.ref a:=rx;exists[t1,t2],pX I1 d;refine#[t1,t2,?_];have ht:backTo cpos Ĵ=[ľ,Ŀ]:=by rw[h1,h2,h3];rfl
 rw[ht];refine YZ rfl (Calls.evalArgs_plain (Calls.spliced_cons (thn ĝ λiv s2 ⟨y,H2,I2,ry,q2⟩ =>
  Calls.spliced_cons (thn Ğ λfv s3 ⟨z,H3,I3,rz,kls,ke,oa,ok,l,qo,qn⟩=>Calls.spliced_nil ?_))))
 exists[ki,kv],Ac I3 ok ry;exists[hd,ob,es,ep,hc,D],GP I3 oa;have ty':=(pX I3 #[kls,Ź]).1;refine ZZ PySem.F.slot_dict_get ty' PySem.F.entry_dict_get ?_ (PySem.F.args_dict_get_3 _ _ _);show wpAny _ _ (Builtin.«dict.get» #[[.ref a,iv,fv],[]]) _ _ s3;unfold Builtin.«dict.get»;refine z9 ?_;unfold Builtin.Dict.keyAndDefault;refine z9 Đ;show wpAny _ _ (pure (a,iv,some fv)) _ _ s3;refine Zb ?_;dsimp only;refine z9 (HL è ki D (λj x tk g1 g2=>?_) (λhno tk=>?_))
 .rw[Zx]at g1;exists[en,g3,rfl],ZK.mp g1;have:=vt oa.nd g3;rw[show okD en.1=okD ke from g2]at this;exact Zb #[_,rfl,.ref en.2,H3,I3.tok _,rfl,qo _ this]
 .have hn:cK kls (okD ke)=none:=sr λen hen=>by exists[j,hj],ZV.mp hen;exact hno j (oE en) Ĺ
  dsimp only;unfold Builtin.Dict.missed;rw[Pa į];exact z9 (Zb (Zb #[_,rfl,z,H3,I3.tok _,rz,qn hn]))
theorem DS(ho:QE X o to)(hbase:attributeBase o "pop" X.env Ĕ=eval o Ü:=by rfl)(hline:á=true:=by rfl):QE X (.Call (.Attribute o "pop" apos) [] [] cpos) (LI ĸ "list" Lu to) :=
 #[KY PySem.F.plainAttrs_list PySem.F.slot_list_pop PySem.F.type_list_pop Kv ho.h hbase hline]
theorem FO(ho:QE X o to)(he:QE X e te)(hs:aX e=true:=by rfl)(hbase:attributeBase o "extend" X.env Ĕ=eval o Ü:=by rfl)(hline:á=true:=by rfl) :
  QE X (.Call (.Attribute o "extend" apos) [e] [] cpos) (tBM ĸ "list" Ai to (jK te jE)):=by
 have h1:=bf (es:=[]) (env:=Ü) hs;have h2:starEach Ĩ Ü=[]:=rfl;refine#[Bz PySem.F.plainAttrs_list PySem.F.slot_list_extend PySem.F.type_list_extend Db ho.h (pa he.h sG hs) hbase ?_ hline h1 (by rw[h2];rfl)];rw[h1,h2];rfl
#check 0
theorem BW{l:W.OpenLaw}{n k:ö}{XP:(Pe)->Heap->Prop}{YP:Pk->Heap->Prop}{d:DefRec}{K:Params->Qa}{tabs:Params->List (Pg×Pg)}{sp:Pk->Sp}(hn:l.most=some n)(hn2:n<=sizeLine)(hdf:d.params.defaults=[])(hr:Room k callerA)(hY:∀ (w:Pk) (h:ĵ),YP w h->(K ë).In h)(ht:∀ (w:Pk) (h:ĵ),YP w h->∀ t∈tabs ë,CodeHd h t.1 t.2/\h.get? t.2=some (tabObj #[]))(nt:∀ w:Pk,noTabs ů=true)(F:∀ (w:Pk) (mg:Pe) (fa:Pg) (h:ĵ),(K ë).In h->h.Ns mainGlobals mg->mg d.name=some (.ref fa) ->
   ∃fd:Pm,(∀(s:Ph) (u:Pi),BindsTo s fd #[[u],[]] [(x,u)]) /\
    ∀ base:Heap,(K ë).In base->base.Ns mainGlobals mg->Blt base mg->(∀ t∈tabs ë,CodeHd base t.1 t.2)->FnOk l.prog w ů mg base CX0 k fa fd [x] (sp w))(go:∀ (w:Pk) (H:Hp) (a:Pg) (ns:Pn),ns.length<=n->(∀ t∈tabs ë,H t.2=some (.tbl #[]))->SqL ů H a (ns.map V.int)->sp w [.ref a] H (λv _=>v=.bl true) λ_ _ _=>False):
  W.WalkO q loose XP YP l.row.toRowW d [] (λf vs=>PySem.call f vs):=by
 refine Att.attach_call hn hdf λw s₀ s₁ mg mb fa o pm cd doc a vs ns G Y ho hd hcd hmg hobj hints hlen hg=>?_;have kx:=hY w _ Y;exists[fd,hb,hF],F w mg fa _ kx G.T.g hmg;exact Fa (tabs:=tabs ë) kx G.T.g G.T.b G.T.builtins G.T.nolimit hg G.T.bmain (λr hr'=>ht w _ Y r hr') (nt w) hobj hints (Zr hlen hn2) hr (λbase h1 h2 h3 h4=>hF base h1 h2 h3 h4) hb λH h1 h2=>go w H a ns hlen h1 h2
def pI(K:Frag)(x m:Str):Option (Pg×Pg):=match nsIn K mainGlobals x with
 | some (some (.ref C))=>(match findIn K (.ref C) m with
  | some (some (.ref f))=>(match K.lookup f with
   | some ⟨_,_,.func fd,_⟩=>(match Ř with
    | .ref c=>(match K.lookup c with
     | some ⟨_,_,.fields vs,_⟩=>(match (vs[11]?:Option Pi) with
      |some (.ref P)=>some (c,P)
      | _=>none)
     | _=>none)
    | _=>none)
   | _=>none)
  | _=>none)
 |_=>none
set_option Ē true in theorem Ef{K:Frag}(g:ý)(a:þ)(l:K.lookup f=some #[oc,od,.func fd,sl])(t:ĺ):Ř=.ref c:=by
 unfold pI at t;rw[g]at t;dsimp only at t;rw[a]at t;dsimp only at t;rw[l]at t;dsimp only at t;split at t
 .rename_i c' e;rw[e];split at t
  .split at t
   .cases t;rfl
   .cases t
  .cases t
 .cases t
theorem CD{K:Frag}{st:Stmt}(g:ý)(a:þ)(F:Fun K m q st f fd)(t:ĺ):Ř=.ref c:=by exists[oc,od,kV,dc,pm,an,cd,ct,sl,rfl,l,c0],id F.ex;exact Ef g a l t
theorem Cg:QCall X (.builtin "len") (λxs H Q=>∃x:Str,xs=[.str x]/\Ő<=100000/\Q (.int (Ő:Int)) H):=by refine#[?_];intro Pr s Z H xs us Q I r h;exists[x,rfl,hz,q],h;exists[u,rfl,rx],eU r;exists[t,rfl],rx;exact PyProof.Rows.len_str ∅ #[.int Ő,H,I.tok _,#[_,rfl],q]
theorem BL{n:ö}(h:n<=100000):n<=sizeLine:=Zr h ⋯
set_option Ē true in theorem rV:QSl X (λx lo hi H Q=>∃z:Str,x=.str z/\Ā<=100000/\Q (.str (bY z lo hi)) H):=by
 refine#[?_];intro Pr s Z H x v vl vu lo hi sl Q I rx hs pl pu h;exists[z,rfl,hz,q],h;exists[t,rfl],rx;have pt:∀{v:Pi} {o:Option Int},IsPart v o->∃p:Option (Int×Tok),v=partValue p/\p.map (·.1)=o:=fun{v o} p=>by
  cases p with
  |none=>exact#[none,rfl,rfl]
  |int i t=>exact#[some (i,t),rfl,rfl]
 exists[l,rfl,hl],pt pl;exists[u,rfl,hu],pt pu;have e:slicePicked z l u none=Builtin.Str.strSliceIndices lo hi 1 Ā:=by unfold slicePicked;rw[hl,hu];rfl
 refine#["str",_,F.slot_str_getitem.lookup,typeIs_str _ _ _,wpAny_getItem_str_slice (l:=l) (u:=u) (st:=none) hs rfl ?_];have hy:=EL z lo hi;unfold sliceMade;unfold bY at q hy;rw[e];split
 .rename_i hc;have hc':(Builtin.Str.strSliceIndices lo hi 1 Ā).length=Ā:=by simpa using hc
  rw[Pb hc']at q;exact#[.str z,H,I,#[_,rfl],q]
 .rename_i hc;have hc':¬(Builtin.Str.strSliceIndices lo hi 1 Ā).length=Ā:=by simpa using hc
  rw[Pa hc']at q hy;exact#[BL (Zr hy hz),.str _,H,I.tok _,#[_,rfl],q]
section
variable{prog:Pj}{w:Pk}{A:Pl}{E:Pd}{s:Ph}{κ:SortKind}{it:Array Keyed}{lt:Pp}{N:ö}
theorem JJ(Zq0:Zc prog w A s κ it lt N)(O:LtOk lt)(h2:2<=N)(h64:N<64){Q:Unit->SortSt->Prop}(h:∀(p:Po) (st':SortSt),POk N p->LS lt p N->Ţ=N->arrOf st'=p.map ŕ->failedOf st'=none->Q () st') :
  wpS Æ A E s sortRuns' Q (SortSt.mk' κ ((List.toArray (List.range N)).map ŕ) #[] 7 none) :=
 kas_runs (Q:=λu st' s'=>s'=s/\Q u st') (G:=λp s'=>s'=s/\POk N p/\LS lt p N) h2 h64 (λp st' _ hz ha hf g=>#[g.1,h p st' g.2.1 g.2.2 hz ha hf]) (tR (n:=N) (lt:=lt) Zq0 (λ_ hp hr=>#[rfl,hp,hr.2]) (xM ∅) (zW O ∅))
#check 0
section
variable{A:Pl}{s:Ph}{kS:Pg}{news:Pc}{vs ks:Pf}
theorem L0{e e1:ö}{P:ï}(hl:Ď=Ç)(h64:Ū)(h:AK prog w A b ks vs Ê s):
  wpAny Æ A (ksk_end a b ê e1 ŷ (List.toArray ks)) P E s:=by
 have hz:Ç<=4096:=∅
 have lr:(katRev b ks).length=(katRev b vs).length:=by rw[kat_len,kat_len,hl]
 have lv:(katRev b vs).length=Ç:=kat_len b vs;have step:∀t:Sem PySem.Fin,wpAny Æ A t P E s->wpAny Æ A (if b=true then(do let _ ←rule "list.sort.reverse";t)else t) P E s:=by
  intro t ht;split
  .exact z9 (YF ht)
  .exact ht
 unfold ksk_end;dsimp only;refine step _ ?_;have er:∀κ,SortSt.mk' κ Â #[] 7 none=SortSt.mk' κ ((List.toArray ŏ).map Ŗ) #[] 7 none:=λκ=>by have e:=kas_range Â;rw[show((List.toArray (katRev b ks)).zip (List.toArray (katRev b vs))).size=vs.length by simp[lr,lv]]at e;rw[e]
 rw[kat_pairs b hl];by_cases n2:ē<2
 .rw[Pb n2,Pb n2];have n2':Ç<2:=by simpa using n2
  refine z9 ě;rw[er,StateT.run_pure];refine z9 ě;dsimp only;exact AC (kat_snds lr (p:=List.toArray ŏ) rfl) (by simpa using hz) ∅ rfl (h.2 n2')
 rw[Pa n2,Pa n2];have n3:2<=Ç:=by rw[Zl]at n2;omega
 refine z9 (ZX (h.1 n3) (λκ s0 hg=>?_) λ_ _ x=>x.elim);exists[lt,O,ask,fin],hg;have Zq0:Zc prog w A s0 κ Â lt Ç:=λi j C hi hj hC=>by have:=ask i j C hi hj hC;rw[kat_ask_eq lr]at this;exact this
 rw[er];refine z9 (ZX (JJ (E:=E) (Q:=λ_ st'=>∃p:Po,POk Ç p/\LS lt p Ç/\Ţ=Ç/\arrOf st'=p.map Ŗ/\failedOf st'=none) Zq0 O n3 h64 λp st' a1 a2 a3 a4 a5=>#[p,a1,a2,a3,a4,a5]) ?_ λ_ _ x=>x);rintro⟨⟨⟩,st'⟩ s' ⟨rfl,p,a1,a2,a3,a4,a5⟩;dsimp only;exact AC (kat_snds lr a4) (by rw[Zd,ZM,a3];exact hz) ∅ a5 (fin p a1 a2)
theorem JI{e1:ö}{P:ï}(hq:s.heap.get? kS=some Å)(h64:Ū)(h:KatKeys prog w A h₀ L m kS f ā vs [] 0 s):
  wpAny Æ A (ksk_rest a f b ê e1 ŷ) P E s:=by
 have hz:Ç<=4096:=∅
 unfold ksk_rest;refine z9 Ŝ;rw[<-Array.forIn_toList];refine z9 (ZX (AB hz (λx qs e s' C hzz hx=>?_) vs [] 0 s Ì hq h) (λ_ s' hd=>?_) λ_ _ x=>x)
 .refine z9 (YV (ZX hx (λk s2 hkk=>?_) λ_ _ hF=>hF.elim));exists[nw,g,Fq,Nq,Uq,cq],hkk;exists[l1,l2,e0,hg,x1,x2],Uq.split;rw[e0]at Nq;have ak:=Nq (kS,seqObj "list" (List.toArray qs) e) (ZP _ Ĥ);have s1:=Z1 s2.heap kS ğ;have ea:(List.toArray qs).push k=List.toArray Ÿ:=by simp
  obtain⟨c2,hc2⟩:∃z,(s2.heap.update kS ğ).get? kS=some (seqObj "list" (List.toArray Ÿ) z):=#[_,by rw[<-ea];exact get?_update_seq ak.1 (·.push k)]
  dsimp only;refine z9 (listUpdate_at ak.1 rfl (Zb #[rfl,k,c2,hc2,cq _ c2 (kas_fr Fq s1 ak.2.1 ak.2.2) (by rw[hg];exact news_set Nq x1 x2 s1 hc2)]) (by rw[Zl];exact gP ∅) (Zr (Nat.le_of_eq (Array.size_push ..)) (by rw[Zl];exact Nat.le_succ_of_le (gP ∅))))
 .exists[qs,e,hq',hl,fin],hd;exact z9 (listItems_at hq' rfl (L0 hl h64 fin))
theorem Gv{n:ö}{P:ï}(F:ŗ)(N:Ļ)(ho:ò)(haL:a≠L)(ha0:h₀.get? a=none)(hna:∀ p∈news,p.1≠a)(h64:Ū)(h:∀ kS e1 h',Fr h₀ L h' m->News h₀ L h' (ó::(a,seqObj "list" #[] e1)::news)->a<kS->(∀ q∈news,q.1<kS) ->
   KatKeys prog w A h₀ L m kS f ā vs [] 0 { s with heap:=h' }):
  wpAny Æ A (ksk_tree a f b) P E s:=by
 have hz:Ç<=4096:=∅
 have la:a<Á:=Zs ho;have s1:=Z1 Ð a À;have F1:=kas_fr F s1 haL ha0;have N1:=kas_news N s1 hna;obtain⟨e1,ho1⟩:∃z,(s.heap.update a À).get? a=some (seqObj "list" #[] z):=#[_,get?_update_seq ho λ_=>#[]]
 have zk:((s.heap.update a À).push Ä).objs.size=Á+1:=by rw[size_push',Heap.size_update]
 have lk:L<((s.heap.update a À).push Ä).objs.size:=(F1.push _).ns.lt;unfold ksk_tree;refine z9 (listItems_at ho rfl (z9 (listUpdate_at ho rfl (z9 (seqEpoch_at ho1 rfl (z9 (wpAny_newTuple (z9 (wpAny_newList (ZU ?_) Ł)) (gP hz))))) (by rw[Zl];exact gP hz) Ł)));refine JI (s:={ s with heap:=((s.heap.update a À).push Ä).push Å }) (kS:=((s.heap.update a À).push Ä).objs.size)
  ŧ h64 (h _ e1 _ ((F1.push _).push _) (λp hp=>?_) (by rw[zk];exact Nat.lt_succ_of_lt la) λq hq=>by rw[zk];exact Nat.lt_succ_of_lt (Zs (N q hq).1))
 rcases Zg.mp hp with rfl|hp
 .exact#[Zm _ rfl,Yb lk,YO (Zr F.above (Nat.le_of_lt lk))]
 .rcases Zg.mp hp with rfl|hp
  .exact#[Za _ ť,haL,ha0]
  .exact#[Za _ (Za _ (N1 p hp).1),(N1 p hp).2]
theorem JH{Q:Pd}(F:ŗ)(N:Ļ)(h64:Ū)(ha2:∀ x,argsOk "list.sort" #[[.ref x],kw])(ht:∀ x,Builtin.«list.sort» #[[.ref x],kw]=ksk_tree x f b)(h:∀ D kS e1 h',Fr h₀ L h' m->News h₀ L h' (ó::ô::news)->D<kS->(∀ q∈news,q.1<D) ->
   KatKeys prog w A.in1 h₀ L m kS f (λks e s'=>AK prog w A.in1 b ks vs (λout=>KatFin h₀ L m kS D ks e e1 out (λs4=>Q İ s4)) s') vs [] 0 { s with heap:=h' }):
  wpAny Æ A (do let l ←newList vs;let _ ←holding [l] (call (.builtin "list.sort") [l] kw);ret l) (λfin s'=>∃v,fin=.done (.ret v)/\Q v s') E s:=by
 have hz:Ç<=4096:=∅
 have hL:L<Á:=F.ns.lt;have hoL:(s.heap.push í).get? Á=some í:=Zm _ rfl;refine z9 (wpAny_newList ?_ (gP hz));refine z9 (ZU (wpAny_call_entry_kw slot_list_sort #[_,hoL,rfl] entry_list_sort ?body (ha2 _)))
 case body =>
  show wpAny Æ A.in1 (Builtin.«list.sort» #[[.ref Á],kw]) _ _ _;rw[ht];refine Gv (s:={ s with heap:=s.heap.push í }) (F.kept λb o q=>Za _ q) (N.grown λb o q=>Za _ q) hoL (Yb hL) (YO (Zr F.above (Nat.le_of_lt hL))) (λp hp=>Zy (Zs (N p hp).1)) h64 λkS e1 h' F' N' l0 l1=>?_;refine kat_keys_mono (h _ kS e1 h' F' N' l0 λq hq=>Zs (N q hq).1) λks e s' _ hd=>#[λn2=>ZX (hd.1 n2) (λκ s2 hk=>?_) λ_ _ x=>x,λn2=>(hd.2 n2).mono λs4 hq=>#[_,rfl,Zb #[_,rfl,hq]]]
  exists[lt,O,ask,fin],hk;exact#[lt,O,ask,λp a1 a2=>(fin p a1 a2).mono λs4 hq=>#[_,rfl,Zb #[_,rfl,hq]]]
#check 0
section
theorem qK{ks:List ZKey}{Q:VK}(I:Û)(src:AJ X s l xs)(h64:Ã<64)(hl:Ď=Ã)(hne:(∀k∈ks,∃ns,k=.t ns/\ns≠[])\/(wJ ks/\ļ+64<cLine))(hs1:argsOk "sorted" #[[.ref l],kw])(hs2:∀x,argsOk "list.sort" #[[.ref x],kw])(hs3:∀x,Builtin.«list.sort» #[[.ref x],kw]=ksk_tree x (.ref f) b)(F:∀l,wg (wX X l) Pr Z f sp)(spec:É)(q:∀(p:Po) (H2:Hp) (D:Pg),POk Ã p->LS â p Ã->Same H H2->H2 D=none->Q İ (upd H2 D ň)):
  wpAny ă X.A (call Ĳ [.ref l] kw) Ŕ X.xe s:=by
 have hz:Ã<=4096:=∅
 refine call_function_entry_kw kind_sorted plain_sorted entry_sorted hs1 ?_;unfold Builtin.«sorted»;refine z9 (m:=checkCount "sorted" 1 1 _) (Zb (z9 (src _ λh0 tk its kp rv=>?_)));have I0:Inv X Pr Z H { s with heap:=h0,toks:=tk }:=I.kept (t':=tk) kp;exists[m,F0],I0.fr;have li:ą=Ã:=rv.length.symm;refine JH (vs:=its) (b:=b) F0 (lV ď h0 é) ∅ hs2 hs3 λD kS e1 h1 F1 N1 hDk hD=>?_;have nD:=N1 ô (.tail _ Ĥ);have nK:=N1 ó Ĥ;have hds:h0.get? D=none:=by
  cases g:h0.get? D with
  |none=>rfl
  |some o=>exact absurd (hD (D,o) (fh g nD.2.1 nD.2.2)) (YD _)
 have hks:h0.get? kS=none:=by
  cases g:h0.get? kS with
  |none=>rfl
  |some o=>exact absurd (Nat.lt_trans hDk (hD (kS,o) (fh g nK.2.1 nK.2.2))) (YD _)
 have xk:=I0.exOk hks nK.2.1 nK.2.2;have xd:=I0.exOk hds nD.2.1 nD.2.2;have hlx:∀b∈[kS,D],ExOk X b:=λb' hb=>by
  simp only[Zg,ZB,Z9]at hb;rcases hb with rfl|rfl
  .exact xk
  .exact xd
 have fpk:=I0.fpW (l:=[kS,D]) Ì xk hks;have fpd:=I0.fpW (l:=[kS,D]) Ì xd hds;have mv0:∀b u,b≠é->b∉([]:List Pg)->h0.get? b=some u->h1.get? b=some u:=λb u hL _ g=>by
  cases qb:X.base.get? b with
  |none=>exact(N1 (b,u) (.tail _ (.tail _ (fh g hL qb)))).1
  |some o =>have e':=I0.bk b o qb;rw[g]at e';cases e';exact F1.keep b u qb
 have I1:Inv X Pr Z H { s with heap:=h1,toks:=tk }:=Inv.movedF (ch:=[]) (s:={ s with heap:=h0,toks:=tk }) (t':=tk) I0 (λb hb=>absurd hb Ì) mv0 #[m,F0.ns,F1.ns];have I2:=I1.widen hlx;have hkd:kS≠D:=Yb hDk;refine sS (X:=wX X [kS,D]) (H1:=H) (D:=D) (e1:=e1) (ks:=ks) (xs:=xs) (its:=its) hkd rv hl (F _) spec (λas us e2 H' s' S la=>?_) its [] [] 0 H { s with heap:=h1,toks:=tk } #[I2,Same.refl H,fpk,fpd,nK.2.2,nD.2.2,nK.1,nD.1,F1.ns,.nil,λi a k h=>by simp at h] Ì (by simpa using li);have hN:ą=Ã:=li;have lu:us.length=Ã:=by rw[<-S.vals.length,la]
 have rvR:Vals ģ (katRev b its):=yO b rv;have lR:(katRev b xs).length=Ã:=kat_len b xs;have gk:∀i,i<Ã->∃(v:V) (u:Pi) (k:ZKey),RelV v u/\(katRev b us).getD i Value.none=u/\k∈ks/\(katRev b Í).getD i []=k.nums/\k.at H' v:=λi hi=>by
  obtain⟨j,hj,e1⟩:∃j,j<Ã/\∀{α:Type} (l:List α),l.length=Ã->(katRev b l)[i]?=l[j]?:=by
   cases b with
   |false=>exact#[i,hi,λl _=>rfl]
   | true=>exact#[Ã - 1 - i,∅,λl hl'=>by
     show l.reverse[i]?=_;rw[List.getElem?_reverse ∅,hl']]
  have h1:as[j]?=some (as[j]'∅):=Zf ∅;have h2:ks[j]?=some (ks[j]'∅):=Zf ∅;exists[u,gu,ru],S.vals.get h1;refine#[_,u,_,ru,?_,ZL (show j<ks.length by omega),?_,S.keys j _ _ h1 h2]
  .rw[ZG,e1 us lu,gu];rfl
  .rw[ZG,e1 Í (by rw[Zd,hl]),Zx,h2];rfl
 have fin:∀p:Po,POk Ã p->Ţ=Ã/\LS â p Ã ->
   KatFin ď é m kS D us e2 e1 (katRev b (p.toList.map λi=>(katRev b its).getD i Value.none)) ċ s':=λp hp hs=>by
  refine KatFin.intro (news:=(kS,seqObj "list" (List.toArray us) e2)::jS ď s'.heap é kS) S.fr (kE S.hk S.fk.2.1 S.bk) Ũ λh3 c F3 N3=>?_;have mv3:=kC (λb' o qb=>S.I.bk b' o qb) F3 N3;have hd3:h3.get? D=some ü:=mv3 D _ S.fd.2.1 (λzz=>hkd (Zi.mp zz).symm) S.hd;refine KasFin.intro (news:=ô::jS ď h3 é D) (s:={ s' with heap:=h3 }) F3 (kE hd3 S.fd.2.1 S.bd) Ũ λh4 c4 F4 N4=>?_;have mv4:=kC (λb' o qb=>F3.keep b' o qb) F4 N4;have hch:∀b∈[kS,D],cE (wX X [kS,D]) Pr H' b:=λb' hb=>by
   simp only[Zg,ZB,Z9]at hb;rcases hb with rfl|rfl
   .exact S.fk
   .exact S.fd
  have mv:∀b u,b≠é->b∉[kS,D]->s'.heap.get? b=some u->h4.get? b=some u:=λb' u hL hx g=>mv4 b' u hL Ć (mv3 b' u hL Ć g);have pl:∀i∈p.toList,i<Ã:=λi hi=>by have:=(hp.mem_iff).mp (Array.mem_toList_iff.mp hi);simpa using this
  have vals:∀(w:List Nat),(∀i∈w,i<Ã)->Vals (w.map λi=>(katRev b xs).getD i .non) (w.map λi=>(katRev b its).getD i Value.none):=λw=>by
   induction w with
   |nil=>intro _;exact .nil
   |cons i w ih =>intro hw;have hi:=hw i Zq;have hx:ģ[i]?=some (ģ[i]'∅):=Zf ∅;exists[u,gu,ru],rvR.get hx;refine .cons ?_ (ih λj hj=>hw j (Zj _ hj));show RelV ((katRev b xs).getD i V.non) ((katRev b its).getD i Value.none);rw[ZG,ZG,hx,gu];exact ru
  have lp:p.toList.length=Ã:=by have:=hs.1;simpa using this
  have new:ObjOk Õ ġ (upd H' D ň) h4 D ň:=#[by rw[kat_len,Zd,lp];exact gP ∅,_,c4,yO b (vals _ pl),(N4 _ Ĥ).1]
  have I4:=Inv.tookF (X:=wX X [kS,D]) (ch:=[kS,D]) (a:=D) (o:=.lst È) (t':=s'.toks) S.I Ì hch mv #[m,S.ns,F4.ns] new;exact#[.ref D,_,I4.narrow I.ok (λb' hb=>(hlx b' hb).old),rfl,q p H' D hp hs.2 S.sm S.fd.1]
 have go:∀κ:SortKind,(∀(i j:ö) (C:Ą),i<Ã->j<Ã->C (HT.lexLt ((katRev b Í).getD i []) ((katRev b Í).getD j [])) s'->kas_ask Õ ġ ĭ κ (katRev b us) i j C s') ->
   ZGo Õ ġ ĭ b us its (λout=>KatFin ď é m kS D us e2 e1 out ċ) κ s':=λκ hask=>by
  refine#[_,rX (katRev b Í),?_,?_]
  .rw[hN];exact hask
  .rw[hN];exact λp hp hs=>fin p hp #[by have:=hp.size_eq;simpa using this,hs]
 refine#[λn2=>?_,λn2=>?_]
 rotate_left
 .have:=fin (List.toArray (List.range ą)) (by rw[hN];exact Array.Perm.refl _) #[by simpa using hN,λi j h1 h2=>∅];rw[List.toList_toArray]at this;exact this
 rcases hne with hB|⟨hP,hun⟩
 .have tups:∀(vs:ŀ) (ws:Pf) (n:ö),Vals vs ws->n+Ç=Ď->ã->∃fs:Pf,KatTups s'.heap ws fs/\ŭ=Ů/\∀v∈fs,∃i t,v=.int i t:=λvs=>by
   induction vs with
   |nil =>intro ws n hv _ _;cases hv;exact#[[],KatTups.nil,rfl,λv h=>nomatch h]
   |cons v vs ih =>
    intro ws n hv hl' h;cases hv with
    |cons rv1 hv =>
     rw[Zk]at hl';have hkn:ks[n]?=some Š:=Zf ∅;exists[ns,en,ne],hB _ ĉ;rw[en]at hkn;exists[a,rfl,ea],h 0 v _ rfl Č;cases rv1;exists[ia,ra,pa,za],S.I.tuple (Pt (K:=ĸ) ea);exists[oa,eo,ca,n1,da],id pa;obtain⟨x,t,ia',rfl⟩:∃x t r,ia=.int x t::r:=by
      cases bQ ra with
      |nil=>exact absurd rfl ne
      |cons x t r=>exact#[x,t,_,rfl]
     exists[fs,f1,f2,f3],ih _ (n+1) hv ∅ Þ;refine#[.int x t::fs,KatTups.cons eo ca da rfl f1,by rw[Zk,Zk,f2],λv hv=>?_];rcases Zg.mp hv with rfl|hv
     .exact#[_,_,rfl]
     .exact f3 v hv
  exists[fs,t1,t2,t3],tups as us 0 S.vals ∅ ä;refine kat_kind (T:=.type "int") t1 ∅ ś rfl Ę
  .exists[i,t,rfl],t3 v hv;exact .now
  .exists[v,u,k1,ru,eu,m1,en,at1],gk i hi;exists[v2,u2,k2,ru2,eu2,m2,en2,at2],gk j hj;exists[n1,rfl,_],hB _ m1;exists[n2,rfl,_],hB _ m2;exists[a1,rfl,ha1],at1;exists[a2,rfl,ha2],at2;cases ru;cases ru2;exists[ia,ra,pa,za],S.I.tuple (Pt (K:=ĸ) ha1);exists[ib,rb,pb,zb],S.I.tuple (Pt (K:=ĸ) ha2);exists[oa,eoa,ca,q1,da],id pa;exists[ob,eob,cb,q2,db],id pb;unfold kas_ask;rw[eu,eu2];rw[en,en2]at hC;exact kat_lt eoa da eob db (yV _ _ _ _ 0 (bQ ra) (bQ rb) (by rw[Zl,Zl,<-ra.length,<-rb.length,Zd,Zd]) hC)
 .have tups:∀(vs:ŀ) (ws:Pf) (n:ö),Vals vs ws->n+Ç=Ď->ã->∃fs:Pf,KatTups s'.heap ws fs/\ŭ=Ů/\∀v∈fs,∃(a:Pg) (o:Obj),v=.ref a/\s'.heap.get? a=some o/\o.cls=.type "tuple":=λvs=>by
   induction vs with
   |nil =>intro ws n hv _ _;cases hv;exact#[[],KatTups.nil,rfl,λv h=>nomatch h]
   |cons v vs ih =>
    intro ws n hv hl' h;cases hv with
    |cons rv1 hv =>
     rw[Zk]at hl';have hkn:ks[n]?=some Š:=Zf ∅;exists[ps,ns,en],hP _ ĉ;rw[en]at hkn;exists[a,b,c,rfl,ea,eb,ec],h 0 v _ rfl Č;cases rv1;exists[ia,ra,pa,za],S.I.tuple (Pt (K:=ĸ) ea);exists[oa,eo,ca,n1,da],id pa;exists[ib,rb,pb,zb],S.I.tuple (Pt (K:=ĸ) eb);exists[ob,eob,cb,n2,db],id pb;exists[u1,u2,rfl,r1,r2],jM ra;cases r1;exists[fs,f1,f2,f3],ih _ (n+1) hv ∅ Þ;refine#[.ref b::fs,KatTups.cons eo ca da rfl f1,by rw[Zk,Zk,f2],λv hv=>?_];rcases Zg.mp hv with rfl|hv
     .exact#[b,ob,rfl,eob,cb]
     .exact f3 v hv
  exists[fs,t1,t2,t3],tups as us 0 S.vals ∅ ä;refine kat_kind (T:=.type "tuple") t1 ∅ ś rfl Ę
  .exists[a,o,rfl,ho,hc'],t3 v hv;rw[<-hc'];exact(Looks.ld ho).andThen .now
  .exists[v,u,k1,ru,eu,m1,en,at1],gk i hi;exists[v2,u2,k2,ru2,eu2,m2,en2,at2],gk j hj;exists[p1,n1,rfl],hP _ m1;exists[p2,n2,rfl],hP _ m2;exists[a1,b1,c1,rfl,ha1,hb1,hc1],at1;exists[a2,b2,c2,rfl,ha2,hb2,hc2],at2;cases ru;cases ru2;exists[ia,ra,pa,za],S.I.tuple (Pt (K:=ĸ) ha1);exists[ib,rb,pb,zb],S.I.tuple (Pt (K:=ĸ) ha2);exists[oa,eoa,ca,q1,da],id pa;exists[ob,eob,cb,q2,db],id pb;exists[u1,u2,rfl,r1,r2],jM ra;cases r1;cases r2;exists[u1,u2,rfl,r1,r2],jM rb;cases r1;cases r2;exists[ix,rx,px,zx],S.I.tuple (Pt (K:=ĸ) hb1);exists[iy,ry,py,zy],S.I.tuple (Pt (K:=ĸ) hb2);exists[jx,sx,qx,yx],S.I.tuple (Pt (K:=ĸ) hc1);exists[jy,sy,qy,yy],S.I.tuple (Pt (K:=ĸ) hc2);unfold kas_ask;rw[eu,eu2];rw[en,en2]at hC;have hu0:ļ<cLine:=∅
   exact kat_lt eoa da eob db (qA (pU S.I hun hb1 hb2) (pU S.I hun hc1 hc2) (λR hR=>HT.lt_tupInts px py (bQ rx) (bQ ry) hu0 hR) (λR hR=>HT.lt_tupInts qx qy (bQ sx) (bQ sy) hu0 hR) rfl hC)
#check 0
def LP(sp:Sp)(H:Hp)(xs:ŀ)(Q:VK):Prop :=
 Ã<64/\∃ks:List ZKey,Ď=Ã/\wJ ks /\
 É /\
 ∀(p:Po) (H2:Hp) (D:Pg),POk Ã p->LS (λi j=>HT.lexLt ((ks.map ZKey.nums).getD i []) ((ks.map ZKey.nums).getD j [])) p Ã->Same H H2->H2 D=none->Q İ (upd H2 D (.lst (p.toList.map λi=>xs.getD i .non)))
def Jw(P:Pg)(q:Str)(lpos:Pos)(j:ö)(sp:V->Sp)(ta:TA):TE:=λZ H0 Q=>ta Z H0 λvs H=>∃(l:Pg) (kvs:Ñ) (kv:V),vs=[.ref l]/\Z[j]?=some (some kv)/\H l=some û/\cH q P lpos H/\∀ks H2,SameT P H H2->cH q P lpos H2->dO H2 kvs ks->LP (sp kv) H2 ks Q
section
variable{X:Cx}
theorem FP{k j:ö}(hc:ĕ)(hm:ź "sorted" = none)(hcode:X.env.code=.ref c)(C:CodeHd ď c P)(B:Blt ď ź)(F:LamOkX Õ ġ ĸ ź ď k å body scope x y sp)(hr:Room (k+3) X.A)(ha:QA X [e] ta)(hj:X.N[j]?=some y)(hyc:X.env.scope.names.lookup y=some .cell)(hcy:X.env.cells.lookup y=some cy)(hcl:closureFor scope Ü=pure [œ])(hbd:∀(pm ct:Pi) (c':Pg) (s:Ph) (u:Pi),BindsTo s (Bi å params body scope [œ] pm c' ct) #[[u],[]] [(x,u)]:=by intros;exact .of_eq rfl)(hge:X.env.globals=mainGlobals:=by rfl)(hdef:defaultsOf params Ü=([],[]):=by rfl)(hg:Gl X "sorted":=by rfl)(hn:aX e=true:=by rfl):
  QE X (.Call (.Name "sorted" p) [e] [#[some "key",.Lambda params body scope lpos,kpos]] pos) (Jw P å lpos j sp ta):=by
 refine#[?_];intro Pr s Z H0 Q I h;refine Y0 (iC I hg hm PyProof.Rows.boot_sorted ?_);have h1:=bf (es:=[]) (env:=Ü) hn;refine PyProof.Rows.callWith_kw (thn (ha.h pos Pr s Z H0 _ I h) λus s1 hz9=>?_) (he:=by rw[h1];rfl) (hplain:=by rw[h1];rfl) (hall:=rfl) (hkw:=rfl);exists[vs,H1,I1,r1,q1],hz9;exists[l,kvs,kv,rfl,hZ,hH,tab,q],q1;exists[u,rfl,ru],eU r1;cases ru;have hk:PK X [#[some "key",.Lambda params body scope lpos,kpos]] (jK (BN [œ] X P params body scope lpos) jE):=Ag (IL hcode hge C B hdef hcl) DD;refine thn (hk pos Pr s1 Z H1 (λzs H2=>∃f,zs=[.ref f]/\zq X P å lpos params body scope [œ] H1 f H2) I1 (E8 tab λf H2 mk=>#[f,rfl,mk])) λws s2 hz9=>?_;exists[zs,H2,I2,rz,f,e1,mk],hz9;subst e1;exists[u,rfl,ru],eU rz;cases ru;exists[c',ct,sT,lt,hf,hc',nf,nc],mk;have hr2:Room (k+1) ĭ:=(hr.mono ∅ |>.in1 |>.in1)
 have F1:=E9 (X:=X) (Pr:=Pr) (Z:=Z) (sp:=sp kv) (params:=params) (f:=f) (c:=cy) (c':=c') (pm:=(ź "__name__").getD .none) (ct:=ct) F.sc hj hZ hyc hcy hr2 (hbd _ _ _) λA outer s H v Q hr' hs=>let⟨t,t1,t2⟩:=F.ex f c' cy kv A outer s H v Q hr' hs;#[t,t1.h,t2]
 exists[ps0,tP,_],id tab;have hlP:l≠P:=λz=>by rw[z,tP]at hH;cases hH
 have hH2:=sT _ _ hH hlP;exists[ks,kat,src],Ea hc I2 (Rd.of hH2);exists[hz,zs,hl,hal,spec,q],q ks H2 sT lt kat;exact qK (b:=false) I2 src hz hl (.inr #[hal,hr2.units]) (ksk_s1 _ _) (λx=>ksk_l1 _ _) (λx=>ksk_t1 f x) F1 (λi v key H' g1 g2 g3 R hR=>#[g3 _ _ hf,g3 _ _ hc',spec i v key H' g1 g2 g3 R hR]) q
#check 0
inductive IsF(a b:Str)(x:V)(R:V->Prop):Prop
 |mk (z:Str) (h0:x=.str z) (h1:a.length+Ā+b.length<=sizeLine) (q:R (.str (a++z++b))):IsF a b x R
inductive rStrA(xs:ŀ)(H:Hp)(Q:VK):Prop
 |int (i:Int) (h0:xs=[.int i]) (h1:i.natAbs<10^4300) (q:Q (.str (Nj i)) H):rStrA xs H Q
 |str (z:Str) (h0:xs=[.str z]) (q:Q (.str z) H):rStrA xs H Q
section
variable{X:Cx}{K:Qa}
inductive rNeNil(K:Qa)(x y:V)(H:Hp)(Q:VK):Prop
 |mk (a b:Pg) (xs:List V) (h0:x=.ref a) (h1:y=.ref b) (ha:SqL K H a xs) (hb:SqL K H b []) (q:Q (.bl (!xs.isEmpty)) H):rNeNil K x y H Q
theorem Ip(hK:ĸ=K)(hu:ç):QOp X (compareOp .NotEq) (rNeNil K):=by
 refine#[?_];subst hK;intro Pr s Z H x y v u Q I rx ry h;exists[a,b,xs,rfl,rfl,ha,hb,q],h;cases xs with
 |nil=>exact KO hu Pr s Z H _ _ v u Q I rx ry #[a,b,[],[],rfl,rfl,ha,hb,q]
 |cons x xs =>cases rx;cases ry;exists[its,r1,p1,_],I.list ha;exists[its2,r2,p2,_],I.list hb;have l1:ą=Ã+1:=r1.length.symm;have l2:its2.length=0:=r2.length.symm;exact SeqAt.RcNeAt.lists_lengths p1.isList p2.isList (by simp[l1,l2]) ∅ X.prog ġ X.xe _ #[.bl true,H,I,rfl,q]
#check 0
structure MkFnX(P:Pj)(w:Pk)(K:Qa)(mg:Pe)(base:ĵ)(k:ö)(C:Pg)(x:Str)(ps:List Str)(sp:Sp):Prop where
 cl:Cls K C
 mgC:mg x=some (.ref C)
 ex:∃f fd,FnOk P w K mg base (CXr P w) k f fd ps sp/\Mk K C f/\Binds K fd ps []
end
open PySem PySem.Spec PyProof.Rows PySem.W Builtin Builtin.Str
mutual
#check#[(model X.prog X.w),xs.length,X.env,(eval e Â),X.xe]
structure QE1(X:Cx)(e:Pq)(t:TE):Prop where
 h:∀(Pr:Pc) (s:Ph) (Z:St) (H:Hp) (Q:VK),1<=s.toks->Inv X Pr Z H s->t Z H Q->wpAny À X.A Ã (EP X Pr Z Q) Ä s
structure QT1(X:Cx)(e:Pq)(t:TT):Prop where
 h:∀(Pr:Pc) (s:Ph) (Z:St) (H:Hp) (Q:Bool->Hp->Prop),Inv X Pr Z H s->t Z H Q->wpAny À X.A (isTrue e Â Ã) (λb s'=>1<=s'.toks/\TP X Pr Z Q b s') Ä s
structure QS1(X:Cx)(st:Stmt)(t:TS):Prop where
 h:∀(Pr:Pc) (s:Ph) (Z:St) (H:Hp) (D:Ends),Inv X Pr Z H s->t D Z H->wpAny À X.A (exec st Â) (λf s'=>1<=s'.toks/\SP X Pr D f s') Ä s
structure QB1(X:Cx)(st:List Stmt)(t:TS):Prop where
 h:∀(Pr:Pc) (s:Ph) (Z:St) (H:Hp) (D:Ends),1<=s.toks->Inv X Pr Z H s->t D Z H->wpAny À X.A (execs st Â) (SP X Pr D) Ä s
def JK(ks:List ZKey):Prop:=False\/∀k∈ks,∃ns,k=.t ns/\ns≠[]
def LQ(sp:Hp->List V->Hp->VK->Prop)(sm:Hp->Hp->Prop)(end':Hp->Prop)(H:Hp)(xs:List V)(ks:List ZKey)(Q:VK):Prop :=
 Á<64/\ks.length=Á/\JK ks /\
 (∀(i:Nat) (v:V) (key:ZKey) (H':Hp),xs[i]?=some v->ks[i]?=some key->sm H H'->∀R:VK,(∀kv H'',Same H' H''->key.at H'' kv->R kv H'')->sp H' [v] H' R) /\
 ∀(p:Po) (H2:Hp) (D:Pg),POk Á p->LS (λi j=>HT.lexLt ((ks.map ZKey.nums).getD i []) ((ks.map ZKey.nums).getD j [])) p Á->sm H H2->end' H2->H2 D=none->Q (.ref D) (upd H2 D (.lst (p.toList.map λi=>xs.getD i .non)))
section
variable{X:Cx}{Pr:Pc}{Z:St}{H:Hp}{s:Ph}
structure MS(X:Cx)(Pr:Pc)(Z:St)(H1:Hp)(S I l:Pg)(j:Nat)(us:Array Pi)(H:Hp)(s:Ph):Prop where
 iv:Inv X Pr Z H s
 sm:Same H1 H
 fS:cE X Pr H S
 fI:cE X Pr H I
 hS:∃e,s.heap.get? S=some (seqObj "list" us e)
 hI:s.heap.IsListIter I l j
#check 0
inductive rEqNil(K:Qa)(x y:V)(H:Hp)(Q:VK):Prop
 |mk (a b:Pg) (xs:List V) (h0:x=.ref a) (h1:y=.ref b) (ha:SqL K H a xs) (hb:SqL K H b []) (q:Q (.bl xs.isEmpty) H):rEqNil K x y H Q
end
end Lake
namespace HT
open PySem PyProof.Rows
end HT
namespace Lake
open PySem PySem.Spec PyProof.Rows PySem.W Builtin
mutual
#check#[s.heap.objs.size,(List.toArray [es[i].key,es[i].val]),kvs.length,(ZZ Yh ty PySem.F.entry_dict_itemiterator_next ?_ (PySem.F.args_dict_itemiterator_next_1 _)),es.size,(by simp),(Value.ref d==Value.none),(Zb (z9 (z9 (z9 (YR ty (Zb (z9 (wpAny_fieldsOf hit rfl ?_)))))))),(.frz o (.dT kvs)),(.ref it),(model prog w),(.tup (p.1.map kV)),(IsItemIter s.heap it d i Ä ep k0 v0),(DRaw s.heap d es ep),(i+1),(if Æ=true then _ else _),(Zb (z9 (Yk hod hdd ?_))),(Zb (z9 (Yx hod hdd ?_))),(List.toArray [.ref a]),(.tup [.ref b,p.2]),(.Tuple elts kt tp),(Option Pi->Ph->Prop),h1.push,0,(by size_fits),(Ze _),s1.heap.push,(Zb (z9 ?_)),(Nat->Pi->Prop),(pyNext É),s.heap,hv.typeIs,(.ref À),(ItP o a),(.dT kvs),(Heap->Prop)]
section
variable{prog:Pj}{w:Pk}{A:Pl}{S:Pg}{wr:List Pg}{n:Nat}{P:Ü}{St:Nat->Heap->Prop}{TT:ã}
structure CmpIn(prog:Pj)(w:Pk)(A:Pl)(P:Ü)(lt:Pp)(wr:List Pg)(S:Pg)(TT:ã):Prop where
 stay:∀h h':Heap,(∀b o,b∉wr->b≠S->h.get? b=some o->h'.get? b=some o)->TT h->TT h'
 cmp:∀i j vi vj (s:Ph) (Q E:Pd),TT Þ->P i vi->P j vj->Q (.bool (lt i j)) s->wpAny Ê A (richCompare .Lt vi vj) Q E s
#check 0
section
variable{kd:Nat}
inductive MinR(K:Qa)(vs:List V)(H:Hp)(Q:VK):Prop
 |mk (a:Pg) (ps:List (Pg×Pn)) (h0:vs=[.ref a]) (h1:SqL K H a (ps.map λx=>.ref x.1)) (h2:∀x∈ps,SqT K H x.1 (x.2.map V.int)) (q0:ps=[]->Q .non H) (q:∀x∈ps,(∀y∈ps,HT.lexLt y.2 x.2=false)->Q (.ref x.1) H):MinR K vs H Q
#check 0
section
variable{A:Pl}{s:Ph}{es:Array DictEntry}{ep i:Nat}
theorem xJ(hit:Ì):s.TypeIs É "dict_itemiterator":=#[_,hit,rfl]
theorem E6{Q:Õ}(hit:Ì)(hm:Í)(hx:i<Ä)(hQ:∀ h',IsItemIterOut h' it d Î Ä ep es[i].key es[i].val À->h'.get? À=some { cls:=.type "tuple",data:=.seq Á } ->
   (∀ b o,b≠it->s.heap.get? b=some o->h'.get? b=some o)->Q (some à) { s with heap:=h' }):wpAny Ê A Ý Q E s:=by
 have ty:=xJ hit;exists[od,hod,_,hdd],id hm;have own:Builtin.Dict_items.ownsTuple "dict_itemiterator" = true:=⋯
 have lt:it<À:=Zs hit;unfold pyNext;refine z9 (YV (Z4 (name:=Str.ofString "__next__") ty Yh Ã));refine z9 Ç;simp only[own,if_true];show wpAny _ _ Ï _ _ s;rw[Pa (show¬(Æ=true)from Zt)];refine z9 Ð;rw[Pa Å];refine z9 Ñ;rw[Pa Å];refine Zb ?_;simp only[show¬((i:Int)<0)from by omega,if_false,YS,y8 hx];refine z9 (z9 (YR ty (Zb (z9 (wpAny_isOneOf_itemiter ty ?_)))));show wpAny _ _ (setField É 3 (rawInt ((i:Int)+1)) >>= _) _ _ s;refine z9 (Yf hit Å λh1 e1 b1=>?_);have e1:IsItemIter h1 it d Î Ä ep k0 v0:=by unfold IsItemIter;rw[show((i+1:Nat):Int)=(i:Int)+1 by omega];simpa[rawInt]using e1
 have ty1:Shared.TypeIs { s with heap:=h1 } É "dict_itemiterator":=#[_,e1,rfl]
 refine z9 (ZU (z9 (wpAny_isOneOf_itemiter ty1 (z9 (wpAny_isOneOf_itemiter ty1 ?_)))));show wpAny _ _ (Builtin.Dict_items.pairFromOwner É 6 es[i].key es[i].val) _ _ { s with heap:=h1 };unfold Builtin.Dict_items.pairFromOwner;refine z9 (wpAny_newTuple ?_);have z1:h1.objs.size=À:=b1.1;have e2:IsItemIter (Ö { cls:=.type "tuple",data:=.seq Á }) it d Î Ä ep k0 v0:=Za _ e1;have t2:(Ö { cls:=.type "tuple",data:=.seq Á }).get? À=some { cls:=.type "tuple",data:=.seq Á }:=by rw[<-z1];exact Zm _ rfl
 have k2:∀b o,b≠it->s.heap.get? b=some o->(Ö { cls:=.type "tuple",data:=.seq Á }).get? b=some o:=λb o hb e=>Za _ (b1.extBut b o hb e);show wpAny _ _ (Builtin.Dict_items.ownedTupleIsFree É >>= _) _ _ { s with heap:=h1.push _ };rw[z1];generalize Ö { cls:=.type "tuple",data:=.seq Á }=h2 at e2 t2 k2 ⊢;clear e1 b1 ty1 z1;refine z9 ?_;unfold Builtin.Dict_items.ownedTupleIsFree;refine z9 (ZY e2 rfl (x:=.none) rfl (Zb ?_));simp only[if_true];refine z9 (ZY e2 rfl (x:=k0) rfl (z9 (ZY e2 rfl (x:=v0) rfl ?_)));refine z9 (Yf e2 Å λh3 e3 b3=>?_);have e3:IsItemIter h3 it d Î Ä ep es[i].key v0:=e3;refine z9 (Yf e3 Å λh4 e4 b4=>?_);have e4:IsItemIter h4 it d Î Ä ep es[i].key es[i].val:=e4;refine z9 (Yf e4 Å λh5 e5 b5=>?_);have e5:IsItemIterOut h5 it d Î Ä ep es[i].key es[i].val À:=e5;refine z9 (Yf e5 Å λh6 e6 b6=>?_);have e6:IsItemIterOut h6 it d Î Ä ep es[i].key es[i].val À:=e6;have k6:∀b o,b≠it->h2.get? b=some o->h6.get? b=some o:=λb o hb e=>b6.extBut b o hb (b5.extBut b o hb (b4.extBut b o hb (b3.extBut b o hb e)));exact z9 (wpAny_letGo (Zb (Zb #[_,rfl,Zb (hQ h6 e6 (k6 _ _ (Yb lt) t2) λb o hb e=>k6 b o hb (k2 b o hb e))])))
theorem HZ{Q:Õ}(hh:A.handled=none)(hit:IsItemIter Þ it d Ä Ä ep k0 v0)(hm:Í)(hQ:∀h',Heap.ExtBut it Þ h'->Q none { s with heap:=h' }):wpAny Ê A Ý Q E s:=by
 have ty:=xJ hit;exists[od,hod,_,hdd],id hm;have own:Builtin.Dict_items.ownsTuple "dict_itemiterator" = true:=⋯
 unfold pyNext;refine z9 (YV (Z4 (name:=Str.ofString "__next__") ty Yh Ã));refine z9 Ç;simp only[own,if_true];show wpAny _ _ Ï _ _ s;rw[Pa (show¬(Æ=true)from Zt)];refine z9 Ð;rw[Pa Å];refine z9 Ñ;rw[Pa Å];refine Zb ?_;simp only[show¬((Ä:Int)<0)from by omega,if_false,YS,Array.getElem?_eq_none Ù];refine z9 (z9 (YR ty (Zb ?_)));show wpAny _ _ (setField É 2 .none >>= _) _ _ s;refine z9 (YN hit rfl Å ?_);show wpAny _ _ (newExc (.type "StopIteration") [] >>= _) _ _ _;simp only[newExc,newTuple];refine z9 (z9 (ZS (z9 (m:=firstArgMember _ _) (wpAny_of_eq (a:=Value.none) (by first|rfl|(simp only[firstArgMember];rfl)) (ZS ?_ Ø))) Ø));simp only[raiseNew];refine z9 (wpAny_handled ?_);rw[show A.in1.handled=none from hh];refine z9 (Zb (wpAny_throw ?_));refine z9 (wpAny_isInstance (T:="StopIteration") (b:=true) #[_,Zm _ rfl,rfl] isSubtype_stop ?_);exact Zb (hQ _ (((Z1 ..).extBut.push _).push _))
theorem E5{Q:Pd}(hv:s.heap.IsItemsView v d)(hm:Í)(hQ:Q à { s with heap:=s.heap.push { cls:=.type "dict_itemiterator",data:=.fields (List.toArray [.none,.bool false,.ref d,.int 0 0,.int Ä 0,.int ep 0,.none,.none]) } }):wpAny Ê A (pyIter (.ref v)) Q E s:=by
 exists[ov,hov,hcv,hdv],id hv;exists[o,ho,hc,hdat],id hm;have own:Builtin.Dict_items.ownsTuple "dict_itemiterator" = true:=⋯
 refine wpAny_pyIter_slot ß PySem.F.slot_dict_items_iter (ZZ PySem.F.slot_dict_items_iter ß PySem.F.entry_dict_items_iter ?_ (PySem.F.args_dict_items_iter_1 _));unfold Builtin.«dict_items.__iter__»;refine z9 Û;unfold Builtin.Dict_items.dictOf;refine z9 (ZY hov hdv (x:=.ref d) rfl Û);unfold Builtin.Dict_items.newIterator;refine z9 (Yk ho hdat (z9 (Yx ho hdat ?_)));simp only[own,if_true];refine ZS (Zb #[_,rfl,"dict_itemiterator",_,#[_,Zm _ rfl,rfl],Yh.lookup,?_]) (by simp only[sizeOk,Builtin.Dict_items.ownedTupleFields,Zl,Zh,Zk,Z8,sizeLine_eq];omega);simpa[rawInt,Builtin.Dict_items.ownedTupleFields]using hQ
#check 0
def ItP(o:Obj)(a:Pg):It where
 go:=λi H=>∃kvs,H a=some È/\i<Â
 yld:=λi H x H'=>∃kvs p b T,H a=some È/\kvs[i]?=some p/\H b=some Ë/\H T=none/\x=.ref T/\H'=upd H T Ó
 stop:=λi H=>∃kvs,H a=some È/\Â<=i
theorem Ig(r:KT H kvs xs):∀{i:Nat} {x:List Key×Pg×Pi},xs[i]?=some x->∃p,kvs[i]?=some p/\H x.2.1=some Ë/\RelV p.2 x.2.2:=by
 induction r with
 |nil=>intro i x h;simp at h
 |@cons p q _ _ h _ ih =>
  intro i x e;cases i with
  |zero=>cases e;exact#[p,rfl,h.2.1,h.2.2]
  |succ i=>exact ih e
theorem Gi{K:Qa}{kt:Nat}(o:Obj)(a it:Pg):Turn P w K Ô á [it] it (λi h=>∃es ep k0 v0,o.data=.dict es ep/\i<=Ä/\IsItemIter h it a i Ä ep k0 v0) where
 mem:=by simp
 obj:=λi h st b hb=>by
  have e:b=it:=by simpa using hb
  subst e;exists[es,ep,k0,v0,_,_,e],st;exact#[_,e,λv z=>nomatch z]
 keep:=λi h h' st k=>by exists[es,ep,k0,v0,h1,h2,h3],st;exact#[es,ep,k0,v0,h1,h2,k it Å _ h3]
 item:=by
  intro X hP hw hK hc i Pr s Z H E I hf st hg;subst hP hw hK;exists[kvs,hq,hx],hg;exists[es,ep,k0,v0,sd,sl,st],st;exists[lo,xs,es',ep',r,ho,hx2,hd,h4,hl],rL I.hok hq;rw[sd]at hd;cases hd;have hi:i<Ä:=∅
  refine E6 st #[o,ho,hx2,sd] hi λh' st' tp' kp=>?_;have hxs:i<xs.length:=by rw[<-size_of_entries h4];exact hi
  have e2:es[i]=entryOfKey (tupleKind (bu X.prog X.w)) xs[i]:=by have e1:=entry_at h4 (j:=i);rw[Zf hxs,y8 hi]at e1;exact Zo e1
  have hk:es[i].key=Value.ref xs[i].2.1:=by rw[e2];rfl
  have hv:es[i].val=xs[i].2.2:=by rw[e2];rfl
  rw[hk,hv]at st' tp';exists[p,hp,hb,rv],Ig r (Zf hxs);refine#[_,rfl,wpAny_letOwnedTupleGo_items (s:={ s with heap:=h' }) st' λh2 st2 sb=>?_];have lti:it<À:=Zs st;have kp2:∀c ob,c∉[it]->s.heap.get? c=some ob->h2.get? c=some ob:=λc ob hc q=>by simp only[Zg,ZB,Z9]at hc;exact sb.extBut c ob hc (kp c ob hc q)
  have tT:IsTup h2 À [Value.ref xs[i].2.1,xs[i].2.2].toArray:=#[_,sb.extBut _ _ (Yb lti) tp',rfl,_,rfl]
  refine#[.ref À,upd H À (.tup [.ref xs[i].2.1,p.2]),I.turnT (t':=s.toks) hf kp2 tT (.cons rfl (.cons rv .nil)) (sz rfl),rfl,#[kvs,p,xs[i].2.1,_,hq,hp,hb,I.hok.fresh Ù,rfl,rfl],#[es,ep,_,_,sd,∅,st2],λc hc=>?_];have hc':c=it:=by simpa using hc
  subst hc';rw[af (Zy lti)];exact(hf c hc).1
 done:=by
  intro X hP hw hK hc i Pr s Z H E I hf st hg;subst hP hw hK;exists[kvs,hq,hx],hg;exists[es,ep,k0,v0,sd,sl,st],st;exists[lo,xs,es',ep',r,ho,hx2,hd,h4,hl],rL I.hok hq;rw[sd]at hd;cases hd;exists[f0,f1,f2,f3,f4,f5],hf it Å;obtain rfl:i=Ä:=∅
  exact HZ (I.ok.hd hc) st #[o,ho,hx2,sd] λh' eb=>#[rfl,I.turned (t':=s.toks) (λb o hb e=>eb b o hb e) f0 f1 f3 f4 f5]
 self:=λA i s Q E st h=>by exists[es,ep,k0,v0,h1,h2,h3],st;exact kcp_self h3 h
section
variable{apos cpos:Pos}{kt:Nat}
def Kg(tl:TE):TI:=λZ H R=>tl Z H λx H1=>∃a kvs,x=.ref a/\H1 a=some â/\∀ob,R (ItP ob a) (upd H1 a (.frz ob â))
theorem HV(ho:QE X o td)(hbase:attributeBase o "items" X.env (eval o X.env)=eval o X.env:=by rfl)(hline:(apos.endLine==cpos.line)=true:=by rfl):QI X Ô (.Call (.Attribute o "items" apos) [] [] cpos) (Kg td):=by
 refine#[?_];intro Pr s Z H R I h;refine wpAny_Call_method0_late hbase hline (thn (ho.h Pr s Z H _ I h) λv s1 hz9=>?_);exists[x,H1,I1,r1,a,kvs,e,hq,q],hz9;subst e;cases r1;exists[t1,t2,_],Kk I1 (.inr #[kvs,.inl hq]);exists[z,ns,xs,rel,ob,es,ep,g1,g2,g3,g4,_],(show ObjOk X.prog X.w H1 s1.heap a (.dT kvs)from I1.hok a _ hq)
 refine#["dict","dict.items",PySem.F.plainAttrs_dict,PySem.F.slot_dict_items,PySem.F.type_dict_items,t1,t2,YZ rfl (PySem.evalArgs_none ?_)];refine ZZ PySem.F.slot_dict_items t1 PySem.F.entry_dict_items ?_ (PySem.F.args_dict_items_1 _);refine z9 ?_;unfold Builtin.Dict.noArgs;refine z9 (wpAny_notOrdered_dict t1 ?_);show wpAny _ _ (pure a) _ _ s1;refine Zb ?_;show wpAny _ _ (Builtin.Dict.showsAll a >>= _) _ _ s1;unfold Builtin.Dict.showsAll;rw[Pa (by rw[ns];exact Zt)];refine z9 (Zb (z9 (ZS (Zb #[_,rfl,?_]))));have I2:=(I1.freeze hq g1).kept (t':=s1.toks) (h':=Ú { cls:=.type "dict_items",data:=.fields Ò }) λb o e=>Za _ e;refine E5 (es:=es) (ep:=ep) #[_,Zm _ rfl,rfl,rfl] #[ob,Za _ g1,g2,g3] ?_;refine#[_,[_],_,_,_,rfl,I2.kept (t':=s1.toks) λb o e=>Za _ e,Gi ob a _,#[es,ep,.none,.none,g3,ZH _,Zm _ rfl],λb hb=>?_,q ob];have e:b=(Ú { cls:=.type "dict_items",data:=.fields Ò }).objs.size:=by simpa using hb
 subst e;exact I2.fpOk Ù (I2.hok.fresh Ù)
#check 0
theorem EI{kvs:List (List Key×V)}{n:Nat}{g:TG}{tc:TT}{te:TE}{Q:VK}(Pv:Nat->List V->Hp->Prop)(hz:Â<=1000)(hn:∀i ys H,Pv i ys H->ys.length<=i)(h0:Pv 0 [] H0)(hl:∀i ys H,Pv i ys H->H a=some È)(ht:∀i ys H p b T,kvs[i]?=some p->H b=some Ë->H T=none->Pv i ys H->∀Y:List V->Hp->Prop,(∀zs H4,Pv Î zs H4->Y zs H4)->g (.ref T) (de n cap Z) (upd H T Ó) λσ2 H2=>tc σ2 H2 λb H3=>if b=true then te σ2 H3 λy H4=>Y (ys++[y]) H4 else Y ys H3)(hq:∀ys p H,Pv Â ys H->H p=none->Q (.ref p) (upd H p (.lst ys))):gQ n cap g tc te Z á H0 Q:=by
 refine#[λi m ys H=>m=Â-i/\i<=Â/\Pv i ys H,#[Â,by simp,ZH _,h0],?_];rintro i m ys H ⟨rfl,hi,pv⟩;have q:=hl i ys H pv;by_cases hlt:i<Â
 .refine .inr #[#[kvs,q,hlt],?_,λx H' y=>?_]
  .have:=hn i ys H pv;exact Nat.lt_of_le_of_lt (Zr this ∅) (show 1000<sizeLine by decide)
  .exists[kvs',pr,b,T,e0,e1,e2,e3,rfl,rfl],y;rw[q]at e0;cases e0;exact ht i ys _ pr b T e1 e2 e3 pv (λys H4=>∃m',m'<Â-i/\m'=Â-Î/\i+1<=Â/\Pv Î ys H4) λzs H4 z=>#[Â-Î,∅,rfl,hlt,z]
 .have e:i=Â:=∅
  subst e;exact .inl #[#[kvs,q,Ze _],λp hp=>hq ys p H pv hp]
inductive rSl3(K:Qa)(x l u z:V)(H:Hp)(Q:VK):Prop
 |mk (a b c:Int) (p:Pg) (ns:Pn) (h0:l=.int a) (h1:u=.int b) (h2:z=.int c) (h3:0<=a) (h4:a<=b) (h5:0<c) (h6:x=.ref p) (h7:SqL K H p (ns.map V.int)) (q:∀(p':Pg) (ms:Pn),ms.length<=((b-a+c-1) / c).toNat->H p'=none->Q (.ref p') (upd H p' (.lst (ms.map V.int)))):rSl3 K x l u z H Q
end
namespace ST
open SetTable
end ST
open PySem PySem.Spec PyProof.Rows
namespace ST
open SetTable
end ST
open PySem PySem.Spec PyProof.Rows
namespace ST
open SetTable
section
def MsF(mask n:Nat):Prop:=(mask=7/\n<=4)\/(mask=31/\n<=18)\/(mask=127/\n<=70)
structure TbOk(t:SetTable)(n:Nat):Prop where
 du:t.dummies=#[]
 pl:t.place.size=n
 ms:MsF t.mask n
end
end ST
open PySem PySem.Spec PyProof.Rows
namespace ST
open SetTable
end ST
open PySem PySem.Spec PyProof.Rows
namespace ST
open SetTable
end ST
open PySem PySem.Spec PyProof.Rows
namespace ST
open SetTable
end ST
open PySem PySem.Spec PyProof.Rows
def Na(o:Obj)(n:Nat):Prop:=o.ExactSet/\∃es ep t,o.data=.set es ep t/\t.fits es.size=true/\es.size=n
inductive rSetT(xs:List V)(H:Hp)(Q:VK):Prop
 |mk (l:Pg) (ys:List V) (kss:List Pn) (h0:xs=[.ref l]) (h1:H l=some (.lst ys)) (h2:Paired (λv ks=>∃b,v=V.ref b/\H b=some (.tup (ks.map V.int))) ys kss) (h3:kss.Nodup) (h4:ys.length<=69) (q:∀a o,H a=none->Na o ys.length->Q (.ref a) (upd H a (oF a o))):rSetT xs H Q
open PySem PySem.Spec PyProof.Rows PySem.W
mutual
#check#[s1.heap.objs.size,(List.toArray [.ref l1,.int 0 0]),s.heap.objs.size,(List.toArray [.ref l2,.int 0 0]),as.length,(.Call (.Name "zip" p) [e1,e2] [] pos),(.Tuple elts kt tp),(by simp),s.heap.push,(List.toArray [.none,.none]),(pm.toList.map λi=>(as.map V.ref).getD i .non),(D,seqObj "list" #[] e1),(Qa->Hp->Pg->List V->Prop),xs.length,X.env.locals,(by rw[Zd];omega),(X.mg "zip" = none),((ks.map ZKey.nums).getD i []),((ks.map ZKey.nums).getD j []),its.toArray,(Shared.heap #[hp,g,d,tk,os]),(base c hc),(as.map V.ref),0,(Heap->Pg->Array Pi->Prop),(F.args_zip_next_1 _),jts.toArray,(JN SQ K a b xs ys),s.heap,(as.map Value.ref),X.A.in1,X.A.in1.in1.units,(List V),its.toArray.size,sb.extBut,(.head _),X.K,(QA X [e1,e2] ta),(String),zu.symm,(Nat),(ZKd c isS SQ),X.base,s.toks,ys.length,rx.length,ks.length,(À+1),(À+2),(À+3),(À+4),p.isList]
def Jx(sp:Sp)(ta:TA):TE:=λZ H0 Q=>ta Z H0 λvs H=>∃(l:Pg) (xs:à) (ks:List ZKey),vs=[.ref l]/\JT H l xs/\LQ (λ_ vs H Q=>sp vs H Q E0) Same (λ_=>True) H xs ks Q
section
variable{X:Cx}
theorem FQ{k:è}(hc:X.calm=true)(hm:X.mg "sorted" = none)(F:Fn X.prog X.w ä X.mg ê k fx [x] sp)(hr:Room (k+2) X.A)(ha:QA X [e] ta)(hg:Gl X "sorted":=by rfl)(hgf:Gl X fx:=by rfl)(hn:aX e=true:=by rfl)(hdb:(fx==("__debug__":Str))=false:=by decide):QE X (.Call (.Name "sorted" p) [e] [#[some "key",.Name fx fp,kpos]] pos) (Jx sp ta):=by
 refine#[?_];intro Pr s Z H0 Q I h;exists[f,fd,F1,m1,kp,bn],F.ex;refine Y0 (iC I hg hm PyProof.Rows.boot_sorted ?_);have h1:=bf (es:=[]) (env:=X.env) hn;refine PyProof.Rows.callWith_kw (thn (ha.h pos Pr s Z H0 _ I h) λus s1 hz9=>?_) (he:=by rw[h1];rfl) (hplain:=by rw[h1];rfl) (hall:=rfl) (hkw:=rfl);exists[vs,H1,I1,r1,q1],hz9;exists[l,xs,ks,rfl,hH,h64,hl,hne,spec,q],q1;have hz:Í<=4096:=∅
 exists[u,rfl,ru],eU r1;cases ru;have hk:PK X [#[some "key",.Name fx fp,kpos]] (jK (tC (.ref f)) jE):=Ag (ug hgf m1 rfl hdb) DD;refine thn (hk pos Pr s1 Z H1 (λzs H2=>zs=[.ref f]/\H2=H1) I1 #[rfl,rfl]) λws s2 hz9=>?_;exists[zs,H2,I2,rz,e1,h2e],hz9;subst e1 h2e;exists[u,rfl,ru],eU rz;cases ru;exact qK (b:=false) I2 (Js hc I2 hH hz) h64 hl (.inl (hne.elim False.elim id)) (ksk_s1 _ _) (λx=>ksk_l1 _ _) (λx=>ksk_t1 f x) (Jl F1 (λs u kin=>bn s [u] kin rfl) (hr.mono ∅ |>.in1 |>.in1)) spec λp H3 D a1 a2 a3 a4=>q p H3 D a1 a2 a3 trivial a4
#check 0
abbrev wK(c:æ)(h:Heap)(it t:Pg)(i:è):Prop:=∃o,h.get? it=some o/\o.cls=.type c/\o.data=.fields (List.toArray [.ref t,.int i 0])
theorem CP{it t d:Pg}{i:è}(x:wK c h it t i)(e:h.ExtBut d h')(n:it≠d):wK c h' it t i:=let⟨o,eo,r⟩:=x;#[o,e _ _ n eo,r]
def AO(c:æ)(isS:Ø):Prop:=∀ (l1 l2:Pg) (xs ys:Array Pi),Meets (Builtin.«zip.__new__» #[[.type "zip",.ref l1,.ref l2],[]]) (λ_ R s=>isS Ü l1 xs/\isS Ü l2 ys /\
   R (.ok (.ret (.ref ((((È { cls:=.type c,data:=.fields Á }).push { cls:=.type c,data:=.fields Ã }).push { cls:=.type "tuple",data:=.seq (List.toArray [.ref Â,.ref (È { cls:=.type c,data:=.fields Á }).objs.size]) }).push { cls:=.type "tuple",data:=.seq É }).objs.size)))
    { s with heap:=((((È { cls:=.type c,data:=.fields Á }).push { cls:=.type c,data:=.fields Ã }).push { cls:=.type "tuple",data:=.seq (List.toArray [.ref Â,.ref (È { cls:=.type c,data:=.fields Á }).objs.size]) }).push { cls:=.type "tuple",data:=.seq É }).push { cls:=.type "zip",data:=.fields (List.toArray [.none,.bool false,.bool false,.ref ((È { cls:=.type c,data:=.fields Á }).push { cls:=.type c,data:=.fields Ã }).objs.size,.ref (((È { cls:=.type c,data:=.fields Á }).push { cls:=.type c,data:=.fields Ã }).push { cls:=.type "tuple",data:=.seq (List.toArray [.ref Â,.ref (È { cls:=.type c,data:=.fields Á }).objs.size]) }).objs.size]) } })
structure ZKd(c:æ)(isS:Ø)(SQ:Ì):Prop where
 inv:∀{X:Cx} {Pr:Pc} {Z:St} {H:Hp} {s:Ph} {a:Pg} {xs:à},Inv X Pr Z H s->SQ ä H a xs->∃its:Pf,Vals xs its/\isS Ü a Ó/\a<Â
 dr:∀{prog:Pj} {w:Pk} {A:Pl},A.handled=none->∀(it t:Pg),t≠it->∀xs:Array Pi,Draws prog w A it [it,t] xs.size (λi v=>xs[i]?=some v) (λi h=>wK c h it t i/\isS h t xs)
 mt:AO c isS
abbrev JN(SQ:Ì)(K:Qa)(a b:Pg)(xs ys:à):It :=
 #[λi H=>i<Í/\SQ K H a xs/\SQ K H b ys,λi H x H'=>∃T p q,H T=none/\xs[i]?=some p/\ys[i]?=some q/\x=.ref T/\H'=upd H T (.tup [p,q]),λi H=>i=Í/\SQ K H a xs/\SQ K H b ys]
abbrev LX(c:æ)(z u v i1 i2 a b:Pg):Nat->Heap->Prop:=λi h=>IsZip h z u v .none/\IsPair h u (.ref i1) (.ref i2)/\(∃p q,IsPair h v p q)/\wK c h i1 a i/\wK c h i2 b i
theorem Ek(Zq0:é){K:Qa}{kt:è}{xs ys:à}(hl:Í=ì)(D:[z,u,v,i1,i2].Nodup)(ha:∀c∈[z,u,v,i1,i2],c≠a/\c≠b):
  Turn P w K Æ Û [z,u,v,i1,i2] z (LX c z u v i1 i2 a b):=by
 have nd:(z≠u/\z≠v/\z≠i1/\z≠i2)/\(u≠v/\u≠i1/\u≠i2)/\(v≠i1/\v≠i2)/\i1≠i2:=by simpa using D
 obtain⟨⟨zu,zv,z1,z2⟩,⟨uv,u1,u2⟩,⟨v1,v2⟩,i12⟩:=nd;have az:=ha z Ç;have av:=ha v Ç;have a1:=ha i1 Ç;have a2:=ha i2 Ç;have ap:ZAp z u v i1 i2 [i1,a] [i2,b]:=#[ç,zv.symm,uv,u1,u2,v1,v2,z1.symm,z2.symm,i12,by simp[z1,az.1],by simp[z2,az.2],by simp[v1,av.1],by simp[v2,av.2],by simp[i12.symm,a2.1],by simp[i12,a1.2]]
 refine#[by simp,λi h st c hc=>?_,λi h h' st k=>?_,?_,?_,λA i s Q E st h=>wpAny_pyIter_zip st.1 h]
 .obtain⟨e1,e2,⟨p,q,e3⟩,⟨o4,e4,_,d4⟩,⟨o5,e5,_,d5⟩⟩:=st;simp only[Zg,ZB,Z9]at hc;rcases hc with rfl|rfl|rfl|rfl|rfl
  .exact#[_,e1,λv z=>nomatch z]
  .exact#[_,e2,λv z=>nomatch z]
  .exact#[_,e3,λv z=>nomatch z]
  .exact#[_,e4,λv z=>by rw[d4]at z;cases z]
  .exact#[_,e5,λv z=>by rw[d5]at z;cases z]
 .obtain⟨e1,e2,⟨p,q,e3⟩,⟨o4,e4,r4⟩,⟨o5,e5,r5⟩⟩:=st;exact#[k z Ç _ e1,k u Ç _ e2,#[p,q,k v Ç _ e3],#[o4,k i1 Ç _ e4,r4],#[o5,k i2 Ç _ e5,r5]]
 .intro X hP hw hK hc i Pr s Z H E I hf st hg;subst hP hw hK;obtain⟨e1,e2,⟨p,q,e3⟩,e4,e5⟩:=st;exists[hi,hx,hy],hg;exists[its,rx,px,_],Zq0.inv I hx;exists[jts,ry,py,_],Zq0.inv I hy;have lx:i<á:=by rw[Zl,<-í];exact hi
  have ly:i<jts.toArray.size:=by rw[Zl,<-ry.length,<-hl];exact hi
  have hh:=I.ok.hd hc;have hT:s.TypeIs (.ref z) "zip":=#[_,e1,rfl]
  unfold pyNext;refine z9 (YV (Z4 (name:=Str.ofString "__next__") hT F.slot_zip_next (ZZ F.slot_zip_next hT F.entry_zip_next
   (Gu (Zq0.dr (A:=Þ) hh i1 a a1.1.symm Ó) (Zq0.dr (A:=Þ) hh i2 b a2.2.symm Ú) ap e1 e2 e3 #[e4,px] #[e5,py] lx ly λh' tk x y qx qy zz vv s1 s2 pp kp=>Zb ?_) Ù)))
  refine#[_,rfl,wpAny_letOwnedTupleGo_zip (s:={ s with heap:=h',toks:=tk }) zz λh2 z2' sb=>?_];obtain⟨xv,ex⟩:∃xv,xs[i]?=some xv:=#[xs[i],by simp[hi]]
  obtain⟨yv,ey⟩:∃yv,ys[i]?=some yv:=#[ys[i]'∅,by simp[show i<ys.length by omega]]
  exists[x',gx,rxv],rx.get ex;exists[y',gy,ryv],ry.get ey;have qx':its[i]?=some x:=by simpa using qx
  have qy':jts[i]?=some y:=by simpa using qy
  rw[gx]at qx';rw[gy]at qy';cases qx';cases qy';have ltz:z<Â:=Zs e1;have kp2:∀c o,c∉[z,u,v,i1,i2]->s.heap.get? c=some o->h2.get? c=some o:=λc o hc e=>by simp only[Zg,ZB,Z9,not_or]at hc;exact â c o hc.1 (kp c o hc.1 hc.2.2.1 hc.2.2.2.1 hc.2.2.2.2 e)
  have tT:IsTup h2 Â [x,y].toArray:=#[_,sb.extBut _ _ (Yb ltz) pp,rfl,_,rfl]
  refine#[.ref Â,upd H Â (.tup [xv,yv]),I.turnT (t':=tk) hf kp2 tT (.cons rxv (.cons ryv .nil)) (sz rfl),rfl,#[_,xv,yv,I.hok.fresh (Ze _),ex,ey,rfl,rfl],?_,λc hc=>?_]
  .exact#[z2',sb.extBut _ _ ç (kp _ _ ç uv u1 u2 e2),#[_,_,sb.extBut _ _ zv.symm vv],CP s1.1 â z1.symm,CP s2.1 â z2.symm]
  .rw[af]
   .exact(hf c hc).1
   .obtain⟨o,eo,_⟩:∃o,s.heap.get? c=some o/\True:=by
     simp only[Zg,ZB,Z9]at hc;rcases hc with rfl|rfl|rfl|rfl|rfl
     .exact#[_,e1,trivial]
     .exact#[_,e2,trivial]
     .exact#[_,e3,trivial]
     .exists[o,eo,_],e4;exact#[o,eo,trivial]
     .exists[o,eo,_],e5;exact#[o,eo,trivial]
    exact Zy (Zs eo)
 .intro X hP hw hK hc i Pr s Z H E I hf st hg;subst hP hw hK;obtain⟨e1,e2,⟨p,q,e3⟩,e4,e5⟩:=st;exists[rfl,hx,hy],hg;exists[its,rx,px,_],Zq0.inv I hx;exists[jts,ry,py,_],Zq0.inv I hy;have lx:á=Í:=by rw[Zl,<-í]
  have hh:=I.ok.hd hc;have hT:s.TypeIs (.ref z) "zip":=#[_,e1,rfl]
  unfold pyNext;refine z9 (YV (Z4 (name:=Str.ofString "__next__") hT F.slot_zip_next (ZZ F.slot_zip_next hT F.entry_zip_next
   (JG (Zq0.dr (A:=Þ) hh i1 a a1.1.symm Ó) (Zq0.dr (A:=Þ) hh i2 b a2.2.symm Ú) ap e1 e2 e3 #[by rw[lx];exact e4,px] λh' e kp he=>?_) Ù)))
  exists[o,ho,hco],he;refine z9 (wpAny_isInstance (T:="StopIteration") (b:=true) #[o,ho,hco] isSubtype_stop (Zb #[rfl,?_]));exact I.turnM (t':=ë) hf λc ob hc e=>by simp only[Zg,ZB,Z9,not_or]at hc;exact kp c ob hc.1 hc.2.2.1 hc.2.2.2.1 hc.2.2.2.2 e
theorem Il:AO "tuple_iterator" Heap.IsTuple:=λl1 l2 xs ys =>
 .of_wp λprog w A R s h=>by
  exists[hp,g,d,tk,os],s;exists[t1,t2,h],h;have hsub:=sub_zip;have T1:Heap.IsTuple Ô l1 xs:=t1;have T2:Heap.IsTuple (Shared.heap #[hp.push { cls:=.type "tuple_iterator",data:=.fields Á },g,d,tk,os]) l2 ys:=Heap.IsTuple.push t2 _
  wp_walk using wpAny_pyIter_tuple T1,wpAny_pyIter_tuple T2
  exact#[_,rfl,h]
theorem Ik:AO "list_iterator" Heap.IsList:=λl1 l2 xs ys =>
 .of_wp λprog w A R s h=>by
  exists[hp,g,d,tk,os],s;exists[t1,t2,h],h;have hsub:=sub_zip;have T1:Heap.IsList Ô l1 xs:=t1;have T2:Heap.IsList (Shared.heap #[hp.push { cls:=.type "list_iterator",data:=.fields Á },g,d,tk,os]) l2 ys:=Heap.IsList.push t2 _
  wp_walk using wpAny_pyIter_list T1,wpAny_pyIter_list T2
  exact#[_,rfl,h]
theorem No:ZKd "tuple_iterator" Heap.IsTuple SqT:=#[λI h=>let⟨its,r,p,_⟩:=I.tuple h;#[its,r,p,p.lt],λhh it t n xs=>yT hh it t n xs,Il]
theorem Nn:ZKd "list_iterator" Heap.IsList SqL:=#[λI h=>let⟨its,r,p,_⟩:=I.list h;#[its,r,ó,let⟨_,e,_⟩:=ó;Zs e],λhh it t n xs=>Draws.list hh it t n xs,Ik]
abbrev Md(SQ:Ì)(K:Qa)(ta:TA):TI:=λZ H R=>ta Z H λvs H1=>∃a b xs ys,vs=[.ref a,.ref b]/\SQ K H1 a xs/\SQ K H1 b ys/\Í=ì/\R Û H1
section
variable{X:Cx}
theorem Af(Zq0:é){kt:è}(hg:Gl X "zip")(hm:Ð)(ha:PA X [e1,e2] ta)(n1:aX e1=true)(n2:aX e2=true):PI X Æ Å (Md SQ ä ta):=by
 intro Pr s Z H R I h;refine Call_ (iC I hg hm boot_zip (YH (thn (ha pos Pr s Z H _ I h) λus s1 hz9=>?_) (bf n1) (cj (by simp[n2]))));exists[vs,H1,I1,r1,q1],hz9;exists[a,b,xs,ys,e,hx,hy,hl,q],q1;subst e;exists[ua,ub,rfl,ra,rb],jM r1;cases ra;cases rb;exists[its,rx,px,zx],Zq0.inv I1 hx;exists[jts,ry,py,zy],Zq0.inv I1 hy;refine callType_new F.called_zip ⋯ (F.typeCall_zip_2 _ _) (F.newCall_zip_2 _ _) (λobj=>F.args_object_init_3 obj _ _) F.entry_zip_new (Zq0.mt a b Ó Ú) #[px,py,?_];generalize ea:({ cls:=.type c,data:=.fields (List.toArray [.ref a,.int 0 0]) }:Obj)=oa;generalize eb:({ cls:=.type c,data:=.fields (List.toArray [.ref b,.int 0 0]) }:Obj)=ob;have z1:(s1.heap.push oa).objs.size=À+1:=Heap.size_push ..;have z2:((s1.heap.push oa).push ob).objs.size=À+2:=by rw[Heap.size_push,z1]
 rw[z2,z1];generalize eu:({ cls:=.type "tuple",data:=.seq (List.toArray [.ref À,.ref ï]) }:Obj)=ou;have z3:(((s1.heap.push oa).push ob).push ou).objs.size=À+3:=by rw[Heap.size_push,z2]
 generalize ev:({ cls:=.type "tuple",data:=.seq É }:Obj)=ov;have z4:((((s1.heap.push oa).push ob).push ou).push ov).objs.size=À+4:=by rw[Heap.size_push,z3]
 rw[z4,z3];generalize ez:({ cls:=.type "zip",data:=.fields (List.toArray [.none,.bool false,.bool false,.ref ð,.ref ñ]) }:Obj)=oz;have g5:(((((s1.heap.push oa).push ob).push ou).push ov).push oz).get? ò=some oz:=by rw[<-z4];exact Zm _ (by rw[<-ez];rfl)
 have g4:(((((s1.heap.push oa).push ob).push ou).push ov).push oz).get? ñ=some ov:=by rw[<-z3];exact Za _ (Zm _ (by rw[<-ev];rfl))
 have g3:(((((s1.heap.push oa).push ob).push ou).push ov).push oz).get? ð=some ou:=by rw[<-z2];exact Za _ (Za _ (Zm _ (by rw[<-eu];rfl)))
 have g2:(((((s1.heap.push oa).push ob).push ou).push ov).push oz).get? ï=some ob:=by rw[<-z1];exact Za _ (Za _ (Za _ (Zm _ (by rw[<-eb];rfl))))
 have g1:(((((s1.heap.push oa).push ob).push ou).push ov).push oz).get? À=some oa:=Za _ (Za _ (Za _ (Za _ (Zm _ (by rw[<-ea];rfl)))));have kp:∀c o,s1.heap.get? c=some o->(((((s1.heap.push oa).push ob).push ou).push ov).push oz).get? c=some o:=λc o e=>Za _ (Za _ (Za _ (Za _ (Za _ e))));generalize((((s1.heap.push oa).push ob).push ou).push ov).push oz=hN at g1 g2 g3 g4 g5 kp ⊢;have I2:Inv X Pr Z H1 { s1 with heap:=hN }:=I1.kept (t':=s1.toks) kp;have la:a<À:=zx;have lb:b<À:=zy;subst ea eb eu ev ez;have base:∀c∈[À+4,À+2,À+3,À,À+1],À<=c:=λc hc=>by simp only[Zg,ZB,Z9]at hc;omega
 refine#[#[_,g5,rfl],?_];show wpAny (model X.prog X.w) X.A (pyIter (.ref ò)) (PIE X Pr Z Æ R) X.xe { s1 with heap:=hN };refine wpAny_pyIter_zip g5 ?_;refine#[À+4,[À+4,À+2,À+3,À,À+1],LX c ò ð ñ À ï a b,_,H1,rfl,I2,
  Ek Zq0 hl ?_ (λc hc=>#[Yb (ZE la Õ),Yb (ZE lb Õ)]),#[g5,g3,#[_,_,g4],#[_,g1,rfl,rfl],#[_,g2,rfl,rfl]],λc hc=>?_,q]
 .exact Kz À
 .exact I1.fpOk Õ (I1.hok.fresh Õ)
theorem zR{kt:è}(hm:Ð)(ha:å)(hg:Gl X "zip":=by rfl)(n1:aX e1=true:=by rfl)(n2:aX e2=true:=by rfl):QI X Æ Å (Ni ä ta):=#[Af No hg hm ha.h n1 n2]
theorem zQ{kt:è}(hm:Ð)(ha:å)(hg:Gl X "zip":=by rfl)(n1:aX e1=true:=by rfl)(n2:aX e2=true:=by rfl):QI X Æ Å (Me ä ta):=#[Af Nn hg hm ha.h n1 n2]
#check 0
section
variable{X:Cx}
theorem EB{k:è}(hr:Room k X.A):QCall X (.builtin "sorted") (λxs H Q=>∃ (p:Pg) (as:List Pg) (ks:List ZKey),xs=[.ref p]/\H p=some (.lst Ö)/\Ä<64/\î=Ä/\wJ ks/\(∀ (i:è) (a:Pg) (k:ZKey),as[i]? = some a->ks[i]? = some k->k.at H (.ref a)) /\
  ∀ (pm:Po) (D:Pg),POk Ä pm->LS (λi j=>HT.lexLt Ñ Ò) pm Ä->H D=none->Q (.ref D) (upd H D (.lst Ê))):=by
 refine#[?_];have hun:ß+64<cLine:=by have:=hr.un;show X.A.units+_+_+64<_;omega
 intro Pr s Z H xs us Q I r h;exists[p,as,ks,rfl,hp,h64,hl,hne,hk,q],h;exists[u,rfl,ru],eU r;cases ru;by_cases h2:Ä<2
 .refine yF I hp (by rw[Zd];exact h2) λD hD=>?_;have e:((List.range Ä).toArray.toList.map λi=>(as.map V.ref).getD i V.non)=as.map V.ref:=by refine List.ext_getElem Ç λi h1 h2=>?_;rw[Zd]at h2;simp[h2]
  have:=q (List.range Ä).toArray D (Array.Perm.refl _) (λi j hij hj=>∅) hD;rw[e]at this;exact this
 exists[z,its,n,rv,hlen,e],I.lstM hp;rw[Zd]at hlen;have eits:its=as.map Value.ref:=by
  clear e z hlen hp hk q hl h2 h64;induction as generalizing its with
  |nil=>cases rv;rfl
  |cons a as ih =>
   cases rv with
   |cons r1 r2 =>cases r1;rw[ih _ r2];rfl
 subst eits;exists[m,F0],I.fr;refine kat_sorted (vs:=as.map Value.ref) F0 (lV ê Ü Î) #[_,e,rfl,n,rfl] Ï Ï λD e1 h1 F1 N1 hD=>?_;have mv0:∀b u,b≠Î->b∉([]:List Pg)->s.heap.get? b=some u->h1.get? b=some u:=λb u hL _ g=>by
  cases qb:X.base.get? b with
  |none=>exact(N1 (b,u) (.tail _ (fh g hL qb))).1
  |some o =>have e':=I.bk b o qb;rw[g]at e';cases e';exact F1.keep b u qb
 have I1:Inv X Pr Z H { s with heap:=h1 }:=Inv.movedF (ch:=[]) (t':=ë) I (λb hb=>absurd hb Ç) mv0 #[m,F0.ns,F1.ns];have tups:∀(vs:à) (ws:Pf) (n:è),Vals vs ws->n+vs.length=î->(∀(i:è) (v:V) (k:ZKey),vs[i]?=some v->ks[n+i]?=some k->k.at H v)->∃fs:Pf,KatTups h1 ws fs/\fs.length=ws.length/\∀v∈fs,∃(a:Pg) (o:Obj),v=.ref a/\h1.get? a=some o/\o.cls=.type "tuple":=λvs=>by
  induction vs with
  |nil =>intro ws n hv _ _;cases hv;exact#[[],KatTups.nil,rfl,λv h=>nomatch h]
  |cons v vs ih =>
   intro ws n hv hl' h;cases hv with
   |cons rv1 hv =>
    rw[Zk]at hl';have hkn:ks[n]?=some (ks[n]'∅):=Zf ∅;exists[ps,ns,en],hne _ (ZL (show n<ks.length by omega));rw[en]at hkn;exists[a,b,c,rfl,ea,eb,ec],h 0 v _ rfl (by rw[Nat.add_zero];exact hkn);cases rv1;exists[ia,ra,pa,za],I1.tuple (Pt (K:=ä) ea);exists[oa,eo,ca,n1,da],id pa;exists[ib,rb,pb,zb],I1.tuple (Pt (K:=ä) eb);exists[ob,eob,cb,n2,db],id pb;exists[u1,u2,rfl,r1,r2],jM ra;cases r1;exists[fs,f1,f2,f3],ih _ (n+1) hv ∅ (λi w k' h1 h2=>h (i+1) w k' h1 (by rw[show n+(i+1)=n+1+i by omega];exact h2));refine#[.ref b::fs,KatTups.cons eo ca da rfl f1,by rw[Zk,Zk,f2],λv hv=>?_];rcases Zg.mp hv with rfl|hv
    .exact#[b,ob,rfl,eob,cb]
    .exact f3 v hv
 have rvv:Vals Ö Ý:=rv;exists[fs,t1,t2,t3],tups Ö Ý 0 rvv Ï (λi v k h1 h2=>by
  rw[Zx]at h1;exists[x,hx,rfl],ZK.mp h1;exact hk i x k hx (by rw[Nat.zero_add]at h2;exact h2))
 refine kat_kind (T:=.type "tuple") t1 (by rw[t2,Zd];omega) (λv hv=>?_) rfl ?_
 .exists[x,o,rfl,ho,hc'],t3 v hv;rw[<-hc'];exact(Looks.ld ho).andThen .now
 rw[Zd];refine tR (n:=Ä) (lt:=λi j=>HT.lexLt Ñ Ò) (λi j C hi hj hC=>?_) (λpm hpm hs=>?_) (xM ∅) (zW (rX (ks.map ZKey.nums)) ∅)
 .have ga:∀i,i<Ä->∃(a:Pg) (k:ZKey),(as.map Value.ref).getD i Value.none=.ref a/\k∈ks/\(ks.map ZKey.nums).getD i []=k.nums/\k.at H (.ref a):=λi hi=>by
   have h1:as[i]?=some (as[i]'∅):=Zf ∅;have h2:ks[i]?=some (ks[i]'∅):=Zf ∅;refine#[as[i]'∅,ks[i]'∅,?_,ZL (show i<ks.length by omega),?_,hk i _ _ h1 h2]
   .rw[ZG,Zx,h1];rfl
   .rw[ZG,Zx,h2];rfl
  exists[a,k1,ea,m1,en,at1],ga i hi;exists[b,k2,eb,m2,en2,at2],ga j hj;exists[p1,n1,rfl],hne _ m1;exists[p2,n2,rfl],hne _ m2;exists[a1,b1,c1,ea1,ha1,hb1,hc1],at1;exists[a2,b2,c2,ea2,ha2,hb2,hc2],at2;cases ea1;cases ea2;exists[ia,ra,pa,za],I1.tuple (Pt (K:=ä) ha1);exists[ib,rb,pb,zb],I1.tuple (Pt (K:=ä) ha2);exists[oa,eoa,ca,q1,da],id pa;exists[ob,eob,cb,q2,db],id pb;exists[u1,u2,rfl,r1,r2],jM ra;cases r1;cases r2;exists[u1,u2,rfl,r1,r2],jM rb;cases r1;cases r2;exists[ix,rx,px,zx],I1.tuple (Pt (K:=ä) hb1);exists[iy,ry,py,zy],I1.tuple (Pt (K:=ä) hb2);exists[jx,sx,qx,yx],I1.tuple (Pt (K:=ä) hc1);exists[jy,sy,qy,yy],I1.tuple (Pt (K:=ä) hc2);unfold kas_ask;rw[ea,eb];rw[en,en2]at hC;have hu0:ß<cLine:=∅
  exact kat_lt eoa da eob db (qA (pU I1 hun hb1 hb2) (pU I1 hun hc1 hc2) (λR hR=>HT.lt_tupInts px py (bQ rx) (bQ ry) hu0 hR) (λR hR=>HT.lt_tupInts qx qy (bQ sx) (bQ sy) hu0 hR) rfl hC)
 .have hDL:D≠Î:=(N1 Ë ã).2.1;have hDs:s.heap.get? D=none:=by
   cases g:s.heap.get? D with
   |none=>rfl
   |some o=>exact absurd (hD (D,o) (fh g hDL (N1 Ë ã).2.2)) (YD _)
  have pl:∀i∈pm.toList,i<Ä:=λi hi=>by have:=(hpm.mem_iff).mp (Array.mem_toList_iff.mp hi);simpa using this
  have vals:∀(w:List Nat),(∀i∈w,i<Ä)->Vals (w.map λi=>(as.map V.ref).getD i .non) (w.map λi=>(as.map Value.ref).getD i Value.none):=λw=>by
   induction w with
   |nil=>intro _;exact .nil
   |cons i w ih =>intro hw;have hi:=hw i Zq;refine .cons ?_ (ih λj hj=>hw j (Zj _ hj));show RelV ((as.map V.ref).getD i V.non) ((as.map Value.ref).getD i Value.none);rw[ZG,ZG,Zx,Zx,Zf hi];rfl
  have lp:pm.toList.length=Ä:=by have:=hs.1;simpa using this
  refine KasFin.intro (news:=Ë::sL ê Ü Î) F1 N1 (.head λp hp=>Zy (hD p hp)) λh2 c F2 N2=>?_;refine#[.ref D,_,I.laidF (o:=.lst Ê) (t':=ë) (λb o hL g=>?_) #[m,F0.ns,F2.ns] hDs #[by rw[Zd,lp];exact dS ∅,_,c,vals _ pl,(N2 (D,_) ã).1],rfl,q pm D hpm hs.2 (none_of I hDs)];cases q:X.base.get? b with
  |none=>exact(N2 (b,o) (.tail _ (fh g hL q))).1
  |some o' =>have e':=I.bk b o' q;rw[g]at e';cases e';exact F2.keep b o q
#check 0
end
end Lake
set_option maxRecDepth 100000
set_option maxHeartbeats 4000000
namespace Lake.K40
open PySem Lake
open PyProof.Rows (envOfC)
open PySem.W (envX CodeHd)
mutual
#check#[(am ao ↑1 ah),(PlainAt C H p d g kvs gvs),(s2.trans s3),(some (if(0:Int)>a then 0 else a)),(vix rfl (Pt hst) at0 #[rfl,_,rfl,aL ⋯ (aI ?_)]),(.dT (aS kvs (nk n) (.ref t))),(i n (by simp[Sd.items])),(vix rfl e1 at0 ?_),(aZ (t_w (fm (aE bW À ar) (fz (hM (eC a9 ↑99 ↑0 (q_a À (q_a À ai))))))) (b_1 (ql (iF fg) rfl x_Beneath j6 (q_a ar ai))) b_0),(↑MFn 1 C "change" ["self","name","first","values"] (spChange C)),(Prt H ol ws ps bs is ns),(bo hr.units (cZ ↑0) ↑1),(nk n),(But.put (s1.trans Â) _),(upd (upd (upd H1 ea (exN ea cN t none)) d (.xd [("name",v)])) ea (exN ea cN t (some d))),(∀i Z H,i<=xs.length->Pv i Z H->SqL K H a xs),(Pt hst),(Rows H kvs ol),(OlAt C H p d g ol),(List Bool),(↑MFn 1 C "bring_in" ["self","name","up","place","text"] (spBring C)),(λcdv A outer s H vs Q E hr h=>?_),(vix rfl Ð at0 #[rfl,_,rfl,di ?_]),0,(∀(j:Nat) (w':Str),j<i->ws[j]?=some w'->isI w'->bs[j]?=some true),(∀Z H,Pv xs.length Z H->D.nx Z H),hr.units,(List Key),(cZ ↑0),(q_a (cG bK ↑1 (cg ah) cM) ai),(∀x,look ol'' x=if x=c then some (cP n m it)else look ol' x),(∀x,nk x∈ks.take i->look ol' x=(look ol4 x).map (cP n m)),(Same H H'),(upd H4 l (.lst ks)),(.tup [uv,pv,.str it.tx,.bl it.dn,whV it.wh,.bl it.fo]),(H st=some (.tup (.str w::ps))),(top 19),(mg "TEXT" = some (.int 2 tk)),(vs=[.ref p,.ref st]),ol.length,(∀σ' H',N σ' H'->∃m',m'<m/\W (i+1) m' σ' H'),(Rws R kvs ol),(vix rfl Ð at0 #[rfl,_,rfl,aL ⋯ (aI (q3 hr'))]),(.xd [("name",v)]),(∀n it,look ol n=some it->it.tx.length<=4000),(Txt K C),(∀x,¬nk x∈ks.take i->look ol' x=look ol4 x),(Ps Â),(.tup [up,pl,tx,.bl false,.non,.bl false]),(∀σ' H',Pv (i+1) σ' H'->D'.nx σ' H'),(PyProof.Rows.KTD.datumAt w ST=some (tw ws)),(aE bW ↑2 ar),(!(look ol n).isSome),(q_a À (q_a À (q_a À (q_a À ai)))),ps.length,0,ys.length,(StAt H st s),(upd H' d (.dT (aS kvs k (.ref t)))),(.tup [.str "part",nv,.int a,mv,pv]),(if b=true then some true else none),(λc=>?_),itn.tx,itm.tx,(ie c8),(NameIs H nm k),(NameIs H v Ì),(w="item"\/w="up"),(λvs H Q E h=>?_),(.dT (aS kvs2 (nk m) (.ref t'))),(.inr (.inl rfl)),(List Str),(Nat->St->Hp->Prop),(TS H H'),((Itl K a).stop i H/\D.nx Z H),it.tx,(∃m,W 0 m Z H),(.tup [.str "move",nv,uv,pv]),(.lst ks),(k∈l.map (·.1)),(i+1),(q_a ar ai),(As β),kvs.length,(.tup [.str "join",nv,mv]),(mg "UP" = some (.int 0 tk')),(ns.map V.int),(λi w e hw=>z Đ w e hw),(Z[i]?=some (some (.ref a))),(.ref p),(Type),(UpAt H v u),it.up,(q_a ↑1 ai),(λ_ _ _ _ v=>Pt v.2.1),(km (r.1.symm.trans z)),(GoneAt H g gs),it.tx.length,(St->Hp->Prop),(.ref cN),(λ_ n hn=>nomatch hn),((But.of s1).trans b2),(zR u4 (q_a ↑2 Ý)),(Nat),(List Nm),(v::ps),(upd H d (.dT kvs')),(.tup (.str wd::ps)),(Str),(wT _ _ ez),(.ref t),(cP n m),(Ps s01),(λ_ _ _ _ _=>ht _),(ns.map PyData.int),(spBoundsF C cB cF),(dO H kvs ks),(V->β->Prop),(spCheckX C cT cN),(H d=some (.dT kvs)),(But d H H'),(nk m),(look ol' c=some it),ws.length,bs.length,(ie pi),(.part n a m pl),(Pt (t2 _ _ e2)),(Lake.TS),(PartB H kvs w v b),(look ol n=some it),(.ref cT),(some dd),(CXr P w),(.ref cB),(.ref cF),(.ref t6),0,(am ao ↑5 Ā),(Bd ol s r),npd.symm,bX.nd,u.toList,s.news,(ws.map V.str),(dI e h nofun),(.move n u pl),(.oth wr .nil),(mg "len" = none),(rIxT K),(aJ ∅),(tC (.int n)),(q_a ↑3 ai),(upd H' d Å),(upd H1 d Å),(Pv 0 Z H),(vs=[.ref p,nm]),(NameIs H nv Ì),(NameIs H mv Ĺ),("held":Str),(GY ↑0 qg),(sH rfl rfl),(.tup [x,v]),(aw ol n it),(c2.trans z),(Int),(aI ?_),(Zo e1),(spParts K),(sm _ _ h2),(sm _ _ hb),(q_a À ai),(spUnder C),(.join n m),(cP n m it),(spPartI C),(spJoinI C),(tt _ _ k2),(s1 _ _ h3),(SqT K H a xs),(NameIs H v k),(j+1),(.bl true),(V.str w'),(λeu=>?_),xs.length,ks.length,(nk c),(Str×TV),(.ref dd),(spNI cN),(.tup ps)]
abbrev Pz:=List V
abbrev Py:=List (List Key×V)
def top(i:ħ):Stmt:=PySem.Challenge.pw_limb_k40_whole_history_plays.main.body.getD i (.Pass #[0,0,0,0])
def tw(l:ć):TV:=.tup (l.map V.str)
theorem cxK:(hZ CX P w K mg base N qual scope f cd A outer s H E).nox.K=K:=rfl
theorem vix{K:Qa}{i:ħ}{n:ť}{Q:VK}(hv:Ę)(hs:ų)(ha:atI xs n=some v)(q:Q v H):tOp ŕ (tVar i) ŗ Z H Q:=#[_,hv,a,_,_,_,rfl,rfl,hs,ha,q]
theorem BU{K:Qa}{i:ħ}{n m:ť}{Q:VK}(hv:Ę)(hs:ų)(ha:atI xs n=some (.ref b))(ht:SqT K H b ys)(hb:atI ys m=some v)(q:Q v H):tOp ŕ (tOp ŕ (tVar i) ŗ) (tC (.int m)) Z H Q:=#[_,hv,a,_,_,_,rfl,rfl,hs,ha,b,_,_,_,rfl,rfl,ht,hb,q]
theorem eh{K:Qa}{xs:Pz}{g:TG}{tb:ŀ}{D:Ends}(Pv:Ĉ)(h0:ś)(hl:Ï)(hs:∀i x Z H,xs[i]?=some x->Pv i Z H->∀D':Ends,ñ->g x Z H λσ2 H2=>tb D' σ2 H2)(hd:Ù):
  ∃W:Nat->Nat->St->Hp->Prop,Č/\∀i m Z H,W i m Z H ->
   Ċ\/((Itl K a).go i H/\∃N:St->Hp->Prop,è/\∀x H',(Itl K a).yld i H x H'->g x Z H' λσ2 H2=>tb { D with nx:=N,ct:=N,bk:=D.nx } σ2 H2) :=
 mY Pv h0 hl (λi x Z H a b=>hs i x Z H a b _ λ_ _ z=>z) hd
theorem CC{K:Qa}{xs:Pz}{j:ħ}{tb:ŀ}{D:Ends}(Pv:Ĉ)(h0:ś)(hl:Ï)(hs:∀i x Z H,xs[i]?=some x->Pv i Z H->∀D':Ends,ñ->tb D' (Z.set j (some x)) H)(hd:Ù):
  ∃W:Nat->Nat->St->Hp->Prop,Č/\∀i m Z H,W i m Z H ->
   Ċ\/((Itl K a).go i H/\∃N:St->Hp->Prop,è/\∀x H',(Itl K a).yld i H x H'->dA j x Z H' λσ2 H2=>tb { D with nx:=N,ct:=N,bk:=D.nx } σ2 H2) :=
 eh Pv h0 hl hs hd
theorem xK{A:Ģ->Prop}{B:Ģ}(J:Ģ)(h1:∀R:St->Hp->Prop,(∀Z H,J Z H->R Z H)->A R)(h2:∀Z H,J Z H->B Z H):∃R,A R/\∀Z H,R Z H->B Z H:=#[J,h1 J λ_ _ z=>z,h2]
theorem ax{t u:ŀ}(h:∀R:Ends,(∀σ' H',u D σ' H'->R.nx σ' H')->t R Z H):BO t u D Z H:=h { D with nx:=u D } λ_ _ z=>z
theorem CB{K:Qa}{xs:Pz}{i j:ħ}{tb:ŀ}{D:Ends}(Pv:Ĉ)(h0:ś)(ha:Ï)(hs:∀k x Z H,xs[k]?=some x->Pv k Z H->∀D':Ends,(∀σ' H',Pv (k+1) σ' H'->D'.nx σ' H')->∀T,H T=none->tb D' ((Z.set i (some (.int k))).set j (some x)) (upd H T (.tup [.int k,x])))(hd:Ù):
  ∃W:Nat->Nat->St->Hp->Prop,Č/\∀k m Z H,W k m Z H ->
   ((Ite K a xs).stop k H/\D.nx Z H)\/((Ite K a xs).go k H/\∃N:St->Hp->Prop,(∀σ' H',N σ' H'->∃m',m'<m/\W (k+1) m' σ' H')/\∀x H',(Ite K a xs).yld k H x H'->oA K 2 (gU (dA i) (gU (dA j) oy)) x Z H' λσ2 H2=>tb { D with nx:=N,ct:=N,bk:=D.nx } σ2 H2) :=
 xz Pv h0 ha (λk x Z H a b T c=>hs k x Z H a b _ (λ_ _ z=>z) T c) hd
def ST:List ż:=[("put",tw ["new","up","place","text"]),("move",tw ["item","up","place"]),("write",tw ["item","text"]),("mark",tw ["item","truth"]),("due",tw ["item","whom"]),("fold",tw ["item","truth"]),("part",tw ["item","at","new","place"]),("join",tw ["item","item"]),("gone",tw ["item"])]
def FC:List ż:=[("move",.flat (.int 0)),("write",.flat (.int 2)),("mark",.flat (.int 3)),("due",.flat (.int 4)),("fold",.flat (.int 5))]
theorem at0:atI (x::r) 0=some x:=ge (xs:=x::r) (j:=0) rfl
theorem at1:atI (x::y::r) 1=some y:=ge (xs:=x::y::r) (j:=1) rfl
theorem at2:atI (x::y::z::r) 2=some z:=ge (xs:=x::y::z::r) (j:=2) rfl
theorem at3:atI (x::y::z::u::r) 3=some u:=ge (xs:=x::y::z::u::r) (j:=3) rfl
theorem at4:atI (x::y::z::u::v::r) 4=some v:=ge (xs:=x::y::z::u::v::r) (j:=4) rfl
theorem Mh{c A B:Prop}[Decidable c](h:¬c)(hB:B):if decide c=true then A else B:=by rw[decide_eq_false h];exact aI hB
theorem Mc:¬(ş="away"):=⋯
def ow(h a:Pg):List (Str×V):=fJ "away" (.ref a) (fJ "held" (.ref h) [])
theorem bz(h a:Pg):(ow h a).lookup ş=some (.ref h):=by unfold ow;rw[eK,Pa Mc,eK,Pb rfl]
theorem vd(h a:Pg):(ow h a).lookup ("away":Str)=some (.ref a):=by unfold ow;rw[eK,Pb rfl]
theorem jP(h a:Pg){m:Ĭ}(h1:¬m="away")(h2:¬m="held"):(ow h a).lookup m=none:=by
 unfold ow;rw[eK,Pa h1,eK,Pa h2]
 all_goals rfl
structure PlainAt(C:Pg)(H:Hp)(p d g:Pg)(kvs gvs:Py):Prop where
 ob:∃dx,H p=some (.ins C dx (ow d g))
 dc:H d=some (.dT kvs)
 gc:H g=some (.dT gvs)
 ne:d≠g
theorem PlainAt.same(x:Á)(s:à):PlainAt C H' p d g kvs gvs:=by obtain⟨⟨dx,h1⟩,h2,h3,h4⟩:=x;exact#[#[dx,s _ _ h1],s _ _ h2,s _ _ h3,h4]
theorem PlainAt.put{C:Pg}{H:Hp}{p d g:Pg}{kvs gvs kvs':Py}(x:Á):PlainAt C Ī p d g kvs' gvs:=by obtain⟨⟨dx,h1⟩,h2,h3,h4⟩:=x;exact#[#[dx,by rw[af (dI h1 h2 nofun)];exact h1],ac,by rw[af (ZQ h4)];exact h3,h4]
def But(d:Pg)(H H':Hp):Prop:=∀b o,H b=some o->b≠d->H' b=some o
inductive NameIs(H:Hp)(v:V)(k:Û):Prop
 |mk (b:_) (h0:v=.ref b) (h1:H b=some (.tup (k.map kV))):NameIs H v k
theorem NameIs.same{k:Û}(x:Ŵ)(s:à):NameIs H' v k:=by exists[b,h1,h2],x;exact#[b,h1,s _ _ h2]
inductive spParts(K:Qa)(vs:Pz)(H:Hp)(Q:VK)(E_:XK):Prop
 |mk (k:Str) (ws:List Str) (h0:vs=[.str k]) (h1:PyProof.Rows.KTD.datumAt k ST=some (tw ws)) (h2:∀t,(∀H',SqT K H' t Ő)->Q Į H):spParts K vs H Q E_
inductive spInit(C:Pg)(vs:Pz)(H:Hp)(Q:VK)(E_:XK):Prop
 |mk (p dx:Pg) (h0:vs=[.ref p]) (h1:H p=some (.ins C dx [])) (h2:∀(d g:Pg) (H':Hp),H d=none->H g=none->PlainAt C H' p d g [] []->(∀b o,H b=some o->b≠p->H' b=some o)->Q .non H'):spInit C vs H Q E_
def Ho(H:Hp)(kvs:Py)(ws:ć)(ps:Pz):Prop:=Ļ=ö/\∀(i:ħ) (w:Ĭ) (v:V),ws[i]?=some w->ps[i]?=some v ->
 (w="new"->∃k,NameIs H v k/\bc kvs k=none)/\(ă->v=.non\/∃k,NameIs H v k/\(bc kvs k).isSome=true)
inductive spCheckN(C:Pg)(vs:Pz)(H:Hp)(Q:VK)(E_:XK):Prop
 |mk (p d g st:Pg) (kvs gvs:Py) (w:Str) (ws:List Str) (ps:Pz) (h0:æ) (h1:Á) (h2:ã) (h3:ò) (h4:Ho H kvs ws ps) (h5:∀H',Same H H'->Q .non H'):spCheckN C vs H Q E_
inductive spBring(C:Pg)(vs:Pz)(H:Hp)(Q:VK)(E_:XK):Prop
 |mk (p d g:Pg) (kvs gvs:Py) (nm up pl tx:V) (k:Û) (h0:vs=[.ref p,nm,up,pl,tx]) (h1:Á) (h2:ā) (h3:ē<=500) (h4:∀(t:Pg) (H':Hp),Same H H'->H' t=some ð->Q .non ú):spBring C vs H Q E_
inductive spChange(C:Pg)(vs:Pz)(H:Hp)(Q:VK)(E_:XK):Prop
 |mk (p d g it va:Pg) (kvs gvs:Py) (nm:V) (k:Û) (i:ħ) (xs ys:Pz) (h0:vs=[.ref p,nm,.int (i:ť),.ref va]) (h1:Á) (h2:ā) (h3:ē<=500) (h4:bc kvs k=some (.ref it)) (h5:H it=some (.tup xs)) (h6:H va=some (.tup ys)) (h7:i+ø<=Ź) (h8:Ź<=100) (h9:∀(t:Pg) (H':Hp),Same H H'->H' t=some (.tup (xs.take i++ys++xs.drop (i+ø)))->Q .non ú):spChange C vs H Q E_
inductive spItem(C:Pg)(vs:Pz)(H:Hp)(Q:VK)(E_:XK):Prop
 |mk (p d g:Pg) (kvs gvs:Py) (nm v:V) (k:List Key) (h0:Ŝ) (h1:Á) (h2:ā) (h3:bc kvs k=some v) (h4:Q v H):spItem C vs H Q E_
inductive spNames(C:Pg)(vs:Pz)(H:Hp)(Q:VK)(E_:XK):Prop
 |mk (p d g:Pg) (kvs gvs:Py) (h0:vs=[.ref p]) (h1:Á) (h2:∀l ks,H l=none->dO H kvs ks->Q (.ref l) (upd H l Ď)):spNames C vs H Q E_
inductive spCell(K:Qa)(vs:Pz)(H:Hp)(Q:VK)(E_:XK):Prop
 |mk (a:Pg) (ns:Pn) (k:Int) (h0:vs=[.ref a,.int k]) (h1:SqL K H a Ė) (h2:0<=k) (h3:Q (.int (au ns k.toNat)) H):spCell K vs H Q E_
inductive spLaw(K:Qa)(vs:Pz)(H:Hp)(Q:VK)(E_:XK):Prop
 |mk (a:Pg) (ns:Pn) (h0:vs=[.ref a]) (h1:SqL K H a Ė) (h2:ns.length<=63) (h3:∀H',Q Ŷ H'):spLaw K vs H Q E_
structure Txt(K:Qa)(C:Pg):Prop where
 cl:Cls K C
 nH:NoAttr K C "held"
 nA:NoAttr K C "away"
section
variable{P:Pj}{w:Pk}{K:Qa}{mg:Pe}{base:Heap}
abbrev kQ:Stmt:=top 5
abbrev wV:List Str:=["word"]
theorem vX:FnScope wV ["word"] (aq kQ):= ~~~0
theorem vQ(F:Fun K "step_parts" "step_parts" kQ f fd){dd:Pg}(u8:mg "STEP_PARTS" = some Ž)(T:Tab K dd ST):↑FnOk CX0 1 f fd ["word"] Ũ:=by
 exists vX
 exists[k,ws,rfl,hk,q],h;exists _,(b_1 (aG (am Hg (Lp u8) ↑0)))
 exact#[_,rfl,dd,k,ST,tw ws,rfl,rfl,T,hk,q]
abbrev kJ:Stmt:=cU ä 0
abbrev wL:List Str:=["self"]
theorem vU:FnScope wL ["self"] (aq kJ):= ~~~0
theorem vK(F:Fun K "__init__" "Plain.__init__" kJ f fd)(T:í):↑FnOk CX0 1 f fd ["self"] (spInit C):=by
 exists vU
 exists[p,dx,rfl,hp,k],h;exists _,(b_c Š
   (b_1 Š))
 intro d hd;have npd:p≠d:=aj hp hd;refine#[_,rfl,p,C,dx,[],rfl,(by rw[af npd];exact hp),T.cl,T.nH,(by show 0<1000;decide),?_];intro g hg;have hg0:H g=none:=by
  cases e:H g with
  |none=>rfl
  |some o =>
   have:g≠d:=aj e hd;by_cases c:g=p
   .subst c;rw[ac]at hg;cases hg
   .rw[af c,af this,e]at hg;cases hg
 have ngp:g≠p:=λz=>by rw[z,hp]at hg0;cases hg0
 have ngd:g≠d:=λz=>by rw[z,af Ō,ac]at hg;cases hg
 refine#[_,rfl,p,C,dx,_,rfl,(by rw[af ngp.symm,ac]),T.cl,T.nA,(by show 1<1000;decide),?_];refine k d g _ hd hg0 #[#[dx,ac],by rw[af Ō,af ngd.symm,af Ō,ac],by rw[af ngp,ac],ngd.symm] λb o e hb=>?_;rw[af hb,af (aj e hg0),af hb,af (aj e hd)];exact e
abbrev kK:Stmt:=cU ä 10
abbrev wM:List Str:=["self","name"]
theorem vV:FnScope wM ["self","name"] (aq kK):= ~~~0
theorem vL(F:Fun K "item" "Plain.item" kK f fd)(T:í):↑FnOk CX0 1 f fd ["self","name"] (spItem C):=by
 exists vV
 obtain⟨p,d,g,kvs,gvs,nm,v,k,rfl,S,⟨b,rfl,hb⟩,hv,q⟩:=h;obtain⟨⟨dx,h1⟩,h2,h3,h4⟩:=id S;exists _,(b_c (aZ (nW Ú ↑1 Ü) (b_1 Jn) b_0)
   (b_1 (aG Ë)))
 refine#[_,rfl,_,rfl,p,C,dx,_,_,rfl,h1,T.cl,T.nH,bz _ _,d,_,rfl,DGet.t h2 hb,_,rfl,?_];rw[hv];refine aI ?_;exact#[_,rfl,p,C,dx,_,_,rfl,h1,T.cl,T.nH,bz _ _,_,rfl,d,v,rfl,hv▸DGet.t h2 hb,q]
abbrev il:Stmt:=cU ä 4
abbrev qO:List Str:=["self","name","up","place","text"]
theorem qv:FnScope qO ["self","name","up","place","text"] (aq il):= ~~~0
theorem qu(F:Fun K "bring_in" "Plain.bring_in" il f fd)(T:í):↑FnOk CX0 1 f fd ["self","name","up","place","text"] (spBring C):=by
 exists qv
 exists[p,d,g,kvs,gvs,nm,up,pl,tx,k,rfl,S,hn,hl,q],h;obtain⟨⟨dx,h1⟩,h2,h3,h4⟩:=id S;exists _,(b_1 (eE Ú Ü ↑1 (aB (q_a ↑2 (q_a ↑3 (q_a ↑4 (q_a iE (q_a cz (q_a iE ai)))))))))
 refine#[_,rfl,_,rfl,_,rfl,sz rfl,λt ht=>?_];have sm:=ad ht ð;exists[b,rfl,hb],hn;exact#[_,rfl,p,C,dx,_,_,rfl,sm _ _ h1,T.cl,T.nH,bz _ _,_,rfl,d,_,rfl,DPut.t ũ Ū Ŗ,q t _ sm ac]
abbrev iR:Stmt:=cU ä 5
abbrev sY:List Str:=["self","name","first","values","item"]
theorem lP:FnScope sY ["self","name","first","values"] (aq iR):= ~~~0
theorem sC(F:Fun K "change" "Plain.change" iR f fd)(T:í)(a8:Ŕ):↑FnOk CX0 1 f fd ["self","name","first","values"] (spChange C):=by
 exists lP
 exists[p,d,g,it,va,kvs,gvs,nm,k,i,xs,ys,rfl,S,hn,hl,hv,hit,hva,hi,hx,q],h;obtain⟨⟨dx,h1⟩,h2,h3,h4⟩:=id S;exists[b,rfl,hb],hn;exists _,(b_c (aC (i:=4) lP.nd Ë)
   (b_1 (eE Ú Ü ↑1 (aF cO (aF cO (cG bK ↑4 cM (cg ↑2)) ↑3) (cG bK ↑4 (cg (aF fN ↑2 (q_B jG a8 Yu Ř))) cM)))))
 refine#[_,rfl,p,C,dx,_,_,rfl,h1,T.cl,T.nH,bz _ _,_,rfl,d,_,rfl,hv▸DGet.t h2 hb,?_];refine#[_,rfl,_,rfl,_,rfl,it,xs,rfl,hit,λt1 H1 s1 e1=>?_];have c1:ce xs none (some (i:ť))=xs.take i:=by unfold ce;rw[HT.sIx_none,HT.sIx_nat,List.drop_zero,Nat.sub_zero,Nat.min_eq_left ∅]
 rw[c1]at e1;refine#[_,rfl,t1,va,_,_,rfl,rfl,e1,s1 _ _ hva,dS (by rw[y7];omega),λt2 H2 s2 e2=>?_];refine#[_,rfl,_,rfl,_,rfl,va,ys,rfl,.inr (Pt (s2 _ _ (s1 _ _ hva))),_,_,rfl,rfl,_,rfl,it,xs,rfl,s2 _ _ (s1 _ _ hit),λt3 H3 s3 e3=>?_];have c2:ce xs (some ((i:ť)+(ø:ť))) none=xs.drop (i+ø):=by unfold ce;rw[HT.sIx_none,show(i:ť)+(ø:ť)=((i+ø:Nat):Int) by omega,HT.sIx_nat,Nat.min_eq_left hi,Yt (by rw[YL];omega)]
 rw[c2]at e3;refine#[t2,t3,_,_,rfl,rfl,s3 _ _ e2,e3,dS (by rw[Zh,y7,YL];omega),λt4 H4 s4 e4=>?_];have sm:Same H H4:=s1.trans (s2.trans (s3.trans s4));exact#[_,rfl,p,C,dx,_,_,rfl,sm _ _ h1,T.cl,T.nH,bz _ _,_,rfl,d,_,rfl,DPut.t ũ Ū Ŗ,q t4 _ sm e4]
theorem Mg(w:Ĭ):inV (.str w) [.str "item",.str "up"]=decide ă:=by
 unfold inV eqV;by_cases h1:w="item"
 .subst h1;simp
 .by_cases h2:w="up"
  .subst h2;simp
  .simp[h1,h2,ZQ h1,ZQ h2]
abbrev fK:Stmt:=cU ä 2
abbrev og:List Str:=["self","step","kinds","kind","name"]
theorem bX:FnScope og ["self","step"] (aq fK):= ~~~0
inductive spNI(cN:Pg)(vs:Pz)(H:Hp)(Q:VK)(E_:XK):Prop
 |mk (e t:Pg) (v:V) (h0:vs=[.ref e,v]) (h1:H e=some (exN e cN t none)) (h2:∀d,H d=none->Q .non (upd (upd H d ë) e (exN e cN t (some d)))):spNI cN vs H Q E_
abbrev jA:Stmt:=cU (top 9) 0
abbrev vF:List Str:=["self","name"]
theorem uE:FnScope vF ["self","name"] (aq jA):= ~~~0
theorem tZ(F:Fun K "__init__" "NoItem.__init__" jA f fd)(S:ExS K cN)(n:NoAttr K cN "name"):↑FnOk CX0 1 f fd ["self","name"] ž:=by
 exists uE
 exists[e,t,v,rfl,he,q],h;exists _,(b_1 (LC ↑0 ↑1))
 exact#[_,rfl,_,rfl,e,cN,t,rfl,he,S,n,q]
theorem Ex{H1:Hp}{ea t d cN:Pg}(h1:H1 ea=none)(hd:upd H1 ea (exN ea cN t none) d=none):
  Same H1 (del Î ea)/\del Î ea d=some ë:=by
 have nde:d≠ea:=λz=>by rw[z,ac]at hd;cases hd
 refine#[λb o e=>?_,?_]
 .have hb:b≠ea:=aj e h1;have hbd:b≠d:=λz=>by rw[<-z,af hb,e]at hd;cases hd
  rw[iA hb,af hb,af hbd,af hb];exact e
 .rw[iA nde,af nde,ac]
def PartB(H:Hp)(kvs:Py)(w:Ĭ)(v:V)(b:Bool):Prop :=
 (w="new"->∃k,NameIs H v k/\b=!(bc kvs k).isSome)/\(ă->(v=.non/\b=true)\/∃k,NameIs H v k/\b=(bc kvs k).isSome)
theorem PartB.same{w:Ĭ}(x:Ł)(s:à):PartB H' kvs w v b :=
 #[λe=>let⟨k,a,c⟩:=x.1 e;#[k,a.same s,c],λe=>(x.2 e).imp id fun⟨k,a,c⟩=>#[k,a.same s,c]]
def isI(w:Ĭ):Prop:=w="item"\/w="up"
inductive spCheckX(C cT cN:Pg)(vs:Pz)(H:Hp)(Q:VK)(E:XK):Prop
 | mk (p d g st:Pg) (kvs gvs:Py) (w:Str) (ws:List Str) (ps:Pz) (bs:Ó) (h0:æ) (h1:Á) (h2:ã) (h3:ò) (h4:Ļ=ö) (h5:ļ=ö) (h6:(∀ (i:ħ) (w:Ĭ) (v:V) (b:Bool),ws[i]? = some w->ps[i]? = some v->bs[i]? = some b->PartB H kvs w v b)) (h7:((∃ i:Nat,ws[i]? = some "new"/\bs[i]? = some false)->∀ H',Same H H'->E Ń none H')) (h8:((∀ i:Nat,ws[i]? = some "new"->bs[i]? = some true)->((∀ (i:ħ) (w:Ĭ),ws[i]? = some w->isI w->bs[i]? = some true)->∀ H',Same H H'->Q .non H') /\
  ∀ (i:ħ) (w:Ĭ) (v:V),ws[i]? = some w->ps[i]? = some v->isI w->bs[i]? = some false->(∀ (j:ħ) (w':Ĭ),j<i->ws[j]? = some w'->isI w'->bs[j]? = some true)->∀ H' dd,Same H H'->H' dd=some ë->E ģ ń H')):spCheckX C cT cN vs H Q E
theorem my(F:Fun K "check_names" "Plain.check_names" fK f fd)(T:í)(u9:↑Fn 1 "step_parts" ["word"] Ũ)(u4:mg "zip" = none)(x_Taken:ExCls K cT)(OA:mg "Taken" = some Ń)(N5:↑ExI 1 cN bm ["self","name"] ž)(n9:mg "NoItem" = some ģ):↑FnOk Ņ 3 f fd ["self","step"] Ķ:=by
 refine F.okX bX Ą Õ
 .exists[p,d,g,st,kvs,gvs,wd,ws,ps,bs,rfl,_],h;rfl
 exists[p,d,g,st,kvs,gvs,wd,ws,ps,bs,rfl,S,hst,hk,l1,l2,ok,qT,qN],h;obtain⟨⟨dx,h1⟩,h2,h3,h4⟩:=id S;exists _,(b_c (aC (i:=2) ō (aO u9 ↑99 ū))
   (b_c (GZ fg (eG š rfl Ħ (iZ rfl (bE (aD (i:=3) ō) (bE (aD (i:=4) ō) fe))) (b_1 (aZ (t_w (fm (aE bW ↑3 ar) (fz (BP Ú ↑4 Ü)))) (b_1 (ql (iF qG) rfl x_Taken OA đ)) b_0))))
   (b_1 (GZ fg (eG š rfl Ħ (iZ rfl (bE (aD (i:=3) ō) (bE (aD (i:=4) ō) fe))) (b_1 (aZ (t_w (fm (aE (jd (K:=K) rfl) ↑3 (aB (q_a ar đ))) (fm (aE kn ↑4 cz) (fz (nW Ú ↑4 Ü))))) (b_1 (FY qG rfl N5 ↑99 n9 (q_a ↑4 ai))) b_0)))))))
 refine(vix rfl Ð at0 #[wd,ws,rfl,hk,λt ht=>?_]);have c1:ce (V.str wd::ps) (some 1) none=ps:=by unfold ce;rw[HT.sIx_none,show(1:ť)=((1:ħ):Int)from rfl,HT.sIx_nat];simp
 have lw:(ws.map V.str).length=ö:=by rw[Zd];exact l1
 have item:∀{i:ħ} {x:V},Ő[i]?=some x->∃w',ws[i]?=some w'/\x=.str w':=fun{i x} hx=>by rw[Zx]at hx;exists[w',e1,e2],ZK.mp hx;exact#[w',e1,e2.symm]
 have bat:∀{i:ħ} {v:V},ps[i]?=some v->∃b,bs[i]?=some b:=fun{i v} hv=>by
  have hi:i<ļ:=by rw[l2];exact(Zz.mp hv).1
  exact#[_,Zf hi]
 refine#[_,rfl,_,rfl,_,rfl,st,_,rfl,hst,λz H1 s1 e1=>?_];rw[c1]at e1;refine#[t,z,_,_,rfl,ht _,Pt e1,lw,?_];refine zI (i:=3) (j:=4) (λi Z H'=>Same H H'/\H' z=some ſ/\(∀j:Nat,j<i->ws[j]?=some "new"->bs[j]?=some true)/\∃o3 o4,Z=[some ę,some (.ref st),some Į,o3,o4]) #[s1,e1,(λj hj=>∅),none,none,rfl] ı Ğ lw ?_ ?_
 .rintro i x v Z H' hx hv ⟨sm,ez,pre,o3,o4,rfl⟩ T' gT;have wT:=ad gT Ţ;exists[w',hw,rfl],item hx;exists[b,hb],bat hv;have sm':=sm.trans wT;have pb:=(ok i w' v b hw hv hb).same sm';refine#[_,rfl,rfl,_,rfl,kf ý ý]
  .injection c with c;subst c;obtain⟨k,⟨nb,rfl,hnb⟩,hbv⟩:=pb.1 rfl;refine#[_,rfl,_,rfl,p,C,dx,_,_,rfl,sm' _ _ h1,T.cl,T.nH,bz _ _,d,_,rfl,DGet.t (sm' _ _ h2) hnb,_,rfl,?_];cases hs:(bc kvs k).isSome with
   |true =>rw[hs]at hbv;subst hbv;refine bg ?_;exact#[sz rfl,qT #[i,hw,hb] _ sm']
   |false =>
    rw[hs]at hbv;subst hbv;refine aI #[sm',wT _ _ ez,λj hj hw'=>?_,_,_,rfl];by_cases c2:j=i
    .rw[c2];exact hb
    .exact pre j ∅ hw'
  .refine aI #[sm',wT _ _ ez,λj hj hw'=>?_,_,_,rfl];by_cases c2:j=i
   .rw[c2,hw]at hw';exact absurd (ZO V.str (Zo hw')) c
   .exact pre j ∅ hw'
 .rintro Z H' ⟨sm,ez,pre,o3,o4,rfl⟩;have all:∀i:Nat,ws[i]?=some "new"->bs[i]?=some true:=λi hi=>pre i (by rw[Zd];exact(Zz.mp hi).1) hi;exists[qok,qni],qN all;refine#[_,rfl,_,rfl,_,rfl,st,_,rfl,sm _ _ hst,λz' H2 s2 e2=>?_];rw[c1]at e2;refine#[t,z',_,_,rfl,ht _,Pt e2,lw,?_];refine zI (i:=3) (j:=4) (λi Z H'=>Same H H'/\H' z'=some ſ/\Ø/\∃o3 o4,Z=[some ę,some (.ref st),some Į,o3,o4]) #[sm.trans s2,e2,(λj _ hj=>∅),o3,o4,rfl] ı Ğ lw ?_ ?_
  .rintro i x v Z H' hx hv ⟨sm,ez,pre2,o3,o4,rfl⟩ T' gT;have wT:=ad gT Ţ;exists[w',hw,rfl],item hx;exists[b,hb],bat hv;have sm':=sm.trans wT;refine#[_,rfl,sz rfl,λu gu=>?_];have wu:=ad gu (.tup [.str "item",.str "up"]);have sm2:=sm'.trans wu;have pb:=(ok i w' v b hw hv hb).same sm2;refine#[u,_,rfl,.inr (Pt ac),rfl,rfl,_,rfl,?_];have ei:(if false=true then !inV ŷ [.str "item",.str "up"]else inV ŷ [.str "item",.str "up"])=decide (w'="item"\/w'="up"):=Mg w';have step:bs[i]?=some true->∀(j:ħ) (w'':Ĭ),j<i+1->ws[j]?=some w''->isI w''->bs[j]?=some true:=λhbt j w'' hj hw'' hi=>by
    by_cases c2:j=i
    .rw[c2];exact hbt
    .exact pre2 j w'' ∅ hw'' hi
   rw[ei];refine kf ý ý
   .rcases pb.2 c with⟨rfl,rfl⟩|⟨k,⟨nb,rfl,hnb⟩,hbv⟩
    .refine#[_,rfl,rfl,_,rfl,nB rfl ?_];exact aI #[sm2,wu _ _ ĭ,step hb,_,_,rfl]
    .refine#[_,rfl,rfl,_,rfl,nz nofun ?_];refine#[_,rfl,_,rfl,p,C,dx,_,_,rfl,sm2 _ _ h1,T.cl,T.nH,bz _ _,d,_,rfl,DGet.t (sm2 _ _ h2) hnb,_,rfl,?_];cases hs:(bc kvs k).isSome with
     |true =>rw[hs]at hbv;subst hbv;exact aI #[sm2,wu _ _ ĭ,step hb,_,_,rfl]
     |false =>rw[hs]at hbv;subst hbv;refine bg ?_;refine#[_,rfl,sz rfl,λea tt' e1 e2 nt=>#[ea,tt',_,rfl,ac,λdd hdd=>#[rfl,some dd,ac,?_]]];exists[a1,a2],Ex (v:=V.ref nb) e1 hdd;exact qni i w' _ hw hv c hb pre2 _ dd (sm2.trans a1) a2
   .refine aI #[sm2,wu _ _ ĭ,λj w'' hj hw'' hi=>?_,_,_,rfl];by_cases c2:j=i
    .rw[c2,hw]at hw'';cases hw'';exact absurd hi c
    .exact pre2 j w'' ∅ hw'' hi
  .rintro Z H' ⟨sm,ez,pre2,o3,o4,rfl⟩;exact qok (λi w' hw hi=>pre2 i w' (by rw[Zd];exact(Zz.mp hw).1) hw hi) H' sm
inductive spItemX(C cN:Pg)(vs:Pz)(H:Hp)(Q:VK)(E:XK):Prop
 |mk (p d g:Pg) (kvs gvs:Py) (nm:V) (k:List Key) (h0:Ŝ) (h1:Á) (h2:ā) (h3:(∀v,bc kvs k=some v->Q v H)) (h4:(bc kvs k=none->∀H' dd,Same H H'->H' dd=some (.xd [("name",nm)])->E ģ ń H')):spItemX C cN vs H Q E
inductive spBounds(C:Pg)(vs:Pz)(H:Hp)(Q:VK)(E_:XK):Prop
 |mk (p st:Pg) (w:Str) (ps:Pz) (h0:vs=[.ref p,.ref st]) (h1:ã) (h2:V.str w≠V.str "move") (h3:V.str w≠V.str "join") (h4:V.str w≠V.str "part") (h5:Q .non H):spBounds C vs H Q E_
abbrev eV:Stmt:=cU ä 12
abbrev lY:List Str:=["self","one","other"]
theorem gK:FnScope lY ["self","one","other"] (aq eV):= ~~~0
abbrev fi:Stmt:=cU ä 3
abbrev mT:List Str:=["self","step"]
theorem mK:FnScope mT ["self","step"] (aq fi):= ~~~0
theorem dD(h a:Pg){m:Ĭ}(h1:¬m="away":=by decide)(h2:¬m="held":=by decide):(ow h a).lookup m=none:=jP h a h1 h2
theorem tV(x y:Ĭ):(x++y).length=x.length+y.length:=by show(x.cps++y.cps).size=_;rw[Array.size_append];rfl
theorem xZ(h1:PyData.strOk x=true)(h2:PyData.strOk y=true):PyData.strOk (x++y)=true:=by show(x.cps++y.cps).all (·<0x110000)=true;rw[Array.all_append,ZN];exact#[h1,h2]
def TS(H H':Hp):Prop:=∀a zs,H a=some (.tup zs)->H' a=some (.tup zs)
theorem Ps(e:à):TS H H':=λa zs h=>e a _ h
theorem kX{H:Hp}(h:ķ):TS H Ī:=λa zs e=>by rw[af ő];exact e
theorem xQ:∀ns:Pn,PyData.canLayAll0 Ĳ=true/\PyData.depthAll Ĳ=0
 | []=>#[rfl,rfl]
 |n::ns=>by exists[h1,h2],xQ ns;simp only[Zn,PyData.canLayAll0,PyData.canLay0,PyData.depthAll,PyData.depth,h1,h2];exact#[rfl,rfl]
theorem bO{d:Qb}(h1:d.canLay0=true)(h2:d.depth<=10):SeqAt.shaped d=true:=by unfold SeqAt.shaped;rw[ZN];exact#[h1,decide_eq_true ∅]
theorem jc{l:Py}{k:Û}(h:¬k∈l.map (·.1)):bc l k=none:=by
 cases e:bc l k with
 |none=>rfl
 |some v=>exact absurd (qm e) h
theorem sR{l:Py}{k:Û}(h:ď):(bc l k).isSome=true:=by
 cases e:bc l k with
 |none=>exact absurd h (Gp e)
 |some v=>rfl
theorem re{l:Py}{k:Û}(v:V)(h:ď):aS l k v=l.map (λkv=>if kv.1=k then(kv.1,v)else kv):=by unfold aS;rw[Pb];rw[iW];exact sR h
theorem xL{l:Py}{k:Û}(h:ď):(aS l k v).map (·.1)=l.map (·.1):=by rw[re v h,Z7];refine List.map_congr_left λp _=>?_;show(if p.1=k then(p.1,v)else p).1=p.1;split<;>rfl
theorem CQ(r:Ĵ):∀{i:ħ} {v:V},ks[i]?=some v->∃k,(kvs.map (·.1))[i]?=some k/\NameIs H v k:=by
 unfold dO at r;induction r with
 |nil=>intro i v h;simp at h
 |@cons p q _ _ h _ ih =>
  intro i v e;cases i with
  |zero =>cases e;exists[b,e1,e2],h;exact#[p.1,rfl,b,e1,e2]
  |succ i=>exact ih e
theorem CS(r:Ĵ):ź=ē:=(Zw r).symm
theorem GL(r:Ĵ)(s:ĉ):dO H' kvs ks:=Paired.mapP r λ_ _ ⟨b,h1,h2⟩=>#[b,h1,s _ _ h2]
abbrev Nm:=Int×Int
structure It where
 up:Option Nm
 pl:Pn
 tx:Str
 dn:Bool
 wh:Option Int
 fo:Bool
abbrev Ol:=List (Nm×It)
def nk(n:Nm):List Key:=[.inl n.1,.inl n.2]
theorem km(h:nk n=nk m):n=m:=by unfold nk at h;injection h with h1 h2;injection h2 with h2 _;injection h1 with h1;injection h2 with h2;exact Prod.ext h1 h2
abbrev As(β:Ě):=List (Nm×β)
def look{β:Ě}:As β->Nm->Option β
 | [],_=>none
 |p::l,n=>if p.1=n then some p.2 else look l n
def aw{β:Ě}(l:Ē)(n:Nm)(i:β):As β:=if(look l n).isSome=true then l.map (λp=>if p.1=n then(p.1,i)else p)else l++[(n,i)]
def UpAt(H:Hp)(v:V):Option Nm->Prop
 |none=>v=.non
 |some n=>NameIs H v Ì
inductive PlAt(H:Hp)(v:V)(ns:Pn):Prop
 |mk (b:_) (h0:v=.ref b) (h1:H b=some (.tup Ė)):PlAt H v ns
def whV:Option Int->V
 |none=>.non
 |some i=>.int i
inductive ItAt(H:Hp)(v:V)(it:It):Prop
 |mk (a:Pg) (uv pv:V) (h0:v=.ref a) (h1:H a=some â) (h2:UpAt H uv Ĝ) (h3:PlAt H pv it.pl):ItAt H v it
theorem NameIs.ts'{k:Û}(x:Ŵ)(s:ĉ):NameIs H' v k:=by exists[b,h1,h2],x;exact#[b,h1,s _ _ h2]
theorem UpAt.ts(x:ě)(s:ĉ):UpAt H' v u:=by
 cases u with
 |none=>exact x
 |some n=>exact NameIs.ts' x s
theorem PlAt.ts(x:PlAt H v ns)(s:ĉ):PlAt H' v ns:=by exists[b,h1,h2],x;exact#[b,h1,s _ _ h2]
theorem ItAt.ts(x:ItAt H v it)(s:ĉ):ItAt H' v it:=by exists[a,uv,pv,h1,h2,h3,h4],x;exact#[a,uv,pv,h1,s _ _ h2,h3.ts s,h4.ts s]
abbrev Rws{β:Ě}(R:ĵ)(kvs:Py)(ol:Ē):Prop:=Paired (λp q=>p.1=nk q.1/\R p.2 q.2) kvs ol
abbrev Rows(H:Hp)(kvs:Py)(ol:Ol):Prop:=Rws (ItAt H) kvs ol
theorem Rows.ts(x:Ñ)(s:ĉ):Rows H' kvs ol:=Paired.mapP x λ_ _ z=>#[z.1,z.2.ts s]
section
variable{β:Ě}
theorem jl(x:é)(h:look ol n=none):bc kvs Ì=none:=by
 induction x with
 |nil=>rfl
 |@cons p q _ _ r _ ih =>
  unfold look at h;by_cases c:q.1=n
  .rw[Pb c]at h;cases h
  .rw[Pa c]at h;rw[cW λz=>c ğ];exact ih h
theorem aV(x:é)(h:ł):∃v,bc kvs Ì=some v/\R v it:=by
 induction x with
 |nil=>cases h
 |@cons p q _ _ r _ ih =>
  unfold look at h;by_cases c:q.1=n
  .rw[Pb c]at h;cases h;exact#[p.2,dG (r.1.trans (ZO nk c)),r.2]
  .rw[Pa c]at h;rw[cW λz=>c ğ];exact ih h
theorem ir(x:é):(bc kvs Ì).isSome=(look ol n).isSome:=by
 cases e:look ol n with
 |none=>rw[jl x e];rfl
 |some it =>exists[v,h,_],aV x e;rw[h];rfl
theorem fV(x:é)(hv:R v it):Rws R (aS kvs Ì v) ţ:=by
 unfold aw;cases e:look ol n with
 |none =>rw[yh _ (jl x e),Pa (by simp)];exact Ys x #[rfl,hv]
 |some it0 =>
  exists[v0,h0,_],aV x e;rw[re _ (qm h0),Pb (show(some it0).isSome=true from rfl)];clear e h0;induction x with
  |nil=>exact .nil
  |@cons p q _ _ r _ ih =>
   rw[Zn,Zn];refine .cons ?_ ih;by_cases c:p.1=nk n
   .rw[Pb c,Pb (km (r.1.symm.trans c))];exact#[r.1,hv]
   .rw[Pa c,Pa λz=>c (r.1.trans (ZO nk z))];exact r
theorem bT(x:é):ē=ç:=Zw x
#check 0
inductive OlAt(C:Pg)(H:Hp)(p d g:Pg)(ol:Ol):Prop
 |mk (kvs gvs:_) (h0:PlainAt C H p d g kvs gvs) (h1:Ñ):OlAt C H p d g ol
inductive GoneAt(H:Hp)(g:Pg)(gs:As Unit):Prop
 |mk (gvs:_) (h0:H g=some (.dT gvs)) (h1:Rws (λv _=>v=.bl true) gvs gs):GoneAt H g gs
theorem OlAt.same(x:Ò)(s:à):OlAt C H' p d g ol:=by exists[kvs,gvs,h1,h2],x;exact#[kvs,gvs,h1.same s,h2.ts (Ps s)]
theorem GoneAt.same(x:Ġ)(s:à):GoneAt H' g gs:=by exists[gvs,h1,h2],x;exact#[gvs,s _ _ h1,h2]
theorem But.ts(x:ĸ)(h:ķ):TS H H':=λa zs e=>x a _ e ő
theorem But.put{d:Pg}{H H':Hp}(s:à)(o:HO):But d H (upd H' d o):=λb u h n=>by rw[af n];exact s _ _ h
theorem But.trans(x:ĸ)(y:But d H' H2):But d H H2:=λb u h n=>y b u (x b u h n) n
theorem But.of(s:à):But d H H':=λb u h _=>s b u h
theorem gJ{p d g t:Pg}(S:Á)(R:Ñ)(s:à)(hi:ItAt H' Į it):OlAt C ř p d g ţ:=by have td:TS H' ř:=kX (s _ _ S.dc);exact#[_,_,(S.same s).put,Rows.ts (fV (Rows.ts R (Ps s)) hi) td]
inductive Und(ol:Ol)(o:Nm):Nat->Option Nm->Bool->Prop
 |none:Und ol o 0 none false
 |self:Und ol o 0 (some o) true
 |up {k:Nat} {n:Nm} {it:It} {b:Bool}:n≠o->look ol n=some it->Und ol o k Ĝ b->Und ol o (k+1) (some n) b
inductive spUnder(C:Pg)(vs:Pz)(H:Hp)(Q:VK)(E_:XK):Prop
 |mk (p d g:Pg) (ol:Ol) (u v:V) (one:Option Nm) (o:Nm) (k:ħ) (b:Bool) (h0:vs=[.ref p,u,v]) (h1:Ò) (h2:UpAt H u one) (h3:NameIs H v (nk o)) (h4:Und ol o k one b) (h5:Q (.bl b) H):spUnder C vs H Q E_
theorem lS(F:Fun K "at_or_beneath" "Plain.at_or_beneath" eV f fd)(T:í)(pi:mg "UP" = some (.int 0 tk)):↑FnOk CX0 1 f fd ["self","one","other"] Ŭ:=by
 exists gK
 obtain⟨p,d,g,ol,u,v,one,o,k,b,rfl,⟨kvs,gvs,S,R⟩,hu,hv,un,q⟩:=h;obtain⟨⟨dx,h1⟩,h2,h3,h4⟩:=id S;exists[vb,rfl,hvb],id hv;exists _,(b_c (uD Z0 (t_w (fm (aE kn ↑1 cz) (fz (aE (Dk Ú) ↑1 ↑2)))) (b_1 (aC (i:=1) gK.nd (am ao Ë Ľ))))
   (b_1 (aG (lJ kn ↑1 cz))))
 refine#[λm Z H'=>H'=H/\∃(u:V) (one:Option Nm),UpAt H u one/\Und ol o m one b/\Z=[some ę,some u,some (.ref vb)],#[k,rfl,u,one,hu,un,rfl],?_];rintro m Z H' ⟨rfl,u,one,hu,un,rfl⟩;cases un with
 |none =>obtain rfl:u=.non:=hu;refine#[_,rfl,rfl,_,rfl,nB rfl Ŧ];exact#[_,rfl,rfl,q]
 |self =>exists[ub,rfl,hub],id hu;refine#[_,rfl,rfl,_,rfl,nz nofun ?_];refine#[_,rfl,_,rfl,ub,vb,[o.1,o.2],[o.1,o.2],rfl,rfl,hub,hvb,_,rfl,?_];rw[decide_eq_true rfl];refine aI ?_;exact#[_,rfl,rfl,q]
 |@up m n it _ hn hl un =>
  exists[ub,rfl,hub],id hu;exists[iv,e1,ia,uv,pv,rfl,e2,e3,e4],aV R hl;refine#[_,rfl,rfl,_,rfl,nz nofun ?_];refine#[_,rfl,_,rfl,ub,vb,[n.1,n.2],[o.1,o.2],rfl,rfl,hub,hvb,_,rfl,?_];have:¬ ([n.1,n.2]=[o.1,o.2]):=λz=>hn (by
   injection z with z1 z2;injection z2 with z2 _;exact Prod.ext z1 z2)
  rw[decide_eq_false this];refine bg ?_;refine#[λZ H2=>H2=H'/\Z=[some ę,some uv,some (.ref vb)],?_,?_]
  .rintro σ' H2 ⟨rfl,rfl⟩;exact#[m,YK m,rfl,uv,Ĝ,e3,un,rfl]
  .refine#[_,rfl,p,C,dx,_,_,rfl,h1,T.cl,T.nH,bz _ _,_,rfl,d,.ref ia,rfl,e1▸DGet.t (k:=nk n) h2 hub,?_];exact#[ia,_,_,_,rfl,rfl,Pt e2,at0,rfl,rfl]
inductive Sd
 |put (n:Nm)(u:Option Nm)(pl:Pn)(tx:Str)
 |move (n:Nm)(u:Option Nm)(pl:Pn)
 |write (n:Nm)(tx:Str)
 |mark (n:Nm)(b:Bool)
 |due (n:Nm)(w:Option Int)
 |fold (n:Nm)(b:Bool)
 |part (n:Nm)(a:Int)(m:Nm)(pl:Pn)
 |join (n m:Nm)
 |gone (n:Nm)
def StAt(H:Hp)(st:Pg):Sd->Prop
 |.put n u pl tx=>∃nv uv pv,H st=some (.tup [.str "put",nv,uv,pv,.str tx])/\NameIs H nv Ì/\UpAt H uv u/\PlAt H pv pl
 |.move n u pl=>∃nv uv pv,H st=some č/\NameIs H nv Ì/\UpAt H uv u/\PlAt H pv pl
 |.write n tx=>∃nv,H st=some (.tup [.str "write",nv,.str tx])/\NameIs H nv Ì
 |.mark n b=>∃nv,H st=some (.tup [.str "mark",nv,.bl b])/\NameIs H nv Ì
 |.due n w=>∃nv,H st=some (.tup [.str "due",nv,whV w])/\NameIs H nv Ì
 |.fold n b=>∃nv,H st=some (.tup [.str "fold",nv,.bl b])/\NameIs H nv Ì
 |.part n a m pl=>∃nv mv pv,H st=some û/\NameIs H nv Ì/\NameIs H mv Ĺ/\PlAt H pv pl
 |.gone n=>∃nv,H st=some (.tup [.str "gone",nv])/\NameIs H nv Ì
 |.join n m=>∃nv mv,H st=some Ĕ/\NameIs H nv Ì/\NameIs H mv Ĺ
theorem StAt.ts{st:Pg}(x:ù)(t:ĉ):StAt H' st s:=by
 cases s with
 |put=>exists[nv,uv,pv,h1,h2,h3,h4],x;exact#[nv,uv,pv,t _ _ h1,h2.ts' t,h3.ts t,h4.ts t]
 |move=>exists[nv,uv,pv,h1,h2,h3,h4],x;exact#[nv,uv,pv,t _ _ h1,h2.ts' t,h3.ts t,h4.ts t]
 |write=>exists[nv,h1,h2],x;exact#[nv,t _ _ h1,h2.ts' t]
 |mark=>exists[nv,h1,h2],x;exact#[nv,t _ _ h1,h2.ts' t]
 |due=>exists[nv,h1,h2],x;exact#[nv,t _ _ h1,h2.ts' t]
 |fold=>exists[nv,h1,h2],x;exact#[nv,t _ _ h1,h2.ts' t]
 |gone=>exists[nv,h1,h2],x;exact#[nv,t _ _ h1,h2.ts' t]
 |part=>exists[nv,mv,pv,h1,h2,h3,h4],x;exact#[nv,mv,pv,t _ _ h1,h2.ts' t,h3.ts' t,h4.ts t]
 |join=>exists[nv,mv,h1,h2,h3],x;exact#[nv,mv,t _ _ h1,h2.ts' t,h3.ts' t]
def Sd.items:Sd->List Nm
 |.put _ u _ _=>Ŏ
 |.move n u _=>n::Ŏ
 |.write n _=>[n]
 |.mark n _=>[n]
 |.due n _=>[n]
 |.fold n _=>[n]
 |.part n _ _ _=>[n]
 |.join n m=>[n,m]
 |.gone n=>[n]
def Sd.news:Sd->List Nm
 |.put n _ _ _=>[n]
 |.part _ _ m _=>[m]
 |_=>[]
inductive Bd(ol:Ol):Sd->Option Bool->Prop
 |put {n u pl tx}:Bd ol (.put n u pl tx) none
 |write {n tx}:Bd ol (.write n tx) none
 |mark {n b}:Bd ol (.mark n b) none
 |due {n w}:Bd ol (.due n w) none
 |fold {n b}:Bd ol (.fold n b) none
 |gone {n}:Bd ol (.gone n) none
 |move {n u pl k b}:Und ol n k u b->Bd ol Œ ü
 |join {n m k b}:Und ol m k (some n) b->Bd ol ŭ ü
 |part {n a m pl it}:look ol n=some it->Bd ol ľ (if(ġ:ť)<a then some false else none)
def cP(n m:Nm)(it:It):It:=if Ĝ=some m then{ it with up:=some n }else it
theorem Jg(n m:Nm)(it:It):cP n m Ů=cP n m it:=by
 unfold cP;by_cases c:Ĝ=some m
 .rw[Pb c];by_cases c2:n=m
  .rw[c2,Pb rfl]
  .rw[Pa λz=>c2 (Zo z)]
 .rw[Pa c,Pa c]
structure JoinR(ol:Ol)(n m:Nm)(itn itm:It)(ol':Ol):Prop where
 len:ol'.length=ç
 nm:ol'.map (·.1)=ol.map (·.1)
 lk:∃itm2,look (aw ol n { itn with tx:=þ++ÿ }) m=some itm2/\∀x,look ol' x=(look (aw (aw ol n { itn with tx:=þ++ÿ }) m { itm2 with tx:="" }) x).map į
inductive Ap(ol:Ol):Sd->Ol->Prop
 |put {n u pl tx}:Ap ol (.put n u pl tx) (aw ol n #[u,pl,tx,false,none,false])
 |move {n u pl it}:look ol n=some it->Ap ol Œ (aw ol n { it with up:=u,pl:=pl })
 |write {n tx it}:look ol n=some it->Ap ol (.write n tx) (aw ol n { it with tx:=tx })
 |mark {n b it}:look ol n=some it->Ap ol (.mark n b) (aw ol n { it with dn:=b })
 |due {n w it}:look ol n=some it->Ap ol (.due n w) (aw ol n { it with wh:=w })
 |fold {n b it}:look ol n=some it->Ap ol (.fold n b) (aw ol n { it with fo:=b })
 |part {n a m pl it}:look ol n=some it->Ap ol ľ (aw (aw ol n { it with tx:=bY ċ none Ã }) m #[Ĝ,pl,bY ċ Ã none,false,none,false])
 |gone {n}:Ap ol (.gone n) ol
 |join {n m itn itm ol'}:look ol n=some itn->look ol m=some itm->JoinR ol n m itn itm ol'->Ap ol ŭ ol'
theorem Hv{st:Pg}(hs:ù)(hb:ŋ):
  (r=none/\∃wd ps,H st=some ī/\V.str wd≠V.str "move"/\V.str wd≠V.str "join"/\V.str wd≠V.str "part") \/
  (∃n u k b nv uv pv,H st=some č/\NameIs H nv Ì/\UpAt H uv u/\Und ol n k u b/\r=if b=true then some true else none) \/
  (∃n m k b nv mv,H st=some Ĕ/\NameIs H nv Ì/\NameIs H mv Ĺ/\Und ol m k (some n) b/\r=if b=true then some true else none) \/
  (∃n a it nv mv pv,H st=some û/\NameIs H nv Ì/\look ol n=some it/\r=if(ġ:ť)<a then some false else none):=by
 cases hb with
 |put=>exists[nv,uv,pv,h1,_],hs;exact .inl #[rfl,_,_,h1,⋯,⋯,⋯]
 |write=>exists[nv,h1,_],hs;exact .inl #[rfl,_,_,h1,⋯,⋯,⋯]
 |mark=>exists[nv,h1,_],hs;exact .inl #[rfl,_,_,h1,⋯,⋯,⋯]
 |due=>exists[nv,h1,_],hs;exact .inl #[rfl,_,_,h1,⋯,⋯,⋯]
 |fold=>exists[nv,h1,_],hs;exact .inl #[rfl,_,_,h1,⋯,⋯,⋯]
 |gone=>exists[nv,h1,_],hs;exact .inl #[rfl,_,_,h1,⋯,⋯,⋯]
 |move un=>exists[nv,uv,pv,h1,h2,h3,_],hs;exact .inr (.inl #[_,_,_,_,nv,uv,pv,h1,h2,h3,un,rfl])
 |join un=>exists[nv,mv,h1,h2,h3],hs;exact .inr (.inr (.inl #[_,_,_,_,nv,mv,h1,h2,h3,un,rfl]))
 |part hl=>exists[nv,mv,pv,h1,h2,h3,_],hs;exact .inr (.inr (.inr #[_,_,_,nv,mv,pv,h1,h2,hl,rfl]))
inductive spBoundsF(C cB cF:Pg)(vs:Pz)(H:Hp)(Q:VK)(E:XK):Prop
 |mk (p d g st:Pg) (ol:Ol) (s:Sd) (r:Option Bool) (h0:æ) (h1:Ò) (h2:ù) (h3:ŋ) (h4:ì) (h5:(r=some true->E ņ none H)) (h6:(r=some false->E Ň none H)) (h7:(r=none->Q .non H)):spBoundsF C cB cF vs H Q E
theorem lT(F:Fun K "check_bounds" "Plain.check_bounds" fi f fd)(T:í)(a9:↑MFn 1 C "at_or_beneath" ["self","one","other"] Ŭ)(c8:å)(a8:Ŕ)(x_Beneath:ExCls K cB)(j6:mg "Beneath" = some ņ)(x_Far:ExCls K cF)(Of:mg "Far" = some Ň):↑FnOk Ņ 2 f fd ["self","step"] ĳ:=by
 refine F.okX mK Ą Õ
 .exists[p,d,g,st,ol,sd,r,rfl,_],h;rfl
 exists[p,d,g,st,ol,sd,r,rfl,O,hs,hb,htx,q1,q2,q3],h;exists[kvs,gvs,S,R],id O;obtain⟨⟨dx,h1⟩,h2,h3,h4⟩:=id S;exists _,(b_c È
   (b_c È
   (b_1 (aZ (t_w (fm (aE bW À ar) (fz (aE Fi À (q_B Cg a8 Yu (q_a (am ao (bo Ú Ü À) Ā) ai)))))) (b_1 (ql (iF fg) rfl x_Far Of đ)) b_0))))
 rcases Hv hs hb with⟨hr',wd,ps,hst,n1,n2,n3⟩|⟨n,u,k,b,nv,uv,pv,hst,hn,hu,un,hr'⟩|⟨n,m,k,b,nv,mv,hst,hn,hm,un,hr'⟩|⟨n,a,it,nv,mv,pv,hst,hn,hl,hr'⟩
 .refine(vix rfl Ð at0 #[rfl,_,rfl,aL n1 Ŧ]);refine(vix rfl Ð at0 #[rfl,_,rfl,aL n2 Ŧ]);exact(vix rfl Ð at0 #[rfl,_,rfl,aL n3 (aI (q3 hr'))])
 .refine Ö;refine#[_,rfl,p,dx,_,rfl,h1,dD _ _,vix rfl Ð at2 (vix rfl Ð at1 #[p,d,g,ol,uv,nv,u,n,k,b,rfl,O,hu,hn,un,_,rfl,?_])];cases b with
  |true=>exact bg #[sz rfl,q1 hr']
  |false =>refine aI ?_;refine Ä;exact ê
 .refine Ä;refine Ö;refine#[_,rfl,p,dx,_,rfl,h1,dD _ _,vix rfl Ð at1 (vix rfl Ð at2 #[p,d,g,ol,nv,mv,some n,m,k,b,rfl,O,hn,hm,un,_,rfl,?_])];cases b with
  |true=>exact bg #[sz rfl,q1 hr']
  |false =>refine aI ?_;exact ê
 .refine Ä;refine Ä;refine Ö;exists[iv,e1,ia,uv,pv',rfl,e2,e3,e4],aV R hl;exists[nb,rfl,hnb],hn;refine(vix rfl Ð at2 #[_,rfl,p,C,dx,_,_,rfl,h1,T.cl,T.nH,bz _ _,vix rfl Ð at1 #[d,.ref ia,rfl,e1▸DGet.t (k:=nk n) h2 hnb,ia,_,_,_,rfl,rfl,Pt e2,at2,ċ,rfl,(by have:=htx n it hl;omega),_,_,rfl,rfl,_,rfl,?_]]);refine kf ý ý
  .rw[Pb ∅]at hr';exact#[sz rfl,q2 hr']
  .rw[Pa ∅]at hr';exact q3 hr'
inductive spPartI(C:Pg)(vs:Pz)(H:Hp)(Q:VK)(E_:XK):Prop
 |mk (p d g:Pg) (ol:Ol) (nv mv pv:V) (n m:Nm) (a:ť) (pl:Pn) (it:It) (h0:vs=[.ref p,nv,.int a,mv,pv]) (h1:Ò) (h2:ŝ) (h3:Ş) (h4:PlAt H pv pl) (h5:ł) (h6:ç<=400) (h7:ġ<=100000) (h8:∀H',But d H H'->OlAt C H' p d g (aw (aw ol n { it with tx:=bY ċ none Ã }) m #[Ĝ,pl,bY ċ Ã none,false,none,false])->Q .non H'):spPartI C vs H Q E_
theorem dR{β:Ě}(l:Ē)(n:Nm)(i:β):(aw l n i).length<=l.length+1:=by
 unfold aw;split
 .rw[Zd];omega
 .rw[Zh];exact Ze _
abbrev gq:Stmt:=cU ä 6
abbrev qr:List Str:=["self","name","at","new","place","item","ahead"]
theorem fX:FnScope qr ["self","name","at","new","place"] (aq gq):= ~~~0
theorem oM(F:Fun K "part_item" "Plain.part_item" gq f fd)(T:í)(d8:É)(j7:Ô)(c8:å)(pi:ĕ)(Og:mg "max" = none):↑FnOk CX0 2 f fd ["self","name","at","new","place"] ů:=by
 exists fX
 obtain⟨p,d,g,ol,nv,mv,pv,n,m,a,pl,it,rfl,⟨kvs,gvs,S,R⟩,hn,hm,hp,hl,l4,lt,q⟩:=h;obtain⟨⟨dx,h1⟩,h2,h3,h4⟩:=id S;exists[nb,rfl,hnb],id hn;exists[iv,e1,ia,uv,pv',rfl,e2,e3,e4],aV R hl;have lk:=bT R;exists _,(b_c (aC (i:=5) fX.nd Ë)
   (b_c (aC (i:=6) fX.nd (q_B (Gz rfl) Og xi (q_a ↑2 (q_a ah ai))))
   (b_c (bh (eC d8 ↑99 ↑0 (q_a ↑1 (q_a Ā (q_a (aB (q_a (cG rV Ŋ cM (cg ↑6)) ai)) ai)))))
   (b_1 (bh (eC j7 ↑99 ↑0 (q_a ↑3 (q_a (am ao ↑5 Ľ) (q_a ↑4 (q_a (cG rV Ŋ (cg ↑6) cM) ai))))))))))
 refine#[_,rfl,p,C,dx,_,_,rfl,h1,T.cl,T.nH,bz _ _,_,rfl,d,.ref ia,rfl,e1▸DGet.t (k:=nk n) h2 hnb,?_];refine#[_,rfl,_,_,rfl,?_];refine#[_,rfl,p,dx,_,rfl,h1,dD _ _,_,rfl,vix rfl (Pt e2) at2 #[_,rfl,_,rfl,ċ,rfl,lt,sz rfl,λva gva=>?_]];have wv:=ad gva (.tup [.str (bY ċ none Ã)]);refine#[p,d,g,ia,va,kvs,gvs,.ref nb,nk n,2,_,_,rfl,S.same wv,hn.same wv,∅,e1,wv _ _ e2,ac,show 2+1<=6 by decide,show 6<=100 by decide,λt H1 s1 e5=>?_];have s01:Same H H1:=wv.trans s1;have O1:=gJ (n:=n) (it:={ it with tx:=bY ċ none Ã }) S R s01 #[t,uv,pv',rfl,e5,e3.ts İ,e4.ts İ];have b1:But d H Ś:=But.put s01 _;generalize upd H1 d Å=H2 at O1 b1 ⊢;have t2:=b1.ts h2;exists[kvs2,gvs2,S2,R2],id O1;obtain⟨⟨dx2,y1⟩,y2,y3,y4⟩:=id S2;have lk2:=bT R2;have:=dR ol n { it with tx:=bY ċ none Ã };refine#[_,rfl,p,dx2,_,rfl,y1,dD _ _,_,rfl,vix rfl Ŀ at0 #[_,rfl,vix rfl Ŀ at2 #[_,rfl,_,rfl,ċ,rfl,lt,?_]]];refine#[p,d,g,kvs2,gvs2,mv,uv,pv,.str _,nk m,rfl,S2,hm.ts' t2,∅,λt' H3 s3 e6=>?_];refine q _ (b1.trans (But.put s3 _)) (gJ S2 R2 s3 #[t',uv,pv,rfl,e6,(e3.ts t2).ts (Ps s3),(hp.ts t2).ts (Ps s3)])
inductive spJoinI(C:Pg)(vs:Pz)(H:Hp)(Q:VK)(E_:XK):Prop
 |mk (p d g:Pg) (ol:Ol) (nv mv:V) (n m:Nm) (itn itm:It) (h0:vs=[.ref p,nv,mv]) (h1:Ò) (h2:ŝ) (h3:Ş) (h4:look ol n=some itn) (h5:look ol m=some itm) (h6:ç<=400) (h7:itn.tx.length+itm.tx.length<=100000) (h8:∀H' ol',But d H H'->OlAt C H' p d g ol'->JoinR ol n m itn itm ol'->Q .non H'):spJoinI C vs H Q E_
def iV:Option Nm->Qb
 |none=>.none
 |some n=>.tuple [.int n.1,.int n.2]
theorem kZ(h:ě):Dt H (iV u) v/\(iV u).canLay0=true/\(iV u).depth<=1:=by
 cases u with
 |none =>obtain rfl:v=.non:=h;exact#[by simp only[iV,Dt],rfl,⋯]
 |some n =>exists[b,rfl,e],h;refine#[?_,by simp[iV,PyData.canLay0,PyData.canLayAll0],by simp[iV,PyData.depth,PyData.depthAll]];simp only[iV,Dt,DtAll];exact#[b,_,rfl,.inl e,_,_,rfl,rfl,_,_,rfl,rfl,rfl]
theorem pM(u v:Option Nm):PyData.eqv (iV u) (iV v)=decide (u=v):=by
 cases u with
 |none=>cases v<;>rfl
 |some n =>
  cases v with
  |none=>rfl
  |some m =>
   have:=jZ [n.1,n.2] [m.1,m.2];show PyData.eqv (.tuple ([n.1,n.2].map PyData.int)) (.tuple ([m.1,m.2].map PyData.int))=_;rw[this,decide_eq_decide];constructor
   .intro z;injection z with z1 z2;injection z2 with z2 _;exact ZO some (Prod.ext z1 z2)
   .intro z;rw[Zo z]
theorem yp{β:Ě}{R:ĵ}{kvs:Py}{ol:Ē}{k:Û}(x:é)(h:k∈kvs.map (·.1)):∃n it,k=nk n/\look ol n=some it:=by
 induction x with
 |nil=>exact nomatch h
 |@cons p q _ l r _ ih =>
  rw[Zn]at h;rcases Zg.mp h with rfl|h
  .exact#[q.1,q.2,r.1,by unfold look;rw[Pb rfl]]
  .exists[n,it,h1,h2],ih h;by_cases c:q.1=n
   .exact#[n,q.2,h1,by unfold look;rw[Pb c]]
   .exact#[n,it,h1,by unfold look;rw[Pa c];exact h2]
theorem Fd{β:Ě}{l:Ē}{n m:Nm}{i:β}:(look (l.map λp=>if p.1=n then(p.1,i)else p) m)=if m=n then(look l m).map (λ_=>i)else look l m:=by
 induction l with
 |nil=>split<;>rfl
 |cons p l ih =>
  rw[Zn];unfold look;by_cases c:p.1=n
  .rw[Pb c];by_cases c2:p.1=m
   .rw[Pb c2,Pb c2,Pb (c2▸c)];rfl
   .rw[Pa c2,Pa c2,ih]
  .rw[Pa c];by_cases c2:p.1=m
   .rw[Pb c2,Pb c2,Pa (λz=>c Ť)]
   .rw[Pa c2,Pa c2,ih]
theorem Fc{β:Ě}{l:Ē}{n m:Nm}{i:β}(h:look l n=none):look (l++[(n,i)]) m=if m=n then some i else look l m:=by
 induction l with
 |nil =>
  show(if n=m then some i else none)=_;by_cases c:n=m
  .rw[Pb c,Pb c.symm]
  .rw[Pa c,Pa λz=>c z.symm];rfl
 |cons p l ih =>
  rw[List.cons_append];unfold look at h ⊢;by_cases c:p.1=n
  .rw[Pb c]at h;cases h
  .rw[Pa c]at h;by_cases c2:p.1=m
   .rw[Pb c2,Pb c2,Pa λz=>c Ť]
   .rw[Pa c2,Pa c2];exact ih h
theorem ay{β:Ě}{l:Ē}{n m:Nm}{i:β}:look (aw l n i) m=if m=n then some i else look l m:=by
 unfold aw;cases e:look l n with
 |none =>rw[Pa (by simp)];exact Fc e
 |some j =>
  rw[Pb (show(some j).isSome=true from rfl),Fd];by_cases c:m=n
  .rw[Pb c,Pb c,c,e];rfl
  .rw[Pa c,Pa c]
theorem dM{β:Ě}{l:Ē}{n:Nm}{i j:β}(h:look l n=some j):(aw l n i).length=l.length:=by unfold aw;rw[h,Pb (show(some j).isSome=true from rfl),Zd]
theorem cD{β:Ě}{l:Ē}{n:Nm}{i:β}:((aw l n i).map (·.1))=if(look l n).isSome=true then l.map (·.1)else l.map (·.1)++[n]:=by
 unfold aw;by_cases c:(look l n).isSome=true
 .rw[Pb c,Pb c,Z7];apply List.map_congr_left;intro x _;show(if x.1=n then(x.1,i)else x).1=x.1;by_cases d:x.1=n
  .rw[Pb d]
  .rw[Pa d]
 .rw[Pa c,Pa c,ZA];rfl
theorem yr{β:Ě}{R:ĵ}{kvs:Py}{l:Ē}(x:Rws R kvs l):kvs.map (·.1)=(l.map (·.1)).map nk:=by
 induction x with
 |nil=>rfl
 |cons r _ ih=>rw[Zn,Zn,Zn,ih,r.1]
theorem zZ:∀{a b:Ĩ},a.map nk=b.map nk->a=b
 | [],[],_=>rfl
 | [],_::_,h=>by cases h
 |_::_,[],h=>by cases h
 |x::a,y::b,h=>by rw[Zn,Zn]at h;injection h with h1 h2;rw[km h1,zZ h2]
theorem xU(R':Rows H' kvs' ol')(R:Ñ)(e:kvs'.map (·.1)=kvs.map (·.1))(n:ol.map (·.1)=ns):ol'.map (·.1)=ns:=by rw[yr R',yr R]at e;rw[<-n];exact zZ e
section
variable{ks:List Û}{i:ħ}
theorem Ib(j1:ß)(j2:î)(hc:ĺ):(look ol4 c).map į=some Ů:=by
 by_cases cm:nk c∈ks.take i
 .have:=j1 c cm;rw[hc]at this;cases e:look ol4 c with
  |none=>rw[e]at this;cases this
  |some it4 =>rw[e]at this;have e2:it=cP n m it4:=Zo this;rw[e2,Jg];rfl
 .rw[<-j2 c cm,hc];rfl
theorem qV(k1:ks[i]?=some Ż)(j1:ß)(j2:î)(hc:ĺ)(ho:Þ):(∀x,nk x∈ks.take Đ->look ol'' x=(look ol4 x).map į)/\∀x,¬nk x∈ks.take Đ->look ol'' x=look ol4 x:=by
 have h4:=Ib j1 j2 hc;have et:ks.take Đ=ks.take i++[nk c]:=by rw[List.take_succ,k1];rfl
 refine#[λx hx=>?_,λx hx=>?_]
 .rw[ho x];by_cases e:x=c
  .rw[Pb e,e,h4]
  .rw[Pa e];rw[et]at hx;rcases ZC.mp hx with hx|hx
   .exact j1 x hx
   .exact absurd (km (Zi.mp hx)) e
 .rw[et]at hx;rw[ho x,Pa λe=>hx (ZC.mpr (.inr (Zi.mpr (ZO nk e))))];exact j2 x λz=>hx (ZC.mpr (.inl z))
#check 0
abbrev fW:Stmt:=cU ä 7
abbrev oo:List Str:=["self","name","other","joined","lower"]
theorem fM:FnScope oo ["self","name","other"] (aq fW):= ~~~0
theorem om(F:Fun K "join_items" "Plain.join_items" fW f fd)(T:í)(d8:É)(c8:å)(pi:ĕ)(j4:mg "list" = none):↑FnOk CX0 2 f fd ["self","name","other"] Ű:=by
 exists fM
 obtain⟨p,d,g,ol,nv,mv,n,m,itn,itm,rfl,⟨kvs,gvs,S,R⟩,hn,hm,hln,hlm,l4,lt,q⟩:=h;obtain⟨⟨dx,h1⟩,h2,h3,h4⟩:=id S;exists[nb,rfl,hnb],id hn;exists[mb,rfl,hmb],id hm;exists[iv,e1,ia,uv,pv,rfl,e2,e3,e4],aV R hln;exists[jv,f1,ja,uv',pv',rfl,f2,f3,f4],aV R hlm;have lk:=bT R;exists _,(b_c (aC (i:=3) fM.nd (aF Dj (am ao Ë Ā) (am ao (bo Ú Ü ↑2) Ā)))
   (b_c (bh (eC d8 ↑99 ↑0 (q_a ↑1 (q_a Ā (q_a (aB Ř) ai)))))
   (b_c (bh (eC d8 ↑99 ↑0 (q_a ↑2 (q_a Ā (q_a (aB đ) ai)))))
   (b_1 (eG Z0 rfl (bJ (oW (zw rfl) j4 ip (q_a Ü ai))) (aD (i:=4) fM.nd) (b_1 (aZ (aE (nF Ú) (am ao (bo Ú Ü ↑4) Ľ) ↑2) (b_1 (bh (eC d8 ↑99 ↑0 (q_a ↑4 (q_a Ľ (q_a (aB ĝ) ai)))))) b_0)))))))
 refine#[_,rfl,p,C,dx,_,_,rfl,h1,T.cl,T.nH,bz _ _,_,rfl,d,.ref ia,rfl,e1▸DGet.t (k:=nk n) h2 hnb,ia,_,_,_,rfl,rfl,Pt e2,at2,?_];refine#[_,rfl,p,C,dx,_,_,rfl,h1,T.cl,T.nH,bz _ _,_,rfl,d,.ref ja,rfl,f1▸DGet.t (k:=nk m) h2 hmb,ja,_,_,_,rfl,rfl,Pt f2,at2,_,_,rfl,rfl,BL ∅,?_];refine#[_,rfl,p,dx,_,rfl,h1,dD _ _,_,rfl,_,rfl,sz rfl,λva gva=>?_];have wv:=ad gva (.tup [.str (þ++ÿ)]);refine#[p,d,g,ia,va,kvs,gvs,.ref nb,nk n,2,_,_,rfl,S.same wv,hn.same wv,∅,e1,wv _ _ e2,ac,show 2+1<=6 by decide,show 6<=100 by decide,λt H1 s1 e5=>?_];have s01:Same H H1:=wv.trans s1;have O1:=gJ (n:=n) (it:={ itn with tx:=þ++ÿ }) S R s01 #[t,uv,pv,rfl,e5,e3.ts İ,e4.ts İ];have b1:But d H Ś:=But.put s01 _;generalize upd H1 d Å=H2 at O1 b1 ⊢;have t2:=b1.ts h2;exists[kvs2,gvs2,S2,R2],id O1;obtain⟨⟨dx2,y1⟩,y2,y3,y4⟩:=id S2;have lk2:=bT R2;have ls2:(aw ol n { itn with tx:=þ++ÿ }).length=ç:=dM hln;obtain⟨itm2,hlm2⟩:∃it,look (aw ol n { itn with tx:=þ++ÿ }) m=some it:=by
  rw[ay];split
  .exact#[_,rfl]
  .exact#[_,hlm]
 exists[kv,g1,ka,uw,pw,rfl,g2,g3,g4],aV R2 hlm2;refine#[_,rfl,p,dx2,_,rfl,y1,dD _ _,_,rfl,sz rfl,λvb gvb=>?_];have wb:=ad gvb (.tup [.str ""]);refine#[p,d,g,ka,vb,kvs2,gvs2,.ref mb,nk m,2,_,_,rfl,S2.same wb,(hm.ts' t2).same wb,∅,g1,wb _ _ g2,ac,show 2+1<=6 by decide,show 6<=100 by decide,λt' H3 s3 e6=>?_];have s23:Same H2 H3:=wb.trans s3;have O3:=gJ (n:=m) (it:={ itm2 with tx:="" }) S2 R2 s23 #[t',uw,pw,rfl,e6,g3.ts (Ps s23),g4.ts (Ps s23)];have b3:But d H (upd H3 d ą):=b1.trans (But.put s23 _);generalize upd H3 d ą=H4 at O3 b3 ⊢;have t4:=b3.ts h2;exists[kvs4,gvs4,S4,R4],id O3;obtain⟨⟨dx4,z1⟩,z2,z3,z4⟩:=id S4;have ls4:(aw (aw ol n { itn with tx:=þ++ÿ }) m { itm2 with tx:="" }).length=ç:=(dM hlm2).trans ls2;generalize hO4:aw (aw ol n { itn with tx:=þ++ÿ }) m { itm2 with tx:="" }=ol4 at O3 R4 ls4;refine#[_,rfl,p,C,dx4,_,_,rfl,z1,T.cl,T.nH,bz _ _,d,kvs4,rfl,.inl z2,λl ks gl hk=>#[l,rfl,#[_,Pu ac],?_]];have wl:=ad gl Ď;have el:upd H4 l Ď l=some Ď:=ac;have nld:l≠d:=λz=>by rw[z,z2]at gl;cases gl
 have O5:PlainAt C á p d g kvs4 gvs4:=S4.same wl;have R5:Rows á kvs4 ol4:=R4.ts (Ps wl);have hk5:dO á kvs4 ks:=GL hk (Ps wl);have b5:But d H á:=b3.trans (But.of wl);have nb5:=wl _ _ (t4 _ _ hnb);have mb5:=wl _ _ (t4 _ _ hmb);generalize upd H4 l Ď=H5 at el O5 R5 hk5 b5 nb5 mb5 ⊢;have lks:=CS hk5;refine eh (K:=K) (a:=l) (xs:=ks) (λi Z H'=>But d H5 H'/\∃(kvs':Py) (ol':Ol) (o4:Option V),PlainAt C H' p d g kvs' gvs4/\Rows H' kvs' ol'/\kvs'.map (·.1)=kvs4.map (·.1)/\ol'.length=ç/\((∀x,nk x∈(kvs4.map (·.1)).take i->look ol' x=(look ol4 x).map į)/\∀x,¬nk x∈(kvs4.map (·.1)).take i->look ol' x=look ol4 x)/\Z=[some ę,some (.ref nb),some (.ref mb),some (.str (þ++ÿ)),o4])
  #[But.of (Same.refl _),kvs4,ol4,none,O5,R5,rfl,ls4,#[λx h=>by simp at h,λ_ _=>rfl],rfl] (λi Z H' _ z=>Pu (z.1 _ _ el nld)) ?_ ?_
 .rintro i v Z H' hv ⟨bt,kvs',ol',o4,S',R',hk',ll,⟨j1,j2⟩,rfl⟩ DL hDL;have tt:=bt.ts O5.dc;obtain⟨⟨dx',x1⟩,x2,x3,x4⟩:=id S';exists[k,k1,vb',rfl,k2],CQ hk5 hv;exists[c,it,rfl,hc],yp R' (by rw[hk'];exact Z2 k1);exists[cv,c1,ca,uc,pc,rfl,c2,c3,c4],aV R' hc;exists[p1,p2,p3],kZ c3;exists[r1,r2,r3],kZ (u:=some m) (v:=.ref mb) #[mb,rfl,tt _ _ mb5];have stp:∀ol'':Ol,Þ->_:=λol'' ho=>qV k1 j1 j2 hc ho;refine#[_,rfl,p,C,dx',_,_,rfl,x1,T.cl,T.nH,bz _ _,_,rfl,d,.ref ca,rfl,c1▸DGet.t (k:=nk c) x2 ű,ca,_,_,_,rfl,rfl,Pt c2,at0,_,rfl,_,_,p1,r1,bO p2 ∅,bO r2 ∅,_,rfl,?_];have lk':=bT R';rw[pM];refine kf Ÿ Ÿ
  .refine#[_,rfl,p,dx',_,rfl,x1,dD _ _,_,rfl,_,rfl,sz rfl,λvc gvc=>?_];have wc:=ad gvc (.tup [.ref nb]);refine#[p,d,g,ca,vc,kvs',gvs4,_,nk c,0,_,_,rfl,S'.same wc,#[vb',rfl,wc _ _ ű],∅,c1,wc _ _ c2,ac,show 0+1<=6 by decide,show 6<=100 by decide,λt6 H6 s6 e7=>?_];have s56:Same H' H6:=wc.trans s6;have hi:ItAt H6 ň { it with up:=some n }:=#[t6,.ref nb,pc,rfl,e7,#[nb,rfl,s56 _ _ (tt _ _ nb5)],c4.ts (Ps s56)]
   have td:TS H6 (upd H6 d (.dT (aS kvs' Ż ň))):=kX (s56 _ _ x2);have er:cP n m it={ it with up:=some n }:=by unfold cP;rw[Pb eu]
   exact hDL _ _ #[bt.trans (But.put s56 _),aS kvs' Ż ň,aw ol' c { it with up:=some n },_,(S'.same s56).put,Rows.ts (fV (Rows.ts R' (Ps s56)) hi) td,by rw[xL (qm c1)];exact hk',by rw[dM hc];exact ll,stp _ λx=>by rw[ay,er],rfl]
  .refine hDL _ _ #[bt,kvs',ol',_,S',R',hk',ll,stp ol' λx=>?_,rfl];by_cases e:x=c
   .rw[Pb e,e,hc];unfold cP;rw[Pa eu]
   .rw[Pa e]
 .rintro Z H' ⟨bt,kvs',ol',o4,S',R',hk',ll,⟨j1,j2⟩,rfl⟩;refine q H' ol' (b5.trans bt) #[kvs',gvs4,S',R'] #[ll,xU R' R4 hk' (by rw[<-hO4,cD,Pb (by rw[hlm2];rfl),cD,Pb (by rw[hln];rfl)]),itm2,hlm2,λx=>?_];rw[hO4];have ee:(kvs4.map (·.1)).take ź=kvs4.map (·.1):=by rw[Yt];rw[Zd,lks];exact Ze _
  rw[ee]at j1 j2;by_cases hx:nk x∈kvs4.map (·.1)
  .exact j1 x hx
  .rw[j2 x hx];have:=ir (n:=x) R4;rw[jc hx]at this;cases e:look ol4 x with
   |none=>rfl
   |some it=>rw[e]at this;cases this
def All3(H:Hp)(kvs:Py)(ws:ć)(ps:Pz)(bs:Ó):Prop:=∀(i:ħ) (w:Ĭ) (v:V) (b:Bool),ws[i]?=some w->ps[i]?=some v->bs[i]?=some b->PartB H kvs w v b
theorem All3.nil:All3 H kvs [] [] []:=λi w v b h=>by simp at h
theorem All3.cons{H:Hp}{kvs:Py}{ws:ć}{ps:Pz}{bs:Ó}{w:Ĭ}{v:V}{b:Bool}(h:Ł)(t:All3 H kvs ws ps bs):All3 H kvs (w::ws) ĩ (b::bs):=λi w' v' b' h1 h2 h3=>by
 cases i with
 |zero=>cases h1;cases h2;cases h3;exact h
 |succ i=>exact t i _ _ _ h1 h2 h3
def M7(ws:ć)(bs:Ó):Prop:=∀(i:ħ) (w:Ĭ),ws[i]?=some w->isI w->bs[i]?=some true
def upB(ol:Ol):Option Nm->Bool
 |none=>true
 |some n=>(look ol n).isSome
section
theorem KR(R:Ñ)(h:Ă):PartB H kvs "new" v ô:=#[λ_=>#[nk n,h,by rw[ir R]],λz=>absurd z ⋯]
theorem IE(R:Ñ)(h:Ă):PartB H kvs "item" v (look ol n).isSome:=#[λz=>absurd z ⋯,λ_=>.inr #[nk n,h,by rw[ir R]]]
theorem Mz(R:Ñ)(h:ě):PartB H kvs "up" v (upB ol u):=#[λz=>absurd z ⋯,λ_=>by
 cases u with
 |none=>exact .inl #[h,rfl]
 | some n=>exact .inr #[nk n,h,by rw[ir R];rfl]]
theorem KS{w:Ĭ}(h1:w≠"new")(h2:¬isI w):PartB H kvs w v true:=#[λz=>absurd z h1,λz=>absurd z h2]
#check 0
theorem CM:isI "item":=.inl rfl
theorem Ki:isI "up":=.inr rfl
theorem mQ{w:Ĭ}(h:w="place"\/w="text"\/w="truth"\/w="whom"\/w="at"):w≠"new"/\¬isI w:=by rcases h with rfl|rfl|rfl|rfl|rfl<;>exact#[⋯,by unfold isI;decide +kernel]
theorem M5:¬isI "new":=by unfold isI;decide +kernel
theorem LW:¬(("item":Str)="new")/\¬(("up":Str)="new"):=⋯
inductive Prt(H:Hp)(ol:Ol):List Str->Pz->List Bool->List Nm->List Nm->Prop
 |nil:Prt H ol [] [] [] [] []
 |item {v:V} {n:Nm} {ws:List Str} {ps:Pz} {bs:Ó} {is ns:Ĩ} (h:Ă) (t:Ê):Prt H ol ("item"::ws) ĩ ((look ol n).isSome::bs) (n::is) ns
 |up {v:V} {u:Option Nm} {ws:List Str} {ps:Pz} {bs:Ó} {is ns:Ĩ} (h:ě) (t:Ê):Prt H ol ("up"::ws) ĩ (upB ol u::bs) (Ŏ++is) ns
 |new {v:V} {n:Nm} {ws:List Str} {ps:Pz} {bs:List Bool} {is ns:Ĩ} (h:Ă) (t:Ê):Prt H ol ("new"::ws) ĩ (ô::bs) is (n::ns)
 |oth {w:Str} {v:V} {ws:List Str} {ps:Pz} {bs:Ó} {is ns:Ĩ} (h:w≠"new"/\¬isI w) (t:Ê):Prt H ol (w::ws) ĩ (true::bs) is ns
theorem Prt.all(R:Ñ){bs:Ó}(h:Ê):All3 H kvs ws ps bs/\Ļ=ö/\ļ=ö:=by
 induction h with
 |nil=>exact#[.nil,rfl,rfl]
 |item h _ ih=>exact#[.cons (IE R h) ih.1,ZO (·+1) ih.2.1,ZO (·+1) ih.2.2]
 |up h _ ih=>exact#[.cons (Mz R h) ih.1,ZO (·+1) ih.2.1,ZO (·+1) ih.2.2]
 |new h _ ih=>exact#[.cons (KR R h) ih.1,ZO (·+1) ih.2.1,ZO (·+1) ih.2.2]
 |oth h _ ih=>exact#[.cons (KS h.1 h.2) ih.1,ZO (·+1) ih.2.1,ZO (·+1) ih.2.2]
def iD(ol:Ol)(n:Nm):Bool:=(look ol n).isNone
theorem Prt.news{bs:Ó}(h:Ê):(∀i:Nat,ws[i]?=some "new"->bs[i]?=some false->∃n∈ns,(look ol n).isSome=true)/\((∀i:Nat,ws[i]?=some "new"->bs[i]?=some true)->∀n∈ns,look ol n=none):=by
 induction h with
 |nil=>exact#[(λi e=>by simp at e),Ĥ]
 |item h _ ih =>
  refine#[λi e1 e2=>?_,λz=>ih.2 λi e=>z Đ e];cases i with
  |zero=>exact absurd ŧ LW.1
  |succ i=>exact ih.1 i e1 e2
 |up h _ ih =>
  refine#[λi e1 e2=>?_,λz=>ih.2 λi e=>z Đ e];cases i with
  |zero=>exact absurd ŧ LW.2
  |succ i=>exact ih.1 i e1 e2
 |@new v n ws ps bs is ns h _ ih =>
  refine#[λi e1 e2=>?_,λz m hm=>?_]
  .cases i with
   |zero =>have e2:ô=false:=Zo e2;exact#[n,Zq,by rw[Bool.not_eq_false']at e2;exact e2]
   |succ i =>exists[m,h1,h2],ih.1 i e1 e2;exact#[m,Zj _ h1,h2]
  .rcases Zg.mp hm with rfl|hm
   .have e2:(!(look ol m).isSome)=true:=Zo (z 0 rfl);cases c:look ol m with
    |none=>rfl
    |some x=>rw[c]at e2;cases e2
   .exact ih.2 (λi e=>z Đ e) m hm
 |oth h _ ih =>
  refine#[λi e1 e2=>?_,λz=>ih.2 λi e=>z Đ e];cases i with
  |zero=>exact absurd ŧ h.1
  |succ i=>exact ih.1 i e1 e2
theorem Prt.items{bs:Ó}(h:Ê):(M7 ws bs->∀n∈is,(look ol n).isSome=true) /\
  ∀(i:ħ) (w:Ĭ) (v:V),ws[i]?=some w->ps[i]?=some v->isI w->bs[i]?=some false->Ø->∃n,is.find? (iD ol)=some n/\NameIs H v Ì:=by
 induction h with
 |nil=>exact#[Ĥ,(λi w v e=>by simp at e)]
 |@item v n ws ps bs is ns h _ ih =>
  refine#[λz m hm=>?_,λi w v' e1 e2 hi e3 pre=>?_]
  .rcases Zg.mp hm with rfl|hm
   .exact Zo (z 0 _ rfl CM)
   .exact ih.1 ė m hm
  .cases i with
   |zero =>
    cases e2;have e3:(look ol n).isSome=false:=Zo e3;refine#[n,?_,h];rw[List.find?_cons_of_pos];unfold iD;cases c:look ol n with
    |none=>rfl
    |some x=>rw[c]at e3;cases e3
   |succ i =>
    exists[m,h1,h2],ih.2 i w v' e1 e2 hi e3 λj w' hj e hw=>pre ŵ w' ∅ e hw;have p0:(look ol n).isSome=true:=Zo (pre 0 _ ∅ rfl CM);refine#[m,?_,h2];rw[List.find?_cons_of_neg]
    .exact h1
    .unfold iD;cases c:look ol n with
     |none=>rw[c]at p0;cases p0
     |some x=>intro z;cases z
 |@up v u ws ps bs is ns h _ ih =>
  refine#[λz m hm=>?_,λi w v' e1 e2 hi e3 pre=>?_]
  .rcases ZC.mp hm with hm|hm
   .cases u with
    |none=>exact nomatch hm
    |some x =>
     obtain rfl:m=x:=by simpa using hm
     exact Zo (z 0 _ rfl Ki)
   .exact ih.1 ė m hm
  .cases i with
   |zero =>
    cases e2;cases u with
    |none=>cases e3
    |some x =>
     have e3:(look ol x).isSome=false:=Zo e3;refine#[x,?_,h];show List.find? _ (x::is)=_;rw[List.find?_cons_of_pos];unfold iD;cases c:look ol x with
     |none=>rfl
     |some y=>rw[c]at e3;cases e3
   |succ i =>
    exists[m,h1,h2],ih.2 i w v' e1 e2 hi e3 λj w' hj e hw=>pre ŵ w' ∅ e hw;have p0:upB ol u=true:=Zo (pre 0 _ ∅ rfl Ki);refine#[m,?_,h2];cases u with
    |none=>exact h1
    |some x =>
     have p0:(look ol x).isSome=true:=p0;show List.find? _ (x::is)=_;rw[List.find?_cons_of_neg]
     .exact h1
     .unfold iD;cases c:look ol x with
      |none=>rw[c]at p0;cases p0
      |some y=>intro z;cases z
 |new h _ ih =>
  refine#[λz=>ih.1 λi w e hw=>z Đ w e hw,λi w v' e1 e2 hi e3 pre=>?_];cases i with
  |zero=>cases e1;exact absurd hi M5
  |succ i=>exact ih.2 i w v' e1 e2 hi e3 λj w' hj e hw=>pre ŵ w' ∅ e hw
 |oth h _ ih =>
  refine#[λz=>ih.1 λi w e hw=>z Đ w e hw,λi w v' e1 e2 hi e3 pre=>?_];cases i with
  |zero=>cases e3
  |succ i=>exact ih.2 i w v' e1 e2 hi e3 λj w' hj e hw=>pre ŵ w' ∅ e hw
theorem LG{st:Pg}(h:ù):∃(wd:Ĭ) (ws:ć) (ps:Pz) (bs:Ó),H st=some ī/\PyProof.Rows.KTD.datumAt wd ST=some (tw ws)/\Prt H ol ws ps bs s.items ŏ:=by
 have wp:=mQ (w:="place") (.inl rfl);have wt:=mQ (w:="text") Ć;have wr:=mQ (w:="truth") (.inr Ć);have ww:=mQ (w:="whom") (.inr (.inr Ć));have wa:=mQ (w:="at") (.inr (.inr (.inr (.inr rfl))));cases s with
 |put n u pl tx =>exists[nv,uv,pv,h1,h2,h3,h4],h;have:=Prt.up (ol:=ol) h3 (.oth (v:=pv) wp (.oth (v:=.str tx) wt .nil));rw[ZD]at this;exact#[_,_,_,_,h1,rfl,.new h2 this]
 |move n u pl =>exists[nv,uv,pv,h1,h2,h3,h4],h;have:=Prt.up (ol:=ol) h3 (.oth (v:=pv) wp .nil);rw[ZD]at this;exact#[_,_,_,_,h1,rfl,.item h2 this]
 |write n tx =>exists[nv,h1,h2],h;exact#[_,_,_,_,h1,rfl,.item h2 (.oth wt .nil)]
 |mark n b =>exists[nv,h1,h2],h;exact#[_,_,_,_,h1,rfl,.item h2 œ]
 |due n b =>exists[nv,h1,h2],h;exact#[_,_,_,_,h1,rfl,.item h2 (.oth ww .nil)]
 |fold n b =>exists[nv,h1,h2],h;exact#[_,_,_,_,h1,rfl,.item h2 œ]
 |part n a m pl =>exists[nv,mv,pv,h1,h2,h3,h4],h;exact#[_,_,_,_,h1,rfl,.item h2 (.oth wa (.new h3 (.oth wp .nil)))]
 |join n m =>exists[nv,mv,h1,h2,h3],h;exact#[_,_,_,_,h1,rfl,.item h2 (.item h3 .nil)]
 |gone n =>exists[nv,h1,h2],h;exact#[_,_,_,_,h1,rfl,.item h2 .nil]
inductive Out
 |taken
 |none (n:Nm)
 |beneath
 |far
 |ok
def Gy:Option Bool->Out
 |some true=>.beneath
 |some false=>.far
 |none=>.ok
inductive Due(ol:Ol)(s:Sd):Out->Prop
 |taken (n:Nm) (h:n∈ŏ) (t:(look ol n).isSome=true):Due ol s .taken
 |none (n:Nm) (h:∀m∈ŏ,look ol m=none) (f:s.items.find? (iD ol)=some n):Due ol s (.none n)
 |bd (r:Option Bool) (h:∀m∈ŏ,look ol m=none) (i:∀m∈s.items,(look ol m).isSome=true) (b:ŋ):Due ol s (Gy r)
def JL(d g:Pg)(H H':Hp):Prop:=∀b o,H b=some o->b≠d->b≠g->H' b=some o
def Bc(gs:As Unit):Sd->As Unit
 |.gone n=>aw gs n ()
 |_=>gs
theorem mj(h:∀n,s≠.gone n):Bc gs s=gs:=by cases s<;>first|rfl|exact absurd rfl (h _)
theorem GoneAt.but(x:Ġ)(b:ĸ)(ne:d≠g):GoneAt H' g gs:=by exists[gvs,h1,h2],x;exact#[gvs,b _ _ h1 (ZQ ne),h2]
inductive spStepA(C cT cN cB cF:Pg)(vs:Pz)(H:Hp)(Q:VK)(E:XK):Prop
 |mk (p d g st:Pg) (ol:Ol) (gs:As Unit) (s:Sd) (o:Out) (h0:æ) (h1:Ò) (h2:Ġ) (h3:ç<=63) (h4:gs.length<=63) (h5:ù) (h6:ì) (h7:Due ol s o) (h8:(o=.taken->∀H',Same H H'->E Ń none H')) (h9:(∀n,o=.none n->∀H' dd v,Same H H'->H' dd=some ë->NameIs H' v Ì->E ģ ń H')) (h10:(o=.beneath->∀H',Same H H'->E ņ none H')) (h11:(o=.far->∀H',Same H H'->E Ň none H')) (h12:(o=.ok->∀H' ol',JL d g H H'->OlAt C H' p d g ol'->GoneAt H' g (Bc gs s)->Ap ol s ol'->Q .non H')):spStepA C cT cN cB cF vs H Q E
abbrev kM:Stmt:=cU ä 1
abbrev wP:List Str:=["self","step","word"]
theorem nY:FnScope wP ["self","step"] (aq kM):= ~~~0
theorem ue(F:Fun K "step" "Plain.step" kM f fd)(a7:í)(p6:↑MFnX 3 C "check_names" ["self","step"] Ķ)(l5:↑MFnX 2 C "check_bounds" ["self","step"] ĳ)(j7:Ô)(NO:↑MFn 2 C "part_item" ["self","name","at","new","place"] ů)(v3:↑MFn 2 C "join_items" ["self","name","other"] Ű)(d8:É){dd:Pg}(l7:mg "FIRST_CHANGED" = some Ž)(TF:Tab K dd FC):↑FnOk Ņ 4 f fd ["self","step"] (spStepA C cT cN cB cF):=by
 refine F.okX nY Ą Õ
 .exists[p,d,g,st,ol,gs,sd,o,rfl,_],h;rfl
 exists[p,d,g,st,ol,gs,sd,o,rfl,O,G,l3,lg,hs,htx,du,qT,qN,qB,qF,q],h;exists[kvs,gvs,S,R],id O;obtain⟨⟨dx,h1⟩,h2,h3,h4⟩:=id S;have lk:=bT R;exists[wd,ws,ps,bs,hst,dat,pr],LG (ol:=ol) hs;exists[a3,l1,l2],pr.all R;exists[n1,n2],pr.news;exists[i1,i2],pr.items;exists _,(b_c (bh (mE p6 (GR fg) ↑99 ↑0 ĝ))
   (b_c (bh (mE l5 (GR fg) ↑99 ↑0 ĝ))
   (b_c (aC (i:=2) nY.nd À)
   (b_1 (aZ ó (b_1 (bh (eC j7 ↑99 ↑0 õ))) (b_1 (aZ ó (b_1 (bh (eC NO ↑99 ↑0 õ))) (b_1 (aZ ó (b_1 (bh (eC v3 ↑99 ↑0 (q_a À ū)))) (b_1 (aZ ó (b_1 (eE Ú Ü À iE)) (b_1 (bh (eC d8 ↑99 ↑0 (q_a À (q_a (am Hg (Lp l7) ↑2) Ý))))))))))))))))
 refine#[_,rfl,p,dx,_,rfl,h1,dD _ _,_,rfl,p,d,g,st,kvs,gvs,wd,ws,ps,bs,rfl,S,hst,dat,l1,l2,a3,fun⟨i,e1,e2⟩=>?_,λnn=>#[λall H1 s1=>?_,λi w' v e1 e2 hi e3 pre H' dd sm hd=>?_]]
 .exists[n,hn,hl],n1 i e1 e2;have no:∀{A:Prop},(∀m∈sd.news,look ol m=none)->A:=λh=>by rw[h n hn]at hl;cases hl
  cases du with
  |taken m h t=>exact qT rfl
  |none m h f=>exact no h
  |bd r h i b=>exact no h
 .have nn:=n2 nn;have ii:=i1 all;cases du with
  |taken m h t =>rw[nn m h]at t;cases t
  |none m h f =>
   have:=ii m (List.mem_of_find?_eq_some f);have z:=List.find?_some f;unfold iD at z;cases c:look ol m with
   |none=>rw[c]at this;cases this
   |some x=>rw[c]at z;cases z
  |bd r h i bdx =>
   have hs1:=hs.ts (Ps s1);refine#[_,rfl,p,dx,_,rfl,s1 _ _ h1,dD _ _,_,rfl,p,d,g,st,ol,sd,r,rfl,O.same s1,hs1,bdx,htx,λe=>?_,λe=>?_,λe=>?_]
   .subst e;exact qB rfl H1 s1
   .subst e;exact qF rfl H1 s1
   subst e;have q':(∀n,sd≠.gone n)->∀H' ol',But d H H'->OlAt C H' p d g ol'->Ap ol sd ol'->Q .non H':=λng H' ol' bt o' ap=>q rfl H' ol' (λb o e n _=>bt b o e n) o' (by rw[mj ng];exact G.but bt h4) ap;have S1:=S.same s1;have R1:=R.ts (Ps s1);have y1:=s1 _ _ h1;have ch:∀{n:Nm} {it:It} {ia:Pg} {xs:Pz},look ol n=some it->∃ia uv pv,bc kvs Ì=some (.ref ia)/\H1 ia=some â/\UpAt H1 uv Ĝ/\PlAt H1 pv it.pl:=fun{n it _ _} hl=>by exists[iv,e1,ia,uv,pv,rfl,e2,e3,e4],aV R1 hl;exact#[ia,uv,pv,e1,e2,e3,e4]
   cases sd with
   |put n u pl tx =>exists[nv,uv,pv,hst,hn,hu,hp],hs1;have e1:=Pt (K:=K) hst;refine Ç;refine#[_,rfl,rfl,_,rfl,di ?_];exact#[_,rfl,p,dx,_,rfl,y1,dD _ _,vix rfl e1 at1 (vix rfl e1 at2 (vix rfl e1 at3 (vix rfl e1 at4 #[p,d,g,kvs,gvs,nv,uv,pv,.str tx,nk n,rfl,S1,hn,∅,λt H2 s2 e2=>q' nofun _ _ (But.put (s1.trans s2) _) (gJ S1 R1 s2 #[t,uv,pv,rfl,e2,hu.ts (Ps s2),hp.ts (Ps s2)]) .put])))]
   |part n a m pl =>exists[nv,mv,pv,hst,hn,hm,hp],hs1;have e1:=Pt (K:=K) hst;exists[it,hl],Zv.mp Æ;refine Ç;refine#[_,rfl,rfl,_,rfl,aL ⋯ ?_];refine#[_,rfl,rfl,_,rfl,di ?_];exact#[_,rfl,p,dx,_,rfl,y1,dD _ _,vix rfl e1 at1 (vix rfl e1 at2 (vix rfl e1 at3 (vix rfl e1 at4 #[p,d,g,ol,nv,mv,pv,n,m,a,pl,it,rfl,O.same s1,hn,hm,hp,hl,∅,by have:=htx n it hl;omega,λH2 b2 o2=>q' nofun _ _ ĥ o2 (.part hl)])))]
   |join n m =>exists[nv,mv,hst,hn,hm],hs1;have e1:=Pt (K:=K) hst;exists[itn,hln],Zv.mp Æ;exists[itm,hlm],Zv.mp (i m (by simp[Sd.items]));refine Ç;refine#[_,rfl,rfl,_,rfl,aL ⋯ ?_];refine#[_,rfl,rfl,_,rfl,aL ⋯ ?_];refine#[_,rfl,rfl,_,rfl,di ?_];have:=htx n itn hln;have:=htx m itm hlm;exact#[_,rfl,p,dx,_,rfl,y1,dD _ _,vix rfl e1 at1 (vix rfl e1 at2 #[p,d,g,ol,nv,mv,n,m,itn,itm,rfl,O.same s1,hn,hm,hln,hlm,∅,∅,λH2 ol' b2 o2 ll=>q' nofun _ _ ĥ o2 (.join hln hlm ll)])]
   |move n u pl =>exists[nv,uv,pv,hst,hn,hu,hp],hs1;have e1:=Pt (K:=K) hst;exists[it,hl],Zv.mp Æ;exists[ia,uw,pw,c1,c2,c3,c4],ch (ia:=st) (xs:=[]) hl;refine Ç;refine#[_,rfl,rfl,_,rfl,aL ⋯ ?_];refine#[_,rfl,rfl,_,rfl,aL ⋯ ?_];refine#[_,rfl,rfl,_,rfl,aL ⋯ ?_];refine#[_,rfl,rfl,_,rfl,aL ⋯ ?_];refine#[_,rfl,p,dx,_,rfl,y1,dD _ _,vix rfl e1 at1 #[_,rfl,dd,"move",FC,_,rfl,rfl,TF,rfl,?_]];refine#[_,rfl,_,rfl,st,_,rfl,hst,λva H2 s2 e2=>?_];exact#[p,d,g,ia,va,kvs,gvs,nv,nk n,0,_,[uv,pv],rfl,S1.same s2,hn.same s2,∅,c1,s2 _ _ c2,e2,show 0+2<=6 by decide,show 6<=100 by decide,λt H3 s3 e3=>q' nofun _ _ Í (gJ (it:={ it with up:=u,pl:=pl }) S1 R1 Â #[t,uv,pv,rfl,e3,hu.ts ï,hp.ts ï]) (.move hl)]
   |write n tx =>exists[nv,hst,hn],hs1;have e1:=Pt (K:=K) hst;exists[it,hl],Zv.mp Æ;exists[ia,uw,pw,c1,c2,c3,c4],ch (ia:=st) (xs:=[]) hl;refine Ç;refine#[_,rfl,rfl,_,rfl,aL ⋯ ?_];refine#[_,rfl,rfl,_,rfl,aL ⋯ ?_];refine#[_,rfl,rfl,_,rfl,aL ⋯ ?_];refine#[_,rfl,rfl,_,rfl,aL ⋯ ?_];refine#[_,rfl,p,dx,_,rfl,y1,dD _ _,vix rfl e1 at1 #[_,rfl,dd,"write",FC,_,rfl,rfl,TF,rfl,?_]];refine#[_,rfl,_,rfl,st,_,rfl,hst,λva H2 s2 e2=>?_];exact#[p,d,g,ia,va,kvs,gvs,nv,nk n,2,_,[_],rfl,S1.same s2,hn.same s2,∅,c1,s2 _ _ c2,e2,show 2+1<=6 by decide,show 6<=100 by decide,λt H3 s3 e3=>q' nofun _ _ Í (gJ (it:={ it with tx:=tx }) S1 R1 Â #[t,uw,pw,rfl,e3,c3.ts ï,c4.ts ï]) (.write hl)]
   |mark n b =>exists[nv,hst,hn],hs1;have e1:=Pt (K:=K) hst;exists[it,hl],Zv.mp Æ;exists[ia,uw,pw,c1,c2,c3,c4],ch (ia:=st) (xs:=[]) hl;refine Ç;refine#[_,rfl,rfl,_,rfl,aL ⋯ ?_];refine#[_,rfl,rfl,_,rfl,aL ⋯ ?_];refine#[_,rfl,rfl,_,rfl,aL ⋯ ?_];refine#[_,rfl,rfl,_,rfl,aL ⋯ ?_];refine#[_,rfl,p,dx,_,rfl,y1,dD _ _,vix rfl e1 at1 #[_,rfl,dd,"mark",FC,_,rfl,rfl,TF,rfl,?_]];refine#[_,rfl,_,rfl,st,_,rfl,hst,λva H2 s2 e2=>?_];exact#[p,d,g,ia,va,kvs,gvs,nv,nk n,3,_,[_],rfl,S1.same s2,hn.same s2,∅,c1,s2 _ _ c2,e2,show 3+1<=6 by decide,show 6<=100 by decide,λt H3 s3 e3=>q' nofun _ _ Í (gJ (it:={ it with dn:=b }) S1 R1 Â #[t,uw,pw,rfl,e3,c3.ts ï,c4.ts ï]) (.mark hl)]
   |due n b =>exists[nv,hst,hn],hs1;have e1:=Pt (K:=K) hst;exists[it,hl],Zv.mp Æ;exists[ia,uw,pw,c1,c2,c3,c4],ch (ia:=st) (xs:=[]) hl;refine Ç;refine#[_,rfl,rfl,_,rfl,aL ⋯ ?_];refine#[_,rfl,rfl,_,rfl,aL ⋯ ?_];refine#[_,rfl,rfl,_,rfl,aL ⋯ ?_];refine#[_,rfl,rfl,_,rfl,aL ⋯ ?_];refine#[_,rfl,p,dx,_,rfl,y1,dD _ _,vix rfl e1 at1 #[_,rfl,dd,"due",FC,_,rfl,rfl,TF,rfl,?_]];refine#[_,rfl,_,rfl,st,_,rfl,hst,λva H2 s2 e2=>?_];exact#[p,d,g,ia,va,kvs,gvs,nv,nk n,4,_,[_],rfl,S1.same s2,hn.same s2,∅,c1,s2 _ _ c2,e2,show 4+1<=6 by decide,show 6<=100 by decide,λt H3 s3 e3=>q' nofun _ _ Í (gJ (it:={ it with wh:=b }) S1 R1 Â #[t,uw,pw,rfl,e3,c3.ts ï,c4.ts ï]) (.due hl)]
   |fold n b =>exists[nv,hst,hn],hs1;have e1:=Pt (K:=K) hst;exists[it,hl],Zv.mp Æ;exists[ia,uw,pw,c1,c2,c3,c4],ch (ia:=st) (xs:=[]) hl;refine Ç;refine#[_,rfl,rfl,_,rfl,aL ⋯ ?_];refine#[_,rfl,rfl,_,rfl,aL ⋯ ?_];refine#[_,rfl,rfl,_,rfl,aL ⋯ ?_];refine#[_,rfl,rfl,_,rfl,aL ⋯ ?_];refine#[_,rfl,p,dx,_,rfl,y1,dD _ _,vix rfl e1 at1 #[_,rfl,dd,"fold",FC,_,rfl,rfl,TF,rfl,?_]];refine#[_,rfl,_,rfl,st,_,rfl,hst,λva H2 s2 e2=>?_];exact#[p,d,g,ia,va,kvs,gvs,nv,nk n,5,_,[_],rfl,S1.same s2,hn.same s2,∅,c1,s2 _ _ c2,e2,show 5+1<=6 by decide,show 6<=100 by decide,λt H3 s3 e3=>q' nofun _ _ Í (gJ (it:={ it with fo:=b }) S1 R1 Â #[t,uw,pw,rfl,e3,c3.ts ï,c4.ts ï]) (.fold hl)]
   |gone n =>
    exists[nv,hst,hn],hs1;have e1:=Pt (K:=K) hst;exists[nb,rfl,hnb],id hn;exists[gvs',hg',Rg],id G;have eg:gvs'=gvs:=by rw[h3]at hg';injection hg' with hg';injection hg' with hg';exact hg'.symm
    subst eg;have lgv:=bT Rg;refine Ç;refine#[_,rfl,rfl,_,rfl,aL ⋯ ?_];refine#[_,rfl,rfl,_,rfl,aL ⋯ ?_];refine#[_,rfl,rfl,_,rfl,aL ⋯ ?_];refine#[_,rfl,rfl,_,rfl,di ?_];refine#[_,rfl,p,C,dx,_,_,rfl,y1,a7.cl,a7.nA,vd _ _,vix rfl e1 at1 #[g,_,rfl,DPut.t (k:=nk n) Ų hnb Ŗ,?_]];have tg:=kX (kvs':=aS gvs' Ì Ŷ) Ų;obtain⟨⟨dx1,z1⟩,z2,z3,z4⟩:=id S1;refine q rfl _ ol (λb o e n1 n2=>by rw[af n2];exact s1 _ _ e) #[kvs,_,#[#[dx1,by rw[af (dI z1 z3 nofun)];exact z1],by rw[af z4];exact z2,ac,z4],R1.ts tg] #[_,ac,fV Rg rfl] .gone
 .exists[n,f,hn],i2 i w' v e1 e2 hi e3 pre;have nn:=n2 nn;cases du with
  |taken m h t =>rw[nn m h]at t;cases t
  |none m h f' =>rw[f]at f';cases f';exact qN n rfl H' dd v sm hd (hn.same sm)
  |bd r h i b =>
   have:=i n (List.mem_of_find?_eq_some f);have z:=List.find?_some f;unfold iD at z;cases c:look ol n with
   |none=>rw[c]at this;cases this
   |some x=>rw[c]at z;cases z
end
mutual
#check#[(∃L:List Nm,L.Nodup/\(∀x,(look ol x).isSome=true↔x∈L)/\(L.map (wt ol)).sum<=B),(if false=true then !inV (V.str wd.word) [.str "take",.str "back"]else inV (V.str wd.word) [.str "take",.str "back"]),it.tx.length,(ad gu _),(if(0:Int)>a then 0 else a),(q_a ↑0 ai),(gH (bq (aT ⋯) aK (bq (aT ⋯) aK (bq (aT ⋯) aK fB bG) (bZ aK bG)) (bZ aK (bZ aK bG)))),(am ao ↑0 ah),(#[rfl,⋯,⋯,rfl,trivial]:CompOk _ _ [] []),(vix rfl e1 at0 (BU rfl e1 at2 (Pt h5) at1 #[sz rfl,λt g=>q t _ (ad g _) ac])),(aw ol n it'),(vix rfl e5 at0 #[rfl,_,rfl,aL w1 ?_]),(some ((a.toNat:Nat):Int)),ds.length,(OlE C H p d g ol),(ad gt _),(vix rfl e5 at0 #[rfl,_,rfl,di ?_]),(↑Fn 1 "is_turn" ["deed"] spIsTurn),(↑Fn 1 "name_of" ["deed"] spNameOf),(am ao ↑2 ah),(aQ ds),(rs.map D),(ds.take i),0,(↑MFnX 4 C "step" ["self","step"] (spStepF C cN cB cF)),(by simp[Sd.items]),(aw ol n it),(d.1,if turned d∈tn then"turn" else"done",none),(H l=some (.lst xs)),(cQ n wd=some s),(nk n),(Paired.mapP pz λ_ _ z=>z.ts (Ps (ad gb _))),(Runs ts tn ol (d::ds) rs),(JoinR ol n m itn itm ol'),(aO a6 ↑99 Å),(((But.of s03).trans b4).trans (But.of Ï)),wd.word,(.lst ys),(∀ n∈s.items,(look ol n).isSome=true),(cY h2),(.tup [.str "put",nv,.non,pv',.str tx]),(dg _),(Paired.mapP pz λ_ _ z=>z.ts (Ps Ã)),(↑Fn 1 "turned_name" ["deed"] spTurned),ys.length,(λ_=>(b_1 (aG ar))),(s78.trans Ã),(vix rfl e5 at0 #[sz rfl,λu gu=>?_]),(.ref a),(YC _ _),(.lst []),(hM (eC Oh ↑99 ↑1 (q_a Ó ai))),(∀s,cQ d.1 d.2=some s->Ready ol s),(q_a ↑3 ai),(wu.trans Ï),0,(∀zs H4,Pv (i+1) zs H4->Y zs H4),(↑Fn 7 "played" ["ready"] spPlayed),(λ_ _ _ z=>z.2.1),(by rw[ay,Pb rfl]),(upd H7 to (.lst (ys++[.ref z]))),(.lst nvs),(dd.1.1,k),(look ol n=some itn),(look ol m=some itm),v.wgt,x.length,(.tup [.str "take",.str "back"]),(s1.trans (sm.trans (ad gb _))),(TS H H'),(As Dd),(look ol n=some it),t2.length,(λi zs H' z=>Pu (z.1 _ _ ea)),(aH é (aH ç (aH (A7 _) dP))),(Ps sm),(bD ds),(cR d ts=true\/d.2.isTurn=true),(if wd.mk=true then[n]else[]),(Nat),(d.1.1,k),(d.2.isTurn=false),(i+1),(q_a cz ai),(Nat.add_le_add_left ok.2 B),(am ao ↑3 ah),(∀u pl tx,wd≠.put u pl tx),(aE bW (am ao ↑1 ah) ar),(List Dd),(∀n a pl,wd≠.part n a pl),(List Nm),(s27 _ _ hto2),(d::ds),(.list Õ),(aB (q_a ar (q_a ar ai))),(∀i ys H,Pv i ys H->ì<=i),(rp H xs ds),(some n),(Inv ol B),(wd.mk=true->look ol n=none),itn.tx.length,(vix rfl (Pt h2) at2 ?_),ol.length,eI.nd,it.up,(q_a ↑2 ai),(s2.trans s3),(q_a ↑1 ai),(q_a ↑5 ai),(sm.trans Ã),(cG bK ↑1 (cg ah) cM),(cR d ts=false),(.ref cN),(.ref st),(some Ä),(Option Nm),(bJ (aO p9 ↑99 Å)),(Ter ol),(wt ol),hr.units,(s2 _ _ (s1 _ _ ha)),(by simp[Sd.news,z]),(s2 _ _ e1),(But.of s1),(O.same s1),(rs.take i),(nomatch h),(.ref l),(.put n none pl tx),(StAt H st s),(hV Ô [] ds),s.news,(.tup [.str w,sv]),(by simp[Sd.news]),xs.length,(aQ Ö),(V.str d.2.word),0,(aO d7 ↑99 Å),(.put n u pl tx),(aB (q_a ar ē)),(d.1,"off",none),(Nat->Pz->Hp->Prop),(.ref cB),(.str ä),(.dT tvs),(bJ ↑0),(aj e nx),(b_1 (aG ↑1)),(.tup [.ref t]),(sm2.trans wtl),(aH (wx h4) dP),(upd H4 to ò),(by rw[h];rfl),itm.tx.length,(.ref p),(.ref t),(nk r.1),(am ao Ç ah),(s1.trans s2),(aE bW Ó ar),(s6.trans Ã),(s78 _ _ hto),(Í<=63),(Small ol),(Und ol o k u b),(look ol n=none),i.up,(de n cap Z),(upd H p å),(ds.take Ē),(s12 _ _ ha),(spWordOf C),(s03 _ _ y2),(o4.same Ï),(ns.map nmD),(s02 _ _ hl),(ds.drop Ē),(DtAll H ds vs),mM.nd,(Pt ac),(Ps s1),(cY h3),(spHolds C),(q' H2 s12),(h u pl tx),(h2 n a pl),(q_a â ai),(But.of ö),(O.same ö),(s1 _ _ hl),(ds.drop i)]
def OlE(C:Pg)(H:Hp)(p d g:Pg)(ol:Ol):Prop:=∃kvs,PlainAt C H p d g kvs []/\Rows H kvs ol
theorem OlE.same(x:Î)(s:Same H H'):OlE C H' p d g ol:=by exists[kvs,h1,h2],x;exact#[kvs,h1.same s,h2.ts (Ps s)]
theorem OlE.ag(x:Î):OlAt C H p d g ol/\GoneAt H g []:=by exists[kvs,h1,h2],x;exact#[#[kvs,[],h1,h2],#[[],h1.3,.nil]]
theorem OlE.of(x:OlAt C H p d g ol)(y:GoneAt H g []):OlE C H p d g ol:=by obtain⟨kvs,gvs,⟨h1,h2,h3,h4⟩,R⟩:=x;exists[gvs',e,r],y;cases r;rw[h3]at e;cases e;exact#[kvs,#[h1,h2,h3,h4],R]
inductive spStepF(C cN cB cF:Pg)(vs:Pz)(H:Hp)(Q:VK)(E:XK):Prop
 | mk (p d g st:Pg) (ol:Ol) (s:Sd) (h0:vs=[.ref p,.ref st]) (h1:Î) (h2:Ħ<=63) (h3:Ł) (h4:(∀ n,s≠.gone n)) (h5:(∀ n∈Ń,look ol n=none)) (h6:(∀ n it,look ol n=some it->Â<=400)) (h7:((¬ æ/\∀ H' dd,Same H H'->E İ (some dd) H') \/
  (æ/\∃ r,Bd ol s r/\(r=some true->∀ H',Same H H'->E ŏ none H')/\(r=some false->∀ H',Same H H'->E (.ref cF) none H')/\(r=none->∀ H' ol',But d H H'->OlE C H' p d g ol'->Ap ol s ol'->Q .non H')))):spStepF C cN cB cF vs H Q E
theorem yH(M:↑MFnX 4 C "step" ["self","step"] (spStepA C cT cN cB cF)):↑MFnX 4 C "step" ["self","step"] (spStepF C cN cB cF):=by
 exists[cl,f,fd,ok,me,bi],M;refine#[cl,f,fd,ok.imp λvs H Q E h=>?_,me,bi];exists[p,d,g,st,ol,s,rfl,O,len,hs,ng,nw,tx,h],h;exists[Oa,G],O.ag;have fin:∀H' ol',JL d g H H'->OlAt C H' p d g ol'->GoneAt H' g (Bc [] s)->But d H H'/\OlE C H' p d g ol':=λH' ol' b o2 g2=>by
  rw[mj ng]at g2;refine#[λa x e n1=>?_,.of o2 g2];by_cases c:a=g
  .subst c;exists[gv,e1,r1],G;exists[gv2,e2,r2],g2;cases r1;cases r2;rw[e1]at e;rw[e2];exact e
  .exact b a x e n1 c
 have tx':∀n it,look ol n=some it->Â<=4000:=λn it hl=>Zr (tx n it hl) ⋯;rcases h with⟨nh,q⟩|⟨hh,r,hb,q1,q2,q3⟩
 .obtain⟨n,hn⟩:∃n,s.items.find? (iD ol)=some n:=by
   cases e:s.items.find? (iD ol)with
   |some n=>exact#[n,rfl]
   |none =>exfalso;refine nh λn hn=>?_;have:=List.find?_eq_none.mp e n hn;unfold iD at this;simp at this;exact Option.isSome_iff_ne_none.mpr this
  exact#[p,d,g,st,ol,[],s,.none n,rfl,Oa,G,len,ZH _,hs,tx',.none n nw hn,nofun,λm z H' dd v sm _ _=>q H' dd sm,nofun,nofun,nofun]
 .refine#[p,d,g,st,ol,[],s,Gy r,rfl,Oa,G,len,ZH _,hs,tx',.bd r nw hh hb,?_,?_,?_,?_,?_]
  .intro z;cases r with
   |none=>cases z
   |some b=>cases b<;>cases z
  .intro n z;cases r with
   |none=>cases z
   |some b=>cases b<;>cases z
  .intro z;cases r with
   |none=>cases z
   |some b =>
    cases b with
    |true=>exact q1 rfl
    |false=>cases z
  .intro z;cases r with
   |none=>cases z
   |some b =>
    cases b with
    |true=>cases z
    |false=>exact q2 rfl
  .intro z H' ol' b o2 g2 ap;exists[b',o'],fin H' ol' b o2 g2;cases r with
   |none=>exact q3 rfl H' ol' b' o' ap
   |some x=>cases x<;>cases z
inductive spHolds(C:Pg)(vs:Pz)(H:Hp)(Q:VK)(E_:XK):Prop
 |mk (p d g:Pg) (ol:Ol) (nv:V) (n:Nm) (h0:vs=[.ref p,nv]) (h1:Î) (h2:NameIs H nv Þ) (h3:Q (.bl (look ol n).isSome) H):spHolds C vs H Q E_
abbrev jB:Stmt:=cU (top 19) 9
abbrev vG:List Str:=["self","name"]
theorem uG:FnScope vG ["self","name"] (aq jB):= ~~~0
theorem ud(F:Fun K "holds" "Plain.holds" jB f fd)(T:Txt K C):↑FnOk CX0 1 f fd ["self","name"] ŷ:=by
 exists uG
 obtain⟨p,d,g,ol,nv,n,rfl,⟨kvs,S,R⟩,⟨b,rfl,hb⟩,q⟩:=h;obtain⟨⟨dx,h1⟩,h2,h3,h4⟩:=id S;exists _,(b_1 (aG (GS ķ ↑1 (cZ ↑0))))
 refine#[_,rfl,_,rfl,p,C,dx,_,_,rfl,h1,T.cl,T.nH,bz _ _,d,_,rfl,DGet.t (k:=nk n) h2 hb,?_];rw[ir R];exact q
theorem lH{X:Cx}:gE (CXr X.prog X.w) X E0:=λPr Z H s e s' I x=>by exists[ea,t,C,vs,B,H',dc,rfl,os,bare,un,hok,fly,tup,hBt,kb,dd,q],x;exact q.elim
theorem uV{J:Lake.It}{N n:ď}{g:TG}{tc:TT}{te:TE}{Q:VK}(Pv:Ŏ)(hz:N<=1000)(hn:ğ)(h0:Pv 0 [] H0)(hgo:∀i ys H,i<N->Pv i ys H->J.go i H)(hst:∀ys H,Pv N ys H->J.stop N H)(ht:∀i ys H x H',i<N->Pv i ys H->J.yld i H x H'->∀Y:Pz->Hp->Prop,ø->g x Ũ H' λσ2 H2=>tc σ2 H2 λb H3=>if b=true then te σ2 H3 λy H4=>Y (ys++[y]) H4 else Y ys H3)(hq:∀ys p H,Pv N ys H->H p=none->Q ś ũ):gQ n cap g tc te Z J H0 Q:=by
 refine#[λi m ys H=>m=N-i/\i<=N/\Pv i ys H,#[N,by simp,ZH _,h0],?_];rintro i m ys H ⟨rfl,hi,pv⟩;by_cases hlt:i<N
 .refine .inr #[hgo i ys H hlt pv,?_,λx H' y=>?_]
  .have:=hn i ys H pv;exact Nat.lt_of_le_of_lt (Zr this ∅) (show 1000<sizeLine by decide)
  .exact ht i ys H x H' hlt pv y (λys H4=>∃m',m'<N-i/\m'=N-Ē/\i+1<=N/\Pv Ē ys H4) λzs H4 z=>#[N-Ē,∅,rfl,hlt,z]
 .have e:i=N:=∅
  subst e;exact .inl #[hst ys H pv,λp hp=>hq ys p H pv hp]
inductive Wd
 |put (u:Option Nm)(pl:Pn)(tx:Str)
 |move (n:Nm)(u:Option Nm)(pl:Pn)
 |write (n:Nm)(tx:Str)
 |mark (n:Nm)(b:Bool)
 |due (n:Nm)(w:Option Int)
 |fold (n:Nm)(b:Bool)
 |part (n:Nm)(a:Int)(pl:Pn)
 |join (n m:Nm)
 |take (n:Nm)
 |back (n:Nm)
 |off (k:Int)
 |on (k:Int)
 |none
def Wd.word:Wd->Str
 |.put _ _ _=>"put"
 |.move _ _ _=>"move"
 |.write _ _=>"write"
 |.mark _ _=>"mark"
 |.due _ _=>"due"
 |.fold _ _=>"fold"
 |.part _ _ _=>"part"
 |.join _ _=>"join"
 |.take _=>"take"
 |.back _=>"back"
 |.off _=>"off"
 |.on _=>"on"
 |.none=>"none"
def Wd.isTurn:Wd->Bool
 |.off _=>true
 |.on _=>true
 |_=>false
def RsAt(H:Hp)(r:Pz):Wd->Prop
 |.put u pl tx=>∃uv pv,r=[uv,pv,.str tx]/\UpAt H uv u/\PlAt H pv pl
 |.move n u pl=>∃nv uv pv,r=[nv,uv,pv]/\NameIs H nv Þ/\UpAt H uv u/\PlAt H pv pl
 |.write n tx=>∃nv,r=[nv,.str tx]/\NameIs H nv Þ
 |.mark n b=>∃nv,r=[nv,.bl b]/\NameIs H nv Þ
 |.due n w=>∃nv,r=[nv,whV w]/\NameIs H nv Þ
 |.fold n b=>∃nv,r=[nv,.bl b]/\NameIs H nv Þ
 |.part n a pl=>∃nv pv,r=[nv,.int a,pv]/\NameIs H nv Þ/\PlAt H pv pl
 |.join n m=>∃nv mv,r=[nv,mv]/\NameIs H nv Þ/\NameIs H mv (nk m)
 |.take n=>∃nv,r=[nv]/\NameIs H nv Þ
 |.back n=>∃nv,r=[nv]/\NameIs H nv Þ
 |.off k=>r=[.int k]
 |.on k=>r=[.int k]
 |.none=>r=[]
theorem RsAt.ts(x:RsAt H r wd)(t:ą):RsAt H' r wd:=by
 cases wd with
 |put=>exists[uv,pv,h1,h3,h4],x;exact#[uv,pv,h1,h3.ts t,h4.ts t]
 |move=>exists[nv,uv,pv,h1,h2,h3,h4],x;exact#[nv,uv,pv,h1,h2.ts' t,h3.ts t,h4.ts t]
 |write=>exists[nv,h1,h2],x;exact#[nv,h1,h2.ts' t]
 |mark=>exists[nv,h1,h2],x;exact#[nv,h1,h2.ts' t]
 |due=>exists[nv,h1,h2],x;exact#[nv,h1,h2.ts' t]
 |fold=>exists[nv,h1,h2],x;exact#[nv,h1,h2.ts' t]
 |part=>exists[nv,pv,h1,h2,h4],x;exact#[nv,pv,h1,h2.ts' t,h4.ts t]
 |join=>exists[nv,mv,h1,h2,h3],x;exact#[nv,mv,h1,h2.ts' t,h3.ts' t]
 |take=>exists[nv,h1,h2],x;exact#[nv,h1,h2.ts' t]
 |back=>exists[nv,h1,h2],x;exact#[nv,h1,h2.ts' t]
 |off=>exact x
 |on=>exact x
 |none=>exact x
def WhAt(H:Hp)(wa:Pg)(wd:Wd):Prop:=∃r,H wa=some (.tup (.str ä::r))/\RsAt H r wd
abbrev Dd:=Nm×Wd
def DdAt(H:Hp)(v:V)(d:Dd):Prop:=∃(dd c wa:Pg) (cs:Pz),v=.ref dd/\H dd=some (.tup [.int d.1.1,.ref c,.ref wa])/\H c=some (.tup cs)/\atI cs d.1.1=some (.int d.1.2)/\WhAt H wa d.2
theorem DdAt.ts(x:DdAt H v d)(t:ą):DdAt H' v d:=by exists[dd,c,wa,cs,h1,h2,h3,h4,r,h5,h6],x;exact#[dd,c,wa,cs,h1,t _ _ h2,t _ _ h3,h4,r,t _ _ h5,h6.ts t]
inductive spNameOf  (vs:Pz)(H:Hp)(Q:VK)(E_:XK):Prop
 |mk (v:V) (d:Dd) (h0:vs=[v]) (h1:DdAt H v d) (h2:∀t H',Same H H'->H' t=some (.tup [.int d.1.1,.int d.1.2])->Q Ŝ H'):spNameOf  vs H Q E_
abbrev pq:Stmt:=top 13
abbrev Ca:List Str:=["deed"]
theorem BI:FnScope Ca ["deed"] (aq pq):= ~~~0
theorem Bs(F:Fun K "name_of" "name_of" pq f fd):↑FnOk CX0 1 f fd ["deed"] spNameOf:=by
 exists BI
 obtain⟨v,d,rfl,⟨dd,c,wa,cs,rfl,h2,h3,h4,r,h5,h6⟩,q⟩:=h;exists _,(b_1 (aG (aB (q_a Ç (q_a (am ao Ç Ç) ai)))))
 have e1:=Pt (K:=K) h2;exact(vix rfl e1 at0 (vix rfl e1 at1 (vix rfl e1 at0 #[c,_,_,_,rfl,rfl,Pt h3,h4,sz rfl,λt g=>q t _ (ad g _) ac])))
theorem HX(wd:Wd):inV Ő [.str "off",.str "on"]=wd.isTurn:=by cases wd<;>rfl
inductive spIsTurn  (vs:Pz)(H:Hp)(Q:VK)(E_:XK):Prop
 |mk (v:V) (d:Dd) (h0:vs=[v]) (h1:DdAt H v d) (h2:∀H',Same H H'->Q (.bl d.2.isTurn) H'):spIsTurn  vs H Q E_
abbrev oZ:Stmt:=top 24
abbrev B0:List Str:=["deed"]
theorem BH:FnScope B0 ["deed"] (aq oZ):= ~~~0
theorem Bp(F:Fun K "is_turn" "is_turn" oZ f fd):↑FnOk CX0 1 f fd ["deed"] spIsTurn:=by
 exists BH
 obtain⟨v,d,rfl,⟨dd,c,wa,cs,rfl,h2,h3,h4,r,h5,h6⟩,q⟩:=h;exists _,(b_1 (aG (lJ (jd (K:=K) rfl) Ş Ğ)))
 refine(BU rfl (Pt h2) at2 (Pt h5) at0 #[sz rfl,λu gu=>?_]);refine#[u,_,rfl,.inr Ŵ,rfl,rfl,?_];have ei:(if false=true then !inV ň [.str "off",.str "on"]else inV ň [.str "off",.str "on"])=d.2.isTurn:=HX d.2;rw[ei];exact q _ Ã
inductive spTurned  (vs:Pz)(H:Hp)(Q:VK)(E_:XK):Prop
 |mk (v:V) (d:Dd) (k:Int) (h0:vs=[v]) (h1:DdAt H v d) (h2:(d.2=.off k\/d.2=.on k)) (h3:∀t H',Same H H'->H' t=some (.tup [.int d.1.1,.int k])->Q Ŝ H'):spTurned  vs H Q E_
abbrev jC:Stmt:=top 25
abbrev vH:List Str:=["deed"]
theorem uH:FnScope vH ["deed"] (aq jC):= ~~~0
theorem uf(F:Fun K "turned_name" "turned_name" jC f fd):↑FnOk CX0 1 f fd ["deed"] spTurned:=by
 exists uH
 obtain⟨v,⟨n,wd⟩,k,rfl,⟨dd,c,wa,cs,rfl,h2,h3,h4,r,h5,h6⟩,hw,q⟩:=h;exists _,(b_1 (aG (aB (q_a Ç (q_a Ş ai)))))
 have e1:=Pt (K:=K) h2;rcases hw with rfl|rfl
 .obtain rfl:r=[.int k]:=h6;exact É
 .obtain rfl:r=[.int k]:=h6;exact É
def io(ts:Ć)(d:Dd):As Dd:=match d.2 with
 |.off k=>aw ts Đ d
 |.on k=>aw ts Đ d
 |_=>ts
def aQ(ds:Ę):As Dd:=ds.foldl io []
theorem JA{ts:Ć}{d:Dd}(h:đ):io ts d=ts:=by exists[n,wd],d;cases wd<;>first|rfl|cases h
theorem Gj(ts:Ć)(d:Dd):(io ts d).length<=ts.length+1:=by exists[n,wd],d;cases wd<;>first|exact dR _ _ _|exact YE _
theorem zp(ds:Ę):(aQ ds).length<=Í:=by
 have gen:∀(ds:Ę) (ts:Ć),(ds.foldl io ts).length<=ts.length+Í:=λds=>by
  induction ds with
  |nil=>intro ts;exact Ze _
  |cons d ds ih =>intro ts;have h1:=ih (io ts d);have h2:=Gj ts d;rw[List.foldl_cons,Zk];omega
 have:=gen ds [];unfold aQ;simpa using this
theorem ba{α β:Type}{R:α->β->Prop}{xs:List α}{ys:List β}(x:Paired R xs ys):∀{i:ď} {a:α},xs[i]?=some a->∃b,ys[i]?=some b/\R a b:=by
 induction x with
 |nil=>intro i a h;simp at h
 |@cons p q _ _ r _ ih =>
  intro i a h;cases i with
  |zero=>cases h;exact#[q,rfl,r]
  |succ i=>exact ih h
abbrev rp(H:Hp)(vs:Pz)(ds:Ę):Prop:=Paired (DdAt H) vs ds
abbrev TsAt(H:Hp)(kvs:Py)(ts:Ć):Prop:=Rws (DdAt H) kvs ts
theorem TsAt.ts{ts:Ć}(x:TsAt H kvs ts)(t:ą):TsAt H' kvs ts:=Paired.mapP x λ_ _ z=>#[z.1,z.2.ts t]
inductive spLast  (vs:Pz)(H:Hp)(Q:VK)(E_:XK):Prop
 |mk (l:Pg) (xs:Pz) (ds:List Dd) (h0:vs=[.ref l]) (h1:Ü) (h2:Ġ) (h3:ţ) (h4:∀a tvs H',Same H H'->H' a=some ő->TsAt H' tvs Ô->Q ð H'):spLast  vs H Q E_
abbrev kO:Stmt:=top 26
abbrev wS:List Str:=["ready","turns","deed"]
theorem jD:FnScope wS ["ready"] (aq kO):= ~~~0
theorem vO(F:Fun K "last_turns" "last_turns" kO f fd)(d7:Ñ)(i5:ë):↑FnOk CX0 2 f fd ["ready"] spLast:=by
 exists jD
 exists[l,xs,ds,rfl,hl,hd,l3,q],h;have ll:=Zw hd;exists _,(b_c (aC (i:=1) jD.nd qg)
   (b_c (eG Z0 rfl Œ (aD (i:=2) jD.nd) (b_1 (aZ (hM (aO d7 ↑99 ĩ)) (b_1 (eE ķ ↑1 (aO i5 ↑99 ĩ) ↑2)) b_0)))
   Ŕ))
 intro a ga;have wa:=ad ga (.dT []);refine#[_,rfl,l,rfl,#[_,Pu (wa _ _ hl)],?_];refine mY (K:=K) (a:=l) (xs:=xs) (λi Z H'=>Same H H'/\∃(tvs:Py) (o2:Option V),H' a=some ő/\TsAt H' tvs Ň/\Z=[some Ŀ,some ð,o2])
  #[wa,[],none,ac,.nil,rfl] (λi Z H' _ z=>Pu (z.1 _ _ hl)) ?_ ?_
 .rintro i v Z H' hv ⟨sm,tvs,o2,ha,ht,rfl⟩;exists[d,hdi,hdd],ba hd hv;have hi:i<Í:=(Zz.mp hdi).1;have et:aQ Ū=io Ň d:=by unfold aQ;rw[List.take_succ,hdi,List.foldl_append];rfl
  have tl:tvs.length<=63:=by have:=zp Ö;rw[y7]at this;have:=bT ht;omega
  refine#[_,rfl,v,d,rfl,hdd.ts ċ,λH1 s1=>#[_,rfl,?_]];cases c:d.2.isTurn with
  |false =>refine aI #[sm.trans s1,tvs,_,s1 _ _ ha,?_,rfl];rw[et,JA c];exact ht.ts ŵ
  |true =>
   obtain⟨k,hk⟩:∃k,d.2=.off k\/d.2=.on k:=by
    exists[n,wd],d;cases wd with
    |off k=>exact#[k,.inl rfl]
    |on k=>exact#[k,.inr rfl]
    |_=>cases c
   have es:io Ň d=aw Ň Đ d:=by exists[n,wd],d;rcases hk with hk|hk<;>(dsimp only at hk;subst hk;rfl)
   refine bg #[_,rfl,_,rfl,_,rfl,v,d,k,rfl,hdd.ts (Ps (sm.trans s1)),hk,λt H2 s2 e2=>#[a,_,rfl,DPut.t (k:=nk Đ) ĸ e2 (aJ ∅),?_]];have s12:=sm.trans ş;have td:TS H2 (upd H2 a (.dT (aS tvs (nk Đ) v))):=kX ĸ;refine#[cC s12 ga,_,_,ac,?_,rfl];rw[et,es];exact TsAt.ts (fV (ht.ts (Ps ş)) (hdd.ts (Ps s12))) td
 .rintro Z H' ⟨sm,tvs,o2,ha,ht,rfl⟩;rw[ll,ZI]at ht;exact#[_,rfl,q a tvs H' sm ha ht]
def KF:Option Dd->Bool
 |some (_,.off _)=>true
 |_=>false
def cR(d:Dd)(ts:Ć):Bool:=!d.2.isTurn&&KF (look ts d.1)
inductive spIsOff  (vs:Pz)(H:Hp)(Q:VK)(E_:XK):Prop
 |mk (v:V) (d:Dd) (a:Pg) (tvs:Py) (ts:As Dd) (h0:vs=[v,.ref a]) (h1:DdAt H v d) (h2:H a=some ő) (h3:TsAt H tvs ts) (h4:∀H',Same H H'->Q (.bl (cR d ts)) H'):spIsOff  vs H Q E_
theorem Fo(d:Dd):decide (V.str d.2.word=V.str "off")=KF (some d):=by exists[n,wd],d;cases wd<;>rfl
abbrev rf:Stmt:=top 27
abbrev Er:List Str:=["deed","turns","name"]
theorem vA:FnScope Er ["deed","turns"] (aq rf):= ~~~0
theorem Dq(F:Fun K "is_off" "is_off" rf f fd)(a6:Ò)(d7:Ñ):↑FnOk CX0 2 f fd ["deed","turns"] spIsOff:=by
 exists vA
 exists[v,d,a,tvs,ts,rfl,hd,ha,ht,q],h;exists _,(b_c (aC (i:=2) vA.nd â)
   (b_1 (aG (qe (BC Ŋ) (qe (GS ķ ↑2 ↑1) (sK (lJ bW (am ao (am ao (bo ķ ↑1 ↑2) ah) ah) ar)))))))
 refine#[_,rfl,v,d,rfl,hd,λt H1 s1 e1=>?_];refine#[_,rfl,v,d,rfl,hd.ts ŵ,λH2 s2=>?_];have s12:=s1.trans s2;have q':=λH' s=>q H' s;unfold cR at q';cases c:d.2.isTurn with
 |true =>rw[c]at q';exact#[_,rfl,_,rfl,aI Ÿ]
 |false =>
  rw[c]at q';refine#[_,rfl,_,rfl,bg ?_];refine#[_,rfl,_,rfl,a,_,rfl,DGet.t (k:=nk d.1) ū ĺ,?_];cases e:look ts d.1 with
  |none =>rw[jl ht e];rw[e]at q';exact#[_,rfl,aI Ÿ]
  |some d' =>exists[v',f1,dd,c',wa,cs,rfl,h2,h3,h4,r,h5,h6],aV ht e;rw[f1];rw[e]at q';refine#[_,rfl,bg ?_];refine#[_,rfl,_,rfl,a,.ref dd,rfl,f1▸DGet.t (k:=nk d.1) ū ĺ,dd,_,_,_,rfl,rfl,Pt (s12 _ _ h2),at2,wa,_,_,_,rfl,rfl,Pt (s12 _ _ h5),at0,rfl,?_];rw[Fo];exact q' H2 s12
def cQ(n:Nm):Wd->Option Sd
 |.put u pl tx=>some ŋ
 |.move m u pl=>some (.move m u pl)
 |.write m tx=>some (.write m tx)
 |.mark m b=>some (.mark m b)
 |.due m w=>some (.due m w)
 |.fold m b=>some (.fold m b)
 |.part m a pl=>some (.part m a n pl)
 |.join m o=>some (.join m o)
 |_=>none
inductive spStepOf  (vs:Pz)(H:Hp)(Q:VK)(E_:XK):Prop
 |mk (v:V) (d:Dd) (s:Sd) (h0:vs=[v]) (h1:DdAt H v d) (h2:cQ d.1 d.2=some s) (h3:∀st H',Same H H'->StAt H' st s->Q ı H'):spStepOf  vs H Q E_
theorem Gq{wd:Wd}(h:Ė)(h2:ę):V.str ä≠V.str "put"/\V.str ä≠V.str "part":=by
 cases wd with
 |put u pl tx=>exact absurd rfl Ź
 |part n a pl=>exact absurd rfl ź
 |_=>exact#[by simp only[Wd.word,ne_eq];decide +kernel,by simp only[Wd.word,ne_eq];decide +kernel]
theorem yG{n:Nm}(h:Ė)(h2:ę)(hs:Ý)(x:WhAt H wa wd):StAt H wa s:=by
 exists[r,h5,h6],x;cases wd with
 |put u pl tx=>exact absurd rfl Ź
 |part n a pl=>exact absurd rfl ź
 |move=>cases hs;exists[nv,uv,pv,rfl,a1,a2,a3],h6;exact#[nv,uv,pv,h5,a1,a2,a3]
 |write=>cases hs;exists[nv,rfl,a1],h6;exact#[nv,h5,a1]
 |mark=>cases hs;exists[nv,rfl,a1],h6;exact#[nv,h5,a1]
 |due=>cases hs;exists[nv,rfl,a1],h6;exact#[nv,h5,a1]
 |fold=>cases hs;exists[nv,rfl,a1],h6;exact#[nv,h5,a1]
 |join=>cases hs;exists[nv,mv,rfl,a1,a2],h6;exact#[nv,mv,h5,a1,a2]
 |_=>cases hs
abbrev pC:Stmt:=top 30
abbrev Cb:List Str:=["deed","what"]
theorem sO:FnScope Cb ["deed"] (aq pC):= ~~~0
theorem Bt(F:Fun K "step_of" "step_of" pC f fd)(a6:Ò):↑FnOk CX0 2 f fd ["deed"] spStepOf:=by
 exists sO
 obtain⟨v,⟨n,wd⟩,sd,rfl,hd,hs,q⟩:=h;exists[dd,c,wa,cs,rfl,h2,h3,h4,r,h5,h6],id hd;exists _,(b_c (aC (i:=1) sO.nd Ç)
   (b_c (aZ ė (b_1 (aG (aF cO (aB (q_a ar Ż)) Į))) b_0)
   (b_c (aZ ė (b_1 (aG (aF cO (aF cO (cG bK ↑1 cM (cg ah)) (aB Ż)) Į))) b_0)
   Ŕ)))
 have e5:=Pt (K:=K) h5;refine ĥ;by_cases c1:∃u pl tx,wd=.put u pl tx
 .exists[u,pl,tx,rfl],c1;cases hs;exists[uv,pv,rfl,a1,a2],h6;refine Ð;refine#[_,rfl,_,_,rfl,hd,λt H1 s1 e1=>#[sz rfl,λy gy=>?_]];have wy:=ad gy (.tup [.str "put",.ref t]);refine#[_,rfl,_,rfl,wa,_,rfl,wy _ _ (s1 _ _ h5),λz H2 s2 e2=>#[y,z,_,_,rfl,rfl,s2 _ _ ac,e2,sz rfl,λst H3 s3 e3=>?_]];have sm:Same H H3:=s1.trans (wy.trans Ī);exact q st H3 sm #[.ref t,uv,pv,e3,#[t,rfl,s3 _ _ (s2 _ _ (wy _ _ e1))],a1.ts ċ,a2.ts ċ]
 by_cases c2:∃m a pl,wd=.part m a pl
 .exists[m,a,pl,rfl],c2;cases hs;exists[nv,pv,rfl,a1,a2],h6;refine(vix rfl e5 at0 #[rfl,_,rfl,aL (by simp only[Wd.word,ne_eq];decide +kernel) ?_]);refine Ð;refine#[_,rfl,_,rfl,wa,_,rfl,h5,λz H1 s1 e1=>?_];refine#[_,rfl,_,_,rfl,hd.ts ŵ,λt H2 s2 e2=>#[sz rfl,λy gy=>?_]];have wy:=ad gy ŕ;refine#[z,y,_,_,rfl,rfl,wy _ _ ĺ,ac,sz rfl,λz2 H3 s3 e3=>?_];have s03:Same H H3:=s1.trans (s2.trans (wy.trans s3));refine#[_,rfl,_,rfl,wa,_,rfl,s03 _ _ h5,λz3 H4 s4 e4=>#[z2,z3,_,_,rfl,rfl,s4 _ _ e3,e4,sz rfl,λst H5 s5 e5=>?_]];have sm:Same H H5:=s03.trans (s4.trans s5);exact q st H5 sm #[nv,.ref t,pv,e5,NameIs.ts' a1 ċ,#[t,rfl,s5 _ _ (s4 _ _ (s3 _ _ (wy _ _ e2)))],a2.ts ċ]
 have n1:∀u pl tx,wd≠.put u pl tx:=λu pl tx z=>c1 #[u,pl,tx,z];have n2:∀n a pl,wd≠.part n a pl:=λn a pl z=>c2 #[n,a,pl,z];exists[w1,w2],Gq n1 n2;refine Ë;refine(vix rfl e5 at0 #[rfl,_,rfl,aL w2 ?_]);exact#[_,rfl,q wa H (Same.refl H) (yG n1 n2 hs #[r,h5,h6])]
theorem uI(c:Pg)(b:Pf):(Value.ref c::b).contains (.ref c)=true:=by simp
structure ErF(K:Qa)(cN cB cF:Pg)(bN bB bF:Pf):Prop where
 eN:ExC K cN bN
 eB:ExC K cB bB
 eF:ExC K cF bF
 bn:(Value.ref cB::bB).contains İ=false
 fn:(Value.ref cF::bF).contains İ=false
 fb:(Value.ref cF::bF).contains ŏ=false
def fG(ol:Ol)(s:Sd):Prop:=∀n∈s.items,(look ol n).isSome=true
structure Ready(ol:Ol)(s:Sd):Prop where
 nw:∀n∈Ń,look ol n=none
 bd:fG ol s->∃r,Bd ol s r
 ng:∀n,s≠.gone n
structure Small(ol:Ol):Prop where
 len:Ħ<=63
 txt:∀n it,look ol n=some it->Â<=400
inductive WordR(ol:Ol)(s:Sd):Str->Ol->Prop
 |none:¬fG ol s->WordR ol s "none" ol
 |beneath:fG ol s->Bd ol s (some true)->WordR ol s "beneath" ol
 |far:fG ol s->Bd ol s (some false)->WordR ol s "far" ol
 |done {ol':Ol}:fG ol s->Bd ol s none->Ap ol s ol'->WordR ol s "done" ol'
inductive spWordOf(C:Pg)(vs:Pz)(H:Hp)(Q:VK)(E_:XK):Prop
 |mk (p d g st:Pg) (ol:Ol) (s:Sd) (h0:vs=[.ref p,.ref st]) (h1:Î) (h2:Ť) (h3:Ł) (h4:Ready ol s) (h5:∀w ol' H',WordR ol s w ol'->But d H H'->OlE C H' p d g ol'->Q (.str w) H'):spWordOf C vs H Q E_
abbrev iS:Stmt:=top 31
abbrev sZ:List Str:=["outline","step"]
theorem sP:FnScope sZ ["outline","step"] (aq iS):= ~~~0
theorem sD(F:Fun K "word_of_step" "word_of_step" iS f fd)(c5:Ø)(R:ErF K cN cB cF bN bB bF)(n9:mg "NoItem" = some İ)(j6:mg "Beneath" = some ŏ)(Of:mg "Far" = some (.ref cF)):↑FnOk CX0 5 f fd ["outline","step"] Ŭ:=by
 have OV:=R.eN;have OS:=R.eB;have O0:=R.eF;exists sP
 exists[p,d,g,st,ol,sd,rfl,O,sm,hs,rd,q],h;exists[kvs,S,_],id O;obtain⟨⟨dx,h1⟩,h2,h3,h4⟩:=id S;exists _,(b_c (D4 rfl rfl (Au (En c5 ↑99 ↑0 ī)) (Be OV n9 í (Be OS j6 í (Be O0 Of í GE))))
   (b_1 (aG ar)))
 refine#[_,rfl,p,dx,_,rfl,h1,dD _ _,_,rfl,p,d,g,st,ol,sd,rfl,O,sm.len,hs,rd.ng,rd.nw,sm.txt,?_];by_cases c:fG ol sd
 .exists[r,hb],rd.bd c;refine .inr #[c,r,hb,λe H1 s1=>?_,λe H1 s1=>?_,λe H1 ol' b1 o1 ap=>?_]
  .subst e;exact#[cB,bB,rfl,R.eB,by rw[R.bn];exact aI #[cB,bB,rfl,R.eB,by rw[uI];exact bg (q _ _ _ (.beneath c hb) Ļ ļ)]]
  .subst e;exact#[cF,bF,rfl,R.eF,by rw[R.fn];exact aI #[cF,bF,rfl,R.eF,by rw[R.fb];exact aI #[cF,bF,rfl,R.eF,by rw[uI];exact bg (q _ _ _ (.far c hb) Ļ ļ)]]]
  .subst e;exact q _ _ _ (.done c hb ap) b1 o1
 .refine .inl #[c,λH1 dd s1=>?_];exact#[cN,bN,rfl,R.eN,by rw[uI];exact bg (q _ _ _ (.none c) Ļ ļ)]
def SoAt(H:Hp)(sv:V):Option Sd->Prop
 |none=>sv=.non
 |some s=>∃st,sv=.ref st/\StAt H st s
theorem SoAt.ts(x:SoAt H sv so)(t:ą):SoAt H' sv so:=by
 cases so with
 |none=>exact x
 |some s=>exists[st,h1,h2],x;exact#[st,h1,h2.ts t]
def wm(ol:Ol):Wd->Bool
 |.put (some m) _ _=>!(look ol m).isSome
 |_=>false
inductive PlayR(ol:Ol)(n:Nm):Wd->Str->Option Sd->Ol->Prop
 |none:PlayR ol n .none "done" none ol
 |take {m:Nm}:PlayR ol n (.take m) (if(look ol m).isSome=true then"done" else"none") none ol
 |back {m:Nm}:PlayR ol n (.back m) (if(look ol m).isSome=true then"done" else"none") none ol
 |top {m:Nm} {pl:Pn} {tx:Str}:look ol m=none->PlayR ol n (.put (some m) pl tx) "top" (some ŀ) (aw ol n #[none,pl,tx,false,none,false])
 |step {wd:Wd} {s:Sd} {w:Str} {ol':Ol}:cQ n wd=some s->wm ol wd=false->WordR ol s w ol'->PlayR ol n wd w (if w="done" then some s else none) ol'
inductive spPlay(C:Pg)(vs:Pz)(H:Hp)(Q:VK)(E_:XK):Prop
 |mk (v:V) (dd:Dd) (p d g:Pg) (ol:Ol) (h0:vs=[v,.ref p]) (h1:DdAt H v dd) (h2:Î) (h3:Ť) (h4:dd.2.isTurn=false) (h5:(∀s,cQ dd.1 dd.2=some s->Ready ol s)) (h6:∀w so ol' t sv H',PlayR ol dd.1 dd.2 w so ol'->But d H H'->OlE C H' p d g ol'->H' t=some ń->SoAt H' sv so->Q Ŝ H'):spPlay C vs H Q E_
theorem yQ{wd:Wd}(h:wd.isTurn=false):wd=.none\/(∃m,wd=.take m\/wd=.back m)\/∃s,cQ n wd=some s:=by
 cases wd with
 |none=>exact .inl rfl
 |take m=>exact .inr (.inl #[m,.inl rfl])
 |back m=>exact .inr (.inl #[m,.inr rfl])
 |off k=>cases h
 |on k=>cases h
 |_=>exact .inr (.inr #[_,rfl])
theorem JE(h:Ý):V.str ä≠V.str "none"/\inV Ő [.str "take",.str "back"]=false:=by cases wd<;>first|exact#[by simp only[Wd.word,ne_eq];decide +kernel,rfl]|cases h
theorem JF{w:Str}(h:WordR ol s w ol'):w="done"\/V.str w≠V.str "done":=by
 cases h with
 |done=>exact .inl rfl
 |_=>exact .inr ⋯
abbrev yt:Stmt:=top 29
abbrev JO:List Str:=["deed","outline","what","step","word"]
theorem mM:FnScope JO ["deed","outline"] (aq yt):= ~~~0
theorem Ir(F:Fun K "play" "play" yt f fd)(Oh:↑MFn 1 C "holds" ["self","name"] ŷ)(c5:Ø)(N6:↑Fn 2 "step_of" ["deed"] spStepOf)(p7:↑Fn 5 "word_of_step" ["outline","step"] Ŭ):
  FnOk P w K mg base CX0 6 f fd ["deed","outline"] (spPlay C):=by
 exists mM
 obtain⟨v,⟨n,wd⟩,p,d,g,ol,rfl,hd,O,sm,nt,rd,q⟩:=h;exists[da,c,wa,cs,rfl,h2,h3,h4,r,h5,h6],id hd;exists[kvs,S,_],id O;obtain⟨⟨dx,y1⟩,y2,y3,y4⟩:=id S;exists _,(b_c (aC (i:=2) ų Ç)
   (b_c (aZ Š (b_1 (aG Ō)) b_0)
   (b_c (aZ (aE (jd (K:=K) rfl) Ó Ğ) (b_1 (aG (aB (q_a (yi ó ar ar) ē)))) b_0)
   (b_c (aC (i:=3) ų (aO N6 ↑99 Å))
   (b_c (mI (aZ (t_w (fm Š (fm (aE kn Ó cz) (fz (He ó))))) (b_c (aC (i:=3) ų (aB (q_a ar (q_a ĕ (q_a cz (q_a ĕ (q_a ĕ ai)))))))
   (b_c (bh (mE c5 lH ↑99 ↑1 õ))
   (b_1 (aG (aB (q_a ar õ)))))) b_0))
   (b_c (aC (i:=4) ų (aO p7 ↑99 (q_a ↑1 õ)))
   (b_1 (aG (aB (q_a ↑4 (q_a (yi (aE bW ↑4 ar) ↑3 cz) ai)))))))))))
 have e5:=Pt (K:=K) h5;refine ĥ;rcases yQ (n:=n) nt with rfl|⟨m,hm⟩|⟨sd,hs⟩
 .refine Ð;exact#[sz rfl,λt gt=>q _ _ _ t _ _ .none (But.of Ï) (O.same Ï) ac rfl]
 .have key:∃nv,r=[nv]/\NameIs H nv (nk m)/\V.str ä≠V.str "none"/\inV Ő [.str "take",.str "back"]=true/\PlayR ol n wd (if(look ol m).isSome=true then"done" else"none") none ol:=by
   rcases hm with rfl|rfl
   .exists[nv,e,hn],h6;exact#[nv,e,hn,by simp only[Wd.word,ne_eq];decide +kernel,rfl,.take]
   .exists[nv,e,hn],h6;exact#[nv,e,hn,by simp only[Wd.word,ne_eq];decide +kernel,rfl,.back]
  exists[nv,rfl,hn,w1,w2,pr],key;refine Ë;refine ï;have wu:=ad gu ă;refine#[u,_,rfl,.inr Ŵ,rfl,rfl,_,rfl,?_];have ei:Á=true:=w2;rw[ei];refine bg ?_;refine#[_,rfl,p,dx,_,rfl,wu _ _ y1,dD _ _,vix rfl (Pt (wu _ _ h5)) at1 #[p,d,g,ol,nv,m,rfl,O.same wu,hn.same wu,_,rfl,?_]];cases c:(look ol m).isSome with
  |true =>rw[c]at pr;exact bg #[sz rfl,λt gt=>q _ _ _ t _ _ pr ż Ž ac rfl]
  |false =>rw[c]at pr;exact aI #[sz rfl,λt gt=>q _ _ _ t _ _ pr ż Ž ac rfl]
 .exists[w1,w2],JE hs;have ready:=rd sd hs;refine Ë;refine ï;have wu:=ad gu ă;refine#[u,_,rfl,.inr Ŵ,rfl,rfl,_,rfl,?_];have ei:Á=false:=w2;rw[ei];refine aI ?_;refine#[_,rfl,_,_,sd,rfl,hd.ts (Ps wu),hs,λst H2 s2 hst=>?_];have s02:Same H H2:=wu.trans s2;have O2:=O.same s02;have y2':=s02 _ _ y1;have e52:=Pt (K:=K) (s02 _ _ h5);refine xK (λZ H'=>Same H H'/\StAt H' st sd/\wm ol wd=false/\Z=[some (.ref da),some ś,some (.ref wa),some ı,none]) ?_ ?_
  .intro RJ hRJ;by_cases c1:∃u pl tx,wd=.put u pl tx
   .exists[u,pl,tx,rfl],c1;cases hs;exists[uv,pv,rfl,a1,a2],h6;refine(vix rfl e52 at0 #[rfl,_,rfl,di ?_]);cases u with
    |none =>obtain rfl:uv=.non:=a1;exact(vix rfl e52 at1 #[rfl,_,rfl,nB rfl (aI (hRJ _ _ #[s02,hst,rfl,rfl]))])
    |some m =>
     exists[mb,rfl,hmb],id a1;refine(vix rfl e52 at1 #[rfl,_,rfl,nz nofun ?_]);refine#[_,rfl,p,dx,_,rfl,y2',dD _ _,vix rfl e52 at1 #[p,d,g,ol,_,m,rfl,O2,#[mb,rfl,s02 _ _ hmb],_,rfl,?_]];cases c:look ol m with
     |some it=>exact aI (hRJ _ _ #[s02,hst,(by show(!(look ol m).isSome)=false;rw[c];rfl),rfl])
     |none =>
      refine bg ?_;exists[nv,uv',pv',f1,f2,f3,f4],id hst;have ef:=Pt (K:=K) f1;refine(vix rfl ef at1 (vix rfl ef at3 (vix rfl ef at4 #[sz rfl,λs' gs=>?_])));have ws:=ad gs è;have s03:=s02.trans ws;have est:StAt (upd H2 s' è) s' ŀ:=#[nv,.non,pv',ac,f2.same ws,rfl,f4.ts (Ps ws)]
      refine#[_,rfl,p,dx,_,rfl,ws _ _ y2',dD _ _,_,rfl,p,d,g,s',ol,.put n none pl tx,rfl,O.same s03,sm.len,est,nofun,ready.nw,sm.txt,.inr #[(λm hm=>by simp[Sd.items]at hm),none,.put,nofun,nofun,λ_ H3 ol' b3 o3 ap=>?_]];cases ap;refine#[_,rfl,sz rfl,λt gt=>?_];have wt:=ad gt (.tup [.str "top",.ref s']);have t3:=b3.ts ŭ;exact q _ _ _ t _ _ (.top c) (((But.of s03).trans b3).trans (But.of wt)) (o3.same wt) ac #[s',rfl,(est.ts t3).ts (Ps wt)]
   .have nn:V.str ä≠V.str "put"/\wm ol wd=false:=by
     cases wd with
     |put u pl tx=>exact absurd #[u,pl,tx,rfl] c1
     |_=>exact#[by simp only[Wd.word,ne_eq];decide +kernel,rfl]
    exact(vix rfl e52 at0 #[rfl,_,rfl,aL nn.1 (aI (hRJ _ _ #[s02,hst,nn.2,rfl]))])
  .rintro Z H3 ⟨s03,hst3,nt',rfl⟩;refine#[_,rfl,_,rfl,p,d,g,st,ol,sd,rfl,O.same s03,sm,hst3,ready,λw ol' H4 wr b4 o4=>?_];have pr:=PlayR.step hs nt' wr;have t4:=b4.ts ŭ;rcases JF wr with rfl|nw
   .rw[Pb rfl]at pr;refine#[_,rfl,_,rfl,rfl,_,rfl,di ?_];exact#[_,rfl,sz rfl,λt gt=>q _ _ _ t _ _ pr ã Ů ac #[st,rfl,(hst3.ts t4).ts (Ps Ï)]]
   .rw[Pa λz=>nw (ZO V.str z)]at pr;refine#[_,rfl,_,rfl,rfl,_,rfl,aL nw ?_];exact#[sz rfl,λt gt=>q _ _ _ t _ _ pr ã Ů ac rfl]
abbrev bp:=Nm×Str×Option Sd
def turned:Dd->Nm
 |((i,_),.off k)=>(i,k)
 |((i,_),.on k)=>(i,k)
 |(n,_)=>n
def bD(ds:Ę):List Nm:=(ds.filter (λd=>d.2.isTurn)).map (·.1)
inductive Runs(ts:Ć)(tn:Ě):Ol->List Dd->List bp->Prop
 |nil {ol:Ol}:Runs ts tn ol [] []
 |off {ol:Ol} {d:Dd} {ds:List Dd} {rs:List bp}:cR d ts=true->Runs ts tn ol ds rs->Runs ts tn ol Ĝ (ō::rs)
 |turn {ol:Ol} {d:Dd} {ds:List Dd} {rs:List bp}:cR d ts=false->d.2.isTurn=true->Runs ts tn ol ds rs->Runs ts tn ol Ĝ (Û::rs)
 |play {ol ol':Ol} {d:Dd} {ds:List Dd} {rs:List bp} {w:Str} {so:Option Sd}:cR d ts=false->d.2.isTurn=false->PlayR ol d.1 d.2 w so ol'->Runs ts tn ol' ds rs->Runs ts tn ol Ĝ ((d.1,w,so)::rs)
def hV(ts:Ć):Ol->List Dd->Prop
 |_,[]=>True
 |ol,d::ds=>(č->hV ts ol ds)/\(cR d ts=false->d.2.isTurn=false->Small ol/\ô/\∀w so ol',PlayR ol d.1 d.2 w so ol'->hV ts ol' ds)
def RoAt(H:Hp)(v:V)(r:bp):Prop:=∃(t:Pg) (nv sv:V),v=.ref t/\H t=some (.tup [nv,.str r.2.1,sv])/\NameIs H nv ŝ/\SoAt H sv r.2.2
theorem RoAt.ts(x:RoAt H v r)(t:ą):RoAt H' v r:=by exists[a,nv,sv,h1,h2,h3,h4],x;exact#[a,nv,sv,h1,t _ _ h2,h3.ts' t,h4.ts t]
inductive spPlayed  (vs:Pz)(H:Hp)(Q:VK)(E_:XK):Prop
 |mk (l:Pg) (xs:Pz) (ds:List Dd) (h0:vs=[.ref l]) (h1:Ü) (h2:Ġ) (h3:ţ) (h4:ł) (h5:∀a ys rs H',Same H H'->H' a=some å->Paired (RoAt H') ys rs->Runs Ô Č [] ds rs->Q ð H'):spPlayed  vs H Q E_
theorem cY(h:NameIs H v Þ):Dt H (.tuple [.int n.1,.int n.2]) v:=by exists[b,rfl,e],h;simp only[Dt,DtAll];exact#[b,_,rfl,.inl e,_,_,rfl,rfl,_,_,rfl,rfl,rfl]
def nmD(n:Nm):Qb:=.tuple [.int n.1,.int n.2]
theorem sq(x:Paired (λv n=>NameIs H v Þ) vs ns):DtAll H ů vs/\PyData.canLayAll0 ů=true:=by
 induction x with
 |nil=>exact#[by simp[DtAll],rfl]
 |@cons p q _ _ r _ ih =>
  refine#[?_,?_]
  .simp only[Zn,DtAll];exact#[_,_,rfl,cY r,ih.1]
  .simp only[Zn,PyData.canLayAll0,ih.2];simp[nmD,PyData.canLay0,PyData.canLayAll0]
theorem xV(k:Nm)(ns:Ě):((ns.map nmD).any λd=>PyData.eqv d (nmD k))=decide (k∈ns):=by
 induction ns with
 |nil=>rfl
 |cons n ns ih =>
  rw[Zn,Y7,ih];have:PyData.eqv (nmD n) (nmD k)=decide (k=n):=by
   have:=jZ [n.1,n.2] [k.1,k.2];unfold nmD;rw[show([PyData.int n.1,.int n.2]:List Qb)=[n.1,n.2].map PyData.int from rfl,show([PyData.int k.1,.int k.2]:List Qb)=[k.1,k.2].map PyData.int from rfl,this,decide_eq_decide];constructor
   .intro z;injection z with z1 z2;injection z2 with z2 _;exact Prod.ext z1.symm z2.symm
   .rintro rfl;rfl
  rw[this,Bool.eq_iff_iff];simp
theorem bV{K:Qa}{xs:Pz}{n:ď}{g:TG}{tc:TT}{te:TE}{Q:VK}(Pv:Ŏ)(hz:ņ<=1000)(hn:ğ)(h0:Pv 0 [] H0)(hl:∀i ys H,Pv i ys H->SqL K H a xs)(ht:∀i ys H x,xs[i]?=some x->Pv i ys H->∀Y:Pz->Hp->Prop,ø->g x Ũ H λσ2 H2=>tc σ2 H2 λb H3=>if b=true then te σ2 H3 λy H4=>Y (ys++[y]) H4 else Y ys H3)(hq:∀ys p H,Pv ņ ys H->H p=none->Q ś ũ):gQ n cap g tc te Z (Itl K a) H0 Q:=by refine uV (N:=ņ) Pv hz hn h0 (λi ys H hi z=>#[xs,xs[i],hl i ys H z,by simp[hi]]) (λys H z=>#[xs,hl _ ys H z,Ze _]) (λi ys H x H' hi z y Y hY=>?_) hq;obtain rfl:H'=H:=y.1;exact ht i ys H' x (y.2 xs (hl i ys H' z)) z Y hY
theorem sh{ds:Ę}{i:ď}{d:Dd}(h:ds[i]?=some d):bD Ū=bD Ö++if d.2.isTurn=true then[d.1]else[]:=by unfold bD;rw[List.take_succ,h,Yq,ZA];show _++(List.filter _ [d]).map _=_;cases c:d.2.isTurn<;>simp[c]
abbrev rh:Stmt:=top 28
abbrev Et:List Str:=["ready","turns","turning","outline","told","deed","outcome"]
theorem eI:FnScope Et ["ready"] (aq rh):= ~~~0
theorem Ds(F:Fun K "played" "played" rh f fd)(i6:↑Fn 2 "last_turns" ["ready"] spLast)(d7:Ñ)(a6:Ò)(i5:ë)(Oj:↑Fn 2 "is_off" ["deed","turns"] spIsOff)(OI:↑Fn 6 "play" ["deed","outline"] (spPlay C))(i9:↑MkFn 1 C "Plain" ["self"] (spInit C)):↑FnOk CX0 7 f fd ["ready"] spPlayed:=by
 exists eI
 exists[l,xs,ds,rfl,hl,hd,l3,safe,q],h;have ll:=Zw hd;exists _,(b_c (aC (i:=1) ħ (aO i6 ↑99 Å))
   (b_c (pA (j:=2) ħ (own:=["deed"]) È rfl Œ (λ_ _ _ _=>aD (i:=0) (show (["deed"]:List Str).Nodup by decide)) (aT ⋯) (λ_ _ _ _=>(oB (hM Ŋ))) (λ_ _ _ _=>â))
   (b_c (aC (i:=3) ħ (uk i9 ↑99))
   (b_c (aC (i:=4) ħ (bS ai))
   (b_c (eG Z0 rfl Œ (aD (i:=5) ħ) (b_c (mI (aZ (hM (aO Oj ↑99 (q_a ↑5 ī))) (b_1 (aC (i:=6) ħ Ō)) (b_1 (aZ (hM (aO d7 ↑99 Ĭ)) (b_1 (aC (i:=6) ħ (aB (q_a (yi (aE (Mn hr) (aO i5 ↑99 Ĭ) ↑2) ar ar) ē)))) (b_1 (aC (i:=6) ħ (aO OI ↑99 (q_a ↑5 õ))))))))
   (b_1 (bh (eT ↑4 (aF cO (aB (q_a (aO a6 ↑99 Ĭ) ai)) ↑6))))))
   (b_1 (aG ↑4)))))))
 refine ax λR0 hR0=>?_;refine#[_,rfl,l,xs,ds,rfl,hl,hd,l3,λa tvs H1 s1 ha ht=>hR0 _ _ ?_];refine ax λR0 hR0=>?_;refine#[_,rfl,l,rfl,#[_,Pu ž],?_];refine bV (λi ys H'=>Same H1 H'/\ì<=i/\Paired (λv n=>NameIs H' v Þ) ys (bD Ö)) ∅ ú #[Same.refl _,Ze _,.nil] (λi ys H' z=>Pu (z.1 _ _ ž)) ?_ ?_
 .rintro i ys H' v hv ⟨sm,ly,pr⟩ Y hY;exists[d,hdi,hdd],ba hd hv;have s1':=s1.trans sm;refine#[_,rfl,v,d,rfl,hdd.ts (Ps s1'),λH2 s2=>#[_,rfl,?_]];cases c:d.2.isTurn with
  |false =>refine aI (hY _ _ #[sm.trans s2,∅,?_]);rw[sh hdi,c,Pa ⋯,ZD];exact Paired.mapP pr λ_ _ z=>z.same s2
  |true =>refine bg #[_,rfl,v,d,rfl,hdd.ts (Ps (s1'.trans s2)),λt H3 s3 e3=>hY _ _ #[sm.trans Ī,by rw[Zh];exact ZT ly,?_]];rw[sh hdi,c,Pb rfl];exact Ys (Paired.mapP pr λ_ _ z=>z.same Ī) #[t,rfl,e3]
 rintro nvs tl H2 ⟨sm2,lnv,prn⟩ gtl;rw[ll,ZI]at prn;have wtl:=ad gtl ý;have etl:upd H2 tl ý tl=some ý:=ac;have s02:Same H (upd H2 tl ý):=s1.trans Ŗ;have ha2:=wtl _ _ (sm2 _ _ ha);have ht2:=ht.ts (Ps Ŗ);have prn2:=Paired.mapP prn λ_ _ (z:NameIs _ _ _)=>z.same wtl;generalize upd H2 tl ý=H3 at etl s02 ha2 ht2 prn2 ⊢;refine hR0 _ _ ?_;refine ax λR0 hR0=>?_;intro x dx nx ndx nex;refine#[x,dx,rfl,ac,λd g H4 fd0 fg0 S4 kp4=>#[rfl,?_]];have s34:Same H3 H4:=λb o e=>kp4 b o (by rw[af œ,af (aj e ndx)];exact e) œ;have s00:Same H3 (upd (upd H3 dx (.own x)) x (.ins C dx [])):=λb o e=>by rw[af œ,af (aj e ndx)];exact e
 have d3:H3 d=none:=s00.free fd0;refine hR0 _ _ ?_;refine ax λR0 hR0=>?_;refine#[sz rfl,λto gto=>?_];have wto:=ad gto ò;have eto:upd H4 to ò to=some ò:=ac;have s35:Same H3 Ř:=s34.trans wto;have O5:OlE C Ř x d g []:=#[[],S4.same wto,.nil]
 have ndt:d≠to:=λz=>by have:=S4.dc;rw[z,gto]at this;cases this
 have t3:H3 to=none:=s34.free gto;generalize upd H4 to ò=H5 at eto s35 O5 ⊢;refine hR0 _ _ ?_;have kH:∀{H'},(∀b o,H3 b=some o->H' b=some o)->Same H H':=λk b o e=>k b o (s02 _ _ e);refine ax λR0 hR0=>?_;refine#[_,rfl,l,rfl,#[_,Pu (s35 _ _ Ű)],?_];refine eh (K:=K) (a:=l) (xs:=xs) (λi Z H'=>Same H3 H'/\∃ (ol:Ol) (ys:Pz) (rs:List bp) (o5 o6:Option V),OlE C H' x d g ol/\hV Ô ol ſ/\H' to=some å/\ì=i/\Paired (RoAt H') ys rs/\(∀ rs',Runs Ô Č ol ſ rs'->Runs Ô Č [] ds (rs++rs')) /\
   Z=[some Ŀ,some ð,some (.ref tl),some (.ref x),some (.ref to),o5,o6])
  #[s35,[],[],[],none,none,O5,safe,eto,rfl,.nil,λrs' z=>z,rfl] (λi Z H' _ z=>Pu (z.1 _ _ Ű)) ?_ ?_
 .rintro i v Z H' hv ⟨sm,ol,ys,rs,o5,o6,O,sf,hto,ly,pr,run,rfl⟩ DL hDL;exists[dd,hdi,hdd],ba hd hv;have hi:i<Í:=(Zz.mp hdi).1;have hdr:ds.drop i=dd::ds.drop Ē:=by rw[Yy hi];rw[Zf hi]at hdi;rw[Zo hdi]
  rw[hdr]at sf run;have hd3:DdAt H3 v dd:=hdd.ts (Ps s02);have ddt:d≠to:=ndt;exists[kvs0,S0,_],id O;refine xK (λZ H2=>∃ (u:Pg) (w:Str) (sv:V) (so:Option Sd) (ol':Ol),Same H3 H2/\H2 to=some å/\Paired (RoAt H2) ys rs/\OlE C H2 x d g ol'/\hV Ô ol' ű/\H2 u=some ń/\SoAt H2 sv so /\
    (∀ rs',Runs Ô Č ol' ű rs'->Runs Ô Č ol (dd::ds.drop Ē) ((dd.1,w,so)::rs'))/\Z=[some Ŀ,some ð,some (.ref tl),some (.ref x),some (.ref to),some v,some (.ref u)]) ?_ ?_
  .intro RJ hRJ;refine#[_,rfl,_,rfl,v,dd,a,tvs,aQ ds,rfl,hd3.ts ċ,sm _ _ ha2,ht2.ts ċ,λH6 s6=>#[_,rfl,?_]];have s36:=sm.trans s6;have prs:∀{H7},Same H' H7->Paired (RoAt H7) ys rs:=λs7=>Paired.mapP pr λ_ _ z=>z.ts (Ps s7);cases c:cR dd (aQ ds)with
   |true=>exact bg #[sz rfl,λu gu=>hRJ _ _ #[u,"off",.non,none,ol,s36.trans Ã,ad gu _ _ _ (s6 _ _ hto),prs š,O.same š,sf.1 (.inl c),ac,rfl,λrs' z=>.off c z,rfl]]
   |false =>
    refine aI ?_;refine#[_,rfl,v,dd,rfl,hd3.ts (Ps s36),λH7 s7=>#[_,rfl,?_]];have s67:=s6.trans s7;have s37:=sm.trans s67;cases c2:dd.2.isTurn with
    |true =>
     refine bg ?_;obtain⟨k,hk⟩:∃k,dd.2=.off k\/dd.2=.on k:=by
      exists[n,wd],dd;cases wd with
      |off k=>exact#[k,.inl rfl]
      |on k=>exact#[k,.inr rfl]
      |_=>cases c2
     have tk:turned dd=þ:=by obtain⟨⟨i,j⟩,wd⟩:=dd;rcases hk with hk|hk<;>(dsimp only at hk;subst hk;rfl)
     refine#[_,rfl,v,dd,k,rfl,hd3.ts (Ps s37),hk,λt H8 s8 e8=>?_];have s78:=s67.trans s8;have s38:=sm.trans s78;exists[dt1,dt2],sq (Paired.mapP prn2 λ_ _ (z:NameIs _ _ _)=>z.same s38);refine#[_,rfl,tl,nvs,nmD þ,_,rfl,Pu (s38 _ _ etl),cY (n:=þ) #[t,rfl,e8],dt1,by simp[SeqAt.shaped,nmD,PyData.canLay0,PyData.canLayAll0,PyData.depth,PyData.depthAll],dt2,_,rfl,?_];have en:(if false=true then !((bD ds).map nmD).any (λd=>PyData.eqv d (nmD þ))else((bD ds).map nmD).any (λd=>PyData.eqv d (nmD þ)))=decide (turned dd∈bD ds):=by rw[tk];exact xV _ _
     rw[en];refine kf (λc3=>?_) (λc3=>?_)
     .exact#[sz rfl,λu gu=>hRJ _ _ #[u,"turn",.non,none,ol,s38.trans Ã,ad gu _ _ _ Ţ,prs î,O.same î,sf.1 (.inr c2),ac,rfl,λrs' z=>by have:=Runs.turn c c2 z;rw[Pb c3]at this;exact this,rfl]]
     .exact#[sz rfl,λu gu=>hRJ _ _ #[u,"done",.non,none,ol,s38.trans Ã,ad gu _ _ _ Ţ,prs î,O.same î,sf.1 (.inr c2),ac,rfl,λrs' z=>by have:=Runs.turn c c2 z;rw[Pa c3]at this;exact this,rfl]]
    |false =>refine aI ?_;exists[small,rdy,nxt],sf.2 c c2;refine#[_,rfl,_,rfl,v,dd,x,d,g,ol,rfl,hd3.ts (Ps s37),O.same s67,small,c2,rdy,λw so ol' t sv H8 pl b8 o8 e8 so8=>?_];have k8:Same H3 H8:=λb o e=>b8 b o (s37 _ _ e) (aj e d3);have t8:=b8.ts (s67 _ _ S0.dc);exact hRJ _ _ #[t,w,sv,so,ol',k8,b8 _ _ (s67 _ _ hto) (ZQ ndt),Paired.mapP (prs s67) λ_ _ z=>z.ts t8,o8,nxt _ _ _ pl,e8,so8,λrs' z=>.play c c2 pl z,rfl]
  .rintro Z H2 ⟨u,w,sv,so,ol',s32,hto2,pr2,O2,sf2,eu,eso,run2,rfl⟩;refine#[_,rfl,.inl #[rfl,_,Pu hto2],_,rfl,v,dd,rfl,hd3.ts (Ps s32),λt H6 s6 e6=>#[sz rfl,λy gy=>?_]];have wy:=ad gy ŕ;refine#[_,rfl,y,u,_,_,rfl,rfl,ac,wy _ _ (s6 _ _ eu),sz rfl,λz H7 s7 e7=>?_];have s27:Same H2 H7:=s6.trans (wy.trans s7);refine#[to,_,_,rfl,rfl,s27 _ _ hto2,aJ ∅,?_];have tl':TS H7 ü:=λb zs e=>by rw[af (dI e ě nofun)];exact e
   have T2:TS H2 ü:=λb zs e=>tl' _ _ (s27 _ _ e);refine hDL _ _ #[λb o e=>by rw[af (aj e t3)];exact s27 _ _ (s32 _ _ e),ol',ys++[.ref z],rs++[(dd.1,w,so)],_,_,?_,sf2,ac,by rw[Zh,ly];rfl,Ys (Paired.mapP pr2 λ_ _ q=>q.ts T2) #[z,.ref t,sv,rfl,tl' _ _ e7,#[t,rfl,tl' _ _ (s7 _ _ (wy _ _ e6))],eso.ts T2],λrs' q=>by rw[Y8];exact run _ (run2 rs' q),rfl];exists[kvs',S',R'],O2;obtain⟨⟨dz,z1⟩,z2,z3,z4⟩:=S'.same s27;exact#[kvs',#[#[dz,by rw[af (dI z1 ě nofun)];exact z1],by rw[af ndt];exact z2,by rw[af (dI z3 ě nofun)];exact z3,z4],R'.ts T2]
 .rintro Z H' ⟨sm,ol,ys,rs,o5,o6,O,sf,hto,ly,pr,run,rfl⟩;rw[ll,List.drop_length]at run;refine hR0 _ _ ?_;have:=run [] .nil;rw[ZD]at this;exact#[_,rfl,q to ys rs H' (s02.trans sm) hto pr this]
def WoAt(H:Hp)(v:V)(r:bp):Prop:=∃(t:Pg) (nv:V),v=.ref t/\H t=some (.tup [nv,.str r.2.1])/\NameIs H nv ŝ
inductive spWords  (vs:Pz)(H:Hp)(Q:VK)(E_:XK):Prop
 |mk (l:Pg) (xs:Pz) (ds:List Dd) (h0:vs=[.ref l]) (h1:Ü) (h2:Ġ) (h3:ţ) (h4:ł) (h5:∀a ys rs H',Same H H'->H' a=some å->Paired (WoAt H') ys rs->Runs Ô Č [] ds rs->Q ð H'):spWords  vs H Q E_
theorem WoAt.ts(x:WoAt H v r)(t:ą):WoAt H' v r:=by exists[a,nv,h1,h2,h3],x;exact#[a,nv,h1,t _ _ h2,h3.ts' t]
theorem eM{α:Type}{l:List α}{i:ď}{x:α}(h:l[i]?=some x):l.take Ē=l.take i++[x]:=by rw[List.take_succ,h];rfl
theorem jT{ts:Ć}(h:Runs ts tn ol ds rs):rs.length=Í:=by
 induction h with
 |nil=>rfl
 |off _ _ ih=>rw[Zk,Zk,ih]
 |turn _ _ _ ih=>rw[Zk,Zk,ih]
 |play _ _ _ _ ih=>rw[Zk,Zk,ih]
abbrev nQ:Stmt:=top 22
abbrev AI:List Str:=["ready"]
theorem zl:FnScope AI ["ready"] (aq nQ):= ~~~0
theorem zh(F:Fun K "words_of" "words_of" nQ f fd)(p9:ù):↑FnOk CX0 8 f fd ["ready"] spWords:=by
 exists zl
 exists[l,xs,ds,rfl,hl,hd,l3,safe,q],h;exists _,(b_1 (aG (dH (own:=["name","word","step"]) È rfl Ĵ (λ_ _ _ _=>gG (K:=K) (n:=3) rfl rfl (bE (aD (i:=0) (show(["name","word","step"]:List Str).Nodup by decide)) (bE (aD (i:=1) (show(["name","word","step"]:List Str).Nodup by decide)) (bE (aD (i:=2) (show(["name","word","step"]:List Str).Nodup by decide)) fe)))) Æ (λ_ _ _ _=>iM) (λ_ _ _ _=>(aB (q_a ↑0 ī))))))
 refine#[_,rfl,l,xs,ds,rfl,hl,hd,l3,safe,λa ys rs H1 s1 ea pr run=>#[a,rfl,#[_,Pu ea],?_]];have ln:ì=Í:=(Zw pr).trans (jT run);refine bV (λi zs H'=>Same H1 H'/\zs.length<=i/\Paired (WoAt H') zs Ľ) ∅ ú #[Same.refl _,Ze _,.nil] ĉ ?_ ?_
 .rintro i zs H' v hv ⟨sm,lz,pz⟩ Y hY;exists[r,hr',t,nv,sv,rfl,e1,e2,e3],ba pr hv;refine#[t,_,rfl,Pt (sm _ _ e1),rfl,_,_,rfl,_,_,rfl,_,_,rfl,rfl,?_];refine#[_,rfl,_,rfl,sz rfl,λu gu=>hY _ _ #[sm.trans Ã,by rw[Zh];exact ZT lz,?_]];rw[eM hr'];exact Ys ê #[u,nv,rfl,ac,e2.same ĭ]
 .rintro zs b H' ⟨sm,lz,pz⟩ gb;rw[(Zw pr),ZI]at pz;exact q b zs rs _ Ą ac ß run
def aP(rs:List bp):List (Nm×Sd):=rs.filterMap λr=>r.2.2.map λs=>(r.1,s)
def SsAt(H:Hp)(v:V)(r:Nm×Sd):Prop:=∃(t st:Pg) (nv:V),v=.ref t/\H t=some (.tup [nv,.ref st])/\NameIs H nv ŝ/\StAt H st r.2
theorem SsAt.ts(x:SsAt H v r)(t:ą):SsAt H' v r:=by exists[a,st,nv,h1,h2,h3,h4],x;exact#[a,st,nv,h1,t _ _ h2,h3.ts' t,h4.ts t]
inductive spSteps  (vs:Pz)(H:Hp)(Q:VK)(E_:XK):Prop
 |mk (l:Pg) (xs:Pz) (ds:List Dd) (h0:vs=[.ref l]) (h1:Ü) (h2:Ġ) (h3:ţ) (h4:ł) (h5:∀a ys rs H',Same H H'->H' a=some å->Paired (SsAt H') ys (aP rs)->Runs Ô Č [] ds rs->Q ð H'):spSteps  vs H Q E_
abbrev nO:Stmt:=top 23
abbrev AH:List Str:=["ready"]
theorem zj:FnScope AH ["ready"] (aq nO):= ~~~0
theorem ze(F:Fun K "steps_of" "steps_of" nO f fd)(p9:ù):↑FnOk CX0 8 f fd ["ready"] spSteps:=by
 exists zj
 exists[l,xs,ds,rfl,hl,hd,l3,safe,q],h;exists _,(b_1 (aG (dH (own:=["name","word","step"]) È rfl Ĵ (λ_ _ _ _=>gG (K:=K) (n:=3) rfl rfl (bE (aD (i:=0) (show(["name","word","step"]:List Str).Nodup by decide)) (bE (aD (i:=1) (show(["name","word","step"]:List Str).Nodup by decide)) (bE (aD (i:=2) (show(["name","word","step"]:List Str).Nodup by decide)) fe)))) Æ (λ_ _ _ _=>(oB (aE kn ↑2 cz))) (λ_ _ _ _=>(aB (q_a ↑0 ĩ))))))
 refine#[_,rfl,l,xs,ds,rfl,hl,hd,l3,safe,λa ys rs H1 s1 ea pr run=>#[a,rfl,#[_,Pu ea],?_]];have ln:ì=Í:=(Zw pr).trans (jT run);refine bV (λi zs H'=>Same H1 H'/\zs.length<=i/\Paired (SsAt H') zs (aP Ľ)) ∅ ú #[Same.refl _,Ze _,.nil] ĉ ?_ ?_
 .rintro i zs H' v hv ⟨sm,lz,pz⟩ Y hY;exists[r,hr',t,nv,sv,rfl,e1,e2,e3],ba pr hv;have es:aP (rs.take Ē)=aP Ľ++(r.2.2.map λs=>(r.1,s)).toList:=by unfold aP;rw[eM hr',Y6];exists[n,w',so],r;cases so<;>rfl
  refine#[t,_,rfl,Pt (sm _ _ e1),rfl,_,_,rfl,_,_,rfl,_,_,rfl,rfl,?_];exists[n,w',so],r;cases so with
  |none =>obtain rfl:sv=.non:=e3;refine#[_,rfl,rfl,_,rfl,nB rfl (hY _ _ #[sm,∅,?_])];rw[es];simpa using pz
  |some sd =>exists[st,rfl,est],e3;refine#[_,rfl,rfl,_,rfl,nz nofun ?_];refine#[_,rfl,_,rfl,sz rfl,λu gu=>hY _ _ #[sm.trans Ã,by rw[Zh];exact ZT lz,?_]];rw[es];exact Ys ê #[u,st,nv,rfl,ac,e2.same ĭ,est.ts (Ps ĭ)]
 .rintro zs b H' ⟨sm,lz,pz⟩ gb;rw[(Zw pr),ZI]at pz;exact q b zs rs _ Ą ac ß run
def whD:Option Int->Qb
 |none=>.none
 |some i=>.int i
def upD:Option Nm->Qb
 |none=>.none
 |some n=>nmD n
def plD(ns:Pn):Qb:=.tuple (ns.map PyData.int)
def sdD:Sd->Qb
 |.put n u pl tx=>.tuple [.str "put",nmD n,upD u,plD pl,.str tx]
 |.move n u pl=>.tuple [.str "move",nmD n,upD u,plD pl]
 |.write n tx=>.tuple [.str "write",nmD n,.str tx]
 |.mark n b=>.tuple [.str "mark",nmD n,.bool b]
 |.due n w=>.tuple [.str "due",nmD n,whD w]
 |.fold n b=>.tuple [.str "fold",nmD n,.bool b]
 |.part n a m pl=>.tuple [.str "part",nmD n,.int a,nmD m,plD pl]
 |.join n m=>.tuple [.str "join",nmD n,nmD m]
 |.gone n=>.tuple [.str "gone",nmD n]
theorem wG(h:UpAt H v u):Dt H (upD u) v:=by
 cases u with
 |none =>obtain rfl:v=.non:=h;simp only[upD,Dt]
 |some n=>exact cY h
theorem wx(h:PlAt H v ns):Dt H (plD ns) v:=by exists[b,rfl,e],h;exact jW e
theorem BX(w:Option Int):Dt H (whD w) (whV w):=by cases w<;>simp only[whD,whV,Dt]
theorem cS{H:Hp}{st:Pg}(h:H st=some (.tup vs))(hd:Ų):Dt H (.tuple ds) ı:=by unfold Dt;exact#[st,_,rfl,.inl h,hd]
theorem dP:DtAll H [] []:=by simp[DtAll]
theorem aH(h:Dt H d v)(t:Ų):DtAll H Ĝ (v::vs):=by unfold DtAll;exact#[_,_,rfl,h,t]
theorem dg(s:Str):Dt H (.str s) (.str s):=by simp only[Dt]
theorem A7(b:Bool):Dt H (.bool b) (.bl b):=by simp only[Dt]
theorem Cv(i:Int):Dt H (.int i) (.int i):=by simp only[Dt]
theorem MP{st:Pg}(h:Ł):Dt H (sdD s) ı:=by
 cases s with
 |put=>exists[nv,uv,pv,h1,h2,h3,h4],h;exact cS h1 (aH é (aH ç (aH (wG h3) (aH (wx h4) (aH é dP)))))
 |move=>exists[nv,uv,pv,h1,h2,h3,h4],h;exact cS h1 (aH é (aH ç (aH (wG h3) ŗ)))
 |write=>exists[nv,h1,h2],h;exact cS h1 (aH é (aH ç (aH é dP)))
 |mark=>exists[nv,h1,h2],h;exact cS h1 Ċ
 |due=>exists[nv,h1,h2],h;exact cS h1 (aH é (aH ç (aH (BX _) dP)))
 |fold=>exists[nv,h1,h2],h;exact cS h1 Ċ
 |part=>exists[nv,mv,pv,h1,h2,h3,h4],h;exact cS h1 (aH é (aH ç (aH (Cv _) (aH Ŷ ŗ))))
 |join=>exists[nv,mv,h1,h2,h3],h;exact cS h1 (aH é (aH ç (aH Ŷ dP)))
 |gone=>exists[nv,h1,h2],h;exact cS h1 (aH é (aH ç dP))
def Sd.ok:Sd->Prop
 |.put _ _ _ tx=>PyData.strOk tx=true
 |.write _ tx=>PyData.strOk tx=true
 |_=>True
theorem aW(n:Nm):(nmD n).canLay0=true/\(nmD n).depth=1:=by simp[nmD,PyData.canLay0,PyData.canLayAll0,PyData.depth,PyData.depthAll]
theorem jk(u:ĳ):(upD u).canLay0=true/\(upD u).depth<=1:=by
 cases u with
 |none=>exact#[rfl,⋯]
 |some n=>exact#[(aW n).1,Nat.le_of_eq (aW n).2]
theorem ji(ns:Pn):(plD ns).canLay0=true/\(plD ns).depth=1:=by exists[h1,h2],xQ ns;exact#[by simpa[plD,PyData.canLay0]using h1,by simp[plD,PyData.depth,h2]]
theorem rW(w:Option Int):(whD w).canLay0=true/\(whD w).depth=0:=by cases w<;>exact#[rfl,rfl]
theorem Fb:PyData.strOk "put" = true/\PyData.strOk "move" = true/\PyData.strOk "write" = true/\PyData.strOk "mark" = true/\PyData.strOk "due" = true/\PyData.strOk "fold" = true/\PyData.strOk "part" = true/\PyData.strOk "join" = true:=⋯
theorem Ks{s:Sd}(h:s.ok):(sdD s).canLay0=true/\(sdD s).depth<=2:=by
 exists[w1,w2,w3,w4,w5,w6,w7,w8],Fb;cases s with
 |put n u pl tx=>have:=(jk u).2;exact#[by simp[sdD,PyData.canLay0,PyData.canLayAll0,w1,(aW n).1,(jk u).1,(ji pl).1,show PyData.strOk tx=true from h],by simp only[sdD,PyData.depth,PyData.depthAll,(aW n).2,(ji pl).2];omega]
 |move n u pl=>have:=(jk u).2;exact#[by simp[sdD,PyData.canLay0,PyData.canLayAll0,w2,(aW n).1,(jk u).1,(ji pl).1],by simp only[sdD,PyData.depth,PyData.depthAll,(aW n).2,(ji pl).2];omega]
 |write n tx=>exact#[by simp[sdD,PyData.canLay0,PyData.canLayAll0,w3,(aW n).1,show PyData.strOk tx=true from h],by simp only[sdD,PyData.depth,PyData.depthAll,(aW n).2];omega]
 |mark n b=>exact#[by simp[sdD,PyData.canLay0,PyData.canLayAll0,w4,(aW n).1],by simp only[sdD,PyData.depth,PyData.depthAll,(aW n).2];omega]
 |due n w=>exact#[by simp[sdD,PyData.canLay0,PyData.canLayAll0,w5,(aW n).1,(rW w).1],by simp only[sdD,PyData.depth,PyData.depthAll,(aW n).2,(rW w).2];omega]
 |fold n b=>exact#[by simp[sdD,PyData.canLay0,PyData.canLayAll0,w6,(aW n).1],by simp only[sdD,PyData.depth,PyData.depthAll,(aW n).2];omega]
 |part n a m pl=>exact#[by simp[sdD,PyData.canLay0,PyData.canLayAll0,w7,(aW n).1,(aW m).1,(ji pl).1],by simp only[sdD,PyData.depth,PyData.depthAll,(aW n).2,(aW m).2,(ji pl).2];omega]
 |join n m=>exact#[by simp[sdD,PyData.canLay0,PyData.canLayAll0,w8,(aW n).1,(aW m).1],by simp only[sdD,PyData.depth,PyData.depthAll,(aW n).2,(aW m).2];omega]
 |gone n=>exact#[by simp[sdD,PyData.canLay0,PyData.canLayAll0,show PyData.strOk "gone" = true by decide,(aW n).1],by simp only[sdD,PyData.depth,PyData.depthAll,(aW n).2];omega]
theorem xS{H:Hp}{α:Type}{R:V->α->Prop}{D:α->Qb}{l:Pg}{vs:Pz}{rs:List α}(hl:H l=some (.lst vs))(x:Paired R vs rs)(hD:∀v r,r∈rs->R v r->Dt H (D r) v/\(D r).canLay0=true/\(D r).depth<=3) :
  Dt H ĝ Ŀ/\SeqAt.shaped ĝ=true/\PyData.eqv ĝ ĝ=true:=by
 have gen:DtAll H Õ vs/\PyData.canLayAll0 Õ=true/\PyData.depthAll Õ<=3:=by
  clear hl;induction x with
  |nil=>exact#[dP,rfl,by simp[PyData.depthAll]]
  |@cons p q _ _ r _ ih =>exists[h1,h2,h3],hD p q Zq r;exists[i1,i2,i3],ih λv r hr=>hD v r (Zj _ hr);refine#[aH h1 i1,by simp[PyData.canLayAll0,h2,i2],?_];simp only[Zn,PyData.depthAll];omega
 exists[g1,g2,g3],gen;have c:(PyData.list Õ).canLay0=true:=by simpa[PyData.canLay0]using g2
 refine#[?_,bO c (by simp only[PyData.depth];omega),SeqAt.eqv_refl _ c];simp only[Dt];exact#[l,vs,rfl,.inl hl,g1]
def ssD(r:Nm×Sd):Qb:=.tuple [nmD r.1,sdD r.2]
theorem G1(h:SsAt H v r)(ok:r.2.ok):Dt H (ssD r) v/\(ssD r).canLay0=true/\(ssD r).depth<=3:=by exists[t,st,nv,rfl,h2,h3,h4],h;exists[l1,l2],Ks ok;exact#[cS h2 (aH Ŷ (aH (MP h4) dP)),by simp[ssD,PyData.canLay0,PyData.canLayAll0,(aW r.1).1,l1],by simp only[ssD,PyData.depth,PyData.depthAll,(aW r.1).2];omega]
section
variable{ts:Ć}{d:Dd}
theorem kF(c:į)(c2:đ)(h:à):∃w so ol' rs',rs=(d.1,w,so)::rs'/\PlayR ol d.1 d.2 w so ol'/\Runs ts tn ol' ds rs':=by
 cases h with
 |off z _=>rw[c]at z;cases z
 |turn _ z _=>rw[c2]at z;cases z
 |play _ _ p r=>exact#[_,_,_,_,rfl,p,r]
theorem mH(c:cR d ts=true)(h:à):∃rs':List bp,rs=(ō:bp)::rs'/\Runs ts tn ol ds rs':=by
 cases h with
 |off _ r=>exact#[_,rfl,r]
 |turn z _ _=>rw[c]at z;cases z
 |play z _ _ _=>rw[c]at z;cases z
theorem kG(c:į)(c2:d.2.isTurn=true)(h:à):∃rs':List bp,rs=(Û:bp)::rs'/\Runs ts tn ol ds rs':=by
 cases h with
 |off z _=>rw[c]at z;cases z
 |turn _ _ r=>exact#[_,rfl,r]
 |play _ z _ _=>rw[c2]at z;cases z
theorem ur(h:Runs ts tn ol [] rs):rs=[]:=by cases h;rfl
theorem D6(c:į)(c2:đ)(h1:Ť)(h2:ô)(h3:∀w so ol',PlayR ol d.1 d.2 w so ol'->hV ts ol' ds):hV ts ol Ĝ:=by unfold hV;exact#[λz=>(by rw[c,c2]at z;rcases z with z|z<;>cases z),λ_ _=>#[h1,h2,h3]]
theorem vy(c:č)(h:hV ts ol ds):hV ts ol Ĝ:=by unfold hV;exact#[λ_=>h,λz1 z2=>by rw[z1,z2]at c;rcases c with c|c<;>cases c]
#check 0
theorem uM{k k':ď}(h:ť):Und ol o k' u b'->b=b':=by
 induction h generalizing k' b' with
 |none=>intro h';cases h';rfl
 |self=>intro h';cases h' with
  |self=>rfl
  |up ne _ _=>exact absurd rfl ne
 |up ne e _ ih=>intro h';cases h' with
  |self=>exact absurd rfl ne
  |up _ e' h2 =>rw[e]at e';cases e';exact ih h2
theorem DJ{w:Str}(h:PlayR ol n .none w so ol'):w="done"/\so=none/\ol'=ol:=by
 cases h with
 |none=>exact#[rfl,rfl,rfl]
 |step hs _ _=>cases hs
inductive Ch(ol:Ol):Nat->Option Nm->Prop
 |none:Ch ol 0 none
 |up {k:Nat} {n:Nm} {it:It}:look ol n=some it->Ch ol k Ĩ->Ch ol (k+1) ġ
def Ter(ol:Ol):Prop:=∀n it,look ol n=some it->∃k,Ch ol k ġ
theorem yM{k:ď}(h:Ch ol k u)(o:Nm):∃k' b,Und ol o k' u b:=by
 induction h with
 |none=>exact#[0,false,.none]
 |@up k n it hl _ ih =>
  by_cases c:n=o
  .exact#[0,true,c▸.self]
  .exists[k',b,x],ih;exact#[k'+1,b,.up c hl x]
theorem Ter.up{ol:Ol}(t:ĵ){n:Nm}{it:It}(h:ć):∃k,Ch ol k Ĩ:=by
 exists[k,x],t n it h;cases x with
 |up hl y =>rw[h]at hl;cases hl;exact#[_,y]
theorem pO(hh:∀n it,look ol n=some it->∃it',look ol' n=some it'/\it'.up=Ĩ){k:ď}(h:Ch ol k u):Ch ol' k u:=by
 induction h with
 |none=>exact .none
 |up hl _ ih =>exists[it',h1,h2],hh _ _ hl;exact .up h1 (h2▸ih)
theorem Ter.keep(t:ĵ){it it':It}(h:ć)(e:it'.up=Ĩ):Ter Ê:=by
 have mono:∀x i,look ol x=some i->∃i',look Ê x=some i'/\i'.up=ŧ:=λx i hx=>by
  rw[ay];by_cases c:x=n
  .rw[Pb c];subst c;rw[h]at hx;cases hx;exact#[_,rfl,e]
  .rw[Pa c];exact#[_,hx,rfl]
 intro x i hx;rw[ay]at hx;by_cases c:x=n
 .subst c;exists[k,y],t x it h;exact#[k,pO mono y]
 .rw[Pa c]at hx;exists[k,y],t x i hx;exact#[k,pO mono y]
theorem Ter.new{ol:Ol}(t:ĵ){n:Nm}{it:It}{k:ď}(h:Ŧ)(c:Ch ol k Ĩ):Ter Ú:=by
 have mono:∀x i,look ol x=some i->∃i',look Ú x=some i'/\i'.up=ŧ:=λx i hx=>by rw[ay,Pa λz=>by rw[z,h]at hx;cases hx];exact#[_,hx,rfl]
 intro x i hx;by_cases e:x=n
 .subst e;exact#[_,.up û (pO mono c)]
 .rw[ay,Pa e]at hx;exists[k,y],t x i hx;exact#[k,pO mono y]
theorem Go{k:ď}(h:ť)(hb:b=false):Ch (aw ol o x) k u:=by
 induction h with
 |none=>exact .none
 |self=>cases hb
 |up hn hl _ ih=>exact .up (by rw[ay,Pa hn];exact hl) (ih hb)
theorem Ter.move{ol:Ol}(t:ĵ){n:Nm}{it':It}{k:ď}(un:Und ol n k it'.up false):Ter Ê:=by
 have cn:Ch Ê (k+1) ġ:=.up û (Go un rfl);have gen:∀{k:ď} {u:ĳ},Ch ol k u->∃k',Ch Ê k' u:=λh=>by
  induction h with
  |none=>exact#[0,.none]
  |@up k x i hl _ ih =>
   by_cases c:x=n
   .exact#[_,by rw[c];exact cn]
   .exists[k',y],ih;exact#[_,.up (by rw[ay,Pa c];exact hl) y]
 intro x i hx;by_cases c:x=n
 .exact#[_,by rw[c];exact cn]
 .rw[ay,Pa c]at hx;exists[k,y],t x i hx;exact gen y
theorem lE(hn:ÿ)(hm:Ā)(j:á):
  (∀x,look ol x=none->look ol' x=none)/\∀x it,look ol x=some it->∃i,look ol' x=some (cP n m i)/\ŧ=Ĩ/\i.tx=(if x=m then("":Str)else if x=n then itn.tx++itm.tx else it.tx):=by
 exists[itm2,h2,hl],j.lk;have em:itm2.up=itm.up:=by
  rw[ay]at h2;by_cases c:m=n
  .rw[Pb c]at h2;subst c;rw[hn]at hm;cases hm;cases h2;rfl
  .rw[Pa c,hm]at h2;cases h2;rfl
 refine#[λx hx=>?_,λx it hx=>?_]
 .have d1:x≠m:=λz=>by rw[z,hm]at hx;cases hx
  have d2:x≠n:=λz=>by rw[z,hn]at hx;cases hx
  rw[hl x,ay,ay,Pa d1,Pa d2,hx];rfl
 .rw[hl x,ay,ay];by_cases c:x=m
  .rw[Pb c,Pb c];subst c;rw[hm]at hx;cases hx;exact#[_,rfl,em,rfl]
  .rw[Pa c,Pa c];by_cases c2:x=n
   .rw[Pb c2,Pb c2];subst c2;rw[hn]at hx;cases hx;exact#[_,rfl,rfl,rfl]
   .rw[Pa c2,Pa c2,hx];exact#[_,rfl,rfl,rfl]
theorem ul(n m:Nm)(i:It):(cP n m i).up=if ŧ=some m then some n else ŧ:=by unfold cP;split<;>rfl
theorem Jh(n m:Nm)(i:It):(cP n m i).tx=i.tx:=by unfold cP;split<;>rfl
theorem Ay{k:ď}(h:Und ol o k u false):u≠some o:=by
 intro z;subst z;cases h with
 |up hn _ _=>exact hn rfl
theorem Ter.join{ol ol':Ol}{n m:Nm}{itn itm:It}(t:ĵ)(hn:ÿ)(hm:Ā)(j:á){k:ď}(un:Und ol m k ġ false):Ter ol':=by
 exists[j0,j1],lE hn hm j;have c1:∀{k:ď} {u:ĳ} {b:Bool},Und ol m k u b->b=false->Ch ol' k u:=λh=>by
  induction h with
  |none=>intro _;exact .none
  |self=>intro z;cases z
  |@up k x i b hx hl y ih =>intro hb;subst hb;exists[i',e1,e2,_],j1 x i hl;refine .up e1 ?_;rw[ul,e2,Pa (Ay y)];exact ih rfl
 have gen:∀{k:ď} {u:ĳ},Ch ol k u->∃k',Ch ol' k' u:=λh=>by
  induction h with
  |none=>exact#[0,.none]
  |@up k x i hl _ ih =>
   exists[i',e1,e2,_],j1 x i hl;by_cases c:ŧ=some m
   .exact#[_,.up e1 (by rw[ul,e2,Pb c];exact c1 un rfl)]
   .exists[k',y],ih;exact#[_,.up e1 (by rw[ul,e2,Pa c];exact y)]
 intro x i hx;cases e:look ol x with
 |none=>rw[j0 x e]at hx;cases hx
 |some i0 =>exists[k,y],t x i0 e;exact gen y
def wt(ol:Ol)(x:Nm):Nat:=match look ol x with
 |some it=>Â
 |none=>0
theorem gj(h:look ol x=some it):wt ol x=Â:=by unfold wt;rw[h]
theorem AA(h:look ol x=none):wt ol x=0:=by unfold wt;rw[h]
theorem mS:wt Ú x=if x=n then Â else wt ol x:=by
 unfold wt;rw[ay];by_cases c:x=n
 .rw[Pb c,Pb c]
 .rw[Pa c,Pa c]
theorem qc{f:Nm->Nat}:∀{L:Ě} {x:Nm},x∈L->f x<=(L.map f).sum
 |y::L,x,h=>by
  rw[Zn,List.sum_cons];rcases Zg.mp h with rfl|h
  .omega
  .have:=qc (f:=f) h;omega
theorem Ec{f g:Nm->Nat}{L:Ě}(h:∀y∈L,f y=g y):(L.map f).sum=(L.map g).sum:=by rw[List.map_congr_left h]
theorem mP{f g:Nm->Nat}:∀{L:Ě},L.Nodup->x∈L->(∀y,y≠x->f y=g y)->(L.map f).sum+g x=(L.map g).sum+f x
 |y::L,nd,h,e=>by
  rw[Z3]at nd;rw[Zn,List.sum_cons,Zn,List.sum_cons];rcases Zg.mp h with rfl|h
  .have:(L.map f).sum=(L.map g).sum:=Ec λy hy=>e y λz=>nd.1 (z▸hy);omega
  .have:=mP nd.2 h e;have:=e y λz=>nd.1 (z▸h);omega
structure Inv(ol:Ol)(B:ď):Prop where
 ter:Ter ol
 wgt:∃L:List Nm,L.Nodup/\(∀x,(look ol x).isSome=true↔x∈L)/\(L.map Ķ).sum<=B
theorem Nk:Inv [] 0:=#[λn it h=>ľ,[],List.nodup_nil,λx=>#[λh=>ľ,λh=>ľ],Ze _]
theorem Inv.small{B:ď}(v:Ģ)(h1:Ħ<=63)(h2:B<=400):Small ol:=by exists[L,nd,hL,hs],ā;refine#[h1,λn it h=>?_];have:=qc (f:=wt ol) ((hL n).mp ř);rw[gj h]at this;omega
theorem Inv.more{B C:ď}(v:Ģ)(h:B<=C):Inv ol C:=#[v.ter,by exists[L,a,b,c],ā;exact#[L,a,b,Zr c h]]
theorem mR{B c:ď}{it it':It}(v:À)(h:ć)(e:it'.tx.length<=Â+c):∃L:List Nm,L.Nodup/\(∀x,(look Ê x).isSome=true↔x∈L)/\(L.map (wt Ê)).sum<=B+c:=by
 exists[L,nd,hL,hs],v;have hn:n∈L:=(hL n).mp ř;refine#[L,nd,λx=>?_,?_]
 .rw[ay];by_cases z:x=n
  .rw[Pb z,z];exact#[λ_=>hn,λ_=>rfl]
  .rw[Pa z];exact hL x
 .have:=mP (f:=wt Ê) (g:=wt ol) nd hn λy hy=>by rw[mS,Pa hy]
  rw[mS,Pb rfl,gj h]at this;omega
theorem uN{B:ď}(v:À)(h:Ŧ):∃L:List Nm,L.Nodup/\(∀x,(look Ú x).isSome=true↔x∈L)/\(L.map (wt Ú)).sum<=B+Â:=by
 exists[L,nd,hL,hs],v;have hn:¬n∈L:=λz=>by have:=(hL n).mpr z;rw[h]at this;cases this
 refine#[n::L,Z3.mpr #[hn,nd],λx=>?_,?_]
 .rw[ay,Zg];by_cases z:x=n
  .rw[Pb z];exact#[λ_=>.inl z,λ_=>rfl]
  .rw[Pa z,hL x];exact#[.inr,λy=>y.resolve_left z]
 .rw[Zn,List.sum_cons,mS,Pb rfl];have:(L.map (wt Ú)).sum=(L.map Ķ).sum:=Ec λy hy=>by rw[mS,Pa λz:y=n=>hn (z▸hy)]
  omega
set_option tactic.hygienic true in theorem Cm(x:Str){a b:ď}(hab:a<=b)(hb:b<=Ă):(bY x (some (a:Int)) (some (b:Int))).length=b-a:=by
 unfold bY;split
 .rename_i h;rw[StrLaws.strSliceIndices_plain hab hb,Zd,List.length_range]at h;exact h.symm
 .rw[StrLaws.sliced_plain x hab hb];show(List.toArray _).size=_;rw[Zl,y7,YL];have:x.cps.toList.length=Ă:=rfl;omega
theorem Hz{x:Str}{a:Int}(h:¬(Ă:Int)<a):(bY x none Ĳ).length+(bY x Ĳ none).length=Ă:=by
 have e:Ä=((a.toNat:Nat):Int):=by split<;>omega
 have hk:a.toNat<=Ă:=∅
 have e1:bY x none Ì=bY x (some ((0:ď):Int)) Ì:=by unfold bY;rw[StrLaws.sliceIdx_none_lo];rfl
 have e2:bY x Ì none=bY x Ì (some ((Ă:ď):Int)):=by unfold bY;rw[StrLaws.sliceIdx_none_hi]
 rw[e,e1,e2,Cm x (ZH _) hk,Cm x hk (Ze _)];omega
theorem Gr{B:ď}(v:À)(hn:ÿ)(hm:Ā)(nm:n≠m)(j:á):∃L:List Nm,L.Nodup/\(∀x,(look ol' x).isSome=true↔x∈L)/\(L.map (wt ol')).sum<=B:=by
 exists[L,nd,hL,hs],v;exists[j0,j1],lE hn hm j;have mn:n∈L:=(hL n).mp (by rw[hn];rfl);have mm:m∈L:=(hL m).mp (by rw[hm];rfl);refine#[L,nd,λx=>?_,?_]
 .rw[<-hL x];cases e:look ol x with
  |none=>rw[j0 x e]
  |some it =>exists[i,e1,_],j1 x it e;rw[e1];exact#[λ_=>rfl,λ_=>rfl]
 .let g:Nm->Nat:=λx=>if x=n then Ĥ+itm.tx.length else wt ol x
  have w1:∀x,wt ol' x=if x=m then 0 else g x:=λx=>by
   show _=if x=m then 0 else if x=n then Ĥ+itm.tx.length else wt ol x
   cases e:look ol x with
   |none =>
    have d1:x≠m:=λz=>by rw[z,hm]at e;cases e
    have d2:x≠n:=λz=>by rw[z,hn]at e;cases e
    rw[AA (j0 x e),Pa d1,Pa d2,AA e]
   |some it =>
    exists[i,e1,_,e3],j1 x it e;rw[gj e1,Jh,e3];by_cases c:x=m
    .rw[Pb c,Pb c];decide +kernel
    .rw[Pa c,Pa c];by_cases c2:x=n
     .rw[Pb c2,Pb c2,tV]
     .rw[Pa c2,Pa c2,gj e]
  have s1:=mP (f:=wt ol') (g:=g) nd mm λy hy=>by rw[w1 y,Pa hy]
  have s2:=mP (f:=g) (g:=wt ol) nd mn λy hy=>by show(if y=n then _ else _)=_;rw[Pa hy]
  have g1:g m=Ś:=by show(if m=n then _ else _)=_;rw[Pa (ZQ nm),gj hm]
  have g2:g n=Ĥ+Ś:=by show(if n=n then _ else _)=_;rw[Pb rfl]
  have g3:wt ol' m=0:=by rw[w1 m,Pb rfl]
  rw[gj hn]at s2;omega
def tu(t:Str):Prop:=PyData.strOk t=true/\t.length<=5
def DOk:Wd->Prop
 |.put _ _ tx=>tu tx
 |.write _ tx=>tu tx
 |.part _ a _=>0<=a
 |_=>True
def Gx:Sd->Prop
 |.put _ _ _ tx=>tu tx
 |.write _ tx=>tu tx
 |_=>True
theorem D8(h:Ý)(d:DOk wd):Gx s:=by cases wd<;>cases h<;>first|exact d|trivial
def Wd.mk:Wd->Bool
 |.put _ _ _=>true
 |.part _ _ _=>true
 |_=>false
theorem mO(h:Ý):Ń=if wd.mk=true then[n]else[]:=by cases wd<;>cases h<;>rfl
theorem HS{pl:Pn}(h:fG ol ŋ)(t:ĵ):∃k,Ch ol k u:=by
 cases u with
 |none=>exact#[0,.none]
 |some m =>exists[it,e],Zv.mp (h m Ù);exact t m it e
structure Kept(ol ol':Ol)(new:Ě)(B:ď):Prop where
 inv:Inv ol' B
 len:ol'.length<=Ħ+1
 non:∀x,¬x∈new->look ol x=none->look ol' x=none
def BdN(ol:Ol):Sd->Prop
 |.move n u _=>∃k,Und ol n k u false
 |.join n m=>∃k,Und ol m k ġ false
 |.part n a _ _=>∃it,look ol n=some it/\¬(Â:Int)<a
 |_=>True
theorem Ht(h:Bd ol s r)(e:r=none):BdN ol s:=by
 cases h with
 |@move n u pl k b un =>
  cases b with
  |false=>exact#[k,un]
  |true=>cases e
 |@join n m k b un =>
  cases b with
  |false=>exact#[k,un]
  |true=>cases e
 |@part n a m pl it hl =>refine#[it,hl,λz=>?_];rw[Pb z]at e;cases e
 |_=>trivial
theorem Hr{B:ď}(v:Ģ)(hh:fG ol s)(hb:Bd ol s none)(ok:Gx s)(nw:∀n∈Ń,look ol n=none)(ap:Ap ol s ol'):Kept ol ol' Ń (B+5):=by
 have bd:=Ht hb rfl;cases ap with
 |@put n u pl tx =>
  have hn:look ol n=none:=nw n Ņ;exists[k,c],HS hh v.ter;refine#[#[v.ter.new hn c,?_],dR _ _ _,λx hx h=>?_]
  .exists[L,a,b,c],uN (it:=#[u,pl,tx,false,none,false]) ā hn;exact#[L,a,b,Zr c Ĕ]
  .rw[ay,Pa λz=>hx Ĺ];exact h
 |gone=>exact#[v.more ñ,YE _,λx _ h=>h]
 |@move n u pl it hl =>exists[k,un],bd;refine#[#[v.ter.move un,mR ā hl ñ],dR _ _ _,λx _ h=>?_];rw[ay,Pa λz=>by rw[z,hl]at h;cases h];exact h
 |@write n tx it hl =>refine#[#[v.ter.keep hl rfl,mR ā hl (Zr ok.2 (Nat.le_add_left _ _))],dR _ _ _,λx _ h=>?_];rw[ay,Pa λz=>by rw[z,hl]at h;cases h];exact h
 |@mark n b it hl =>refine#[#[v.ter.keep hl rfl,mR ā hl ñ],dR _ _ _,λx _ h=>?_];rw[ay,Pa λz=>by rw[z,hl]at h;cases h];exact h
 |@due n b it hl =>refine#[#[v.ter.keep hl rfl,mR ā hl ñ],dR _ _ _,λx _ h=>?_];rw[ay,Pa λz=>by rw[z,hl]at h;cases h];exact h
 |@fold n b it hl =>refine#[#[v.ter.keep hl rfl,mR ā hl ñ],dR _ _ _,λx _ h=>?_];rw[ay,Pa λz=>by rw[z,hl]at h;cases h];exact h
 |@part n a m pl it hl =>
  exists[it2,hl2,na],bd;rw[hl]at hl2;cases hl2;have hm:look ol m=none:=nw m Ņ;have nmn:m≠n:=λz=>by rw[z,hl]at hm;cases hm
  have cl:=Hz na;generalize bY it.tx none Ĳ=t1 at cl ⊢;generalize bY it.tx Ĳ none=t2 at cl ⊢;have hm1:look (aw ol n { it with tx:=t1 }) m=none:=by rw[ay,Pa nmn];exact hm
  have t1':Ter (aw ol n { it with tx:=t1 }):=v.ter.keep hl rfl;exists[k,c],t1'.up (n:=n) (it:={ it with tx:=t1 }) û;refine#[#[t1'.new hm1 c,?_],?_,λx hx h=>?_]
  .exists[L,nd,hL,hs],ā;have hn:n∈L:=(hL n).mp (by rw[hl];rfl);have w1:=mP (f:=wt (aw ol n { it with tx:=t1 })) (g:=wt ol) nd hn λy hy=>by rw[mS,Pa hy]
   rw[mS,Pb rfl,gj hl]at w1;have w1':(L.map (wt (aw ol n { it with tx:=t1 }))).sum<=B-Ĉ:=by
    have:Â<=(L.map Ķ).sum:=by rw[<-gj hl];exact qc hn
    have w2:(L.map (wt (aw ol n { it with tx:=t1 }))).sum+Â=(L.map Ķ).sum+t1.length:=w1;omega
   have le:Ĉ<=B:=by
    have:Â<=(L.map Ķ).sum:=by rw[<-gj hl];exact qc hn
    omega
   exists[L',a',b',c'],uN (it:=#[Ĩ,pl,t2,false,none,false]) (B:=B - Ĉ) #[L,nd,λx=>by
    rw[ay];by_cases z:x=n
    .rw[Pb z,z];exact#[λ_=>hn,λ_=>rfl]
    .rw[Pa z];exact hL x,w1'] hm1
   refine#[L',a',b',Zr c' ?_];show B-Ĉ+Ĉ<=B+5;omega
  .have:=dR (aw ol n { it with tx:=t1 }) m #[Ĩ,pl,t2,false,none,false];rw[dM hl]at this;exact this
  .have d1:x≠m:=λz=>hx Ĺ;have d2:x≠n:=λz=>by rw[z,hl]at h;cases h
   rw[ay,Pa d1,ay,Pa d2];exact h
 |@join n m itn itm _ hn hm j =>exists[k,un],bd;have nm:n≠m:=λz=>Ay un (ZO some z);refine#[#[v.ter.join hn hm j un,?_],by rw[j.len];exact YE _,λx _ h=>(lE hn hm j).1 x h];exists[L,a,b,c],Gr ā hn hm nm j;exact#[L,a,b,Zr c ñ]
theorem DF{w:Str}{B:ď}(v:Ģ)(ok:DOk wd)(nw:ģ)(h:PlayR ol n wd w so ol'):Kept ol ol' Ď (B+5):=by
 have id':Kept ol ol Ď (B+5):=#[v.more ñ,YE _,λ_ _ h=>h]
 cases h with
 |none=>exact id'
 |take=>exact id'
 |back=>exact id'
 |@top m pl tx hm =>
  have hn:=nw rfl;refine#[#[v.ter.new hn .none,?_],dR _ _ _,λx hx h=>?_]
  .exists[L,a,b,c],uN (it:=#[none,pl,tx,false,none,false]) ā hn;exact#[L,a,b,Zr c Ĕ]
  .rw[ay,Pa λz=>hx (by rw[z];exact Zi.mpr rfl)];exact h
 |@step _ s w _ hs _ wr =>
  cases wr with
  |none=>exact id'
  |beneath=>exact id'
  |far=>exact id'
  |done hh hb ap =>
   have:=Hr v hh hb (D8 hs ok) (λm hm=>by
    rw[mO hs]at hm;by_cases c:wd.mk=true
    .rw[Pb c]at hm;rw[Zi.mp hm];exact nw c
    .rw[Pa c]at hm;cases hm) ap
   rw[mO hs]at this;exact this
theorem yn{wd:Wd}{B:ď}(v:Ģ)(nw:ģ)(hs:Ý):Ready ol s:=by
 refine#[λm hm=>?_,λhd=>?_,λm z=>by subst z;cases wd<;>simp[cQ]at hs]
 .rw[mO hs]at hm;by_cases c:wd.mk=true
  .rw[Pb c]at hm;rw[Zi.mp hm];exact nw c
  .rw[Pa c]at hm;cases hm
 .cases wd with
  |put u pl tx=>cases hs;exact#[_,.put]
  |move m u pl =>
   cases hs;have:∃k,Ch ol k u:=by
    cases u with
    |none=>exact#[0,.none]
    |some x =>exists[it,e],Zv.mp (hd x Ù);exact v.ter x it e
   exists[k,c],this;exists[k',b,un],yM c m;exact#[_,.move un]
  |write m tx=>cases hs;exact#[_,.write]
  |mark m b=>cases hs;exact#[_,.mark]
  |due m b=>cases hs;exact#[_,.due]
  |fold m b=>cases hs;exact#[_,.fold]
  |part m a pl =>cases hs;exists[it,e],Zv.mp (hd m Ù);exact#[_,.part e]
  |join m o =>cases hs;exists[it,e],Zv.mp (hd m Ù);exists[k,c],v.ter m it e;exists[k',b,un],yM c o;exact#[_,.join un]
  |_=>cases hs
end
mutual
#check#[(.inr (.inr #[by simp only[Wd.word,ne_eq];decide +kernel,by simp only[Wd.word,ne_eq];decide +kernel,by simp only[Wd.word,ne_eq];decide +kernel,.inr #[rfl,λH r ⟨nv,h,a⟩=>#[nv,_,n,h,a,rfl]]])),(↑Fn 1 "name_of" ["deed"] spNameOf),(rs.map λr:bp=>(nk r.1,V.str r.2.1)),(if false=true then !inV (V.str wd.word) [.str "take",.str "off",.str "on",.str "none"]else inV (V.str wd.word) [.str "take",.str "off",.str "on",.str "none"]),(L.zip W),(q_a ↑0 ai),(by simp only[Wd.word,ne_eq];decide +kernel),(am ao ↑1 ah),(L.map Prod.snd),(if false=true then !inV (V.str W[i]) [.str "done",.str "top"]else inV (V.str W[i]) [.str "done",.str "top"]),(bq (aT ⋯) aK (bq (aT ⋯) aK fB bG) (bZ aK bG)),((L.zip W).take i),(am ao ↑0 ah),(#[rfl,⋯,⋯,rfl,trivial]:CompOk _ _ [] []),(D.map Prod.snd),wd.word,((bC Ä).map Prod.snd),(.lst []),hr.units,(aO a6 ↑99 Å),(q_a ↑1 ai),(fun(p:List Key×V) (q:Nm×Nm)=>p.1=nk q.1/\NameIs H p.2 (nk q.2)),((L.zip W).take (i+1)),0,(upd H4 pk4 (.lst zs)),(.dT (bR [] ps)),(.tuple [.str "back",nmD it]),(q_a ar (q_a ar ai)),(aQ (aU L)),(Classical.propDecidable _),(aO r6 ↑99 (q_a ↑0 (q_a (aO a6 ↑99 Ô) ai))),(H l=some (.lst xs)),(.ref l),(H t=some (.tup (ce (.str Ï::r) none (some 2)))),(λd hd=>ok d (Zj _ hd)),(bR (aS kvs p.1 p.2) ps),(∀n,(∀x∈L,nm3 x.2≠n)->look ov n=none),(q_a ↑2 ai),zs.length,(.tup [.str "back",iv]),(.dT (bR [] Â)),(.lst (zs++[.ref tr])),(PlayR ol n wd w so ol'),(TS H H'),(↑Fn 2 "hears" ["deed","name"] spHears),(↑Fn 3 "apart" ["one","other"] spApart),(L.drop (k+1)),(nomatch z),(List ((Pg×D3)×Str)),(Runs ts tn ol ds rs),(NameIs H iv (nk it)),(↑Fn 8 "words_of" ["ready"] spWords),(λ_ _ _ z=>z.2.1),(Nat),(.tup [.str "take",.str "join"]),0,(λ_ _ _ _=>↑0),(nm3 L[k].2),(L[i],r.2.1),(.cons #[t,rfl,wl _ _ e1] .nil),(λi Z H' _ z=>Pu (z.1 _ _ hl)),(Eqo a b),(.ref p),(.ref a),(∀n∈s.news,look ol n=none),(Ps wu),(OlE C H p d g ol),(.lst zs),(∀s∈ss,∀n,s≠.gone n),(vs=[.ref l]),(aU L),(aO u7 ↑99 (q_a ↑0 Ô)),(List.replicate n (0:Int)),(List D3),(k+1),(DA H a d),(Option V),(am ao Ì ah),(aE bW Ç ar),(s1.trans wl),(s2.trans s3),(kp b o hb e),(∀x∈L,DA H x.1 x.2),(V.str D[i].2.2.2.word),(V.str L[k].2.2.2.word),(.str Ï),(.ref od),((ci Ä).map Prod.snd),(LR3 H l L),(ns.map nmD),(λl=>l[i]?),(nm3 L[j].2),(λz=>c (c2.trans z)),(Ps sm),dj.nd,(q_a ar (q_a ar Û)),(hh.mpr c'),(q_a Ó ai),(bR kvs ps),(sm _ _ e1),(S5 _ _ hl),(nk r.1),(aT ⋯),(Ps s89),(RsAt H r wd),(Paired (StV H) xs ss),(As Nm),z.symm,(λs z=>nomatch z),i.toNat,dF.nd,(mem x hx),(ad gtr _),(by rw[aY];omega),(λd=>eO ol Î d),(aR L),(nk n),(dg _),(j<L.length),(WoAt _ _ _),as.length,rs.length,(Ps s1),(p.1,v),(lC wd),(Ps w8),((sk _ _).mpr c),(aO j8 ↑99 Å),(List Pg),tactic.hygienic,(hh.mp c),(d.1:Int),(aj e nx),(.ref ta),(.ref kd),(.ref rl),((sk _ _).mp z),0,((d.1:Nat):Int),((e.1:Nat):Int),(b_1 (aG ↑1)),(λ_ _ _ _=>iM),(s11.trans wtr),(z.1 _ _ lr5.1),(mg "dict" = none),(as.map V.ref),(0,0,[],.none),(spSteppedA C),(s89.trans sA),(sm.trans wlt),(upd Ø kd Ù),(upd H9 rl é),(some x),(.ref t),(Ps s57),(b_1 (aG iE)),(.str Ï::ds),(spStepped C),(q_a ↑0 å),(s1.trans s2),(q_a ↑3 ai),(q_a ↑4 ai),(q_a ↑5 ai),(Same.refl _),(z.1 _ _ ea5),(V.str.inj z),(As Dd),(NameIs H nv Ĵ),(i+1),(List Key),(Nm×Nm),(Int),(NmsAt H xs ns),hd.dd,wd.ok,gO.nd,(Pt e1),(bS ai),(Ps wl),(Pt ac),(Ps S8),(iB wd),("off":Str),(λz=>e ī),(q_a Ì ai),(q_a Ç ai),(zt rfl Ò),(L[i],W[i]),(mem x hx'),(nm3 z.1.2),(TK.take i),(List Pn)]
structure Fresh(ol:Ol)(ds:List Dd):Prop where
 ok:∀d∈ds,DOk d.2
 non:∀d∈ds,d.2.mk=true->look ol d.1=none
 pw:ds.Pairwise λd e=>d.2.mk=true->e.2.mk=true->d.1≠e.1
theorem Fresh.tail(f:Fresh ol (d::ds)):Fresh ol ds:=#[λe he=>f.ok e (Zj _ he),λe he=>f.non e (Zj _ he),(List.pairwise_cons.mp f.pw).2]
def Eqo(a b:Ol):Prop:=∀x,look a x=look b x
theorem uL(e:ý){k:õ}(h:Und a o k u c):Und b o k u c:=by
 induction h with
 |none=>exact .none
 |self=>exact .self
 |up hn hl _ ih=>exact .up hn (by rw[<-e];exact hl) ih
theorem md(e:ý)(h:Bd a s r)(h':Bd b s r'):r=r':=by
 cases h with
 |move un=>cases h' with|move un'=>rw[uM (uL e un) un']
 |join un=>cases h' with|join un'=>rw[uM (uL e un) un']
 |part hl =>
  cases h' with
  |part hl' =>rw[e,hl']at hl;cases hl;rfl
 |put=>cases h';rfl
 |write=>cases h';rfl
 |mark=>cases h';rfl
 |due=>cases h';rfl
 |fold=>cases h';rfl
 |gone=>cases h';rfl
theorem dZ(e:ý)(n:Nm)(it:It):Eqo (aw a n it) (aw b n it):=λx=>by rw[ay,ay,e x]
theorem JY(e:ý)(h:Ap a s a')(h':Ap b s b'):Eqo a' b':=by
 cases h with
 |put=>cases h';exact dZ e _ _
 |gone=>cases h';exact e
 |move hl=>cases h' with|move hl'=>rw[e,hl']at hl;cases hl;exact dZ e _ _
 |write hl=>cases h' with|write hl'=>rw[e,hl']at hl;cases hl;exact dZ e _ _
 |mark hl=>cases h' with|mark hl'=>rw[e,hl']at hl;cases hl;exact dZ e _ _
 |due hl=>cases h' with|due hl'=>rw[e,hl']at hl;cases hl;exact dZ e _ _
 |fold hl=>cases h' with|fold hl'=>rw[e,hl']at hl;cases hl;exact dZ e _ _
 |part hl=>cases h' with|part hl'=>rw[e,hl']at hl;cases hl;exact dZ (dZ e _ _) _ _
 |join hn hm j =>
  cases h' with
  |join hn' hm' j' =>rw[e,hn']at hn;cases hn;rw[e,hm']at hm;cases hm;exists[i1,x1,y1],j.lk;exists[i2,x2,y2],j'.lk;rw[dZ e _ _ _,x2]at x1;cases x1;intro x;rw[y1 x,y2 x,dZ (dZ e _ _) _ _ x]
theorem EZ(e:ý)(s:Sd):fG a s↔fG b s:=by unfold fG;exact#[λh n hn=>by rw[<-e];exact h n hn,λh n hn=>by rw[e];exact h n hn]
theorem Gs(e:ý){w w':Str}(h:WordR a s w a')(h':WordR b s w' b'):w=w'/\Eqo a' b':=by
 have hh:=EZ e s;cases h with
 |none c =>
  cases h' with
  |none _=>exact#[rfl,e]
  |beneath c' _=>exact absurd Ġ c
  |far c' _=>exact absurd Ġ c
  |done c' _ _=>exact absurd Ġ c
 |beneath c b1 =>
  cases h' with
  |none c'=>exact absurd ł c'
  |beneath _ _=>exact#[rfl,e]
  |far _ b2=>cases md e b1 b2
  |done _ b2 _=>cases md e b1 b2
 |far c b1 =>
  cases h' with
  |none c'=>exact absurd ł c'
  |beneath _ b2=>cases md e b1 b2
  |far _ _=>exact#[rfl,e]
  |done _ b2 _=>cases md e b1 b2
 |done c b1 ap =>
  cases h' with
  |none c'=>exact absurd ł c'
  |beneath _ b2=>cases md e b1 b2
  |far _ b2=>cases md e b1 b2
  |done _ _ ap'=>exact#[rfl,JY e ap ap']
theorem ky(e:ý){w w':Str}(h:PlayR a n wd w so a')(h':PlayR b n wd w' so' b'):w=w'/\so=so'/\Eqo a' b':=by
 cases h with
 |none =>exists[rfl,rfl,rfl],DJ h';exact#[rfl,rfl,e]
 |@take m =>
  cases h' with
  |take=>rw[e];exact#[rfl,rfl,e]
  |step hs _ _=>cases hs
 |@back m =>
  cases h' with
  |back=>rw[e];exact#[rfl,rfl,e]
  |step hs _ _=>cases hs
 |@top m pl tx hm =>
  cases h' with
  |top _=>exact#[rfl,rfl,dZ e _ _]
  |step _ ht _ =>have:(!(look b m).isSome)=false:=ht;rw[<-e,hm]at this;cases this
 |@step _ s w a' hs ht wr =>
  generalize hso:(if w'=("done":Str)then some s else none)=so2;cases h' with
  |none=>cases hs
  |take=>cases hs
  |back=>cases hs
  |@top m pl tx hm =>have:(!(look a m).isSome)=false:=ht;rw[e,hm]at this;cases this
  |step hs' _ wr' =>rw[hs]at hs';cases hs';exists[rfl,x],Gs e wr wr';exact#[rfl,rfl,x]
theorem IT{w:Str}(ok:DOk wd)(h:ê):PyData.strOk w=true/\∀s,so=some s->s.ok:=by
 cases h with
 |none=>exact#[⋯,λs z=>ï]
 |take=>exact#[by split<;>decide +kernel,λs z=>ï]
 |back=>exact#[by split<;>decide +kernel,λs z=>ï]
 |top _=>exact#[⋯,λs z=>by cases z;exact ok.1]
 |@step _ s w _ hs _ wr =>
  have so:s.ok:=by have:=D8 hs ok;cases s<;>first|exact this.1|trivial
  refine#[by cases wr<;>decide +kernel,λs' z=>?_];split at z
  .cases z;exact so
  .cases z
theorem Jm{ts:Ŧ}(h:ñ)(ok:∀d∈ds,DOk d.2):∀r∈rs,PyData.strOk r.2.1=true/\∀s,r.2.2=some s->s.ok:=by
 induction h with
 |nil=>intro r hr;cases hr
 |off _ _ ih =>
  intro r hr;rcases Zg.mp hr with rfl|hr
  .exact#[show PyData.strOk Ŷ=true by decide,λs z=>ï]
  .exact ih â r hr
 |turn _ _ _ ih =>
  intro r hr;rcases Zg.mp hr with rfl|hr
  .refine#[?_,λs z=>ï];dsimp only;split<;>decide +kernel
  .exact ih â r hr
 |play _ _ p _ ih =>
  intro r hr;rcases Zg.mp hr with rfl|hr
  .exact IT (ok _ Zq) p
  .exact ih â r hr
theorem Ge(h:∀r∈rs,PyData.strOk r.2.1=true/\∀s,r.2.2=some s->s.ok):∀r∈aP rs,r.2.ok:=λr hr=>by
 unfold aP at hr;exists[x,hx,e],Z5.mp hr;cases es:x.2.2 with
 |none=>rw[es]at e;cases e
 |some s=>rw[es]at e;cases e;exact(h x hx).2 s es
theorem WhAt.ts{t:Pg}(x:WhAt H t wd)(s:ë):WhAt H' t wd:=by exists[r,h1,h2],x;exact#[r,s _ _ h1,h2.ts s]
theorem J8{H:Hp}(h:H p=some Ñ):Dt H (.list []) þ:=by simp only[Dt,DtAll];exact#[p,_,rfl,.inl h,rfl]
theorem Kx:SeqAt.shaped (.list [])=true:=⋯
theorem AR{xs:Pz}{i:ū}(h0:0<=i)(h1:i<xs.length):∃v,atI xs i=some v/\xs[ĭ]?=some v:=by
 have hk:ĭ<xs.length:=∅
 have:=ge (xs:=xs) (j:=ĭ) (Zf hk);rw[show((ĭ:Nat):Int)=i by omega]at this;exact#[_,this,Zf hk]
theorem xp{c:Pn}{k i:õ}{v:ū}(hk:k<c.length):au (c.set k v) i=if i=k then v else au c i:=by
 unfold au;rw[List.getElem?_set];by_cases e:i=k
 .subst e;rw[Pb rfl,Pb rfl,Pb hk];rfl
 .rw[Pa ŷ,Pa e]
def clk(cl:ſ)(g:õ):Pn:=(cl[g]?).getD []
theorem gh{cl:ſ}{k g:õ}(hk:k<cl.length):clk (cl.set k c) g=if g=k then c else clk cl g:=by
 unfold clk;rw[List.getElem?_set];by_cases e:g=k
 .subst e;rw[Pb rfl,Pb rfl,Pb hk];rfl
 .rw[Pa ŷ,Pa e]
theorem tE{n g:õ}(h:g<n):clk (List.replicate n Ĉ) g=List.replicate n 0:=by unfold clk;rw[List.getElem?_replicate,Pb h];rfl
theorem EH(n i:õ):au Ĉ i=0:=by unfold au;rw[List.getElem?_replicate];split<;>rfl
def mx(a b:Pn)(n:õ):Pn:=(List.range n).map λj=>if au b j>au a j then au b j else au a j
theorem Io{n i:õ}(h:i<n):au (mx a b n) i=if au b i>au a i then au b i else au a i:=by
 unfold mx
 conv=>lhs;unfold au
 rw[Zx,List.getElem?_range h];rfl
theorem Dc{n:õ}:(mx a b n).length=n:=by unfold mx;simp
theorem TS.trans(e:ë)(f:TS H' H2):TS H H2:=λa zs h=>f a zs (e a zs h)
theorem jp{H:Hp}(hp:∀zs,H p≠some (.tup zs)):TS H (upd H p o):=λa zs h=>by rw[af (λz=>hp zs (by rw[<-z];exact h))];exact h
theorem iO{ns:Pn}{k:õ}(h:k<ns.length):atI (ns.map V.int) (k:ū)=some (.int (au ns k)):=by have:=iK (ns:=ns) (k:=(k:ū)) ∅ ∅;rw[show((k:ū)).toNat=k by omega]at this;exact this
def CK(H:Hp)(cA:Pg)(n:õ)(as:ŀ)(cl:ſ):Prop:=H cA=some (.lst ő)/\ĸ=n/\as.Nodup/\∀(g:õ) (hg:g<ĸ),H as[g]=some (.lst ((clk cl g).map V.int))
theorem CK.same{n:õ}(x:CK H cA n as cl)(s:Same H H'):CK H' cA n as cl:=#[s _ _ x.1,x.2.1,x.2.2.1,λg hg=>s _ _ (x.2.2.2 g hg)]
theorem jF{as:ŀ}{k:õ}(hk:k<ĸ):atI ő (k:ū)=some (.ref as[k]):=ge (by rw[Zx,Zf hk];rfl)
theorem kj{H:Hp}(h1:H a=some (.lst xs))(h2:H b=some (.lst ys))(h:xs≠ys):a≠b:=λz=>by rw[z,h2]at h1;injection h1 with h1;injection h1 with h1;exact h h1.symm
theorem fQ{ns:Pn}{as:ŀ}(h:0<ns.length):as.map V.ref≠ns.map V.int:=λe=>by
 cases ns with
 |nil=>exact absurd h (by simp)
 |cons n ns =>
  cases as with
  |nil=>cases e
  |cons a as=>cases e
theorem yo:∀n:Nat,(List.replicate n [V.int 0]).flatten=(List.replicate n (0:ū)).map V.int
 |0=>rfl
 |n+1=>by rw[YX,List.flatten_cons,yo n];rfl
theorem Kw{as:ŀ}{k:õ}(h:as.Nodup)(hp:p∉as):(as.set k p).Nodup:=by
 rw[List.nodup_iff_pairwise_ne,List.pairwise_iff_getElem]at h ⊢;intro i j hi hj hij;rw[Yw]at hi hj;rw[List.getElem_set,List.getElem_set];by_cases c1:k=i
 .rw[Pb c1,Pa ∅];exact λz=>hp (z▸ZL hj)
 .rw[Pa c1];by_cases c2:k=j
  .rw[Pb c2];exact λz=>hp (z▸ZL hi)
  .rw[Pa c2];exact h i j hi hj hij
theorem Ba{α:Type}(L:List α)(z:α):(List.range L.length).map (λi=>L.getD i z)=L:=by
 apply List.ext_getElem
 .simp
 .intro i h1 h2;simp[h2]
abbrev D3:=Nat×Pn×Wd
def DA(H:Hp)(a:Pg)(d:D3):Prop:=∃c wa,H a=some (.tup [.int Ń,.ref c,.ref wa])/\H c=some (.tup (d.2.1.map V.int))/\WhAt H wa d.2.2/\d.1<d.2.1.length/\d.2.1.length<=8
theorem DA.ts(x:ċ)(s:ë):DA H' a d:=by exists[c,wa,h1,h2,h3,h4],x;exact#[c,wa,s _ _ h1,s _ _ h2,h3.ts s,h4]
def toD(d:D3):Dd:=((Ń,au d.2.1 d.1),d.2.2)
theorem DA.dd(x:ċ):DdAt H ÿ (toD d):=by exists[c,wa,h1,h2,h3,h4,_],x;exact#[a,c,wa,_,rfl,h1,h2,iO h4,h3]
abbrev L3:=List (Pg×D3)
def aR(L:L3):Pz:=L.map λx=>V.ref x.1
theorem aY(L:L3):(aR L).length=L.length:=Zd ..
def LR3(H:Hp)(l:Pg)(L:L3):Prop:=H l=some (.lst ĳ)/\∀x∈L,DA H x.1 x.2
theorem LR3.same(x:Ę)(s:Same H H'):LR3 H' l L:=#[s _ _ x.1,λy hy=>(x.2 y hy).ts (Ps s)]
theorem eX{k:õ}(h:ĳ[k]?=some x):∃hk:k<L.length,x=.ref L[k].1:=by
 have hk:k<L.length:=by have:=(Zz.mp h).1;rw[aY]at this;exact this
 refine#[hk,?_];unfold aR at h;rw[Zx,Zf hk]at h;exact(Zo h).symm
inductive spOrder  (vs:Pz)(H:Hp)(Q:VK)(E_:XK):Prop
 |mk (a:Pg) (d:D3) (h0:vs=[.ref a]) (h1:DA H a d) (h2:∀p H',Same H H'->H' p=some (.tup ([d.2.1.sum,Ń].map V.int))->Q þ H'):spOrder  vs H Q E_
abbrev uA:Stmt:=top 50
abbrev Hl:List Str:=["_law_deed"]
theorem F8:FnScope Hl ["_law_deed"] (aq uA):= ~~~0
theorem Fu(F:Fun K "_law_order" "_law_order" uA f fd)(OT:mg "sum" = none):↑FnOk CX0 1 f fd ["_law_deed"] spOrder:=by
 exists F8
 obtain⟨a,d,rfl,⟨c,wa,e1,e2,e3,e4,e5⟩,q⟩:=h;exists _,(b_1 (aG (aB (q_a (q_B (JZ (K:=K) rfl rfl) OT PyProof.Rows.boot_sum Ÿ) Ÿ))))
 refine(vix rfl Ű at1 #[c,d.2.1,rfl,Pt e2,vix rfl Ű at0 #[sz rfl,λp g=>?_]]);exact q p _ (ad g _) ac
theorem IM{L:L3}(hp:POk L.length p):(p.toList.map λi=>L.getD i Œ).Perm L/\(p.toList.map λi=>(aR L).getD i .non)=aR (p.toList.map λi=>L.getD i Œ):=by
 have ep:p.toList.Perm (List.range L.length):=by have:=Array.perm_iff_toList_perm.mp hp;simpa using this
 refine#[?_,?_]
 .have:=ep.map λi=>L.getD i (0,0,[],Wd.none);rw[Ba]at this;exact this
 .unfold aR;rw[Z7];apply List.map_congr_left;intro i hi;have:i<L.length:=List.mem_range.mp (ep.mem_iff.mp hi);simp[this]
def nm3(d:D3):Nm:=(toD d).1
def Eg(c:Pn)(n:Nm):Bool:=decide (au c n.1.toNat>=n.2)
def je(d:D3)(n:Nm):Bool:=(!decide (n=nm3 d))&&Eg d.2.1 n
def jV(d e:D3):Bool:=if nm3 d=nm3 e then false else !je d (nm3 e)&&!je e (nm3 d)
theorem sk(a b:Nm):([a.1,a.2]=[b.1,b.2])↔a=b:=by
 constructor
 .intro z;injection z with z1 z2;injection z2 with z2 _;exact Prod.ext z1 z2
 .rintro rfl;rfl
inductive spTells  (vs:Pz)(H:Hp)(Q:VK)(E_:XK):Prop
 |mk (c:Pg) (nv:V) (cs:Pn) (n:Nm) (h0:vs=[.ref c,nv]) (h1:H c=some (.tup (cs.map V.int))) (h2:ŧ) (h3:0<=n.1) (h4:n.1<cs.length) (h5:Q (.bl (Eg cs n)) H):spTells  vs H Q E_
abbrev uC:Stmt:=top 2
abbrev Hn:List Str:=["clock","name"]
theorem F9:FnScope Hn ["clock","name"] (aq uC):= ~~~0
theorem Fw(F:Fun K "tells" "tells" uC f fd):↑FnOk CX0 1 f fd ["clock","name"] spTells:=by
 exists F9
 obtain⟨c,nv,cs,n,rfl,hc,⟨nb,rfl,hnb⟩,h0,h1,q⟩:=h;exists _,(b_1 (aG (lJ Nv (am ao ↑0 Ç) Ç)))
 exact#[_,rfl,vix rfl (Pt hnb) at0 #[c,_,_,_,rfl,rfl,Pt hc,iK h0 h1,vix rfl (Pt hnb) at1 #[_,_,rfl,rfl,q]]]
inductive spHears  (vs:Pz)(H:Hp)(Q:VK)(E_:XK):Prop
 |mk (a:Pg) (nv:V) (d:D3) (n:Nm) (h0:vs=[.ref a,nv]) (h1:ċ) (h2:ŧ) (h3:0<=n.1) (h4:n.1<d.2.1.length) (h5:∀H',Same H H'->Q (.bl (je d n)) H'):spHears  vs H Q E_
abbrev uy:Stmt:=top 33
abbrev Hk:List Str:=["deed","name"]
theorem F7:FnScope Hk ["deed","name"] (aq uy):= ~~~0
theorem Ft(F:Fun K "hears" "hears" uy f fd)(a6:Á)(OB:↑Fn 1 "tells" ["clock","name"] spTells):↑FnOk CX0 2 f fd ["deed","name"] spHears:=by
 exists F7
 exists[a,nv,d,n,rfl,hd,hn,h0,h1,q],h;exists[nb,rfl,hnb],id hn;exists _,(b_1 (aG (qe (lJ (Dk Ò) ↑1 Ó) (sK (aO OB ↑99 (q_a Ì Ô))))))
 refine#[_,rfl,_,rfl,.ref a,toD d,rfl,ŭ,λp H1 s1 e1=>?_];refine#[nb,p,[n.1,n.2],[(nm3 d).1,(nm3 d).2],rfl,rfl,s1 _ _ hnb,e1,_,rfl,?_];unfold je at q;by_cases c:n=nm3 d
 .rw[decide_eq_true c]at q;rw[decide_eq_true ľ];exact aI (q H1 s1)
 .rw[decide_eq_false c]at q;rw[decide_eq_false λz=>c ň];refine bg ?_;exists[c',wa,f1,f2,f3,f4,f5],hd.ts ĺ;exact(vix rfl (Pt f1) at1 #[_,rfl,c',.ref nb,d.2.1,n,rfl,f2,hn.same s1,h0,h1,q H1 s1])
inductive spApart  (vs:Pz)(H:Hp)(Q:VK)(E_:XK):Prop
 |mk (a b:Pg) (d e:D3) (h0:vs=[.ref a,.ref b]) (h1:ċ) (h2:DA H b e) (h3:d.2.1.length=e.2.1.length) (h4:∀H',Same H H'->Q (.bl (jV d e)) H'):spApart  vs H Q E_
abbrev uu:Stmt:=top 34
abbrev Hi:List Str:=["one","other"]
theorem FZ:FnScope Hi ["one","other"] (aq uu):= ~~~0
theorem Fp(F:Fun K "apart" "apart" uu f fd)(a6:Á)(r6:ì):↑FnOk CX0 3 f fd ["one","other"] spApart:=by
 exists FZ
 exists[a,b,d,e,rfl,hd,he,hl,q],h;have bd:0<=(nm3 d).1/\(nm3 d).1<e.2.1.length:=by exists[_,_,_,_,_,z,_],hd;show 0<=Ŋ/\Ŋ<_;omega
 have be:0<=(nm3 e).1/\(nm3 e).1<d.2.1.length:=by exists[_,_,_,_,_,z,_],he;show 0<=ŋ/\ŋ<_;omega
 exists _,(b_c (aZ (aE (KD Ò) Ó (aO a6 ↑99 Ô)) ś b_0)
   (b_1 (aG (qe (BC Þ) (sK (BC (aO r6 ↑99 (q_a ↑1 ġ))))))))
 refine#[_,rfl,.ref a,toD d,rfl,ŭ,λp1 H1 s1 e1=>?_];refine#[_,rfl,.ref b,toD e,rfl,(he.ts ĺ).dd,λp2 H2 s2 e2=>?_];refine#[p1,p2,[(nm3 d).1,(nm3 d).2],[(nm3 e).1,(nm3 e).2],rfl,rfl,s2 _ _ e1,e2,_,rfl,?_];have S2:=s1.trans s2;unfold jV at q;by_cases c:nm3 d=nm3 e
 .rw[Pb c]at q;rw[decide_eq_true ľ];exact bg (q H2 S2)
 .rw[Pa c]at q;rw[decide_eq_false λz=>c ň];refine aI ?_;refine#[_,rfl,_,rfl,.ref b,toD e,rfl,(he.ts (Ps S2)).dd,λp3 H3 s3 e3=>?_];have S3:=S2.trans s3;refine#[a,.ref p3,d,nm3 e,rfl,hd.ts (Ps S3),#[p3,rfl,e3],be.1,be.2,λH4 s4=>?_];have S4:=S3.trans s4;refine#[_,rfl,?_];cases b1:je d (nm3 e)with
  |true =>rw[b1]at q;exact#[_,rfl,aI (q H4 S4)]
  |false =>rw[b1]at q;refine#[_,rfl,bg ?_];refine#[_,rfl,_,rfl,.ref a,toD d,rfl,(hd.ts (Ps S4)).dd,λp5 H5 s5 e5=>?_];have S5:=S4.trans s5;exact#[b,.ref p5,e,nm3 d,rfl,he.ts (Ps S5),#[p5,rfl,e5],bd.1,bd.2,λH6 s6=>#[_,rfl,q H6 (S5.trans s6)]]
def Da(H:Hp)(n:õ)(v:V):Prop:=∃d,Dt H d v/\d.canLay0=true/\d.depth<=n
theorem xu(i:ū)(n:õ):Da H n (.int i):=#[_,Cv i,rfl,by simp[PyData.depth]]
theorem GA(b:Bool)(n:õ):Da H n (.bl b):=#[_,A7 b,rfl,by simp[PyData.depth]]
theorem Cq(h:PyData.strOk s=true)(n:õ):Da H n (.str s):=#[_,dg s,by simpa[PyData.canLay0]using h,by simp[PyData.depth]]
theorem iY(h:NameIs H v Ĵ):Da H 1 v:=#[_,cY h,(aW n).1,Nat.le_of_eq (aW n).2]
theorem GB(h:UpAt H v u):Da H 1 v:=#[_,wG h,(jk u).1,(jk u).2]
theorem A0(h:PlAt H v ns):Da H 1 v:=#[_,wx h,(ji ns).1,Nat.le_of_eq (ji ns).2]
theorem L8(w:Option Int):Da H 1 (whV w):=#[_,BX w,(rW w).1,by rw[(rW w).2];decide]
def Wd.ok:Wd->Prop
 |.put _ _ tx=>PyData.strOk tx=true
 |.write _ tx=>PyData.strOk tx=true
 |_=>True
theorem J7(h:DOk wd):Ů:=by
 cases wd with
 |put=>exact h.1
 |write=>exact h.1
 |_=>trivial
theorem uO(wd:Wd):PyData.strOk Ï=true:=by cases wd<;>(simp only[Wd.word];decide +kernel)
theorem xw(h6:Ĩ)(ok:Ů)(hm:v∈r):Da H 1 v:=by
 cases wd with
 |put =>
  exists[uv,pv,rfl,a1,a2],h6;simp only[Zg,ZB,Z9]at hm;rcases hm with rfl|rfl|rfl
  .exact GB a1
  .exact A0 a2
  .exact Cq ok 1
 |move =>
  exists[nv,uv,pv,rfl,a0,a1,a2],h6;simp only[Zg,ZB,Z9]at hm;rcases hm with rfl|rfl|rfl
  .exact iY a0
  .exact GB a1
  .exact A0 a2
 |write =>
  exists[nv,rfl,a0],h6;simp only[Zg,ZB,Z9]at hm;rcases hm with rfl|rfl
  .exact iY a0
  .exact Cq ok 1
 |mark =>
  exists[nv,rfl,a0],h6;simp only[Zg,ZB,Z9]at hm;rcases hm with rfl|rfl
  .exact iY a0
  .exact GA _ 1
 |due =>
  exists[nv,rfl,a0],h6;simp only[Zg,ZB,Z9]at hm;rcases hm with rfl|rfl
  .exact iY a0
  .exact L8 _
 |fold =>
  exists[nv,rfl,a0],h6;simp only[Zg,ZB,Z9]at hm;rcases hm with rfl|rfl
  .exact iY a0
  .exact GA _ 1
 |part =>
  exists[nv,pv,rfl,a0,a1],h6;simp only[Zg,ZB,Z9]at hm;rcases hm with rfl|rfl|rfl
  .exact iY a0
  .exact xu _ 1
  .exact A0 a1
 |join =>
  exists[nv,mv,rfl,a0,a1],h6;simp only[Zg,ZB,Z9]at hm;rcases hm with rfl|rfl
  .exact iY a0
  .exact iY a1
 |take =>exists[nv,rfl,a0],h6;simp only[Zg,ZB,Z9]at hm;subst hm;exact iY a0
 |back =>exists[nv,rfl,a0],h6;simp only[Zg,ZB,Z9]at hm;subst hm;exact iY a0
 |off =>obtain rfl:=h6;simp only[Zg,ZB,Z9]at hm;subst hm;exact xu _ 1
 |on =>obtain rfl:=h6;simp only[Zg,ZB,Z9]at hm;subst hm;exact xu _ 1
 |none=>obtain rfl:=h6;exact absurd hm (ZB)
theorem tK{n:õ}:∀{vs:Pz},(∀v∈vs,Da H n v)->∃ds,DtAll H ds vs/\PyData.canLayAll0 ds=true/\PyData.depthAll ds<=n
 | [],_=>#[[],dP,rfl,by simp[PyData.depthAll]]
 |v::vs,hv=>by exists[ds,i1,i2,i3],tK (vs:=vs) λx hx=>hv x (Zj _ hx);exists[d,h1,h2,h3],hv v Zq;refine#[d::ds,aH h1 i1,by simp[PyData.canLayAll0,h2,i2],?_];simp only[PyData.depthAll];omega
def ma:Wd->Option Nm
 |.back n=>some n
 |_=>none
theorem Ka(n m:Nm):PyData.eqv (nmD n) (nmD m)=decide (n=m):=by
 have e:=pM (some n) (some m);have e0:∀u:Option Nm,iV u=upD u:=λu=>by cases u<;>rfl
 rw[e0,e0]at e;have e1:∀n:Nm,upD (some n)=nmD n:=λ_=>rfl;rw[e1,e1]at e;rw[e];simp only[x8]
theorem Cf(it:Nm)(h:WhAt H wa wd)(ok:Ů):∃dx,Dt H dx (.ref wa)/\SeqAt.shaped dx=true/\PyData.eqv dx Ú=decide (ma wd=some it):=by
 exists[r,h5,h6],h;by_cases e:Ï="back"
 .cases wd with
  |back n =>
   exists[nv,rfl,a],h6;refine#[.tuple [.str "back",nmD n],cS h5 (aH ĵ (aH (cY a) dP)),bO ?_ ?_,?_]
   .have:PyData.strOk "back" = true:=⋯
    simp[PyData.canLay0,PyData.canLayAll0,this,(aW n).1]
   .have:=(aW n).2;simp only[PyData.depth,PyData.depthAll];omega
   .simp only[PyData.eqv,PyData.eqvAll,Ka,Bool.and_true,ma,x8];rw[show(("back":Str)=="back")=true from by decide,Bool.true_and]
  |_=>exact absurd e (by simp only[Wd.word];decide +kernel)
 .exists[ds,i1,i2,i3],tK λv hv=>xw h6 ok hv;refine#[.tuple Ŝ,cS h5 (aH ĵ i1),bO ?_ ?_,?_]
  .simp[PyData.canLay0,PyData.canLayAll0,uO wd,i2]
  .simp only[PyData.depth,PyData.depthAll];omega
  .have e2:ma wd≠some it:=λz=>by
    cases wd with
    |back=>exact e rfl
    |_=>cases z
   rw[decide_eq_false e2];have e3:(Ï=="back")=false:=by simpa using e
   simp only[PyData.eqv,PyData.eqvAll];rw[e3,Bool.false_and]
theorem HI{H:Hp}(h:H u=some ç)(hi:ò):Dt H Ú (.ref u)/\SeqAt.shaped Ú=true:=by
 refine#[cS h (aH ĵ (aH (cY hi) dP)),bO ?_ ?_]
 .have:PyData.strOk "back" = true:=⋯
  simp[PyData.canLay0,PyData.canLayAll0,this,(aW it).1]
 .have:=(aW it).2;simp only[PyData.depth,PyData.depthAll];omega
abbrev NmsAt(H:Hp)(xs:Pz)(ns:List Nm):Prop:=Paired (λv m=>NameIs H v (nk m)) xs ns
theorem NmsAt.ts(x:Ŭ)(s:ë):NmsAt H' xs ns:=Paired.mapP x λ_ _ z=>NameIs.ts' z s
theorem vm:∀ns:List Nm,PyData.depthAll ę<=1
 | []=>by simp[PyData.depthAll]
 |n::ns=>by have:=vm ns;simp only[Zn,PyData.depthAll,(aW n).2];omega
theorem Ff{H:Hp}(hl:ß)(p:Ŭ):Dt H (.list ę) à/\SeqAt.shaped (.list ę)=true:=by exists[h1,h2],sq p;have:=vm ns;refine#[?_,bO (by simpa[PyData.canLay0]using h2) (by simp only[PyData.depth];omega)];simp only[Dt];exact#[l,xs,rfl,.inl hl,h1]
def bH:Wd->Option Nm
 |.take n=>some n
 |.join _ m=>some m
 |_=>none
def dC(d:D3):List Nm:=match d.2.2 with
 |.put _ _ _=>[nm3 d]
 |.part n _ _=>[n,nm3 d]
 |.join n m=>[n,m]
 |.move n _ _=>[n]
 |.write n _=>[n]
 |.mark n _=>[n]
 |.due n _=>[n]
 |.fold n _=>[n]
 |.back n=>[n]
 |.take _=>[]
 |.off _=>[]
 |.on _=>[]
 |.none=>[]
noncomputable def uK(ol:Ol)(o x:Nm):Bool:=@decide (∃k,Und ol o k Ř true) Ý
theorem JC{k:õ}(h:Und ol o k Ř b):uK ol o x=b:=by
 unfold uK;cases b with
 |true=>exact@decide_eq_true _ Ý #[k,h]
 |false =>refine@decide_eq_false _ Ý fun⟨k',h'⟩=>?_;cases uM h h'
noncomputable def gsB(ol:Ol)(d t:D3)(item:Nm):Bool:=(decide (ma d.2.2=some item)&&je d (nm3 t)) ||(jV d t&&(dC d).any λx=>uK ol item x)
noncomputable def fH(ol:Ol)(D:ĉ)(t:D3)(item:Nm):Option Nm:=(D.find? λd=>gsB ol d t item).map nm3
abbrev Tk:=Nm×Nm×Option Nm
noncomputable def eO(ol:Ol)(D:ĉ)(d:D3):List Tk:=match bH d.2.2 with
 |some it=>[(nm3 d,it,fH ol D d it)]
 |none=>[]
noncomputable def br(ol:Ol)(D:ĉ):List Tk:=D.flatMap λd=>eO ol D d
def TkAt(H:Hp)(v:V)(r:Tk):Prop:=∃(t:Pg) (nv iv bv:V),v=.ref t/\H t=some (.tup [nv,iv,bv])/\NameIs H nv ĥ/\NameIs H iv (nk r.2.1)/\UpAt H bv r.2.2
theorem TkAt.ts(x:TkAt H v r)(s:ë):TkAt H' v r:=by exists[t,nv,iv,bv,h1,h2,h3,h4,h5],x;exact#[t,nv,iv,bv,h1,s _ _ h2,h3.ts' s,h4.ts' s,h5.ts s]
theorem GJ(wd:Wd):inV ĕ [.str "take",.str "join"]=(bH wd).isSome:=by cases wd<;>rfl
inductive spTaken  (vs:Pz)(H:Hp)(Q:VK)(E_:XK):Prop
 |mk (a:Pg) (d:D3) (it:Nm) (h0:vs=[.ref a]) (h1:ċ) (h2:bH d.2.2=some it) (h3:∀iv,NameIs H iv (nk it)->Q iv H):spTaken  vs H Q E_
abbrev kT:Stmt:=top 38
abbrev wY:List Str:=["deed"]
theorem vY:FnScope wY ["deed"] (aq kT):= ~~~0
theorem vR(F:Fun K "taken_item" "taken_item" kT f fd):↑FnOk CX0 1 f fd ["deed"] spTaken:=by
 exists vY
 obtain⟨a,⟨hn,cs,wd⟩,it,rfl,⟨c,wa,h1,h2,⟨r,h3,h4⟩,_⟩,ht,q⟩:=h;refine#[_,(b_1 (aG (yi (aE bW č ar) č č))),?_];have e1:=Pt (K:=K) h1;have e3:=Pt (K:=K) h3;cases wd with
 |take n =>cases ht;exists[nv,rfl,a1],h4;exact#[_,rfl,a,_,_,_,rfl,rfl,e1,at2,wa,_,_,_,rfl,rfl,e3,at0,rfl,_,rfl,di #[_,rfl,a,_,_,_,rfl,rfl,e1,at2,wa,_,_,_,rfl,rfl,e3,at1,q _ a1]]
 |join n m =>cases ht;exists[nv,mv,rfl,a1,a2],h4;exact#[_,rfl,a,_,_,_,rfl,rfl,e1,at2,wa,_,_,_,rfl,rfl,e3,at0,rfl,_,rfl,aL Æ #[_,rfl,a,_,_,_,rfl,rfl,e1,at2,wa,_,_,_,rfl,rfl,e3,at2,q _ a2]]
 |_=>cases ht
inductive spTouched  (vs:Pz)(H:Hp)(Q:VK)(E_:XK):Prop
 |mk (a:Pg) (d:D3) (h0:vs=[.ref a]) (h1:DA H a d) (h2:∀l vs H',Same H H'->H' l=some (.lst vs)->NmsAt H' vs (dC d)->Q à H'):spTouched  vs H Q E_
theorem zn(hn:õ)(cs:Pn)(wd:Wd):(∃ u pl tx,wd=.put u pl tx)\/(∃ n b pl,wd=.part n b pl)\/(∃ n m,wd=.join n m)\/(V.str Ï≠V.str "put"/\V.str Ï≠V.str "part"/\V.str Ï≠V.str "join" /\
  ((inV ĕ [.str "take",.str "off",.str "on",.str "none"]=true/\dC (hn,cs,wd)=[])\/(inV ĕ [.str "take",.str "off",.str "on",.str "none"]=false/\∀ (H:Hp) r,RsAt H r wd->∃ nv r' n,r=nv::r'/\NameIs H nv Ĵ/\dC (hn,cs,wd)=[n]))):=by
 cases wd with
 |put u pl tx=>exact .inl #[u,pl,tx,rfl]
 |part n b pl=>exact .inr (.inl #[n,b,pl,rfl])
 |join n m=>exact .inr (.inr (.inl #[n,m,rfl]))
 |move n u pl=>exact .inr (.inr (.inr #[by simp only[Wd.word,ne_eq];decide +kernel,by simp only[Wd.word,ne_eq];decide +kernel,by simp only[Wd.word,ne_eq];decide +kernel,.inr #[rfl,λH r ⟨nv,_,_,h,a,_⟩=>#[nv,_,n,h,a,rfl]]]))
 |write n tx=>exact .inr À
 |mark n tx=>exact .inr À
 |due n tx=>exact .inr À
 |fold n tx=>exact .inr À
 |back n=>exact .inr À
 |_=>exact .inr (.inr (.inr #[by simp only[Wd.word,ne_eq];decide +kernel,by simp only[Wd.word,ne_eq];decide +kernel,by simp only[Wd.word,ne_eq];decide +kernel,.inl #[rfl,rfl]]))
abbrev kW:Stmt:=top 41
abbrev xa:List Str:=["deed","what"]
theorem nZ:FnScope xa ["deed"] (aq kW):= ~~~0
theorem vT(F:Fun K "touched_by" "touched_by" kW f fd)(a6:Á):↑FnOk CX0 2 f fd ["deed"] spTouched:=by
 exists nZ
 exists[a,d,rfl,hd,q],h;have hdd:=ŭ;obtain⟨c,wa,h1,h2,⟨r,h3,h4⟩,h5,h6⟩:=id hd;refine#[_,(b_c (aC (i:=1) nZ.nd Ì)
   (b_c (aZ Ď (b_1 (aG (bS ġ))) b_0)
   (b_c (aZ Ď (b_1 (aG (bS (q_a Ç ġ)))) b_0)
   (b_c (aZ Ď (b_1 (aG (bS (q_a Ç Ź)))) b_0)
   (b_c (aZ (aE (jd (K:=K) rfl) Ç (aB ğ)) (b_1 (aG ű)) b_0)
   (b_1 (aG (bS Ź)))))))),?_]
 have e3:=Pt (K:=K) h3;refine#[_,rfl,a,_,_,_,rfl,rfl,Pt h1,at2,?_];exists[hn,cs,wd],d;refine#[_,rfl,wa,_,_,_,rfl,rfl,e3,at0,rfl,_,rfl,?_];rcases zn hn cs wd with⟨u,pl,tx,rfl⟩|⟨n,b,pl,rfl⟩|⟨n,m,rfl⟩|⟨n1,n2,n3,n4⟩
 .refine di #[_,rfl,.ref a,_,rfl,hdd,λt H1 s1 e1=>#[sz rfl,λl gl=>?_]];have wl:=ad gl (.lst [.ref t]);exact q l _ _ ď ac û
 .exists[nv,pv,rfl,a1,a2],h4;refine aL Æ ?_;refine#[_,rfl,wa,_,_,_,rfl,rfl,e3,at0,rfl,_,rfl,di ?_];refine#[_,rfl,wa,_,_,_,rfl,rfl,e3,at1,_,rfl,.ref a,_,rfl,hdd,λt H1 s1 e1=>#[sz rfl,λl gl=>?_]];have wl:=ad gl (.lst [nv,.ref t]);exact q l _ _ ď ac (.cons (a1.ts' (Ps ď)) û)
 .exists[nv,mv,rfl,a1,a2],h4;refine aL Æ ?_;refine#[_,rfl,wa,_,_,_,rfl,rfl,e3,at0,rfl,_,rfl,aL Æ ?_];refine#[_,rfl,wa,_,_,_,rfl,rfl,e3,at0,rfl,_,rfl,di ?_];refine#[_,rfl,wa,_,_,_,rfl,rfl,e3,at1,_,rfl,wa,_,_,_,rfl,rfl,e3,at2,sz rfl,λl gl=>?_];have wl:=ad gl (.lst [nv,mv]);exact q l _ _ wl ac (.cons (a1.ts' Ų) (.cons (a2.ts' Ų) .nil))
 .refine aL n1 ?_;refine#[_,rfl,wa,_,_,_,rfl,rfl,e3,at0,rfl,_,rfl,aL n2 ?_];refine#[_,rfl,wa,_,_,_,rfl,rfl,e3,at0,rfl,_,rfl,aL n3 ?_];refine#[_,rfl,wa,_,_,_,rfl,rfl,e3,at0,sz rfl,λu gu=>?_];have wu:=ad gu (.tup [.str "take",.str "off",.str "on",.str "none"]);refine#[u,_,rfl,.inr ų,rfl,rfl,_,rfl,?_];rcases n4 with⟨n4,et⟩|⟨n4,hx⟩
  .have ei:Ã=true:=n4;rw[ei];refine bg #[sz rfl,λl gl=>?_];exact q l [] _ (wu.trans (ad gl Ñ)) ac (by rw[et];exact .nil)
  .exists[nv,r',n,rfl,hnv,et],hx H r h4;have ei:Ã=false:=n4;rw[ei];refine aI #[_,rfl,wa,_,_,_,rfl,rfl,Pt (wu _ _ h3),at1,sz rfl,λl gl=>?_];have wl:=wu.trans (ad gl (.lst [nv]));exact q l [nv] _ wl ac (by rw[et];exact .cons (hnv.ts' Ų) .nil)
def iX(Φ:Ol->Prop):Ol->List Sd->Prop
 |ol,[]=>Φ ol
 |ol,s::ss=>Small ol/\Ā/\fG ol s/\Bd ol s none/\∀ol',Ap ol s ol'->iX Φ ol' ss
def StV(H:Hp)(v:V)(s:Sd):Prop:=∃st,v=.ref st/\StAt H st s
theorem StV.ts(x:StV H v s)(t:ë):StV H' v s:=by exists[st,h1,h2],x;exact#[st,h1,h2.ts t]
def iw(Φ:Ol->As Unit->Prop):Ol->As Unit->List Sd->Prop
 |ol,gs,[]=>Φ ol gs
 |ol,gs,s::r=>Small ol/\gs.length<=63/\Ā/\fG ol s/\Bd ol s none/\∀ol',Ap ol s ol'->iw Φ ol' (Bc gs s) r
inductive spSteppedA(C:Pg)(vs:Pz)(H:Hp)(Q:VK)(E_:XK):Prop
 |mk (l:Pg) (xs:Pz) (ss:List Sd) (Φ:Ol->As Unit->Prop) (h0:ą) (h1:ß) (h2:ĩ) (h3:iw Φ [] [] ss) (h4:∀p d g ol gs H',Same H H'->OlAt C H' p d g ol->GoneAt H' g gs->Φ ol gs->Q þ H'):spSteppedA C vs H Q E_
abbrev pE:Stmt:=top 37
abbrev Cc:List Str:=["steps","outline","step"]
theorem nS:FnScope Cc ["steps"] (aq pE):= ~~~0
theorem Bu(F:Fun K "stepped" "stepped" pE f fd)(i9:↑MkFn 1 C "Plain" ["self"] (spInit C))(c5:↑MFnX 4 C "step" ["self","step"] (spStepA C cT cN cB cF)):↑FnOk CX0 5 f fd ["steps"] œ:=by
 exists nS
 exists[l,xs,ss,Φ,rfl,hl,px,safe,q],h;have ll:=Zw px;refine#[_,(b_c (aC (i:=1) nS.nd (uk i9 ↑99))
   (b_c (eG Z0 rfl (bJ ↑0) (aD (i:=2) nS.nd) (b_1 (bh (mE c5 lH ↑99 ↑1 å))))
   Ō)),?_]
 intro x dx nx ndx nex;refine#[x,dx,rfl,ac,λd g H4 fd0 fg0 S4 kp4=>#[rfl,?_]];have s34:Same H H4:=λb o e=>kp4 b o (by rw[af ń,af (aj e ndx)];exact e) ń;have s00:Same H (upd (upd H dx (.own x)) x (.ins C dx [])):=λb o e=>by rw[af ń,af (aj e ndx)];exact e
 have d3:H d=none:=s00.free fd0;have g3:H g=none:=s00.free fg0;refine#[_,rfl,l,rfl,#[_,Pu (s34 _ _ hl)],?_];refine eh (K:=K) (a:=l) (xs:=xs) (λi Z H'=>Same H H'/\∃(ol:Ol) (gs:As Unit) (o2:Č),OlAt C H' x d g ol/\GoneAt H' g gs/\iw Φ ol gs (ss.drop i)/\Z=[some à,some (.ref x),o2])
  #[s34,[],[],none,#[[],[],S4,.nil],#[[],S4.3,.nil],safe,rfl] ü ?_ ?_
 .rintro i v Z H' hv ⟨sm,ol,gs,o2,O,G,sf,rfl⟩ DL hDL;exists[sd,hsi,st,rfl,hst],ba px hv;have hi:i<ss.length:=(Zz.mp hsi).1;have hdr:ss.drop i=sd::ss.drop Ũ:=by rw[Yy hi];rw[Zf hi]at hsi;rw[Zo hsi]
  rw[hdr]at sf;exists[small,lg,nw,hh,hb,nxt],sf;exists[kvs,gvs,S,_],id O;obtain⟨⟨dz,y1⟩,y2,y3,y4⟩:=id S;refine#[_,rfl,x,dz,_,rfl,y1,dD _ _,_,rfl,x,d,g,st,ol,gs,sd,.ok,rfl,O,G,small.len,lg,hst.ts ĝ,(λn it hl=>Zr (small.txt n it hl) ⋯),.bd none nw hh hb,nofun,nofun,nofun,nofun,λ_ H5 ol' b5 o5 g5 ap=>hDL _ _ ?_];exact#[λb o e=>b5 b o (sm _ _ e) (aj e d3) (aj e g3),ol',_,_,o5,g5,nxt ol' ap,rfl]
 .rintro Z H' ⟨sm,ol,gs,o2,O,G,sf,rfl⟩;rw[ll,List.drop_length]at sf;exact#[_,rfl,q x d g ol gs H' sm O G sf]
inductive spStepped(C:Pg)(vs:Pz)(H:Hp)(Q:VK)(E_:XK):Prop
 |mk (l:Pg) (xs:Pz) (ss:List Sd) (Φ:Ol->Prop) (h0:ą) (h1:ß) (h2:ĩ) (h3:Ą) (h4:iX Φ [] ss) (h5:∀p d g ol H',Same H H'->OlE C H' p d g ol->Φ ol->Q þ H'):spStepped C vs H Q E_
theorem D5:∀{ss:List Sd} {ol:Ol},Ą->iX Φ ol ss->iw (λol gs=>gs=[]/\Φ ol) ol [] ss
 | [],_,_,h=>#[rfl,h]
 |s::ss,ol,ng,h=>by exists[small,nw,hh,hb,nxt],h;refine#[small,ZH _,nw,hh,hb,λol' ap=>?_];rw[mj (ng s Zq)];exact D5 (λx hx=>ng x (Zj _ hx)) (nxt ol' ap)
theorem BM(F:↑Fn 5 "stepped" ["steps"] œ):↑Fn 5 "stepped" ["steps"] ŝ:=by exists[f,fd,ok,h1,h2,h3],F;refine#[f,fd,ok.imp λvs H Q E h=>?_,h1,h2,h3];exists[l,xs,ss,Φ,rfl,hl,px,ng,safe,q],h;refine#[l,xs,ss,_,rfl,hl,px,D5 ng safe,λp d g ol gs H' s O G z=>?_];exists[rfl,z],z;exact q p d g ol H' s (.of O G) z
set_option Ł true in theorem IS{w:Str}(h:ê):∀s,so=some s->∀m,s≠.gone m:=by
 intro s e m z;subst z;cases h with
 |none=>cases e
 |take=>cases e
 |back=>cases e
 |top=>cases e
 |step hs _ _ =>
  split at e
  .cases e;rename_i wd' _ _;cases wd<;>simp[cQ]at hs
  .cases e
theorem qj{ts:Ŧ}(h:ñ):∀s∈(aP rs).map Prod.snd,∀m,s≠.gone m:=by
 have at':∀{r:bp} {rs:List bp},(∀s,r.2.2=some s->∀m,s≠.gone m)->(∀s∈(aP rs).map Prod.snd,∀m,s≠.gone m)->∀s∈(aP (r::rs)).map Prod.snd,∀m,s≠.gone m:=fun{r rs} h1 h2 s hs=>by
  exists[x,hx,rfl],Zu.mp hs;exists[y,hy,e],Z5.mp hx;rcases Zg.mp hy with rfl|hy
  .exists[s',e1,rfl],ZK.mp e;exact h1 s' e1
  .exact h2 _ (Zu.mpr #[x,Z5.mpr #[y,hy,e],rfl])
 induction h with
 |nil=>exact λs hs=>nomatch hs
 |off _ _ ih=>exact at' Ĭ ih
 |turn _ _ _ ih=>exact at' Ĭ ih
 |play _ _ p _ ih=>exact at' (IS p) ih
set_option Ł true in theorem yN{kvs:Py}{k k':ũ}{v:V}:bc (aS kvs k v) k'=if k'=k then some v else bc kvs k':=by
 have gen:∀l:Py,bc (l.map λkv=>if kv.1=k then(kv.1,v)else kv) k'=if k'=k then(bc l k').map (λ_=>v)else bc l k':=λl=>by
  induction l with
  |nil=>split<;>rfl
  |cons p l ih =>
   rw[Zn];by_cases c:p.1=k
   .rw[Pb c];by_cases c2:p.1=k'
    .have h1:∀r,bc (Ļ::r) k'=some v:=λr=>dG (p:=Ļ) c2;rw[h1,dG c2,Pb (c2.symm.trans c)];rfl
    .have h1:∀r,bc (Ļ::r) k'=bc r k':=λr=>cW (p:=Ļ) c2;rw[h1,cW c2,ih]
   .rw[Pa c];by_cases c2:p.1=k'
    .rw[dG c2,dG c2,Pa Ĝ]
    .rw[cW c2,cW c2,ih]
 by_cases hk:k∈kvs.map (·.1)
 .rw[re v hk,gen];split
  .rename_i e;exists[u,hu],Zv.mp (sR hk);rw[e,hu];rfl
  .rfl
 .rw[yh _ (jc hk)];have app:∀l:Py,bc l k=none->bc (l++[(k,v)]) k'=if k'=k then some v else bc l k':=λl=>by
   induction l with
   |nil =>
    intro _;by_cases c:k=k'
    .rw[Pb c.symm,List.nil_append,dG c]
    .rw[Pa (λz=>c ī),List.nil_append,cW c]
   |cons p l ih =>
    intro h;by_cases c:p.1=k
    .rw[dG c]at h;cases h
    .rw[cW c]at h;rw[List.cons_append];by_cases c2:p.1=k'
     .rw[dG c2,dG c2,Pa Ĝ]
     .rw[cW c2,cW c2,ih h]
  exact app kvs (jc hk)
theorem uT:bootBuiltins "dict" = some (.type "dict"):=⋯
def aU(L:L3):List Dd:=L.map λx=>toD x.2
theorem mf:∀{L:L3},Ē->rp H ĳ Ć
 | [],_=>.nil
 |x::L,h=>.cons (h x Zq).dd (mf λy hy=>h y (Zj _ hy))
theorem Ga{t u:Lake.TS}{Z:St}(h:∀R:St->Hp->Prop,(∀σ' H',u D σ' H'->R σ' H')->t { D with nx:=R } Z H):BO t u D Z H:=h _ λ_ _ z=>z
def Eo(ol:Ol)(ns:List Nm)(o:Nm):Prop:=∀x∈ns,∃k b,Und ol o k Ř b
inductive spGs(C:Pg)(vs:Pz)(H:Hp)(Q:VK)(E_:XK):Prop
 |mk (a b:Pg) (iv:V) (p d g:Pg) (e t:D3) (it:Nm) (ol:Ol) (h0:vs=[.ref a,.ref b,iv,.ref p]) (h1:DA H a e) (h2:DA H b t) (h3:ò) (h4:Ă) (h5:e.2.1.length=t.2.1.length) (h6:e.2.2.ok) (h7:Eo ol (dC e) it) (h8:∀H',Same H H'->Q (.bl (gsB ol e t it)) H'):spGs C vs H Q E_
theorem zo(d:D3):(dC d).length<=2:=by exists[hn,cs,wd],d;cases wd<;>(unfold dC;simp)
abbrev nL:Stmt:=top 40
abbrev rq:List Str:=["deed","taking","item","whole"]
theorem zi:FnScope rq ["deed","taking","item","whole"] (aq nL):= ~~~0
theorem yZ(F:Fun K "gainsays" "gainsays" nL f fd)(a6:Á)(r6:ì)(u7:í)(v8:↑Fn 2 "touched_by" ["deed"] spTouched)(a9:↑MFn 1 C "at_or_beneath" ["self","one","other"] (spUnder C))(OU:mg "any" = none):↑FnOk CX0 4 f fd ["deed","taking","item","whole"] (spGs C):=by
 exists zi
 exists[a,b,iv,p,dd,g,e,t,it,ol,rfl,ha,hb,hi,hO,ln,ok,hh,q],h;refine#[_,(b_c (aZ (t_w (fm (aE (nF Ò) Ì (aB (q_a ar å))) (fz (hM Þ)))) ś b_0)
   (b_1 (aG (qe ć (sK (q_B (L5 rfl) OU PyProof.Rows.boot_any (q_a (dH (own:=["each"]) (#[rfl,⋯,⋯,rfl,#[rfl,rfl,#[rfl,rfl,trivial]]]:CompOk _ _ [3,2] ["whole","item"]) rfl (bJ (aO v8 ↑99 Å)) (λ_ _ _ _=>aD (i:=0) (show (["each","whole","item"]:List Str).Nodup by decide)) Ħ ō (λ_ _ _ _=>(eC a9 ↑99 ↑1 Ş))) ai))))))),?_]
 exists[c,wa,h1,h2,hw,h5,h6],id ha;exists[_,_,_,_,_,t5,_],id hb;refine Ga λR hR=>?_;have rest:∀ (H1:Hp),Same H H1->(decide (ma e.2.2=some it)&&je e (nm3 t))=false->R (Lake.start rq [.ref a,.ref b,iv,.ref p]) H1:=λH1 s1 hf=>hR _ _ (by
  have q1:∀H',Same H H'->Q (.bl (jV e t&&(dC e).any λx=>uK ol it x)) H':=λH' s'=>by have:=q H' s';unfold gsB at this;rw[hf,Bool.false_or]at this;exact this
  refine#[_,rfl,_,rfl,a,b,e,t,rfl,ha.ts ĺ,hb.ts ĺ,ln,λH2 s2=>#[_,rfl,?_]];cases hc:jV e t with
  |false =>rw[hc]at q1;exact aI (q1 H2 ş)
  |true =>
   rw[hc]at q1;refine bg ?_;refine#[_,rfl,a,e,rfl,ha.ts (Ps ş),λl vs H3 s3 el pv=>#[l,rfl,#[_,Pu el],?_]];have S3:=s1.trans Đ;have lv:vs.length<=2:=by rw[Zw pv];exact zo e
   refine bV (xs:=vs) (λi zs H'=>H'=H3/\zs=(((dC e).take i).map λx=>uK ol it x).map V.bl) ∅ (λi zs _ z=>by rw[z.2,Zd,Zd,y7];omega) #[rfl,rfl] (λi zs H' z=>by rw[z.1];exact Pu el) ?_ ?_
   .rintro i zs H' v hv ⟨rfl,rfl⟩ Y hY;exists[x,hx,hn],ba pv hv;exists[k,bb,hu],hh x (Z2 hx);have O3:=hO.same S3;obtain⟨kvs,⟨⟨dz,y1⟩,_⟩,_⟩:=id O3;refine#[_,rfl,p,dz,_,rfl,y1,dD _ _,_,rfl,_,rfl,p,dd,g,ol,v,iv,some x,it,k,bb,rfl,O3.ag.1,hn,hi.ts' (Ps S3),hu,hY _ _ #[rfl,?_]];rw[eM hx,ZA,ZA,<-JC hu];rfl
   rintro zs lz H4 ⟨rfl,rfl⟩ glz;rw[Zw pv,ZI];have wlz:=ad glz (.lst (((dC e).map λx=>uK ol it x).map V.bl));refine#[lz,_,rfl,Pu ac,?_];have q2:=q1 _ (S3.trans wlz);rw[Bool.true_and]at q2;rw[List.any_map];exact q2)
 refine#[_,rfl,a,_,_,_,rfl,rfl,Pt h1,at2,_,rfl,sz rfl,λu gu=>?_];have wu:=ad gu ç;exists[dx,x1,x2,x3],Cf it (hw.ts ā) ok;exists[y1,y2],HI (u:=u) (it:=it) ac (hi.ts' ā);refine#[dx,_,x1,y1,x2,y2,?_];rw[x3];generalize upd H u ç=H1 at wu ⊢;refine#[_,rfl,?_];cases hb1:decide (ma e.2.2=some it)with
 |false =>refine aI (rest H1 wu ?_);rw[hb1];rfl
 |true =>
  refine bg ?_;refine#[_,rfl,_,rfl,.ref b,toD t,rfl,(hb.ts ā).dd,λtn H2 s2 e2=>?_];refine#[a,.ref tn,e,nm3 t,rfl,ha.ts (Ps (wu.trans s2)),#[tn,rfl,e2],Int.ofNat_nonneg _,by rw[ln];exact Int.ofNat_lt.mpr t5,λH3 s3=>#[_,rfl,?_]];have S3:=wu.trans Đ;cases hb2:je e (nm3 t)with
  |false =>refine aI (rest H3 S3 ?_);rw[hb1,hb2];rfl
  |true =>refine bg ?_;have q1:=q H3 S3;unfold gsB at q1;rw[hb1,hb2]at q1;exact q1
inductive spFg(C:Pg)(vs:Pz)(H:Hp)(Q:VK)(E_:XK):Prop
 |mk (b:Pg) (iv:V) (l p d g:Pg) (L:L3) (t:D3) (it:Nm) (ol:Ol) (h0:vs=[.ref b,iv,.ref l,.ref p]) (h1:DA H b t) (h2:ò) (h3:Ę) (h4:Ă) (h5:(∀x∈L,x.2.2.1.length=t.2.1.length/\x.2.2.2.ok/\Eo ol (dC x.2) it)) (h6:∀v H',Same H H'->UpAt H' v (fH ol È t it)->Q v H'):spFg C vs H Q E_
abbrev gw:Stmt:=top 39
abbrev qt:List Str:=["taking","item","lasting","whole","deed"]
theorem jm:FnScope qt ["taking","item","lasting","whole"] (aq gw):= ~~~0
theorem oO(F:Fun K "first_gainsayer" "first_gainsayer" gw f fd)(NV:↑Fn 4 "gainsays" ["deed","taking","item","whole"] (spGs C))(a6:Á):↑FnOk CX0 5 f fd ["taking","item","lasting","whole"] (spFg C):=by
 exists jm
 exists[b,iv,l,p,d,g,L,t,it,ol,rfl,hb,hi,hL,hO,hx,q],h;refine#[_,(b_c (eG Z0 rfl (bJ ↑2) (aD (i:=4) jm.nd) (b_1 (aZ (hM (aO NV ↑99 (q_a ↑4 (q_a ↑0 (q_a ↑1 Š))))) (b_1 (aG (aO a6 ↑99 š))) b_0)))
   (b_1 (aG cz))),?_]
 refine#[_,rfl,l,rfl,#[_,Pu hL.1],?_];refine mY (K:=K) (a:=l) (xs:=aR L) (λi Z H'=>Same H H'/\(∀x∈L.take i,gsB ol x.2 t it=false)/\∃o4,Z=[some (.ref b),some iv,some à,some þ,o4])
  #[Same.refl _,(λx hx=>by rw[List.take_zero]at hx;cases hx),none,rfl] (λi Z H' _ z=>Pu (z.1 _ _ hL.1)) ?_ ?_
 .rintro i v Z H' hv ⟨sm,no,o4,rfl⟩;exists[hl,rfl],eX hv;have hm:=ZL hl;exists[g1,g2,g3],hx _ hm;have hd:=(hL.2 _ hm).ts ĝ;refine#[_,rfl,_,rfl,_,rfl,_,rfl,_,b,iv,p,d,g,L[i].2,t,it,ol,rfl,hd,hb.ts ĝ,hi.ts' ĝ,hO.same sm,g1,g2,g3,λH2 s2=>#[_,rfl,?_]];cases hc:gsB ol L[i].2 t it with
  |false =>
   refine aI #[sm.trans s2,λx hx'=>?_,_,rfl];rw[List.take_add_one,Zf hl,ZC]at hx';rcases hx' with hx'|hx'
   .exact no x hx'
   .rcases Zi.mp hx' with rfl;exact hc
  |true =>
   refine bg #[_,rfl,_,_,rfl,(hd.ts (Ps s2)).dd,λtn H3 s3 e3=>q (.ref tn) H3 (sm.trans Đ) ?_];have ef:fH ol È t it=some (nm3 L[i].2):=by
    unfold fH;have hs:L.map Prod.snd=(L.take i).map Prod.snd++L[i].2::(L.drop Ũ).map Prod.snd:=by rw[<-Zn (f:=Prod.snd) (a:=L[i]),<-Yy hl,<-ZA,List.take_append_drop]
    rw[hs,List.find?_append,List.find?_eq_none.mpr,Option.none_or,List.find?_cons_of_pos (p:=λd=>gsB ol d t it) (by simpa using hc)]
    .rfl
    .intro y hy;exists[x,h1,rfl],Zu.mp hy;rw[no x h1];exact Zt
   rw[ef];exact#[tn,rfl,e3]
 .rintro Z H' ⟨sm,no,o4,rfl⟩;refine q .non H' sm ?_;rw[show fH ol È t it=none from ?_]
  .rfl
  .unfold fH;rw[List.find?_eq_none.mpr]
   .rfl
   .intro y hy;exists[x,h1,rfl],Zu.mp hy;rw[aY,ZI]at no;rw[no x h1];exact Zt
theorem sI{k:ũ}:∀{ps kvs:Py},k∉ps.map Prod.fst->bc Ģ k=bc kvs k
 | [],_,_=>rfl
 |p::ps,kvs,h=>by show bc ã k=_;rw[Zn,Zg,not_or]at h;rw[sI h.2,yN,Pa h.1]
theorem yg{k:ũ}:∀{ps kvs:Py},(ps.map Prod.fst).Nodup->(k,v)∈ps->bc Ģ k=some v
 |p::ps,kvs,hn,h=>by
  show bc ã k=_;rw[Zn,Z3]at hn;rcases Zg.mp h with rfl|h
  .rw[sI hn.1,yN,Pb rfl]
  .exact yg hn.2 h
def bI(w:Str):Bool:=inV (.str w) [.str "done",.str "top"]
def bC(Zq0:ð):L3:=(Zq0.filter λz=>bI z.2).map Prod.fst
theorem lK(A B:L3):aR (A++B)=aR A++aR B:=ZA
structure Tkn(L:L3)(W:List Str)(n:õ)(Φ:Ol->Prop):Prop where
 len:L.length<=63
 safe:hV Ü [] Ć
 nod:((aU L).map Prod.fst).Nodup
 words:∀rs,Runs Ü (bD Ć) [] Ć rs->rs.map (λr:bp=>r.2.1)=W/\rs.map (λr:bp=>r.1)=(aU L).map Prod.fst
 steps:∀rs,Runs Ü (bD Ć) [] Ć rs->iX Φ [] ((aP rs).map Prod.snd)
 cl:∀x∈L,x.2.2.1.length=n/\x.2.2.2.ok
 asks:∀ol,Φ ol->∀x∈bC Ä,∀t∈bC Ä,∀it,bH t.2.2.2=some it->Eo ol (dC x.2) it
inductive spTakings  (vs:Pz)(H:Hp)(Q:VK)(E_:XK):Prop
 |mk (l:Pg) (L:L3) (W:List Str) (n:Nat) (Φ:Ol->Prop) (h0:ą) (h1:Ę) (h2:Tkn L W n Φ) (h3:∀ol a vs H',Φ ol->Same H H'->H' a=some (.lst vs)->Paired (TkAt H') vs (br ol Ð)->Q ÿ H'):spTakings  vs H Q E_
theorem pJ(ol:Ol)(D:ĉ):∀E:List D3,(E.flatMap λd=>eO ol D d).length<=E.length
 | []=>Ze _
 |d::E=>by
  rw[List.flatMap_cons,Zh,Zk];have:=pJ ol D E;have h1:(eO ol D d).length<=1:=by unfold eO;split<;>simp
  omega
theorem OlE.but{H H':Hp}(x:Ă)(hl:ß)(kp:∀b o,b≠l->H b=some o->H' b=some o):OlE C H' p d g ol:=by obtain⟨kvs,⟨⟨dx,h1⟩,h2,h3,h4⟩,h5⟩:=x;exact#[kvs,#[#[dx,kp _ _ (dI h1 hl nofun) h1],kp _ _ (dI h2 hl nofun) h2,kp _ _ (dI h3 hl nofun) h3,h4],h5.ts λb ws e=>kp b _ (dI e hl nofun) e]
abbrev kU:Stmt:=top 36
abbrev wZ:List Str:=["ready","words","whole","lasting","takings","deed","item"]
theorem dF:FnScope wZ ["ready"] (aq kU):= ~~~0
theorem vS(F:Fun K "takings_of" "takings_of" kU f fd)(j8:ó)(j9:↑Fn 8 "steps_of" ["ready"] spSteps)(k9:↑Fn 5 "stepped" ["steps"] ŝ)(a6:Á)(v9:↑Fn 1 "taken_item" ["deed"] spTaken)(k7:↑Fn 5 "first_gainsayer" ["taking","item","lasting","whole"] (spFg C))(NS:Ő):↑FnOk CX0 9 f fd ["ready"] spTakings:=by
 exists dF
 obtain⟨l,L,W,n,Φ,rfl,⟨hl,hL⟩,T,q⟩:=h;have ll:(aU L).length=L.length:=Zd ..;have l1:=T.len;refine#[_,(b_c (aC (i:=1) Į (oW ź NS uT (q_a Ŀ ai)))
   (b_c (aC (i:=2) Į (aO k9 ↑99 (q_a (dH (own:=["name","step"]) Í rfl (bJ (aO j9 ↑99 Å)) (λ_ _ _ _=>gG (K:=K) (n:=2) rfl rfl (bE (aD (i:=0) (show (["name","step"]:List Str).Nodup by decide)) (bE (aD (i:=1) (show (["name","step"]:List Str).Nodup by decide)) fe))) (gH Ê) ō (λ_ _ _ _=>↑1)) ai)))
   (b_c (pA (j:=3) Į (own:=["deed"]) (#[rfl,⋯,⋯,rfl,#[rfl,rfl,trivial]]:CompOk _ _ [1] ["words"]) rfl (bJ ↑0) (λ_ _ _ _=>aD (i:=0) (show (["deed","words"]:List Str).Nodup by decide)) Ħ (λ_ _ _ _=>(oB (aE (jd (K:=K) rfl) (bo Ò ↑1 Ó) (aB Û)))) ø)
   (b_c (aC (i:=4) Į ű)
   (b_c (eG Z0 rfl (bJ ↑3) (aD (i:=5) Į) (b_1 (aZ (aE (jd (K:=K) rfl) (am ao (am ao ↑5 ah) ah) (aB Û)) (b_c (aC (i:=6) Į (aO v9 ↑99 Ţ))
   (b_1 (bh (eT ↑4 (aB (q_a (aO a6 ↑99 Ţ) (q_a ↑6 (q_a (aO k7 ↑99 (q_a ↑5 (q_a ↑6 (q_a ↑3 å)))) ai)))))))) b_0)))
   (b_1 (aG ↑4))))))),?_]
 refine ax λR0 hR0=>?_;refine#[_,rfl,l,aR L,aU L,rfl,hl,mf hL,∅,T.safe,λa ys rs H1 s1 ea pr run=>?_];have lrs:Ĺ=L.length:=by rw[jT run,ll]
 exists[hW,hN],T.words rs run;have lW:W.length=L.length:=by rw[<-hW,Zd,lrs]
 have prs:Paired (xf H1) ys Â:=by
  clear run lrs ea hW hN;induction pr with
  |nil=>exact .nil
  |cons h _ ih =>exists[t,nv,rfl,e1,b,rfl,e2],h;exact .cons #[t,b,rfl,e1,e2] ih
 refine#[a,ys,_,rfl,ea,prs,by rw[Zw pr,lrs];omega,λwd gwd=>?_];have wwd:=ad gwd è;have ewd:upd H1 wd è wd=some è:=ac;have S2:Same H (upd H1 wd è):=s1.trans wwd;have wv:∀(i:õ) (x:Pg×D3) (w0:Str),L[i]?=some x->W[i]?=some w0->bc (bR [] Â) (nk (toD x.2).1)=some (.str w0):=λi x w0 hx hw=>by
  have hi:i<Ĺ:=by have:=(Zz.mp hx).1;omega
  have h1:rs[i].1=(toD x.2).1:=by have h:=ZO Ě hN;simp only[Zx,aU,hx,Zf hi,Option.map_some,x8]at h;exact h
  have h2:rs[i].2.1=w0:=by have h:=ZO Ě hW;simp only[Zx,hw,Zf hi,Option.map_some,x8]at h;exact h
  refine yg ?_ (Zu.mpr #[rs[i],ZL hi,by rw[h1,h2]]);rw[Z7,show(Prod.fst∘λr:bp=>(nk r.1,V.str r.2.1))=nk∘λr:bp=>r.1 from rfl,<-Z7,hN];exact T.nod.map _ λa b hab z=>hab (km z)
 generalize bR [] Â=kvw at ewd S2 wv ⊢;generalize upd H1 wd (.dT kvw)=H2 at ewd S2 ⊢;refine hR0 _ _ ?_;refine ax λR0 hR0=>?_;refine#[_,rfl,l,aR L,aU L,rfl,S2 _ _ hl,mf λx hx=>(hL x hx).ts (Ps S2),∅,T.safe,λa2 ys2 rs2 H3 s3 ea2 pa2 run2=>#[a2,rfl,#[_,Pu ea2],?_]];have ly2:ys2.length<=63:=by have h1:=Zw pa2;have h2:(aP rs2).length<=rs2.length:=YQ ..;rw[jT run2,ll]at h2;omega
 refine bV (λi zs H'=>Same H3 H'/\æ<=i/\Paired (StV H') zs (((aP rs2).take i).map Prod.snd)) ∅ ô #[Same.refl _,Ze _,.nil] (λi zs H' z=>Pu (z.1 _ _ ea2)) ?_ ?_
 .rintro i zs H' v hv ⟨sm,lz,pz⟩ Y hY;exists[r,hr',t,st',nv,rfl,e1,e2,e3],ba pa2 hv;refine#[t,_,rfl,Pt ģ,rfl,_,_,rfl,_,_,rfl,rfl,?_];refine#[_,rfl,hY _ _ #[sm,by rw[Zh];exact ZT lz,?_]];rw[eM hr',ZA];exact Ys pz #[st',rfl,e3.ts ĝ]
 rintro zs lz H4 ⟨sm,lzs,pz⟩ glz;rw[Zw pa2,ZI]at pz;have wlz:=ad glz ă;refine#[lz,zs,_,Φ,rfl,ac,Paired.mapP pz λ_ _ (z:StV _ _ _)=>z.ts (Ps wlz),qj run2,T.steps rs2 run2,λp d g ol H5 s5 O5 hΦ=>?_];have S25:Same H2 H5:=s3.trans (sm.trans (wlz.trans s5));have S5:=S2.trans S25;have ewd5:=S25 _ _ ewd;refine hR0 _ _ ?_;refine ax λR0 hR0=>?_;refine#[_,rfl,l,rfl,#[_,Pu Ĥ],?_];have lzw:(L.zip W).length=L.length:=by rw[List.length_zip,lW,Nat.min_self]
 refine bV (xs:=aR L) (λi zs H'=>Same H5 H'/\zs=aR (bC Ë)) ı (λi zs _ z=>by
  rw[z.2,aY,bC,Zd];exact Zr (ZJ ..) (by rw[y7];omega)) #[Same.refl _,rfl] (λi zs H' z=>Pu (z.1 _ _ Ĥ)) ?_ ?_
 .rintro i zs H' v hv ⟨sm,rfl⟩ Y hY;exists[hi,rfl],eX hv;have hx:=ZL hi;have hd:=(hL _ hx).ts (Ps (S5.trans sm));have hiW:i<W.length:=∅
  have hz:Ä[i]?=some Ż:=by rw[Zf ∅,List.getElem_zip]
  refine#[_,rfl,_,rfl,_,_,rfl,ŭ,λt H6 s6 e6=>?_];refine#[wd,.str W[i],rfl,wv i _ _ (Zf hi) (Zf hiW)▸DGet.t (k:=nk (toD L[i].2).1) (s6 _ _ (sm _ _ ewd5)) e6,sz rfl,λu gu=>?_];have wu:=s6.trans (ad gu (.tup [.str "done",.str "top"]));refine#[u,_,rfl,.inr ų,rfl,rfl,_,rfl,?_];have et:bC Ö=bC Ë++bC [Ż]:=by rw[eM hz,bC,Yq,ZA];rfl
  cases hb:bI W[i]with
  |true =>have ei:É=true:=hb;rw[ei];refine bg #[_,rfl,hY _ _ #[sm.trans wu,?_]];rw[et,lK];simp[bC,hb,aR]
  |false =>have ei:É=false:=hb;rw[ei];refine aI (hY _ _ #[sm.trans wu,?_]);rw[et,lK];simp[bC,hb,aR]
 rintro zs la H6 ⟨sm,rfl⟩ gla;rw[aY,<-lzw,ZI];have mem:∀x∈bC Ä,x∈L:=λx hx=>by exists[z,h1,rfl],Zu.mp hx;exact(Y4 (ZF.mp h1).1).1
 have lD:(bC Ä).length<=L.length:=by rw[bC,Zd];exact Zr (ZJ ..) ∅
 have asks:=T.asks ol hΦ;have q':=λa vs H'=>q ol a vs H' hΦ;generalize bC Ä=D at asks q' mem lD ⊢
 ext gla H7 wla ela
 have S57:=sm.trans wla;have S7:=S5.trans S57;refine hR0 _ _ ?_;refine ax λR0 hR0=>?_;refine#[sz rfl,λtl gtl=>?_];have wtl:=ad gtl Ñ;have etl:upd H7 tl Ñ tl=some Ñ:=ac;have S8:=S7.trans wtl;have gtl0:H tl=none:=S7.free gtl;have ela8:=wtl _ _ ela;have nla:la≠tl:=λz=>by rw[z,gtl]at ela;cases ela
 have O8:=O5.same (S57.trans wtl);have hD:∀x∈D,DA (upd H7 tl Ñ) x.1 x.2:=λx hx=>(hL x į).ts Ŵ;generalize upd H7 tl Ñ=H8 at etl S8 ela8 O8 hD ⊢;refine hR0 _ _ ?_;refine ax λR0 hR0=>?_;refine#[_,rfl,la,rfl,#[_,Pu ela8],?_];refine eh (K:=K) (a:=la) (xs:=aR D) (λi Z H'=>(∀b o,b≠tl->H8 b=some o->H' b=some o)/\∃(zs:Pz) (o5 o6:Č),H' tl=some ă/\æ<=i/\Paired (TkAt H') zs (((D.take i).map Prod.snd).flatMap λd=>eO ol Î d)/\Z=[some à,some (.ref wd),some þ,some (.ref la),some (.ref tl),o5,o6])
  #[λb o _ e=>e,[],none,none,etl,Ze _,.nil,rfl] (λi Z H' _ z=>Pu (z.1 _ _ nla ela8)) ?_ ?_
 .rintro i v Z H' hv ⟨kp,zs,o5,o6,hz,lz,pz,rfl⟩ DL hDL;exists[hi,rfl],eX hv;have hx:=ZL hi;have tp:TS H8 H':=λb ws e=>kp b _ (dI e etl nofun) e;have hd:=(hD _ hx).ts tp;have er:((D.take Ũ).map Prod.snd).flatMap Ĳ=((D.take i).map Prod.snd).flatMap Ĳ++eO ol Î D[i].2:=by rw[eM (Zf hi),ZA,List.flatMap_append];simp
  have hi1:i<100:=∅
  obtain⟨c,wa,e1,e2,⟨r,e3,e4⟩,_⟩:=id hd;refine#[_,rfl,_,_,_,_,rfl,rfl,Pt e1,at2,wa,_,_,_,rfl,rfl,Pt e3,at0,sz rfl,λu gu=>?_];have wu:=ad gu ö;refine#[u,_,rfl,.inr ų,rfl,rfl,_,rfl,?_];have ei:(if false=true then !inV ē [.str "take",.str "join"]else inV ē [.str "take",.str "join"])=(bH D[i].2.2.2).isSome:=GJ _;rw[ei];generalize upd H' u ö=H9 at wu ⊢;cases ht:bH D[i].2.2.2 with
  |none =>refine aI (hDL _ _ #[λb o hb e=>wu _ _ đ,zs,_,_,wu _ _ hz,Nat.le_succ_of_le lz,?_,rfl]);rw[er,show eO ol Î D[i].2=[]from by unfold eO;rw[ht],ZD];exact Paired.mapP pz λ_ _ (z:TkAt _ _ _)=>z.ts ā
  |some it =>
   refine bg ?_;refine ax λR hR=>?_;refine#[_,rfl,_,_,it,rfl,hd.ts ā,ht,λiv hiv=>hR _ _ ?_];refine#[_,rfl,.inl #[rfl,_,Pu (wu _ _ hz)],_,rfl,_,_,rfl,(hd.ts ā).dd,λtn H10 s10 e10=>?_];have w10:=wu.trans s10;have kp10:∀b o,b≠tl->H8 b=some o->H10 b=some o:=λb o hb e=>w10 _ _ đ;have tp10:TS H8 H10:=TS.trans tp (Ps w10);refine#[_,rfl,_,rfl,_,rfl,_,rfl,_,rfl,_,iv,la,p,d,g,D,D[i].2,it,ol,rfl,hd.ts (Ps w10),hiv.ts' (Ps s10),#[kp10 _ _ nla ela8,λx hx'=>(hD x hx').ts tp10],O8.but etl kp10,λx hx'=>#[by rw[(T.cl x ż).1,(T.cl _ (mem _ hx)).1],(T.cl x ż).2,asks x hx' _ hx it ht],λbv H11 s11 hu=>#[sz rfl,λtr gtr=>?_]]
   ext gtr H12 wtr etr
   have w12:=w10.trans Ŏ;refine#[tl,_,_,rfl,rfl,w12 _ _ hz,aJ ∅,?_];have t13:TS H12 (upd H12 tl é):=jp λws e'=>by rw[w12 _ _ hz]at e';cases e'
   refine hDL _ _ #[λb o hb e=>by rw[af hb];exact w12 _ _ đ,zs++[.ref tr],_,_,ac,by rw[Zh];exact ZT lz,?_,rfl];rw[er,show eO ol Î D[i].2=[(nm3 D[i].2,it,fH ol Î D[i].2 it)]from by unfold eO;rw[ht]];exact Ys (Paired.mapP pz λ_ _ (z:TkAt _ _ _)=>z.ts (TS.trans (Ps w12) t13)) #[tr,.ref tn,iv,bv,rfl,t13 _ _ etr,#[tn,rfl,t13 _ _ (wtr _ _ (s11 _ _ e10))],hiv.ts' (TS.trans (Ps (s10.trans Ŏ)) t13),(hu.ts (Ps wtr)).ts t13]
 .rintro Z H' ⟨kp,zs,o5,o6,hz,lz,pz,rfl⟩;refine hR0 _ _ ?_;rw[aY,ZI]at pz;exact#[_,rfl,q' tl zs H' (λb o e=>kp b o (aj e gtl0) (S8 _ _ e)) hz pz]
def lC:Wd->Option Nm
 |.move n _ _=>some n
 |.write n _=>some n
 |.mark n _=>some n
 |.due n _=>some n
 |.fold n _=>some n
 |_=>none
def jt:Wd->Bool
 |.move _ _ _=>true
 |.write _ _=>true
 |.mark _ _=>true
 |.due _ _=>true
 |.fold _ _=>true
 |_=>false
theorem Bf(wd:Wd):inV ĕ [.str "move",.str "write",.str "mark",.str "due",.str "fold"]=jt wd:=by cases wd<;>rfl
def mJ(a b:Wd):Bool:=decide (a.word=b.word)&&decide (lC a=lC b)
def iB(wd:Wd):Qb:=.tuple [.str Ï,upD ļ]
theorem EU(a b:Wd):PyData.eqv (iB a) (iB b)=mJ a b:=by
 have e:=pM (lC a) (lC b);have e0:∀u:Option Nm,iV u=upD u:=λu=>by cases u<;>rfl
 rw[e0,e0]at e;unfold iB mJ;simp only[PyData.eqv,PyData.eqvAll,e,Bool.and_true];congr 1
theorem J0(x:V)(r:Pz):ce (x::r) none (some 2)=x::r.take 1:=by
 unfold ce;rw[HT.sIx_none,show(2:ū)=((2:õ):Int)from rfl,HT.sIx_nat,List.drop_zero,Nat.sub_zero];cases r with
 |nil=>rfl
 |cons y r =>rw[Nat.min_eq_left (by simp)];rfl
theorem xF(wd:Wd):SeqAt.shaped ŵ=true:=by refine bO (by simp[iB,PyData.canLay0,PyData.canLayAll0,uO wd,(jk ļ).1]) ?_;have:=(jk ļ).2;simp only[iB,PyData.depth,PyData.depthAll];omega
theorem zO{t:Pg}(hf:jt wd=true)(h6:Ĩ)(h7:á):Dt H ŵ ř:=by
 rw[J0]at h7;have fin:∀(y:V) (r':Pz),r=y::r'->UpAt H y ļ->Dt H ŵ ř:=λy r' e hu=>by rw[e]at h7;exact cS h7 (aH ĵ (aH (wG hu) dP))
 cases wd with
 |move m u pl=>exists[nv,uv,pv,rfl,a0,_],h6;exact fin _ _ rfl a0
 |write m tx=>exists[nv,rfl,a0],h6;exact fin _ _ rfl a0
 |mark m tx=>exists[nv,rfl,a0],h6;exact fin _ _ rfl a0
 |due m tx=>exists[nv,rfl,a0],h6;exact fin _ _ rfl a0
 |fold m tx=>exists[nv,rfl,a0],h6;exact fin _ _ rfl a0
 |_=>cases hf
theorem EY{t:Pg}(h6:Ĩ)(ok:Ů)(h7:á)(hd:jt d=true):∃dx,Dt H dx ř/\SeqAt.shaped dx=true/\PyData.eqv dx (iB d)=mJ wd d:=by
 cases c:jt wd with
 |true=>exact#[iB wd,zO c h6 h7,xF wd,EU wd d]
 |false =>
  have hw:Ï≠d.word:=λz=>by rw[<-Bf wd,z,Bf d,hd]at c;cases c
  rw[J0]at h7;exists[ds,i1,i2,i3],tK (vs:=r.take 1) λv hv=>xw h6 ok (List.mem_of_mem_take hv);refine#[.tuple Ŝ,cS h7 (aH ĵ i1),bO ?_ ?_,?_]
  .simp[PyData.canLay0,PyData.canLayAll0,uO wd,i2]
  .simp only[PyData.depth,PyData.depthAll];omega
  .have e3:(Ï==d.word)=false:=by simpa using hw
   unfold iB mJ;simp only[PyData.eqv,PyData.eqvAll];rw[e3,decide_eq_false hw,Bool.false_and,Bool.false_and]
def gZ(e d:D3):Bool:=mJ e.2.2 d.2.2&&jV e d
def ovJ(D:ĉ)(k:õ):Option Nm:=match D[k]? with
 |some d=>if jt d.2.2=true then((D.drop Ċ).find? λe=>gZ e d).map nm3 else none
 |none=>none
theorem EN(L:L3)(k:õ):ce ĳ (some ((k:ū)+1)) none=aR î:=by
 unfold ce;rw[HT.sIx_none,show(k:ū)+1=((k+1:Nat):Int) by omega,HT.sIx_nat,aY];unfold aR;rw[List.map_drop];rcases Nat.le_total Ċ L.length with c|c
 .rw[Nat.min_eq_left c,Yt (by rw[YL,Zd];omega)]
 .rw[Nat.min_eq_right c,List.drop_eq_nil_of_le (by rw[Zd];omega),List.drop_eq_nil_of_le (by rw[Zd];exact c)];simp
abbrev NsAt(H:Hp)(kvs:Py)(ov:Ī):Prop:=Rws (λv n=>NameIs H v Ĵ) kvs ov
theorem NsAt.ts(x:NsAt H kvs ov)(t:ë):NsAt H' kvs ov:=Paired.mapP x λ_ _ z=>#[z.1,z.2.ts' t]
inductive spOvers  (vs:Pz)(H:Hp)(Q:VK)(E_:XK):Prop
 |mk (l:Pg) (L:L3) (n:Nat) (h0:vs=[.ref l]) (h1:H l=some (.lst ĳ)) (h2:Ē) (h3:(∀x∈L,x.2.2.1.length=n/\x.2.2.2.ok)) (h4:L.length<=63) (h5:(L.Pairwise λx y=>nm3 x.2≠nm3 y.2)) (h6:∀d kvs ov H',Same H H'->H' d=some (.dT kvs)->NsAt H' kvs ov->(∀(j:õ) (hj:Ķ),look ov ě=ovJ È j)->ä->Q (.ref d) H'):spOvers  vs H Q E_
abbrev nM:Stmt:=top 43
abbrev AG:List Str:=["done","overs","at","deed","later"]
theorem gO:FnScope AG ["done"] (aq nM):= ~~~0
theorem zd(F:Fun K "overs_of" "overs_of" nM f fd)(a6:Á)(u7:í)(j5:mg "enumerate" = none)(a8:mg "len" = none):↑FnOk CX0 4 f fd ["done"] spOvers:=by
 exists gO
 exists[l,L,n,rfl,hl,hL,hn,l1,pw,q],h;exists _,(b_c (aC (i:=1) ů qg)
   (b_c (eG Z0 rfl (CL j5 Å) (iZ rfl (bE (aD (i:=2) ů) (bE (aD (i:=3) ů) fe))) (b_1 (aZ (aE (jd (K:=K) rfl) (am ao (am ao ↑3 ah) ah) (aB (q_a ar ğ))) (b_c (pA (j:=4) ů (own:=["each"]) (#[rfl,⋯,⋯,rfl,#[rfl,rfl,trivial]]:CompOk _ _ [3] ["deed"]) rfl (bJ (cG CY ↑0 (cg (aF fN ↑2 ah)) cM)) (λ_ _ _ _=>aD (i:=0) (show (["each","deed"]:List Str).Nodup by decide)) Ħ (λ_ _ _ _=>(oB (t_w (fm (aE (nF Ò) (cG bK (am (iJ (K:=K) rfl) ↑0 ah) cM (cg ah)) (cG bK (am (iJ (K:=K) rfl) ↑1 ah) cM (cg ah))) (fz (hM ć)))))) ø)
   (b_1 (aZ (aE Fi (q_B jG a8 Yu š) ah) (b_1 (eE Ò ↑1 (aO a6 ↑99 Š) (aO a6 ↑99 (q_a (am dq ↑4 ah) ai)))) b_0))) b_0)))
   Ō))
 refine ax λR0 hR0=>?_;intro od god;have w0:=ad god (.dT []);refine hR0 _ _ ?_;refine ax λR0 hR0=>?_;refine#[_,rfl,l,_,rfl,w0 _ _ hl,?_];refine CB (i:=2) (j:=3) (λk Z H'=>Same H H'/\∃(kvs:Py) (ov:Ī) (o2 o3 o4:Č),H' od=some (.dT kvs)/\NsAt H' kvs ov/\ov.length<=k/\(∀(j:õ) (hj:Ķ),look ov ě=if j<k then ovJ È j else none)/\ä/\Z=[some à,some Ė,o2,o3,o4])
  #[w0,[],[],none,none,none,ac,.nil,Ze _,λj hj=>rfl,λ_ _=>rfl,rfl] ü ?_ ?_
 .rintro k x Z H3 hx ⟨S3,kvs,ov,o2,o3,o4,eod,hns,lov,hlk,hno,eZ⟩ DE hDE T hT;subst eZ;exists[hk,rfl],eX hx;have hm:=ZL hk
  ext hT H4 wT zz
  have S4:=S3.trans wT;have eod4:=wT _ _ eod;have ns4:=hns.ts (Ps wT);obtain⟨c,wa,e1,e2,⟨r,e3,e4⟩,e5,e6⟩:=(hL _ hm).ts (Ps S4);refine(BU rfl Ű at2 (Pt e3) at0 #[sz rfl,λu gu=>?_])
  ext gu H5 wu eu
  refine#[u,_,rfl,.inr (Pt eu),rfl,rfl,_,rfl,?_];have ei:(if false=true then !inV Ĕ [.str "move",.str "write",.str "mark",.str "due",.str "fold"]else inV Ĕ [.str "move",.str "write",.str "mark",.str "due",.str "fold"])=jt L[k].2.2.2:=Bf _;rw[ei];have S5:=S4.trans wu;have eod5:=wu _ _ eod4;have ns5:=ns4.ts ā;have ek:È[k]?=some L[k].2:=by rw[Zx,Zf hk];rfl
  have ej:ovJ È k=if jt L[k].2.2.2=true then(((L.drop Ċ).map Prod.snd).find? λe=>gZ e L[k].2).map nm3 else none:=by unfold ovJ;rw[ek,List.map_drop]
  have kept:∀{H':Hp},Same H5 H'->ovJ È k=none->∀j (hj:Ķ),look ov ě=if j<k+1 then ovJ È j else none:=λ_ e j hj=>by
   rw[hlk j hj];by_cases c1:j<k
   .rw[Pb c1,Pb ∅]
   .rw[Pa c1];by_cases c2:j=k
    .subst c2;rw[Pb ∅,e]
    .rw[Pa ∅]
  cases cf:jt L[k].2.2.2 with
  |false =>rw[cf,Pa ⋯]at ej;exact aI (hDE _ _ #[S5,kvs,ov,_,_,_,eod5,ns5,∅,kept ţ ej,hno,rfl])
  |true =>
   rw[cf,Pb rfl]at ej;refine bg ?_;refine ax λR hR=>?_;refine#[_,rfl,_,rfl,_,_,rfl,rfl,_,rfl,l,_,rfl,Pu Ĥ,λpc gpc=>#[pc,rfl,#[_,Pu ac],?_]];have ecut:=EN L k;dsimp only;rw[ecut]
   ext gpc H6 wpc epc
   have S6:=S5.trans wpc;have eod6:=wpc _ _ eod5;have ns6:=ns5.ts (Ps wpc);refine bV (xs:=aR î) (λi zs H'=>Same H6 H'/\æ<=i/\zs=aR (((L.drop Ċ).take i).filter λy=>gZ y.2 L[k].2)) (by rw[aY,YL];omega) ô #[Same.refl _,Ze _,rfl] (λi zs H' z=>Pu (z.1 _ _ epc)) ?_ ?_
   .rintro i zs H' v hv ⟨sm,lz,ez⟩ Y hY;exists[hi,rfl],eX hv;have hy:î[i]∈L:=List.mem_of_mem_drop (ZL hi);generalize hyy:î[i]=y at hy hv ⊢;have ti:(L.drop Ċ).take Ũ=(L.drop Ċ).take i++[y]:=eM (by rw[Zf hi,hyy]);have S7:=S6.trans sm;have dy:=(hL _ hy).ts (Ps S7);have dk:=(hL _ hm).ts (Ps S7);exists[cy,wy,y1,y2,y3,_],id dy;exists[ck,wk,k1,k2,k3,_],id dk;exists[ry,y5,y6],id y3;exists[rk,k5,k6],id k3;refine(vix rfl (Pt y1) at2 #[_,rfl,wy,_,rfl,y5,λt1 H8 s8 e8=>?_]);refine(vix rfl (Pt (s8 _ _ k1)) at2 #[_,rfl,wk,_,rfl,s8 _ _ k5,λt2 H9 s9 e9=>?_]);have s89:=s8.trans s9;have p3:=zO (r:=rk) cf (k6.ts ħ) e9;exists[dx,p1,p2,px],EY (r:=ry) (d:=L[k].2.2.2) (y6.ts ħ) (hn y hy).2 (s9 _ _ e8) cf;refine#[dx,_,p1,p3,p2,xF _,_,rfl,?_];rw[px];have drop:gZ y.2 L[k].2=false->∀{H'':Hp},Same H' H''->Y zs H'':=λeo {H''} s''=>hY _ _ #[sm.trans s'',∅,by rw[ti,Yq,List.filter_cons,Pa (by rw[eo];decide),List.filter_nil,ZD];exact ez];cases cs:mJ y.2.2.2 L[k].2.2.2 with
    |false=>exact aI (aI (drop (by unfold gZ;rw[cs];rfl) s89))
    |true =>
     refine bg ?_;refine#[_,rfl,_,rfl,y.1,L[k].1,y.2,L[k].2,rfl,dy.ts ħ,dk.ts ħ,by rw[(hn y hy).1,(hn _ hm).1],λHA sA=>#[_,rfl,?_]];cases ca:jV y.2 L[k].2 with
     |false=>exact aI (drop (by unfold gZ;rw[ca,Bool.and_false]) Ŕ)
     |true =>refine bg (#[_,rfl,hY _ _ #[sm.trans Ŕ,by rw[Zh];exact ZT lz,?_]]);rw[ti,Yq,List.filter_cons,Pb (by show gZ y.2 L[k].2=true;unfold gZ;rw[cs,ca];rfl),List.filter_nil,ez];unfold aR;rw[ZA];rfl
   .rintro zs lt H7 ⟨sm,lz,ez⟩ glt;rw[aY,ZI]at ez
    ext glt H8 wlt elt
    have S8:=S6.trans ŕ;have eod8:=wlt _ _ (sm _ _ eod6);have ns8:=ns6.ts (Ps ŕ);refine hR _ _ ?_;have ef:(((L.drop Ċ).map Prod.snd).find? λe=>gZ e L[k].2)=(((L.drop Ċ).filter λy=>gZ y.2 L[k].2).head?).map Prod.snd:=by rw[List.head?_filter,List.find?_map];rfl
    refine#[_,rfl,lt,_,rfl,.inl (Pu elt),_,_,rfl,rfl,_,rfl,?_];cases hF:(L.drop Ċ).filter (λy=>gZ y.2 L[k].2)with
    |nil =>rw[hF]at ez ef;subst ez;rw[ef]at ej;refine aI (hDE _ _ #[S8,kvs,ov,_,_,_,eod8,ns8,∅,λj hj=>kept ţ ej j hj,hno,rfl])
    |cons y ys =>
     rw[hF]at ez ef;subst ez;have hy:y∈L:=by
      have:y∈(L.drop Ċ).filter λy=>gZ y.2 L[k].2:=by rw[hF];exact Zq
      exact List.mem_of_mem_drop (ZF.mp this).1
     rw[ef]at ej;refine kf (λ_=>?_) (λz=>absurd (show(0:ū)<((aR (y::ys)).length:Int) by rw[aY,Zk];omega) z);have dy:=(hL _ hy).ts Ŵ;have dk:=(hL _ hm).ts Ŵ;have lkv:=bT ns8;refine#[_,rfl,lt,_,_,_,rfl,rfl,Pu elt,at0,_,_,rfl,dy.dd,λt1 H9 s9 e9=>?_];refine#[_,rfl,_,rfl,_,_,rfl,(dk.ts (Ps s9)).dd,λt2 HA sA eA=>#[od,_,rfl,DPut.t (k:=nk ù) (sA _ _ (s9 _ _ eod8)) eA (aJ ∅),?_]];have s9A:=s9.trans sA;have td:TS HA (upd HA od (.dT (aS kvs (nk ù) (.ref t1)))):=kX (s9A _ _ eod8);refine hDE _ _ #[cC (S8.trans s9A) god,_,aw ov ù (nm3 y.2),_,_,_,ac,NsAt.ts (fV (ns8.ts (Ps s9A)) (n:=nm3 L[k].2) (it:=nm3 y.2) #[t1,rfl,sA _ _ e9]) td,by have:=dR ov ù (nm3 y.2);omega,λj hj=>?_,λm hm'=>by rw[ay,Pa λz=>hm' _ hm ī];exact hno m hm',rfl];rw[ay];by_cases c2:j=k
     .subst c2;rw[Pb rfl,Pb ∅,ej];rfl
     .have ne:nm3 L[j].2≠nm3 L[k].2:=by
       have p:=List.pairwise_iff_getElem.mp pw;rcases YB j k with c|c
       .exact p j k hj hk c
       .exact λz=>p k j hk hj ∅ ī
      rw[Pa ne,hlk j hj];by_cases c1:j<k
      .rw[Pb c1,Pb ∅]
      .rw[Pa c1,Pa ∅]
 .rintro Z H3 ⟨S3,kvs,ov,o2,o3,o4,eod,hns,lov,hlk,hno,eZ⟩;refine hR0 _ _ ?_;subst eZ;rw[aY]at lov hlk;exact#[_,rfl,q od kvs ov H3 S3 eod hns (λj hj=>by rw[hlk j hj,Pb hj]) hno]
abbrev Rp:=Nm×Str×Option Nm
def RpAt(H:Hp)(v:V)(r:Rp):Prop:=∃(t:Pg) (nv bv:V),v=.ref t/\H t=some (.tup [nv,.str r.2.1,bv])/\NameIs H nv ĥ/\UpAt H bv r.2.2
theorem RpAt.ts(x:RpAt H v r)(s:ë):RpAt H' v r:=by exists[t,nv,bv,h1,h2,h3,h4],x;exact#[t,nv,bv,h1,s _ _ h2,h3.ts' s,h4.ts s]
def iI(acc:Ī)(qs:List Ū):As Nm:=qs.foldl (λacc q=>aw acc q.1 q.2) acc
def dN(T:List Tk):List Ū:=T.filterMap λr=>r.2.2.map λb=>(r.1,b)
def eQ(T:List Tk):As Nm:=iI [] (dN T)
def dW(kp ov:Ī)(ts:Ŧ)(n:Nm)(w:Str):Rp:=if w="off" then(n,"off",(look ts n).map λd=>d.1)else match look kp n with
 |some b=>(n,"kept",some b)
 |none=>match look ov n with
  |some b=>(n,"over",some b)
  |none=>(n,w,none)
def gi(kp ov:Ī)(ts:Ŧ)(Zq0:ð):List Rp:=Zq0.map λz=>dW kp ov ts Ž z.2
def xI(w:Str):Bool:=decide (w="done")
def ci(Zq0:ð):L3:=(Zq0.filter λz=>xI z.2).map Prod.fst
def OvR(D:ĉ)(ov:Ī):Prop:=(∀(j:õ) (d:D3),D[j]?=some d->look ov (nm3 d)=ovJ D j)/\∀n,(∀d∈D,nm3 d≠n)->look ov n=none
theorem DH{w:Str}(p:ê):w≠"off":=by
 cases p with
 |none=>decide +kernel
 |take=>split<;>decide +kernel
 |back=>split<;>decide +kernel
 |top _=>decide +kernel
 |step _ _ wr=>cases wr<;>decide +kernel
theorem FX{ts:Ŧ}(h:ñ):∀(i:õ) (d:Dd) (r:bp),ds[i]?=some d->rs[i]?=some r->r.2.1="off"->∃dd,look ts d.1=some dd:=by
 induction h with
 |nil=>intro i d r h;simp at h
 |@off ol d0 ds rs c _ ih =>
  intro i d r h1 h2 h3;cases i with
  |zero =>
   cases h1;cases e:look ts d0.1 with
   |some dd=>exact#[dd,rfl]
   |none =>unfold cR at c;rw[e]at c;have c':(!d0.2.isTurn&&false)=true:=c;rw[Bool.and_false]at c';cases c'
  |succ i=>exact ih i d r h1 h2 h3
 |turn _ _ _ ih =>
  intro i d r h1 h2 h3;cases i with
  |zero =>cases h2;dsimp only at h3;split at h3<;>exact absurd h3 ⋯
  |succ i=>exact ih i d r h1 h2 h3
 |play _ _ p _ ih =>
  intro i d r h1 h2 h3;cases i with
  |zero =>cases h2;exact absurd h3 (DH p)
  |succ i=>exact ih i d r h1 h2 h3
def PrN(H:Hp)(v:V)(q:Ū):Prop:=∃(t b:Pg) (bv:V),v=.ref t/\H t=some (.tup [.ref b,bv])/\H b=some (.tup ((nk q.1).map kV))/\NameIs H bv (nk q.2)
theorem PrN.ts(x:PrN H v q)(s:ë):PrN H' v q:=by exists[t,b,bv,h1,h2,h3,h4],x;exact#[t,b,bv,h1,s _ _ h2,s _ _ h3,h4.ts' s]
theorem DN(x:Paired (PrN H) zs qs):∃ps,Paired (xf H) zs ps/\Paired Õ ps qs:=by
 induction x with
 |nil=>exact#[[],.nil,.nil]
 |@cons v q _ _ h _ ih =>exists[ps,i1,i2],ih;exists[t,b,bv,rfl,h2,h3,h4],h;exact#[(nk q.1,bv)::ps,.cons #[t,b,rfl,h2,h3] i1,.cons #[rfl,h4] i2]
theorem KB(x:Paired Õ ps qs):∀{kvs:Py} {acc:Ī},NsAt H kvs acc->NsAt H Ģ (iI acc qs):=by
 induction x with
 |nil=>intro kvs acc a;exact a
 |@cons p q ps qs h _ ih =>intro kvs acc a;show NsAt H ã (iI (aw acc q.1 q.2) qs);rw[h.1];exact ih (fV a h.2)
inductive spReportG  (vs:Pz)(H:Hp)(Q:VK)(E_:XK):Prop
 |mk (l:Pg) (L:L3) (W:List Str) (n:Nat) (Φ:Ol->Prop) (h0:ą) (h1:Ę) (h2:Tkn L W n Φ) (h3:∀ol ov a ys H',Φ ol->OvR ė ov->Same H H'->H' a=some (.lst ys)->Paired (RpAt H') ys (gi (eQ (br ol Ð)) ov Ü Ä)->Q ÿ H'):spReportG  vs H Q E_
abbrev lX:Stmt:=top 42
abbrev yR:List Str:=["ready","words","turns","kept","over","report","name","word"]
theorem dj:FnScope yR ["ready"] (aq lX):= ~~~0
theorem yc(F:Fun K "report_of" "report_of" lX f fd)(j8:ó)(i6:↑Fn 2 "last_turns" ["ready"] spLast)(i7:↑Fn 9 "takings_of" ["ready"] spTakings)(NW:↑Fn 4 "overs_of" ["done"] spOvers)(a6:Á)(NS:Ő)(u4:mg "zip" = none):↑FnOk CX0 10 f fd ["ready"] spReportG:=by
 exists dj
 exists[l,L,W,n,Φ,rfl,lr,T,q],h;have ll:(aU L).length=L.length:=Zd ..;have l1:=T.len;exists _,(b_c (aC (i:=1) Ğ Ŀ)
   (b_c (aC (i:=2) Ğ (aO i6 ↑99 Å))
   (b_c (aC (i:=3) Ğ (oW ź NS uT (q_a (dH (own:=["name","item","by"]) Í rfl (bJ (aO i7 ↑99 Å)) (λ_ _ _ _=>gG (K:=K) (n:=3) rfl rfl (bE (aD (i:=0) (show (["name","item","by"]:List Str).Nodup by decide)) (bE (aD (i:=1) (show (["name","item","by"]:List Str).Nodup by decide)) (bE (aD (i:=2) (show (["name","item","by"]:List Str).Nodup by decide)) fe)))) (gH (bq Ħ aK Ê (bZ aK (bZ aK bG)))) (λ_ _ _ _=>(oB (aE kn ↑2 cz))) (λ_ _ _ _=>(aB Ş))) ai)))
   (b_c (aC (i:=4) Ğ (aO NW ↑99 (q_a (dH (own:=["deed","named"]) Í rfl (zQ u4 (q_a ↑0 Ô)) (λ_ _ _ _=>gG (K:=K) (n:=2) rfl rfl (bE (aD (i:=0) (show (["deed","named"]:List Str).Nodup by decide)) (bE (aD (i:=1) (show (["deed","named"]:List Str).Nodup by decide)) fe))) (gH Ê) (λ_ _ _ _=>(oB (aE bW (am (iJ (K:=K) rfl) ↑1 ah) ar))) ø) ai)))
   (b_c (aC (i:=5) Ğ ű)
   (b_c (eG Z0 rfl (bJ ↑1) (iZ rfl (bE (aD (i:=6) Ğ) (bE (aD (i:=7) Ğ) fe))) (b_1 (aZ (aE bW ↑7 ar) (b_1 (bh (eT ↑5 (aB (q_a ↑6 (q_a ar (q_a (aO a6 ↑99 (q_a (bo Ò ↑2 ↑6) ai)) ai))))))) (b_1 (aZ (BP Ò ↑6 ↑3) (b_1 (bh (eT ↑5 (aB (q_a ↑6 (q_a ar (q_a (bo Ò ↑3 ↑6) ai))))))) (b_1 (aZ (BP Ò ↑6 ↑4) (b_1 (bh (eT ↑5 (aB (q_a ↑6 (q_a ar (q_a (bo Ò ↑4 ↑6) ai))))))) (b_1 (bh (eT ↑5 (aB (q_a ↑6 (q_a ↑7 (q_a cz ai))))))))))))))
   (b_1 (aG ↑5))))))))
 refine ax λR0 hR0=>?_;refine#[_,rfl,l,aR L,aU L,rfl,lr.1,mf lr.2,∅,T.safe,λa ys rs H1 s1 ea pr run=>hR0 _ _ ?_];exists[hW,hN],T.words rs run;have lrs:Ĺ=L.length:=by rw[jT run,ll]
 have lys:ys.length=L.length:=by rw[Zw pr,lrs]
 have lW:W.length=L.length:=by rw[<-hW,Zd,lrs]
 have lzw:(L.zip W).length=L.length:=by rw[List.length_zip,lW,Nat.min_self]
 have lr1:=lr.same s1;refine ax λR0 hR0=>?_;refine#[_,rfl,l,aR L,aU L,rfl,lr1.1,mf lr1.2,∅,λta tvs H2 s2 hta hts=>hR0 _ _ ?_];have lr2:=lr1.same s2;refine ax λR0 hR0=>?_;refine#[_,rfl,l,L,W,n,Φ,rfl,lr2,T,λol a3 vs3 H3 hol s3 ea3 pk=>#[a3,rfl,#[_,Pu ea3],?_]];have lvs:vs3.length<=63:=by
  rw[Zw pk];have:=pJ ol Ð Ð;rw[Zd]at this;have h2:(bC Ä).length<=(L.zip W).length:=by unfold bC;rw[Zd];exact ZJ ..
  exact Zr this ∅
 have q':=λov a ys H'=>q ol ov a ys H' hol;generalize br ol Ð=TK at pk q';refine bV (xs:=vs3) (λi zs H'=>Same H3 H'/\æ<=i/\Paired (PrN H') zs (dN ž)) ∅ ô #[Same.refl _,Ze _,.nil] (λi zs H' z=>Pu (z.1 _ _ ea3)) ?_ ?_
 .rintro i zs H' v hv ⟨sm,lz,pz⟩ Y hY;exists[r,hri,t,nv,iv,bv,rfl,e1,e2,e3,e4],ba pk hv;have et:dN (TK.take Ũ)=dN ž++dN [r]:=by rw[eM hri];unfold dN;rw[Y6]
  have tm:=Ps sm;refine#[t,[nv,iv,bv],rfl,Pt ģ,rfl,nv,_,rfl,iv,_,rfl,bv,_,rfl,rfl,?_];exists[nb,rfl,hnb],id e2;cases hb:r.2.2 with
  |none =>rw[hb]at e4;obtain rfl:bv=.non:=e4;refine#[_,rfl,rfl,_,rfl,nB rfl (hY _ _ #[sm,∅,?_])];rw[et,show dN [r]=[]from by unfold dN;rw[Z6,hb];rfl,ZD];exact pz
  |some b =>rw[hb]at e4;exists[bb,rfl,hbb],id e4;refine#[_,rfl,rfl,_,rfl,nz nofun ?_];refine#[_,rfl,_,rfl,sz rfl,λtp gtp=>?_];have wtp:=ad gtp (.tup [.ref nb,.ref bb]);refine hY _ _ #[sm.trans wtp,by rw[Zh];exact ZT lz,?_];rw[et,show dN [r]=[(r.1,b)]from by unfold dN;rw[Z6,hb];rfl];exact Ys (Paired.mapP pz λ_ _ (z:PrN _ _ _)=>z.ts (Ps wtp)) #[tp,nb,.ref bb,rfl,ac,wtp _ _ (sm _ _ hnb),bb,rfl,wtp _ _ (sm _ _ hbb)]
 rintro zs pk4 H4 ⟨s4,lz,pz⟩ gpk;rw[Zw pk,ZI]at pz;have w4:=ad gpk ă;exists[ps,ip1,ip2],DN (Paired.mapP pz λ_ _ (z:PrN _ _ _)=>z.ts (Ps w4));refine#[pk4,zs,ps,rfl,ac,ip1,∅,λkd gkd=>?_];have w5:=ad gkd Ù;have ekd:upd Ø kd Ù kd=some Ù:=ac;have hkp:NsAt Ŗ (bR [] ps) (eQ TK):=(KB ip2 .nil).ts (Ps w5);have s25:Same H2 Ŗ:=s3.trans (s4.trans (w4.trans w5));generalize bR [] ps=kvk at ekd hkp s25 ⊢;generalize upd Ø kd (.dT kvk)=H5 at ekd hkp s25 ⊢;generalize eQ TK=kp at hkp q';refine hR0 _ _ ?_;have s15:=s2.trans s25;have lr5:=lr1.same s15;have ea5:=s15 _ _ ea;have pr5:=Paired.mapP pr λ_ _ (z:ķ)=>z.ts (Ps s15);have hta5:=s25 _ _ hta;have hts5:TsAt H5 tvs Ü:=Paired.mapP hts λ_ _ z=>#[z.1,z.2.ts (Ps s25)]
 have hwi:∀(i:õ) (r:bp),rs[i]?=some r->∃hi:i<L.length,W[i]?=some r.2.1/\r.1=nm3 L[i].2:=λi r hri=>by
  have hi:i<L.length:=by have:=(Zz.mp hri).1;omega
  refine#[hi,?_,?_]
  .rw[<-hW,Zx,hri];rfl
  .have h:=ZO Ě hN;simp only[Zx,aU,hri,Zf hi,Option.map_some,x8]at h;exact h
 refine ax λR0 hR0=>?_;refine#[_,rfl,_,rfl,l,a,_,_,rfl,Pu lr5.1,Pu ea5,by rw[aY,lys],?_];refine uV (N:=(aR L).length) (λi zs H'=>Same H5 H'/\æ<=i/\zs=aR (ci Ë)) ı (λi zs _ z=>z.2.1) #[Same.refl _,Ze _,rfl] (λi zs H' hi z=>#[hi,Pu ŏ,Pu Ť]) (λzs H' z=>#[rfl,Pu ŏ,Pu Ť]) ?_ ?_
 .rintro i zs H' x H6 hi ⟨sm,lz,rfl⟩ ⟨T',p,y,hT,hp,hy,rfl,rfl⟩ Y hY;have wT:=ad hT (.tup [p,y]);exists[r,hri,t,nv,rfl,e1,e2],ba pr5 hy;exists[hiL,hw,_],hwi i r hri;exists[_,rfl],eX hp;have hz:Ä[i]?=some ú:=by rw[List.getElem?_zip_eq_some];exact#[Zf hiL,hw]
  have et:ci Ö=ci Ë++ci [ú]:=by rw[eM hz];unfold ci;rw[Yq,ZA]
  refine#[T',_,rfl,Pt ac,rfl,_,_,rfl,_,_,rfl,rfl,?_];refine(vix rfl (Pt (wT _ _ ģ)) at1 #[rfl,_,rfl,?_]);by_cases c:r.2.1="done"
  .rw[c];refine di #[_,rfl,hY _ _ #[sm.trans wT,by rw[Zh];exact ZT lz,?_]];rw[et,lK,c];rfl
  .refine aL (λz=>c ť) (hY _ _ #[sm.trans wT,∅,?_]);rw[et,lK];have:ci [ú]=[]:=by unfold ci xI;simp[c]
   rw[this];exact(ZD _).symm
 rintro zs pz H6 ⟨s6,lz,rfl⟩ gpz;have hzl:(aR L).length=(L.zip W).length:=by rw[aY,lzw]
 rw[hzl,ZI]at lz ⊢;have w6:=ad gpz (.lst (aR (ci Ä)));have lr6:=lr5.same (s6.trans w6);have mem:∀x∈ci Ä,x∈L:=λx hx=>by exists[z,h1,rfl],Zu.mp hx;exact(Y4 (ZF.mp h1).1).1
 have pwL:L.Pairwise λx y=>nm3 x.2≠nm3 y.2:=by have:=T.nod;unfold aU at this;rw[Z7]at this;exact x9.mp this
 have pwD:(ci Ä).Pairwise λx y=>nm3 x.2≠nm3 y.2:=by
  have hs:(ci Ä).Sublist L:=by unfold ci;have h1:((L.zip W).filter λz=>xI z.2).Sublist Ä:=YI;have h2:=h1.map Prod.fst;rw[List.map_fst_zip ∅]at h2;exact h2
  exact pwL.sublist hs
 refine#[pz,ci Ä,n,rfl,ac,λx hx=>lr6.2 x į,λx hx=>T.cl x į,?_,pwD,λod kvs ov H7 s7 eod hns hlk hno=>?_]
 .rw[aY]at lz;omega
 have hov:OvR ė ov:=by refine#[λj d hd=>?_,λm hm=>hno m λx hx=>hm x.2 (Zu.mpr #[x,hx,rfl])];rw[Zx]at hd;exists[x,hx,rfl],ZK.mp hd;exists[hj,rfl],Zz.mp hx;exact hlk j hj
 have s57:Same H5 H7:=s6.trans (w6.trans s7);have q2:=λa ys H'=>q' ov a ys H' hov;have ekd7:=s57 _ _ ekd;have hkp7:=hkp.ts Ś;have ea7:=s57 _ _ ea5;have hta7:=s57 _ _ hta5;have hts7:TsAt H7 tvs Ü:=Paired.mapP hts5 λ_ _ z=>#[z.1,z.2.ts Ś]
 have pr7:=Paired.mapP pr5 λ_ _ (z:ķ)=>z.ts Ś;have S7:Same H H7:=s1.trans (s15.trans s57);have offs:=FX run;refine hR0 _ _ ?_;refine ax λR0 hR0=>?_;refine#[sz rfl,λrl grl=>?_];have w8:=ad grl Ñ;have S8:=S7.trans w8;have erl:upd H7 rl Ñ rl=some Ñ:=ac;have grl0:H rl=none:=S7.free grl;have ea8:=w8 _ _ ea7;have ekd8:=w8 _ _ ekd7;have hkp8:=hkp7.ts Ľ;have eod8:=w8 _ _ eod;have ns8:=hns.ts Ľ;have hta8:=w8 _ _ hta7;have hts8:TsAt (upd H7 rl Ñ) tvs Ü:=Paired.mapP hts7 λ_ _ z=>#[z.1,z.2.ts Ľ]
 have pr8:=Paired.mapP pr7 λ_ _ (z:ķ)=>z.ts Ľ;have nar:a≠rl:=λz=>by rw[z,grl]at ea7;cases ea7
 generalize upd H7 rl Ñ=H8 at S8 erl ea8 ekd8 hkp8 eod8 ns8 hta8 hts8 pr8 ⊢;refine hR0 _ _ ?_;generalize aQ Ć=trn at hts8 offs q2;have ezr:∀i:Nat,gi kp ov trn Ë=((L.zip W).take i).map λz=>dW kp ov trn Ž z.2:=λ_=>rfl;refine ax λR0 hR0=>?_;refine#[_,rfl,a,rfl,#[_,Pu ea8],?_];refine eh (K:=K) (a:=a) (xs:=ys) (λi Z H'=>(∀b o,b≠rl->H8 b=some o->H' b=some o)/\∃(zs:Pz) (o6 o7:Č),H' rl=some ă/\æ=i/\Paired (RpAt H') zs (gi kp ov trn Ë)/\Z=[some à,some ÿ,some Ņ,some ņ,some Ė,some Ň,o6,o7])
  #[λb o _ e=>e,[],none,none,erl,rfl,.nil,rfl] (λi Z H' _ z=>Pu (z.1 _ _ nar ea8)) ?_ ?_
 .rintro i v Z H' hv ⟨kp8,zs,o6,o7,hrl,lz,pz,rfl⟩ DL hDL;have tp:TS H8 H':=λb ws e=>kp8 b _ (dI e erl nofun) e;exists[r,hri,t,nv,rfl,e1,nb,rfl,e2],ba pr8 hv;exists[hiL,hw,hn3],hwi i r hri;have hz:Ä[i]?=some ú:=by rw[List.getElem?_zip_eq_some];exact#[Zf hiL,hw]
  have er:gi kp ov trn Ö=gi kp ov trn Ë++[dW kp ov trn r.1 r.2.1]:=by rw[eM hz];unfold gi;rw[ZA,hn3];rfl
  have nkr:kd≠rl:=dI ekd8 erl nofun;have nor:od≠rl:=dI eod8 erl nofun;have ntr:ta≠rl:=dI hta8 erl nofun;have n1:=kp8 _ _ nkr ekd8;have n2:=kp8 _ _ nor eod8;have n4:=kp8 _ _ ntr hta8;have n3:=ns8.ts tp;have n5:=hkp8.ts tp;have e2':=tp _ _ e2;have add:∀{H9:Hp} {tr:Pg} {bv:V} {w0:Str} {u:Option Nm},Same H' H9->H9 tr=some (.tup [.ref nb,.str w0,bv])->dW kp ov trn r.1 r.2.1=(r.1,w0,u)->UpAt H9 bv u->∀(R:St->Hp->Prop),(∀σ' H'',((∀b o,b≠rl->H8 b=some o->H'' b=some o)/\∃(zs:Pz) (o6 o7:Č),H'' rl=some ă/\æ=i+1/\Paired (RpAt H'') zs (gi kp ov trn Ö)/\σ'=[some à,some ÿ,some Ņ,some ņ,some Ė,some Ň,o6,o7])->R σ' H'')->R [some à,some ÿ,some Ņ,some ņ,some Ė,some Ň,some (.ref nb),some (.str r.2.1)] ŗ:=fun{H9 tr bv w0 u} s9 etr erp hu R hR=>by
   have tr9:TS H9 ŗ:=jp λws e'=>by rw[s9 _ _ hrl]at e';cases e'
   refine hR _ _ #[λb o hb e=>by rw[af hb];exact s9 _ _ (kp8 b o hb e),zs++[.ref tr],_,_,ac,by rw[Zh,lz];rfl,?_,rfl];rw[er,erp];exact Ys (Paired.mapP pz λ_ _ (z:RpAt _ _ _)=>z.ts (TS.trans (Ps s9) tr9)) #[tr,.ref nb,bv,rfl,tr9 _ _ etr,#[nb,rfl,tr9 _ _ (s9 _ _ e2')],hu.ts tr9]
  refine#[t,_,rfl,Pt (tp _ _ e1),rfl,_,_,rfl,_,_,rfl,rfl,?_];refine#[_,rfl,rfl,_,rfl,?_];by_cases co:r.2.1="off"
  .have hdi:Ć[i]?=some (toD L[i].2):=by unfold aU;rw[Zx,Zf hiL];rfl
   exists[dd,hdd],offs i _ r hdi hri co;have hdd':look trn r.1=some dd:=by rw[hn3];exact hdd
   have er1:dW kp ov trn r.1 r.2.1=(r.1,Ŷ,some dd.1):=by unfold dW;rw[Pb co,hdd'];rfl
   exists[dv,t1,t2],aV hts8 hdd';rw[show V.str r.2.1=V.str "off" from by rw[co]];refine di ?_;refine#[_,rfl,.inl #[rfl,_,Pu hrl],_,rfl,_,rfl,_,rfl,ta,dv,rfl,t1▸DGet.t (k:=nk r.1) n4 e2',dv,dd,rfl,t2.ts tp,λtn H9 s9 e9=>#[sz rfl,λtr gtr=>#[rl,_,_,rfl,rfl,ad gtr _ _ _ (s9 _ _ hrl),aJ ∅,?_]]];have wtr:=ad gtr (.tup [.ref nb,.str "off",.ref tn]);have:=add (s9.trans wtr) ac er1 #[tn,rfl,wtr _ _ e9] _ hDL;rw[co]at this;exact this
  refine aL (λz=>co ť) ?_;cases ck:look kp r.1 with
  |some b =>
   have er1:dW kp ov trn r.1 r.2.1=(r.1,("kept":Str),some b):=by unfold dW;rw[Pa co,ck]
   exists[bv,hb1,bb,rfl,hb2],aV n5 ck;refine#[_,rfl,_,rfl,kd,_,rfl,DGet.t (k:=nk r.1) n1 e2',_,rfl,?_];rw[hb1];refine bg #[_,rfl,.inl #[rfl,_,Pu hrl],_,rfl,_,rfl,_,rfl,kd,.ref bb,rfl,hb1▸DGet.t (k:=nk r.1) n1 e2',sz rfl,λtr gtr=>#[rl,_,_,rfl,rfl,ad gtr _ _ _ hrl,aJ ∅,?_]];exact add İ ac er1 #[bb,rfl,ad gtr _ _ _ hb2] _ hDL
  |none =>
  have hk':bc kvk ĥ=none:=jl n5 ck;refine#[_,rfl,_,rfl,kd,_,rfl,DGet.t (k:=nk r.1) n1 e2',_,rfl,?_];rw[hk'];refine aI ?_;cases cv:look ov r.1 with
  |none =>
   have er1:dW kp ov trn r.1 r.2.1=(r.1,r.2.1,none):=by unfold dW;rw[Pa co,ck,cv]
   have hv':bc kvs ĥ=none:=jl n3 cv;refine#[_,rfl,_,rfl,od,_,rfl,DGet.t (k:=nk r.1) n2 e2',_,rfl,?_];rw[hv'];refine aI #[_,rfl,.inl #[rfl,_,Pu hrl],_,rfl,_,rfl,sz rfl,λtr gtr=>#[rl,_,_,rfl,rfl,ad gtr _ _ _ hrl,aJ ∅,?_]];exact add İ ac er1 rfl _ hDL
  |some m =>
   have er1:dW kp ov trn r.1 r.2.1=(r.1,("over":Str),some m):=by unfold dW;rw[Pa co,ck,cv]
   exists[bv,hb1,bb,rfl,hb2],aV n3 cv;refine#[_,rfl,_,rfl,od,_,rfl,DGet.t (k:=nk r.1) n2 e2',_,rfl,?_];rw[hb1];refine bg #[_,rfl,.inl #[rfl,_,Pu hrl],_,rfl,_,rfl,_,rfl,od,.ref bb,rfl,hb1▸DGet.t (k:=nk r.1) n2 e2',sz rfl,λtr gtr=>#[rl,_,_,rfl,rfl,ad gtr _ _ _ hrl,aJ ∅,?_]];exact add İ ac er1 #[bb,rfl,ad gtr _ _ _ hb2] _ hDL
 .rintro Z H' ⟨kp8,zs,o6,o7,hrl,lz,pz,rfl⟩;refine hR0 _ _ ?_;have:ys.length=(L.zip W).length:=by rw[lys,lzw]
  refine#[_,rfl,q2 rl zs H' (λb o e=>kp8 b o (aj e grl0) (S8 _ _ e)) hrl ?_];rw[this,ZI]at pz;exact pz
end
mutual
#check#[(by simp[Sd.items]),((bC (L.zip W)).map Prod.snd),(.lst ([.ref t1,.ref t2,.ref t3,.ref t4]++[.ref t5,.ref t6,.ref t7])),xs.length,(upd (upd H l0 (.lst [])) D (odO P w D (kls++[(e,l0)]))),(List.toArray [(atI eY.cps.toList (ix i%39)).getD 0]),(aF fu ↑0 ah),(.lst (rs++[.ref t3])),(gd.skip g),(#[rfl,⋯,⋯,rfl,trivial]:CompOk _ _ [] []),(q_a ↑0 ai),ol.length,(aF dB ↑0 ah),(.lst [.ref t1,.ref t2,.ref t3,.ref t4]),(1+n / 3%(nr-1)),(List Dd),((List.range (c%6).toNat).map sgn),(M.filter (bP gs)),(by unfold odO;intro z;cases z),(if b=true then"on" else"off"),hr.units,(by rw[ZM];exact hi),(by rw[ZM];exact hj),0,(gH (bq (aT ⋯) aK (bq (aT ⋯) aK fB bG) (bZ aK bG))),(q_B jG a8 Yu (q_a ↑1 ai)),(λ_ _ _ _=>iM),(by intro _ _ _ y;cases y),(aB (q_a ar (q_a ↑7 (q_a ↑6 (q_a ↑5 ai))))),(List (OK1×Pg)),(.inr c2),(hh _ À),(.lst ks),(Int),eY.cps.toList,(OlAt C H p d g ol),(by show(0:á)<2;decide),((look ol x).isSome=true),(.lst ws),((aP r1).map Prod.snd),(.inl c),(PlayR ol n wd w so ol'),(SameT T H H'),(cH q T pos H),(.lst as0),(mg "len" = none),(λe he=>by cases he),((ol.map (·.1)).Nodup),(LowI P w H2 H D M kls),(aB (q_a ar (q_a ↑7 (q_a ↑9 ai)))),(.tup [.str "put",uv,.ref sp,.str tx]),(gd.play g p2),(As Dd),(ZJ _ _),(List DI),0,(by simpa using ha),(.lst (xs++[.non])),(.lst []),(.lst zs),(NameIs H v (nk m.1)),(br ol Á),p.toList,(aU L),(cH lU T (nE kg) H),(Option (List Key)),ks.length,(Nm×It),(.ref D),(d::ds),(bP gs),eW.nd,(cR d ts=true\/d.2.isTurn=true),(by show(0:á)<(Ã:á);omega),(Option Nm),(mg "PLACE" = some (.int 1 tk)),(KsAt H M ks),((ns.map V.int).length:Int),(aB (q_a ar (q_a ↑7 ai))),((ad g3 _).trans (ad gt _)),(∀c d s,o≠#[c,d,.freed,s]),x.lo.od.ob,l.length,(am dq ↑1 (aF dB Æ Ù)),(TS H H'),(List α),(λ_=>rfl),(n / 4480),(upd H1 pn (.lst [.non])),(.ref p),(Dfs M st out k),((0:á)<(as.length:Int)),(.tup [.str Ó,.int Î]),(gd.play g p),(xb.trans y6),(xd.trans y6),(GoneAt H g gs),(by simp),(cZ ↑0),(.lst rs),(.dT kvs),(ep.mem_iff.mp (ZL _)),(upd Ä l0 (.lst [v])),(Same H H'),(gd.ready g),(upK m.2.up),(.tup (pl.map V.int)),(bS ai),(NameIs H nv (nk x.2.1)),(α->β->Prop),(List β),eY.cps.toList.length,(ts.take i),(h.1 è),(h.1 Þ),(M++[m]),(Option V),(h1.symm.trans hk),(by simp[bP,hvis]),(LowAt P w H D M kls),dE.nd,(Zr õ lM),(spLower P w C T),ts.length,zs.length,eY.length,(nE kg),(upK u),(.lst (ys2++zs)),(As Nm),(List Tk),(grp M u),(aj e gg),(am ao ↑4 ah),(gd.play g p1),(upd H10 R Ç),(top 19),0,(.ref R),(aT ⋯),(.dT []),(nk n),(hP.1 _ _ hl),(upd HP g Ĥ),(Same.refl _),(aF dB Æ ah),(Type),(Gd G),(Nat),pe.length_eq,(by simp[h]),(NmsAt H xs ns),a7.cl,stk.reverse,fw.nd,(aQ ÿ),(d0,mm),(sgn i),(hv.ts' ts),(w0 _ _ eR),(pJ ol _ _),(q_a ar ai),(S3 _ _ hl),(x3 _ _ z2),(List bp),(Txt K C),(l[i]?=some x),(As Unit),(Tkn L W n Φ),itn.tx,itm.tx,kls.length,x.nd,x.lo.od.nd,ys2.length,(wB gd È),(cV nd hj),(.lst ws'),(Ps w1113),(0+(i:á)),(λe1=>?_),(n / 2%hs),(H l=some à),(vs=[.ref l]),wd.isTurn,as.length,gs.length,(Ps s),(ks++[v]),(Zj _ hy),(.lst as),(.ref Aa)]
def iU(n:Nm):Wd->List Nm
 |.put _ _ _=>[n]
 |.part m _ _=>[m,n]
 |.join m o=>[m,o]
 |.move m _ _=>[m]
 |.write m _=>[m]
 |.mark m _=>[m]
 |.due m _=>[m]
 |.fold m _=>[m]
 |.back m=>[m]
 |_=>[]
theorem qL(d:D3):dC d=iU (nm3 d) d.2.2:=by exists[hn,cs,wd],d;cases wd<;>rfl
theorem kI{ts:ô}:∀{ol ol':Ol} {rs rs':Ť},Eqo ol ol'->Runs ts tn ol ds rs->Runs ts tn ol' ds rs'->rs=rs':=by
 induction ds with
 |nil =>intro ol ol' rs rs' e h h';rw[ur h,ur h']
 |cons d ds ih =>
  intro ol ol' rs rs' e h h';cases c:cR d ts with
  |true =>exists[r1,rfl,x1],mH c h;exists[r2,rfl,x2],mH c h';rw[ih e x1 x2]
  |false =>
   cases c2:d.2.isTurn with
   |true =>exists[r1,rfl,x1],kG c c2 h;exists[r2,rfl,x2],kG c c2 h';rw[ih e x1 x2]
   |false =>exists[w,so,o1,r1,rfl,p1,x1],kF c c2 h;exists[w',so',o2,r2,rfl,p2,x2],kF c c2 h';exists[rfl,rfl,e2],ky e p1 p2;rw[ih e2 x1 x2]
theorem C8{β:Œ}(f:β->β)(l:As β)(x:Nm):look (l.map λp=>(p.1,f p.2)) x=(look l x).map f:=by
 induction l with
 |nil=>rfl
 |cons p l ih =>
  rw[Zn];unfold look;by_cases c:p.1=x
  .rw[Pb c,Pb c];rfl
  .rw[Pa c,Pa c];exact ih
theorem Ic(hn:look ol n=some itn)(hm:look ol m=some itm):∃ol',JoinR ol n m itn itm ol':=by
 obtain⟨itm2,h2⟩:∃it,look (aw ol n { itn with tx:=ũ++Ū }) m=some it:=by
  rw[ay];split
  .exact#[_,rfl]
  .exact#[_,hm]
 refine#[(aw (aw ol n { itn with tx:=ũ++Ū }) m { itm2 with tx:="" }).map λp=>(p.1,cP n m p.2),?_,?_,itm2,h2,λx=>C8 _ _ x]
 .rw[Zd,dM h2,dM hn]
 .rw[Z7];show(aw (aw ol n { itn with tx:=ũ++Ū }) m { itm2 with tx:="" }).map (·.1)=_;rw[cD,Pb (by rw[h2];rfl),cD,Pb (by rw[hn];rfl)]
theorem L4(h:fG ol s):∃ol',Ap ol s ol':=by
 have g:∀n∈s.items,∃it,look ol n=some it:=λn hn=>Zv.mp (h n hn);cases s with
 |gone n=>exact#[_,.gone]
 |put=>exact#[_,.put]
 |move n u pl=>exists[it,e],g n À;exact#[_,.move e]
 |write n tx=>exists[it,e],g n À;exact#[_,.write e]
 |mark n b=>exists[it,e],g n À;exact#[_,.mark e]
 |due n b=>exists[it,e],g n À;exact#[_,.due e]
 |fold n b=>exists[it,e],g n À;exact#[_,.fold e]
 |part n a m pl=>exists[it,e],g n À;exact#[_,.part e]
 |join n m =>exists[it,e],g n À;exists[it2,e2],g m À;exists[ol',j],Ic e e2;exact#[_,.join e e2 j]
theorem Ah{wd:Wd}(nt:Ÿ=false)(rd:∀s,cQ n wd=some s->Ready ol s):∃w so ol',PlayR ol n wd w so ol':=by
 rcases yQ (n:=n) nt with rfl|⟨m,rfl|rfl⟩|⟨s,hs⟩
 .exact#[_,_,_,.none]
 .exact#[_,_,_,.take]
 .exact#[_,_,_,.back]
 .cases ct:wm ol wd with
  |true =>
   cases wd with
   |put u pl tx =>
    cases u with
    |none=>cases ct
    |some m =>
     have:look ol m=none:=by
      have z:(!(look ol m).isSome)=true:=ct;cases e:look ol m with
      |none=>rfl
      |some it=>rw[e]at z;cases z
     exact#[_,_,_,.top this]
   |_=>cases ct
  |false =>
   have r:=rd s hs;by_cases hh:fG ol s
   .exists[b,hb],r.bd hh;rcases b with _|_|_
    .exists[ol',ap],L4 hh;exact#[_,_,_,.step hs ct (.done hh hb ap)]
    .exact#[_,_,_,.step hs ct (.far hh hb)]
    .exact#[_,_,_,.step hs ct (.beneath hh hb)]
   .exact#[_,_,_,.step hs ct (.none hh)]
def hU(ts:ô):Ol->List Dd->Ol->Prop
 |ol,[],e=>e=ol
 |ol,d::ds,e=>(Ĉ->hU ts ol ds e)/\(cR d ts=false->d.2.isTurn=false->∃w so ol',PlayR ol d.1 d.2 w so ol'/\hU ts ol' ds e)
theorem mh{ts:ô}:∀{ds:Ï} {ol ol' e e':Ol},Eqo ol ol'->hU ts ol ds e->hU ts ol' ds e'->Eqo e e'
 | [],ol,ol',e,e',q,h,h'=>by have h1:e=ol:=h;have h2:e'=ol':=h';rw[h1,h2];exact q
 |d::ds,ol,ol',e,e',q,h,h'=>by
  cases c:cR d ts with
  |true=>exact mh q ı (h'.1 è)
  |false =>
   cases c2:d.2.isTurn with
   |true=>exact mh q Ĳ (h'.1 Þ)
   |false =>exists[w,so,o1,p1,x1],h.2 c c2;exists[w',so',o2,p2,x2],h'.2 c c2;exact mh (ky q p1 p2).2.2 x1 x2
theorem mW{ts:ô}(c:Ĉ)(h:hU ts ol ds e):hU ts ol ą e:=#[λ_=>h,λz1 z2=>by
 rcases c with c|c
 .rw[c]at z1;cases z1
 .rw[c]at z2;cases z2]
theorem qS{ts:ô}{w:Str}(c:cR d ts=false)(c2:d.2.isTurn=false)(p:PlayR ol d.1 d.2 w so ol')(h:hU ts ol' ds e):hU ts ol ą e:=by
 refine#[λz=>?_,λ_ _=>#[w,so,ol',p,h]];rcases z with z|z
 .rw[c]at z;cases z
 .rw[c2]at z;cases z
theorem vx{w:Str}(p:é):(so=none/\ol'=ol)\/∃s,so=some s/\fG ol s/\Bd ol s none/\Ap ol s ol'/\(∀x∈s.news,x=n/\wd.mk=true)/\∀o2,Ap ol s o2->PlayR ol n wd w so o2:=by
 cases p with
 |none=>exact .inl #[rfl,rfl]
 |take=>exact .inl #[rfl,rfl]
 |back=>exact .inl #[rfl,rfl]
 |@top m pl tx hm=>exact .inr #[_,rfl,λx hx=>by simp[Sd.items]at hx,.put,.put,λx hx=>#[by simpa[Sd.news]using hx,rfl],λo2 ap=>by cases ap;exact .top hm]
 |@step _ s w _ hs ht wr =>
  cases wr with
  |none _=>exact .inl #[by rw[Pa ⋯],rfl]
  |beneath _ _=>exact .inl #[by rw[Pa ⋯],rfl]
  |far _ _=>exact .inl #[by rw[Pa ⋯],rfl]
  |done hh hb ap =>
   refine .inr #[s,by rw[Pb rfl],hh,hb,ap,λx hx=>?_,λo2 ap2=>.step hs ht (.done hh hb ap2)];rw[mO hs]at hx;by_cases c:wd.mk=true
   .rw[Pb c]at hx;exact#[Zi.mp hx,c]
   .rw[Pa c]at hx;cases hx
structure Gd(G:Ol->List Dd->Prop):Prop where
 skip:∀{ol:Ol} {d:Dd} {ds:Ï},G ol ą->G ol ds
 play:∀{ol ol':Ol} {d:Dd} {ds:Ï} {w:Str} {so:Option Sd},G ol ą->PlayR ol d.1 d.2 w so ol'->G ol' ds
 small:∀{ol:Ol} {d:Dd} {ds:Ï},G ol ą->Small ol
 new:∀{ol:Ol} {d:Dd} {ds:Ï},G ol ą->d.2.mk=true->look ol d.1=none
 ready:∀{ol:Ol} {d:Dd} {ds:Ï},G ol ą->∀s,cQ d.1 d.2=some s->Ready ol s
 ter:∀{ol:Ol} {ds:Ï},G ol ds->Ter ol
theorem ik(gd:œ){ts:ô}:∀{ds:Ï} {ol:Ol},G ol ds->∃rs,Runs ts tn ol ds rs
 | [],_,_=>#[[],.nil]
 |d::ds,ol,g=>by
  cases c:cR d ts with
  |true =>exists[rs,h],ik gd (ts:=ts) (tn:=tn) È;exact#[_,.off c h]
  |false =>
   cases c2:d.2.isTurn with
   |true =>exists[rs,h],ik gd (ts:=ts) (tn:=tn) È;exact#[_,.turn c c2 h]
   |false =>exists[w,so,ol',p],Ah c2 Ĩ;exists[rs,h],ik gd (ts:=ts) (tn:=tn) ĝ;exact#[_,.play c c2 p h]
theorem wB(gd:œ){ts:ô}:∀{ds:Ï} {ol:Ol},G ol ds->hV ts ol ds
 | [],_,_=>trivial
 |d::ds,ol,g=>by
  cases c:cR d ts with
  |true=>exact vy è ů
  |false =>
   cases c2:d.2.isTurn with
   |true=>exact vy Þ ů
   |false=>exact D6 c c2 (gd.small g) Ĩ λw so ol' p=>wB gd ĝ
theorem iu(gd:œ){ts:ô}{Φ:Ol->Prop}:∀{ds:Ï} {ol:Ol} {rs:Ť},G ol ds->Runs ts tn ol ds rs->(∀e,hU ts ol ds e->Φ e)->iX Φ ol ((aP rs).map Prod.snd)
 | [],ol,rs,g,r,h=>by rw[ur r];exact h _ rfl
 |d::ds,ol,rs,g,r,h=>by
  cases c:cR d ts with
  |true =>exists[r1,rfl,x1],mH c r;show iX Φ ol ç;exact iu gd È x1 λe he=>h e (mW è he)
  |false =>
   cases c2:d.2.isTurn with
   |true =>exists[r1,rfl,x1],kG c c2 r;show iX Φ ol ç;exact iu gd È x1 λe he=>h e (mW Þ he)
   |false =>
    exists[w,so,o1,r1,rfl,p1,x1],kF c c2 r;rcases vx p1 with⟨rfl,rfl⟩|⟨s,rfl,hh,hb,ap,nw,again⟩
    .show iX Φ _ ç;exact iu gd ņ x1 λe he=>h e (qS c c2 p1 he)
    .show iX Φ ol (s::(aP r1).map Prod.snd);refine#[gd.small g,λx hx=>?_,hh,hb,λo2 ap2=>?_]
     .exists[rfl,hm],nw x hx;exact gd.new g hm
     .have p2:=again o2 ap2;exists[r2,x2],ik gd (ts:=ts) (tn:=tn) ó;obtain rfl:=kI (ky Ė p1 p2).2.2 x1 x2;exact iu gd ó x2 λe he=>h e (qS c c2 p2 he)
theorem DZ{ts:ô}(h:Runs ts tn ol ds rs):rs.map (λr:bp=>r.1)=ds.map Prod.fst:=by
 induction h with
 |nil=>rfl
 |off _ _ ih=>rw[Zn,Zn,ih]
 |turn _ _ _ ih=>rw[Zn,Zn,ih]
 |play _ _ _ _ ih=>rw[Zn,Zn,ih]
theorem pH(h:å):(look (aw ol n it) x).isSome=true:=by
 rw[ay];split
 .rfl
 .exact h
theorem tz(ap:Ap ol s ol')(x:Nm)(h:å):(look ol' x).isSome=true:=by
 cases ap with
 |join hn hm j =>exists[it,e],Zv.mp h;exists[i,e1,_],(lE hn hm j).2 x it e;rw[e1];rfl
 |gone=>exact h
 |part=>exact pH (pH h)
 |_=>exact pH h
theorem DG{w:Str}(p:é)(x:Nm)(h:å):(look ol' x).isSome=true:=by
 rcases vx p with⟨_,rfl⟩|⟨s,_,_,_,ap,_⟩
 .exact h
 .exact tz ap x h
theorem jh:bI "none" = false:=⋯
theorem kh:bI "beneath" = false:=⋯
theorem qX:bI "far" = false:=⋯
theorem lF:bI "done" = true:=⋯
theorem BQ{w:Str}(p:é)(hw:bI w=true):∀x∈iU n wd,(look ol' x).isSome=true:=by
 cases p with
 |none=>intro x hx;cases hx
 |take=>intro x hx;cases hx
 |@back m =>
  intro x hx;rw[Zi.mp hx];by_cases c:(look ol m).isSome=true
  .exact c
  .rw[Pa c,jh]at hw;cases hw
 |top _ =>intro x hx;rw[Zi.mp hx,ay,Pb rfl];rfl
 |@step _ s w _ hs ht wr =>
  cases wr with
  |none _=>rw[jh]at hw;cases hw
  |beneath _ _=>rw[kh]at hw;cases hw
  |far _ _=>rw[qX]at hw;cases hw
  |done hh hb ap =>
   have mono:=tz ap;cases wd with
   |put u pl tx =>cases hs;cases ap;intro x hx;rw[Zi.mp hx,ay,Pb rfl];rfl
   |part m a pl =>
    cases hs;intro x hx;rcases Zg.mp hx with rfl|hx
    .exact mono _ ß
    .rw[Zi.mp hx];cases ap with
     |part hl =>rw[ay,Pb rfl];rfl
   |join m o =>
    cases hs;intro x hx;rcases Zg.mp hx with rfl|hx
    .exact mono _ ß
    .rw[Zi.mp hx];exact mono _ ß
   |move m u pl=>cases hs;intro x hx;rw[Zi.mp hx];exact mono _ ß
   |write m tx=>cases hs;intro x hx;rw[Zi.mp hx];exact mono _ ß
   |mark m tx=>cases hs;intro x hx;rw[Zi.mp hx];exact mono _ ß
   |due m tx=>cases hs;intro x hx;rw[Zi.mp hx];exact mono _ ß
   |fold m tx=>cases hs;intro x hx;rw[Zi.mp hx];exact mono _ ß
   |_=>cases hs
theorem rH(gd:œ){ts:ô}:∀{ds:Ï} {ol e:Ol},G ol ds->hU ts ol ds e->G e []
 | [],ol,e,g,h=>by have h1:e=ol:=h;rw[h1];exact g
 |d::ds,ol,e,g,h=>by
  cases c:cR d ts with
  |true=>exact rH gd È ı
  |false =>
   cases c2:d.2.isTurn with
   |true=>exact rH gd È Ĳ
   |false =>exists[w,so,o1,p1,x1],h.2 c c2;exact rH gd ņ x1
theorem pS(gd:œ){ts:ô}:∀{ds:Ï} {ol:Ol},G ol ds->∃e,hU ts ol ds e
 | [],ol,_=>#[ol,rfl]
 |d::ds,ol,g=>by
  cases c:cR d ts with
  |true =>exists[e,h],pS gd (ts:=ts) È;exact#[e,mW è h]
  |false =>
   cases c2:d.2.isTurn with
   |true =>exists[e,h],pS gd (ts:=ts) È;exact#[e,mW Þ h]
   |false =>exists[w,so,ol',p],Ah c2 Ĩ;exists[e,h],pS gd (ts:=ts) ĝ;exact#[e,qS c c2 p h]
theorem jX{ts:ô}:∀{ds:Ï} {ol e:Ol},hU ts ol ds e->(look ol x).isSome=true->(look e x).isSome=true
 | [],ol,e,h,hx=>by have h1:e=ol:=h;rw[h1];exact hx
 |d::ds,ol,e,h,hx=>by
  cases c:cR d ts with
  |true=>exact jX ı hx
  |false =>
   cases c2:d.2.isTurn with
   |true=>exact jX Ĳ hx
   |false =>exists[w,so,o1,p1,x1],h.2 c c2;exact jX x1 (DG p1 x hx)
theorem BR{wd:Wd}(h:Ÿ=true):iU n wd=[]:=by cases wd<;>first|rfl|cases h
theorem qY:bI "off" = false:=⋯
theorem iG(gd:œ){ts:ô}:∀{ds:Ï} {ol e:Ol} {rs:Ť},G ol ds->Runs ts tn ol ds rs->hU ts ol ds e->∀z∈ds.zip rs,bI z.2.2.1=true->∀x∈iU z.1.1 z.1.2,(look e x).isSome=true
 | [],ol,e,rs,g,r,h=>by intro z hz;cases hz
 |d::ds,ol,e,rs,g,r,h=>by
  cases c:cR d ts with
  |true =>
   exists[r1,rfl,x1],mH c r;intro z hz hl x hx;rcases Zg.mp hz with rfl|hz
   .have hl':bI "off" = true:=hl;rw[qY]at hl';cases hl'
   .exact iG gd È x1 ı z hz hl x hx
  |false =>
   cases c2:d.2.isTurn with
   |true =>
    exists[r1,rfl,x1],kG c c2 r;intro z hz hl x hx;rcases Zg.mp hz with rfl|hz
    .have hx':x∈iU d.1 d.2:=hx;rw[BR c2]at hx';cases hx'
    .exact iG gd È x1 Ĳ z hz hl x hx
   |false =>
    exists[w,so,o1,r1,rfl,p1,x1],kF c c2 r;exists[w',so',o2,p2,x2],h.2 c c2;have e12:=(ky Ė p1 p2).2.2;exists[r2,y2],ik gd (ts:=ts) (tn:=tn) ó;obtain rfl:=kI e12 x1 y2;intro z hz hl x hx;rcases Zg.mp hz with rfl|hz
    .refine jX x2 ?_;rw[<-e12 x];exact BQ p1 hl x hx
    .exact iG gd ó y2 x2 z hz hl x hx
theorem MY(gd:œ){n:Ŕ}(g0:G [] ÿ)(ln:L.length<=63)(nod:((aU L).map Prod.fst).Nodup)(cl:∀x∈L,x.2.2.1.length=n/\x.2.2.2.ok)(run:Runs ś (bD ÿ) [] ÿ rs)(he:hU ś [] ÿ e):Tkn L (rs.map λr:bp=>r.2.1) n (Eqo e):=by
 refine#[∅,wB gd g0,nod,λr' h=>?_,λr' h=>?_,cl,λol hol x hx t ht it hit=>?_]
 .obtain rfl:=kI Ė run h;exact#[rfl,DZ run]
 .exact iu gd g0 h λe' he'=>mh Ė he he'
 .exists[z,hz,rfl],Zu.mp hx;exists[hz1,hz2],ZF.mp hz;rw[List.zip_map_right]at hz1;obtain⟨⟨x,r⟩,hxr,rfl⟩:=Zu.mp hz1;have hm:(toD x.2,r)∈(aU L).zip rs:=by unfold aU;rw[List.zip_map_left];exact Zu.mpr #[(x,r),hxr,rfl]
  intro y hy;have hy':y∈iU (toD x.2).1 (toD x.2).2:=by have:=hy;rw[qL]at this;exact this
  have held:=iG gd g0 run he _ hm hz2 y hy';exists[i,ei],Zv.mp held;exists[k,c],gd.ter (rH gd g0 he) y i ei;exists[k',b,un],yM c it;exact#[k',b,uL hol un]
abbrev lU:Str:=(("Plain.sorted_names":Str)++".<locals>.")++"<lambda>"
def NC:Stmt->Pq
 |.Return (some e) _=>e
 |_=>.Name "" #[0,0,0,0]
def Nt:Pq->Pq
 |.Call _ _ (k::_) _=>k.value
 |e=>e
def Nr:Pq->Pq
 |.Lambda _ b _ _=>b
 |e=>e
def Nu:Pq->Scope
 |.Lambda _ _ s _=>s
 |_=>default
def nE:Pq->Pos
 |.Lambda _ _ _ p=>p
 |_=>#[0,0,0,0]
abbrev dJ:Stmt:=cU ň 15
abbrev mU:List Str:=["self"]
theorem mL:FnScope mU ["self"] (aq dJ):= ~~~0
abbrev kg:Pq:=Nt (NC ((cJ dJ).getD 0 (.Pass #[0,0,0,0])))
def kyP(x:ă):ZKey:=.p x.2.pl [x.1.1,x.1.2]
inductive spLamP(C:Pg)(kv:V)(vs:Pz)(H:Hp)(Q:VK)(E_:XK):Prop
 |mk (p d g:Pg) (ol:Ol) (v:V) (n:Nm) (it:It) (h0:kv=.ref p) (h1:vs=[v]) (h2:ã) (h3:NameIs H v ō) (h4:look ol n=some it) (h5:∀kv' H',Same H H'->(kyP (n,it)).at H' kv'->Q kv' H'):spLamP C kv vs H Q E_
theorem dU(T:ť)(NU:ċ):↑LamOkX 1 lU (Nr kg) (Nu kg) "name" "self" (spLamP C):=by refine#[#[rfl,rfl,rfl,rfl,rfl,⋯,⋯,⋯],λf c' c kv A outer s H v Q hr h=>?_];obtain⟨p,d,g,ol,v',n,it,rfl,e,⟨kvs,gvs,S,R⟩,hn,hl,q⟩:=h;cases e;obtain⟨⟨dx,h1⟩,h2,h3,h4⟩:=id S;exists[nb,rfl,hnb],id hn;obtain⟨iv,e1,ia,uv,pv,rfl,e2,e3,⟨pb,rfl,e4⟩⟩:=aV R hl;refine#[_,(aB (q_a (am (iJ (K:=K) rfl) (bo Ô (Lo (K:=K) rfl ↑1) ↑0) (ie NU)) Ê)),?_];refine#[_,rfl,p,C,dx,_,_,rfl,h1,T.cl,T.nH,bz _ _,_,rfl,d,.ref ia,rfl,e1▸DGet.t (k:=nk n) h2 hnb,?_];refine#[ia,_,_,_,rfl,rfl,Pt e2,at1,_,rfl,sz rfl,λt gt=>?_];have wt:=ad gt (.tup [.ref pb,.ref nb]);exact q _ _ wt #[t,pb,nb,rfl,ac,wt _ _ e4,wt _ _ hnb]
def I0:Nm×It:=((0,0),#[none,[],"",false,none,false])
def leP(x y:ă):Prop:=HT.lexLt (kyP y).nums (kyP x).nums=false
theorem yE{ol:Ol}(hp:POk Ë p)(hs:LS (λi j=>HT.lexLt (((ol.map kyP).map ZKey.nums).getD i []) (((ol.map kyP).map ZKey.nums).getD j [])) p Ë):(p.toList.map λi=>ol.getD i I0).Pairwise leP/\(p.toList.map λi=>ol.getD i I0).Perm ol:=by
 have ep:p.toList.Perm (List.range Ë):=by have:=Array.perm_iff_toList_perm.mp hp;simpa using this
 refine#[?_,?_]
 .rw[x9];have hz:p.size=Ë:=by have:=hp.size_eq;simpa using this
  rw[List.pairwise_iff_getElem];intro i j hi hj hij;rw[ZM]at hi hj;have lx:=(hs i j hij ∅).1;have e1:gA p i=þ[i]' Õ:=by rw[zJ,ZG,Zf Õ];rfl
  have e2:gA p j=þ[j]' Ö:=by rw[zJ,ZG,Zf Ö];rfl
  have m1:þ[i]' Õ<Ë:=List.mem_range.mp ĥ;have m2:þ[j]' Ö<Ë:=List.mem_range.mp ĥ;dsimp only at lx;rw[e1,e2]at lx;generalize þ[i]' Õ=a at *;generalize þ[j]' Ö=b at *;have ga:∀k,k<Ë->((ol.map kyP).map ZKey.nums).getD k []=(kyP (ol.getD k I0)).nums:=λk hk=>by simp[hk]
  rw[ga a m1,ga b m2]at lx;exact lx
 .have:=ep.map λi=>ol.getD i I0;have e:((List.range Ë).map λi=>ol.getD i I0)=ol:=by refine List.ext_getElem ġ λi h1 h2=>?_;simp[h2]
  rw[e]at this;exact this
abbrev KsAt(H:Hp)(M:Ol)(ks:Pz):Prop:=Paired (λx v=>NameIs H v (nk x.1)) M ks
theorem KsAt.ts(x:Č)(s:Ĕ):KsAt H' M ks:=Paired.mapP x λ_ _ z=>z.ts' s
theorem Mm(x:dO H kvs ks)(r:Rows H' kvs ol):KsAt H ol ks:=by
 induction x generalizing ol with
 |nil=>cases r;exact .nil
 |cons h _ ih =>
  cases r with
  |cons a b =>exists[c,rfl,hc],h;exact .cons #[c,rfl,by rw[<-a.1];exact hc] (ih b)
theorem rT(x:Č):∀(i:Ŕ) (v:V),ks[i]?=some v->∃m,M[i]?=some m/\NameIs H v (nk m.1):=by
 induction x with
 |nil=>intro i v h;simp at h
 |cons h _ ih =>
  intro i v hv;cases i with
  |zero=>cases hv;exact#[_,rfl,h]
  |succ i=>exact ih i v hv
theorem Ie(x:Č):∀(l:List Nat),(∀i∈l,i<M.length)->KsAt H (l.map λi=>M.getD i I0) (l.map λi=>ks.getD i .non):=λl=>by
 induction l with
 |nil=>intro _;exact .nil
 |cons i l ih =>
  intro h;have hi:=h i Zq;have hk:i<Ă:=by rw[<-Zw x];exact hi
  exists[m,hm,hn],rT x i _ (Zf hk);refine .cons ?_ (ih λj hj=>h j (Zj _ hj));dsimp only;rw[ZG,ZG,hm,Zf hk];exact hn
theorem MO(s:ê)(tab:ë):TS H H':=λa zs e=>s _ _ e λz=>by exists[ps,e1,_],tab;rw[z,e1]at e;cases e
theorem PlainAt.sameT(x:PlainAt C H p d g kvs gvs)(s:ê)(tab:ë):PlainAt C H' p d g kvs gvs:=by
 obtain⟨⟨dx,h1⟩,h2,h3,h4⟩:=x;exists[ps,e1,_],tab;refine#[#[dx,s _ _ h1 λz=>?_],s _ _ h2 λz=>?_,s _ _ h3 λz=>?_,h4]
 .rw[z,e1]at h1;cases h1
 .rw[z,e1]at h2;cases h2
 .rw[z,e1]at h3;cases h3
theorem OlAt.sameT(x:ã)(s:ê)(tab:ë):OlAt C H' p d g ol:=by exists[kvs,gvs,a,b],x;exact#[kvs,gvs,a.sameT s tab,b.ts (MO s tab)]
theorem GoneAt.sameT(x:Ġ)(s:ê)(tab:ë):GoneAt H' g gs:=by exists[gvs,h1,h2],x;exists[ps,e1,_],tab;exact#[gvs,s _ _ h1 (λz=>by rw[z,e1]at h1;cases h1),h2]
theorem cV{β:Œ}{l:As β}(nd:(l.map (·.1)).Nodup){i:Ŕ}{x:Nm×β}(h:Ŧ):look l x.1=some x.2:=by
 induction l generalizing i with
 |nil=>simp at h
 |cons y r ih =>
  rw[Zn,Z3]at nd;unfold look;cases i with
  |zero=>cases h;rw[Pb rfl]
  |succ i =>have h:r[i]?=some x:=h;rw[Pa fun(z:y.1=x.1)=>nd.1 (by rw[z];exact List.mem_map_of_mem (Z2 h))];exact ih nd.2 h
inductive spSorted(C T:Pg)(vs:Pz)(H:Hp)(Q:VK)(E_:XK):Prop
 |mk (p d g:Pg) (ol:Ol) (h0:vs=[.ref p]) (h1:OlAt C H p d g ol) (h2:Ë<=63) (h3:ï) (h4:Ā) (h5:∀(D:Pg) (H':Hp) (M:Ol) (ks:Pz),M.Perm ol->M.Pairwise leP->SameT T H H'->cH lU T ľ H'->H D=none->H' D=some à->KsAt H' M ks->Q Ą H'):spSorted C T vs H Q E_
theorem vo(s:ê)(h:H' D=none)(hT:∃o,H' T=some o):H D=none:=by
 cases e:H D with
 |none=>rfl
 |some o =>
  by_cases z:D=T
  .exists[o',ho],hT;rw[z,ho]at h;cases h
  .rw[s _ _ e z]at h;cases h
theorem bU(h:ë)(s:ħ):cH q T pos H':=by exists[ps,e1,e2,e3],h;exact#[ps,s _ _ e1,e2,e3.imp id fun⟨c,z1,z2⟩=>#[c,z1,s _ _ z2]]
theorem mC(F:Fun K "sorted_names" "Plain.sorted_names" dJ f fd)(hcode:fd.code=.ref c0)(C:CodeHd base c0 T)(B:Blt base mg)(a7:Txt K C0)(NU:ċ)(j3:mg "sorted" = none):↑FnOk CX0 5 f fd ["self"] (spSorted C0 T):=by
 have dU:=dU (P:=P) (w:=w) (K:=K) (mg:=mg) (base:=base) a7 NU;refine F.okC hcode mL (λvs H Q E h=>?_) (λA outer s H vs Q E hr h=>?_)
 .exists[p,d,g,ol,rfl,_],h;rfl
 exists[p,d,g,ol,rfl,hO,hl,nd,tab,q],h;exists[kvs,gvs,S,R],id hO;obtain⟨⟨dx,h1⟩,h2,h3,h4⟩:=id S;refine#[_,(b_1 (aG (FP (j:=0) rfl j3 rfl C B (dU) ↑99 (q_a Ģ ai) rfl rfl rfl rfl))),?_];refine#[_,rfl,p,C0,dx,_,_,rfl,h1,Ř,a7.nH,bz _ _,d,kvs,.ref p,rfl,rfl,h2,tab,λks H2 sT tab2 kat=>?_];have O2:=hO.sameT sT tab;have ka:=Mm kat R;have lk:Ă=Ë:=(Zw ka).symm;refine#[∅,ol.map kyP,by rw[Zd,lk],λk hk=>?_,λi v key H' hv hk sm R' kR=>?_,λpp H3 D hp hs sm gD=>?_]
 .exists[x,_,rfl],Zu.mp hk;exact#[_,_,rfl]
 .exists[m,hm,hn],rT ka i v hv;rw[Zx,hm]at hk;cases hk;exact#[p,d,g,ol,v,m.1,m.2,rfl,rfl,O2.same sm,hn.ts' (λa zs e=>sm _ _ e),cV nd hm,λkv' H'' s' a=>kR kv' H'' s' a]
 .rw[lk]at hp hs;exists[so,pe],yE hp hs;have pl:∀i∈pp.toList,i<Ë:=λi hi=>by have:=(hp.mem_iff).mp (Array.mem_toList_iff.mp hi);simpa using this
  have wD:=ad gD (.lst (pp.toList.map λi=>ks.getD i .non));have tab3:=bU tab2 sm;have s03:SameT T H H3:=sT.trans (.of sm);refine q D _ _ _ pe so (s03.trans (.of wD)) (bU tab3 wD) (vo s03 gD ?_) ac ((Ie (ka.ts λa zs e=>sm _ _ e) _ pl).ts λa zs e=>wD _ _ e);exists[ps,e1,_],tab3;exact#[_,e1]
def grp(M:Ol)(u:Ċ):Ol:=M.filter λx=>decide (x.2.up=u)
def upK(u:Ċ):Option (List Key):=u.map nk
theorem Az(h:upK u=upK v):u=v:=by
 cases u with
 |none=>cases v with
  |none=>rfl
  |some n=>cases h
 |some m=>cases v with
  |none=>cases h
  |some n=>rw[km (Zo h)]
structure LowAt(P:Pj)(w:Pk)(H:Hp)(D:Pg)(M:Ol)(kls:Ý):Prop where
 od:OdAt P w H D kls
 gr:∀e∈kls,∃(u:Ċ) (ks:Pz),okD e.1=upK u/\H e.2=some à/\KsAt H Ń ks
 al:∀m∈M,(cK kls ĩ).isSome=true
structure LowI(P:Pj)(w:Pk)(H2 H:Hp)(D:Pg)(M:Ol)(kls:Ý):Prop where
 lo:LowAt P w H D M kls
 nl:∀e∈kls,H2 e.2=none
 nd:(kls.map (·.2)).Nodup
 le:ū<=M.length
theorem UpAt.key(h:UpAt H v u):∃e:OK1,tj H v e/\okD e=upK u:=by
 cases u with
 |none=>exact#[none,h,rfl]
 |some n =>exists[b,rfl,hb],h;exact#[some (nk n,b),#[rfl,hb],rfl]
theorem sB{k:ā}(h:cK kls k=some l):∃e∈kls,okD e.1=k/\e.2=l:=by unfold cK at h;exists[e,he,rfl],ZK.mp h;have:=List.find?_some he;exact#[e,List.mem_of_find?_eq_some he,Yd this,rfl]
theorem su{k:ā}(h:(cK kls k).isSome=true\/okD e=k):(cK (kls++[(e,l)]) k).isSome=true:=by
 unfold cK at *;rw[List.find?_append];rcases h with h|h
 .exists[x,hx],Zv.mp h;exists[y,hy,_],ZK.mp hx;rw[hy];rfl
 .cases hf:kls.find? (λe=>decide (okD e.1=k))with
  |some y=>rfl
  |none=>simp[h]
theorem nj(M:Ol)(m:ă)(u:Ċ):grp ĳ u=if m.2.up=u then grp M u++[m]else grp M u:=by
 unfold grp;rw[Yq];by_cases h:m.2.up=u
 .rw[Pb h,List.filter_cons_of_pos Ŗ];rfl
 .rw[Pa h,List.filter_cons_of_neg Ŗ];simp
theorem KsAt.snoc{m:ă}(x:Č)(h:ü):KsAt H ĳ ż:=by
 induction x with
 |nil=>exact .cons h .nil
 |cons a _ ih=>exact .cons a ih
theorem Mr{P:Pj}{w:Pk}{H H':Hp}(x:OdAt P w H D kls)(h:H' D=H D)(s:Ĕ):OdAt P w H' D kls:=#[h.trans x.ob,λe he p hp=>s _ _ (x.ks e he p hp),Ŭ]
theorem mw{α β:Œ}{f:α->β}{l:ĕ}(nd:(l.map f).Nodup){a b:α}(ha:a∈l)(hb:b∈l)(h:f a=f b):a=b:=by
 induction l with
 |nil=>cases ha
 |cons x r ih =>
  rw[Zn,Z3]at nd;rcases Zg.mp ha with rfl|ha'
  .rcases Zg.mp hb with rfl|hb'
   .rfl
   .exact absurd (by rw[h];exact List.mem_map_of_mem hb') nd.1
  .rcases Zg.mp hb with rfl|hb'
   .exact absurd (by rw[<-h];exact List.mem_map_of_mem ha') nd.1
   .exact ih nd.2 ha' hb'
theorem Fh{k:ā}(h:cK kls k=none):∀e∈kls,okD e.1≠k:=λe he z=>by unfold cK at h;rw[Option.map_eq_none_iff,List.find?_eq_none]at h;exact h e he (by simp[z])
theorem LowAt.same(x:ķ)(s:ħ):LowAt P w H' D M kls :=
 #[#[s _ _ x.od.ob,λe he p hp=>s _ _ (x.od.ks e he p hp),x.od.nd],λe he=>by
  exists[u,ks,h1,h2,h3],x.gr e he;exact#[u,ks,h1,s _ _ h2,h3.ts Ż],x.al]
theorem LowI.same(x:ð)(s:ħ):LowI P w H2 H' D M kls:=#[x.lo.same s,x.nl,Ŭ,x.le]
theorem GQ{P:Pj}{w:Pk}{H:Hp}(h:H D=some (odO P w D kls))(h2:Ŷ):D≠l:=λz=>by rw[z,h2]at h;unfold odO at h;cases h
theorem lf{H:Hp}(h:Ŷ):TS H (upd H l (.lst ks')):=λa zs e=>by rw[af (dI e h nofun)];exact e
theorem LowI.old{m:ă}(x:ð)(hl:cK kls ĩ=some l)(hv:ü):
  ∃ks,H l=some à/\Ă<=M.length/\H2 l=none/\LowI P w H2 (upd H l (.lst ż)) D ĳ kls:=by
 exists[e,he,hk,rfl],sB hl;exists[u,ks,h1,h2,h3],x.lo.gr e he;have hu:u=m.2.up:=Az ĵ;subst hu;have ts:=lf (ks':=ks++[v]) h2;refine#[ks,h2,by rw[<-Zw h3];exact ZJ _ _,x.nl e he,#[Mr x.lo.od (af (GQ đ h2)) ts,λe' he'=>?_,λy hy=>?_],x.nl,Ŭ,by rw[Zh];exact Zr x.le (YC _ _)]
 .by_cases z:e'.2=e.2
  .have:=mw Ŭ he' he z;subst this;refine#[m.2.up,ks++[v],h1,ac,?_];rw[nj,Pb rfl];exact(h3.ts ts).snoc Ş
  .exists[u',ks',g1,g2,g3],x.lo.gr e' he';refine#[u',ks',g1,by rw[af z];exact g2,?_];rw[nj,Pa λy=>z ?_]
   .exact g3.ts ts
   .have:okD e'.1=okD e.1:=by rw[g1,h1,y]
    rw[mw (f:=λe=>okD e.1) ŭ he' he this]
 .rcases ZC.mp hy with hy|hy
  .exact x.lo.al y hy
  .rw[Zi]at hy;subst hy;rw[hl];rfl
theorem LowI.new{H2 H:Hp}{D l0:Pg}{M:Ol}{kls:Ý}{m:ă}{v uv:V}{e:OK1}(x:ð)(hl:cK kls ĩ=none)(hv:ü)(hk:tj H uv e)(he:okD e=upK m.2.up)(g0:H l0=none)(b:But D H2 H) :
  H2 l0=none/\l0≠D/\LowI P w H2 Ħ D ĳ (kls++[(e,l0)]):=by
 have nD:l0≠D:=λz=>by rw[z,đ]at g0;cases g0
 have n2:H2 l0=none:=by
  cases z:H2 l0 with
  |none=>rfl
  |some o=>rw[b _ _ z nD]at g0;cases g0
 have keep:∀a o,H a=some o->a≠D->upd Ä l0 (.lst [v]) a=some o:=λa o ea ha=>by
  have nl:a≠l0:=λz=>by rw[z,g0]at ea;cases ea
  rw[af nl,af ha,af nl];exact ea
 have ts:TS H Ħ:=λa zs ea=>keep a _ ea λz=>by have:=đ;rw[z,this]at ea;unfold odO at ea;cases ea
 have no:=Fh hl;refine#[n2,nD,#[#[by rw[af (ZQ nD)];exact ac,λe' he' p hp=>?_,?_],λe' he'=>?_,λy hy=>?_],λe' he'=>?_,?_,?_]
 .rcases ZC.mp he' with he'|he'
  .exact ts _ _ (x.lo.od.ks e' he' p hp)
  .rw[Zi]at he';subst he';obtain rfl:e=some p:=hp;exact ts _ _ hk.2
 .rw[ZA,List.nodup_append];refine#[ŭ,by simp,λa ha c hc z=>?_];simp only[Zn,List.map_nil,Zi]at hc;exists[e',he',rfl],Zu.mp ha;exact no e' he' (by rw[<-he,<-hc];exact z)
 .rcases ZC.mp he' with he'|he'
  .exists[u',ks',g1,g2,g3],x.lo.gr e' he';refine#[u',ks',g1,keep _ _ g2 (ZQ (GQ đ g2)),?_];rw[nj,Pa λz=>no e' he' (by rw[g1,z])];exact g3.ts ts
  .rw[Zi]at he';subst he';refine#[m.2.up,[v],he,ac,?_];have em:grp M m.2.up=[]:=by unfold grp;rw[List.filter_eq_nil_iff];intro y hy z;have:=x.lo.al y hy;rw[Yd z,hl]at this;cases this
   rw[nj,Pb rfl,em];exact .cons Ş .nil
 .rcases ZC.mp hy with hy|hy
  .exact su (.inl (x.lo.al y hy))
  .rw[Zi]at hy;subst hy;exact su (.inr he)
 .rcases ZC.mp he' with he'|he'
  .exact x.nl e' he'
  .rw[Zi]at he';subst he';exact n2
 .rw[ZA,List.nodup_append];refine#[Ŭ,by simp,λa ha c hc z=>?_];simp only[Zn,List.map_nil,Zi]at hc;exists[e',he',rfl],Zu.mp ha;exists[_,_,_,g2,_],x.lo.gr e' he';rw[z,hc,g0]at g2;cases g2
 .rw[Zh,Zh];exact Nat.add_le_add x.le (Ze _)
def bP(gs:ŧ)(x:ă):Bool:=!(look gs x.1).isSome
inductive spLower(P:Pj)(w:Pk)(C T:Pg)(vs:Pz)(H:Hp)(Q:VK)(E_:XK):Prop
 |mk (p d g:Pg) (ol:Ol) (gs:As Unit) (h0:vs=[.ref p]) (h1:ã) (h2:Ġ) (h3:Ë<=63) (h4:ï) (h5:Ā) (h6:∀(D:Pg) (H':Hp) (M:Ol) (kls:Ý),M.Perm ol->M.Pairwise leP->SameT T H H'->cH lU T ľ H'->H D=none->ū<=63->LowAt P w H' D Ñ kls->Q Ą H'):spLower P w C T vs H Q E_
def um(n:Ŕ)(o:Obj):Heap:=#[Array.replicate n o,{}]
theorem FU{n:Ŕ}(hf:Đ)(h:(um n o).get? a=some o'):o'=o:=by
 unfold um Heap.get? at h;dsimp only at h;by_cases ha:a<n
 .rw[y8 ø,Array.getElem_replicate]at h;split at h
  .cases h
  .exact(Zo h).symm
 .rw[Array.getElem?_eq_none ø]at h;cases h
set_option tactic.hygienic true in theorem Al{n:Ŕ}(hf:Đ)(ha:a<n):(um n o).get? a=some o:=by
 unfold um Heap.get?;dsimp only;rw[y8 ø,Array.getElem_replicate];split
 .rename_i z;exact absurd (Zo z) (hf _ _ _)
 .rfl
theorem Mq:odO P w D kls≠ny c q:=λz=>by
 unfold odO ny at z;injection z with z;by_cases hs:(D==sysModules)=false
 .have e:=congrFun z (um (D+1) { cls:=.type "dict",data:=.dict (((kls.map oE).map (iQ P w)).toArray) 0 });have:=e.mp #[hs,_,_,_,Al Û (YK D),#[rfl,rfl,rfl],rfl,by simp];exists[c',o,vs,t,e1,e2,e3,e4],this;have:=FU Û e2;rw[this]at e3;cases e3
 .have e:=congrFun z (um (c+1) { cls:=.none,data:=.fields (List.toArray [.none,.str q 0]) });have:=e.mpr #[c,_,_,_,rfl,Al Û (YK c),rfl,rfl];exact hs this.1
theorem J2:(hZ CX P w K mg base N qual scope f cd A outer s H E).nox.prog=P:=rfl
theorem J3:(hZ CX P w K mg base N qual scope f cd A outer s H E).nox.w=w:=rfl
abbrev fL:Stmt:=cU ň 17
abbrev oh:List Str:=["self","lower","name"]
theorem fj:FnScope oh ["self"] (aq fL):= ~~~0
theorem nI{f C T:Pg}{fd:Pm}{tk:Tok}(F:Fun K "lower_names" "Plain.lower_names" fL f fd)(a7:ť)(r9:↑MFn 5 C "sorted_names" ["self"] (spSorted C T))(pi:mg "UP" = some (.int 0 tk)):↑FnOk CX0 6 f fd ["self"] ĺ:=by
 exists fj
 exists[p,d,g,ol,gs,rfl,hO,hG,hl,nd,tab,q],h;exists _,(b_c (aC (i:=1) fj.nd MI)
   (b_c (eG Z0 rfl (bJ (mD r9 ↑99 ↑0)) (aD (i:=2) fj.nd) (b_1 (aZ (nW Ô ↑2 Ģ) (b_1 (bh (eT (DR Ô ↑1 (am ao (bo Ô Ģ ↑2) (ie pi)) ī) ↑2))) b_0)))
   (b_1 (aG ↑1))))
 rw[J2,J3];intro D gD
 ext gD H1 wD eD
 have O1:=hO.same wD;have tab1:=bU tab wD;exists[kvs1,gvs1,S1,R1],id O1;obtain⟨⟨dx,h1⟩,h2,h3,h4⟩:=id S1;refine#[_,rfl,p,dx,_,rfl,h1,jP _ _ ⋯ ⋯,p,d,g,ol,rfl,O1,hl,nd,tab1,λL H2 M ks pe so s12 tab2 gL eL ka=>?_];refine#[L,rfl,#[ks,Pu eL],?_];have O2:=O1.sameT s12 tab1;have hG2:=(hG.same wD).sameT s12 tab1;have nDT:D≠T:=λz=>by exists[ps,e1,_],tab1;rw[z,e1]at eD;cases eD
 have eD2:=s12 _ _ eD nDT;have nLD:L≠D:=λz=>by rw[z,eD]at gL;cases gL
 have lM:M.length<=63:=by rw[ŕ];exact hl
 have lks:=Zw ka;refine CC (xs:=ks) (λi Z H'=>But D H2 H'/\∃(kls:Ý) (o:Ĵ),LowI P w H2 H' D ((M.take i).filter Ć) kls/\Z=[some ę,some Ą,o]) #[λ_ _ z _=>z,[],none,#[#[#[eD2,î,.nil],î,(λm hm=>by simp at hm)],î,.nil,ZH _],rfl] (λi Z H' _ hP=>Pu (hP.1 _ _ eL nLD)) (λi v Z H' hv hP D' kD=>?_) (λZ H' hP=>?_)
 .exists[bt,kls,o,lo,rfl],hP;exists[m,hm,hn],rT ka i v hv;exists[gvs0,hg0,Rg],id hG2;exists[kvs,gvs,S,R],id O2;have ts2:TS H2 H':=λa zs e=>bt _ _ e λz=>by rw[z,eD2]at e;unfold odO at e;cases e
  have nd':∀{a:Pg} {o:HO},H2 a=some o->o≠odO P w D []->H' a=some o:=λe ne=>bt _ _ e λz=>ne (by rw[z,eD2]at e;exact(Zo e).symm);obtain⟨⟨dx',k1⟩,k2,k3,k4⟩:=id S;have k1':=nd' k1 Ò;have k2':=nd' k2 Ò;have k3':=nd' k3 Ò;have hmo:m∈ol:=pe.mem_iff.mp (Z2 hm);exists[jj,hj],ZV.mp hmo;exists[iv,e1,ia,uv,pv,rfl,e2,e3,e4],aV R Ű;have hn':=hn.ts' ts2;exists[nb,rfl,hnb],id hn';have eg:gvs0=gvs:=by rw[k3]at hg0;injection hg0 with hg0;injection hg0 with hg0;exact hg0.symm
  subst eg;have lt:(M.take i).length<=63:=Zr (List.length_take_le' _ _) lM;have lt2:((M.take i).filter Ć).length<=63:=Zr õ lt;have et0:M.take (i+1)=M.take i++[m]:=by rw[List.take_succ,hm];rfl
  refine#[_,rfl,_,rfl,p,C,dx',_,_,rfl,k1',Ř,a7.nA,vd _ _,g,_,rfl,DGet.t (k:=nk m.1) k3' hnb,_,rfl,?_];rw[ir Rg];cases hvis:(look gs m.1).isSome with
  |true =>refine aI (kD _ _ #[bt,kls,_,?_,rfl]);rw[et0,Yq,List.filter_cons_of_neg Ķ,List.filter_nil,ZD];exact lo
  |false =>
  refine bg ?_;have et:(M.take (i+1)).filter Ć=(M.take i).filter Ć++[m]:=by rw[et0,Yq,List.filter_cons_of_pos Ķ,List.filter_nil]
  exists[ke,hk,hke],(e3.ts ts2).key;refine#[_,rfl,D,rfl,#[kls,lo.lo.od.ob],?_];refine#[_,rfl,p,C,dx',_,_,rfl,k1',Ř,a7.nH,bz _ _,_,rfl,d,.ref ia,rfl,e1▸DGet.t (k:=nk m.1) k2' hnb,?_];refine#[ia,_,_,_,rfl,rfl,Pt (ts2 _ _ e2),at0,sz rfl,λl0 g0=>?_];have w0:=ad g0 ú;have lo0:=lo.same w0;have hk0:tj (upd H' l0 ú) uv ke:=by
   cases ke with
   |none=>exact hk
   |some q=>exact#[hk.1,w0 _ _ hk.2]
  refine#[kls,ke,l0,lo0.lo.od,hk0,rfl,(by have:=lo.le;omega),λl hl'=>?_,λhl'=>?_]
  .rw[hke]at hl';exists[ks',f1,f2,f3,f4],lo0.old hl' (hn'.ts' (Ps w0));refine#[.inl #[rfl,_,Pu f1],_,rfl,l,_,_,rfl,rfl,f1,dS ∅,kD _ _ #[λb ob eb hb=>?_,kls,_,by rw[et];exact f4,rfl]];have hbl:b≠l:=λz=>by rw[z,f3]at eb;cases eb
   rw[af hbl];exact w0 _ _ (bt _ _ eb hb)
  .rw[hke]at hl';exists[n2,nD0,f4],lo.new hl' hn' hk hke g0 bt;refine#[.inl #[rfl,[],Pu (by rw[af nD0];exact ac)],_,rfl,l0,[],_,rfl,rfl,by rw[af nD0];exact ac,sz rfl,kD _ _ #[λb ob eb hb=>?_,_,_,by rw[et];exact f4,rfl]];have hbl:b≠l0:=λz=>by rw[z,n2]at eb;cases eb
   rw[af hbl,af hb,af hbl];exact bt _ _ eb hb
 .exists[bt,kls,o,lo,rfl],hP;have ml:M.take Ă=M:=Yt ∅;rw[ml]at lo;have nTD:T≠D:=ZQ nDT;have tab3:cH lU T ľ H':=by exists[ps,t1,t2,t3],tab2;refine#[ps,bt _ _ t1 nTD,t2,t3.imp id fun⟨c,z1,z2⟩=>#[c,z1,bt _ _ z2 λz=>?_]];rw[z,eD2]at z2;exact Mq (Zo z2)
  exact#[_,rfl,q D H' M kls pe so (λb ob eb hb=>bt _ _ (s12 _ _ (wD _ _ eb) hb) λz=>by rw[z,gD]at eb;cases eb) tab3 gD (Zr lo.le Ĺ) lo.lo]
abbrev DI:=Int×ă
inductive Dfs(M:Ol):List DI->List DI->Nat->Prop
 |nil:Dfs M [] [] 0
 |cons {d:Int} {m:Nm×It} {rest out:List DI} {k:Ŕ} (h:Dfs M ((grp M (some m.1)).map (λx=>(d+1,x))++rest) out k):Dfs M ((d,m)::rest) ((d,m)::out) (k+1)
theorem Dfs.le{st out:ö}{k:Ŕ}(h:Ě):st.length<=k:=by
 induction h with
 |nil=>exact Ze _
 |cons _ ih =>rw[Zh]at ih;rw[Zk];omega
theorem Dfs.len{st out:ö}{k:Ŕ}(h:Ě):out.length=k:=by
 induction h with
 |nil=>rfl
 |cons _ ih=>rw[Zk,ih]
inductive SkAt(H:Hp)(v:V)(x:DI):Prop
 |mk (a:Pg) (nv:V) (h0:v=.ref a) (h1:H a=some (.tup [.int x.1,nv])) (h2:Ĭ):SkAt H v x
inductive RwAt(H:Hp)(v:V)(x:DI):Prop
 |mk (a:Pg) (nv:V) (h0:v=.ref a) (h1:H a=some (.tup [.int x.1,nv,.str x.2.2.tx,.bl x.2.2.dn,whV x.2.2.wh,.bl x.2.2.fo])) (h2:Ĭ):RwAt H v x
abbrev SksAt(H:Hp)(xs:ö)(vs:Pz):Prop:=Paired (λx v=>SkAt H v x) xs vs
abbrev RwsAt(H:Hp)(xs:ö)(vs:Pz):Prop:=Paired (λx v=>RwAt H v x) xs vs
theorem SkAt.ts(h:SkAt H v x)(s:Ĕ):SkAt H' v x:=by exists[a,nv,h1,h2,h3],h;exact#[a,nv,h1,s _ _ h2,h3.ts' s]
theorem RwAt.ts(h:RwAt H v x)(s:Ĕ):RwAt H' v x:=by exists[a,nv,h1,h2,h3],h;exact#[a,nv,h1,s _ _ h2,h3.ts' s]
theorem SksAt.ts(x:SksAt H xs vs)(s:Ĕ):SksAt H' xs vs:=Paired.mapP x λ_ _ z=>z.ts s
theorem RwsAt.ts(x:RwsAt H xs vs)(s:Ĕ):RwsAt H' xs vs:=Paired.mapP x λ_ _ z=>z.ts s
theorem fU{α β:Œ}{R:ĭ}{a c:ĕ}{b d:Į}(x:Paired R a b)(y:Paired R c d):Paired R (a++c) (b++d):=by
 induction x with
 |nil=>exact y
 |cons h _ ih=>exact .cons h ih
theorem oR{α β:Œ}{R:ĭ}:∀{a:ĕ} {x:α} {b:Į},Paired R (a++[x]) b->∃(b0:Į) (y:β),b=b0++[y]/\Paired R a b0/\R x y
 | [],x,b,h=>by
  cases h with
  |cons h1 h2 =>cases h2;exact#[[],_,rfl,.nil,h1]
 |z::a,x,b,h=>by
  cases h with
  |cons h1 h2 =>exists[b0,y,rfl,h3,h4],oR h2;exact#[_::b0,y,rfl,.cons h1 h3,h4]
theorem LowAt.get(x:ķ)(u:Ċ):(∀l,cK kls Ŀ=some l->∃ks,H l=some à/\KsAt H Ń ks)/\(cK kls Ŀ=none->grp M u=[]):=by
 refine#[λl hl=>?_,λhl=>?_]
 .exists[e,he,hk,rfl],sB hl;exists[u',ks,h1,h2,h3],x.gr e he;rw[<-Az ĵ];exact#[ks,h2,h3]
 .unfold grp;rw[List.filter_eq_nil_iff];intro y hy z;have:=x.al y hy;rw[Yd z,hl]at this;cases this
theorem uW{n:Ŕ}{te:TE}{H0:Hp}{Q:VK}{d:á}(hl:H0 l=some à)(hk:KsAt H0 M ks)(hz:M.length<=63)(he:∀(v:V) (H:Hp),Same H0 H->∀R:VK,(∀t,H t=none->R (.ref t) (upd H t (.tup [.int d,v])))->te ((de n cap Z).set 0 (some v)) H R)(hq:∀(ws:Pz) (p:Pg) (H:Hp),Same H0 H->SksAt H (M.map λx=>(d,x)).reverse ws->H p=none->Q ę (upd H p æ)):gQ n cap (dA 0) nV te Z (Itv K l ks) H0 Q:=by
 have lk:=Zw hk;refine xt (N:=Ă) (λi ys H=>Same H0 H/\ys.length=i/\SksAt H ((M.map λx=>(d,x)).reverse.take i) ys) ∅ (λ_ _ _ p=>p.2.1) #[Same.refl _,rfl,.nil] (λi ys H hi hP=>#[hi,Pu Ŏ]) (λys H hP=>#[rfl,Pu Ŏ]) ?_ ?_
 .rintro i ys H x H2 hi ⟨sm,ly,pa⟩ ⟨rfl,hx⟩ R kR;refine he x _ sm _ λt gt=>kR _ _ ?_;have wt:=ad gt (.tup [.int d,x]);refine#[sm.trans wt,by rw[Zh,ly];rfl,?_];rw[List.getElem?_reverse (by simpa using hi)]at hx;exists[m,hm,hn],rT hk _ x hx;have e:(M.map λx=>(d,x)).reverse[i]?=some (d,m):=by rw[List.getElem?_reverse (by rw[Zd];omega),Zd,Zx,lk,hm];rfl
  rw[List.take_succ,e];exact fU (pa.ts (Ps wt)) (.cons #[t,x,rfl,ac,(hn.ts' (Ps sm)).ts' (Ps wt)] .nil)
 .rintro ys p H ⟨sm,ly,pa⟩ gp;refine hq ys p H sm ?_ gp;rw[Yt (by rw[Yv,Zd];omega)]at pa;exact pa
theorem xA{G:Pg->Prop}(x:LowAt P w Hc D M kls)(e0:Hc l0=some ú)(h:∀(l:Pg) (ks:Pz),Hc l=some à->KsAt Hc Ń ks->G l):
  (∀l,cK kls Ŀ=some l->G l)/\(cK kls Ŀ=none->G l0):=by
 exists[a,b],x.get u;refine#[λl hl=>?_,λhl=>?_]
 .exists[ks,h1,h2],a l hl;exact h l ks h1 h2
 .exact h l0 [] e0 (by rw[b hl];exact .nil)
abbrev gC(M:Ol):List DI:=(grp M none).map λx=>(0,x)
inductive spRows(C T:Pg)(vs:Pz)(H:Hp)(Q:VK)(E_:XK):Prop
 |mk (p d g:Pg) (ol:Ol) (gs:As Unit) (h0:vs=[.ref p]) (h1:ã) (h2:Ġ) (h3:Ë<=63) (h4:ï) (h5:Ā) (h6:(∀M:Ol,M.Perm ol->∃out k,Dfs Ñ (gC Ñ) out k/\k<=63)) (h7:∀(R:Pg) (H':Hp) (M:Ol) (out:ö) (k:Ŕ) (rs:Pz),M.Perm ol->M.Pairwise leP->Dfs Ñ (gC Ñ) out k->SameT T H H'->cH lU T ľ H'->H R=none->H' R=some ģ->RwsAt H' out rs->Q Ŋ H'):spRows C T vs H Q E_
theorem Dfs.mem{st out:ö}{k:Ŕ}(h:Ě):(∀x∈st,x.2∈M)->∀x∈out,x.2∈M:=by
 induction h with
 |nil=>intro _ x hx;cases hx
 |@cons d m rest out k _ ih =>
  intro hs x hx;rcases Zg.mp hx with rfl|hx
  .exact hs _ Zq
  .refine ih (λy hy=>?_) x hx;rcases ZC.mp hy with hy|hy
   .exists[z,hz,rfl],Zu.mp hy;exact(ZF.mp hz).1
   .exact hs y Ž
theorem AZ:ce [a,b,c,d,e,f] (some 2) none=[c,d,e,f]:=rfl
abbrev kL:Stmt:=cU ň 16
abbrev wO:List Str:=["self","lower","rows","ahead","following","depth","name"]
theorem dE:FnScope wO ["self"] (aq kL):= ~~~0
theorem vM(F:Fun K "rows" "Plain.rows" kL f fd)(a7:ť)(u5:↑MFn 6 C "lower_names" ["self"] ĺ)(c8:mg "TEXT" = some (.int 2 tk))(u6:mg "reversed" = none)(a8:í):↑FnOk CX0 7 f fd ["self"] (spRows C T):=by
 exists dE
 exists[p,d,g,ol,gs,rfl,hO,hG,hl,nd,tab,ex,q],h;exists[kvs0,gvs0,S0,R0],id hO;obtain⟨⟨dx,h1⟩,h2,h3,h4⟩:=id S0;exists _,(b_c (aC (i:=1) ĸ (mD u5 ↑99 ↑0))
   (b_c (aC (i:=2) ĸ ī)
   (b_c (pA (j:=3) ĸ (own:=["each"]) É rfl (GI u6 (q_a (DQ Ô ↑1 cz ī) ai)) (λ_ _ _ _=>aD (i:=0) (show (["each"]:List Str).Nodup by decide)) ŋ Ú (λ_ _ _ _=>(aB (q_a ah Ê))))
   (b_c (uD Z0 (aE Fi (q_B jG a8 Yu (q_a ↑3 ai)) ah) (b_c (aC (i:=4) ĸ (DS ↑3))
   (b_c (aC (i:=5) ĸ Ņ)
   (b_c (aC (i:=6) ĸ Ņ)
   (b_c (bh (eT ↑2 (aF cO (aB (q_a ↑5 (q_a ↑6 ai))) (cG bK (bo Ô Ģ ↑6) (cg (ie c8)) cM))))
   (b_1 (bh (FO ↑3 (dH (own:=["each"]) (#[rfl,⋯,⋯,rfl,#[rfl,rfl,trivial]]:CompOk _ _ [5] ["depth"]) rfl (GI u6 (q_a (DQ Ô ↑1 ↑6 ī) ai)) (λ_ _ _ _=>aD (i:=0) (show (["each","depth"]:List Str).Nodup by decide)) ŋ Ú (λ_ _ _ _=>(aB (q_a (aF fN ↑1 ah) Ê))))))))))))
   (b_1 (aG ↑2))))))
 rw[J2,J3];refine#[_,rfl,p,dx,_,rfl,h1,jP _ _ ⋯ ⋯,p,d,g,ol,gs,rfl,hO,hG,hl,nd,tab,λD H3 M0 kls pe so s03 tab3 gD lk lo=>?_];exists[out,k,df,k63],ex M0 pe;have lM0:M0.length<=63:=by rw[ŕ];exact hl
 have mem0:∀x∈M0.filter Ć,x∈ol:=λx hx=>pe.mem_iff.mp (ZF.mp hx).1;have lM:(M0.filter Ć).length<=63:=Zr õ lM0;have qq:=λR H' out k rs=>q R H' M0 out k rs pe so;generalize M0.filter Ć=M at df lo lM mem0 qq;have O3:=hO.sameT s03 tab;exists[kvs,gvs,S,R3],id O3;obtain⟨⟨dx',k1⟩,k2,k3,k4⟩:=id S;refine#[sz rfl,λR gR=>?_]
 ext gR H4 wR eR
 refine#[_,rfl,D,rfl,#[kls,wR _ _ lo.od.ob],sz rfl,λl0 g0=>?_]
 ext g0 H5 w0 e0
 have lo5:=lo.same (wR.trans w0);refine#[kls,none,lo5.od,rfl,∅,xA (u:=none) lo5 e0 λl ks el hk=>?_];refine#[l,ks,rfl,Pu el,uW (d:=0) el hk Ĺ (λv Hx sx Rx kx=>#[_,rfl,sz rfl,λt gt=>kx t gt]) (λws Aa H6 s6 pa gA=>?_)];have wA:=ad gA æ;have eA:upd H6 Aa æ Aa=some æ:=ac;have s36:Same H3 (upd H6 Aa æ):=(wR.trans (w0.trans s6)).trans wA;have eR6:upd H6 Aa æ R=some ú:=wA _ _ (s6 _ _ ş);have pa6:=pa.ts (Ps wA);have nRA:R≠Aa:=λz=>by rw[<-z,s6 _ _ ş]at gA;cases gA
 have g3A:H3 Aa=none:=by
  cases z:H3 Aa with
  |none=>rfl
  |some o=>rw[s6 _ _ (w0 _ _ (wR _ _ z))]at gA;cases gA
 generalize upd H6 Aa æ=H7 at eA s36 eR6 pa6 ⊢;refine#[λm Z H'=>Same H3 H'/\∃(stk outd rst:ö) (rs as:Pz) (o4 o5 o6:Ĵ),Dfs M stk rst m/\outd++rst=out/\H' R=some ģ/\RwsAt H' outd rs/\H' Aa=some ž/\SksAt H' ř as/\Z=[some ę,some Ą,some Ŋ,some ſ,o4,o5,o6],#[k,s36,gC M,[],out,[],ws,none,none,none,df,rfl,eR6,.nil,eA,pa6,rfl],?_];rintro m Z H' ⟨sm,stk,outd,rst,rs,as,o4,o5,o6,df',eo,eR',ra,eA',sa,rfl⟩;have las:=Zw sa;rw[Yv]at las;refine#[_,rfl,Aa,as,rfl,.inl (Pu eA'),_,_,rfl,rfl,_,rfl,?_];have lo63:outd.length+m<=63:=by have h1:=ZO List.length eo;rw[Zh,df'.len,df.len]at h1;omega
 cases df' with
 |nil =>have:Ź=0:=las.symm;rw[show(decide ě)=false by rw[this];rfl];refine aI #[_,rfl,?_];rw[ZD]at eo;subst eo;refine qq R H' outd k rs df (s03.trans (.of sm)) (bU tab3 sm) (vo s03 gR ?_) eR' ra;exists[ps,t1,_],tab3;exact#[_,t1]
 |@cons d0 mm rest rst' m' df' =>
  have:0<Ź:=by rw[<-las];exact Nat.succ_pos _
  rw[show(decide ě)=true by rw[decide_eq_true];omega];refine bg ?_;rw[YG]at sa;obtain⟨as0,y,rfl,sa0,⟨ya,nv,rfl,ey,hn⟩⟩:=oR sa;exists[nb,rfl,hnb],id hn;have hmem:mm∈M:=df.mem (λx hx=>by
   exists[z,hz,rfl],Zu.mp hx;exact (ZF.mp hz).1) Ŝ (by rw[<-eo];simp)
  exists[jj,hj],ZV.mp (mem0 _ hmem);exists[iv,e1,ia,uv,pv,rfl,e2,e3,e4],aV R3 Ű;refine#[λσ' H''=>Same H3 H''/\∃(stk outd rst:ö) (rs as:Pz) (o4 o5 o6:Ĵ),Dfs M stk rst m'/\outd++rst=out/\H'' R=some ģ/\RwsAt H'' outd rs/\H'' Aa=some ž/\SksAt H'' ř as/\σ'=[some ę,some Ą,some Ŋ,some ſ,o4,o5,o6],λσ' H'' h=>#[m',YK _,h],?_];refine#[_,rfl,.inl #[rfl,_,Pu eA'],Aa,_,.ref ya,rfl,rfl,eA',by simp,?_];rw[List.dropLast_concat];have t8:=lf (ks':=as0) eA';have s38:Same H3 (upd H' Aa ì):=cC sm g3A;have eA8:upd H' Aa ì Aa=some ì:=ac;have eR8:upd H' Aa ì R=some ģ:=by rw[af nRA];exact eR'
  have ey8:=t8 _ _ ey;have hn8:=t8 _ _ hnb;have ra8:=ra.ts t8;have sa8:=SksAt.ts sa0 t8;generalize upd H' Aa ì=H8 at s38 eA8 eR8 ey8 hn8 ra8 sa8 ⊢;refine#[_,rfl,ya,_,_,_,rfl,rfl,Pt ey8,at0,?_];refine#[_,rfl,ya,_,_,_,rfl,rfl,Pt ey8,at1,?_];refine#[_,rfl,.inl #[rfl,_,Pu eR8],_,rfl,_,rfl,sz rfl,λt1 g1=>?_];have w1:=ad g1 (.tup [.int d0,.ref nb]);have s1':=s38.trans w1;refine#[_,rfl,p,C,dx',_,_,rfl,s1' _ _ k1,Ř,a7.nH,bz _ _,_,rfl,d,.ref ia,rfl,e1▸DGet.t (k:=nk mm.1) (s1' _ _ k2) (w1 _ _ hn8),_,rfl,?_];refine#[ia,_,rfl,s1' _ _ e2,λt2 H9 s9 e9=>?_];rw[AZ]at e9;refine#[t1,t2,_,_,rfl,rfl,s9 _ _ ac,e9,sz rfl,λt3 H10 s10 e10=>?_];have w8:Same H8 H10:=w1.trans (s9.trans s10);have lra:=Zw ra;refine#[R,rs,.ref t3,rfl,rfl,w8 _ _ eR8,dS ∅,?_];have t11:=lf (ks':=rs++[.ref t3]) (w8 _ _ eR8);have g3R:H3 R=none:=gR;have s311:Same H3 Ň:=cC (s38.trans w8) g3R;have eR11:upd H10 R Ç R=some Ç:=ac;have eA11:upd H10 R Ç Aa=some ì:=by rw[af (ZQ nRA)];exact w8 _ _ eA8
  have hn11:=t11 _ _ (w8 _ _ hn8);have ra11:RwsAt Ň (outd++[Ŝ]) (rs++[.ref t3]):=fU ((ra8.ts (Ps w8)).ts t11) (.cons #[t3,.ref nb,rfl,t11 _ _ e10,nb,rfl,hn11] .nil);have sa11:=(sa8.ts (Ps w8)).ts t11;generalize upd H10 R Ç=H11 at s311 eR11 eA11 hn11 ra11 sa11 ⊢;refine#[_,rfl,.inl #[rfl,_,Pu eA11],?_];refine#[_,rfl,D,rfl,#[kls,s311 _ _ lo.od.ob],_,rfl,sz rfl,λl1 gl1=>?_]
  ext gl1 H12 wl el1
  have lo12:=lo.same (s311.trans wl);refine#[kls,some (nk mm.1,nb),lo12.od,#[rfl,wl _ _ hn11],∅,xA (u:=some mm.1) lo12 el1 λl ks el hk=>?_];refine#[l,ks,rfl,Pu el,uW (d:=d0+1) el hk Ĺ (λv Hx sx Rx kx=>#[_,rfl,_,_,rfl,rfl,_,rfl,sz rfl,λt gt=>kx t gt]) (λws' pW H13 s13 pa' gW=>?_)];have wW:=ad gW ű;have w1113:Same H11 (upd H13 pW ű):=wl.trans (s13.trans wW);have lw:=Zw pa';have lsa:=Zw sa8;have dl:=df'.le;rw[Zh]at dl;rw[Yv]at lw lsa;refine#[Aa,pW,as0,ws',rfl,rfl,w1113 _ _ eA11,ac,dS ∅,?_];have t14:=lf (ks':=as0++ws') (w1113 _ _ eA11);refine#[cC (s311.trans w1113) g3A,(grp M (some mm.1)).map (λx=>(d0+1,x))++rest,outd++[Ŝ],rst',rs++[.ref t3],as0++ws',_,_,_,df',by rw[<-eo];simp,by rw[af nRA];exact w1113 _ _ eR11,(ra11.ts Ų).ts t14,ac,?_,rfl];rw[List.reverse_append];exact fU ((sa11.ts Ų).ts t14) ((pa'.ts (Ps wW)).ts t14)
def gkS(l:Ł)(t:Tk):As Nm:=if t.2.2=none/\(look l t.2.1).isSome=false then aw l t.2.1 t.1 else l
def gkl(ts:ł):As Nm:=ts.foldl gkS []
theorem EX(ts:ł)(t:Tk):gkl (ts++[t])=gkS (gkl ts) t:=by unfold gkl;rw[List.foldl_append];rfl
theorem HM(l:Ł)(t:Tk):(gkS l t).length<=Ē+1:=by
 unfold gkS aw;split
 .split
  .rw[Zd];exact YE _
  .rw[Zh];exact Ze _
 .exact YE _
theorem rO(ts:ł):(gkl ts).length<=Ļ:=by
 have gen:∀(ts:ł) (l:Ł),(ts.foldl gkS l).length<=Ē+Ļ:=by
  intro ts;induction ts with
  |nil=>intro l;exact Ze _
  |cons t ts ih =>intro l;have:=ih (gkS l t);have:=HM l t;rw[List.foldl_cons,Zk];omega
 have:=gen ts [];rw[Z8,Nat.zero_add]at this;exact this
def goL(l:Ł):List (Nm×Sd):=l.map λx=>(x.2,Sd.gone x.1)
theorem kz{α β:Œ}{R:ĭ}{xs:ĕ}{ys:Į}{xs':ĕ}{ys':Į}(h:Paired R xs ys)(h':Paired R xs' ys'):Paired R (xs++xs') (ys++ys'):=by
 induction h with
 |nil=>exact h'
 |cons r _ ih=>exact .cons r ih
theorem eJ{α:Œ}{l:ĕ}{i:Ŕ}{x:α}(h:Ŧ):l.take (i+1)=l.take i++[x]:=by rw[List.take_succ,h];rfl
inductive spHist(vs:Pz)(H:Hp)(Q:VK)(E:XK):Prop
 |mk (l:Pg) (L:L3) (W:List Str) (n:Nat) (Φ:Ol->Prop) (h0:ŷ) (h1:LR3 H l L) (T:Ũ) (q:∀ol rs D ys H',Φ ol->Runs ś (bD ÿ) [] ÿ rs->Same H H'->H' D=some (.lst ys)->Paired (SsAt H') ys (aP rs++goL (gkl ý))->Q Ą H'):spHist vs H Q E
abbrev kN:Stmt:=top 44
abbrev wQ:List Str:=["ready","gone","name","item","by"]
theorem fw:FnScope wQ ["ready"] (aq kN):= ~~~0
theorem vN(F:Fun K "history_of" "history_of" kN f fd)(i7:↑Fn 9 "takings_of" ["ready"] spTakings)(j9:↑Fn 8 "steps_of" ["ready"] spSteps):↑FnOk CX0 10 f fd ["ready"] spHist:=by
 exists fw
 exists[l,L,W,n,Φ,rfl,hL,T,q],h;exists _,(b_c (aC (i:=1) Ś qg)
   (b_c (eG Z0 rfl (bJ (aO i7 ↑99 Ê)) (iZ rfl (bE (aD (i:=2) Ś) (bE (aD (i:=3) Ś) (bE (aD (i:=4) Ś) fe)))) (b_1 (aZ (t_w (fm (aE Mo ↑4 cz) (fz (nW Ô ↑3 ↑1)))) (b_1 (eE Ô ↑1 ↑3 ↑2)) b_0)))
   (b_1 (aG (aF qd (aO j9 ↑99 Ê) (DT (dH (own:=["item","name"]) É rfl (HV ↑1) (λ_ _ _ _=>gG (K:=K) (n:=2) rfl rfl (bE (aD (i:=0) (show (["item","name"]:List Str).Nodup by decide)) (bE (aD (i:=1) (show (["item","name"]:List Str).Nodup by decide)) fe))) Ø Ú (λ_ _ _ _=>(aB (q_a ↑1 (q_a (aB (q_a ar Ê)) ai)))))))))))
 intro g gg;have s0:=ad gg Ō;have eg:upd H g Ō g=some Ō:=ac;have hL0:=hL.same s0;refine#[_,rfl,l,L,W,n,Φ,rfl,hL0,T,λol tl ys H1 hΦ s1 etl pr=>?_];have lts:(br ol Á).length<=63:=by refine Zr Š ?_;have:=T.len;rw[Zd];unfold bC;rw[Zd];refine Zr õ ?_;rw[List.length_zip];omega
 generalize hts:br ol Á=ts at pr lts;have eg1:=s1 _ _ eg;have ngt:tl≠g:=λz=>by rw[z,eg1]at etl;cases etl
 refine#[tl,rfl,#[_,Pu etl],?_];have nt:∀{b:Pg} {zs:Pz},H1 b=some (.tup zs)->b≠g:=fun{b zs} e z=>by rw[z,eg1]at e;cases e
 refine eh (K:=K) (a:=tl) (xs:=ys) (λi Z H'=>(∀b o,b≠g->H1 b=some o->H' b=some o)/\∃(kvs:Py) (o2 o3 o4:Ĵ),H' g=some Ĥ/\Rws (λv n=>NameIs H' v ō) kvs (gkl İ)/\Z=[some (.ref l),some (.ref g),o2,o3,o4])
  #[λb o _ e=>e,[],none,none,none,eg1,.nil,rfl] (λi Z H' _ z=>Pu (z.1 _ _ ngt etl)) ?_ ?_
 .rintro i v Z H' hv ⟨kp,kvs,o2,o3,o4,hg,hk,rfl⟩ DL hDL;exists[r,hx,t,nv,iv,bv,rfl,e1,e2,e3,e4],ba pr hv;have tS:TS H1 H':=λb zs e=>kp b _ (nt e) e;have e1:=tS _ _ e1;have e2:=e2.ts' tS;have e3:=e3.ts' tS;have e4:=e4.ts tS;have hi:i<Ļ:=(Zz.mp hx).1;have lk:=bT hk;have l1:=rO İ;rw[y7]at l1;refine#[t,_,rfl,Pt e1,rfl,_,_,rfl,_,_,rfl,_,_,rfl,rfl,?_];rw[eJ hx,EX]at hDL;unfold gkS at hDL;cases hb:r.2.2 with
  |some y =>rw[hb]at e4;exists[yb,rfl,_],id e4;refine#[_,rfl,rfl,_,rfl,Mh nofun (hDL _ _ #[kp,kvs,_,_,_,hg,?_,rfl])];rw[Pa λz=>by rw[hb]at z;cases z.1];exact hk
  |none =>
   rw[hb]at e4;obtain rfl:bv=.non:=e4;refine#[_,rfl,rfl,_,rfl,di ?_];exists[ib,rfl,hib],id e3;refine#[_,rfl,_,rfl,g,_,rfl,DGet.t (k:=nk r.2.1) hg hib,_,rfl,?_];rw[ir hk];cases c:(look (gkl İ) r.2.1).isSome with
   |true =>refine aI (hDL _ _ #[kp,kvs,_,_,_,hg,?_,rfl]);rw[Pa λz=>by rw[c]at z;cases z.2];exact hk
   |false =>refine bg #[_,rfl,_,rfl,_,rfl,g,_,rfl,DPut.t (k:=nk r.2.1) hg hib (aJ ∅),hDL _ _ #[λb o n e=>by rw[af n];exact kp b o n e,_,_,_,_,ac,?_,rfl]];rw[Pb #[hb,c]];have td:=kX (kvs':=aS kvs (nk r.2.1) nv) hg;exact Paired.mapP (fV hk e2) λ_ _ z=>#[z.1,z.2.ts' td]
 .rintro Z H' ⟨kp,kvs,o2,o3,o4,hg,hk,rfl⟩;rw[Zw pr,ZI]at hk;have lk:=bT hk;have l1:=rO ts;have S':Same H H':=λb o e=>kp b o ń (s1 _ _ (s0 _ _ e));have hL':=hL.same S';refine#[_,rfl,l,aR L,aU L,rfl,hL'.1,mf hL'.2,by have:=T.len;unfold aU;rw[Zd];exact this,T.safe,λa2 ys2 rs H2 s2 ea2 pa2 run=>?_];have hg2:=s2 _ _ hg;have hk2:Rws (λv n=>NameIs H2 v ō) kvs (gkl ts):=Paired.mapP hk λ_ _ z=>#[z.1,z.2.same s2]
  refine#[_,rfl,g,kvs,rfl,hg2,λob=>?_];have nt2:∀{b:Pg} {zs:Pz},H2 b=some (.tup zs)->b≠g:=fun{b zs} e z=>by rw[z,hg2]at e;cases e
  refine EI (o:=ob) (kvs:=kvs) (λi zs HH=>(∀b o,b≠g->H2 b=some o->HH b=some o)/\HH g=some (.frz ob Ĥ)/\ļ=i/\Paired (SsAt HH) zs (goL ((gkl ts).take i))) ∅ (λ_ _ _ z=>by rw[z.2.2.1];exact Ze _) #[λb o n e=>by rw[af n];exact e,ac,rfl,.nil] (λi zs HH z=>z.2.1) ?_ ?_
  .rintro i zs HH p b T' hp hb gT ⟨kp2,hgf,lz,pz⟩ Y hY;exists[x,hx,ex1,ex2],ba hk2 hp;have ex2:=ex2.ts' (H':=HH) λb zs e=>kp2 b _ (nt2 e) e;have wT:=ad gT (.tup [.ref b,p.2]);refine#[T',_,rfl,Pt ac,rfl,_,_,rfl,_,_,rfl,rfl,?_];refine#[_,rfl,_,rfl,sz rfl,λu gu=>#[sz rfl,λz gz=>?_]];have wu:=ad gu (.tup [.str "gone",.ref b]);have wz:=ad gz (.tup [p.2,.ref u]);have sA:=wT.trans (wu.trans wz);refine hY _ _ #[λc o n e=>sA _ _ (kp2 c o n e),sA _ _ hgf,by rw[Zh,lz];rfl,?_];rw[eJ hx];unfold goL;rw[ZA];rw[ex1]at hb;exact kz (Paired.mapP pz λ_ _ v=>v.ts (Ps sA)) (.cons #[z,u,p.2,rfl,ac,ex2.same sA,#[.ref b,wz _ _ ac,#[b,rfl,sA _ _ hb]]] .nil)
  .rintro zs pl HH ⟨kp2,hgf,lz,pz⟩ gpl;have wpl:=ad gpl û;rw[lk,ZI]at pz;have epl:upd HH pl û pl=some û:=ac;have kpl:∀b o,b≠g->H2 b=some o->upd HH pl û b=some o:=λb o n e=>wpl _ _ (kp2 b o n e);have hgl:=wpl _ _ hgf;have pzl:=Paired.mapP pz λ_ _ v=>v.ts (Ps wpl);generalize upd HH pl û=HP at epl kpl hgl pzl ⊢;refine#[g,ob,_,hgl,Loose.non gg,?_];have ng2:a2≠g:=λz=>by rw[z,hg2]at ea2;cases ea2
   have ngp:pl≠g:=λz=>by rw[z,hgl]at epl;cases epl
   have tsg:TS HP ŏ:=λb ws e=>by rw[af (dI e hgl nofun)];exact e
   have lz2:ļ<=63:=∅
   have ly2:Ů<=63:=by rw[Zw pa2];unfold aP;refine Zr (YQ _ _) ?_;have h1:=ZO List.length (T.words rs run).2;have h2:=T.len;rw[Zd,Zd]at h1;unfold aU at h1;rw[Zd]at h1;omega
   refine#[a2,pl,ys2,zs,rfl,rfl,by rw[af ng2];exact kpl _ _ ng2 ea2,by rw[af ngp];exact epl,dS ∅,λr gr=>?_];have wr:=ad gr ŀ;have T2:TS H2 (upd ŏ r ŀ):=λb ws e=>Ps wr _ _ (tsg _ _ (kpl _ _ (nt2 e) e));refine q ol rs r _ _ hΦ run (λb o e=>wr _ _ (by rw[af ń];exact kpl b o ń (s2 _ _ (S' _ _ e)))) ac ?_;rw[hts];exact kz (Paired.mapP pa2 λ_ _ v=>v.ts T2) (Paired.mapP pzl λ_ _ v=>v.ts λb ws e=>Ps wr _ _ (tsg _ _ e))
def gsF(gs:ŧ)(l:Ł):As Unit:=l.foldl (λg x=>aw g x.1 ()) gs
theorem yB:(aw gs n ()).length<=ź+1:=by
 unfold aw;split
 .rw[Zd];exact YE _
 .rw[Zh];exact Ze _
theorem pG{Ψ:Ol->As Unit->Prop}(sm:Small ol):∀{l:Ł} {gs:ŧ},(∀x∈l,(look ol x.1).isSome=true)->ź+Ē<=63->Ψ ol (gsF gs l)->iw Ψ ol gs ((goL l).map Prod.snd)
 | [],_,_,_,h=>h
 |x::l,gs,hi,hz,h=>by
  rw[Zk]at hz;have hs:=yB (gs:=gs) (n:=x.1);refine#[sm,∅,λn hn=>(nomatch hn),λn hn=>?_,.gone,λol' ap=>?_]
  .rw[Zi.mp hn];exact hi x Zq
  .cases ap;exact pG sm (l:=l) (gs:=aw gs x.1 ()) (λy hy=>hi y Ž) ∅ h
theorem rj{ts:List Sd}:∀{ss:List Sd} {ol:Ol},(∀s∈ss,∀n,s≠.gone n)->iX Φ ol ss->(∀ol',Φ ol'->iw Ψ ol' [] ts)->iw Ψ ol [] (ss++ts)
 | [],_,_,h,k=>k _ h
 |s::ss,ol,ng,h,k=>by exists[small,nw,hh,hb,nxt],h;refine#[small,ZH _,nw,hh,hb,λol' ap=>?_];rw[mj (ng s Zq)];exact rj (λx hx=>ng x (Zj _ hx)) (nxt ol' ap) k
inductive spOutl(C:Pg)(vs:Pz)(H:Hp)(Q:VK)(E:XK):Prop
 |mk (l:Pg) (L:L3) (W:List Str) (n:Nat) (Φ:Ol->Prop) (h0:ŷ) (h1:LR3 H l L) (T:Ũ) (hi:∀ol,Φ ol->Small ol/\∀ol',Φ ol'->∀x∈gkl ý,(look ol' x.1).isSome=true) (q:∀ol ol' p d g H',Φ ol->Φ ol'->Same H H'->OlAt C H' p d g ol'->GoneAt H' g (gsF [] (gkl ý))->Q ę H'):spOutl C vs H Q E
abbrev kP:Stmt:=top 45
abbrev wU:List Str:=["ready"]
theorem vW:FnScope wU ["ready"] (aq kP):= ~~~0
theorem vP(F:Fun K "outline_of" "outline_of" kP f fd)(i8:↑Fn 10 "history_of" ["ready"] spHist)(k9:↑Fn 5 "stepped" ["steps"] (spSteppedA C)):↑FnOk CX0 11 f fd ["ready"] (spOutl C):=by
 exists vW
 exists[l,L,W,n,Φ,rfl,hL,T,hi,q],h;exists _,(b_1 (aG (aO k9 ↑99 (q_a (dH (own:=["name","step"]) É rfl (bJ (aO i8 ↑99 Ê)) (λ_ _ _ _=>gG (K:=K) (n:=2) rfl rfl (bE (aD (i:=0) (show(["name","step"]:List Str).Nodup by decide)) (bE (aD (i:=1) (show(["name","step"]:List Str).Nodup by decide)) fe))) Ø Ú (λ_ _ _ _=>↑1)) ai))))
 refine#[_,rfl,l,L,W,n,Φ,rfl,hL,T,λol rs a2 ys2 H3 hΦ run s3 ea2 pa2=>#[a2,rfl,#[_,Pu ea2],?_]];have lts:(gkl ý).length<=63:=by refine Zr (rO _) (Zr Š ?_);have:=T.len;rw[Zd];unfold bC;rw[Zd];refine Zr õ ?_;rw[List.length_zip];omega
 have lrs:(aP rs).length<=63:=by unfold aP;refine Zr (YQ _ _) ?_;have h1:=ZO List.length (T.words rs run).2;have h2:=T.len;rw[Zd,Zd]at h1;unfold aU at h1;rw[Zd]at h1;omega
 have q:=λol'=>q ol ol';have hi':=λol' h'=>(hi ol hΦ).2 ol' h';generalize gkl ý=gl at pa2 lts q hi';have ly2:Ů<=130:=by rw[Zw pa2,Zh];unfold goL;rw[Zd];omega
 refine bV (λi zs H'=>Same H3 H'/\ļ<=i/\Paired (StV H') zs (((aP rs++goL gl).take i).map Prod.snd)) ∅ (λ_ _ _ z=>z.2.1) #[Same.refl _,Ze _,.nil] (λi zs H' z=>Pu (z.1 _ _ ea2)) ?_ ?_
 .rintro i zs H' v hv ⟨sm,lz,pz⟩ Y hY;exists[r,hr',t,st,nv,rfl,e1,e2,e3],ba pa2 hv;refine#[t,_,rfl,Pt (sm _ _ e1),rfl,_,_,rfl,_,_,rfl,rfl,?_];refine#[_,rfl,hY _ _ #[sm,by rw[Zh];exact ZT lz,?_]];rw[eJ hr',ZA];exact kz pz (.cons #[st,rfl,e3.ts (Ps sm)] .nil)
 rintro zs lz H4 ⟨sm,lzs,pz⟩ glz;rw[Zw pa2,ZI,ZA]at pz;have wlz:=ad glz û;refine#[lz,zs,_,λol' gs=>Φ ol'/\gs=gsF [] gl,rfl,ac,Paired.mapP pz λ_ _ (z:StV _ _ _)=>z.ts (Ps wlz),rj (qj run) (T.steps rs run) λol' h'=>pG (hi ol' h').1 (hi' ol' h') (by rw[Z8];omega) #[h',rfl],λp d g ol' gs H5 s5 O G z=>?_];exists[z1,rfl],z;exact q ol' p d g H5 hΦ z1 (s3.trans (sm.trans (wlz.trans s5))) O G
abbrev oY:Stmt:=top 47
abbrev BZ:List Str:=["_law_script","_law_k"]
theorem BG:FnScope BZ ["_law_script","_law_k"] (aq oY):= ~~~0
theorem Bo(F:Fun K "_law_cell_at" "_law_cell_at" oY f fd)(a8:í):↑FnOk CX0 1 f fd ["_law_script","_law_k"] (spCell K):=by
 exists BG
 exists[a,ns,k,rfl,hS,h0,q],h;refine#[_,(b_c (aZ (aE Fj ↑1 (q_B jG a8 Yu Ê)) (b_1 (aG (am dq ↑0 ↑1))) b_0)
   (b_1 (aG ah))),?_]
 refine#[_,rfl,_,rfl,a,_,rfl,.inl hS,_,_,rfl,rfl,_,rfl,?_];refine Nl (λc=>?_) (λc=>?_)
 .have c':k<č:=Yd c;rw[Zd]at c';exact#[_,rfl,_,rfl,a,_,_,_,rfl,rfl,hS,iK h0 c',q]
 .have c':¬k<č:=Y3 (Y9.mpr c);rw[Zd]at c';rw[EG h0 c']at q;exact q
def eY:Str:="abc XYZ019 ,.-!~'(){}#&*+/:;<=>?\x40[]^_|$"
theorem jn:Ľ=39/\į=39:=⋯
theorem Gc:∀c∈â,c<0x110000:=⋯
theorem zU:∀l:List Str,(∀s∈l,PyData.strOk s=true/\s.length=1)->PyData.strOk (Str.join "" l)=true/\(Str.join "" l).length=Ē
 | [],_=>#[⋯,⋯]
 | [x],h=>#[(h x ġ).1,(h x ġ).2]
 |x::y::r,h=>by
  exists[i1,i2],zU (y::r) λs hs=>h s (Zj _ hs);exists[x1,x2],h x ġ;have e:Str.join "" (x::y::r)=x++("":Str)++Str.join "" (y::r):=rfl;have e0:("":Str).length=0:=⋯
  rw[e];exact#[xZ (xZ x1 ⋯) i1,by rw[tV,tV,x2,i2,e0];simp only[Zk];omega]
theorem yJ:∀l:List Str,(∀s∈l,s.length=1)->(l.map (·.length)).sum=Ē
 | [],_=>rfl
 |x::l,h=>by rw[Zn,List.sum_cons,Zk,h x Zq,yJ l λs hs=>h s (Zj _ hs)];omega
def Ar:Sp:=λvs H Q _=>∃n:Int,vs=[.int n]/\∀(t:Str) (H':Hp),tu t->Same H H'->Q (.str t) H'
abbrev yz:Stmt:=top 48
abbrev JQ:List Str:=["_law_n","_law_some"]
theorem Ao:FnScope JQ ["_law_n"] (aq yz):= ~~~0
theorem Iv(F:Fun K "_law_text" "_law_text" yz f fd)(u3:mg "range" = none)(a8:í):↑FnOk CX0 1 f fd ["_law_n"] Ar:=by
 exists Ao
 exists[c,rfl,q],h;refine#[_,(b_c (aC (i:=1) Ao.nd ar)
   (b_1 (aG (Lq ar (dH (own:=["_law_k"]) (#[rfl,⋯,⋯,rfl,#[rfl,rfl,#[rfl,rfl,trivial]]]:CompOk _ _ [1,0] ["_law_some","_law_n"]) rfl (xH u3 (q_a Ì ai)) (λ_ _ _ _=>aD (i:=0) (show (["_law_k","_law_some","_law_n"]:List Str).Nodup by decide)) ŋ Ú (λ_ _ _ _=>(am M6 ↑1 (aF dB (aF fN (aF fu ↑2 (aF fN ↑0 ah)) (aF nG ↑0 ↑0)) (q_B Cg a8 Yu (q_a ↑1 ai)))))))))),?_]
 have c0:=Ya c (show(6:á)≠0 by decide);have c1:=Yg c (show(0:á)<6 by decide);have sg:∀n:Int,∃ch,atI â (n%39)=some ch/\ch∈â:=λn=>by
  have k0:=Ya n (show(39:á)≠0 by decide);have k1:=Yg n (show(0:á)<39 by decide);have hz:(n%39).toNat<į:=by rw[jn.2];omega
  have:=ge (xs:=â) (Zf hz);rw[show(((n%39).toNat:Nat):Int)=n%39 by omega]at this;exact#[_,this,ZL hz]
 let ix:Nat->Int:=λi=>c / (0+(i:á)+1)+ų*ų
 let sgn:Nat->Str:=λi=>#[Å]
 have sgo:∀i,PyData.strOk ŝ=true/\(sgn i).length=1:=λi=>by exists[ch,e1,e2],sg (ix i);refine#[?_,rfl];show(Å:Po).all (·<0x110000)=true;rw[e1];simp[Gc ch e2]
 refine#[rfl,?_];refine#[_,rfl,_,_,rfl,rfl,(by show(0:á)<6;decide),_,rfl,∅,∅,?_];refine rF (λi=>.str ŝ) ∅ (λi H1 hi s1 R k=>?_) (λl H1 s1 gl=>?_)
 .exists[ch,e1,e2],sg (ix i);have k':=k H1 Ő;refine#[_,rfl,_,rfl,_,rfl,_,_,rfl,rfl,_,_,rfl,rfl,#[∅,∅],_,rfl,_,rfl,_,_,rfl,rfl,.inl #[∅,∅],_,_,rfl,rfl,_,rfl,eY,rfl,by rw[jn.1];decide,_,_,rfl,rfl,(by show(0:á)<(Ľ:Int);rw[jn.1];decide),eY,_,ch,rfl,rfl,dS (by rw[jn.1];decide),?_,?_]
  .show atI â (ix i%(Ľ:Int))=some ch;rw[jn.1];exact e1
  .have:sgn i=#[(List.toArray [ch])]:=by show(#[Å]:Str)=_;rw[e1];rfl
   rw[this]at k';exact k'
 .have em:((List.range (c%6).toNat).map λi=>V.str ŝ)=((List.range (c%6).toNat).map sgn).map V.str:=by rw[Z7];rfl
  have jo:=zU Ð λs hs=>by exists[i,_,rfl],Zu.mp hs;exact sgo i
  rw[Zd,List.length_range]at jo;have ej:Txt.join "" Ð=Str.join "" Ð:=StrLaws.glued_eq_join _ _;refine#["",l,(List.range (c%6).toNat).map sgn,rfl,rfl,?_,?_,?_]
  .rw[em];exact Pu ac
  .have e0:("":Str).length=0:=⋯
   rw[yJ _ λs hs=>by exists[i,_,rfl],Zu.mp hs;exact(sgo i).2,e0,Zd,List.length_range];omega
  .rw[ej];exact q _ _ #[jo.1,∅] (s1.trans (ad gl _))
def GV(H:Hp)(v:V):Prop:=∃(t:Pg) (wd:Wd),v=.ref t/\WhAt H t wd/\DOk wd
theorem GV.same(x:GV H v)(s:ħ):GV H' v:=by exists[t,wd,h1,h2,h3],x;exact#[t,wd,h1,h2.ts Ż,h3]
theorem EO(ns:Pn)(lo hi:Option Int):∃ms:Pn,ce (ns.map V.int) lo hi=ms.map V.int:=by refine#[(ns.drop (HT.sIx (ns.map V.int).length 0 lo)).take (HT.sIx (ns.map V.int).length (ns.map V.int).length hi-HT.sIx (ns.map V.int).length 0 lo),?_];unfold ce;rw[List.map_take,List.map_drop]
theorem GN(p:ŗ){i:á}(h0:0<=i)(h1:i<Ã):∃v n,atI xs i=some v/\NameIs H v ō:=by exists[v,e1,e2],AR h0 h1;exists[n,_,e3],ba p e2;exact#[v,n,e1,e3]
theorem M4(p:ŗ){i:á}(h0:0<=i)(h1:i<Ã+1):∃v u,atI (xs++[.non]) i=some v/\UpAt H v u:=by
 exists[v,e1,e2],AR (xs:=xs++[.non]) h0 (by rw[Zh];show i<((Ã+1:Nat):Int);omega);by_cases c:i.toNat<Ã
 .rw[List.getElem?_append_left c]at e2;exists[n,_,e3],ba p e2;exact#[v,some n,e1,e3]
 .rw[Yr ∅]at e2;have:i.toNat-Ã=0:=∅
  rw[this]at e2;cases e2;exact#[_,none,e1,rfl]
theorem Ke{i:á}(h:∀v∈xs,GV H v)(h0:0<=i)(h1:i<Ã):∃v,atI xs i=some v/\GV H v:=by exists[v,e1,e2],AR h0 h1;exact#[v,e1,h v (Z2 e2)]
def D9:Sp:=λvs H Q _=>∃(n number hands:á) (l:Pg) (xs:Pz) (ns:List Nm),vs=[.int n,.ref l,.int number,.int hands]/\H l=some (.lst xs)/\NmsAt H xs ns/\Ã<=100/\1<=number/\1<=hands/\0<=n/\∀v H',Same H H'->GV H' v->Q v H'
abbrev yA:Stmt:=top 49
abbrev JR:List Str:=["_law_n","_law_pool","_law_number","_law_hands","_law_word","_law_spot","_law_up","_law_here","_law_there","_law_truth","_law_some"]
theorem eW:FnScope JR ["_law_n","_law_pool","_law_number","_law_hands"] (aq yA):= ~~~0
theorem Iw(F:Fun K "_law_what" "_law_what" yA f fd)(Ox:↑Fn 1 "_law_text" ["_law_n"] Ar)(a8:í):↑FnOk CX0 2 f fd ["_law_n","_law_pool","_law_number","_law_hands"] D9:=by
 exists eW
 exists[n0,nr,hs,l,xs,ns,rfl,hl,hp,l1,n1,h1,h0,q],h;exists _,(b_c (aC (i:=4) ć Ì)
   (b_c (aC (i:=0) ć Æ)
   (b_c (aZ (aE bW ↑4 ah) (b_c (aZ (aE bW ↑2 ah) (b_1 (aG (aB š))) b_0)
   (b_1 (aG (aB (q_a (am dq (bS (q_a ar (q_a ar š))) Ì) (q_a (aF fN ah (aF dB Æ (aF wq ↑2 ah))) ai)))))) b_0)
   (b_c (aC (i:=5) ć (cG bK (aB (q_a (aF wq Ì ah) (q_a ő ai))) cM (cg (aF fN ah ő))))
   (b_c (aC (i:=6) ć (am dq (aF qd ↑1 (bS (q_a cz ai))) (aF dB Æ (aF fN Ù ah))))
   (b_c (aZ (t_w (BV (aE Fj ↑4 ah) (wI (aE (nF Ô) ↑1 ī)))) (b_1 (aG (aB (q_a ar (q_a ↑6 (q_a ↑5 (q_a (aO Ox ↑99 (q_a Æ ai)) ai))))))) b_0)
   (b_c (aC (i:=7) ć ē)
   (b_c (aC (i:=8) ć ē)
   (b_c (aC (i:=9) ć (lJ bW Ì ah))
   (b_c (aC (i:=10) ć (bS (q_a Ü (q_a Ü (q_a (aB (q_a ar (q_a ↑7 (q_a (aO Ox ↑99 Ê) ai)))) (q_a ñ ai))))))
   (b_c (aC (i:=10) ć (aF qd ↑10 (bS (q_a (aB (q_a ar (q_a ↑7 (q_a (am dq (bS (q_a cz (q_a (aF dB Æ ↑3) ai))) Ì) ai)))) (q_a ñ (q_a (aB (q_a ar (q_a ↑7 (q_a Ì (q_a ↑5 ai))))) ai))))))
   (b_c (aC (i:=10) ć (aF qd ↑10 (bS (q_a (aB (q_a ar (q_a ↑7 (q_a ↑8 ai)))) (q_a Ď (q_a Ď ai))))))
   (b_1 (aG (am dq ↑10 (aF wq ↑4 ah))))))))))))))))
 refine#[_,rfl,_,_,rfl,rfl,(by show(0:á)<15;decide),?_];refine#[_,rfl,_,_,rfl,rfl,#[⋯,⋯],?_];have w0:=Ya n0 (show(15:á)≠0 by decide);have w1:=Yg n0 (show(0:á)<15 by decide);have m0:0<=n0 / 15:=Int.ediv_nonneg h0 ⋯;dsimp only;generalize n0%15=wo at w0 w1 ⊢;generalize n0 / 15=n at m0 ⊢;refine#[_,rfl,rfl,_,rfl,E4 (λe14=>?_) (λn14=>?_)]
 .refine#[_,rfl,rfl,_,rfl,E4 Ŵ Ŵ]
  .exact#[sz rfl,λt gt=>q _ _ (ad gt _) #[t,.none,rfl,#[[],ac,rfl],trivial]]
  .have k0:=Ya n (show(3:á)≠0 by decide);have k1:=Yg n (show(0:á)<3 by decide);obtain⟨b,hb⟩:∃b:Bool,atI [V.str "off",.str "off",.str "on"] (n%3)=some (.str Ó):=by
    rcases(show n%3=0\/n%3=1\/n%3=2 by omega)with z|z|z
    .rw[z];exact#[false,at0]
    .rw[z];exact#[false,at1]
    .rw[z];exact#[true,at2]
   refine#[sz rfl,λl3 g3=>?_];refine#[_,rfl,_,_,rfl,rfl,(by show(0:á)<3;decide),l3,_,_,_,rfl,rfl,Pu ac,hb,?_];refine#[_,rfl,_,_,rfl,rfl,#[⋯,⋯],_,rfl,_,_,rfl,rfl,_,_,rfl,rfl,(by show(0:á)<nr-1;omega),_,_,rfl,rfl,sz rfl,λt gt=>?_];have up:upd (upd H l3 (.lst [V.str "off",.str "off",.str "on"])) t Ĝ t=some Ĝ:=ac;cases b with
   |false=>exact q _ _ ď #[t,.off Î,rfl,#[[.int Î],up,rfl],trivial]
   |true=>exact q _ _ ď #[t,.on Î,rfl,#[[.int Î],up,rfl],trivial]
 try dsimp only[jL]
 refine ax λR1 hR1=>?_;refine#[_,rfl,_,_,rfl,rfl,(by show(0:á)<7;decide),_,_,rfl,rfl,_,rfl,_,_,rfl,rfl,#[⋯,⋯],_,_,rfl,rfl,(by show(0:á)<5;decide),sz rfl,λts gts=>?_];refine#[_,rfl,_,_,rfl,rfl,#[⋯,⋯],_,_,rfl,rfl,ä,_,_,rfl,rfl,_,rfl,ts,_,rfl,ac,λsp H1 s1 e1=>hR1 _ _ ?_];exists[pl,epl],EO [n%7-3,n / 7%5] none (some (1+n / 35%2));have e1':H1 sp=some Ī:=by rw[<-epl];exact e1
 have S1:Same H H1:=(ad gts _).trans s1
 try dsimp only[jL]
 refine ax λR1 hR1=>?_;refine#[_,rfl,sz rfl,λpn gpn=>?_];have v1:=ad gpn (.lst [.non]);have S2:=S1.trans v1;refine#[l,pn,_,_,rfl,rfl,S2 _ _ hl,ac,dS (by show Ã+1<=1000;omega),λlc glc=>?_];have v2:=ad glc ù;have S3:=S2.trans v2;have u0:=Ya ė (show((Ã:á)+1)≠0 by omega);have u1:=Yg ė (show(0:á)<(Ã:á)+1 by omega);exists[uv,u,hu1,hu2],M4 (hp.ts (Ps S3)) u0 u1;refine#[_,rfl,_,_,rfl,rfl,#[⋯,⋯],_,rfl,l,_,rfl,.inl (Pu Ţ),_,_,rfl,rfl,_,_,rfl,rfl,(by show(0:á)<(Ã:á)+1;omega),lc,_,_,_,rfl,rfl,Pu ac,hu1,hR1 _ _ ?_];have e3:upd Ę lc ù sp=some Ī:=v2 _ _ (v1 _ _ e1');generalize upd Ę lc ù=H3 at S3 hu2 e3 ⊢;have plA:∀{H'},Same H3 H'->PlAt H' (.ref sp) pl:=λs=>#[sp,rfl,s _ _ e3]
 have put:∀{H4 H5:Hp} {t:Pg} {tx:Str},Same H3 H4->Same H4 H5->H5 t=none->tu tx->Q (.ref t) (upd H5 t ò):=fun{H4 H5 t tx} s4 s5 gt ok=>by have s6:=s4.trans (s5.trans (ad gt ò));exact q _ _ (S3.trans s6) #[t,.put u pl tx,rfl,#[[uv,.ref sp,.str tx],ac,uv,.ref sp,rfl,hu2.ts (Ps s6),plA s6],ok]
 by_cases cw:wo<4
 .refine#[_,rfl,_,_,rfl,rfl,_,rfl,?_];rw[decide_eq_true cw];refine bg (bg ?_);exact#[_,rfl,_,rfl,_,rfl,_,_,rfl,rfl,#[⋯,⋯],_,rfl,λtx H5 ok s5=>#[sz rfl,λt gt=>put Ő s5 gt ok]]
 refine#[_,rfl,_,_,rfl,rfl,_,rfl,?_];rw[decide_eq_false cw];refine aI #[_,rfl,sz rfl,λpe gpe=>?_];have vp:=ad gpe ú;have hl4:=vp _ _ Ţ;exists[d1,d2],Ff hl4 (hp.ts (Ps (S3.trans vp)));refine#[_,_,d1,J8 ac,d2,Kx,_,rfl,?_];cases xs with
 |nil =>cases hp;refine bg ?_;exact#[_,rfl,_,rfl,_,rfl,_,_,rfl,rfl,#[⋯,⋯],_,rfl,λtx H5 ok s5=>#[sz rfl,λt gt=>put vp s5 gt ok]]
 |cons x0 xr =>
 obtain⟨m0',mr,rfl⟩:∃m mr,ns=m::mr:=by
  cases hp with
  |cons _ _=>exact#[_,_,rfl]
 refine aI ?_;have S4:=S3.trans vp;have hu4:=hu2.ts (Ps vp);have e4:=vp _ _ e3;generalize upd H3 pe ú=H4 at S4 hl4 hu4 e4 ⊢;generalize hX:x0::xr=xs at *;have xl:0<Ã:=by rw[<-hX];exact Nat.succ_pos _
 have hp4:=hp.ts (Ps S4);have a0:=Ya (n / 70) (show(Ã:á)≠0 by omega);have a1:=Yg (n / 70) (show(0:á)<(Ã:á) by omega);have b0:=Ya ė (show(Ã:á)≠0 by omega);have b1:=Yg ė (show(0:á)<(Ã:á) by omega);exists[hv,hn,ha1,ha2],GN hp4 a0 a1;exists[tv,tn,hb1,hb2],GN hp4 b0 b1
 try dsimp only[jL]
 refine ax λR1 hR1=>?_;refine#[_,rfl,_,rfl,_,_,rfl,rfl,#[⋯,⋯],_,rfl,l,_,rfl,.inl (Pu hl4),_,_,rfl,rfl,ĉ,l,_,_,_,rfl,rfl,Pu hl4,ha1,hR1 _ _ ?_]
 try dsimp only[jL]
 refine ax λR1 hR1=>?_;refine#[_,rfl,_,rfl,_,_,rfl,rfl,#[⋯,⋯],_,rfl,l,_,rfl,.inl (Pu hl4),_,_,rfl,rfl,ĉ,l,_,_,_,rfl,rfl,Pu hl4,hb1,hR1 _ _ ?_]
 try dsimp only[jL]
 refine ax λR1 hR1=>?_;refine#[_,rfl,_,_,rfl,rfl,ä,rfl,hR1 _ _ ?_];generalize decide ((λi j=>V.int (i%j)) n 2=V.int 0)=tb;have nmA:∀{H'},Same H4 H'->NameIs H' hv (nk hn)/\NameIs H' tv (nk tn)/\UpAt H' uv u/\PlAt H' (.ref sp) pl:=λs=>#[ha2.same s,hb2.same s,hu4.ts Ż,sp,rfl,s _ _ e4]
 try dsimp only[jL]
 refine ax λR1 hR1=>?_;refine#[_,rfl,_,rfl,_,rfl,sz rfl,λt1 g1=>?_]
 ext g1 A1 y1 z1
 refine#[_,rfl,_,rfl,_,rfl,sz rfl,λt2 g2=>?_]
 ext g2 A2 y2 z2
 refine#[_,rfl,_,rfl,_,rfl,λtx A3 ok y3=>#[sz rfl,λt3 g3=>?_]]
 ext g3 A4 y4 z3
 refine#[_,rfl,_,rfl,sz rfl,λt4 g4=>?_]
 ext g4 A5 y5 z4
 refine#[sz rfl,λk1 gk1=>?_];have y6:=ad gk1 Í;have z5:upd A5 k1 Í k1=_:=ac;refine hR1 _ _ ?_;generalize upd A5 k1 Í=A6 at y6 z5 ⊢;have x6:=y5.trans y6;have x5:=y4.trans x6;have x3:=y3.trans x5;have x2:=y2.trans x3;have x1:=y1.trans x2;have G6:∀v∈[V.ref t1,.ref t2,.ref t3,.ref t4],GV A6 v:=λv hv'=>by
  exists[n1,n2,n3,n4],nmA x1;simp only[Zg,ZB,Z9]at hv';rcases hv' with rfl|rfl|rfl|rfl
  .exact#[t1,.move hn u pl,rfl,#[_,x2 _ _ z1,hv,uv,.ref sp,rfl,n1,n3,n4],trivial]
  .exact#[t2,.move hn u pl,rfl,#[_,x3 _ _ z2,hv,uv,.ref sp,rfl,n1,n3,n4],trivial]
  .exact#[t3,.write hn tx,rfl,#[_,x6 _ _ z3,hv,rfl,n1],ok]
  .exact#[t4,.mark hn tb,rfl,#[_,y6 _ _ z4,hv,rfl,n1],trivial]
 have T6:=S4.trans x1
 try dsimp only[jL]
 refine ax λR1 hR1=>?_;refine#[_,rfl,_,rfl,_,rfl,_,_,rfl,rfl,#[⋯,⋯],_,rfl,_,_,rfl,rfl,(by show(0:á)<hs;omega),sz rfl,λld gld=>?_]
 ext gld B1 y1 z1
 obtain⟨wh,hwh⟩:∃wh:Option Int,atI [V.non,.int ŵ] (n%2)=some (whV wh):=by
  have k0:=Ya n (show(2:á)≠0 by decide);have k1:=Yg n (show(0:á)<2 by decide);rcases(show n%2=0\/n%2=1 by omega)with z|z
  .rw[z];exact#[none,at0]
  .rw[z];exact#[some ŵ,at1]
 refine#[_,rfl,_,_,rfl,rfl,ä,ld,_,_,_,rfl,rfl,Pu z1,hwh,sz rfl,λt5 g5=>?_]
 ext g5 B2 y2 z2
 refine#[_,rfl,_,rfl,sz rfl,λt6 g6=>?_]
 ext g6 B3 y3 z3
 refine#[_,rfl,_,rfl,_,_,rfl,rfl,(by show(0:á)<4;decide),_,rfl,sz rfl,λt7 g7=>?_]
 ext g7 B4 y4 z4
 refine#[sz rfl,λk2 gk2=>?_]
 ext gk2 B5 y5 z6
 have x4:=y4.trans y5;have x3:=y3.trans x4;have x2:=y2.trans x3;have xb:=y1.trans x2;refine#[k1,k2,_,_,rfl,rfl,xb _ _ z5,z6,sz rfl,λk3 gk3=>?_];have y6:=ad gk3 Â;have z7:upd B5 k3 Â k3=_:=ac;refine hR1 _ _ ?_;generalize upd B5 k3 Â=B6 at y6 z7 ⊢;have G7:∀v∈[V.ref t1,.ref t2,.ref t3,.ref t4]++[.ref t5,.ref t6,.ref t7],GV B6 v:=λv hv'=>by
  rcases ZC.mp hv' with hv'|hv'
  .exact(G6 v hv').same Ğ
  exists[n1,n2,n3,n4],nmA (x1.trans Ğ);simp only[Zg,ZB,Z9]at hv';rcases hv' with rfl|rfl|rfl
  .exact#[t5,.due hn wh,rfl,#[_,y6 _ _ ţ,hv,rfl,n1],trivial]
  .exact#[t6,.fold hn tb,rfl,#[_,y6 _ _ (x4 _ _ z3),hv,rfl,n1],trivial]
  .exact#[t7,.part hn (n%4) pl,rfl,#[_,y6 _ _ (y5 _ _ z4),hv,.ref sp,rfl,n1,n4],Ya n (show(4:á)≠0 by decide)]
 have xc:=x1.trans Ğ;have T7:=S4.trans xc;refine#[_,rfl,_,rfl,_,rfl,sz rfl,λt8 g8=>?_]
 ext g8 C1 y1 z1
 refine#[_,rfl,sz rfl,λt9 g9=>?_]
 ext g9 C2 y2 z2
 refine#[_,rfl,sz rfl,λtA gA=>?_]
 ext gA C3 y3 z3
 refine#[sz rfl,λk4 gk4=>?_]
 ext gk4 C4 y4 z4
 have x3:=y3.trans y4;have x2:=y2.trans x3;have xd:=y1.trans x2;refine#[k3,k4,_,_,rfl,rfl,xd _ _ z7,z4,sz rfl,λk5 gk5=>?_]
 ext gk5 C5 y6 z8
 have G8:∀v∈([V.ref t1,.ref t2,.ref t3,.ref t4]++[.ref t5,.ref t6,.ref t7])++[.ref t8,.ref t9,.ref tA],GV C5 v:=λv hv'=>by
  rcases ZC.mp hv' with hv'|hv'
  .exact(G7 v hv').same ğ
  exists[n1,n2,n3,n4],nmA (xc.trans ğ);simp only[Zg,ZB,Z9]at hv';rcases hv' with rfl|rfl|rfl
  .exact#[t8,.join hn tn,rfl,#[_,y6 _ _ (x2 _ _ z1),hv,tv,rfl,n1,n2],trivial]
  .exact#[t9,.take hn,rfl,#[_,y6 _ _ ţ,hv,rfl,n1],trivial]
  .exact#[tA,.back hn,rfl,#[_,y6 _ _ (y4 _ _ z3),hv,rfl,n1],trivial]
 exists[rv,hr1,hr2],Ke (i:=wo-4) G8 ∅ (by show wo-4<10;omega);exact#[_,rfl,_,rfl,_,_,rfl,rfl,k5,_,_,_,rfl,rfl,Pu z8,hr1,q _ _ (T7.trans ğ) hr2]
end
mutual
#check#[(((clk cl5 hN).set hN (au (clk cl5 hN) hN+1)).map V.int),(.tup [.int (hN:Int),.int (au nc hN)]),(M.filter (bP gs)),(if au (clk cl oN) (0+(j:Int)).toNat>au (clk cl hN) (0+(j:Int)).toNat then au (clk cl oN) (0+(j:Int)).toNat else au (clk cl hN) (0+(j:Int)).toNat),(by simp[Sd.items]),hr.units,((ol.map (·.1)).Nodup),((Zq0.map λz=>nm3 z.1.2).Nodup),(.lst (aR L++[.ref q6])),(.tup [.int (hN:Int),.ref q5,.ref wa]),(upd H' pn (.lst (hJ M++[.ref q7]))),(au (clk cl5 hN) hN+1),(rs.map λr:bp=>r.2.1),(am ao ↑1 ah),(aS mvs (nk n) (.ref t)),(OvR ((ci Zq0).map Prod.snd) ov),(bo Å ↑0 ↑3),(.ref t5),(upd H7 as5[hN] (.lst À)),(.tup [uv0,pv,.str (bY it.tx (some a) none),.bl false,.non,.bl false]),(am dq ↑2 ↑8),(.inr (.inl rfl)),ol.length,0,(.lst (cm.map V.int)),(eQ (br ol (Dl Zq0))),(Pt h1),(clk cl h),(q6,hN,nc,wd),(Dfs Â (gC Â) out k),(.dT (aS kvs2 (nk m) Ñ)),(by rw[lc];omega),(.dK (gI [] wd4)),(iI (aw acc q.1 q.2) qs),(.dT (aS kvs (nk n) Ñ)),(.dT (aS mvs (nk n) Ñ)),(nm3 z.1.2),(List.replicate n (List.replicate n (0:Int))),(cg ah),(L.zip W),(.lst ks),(by rw[lc'];exact hNn),(q7,(hN:Int),au nc hN),(aJ ∅),(Ps s05),(cl.set h ((clk cl h).set h (au Û h+1))),(aE bW ↑2 ar),(.lst (as.map V.ref)),(.tup (nc.map V.int)),(Zu.mpr #[x,hx',rfl]),h.toNat,(wu _ _ nrB.1),(au cs k*48271+(k:Int)*(k:Int)*69621),((M.map (·.1)).Nodup),(Dfs M st out k),0,(.tup [.int (k:Int),.int (au cs k)]),(.str w),(List DI),(upd H mm (.dT Î)),(upd H pF (.dK [])),(by simp),(br ol D),(cl.set h c'),(q_a ↑1 ai),(upd HA p È),(by simp[hu]),(.lst pys),(Abv ol u l),(by rw[lO];omega),(bo Å ↑0 ↑1),(bo Å ↑0 ↑2),(Int),(wdR z.1.2.2.2 z.2),(H nb=some (.tup ((nk n).map kV))),dQ.nd,(q_a iE (q_a cz (q_a iE ai))),(M.Perm ol),(RnK L W n e),(Eqo e ol/\ol.map (·.1)=ic ç),(am dq Ô ↑8),(sJ wd ⋯ ⋯),(am ao ↑4 ah),z.symm,(some x.1),(Gen3 n cl (L.map Prod.snd)),((clk cl5 hN).set hN Ë),as.length,(w2.trans s3),(s4.trans s5),(upd H7 l è),(List.Sublist.map _ YI),(Nat),(bH wd=some it),(List (Nm×Nm)),itn.tx,itm.tx,(.lst []),(.lst À),(L++[Ü]),(hh n Ä),(Option Nm),(s05 _ _ hm),(T1 _ _ hmb),(by rw[lc];exact hNn),(PlayR ol n wd w so ol'),(z∈Zq0),l.length,it.tx,(mx Û (clk cl o) n),(by rw[e1];exact hl),(λz=>.inl (.inl z)),(clk cl hN),(clk cl oN),(iI acc qs),(tt _ _ k2),(Pg×D3),(some 1),(some a),(by rw[<-z,Z7];rfl),(by simp[Sd.news]),(cG bK ↑1 æ cM),it.up,(λ_=>rfl),(ck6.2.2.2 hN ha),(by rw[lg];omega),(∀b∈as,H b=none),(Ter ol),cl.length,(bP gs),(n',it),((0+(j:Ĉ)):Int),(.inr (.inr Õ)),(cG bK Ð æ cM),(Pt (T9 _ _ f2)),(Pt (T9 _ _ h1)),(look ol n=some it),0,tactic.hygienic,(hl y Zq),(λ_ _ _ _=>iM),(aF nG ah ↑1),(V.str wd.word),(qi nd t pe df),(br ol (Dl ç)),(CK H' cA n as cl),(upd H9 q5 ð),(wu _ _ ckB.1),(by rw[h];rfl),(gX.play g p2),(.type "list"),(itV uv pv it),(Str),(∀x∈M,x∈ol),(.ref p),(aT ⋯),(.ref t),(some 2),(Ps s08),(aU L),(q_a ↑0 ai),(w2.trans w3),(s05 _ _ hnb),(s05 _ _ hm1),(Same.refl _),(w2.trans s6),(As Nm),(MineAt H mm ol),(Dd×bp),(aw ol n it),(s24 _ _ x2),(s08 _ _ hm),(w6 _ _ hm9),iH.nd,(eQ þ),(au Û h+1),(q_a ar ai),(wu _ _ cB),(gX.skip g),(s1 _ _ hm),(q_a Í ai),(List D3),(NR H' n pn M),(List Nm),g.cn,as5.length,(xH u3 Ā),(λhc=>?_),(ad f7 Á),(λe3=>?_),(cV nd hi),(λeu=>?_)]
structure Gen3(n:Ĝ)(cl:List Pn)(L:ŵ):Prop where
 cn:ŀ=n
 cc:∀g,g<n->(clk cl g).length=n
 nn:∀g,g<n->0<=au (clk cl g) g
 len:∀d∈L,d.2.1.length=n/\d.1<n
 low:∀d∈L,au d.2.1 d.1<=au (clk cl d.1) d.1
 uni:L.Pairwise λd e=>(toD d).1≠(toD e).1
 ok:∀d∈L,DOk d.2.2
theorem Gen3.start(n:Ĝ):Gen3 n å []:=#[Y5 ..,λg hg=>by rw[tE hg,Y5],λg hg=>by rw[tE hg,EH];exact Int.le_refl _,λd hd=>absurd hd ý,λd hd=>absurd hd ý,.nil,λd hd=>absurd hd ý]
set_option Ŋ true in theorem Gen3.met{n:Ĝ}(g:Gen3 n cl L){h o:Ĝ}(hh:h<n):Gen3 n (cl.set h ĭ) L:=by
 have hc:h<ŀ:=by rw[Ÿ];exact hh
 have up:au Û h<=au ĭ h:=by rw[Io hh];split<;>omega
 refine#[by rw[Yw];exact Ÿ,λq hq=>?_,λq hq=>?_,g.len,λd hd=>?_,g.uni,g.ok]
 .rw[gh hc];split
  .exact Dc
  .exact g.cc q hq
 .rw[gh hc];have:=g.nn q hq;split
  .rename_i e;subst e;omega
  .exact this
 .rw[gh hc];have:=g.low d hd;split
  .rename_i e;rw[e]at this ⊢;omega
  .exact this
set_option Ŋ true in theorem Gen3.add{n:Ĝ}(g:Gen3 n cl L){h:Ĝ}(hh:h<n):Gen3 n í L/\∀wd,DOk wd->Gen3 n í (L++[(h,(clk cl h).set h ů,wd)]):=by
 have hc:h<ŀ:=by rw[Ÿ];exact hh
 have hl:h<(clk cl h).length:=by rw[g.cc h hh];exact hh
 generalize hx:(clk cl h).set h ů=c';have cs:au c' h=au Û h+1:=by rw[<-hx,xp hl,Pb rfl]
 have lc:c'.length=n:=by rw[<-hx,Yw,g.cc h hh]
 have b1:∀q,q<n->(clk ÿ q).length=n:=λq hq=>by
  rw[gh hc];split
  .exact lc
  .exact g.cc q hq
 have b2:∀q,q<n->0<=au (clk ÿ q) q:=λq hq=>by
  rw[gh hc];have:=g.nn q hq;split
  .rename_i e;subst e;omega
  .exact this
 have b3:∀d∈L,au d.2.1 d.1<=au (clk ÿ d.1) d.1:=λd hd=>by
  rw[gh hc];have:=g.low d hd;split
  .rename_i e;rw[e]at this ⊢;omega
  .exact this
 refine#[#[by rw[Yw];exact Ÿ,b1,b2,g.len,b3,g.uni,g.ok],λwd ok=>#[by rw[Yw];exact Ÿ,b1,b2,λd hd=>?_,λd hd=>?_,?_,λd hd=>?_]]
 .rcases ZC.mp hd with hd|hd
  .exact g.len d hd
  .rw[Zi.mp hd];exact#[lc,hh]
 .rcases ZC.mp hd with hd|hd
  .exact b3 d hd
  .rw[Zi.mp hd];show au c' h<=au (clk ÿ h) h;rw[gh hc,Pb rfl];exact Int.le_refl _
 .refine List.pairwise_append.mpr #[g.uni,List.pairwise_singleton _ _,λd hd e he z=>?_];rw[Zi.mp he]at z;have z1:((d.1:Int))=(h:Ĉ):=ZO Prod.fst z;have z2:au d.2.1 d.1=au c' h:=ZO Prod.snd z;have e1:d.1=h:=∅
  have:=g.low d hd;rw[e1]at this z2;omega
 .rcases ZC.mp hd with hd|hd
  .exact g.ok d hd
  .rw[Zi.mp hd];exact ok
abbrev NT:=List (Pg×Nm)
def hJ(M:NT):Pz:=(M.map Prod.fst).map V.ref
theorem lO(M:NT):(hJ M).length=M.length:=by unfold hJ;rw[Zd,Zd]
def NR(H:Hp)(n:Ĝ)(l:Pg)(M:NT):Prop:=H l=some (.lst (hJ M))/\∀x∈M,H x.1=some (.tup [.int x.2.1,.int x.2.2])/\0<=x.2.1/\x.2.1<n
theorem NR.same{n:Ĝ}(x:NR H n l M)(s:Same H H'):NR H' n l M:=#[s _ _ x.1,λy hy=>#[s _ _ (x.2 y hy).1,(x.2 y hy).2]]
inductive DInv(n:Ĝ)(H:Hp)(l:Pg)(h:Ĉ)(cA p pn:Pg)(k:Ĝ)(Z:St)(H':Hp):Prop
 |mk (S:Same H H') (o5 o6 o7 o8 o9 o10 o11:Option V) (e:Z=[some (.ref l),some (.int h),some (.ref cA),some Ś,some (.ref pn),o5,o6,o7,o8,o9,o10,o11]) (as:List Pg) (cl:List Pn) (L:List Ĵ) (M:NT) (ck:ő) (lr:LR3 H' p L) (nr:Ŷ) (gen:ĕ) (lL:L.length=k) (lM:M.length<=k) (fas:ľ):DInv n H l h cA p pn k Z H'
inductive DJn(n:Ĝ)(H:Hp)(cA p pn:Pg)(L:List Ĵ)(M:NT)(σ0 Z:St)(H':Hp):Prop
 |mk (S:Same H H') (e:Z=σ0) (as:List Pg) (cl:List Pn) (ck:ő) (lr:LR3 H' p L) (nr:Ŷ) (gen:ĕ) (fas:ľ):DJn n H cA p pn L M σ0 Z H'
def Aq:Sp:=λvs H Q _=>∃(l:Pg) (cs:Pn) (h:Ĉ),vs=[.ref l,.int h]/\H l=some (.lst (cs.map V.int))/\cs.length<=62/\1<=h/\h<=8/\∀p H' L,Same H H'->H p=none->LR3 H' p L->L.length<=62->(∀x∈L,x.2.1<ò/\x.2.2.1.length=ò/\DOk x.2.2.2)->(L.map λx=>toD x.2).Pairwise (λd e=>d.1≠e.1)->Q Ś H'
abbrev ux:Stmt:=top 51
abbrev Hj:List Str:=["_law_cells","_law_hands","_law_clocks","_law_deeds_here","_law_names","_law_k","_law_cell","_law_mixed","_law_hand","_law_other","_law_pool","_law_what_here"]
theorem dQ:FnScope Hj ["_law_cells","_law_hands"] (aq ux):= ~~~0
theorem Fs(F:Fun K "_law_deeds" "_law_deeds" ux f fd)(OJ:↑Fn 2 "_law_what" ["_law_n","_law_pool","_law_number","_law_hands"] D9)(OC:↑Fn 1 "_law_order" ["_law_deed"] spOrder)(j5:mg "enumerate" = none)(u3:mg "range" = none)(Og:mg "max" = none)(OD:mg "tuple" = none)(j3:mg "sorted" = none):↑FnOk CX0 4 f fd ["_law_cells","_law_hands"] Aq:=by
 exists dQ
 exists[l,cs,h,rfl,hl,hlen,h1,h8,q],h;exists _,(b_c (aC (i:=2) ċ (dH (own:=["_law_k"]) (#[rfl,⋯,⋯,rfl,#[rfl,rfl,trivial]]:CompOk _ _ [1] ["_law_hands"]) rfl ź (λ_ _ _ _=>aD (i:=0) (show (["_law_k","_law_hands"]:List Str).Nodup by decide)) ś Ō (λ_ _ _ _=>(aF Mp (bS (q_a ah ai)) ↑1))))
   (b_c (aC (i:=3) ċ (bS ai))
   (b_c (aC (i:=4) ċ (bS ai))
   (b_c (eG Z0 rfl (CL j5 Š) (iZ rfl (bE (aD (i:=5) ċ) (bE (aD (i:=6) ċ) fe))) (b_c (aC (i:=7) ċ (aF dB (aF fN (aF nG ↑6 ah) (aF nG (aF nG ↑5 ↑5) ah)) ah))
   (b_c (aC (i:=8) ċ (aF dB ↑7 ↑1))
   (b_c (aC (i:=9) ċ (aF dB (aF fu ↑7 ↑1) ō))
   (b_c (mI (aZ (aE Fj ↑9 ↑1) (b_1 (BF (dH (own:=["_law_j"]) (#[rfl,⋯,⋯,rfl,#[rfl,rfl,#[rfl,rfl,#[rfl,rfl,trivial]]]]:CompOk _ _ [2,8,9] ["_law_clocks","_law_hand","_law_other"]) rfl ź (λ_ _ _ _=>aD (i:=0) (show (["_law_j","_law_clocks","_law_hand","_law_other"]:List Str).Nodup by decide)) ś Ō (λ_ _ _ _=>(q_B (Gz rfl) Og xi (q_a (am (jU (K:=K) rfl) (am (jU (K:=K) rfl) ↑1 ↑2) ↑0) (q_a (am (jU (K:=K) rfl) (am (jU (K:=K) rfl) ↑1 ↑3) ↑0) ai))))) (GD ↑2 ↑8 G0))) b_0))
   (b_c (pA (j:=10) ċ (own:=["_law_name"]) (#[rfl,⋯,⋯,rfl,#[rfl,rfl,#[rfl,rfl,trivial]]]:CompOk _ _ [2,8] ["_law_clocks","_law_hand"]) rfl (bJ ↑4) (λ_ _ _ _=>aD (i:=0) (show (["_law_name","_law_clocks","_law_hand"]:List Str).Nodup by decide)) ś (λ_ _ _ _=>(oB (aE Nw (am (iJ (K:=K) rfl) ↑0 ah) (am (jU (K:=K) rfl) (am (jU (K:=K) rfl) ↑1 ↑2) (am (iJ (K:=K) rfl) ↑0 ah))))) (λ_ _ _ _=>↑0))
   (b_c (BF (aF fN Đ ah) (GD Ô ↑8 G0))
   (b_c (aC (i:=11) ċ (aO OJ ↑99 (q_a (aF fu ↑7 (aF nG ō ↑1)) (q_a ↑10 (q_a Đ Ā)))))
   (b_c (bh (eT ↑3 (aB (q_a ↑8 (q_a (oW L7 OD AT (q_a Ô ai)) (q_a ↑11 ai))))))
   (b_1 (aZ (t_w (BV (aE (jd (K:=K) rfl) (am ao ↑11 ah) (aB (q_a ar Ű))) (wI (aE bW (aF dB ↑5 ah) ah)))) (b_1 (bh (eT ↑4 (aB (q_a ↑8 (q_a Đ ai)))))) b_0)))))))))))
   (b_1 (aG (FQ rfl j3 OC ↑99 (q_a ↑3 ai))))))))
 obtain⟨n,hn⟩:∃n:Nat,n=ò:=#[_,rfl]
 have hn':(n:Ĉ)=h:=∅
 rw[<-hn]at q;have n1:1<=n:=∅
 have n8:n<=8:=∅
 refine#[_,rfl,_,rfl,∅,∅,?_];refine xt (N:=n) (λi ys H'=>Same H H'/\∃as:List Pg,ys=as.map V.ref/\ė=i/\as.Nodup/\∀b∈as,H b=none/\H' b=some (.lst ((List.replicate n (0:Ĉ)).map V.int))) ∅ (λi ys H' ⟨_,as,e,la,_⟩=>by rw[e,Zd,la]) #[Same.refl H,[],rfl,rfl,.nil,λb hb=>absurd hb ý] (λi ys H' hi _=>?_) (λys H' _=>?_) (λi ys H1 x H2 hi ⟨sm,as,e,la,nd,ha⟩ y A kA=>?_) (λys cA H1 ⟨sm,as,e,la,nd,ha⟩ gA=>?_)
 .show i<ò;omega
 .show ò<=n;omega
 .exists[rfl,rfl],y;refine#[sz rfl,λpz gz=>#[_,rfl,pz,h,_,rfl,rfl,ac,∅,∅,?_,λpr gr=>kA _ _ ?_]]
  .exact dS (by rw[Yz];omega)
  .have w1:=ad gz (.lst [V.int 0]);have w2:=w1.trans (ad gr (.lst (List.replicate ò [V.int 0]).flatten));have fr:H pr=none:=(sm.trans w1).free gr;refine#[sm.trans w2,as++[pr],by rw[e,ZA];rfl,by rw[Zh,la];rfl,?_,λb hb=>?_]
   .refine List.nodup_append.mpr #[nd,by simp,λb hb c hc=>?_];rw[Zi.mp hc];intro z;have:=w1 _ _ (ha b hb).2;rw[z,gr]at this;cases this
   .rcases ZC.mp hb with hb|hb
    .exact#[(ha b hb).1,w2 _ _ (ha b hb).2]
    .rw[Zi.mp hb];refine#[fr,?_];rw[ac,<-hn,yo]
 .subst e;have w1:=ad gA ï;have fA:H cA=none:=sm.free gA;have ck:CK (upd H1 cA ï) cA n as å:=#[ac,la,nd,λg hg=>by rw[tE ∅];exact w1 _ _ (ha _ (ZL hg)).2]
  have S1:=sm.trans w1;have fas:∀b∈as,H b=none:=λb hb=>(ha b hb).1;generalize upd H1 cA ï=H2 at ck S1 ⊢;refine#[sz rfl,λp gp=>?_];have w2:=ad gp ġ;have fp:H p=none:=S1.free gp;have ncp:cA≠p:=λz=>by have:=ck.1;rw[z,gp]at this;cases this
  refine#[sz rfl,λpn gpn=>?_];have w3:=ad gpn ġ;have fpn:H pn=none:=(S1.trans w2).free gpn;have ncn:cA≠pn:=λz=>by have:=w2 _ _ ck.1;rw[z,gpn]at this;cases this
  have npn:p≠pn:=λz=>by have:upd H2 p ġ p=some ġ:=ac;rw[z]at this gpn;rw[gpn]at this;cases this
  refine#[_,rfl,l,_,rfl,w3 _ _ (w2 _ _ (S1 _ _ hl)),?_];refine xz (i:=5) (j:=6) (DInv n H l h cA p pn)
   #[S1.trans š,none,none,none,none,none,none,none,rfl,as,_,[],[],ck.same š,#[w3 _ _ ac,λx hx=>absurd hx ý],#[ac,λx hx=>absurd hx ý],Gen3.start n,rfl,Ze _,fas] (λi Z H' _ z=>by exists[sm,_],z;exact Pu (sm _ _ hl)) (λk x Z H3 hx z T hT=>?_) (λZ H3 z=>?_)
  .exists[S3,o5,o6,o7,o8,o9,o10,o11,rfl,as,cl,L,M,ck,lr,nr,gen,lL,lM,fas],z;exists[rfl,hk],E2 hx;have sT:=ad hT ø;refine ax λR1 hR1=>?_;refine#[_,rfl,_,_,rfl,rfl,.inr #[⋯,⋯],_,rfl,_,rfl,_,_,rfl,rfl,.inl #[∅,∅],_,_,rfl,rfl,.inr #[⋯,⋯],_,_,rfl,rfl,_,_,rfl,rfl,(by show(0:Ĉ)<2147483647;decide),hR1 _ _ ?_];have z0:=Ya ô (show(2147483647:Ĉ)≠0 by decide)
   try dsimp only
   generalize ô%2147483647=mz at z0 ⊢;refine ax λR1 hR1=>?_;refine#[_,rfl,_,rfl,_,_,rfl,rfl,(by show(0:Ĉ)<h;omega),hR1 _ _ ?_];have d0:=Ya mz (show h≠0 by omega);have d1:=Yg mz (show(0:Ĉ)<h by omega)
   try dsimp only
   generalize mz%h=hd at d0 d1 ⊢;obtain⟨hN,rfl⟩:∃hN:Nat,hd=(hN:Ĉ):=#[hd.toNat,∅]
   have hNn:hN<n:=∅
   refine ax λR1 hR1=>?_;refine#[_,rfl,_,rfl,_,_,rfl,rfl,#[∅,∅],_,rfl,_,_,rfl,rfl,.inl #[⋯,⋯],_,_,rfl,rfl,(by show(0:Ĉ)<2*h;omega),hR1 _ _ ?_];have b0:=Ya (mz / h) (show 2*h≠0 by omega)
   try dsimp only
   generalize mz / h%(2*h)=ot at b0 ⊢;have S4:=S3.trans sT;have ck4:=ck.same sT;have lr4:=lr.same sT;have nr4:=nr.same sT;generalize upd H3 T ø=H4 at S4 ck4 lr4 nr4 ⊢;refine#[DJn n H cA p pn L M [some (.ref l),some (.int h),some (.ref cA),some Ś,some (.ref pn),some (.int (k:Ĉ)),some (.int (au cs k)),some (.int mz),some (.int (hN:Ĉ)),some (.int ot),o10,o11],?_,?_]
   .refine#[_,rfl,_,rfl,_,_,rfl,rfl,_,rfl,kf Ż λhc=>?_]
    .obtain⟨oN,rfl⟩:∃oN:Nat,ot=(oN:Ĉ):=#[ot.toNat,∅]
     have oNn:oN<n:=∅
     have ha:hN<ė:=by rw[ck4.2.1];exact hNn
     have oa:oN<ė:=by rw[ck4.2.1];exact oNn
     refine#[_,rfl,_,rfl,∅,∅,rF (N:=ò) (lo:=0) (λj=>.int Ã) ∅ (λj H6 hj s6 R kR=>?_) (λp1 H6 s6 g6=>?_)]
     .have ck6:=ck4.same s6;have l1:Ń<((clk cl hN).length:Int):=by rw[gen.cc hN hNn];omega
      have l2:Ń<((clk cl oN).length:Int):=by rw[gen.cc oN oNn];omega
      exact#[_,rfl,_,rfl,cA,_,_,_,rfl,rfl,Pu ck6.1,jF ha,_,rfl,as[hN],_,_,_,rfl,rfl,Pu ļ,iK ∅ l1,_,rfl,_,rfl,cA,_,_,_,rfl,rfl,Pu ck6.1,jF oa,_,rfl,as[oN],_,_,_,rfl,rfl,Pu (ck6.2.2.2 oN oa),iK ∅ l2,_,_,rfl,kR H6 (Same.refl H6)]
     .have em:((List.range ò).map fun(j:Nat)=>V.int Ã)=(mx İ ı n).map V.int:=by unfold mx;rw[Z7,<-hn];apply List.map_congr_left;intro j _;show V.int _=V.int _;rw[show(0+(j:Ĉ)).toNat=j by omega]
      rw[em];have gm:=gen.met (o:=oN) hNn;have lm:(mx İ ı n).length=n:=Dc;generalize mx İ ı n=cm at gm lm ⊢;have w6:=s6.trans (ad g6 Ø);have ck7:=ck4.same w6;have lr7:=lr4.same w6;have nr7:=nr4.same w6;have S7:=S4.trans w6;have e7:upd H6 p1 Ø p1=some Ø:=ac;have fp1:H p1=none:=(S4.trans s6).free g6;have np1:p1∉as:=λhm=>by exists[i,hi,rfl],List.mem_iff_getElem.mp hm;have:=s6 _ _ (ck4.2.2.2 i hi);rw[g6]at this;cases this
      generalize upd H6 p1 Ø=H7 at ck7 lr7 nr7 S7 e7 ⊢;have las:ė=n:=ck4.2.1;have tA:TS H7 (upd H7 cA (.lst ((as.map V.ref).set hN (.ref p1)))):=jp λzs e'=>by rw[ck7.1]at e';cases e'
      refine#[_,rfl,_,rfl,cA,_,_,hN,rfl,rfl,ck7.1,?_,cC S7 fA,rfl,as.set hN p1,cl.set hN cm,#[?_,?_,Kw ck7.2.2.1 np1,λg hg=>?_],#[?_,λx hx=>?_],#[?_,λx hx=>?_],gm,λb hb=>?_]
      .unfold ixN;rw[Zd,Pb ∅,Pb ∅];rfl
      .rw[ac,List.map_set]
      .rw[Yw];exact las
      .rw[Yw]at hg;rw[List.getElem_set,gh (by rw[gen.cn];exact hNn)];by_cases c:hN=g
       .rw[Pb c,Pb c.symm,af (kj e7 ck7.1 (λz=>fQ ∅ ē))];exact e7
       .rw[Pa c,Pa (λz=>c ē),af (kj (ck7.2.2.2 g hg) ck7.1 (λz=>fQ (by rw[gen.cc g ∅];omega) ē))];exact ck7.2.2.2 g hg
      .rw[af ncp.symm];exact lr7.1
      .exact(lr7.2 x hx).ts tA
      .rw[af ncn.symm];exact nr7.1
      .exact#[tA _ _ (nr7.2 x hx).1,(nr7.2 x hx).2]
      .rcases List.mem_or_eq_of_mem_set hb with hb|rfl
       .exact fas b hb
       .exact fp1
    .exact#[S4,rfl,as,cl,ck4,lr4,nr4,gen,fas]
   .rintro σ' H5 ⟨S5,rfl,as5,cl5,ck5,lr5,nr5,gen5,fas5⟩;have ha:hN<Ź:=by rw[ck5.2.1];exact hNn
    dsimp only;refine ax λR1 hR1=>?_;refine#[_,rfl,pn,rfl,#[_,Pu nr5.1],?_];refine bV (xs:=hJ M) (λi ys H'=>Same H5 H'/\ys.length<=i/\∃ms,NmsAt H' ys ms) ą (λ_ _ _ z=>z.2.1) #[Same.refl _,Ze _,[],.nil] (λi ys H' z=>Pu (z.1 _ _ nr5.1)) ?_ ?_
    .rintro i ys H' v hv ⟨sm,ly,ms,pm⟩ Y hY;obtain⟨nm,hnm,rfl⟩:∃x∈M,v=.ref x.1:=by unfold hJ at hv;rw[Z7]at hv;exists[y,hy,e],Zu.mp (Z2 hv);exact#[y,hy,e.symm]
     exists[x1,x2,x3],nr5.2 nm hnm;have x1':=sm _ _ x1;have ck6:=ck5.same sm;have lc:=gen5.cc hN hNn;refine#[_,rfl,nm.1,_,_,_,rfl,rfl,Pt x1',at1,_,rfl,_,rfl,cA,_,_,_,rfl,rfl,Pu ck6.1,jF ha,_,rfl,nm.1,_,_,_,rfl,rfl,Pt x1',at0,as5[hN],_,_,_,rfl,rfl,Pu ļ,iK x2 ß,_,_,rfl,rfl,_,rfl,kf Ż λhc=>?_]
     .exact#[_,rfl,hY _ _ #[sm,by rw[Zh];exact ZT ly,ms++[nm.2],Ys pm #[nm.1,rfl,x1']]]
     .exact hY _ _ #[sm,∅,ms,pm]
    rintro pys pp H6 ⟨sm6,ly6,ms,pm⟩ gpp;rw[lO]at ly6;have wpp:=ad gpp ă;have epp:upd H6 pp ă pp=some ă:=ac;have pm6:=pm.ts (Ps wpp);have Sx:=sm6.trans wpp;have S6:=S5.trans Sx;have ck6:=ck5.same Sx;have lr6:=lr5.same Sx;have nr6:=nr5.same Sx;have fpp:H pp=none:=(S5.trans sm6).free gpp;have npp:pp∉as5:=λhm=>by exists[i,hi,rfl],List.mem_iff_getElem.mp hm;have:=sm6 _ _ (ck5.2.2.2 i hi);rw[gpp]at this;cases this
    refine hR1 _ _ ?_;generalize upd H6 pp ă=H7 at epp pm6 S6 ck6 lr6 nr6 ⊢;have cN:=ck6.2.2.2 hN ha;have lc:=gen5.cc hN hNn;have nn:=gen5.nn hN hNn;have fa:=fas5 _ (ZL ha);refine ax λR1 hR1=>?_;refine#[_,rfl,_,rfl,cA,_,_,_,rfl,rfl,Pu ck6.1,jF ha,_,rfl,as5[hN],_,_,_,rfl,rfl,Pu cN,iO Ĩ,_,_,rfl,rfl,_,rfl,_,rfl,cA,_,_,_,rfl,rfl,Pu ck6.1,jF ha,_,rfl,as5[hN],_,_,hN,rfl,rfl,cN,?_,hR1 _ _ ?_]
    .unfold ixN;rw[Zd,lc,Pb ∅,Pb ∅];rfl
    have ec:((clk cl5 hN).map V.int).set hN (.int Ë)=((clk cl5 hN).set hN Ë).map V.int:=by rw[List.map_set]
    rw[ec];have npa:p≠as5[hN]:=kj lr6.1 cN (by unfold aR;exact λz=>fQ (as:=L.map Prod.fst) ß ķ);have nna:pn≠as5[hN]:=kj nr6.1 cN (by unfold hJ;exact fQ ß);have nca:cA≠as5[hN]:=kj ck6.1 cN (fQ ß);have nppa:pp≠as5[hN]:=λz=>npp (z▸ZL ha);have S7:=cC (o:=.lst À) S6 fa;have t7:TS H7 Ò:=jp λzs e'=>by rw[cN]at e';cases e'
    have lr7:LR3 Ò p L:=#[by rw[af npa];exact lr6.1,λx hx=>(lr6.2 x hx).ts t7]
    have nr7:NR Ò n pn M:=#[by rw[af nna];exact nr6.1,λx hx=>#[t7 _ _ (nr6.2 x hx).1,(nr6.2 x hx).2]]
    have epp7:upd H7 as5[hN] Ģ pp=some ă:=by rw[af nppa];exact epp
    have pm7:=pm6.ts t7;have ck7:CK Ò cA n as5 (cl5.set hN Ė):=by
     refine#[by rw[af nca];exact ck6.1,ck6.2.1,ck6.2.2.1,λg hg=>?_];rw[gh (by rw[gen5.cn];exact hNn)];by_cases c:g=hN
     .subst c;rw[Pb rfl,ac]
     .rw[Pa c,af]
      .exact ck6.2.2.2 g hg
      .have nd:=ck6.2.2.1;rw[List.nodup_iff_pairwise_ne,List.pairwise_iff_getElem]at nd;rcases YB g hN with c1|c1
       .exact nd g hN hg ha c1
       .exact(nd hN g ha hg ∅).symm
    exists[_,ga],gen5.add hNn;have lc':((clk cl5 hN).set hN Ë).length=n:=by rw[Yw,lc]
    have cv':au Ė hN=au (clk cl5 hN) hN+1:=by rw[xp Ĩ,Pb rfl]
    have c7:upd H7 as5[hN] Ģ as5[hN]=some Ģ:=ac;generalize upd H7 as5[hN] Ģ=H8 at S7 lr7 nr7 ck7 c7 epp7 pm7 ⊢;generalize(clk cl5 hN).set hN Ë=nc at ck7 ga lc' c7 cv';generalize cl5.set hN nc=cl6 at ck7 ga;refine ax λR1 hR1=>?_;refine#[_,rfl,_,rfl,_,_,rfl,rfl,.inl #[⋯,⋯],_,rfl,_,_,rfl,rfl,.inl #[∅,∅],_,_,rfl,rfl,#[?_,?_],_,rfl,_,rfl,_,rfl,cA,_,_,_,rfl,rfl,Pu ck7.1,jF ha,_,rfl,as5[hN],_,_,_,rfl,rfl,Pu c7,iO é,_,rfl,?_]
    .show(0:Ĉ)<2*h*h;exact Int.mul_pos ∅ ∅
    .show 2*h*h<1073741824;have:2*h*h<=16*8:=Int.mul_le_mul ∅ h8 ∅ ∅;omega
    refine#[_,_,_,pp,pys,ms,rfl,epp7,pm7,∅,by rw[cv'];omega,∅,Int.ediv_nonneg z0 (Int.le_of_lt (Int.mul_pos ∅ ∅)),λwv H9 s9 gv=>hR1 _ _ ?_];have S9:=S7.trans s9;have lr9:=lr7.same s9;have nr9:=nr7.same s9;have ck9:=ck7.same s9;have c9:=s9 _ _ c7;exists[wa,wd,rfl,hwh,wok],gv;refine ax λR1 hR1=>?_;refine#[_,rfl,.inl #[rfl,_,Pu lr9.1],_,rfl,_,rfl,_,rfl,cA,_,_,_,rfl,rfl,Pu ck9.1,jF ha,as5[hN],_,rfl,.inl #[Pu c9,λq5 f5=>?_]];have w5:=ad f5 ð;refine#[_,rfl,sz rfl,λq6 f6=>?_];have w6:=w5.trans (ad f6 É);have lrA:=lr9.same w6;have nrA:=nr9.same w6;have ckA:=ck9.same w6;have cA9:=w6 _ _ c9;have SA:=S9.trans w6;have hwA:=hwh.ts (Ps w6);have dd:DA (upd Œ q6 É) q6 (hN,nc,wd):=#[q5,wa,ac,ad f6 É _ _ ac,hwA,by show hN<nc.length;omega,by show nc.length<=8;omega]
    generalize upd Œ q6 É=HA at lrA nrA ckA SA dd hwA cA9 ⊢;refine#[p,_,_,rfl,rfl,lrA.1,aJ (by rw[aY];omega),hR1 _ _ ?_];have tA:TS HA ā:=jp λzs e'=>by rw[lrA.1]at e';cases e'
    have SB:=cC (o:=.lst (aR L++[.ref q6])) SA fp;have npas:∀(g:Ĝ) (hg:g<Ź),as5[g]≠p:=λg hg z=>by
     have hgn:g<n:=by rw[<-ckA.2.1];exact hg
     have lg:(clk cl6 g).length=n:=(ga wd wok).cc g hgn;exact kj lrA.1 (ckA.2.2.2 g hg) (by unfold aR;exact λz=>fQ (as:=L.map Prod.fst) Ľ ķ) ē
    have ckB:CK ā cA n as5 cl6:=#[by rw[af ncp];exact ckA.1,ckA.2.1,ckA.2.2.1,λg hg=>by rw[af (npas g hg)];exact ckA.2.2.2 g hg]
    have lrB:LR3 ā p ģ:=by
     refine#[?_,λx hx=>?_]
     .rw[ac];unfold aR;rw[ZA];rfl
     .rcases ZC.mp hx with hx|hx
      .exact(lrA.2 x hx).ts tA
      .rw[Zi.mp hx];exact dd.ts tA
    have nrB:NR ā n pn M:=#[by rw[af npn.symm];exact nrA.1,λx hx=>#[tA _ _ (nrA.2 x hx).1,(nrA.2 x hx).2]]
    have hwB:=hwA.ts tA;have cB:=(by rw[af (npas hN ha)];exact cA9:upd HA p È as5[hN]=some (.lst (nc.map V.int)))
    have gB:Gen3 n cl6 ((L++[Ü]).map Prod.snd):=by rw[ZA];exact ga wd wok
    generalize upd HA p È=HB at SB ckB lrB nrB hwB cB ⊢;have fin:∀{H':Hp},Same HB H'->Same H H'/\CK H' cA n as5 cl6/\LR3 H' p ģ/\NR H' n pn M:=λs=>#[SB.trans s,ckB.same s,lrB.same s,nrB.same s]
    have lLn:(L++[Ü]).length=k+1:=by rw[Zh,lL];rfl
    exists[rw',hrw,hrs],id hwB;have nrX:∀{H':Hp} {q7:Pg},CK H' cA n as5 cl6->LR3 H' p ģ->NR H' n pn M->H' q7=some Á->CK Ê cA n as5 cl6/\LR3 Ê p ģ/\NR Ê n pn (M++[ê]):=fun{H' q7} f2 f3 f4 e7=>by
     have tN:TS H' Ê:=jp λzs e'=>by rw[f4.1]at e';cases e'
     refine#[#[by rw[af ncn];exact f2.1,f2.2.1,f2.2.2.1,λg hg=>?_],#[by rw[af npn];exact f3.1,λx hx=>(f3.2 x hx).ts tN],?_,λx hx=>?_]
     .have hgn:g<n:=by rw[<-f2.2.1];exact hg
      have lg:(clk cl6 g).length=n:=(ga wd wok).cc g hgn;rw[af λz=>kj f4.1 (f2.2.2.2 g hg) (by unfold hJ;exact fQ Ľ) ē];exact f2.2.2.2 g hg
     .rw[ac];unfold hJ;rw[ZA,ZA];rfl
     .rcases ZC.mp hx with hx|hx
      .exact#[tN _ _ (f4.2 x hx).1,(f4.2 x hx).2]
      .rw[Zi.mp hx];exact#[tN _ _ e7,by show(0:Ĉ)<=(hN:Ĉ);omega,by show(hN:Ĉ)<(n:Ĉ);omega]
    refine#[_,rfl,wa,_,_,_,rfl,rfl,Pt hrw,at0,sz rfl,λu gu=>?_]
    ext gu Hu wu eu
    refine#[u,_,rfl,.inr (Pt eu),rfl,rfl,_,rfl,?_];generalize(if false=true then !inV Ŏ [.str "put",.str "part"]else inV Ŏ [.str "put",.str "part"])=b1;cases b1 with
    |true =>refine bg (bg ?_);refine#[_,rfl,.inl #[rfl,_,Pu ó],_,rfl,_,rfl,_,rfl,cA,_,_,_,rfl,rfl,Pu œ,jF ha,_,rfl,as5[hN],_,_,_,rfl,rfl,Pu ű,iO é,sz rfl,λq7 f7=>#[pn,_,_,rfl,rfl,ad f7 _ _ _ ó,aJ ą,?_]];have w7:=wu.trans ż;exists[f1,f2,f3,f4],fin w7;have e7:upd Hu q7 Á q7=some Á:=ac;generalize upd Hu q7 Á=HC at f1 f2 f3 f4 e7 ⊢;exact#[cC f1 fpn,_,_,_,_,_,_,_,rfl,as5,cl6,_,M++[ê],(nrX f2 f3 f4 e7).1,(nrX f2 f3 f4 e7).2.1,(nrX f2 f3 f4 e7).2.2,gB,lLn,by rw[Zh];exact ZT lM,fas5]
    |false =>
     refine aI #[_,rfl,_,_,rfl,rfl,(by show(0:Ĉ)<7;decide),rfl,_,rfl,E4 Ž Ž]
     .refine#[_,rfl,.inl #[rfl,_,Pu ó],_,rfl,_,rfl,_,rfl,cA,_,_,_,rfl,rfl,Pu œ,jF ha,_,rfl,as5[hN],_,_,_,rfl,rfl,Pu ű,iO é,sz rfl,λq7 f7=>#[pn,_,_,rfl,rfl,ad f7 _ _ _ ó,aJ ą,?_]];have w7:=wu.trans ż;exists[f1,f2,f3,f4],fin w7;have e7:upd Hu q7 Á q7=some Á:=ac;generalize upd Hu q7 Á=HC at f1 f2 f3 f4 e7 ⊢;exact#[cC f1 fpn,_,_,_,_,_,_,_,rfl,as5,cl6,_,M++[ê],(nrX f2 f3 f4 e7).1,(nrX f2 f3 f4 e7).2.1,(nrX f2 f3 f4 e7).2.2,gB,lLn,by rw[Zh];exact ZT lM,fas5]
     .exists[f1,f2,f3,f4],fin wu;exact#[f1,_,_,_,_,_,_,_,rfl,as5,cl6,_,M,f2,f3,f4,gB,lLn,∅,fas5]
  .exists[S3,o5,o6,o7,o8,o9,o10,o11,rfl,as,cl,L,M,ck,lr,nr,gen,lL,lM,fas],z;refine#[_,rfl,p,aR L,L.map (λx=>ZKey.t [x.2.2.1.sum,(x.2.1:Int)]),rfl,.inl lr.1,by rw[aY];rw[Zd]at lL;omega,by rw[aY,Zd],.inr λk hk=>?_,λi v key H' hv hkey s' R hR=>?_,λpm H2' D pok _ s2 _ gD=>?_]
   .exists[x,_,rfl],Zu.mp hk;exact#[_,rfl,by simp]
   .exists[hi,rfl],eX hv;rw[Zx,Zf hi]at hkey;cases hkey;exact#[_,_,rfl,(lr.2 _ (ZL hi)).ts (Ps s'),λa H'' s'' e=>hR (.ref a) H'' s'' #[a,rfl,e]]
   .rw[aY]at pok;exists[pe,ee],IM pok;rw[ee];have wD:=ad gD (.lst (aR (pm.toList.map λi=>L.getD i (0,0,[],.none))));have sx:=s2.trans wD;refine q D _ _ (S3.trans sx) ((S3.trans s2).free gD) #[ac,λx hx=>(lr.2 x (pe.mem_iff.mp hx)).ts (Ps sx)] (by rw[pe.length_eq,lL,Zd];exact hlen) (λx hx=>?_) ?_
    .have hx':=pe.mem_iff.mp hx;exact#[(gen.len x.2 ñ).2,(gen.len x.2 ñ).1,gen.ok x.2 ñ]
    .have u:=gen.uni;rw[x9]at u;rw[x9];exact u.perm pe.symm fun{x y} z=>ē
def qZ(w:Ř):Bool:=inV ù [.str "done",.str "top",.str "over",.str "kept"]
def jw(wd:Wd)(w:Ř):Bool:=match wd with
 |.put _ _ _=>inV ù [.str "done",.str "top"]
 |.part _ _ _=>decide (w="done")
 |_=>false
theorem CZ(h:RsAt H r wd)(ht:ĝ):∃iv,atI (.str wd.word::r) (-1)=some iv/\NameIs H iv (nk it):=by
 cases wd with
 |take n =>cases ht;exists[nv,rfl,a1],h;exact#[nv,rfl,a1]
 |join n m =>cases ht;exists[nv,mv,rfl,a1,a2],h;exact#[mv,rfl,a2]
 |_=>cases ht
inductive Abv(ol:Ol):Option Nm->List Nm->Prop
 |none:Abv ol none []
 |up {n:Nm} {it:It} {l:List Nm} (h:look ol n=some it) (t:Abv ol ĺ l):Abv ol (some n) (n::l)
theorem Abv.one(h:Abv ol u a)(g:Abv ol u b):a=b:=by
 induction h generalizing b with
 |none=>cases g;rfl
 |up h _ ih =>
  cases g with
  |up h' t' =>rw[h]at h';cases h';rw[ih t']
theorem JV{k:Ĝ}(h:Ch ol k u):∃l,Abv ol u l:=by
 induction h with
 |none=>exact#[[],.none]
 |up hl _ ih =>exists[l,hl'],ih;exact#[_,.up hl hl']
theorem Abv.cut(h:Ą):∀x∈l,∃l',Abv ol (some x) l'/\l'.length<=ī:=by
 induction h with
 |none=>intro x hx;cases hx
 |@up n it l hl t ih =>
  intro x hx;rcases Zg.mp hx with rfl|hx
  .exact#[_,.up hl t,Ze _]
  .exists[l',h1,h2],ih x hx;exact#[l',h1,Nat.le_succ_of_le h2]
theorem Abv.nd(h:Ą):l.Nodup:=by
 induction h with
 |none=>exact .nil
 |@up n it l hl t ih =>refine Z3.mpr #[λhm=>?_,ih];exists[l',h1,h2],t.cut n hm;have:=Abv.one h1 (.up hl t);rw[this,Zk]at h2;omega
theorem Abv.isin(h:Ą):∀x∈l,(look ol x).isSome=true:=by
 intro x hx;exists[l',h1,_],h.cut x hx;cases h1 with
 |up hl _=>rw[hl];rfl
theorem sj:∀{l m:ŷ},l.Nodup->(∀x∈l,x∈m)->ī<=m.length
 | [],m,_,_=>ZH _
 |x::l,m,nd,h=>by exists[n1,n2],Z3.mp nd;have hx:=h x Zq;have:=sj (l:=l) (m:=m.erase x) n2 λy hy=>(List.mem_erase_of_ne fun(z:y=x)=>n1 (z▸hy)).mpr (h y (Zj _ hy));rw[List.length_erase_of_mem hx]at this;have:=List.length_pos_of_mem hx;rw[Zk];omega
theorem tX{β:Type}{ol:As β}{n:Nm}{it:β}(h:ň):n∈ol.map (·.1):=by
 induction ol with
 |nil=>cases h
 |cons p ol ih =>
  unfold look at h;by_cases c:p.1=n
  .rw[Zn,c];exact Zq
  .rw[Pa c]at h;exact Zj _ (ih h)
theorem Abv.len(h:Ą):ī<=Ö:=by
 have:=sj h.nd (m:=ol.map (·.1)) λx hx=>by exists[it,e],Zv.mp (h.isin x hx);exact tX e
 rw[Zd]at this;exact this
theorem E1{w:Ř}:inV ù (xs++ys)=(inV ù xs ||inV ù ys):=by unfold inV;rw[List.any_append]
theorem FV{ts:As Dd}{w:Ř}(hw:inV ù [.str "over",.str "kept"]=false)(hk:(look kp n).isSome=true->bI w=true)(ho:(look ov n).isSome=true->bI w=true):qZ (dW kp ov ts n w).2.1=bI w:=by
 unfold dW;by_cases c:w="off"
 .rw[Pb c,c];rfl
 .rw[Pa c];cases e:look kp n with
  |some b =>rw[hk (by rw[e];rfl)];rfl
  |none =>
   cases e2:look ov n with
   |some b =>rw[ho (by rw[e2];rfl)];rfl
   |none =>show qZ w=bI w;unfold qZ bI;rw[show([.str "done",.str "top",.str "over",.str "kept"]:Pz)=[.str "done",.str "top"]++[.str "over",.str "kept"]from rfl,E1,hw,Bool.or_false]
def Gk(ol:Ol)(ds:List Dd):Prop:=∃B,Inv ol B/\Fresh ol ds/\Ö+ds.length<=63/\B+5*ds.length<=400
theorem HN{w:Ř}(h:Gk ol (d::ds))(p:PlayR ol d.1 d.2 w so ol'):Gk ol' ds:=by
 exists[B,v,f,h1,h2],h;rw[Zk]at h1 h2;have nw:=f.non d Zq;have k:=DF v (f.ok d Zq) nw p;refine#[B+5,k.inv,#[f.tail.ok,λe he hm=>?_,f.tail.pw],by have:=k.len;omega,∅];refine k.non e.1 (λz=>?_) (f.tail.non e he hm);by_cases cm:d.2.mk=true
 .rw[Pb cm]at z;exact(List.pairwise_cons.mp f.pw).1 e he cm hm (Zi.mp z).symm
 .rw[Pa cm]at z;cases z
theorem gX:Gd Gk:=by
 refine#[fun{ol d ds} h=>?_,HN,fun{ol d ds} h=>?_,fun{ol d ds} h=>?_,fun{ol d ds} h s hs=>?_,fun{ol ds} h=>?_]
 .exists[B,v,f,h1,h2],h;rw[Zk]at h1 h2;exact#[B,v,f.tail,∅,∅]
 .exists[B,v,f,h1,h2],h;exact v.small ∅ ∅
 .exists[B,v,f,h1,h2],h;exact f.non d Zq
 .exists[B,v,f,h1,h2],h;exact yn v (f.non d Zq) hs
 .exists[B,v,f,h1,h2],h;exact v.ter
theorem Ey(ap:Ap ol s ol')(nw:∀n∈s.news,look ol n=none):ol'.map (·.1)=ol.map (·.1)++s.news:=by
 have old:∀{n:Nm} {it it':It},look ol n=some it->(aw ol n it').map (·.1)=ol.map (·.1)++[]:=λh=>by rw[cD,Pb Ŕ,ZD]
 cases ap with
 |@put n u pl tx =>rw[cD,Pa (by rw[nw n ĸ];decide)];rfl
 |move h=>exact old h
 |write h=>exact old h
 |mark h=>exact old h
 |due h=>exact old h
 |fold h=>exact old h
 |@part n a m pl it h =>have hm:=nw m ĸ;rw[cD,Pa (by rw[ay,Pa (λz=>by rw[z,h]at hm;cases hm),hm];decide),cD,Pb Ŕ];rfl
 |join _ _ j =>rw[j.nm];exact(ZD _).symm
 |gone=>exact(ZD _).symm
def wdR(wd:Wd)(w:Ř):Prop:=(w="off"\/w="turn"\/w="done"\/w="none"\/w="top"\/w="beneath"\/w="far")/\(w="top"->bH wd=none)
theorem sJ(wd:Wd){w:Ř}(h:inV ù [.str "done",.str "top"]=false)(h':w≠"done"):jw wd w=false:=by
 cases wd with
 |put=>exact h
 |part=>exact decide_eq_false h'
 |_=>rfl
theorem BB{w:Ř}(p:ĩ)(nw:wd.mk=true->look ol n=none):ol'.map (·.1)=ol.map (·.1)++(if jw wd w=true then[n]else[]):=by
 have no:∀{b:Bool},b=false->ol.map (·.1)=ol.map (·.1)++(if b=true then[n]else[]):=λe=>by rw[e,Pa ⋯,ZD]
 cases p with
 |none=>exact no rfl
 |take=>exact no rfl
 |back=>exact no rfl
 |top hm =>rw[cD,Pa (by rw[nw rfl];decide),show jw (Wd.put _ _ _) "top" = true from(show inV (.str "top") [.str "done",.str "top"]=true by decide),Pb rfl]
 |@step _ s w _ hs ht wr =>
  cases wr with
  |none _=>exact no đ
  |beneath _ _=>exact no đ
  |far _ _=>exact no đ
  |done hh hb ap =>
   have e:jw wd "done" = wd.mk:=by
    cases wd with
    |put=>exact show inV (.str "done") [.str "done",.str "top"]=true by decide
    |part=>exact show decide (("done":Str)="done")=true from decide_eq_true rfl
    |_=>rfl
   have en:=mO hs;rw[Ey ap (λx hx=>by
    rw[en]at hx;by_cases c:wd.mk=true
    .rw[Pb c]at hx;rw[Zi.mp hx];exact nw c
    .rw[Pa c]at hx;cases hx),en,e]
theorem IV{w:Ř}(p:ĩ):wdR wd w/\(bI w=true->∀it,bH wd=some it->(look ol' it).isSome=true):=by
 have two:∀{b:Bool},wdR wd (if b=true then"done" else"none"):=fun{b}=>by
  cases b
  .exact#[.inr (.inr Õ),λz=>absurd z ⋯]
  .exact#[.inr Õ,λz=>absurd z ⋯]
 cases p with
 |none=>exact#[two (b:=true),λ_ it h=>nomatch h]
 |@take m =>
  refine#[two,λhw it h=>?_];cases h;by_cases c:(look ol m).isSome=true
  .exact c
  .rw[Pa c,jh]at hw;cases hw
 |back=>exact#[two,λ_ it h=>nomatch h]
 |top _=>exact#[#[.inr ń,λ_=>rfl],λ_ it h=>nomatch h]
 |@step _ s w _ hs ht wr =>
  cases wr with
  |none _=>exact#[two (b:=false),λhw=>by rw[jh]at hw;cases hw]
  |beneath _ _=>exact#[#[.inr (.inr ń),λz=>absurd z ⋯],λhw=>by rw[kh]at hw;cases hw]
  |far _ _=>exact#[#[.inr (.inr (.inr (.inr (.inr (.inr rfl))))),λz=>absurd z ⋯],λhw=>by rw[qX]at hw;cases hw]
  |done hh hb ap =>
   refine#[two (b:=true),λ_ it h=>?_];cases wd with
   |take=>cases hs
   |join a m =>cases hs;cases h;exact tz ap _ (hh _ Ä)
   |_=>cases h
theorem Ax{wd:Wd}{w:Ř}(h:wd.isTurn=true):bH wd=none/\jw wd w=false:=by cases wd<;>first|exact#[rfl,rfl]|cases h
def tO(Zq0:List Ũ):List Nm:=(Zq0.filter λz=>jw z.1.2 z.2.2.1).map λz=>z.1.1
theorem ls(z:Ũ)(Zq0:List Ũ):tO (z::Zq0)=(if jw z.1.2 z.2.2.1=true then[z.1.1]else[])++tO Zq0:=by
 unfold tO;rw[List.filter_cons];split
 .rfl
 .rfl
theorem mG{ts:As Dd}:∀{ds:List Dd} {ol e:Ol} {rs:List bp},Gk ol ds->Runs ts tn ol ds rs->hU ts ol ds e->e.map (·.1)=ol.map (·.1)++tO (ds.zip rs)/\∀z∈ds.zip rs,wdR z.1.2 z.2.2.1/\(bI z.2.2.1=true->∀it,bH z.1.2=some it->(look e it).isSome=true)
 | [],ol,e,rs,g,r,h=>by have h1:e=ol:=h;rw[h1];exact#[(ZD _).symm,λz hz=>nomatch hz]
 |d::ds,ol,e,rs,g,r,h=>by
  cases c:cR d ts with
  |true =>
   exists[r1,rfl,x1],mH c r;exists[a,b],mG Ų x1 (h.1 (.inl c));rw[Y1,ls];dsimp only;rw[sJ d.2 (w:="off") ⋯ ⋯,Pa ⋯];refine#[a,λz hz=>?_];rcases Zg.mp hz with rfl|hz
   .exact#[#[.inl rfl,λy=>absurd y (show¬("off":Str)="top" by decide)],λy=>absurd y (by rw[qY];decide)]
   .exact b z hz
  |false =>
   cases c2:d.2.isTurn with
   |true =>
    exists[r1,rfl,x1],kG c c2 r;exists[a,b],mG Ų x1 (h.1 (.inr c2));rw[Y1,ls];dsimp only;rw[(Ax c2).2,Pa ⋯];refine#[a,λz hz=>?_];rcases Zg.mp hz with rfl|hz
    .have t0:=(Ax (w:="") c2).1;refine#[#[?_,λ_=>t0],λ_ it y=>?_]
     .show(if turned d∈tn then("turn":Str)else"done")="off"\/_;split
      .exact .inr (.inl rfl)
      .exact .inr Õ
     .have y:bH d.2=some it:=y;rw[t0]at y;cases y
    .exact b z hz
   |false =>
    exists[w,so,o1,r1,rfl,p1,x1],kF c c2 r;exists[w',so',o2,p2,x2],h.2 c c2;exists[rfl,_,e12],ky Ļ p1 p2;exists[r2,y2],ik gX (ts:=ts) (tn:=tn) ŕ;obtain rfl:=kI e12 x1 y2;exists[a,b],mG ŕ y2 x2;rw[Y1,ls,<-Y8,a,BB p2 (gX.new g)];refine#[rfl,λz hz=>?_];rcases Zg.mp hz with rfl|hz
    .exists[k1,k2],IV p2;exact#[k1,λhl it hi=>jX x2 (k2 hl it hi)]
    .exact b z hz
def ic(Zq0:List (Ĵ×Str)):List Nm:=(Zq0.filter λz=>jw z.1.2.2.2 z.2).map λz=>nm3 z.1.2
theorem xx:∀{L:L3} {rs:List bp},tO ((aU L).zip rs)=ic (L.zip Ì)
 | [],_=>rfl
 |_::_,[]=>rfl
 |x::L,r::rs=>by
  show tO ((toD x.2,r)::(aU L).zip rs)=ic ((x,r.2.1)::L.zip Ì);rw[ls,xx];unfold ic;rw[List.filter_cons];by_cases c:jw x.2.2.2 r.2.1=true
  .rw[Pb (show jw (toD x.2).2 r.2.1=true from c),Pb c];rfl
  .rw[Pa (show¬jw (toD x.2).2 r.2.1=true from c),Pa c];rfl
structure RnK(L:L3)(W:List Str)(n:Ĝ)(e:Ol):Prop where
 tk:Tkn L W n λol=>Eqo e ol/\ol.map (·.1)=ic ç
 lw:W.length=L.length
 sm:Small e
 le:(ic ç).length<=63
 ter:Ter e
 wd:∀z∈L.zip W,wdR z.1.2.2.2 z.2
 held:∀z∈L.zip W,bI z.2=true->(∀x∈dC z.1.2,(look e x).isSome=true)/\∀it,bH z.1.2.2.2=some it->(look e it).isSome=true
 nod:((L.zip W).map λz=>nm3 z.1.2).Nodup
theorem ML{L:L3}{n:Ĝ}(ln:L.length<=63)(nod:((aU L).map Prod.fst).Nodup)(cl:∀x∈L,x.2.2.1.length=n/\DOk x.2.2.2):∃W e,RnK L W n e:=by
 have ll:(aU L).length=L.length:=Zd ..;have g0:Gk [] ş:=#[0,Nk,#[λd hd=>by exists[x,hx,rfl],Zu.mp hd;exact(cl x hx).2,λ_ _ _=>rfl,(x9.mp nod).imp λz _ _=>z],by rw[Z8];omega,∅]
 exists[rs,run],ik gX (ts:=aQ ş) (tn:=bD ş) g0;exists[e,he],pS gX (ts:=aQ ş) g0;have T:=MY gX g0 ln nod (λx hx=>#[(cl x hx).1,J7 (cl x hx).2]) run he;exists[B,v,_,h1,h2],rH gX g0 he;have sm:Small e:=v.small (by rw[Z8]at h1;omega) ∅;exists[a1,a2],mG g0 run he;have at0:∀z∈L.zip Ì,∃r:bp,r.2.1=z.2/\(toD z.1.2,r)∈(aU L).zip rs:=λz hz=>by rw[List.zip_map_right]at hz;obtain⟨⟨x,r⟩,hxr,rfl⟩:=Zu.mp hz;refine#[r,rfl,?_];unfold aU;rw[List.zip_map_left];exact Zu.mpr #[(x,r),hxr,rfl]
 have lr:=jT run;have nod':((L.zip Ì).map λz=>nm3 z.1.2).Nodup:=by
  have e1:(L.zip Ì).map (λz=>nm3 z.1.2)=(aU L).map Prod.fst:=by
   have:(L.zip Ì).map Prod.fst=L:=List.map_fst_zip (by rw[Zd];omega)
   conv=>rhs;rw[<-this]
   unfold aU;rw[Z7,Z7];rfl
  rw[e1];exact nod
 refine#[rs.map λr:bp=>r.2.1,e,#[T.len,T.safe,T.nod,T.words,λr' h=>?_,T.cl,λol hol=>T.asks ol hol.1],by rw[Zd];omega,sm,?_,v.ter,λz hz=>?_,λz hz hl=>?_,nod']
 .refine iu gX g0 h λe' he'=>#[mh Ļ he he',?_]
  obtain rfl:=kI Ļ run h;rw[(mG g0 run he').1,xx];rfl
 .rw[<-xx];have:=ZO List.length a1;have:=sm.len;simp only[Zd,Zh,Z8]at *;omega
 .exists[r,e1,e2],at0 z hz;have:=(a2 _ e2).1;rw[e1]at this;exact this
 .exists[r,e1,e2],at0 z hz;refine#[λx hx=>?_,λit hi=>?_]
  .rw[qL]at hx;exact iG gX g0 run he _ e2 Į x hx
  .exact(a2 _ e2).2 Į it hi
theorem Jz(e:Eqo a b)(t:Ter a):Ter b:=λn it h=>by
 rw[<-e n]at h;exists[k,c],t n it h;refine#[k,?_];generalize some n=u at c;induction c with
 |none=>exact .none
 |up h _ ih=>exact .up (by rw[<-e];exact h) ih
theorem qI:∀{qs:Ğ} {acc:Ŧ},(look acc n).isSome=true->(look Ĳ n).isSome=true
 | [],_,h=>h
 |q::qs,acc,h=>by
  show(look á n).isSome=true;refine qI ?_;rw[ay];split
  .rfl
  .exact h
theorem qJ:∀{qs:Ğ} {acc:Ŧ},(n,b)∈qs->(look Ĳ n).isSome=true
 |q::qs,acc,h=>by
  show(look á n).isSome=true;rcases Zg.mp h with rfl|h
  .refine qI ?_;rw[ay,Pb rfl];rfl
  .exact qJ h
theorem jJ:∀{qs:Ğ} {acc:Ŧ},look Ĳ n=some b->(n,b)∈qs\/look acc n=some b
 | [],_,h=>.inr h
 |q::qs,acc,h=>by
  have h':look á n=some b:=h;rcases jJ h' with h1|h1
  .exact .inl (Zj _ h1)
  .rw[ay]at h1;by_cases c:n=q.1
   .rw[Pb c]at h1;cases h1;rw[c];exact .inl Zq
   .rw[Pa c]at h1;exact .inr h1
theorem yL{t:Tk}:t∈br ol D↔∃d∈D,∃it,bH d.2.2=some it/\t=(nm3 d,it,fH ol D d it):=by
 unfold br;rw[List.mem_flatMap];constructor
 .rintro⟨d,hd,h⟩;unfold eO at h;cases e:bH d.2.2 with
  |none=>rw[e]at h;cases h
  |some it =>rw[e]at h;exact#[d,hd,it,e,Zi.mp h]
 .rintro⟨d,hd,it,e,rfl⟩;refine#[d,hd,?_];unfold eO;rw[e];exact Zi.mpr rfl
theorem xO:(n,b)∈dN þ↔∃d∈D,∃it,bH d.2.2=some it/\nm3 d=n/\fH ol D d it=some b:=by
 unfold dN;rw[Z5];constructor
 .rintro⟨t,ht,h⟩;exists[d,hd,it,e,rfl],yL.mp ht;cases f:fH ol D d it with
  |none=>simp only[f,Option.map_none]at h;cases h
  |some c =>simp only[f,Option.map_some,x8,Prod.mk.injEq]at h;exact#[d,hd,it,e,h.1,by rw[<-h.2,f]]
 .rintro⟨d,hd,it,e,rfl,f⟩;exact#[_,yL.mpr #[d,hd,it,e,rfl],by simp only[f,Option.map_some]]
theorem Mj(inj:∀d'∈D,nm3 d'=nm3 d->d'=d)(hd:d∈D)(hi:bH d.2.2=some it):look Ů (nm3 d)=fH ol D d it:=by
 have uq:∀b,(nm3 d,b)∈dN þ->fH ol D d it=some b:=λb hb=>by exists[d',hd',it',hi',en,hf],xO.mp hb;obtain rfl:=inj d' hd' en;rw[hi]at hi';cases hi';exact hf
 cases hf:fH ol D d it with
 |some b =>
  exists[b',e],Zv.mp (qJ (acc:=[]) (xO.mpr #[d,hd,it,hi,rfl,hf]));rcases jJ e with h|h
  .have:=uq b' h;rw[hf]at this;cases this;exact e
  .cases h
 |none =>
  cases e:look Ů (nm3 d)with
  |none=>rfl
  |some b =>
   rcases jJ e with h|h
   .have:=uq b h;rw[hf]at this;cases this
   .cases h
theorem Ml(h:(look Ů n).isSome=true):∃d∈D,nm3 d=n/\∃it,bH d.2.2=some it:=by
 exists[b,e],Zv.mp h;rcases jJ e with h|h
 .exists[d,hd,it,hi,en,_],xO.mp h;exact#[d,hd,en,it,hi]
 .cases h
theorem My(o:OvR D ov)(h:(look ov n).isSome=true):∃d∈D,nm3 d=n/\jt d.2.2=true:=by
 by_cases c:∀d∈D,nm3 d≠n
 .rw[o.2 n c]at h;cases h
 .exists[d,c1],Classical.not_forall.mp c;exists[hd,c2],Classical.not_imp.mp c1;have en:=Classical.not_not.mp c2;exists[j,hj],ZV.mp hd;refine#[d,hd,en,?_];have:=o.1 j d hj;rw[en]at this;rw[this]at h;unfold ovJ at h;rw[hj]at h;cases f:jt d.2.2 with
  |true=>rfl
  |false =>dsimp only at h;rw[f]at h;cases h
abbrev LZ:=List (Ĵ×Str)
abbrev Dl(Zq0:LZ):List D3:=(bC Zq0).map Prod.snd
theorem rG:d∈Dl Zq0↔∃z∈Zq0,bI z.2=true/\z.1.2=d:=by
 unfold Dl bC;rw[Z7,Zu];constructor
 .rintro⟨z,hz,rfl⟩;exact#[z,(ZF.mp hz).1,(ZF.mp hz).2,rfl]
 .rintro⟨z,h1,h2,rfl⟩;exact#[z,ZF.mpr #[h1,h2],rfl]
theorem J6(h:d∈(ci Zq0).map Prod.snd):∃z∈Zq0,z.2="done"/\z.1.2=d:=by unfold ci at h;rw[Z7,Zu]at h;exists[z,hz,rfl],h;exact#[z,(ZF.mp hz).1,Yd (ZF.mp hz).2,rfl]
theorem DX{ts:As Dd}{w:Ř}(h1:look kp n=none)(h2:look ov n=none):(dW kp ov ts n w).2.1=w:=by
 unfold dW;by_cases c:w="off"
 .rw[Pb c,c]
 .rw[Pa c,h1,h2]
section
variable{Zq0:LZ}{ts:As Dd}
theorem uo(nod:Ç)(hz:Ī)(h:(look Ù ä).isSome=true):bI z.2=true/\∃it,bH z.1.2.2.2=some it:=by exists[d,hd,en,hi],Ml h;exists[z',h1,h2,rfl],rG.mp hd;obtain rfl:=mw nod h1 hz en;exact#[h2,hi]
theorem qh(nod:Ç)(o:Ï)(hz:Ī)(h:(look ov ä).isSome=true):z.2="done"/\jt z.1.2.2.2=true:=by exists[d,hd,en,hi],My o h;exists[z',h1,h2,rfl],J6 hd;obtain rfl:=mw nod h1 hz en;exact#[h2,hi]
theorem iP{α:Type}{o:Option α}(h:¬o.isSome=true):o=none:=by
 cases o with
 |none=>rfl
 |some _=>exact absurd rfl h
theorem Ji(nod:Ç)(o:Ï)(hz:Ī)(wr:ĉ):qZ (dW Ù ov ts ä z.2).2.1=bI z.2:=by
 refine FV ?_ (λh=>(uo nod hz h).1) λh=>by rw[(qh nod o hz h).1];exact lF
 rcases wr.1 with h|h|h|h|h|h|h<;>(rw[h];decide +kernel)
theorem MX(h:ĝ):jt wd=false:=by cases wd<;>first|rfl|cases h
theorem Ii{w:Ř}(wr:wdR wd w)(h:ĝ)(hl:bI w=true):w="done":=by
 rcases wr.1 with e|e|e|e|e|e|e
 .rw[e]at hl;exact absurd hl ⋯
 .rw[e]at hl;exact absurd hl ⋯
 .exact e
 .rw[e]at hl;exact absurd hl ⋯
 .rw[wr.2 e]at h;cases h
 .rw[e]at hl;exact absurd hl ⋯
 .rw[e]at hl;exact absurd hl ⋯
theorem Lz(nod:Ç)(o:Ï)(hz:Ī)(wr:ĉ)(hi:bH z.1.2.2.2=some it)(hl:bI z.2=true):dW Ù ov ts ä z.2=(nm3 z.1.2,match fH ol (Dl Zq0) z.1.2 it with|some b=>("kept",some b)|none=>("done",none)):=by
 have e:=Ii wr hi hl;have ek:=Mj (ol:=ol) (D:=Dl Zq0) (d:=z.1.2) (it:=it) (λd' hd en=>by
  exists[z',h1,h2,rfl],rG.mp hd;rw[mw nod h1 hz en]) (rG.mpr #[z,hz,hl,rfl]) hi
 unfold dW;rw[Pa (by rw[e];decide +kernel),ek];cases fH ol (Dl Zq0) z.1.2 it with
 |some b=>rfl
 |none =>
  have:look ov ä=none:=iP λh=>by have:=(qh nod o hz h).2;rw[MX hi]at this;cases this
  rw[this,e]
theorem Jj(nod:Ç)(o:Ï)(hz:Ī)(wr:ĉ)(hl:bI z.2=false):inV (.str (dW Ù ov ts ä z.2).2.1) [.str "done",.str "kept"]=false:=by
 rw[DX (iP λh=>by rw[(uo nod hz h).1]at hl;cases hl) (iP λh=>by rw[(qh nod o hz h).1,lF]at hl;cases hl)];rcases wr.1 with e|e|e|e|e|e|e
 .rw[e];decide +kernel
 .rw[e];decide +kernel
 .rw[e,lF]at hl;cases hl
 .rw[e];decide +kernel
 .rw[e];decide +kernel
 .rw[e];decide +kernel
 .rw[e];decide +kernel
#check 0
noncomputable def tkZ(ol:Ol)(D:ŵ)(Zq0:LZ):List Tk:=Zq0.flatMap λz=>if bI z.2=true then eO ol D z.1.2 else[]
theorem Hf(ol:Ol)(D:ŵ):∀Zq0:LZ,((Dl Zq0).flatMap λd=>eO ol D d)=tkZ ol D Zq0
 | []=>rfl
 |z::Zq0=>by
  have ih:=Hf ol D Zq0;unfold tkZ at ih ⊢;unfold Dl bC at ih ⊢;rw[List.flatMap_cons,<-ih,List.filter_cons];by_cases c:bI z.2=true
  .rw[Pb c,Pb c];rfl
  .rw[Pa c,Pa c];rfl
def gnT(ts:List Tk):List Nm:=ts.filterMap λt=>if t.2.2=none then some t.2.1 else none
theorem fR{β:Type}{l:As β}{x:Nm}:(look l x).isSome=true↔x∈l.map (·.1):=by
 refine#[λh=>?_,λh=>?_]
 .exists[i,e],Zv.mp h;exact tX e
 .induction l with
  |nil=>cases h
  |cons p l ih =>
   unfold look;by_cases c:p.1=x
   .rw[Pb c];rfl
   .rw[Pa c];rw[Zn]at h;exact ih ((Zg.mp h).resolve_left λz=>c ē)
theorem yC{β:Type}{l:As β}{n x:Nm}{i:β}:(look (aw l n i) x).isSome=true↔x=n\/(look l x).isSome=true:=by
 rw[ay];by_cases c:x=n
 .rw[Pb c];exact#[λ_=>.inl c,λ_=>rfl]
 .rw[Pa c];exact#[.inr,λh=>h.resolve_left c]
theorem xB:∀(ts:List Tk) (l:Ŧ) (x:Nm),(look (ts.foldl gkS l) x).isSome=true↔(look l x).isSome=true\/x∈gnT ts
 | [],l,x=>#[.inl,λh=>h.resolve_right λz=>nomatch z]
 |t::ts,l,x=>by
  rw[List.foldl_cons,xB ts];have e:(look (gkS l t) x).isSome=true↔(look l x).isSome=true\/(t.2.2=none/\x=t.2.1):=by
   unfold gkS;by_cases c:t.2.2=none/\(look l t.2.1).isSome=false
   .rw[Pb c,yC];exact#[λh=>h.elim (λz=>.inr #[c.1,z]) .inl,λh=>h.elim .inr λz=>.inl z.2]
   .rw[Pa c];refine#[.inl,λh=>h.elim id λz=>?_];rw[z.2];cases hb:(look l t.2.1).isSome with
    |true=>rfl
    |false=>exact absurd #[z.1,hb] c
  rw[e];unfold gnT;by_cases c:t.2.2=none
  .rw[List.filterMap_cons_some (b:=t.2.1) (by rw[Pb c]),Zg,or_assoc];exact#[λh=>h.elim .inl λh=>.inr (h.elim (λz=>.inl z.2) .inr),λh=>h.elim .inl λh=>.inr (h.elim (λz=>.inl #[c,z]) .inr)]
  .rw[List.filterMap_cons_none (by rw[Pa c])];exact#[λh=>h.elim (λh=>h.elim .inl λz=>absurd z.1 c) .inr,λh=>h.elim į .inr]
theorem xE:∀(l:Ŧ) (gs:As Unit) (x:Nm),(look (gsF gs l) x).isSome=true↔(look gs x).isSome=true\/(look l x).isSome=true
 | [],gs,x=>#[.inl,λh=>h.resolve_right λz=>nomatch z]
 |p::l,gs,x=>by show(look (gsF (aw gs p.1 ()) l) x).isSome=true↔_;rw[xE l,yC,fR (l:=p::l),Zn,Zg,fR (l:=l)];exact#[λh=>h.elim (λh=>h.elim (λz=>.inr (.inl z)) .inl) λz=>.inr (.inr z),λh=>h.elim (λz=>.inl (.inr z)) λh=>h.elim į .inr]
theorem Kd(h:x∈gnT þ):∃d∈D,bH d.2.2=some x:=by
 unfold gnT at h;exists[t,ht,e],Z5.mp h;exists[d,hd,it,e1,rfl],yL.mp ht;dsimp only at e;split at e
 .cases e;exact#[d,hd,e1]
 .cases e
theorem tY{β:Type}{l:As β}{n:Nm}{i:β}(h:look l n=some i):(n,i)∈l:=by
 induction l with
 |nil=>cases h
 |cons p l ih =>
  have h:(if p.1=n then some p.2 else look l n)=some i:=h;by_cases c:p.1=n
  .rw[Pb c]at h;cases h;rw[<-c];exact Zq
  .rw[Pa c]at h;exact Zj _ (ih h)
theorem Dfs.app{k1 k2:Ĝ}(h:Dfs M s1 o1 k1)(g:Dfs M s2 o2 k2):Dfs M (s1++s2) (o1++o2) (k1+k2):=by
 induction h with
 |nil=>rw[Nat.zero_add];exact g
 |@cons d m rest out k _ ih =>rw[Nat.add_right_comm];refine .cons ?_;show Dfs M (_++(rest++s2)) (out++o2) _;rw[<-Y8];exact ih
theorem iL:x∈grp M u↔x∈M/\x.2.up=u:=by unfold grp;rw[ZF];simp
theorem xh{ol:Ol}(nd:Æ)(t:Ŀ)(hx:x∈ol):∃l,Abv ol Ĕ l:=by exists[i,hi],ZV.mp hx;exists[k,ck],t _ _ ž;exact JV ck
theorem HG(pe:ř)(nd:Æ):∀(f:Ĝ) (x:Nm×It) (l:ŷ) (d:Ĉ),x∈M->Abv ol Ĕ l->Ö<ī+f->∃out k,Dfs M [(d,x)] out k:=by
 intro f;induction f with
 |zero =>intro x l d hx ch hB;have:=ch.len;omega
 |succ f ih =>
  intro x l d hx ch hB;have kids:∀(g:Ol),(∀y∈g,y∈grp M Ĕ)->∃out k,Dfs M (g.map λy=>(d+1,y)) out k:=by
   intro g;induction g with
   |nil=>intro _;exact#[[],0,.nil]
   |cons y g ihl =>intro hl;exists[ym,yu],iL.mp ŋ;exists[i,hi],ZV.mp (pe y ym);have cy:Abv ol (some y.1) (y.1::l):=.up ž (by rw[yu];exact ch);exists[o1,k1,h1],ih y (y.1::l) (d+1) ym cy (by rw[Zk];omega);exists[o2,k2,h2],ihl λz hz=>hl z (Zj _ hz);exact#[_,_,h1.app h2]
  exists[out,k,h],kids (grp M Ĕ) λ_ z=>z;exact#[_,_,.cons (rest:=[]) (by rw[ZD];exact h)]
theorem J5(pe:ř)(nd:Æ)(t:Ŀ):∃out k,Dfs M (gC M) out k:=by
 have go:∀(l:Ol),(∀y∈l,y∈M)->∃out k,Dfs M (l.map λy=>((0:Ĉ),y)) out k:=by
  intro l;induction l with
  |nil=>intro _;exact#[[],0,.nil]
  |cons y l ihl =>intro hl;exists[a,ch],xh nd t (pe y ŋ);exists[o1,k1,h1],HG pe nd (Ö+1) y a 0 ŋ ch ∅;exists[o2,k2,h2],ihl λz hz=>hl z (Zj _ hz);exact#[_,_,h1.app h2]
 exact go (grp M none) λy hy=>(iL.mp hy).1
def cnR(n:Nm)(l:ú):Nat:=l.countP λx=>decide (x.2.1=n)
theorem Hy(n:Nm)(a b:ú):cnR n (a++b)=cnR n a+cnR n b:=List.countP_append
theorem qR(n:Nm)(x:DI)(l:ú):cnR n (x::l)=(if x.2.1=n then 1 else 0)+cnR n l:=by unfold cnR;rw[List.countP_cons,Nat.add_comm];simp
def rP(M:Ol)(n:Nm)(u:ĥ):Nat :=
 match look M n with
 |some it=>if ĺ=u then 1 else 0
 |none=>0
theorem xq{M:Ol}{d:Ĉ}(nd:õ):cnR n ((grp M u).map λx=>(d,x))=rP M n u:=by
 unfold cnR grp rP;rw[List.countP_map];induction M with
 |nil=>rfl
 |cons y l ih =>
  rw[Zn,Z3]at nd;have ih:=ih nd.2;unfold look;by_cases hn:y.1=n
  .rw[Pb hn];rw[iP (o:=look l n) λz=>nd.1 (by rw[hn];exact fR.mp z)]at ih;by_cases hu:y.2.up=u
   .rw[List.filter_cons_of_pos Ă,List.countP_cons,ih];simp[hn,hu]
   .rw[List.filter_cons_of_neg Ă,ih];simp[hu]
  .rw[Pa hn,<-ih];by_cases hu:y.2.up=u
   .rw[List.filter_cons_of_pos Ă,List.countP_cons];simp[hn]
   .rw[List.filter_cons_of_neg Ă]
theorem Dfs.cnt{M:Ol}{st out:ú}{k:Ĝ}(nd:õ)(n:Nm)(h:ö) :
  cnR n out=cnR n st+(match look M n with|some it=>(match ĺ with|some p=>cnR p out|none=>0)|none=>0):=by
 induction h with
 |nil =>
  cases look M n with
  |none=>rfl
  |some it=>cases hu:ĺ<;>simp[hu,cnR]
 |@cons d m rest out k _ ih =>
  rw[qR,qR,ih,Hy,xq nd];unfold rP;cases hl:look M n with
  |none=>simp
  |some it =>
   cases hu:it.up with
   |none=>simp[hu]
   |some p =>
    dsimp only;rw[hu];dsimp only;rw[qR p];have e:(if(some p:ĥ)=some m.1 then 1 else 0)=(if m.1=p then 1 else 0:Nat):=by
     by_cases hp:m.1=p
     .rw[Pb (by rw[hp]),Pb hp]
     .rw[Pa (λz=>hp (Zo z).symm),Pa hp]
    rw[e];omega
theorem ER{ol M:Ol}{k:Ĝ}(nd:õ)(h:Dfs M (gC M) out k)(lk:∀n it,look M n=some it->look ol n=some it):∀{u:ĥ} {l:ŷ},Abv ol u l->∀n,u=some n->cnR n out<=1:=by
 intro u l ch;induction ch with
 |none=>intro n z;cases z
 |@up n' it l hl c ih =>
  intro n z;cases z;rw[h.cnt nd n',show cnR n' (gC M)=rP M n' none from xq nd];unfold rP;cases e:look M n' with
  |none=>exact ZH _
  |some it' =>
   have:=lk _ _ e;rw[hl]at this;cases this;dsimp only;cases hu:it.up with
   |none=>exact Ze _
   |some p =>have:=ih p hu;show(if(some p:ĥ)=none then 1 else 0)+cnR p out<=1;rw[Pa nofun];omega
section
variable{ol M:Ol}{out:ú}{k:Ĝ}
theorem iq(pe:č)(df:Ý):∀x∈out,x.2∈ol/\(look gs x.2.1).isSome=false:=λx hx=>by
 have m:=df.mem (λz hz=>by
  exists[w',hw,rfl],Zu.mp hz;exact (iL.mp hw).1) x hx
 exists[m1,m2],ZF.mp m;refine#[pe.mem_iff.mp m1,?_];unfold bP at m2;simpa using m2
theorem qi(nd:Æ)(t:Ŀ)(pe:č)(df:Ý):(out.map λx=>x.2.1).Nodup:=by
 have sub:∀x∈M.filter Ł,x∈ol:=λx hx=>pe.mem_iff.mp (ZF.mp hx).1;have ndM:((M.filter Ł).map (·.1)).Nodup:=List.Pairwise.sublist ě ((pe.map _).nodup_iff.mpr nd);have lk:∀n it,look Â n=some it->look ol n=some it:=λn it hl=>by exists[i,hi],ZV.mp (sub _ (tY hl));exact cV nd hi
 rw[List.nodup_iff_count];intro n;have e:(out.map λx=>x.2.1).count n=cnR n out:=by
  unfold cnR;rw[List.count,List.countP_map];congr 1;funext x;show(x.2.1==n)=decide (x.2.1=n);by_cases z:x.2.1=n
  .rw[decide_eq_true z,z];exact beq_self_eq_true n
  .rw[decide_eq_false z];exact Yi.mpr z
 rw[e];by_cases c:n∈out.map λx=>x.2.1
 .exists[x,hx,rfl],Zu.mp c;exists[l,ch],xh nd t (iq pe df x hx).1;exact ER ndM df lk ch _ rfl
 .rw[<-e,List.count_eq_zero_of_not_mem c];exact ZH _
theorem qp(nd:Æ)(t:Ŀ)(l3:Ö<=63)(pe:č):∃out k,Dfs Â (gC Â) out k/\k<=63:=by
 exists[out,k,df],J5 (M:=M.filter Ł) (λx hx=>pe.mem_iff.mp (ZF.mp hx).1) nd t;refine#[out,k,df,?_];have:=sj ŏ (m:=ol.map (·.1)) λn hn=>by exists[x,hx,rfl],Zu.mp hn;exact Zu.mpr #[x.2,(iq pe df x hx).1,rfl]
 rw[Zd,Zd,df.len]at this;omega
theorem Dfs.sub{st:ú}(h:ö):∀x∈st,x∈out:=by
 induction h with
 |nil=>exact λx hx=>hx
 |cons _ ih =>
  intro x hx;rcases Zg.mp hx with rfl|hx
  .exact Zq
  .exact Zj _ (ih x (ZP _ hx))
theorem Dfs.kid{st:ú}(h:ö):∀(d:Ĉ) (m:Nm×It),(d,m)∈out->∀y∈grp M (some m.1),(d+1,y)∈out:=by
 induction h with
 |nil=>exact λd m hx=>nomatch hx
 |cons h ih =>
  intro d m hx y hy;rcases Zg.mp hx with e|hx
  .cases e;exact Zj _ (h.sub _ (List.mem_append_left _ (Zu.mpr #[y,hy,rfl])))
  .exact Zj _ (ih d m hx y hy)
theorem Dfs.par{st:ú}(h:ö):∀x∈out,x∈st\/∃y∈out,x.2.2.up=some y.2.1:=by
 induction h with
 |nil=>exact λx hx=>nomatch hx
 |@cons d m rest out k h ih =>
  intro x hx;rcases Zg.mp hx with rfl|hx
  .exact .inl Zq
  .rcases ih x hx with h1|⟨y,h1,h2⟩
   .rcases ZC.mp h1 with h1|h1
    .exists[y,hy,rfl],Zu.mp h1;exact .inr #[(d,m),Zq,(iL.mp hy).2]
    .exact .inl (Zj _ h1)
   .exact .inr #[y,Zj _ h1,h2]
theorem rm(nd:Æ)(pe:č)(df:Ý)(ab:Ą):∀n,u=some n->(n∈out.map (λx=>x.2.1)↔∀m∈l,(look gs m).isSome=false):=by
 induction ab with
 |none=>intro n z;cases z
 |@up n' it l hl c ih =>
  intro n z;cases z;have inM:(look gs n').isSome=false->ł∈M.filter Ł:=λhg=>by refine ZF.mpr #[pe.mem_iff.mpr (tY hl),?_];unfold bP;rw[hg];rfl
  refine#[λh=>?_,λh=>?_]
  .exists[x,hx,e],Zu.mp h;exists[i1,i2],iq pe df x hx;have e:x.2.1=n':=e;have ex:x.2.2=it:=by exists[i,hi],ZV.mp i1;have:=cV nd hi;rw[e,hl]at this;exact(Zo this).symm
   intro m hm;rcases Zg.mp hm with rfl|hm
   .rw[<-e];exact i2
   .rcases df.par x hx with h1|⟨y,h1,h2⟩
    .exists[y,hy,rfl],Zu.mp h1;have:=(iL.mp hy).2;rw[ex]at this;rw[this]at c;cases c;cases hm
    .rw[ex]at h2;exact(ih _ h2).mp (Zu.mpr #[y,h1,rfl]) m hm
  .have hg:=inM (h n' Zq);cases hu:it.up with
   |none=>exact Zu.mpr #[(0,ł),df.sub _ (Zu.mpr #[ł,iL.mpr #[hg,hu],rfl]),rfl]
   |some p =>exists[y,hy,e],Zu.mp ((ih p hu).mpr λm hm=>h m (Zj _ hm));have e:y.2.1=p:=e;exact Zu.mpr #[(y.1+1,ł),df.kid y.1 y.2 hy _ (iL.mpr #[hg,by rw[e];exact hu]),rfl]
#check 0
theorem J1{ns:Pn}(h:ns.length<=63):∃cs:Pn,ce (ns.map V.int) ĵ (some 91)=cs.map V.int/\cs.length<=62:=by
 refine#[(ns.drop (HT.sIx (ns.map V.int).length 0 ĵ)).take (HT.sIx (ns.map V.int).length (ns.map V.int).length (some 91)-HT.sIx (ns.map V.int).length 0 ĵ),?_,?_]
 .unfold ce;rw[List.map_take,List.map_drop]
 .rw[y7,YL,Zd,D2 ⋯,D2 ⋯];have:(1:Ĉ).toNat=1:=rfl;omega
section
variable{L:L3}{W:List Str}{n:Ĝ}{e ol:Ol}
theorem RnK.small'(R:Ď)(h:ď):Small ol:=by refine#[?_,λm it hm=>R.sm.txt m it (by rw[h.1 m];exact hm)];have h1:=ZO List.length h.2;have h2:=R.le;rw[Zd]at h1;omega
theorem RnK.nd(R:Ď)(h:ď):(ol.map (·.1)).Nodup:=by rw[h.2];unfold ic;exact R.nod.sublist ě
theorem RnK.gone(R:Ď){ol':Ol}(h:Eqo e ol'/\ol'.map (·.1)=ic ç):∀x∈gkl Ő,(look ol' x.1).isSome=true:=λx hx=>by have h1:(look (gkl Ő) x.1).isSome=true:=fR.mpr (Zu.mpr #[x,hx,rfl]);unfold gkl at h1;rw[xB]at h1;exists[d,hd,e1],Kd (h1.resolve_left λz=>nomatch z);exists[z,z1,z2,rfl],rG.mp hd;rw[<-h.1];exact(R.held z z1 z2).2 _ e1
theorem RnK.len(R:Ď):(L.zip W).length=L.length:=by rw[List.length_zip,R.lw,Nat.min_self]
#check 0
theorem Id{K:Qa}:W.kitOne K Ŗ Ŗ=some true:=by with_unfolding_all rfl
theorem Jk{ol M:Ol}{k:Ĝ}(nd:Æ)(t:Ŀ)(pe:č)(df:Ý):out.length<=Ö:=by
 have:=sj ŏ (m:=ol.map (·.1)) λn hn=>by exists[x,hx,rfl],Zu.mp hn;exact Zu.mpr #[x.2,(iq pe df x hx).1,rfl]
 rw[Zd,Zd]at this;exact this
inductive MineAt(H:Hp)(mm:Pg)(ol:Ol):Prop
 |mk (mvs:_) (h0:H mm=some (.dT mvs)) (h1:Rows H mvs ol):MineAt H mm ol
theorem iN{H:Hp}{mm t:Pg}(hm:H mm=some (.dT mvs))(R:Rows H mvs ol)(hi:ItAt H Ŝ it):Rows û Î ũ/\TS H û/\But mm H û:=by have ts:=kX (kvs':=aS mvs (nk n) Ŝ) hm;exact#[Rows.ts (fV R hi) ts,ts,λb o e hb=>by rw[af hb];exact e]
theorem EJ:ce [a,b,c,d,e,f] none ŝ=[a,b]:=rfl
theorem EK:ce [a,b,c,d,e,f] (some 3) none=[d,e,f]:=rfl
theorem Nc:ce [a,b,c,d,e,f] ĵ none=[b,c,d,e,f]:=rfl
theorem Nd:ce [a,b,c,d] ŝ none=[c,d]:=rfl
theorem Nf:ce [a,b,c,d,e] ŝ none=[c,d,e]:=rfl
inductive spJoined(vs:Pz)(H:Hp)(Q:VK)(E:XK):Prop
 |mk (mm nb mb:Pg) (ol:Ol) (n m:Nm) (itn itm:It) (h0:vs=[.ref mm,.ref nb,.ref mb]) (h1:ŧ) (h2:Ċ) (h3:H mb=some (.tup ((nk m).map kV))) (h4:look ol n=some itn) (h5:look ol m=some itm) (h6:Ö<=63) (h7:itn.tx.length+itm.tx.length<=100000) (q:∀H' ol',But mm H H'->MineAt H' mm ol'->JoinR ol n m itn itm ol'->Q .non H'):spJoined vs H Q E
inductive JnI(mm nb mb:Pg)(ol4:Ol)(kvs4:Py)(n m:Nm)(H5:Hp)(i:Ĝ)(Z:St)(H':Hp):Prop
 |mk (bt:But mm H5 H') (kvs':Py) (ol':Ol) (o3:Option V) (h:H' mm=some (.dT kvs')) (R:Rows H' kvs' ol') (hk:kvs'.map (·.1)=kvs4.map (·.1)) (ll:ol'.length=ol4.length) (j1:∀x,nk x∈(kvs4.map (·.1)).take i->look ol' x=(look ol4 x).map (cP n m)) (j2:∀x,¬nk x∈(kvs4.map (·.1)).take i->look ol' x=look ol4 x) (e:Z=[some (.ref mm),some (.ref nb),some (.ref mb),o3]):JnI mm nb mb ol4 kvs4 n m H5 i Z H'
abbrev rg:Stmt:=top 53
abbrev Es:List Str:=["_law_have","_law_here","_law_there","_law_one"]
theorem vB:FnScope Es ["_law_have","_law_here","_law_there"] (aq rg):= ~~~0
theorem Dr(F:Fun K "_law_joined" "_law_joined" rg f fd)(j4:mg "list" = none):↑FnOk CX0 1 f fd ["_law_have","_law_here","_law_there"] spJoined:=by
 exists vB
 obtain⟨mm,nb,mb,ol,n,m,itn,itm,rfl,⟨kvs,hm,R⟩,hnb,hmb,hln,hlm,l4,lt,q⟩:=h;exists[iv,e1,ia,uv,pv,rfl,e2,e3,e4],aV R hln;exists[jv,f1,ja,uv',pv',rfl,f2,f3,f4],aV R hlm;have lk:=bT R;exists _,(b_c (eE Å ↑0 ↑1 (aF cO (aF cO (cG bK Ć cM æ) (aB (q_a (aF Dj (am ao Ć ah) (am ao ć ah)) ai))) (cG bK Ć æ cM)))
   (b_c (eE Å ↑0 ↑2 (aF cO (aF cO (cG bK ć cM æ) (aB Ű)) (cG bK ć æ cM)))
   (b_1 (eG Z0 rfl (bJ (oW (zw rfl) j4 ip Š)) (aD (i:=3) vB.nd) (b_1 (aZ (aE (nF Å) (am ao Ð ah) ↑2) (b_1 (eE Å ↑0 ↑3 (aF cO (aB Ā) Ņ))) b_0))))))
 refine ax λR0 hR0=>?_;refine#[_,rfl,_,rfl,mm,.ref ia,rfl,e1▸DGet.t (k:=nk n) hm hnb,_,rfl,ia,_,rfl,e2,λt1 H1 s1 y1=>?_];rw[EJ]at y1;refine#[_,rfl,_,rfl,mm,.ref ia,rfl,e1▸DGet.t (k:=nk n) ų (s1 _ _ hnb),ia,_,_,_,rfl,rfl,Pt (s1 _ _ e2),at2,_,rfl,_,rfl,mm,.ref ja,rfl,f1▸DGet.t (k:=nk m) ų (s1 _ _ hmb),ja,_,_,_,rfl,rfl,Pt (s1 _ _ f2),at2,_,_,rfl,rfl,BL ∅,sz rfl,λt2 g2=>?_];have w2:=ad g2 (.tup [.str (ğ++Ġ)]);refine#[t1,t2,_,_,rfl,rfl,w2 _ _ y1,ac,sz rfl,λt3 H3 s3 y3=>?_];have s03:=s1.trans Ę;refine#[_,rfl,_,rfl,mm,.ref ia,rfl,e1▸DGet.t (k:=nk n) (s03 _ _ hm) (s03 _ _ hnb),_,rfl,ia,_,rfl,s03 _ _ e2,λt4 H4 s4 y4=>?_];rw[EK]at y4;refine#[t3,t4,_,_,rfl,rfl,s4 _ _ y3,y4,sz rfl,λt5 H5 s5 y5=>?_];have s05:=s03.trans ę;refine#[_,rfl,_,rfl,mm,_,rfl,DPut.t (k:=nk n) Ħ Ţ ë,hR0 _ _ ?_];exists[R2,t2',b2],iN (n:=n) (it:={ itn with tx:=ğ++Ġ }) (t:=t5) Ħ (R.ts ì) #[t5,uv,pv,rfl,y5,e3.ts ì,e4.ts ì];have b1:=(But.of (d:=mm) s05).trans b2;have T1:=b1.ts hm;have hm1:upd H5 mm â mm=some â:=ac;generalize upd H5 mm â=H2 at R2 b1 T1 hm1 ⊢;generalize aS kvs (nk n) Ñ=kvs2 at R2 hm1;have ls2:(aw ol n { itn with tx:=ğ++Ġ }).length=Ö:=dM hln;obtain⟨itm2,hlm2⟩:∃it,look (aw ol n { itn with tx:=ğ++Ġ }) m=some it:=by
  rw[ay];split
  .exact#[_,rfl]
  .exact#[_,hlm]
 exists[kv,g1,ka,uw,pw,rfl,g2,g3,g4],aV R2 hlm2;have lk2:=bT R2;refine ax λR0 hR0=>?_;refine#[_,rfl,_,rfl,mm,.ref ka,rfl,g1▸DGet.t (k:=nk m) hm1 ħ,_,rfl,ka,_,rfl,g2,λt1 H3 s1 y1=>?_];rw[EJ]at y1;refine#[sz rfl,λt2 g2'=>?_];have w2:=ad g2' (.tup [.str ""]);refine#[t1,t2,_,_,rfl,rfl,w2 _ _ y1,ac,sz rfl,λt3 H4 s3 y3=>?_];have s03:=s1.trans Ę;refine#[_,rfl,_,rfl,mm,.ref ka,rfl,g1▸DGet.t (k:=nk m) (s03 _ _ hm1) (s03 _ _ ħ),_,rfl,ka,_,rfl,s03 _ _ g2,λt4 H5 s4 y4=>?_];rw[EK]at y4;refine#[t3,t4,_,_,rfl,rfl,s4 _ _ y3,y4,sz rfl,λt5 H6 s5 y5=>?_];have s05:=s03.trans ę;refine#[_,rfl,_,rfl,mm,_,rfl,DPut.t (k:=nk m) ţ (s05 _ _ ħ) ë,hR0 _ _ ?_];exists[R4,t4',b4],iN (n:=m) (it:={ itm2 with tx:="" }) (t:=t5) ţ (R2.ts ì) #[t5,uw,pw,rfl,y5,g3.ts ì,g4.ts ì];have b3:=b1.trans ((But.of (d:=mm) s05).trans b4);have T3:=b3.ts hm;have hm3:upd H6 mm Þ mm=some Þ:=ac;generalize upd H6 mm Þ=H7 at R4 b3 T3 hm3 ⊢;generalize aS kvs2 (nk m) Ñ=kvs4 at R4 hm3;have ls4:(aw (aw ol n { itn with tx:=ğ++Ġ }) m { itm2 with tx:="" }).length=Ö:=(dM hlm2).trans ls2;generalize hO4:aw (aw ol n { itn with tx:=ğ++Ġ }) m { itm2 with tx:="" }=ol4 at R4 ls4;refine#[_,rfl,mm,kvs4,rfl,.inl hm3,λl ks gl hk=>#[l,rfl,#[_,Pu ac],?_]];have wl:=ad gl è;have el:upd H7 l è l=some è:=ac;have nld:l≠mm:=λz=>by rw[z,hm3]at gl;cases gl
 have hm5:=wl _ _ hm3;have R5:Rows Ě kvs4 ol4:=R4.ts (Ps wl);have hk5:dO Ě kvs4 ks:=GL hk (Ps wl);have b5:But mm H Ě:=b3.trans (But.of wl);have nb5:=wl _ _ (T3 _ _ hnb);have mb5:=wl _ _ (T3 _ _ hmb);generalize upd H7 l è=H8 at el hm5 R5 hk5 b5 nb5 mb5 ⊢;have lks:=CS hk5;refine eh (K:=K) (a:=l) (xs:=ks) (JnI mm nb mb ol4 kvs4 n m H8) #[But.of Ť,kvs4,ol4,none,hm5,R5,rfl,rfl,λx h=>by simp at h,λ_ _=>rfl,rfl] (λi Z H' _ z=>by exists[bt,_],z;exact Pu (bt _ _ el nld)) ?_ ?_
 .rintro i v Z H' hv ⟨bt,kvs',ol',o4,x2,R',hk',ll,j1,j2,rfl⟩ DL hDL;have tt:=bt.ts hm5;exists[k,k1,vb',rfl,k2],CQ hk5 hv;exists[c,it,rfl,hc],yp R' (by rw[hk'];exact Z2 k1);exists[cv,c1,ca,uc,pc,rfl,c2,c3,c4],aV R' hc;exists[p1,p2,p3],kZ c3;exists[r1,r2,r3],kZ (u:=some m) (v:=.ref mb) #[mb,rfl,tt _ _ mb5];refine#[_,rfl,_,rfl,mm,.ref ca,rfl,c1▸DGet.t (k:=nk c) x2 ĳ,ca,_,_,_,rfl,rfl,Pt c2,at0,_,rfl,_,_,p1,r1,bO p2 ∅,bO r2 ∅,_,rfl,?_];have lk':=bT R';rw[pM];refine kf ſ ſ
  .refine#[_,rfl,sz rfl,λt1 g1=>?_];have w1:=ad g1 (.tup [.ref nb]);refine#[_,rfl,_,rfl,mm,.ref ca,rfl,c1▸DGet.t (k:=nk c) (w1 _ _ x2) (w1 _ _ ĳ),_,rfl,ca,_,rfl,w1 _ _ c2,λt2 H3 s3 e3=>?_];rw[Nc]at e3;refine#[t1,t2,_,_,rfl,rfl,s3 _ _ ac,e3,sz rfl,λt3 H4 s4 e4=>?_];have s24:=w1.trans (s3.trans s4);refine#[_,rfl,_,rfl,mm,_,rfl,DPut.t (k:=nk c) Ū (s24 _ _ ĳ) ë,hDL _ _ ?_];exists[aM,tM,bM],iN (n:=c) (it:={ it with up:=some n }) (t:=t3) Ū (R'.ts (Ps s24)) #[t3,.ref nb,pc,rfl,e4,#[nb,rfl,s24 _ _ (tt _ _ nb5)],c4.ts (Ps s24)];have er:cP n m it={ it with up:=some n }:=by unfold cP;rw[Pb eu]
   exists[z1,z2],qV (ol'':=aw ol' c { it with up:=some n }) k1 j1 j2 hc λx=>by rw[ay,er]
   exact#[bt.trans ((But.of s24).trans bM),_,_,_,ac,aM,by rw[xL (qm c1)];exact hk',by rw[dM hc];exact ll,z1,z2,rfl]
  .exists[z1,z2],qV (ol'':=ol') k1 j1 j2 hc λx=>by
    by_cases e:x=c
    .rw[Pb e,e,hc];unfold cP;rw[Pa eu]
    .rw[Pa e]
   exact hDL _ _ #[bt,kvs',ol',_,x2,R',hk',ll,z1,z2,rfl]
 .rintro Z H' ⟨bt,kvs',ol',o4,x2,R',hk',ll,j1,j2,rfl⟩;refine q H' ol' (b5.trans bt) #[kvs',x2,R'] #[ll.trans ls4,xU R' R4 hk' (by rw[<-hO4,cD,Pb (by rw[hlm2];rfl),cD,Pb (by rw[hln];rfl)]),itm2,hlm2,λx=>?_];rw[hO4];have ee:(kvs4.map (·.1)).take ks.length=kvs4.map (·.1):=by rw[Yt];rw[Zd,lks];exact Ze _
  rw[ee]at j1 j2;by_cases hx:nk x∈kvs4.map (·.1)
  .exact j1 x hx
  .rw[j2 x hx];have:=ir (n:=x) R4;rw[jc hx]at this;cases e:look ol4 x with
   |none=>rfl
   |some it=>rw[e]at this;cases this
def itV(uv pv:V)(it:It):Pz:=[uv,pv,.str Ĭ,.bl it.dn,whV it.wh,.bl it.fo]
def wd4:List (Key×V):=[((.inr "write":Key),.int 2),(.inr "mark",.int 3),(.inr "due",.int 4),(.inr "fold",.int 5)]
inductive Is4:Str->Int->Prop
 |write:Is4 "write" 2
 |mark:Is4 "mark" 3
 |due:Is4 "due" 4
 |fold:Is4 "fold" 5
inductive Four(H:Hp)(st:Pg)(ol:Ol)(s:Sd):Prop
 |mk (wd:Str) (k:Int) (n:Nm) (nb:Pg) (v:V) (it it':It) (h1:H st=some (.tup [.str wd,.ref nb,v])) (h2:Ċ) (h3:ň) (hw:Is4 wd k) (ap:Ap ol s (aw ol n it')) (hi:∀uv pv,(ce ŗ none (some k)++[v])++ce ŗ (some (k+1)) none=itV uv pv it') (hu:it'.up=ĺ) (hp:it'.pl=it.pl):Four H st ol s
theorem E3{w:Ř}{k:Ĉ}(h:Is4 w k):bc (gI [] wd4) (.inr w:Key)=some (.int k):=by cases h<;>decide +kernel
theorem Kj{w:Ř}{k:Ĉ}(h:Is4 w k):V.str w≠V.str "put"/\V.str w≠V.str "part"/\V.str w≠V.str "join"/\V.str w≠V.str "move"/\V.str w≠V.str "gone":=by cases h<;>decide +kernel
inductive Shp(H:Hp)(st:Pg)(ol:Ol):Sd->Prop
 |put {n u pl tx}:Shp H st ol (.put n u pl tx)
 |move {n u pl}:Shp H st ol (.move n u pl)
 |part {n a m pl}:Shp H st ol (.part n a m pl)
 |join {n m}:Shp H st ol (.join n m)
 |gone {n}:Shp H st ol (.gone n)
 |four {s} (h:Four H st ol s):Shp H st ol s
theorem shp{st:Pg}(hs:StAt H st s)(hh:fG ol s):Shp H st ol s:=by
 cases s with
 |put=>exact .put
 |move=>exact .move
 |part=>exact .part
 |join=>exact .join
 |gone=>exact .gone
 |write n v =>exists[_,h1,nb,rfl,hnb],hs;exists[it,hl],Zv.mp Ĥ;exact .four #[_,_,n,nb,_,it,_,h1,hnb,hl,.write,.write hl,λ_ _=>rfl,rfl,rfl]
 |mark n v =>exists[_,h1,nb,rfl,hnb],hs;exists[it,hl],Zv.mp Ĥ;exact .four #[_,_,n,nb,_,it,_,h1,hnb,hl,.mark,.mark hl,λ_ _=>rfl,rfl,rfl]
 |due n v =>exists[_,h1,nb,rfl,hnb],hs;exists[it,hl],Zv.mp Ĥ;exact .four #[_,_,n,nb,_,it,_,h1,hnb,hl,.due,.due hl,λ_ _=>rfl,rfl,rfl]
 |fold n v =>exists[_,h1,nb,rfl,hnb],hs;exists[it,hl],Zv.mp Ĥ;exact .four #[_,_,n,nb,_,it,_,h1,hnb,hl,.fold,.fold hl,λ_ _=>rfl,rfl,rfl]
inductive spLPlayed(vs:Pz)(H:Hp)(Q:VK)(E:XK):Prop
 |mk (mm st:Pg) (ol:Ol) (s:Sd) (h0:vs=[.ref mm,.ref st]) (h1:ŧ) (h2:StAt H st s) (h3:fG ol s) (h4:Small ol) (h5:∀n a m pl,s=.part n a m pl->0<=a) (q:∀H' ol',But mm H H'->MineAt H' mm ol'->Ap ol s ol'->Q .non H'):spLPlayed vs H Q E
abbrev pj:Stmt:=top 54
abbrev B8:List Str:=["_law_have","_law_step","_law_word","_law_here","_law_old","_law_at"]
theorem iH:FnScope B8 ["_law_have","_law_step"] (aq pj):= ~~~0
theorem Br(F:Fun K "_law_played" "_law_played" pj f fd)(Om:↑Fn 1 "_law_joined" ["_law_have","_law_here","_law_there"] spJoined):↑FnOk CX0 2 f fd ["_law_have","_law_step"] spLPlayed:=by
 exists iH
 obtain⟨mm,st,ol,sd,rfl,⟨mvs,hm,Rm⟩,hs,hh,sm,pa,q⟩:=h;exists _,(b_c (aC (i:=2) ŭ Í)
   (b_c (aC (i:=3) ŭ Í)
   (b_1 (aZ î (b_1 (eE Å ↑0 ↑3 (aF cO Ĺ (aB Č)))) (b_1 (aZ î (b_c (aC (i:=4) ŭ Ð)
   (b_c (eE Å ↑0 ↑3 (aF cO (aF cO (cG bK ↑4 cM æ) (aB (q_a (cG rV Ē cM (cg Í)) ai))) (cG bK ↑4 æ cM)))
   (b_1 (eE Å ↑0 Í (aB (q_a Ē (q_a Í (q_a (cG rV Ē (cg Í) cM) Č)))))))) (b_1 (aZ î (b_1 (bh (aO Om ↑99 (q_a ↑0 (q_a ↑3 Ŵ))))) (b_1 (aZ î (b_1 (eE Å ↑0 ↑3 (aF cO Ĺ Ņ))) (b_1 (aZ (aE Nx ↑2 ar) (b_c (aC (i:=5) ŭ (bo Å (Ln (BD ar ah (BD ar ah (BD ar ah (BD ar ah Nz))))) ↑2))
   (b_1 (eE Å ↑0 ↑3 (aF cO (aF cO (cG bK Ð cM (cg ↑5)) (aB Ŵ)) (cG bK Ð (cg (aF fN ↑5 ah)) cM))))) b_0))))))))))))
 have lmv:=bT Rm;have le:=sm.len;have it0:∀n∈sd.items,∃it,look ol n=some it:=λn hn=>Zv.mp (hh n hn);have fin:∀{H6:Hp} {t:Pg} {n:Nm} {it:It},Same H H6->ItAt H6 Ŝ it->Ap ol sd ũ->Q .non (upd H6 mm (.dT Î)):=fun{H6 t n it} s6 hi e=>by exists[a,b,c],iN (n:=n) (s6 _ _ hm) (Rm.ts (Ps s6)) hi;exact q _ _ ((But.of s6).trans c) #[_,ac,a] e
 cases shp hs hh with
 |four h4 =>
  exists[wd,k,n,nb,v,it,it',h1,hnb,hl,hw,ap,hi,hu,hp],h4;exists[iv,f1,ia,uv,pv,rfl,f2,f3,f4],aV Rm hl;exists[n1,n2,n3,n4,n5],Kj hw;refine(vix rfl Ú at0 (vix rfl Ú at1 ?_));refine#[_,rfl,rfl,_,rfl,aL n1 #[_,rfl,rfl,_,rfl,aL n2 #[_,rfl,rfl,_,rfl,aL n3 #[_,rfl,rfl,_,rfl,aL n4 #[_,rfl,rfl,_,rfl,?_]]]]];rw[decide_eq_false n5];refine bg ?_;refine ax λR0 hR0=>?_;intro pF gF;have wF:=ad gF (.dK []);refine#[ac,wd4,rfl,Nat.le_of_ble_eq_true rfl,?_];have wF2:Same H (upd ü pF à):=λb o e=>by have:b≠pF:=aj e gF;rw[af this,af this];exact e
  have eF:upd ü pF à pF=some à:=ac;generalize upd ü pF à=H1 at wF2 eF ⊢;refine#[_,rfl,pF,.int k,rfl,E3 hw▸DGet.k (k:=(.inr wd:Key)) eF,hR0 _ _ ?_];have hm1:=wF2 _ _ hm;have hn1:=wF2 _ _ hnb;refine#[_,rfl,_,rfl,mm,.ref ia,rfl,f1▸DGet.t (k:=nk n) hm1 hn1,_,rfl,_,rfl,ia,_,rfl,wF2 _ _ f2,λt1 H2 s2 e1=>?_];refine(vix rfl (Pt (s2 _ _ (wF2 _ _ h1))) at2 #[sz rfl,λt2 g2=>?_]);have w2:=ad g2 (.tup [v]);refine#[t1,t2,_,_,rfl,rfl,w2 _ _ e1,ac,?_,λt3 H3 s3 e3=>?_]
  .cases hw<;>exact sz rfl
  have s13:=s2.trans Ę;refine#[_,rfl,_,rfl,mm,.ref ia,rfl,f1▸DGet.t (k:=nk n) (s13 _ _ hm1) (s13 _ _ hn1),_,rfl,_,_,rfl,rfl,_,rfl,ia,_,rfl,s13 _ _ (wF2 _ _ f2),λt4 H4 s4 e4=>?_];refine#[t3,t4,_,_,rfl,rfl,s4 _ _ e3,e4,?_,λt5 H5 s5 e5=>?_]
  .cases hw<;>exact sz rfl
  have s05:=wF2.trans (s13.trans ę);have e5':H5 t5=some (.tup (itV uv pv it')):=by rw[<-hi];exact e5
  refine#[_,rfl,_,rfl,mm,_,rfl,DPut.t (k:=nk n) Ħ Ţ ë,?_];exact fin s05 #[t5,uv,pv,rfl,e5',by rw[hu];exact f3.ts ì,by rw[hp];exact f4.ts ì] ap
 |@put n u pl tx =>exists[nv',uv,pv,h1,h2,h3,h4],hs;exists[nb,rfl,hnb],id h2;refine(vix rfl Ú at0 (vix rfl Ú at1 #[_,rfl,rfl,_,rfl,di ?_]));refine#[_,rfl,_,rfl,st,_,rfl,h1,λt1 H5 s5 e5=>?_];rw[Nf]at e5;refine#[sz rfl,λt2 g2=>?_];have w2:=ad g2 (.tup [.bl false,.non,.bl false]);refine#[t1,t2,_,_,rfl,rfl,w2 _ _ e5,ac,sz rfl,λt3 H6 s6 e6=>?_];have sc6:Same H H6:=s5.trans ť;refine#[_,rfl,_,rfl,mm,_,rfl,DPut.t (k:=nk n) (sc6 _ _ hm) (sc6 _ _ hnb) ë,?_];exact fin (it:=#[u,pl,tx,false,none,false]) sc6 #[t3,uv,pv,rfl,e6,h3.ts (Ps sc6),h4.ts (Ps sc6)] .put
 |@move n u pl =>exists[nv',uv,pv,h1,h2,h3,h4],hs;exists[nb,rfl,hnb],id h2;exists[it,hl],it0 n Ä;exists[iv,f1,ia,uv0,pv0,rfl,f2,f3,f4],aV Rm hl;refine(vix rfl Ú at0 (vix rfl Ú at1 #[_,rfl,rfl,_,rfl,aL (show V.str "move"≠V.str "put" by decide) #[_,rfl,rfl,_,rfl,aL (show V.str "move"≠V.str "part" by decide) #[_,rfl,rfl,_,rfl,aL (show V.str "move"≠V.str "join" by decide) #[_,rfl,rfl,_,rfl,di ?_]]]]));refine#[_,rfl,_,rfl,st,_,rfl,h1,λt1 H5 s5 e5=>?_];rw[Nd]at e5;refine#[_,rfl,_,rfl,mm,.ref ia,rfl,f1▸DGet.t (k:=nk n) (s5 _ _ hm) (s5 _ _ hnb),_,rfl,ia,_,rfl,s5 _ _ f2,λt2 H6 s6 e6=>?_];rw[AZ]at e6;refine#[t1,t2,_,_,rfl,rfl,s6 _ _ e5,e6,sz rfl,λt3 H7 s7 e7=>?_];have sc7:Same H H7:=s5.trans (s6.trans s7);refine#[_,rfl,_,rfl,mm,_,rfl,DPut.t (k:=nk n) (sc7 _ _ hm) (sc7 _ _ hnb) ë,?_];exact fin (it:={ it with up:=u,pl:=pl }) sc7 #[t3,uv,pv,rfl,e7,h3.ts (Ps sc7),h4.ts (Ps sc7)] (.move hl)
 |@gone n =>exists[nv',h1,h2],hs;refine(vix rfl Ú at0 (vix rfl Ú at1 #[_,rfl,rfl,_,rfl,aL (show V.str "gone"≠V.str "put" by decide) #[_,rfl,rfl,_,rfl,aL (show V.str "gone"≠V.str "part" by decide) #[_,rfl,rfl,_,rfl,aL (show V.str "gone"≠V.str "join" by decide) #[_,rfl,rfl,_,rfl,aL (show V.str "gone"≠V.str "move" by decide) #[_,rfl,rfl,_,rfl,nB rfl ?_]]]]]));exact q H ol (But.of Ť) #[mvs,hm,Rm] .gone
 |@join n m =>exists[nv',mv,h1,h2,h3],hs;exists[nb,rfl,hnb],id h2;exists[mb,rfl,hmb],id h3;exists[it,hl],it0 n Ä;exists[im,hlm],it0 m Ä;have tl:=sm.txt n it hl;have tm:=sm.txt m im hlm;refine(vix rfl Ú at0 (vix rfl Ú at1 #[_,rfl,rfl,_,rfl,aL (show V.str "join"≠V.str "put" by decide) #[_,rfl,rfl,_,rfl,aL (show V.str "join"≠V.str "part" by decide) #[_,rfl,rfl,_,rfl,di ?_]]]));refine#[_,rfl,_,rfl,vix rfl Ú at2 ?_];exact#[mm,nb,mb,ol,n,m,it,im,rfl,#[mvs,hm,Rm],hnb,hmb,hl,hlm,le,∅,λH' ol' b M j=>q H' ol' b M (.join hl hlm j)]
 |@part n a m pl =>exists[nv',mv,pv,h1,h2,h3,h4],hs;exists[nb,rfl,hnb],id h2;exists[mb,rfl,hmb],id h3;exists[it,hl],it0 n Ä;exists[iv,f1,ia,uv0,pv0,rfl,f2,f3,f4],aV Rm hl;have tl:=sm.txt n it hl;have a0:=pa n a m pl rfl;have ea:(if(0:Ĉ)>a then 0 else a)=a:=Pa ∅;refine(vix rfl Ú at0 (vix rfl Ú at1 #[_,rfl,rfl,_,rfl,aL (show V.str "part"≠V.str "put" by decide) #[_,rfl,rfl,_,rfl,di ?_]]));refine ax λR0 hR0=>?_;refine#[_,rfl,_,rfl,mm,.ref ia,rfl,f1▸DGet.t (k:=nk n) hm hnb,hR0 _ _ ?_];refine ax λR0 hR0=>?_;refine#[_,rfl,_,rfl,ia,_,rfl,f2,λt1 H5 s5 e5=>?_];rw[EJ]at e5;refine(vix rfl (Pt (s5 _ _ f2)) at2 (vix rfl (Pt (s5 _ _ h1)) at2 #[_,rfl,Ĭ,rfl,∅,sz rfl,λt2 g2=>?_]));have w2:=ad g2 (.tup [.str (bY Ĭ none Ķ)]);refine#[t1,t2,_,_,rfl,rfl,w2 _ _ e5,ac,sz rfl,λt3 H6 s6 e6=>?_];have s06:Same H H6:=s5.trans ť;refine#[_,rfl,_,rfl,ia,_,rfl,s06 _ _ f2,λt4 H7 s7 e7=>?_];rw[EK]at e7;refine#[t3,t4,_,_,rfl,rfl,s7 _ _ e6,e7,sz rfl,λt5 H8 s8 e8=>?_];have s08:Same H H8:=s06.trans (s7.trans s8);refine#[_,rfl,_,rfl,mm,_,rfl,DPut.t (k:=nk n) ū (s08 _ _ hnb) ë,hR0 _ _ ?_];exists[R9,t9,b9],iN (n:=n) (it:={ it with tx:=bY Ĭ none Ķ }) (t:=t5) ū (Rm.ts Ş) #[t5,uv0,pv0,rfl,e8,f3.ts Ş,f4.ts Ş];have B9:=(But.of (d:=mm) s08).trans b9;have T9:=B9.ts hm;have hm9:upd H8 mm ã mm=some ã:=ac;generalize upd H8 mm ã=H9 at hm9 R9 B9 T9 ⊢;generalize aS mvs (nk n) Ñ=mvs9 at hm9 R9;have l9:=bT R9;have ln:=dM (i:=({ it with tx:=bY Ĭ none Ķ }:It)) hl;refine(vix rfl ņ at0 (vix rfl Ň at4 (vix rfl ņ at2 (vix rfl Ň at2 #[_,rfl,Ĭ,rfl,∅,sz rfl,λt6 g6=>?_]))));have w6:=ad g6 Ó;have TA:TS H (upd H9 t6 Ó):=λc zs e=>w6 _ _ (T9 _ _ e);refine#[_,rfl,vix rfl (Pt (TA _ _ h1)) at3 #[mm,_,rfl,DPut.t (k:=nk m) Ŭ (TA _ _ hmb) ë,?_]];exists[aA,tA,bA],iN (n:=m) (it:=#[ĺ,pl,bY Ĭ Ķ none,false,none,false]) (t:=t6) Ŭ (R9.ts (Ps w6)) #[t6,uv0,pv,rfl,ac,f3.ts TA,h4.ts TA];have ap:=Ap.part (n:=n) (a:=a) (m:=m) (pl:=pl) hl;rw[ea]at ap;exact q _ _ (B9.trans ((But.of w6).trans bA)) #[_,ac,aA] ap
end
mutual
#check#[(by intro _ z;nomatch z),(am ao ↑7 ah),(br ol (Dl (L.zip W))),((L.zip R).take k),(u0.map (·.1)),(.tup [.int (L[k].2.1:Int),.int (au L[k].2.2.1 L[k].2.1)]),(.tup [.ref tn,.ref st]),(gH (bq (aT ⋯) aK (bq (aT ⋯) aK fB bG) (bZ aK bG))),(L.zip W),(M.filter (dX gn)),((ol.map (·.1)).Nodup),(out.map rwD),(q_a (oW xj j4 ip (q_a ↑2 ai)) ai),(.frz ob (.dT mvs)),(z.1,rpZ ol ov ts Zq0 z),(.ref L[k].1),(upd H6 pd (.lst (us++[.ref tt]))),(.tup [.str "take",.str "back",.str "off",.str "on",.str "none"]),(V.str L[k].2.2.2.word),(.tup [.str "gone",iv]),(Pt g34),(.tup [.int h,.int 1]),(upd H' lN (.lst ys)),0,((Zq0.map λz=>nm3 z.1.2).Nodup),(OvR ((ci Zq0).map Prod.snd) ov),(↑MFnX 4 C "step" ["self","step"] (spStepA C cT cN cB cF)),(Eqo e o/\o.map (·.1)=ic È),(.tup [.int 0,.non]),(.tup [.str "done",.str "top",.str "over",.str "kept"]),(Dl Zq0),(.tup [.str "put",.ref tn,.non,.ref tp,.str "more"]),(jr ((L.zip R).take (k+1))),(wu _ _ hd3),(λ_ _ _ z=>z.2.1),(.ref pd),(.ref tn),(#[rfl,⋯,⋯,rfl,trivial]:CompOk _ _ [] []),(nm3 z.1.2,s),(aw ol n0 i0),hr.units,(.lst [.ref t0]),(.ref wa),(.ref l),(.ref f),(am ao ↑4 ah),(gi (eQ Â) ov ts È),(λn=>W.nsIn K mainGlobals n=some none),(q_a ar (q_a ar (q_a ar (q_a ar ai)))),(∀x∈out,PyData.strOk x.2.2.tx=true),(.ref t),(ol.filter (dX gn)),(.ref fl),(.ref pg),(Same.refl _),0,(b_1 (aG iE)),(upd H8 pg (.lst (gs++[.ref tt]))),(.lst as0),(.tup [.str "take",.str "join"]),(nm3 z.1.2,it,fH ol Þ z.1.2 it),((ol.take (i+1)).filter (dX gn)),(nm3 L[k].2),(List DI),(Pg×D3),(M.filter (dX (G.map (·.1)))),((aP rs++goL G).map Prod.snd),(SsAt H'),(L.zip R),(.lst rs),(λl z=>goS l z.1.2 z.2.2.1),((ol.take i).filter (dX gn)),wd.word,(am ao ↑5 ah),(λ_ _ _ _=>iM),(.tup [.int 0]),(∀z∈Zq0,wdR z.1.2.2.2 z.2),gM.nd,(.list Ë),(λo gs=>Û/\gs=gsF [] G),(M.Pairwise leP),(ZJ _ _),(.tup ((nk x.1).map kV)),us.length,gs.length,zs.length,(q_a ↑1 ai),(aE bW Á ar),(ol.filter v),(.lst (aR L)),(am ao ↑7 (FR BT ah)),(by rw[hu];exact .none),h.toNat,(.lst zs),(.ref mm),(.ref gl),(.dT mvs),(some ì),(.inr #[ob,sF _ _ eF]),(x.2.up=u0.map (·.1)),(M.Perm ol),(λx=>x.2.1),(au sc (0:Int).toNat),(V.str Ĉ≠V.str "put"),(bS ai),(α->β->Prop),fY.nd,(h,1),(nm3 z.1.2),(toD z.1.2),(q_a ah ai),(goZ Ã),(M2.filter (bP gs)),(Nat),(Option V),(∀z∈A,z∈Zq0),(M.filter (bP gs)),(mD Ob ↑99 ↑9),(Runs ts tn ol ds rs),iT.nd,(br ol Þ),(gsF [] G),(Zq0.map λz=>Î),(bo è ↑1 ↑0),(SS.map Prod.snd),(W.keepIn K ì=true),ol.length,ys.length,(Ps sm),((d.1,w,so)::rs),(Nm×It),(As Dd),(Ol->As Unit->Prop),(List Sd),(.lst ys),(.lst us),(bJ ↑3),0,(z.1.1,s),(Zj _ hy),(wr z hz),(.lst gv),(aj e nx),(k+1),(Cn (h _ _ hl)),(upd H13 tn Õ),(RwsAt H' outd rs),(st0.trans hs),(by rw[z];rfl),(upd H6 st Ó),(upd H1 t0 Ü),(upd Ö mm Ġ),(aw gs x.1 ()),(look ol n0=none),(Ps s46),(.ref a),(.ref R),(Pt hst),(aE bW ĉ ar),(q_a ↑7 ai),(V.str r.2.1),(q_a ↑5 ai),(d0+1,some x),(q_a ↑2 ai),(As Nm),(Dfs M st out k),(Zq0.take i),(wu _ _ hg4),(iP λh=>?_),(M.filter v),(hR0 _ _ ?_),(Str),(Ps wn),(Ps w3),(Pt ac),(Ps wu),(Ps wr),(cg ah),(Ps sF),(q_a Á ai),(q_a ar ai),(sF _ _ c2),(ss.drop i),(sok r hr'),(sm _ _ e1),(TS H H'),(List α),(List β),out.length,bs.reverse,(Ā×Rp),(i+1)]
def uh(w:ū):Sd->Sd
 |.put n u pl tx=>.put n (if w="done" then u else none) pl tx
 |s=>s
def stD(d:D3)(w:ū):Option Sd:=if qZ w=true then(cQ (nm3 d) d.2.2).map (uh w)else none
def goS(l:Ť)(d:D3)(w:ū):As Nm:=match bH d.2.2 with
 |some it=>if w="done"/\(look l it).isSome=false then aw l it (nm3 d)else l
 |none=>l
abbrev ZR:=List ž
def jr(Zq0:ZR):List (Nm×Sd):=Zq0.filterMap λz=>(stD z.1.2 z.2.2.1).map λs=>æ
def goZ(Zq0:ZR):As Nm:=Zq0.foldl Ć []
theorem uY(Zq0:ZR)(z:ž):jr (Zq0++[z])=jr Zq0++((stD z.1.2 z.2.2.1).map λs=>æ).toList:=by
 unfold jr;rw[Y6];cases h:(stD z.1.2 z.2.2.1).map λs=>(nm3 z.1.2,s)with
 |none=>rw[Z6,h];rfl
 |some s=>rw[Z6,h];rfl
theorem xD(Zq0:ZR)(z:ž):goZ (Zq0++[z])=goS (goZ Zq0) z.1.2 z.2.2.1:=by unfold goZ;rw[List.foldl_append];rfl
theorem dL(h:Paired (SsAt H) us rs)(t:Ź):Paired ă us rs:=Paired.mapP h λ_ _ z=>by exists[a,st,nv,h1,h2,h3,h4],z;exact#[a,st,nv,h1,t _ _ h2,h3.ts' t,h4.ts t]
theorem HW{wd:Wd}(h1:ħ)(h2:V.str Ĉ≠V.str "part"):(!inV (.str Ĉ) [.str "take",.str "back",.str "off",.str "on",.str "none"])=(cQ n wd).isSome:=by cases wd<;>first|exact absurd rfl h1|exact absurd rfl h2|(simp only[Wd.word,cQ,Option.isSome];decide +kernel)
theorem oV{wd:Wd}{w:ū}(h1:ħ):(cQ n wd).map (uh w)=cQ n wd:=by
 cases wd with
 |put=>exact absurd rfl h1
 |_=>rfl
theorem Em{wd:Wd}(h:V.str Ĉ=V.str "put"):∃u pl tx,wd=.put u pl tx:=by revert h;cases wd<;>simp only[Wd.word]<;>first|exact λ_=>#[_,_,_,rfl]|exact λh=>absurd h ⋯
theorem JD{wd:Wd}(h:V.str Ĉ=V.str "part"):∃n a pl,wd=.part n a pl:=by revert h;cases wd<;>simp only[Wd.word]<;>first|exact λ_=>#[_,_,_,rfl]|exact λh=>absurd h ⋯
inductive spLSteps(vs:Pz)(H:Hp)(Q:VK)(E:XK):Prop
 |mk (l fl:Pg) (L:L3) (ys:Pz) (R:List Rp) (h0:vs=[.ref l,.ref fl]) (h1:LR3 H l L) (h2:H fl=some ņ) (h3:Paired (RpAt H) ys R) (h4:R.length=L.length) (h5:L.length<=63) (q:∀D us H',Same H H'->H' D=some Ň->Paired ă us (jr Ą++goL (goZ Ą))->Q (.ref D) H'):spLSteps vs H Q E
inductive StI(H:Hp)(l fl pd pg:Pg)(Zq0:ZR)(i:ı)(Z:St)(H':Hp):Prop
 |mk (S:Same H H') (o4 o5 o6 o7 o8:Option V) (us gs:Pz) (hd:H' pd=some Ň) (hg:H' pg=some (.lst gs)) (pu:Paired ă us (jr Ŧ)) (pv:Paired ă gs (goL (goZ Ŧ))) (lu:ē<=i) (lg:Ĕ<=i) (e:Z=[some ë,some ô,some ã,some õ,o4,o5,o6,o7,o8]):StI H l fl pd pg Zq0 i Z H'
inductive StJ(l fl pd pg:Pg)(H1:Hp)(D:List (Nm×Sd))(k:ı)(v4 v5 v6 v7:V)(Z:St)(H':Hp):Prop
 |mk (b:But pd H1 H') (us:Pz) (hd:H' pd=some Ň) (pu:Paired ă us D) (lu:ē<=k) (o8:Ĳ) (e:Z=[some ë,some ô,some ã,some õ,some v4,some v5,some v6,some v7,o8]):StJ l fl pd pg H1 D k v4 v5 v6 v7 Z H'
abbrev uB:Stmt:=top 52
abbrev Hm:List Str:=["_law_deeds_here","_law_rows_here","_law_due","_law_gone","_law_deed","_law_row","_law_name","_law_what_here","_law_up"]
theorem fY:FnScope Hm ["_law_deeds_here","_law_rows_here"] (aq uB):= ~~~0
theorem Fv(F:Fun K "_law_steps" "_law_steps" uB f fd)(u4:mg "zip" = none):↑FnOk CX0 2 f fd ["_law_deeds_here","_law_rows_here"] spLSteps:=by
 exists fY
 exists[l,fl,L,ys,R,rfl,hL,hf,pR,lR,l63,q],h;have lys:=Zw pR;exists _,(b_c (aC (i:=2) Ī Ĩ)
   (b_c (aC (i:=3) Ī Ĩ)
   (b_c (eG Z0 rfl (zQ u4 (q_a ↑0 Ė)) (iZ rfl (bE (aD (i:=4) Ī) (bE (aD (i:=5) Ī) fe))) (b_c (aC (i:=6) Ī (aB (q_a í (q_a (am ao í í) ai))))
   (b_c (aC (i:=7) Ī í)
   (b_c (mI (aZ (aE (jd (K:=K) rfl) ĉ (aB ð)) (b_1 (aZ ė (b_c (aC (i:=8) Ī (yi Ş Á cz))
   (b_1 (bh (eT ↑2 (aB (q_a ↑6 (q_a (aB (q_a ar (q_a ↑6 (q_a ↑8 (q_a Á ų))))) ai))))))) (b_1 (aZ ė (b_1 (bh (eT ↑2 (aB (q_a ↑6 (q_a (aB (q_a ar (q_a Á (q_a Á (q_a ↑6 ų))))) ai)))))) (b_1 (aZ (aE (Fm (K:=K) rfl) Á (aB (q_a ar ð))) (b_1 (bh (eT ↑2 (aB (q_a ↑6 ş))))) b_0)))))) b_0))
   (b_1 (aZ (t_w (fm (aE (jd (K:=K) rfl) Á (aB (q_a ar Ŵ))) (fm Ş (fz (aE (vw (K:=K) rfl hr) Ě (dH (own:=["_law_mine","_law_step"]) å rfl ň (λ_ _ _ _=>gG (K:=K) (n:=2) rfl rfl (bE (aD (i:=0) (show (["_law_mine","_law_step"]:List Str).Nodup by decide)) (bE (aD (i:=1) (show (["_law_mine","_law_step"]:List Str).Nodup by decide)) fe))) Ç Ċ (λ_ _ _ _=>(am (iJ (K:=K) rfl) ↑1 ah)))))))) (b_1 (bh (eT ↑3 (aB (q_a ↑6 (q_a (aB (q_a ar (q_a Ě ai))) ai)))))) b_0))))))
   (b_1 (aG (aF qd ↑2 ↑3))))))
 refine ax λR0 hR0=>?_;refine#[sz rfl,λpd gpd=>hR0 _ _ ?_]
 ext gpd H1 w1 ed
 refine ax λR0 hR0=>?_;refine#[sz rfl,λpg gpg=>hR0 _ _ ?_]
 ext gpg H2 w2 eg
 have ed2:=w2 _ _ ed;have ndg:pd≠pg:=λz=>by rw[z,gpg]at ed;cases ed
 have fpg:H pg=none:=w1.free gpg;have s2:=w1.trans w2;have lz:(L.zip R).length=L.length:=by rw[List.length_zip,lR,Nat.min_self]
 refine ax λR0 hR0=>?_;refine#[_,rfl,_,rfl,l,fl,_,_,rfl,Pu (s2 _ _ hL.1),Pu (s2 _ _ hf),by rw[aY];omega,?_];refine EV (K:=K) (a:=l) (b:=fl) (xs:=aR L) (ys:=ys) (StI H l fl pd pg Ą) #[s2,none,none,none,none,none,[],[],ed2,eg,.nil,.nil,Ze _,Ze _,rfl] (λi Z H' _ z=>by exists[S,_],z;exact Pu (S _ _ hL.1)) (λi Z H' _ z=>by exists[S,_],z;exact Pu (S _ _ hf)) (by rw[aY];omega) ?_ ?_
 .rintro k x y Z H' hx hy ⟨sm,o4,o5,o6,o7,o8,us,gs,hd,hg,pu,pv,lu,lg,rfl⟩ T' gT;exists[hk,rfl],eX hx
  ext gT H1 wT zz
  have S1:=sm.trans wT;exists[r,hr',t,nv,bv,rfl,e1,e2,e3],ba pR hy;have hz:Ą[k]?=some (L[k],r):=List.getElem?_zip_eq_some.mpr #[Zf hk,hr'];have ez:=eJ hz;have e1':=S1 _ _ e1;exists[c,wa,f1,f2,f3,f5,f6],(hL.same S1).2 _ (ZL hk);refine ax λR1 hR1=>?_;refine vix rfl (Pt f1) at0 #[_,rfl,_,_,_,_,rfl,rfl,Pt f1,at1,_,rfl,_,_,_,_,rfl,rfl,Pt f1,at0,c,_,_,_,rfl,rfl,Pt f2,iO f5,sz rfl,λtn gtn=>hR1 _ _ ?_];have wn:=ad gtn Å;have en:NameIs (upd H1 tn Å) ä (nk þ):=#[tn,rfl,ac]
  generalize upd H1 tn Å=H3 at wn en ⊢;have S3:=S1.trans wn;have w3:=wT.trans wn;refine ax λR1 hR1=>?_;refine vix rfl (Pt (wn _ _ f1)) at2 (hR1 _ _ ?_);have f3':=f3.ts Ŭ;exists[rw',g3,g4],id f3';have e13:=wn _ _ e1';have hd3:=w3 _ _ hd;have hg3:=w3 _ _ hg;have pu3:=dL pu ŭ;have pv3:=dL pv ŭ;refine#[StJ l fl pd pg H3 à ŏ Ï ò ä ê,?_,?_]
  .refine vix rfl (Pt e13) at1 #[sz rfl,λu gu=>?_];have wu:=ad gu Ý;refine#[u,_,rfl,.inr Ů,rfl,rfl,_,rfl,?_];have ei:(if false=true then !inV Š [.str "done",.str "top",.str "over",.str "kept"]else inV Š [.str "done",.str "top",.str "over",.str "kept"])=qZ r.2.1:=rfl;rw[ei];generalize upd H3 u Ý=H4 at wu ⊢;have g34:=wu _ _ g3;have no:stD L[k].2 r.2.1=none->StJ l fl pd pg H3 à ŏ Ï ò ä ê [some ë,some ô,some ã,some õ,some Ï,some ò,some ä,some ê,o8] H4:=λh=>#[But.of wu,us,wu _ _ hd3,by rw[ez,uY,h];exact(ZD (jr _)).symm▸dL pu3 ů,∅,_,rfl]
   have yes:∀{s:Sd} {st tt:Pg} {H6:Hp} {o:Ĳ},stD L[k].2 r.2.1=some s->Same H4 H6->StAt H6 st s->H6 tt=some Æ->StJ l fl pd pg H3 à ŏ Ï ò ä ê [some ë,some ô,some ã,some õ,some Ï,some ò,some ä,some ê,o] Ð:=fun{s st tt H6 o} h s6 hst htt=>by
    have sw:=wu.trans s6;have t6:TS H6 Ð:=jp λws e'=>by rw[sw _ _ hd3]at e';cases e'
    have t36:TS H3 Ð:=λb zs e=>t6 _ _ (sw _ _ e);refine#[λb o e hb=>by rw[af hb];exact sw _ _ e,_,ac,?_,by rw[Zh];exact ZT lu,_,rfl];rw[ez,uY];refine kz (dL pu3 t36) ?_;show Paired _ _ ((stD L[k].2 r.2.1).map λs=>(nm3 L[k].2,s)).toList;rw[h];exact .cons #[tt,st,.ref tn,rfl,t6 _ _ htt,en.ts' t36,hst.ts t6] .nil
   cases hl:qZ r.2.1 with
   |false=>exact aI (no (by unfold stD;rw[hl];rfl))
   |true =>
    refine bg ?_;have st0:stD L[k].2 r.2.1=(cQ þ L[k].2.2.2).map (uh r.2.1):=by unfold stD;rw[Pb hl]
    by_cases c1:V.str L[k].2.2.2.word=V.str "put"
    .exists[u0,pl,tx,ew],Em c1;rw[ew]at g34 g4 st0;exists[uv,pv,rfl,q1,q2],id g4;have ts4:=Ps wu;refine vix rfl Ô at0 #[rfl,_,rfl,di ?_];refine ax λR1 hR1=>?_;have hR:∀ uv',UpAt H4 uv' (if r.2.1 = "done" then u0 else none)->R1.nx [some ë,some ô,some ã,some õ,some Ï,some ò,some ä,some ê,some uv'] H4:=λuv' hu=>hR1 _ _ (by
      refine#[_,rfl,.inl #[rfl,_,Pu á],_,rfl,_,rfl,_,rfl,vix rfl Ô at2 (vix rfl Ô at3 #[sz rfl,λst gst=>#[sz rfl,λtt gtt=>?_]])];have wst:=ad gst (.tup [.str "put",.ref tn,uv',pv,.str tx]);have wtt:=ad gtt Æ;have s46:=wst.trans wtt;refine#[pd,_,_,rfl,rfl,s46 _ _ á,aJ ∅,?_];exact yes st0 s46 #[.ref tn,uv',pv,wtt _ _ ac,(en.ts' ts4).same s46,hu.ts Ś,(q2.ts ts4).ts Ś] ac)
     refine vix rfl (Pt (wu _ _ e13)) at1 #[rfl,_,rfl,kf (λhc=>vix rfl Ô at1 (hR uv ?_)) λhc=>hR .non ?_]
     .rw[Pb (V.str.inj hc)];exact q1.ts ts4
     .rw[Pa λz=>hc (ZO V.str z)];exact rfl
    .refine vix rfl Ô at0 #[rfl,_,rfl,aL c1 ?_];by_cases c2:V.str L[k].2.2.2.word=V.str "part"
     .exists[n0,a0,pl,ew],JD c2;rw[ew]at g34 g4 st0;exists[nv',pv,rfl,q1,q2],id g4;have ts4:=Ps wu;refine vix rfl Ô at0 #[rfl,_,rfl,di ?_];refine#[_,rfl,.inl #[rfl,_,Pu á],_,rfl,vix rfl Ô at1 (vix rfl Ô at2 #[_,rfl,vix rfl Ô at3 #[sz rfl,λst gst=>#[sz rfl,λtt gtt=>?_]]])];have wst:=ad gst (.tup [.str "part",nv',.int a0,.ref tn,pv]);have wtt:=ad gtt Æ;have s46:=wst.trans wtt;refine#[pd,_,_,rfl,rfl,s46 _ _ á,aJ ∅,?_];exact yes st0 s46 #[nv',.ref tn,pv,wtt _ _ ac,(q1.ts' ts4).same s46,(en.ts' ts4).same s46,(q2.ts ts4).ts Ś] ac
     .refine vix rfl Ô at0 #[rfl,_,rfl,aL c2 (vix rfl Ô at0 #[sz rfl,λu2 gu2=>?_])];have wu2:=ad gu2 Ñ;refine#[u2,_,rfl,.inr Ů,rfl,rfl,_,rfl,?_];have ei2:(if true=true then !inV Ò [.str "take",.str "back",.str "off",.str "on",.str "none"]else inV Ò [.str "take",.str "back",.str "off",.str "on",.str "none"])=(cQ þ L[k].2.2.2).isSome:=HW c1 c2;rw[ei2];generalize upd H4 u2 Ñ=H5 at wu2 ⊢;rw[oV c1]at st0;cases hs:cQ þ L[k].2.2.2 with
      |none =>refine aI ?_;exists[b,us',h1,h2,h3,o,e],no œ;exact#[b.trans (But.of wu2),us',wu2 _ _ h1,dL h2 (Ps wu2),h3,o,e]
      |some sd =>refine bg #[_,rfl,.inl #[rfl,_,Pu (wu2 _ _ á)],_,rfl,_,rfl,sz rfl,λtt gtt=>?_];have wtt:=ad gtt (.tup [.ref tn,.ref wa]);have s46:=wu2.trans wtt;refine#[pd,_,_,rfl,rfl,s46 _ _ á,aJ ∅,?_];exact yes œ s46 ((yG (λu pl tx z=>c1 Ŕ) (λn a pl z=>c2 Ŕ) hs #[rw',g3,g4]).ts (Ps (wu.trans s46))) ac
  .rintro σ' H4 ⟨bt,us',hd4,pu4,lu4,o8',rfl⟩;have t34:TS H3 H4:=λb zs e=>bt _ _ e λz=>by rw[z,hd3]at e;cases e
   have g34:=t34 _ _ g3;have hg4:=bt _ _ hg3 (ZQ ndg);have pv4:=dL pv3 t34;have S4:Same H H4:=λb o e=>bt _ _ (S3 _ _ e) (aj e gpd);have en4:=en.ts' t34;have e14:=t34 _ _ e13;have g44:=g4.ts t34;have no:∀{H5:Hp},Same H4 H5->goS į L[k].2 r.2.1=goZ Ã->StI H l fl pd pg Ą ŏ [some ë,some ô,some ã,some õ,some Ï,some ò,some ä,some ê,o8'] H5:=fun{H5} s5 h=>#[S4.trans s5,_,_,_,_,_,us',gs,s5 _ _ hd4,s5 _ _ hg4,dL pu4 (Ps s5),by rw[ez,xD,h];exact dL pv4 (Ps s5),lu4,∅,rfl]
   refine vix rfl Ô at0 #[sz rfl,λu gu=>?_];have wu:=ad gu û;refine#[u,_,rfl,.inr Ů,rfl,rfl,_,rfl,?_];have ei:(if false=true then !inV Ò [.str "take",.str "join"]else inV Ò [.str "take",.str "join"])=(bH L[k].2.2.2).isSome:=GJ _;rw[ei];generalize upd H4 u û=H5 at wu ⊢;cases ht:bH L[k].2.2.2 with
   |none=>exact aI (aI (no wu (by unfold goS;rw[ht])))
   |some it =>
    refine bg (vix rfl (Pt (wu _ _ e14)) at1 #[rfl,_,rfl,?_]);by_cases cw:r.2.1="done"
    .rw[decide_eq_true (ZO V.str cw)];refine bg ?_;exists[iv,la,lb],CZ g44 ht;have pv5:=dL pv4 ů;have lg5:=Zw pv5;refine#[_,rfl,_,rfl,wa,_,_,_,rfl,rfl,Pt (wu _ _ g34),la,_,rfl,pg,rfl,#[_,Pu ŧ],?_];refine bV (xs:=gs) (λi zs H'=>H'=H5/\ĕ<=i/\NmsAt H5 zs (((goZ Ã).take i).map (·.1))) ∅ â #[rfl,Ze _,.nil] (λi zs H' z=>by rw[z.1];exact Pu ŧ) ?_ ?_
     .rintro i zs H' v hv ⟨rfl,lz,pz⟩ Y hY;exists[r',hr2,t',st',nv',rfl,a1,a2,a3],ba pv5 hv;unfold goL at hr2;rw[Zx]at hr2;exists[x,hx,rfl],ZK.mp hr2;exists[nv2,b1,b2],a3;refine#[t',_,rfl,Pt a1,rfl,_,_,rfl,_,_,rfl,rfl,vix rfl (Pt b1) at1 (hY _ _ #[rfl,by rw[Zh];exact ZT lz,?_])];rw[eJ hx,ZA];exact Ys pz b2
     rintro zs lz H' ⟨rfl,lzs,pz⟩ glz;have lgg:Ĕ=(goZ Ã).length:=by rw[lg5];unfold goL;rw[Zd]
     rw[lgg,ZI]at pz;have wz:=ad glz ĝ;exists[d1,d2],sq (pz.ts (Ps wz));refine#[lz,zs,nmD it,_,rfl,Pu ac,cY ((lb.ts' ů).same wz),d1,(bO (aW it).1 (by rw[(aW it).2];decide)),d2,_,rfl,?_];rw[xV];generalize upd H' lz ĝ=H6 at wz ⊢;have s6:=wu.trans wz;by_cases cm:it∈(goZ Ã).map (·.1)
     .rw[decide_eq_true cm];exact aI (no s6 (by unfold goS;rw[ht];exact Pa λz=>by rw[fR.mpr cm]at z;exact nomatch z.2))
     .rw[decide_eq_false cm];have g36:=s6 _ _ g34;refine bg #[_,rfl,.inl #[rfl,_,Pu (s6 _ _ hg4)],_,rfl,_,rfl,_,rfl,wa,_,_,_,rfl,rfl,Pt g36,la,sz rfl,λst gst=>#[sz rfl,λtt gtt=>?_]];have wst:=ad gst Ó;have wtt:=ad gtt Æ;have s48:=s6.trans (wst.trans wtt);refine#[pg,_,_,rfl,rfl,s48 _ _ hg4,aJ ∅,?_];have est:=wtt _ _ (show upd H6 st Ó st=_ from ac);have ett:upd ŕ tt Æ tt=_:=ac;generalize upd ŕ tt Æ=H8 at s48 est ett ⊢;have t8:TS H8 ù:=jp λws e'=>by rw[s48 _ _ hg4]at e';cases e'
      have t48:TS H4 ù:=λb zs e=>t8 _ _ (s48 _ _ e);refine#[cC (S4.trans s48) fpg,_,_,_,_,_,us',gs++[.ref tt],by rw[af ndg];exact s48 _ _ hd4,ac,dL pu4 t48,?_,lu4,by rw[Zh];exact ZT lg,rfl];have eg:goS į L[k].2 r.2.1=goZ Ã++[(it,nm3 L[k].2)]:=by
       have hn:(look į it).isSome=false:=by
        cases e:(look į it).isSome with
        |false=>rfl
        |true=>exact absurd (fR.mp e) cm
       unfold goS;rw[ht];dsimp only;rw[Pb #[cw,hn]];unfold aw;rw[hn];rfl
      rw[ez,xD,eg];unfold goL;rw[ZA];exact kz (dL pv4 t48) (.cons #[tt,st,.ref tn,rfl,t8 _ _ ett,en4.ts' t48,iv,t8 _ _ est,lb.ts' t48] .nil)
    .rw[decide_eq_false λz=>cw (V.str.inj z)];exact aI (aI (no wu (by unfold goS;rw[ht];exact Pa λz=>cw z.1)))
 .rintro σ' H3 ⟨sm,o4,o5,o6,o7,o8,us,gs,hd,hg,pu,pv,lu,lg,rfl⟩;refine hR0 _ _ ?_;have le1:((L.zip R).take (aR L).length)=L.zip R:=by rw[aY,<-lz,ZI]
  rw[le1]at pu pv;have lu':ē<=63:=by rw[aY]at lu;omega
  have lg':Ĕ<=63:=by rw[aY]at lg;omega
  refine#[_,rfl,_,rfl,pd,pg,us,gs,rfl,rfl,hd,hg,dS ∅,λr gr=>?_];have wr:=ad gr (.lst (us++gs));exact q r _ _ (sm.trans wr) ac (kz (dL pu Ű) (dL pv Ű))
def stW(d:Dd)(w:ū):Option Sd:=if bI w=true then(cQ d.1 d.2).map (uh w)else none
theorem DP(s:Sd):uh "done" s=s:=by
 cases s with
 |put n u pl tx=>exact ZO (λu=>Sd.put n u pl tx) (Pb rfl)
 |_=>rfl
theorem JB{wd:Wd}(h:wd.isTurn=true):cQ n wd=none:=by cases wd<;>first|rfl|cases h
theorem IU{w:ū}(p:PlayR ol n wd w so ol'):so=stW (n,wd) w:=by
 have nn:∀{w:ū},cQ n wd=none->stW (n,wd) w=none:=fun{w} h=>by unfold stW;rw[show cQ (n,wd).1 (n,wd).2=none from h];split<;>rfl
 cases p with
 |none=>exact(nn rfl).symm
 |take=>exact(nn rfl).symm
 |back=>exact(nn rfl).symm
 |@top m pl tx _ =>unfold stW;rw[Pb (show bI "top" = true by decide)];show _=some (Sd.put n (if("top":Str)="done" then some m else none) pl tx);rw[Pa ⋯]
 |@step _ s w _ hs ht wr =>
  have no:∀{w:ū},w≠"done"->bI w=false->(if w="done" then some s else none)=stW (n,wd) w:=fun{w} h1 h2=>by unfold stW;rw[Pa h1,h2];rfl
  cases wr with
  |none _=>exact no ⋯ jh
  |beneath _ _=>exact no ⋯ kh
  |far _ _=>exact no ⋯ qX
  |done _ _ _ =>unfold stW;rw[Pb rfl,Pb lF,show cQ (n,wd).1 (n,wd).2=some s from hs];exact ZO some (DP s).symm
theorem D1{ts:Ń}(h:Ķ):aP rs=(ds.zip rs).filterMap λz=>(stW z.1 z.2.2.1).map λs=>Ŋ:=by
 have cs:∀{d:Dd} {ds:List Dd} {w:ū} {so:Option Sd} {rs:List bp},so=stW d w->aP rs=(ds.zip rs).filterMap (λz=>(stW z.1 z.2.2.1).map λs=>Ŋ)->aP Ł=((d::ds).zip Ł).filterMap λz=>(stW z.1 z.2.2.1).map λs=>Ŋ:=fun{d ds w so rs} h1 h2=>by unfold aP at h2 ⊢;rw[Y1,Z6,Z6,h2];dsimp only;rw[h1]
 induction h with
 |nil=>rfl
 |off _ _ ih=>exact cs (by unfold stW;rw[qY];rfl) ih
 |turn _ ht _ ih=>exact cs (by unfold stW;rw[JB ht];split<;>rfl) ih
 |play _ _ p _ ih=>exact cs (IU p) ih
section
variable{Zq0:LZ}{ol:Ol}{ov:Ť}{ts:Ń}
noncomputable def rpZ(ol:Ol)(ov:Ť)(ts:Ń)(Zq0:LZ)(z:Ā×Str):Rp:=dW (eQ ĸ) ov ts Ĭ z.2
theorem Ly(nod:Ø)(o:Ù)(hz:z∈Zq0)(wr:wdR z.1.2.2.2 z.2):stD z.1.2 (rpZ ol ov ts Zq0 z).2.1=stW ĭ z.2:=by
 unfold stD stW rpZ;rw[Ji nod o hz wr];by_cases c:V.str z.1.2.2.2.word=V.str "put"
 .exists[u,pl,tx,ew],Em c;have e:(dW (eQ ĸ) ov ts Ĭ z.2).2.1=z.2:=by
   refine DX Ũ Ũ
   .exists[_,it,e],uo nod hz h;rw[ew]at e;cases e
   .have:=(qh nod o hz h).2;rw[ew]at this;cases this
  rw[e];rfl
 .rw[oV c];show _=if bI z.2=true then(cQ Ĭ z.1.2.2.2).map (uh z.2)else none
  rw[oV c]
theorem Ma(nod:Ø)(o:Ù)(wr:Č):jr ĺ=Zq0.filterMap λz=>(stW ĭ z.2).map λs=>æ:=by
 unfold jr;rw[List.filterMap_map];have gen:∀A:LZ,ĳ->A.filterMap ((λz:Ā×Rp=>(stD z.1.2 z.2.2.1).map λs=>æ)∘λz=>Î)=A.filterMap λz=>(stW ĭ z.2).map λs=>æ:=by
  intro A;induction A with
  |nil=>intro _;rfl
  |cons z A ih =>intro hA;have hz:=hA z Zq;rw[Z6,Z6,ih λy hy=>hA y ŋ];dsimp only[Function.comp];rw[Ly nod o hz Ō]
 exact gen Zq0 λ_ h=>h
theorem Nh(nod:Ø)(o:Ù)(wr:Č):goZ ĺ=gkl ĸ:=by
 have one:∀z∈Zq0,∀l:As Nm,goS l z.1.2 (rpZ ol ov ts Zq0 z).2.1=(if bI z.2=true then eO ol Þ z.1.2 else[]).foldl gkS l:=λz hz l=>by
  unfold goS;cases ht:bH z.1.2.2.2 with
  |none =>
   have:eO ol Þ z.1.2=[]:=by unfold eO;rw[ht]
   rw[this,ite_self];rfl
  |some it =>
   dsimp only;cases hl:bI z.2 with
   |false =>
    have h:=Jj (ol:=ol) (ts:=ts) nod o hz Ō hl;rw[Pa λc=>?_,Pa ⋯]
    .rfl
    .have c1:(rpZ ol ov ts Zq0 z).2.1="done":=c.1;unfold rpZ at c1;rw[c1]at h;exact absurd h ⋯
   |true =>
    have h:=Lz (ol:=ol) (ts:=ts) nod o hz Ō ht hl;have e2:eO ol Þ z.1.2=[ü]:=by unfold eO;rw[ht]
    rw[Pb rfl,e2];show _=gkS l ü;unfold gkS rpZ;rw[h];cases fH ol Þ z.1.2 it with
    |some b=>rw[Pa λc=>absurd c.1 (show¬("kept":Str)="done" by decide),Pa λc=>nomatch c.1]
    |none =>
     dsimp only;by_cases c:(look l it).isSome=false
     .rw[Pb #[rfl,c],Pb #[rfl,c]]
     .rw[Pa λx=>c x.2,Pa λx=>c x.2]
 have gen:∀(A:LZ),ĳ->∀l:As Nm,(A.map λz=>Î).foldl Ć l=(tkZ ol Þ A).foldl gkS l:=by
  intro A;induction A with
  |nil=>intro _ l;rfl
  |cons z A ih =>intro hA l;rw[Zn,List.foldl_cons,ih λy hy=>hA y ŋ];unfold tkZ;rw[List.flatMap_cons,List.foldl_append];dsimp only;rw[one z (hA z Zq)]
 unfold goZ gkl br;rw[gen Zq0 (λ_ h=>h),Hf]
#check 0
theorem LY{L:L3}{rs:List bp}:(aU L).zip rs=(L.zip rs).map λz=>(toD z.1.2,z.2):=by unfold aU;rw[List.zip_map_left];rfl
theorem HU{n:ı}{ts:Ń}{ts':Ń}(R:RnK L W n e)(o:OvR ((ci È).map Prod.snd) ov)(run:Runs ts' tn [] (aU L) rs)(hw:rs.map (λr:bp=>r.2.1)=W):jr (L.zip î)++goL (goZ (L.zip î))=aP rs++goL (gkl Â):=by
 have eZ:L.zip î=(L.zip W).map λz=>(z.1,rpZ ol ov ts È z):=by
  have e1:(L.zip W).map Prod.fst=L:=List.map_fst_zip (by rw[R.lw];exact Ze _)
  conv=>lhs;arg 1;rw[<-e1]
  unfold gi;rw[List.zip_map'];rfl
 rw[eZ,Ma R.nod o R.wd,Nh R.nod o R.wd,D1 run,LY,List.filterMap_map];congr 1;rw[<-hw,List.zip_map_right,List.filterMap_map];rfl
theorem HJ(h:dh p n=dh q m):p=q/\n=m:=by
 induction p generalizing q with
 |nil =>
  cases q with
  |nil =>rw[dh,dh]at h;exact#[rfl,(List.cons.inj h).2]
  |cons b q =>rw[dh,dh]at h;exact absurd (List.cons.inj h).1 ⋯
 |cons a p ih =>
  cases q with
  |nil =>rw[dh,dh]at h;exact absurd (List.cons.inj h).1 ⋯
  |cons b q =>rw[dh,dh]at h;exists[h1,h2],List.cons.inj (List.cons.inj h).2;exists[h3,h4],ih h2;exact#[by rw[h1,h3],h4]
theorem zY:∀{a b:Pn},HT.lexLt a b=false->HT.lexLt b a=false->a=b
 | [],[],_,_=>rfl
 | [],_::_,h,_=>by rw[HT.lexLt_nil_cons]at h;cases h
 |_::_,[],_,h=>by rw[HT.lexLt_nil_cons]at h;cases h
 |x::a,y::b,h,g=>by
  rw[HT.lexLt_cons]at h g;by_cases z:x=y
  .subst z;rw[Pb rfl]at h g;rw[zY h g]
  .rw[Pa z]at h;rw[Pa (ZQ z)]at g;have h:=Y3 h;have g:=Y3 g;omega
theorem Ih(h:(kyP x).nums=(kyP y).nums):x.1=y.1:=by have h:dh x.2.pl [x.1.1,x.1.2]=dh y.2.pl [y.1.1,y.1.2]:=h;exists[_,h],HJ h;injection h with h1 h2;injection h2 with h2 _;exact Prod.ext h1 h2
theorem Ky{ol:Ol}(nd:Ê)(hx:x∈ol)(hy:y∈ol)(h:x.1=y.1):x=y:=mw nd hx hy h
theorem nU{ol M M':Ol}(nd:Ê)(p:Ĥ)(p':M'.Perm ol)(s:Đ)(s':M'.Pairwise leP):M=M':=by refine List.Perm.eq_of_pairwise (le:=leP) (λa b ha hb h1 h2=>?_) s s' (p.trans p'.symm);exact Ky nd (p.mem_iff.mp ha) (p'.mem_iff.mp hb) (Ih (zY h2 h1))
theorem Cs{k:List Key}(e:Rd H a (.dT kvs))(eb:H b=some (.tup (k.map kV))):DGet H a (.ref b) (bc kvs k):=.inr #[kvs,k,b,e,rfl,eb,rfl]
theorem rc{α β:Type}{R:ĩ}:∀{a:ź} {b:Ż} {i:ı} {x:α},Paired R a b->a[i]?=some x->∃y,b[i]?=some y/\R x y
 |_,_,0,_,.cons h _,e=>by cases e;exact#[_,rfl,h]
 |_,_,i+1,_,.cons _ t,e=>rc (i:=i) t e
abbrev LE:=Int×Option ł
def M8(H:Hp)(v:V)(e:LE):Prop:=∃(t:Pg) (uv:V),v=.ref t/\H t=some (.tup [.int e.1,uv])/\UpAt H uv (e.2.map (·.1))
abbrev wf(H:Hp)(xs:List LE)(vs:Pz):Prop:=Paired (λx v=>M8 H v x) xs vs
theorem mq(h:wf H xs vs)(t:Ź):wf H' xs vs:=Paired.mapP h λ_ _ z=>by exists[a,uv,h1,h2,h3],z;exact#[a,uv,h1,t _ _ h2,h3.ts t]
def oQ(d:Int):Option ł->List DI
 |none=>[]
 |some m=>[(d-1,m)]
inductive Lw(M:Ol):List LE->List DI->Nat->Prop
 |nil:Lw M [] [] 0
 |cons {d:Int} {u:Option (Nm×It)} {rest:List LE} {out:ÿ} {k:ı} (h:Lw M ((grp M (u.map (·.1))).map (λx=>(d+1,some x))++rest) out k):Lw M ((d,u)::rest) (oQ d u++out) ŏ
theorem Kt{st out:ÿ}{k:ı}(h:ť):Lw M (st.map λx=>(x.1+1,some x.2)) out k:=by
 induction h with
 |nil=>exact .nil
 |@cons d m rest out k _ ih =>rw[ZA,Z7]at ih;have:=Lw.cons (d:=d+1) (u:=some m) ih;rw[show oQ (d+1) (some m)=[(d,m)] by unfold oQ;rw[Int.add_sub_cancel]]at this;exact this
theorem Ku{k:ı}(h:Dfs M (gC M) out k):Lw M [(0,none)] out ŏ:=by have:=Kt h;rw[Z7]at this;exact Lw.cons (d:=0) (u:=none) (rest:=[]) (by rw[ZD];exact this)
theorem Lw.len{st:List LE}{k:ı}(h:Lw M st out k):st.length<=k/\ż<=k:=by
 induction h with
 |nil=>exact#[Ze _,Ze _]
 |@cons d u rest out k _ ih =>
  exists[h1,h2],ih;rw[Zh]at h1;rw[Zk,Zh];have:(oQ d u).length<=1:=by
   cases u with
   |none=>exact ZH _
   |some _=>exact Ze _
  omega
def dX(gn:List Nm)(x:ł):Bool:=!decide (x.1∈gn)
def JS(H:Hp)(v:V)(x:ł):Prop:=∃(t b c:Pg),v=.ref t/\H t=some (.tup [.ref b,.ref c])/\H b=some (.tup (x.2.pl.map V.int))/\H c=some Ē
abbrev lh(H:Hp)(xs:Ol)(vs:Pz):Prop:=Paired (λx v=>JS H v x) xs vs
theorem oU(h:lh H xs vs)(t:Ź):lh H' xs vs:=Paired.mapP h λ_ _ z=>by exists[a,b,c,h1,h2,h3,h4],z;exact#[a,b,c,h1,t _ _ h2,t _ _ h3,t _ _ h4]
theorem FJ(h:lh H xs vs):∃as:List Pg,vs=as.map V.ref/\as.length=xs.length/\∀(i:ı) (a:Pg) (k:ZKey),as[i]?=some a->(xs.map kyP)[i]?=some k->k.at H ś:=by
 induction h with
 |nil=>exact#[[],rfl,rfl,λi a k h=>nomatch h]
 |@cons x v xs vs r _ ih =>
  exists[as,e1,e2,e3],ih;exists[t,b,c,rfl,h2,h3,h4],r;refine#[t::as,by rw[e1];rfl,by rw[Zk,Zk,e2],λi a k h1 h5=>?_];cases i with
  |zero =>cases h1;cases h5;exact#[t,b,c,rfl,h2,h3,h4]
  |succ i=>exact e3 i a k h1 h5
theorem yf{as:List Pg}(h:lh H xs (as.map V.ref)):∀(p:List Nat),(∀i∈p,i<xs.length)->lh H (p.map λi=>xs.getD i I0) (p.map λi=>(as.map V.ref).getD i .non)
 | [],_=>.nil
 |i::p,hp=>by refine .cons ?_ (yf h p λj hj=>hp j (Zj _ hj));have hi:=hp i Zq;exists[y,hy,r],rc h (Zf hi);show JS H ((as.map V.ref).getD i .non) (xs.getD i I0);rw[ZG,hy,ZG,Zf hi];exact r
theorem ye{α β:Type}{R:ĩ}:∀{a:ź} {b:Ż} {i:ı} {y:β},Paired R a b->b[i]?=some y->∃x,a[i]?=some x/\R x y
 |_,_,0,_,.cons r _,h=>by cases h;exact#[_,rfl,r]
 |_,_,i+1,_,.cons _ p,h=>by exists[x,h1,h2],ye (i:=i) p h;exact#[x,h1,h2]
theorem By{α β:Type}{R:ĩ}{a:ź}{b:Ż}(h:Paired R a b):Paired R a.reverse b.reverse:=by
 induction h with
 |nil=>exact .nil
 |cons r _ ih =>rw[YG,YG];exact fU ih (.cons r .nil)
theorem zK(M:Ol)(v:Nm×It->Bool)(u:Option Nm):grp ũ u=M.filter λx=>decide (x.2.up=u)&&v x:=by unfold grp;rw[List.filter_filter]
theorem HQ{ol M G:Ol}(nd:Ê)(p:Ĥ)(s:Đ)(pg:G.Perm (grp Ę u))(sg:G.Pairwise leP):G=grp ũ u:=by have sub:(grp Ę u).Sublist ol:=(YI).trans YI;exact nU (ol:=grp Ę u) ((sub.map _).nodup nd) pg ((p.filter _).filter _) sg ((s.sublist YI).sublist YI)
inductive spLRows(vs:Pz)(H:Hp)(Q:VK)(E:XK):Prop
 |mk (mm gl:Pg) (ol M:Ol) (gv:Pz) (gn:List Nm) (out:ÿ) (k:ı) (h0:vs=[.ref mm,.ref gl]) (h1:MineAt H mm ol) (h2:H gl=some ō) (h3:NmsAt H gv gn) (h4:ľ<=63) (nd:Ê) (pe:Ĥ) (so:Đ) (df:Dfs É (gC É) out k) (k63:k<=63) (q:∀R H' rs,Same H H'->H' R=some ą->RwsAt H' out rs->Q Ŝ H'):spLRows vs H Q E
inductive LrI(H:Hp)(mm gl R:Pg)(M:Ol)(out:ÿ)(m:ı)(Z:St)(H':Hp):Prop
 |mk (S:Same H H') (sx:Pg) (stk:List LE) (outd rst:List DI) (rs as:Pz) (o4 o5 o6:Ĳ) (df:Lw M stk rst m) (eo:outd++rst=out) (lo:outd.length+m<=64) (eR:H' R=some ą) (ra:Œ) (eS:H' sx=some (.lst as)) (gS:H sx=none) (nRS:R≠sx) (sa:wf H' stk.reverse as) (e:Z=[some Ğ,some ğ,some Ŝ,some (.ref sx),o4,o5,o6]):LrI H mm gl R M out m Z H'
inductive LrJ(H:Hp)(R:Pg)(H8:Hp)(outd:ÿ)(σ0:St)(Z:St)(H':Hp):Prop
 |mk (b:But R H8 H') (rs:Pz) (eR:H' R=some ą) (ra:Œ) (e:Z=σ0):LrJ H R H8 outd σ0 Z H'
abbrev yw:Stmt:=top 55
abbrev JP:List Str:=["_law_have","_law_gone","_law_found","_law_some","_law_depth","_law_here","_law_below"]
theorem iT:FnScope JP ["_law_have","_law_gone"] (aq yw):= ~~~0
theorem Iu(F:Fun K "_law_rows" "_law_rows" yw f fd)(j3:mg "sorted" = none):↑FnOk CX0 2 f fd ["_law_have","_law_gone"] spLRows:=by
 exists iT
 obtain⟨mm,gl,ol,M,gv,gn,out,k,rfl,⟨mvs,hm,Rm⟩,hg,pg,l63,nd,pe,so,df,k63,q⟩:=h;have lmv:=bT Rm;exists _,(b_c (aC (i:=2) ķ Ĩ)
   (b_c (aC (i:=3) ķ (bS (q_a (aB (q_a ah (q_a cz ai))) ai)))
   (b_c (uD Z0 (aE (Ip (K:=K) rfl è) ↑3 Ĩ) (b_c (BF (DS ↑3) (iZ rfl (bE (aD (i:=4) ķ) (bE (aD (i:=5) ķ) fe))))
   (b_c (mI (aZ (aE kn ↑5 cz) (b_1 (bh (eT ↑2 (aF cO (aB (q_a (aF wq ↑4 ah) š)) (cG bK (bo è ↑0 ↑5) ű cM))))) b_0))
   (b_c (aC (i:=6) ķ (q_B (EB hr) j3 PyProof.Rows.boot_sorted (q_a (DT (dH (own:=["_law_one"]) (#[rfl,⋯,⋯,rfl,#[rfl,rfl,#[rfl,rfl,#[rfl,rfl,trivial]]]]:CompOk _ _ [0,5,1] ["_law_have","_law_here","_law_gone"]) rfl (Mf ↑0) (λ_ _ _ _=>aD (i:=0) (show (["_law_one","_law_have","_law_here","_law_gone"]:List Str).Nodup by decide)) (aT ⋯) (λ_ _ _ _=>(oB (t_w (fm (aE (nF è) (am (iJ (K:=K) rfl) Ļ ah) ↑2) (fz (aE (vw (K:=K) rfl hr) ↑0 ↑3)))))) (λ_ _ _ _=>(aB (q_a (am (iJ (K:=K) rfl) Ļ ah) (q_a ↑0 ai)))))) ai)))
   (b_1 (aC (i:=3) ķ (aF qd ↑3 (dH (own:=["_law_place","_law_one"]) (#[rfl,⋯,⋯,rfl,#[rfl,rfl,trivial]]:CompOk _ _ [4] ["_law_depth"]) rfl (bJ (MJ ↑6 (FR BT ah))) (λ_ _ _ _=>gG (K:=K) (n:=2) rfl rfl (bE (aD (i:=0) (show (["_law_place","_law_one","_law_depth"]:List Str).Nodup by decide)) (bE (aD (i:=1) (show (["_law_place","_law_one","_law_depth"]:List Str).Nodup by decide)) fe))) Ç Ċ (λ_ _ _ _=>(aB (q_a (aF fN ↑2 ah) Ė)))))))))))
   (b_1 (aG ↑2)))))
 refine ax λR0 hR0=>?_;refine#[sz rfl,λR gR=>hR0 _ _ ?_]
 ext gR H1 w1 eR
 refine ax λR0 hR0=>?_;refine#[sz rfl,λt0 g0=>#[sz rfl,λsx gsx=>hR0 _ _ ?_]];have w2:=ad g0 Ü;have w3:=ad gsx é;have s3:=w1.trans (w2.trans w3);have fsx:H sx=none:=(w1.trans w2).free gsx;have nRS:R≠sx:=λz=>by rw[<-z,w2 _ _ eR]at gsx;cases gsx
 have et0:=w3 _ _ (show upd H1 t0 Ü t0=_ from ac);have eS:upd Ŗ sx é sx=some é:=ac;have eR3:=w3 _ _ (w2 _ _ eR);generalize upd Ŗ sx é=H3 at w3 s3 et0 eS eR3 ⊢;refine ax λR0 hR0=>?_;refine#[LrI H mm gl R É out,#[k+1,s3,sx,[(0,none)],[],out,[],[.ref t0],none,none,none,Ku df,rfl,by rw[Z8];omega,eR3,.nil,eS,fsx,nRS,.cons #[t0,.non,rfl,et0,rfl] .nil,rfl],?_];rintro m Z H' ⟨sm,sx,stk,outd,rst,rs,as,o4,o5,o6,dl,eo,lo,eR,ra,eS,gS,nRS,sa,rfl⟩;refine#[_,rfl,sz rfl,λn0 gn0=>?_];have wn:=ad gn0 (.lst []);refine#[sx,n0,as,rfl,rfl,Pu (wn _ _ eS),Pu ac,_,rfl,?_];have sm1:=sm.trans wn;have eR1:=wn _ _ eR;have eS1:=wn _ _ eS;have ra1:=ra.ts Ŭ;have sa1:=mq sa Ŭ;generalize upd H' n0 (.lst [])=H1 at sm1 eR1 eS1 ra1 sa1 ⊢;have las:=Zw sa1;rw[Yv]at las;cases dl with
 |nil =>have e0:as=[]:=List.length_eq_zero_iff.mp las.symm;rw[e0];refine aI (hR0 _ _ #[_,rfl,?_]);rw[ZD]at eo;subst eo;exact q R H1 rs sm1 eR1 ra1
 |@cons d0 u0 rest rst' m' dl =>
  rw[YG]at sa1;obtain⟨as0,y,rfl,sa0,⟨ya,uv,rfl,ey,hu⟩⟩:=oR sa1;have eb:(!(as0++[V.ref ya]).isEmpty)=true:=by cases as0<;>rfl
  rw[eb];refine bg ?_;refine#[LrI H mm gl R É out m',λσ' H'' h=>#[m',YK _,h],?_];refine ax λR1 hR1=>?_;refine#[_,rfl,.inl #[rfl,_,Pu eS1],sx,_,.ref ya,rfl,rfl,eS1,by simp,?_];rw[List.dropLast_concat];have t8:=lf (ks':=as0) eS1;have s8:Same H (upd H1 sx ú):=cC sm1 gS;have eS8:upd H1 sx ú sx=some ú:=ac;have eR8:upd H1 sx ú R=some ą:=by rw[af nRS];exact eR1
  have ey8:=t8 _ _ ey;have hu8:=hu.ts t8;have ra8:=ra1.ts t8;have sa8:=mq sa0 t8;generalize upd H1 sx ú=H8 at s8 eS8 eR8 ey8 hu8 ra8 sa8 ⊢;refine#[ya,_,rfl,Pt ey8,rfl,_,_,rfl,_,_,rfl,rfl,hR1 _ _ ?_];have hu0:∀x,u0=some x->look ol x.1=some x.2:=λx e=>by
   have hmem:x∈M.filter (dX gn):=df.mem (λy hy=>by
    exists[z,hz,rfl],Zu.mp hy;exact (ZF.mp hz).1) (d0 - 1,x) (by rw[<-eo,e];simp[oQ])
   exists[jj,hj],ZV.mp (pe.mem_iff.mp (ZF.mp hmem).1);exact cV nd hj
  have lrs:=Zw ra8;refine#[LrJ H R H8 (outd++oQ d0 u0) [some Ğ,some ğ,some Ŝ,some (.ref sx),some (.int d0),some uv,o6],?_,?_]
  .cases u0 with
   |none =>have hu8:uv=.non:=hu8;subst hu8;exact#[_,rfl,rfl,_,rfl,nB rfl #[But.of ö,rs,eR8,(ZD outd).symm▸ra8,rfl]]
   |some x =>exists[nb,rfl,hnb],id hu8;exists[iv,e1,ia,uv',pv,rfl,e2,e3,e4],aV Rm (hu0 x rfl);refine#[_,rfl,rfl,_,rfl,nz nofun ?_];refine#[_,rfl,.inl #[rfl,_,Pu eR8],_,rfl,_,_,rfl,rfl,_,rfl,sz rfl,λt1 g1=>?_];have w1:=ad g1 (.tup [.int (d0-1),.ref nb]);have s1:=s8.trans w1;refine#[_,rfl,_,rfl,mm,.ref ia,rfl,e1▸DGet.t (k:=nk x.1) (s1 _ _ hm) (w1 _ _ hnb),_,rfl,ia,_,rfl,s1 _ _ e2,λt2 H9 s9 e9=>?_];rw[AZ]at e9;refine#[t1,t2,_,_,rfl,rfl,s9 _ _ ac,e9,sz rfl,λt3 H10 s10 e10=>?_];have w8:Same H8 H10:=w1.trans (s9.trans s10);have t11:=lf (ks':=rs++[.ref t3]) (w8 _ _ eR8);refine#[R,rs,.ref t3,rfl,rfl,w8 _ _ eR8,dS ∅,λb o e hb=>by rw[af hb];exact w8 _ _ e,_,ac,?_,rfl];exact fU ((ra8.ts (Ps w8)).ts t11) (.cons #[t3,.ref nb,rfl,t11 _ _ e10,nb,rfl,t11 _ _ (w8 _ _ hnb)] .nil)
  rintro σ' H9 ⟨bt,rs',eR9,ra9,rfl⟩;have t89:TS H8 H9:=λa zs e=>bt _ _ e λz=>by rw[z,eR8]at e;cases e
  have S9:Same H H9:=λb o e=>bt _ _ (s8 _ _ e) (aj e gR);have eS9:=bt _ _ eS8 (ZQ nRS);have hu9:=hu8.ts t89;have sa9:=mq sa8 t89;dsimp only;refine ax λR1 hR1=>?_;refine#[_,rfl,mm,mvs,rfl,S9 _ _ hm,λob=>?_];have hm9:=S9 _ _ hm;have eF:upd H9 mm Í mm=some Í:=ac;have uF:∀{c:Pg} {o:HO},H9 c=some o->c≠mm->upd H9 mm Í c=some o:=λe h=>by rw[af h];exact e
  have fF:∀{c:Pg},upd H9 mm Í c=none->H9 c=none/\c≠mm:=fun{c} e=>by
   have h:c≠mm:=λz=>by rw[z,ac]at e;cases e
   rw[af h]at e;exact#[e,h]
  generalize upd H9 mm Í=HF at eF uF fF ⊢;have tF:TS H9 HF:=λc zs e=>uF e λz=>by rw[z,hm9]at e;cases e
  have RF:=(Rm.ts (Ps S9)).ts tF;have hgF:HF gl=some ō:=uF (S9 _ _ hg) λz=>by rw[z,hm]at hg;cases hg
  have pgF:=(pg.ts (Ps S9)).ts tF;exists[b1,b2,b3],kZ (hu9.ts tF);refine Ck (a:=mm) (o:=ob) (kvs:=mvs) (λi ys H'=>Same HF H'/\Ŀ<=i/\lh H' (grp ć Ä) ys) ∅ â #[Same.refl _,Ze _,.nil] (λi ys H' z=>z.1 _ _ eF) ?_ ?_
  .rintro i ys H' pr kb hpr hkb ⟨sF,ly,pa⟩ Y kY;exists[x,hx,ex1,ex2],rc RF hpr;have hlx:=cV nd hx;exists[xv,c1,ca,uc,pc,rfl,c2,c3,c4],aV RF hlx;have hkb':H' kb=some Ē:=by rw[<-ex1];exact hkb
   exists[a1,a2,a3],kZ (c3.ts Ų);have et:ol.take ſ=ol.take i++[x]:=eJ hx;refine#[_,rfl,_,rfl,mm,.ref ca,rfl,c1▸Cs (k:=nk x.1) Ģ hkb',ca,_,_,_,rfl,rfl,Pt ŵ,at0,_,rfl,iV x.2.up,iV Ä,a1,(kZ ((hu9.ts tF).ts Ų)).1,bO a2 ∅,bO b2 ∅,_,rfl,?_];rw[pM];have eg:∀b,(decide ģ&&dX gn x)=b->grp ý Ä=grp ć Ä++(if b=true then[x]else[]):=λb hb=>by rw[et,zK,zK,Yq,List.filter_cons,hb];rfl
   have no:∀H2,Same H' H2->(decide ģ&&dX gn x)=false->Same HF H2/\Ŀ<=i+1/\lh H2 (grp ý Ä) ys:=λH2 s2 hb=>#[sF.trans s2,∅,by rw[eg _ hb,Pa ⋯,ZD];exact oU pa (Ps s2)]
   refine kf (λcu=>?_) (λcu=>aI (kY _ _ (no H' ö (by rw[decide_eq_false cu];rfl))));exists[d1,d2],sq (pgF.ts Ų);refine#[_,rfl,_,rfl,gl,gv,nmD x.1,_,rfl,Pu (sF _ _ hgF),cY #[kb,rfl,hkb'],d1,(bO (aW x.1).1 (by rw[(aW x.1).2];decide)),d2,_,rfl,?_];rw[xV];by_cases cm:x.1∈gn
   .rw[decide_eq_true cm];exact aI (kY _ _ (no H' ö (by unfold dX;rw[decide_eq_true cm,Bool.not_true,Bool.and_false])))
   .rw[decide_eq_false cm];exists[pb,rfl,hpb],id c4;refine bg #[_,rfl,_,rfl,mm,.ref ca,rfl,c1▸Cs (k:=nk x.1) Ģ hkb',ca,_,_,_,rfl,rfl,Pt ŵ,at1,_,rfl,sz rfl,λt gt=>kY _ _ ?_];have wt:=ad gt (.tup [.ref pb,.ref kb]);refine#[sF.trans wt,by rw[Zh];exact ZT ly,?_];rw[eg true (by unfold dX;rw[decide_eq_true cu,decide_eq_false cm];rfl),Pb rfl];exact fU (oU pa (Ps wt)) (.cons #[t,pb,kb,rfl,ac,wt _ _ (sF _ _ hpb),wt _ _ hkb'] .nil)
  rintro ys lN H' ⟨sF,ly,pa⟩ gN;rw[lmv,ZI]at pa;have wN:=ad gN ņ;refine#[mm,ob,.dT mvs,wN _ _ (sF _ _ eF),.dt hm,?_];exists[gN9,nNm],fF (sF.free gN);have eN:upd Ö mm Ġ lN=some ņ:=by rw[af nNm];exact ac
  have sT:Same H9 ŗ:=λb o e=>by
   by_cases c:b=mm
   .rw[c,ac];rw[c,hm9]at e;exact e
   .rw[af c];exact wN _ _ (sF _ _ (uF e c))
  have tT:TS H' ŗ:=λc zs e=>by rw[af λz=>by rw[z,sF _ _ eF]at e;cases e];exact wN _ _ e
  have pT:=oU pa tT;generalize upd Ö mm Ġ=HT at eN sT pT ⊢;have lG:(grp ó Ä).length<=63:=Zr đ (Zr đ l63);exists[aa,rfl,la,ka],FJ pT;refine#[lN,aa,(grp ó Ä).map kyP,rfl,eN,∅,by rw[Zd,la],λk hk=>?_,ka,λpm D hpm hls gD=>hR1 _ _ ?_]
  .exists[x,_,rfl],Zu.mp hk;exact#[_,_,rfl]
  rw[la]at hpm hls;exists[so',pe'],yE hpm hls;have pl:∀i∈pm.toList,i<(grp ó Ä).length:=λi hi=>by have:=(hpm.mem_iff).mp (Array.mem_toList_iff.mp hi);simpa using this
  have pD:=yf pT pm.toList pl;rw[HQ nd pe so pe' so']at pD
  ext gD HD wD eD
  have pD':=oU pD (Ps wD);have s9D:=sT.trans wD;generalize(pm.toList.map λi=>(aa.map V.ref).getD i .non)=bs at pD' eD;have lbs:=Zw pD';have lG':(grp É Ä).length<=63:=Zr đ (Zr đ (by rw[pe.length_eq];exact l63));generalize hG:grp É Ä=G at pD' lbs lG' dl;refine#[_,rfl,_,rfl,_,rfl,rfl,D,bs,rfl,Pu eD,λrv grv=>#[rv,rfl,#[_,Pu ac],?_]]
  ext grv HR wr er
  have pr:=oU pD' Ű;have s9r:=s9D.trans wr;have prv:lh HR G.reverse Ž:=By pr;refine bV (xs:=Ž) (λi zs H'=>Same HR H'/\ĕ<=i/\wf H' ((G.reverse.take i).map λx=>Ţ) zs) (by rw[Yv];omega) â #[Same.refl _,Ze _,.nil] (λi zs H' z=>Pu (z.1 _ _ er)) ?_ ?_
  .rintro i zs H' v hv ⟨sm,lz,pz⟩ Y hY;exists[x,hx,t',b',c',rfl,a1,a2,a3],ye prv hv;refine#[t',_,rfl,Pt (sm _ _ a1),rfl,_,_,rfl,_,_,rfl,rfl,_,rfl,_,_,rfl,rfl,_,rfl,sz rfl,λt gt=>hY _ _ ?_];have wt:=ad gt (.tup [.int (d0+1),.ref c']);refine#[sm.trans wt,by rw[Zh];exact ZT lz,?_];rw[eJ hx,ZA];exact fU (mq pz (Ps wt)) (.cons #[t,.ref c',rfl,ac,c',rfl,wt _ _ (sm _ _ a3)] .nil)
  rintro zs lz H' ⟨sm,lzs,pz⟩ glz;rw[<-Zw prv,ZI]at pz;have wz:=ad glz ĝ;have s2:=s9r.trans (sm.trans wz);have lz0:as0.length<=63:=by have h1:=dl.len.1;have h2:=Zw sa9;rw[Zh]at h1;rw[Yv]at h2;omega
  have lzz:ĕ<=63:=by rw[Yv]at lzs;omega
  refine#[sx,lz,as0,zs,rfl,rfl,s2 _ _ eS9,ac,dS ∅,λs' gs'=>?_];have w':=ad gs' (.lst (as0++zs));have s3:=s2.trans w';refine#[S9.trans s3,s',G.map (λx=>Ţ)++rest,outd++oQ d0 u0,rst',rs',as0++zs,_,_,_,dl,by rw[Y8];exact eo,?_,s3 _ _ eR9,ra9.ts (Ps s3),ac,(S9.trans s2).free gs',λz=>?_,?_,rfl]
  .have:(oQ d0 u0).length<=1:=by
    cases u0 with
    |none=>exact ZH _
    |some _=>exact Ze _
   rw[Zh];omega
  .rw[<-z,s2 _ _ eR9]at gs';cases gs'
  .rw[List.reverse_append,<-List.map_reverse];exact fU (mq sa9 (Ps s3)) (mq pz (Ps (wz.trans w')))
inductive spLets(C:Pg)(vs:Pz)(H:Hp)(Q:VK)(E_:XK):Prop
 |mk (l:Pg) (xs:Pz) (ss:List Sd) (Φ:Ol->As Unit->Prop) (h0:vs=[.ref l]) (h1:H l=some (.lst xs)) (h2:Paired (StV H) xs ss) (h3:iw Φ [] [] ss) (q:∀H',Same H H'->Q (.bl true) H'):spLets C vs H Q E_
inductive LtI(C:Pg)(H:Hp)(l x d g:Pg)(Φ:ń)(ss:Ņ)(i:ı)(Z:St)(H':Hp):Prop
 |mk (S:Same H H') (ol:Ol) (gs:As Unit) (o2:Option V) (O:OlAt C H' x d g ol) (G:GoneAt H' g gs) (sf:iw Φ ol gs Ŷ) (e:Z=[some ë,some (.ref x),o2]):LtI C H l x d g Φ ss i Z H'
abbrev pf:Stmt:=top 20
abbrev B7:List Str:=["steps","outline","step"]
theorem nR:FnScope B7 ["steps"] (aq pf):= ~~~0
theorem Bq(F:Fun K "lets_by" "lets_by" pf f fd)(i9:↑MkFn 1 C "Plain" ["self"] (spInit C))(c5:Ú)(OK:ExC K cL bL)(NP:mg "LimbError" = some (.ref cL)):↑FnOk CX0 5 f fd ["steps"] (spLets C):=by
 exists nR
 exists[l,xs,ss,Φ,rfl,hl,px,safe,q],h;have ll:=Zw px;exists _,(b_c (aC (i:=1) nR.nd (uk i9 ↑99))
   (b_c (eG Z0 rfl (bJ ↑0) (aD (i:=2) nR.nd) (b_1 (D4 rfl rfl (Au (En c5 ↑99 ↑1 ţ)) (Be OK NP (λ_=>ø) GE))))
   ø))
 intro x dx nx ndx nex;refine#[x,dx,rfl,ac,λd g H4 fd0 fg0 S4 kp4=>#[rfl,?_]];have s34:Same H H4:=λb o e=>kp4 b o (by rw[af Ŏ,af (aj e ndx)];exact e) Ŏ;have s00:Same H (upd (upd H dx (.own x)) x (.ins C dx [])):=λb o e=>by rw[af Ŏ,af (aj e ndx)];exact e
 have d3:H d=none:=s00.free fd0;have g3:H g=none:=s00.free fg0;refine#[_,rfl,l,rfl,#[_,Pu (s34 _ _ hl)],?_];refine mY (xs:=xs) (LtI C H l x d g Φ ss) #[s34,[],[],none,#[[],[],S4,.nil],#[[],S4.3,.nil],safe,rfl] (λi Z H' _ z=>by exists[S,_],z;exact Pu (S _ _ hl)) ?_ ?_
 .rintro i v Z H' hv ⟨sm,ol,gs,o2,O,G,sf,rfl⟩;exists[sd,hsi,st,rfl,hst],ba px hv;have hi:i<ss.length:=(Zz.mp hsi).1;have hdr:ss.drop i=sd::ss.drop ſ:=by rw[Yy hi];rw[Zf hi]at hsi;rw[Zo hsi]
  rw[hdr]at sf;exists[small,lg,nw,hh,hb,nxt],sf;exists[kvs,gvs,S,_],id O;obtain⟨⟨dz,y1⟩,y2,y3,y4⟩:=id S;refine#[_,rfl,x,dz,_,rfl,y1,dD _ _,_,rfl,x,d,g,st,ol,gs,sd,.ok,rfl,O,G,small.len,lg,hst.ts ŀ,(λn it hl=>Zr (small.txt n it hl) ⋯),.bd none nw hh hb,nofun,nofun,nofun,nofun,λ_ H5 ol' b5 o5 g5 ap=>?_];exact#[λb o e=>b5 b o (sm _ _ e) (aj e d3) (aj e g3),ol',_,_,o5,g5,nxt ol' ap,rfl]
 .rintro Z H' ⟨sm,ol,gs,o2,O,G,sf,rfl⟩;exact q H' sm
def rwD(x:DI):Qb:=.tuple [.int x.1,nmD x.2.1,.str x.2.2.tx,.bool x.2.2.dn,(match x.2.2.wh with|none=>.none|some i=>.int i),.bool x.2.2.fo]
theorem MM(h:RwAt H v x):Dt H (rwD x) v:=by exists[a,nv,rfl,h1,h2],h;have w:=BX (H:=H) x.2.2.wh;have n:=cY h2;simp only[rwD,Dt,DtAll];exact#[a,_,rfl,.inl h1,_,_,rfl,rfl,_,_,rfl,n,_,_,rfl,rfl,_,_,rfl,rfl,_,_,rfl,w,_,_,rfl,rfl,rfl]
theorem Am:∀{out:ÿ} {rs:Pz},RwsAt H out rs->DtAll H Ë rs
 |_,_,.nil=>by simp[DtAll]
 |_,_,.cons h t=>by rw[Zn];simp only[DtAll];exact#[_,_,rfl,MM h,Am t]
theorem An:∀out:List DI,ñ->PyData.canLayAll0 Ë=true/\PyData.depthAll Ë<=3
 | [],_=>#[rfl,by simp[PyData.depthAll]]
 |x::out,h=>by
  exists[h1,h2],An out λy hy=>h y ŋ;have hx:=h x Zq;rw[Zn];refine#[?_,?_]
  .cases hw:x.2.2.wh<;>simp[PyData.canLayAll0,h1,rwD,nmD,PyData.canLay0,hx,hw]
  .simp only[PyData.depthAll,rwD,nmD,PyData.depth];cases hw:x.2.2.wh<;>simp only[PyData.depth]<;>omega
theorem sM{H:Hp}(hl:H l=some ą)(h:RwsAt H out rs)(hs:ñ):Dt H Ď ë/\SeqAt.shaped Ď=true/\PyData.eqv Ď Ď=true:=by
 exists[h1,h2],An out hs;have hc:(PyData.list Ë).canLay0=true:=by simpa[PyData.canLay0]using h1
 refine#[?_,bO hc (by simp only[PyData.depth];omega),SeqAt.eqv_refl _ hc];simp only[Dt];exact#[l,_,rfl,.inl hl,Am h]
theorem Ce{β:Type}:∀{a b:As β},a.map (·.1)=b.map (·.1)->(a.map (·.1)).Nodup->(∀x,look a x=look b x)->a=b
 | [],[],_,_,_=>rfl
 | [],_::_,h,_,_=>by cases h
 |_::_,[],h,_,_=>by cases h
 |p::a,q::b,h,nd,hl=>by
  rw[Zn,Zn]at h;injection h with h1 h2;rw[Zn,Z3]at nd;have h1:p.1=q.1:=h1;have e0:=hl p.1;unfold look at e0;rw[Pb rfl,Pb h1.symm]at e0;have nb:∀{l:As β},p.1∉l.map (·.1)->look l p.1=none:=fun{l} hn=>by
   induction l with
   |nil=>rfl
   |cons y l ih =>rw[Zn,Zg,not_or]at hn;unfold look;rw[Pa (ZQ hn.1)];exact ih hn.2
  have ih:=Ce (a:=a) (b:=b) h2 nd.2 λx=>by
   by_cases c:p.1=x
   .rw[<-c,nb nd.1,nb (by rw[<-h2];exact nd.1)]
   .have:=hl x;unfold look at this;rw[Pa c,Pa (by rw[<-h1];exact c)]at this;exact this
  rw[ih,Prod.ext h1 (Zo e0)]
theorem Cn{lo hi:Option Int}(h:PyData.strOk x=true):PyData.strOk (bY x lo hi)=true:=by show(bY x lo hi).cps.all (·<0x110000)=true;have h:x.cps.all (·<0x110000)=true:=h;rw[Array.all_eq_true']at h ⊢;intro c hc;exact h c (by have:=EM (z:=x) (lo:=lo) (hi:=hi) (c:=c) (by simpa using hc);simpa using this)
theorem vn{β:Type}{l:As β}{n:Nm}{i:β}(nd:(l.map (·.1)).Nodup):((aw l n i).map (·.1)).Nodup:=by
 rw[cD];by_cases c:(look l n).isSome=true
 .rw[Pb c];exact nd
 .rw[Pa c,List.nodup_append];refine#[nd,by simp,λa ha b hb z=>c ?_];obtain rfl:b=n:=by simpa using hb
  exists[x,hx,rfl],Zu.mp ha;exists[i',hi],ZV.mp hx;have:=cV nd hi;rw[z]at this;rw[this];rfl
theorem Jr(ol:Ol):∃M:Ol,M.Perm ol/\M.Pairwise leP:=by
 refine#[ol.mergeSort λx y=>!HT.lexLt (kyP y).nums (kyP x).nums,List.mergeSort_perm ..,?_];refine List.Pairwise.imp (λh=>?_) (List.pairwise_mergeSort (le:=λx y=>!HT.lexLt (kyP y).nums (kyP x).nums) (λa b c h1 h2=>?_) (λa b=>?_) ol)
 .exact(Bool.not_eq_true' _).mp h
 .have:=(rX [(kyP a).nums,(kyP b).nums,(kyP c).nums]).tr (a:=0) (b:=1) (c:=2) ((Bool.not_eq_true' _).mp h1) ((Bool.not_eq_true' _).mp h2);exact(Bool.not_eq_true' _).mpr this
 .cases e:HT.lexLt (kyP b).nums (kyP a).nums with
  |false=>rfl
  |true =>have:=(rX [(kyP b).nums,(kyP a).nums]).as (a:=0) (b:=1) e;rw[show HT.lexLt (kyP a).nums (kyP b).nums=false from this];rfl
theorem Dfs.one{st out out':ÿ}{k k':ı}(h:ť)(g:Dfs M st out' k'):out=out':=by
 induction h generalizing out' k' with
 |nil=>cases g;rfl
 |cons _ ih =>
  cases g with
  |cons g=>rw[ih g]
theorem LV{gn:List Nm}(h:∀x,(look gs x).isSome=true↔x∈gn):bP gs=dX gn:=by
 funext x;unfold bP dX;by_cases c:x.1∈gn
 .rw[decide_eq_true c,(h x.1).mpr c]
 .rw[decide_eq_false c];cases e:(look gs x.1).isSome with
  |false=>rfl
  |true=>exact absurd ((h x.1).mp e) c
theorem Ew(h0:ř)(h:Abv ol u l):Abv ç u l:=by
 induction h with
 |none=>exact .none
 |@up n it l hl _ ih=>exact .up (by rw[ay,Pa λz=>by rw[z,h0]at hl;cases hl];exact hl) ih
theorem DY{ol M M2:Ol}{k k2:ı}{i0:It}(nd:Ê)(t:Ter ol)(h0:ř)(hu:i0.up=none)(hg:(look gs n0).isSome=false)(pe:Ĥ)(df:Dfs Ĵ (gC Ĵ) out k)(pe2:M2.Perm ç)(df2:Dfs İ (gC İ) out2 k2):out2.length=ż+1:=by
 have nd2:((aw ol n0 i0).map (·.1)).Nodup:=vn nd;have t2:Ter ç:=t.new h0 (k:=0) ě;have l0:look ç n0=some i0:=by rw[ay,Pb rfl]
 have a0:Abv ç (some n0) [n0]:=.up l0 ě;have nin:n0∉out.map ĥ:=λz=>by exists[x,hx,e],Zu.mp z;exists[j,hj],ZV.mp (iq pe df x hx).1;have:=cV nd hj;rw[show x.2.1=n0 from e,h0]at this;cases this
 have p:(out2.map λx=>x.2.1).Perm (n0::out.map λx=>x.2.1):=by
  refine(List.perm_ext_iff_of_nodup (qi nd2 t2 pe2 df2) (Z3.mpr #[nin,qi nd t pe df])).mpr λm=>?_;by_cases c:m=n0
  .rw[c];refine#[λ_=>Zq,λ_=>(rm nd2 pe2 df2 a0 n0 rfl).mpr λy hy=>?_];rw[Zi.mp hy];exact hg
  .have two:∀x∈ol,x.1=m->(m∈out2.map ĥ↔m∈out.map ĥ):=λx hx e=>by exists[l,ab],xh nd t hx;rw[e]at ab;exact(rm nd2 pe2 df2 (Ew h0 ab) m rfl).trans (rm nd pe df ab m rfl).symm
   refine#[λh=>?_,λh=>?_]
   .exists[x,hx,e],Zu.mp h;have h1:=(iq pe2 df2 x hx).1;exists[j,hj],ZV.mp h1;have h2:=cV nd2 hj;have e:x.2.1=m:=e;rw[e,ay,Pa c]at h2;exact Zj _ ((two _ (tY h2) rfl).mp h)
   .have h':=(Zg.mp h).resolve_left c;exists[x,hx,e],Zu.mp h';exact(two _ (iq pe df x hx).1 e).mpr h'
 have:=p.length_eq;rw[Zd,Zk,Zd]at this;exact this
def pN(ol:Ol):Prop:=∀n it,look ol n=some it->PyData.strOk it.tx=true
theorem fE{i:It}(h:pN ol)(hi:PyData.strOk i.tx=true):pN (aw ol n i):=λx it hx=>by
 rw[ay]at hx;by_cases c:x=n
 .rw[Pb c]at hx;cases hx;exact hi
 .rw[Pa c]at hx;exact h x it hx
theorem LT(ap:Ap ol s ol')(h:pN ol)(ok:s.ok):pN ol':=by
 cases ap with
 |put=>exact fE h ok
 |move hl=>have q:=h _ _ hl;exact fE h q
 |write hl=>exact fE h ok
 |mark hl=>have q:=h _ _ hl;exact fE h q
 |due hl=>have q:=h _ _ hl;exact fE h q
 |fold hl=>have q:=h _ _ hl;exact fE h q
 |part hl=>exact fE (fE h Ő) Ő
 |gone=>exact h
 |@join n m itn itm _ hn hm j =>
  exists[itm2,h1,h2],j.lk;intro x it hx;rw[h2]at hx;exists[i,hi,rfl],ZK.mp hx;have:pN (aw (aw ol n { itn with tx:=itn.tx++itm.tx }) m { itm2 with tx:="" }):=fE (fE h (xZ (h _ _ hn) (h _ _ hm))) (show PyData.strOk "" = true by decide);have e:(cP n m i).tx=i.tx:=by unfold cP;split<;>rfl
  rw[e];exact this x i hi
def gnS(ss:Ņ):List Nm:=ss.filterMap λs=>match s with
 |.gone n=>some n
 |_=>none
theorem xC(ss:Ņ)(s:Sd):gnS (ss++[s])=gnS ss++gnS [s]:=by unfold gnS;rw[Y6]
theorem CH(h:∀s∈ss,∀n,s≠.gone n):gnS ss=[]:=by
 unfold gnS;rw[List.filterMap_eq_nil_iff];intro s hs;cases s with
 |gone n=>exact absurd rfl (h _ hs n)
 |_=>rfl
theorem CG:∀l:As Nm,gnS ((goL l).map Prod.snd)=l.map (·.1)
 | []=>rfl
 |x::l=>by have ih:=CG l;unfold gnS goL at ih ⊢;rw[Zn,Zn,Z6,Zn,<-ih]
inductive spLaw40(K:Qa)(T:Pg)(vs:Pz)(H:Hp)(Q:VK)(E_:XK):Prop
 |mk (a:Pg) (ns:Pn) (h0:vs=[.ref a]) (h1:SqL K H a (ns.map V.int)) (h2:ns.length<=63) (h3:H T=some (.tbl #[])) (q:∀H',Q (.bl true) H'):spLaw40 K T vs H Q E_
theorem jR{n:ı}(R:RnK L W n e)(h:Eqo e a/\a.map (·.1)=ic È)(g:Eqo e b/\b.map (·.1)=ic È):b=a:=Ce (g.2.trans h.2.symm) (R.nd g) λx=>(g.1 x).symm.trans (h.1 x)
theorem Bh(s:SameT T H H')(tab:cH q T pos H):∀b o,(∀ps,o≠.tbl ps)->H b=some o->H' b=some o:=λb o no e=>s b o e λz=>by exists[ps,t1,_],tab;rw[z,t1]at e;exact no _ (Zo e).symm
theorem Mb(l:Ť):∀r∈goL l,r.2.ok:=λr hr=>by exists[x,_,rfl],Zu.mp hr;trivial
theorem ID{ts:Ń}(h:Ķ)(ok:∀d∈ds,DOk d.2):∀r∈aP rs,∀n a m pl,r.2=.part n a m pl->0<=a:=λr hr n a m pl e=>by
 rw[D1 h]at hr;exists[z,hz,e1],Z5.mp hr;exists[s,hs,rfl],ZK.mp e1;have e:s=.part n a m pl:=e;subst e;have hd:=ok z.1 (Y4 hz).1;unfold stW at hs;split at hs
 .exists[s0,h0,h1],ZK.mp hs;revert h0 h1 hd;cases z.1.2 with
  |part =>intro hd h0 h1;cases h0;cases h1;exact hd
  |_=>intro hd h0 h1;cases h0<;>cases h1
 .cases hs
theorem zL:∀(l:Ť) (gs:As Unit),(gsF gs l).length<=Ĕ+l.length
 | [],_=>Ze _
 |x::l,gs=>by have h1:=zL l Ř;have h2:=yB (gs:=gs) (n:=x.1);rw[Zk];show(gsF Ř l).length<=_;omega
theorem Jt{st:Pg}(hs:StAt H st s):∃wd rest,H st=some (.tup (.str wd::rest))/\((∃n nv,s=.gone n/\wd="gone"/\rest=[nv]/\NameIs H nv (nk n))\/(V.str wd≠V.str "gone"/\∀n,s≠.gone n)):=by cases s<;>first|(exists[nv,h1,h2],hs;exact#[_,_,h1,.inl #[_,nv,rfl,rfl,rfl,h2]])|(exists[_,h1,_],hs;exact#[_,_,h1,.inr #[⋯,nofun]])|(exists[_,_,h1,_],hs;exact#[_,_,h1,.inr #[⋯,nofun]])|(exists[_,_,_,h1,_],hs;exact#[_,_,h1,.inr #[⋯,nofun]])
inductive LwI(H:Hp)(Ψ:ń)(ss:Ņ)(a pd fd mm gl:Pg)(h:Int)(i:ı)(Z:St)(H':Hp):Prop
 |mk (S:Same H H') (ol:Ol) (gs:As Unit) (M:MineAt H' mm ol) (sf:iw Ψ ol gs Ŷ) (tx:pN ol) (gv:Pz) (hg:H' gl=some ō) (pg:NmsAt H' gv (gnS (ss.take i))) (lg:gv.length<=i) (o6 o7:Ĳ) (e:Z=[some ś,some (.int h),some ã,some (.ref fd),some Ğ,some ğ,o6,o7,none,none]):LwI H Ψ ss a pd fd mm gl h i Z H'
abbrev qk:Stmt:=top 56
abbrev L1:List Str:=["_law_script","_law_hands","_law_deeds_here","_law_found","_law_have","_law_gone","_law_name","_law_step","_law_due","_law_plain"]
theorem gM:FnScope L1 ["_law_script"] (aq qk):= ~~~0
theorem KG(F:Fun K "law" "law" qk f fd)(N7:↑Fn 1 "_law_cell_at" ["_law_script","_law_k"] (spCell K))(OE:↑Fn 4 "_law_deeds" ["_law_cells","_law_hands"] Aq)(NQ:↑Fn 10 "report_of" ["ready"] spReportG)(i8:↑Fn 10 "history_of" ["ready"] spHist)(l8:↑Fn 11 "outline_of" ["ready"] (spOutl C))(OF:↑Fn 2 "_law_steps" ["_law_deeds_here","_law_rows_here"] spLSteps)(N8:↑Fn 2 "_law_played" ["_law_have","_law_step"] spLPlayed)(OL:↑Fn 2 "_law_rows" ["_law_have","_law_gone"] spLRows)(N9:↑Fn 5 "lets_by" ["steps"] (spLets C))(Ob:↑MFn 7 C "rows" ["self"] (spRows C T))(c5:Ú)(w9:mg "isinstance" = none)(j4:mg "list" = none)(a8:mg "len" = none):↑FnOk CX0 12 f fd ["_law_script"] (spLaw40 K T):=by
 exists gM
 exists[a,sc,rfl,hS,hlen,hT0,hq],h;have hT:cH lU T (nE kg) H:=#[#[],hT0,trivial,.inl rfl]
 exists _,(b_c (aC (i:=1) č (aF fN ah (aF dB (aO N7 ↑99 (q_a ↑0 Į)) ah)))
   (b_c (aC (i:=2) č (aO OE ↑99 (q_a (cG CY ↑0 ű ű) Ė)))
   (b_c (aC (i:=3) č (aO i8 ↑99 Ì))
   (b_c (aZ (t_w (BV (He (hM (q_B L6 w9 rB (q_a ↑3 (q_a (Ny j4 ip) ai))))) (wI (aE (GO è) ↑3 (aO OF ↑99 (q_a ↑2 (q_a (aO NQ ↑99 Ì) ai))))))) ø b_0)
   (b_c (aC (i:=4) č qg)
   (b_c (aC (i:=5) č Ĩ)
   (b_c (eG Z0 rfl ň (iZ rfl (bE (aD (i:=6) č) (bE (aD (i:=7) č) fe))) (b_c (mI (aZ ė (b_1 (bh (eT ↑5 Á))) b_0))
   (b_1 (bh (aO N8 ↑99 (q_a ↑4 ş))))))
   (b_c (aC (i:=8) č (aO OL ↑99 (q_a ↑4 š)))
   (b_c (aC (i:=9) č (aO l8 ↑99 Ì))
   (b_c (aZ (t_w (BV (aE (GO è) ĵ ↑8) (wI (aE KE (aO N9 ↑99 (q_a (dH (own:=["_law_name","_law_step"]) å rfl ň (λ_ _ _ _=>gG (K:=K) (n:=2) rfl rfl (bE (aD (i:=0) (show (["_law_name","_law_step"]:List Str).Nodup by decide)) (bE (aD (i:=1) (show (["_law_name","_law_step"]:List Str).Nodup by decide)) fe))) Ç Ċ (λ_ _ _ _=>↑1)) ai)) iE)))) ø b_0)
   (b_c (bh (mE c5 lH ↑99 ↑9 (q_a (aB (q_a ar (q_a (aB (q_a ↑1 Į)) (q_a cz (q_a (aB Į) Ŵ))))) ai)))
   (b_1 (aG (qe (lJ (nF è) (mD Ob ↑99 (aO l8 ↑99 ţ)) ↑8) (sK (lJ bW (q_B jG a8 Yu (q_a ĵ ai)) (aF fN (q_B jG a8 Yu (q_a ↑8 ai)) ah)))))))))))))))))
 refine ax λR0 hR0=>?_;refine#[_,rfl,a,sc,0,rfl,hS,⋯,_,_,rfl,rfl,(by show(0:Int)<8;decide),_,_,rfl,rfl,hR0 _ _ ?_];have m0:=Ya Ħ (show(8:Int)≠0 by decide);have m1:=Yg Ħ (show(0:Int)<8 by decide);generalize hh:1+au sc (0:Int).toNat%8=h at *;exists[cs,ecs,lcs],J1 hlen;refine ax λR0 hR0=>?_;refine#[_,rfl,_,rfl,_,rfl,a,_,rfl,hS,λp0 g0=>?_];rw[ecs];have w0:=ad g0 (.lst (cs.map V.int));refine#[_,rfl,p0,cs,h,rfl,ac,lcs,∅,∅,λpd H2 L w2 fpd lr lL okL pwL=>hR0 _ _ ?_];have s2:=w0.trans w2;have T2:=bU hT s2;exists[W,e,R],ML (L:=L) (n:=Ĝ) ∅ (x9.mpr pwL) λx hx=>#[(okL x hx).2.1,(okL x hx).2.2]
 refine ax λR0 hR0=>?_;refine#[_,rfl,pd,_,rfl,.inl (Pu lr.1),λph gph=>?_];have w3:=ad gph ę;refine#[ph,L,W,Ĝ,_,rfl,#[ac,λx hx=>(lr.2 x hx).ts ŭ],R.tk,λol rs fd ys H3 hΦ run s3 efd pfd=>hR0 _ _ ?_];have S3:=w3.trans s3;have lr3:=lr.same S3;have T3:=bU T2 S3;have dok:∀d∈aU L,DOk d.2:=λd hd=>by exists[x,hx,rfl],Zu.mp hd;exact(okL x hx).2.2
 have hw:=(R.tk.words rs run).1;have sok:∀r∈aP rs++goL (gkl Â),r.2.ok:=λr hr'=>by
  rcases ZC.mp hr' with hr'|hr'
  .exact Ge (Jm run dok) r hr'
  .exact Mb _ r hr'
 refine ax λR0 hR0=>?_;refine#[_,rfl,_,"list",_,true,rfl,.lst efd,Id,_,rfl,aI ?_];refine#[_,rfl,_,rfl,_,rfl,pd,_,rfl,.inl (Pu lr3.1),λph gph=>?_];have w4:=ad gph ę;refine#[ph,L,W,Ĝ,_,rfl,#[ac,λx hx=>(lr3.2 x hx).ts (Ps w4)],R.tk,λol2 ov fl ys2 H4 hΦ2 ho s4 efl pfl=>?_];have S4:=w4.trans s4;have lrp:(gi (eQ (br ol2 ((bC È).map Prod.snd))) ov (aQ (aU L)) È).length=L.length:=by unfold gi;rw[Zd,R.len]
 refine#[pd,fl,L,ys2,_,rfl,lr3.same S4,efl,pfl,lrp,∅,λD us H5 s5 eD pD=>?_];rw[jR R hΦ hΦ2,HU R ho run hw]at pD;have S5:=S4.trans s5;exists[d1,d2,d3],xS (D:=ssD) (S5 _ _ efd) (dL pfd (Ps S5)) λv r hr' x=>G1 x ŷ;exists[d4,_,_],xS (D:=ssD) eD pD λv r hr' x=>G1 x ŷ;refine#[_,_,d1,d4,d2,d2,?_];rw[d3];refine#[_,rfl,aI Ū];have lr5:=lr3.same S5;have T5:=bU T3 S5;have efd5:=S5 _ _ efd;have pfd5:=dL pfd (Ps S5);have gone0:∀{o:Ol},Û->∀x∈gkl Â,(look o x.1).isSome=true:=λh'=>R.gone h';have lgk:(gkl Â).length<=63:=by refine Zr (rO _) (Zr (pJ ol _ _) ?_);unfold Dl bC;rw[Zd,Zd];refine Zr đ ?_;rw[R.len];omega
 have lst0:(aP rs).length<=63:=by unfold aP;refine Zr (YQ _ _) ?_;have h1:=ZO List.length hw;rw[Zd,R.lw]at h1;omega
 have pok:=ID run dok;generalize hG:gkl Â=G at *;have safe:iw ď [] [] Ă:=by rw[ZA];exact rj (qj run) (R.tk.steps rs run) λo h'=>pG (R.small' h') (gone0 h') (by rw[Z8];omega) #[h',rfl]
 have egn:gnS Ă=G.map (·.1):=by rw[ZA];unfold gnS;rw[Y6];have h1:=CH (qj run);have h2:=CG G;unfold gnS at h1 h2;rw[h1,h2];rfl
 have pok':∀r∈aP rs++goL G,∀n a m pl,r.2=.part n a m pl->0<=a:=λr hr' n a m pl e=>by
  rcases ZC.mp hr' with hr'|hr'
  .exact pok r hr' n a m pl e
  .exists[x,_,rfl],Zu.mp hr';cases e
 have lss:(aP rs++goL G).length<=126:=by rw[Zh];unfold goL;rw[Zd];omega
 generalize hSS:aP rs++goL G=SS at *;have lys:=Zw pfd5;refine ax λR0 hR0=>?_;intro mm gmm;refine hR0 _ _ ?_
 ext gmm H6 w6 em
 refine ax λR0 hR0=>?_;refine#[sz rfl,λgl ggl=>hR0 _ _ ?_]
 ext ggl H7 w7 eg
 have em7:=w7 _ _ em;have ngm:mm≠gl:=λz=>by rw[z,ggl]at em;cases em
 have fgl:H5 gl=none:=w6.free ggl;have s7:=w6.trans w7;refine ax λR0 hR0=>?_;refine#[_,rfl,fd,rfl,#[_,Pu (s7 _ _ efd5)],?_];refine eh (K:=K) (a:=fd) (xs:=ys) (LwI H5 ď ļ a pd fd mm gl h) #[s7,[],[],#[[],em7,.nil],safe,(λn it hl=>nomatch hl),[],eg,.nil,Ze _,none,none,rfl] (λi Z H' _ z=>by exists[S,_],z;exact Pu (S _ _ efd5)) ?_ ?_
 .rintro i v Z H' hv ⟨sm,o1,gs,mi,sf,tx,gv,hg,pg,lg,o6,o7,rfl⟩ DL hDL;exists[r,hr',t,st,nv,rfl,e1,e2,e3],ba pfd5 hv;have hrm:ļ[i]?=some r.2:=by rw[Zx,hr'];rfl
  have hi:i<(SS.map Prod.snd).length:=(Zz.mp hrm).1;have hdr:(SS.map Prod.snd).drop i=r.2::(SS.map Prod.snd).drop ſ:=by rw[Yy hi];rw[Zf hi]at hrm;rw[Zo hrm]
  have etk:=eJ hrm;rw[hdr]at sf;exists[small,_,nw,hh,hb,nxt],sf;have rM:=Z2 hr';refine#[t,_,rfl,Pt Ÿ,rfl,_,_,rfl,_,_,rfl,rfl,?_];have e3':=e3.ts ŀ;have i126:i<126:=by rw[Zd]at hi;omega
  refine#[λσ' H2=>∃gv',But gl H' H2/\H2 gl=some (.lst gv')/\NmsAt H2 gv' (gnS ((SS.map Prod.snd).take ſ))/\gv'.length<=i+1/\σ'=[some ś,some (.int h),some ã,some (.ref fd),some Ğ,some ğ,some nv,some (.ref st),none,none],?_,?_]
  .exists[wd,rest,hst,c],Jt e3';rcases c with⟨n,nv',es,rfl,rfl,hn⟩|⟨ne,es⟩
   .refine vix rfl ŝ at0 #[rfl,_,rfl,di ?_];refine#[_,rfl,.inl #[rfl,_,Pu hg],vix rfl ŝ at1 #[gl,gv,nv',rfl,rfl,hg,aJ ∅,gv++[nv'],λb o e hb=>by rw[af hb];exact e,ac,?_,by rw[Zh];exact ZT lg,rfl]];have t2:=lf (ks':=gv++[nv']) hg;rw[etk,xC,es];exact Ys (pg.ts t2) (hn.ts' t2)
   .refine vix rfl ŝ at0 #[rfl,_,rfl,aL ne #[gv,But.of ö,hg,?_,∅,rfl]];rw[etk,xC,CH (ss:=[r.2]) λs hs'=>by rw[Zi.mp hs'];exact es,ZD];exact pg
  .rintro σ' H2 ⟨gv',b2,hg2,pg2,lg2,rfl⟩;have t2:TS H' H2:=λb zs e=>b2 _ _ e λz=>by rw[z,hg]at e;cases e
   exists[mvs,hm,Rm],mi;have hm2:=b2 _ _ hm ngm;refine#[_,rfl,_,rfl,mm,st,o1,r.2,rfl,#[mvs,hm2,Rm.ts t2],e3'.ts t2,hh,small,pok' r rM,λH3 o2 b3 M3 ap=>hDL _ _ ?_];have t3:TS H2 H3:=b3.ts hm2;exact#[λb o e=>b3 _ _ (b2 _ _ (sm _ _ e) (aj e fgl)) (aj e gmm),o2,_,M3,nxt o2 ap,LT ap tx (sok r rM),gv',b3 _ _ hg2 (ZQ ngm),pg2.ts t3,lg2,_,_,rfl]
 .rintro σ' H8 ⟨sm,o1,gs,mi,sf,tx,gv,hg,pg,lg,o6,o7,rfl⟩;refine hR0 _ _ ?_;have lall:Ŀ=(SS.map Prod.snd).length:=by rw[lys,Zd]
  rw[lall,List.drop_length]at sf;rw[lall,ZI,egn]at pg;exists[hΦ1,egs],sf;subst egs;obtain rfl:=jR R hΦ1 hΦ;have nd:=R.nd hΦ;have ter:Ter ol:=Jz hΦ.1 R.ter;have sml:=R.small' hΦ;have lol:ľ<=62:=by have h1:=ZO List.length hΦ.2;unfold ic at h1;rw[Zd,Zd]at h1;have h2:=ZJ (λz:Ā×Str=>jw z.1.2.2.2 z.2) È;rw[R.len]at h2;omega
  have hgs:∀x,(look Ĺ x).isSome=true↔x∈G.map (·.1):=λx=>by rw[xE,fR (l:=G)];exact#[λz=>z.resolve_left (λy=>nomatch y),.inr]
  exists[M,pe,so],Jr ol;exists[out,k,df,k63],qp (gs:=gsF [] G) nd ter ∅ pe;have dfL:Dfs ā (gC ā) out k:=by rw[<-LV hgs];exact df
  have lr8:=lr5.same sm;have T8:=bU T5 sm;have efd8:=sm _ _ efd5;have pfd8:=dL pfd5 ŀ;refine ax λR0 hR0=>?_;refine#[_,rfl,_,rfl,mm,gl,ol,M,gv,_,out,k,rfl,mi,hg,pg,∅,nd,pe,so,dfL,k63,λdue H9 rs9 s9 eD raD=>hR0 _ _ ?_];have lr9:=lr8.same s9;have T9:=bU T8 s9;have efd9:=s9 _ _ efd8;have pfd9:=dL pfd8 (Ps s9);have txo:∀x∈out,PyData.strOk x.2.2.tx=true:=λx hx=>by exists[j,hj],ZV.mp (iq pe df x hx).1;exact tx _ _ (cV nd hj)
  have lout:=Jk nd ter pe df;have lrs9:=Zw raD;refine ax λR0 hR0=>?_;refine#[_,rfl,pd,_,rfl,.inl (Pu lr9.1),λph gph=>?_];have w10:=ad gph ę;refine#[ph,L,W,Ĝ,_,rfl,#[ac,λx hx=>(lr9.2 x hx).ts (Ps w10)],R.tk,λo h0=>#[R.small' h0,λo' h'=>R.gone h'],λoa ob p d g H10 ha hb s10 O Gn=>hR0 _ _ ?_];obtain rfl:=jR R hb hΦ;obtain rfl:=jR R ha hΦ;rw[hG]at Gn;have S10:=w10.trans s10;have lr10:=lr9.same S10;have T10:=bU T9 S10;have efd10:=S10 _ _ efd9;have pfd10:=dL pfd9 (Ps S10);have eD10:=S10 _ _ eD;have raD10:=raD.ts (Ps S10);exists[kvs0,gvs0,S0,_],id O;obtain⟨⟨dx,h1⟩,_⟩:=id S0;refine ax λR0 hR0=>?_;refine#[_,rfl,p,dx,_,rfl,h1,jP _ _ ⋯ ⋯,p,d,g,ol,_,rfl,O,Gn,∅,nd,T10,λM pe=>qp nd ter ∅ pe,λR' H11 M' out' k' rs' pe' so' df' sT tb' gR eR ra=>?_];obtain rfl:=nU nd pe pe' so so';obtain rfl:=df.one df';have kt:=Bh sT T10;have t11:TS H10 H11:=λb zs e=>kt _ _ À e;have O11:=O.sameT sT T10;have G11:=Gn.sameT sT T10;have lr11:LR3 H11 pd L:=#[kt _ _ À lr10.1,λx hx=>(lr10.2 x hx).ts t11]
  have efd11:=kt _ _ À efd10;have pfd11:=dL pfd10 t11;have eD11:=kt _ _ À eD10;have raD11:=raD10.ts t11;exists[d1,d2,d3],sM eR ra txo;exists[d4,_,_],sM eD11 raD11 txo;refine#[_,rfl,_,_,d1,d4,d2,d2,?_];rw[d3];refine#[_,rfl,aI ?_];refine#[_,rfl,fd,rfl,#[_,Pu efd11],?_];refine bV (xs:=ys) (λi zs H'=>Same H11 H'/\ĕ<=i/\Paired (StV H') zs ((SS.take i).map Prod.snd)) ∅ â #[Same.refl _,Ze _,.nil] (λi zs H' z=>Pu (z.1 _ _ efd11)) ?_ ?_
  .rintro i zs H' v hv ⟨sm,lz,pz⟩ Y hY;exists[r,hr',t,st,nv,rfl,e1,e2,e3],ba pfd11 hv;refine#[t,_,rfl,Pt Ÿ,rfl,_,_,rfl,_,_,rfl,rfl,?_];refine#[_,rfl,hY _ _ #[sm,by rw[Zh];exact ZT lz,?_]];rw[eJ hr',ZA];exact kz pz (.cons #[st,rfl,e3.ts ŀ] .nil)
  rintro zs lz H12 ⟨sm,lzs,pz⟩ glz;rw[lys,ZI]at pz;have wlz:=ad glz ĝ;refine#[lz,zs,_,_,rfl,ac,Paired.mapP pz λ_ _ (z:StV _ _ _)=>z.ts (Ps wlz),safe,λH13 s13=>?_];have s13':=sm.trans (wlz.trans s13);refine#[true,true,rfl,rfl,_,rfl,aI Ū];have O13:=O11.same s13';have G13:=G11.same s13';have lr13:=lr11.same s13';have T13:=bU tb' s13';have eD13:=s13' _ _ eD11;have raD13:=raD11.ts (Ps s13');have hnew:look ol ī=none:=by
   cases e0:look ol (h,1)with
   |none=>rfl
   |some it =>exfalso;have h1:(h,(1:Int))∈ol.map (·.1):=tX e0;rw[hΦ.2]at h1;exists[z,hz,e1],Zu.mp h1;have hz':=(okL z.1 (Y4 (ZF.mp hz).1).1).1;have:((z.1.2.1:Nat):Int)=h:=ZO Prod.fst e1;omega
  exists[kvs0,gvs0,S0,_],id O13;obtain⟨⟨dx,h1⟩,_⟩:=id S0;refine ax λR0 hR0=>?_;refine#[_,rfl,p,dx,_,rfl,h1,dD _ _,_,rfl,sz rfl,λtn gtn=>#[sz rfl,λtp gtp=>#[sz rfl,λst gst=>?_]]];have wn:=ad gtn Õ;have wp:=ad gtp ċ;have ws:=ad gst ß;have sw:=wn.trans (wp.trans ws);have en:=ws _ _ (wp _ _ (show upd H13 tn Õ tn=_ from ac));have ep:=ws _ _ (show upd ő tp ċ tp=_ from ac);refine#[p,d,g,st,ol,_,.put ī none [0] "more",.ok,rfl,O13.same sw,G13.same sw,∅,?_,#[.ref tn,.non,.ref tp,ac,#[tn,rfl,en],rfl,#[tp,rfl,ep]],(λn it hl=>Zr (sml.txt n it hl) ⋯),.bd none (λn hn=>by rw[Zi.mp hn];exact hnew) (λn hn=>nomatch hn) .put,nofun,nofun,nofun,nofun,λ_ H14 o2 b14 O14 G14 ap=>hR0 _ _ ?_]
  .have:=zL G [];rw[Z8]at this;omega
  have S14:Same H13 (upd (upd ő tp ċ) st ß):=sw;have k14:∀b o,(∀kv,o≠.dT kv)->H13 b=some o->H14 b=some o:=λb o no e=>b14 _ _ (S14 _ _ e) (λz=>by rw[z,S0.dc]at e;exact no _ (Zo e).symm) (λz=>by rw[z,S0.gc]at e;exact no _ (Zo e).symm);have t14:TS H13 H14:=λb zs e=>k14 _ _ À e;have lr14:LR3 H14 pd L:=#[k14 _ _ À lr13.1,λx hx=>(lr13.2 x hx).ts t14]
  have eD14:=k14 _ _ À eD13;have raD14:=raD13.ts t14;have T14:cH lU T (nE kg) H14:=by exists[ps,t1,t2,t3],T13;refine#[ps,k14 _ _ À t1,t2,t3.imp id ?_];rintro⟨c',e1,e2⟩;exact#[c',e1,k14 _ _ À e2]
  cases ap;have gn0:=mj (gs:=gsF [] G) (s:=.put ī none [0] "more") λn z=>Sd.noConfusion z;rw[gn0]at G14;refine#[_,rfl,pd,L,W,Ĝ,_,rfl,lr14,R.tk,λo h0=>#[R.small' h0,λo' h'=>R.gone h'],λoa ob p2 d2 g2 H15 ha hb s15 O2 Gn2=>?_];obtain rfl:=jR R hb hΦ;obtain rfl:=jR R ha hΦ;rw[hG]at Gn2;have O15:=O14.same s15;have G15:=G14.same s15;have T15:=bU T14 s15;have eD15:=s15 _ _ eD14;have raD15:=raD14.ts (Ps s15);exists[kvs2,gvs2,S2,_],id O2;obtain⟨⟨dx2,y1⟩,_⟩:=id S2;refine#[p2,dx2,_,rfl,y1,jP _ _ ⋯ ⋯,p2,d2,g2,ol,_,rfl,O2,Gn2,∅,nd,T15,λM pe=>qp nd ter ∅ pe,λR' H16 M' out' k' rs' pe' so' df' sT tb' gR eR ra=>?_];obtain rfl:=nU nd pe pe' so so';obtain rfl:=df.one df';have kt:=Bh sT T15;have t16:TS H15 H16:=λb zs e=>kt _ _ À e;have O16:=O15.sameT sT T15;have G16:=G15.sameT sT T15;have eD16:=kt _ _ À eD15;have raD16:=raD15.ts t16;exists[d1,d2,d3],sM eR ra txo;exists[d4,_,_],sM eD16 raD16 txo;refine#[_,rfl,_,_,d1,d4,d2,d2,_,rfl,?_];rw[d3];have nd2:((aw ol ī #[none,[0],"more",false,none,false]).map (·.1)).Nodup:=vn nd;have ter2:Ter (aw ol ī #[none,[0],"more",false,none,false]):=ter.new hnew (k:=0) .none;have ln2:(aw ol ī #[none,[0],"more",false,none,false]).length<=63:=by unfold aw;rw[hnew];show(ol++[_]).length<=63;rw[Zh];show ľ+1<=63;omega
  have hgn:(look Ĺ ī).isSome=false:=by
   cases e0:(look Ĺ ī).isSome with
   |false=>rfl
   |true =>exfalso;exists[x,hx,e1],Zu.mp ((hgs _).mp e0);have:=R.gone (ol:=ol) hΦ x (by rw[hG];exact hx);rw[show x.1=(h,1)from e1,hnew]at this;cases this
  exists[kvs3,gvs3,S3,_],id O16;obtain⟨⟨dx3,y3⟩,_⟩:=id S3;refine bg #[_,rfl,p,dx3,_,rfl,y3,jP _ _ ⋯ ⋯,p,d,g,_,_,rfl,O16,G16,ln2,nd2,tb',λM pe=>qp nd2 ter2 ln2 pe,λR2 H17 M2 out2 k2 rs2 pe2 so2 df2 sT2 tb2 gR2 eR2 ra2=>?_];have eD17:=Bh sT2 tb' _ _ À eD16;have l1:=DY nd ter hnew rfl hgn pe df pe2 df2;have l2:=Zw ra2;refine#[R2,rs2,rfl,.inl (Pu eR2),_,rfl,due,rs9,rfl,.inl (Pu eD17),_,_,rfl,rfl,?_];have el:(V.int (rs2.length:Int))=V.int ((rs9.length:Int)+1):=ZO V.int ∅;refine#[rfl,?_];rw[decide_eq_true el];exact hq _
#check 0
def qP:Nat->(Pf->Prop)->Prop
 |0,p=>p []
 |n+1,p=>∀a,qP n λus=>p (a::us)
theorem jO:∀{n:ı} {p:Pf->Prop},qP n p->∀us:Pf,ē=n->p us
 |0,_,h,[],_=>h
 |_+1,_,h,a::us,e=>jO (h a) us (Nat.succ.inj e)
section
variable{P:Pj}{w:Pk}{K:Qa}{mg:Pe}{base h:Heap}{n m q:ū}{st:Stmt}{C f:Pg}{k:ı}
structure Bx(P:Pj)(w:Pk)(K:Qa)(mg:Pe)(base h:Heap):Prop where
 X:K.In h
 G:h.Ns mainGlobals mg
def A1(K:Qa)(n:ū)(st:Stmt)(f:Pg):Prop:=W.nsIn K mainGlobals n=some ġ/\∃fd,Fun K n n st f fd
def A2(K:Qa)(C:Pg)(m q:ū)(st:Stmt)(f:Pg):Prop:=W.findIn K (.ref C) m=some ġ/\W.isFn K ì=true/\∃fd,Fun K m q st f fd
def AF(K:Qa):List (Str×Stmt×Pg)->Prop
 | []=>True
 |(n,st,f)::l=>A1 K n st f/\AF K l
def AM(K:Qa):List (Pg×Str×Str×Stmt×Pg)->Prop
 | []=>True
 |(C,m,q,st,f)::l=>A2 K C m q st f/\AM K l
def AN(p:Str->Prop):List Str->Prop
 | []=>True
 |n::l=>p n/\AN p l
theorem anI{p p':Str->Prop}(i:∀{n},p n->p' n):∀{l:List Str},AN p l->AN p' l
 | [],_=>True.intro
 |_::_,h=>#[i h.1,anI i h.2]
theorem gf{oc kV dc pm cd ct:Pi}(a:W.nsIn K mainGlobals n=some ġ)(b:K.lookup f=some #[oc,od,.func (W.fnOf n n (dY st) (cJ st) (aq st) .none kV dc pm an cd ct),sl])(c:W.codeIn K cd n=true)(d:Ľ)(r:AF K l):AF K ((n,st,f)::l):=#[#[a,_,CF b c d],r]
theorem gm{oc kV dc pm cd ct:Pi}(a:W.findIn K (.ref C) m=some ġ)(i:W.isFn K ì=true)(b:K.lookup f=some #[oc,od,.func (W.fnOf m q (dY st) (cJ st) (aq st) .none kV dc pm an cd ct),sl])(c:W.codeIn K cd q=true)(d:Ľ)(r:AM K l):AM K ((C,m,q,st,f)::l):=#[#[a,i,_,CF b c d],r]
theorem gn(a:W.nsIn K mainGlobals n=some none)(r:AN ï l):AN ï (n::l):=#[a,r]
end
mutual
#check#[(Value.ref c_LimbError::VE),(W.fnOf m q (dY st) (cJ st) (aq st) .none kV doc pm an cdv ct),(∀{fd},Fun K m q st f fd->FnOk P w K mg base CX0 k f fd ps sp),(hb a b c d e g),(.ref c_NoItem),(.ref C_Plain),w.params,(some (.builtin "object.__setattr__")),(ps.zip us),ps.length,(Option Pg),(A2 K C m q st f),cd.mro,(↑Bx h),(λb=>K.lookup b),(K Æ),(.ref c_Beneath),(Zi.mpr rfl),(Cls K C),l.prog,(c0,T),(.ref fa)]
theorem mkF(B:Í)(A:A1 K n st f)(ok:∀{fd},Fun K n n st f fd->FnOk P w K mg base CX0 k f fd ps sp)(hb:∀(kV doc pm:Pi) (an:Ê) (cdv ct:Pi),qP É λus=>bindArgs (W.fnOf n n (dY st) (cJ st) (aq st) .none kV doc pm an cdv ct) #[us,[]]=pure È:=by(repeat intro _);rfl):↑Fn k n ps sp:=by exists[a,fd,F],A;exact#[f,fd,ok F,Ym B.X B.G a,F.kp,F.binds λa b c d e g=>jO Ã]
theorem mkM(B:Í)(L:Ò)(A:Ë)(ok:Â)(hb:∀(kV doc pm:Pi) (an:Ê) (cdv ct:Pi),qP É λus=>bindArgs Á #[us,[]]=pure È:=by(repeat intro _);rfl):↑MFn k C m ps sp:=by exists[a,i,fd,F],A;exact#[L,f,fd,ok F,#[a,i,F.kp],F.binds λa b c d e g=>jO Ã]
theorem mkX(B:Í)(L:Ò)(A:Ë)(ok:∀{fd},Fun K m q st f fd->FnOk P w K mg base (CXr P w) k f fd ps sp)(hb:∀(kV doc pm:Pi) (an:Ê) (cdv ct:Pi),qP É λus=>bindArgs Á #[us,[]]=pure È:=by(repeat intro _);rfl):↑MFnX k C m ps sp:=by exists[a,i,fd,F],A;exact#[L,f,fd,ok F,#[a,i,F.kp],F.binds λa b c d e g=>jO Ã]
theorem mkC(B:Í)(L:Ò)(g:mg x=some (.ref C))(mk:W.makesIn K C=true)(kc:W.keepIn K (.ref C)=true)(A:A2 K C "__init__" q st f)(ok:∀{fd},Fun K "__init__" q st f fd->FnOk P w K mg base CX0 k f fd ps sp)(hb:∀(kV doc pm:Pi) (an:Ê) (cdv ct:Pi),qP É λus=>bindArgs (W.fnOf "__init__" q (dY st) (cJ st) (aq st) .none kV doc pm an cdv ct) #[us,[]]=pure È:=by(repeat intro _);rfl):↑MkFn k C x ps sp:=by exists[a,i,fd,F],A;exact#[L,g,f,fd,ok F,#[mk,a,i,kc],F.binds λa b c d e g=>jO Ã]
theorem mkE(B:Í)(e:ExcAtI K C f bm)(A:Ë)(ok:Â)(hb:∀(kV doc pm:Pi) (an:Ê) (cdv ct:Pi),qP É λus=>bindArgs Á #[us,[]]=pure È:=by(repeat intro _);rfl):↑ExI k C bm ps sp:=by exists[a,i,fd,F],A;exact#[f,fd,e,ok F,F.binds λa b c d e g=>jO Ã]
#check 0
theorem JW{l:W.OpenLaw}{K:Qa}(X:K.In h)(G:h.Ns mainGlobals mg)(hfa:mg "law" = some Õ)(Oi:W.nsIn K mainGlobals "Plain" = some (some Å))(On:W.plainGet K C_Plain Str.empty=true)(Oo:W.hasDictIn K C_Plain=true)(Op:W.plainOver K C_Plain=true)(Oq:W.findIn K Å "__setattr__" = some Ç)(Os:W.makesIn K C_Plain=true)(Ot:W.keepIn K Å=true)(NH:W.findIn K Å "held" = some none)(NI:W.findIn K Å "away" = some none)(Oc:W.nsIn K mainGlobals "NoItem" = some (some Ä))(Ou:W.nsIn K mainGlobals "Taken" = some (some (.ref c_Taken)))(NX:W.nsIn K mainGlobals "Beneath" = some (some Ð))(OM:W.nsIn K mainGlobals "Far" = some (some (.ref c_Far)))(NJ:W.nsIn K mainGlobals "LimbError" = some (some (.ref c_LimbError)))(zF:AF K (("step_parts",kQ,f1)::("name_of",pq,f2)::("is_turn",oZ,f3)::("turned_name",jC,f4)::("last_turns",kO,f5)::("is_off",rf,f6)::("step_of",pC,f7)::("word_of_step",iS,f8)::("play",yt,f9)::("played",rh,f10)::("words_of",nQ,f11)::("steps_of",nO,f12)::("tells",uC,f13)::("hears",uy,f14)::("apart",uu,f15)::("stepped",pE,f16)::("touched_by",kW,f17)::("taken_item",kT,f18)::("gainsays",nL,f19)::("first_gainsayer",gw,f20)::("takings_of",kU,f21)::("overs_of",nM,f22)::("report_of",lX,f23)::("history_of",kN,f24)::("outline_of",kP,f25)::("lets_by",pf,f26)::("_law_cell_at",oY,f27)::("_law_text",yz,f28)::("_law_what",yA,f29)::("_law_order",uA,f30)::("_law_deeds",ux,f31)::("_law_steps",uB,f32)::("_law_joined",rg,f33)::("_law_played",pj,f34)::("_law_rows",yw,f35)::("law",qk,f36)::[]))(zM:AM K ((c_NoItem,"__init__","NoItem.__init__",jA,m1)::(C_Plain,"__init__","Plain.__init__",kJ,m2)::(C_Plain,"item","Plain.item",kK,m3)::(C_Plain,"bring_in","Plain.bring_in",il,m4)::(C_Plain,"change","Plain.change",iR,m5)::(C_Plain,"check_names","Plain.check_names",fK,m6)::(C_Plain,"at_or_beneath","Plain.at_or_beneath",eV,m7)::(C_Plain,"check_bounds","Plain.check_bounds",fi,m8)::(C_Plain,"part_item","Plain.part_item",gq,m9)::(C_Plain,"join_items","Plain.join_items",fW,m10)::(C_Plain,"holds","Plain.holds",jB,m11)::(C_Plain,"step","Plain.step",kM,m12)::(C_Plain,"sorted_names","Plain.sorted_names",dJ,m13)::(C_Plain,"lower_names","Plain.lower_names",fL,m14)::(C_Plain,"rows","Plain.rows",kL,m15)::[]))(zN:AN (λn=>W.nsIn K mainGlobals n=some none) ("len"::"list"::"zip"::"range"::"max"::"sum"::"enumerate"::"tuple"::"sorted"::"dict"::"any"::"reversed"::"isinstance"::[]))(ON:W.nsIn K mainGlobals "TEXT" = some (some (.int 2 O6)))(OX:W.nsIn K mainGlobals "UP" = some (some (.int 0 O9)))(OG:W.nsIn K mainGlobals "PLACE" = some (some (.int 1 O4)))(NK:W.nsIn K mainGlobals "STEP_PARTS" = some (some (.ref N0)))(t_STEP_PARTS:PyProof.Rows.KTD.tabLook (pL K) Î N0 ST=true)(n6:W.nsIn K mainGlobals "FIRST_CHANGED" = some (some (.ref NL)))(t_FIRST_CHANGED:PyProof.Rows.KTD.tabLook (pL K) Î NL FC=true)(Od:Cz K c_NoItem m1)(Oe:∃c d cd sl,K.lookup c_NoItem=some #[c,d,.cls cd,sl]/\Ì=Value.ref c_NoItem::Value.ref c_LimbError::VE)(if_NoItem:∃oI,K.lookup m1=some oI/\oI.cls=.type "function")(NM:oq K c_LimbError)(NN:∃c d cd sl,K.lookup c_LimbError=some #[c,d,.cls cd,sl]/\Ì=Value.ref c_LimbError::VE)(Ov:oq K c_Taken)(Ow:∃c d cd sl,K.lookup c_Taken=some #[c,d,.cls cd,sl]/\Ì=Value.ref c_Taken::À)(NY:oq K c_Beneath)(NZ:∃c d cd sl,K.lookup c_Beneath=some #[c,d,.cls cd,sl]/\Ì=Value.ref c_Beneath::À)(OO:oq K c_Far)(OP:∃c d cd sl,K.lookup c_Far=some #[c,d,.cls cd,sl]/\Ì=Value.ref c_Far::À)(e6:W.mroIn K c_NoItem (.type "object")=some true)(aN:W.findIn K Ä "name" = some none)(s1:W.findIn K Ä "__setattr__" = some Ç)(s2:((W.clsIn K c_NoItem).any λcd=>sE Ì&&cd.hasDict)=true)(tb1:Lake.pI K "Plain" "sorted_names" = some Ô)(nb:(Value.ref c_Beneath::Value.ref c_LimbError::VE).contains Ä=false)(nf:(Value.ref c_Far::Value.ref c_LimbError::VE).contains Ä=false)(fb:(Value.ref c_Far::Value.ref c_LimbError::VE).contains Ð=false):∃fd:Pm,(∀(s:Ph) (v:Pi),BindsTo s fd #[[v],[]] [("_law_script",v)])/\∀base:Heap,K.In base->base.Ns mainGlobals mg->Blt base mg->W.CodeHd base c0 T->FnOk Ó w K mg base CX0 12 fa fd ["_law_script"] (spLaw40 K T):=by
 obtain⟨Af1,Af2,Af3,Af4,Af5,Af6,Af7,Af8,Af9,Af10,Af11,Af12,Af13,Af14,Af15,Af16,Af17,Af18,Af19,Af20,Af21,Af22,Af23,Af24,Af25,Af26,Af27,Af28,Af29,Af30,Af31,Af32,Af33,Af34,Af35,⟨a0,_,F0⟩,_⟩:=zF;exists[Am1,Am2,Am3,Am4,Am5,Am6,Am7,Am8,Am9,Am10,Am11,Am12,Am13,Am14,Am15,_],zM;exists[a8,j4,u4,u3,Og,OT,j5,OD,j3,NS,OU,u6,w9,_],anI (p':=λn=>mg n=none) (λz=>W.mg_none_of X G z) zN;have e:=hfa.symm.trans (Ym X G a0);cases e;exists[oc,od,kV,dc,pm,an,cd,ct,sl,rfl,l0,c0],id F0.ex;have c8:=Ym X G ON;have pi:=Ym X G OX;have NU:=Ym X G OG;have u8:=Ym X G NK;have l7:=Ym X G n6;have OZ:=Ym X G Oi;have c6:Cls K C_Plain:=#[On,Oo,Op,Oq]
 have a7:Txt K C_Plain:=#[c6,NH,NI]
 have OQ:Tab K N0 ST:=#[t_STEP_PARTS]
 have Oy:Tab K NL FC:=#[t_FIRST_CHANGED]
 have n9:=Ym X G Oc;have OH:ExcAtI K c_NoItem m1 À:=#[Od,Oe,by rw[Y2];rfl,if_NoItem]
 have OA:=Ym X G Ou;have j6:=Ym X G NX;have Of:=Ym X G OM;have NP:=Ym X G NJ;have OR:ExcAt K c_LimbError VE:=#[NM,NN,⋯]
 have OY:ExcAt K c_Taken À:=#[Ov,Ow,by rw[Y2];rfl]
 have Oz:ExcAt K c_Beneath À:=#[NY,NZ,by rw[Y2];rfl]
 have OW:ExcAt K c_Far À:=#[OO,OP,by rw[Y2];rfl]
 have sN:ExS K c_NoItem:=#[s1,s2,e6]
 have er:ErF K c_NoItem c_Beneath c_Far _ _ _:=#[zH OH,rJ Oz,rJ OW,nb,nf,fb]
 refine#[W.fnOf "law" "law" (dY qk) (cJ qk) (aq qk) .none kV dc pm an cd ct,λs v=>.of_eq rfl,λbase _ _ Bl C=>?_];have B:Bx Ó w K mg base h:=#[X,G]
 have u9:=mkF B Af1 λF=>vQ F u8 OQ;have N5:=mkE B OH Am1 λF=>tZ F sN aN;have a6:=mkF B Af2 λF=>Bs F;have i9:=mkC B c6 OZ Os Ot Am2 λF=>vK F a7;have O7:=mkM B c6 Am3 λF=>vL F a7;have j7:=mkM B c6 Am4 λF=>qu F a7;have d8:=mkM B c6 Am5 λF=>sC F a7 a8;have p6:=mkX B c6 Am6 λF=>my F a7 u9 u4 (qU OY) OA N5 n9;have a9:=mkM B c6 Am7 λF=>lS F a7 pi;have l5:=mkX B c6 Am8 λF=>lT F a7 a9 c8 a8 (qU Oz) j6 (qU OW) Of;have NO:=mkM B c6 Am9 λF=>oM F a7 d8 j7 c8 pi Og;have v3:=mkM B c6 Am10 λF=>om F a7 d8 c8 pi j4;have Oh:=mkM B c6 Am11 λF=>ud F a7;have c5:=mkX B c6 Am12 λF=>ue F a7 p6 l5 j7 NO v3 d8 l7 Oy;have d7:=mkF B Af3 λF=>Bp F;have i5:=mkF B Af4 λF=>uf F;have i6:=mkF B Af5 λF=>vO F d7 i5;have Oj:=mkF B Af6 λF=>Dq F a6 d7;have N6:=mkF B Af7 λF=>Bt F a6;have p7:=mkF B Af8 λF=>sD F (yH c5) er n9 j6 Of;have OI:=mkF B Af9 λF=>Ir F Oh (yH c5) N6 p7;have p9:=mkF B Af10 λF=>Ds F i6 d7 a6 i5 Oj OI i9;have j8:=mkF B Af11 λF=>zh F p9;have j9:=mkF B Af12 λF=>ze F p9;have OB:=mkF B Af13 λF=>Fw F;have r6:=mkF B Af14 λF=>Ft F a6 OB;have u7:=mkF B Af15 λF=>Fp F a6 r6;have k9:=mkF B Af16 λF=>Bu F i9 c5;have v8:=mkF B Af17 λF=>vT F a6;have v9:=mkF B Af18 λF=>vR F;have NV:=mkF B Af19 λF=>yZ F a6 r6 u7 v8 a9 OU;have k7:=mkF B Af20 λF=>oO F NV a6;have i7:=mkF B Af21 λF=>vS F j8 j9 (BM k9) a6 v9 k7 NS;have NW:=mkF B Af22 λF=>zd F a6 u7 j5 a8;have NQ:=mkF B Af23 λF=>yc F j8 i6 i7 NW a6 NS u4;have i8:=mkF B Af24 λF=>vN F i7 j9;have l8:=mkF B Af25 λF=>vP F i8 k9;have N9:=mkF B Af26 λF=>Bq F i9 c5 (rJ OR) NP;have r9:=mkM B c6 Am13 λF=>mC F (CD Oi Am13.1 F tb1) C Bl a7 NU j3;have u5:=mkM B c6 Am14 λF=>nI F a7 r9 pi;have Ob:=mkM B c6 Am15 λF=>vM F a7 u5 c8 u6 a8;have N7:=mkF B Af27 λF=>Bo F a8;have Ox:=mkF B Af28 λF=>Iv F u3 a8;have OJ:=mkF B Af29 λF=>Iw F Ox a8;have OC:=mkF B Af30 λF=>Fu F OT;have OE:=mkF B Af31 λF=>Fs F OJ OC j5 u3 Og OD j3;have OF:=mkF B Af32 λF=>Fv F u4;have Om:=mkF B Af33 λF=>Dr F j4;have N8:=mkF B Af34 λF=>Br F Om;have OL:=mkF B Af35 λF=>Iu F j3;exact KG F0 N7 OE NQ i8 l8 OF N8 OL N9 Ob c5 w9 j4 a8
theorem NG{l:W.OpenLaw}{XP:(Pe)->Heap->Prop}{YP:Pk->Heap->Prop}{d:DefRec}{K:Params->Qa}(hn:l.most=some 63)(hdf:d.params.defaults=[])(hY:∀ (w:Pk) (h:Heap),YP w h->(K Æ).In h)(tb:∀ w:Pk,Lake.pI Ï "Plain" "sorted_names" = some Ô)(ht:∀ (w:Pk) (h:Heap),YP w h->W.CodeHd h c0 T/\h.get? T=some (W.tabObj #[]))(nt:∀ w:Pk,W.noTabs Ï=true)(F:∀ (w:Pk) (mg:Pe) (fa:Pg) (h:Heap),(K Æ).In h->h.Ns mainGlobals mg->mg d.name=some Õ ->
   ∃ fd:Pm,(∀ (s:Ph) (u:Pi),BindsTo s fd #[[u],[]] [("_law_script",u)])/\∀ base:Heap,(K Æ).In base->base.Ns mainGlobals mg->Blt base mg->W.CodeHd base c0 T->FnOk Ó w Ï mg base CX0 12 fa fd ["_law_script"] (spLaw40 Ï T)):
  W.WalkO q loose XP YP l.row.toRowW d [] (λf vs=>PySem.call f vs) :=
 Lake.BW (n:=63) (k:=12) (x:="_law_script") (tabs:=λ_=>[Ô]) (sp:=λw=>spLaw40 Ï T) hn ⋯ hdf #[rfl,⋯,⋯] hY (λw h y t htm=>by rw[Zi.mp htm];exact ht w h y) nt
  (λw mg fa h k g e=>let⟨fd,b,r⟩:=F w mg fa h k g e;#[fd,b,λbase k2 g2 bl cs=>r base k2 g2 bl (cs _ Ñ)]) (λw H a ns hl hT hS=>#[a,ns,rfl,hS,hl,hT _ Ñ,λ_=>rfl])
end
end Lake.K40
local macro_rules|`(mutual #check $s:str end)=>return Lean.mkNullNode (←(s.getString.splitOn " ").toArray.mapM fun w=>do
 let n:=Lean.mkIdent (.mkSimple s!"tw{w.foldl (fun n c=>n*52+(c.toNat-if c<'a' then 65 else 71)) 0}");let d←`(def $n:ident:=());return d.raw)
namespace PySem.W.Fast
mutual
#check"BYxzOGBsTbhw BwmJKDHfMPIN CAXCUFTERejj kzrmRfVYDbo WENLmCBkjzs BpIQXcKhZXuq uZskLzgXgGb BrshblNTjvyu BdEJHOXaAylF BanTMhOTTqzT CJxfFKDvDBlM yoiyfNWDEbE BNYUcWlpgmkF CWmoFAmAoNyC bfQBqtvtctS BVDkJUXzJkzd BbXYeosKSEPy BjYeEeLnfIIF ejlDCwnMEtH BBRKAJzgkHGc bcWKFfMofgd BRhsQmtQRcQr BwzadsufLlTX BPqerknCjKSf PsWDqsKGPH gXtOcHHTHLH BtTUUVajmBdG CKmZDFrKbQDq NTvXQGtVRlN SOgSvhUoOxK BEQPtAeiHhsh CAaduREJdyoK RHGWuvHzFPA giwdSxyAUND CWURMkzGpYkI sLkAEGuqKwn CCziqsbyQIjj QhtPfBlTrLc BxDuRokrusfC BzkmTWJzUqQy CUiDunROpUQc xbEHiSXOuYN fsFubYosjII CVCqNZlPoYho BbEiwbcQgUQM CIYdeZjMgryj BKVhFhYintiI ZADBvrRNjmG BZxmdICOspHf PZUUpkVGJgv BQjFnWOBzDPK CMvJjPmvPMEp tenvkXbDKSC COYCsvjltvuR nIsiHiblduI CUadJIoqWdgs BowTtTaihYup CQyYwnEAlDYp uyqGqFmuHIs oJmSPQbYMbR mDdRExEvrJt CQOUepDiWjdE RkNKeJIJcgv rxdaLiIxoZr EvXqQhowhXZ BItDxJOwCIYR FuYTHOheIUb CTnZZrLFWIEj vTwMzOTNIWV BUDbuGjfrNDR zaXDVpZAYWJ FvjtIyACNDr bVKkZMcwLGT BwObUHwBDbfU CUwYywmRjToM UViAveNyuoP BfokYVwmMUkl oUOMIWAwsEz pZgTwlbjGpK CShTEnWNZiEq EWGEQoKZFPl YzbEEpMQSkH BvjHUbVqyNzr COGWWsWMqjIk gnmYxLNpgzB CHmPQxLZJlml pWuebkuKJPP CAxvsHGDVlIZ CQRDvqYPJtiP KOfxiebfCSo CNgxzyAfgnAY BbWWQmQwyYej KdXmxmKwzSK BYFVKKnRsSOP DQHXIwWcEHY BYDpUfmTPowX BTuPjNECQeJo CSHUYOEmUwOK CFYVpLCWpVUl BVPJJHtLaXLi qMCIsfWIEgo CObVMyaMnGJz IpAWIvmcSpv BktlkoSIYXuJ OlGMUlOarKV BhPPwCKSguPw BwpDLqHucGJJ WRtIAFZwNUo BGNNYIhSRkig GNqfOELfIzo CVnnpDBEOsHV LZVmVbOmdxC BquarZFmCBls iVNDtCIGvbq BYMcepBIRVHa iOkjDkDhTjh goBAeqxHnOq CDoAQLcmCxHk CSNHDNOoPdyd BcDcdQFsziSB BeDkrCbmIkZt BnpkTXqJpBR BUSJHdbsIkAP CXMuXStyUCyu BwsVcGvIgmNG CQoVMrqYujmw JYSlhxjUKiD vHpBNmClrRR CFJFSpOYlRAq BnjUJnhELkVk CROEwoKAVtbc BpkqaHXXGyXB hiWJBUXRhns CHXHvKcVqUeH CWOfMRmOPezh LmEQtGewNTE KnatRldOYrf MBIALtExBYn BKuiBiOuzyIl BanYDGROnCYP TbmkclehkDE BFwnLLyrpJLn BfLbcOKnQnpc mZvVcJKgVfs BvsKuTmKlvqM cHJdBxPNmAf aMYVrrwnKQt BIbthlZVxDXM BPXScNXfJknF BDlzHwAJytpy EXjOUsFJQnj eyYThLWBlBR CQassiGaKDMw BpiIvSyZXAZl BqwVoZfxucUq BhKwkTFmzLgH SZMyUvVPDRt eKAKHgJVACj BJhIhtbelgMq BnuLlUQiWanK nciOeowaipR BfrKlCDAIVdk CXHXAdDTLgYK CXHGkqyCESbO XYACYbXjzYg CUgfjjdUBuMQ jtDdbBqnxh XMpnzSCjfYW BsJWOADtgsod CNBVXOtbuVOG BKVOiOTLYDDq WwsENYVELTK fQtXGarINof CECzfDLLaUWf CAnLflJeesCq dORLCzofTQj BfYlPoSfXQzg BHpVJooflUMu CTxNbBwbgbRm CEuoeqoKfrLz BjPUGXXuwpIK CGyATOeLVGFW JmfHgtYWDwy rrREDPJSLQn WOeGEIeXvtU yScUmEXJjwf BDOkMzzgDlbF CHtOVYtOdmCy BkuPaAwmnCSA BkbhFPaTeYPX CCuisLfjExRh mnqMTiNQFvo BJNPGdpFVscN BeStaOetdgea yakmiXdQVjv BaVgPDEiDgLn DAlWDBiXpbD CBlSrMvjGnNy BBaCLzWNUdJr CFDrYibWTvJF CLhQWVVTmKOE QOZMOfrpjMw BLoZNPFAxEpu BinsuzygkwZs CMPOVdqjOVdG XgqpIPNgTgf CTKiRCmpyREj VbavdnBdkUn BvriIshdmnmp ecPfTLamdKw CDAbZTAGinCk jaeEEFmnssf BHWupOBVDxJI STGGoCPuItU WSMXJUpYPTx BTbqmYWRreMw BVSxHlTQxunM BOyoxfWIvKT JaSKmrlvatZ BFySadnInADR BKipOmiLOtQe OknmfVmqJse FulMHArbxSM CJueQNtvFCpU zYxmXBgoEim BBmpLTzRfrDa VNZmsrQwuzP VOlbQJdidlK BYKjHNvgUOsH kkHjJaTOEfb BDjlwIqpUhWB RqKrcsWRSmd ybBgTBXaRce BiSTebOBlVOb CAuZMnWJYisM CSAPvRhbPhmM CRUxKYrUbJJH uTjZzVwQVhl JwHIVxVMphC BdvoErHtlFZU gLeZWAqSjLt BxhNqOZCJRqw PsfYeXsozbS ZjORgoObTNq NSTCbwmhhjU QolkPCvZXoj hKKmBQVFzkF CNvWxhyhEli BvAFzosJvZUH CWZzFYJyGOCa BFYsLcUacngM CFeaPZWbloLi ocrNSWmoTnB LidYNRDfGTe BBfpOqxgZUow CHkXapbRwPFN CMeguKEWzaIs BftpXJBspzyC BxGELwKNcuDm BFCESBEZmpmm fTSlAIvdTXl CDsysMbQAsUQ EtTUYhfCOhS BbzEJmWDvQtS jfRSFEgWFDN BgpfHqQvEcQp"
end
end PySem.W.Fast
end
open PySem PySem.W PyProof.Rows
set_option maxRecDepth 100000 in
set_option maxHeartbeats 0 in
theorem PySem.Challenge.cw_limb_k40_whole_history_plays_holds : PySem.Challenge.rw_limb_k40_whole_history_plays.Holds := by
  w_on; o_law; k_head; (case hw => w_witness2)
  k_fill
  refine' Lake.K40.NG (l := PySem.Challenge.rw_limb_k40_whole_history_plays) rfl rfl (λw h Y => W.km_in_of Y) ?tb ?ht ?nt ?F
  case tb => intro w; with_unfolding_all rfl
  case ht => intro w h Y; exact ⟨codeHd_of_K (km_in_of Y) (by kernel_rfl), km_tabs_of Y _ (by k_mem)⟩
  case nt => intro w; kernel_rfl
  case F =>
    intro w mg fa h KX G hmg
    refine' Lake.K40.JW KX G hmg ?_ ?_ ?_ ?_ ?_ ?_ ?_ ?_ ?_ ?_ ?_ ?_ ?_ ?_ ?zF ?zM ?zN ?_ ?_ ?_ ?_ ?_ ?_ ?_ ?_ ?_ ?if_NoItem ?_ ?_ ?_ ?_ ?_ ?_ ?_ ?_ ?_ ?_ ?_ ?_ ?_ ?_ ?_ ?_
    all_goals try first | exact ⟨_, _, _, _, _, _, _, _, rfl, rfl, rfl, by kernel_rfl, by kernel_rfl, by first | kernel_rfl | k_is⟩ | exact ⟨_, _, _, _, rfl, rfl⟩ | k_is | rfl
    (case zF => (repeat refine Lake.K40.gf (by k_is) (by k_is) (by k_is) (by k_is) ?_); exact True.intro)
    (case zM => (repeat refine Lake.K40.gm (by k_is) (by k_is) (by k_is) (by k_is) (by k_is) ?_); exact True.intro)
    (case zN => (repeat refine Lake.K40.gn (by k_is) ?_); exact True.intro)
    (case if_NoItem => exact ⟨_, rfl, rfl⟩)
