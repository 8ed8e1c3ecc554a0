import PyProof.Rows.All
import Wide.All
import OpenK.AllK
import Wide.FinOn
import PyProof.EqAt
import PyProof.EqKinds
import PyProof.TupleCall
import Lean
import PySem.Challenge.RW_limb_k55_whole_asked
set_option linter.all false
def LI:=@if_pos
def LH:=@if_neg
def z6:=@PySem.wpAny_bind
def z9:=@List.getElem?_eq_getElem
def Za:=@PySem.Heap.get?_push_of_some
def Zb:=@PySem.wpAny_pure
def Zd:=@List.length_map
def Ze:=@Nat.le_refl
def Zf:=@List.mem_cons
def Zg:=@List.getD_eq_getElem?_getD
def Zh:=@List.size_toArray
def Zi:=@List.length_append
def Zj:=@List.mem_singleton
def Zk:=@PySem.Heap.get?_push_size
def Zl:=@List.length_cons
def Zm:=@List.getElem?_eq_some_iff
def Zn:=@List.mem_cons_of_mem
def Zo:=@List.mem_cons_self
def Zq:=@List.getElem?_map
def Zr:=@PySem.Heap.lt_size
def Zs:=@List.map_cons
def Zt:=@Nat.le_trans
def Zu:=@Array.length_toList
def Zv:=@Bool.false_ne_true
def Zw:=@List.mem_map
def Zx:=@Nat.ne_of_lt
def Zy:=@Nat.zero_le
def Zz:=@List.not_mem_nil
def ZA:=@Nat.lt_of_lt_of_le
def ZB:=@Option.some.inj
def ZC:=@List.mem_of_getElem?
def ZD:=@List.length_take
def ZE:=@List.mem_append
def ZF:=@List.getElem?_append_right
def ZG:=@List.getElem_mem
def ZH:=@PySem.boot_len
def ZI:=@PySem.Heap.SameBut.update
def ZJ:=@List.mem_append_right
def ZK:=@Bool.and_eq_true
def ZL:=@Option.map_eq_some_iff
def ZM:=@List.mem_range
def ZN:=@congrArg
def ZO:=@List.append_assoc
def ZP:=@List.mem_filter
def ZQ:=@Array.getD_eq_getD_getElem?
def ZR:=@List.mem_iff_getElem?
def ZS:=@List.getElem?_append_left
def ZT:=@PySem.wpAny_call_entry
def ZU:=@List.map_append
def ZV:=@Nat.ne_of_gt
def ZW:=@PySem.W.mg_of
def ZX:=@List.lookup_cons
def ZY:=@or_false
def ZZ:=@of_decide_eq_true
def Z0:=@PySem.wpAny_callSpecial?_slot
def Z1:=@List.length_singleton
def Z2:=@PySem.wpAny_holding
def Z3:=@Bool.eq_iff_iff
def Z4:=@PySem.wpAny_truthy_bool
def Z5:=@PyProof.Rows.callWith_type1
def Z6:=@decide_eq_true_iff
def Z7:=@PySem.wpAny_mono
def Z8:=@PySem.Paired.length
def Z9:=@List.pairwise_iff_getElem
def y6:=@Bool.false_eq_true
def y7:=@Ne.symm
def y8:=@List.length_filter_le
def y9:=@PyProof.Rows.slot_tuple_getitem
def Ya:=@PySem.wpAny_Call_Name_kw
def Yb:=@List.nodup_cons
def Yc:=@PyProof.Rows.get?_update_seq
def Yd:=@Nat.lt_succ_self
def Ye:=@List.ext_getElem
def Yf:=@Array.getElem?_eq_getElem
def Yg:=@beq_eq_false_iff_ne
def Yh:=@PySem.mem_of_lookup
def Yi:=@PySem.wpAny_newObj_type
def Yj:=@Nat.lt_succ_of_lt
def Yk:=@PySem.F.slot_dict_keyiterator_next
def Yl:=@Nat.lt_irrefl
def Ym:=@PyProof.Rows.listUpdate_at
def Yn:=@PySem.W.kia_one
def Yo:=@PySem.wpAny_field
def Yp:=@PySem.PassesOwn.never
def Yq:=@Int.emod_lt_of_pos
def Yr:=@PySem.Heap.get?_none_of_le
def Ys:=@Array.mem_toList_iff
def Yt:=@List.length_drop
def Yu:=@List.any_eq_true
def Yv:=@PySem.wpAny_rule
def Yw:=@List.map_map
def Yx:=@PySem.strLen_append
def Yy:=@List.cons.inj
def Yz:=@PySem.Heap.size_push
def YA:=@Nat.le_succ
def YB:=@List.take_of_length_le
def YC:=@List.drop_eq_getElem_cons
def YD:=@Int.emod_nonneg
def YE:=@Nat.le_of_ble_eq_true
def YF:=@List.getElem?_reverse
def YG:=@Option.isSome_iff_exists
def YH:=@if_false
def YI:=@Nat.le_add_right
def YJ:=@of_decide_eq_false
def YK:=@beq_iff_eq
def YL:=@List.append_nil
def YM:=@List.length_reverse
def YN:=@List.map_nil
def YO:=@List.all_cons
def YQ:=@List.any_cons
def YR:=@PySem.Heap.get?_update_self
def YS:=@List.Pairwise.sublist
def YT:=@PySem.F.slot_zip_next
def YU:=@Nat.lt_or_ge
def YV:=@Nat.sub_self
def YW:=@PyProof.Rows.boot_sorted
def YX:=@PySem.wpAny_dictEntries
def YY:=@PySem.wpAny_typeNameOfWhole_keyiter
def YZ:=@List.length_pos_iff
def Y0:=@List.getElem_of_mem
def Y1:=@PySem.wpAny_seqItems
def Y2:=@Array.toList_inj
def Y3:=@PySem.Heap.get?_update_other
def Y4:=@PySem.Calls.spliced_cons
def Y5:=@Nat.lt_of_le_of_lt
def Y6:=@Array.getElem?_toList
def Y7:=@List.getElem?_eq_none
def Y8:=@Nat.min_eq_left
def Y9:=@Bool.eq_false_iff
def x9:=@Nat.le_succ_of_le
def Xa:=@List.pairwise_map
set_option Elab.async false
set_option compiler.extract_closed false
set_option maxRecDepth 100000
set_option maxHeartbeats 2000000
local macro_rules | `(tactic| omega) => `(tactic| first | with_reducible first | assumption | exact Nat.le_of_lt (by assumption) | exact Nat.le_refl _ | exact Nat.lt_add_one _ | exact Nat.le_trans (by assumption) (by decide) | exact Nat.lt_of_lt_of_le (by assumption) (by decide) | exact Nat.sub_lt_sub_left (by assumption) (Nat.lt_add_one _) | exact Nat.le_antisymm (by assumption) (Nat.le_of_not_lt (by assumption)) | lia)
local macro_rules | `(tactic| decide) => `(tactic| decide +kernel)
abbrev LJ:=List (PySem.Addr×PySem.Obj)
abbrev LK:=PySem.Value->PySem.Shared->Prop
abbrev LL:=PySem.Str->Option PySem.Value
abbrev LM:=List PySem.Value
abbrev LN:=PySem.Addr
abbrev LO:=PySem.Shared
abbrev LP:=PySem.Value
abbrev LQ:=PySem.Program
abbrev LU:=PySem.World
abbrev LV:=PySem.Around
abbrev LW:=PySem.FuncData
abbrev LX:=List Int
abbrev LY:=Array Nat
abbrev LZ:=Nat->Nat->Bool
abbrev L3:=PySem.Expr
section
set_option hygiene false
set_option linter.defProp false
local macro_rules | `(⋯) => `(by decide)
local macro_rules | `(∅) => `(by omega)
local macro_rules | `(#[$xs,*]) => do if xs.getElems.isEmpty then Lean.Macro.throwUnsupported else `(⟨$xs,*⟩)
local macro_rules | `(↑$x:ident) => `($x P w K mg base)
local macro_rules | `(↑$x:num) => `(q_v $x)
local macro_rules | `(↑99) => `((hr.mono (by decide)))
local macro_rules | `(~~~$x:num) => `(⟨rfl,rfl,rfl,by decide,rfl,by decide,by decide⟩)
local macro_rules | `(tactic| exists 0, $x) => `(tactic| refine F.okQ $x (fun vs H Q E h=>?_) (fun cdv A outer s H vs Q E hr h=>?_))
local macro_rules | `(tactic| exists $x) => `(tactic| (refine F.okQ $x (fun vs H Q E h=>?_) (fun cdv A outer s H vs Q E hr h=>?_);(first|(· cases h;subst_vars;rfl)|(· repeat(first|(obtain⟨rfl,_⟩:=h;rfl)|obtain⟨_,h⟩:=h)))))
local macro_rules | `(tactic| exists _, $y) => `(tactic| (refine ⟨_,$y,?_⟩;try rw [cxK]))
local macro_rules | `(tactic| exists [$xs,*], $e) => do
  let ps ← xs.getElems.mapM fun x => match x with
    | `($i:ident) => `(Lean.Parser.Tactic.rcasesPatLo| $i:ident)
    | `(_) => `(Lean.Parser.Tactic.rcasesPatLo| _)
    | _ => Lean.Macro.throwUnsupported
  `(tactic| obtain ⟨$ps,*⟩ := $e)
namespace L2
open PySem PySem.Spec PyProof.Rows
abbrev Key:=Sum Int Str
def mt:Key->LP->Bool
 |.inl k,v=>Value.isInt k v
 |.inr x,v=>Value.isStrOf x v
def JY(w:LU):Key->Int
 |.inl k=>hashInt k
 |.inr x=>hashStr w x
def bW:∀{k:Key} {v:LP},mt k v=true->(∃i t,k=Sum.inl i/\v=Value.int i t)\/(∃x t,k=Sum.inr x/\v=Value.str x t)
 |.inl i,v,h=>by exists[t,e],Value.isInt_shape (k:=i) (v:=v) h;exact .inl #[i,t,rfl,e]
 |.inr x,v,h=>by exists[t,e],Value.isStrOf_shape (x:=x) (v:=v) h;exact .inr #[x,t,rfl,e]
def Aw(i:Int)(t:Tok):mt (.inl i) (.int i t)=true:=by simp[mt,Value.isInt]
def Ax(x:Str)(t:Tok):mt (.inr x) (.str x t)=true:=by simp[mt,Value.isStrOf]
def GV(a b:Int):decide ((Sum.inl a:Key)=Sum.inl b)=(a==b):=by
 by_cases e:a=b
 ·subst e;simp
 ·have h:¬(Sum.inl a:Key)=Sum.inl b:=λq=>e (Sum.inl.inj q);rw[decide_eq_false h];exact(Yg.mpr e).symm
def GY(a b:Str):decide ((Sum.inr a:Key)=Sum.inr b)=decide (a=b):=by
 by_cases e:a=b
 ·subst e;simp
 ·have h:¬(Sum.inr a:Key)=Sum.inr b:=λq=>e (Sum.inr.inj q);rw[decide_eq_false h,decide_eq_false e]
def GW(a:Int)(b:Str):decide ((Sum.inl a:Key)=Sum.inr b)=false:=decide_eq_false (λq=>nomatch q)
def GX(a:Str)(b:Int):decide ((Sum.inr a:Key)=Sum.inl b)=false:=decide_eq_false (λq=>nomatch q)
def ba(prog:LQ)(w:LU):PySem.KeyKind prog w Key where
 is:=mt
 hash:=JY w
 inj:=λv a b ha hb=>by
  rcases bW ha with⟨i,t,rfl,rfl⟩|⟨x,t,rfl,rfl⟩
  ·rcases bW hb with⟨j,u,rfl,e⟩|⟨y,u,rfl,e⟩
   ·injection e with e1 _;rw[e1]
   ·exact nomatch e
  ·rcases bW hb with⟨j,u,rfl,e⟩|⟨y,u,rfl,e⟩
   ·exact nomatch e
   ·injection e with e1 _;rw[e1]
 byValue:=λk v h=>by rcases bW h with⟨i,t,rfl,rfl⟩|⟨x,t,rfl,rfl⟩<;>rfl
 pyHash:=λhv h=>by
  rcases bW hv with⟨i,t,rfl,rfl⟩|⟨x,t,rfl,rfl⟩
  ·exact wpAny_pyHash_int h
  ·exact wpAny_pyHash_str h
 eqBool:=λhu hv h=>by
  rcases bW hu with⟨i,t,rfl,rfl⟩|⟨x,t,rfl,rfl⟩
  ·rcases bW hv with⟨j,u,rfl,rfl⟩|⟨y,u,rfl,rfl⟩
   ·rw[GV]at h;exact wpAny_eqBool_int h
   ·rw[GW]at h;exact SeqAt.EqAt.int_str i t y u _ _ _ _ h
  ·rcases bW hv with⟨j,u,rfl,rfl⟩|⟨y,u,rfl,rfl⟩
   ·rw[GX]at h;exact SeqAt.EqAt.str_int x t j u _ _ _ _ h
   ·rw[GY]at h;exact wpAny_eqBool_str h
 «strs»:=λk x t v h=>by
  rcases bW h with⟨i,u,rfl,e⟩|⟨y,u,rfl,e⟩
  ·exact nomatch e
  ·injection e with e1 _;subst e1;cases v<;>rfl
def wg(prog:LQ)(w:LU)(i:Int)(t:Tok):(ba prog w).is (.inl i) (.int i t)=true:=Aw i t
def wj(prog:LQ)(w:LU)(x:Str)(t:Tok):(ba prog w).is (.inr x) (.str x t)=true:=Ax x t
inductive V where
 |non|bl (b:Bool)|int (i:Int)|str (x:Str)|byt (b:Array UInt8)|flt (b:UInt64)|ref (a:LN)|ty (n:String)
 deriving DecidableEq
def RelV:V->LP->Prop
 |.non,u=>u=Value.none
 |.bl b,u=>u=Value.bool b
 |.int i,u=>∃t,u=Value.int i t
 |.str x,u=>∃t,u=Value.str x t
 |.byt b,u=>∃t,u=Value.bytes b t
 |.flt b,u=>∃t,u=Value.float b t
 |.ref a,u=>u=Value.ref a
 |.ty n,u=>u=Value.type n
abbrev Vals:List V->LM->Prop:=Paired RelV
def Vals.length(r:Vals xs us):xs.length=us.length:=Z8 r
theorem Vals.get:∀{xs:List V} {us:LM} {i:Nat} {x:V},Vals xs us->xs[i]?=some x->∃u,us[i]?=some u/\RelV x u
 |_,_,_,_,.nil,e=>by simp at e
 |_,_,0,_,.cons r _,e=>by simp at e;subst e;exact#[_,rfl,r]
 |_,_,i+1,x,.cons _ t,e=>by exists[u,h1,h2],Vals.get (i:=i) (x:=x) t (by simpa using e);exact#[u,by simpa using h1,h2]
theorem Vals.append:∀{xs ys:List V} {us ws:LM},Vals xs us->Vals ys ws->Vals (xs++ys) (us++ws)
 |_,_,_,_,.nil,s=>s
 |_,_,_,_,.cons r t,s=>.cons r (Vals.append t s)
theorem Vals.take:∀{xs:List V} {us:LM} (n:Nat),Vals xs us->Vals (xs.take n) (us.take n)
 |_,_,0,_=>.nil
 |_,_,_+1,.nil=>.nil
 |_,_,n+1,.cons r t=>.cons r (Vals.take n t)
theorem Vals.drop:∀{xs:List V} {us:LM} (n:Nat),Vals xs us->Vals (xs.drop n) (us.drop n)
 |_,_,0,r=>r
 |_,_,_+1,.nil=>.nil
 |_,_,n+1,.cons _ t=>Vals.drop n t
def RelO:Option V->Option LP->Prop
 |some v,some u=>RelV v u
 |none,none=>True
 |_,_=>False
def KV{κ:Type}:List (κ×V)->List (κ×LP)->Prop:=Paired fun(p:κ×V) (q:κ×LP)=>p.1=q.1/\RelV p.2 q.2
def kV:Key->V
 |.inl i=>.int i
 |.inr x=>.str x
inductive HO where
 |lst (xs:List V)
 |tup (xs:List V)
 |dK (kvs:List (Key×V))|dT (kvs:List (List Key×V))
 |set (S:Int->Bool)(n:Nat)
 |ins (C dx:LN)(fs:List (Str×V))
 |own (x:LN)
 |xd (fs:List (Str×V))
 |met (f x:LN)
 |rng (lo hi:Int)
 |frz (o:Obj)(u:HO)
 |tbl (ps:Array LP)
 |ext (φ:Heap->Prop)
abbrev Hp:=LN->Option HO
def upd(H:Hp)(a:LN)(o:HO):Hp:=λb=>if b=a then some o else H b
def ac:upd H a o a=some o:=by unfold upd;rw[LI rfl]
def ag(h:b≠a):upd H a o b=H b:=by unfold upd;rw[LH h]
def jJ{H:Hp}(h:H a=some o)(h':H b=some u)(d:o≠u):a≠b:=by intro e;subst e;rw[h]at h';exact d (ZB h')
def ar{H:Hp}(h:H a=some o)(h':H b=none):a≠b:=by intro e;subst e;rw[h]at h';cases h'
section
variable(P:LQ)(w:LU)
def ObjOk(H:Hp)(h:Heap)(a:LN):HO->Prop
 |.lst xs=>xs.length<=sizeLine/\∃(its:LM) (n:Nat),Vals xs its/\h.get? a=some { cls:=.type "list",data:=.seq its.toArray n }
 |.tup xs=>xs.length<=sizeLine/\∃its:LM,Vals xs its/\IsTup h a its.toArray
 |.dK kvs=>kvs.length<=sizeLine/\(a==sysModules)=false/\∃vs,KV kvs vs/\h.DictOf (ba P w) a vs
 |.dT kvs=>kvs.length<=sizeLine/\(a==sysModules)=false/\∃xs:List (List Key×LN×LP),
   Paired (fun(p:List Key×V) (q:List Key×LN×LP)=>p.1=q.1/\H q.2.1=some (.tup (p.1.map kV))/\RelV p.2 q.2.2) kvs xs /\
   ∃o es ep,h.get? a=some o/\o.ExactDict/\o.data=.dict es ep/\es.toList=xs.map (entryOfKey (tupleKind (ba P w)))/\(xs.map (·.1)).Nodup
 |.set S n=>h.SetOf (intKind P w) a S n
 |.ins C dx fs=>H dx=some (.own a)/\fs.length<=1000/\dx≠a/\h.get? a=some (W.instObj C dx) /\
   ∃mA,h.Ns1 dx mA/\(∀f,RelO (fs.lookup f) (mA f))/\PySem.Within mA (fs.map (·.1))
 |.own _=>∃o,h.get? a=some o
 |.xd fs=>∃mA,h.Ns1 a mA/\∀f,RelO (fs.lookup f) (mA f)
 |.rng lo hi=>∃t u v,h.get? a=some { cls:=.type "range",data:=.fields (List.toArray [.int lo t,.int hi u,.int 1 v]) }
 |.frz o u=>h.get? a=some o/\ObjOk H h a u
 |.tbl ps=>h.get? a=some { cls:=.none,data:=.fields ps }
 |.met f x=>h.get? a=some (W.methodObj (.ref f) (.ref x))
 |.ext φ=>φ h/\(∃o,h.get? a=some o)/\∀h1 h2:Heap,φ h1->(∀o,h1.get? a=some o->h2.get? a=some o)->φ h2
def HOk(H:Hp)(h:Heap):Prop:=∀a o,H a=some o->ObjOk P w H h a o
end
section
variable{H':Hp}{h':Heap}{a:LN}
def ObjOk.lt(x:ObjOk P w H h a o):a<h.objs.size:=by
 cases o with
 |lst xs=>exists[_,_,_,_,e],x;exact Zr e
 |tup xs=>exists[_,_,_,p],x;exact p.lt
 |dK kvs=>exists[_,_,_,_,o,_,_,e,_],x;exact Zr e
 |dT kvs=>exists[_,_,_,_,o,_,_,e,_],x;exact Zr e
 |set S n=>exists[o,_,_,_,e,_],x;exact Zr e
 |ins C dx fs=>exists[_,_,_,e,_],x;exact Zr e
 |own y=>exists[_,e],x;exact Zr e
 |xd fs=>obtain⟨_,⟨_,_,_,e,_⟩,_⟩:=x;exact Zr e
 |rng lo hi=>exists[_,_,_,e],x;exact Zr e
 |frz ob u=>exists[e,_],x;exact Zr e
 |tbl ps=>exact Zr (show h.get? a=some _ from x)
 |met f y=>exact Zr (show h.get? a=some _ from x)
 |ext φ=>obtain⟨_,⟨_,e⟩,_⟩:=x;exact Zr e
theorem Paired.mapP{α β:Type}{F G:α->β->Prop}:∀{l₁:List α} {l₂:List β},Paired F l₁ l₂->(∀a b,F a b->G a b)->Paired G l₁ l₂
 |_,_,.nil,_=>.nil
 |_,_,.cons r t,f=>.cons (f _ _ r) (Paired.mapP t f)
def ObjOk.stay(x:ObjOk P w H h a o)(k:∀b u,(b=a\/H b=some (.own a))->h.get? b=some u->h'.get? b=some u)(ho:∀b,H b=some (.own a)->H' b=some (.own a))(ht:∀b xs,H b=some (.tup xs)->H' b=some (.tup xs)):ObjOk P w H' h' a o:=by
 induction o with
 |lst xs=>exists[z,its,n,r,e],x;exact#[z,its,n,r,k _ _ (.inl rfl) e]
 |tup xs=>exists[z,its,r,ob,e,c],x;exact#[z,its,r,ob,k _ _ (.inl rfl) e,c]
 |dK kvs=>exists[z,y,vs,r,ob,es,ep,e,c],x;exact#[z,y,vs,r,ob,es,ep,k _ _ (.inl rfl) e,c]
 |dT kvs =>exists[z,y,xs,r,ob,es,ep,e,c],x;exact#[z,y,xs,Paired.mapP r λp q z=>#[z.1,ht _ _ z.2.1,z.2.2],ob,es,ep,k _ _ (.inl rfl) e,c]
 |set S n=>exists[ob,es,ep,t,e,c],x;exact#[ob,es,ep,t,k _ _ (.inl rfl) e,c]
 |ins C dx fs =>obtain⟨d,z,ne,e,mA,⟨od,es,ep,e2,c⟩,r⟩:=x;exact#[ho _ d,z,ne,k _ _ (.inl rfl) e,mA,#[od,es,ep,k _ _ (.inr d) e2,c],r]
 |own y=>exists[ob,e],x;exact#[ob,k _ _ (.inl rfl) e]
 |xd fs=>obtain⟨mA,⟨od,es,ep,e,c⟩,r⟩:=x;exact#[mA,#[od,es,ep,k _ _ (.inl rfl) e,c],r]
 |rng lo hi=>exists[t,u,v,e],x;exact#[t,u,v,k _ _ (.inl rfl) e]
 |frz ob u ih=>exists[e,q],x;exact#[k _ _ (.inl rfl) e,ih q]
 |tbl ps =>have e:h.get? a=some { cls:=.none,data:=.fields ps }:=x;show h'.get? a=some { cls:=.none,data:=.fields ps };exact k a _ (.inl rfl) e
 |met f y =>have e:h.get? a=some (W.methodObj (.ref f) (.ref y)):=x;show h'.get? a=some (W.methodObj (.ref f) (.ref y));exact k a _ (.inl rfl) e
 |ext φ=>obtain⟨p,⟨o,e⟩,st⟩:=x;exact#[st _ _ p λo q=>k _ _ (.inl rfl) q,#[o,k _ _ (.inl rfl) e],st]
def HOk.lt(x:HOk P w H h)(e:H a=some o):a<h.objs.size:=(x a o e).lt
def HOk.fresh(x:HOk P w H h)(e:h.objs.size<=a):H a=none:=by
 cases q:H a with
 |none=>rfl
 |some u=>exact absurd (ZA (x.lt q) e) (Yl _)
def HOk.kept(x:HOk P w H h)(k:∀b u,h.get? b=some u->h'.get? b=some u):HOk P w H h':=λa o e =>
 (x a o e).stay (λb u _ q=>k b u q) (λ_ q=>q) λ_ _ q=>q
def HOk.laid(x:HOk P w H h)(k:∀b u,h.get? b=some u->h'.get? b=some u)(hp:h.objs.size<=a)(new:ObjOk P w (upd H a o) h' a o):HOk P w (upd H a o) h':=λb u e=>by
 have hn:=x.fresh hp;by_cases hb:b=a
 ·subst hb;rw[ac]at e;cases e;exact new
 ·rw[ag hb]at e;exact(x b u e).stay (λc v _ q=>k c v q) (λc q=>by rw[ag (ar q hn)];exact q) λc xs q=>by rw[ag (ar q hn)];exact q
end
def Rd(H:Hp)(a:LN)(u:HO):Prop:=H a=some u\/∃o,H a=some (.frz o u)
def Rd.of{H:Hp}(h:H a=some u):Rd H a u:=.inl h
def Rd.ok{w:LU}(r:Rd H a u)(x:HOk P w H h):ObjOk P w H h a u:=by
 rcases r with r|⟨o,r⟩
 ·exact x a u r
 ·exists[_,q],x a _ r;exact q
def Mut:Option HO->Prop
 |some (.lst _)=>True
 |some (.dK _)=>True
 |some (.dT _)=>True
 |some (.set _ _)=>True
 |some (.ins _ _ _)=>True
 |some (.ext _)=>True
 |_=>False
section
variable{h':Heap}
def HOk.write(ok:HOk P w H h)(mu:Mut (H x))(he:e=x\/H e=some (.own x))(k:∀b u,b≠e->h.get? b=some u->h'.get? b=some u)(heo:∃u,h'.get? e=some u)(new:ObjOk P w (upd H x o') h' x o'):HOk P w (upd H x o') h':=λb u q=>by
 have nown:∀c y,H c=some (.own y)->c≠x:=λc y r z=>by subst z;rw[r]at mu;exact mu
 have ntup:∀c xs,H c=some (.tup xs)->c≠x:=λc xs r z=>by subst z;rw[r]at mu;exact mu
 by_cases hb:b=x
 ·subst hb;rw[ac]at q;cases q;exact new
 ·rw[ag hb]at q;by_cases hbe:b=e
  ·have q':H b=some (.own x):=by
    rcases he with z|z
    ·exact absurd (hbe.trans z) hb
    ·rw[hbe];exact z
   rw[q]at q';cases q';exists[v,hv],heo;exact#[v,by rw[hbe];exact hv]
  ·refine(ok b u q).stay (λc v hc r=>k c v ?_ r) (λc r=>by rw[ag (nown c b r)];exact r) λc xs r=>by rw[ag (ntup c xs r)];exact r
   rcases hc with rfl|hc
   ·exact hbe
   ·rintro rfl;rcases he with z|z
    ·exact nown c b hc z
    ·rw[hc]at z;cases z;exact hb rfl
end
structure Un(fs ex:List LN)(H H':Hp)(h h':Heap):Prop where
 keep:∀b o,h.get? b=some o->H b=none->b∉fs->b∉ex->h'.get? b=some o
 slot:∀b o,h.get? b=some o->H b=none->b∈fs->b∉ex->∃sl,h'.get? b=some { o with slots:=sl }
 free:∀b o,h.get? b=some o->H b=none->b∉ex->H' b=none
 there:∀b o,h.get? b=some o->b∉ex->∃o',h'.get? b=some o'
 tups:∀b xs,H b=some (.tup xs)->H' b=some (.tup xs)
 frzs:∀b o u,H b=some (.frz o u)->H' b=some (.frz o u)
 tbls:∀b ps,H b=some (.tbl ps)->∃more,H' b=some (.tbl (ps++more))
section
variable{fs:List LN}{H:Hp}{h h':Heap}
def Un.any(u:Un fs ex H H1 h h1)(q:h.get? b=some ob)(n:H b=none)(hx:b∉ex):∃sl,h1.get? b=some { ob with slots:=sl }:=by
 by_cases hb:b∈fs
 ·exact u.slot b ob q n hb hx
 ·exact#[ob.slots,u.keep b ob q n hb hx]
def Un.kept(k:∀b u,h.get? b=some u->h'.get? b=some u):Un fs ex H H h h' :=
 #[λb ob q _ _ _=>k b ob q,λb ob q _ _ _=>#[ob.slots,k b ob q],λ_ _ _ n _=>n,λb ob q _=>#[ob,k b ob q],λ_ _ q=>q,λ_ _ _ q=>q,λ_ ps q=>#[#[],by rw[q];simp]]
def Un.refl:Un fs ex H H h h:=Un.kept λ_ _ q=>q
def Un.laid(k:∀b u,h.get? b=some u->h'.get? b=some u)(hp:h.objs.size<=a)(hn:H a=none):Un fs ex H (upd H a o) h h' where
 keep:=λb u q _ _ _=>k b u q
 slot:=λb u q _ _ _=>#[u.slots,k b u q]
 free:=λb u q n _=>by rw[ag (Zx (ZA (Zr q) hp))];exact n
 there:=λb u q _=>#[u,k b u q]
 tups:=λb xs q=>by rw[ag (ar q hn)];exact q
 frzs:=λb u xs q=>by rw[ag (ar q hn)];exact q
 tbls:=λb ps q=>#[#[],by rw[ag (ar q hn),q];simp]
def Un.write(mu:Mut (H x))(he:e=x\/H e=some (.own x))(k:∀b u,b≠e->h.get? b=some u->h'.get? b=some u)(heo:∃u,h'.get? e=some u):Un fs ex H (upd H x o) h h':=by
 have hx:∀b,H b=none->b≠x:=λb n z=>by subst z;rw[n]at mu;exact mu
 have hb:∀b,H b=none->b≠e:=λb n z=>by
  subst z;rcases he with r|r
  ·exact hx b n r
  ·rw[n]at r;cases r
 have hm:∀b u,H b=some u->¬Mut (some u)->b≠x:=λb u q nm z=>by subst z;rw[q]at mu;exact nm mu
 refine#[λb u q n _ _=>k b u (hb b n) q,λb u q n _ _=>#[u.slots,k b u (hb b n) q],λb u q n _=>by rw[ag (hx b n)];exact n,λb u q _=>?_,
  λb xs q=>by rw[ag (hm b _ q λz=>z)];exact q,λb u xs q=>by rw[ag (hm b _ q λz=>z)];exact q,λb ps q=>#[#[],by rw[ag (hm b _ q λz=>z),q];simp]]
 by_cases hbe:b=e
 ·subst hbe;exact heo
 ·exact#[u,k b u hbe q]
end
def trk(h:Heap)(H:Hp):List LN:=(List.range h.objs.size).filter λa=>(H a).isSome
def iH(h:Heap)(H:Hp):Heap:=W.hideAll h (trk h H)
def An(h:Heap)(H:Hp):(iH h H).objs.size=h.objs.size:=W.hideAll_size _ _
def jB{h:Heap}{H:Hp}(e:h.get? b=some o)(n:H b=none):(iH h H).get? b=some o :=
 W.hideAll_get _ e λhm=>by have q:(H b).isSome=true:=(ZP.mp hm).2;rw[n]at q;simp at q
def E7(e:(iH h H).get? b=some o):h.get? b=some o/\H b=none:=by
 have e':h.get? b=some o:=W.of_hideAll (trk h H) e;refine#[e',?_];cases q:H b with
 |none=>rfl
 |some x =>have hm:b∈trk h H:=ZP.mpr #[ZM.mpr (Zr e'),by simp[q]];have z:(iH h H).get? b=none:=W.hideAll_none (trk h H) hm;rw[z]at e;cases e
structure Mod(K:W.Frag)(mg:LL)(base:Heap):Prop where
 kin:K.In base
 glob:base.Ns mainGlobals mg
 blt:∃mb,base.Ns builtinsNs mb/\∀x:Str,x≠"__name__"->mb x=bootBuiltins x
 nolimit:base.NoLimit
structure Cx where
 prog:LQ
 w:LU
 K:W.Frag
 mg:LL
 base:Heap
 A:LV
 N:List Str
 s₀:LO
 H₀:Hp
 env:Env
 outer:List Env
 stack:List Env
 ex:List LN
 fn:Str->Bool
 calm:Bool
 pn:LJ
 xe:LK
def frs(l:List Env):List LN:=l.filterMap (·.frame)
abbrev Cx.fs(X:Cx):List LN:=frs X.outer
def Vis(sc:Scope)(x:Str):Prop:=sc.names.lookup x=some .local\/sc.names.lookup x=some .cell\/sc.names.lookup x=some .free
def Loc(sc:Scope)(x:Str):Prop:=sc.names.lookup x=some .local\/sc.names.lookup x=some .cell
def JQ(env:Env)(h:Heap)(m:LL)(x:Str)(u:LP):Prop :=
 (env.kindOf x=some .local/\m x=some u)\/((env.kindOf x=some .cell\/env.kindOf x=some .free)/\∃c,env.cells.lookup x=some c/\h.IsCell c (some u))
structure Cx.Ok(X:Cx):Prop where
 mod:Mod X.K X.mg X.base
 kind:X.env.scope.kind=.function
 glob:X.env.globals=mainGlobals
 blt:X.env.builtins=builtinsNs
 above:X.s₀.heap.objs.size<=X.env.locals
 inj:∀x y c,X.env.cells.lookup x=some c->X.env.cells.lookup y=some c->x=y
 has:∀x,(X.env.kindOf x=some .cell\/X.env.kindOf x=some .free)->∃c,X.env.cells.lookup x=some c
 cab:∀x c,X.fn x=true->X.env.cells.lookup x=some c->X.s₀.heap.objs.size<=c
 hd:X.calm=true->X.A.handled=none
 frames:X.A.frames=some X.stack
 stk:X.stack=X.outer\/(X.stack=X.env::X.outer/\X.env.frame=some X.env.locals)
 exf:∀b∈X.ex,b≠X.env.locals/\∀x c,X.env.cells.lookup x=some c->c≠b
 bs:∀b o,X.base.get? b=some o->X.s₀.heap.get? b=some o/\X.H₀ b=none
 bsz:X.base.objs.size<=X.s₀.heap.objs.size
 noex:∀b o,X.base.get? b=some o->b∉X.ex
 exfs:∀b∈X.ex,b∉X.fs
 funs:X.s₀.heap.FunFrames X.base X.outer
 frf:∀b∈X.fs,X.H₀ b=none
structure Inv(X:Cx)(L4:LJ)(σ:List (Option V))(H:Hp)(s:LO):Prop where
 ok:X.Ok
 os:s.os=X.s₀.os
 bare:AllBare s.gens
 base:Un X.fs X.ex X.H₀ H X.s₀.heap s.heap
 loc:∃m,s.heap.Ns X.env.locals m/\∀(i:Nat) (x:Str) (v:V),X.N[i]?=some x->σ[i]?=some (some v)->Vis X.env.scope x->∃u,RelV v u/\JQ X.env s.heap m x u
 cell:∀x c,X.env.cells.lookup x=some c->∃v,s.heap.IsCell c v
 free:H X.env.locals=none
 freeC:∀x c,X.env.cells.lookup x=some c->H c=none
 pin:∀p∈X.pn++L4,s.heap.get? p.1=some p.2/\H p.1=none/\p.1≠X.env.locals/\p.1∉X.fs/\∀v,p.2.data≠.cell v
 hok:HOk X.prog X.w H s.heap
 len:σ.length=X.N.length
section
variable{X:Cx}{H':Hp}{s:LO}{h':Heap}
def Cx.Ok.nofr(ok:X.Ok)(e:X.base.get? b=some o):b∉X.fs:=λhb=>by have:=(ok.funs.mem hb).1;rw[e]at this;cases this
def Inv.bs(I:Inv X L4 σ H s):∀b o,X.base.get? b=some o->s.heap.get? b=some o/\H b=none:=λb o e =>
 #[I.base.keep b o (I.ok.bs b o e).1 (I.ok.bs b o e).2 (I.ok.nofr e) (I.ok.noex b o e),I.base.free b o (I.ok.bs b o e).1 (I.ok.bs b o e).2 (I.ok.noex b o e)]
def Inv.bk(I:Inv X L4 σ H s):∀b o,X.base.get? b=some o->s.heap.get? b=some o:=λb o e=>(I.bs b o e).1
def Inv.mod(I:Inv X L4 σ H s):Mod X.K X.mg X.base:=I.ok.mod
def Inv.kIn(I:Inv X L4 σ H s):X.K.In s.heap:=I.ok.mod.kin.keeps I.bk
def Inv.nolimit(I:Inv X L4 σ H s):s.heap.NoLimit:=I.ok.mod.nolimit.keeps I.bk
def Inv.fr(I:Inv X L4 σ H s):∃m,Fr X.base X.env.locals s.heap m :=
 let⟨m,hn,_⟩:=I.loc
 #[m,hn,I.bk,Zt I.ok.bsz I.ok.above]
def Inv.lt(I:Inv X L4 σ H s):X.env.locals<s.heap.objs.size:=let⟨_,hn,_⟩:=I.loc;hn.lt
def Inv.sz(I:Inv X L4 σ H s):X.s₀.heap.objs.size<=s.heap.objs.size:=Zt I.ok.above (Nat.le_of_lt I.lt)
def Inv.nofs(I:Inv X L4 σ H s)(h:s.heap.objs.size<=a):a∉X.fs:=λhb=>by exists[_,o,ho,_],I.ok.funs.mem hb;exact absurd (ZA (Zr ho) (Zt I.sz h)) (Yl _)
def Inv.cne(I:Inv X L4 σ H s):∀x c,X.env.cells.lookup x=some c->c≠X.env.locals:=λx c e z=>by exists[v,o,ho,hd],I.cell x c e;obtain⟨m,⟨o',es,ep,ho',hd',_⟩,_⟩:=I.loc;rw[z,ho']at ho;cases ho;rw[hd']at hd;cases hd
def Inv.funs(I:Inv X L4 σ H s):s.heap.FunFrames X.base X.outer:=by
 have all:∀(l:List Env),(∀b∈frs l,b∈X.fs)->X.s₀.heap.FunFrames X.base l->s.heap.FunFrames X.base l:=by
  intro l;induction l with
  |nil=>intro _ _;trivial
  |cons env r ih =>intro hs hl;obtain⟨hk,⟨L,o,hf,hn,ho,hd⟩,hr⟩:=hl;have hL:L∈X.fs:=hs L (by unfold frs;rw[List.filterMap_cons,hf];exact Zo);exists[sl,e],I.base.slot L o ho (I.ok.frf L hL) hL λz=>I.ok.exfs L z hL;exact#[hk,#[L,_,hf,hn,e,hd],ih (λb hb=>hs b (by unfold frs;rw[List.filterMap_cons,hf];exact Zn _ hb)) hr]
 exact all X.outer (λ_ hb=>hb) I.ok.funs
def Inv.stack(I:Inv X L4 σ H s):s.heap.FunFrames X.base X.stack:=by
 rcases I.ok.stk with e|⟨e,hf⟩
 ·rw[e];exact I.funs
 ·rw[e];exists[m,hn,_],I.loc;refine .cons (by rw[I.ok.kind];decide) hf hn ?_ I.funs;exact Yr (Zt I.ok.bsz I.ok.above)
def Inv.stkSub(I:Inv X L4 σ H s):∀b∈frs X.stack,b∈X.env.locals::X.fs:=λb hb=>by
 rcases I.ok.stk with e|⟨e,hf⟩
 ·rw[e]at hb;exact Zn _ hb
 ·rw[e]at hb;unfold frs at hb;rw[List.filterMap_cons,hf]at hb;exact hb
def Inv.stkFree(I:Inv X L4 σ H s):∀b∈frs X.stack,H b=none:=λb hb=>by
 rcases Zf.mp (I.stkSub b hb)with e|hb
 ·rw[e];exact I.free
 ·exists[_,o,ho,_],I.ok.funs.mem hb;exact I.base.free b o ho (I.ok.frf b hb) λz=>I.ok.exfs b z hb
def Inv.step{g':Array GenState}{t':Nat}{d':Drawn}{ch:List LN}(I:Inv X L4 σ H s)(hch:∀b∈ch,(b∈X.ex\/X.s₀.heap.objs.size<=b)/\b≠X.env.locals/\(∀x c,X.env.cells.lookup x=some c->c≠b)/\∀p∈X.pn++L4,p.1≠b)(keep:∀b o,b≠X.env.locals->b∉X.fs->b∉ch->s.heap.get? b=some o->H b=none->h'.get? b=some o)(slot:∀b o,b≠X.env.locals->b∈X.fs->b∉ch->s.heap.get? b=some o->H b=none->∃sl,h'.get? b=some { o with slots:=sl })(free:∀b o,b∉ch->s.heap.get? b=some o->H b=none->H' b=none)(there:∀b o,b∉ch->s.heap.get? b=some o->∃o',h'.get? b=some o')(tups:∀b xs,H b=some (.tup xs)->H' b=some (.tup xs))(frzs:∀b o u,H b=some (.frz o u)->H' b=some (.frz o u))(tbls:∀b ps,H b=some (.tbl ps)->∃more,H' b=some (.tbl (ps++more)))(ns:∀m,s.heap.Ns X.env.locals m->h'.Ns X.env.locals m)(hok:HOk X.prog X.w H' h')(hg:AllBare g') :
  Inv X L4 σ H' { s with heap:=h',gens:=g',drawn:=d',toks:=t' }:=by
 have neL:∀b o,X.s₀.heap.get? b=some o->b≠X.env.locals:=λb o e=>Zx (ZA (Zr e) I.ok.above);have neC:∀b o,X.s₀.heap.get? b=some o->b∉X.ex->b∉ch:=λb o e hx hb=>by
  rcases(hch b hb).1 with z|z
  ·exact hx z
  ·exact absurd (ZA (Zr e) z) (Yl _)
 have cellK:∀x c,X.env.cells.lookup x=some c->∀v,s.heap.IsCell c v->h'.IsCell c v:=λx c e v ⟨o,ho,hd⟩=>by
  have nch:c∉ch:=λz=>(hch c z).2.2.1 x c e rfl;by_cases hc:c∈X.fs
  ·exists[sl,q],slot c o (I.cne x c e) hc nch ho (I.freeC x c e);exact#[_,q,hd]
  ·exact#[o,keep c o (I.cne x c e) hc nch ho (I.freeC x c e),hd]
 refine#[I.ok,I.os,hg,#[λb o e n hb hx=>?_,λb o e n hb hx=>?_,λb o e n hx=>?_,λb o e hx=>?_,λb xs e=>tups b xs (I.base.tups b xs e),λb o xs e=>frzs b o xs (I.base.frzs b o xs e),λb ps e=>?_],?_,λx c e=>?_,?_,λx c e=>?_,λp hp=>?_,hok,I.len]
 ·exact keep b o (neL b o e) hb (neC b o e hx) (I.base.keep b o e n hb hx) (I.base.free b o e n hx)
 ·exists[sl,e1],I.base.slot b o e n hb hx;exists[sl',e2],slot b _ (neL b o e) hb (neC b o e hx) e1 (I.base.free b o e n hx);exact#[sl',e2]
 ·exists[o',e1],I.base.there b o e hx;exact free b o' (neC b o e hx) e1 (I.base.free b o e n hx)
 ·exists[o',e1],I.base.there b o e hx;exact there b o' (neC b o e hx) e1
 ·exists[m1,e1],I.base.tbls b ps e;exists[m2,e2],tbls b _ e1;exact#[m1++m2,by rw[e2,Array.append_assoc]]
 ·exists[m,hn,hl],I.loc;refine#[m,ns m hn,λi x v e1 e2 e3=>?_];exists[u,r,l],hl i x v e1 e2 e3;refine#[u,r,?_];rcases l with l|⟨k,c,e,z⟩
  ·exact .inl l
  ·exact .inr #[k,c,e,cellK x c e _ z]
 ·exists[v,z],I.cell x c e;exact#[v,cellK x c e v z]
 ·obtain⟨m,⟨o,_,_,ho,_⟩,_⟩:=I.loc;exact free _ o (λz=>(hch _ z).2.1 rfl) ho I.free
 ·exists[v,o,ho,hd],I.cell x c e;exact free c o (λz=>(hch c z).2.2.1 x c e rfl) ho (I.freeC x c e)
 ·exists[e,n,ne,nf,d],I.pin p hp;have nch:p.1∉ch:=λz=>(hch p.1 z).2.2.2 p hp rfl;exact#[keep p.1 p.2 ne nf nch e n,free p.1 p.2 nch e n,ne,nf,d]
def Inv.un{t':Nat}(I:Inv X L4 σ H s)(u:Un X.fs [] H H' s.heap h')(hok:HOk X.prog X.w H' h'):Inv X L4 σ H' { s with heap:=h',toks:=t' }:=by
 obtain⟨m,⟨o,es,ep,ho,r⟩,_⟩:=id I.loc;exists[sl,hL],u.any ho I.free (by simp);exact I.step (g':=s.gens) (d':=s.drawn) (ch:=[]) (λ_ z=>nomatch z) (λb o _ hb _ e n=>u.keep b o e n hb (by simp)) (λb o _ hb _ e n=>u.slot b o e n hb (by simp)) (λb o _ e n=>u.free b o e n (by simp)) (λb o _ e=>u.there b o e (by simp)) u.tups u.frzs u.tbls (λm' hm=>by
  exists[o',es',ep',ho',r'],hm;rw[ho]at ho';cases ho';exact#[_,es',ep',hL,r']) hok I.bare
def Inv.call{t':Nat}(I:Inv X L4 σ H s)(u:Un (frs X.stack) ch H H' s.heap h')(hok:HOk X.prog X.w H' h')(hg:AllBare g')(hch:∀b∈ch,(b∈X.ex\/X.s₀.heap.objs.size<=b)/\b≠X.env.locals/\(∀x c,X.env.cells.lookup x=some c->c≠b)/\∀p∈X.pn++L4,p.1≠b):
  Inv X L4 σ H' { s with heap:=h',gens:=g',drawn:=d',toks:=t' }:=by
 obtain⟨m,⟨o,es,ep,ho,r⟩,_⟩:=id I.loc;exists[sl,hL],u.any ho I.free λz=>(hch _ z).2.1 rfl;exact I.step (ch:=ch) hch (λb o hL hb hc e n=>u.keep b o e n (λz=>(Zf.mp (I.stkSub b z)).elim hL hb) hc) (λb o _ _ hc e n=>u.any e n hc) (λb o hc e n=>u.free b o e n hc) (λb o hc e=>u.there b o e hc) u.tups u.frzs u.tbls (λm' hm=>by
  exists[o',es',ep',ho',r'],hm;rw[ho]at ho';cases ho';exact#[_,es',ep',hL,r']) hok hg
def Inv.turned{t':Nat}(I:Inv X L4 σ H s)(k:∀b o,b≠it->s.heap.get? b=some o->h'.get? b=some o)(hn:H it=none)(hL:it≠X.env.locals)(h1:it∈X.ex\/X.s₀.heap.objs.size<=it)(h2:∀x c,X.env.cells.lookup x=some c->c≠it)(h3:∀p∈X.pn++L4,p.1≠it):Inv X L4 σ H { s with heap:=h',toks:=t' }:=by
 have nit:∀b u,H b=some u->b≠it:=λb u e z=>by rw[z,hn]at e;cases e
 refine I.step (g':=s.gens) (d':=s.drawn) (ch:=[it]) (λb hb=>?_) (λb o _ _ hc e _=>k b o (λz=>hc (by simp[z])) e) (λb o _ _ hc e _=>#[o.slots,k b o (λz=>hc (by simp[z])) e]) (λ_ _ _ _ n=>n)
  (λb o hc e=>#[o,k b o (λz=>hc (by simp[z])) e]) (λ_ _ e=>e) (λ_ _ _ e=>e) (λb ps e=>#[#[],by rw[e];simp]) (λm hm=>?_) (λb u e=>?_) I.bare
 ·have e:b=it:=by simpa using hb
  subst e;exact#[h1,hL,h2,h3]
 ·exists[o,es,ep,ho,r],hm;exact#[o,es,ep,k _ o (y7 hL) ho,r]
 ·refine(I.hok b u e).stay (λc v hc q=>k c v ?_ q) (λ_ q=>q) λ_ _ q=>q;rcases hc with z|z
  ·rw[z];exact nit b u e
  ·exact nit c _ z
def Inv.tok(I:Inv X L4 σ H s)(t:Nat):Inv X L4 σ H { s with toks:=t }:=I.un (h':=s.heap) (t':=t) Un.refl I.hok
def Inv.kept{t':Nat}(I:Inv X L4 σ H s)(k:∀b u,s.heap.get? b=some u->h'.get? b=some u):Inv X L4 σ H { s with heap:=h',toks:=t' }:=I.un (Un.kept k) (I.hok.kept k)
def Inv.laid{t':Nat}(I:Inv X L4 σ H s)(k:∀b u,s.heap.get? b=some u->h'.get? b=some u)(hp:s.heap.objs.size<=a)(new:ObjOk X.prog X.w (upd H a o) h' a o):
  Inv X L4 σ (upd H a o) { s with heap:=h',toks:=t' }:=I.un (Un.laid k hp (I.hok.fresh hp)) (I.hok.laid k hp new)
def Inv.write{t':Nat}(I:Inv X L4 σ H s)(mu:Mut (H x))(he:e=x\/H e=some (.own x))(k:∀b u,b≠e->s.heap.get? b=some u->h'.get? b=some u)(heo:∃u,h'.get? e=some u)(new:ObjOk X.prog X.w (upd H x o) h' x o):Inv X L4 σ (upd H x o) { s with heap:=h',toks:=t' }:=I.un (Un.write mu he k heo) (I.hok.write mu he k heo new)
def Inv.weak{σ':List (Option V)}(I:Inv X L4 σ H s)(hl:σ'.length=σ.length)(w:∀(i:Nat) v,σ'[i]?=some (some v)->σ[i]?=some (some v)):Inv X L4 σ' H s :=
 #[I.ok,I.os,I.bare,I.base,let⟨m,hn,hl'⟩:=I.loc;#[m,hn,λi x v e1 e2 e3=>hl' i x v e1 (w i v e2) e3],I.cell,I.free,I.freeC,I.pin,I.hok,hl.trans I.len]
def Inv.pins_of(I:Inv X L4 σ H s)(h:∀p∈pins',s.heap.get? p.1=some p.2/\H p.1=none/\p.1≠X.env.locals/\p.1∉X.fs/\∀v,p.2.data≠.cell v):Inv X pins' σ H s :=
 #[I.ok,I.os,I.bare,I.base,I.loc,I.cell,I.free,I.freeC,λp hp=>(ZE.mp hp).elim (λz=>I.pin p (List.mem_append_left _ z)) (h p),I.hok,I.len]
def uX{N:List Str}(hN:N.Nodup){i j:Nat}(a:N[i]?=some x)(b:N[j]?=some x):i=j:=by exists[h1,e1],Zm.mp a;exists[h2,e2],Zm.mp b;exact(List.getElem_inj hN).mp (e1.trans e2.symm)
def rQ{i:Nat}{Q:Unit->LO->Prop}(I:Inv X L4 σ H s)(hN:X.N.Nodup)(hi:X.N[i]?=some x)(hx:Loc X.env.scope x)(r:RelV v u)(h:∀s',Inv X L4 (σ.set i (some v)) H s'->(∃a,Heap.SameBut a s.heap s'.heap/\(a=X.env.locals\/X.env.cells.lookup x=some a))->Q () s')(hf:X.fn x=true\/X.env.scope.names.lookup x=some .local:=by first|exact .inl rfl|exact .inr rfl|assumption):wpAny M A (storeName X.env x u) Q E s:=by
 exists[m,hn,hl],id I.loc;have hcls:(X.env.scope.kind == .class ||(X.env.scope.kind == .module&&X.env.locals != X.env.globals))=false:=by rw[I.ok.kind];rfl
 have hiσ:i<σ.length:=by rw[I.len];exact(Zm.mp hi).1
 have cne:=I.cne;have tracked:∀{a:LN} {h':Heap},(∃o,s.heap.get? a=some o/\H a=none)->Heap.SameBut a s.heap h'->HOk X.prog X.w H h':=fun{a h'} ha hs b ob e=>by
  exists[_,_,hfree],ha;refine(I.hok b ob e).stay (λc w' hc q=>(hs.2 c ?_).trans q) (λ_ q=>q) λ_ _ q=>q;rintro rfl;rcases hc with rfl|hc
  ·rw[hfree]at e;cases e
  ·rw[hfree]at hc;cases hc
 rcases hx with hk|hk
 ·refine wpAny_storeName_local hk hn (λh' hn' hs=>?_) hcls;exists[oL,_,_,hoL,_],id hn;refine h _ #[I.ok,I.os,I.bare,#[λb o e n hb hx=>?_,λb o e n hb hx=>?_,I.base.free,λb o e hx=>?_,I.base.tups,I.base.frzs,I.base.tbls],#[_,hn',λj y v' e1 e2 e3=>?_],λy c e=>?_,I.free,I.freeC,λp hp=>?_,tracked #[oL,hoL,I.free] hs,by simpa using I.len] #[_,hs,.inl rfl]
  ·exact(hs.2 b (Zx (ZA (Zr e) I.ok.above))).trans (I.base.keep b o e n hb hx)
  ·exists[sl,e1],I.base.slot b o e n hb hx;exact#[sl,(hs.2 b (Zx (ZA (Zr e) I.ok.above))).trans e1]
  ·exists[o',e1],I.base.there b o e hx;exact#[o',(hs.2 b (Zx (ZA (Zr e) I.ok.above))).trans e1]
  ·by_cases hj:j=i
   ·subst hj;rw[hi]at e1;cases e1;rw[List.getElem?_set_self hiσ]at e2;cases e2;exact#[u,r,.inl #[hk,by simp]]
   ·rw[List.getElem?_set_ne (y7 hj)]at e2;exists[u',r',q],hl j y v' e1 e2 e3;refine#[u',r',?_];rcases q with⟨k,e⟩|⟨k,c,e,z⟩
    ·refine .inl #[k,?_];have:y≠x:=λe=>hj (uX hN e1 (e▸hi));simp[this,e]
    ·exact .inr #[k,c,e,z.sameBut hs (cne y c e)]
  ·exists[w',z],I.cell y c e;exact#[w',z.sameBut hs (cne y c e)]
  ·exists[e,n,ne,nf,d],I.pin p hp;exact#[(hs.2 p.1 ne).trans e,n,ne,nf,d]
 ·have hfn:X.fn x=true:=by
   rcases hf with z|z
   ·exact z
   ·rw[z]at hk;cases hk
  exists[c,hc],I.ok.has x (.inl hk);exists[w',z],I.cell x c hc;refine wpAny_storeName_cell I.ok.kind hk hc z (λh' hc' hs=>?_);exists[oc,hoc,hocd],id z;refine h { s with heap:=h' } #[I.ok,I.os,I.bare,#[λb o e n hb hx=>?_,λb o e n hb hx=>?_,I.base.free,λb o e hx=>?_,I.base.tups,I.base.frzs,I.base.tbls],#[m,hn.sameBut hs (y7 (cne x c hc)),λj y v' e1 e2 e3=>?_],λy c' e=>?_,I.free,I.freeC,λp hp=>?_,tracked #[oc,hoc,I.freeC x c hc] hs,by simpa using I.len] #[c,hs,.inr hc]
  ·exact(hs.2 b (Zx (ZA (Zr e) (I.ok.cab x c hfn hc)))).trans (I.base.keep b o e n hb hx)
  ·exists[sl,e1],I.base.slot b o e n hb hx;exact#[sl,(hs.2 b (Zx (ZA (Zr e) (I.ok.cab x c hfn hc)))).trans e1]
  ·exists[o',e1],I.base.there b o e hx;exact#[o',(hs.2 b (Zx (ZA (Zr e) (I.ok.cab x c hfn hc)))).trans e1]
  ·by_cases hj:j=i
   ·subst hj;rw[hi]at e1;cases e1;rw[List.getElem?_set_self hiσ]at e2;cases e2;exact#[u,r,.inr #[.inl hk,c,hc,hc']]
   ·rw[List.getElem?_set_ne (y7 hj)]at e2;exists[u',r',q],hl j y v' e1 e2 e3;refine#[u',r',?_];rcases q with q|⟨k,c',e,z'⟩
    ·exact .inl q
    ·refine .inr #[k,c',e,z'.sameBut hs ?_];rintro rfl;exact hj (uX hN e1 (I.ok.inj _ _ _ e hc▸hi))
  ·by_cases hcc:c'=c
   ·subst hcc;exact#[_,hc']
   ·exists[w2,z2],I.cell y c' e;exact#[w2,z2.sameBut hs hcc]
  ·exists[e,n,ne,nf,d],I.pin p hp;refine#[(hs.2 p.1 ?_).trans e,n,ne,nf,d];intro q;rw[q,hoc]at e;have q':oc=p.2:=ZB e;exact d w' (by rw[<-q'];exact hocd)
def vP{i:Nat}{Q:Unit->LO->Prop}(I:Inv X L4 σ H s)(hN:X.N.Nodup)(hi:X.N[i]?=some x)(hx:Loc X.env.scope x)(r:RelV v u)(h:∀s',Inv X L4 (σ.set i (some v)) H s'->Q () s')(hf:X.fn x=true\/X.env.scope.names.lookup x=some .local:=by first|exact .inl rfl|exact .inr rfl|assumption):wpAny M A (storeName X.env x u) Q E s :=
 rQ I hN hi hx r (λs' I' _=>h s' I') hf
def Inv.call'{s':LO}(I:Inv X L4 σ H s)(ho:s'.os=s.os)(u:Un (frs X.stack) ch H H' s.heap s'.heap)(hok:HOk X.prog X.w H' s'.heap)(hg:AllBare s'.gens)(hch:∀b∈ch,(b∈X.ex\/X.s₀.heap.objs.size<=b)/\b≠X.env.locals/\(∀x c,X.env.cells.lookup x=some c->c≠b)/\∀p∈X.pn++L4,p.1≠b):Inv X L4 σ H' s':=by exists[h',g',d',t',o'],s';have e:o'=s.os:=ho;subst e;exact I.call (g':=g') (t':=t') (d':=d') u hok hg hch
end
abbrev XK:=LP->Option LN->Hp->Prop
abbrev St:=List (Option V)
abbrev VK:=V->Hp->Prop
abbrev TE:=St->Hp->VK->Prop
abbrev TT:=St->Hp->(Bool->Hp->Prop)->Prop
abbrev TA:=St->Hp->(List V->Hp->Prop)->Prop
structure Ends where
 nx:St->Hp->Prop
 rt:VK
 bk:St->Hp->Prop:=λ_ _=>False
 ct:St->Hp->Prop:=λ_ _=>False
abbrev TS:=Ends->St->Hp->Prop
def EP(X:Cx)(L4:LJ)(σ:St)(Q:VK)(u:LP)(s':LO):Prop:=∃v H',Inv X L4 σ H' s'/\RelV v u/\Q v H'
def TP(X:Cx)(L4:LJ)(σ:St)(Q:Bool->Hp->Prop)(b:Bool)(s':LO):Prop:=∃H',Inv X L4 σ H' s'/\Q b H'
def AP(X:Cx)(L4:LJ)(σ:St)(Q:List V->Hp->Prop)(us:LM)(s':LO):Prop:=∃vs H',Inv X L4 σ H' s'/\Vals vs us/\Q vs H'
def SP(X:Cx)(L4:LJ)(D:Ends)(f:Flow)(s':LO):Prop :=
 match f with
 |.next=>∃σ' H',Inv X L4 σ' H' s'/\D.nx σ' H'
 |.brk=>∃σ' H',Inv X L4 σ' H' s'/\D.bk σ' H'
 |.cont=>∃σ' H',Inv X L4 σ' H' s'/\D.ct σ' H'
 |.ret u=>∃v σ' H',Inv X L4 σ' H' s'/\RelV v u/\D.rt v H'
def PE(X:Cx)(e:L3)(t:TE):Prop :=
 ∀(L4:LJ) (s:LO) (σ:St) (H:Hp) (Q:VK),Inv X L4 σ H s->t σ H Q->wpAny (model X.prog X.w) X.A (eval e X.env) (EP X L4 σ Q) X.xe s
def PT(X:Cx)(e:L3)(t:TT):Prop :=
 ∀(L4:LJ) (s:LO) (σ:St) (H:Hp) (Q:Bool->Hp->Prop),Inv X L4 σ H s->t σ H Q->wpAny (model X.prog X.w) X.A (isTrue e X.env (eval e X.env)) (TP X L4 σ Q) X.xe s
def PW(X:Cx)(e:L3)(t:TT):Prop :=
 ∀(whole:Sem LP) (L4:LJ) (s:LO) (σ:St) (H:Hp) (Q:Bool->Hp->Prop),Inv X L4 σ H s->t σ H Q->wpAny (model X.prog X.w) X.A (isTrue e X.env whole) (TP X L4 σ Q) X.xe s
def PW.pt{t:TT}(h:PW X e t):PT X e t:=h _
def PA(X:Cx)(es:List L3)(t:TA):Prop :=
 ∀(pos:Pos) (L4:LJ) (s:LO) (σ:St) (H:Hp) (Q:List V->Hp->Prop),Inv X L4 σ H s->t σ H Q->wpAny (model X.prog X.w) X.A (spliced (backTo pos (starEach es X.env))) (AP X L4 σ Q) X.xe s
def PS(X:Cx)(st:Stmt)(t:TS):Prop :=
 ∀(L4:LJ) (s:LO) (σ:St) (H:Hp) (D:Ends),Inv X L4 σ H s->t D σ H->wpAny (model X.prog X.w) X.A (exec st X.env) (SP X L4 D) X.xe s
def PSs(X:Cx)(st:List Stmt)(t:TS):Prop :=
 ∀(L4:LJ) (s:LO) (σ:St) (H:Hp) (D:Ends),Inv X L4 σ H s->t D σ H->wpAny (model X.prog X.w) X.A (execs st X.env) (SP X L4 D) X.xe s
def thn{α:Type}{t:Sem α}{Q Q':α->LO->Prop}{M:Model}{A:LV}{E:LK}{s:LO}(h:wpAny M A t Q E s)(hQ:∀a s,Q a s->Q' a s):wpAny M A t Q' E s:=Z7 h hQ λ_ _ x=>x
section
variable{X:Cx}
inductive tVar(i:Nat)(σ:St)(H:Hp)(Q:VK):Prop
 |mk (v:V) (h:σ[i]?=some (some v)) (q:Q v H):tVar i σ H Q
def tC(v:V):TE:=λ_ H Q=>Q v H
def HR{i:Nat}(hN:X.N[i]?=some x)(hv:Vis X.env.scope x)(hd:(x==("__debug__":Str))=false:=by decide)(hcd:(x==("__classdict__":Str))=false:=by decide):PE X (.Name x pos) (tVar i):=by
 intro L4 s σ H Q I h;exists[v,e,h],h;exists[m,hn,hl],I.loc;exists[u,r,l],hl i x v hN e hv;have fin:EP X L4 σ Q u s:=#[v,H,I,r,h]
 rcases l with⟨hk,hm⟩|⟨hk,c,hc,hcell⟩
 ·exact wpAny_Name (wpAny_loadName_local I.ok.kind hk hn hm fin) hd
 ·rcases hk with hk|hk
  ·exact wpAny_Name (wpAny_loadName_cell I.ok.kind hk hc hcell fin) hd
  ·exact wpAny_Name (wpAny_loadName_free I.ok.kind hk hc hcell fin hcd) hd
def HJ{i j pos}:PE X (.Constant (.int i) j pos) (tC (.int i)):=λ_ _ _ H _ I h=>wpAny_Constant_int #[.int i,H,I.tok _,#[_,rfl],h]
def Jw{b j pos}:PE X (.Constant (.bool b) j pos) (tC (.bl b)):=λ_ _ _ H _ I h=>Constant_bool #[.bl b,H,I,rfl,h]
def HL{j pos}:PE X (.Constant .none j pos) (tC .non):=λ_ _ _ H _ I h=>Constant_none #[.non,H,I,rfl,h]
def HP{x j pos}:PE X (.Constant (.str x) j pos) (tC (.str x)):=λ_ _ _ H _ I h=>Calls.Constant_str #[.str x,H,I.tok _,#[_,rfl],h]
def Gl(X:Cx)(x:Str):Prop:=X.env.kindOf x=some .globalImplicit
def mz{Q:LK}(I:Inv X L4 σ H s)(hg:Gl X x)(hm:X.mg x=some u)(h:Q u s)(hd:(x==("__debug__":Str))=false:=by decide):wpAny (model X.prog X.w) X.A (eval (.Name x pos) X.env) Q E s :=
 Calls.Name_function_global I.ok.kind hg (Calls.loadGlobal_global (by rw[I.ok.glob];exact I.mod.glob.keeps I.bk) hm h) hd
def cV{Q:LK}(I:Inv X L4 σ H s)(hg:Gl X x)(hm:X.mg x=none)(hv:bootBuiltins x=some u)(h:Q u s)(hn:x≠"__name__":=by decide)(hd:(x==("__debug__":Str))=false:=by decide):wpAny (model X.prog X.w) X.A (eval (.Name x pos) X.env) Q E s:=by exists[mb,h1,h2],I.mod.blt;exact Calls.Name_function_global I.ok.kind hg (Calls.loadGlobal_builtin (by rw[I.ok.glob];exact I.mod.glob.keeps I.bk) hm (by rw[I.ok.blt];exact h1.keeps I.bk) ((h2 x hn).trans hv) h) hd
def qI(hg:Gl X x)(hm:X.mg x=some u)(r:RelV v u)(hd:(x==("__debug__":Str))=false:=by decide):PE X (.Name x pos) (tC v) :=
 λ_ _ _ H _ I h=>mz I hg hm #[v,H,I,r,h] hd
def Fi(hg:Gl X x)(hm:X.mg x=none)(hv:bootBuiltins x=some u)(r:RelV v u)(hn:x≠"__name__":=by decide)(hd:(x==("__debug__":Str))=false:=by decide):PE X (.Name x pos) (tC v) :=
 λ_ _ _ H _ I h=>cV I hg hm hv #[v,H,I,r,h] hn hd
variable{a b:L3}{ta tb:TE}
def PC(X:Cx)(op:CmpOp)(a b:L3)(t:TE):Prop :=
 ∀(L4:LJ) (s:LO) (σ:St) (H:Hp) (Q:VK),Inv X L4 σ H s->t σ H Q ->
  wpAny (model X.prog X.w) X.A (eval a X.env) (λv s₁=>wpAny (model X.prog X.w) X.A (eval b X.env) (λu s₂=>wpAny (model X.prog X.w) X.A (compareOp op v u) (EP X L4 σ Q) X.xe s₂) X.xe s₁) X.xe s
inductive IsB(x:V)(H:Hp)(Q:Bool->Hp->Prop):Prop
 |mk (c:Bool) (h:x=.bl c) (q:Q c H):IsB x H Q
def tB(t:TE):TT:=λσ H Q=>t σ H λx H1=>IsB x H1 Q
def Bd{t:TE}(h:PC X op a b t)(h1:behindInMarks op b=false:=by first|exact nobehind _ ⋯ ⋯|rfl):PT X (.Compare a [op] [b] pos) (tB t):=by intro L4 s σ H Q I hw;refine wpAny_isTrue_Compare1 (thn (h L4 s σ H _ I hw) λv s1 h1=>thn h1 λu s2 h2=>thn h2 λc s3 hz9=>?_) h1;exists[x,H1,I1,r1,q1],hz9;exists[d,rfl,q],q1;cases r1;exact Z4 #[H1,I1,q]
def Ie{t:TE}(h:PE X e t)(he:∀whole,isTrue e X.env whole=(do let v ←whole;standAt e.pos;holding [v] (truthy v)):=by intro _;rfl):PT X e (tB t):=by intro L4 s σ H Q I hw;refine isTrue_plain (thn (h L4 s σ H _ I hw) λv s1 hz9=>?_) (he _);exists[x,H1,I1,r1,q1],hz9;exists[d,rfl,q],q1;cases r1;exact Z4 #[H1,I1,q]
def IB(t u:TT):TT:=λσ H Q=>t σ H λc H1=>if c=true then u σ H1 Q else Q false H1
def tOr(t u:TT):TT:=λσ H Q=>t σ H λc H1=>if c=true then Q true H1 else u σ H1 Q
def IG(t:TT):TT:=λσ H Q=>t σ H λc H1=>Q (!c) H1
def FN(ha:PT X a tA):PW X (.BoolOp .And [a] pos) tA:=by
 intro wh L4 s σ H Q I h;refine isTrue_and (thn (ha L4 s σ H Q I h) λc s1 e=>?_);cases c with
 |true=>exact isTrue_and_nil e
 |false=>exact e
def Ih(ha:PT X a tA):PW X (.BoolOp .Or [a] pos) tA:=by
 intro wh L4 s σ H Q I h;refine isTrue_or (thn (ha L4 s σ H Q I h) λc s1 e=>?_);cases c with
 |false=>exact isTrue_or_nil e
 |true=>exact e
def Ig(ha:PT X a tA)(hb:PW X (.BoolOp .And (b::rest) pos) tB'):PW X (.BoolOp .And (a::b::rest) pos) (IB tA tB'):=by
 intro wh L4 s σ H Q I h;refine isTrue_and (thn (ha L4 s σ H _ I h) λc s1 ⟨H1,I1,q1⟩=>?_);cases c with
 |true=>exact hb wh L4 s1 σ H1 Q I1 q1
 |false=>exact#[H1,I1,q1]
def JD(ha:PT X a tA)(hb:PW X (.BoolOp .Or (b::rest) pos) tB'):PW X (.BoolOp .Or (a::b::rest) pos) (tOr tA tB'):=by
 intro wh L4 s σ H Q I h;refine isTrue_or (thn (ha L4 s σ H _ I h) λc s1 ⟨H1,I1,q1⟩=>?_);cases c with
 |true=>exact#[H1,I1,q1]
 |false=>exact hb wh L4 s1 σ H1 Q I1 q1
def Id(ha:PT X a tA):PT X (.UnaryOp .Not a pos) (IG tA):=by intro L4 s σ H Q I h;exact isTrue_not (ha L4 s σ H (λc H1=>Q (!c) H1) I h)
def Ej(ta tb:TE):TE:=λσ H Q=>ta σ H λx H1=>∃c,x=.bl c/\if c=true then tb σ H1 Q else Q (.bl false) H1
def Dy(ta tb:TE):TE:=λσ H Q=>ta σ H λx H1=>∃c,x=.bl c/\if c=true then Q (.bl true) H1 else tb σ H1 Q
def zi(ta:TE):TE:=λσ H Q=>ta σ H λx H1=>∃c,x=.bl c/\Q (.bl (!c)) H1
def HN{op}{t:TE}(h:PE X a t):PE X (.BoolOp op [a] pos) t:=λL4 s σ H Q I hw=>BoolOp_one (h L4 s σ H Q I hw)
def Hz(ha:PE X a ta)(hb:PE X (.BoolOp .And (b::rest) pos) tb):PE X (.BoolOp .And (a::b::rest) pos) (Ej ta tb):=by
 intro L4 s σ H Q I h;refine BoolOp_and (thn (ha L4 s σ H _ I h) λv s1 hz9=>?_);exists[x,H1,I1,r1,q1],hz9;exists[c,rfl,q1],q1;cases r1;refine Z4 ?_;cases c with
 |true=>exact hb L4 s1 σ H1 Q I1 q1
 |false=>exact#[.bl false,H1,I1,rfl,q1]
def JA(ha:PE X a ta)(hb:PE X (.BoolOp .Or (b::rest) pos) tb):PE X (.BoolOp .Or (a::b::rest) pos) (Dy ta tb):=by
 intro L4 s σ H Q I h;refine BoolOp_or (thn (ha L4 s σ H _ I h) λv s1 hz9=>?_);exists[x,H1,I1,r1,q1],hz9;exists[c,rfl,q1],q1;cases r1;refine Z4 ?_;cases c with
 |false=>exact hb L4 s1 σ H1 Q I1 q1
 |true=>exact#[.bl true,H1,I1,rfl,q1]
def HM(ha:PE X a ta):PE X (.UnaryOp .Not a pos) (zi ta):=by intro L4 s σ H Q I h;refine UnaryOp_ (thn (ha L4 s σ H _ I h) λv s1 hz9=>?_);exists[x,H1,I1,r1,q1],hz9;exists[c,rfl,q1],q1;cases r1;exact not_of (Z4 #[.bl (!c),H1,I1,rfl,q1])
def tIf(t:TT)(ta tb:TE):TE:=λσ H Q=>t σ H λc H1=>if c=true then ta σ H1 Q else tb σ H1 Q
def CL(hc:PT X c tA)(ha:PE X a ta)(hb:PE X b tb):PE X (.IfExp c a b pos) (tIf tA ta tb):=by
 intro L4 s σ H Q I h;refine wpAny_IfExp (thn (hc L4 s σ H _ I h) λd s1 ⟨H1,I1,q1⟩=>?_);cases d with
 |true=>exact ha L4 s1 σ H1 Q I1 q1
 |false=>exact hb L4 s1 σ H1 Q I1 q1
end
def SqL(K:W.Frag)(H:Hp)(a:LN)(xs:List V):Prop :=
 Rd H a (.lst xs) \/
  ∃(o:Obj) (its:Array LP) (n:Nat),K.lookup a=some o/\o.cls=.type "list"/\o.dict=none/\o.data=.seq its n/\its.size<=sizeLine/\Vals xs its.toList
def SqT(K:W.Frag)(H:Hp)(a:LN)(xs:List V):Prop :=
 Rd H a (.tup xs) \/
  ∃(o:Obj) (its:Array LP) (n:Nat),K.lookup a=some o/\o.cls=.type "tuple"/\o.data=.seq its n/\its.size<=sizeLine/\Vals xs its.toList
def JS:LP->Option V
 |.none=>some .non
 |.bool b=>some (.bl b)
 |.int i _=>some (.int i)
 |.str x _=>some (.str x)
 |.bytes b _=>some (.byt b)
 |.float b _=>some (.flt b)
 |.ref a=>some (.ref a)
 |.type n=>some (.ty n)
 |_=>none
def RelV.abs(r:RelV x u):JS u=some x:=by
 cases x with
 |non=>cases r;rfl
 |bl _=>cases r;rfl
 |int _=>exists[t,rfl],r;rfl
 |str _=>exists[t,rfl],r;rfl
 |byt _=>exists[t,rfl],r;rfl
 |flt _=>exists[t,rfl],r;rfl
 |ref _=>cases r;rfl
 |ty _=>cases r;rfl
def RelV.inj(r:RelV x u)(q:RelV y u):x=y:=ZB (r.abs.symm.trans q.abs)
theorem Vals.inj:∀{xs ys:List V} {us:LM},Vals xs us->Vals ys us->xs=ys
 |_,_,_,.nil,.nil=>rfl
 |_,_,_,.cons r t,.cons r' t'=>by rw[r.inj r',Vals.inj t t']
section
variable{H:Hp}
def L7{K:W.Frag}(h:H a=some (.lst xs)):SqL K H a xs:=.inl (.inl h)
def L6{K:W.Frag}(h:H a=some (.tup xs)):SqT K H a xs:=.inl (.inl h)
def Inv.list(I:Inv X L4 σ H s)(h:SqL X.K H a xs):∃its:LM,Vals xs its/\PlainL s.heap a its.toArray/\xs.length<=sizeLine:=by
 rcases h with h|⟨o,its,n,hk,hc,hd,hs,hz,r⟩
 ·exists[z,its,n,r,e],h.ok I.hok;exact#[its,r,#[_,n,e,rfl,rfl,rfl],z]
 ·refine#[its.toList,r,#[o,n,I.kIn a o hk,hc,hd,by simpa using hs],?_];have e:=r.length;simp only[Zu]at e;omega
def Inv.tuple(I:Inv X L4 σ H s)(h:SqT X.K H a xs):∃its:LM,Vals xs its/\IsTup s.heap a its.toArray/\xs.length<=sizeLine:=by
 rcases h with h|⟨o,its,n,hk,hc,hs,hz,r⟩
 ·exists[z,its,r,p],h.ok I.hok;exact#[its,r,p,z]
 ·refine#[its.toList,r,#[o,I.kIn a o hk,hc,n,by simpa using hs],?_];have e:=r.length;simp only[Zu]at e;omega
def Inv.list_inj(I:Inv X L4 σ H s)(h:SqL X.K H a xs)(h':SqL X.K H a ys):xs=ys:=by
 obtain⟨its,r,⟨o,n,e,_,_,d⟩,_⟩:=I.list h;obtain⟨its',r',⟨o',n',e',_,_,d'⟩,_⟩:=I.list h';rw[e]at e';cases e';rw[d]at d';injection d' with d1 _;have:its=its':=by simpa using ZN Array.toList d1
 subst this;exact r.inj r'
def Inv.tuple_inj(I:Inv X L4 σ H s)(h:SqT X.K H a xs)(h':SqT X.K H a ys):xs=ys:=by
 obtain⟨its,r,⟨o,e,_,n,d⟩,_⟩:=I.tuple h;obtain⟨its',r',⟨o',e',_,n',d'⟩,_⟩:=I.tuple h';rw[e]at e';cases e';rw[d]at d';injection d' with d1 _;have:its=its':=by simpa using ZN Array.toList d1
 subst this;exact r.inj r'
end
abbrev Cx.wish(X:Cx)(E:LK):Cx:={ X with xe:=E }
abbrev Cx.nox(X:Cx):Cx:=X.wish λ_ _=>False
def Cx.Ok.wish{X:Cx}(ok:X.Ok)(E:LK):(X.wish E).Ok :=
 #[ok.mod,ok.kind,ok.glob,ok.blt,ok.above,ok.inj,ok.has,ok.cab,ok.hd,ok.frames,ok.stk,ok.exf,ok.bs,ok.bsz,ok.noex,ok.exfs,ok.funs,ok.frf]
def Cx.Ok.unwish{X:Cx}(ok:(X.wish E).Ok):X.Ok :=
 #[ok.mod,ok.kind,ok.glob,ok.blt,ok.above,ok.inj,ok.has,ok.cab,ok.hd,ok.frames,ok.stk,ok.exf,ok.bs,ok.bsz,ok.noex,ok.exfs,ok.funs,ok.frf]
section
variable{X:Cx}{E:LK}
def Inv.wish(I:Inv X L4 σ H s)(E:LK):Inv (X.wish E) L4 σ H s:=#[I.ok.wish E,I.os,I.bare,I.base,I.loc,I.cell,I.free,I.freeC,I.pin,I.hok,I.len]
def Inv.unwish(I:Inv (X.wish E) L4 σ H s):Inv X L4 σ H s:=#[I.ok.unwish,I.os,I.bare,I.base,I.loc,I.cell,I.free,I.freeC,I.pin,I.hok,I.len]
def SP.unwish(h:SP (X.wish E) L4 D f s'):SP X L4 D f s':=by
 cases f with
 |next=>exists[σ',H',I,q],h;exact#[σ',H',I.unwish,q]
 |brk=>exists[σ',H',I,q],h;exact#[σ',H',I.unwish,q]
 |cont=>exists[σ',H',I,q],h;exact#[σ',H',I.unwish,q]
 |ret u=>exists[v,σ',H',I,r,q],h;exact#[v,σ',H',I.unwish,r,q]
def PSs.nox{st:List Stmt}{t:TS}(h:PSs X.nox st t):PSs X st t:=λL4 s σ H D I hw =>
 Z7 (h L4 s σ H D (I.wish _) hw) (λ_ _ q=>q.unwish) λ_ _ z=>False.elim z
end
section
variable{st:Stmt}{t u:TS}{te:TE}{pos:Pos}
def zh:TS:=λD σ H=>D.nx σ H
def vR(t u:TS):TS:=λD σ H=>t { D with nx:=u D } σ H
def FJ:PSs X [] zh:=λ_ _ σ H _ I h=>wpAny_execs_nil #[σ,H,I,h]
def CZ(h1:PS X st t)(h2:PSs X rest u):PSs X (st::rest) (vR t u):=by
 intro L4 s σ H D I h;refine wpAny_execs_cons (thn (h1 L4 s σ H { D with nx:=u D } I h) λf s1 q=>?_);cases f with
 |next =>exists[σ',H',I',q],q;exact h2 L4 s1 σ' H' D I' q
 |ret v=>exact q
 |brk=>exact q
 |cont=>exact q
def FK(h1:PS X st t):PSs X [st] t:=by
 intro L4 s σ H D I h;refine wpAny_execs_cons (thn (h1 L4 s σ H D I h) λf s1 q=>?_);cases f with
 |next=>exact wpAny_execs_nil q
 |ret v=>exact q
 |brk=>exact q
 |cont=>exact q
def Inv.quiet(I:Inv X L4 σ H s):interactive X.env=false:=by simp[interactive,I.ok.kind]
def Em(te:TE):TS:=λD σ H=>te σ H λ_ H1=>D.nx σ H1
def FG(he:PE X e te)(hs:swapsWith e none pos.line X.env=pure false:=by rfl):PS X (.Expr e pos) (Em te):=by intro L4 s σ H D I h;exact wpAny_Expr_any (thn (he L4 s σ H _ I h) λv s1 ⟨x,H1,I1,r1,q1⟩=>#[σ,H1,I1,q1]) I.quiet hs
def IH(te:TE):TS:=λD σ H=>te σ H D.rt
def Ib(he:PE X e te):PS X (.Return (some e) pos) (IH te):=by intro L4 s σ H D I h;exact wpAny_Return_some (thn (he L4 s σ H _ I h) λv s1 ⟨x,H1,I1,r1,q1⟩=>#[x,σ,H1,I1,r1,q1])
def Dw(c:TT)(t u:TS):TS:=λD σ H=>c σ H λb H1=>if b=true then t D σ H1 else u D σ H1
def JC(hc:PT X c tc)(ha:PSs X a t)(hb:PSs X b u):PS X (.If c a b pos) (Dw tc t u):=by
 intro L4 s σ H D I h;refine wpAny_If (thn (hc L4 s σ H _ I h) λd s1 ⟨H1,I1,q1⟩=>?_);cases d with
 |true=>exact ha L4 s1 σ H1 D I1 q1
 |false=>exact hb L4 s1 σ H1 D I1 q1
end
abbrev TG:=V->St->Hp->(St->Hp->Prop)->Prop
abbrev TGs:=List V->St->Hp->(St->Hp->Prop)->Prop
def PG(X:Cx)(target:L3)(t:TG):Prop :=
 ∀(L4:LJ) (s:LO) (σ:St) (H:Hp) (v:V) (u:LP) (Q:St->Hp->Prop),Inv X L4 σ H s->RelV v u->t v σ H Q ->
  wpAny (model X.prog X.w) X.A (assign target X.env u) (λ_ s'=>∃σ' H',Inv X L4 σ' H' s'/\Q σ' H') X.xe s
def PGs(X:Cx)(ts:List L3)(t:TGs):Prop :=
 ∀(L4:LJ) (s:LO) (σ:St) (H:Hp) (vs:List V) (us:LM) (Q:St->Hp->Prop),Inv X L4 σ H s->Vals vs us->t vs σ H Q ->
  wpAny (model X.prog X.w) X.A (assignInOrder ((assignEach ts X.env).map (·.2)) us) (λ_ s'=>∃σ' H',Inv X L4 σ' H' s'/\Q σ' H') X.xe s
abbrev Gq:=V->V->V->Hp->(Hp->Prop)->Prop
def JR(X:Cx)(t:Gq):Prop :=
 ∀(L4:LJ) (s:LO) (σ:St) (H:Hp) (o i v:V) (ov iv u:LP) (Q:Hp->Prop),Inv X L4 σ H s->RelV o ov->RelV i iv->RelV v u->t o i v H Q ->
  wpAny (model X.prog X.w) X.A (setItem ov iv u) (λ_ s'=>∃H',Inv X L4 σ H' s'/\Q H') X.xe s
abbrev TIp:=V->V->Hp->VK->Prop
def PIp(X:Cx)(op:Operator)(t:TIp):Prop :=
 ∀(L4:LJ) (s:LO) (σ:St) (H:Hp) (x y:V) (v u:LP) (Q:VK),Inv X L4 σ H s->RelV x v->RelV y u->t x y H Q ->
  wpAny (model X.prog X.w) X.A (inplaceOp op v u) (EP X L4 σ Q) X.xe s
section
variable{X:Cx}{pos:Pos}
def bD(i:Nat):TG:=λv σ H Q=>Q (σ.set i (some v)) H
def Fu{i:Nat}(hN:X.N.Nodup)(hi:X.N[i]?=some x)(hx:Loc X.env.scope x)(hf:X.fn x=true\/X.env.scope.names.lookup x=some .local:=by first|exact .inl rfl|exact .inr rfl|assumption):PG X (.Name x pos) (bD i):=by intro L4 s σ H v u Q I r h;exact wpAny_assign_Name (vP I hN hi hx r (λs' I'=>#[_,H,I',h]) hf)
def kJ:TGs:=λvs σ H Q=>vs=[]/\Q σ H
def eG(t:TG)(u:TGs):TGs:=λvs σ H Q=>∃v r,vs=v::r/\t v σ H λσ' H'=>u r σ' H' Q
def Fv:PGs X [] kJ:=by intro L4 s σ H vs us Q I r h;exists[e,h],h;subst e;cases r;exact assignInOrder_nil #[σ,H,I,h]
def CP{t:TG}(h1:PG X e t)(h2:PGs X es u)(hs:(assignEach (e::es) X.env).map (·.2)=assign e X.env::(assignEach es X.env).map (·.2):=by rfl):PGs X (e::es) (eG t u):=by
 intro L4 s σ H vs us Q I r h;exists[v,vr,e1,h],h;subst e1;cases r with
 |cons r rr =>rw[hs];refine assignInOrder_cons (thn (h1 L4 s σ H _ _ _ I r h) λ_ s1 ⟨σ1,H1,I1,q1⟩=>?_);exact h2 L4 s1 σ1 H1 _ _ Q I1 rr q1
def kK(K:W.Frag)(n:Nat)(t:TGs):TG:=λv σ H Q=>∃a xs,v=.ref a/\SqT K H a xs/\xs.length=n/\t xs σ H Q
def HS{k:Nat}{t:TGs}{n:Nat}(hc:X.calm=true)(h:PGs X es t)(hn:(assignEach es X.env).length=n:=by rfl)(hst:(assignEach es X.env).findIdx? (·.1)=none:=by rfl):PG X (.Tuple es k pos) (kK X.K n t):=by intro L4 s σ H v u Q I r hw;exists[a,xs,e1,hq,hl,hw],hw;subst e1;cases r;exists[its,rv,ht,hz],I.tuple hq;refine assign_Tuple_tuple (I.ok.hd hc) ht (by simp[hn,<-hl,rv.length]) hst λh' hx=>?_;have I1:Inv X L4 σ H { s with heap:=h' }:=I.kept (t':=s.toks) λb o e=>hx b o (Zx (Zr e)) e;exact h L4 _ σ H xs _ Q I1 (by simpa using rv) hw
def qZ(te:TE)(g:TG):TS:=λD σ H=>te σ H λx H1=>g x σ H1 D.nx
def HY(he:PE X e te)(hg:PG X tg g)(hs:swapsWithSole [tg] e pos.line X.env=pure false:=by rfl)(hw:swappedStores [tg] e X.env=pure none:=by rfl)(h1:(assignEach [tg] X.env).map (·.2)=[assign tg X.env]:=by rfl):PS X (.Assign [tg] e pos) (qZ te g):=by intro L4 s σ H D I h;refine wpAny_Assign_stores (thn (he L4 s σ H _ I h) λv s1 hz9=>?_) hs hw;exists[x,H1,I1,r1,q1],hz9;rw[h1];exact thn (hg L4 s1 σ H1 x v _ I1 r1 q1) λ_ s2 q=>q
def Ic{i:Nat}(hN:X.N.Nodup)(hi:X.N[i]?=some x)(hx:Loc X.env.scope x)(he:PE X e te)(hs:swapsWith e (some (.Name x pos')) pos.line X.env=pure false:=by rfl)(hf:X.fn x=true\/X.env.scope.names.lookup x=some .local:=by first|exact .inl rfl|exact .inr rfl|assumption):
  PS X (.Assign [.Name x pos'] e pos) (qZ te (bD i)):=by
 intro L4 s σ H D I h;refine wpAny_Assign_Name (thn (he L4 s σ H _ I h) λv s1 hz9=>?_) hs;exists[y,H1,I1,r1,q1],hz9;exact vP I1 hN hi hx r1 (λs2 I2=>#[_,H1,I2,q1]) hf
end
section
variable{X:Cx}
def Bz(c:TT)(tb:TS):TS:=λD σ H=>∃W:Nat->St->Hp->Prop,(∃m,W m σ H)/\∀m σ H,W m σ H ->
 c σ H λb H1=>if b=true then∃N:St->Hp->Prop,(∀σ' H',N σ' H'->∃m',m'<m/\W m' σ' H')/\tb { D with nx:=N,ct:=N,bk:=D.nx } σ H1 else D.nx σ H1
def CY(hp:PassesOwn (model X.prog X.w) X.A X.env X.xe)(hc:PT X c tc)(hb:PSs X body tb):PS X (.While c body [] pos) (Bz tc tb):=by
 intro L4 s σ H D I h;obtain⟨W,⟨m0,w0⟩,turn⟩:=h;refine wpAny_While (codeAny_whileLoop (λn s'=>∃σ' H',Inv X L4 σ' H' s'/\W n σ' H') ?_ m0 #[σ,H,I,w0]);rintro n s1 ⟨σ1,H1,I1,w1⟩;refine wpAny_passesOwn hp (thn (hc L4 s1 σ1 H1 _ I1 (turn n σ1 H1 w1)) λb s2 ⟨H2,I2,q2⟩=>?_);cases b with
 |true =>
  exists[N,hN,q2],q2;rw[LI rfl];refine wpAny_passesOwn hp (thn (hb L4 s2 σ1 H2 _ I2 q2) λf s3 q3=>?_);cases f with
  |next =>exists[σ3,H3,I3,n3],q3;exists[m',hm,w3],hN σ3 H3 n3;exact#[m',hm,σ3,H3,I3,w3]
  |cont =>exists[σ3,H3,I3,n3],q3;exists[m',hm,w3],hN σ3 H3 n3;exact#[m',hm,σ3,H3,I3,w3]
  |brk=>exact q3
  |ret v=>exact q3
 |false =>rw[LH Zv];exact wpAny_execs_nil #[σ1,H2,I2,q2]
end
structure It where
 go:Nat->Hp->Prop
 yld:Nat->Hp->V->Hp->Prop
 stop:Nat->Hp->Prop
def aZ(X:Cx)(L4:LJ)(H:Hp)(b:LN):Prop :=
 H b=none/\b≠X.env.locals/\b∉X.fs/\(b∈X.ex\/X.s₀.heap.objs.size<=b)/\(∀x c,X.env.cells.lookup x=some c->c≠b)/\∀p∈X.pn++L4,p.1≠b
def Inv.fpOk{H H':Hp}(I:Inv X L4 σ H s)(hb:s.heap.objs.size<=b)(hn:H' b=none):aZ X L4 H' b:=by
 refine#[hn,ZV (ZA I.lt hb),I.nofs hb,.inr (Zt I.sz hb),λx c e z=>?_,λp hp z=>?_]
 ·exists[v,q],I.cell x c e;exact absurd (ZA q.lt (by rw[z];exact hb)) (Yl _)
 ·exact absurd (ZA (Zr (I.pin p hp).1) (by rw[z];exact hb)) (Yl _)
structure Turn(P:LQ)(w:LU)(K:W.Frag)(tg:L3)(J:It)(fp:List LN)(it:LN)(tn:Nat->Heap->Prop):Prop where
 mem:it∈fp
 obj:∀i h,tn i h->∀b∈fp,∃o,h.get? b=some o/\∀v,o.data≠.cell v
 keep:∀i h h',tn i h->(∀b∈fp,∀o,h.get? b=some o->h'.get? b=some o)->tn i h'
 item:∀(X:Cx),X.prog=P->X.w=w->X.K=K->X.calm=true->∀(i:Nat) (L4:LJ) (s:LO) (σ:St) (H:Hp) (E:LK),Inv X L4 σ H s->(∀b∈fp,aZ X L4 H b)->tn i s.heap->J.go i H ->
  wpAny (model P w) X.A (pyNext (.ref it)) (λr s1=>∃ u,r=some u /\
   wpAny (model P w) X.A (letOwnedTupleGo tg (.ref it) u) (λ_ s2=>∃ x H',Inv X L4 σ H' s2/\RelV x u/\J.yld i H x H'/\tn (i+1) s2.heap/\∀ b∈fp,H' b=none) E s1) E s
 done:∀(X:Cx),X.prog=P->X.w=w->X.K=K->X.calm=true->∀(i:Nat) (L4:LJ) (s:LO) (σ:St) (H:Hp) (E:LK),Inv X L4 σ H s->(∀b∈fp,aZ X L4 H b)->tn i s.heap->J.stop i H ->
  wpAny (model P w) X.A (pyNext (.ref it)) (λr s1=>r=none/\Inv X L4 σ H s1) E s
 self:∀(A:LV) (i:Nat) (s:LO) (Q:LK) (E:LK),tn i s.heap->Q (.ref it) s->wpAny (model P w) A (pyIter (.ref it)) Q E s
abbrev TI:=St->Hp->(It->Hp->Prop)->Prop
def PIE(X:Cx)(L4:LJ)(σ:St)(tg:L3)(R:It->Hp->Prop)(itv:LP)(s2:LO):Prop :=
 ∃(it:LN) (fp:List LN) (tn:Nat->Heap->Prop) (J:It) (H':Hp),itv=.ref it/\Inv X L4 σ H' s2/\Turn X.prog X.w X.K tg J fp it tn/\tn 0 s2.heap/\(∀b∈fp,aZ X L4 H' b)/\R J H'
def PI(X:Cx)(tg iter:L3)(wi:TI):Prop :=
 ∀(L4:LJ) (s:LO) (σ:St) (H:Hp) (R:It->Hp->Prop),Inv X L4 σ H s->wi σ H R ->
  wpAny (model X.prog X.w) X.A (eval iter X.env) (λv s1=>wpAny (model X.prog X.w) X.A (pyIter v) (PIE X L4 σ tg R) X.xe s1) X.xe s
def mh{s:LO}{Q:Unit->LO->Prop}(ho:s.heap.get? it=some o)(hc:o.cls=.type n)(hd:o.data=.fields vs)(hn:["enumerate","zip","dict_itemiterator","dict_reverseitemiterator","odict_iterator","itertools.zip_longest","itertools.pairwise"].contains n=false)(hQ:Q () s):wpAny M A (letOwnedTupleGo tg (.ref it) u) Q E s:=by
 unfold letOwnedTupleGo;cases tg<;>first
  |exact Zb hQ
  | (cases u<;>first
    |exact Zb hQ
    | (refine z6 (wpAny_load ho ?_)
       rw[hc,hd];show wpAny M A (if(["enumerate","zip","dict_itemiterator","dict_reverseitemiterator","odict_iterator","itertools.zip_longest","itertools.pairwise"].contains n&&vs[0]?==some (rawInt _))=true then _ else _) Q E s;rw[LH (by intro h;rw[hn,Bool.false_and]at h;cases h)];exact Zb hQ))
def Itl(K:W.Frag)(a:LN):It :=
 #[λi H=>∃xs x,SqL K H a xs/\xs[i]?=some x,λi H x H'=>H'=H/\∀xs,SqL K H a xs->xs[i]?=some x,λi H=>∃xs,SqL K H a xs/\xs.length<=i]
def Itt(K:W.Frag)(a:LN):It :=
 #[λi H=>∃xs x,SqT K H a xs/\xs[i]?=some x,λi H x H'=>H'=H/\∀xs,SqT K H a xs->xs[i]?=some x,λi H=>∃xs,SqT K H a xs/\xs.length<=i]
def Itr(lo:Int)(n:Nat):It:=#[λi _=>i<n,λi H x H'=>H'=H/\x=.int (lo+i),λi _=>n<=i]
def BH{w:LU}{K:W.Frag}(a it:LN):Turn P w K tg (Itl K a) [it] it (λi h=>h.IsListIter it a i) where
 mem:=by simp
 obj:=λi h st b hb=>by
  have e:b=it:=by simpa using hb
  subst e;exists[o,e,c,d],st;exact#[o,e,λv z=>by rw[d]at z;cases z]
 keep:=λi h h' st k=>st.at λo e=>k it (by simp) o e
 item:=by intro X hP hw hK hc i L4 s σ H E I hf st hg;subst hP hw hK;exists[xs,x,hq,hx],hg;exists[its,rv,p,hz],I.list hq;exists[u,hu,ru],rv.get hx;exists[f0,f1,f2,f3,f4,f5],hf it (by simp);refine wpAny_pyNext_list_item st p.isList (x:=u) (by simpa using hu) λh' st' sb=>?_;have I1:Inv X L4 σ H { s with heap:=h' }:=I.turned (t':=s.toks) (λb o hb e=>(sb.2 b hb).trans e) f0 f1 f3 f4 f5;exists[o,e,c,d],id st';exact#[u,rfl,mh (s:={ s with heap:=h' }) e c d ⋯ #[x,H,I1,ru,#[rfl,λys hy=>by rw[I.list_inj hy hq];exact hx],st',λb hb=>(hf b hb).1]]
 done:=by intro X hP hw hK hc i L4 s σ H E I hf st hg;subst hP hw hK;exists[xs,hq,hx],hg;exists[its,rv,p,hz],I.list hq;exists[f0,f1,f2,f3,f4,f5],hf it (by simp);have hl:=rv.length;exact wpAny_pyNext_list_end (I.ok.hd hc) st p.isList (by simp;omega) λh' eb=>#[rfl,I.turned (t':=s.toks) (λb o hb e=>eb b o hb e) f0 f1 f3 f4 f5]
 self:=λ_ _ _ _ _ st h=>wpAny_pyIter_listiter st h
def zm{w:LU}{K:W.Frag}(a it:LN):Turn P w K tg (Itt K a) [it] it (λi h=>h.IsTupleIter it a i) where
 mem:=by simp
 obj:=λi h st b hb=>by
  have e:b=it:=by simpa using hb
  subst e;exists[o,e,c,d],st;exact#[o,e,λv z=>by rw[d]at z;cases z]
 keep:=λi h h' st k=>st.at λo e=>k it (by simp) o e
 item:=by intro X hP hw hK hc i L4 s σ H E I hf st hg;subst hP hw hK;exists[xs,x,hq,hx],hg;exists[its,rv,p,hz],I.tuple hq;exists[u,hu,ru],rv.get hx;exists[f0,f1,f2,f3,f4,f5],hf it (by simp);refine wpAny_pyNext_tuple_item st (show s.heap.IsTuple a its.toArray from p) (x:=u) (by simpa using hu) λh' st' sb=>?_;have I1:Inv X L4 σ H { s with heap:=h' }:=I.turned (t':=s.toks) (λb o hb e=>(sb.2 b hb).trans e) f0 f1 f3 f4 f5;exists[o,e,c,d],id st';exact#[u,rfl,mh (s:={ s with heap:=h' }) e c d ⋯ #[x,H,I1,ru,#[rfl,λys hy=>by rw[I.tuple_inj hy hq];exact hx],st',λb hb=>(hf b hb).1]]
 done:=by intro X hP hw hK hc i L4 s σ H E I hf st hg;subst hP hw hK;exists[xs,hq,hx],hg;exists[its,rv,p,hz],I.tuple hq;exists[f0,f1,f2,f3,f4,f5],hf it (by simp);have hl:=rv.length;exact wpAny_pyNext_tuple_end (I.ok.hd hc) st (show s.heap.IsTuple a its.toArray from p) (by simp;omega) λh' eb=>#[rfl,I.turned (t':=s.toks) (λb o hb e=>eb b o hb e) f0 f1 f3 f4 f5]
 self:=λ_ _ _ _ _ st h=>wpAny_pyIter_tupleiter st h
def zl{w:LU}{K:W.Frag}(it:LN)(lo:Int)(n:Nat):Turn P w K tg (Itr lo n) [it] it (λi h=>IsRangeIter h it (lo+(i:Nat)*1) ((n:Int)-(i:Nat)) 1) where
 mem:=by simp
 obj:=λi h st b hb=>by
  have e:b=it:=by simpa using hb
  subst e;exact#[_,st,λv z=>by
   have z':Data.fields _=Data.cell v:=z;cases z']
 keep:=λi h h' st k=>k it (by simp) _ st
 item:=by intro X hP hw hK hc i L4 s σ H E I hf st hg;subst hP hw hK;exists[f0,f1,f2,f3,f4,f5],hf it (by simp);have W:=Walks.range (prog:=X.prog) (w:=X.w) (I.ok.hd hc) it lo 1 n;refine W.item i s _ _ hg st λv h' tk hv st' kk=>?_;exists[t,rfl],hv;have I1:Inv X L4 σ H { s with heap:=h',toks:=tk }:=I.turned (λb o hb e=>kk b o (by simpa using hb) e) f0 f1 f3 f4 f5;refine#[_,rfl,mh (s:={ s with heap:=h',toks:=tk }) (n:="range_iterator") st' rfl rfl ⋯ #[.int (lo+i),H,I1,#[t,?_],#[rfl,rfl],st',λb hb=>(hf b hb).1]];rw[Int.mul_one]
 done:=by intro X hP hw hK hc i L4 s σ H E I hf st hg;subst hP hw hK;exists[f0,f1,f2,f3,f4,f5],hf it (by simp);exact wpAny_pyNext_range_end (I.ok.hd hc) st (by have:n<=i:=hg;omega) λh' eb=>#[rfl,I.turned (t':=s.toks) (λb o hb e=>eb b o hb e) f0 f1 f3 f4 f5]
 self:=λ_ _ _ _ _ st h=>wpAny_pyIter_rangeiter st h
section
variable{X:Cx}
def yn(K:W.Frag)(tl:TE):TI:=λσ H R=>tl σ H λx H1=>∃a,x=.ref a/\(∃xs,SqL K H1 a xs)/\R (Itl K a) H1
def GO(K:W.Frag)(tl:TE):TI:=λσ H R=>tl σ H λx H1=>∃a,x=.ref a/\(∃xs,SqT K H1 a xs)/\R (Itt K a) H1
def Fy(hl:PE X l tl):PI X tg l (yn X.K tl):=by
 intro L4 s σ H R I h;refine thn (hl L4 s σ H _ I h) λv s1 hz9=>?_;exists[x,H1,I1,r1,q1],hz9;obtain⟨a,e,⟨xs,hq⟩,q⟩:=q1;subst e;cases r1;exists[its,rv,p,hz],I1.list hq;refine wpAny_pyIter_list p.isList ?_;refine#[s1.heap.objs.size,[s1.heap.objs.size],_,_,H1,rfl,I1.kept (t':=s1.toks) λb o e=>Za _ e,BH a _,#[_,Zk _ rfl,rfl,rfl],λb hb=>?_,q];have e:b=s1.heap.objs.size:=by simpa using hb
 subst e;exact I1.fpOk (Ze _) (I1.hok.fresh (Ze _))
def HW(hl:PE X l tl):PI X tg l (GO X.K tl):=by
 intro L4 s σ H R I h;refine thn (hl L4 s σ H _ I h) λv s1 hz9=>?_;exists[x,H1,I1,r1,q1],hz9;obtain⟨a,e,⟨xs,hq⟩,q⟩:=q1;subst e;cases r1;exists[its,rv,p,hz],I1.tuple hq;refine wpAny_pyIter_tuple (show s1.heap.IsTuple a its.toArray from p) ?_;refine#[s1.heap.objs.size,[s1.heap.objs.size],_,_,H1,rfl,I1.kept (t':=s1.toks) λb o e=>Za _ e,zm a _,#[_,Zk _ rfl,rfl,rfl],λb hb=>?_,q];have e:b=s1.heap.objs.size:=by simpa using hb
 subst e;exact I1.fpOk (Ze _) (I1.hok.fresh (Ze _))
def Dc{R:It->Hp->Prop}{lo hi:Int}{t u v:Tok}{tk:Nat}(I:Inv X L4 σ H s)(h1:-(2^62)<=lo)(h2:lo<2^62)(h3:-(2^62)<=hi)(h4:hi<2^62)(q:R (Itr lo (hi-lo).toNat) H):wpAny (model X.prog X.w) X.A (pyIter (.ref s.heap.objs.size)) (PIE X L4 σ tg R) E { s with heap:=s.heap.push { cls:=.type "range",data:=.fields (List.toArray [.int lo t,.int hi u,.int 1 v]) },toks:=tk }:=by
 refine wpAny_pyIter_range (IsRange.new ..) (small_one h1 h2 h3 h4) ?_;have I1:Inv X L4 σ H { s with heap:=s.heap.push { cls:=.type "range",data:=.fields (List.toArray [.int lo t,.int hi u,.int 1 v]) },toks:=tk }:=I.kept λb o e=>Za _ e;refine#[(s.heap.push { cls:=.type "range",data:=.fields (List.toArray [.int lo t,.int hi u,.int 1 v]) }).objs.size,[(s.heap.push { cls:=.type "range",data:=.fields (List.toArray [.int lo t,.int hi u,.int 1 v]) }).objs.size],_,_,H,rfl,
  I1.kept (t':=tk) λb o e=>Za _ e,zl _ lo (hi - lo).toNat,?_,λb hb=>?_,q]
 ·have e1:lo+((0:Nat):Int)*1=lo:=by simp
  have e2:(((hi-lo).toNat:Nat):Int)-((0:Nat):Int)=Builtin.Range.rangeSize lo hi 1:=by rw[rangeSize_one];split<;>omega
  show IsRangeIter _ _ (lo+((0:Nat):Int)*1) ((((hi-lo).toNat:Nat):Int)-((0:Nat):Int)) 1;rw[e1,e2];exact Zk _ rfl
 ·have e:b=(s.heap.push { cls:=.type "range",data:=.fields (List.toArray [.int lo t,.int hi u,.int 1 v]) }).objs.size:=by simpa using hb
  subst e;exact I1.fpOk (Ze _) (I1.hok.fresh (Ze _))
def DT(ta:TA):TI:=λσ H R=>ta σ H λvs H1=>∃j:Int,vs=[.int j]/\-(2^62)<=j/\j<2^62/\R (Itr 0 j.toNat) H1
def A7(hg:Gl X "range")(hm:X.mg "range" = none)(ha:PA X [a] ta)(hs:starEach [a] X.env=[(false,eval a X.env)]:=by rfl):PI X tg (.Call (.Name "range" p) [a] [] pos) (DT ta):=by
 intro L4 s σ H R I h;refine Call_ (cV I hg hm boot_range (Z5 (thn (ha pos L4 s σ H _ I h) λus s1 hz9=>?_) hs rfl));exists[vs,H1,I1,r1,q1],hz9;exists[j,e,q1,q2,q],q1;subst e;cases r1 with
 |cons r rr =>cases rr;exists[t,rfl],r;exact call_range_1 (Dc I1 ∅ ∅ q1 q2 (by simpa using q))
def IE(wi:TI)(g:TG)(tb:TS):TS:=λD σ H=>wi σ H λJ H1=>∃W:Nat->Nat->St->Hp->Prop,(∃m,W 0 m σ H1)/\∀i m σ H,W i m σ H ->
 (J.stop i H/\D.nx σ H)\/(J.go i H/\∃N:St->Hp->Prop,(∀σ' H',N σ' H'->∃m',m'<m/\W (i+1) m' σ' H')/\∀x H',J.yld i H x H'->g x σ H' λσ2 H2=>tb { D with nx:=N,ct:=N,bk:=D.nx } σ2 H2)
def lh(fp:List LN)(h:Heap):LJ:=fp.filterMap λb=>(h.get? b).map λo=>(b,o)
def gE{h:Heap}(hb:b∈fp)(e:h.get? b=some o):(b,o)∈lh fp h:=List.mem_filterMap.mpr #[b,hb,by rw[e];rfl]
def AW(hp:p∈lh fp h):p.1∈fp/\h.get? p.1=some p.2:=by
 exists[b,hb,e],List.mem_filterMap.mp hp;cases q:h.get? b with
 |none=>rw[q]at e;cases e
 |some o =>rw[q]at e;have e':(b,o)=p:=ZB e;subst e';exact#[hb,q]
def Inv.pinned(I:Inv X L4 σ H s)(hf:∀b∈fp,aZ X L4 H b)(ho:∀b∈fp,∃o,s.heap.get? b=some o/\∀v,o.data≠.cell v):Inv X (L4++lh fp s.heap) σ H s :=
 I.pins_of λp hp=>(ZE.mp hp).elim (λz=>I.pin p (ZJ _ z)) λz=>by exists[hb,e],AW z;exists[f0,f1,f2,_],hf p.1 hb;exists[o,e',d],ho p.1 hb;rw[e]at e';cases e';exact#[e,f0,f1,f2,d]
def Inv.unpinned{L4 pl:LJ}(I:Inv X (L4++pl) σ H s):Inv X L4 σ H s:=I.pins_of λp hp=>I.pin p (ZJ _ (List.mem_append_left _ hp))
def Ia(hp:PassesOwn (model X.prog X.w) X.A X.env X.xe)(hc:X.calm=true)(hi:PI X tg iter wi)(hg:PG X tg g)(hb:PSs X body tb)(hs:∀x,foldedSetIterable iter X.env x=pure x:=by intro _;rfl):PS X (.For tg iter body [] pos) (IE wi g tb):=by
 intro L4 s σ H D I h;refine wpAny_For (thn (hi L4 s σ H _ I h) λv s1 h1=>thn h1 λitv s2 h2=>?_) hs;obtain⟨it,fp,tn,J,H2,e,I2,T,st2,f2,W,⟨m0,w0⟩,turn⟩:=h2;subst e;have stat:∀{H':Hp},(∀b∈fp,H' b=none)->∀b∈fp,aZ X L4 H' b:=λhn b hb=>#[hn b hb,(f2 b hb).2]
 refine codeAny_forLoop_any (λn s'=>∃i σ' H',Inv X L4 σ' H' s'/\tn i s'.heap/\(∀b∈fp,H' b=none)/\W i n σ' H') ?_ m0 #[0,σ,H2,I2,st2,λb hb=>(f2 b hb).1,w0];rintro n s3 ⟨i,σ3,H3,I3,st3,fr3,w3⟩;rcases turn i n σ3 H3 w3 with⟨stop,qn⟩|⟨go,N,hN,step⟩
 ·refine wpAny_passesOwn hp (thn (T.done X rfl rfl rfl hc i L4 s3 σ3 H3 X.xe I3 (stat fr3) st3 stop) λr s4 ⟨hr,I4⟩=>?_);subst hr;exact wpAny_execs_nil #[σ3,H3,I4,qn]
 ·refine wpAny_passesOwn hp (thn (T.item X rfl rfl rfl hc i L4 s3 σ3 H3 X.xe I3 (stat fr3) st3 go) λr s4 ⟨u,hr,h4⟩=>?_);subst hr;refine wpAny_passesOwn hp (thn h4 λ_ s5 hz9=>?_);exists[x,H5,I5,r5,y5,st5,fr5],hz9;have I5':=I5.pinned (stat fr5) (T.obj _ _ st5);refine wpAny_passesOwn hp (thn (hg _ s5 σ3 H5 x u _ I5' r5 (step x H5 y5)) λ_ s6 ⟨σ6,H6,I6,q6⟩=>?_);refine wpAny_passesOwn hp (thn (hb _ s6 σ6 H6 _ I6 q6) λf s7 q7=>?_);have again:∀{σ7:St} {H7:Hp},Inv X (L4++lh fp s5.heap) σ7 H7 s7->N σ7 H7->∃m,m<n/\∃i σ' H',Inv X L4 σ' H' s7/\tn i s7.heap/\(∀b∈fp,H' b=none)/\W i m σ' H':=fun{σ7 H7} I7 n7=>by exists[m',hm,w7],hN σ7 H7 n7;refine#[m',hm,i+1,σ7,H7,I7.unpinned,T.keep _ _ _ st5 λb hb o e=>(I7.pin (b,o) (ZJ _ (ZJ _ (gE hb e)))).1,λb hb=>?_,w7];exists[o,e,d],T.obj _ _ st5 b hb;exact(I7.pin (b,o) (ZJ _ (ZJ _ (gE hb e)))).2.1
  cases f with
  |next=>exists[σ7,H7,I7,n7],q7;exact again I7 n7
  |cont=>exists[σ7,H7,I7,n7],q7;exact again I7 n7
  |brk=>exists[σ7,H7,I7,q7],q7;exact#[σ7,H7,I7.unpinned,q7]
  |ret v=>exists[x7,σ7,H7,I7,r7,q7],q7;exact#[x7,σ7,H7,I7.unpinned,r7,q7]
end
def B5{K:W.Frag}{a:LN}{xs:List V}{g:TG}{tb:TS}{D:Ends}{σ:St}{H:Hp}(Pv:Nat->St->Hp->Prop)(h0:Pv 0 σ H)(hl:∀i σ H,i<=xs.length->Pv i σ H->SqL K H a xs)(hs:∀i x σ H,xs[i]?=some x->Pv i σ H->g x σ H λσ2 H2=>tb { D with nx:=Pv (i+1),ct:=Pv (i+1),bk:=D.nx } σ2 H2)(hd:∀σ H,Pv xs.length σ H->D.nx σ H) :
  ∃W:Nat->Nat->St->Hp->Prop,(∃m,W 0 m σ H)/\∀i m σ H,W i m σ H ->
   ((Itl K a).stop i H/\D.nx σ H)\/((Itl K a).go i H/\∃N:St->Hp->Prop,(∀σ' H',N σ' H'->∃m',m'<m/\W (i+1) m' σ' H')/\∀x H',(Itl K a).yld i H x H'->g x σ H' λσ2 H2=>tb { D with nx:=N,ct:=N,bk:=D.nx } σ2 H2):=by
 refine#[λi m σ H=>m=xs.length-i/\i<=xs.length/\Pv i σ H,#[xs.length,by simp,Zy _,h0],?_];rintro i m σ H ⟨rfl,hi,p⟩;have q:=hl i σ H hi p;by_cases hlt:i<xs.length
 ·refine .inr #[#[xs,xs[i],q,by simp[hlt]],Pv (i+1),λσ' H' p'=>#[xs.length-(i+1),∅,rfl,hlt,p'],λx H' y=>?_];exists[e,y],y;subst e;exact hs i x σ _ (y xs q) p
 ·have e:i=xs.length:=∅
  subst e;exact .inl #[#[xs,q,Ze _],hd σ H p]
def Ah{lo:Int}{n:Nat}{g:TG}{tb:TS}{D:Ends}{σ:St}{H:Hp}(Pv:Nat->St->Hp->Prop)(h0:Pv 0 σ H)(hs:∀i σ H,i<n->Pv i σ H->g (.int (lo+i)) σ H λσ2 H2=>tb { D with nx:=Pv (i+1),ct:=Pv (i+1),bk:=D.nx } σ2 H2)(hd:∀σ H,Pv n σ H->D.nx σ H) :
  ∃W:Nat->Nat->St->Hp->Prop,(∃m,W 0 m σ H)/\∀i m σ H,W i m σ H ->
   ((Itr lo n).stop i H/\D.nx σ H)\/((Itr lo n).go i H/\∃N:St->Hp->Prop,(∀σ' H',N σ' H'->∃m',m'<m/\W (i+1) m' σ' H')/\∀x H',(Itr lo n).yld i H x H'->g x σ H' λσ2 H2=>tb { D with nx:=N,ct:=N,bk:=D.nx } σ2 H2):=by
 refine#[λi m σ H=>m=n-i/\i<=n/\Pv i σ H,#[n,by simp,Zy _,h0],?_];rintro i m σ H ⟨rfl,hi,p⟩;by_cases hlt:i<n
 ·refine .inr #[hlt,Pv (i+1),λσ' H' p'=>#[n-(i+1),∅,rfl,hlt,p'],λx H' y=>?_];exists[e,y],y;subst e y;exact hs i σ _ hlt p
 ·have e:i=n:=∅
  subst e;exact .inl #[Ze _,hd σ H p]
abbrev R2:=V->V->Hp->VK->Prop
def OpR(X:Cx)(f:LP->LP->Sem LP)(r:R2):Prop :=
 ∀(L4:LJ) (s:LO) (σ:St) (H:Hp) (x y:V) (v u:LP) (Q:VK),Inv X L4 σ H s->RelV x v->RelV y u->r x y H Q ->
  wpAny (model X.prog X.w) X.A (f v u) (EP X L4 σ Q) X.xe s
def UnR(X:Cx)(f:LP->Sem LP)(r:V->Hp->VK->Prop):Prop :=
 ∀(L4:LJ) (s:LO) (σ:St) (H:Hp) (x:V) (v:LP) (Q:VK),Inv X L4 σ H s->RelV x v->r x H Q ->
  wpAny (model X.prog X.w) X.A (f v) (EP X L4 σ Q) X.xe s
def dR(X:Cx)(f:LP)(r:List V->Hp->VK->Prop):Prop :=
 ∀(L4:LJ) (s:LO) (σ:St) (H:Hp) (xs:List V) (us:LM) (Q:VK),Inv X L4 σ H s->Vals xs us->r xs H Q ->
  wpAny (model X.prog X.w) X.A (call f us) (EP X L4 σ Q) X.xe s
def tOp(r:R2)(ta tb:TE):TE:=λσ H Q=>ta σ H λx H1=>tb σ H1 λy H2=>r x y H2 Q
def tUn(r:V->Hp->VK->Prop)(ta:TE):TE:=λσ H Q=>ta σ H λx H1=>r x H1 Q
inductive rI(C:Int->Int->Prop)(g:Int->Int->V)(x:V)(y:V)(H:Hp)(Q:VK):Prop
 |mk (i j:_) (h0:x=.int i) (h1:y=.int j) (h2:C i j) (h3:Q (g i j) H):rI C g x y H Q
inductive rI0(g:Int->Int->V)(x:V)(y:V)(H:Hp)(Q:VK):Prop
 |mk (i j:_) (h0:x=.int i) (h1:y=.int j) (h2:Q (g i j) H):rI0 g x y H Q
def rU(g:Int->V):V->Hp->VK->Prop:=λx H Q=>∃i,x=.int i/\Q (g i) H
section
variable{X:Cx}
def BT(ha:PE X a ta)(hb:PE X b tb){R:V->V->Hp->Prop}(I:Inv X L4 σ H s)(h:ta σ H λx H1=>tb σ H1 λy H2=>R x y H2){f:LP->LP->Sem LP}(hf:∀v u s2 x y H2,Inv X L4 σ H2 s2->RelV x v->RelV y u->R x y H2->wpAny (model X.prog X.w) X.A (f v u) Q X.xe s2):
  wpAny (model X.prog X.w) X.A (eval a X.env) (λv s₁=>wpAny (model X.prog X.w) X.A (eval b X.env) (λu s₂=>wpAny (model X.prog X.w) X.A (f v u) Q X.xe s₂) X.xe s₁) X.xe s:=by
 refine thn (ha L4 s σ H _ I h) λv s1 hz9=>?_;exists[x,H1,I1,r1,q1],hz9;refine thn (hb L4 s1 σ H1 _ I1 q1) λu s2 hz9=>?_;exists[y,H2,I2,r2,q2],hz9;exact hf v u s2 x y H2 I2 r1 r2 q2
def Jz{r:R2}(ho:OpR X (binaryOp op) r)(ha:PE X a ta)(hb:PE X b tb):PE X (.BinOp a op b pos) (tOp r ta tb):=by intro L4 s σ H Q I h;exact wpAny_BinOp (BT ha hb I h λv u s2 x y H2 I2 rx ry q=>ho L4 s2 σ H2 x y v u Q I2 rx ry q)
def JB{r:V->Hp->VK->Prop}(ho:UnR X (unaryOp op) r)(ha:PE X a ta):PE X (.UnaryOp op a pos) (tUn r ta):=by intro L4 s σ H Q I h;exact UnaryOp_ (thn (ha L4 s σ H _ I h) λv s1 ⟨x,H1,I1,r1,q1⟩=>ho L4 s1 σ H1 x v Q I1 r1 q1)
def opI{f:LP->LP->Sem LP}{C:Int->Int->Prop}{g:Int->Int->Int}(rule:∀(i j:Int) (t u:Tok) (s:LO) (Q:LK) (E:LK),C i j->Q (.int (g i j) s.toks) { s with toks:=s.toks+1 }->wpAny (model X.prog X.w) X.A (f (.int i t) (.int j u)) Q E s) :
  OpR X f (rI C λi j=>.int (g i j)):=by
 intro L4 s σ H x y v u Q I rx ry h;exists[i,j,rfl,rfl,hc,q],h;exists[t,rfl],rx;exists[t',rfl],ry;exact rule i j t t' s _ _ hc #[.int (g i j),H,I.tok _,#[_,rfl],q]
def Hj{f:LP->LP->Sem LP}{g:Int->Int->Int}(rule:∀(i j:Int) (t u:Tok) (s:LO) (Q:LK) (E:LK),Q (.int (g i j) s.toks) { s with toks:=s.toks+1 }->wpAny (model X.prog X.w) X.A (f (.int i t) (.int j u)) Q E s) :
  OpR X f (rI0 λi j=>.int (g i j)):=by
 intro L4 s σ H x y v u Q I rx ry h;exists[i,j,rfl,rfl,q],h;exists[t,rfl],rx;exists[t',rfl],ry;exact rule i j t t' s _ _ #[.int (g i j),H,I.tok _,#[_,rfl],q]
def CH{f:LP->LP->Sem LP}{g:Int->Int->Bool}(rule:∀(i j:Int) (t u:Tok) (s:LO) (Q:LK) (E:LK),Q (.bool (g i j)) s->wpAny (model X.prog X.w) X.A (f (.int i t) (.int j u)) Q E s) :
  OpR X f (rI0 λi j=>.bl (g i j)):=by
 intro L4 s σ H x y v u Q I rx ry h;exists[i,j,rfl,rfl,q],h;exists[t,rfl],rx;exists[t',rfl],ry;exact rule i j t t' s _ _ #[.bl (g i j),H,I,rfl,q]
def Gi(i j:Int):Prop:=0<j/\j<1073741824
def Gj(i j:Int):Prop:=0<=j/\j<=1000000/\i.natAbs<2^64
def CMul(i j:Int):Prop:=(-(2^64)<i/\i<2^64)\/(-(2^64)<j/\j<2^64)
def CMul.ok{i j:Int}(h:CMul i j):IntMulOk i j:=by
 rcases h with⟨h1,h2⟩|⟨h1,h2⟩
 ·exact .of_left (intBits_le_64 h1 h2)
 ·exact .of_right (intBits_le_64 h1 h2)
def Hk:OpR X (binaryOp .Add) (rI0 λi j=>.int (i+j)):=Hj λ_ _ _ _ _ _ _ q=>add_int q
def Hw:OpR X (binaryOp .Sub) (rI0 λi j=>.int (i-j)):=Hj λ_ _ _ _ _ _ _ q=>sub_int q
def Hr:OpR X (binaryOp .Mult) (rI CMul λi j=>.int (i*j)):=opI λ_ _ _ _ _ _ _ hc q=>mul_int q hc.ok
def Ff:OpR X (binaryOp .FloorDiv) (rI Gi λi j=>.int (i / j)):=opI λi j _ _ _ _ _ hc q=>by have h1:(0:Int)<j:=hc.1;have h2:j<1073741824:=hc.2;exact floordiv_int ∅ (by rw[Int.fdiv_eq_ediv_of_nonneg i ∅];exact q) (.inl (PyProof.noPylong_small ∅))
def Hq:OpR X (binaryOp .Mod) (rI (λ_ j=>0<j) λi j=>.int (i%j)):=opI λi j _ _ _ _ _ hc q=>by have h1:(0:Int)<j:=hc;exact mod_int' ∅ (by rw[Int.fmod_eq_emod_of_nonneg i ∅];exact q)
def Hv:OpR X (binaryOp .Pow) (rI Gj λi j=>.int (i^j.toNat)):=opI λ_ _ _ _ _ _ _ hc q=>pow_int_small hc.1 hc.2.1 hc.2.2 q
def unI{f:LP->Sem LP}{g:Int->Int}(rule:∀(i:Int) (t:Tok) (s:LO) (Q:LK) (E:LK),Q (.int (g i) s.toks) { s with toks:=s.toks+1 }->wpAny (model X.prog X.w) X.A (f (.int i t)) Q E s) :
  UnR X f (rU λi=>.int (g i)):=by
 intro L4 s σ H x v Q I rx h;exists[i,rfl,q],h;exists[t,rfl],rx;exact rule i t s _ _ #[.int (g i),H,I.tok _,#[_,rfl],q]
def IM:UnR X (unaryOp .USub) (rU λi=>.int (-i)):=unI λ_ _ _ _ _ q=>neg_int q
end
def yW:V->V->Bool
 |.non,.non=>true|.non,.int _=>true|.int _,.non=>true|.non,.bl _=>true|.bl _,.non=>true|.non,.str _=>true|.str _,.non=>true
 |.int _,.int _=>true|.bl _,.bl _=>true|.str _,.str _=>true|.byt _,.byt _=>true
 |.int _,.str _=>true|.str _,.int _=>true|.bl _,.str _=>true|.str _,.bl _=>true
 |_,_=>false
def rEq:R2:=λx y H Q=>yW x y=true/\Q (.bl (decide (x=y))) H
def rNe:R2:=λx y H Q=>yW x y=true/\Q (.bl (!decide (x=y))) H
def wQ{i j:Int}:decide (V.int i=V.int j)=(i==j):=by rw[Z3];simp
def zZ{i j:Bool}:decide (V.bl i=V.bl j)=(i==j):=by rw[Z3];simp
def wS{i j:Str}:decide (V.str i=V.str j)=(i==j):=by rw[Z3];simp
def wP{i j:Array UInt8}:decide (V.byt i=V.byt j)=(i.toList==j.toList):=by rw[Z3];cases i;cases j;simp
section
variable{X:Cx}{b:L3}{ta tb tc:TE}
def aO{Q:VK}{k k':Bool}(I:Inv X L4 σ H s)(q:Q (.bl k) H)(e:k=k'):EP X L4 σ Q (.bool k') s:=by subst e;exact#[.bl k,H,I,rfl,q]
def Js:OpR X (compareOp .Eq) rEq:=by
 intro L4 s σ H x y v u Q I rx ry h;exists[hs,q],h;cases x with
 |non =>
  cases rx;cases y with
  |non=>cases ry;exact PySem.EqNone.eq_none_none (aO I q (by simp))
  |bl j=>cases ry;exact PySem.EqNone.eq_none_bool (aO I q (by simp))
  |int j=>exists[t',rfl],ry;exact PySem.EqNone.eq_none_int (aO I q (by simp))
  |str j=>exists[t',rfl],ry;exact PySem.EqNone.eq_none_str (aO I q (by simp))
  |_=>exact absurd (show false=true from hs) Zv
 |bl i =>
  cases rx;cases y with
  |non=>cases ry;exact PySem.EqNone.eq_bool_none (aO I q (by simp))
  |bl j=>cases ry;exact eq_bool (aO I q zZ)
  |str j=>exists[t',rfl],ry;exact PySem.EqMixed.eq_bool_str (aO I q (by simp))
  |_=>exact absurd (show false=true from hs) Zv
 |int i =>
  exists[t,rfl],rx;cases y with
  |non=>cases ry;exact PySem.EqNone.eq_int_none (aO I q (by simp))
  |int j=>exists[t',rfl],ry;exact eq_int (aO I q wQ)
  |str j=>exists[t',rfl],ry;exact PySem.EqMixed.eq_int_str (aO I q (by simp))
  |_=>exact absurd (show false=true from hs) Zv
 |str i =>
  exists[t,rfl],rx;cases y with
  |non=>cases ry;exact PySem.EqNone.eq_str_none (aO I q (by simp))
  |bl j=>cases ry;exact PySem.EqMixed.eq_str_bool (aO I q (by simp))
  |int j=>exists[t',rfl],ry;exact PySem.EqMixed.eq_str_int (aO I q (by simp))
  |str j=>exists[t',rfl],ry;exact eq_str (aO I q wS)
  |_=>exact absurd (show false=true from hs) Zv
 |byt i =>
  exists[t,rfl],rx;cases y with
  |byt j=>exists[t',rfl],ry;exact W.eq_bytes (aO I q wP)
  |_=>exact absurd (show false=true from hs) Zv
 |_=>cases y<;>exact absurd (show false=true from hs) Zv
def Jv:OpR X (compareOp .NotEq) rNe:=by
 intro L4 s σ H x y v u Q I rx ry h;exists[hs,q],h;cases x with
 |non =>
  cases rx;cases y with
  |non=>cases ry;exact PySem.EqNone.ne_none_none (aO I q (by simp))
  |bl j=>cases ry;exact PySem.EqNone.ne_none_bool (aO I q (by simp))
  |int j=>exists[t',rfl],ry;exact PySem.EqNone.ne_none_int (aO I q (by simp))
  |str j=>exists[t',rfl],ry;exact PySem.EqNone.ne_none_str (aO I q (by simp))
  |_=>exact absurd (show false=true from hs) Zv
 |bl i =>
  cases rx;cases y with
  |non=>cases ry;exact PySem.EqNone.ne_bool_none (aO I q (by simp))
  |bl j=>cases ry;exact ne_bool (aO I q (ZN not zZ))
  |str j=>exists[t',rfl],ry;exact PySem.EqMixed.ne_bool_str (aO I q (by simp))
  |_=>exact absurd (show false=true from hs) Zv
 |int i =>
  exists[t,rfl],rx;cases y with
  |non=>cases ry;exact PySem.EqNone.ne_int_none (aO I q (by simp))
  |int j=>exists[t',rfl],ry;exact ne_int (aO I q (ZN not wQ))
  |str j=>exists[t',rfl],ry;exact PySem.EqMixed.ne_int_str (aO I q (by simp))
  |_=>exact absurd (show false=true from hs) Zv
 |str i =>
  exists[t,rfl],rx;cases y with
  |non=>cases ry;exact PySem.EqNone.ne_str_none (aO I q (by simp))
  |bl j=>cases ry;exact PySem.EqMixed.ne_str_bool (aO I q (by simp))
  |int j=>exists[t',rfl],ry;exact PySem.EqMixed.ne_str_int (aO I q (by simp))
  |str j=>exists[t',rfl],ry;exact ne_str (aO I q (ZN not wS))
  |_=>exact absurd (show false=true from hs) Zv
 |byt i =>
  exists[t,rfl],rx;cases y with
  |byt j=>exists[t',rfl],ry;exact W.ne_bytes (aO I q (ZN not wP))
  |_=>exact absurd (show false=true from hs) Zv
 |_=>cases y<;>exact absurd (show false=true from hs) Zv
def Ec:OpR X (compareOp .Lt) (rI0 λi j=>.bl (decide (i<j))):=CH λ_ _ _ _ _ _ _ q=>lt_int q
def Ju:OpR X (compareOp .LtE) (rI0 λi j=>.bl (decide (i<=j))):=CH λ_ _ _ _ _ _ _ q=>le_int q
def Jt:OpR X (compareOp .Gt) (rI0 λi j=>.bl (decide (j<i))):=CH λ_ _ _ _ _ _ _ q=>gt_int q
def A0:OpR X (compareOp .Lt) (λx y H Q=>∃i j,x=.str i/\y=.str j/\Q (.bl (decide (i.cps.toList<j.cps.toList))) H):=by intro L4 s σ H x y v u Q I rx ry h;exists[i,j,rfl,rfl,q],h;exists[t,rfl],rx;exists[t',rfl],ry;exact lt_str (aO I q rfl)
def Ho:OpR X (compareOp .Is) (λx y H Q=>y=.non/\Q (.bl (decide (x=.non))) H):=by
 intro L4 s σ H x y v u Q I rx ry h;exists[rfl,q],h;cases ry;refine is_none_gen (aO I q ?_);cases x<;>first
  |(cases rx;rfl)
  |(exists[t,rfl],rx;rfl)
def Fg:OpR X (compareOp .IsNot) (λx y H Q=>y=.non/\Q (.bl (!decide (x=.non))) H):=by
 intro L4 s σ H x y v u Q I rx ry h;exists[rfl,q],h;cases ry;refine isnot_none_gen (aO I q ?_);cases x<;>first
  |(cases rx;rfl)
  |(exists[t,rfl],rx;rfl)
def AL(b:L3)(h:op≠.In:=by decide)(h2:op≠.NotIn:=by decide):behindInMarks op b=false:=by
 have e1:(op==CmpOp.In)=false:=by cases op<;>first|rfl|exact absurd rfl h
 have e2:(op==CmpOp.NotIn)=false:=by cases op<;>first|rfl|exact absurd rfl h2
 cases b<;>simp[behindInMarks,e1,e2]
def Fk{r:R2}(ho:OpR X (compareOp op) r)(ha:PE X a ta)(hb:PE X b tb)(hm:behindInMarks op b=false):PE X (.Compare a [op] [b] pos) (tOp r ta tb):=by intro L4 s σ H Q I h;exact wpAny_Compare1 (BT ha hb I h λv u s2 x y H2 I2 rx ry q=>ho L4 s2 σ H2 x y v u Q I2 rx ry q) hm
def tD(t:TE):TT:=λσ H Q=>t σ H λx H1=>IsB x H1 Q
def FL{r:R2}(ho:OpR X (compareOp op) r)(ha:PE X a ta)(hb:PE X b tb)(hm:behindInMarks op b=false):PT X (.Compare a [op] [b] pos) (tD (tOp r ta tb)):=by
 intro L4 s σ H Q I h;refine wpAny_isTrue_Compare1 (thn (ha L4 s σ H _ I h) λv s1 ⟨x,H1,I1,r1,q1⟩=>thn (hb L4 s1 σ H1 _ I1 q1) λu s2 ⟨y,H2,I2,r2,q2⟩ =>
  thn (ho L4 s2 σ H2 x y v u _ I2 r1 r2 q2) λc s3 ⟨z,H3,I3,r3,k,e,q3⟩=>?_) hm
 subst e;cases r3;exact Z4 #[H3,I3,q3]
def Bv(r r':R2)(ta tb tc:TE):TE:=λσ H Q=>ta σ H λx H1=>tb σ H1 λy H2=>r x y H2 λz H3=>∃k,z=.bl k /\
 (if k=true then tc σ H3 λw' H4=>r' y w' H4 Q else Q (.bl false) H3)
def C3{r r':R2}(ho:OpR X (compareOp op) r)(ho':OpR X (compareOp op') r')(ha:PE X a ta)(hb:PE X b tb)(hc:PE X c tc)(hm:lastMarks [op,op'] [b,c]=false:=by with_unfolding_all rfl):PT X (.Compare a [op,op'] [b,c] pos) (tD (Bv r r' ta tb tc)):=by
 intro L4 s σ H Q I h;refine isTrue_chain (thn (ha L4 s σ H _ I h) λv s1 ⟨x,H1,I1,r1,q1⟩=>test_link (thn (hb L4 s1 σ H1 _ I1 q1) λu s2 ⟨y,H2,I2,r2,q2⟩ =>
  thn (ho L4 s2 σ H2 x y v u _ I2 r1 r2 q2) λd s3 ⟨z,H3,I3,r3,k,e,q3⟩=>?_)) hm
 subst e;cases r3;refine Z4 ?_;cases k with
 |false =>exists[k',e',q'],q3;cases e';exact ite_ff #[H3,I3,q']
 |true =>refine ite_tt (test_last (thn (hc L4 s3 σ H3 _ I3 q3) λw' s4 ⟨z',H4,I4,r4,q4⟩=>thn (ho' L4 s4 σ H4 y z' u w' _ I4 r2 r4 q4) λd' s5 hz9=>?_));exists[z2,H5,I5,r5,k2,e2,q5],hz9;subst e2;cases r5;exact Z4 #[H5,I5,q5]
def uT:(sizeLine:Nat)<2^63:=by rw[sizeLine_eq];decide
def yK:OpR X (binaryOp .Add) (λx y H Q=>∃i j,x=.str i/\y=.str j/\i.length+j.length<=sizeLine/\Q (.str (i++j)) H):=by intro L4 s σ H x y v u Q I rx ry h;exists[i,j,rfl,rfl,hz,q],h;exists[t,rfl],rx;exists[t',rfl],ry;exact add_str (λt' tk=>#[.str (i++j),H,I.tok _,#[_,rfl],q]) hz
def bG(r:Vals [x] us):∃u,us=[u]/\RelV x u:=by
 cases r with
 |cons r1 r2=>cases r2;exact#[_,rfl,r1]
def fW(r:Vals [x,y] us):∃u w',us=[u,w']/\RelV x u/\RelV y w':=by
 cases r with
 |cons r1 r2 =>
  cases r2 with
  |cons r3 r4=>cases r4;exact#[_,_,rfl,r1,r3]
def zT(hc:X.calm=true):dR X (.builtin "max") (λxs H Q=>∃i j,xs=[.int i,.int j]/\Q (.int (if j>i then j else i)) H):=by
 intro L4 s σ H xs us Q I r h;exists[i,j,rfl,q],h;obtain⟨u,w',rfl,⟨t,rfl⟩,⟨t',rfl⟩⟩:=fW r;refine max_two_ints (I.ok.hd hc) λh' tk k=>#[_,H,I.kept k,?_,q]
 by_cases hj:j>i
 ·rw[LI hj,LI hj];exact#[_,rfl]
 ·rw[LH hj,LH hj];exact#[_,rfl]
def zR:dR X (.type "int") (λxs H Q=>(∃i,xs=[.int i]/\Q (.int i) H)\/∃k,xs=[.bl k]/\Q (.int (if k then 1 else 0)) H):=by
 intro L4 s σ H xs us Q I r h;rcases h with⟨i,rfl,q⟩|⟨k,rfl,q⟩
 ·exists[u,rfl,t,rfl],bG r;exact call_int_int #[.int i,H,I,#[_,rfl],q]
 ·exists[u,rfl,r1],bG r;cases r1;exact call_int_bool #[.int (if k then 1 else 0),H,I.tok _,#[_,rfl],q]
end
structure ObjM(h:Heap)(x dx C:LN)(mA:LL):Prop where
 obj:h.get? x=some (W.instObj C dx)
 ns:h.Ns1 dx mA
 ne:dx≠x
def AD{h:Heap}(n:h.Ns1 dx mA):∃od,h.get? dx=some od/\∀name,W.lookIn name od=some (mA name):=by
 exists[o,es,ep,ho,hd,hk,_,hm],n;refine#[o,ho,λname=>?_];have e:=hm name;unfold nsFind findBy at e;rw[<-Array.find?_toList]at e;unfold W.lookIn;rw[hd];dsimp only;split
 ·rename_i y q;rw[q]at e;exact ZN some e
 ·rename_i q;rw[q]at e;have a:es.toList.any (·.refKey)=false:=by rw[List.any_eq_false];intro y hy;exists[z,t,hkey],hk y (Ys.mp hy);simp[DictEntry.refKey,hkey]
  have a':¬es.toList.any (·.refKey)=true:=by rw[a];exact Zv
  rw[LH a'];exact ZN some e
def ObjM.look(I:ObjM h x dx C mA):∃od,W.InstAt h x (W.instObj C dx) C (some od)/\∀name,W.lookIn name od=some (mA name) :=
 let⟨od,ho,hl⟩:=AD I.ns
 #[od,#[I.obj,rfl,rfl,ho],hl]
section
variable{A:LV}{s:LO}{K:W.Frag}{C:LN}
def EM{Q:LK}(X:K.In s.heap)(I:ObjM s.heap x dx C mA)(hg:W.plainGet K C name=true)(hh:W.hasDictIn K C=true)(ha:W.findIn K (.ref C) name=some none)(hv:mA name=some v)(hv':W.handedIn v=true)(h:Q v { s with toks:=s.toks+1 }):
  wpAny (model prog w) A (getAttr (.ref x) name expr) Q E s:=by
 exists[od,J,hl],I.look;exact W.get_value X J (W.plainGet_of hg).1 (W.findObj_own hh ha rfl (by rw[hl,hv])) hv' h
def B8{pl:Sem Bool}{Q:LP×LM->LO->Prop}(X:K.In s.heap)(I:ObjM s.heap x dx C mA)(hg:W.plainGet K C name=true)(hf:W.findIn K (.ref C) name=some (some (.ref f)))(ht:W.isFn K (.ref f)=true)(hv:mA name=none)(h:Q (.ref f,[.ref x]) s) :
  wpAny (model prog w) A (getMethod (.ref x) name pl) Q E s:=by
 exists[od,J,hl],I.look;exact W.method_fn X J (W.plainGet_of hg).1 (W.plainGet_of hg).2 hf (YK.mp ht) (by show(W.lookIn name od).map (·.isSome)=some false;rw[hl,hv];rfl) h
def FX{Q:Unit->LO->Prop}(X:K.In s.heap)(I:ObjM s.heap x dx C mA)(hs:W.findIn K (.ref C) "__setattr__" = some (some (.builtin "object.__setattr__")))(hp:W.plainOver K C=true)(ht:W.takerIn K C name=some none)(hh:W.hasDictIn K C=true)(hw:PySem.Within mA ns)(hsz:ns.length<=sizeLine)(h:∀h',ObjM h' x dx C (λy=>if y=name then some v else mA y)->Heap.SameBut dx s.heap h'->Q () { s with heap:=h',toks:=s.toks+2 }):
  wpAny (model prog w) A (setAttr (.ref x) name v) Q E s:=by
 exists[od,J,hl],I.look;refine W.set_plain X J hs (W.osa_open (s:={ s with toks:=s.toks+1 }) (r:=none) X J hp ht λb=>?_);exists[cd,hc,hd'],W.any_some hh;have hx:s.heap.get? x=some #[.ref C,some dx,.plain,#[]]:=I.obj;refine z6 (Zb (z6 (z6 (wpAny_loadPart hx (z6 (W.Looks.here (s:={ s with toks:=s.toks+1 }) (W.looks_clsIn X hc) ?_))))));rw[hd'];refine Zb (a:=some dx) (z6 (Zb (z6 ?_)));refine wpAny_nsSet1 (s:={ s with toks:=s.toks+1 }) I.ns λh' hn2 hs2=>?_;exists[oD,esD,epD,hoD,hdD,hcD],hn2.count (PySem.Within.cons name v hw);refine z6 (wpAny_lookBehind hoD (by rw[hdD];exact pastItsLine_dict (Zt hcD (by rw[Zl];omega))) ?_);exact Zb (h _ #[(hs2.2 _ (y7 I.ne)).trans I.obj,hn2,I.ne] hs2)
def Cn(X:K.In s.heap)(hm:W.makesIn K C=true)(hi:W.findIn K (.ref C) "__init__" = some (some (.ref f)))(hf:W.typeIn K (.ref f)=some (.type "function"))(h:codeAny (model prog w) (A.under (.builtin "type.__call__" #[.ref C::vs,kw])) (.call (.ref f) #[.ref (s.heap.objs.size+1)::vs,kw]) (W.InitBack (s.heap.objs.size+1) R)
   { s with heap:=(s.heap.push W.emptyDict).push (W.instObj C s.heap.objs.size) }):
  codeAny (model prog w) A (.call (.ref C) #[vs,kw]) R s:=by
 exists[hh,g,d,t,os],s;exact W.make_core (W.makes_of X hm) (W.looks_findIn X hi) (λself=>W.bind_fn X self hf) (.inl rfl) h
end
def cQ(f:Str)(v:V):List (Str×V)->List (Str×V)
 | []=>[(f,v)]
 |(g,x)::r=>if g=f then(g,v)::r else(g,x)::cQ f v r
theorem bj(f g:Str)(v:V):∀fs:List (Str×V),(cQ f v fs).lookup g=if g=f then some v else fs.lookup g
 | []=>by
  show List.lookup g [(f,v)]=_;by_cases h:g=f
  ·have hb:(g==f)=true:=YK.mpr h;simp only[List.lookup,hb,LI h]
  ·have hb:(g==f)=false:=Yg.mpr h;simp only[List.lookup,hb,LH h]
 |(k,x)::r=>by
  have ih:=bj f g v r;rw[show cQ f v ((k,x)::r)=(if k=f then(k,v)::r else(k,x)::cQ f v r)from rfl];by_cases hk:k=f
  ·rw[LI hk];by_cases h:g=k
   ·have hb:(g==k)=true:=YK.mpr h;simp only[List.lookup,hb,LI (h.trans hk)]
   ·have hb:(g==k)=false:=Yg.mpr h;simp only[List.lookup,hb,LH (λe:g=f=>h (e.trans hk.symm))]
  ·rw[LH hk];by_cases h:g=k
   ·have hb:(g==k)=true:=YK.mpr h;simp only[List.lookup,hb,LH (λe:g=f=>hk (h.symm.trans e))]
   ·have hb:(g==k)=false:=Yg.mpr h;simp only[List.lookup,hb];exact ih
theorem kL(f:Str)(v:V):∀fs:List (Str×V),f∈(cQ f v fs).map (·.1)/\∀g,g∈fs.map (·.1)->g∈(cQ f v fs).map (·.1)
 | []=>#[by simp[cQ],λg h=>by simp at h]
 |(k,x)::r=>by
  exists[i1,i2],kL f v r;rw[show cQ f v ((k,x)::r)=(if k=f then(k,v)::r else(k,x)::cQ f v r)from rfl];by_cases hk:k=f
  ·rw[LI hk];subst hk;exact#[by simp,λg h=>by simpa using h]
  ·rw[LH hk];refine#[?_,λg h=>?_]
   ·rw[Zs];exact Zn _ i1
   ·rw[Zs]at h ⊢;rcases Zf.mp h with e|e
    ·exact Zf.mpr (.inl e)
    ·exact Zn _ (i2 g e)
theorem nj(f:Str)(v:V):∀fs:List (Str×V),(cQ f v fs).length<=fs.length+1
 | []=>by simp[cQ]
 |(k,x)::r=>by
  have ih:=nj f v r;rw[show cQ f v ((k,x)::r)=(if k=f then(k,v)::r else(k,x)::cQ f v r)from rfl];by_cases hk:k=f
  ·rw[LI hk,Zl,Zl];omega
  ·rw[LH hk,Zl,Zl];omega
def RelO.some_of(r:RelO (some v) o):∃u,o=some u/\RelV v u:=by
 cases o with
 |none=>exact(show False from r).elim
 |some u=>exact#[u,rfl,r]
def RelO.none_of(r:RelO none o):o=none:=by
 cases o with
 |none=>rfl
 |some u=>exact(show False from r).elim
def Am(r:RelV v u):W.handedIn u=true:=by
 cases v with
 |non=>cases(show u=Value.none from r);rfl
 |bl b=>cases(show u=Value.bool b from r);rfl
 |int i=>exists[t,e],(show∃t,u=Value.int i t from r);cases e;rfl
 |str x=>exists[t,e],(show∃t,u=Value.str x t from r);cases e;rfl
 |byt b=>exists[t,e],(show∃t,u=Value.bytes b t from r);cases e;rfl
 |flt b=>exists[t,e],(show∃t,u=Value.float b t from r);cases e;rfl
 |ref a=>cases(show u=Value.ref a from r);rfl
 |ty n=>cases(show u=Value.type n from r);rfl
section
variable{fs:List (Str×V)}
def mj(hok:HOk P w H h)(e:H a=some (.ins C dx fs)):∃mA,ObjM h a dx C mA/\(∀f,RelO (fs.lookup f) (mA f))/\PySem.Within mA (fs.map (·.1))/\fs.length<=1000/\H dx=some (.own a):=by
 exists[d,z,ne,ob,mA,n,r,q],(show ObjOk P w H h a (.ins C dx fs)from hok a _ e)
 exact#[mA,#[ob,n,ne],r,q,z,d]
end
structure Cls(K:W.Frag)(C:LN):Prop where
 pg:W.plainGet K C Str.empty=true
 hd:W.hasDictIn K C=true
 po:W.plainOver K C=true
 sa:W.findIn K (.ref C) "__setattr__" = some (some (.builtin "object.__setattr__"))
def Cls.get{K:W.Frag}(c:Cls K C)(f:Str):W.plainGet K C f=true:=c.pg
def NoAttr(K:W.Frag)(C:LN)(f:Str):Prop:=W.findIn K (.ref C) f=some none
def NoAttr.taker{K:W.Frag}(n:NoAttr K C f):W.takerIn K C f=some none:=by unfold W.takerIn;rw[show W.findIn K (.ref C) f=some none from n];rfl
structure Con(K:W.Frag)(C:LN)(f:Str)(v:V)(u:LP):Prop where
 at_:W.findIn K (.ref C) f=some (some u)
 rel:RelV v u
 get:W.specialIn K u "__get__" = some none
 cp:W.copiedNames.contains f=false
structure Meth(K:W.Frag)(C:LN)(m:Str)(f:LN):Prop where
 at_:W.findIn K (.ref C) m=some (some (.ref f))
 fn:W.isFn K (.ref f)=true
 kp:W.keepIn K (.ref f)=true
section
variable{s:LO}{fs:List (Str×V)}{f:Str}
def oT{Q:LK}(I:Inv X L4 σ H s)(e:H a=some (.ins C dx fs))(c:Cls X.K C)(n:NoAttr X.K C f)(l:fs.lookup f=some v)(h:∀u s',Inv X L4 σ H s'->RelV v u->Q u s'):wpAny (model X.prog X.w) A (getAttr (.ref a) f b) Q E s:=by exists[mA,O,r,_,_,_],mj I.hok e;exists[u,hu,ru],RelO.some_of (v:=v) (o:=mA f) (by rw[<-l];exact r f);exact EM I.kIn O (c.get f) c.hd n hu (Am ru) (h u _ (I.tok _) ru)
def oU{pl:Sem Bool}{Q:LP×LM->LO->Prop}(I:Inv X L4 σ H s)(e:H a=some (.ins C dx fs))(c:Cls X.K C)(k:Meth X.K C m g)(l:fs.lookup m=none)(h:Q (.ref g,[.ref a]) s):wpAny (model X.prog X.w) A (getMethod (.ref a) m pl) Q E s:=by exists[mA,O,r,_,_,_],mj I.hok e;have hn:mA m=none:=RelO.none_of (by rw[<-l];exact r m);exact B8 I.kIn O (c.get m) k.at_ k.fn hn h
def pR{Q:Unit->LO->Prop}(I:Inv X L4 σ H s)(e:H a=some (.ins C dx fs))(c:Cls X.K C)(n:NoAttr X.K C f)(hl:fs.length<1000)(ry:RelV y u)(h:∀s',Inv X L4 σ (upd H a (.ins C dx (cQ f y fs))) s'->Q () s'):wpAny (model X.prog X.w) A (setAttr (.ref a) f u) Q E s:=by
 exists[mA,O,r,wi,_,ho],mj I.hok e;have hz:(fs.map (·.1)).length<=sizeLine:=by rw[Zd,sizeLine_eq];omega
 refine FX I.kIn O c.sa c.po n.taker c.hd wi hz λh' O' sb=>h _ ?_;have hd:∃o,h'.get? dx=some o:=let⟨o,_,_,e',_⟩:=O'.ns;#[o,e']
 refine I.write (x:=a) (e:=dx) (by rw[e];exact True.intro) (.inr ho) (λb q hb z=>(sb.2 b hb).trans z) hd ?_;refine#[by rw[ag O.ne];exact ho,?_,O.ne,O'.obj,_,O'.ns,λg=>?_,λg hg=>?_]
 ·have:=nj f y fs;omega
 ·show RelO ((cQ f y fs).lookup g) (if g=f then some u else mA g);rw[bj];by_cases q:g=f
  ·rw[LI q,LI q];exact ry
  ·rw[LH q,LH q];exact r g
 ·by_cases q:g=f
  ·rw[q];exact(kL f y fs).1
  ·refine(kL f y fs).2 g (wi g λz=>hg ?_);show(if g=f then some u else mA g)=none;rw[LH q];exact z
def Inv.made(I:Inv X L4 σ H s):Inv X L4 σ (upd (upd H s.heap.objs.size (.own (s.heap.objs.size+1))) (s.heap.objs.size+1) (.ins C s.heap.objs.size []))
  { s with heap:=(s.heap.push W.emptyDict).push (W.instObj C s.heap.objs.size) }:=by
 have e1:(s.heap.push W.emptyDict).get? s.heap.objs.size=some W.emptyDict:=Zk s.heap rfl;have e2:((s.heap.push W.emptyDict).push (W.instObj C s.heap.objs.size)).get? (s.heap.objs.size+1)=some (W.instObj C s.heap.objs.size):=by
  have:=Zk (s.heap.push W.emptyDict) (o:=W.instObj C s.heap.objs.size) rfl
  rwa [Yz]at this
 have e3:(s.heap.push W.emptyDict).Ns s.heap.objs.size (λ_=>none):=#[W.emptyDict,#[],_,e1,rfl,(λe he=>absurd he (by simp)),λ_=>rfl]
 have I1:=I.laid (a:=s.heap.objs.size) (o:=.own (s.heap.objs.size+1)) (h':=s.heap.push W.emptyDict) (t':=s.toks) (λb u q=>Za _ q) (Ze _) #[_,e1];refine I1.laid (a:=s.heap.objs.size+1) (o:=.ins C s.heap.objs.size []) (t':=s.toks) (λb u q=>Za _ q) (Nat.le_of_eq (Yz _ _)) ?_;have ne:s.heap.objs.size≠s.heap.objs.size+1:=Zx (Yd _);refine#[by rw[ag ne,ac],Zy _,ne,e2,λ_=>none,(Heap.Ns1.of_empty e3).at λo q=>Za _ q,λ_=>True.intro,λy hy=>absurd rfl hy]
def EA{w:LU}{f:Str}{s:LO}(hb:attributeBase e f env (eval e env)=eval e env)(h:wpAny (model prog w) A (eval e env) (λo s₁=>wpAny (model prog w) A (getAttr o f true) Q E s₁) E s):wpAny (model prog w) A (eval (.Attribute e f pos) env) Q E s :=
 Attribute_any_ h (by rw[arm_eval_Attribute,hb])
end
def Dv(K:W.Frag)(ta:TE)(f:Str):TE:=λσ H Q=>ta σ H λx H1=>∃a C dx fs v,x=.ref a/\H1 a=some (.ins C dx fs)/\Cls K C/\NoAttr K C f/\fs.lookup f=some v/\Q v H1
def Iw(K:W.Frag)(ta tv:TE)(f:Str):TS:=λD σ H=>tv σ H λy H1=>ta σ H1 λx H2=>∃a C dx fs,x=.ref a/\H2 a=some (.ins C dx fs)/\Cls K C/\NoAttr K C f/\fs.length<1000 /\
 D.nx σ (upd H2 a (.ins C dx (cQ f y fs)))
def BO(X:Cx)(op:Operator)(rd:V->V->Hp->VK->Prop):Prop :=
 ∀(L4:LJ) (s:LO) (σ:St) (H:Hp) (x y:V) (u v:LP) (Q:VK),Inv X L4 σ H s->RelV x u->RelV y v->rd x y H Q->wpAny (model X.prog X.w) X.A (inplaceOp op u v) (EP X L4 σ Q) X.xe s
def xB(K:W.Frag)(ta tv:TE)(rd:V->V->Hp->VK->Prop)(f:Str):TS:=λD σ H=>ta σ H λx H1=>∃a C dx fs v,x=.ref a/\H1 a=some (.ins C dx fs)/\Cls K C/\NoAttr K C f/\fs.lookup f=some v /\
 tv σ H1 λy H2=>rd v y H2 λz H3=>∃dx' fs',H3 a=some (.ins C dx' fs')/\fs'.length<1000/\D.nx σ (upd H3 a (.ins C dx' (cQ f z fs')))
section
variable{pos:Pos}
def HI(he:PE X e ta)(hb:attributeBase e f X.env (eval e X.env)=eval e X.env):PE X (.Attribute e f pos) (Dv X.K ta f):=by intro L4 s σ H Q I h;refine EA hb (thn (he L4 s σ H _ I h) λu s1 hz9=>?_);exists[x,H1,I1,rx,a,C,dx,fs,v,ex,ea,c,n,l,q],hz9;subst ex;obtain rfl:u=Value.ref a:=rx;exact oT I1 ea c n l λu' s2 I2 ru=>#[v,H1,I2,ru,q]
def HZ(ha:PE X o ta)(hv:PE X value tv)(hs:swapsWith value (some (.Attribute o f pos')) pos.line X.env=pure false):PS X (.Assign [.Attribute o f pos'] value pos) (Iw X.K ta tv f):=by intro L4 s σ H D I h;refine plainObj_wpAny_Assign_Attribute (thn (hv L4 s σ H _ I h) λu s1 ⟨y,H1,I1,ry,q⟩=>thn (ha L4 s1 σ H1 _ I1 q) λov s2 hz9=>?_) hs;exists[x,H2,I2,rx,a,C,dx,fs,ex,ea,c,n,l,q2],hz9;subst ex;obtain rfl:ov=Value.ref a:=rx;exact pR I2 ea c n l ry λs3 I3=>#[σ,_,I3,q2]
def Bc(ha:PE X o ta)(hv:PE X value tv)(hop:BO X op rd):PS X (.AugAssign (.Attribute o f tpos) op value pos) (xB X.K ta tv rd f):=by intro L4 s σ H D I h;refine wpAny_AugAssign_AttributeAny (thn (ha L4 s σ H _ I h) λov s1 hz9=>?_);exists[x,H1,I1,rx,a,C,dx,fs,v,ex,ea,c,n,l,q],hz9;subst ex;obtain rfl:ov=Value.ref a:=rx;refine oT I1 ea c n l λu s2 I2 ru=>thn (hv L4 s2 σ H1 _ I2 q) λw3 s3 ⟨y,H2,I3,ry,q3⟩=>thn (hop L4 s3 σ H2 v y u w3 _ I3 ru ry q3) λw4 s4 hz9=>?_;exists[z,H3,I4,rz,dx',fs',ea',l',q4],hz9;exact pR I4 ea' c n l' rz λs5 I5=>#[σ,_,I5,q4]
def J2:V->V->Hp->VK->Prop:=λx y H Q=>∃i j,x=.int i/\y=.int j/\Q (.int (i+j)) H
def GR:BO X .Add J2:=by
 rintro L4 s σ H x y u v Q I rx ry ⟨i,j,rfl,rfl,q⟩;exists[t,rfl],(show∃t,u=Value.int i t from rx)
 exists[t',rfl],(show∃t',v=Value.int j t' from ry)
 exact PyProof.Rows.iadd_int #[.int (i+j),H,I.tok _,#[_,rfl],q]
end
section
variable{H:Hp}{s:LO}{Q:LK}
inductive TyOf(K:W.Frag)(H:Hp):V->LP->Prop where
 |non:TyOf K H .non (.type "NoneType")
 |bl (x:Bool):TyOf K H (.bl x) (.type "bool")
 |int (i:Int):TyOf K H (.int i) (.type "int")
 |str (x:Str):TyOf K H (.str x) (.type "str")
 |flt (x:UInt64):TyOf K H (.flt x) (.type "float")
 |lst {a:LN} {xs:List V} (e:H a=some (.lst xs)):TyOf K H (.ref a) (.type "list")
 |frz {a:LN} {o:Obj} {xs:List V} (e:H a=some (.frz o (.lst xs))):TyOf K H (.ref a) (.type "list")
 |tup {a:LN} {xs:List V} (e:H a=some (.tup xs)):TyOf K H (.ref a) (.type "tuple")
 |dK {a:LN} {kvs:List (Key×V)} (e:H a=some (.dK kvs)):TyOf K H (.ref a) (.type "dict")
 |dT {a:LN} {kvs:List (List Key×V)} (e:H a=some (.dT kvs)):TyOf K H (.ref a) (.type "dict")
 |ins {a C dx:LN} {fs:List (Str×V)} (e:H a=some (.ins C dx fs)) (cl:Cls K C) (ha:W.findIn K (.ref C) "__class__" = some (some (.builtin "object.__class__")))
   (hn:W.specialIn K (.builtin "object.__class__") "__get__" = some (some (.builtin "getset_descriptor.__get__"))) (htk:W.takesIn K (.builtin "object.__class__")=some true)
   (hm:W.mroIn K C (.type "object")=some true):TyOf K H (.ref a) (.ref C)
def Aq{u t:LP}(I:Inv X L4 σ H s)(rx:RelV x u)(ty:TyOf X.K H x t)(e:W.kitOne X.K t c=some b)(h:∀tk,Q (.bool b) { s with toks:=tk }):
  wpAny (model X.prog X.w) A (call (.builtin "isinstance") [u,c]) Q E s:=by
 cases ty with
 |non=>cases(show u=Value.none from rx);exact Yn W.kitx_none I.kIn True.intro e nofun h
 |bl y=>cases(show u=Value.bool y from rx);exact Yn W.kitx_bool I.kIn True.intro e nofun h
 |int i=>exists[t,q],(show∃t,u=Value.int i t from rx);cases q;exact Yn W.kitx_int I.kIn True.intro e nofun h
 |str y=>exists[t,q],(show∃t,u=Value.str y t from rx);cases q;exact Yn W.kitx_str I.kIn True.intro e nofun h
 |flt y=>exists[t,q],(show∃t,u=Value.float y t from rx);cases q;exact Yn W.kitx_float I.kIn True.intro e nofun h
 |@lst a xs ea =>
  cases(show u=Value.ref a from rx);exists[_,_,n,_,h1],(show ObjOk X.prog X.w H s.heap a (.lst xs)from I.hok a _ ea)
  exact Yn W.kitx_list I.kIn #[_,h1,rfl] e nofun h
 |@frz a ob xs ea =>
  cases(show u=Value.ref a from rx);exists[_,_,_,n,_,h1],(show ObjOk X.prog X.w H s.heap a (.frz ob (.lst xs))from I.hok a _ ea)
  exact Yn W.kitx_list I.kIn #[_,h1,rfl] e nofun h
 |@tup a xs ea =>
  cases(show u=Value.ref a from rx);exists[_,_,_,p],(show ObjOk X.prog X.w H s.heap a (.tup xs)from I.hok a _ ea)
  exists[o,h1,h2,_],p;exact Yn W.kitx_tuple I.kIn #[o,h1,h2] e nofun h
 |@dK a kvs ea =>
  cases(show u=Value.ref a from rx);exists[_,_,vs,_,p],(show ObjOk X.prog X.w H s.heap a (.dK kvs)from I.hok a _ ea)
  exists[o,es,ep,h1,h2,_],p;exact Yn W.kitx_dict I.kIn #[o,h1,h2.1] e nofun h
 |@dT a kvs ea =>
  cases(show u=Value.ref a from rx);exists[_,_,xs,_,o,es,ep,h1,h2,_],(show ObjOk X.prog X.w H s.heap a (.dT kvs)from I.hok a _ ea)
  exact Yn W.kitx_dict I.kIn #[o,h1,h2.1] e nofun h
 |@ins a C dx fs ea cl ha hn htk hm =>cases(show u=Value.ref a from rx);exists[mA,O,_],mj I.hok ea;exists[od,J,_],O.look;exact Yn (W.kitx_own (cl.get _) cl.hd ha hn htk hm) I.kIn J e nofun h
end
structure Room(k:Nat)(A:LV):Prop where
 hd:A.handled=none
 dp:A.depth+3*k+5<recursionLimit
 un:A.units+16*k+200<cLine
def Room.mono{j k:Nat}(r:Room k A)(h:j<=k):Room j A:=#[r.hd,by have:=r.dp;omega,by have:=r.un;omega]
def Room.deeper{k:Nat}(r:Room (k+1) A)(env:Env):Room k (A.deeper env) :=
 #[r.hd,by have:=r.dp;show A.depth+1+3*k+5<_;omega,by have:=r.un;show A.units+3+16*k+200<_;omega]
def Room.in1{k:Nat}(r:Room (k+1) A):Room k A.in1 :=
 #[r.hd,by have:=r.dp;show A.depth+3*k+5<_;omega,by have:=r.un;show A.units+1+16*k+200<_;omega]
def yr{A:LV}:(A.under (.builtin "type.__call__" #[.ref C::us,kw])).depth=A.depth+1:=by
 first|rfl|simp[Around.under,Code.weight,Code.isCreation,Code.isGuard,Code.isCaller,Code.frames,Code.isFrame,guardIds]
def yt{A:LV}:(A.under (.builtin "type.__call__" #[.ref C::us,kw])).units=A.units+1:=by
 first|rfl|simp[Around.under,Code.cUnits,Code.frames,Code.isFrame]
def Room.make{k:Nat}(r:Room (k+1) A)(C:LN)(us:LM)(kw:List (Str×LP)):Room k (A.under (.builtin "type.__call__" #[.ref C::us,kw])) :=
 #[r.hd,by have:=r.dp;rw[yr];omega,by have:=r.un;rw[yt];omega]
def Room.depth{k:Nat}(r:Room k A):A.depth<recursionLimit:=by have:=r.dp;omega
def Room.units{k:Nat}(r:Room k A):A.units+64<cLine:=by have:=r.un;omega
def dP:TA:=λ_ H Q=>Q [] H
def dA(ta:TE)(tr:TA):TA:=λσ H Q=>ta σ H λx H1=>tr σ H1 λxs H2=>Q (x::xs) H2
section
variable{e:L3}{t:TA}
def gU:PA X [] dP:=λ_ _ _ _ H Q I h=>Calls.spliced_nil #[[],H,I,.nil,h]
def mG(ha:PE X e te)(hr:PA X es t)(hs:starEach (e::es) X.env=(false,eval e X.env)::starEach es X.env:=by rfl):PA X (e::es) (dA te t):=by intro pos L4 s σ H Q I h;rw[hs];show wpAny _ _ (spliced ((false,eval e X.env)::backTo pos (starEach es X.env))) _ _ s;refine Y4 (thn (ha L4 s σ H _ I h) λu s1 hz9=>?_);exists[x,H1,I1,r1,q1],hz9;exact thn (hr pos L4 s1 σ H1 _ I1 q1) λus s2 ⟨xs,H2,I2,r2,q2⟩=>#[x::xs,H2,I2,.cons r1 r2,q2]
def IJ(t:TA):TE:=λσ H Q=>t σ H λxs H1=>xs.length<=sizeLine/\∀p,H1 p=none->Q (.ref p) (upd H1 p (.tup xs))
def IF(t:TA):TE:=λσ H Q=>t σ H λxs H1=>xs.length<=sizeLine/\∀p,H1 p=none->Q (.ref p) (upd H1 p (.lst xs))
def HQ{x1}(h:PA X es t):PE X (.Tuple es x1 pos) (IJ t):=by intro L4 s σ H Q I hq;refine wpAny_Tuple_spliced (thn (h pos L4 s σ H _ I hq) λus s1 ⟨xs,H1,I1,r,z,q⟩=>#[by rw[<-r.length];exact z,?_]);have hf:H1 s1.heap.objs.size=none:=I1.hok.fresh (Ze _);refine#[.ref s1.heap.objs.size,upd H1 s1.heap.objs.size (.tup xs),I1.laid (t':=s1.toks) (λb u e=>Za _ e) (Ze _) ?_,rfl,q _ hf];exact#[z,us,r,#[_,Zk _ rfl,rfl,_,rfl]]
def HK(h:PA X es t):PE X (.List es pos) (IF t):=by intro L4 s σ H Q I hq;refine wpAny_List_spliced (thn (h pos L4 s σ H _ I hq) λus s1 ⟨xs,H1,I1,r,z,q⟩=>#[by rw[<-r.length];exact z,?_]);have hf:H1 s1.heap.objs.size=none:=I1.hok.fresh (Ze _);refine#[.ref s1.heap.objs.size,upd H1 s1.heap.objs.size (.lst xs),I1.laid (t':=s1.toks) (λb u e=>Za _ e) (Ze _) ?_,rfl,q _ hf];exact#[z,us,0,r,Zk _ rfl]
end
abbrev Sp:=List V->Hp->VK->XK->Prop
abbrev CXT:=List Env->Hp->LO->XK->LP->LO->Prop
structure Env0(P:LQ)(w:LU)(K:W.Frag)(mg:LL)(base:Heap)(A:LV)(outer:List Env)(s:LO)(H:Hp):Prop where
 frames:A.frames=some outer
 mod:Mod K mg base
 bs:∀b o,base.get? b=some o->s.heap.get? b=some o/\H b=none
 bsz:base.objs.size<=s.heap.objs.size
 funs:s.heap.FunFrames base outer
 frf:∀b∈frs outer,H b=none
 hok:HOk P w H s.heap
 bare:AllBare s.gens
def CE(outer:List Env)(P:LQ)(w:LU)(H:Hp)(s:LO)(Q:VK)(u:LP)(s':LO):Prop :=
 ∃v H',s'.os=s.os/\AllBare s'.gens/\Un (frs outer) [] H H' s.heap s'.heap/\HOk P w H' s'.heap/\RelV v u/\Q v H'
def CR(CX:CXT)(outer:List Env)(P:LQ)(w:LU)(H:Hp)(s:LO)(Q:VK)(E:XK)(r:Result)(s':LO):Prop :=
 match r with
 |.ok (.ret u)=>CE outer P w H s Q u s'
 |.ok _=>False
 |.error e=>CX outer H s E e s'
structure FnOk(P:LQ)(w:LU)(K:W.Frag)(mg:LL)(base:Heap)(CX:CXT)(k:Nat)(f:LN)(fd:LW)(ps:List Str)(sp:Sp):Prop where
 len:∀vs H Q E,sp vs H Q E->vs.length=ps.length
 run:∀(A:LV) (outer:List Env) (s:LO) (H:Hp) (args:Args) (us:LM) (vs:List V) (Q:VK) (E:XK),Room k A->Env0 P w K mg base A outer s H->BindsTo s fd args (ps.zip us)->Vals vs us->sp vs H Q E ->
  codeAny (model P w) A (.call (.ref f) args) (CR CX outer P w H s Q E) s
def Env0.make{w:LU}{K:W.Frag}(e:↑Env0 A outer s H)(C:LN)(us:LM)(kw:List (Str×LP)):
  Env0 P w K mg base (A.under (.builtin "type.__call__" #[.ref C::us,kw])) outer s H:=#[by first|exact e.frames|(simpa[Around.under,Code.envs,Code.isFrame,pushEnvs]using e.frames),e.mod,e.bs,e.bsz,e.funs,e.frf,e.hok,e.bare]
section
def Inv.env0(I:Inv X L4 σ H s):Env0 X.prog X.w X.K X.mg X.base X.A X.stack s H :=
 #[I.ok.frames,I.ok.mod,I.bs,Zt I.ok.bsz I.sz,I.stack,I.stkFree,I.hok,I.bare]
def Inv.after(I:Inv X L4 σ H s)(h:CE X.stack X.prog X.w H s Q u s'):EP X L4 σ Q u s':=by exists[v,H',os,bare,un,hok,r,q],h;exists[hh,g,d,t,os'],s';obtain rfl:os'=s.os:=os;exact#[v,H',I.call (h':=hh) (g':=g) (d':=d) (t':=t) (ch:=[]) un hok bare (λb z=>absurd z (by simp)),r,q]
end
def sZ(sp:Sp)(dvs:List V)(E:XK)(t:TA):TE:=λσ H Q=>t σ H λvs H1=>sp (vs++dvs) H1 Q E
inductive IsM(C:LN)(m:Str)(x:V)(H:Hp)(R:Prop):Prop
 |mk (a dx:LN) (fs:List (Str×V)) (h0:x=.ref a) (h1:H a=some (.ins C dx fs)) (h2:fs.lookup m=none) (q:R):IsM C m x H R
def tz(C:LN)(m:Str)(sp:Sp)(dvs:List V)(E:XK)(ta:TE)(t:TA):TE:=λσ H Q=>ta σ H λx H1=>IsM C m x H1 (t σ H1 λvs H2=>sp (x::(vs++dvs)) H2 Q E)
def tm(C:LN)(sp:Sp)(dvs:List V)(E:XK)(t:TA):TE:=λσ H Q=>t σ H λvs H1=>∀x dx,H1 x=none->H1 dx=none->dx≠x ->
 sp (.ref x::(vs++dvs)) (upd (upd H1 dx (.own x)) x (.ins C dx [])) (λv H2=>v=.non/\Q (.ref x) H2) E
def Binds(K:W.Frag)(fd:LW)(ps:List Str)(ds:LM):Prop :=
 ∀(s:LO) (us:LM),K.In s.heap->(us++ds).length=ps.length->BindsTo s fd #[us,[]] (ps.zip (us++ds))
def Binds.all{K:W.Frag}{ps:List Str}(h:∀us:LM,us.length=ps.length->bindArgs fd #[us,[]]=pure (ps.zip us)):Binds K fd ps []:=λs us _ hl=>by rw[YL]at hl ⊢;exact .of_eq (h us hl)
def fY(CX:CXT)(X:Cx)(E:XK):Prop:=∀(L4:LJ) (σ:St) (H:Hp) (s:LO) (e:LP) (s':LO),Inv X L4 σ H s->CX X.stack H s E e s'->X.xe e s'
section
variable{X:Cx}{k:Nat}{f C:LN}{x:Str}{e:L3}{t:TA}
def vB(F:FnOk X.prog X.w X.K X.mg X.base CX k f fd ps sp)(hr:Room k X.A)(hb:Binds X.K fd ps ds)(hd:Vals dvs ds)(hx:fY CX X E)(I:Inv X L4 σ H s)(r:Vals vs us)(h:sp (vs++dvs) H Q E):wpAny (model X.prog X.w) X.A (call (.ref f) us) (EP X L4 σ Q) X.xe s:=by
 have r2:Vals (vs++dvs) (us++ds):=r.append hd;have hl:(us++ds).length=ps.length:=by rw[<-r2.length];exact F.len _ _ _ _ h
 refine wpAny_call (codeAny_mono (F.run X.A X.stack s H #[us,[]] (us++ds) (vs++dvs) Q E hr I.env0 (hb s us I.kIn hl) r2 h) λr s' hq=>?_);cases r with
 |error e=>exact hx L4 σ H s e s' I hq
 |ok fl =>
  cases fl with
  |ret u=>exact I.after hq
  |next=>exact False.elim hq
  |brk=>exact False.elim hq
  |cont=>exact False.elim hq
def Fj(F:FnOk X.prog X.w X.K X.mg X.base CX k f fd ps sp)(hr:Room k X.A)(hg:Gl X x)(hm:X.mg x=some (.ref f))(hk:W.keepIn X.K (.ref f)=true)(hb:Binds X.K fd ps ds)(hd:Vals dvs ds)(hx:fY CX X E)(ha:PA X (e::es) t)(hdb:(x==("__debug__":Str))=false:=by decide)(he:starEach (e::es) X.env=(false,eval e X.env)::starEach es X.env:=by rfl)(hpl:(backTo pos (starEach es X.env)).any (·.1)=false:=by rfl) :
  PE X (.Call (.Name x p) (e::es) [] pos) (sZ sp dvs E t):=by
 intro L4 s σ H Q I h;refine Ya (mz I hg hm ?_ hdb);refine W.callWith_K (h₀:=X.base) I.ok.mod.kin hk (thn (ha pos L4 s σ H _ I h) λus s1 ⟨vs,H1,I1,r,q⟩=>#[I1.kIn,?_]) he hpl;exact vB F hr hb hd hx I1 r q
def Ft{pl:Sem Bool}(he:PE X o ta)(c:Cls X.K C)(hm:Meth X.K C m f)(F:FnOk X.prog X.w X.K X.mg X.base CX k f fd ps sp)(hr:Room k X.A)(hb:Binds X.K fd ps ds)(hd:Vals dvs ds)(hx:fY CX X E)(ha:PA X (e::es) t)(hst:starEach (e::es) X.env=(false,eval e X.env)::starEach es X.env:=by rfl)(hpl:(backTo pos (starEach es X.env)).any (·.1)=false:=by rfl)(ht:eval (.Call (.Attribute o m apos) (e::es) [] pos) X.env=(do
   let ov ←eval o X.env
   standAt apos.atName
   let(f,first) ←holding [ov] (getMethod ov m pl)
   callWith pos f first (backTo pos (starEach (e::es) X.env)) (backToKw pos (keywordEach [] X.env))):=by rfl) :
  PE X (.Call (.Attribute o m apos) (e::es) [] pos) (tz C m sp dvs E ta t):=by
 intro L4 s σ H Q I h;refine W.methodCall_KW (pl:=pl) (thn (he L4 s σ H _ I h) λu s1 hz9=>?_) ht;exists[x,H1,I1,rx,a,dx,fs,ex,ea,l,q],hz9;subst ex;obtain rfl:u=Value.ref a:=rx;refine oU I1 ea c hm l ?_;refine W.callWith_K (first:=[.ref a]) (h₀:=X.base) I.ok.mod.kin hm.kp (thn (ha pos L4 s1 σ H1 _ I1 q) λus s2 ⟨vs,H2,I2,r,q2⟩=>#[I2.kIn,?_]) hst hpl;exact vB (us:=.ref a::us) (vs:=.ref a::vs) F hr hb hd hx I2 (.cons rfl r) q2
def CN{pl:Sem Bool}(he:PE X o ta)(c:Cls X.K C)(hm:Meth X.K C m f)(F:FnOk X.prog X.w X.K X.mg X.base CX k f fd ps sp)(hr:Room k X.A)(hb:Binds X.K fd ps ds)(hd:Vals dvs ds)(hx:fY CX X E)(ht:eval (.Call (.Attribute o m apos) [] [] pos) X.env=(do
   let ov ←eval o X.env
   standAt apos.atName
   let(f,first) ←holding [ov] (getMethod ov m pl)
   callWith pos f first (backTo pos (starEach [] X.env)) (backToKw pos (keywordEach [] X.env))):=by rfl) :
  PE X (.Call (.Attribute o m apos) [] [] pos) (tz C m sp dvs E ta dP):=by
 intro L4 s σ H Q I h;refine W.methodCall_KW (pl:=pl) (thn (he L4 s σ H _ I h) λu s1 hz9=>?_) ht;exists[x,H1,I1,rx,a,dx,fs,ex,ea,l,q],hz9;subst ex;obtain rfl:u=Value.ref a:=rx;refine oU I1 ea c hm l ?_;exact W.callWith_K0 (first:=[.ref a]) I1.kIn hm.kp (vB (us:=[.ref a]) (vs:=[.ref a]) F hr hb hd hx I1 (.cons rfl .nil) q)
structure Mk(K:W.Frag)(C f:LN):Prop where
 makes:W.makesIn K C=true
 init:W.findIn K (.ref C) "__init__" = some (some (.ref f))
 fn:W.isFn K (.ref f)=true
 kp:W.keepIn K (.ref C)=true
def vC{Q:VK}(M:Mk X.K C f)(F:FnOk X.prog X.w X.K X.mg X.base CX k f fd ps sp)(hr:Room (k+1) X.A)(hb:Binds X.K fd ps ds)(hd:Vals dvs ds)(hx:fY CX X E)(I:Inv X L4 σ H s)(r:Vals vs us)(h:∀x dx,H x=none->H dx=none->dx≠x->sp (.ref x::(vs++dvs)) (upd (upd H dx (.own x)) x (.ins C dx [])) (λv H2=>v=.non/\Q (.ref x) H2) E):
  wpAny (model X.prog X.w) X.A (call (.ref C) us) (EP X L4 σ Q) X.xe s:=by
 have hq:=h (s.heap.objs.size+1) s.heap.objs.size (I.hok.fresh (YA _)) (I.hok.fresh (Ze _)) (Zx (Yd _));have I2:=Inv.made (C:=C) I;have r2:Vals (V.ref (s.heap.objs.size+1)::(vs++dvs)) (Value.ref (s.heap.objs.size+1)::(us++ds)):=.cons rfl (r.append hd);have hl:(Value.ref (s.heap.objs.size+1)::us++ds).length=ps.length:=by have e:=r2.length;rw[F.len _ _ _ _ hq]at e;exact e.symm
 refine wpAny_call (Cn (f:=f) I.kIn M.makes M.init (YK.mp M.fn) (codeAny_mono (F.run _ X.stack _ _ #[Value.ref (s.heap.objs.size+1)::us,[]] (Value.ref (s.heap.objs.size+1)::(us++ds)) _ _ E (hr.make C us [])
  (I2.env0.make C us []) (hb _ (Value.ref (s.heap.objs.size+1)::us) I2.kIn hl) r2 hq) λr s' hq'=>?_))
 cases r with
 |error e=>exact hx L4 σ _ _ e s' I2 hq'
 |ok fl =>
  cases fl with
  |ret u =>exists[v,H',I3,rv,ev,q3],I2.after hq';subst ev;exact#[rv,#[V.ref (s.heap.objs.size+1),H',I3,rfl,q3]]
  |next=>exact False.elim hq'
  |brk=>exact False.elim hq'
  |cont=>exact False.elim hq'
def Fs(M:Mk X.K C f)(F:FnOk X.prog X.w X.K X.mg X.base CX k f fd ps sp)(hr:Room (k+1) X.A)(hg:Gl X x)(hm:X.mg x=some (.ref C))(hb:Binds X.K fd ps ds)(hd:Vals dvs ds)(hx:fY CX X E)(ha:PA X (e::es) t)(hdb:(x==("__debug__":Str))=false:=by decide)(he:starEach (e::es) X.env=(false,eval e X.env)::starEach es X.env:=by rfl)(hpl:(backTo pos (starEach es X.env)).any (·.1)=false:=by rfl) :
  PE X (.Call (.Name x p) (e::es) [] pos) (tm C sp dvs E t):=by
 intro L4 s σ H Q I h;refine Ya (mz I hg hm ?_ hdb);refine W.callWith_K (h₀:=X.base) I.ok.mod.kin M.kp (thn (ha pos L4 s σ H _ I h) λus s1 ⟨vs,H1,I1,r,q⟩=>#[I1.kIn,?_]) he hpl;exact vC M F hr hb hd hx I1 r q
def CM(M:Mk X.K C f)(F:FnOk X.prog X.w X.K X.mg X.base CX k f fd ps sp)(hr:Room (k+1) X.A)(hg:Gl X x)(hm:X.mg x=some (.ref C))(hb:Binds X.K fd ps ds)(hd:Vals dvs ds)(hx:fY CX X E)(hdb:(x==("__debug__":Str))=false:=by decide):PE X (.Call (.Name x p) [] [] pos) (tm C sp dvs E dP):=by intro L4 s σ H Q I h;refine Ya (mz I hg hm ?_ hdb);exact W.callWith_K0 I.kIn M.kp (vC (us:=[]) M F hr hb hd hx I .nil h)
end
def PK(X:Cx)(kws:List Keyword)(t:TA):Prop :=
 ∀(pos:Pos) (L4:LJ) (s:LO) (σ:St) (H:Hp) (Q:List V->Hp->Prop),Inv X L4 σ H s->t σ H Q->wpAny (model X.prog X.w) X.A (evalAll ((backToKw pos (keywordEach kws X.env)).map (·.2))) (AP X L4 σ Q) X.xe s
section
variable{k:Nat}{fd:LW}{ps ks:List Str}{kpos:Pos}{e:L3}{t:TA}{nm:Option Str}
def vn:PK X [] dP:=λ_ _ _ _ H Q I h=>wpAny_evalAll_nil #[[],H,I,.nil,h]
def mI(ha:PE X e te)(hr:PK X kws t):PK X (#[nm,e,kpos]::kws) (dA te t):=by intro pos L4 s σ H Q I h;show wpAny _ _ (evalAll ((do let v ←eval e X.env;standAt pos;pure v)::(backToKw pos (keywordEach kws X.env)).map (·.2))) _ _ s;refine wpAny_evalAll_cons (z6 (thn (ha L4 s σ H _ I h) λu s1 ⟨x,H1,I1,r1,q1⟩=>z6 (wpAny_standAt (Zb ?_))));exact thn (hr pos L4 s1 σ H1 _ I1 q1) λus s2 ⟨xs,H2,I2,r2,q2⟩=>#[x::xs,H2,I2,.cons r1 r2,q2]
structure KBinds(K:W.Frag)(fd:LW)(ps ks:List Str)(g:LM->LM->LM)(gV:List V->List V->List V):Prop where
 to:∀(s:LO) (us ws:LM),K.In s.heap->(g us ws).length=ps.length->BindsTo s fd #[us,ks.zip ws] (ps.zip (g us ws))
 rel:∀{vs:List V} {us:LM} {zs:List V} {ws:LM},Vals vs us->Vals zs ws->Vals (gV vs zs) (g us ws)
end
structure FnScope(N P:List Str)(sc:Scope):Prop where
 kind:sc.kind=.function
 co:sc.isCoroutine=false
 gen:sc.isGenerator=false
 nd:N.Nodup
 pre:N.take P.length=P
 par:∀x∈P,sc.names.lookup x=some .local\/sc.names.lookup x=some .cell
 nofree:∀y∈sc.names,y.2≠.free
theorem ri{kindOf:Str->Option NameKind}:∀{binds:List (Str×LP)} {m:LL},(∀v,(x,v)∉binds)->bindL kindOf binds m x=m x
 | [],_,_=>rfl
 |(n,v)::r,m,h=>by
  unfold bindL;rw[ri λw hw=>h w (Zn _ hw)];split
  ·have:x≠n:=by rintro rfl;exact h v Zo
   simp[this]
  ·rfl
theorem rg{kindOf:Str->Option NameKind}:∀{binds:List (Str×LP)} {m:LL},(∀v,(x,v)∉binds)->bindC kindOf binds m x=m x
 | [],_,_=>rfl
 |(n,v)::r,m,h=>by
  unfold bindC;rw[rg λw hw=>h w (Zn _ hw)];split
  ·rfl
  ·have:x≠n:=by rintro rfl;exact h v Zo
   simp[this]
theorem rh{kindOf:Str->Option NameKind}:∀{P:List Str} {vs:LM} {i:Nat} {m:LL},P.Nodup->P[i]?=some x->vs[i]?=some v->kindOf x=some .local ->
  bindL kindOf (P.zip vs) m x=some v
 | [],_,_,_,_,h,_,_=>by simp at h
 |_::_,[],_,_,_,_,h,_=>by simp at h
 |p::P,w::vs,0,m,nd,h1,h2,hk=>by simp at h1 h2;subst h1;subst h2;show bindL kindOf ((p,w)::P.zip vs) m p=_;unfold bindL;rw[ri λv hv=>(Yb.mp nd).1 (List.of_mem_zip hv).1,LI hk];simp
 |p::P,w::vs,i+1,m,nd,h1,h2,hk=>by show bindL kindOf ((p,w)::P.zip vs) m x=_;unfold bindL;exact rh (i:=i) (Yb.mp nd).2 (by simpa using h1) (by simpa using h2) hk
theorem rf{kindOf:Str->Option NameKind}:∀{P:List Str} {vs:LM} {i:Nat} {m:LL},P.Nodup->P[i]?=some x->vs[i]?=some v->kindOf x≠some .local ->
  bindC kindOf (P.zip vs) m x=some v
 | [],_,_,_,_,h,_,_=>by simp at h
 |_::_,[],_,_,_,_,h,_=>by simp at h
 |p::P,w::vs,0,m,nd,h1,h2,hk=>by simp at h1 h2;subst h1;subst h2;show bindC kindOf ((p,w)::P.zip vs) m p=_;unfold bindC;rw[rg λv hv=>(Yb.mp nd).1 (List.of_mem_zip hv).1,LH hk];simp
 |p::P,w::vs,i+1,m,nd,h1,h2,hk=>by show bindC kindOf ((p,w)::P.zip vs) m x=_;unfold bindC;exact rf (i:=i) (Yb.mp nd).2 (by simpa using h1) (by simpa using h2) hk
def start(N:List Str)(vs:List V):St:=vs.map some++List.replicate (N.length-vs.length) none
def fq(CX:CXT)(P:LQ)(w:LU)(K:W.Frag)(mg:LL)(base:Heap)(N:List Str)(qual:Str)(scope:Scope)(f:LN)(cd:LP)(A:LV)(outer:List Env)(s:LO)(H:Hp)(E:XK):Cx where
 prog:=P
 w:=w
 K:=K
 mg:=mg
 base:=base
 A:=A.deeper (envOfC qual scope s.heap.objs.size f cd)
 N:=N
 s₀:=s
 H₀:=H
 env:=envOfC qual scope s.heap.objs.size f cd
 outer:=outer
 stack:=envOfC qual scope s.heap.objs.size f cd::outer
 ex:=[]
 calm:=true
 fn:=λ_=>true
 pn:=[]
 xe:=λe s'=>wpAny (model P w) (A.deeper (envOfC qual scope s.heap.objs.size f cd)) (leaving (envOfC qual scope s.heap.objs.size f cd) e) (λ_ s''=>CX outer H s E e s'') (λe' s''=>CX outer H s E e' s'') s'
def uf{sc:Scope}{n:Nat}(h:sc.names.lookup x=some .cell):∃c,(cellsFrom n sc.names []).lookup x=some c:=by have q:=W.cellsFrom_some sc.names n [] (.inl h);exact YG.mp q
def Ap{w:LU}{K:W.Frag}{A:LV}{vs:List V}(S:FnScope N ps scope)(hd:A.handled=none)(e0:↑Env0 A outer s H)(hl:vs.length=ps.length)(r:Vals vs us)(x:InCallC s s.heap.objs.size (bindL (envOfC qual scope s.heap.objs.size f cd).kindOf (ps.zip us) λ_=>none) (cellsFrom (s.heap.objs.size+1) scope.names []) (bindC (envOfC qual scope s.heap.objs.size f cd).kindOf (ps.zip us) λ_=>none) s1):
  Inv (fq CX P w K mg base N qual scope f cd A outer s H E) [] (start N vs) H s1:=by
 have hpl:ps.length<=N.length:=by have:=ZN List.length S.pre;rw[ZD]at this;omega
 exists[h1,tk,rfl,hk],x.done;have noA:∀b:LN,b∉(fq CX P w K mg base N qual scope f cd A outer s H E).ex:=λb z=>absurd (show b∈([]:List LN)from z) (by simp);refine#[#[e0.mod,S.kind,rfl,rfl,Ze _,λy z c h1 h2=>?_,λy hy=>?_,λy c _ h=>?_,λ_=>hd,Around.frames_deeper e0.frames,.inr #[rfl,rfl],λb z=>absurd z (noA b),e0.bs,e0.bsz,λb _ _=>noA b,λb z=>absurd z (noA b),e0.funs,e0.frf],
  rfl,e0.bare,Un.kept hk,#[_,x.toInCall.ns,λi y v h1 h2 h3=>?_],λy c h=>#[_,x.cell y c h],e0.hok.fresh (Ze _),λy c h=>?_,λp hp=>absurd (show p∈([]:LJ) from hp) (by simp),e0.hok.kept hk,?_]
 ·exact name_of_addr x.apart (Yh h1) (Yh h2)
 ·have hy:scope.names.lookup y=some .cell\/scope.names.lookup y=some .free:=hy;rcases hy with hy|hy
  ·exact uf hy
  ·exact absurd rfl (S.nofree _ (Yh hy))
 ·exact Nat.le_of_lt (x.above y c (Yh h))
 ·have hi:i<vs.length:=by
   unfold start at h2;by_cases hi:i<vs.length
   ·exact hi
   ·rw[ZF (by simpa using hi)]at h2;rw[List.getElem?_replicate]at h2;split at h2<;>cases h2
  have ha:vs[i]?=some v:=by
   unfold start at h2;rw[ZS (by simpa using hi),Zq]at h2;cases e:vs[i]? with
   |none=>rw[e]at h2;cases h2
   |some a=>rw[e]at h2;cases h2;rfl
  exists[u,hu,rv],r.get ha;have hp:ps[i]?=some y:=by rw[<-S.pre,List.getElem?_take_of_lt ∅];exact h1
  have ndP:ps.Nodup:=by rw[<-S.pre];exact S.nd.sublist (List.take_sublist _ _)
  refine#[u,rv,?_];rcases S.par y (ZC hp)with k|k
  ·exact .inl #[k,rh ndP hp hu k]
  ·exists[c,e],uf (n:=s.heap.objs.size+1) k;refine .inr #[.inl k,c,e,?_];have q:=x.cell y c e;rw[rf ndP hp hu (by show scope.names.lookup y≠_;rw[k];decide)]at q;exact q
 ·exact e0.hok.fresh (Nat.le_of_lt (x.above y c (Yh h)))
 ·unfold start;show _=N.length;rw[Zi,Zd,List.length_replicate];omega
def DQ{w:LU}{K:W.Frag}{k:Nat}{dV kV doc pm cdv ct oc:LP}{sp:Sp}(lk:K.lookup f=some #[oc,od,.func (W.fnOf name qual params body scope dV kV doc pm an cdv ct),osl])(hcd:W.codeIn K cdv qual=true)(S:FnScope N ps scope)(len:∀ vs H Q E,sp vs H Q E->vs.length=ps.length)(hbody:∀ (A:LV) (outer:List Env) (s:LO) (H:Hp) (vs:List V) (Q:VK) (E:XK),Room k (A.deeper (envOfC qual scope s.heap.objs.size f cdv))->sp vs H Q E ->
   ∃ t,PSs (fq CX P w K mg base N qual scope f cdv A outer s H E) body t/\t { nx:=λ_ H'=>Q .non H',rt:=Q } (start N vs) H):
  FnOk P w K mg base CX (k+1) f (W.fnOf name qual params body scope dV kV doc pm an cdv ct) ps sp:=by
 refine#[len,λA outer s H args us vs Q E hr e0 hb r hsp=>?_];have hl:=len _ _ _ _ hsp;have KX:K.In s.heap:=e0.mod.kin.keeps λb o e=>(e0.bs b o e).1;have lim:s.heap.NoLimit:=e0.mod.nolimit.keeps λb o e=>(e0.bs b o e).1;have hkind:∀y∈ps.zip us,scope.names.lookup y.1=some .local\/(scope.names.lookup y.1=some .cell/\((cellsFrom (s.heap.objs.size+1) scope.names []).lookup y.1).isSome=true):=fun⟨n,v⟩ hy=>by
  rcases S.par n (List.of_mem_zip hy).1 with q|q
  ·exact .inl q
  ·exact .inr #[q,W.cellsFrom_some _ _ _ (.inl q)]
 refine codeAny_call_function hr.depth (KX _ _ lk) rfl S.co S.gen rfl (W.codeRec_of KX hcd) (hb _ _ _ _ ?_);refine wpAny_newFunctionEnv_cells S.kind hkind λenv he s1 x=>?_;subst he;refine#[lim.keeps x.toInCall.keep,codeAny_func ?_];exists[t,ht,hq],hbody A outer s H vs Q E (hr.deeper _) hsp;have I:Inv (fq CX P w K mg base N qual scope f cdv A outer s H E) [] (start N vs) H s1:=Ap S hr.hd e0 hl r x;refine Z7 (ht [] s1 (start N vs) H _ I hq) (λfl s' hs=>?_) λe s' hs=>hs;have fin:∀{σ':St} {H':Hp} {v:V} {u:LP},Inv (fq CX P w K mg base N qual scope f cdv A outer s H E) [] σ' H' s'->RelV v u->Q v H'->CE outer P w H s Q u s' :=
  fun{σ' H' v u} J rv q=>#[v,H',J.os,J.bare,J.base,J.hok,rv,q]
 cases fl with
 |ret u =>exists[v,σ',H',J,rv,q],hs;exact fin J rv q
 |next =>exists[σ',H',J,q],hs;exact fin (v:=V.non) (u:=Value.none) J rfl q
 |brk =>exists[_,_,_,q],hs;exact False.elim q
 |cont =>exists[_,_,_,q],hs;exact False.elim q
section
variable{e:L3}{t:TA}{id:String}{r:List V->Hp->VK->Prop}
def tCB(r:List V->Hp->VK->Prop)(t:TA):TE:=λσ H Q=>t σ H λvs H1=>r vs H1 Q
def CJ(hc:dR X (.builtin id) r)(hg:Gl X x)(hm:X.mg x=none)(hv:bootBuiltins x=some (.builtin id))(ha:PA X (e::es) t)(hn:x≠"__name__":=by decide)(hdb:(x==("__debug__":Str))=false:=by decide)(he:starEach (e::es) X.env=(false,eval e X.env)::starEach es X.env:=by rfl)(hpl:(backTo pos (starEach es X.env)).any (·.1)=false:=by rfl):PE X (.Call (.Name x p) (e::es) [] pos) (tCB r t):=by intro L4 s σ H Q I h;refine Ya (cV I hg hm hv ?_ hn hdb);exact PyProof.Rows.callWith_builtin1 (thn (ha pos L4 s σ H _ I h) λus s1 ⟨vs,H1,I1,r1,q1⟩=>hc L4 s1 σ H1 vs us Q I1 r1 q1) he hpl
def A6(hc:dR X (.type T) r)(hg:Gl X x)(hm:X.mg x=none)(hv:bootBuiltins x=some (.type T))(ha:PA X (e::es) t)(hn:x≠"__name__":=by decide)(hdb:(x==("__debug__":Str))=false:=by decide)(he:starEach (e::es) X.env=(false,eval e X.env)::starEach es X.env:=by rfl)(hpl:(backTo pos (starEach es X.env)).any (·.1)=false:=by rfl):PE X (.Call (.Name x p) (e::es) [] pos) (tCB r t):=by intro L4 s σ H Q I h;refine Ya (cV I hg hm hv ?_ hn hdb);exact Z5 (thn (ha pos L4 s σ H _ I h) λus s1 ⟨vs,H1,I1,r1,q1⟩=>hc L4 s1 σ H1 vs us Q I1 r1 q1) he hpl
end
end L2
namespace HT
open PySem PyProof.Rows
def lexLt:LX->LX->Bool
 | [],[]=>false
 | [],_::_=>true
 |_::_,[]=>false
 |x::xs,y::ys=>if x=y then lexLt xs ys else decide (x<y)
def lexLt_cons(x y:Int)(xs ys:LX):lexLt (x::xs) (y::ys)=if x=y then lexLt xs ys else decide (x<y):=rfl
def lexLt_nil_nil:lexLt [] []=false:=rfl
def lexLt_nil_cons(y:Int)(ys:LX):lexLt [] (y::ys)=true:=rfl
def qD(x:Int)(xs:LX):lexLt (x::xs) []=false:=rfl
def eqAt_int(A:LV)(s:LO)(a:Int)(t:Tok)(c:Int)(u:Tok):∃e,SeqAt.EqAt A s (.int a t) (.int c u) e/\(e=true↔a=c) :=
 #[(a==c),SeqAt.EqAt.int_int a t c u,by simp]
def Dd(A:LV)(s:LO)(a:Int)(t:Tok)(c:Int)(u:Tok)(prog:LQ)(w:LU)(E:LK)(Q:LK)(h:Q (.bool (decide (a<c))) s) :
  wpAny (model prog w) A (richCompare .Lt (.int a t) (.int c u)) Q E s :=
 (PyProof.Rows.lt_int h:wpAny (model prog w) A (compareOp .Lt (.int a t) (.int c u)) Q E s)
section
open PySem.SeqAt
open PySem.AutoSeq1 (wpAny_loadPart')
open PySem.MeetsSeq PySem.MeetsSeq2 PySem.MeetsSeq3
def sO(l b:LN)(items items2:Array LP)(n n2:Nat)(dd dd2:Option LN)(sl sl2:Array (Option LP))(ns ms:LX)(hi:IntsAre items.toList ns)(hj:IntsAre items2.toList ms) :
  Meets (Builtin.«tuple.__lt__» #[[.ref l,.ref b],[]])
   (λ_ R s=>s.heap.get? l=some { cls:=.type "tuple",dict:=dd,data:=.seq items n,slots:=sl }/\s.heap.get? b=some { cls:=.type "tuple",dict:=dd2,data:=.seq items2 n2,slots:=sl2 } /\
    R (.ok (.ret (.bool (lexLt ns ms)))) s) :=
 .of_wp λprog w A R s h=>by
  exists[hp,g,d,tk,os],s;exists[hl,hb,h],h;have f2:=AutoSeq1.sub_tuple_tuple;have z1:items.size=ns.length:=by rw[<-hi.length];simp
  have z2:items2.size=ms.length:=by rw[<-hj.length];simp
  wp_walk using wpAny_loadPart' hl,wpAny_loadPart' hb,wpAny_forIn_list _ (λrest b s'=>b.1=none/\s'=#[hp,g,d,tk,os]/\∃ (vs ws:LM) (ns' ms':LX),rest=vs.zip ws /\
   IntsAre vs ns'/\IntsAre ws ms'/\ns'.length+items2.size=ms'.length+items.size/\R (.ok (.ret (.bool (lexLt ns' ms')))) #[hp,g,d,tk,os]) _
  case turn =>
   rintro⟨y,x⟩ rest b s' ⟨hb',rfl,vs,ws,ns',ms',hz,hvi,hwi,hlen,hR⟩;cases hvi with
   |nil=>rw[List.zip_nil_left]at hz;cases hz
   |cons a t hvi' =>
    cases hwi with
    |nil=>rw[List.zip_nil_right]at hz;cases hz
    |cons c u hwi' =>
     rw[List.zip_cons_cons]at hz;injection hz with hyx hrest;injection hyx with hy hx;subst hy hx;rw[lexLt_cons]at hR;simp only[Zl]at hlen;exists[e,he,hiff],eqAt_int A.in1 #[hp,g,d,tk,os] a t c u;refine z6 (he prog w _ _ ?_);cases e with
     |true =>
      rw[LI (hiff.mp rfl)]at hR
      wp_walk
      exact#[rfl,rfl,_,_,_,_,hrest,hvi',hwi',∅,hR]
     |false =>
      rw[LH (λq=>absurd (hiff.mpr q) Zv)]at hR;have hri:=Dd A.in1 #[hp,g,d,tk,os] a t c u prog w
      wp_walk using hri
      exact#[_,rfl,by simpa using hR]
  case fin =>
   rintro⟨b1,b2⟩ s' ⟨hb',rfl,vs,ws,ns',ms',hz,hvi,hwi,hlen,hR⟩;simp only at hb';subst hb';have hv:lexLt ns' ms'=decide (items.size<items2.size):=by
    cases hvi with
    |nil =>
     cases hwi with
     |nil =>simp only[List.length_nil]at hlen;rw[lexLt_nil_nil];exact(decide_eq_false ∅).symm
     |cons c u hw =>simp only[List.length_nil,Zl]at hlen;rw[lexLt_nil_cons];exact(decide_eq_true ∅).symm
    |cons a t hv =>
     cases hwi with
     |nil =>simp only[List.length_nil,Zl]at hlen;rw[qD];exact(decide_eq_false ∅).symm
     |cons c u hw =>rw[List.zip_cons_cons]at hz;cases hz
   rw[hv]at hR
   wp_walk
   exact#[_,rfl,by simpa[Builtin.Tuple.tupleCompareSizes]using hR]
  case h =>exact#[rfl,rfl,items.toList,items2.toList,ns,ms,rfl,hi,hj,∅,h]
end
section
variable{A:LV}{s:LO}
def lt_tupInts{Q:LK}(hl:IsTup s.heap l items)(hb:IsTup s.heap b items2)(hi:IntsAre items.toList ns)(hj:IntsAre items2.toList ms)(hu:A.units<cLine)(h:Q (.bool (lexLt ns ms)) s):wpAny (model prog w) A (compareOp .Lt (.ref l) (.ref b)) Q E s:=by
 obtain⟨⟨cls,dd,data,sl⟩,ho,hc,n,hd⟩:=id hl;obtain⟨⟨cls2,dd2,data2,sl2⟩,ho2,hc2,n2,hd2⟩:=id hb;simp only at hc hd hc2 hd2;subst hc hd hc2 hd2;exact richCompare_meets_room (op:=.Lt) #[_,ho,rfl] #[_,ho2,rfl] PySem.F.slot_tuple_lt PySem.F.entry_tuple_lt (PySem.F.args_tuple_lt_2 _ _) (sO l b items items2 n n2 dd dd2 sl sl2 ns ms hi hj)
  #[ho,ho2,show Value.bool (lexLt ns ms)≠Value.notImplemented/\Q (.bool (lexLt ns ms)) s from#[(λx=>nomatch x),h]] hu
def cat_tup{t b:LN}{vs ws:LM}{Q:LK}(ht:IsTup s.heap t vs.toArray)(hb:IsTup s.heap b ws.toArray)(hv:vs≠[])(h1:ws=[]->Q (.ref t) s)(h2:ws≠[]->Q (.ref s.heap.objs.size) { s with heap:=s.heap.push { cls:=.type "tuple",data:=.seq (vs++ws).toArray } })(hsz:vs.length+ws.length<=sizeLine):wpAny (model prog w) A (binaryOp .Add (.ref t) (.ref b)) Q E s:=by
 obtain⟨⟨cls,dd,data,sl⟩,ho,hc,n,hd⟩:=id ht;obtain⟨⟨cls2,dd2,data2,sl2⟩,ho2,hc2,n2,hd2⟩:=id hb;simp only at hc hd hc2 hd2;subst hc hd hc2 hd2;have e:vs.toArray++ws.toArray=(vs++ws).toArray:=by simp
 by_cases hw:ws=[]
 ·exact concat_meets #[_,ho,rfl] #[_,ho2,rfl] noFill_tuple_add seq_tuple_add PySem.F.slot_tuple_add PySem.F.entry_tuple_add (PySem.F.args_tuple_add_2 _ _)
   (tuple_addW1 t b vs.toArray ws.toArray n n2 dd dd2 sl sl2 (by simpa using hv) (by simp[hw])) #[ho,ho2,h1 hw]
 ·refine concat_meets #[_,ho,rfl] #[_,ho2,rfl] noFill_tuple_add seq_tuple_add PySem.F.slot_tuple_add PySem.F.entry_tuple_add (PySem.F.args_tuple_add_2 _ _)
   (tuple_addW2 t b vs.toArray ws.toArray n n2 dd dd2 sl sl2 (by simpa using hv) (by simpa using hw) (by rw[Zh,Zh];exact hsz)) #[ho,ho2,?_]
  rw[e];exact h2 hw
def sIx(n d:Nat):Option Int->Nat
 |none=>d
 |some v=>if v<0 then(v+(n:Int)).toNat else min v.toNat n
def sIx_none(n d:Nat):sIx n d none=d:=rfl
def sIx_nat(n d k:Nat):sIx n d (some (k:Int))=min k n:=by show(if(k:Int)<0 then((k:Int)+(n:Int)).toNat else min (k:Int).toNat n)=min k n;rw[LH ∅,Int.toNat_natCast]
def Ix(n d:Nat)(hd:d<=n)(o:Option Int):sIx n d o<=n:=by
 cases o with
 |none=>exact hd
 |some v =>
  show(if v<0 then(v+(n:Int)).toNat else min v.toNat n)<=n;by_cases hv:v<0
  ·rw[LI hv];omega
  ·rw[LH hv];exact Nat.min_le_right _ _
def wM(v:Int)(n d:Nat):(if v<0 then max (v+(n:Int)) 0 else min v (n:Int))=((sIx n d (some v):Nat):Int):=by
 show(if v<0 then max (v+(n:Int)) 0 else min v (n:Int))=(((if v<0 then(v+(n:Int)).toNat else min v.toNat n):Nat):Int);by_cases hv:v<0
 ·simp only[LI hv];omega
 ·simp only[LH hv];omega
def xX(lo hi:Option Int)(n:Nat):Builtin.Slice.sliceAdjust lo hi 1 (n:Int)=(((sIx n 0 lo:Nat):Int),((sIx n n hi:Nat):Int)):=by
 have h1:¬((1:Int)<0):=∅
 unfold Builtin.Slice.sliceAdjust;simp only[h1,YH];refine Prod.ext ?_ ?_
 ·cases lo with
  |none=>rfl
  |some v=>exact wM v n 0
 ·cases hi with
  |none=>rfl
  |some v=>exact wM v n n
def yL(i j:Nat):Builtin.Slice.slicePlaces (i:Int) (j:Int) 1=j-i:=by
 unfold Builtin.Slice.slicePlaces;have h1:(1:Int)>0:=∅
 simp only[h1,if_true,Int.ediv_one];split<;>omega
def pT{Q:Option Int->LO->Prop}(p:IsPart v o)(h:Q o s):wpAny (model prog w) A (Builtin.Slice.slicePartIndex v) Q E s:=by
 cases p with
 |none=>exact slicePart_none h
 |int i t=>exact slicePart_int h
def sliceApplied_gen{vl vu:LP}{lo hi:Option Int}{n:Nat}{Q:Int×Int×Nat->LO->Prop}(hs:s.heap.IsSliceOf sl vl vu .none)(pl:IsPart vl lo)(pu:IsPart vu hi)(h:Q (((sIx n 0 lo:Nat):Int),1,sIx n n hi-sIx n 0 lo) s):wpAny (model prog w) A (Builtin.Slice.sliceApplied (.ref sl) (pure (n:Int))) Q E s:=by exists[os,hos,hcs,hds],id hs;unfold Builtin.Slice.sliceApplied Builtin.Slice.sliceFields;refine z6 (z6 (Yo hos hds (x:=vl) rfl (z6 (Yo hos hds (x:=vu) rfl (z6 (Yo hos hds (x:=.none) rfl (Zb ?_)))))));refine z6 (slicePart_none ?_);show wpAny _ _ (if((1:Int)==0)=true then _ else _) _ _ s;rw[LH ⋯];refine z6 (pT pl (z6 (pT pu (z6 (Zb ?_)))));show wpAny _ _ (match Builtin.Slice.sliceAdjust lo hi 1 (n:Int)with|(lo,hi)=>pure (lo,(1:Int),Builtin.Slice.slicePlaces lo hi 1)) _ _ s;rw[xX lo hi n];show wpAny _ _ (pure (((sIx n 0 lo:Nat):Int),(1:Int),Builtin.Slice.slicePlaces ((sIx n 0 lo:Nat):Int) ((sIx n n hi:Nat):Int) 1)) _ _ s;rw[yL];exact Zb h
def CQ(xs:Array LP)(i k:Nat):((List.range k).filterMap fun(m:Nat)=>xs[((i:Int)+(m:Int)*1).toNat]?).toArray=((xs.toList.drop i).take k).toArray:=by
 have e:(fun(m:Nat)=>xs[((i:Int)+(m:Int)*1).toNat]?)=λm=>xs[i+m]?:=by
  funext m;have:((i:Int)+(m:Int)*1).toNat=i+m:=∅
  rw[this]
 rw[e];have:=pick_run xs i k;rw[List.filterMap_map]at this;have e2:((λx=>xs[x]?)∘λx=>i+x)=λm=>xs[i+m]?:=rfl;rw[e2]at this;rw[this]
def getItem_tuple_cut{t sl:LN}{vl vu:LP}{lo hi:Option Int}{Q:LK}(ht:IsTup s.heap t items)(hs:s.heap.IsSliceOf sl vl vu .none)(pl:IsPart vl lo)(pu:IsPart vu hi)(hw:¬(sIx items.size 0 lo=0/\sIx items.size items.size hi=items.size))(h:Q (.ref s.heap.objs.size) { s with heap:=s.heap.push { cls:=.type "tuple",data:=.seq ((items.toList.drop (sIx items.size 0 lo)).take (sIx items.size items.size hi-sIx items.size 0 lo)).toArray } })(hsz:items.size<=sizeLine):wpAny (model prog w) A (getItem (.ref t) (.ref sl)) Q E s:=by
 have htake:sizeOk (.seq ((items.toList.drop (sIx items.size 0 lo)).take (sIx items.size items.size hi-sIx items.size 0 lo)).toArray):=by show((items.toList.drop (sIx items.size 0 lo)).take (sIx items.size items.size hi-sIx items.size 0 lo)).toArray.size<=sizeLine;rw[Zh,ZD,Yt,Zu];omega
 have hj:sIx items.size items.size hi<=items.size:=Ix _ _ (Ze _) hi;exists[os,hos,hcs,hds],id hs;have hTs:s.TypeIs (.ref sl) "slice":=#[os,hos,hcs]
 unfold getItem
 try with_reducible refine Z2 ?_
 first|refine z6 (Zb ?_)|skip
 refine z6 (wpAny_sequenceKey ht.typeIs ⋯ ?_);refine z6 (Z0 (name:=Str.ofString "__getitem__") ht.typeIs y9
  (ZT y9 ht.typeIs entry_tuple_getitem ?_ (args_tuple_getitem _ _)))
 show wpAny _ _ (Builtin.Tuple.tupleItemsOf (.ref t) >>= _) _ _ s;refine z6 (tupleItemsOf_ ht ?_);refine z6 (wpAny_typeOf hTs ?_);rw[LI ⋯];refine z6 (sliceApplied_gen hs pl pu ?_);have hno:¬((((sIx items.size 0 lo:Nat):Int)==0&&(1:Int)==1&&(sIx items.size items.size hi-sIx items.size 0 lo)==items.size)=true):=by intro q;rw[ZK,ZK]at q;have q1:((sIx items.size 0 lo:Nat):Int)=0:=eq_of_beq q.1.1;have q2:sIx items.size items.size hi-sIx items.size 0 lo=items.size:=eq_of_beq q.2;exact hw #[∅,∅]
 show wpAny _ _ (if(((sIx items.size 0 lo:Nat):Int)==0&&(1:Int)==1&&(sIx items.size items.size hi-sIx items.size 0 lo)==items.size)=true then _ else _) _ _ s;rw[LH hno,CQ]
 first
  |exact z6 (m:=Builtin.Tuple.tupleExact _) (Yi (Zb #[_,rfl,Zb h]) htake)
  |exact z6 (m:=Builtin.Tuple.tupleExact _) (Yi (z6 (Zb (Zb #[_,rfl,Zb h]))) htake)
  |exact z6 (z6 (m:=Builtin.Tuple.tupleExact _) (Yi (Zb (Zb #[_,rfl,Zb h])) htake))
  |exact z6 (z6 (m:=Builtin.Tuple.tupleExact _) (Yi (Zb #[_,rfl,Zb h]) htake))
end
end HT
namespace L2
open PySem PySem.Spec PyProof.Rows
abbrev TO:=St->Hp->(Option Int->Hp->Prop)->Prop
def PO(X:Cx)(e:Option L3)(t:TO):Prop :=
 ∀(L4:LJ) (s:LO) (σ:St) (H:Hp) (Q:Option Int->Hp->Prop),Inv X L4 σ H s->t σ H Q ->
  wpAny (model X.prog X.w) X.A (evalPart e X.env) (λu s'=>∃o H',Inv X L4 σ H' s'/\IsPart u o/\Q o H') X.xe s
def xG:TO:=λ_ H Q=>Q none H
inductive IsI(x:V)(R:Int->Prop):Prop
 |mk (i:Int) (h:x=.int i) (q:R i):IsI x R
def En(t:TE):TO:=λσ H Q=>t σ H λx H1=>IsI x λi=>Q (some i) H1
def bo{ns:LX}:∀{us:LM},Vals (ns.map V.int) us->IntsAre us ns:=by
 induction ns with
 |nil=>intro us r;rw[YN]at r;cases r;exact .nil
 |cons n ns ih =>
  intro us r;rw[Zs]at r;cases r with
  |cons r1 r2 =>exists[t,e],r1;subst e;exact .cons n t (ih r2)
section
variable{X:Cx}{te:TE}{lo hi:Option L3}{tl th:TO}
def FB:PO X none xG:=by intro L4 s σ H Q I h;rw[evalPart_none];exact Zb #[none,H,I,.none,h]
def FD(h:PE X e te):PO X (some e) (En te):=by intro L4 s σ H Q I hw;rw[evalPart_some];refine thn (h L4 s σ H _ I hw) λu s1 hz9=>?_;exists[x,H1,I1,r1,q1],hz9;exists[i,rfl,q],q1;exists[t,rfl],r1;exact#[some i,H1,I1,.int i t,q]
def SlR(X:Cx)(r:V->Option Int->Option Int->Hp->VK->Prop):Prop :=
 ∀(L4:LJ) (s:LO) (σ:St) (H:Hp) (x:V) (v vl vu:LP) (lo hi:Option Int) (sl:LN) (Q:VK),Inv X L4 σ H s->RelV x v->s.heap.IsSliceOf sl vl vu .none->IsPart vl lo->IsPart vu hi->r x lo hi H Q ->
  ∃T id,typeLookup (.type T) "__getitem__" = pure (some (.builtin id))/\s.TypeIs v T/\wpAny (model X.prog X.w) X.A (getItem v (.ref sl)) (EP X L4 σ Q) X.xe s
def tSl(r:V->Option Int->Option Int->Hp->VK->Prop)(te:TE)(tl th:TO):TE:=λσ H Q=>te σ H λx H1=>tl σ H1 λl H2=>th σ H2 λu H3=>r x l u H3 Q
def CO{r:V->Option Int->Option Int->Hp->VK->Prop}(hr:SlR X r)(he:PE X e te)(hl:PO X lo tl)(hu:PO X hi th):PE X (.Subscript e (.Slice lo hi none p2) pos) (tSl r te tl th):=by intro L4 s σ H Q I h;refine Subscript_ (thn (he L4 s σ H _ I h) λv s1 hz9=>?_);exists[x,H1,I1,r1,q1],hz9;refine wpAny_Slice (thn (hl L4 s1 σ H1 _ I1 q1) λvl s2 ⟨l,H2,I2,pl,q2⟩=>thn (hu L4 s2 σ H2 _ I2 q2) λvu s3 hz9=>?_);exists[u,H3,I3,pu,q3],hz9;rw[evalPart_none];refine Zb ?_;have I4:Inv X L4 σ H3 { s3 with heap:=s3.heap.push { cls:=.type "slice",data:=.fields (List.toArray [vl,vu,.none]) } }:=I3.kept (t':=s3.toks) λb ob q=>Za _ q;exists[T,id,hT,ht,hg],hr L4 { s3 with heap:=s3.heap.push { cls:=.type "slice",data:=.fields (List.toArray [vl,vu,.none]) } } σ H3 x v vl vu l u s3.heap.objs.size Q I4 r1 (Heap.IsSliceOf.new ..) pl pu q3;show wpAny (model X.prog X.w) X.A (subscriptTail e (.Slice lo hi none p2) v (.ref s3.heap.objs.size)) (EP X L4 σ Q) X.xe { s3 with heap:=s3.heap.push { cls:=.type "slice",data:=.fields (List.toArray [vl,vu,.none]) } };exact tail_any (ops:=[.ref s3.heap.objs.size,v]) ht hT hg (by with_unfolding_all rfl)
def cu(xs:List V)(lo hi:Option Int):List V:=(xs.drop (HT.sIx xs.length 0 lo)).take (HT.sIx xs.length xs.length hi-HT.sIx xs.length 0 lo)
def mX(xs:List V)(lo hi:Option Int):(cu xs lo hi).length<=xs.length:=by unfold cu;rw[ZD,Yt];omega
inductive rSlT(K:W.Frag)(x:V)(lo:Option Int)(hi:Option Int)(H:Hp)(Q:VK):Prop
 |mk (a xs:_) (h0:x=.ref a) (h1:SqT K H a xs) (h2:¬(HT.sIx xs.length 0 lo=0/\HT.sIx xs.length xs.length hi=xs.length)) (h3:∀p,H p=none->Q (.ref p) (upd H p (.tup (cu xs lo hi)))):rSlT K x lo hi H Q
def Iz:SlR X (rSlT X.K):=by
 intro L4 s σ H x v vl vu lo hi sl Q I rx hs pl pu h;exists[a,xs,rfl,hx,hw,q],h;cases rx;exists[its,r,ht,hz],I.tuple hx;have hlen:its.toArray.size=xs.length:=by rw[Zh];exact r.length.symm
 refine#["tuple",_,y9.lookup,ht.typeIs,?_];refine HT.getItem_tuple_cut ht hs pl pu (by rw[hlen];exact hw) ?_ (by rw[hlen];exact hz);rw[hlen];refine#[.ref s.heap.objs.size,_,I.laid (t':=s.toks) (o:=.tup (cu xs lo hi)) (λb ob q=>Za _ q) (Ze _) ?_,rfl,q _ (I.hok.fresh (Ze _))];exact#[Zt (mX xs lo hi) hz,_,(r.drop (HT.sIx xs.length 0 lo)).take (HT.sIx xs.length xs.length hi-HT.sIx xs.length 0 lo),IsTup.new _ _]
def JF(K:W.Frag):R2:=λx y H Q=>∃a b xs ys,x=.ref a/\y=.ref b/\SqT K H a xs/\SqT K H b ys/\xs≠[]/\xs.length+ys.length<=sizeLine /\
 (ys=[]->Q (.ref a) H)/\(ys≠[]->∀p,H p=none->Q (.ref p) (upd H p (.tup (xs++ys))))
def Vals.nil_iff(r:Vals xs us):us=[]↔xs=[]:=by
 cases r with
 |nil=>simp
 |cons _ _=>simp
def Fe:OpR X (binaryOp .Add) (JF X.K):=by intro L4 s σ H x y v u Q I rx ry h;exists[a,b,xs,ys,rfl,rfl,ha,hb,hx,hz,q1,q2],h;cases rx;cases ry;exists[its,r1,p1,_],I.tuple ha;exists[its2,r2,p2,_],I.tuple hb;refine HT.cat_tup p1 p2 (λz=>hx (r1.nil_iff.mp z)) (λz=>#[.ref a,H,I,rfl,q1 (r2.nil_iff.mp z)]) (λz=>?_) (by rw[<-r1.length,<-r2.length];exact hz);refine#[.ref s.heap.objs.size,_,I.laid (t':=s.toks) (o:=.tup (xs++ys)) (λb ob q=>Za _ q) (Ze _) ?_,rfl,q2 (λw=>z (r2.nil_iff.mpr w)) _ (I.hok.fresh (Ze _))];exact#[by rw[Zi];exact hz,_,r1.append r2,IsTup.new _ _]
end
def ixN(n:Nat)(i:Int):Option Nat:=if 0<=i then(if i<n then some i.toNat else none)else if -(n:Int)<=i then some (i+n).toNat else none
def atI{α:Type}(xs:List α)(i:Int):Option α:=(ixN xs.length i).bind λj=>xs[j]?
def ET{n:Nat}{i:Int}{j:Nat}(h:ixN n i=some j):seqIndex? i n=some j/\j<n/\-(n:Int)<=i/\i<n:=by
 unfold ixN at h;by_cases h0:0<=i
 ·rw[LI h0]at h;by_cases h1:i<n
  ·rw[LI h1]at h;have e:i.toNat=j:=ZB h;exact#[by rw[seqIndex_of h0 h1,e],∅,∅,h1]
  ·rw[LH h1]at h;cases h
 ·rw[LH h0]at h;by_cases h1:-(n:Int)<=i
  ·rw[LI h1]at h;have e:(i+n).toNat=j:=ZB h;exact#[by rw[seqIndex_neg ∅ h1,e],∅,h1,∅]
  ·rw[LH h1]at h;cases h
def wI{α:Type}{xs:List α}{i:Int}{v:α}(h:atI xs i=some v):∃j,seqIndex? i xs.length=some j/\xs[j]?=some v/\j<xs.length/\-(xs.length:Int)<=i/\i<xs.length:=by
 unfold atI at h;cases e:ixN xs.length i with
 |none=>rw[e]at h;cases h
 |some j =>rw[e]at h;exists[h1,h2,h3,h4],ET e;exact#[j,h1,h,h2,h3,h4]
def cU{α:Type}{xs:List α}{j:Nat}{v:α}(h:xs[j]?=some v):atI xs (j:Int)=some v:=by
 have hj:j<xs.length:=(Zm.mp h).1;have e:ixN xs.length (j:Int)=some j:=by unfold ixN;rw[LI ∅,LI ∅];simp
 unfold atI;rw[e];exact h
def wG(b:L3):Prop:=∀o i,subscripted b false o i=operate [o,i] (getItem o i)
def IxR(X:Cx)(r:R2):Prop :=
 ∀(value slice:L3) (L4:LJ) (s:LO) (σ:St) (H:Hp) (x y:V) (v u:LP) (Q:VK),Inv X L4 σ H s->RelV x v->RelV y u->r x y H Q ->
  subscripted slice false v u=operate [v,u] (getItem v u)->wpAny (model X.prog X.w) X.A (subscriptTail value slice v u) (EP X L4 σ Q) X.xe s
def MtR(X:Cx)(id:String)(r:V->List V->Hp->VK->Prop):Prop :=
 ∀(L4:LJ) (s:LO) (σ:St) (H:Hp) (x:V) (xs:List V) (v:LP) (us:LM) (Q:VK),Inv X L4 σ H s->RelV x v->Vals xs us->r x xs H Q ->
  wpAny (model X.prog X.w) X.A (call (.builtin id) (v::us)) (EP X L4 σ Q) X.xe s
section
variable{a b:L3}
def Jy{r:R2}(hr:IxR X r)(ha:PE X a ta)(hb:PE X b tb)(hs:wG b):PE X (.Subscript a b pos) (tOp r ta tb):=by intro L4 s σ H Q I h;exact Subscript_ (BT ha hb I h λv u s2 x y H2 I2 rx ry q=>hr a b L4 s2 σ H2 x y v u Q I2 rx ry q (hs _ _))
inductive rIxL(K:W.Frag)(x:V)(y:V)(H:Hp)(Q:VK):Prop
 |mk (p xs i v:_) (h0:x=.ref p) (h1:y=.int i) (h2:SqL K H p xs) (h3:atI xs i=some v) (h4:Q v H):rIxL K x y H Q
inductive rIxT(K:W.Frag)(x:V)(y:V)(H:Hp)(Q:VK):Prop
 |mk (p xs i v:_) (h0:x=.ref p) (h1:y=.int i) (h2:SqT K H p xs) (h3:atI xs i=some v) (h4:Q v H):rIxT K x y H Q
def EU:IxR X (rIxL X.K):=by
 intro value slice L4 s σ H x y v u Q I rx ry h hs;exists[p,xs,i,z,rfl,rfl,hq,he,q],h;cases rx;exists[t,rfl],ry;exists[its,r,pl,hz],I.list hq;exists[j,h1,h2,h3,h4,h5],wI he;exists[w,ew,rw'],r.get h2;have hl:=r.length;have hn:=uT;have fin:EP X L4 σ Q w s:=#[z,H,I,rw',q]
 by_cases h0:0<=i
 ·have hj:i.toNat=j:=by rw[seqIndex_of h0 h5]at h1;exact ZB h1
  exact item_listR pl.isList h0 ∅ (by rw[hj];simpa using ew) fin hs
 ·have hj:(i+(its.toArray.size:Int)).toNat=j:=by rw[seqIndex_neg ∅ h4]at h1;rw[Zh,<-hl];exact ZB h1
  exact subscriptTail_builtinR (x:=w) pl.isList.typeIs slot_list_getitem.lookup
   (wpAny_getItem_list_neg (Q:=λr s'=>r=w/\EP X L4 σ Q r s') pl.isList ∅ (by rw[Zh]<;>omega) ∅ (by rw[hj];simpa using ew) #[rfl,fin]) hs
def GT:IxR X (rIxT X.K):=by
 intro value slice L4 s σ H x y v u Q I rx ry h hs;exists[p,xs,i,z,rfl,rfl,hq,he,q],h;cases rx;exists[t,rfl],ry;exists[its,r,pl,hz],I.tuple hq;exists[j,h1,h2,h3,h4,h5],wI he;exists[w,ew,rw'],r.get h2;have hl:=r.length;have hn:=uT;have fin:EP X L4 σ Q w s:=#[z,H,I,rw',q]
 exact subscriptTail_builtinR (x:=w) pl.typeIs slot_tuple_getitem.lookup
  (getItem_tuple (j:=j) (Q:=λr s'=>r=w/\EP X L4 σ Q r s') pl ∅ ∅ (by rw[Zh,<-hl];exact h1) (by simpa using ew) #[rfl,fin]) hs
def vL(lo hi:Option Int)(n:Nat):(sliceBounds lo hi none n).1=((HT.sIx n 0 lo:Nat):Int)/\(sliceBounds lo hi none n).2.1=((HT.sIx n n hi:Nat):Int)/\(sliceBounds lo hi none n).2.2=1:=by
 refine#[?_,?_,rfl]
 ·cases lo with
  |none=>simp[sliceBounds,HT.sIx]
  |some i =>
   simp only[sliceBounds,HT.sIx,Option.getD_none,show(1:Int)>0 by decide,if_true];by_cases h:i<0
   ·simp only[h,if_true]<;>omega
   ·simp only[h,YH]<;>omega
 ·cases hi with
  |none=>simp[sliceBounds,HT.sIx]
  |some i =>
   simp only[sliceBounds,HT.sIx,Option.getD_none,show(1:Int)>0 by decide,if_true];by_cases h:i<0
   ·simp only[h,if_true]<;>omega
   ·simp only[h,YH]<;>omega
def sN(its:LM)(lo hi:Option Int):slicePick its.toArray lo hi none=((its.drop (HT.sIx its.length 0 lo)).take (HT.sIx its.length its.length hi-HT.sIx its.length 0 lo)).toArray:=by exists[h1,h2,h3],vL lo hi its.toArray.size;unfold slicePick;rw[h1,h2,h3];simp only[sliceRange_one,pick_run,Zh]<;>rfl
inductive rSlL(K:W.Frag)(x:V)(lo:Option Int)(hi:Option Int)(H:Hp)(Q:VK):Prop
 |mk (a xs:_) (h0:x=.ref a) (h1:SqL K H a xs) (h2:∀p,H p=none->Q (.ref p) (upd H p (.lst (cu xs lo hi)))):rSlL K x lo hi H Q
def FZ:SlR X (rSlL X.K):=by intro L4 s σ H x v vl vu lo hi sl Q I rx hs pl pu h;exists[a,xs,rfl,hx,q],h;cases rx;exists[its,r,ht,hz],I.list hx;have hlen:=r.length;refine#["list",_,slot_list_getitem.lookup,ht.isList.typeIs,?_];refine wpAny_getItem_list_slice ht.isList hs pl pu .none (by simp) ?_ (by rw[Zh]<;>omega);rw[sN,<-hlen];refine#[.ref s.heap.objs.size,_,I.laid (t':=s.toks) (o:=.lst (cu xs lo hi)) (λb ob q=>Za _ q) (Ze _) ?_,rfl,q _ (I.hok.fresh (Ze _))];exact#[Zt (mX xs lo hi) hz,_,0,(r.drop (HT.sIx xs.length 0 lo)).take (HT.sIx xs.length xs.length hi-HT.sIx xs.length 0 lo),Zk _ rfl]
def ir:V->Bool
 |.non=>true
 |.bl _=>true
 |.int _=>true
 |.str _=>true
 |_=>false
def eqV:V->V->Bool
 |.non,.non=>true
 |.bl a,.bl b=>a==b
 |.bl a,.int b=>(if a then 1 else 0)==b
 |.int a,.bl b=>a==(if b then 1 else 0)
 |.int a,.int b=>a==b
 |.str a,.str b=>a==b
 |_,_=>false
def GC(ry:RelV y u)(rx:RelV x v)(fy:ir y=true)(fx:ir x=true):SeqAt.EqAt A s u v (eqV y x):=by
 cases y with
 |non =>
  cases ry;cases x with
  |non=>cases rx;exact SeqAt.EqAt.same _
  |bl b=>cases rx;exact SeqAt.EqAt.none_bool b
  |int b=>exists[t,rfl],rx;exact SeqAt.EqAt.none_int b t
  |str b=>exists[t,rfl],rx;exact SeqAt.EqAt.none_str b t
  |_=>exact absurd (show false=true from fx) Zv
 |bl a =>
  cases ry;cases x with
  |non=>cases rx;exact SeqAt.EqAt.bool_none a
  |bl b=>cases rx;exact SeqAt.EqAt.bool_bool a b
  |int b=>exists[t,rfl],rx;exact SeqAt.EqAt.bool_int a b t
  |str b=>exists[t,rfl],rx;exact SeqAt.EqAt.bool_str a b t
  |_=>exact absurd (show false=true from fx) Zv
 |int a =>
  exists[t',rfl],ry;cases x with
  |non=>cases rx;exact SeqAt.EqAt.int_none a t'
  |bl b=>cases rx;exact SeqAt.EqAt.int_bool a t' b
  |int b=>exists[t,rfl],rx;exact SeqAt.EqAt.int_int a t' b t
  |str b=>exists[t,rfl],rx;exact SeqAt.EqAt.int_str a t' b t
  |_=>exact absurd (show false=true from fx) Zv
 |str a =>
  exists[t',rfl],ry;cases x with
  |non=>cases rx;exact SeqAt.EqAt.str_none a t'
  |bl b=>cases rx;exact SeqAt.EqAt.str_bool a t' b
  |int b=>exists[t,rfl],rx;exact SeqAt.EqAt.str_int a t' b t
  |str b=>exists[t,rfl],rx;exact SeqAt.EqAt.str_str a t' b t
  |_=>exact absurd (show false=true from fx) Zv
 |_=>exact absurd (show false=true from fy) Zv
def eqU(x:V)(u:LP):Bool:=match u with
 |.none=>eqV .non x
 |.bool b=>eqV (.bl b) x
 |.int i _=>eqV (.int i) x
 |.str z _=>eqV (.str z) x
 |_=>false
def Ad(r:RelV y u)(f:ir y=true):eqU x u=eqV y x:=by
 cases y with
 |non=>cases r;rfl
 |bl b=>cases r;rfl
 |int i=>exists[t,rfl],r;rfl
 |str z=>exists[t,rfl],r;rfl
 |_=>exact absurd (show false=true from f) Zv
theorem qk:∀{xs:List V} {us:LM},Vals xs us->xs.all ir=true->us.any (eqU x)=xs.any λy=>eqV y x
 |_,_,.nil,_=>rfl
 |y::xs,u::us,.cons r t,f=>by rw[YO,ZK]at f;rw[YQ,YQ,Ad r f.1,qk t f.2]
theorem og(rx:RelV x v)(fx:ir x=true):∀{xs:List V} {us:LM},Vals xs us->xs.all ir=true->∀u∈us,SeqAt.EqAt A s u v (eqU x u)
 |_,_,.nil,_=>λu hu=>by cases hu
 |y::xs,u::us,.cons r t,f=>λu' hu=>by
  rw[YO,ZK]at f;rcases Zf.mp hu with rfl|hu
  ·rw[Ad r f.1];exact GC r rx f.1 fx
  ·exact og rx fx t f.2 u' hu
def inV(x:V)(xs:List V):Bool:=xs.any λy=>eqV y x
def rIn(K:W.Frag)(neg:Bool):R2:=λx y H Q=>∃p xs,y=.ref p/\(SqL K H p xs\/SqT K H p xs)/\ir x=true/\xs.all ir=true/\Q (.bl (if neg then !inV x xs else inV x xs)) H
def AZ:OpR X (compareOp .In) (rIn X.K false):=by
 intro L4 s σ H x y v u Q I rx ry h;exists[p,xs,rfl,hq,fx,fs,q],h;cases ry;rcases hq with hq|hq
 ·exists[its,r,pl,hz],I.list hq;refine SeqAt.in_listAt (eqU x) pl.isList (λw hw=>og rx fx r fs w (by simpa using hw)) #[.bl _,H,I,rfl,?_];rw[show its.toArray.any (eqU x)=its.any (eqU x) by simp,qk r fs];exact q
 ·exists[its,r,pl,hz],I.tuple hq;refine SeqAt.in_tupleAt (eqU x) pl (λw hw=>og rx fx r fs w (by simpa using hw)) #[.bl _,H,I,rfl,?_];rw[show its.toArray.any (eqU x)=its.any (eqU x) by simp,qk r fs];exact q
def ue:dR X (.builtin "len") (λxs H Q=>∃p ys,xs=[.ref p]/\(SqL X.K H p ys\/SqT X.K H p ys)/\Q (.int ys.length) H):=by
 intro L4 s σ H xs us Q I r h;exists[p,ys,rfl,hq,q],h;exists[u,rfl,rx],bG r;cases rx;have hn:=uT;rcases hq with hq|hq
 ·exists[its,r',pl,hz],I.list hq;have hlen:=r'.length;exact Calls.call_len_list pl.isList (by simp only[Zh]<;>omega) #[.int ys.length,H,I.tok _,#[s.toks+1,by rw[Zh,hlen]],q]
 ·exists[its,r',pl,hz],I.tuple hq;have hlen:=r'.length;exact len_tuple pl (by simp only[Zh]<;>omega) #[.int ys.length,H,I.tok _,#[s.toks+1,by rw[Zh,hlen]],q]
def sg:dR X (.type "tuple") (λxs H Q=>∃p ys,xs=[.ref p]/\((SqL X.K H p ys/\∀l,H l=none->Q (.ref l) (upd H l (.tup ys)))\/(SqT X.K H p ys/\Q (.ref p) H))):=by
 intro L4 s σ H xs us Q I r h;exists[p,ys,rfl,h],h;exists[u,rfl,rx],bG r;cases rx;rcases h with⟨hq,q⟩|⟨hq,q⟩
 ·exists[its,r',pl,hz],I.list hq;have hlen:=r'.length;refine call_tuple_list pl.isList (λh' kp=>?_) (by simp only[Zh]<;>omega);have I1:Inv X L4 σ H { s with heap:=h' }:=I.kept (t':=s.toks) kp;have I2:Inv X L4 σ (upd H h'.objs.size (.tup ys)) { s with heap:=h'.push { cls:=.type "tuple",data:=.seq its.toArray } } :=
   I1.laid (t':=s.toks) (λb o e=>Za _ e) (Ze _) (show ObjOk X.prog X.w _ _ _ (.tup ys)from#[hz,its,r',IsTup.new _ _])
  exact#[.ref h'.objs.size,_,I2,rfl,q _ (I1.hok.fresh (Ze _))]
 ·exists[its,r',pl,hz],I.tuple hq;exact call_tuple_same pl #[.ref p,H,I,rfl,q]
def tyV(K:W.Frag)(T:String)(x:V)(H:Hp):Prop:=match x with
 |.str _=>T="str"
 |.int _=>T="int"
 |.ref p=>(T="list"/\∃xs,SqL K H p xs)\/(T="tuple"/\∃o,K.lookup p=some o/\o.cls=.type "tuple"/\o.dict=none) \/
   (T="dict"/\((∃kvs,H p=some (.dK kvs))\/∃kvs,H p=some (.dT kvs)))\/(T="set"/\∃S n,H p=some (.set S n))
 |_=>False
def BJ(I:Inv X L4 σ H s)(r:RelV x v)(ty:tyV X.K T x H):
  s.TypeIs v T/\∀a,v=.ref a->∃ob,s.heap.get? a=some ob/\ob.dict=none:=by
 cases x with
 |str z =>exists[t,rfl],r;cases(show T="str" from ty);exact#[typeIs_str s z t,λ_ e=>nomatch e]
 |int i =>exists[t,rfl],r;cases(show T="int" from ty);exact#[typeIs_int s i t,λ_ e=>nomatch e]
 |ref p =>
  cases r;rcases ty with⟨rfl,xs,hq⟩|⟨rfl,o,hk,hc,hd⟩|⟨rfl,hk⟩|⟨rfl,S,n,hk⟩
  ·exists[its,_,pl,_],I.list hq;refine#[pl.isList.typeIs,λa e=>?_];cases e;exists[o,n,e,c,hd,_],pl;exact#[o,e,hd]
  ·refine#[#[o,I.kIn p o hk,hc],λa e=>?_];cases e;exact#[o,I.kIn _ o hk,hd]
  ·have z:∃o,s.heap.get? p=some o/\o.ExactDict:=by
    rcases hk with⟨kvs,hk⟩|⟨kvs,hk⟩
    ·exists[_,_,_,_,o,_,_,e,ex,_],I.hok p _ hk;exact#[o,e,ex]
    ·exists[_,_,_,_,o,_,_,e,ex,_],I.hok p _ hk;exact#[o,e,ex]
   exists[o,e,ex],z;refine#[#[o,e,ex.1],λa e2=>?_];cases e2;exact#[o,e,ex.2.1]
  ·exists[o,_,_,_,e,ex,_],I.hok p _ hk;refine#[#[o,e,ex.1],λa e2=>?_];cases e2;exact#[o,e,ex.2.1]
 |_=>exact False.elim ty
def IC(K:W.Frag)(T:String)(r:V->List V->Hp->VK->Prop)(to:TE):TE:=λσ H Q=>to σ H λx H1=>tyV K T x H1/\r x [] H1 Q
def tBM(K:W.Frag)(T:String)(r:V->List V->Hp->VK->Prop)(to:TE)(t:TA):TE:=λσ H Q=>to σ H λx H1=>tyV K T x H1/\t σ H1 λxs H2=>r x xs H2 Q
variable{e:L3}{t:TA}{apos cpos:Pos}{id:String}{r:V->List V->Hp->VK->Prop}
def HH(pa:PlainAttrs T)(slot:Slot T name id)(hty:typeOf (.builtin id)=pure (.type "method_descriptor"))(hm:MtR X id r)(ho:PE X o to)(hbase:attributeBase o name X.env (eval o X.env)=eval o X.env:=by rfl)(hline:(apos.endLine==cpos.line)=true:=by rfl):PE X (.Call (.Attribute o name apos) [] [] cpos) (IC X.K T r to):=by intro L4 s σ H Q I h;refine wpAny_Call_method0_late hbase hline (thn (ho L4 s σ H _ I h) λv s1 hz9=>?_);exists[x,H1,I1,r1,ty,q1],hz9;exists[h1,h2],BJ I1 r1 ty;exact#[T,id,pa,slot,hty,h1,h2,Calls.callWith_builtin rfl (PySem.evalArgs_none (hm L4 s1 σ H1 x [] v [] Q I1 r1 .nil q1))]
def mH(pa:PlainAttrs T)(slot:Slot T name id)(hty:typeOf (.builtin id)=pure (.type "method_descriptor"))(hm:MtR X id r)(ho:PE X o to)(ha:PA X (e::es) t)(hbase:attributeBase o name X.env (eval o X.env)=eval o X.env:=by rfl)(hfew:((backTo cpos (starEach (e::es) X.env)).all (λx=>!x.1)&&(backToKw cpos (keywordEach [] X.env)).all (λx=>x.1.isSome)
  &&decide ((e::es).length+([]:List Keyword).length+(if ([]:List Keyword).isEmpty then 0 else 1)<30))=true:=by rfl)(hline:(apos.endLine == cpos.line)=true:=by rfl)(hs:starEach (e::es) X.env=(false,eval e X.env)::starEach es X.env:=by rfl)(hplain:(backTo cpos (starEach es X.env)).any (·.1)=false:=by rfl) :
  PE X (.Call (.Attribute o name apos) (e::es) [] cpos) (tBM X.K T r to t):=by
 intro L4 s σ H Q I h;refine wpAny_Call_method_late hbase hfew hline rfl (thn (ho L4 s σ H _ I h) λv s1 hz9=>?_);exists[x,H1,I1,r1,ty,q1],hz9;exists[h1,h2],BJ I1 r1 ty;refine#[T,id,pa,slot,hty,h1,h2,?_];have hA:=ha cpos L4 s1 σ H1 _ I1 q1;rw[hs]at hA ⊢;refine Calls.callWith_builtin (by show(false ||(backTo cpos (starEach es X.env)).any (·.1))=false;rw[hplain]<;>rfl) (Calls.evalArgs_plain ?_);exact thn hA λus s2 ⟨vs,H2,I2,r2,q2⟩=>hm L4 s2 σ H2 x vs v us Q I2 r1 r2 q2
end
def MtM(X:Cx)(id:String)(r:V->List V->Hp->VK->Prop):Prop :=
 ∀(L4:LJ) (s:LO) (σ:St) (H:Hp) (x:V) (xs:List V) (v:LP) (us:LM) (Q:VK),Inv X L4 σ H s->RelV x v->Vals xs us->r x xs H Q ->
  wpAny (model X.prog X.w) X.A (call (.builtin id) (v::us)) (EP X L4 σ Q) X.xe s
def Vals.one:∀{x:V} {us:LM},Vals [x] us->∃u,us=[u]/\RelV x u
 |_,_,.cons r .nil=>#[_,rfl,r]
def Vals.zero:∀{us:LM},Vals [] us->us=[]
 |_,.nil=>rfl
def Vals.dropLast(h:Vals xs us):Vals xs.dropLast us.dropLast:=by
 induction h with
 |nil=>exact .nil
 |cons r t ih =>
  cases t with
  |nil=>exact .nil
  |cons q t'=>exact .cons r ih
def Vals.reverse(h:Vals xs us):Vals xs.reverse us.reverse:=by
 induction h with
 |nil=>exact .nil
 |cons r t ih=>rw[List.reverse_cons,List.reverse_cons];exact Vals.append ih (.cons r .nil)
def yh{α:Type}(l:List α):l.eraseIdx (l.length-1)=l.dropLast:=by
 induction l with
 |nil=>rfl
 |cons a r ih =>
  cases r with
  |nil=>rfl
  |cons b r =>
   have e:(a::b::r).length-1=((b::r).length-1)+1:=by have h1:(a::b::r).length=r.length+2:=rfl;have h2:(b::r).length=r.length+1:=rfl;omega
   rw[e,List.eraseIdx_cons_succ,ih]
   all_goals rfl
section
variable{s:LO}
def Inv.lset{its its':LM}{n:Nat}{f:Array LP->Array LP}{t':Nat}(I:Inv X L4 σ H s)(hH:H l=some (.lst xs))(e:s.heap.get? l=some { cls:=.type "list",data:=.seq its.toArray n })(hf:f its.toArray=its'.toArray)(hv:Vals ys its')(hz:ys.length<=sizeLine) :
  Inv X L4 σ (upd H l (.lst ys)) { s with heap:=s.heap.update l (Obj.mapSeq f),toks:=t' }:=by
 have q:=PySem.IsL.update e f;rw[hf]at q;refine I.write (x:=l) (e:=l) (by rw[hH];exact trivial) (.inl rfl) (λb' u hb hu=>(Y3 s.heap (Obj.mapSeq f) (y7 hb)).trans hu) #[_,q] ?_;exact#[hz,its',_,hv,q]
def Inv.lnew{t':Nat}(I:Inv X L4 σ H s)(hv:Vals ys its)(hz:ys.length<=sizeLine):
  Inv X L4 σ (upd H s.heap.objs.size (.lst ys)) { s with heap:=s.heap.push { cls:=.type "list",data:=.seq its.toArray },toks:=t' } :=
 I.laid (λ_ _ q=>Za _ q) (Ze _) #[hz,its,0,hv,Zk _ rfl]
def Inv.fresh(I:Inv X L4 σ H s):H s.heap.objs.size=none:=I.hok.fresh (Ze _)
def Inv.lstM(I:Inv X L4 σ H s)(hH:H l=some (.lst xs)):xs.length<=sizeLine/\∃(its:LM) (n:Nat),Vals xs its/\xs.length=its.length/\s.heap.get? l=some { cls:=.type "list",data:=.seq its.toArray n }:=by exists[z,its,n,r,e],I.hok l _ hH;exact#[z,its,n,r,r.length,e]
def Ct{n:Nat}(h:n<=sizeLine):Builtin.List.listTooLong n=false:=by unfold Builtin.List.listTooLong;exact decide_eq_false ∅
end
section
inductive rAppend  (x:V)(vs:List V)(H:Hp)(Q:VK):Prop
 |mk (l xs y:_) (h0:x=.ref l) (h1:vs=[y]) (h2:H l=some (.lst xs)) (h3:xs.length<sizeLine) (h4:Q .non (upd H l (.lst (xs++[y])))):rAppend  x vs H Q
def AE:MtM X "list.append" rAppend:=by intro L4 s σ H x vs v us Q I rx rv h;exists[l,xs,y,rfl,rfl,hH,hz,q],h;cases rx;exists[u,rfl,ru],rv.one;exists[z,its,n,r,hl,e],I.lstM hH;refine call_meets F.slot_list_append #[_,e,rfl] F.entry_list_append (F.args_list_append_2 _ _) (PySem.list_append l its.toArray n u (by rw[Zh];omega)) #[e,?_];refine#[.non,_,I.lset (its':=its++[u]) hH e (by simp) (r.append (.cons ru .nil)) ?_,rfl,q];rw[Zi,Z1];omega
def xt:V->List V->Hp->VK->Prop:=λx vs H Q=>∃l b xs zs,x=.ref l/\vs=[.ref b]/\H l=some (.lst xs)/\H b=some (.lst zs)/\xs.length+zs.length<=sizeLine/\Q .non (upd H l (.lst (xs++zs)))
def AG:MtM X "list.extend" xt:=by
 intro L4 s σ H x vs v us Q I rx rv h;exists[l,b,xs,zs,rfl,rfl,hH,hB,hz,q],h;cases rx;exists[u,rfl,ru],rv.one;cases ru;exists[z,its,n,r,hl,e],I.lstM hH;exists[z2,its2,n2,r2,hl2,e2],I.lstM hB;have hsz:its.toArray.size+its2.toArray.size<=sizeLine:=by rw[Zh,Zh];omega
 have hlong:¬(!its.toArray.isEmpty&&Builtin.List.listTooLong (its.toArray.size+its2.toArray.size))=true:=by rw[Ct hsz,Bool.and_false];exact Zv
 refine call_meets F.slot_list_extend #[_,e,rfl] F.entry_list_extend (F.args_list_extend_2 _ _)
  (AutoSeq1.list_extend_list_list_0 l its.toArray n b its2.toArray n2 hlong (by rw[Zh];omega) ∅) #[e,e2,?_]
 refine#[.non,_,I.lset (its':=its++its2) hH e (by simp) (r.append r2) ?_,rfl,q];rw[Zi];omega
def Iv:V->List V->Hp->VK->Prop:=λx vs H Q=>∃l xs y,x=.ref l/\vs=[]/\H l=some (.lst xs)/\xs[xs.length-1]?=some y/\Q y (upd H l (.lst xs.dropLast))
def Hd:MtM X "list.pop" Iv:=by
 intro L4 s σ H x vs v us Q I rx rv h;exists[l,xs,y,rfl,rfl,hH,hy,q],h;cases rx;have hus:=rv.zero;subst hus;exists[z,its,n,r,hl,e],I.lstM hH;exists[u,hu,ru],r.get hy;have hy':its.toArray[its.toArray.size-1]?=some u:=by show its.toArray[its.length-1]?=some u;rw[<-Y6,<-hl];exact hu
 refine call_meets F.slot_list_pop #[_,e,rfl] F.entry_list_pop (F.args_list_pop_1 _) (MeetsSeq.list_pop_last l its.toArray n u hy' (by rw[Zh];omega)) #[e,?_];refine#[y,_,I.lset (its':=its.dropLast) hH e ?_ r.dropLast ?_,ru,q]
 ·show its.toArray.eraseIdxIfInBounds (its.toArray.size-1)=its.dropLast.toArray;rw[Zh,List.eraseIdxIfInBounds_toArray,yh]
 ·rw[List.length_dropLast];omega
inductive rCat  (x:V)(y:V)(H:Hp)(Q:VK):Prop
 |mk (l b xs zs:_) (h0:x=.ref l) (h1:y=.ref b) (h2:H l=some (.lst xs)) (h3:H b=some (.lst zs)) (h4:xs.length+zs.length<=sizeLine) (h5:∀p,H p=none->Q (.ref p) (upd H p (.lst (xs++zs)))):rCat  x y H Q
def Hm:OpR X (binaryOp .Add) rCat:=by
 intro L4 s σ H x y v u Q I rx ry h;exists[l,b,xs,zs,rfl,rfl,hH,hB,hz,q],h;cases rx;cases ry;exists[z,its,n,r,hl,e],I.lstM hH;exists[z2,its2,n2,r2,hl2,e2],I.lstM hB;refine PySem.P.add_list e e2 ?_ (by rw[Zh,Zh];omega);have ea:its.toArray++its2.toArray=(its++its2).toArray:=by simp
 rw[ea];exact#[.ref _,_,I.lnew (t':=s.toks) (r.append r2) (by rw[Zi];omega),rfl,q _ I.fresh]
end
section
variable{κ:Type}[DecidableEq κ]
def bI(kvs:List (κ×V))(k:κ):Option V:=(kvs.find? λkv=>decide (kv.1=k)).map (·.2)
def bP(kvs:List (κ×V))(k:κ)(v:V):List (κ×V) :=
 if(kvs.any λkv=>decide (kv.1=k))=true then kvs.map (λkv=>if kv.1=k then(kv.1,v)else kv)else kvs++[(k,v)]
def jW{p:κ×V}{r:List (κ×V)}{k:κ}(e:p.1=k):bI (p::r) k=some p.2:=by simp[bI,List.find?_cons,e]
def io{p:κ×V}{r:List (κ×V)}{k:κ}(e:¬p.1=k):bI (p::r) k=bI r k:=by simp[bI,List.find?_cons,e]
theorem fQ(k:κ):∀kvs:List (κ×V),(kvs.any λkv=>decide (kv.1=k))=(bI kvs k).isSome
 | []=>rfl
 |p::r=>by
  rw[YQ];by_cases e:p.1=k
  ·simp only[jW e,decide_eq_true e,Bool.true_or,Option.isSome_some]
  ·rw[io e,decide_eq_false e,Bool.false_or];exact fQ k r
def iK(kvs:List (κ×V))(k:κ)(v:V):(bP kvs k v).length<=kvs.length+1:=by
 unfold bP;split
 ·rw[Zd];omega
 ·rw[Zi,Zl,List.length_nil];omega
def C4{kvs:List (κ×V)}{k:κ}(v:V)(h:bI kvs k=none):bP kvs k v=kvs++[(k,v)]:=by unfold bP;rw[fQ,h];exact LH ⋯
def RelO.isSome_eq(r:RelO o u):o.isSome=u.isSome:=by
 cases o with
 |none=>cases u with
  |none=>rfl
  |some _=>exact(show False from r).elim
 |some _=>cases u with
  |none=>exact(show False from r).elim
  |some _=>rfl
def KV.val(r:KV kvs vs)(k:κ):RelO (bI kvs k) (valueAt vs k):=by
 unfold KV at r;induction r with
 |nil=>exact True.intro
 |@cons p q ps qs h t ih =>
  exists[h1,h2],h;by_cases e:p.1=k
  ·have e':q.1=k:=h1.symm.trans e;have b:valueAt (q::qs) k=some q.2:=by simp[valueAt,List.find?_cons,e']
   rw[jW e,b];exact h2
  ·have e':¬q.1=k:=λz=>e (h1.trans z);have b:valueAt (q::qs) k=valueAt qs k:=by simp[valueAt,List.find?_cons,e']
   rw[io e,b];exact ih
def KV.any(r:KV kvs vs)(k:κ):(kvs.any λkv=>decide (kv.1=k))=vs.any λkv=>decide (kv.1=k):=by
 unfold KV at r;induction r with
 |nil=>rfl
 |cons h t ih=>rw[YQ,YQ,ih,h.1]
def KV.repl(r:KV kvs vs)(k:κ)(ry:RelV y u):
  KV (kvs.map λkv=>if kv.1=k then(kv.1,y)else kv) (vs.map λkv=>if kv.1=k then(kv.1,u)else kv):=by
 unfold KV at r ⊢;induction r with
 |nil=>exact .nil
 |@cons p q ps qs h t ih =>
  rw[Zs,Zs];refine .cons ?_ ih;exists[h1,h2],h;by_cases e:p.1=k
  ·rw[LI e,LI (h1.symm.trans e)];exact#[h1,ry]
  ·rw[LH e,LH (λz=>e (h1.trans z))];exact#[h1,h2]
def KV.put(r:KV kvs vs)(k:κ)(ry:RelV y u):KV (bP kvs k y) (stored vs k u):=by
 unfold bP stored;rw[r.any k];by_cases e:(vs.any λkv=>decide (kv.1=k))=true
 ·rw[LI e,LI e];exact r.repl k ry
 ·rw[LH e,LH e];exact Paired.snoc r #[rfl,ry]
def KV.length(r:KV kvs vs):kvs.length=vs.length:=Z8 r
end
def mq{w:LU}{k:Key}(r:RelV (kV k) u):(ba P w).is k u=true:=by
 cases k with
 |inl i=>exists[t,e],(show∃t,u=Value.int i t from r);subst e;exact wg P w i t
 |inr x=>exists[t,e],(show∃t,u=Value.str x t from r);subst e;exact wj P w x t
theorem rE{w:LU}:∀{ks:List Key} {us:LM},Vals (ks.map kV) us->ItemsAre (ba P w) ks us
 | [],_,r=>by rw[YN]at r;cases r;exact .nil
 |k::ks,_,r=>by
  rw[Zs]at r;cases r with
  |cons h t=>exact .cons (mq h) (rE t)
abbrev KT(H:Hp):List (List Key×V)->List (List Key×LN×LP)->Prop:=Paired λp q=>p.1=q.1/\H q.2.1=some (.tup (p.1.map kV))/\RelV p.2 q.2.2
def KT.val(r:KT H kvs xs)(k:List Key):RelO (bI kvs k) ((atKey xs k).map (·.2)):=by
 induction r with
 |nil=>exact True.intro
 |@cons p q ps qs h t ih =>
  exists[h1,_,h2],h;by_cases e:p.1=k
  ·have e':q.1=k:=h1.symm.trans e;have b:atKey (q::qs) k=some q.2:=by simp[atKey,List.find?_cons,e']
   rw[jW e,b];exact h2
  ·have e':¬q.1=k:=λz=>e (h1.trans z);have b:atKey (q::qs) k=atKey qs k:=by simp[atKey,List.find?_cons,e']
   rw[io e,b];exact ih
def KT.repl(r:KT H kvs xs)(k:List Key)(ry:RelV y u):
  KT H (kvs.map λkv=>if kv.1=k then(kv.1,y)else kv) (xs.map (putAt k u)):=by
 induction r with
 |nil=>exact .nil
 |@cons p q ps qs h t ih =>
  rw[Zs,Zs];refine .cons ?_ ih;exists[h1,h2,h3],h;unfold putAt;by_cases e:p.1=k
  ·rw[LI e,LI (h1.symm.trans e)];exact#[h1,h2,ry]
  ·rw[LH e,LH (λz=>e (h1.trans z))];exact#[h1,h2,h3]
def KT.put(r:KT H kvs xs)(k:List Key)(hb:H b=some (.tup (k.map kV)))(ry:RelV y u):
  KT H (bP kvs k y) (storedH xs k b u):=by
 have e:(kvs.any λkv=>decide (kv.1=k))=(atKey xs k).isSome:=by rw[fQ,(r.val k).isSome_eq,Option.isSome_map]
 unfold bP storedH;rw[e];by_cases q:(atKey xs k).isSome=true
 ·rw[LI q,LI q];exact r.repl k ry
 ·rw[LH q,LH q];exact Paired.snoc r #[rfl,hb,ry]
def KT.keeps{H H':Hp}(r:KT H kvs xs)(ht:∀b ys,H b=some (.tup ys)->H' b=some (.tup ys)):KT H' kvs xs :=
 Paired.mapP r λ_ _ z=>#[z.1,ht _ _ z.2.1,z.2.2]
section
def Ee(ok:HOk P w H h)(e:Rd H a u):ObjOk P w H h a u:=e.ok ok
def oO(ok:HOk P w H h)(e:Rd H a (.dK kvs)):kvs.length<=sizeLine/\(a==sysModules)=false/\∃vs,KV kvs vs/\h.DictOf (ba P w) a vs :=
 show ObjOk P w H h a (.dK kvs)from Ee ok e
def DO(ok:HOk P w H h)(e:H a=some (.dK kvs)):kvs.length<=sizeLine/\(a==sysModules)=false/\∃vs,KV kvs vs/\h.DictOf (ba P w) a vs:=oO ok (.inl e)
def gQ{ks:List Key}(ok:HOk P w H h)(e:H a=some (.tup (ks.map kV))):(tupleKind (ba P w)).is h ks a:=by
 exists[_,its,r,o,h1,h2,n,h3],(show ObjOk P w H h a (.tup (ks.map kV))from ok a _ e)
 exact#[o,its.toArray,n,h1,h2,h3,by simpa using rE r]
def jw(ok:HOk P w H h)(e:Rd H a (.dT kvs)):kvs.length<=sizeLine/\(a==sysModules)=false /\
  ∃xs,KT H kvs xs/\h.DictOfH (tupleKind (ba P w)) a xs:=by
 exists[z,y,xs,r,o,es,ep,h1,h2,h3,h4,h5],(show ObjOk P w H h a (.dT kvs)from Ee ok e)
 refine#[z,y,xs,r,o,es,ep,h1,h2,h3,h4,λx hx=>?_,h5];have all:∀{l:List (List Key×V)} {m:List (List Key×LN×LP)},KT H l m->∀x∈m,(tupleKind (ba P w)).is h x.1 x.2.1:=by
  intro l m q;induction q with
  |nil=>intro x hx;exact nomatch hx
  |@cons p q ps qs hq t ih =>
   intro x hx;rcases Zf.mp hx with e|hx
   ·subst e;exact gQ ok (by rw[<-hq.1];exact hq.2.1)
   ·exact ih x hx
 exact all r x hx
def Je(ok:HOk P w H h)(e:H a=some (.dT kvs)):kvs.length<=sizeLine/\(a==sysModules)=false /\
  ∃xs,KT H kvs xs/\h.DictOfH (tupleKind (ba P w)) a xs:=jw ok (.inl e)
end
def DGet(H:Hp)(a:LN)(y:V)(r:Option V):Prop :=
 (∃kvs k,Rd H a (.dK kvs)/\y=kV k/\r=bI kvs k)\/∃kvs k b,Rd H a (.dT kvs)/\y=.ref b/\H b=some (.tup (k.map kV))/\r=bI kvs k
def DPut(H:Hp)(a:LN)(y v:V)(H':Hp):Prop :=
 (∃kvs k,H a=some (.dK kvs)/\y=kV k/\kvs.length<sizeLine/\H'=upd H a (.dK (bP kvs k v))) \/
 ∃kvs k b,H a=some (.dT kvs)/\y=.ref b/\H b=some (.tup (k.map kV))/\kvs.length<sizeLine/\H'=upd H a (.dT (bP kvs k v))
def DGet.k{H:Hp}{k:Key}(e:H a=some (.dK kvs)):DGet H a (kV k) (bI kvs k):=.inl #[kvs,k,.inl e,rfl,rfl]
def DGet.t{H:Hp}{k:List Key}(e:H a=some (.dT kvs))(eb:H b=some (.tup (k.map kV))):DGet H a (.ref b) (bI kvs k):=.inr #[kvs,k,b,.inl e,rfl,eb,rfl]
def DPut.t{H:Hp}{k:List Key}(e:H a=some (.dT kvs))(eb:H b=some (.tup (k.map kV)))(hl:kvs.length<sizeLine):
  DPut H a (.ref b) v (upd H a (.dT (bP kvs k v))):=.inr #[kvs,k,b,e,rfl,eb,hl,rfl]
section
variable{s:LO}{r:LP}{A:LV}
def Inv.big(I:Inv X L4 σ H s):sysModules<s.heap.objs.size:=by have h:mainGlobals<s.heap.objs.size:=(I.mod.glob.keeps I.bk).lt;exact Nat.lt_trans ⋯ h
def zX{Q:LK}(hu:A.units+1<cLine)(I:Inv X L4 σ H s)(g:DGet H a y (some v))(ry:RelV y u)(h:∀w' s',Inv X L4 σ H s'->RelV v w'->Q w' s') :
  wpAny (model X.prog X.w) A (getItem (.ref a) u) Q E s:=by
 rcases g with⟨kvs,k,e,ey,l⟩|⟨kvs,k,b,e,ey,eb,l⟩
 ·subst ey;exists[z,hd,vs,rel,dd],oO I.hok e;exists[w',hw,rw'],RelO.some_of (v:=v) (o:=valueAt vs k) (by rw[l];exact rel.val k);exact wpAny_getItem_of (mq ry) dd.mapOf hw (h w' _ (I.tok _) rw')
 ·subst ey;cases(show u=Value.ref b from ry);exists[z,hd,xs,rel,dd],jw I.hok e;exists[w',hw,rw'],RelO.some_of (v:=v) (o:=(atKey xs k).map (·.2)) (by rw[l];exact rel.val k);exists[p,hp,hp2],ZL.mp hw;refine wpAny_getItem_heap (tupleKind_room_in1 hu) (gQ I.hok eb) dd hp ?_;rw[hp2];exact h w' _ (I.tok _) rw'
def JU{Q:LK}(hu:A.units+1<cLine)(I:Inv X L4 σ H s)(g:DGet H a y o)(ry:RelV y u)(h:∀s',Inv X L4 σ H s'->Q (.bool o.isSome) s') :
  wpAny (model X.prog X.w) A (compareOp .In u (.ref a)) Q E s:=by
 rcases g with⟨kvs,k,e,ey,l⟩|⟨kvs,k,b,e,ey,eb,l⟩
 ·subst ey;exists[z,hd,vs,rel,dd],oO I.hok e;refine wpAny_in_of (mq ry) hd dd.mapOf ?_;rw[<-(rel.val k).isSome_eq,<-l];exact h _ (I.tok _)
 ·subst ey;cases(show u=Value.ref b from ry);exists[z,hd,xs,rel,dd],jw I.hok e;refine wpAny_in_heap (tupleKind_room_in1 hu) (gQ I.hok eb) hd dd ?_;have q:=(rel.val k).isSome_eq;rw[Option.isSome_map]at q;rw[<-q,<-l];exact h _ (I.tok _)
def EF{Q:LK}(hu:A.units+1<cLine)(I:Inv X L4 σ H s)(g:DGet H a y o)(ry:RelV y u)(h:∀s',Inv X L4 σ H s'->Q (.bool (!o.isSome)) s') :
  wpAny (model X.prog X.w) A (compareOp .NotIn u (.ref a)) Q E s:=by
 rcases g with⟨kvs,k,e,ey,l⟩|⟨kvs,k,b,e,ey,eb,l⟩
 ·subst ey;exists[z,hd,vs,rel,dd],oO I.hok e;refine wpAny_notIn_of (mq ry) hd dd.mapOf ?_;rw[<-(rel.val k).isSome_eq,<-l];exact h _ (I.tok _)
 ·subst ey;cases(show u=Value.ref b from ry);exists[z,hd,xs,rel,dd],jw I.hok e;refine wpAny_notIn_heap (tupleKind_room_in1 hu) (gQ I.hok eb) hd dd ?_;have q:=(rel.val k).isSome_eq;rw[Option.isSome_map]at q;rw[<-q,<-l];exact h _ (I.tok _)
def lX{t':Nat}(I:Inv X L4 σ H s)(mu:Mut (H a))(hs:Heap.SameBut a s.heap h')(he:∃q,h'.get? a=some q)(new:ObjOk X.prog X.w (upd H a ob) h' a ob):
  Inv X L4 σ (upd H a ob) { s with heap:=h',toks:=t' } :=
 I.write (x:=a) (e:=a) mu (.inl rfl) (λb q hb z=>(hs.2 b hb).trans z) he new
def Ac{w:LU}{h':Heap}{kvs:List (Key×V)}(z:kvs.length<=sizeLine)(hd:(a==sysModules)=false)(rel:KV kvs vs)(dd:h'.DictOf (ba P w) a vs):
  ObjOk P w H' h' a (.dK kvs):=#[z,hd,vs,rel,dd]
def zY{Q:Unit->LO->Prop}(hu:A.units+1<cLine)(I:Inv X L4 σ H s)(g:DPut H a y v H')(ry:RelV y u)(rv:RelV v r)(h:∀s',Inv X L4 σ H' s'->Q () s'):
  wpAny (model X.prog X.w) A (setItem (.ref a) u r) Q E s:=by
 rcases g with⟨kvs,k,e,ey,l,eH⟩|⟨kvs,k,b,e,ey,eb,l,eH⟩
 ·subst ey eH;exists[z,hd,vs,rel,dd],DO I.hok e;have hz:vs.length<=sizeLine:=by rw[<-rel.length];exact z
  have hl:(bP kvs k v).length<=sizeLine:=by have:=iK kvs k v;omega
  refine wpAny_setItem_pairs (hsz:=hz) (mq ry) dd λh' dd' hs=>h _ ?_;have he:∃q,h'.get? a=some q:=let⟨q,_,_,hq,_⟩:=dd';#[q,hq]
  exact lX I (by rw[e];exact True.intro) hs he (Ac hl hd (rel.put k rv) dd')
 ·subst ey eH;cases(show u=Value.ref b from ry);exists[z,hd,xs,rel,dd],Je I.hok e;have hz:xs.length<=sizeLine:=by rw[<-Z8 rel];exact z
  have hl:(bP kvs k v).length<=sizeLine:=by have:=iK kvs k v;omega
  refine wpAny_setItem_heap (hsz:=hz) (tupleKind_room_in1 hu) (gQ I.hok eb) dd λh' dd' hs=>h _ ?_;exists[q,es,ep,hq,h2,h3,h4,_,h5],dd';refine lX I (by rw[e];exact True.intro) hs #[q,hq] #[hl,hd,_,(rel.put k eb rv).keeps λc ys ec=>?_,q,es,ep,hq,h2,h3,h4,h5];rw[ag (jJ ec e nofun)];exact ec
end
def BQ(i:L3):Prop:=∀ov iv,subscripted i false ov iv=operate [ov,iv] (getItem ov iv)
def F5{prog:LQ}{w:LU}{A:LV}{E:LK}{s:LO}{env:Env}{value slice:L3}{pos:Pos}{T id:String}{Q:LK}(hl:typeLookup (.type T) "__getitem__" = pure (some (.builtin id)))(hs:BQ slice)(h:wpAny (model prog w) A (eval value env) (λo s₁=>wpAny (model prog w) A (eval slice env) (λi s₂=>s₂.TypeIs o T/\wpAny (model prog w) A (getItem o i) Q E s₂) E s₁) E s) :
  wpAny (model prog w) A (eval (.Subscript value slice pos) env) Q E s:=by
 refine Subscript_ (Z7 h (λo s₁ h₁=>Z7 h₁ (λi s₂ h₂=>?_) λ_ _ x=>x) λ_ _ x=>x);exists[hT,h₂],h₂;unfold subscriptTail;refine z6 ?_;rw[getitemInPython_of_ne hT.not_modules];refine z6 (wpAny_specialOf hT hl ?_);have fin:wpAny (model prog w) A (subscripted slice false o i) (λr s₃=>wpAny (model prog w) A (letTemporaryGo value o r >>= λ_=>pure r) Q E s₃) E s₂:=by rw[hs o i];exact wpAny_operating (Z7 h₂ (λr s₃ h₃=>z6 (wpAny_letTemporaryGo (Zb h₃))) λ_ _ x=>x)
 first
  |exact Zb (z6 fin)
  |exact z6 (Zb (z6 fin))
  |exact z6 fin
def vZ(I:Inv X L4 σ H s)(g:DGet H a y o):s.TypeIs (.ref a) "dict":=by
 rcases g with⟨kvs,k,e,_,_⟩|⟨kvs,k,b,e,_,_,_⟩
 ·exists[_,_,vs,_,dd],oO I.hok e;exact dd.typeIs
 ·exists[_,_,xs,_,dd],jw I.hok e;exact dd.typeIs
def Ek(td ty:TE):TE:=λσ H Q=>td σ H λx H1=>ty σ H1 λy H2=>∃a v,x=.ref a/\DGet H2 a y (some v)/\Q v H2
def ID(ty td:TE):TE:=λσ H Q=>ty σ H λy H1=>td σ H1 λx H2=>∃a o,x=.ref a/\DGet H2 a y o/\Q (.bl o.isSome) H2
def xF(ty td:TE):TE:=λσ H Q=>ty σ H λy H1=>td σ H1 λx H2=>∃a o,x=.ref a/\DGet H2 a y o/\Q (.bl (!o.isSome)) H2
inductive IsP(x y v:V)(H:Hp)(R:Hp->Prop):Prop
 |mk (a:LN) (H':Hp) (h0:x=.ref a) (h1:DPut H a y v H') (q:R H'):IsP x y v H R
def Eg(td ty tv:TE):TS:=λD σ H=>tv σ H λv H1=>td σ H1 λx H2=>ty σ H2 λy H3=>IsP x y v H3 (D.nx σ)
section
variable{X:Cx}{pos:Pos}
def Fo(hu:X.A.units+1<cLine)(ho:PE X o td)(hi:PE X i ty)(hs:BQ i):PE X (.Subscript o i pos) (Ek td ty):=by intro L4 s σ H Q I h;refine F5 PySem.F.slot_dict_getitem.lookup hs (thn (ho L4 s σ H _ I h) λu s1 ⟨x,H1,I1,rx,q1⟩=>thn (hi L4 s1 σ H1 _ I1 q1) λiv s2 hz9=>?_);exists[y,H2,I2,ry,a,v,ex,g,q2],hz9;subst ex;obtain rfl:u=Value.ref a:=rx;exact#[vZ I2 g,zX hu I2 g ry λw' s3 I3 rw'=>#[v,H2,I3,rw',q2]]
def Hy(hu:X.A.units+1<cLine)(hi:PE X i ty)(ho:PE X o td):PC X .In i o (ID ty td):=by intro L4 s σ H Q I h;refine thn (hi L4 s σ H _ I h) λiv s1 ⟨y,H1,I1,ry,q1⟩=>thn (ho L4 s1 σ H1 _ I1 q1) λu s2 hz9=>?_;exists[x,H2,I2,rx,a,ov,ex,g,q2],hz9;subst ex;obtain rfl:u=Value.ref a:=rx;exact JU hu I2 g ry λs3 I3=>#[.bl ov.isSome,H2,I3,rfl,q2]
def A5(hu:X.A.units+1<cLine)(hi:PE X i ty)(ho:PE X o td):PC X .NotIn i o (xF ty td):=by intro L4 s σ H Q I h;refine thn (hi L4 s σ H _ I h) λiv s1 ⟨y,H1,I1,ry,q1⟩=>thn (ho L4 s1 σ H1 _ I1 q1) λu s2 hz9=>?_;exists[x,H2,I2,rx,a,ov,ex,g,q2],hz9;subst ex;obtain rfl:u=Value.ref a:=rx;exact EF hu I2 g ry λs3 I3=>#[.bl (!ov.isSome),H2,I3,rfl,q2]
def FF(hu:X.A.units+1<cLine)(ho:PE X o td)(hi:PE X i ty)(hv:PE X value tv)(hs:swapsWith value (some (.Subscript o i pos')) pos.line X.env=pure false) :
  PS X (.Assign [.Subscript o i pos'] value pos) (Eg td ty tv):=by
 intro L4 s σ H D I h;refine wpAny_Assign_Subscript (thn (hv L4 s σ H _ I h) λr s1 ⟨v,H1,I1,rv,q1⟩=>thn (ho L4 s1 σ H1 _ I1 q1) λu s2 ⟨x,H2,I2,rx,q2⟩=>thn (hi L4 s2 σ H2 _ I2 q2) λiv s3 hz9=>?_) hs;exists[y,H3,I3,ry,a,H4,ex,g,q3],hz9;subst ex;obtain rfl:u=Value.ref a:=rx;exact zY hu I3 g ry rv λs4 I4=>#[σ,H4,I4,q3]
end
def B1{w:LU}(h:Heap)(hb:sysModules<h.objs.size):ObjOk P w H (h.push { cls:=.type "dict",data:=.dict #[] }) h.objs.size (.dK []) :=
 #[Zy _,Yg.mpr (y7 (Zx hb)),[],.nil,Heap.DictOf.new h]
def B2{w:LU}(h:Heap)(hb:sysModules<h.objs.size):ObjOk P w H (h.push { cls:=.type "dict",data:=.dict #[] }) h.objs.size (.dT []) :=
 #[Zy _,Yg.mpr (y7 (Zx hb)),[],.nil,_,#[],0,Zk _ rfl,#[rfl,rfl,rfl],rfl,rfl,List.nodup_nil]
def Bw:TE:=λ_ H Q=>∀p,H p=none->Q (.ref p) (upd H p (.dT []))
section
def CK:PE X (.Dict [] [] pos) Bw:=λL4 s σ H Q I h =>
 wpAny_Dict_empty #[.ref s.heap.objs.size,_,I.laid (a:=s.heap.objs.size) (o:=.dT []) (t':=s.toks) (λ_ _ q=>Za _ q) (Ze _) (B2 s.heap I.big),rfl,h _ (I.hok.fresh (Ze _))]
end
def vQ:List (TE×TE)->St->Hp->(List (V×V)->Hp->Prop)->Prop
 | [],_,H,Q=>Q [] H
 |(tk,tv)::r,σ,H,Q=>tk σ H λx H1=>tv σ H1 λy H2=>vQ r σ H2 λps H3=>Q ((x,y)::ps) H3
abbrev VV:List (V×V)->List (LP×LP)->Prop:=Paired λp q=>RelV p.1 q.1/\RelV p.2 q.2
def PPs(X:Cx)(pos:Pos)(keys:List (Option L3))(values:List L3)(trs:List (TE×TE)):Prop :=
 ∀(L4:LJ) (s:LO) (σ:St) (H:Hp) (Q:List (V×V)->Hp->Prop),Inv X L4 σ H s->vQ trs σ H Q ->
  wpAny (model X.prog X.w) X.A (evalPairs (pairTrees keys values X.env pos)) (λvs s'=>∃ps H',Inv X L4 σ H' s'/\VV ps vs/\Q ps H') X.xe s
def FE:PPs X pos [] [] []:=λL4 s σ H Q I h=>pairTrees_nil_walk #[[],H,I,.nil,h]
def CW{k v:L3}(hk:PE X k tk)(hv:PE X v tv)(hr:PPs X pos ks vs trs):
  PPs X pos (some k::ks) (v::vs) ((tk,tv)::trs):=λL4 s σ H Q I h =>
 pairTrees_cons_walk (thn (hk L4 s σ H _ I h) λu s1 ⟨x,H1,I1,rx,q1⟩=>thn (hv L4 s1 σ H1 _ I1 q1) λw2 s2 ⟨y,H2,I2,ry,q2⟩ =>
  thn (hr L4 s2 σ H2 _ I2 q2) λws s3 ⟨ps,H3,I3,rel,q3⟩=>#[(x,y)::ps,H3,I3,.cons #[rx,ry] rel,q3])
def dJ(kvs more:List (Key×V)):List (Key×V):=more.foldl (λacc kv=>bP acc kv.1 kv.2) kvs
def KV.merge:∀{more:List (Key×V)} {rs:List (Key×LP)} {kvs:List (Key×V)} {vs:List (Key×LP)},KV more rs->KV kvs vs->KV (dJ kvs more) (merged vs rs):=by
 intro more rs kvs vs r;unfold KV at r;induction r generalizing kvs vs with
 |nil=>intro q;exact q
 |@cons p q ps qs h t ih =>
  intro r0;have e:KV (bP kvs p.1 p.2) (stored vs q.1 q.2):=by have:=r0.put p.1 h.2;rw[<-h.1];exact this
  exact ih e
theorem jZ:∀(more kvs:List (Key×V)),(dJ kvs more).length<=kvs.length+more.length
 | [],kvs=>by show kvs.length<=kvs.length+0;omega
 |p::r,kvs=>by have h1:=jZ r (bP kvs p.1 p.2);have h2:=iK kvs p.1 p.2;show(dJ (bP kvs p.1 p.2) r).length<=_;rw[Zl];omega
theorem oM{w:LU}:∀{kvs:List (Key×V)} {ws:List (LP×LP)},VV (kvs.map λkv=>(kV kv.1,kv.2)) ws->∃rs,Carries (ba P w) ws rs/\KV kvs rs
 | [],_,r=>by rw[YN]at r;cases r;exact#[[],True.intro,.nil]
 |p::kvs,_,r=>by
  rw[Zs]at r;cases r with
  |@cons a b as bs h t =>exists[rs,c,q],oM (P:=P) (w:=w) t;exists[b1,b2],b;exact#[(p.1,b2)::rs,#[mq h.1,rfl,c],.cons #[rfl,h.2] q]
def El(trs:List (TE×TE)):TE:=λσ H Q=>∀p,H p=none->vQ trs σ (upd H p (.dK [])) λps H2=>H2 p=some (.dK [])/\∃kvs:List (Key×V),ps=kvs.map (λkv=>(kV kv.1,kv.2))/\kvs.length<=15/\Q (.ref p) (upd H2 p (.dK (dJ [] kvs)))
def Fp(h:PPs X pos keys values trs)(hall:keys.all (·.isSome)=true)(hl:keys.length=values.length)(h0:keys≠[])(h15:keys.length<=15):PE X (.Dict keys values pos) (El trs):=by
 intro L4 s σ H Q I q;have hn:=I.hok.fresh (Ze s.heap.objs.size);have I1:=I.laid (a:=s.heap.objs.size) (o:=.dK []) (h':=s.heap.push { cls:=.type "dict",data:=.dict #[] }) (t':=s.toks) (λ_ _ q=>Za _ q) (Ze _) (B1 s.heap I.big);refine wpAny_Dict_walk (knd:=ba X.prog X.w) hall hl h0 h15 (thn (h L4 _ σ _ _ I1 (q _ hn)) λws s2 hz9=>?_);exists[ps,H2,I2,rel,e,kvs,ep,lk,q2],hz9;subst ep;exists[rs,c,rk],oM (P:=X.prog) (w:=X.w) rel;exists[z,hd,vs0,r0,dd],DO I2.hok e;cases r0;refine#[rs,c,dd,λh' dd' hs=>#[.ref s.heap.objs.size,_,?_,rfl,q2]];have hz:(dJ [] kvs).length<=sizeLine:=by have h1:=jZ kvs [];rw[List.length_nil]at h1;rw[sizeLine_eq];omega
 have he:∃q,h'.get? s.heap.objs.size=some q:=let⟨q,_,_,hq,_⟩:=dd';#[q,hq]
 exact lX I2 (by rw[e];exact True.intro) hs he (Ac hz hd (rk.merge .nil) dd')
structure M1(X:Cx)(o:L3)(m:Str)(apos:Pos)(e:L3)(cpos:Pos):Prop where
 base:attributeBase o m X.env (eval o X.env)=eval o X.env
 few:((backTo cpos (starEach [e] X.env)).all (λx=>!x.1)&&(backToKw cpos (keywordEach [] X.env)).all (λx=>x.1.isSome)
 &&decide (([e]:List L3).length+([]:List Keyword).length+(if ([]:List Keyword).isEmpty then 0 else 1)<30))=true
 line:(apos.endLine==cpos.line)=true
 trees:backTo cpos (starEach [e] X.env)=[(false,eval e X.env)]
structure M2(X:Cx)(o:L3)(m:Str)(apos:Pos)(e f:L3)(cpos:Pos):Prop where
 base:attributeBase o m X.env (eval o X.env)=eval o X.env
 few:((backTo cpos (starEach [e,f] X.env)).all (λx=>!x.1)&&(backToKw cpos (keywordEach [] X.env)).all (λx=>x.1.isSome)
 &&decide (([e,f]:List L3).length+([]:List Keyword).length+(if ([]:List Keyword).isEmpty then 0 else 1)<30))=true
 line:(apos.endLine==cpos.line)=true
 trees:backTo cpos (starEach [e,f] X.env)=[(false,eval e X.env),(false,eval f X.env)]
end L2
namespace Att
open PySem PySem.W PySem.Calls PyProof.Rows
def oX:∀(ns:LX) (vs:LM),WellAll P h vs (ns.map WData.int)->IntsAre vs ns:=by
 intro ns;induction ns with
 |nil =>intro vs w;rw[YN]at w;cases w;exact .nil
 |cons n ns ih =>
  intro vs w;rw[Zs]at w;cases w with
  |cons a b =>cases a;exact .cons _ _ (ih _ b)
def Bq{l:OpenLaw}{n:Nat}(hn:l.most=some n){vals:LM}(hpre:l.row.toRowW.claim.pre args=true)(hwl:WellAll P h vals args):
  ∃a vs ns,vals=[Value.ref a]/\args=[WData.list (ns.map WData.int)]/\h.get? a=some { cls:=.type "list",data:=.seq vs.toArray }/\IntsAre vs ns/\ns.length<=n:=by
 have hsh:WShape.hasAll [] args [.list .int]=true:=(pre_splitW hpre).1;have hc:l.pre.holds [] { args:=args }=true:=(pre_splitW hpre).2;exists[d,r,rfl,h1,h2],hasAllW_cons hsh;obtain rfl:=hasAllW_nil h2;exists[xs,rfl,h3],hasW_list h1;exists[ns,rfl],items_int h3;have hlen:ns.length<=n:=by
  unfold OpenLaw.pre at hc;have h4:(WTm.not (.lt (.lit (.int (n:Int))) (.len (.arg 0)))).holds [] { args:=[.list (ns.map .int)] }=true:=by have h4:=(holds_andW hc).1;rw[hn]at h4;exact h4
  have h5:=condW_of h4 (w_not (w_lt w_lit (w_len_list (w_arg rfl))));rw[Zd]at h5;refine Nat.le_of_not_lt λq=>?_;have q':(n:Int)<((ns.length:Nat):Int):=∅
  first
   |(rw[decide_eq_true q']at h5;exact absurd h5 ⋯)
   |(simp at h5;omega)
 cases hwl with
 |cons w1 w2 =>
  cases w2;cases w1 with
  |list ho hall=>exact#[_,_,ns,rfl,rfl,ho,oX ns _ hall,hlen]
def Bb(l:OpenLaw)(args:List WData):l.row.toRowW.claim.post args (.bool true) args=true :=
 postW_of (r:=l.row.toRowW) (X:=(true==true))
  (show WShape.has [] (.bool true) .bool=true by first|rfl|decide|simp[WShape.has,WShape.arms,WShape.armsAll])
  (show(WTm.eq .res (.lit (.bool true))).value [] { args:=args,res:=some (.bool true),after:=args }=some (.bool (true==true))from w_eq_bool (w_res rfl) w_lit) rfl
def attach_call{l:OpenLaw}{n:Nat}{XP:(LL)->Heap->Prop}{YP:LU->Heap->Prop}{d:DefRec}(hn:l.most=some n)(hdf:d.params.defaults=[])(call:∀ (w:LU) (s₀ s₁:LO) (mg mb:LL) (fa:LN) (o:Obj) (pm cd doc:LP) (a:LN) (vs:LM) (ns:LX),
   Ground q loose [] XP w s₀ mg mb s₁.heap->YP w s₁.heap ->
   s₁.heap.get? fa=some o->o.data=.func (docDef d.name d.params d.body d.scope pm cd doc)->s₁.heap.CodeRec cd d.name->mg d.name=some (.ref fa) ->
   s₁.heap.get? a=some { cls:=.type "list",data:=.seq vs.toArray }->IntsAre vs ns->ns.length<=n->s₁.gens=#[] ->
   codeAny (model l.prog w) callerA (.call (.ref fa) #[[.ref a],[]]) (λr s'=>r=.ok (.ret (.bool true))/\OldK s₁.heap s'.heap/\s'.os=s₁.os/\AllBare s'.gens) s₁):
  WalkO q loose XP YP l.row.toRowW d [] (λf vs=>PySem.call f vs):=by
 intro w s₀ s₁ mg mb G Y fa o pm cd doc dV kV ho hd hcd hD hmg hg args vals as hpre hlay hrd hwl hlo;obtain rfl:dV=.none:=Dflts.none hD hdf;obtain rfl:kV=.none:=Dflts.noKw hD;exists[a,vs,ns,rfl,rfl,hobj,hints,hlen],Bq hn hpre hwl;refine enter_call (codeAny_mono (call w s₀ s₁ mg mb fa o pm cd doc a vs ns G Y ho (fd_plain hd) hcd hmg hobj hints hlen hg) λr s' hq=>?_);exists[rfl,h2,h3,h4],hq;exact#[.inl #[.bool true,.bool true,[],rfl,λ_=>rfl,.bool true,Bb l _,λ_=>#[List.Pairwise.nil,λ_ hm=>(nomatch hm)]],h2,h3,h4]
end Att
namespace L2
open PySem PySem.Spec PyProof.Rows
theorem rX:∀{vs:LM} {ns:LX},IntsAre vs ns->Vals (ns.map V.int) vs
 |_,_,.nil=>.nil
 |_,_,.cons n t h=>.cons #[t,rfl] (rX h)
def bU(s:Stmt)(j:Nat):Stmt:=match s with
 |.ClassDef _ _ _ body _ _ _ _ _ _ _=>body.getD j (.Pass #[0,0,0,0])
 |_=>.Pass #[0,0,0,0]
def dC(s:Stmt):Arguments:=match s with
 |.FunctionDef _ a _ _ _ _ _ _ _ _=>a
 |_=>{ posonlyargs:=[],args:=[],vararg:=none,kwonlyargs:=[],kw_defaults:=[],kwarg:=none,defaults:=[] }
def bK(s:Stmt):List Stmt:=match s with
 |.FunctionDef _ _ b _ _ _ _ _ _ _=>b
 |_=>[]
def aj(s:Stmt):Scope:=match s with
 |.FunctionDef _ _ _ _ _ _ sc _ _ _=>sc
 |_=>{ kind:=.function,names:=[],isGenerator:=false,isCoroutine:=false }
abbrev CX0:CXT:=λ_ _ _ _ _ _=>False
abbrev E0:XK:=λ_ _ _=>False
def pK:fY CX0 X E0:=λ_ _ _ _ _ _ _ h=>h.elim
structure Fun(K:W.Frag)(x qual:Str)(st:Stmt)(f:LN)(fd:LW):Prop where
 ex:∃(oc:LP) (od:Option LN) (kV doc pm:LP) (an:Option LN) (cdv ct:LP) (osl:Array (Option LP)),
  fd=W.fnOf x qual (dC st) (bK st) (aj st) .none kV doc pm an cdv ct/\K.lookup f=some #[oc,od,.func fd,osl]/\W.codeIn K cdv qual=true
 kp:W.keepIn K (.ref f)=true
section
variable{K:W.Frag}
def Fun.ok{st:Stmt}{k:Nat}{sp:Sp}(F:Fun K x qual st f fd)(S:FnScope N ps (aj st))(len:∀ vs H Q E,sp vs H Q E->vs.length=ps.length)(hbody:∀ (cdv:LP) (A:LV) (outer:List Env) (s:LO) (H:Hp) (vs:List V) (Q:VK) (E:XK),Room k (A.deeper (envOfC qual (aj st) s.heap.objs.size f cdv))->sp vs H Q E ->
   ∃ t,PSs (fq CX0 P w K mg base N qual (aj st) f cdv A outer s H E).nox (bK st) t/\t { nx:=λ_ H'=>Q .non H',rt:=Q } (start N vs) H):↑FnOk CX0 (k+1) f fd ps sp:=by
 exists[oc,od,kV,doc,pm,an,cdv,ct,osl,rfl,lk,hcd],F.ex;refine DQ lk hcd S len λA outer s H vs Q E hr hsp=>?_;exists[t,h,q],hbody cdv A outer s H vs Q E hr hsp;exact#[t,h.nox,q]
def Fun.binds{st:Stmt}{ps:List Str}(F:Fun K x qual st f fd)(h:∀(kV doc pm:LP) (an:Option LN) (cdv ct:LP) (us:LM),us.length=ps.length->bindArgs (W.fnOf x qual (dC st) (bK st) (aj st) .none kV doc pm an cdv ct) #[us,[]]=pure (ps.zip us)):Binds K fd ps []:=by exists[oc,od,kV,doc,pm,an,cdv,ct,osl,rfl,lk,hcd],F.ex;exact .all (h kV doc pm an cdv ct)
def Ak{st:Stmt}{kV doc pm cdv ct:LP}(l:K.lookup f=some #[oc,od,.func (W.fnOf x qual (dC st) (bK st) (aj st) .none kV doc pm an cdv ct),osl])(c:W.codeIn K cdv qual=true)(k:W.keepIn K (.ref f)=true):Fun K x qual st f (W.fnOf x qual (dC st) (bK st) (aj st) .none kV doc pm an cdv ct):=#[#[oc,od,kV,doc,pm,an,cdv,ct,osl,rfl,l,c],k]
end
def cD{n:Nat}(h:n<=1000):n<sizeLine:=Y5 h ⋯
def aJ{A B:Prop}(h:B):if false=true then A else B:=by rw[LH Zv];exact h
def aP(h:A):if true=true then A else B:=by rw[LI rfl];exact h
def GS[Decidable c](h1:c->A)(h2:¬c->B):if c then A else B:=by
 by_cases h:c
 ·rw[LI h];exact h1 h
 ·rw[LH h];exact h2 h
def DY{c A B:Prop}[Decidable c](hc:c)(h:B):if(!decide c)=true then A else B:=by rw[decide_eq_true hc];exact aJ h
def Same(H H':Hp):Prop:=∀b o,H b=some o->H' b=some o
def Same.refl(H:Hp):Same H H:=λ_ _ h=>h
def Same.trans(a:Same H H1)(b:Same H1 H2):Same H H2:=λc o h=>b c o (a c o h)
def Same.free(e:Same H H')(h:H' l=Option.none):H l=Option.none:=by
 cases q:H l with
 |none=>rfl
 |some o =>rw[e l o q]at h;cases h
def Same.seq{K:W.Frag}(e:Same H H')(h:SqL K H a xs):SqL K H' a xs:=by
 rcases h with(h|⟨o,h⟩)|h
 ·exact .inl (.inl (e _ _ h))
 ·exact .inl (.inr #[o,e _ _ h])
 ·exact .inr h
section
variable{κ:Type}[DecidableEq κ]
def DF{kvs:List (κ×V)}{k:κ}(h:bI kvs k=none):¬k∈kvs.map (·.1):=by intro m;exists[p,hp,e],Zw.mp m;have q:(kvs.any λkv=>decide (kv.1=k))=true:=Yu.mpr #[p,hp,decide_eq_true e];rw[fQ,h]at q;exact absurd q (by simp)
def Gb{kvs:List (κ×V)}{k:κ}{v:V}(h:bI kvs k=some v):k∈kvs.map (·.1):=by
 have q:(kvs.any λkv=>decide (kv.1=k))=true:=by
  rw[fQ,h]
  all_goals rfl
 exists[p,hp,e],Yu.mp q;exact Zw.mpr #[p,hp,ZZ e]
end
theorem jd{env:Env}:∀{names:List (Str×NameKind)} {x:Str} {k:NameKind},
  (names.map fun(n,k)=>if(k==NameKind.free&&env.scope.kind == .function&&env.kindOf n==some .cell)then(n,NameKind.cell)else(n,k)).lookup x=some k ->
  ∃k',names.lookup x=some k'/\(k=k'\/(k'=.free/\k=.cell))
 | [],_,_,h=>by simp at h
 |(n,k0)::r,x,k,h=>by
  have ih:=@jd env r x k;rw[Zs]at h;by_cases hc:(k0==NameKind.free&&env.scope.kind == .function&&env.kindOf n==some .cell)=true
  ·have e:(if(k0==NameKind.free&&env.scope.kind == .function&&env.kindOf n==some .cell)=true then(n,NameKind.cell)else(n,k0))=(n,NameKind.cell):=LI hc;simp only[e]at h;cases hx:x==n with
   |true =>
    simp only[ZX,hx]at h ⊢;have hf:k0=.free:=by have:=hc;simp only[ZK,YK]at this;exact this.1.1
    exact#[k0,rfl,.inr #[hf,(ZB h).symm]]
   |false =>simp only[ZX,hx]at h ⊢;exact ih h
  ·have e:(if(k0==NameKind.free&&env.scope.kind == .function&&env.kindOf n==some .cell)=true then(n,NameKind.cell)else(n,k0))=(n,k0):=LH hc;simp only[e]at h;cases hx:x==n with
   |true =>simp only[ZX,hx]at h ⊢;exact#[k0,rfl,.inl (ZB h).symm]
   |false =>simp only[ZX,hx]at h ⊢;exact ih h
theorem lA{env:Env}:∀{names:List (Str×NameKind)} {x:Str},names.lookup x=some .free ->
  (names.map fun(n,k)=>if(k==NameKind.free&&env.scope.kind == .function&&env.kindOf n==some .cell)then(n,NameKind.cell)else(n,k)).lookup x=some .cell \/
  (names.map fun(n,k)=>if(k==NameKind.free&&env.scope.kind == .function&&env.kindOf n==some .cell)then(n,NameKind.cell)else(n,k)).lookup x=some .free
 | [],_,h=>by simp at h
 |(n,k0)::r,x,h=>by
  have ih:=@lA env r x;rw[Zs];by_cases hc:(k0==NameKind.free&&env.scope.kind == .function&&env.kindOf n==some .cell)=true
  ·have e:(if(k0==NameKind.free&&env.scope.kind == .function&&env.kindOf n==some .cell)=true then(n,NameKind.cell)else(n,k0))=(n,NameKind.cell):=LI hc;simp only[e];cases hx:x==n with
   |true =>
    simp only[ZX,hx]at h ⊢
    first|exact .inl rfl|exact .inl trivial
   |false =>simp only[ZX,hx]at h ⊢;exact ih h
  ·have e:(if(k0==NameKind.free&&env.scope.kind == .function&&env.kindOf n==some .cell)=true then(n,NameKind.cell)else(n,k0))=(n,k0):=LH hc;simp only[e];cases hx:x==n with
   |true =>simp only[ZX,hx]at h ⊢;exact .inr h
   |false =>simp only[ZX,hx]at h ⊢;exact ih h
def bZ(env:Env):List (Str×NameKind)->List (Str×LN)->List (Str×LN)
 | [],acc=>acc
 |y::r,acc=>if(y.2==NameKind.free)=true then bZ env r ((y.1,(env.cells.lookup y.1).getD 0)::acc)else bZ env r acc
theorem qr{env:Env}:∀{names:List (Str×NameKind)} {acc:List (Str×LN)},(∀y∈names,y.2=.free->∃c,env.cells.lookup y.1=some c) ->
  (forIn names acc fun(x:Str×NameKind) (cs:List (Str×LN))=>if(x.2==NameKind.free)=true then do let c ←cellOf env x.1;pure (ForInStep.yield ((x.1,c)::cs))else pure (ForInStep.yield cs):Sem (List (Str×LN)))=pure (bZ env names acc)
 | [],_,_=>rfl
 |y::r,acc,h=>by
  rw[List.forIn_cons];by_cases hy:(y.2==NameKind.free)=true
  ·exists[c,hc],h y Zo (by simpa using hy);have e:cellOf env y.1=pure c:=by unfold cellOf;rw[hc]
   rw[LI hy,e,pure_bind,pure_bind];show(forIn r ((y.1,c)::acc) _:Sem (List (Str×LN)))=_;rw[qr λz hz=>h z (Zn _ hz)];show _=pure (if(y.2==NameKind.free)=true then bZ env r ((y.1,(env.cells.lookup y.1).getD 0)::acc)else bZ env r acc);rw[LI hy,hc];rfl
  ·rw[LH hy,pure_bind];show(forIn r acc _:Sem (List (Str×LN)))=_;rw[qr λz hz=>h z (Zn _ hz)];show _=pure (if(y.2==NameKind.free)=true then bZ env r ((y.1,(env.cells.lookup y.1).getD 0)::acc)else bZ env r acc);rw[LH hy]
def ED{scope:Scope}{env:Env}(h:∀y∈scope.names,y.2=.free->∃c,env.cells.lookup y.1=some c):closureFor scope env=pure (bZ env scope.names []):=by have q:=qr (env:=env) (names:=scope.names) (acc:=[]) h;unfold closureFor;exact(by first|(simp only[bind_pure];exact q)|(rw[bind_pure];exact q)|exact q)
theorem qt{env:Env}:∀{names:List (Str×NameKind)} {acc:List (Str×LN)},(∀y∈names,y.2=.free->∃c,env.cells.lookup y.1=some c)->(∀x c,acc.lookup x=some c->env.cells.lookup x=some c) ->
  ∀x c,(bZ env names acc).lookup x=some c->env.cells.lookup x=some c
 | [],_,_,ha=>ha
 |y::r,acc,h,ha=>by
  have hr:∀z∈r,z.2=.free->∃c,env.cells.lookup z.1=some c:=λz hz=>h z (Zn _ hz);intro x c e;unfold bZ at e;by_cases hy:(y.2==NameKind.free)=true
  ·rw[LI hy]at e;refine qt hr (λx' c' e'=>?_) x c e;exists[d,hd],h y Zo (by simpa using hy);rw[hd,Option.getD_some]at e';cases hx:x'==y.1 with
   |true =>simp only[ZX,hx]at e';have e1:x'=y.1:=eq_of_beq hx;rw[e1,hd];exact e'
   |false =>simp only[ZX,hx]at e';exact ha x' c' e'
  ·rw[LH hy]at e;exact qt hr ha x c e
theorem nE:∀{names:List (Str×NameKind)} {acc:List (Str×LN)} {x:Str},(∃c,acc.lookup x=some c)->∃c,(bZ env names acc).lookup x=some c
 | [],_,_,h=>h
 |y::r,acc,x,h=>by
  unfold bZ;by_cases hy:(y.2==NameKind.free)=true
  ·rw[LI hy];refine nE ?_;cases hx:x==y.1 with
   |true=>exact#[(env.cells.lookup y.1).getD 0,by simp only[ZX,hx]]
   |false =>exists[c,e],h;exact#[c,by simp only[ZX,hx];exact e]
  ·rw[LH hy];exact nE h
theorem qp:∀{names:List (Str×NameKind)} {acc:List (Str×LN)} {x:Str},names.lookup x=some .free->∃c,(bZ env names acc).lookup x=some c
 | [],_,_,h=>by simp at h
 |(n,k)::r,acc,x,h=>by
  unfold bZ;cases hx:x==n with
  |true =>
   simp only[ZX,hx]at h;have hy:(k==NameKind.free)=true:=by rw[ZB h];rfl
   rw[LI hy];exact nE #[(env.cells.lookup n).getD 0,by simp only[ZX,hx]]
  |false =>
   simp only[ZX,hx]at h;by_cases hy:(k==NameKind.free)=true
   ·rw[LI hy];exact qp h
   ·rw[LH hy];exact qp h
abbrev aV(X:Cx)(scope:Scope)(N':List Str)(C:LN)(s0:LO)(H0:Hp)(ex:List LN):Cx where
 prog:=X.prog
 w:=X.w
 K:=X.K
 mg:=X.mg
 base:=X.base
 A:=X.A
 N:=N'
 s₀:=s0
 H₀:=H0
 env:=compEnvC scope (bZ X.env scope.names []) C X.env
 outer:=X.stack
 stack:=X.stack
 ex:=ex
 fn:=λ_=>false
 calm:=X.calm
 pn:=[]
 xe:=λ_ _=>False
def CapOk(X:Cx)(sc:Scope):List Nat->List Str->Prop
 | [],[]=>True
 |j::js,x::xs=>X.N[j]?=some x/\sc.names.lookup x=some .free/\CapOk X sc js xs
 |_,_=>False
theorem CapOk.get:∀{js:List Nat} {xs:List Str} {i:Nat} {x:Str},CapOk X sc js xs->xs[i]?=some x ->
  ∃j,js[i]?=some j/\X.N[j]?=some x/\sc.names.lookup x=some .free
 | [],[],_,_,_,e=>by simp at e
 |j::js,y::xs,0,x,h,e=>by
  exists[h1,h2,_],h;have e':y=x:=by simpa using e
  subst e';exact#[j,rfl,h1,h2]
 |j::js,y::xs,i+1,x,h,e=>by exists[_,_,h6],h;exists[j',q],CapOk.get (i:=i) (x:=x) h6 (by simpa using e);exact#[j',by simpa using q.1,q.2]
 | [],_::_,_,_,h,_=>h.elim
 |_::_,[],_,_,h,_=>h.elim
theorem CapOk.len:∀{js:List Nat} {xs:List Str},CapOk X sc js xs->js.length=xs.length
 | [],[],_=>rfl
 |j::js,y::xs,h=>by exists[_,_,h6],h;simp[CapOk.len h6]
 | [],_::_,h=>h.elim
 |_::_,[],h=>h.elim
structure CompOk(X:Cx)(scope:Scope)(cap:List Nat)(capN:List Str):Prop where
 kind:scope.kind=.function
 names:∀x∈scope.names,x.2=.local->scope.names.lookup x.1=some .local
 nocell:∀y∈scope.names,y.2≠.cell
 frees:(scope.names.all λy=>!(y.2==NameKind.free) ||(X.env.kindOf y.1==some .cell ||X.env.kindOf y.1==some .free))=true
 cap:CapOk X scope cap capN
section
variable{X:Cx}{scope:Scope}{cap:List Nat}{capN:List Str}
def CompOk.around(O:CompOk X scope cap capN)(hy:y∈scope.names)(hf:y.2=.free):X.env.kindOf y.1=some .cell\/X.env.kindOf y.1=some .free:=by have q:=List.all_eq_true.mp O.frees y hy;rw[hf]at q;simpa using q
def CompOk.cells(O:CompOk X scope cap capN)(ok:X.Ok):∀y∈scope.names,y.2=.free->∃c,X.env.cells.lookup y.1=some c:=λy hy hf=>ok.has _ (O.around hy hf)
def CompOk.clos(O:CompOk X scope cap capN)(ok:X.Ok):closureFor scope X.env=pure (bZ X.env scope.names []):=ED (O.cells ok)
def CompOk.sub(O:CompOk X scope cap capN)(ok:X.Ok):∀x c,(bZ X.env scope.names []).lookup x=some c->X.env.cells.lookup x=some c:=qt (O.cells ok) λx c e=>by simp at e
def CompOk.has(_O:CompOk X scope cap capN)(h:scope.names.lookup x=some .free):∃c,(bZ X.env scope.names []).lookup x=some c:=qp h
end
def bw(n:Nat)(cap:List Nat)(σ:St):St:=List.replicate n none++cap.map (λj=>(σ[j]?).join)
def ye{n:Nat}:(bw n cap σ).length=n+cap.length:=by unfold bw;rw[Zi,List.length_replicate,Zd]
def oN{n:Nat}{i:Nat}(h:(bw n cap σ)[i]?=some (some v)):n<=i/\∃j,cap[i-n]?=some j/\σ[j]?=some (some v):=by
 unfold bw at h;by_cases hi:i<n
 ·rw[ZS (by simpa using hi),List.getElem?_replicate]at h;rw[LI hi]at h;cases h
 ·have hi':n<=i:=Nat.le_of_not_lt hi;rw[ZF (by simpa using hi'),List.length_replicate,Zq]at h;refine#[hi',?_];cases e:cap[i-n]? with
  |none=>rw[e]at h;cases h
  |some j =>
   rw[e]at h;refine#[j,rfl,?_];have h':(σ[j]?).join=some v:=by simpa using h
   cases q:σ[j]? with
   |none=>rw[q]at h';cases h'
   |some o =>rw[q]at h';have:o=some v:=h';rw[this]
section
variable{s:LO}{N':List Str}
def zV(I:Inv X L4 σ H s)(O:CompOk X scope cap capN)(hC:s.heap.objs.size<=C)(hex:∀b∈ex,aZ X L4 H b/\b<s.heap.objs.size):(aV X scope N' C s H ex).Ok where
 mod:=I.ok.mod
 kind:=O.kind
 glob:=I.ok.glob
 blt:=I.ok.blt
 above:=hC
 inj:=λx y c h1 h2=>I.ok.inj x y c (O.sub I.ok x c h1) (O.sub I.ok y c h2)
 has:=λx hx=>by
  have hx':(relabel scope X.env).names.lookup x=some .cell\/(relabel scope X.env).names.lookup x=some .free:=hx;have key:∀k,(relabel scope X.env).names.lookup x=some k->(k=.cell\/k=.free)->scope.names.lookup x=some .free:=λk e hk=>by
   exists[k',e',q],jd (env:=X.env) e;rcases q with q|⟨q,_⟩
   ·subst q;rcases hk with z|z
    ·subst z;exact absurd rfl (O.nocell _ (Yh e'))
    ·subst z;exact e'
   ·subst q;exact e'
  rcases hx' with e|e
  ·exact O.has (key _ e (.inl rfl))
  ·exact O.has (key _ e (.inr rfl))
 cab:=λx c h _=>by cases h
 hd:=I.ok.hd
 frames:=I.ok.frames
 stk:=.inl rfl
 exf:=λb hb=>by obtain⟨⟨f0,f1,f2,f3,f4,f5⟩,lt⟩:=hex b hb;exact#[Zx (ZA lt hC),λx c e=>f4 x c (O.sub I.ok x c e)]
 bs:=I.bs
 bsz:=Zt I.ok.bsz I.sz
 noex:=λb o e hb=>by
  obtain⟨⟨f0,f1,f2,f3,f4,f5⟩,lt⟩:=hex b hb;rcases f3 with z|z
  ·exact I.ok.noex b o e z
  ·exact absurd (ZA (Zr e) (Zt I.ok.bsz z)) (Yl _)
 exfs:=λb hb z=>by
  obtain⟨⟨f0,f1,f2,f3,f4,f5⟩,lt⟩:=hex b hb;rcases Zf.mp (I.stkSub b z)with e|e
  ·exact f1 e
  ·exact f2 e
 funs:=I.stack
 frf:=I.stkFree
def AQ(I:Inv X L4 σ H s)(hb:s.heap.objs.size<=b):b∉frs X.stack:=λz=>by
 rcases Zf.mp (I.stkSub b z)with e|e
 ·exact absurd (ZA I.lt hb) (by rw[e];exact Yl _)
 ·exact I.nofs hb e
def Cu(I:Inv X L4 σ H s)(hb:s.heap.objs.size<=b):∀x c,X.env.cells.lookup x=some c->c≠b:=λx c e z=>by exists[v,q],I.cell x c e;exact absurd (ZA q.lt (by rw[z];exact hb)) (Yl _)
def yg{n:Nat}{h1:Heap}{tk:Nat}(I:Inv X L4 σ H s)(O:CompOk X scope cap capN)(hN:N'.length=n+capN.length)(hN2:∀i x,n<=i->N'[i]?=some x->capN[i-n]?=some x)(hC:s.heap.objs.size<=C)(hex:∀b∈ex,aZ X L4 H b/\b<s.heap.objs.size)(hk:∀b o,s.heap.get? b=some o->h1.get? b=some o)(hn:h1.Ns C m1):Inv (aV X scope N' C s H ex) [] (bw n cap σ) H { s with heap:=h1,toks:=tk }:=by
 refine#[zV I O hC hex,rfl,I.bare,Un.kept hk,#[m1,hn,λi x v e1 e2 e3=>?_],λx c e=>?_,I.hok.fresh hC,λx c e=>I.freeC x c (O.sub I.ok x c e),λp hp=>absurd (show p∈([]:LJ)from hp) (by simp),I.hok.kept hk,?_]
 ·exists[hi,j,ej,es],oN e2;exists[j',q1,q2,qf],O.cap.get (hN2 i x hi e1);have q3:=O.around (Yh qf) rfl;have q4:=lA (env:=X.env) qf;exists[c,q5],O.has qf;have q6:=O.sub I.ok x c q5;rw[q1]at ej;cases ej;exists[m0,hn0,hl0],I.loc;exists[u,r,l],hl0 _ x v q2 es (by
   rcases q3 with z|z
   ·exact .inr (.inl z)
   ·exact .inr (.inr z))
  refine#[u,r,.inr #[q4,c,q5,?_]];rcases l with⟨k,_⟩|⟨_,c',e',z⟩
  ·rcases q3 with z|z
   ·have z':X.env.kindOf x=some .cell:=z;rw[z']at k;cases k
   ·have z':X.env.kindOf x=some .free:=z;rw[z']at k;cases k
  ·rw[q6]at e';cases e';exists[o,ho,hd],z;exact#[o,hk _ _ ho,hd]
 ·exists[v,o,ho,hd],I.cell x c (O.sub I.ok x c e);exact#[v,o,hk _ _ ho,hd]
 ·rw[ye,O.cap.len];exact hN.symm
end
def qi(X:Cx)(ifs:List L3)(t:TT):Prop :=
 ∀(L4:LJ) (s:LO) (σ:St) (H:Hp) (Q:Bool->Hp->Prop),Inv X L4 σ H s->t σ H Q ->
  wpAny (model X.prog X.w) X.A (forIn ifs true λc r=>if r=true then do let ok ←isTrue c X.env (eval c X.env);pure (ForInStep.yield ok)else pure (ForInStep.yield r)) (TP X L4 σ Q) X.xe s
def dZ:TT:=λ_ H Q=>Q true H
def CU:qi X [] dZ:=λ_ _ _ H _ I h=>wpAny_tests_nil #[H,I,h]
def CV{t:TT}(h:PT X c t):qi X [c] t:=λL4 s σ H Q I hw=>wpAny_tests_one (h L4 s σ H Q I hw)
def GK(n:Nat)(g:TG):Prop:=∀x σ H Q,g x σ H Q->g x σ H (λσ2 H2=>(σ2.length=σ.length/\∀i,n<=i->σ2[i]?=σ[i]?)/\Q σ2 H2)
def aF{n i:Nat}(hi:i<n):GK n (bD i):=λx σ H Q h=>#[#[List.length_set,λj hj=>List.getElem?_set_ne ∅],h]
def GKs(n:Nat)(g:TGs):Prop:=∀xs σ H Q,g xs σ H Q->g xs σ H (λσ2 H2=>(σ2.length=σ.length/\∀i,n<=i->σ2[i]?=σ[i]?)/\Q σ2 H2)
def qw{n:Nat}:GKs n kJ:=λxs σ H Q h=>#[h.1,#[rfl,λ_ _=>rfl],h.2]
def GM(g:TG):Prop:=∀x σ H Q Q',(∀σ2 H2,Q σ2 H2->Q' σ2 H2)->g x σ H Q->g x σ H Q'
def GMs(g:TGs):Prop:=∀xs σ H Q Q',(∀σ2 H2,Q σ2 H2->Q' σ2 H2)->g xs σ H Q->g xs σ H Q'
def dS{i:Nat}:GM (bD i):=λ_ _ _ _ _ f h=>f _ _ h
def gJ:GMs kJ:=λ_ _ _ _ _ f h=>#[h.1,f _ _ h.2]
def nQ{t:TG}(a:GM t)(b:GMs u):GMs (eG t u):=λxs σ H Q Q' f h=>by exists[v,r,e,h],h;exact#[v,r,e,a _ _ _ _ _ (λσ2 H2 z=>b _ _ _ _ _ f z) h]
def fw{n:Nat}{t:TG}(a:GK n t)(m:GM t)(b:GKs n u)(mb:GMs u):GKs n (eG t u):=λxs σ H Q h=>by exists[v,r,e,h],h;refine#[v,r,e,m _ _ _ _ _ (λσ2 H2 z=>?_) (a _ _ _ _ h)];obtain⟨⟨l1,k1⟩,z⟩:=z;refine mb _ _ _ _ _ (λσ3 H3 w=>?_) (b _ _ _ _ z);obtain⟨⟨l2,k2⟩,w⟩:=w;exact#[#[l2.trans l1,λi hi=>(k2 i hi).trans (k1 i hi)],w]
def uD{n m:Nat}{K:W.Frag}{t:TGs}(a:GKs n t):GK n (kK K m t):=λx σ H Q h=>by exists[b,xs,e,h1,h2,h3],h;exact#[b,xs,e,h1,h2,a _ _ _ _ h3]
def cP(n:Nat)(cap:List Nat)(g:TG)(tc:TT)(te:TE)(σ:St)(J:It)(H1:Hp)(Q:VK):Prop :=
 ∃W:Nat->Nat->List V->Hp->Prop,(∃m,W 0 m [] H1)/\∀i m ys H,W i m ys H ->
  (J.stop i H/\∀p,H p=none->Q (.ref p) (upd H p (.lst ys))) \/
  (J.go i H/\ys.length<sizeLine/\∀ x H',J.yld i H x H'->g x (bw n cap σ) H' λσ2 H2=>tc σ2 H2 λb H3 =>
   if b=true then te σ2 H3 λy H4=>∃ m',m'<m/\W (i+1) m' (ys++[y]) H4 else ∃ m',m'<m/\W (i+1) m' ys H3)
def ti(n:Nat)(cap:List Nat)(wi:TI)(g:TG)(tc:TT)(te:TE):TE:=λσ H Q=>wi σ H λJ H1=>cP n cap g tc te σ J H1 Q
def jv{w:LU}{R:Result->LO->Prop}(I:Nat->LO->Prop)(turn:∀ n s,I n s->wpAny (model prog w) A (pyNext it) (λr s₁=>match r with
   |none=>R (.ok .next) s₁
   | some v=>wpAny (model prog w) A (letOwnedTupleGo target it v) (λ_ s₁'=>wpAny (model prog w) A (assign target env v) (λ_ s₂ =>
     wpAny (model prog w) A (forIn ifs true λc r=>if r=true then do let ok ←isTrue c env (eval c env);pure (ForInStep.yield ok) else pure (ForInStep.yield r)) (λok s₃ =>
      if ok=true then wpAny (model prog w) A (eval elt env) (λx s₄ =>
       wpAny (model prog w) A (call (.builtin "list.append") [acc,x]) (λ_ s₅=>∃ m,m<n/\I m s₅) (λ_ _=>False) s₄) (λ_ _=>False) s₃
      else ∃ m,m<n/\I m s₃) (λ_ _=>False) s₂) (λ_ _=>False) s₁') (λ_ _=>False) s₁) (λ_ _=>False) s)(n:Nat)(h:I n s):
  codeAny (model prog w) A (.compLoop (.ListComp elt [#[target,iter,ifs,0]] scope pos) 0 it acc env) R s:=by
 refine codeAny_loop rfl I (λn s hI=>?_) n h;show wpAny _ A ((compTurn (.ListComp elt [#[target,iter,ifs,0]] scope pos) 0 it acc env).onRaise (λx=>do noteFrame x env;theTreesLotGoes x)) _ _ s;refine wpAny_noted (wpAny_noRaise ?_);rw[compTurn_list];refine z6 (wpAny_standAt (z6 (Z7 (turn n s hI) (λr s₁ h₁=>?_) λ_ _ h'=>h')));cases r with
 |none=>exact Zb h₁
 |some v =>
  refine z6 (Z7 h₁ (λ_ s₁' h₁'=>?_) λ_ _ h'=>h');refine z6 (Z7 h₁' (λ_ s₂ h₂=>z6 (Z7 h₂ (λok s₃ h₃=>?_) λ_ _ h'=>h')) λ_ _ h'=>h');cases ok with
  |false=>exact Zb #[rfl,h₃]
  |true =>exact z6 (z6 (Z7 h₃ (λx s₄ h₄=>z6 (Z7 h₄ (λ_ s₅ h₅=>Zb (Zb #[rfl,h₅])) λ_ _ h'=>h')) λ_ _ h'=>h'))
def Fh{own capN:List Str}:∀(i:Nat) (x:Str),own.length<=i->(own++capN)[i]?=some x->capN[i-own.length]?=some x:=λi x hi e=>by rw[ZF hi]at e;exact e
section
variable{X:Cx}{scope:Scope}
abbrev gj(its:LM)(nn:Nat):Obj:={ cls:=.type "list",data:=.seq its.toArray nn }
def rm{RR:LP->LN->Result->LO->Prop}(O:CompOk X scope cap capN)(hc:X.calm=true)(hg:∀C s0 H0 ex,PG (aV X scope (own++capN) C s0 H0 ex) tg g)(gk:GK own.length g)(ht:∀C s0 H0 ex,qi (aV X scope (own++capN) C s0 H0 ex) ifs tc)(he:∀C s0 H0 ex,PE (aV X scope (own++capN) C s0 H0 ex) elt te)(I2:Inv X L4 σ H2 s2)(T:Turn X.prog X.w X.K tg J fp it tn)(st2:tn 0 s2.heap)(f2:∀b∈fp,aZ X L4 H2 b)(hq:cP own.length cap g tc te σ J H2 Q)(fin:∀(D C:LN) (s4:LO) (H4:Hp) (ys:List V),Inv X L4 σ (upd H4 D (.lst ys)) s4->(∃m,s4.heap.Ns C m)->aZ X L4 (upd H4 D (.lst ys)) C->Q (.ref D) (upd H4 D (.lst ys))->RR (.ref D) C (.ok .next) s4):
  wpAny (model X.prog X.w) X.A (newList []) (λacc s₃=>wpAny (model X.prog X.w) X.A (newFunctionEnv scope X.env.globals (bZ X.env scope.names []) [] X.env.qual none .none (some X.env)) (λcenv s₄ =>
   codeAny (model X.prog X.w) X.A (.compStart (.ListComp elt [#[tg,iter,ifs,0]] scope pos) 0 (.ref it) acc { cenv with scope:=relabel scope X.env }) (RR acc cenv.locals) s₄) E s₃) E s2:=by
 obtain⟨W,⟨m0,w0⟩,turn⟩:=hq;refine Yi (wpAny_newFunctionEnv O.nocell (by intro y hy;simp at hy) (λh₁ hns₁ hsb₁=>?_) O.kind);dsimp only at hns₁ hsb₁ ⊢;generalize hHp:s2.heap.push { cls:=.type "list",dict:=none,data:=.seq ([]:LM).toArray }=Hp2 at hns₁ hsb₁ ⊢;have hC:Hp2.objs.size=s2.heap.objs.size+1:=by rw[<-hHp,Yz]
 have hDC:s2.heap.objs.size≠Hp2.objs.size:=by rw[hC];exact Zx (Yd _)
 have hCle:s2.heap.objs.size<=Hp2.objs.size:=by rw[hC];exact YA _
 have below:∀b,b<s2.heap.objs.size->b≠Hp2.objs.size/\b≠s2.heap.objs.size:=λb hb=>#[by rw[hC];exact Zx (Yj hb),Zx hb]
 have old:∀b o,s2.heap.get? b=some o->h₁.get? b=some o:=λb o e=>hsb₁.extBut b o (below b (Zr e)).1 (Za _ (hHp▸Za _ e));have hacc:h₁.get? s2.heap.objs.size=some (gj [] 0):=hsb₁.extBut _ _ hDC (Za _ (hHp▸Zk _ rfl));generalize hDe:s2.heap.objs.size=D at *;generalize hCe:Hp2.objs.size=C at *;have hfpl:∀b∈fp,b<s2.heap.objs.size:=λb hb=>by exists[o,e,_],T.obj _ _ st2 b hb;exact Zr e
 have hex:∀b∈fp,aZ X L4 H2 b/\b<s2.heap.objs.size:=λb hb=>#[f2 b hb,hfpl b hb]
 have hCle':s2.heap.objs.size<=C:=by rw[hDe];exact hCle
 have hDle:s2.heap.objs.size<=D:=by rw[hDe];exact Ze _
 have hDfp:∀b∈fp,D≠b:=λb hb z=>by have:=hfpl b hb;rw[<-z]at this;exact absurd this (Nat.not_lt.mpr hDle)
 have I0:∀tk,Inv (aV X scope (own++capN) C s2 H2 fp) [] (bw own.length cap σ) H2 { s2 with heap:=h₁,toks:=tk }:=λtk=>yg I2 O (by simp) Fh hCle' hex old hns₁;have Dst:D∉frs X.stack:=AQ I2 hDle;have Dcell:∀x c,(aV X scope (own++capN) C s2 H2 fp).env.cells.lookup x=some c->c≠D:=λx c e=>Cu I2 hDle x c (O.sub I2.ok x c e);have pinD:∀{σ':St} {H':Hp} {s':LO} {its:LM} {nn:Nat},Inv (aV X scope (own++capN) C s2 H2 fp) [] σ' H' s'->s'.heap.get? D=some (gj its nn)->H' D=none->Inv (aV X scope (own++capN) C s2 H2 fp) [(D,gj its nn)] σ' H' s':=fun{σ' H' s' its nn} I e hn =>
  I.pins_of λp hp=>by
   have z:p=(D,gj its nn):=by simpa using hp
   subst z;exact#[e,hn,hDC,Dst,λv q=>by cases q]
 have loop:∀s₃:LO,s₃={ s2 with heap:=h₁,toks:=s2.toks+([]:List (Str×LP)).length } ->
   codeAny (model X.prog X.w) X.A (.compLoop (.ListComp elt [#[tg,iter,ifs,0]] scope pos) 0 (.ref it) (.ref D) (compEnvC scope (bZ X.env scope.names []) C X.env)) (RR (.ref D) C) s₃:=by
  rintro s₃ rfl;refine jv (λk s'=>∃(i:Nat) (ys:List V) (its:LM) (nn:Nat) (H':Hp),Inv (aV X scope (own++capN) C s2 H2 fp) [(D,gj its nn)] (bw own.length cap σ) H' s'/\tn i s'.heap/\(∀b∈fp,H' b=none)/\Vals ys its/\ys.length<=sizeLine/\W i k ys H') ?_ m0
   #[0,[],[],0,H2,pinD (I0 _) hacc (I2.hok.fresh hDle),T.keep _ _ _ st2 (λb hb o e=>old b o e),λb hb=>(f2 b hb).1,.nil,Zy _,w0]
  rintro k s3 ⟨i,ys,its,nn,H3,I3,st3,fr3,rv,hz,w3⟩;have oD3:s3.heap.get? D=some (gj its nn):=(I3.pin (D,gj its nn) (by simp)).1;have fpY:∀{H':Hp},(∀b∈fp,H' b=none)->∀b∈fp,aZ (aV X scope (own++capN) C s2 H2 fp) [(D,gj its nn)] H' b:=fun{H'} hn b hb=>by
   exists[f0,f1,g2,f3,f4,f5],f2 b hb;refine#[hn b hb,Zx (ZA (hfpl b hb) hCle'),λz=>?_,.inl hb,λx c e=>f4 x c (O.sub I2.ok x c e),λp hp=>?_]
   ·rcases Zf.mp (I2.stkSub b z)with e|e
    ·exact f1 e
    ·exact g2 e
   ·have z:p=(D,gj its nn):=by simpa[aV]using hp
    subst z;exact hDfp b hb
  rcases turn i k ys H3 w3 with⟨stop,qn⟩|⟨go,hlt,step⟩
  ·refine thn (T.done (aV X scope (own++capN) C s2 H2 fp) rfl rfl rfl hc i _ s3 _ H3 _ I3 (fpY fr3) st3 stop) λr s4 ⟨hr,I4⟩=>?_;subst hr;exists[oD,nD,_],I4.pin (D,gj its nn) (by simp);have neD:∀{b:LN} {u:HO},H3 b=some u->b≠D:=fun{b u} e=>ar e nD;have JX:Inv X L4 σ (upd H3 D (.lst ys)) s4:=by
    refine I2.call' (ch:=fp) I4.os #[I4.base.keep,I4.base.slot,λb o e nb hx=>?_,I4.base.there,λb xs e=>?_,λb o u e=>?_,λb ps e=>?_] (λb u e=>?_) I4.bare (λb hb=>?_)
    ·rw[ag (by rw[<-hDe];exact Zx (Zr e))];exact I4.base.free b o e nb hx
    ·have q:=I4.base.tups b xs e;rw[ag (neD q)];exact q
    ·have q:=I4.base.frzs b o u e;rw[ag (neD q)];exact q
    ·exists[more,q],I4.base.tbls b ps e;exact#[more,by rw[ag (neD q)];exact q]
    ·by_cases hb:b=D
     ·subst hb;rw[ac]at e;cases e;exact#[hz,its,nn,rv,oD]
     ·rw[ag hb]at e;exact(I4.hok b u e).stay (λ_ _ _ q=>q) (λc q=>by rw[ag (neD q)];exact q) λc xs q=>by rw[ag (neD q)];exact q
    ·exists[f0,f1,g2,f3,f4,f5],f2 b hb;exact#[f3,f1,f4,f5]
   exists[m4,hn4,_],I4.loc;refine fin D C s4 H3 ys JX #[m4,hn4] ?_ (qn D nD);refine I2.fpOk (b:=C) hCle' ?_;rw[ag (y7 hDC)];exact I4.free
  ·refine thn (T.item (aV X scope (own++capN) C s2 H2 fp) rfl rfl rfl hc i _ s3 _ H3 _ I3 (fpY fr3) st3 go) λr s4 ⟨u,hr,h4⟩=>?_;subst hr;refine thn h4 λ_ s5 hz9=>?_;exists[x,H5,I5,r5,y5,st5,fr5],hz9;have I5':=I5.pinned (fpY fr5) (T.obj _ _ st5);refine thn (hg C s2 H2 fp _ s5 _ H5 x u _ I5' r5 (gk _ _ _ _ (step x H5 y5))) λ_ s6 hz9=>?_;obtain⟨σ6,H6,I6,⟨l6,k6⟩,q6⟩:=hz9;refine thn (ht C s2 H2 fp _ s6 σ6 H6 _ I6 q6) λok s7 ⟨H7,I7,q7⟩=>?_;have wk:∀{H8:Hp} {s8:LO} {pl:LJ},Inv (aV X scope (own++capN) C s2 H2 fp) pl σ6 H8 s8->Inv (aV X scope (own++capN) C s2 H2 fp) pl (bw own.length cap σ) H8 s8:=λI=>I.weak l6.symm λj v e=>by exists[hj,_],oN e;rw[k6 j hj];exact e
   have tn8:∀{σ8:St} {H8:Hp} {s8:LO},Inv (aV X scope (own++capN) C s2 H2 fp) ([(D,gj its nn)]++lh fp s5.heap) σ8 H8 s8->(∀b∈fp,∀o,s5.heap.get? b=some o->s8.heap.get? b=some o)/\∀b∈fp,H8 b=none:=fun{σ8 H8 s8} I=>by refine#[λb hb o e=>(I.pin (b,o) (ZJ _ (ZJ _ (gE hb e)))).1,λb hb=>?_];exists[o,e,d],T.obj _ _ st5 b hb;exact(I.pin (b,o) (ZJ _ (ZJ _ (gE hb e)))).2.1
   cases ok with
   |false =>rw[LH Zv]at q7 ⊢;exists[m',hm,w7],q7;exists[t1,t2],tn8 I7;exact#[m',hm,i+1,ys,its,nn,H7,wk I7.unpinned,T.keep _ _ _ st5 t1,t2,rv,hz,w7]
   |true =>
    rw[LI rfl]at q7 ⊢;refine thn (he C s2 H2 fp _ s7 σ6 H7 _ I7 q7) λy s8 hz9=>?_;exists[yv,H8,I8,r8,m',hm,w8],hz9;exists[t1,t2],tn8 I8;exists[oD,nD,_],I8.pin (D,gj its nn) (by simp);have hil:=rv.length;refine call_meets F.slot_list_append #[_,oD,rfl] F.entry_list_append (F.args_list_append_2 _ _) (PySem.list_append D its.toArray nn y (by rw[Zh];omega)) #[oD,?_];have q:=PySem.IsL.update oD (λx_1=>x_1.push y);have hf:its.toArray.push y=(its++[y]).toArray:=by simp
    rw[hf]at q;have keepO:∀b o,b≠D->s8.heap.get? b=some o->(s8.heap.update D (Obj.mapSeq λx_1=>x_1.push y)).get? b=some o:=λb o hb e=>(Y3 s8.heap (Obj.mapSeq λx_1=>x_1.push y) (y7 hb)).trans e;have I9:Inv (aV X scope (own++capN) C s2 H2 fp) [] σ6 H8 { s8 with heap:=s8.heap.update D (Obj.mapSeq λx_1=>x_1.push y),toks:=s8.toks } :=
     (I8.pins_of (pins':=[]) λp hp=>absurd hp (by simp)).turned (it:=D) keepO nD hDC (.inr hDle) Dcell (λp hp=>absurd (show p∈([]:LJ)from hp) (by simp))
    refine#[m',hm,i+1,ys++[yv],its++[y],_,H8,wk (pinD I9 q nD),T.keep _ _ _ st5 (λb hb o e=>keepO b o (y7 (hDfp b hb)) (t1 b hb o e)),t2,rv.append (.cons r8 .nil),?_,w8];rw[Zi,Z1];omega
 exact codeAny_compStart_list (loop _ rfl) (T.self _ 0 _ _ _ (T.keep _ _ _ st2 (λb hb o e=>old b o e)) (loop _ rfl))
def Fm(O:CompOk X scope cap capN)(hc:X.calm=true)(hi:PI X tg iter wi)(hg:∀C s0 H0 ex,PG (aV X scope (own++capN) C s0 H0 ex) tg g)(gk:GK own.length g)(ht:∀C s0 H0 ex,qi (aV X scope (own++capN) C s0 H0 ex) ifs tc)(he:∀C s0 H0 ex,PE (aV X scope (own++capN) C s0 H0 ex) elt te)(hs:∀x,foldedSetIterable iter X.env x=pure x:=by intro _;rfl):PE X (.ListComp elt [#[tg,iter,ifs,0]] scope pos) (ti own.length cap wi g tc te):=by intro L4 s σ H Q I h;rw[eval_ListComp];refine wpAny_comprehension_free (use:=none) rfl hs (O.clos I.ok) O.kind O.names (thn (hi L4 s σ H _ I h) λv s1 h1=>thn h1 λitv s2 h2=>?_);exists[it,fp,tn,J,H2,e,I2,T,st2,f2,hq],h2;subst e;refine rm (RR:=λacc C=>compPost (model X.prog X.w) X.A X.xe none (EP X L4 σ Q) acc C) O hc hg gk ht he I2 T st2 f2 hq λD C s4 H4 ys J4 hn4 fC q4=>?_;exists[m,hn],hn4;exists[f0,f1,g2,f3,f4,f5],fC;exact#[m,hn,λh' sb=>#[.ref D,_,J4.turned (t':=s4.toks) (λb o hb e=>(sb.2 b hb).trans e) f0 f1 f3 f4 f5,rfl,q4]]
def FI{j:Nat}{py spos:Pos}(hN0:X.N.Nodup)(hj:X.N[j]?=some y)(hy:Loc X.env.scope y)(O:CompOk X scope cap capN)(hc:X.calm=true)(hi:PI X tg iter wi)(hg:∀C s0 H0 ex,PG (aV X scope (own++capN) C s0 H0 ex) tg g)(gk:GK own.length g)(ht:∀C s0 H0 ex,qi (aV X scope (own++capN) C s0 H0 ex) ifs tc)(he:∀C s0 H0 ex,PE (aV X scope (own++capN) C s0 H0 ex) elt te)(hsw:swapsWith (.ListComp elt [#[tg,iter,ifs,0]] scope pos) (some (.Name y py)) spos.line X.env=pure true:=by rfl)(hs:∀x,foldedSetIterable iter X.env x=pure x:=by intro _;rfl)(hf:X.fn y=true\/X.env.scope.names.lookup y=some .local:=by first|exact .inl rfl|exact .inr rfl|assumption):
  PS X (.Assign [.Name y py] (.ListComp elt [#[tg,iter,ifs,0]] scope pos) spos) (qZ (ti own.length cap wi g tc te) (bD j)):=by
 intro L4 s σ H D0 I h;rw[exec_Assign_Name_used _ _ _ _ hsw];refine z6 (wpAny_standAt (z6 ?_));show wpAny _ X.A (do let _ ←comprehension (.ListComp elt [#[tg,iter,ifs,0]] scope pos) scope X.env _ (newList []) false (eval iter X.env) (some (assign (.Name y py) X.env))) _ _ s;refine z6 (Z7 (wpAny_comprehension_free (use:=some (assign (.Name y py) X.env)) (Q:=λ_ s'=>SP X L4 D0 .next s') rfl hs (O.clos I.ok) O.kind O.names (thn (hi L4 s σ H _ I h) λv s1 h1=>thn h1 λitv s2 h2=>?_)) (λ_ s' hq=>Zb (Zb hq)) λ_ _ e=>e);exists[it,fp,tn,J,H2,e,I2,T,st2,f2,hq],h2;subst e;refine rm (RR:=λacc C=>compPost (model X.prog X.w) X.A X.xe (some (assign (.Name y py) X.env)) (λ_ s'=>SP X L4 D0 .next s') acc C) O hc hg gk ht he I2 T st2 f2 hq λD C s4 H4 ys J4 hn4 fC q4=>?_;exists[m,hn],hn4;exists[f0,f1,g2,f3,f4,f5],fC;show wpAny _ X.A (assign (.Name y py) X.env (.ref D)) _ _ _;refine wpAny_assign_Name (rQ J4 hN0 hj hy (v:=.ref D) rfl (λs5 I5 ⟨a,sba,ha⟩=>?_) hf);have hCa:C≠a:=by
  rcases ha with z|z
  ·rw[z];exact f1
  ·exact y7 (f4 _ _ z)
 refine#[m,hn.sameBut sba hCa,λh' sb=>?_];exact#[_,_,I5.turned (t':=s5.toks) (λb o hb e=>(sb.2 b hb).trans e) f0 f1 f3 f4 f5,q4]
end
structure Fn(P:LQ)(w:LU)(K:W.Frag)(mg:LL)(base:Heap)(k:Nat)(x:Str)(ps:List Str)(sp:Sp):Prop where
 ex:∃f fd,FnOk P w K mg base CX0 k f fd ps sp/\mg x=some (.ref f)/\W.keepIn K (.ref f)=true/\Binds K fd ps []
section
variable{X:Cx}{k:Nat}{e:L3}{t:TA}
def Jx(F:Fn X.prog X.w X.K X.mg X.base k x ps sp)(hr:Room k X.A)(ha:PA X (e::es) t)(hg:Gl X x:=by rfl)(hdb:(x==("__debug__":Str))=false:=by decide)(he:starEach (e::es) X.env=(false,eval e X.env)::starEach es X.env:=by rfl)(hpl:(backTo pos (starEach es X.env)).any (·.1)=false:=by rfl) :
  PE X (.Call (.Name x p) (e::es) [] pos) (sZ sp [] E0 t):=by
 exists[f,fd,G,m,kp,b],F.ex;exact Fj G hr hg m kp b .nil pK ha hdb he hpl
end
def oJ:bootBuiltins "isinstance" = some (.builtin "isinstance"):=⋯
def tY:bootBuiltins "max" = some (.builtin "max"):=⋯
def eO:bootBuiltins "int" = some (.type "int"):=⋯
def ju:bootBuiltins "tuple" = some (.type "tuple"):=⋯
def kC:bootBuiltins "list" = some (.type "list"):=⋯
def ip:bootBuiltins "all" = some (.builtin "all"):=⋯
section
variable{X:Cx}
def BV(hc:X.calm=true):dR X (.builtin "all") (λxs H Q=>∃(p:LN) (bs:List Bool),xs=[.ref p]/\SqL X.K H p (bs.map V.bl)/\Q (.bl (bs.all id)) H):=by
 intro L4 s σ H xs us Q I r h;exists[p,bs,rfl,hq,q],h;exists[u,rfl,rx],bG r;cases rx;exists[its,rv,pl,hz],I.list hq;have hl:=pl.isList;have hlt:p<s.heap.objs.size:=by exists[_,e,_],hl;exact Zr e
 have hh:=I.ok.hd hc;have hlen:bs.length=its.length:=by rw[<-rv.length,Zd]
 refine call_all_walk (wpAny_pyIter_list hl ?_);refine#[s.heap.objs.size,[s.heap.objs.size,p],[s.heap.objs.size],its.toArray.size,_,_,λi=>(bs[i]?).getD true,rfl,Walks.list (A:=X.A.in1) hh _ p (Zx hlt) its.toArray,
  #[#[_,Zk _ rfl,rfl,rfl],hl.push _],λi v s' Q' E' hP hQ=>?_,λh' tk hk=>?_]
 ·have hv:its[i]?=some v:=by simpa using hP
  have hi:i<bs.length:=by rw[hlen];exact(Zm.mp hv).1
  exists[u,hu,ru],rv.get (i:=i) (x:=.bl bs[i]) (by rw[Zq,z9 hi];rfl);rw[hv]at hu;cases hu;cases ru;have hQ':Q' ((bs[i]?).getD true) s':=hQ;rw[z9 hi]at hQ';exact Z4 hQ'
 ·have e:((List.range its.toArray.size).all λi=>(bs[i]?).getD true)=bs.all id:=by rw[Zh,<-hlen];exact LSm.range_all bs
  rw[e];exact#[.bl _,H,I.kept (t':=tk) (LSm.kept_iter hk),rfl,q]
def BX:dR X (.builtin "isinstance") (λxs H Q=>∃x T t b,xs=[x,.ty T]/\TyOf X.K H x t/\W.kitOne X.K t (.type T)=some b/\Q (.bl b) H):=by intro L4 s σ H xs us Q I r h;exists[x,T,t,b,rfl,ty,e,q],h;exists[u,w',rfl,rx,ry],fW r;cases(show w'=Value.type T from ry);exact Aq I rx ty e λtk=>#[.bl b,H,I.tok tk,rfl,q]
def J3(K:W.Frag):R2:=λx y H Q=>∃(a b:LN) (ns ms:LX),x=.ref a/\y=.ref b/\SqL K H a (ns.map V.int)/\SqL K H b (ms.map V.int)/\Q (.bl (!decide (ns=ms))) H
def Ht(hu:X.A.units+64<cLine):OpR X (compareOp .NotEq) (J3 X.K):=by intro L4 s σ H x y v u Q I rx ry h;exists[a,b,ns,ms,rfl,rfl,ha,hb,q],h;cases rx;cases ry;exists[its,r1,p1,_],I.list ha;exists[its2,r2,p2,_],I.list hb;exact W.ke_ne_ints p1.isList p2.isList (bo r1) (bo r2) hu #[.bl _,H,I,rfl,q]
end
def Ce{K:W.Frag}{t T:String}(h1:(Value.type t==Value.type T)=b)(h2:b=false->W.kitMeta T=true/\(PySem.fastBuiltinMro t).map (·.contains (Value.type T))=some false):W.kitOne K (.type t) (.type T)=some b:=by
 unfold W.kitOne;rw[h1];cases b with
 |true=>exact LI rfl
 |false =>rw[LH Zv];exists[m,q],h2 rfl;show(if W.kitMeta T=true then W.subIn K (.type t) (.type T)else none)=_;rw[LI m];exact q
def ad{H:Hp}(h:H p=none)(o:HO):Same H (upd H p o):=λb u q=>by rw[ag (ar q h)];exact q
def ow{K:W.Frag}(e:Same H H')(h:SqT K H a xs):SqT K H' a xs:=by
 rcases h with(h|⟨o,h⟩)|h
 ·exact .inl (.inl (e _ _ h))
 ·exact .inl (.inr #[o,e _ _ h])
 ·exact .inr h
def dh{n:Nat}(h:n<=1000):n<=sizeLine:=Nat.le_of_lt (cD h)
def sz{n:Nat}(h:Nat.ble n 1000=true):n<=sizeLine:=dh (YE h)
def iq{J:It}{N n:Nat}{te:TE}{Q:VK}(x0 f:Nat->V)(hz:N<=1000)(hgo:∀i H,i<N->Same H0 H->J.go i H)(hst:∀H,Same H0 H->J.stop N H)(hy:∀i H x H',i<N->Same H0 H->J.yld i H x H'->H'=H/\x=x0 i)(he:∀i H,i<N->Same H0 H->∀R:VK,(∀H',Same H H'->R (f i) H')->te ((bw n cap σ).set 0 (some (x0 i))) H R)(hq:∀p H,Same H0 H->H p=none->Q (.ref p) (upd H p (.lst ((List.range N).map f)))):cP n cap (bD 0) dZ te σ J H0 Q:=by
 refine#[λi m ys H=>m=N-i/\i<=N/\Same H0 H/\ys=(List.range i).map f,#[N,by simp,Zy _,Same.refl _,rfl],?_];rintro i m ys H ⟨rfl,hi,sm,rfl⟩;by_cases hlt:i<N
 ·refine .inr #[hgo i H hlt sm,?_,λx H' y=>?_]
  ·rw[Zd,List.length_range];exact cD ∅
  ·exists[e1,e2],hy i H x H' hlt sm y;subst e1 e2;refine he i H' hlt sm _ λH4 sm4=>#[N-(i+1),∅,rfl,hlt,sm.trans sm4,?_]
   rw[List.range_succ,ZU];rfl
 ·have e:i=N:=∅
  subst e;exact .inl #[hst H sm,λp hp=>hq p H sm hp]
def bJ{K:W.Frag}{xs:List V}{n:Nat}{te:TE}{Q:VK}(f:Nat->V)(hz:xs.length<=1000)(hl:SqL K H0 a xs)(he:∀i x H,xs[i]?=some x->Same H0 H->∀R:VK,(∀H',Same H H'->R (f i) H')->te ((bw n cap σ).set 0 (some x)) H R)(hq:∀p H,Same H0 H->H p=none->Q (.ref p) (upd H p (.lst ((List.range xs.length).map f)))):cP n cap (bD 0) dZ te σ (Itl K a) H0 Q:=by
 refine iq (N:=xs.length) (λi=>(xs[i]?).getD .non) f hz (λi H hi sm=>#[xs,xs[i],sm.seq hl,by simp[hi]]) (λH sm=>#[xs,sm.seq hl,Ze _]) (λi H x H' hi sm y=>#[y.1,?_]) (λi H hi sm R k=>?_) hq
 ·rw[y.2 xs (sm.seq hl)];rfl
 ·have e:xs[i]?=some xs[i]:=by simp[hi]
  rw[e];exact he i xs[i] H e sm R k
def nJ{K:W.Frag}{xs:List V}{n:Nat}{te:TE}{Q:VK}(f:Nat->V)(hz:xs.length<=1000)(hl:SqT K H0 a xs)(he:∀i x H,xs[i]?=some x->Same H0 H->∀R:VK,(∀H',Same H H'->R (f i) H')->te ((bw n cap σ).set 0 (some x)) H R)(hq:∀p H,Same H0 H->H p=none->Q (.ref p) (upd H p (.lst ((List.range xs.length).map f)))):cP n cap (bD 0) dZ te σ (Itt K a) H0 Q:=by
 refine iq (N:=xs.length) (λi=>(xs[i]?).getD .non) f hz (λi H hi sm=>#[xs,xs[i],ow sm hl,by simp[hi]]) (λH sm=>#[xs,ow sm hl,Ze _]) (λi H x H' hi sm y=>#[y.1,?_]) (λi H hi sm R k=>?_) hq
 ·rw[y.2 xs (ow sm hl)];rfl
 ·have e:xs[i]?=some xs[i]:=by simp[hi]
  rw[e];exact he i xs[i] H e sm R k
def gz{N n:Nat}{lo:Int}{te:TE}{Q:VK}(f:Nat->V)(hz:N<=1000)(he:∀i H,i<N->Same H0 H->∀R:VK,(∀H',Same H H'->R (f i) H')->te ((bw n cap σ).set 0 (some (.int (lo+i)))) H R)(hq:∀p H,Same H0 H->H p=none->Q (.ref p) (upd H p (.lst ((List.range N).map f)))):cP n cap (bD 0) dZ te σ (Itr lo N) H0 Q :=
 iq (N:=N) (λi=>.int (lo+i)) f hz (λ_ _ hi _=>hi) (λ_ _=>Ze N) (λ_ _ _ _ _ _ y=>y) he hq
def aK:L3->Bool
 |.Starred _ _=>false
 |_=>true
def aI(h:aK e=true):starEach (e::es) env=(false,eval e env)::starEach es env:=by cases e<;>first|rfl|cases h
theorem bE:∀{es:List L3},es.all aK=true->(backTo pos (starEach es env)).any (·.1)=false
 | [],_=>rfl
 |e::es,h=>by rw[YO,ZK]at h;rw[aI h.1];show(false ||(backTo pos (starEach es env)).any (·.1))=false;rw[Bool.false_or];exact bE h.2
section
variable{X:Cx}{e:L3}{t:TA}{id:String}{r:List V->Hp->VK->Prop}{k:Nat}
def pa(ha:PE X e te)(hr:PA X es t)(hs:aK e=true:=by rfl):PA X (e::es) (dA te t):=mG ha hr (aI hs)
def pB(hc:dR X (.builtin id) r)(hm:X.mg x=none)(hv:bootBuiltins x=some (.builtin id))(ha:PA X (e::es) t)(hg:Gl X x:=by rfl)(hs:(e::es).all aK=true:=by rfl)(hn:x≠"__name__":=by decide)(hdb:(x==("__debug__":Str))=false:=by decide) :
  PE X (.Call (.Name x p) (e::es) [] pos) (tCB r t):=by
 rw[YO,ZK]at hs;exact CJ hc hg hm hv ha hn hdb (aI hs.1) (bE hs.2)
def pTy(hc:dR X (.type T) r)(hm:X.mg x=none)(hv:bootBuiltins x=some (.type T))(ha:PA X (e::es) t)(hg:Gl X x:=by rfl)(hs:(e::es).all aK=true:=by rfl)(hn:x≠"__name__":=by decide)(hdb:(x==("__debug__":Str))=false:=by decide) :
  PE X (.Call (.Name x p) (e::es) [] pos) (tCB r t):=by
 rw[YO,ZK]at hs;exact A6 hc hg hm hv ha hn hdb (aI hs.1) (bE hs.2)
def pfn(F:Fn X.prog X.w X.K X.mg X.base k x ps sp)(hr:Room k X.A)(ha:PA X (e::es) t)(hg:Gl X x:=by rfl)(hs:(e::es).all aK=true:=by rfl)(hdb:(x==("__debug__":Str))=false:=by decide) :
  PE X (.Call (.Name x p) (e::es) [] pos) (sZ sp [] E0 t):=by
 rw[YO,ZK]at hs;exact Jx F hr ha hg hdb (aI hs.1) (bE hs.2)
end
structure QE(X:Cx)(e:L3)(t:TE):Prop where
 h:PE X e t
structure QT(X:Cx)(e:L3)(t:TT):Prop where
 h:PT X e t
structure QW(X:Cx)(e:L3)(t:TT):Prop where
 h:PW X e t
structure QA(X:Cx)(es:List L3)(t:TA):Prop where
 h:PA X es t
structure QS(X:Cx)(st:Stmt)(t:TS):Prop where
 h:PS X st t
structure QB(X:Cx)(st:List Stmt)(t:TS):Prop where
 h:PSs X st t
structure QG(X:Cx)(tg:L3)(g:TG):Prop where
 h:PG X tg g
structure QGs(X:Cx)(ts:List L3)(g:TGs):Prop where
 h:PGs X ts g
structure QI(X:Cx)(tg iter:L3)(wi:TI):Prop where
 h:PI X tg iter wi
structure QIf(X:Cx)(ifs:List L3)(t:TT):Prop where
 h:qi X ifs t
structure QO(X:Cx)(e:Option L3)(t:TO):Prop where
 h:PO X e t
structure QOp(X:Cx)(f:LP->LP->Sem LP)(r:R2):Prop where
 h:OpR X f r
structure QCall(X:Cx)(f:LP)(r:List V->Hp->VK->Prop):Prop where
 h:dR X f r
structure QIx(X:Cx)(r:R2):Prop where
 h:IxR X r
structure QSl(X:Cx)(r:V->Option Int->Option Int->Hp->VK->Prop):Prop where
 h:SlR X r
structure QSet(X:Cx)(t:Gq):Prop where
 h:JR X t
structure QUn(X:Cx)(f:LP->Sem LP)(r:V->Hp->VK->Prop):Prop where
 h:UnR X f r
structure QIp(X:Cx)(op:Operator)(t:TIp):Prop where
 h:PIp X op t
section
variable{X:Cx}{pos:Pos}{e a b:L3}{t:TA}{x:Str}
def q_v(i:Nat){x:Str}{pos:Pos}(hN:X.N[i]?=some x:=by rfl)(hv:Vis X.env.scope x:=by first|exact Or.inl rfl|exact Or.inr (Or.inl rfl)|exact Or.inr (Or.inr rfl))(hd:(x==("__debug__":Str))=false:=by decide)(hcd:(x==("__classdict__":Str))=false:=by decide):QE X (.Name x pos) (tVar i):=#[HR hN hv hd hcd]
def af{i:Int}{j:Nat}:QE X (.Constant (.int i) j pos) (tC (.int i)):=#[HJ]
def fK{i:Bool}{j:Nat}:QE X (.Constant (.bool i) j pos) (tC (.bl i)):=#[Jw]
def cM{j:Nat}:QE X (.Constant .none j pos) (tC .non):=#[HL]
def ai{i:Str}{j:Nat}:QE X (.Constant (.str i) j pos) (tC (.str i)):=#[HP]
def JZ(hm:X.mg x=none)(hv:bootBuiltins x=some (.type T))(hg:Gl X x:=by rfl)(hn:x≠"__name__":=by decide)(hd:(x==("__debug__":Str))=false:=by decide):QE X (.Name x pos) (tC (.ty T)):=#[Fi hg hm hv rfl hn hd]
def bV{i:Int}(hm:X.mg x=some (.int i tk))(hg:Gl X x:=by rfl)(hd:(x==("__debug__":Str))=false:=by decide):QE X (.Name x pos) (tC (.int i)):=#[qI hg hm #[_,rfl] hd]
def aw{r:R2}(ho:QOp X (binaryOp op) r)(ha:QE X a ta)(hb:QE X b tb):QE X (.BinOp a op b pos) (tOp r ta tb):=#[Jz ho.h ha.h hb.h]
def Db{r:V->Hp->VK->Prop}(ho:QUn X (unaryOp op) r)(ha:QE X a ta):QE X (.UnaryOp op a pos) (tUn r ta):=#[JB ho.h ha.h]
def fe{op}(h:QE X a ta):QE X (.BoolOp op [a] pos) ta:=#[HN h.h]
def gH(ha:QE X a ta)(hb:QE X (.BoolOp .And (b::rest) pos) tb):QE X (.BoolOp .And (a::b::rest) pos) (Ej ta tb):=#[Hz ha.h hb.h]
def yN(ha:QE X a ta)(hb:QE X (.BoolOp .Or (b::rest) pos) tb):QE X (.BoolOp .Or (a::b::rest) pos) (Dy ta tb):=#[JA ha.h hb.h]
def iw(ha:QE X a ta):QE X (.UnaryOp .Not a pos) (zi ta):=#[HM ha.h]
def aM{r:R2}(ho:QOp X (compareOp op) r)(ha:QE X a ta)(hb:QE X b tb)(hm:behindInMarks op b=false:=by first|exact AL _|with_unfolding_all rfl):QE X (.Compare a [op] [b] pos) (tOp r ta tb):=#[Fk ho.h ha.h hb.h hm]
def yM(hc:QT X c tA)(ha:QE X a ta)(hb:QE X b tb):QE X (.IfExp c a b pos) (tIf tA ta tb):=#[CL hc.h ha.h hb.h]
def bv(h:QA X es t):QE X (.List es pos) (IF t):=#[HK h.h]
def aW{x1}(h:QA X es t):QE X (.Tuple es x1 pos) (IJ t):=#[HQ h.h]
def ao{r:R2}(hr:QIx X r)(ha:QE X a ta)(hb:QE X b tb)(hs:wG b:=by intro _ _;rfl):QE X (.Subscript a b pos) (tOp r ta tb):=#[Jy hr.h ha.h hb.h hs]
def iO{r:V->Option Int->Option Int->Hp->VK->Prop}{lo hi:Option L3}(hr:QSl X r)(he:QE X e te)(hl:QO X lo tl)(hu:QO X hi th):QE X (.Subscript e (.Slice lo hi none p2) pos) (tSl r te tl th):=#[CO hr.h he.h hl.h hu.h]
def iM:QO X none xG:=#[FB]
def iN(h:QE X e te):QO X (some e) (En te):=#[FD h.h]
def ah:QA X [] dP:=#[gU]
def q_a(ha:QE X e te)(hr:QA X es t)(hs:aK e=true:=by rfl):QA X (e::es) (dA te t):=#[pa ha.h hr.h hs]
def q_B{id:String}{r:List V->Hp->VK->Prop}(hc:QCall X (.builtin id) r)(hm:X.mg x=none)(hv:bootBuiltins x=some (.builtin id))(ha:QA X (e::es) t)(hg:Gl X x:=by rfl)(hs:(e::es).all aK=true:=by rfl)(hn:x≠"__name__":=by decide)(hdb:(x==("__debug__":Str))=false:=by decide) :
  QE X (.Call (.Name x p) (e::es) [] pos) (tCB r t):=#[pB hc.h hm hv ha.h hg hs hn hdb]
def eZ{r:List V->Hp->VK->Prop}(hc:QCall X (.type T) r)(hm:X.mg x=none)(hv:bootBuiltins x=some (.type T))(ha:QA X (e::es) t)(hg:Gl X x:=by rfl)(hs:(e::es).all aK=true:=by rfl)(hn:x≠"__name__":=by decide)(hdb:(x==("__debug__":Str))=false:=by decide):
  QE X (.Call (.Name x p) (e::es) [] pos) (tCB r t):=#[pTy hc.h hm hv ha.h hg hs hn hdb]
def aG{k:Nat}(F:Fn X.prog X.w X.K X.mg X.base k x ps sp)(hr:Room k X.A)(ha:QA X (e::es) t)(hg:Gl X x:=by rfl)(hs:(e::es).all aK=true:=by rfl)(hdb:(x==("__debug__":Str))=false:=by decide):
  QE X (.Call (.Name x p) (e::es) [] pos) (sZ sp [] E0 t):=#[pfn F hr ha.h hg hs hdb]
def aq{r:R2}(ho:QOp X (compareOp op) r)(ha:QE X a ta)(hb:QE X b tb)(hm:behindInMarks op b=false:=by first|exact AL _|with_unfolding_all rfl):QT X (.Compare a [op] [b] pos) (tD (tOp r ta tb)):=#[FL ho.h ha.h hb.h hm]
def F7{r r':R2}(ho:QOp X (compareOp op) r)(ho':QOp X (compareOp op') r')(ha:QE X a ta)(hb:QE X b tb)(hc:QE X c tc)(hm:lastMarks [op,op'] [b,c]=false:=by with_unfolding_all rfl):
  QT X (.Compare a [op,op'] [b,c] pos) (tD (Bv r r' ta tb tc)):=#[C3 ho.h ho'.h ha.h hb.h hc.h hm]
def mQ(ha:QT X a tA):QT X (.UnaryOp .Not a pos) (IG tA):=#[Id ha.h]
def cc(h:QE X e te)(he:∀whole,isTrue e X.env whole=(do let v ←whole;standAt e.pos;holding [v] (truthy v)):=by intro _;rfl):QT X e (tB te):=#[Ie h.h he]
def bY(ha:QT X a tA):QW X (.BoolOp .And [a] pos) tA:=#[FN ha.h]
def jY(ha:QT X a tA):QW X (.BoolOp .Or [a] pos) tA:=#[Ih ha.h]
def cA(ha:QT X a tA)(hb:QW X (.BoolOp .And (b::rest) pos) tB'):QW X (.BoolOp .And (a::b::rest) pos) (IB tA tB'):=#[Ig ha.h hb.h]
def oB(ha:QT X a tA)(hb:QW X (.BoolOp .Or (b::rest) pos) tB'):QW X (.BoolOp .Or (a::b::rest) pos) (tOr tA tB'):=#[JD ha.h hb.h]
def t_w(h:QW X e tA):QT X e tA:=#[h.h.pt]
end
section
variable{X:Cx}{pos:Pos}{gs:TGs}
def aA{i:Nat}(hN:X.N.Nodup)(hi:X.N[i]?=some x:=by rfl)(hx:Loc X.env.scope x:=by first|exact Or.inl rfl|exact Or.inr rfl)(hf:X.fn x=true\/X.env.scope.names.lookup x=some .local:=by first|exact .inl rfl|exact .inr rfl):QG X (.Name x pos) (bD i):=#[Fu hN hi hx hf]
def iG:QGs X [] kJ:=#[Fv]
def cF(h1:QG X e g)(h2:QGs X es gs)(hs:(assignEach (e::es) X.env).map (·.2)=assign e X.env::(assignEach es X.env).map (·.2):=by rfl):QGs X (e::es) (eG g gs):=#[CP h1.h h2.h hs]
def iu{k n:Nat}(hc:X.calm=true)(h:QGs X es gs)(hn:(assignEach es X.env).length=n:=by rfl)(hst:(assignEach es X.env).findIdx? (·.1)=none:=by rfl):QG X (.Tuple es k pos) (kK X.K n gs):=#[HS hc h.h hn hst]
def bz(hl:QE X l te):QI X tg l (yn X.K te):=#[Fy hl.h]
def jC(hl:QE X l te):QI X tg l (GO X.K te):=#[HW hl.h]
def gO(hm:X.mg "range" = none)(ha:QA X [a] ta)(hg:Gl X "range":=by rfl)(hs:aK a=true:=by rfl):QI X tg (.Call (.Name "range" p) [a] [] pos) (DT ta):=#[A7 hg hm ha.h (aI hs)]
def bA:QIf X [] dZ:=#[CU]
def uG{t:TT}(h:QT X c t):QIf X [c] t:=#[CV h.h]
def aQ(O:CompOk X scope cap capN)(hc:X.calm=true)(hi:QI X tg iter wi)(hg:∀C s0 H0 ex,QG (aV X scope (own++capN) C s0 H0 ex) tg g)(gk:GK own.length g)(ht:∀C s0 H0 ex,QIf (aV X scope (own++capN) C s0 H0 ex) ifs tc)(he:∀C s0 H0 ex,QE (aV X scope (own++capN) C s0 H0 ex) elt te)(hs:∀x,foldedSetIterable iter X.env x=pure x:=by intro _;rfl):QE X (.ListComp elt [#[tg,iter,ifs,0]] scope pos) (ti own.length cap wi g tc te) :=
 #[Fm O hc hi.h (λC s0 H0 ex=>(hg C s0 H0 ex).h) gk (λC s0 H0 ex=>(ht C s0 H0 ex).h) (λC s0 H0 ex=>(he C s0 H0 ex).h) hs]
variable{st:Stmt}{t:TS}
def b_0:QB X [] zh:=#[FJ]
def b_1(h:QS X st t):QB X [st] t:=#[FK h.h]
def b_c(h1:QS X st t)(h2:QB X rest u):QB X (st::rest) (vR t u):=#[CZ h1.h h2.h]
def am(h:QE X e te):QS X (.Return (some e) pos) (IH te):=#[Ib h.h]
def bC(h:QE X e te)(hs:swapsWith e none pos.line X.env=pure false:=by rfl):QS X (.Expr e pos) (Em te):=#[FG h.h hs]
def aC(hc:QT X c tc)(ht:QB X body t)(hu:QB X els u):QS X (.If c body els pos) (Dw tc t u):=#[JC hc.h ht.h hu.h]
def ax{i:Nat}(hN:X.N.Nodup)(he:QE X e te)(hi:X.N[i]?=some x:=by rfl)(hx:Loc X.env.scope x:=by first|exact Or.inl rfl|exact Or.inr rfl)(hs:swapsWith e (some (.Name x pos')) pos.line X.env=pure false:=by rfl)(hf:X.fn x=true\/X.env.scope.names.lookup x=some .local:=by first|exact .inl rfl|exact .inr rfl):QS X (.Assign [.Name x pos'] e pos) (qZ te (bD i)):=#[Ic hN hi hx he.h hs hf]
def pO{j:Nat}{py spos:Pos}(hN0:X.N.Nodup)(O:CompOk X scope cap capN)(hc:X.calm=true)(hi:QI X tg iter wi)(hg:∀C s0 H0 ex,QG (aV X scope (own++capN) C s0 H0 ex) tg g)(gk:GK own.length g)(ht:∀C s0 H0 ex,QIf (aV X scope (own++capN) C s0 H0 ex) ifs tc)(he:∀C s0 H0 ex,QE (aV X scope (own++capN) C s0 H0 ex) elt te)(hj:X.N[j]?=some y:=by rfl)(hy:Loc X.env.scope y:=by first|exact Or.inl rfl|exact Or.inr rfl)(hsw:swapsWith (.ListComp elt [#[tg,iter,ifs,0]] scope pos) (some (.Name y py)) spos.line X.env=pure true:=by rfl)(hs:∀x,foldedSetIterable iter X.env x=pure x:=by intro _;rfl)(hf:X.fn y=true\/X.env.scope.names.lookup y=some .local:=by first|exact .inl rfl|exact .inr rfl):
  QS X (.Assign [.Name y py] (.ListComp elt [#[tg,iter,ifs,0]] scope pos) spos) (qZ (ti own.length cap wi g tc te) (bD j)) :=
 #[FI hN0 hj hy O hc hi.h (λC s0 H0 ex=>(hg C s0 H0 ex).h) gk (λC s0 H0 ex=>(ht C s0 H0 ex).h) (λC s0 H0 ex=>(he C s0 H0 ex).h) hsw hs hf]
def yS(he:QE X e te)(hg:QG X tg g)(hs:swapsWithSole [tg] e pos.line X.env=pure false:=by rfl)(hw:swappedStores [tg] e X.env=pure none:=by rfl)(h1:(assignEach [tg] X.env).map (·.2)=[assign tg X.env]:=by rfl):QS X (.Assign [tg] e pos) (qZ te g):=#[HY he.h hg.h hs hw h1]
def jS(hp:PassesOwn (model X.prog X.w) X.A X.env X.xe)(hc:X.calm=true)(hi:QI X tg iter wi)(hg:QG X tg g)(hb:QB X body t)(hs:∀x,foldedSetIterable iter X.env x=pure x:=by intro _;rfl):QS X (.For tg iter body [] pos) (IE wi g t):=#[Ia hp hc hi.h hg.h hb.h hs]
def mP(hp:PassesOwn (model X.prog X.w) X.A X.env X.xe)(hc:QT X c tc)(hb:QB X body t):QS X (.While c body [] pos) (Bz tc t):=#[CY hp hc.h hb.h]
end
def Fun.okQ{w:LU}{K:W.Frag}{st:Stmt}{k:Nat}{sp:Sp}(F:Fun K x qual st f fd)(S:FnScope N ps (aj st))(len:∀ vs H Q E,sp vs H Q E->vs.length=ps.length)(hbody:∀ (cdv:LP) (A:LV) (outer:List Env) (s:LO) (H:Hp) (vs:List V) (Q:VK) (E:XK),Room k (A.deeper (envOfC qual (aj st) s.heap.objs.size f cdv))->sp vs H Q E ->
   ∃ t,QB (fq CX0 P w K mg base N qual (aj st) f cdv A outer s H E).nox (bK st) t/\t { nx:=λ_ H'=>Q .non H',rt:=Q } (start N vs) H):↑FnOk CX0 (k+1) f fd ps sp :=
 F.ok S len λcdv A outer s H vs Q E hr hsp=>let⟨t,h,q⟩:=hbody cdv A outer s H vs Q E hr hsp;#[t,h.h,q]
section
variable{X:Cx}
def eX:QOp X (binaryOp .Add) (rI0 λi j=>.int (i+j)):=#[Hk]
def gF:QOp X (binaryOp .Sub) (rI0 λi j=>.int (i-j)):=#[Hw]
def D9:QOp X (binaryOp .Mult) (rI CMul λi j=>.int (i*j)):=#[Hr]
def bL:QOp X (binaryOp .FloorDiv) (rI Gi λi j=>.int (i / j)):=#[Ff]
def aX:QOp X (binaryOp .Mod) (rI (λ_ j=>0<j) λi j=>.int (i%j)):=#[Hq]
def yD:QOp X (binaryOp .Pow) (rI Gj λi j=>.int (i^j.toNat)):=#[Hv]
def sS:QOp X (binaryOp .Add) rCat:=#[Hm]
def aD:QOp X (compareOp .Eq) rEq:=#[Js]
def uZ:QOp X (compareOp .NotEq) rNe:=#[Jv]
def jL:QOp X (compareOp .Lt) (rI0 λi j=>.bl (decide (i<j))):=#[Ec]
def kT:QOp X (compareOp .LtE) (rI0 λi j=>.bl (decide (i<=j))):=#[Ju]
def jK:QOp X (compareOp .Gt) (rI0 λi j=>.bl (decide (j<i))):=#[Jt]
def mF:QOp X (compareOp .Is) (λx y H Q=>y=.non/\Q (.bl (decide (x=.non))) H):=#[Ho]
def kW:QOp X (compareOp .IsNot) (λx y H Q=>y=.non/\Q (.bl (!decide (x=.non))) H):=#[Fg]
def zn:QUn X (unaryOp .USub) (rU λi=>.int (-i)):=#[IM]
def aY:QIx X (rIxL X.K):=#[EU]
def au:QIx X (rIxT X.K):=#[GT]
def pf:QSl X (rSlL X.K):=#[FZ]
def bM:QCall X (.builtin "len") (λxs H Q=>∃p ys,xs=[.ref p]/\(SqL X.K H p ys\/SqT X.K H p ys)/\Q (.int ys.length) H):=#[ue]
def IZ:QCall X (.builtin "isinstance") (λxs H Q=>∃x T t b,xs=[x,.ty T]/\TyOf X.K H x t/\W.kitOne X.K t (.type T)=some b/\Q (.bl b) H):=#[BX]
def xY(hc:X.calm=true):QCall X (.builtin "all") (λxs H Q=>∃(p:LN) (bs:List Bool),xs=[.ref p]/\SqL X.K H p (bs.map V.bl)/\Q (.bl (bs.all id)) H):=#[BV hc]
def Ja(hc:X.calm=true):QCall X (.builtin "max") (λxs H Q=>∃i j,xs=[.int i,.int j]/\Q (.int (if j>i then j else i)) H):=#[zT hc]
def xZ:QCall X (.type "tuple") (λxs H Q=>∃p ys,xs=[.ref p]/\((SqL X.K H p ys/\∀l,H l=none->Q (.ref l) (upd H l (.tup ys)))\/(SqT X.K H p ys/\Q (.ref p) H))):=#[sg]
def sP:QCall X (.type "int") (λxs H Q=>(∃i,xs=[.int i]/\Q (.int i) H)\/∃k,xs=[.bl k]/\Q (.int (if k then 1 else 0)) H):=#[zR]
end
mutual
def Dt(H:Hp):PyData->V->Prop
 |.none,v=>v=.non
 |.bool b,v=>v=.bl b
 |.int i,v=>v=.int i
 |.str x,v=>v=.str x
 |.list ds,v=>∃a xs,v=.ref a/\Rd H a (.lst xs)/\DtAll H ds xs
 |.tuple ds,v=>∃a xs,v=.ref a/\Rd H a (.tup xs)/\DtAll H ds xs
 |.dict _,_=>False
def DtAll(H:Hp):List PyData->List V->Prop
 | [],xs=>xs=[]
 |d::ds,xs=>∃y ys,xs=y::ys/\Dt H d y/\DtAll H ds ys
end
section
mutual
theorem Dt.reads(ok:HOk P w H h):∀(d:PyData) (x:V) (v:LP),Dt H d x->RelV x v->∃as,Reads h v d as
 |.none,x,v,e,r=>by
  have e':x=.non:=by simpa only[Dt]using e
  subst e';cases r;exact#[_,.none]
 |.bool b,x,v,e,r=>by
  have e':x=.bl b:=by simpa only[Dt]using e
  subst e';cases r;exact#[_,.bool b]
 |.int i,x,v,e,r=>by
  have e':x=.int i:=by simpa only[Dt]using e
  subst e';exists[t,rfl],r;exact#[_,.int i t]
 |.str z,x,v,e,r=>by
  have e':x=.str z:=by simpa only[Dt]using e
  subst e';exists[t,rfl],r;exact#[_,.str z t]
 |.list ds,x,v,e,r=>by
  have e':∃a xs,x=.ref a/\Rd H a (.lst xs)/\DtAll H ds xs:=by simpa only[Dt]using e
  exists[a,xs,rfl,hr,hd],e';cases r;exists[_,its,n,rv,eo],hr.ok ok;exists[as,q],DtAll.reads ok ds xs its hd rv;exact#[_,.list eo rfl rfl (by simpa using q)]
 |.tuple ds,x,v,e,r=>by
  have e':∃a xs,x=.ref a/\Rd H a (.tup xs)/\DtAll H ds xs:=by simpa only[Dt]using e
  exists[a,xs,rfl,hr,hd],e';cases r;exists[_,its,rv,o,eo,hc,n,hs],hr.ok ok;exists[as,q],DtAll.reads ok ds xs its hd rv;exact#[_,.tuple eo hc hs (by simpa using q)]
 |.dict kvs,x,v,e,r=>by
  have e':False:=by simpa only[Dt]using e
  exact e'.elim
theorem DtAll.reads(ok:HOk P w H h):∀(ds:List PyData) (xs:List V) (vs:LM),DtAll H ds xs->Vals xs vs->∃as,ReadsAll h vs ds as
 | [],xs,vs,e,r=>by
  have e':xs=[]:=by simpa only[DtAll]using e
  subst e';cases r;exact#[_,.nil]
 |d::ds,xs,vs,e,r=>by
  have e':∃y ys,xs=y::ys/\Dt H d y/\DtAll H ds ys:=by simpa only[DtAll]using e
  exists[y,ys,rfl,h1,h2],e';cases r with
  |cons r1 r2 =>exists[as,q1],Dt.reads ok d y _ h1 r1;exists[bs,q2],DtAll.reads ok ds ys _ h2 r2;exact#[_,.cons q1 q2]
end
end
theorem wV:∀(ns:LX),DtAll H (ns.map PyData.int) (ns.map V.int)
 | []=>by simp only[YN,DtAll]
 |n::ns=>by simp only[Zs,DtAll];exact#[_,_,rfl,by simp only[Dt],wV ns]
section
variable{X:Cx}
inductive rEqD  (x:V)(y:V)(H:Hp)(Q:VK):Prop
 |mk (dx dy:_) (h0:Dt H dx x) (h1:Dt H dy y) (h2:SeqAt.shaped dx=true) (h3:SeqAt.shaped dy=true) (h4:Q (.bl (PyData.eqv dx dy)) H):rEqD  x y H Q
inductive rNeD  (x:V)(y:V)(H:Hp)(Q:VK):Prop
 |mk (dx dy:_) (h0:Dt H dx x) (h1:Dt H dy y) (h2:SeqAt.shaped dx=true) (h3:SeqAt.shaped dy=true) (h4:Q (.bl (!PyData.eqv dx dy)) H):rNeD  x y H Q
def AY(hu:X.A.units+64<cLine):OpR X (compareOp .Eq) rEqD:=by intro L4 s σ H x y v u Q I rx ry h;exists[dx,dy,h1,h2,s1,s2,q],h;exists[as,r1],Dt.reads I.hok dx x v h1 rx;exists[bs,r2],Dt.reads I.hok dy y u h2 ry;exact eq_dataH r1 r2 s1 s2 hu #[.bl _,H,I,rfl,q]
def Hs(hu:X.A.units+64<cLine):OpR X (compareOp .NotEq) rNeD:=by intro L4 s σ H x y v u Q I rx ry h;exists[dx,dy,h1,h2,s1,s2,q],h;exists[as,r1],Dt.reads I.hok dx x v h1 rx;exists[bs,r2],Dt.reads I.hok dy y u h2 ry;exact ne_dataH r1 r2 s1 s2 hu #[.bl _,H,I,rfl,q]
def D6(hu:X.A.units+64<cLine):QOp X (compareOp .Eq) rEqD:=#[AY hu]
def Jp(hu:X.A.units+64<cLine):QOp X (compareOp .NotEq) rNeD:=#[Hs hu]
end
section
variable{apos cpos:Pos}
def mJ(ho:QE X o to)(he:QE X e te)(hs:aK e=true:=by rfl)(hbase:attributeBase o "append" X.env (eval o X.env)=eval o X.env:=by rfl)(hline:(apos.endLine==cpos.line)=true:=by rfl) :
  QE X (.Call (.Attribute o "append" apos) [e] [] cpos) (tBM X.K "list" rAppend to (dA te dP)):=by
 have h1:=aI (es:=[]) (env:=X.env) hs;have h2:starEach ([]:List L3) X.env=[]:=rfl;refine#[mH PySem.F.plainAttrs_list PySem.F.slot_list_append PySem.F.type_list_append AE ho.h (pa he.h gU hs) hbase ?_ hline h1 (by rw[h2];rfl)];rw[h1,h2];rfl
end
def uJ{i j:Int}(h1:i=j->A)(h2:i≠j->B):if decide (V.int i=V.int j)=true then A else B:=by
 by_cases h:i=j
 ·rw[LI (decide_eq_true (by rw[h]))];exact h1 h
 ·rw[LH (by rw[decide_eq_false (λz=>h (by injection z))];exact Zv)];exact h2 h
def fi(e:Same H H')(h:H p=none):Same H (upd H' p o):=λb u q=>by rw[ag (ar q h)];exact e _ _ q
def dI(ns:LX)(k:Nat):Int:=(ns[k]?).getD 0
def BS{ns:LX}{k:Int}(h0:0<=k)(h1:k<ns.length):atI (ns.map V.int) k=some (.int (dI ns k.toNat)):=by
 have hk:k.toNat<ns.length:=∅
 have ek:k=((k.toNat:Nat):Int):=∅
 have q:atI (ns.map V.int) ((k.toNat:Nat):Int)=some (.int ns[k.toNat]):=cU (by rw[Zq,z9 hk]<;>rfl);rw[<-ek]at q;rw[q];unfold dI;rw[z9 hk];rfl
def BY{ns:LX}{k:Int}(h0:0<=k)(h1:¬k<ns.length):dI ns k.toNat=0:=by unfold dI;rw[Y7 ∅];rfl
section
variable{A:LV}
def fT(calm:A.handled=none)(it t:LN)(apart:t≠it)(xs:Array LP) :
  Draws prog w A it [it,t] xs.size (λi v=>xs[i]?=some v) (λi h=>h.IsTupleIter it t i/\h.IsTuple t xs) where
 live:=λ_ _ q=>let⟨o,eo,_⟩:=q.1;#[o,eo]
 frame:=λ_ _ _ q kp=>#[let⟨o,eo,r⟩:=q.1;#[o,kp it (by simp) o eo,r],let⟨o,eo,r⟩:=q.2;#[o,kp t (by simp) o eo,r]]
 item:=λi s Q E lt q cont=>by
  have ei:xs[i]?=some xs[i]:=by simp[lt]
  exists[o,eo,ec,ed],id q.1;exists[p,ep,_,np,edp],id q.2;have ty:=q.1.typeIs;unfold Builtin.SmallTypes.nextOf;refine z6 (Z0 (name:=Str.ofString "__next__") ty F.slot_tuple_iterator_next (ZT F.slot_tuple_iterator_next ty F.entry_tuple_iterator_next ?_ (F.args_tuple_iterator_next_1 _)));show wpAny _ _ (field (.ref it) 0 >>= _) _ _ s;refine z6 (Yo eo ed (x:=.ref t) rfl ?_);show wpAny _ _ (if(Value.ref t==Value.none)=true then _ else _) _ _ s;rw[LH (show¬((Value.ref t==Value.none)=true)from Zv)];show wpAny _ _ (field (.ref it) 1 >>= _) _ _ s;refine z6 (Yo eo ed (x:=.int i 0) rfl ?_);show wpAny _ _ (seqItems? (.ref t) >>= _) _ _ s;refine z6 (Y1 ep edp ?_);simp only[Int.toNat_natCast,ei];have sb:=ZI s.heap it (λob=>ob.mapFields λfs=>fs.setIfInBounds 1 (rawInt (i+1)));refine z6 (wpAny_setField eo ed (by simp) (Zb #[xs[i],rfl,Zb (cont _ _ s.toks ei #[?_,?_] (ZI ..))]))
  ·exact#[_,YR _ eo (Obj.isFreed_of_fields (Obj.data_mapFields ed _)),(Obj.cls_mapFields ..).trans ec,by rw[Obj.data_mapFields ed];simp[rawInt]]
  ·exact q.2.extBut (ZI ..).extBut apart
 done:=λs Q E q cont=>by
  have ei:xs[xs.size]?=none:=by simp
  exists[o,eo,ec,ed],id q.1;exists[p,ep,_,np,edp],id q.2;have ty:=q.1.typeIs;unfold Builtin.SmallTypes.nextOf;refine z6 (Z0 (name:=Str.ofString "__next__") ty F.slot_tuple_iterator_next (ZT F.slot_tuple_iterator_next ty F.entry_tuple_iterator_next ?_ (F.args_tuple_iterator_next_1 _)));show wpAny _ _ (field (.ref it) 0 >>= _) _ _ s;refine z6 (Yo eo ed (x:=.ref t) rfl ?_);show wpAny _ _ (if(Value.ref t==Value.none)=true then _ else _) _ _ s;rw[LH (show¬((Value.ref t==Value.none)=true)from Zv)];show wpAny _ _ (field (.ref it) 1 >>= _) _ _ s;refine z6 (Yo eo ed (x:=.int xs.size 0) rfl ?_);show wpAny _ _ (seqItems? (.ref t) >>= _) _ _ s;refine z6 (Y1 ep edp ?_);simp only[Int.toNat_natCast,ei];refine z6 (Yv (z6 (wpAny_setField eo ed (by simp) ?_)));show wpAny _ _ (newExc (.type "StopIteration") [] >>= _) _ _ _;refine z6 ?_;simp only[newExc,newTuple];refine z6 (Yi ?_ (by size_fits));refine z6 (m:=firstArgMember _ _) (wpAny_of_eq (a:=Value.none) (by first|rfl|(simp only[firstArgMember];rfl)) (Yi ?_ (by size_fits)));simp only[raiseNew];refine z6 (wpAny_handled ?_)
  first|rw[show A.in1.handled=none from calm]|rw[calm]
  exact z6 (Zb (wpAny_throw (cont _ _ (((ZI ..).extBut.push _).push _) #[_,Zk _ rfl,rfl])))
end
structure ZAp(z u v i j:LN)(f g:List LN):Prop where
 uz:u≠z
 vz:v≠z
 uv:u≠v
 ui:u≠i
 uj:u≠j
 vi:v≠i
 vj:v≠j
 iz:i≠z
 jz:j≠z
 ij:i≠j
 zf:z∉f
 zg:z∉g
 vf:v∉f
 vg:v∉g
 jf:j∉f
 ig:i∉g
section
variable{E:LK}{s:LO}{z v i j:LN}{f:List LN}{n m k:Nat}
def xW(z v i j:LN)(h h':Heap):Prop:=∀c o,c≠z->c≠v->c≠i->c≠j->h.get? c=some o->h'.get? c=some o
def dL{f:List LN}(hc:c∈f)(hd:d∉f):c≠d:=λe=>hd (e▸hc)
def vV(d1:Draws prog w A i f n P1 S1)(d2:Draws prog w A j g m P2 S2)(ap:ZAp z u v i j f g)(hz:IsZip s.heap z u v .none)(hu:IsPair s.heap u (.ref i) (.ref j))(hv:IsPair s.heap v a b)(h1:S1 k s.heap)(h2:S2 k s.heap)(l1:k<n)(l2:k<m){Q:LK}(cont:∀h' tk x y,P1 k x->P2 k y->IsZip h' z u v (rawInt s.heap.objs.size)->IsPair h' v x y->S1 (k+1) h'->S2 (k+1) h'->IsPair h' s.heap.objs.size x y->xW z v i j s.heap h'->Q (.ref s.heap.objs.size) { s with heap:=h',toks:=tk }) :
  wpAny (model prog w) A (Builtin.«zip.__next__» #[[.ref z],[]]) (λfin s'=>∃r,fin=.done (.ret r)/\Q r s') E s:=by
 show wpAny _ _ (field (.ref z) 2 >>= _) _ _ _;refine z6 (Yo hz rfl (x:=.bool false) rfl ?_);show wpAny _ _ (field (.ref z) 3 >>= _) _ _ _;refine z6 (Yo hz rfl (x:=.ref u) rfl (z6 (Y1 hu rfl ?_)));show wpAny _ _ (Builtin.SmallTypes.ownedTupleIsFree (.ref z) >>= _) _ _ _;refine z6 ?_;unfold Builtin.SmallTypes.ownedTupleIsFree;refine z6 (Yo hz rfl (x:=.none) rfl (Zb ?_));simp only[if_true];refine z6 (Yv (z6 (Yo hz rfl (x:=.ref v) rfl ?_)));refine z6 (wpAny_setField_rec hz (by simp) λq1 z1 b1=>?_)
 replace z1:IsZip q1 z u v .ellipsis:=z1
 refine z6 ?_;simp only[List.zipIdx_cons,List.zipIdx_nil,List.forIn_cons,List.forIn_nil];refine z6 (z6 (wpAny_onRaise ?_));show wpAny _ _ (Builtin.SmallTypes.nextOf (.ref i) >>= _) _ _ _;refine z6 (d1.item k { s with heap:=q1 } _ _ l1 (d1.frame _ _ _ h1 λc hc o e=>b1.extBut c o (dL hc ap.zf) e) λx q2 t2 px s2 b2=>Zb ?_);have v2:IsPair q2 v a b:=b2.extBut _ _ ap.vi (b1.extBut _ _ ap.vz hv);refine z6 (Y1 v2 rfl (z6 (wpAny_updateSeq_pair v2 λq3 w3 b3=>?_)))
 replace w3:IsPair q3 v x b:=w3
 refine z6 (wpAny_letGo (Zb ?_));refine z6 (z6 (wpAny_onRaise ?_));show wpAny _ _ (Builtin.SmallTypes.nextOf (.ref j) >>= _) _ _ _;refine z6 (d2.item k { s with heap:=q3,toks:=t2 } _ _ l2 (d2.frame _ _ _ h2 λc hc o e=>b3.extBut c o (dL hc ap.vg) (b2.extBut c o (dL hc ap.ig) (b1.extBut c o (dL hc ap.zg) e))) λy q4 t4 py s4 b4=>Zb ?_);have v4:IsPair q4 v x b:=b4.extBut _ _ ap.vj w3;refine z6 (Y1 v4 rfl (z6 (wpAny_updateSeq_pair v4 λq5 w5 b5=>?_)))
 replace w5:IsPair q5 v x y:=w5
 refine z6 (wpAny_letGo (Zb (Zb (z6 (Y1 w5 rfl (z6 (wpAny_newTuple ?_)))))));have sz:q5.objs.size=s.heap.objs.size:=by rw[b5.1,b4.1,b3.1,b2.1,b1.1]
 have z5:IsZip q5 z u v .ellipsis:=b5.extBut _ _ ap.vz.symm (b4.extBut _ _ ap.jz.symm (b3.extBut _ _ ap.vz.symm (b2.extBut _ _ ap.iz.symm z1)));have k5:xW z v i j s.heap q5:=λc o c1 c2 c3 c4 e=>b5.extBut _ _ c2 (b4.extBut _ _ c4 (b3.extBut _ _ c2 (b2.extBut _ _ c3 (b1.extBut _ _ c1 e))));have s5:S1 (k+1) q5:=d1.frame _ _ _ s2 λc hc o e=>b5.extBut c o (dL hc ap.vf) (b4.extBut c o (dL hc ap.jf) (b3.extBut c o (dL hc ap.vf) e));have r5:S2 (k+1) q5:=d2.frame _ _ _ s4 λc hc o e=>b5.extBut c o (dL hc ap.vg) e;have zlt:z<q5.objs.size:=Zr z5;show wpAny _ _ (Builtin.SmallTypes.ownedTupleHandOut (.ref z) (.ref q5.objs.size) >>= _) _ _ _;refine z6 ?_;unfold Builtin.SmallTypes.ownedTupleHandOut;refine z6 (wpAny_setField_rec (show IsZip (q5.push { cls:=.type "tuple",data:=.seq (List.toArray [x,y]) }) z u v .ellipsis from Za _ z5) (by simp) λq7 z7 b7=>?_)
 replace z7:IsZip q7 z u v (rawInt q5.objs.size):=z7
 refine wpAny_setField_rec z7 (by simp) λq8 z8 b8=>?_
 replace z8:IsZip q8 z u v (rawInt q5.objs.size):=z8
 have up:∀c o,c≠z->q5.get? c=some o->q8.get? c=some o:=λc o c1 e=>b8.extBut _ _ c1 (b7.extBut _ _ c1 (Za _ e));have p8:IsPair q8 q5.objs.size x y:=b8.extBut _ _ (ZV zlt) (b7.extBut _ _ (ZV zlt) (Zk _ rfl));rw[sz]at z8 p8;refine Zb #[_,rfl,?_];show Q (.ref q5.objs.size) _;rw[sz];exact cont q8 _ x y px py z8 (up _ _ ap.vz w5) (d1.frame _ _ _ s5 λc hc o e=>up c o (dL hc ap.zf) e) (d2.frame _ _ _ r5 λc hc o e=>up c o (dL hc ap.zg) e) p8 λc o c1 c2 c3 c4 e=>up c o c1 (k5 c o c1 c2 c3 c4 e)
def xP(d1:Draws prog w A i f n P1 S1)(d2:Draws prog w A j g m P2 S2)(ap:ZAp z u v i j f g)(hz:IsZip s.heap z u v .none)(hu:IsPair s.heap u (.ref i) (.ref j))(hv:IsPair s.heap v a b)(h1:S1 n s.heap)(cont:∀h' e,xW z v i j s.heap h'->(∃o,h'.get? e=some o/\o.cls=.type "StopIteration")->E (.ref e) { s with heap:=h' }):wpAny (model prog w) A (Builtin.«zip.__next__» #[[.ref z],[]]) Q E s:=by
 show wpAny _ _ (field (.ref z) 2 >>= _) _ _ _;refine z6 (Yo hz rfl (x:=.bool false) rfl ?_);show wpAny _ _ (field (.ref z) 3 >>= _) _ _ _;refine z6 (Yo hz rfl (x:=.ref u) rfl (z6 (Y1 hu rfl ?_)));show wpAny _ _ (Builtin.SmallTypes.ownedTupleIsFree (.ref z) >>= _) _ _ _;refine z6 ?_;unfold Builtin.SmallTypes.ownedTupleIsFree;refine z6 (Yo hz rfl (x:=.none) rfl (Zb ?_));simp only[if_true];refine z6 (Yv (z6 (Yo hz rfl (x:=.ref v) rfl ?_)));refine z6 (wpAny_setField_rec hz (by simp) λq1 z1 b1=>?_)
 replace z1:IsZip q1 z u v .ellipsis:=z1
 refine z6 ?_;simp only[List.zipIdx_cons,List.zipIdx_nil,List.forIn_cons,List.forIn_nil];refine z6 (z6 (wpAny_onRaise ?_));show wpAny _ _ (Builtin.SmallTypes.nextOf (.ref i) >>= _) _ _ _;refine z6 (d1.done { s with heap:=q1 } _ _ (d1.frame _ _ _ h1 λc hc o e=>b1.extBut c o (dL hc ap.zf) e) λq2 e b2 he=>?_);exists[oe,hoe,hce],he;have z2:IsZip q2 z u v .ellipsis:=b2 _ _ ap.iz.symm z1;have ez:e≠z:=λx=>by subst x;rw[z2]at hoe;cases hoe;simp at hce
 exact wpAny_setField_rec z2 (by simp) λq3 _ b3=>cont q3 e (λc o c1 _ c3 _ x=>b3.extBut _ _ c1 (b2 _ _ c3 (b1.extBut _ _ c1 x))) #[oe,b3.extBut _ _ ez hoe,hce]
end
section
variable{X:Cx}{L4:LJ}{σ:St}{H:Hp}{s:LO}{h':Heap}{ch:List LN}{t':Nat}
def Inv.turnH{H':Hp}(I:Inv X L4 σ H s)(hch:∀b∈ch,aZ X L4 H b)(kp:∀b o,b∉ch->s.heap.get? b=some o->h'.get? b=some o)(up:∀b u,H b=some u->H' b=some u)(dn:∀b o,s.heap.get? b=some o->H b=none->H' b=none)(hok:HOk X.prog X.w H' h') :
  Inv X L4 σ H' { s with heap:=h',toks:=t' }:=by
 refine I.step (g':=s.gens) (d':=s.drawn) (ch:=ch) (λb hb=>?_) (λb o _ _ hc e _=>kp b o hc e) (λb o _ _ hc e _=>#[o.slots,kp b o hc e]) (λb o _ e n=>dn b o e n) (λb o hc e=>#[o,kp b o hc e]) (λb xs e=>up _ _ e) (λb o u e=>up _ _ e) (λb ps e=>#[#[],by rw[up _ _ e];simp]) (λm hm=>?_) hok I.bare
 ·exists[f0,f1,f2,f3,f4,f5],hch b hb;exact#[f3,f1,f4,f5]
 ·exists[o,es,ep,ho,r],hm;exact#[o,es,ep,kp _ o (λz=>(hch _ z).2.1 rfl) ho,r]
def uE(I:Inv X L4 σ H s)(hch:∀b∈ch,aZ X L4 H b)(kp:∀b o,b∉ch->s.heap.get? b=some o->h'.get? b=some o):HOk X.prog X.w H h':=λb u e=>by
 have nin:∀{c:LN} {q:HO},H c=some q->c∉ch:=fun{c q} e z=>by rw[(hch c z).1]at e;cases e
 refine(I.hok b u e).stay (λc v hc q=>kp c v ?_ q) (λ_ q=>q) λ_ _ q=>q;rcases hc with z|z
 ·rw[z];exact nin e
 ·exact nin z
def Inv.turnM(I:Inv X L4 σ H s)(hch:∀b∈ch,aZ X L4 H b)(kp:∀b o,b∉ch->s.heap.get? b=some o->h'.get? b=some o):Inv X L4 σ H { s with heap:=h',toks:=t' } :=
 I.turnH hch kp (λ_ _ e=>e) (λ_ _ _ n=>n) (uE I hch kp)
def Inv.turnT{its:LM}(I:Inv X L4 σ H s)(hch:∀b∈ch,aZ X L4 H b)(kp:∀b o,b∉ch->s.heap.get? b=some o->h'.get? b=some o)(hp:IsTup h' s.heap.objs.size its.toArray)(rv:Vals xs its)(hz:xs.length<=sizeLine):
  Inv X L4 σ (upd H s.heap.objs.size (.tup xs)) { s with heap:=h',toks:=t' }:=by
 have fr:=I.hok.fresh (Ze s.heap.objs.size);have ne:∀{b:LN} {u:HO},H b=some u->b≠s.heap.objs.size:=fun{b u} e=>ar e fr;have hk:=uE I hch kp;refine I.turnH hch kp (λb u e=>by rw[ag (ne e)];exact e) (λb o e n=>by rw[ag (Zx (Zr e))];exact n) λb u e=>?_;by_cases hb:b=s.heap.objs.size
 ·subst hb;rw[ac]at e;cases e;exact#[hz,its,rv,hp]
 ·rw[ag hb]at e;exact(hk b u e).stay (λ_ _ _ q=>q) (λc q=>by rw[ag (ne q)];exact q) λc ys q=>by rw[ag (ne q)];exact q
end
def Itz(K:W.Frag)(a b:LN)(xs ys:List V):It :=
 #[λi H=>i<xs.length/\SqT K H a xs/\SqT K H b ys,λi H x H'=>∃T p q,H T=none/\xs[i]?=some p/\ys[i]?=some q/\x=.ref T/\H'=upd H T (.tup [p,q]),λi H=>i=xs.length/\SqT K H a xs/\SqT K H b ys]
abbrev zTn(z u v i1 i2 a b:LN):Nat->Heap->Prop:=λi h=>IsZip h z u v .none/\IsPair h u (.ref i1) (.ref i2)/\(∃p q,IsPair h v p q)/\h.IsTupleIter i1 a i/\h.IsTupleIter i2 b i
def DE{w:LU}{K:W.Frag}{kt:Nat}{xs ys:List V}(hl:xs.length=ys.length)(D:[z,u,v,i1,i2].Nodup)(ha:∀c∈[z,u,v,i1,i2],c≠a/\c≠b):
  Turn P w K (.Tuple elts kt tp) (Itz K a b xs ys) [z,u,v,i1,i2] z (zTn z u v i1 i2 a b):=by
 have nd:(z≠u/\z≠v/\z≠i1/\z≠i2)/\(u≠v/\u≠i1/\u≠i2)/\(v≠i1/\v≠i2)/\i1≠i2:=by simpa using D
 obtain⟨⟨zu,zv,z1,z2⟩,⟨uv,u1,u2⟩,⟨v1,v2⟩,i12⟩:=nd;have az:=ha z (by simp);have av:=ha v (by simp);have a1:=ha i1 (by simp);have a2:=ha i2 (by simp);have ap:ZAp z u v i1 i2 [i1,a] [i2,b]:=#[zu.symm,zv.symm,uv,u1,u2,v1,v2,z1.symm,z2.symm,i12,by simp[z1,az.1],by simp[z2,az.2],by simp[v1,av.1],by simp[v2,av.2],by simp[i12.symm,a2.1],by simp[i12,a1.2]]
 refine#[by simp,λi h st c hc=>?_,λi h h' st k=>?_,?_,?_,λA i s Q E st h=>wpAny_pyIter_zip st.1 h]
 ·obtain⟨e1,e2,⟨p,q,e3⟩,⟨o4,e4,_,d4⟩,⟨o5,e5,_,d5⟩⟩:=st;simp only[Zf,Zz,ZY]at hc;rcases hc with rfl|rfl|rfl|rfl|rfl
  ·exact#[_,e1,λv z=>nomatch z]
  ·exact#[_,e2,λv z=>nomatch z]
  ·exact#[_,e3,λv z=>nomatch z]
  ·exact#[_,e4,λv z=>by rw[d4]at z;cases z]
  ·exact#[_,e5,λv z=>by rw[d5]at z;cases z]
 ·obtain⟨e1,e2,⟨p,q,e3⟩,⟨o4,e4,r4⟩,⟨o5,e5,r5⟩⟩:=st;exact#[k z (by simp) _ e1,k u (by simp) _ e2,#[p,q,k v (by simp) _ e3],#[o4,k i1 (by simp) _ e4,r4],#[o5,k i2 (by simp) _ e5,r5]]
 ·intro X hP hw hK hc i L4 s σ H E I hf st hg;subst hP hw hK;obtain⟨e1,e2,⟨p,q,e3⟩,e4,e5⟩:=st;exists[hi,hx,hy],hg;exists[its,rx,px,zx],I.tuple hx;exists[jts,ry,py,zy],I.tuple hy;have lx:i<its.toArray.size:=by rw[Zh,<-rx.length];exact hi
  have ly:i<jts.toArray.size:=by rw[Zh,<-ry.length,<-hl];exact hi
  have hh:=I.ok.hd hc;have hT:s.TypeIs (.ref z) "zip":=#[_,e1,rfl]
  unfold pyNext;refine z6 (wpAny_attempt (Z0 (name:=Str.ofString "__next__") hT YT (ZT YT hT F.entry_zip_next
   (vV (fT (A:=X.A.in1) hh i1 a a1.1.symm its.toArray) (fT (A:=X.A.in1) hh i2 b a2.2.symm jts.toArray) ap e1 e2 e3 #[e4,px] #[e5,py] lx ly λh' tk x y qx qy zz vv s1 s2 pp kp=>Zb ?_) (F.args_zip_next_1 _))))
  refine#[_,rfl,wpAny_letOwnedTupleGo_zip (s:={ s with heap:=h',toks:=tk }) zz λh2 z2' sb=>?_];obtain⟨xv,ex⟩:∃xv,xs[i]?=some xv:=#[xs[i],by simp[hi]]
  obtain⟨yv,ey⟩:∃yv,ys[i]?=some yv:=#[ys[i]'∅,by simp[show i<ys.length by omega]]
  exists[x',gx,rxv],rx.get ex;exists[y',gy,ryv],ry.get ey;have qx':its[i]?=some x:=by simpa using qx
  have qy':jts[i]?=some y:=by simpa using qy
  rw[gx]at qx';rw[gy]at qy';cases qx';cases qy';have ltz:z<s.heap.objs.size:=Zr e1;have kp2:∀c o,c∉[z,u,v,i1,i2]->s.heap.get? c=some o->h2.get? c=some o:=λc o hc e=>by simp only[Zf,Zz,ZY,not_or]at hc;exact sb.extBut c o hc.1 (kp c o hc.1 hc.2.2.1 hc.2.2.2.1 hc.2.2.2.2 e)
  have tT:IsTup h2 s.heap.objs.size [x,y].toArray:=#[_,sb.extBut _ _ (ZV ltz) pp,rfl,_,rfl]
  refine#[.ref s.heap.objs.size,upd H s.heap.objs.size (.tup [xv,yv]),I.turnT (t':=tk) hf kp2 tT (.cons rxv (.cons ryv .nil)) (sz rfl),rfl,#[_,xv,yv,I.hok.fresh (Ze _),ex,ey,rfl,rfl],?_,λc hc=>?_]
  ·exact#[z2',sb.extBut _ _ zu.symm (kp _ _ zu.symm uv u1 u2 e2),#[_,_,sb.extBut _ _ zv.symm vv],s1.1.extBut sb.extBut z1.symm,s2.1.extBut sb.extBut z2.symm]
  ·rw[ag]
   ·exact(hf c hc).1
   ·obtain⟨o,eo,_⟩:∃o,s.heap.get? c=some o/\True:=by
     simp only[Zf,Zz,ZY]at hc;rcases hc with rfl|rfl|rfl|rfl|rfl
     ·exact#[_,e1,trivial]
     ·exact#[_,e2,trivial]
     ·exact#[_,e3,trivial]
     ·exists[o,eo,_],e4;exact#[o,eo,trivial]
     ·exists[o,eo,_],e5;exact#[o,eo,trivial]
    exact Zx (Zr eo)
 ·intro X hP hw hK hc i L4 s σ H E I hf st hg;subst hP hw hK;obtain⟨e1,e2,⟨p,q,e3⟩,e4,e5⟩:=st;exists[rfl,hx,hy],hg;exists[its,rx,px,zx],I.tuple hx;exists[jts,ry,py,zy],I.tuple hy;have lx:its.toArray.size=xs.length:=by rw[Zh,<-rx.length]
  have hh:=I.ok.hd hc;have hT:s.TypeIs (.ref z) "zip":=#[_,e1,rfl]
  unfold pyNext;refine z6 (wpAny_attempt (Z0 (name:=Str.ofString "__next__") hT YT (ZT YT hT F.entry_zip_next
   (xP (fT (A:=X.A.in1) hh i1 a a1.1.symm its.toArray) (fT (A:=X.A.in1) hh i2 b a2.2.symm jts.toArray) ap e1 e2 e3 #[by rw[lx];exact e4,px] λh' e kp he=>?_) (F.args_zip_next_1 _))))
  exists[o,ho,hco],he;refine z6 (wpAny_isInstance (T:="StopIteration") (b:=true) #[o,ho,hco] isSubtype_stop (Zb #[rfl,?_]));exact I.turnM (t':=s.toks) hf λc ob hc e=>by simp only[Zf,Zz,ZY,not_or]at hc;exact kp c ob hc.1 hc.2.2.1 hc.2.2.2.1 hc.2.2.2.2 e
def yz(l1 l2:LN)(xs ys:Array LP) :
  Meets (Builtin.«zip.__new__» #[[.type "zip",.ref l1,.ref l2],[]]) (λ_ R s=>s.heap.IsTuple l1 xs/\s.heap.IsTuple l2 ys /\
   R (.ok (.ret (.ref ((((s.heap.push { cls:=.type "tuple_iterator",data:=.fields (List.toArray [.ref l1,.int 0 0]) }).push { cls:=.type "tuple_iterator",data:=.fields (List.toArray [.ref l2,.int 0 0]) }).push { cls:=.type "tuple",data:=.seq (List.toArray [.ref s.heap.objs.size,.ref (s.heap.push { cls:=.type "tuple_iterator",data:=.fields (List.toArray [.ref l1,.int 0 0]) }).objs.size]) }).push { cls:=.type "tuple",data:=.seq (List.toArray [.none,.none]) }).objs.size)))
    { s with heap:=((((s.heap.push { cls:=.type "tuple_iterator",data:=.fields (List.toArray [.ref l1,.int 0 0]) }).push { cls:=.type "tuple_iterator",data:=.fields (List.toArray [.ref l2,.int 0 0]) }).push { cls:=.type "tuple",data:=.seq (List.toArray [.ref s.heap.objs.size,.ref (s.heap.push { cls:=.type "tuple_iterator",data:=.fields (List.toArray [.ref l1,.int 0 0]) }).objs.size]) }).push { cls:=.type "tuple",data:=.seq (List.toArray [.none,.none]) }).push { cls:=.type "zip",data:=.fields (List.toArray [.none,.bool false,.bool false,.ref ((s.heap.push { cls:=.type "tuple_iterator",data:=.fields (List.toArray [.ref l1,.int 0 0]) }).push { cls:=.type "tuple_iterator",data:=.fields (List.toArray [.ref l2,.int 0 0]) }).objs.size,.ref (((s.heap.push { cls:=.type "tuple_iterator",data:=.fields (List.toArray [.ref l1,.int 0 0]) }).push { cls:=.type "tuple_iterator",data:=.fields (List.toArray [.ref l2,.int 0 0]) }).push { cls:=.type "tuple",data:=.seq (List.toArray [.ref s.heap.objs.size,.ref (s.heap.push { cls:=.type "tuple_iterator",data:=.fields (List.toArray [.ref l1,.int 0 0]) }).objs.size]) }).objs.size]) } }) :=
 .of_wp λprog w A R s h=>by
  exists[hp,g,d,tk,os],s;exists[t1,t2,h],h;have hsub:=sub_zip;have T1:Heap.IsTuple (Shared.heap #[hp,g,d,tk,os]) l1 xs:=t1;have T2:Heap.IsTuple (Shared.heap #[hp.push { cls:=.type "tuple_iterator",data:=.fields (List.toArray [.ref l1,.int 0 0]) },g,d,tk,os]) l2 ys:=Heap.IsTuple.push t2 _
  wp_walk using wpAny_pyIter_tuple T1,wpAny_pyIter_tuple T2
  exact#[_,rfl,h]
def AK(n:Nat):[n+4,n+2,n+3,n,n+1].Nodup:=by simp
def GP(K:W.Frag)(ta:TA):TI:=λσ H R=>ta σ H λvs H1=>∃a b xs ys,vs=[.ref a,.ref b]/\SqT K H1 a xs/\SqT K H1 b ys/\xs.length=ys.length/\R (Itz K a b xs ys) H1
section
variable{X:Cx}
def HX{kt:Nat}(hg:Gl X "zip")(hm:X.mg "zip" = none)(ha:PA X [e1,e2] ta)(n1:aK e1=true)(n2:aK e2=true):PI X (.Tuple elts kt tp) (.Call (.Name "zip" p) [e1,e2] [] pos) (GP X.K ta):=by
 intro L4 s σ H R I h;refine Call_ (cV I hg hm boot_zip (Z5 (thn (ha pos L4 s σ H _ I h) λus s1 hz9=>?_) (aI n1) (bE (by simp[n2]))));exists[vs,H1,I1,r1,q1],hz9;exists[a,b,xs,ys,e,hx,hy,hl,q],q1;subst e;exists[ua,ub,rfl,ra,rb],fW r1;cases ra;cases rb;exists[its,rx,px,zx],I1.tuple hx;exists[jts,ry,py,zy],I1.tuple hy;refine callType_new F.called_zip ⋯ (F.typeCall_zip_2 _ _) (F.newCall_zip_2 _ _) (λobj=>F.args_object_init_3 obj _ _) F.entry_zip_new (yz a b its.toArray jts.toArray) #[px,py,?_];generalize ea:({ cls:=.type "tuple_iterator",data:=.fields (List.toArray [.ref a,.int 0 0]) }:Obj)=oa;generalize eb:({ cls:=.type "tuple_iterator",data:=.fields (List.toArray [.ref b,.int 0 0]) }:Obj)=ob;have z1:(s1.heap.push oa).objs.size=s1.heap.objs.size+1:=Yz ..;have z2:((s1.heap.push oa).push ob).objs.size=s1.heap.objs.size+2:=by rw[Yz,z1]
 rw[z2,z1];generalize eu:({ cls:=.type "tuple",data:=.seq (List.toArray [.ref s1.heap.objs.size,.ref (s1.heap.objs.size+1)]) }:Obj)=ou;have z3:(((s1.heap.push oa).push ob).push ou).objs.size=s1.heap.objs.size+3:=by rw[Yz,z2]
 generalize ev:({ cls:=.type "tuple",data:=.seq (List.toArray [.none,.none]) }:Obj)=ov;have z4:((((s1.heap.push oa).push ob).push ou).push ov).objs.size=s1.heap.objs.size+4:=by rw[Yz,z3]
 rw[z4,z3];generalize ez:({ cls:=.type "zip",data:=.fields (List.toArray [.none,.bool false,.bool false,.ref (s1.heap.objs.size+2),.ref (s1.heap.objs.size+3)]) }:Obj)=oz;have g5:(((((s1.heap.push oa).push ob).push ou).push ov).push oz).get? (s1.heap.objs.size+4)=some oz:=by rw[<-z4];exact Zk _ (by rw[<-ez];rfl)
 have g4:(((((s1.heap.push oa).push ob).push ou).push ov).push oz).get? (s1.heap.objs.size+3)=some ov:=by rw[<-z3];exact Za _ (Zk _ (by rw[<-ev];rfl))
 have g3:(((((s1.heap.push oa).push ob).push ou).push ov).push oz).get? (s1.heap.objs.size+2)=some ou:=by rw[<-z2];exact Za _ (Za _ (Zk _ (by rw[<-eu];rfl)))
 have g2:(((((s1.heap.push oa).push ob).push ou).push ov).push oz).get? (s1.heap.objs.size+1)=some ob:=by rw[<-z1];exact Za _ (Za _ (Za _ (Zk _ (by rw[<-eb];rfl))))
 have g1:(((((s1.heap.push oa).push ob).push ou).push ov).push oz).get? s1.heap.objs.size=some oa:=Za _ (Za _ (Za _ (Za _ (Zk _ (by rw[<-ea];rfl)))));have kp:∀c o,s1.heap.get? c=some o->(((((s1.heap.push oa).push ob).push ou).push ov).push oz).get? c=some o:=λc o e=>Za _ (Za _ (Za _ (Za _ (Za _ e))));generalize((((s1.heap.push oa).push ob).push ou).push ov).push oz=hN at g1 g2 g3 g4 g5 kp ⊢;have I2:Inv X L4 σ H1 { s1 with heap:=hN }:=I1.kept (t':=s1.toks) kp;have la:a<s1.heap.objs.size:=px.lt;have lb:b<s1.heap.objs.size:=py.lt;subst ea eb eu ev ez;have base:∀c∈[s1.heap.objs.size+4,s1.heap.objs.size+2,s1.heap.objs.size+3,s1.heap.objs.size,s1.heap.objs.size+1],s1.heap.objs.size<=c:=λc hc=>by simp only[Zf,Zz,ZY]at hc;omega
 refine#[#[_,g5,rfl],?_];show wpAny (model X.prog X.w) X.A (pyIter (.ref (s1.heap.objs.size+4))) (PIE X L4 σ (.Tuple elts kt tp) R) X.xe { s1 with heap:=hN };refine wpAny_pyIter_zip g5 ?_;refine#[s1.heap.objs.size+4,[s1.heap.objs.size+4,s1.heap.objs.size+2,s1.heap.objs.size+3,s1.heap.objs.size,s1.heap.objs.size+1],zTn (s1.heap.objs.size+4) (s1.heap.objs.size+2) (s1.heap.objs.size+3) s1.heap.objs.size (s1.heap.objs.size+1) a b,_,H1,rfl,I2,
  DE hl ?_ (λc hc=>#[ZV (ZA la (base c hc)),ZV (ZA lb (base c hc))]),#[g5,g3,#[_,_,g4],#[_,g1,rfl,rfl],#[_,g2,rfl,rfl]],λc hc=>?_,q]
 ·exact AK s1.heap.objs.size
 ·exact I1.fpOk (base c hc) (I1.hok.fresh (base c hc))
def DW{kt:Nat}(hm:X.mg "zip" = none)(ha:QA X [e1,e2] ta)(hg:Gl X "zip":=by rfl)(n1:aK e1=true:=by rfl)(n2:aK e2=true:=by rfl):QI X (.Tuple elts kt tp) (.Call (.Name "zip" p) [e1,e2] [] pos) (GP X.K ta):=#[HX hg hm ha.h n1 n2]
end
def uh{J:It}{N n:Nat}{g:TG}{tc:TT}{te:TE}{Q:VK}(keep:Nat->Bool)(f:Nat->V)(hz:N<=1000)(hgo:∀ i H,i<N->Same H0 H->J.go i H)(hst:∀ H,Same H0 H->J.stop N H)(ht:∀ i H x H',i<N->Same H0 H->J.yld i H x H'->∀ (A:VK) (B:Hp->Prop),(keep i=true->∀ H4,Same H H4->A (f i) H4)->(keep i=false->∀ H4,Same H H4->B H4) ->
   g x (bw n cap σ) H' λσ2 H2=>tc σ2 H2 λb H3=>if b=true then te σ2 H3 A else B H3)(hq:∀ p H,Same H0 H->H p=none->Q (.ref p) (upd H p (.lst (((List.range N).filter keep).map f)))):cP n cap g tc te σ J H0 Q:=by
 refine#[λi m ys H=>m=N-i/\i<=N/\Same H0 H/\ys=((List.range i).filter keep).map f,#[N,by simp,Zy _,Same.refl _,rfl],?_];rintro i m ys H ⟨rfl,hi,sm,rfl⟩;by_cases hlt:i<N
 ·refine .inr #[hgo i H hlt sm,?_,λx H' y=>?_]
  ·rw[Zd];have:=y8 keep (List.range i);rw[List.length_range]at this;exact cD ∅
  ·refine ht i H x H' hlt sm y _ _ (λk H4 s4=>#[N-(i+1),∅,rfl,hlt,sm.trans s4,?_]) (λk H4 s4=>#[N-(i+1),∅,rfl,hlt,sm.trans s4,?_])
   ·rw[List.range_succ,List.filter_append,ZU];simp[k]
   ·rw[List.range_succ,List.filter_append,ZU];simp[k]
 ·have e:i=N:=∅
  subst e;exact .inl #[hst H sm,λp hp=>hq p H sm hp]
inductive rCatS  (x:V)(y:V)(H:Hp)(Q:VK):Prop
 |mk (a b xs ys:_) (h0:x=.ref a) (h1:y=.ref b) (h2:H a=some (.tup xs)) (h3:H b=some (.tup ys)) (h4:xs.length+ys.length<=sizeLine) (h5:∀p H',Same H H'->H' p=some (.tup (xs++ys))->Q (.ref p) H'):rCatS  x y H Q
section
variable{X:Cx}
def Fd:OpR X (binaryOp .Add) rCatS:=by
 intro L4 s σ H x y v u Q I rx ry h;exists[a,b,xs,ys,rfl,rfl,ha,hb,hz,q],h;by_cases hx:xs=[]
 ·cases rx;cases ry;exists[its,r1,p1,_],I.tuple (L6 (K:=X.K) ha);exists[its2,r2,p2,_],I.tuple (L6 (K:=X.K) hb);obtain⟨⟨cls,dd,data,sl⟩,ho,hc,n,hd⟩:=id p1;obtain⟨⟨cls2,dd2,data2,sl2⟩,ho2,hc2,n2,hd2⟩:=id p2;simp only at hc hd hc2 hd2;subst hc hd hc2 hd2;have e:its=[]:=r1.nil_iff.mpr hx;subst e;refine PySem.concat_meets #[_,ho,rfl] #[_,ho2,rfl] noFill_tuple_add seq_tuple_add PySem.F.slot_tuple_add PySem.F.entry_tuple_add (PySem.F.args_tuple_add_2 _ _)
   (tuple_addW0 a b _ its2.toArray n n2 dd dd2 sl sl2 (by simp)) #[ho,ho2,#[.ref b,H,I,rfl,q b H (Same.refl H) ?_]]
  rw[hx];exact hb
 ·exact Fe L4 s σ H _ _ v u Q I rx ry #[a,b,xs,ys,rfl,rfl,L6 ha,L6 hb,hx,hz,λe=>q a H (Same.refl H) (by rw[e,YL];exact ha),λ_ p hp=>q p _ (ad hp _) ac]
def uY:QOp X (binaryOp .Add) rCatS:=#[Fd]
def Cb{ns:LX}{i:Nat}(h:(ns.map V.int)[i]?=some x):x=.int (dI ns i)/\i<ns.length:=by
 rw[Zq]at h;unfold dI;cases e:ns[i]? with
 |none=>rw[e]at h;cases h
 |some z =>rw[e]at h;cases h;exact#[rfl,(Zm.mp e).1]
def Bp{n d:Nat}{h:Int}(h0:0<=h):HT.sIx n d (some h)=min h.toNat n:=by have e:=HT.sIx_nat n d h.toNat;rw[show((h.toNat:Nat):Int)=h by omega]at e;exact e
variable{K:W.Frag}(hK:X.K=K)
include hK
theorem Ge:QIx X (rIxL K):=by subst hK;exact aY
theorem dQ:QIx X (rIxT K):=by subst hK;exact au
theorem zO(hc:X.calm=true):QCall X (.builtin "all") (λxs H Q=>∃(p:LN) (bs:List Bool),xs=[.ref p]/\SqL K H p (bs.map V.bl)/\Q (.bl (bs.all id)) H):=by subst hK;exact xY hc
theorem uB{k n:Nat}{gs:TGs}(hc:X.calm=true)(h:QGs X es gs)(hn:(assignEach es X.env).length=n:=by rfl)(hst:(assignEach es X.env).findIdx? (·.1)=none:=by rfl):QG X (.Tuple es k pos) (kK K n gs):=by subst hK;exact iu hc h hn hst
theorem EO(hl:QE X l te):QI X tg l (yn K te):=by subst hK;exact bz hl
omit hK
end
open PySem PySem.Spec PyProof.Rows PySem.W
section
def dY{st:Stmt}:QS X st (λ_ _ _=>False):=#[λ_ _ _ _ _ _ h=>h.elim]
def ko{w:LU}{s:LO}{t sl:LN}{vl vu:LP}{lo hi:Option Int}{Q:LK}(ht:IsTup s.heap t items)(hs:s.heap.IsSliceOf sl vl vu .none)(pl:IsPart vl lo)(pu:IsPart vu hi)(hw:HT.sIx items.size 0 lo=0/\HT.sIx items.size items.size hi=items.size)(h:Q (.ref t) s):wpAny (model prog w) A (getItem (.ref t) (.ref sl)) Q E s:=by
 exists[os,hos,hcs,hds],id hs;have hTs:s.TypeIs (.ref sl) "slice":=#[os,hos,hcs]
 unfold getItem
 try with_reducible refine Z2 ?_
 first|refine z6 (Zb ?_)|skip
 refine z6 (wpAny_sequenceKey ht.typeIs ⋯ ?_);refine z6 (Z0 (name:=Str.ofString "__getitem__") ht.typeIs y9
  (ZT y9 ht.typeIs entry_tuple_getitem ?_ (args_tuple_getitem _ _)))
 show wpAny _ _ (Builtin.Tuple.tupleItemsOf (.ref t) >>= _) _ _ s;refine z6 (tupleItemsOf_ ht ?_);refine z6 (wpAny_typeOf hTs ?_);rw[LI ⋯];refine z6 (HT.sliceApplied_gen hs pl pu ?_);show wpAny _ _ (if(((HT.sIx items.size 0 lo:Nat):Int)==0&&(1:Int)==1&&(HT.sIx items.size items.size hi-HT.sIx items.size 0 lo)==items.size)=true then _ else _) _ _ s;rw[LI (by rw[hw.1,hw.2];simp)];refine z6 (m:=Builtin.Tuple.tupleIsExact _) ?_;unfold Builtin.Tuple.tupleIsExact;refine z6 (wpAny_typeOf ht.typeIs (Zb ?_));rw[LI ⋯];exact z6 (Yv (Zb #[_,rfl,Zb h]))
def J5:V->Option Int->Option Int->Hp->VK->Prop:=λx lo hi H Q=>∃a xs,x=.ref a/\H a=some (.tup xs)/\∀p H',Same H H'->H' p=some (.tup (cu xs lo hi))->Q (.ref p) H'
def iY:QSl X J5:=by
 refine#[?_];intro L4 s σ H x v vl vu lo hi sl Q I rx hs pl pu h;exists[a,xs,rfl,hx,q],h;by_cases hw:HT.sIx xs.length 0 lo=0/\HT.sIx xs.length xs.length hi=xs.length
 ·cases rx;exists[its,r,ht,hz],I.tuple (L6 (K:=X.K) hx);have hlen:its.toArray.size=xs.length:=by rw[Zh];exact r.length.symm
  refine#["tuple",_,y9.lookup,ht.typeIs,ko ht hs pl pu (by rw[hlen];exact hw) #[.ref a,H,I,rfl,q a H (Same.refl H) ?_]];unfold cu;rw[hw.1,hw.2,List.drop_zero,Nat.sub_zero,List.take_length];exact hx
 ·exact Iz L4 s σ H _ v vl vu lo hi sl Q I rx hs pl pu #[a,xs,rfl,L6 hx,hw,λp hp=>q p _ (ad hp _) ac]
end
section
variable{Q:Bool->LO->Prop}
def mZ(ns:LX):∀(ms:LX) (vs ws:LM) (i:Nat),IntsAre vs ns->IntsAre ws ms->fin=decide (ns.length<ms.length)->Q (HT.lexLt ns ms) s->KatLex prog w A true fin Q (vs.zip ws) i s:=by
 induction ns with
 |nil =>
  intro ms vs ws i a b hf q;subst hf;cases a;cases b with
  |nil=>exact kat_nil q
  |cons _ _ _=>exact kat_nil (by rw[decide_eq_true (by simp)];exact q)
 |cons x ns ih =>
  intro ms vs ws i a b hf q;cases a with
  |cons _ t h1 =>
  cases b with
  |nil =>subst hf;exact kat_nil q
  |cons y u h2 =>
  exists[e,he,iff],HT.eqAt_int A s x t y u;rw[HT.lexLt_cons]at q;refine kat_cons (he _ _ _ _ (kat_go (λet=>?_) (λef=>?_)))
  ·rw[LI (iff.mp et)]at q;exact kat_yes (ih _ _ _ (i+1) h1 h2 (by rw[hf];simp) q)
  ·have hne:x≠y:=λz=>by rw[iff.mpr z]at ef;cases ef
   rw[LH hne]at q;refine kat_no ?_;cases i with
   |zero=>exact oneLt_int q
   |succ i=>exact kat_one _ _ (PyProof.Rows.lt_int q)
end
section
variable{H:Hp}{s:LO}{h':Heap}
def Cz{w:LU}{H:Hp}(x:ObjOk P w H h a o):∃ob,h.get? a=some ob:=by
 cases o with
 |lst xs =>exists[_,_,_,_,e],x;exact#[_,e]
 |tup xs =>exists[_,_,_,ob,e,_],x;exact#[ob,e]
 |dK kvs =>exists[_,_,_,_,ob,_,_,e,_],x;exact#[ob,e]
 |dT kvs =>exists[_,_,_,_,ob,_,_,e,_],x;exact#[ob,e]
 |set S n =>exists[ob,_,_,_,e,_],x;exact#[ob,e]
 |ins C dx fs =>exists[_,_,_,e,_],x;exact#[_,e]
 |own y=>exact x
 |xd fs =>obtain⟨_,⟨ob,_,_,e,_⟩,_⟩:=x;exact#[ob,e]
 |rng lo hi =>exists[_,_,_,e],x;exact#[_,e]
 |frz ob u=>exact#[ob,x.1]
 |tbl ps=>exact#[_,x]
 |met f y=>exact#[_,x]
 |ext φ=>exact x.2.1
def none_of(I:Inv X L4 σ H s)(hg:s.heap.get? a=none):H a=none:=by
 cases q:H a with
 |none=>rfl
 |some u =>exists[ob,e],Cz (I.hok a u q);rw[hg]at e;cases e
def Inv.laidF{t':Nat}(I:Inv X L4 σ H s)(k:∀b u,b≠X.env.locals->s.heap.get? b=some u->h'.get? b=some u)(hn:∃m,s.heap.Ns X.env.locals m/\h'.Ns X.env.locals m)(hg:s.heap.get? a=none)(new:ObjOk X.prog X.w (upd H a o) h' a o):Inv X L4 σ (upd H a o) { s with heap:=h',toks:=t' }:=by
 have fr:=none_of I hg;have ne:∀{b:LN} {u:HO},H b=some u->b≠a:=fun{b u} e=>ar e fr;have lt:∀{b:LN} {u:Obj},s.heap.get? b=some u->b≠a:=fun{b u} e z=>by rw[z,hg]at e;cases e
 have neL:∀{b:LN} {u:HO},H b=some u->b≠X.env.locals:=fun{b u} e=>ar e I.free;refine I.step (g':=s.gens) (d':=s.drawn) (ch:=[]) (λb hb=>by simp at hb) (λb o hL _ _ e _=>k b o hL e) (λb o hL _ _ e _=>#[o.slots,k b o hL e]) (λb o _ e n=>by rw[ag (lt e)];exact n) (λb o _ e=>?_)
  (λb xs e=>by rw[ag (ne e)];exact e) (λb o u e=>by rw[ag (ne e)];exact e) (λb ps e=>#[#[],by rw[ag (ne e),e];simp]) (λm' hm'=>?_) (λb u e=>?_) I.bare
 ·by_cases hL:b=X.env.locals
  ·exists[m,_,o',_,_,e',_],hn;exact#[o',by rw[hL];exact e']
  ·exact#[o,k b o hL e]
 ·exists[m,h1,h2],hn;rw[hm'.eq_nsMap,<-h1.eq_nsMap];exact h2
 ·by_cases hb:b=a
  ·subst hb;rw[ac]at e;cases e;exact new
  ·rw[ag hb]at e;refine(I.hok b u e).stay (λc v hc q=>k c v ?_ q) (λc q=>by rw[ag (ne q)];exact q) λc ys q=>by rw[ag (ne q)];exact q
   rcases hc with z|z
   ·rw[z];exact neL e
   ·exact neL z
def pM(base h:Heap)(L:LN):LJ:=(List.range h.objs.size).filterMap λb=>if b=L\/(base.get? b).isSome=true then none else(h.get? b).map λo=>(b,o)
def eE(base h:Heap)(L:LN):News base L h (pM base h L):=λp hp=>by
 exists[b,_,e],List.mem_filterMap.mp hp;by_cases c:b=L\/(base.get? b).isSome=true
 ·rw[LI c]at e;cases e
 ·rw[LH c]at e;cases q:h.get? b with
  |none=>rw[q]at e;cases e
  |some o =>
   rw[q]at e;cases e;refine#[q,λz=>c (.inl z),?_];cases z:base.get? b with
   |none=>rfl
   |some u=>exact absurd (.inr (by rw[z];rfl)) c
def bQ{base h:Heap}(e:h.get? b=some o)(hL:b≠L)(hb:base.get? b=none):(b,o)∈pM base h L:=by refine List.mem_filterMap.mpr #[b,ZM.mpr (Zr e),?_];rw[LH (by rintro(z|z);exact hL z;rw[hb]at z;cases z),e];rfl
end
def fV(ns:LX):SeqAt.shaped (.tuple (ns.map .int))=true:=by
 unfold SeqAt.shaped;rw[ZK];refine#[?_,?_]
 ·simp only[PyData.canLay0];exact PyProof.Rows.canLayAll_ints ns
 ·refine decide_eq_true ?_;simp only[PyData.depth];rw[PyProof.Rows.depthAll_ints ns];decide
theorem mY:∀(ns ms:LX),PyData.eqvAll (ns.map .int) (ms.map .int)=decide (ns=ms)
 | [],[]=>by simp[PyData.eqvAll]
 | [],_::_=>by simp[PyData.eqvAll]
 |_::_,[]=>by simp[PyData.eqvAll]
 |x::ns,y::ms=>by simp only[Zs,PyData.eqvAll,PyData.eqv];rw[mY ns ms,Z3];simp
def nL(ns ms:LX):PyData.eqv (.tuple (ns.map .int)) (.tuple (ms.map .int))=decide (ns=ms):=by simp only[PyData.eqv];exact mY ns ms
def oQ{H:Hp}{ns:LX}(h:H a=some (.tup (ns.map V.int))):Dt H (.tuple (ns.map .int)) (.ref a):=by simp only[Dt];exact#[a,_,rfl,Rd.of h,wV ns]
section
variable{X:Cx}
def AU(hu:X.A.units+64<cLine):QOp X (compareOp .Eq) (λx y H Q=>∃(a b:LN) (ns ms:LX),x=.ref a/\y=.ref b/\H a=some (.tup (ns.map V.int))/\H b=some (.tup (ms.map V.int))/\Q (.bl (decide (ns=ms))) H):=by refine#[?_];intro L4 s σ H x y v u Q I rx ry h;exists[a,b,ns,ms,rfl,rfl,ha,hb,q],h;exact AY hu L4 s σ H _ _ v u Q I rx ry #[_,_,oQ ha,oQ hb,fV ns,fV ms,by rw[nL];exact q]
end
def DX{x:V}{A B:Prop}(h:x≠.non)(hA:A):if(!decide (x=.non))=true then A else B:=by rw[decide_eq_false h];exact aP hA
def bc[Decidable c](h:c)(hA:A):if decide c=true then A else B:=by rw[decide_eq_true h];exact aP hA
def bp[Decidable c](h1:c->A)(h2:¬c->B):if decide c=true then A else B:=by
 by_cases h:c
 ·exact bc h (h1 h)
 ·rw[decide_eq_false h];exact aJ (h2 h)
structure CompOk1(X:Cx)(scope:Scope)(cx:Str)(cap:List Nat)(capN:List Str):Prop where
 kind:scope.kind=.function
 names:∀x∈scope.names,x.2=.local->scope.names.lookup x.1=some .local
 onecell:∀y∈scope.names,y.2=.cell->y.1=cx
 own:scope.names.lookup cx=some .cell
 cf:∀(n:Nat) (acc:List (Str×LN)),cellsFrom n scope.names acc=(cx,n)::acc
 pc:∀h:Heap,pushCells h scope.names=h.push { cls:=.type "cell",data:=.cell none }
 frees:(scope.names.all λy=>!(y.2==NameKind.free) ||(X.env.kindOf y.1==some .cell ||X.env.kindOf y.1==some .free))=true
 cap:CapOk X scope cap capN
theorem oW:∀{vs:LM} {ns:LX},IntsAre vs ns->∃xs:List (Int×Tok),vs=xs.map (λp=>.int p.1 p.2)/\ns=xs.map (·.1)
 |_,_,.nil=>#[[],rfl,rfl]
 |_,_,.cons n t h=>by exists[xs,e1,e2],oW h;exact#[(n,t)::xs,by rw[e1];rfl,by rw[e2];rfl]
section
variable{X:Cx}
def Gx{K:W.Frag}(hK:X.K=K)(hc:X.calm=true):QCall X (.builtin "max") (λxs H Q=>∃(p:LN) (ns:LX),xs=[.ref p]/\SqL K H p (ns.map V.int)/\ns≠[]/\∀M,M∈ns->(∀x∈ns,x<=M)->Q (.int M) H):=by
 subst hK;refine#[?_];intro L4 s σ H xs us Q I r h;exists[p,ns,rfl,hS,hne,q],h;exists[u,rfl,ru],bG r;cases ru;exists[its,rv,pl,hz],I.list hS;exists[ys,e1,e2],oW (bo rv);have hl:s.heap.IsList p (intItems ys.toArray):=by have:=pl.isList;rw[e1]at this;simpa[intItems]using this
 have hpos:0<ys.toArray.size:=by rw[Zh];refine YZ.mpr λz=>hne ?_;rw[e2,z];rfl
 refine max_intList (I.ok.hd hc) hl hpos λv h' tk hv hk=>?_;exists[b1,b2],argBest_gt (numAt ys.toArray) (ys.toArray.size-1);exists[t,rfl],intItems_at hv;generalize argBest (λi j=>decide (numAt ys.toArray i>numAt ys.toArray j)) (ys.toArray.size-1)=k at b1 b2 ⊢;have num:∀j (hj:j<ys.length),numAt ys.toArray j=(ys[j]).1:=λj hj=>by simp[numAt,hj]
 rw[Zh]at b1 b2 hpos;have hk':k<ys.length:=∅
 refine#[.int (numAt ys.toArray k),H,I.kept (t':=tk) hk,#[t,rfl],q _ ?_ λx hx=>?_]
 ·rw[e2,num k hk'];exact Zw.mpr #[ys[k],ZG hk',rfl]
 ·rw[e2]at hx;exists[y,hy,rfl],Zw.mp hx;exists[j,hj,rfl],Y0 hy;have:=b2 j ∅;rw[num j hj]at this;exact this
end
def zt(h:Heap)(e:LN)(dc:Option LN):Prop:=∃o,h.get? e=some o/\o.dict=dc
def Gw:Stmt->List Stmt
 |.For _ _ body _ _=>body
 |.While _ body _ _=>body
 |_=>[]
def Its(x:Str):It:=#[λi _=>i<x.cps.size,λi H v H'=>H'=H/\∃c,x.cps[i]?=some c/\v=.str #[(List.toArray [c])],λi _=>x.cps.size<=i]
def DD{w:LU}{K:W.Frag}(it:LN)(x:Str)(t:Tok):Turn P w K tg (Its x) [it] it (λi h=>h.IsStrIter it "str_ascii_iterator" x t i) where
 mem:=Zj.mpr rfl
 obj:=λi h st b hb=>by cases Zj.mp hb;exists[o,e,c,d],st;exact#[o,e,λv z=>nomatch d.symm.trans z]
 keep:=λi h h' st k=>by exists[o,ho,r],st;exact#[o,k it (Zj.mpr rfl) o ho,r]
 item:=by intro X eP ew eK hc i L4 s σ H E I hf st hg;cases eP;cases ew;cases eK;have hi:i<x.cps.size:=hg;have fo:=hf it (Zj.mpr rfl);refine(Walks.strAscii (prog:=X.prog) (w:=X.w) (I.ok.hd hc) it x t).item i s _ _ hi st λv h' tk hv st' kk=>?_;exists[c,u,hc',rfl],hv;have I1:Inv X L4 σ H { s with heap:=h',toks:=tk }:=I.turned (λb o hb e=>kk b o (λz=>hb (Zj.mp z)) e) fo.1 fo.2.1 fo.2.2.2.1 fo.2.2.2.2.1 fo.2.2.2.2.2;exists[o,e,c1,d1],id st';exact#[_,rfl,mh (s:={ s with heap:=h',toks:=tk }) e c1 d1 ⋯ #[.str #[(List.toArray [c])],H,I1,#[u,rfl],#[rfl,c,hc',rfl],st',λb hb=>(hf b hb).1]]
 done:=by intro X eP ew eK hc i L4 s σ H E I hf st hg;cases eP;cases ew;cases eK;have hi:x.cps.size<=i:=hg;have fo:=hf it (Zj.mpr rfl);exact wpAny_pyNext_ascii_end (I.ok.hd hc) st (by simp;omega) λh' eb=>#[rfl,I.turned (t':=s.toks) (λb o hb e=>eb b o hb e) fo.1 fo.2.1 fo.2.2.2.1 fo.2.2.2.2.1 fo.2.2.2.2.2]
 self:=λ_ _ _ _ _ st h=>wpAny_pyIter_striter_ascii st h
def JW(tl:TE):TI:=λσ H R=>tl σ H λv H1=>∃x,v=.str x/\x.cps.all (·<128)=true/\R (Its x) H1
section
def Jh(hl:QE X l tl):QI X tg l (JW tl):=by refine#[?_];intro L4 s σ H R I h;refine thn (hl.h L4 s σ H _ I h) λv s1 hz9=>?_;exists[y,H1,I1,r1,q1],hz9;exists[x,rfl,ha,q],q1;exists[t,rfl],r1;refine wpAny_pyIter_ascii ha #[s1.heap.objs.size,[s1.heap.objs.size],_,_,H1,rfl,I1.kept (t':=s1.toks) (λb o e=>Za _ e),DD _ x t,#[_,Zk _ rfl,rfl,rfl],λb hb=>?_,q];cases Zj.mp hb;exact I1.fpOk (Ze _) (I1.hok.fresh (Ze _))
end
def BZ{x:Str}{n:Nat}{te:TE}{Q:VK}(f:Nat->V)(hz:x.cps.size<=1000)(he:∀i c H,x.cps[i]?=some c->Same H0 H->∀R:VK,(∀H',Same H H'->R (f i) H')->te ((bw n cap σ).set 0 (some (.str #[(List.toArray [c])]))) H R)(hq:∀p H,Same H0 H->H p=none->Q (.ref p) (upd H p (.lst ((List.range x.cps.size).map f)))):cP n cap (bD 0) dZ te σ (Its x) H0 Q:=by
 refine iq (N:=x.cps.size) (λi=>.str #[(List.toArray [x.cps.getD i 0])]) f hz (λi H hi sm=>hi) (λH sm=>Ze _) (λi H v H' hi sm y=>?_) (λi H hi sm R k=>?_) hq
 ·exists[y1,c,hc,rfl],y;refine#[y1,?_];simp[ZQ,hc]
 ·have e:x.cps[i]?=some x.cps[i]:=by simp[hi]
  have:=he i _ H e sm R k;simpa[ZQ,e]using this
section
def oK:QCall X (.builtin "len") (λxs H Q=>∃x:Str,xs=[.str x]/\x.length<=1000/\Q (.int (x.length:Int)) H):=by refine#[?_];intro L4 s σ H xs us Q I r h;exists[x,rfl,hz,q],h;exists[u,rfl,rx],bG r;exists[t,rfl],rx;exact PyProof.Rows.len_str ∅ #[.int x.length,H,I.tok _,#[_,rfl],q]
end
def uK{v:V}{A B:Prop}(hA:A):if decide (v=v)=true then A else B:=by rw[decide_eq_true rfl];exact aP hA
def jE{v u:V}{A B:Prop}(h:v≠u)(hB:B):if decide (v=u)=true then A else B:=by rw[decide_eq_false h];exact aJ hB
def nC:bootBuiltins "str" = some (.type "str"):=⋯
def ux{w:LU}{K:W.Frag}{k:Nat}:↑FnOk CX0 k f fd ps (λ_ _ _ _=>False):=#[λ_ _ _ _ h=>h.elim,λ_ _ _ _ _ _ _ _ _ _ _ _ _ h=>h.elim]
inductive TV where
 |flat (v:V)
 |tup (xs:List V)
def tE:V->LP->Bool
 |.non,.none=>true
 |.bl b,.bool c=>b==c
 |.int i,.int j _=>i==j
 |.str x,.str y _=>x==y
 |_,_=>false
def rV:∀{v:V} {u:LP},tE v u=true->RelV v u:=by
 intro v u h;unfold tE at h;split at h
 ·exact rfl
 ·obtain rfl:=YK.mp h;exact rfl
 ·obtain rfl:=YK.mp h;exact#[_,rfl]
 ·obtain rfl:=YK.mp h;exact#[_,rfl]
 ·cases h
def vS:List V->LM->Bool
 | [],[]=>true
 |v::vs,u::us=>tE v u&&vS vs us
 |_,_=>false
theorem nr:∀{vs:List V} {us:LM},vS vs us=true->Vals vs us
 | [],[],_=>.nil
 |_::_,_::_,h=>by have h:=(ZK _ _).mp h;exact .cons (rV h.1) (nr h.2)
 | [],_::_,h=>nomatch h
 |_::_,[],h=>nomatch h
def jn(K:W.Frag):TV->LP->Bool
 |.flat v,u=>tE v u
 | .tup xs,.ref a=>(match K.lookup a with
  |some o=>o.cls == .type "tuple"&&(match o.data with|.seq its _=>decide (its.size<=1000)&&vS xs its.toList|_=>false)
  | none=>false)
 |_,_=>false
def Gr(K:W.Frag):TV->LP->Prop
 |.flat v,u=>RelV v u
 |.tup xs,u=>∃a,u=.ref a/\∀H,SqT K H a xs
def JN{K:W.Frag}(d:TV)(u:LP)(h:jn K d u=true):Gr K d u:=by
 unfold jn at h;split at h
 ·exact rV h
 ·rename_i xs a;split at h
  ·rename_i o ho;exists[e1,e2],(ZK _ _).mp h;split at e2
   ·rename_i its n hd;exists[e3,e4],(ZK _ _).mp e2;exact#[a,rfl,λH=>.inr #[o,its,n,ho,YK.mp e1,hd,dh (ZZ e3),nr e4]]
   ·cases e2
  ·cases h
 ·cases h
structure Tab(K:W.Frag)(a:LN)(D:List (Str×TV)):Prop where
 look:KTD.tabLook (jn K) (λb=>K.lookup b) a D=true
def Tab.at{K:W.Frag}(T:Tab K a D)(X:K.In h):KTD.TabOf (Gr K) h a D:=KTD.tab_of_look JN (λb o e=>X b o e) T.look
section
variable{s:LO}{o:Obj}{ep:Nat}
def xH{Q:Option LP->LO->Prop}(ho:s.heap.get? d=some o)(hd:o.data=.dict es ep)(hall:(es.all λe=>isExactStrKey e.key)=true)(h:Q ((es.toList.find? λe=>e.key.isStr x).map (·.val)) { s with toks:=s.toks+1 }) :
  wpAny (model prog w) A (dictGet d (.str x tx)) Q E s:=by
 unfold dictGet;(try with_reducible (refine Z2 ?_))
 refine z6 (wpAny_pyHash_str (z6 (KTD.kt_dictFind_strs (s:={ s with toks:=s.toks+1 }) ho hd hall ?_)));have hq:Q (findBy (λy v=>v.isStr y) es x) { s with toks:=s.toks+1 }:=by
  have hf:findBy (λy v=>v.isStr y) es x=(es.toList.find? λe=>e.key.isStr x).map (·.val):=by exists[l],es;simp[findBy]
  rw[hf];exact h
 rw[findBy_of_findIdx?]at hq;cases hi:es.findIdx? λe=>e.key.isStr x<;>rw[hi]at hq
 ·exact Zb hq
 ·exact z6 (YX (s:={ s with toks:=s.toks+1 }) ho hd (Zb hq))
def IK{Q:LK}(sy:(d==sysModules)=false)(ex:o.ExactDict)(ho:s.heap.get? d=some o)(hd:o.data=.dict es ep)(hall:(es.all λe=>isExactStrKey e.key)=true)(h:Q (.bool ((es.toList.find? λe=>e.key.isStr x).map (·.val)).isSome) { s with toks:=s.toks+1 }):wpAny (model prog w) A (compareOp .In (.str x tx) (.ref d)) Q E s:=by
 have T:s.TypeIs (.ref d) "dict":=#[o,ho,ex.1]
 show wpAny _ _ (do return .bool (←contains (.ref d) (.str x tx))) Q E s;refine z6 ?_;unfold contains;(try with_reducible (refine Z2 ?_))
 refine z6 (wpAny_specialOf T slot_dict_contains.lookup ?_);show wpAny _ _ (if(some (Value.builtin "dict.__contains__")==some Value.none)=true then _ else _) _ _ _;rw[LH (by rw[beq_builtin_none];decide)];refine z6 (wpAny_callSpecialUnlessNone?_slot (name:=Str.ofString "__contains__") T slot_dict_contains (ZT slot_dict_contains T entry_dict_contains ?_ (args_dict_contains _ _)));show wpAny _ _ (dictGet d (.str x tx) >>= _) _ _ _;refine z6 (xH ho hd hall ?_);cases hv:(es.toList.find? λe=>e.key.isStr x).map (·.val)with
 |some v =>rw[hv]at h;show wpAny _ _ (ret (.bool true)) _ _ _;exact Zb #[_,rfl,Z4 (Zb h)]
 |none =>rw[hv]at h;show wpAny _ _ (Builtin.Dict.pendingKey? d (.str x tx) >>= _) _ _ _;exact z6 (wpAny_pendingKey_other sy (Zb #[_,rfl,Z4 (Zb h)]))
def DA{Q:LK}(ex:o.ExactDict)(ho:s.heap.get? d=some o)(hd:o.data=.dict es ep)(hall:(es.all λe=>isExactStrKey e.key)=true)(hv:(es.toList.find? λe=>e.key.isStr x).map (·.val)=some v)(h:Q v { s with toks:=s.toks+1 }):wpAny (model prog w) A (getItem (.ref d) (.str x tx)) Q E s:=by
 have T:s.TypeIs (.ref d) "dict":=#[o,ho,ex.1]
 unfold getItem;(try with_reducible (refine Z2 ?_))
 refine z6 (wpAny_sequenceKey T ⋯ (z6 (Z0 (name:=Str.ofString "__getitem__") T slot_dict_getitem (ZT slot_dict_getitem T entry_dict_getitem ?_ (args_dict_getitem _ _)))));show wpAny _ _ (dictGet d (.str x tx) >>= _) _ _ _;refine z6 (xH ho hd hall ?_);rw[hv];exact Zb #[v,rfl,Zb h]
end
section
variable{X:Cx}
def Iq(K:W.Frag):R2:=λx y H Q=>∃a k D,x=.str k/\y=.ref a/\Tab K a D/\Q (.bl (KTD.datumAt k D).isSome) H
def E5:QOp X (compareOp .In) (Iq X.K):=by
 refine#[?_];intro L4 s σ H x y v u Q I rx ry h;exists[a,k,D,rfl,rfl,T,q],h;exists[t,rfl],rx;cases ry;exists[sy,o,es,ep,ho,ex,hd,hr],T.at I.kIn;refine IK sy ex ho hd (by exists[l],es;simpa using hr.exact) #[.bl (KTD.datumAt k D).isSome,H,I.tok _,?_,q];cases e:KTD.datumAt k D with
 |none=>rw[hr.find_none e];rfl
 |some d=>exists[v,hv,_],hr.find_some e;rw[hv];rfl
def Ir(K:W.Frag):R2:=λx y H Q=>∃a k D d,x=.ref a/\y=.str k/\Tab K a D/\KTD.datumAt k D=some d/\(match d with|.flat v=>Q v H|.tup xs=>∀t,(∀H',SqT K H' t xs)->Q (.ref t) H)
def zq:QIx X (Ir X.K):=by
 refine#[?_];intro value slice L4 s σ H x y v u Q I rx ry h hs;exists[a,k,D,d,rfl,rfl,T,hk,q],h;exists[t,rfl],ry;cases rx;exists[sy,o,es,ep,ho,ex,hd,hr],T.at I.kIn;exists[v,hv,ok],hr.find_some hk;have fin:EP X L4 σ Q v { s with toks:=s.toks+1 }:=by
  cases d with
  |flat z=>exact#[z,H,I.tok _,ok,q]
  |tup xs =>exists[t,rfl,e],ok;exact#[.ref t,H,I.tok _,rfl,q t e]
 exact subscriptTail_builtinR (x:=v) (#[o,ho,ex.1]:s.TypeIs (.ref a) "dict") slot_dict_getitem.lookup (DA (Q:=λr s'=>r=v/\EP X L4 σ Q r s') ex ho hd (by exists[l],es;simpa using hr.exact) hv #[rfl,fin]) hs
def vp(hm:X.mg x=some (.ref a))(hg:Gl X x:=by rfl)(hd:(x==("__debug__":Str))=false:=by decide):QE X (.Name x pos) (tC (.ref a)):=#[qI hg hm rfl hd]
end
def CXr(P:LQ)(w:LU):CXT:=λouter H s E e s' =>
 ∃(ea t:LN) (C:LP) (vs:LM) (B:Heap) (H':Hp) (dc:Option LN),e=.ref ea/\s'.os=s.os/\AllBare s'.gens/\Un (frs outer) [] H H' s.heap s'.heap/\HOk P w H' s'.heap /\
  Heap.FlyingW B outer ea C (.ref t) s'.heap/\s'.heap.TupAt t vs/\B.get? t=none/\(∀b o,b∉frs outer->((∃u,H' b=some u)\/∃o0,s.heap.get? b=some o0)->s'.heap.get? b=some o->B.get? b=some o)/\zt s'.heap ea dc/\E C dc H'
structure ExCls(K:W.Frag)(C:LN):Prop where
 cls:∀h,K.In h->∃nm q N bs bm hdct sn sub ab col dd k0 k1 k2 k3 k5 mN,h.get? C=some (excClassObj nm q C N bs bm hdct sn sub ab col dd k0 k1 k2 k3 k5 "ValueError.__new__")/\h.Ns N mN/\mN "__init__" = none/\bm.contains (.type "BaseException")=true /\
  OwnTail h [.type "ValueError",.type "Exception",.type "BaseException",.type "object"] bm
structure FnX(P:LQ)(w:LU)(K:W.Frag)(mg:LL)(base:Heap)(k:Nat)(x:Str)(ps:List Str)(sp:Sp):Prop where
 ex:∃f fd,FnOk P w K mg base (CXr P w) k f fd ps sp/\mg x=some (.ref f)/\W.keepIn K (.ref f)=true/\Binds K fd ps []
def XP(X:Cx)(L4:LJ)(σ:St)(E:XK)(e:LP)(s':LO):Prop:=∃s0 H0,Inv X L4 σ H0 s0/\CXr X.prog X.w X.stack H0 s0 E e s'
abbrev TX:=St->Hp->VK->XK->Prop
structure QX(X:Cx)(e:L3)(t:TX):Prop where
 h:∀(L4:LJ) (s:LO) (σ:St) (H:Hp) (Q:VK) (E:XK),Inv X L4 σ H s->t σ H Q E->wpAny (model X.prog X.w) X.A (eval e X.env) (EP X L4 σ Q) (XP X L4 σ E) s
abbrev TSX:=Ends->St->Hp->XK->Prop
structure QSX(X:Cx)(st:Stmt)(t:TSX):Prop where
 h:∀(L4:LJ) (s:LO) (σ:St) (H:Hp) (D:Ends) (E:XK),Inv X L4 σ H s->t D σ H E->wpAny (model X.prog X.w) X.A (exec st X.env) (SP X L4 D) (XP X L4 σ E) s
structure Fl(X:Cx)(H0 H':Hp)(s0 s':LO)(B:Heap):Prop where
 os:s'.os=s0.os
 bare:AllBare s'.gens
 un:Un (frs X.stack) [] H0 H' s0.heap s'.heap
 hok:HOk X.prog X.w H' s'.heap
 kb:∀b o,b∉frs X.stack->((∃u,H' b=some u)\/∃o0,s0.heap.get? b=some o0)->s'.heap.get? b=some o->B.get? b=some o
structure ExC(K:W.Frag)(C:LN)(bm:LM):Prop where
 cls:∀h,K.In h->∃nm q N bs hdct sn sub ab col dd k0 k1 k2 k3 k5 ni,h.get? C=some (excClassObj nm q C N bs bm hdct sn sub ab col dd k0 k1 k2 k3 k5 ni)
 exc:bm.contains (.type "BaseException")=true
abbrev TH:=Ends->St->LP->Option LN->Hp->Prop
structure QH(X:Cx)(hs:List ExceptHandler)(th:TH):Prop where
 h:∀(L4:LJ) (s0:LO) (H0:Hp) (σ:St) (D:Ends) (ea t:LN) (C:LP) (B:Heap) (H':Hp) (dc:Option LN) (s':LO),Inv X L4 σ H0 s0->Fl X H0 H' s0 s' B->Heap.FlyingW B X.stack ea C (.ref t) s'.heap->zt s'.heap ea dc->th D σ C dc H' ->
  wpAny (model X.prog X.w) X.A (handleBy (.ref ea) X.env hs) (SP X L4 D) X.xe s'
abbrev VE:LM:=[.type "ValueError",.type "Exception",.type "BaseException",.type "object"]
def GE(K:W.Frag)(C:LN):Prop:=∃dd cd k0 k1 k2 k3 k5 bm,K.lookup C=some #[.type "type",dd,.cls cd,(List.toArray [k0,k1,k2,k3,some (.builtin "ValueError.__new__"),k5])]/\cd.mro=Value.ref C::bm/\cd.hasDel=false/\tailIn K VE bm=true/\nsOkIn K cd.ns=true/\nsIn K cd.ns "__init__" = some none
structure ExcAt(K:W.Frag)(C:LN)(bm:LM):Prop where
 isIn:GE K C
 mro:∃c d cd sl,K.lookup C=some #[c,d,.cls cd,sl]/\cd.mro=Value.ref C::bm
 exc:bm.contains (.type "BaseException")=true
structure ExK(K:W.Frag)(c:LN):Prop where
 hc:(clsIn K c).isSome=true
 hga:findIn K (.ref c) "__getattribute__" = some (some (.builtin "BaseException.__getattribute__"))
 hgh:findIn K (.ref c) "__getattr__" = some none
 ha:findIn K (.ref c) "__class__" = some (some (.builtin "object.__class__"))
 hb:mroIn K c (.type "BaseException")=some true
 hm:mroIn K c (.type "object")=some true
def aL(i:Int):Str:=Str.ofString (toString i)
theorem uk:∀(f k n:Nat) (ds:List Char),n<10^(k+1)->(Nat.toDigitsCore 10 f n ds).length<=k+1+ds.length
 |0,k,n,ds,_=>by unfold Nat.toDigitsCore;omega
 |f+1,k,n,ds,h=>by
  unfold Nat.toDigitsCore;dsimp only;split
  ·rw[Zl];omega
  ·rename_i hz;cases k with
   |zero =>have:n / 10=0:=Nat.div_eq_of_lt (by simpa using h);exact absurd this hz
   |succ k =>
    have h':n / 10<10^(k+1):=by rw[Nat.div_lt_iff_lt_mul ⋯];rw[Nat.pow_succ]at h;exact h
    have:=uk f k (n / 10) (Nat.digitChar (n%10)::ds) h';rw[Zl]at this;omega
def Ca{i:Int}{k:Nat}(h:i.natAbs<10^(k+1)):(aL i).length<=k+2:=by
 unfold aL;rw[ofString_len];have nat:∀n:Nat,n<10^(k+1)->(Nat.repr n).length<=k+1:=λn hn=>by unfold Nat.repr;rw[String.length_ofList];have:=uk (n+1) k n [] hn;exact this
 cases i with
 |ofNat n =>have:=nat n h;show(Nat.repr n).length<=_;omega
 |negSucc n =>have:=nat (n+1) h;show("-"++Nat.repr (n+1)).length<=_;rw[String.length_append];have:("-":String).length=1:=rfl;omega
section
variable{X:Cx}{K:W.Frag}
def EB(hK:X.K=K)(hc:X.calm=true)(dg:nsIn K cStatics "sys.int_max_str_digits" = some none):QCall X (.type "str") (λxs H Q=>∃i:Int,xs=[.int i]/\i.natAbs<10^4300/\Q (.str (aL i)) H):=by refine#[?_];subst hK;intro L4 s σ H xs us Q I r h;exists[i,rfl,hi,q],h;exists[u,rfl,rx],bG r;exists[t,rfl],rx;exists[mc,hn,_],I.nolimit;exact str_of_int_or (I.ok.hd hc) #[mc,hn,ns_none_of I.kIn hn dg] (λ_=>#[.str (aL i),H,I.tok _,#[_,rfl],q]) (λz=>absurd hi (Nat.not_lt.mpr z))
def Ed(K:W.Frag):V->List V->Hp->VK->Prop:=λx xs H Q=>∃(sep:Str) (p:LN) (ys:List Str),x=.str sep/\xs=[.ref p]/\SqL K H p (ys.map V.str)/\(ys.map (·.length)).sum+ys.length*sep.length<=16777216/\Q (.str (Txt.join sep ys)) H
theorem xE:∀{ys:List Str} {us:LM},Vals (ys.map V.str) us->StrsAre us ys
 | [],_,h=>by cases h;exact .nil
 |y::ys,_,h=>by
  cases h with
  |cons r1 r2 =>exists[t,rfl],r1;exact .cons _ _ (xE r2)
def EZ:MtR X "str.join" (Ed X.K):=by intro L4 s σ H x xs v us Q I rx r h;exists[sep,p,ys,rfl,rfl,hl,hz,q],h;exists[t,rfl],rx;exists[u,rfl,ru],bG r;cases ru;exists[its,rv,pl,_],I.list hl;exact join_list pl.isList (by simpa using xE rv) hz λt' k=>#[.str _,H,I.tok _,#[_,rfl],q]
def Ik{apos cpos:Pos}(ho:QE X o to)(he:QE X e te)(hs:aK e=true:=by rfl)(hbase:attributeBase o "join" X.env (eval o X.env)=eval o X.env:=by rfl)(hline:(apos.endLine==cpos.line)=true:=by rfl):
  QE X (.Call (.Attribute o "join" apos) [e] [] cpos) (tBM X.K "str" (Ed X.K) to (dA te dP)):=by
 have h1:=aI (es:=[]) (env:=X.env) hs;have h2:starEach ([]:List L3) X.env=[]:=rfl;refine#[mH PySem.F.plainAttrs_str PySem.F.slot_str_join PySem.F.type_str_join EZ ho.h (mG he.h gU (hs:=h1)) (hbase:=hbase) (hfew:=?_) (hline:=hline) (hs:=h1) (hplain:=by rw[h2];rfl)];rw[h1,h2];rfl
def cW:QOp X (binaryOp .Add) (λx y H Q=>∃i j,x=.str i/\y=.str j/\i.length+j.length<=sizeLine/\Q (.str (i++j)) H):=#[yK]
def yC:QOp X (compareOp .In) (λx y H Q=>∃i j,x=.str i/\y=.str j/\Q (.bl (!(Builtin.Str.occurrences j i 0 j.length 1).isEmpty)) H):=by refine#[?_];intro L4 s σ H x y v u Q I rx ry h;exists[i,j,rfl,rfl,q],h;exists[t,rfl],rx;exists[t',rfl],ry;exact in_str #[.bl _,H,I,rfl,q]
end
def xa{K:W.Frag}{a b:LN}{xs ys:List V}{i j:Nat}{tb:TS}{D:Ends}{σ:St}{H:Hp}(Pv:Nat->St->Hp->Prop)(h0:Pv 0 σ H)(ha:∀i σ H,i<=xs.length->Pv i σ H->SqT K H a xs)(hb:∀i σ H,i<=xs.length->Pv i σ H->SqT K H b ys)(hl:xs.length=ys.length)(hs:∀k x y σ H,xs[k]?=some x->ys[k]?=some y->Pv k σ H->∀T,H T=none->tb { D with nx:=Pv (k+1),ct:=Pv (k+1),bk:=D.nx } ((σ.set i (some x)).set j (some y)) (upd H T (.tup [x,y])))(hd:∀σ H,Pv xs.length σ H->D.nx σ H) :
  ∃W:Nat->Nat->St->Hp->Prop,(∃m,W 0 m σ H)/\∀k m σ H,W k m σ H ->
   ((Itz K a b xs ys).stop k H/\D.nx σ H)\/((Itz K a b xs ys).go k H/\∃N:St->Hp->Prop,(∀σ' H',N σ' H'->∃m',m'<m/\W (k+1) m' σ' H')/\∀x H',(Itz K a b xs ys).yld k H x H'->kK K 2 (eG (bD i) (eG (bD j) kJ)) x σ H' λσ2 H2=>tb { D with nx:=N,ct:=N,bk:=D.nx } σ2 H2):=by
 refine#[λk m σ H=>m=xs.length-k/\k<=xs.length/\Pv k σ H,#[xs.length,by simp,Zy _,h0],?_];rintro k m σ H ⟨rfl,hk,pv⟩;by_cases hlt:k<xs.length
 ·refine .inr #[#[hlt,ha k σ H hk pv,hb k σ H hk pv],Pv (k+1),λσ' H' z=>#[xs.length-(k+1),∅,rfl,hlt,z],λx H' y=>?_];exists[T,p,q,hT,hx,hy,rfl,rfl],y;exact#[T,[p,q],rfl,L6 ac,rfl,p,[q],rfl,q,[],rfl,rfl,hs k p q σ H hx hy pv T hT]
 ·have e:k=xs.length:=∅
  subst e;exact .inl #[#[rfl,ha _ σ H hk pv,hb _ σ H hk pv],hd σ H pv]
def nG{J:It}{N n:Nat}{g:TG}{te:TE}{Q:VK}(Pv:Nat->List V->Hp->Prop)(hz:N<=1000)(hn:∀i ys H,Pv i ys H->ys.length=i)(h0:Pv 0 [] H0)(hgo:∀i ys H,i<N->Pv i ys H->J.go i H)(hst:∀ys H,Pv N ys H->J.stop N H)(ht:∀i ys H x H',i<N->Pv i ys H->J.yld i H x H'->∀A:VK,(∀v H4,Pv (i+1) (ys++[v]) H4->A v H4)->g x (bw n cap σ) H' λσ2 H2=>te σ2 H2 A)(hq:∀ys p H,Pv N ys H->H p=none->Q (.ref p) (upd H p (.lst ys))):cP n cap g dZ te σ J H0 Q:=by
 refine#[λi m ys H=>m=N-i/\i<=N/\Pv i ys H,#[N,by simp,Zy _,h0],?_];rintro i m ys H ⟨rfl,hi,pv⟩;by_cases hlt:i<N
 ·refine .inr #[hgo i ys H hlt pv,by rw[hn i ys H pv];exact cD ∅,λx H' y=>?_];have k:=ht i ys H x H' hlt pv y (λv H4=>∃m',m'<N-i/\m'=N-(i+1)/\i+1<=N/\Pv (i+1) (ys++[v]) H4) (λv H4 z=>#[N-(i+1),∅,rfl,hlt,z]);unfold dZ;simpa using k
 ·have e:i=N:=∅
  subst e;exact .inl #[hst ys H pv,λp hp=>hq ys p H pv hp]
def KIn{α:Type}(n:Nat)(P:α->Prop):KasT α->Prop
 |.ret a=>P a
 |.ask i j k=>i<n/\j<n/\∀b,KIn n P (k b)
theorem KIn.bind{α β:Type}{n:Nat}{P:α->Prop}{R:β->Prop}{f:α->KasT β}:∀{t:KasT α},KIn n P t->(∀a,P a->KIn n R (f a))->KIn n R (t.bind f)
 |.ret _,h,k=>k _ h
 |.ask _ _ _,⟨h1,h2,h3⟩,k=>#[h1,h2,λb=>KIn.bind (h3 b) k]
def POk(n:Nat)(p:LY):Prop:=p.Perm (List.range n).toArray
def POk.lt{n:Nat}(h:POk n p)(hn:0<n)(k:Nat):p.getD k 0<n:=by
 rw[ZQ];cases e:p[k]? with
 |none=>exact hn
 |some x =>have hm:x∈p:=Array.mem_of_getElem? e;have:=(h.mem_iff).mp hm;simpa using this
def POk.rev{n:Nat}(h:POk n p)(i j:Nat):POk n (kas_rev p i j):=(mirror_perm p i j _).trans h
def POk.bub{n:Nat}(h:POk n p)(i j:Nat):POk n (bubble p i j):=(bubble_perm p i j).trans h
theorem qB{n:Nat}(hn:0<n)(h:POk n p):∀f k,KIn n (λ_=>True) (kas_asc p f k)
 |0,_=>trivial
 | f+1,k=>#[h.lt hn _,h.lt hn _,λc=>by
  cases c with
  |true=>exact trivial
  | false=>exact qB hn h f (k+1)]
theorem jF{n:Nat}(hn:0<n):∀(f:Nat) {p:LY},POk n p->∀k q,KIn n (λr=>POk n r.1) (kas_desc f p k q)
 |0,_,h,_,_=>h
 |f+1,p,h,k,q=>by
  refine#[h.lt hn _,h.lt hn _,λc=>?_];cases c with
  |true =>
   show KIn n _ (if q>0 then _ else _);split
   ·exact jF hn f (h.rev _ _) _ _
   ·exact jF hn f h _ _
  |false =>
   refine#[h.lt hn _,h.lt hn _,λd=>?_];cases d with
   |true=>exact h
   |false=>exact jF hn f h _ _
def uM{n:Nat}(hn:0<n)(h:POk n p)(k r:Nat):KIn n (λr=>POk n r.2) (kas_tail3 k r p):=KIn.bind (qB hn (h.rev 0 k) _ _) λ_ _=>h.rev 0 k
def kM{n:Nat}(hn:0<n)(h:POk n p)(k r:Nat):KIn n (λr=>POk n r.2) (kas_descPart k r p):=KIn.bind (jF hn _ h _ _) λx hx=>by
 show KIn n _ (if x.2.2>0 then _ else _);split
 ·exact uM hn (hx.rev _ _) _ _
 ·exact uM hn hx _ _
def AA{n:Nat}(hn:0<n)(h:POk n p)(r:Nat):KIn n (λr=>POk n r.2) (kas_count r p):=KIn.bind (qB hn h _ _) λk _=>by
 show KIn n _ (if(k==r)=true then _ else if k>1 then _ else _);split
 ·exact h
 ·split
  ·refine#[h.lt hn _,h.lt hn _,λc=>?_];cases c with
   |true=>exact h
   |false=>exact kM hn (h.rev _ _) _ _
  ·exact kM hn h _ _
theorem kN{n:Nat}(hn:0<n)(h:POk n p)(k:Nat):∀f l r,KIn n (λ_=>True) (kas_place p k f l r)
 |0,_,_=>trivial
 |f+1,l,r=>by
  show KIn n _ (if l>=r then _ else _);split
  ·exact trivial
  ·refine#[h.lt hn _,h.lt hn _,λc=>?_];cases c with
   |true=>exact kN hn h k f _ _
   |false=>exact kN hn h k f _ _
theorem xg{n:Nat}(hn:0<n):∀(f:Nat) {p:LY},POk n p->∀k,KIn n (POk n) (kas_bin f p k)
 |0,_,h,_=>h
 |f+1,_,h,k=>KIn.bind (kN hn h k _ _ _) λ_ _=>xg hn f (h.bub _ _) (k+1)
def nX{n:Nat}(hn:0<n):KIn n (POk n) (kas_sort n):=KIn.bind (AA hn (Array.Perm.refl _) _) λr hr=>by
 show KIn n _ (if r.1<n then _ else _);split
 ·exact xg hn _ hr _
 ·exact hr
section
variable{X:Cx}
def D7{K:W.Frag}(hK:X.K=K):QOp X (compareOp .In) (rIn K false):=by subst hK;exact#[AZ]
end
def KW{α:Type}(lt:LZ)(Q:α->Prop):KasT α->Prop
 |.ret a=>Q a
 |.ask i j k=>KW lt Q (k (lt i j))
theorem KW.bind{α β:Type}{lt:LZ}{Q:β->Prop}{f:α->KasT β}:∀{t:KasT α},KW lt (λa=>KW lt Q (f a)) t->KW lt Q (t.bind f)
 |.ret _,h=>h
 |.ask i j k,h=>KW.bind (t:=k (lt i j)) h
theorem KW.mono{α:Type}{lt:LZ}{Q R:α->Prop}(k:∀a,Q a->R a):∀{t:KasT α},KW lt Q t->KW lt R t
 |.ret _,h=>k _ h
 |.ask i j c,h=>KW.mono k (t:=c (lt i j)) h
structure LtOk(lt:LZ):Prop where
 as:∀{a b},lt a b=true->lt b a=false
 tr:∀{a b c},lt b a=false->lt c b=false->lt c a=false
def gA(p:LY)(k:Nat):Nat:=p.getD k 0
def Lx(lt:LZ)(a b:Nat):Prop:=lt b a=false/\(lt a b=true\/a<b)
section
variable{lt:LZ}(O:LtOk lt)
include O
theorem LtOk.lt_le{a b c:Nat}(h:lt a b=true)(h2:lt c b=false):lt a c=true:=by
 cases e:lt a c with
 |true=>rfl
 |false=>rw[O.tr h2 e]at h;cases h
theorem LtOk.le_lt{a b c:Nat}(h:lt b a=false)(h2:lt b c=true):lt a c=true:=by
 cases e:lt a c with
 |true=>rfl
 |false=>rw[O.tr e h]at h2;cases h2
theorem Lx.trans{a b c:Nat}(h:Lx lt a b)(k:Lx lt b c):Lx lt a c:=by
 refine#[O.tr h.1 k.1,?_];rcases h.2 with x|x
 ·exact .inl (O.lt_le x k.1)
 ·rcases k.2 with y|y
  ·exact .inl (O.le_lt h.1 y)
  ·exact .inr (Nat.lt_trans x y)
theorem Lx.of_lt{a b:Nat}(h:lt a b=true):Lx lt a b:=#[O.as h,.inl h]
end
structure Fx(N:Nat)(p:LY)(m:Nat):Prop where
 sz:p.size=N
 hi:∀k,m<=k->k<N->gA p k=k
 lo:∀i,i<m->gA p i<m
def LS(lt:LZ)(p:LY)(m:Nat):Prop:=∀i j,i<j->j<m->Lx lt (gA p i) (gA p j)
def AS(lt:LZ)(p:LY)(m:Nat):Prop:=∀i j,i<j->j<m->Lx lt (gA p j) (gA p i)
def Fx.succ{N:Nat}{m:Nat}(h:Fx N p m)(hm:m<N):Fx N p (m+1):=#[h.sz,λk h1 h2=>h.hi k ∅ h2,λi hi=>by
 rcases YU i m with h1|h1
 ·have:=h.lo i h1;omega
 ·have e:i=m:=∅
  subst e;rw[h.hi i (Ze _) hm];omega]
def dB{p:LY}{i j k:Nat}(hj:j<=p.size):gA (kas_rev p i j) k=if i<=k/\k<j then gA p (i+j-1-k)else gA p k:=by
 unfold gA kas_rev;rw[ZQ,getElem?_mirror_all hj];split
 ·rw[ZQ]
 ·rw[ZQ]
def oS(p:LY)(k:Nat):gA p k=(p[k]?).getD 0:=by unfold gA;rw[ZQ]
def GI{p:LY}{k d i:Nat}(hk:k<p.size)(hd:d<=k):gA (bubble p k d) i=if i=k-d then gA p k else if k-d<i/\i<=k then gA p (i-1)else gA p i:=by
 rw[oS,getElem?_bubble hk d hd];split
 ·rw[oS]
 ·split
  ·rw[oS]
  ·rw[oS]
def Fx.rev{N:Nat}{m i j:Nat}(h:Fx N p m)(hj:j<=m)(hm:m<=N):Fx N (kas_rev p i j) m:=by
 have hs:j<=p.size:=by rw[h.sz];omega
 refine#[by rw[kas_rev_size];exact h.sz,λk h1 h2=>?_,λk hk=>?_]
 ·rw[dB hs,LH ∅];exact h.hi k h1 h2
 ·rw[dB hs];split
  ·exact h.lo _ ∅
  ·exact h.lo _ hk
section
variable{lt:LZ}(O:LtOk lt){N:Nat}
include O
theorem LS.step{n:Nat}(h:LS lt p n)(hx:Lx lt (gA p (n-1)) (gA p n))(h1:1<=n):LS lt p (n+1):=λi j hij hj=>by
 rcases YU j n with h2|h2
 ·exact h i j hij h2
 ·have e:j=n:=∅
  subst e;rcases YU i (j-1)with h3|h3
  ·exact(h i (j-1) h3 ∅).trans O hx
  ·have e:i=j-1:=∅
   subst e;exact hx
theorem uN:∀(f n:Nat),1<=n->n+f<=N->Fx N p n->LS lt p n->KW lt (λm=>n<=m/\m<=n+f/\Fx N p m/\LS lt p m/\(m<n+f->lt (gA p m) (gA p (m-1))=true)) (kas_asc p f n)
 |0,n,_,_,hf,hs=>#[Ze _,Ze _,hf,hs,λh=>absurd h ∅]
 |f+1,n,h1,hN,hf,hs=>by
  show KW lt _ (if lt (gA p n) (gA p (n-1))=true then .ret n else kas_asc p f (n+1));by_cases c:lt (gA p n) (gA p (n-1))=true
  ·rw[LI c];exact#[Ze _,∅,hf,hs,λ_=>c]
  ·rw[LH c];have c':=Y9.mpr c;have hx:Lx lt (gA p (n-1)) (gA p n):=#[c',.inr (by rw[hf.hi n (Ze _) ∅];exact hf.lo _ ∅)]
   refine KW.mono (λm hm=>?_) (uN f (n+1) ∅ ∅ (hf.succ ∅) (hs.step O hx h1));exact#[∅,∅,hm.2.2.1,hm.2.2.2.1,λz=>hm.2.2.2.2 ∅]
theorem AS.rev{n:Nat}(h:AS lt p n)(hn:n<=p.size):LS lt (kas_rev p 0 n) n:=λi j hij hj=>by rw[dB hn,dB hn,LI ∅,LI ∅];exact h _ _ ∅ ∅
theorem xh{n:Nat}(h1:1<=n)(hN:n<=N)(hf:Fx N p n)(ha:AS lt p n):KW lt (λr=>r.1<=N/\1<=r.1/\Fx N r.2 r.1/\LS lt r.2 r.1) (kas_tail3 n N p):=by refine KW.bind (KW.mono (λm hm=>?_) (uN O (N:=N) (N-n) n h1 ∅ (hf.rev (Ze _) hN) (ha.rev O (by rw[hf.sz];exact hN))));exact#[∅,∅,hm.2.2.1,hm.2.2.2.1]
structure Dn(lt:LZ)(p:LY)(n q:Nat):Prop where
 hq:q+1<=n
 up:∀i j,i<j->j<n-(q+1)->Lx lt (gA p j) (gA p i)
 cr:∀i j,i<n-(q+1)->n-(q+1)<=j->j<n->lt (gA p j) (gA p i)=true
 eq:∀i j,n-(q+1)<=i->i<j->j<n->lt (gA p i) (gA p j)=false/\lt (gA p j) (gA p i)=false/\gA p i<gA p j
theorem Dn.rev{n q:Nat}(h:Dn lt p n q)(hn:n<=p.size):AS lt (kas_rev p (n-(q+1)) n) n:=λi j hij hj=>by
 have hq:=h.hq;rw[dB hn,dB hn];by_cases c1:n-(q+1)<=i
 ·rw[LI ∅,LI ∅];exists[e1,e2,e3],h.eq (n-(q+1)+n-1-j) (n-(q+1)+n-1-i) ∅ ∅ ∅;exact#[e2,.inr e3]
 ·rw[LH (show¬(n-(q+1)<=i/\i<n) by omega)];by_cases c2:n-(q+1)<=j
  ·rw[LI ∅];exact Lx.of_lt O (h.cr _ _ ∅ ∅ ∅)
  ·rw[LH ∅];exact h.up _ _ hij ∅
theorem Dn.zero{n:Nat}(h:Dn lt p n 0):AS lt p n:=λi j hij hj=>by
 rcases YU j (n-1)with c|c
 ·exact h.up i j hij c
 ·exact Lx.of_lt O (h.cr i j ∅ ∅ hj)
theorem Dn.start{n:Nat}(h:AS lt p n)(h1:1<=n)(hl:lt (gA p n) (gA p (n-1))=true):Dn lt p (n+1) 0:=by
 refine#[∅,λi j hij hj=>h i j hij ∅,λi j hi h2 h3=>?_,λi j h2 h3 h4=>absurd h3 ∅];have e:j=n:=∅
 subst e;rcases YU i (j-1)with h3|h3
 ·exact O.lt_le hl (h i (j-1) h3 ∅).1
 ·have e:i=j-1:=∅
  subst e;exact hl
theorem mw:∀(f:Nat) {p:LY} {n q:Nat},n+f<=N->Fx N p n->Dn lt p n q->KW lt (λr=>n<=r.2.1/\r.2.1<=n+f/\Fx N r.1 r.2.1/\Dn lt r.1 r.2.1 r.2.2) (kas_desc f p n q)
 |0,_,n,_,_,hf,hd=>#[Ze _,Ze _,hf,hd]
 |f+1,p,n,q,hN,hf,hd=>by
  have hs:n<=p.size:=by rw[hf.sz];omega
  have hq:=hd.hq;show KW lt _ (if lt (gA p n) (gA p (n-1))=true then(if q>0 then kas_desc f (kas_rev p (n-(q+1)) n) (n+1) 0 else kas_desc f p (n+1) 0)else KasT.ask (gA p (n-1)) (gA p n) λd=>if d=true then .ret (p,n,q)else kas_desc f p (n+1) (q+1));by_cases c:lt (gA p n) (gA p (n-1))=true
  ·rw[LI c];have wk:∀{r:LY×Nat×Nat},(n+1<=r.2.1/\r.2.1<=n+1+f/\Fx N r.1 r.2.1/\Dn lt r.1 r.2.1 r.2.2)->n<=r.2.1/\r.2.1<=n+(f+1)/\Fx N r.1 r.2.1/\Dn lt r.1 r.2.1 r.2.2:=λh=>#[∅,∅,h.2.2.1,h.2.2.2]
   by_cases cq:q>0
   ·rw[LI cq];have fr:=hf.rev (i:=n-(q+1)) (Ze n) ∅;have e1:gA (kas_rev p (n-(q+1)) n) n=gA p n:=by rw[dB hs,LH ∅]
    have e2:gA (kas_rev p (n-(q+1)) n) (n-1)=gA p (n-(q+1)):=by rw[dB hs,LI ∅];congr 1;omega
    have l2:lt (gA p n) (gA p (n-(q+1)))=true:=O.lt_le c (hd.eq (n-(q+1)) (n-1) (Ze _) ∅ ∅).1;refine KW.mono (λr h=>wk h) (mw f ∅ (fr.succ ∅) (Dn.start O (hd.rev O hs) ∅ (by rw[e1,e2];exact l2)))
   ·rw[LH cq];have e:q=0:=∅
    subst e;exact KW.mono (λr h=>wk h) (mw f ∅ (hf.succ ∅) (Dn.start O (hd.zero O) ∅ c))
  ·rw[LH c];have c':=Y9.mpr c;show KW lt _ (if lt (gA p (n-1)) (gA p n)=true then _ else _);by_cases d:lt (gA p (n-1)) (gA p n)=true
   ·rw[LI d];exact#[Ze _,YI _ _,hf,hd]
   ·rw[LH d];have d':=Y9.mpr d;have gn:gA p n=n:=hf.hi n (Ze _) ∅;have same:∀i,n-(q+1)<=i->i<n->lt (gA p i) (gA p n)=false/\lt (gA p n) (gA p i)=false:=λi h1 h2=>by
     rcases YU i (n-1)with h3|h3
     ·exists[a1,a2,_],hd.eq i (n-1) h1 h3 ∅;exact#[O.tr d' a1,O.tr a2 c']
     ·have e:i=n-1:=∅
      subst e;exact#[d',c']
    refine KW.mono (λr h=>#[∅,∅,h.2.2.1,h.2.2.2]) (mw f (n:=n+1) (q:=q+1) ∅ (hf.succ ∅) #[∅,λi j hij hj=>hd.up i j hij ∅,λi j hi h2 h3=>?_,λi j h1 h2 h3=>?_])
    ·rcases YU j n with h4|h4
     ·exact hd.cr i j ∅ ∅ h4
     ·have e:j=n:=∅
      subst e;exact O.le_lt d' (hd.cr i (j-1) ∅ ∅ ∅)
    ·rcases YU j n with h4|h4
     ·exact hd.eq i j ∅ h2 h4
     ·have e:j=n:=∅
      subst e;exists[a1,a2],same i ∅ h2;exact#[a1,a2,by rw[gn];exact hf.lo _ h2]
theorem nh{n:Nat}(h1:1<=n)(hN:n<N)(hf:Fx N p n)(ha:AS lt p n)(hl:lt (gA p n) (gA p (n-1))=true):KW lt (λr=>r.1<=N/\1<=r.1/\Fx N r.2 r.1/\LS lt r.2 r.1) (kas_descPart n N p):=by
 refine KW.bind (KW.mono (λr hr=>?_) (mw O (N:=N) (N-(n+1)) ∅ (hf.succ hN) (Dn.start O ha h1 hl)));exists[r1,r2,r3,r4],hr;show KW lt _ (if r.2.2>0 then _ else _);by_cases c:r.2.2>0
 ·rw[LI c];exact xh O ∅ ∅ (r3.rev (Ze _) ∅) (r4.rev O (by rw[r3.sz];omega))
 ·rw[LH c];have e:r.2.2=0:=∅
  rw[e]at r4;exact xh O ∅ ∅ r3 (r4.zero O)
theorem Cf(hN:1<=N)(hf:Fx N p 1):KW lt (λr=>r.1<=N/\1<=r.1/\Fx N r.2 r.1/\LS lt r.2 r.1) (kas_count N p):=by
 refine KW.bind (KW.mono (λn hn=>?_) (uN O (N:=N) (N-1) 1 (Ze _) ∅ hf (λi j h1 h2=>absurd h1 ∅)));exists[n1,n2,nf,ns,nl],hn;show KW lt _ (if(n==N)=true then KasT.ret (n,p)else if n>1 then KasT.ask (gA p 0) (gA p (n-1)) (λc=>if c=true then .ret (n,p)else kas_descPart n N (kas_rev p 0 n))else kas_descPart n N p);by_cases c:(n==N)=true
 ·rw[LI c];exact#[∅,n1,nf,ns]
 ·rw[LH c];have nN:n<N:=by have:n≠N:=λz=>c (YK.mpr z);omega
  have hl:=nl ∅;by_cases c2:n>1
  ·rw[LI c2];show KW lt _ (if lt (gA p 0) (gA p (n-1))=true then _ else _);by_cases c3:lt (gA p 0) (gA p (n-1))=true
   ·rw[LI c3];exact#[∅,n1,nf,ns]
   ·rw[LH c3];have c3':=Y9.mpr c3;have hs:n<=p.size:=by rw[nf.sz];omega
    have le0:∀i,i<n->lt (gA p i) (gA p 0)=false:=λi hi=>by
     rcases Nat.eq_zero_or_pos i with z|z
     ·subst z;cases e:lt (gA p 0) (gA p 0)with
      |false=>rfl
      |true=>rw[O.as e]at e;cases e
     ·exact(ns 0 i z hi).1
    have leN:∀i,i<n->lt (gA p (n-1)) (gA p i)=false:=λi hi=>by
     rcases YU i (n-1)with z|z
     ·exact(ns i (n-1) z ∅).1
     ·have e:i=n-1:=∅
      subst e;cases e:lt (gA p (n-1)) (gA p (n-1))with
      |false=>rfl
      |true=>rw[O.as e]at e;cases e
    have all:∀i j,i<n->j<n->lt (gA p i) (gA p j)=false:=λi j hi hj=>O.tr (leN j hj) (O.tr c3' (le0 i hi));refine nh O n1 nN (nf.rev (Ze _) ∅) (λi j hij hj=>?_) ?_
    ·rw[dB hs,dB hs,LI ∅,LI ∅];have z:=ns (0+n-1-j) (0+n-1-i) ∅ ∅;refine#[all _ _ ∅ ∅,?_];rcases z.2 with y|y
     ·rw[all _ _ ∅ ∅]at y;cases y
     ·exact .inr y
    ·rw[dB hs,dB hs,LH ∅,LI ∅];exact O.lt_le hl (all _ _ ∅ ∅)
  ·rw[LH c2];have e:n=1:=∅
   subst e;exact nh O n1 nN nf (λi j h1 h2=>absurd h1 ∅) hl
theorem nY{k:Nat}(hs:LS lt p k):∀(f l r:Nat),r-l<=f->r<=k->(∀i,i<l->i<k->lt (gA p k) (gA p i)=false)->(∀i,r<=i->i<k->lt (gA p k) (gA p i)=true)->l<=r ->
  KW lt (λm=>m<=k/\(∀i,i<m->lt (gA p k) (gA p i)=false)/\∀i,m<=i->i<k->lt (gA p k) (gA p i)=true) (kas_place p k f l r)
 |0,l,r,h1,h2,h3,h4,h5=>#[∅,λi hi=>h3 i hi ∅,λi hi=>h4 i ∅]
 |f+1,l,r,h1,h2,h3,h4,h5=>by
  show KW lt _ (if l>=r then KasT.ret l else KasT.ask (gA p k) (gA p ((l+r) / 2)) λc=>if c=true then kas_place p k f l ((l+r) / 2)else kas_place p k f ((l+r) / 2+1) r);by_cases c:l>=r
  ·rw[LI c];exact#[∅,λi hi=>h3 i hi ∅,λi hi=>h4 i ∅]
  ·rw[LH c];show KW lt _ (if lt (gA p k) (gA p ((l+r) / 2))=true then _ else _);by_cases d:lt (gA p k) (gA p ((l+r) / 2))=true
   ·rw[LI d];refine nY hs f l ((l+r) / 2) ∅ ∅ h3 (λi hi hk=>?_) ∅;rcases Nat.eq_or_lt_of_le hi with e|e
    ·rw[<-e];exact d
    ·exact O.lt_le d (hs _ _ e hk).1
   ·rw[LH d];have d':=Y9.mpr d;refine nY hs f ((l+r) / 2+1) r ∅ h2 (λi hi hk=>?_) h4 ∅;rcases YU i ((l+r) / 2)with e|e
    ·exact O.tr (hs _ _ e ∅).1 d'
    ·have e:i=(l+r) / 2:=∅
     rw[e];exact d'
theorem AB:∀(f:Nat) {p:LY} {k:Nat},k+f=N->1<=k->Fx N p k->LS lt p k->KW lt (λp=>p.size=N/\LS lt p N) (kas_bin f p k)
 |0,p,k,e,_,hf,hs=>by
  have:k=N:=∅
  subst this;exact#[hf.sz,hs]
 |f+1,p,k,e,h1,hf,hs=>by
  refine KW.bind (KW.mono (λm hm=>?_) (nY O hs k 0 k ∅ (Ze _) (λi hi=>absurd hi ∅) (λi h2 h3=>absurd h2 ∅) (Zy _)));exists[m1,m2,m3],hm;have hk:k<p.size:=by rw[hf.sz];omega
  have gk:gA p k=k:=hf.hi k (Ze _) ∅;have ekm:k-(k-m)=m:=∅
  have gb:∀i,gA (bubble p k (k-m)) i=if i=m then gA p k else if m<i/\i<=k then gA p (i-1)else gA p i:=λi=>by rw[GI hk ∅,ekm]
  refine AB f ∅ ∅ #[by rw[bubble_size];exact hf.sz,λi h2 h3=>?_,λi hi=>?_] (λi j hij hj=>?_)
  ·rw[gb,LH ∅,LH ∅];exact hf.hi i ∅ h3
  ·rw[gb];split
   ·rw[gk];omega
   ·split
    ·have:=hf.lo (i-1) ∅;omega
    ·have:=hf.lo i ∅;omega
  ·have lk:∀i,i<m->Lx lt (gA p i) (gA p k):=λi hi=>#[m2 i hi,.inr (by rw[gk];exact hf.lo i ∅)]
   have gt:∀i,m<=i->i<k->Lx lt (gA p k) (gA p i):=λi h2 h3=>Lx.of_lt O (m3 i h2 h3);rw[gb,gb];by_cases a1:i=m
   ·rw[LI a1,LH ∅,LI ∅];exact gt _ ∅ ∅
   ·rw[LH a1];by_cases a2:m<i/\i<=k
    ·rw[LI a2,LH ∅,LI ∅];exact hs _ _ ∅ ∅
    ·rw[LH a2];by_cases b1:j=m
     ·rw[LI b1];exact lk i ∅
     ·rw[LH b1];by_cases b2:m<j/\j<=k
      ·rw[LI b2];exact hs _ _ ∅ ∅
      ·rw[LH b2];exact hs _ _ hij ∅
theorem qC(hN:1<=N):KW lt (λp=>p.size=N/\LS lt p N) (kas_sort N):=by
 have f0:Fx N (List.toArray (List.range N)) 1:=by
  have g:∀k,k<N->gA (List.toArray (List.range N)) k=k:=λk hk=>by rw[oS];simp[hk]
  refine#[by simp,λk _ hk=>g k hk,λi hi=>?_];have e:i=0:=∅
  subst e;rw[g 0 ∅];decide
 refine KW.bind (KW.mono (λr hr=>?_) (Cf O hN f0));exists[r1,r2,r3,r4],hr;show KW lt _ (if r.1<N then kas_bin (N-max r.1 1) r.2 (max r.1 1)else .ret r.2);have e:max r.1 1=r.1:=∅
 rw[e];by_cases c:r.1<N
 ·rw[LI c];exact AB O _ ∅ r2 r3 r4
 ·rw[LH c];have e:r.1=N:=∅
  rw[e]at r3 r4;exact#[r3.sz,r4]
end
def Ite(K:W.Frag)(a:LN)(xs:List V):It :=
 #[λi H=>i<xs.length/\SqL K H a xs,λi H x H'=>∃T p,H T=none/\xs[i]?=some p/\x=.ref T/\H'=upd H T (.tup [.int i,p]),λi H=>i=xs.length/\SqL K H a xs]
abbrev eTn(e it a:LN):Nat->Heap->Prop:=λi h=>(∃old,IsEnum h e it i old)/\h.IsListIter it a i
def BG{w:LU}{K:W.Frag}{kt:Nat}(ne:e≠it)(ha:e≠a/\it≠a):
  Turn P w K (.Tuple elts kt tp) (Ite K a xs) [e,it] e (eTn e it a):=by
 refine#[by simp,λi h st c hc=>?_,λi h h' st k=>?_,?_,?_,λA i s Q E st h=>?_]
 ·obtain⟨⟨old,e1⟩,⟨o4,e4,_,d4⟩⟩:=st;simp only[Zf,Zz,ZY]at hc;rcases hc with rfl|rfl
  ·exact#[_,e1,λv z=>nomatch z]
  ·exact#[_,e4,λv z=>by rw[d4]at z;cases z]
 ·obtain⟨⟨old,e1⟩,⟨o4,e4,r4⟩⟩:=st;exact#[#[old,k e (by simp) _ e1],#[o4,k it (by simp) _ e4,r4]]
 ·intro X hP hw hK hc i L4 s σ H E I hf st hg;subst hP hw hK;obtain⟨⟨old,e1⟩,e4⟩:=st;exists[hi,hx],hg;exists[its,rx,px,zx],I.list hx;have lx:i<its.toArray.size:=by rw[Zh,<-rx.length];exact hi
  have hh:=I.ok.hd hc;refine wpAny_pyNext_enum_itemD (Draws.list (A:=X.A.in1) hh it a ha.2.symm its.toArray) e1 #[e4,px.isList] lx ne (by simp[ne,ha.1]) λx h' tk qx ho hs' hT hsz hk=>?_;refine#[_,rfl,wpAny_letOwnedTupleGo_enum (s:={ s with heap:=h',toks:=tk+1 }) ho λh2 he2 sb=>?_];obtain⟨xv,ex⟩:∃xv,xs[i]?=some xv:=#[xs[i],by simp[hi]]
  exists[x',gx,rxv],rx.get ex;have qx':its[i]?=some x:=by simpa using qx
  rw[gx]at qx';cases qx';have lte:e<s.heap.objs.size:=Zr e1;have kp2:∀c o,c∉[e,it]->s.heap.get? c=some o->h2.get? c=some o:=λc o hc q=>by simp only[Zf,Zz,ZY,not_or]at hc;exact sb.extBut c o hc.1 (hk c o hc.1 hc.2 q)
  have tT:IsTup h2 s.heap.objs.size [.int i tk,x].toArray:=#[_,sb.extBut _ _ (ZV lte) hT,rfl,_,rfl]
  refine#[.ref s.heap.objs.size,upd H s.heap.objs.size (.tup [.int i,xv]),I.turnT (t':=tk+1) hf kp2 tT (.cons #[tk,rfl] (.cons rxv .nil)) (sz rfl),rfl,#[_,xv,I.hok.fresh (Ze _),ex,rfl,rfl],?_,λc hc=>?_]
  ·exact#[#[_,by simpa using he2],hs'.1.extBut sb.extBut ne.symm]
  ·rw[ag]
   ·exact(hf c hc).1
   ·obtain⟨o,eo⟩:∃o,s.heap.get? c=some o:=by
     simp only[Zf,Zz,ZY]at hc;rcases hc with rfl|rfl
     ·exact#[_,e1]
     ·exists[o,eo,_],e4;exact#[o,eo]
    exact Zx (Zr eo)
 ·intro X hP hw hK hc i L4 s σ H E I hf st hg;subst hP hw hK;obtain⟨⟨old,e1⟩,e4⟩:=st;exists[rfl,hx],hg;exists[its,rx,px,zx],I.list hx;have lx:its.toArray.size=xs.length:=by rw[Zh,<-rx.length]
  have hh:=I.ok.hd hc;refine wpAny_pyNext_enum_endD (Draws.list (A:=X.A.in1) hh it a ha.2.symm its.toArray) e1 #[by rw[lx];exact e4,px.isList] λh' kp=>#[rfl,?_]
  exact I.turnM (t':=s.toks) hf λc ob hc q=>by simp only[Zf,Zz,ZY,not_or]at hc;exact kp c ob hc.2 q
 ·obtain⟨⟨old,e1⟩,_⟩:=st;exact wpAny_pyIter_enum e1 h
def DS(K:W.Frag)(ta:TA):TI:=λσ H R=>ta σ H λvs H1=>∃a xs,vs=[.ref a]/\H1 a=some (.lst xs)/\R (Ite K a xs) H1
section
variable{X:Cx}
def Fw{kt:Nat}(hg:Gl X "enumerate")(hm:X.mg "enumerate" = none)(ha:PA X [e1] ta)(n1:aK e1=true):PI X (.Tuple elts kt tp) (.Call (.Name "enumerate" p) [e1] [] pos) (DS X.K ta):=by
 intro L4 s σ H R I h;refine Call_ (cV I hg hm boot_enumerate (Z5 (thn (ha pos L4 s σ H _ I h) λus s1 hz9=>?_) (aI n1) (bE (by simp))));exists[vs,H1,I1,r1,q1],hz9;exists[a,xs,e,hx,q],q1;subst e;exists[ua,rfl,ra],bG r1;cases ra;exists[z,its,n,rx,hl',eo],I1.lstM hx;have la:a<s1.heap.objs.size:=Zr eo;refine call_enumerate_1 eo λh' he hl hz hk=>wpAny_pyIter_enum he ?_;refine#[s1.heap.objs.size+1,[s1.heap.objs.size+1,s1.heap.objs.size],eTn (s1.heap.objs.size+1) s1.heap.objs.size a,_,H1,rfl,I1.kept (t':=s1.toks) hk,BG (Nat.succ_ne_self _) #[ZV (Yj la),ZV la],#[#[_,he],hl],λc hc=>?_,q];have hc':s1.heap.objs.size<=c:=by
  simp only[Zf,Zz,ZY]at hc;rcases hc with rfl|rfl
  ·exact YA _
  ·exact Ze _
 exact I1.fpOk hc' (I1.hok.fresh hc')
def GQ{kt:Nat}(hm:X.mg "enumerate" = none)(ha:QA X [e1] ta)(hg:Gl X "enumerate":=by rfl)(n1:aK e1=true:=by rfl):QI X (.Tuple elts kt tp) (.Call (.Name "enumerate" p) [e1] [] pos) (DS X.K ta):=#[Fw hg hm ha.h n1]
end
def B4{K:W.Frag}{a:LN}{xs:List V}{i j:Nat}{tb:TS}{D:Ends}{σ:St}{H:Hp}(Pv:Nat->St->Hp->Prop)(h0:Pv 0 σ H)(ha:∀i σ H,i<=xs.length->Pv i σ H->SqL K H a xs)(hs:∀k x σ H,xs[k]?=some x->Pv k σ H->∀T,H T=none->tb { D with nx:=Pv (k+1),ct:=Pv (k+1),bk:=D.nx } ((σ.set i (some (.int k))).set j (some x)) (upd H T (.tup [.int k,x])))(hd:∀σ H,Pv xs.length σ H->D.nx σ H) :
  ∃W:Nat->Nat->St->Hp->Prop,(∃m,W 0 m σ H)/\∀k m σ H,W k m σ H ->
   ((Ite K a xs).stop k H/\D.nx σ H)\/((Ite K a xs).go k H/\∃N:St->Hp->Prop,(∀σ' H',N σ' H'->∃m',m'<m/\W (k+1) m' σ' H')/\∀x H',(Ite K a xs).yld k H x H'->kK K 2 (eG (bD i) (eG (bD j) kJ)) x σ H' λσ2 H2=>tb { D with nx:=N,ct:=N,bk:=D.nx } σ2 H2):=by
 refine#[λk m σ H=>m=xs.length-k/\k<=xs.length/\Pv k σ H,#[xs.length,by simp,Zy _,h0],?_];rintro k m σ H ⟨rfl,hk,pv⟩;by_cases hlt:k<xs.length
 ·refine .inr #[#[hlt,ha k σ H hk pv],Pv (k+1),λσ' H' z=>#[xs.length-(k+1),∅,rfl,hlt,z],λx H' y=>?_];exists[T,p,hT,hx,rfl,rfl],y;exact#[T,[.int k,p],rfl,L6 ac,rfl,.int k,[p],rfl,p,[],rfl,rfl,hs k p σ H hx pv T hT]
 ·have e:k=xs.length:=∅
  subst e;exact .inl #[#[rfl,ha _ σ H hk pv],hd σ H pv]
theorem mr{α:Type}{n:Nat}{lt:LZ}{P R:α->Prop}{cmp:Nat->Nat->(Bool->LO->Prop)->LO->Prop}{Q:α->LO->Prop}{s:LO}(hc:∀i j C,i<n->j<n->C (lt i j) s->cmp i j C s)(hq:∀a,P a->R a->Q a s):∀{t:KasT α},KIn n P t->KW lt R t->t.kasWp cmp Q s
 |.ret _,h,k=>hq _ h k
 |.ask i j c,⟨h1,h2,h3⟩,k=>hc _ _ _ h1 h2 (mr hc hq (t:=c (lt i j)) (h3 _) k)
section
variable{X:Cx}{L4:LJ}{σ:St}{H:Hp}{s:LO}{h':Heap}
def Inv.movedF{ch:List LN}{t':Nat}(I:Inv X L4 σ H s)(hch:∀b∈ch,aZ X L4 H b)(k:∀b u,b≠X.env.locals->b∉ch->s.heap.get? b=some u->h'.get? b=some u)(hn:∃m,s.heap.Ns X.env.locals m/\h'.Ns X.env.locals m):Inv X L4 σ H { s with heap:=h',toks:=t' }:=by
 have neL:∀{b:LN} {u:HO},H b=some u->b≠X.env.locals:=fun{b u} e=>ar e I.free;have neC:∀{b:LN} {u:HO},H b=some u->b∉ch:=fun{b u} e z=>by have:=(hch b z).1;rw[e]at this;cases this
 refine I.step (g':=s.gens) (d':=s.drawn) (ch:=ch) (λb hb=>#[(hch b hb).2.2.2.1,(hch b hb).2.1,(hch b hb).2.2.2.2.1,(hch b hb).2.2.2.2.2]) (λb o hL _ hc e _=>k b o hL hc e) (λb o hL _ hc e _=>#[o.slots,k b o hL hc e]) (λb o _ e n=>n) (λb o hc e=>?_)
  (λb xs e=>e) (λb o u e=>e) (λb ps e=>#[#[],by rw[e];simp]) (λm' hm'=>?_) (λb u e=>?_) I.bare
 ·by_cases hL:b=X.env.locals
  ·exists[m,_,o',_,_,e',_],hn;exact#[o',by rw[hL];exact e']
  ·exact#[o,k b o hL hc e]
 ·exists[m,h1,h2],hn;rw[hm'.eq_nsMap,<-h1.eq_nsMap];exact h2
 ·refine(I.hok b u e).stay (λc v hc q=>k c v ?_ ?_ q) (λc q=>q) λc ys q=>q
  ·rcases hc with z|z
   ·rw[z];exact neL e
   ·exact neL z
  ·rcases hc with z|z
   ·rw[z];exact neC e
   ·exact neC z
def Inv.tookF{ch:List LN}{a:LN}{o:HO}{t':Nat}(I:Inv X L4 σ H s)(ha:a∈ch)(hch:∀b∈ch,aZ X L4 H b)(k:∀b u,b≠X.env.locals->b∉ch->s.heap.get? b=some u->h'.get? b=some u)(hn:∃m,s.heap.Ns X.env.locals m/\h'.Ns X.env.locals m)(new:ObjOk X.prog X.w (upd H a o) h' a o):Inv X L4 σ (upd H a o) { s with heap:=h',toks:=t' }:=by
 have fr:=(hch a ha).1;have ne:∀{b:LN} {u:HO},H b=some u->b≠a:=fun{b u} e=>ar e fr;have neL:∀{b:LN} {u:HO},H b=some u->b≠X.env.locals:=fun{b u} e=>ar e I.free;have neC:∀{b:LN} {u:HO},H b=some u->b∉ch:=fun{b u} e z=>by have:=(hch b z).1;rw[e]at this;cases this
 refine I.step (g':=s.gens) (d':=s.drawn) (ch:=ch) (λb hb=>#[(hch b hb).2.2.2.1,(hch b hb).2.1,(hch b hb).2.2.2.2.1,(hch b hb).2.2.2.2.2]) (λb o hL _ hc e _=>k b o hL hc e) (λb o hL _ hc e _=>#[o.slots,k b o hL hc e]) (λb o hc e n=>by rw[ag (λz:b=a=>hc (by rw[z];exact ha))];exact n) (λb o hc e=>?_)
  (λb xs e=>by rw[ag (ne e)];exact e) (λb o u e=>by rw[ag (ne e)];exact e) (λb ps e=>#[#[],by rw[ag (ne e),e];simp]) (λm' hm'=>?_) (λb u e=>?_) I.bare
 ·by_cases hL:b=X.env.locals
  ·exists[m,_,o',_,_,e',_],hn;exact#[o',by rw[hL];exact e']
  ·exact#[o,k b o hL hc e]
 ·exists[m,h1,h2],hn;rw[hm'.eq_nsMap,<-h1.eq_nsMap];exact h2
 ·by_cases hb:b=a
  ·subst hb;rw[ac]at e;cases e;exact new
  ·rw[ag hb]at e;refine(I.hok b u e).stay (λc v hc q=>k c v ?_ ?_ q) (λc q=>by rw[ag (ne q)];exact q) λc ys q=>by rw[ag (ne q)];exact q
   ·rcases hc with z|z
    ·rw[z];exact neL e
    ·exact neL z
   ·rcases hc with z|z
    ·rw[z];exact neC e
    ·exact neC z
def dW(base h:Heap)(L kS:LN):LJ:=(pM base h L).filter λp=>decide (p.1≠kS)
def de{base h:Heap}(e:h.get? kS=some o)(hL:kS≠L)(hb:base.get? kS=none):News base L h ((kS,o)::dW base h L kS):=λp hp=>by
 rcases Zf.mp hp with rfl|hp
 ·exact#[e,hL,hb]
 ·exact eE base h L p (ZP.mp hp).1
def dX:∀p∈dW base h L kS,p.1≠kS:=λp hp=>ZZ (ZP.mp hp).2
def cZ{base h h2:Heap}(hbk:∀b o,base.get? b=some o->h.get? b=some o)(F:Fr base L h2 m)(N:News base L h2 ((kS,o')::dW base h L kS)):∀b u,b≠L->b∉[kS]->h.get? b=some u->h2.get? b=some u:=λb u hL hk e=>by
 cases q:base.get? b with
 |none=>exact(N (b,u) (.tail _ (ZP.mpr #[bQ e hL q,decide_eq_true (λz=>hk (Zj.mpr z))]))).1
 |some o =>have e':=hbk b o q;rw[e]at e';cases e';exact F.keep b u q
structure SK(X:Cx)(L4:LJ)(σ:St)(H1:Hp)(m:LL)(kS D:LN)(e1:Nat)(ks:List LX)(as:List LN)(e:Nat)(H:Hp)(s:LO):Prop where
 I:Inv X L4 σ H s
 sm:Same H1 H
 fk:aZ X L4 H kS
 fd:aZ X L4 H D
 bk:X.base.get? kS=none
 bd:X.base.get? D=none
 hk:s.heap.get? kS=some (seqObj "list" (List.toArray (as.map Value.ref)) e)
 hd:s.heap.get? D=some (seqObj "list" #[] e1)
 ns:s.heap.Ns X.env.locals m
 keys:∀(i:Nat) (a:LN) (k:LX),as[i]?=some a->ks[i]?=some k->H a=some (.tup (k.map V.int))
end
theorem pq:∀{a b:LX},HT.lexLt a b=true->HT.lexLt b a=false
 | [],[],h=>by cases h
 | [],_::_,_=>rfl
 |_::_,[],h=>by cases h
 |x::a,y::b,h=>by
  rw[HT.lexLt_cons]at h ⊢;by_cases e:x=y
  ·subst e;rw[LI rfl]at h ⊢;exact pq h
  ·rw[LH e]at h;rw[LH (λz=>e z.symm)];have:=ZZ h;exact decide_eq_false ∅
theorem AC:∀{a b c:LX},HT.lexLt b a=false->HT.lexLt c b=false->HT.lexLt c a=false
 | [],[],[],_,_=>rfl
 | [],[],_::_,_,_=>rfl
 | [],_::_,[],_,h=>by cases h
 | [],_::_,_::_,_,_=>rfl
 |_::_,[],_,h,_=>by cases h
 |_::_,_::_,[],_,h=>by cases h
 |x::a,y::b,z::c,h,k=>by
  rw[HT.lexLt_cons]at h k ⊢;by_cases e:y=x
  ·subst e;rw[LI rfl]at h;by_cases e2:z=y
   ·rw[LI e2]at k ⊢;exact AC h k
   ·rw[LH e2]at k ⊢;exact k
  ·rw[LH e]at h;have h':=YJ h;by_cases e2:z=y
   ·rw[LH ∅];exact decide_eq_false ∅
   ·rw[LH e2]at k;have k':=YJ k;rw[LH ∅];exact decide_eq_false ∅
def uR(ks:List LX):LtOk (λi j=>HT.lexLt (ks.getD i []) (ks.getD j [])):=#[pq,AC]
section
variable{X:Cx}
def wX(X:Cx)(l:List LN):Cx:={ X with ex:=l++X.ex }
structure ExOk(X:Cx)(b:LN):Prop where
 old:b∈X.ex\/X.s₀.heap.get? b=none
 loc:b≠X.env.locals
 cel:∀x c,X.env.cells.lookup x=some c->c≠b
 bas:X.base.get? b=none
 fs:b∉X.fs
def Inv.widen(I:Inv X L4 σ H s)(hl:∀b∈l,ExOk X b):Inv (wX X l) L4 σ H s:=by
 have ok:(wX X l).Ok:=by
  have o:=I.ok;refine#[o.mod,o.kind,o.glob,o.blt,o.above,o.inj,o.has,o.cab,o.hd,o.frames,o.stk,λb hb=>?_,o.bs,o.bsz,λb ob hb z=>?_,λb hb=>?_,o.funs,o.frf]
  ·rcases ZE.mp hb with h|h
   ·exact#[(hl b h).loc,(hl b h).cel]
   ·exact o.exf b h
  ·rcases ZE.mp z with h|h
   ·have hb':X.base.get? b=some ob:=hb;rw[(hl b h).bas]at hb';cases hb'
   ·exact o.noex b ob hb h
  ·rcases ZE.mp hb with h|h
   ·exact(hl b h).fs
   ·exact o.exfs b h
 have ne:∀{b:LN},b∉l++X.ex->b∉X.ex:=λh z=>h (ZJ _ z);have u:=I.base;exact#[ok,I.os,I.bare,#[λb o e n hb hx=>u.keep b o e n hb (ne hx),λb o e n hb hx=>u.slot b o e n hb (ne hx),λb o e n hx=>u.free b o e n (ne hx),λb o e hx=>u.there b o e (ne hx),u.tups,u.frzs,u.tbls],I.loc,I.cell,I.free,I.freeC,I.pin,I.hok,I.len]
def Inv.narrow(I:Inv (wX X l) L4 σ H s)(ok:X.Ok)(hl:∀b∈l,b∈X.ex\/X.s₀.heap.get? b=none):Inv X L4 σ H s:=by
 have ne:∀{b:LN} {o:Obj},X.s₀.heap.get? b=some o->b∉X.ex->b∉l++X.ex:=fun{b o} e h z=>by
  rcases ZE.mp z with z|z
  ·rcases hl b z with y|y
   ·exact h y
   ·rw[y]at e;cases e
  ·exact h z
 have u:=I.base;exact#[ok,I.os,I.bare,#[λb o e n hb hx=>u.keep b o e n hb (ne e hx),λb o e n hb hx=>u.slot b o e n hb (ne e hx),λb o e n hx=>u.free b o e n (ne e hx),λb o e hx=>u.there b o e (ne e hx),u.tups,u.frzs,u.tbls],I.loc,I.cell,I.free,I.freeC,I.pin,I.hok,I.len]
def Inv.exOk(I:Inv X L4 σ H s)(hb:s.heap.get? b=none)(hL:b≠X.env.locals)(h0:X.base.get? b=none):ExOk X b:=by
 have old:b∈X.ex\/X.s₀.heap.get? b=none:=by
  by_cases hx:b∈X.ex
  ·exact .inl hx
  ·cases e:X.s₀.heap.get? b with
   |none=>exact .inr rfl
   |some o =>exists[o',e'],I.base.there b o e hx;rw[hb]at e';cases e'
 refine#[old,hL,λx c e z=>?_,h0,λz=>?_]
 ·exists[v,o,ho,_],I.cell x c e;rw[z,hb]at ho;cases ho
 ·exists[_,o,ho,_],I.ok.funs.mem z;rcases old with y|y
  ·exact I.ok.exfs b y z
  ·rw[y]at ho;cases ho
def Inv.fpW(I:Inv X L4 σ H s)(hm:b∈l)(x:ExOk X b)(hb:s.heap.get? b=none):aZ (wX X l) L4 H b:=by refine#[none_of I hb,x.loc,x.fs,.inl (List.mem_append_left _ hm),x.cel,λp hp z=>?_];have:=(I.pin p hp).1;rw[z,hb]at this;cases this
theorem uL{ks:List LX}(I:Inv X L4 σ H s)(hk:∀k∈ks,k≠[]):∀(as:List LN) (n:Nat),n+as.length=ks.length->(∀(i:Nat) (a:LN) (k:LX),as[i]?=some a->ks[n+i]?=some k->H a=some (.tup (k.map V.int)))->∃fs:LM,KatTups s.heap (as.map Value.ref) fs/\fs.length=as.length/\∀v∈fs,∃i t,v=.int i t
 | [],_,_,_=>#[[],KatTups.nil,rfl,λv h=>nomatch h]
 |a::as,n,hl,h=>by
  rw[Zl]at hl;have hkn:ks[n]?=some (ks[n]'∅):=z9 ∅;have hne:=hk _ (ZG (show n<ks.length by omega));generalize ks[n]'∅=k at hkn hne;have ea:=h 0 a k rfl (by rw[Nat.add_zero];exact hkn);exists[ia,ra,pa,za],I.tuple (L6 (K:=X.K) ea);exists[oa,eo,ca,n1,da],id pa;obtain⟨x,t,ia',rfl⟩:∃x t r,ia=.int x t::r:=by
   cases bo ra with
   |nil=>exact absurd rfl hne
   |cons x t r=>exact#[x,t,_,rfl]
  exists[fs,f1,f2,f3],uL I hk as (n+1) ∅ (λi b k' h1 h2=>h (i+1) b k' h1 (by rw[show n+(i+1)=n+1+i by omega];exact h2));refine#[.int x t::fs,KatTups.cons eo ca da rfl f1,by rw[Zl,Zl,f2],λv hv=>?_];rcases Zf.mp hv with rfl|hv
  ·exact#[_,_,rfl]
  ·exact f3 v hv
end
section
variable{X:Cx}{pos:Pos}
def sW:QE X (.Dict [] [] pos) Bw:=#[CK]
def dM(hu:X.A.units+64<cLine)(ho:QE X o td)(hi:QE X i ty)(hs:BQ i:=by intro _ _;rfl):QE X (.Subscript o i pos) (Ek td ty):=#[Fo ∅ ho.h hi.h hs]
def Eo(hu:X.A.units+64<cLine)(hi:QE X i ty)(ho:QE X o td)(hm:behindInMarks .In o=false:=by with_unfolding_all rfl):QT X (.Compare i [.In] [o] pos) (tB (ID ty td)):=#[Bd (Hy ∅ hi.h ho.h) hm]
def oA(hu:X.A.units+64<cLine)(hi:QE X i ty)(ho:QE X o td)(hm:behindInMarks .NotIn o=false:=by with_unfolding_all rfl):QT X (.Compare i [.NotIn] [o] pos) (tB (xF ty td)):=#[Bd (A5 ∅ hi.h ho.h) hm]
def lD(hu:X.A.units+64<cLine)(ho:QE X o td)(hi:QE X i ty)(hv:QE X value tv)(hs:swapsWith value (some (.Subscript o i pos')) pos.line X.env=pure false:=by rfl):QS X (.Assign [.Subscript o i pos'] value pos) (Eg td ty tv):=#[FF ∅ ho.h hi.h hv.h hs]
end
def Itv(K:W.Frag)(a:LN)(xs:List V):It:=#[λi H=>i<xs.length/\SqL K H a xs,λi H x H'=>H'=H/\xs.reverse[i]?=some x,λi H=>i=xs.length/\SqL K H a xs]
def DC{w:LU}{K:W.Frag}(a it:LN):Turn P w K tg (Itv K a xs) [it] it (λi h=>h.IsRevIter it a ((xs.length:Int)-1-(i:Nat))) where
 mem:=Zj.mpr rfl
 obj:=λi h st b hb=>by obtain rfl:b=it:=Zj.mp hb;exists[o,e,c,d],st;exact#[o,e,λv z=>by rw[d]at z;cases z]
 keep:=λi h h' st k=>st.at λo e=>k it (Zj.mpr rfl) o e
 item:=by
  intro X hP hw hK hc i L4 s σ H E I hf st hg;subst hP hw hK;exists[hi,hq],hg;exists[its,rv,p,hz],I.list hq;have hl:=rv.length;have hx:xs[xs.length-1-i]?=some xs[xs.length-1-i]:=z9 ∅;exists[u,hu,ru],rv.get hx;exists[f0,f1,f2,f3,f4,f5],hf it (Zj.mpr rfl);have st1:s.heap.IsRevIter it a ((xs.length-1-i:Nat):Int):=by rw[show((xs.length-1-i:Nat):Int)=(xs.length:Int)-1-(i:Nat) by omega];exact st
  refine wpAny_pyNext_rev_item st1 p.isList (x:=u) (by simpa using hu) λh' st' sb=>?_;have I1:Inv X L4 σ H { s with heap:=h' }:=I.turned (t':=s.toks) (λb o hb e=>(sb.2 b hb).trans e) f0 f1 f3 f4 f5;exists[o,e,c,d],id st';rw[show((xs.length-1-i:Nat):Int)-1=(xs.length:Int)-1-((i+1:Nat):Int) by omega]at st';exact#[u,rfl,mh (s:={ s with heap:=h' }) e c d ⋯ #[_,H,I1,ru,#[rfl,by rw[YF hi];exact hx],st',λb hb=>(hf b hb).1]]
 done:=by intro X hP hw hK hc i L4 s σ H E I hf st hg;subst hP hw hK;exists[rfl,hq],hg;exists[f0,f1,f2,f3,f4,f5],hf it (Zj.mpr rfl);rw[show(xs.length:Int)-1-((xs.length:Nat):Int)=-1 by omega]at st;exact wpAny_pyNext_rev_end (I.ok.hd hc) st λh' eb=>#[rfl,I.turned (t':=s.toks) (λb o hb e=>eb b o hb e) f0 f1 f3 f4 f5]
 self:=λ_ _ _ _ _ st h=>wpAny_pyIter_revIter st h
def GN(K:W.Frag)(ta:TA):TI:=λσ H R=>ta σ H λvs H1=>∃a xs,vs=[.ref a]/\SqL K H1 a xs/\R (Itv K a xs) H1
section
variable{X:Cx}
def tZ:bootBuiltins "reversed" = some (.type "reversed"):=⋯
def HV(hg:Gl X "reversed")(hm:X.mg "reversed" = none)(ha:PA X [e1] ta)(n1:aK e1=true):PI X tg (.Call (.Name "reversed" p) [e1] [] pos) (GN X.K ta):=by
 intro L4 s σ H R I h;refine Call_ (cV I hg hm tZ (Z5 (thn (ha pos L4 s σ H _ I h) λus s1 hz9=>?_) (aI n1) (bE (by simp))));exists[vs,H1,I1,r1,q1],hz9;exists[a,xs,e,hx,q],q1;subst e;exists[ua,rfl,ra],bG r1;cases ra;exists[its,rv,pl,hz],I1.list hx;have hl:=rv.length;refine call_reversed_list pl.isList (wpAny_pyIter_revIter #[_,Zk _ rfl,rfl,rfl] ?_);refine#[s1.heap.objs.size,[s1.heap.objs.size],_,_,H1,rfl,I1.kept (t':=s1.toks) λb o e=>Za _ e,DC (xs:=xs) a _,#[_,Zk _ rfl,rfl,?_],λb hb=>?_,q]
 ·show Data.fields (List.toArray [.ref a,rawInt ((its.toArray.size:Int)-1)])=_;rw[Zh,<-hl];simp
 ·obtain rfl:=Zj.mp hb;exact I1.fpOk (Ze _) (I1.hok.fresh (Ze _))
def DV(hm:X.mg "reversed" = none)(ha:QA X [e1] ta)(hg:Gl X "reversed":=by rfl)(n1:aK e1=true:=by rfl):QI X tg (.Call (.Name "reversed" p) [e1] [] pos) (GN X.K ta):=#[HV hg hm ha.h n1]
end
section
variable{A:LV}{s:LO}{r:LN}
def uU:typeLookup (.type "list_reverseiterator") "__len__" = pure none:=by rw[typeLookup_type,builtinLookup_eq_fast];kernel_rfl
def sj:typeLookup (.type "list_reverseiterator") "__length_hint__" = pure (some (.builtin "list_reverseiterator.__length_hint__")):=by rw[typeLookup_type,builtinLookup_eq_fast];kernel_rfl
def B9{Q:Bool->LO->Prop}(hT:s.TypeIs (.ref r) "list_reverseiterator")(h:Q false s):wpAny (model prog w) A (Builtin.List.listLengthHint (.ref r)) Q E s:=by
 unfold Builtin.List.listLengthHint;refine z6 (wpAny_specialOf hT uU ?_);dsimp only;refine wpAny_ite_split (λhab=>absurd hab ⋯) (λ_=>?_);refine wpAny_ite_split (λhab=>absurd hab ⋯) (λ_=>?_);refine z6 (wpAny_specialOf hT sj ?_);generalize hid:("list_reverseiterator.__length_hint__":String)=id0
 wp_delta
 rw[show splitId id0=some ("list_reverseiterator","__length_hint__")from by subst hid;decide +kernel];subst hid;refine z6 (wpAny_isInstance (T:="list_reverseiterator") (b:=true) hT (by rw[isSubtype_type];kernel_rfl) ?_);refine wpAny_ite_split (λhab=>absurd hab ⋯) (λ_=>?_);refine wpAny_ite_split (λ_=>?_) (λhab=>absurd ⋯ hab);refine wpAny_ite_split (λhab=>absurd hab ⋯) (λ_=>?_);exact Zb h
abbrev RvP(items:Array LP):Nat->LP->Prop:=λi v=>items[items.size-1-i]?=some v
abbrev jp(xs:Array LP)(c:Nat):Obj:={ cls:=.type "list",dict:=none,data:=.seq xs c,slots:=#[] }
def EK{R:Result->LO->Prop}{S c0:Nat}(hh:A.handled=none)(hl:s.heap.IsList d items)(hr:s.heap.IsRevIter r d ((items.size:Int)-1))(hne:d≠r)(hSr:S≠r)(hSd:S≠d)(hS:s.heap.get? S=some (jp #[] c0))(hR:∀h' tk acc c,(∀b o,b≠S->b≠r->s.heap.get? b=some o->h'.get? b=some o)->h'.get? S=some (jp acc c)->ItemsOf (RvP items) acc items.size->R (.ok (.ret .none)) { s with heap:=h',toks:=tk })(hn:items.size<=sizeLine):
  wpAny (model prog w) A.in1 (Builtin.List.listExtendWith (.ref S) (.ref r) .none)
   (λfin s'=>match fin with|.done f=>R (.ok f) s'|.again c'=>c'.quiet=true/\codeAny (model prog w) A c' R s') (λe s'=>R (.error e) s') s:=by
 have W:=Walks.listRev (prog:=prog) (w:=w) (A:=A.in1) hh r d hne items;have hSf:S∉[r,d]:=λz=>by
  rcases Zf.mp z with z|z
  ·exact hSr z
  ·exact hSd (Zj.mp z)
 have st0:∀h:Heap,h.IsRevIter r d ((items.size:Int)-1)->h.IsList d items->0<=items.size/\h.IsRevIter r d ((items.size:Int)-1-((0:Nat):Int))/\h.IsList d items:=λh z1 z2=>#[Zy _,by rw[show(items.size:Int)-1-((0:Nat):Int)=(items.size:Int)-1 by omega];exact z1,z2]
 have key:∀(h:Heap) (c1 tk:Nat),h.IsRevIter r d ((items.size:Int)-1)->h.IsList d items->(∀b o,b≠S->s.heap.get? b=some o->h.get? b=some o)->h.get? S=some (jp #[] c1) ->
   codeAny (model prog w) A (.builtin "list.extend.loop" #[[.ref S,.ref r,.none],[]]) R { s with heap:=h,toks:=tk }:=λh c1 tk z1 z2 hk hS1=>by
  refine codeAny_extend_loopS W.toS hn S hSf .none items.size 0 _ #[] c1 rfl (Zy _) (st0 h z1 z2) hS1 (ItemsOf.nil _) λs' acc c hm hS' hacc=>?_;rw[Moved.eq_with hm];refine hR s'.heap s'.toks acc c (λb o hb hb2 e=>hm.heap b o (λz=>?_) (hk b o hb e)) hS' hacc;rcases Zf.mp z with z|z
  ·exact hb z
  ·exact hb2 (Zj.mp z)
 unfold Builtin.List.listExtendWith;refine z6 (wpAny_typeOf (T:="list_reverseiterator") hr.typeIs ?_);have n1:Builtin.List.listSameRef (.ref S) (.ref r)=false:=by simp[Builtin.List.listSameRef,hSr]
 have n2:(Value.type "list_reverseiterator" == Value.type "list")=false:=⋯
 have n3:(Value.type "list_reverseiterator" == Value.type "tuple")=false:=⋯
 simp only[n1,n2,n3,Bool.or_false,y6,YH];refine z6 (wpAny_pyIter_revIter hr (z6 (Z2 (B9 hr.typeIs ?_))));refine wpAny_ite_split (λ_=>?_) (λ_=>Zb #[plainId_quiet PySem.F.plain_extend_loop _,key _ c0 _ hr hl (λb o _ e=>e) hS]);refine z6 (Yv (z6 ?_));show wpAny _ _ (updateSeq S (·.push .none) >>= λ_=>updateSeq S (·.pop)) _ _ _;have hS2:=YR (Obj.mapSeq (·.push Value.none)) hS rfl;refine z6 (wpAny_updateSeq hS rfl (wpAny_updateSeq (hz:=by seq_fits) hS2 rfl ?_));have hS3:=YR (Obj.mapSeq (·.pop)) hS2 rfl;have oth:∀b o,b≠S->s.heap.get? b=some o->((s.heap.update S (Obj.mapSeq (·.push Value.none))).update S (Obj.mapSeq (·.pop))).get? b=some o:=λb o hb e=>(Y3 _ _ hb.symm).trans ((Y3 _ _ hb.symm).trans e);exact Zb #[plainId_quiet PySem.F.plain_extend_loop _,key _ _ _ (hr.at λo e=>oth _ o hSr.symm e) (hl.at λo e=>oth _ o hSd.symm e) oth hS3]
def sf{Q:LK}(hh:A.handled=none)(hl:s.heap.IsList d items)(hr:s.heap.IsRevIter r d ((items.size:Int)-1))(hne:d≠r)(hn:items.size<=sizeLine)(hQ:∀h' tk acc c,(∀b o,b≠r->s.heap.get? b=some o->h'.get? b=some o)->h'.get? s.heap.objs.size=some (jp acc c)->ItemsOf (RvP items) acc items.size->Q (.ref s.heap.objs.size) { s with heap:=h',toks:=tk }):
  wpAny (model prog w) A (call (.type "list") [.ref r]) Q E s:=by
 refine callType_codes (Q₁:=λobj s1=>obj=.ref s.heap.objs.size/\s1={ s with heap:=s.heap.push (jp #[] 0) }) PySem.F.called_list (PySem.F.typeCall_list_1 _) PySem.F.entry_list_init (code_list_new _ #[rfl,rfl]) λobj s1 z=>?_;exists[rfl,rfl],z;have hS:(s.heap.push (jp #[] 0)).get? s.heap.objs.size=some (jp #[] 0):=Zk _ rfl;have lr:r<s.heap.objs.size:=let⟨_,ho,_⟩:=hr;Zr ho
 have ld:d<s.heap.objs.size:=let⟨_,ho,_⟩:=hl;Zr ho
 refine#[#[_,hS,rfl],PySem.F.args_list_init_2 _ _,?_];show wpAny _ _ (do let old ←Builtin.List.listItems (.ref s.heap.objs.size);Builtin.List.listUpdate (.ref s.heap.objs.size) (λ_=>#[]);letGo old.toList.reverse;Builtin.List.listExtendWith (.ref s.heap.objs.size) (.ref r) .none) _ _ _;refine z6 ?_;unfold Builtin.List.listItems;refine z6 (Y1 hS rfl (Zb ?_));show wpAny _ _ (updateSeq s.heap.objs.size (λ_=>#[]) >>= λ_=>letGo (#[]:Array LP).toList.reverse >>= λ_=>Builtin.List.listExtendWith (.ref s.heap.objs.size) (.ref r) .none) _ _ _;have hS2:=YR (Obj.mapSeq (λ_=>(#[]:Array LP))) hS rfl;have oth:∀b o,s.heap.get? b=some o->((s.heap.push (jp #[] 0)).update s.heap.objs.size (Obj.mapSeq (λ_=>(#[]:Array LP)))).get? b=some o:=λb o e=>(Y3 _ _ (ZV (Zr e))).trans (Za _ e);refine z6 (wpAny_updateSeq hS rfl (z6 (wpAny_letGo ?_)));refine EK (A:=A.in1) hh (hl.at λo e=>oth _ o e) (hr.at λo e=>oth _ o e) hne (ZV lr) (ZV ld) hS2 (λh' tk acc c hk hS' hacc=>?_) hn;exact#[rfl,hQ h' tk acc c (λb o hb e=>hk b o (Zx (Zr e)) hb (oth b o e)) hS' hacc]
end
section
variable{X:Cx}
def Dx(K:W.Frag)(ta:TA):TE:=λσ H0 Q=>ta σ H0 λvs H=>∃(l:LN) (xs:List V),vs=[.ref l]/\SqL K H l xs/\∀p,H p=none->Q (.ref p) (upd H p (.lst xs.reverse))
def Bf(hc:X.calm=true)(hm:X.mg "list" = none)(hm2:X.mg "reversed" = none)(ha:QA X [e] ta)(hg:Gl X "list":=by rfl)(hg2:Gl X "reversed":=by rfl)(hn:aK e=true:=by rfl):
  QE X (.Call (.Name "list" p) [.Call (.Name "reversed" p2) [e] [] pos2] [] pos) (Dx X.K ta):=by
 refine#[?_];intro L4 s σ H0 Q I h;refine Ya (cV I hg hm kC (Z5 ?_ (aI rfl) (bE (by simp))));rw[aI rfl];show wpAny _ _ (spliced ((false,eval (.Call (.Name "reversed" p2) [e] [] pos2) X.env)::backTo pos (starEach [] X.env))) _ _ s;refine Y4 ?_;refine Ya (cV I hg2 hm2 tZ (Z5 (thn (ha.h pos2 L4 s σ H0 _ I h) λus s1 hz9=>?_) (aI hn) (bE (by simp))));exists[vs,H1,I1,r1,q1],hz9;exists[l,xs,rfl,hx,q],q1;exists[ua,rfl,ra],bG r1;cases ra;exists[its,rv,pl,hz],I1.list hx;have hl:=rv.length;refine call_reversed_list pl.isList ?_;refine Calls.spliced_nil ?_;have lt:l<s1.heap.objs.size:=let⟨_,ho,_⟩:=pl.isList;Zr ho
 have zS:(s1.heap.push (revObj l ((its.toArray.size:Int)-1))).objs.size=s1.heap.objs.size+1:=size_push' ..;refine sf (s:={ s1 with heap:=s1.heap.push (revObj l ((its.toArray.size:Int)-1)) }) (d:=l) (r:=s1.heap.objs.size) (I1.ok.hd hc) (pl.isList.at λo e=>Za _ e) #[_,Zk _ rfl,rfl,rfl] (Zx lt) (by rw[Zh,<-hl];exact hz) λh' tk acc c hk hS hacc=>?_;have hS':h'.get? (s1.heap.objs.size+1)=some (jp acc c):=by rw[<-zS];exact hS
 show EP X L4 σ Q (.ref (s1.heap.push (revObj l ((its.toArray.size:Int)-1))).objs.size) _;rw[zS];have fr:aZ X L4 H1 s1.heap.objs.size:=I1.fpOk (Ze _) (I1.hok.fresh (Ze _));have fS:aZ X L4 H1 (s1.heap.objs.size+1):=I1.fpOk (YA _) (I1.hok.fresh (YA _));have km:∀b u,b≠s1.heap.objs.size->s1.heap.get? b=some u->h'.get? b=some u:=λb u hb g=>hk b u hb (Za _ g);have nsL:∃m,s1.heap.Ns X.env.locals m/\h'.Ns X.env.locals m:=by exists[m,hn,_],I1.loc;exists[o,es,ep,ho,rr],id hn;exact#[m,hn,o,es,ep,km _ _ fr.2.1.symm ho,rr]
 have ea:acc.toList=its.reverse:=by
  exists[z1,z2],hacc;have z1':acc.size=its.length:=by rw[z1,Zh]
  refine Ye (by rw[Zu,z1',YM]) λi h1 h2=>?_;have hi:i<its.length:=by rw[<-YM];exact h2
  have z3:its.toArray[its.toArray.size-1-i]?=some acc[i]:=z2 i acc[i] (Yf (by rw[z1'];exact hi));rw[Zh,List.getElem?_toArray,z9 ∅]at z3;rw[List.getElem_reverse,Array.getElem_toList];exact(ZB z3).symm
 have new:ObjOk X.prog X.w (upd H1 (s1.heap.objs.size+1) (.lst xs.reverse)) h' (s1.heap.objs.size+1) (.lst xs.reverse):=#[by rw[YM];exact hz,its.reverse,c,rv.reverse,by rw[<-ea,Array.toArray_toList];exact hS']
 have I4:=Inv.tookF (ch:=[s1.heap.objs.size+1,s1.heap.objs.size]) (a:=s1.heap.objs.size+1) (o:=.lst xs.reverse) (t':=tk) I1 (by simp) (λb hb=>by
  simp only[Zf,Zz,ZY]at hb;rcases hb with rfl|rfl
  ·exact fS
  ·exact fr) (λb u _ hx gg=>km b u (λzz=>hx (by simp[zz])) gg) nsL new
 exact#[.ref _,_,I4,rfl,q _ fS.1]
end
open Classical in
noncomputable def eV(h:Heap)(dx:PyData)(u:LP):Bool:=decide (∃d as,Reads h u d as/\PyData.canLay0 d=true/\PyData.eqv d dx=true)
open Classical in
def md(r:Reads h u d as)(hl:d.canLay0=true):eV h dx u=PyData.eqv d dx:=by
 unfold eV;cases e:PyData.eqv d dx with
 |true=>exact decide_eq_true #[d,as,r,hl,e]
 |false =>refine decide_eq_false ?_;rintro⟨d',as',r',l',e'⟩;rw[SeqAt.Reads.unique d d' u as as' hl r r',e']at e;cases e
section
theorem gB(ok:HOk P w H h):∀{ds:List PyData} {xs:List V} {us:LM},DtAll H ds xs->Vals xs us->PyData.canLayAll0 ds=true->∀dx:PyData,us.any (eV h dx)=ds.any (λd=>PyData.eqv d dx)/\us.countP (eV h dx)=ds.countP (λd=>PyData.eqv d dx)/\∀u∈us,∃d as,d∈ds/\Reads h u d as/\d.canLay0=true
 | [],xs,us,hd,r,_,dx=>by
  have e:xs=[]:=by simpa only[DtAll]using hd
  subst e;cases r;exact#[rfl,rfl,λu hu=>nomatch hu]
 |d::ds,xs,us,hd,r,hl,dx=>by
  have e:∃y ys,xs=y::ys/\Dt H d y/\DtAll H ds ys:=by simpa only[DtAll]using hd
  exists[y,ys,rfl,h1,h2],e;cases r with
  |cons r1 r2 =>
   have hl':d.canLay0=true/\PyData.canLayAll0 ds=true:=by simpa[PyData.canLayAll0]using hl
   exists[as,q1],Dt.reads ok d y _ h1 r1;exists[i1,i2,i3],gB ok h2 r2 hl'.2 dx;refine#[by rw[YQ,YQ,md q1 hl'.1,i1],by rw[List.countP_cons,List.countP_cons,md q1 hl'.1,i2],λu hu=>?_];rcases Zf.mp hu with rfl|hu
   ·exact#[d,as,by simp,q1,hl'.1]
   ·exists[d',as',m,z],i3 u hu;exact#[d',as',by simp[m],z]
end
section
variable{X:Cx}
def vq(K:W.Frag)(neg:Bool):R2:=λx y H Q=>∃(p:LN) (xs:List V) (dx:PyData) (ds:List PyData),y=.ref p/\SqL K H p xs/\Dt H dx x/\DtAll H ds xs/\SeqAt.shaped dx=true/\PyData.canLayAll0 ds=true/\Q (.bl (if neg then !(ds.any λd=>PyData.eqv d dx)else ds.any λd=>PyData.eqv d dx)) H
def kF{A:LV}(I:Inv X L4 σ H s)(hu:A.units+64<cLine)(h1:Dt H dx x)(rx:RelV x v)(h2:DtAll H ds xs)(r:Vals xs us)(s1:SeqAt.shaped dx=true)(s2:PyData.canLayAll0 ds=true):∀u∈us,SeqAt.EqAt A s u v (eV s.heap dx u):=λu hu'=>by exists[_,_,z],gB I.hok h2 r s2 dx;exists[d,as,_,q1,q2],z u hu';exists[bs,q3],Dt.reads I.hok dx x v h1 rx;rw[md q1 q2];refine SeqAt.eqAt_reads d dx A s u v as bs q1 q3 q2 (SeqAt.canLay_of_shaped s1) ?_;have d1:=SeqAt.depth_of_shaped s1;have d2:min d.depth dx.depth<=dx.depth:=Nat.min_le_right _ _;omega
def Hn(hu:X.A.in1.units+64<cLine):OpR X (compareOp .In) (vq X.K false):=by intro L4 s σ H x y v u Q I rx ry h;exists[p,xs,dx,ds,rfl,hq,h1,h2,s1,s2,q],h;cases ry;exists[its,r,pl,hz],I.list hq;refine SeqAt.in_listAt (eV s.heap dx) pl.isList (λw hw=>kF I hu h1 rx h2 r s1 s2 w (by simpa using hw)) #[.bl _,H,I,rfl,?_];rw[show its.toArray.any (eV s.heap dx)=its.any (eV s.heap dx) by simp,(gB I.hok h2 r s2 dx).1];exact q
def A3(hu:X.A.in1.units+64<cLine):OpR X (compareOp .NotIn) (vq X.K true):=by intro L4 s σ H x y v u Q I rx ry h;exists[p,xs,dx,ds,rfl,hq,h1,h2,s1,s2,q],h;cases ry;exists[its,r,pl,hz],I.list hq;refine SeqAt.notIn_listAt (eV s.heap dx) pl.isList (λw hw=>kF I hu h1 rx h2 r s1 s2 w (by simpa using hw)) #[.bl _,H,I,rfl,?_];rw[show its.toArray.any (eV s.heap dx)=its.any (eV s.heap dx) by simp,(gB I.hok h2 r s2 dx).1];exact q
def Jo{k:Nat}(hr:Room k X.A):QOp X (compareOp .In) (vq X.K false):=#[Hn (by have:=hr.un;show X.A.units+_+64<_;omega)]
def Cy{k:Nat}(hr:Room k X.A):QOp X (compareOp .NotIn) (vq X.K true):=#[A3 (by have:=hr.un;show X.A.units+_+64<_;omega)]
end
def tH(K:W.Frag)(a b:LN)(xs ys:List V):It :=
 #[λi H=>i<xs.length/\SqL K H a xs/\SqL K H b ys,λi H x H'=>∃T p q,H T=none/\xs[i]?=some p/\ys[i]?=some q/\x=.ref T/\H'=upd H T (.tup [p,q]),λi H=>i=xs.length/\SqL K H a xs/\SqL K H b ys]
abbrev IS(z u v i1 i2 a b:LN):Nat->Heap->Prop:=λi h=>IsZip h z u v .none/\IsPair h u (.ref i1) (.ref i2)/\(∃p q,IsPair h v p q)/\h.IsListIter i1 a i/\h.IsListIter i2 b i
def BI{w:LU}{K:W.Frag}{kt:Nat}{xs ys:List V}(hl:xs.length=ys.length)(D:[z,u,v,i1,i2].Nodup)(ha:∀c∈[z,u,v,i1,i2],c≠a/\c≠b):
  Turn P w K (.Tuple elts kt tp) (tH K a b xs ys) [z,u,v,i1,i2] z (IS z u v i1 i2 a b):=by
 have nd:(z≠u/\z≠v/\z≠i1/\z≠i2)/\(u≠v/\u≠i1/\u≠i2)/\(v≠i1/\v≠i2)/\i1≠i2:=by simpa using D
 obtain⟨⟨zu,zv,z1,z2⟩,⟨uv,u1,u2⟩,⟨v1,v2⟩,i12⟩:=nd;have az:=ha z (by simp);have av:=ha v (by simp);have a1:=ha i1 (by simp);have a2:=ha i2 (by simp);have ap:ZAp z u v i1 i2 [i1,a] [i2,b]:=#[zu.symm,zv.symm,uv,u1,u2,v1,v2,z1.symm,z2.symm,i12,by simp[z1,az.1],by simp[z2,az.2],by simp[v1,av.1],by simp[v2,av.2],by simp[i12.symm,a2.1],by simp[i12,a1.2]]
 refine#[by simp,λi h st c hc=>?_,λi h h' st k=>?_,?_,?_,λA i s Q E st h=>wpAny_pyIter_zip st.1 h]
 ·obtain⟨e1,e2,⟨p,q,e3⟩,⟨o4,e4,_,d4⟩,⟨o5,e5,_,d5⟩⟩:=st;simp only[Zf,Zz,ZY]at hc;rcases hc with rfl|rfl|rfl|rfl|rfl
  ·exact#[_,e1,λv z=>nomatch z]
  ·exact#[_,e2,λv z=>nomatch z]
  ·exact#[_,e3,λv z=>nomatch z]
  ·exact#[_,e4,λv z=>by rw[d4]at z;cases z]
  ·exact#[_,e5,λv z=>by rw[d5]at z;cases z]
 ·obtain⟨e1,e2,⟨p,q,e3⟩,⟨o4,e4,r4⟩,⟨o5,e5,r5⟩⟩:=st;exact#[k z (by simp) _ e1,k u (by simp) _ e2,#[p,q,k v (by simp) _ e3],#[o4,k i1 (by simp) _ e4,r4],#[o5,k i2 (by simp) _ e5,r5]]
 ·intro X hP hw hK hc i L4 s σ H E I hf st hg;subst hP hw hK;obtain⟨e1,e2,⟨p,q,e3⟩,e4,e5⟩:=st;exists[hi,hx,hy],hg;exists[its,rx,px,zx],I.list hx;exists[jts,ry,py,zy],I.list hy;have lx:i<its.toArray.size:=by rw[Zh,<-rx.length];exact hi
  have ly:i<jts.toArray.size:=by rw[Zh,<-ry.length,<-hl];exact hi
  have hh:=I.ok.hd hc;have hT:s.TypeIs (.ref z) "zip":=#[_,e1,rfl]
  unfold pyNext;refine z6 (wpAny_attempt (Z0 (name:=Str.ofString "__next__") hT YT (ZT YT hT F.entry_zip_next
   (vV (Draws.list (A:=X.A.in1) hh i1 a a1.1.symm its.toArray) (Draws.list (A:=X.A.in1) hh i2 b a2.2.symm jts.toArray) ap e1 e2 e3 #[e4,px.isList] #[e5,py.isList] lx ly λh' tk x y qx qy zz vv s1 s2 pp kp=>Zb ?_) (F.args_zip_next_1 _))))
  refine#[_,rfl,wpAny_letOwnedTupleGo_zip (s:={ s with heap:=h',toks:=tk }) zz λh2 z2' sb=>?_];obtain⟨xv,ex⟩:∃xv,xs[i]?=some xv:=#[xs[i],by simp[hi]]
  obtain⟨yv,ey⟩:∃yv,ys[i]?=some yv:=#[ys[i]'∅,by simp[show i<ys.length by omega]]
  exists[x',gx,rxv],rx.get ex;exists[y',gy,ryv],ry.get ey;have qx':its[i]?=some x:=by simpa using qx
  have qy':jts[i]?=some y:=by simpa using qy
  rw[gx]at qx';rw[gy]at qy';cases qx';cases qy';have ltz:z<s.heap.objs.size:=Zr e1;have kp2:∀c o,c∉[z,u,v,i1,i2]->s.heap.get? c=some o->h2.get? c=some o:=λc o hc e=>by simp only[Zf,Zz,ZY,not_or]at hc;exact sb.extBut c o hc.1 (kp c o hc.1 hc.2.2.1 hc.2.2.2.1 hc.2.2.2.2 e)
  have tT:IsTup h2 s.heap.objs.size [x,y].toArray:=#[_,sb.extBut _ _ (ZV ltz) pp,rfl,_,rfl]
  refine#[.ref s.heap.objs.size,upd H s.heap.objs.size (.tup [xv,yv]),I.turnT (t':=tk) hf kp2 tT (.cons rxv (.cons ryv .nil)) (sz rfl),rfl,#[_,xv,yv,I.hok.fresh (Ze _),ex,ey,rfl,rfl],?_,λc hc=>?_]
  ·exact#[z2',sb.extBut _ _ zu.symm (kp _ _ zu.symm uv u1 u2 e2),#[_,_,sb.extBut _ _ zv.symm vv],s1.1.extBut sb.extBut z1.symm,s2.1.extBut sb.extBut z2.symm]
  ·rw[ag]
   ·exact(hf c hc).1
   ·obtain⟨o,eo,_⟩:∃o,s.heap.get? c=some o/\True:=by
     simp only[Zf,Zz,ZY]at hc;rcases hc with rfl|rfl|rfl|rfl|rfl
     ·exact#[_,e1,trivial]
     ·exact#[_,e2,trivial]
     ·exact#[_,e3,trivial]
     ·exists[o,eo,_],e4;exact#[o,eo,trivial]
     ·exists[o,eo,_],e5;exact#[o,eo,trivial]
    exact Zx (Zr eo)
 ·intro X hP hw hK hc i L4 s σ H E I hf st hg;subst hP hw hK;obtain⟨e1,e2,⟨p,q,e3⟩,e4,e5⟩:=st;exists[rfl,hx,hy],hg;exists[its,rx,px,zx],I.list hx;exists[jts,ry,py,zy],I.list hy;have lx:its.toArray.size=xs.length:=by rw[Zh,<-rx.length]
  have hh:=I.ok.hd hc;have hT:s.TypeIs (.ref z) "zip":=#[_,e1,rfl]
  unfold pyNext;refine z6 (wpAny_attempt (Z0 (name:=Str.ofString "__next__") hT YT (ZT YT hT F.entry_zip_next
   (xP (Draws.list (A:=X.A.in1) hh i1 a a1.1.symm its.toArray) (Draws.list (A:=X.A.in1) hh i2 b a2.2.symm jts.toArray) ap e1 e2 e3 #[by rw[lx];exact e4,px.isList] λh' e kp he=>?_) (F.args_zip_next_1 _))))
  exists[o,ho,hco],he;refine z6 (wpAny_isInstance (T:="StopIteration") (b:=true) #[o,ho,hco] isSubtype_stop (Zb #[rfl,?_]));exact I.turnM (t':=s.toks) hf λc ob hc e=>by simp only[Zf,Zz,ZY,not_or]at hc;exact kp c ob hc.1 hc.2.2.1 hc.2.2.2.1 hc.2.2.2.2 e
def yw(l1 l2:LN)(xs ys:Array LP) :
  Meets (Builtin.«zip.__new__» #[[.type "zip",.ref l1,.ref l2],[]]) (λ_ R s=>s.heap.IsList l1 xs/\s.heap.IsList l2 ys /\
   R (.ok (.ret (.ref ((((s.heap.push { cls:=.type "list_iterator",data:=.fields (List.toArray [.ref l1,.int 0 0]) }).push { cls:=.type "list_iterator",data:=.fields (List.toArray [.ref l2,.int 0 0]) }).push { cls:=.type "tuple",data:=.seq (List.toArray [.ref s.heap.objs.size,.ref (s.heap.push { cls:=.type "list_iterator",data:=.fields (List.toArray [.ref l1,.int 0 0]) }).objs.size]) }).push { cls:=.type "tuple",data:=.seq (List.toArray [.none,.none]) }).objs.size)))
    { s with heap:=((((s.heap.push { cls:=.type "list_iterator",data:=.fields (List.toArray [.ref l1,.int 0 0]) }).push { cls:=.type "list_iterator",data:=.fields (List.toArray [.ref l2,.int 0 0]) }).push { cls:=.type "tuple",data:=.seq (List.toArray [.ref s.heap.objs.size,.ref (s.heap.push { cls:=.type "list_iterator",data:=.fields (List.toArray [.ref l1,.int 0 0]) }).objs.size]) }).push { cls:=.type "tuple",data:=.seq (List.toArray [.none,.none]) }).push { cls:=.type "zip",data:=.fields (List.toArray [.none,.bool false,.bool false,.ref ((s.heap.push { cls:=.type "list_iterator",data:=.fields (List.toArray [.ref l1,.int 0 0]) }).push { cls:=.type "list_iterator",data:=.fields (List.toArray [.ref l2,.int 0 0]) }).objs.size,.ref (((s.heap.push { cls:=.type "list_iterator",data:=.fields (List.toArray [.ref l1,.int 0 0]) }).push { cls:=.type "list_iterator",data:=.fields (List.toArray [.ref l2,.int 0 0]) }).push { cls:=.type "tuple",data:=.seq (List.toArray [.ref s.heap.objs.size,.ref (s.heap.push { cls:=.type "list_iterator",data:=.fields (List.toArray [.ref l1,.int 0 0]) }).objs.size]) }).objs.size]) } }) :=
 .of_wp λprog w A R s h=>by
  exists[hp,g,d,tk,os],s;exists[t1,t2,h],h;have hsub:=sub_zip;have T1:Heap.IsList (Shared.heap #[hp,g,d,tk,os]) l1 xs:=t1;have T2:Heap.IsList (Shared.heap #[hp.push { cls:=.type "list_iterator",data:=.fields (List.toArray [.ref l1,.int 0 0]) },g,d,tk,os]) l2 ys:=Heap.IsList.push t2 _
  wp_walk using wpAny_pyIter_list T1,wpAny_pyIter_list T2
  exact#[_,rfl,h]
def DU(K:W.Frag)(ta:TA):TI:=λσ H R=>ta σ H λvs H1=>∃a b xs ys,vs=[.ref a,.ref b]/\SqL K H1 a xs/\SqL K H1 b ys/\xs.length=ys.length/\R (tH K a b xs ys) H1
section
variable{X:Cx}
def Fz{kt:Nat}(hg:Gl X "zip")(hm:X.mg "zip" = none)(ha:PA X [e1,e2] ta)(n1:aK e1=true)(n2:aK e2=true):PI X (.Tuple elts kt tp) (.Call (.Name "zip" p) [e1,e2] [] pos) (DU X.K ta):=by
 intro L4 s σ H R I h;refine Call_ (cV I hg hm boot_zip (Z5 (thn (ha pos L4 s σ H _ I h) λus s1 hz9=>?_) (aI n1) (bE (by simp[n2]))));exists[vs,H1,I1,r1,q1],hz9;exists[a,b,xs,ys,e,hx,hy,hl,q],q1;subst e;exists[ua,ub,rfl,ra,rb],fW r1;cases ra;cases rb;exists[its,rx,px,zx],I1.list hx;exists[jts,ry,py,zy],I1.list hy;refine callType_new F.called_zip ⋯ (F.typeCall_zip_2 _ _) (F.newCall_zip_2 _ _) (λobj=>F.args_object_init_3 obj _ _) F.entry_zip_new (yw a b its.toArray jts.toArray) #[px.isList,py.isList,?_];generalize ea:({ cls:=.type "list_iterator",data:=.fields (List.toArray [.ref a,.int 0 0]) }:Obj)=oa;generalize eb:({ cls:=.type "list_iterator",data:=.fields (List.toArray [.ref b,.int 0 0]) }:Obj)=ob;have z1:(s1.heap.push oa).objs.size=s1.heap.objs.size+1:=Yz ..;have z2:((s1.heap.push oa).push ob).objs.size=s1.heap.objs.size+2:=by rw[Yz,z1]
 rw[z2,z1];generalize eu:({ cls:=.type "tuple",data:=.seq (List.toArray [.ref s1.heap.objs.size,.ref (s1.heap.objs.size+1)]) }:Obj)=ou;have z3:(((s1.heap.push oa).push ob).push ou).objs.size=s1.heap.objs.size+3:=by rw[Yz,z2]
 generalize ev:({ cls:=.type "tuple",data:=.seq (List.toArray [.none,.none]) }:Obj)=ov;have z4:((((s1.heap.push oa).push ob).push ou).push ov).objs.size=s1.heap.objs.size+4:=by rw[Yz,z3]
 rw[z4,z3];generalize ez:({ cls:=.type "zip",data:=.fields (List.toArray [.none,.bool false,.bool false,.ref (s1.heap.objs.size+2),.ref (s1.heap.objs.size+3)]) }:Obj)=oz;have g5:(((((s1.heap.push oa).push ob).push ou).push ov).push oz).get? (s1.heap.objs.size+4)=some oz:=by rw[<-z4];exact Zk _ (by rw[<-ez];rfl)
 have g4:(((((s1.heap.push oa).push ob).push ou).push ov).push oz).get? (s1.heap.objs.size+3)=some ov:=by rw[<-z3];exact Za _ (Zk _ (by rw[<-ev];rfl))
 have g3:(((((s1.heap.push oa).push ob).push ou).push ov).push oz).get? (s1.heap.objs.size+2)=some ou:=by rw[<-z2];exact Za _ (Za _ (Zk _ (by rw[<-eu];rfl)))
 have g2:(((((s1.heap.push oa).push ob).push ou).push ov).push oz).get? (s1.heap.objs.size+1)=some ob:=by rw[<-z1];exact Za _ (Za _ (Za _ (Zk _ (by rw[<-eb];rfl))))
 have g1:(((((s1.heap.push oa).push ob).push ou).push ov).push oz).get? s1.heap.objs.size=some oa:=Za _ (Za _ (Za _ (Za _ (Zk _ (by rw[<-ea];rfl)))));have kp:∀c o,s1.heap.get? c=some o->(((((s1.heap.push oa).push ob).push ou).push ov).push oz).get? c=some o:=λc o e=>Za _ (Za _ (Za _ (Za _ (Za _ e))));generalize((((s1.heap.push oa).push ob).push ou).push ov).push oz=hN at g1 g2 g3 g4 g5 kp ⊢;have I2:Inv X L4 σ H1 { s1 with heap:=hN }:=I1.kept (t':=s1.toks) kp;have la:a<s1.heap.objs.size:=(let⟨_,ho,_⟩:=px.isList;Zr ho)
 have lb:b<s1.heap.objs.size:=(let⟨_,ho,_⟩:=py.isList;Zr ho)
 subst ea eb eu ev ez;have base:∀c∈[s1.heap.objs.size+4,s1.heap.objs.size+2,s1.heap.objs.size+3,s1.heap.objs.size,s1.heap.objs.size+1],s1.heap.objs.size<=c:=λc hc=>by simp only[Zf,Zz,ZY]at hc;omega
 refine#[#[_,g5,rfl],?_];show wpAny (model X.prog X.w) X.A (pyIter (.ref (s1.heap.objs.size+4))) (PIE X L4 σ (.Tuple elts kt tp) R) X.xe { s1 with heap:=hN };refine wpAny_pyIter_zip g5 ?_;refine#[s1.heap.objs.size+4,[s1.heap.objs.size+4,s1.heap.objs.size+2,s1.heap.objs.size+3,s1.heap.objs.size,s1.heap.objs.size+1],IS (s1.heap.objs.size+4) (s1.heap.objs.size+2) (s1.heap.objs.size+3) s1.heap.objs.size (s1.heap.objs.size+1) a b,_,H1,rfl,I2,
  BI hl ?_ (λc hc=>#[ZV (ZA la (base c hc)),ZV (ZA lb (base c hc))]),#[g5,g3,#[_,_,g4],#[_,g1,rfl,rfl],#[_,g2,rfl,rfl]],λc hc=>?_,q]
 ·exact AK s1.heap.objs.size
 ·exact I1.fpOk (base c hc) (I1.hok.fresh (base c hc))
def Ao{kt:Nat}(hm:X.mg "zip" = none)(ha:QA X [e1,e2] ta)(hg:Gl X "zip":=by rfl)(n1:aK e1=true:=by rfl)(n2:aK e2=true:=by rfl):QI X (.Tuple elts kt tp) (.Call (.Name "zip" p) [e1,e2] [] pos) (DU X.K ta):=#[Fz hg hm ha.h n1 n2]
end
def B6{K:W.Frag}{a b:LN}{xs ys:List V}{i j:Nat}{tb:TS}{D:Ends}{σ:St}{H:Hp}(Pv:Nat->St->Hp->Prop)(h0:Pv 0 σ H)(ha:∀i σ H,i<=xs.length->Pv i σ H->SqL K H a xs)(hb:∀i σ H,i<=xs.length->Pv i σ H->SqL K H b ys)(hl:xs.length=ys.length)(hs:∀k x y σ H,xs[k]?=some x->ys[k]?=some y->Pv k σ H->∀T,H T=none->tb { D with nx:=Pv (k+1),ct:=Pv (k+1),bk:=D.nx } ((σ.set i (some x)).set j (some y)) (upd H T (.tup [x,y])))(hd:∀σ H,Pv xs.length σ H->D.nx σ H) :
  ∃W:Nat->Nat->St->Hp->Prop,(∃m,W 0 m σ H)/\∀k m σ H,W k m σ H ->
   ((tH K a b xs ys).stop k H/\D.nx σ H)\/((tH K a b xs ys).go k H/\∃N:St->Hp->Prop,(∀σ' H',N σ' H'->∃m',m'<m/\W (k+1) m' σ' H')/\∀x H',(tH K a b xs ys).yld k H x H'->kK K 2 (eG (bD i) (eG (bD j) kJ)) x σ H' λσ2 H2=>tb { D with nx:=N,ct:=N,bk:=D.nx } σ2 H2):=by
 refine#[λk m σ H=>m=xs.length-k/\k<=xs.length/\Pv k σ H,#[xs.length,by simp,Zy _,h0],?_];rintro k m σ H ⟨rfl,hk,pv⟩;by_cases hlt:k<xs.length
 ·refine .inr #[#[hlt,ha k σ H hk pv,hb k σ H hk pv],Pv (k+1),λσ' H' z=>#[xs.length-(k+1),∅,rfl,hlt,z],λx H' y=>?_];exists[T,p,q,hT,hx,hy,rfl,rfl],y;exact#[T,[p,q],rfl,L6 ac,rfl,p,[q],rfl,q,[],rfl,rfl,hs k p q σ H hx hy pv T hT]
 ·have e:k=xs.length:=∅
  subst e;exact .inl #[#[rfl,ha _ σ H hk pv,hb _ σ H hk pv],hd σ H pv]
section
variable{X:Cx}
structure QPs(X:Cx)(pos:Pos)(keys:List (Option L3))(values:List L3)(trs:List (TE×TE)):Prop where
 h:PPs X pos keys values trs
def J1:QPs X pos [] [] []:=#[FE]
def yP{k v:L3}(hk:QE X k tk)(hv:QE X v tv)(hr:QPs X pos ks vs trs):QPs X pos (some k::ks) (v::vs) ((tk,tv)::trs):=#[CW hk.h hv.h hr.h]
def Ii(h:QPs X pos keys values trs)(hall:keys.all (·.isSome)=true:=by rfl)(hl:keys.length=values.length:=by rfl)(h0:keys≠[]:=by simp)(h15:keys.length<=15:=by decide):QE X (.Dict keys values pos) (El trs):=#[Fp h.h hall hl h0 h15]
end
section
variable{X:Cx}
def BW(hc:X.calm=true):dR X (.builtin "any") (λxs H Q=>∃(p:LN) (bs:List Bool),xs=[.ref p]/\SqL X.K H p (bs.map V.bl)/\Q (.bl (bs.any id)) H):=by
 intro L4 s σ H xs us Q I r h;exists[p,bs,rfl,hq,q],h;exists[u,rfl,rx],bG r;cases rx;exists[its,rv,pl,hz],I.list hq;have hl:=pl.isList;have hlt:p<s.heap.objs.size:=by exists[_,e,_],hl;exact Zr e
 have hh:=I.ok.hd hc;have hlen:bs.length=its.length:=by rw[<-rv.length,Zd]
 refine call_any_walk (wpAny_pyIter_list hl ?_);refine#[s.heap.objs.size,[s.heap.objs.size,p],[s.heap.objs.size],its.toArray.size,_,_,λi=>(bs[i]?).getD false,rfl,Walks.list (A:=X.A.in1) hh _ p (Zx hlt) its.toArray,
  #[#[_,Zk _ rfl,rfl,rfl],hl.push _],λi v s' Q' E' hP hQ=>?_,λh' tk hk=>?_]
 ·have hv:its[i]?=some v:=by simpa using hP
  have hi:i<bs.length:=by rw[hlen];exact(Zm.mp hv).1
  exists[u,hu,ru],rv.get (i:=i) (x:=.bl bs[i]) (by rw[Zq,z9 hi];rfl);rw[hv]at hu;cases hu;cases ru;have hQ':Q' ((bs[i]?).getD false) s':=hQ;rw[z9 hi]at hQ';exact Z4 hQ'
 ·have e:((List.range its.toArray.size).any λi=>(bs[i]?).getD false)=bs.any id:=by rw[Zh,<-hlen];exact LSm.range_any bs
  rw[e];exact#[.bl _,H,I.kept (t':=tk) (LSm.kept_iter hk),rfl,q]
def DM(hc:X.calm=true):QCall X (.builtin "any") (λxs H Q=>∃(p:LN) (bs:List Bool),xs=[.ref p]/\SqL X.K H p (bs.map V.bl)/\Q (.bl (bs.any id)) H):=#[BW hc]
def zQ{K:W.Frag}(hK:X.K=K)(hc:X.calm=true):QCall X (.builtin "any") (λxs H Q=>∃(p:LN) (bs:List Bool),xs=[.ref p]/\SqL K H p (bs.map V.bl)/\Q (.bl (bs.any id)) H):=by subst hK;exact DM hc
end
structure MFn(P:LQ)(w:LU)(K:W.Frag)(mg:LL)(base:Heap)(k:Nat)(C:LN)(m:Str)(ps:List Str)(sp:Sp):Prop where
 cl:Cls K C
 ex:∃f fd,FnOk P w K mg base CX0 k f fd ps sp/\Meth K C m f/\Binds K fd ps []
structure MkFn(P:LQ)(w:LU)(K:W.Frag)(mg:LL)(base:Heap)(k:Nat)(C:LN)(x:Str)(ps:List Str)(sp:Sp):Prop where
 cl:Cls K C
 mgC:mg x=some (.ref C)
 ex:∃f fd,FnOk P w K mg base CX0 k f fd ps sp/\Mk K C f/\Binds K fd ps []
section
variable{X:Cx}{k:Nat}{pos:Pos}{e:L3}{t:TA}
def cT(he:QE X e ta)(hb:attributeBase e f X.env (eval e X.env)=eval e X.env:=by rfl):QE X (.Attribute e f pos) (Dv X.K ta f):=#[HI he.h hb]
def sX(ha:QE X o ta)(hv:QE X value tv)(hs:swapsWith value (some (.Attribute o f pos')) pos.line X.env=pure false:=by rfl):QS X (.Assign [.Attribute o f pos'] value pos) (Iw X.K ta tv f):=#[HZ ha.h hv.h hs]
def br{pl:Sem Bool}(F:MFn X.prog X.w X.K X.mg X.base k C m ps sp)(hr:Room k X.A)(he:QE X o ta)(ha:QA X (e::es) t)(hs:(e::es).all aK=true:=by rfl)(ht:eval (.Call (.Attribute o m apos) (e::es) [] pos) X.env=(do
   let ov ←eval o X.env
   standAt apos.atName
   let(f,first) ←holding [ov] (getMethod ov m pl)
   callWith pos f first (backTo pos (starEach (e::es) X.env)) (backToKw pos (keywordEach [] X.env))):=by rfl) :
  QE X (.Call (.Attribute o m apos) (e::es) [] pos) (tz C m sp [] E0 ta t):=by
 exists[f,fd,G,hm,b],F.ex;rw[YO,ZK]at hs;exact#[Ft (pl:=pl) he.h F.cl hm G hr b .nil pK ha.h (aI hs.1) (bE hs.2) ht]
def cY{pl:Sem Bool}(F:MFn X.prog X.w X.K X.mg X.base k C m ps sp)(hr:Room k X.A)(he:QE X o ta)(ht:eval (.Call (.Attribute o m apos) [] [] pos) X.env=(do
   let ov ←eval o X.env
   standAt apos.atName
   let(f,first) ←holding [ov] (getMethod ov m pl)
   callWith pos f first (backTo pos (starEach [] X.env)) (backToKw pos (keywordEach [] X.env))):=by rfl) :
  QE X (.Call (.Attribute o m apos) [] [] pos) (tz C m sp [] E0 ta dP):=by
 exists[f,fd,G,hm,b],F.ex;exact#[CN (pl:=pl) he.h F.cl hm G hr b .nil pK ht]
def FO(F:MkFn X.prog X.w X.K X.mg X.base k C x ps sp)(hr:Room (k+1) X.A)(hg:Gl X x:=by rfl)(hdb:(x==("__debug__":Str))=false:=by decide):QE X (.Call (.Name x p) [] [] pos) (tm C sp [] E0 dP):=by exists[f,fd,G,hm,b],F.ex;exact#[CM hm G hr hg F.mgC b .nil pK hdb]
def Im(F:MkFn X.prog X.w X.K X.mg X.base k C x ps sp)(hr:Room (k+1) X.A)(ha:QA X (e::es) t)(hg:Gl X x:=by rfl)(hs:(e::es).all aK=true:=by rfl)(hdb:(x==("__debug__":Str))=false:=by decide) :
  QE X (.Call (.Name x p) (e::es) [] pos) (tm C sp [] E0 t):=by
 exists[f,fd,G,hm,b],F.ex;rw[YO,ZK]at hs;exact#[Fs hm G hr hg F.mgC b .nil pK ha.h hdb (aI hs.1) (bE hs.2)]
end
def DRaw(h:Heap)(d:LN)(es:Array DictEntry)(ep:Nat):Prop:=∃o,h.get? d=some o/\o.ExactDict/\o.data=.dict es ep
def DRaw.type{s:LO}{ep:Nat}(x:DRaw s.heap d es ep):s.TypeIs (.ref d) "dict":=let⟨o,ho,hc,_⟩:=x;#[o,ho,hc.1]
def DRaw.at'{h h':Heap}{ep:Nat}(x:DRaw h d es ep)(e:∀o,h.get? d=some o->h'.get? d=some o):DRaw h' d es ep:=let⟨o,ho,r⟩:=x;#[o,e o ho,r]
def DRaw.lt{ep:Nat}(x:DRaw h d es ep):d<h.objs.size:=let⟨_,ho,_⟩:=x;Zr ho
section
variable{A:LV}{s:LO}{d:LN}{es:Array DictEntry}{ep i:Nat}
def vw{Q:LK}(hd:(d==sysModules)=false)(hm:DRaw s.heap d es ep)(hQ:Q (.ref s.heap.objs.size) { s with heap:=s.heap.push { cls:=.type "dict_keyiterator",data:=.fields (List.toArray [.ref d,.int 0 0,.int es.size 0,.int ep 0]) } }) :
  wpAny (model prog w) A (pyIter (.ref d)) Q E s:=by
 exists[o,ho,hc,hdat],id hm;refine wpAny_pyIter_slot hm.type PySem.F.slot_dict_iter (ZT PySem.F.slot_dict_iter hm.type PySem.F.entry_dict_iter ?_ (PySem.F.args_dict_iter_1 _));unfold Builtin.«dict.__iter__»;refine z6 ?_;unfold Builtin.Dict.dictSlotNone;refine z6 (wpAny_notOrdered_dict hm.type ?_);show wpAny _ _ (pure (Value.ref d)) _ _ s;refine Zb ?_;show wpAny _ _ (Builtin.Dict.showsAll d >>= _) _ _ s;unfold Builtin.Dict.showsAll;rw[LH (by rw[hd];exact Zv)];refine z6 (Zb ?_);refine z6 (YX ho hdat ?_);refine z6 (wpAny_dictEpoch ho hdat ?_);refine z6 (Yi (Zb #[_,rfl,"dict_keyiterator",_,#[_,Zk _ rfl,rfl],Yk.lookup,?_]));simpa[rawInt]using hQ
def vt{Q:Option LP->LO->Prop}(hit:s.heap.IsKeyIter it d i es.size ep)(hm:DRaw s.heap d es ep)(hx:i<es.size)(hQ:∀h',h'.IsKeyIter it d (i+1) es.size ep->Heap.SameBut it s.heap h'->Q (some es[i].key) { s with heap:=h' }):wpAny (model prog w) A (pyNext (.ref it)) Q E s:=by
 exists[o,ho,hc,hd],id hit;exists[od,hod,hcd,hdd],id hm;unfold pyNext;refine z6 (wpAny_attempt (Z0 (name:=Str.ofString "__next__") hit.typeIs Yk
  (ZT Yk hit.typeIs PySem.F.entry_dict_keyiterator_next ?_ (PySem.F.args_dict_keyiterator_next_1 _))))
 refine z6 (Zb ?_);refine z6 ?_;refine z6 ?_
 first|refine z6 (YY hit.typeIs (Zb ?_))|refine z6 (wpAny_typeNameOf_keyiter hit.typeIs (Zb ?_))
 refine z6 (wpAny_fieldsOf ho hd ?_);have hown:Builtin.Dict_items.ownsTuple "dict_keyiterator" = false:=⋯
 simp only[hown,y6,YH];show wpAny _ _ (if(Value.ref d==Value.none)=true then _ else _) _ _ s;rw[LH (show¬((Value.ref d==Value.none)=true)from Zv)];refine z6 (Zb ?_);refine z6 (YX hod hdd ?_);rw[LH (by simp)];refine z6 (Zb ?_);refine z6 (wpAny_dictEpoch hod hdd ?_);rw[LH (by simp)];refine Zb ?_;simp only[show¬((i:Int)<0)from by omega,YH,Int.toNat_natCast,Yf hx];refine z6 ?_
 first|refine z6 (YY hit.typeIs (Zb ?_))|refine z6 (wpAny_typeNameOf_keyiter hit.typeIs (Zb ?_))
 refine z6 (wpAny_isOneOf_keyiter hit.typeIs ?_);show wpAny _ _ (setField (.ref it) 1 (rawInt ((i:Int)+1)) >>= _) _ _ s;refine z6 (wpAny_setField ho hd (by simp) ?_);have hit':(s.heap.update it (Obj.mapFields (·.setIfInBounds 1 (rawInt ((i:Int)+1))))).IsKeyIter it d (i+1) es.size ep :=
  #[_,YR _ ho (Obj.isFreed_of_fields (Obj.data_mapFields hd _)),(Obj.cls_mapFields ..).trans hc,by rw[Obj.data_mapFields hd];simp[rawInt]]
 refine z6 (Z2 ?_);refine z6 (wpAny_isOneOf_keyiter (s:={ s with heap:=s.heap.update it (Obj.mapFields (·.setIfInBounds 1 (rawInt ((i:Int)+1)))) }) hit'.typeIs ?_);show wpAny _ _ (pure es[i].key) _ _ _;exact Zb (Zb #[_,rfl,Zb (hQ _ hit' (ZI ..))])
def xu{Q:Option LP->LO->Prop}(hh:A.handled=none)(hit:s.heap.IsKeyIter it d es.size es.size ep)(hm:DRaw s.heap d es ep)(hQ:∀h',Heap.ExtBut it s.heap h'->Q none { s with heap:=h' }) :
  wpAny (model prog w) A (pyNext (.ref it)) Q E s:=by
 exists[o,ho,hc,hd],id hit;exists[od,hod,hcd,hdd],id hm;unfold pyNext;refine z6 (wpAny_attempt (Z0 (name:=Str.ofString "__next__") hit.typeIs Yk
  (ZT Yk hit.typeIs PySem.F.entry_dict_keyiterator_next ?_ (PySem.F.args_dict_keyiterator_next_1 _))))
 refine z6 (Zb ?_);refine z6 ?_;refine z6 ?_
 first|refine z6 (YY hit.typeIs (Zb ?_))|refine z6 (wpAny_typeNameOf_keyiter hit.typeIs (Zb ?_))
 refine z6 (wpAny_fieldsOf ho hd ?_);have hown:Builtin.Dict_items.ownsTuple "dict_keyiterator" = false:=⋯
 simp only[hown,y6,YH];show wpAny _ _ (if(Value.ref d==Value.none)=true then _ else _) _ _ s;rw[LH (show¬((Value.ref d==Value.none)=true)from Zv)];refine z6 (Zb ?_);refine z6 (YX hod hdd ?_);rw[LH (by simp)];refine z6 (Zb ?_);refine z6 (wpAny_dictEpoch hod hdd ?_);rw[LH (by simp)];refine Zb ?_;simp only[show¬((es.size:Int)<0)from by omega,YH,Int.toNat_natCast,Array.getElem?_eq_none (Ze _)];refine z6 ?_
 first|refine z6 (YY hit.typeIs (Zb ?_))|refine z6 (wpAny_typeNameOf_keyiter hit.typeIs (Zb ?_))
 show wpAny _ _ (setField (.ref it) 0 .none >>= _) _ _ s;refine z6 (wpAny_setField ho hd (by simp) ?_);show wpAny _ _ (newExc (.type "StopIteration") [] >>= _) _ _ _;refine z6 ?_;simp only[newExc,newTuple];refine z6 (Yi ?_ (by size_fits));refine z6 (m:=firstArgMember _ _) (wpAny_of_eq (a:=Value.none) (by first|rfl|(simp only[firstArgMember];rfl)) ?_);refine Yi ?_ (by size_fits);simp only[raiseNew];refine z6 (wpAny_handled ?_);rw[show A.in1.handled=none from hh];refine z6 (Zb (wpAny_throw ?_));refine z6 (wpAny_isInstance (T:="StopIteration") (b:=true) #[_,Zk _ rfl,rfl] isSubtype_stop ?_);exact Zb (hQ _ (((ZI ..).extBut.push _).push _))
def Bk(hh:A.handled=none)(I d:LN)(hne:d≠I)(es:Array DictEntry)(ep:Nat) :
  Walks prog w A I [I,d] [I] es.size (λi v=>∃e,es[i]?=some e/\v=e.key) (λi h=>h.IsKeyIter I d i es.size ep/\DRaw h d es ep) where
 sub:=λb hb=>by simp at hb;simp[hb]
 frame:=λ_ _ _ st hk=>#[st.1.at λo e=>hk I (by simp) o e,st.2.at' λo e=>hk d (by simp) o e]
 item:=λi s Q E hi st hQ=>vt st.1 st.2 hi λh' hit' hs'=>hQ _ h' s.toks #[es[i],by simp[hi],rfl] #[hit',st.2.at' λo e=>hs'.extBut d o hne e] λb o hb e=>hs'.extBut b o (λh=>hb (by simp[h])) e
 done:=λs Q E st hQ=>xu hh st.1 st.2 λh' he'=>hQ h' s.toks λb o hb e=>he' b o (λh=>hb (by simp[h])) e
 self:=λ_ _ _ _ st hQ=>wpAny_pyIter_keyiter st.1 hQ
def xw(lo:(d==sysModules)=false):KdlSrc prog w "dict" d d es.size (λi v=>∃e,es[i]?=some e/\v=e.key) (λh=>DRaw h d es ep) where
 type:=λ_ hm=>hm.type
 there:=λ_ hm=>#[hm.lt,hm.lt]
 keep:=λ_ _ hm hk=>hm.at' λo e=>hk d (.inl rfl) o e
 notList:=⋯
 notTuple:=⋯
 hint:=λ_ _ _ _ hm hq=>kdl_hint_dict hm.type hq
 iter:=λ_ _ hh hm=>#[_,_,(λ_ _ hq=>vw lo hm hq),Bk hh _ d (Zx hm.lt) es ep,#[#[_,Zk _ rfl,rfl,rfl],hm.at' λo e=>Za _ e]]
end
def fX(H:Hp)(kvs:List (List Key×V))(ks:List V):Prop:=Paired (fun(p:List Key×V) (v:V)=>∃b,v=V.ref b/\H b=some (.tup (p.1.map kV))) kvs ks
def oZ(r:KT H kvs xs):fX H kvs (xs.map fun(x:List Key×LN×LP)=>V.ref x.2.1):=by
 unfold fX;induction r with
 |nil=>exact .nil
 |cons h _ ih=>exact .cons #[_,rfl,h.2.1] ih
section
variable{X:Cx}
def yc(hc:X.calm=true):dR X (.type "list") (λxs H Q=>∃p kvs,xs=[.ref p]/\Rd H p (.dT kvs)/\∀l ks,H l=none->fX H kvs ks->Q (.ref l) (upd H l (.lst ks))):=by
 intro L4 s σ H xs us Q I r h;exists[p,kvs,rfl,hq,q],h;exists[u,rfl,rx],bG r;cases rx;exists[z,hd,xs,rel,o,es,ep,h1,h2,h3,h4,_,_],jw I.hok hq;have hsz:es.size=xs.length:=size_of_entries h4;have hkl:kvs.length=xs.length:=Z8 rel;refine kdl_call (xw (es:=es) (ep:=ep) hd) (I.ok.hd hc) #[o,h1,h2,h3] ∅ λh' tk acc' c' kp e hacc=>?_;have ev:Vals (xs.map fun(x:List Key×LN×LP)=>V.ref x.2.1) acc'.toList:=by
  have gen:∀(vs:LM) (ys:List (List Key×LN×LP)),vs.length=ys.length->(∀(j:Nat) (v:LP),vs[j]?=some v->∃x:List Key×LN×LP,ys[j]?=some x/\v=Value.ref x.2.1)->Vals (ys.map fun(x:List Key×LN×LP)=>V.ref x.2.1) vs:=by
   intro vs;induction vs with
   |nil =>
    intro ys hl _;cases ys with
    |nil=>exact .nil
    |cons _ _=>cases hl
   |cons v vs ih =>
    intro ys hl hv;cases ys with
    |nil=>cases hl
    |cons y ys =>exists[x,e1,e2],hv 0 v rfl;cases e1;exact .cons e2 (ih ys (by simpa using hl) λj v' e'=>hv (j+1) v' (by simpa using e'))
  refine gen _ _ (by rw[Zu,hacc.1,hsz]) λj v e'=>?_;exists[en,e1,e2],hacc.2 j v (by rw[<-Y6];exact e');rw[entry_at h4]at e1;exists[x,e3,e4],ZL.mp e1;refine#[x,e3,?_];rw[e2,<-e4];rfl
 refine#[.ref s.heap.objs.size,_,I.laid (t':=tk) kp (Ze _) (show ObjOk X.prog X.w _ h' _ (.lst (xs.map fun(x:List Key×LN×LP)=>V.ref x.2.1))from#[by rw[Zd];omega,acc'.toList,c',ev,by simpa using e]),rfl,q _ _ (I.hok.fresh (Ze _)) (oZ rel)]
def EC(hc:X.calm=true):QCall X (.type "list") (λxs H Q=>∃p kvs,xs=[.ref p]/\Rd H p (.dT kvs)/\∀l ks,H l=none->fX H kvs ks->Q (.ref l) (upd H l (.lst ks))):=#[yc hc]
end
open PySem PySem.Spec PyProof.Rows PySem.W PySem.Builtin PySem.Builtin.ObjectAttr
def A4:LM->Bool
 |.ref _::r=>A4 r
 |l=>l==VE
structure ExS(K:W.Frag)(c:LN):Prop where
 sa:findIn K (.ref c) "__setattr__" = some (some (.builtin "object.__setattr__"))
 ov:((clsIn K c).any λcd=>A4 cd.mro&&cd.hasDict)=true
 ob:mroIn K c (.type "object")=some true
def GD(K:W.Frag)(C fI:LN):Prop:=∃dd cd k0 k1 k2 k3 k5 bm,K.lookup C=some #[.type "type",dd,.cls cd,(List.toArray [k0,k1,k2,k3,some (.builtin "ValueError.__new__"),k5])]/\cd.mro=Value.ref C::bm/\cd.hasDel=false/\tailIn K VE bm=true/\nsOkIn K cd.ns=true/\nsIn K cd.ns "__init__" = some (some (.ref fI))
structure ExcAtI(K:W.Frag)(C fI:LN)(bm:LM):Prop where
 isIn:GD K C fI
 mro:∃c d cd sl,K.lookup C=some #[c,d,.cls cd,sl]/\cd.mro=Value.ref C::bm
 exc:bm.contains (.type "BaseException")=true
 fn:∃oI,K.lookup fI=some oI/\oI.cls=.type "function"
structure ExI(P:LQ)(w:LU)(K:W.Frag)(mg:LL)(base:Heap)(k:Nat)(C:LN)(bm:LM)(ps:List Str)(sp:Sp):Prop where
 ex:∃fI fd,ExcAtI K C fI bm/\FnOk P w K mg base CX0 k fI fd ps sp/\Binds K fd ps []
structure MFnX(P:LQ)(w:LU)(K:W.Frag)(mg:LL)(base:Heap)(k:Nat)(C:LN)(m:Str)(ps:List Str)(sp:Sp):Prop where
 cl:Cls K C
 ex:∃f fd,FnOk P w K mg base (CXr P w) k f fd ps sp/\Meth K C m f/\Binds K fd ps []
def mx(qual:Str)(params:Arguments)(body:L3)(scope:Scope)(cl:List (Str×LN))(pm:LP)(c:LN)(ct:LP):LW:=kla_fn "<lambda>" qual params body scope cl pm (.ref c) ct
def gS(qual:Str)(params:Arguments)(body:L3)(scope:Scope)(cl:List (Str×LN))(pm:LP)(c:LN)(ct:LP):Obj:={ cls:=.type "function",data:=.func (mx qual params body scope cl pm c ct) }
def nU(a:LN)(o:Obj):HO:=.ext λh=>h.get? a=some o
def iI(c:LN)(qual:Str):HO:=.ext λh=>h.CodeRec (.ref c) qual
def xf{w:LU}{h:Heap}(e:h.get? a=some o):ObjOk P w H h a (nU a o):=#[e,#[o,e],λ_ _ x k=>k _ x]
def ES{w:LU}{h:Heap}(e:h.CodeRec (.ref c) q):ObjOk P w H h c (iI c q):=by exists[c',oc,vs,t,e1,e2,e3,e4],id e;cases e1;refine#[e,#[oc,e2],λh1 h2 x k=>?_];exists[c',oc,vs,t,e1,e2,e3,e4],id x;cases e1;exact#[c,oc,vs,t,rfl,k _ e2,e3,e4]
def Blt(h:Heap)(mg:LL):Prop:=∃bm ob,mg "__builtins__" = some (.ref bm)/\bm≠builtinsNs/\h.get? bm=some ob/\ob.cls=.type "module"/\ob.dict=some builtinsNs/\ob.data=.plain
section
variable{s:LO}
def Inv.bltAt(I:Inv X L4 σ H s)(B:Blt X.base X.mg)(hP:H P=some (.tbl ps)):s.heap.BuiltinsAt X.mg P:=by
 exists[bm,ob,b1,b2,b3,b4,b5,b6],B;refine#[bm,ob,b1,b2,λz=>?_,λz=>?_,I.bk _ _ b3,b4,b5,b6]
 ·exists[o,es,ep,e,d,_],I.ok.mod.glob;rw[<-z,b3]at e;cases e;rw[d]at b6;cases b6
 ·have:=(I.bs _ _ b3).2;rw[z,hP]at this;cases this
def Inv.grown{h':Heap}{t':Nat}(I:Inv X L4 σ H s)(hP:H P=some (.tbl ps))(k:∀b o,b≠P->s.heap.get? b=some o->h'.get? b=some o)(hc:s.heap.objs.size<=c)(hf:s.heap.objs.size<=f)(hcf:c≠f)(eP:h'.get? P=some { cls:=.none,data:=.fields (ps++more) })(nc:∀H',ObjOk X.prog X.w H' h' c oc)(nf:∀H',ObjOk X.prog X.w H' h' f of'):
  H c=none/\H f=none/\Inv X L4 σ (upd (upd (upd H P (.tbl (ps++more))) c oc) f of') { s with heap:=h',toks:=t' }:=by
 have c0:=I.hok.fresh hc;have f0:=I.hok.fresh hf;have nP:∀{b:LN} {u:HO},H b=some u->(∀qs,u≠.tbl qs)->b≠P:=fun{b u} e n z=>by rw[z,hP]at e;cases e;exact n _ rfl
 have up:∀{b:LN},b≠P->b≠c->b≠f->upd (upd (upd H P (.tbl (ps++more))) c oc) f of' b=H b:=fun{b} n1 n2 n3=>by rw[ag n3,ag n2,ag n1]
 have old:∀{b:LN} {o:Obj},s.heap.get? b=some o->b≠c/\b≠f:=fun{b o} e=>#[Zx (ZA (Zr e) hc),Zx (ZA (Zr e) hf)]
 have pcf:P≠c/\P≠f:=by have:=I.hok P _ hP;exact old (show s.heap.get? P=some _ from this)
 refine#[c0,f0,I.un (t':=t') #[λb o e n _ _=>k b o (λz=>by rw[z,hP]at n;cases n) e,λb o e n _ _=>#[o.slots,k b o (λz=>by rw[z,hP]at n;cases n) e],λb o e n _=>?_,λb o e _=>?_,λb xs e=>?_,λb o u e=>?_,λb qs e=>?_] λb u e=>?_]
 ·rw[up (λz=>by rw[z,hP]at n;cases n) (old e).1 (old e).2];exact n
 ·by_cases z:b=P
  ·exact#[_,z▸eP]
  ·exact#[o,k b o z e]
 ·rw[up (nP e λ_ z=>nomatch z) (ar e c0) (ar e f0)];exact e
 ·rw[up (nP e λ_ z=>nomatch z) (ar e c0) (ar e f0)];exact e
 ·by_cases z:b=P
  ·subst z;rw[hP]at e;cases e;exact#[more,by rw[ag pcf.2,ag pcf.1,ac]]
  ·exact#[#[],by rw[up z (ar e c0) (ar e f0),e];simp]
 ·by_cases zf:b=f
  ·subst zf;rw[ac]at e;cases e;exact nf _
  ·rw[ag zf]at e;by_cases zc:b=c
   ·subst zc;rw[ac]at e;cases e;exact nc _
   ·rw[ag zc]at e;by_cases zP:b=P
    ·subst zP;rw[ac]at e;cases e;exact eP
    ·rw[ag zP]at e;refine(I.hok b u e).stay (λb' v hb' q=>k b' v (λz=>?_) q) (λb' z=>by rw[up (nP z λ_ z=>nomatch z) (ar z c0) (ar z f0)];exact z) λb' xs z=>by rw[up (nP z λ_ z=>nomatch z) (ar z c0) (ar z f0)];exact z
     rcases hb' with rfl|hb'
     ·exact zP z
     ·rw[z,hP]at hb';cases hb'
end
def aN(q:Str)(P:LN)(pos:Pos)(H:Hp):Prop:=∃ps:Array LP,H P=some (.tbl ps)/\TriplesOk ps.toList/\(codeAmong pos ps.toList=none\/∃c',codeAmong pos ps.toList=some (.ref c')/\H c'=some (iI c' q))
def SameT(P:LN)(H H':Hp):Prop:=∀b o,H b=some o->b≠P->H' b=some o
def SameT.of(s:Same H H'):SameT P H H':=λb o e _=>s b o e
def SameT.trans(s:SameT P H H')(t:SameT P H' H2):SameT P H H2:=λb o e n=>t b o (s b o e n) n
theorem lQ{x y:Int}:∀l:LM,TriplesOk l->TriplesOk (l++[.int x a,.int y b,c])
 | [],_=>trivial
 |.int _ _::.int _ _::_::rest,h=>lQ rest h
structure LamOk(P:LQ)(w:LU)(K:W.Frag)(mg:LL)(base:Heap)(k:Nat)(qual:Str)(body:L3)(scope:Scope)(x:Str)(sp:Sp):Prop where
 ex:∃N:List Str,FnScope N [x] scope/\(∀vs H Q E,sp vs H Q E->vs.length=1)/\∀(f c':LN) (A:LV) (outer:List Env) (s:LO) (H:Hp) (vs:List V) (Q:VK) (E:XK),Room k (A.deeper (envOfC qual scope s.heap.objs.size f (.ref c')))->sp vs H Q E ->
  ∃t,QE (fq CX0 P w K mg base N qual scope f (.ref c') A outer s H E) body t/\t (start N vs) H Q
def Er(a:LN)(tabs:List (LN×LN))(H:Hp):Prop:=∀b,H b=none\/(b=a/\∃o xs,H b=some (.frz o (.lst xs)))\/((∃c,(c,b)∈tabs)/\H b=some (.tbl #[]))
def Cj{P:LQ}{w:LU}{K:W.Frag}{mg mb:LL}{k:Nat}{fa a:LN}{fd:LW}{x:Str}{sp:Sp}{s:LO}{vs:LM}{ns:LX}{tabs:List (LN×LN)}(kx:K.In s.heap)(gx:s.heap.Ns mainGlobals mg)(bx:s.heap.Ns builtinsNs mb)(bb:∀y:Str,y≠"__name__"->mb y=bootBuiltins y)(nl:s.heap.NoLimit)(gn:s.gens=#[])(bl:Blt s.heap mg)(tx:∀q∈tabs,CodeHd s.heap q.1 q.2/\s.heap.get? q.2=some (tabObj #[]))(nt:noTabs K=true)(sa:s.heap.get? a=some { cls:=.type "list",data:=.seq vs.toArray })(si:IntsAre vs ns)(sl:ns.length<=sizeLine)(hr:Room k callerA)(F:∀base:Heap,K.In base->base.Ns mainGlobals mg->Blt base mg->(∀q∈tabs,CodeHd base q.1 q.2)->FnOk P w K mg base CX0 k fa fd [x] sp)(bind:∀(s:LO) (u:LP),BindsTo s fd #[[u],[]] [(x,u)])(go:∀H:Hp,(∀q∈tabs,H q.2=some (.tbl #[]))->SqL K H a (ns.map V.int)->sp [.ref a] H (λv _=>v=.bl true) λ_ _ _=>False) :
  codeAny (model P w) callerA (.call (.ref fa) #[[.ref a],[]]) (λr s'=>r=.ok (.ret (.bool true))/\OldK s.heap s'.heap/\s'.os=s.os/\AllBare s'.gens) s:=by
 have tabNot:∀{b:LN} {c:LN},(c,b)∈tabs->K.lookup b=none:=fun{b c} hm=>by
  cases e:K.lookup b with
  |none=>rfl
  |some o =>have e1:=(kx b o e).symm.trans (tx _ hm).2;cases e1;have:=List.all_eq_true.mp nt _ (mem_of_lookupK e);cases this
 have aNot:∀{c:LN},¬(c,a)∈tabs:=fun{c} hm=>by have:=(tx _ hm).2;rw[sa]at this;cases this
 have main:∀H:Hp,Er a tabs H->(∀q∈tabs,H q.2=some (.tbl #[]))->SqL K H a (ns.map V.int)->HOk P w H s.heap->(H a≠none->K.lookup a=none) ->
   codeAny (model P w) callerA (.call (.ref fa) #[[.ref a],[]]) (λr s'=>r=.ok (.ret (.bool true))/\OldK s.heap s'.heap/\s'.os=s.os/\AllBare s'.gens) s:=by
  intro H ae ht hS ok ha;have free:∀{b:LN} {o:Obj},s.heap.get? b=some o->(∀n m,o.data≠.seq n m)->(∀n,o.data≠.fields n)->H b=none:=fun{b o} e n1 n2=>by
   rcases ae b with z|⟨rfl,_⟩|⟨⟨c,hm⟩,_⟩
   ·exact z
   ·rw[sa]at e;cases e;exact absurd rfl (n1 _ _)
   ·rw[(tx _ hm).2]at e;cases e;exact absurd rfl (n2 _)
  have nsB:∀{b:LN} {m:LL},s.heap.Ns b m->(iH s.heap H).Ns b m:=fun{b m} ⟨o,es,ep,e,d,r⟩=>#[o,es,ep,jB e (free e (λ_ _ z=>by rw[d]at z;cases z) λ_ z=>by rw[d]at z;cases z),d,r]
  have kB:K.In (iH s.heap H):=λb o e=>jB (kx b o e) (by
   rcases ae b with z|⟨rfl,o',xs,z⟩|⟨⟨c,hm⟩,_⟩
   ·exact z
   ·rw[ha (by rw[z];simp)]at e;cases e
   ·rw[tabNot hm]at e;cases e)
  have bB:Blt (iH s.heap H) mg:=by exists[bm,ob,b1,b2,b3,b4,b5,b6],bl;exact#[bm,ob,b1,b2,jB b3 (free b3 (λ_ _ z=>by rw[b6]at z;cases z) λ_ z=>by rw[b6]at z;cases z),b4,b5,b6]
  have cB:∀q∈tabs,CodeHd (iH s.heap H) q.1 q.2:=λq hq=>by
   exists[o,ws,file,tf,fl,tg,inF,text,tt,c1,c2,c3,c4],(tx q hq).1;refine#[o,ws,file,tf,fl,tg,inF,text,tt,jB c1 ?_,c2,c3,c4];rcases ae q.1 with z|⟨z,_⟩|⟨⟨c,hm⟩,_⟩
   ·exact z
   ·rw[z,sa]at c1;cases c1;injection c2 with c2;exact absurd c2 ⋯
   ·rw[(tx _ hm).2]at c1;cases c1;cases c2
  have mB:Mod K mg (iH s.heap H):=#[kB,nsB gx,#[mb,nsB bx,bb],let⟨mc,n1,n2⟩:=nl;#[mc,nsB n1,n2]]
  have env:Env0 P w K mg (iH s.heap H) callerA [] s H:=#[rfl,mB,λb o e=>E7 e,Nat.le_of_eq (An _ _),trivial,λb hb=>absurd (show b∈([]:List LN)from hb) (by simp),ok,.of_eq gn]
  refine codeAny_mono ((F _ kB (nsB gx) bB cB).run callerA [] s H #[[.ref a],[]] [.ref a] [.ref a] _ _ hr env (bind s (.ref a)) (.cons rfl .nil) (go H ht hS)) λr s' h=>?_;cases r with
  |error e=>exact False.elim h
  |ok fl =>
   cases fl with
   |next=>exact False.elim h
   |brk=>exact False.elim h
   |cont=>exact False.elim h
   |ret u =>
    exists[v,H',os,bare,un,ok',rv,hv],h;obtain rfl:v=.bl true:=hv;obtain rfl:u=Value.bool true:=rv;have each:∀b o,s.heap.get? b=some o->asItWas s.heap s'.heap b o/\∃o',s'.heap.get? b=some o':=λb o e=>by
     rcases ae b with z|⟨rfl,o',xs,z⟩|⟨⟨c,hm⟩,z⟩
     ·have:=un.keep b o e z (by intro q;exact absurd (show b∈([]:List LN)from q) (by simp)) (by simp);exact#[.inl this,_,this]
     ·exists[e1,_],ok b _ z;exists[e2,_],ok' b _ (un.frzs b o' _ z);rw[e]at e1;cases e1;exact#[.inl e2,_,e2]
     ·exists[more,z2],un.tbls b _ z;have e2:s'.heap.get? b=some { cls:=.none,data:=.fields (#[]++more) }:=ok' b _ z2;have e1:=(tx _ hm).2;rw[e]at e1;cases e1;exact#[.inr (.inl #[(((tx _ hm).1).tab e).isCodeTable,rfl,#[],more,rfl,e2]),_,e2]
    exact#[rfl,#[λb o e=>(each b o e).1,λb o e=>(each b o e).2],os,bare]
 have rv:=rX si;have lv:=si.length;have inT:∀b,Decidable (∃c,(c,b)∈tabs):=λb=>Classical.propDecidable _;cases hk:K.lookup a with
 |some o =>
  have e:=kx a o hk;rw[sa]at e;cases e;refine main (λb=>@ite _ (∃c,(c,b)∈tabs) (inT b) (some (.tbl #[])) none) (λb=>?_) (λq hq=>LI #[q.1,hq]) (.inr #[_,vs.toArray,_,hk,rfl,rfl,rfl,by rw[Zh,lv];exact sl,by simpa using rv]) (λb u z=>?_) (λz=>absurd (LH fun⟨c,hm⟩=>aNot hm) z)
  ·by_cases c:∃c,(c,b)∈tabs
   ·exact .inr (.inr #[c,LI c])
   ·exact .inl (LH c)
  ·by_cases c:∃c,(c,b)∈tabs
   ·have z':=(LI c).symm.trans z;cases z';exists[c,hm],c;exact(tx _ hm).2
   ·have z':=(LH c).symm.trans z;cases z'
 |none =>
  refine main (λb=>@ite _ (∃c,(c,b)∈tabs) (inT b) (some (.tbl #[])) (if b=a then some (.frz { cls:=.type "list",data:=.seq vs.toArray } (.lst (ns.map V.int)))else none)) (λb=>?_) (λq hq=>LI #[q.1,hq]) (.inl (.inr #[{ cls:=.type "list",data:=.seq vs.toArray },(LH fun⟨c,hm⟩=>aNot hm).trans (LI rfl)])) (λb u z=>?_) (λ_=>hk)
  ·by_cases c:∃c,(c,b)∈tabs
   ·exact .inr (.inr #[c,LI c])
   ·by_cases hb:b=a
    ·exact .inr (.inl #[hb,_,_,(LH c).trans (LI hb)])
    ·exact .inl ((LH c).trans (LH hb))
  ·by_cases c:∃c,(c,b)∈tabs
   ·have z':=(LI c).symm.trans z;cases z';exists[c,hm],c;exact(tx _ hm).2
   ·have z':=(LH c).symm.trans z;by_cases hb:b=a
    ·rw[LI hb]at z';cases z';subst hb;exact#[sa,by rw[Zd];exact sl,vs,_,rv,sa]
    ·rw[LH hb]at z';cases z'
def Fun.okC{w:LU}{K:W.Frag}{st:Stmt}{k:Nat}{sp:Sp}(F:Fun K x qual st f fd)(hc:fd.code=.ref c)(S:FnScope N ps (aj st))(len:∀ vs H Q E,sp vs H Q E->vs.length=ps.length)(body:∀ (A:LV) (outer:List Env) (s:LO) (H:Hp) (vs:List V) (Q:VK) (E:XK),Room k (A.deeper (envOfC qual (aj st) s.heap.objs.size f (.ref c)))->sp vs H Q E ->
   ∃ t,QB (fq CX0 P w K mg base N qual (aj st) f (.ref c) A outer s H E).nox (bK st) t/\t { nx:=λ_ H'=>Q .non H',rt:=Q } (start N vs) H):↑FnOk CX0 (k+1) f fd ps sp:=by
 exists[oc,od,kV,doc,pm,an,cdv,ct,osl,rfl,lk,hcd],F.ex;obtain rfl:cdv=.ref c:=hc;refine DQ lk hcd S len λA outer s H vs Q E hr hs=>?_;exists[t,h,q],body A outer s H vs Q E hr hs;exact#[t,h.h.nox,q]
def Dz{K:W.Frag}(a:nsIn K mainGlobals x=some (some (.ref f)))(l:K.lookup f=some #[oc,od,.func fd,sl])(t:tabIn K x=some (c,P)):fd.code=.ref c:=by
 unfold tabIn at t;rw[a]at t;dsimp only at t;rw[l]at t;dsimp only at t;split at t
 ·rename_i c' e;rw[e];split at t
  ·split at t
   ·cases t;rfl
   ·cases t
  ·cases t
 ·cases t
inductive SKey where
 |i (n:Int)|s (t:Str)|bi (b:Bool)(n:Int)
def SKey.nums:SKey->LX
 |.i n=>[n]
 |.s t=>t.cps.toList.map Int.ofNat
 |.bi b n=>[if b then 1 else 0,n]
def SKey.at(H:Hp):SKey->V->Prop
 |.i n,v=>v=.int n
 |.s t,v=>v=.str t
 |.bi b n,v=>∃a,v=.ref a/\H a=some (.tup [.bl b,.int n])
def SKey.at.same(sm:Same H H'):∀{k:SKey} {v:V},k.at H v->k.at H' v
 |.i _,_,h=>h
 |.s _,_,h=>h
 |.bi _ _,_,⟨a,e,h⟩=>#[a,e,sm _ _ h]
def oC(ks:List SKey):Prop:=(∀k∈ks,∃n,k=.i n)\/(∀k∈ks,∃t,k=.s t)\/∀k∈ks,∃b n,k=.bi b n
theorem qE:∀a b:List Nat,HT.lexLt (a.map Int.ofNat) (b.map Int.ofNat)=decide (a<b)
 | [],[]=>rfl
 | [],_::_=>(decide_eq_true (List.nil_lt_cons _ _)).symm
 |_::_,[]=>(decide_eq_false (List.not_lt_nil _)).symm
 |x::a,y::b=>by
  rw[Zs,Zs,HT.lexLt_cons,qE a b];by_cases e:x=y
  ·subst e;rw[LI rfl];exact decide_eq_decide.mpr (by rw[List.cons_lt_cons_iff];simp)
  ·rw[LH (λz=>e (Int.ofNat.inj z))];refine decide_eq_decide.mpr ?_;rw[List.cons_lt_cons_iff];constructor
   ·intro h;exact .inl (Int.ofNat_lt.mp h)
   ·rintro(h|⟨h,_⟩)
    ·exact Int.ofNat_lt.mpr h
    ·exact absurd h e
def yJ{w:LU}{Q:Bool->LO->Prop}(h:Q (!a&&b) s):wpAny (model prog w) A (oneLt' true (.bool a) (.bool b)) Q E s:=by rw[oneLt'_eq];simp only[if_true];refine z6 (wpAny_cRoomFor_byValue rfl ?_);refine z6 (wpAny_callSpecialIfBound?_slot (PySem.typeIs_bool s a) F.slot_bool_lt (ZT F.slot_bool_lt (PySem.typeIs_bool s a) F.entry_int_lt ?_ (F.args_int_lt_2 _ _)));cases a<;>cases b<;>exact Zb #[_,rfl,Z4 h]
def Au{w:LU}{Q:Bool->LO->Prop}{n m:Int}{t u:Tok}(hf:fin=false)(q:Q (HT.lexLt (SKey.bi b n).nums (SKey.bi c m).nums) s):KatLex prog w A true fin Q ([Value.bool b,.int n t].zip [Value.bool c,.int m u]) 0 s:=by
 subst hf;exists[e,he,iff],HT.eqAt_int A s n t m u;refine kat_cons (SeqAt.EqAt.bool_bool b c _ _ _ _ ?_);have key:Q (if b=c then decide (n<m)else(!b&&c)) s:=by
  have e1:HT.lexLt [n] [m]=decide (n<m):=by
   rw[HT.lexLt_cons,HT.lexLt_nil_nil];by_cases z:n=m
   ·rw[LI z,decide_eq_false ∅]
   ·rw[LH z]
  have e2:HT.lexLt (SKey.bi b n).nums (SKey.bi c m).nums=if b=c then decide (n<m)else(!b&&c):=by unfold SKey.nums;rw[HT.lexLt_cons,e1];cases b<;>cases c<;>simp
  rw[e2]at q;exact q
 refine kat_go (λet=>?_) (λef=>?_)
 ·have ebc:b=c:=by simpa using et
  rw[LI ebc]at key;refine kat_yes (kat_cons (he _ _ _ _ (kat_go (λet2=>?_) (λef2=>?_))))
  ·refine kat_yes (kat_nil ?_);rw[decide_eq_false (by rw[iff.mp et2];omega)]at key;exact key
  ·exact kat_no (kat_one _ _ (PyProof.Rows.lt_int key))
 ·have ebc:b≠c:=by intro z;subst z;simp at ef
  rw[LH ebc]at key;exact kat_no (yJ key)
section
variable{X:Cx}{L4:LJ}{σ:St}{H:Hp}{s:LO}
def lU(X:Cx)(L4:LJ)(σ:St)(f:LN)(sp:Sp):Prop:=∀(s:LO) (H:Hp) (u:LP) (v:V) (Q:VK),Inv X L4 σ H s->RelV v u->sp [v] H Q E0->codeAny (model X.prog X.w) X.A.in1.in1 (.call (.ref f) #[[u],[]]) (CR CX0 X.stack X.prog X.w H s Q E0) s
structure SG(X:Cx)(L4:LJ)(σ:St)(H1:Hp)(m:LL)(kS D:LN)(e1:Nat)(ks:List SKey)(as:List V)(us:LM)(e:Nat)(H:Hp)(s:LO):Prop where
 I:Inv X L4 σ H s
 sm:Same H1 H
 fk:aZ X L4 H kS
 fd:aZ X L4 H D
 bk:X.base.get? kS=none
 bd:X.base.get? D=none
 hk:s.heap.get? kS=some (seqObj "list" (List.toArray us) e)
 hd:s.heap.get? D=some (seqObj "list" #[] e1)
 ns:s.heap.Ns X.env.locals m
 vals:Vals as us
 keys:∀(i:Nat) (a:V) (k:SKey),as[i]?=some a->ks[i]?=some k->k.at H a
def SG.fr{e1:Nat}{e:Nat}(S:SG X L4 σ H1 m kS D e1 ks as us e H s):Fr X.base X.env.locals s.heap m:=#[S.ns,S.I.bk,Zt S.I.ok.bsz S.I.ok.above]
theorem pU{e1:Nat}{ks:List SKey}{Fin:LM->Nat->LO->Prop}(hne:kS≠D)(rv:Vals xs its)(hl:ks.length=xs.length)(F:lU X L4 σ f sp)(spec:∀(i:Nat) (v:V) (key:SKey) (H':Hp),xs[i]?=some v->ks[i]?=some key->Same H1 H'->∀R:VK,(∀kv H'',Same H' H''->key.at H'' kv->R kv H'')->sp [v] H' R E0)(fin:∀(as:List V) (us:LM) (e:Nat) (H:Hp) (s:LO),SG X L4 σ H1 m kS D e1 ks as us e H s->as.length=xs.length->Fin us e s):
  ∀(r:LM) (as:List V) (us:LM) (e:Nat) (H:Hp) (s:LO),SG X L4 σ H1 m kS D e1 ks as us e H s->its=its.take as.length++r->as.length+r.length=xs.length ->
   KatKeys X.prog X.w X.A.in1.in1 X.base X.env.locals m kS (.ref f) Fin r us e s
 | [],as,us,e,H,s,S,_,hlen=>KatKeys.nil (fin as us e H s S (by simpa using hlen))
 |u::r,as,us,e,H,s,S,hits,hlen=>by
  have hi:as.length<xs.length:=by rw[Zl]at hlen;omega
  have hx:xs[as.length]?=some xs[as.length]:=z9 hi;exists[u',gu,ru],rv.get hx;have hlt:as.length<its.length:=by rw[<-rv.length];exact hi
  have gu':its[as.length]?=some u:=by rw[hits,ZF (by rw[ZD];omega),ZD,Y8 ∅,YV];rfl
  rw[gu']at gu;cases gu;have hkey:ks[as.length]?=some (ks[as.length]'∅):=z9 ∅;generalize ks[as.length]'∅=key at hkey;refine KatKeys.cons (wpAny_call (codeAny_mono (F s H u xs[as.length] (λv H''=>Same H H''/\key.at H'' v) S.I ru (spec _ _ _ H hx hkey S.sm _ λkv H'' s' q=>#[s',q])) λres s' hq=>?_));cases res with
  |error e=>exact hq
  |ok fl =>
   cases fl with
   |next=>exact False.elim hq
   |brk=>exact False.elim hq
   |cont=>exact False.elim hq
   |ret uv =>
    exists[v,H'',os,bare,un,hok,rvv,sm,ea],hq;exists[hh,g,d,t,os'],s';obtain rfl:os'=s.os:=os;have I2:Inv X L4 σ H'' { s with heap:=hh,gens:=g,drawn:=d,toks:=t }:=S.I.call (h':=hh) (g':=g) (d':=d) (t':=t) (ch:=[]) un hok bare (λb z=>absurd z (by simp));have nstk:∀{b:LN},aZ X L4 H b->b∉frs X.stack:=fun{b} fo z=>(Zf.mp (S.I.stkSub b z)).elim fo.2.1 fo.2.2.1;have hk2:hh.get? kS=some (seqObj "list" (List.toArray us) e):=un.keep kS _ S.hk S.fk.1 (nstk S.fk) (by simp);have hd2:hh.get? D=some (seqObj "list" #[] e1):=un.keep D _ S.hd S.fd.1 (nstk S.fd) (by simp);have ns2:hh.Ns X.env.locals m:=by exists[o,es,ep,ho,rr],id S.ns;exists[sl,hL],un.any ho S.I.free (by simp);exact#[_,es,ep,hL,rr]
    have fk2:aZ X L4 H'' kS:=#[un.free kS _ S.hk S.fk.1 (by simp),S.fk.2]
    have fd2:aZ X L4 H'' D:=#[un.free D _ S.hd S.fd.1 (by simp),S.fd.2]
    have hkL:kS≠X.env.locals:=S.fk.2.1;refine KatBack.intro (news:=(kS,seqObj "list" (List.toArray us) e)::dW X.base hh X.env.locals kS) ⟨ns2,I2.bk,Zt S.I.ok.bsz S.I.ok.above⟩ (de hk2 hkL S.bk) (.head dX) λh3 c F3 N3=>?_;have mv:=cZ (λb o q=>I2.bk b o q) F3 N3;have I3:Inv X L4 σ H'' { s with heap:=h3,gens:=g,drawn:=d,toks:=t }:=Inv.movedF (ch:=[kS]) (t':=t) I2 (λb hb=>by rw[Zj.mp hb];exact fk2) mv #[m,ns2,F3.ns];refine pU hne rv hl F spec fin r (as++[v]) (us++[uv]) c H'' _ #[I3,S.sm.trans sm,fk2,fd2,S.bk,S.bd,(N3 _ (.head _)).1,mv D _ S.fd.2.1 (λz=>hne (Zj.mp z).symm) hd2,F3.ns,S.vals.append (.cons rvv .nil),λi b key' h1 h2=>?_] ?_ ?_
    ·by_cases hi2:i<as.length
     ·rw[ZS hi2]at h1;exact(S.keys i b key' h1 h2).same sm
     ·have hi3:=(Zm.mp h1).1;rw[Zi,Z1]at hi3;have e3:i=as.length:=∅
      subst e3;rw[ZF (Ze _),YV]at h1;cases h1;rw[hkey]at h2;cases h2;exact ea
    ·rw[Zi,Z1,List.take_add_one,gu',Option.toList_some,ZO];exact hits
    ·rw[Zi,Z1,<-hlen,Zl];omega
def jX(b:Bool)(h:Vals xs us):Vals (katRev b xs) (katRev b us):=by
 cases b with
 |false=>exact h
 |true =>
  show Vals xs.reverse us.reverse;induction h with
  |nil=>exact .nil
  |cons r _ ih =>rw[List.reverse_cons,List.reverse_cons];exact ih.append (.cons r .nil)
def mC(n m:Int):HT.lexLt [n] [m]=decide (n<m):=by
 rw[HT.lexLt_cons,HT.lexLt_nil_nil];by_cases z:n=m
 ·rw[LI z,decide_eq_false ∅]
 ·rw[LH z]
def wx{ks:List SKey}{Q:VK}(I:Inv X L4 σ H s)(hH:H l=some (.lst xs))(h2:2<=xs.length)(h64:xs.length<64)(hl:ks.length=xs.length)(hne:oC ks)(hs1:argsOk "sorted" #[[.ref l],kw])(hs2:∀x,argsOk "list.sort" #[[.ref x],kw])(hs3:∀x,Builtin.«list.sort» #[[.ref x],kw]=ksk_tree x (.ref f) b)(F:∀l,lU (wX X l) L4 σ f sp)(spec:∀(i:Nat) (v:V) (key:SKey) (H':Hp),xs[i]?=some v->ks[i]?=some key->Same H H'->∀R:VK,(∀kv H'',Same H' H''->key.at H'' kv->R kv H'')->sp [v] H' R E0)(q:∀(p:LY) (H2:Hp) (D:LN),POk xs.length p->LS (λi j=>HT.lexLt ((katRev b (ks.map SKey.nums)).getD i []) ((katRev b (ks.map SKey.nums)).getD j [])) p xs.length->Same H H2->H2 D=none->Q (.ref D) (upd H2 D (.lst (katRev b (p.toList.map λi=>(katRev b xs).getD i .non))))):
  wpAny (model X.prog X.w) X.A (call (.builtin "sorted") [.ref l] kw) (EP X L4 σ Q) X.xe s:=by
 exists[z,its,n,rv,hlen,e],I.lstM hH;exists[m,F0],I.fr;have li:its.length=xs.length:=hlen.symm;refine kat_sortedK (vs:=its) (b:=b) F0 (eE X.base s.heap X.env.locals) #[_,e,rfl,n,rfl] ∅ ∅ hs1 hs2 hs3 λD kS e1 h1 F1 N1 hDk hD=>?_;have nD:=N1 (D,seqObj "list" #[] e1) (.tail _ (.head _));have nK:=N1 (kS,seqObj "list" #[] 0) (.head _);have hds:s.heap.get? D=none:=by
  cases g:s.heap.get? D with
  |none=>rfl
  |some o=>exact absurd (hD (D,o) (bQ g nD.2.1 nD.2.2)) (Yl _)
 have hks:s.heap.get? kS=none:=by
  cases g:s.heap.get? kS with
  |none=>rfl
  |some o=>exact absurd (Nat.lt_trans hDk (hD (kS,o) (bQ g nK.2.1 nK.2.2))) (Yl _)
 have xk:=I.exOk hks nK.2.1 nK.2.2;have xd:=I.exOk hds nD.2.1 nD.2.2;have hlx:∀b∈[kS,D],ExOk X b:=λb' hb=>by
  simp only[Zf,Zz,ZY]at hb;rcases hb with rfl|rfl
  ·exact xk
  ·exact xd
 have fpk:=I.fpW (l:=[kS,D]) (by simp) xk hks;have fpd:=I.fpW (l:=[kS,D]) (by simp) xd hds;have mv0:∀b u,b≠X.env.locals->b∉([]:List LN)->s.heap.get? b=some u->h1.get? b=some u:=λb u hL _ g=>by
  cases qb:X.base.get? b with
  |none=>exact(N1 (b,u) (.tail _ (.tail _ (bQ g hL qb)))).1
  |some o =>have e':=I.bk b o qb;rw[g]at e';cases e';exact F1.keep b u qb
 have I1:Inv X L4 σ H { s with heap:=h1 }:=Inv.movedF (ch:=[]) (t':=s.toks) I (λb hb=>absurd hb (by simp)) mv0 #[m,F0.ns,F1.ns];have I2:=I1.widen hlx;have hkd:kS≠D:=ZV hDk;refine pU (X:=wX X [kS,D]) (H1:=H) (D:=D) (e1:=e1) (ks:=ks) (xs:=xs) (its:=its) hkd rv hl (F _) spec (λas us e2 H' s' S la=>?_) its [] [] 0 H { s with heap:=h1 } #[I2,Same.refl H,fpk,fpd,nK.2.2,nD.2.2,nK.1,nD.1,F1.ns,.nil,λi a k h=>by simp at h] (by simp) (by simpa using li);have hN:its.length=xs.length:=li;have lu:us.length=xs.length:=by rw[<-S.vals.length,la]
 have rvR:Vals (katRev b xs) (katRev b its):=jX b rv;have lR:(katRev b xs).length=xs.length:=kat_len b xs;have gk:∀i,i<xs.length->∃(v:V) (u:LP) (k:SKey),RelV v u/\(katRev b us).getD i Value.none=u/\k∈ks/\(katRev b (ks.map SKey.nums)).getD i []=k.nums/\k.at H' v:=λi hi=>by
  obtain⟨j,hj,e1⟩:∃j,j<xs.length/\∀{α:Type} (l:List α),l.length=xs.length->(katRev b l)[i]?=l[j]?:=by
   cases b with
   |false=>exact#[i,hi,λl _=>rfl]
   | true=>exact#[xs.length - 1 - i,∅,λl hl'=>by
     show l.reverse[i]?=_;rw[YF ∅,hl']]
  have h1:as[j]?=some (as[j]'∅):=z9 ∅;have h2:ks[j]?=some (ks[j]'∅):=z9 ∅;exists[u,gu,ru],S.vals.get h1;refine#[_,u,_,ru,?_,ZG (show j<ks.length by omega),?_,S.keys j _ _ h1 h2]
  ·rw[Zg,e1 us lu,gu];rfl
  ·rw[Zg,e1 (ks.map SKey.nums) (by rw[Zd,hl]),Zq,h2];rfl
 have go:∀κ:SortKind,(∀(i j:Nat) (C:Bool->LO->Prop),i<xs.length->j<xs.length->C (HT.lexLt ((katRev b (ks.map SKey.nums)).getD i []) ((katRev b (ks.map SKey.nums)).getD j [])) s'->kas_ask X.prog X.w X.A.in1.in1 κ (katRev b us) i j C s') ->
   (kas_sort its.length).kasWp (kas_ask X.prog X.w X.A.in1.in1 κ (katRev b us)) (λp s3=>KatFin X.base X.env.locals m kS D us e2 e1 (katRev b (p.toList.map λi=>(katRev b its).getD i Value.none)) (λs4=>EP X L4 σ Q (.ref D) s4) s3) s':=λκ hask=>by
  rw[hN];refine mr (n:=xs.length) (lt:=λi j=>HT.lexLt ((katRev b (ks.map SKey.nums)).getD i []) ((katRev b (ks.map SKey.nums)).getD j [])) hask (λp hp hs=>?_) (nX ∅) (qC (uR _) ∅);refine KatFin.intro (news:=(kS,seqObj "list" (List.toArray us) e2)::dW X.base s'.heap X.env.locals kS) S.fr (de S.hk S.fk.2.1 S.bk) (.head dX) λh3 c F3 N3=>?_;have mv3:=cZ (λb' o qb=>S.I.bk b' o qb) F3 N3;have hd3:h3.get? D=some (seqObj "list" #[] e1):=mv3 D _ S.fd.2.1 (λzz=>hkd (Zj.mp zz).symm) S.hd;refine KasFin.intro (news:=(D,seqObj "list" #[] e1)::dW X.base h3 X.env.locals D) (s:={ s' with heap:=h3 }) F3 (de hd3 S.fd.2.1 S.bd) (.head dX) λh4 c4 F4 N4=>?_;have mv4:=cZ (λb' o qb=>F3.keep b' o qb) F4 N4;have hch:∀b∈[kS,D],aZ (wX X [kS,D]) L4 H' b:=λb' hb=>by
   simp only[Zf,Zz,ZY]at hb;rcases hb with rfl|rfl
   ·exact S.fk
   ·exact S.fd
  have mv:∀b u,b≠X.env.locals->b∉[kS,D]->s'.heap.get? b=some u->h4.get? b=some u:=λb' u hL hx g=>mv4 b' u hL (λzz=>hx (by rw[Zj.mp zz];simp)) (mv3 b' u hL (λzz=>hx (by rw[Zj.mp zz];simp)) g);have pl:∀i∈p.toList,i<xs.length:=λi hi=>by have:=(hp.mem_iff).mp (Ys.mp hi);simpa using this
  have vals:∀(w:List Nat),(∀i∈w,i<xs.length)->Vals (w.map λi=>(katRev b xs).getD i .non) (w.map λi=>(katRev b its).getD i Value.none):=λw=>by
   induction w with
   |nil=>intro _;exact .nil
   |cons i w ih =>intro hw;have hi:=hw i Zo;have hx:(katRev b xs)[i]?=some ((katRev b xs)[i]'∅):=z9 ∅;exists[u,gu,ru],rvR.get hx;refine .cons ?_ (ih λj hj=>hw j (Zn _ hj));show RelV ((katRev b xs).getD i V.non) ((katRev b its).getD i Value.none);rw[Zg,Zg,hx,gu];exact ru
  have lp:p.toList.length=xs.length:=by have:=hs.1;simpa using this
  have new:ObjOk X.prog X.w (upd H' D (.lst (katRev b (p.toList.map λi=>(katRev b xs).getD i .non)))) h4 D (.lst (katRev b (p.toList.map λi=>(katRev b xs).getD i .non))):=#[by rw[kat_len,Zd,lp];exact dh ∅,_,c4,jX b (vals _ pl),(N4 _ (.head _)).1]
  have I4:=Inv.tookF (X:=wX X [kS,D]) (ch:=[kS,D]) (a:=D) (o:=.lst (katRev b (p.toList.map λi=>(katRev b xs).getD i .non))) (t':=s'.toks) S.I (by simp) hch mv #[m,S.ns,F4.ns] new;exact#[.ref D,_,I4.narrow I.ok (λb' hb=>(hlx b' hb).old),rfl,q p H' D hp hs.2 S.sm S.fd.1]
 rcases hne with hI|hS|hB
 ·refine kas_kind (T:=.type "int") ∅ (λu hu=>?_) rfl rfl (go _ λi j C hi hj hC=>?_)
  ·exists[j,hj,rfl],Y0 hu;have h1:as[j]?=some (as[j]'∅):=z9 ∅;have h2:ks[j]?=some (ks[j]'∅):=z9 ∅;exists[u,gu,ru],S.vals.get h1;have ky:=S.keys j _ _ h1 h2;exists[n',en],hI _ (ZG (show j<ks.length by omega));rw[en]at ky;rw[show as[j]'∅=V.int n' from ky]at ru;exists[t,rfl],ru;rw[z9 hj]at gu;rw[ZB gu];exact .now
  ·exists[v,u,k1,ru,eu,m1,en,at1],gk i hi;exists[v2,u2,k2,ru2,eu2,m2,en2,at2],gk j hj;exists[n1,rfl],hI _ m1;exists[n2,rfl],hI _ m2;rw[show v=V.int n1 from at1]at ru;rw[show v2=V.int n2 from at2]at ru2;exists[t,rfl],ru;exists[t2,rfl],ru2;unfold kas_ask;rw[eu,eu2];rw[en,en2]at hC;refine kat_lt_int ?_;have e1':HT.lexLt (SKey.i n1).nums (SKey.i n2).nums=decide (n1<n2):=mC n1 n2;rw[e1']at hC;exact hC
 ·refine kas_kind (T:=.type "str") ∅ (λu hu=>?_) rfl rfl (go _ λi j C hi hj hC=>?_)
  ·exists[j,hj,rfl],Y0 hu;have h1:as[j]?=some (as[j]'∅):=z9 ∅;have h2:ks[j]?=some (ks[j]'∅):=z9 ∅;exists[u,gu,ru],S.vals.get h1;have ky:=S.keys j _ _ h1 h2;exists[n',en],hS _ (ZG (show j<ks.length by omega));rw[en]at ky;rw[show as[j]'∅=V.str n' from ky]at ru;exists[t,rfl],ru;rw[z9 hj]at gu;rw[ZB gu];exact .now
  ·exists[v,u,k1,ru,eu,m1,en,at1],gk i hi;exists[v2,u2,k2,ru2,eu2,m2,en2,at2],gk j hj;exists[n1,rfl],hS _ m1;exists[n2,rfl],hS _ m2;rw[show v=V.str n1 from at1]at ru;rw[show v2=V.str n2 from at2]at ru2;exists[t,rfl],ru;exists[t2,rfl],ru2;unfold kas_ask;rw[eu,eu2];rw[en,en2]at hC;refine kas_lt_str ?_;have e1':HT.lexLt (SKey.s n1).nums (SKey.s n2).nums=decide (n1.cps.toList<n2.cps.toList):=qE _ _;rw[e1']at hC;exact hC
 ·have tups:∀(vs:List V) (ws:LM) (n:Nat),Vals vs ws->n+vs.length=ks.length->(∀(i:Nat) (v:V) (k:SKey),vs[i]?=some v->ks[n+i]?=some k->k.at H' v)->∃fs:LM,KatTups s'.heap ws fs/\fs.length=ws.length/\∀v∈fs,∃b,v=.bool b:=λvs=>by
   induction vs with
   |nil =>intro ws n hv _ _;cases hv;exact#[[],KatTups.nil,rfl,λv h=>nomatch h]
   |cons v vs ih =>
    intro ws n hv hl' h;cases hv with
    |cons rv1 hv =>
     rw[Zl]at hl';have hkn:ks[n]?=some (ks[n]'∅):=z9 ∅;exists[b',n',en],hB _ (ZG (show n<ks.length by omega));rw[en]at hkn;exists[a,rfl,ea],h 0 v _ rfl (by rw[Nat.add_zero];exact hkn);cases rv1;exists[ia,ra,pa,za],S.I.tuple (L6 (K:=X.K) ea);exists[oa,eo,ca,n1,da],id pa;cases ra with
     |cons r1 ra =>
      cases r1;exists[fs,f1,f2,f3],ih _ (n+1) hv ∅ (λi w k' h1 h2=>h (i+1) w k' h1 (by rw[show n+(i+1)=n+1+i by omega];exact h2));refine#[.bool b'::fs,KatTups.cons eo ca da rfl f1,by rw[Zl,Zl,f2],λv hv=>?_];rcases Zf.mp hv with rfl|hv
      ·exact#[_,rfl]
      ·exact f3 v hv
  exists[fs,t1,t2,t3],tups as us 0 S.vals ∅ (λi v k h1 h2=>S.keys i v k h1 (by rw[Nat.zero_add]at h2;exact h2));refine kat_kind (T:=.type "bool") t1 ∅ (λv hv=>?_) rfl (go _ λi j C hi hj hC=>?_)
  ·exists[b',rfl],t3 v hv;exact .now
  ·exists[v,u,k1,ru,eu,m1,en,at1],gk i hi;exists[v2,u2,k2,ru2,eu2,m2,en2,at2],gk j hj;exists[b1,n1,rfl],hB _ m1;exists[b2,n2,rfl],hB _ m2;exists[a1,rfl,ha1],at1;exists[a2,rfl,ha2],at2;cases ru;cases ru2;exists[ia,ra,pa,za],S.I.tuple (L6 (K:=X.K) ha1);exists[ib,rb,pb,zb],S.I.tuple (L6 (K:=X.K) ha2);exists[oa,eoa,ca,q1,da],id pa;exists[ob,eob,cb,q2,db],id pb;exists[wa,wb,rfl,ra1,ra2],fW ra;exists[wc,wd,rfl,rb1,rb2],fW rb;cases ra1;cases rb1;exists[t,rfl],ra2;exists[t2,rfl],rb2;unfold kas_ask;rw[eu,eu2];rw[en,en2]at hC;exact kat_lt eoa da eob db (Au rfl hC)
def rM{α:Type}{x:Array α}(h:x.size<2):x.reverse=x:=by
 apply Y2.mp;rw[Array.toList_reverse]
 match x,h with
 |⟨[]⟩,_=>rfl
 |⟨[_]⟩,_=>rfl
 |⟨_::_::_⟩,h=>exact absurd h (by simp)
def rA{s:LO}{items keys:Array LP}{before:Nat}(h:items.size<2)(q:wpAny M A (ksk_end a false items before kS keys) P E s):wpAny M A (ksk_end a b items before kS keys) P E s:=by
 cases b with
 |false=>exact q
 |true =>
  have z:(keys.zip items).size<2:=by rw[Array.size_zip];omega
  have e:ksk_end a true items before kS keys=(rule "list.sort.reverse" >>= λ_=>ksk_end a false items before kS keys):=by
   unfold ksk_end;simp only[if_true,y6,YH,LI h,pure_bind,StateT.run_pure,rM z];have e2:ksk_tail a true before kS (SortSt.mk' general' (keys.zip items) #[] 7 none)=ksk_tail a false before kS (SortSt.mk' general' (keys.zip items) #[] 7 none):=by unfold ksk_tail;have e3:(Array.map (λx=>x.snd) (arrOf (SortSt.mk' general' (keys.zip items) #[] 7 none))).reverse=Array.map (λx=>x.snd) (arrOf (SortSt.mk' general' (keys.zip items) #[] 7 none)):=rM (by rw[Array.size_map];exact z);simp only[if_true,y6,YH,e3]
   rw[e2]
  rw[e];exact z6 (Yv q)
def BE{P:PySem.Fin->LO->Prop}{n:Nat}{b:Bool}(ho:s.heap.get? a=some (seqObj "list" (List.toArray [v]) n))(h:∀ (h1:Heap) (e1:Nat) (kS:LN),(∀ b u,b≠a->s.heap.get? b=some u->h1.get? b=some u)->h1.get? a=some (seqObj "list" #[] e1)->h1.get? kS=some (seqObj "list" #[] 0)->s.heap.objs.size<=kS ->
   wpAny (model X.prog X.w) A (call f [v]) (λk s2=>∃ e,s2.heap.get? kS=some (seqObj "list" #[] e)/\s2.heap.get? a=some (seqObj "list" #[] e1) /\
    ∀ h3 c,(∀ b u,b≠a->b≠kS->s2.heap.get? b=some u->h3.get? b=some u)->h3.get? a=some (seqObj "list" (List.toArray [v]) c)->(∃ o,h3.get? kS=some o)->P (.done (.ret .none)) { s2 with heap:=h3 }) (λ_ _=>False) { s with heap:=h1 }):
  wpAny (model X.prog X.w) A (ksk_tree a f b) P E s:=by
 have u1:=ZI s.heap a (Obj.mapSeq λ_=>(#[]:Array LP));obtain⟨e1,o1⟩:∃e1,(s.heap.update a (Obj.mapSeq λ_=>(#[]:Array LP))).get? a=some (seqObj "list" #[] e1):=#[_,Yc ho λ_=>#[]]
 have zk:((s.heap.update a (Obj.mapSeq λ_=>(#[]:Array LP))).push (seqObj "tuple" (List.toArray [v]) 0)).objs.size=s.heap.objs.size+1:=by rw[size_push',Heap.size_update]
 unfold ksk_tree;refine z6 (listItems_at ho rfl (z6 (Ym ho rfl (z6 (seqEpoch_at o1 rfl (z6 (wpAny_newTuple (z6 (wpAny_newList (Z2 ?_) (Zy _))) (sz rfl))))) (sz rfl) (Zy _))));have la:a<s.heap.objs.size:=Zr ho;have key:=h (((s.heap.update a (Obj.mapSeq λ_=>(#[]:Array LP))).push (seqObj "tuple" (List.toArray [v]) 0)).push (seqObj "list" #[] 0)) e1 (s.heap.objs.size+1) (λb u hb g=>Za _ (Za _ ((u1.2 b hb).trans g))) (Za _ (Za _ o1)) (by rw[<-zk];exact Zk _ rfl) (YA _);show wpAny (model X.prog X.w) A (ksk_rest a f b (List.toArray [v]) e1 (.ref ((s.heap.update a (Obj.mapSeq λ_=>(#[]:Array LP))).push (seqObj "tuple" (List.toArray [v]) 0)).objs.size)) P E { s with heap:=((s.heap.update a (Obj.mapSeq λ_=>(#[]:Array LP))).push (seqObj "tuple" (List.toArray [v]) 0)).push (seqObj "list" #[] 0) };rw[zk];have hne:s.heap.objs.size+1≠a:=ZV (Yj la);generalize((s.heap.update a (Obj.mapSeq λ_=>(#[]:Array LP))).push (seqObj "tuple" (List.toArray [v]) 0)).push (seqObj "list" #[] 0)=h1 at key ⊢;generalize s.heap.objs.size+1=kS at key hne ⊢;unfold ksk_rest;refine z6 (Yv ?_);rw[<-Array.forIn_toList];show wpAny _ _ (forIn [v] PUnit.unit _ >>= _) _ _ _;rw[List.forIn_cons,bind_assoc];refine z6 ?_;refine z6 (wpAny_attempt (Z7 key (λk s2 hk=>?_) λ_ _ x=>x.elim));exists[e,hks,ha2,fin],hk;dsimp only;have v1:=ZI s2.heap kS (Obj.mapSeq (·.push k));obtain⟨c2,hc2⟩:∃c2,(s2.heap.update kS (Obj.mapSeq (·.push k))).get? kS=some (seqObj "list" (List.toArray [k]) c2):=#[_,Yc hks (·.push k)]
 have ha3:=(v1.2 a hne.symm).trans ha2;refine z6 (Ym hks rfl (Zb ?_) (Zy _) (x9 (sz rfl)));dsimp only;rw[List.forIn_nil,pure_bind];refine z6 (listItems_at hc2 rfl ?_);refine rA (YE rfl) ?_;unfold ksk_end ksk_tail;have h2:((List.toArray [v]):Array LP).size<2:=YE rfl;have v2:=ZI (s2.heap.update kS (Obj.mapSeq (·.push k))) kS (Obj.mapSeq λ_=>(#[]:Array LP));have ha4:=(v2.2 a hne.symm).trans ha3;obtain⟨c3,hc3⟩:∃c3,((s2.heap.update kS (Obj.mapSeq (·.push k))).update kS (Obj.mapSeq λ_=>(#[]:Array LP))).get? kS=some (seqObj "list" #[] c3):=#[_,Yc hc2 λ_=>#[]]
 have v3:=ZI ((s2.heap.update kS (Obj.mapSeq (·.push k))).update kS (Obj.mapSeq λ_=>(#[]:Array LP))) a (Obj.mapSeq λ_=>((List.toArray [v]):Array LP));obtain⟨c4,hc4⟩:∃c4,(((s2.heap.update kS (Obj.mapSeq (·.push k))).update kS (Obj.mapSeq λ_=>(#[]:Array LP))).update a (Obj.mapSeq λ_=>((List.toArray [v]):Array LP))).get? a=some (seqObj "list" (List.toArray [v]) c4):=#[_,Yc ha4 λ_=>(List.toArray [v])]
 have ez:((List.toArray [k]):Array LP).zip (List.toArray [v])=(List.toArray [(k,v)]):=by apply Y2.mp;rw[Array.toList_zip];rfl
 simp only[ez,y6,YH];rw[LI h2,LI h2];refine z6 (Zb ?_);rw[StateT.run_pure];refine z6 (Zb ?_);dsimp only;have em:Array.map (λx=>x.snd) (arrOf (SortSt.mk' general' (List.toArray [(k,v)]) #[] 7 none))=(List.toArray [v]):=by show Array.map (λx:LP×LP=>x.2) (List.toArray [(k,v)])=_;simp
 rw[em];refine z6 (Ym hc2 rfl (z6 (wpAny_letGo (z6 (seqEpoch_at ha4 rfl (z6 (Ym ha4 rfl ?_ (Zy _) (x9 (sz rfl)))))))) (sz rfl) (Zy _));simp only[bne_self_eq_false,y6,YH];refine Zb (fin _ c4 (λb u h1 h2 g=>(v3.2 b h1).trans ((v2.2 b h2).trans ((v1.2 b h2).trans g))) hc4 #[_,(v3.2 kS hne).trans hc3])
def wE{Q:VK}(I:Inv X L4 σ H s)(hH:H l=some (.lst [xv]))(hs1:argsOk "sorted" #[[.ref l],kw])(hs2:∀x,argsOk "list.sort" #[[.ref x],kw])(hs3:∀x,Builtin.«list.sort» #[[.ref x],kw]=ksk_tree x (.ref f) b)(F:∀l,lU (wX X l) L4 σ f sp)(spec:∀H',Same H H'->∀R:VK,(∀v H'',Same H' H''->R v H'')->sp [xv] H' R E0)(q:∀(H2:Hp) (D:LN),Same H H2->H2 D=none->Q (.ref D) (upd H2 D (.lst [xv]))):
  wpAny (model X.prog X.w) X.A (call (.builtin "sorted") [.ref l] kw) (EP X L4 σ Q) X.xe s:=by
 exists[z,its,n,rv,hlen,e],I.lstM hH;exists[v,rfl,rvv],bG rv;refine call_function_entry_kw kind_sorted plain_sorted entry_sorted hs1 ?_;unfold Builtin.«sorted»;refine z6 (m:=checkCount "sorted" 1 1 _) (Zb (z6 (collect_list #[_,e,rfl,n,rfl] (z6 (wpAny_newList ?_ (sz rfl))) (sz rfl))));have z1:((s.heap.push (seqObj "list" #[] 0)).update s.heap.objs.size (Obj.mapSeq (·++[v].toArray))).objs.size=s.heap.objs.size+1:=by rw[Heap.size_update,size_push']
 have g1:(((s.heap.push (seqObj "list" #[] 0)).update s.heap.objs.size (Obj.mapSeq (·++[v].toArray))).push (seqObj "list" (List.toArray [v]) 0)).get? (s.heap.objs.size+1)=some (seqObj "list" (List.toArray [v]) 0):=by rw[<-z1];exact Zk _ rfl
 have kp:∀b o,s.heap.get? b=some o->(((s.heap.push (seqObj "list" #[] 0)).update s.heap.objs.size (Obj.mapSeq (·++[v].toArray))).push (seqObj "list" (List.toArray [v]) 0)).get? b=some o:=λb o g=>by have lt:=Zr g;rw[Heap.get?_push_ne _ _ _ (by rw[z1];exact Zx (Yj lt)),Heap.get?_update_ne _ _ _ _ (Zx lt),Heap.get?_push_ne _ _ _ (Zx lt)];exact g
 have zA:(((s.heap.push (seqObj "list" #[] 0)).update s.heap.objs.size (Obj.mapSeq (·++[v].toArray))).push (seqObj "list" (List.toArray [v]) 0)).objs.size=s.heap.objs.size+2:=by rw[size_push',z1]
 show wpAny _ _ _ _ _ { s with heap:=((s.heap.push (seqObj "list" #[] 0)).update s.heap.objs.size (Obj.mapSeq (·++[v].toArray))).push (seqObj "list" (List.toArray [v]) 0) };rw[z1];generalize(((s.heap.push (seqObj "list" #[] 0)).update s.heap.objs.size (Obj.mapSeq (·++[v].toArray))).push (seqObj "list" (List.toArray [v]) 0))=hA at g1 kp zA ⊢;refine z6 (Z2 (wpAny_call_entry_kw slot_list_sort #[_,g1,rfl] entry_list_sort ?body (hs2 _)))
 case body =>
  show wpAny (model X.prog X.w) X.A.in1.in1 (Builtin.«list.sort» #[[.ref (s.heap.objs.size+1)],_]) _ _ _;rw[hs3];refine BE (s:={ s with heap:=hA }) g1 λh1 e1 kS k1 ha hk hz=>?_;have lz:s.heap.objs.size+2<=kS:=by rw[<-zA];exact hz
  have nka:kS≠s.heap.objs.size+1:=ZV lz;have da:s.heap.get? (s.heap.objs.size+1)=none:=Yr (YA _);have dk:s.heap.get? kS=none:=Yr (Zt (YI _ 2) lz);have fa:aZ X L4 H (s.heap.objs.size+1):=I.fpOk (YA _) (none_of I da);have fk:aZ X L4 H kS:=I.fpOk (Zt (YI _ 2) lz) (none_of I dk);have IA:Inv X L4 σ H { s with heap:=h1 }:=I.kept (t':=s.toks) λb o g=>k1 b o (λzz=>by rw[zz,da]at g;cases g) (kp b o g);refine wpAny_call (codeAny_mono (F [] { s with heap:=h1 } H v xv (λ_ H''=>Same H H'') IA rvv (spec H (Same.refl H) _ λv H'' s'=>s')) λres s' hq=>?_);cases res with
  |error e=>exact hq
  |ok fl =>
   cases fl with
   |next=>exact False.elim hq
   |brk=>exact False.elim hq
   |cont=>exact False.elim hq
   |ret uv =>
    exists[v',H'',os,bare,un,hok,_,sm],hq;exists[hh,g,d,t,os'],s';obtain rfl:os'=s.os:=os;have I2:Inv X L4 σ H'' { s with heap:=hh,gens:=g,drawn:=d,toks:=t }:=Inv.call (s:={ s with heap:=h1 }) (h':=hh) (g':=g) (d':=d) (t':=t) (ch:=[]) IA un hok bare (λb zz=>absurd zz (by simp));have nstk:∀{b:LN},aZ X L4 H b->b∉frs X.stack:=fun{b} fo zz=>(Zf.mp (I.stkSub b zz)).elim fo.2.1 fo.2.2.1;have hk2:=un.keep kS _ hk fk.1 (nstk fk) (by simp);have ha2:=un.keep _ _ ha fa.1 (nstk fa) (by simp);have fk2:aZ X L4 H'' kS:=#[un.free kS _ hk fk.1 (by simp),fk.2]
    have fa2:aZ X L4 H'' (s.heap.objs.size+1):=#[un.free _ _ ha fa.1 (by simp),fa.2]
    refine#[_,hk2,ha2,λh3 c m3 a3 _=>#[_,rfl,Zb #[_,rfl,?_]]];have hL:X.env.locals≠s.heap.objs.size+1/\X.env.locals≠kS:=#[fa.2.1.symm,fk.2.1.symm]
    have nsL:∃m,hh.Ns X.env.locals m/\h3.Ns X.env.locals m:=by exists[m,hn,_],I2.loc;exists[o,es,ep,ho,rr],id hn;exact#[m,hn,o,es,ep,m3 _ _ hL.1 hL.2 ho,rr]
    have new:ObjOk X.prog X.w (upd H'' (s.heap.objs.size+1) (.lst [xv])) h3 (s.heap.objs.size+1) (.lst [xv]):=#[sz rfl,[v],c,.cons rvv .nil,a3]
    have I4:=Inv.tookF (ch:=[s.heap.objs.size+1,kS]) (a:=s.heap.objs.size+1) (o:=.lst [xv]) (t':=t) I2 (by simp) (λb hb=>by
     simp only[Zf,Zz,ZY]at hb;rcases hb with rfl|rfl
     ·exact fa2
     ·exact fk2) (λb u _ hx gg=>m3 b u (λzz=>hx (by simp[zz])) (λzz=>hx (by simp[zz])) gg) nsL new
    exact#[.ref _,_,I4,rfl,q H'' _ sm fa2.1]
def zj{P:PySem.Fin->LO->Prop}{n:Nat}{b:Bool}(ho:s.heap.get? a=some (seqObj "list" #[] n))(h:∀(h3:Heap) (c:Nat),(∀b u,b≠a->s.heap.get? b=some u->h3.get? b=some u)->h3.get? a=some (seqObj "list" #[] c)->P (.done (.ret .none)) { s with heap:=h3 }):
  wpAny (model X.prog X.w) A (ksk_tree a f b) P E s:=by
 have u1:=ZI s.heap a (Obj.mapSeq λ_=>(#[]:Array LP));obtain⟨e1,o1⟩:∃e1,(s.heap.update a (Obj.mapSeq λ_=>(#[]:Array LP))).get? a=some (seqObj "list" #[] e1):=#[_,Yc ho λ_=>#[]]
 have zk:((s.heap.update a (Obj.mapSeq λ_=>(#[]:Array LP))).push (seqObj "tuple" #[] 0)).objs.size=s.heap.objs.size+1:=by rw[size_push',Heap.size_update]
 unfold ksk_tree;refine z6 (listItems_at ho rfl (z6 (Ym ho rfl (z6 (seqEpoch_at o1 rfl (z6 (wpAny_newTuple (z6 (wpAny_newList (Z2 ?_) (Zy _))) (sz rfl))))) (sz rfl) (Zy _))));have la:a<s.heap.objs.size:=Zr ho;have hk1:(((s.heap.update a (Obj.mapSeq λ_=>(#[]:Array LP))).push (seqObj "tuple" #[] 0)).push (seqObj "list" #[] 0)).get? (s.heap.objs.size+1)=some (seqObj "list" #[] 0):=by rw[<-zk];exact Zk _ rfl
 have kp:∀b u,b≠a->s.heap.get? b=some u->(((s.heap.update a (Obj.mapSeq λ_=>(#[]:Array LP))).push (seqObj "tuple" #[] 0)).push (seqObj "list" #[] 0)).get? b=some u:=λb u hb g=>Za _ (Za _ ((u1.2 b hb).trans g));have ha1:(((s.heap.update a (Obj.mapSeq λ_=>(#[]:Array LP))).push (seqObj "tuple" #[] 0)).push (seqObj "list" #[] 0)).get? a=some (seqObj "list" #[] e1):=Za _ (Za _ o1);show wpAny (model X.prog X.w) A (ksk_rest a f b #[] e1 (.ref ((s.heap.update a (Obj.mapSeq λ_=>(#[]:Array LP))).push (seqObj "tuple" #[] 0)).objs.size)) P E { s with heap:=((s.heap.update a (Obj.mapSeq λ_=>(#[]:Array LP))).push (seqObj "tuple" #[] 0)).push (seqObj "list" #[] 0) };rw[zk];have hne:s.heap.objs.size+1≠a:=ZV (Yj la);have old:∀b u,s.heap.get? b=some u->b≠s.heap.objs.size+1:=λb u g=>Zx (Yj (Zr g));generalize((s.heap.update a (Obj.mapSeq λ_=>(#[]:Array LP))).push (seqObj "tuple" #[] 0)).push (seqObj "list" #[] 0)=h1 at hk1 kp ha1 ⊢;generalize s.heap.objs.size+1=kS at hk1 hne old ⊢;unfold ksk_rest;refine z6 (Yv ?_);rw[<-Array.forIn_toList];show wpAny _ _ (forIn [] PUnit.unit _ >>= _) _ _ _;rw[List.forIn_nil,pure_bind];refine z6 (listItems_at hk1 rfl ?_);refine rA (YE rfl) ?_;unfold ksk_end ksk_tail;have h2:(#[]:Array LP).size<2:=YE rfl;have v2:=ZI h1 kS (Obj.mapSeq λ_=>(#[]:Array LP));have ha4:=(v2.2 a hne.symm).trans ha1;have v3:=ZI (h1.update kS (Obj.mapSeq λ_=>(#[]:Array LP))) a (Obj.mapSeq λ_=>(#[]:Array LP));obtain⟨c4,hc4⟩:∃c4,((h1.update kS (Obj.mapSeq λ_=>(#[]:Array LP))).update a (Obj.mapSeq λ_=>(#[]:Array LP))).get? a=some (seqObj "list" #[] c4):=#[_,Yc ha4 λ_=>#[]]
 have ez:(#[]:Array LP).zip (#[]:Array LP)=#[]:=by simp
 simp only[ez,y6,YH];rw[LI h2,LI h2];refine z6 (Zb ?_);rw[StateT.run_pure];refine z6 (Zb ?_);dsimp only;have em:Array.map (λx=>x.snd) (arrOf (SortSt.mk' general' #[] #[] 7 none))=#[]:=by show Array.map (λx:LP×LP=>x.2) #[]=_;simp
 rw[em];refine z6 (Ym hk1 rfl (z6 (wpAny_letGo (z6 (seqEpoch_at ha4 rfl (z6 (Ym ha4 rfl ?_ (Zy _) (Zy _))))))) (Zy _) (Zy _));simp only[bne_self_eq_false,y6,YH];exact Zb (h _ c4 (λb u hb g=>(v3.2 b hb).trans ((v2.2 b (old b u g)).trans (kp b u hb g))) hc4)
def vN{Q:VK}(I:Inv X L4 σ H s)(hH:H l=some (.lst []))(hs1:argsOk "sorted" #[[.ref l],kw])(hs2:∀x,argsOk "list.sort" #[[.ref x],kw])(hs3:∀x,Builtin.«list.sort» #[[.ref x],kw]=ksk_tree x (.ref f) b)(q:∀D:LN,H D=none->Q (.ref D) (upd H D (.lst []))):
  wpAny (model X.prog X.w) X.A (call (.builtin "sorted") [.ref l] kw) (EP X L4 σ Q) X.xe s:=by
 exists[z,its,n,rv,hlen,e],I.lstM hH;cases rv;refine call_function_entry_kw kind_sorted plain_sorted entry_sorted hs1 ?_;unfold Builtin.«sorted»;refine z6 (m:=checkCount "sorted" 1 1 _) (Zb (z6 (collect_list #[_,e,rfl,n,rfl] (z6 (wpAny_newList ?_ (Zy _))) (Zy _))));have z1:((s.heap.push (seqObj "list" #[] 0)).update s.heap.objs.size (Obj.mapSeq (·++([]:LM).toArray))).objs.size=s.heap.objs.size+1:=by rw[Heap.size_update,size_push']
 have g1:(((s.heap.push (seqObj "list" #[] 0)).update s.heap.objs.size (Obj.mapSeq (·++([]:LM).toArray))).push (seqObj "list" #[] 0)).get? (s.heap.objs.size+1)=some (seqObj "list" #[] 0):=by rw[<-z1];exact Zk _ rfl
 have kp:∀b o,s.heap.get? b=some o->(((s.heap.push (seqObj "list" #[] 0)).update s.heap.objs.size (Obj.mapSeq (·++([]:LM).toArray))).push (seqObj "list" #[] 0)).get? b=some o:=λb o g=>by have lt:=Zr g;rw[Heap.get?_push_ne _ _ _ (by rw[z1];exact Zx (Yj lt)),Heap.get?_update_ne _ _ _ _ (Zx lt),Heap.get?_push_ne _ _ _ (Zx lt)];exact g
 show wpAny _ _ _ _ _ { s with heap:=((s.heap.push (seqObj "list" #[] 0)).update s.heap.objs.size (Obj.mapSeq (·++([]:LM).toArray))).push (seqObj "list" #[] 0) };rw[z1];generalize(((s.heap.push (seqObj "list" #[] 0)).update s.heap.objs.size (Obj.mapSeq (·++([]:LM).toArray))).push (seqObj "list" #[] 0))=hA at g1 kp ⊢;refine z6 (Z2 (wpAny_call_entry_kw slot_list_sort #[_,g1,rfl] entry_list_sort ?body (hs2 _)))
 case body =>
  show wpAny (model X.prog X.w) X.A.in1.in1 (Builtin.«list.sort» #[[.ref (s.heap.objs.size+1)],_]) _ _ _;rw[hs3];refine zj (X:=X) (s:={ s with heap:=hA }) g1 λh3 c k3 a3=>#[_,rfl,Zb #[_,rfl,?_]]
  have da:s.heap.get? (s.heap.objs.size+1)=none:=Yr (YA _);exact#[.ref _,_,I.laid (t':=s.toks) (o:=.lst []) (λb o g=>k3 b o (λzz=>by rw[zz,da]at g;cases g) (kp b o g)) (YA _) #[Zy _,[],c,.nil,a3],rfl,q _ (none_of I da)]
end
structure LamScope(x y:Str)(sc:Scope):Prop where
 kind:sc.kind=.function
 co:sc.isCoroutine=false
 gen:sc.isGenerator=false
 lx:sc.names.lookup x=some .local
 ly:sc.names.lookup y=some .free
 nc:∀z∈sc.names,z.2≠.cell
 nf:∀z∈sc.names,z.2=.free->z.1=y
 ne:x≠y
def cxX(CX:CXT)(P:LQ)(w:LU)(K:W.Frag)(mg:LL)(base:Heap)(N:List Str)(qual:Str)(scope:Scope)(f:LN)(cd:LP)(cl:List (Str×LN))(A:LV)(outer:List Env)(s:LO)(H:Hp)(E:XK):Cx where
 prog:=P
 w:=w
 K:=K
 mg:=mg
 base:=base
 A:=A.deeper (envX qual scope s.heap.objs.size f cd cl)
 N:=N
 s₀:=s
 H₀:=H
 env:=envX qual scope s.heap.objs.size f cd cl
 outer:=outer
 stack:=envX qual scope s.heap.objs.size f cd cl::outer
 ex:=[]
 calm:=true
 fn:=λ_=>false
 pn:=[]
 xe:=λe s'=>wpAny (model P w) (A.deeper (envX qual scope s.heap.objs.size f cd cl)) (leaving (envX qual scope s.heap.objs.size f cd cl) e) (λ_ s''=>CX outer H s E e s'') (λe' s''=>CX outer H s E e' s'') s'
def yo{w:LU}{K:W.Frag}{A:LV}{h1:Heap}{tk:Nat}(S:LamScope x y scope)(hd:A.handled=none)(e0:↑Env0 A outer s H)(r:RelV v u)(kr:RelV kv ku)(hc:s.heap.IsCell c (some ku))(fc:H c=none)(hns:h1.Ns s.heap.objs.size λz=>[(x,u)].reverse.lookup z)(hk:∀b o,s.heap.get? b=some o->h1.get? b=some o):
  Inv (cxX CX P w K mg base [x,y] qual scope f cd [(y,c)] A outer s H E) [] [some v,some kv] H { s with heap:=h1,toks:=tk }:=by
 have noA:∀b:LN,b∉(cxX CX P w K mg base [x,y] qual scope f cd [(y,c)] A outer s H E).ex:=λb z=>absurd (show b∈([]:List LN)from z) (by simp);have lk:∀{z:Str} {d:LN},([(y,c)]:List (Str×LN)).lookup z=some d->z=y/\d=c:=fun{z d} h=>by
  rw[ZX]at h;split at h
  ·rename_i e;cases h;exact#[by simpa using e,rfl]
  ·cases h
 have ly:([(y,c)]:List (Str×LN)).lookup y=some c:=by simp
 have cell1:h1.IsCell c (some ku):=by exists[o,a1,a2],hc;exact#[o,hk _ _ a1,a2]
 refine#[#[e0.mod,S.kind,rfl,rfl,Ze _,λz z' d q1 q2=>?_,λz hz=>?_,λz d q _=>(nomatch q),λ_=>hd,Around.frames_deeper e0.frames,.inr #[rfl,rfl],λb z=>absurd z (noA b),e0.bs,e0.bsz,λb _ _=>noA b,λb z=>absurd z (noA b),e0.funs,e0.frf],
  rfl,e0.bare,Un.kept hk,#[_,hns,λi z v' q1 q2 q3=>?_],λz d q=>#[some ku,by rw[(lk q).2];exact cell1],e0.hok.fresh (Ze _),λz d q=>by rw[(lk q).2];exact fc,λp hp=>absurd (show p∈([]:LJ) from hp) (by simp),e0.hok.kept hk,rfl]
 ·exact(lk q1).1.trans (lk q2).1.symm
 ·have hz:scope.names.lookup z=some .cell\/scope.names.lookup z=some .free:=hz;rcases hz with hz|hz
  ·exact absurd rfl (S.nc _ (Yh hz))
  ·exact#[c,by rw[show z=y from S.nf _ (Yh hz) rfl];exact ly]
 ·match i,q1,q2 with
  |0,q1,q2 =>cases q1;cases q2;exact#[u,r,.inl #[S.lx,by simp]]
  |1,q1,q2 =>cases q1;cases q2;exact#[ku,kr,.inr #[.inr S.ly,c,ly,cell1]]
  |i+2,q1,_=>simp[cxX]at q1
section
variable{X:Cx}
def uO{k j:Nat}{sp:Sp}(S:LamScope x y scope)(hi:X.N[j]? = some y)(hσ:σ[j]? = some (some kv))(hyc:X.env.scope.names.lookup y=some .cell)(hcy:X.env.cells.lookup y=some c)(hr:Room (k+1) X.A.in1.in1)(hbd:∀ (s:LO) (u:LP),BindsTo s (mx qual params body scope [(y,c)] pm c' ct) #[[u],[]] [(x,u)])(hbody:∀ (A:LV) (outer:List Env) (s:LO) (H:Hp) (v:V) (Q:VK),Room k (A.deeper (envX qual scope s.heap.objs.size f (.ref c') [(y,c)]))->sp [v] H Q E0 ->
   ∃ t,PE (cxX CX0 X.prog X.w X.K X.mg X.base [x,y] qual scope f (.ref c') [(y,c)] A outer s H E0) body t/\t [some v,some kv] H Q):
  ∀l,lU (wX X l) L4 σ f (λvs H Q E=>H f=some (nU f (gS qual params body scope [(y,c)] pm c' ct))/\H c'=some (iI c' qual)/\sp vs H Q E):=by
 intro l s H u v Q I ru ⟨hf,hc,hsp⟩;have e0:Env0 X.prog X.w X.K X.mg X.base X.A.in1.in1 X.stack s H:=by have e0:=I.env0;exact#[e0.frames,e0.mod,e0.bs,e0.bsz,e0.funs,e0.frf,e0.hok,e0.bare]
 have lim:s.heap.NoLimit:=e0.mod.nolimit.keeps λb o e=>(e0.bs b o e).1;have of1:=(e0.hok f _ hf).1;have oc1:=(e0.hok c' _ hc).1;exists[m,_,look],I.loc;exists[ku,kr,lk],look j y kv hi hσ (.inr (.inl hyc));have cell:s.heap.IsCell c (some ku):=by
  rcases lk with⟨z,_⟩|⟨_,d,e1,e2⟩
  ·have z':X.env.scope.names.lookup y=some .local:=z;rw[hyc]at z';cases z'
  ·have e1':X.env.cells.lookup y=some d:=e1;rw[hcy]at e1';cases e1';exact e2
 have fc:H c=none:=I.freeC y c hcy;refine kla_callFunE hr.depth of1 rfl S.co S.gen rfl oc1 (hbd s u _ _ _ _ ?_);refine wpAny_newFunctionEnv S.nc (λz hz=>?_) (λh1 hns hsb=>#[lim.keeps ?_,kla_codeExpr ?_]) S.kind
 ·rw[Zj.mp hz];exact S.lx
 all_goals have hk:∀b o,s.heap.get? b=some o->h1.get? b=some o:=λb o e=>hsb.extBut b o (Zx (Zr e)) (Za _ e)
 ·exact hk
 ·exists[t,ht,hq],hbody X.A.in1.in1 X.stack s H v Q (hr.deeper _) hsp;have I2:=yo (CX:=CX0) (qual:=qual) (f:=f) (cd:=.ref c') (E:=E0) (tk:=s.toks+1) S hr.hd e0 ru kr cell fc hns hk;refine Z7 (ht [] _ _ H _ I2 hq) (λu s' hz9=>?_) λe s' hs=>hs;exists[v,H',J,rv,q],hz9;exact#[v,H',J.os,J.bare,J.base,J.hok,rv,q]
end
section
variable{X:Cx}{c P:LN}{params:Arguments}{body:L3}{scope:Scope}{pos:Pos}{cl:List (Str×LN)}
def pZ(cl:List (Str×LN))(X:Cx)(P:LN)(params:Arguments)(body:L3)(scope:Scope)(pos:Pos):TE:=λ_ H Q=>∃ps:Array LP,H P=some (.tbl ps)/\TriplesOk ps.toList /\
 ((∃ c',codeAmong pos ps.toList=some (.ref c')/\H c'=some (iI c' (X.env.qual++"<lambda>"))/\∀ f ct,H f=none->Q (.ref f) (upd H f (nU f (gS (X.env.qual++"<lambda>") params body scope cl ((X.mg "__name__").getD .none) c' ct)))) \/
  (codeAmong pos ps.toList=none/\∀ f c' ct,H f=none->H c'=none->c'≠f->Q (.ref f) (upd (upd (upd H P (.tbl (ps++(List.toArray [rawInt pos.line,rawInt pos.col,.ref c'])))) c' (iI c' (X.env.qual++"<lambda>"))) f (nU f (gS (X.env.qual++"<lambda>") params body scope cl ((X.mg "__name__").getD .none) c' ct)))))
def qJ(hcode:X.env.code=.ref c)(hge:X.env.globals=mainGlobals)(C:CodeHd X.base c P)(B:Blt X.base X.mg)(hdef:defaultsOf params X.env=([],[]))(hcl:closureFor scope X.env=pure cl):PE X (.Lambda params body scope pos) (pZ cl X P params body scope pos):=by
 intro L4 s σ H Q I h;exists[ps,hP,ht,hh],h;have oP:s.heap.get? P=some (tabObj ps):=I.hok P _ hP;have hg:s.heap.Ns mainGlobals X.mg:=I.ok.mod.glob.keeps I.bk;have hb:=I.bltAt B hP;refine kla_eval hdef ?_;rcases hh with⟨c',hf,hc',q⟩|⟨hnf,q⟩
 ·refine kla_makeFunctionHit hcl hge hg hcode (C.keeps I.bk) oP ht hf hb λct h' tk kp hsz=>?_;have hn:=I.hok.fresh hsz;exact#[.ref _,_,I.laid (t':=tk) (λb o e=>Za _ (kp b o e)) hsz (xf (Zk _ rfl)),rfl,q _ ct hn]
 ·have hgP:mainGlobals≠P:=λz=>by exists[o,es,ep,e,d,_],hg;rw[z,oP]at e;cases e;cases d
  refine kla_makeFunction hcl hge hg hcode (C.keeps I.bk) oP ht hnf hgP hb λc' ct h' tk hx hge' hlt hrec htb=>?_;have hnF:c'≠h'.objs.size:=Zx hlt;exists[i1,i2,i3],I.grown (t':=tk) (c:=c') (f:=h'.objs.size) (h':=h'.push (gS (X.env.qual++"<lambda>") params body scope cl ((X.mg "__name__").getD .none) c' ct)) (oc:=iI c' (X.env.qual++"<lambda>")) (of':=nU h'.objs.size (gS (X.env.qual++"<lambda>") params body scope cl ((X.mg "__name__").getD .none) c' ct)) hP
   (λb o hb' e=>Za _ (hx b o hb' e)) hge' (Zt hge' (Nat.le_of_lt hlt)) hnF (Za _ htb) (λ_=>ES (by
    exists[c₂,oc,vs,t,e1,e2,e3,e4],hrec;exact#[c₂,oc,vs,t,e1,Za _ e2,e3,e4])) (λ_=>xf (Zk _ rfl))
  exact#[.ref _,_,i3,rfl,q _ c' ct i2 i1 hnF]
structure LamOkX(P:LQ)(w:LU)(K:W.Frag)(mg:LL)(base:Heap)(k:Nat)(qual:Str)(body:L3)(scope:Scope)(x y:Str)(sp:V->Sp):Prop where
 sc:LamScope x y scope
 ex:∀(f c' c:LN) (kv:V) (A:LV) (outer:List Env) (s:LO) (H:Hp) (v:V) (Q:VK),Room k (A.deeper (envX qual scope s.heap.objs.size f (.ref c') [(y,c)]))->sp kv [v] H Q E0 ->
  ∃t,QE (cxX CX0 P w K mg base [x,y] qual scope f (.ref c') [(y,c)] A outer s H E0) body t/\t [some v,some kv] H Q
def By(b:Bool)(P:LN)(q:Str)(lpos:Pos)(j:Nat)(sp:V->Sp)(ta:TA):TE:=λσ H0 Q=>ta σ H0 λvs H=>∃(l:LN) (xs:List V) (ks:List SKey) (kv:V),vs=[.ref l]/\σ[j]?=some (some kv)/\H l=some (.lst xs)/\xs.length<64/\ks.length=xs.length/\oC ks/\aN q P lpos H /\
 (∀(i:Nat) (v:V) (key:SKey) (H':Hp),xs[i]?=some v->ks[i]?=some key->SameT P H H'->∀R:VK,(∀kv H'',Same H' H''->key.at H'' kv->R kv H'')->sp kv [v] H' R E0) /\
 ∀(p:LY) (H2:Hp) (D:LN),POk xs.length p->LS (λi j=>HT.lexLt ((katRev b (ks.map SKey.nums)).getD i []) ((katRev b (ks.map SKey.nums)).getD j [])) p xs.length->SameT P H H2->aN q P lpos H2->H2 D=none->Q (.ref D) (upd H2 D (.lst (katRev b (p.toList.map λi=>(katRev b xs).getD i .non))))
def iS(X:Cx)(P:LN)(q:Str)(lpos:Pos)(params:Arguments)(body:L3)(scope:Scope)(cl:List (Str×LN))(H1:Hp)(f:LN)(H2:Hp):Prop :=
 ∃(c':LN) (ct:LP),SameT P H1 H2/\aN q P lpos H2/\H2 f=some (nU f (gS q params body scope cl ((X.mg "__name__").getD .none) c' ct))/\H2 c'=some (iI c' q)/\f≠P/\c'≠P
def nZ{R:VK}(tab:aN (X.env.qual++"<lambda>") P lpos H1)(h:∀f H2,iS X P (X.env.qual++"<lambda>") lpos params body scope cl H1 f H2->R (.ref f) H2):pZ cl X P params body scope lpos σ H1 R:=by
 exists[ps,tP,t3,tc],tab;refine#[ps,tP,t3,?_];rcases tc with hno|⟨c',hy,hc'⟩
 ·refine .inr #[hno,λf c' ct f0 c0 hcf=>h _ _ ?_];have nPf:f≠P:=λz=>by rw[z,tP]at f0;cases f0
  have nPc:c'≠P:=λz=>by rw[z,tP]at c0;cases c0
  refine#[c',ct,λb o e hb=>?_,#[_,by rw[ag (y7 nPf),ag (y7 nPc),ac],?_,.inr #[c',?_,by rw[ag hcf,ac]]],ac,by rw[ag hcf,ac],nPf,nPc]
  ·rw[ag (ar e f0),ag (ar e c0),ag hb];exact e
  ·rw[Array.toList_append];exact lQ _ t3
  ·rw[Array.toList_append];exact codeAmong_snoc _ t3 hno
 ·refine .inl #[c',hy,hc',λf ct f0=>h _ _ ?_];have nPf:f≠P:=λz=>by rw[z,tP]at f0;cases f0
  have nPc:c'≠P:=λz=>by rw[z,tP]at hc';cases hc'
  exact#[c',ct,λb o e hb=>by rw[ag (ar e f0)];exact e,#[ps,by rw[ag (y7 nPf)];exact tP,t3,.inr #[c',hy,by rw[ag (ar hc' f0)];exact hc']],ac,by rw[ag (ar hc' f0)];exact hc',nPf,nPc]
def rO{k j:Nat}{ks:List SKey}{Q:VK}{H H2:Hp}(F:LamOkX X.prog X.w X.K X.mg X.base k (X.env.qual++"<lambda>") body scope x y sp)(hr:Room (k+3) X.A)(hbd:∀(pm ct:LP) (c':LN) (s:LO) (u:LP),BindsTo s (mx (X.env.qual++"<lambda>") params body scope [(y,cy)] pm c' ct) #[[u],[]] [(x,u)])(hj:X.N[j]?=some y)(hyc:X.env.scope.names.lookup y=some .cell)(hcy:X.env.cells.lookup y=some cy)(hs1:argsOk "sorted" #[[.ref l],kw])(hs2:∀x,argsOk "list.sort" #[[.ref x],kw])(hs3:∀x,Builtin.«list.sort» #[[.ref x],kw]=ksk_tree x (.ref f) b)(hσ:σ[j]?=some (some kv))(hH:H l=some (.lst xs))(nlP:l≠P)(h64:xs.length<64)(hl:ks.length=xs.length)(hne:oC ks)(mk:iS X P (X.env.qual++"<lambda>") lpos params body scope [(y,cy)] H f H2)(I2:Inv X L4 σ H2 s2)(spec:∀(i:Nat) (v:V) (key:SKey) (H':Hp),xs[i]?=some v->ks[i]?=some key->SameT P H H'->∀R:VK,(∀kv H'',Same H' H''->key.at H'' kv->R kv H'')->sp kv [v] H' R E0)(q:∀(p:LY) (H2:Hp) (D:LN),POk xs.length p->LS (λi j=>HT.lexLt ((katRev b (ks.map SKey.nums)).getD i []) ((katRev b (ks.map SKey.nums)).getD j [])) p xs.length->SameT P H H2->aN (X.env.qual++"<lambda>") P lpos H2->H2 D=none->Q (.ref D) (upd H2 D (.lst (katRev b (p.toList.map λi=>(katRev b xs).getD i .non))))):
  wpAny (model X.prog X.w) X.A (call (.builtin "sorted") [.ref l] kw) (EP X L4 σ Q) X.xe s2:=by
 exists[c',ct,sT,lt,hf,hc',nf,nc],mk;have hr2:Room (k+1) X.A.in1.in1:=(hr.mono ∅ |>.in1 |>.in1)
 have F1:=uO (X:=X) (L4:=L4) (σ:=σ) (sp:=sp kv) (params:=params) (f:=f) (c:=cy) (c':=c') (pm:=(X.mg "__name__").getD .none) (ct:=ct) F.sc hj hσ hyc hcy hr2 (hbd _ _ _) λA outer s H v Q hr' hs=>let⟨t,t1,t2⟩:=F.ex f c' cy kv A outer s H v Q hr' hs;#[t,t1.h,t2]
 have spec':∀(i:Nat) (v:V) (key:SKey) (H':Hp),xs[i]?=some v->ks[i]?=some key->Same H2 H'->∀R:VK,(∀kv H'',Same H' H''->key.at H'' kv->R kv H'') ->
   (H' f=some (nU f (gS (X.env.qual++"<lambda>") params body scope [(y,cy)] ((X.mg "__name__").getD .none) c' ct))/\H' c'=some (iI c' (X.env.qual++"<lambda>"))/\sp kv [v] H' R E0):=λi v key H' h1 h2 h3 R hR=>#[h3 _ _ hf,h3 _ _ hc',spec i v key H' h1 h2 (sT.trans (.of h3)) R hR]
 have q':∀ (p:LY) (H3:Hp) (D:LN),POk xs.length p->LS (λi j=>HT.lexLt ((katRev b (ks.map SKey.nums)).getD i []) ((katRev b (ks.map SKey.nums)).getD j [])) p xs.length->Same H2 H3->H3 D=none->Q (.ref D) (upd H3 D (.lst (katRev b (p.toList.map λi=>(katRev b xs).getD i .non)))):=λp H3 D a1 a2 a3 a4=>q p H3 D a1 a2 (sT.trans (.of a3)) (by
  exists[ps',e1,e2,e3],lt;exact#[ps',a3 _ _ e1,e2,e3.imp id fun⟨c'',z1,z2⟩=>#[c'',z1,a3 _ _ z2]]) a4
 have hH2:=sT _ _ hH nlP
 match xs,ks,hl with
 | [],[],_ =>refine vN I2 hH2 hs1 hs2 hs3 λD hD=>?_;have:=q' #[] _ D (Array.Perm.refl _) (λi j _ z=>absurd z (Nat.not_lt_zero _)) (Same.refl _) hD;cases b<;>exact this
 | [xv],[key],_ =>refine wE I2 hH2 hs1 hs2 hs3 F1 (λH' s' R hR=>spec' 0 xv key H' rfl rfl s' R λa H'' s2' _=>hR _ _ s2') λH2' D s' hD=>?_;have:=q' (List.toArray [0]) H2' D (Array.Perm.refl _) (λi j h1 h2=>absurd h1 (by have:j<1:=h2;omega)) s' hD;cases b<;>exact this
 |x1::x2::xs,ks,hl=>exact wx I2 hH2 (by simp) h64 hl hne hs1 hs2 hs3 F1 spec' q'
section
variable{k j:Nat}
def FP(hm:X.mg "sorted" = none)(hcode:X.env.code=.ref c)(C:CodeHd X.base c P)(B:Blt X.base X.mg)(F:LamOkX X.prog X.w X.K X.mg X.base k (X.env.qual++"<lambda>") body scope x y sp)(hr:Room (k+3) X.A)(ha:QA X [e] ta)(hj:X.N[j]?=some y)(hyc:X.env.scope.names.lookup y=some .cell)(hcy:X.env.cells.lookup y=some cy)(hcl:closureFor scope X.env=pure [(y,cy)])(hbd:∀(pm ct:LP) (c':LN) (s:LO) (u:LP),BindsTo s (mx (X.env.qual++"<lambda>") params body scope [(y,cy)] pm c' ct) #[[u],[]] [(x,u)]:=by intros;exact .of_eq rfl)(hge:X.env.globals=mainGlobals:=by rfl)(hdef:defaultsOf params X.env=([],[]):=by rfl)(hg:Gl X "sorted":=by rfl)(hn:aK e=true:=by rfl) :
  QE X (.Call (.Name "sorted" p) [e] [#[some "key",.Lambda params body scope lpos,kpos]] pos) (By false P (X.env.qual++"<lambda>") lpos j sp ta):=by
 refine#[?_];intro L4 s σ H0 Q I h;refine Ya (cV I hg hm YW ?_);have h1:=aI (es:=[]) (env:=X.env) hn;refine PyProof.Rows.callWith_kw (thn (ha.h pos L4 s σ H0 _ I h) λus s1 hz9=>?_) (he:=by rw[h1];rfl) (hplain:=by rw[h1];rfl) (hall:=rfl) (hkw:=rfl);exists[vs,H1,I1,r1,q1],hz9;exists[l,xs,ks,kv,rfl,hσ,hH,h64,hl,hne,tab,spec,q],q1;exists[u,rfl,ru],bG r1;cases ru;have nlP:l≠P:=λz=>by exists[ps,tP,_],tab;rw[z,tP]at hH;cases hH
 have hk:PK X [#[some "key",.Lambda params body scope lpos,kpos]] (dA (pZ [(y,cy)] X P params body scope lpos) dP):=mI (qJ hcode hge C B hdef hcl) vn;refine thn (hk pos L4 s1 σ H1 (λzs H2=>∃f,zs=[.ref f]/\iS X P (X.env.qual++"<lambda>") lpos params body scope [(y,cy)] H1 f H2) I1 (nZ tab λf H2 mk=>#[f,rfl,mk])) λws s2 hz9=>?_;exists[zs,H2,I2,rz,f,hz,mk],hz9;subst hz;exists[u,rfl,ru],bG rz;cases ru;exact rO F hr hbd hj hyc hcy (ksk_s1 _ _) (λx=>ksk_l1 _ _) (λx=>ksk_t1 f x) hσ hH nlP h64 hl hne mk I2 spec q
def C8(hm:X.mg "sorted" = none)(hcode:X.env.code=.ref c)(C:CodeHd X.base c P)(B:Blt X.base X.mg)(F:LamOkX X.prog X.w X.K X.mg X.base k (X.env.qual++"<lambda>") body scope x y sp)(hr:Room (k+3) X.A)(ha:QA X [e] ta)(ht:QE X (.Constant (.bool true) kd rp) (tC (.bl true)))(hj:X.N[j]?=some y)(hyc:X.env.scope.names.lookup y=some .cell)(hcy:X.env.cells.lookup y=some cy)(hcl:closureFor scope X.env=pure [(y,cy)])(hbd:∀(pm ct:LP) (c':LN) (s:LO) (u:LP),BindsTo s (mx (X.env.qual++"<lambda>") params body scope [(y,cy)] pm c' ct) #[[u],[]] [(x,u)]:=by intros;exact .of_eq rfl)(hge:X.env.globals=mainGlobals:=by rfl)(hdef:defaultsOf params X.env=([],[]):=by rfl)(hg:Gl X "sorted":=by rfl)(hn:aK e=true:=by rfl) :
  QE X (.Call (.Name "sorted" p) [e] [#[some "key",.Lambda params body scope lpos,kpos],#[some "reverse",.Constant (.bool true) kd rp,rpos]] pos) (By true P (X.env.qual++"<lambda>") lpos j sp ta):=by
 refine#[?_];intro L4 s σ H0 Q I h;refine Ya (cV I hg hm YW ?_);have h1:=aI (es:=[]) (env:=X.env) hn;refine PyProof.Rows.callWith_kw (thn (ha.h pos L4 s σ H0 _ I h) λus s1 hz9=>?_) (he:=by rw[h1];rfl) (hplain:=by rw[h1];rfl) (hall:=rfl) (hkw:=rfl);exists[vs,H1,I1,r1,q1],hz9;exists[l,xs,ks,kv,rfl,hσ,hH,h64,hl,hne,tab,spec,q],q1;exists[u,rfl,ru],bG r1;cases ru;have nlP:l≠P:=λz=>by exists[ps,tP,_],tab;rw[z,tP]at hH;cases hH
 have hk:PK X [#[some "key",.Lambda params body scope lpos,kpos],#[some "reverse",.Constant (.bool true) kd rp,rpos]] (dA (pZ [(y,cy)] X P params body scope lpos) (dA (tC (.bl true)) dP)):=mI (qJ hcode hge C B hdef hcl) (mI ht.h vn);refine thn (hk pos L4 s1 σ H1 (λzs H2=>∃f,zs=[.ref f,.bl true]/\iS X P (X.env.qual++"<lambda>") lpos params body scope [(y,cy)] H1 f H2) I1 (nZ tab λf H2 mk=>#[f,rfl,mk])) λws s2 hz9=>?_;exists[zs,H2,I2,rz,f,hz,mk],hz9;subst hz;exists[u,u2,rfl,ru,ru2],fW rz;cases ru;cases ru2;exact rO F hr hbd hj hyc hcy (ksk_s2 _ _ _) (λx=>ksk_l2 _ _ _) (λx=>ksk_t2 f x true) hσ hH nlP h64 hl hne mk I2 spec q
end
end
section
variable{X:Cx}
theorem wO{w:LU}(ok:HOk P w H h):∀{ds:List PyData} {xs:List V} {us:LM},DtAll H ds xs->Vals xs us->PyData.canLayAll0 ds=true->∀(dx:PyData),us.length=ds.length/\∀(i:Nat) (hi:i<us.length) (hd:i<ds.length),eV h dx us[i]=PyData.eqv ds[i] dx
 | [],xs,us,hd,r,_,dx=>by
  have e:xs=[]:=by simpa only[DtAll]using hd
  subst e;cases r;exact#[rfl,λi hi=>absurd hi (Nat.not_lt_zero _)]
 |d::ds,xs,us,hd,r,hl,dx=>by
  have e:∃y ys,xs=y::ys/\Dt H d y/\DtAll H ds ys:=by simpa only[DtAll]using hd
  exists[y,ys,rfl,h1,h2],e;cases r with
  |cons r1 r2 =>
   have hl':d.canLay0=true/\PyData.canLayAll0 ds=true:=by simpa[PyData.canLayAll0]using hl
   exists[as,q1],Dt.reads ok d y _ h1 r1;exists[i1,i2],wO ok h2 r2 hl'.2 dx;refine#[by rw[Zl,Zl,i1],λi hi hd=>?_];cases i with
   |zero=>exact md q1 hl'.1
   |succ i=>exact i2 i _ _
def Bi:V->List V->Hp->VK->Prop:=λx vs H Q=>∃(l:LN) (xs:List V) (y:V) (dy:PyData) (ds:List PyData) (j:Nat) (hj:j<ds.length),x=.ref l/\vs=[y]/\H l=some (.lst xs)/\Dt H dy y/\DtAll H ds xs/\SeqAt.shaped dy=true/\PyData.canLayAll0 ds=true/\ds.length<=1000/\PyData.eqv ds[j] dy=true/\(∀(i:Nat) (hi:i<j),PyData.eqv (ds[i]'(Nat.lt_trans hi hj)) dy=false)/\Q (.int (j:Int)) H
def Cp(hu:X.A.in1.units+64<cLine):MtM X "list.index" Bi:=by
 intro L4 s σ H x vs v us Q I rx rv h;exists[l,xs,y,dy,ds,j,hj,rfl,rfl,hH,h1,h2,s1,s2,hz,hyes,hno,q],h;cases rx;exists[u,rfl,ru],rv.one;exists[z,its,n,r,hl,e],I.lstM hH;exists[el,ea],wO I.hok h2 r s2 dy;have hj':j<its.length:=∅
 refine call_meets F.slot_list_index #[_,e,rfl] F.entry_list_index (F.args_list_index_2 _ _) (SeqAt.list_indexAt l its.toArray n none #[] u (eV s.heap dy) j (by simpa using hj') ∅ ?_ ?_) #[e,λy' hy'=>kF I hu h1 ru h2 r s1 s2 y' (by simpa using hy'),?_]
 ·show eV s.heap dy its.toArray[j]=true;rw[List.getElem_toArray,ea j hj' hj,hyes]
 ·intro m hm hmj;rw[List.getElem_toArray,ea m (by simpa using hm) ∅,hno m hmj]
 ·refine#[.int _,H,I.tok _,#[_,rfl],?_];exact q
def ltV:V->V->Option Bool
 |.int i,.int j=>some (decide (i<j))
 |.str i,.str j=>some (decide (i.cps.toList<j.cps.toList))
 |_,_=>none
def D8:QOp X (compareOp .Lt) (λx y H Q=>∃b,ltV x y=some b/\Q (.bl b) H):=by
 refine#[?_];intro L4 s σ H x y v u Q I rx ry h;exists[b,hb,q],h
 match x,y,hb with
 |.int i,.int j,hb =>cases hb;exact Ec L4 s σ H _ _ v u Q I rx ry #[i,j,rfl,rfl,q]
 |.str i,.str j,hb =>cases hb;exact A0 L4 s σ H _ _ v u Q I rx ry #[i,j,rfl,rfl,q]
end
section
variable{X:Cx}{apos cpos:Pos}
def xr{k:Nat}(hr:Room k X.A)(ho:QE X o to)(he:QE X e te)(hs:aK e=true:=by rfl)(hbase:attributeBase o "index" X.env (eval o X.env)=eval o X.env:=by rfl)(hline:(apos.endLine==cpos.line)=true:=by rfl) :
  QE X (.Call (.Attribute o "index" apos) [e] [] cpos) (tBM X.K "list" Bi to (dA te dP)):=by
 have h1:=aI (es:=[]) (env:=X.env) hs;have h2:starEach ([]:List L3) X.env=[]:=rfl;refine#[mH PySem.F.plainAttrs_list PySem.F.slot_list_index PySem.F.type_list_index (Cp (by have:=hr.un;show X.A.units+_+64<_;omega)) ho.h (pa he.h gU hs) hbase ?_ hline h1 (by rw[h2];rfl)];rw[h1,h2];rfl
end
open PySem PyProof.Rows PySem.W
open PySem PyProof.Rows PySem.W
section
variable{prog:LQ}{w:LU}{A:LV}{s:LO}{κ:SortKind}{it:Array Keyed}{lt:LZ}{N:Nat}{st:SortSt}
def Zc(prog:LQ)(w:LU)(A:LV)(s:LO)(κ:SortKind)(it:Array Keyed)(lt:LZ)(N:Nat):Prop :=
 ∀i j (C:Bool->LO->Prop),i<N->j<N->C (lt i j) s->kas_cmp prog w A κ it i j C s
end
open PySem PyProof.Rows PySem.W
section
variable{lt:LZ}
def mf(p:LY)(k:Nat):gA p k=p.toList.getD k 0:=by unfold gA;rw[ZQ,Zg,Y6]
structure MF(lt:LZ)(N:Nat)(a b:LY):Prop where
 sa:∀i j,i<j->j<a.size->Lx lt (gA a i) (gA a j)
 sb:∀i j,i<j->j<b.size->Lx lt (gA b i) (gA b j)
 cr:∀i j,i<a.size->j<b.size->lt (gA b j) (gA a i)=false->Lx lt (gA a i) (gA b j)
 na:∀i,i<a.size->gA a i<N
 nb:∀i,i<b.size->gA b i<N
 a0:0<a.size
 b0:0<b.size
 fst:lt (gA b 0) (gA a 0)=true
 lst:∀j,j<b.size->lt (gA b j) (gA a (a.size-1))=true
variable{N:Nat}
end
open PySem PyProof.Rows PySem.W
open PySem PyProof.Rows PySem.W
open PySem PyProof.Rows PySem.W
open PySem PyProof.Rows PySem.W
section
variable{prog:LQ}{w:LU}{A:LV}{s:LO}{κ:SortKind}{it:Array Keyed}{lt:LZ}{N:Nat}{st:SortSt}{pre:LY}
structure Zp(prog:LQ)(w:LU)(A:LV)(s:LO)(κ:SortKind)(it:Array Keyed)(lt:LZ)(N:Nat)(st:SortSt)(pre:LY)(n:Nat):Prop where
 Z:Zc prog w A s κ it lt N
 hk:kindOf st=κ
 hN:pre.size+n=N
 n0:0<n
end
open PySem PyProof.Rows PySem.W
section
variable{lt:LZ}(O:LtOk lt){N:Nat}
include O
end
open PySem PyProof.Rows PySem.W
section
variable{lt:LZ}
def DH(lt:LZ):Nat->List (List Nat)->List (Nat×Nat×Nat)->Prop
 |_,[],[]=>True
 |b,r::rs,t::ts=>t.1=b/\t.2.1=r.length/\0<r.length/\r.Pairwise (Lx lt)/\r.Perm (List.range' b r.length)/\DH lt (b+r.length) rs ts
 |_,_,_=>False
variable{κ:SortKind}{it:Array Keyed}{N:Nat}{st:SortSt}
structure RI(κ:SortKind)(it:Array Keyed)(lt:LZ)(N lo:Nat)(T:List Nat)(p:LY)(rs:List (List Nat))(st:SortSt):Prop where
 hk:kindOf st=κ
 hf:failedOf st=none
 ha:arrOf st=p.map (kas_item it)
 hp:p.toList=rs.flatten++T
 pm:p.toList.Perm (List.range N)
 rl:DH lt 0 rs (pendingOf st).toList
 hl:rs.flatten.length=lo
end
open PySem PyProof.Rows PySem.W
def fm{n:Nat}(h:n<=4096):n<=sizeLine:=by rw[sizeLine_eq];omega
section
variable{prog:LQ}{w:LU}{A:LV}{E:LK}{s:LO}{h₀:Heap}{L a kS:LN}{m:LL}{vs ks:LM}
def ZGo(prog:LQ)(w:LU)(A:LV)(b:Bool)(ks vs:LM)(F:LM->LO->Prop)(κ:SortKind)(s:LO):Prop :=
 ∃lt:LZ,LtOk lt/\(∀i j (C:Bool->LO->Prop),i<vs.length->j<vs.length->C (lt i j) s->kas_ask prog w A κ (katRev b ks) i j C s) /\
  ∀p:LY,POk vs.length p->LS lt p vs.length->F (katRev b (p.toList.map λi=>(katRev b vs).getD i Value.none)) s
def xV(prog:LQ)(w:LU)(A:LV)(b:Bool)(ks vs:LM)(F:LM->LO->Prop)(s:LO):Prop :=
 (2<=vs.length->wpAny (model prog w) A (keyKind' (List.toArray ks)) (ZGo prog w A b ks vs F) (λ_ _=>False) s)/\(vs.length<2->F (katRev b ((List.range vs.length).map λi=>(katRev b vs).getD i Value.none)) s)
def xR{b:Bool}{st:SortSt}{e e1:Nat}{out:LM}{P:PySem.Fin->LO->Prop}(ho:(arrOf st).map (·.2)=List.toArray out)(hz:out.length<=4096)(hq:ks.length<=4096)(hf:failedOf st=none)(h:KatFin h₀ L m kS a ks e e1 (katRev b out) (λs'=>P (.done (.ret .none)) s') s):wpAny (model prog w) A (ksk_tail a b e1 (.ref kS) st) P E s:=by
 exists[nw,g,Fq,Nq,Uq,kq],h;exists[l1,l2,e0,hg,x1,x2],Uq.split;rw[e0]at Nq;have ak:=Nq (kS,seqObj "list" (List.toArray ks) e) (ZJ _ (.head _));have s1:=ZI s.heap kS (Obj.mapSeq λ_=>(#[]:Array LP));obtain⟨ck,hck⟩:∃z,(s.heap.update kS (Obj.mapSeq λ_=>(#[]:Array LP))).get? kS=some (seqObj "list" #[] z):=#[_,Yc ak.1 λ_=>#[]]
 have K2:=kq _ ck (kas_fr Fq s1 ak.2.1 ak.2.2) (by rw[hg];exact news_set Nq x1 x2 s1 hck);exists[nw2,g2,F2,N2,U2,k2],K2;exists[m1,m2,e2,hg2,y1,y2],U2.split;rw[e2]at N2;have aa:=N2 (a,seqObj "list" #[] e1) (ZJ _ (.head _));have s2:=ZI (s.heap.update kS (Obj.mapSeq λ_=>(#[]:Array LP))) a (Obj.mapSeq λ_=>List.toArray (katRev b out));have hsz:(List.toArray (katRev b out)).size=out.length:=by rw[Zh,kat_len]
 obtain⟨c2,hc2⟩:∃z,((s.heap.update kS (Obj.mapSeq λ_=>(#[]:Array LP))).update a (Obj.mapSeq λ_=>List.toArray (katRev b out))).get? a=some (seqObj "list" (List.toArray (katRev b out)) z):=#[_,Yc aa.1 λ_=>List.toArray (katRev b out)]
 unfold ksk_tail;dsimp only;rw[ho,kat_outs];refine z6 (Ym ak.1 rfl (z6 (wpAny_letGo (z6 (seqEpoch_at aa.1 rfl (z6 (Ym aa.1 rfl ?_ (Zy _) (Zt (Nat.le_of_eq hsz) (x9 (fm hz))))))))) (by rw[Zh];exact fm hq) (Zy _));rw[hf];simp only[bne_self_eq_false,y6,YH];refine Zb (k2 _ c2 (kas_fr F2 s2 aa.2.1 aa.2.2) ?_);rw[hg2];exact news_set N2 y1 y2 s2 hc2
theorem xQ{Fin:LM->Nat->LO->Prop}{n:Nat}{body:LP->PUnit->Sem (ForInStep PUnit)}(hn:n<=4096)(hb:∀ x ks e (s:LO) (C:LP->Nat->LO->Prop),List.length ks<4096->wpAny (model prog w) A (call f [x]) (KatBack h₀ L m kS ks e C) (λ_ _=>False) s ->
   wpAny (model prog w) A (body x ⟨⟩) (λr s'=>r=.yield ⟨⟩/\∃ k c,s'.heap.get? kS=some (seqObj "list" (List.toArray (ks++[k])) c)/\C k c s') E s):∀ (r qs:LM) (e:Nat) (s:LO),qs.length+r.length=n ->
   s.heap.get? kS=some (seqObj "list" (List.toArray qs) e)->KatKeys prog w A h₀ L m kS f Fin r qs e s ->
   wpAny (model prog w) A (forIn r PUnit.unit body) (λ_ s'=>∃qs e,s'.heap.get? kS=some (seqObj "list" (List.toArray qs) e)/\qs.length=n/\Fin qs e s') E s
 | [],qs,e,s,hl,hq,h=>by rw[List.forIn_nil];exact Zb #[qs,e,hq,by simpa using hl,h]
 |x::r,qs,e,s,hl,hq,h=>by rw[Zl]at hl;rw[List.forIn_cons];refine z6 (Z7 (hb x qs e s (λk c s'=>KatKeys prog w A h₀ L m kS f Fin r (qs++[k]) c s') ∅ h) (λz s' hz=>?_) λ_ _ x=>x);exists[rfl,k,c,hk',h2],hz;exact xQ hn hb r (qs++[k]) c s' (by rw[Zi,Z1];omega) hk' h2
end
def bX:LX->LX->LX
 | [],ns=>0::ns
 |p::ps,ns=>1::p::bX ps ns
theorem wY:∀(ps ns qs ms:LX),HT.lexLt (bX ps ns) (bX qs ms)=if ps=qs then HT.lexLt ns ms else HT.lexLt ps qs
 | [],ns,[],ms=>by rw[bX,bX,HT.lexLt_cons,LI rfl,LI rfl]
 | [],ns,q::qs,ms=>by rw[bX,bX,HT.lexLt_cons,LH ⋯,LH (by simp)];rfl
 |p::ps,ns,[],ms=>by rw[bX,bX,HT.lexLt_cons,LH ⋯,LH (by simp)];rfl
 |p::ps,ns,q::qs,ms=>by
  rw[bX,bX,HT.lexLt_cons,LI rfl,HT.lexLt_cons,wY ps ns qs ms,HT.lexLt_cons];by_cases h:p=q
  ·subst h;rw[LI rfl,LI rfl];by_cases h2:ps=qs
   ·rw[LI h2,LI (by rw[h2])]
   ·rw[LH h2,LH (λz=>h2 (by injection z))]
  ·rw[LH h,LH (λz=>h (by injection z)),LH h]
inductive ZKey where
 |i (n:Int)|t (ns:LX)|p (ps ns:LX)
def ZKey.nums:ZKey->LX
 |.i n=>[n]
 |.t ns=>ns
 |.p ps ns=>bX ps ns
def ZKey.at(H:Hp):ZKey->V->Prop
 |.i n,v=>v=.int n
 |.t ns,v=>∃a,v=.ref a/\H a=some (.tup (ns.map V.int))
 |.p ps ns,v=>∃a b c,v=.ref a/\H a=some (.tup [.ref b,.ref c])/\H b=some (.tup (ps.map V.int))/\H c=some (.tup (ns.map V.int))
def ZKey.at.same(sm:Same H H'):∀{k:ZKey} {v:V},k.at H v->k.at H' v
 |.i _,_,h=>h
 |.t _,_,⟨a,e,h⟩=>#[a,e,sm _ _ h]
 |.p _ _,_,⟨a,b,c,e,h1,h2,h3⟩=>#[a,b,c,e,sm _ _ h1,sm _ _ h2,sm _ _ h3]
def zr(ks:List ZKey):Prop:=∀k∈ks,∃ps ns,k=.p ps ns
def wZ{A:LV}{ns ms:LX}(I:Inv X L4 σ H s)(hu:A.units+64<cLine)(ha:H a=some (.tup (ns.map V.int)))(hb:H b=some (.tup (ms.map V.int))):SeqAt.EqAt A s (.ref a) (.ref b) (decide (ns=ms)):=by exists[as,r1],Dt.reads I.hok _ (.ref a) (.ref a) (oQ ha) rfl;exists[bs,r2],Dt.reads I.hok _ (.ref b) (.ref b) (oQ hb) rfl;rw[<-nL];have s1:=fV ns;have s2:=fV ms;refine SeqAt.eqAt_reads _ _ A s _ _ as bs r1 r2 (SeqAt.canLay_of_shaped s1) (SeqAt.canLay_of_shaped s2) ?_;have d1:=SeqAt.depth_of_shaped s1;have d2:=Nat.min_le_left (PyData.tuple (ns.map .int)).depth (PyData.tuple (ms.map .int)).depth;omega
def wf{w:LU}{Q:Bool->LO->Prop}(e1:SeqAt.EqAt A s (.ref b) (.ref b') (decide (ps=qs)))(e2:SeqAt.EqAt A s (.ref c) (.ref c') (decide (ns=ms)))(l1:∀R:LK,R (.bool (HT.lexLt ps qs)) s->wpAny (model prog w) A (compareOp .Lt (.ref b) (.ref b')) R (λ_ _=>False) s)(l2:∀R:LK,R (.bool (HT.lexLt ns ms)) s->wpAny (model prog w) A (compareOp .Lt (.ref c) (.ref c')) R (λ_ _=>False) s)(hf:fin=false)(q:Q (HT.lexLt (bX ps ns) (bX qs ms)) s):KatLex prog w A false fin Q ([Value.ref b,.ref c].zip [Value.ref b',.ref c']) 0 s:=by
 subst hf;rw[wY]at q;refine kat_cons (e1 _ _ _ _ (kat_go (λet=>?_) (λef=>?_)))
 ·rw[LI (ZZ et)]at q;refine kat_yes (kat_cons (e2 _ _ _ _ (kat_go (λet2=>?_) (λef2=>?_))))
  ·have z:=ZZ et2;subst z;have e:HT.lexLt ns ns=false:=by
    cases h:HT.lexLt ns ns with
    |false=>rfl
    |true=>rw[pq h]at h;cases h
   rw[e]at q;exact kat_yes (kat_nil q)
  ·exact kat_no (kat_one _ _ (l2 _ q))
 ·rw[LH (YJ ef)]at q;exact kat_no (kat_one _ _ (l1 _ q))
section
variable{X:Cx}{L4:LJ}{σ:St}{H:Hp}{s:LO}{h':Heap}
def Gp(X:Cx)(s:LO)(l:LN)(xs:List V):Prop:=∀Q:LM->LO->Prop,(∀h' tk its,(∀b o,s.heap.get? b=some o->h'.get? b=some o)->Vals xs its->Q its { s with heap:=h',toks:=tk })->wpAny (model X.prog X.w) X.A.in1 (collect (.ref l)) Q X.xe s
structure SGZ(X:Cx)(L4:LJ)(σ:St)(H1:Hp)(m:LL)(kS D:LN)(e1:Nat)(ks:List ZKey)(as:List V)(us:LM)(e:Nat)(H:Hp)(s:LO):Prop where
 I:Inv X L4 σ H s
 sm:Same H1 H
 fk:aZ X L4 H kS
 fd:aZ X L4 H D
 bk:X.base.get? kS=none
 bd:X.base.get? D=none
 hk:s.heap.get? kS=some (seqObj "list" (List.toArray us) e)
 hd:s.heap.get? D=some (seqObj "list" #[] e1)
 ns:s.heap.Ns X.env.locals m
 vals:Vals as us
 keys:∀(i:Nat) (a:V) (k:ZKey),as[i]?=some a->ks[i]?=some k->k.at H a
def SGZ.fr{e1:Nat}{e:Nat}(S:SGZ X L4 σ H1 m kS D e1 ks as us e H s):Fr X.base X.env.locals s.heap m:=#[S.ns,S.I.bk,Zt S.I.ok.bsz S.I.ok.above]
theorem pV{e1:Nat}{ks:List ZKey}{Fin:LM->Nat->LO->Prop}(hne:kS≠D)(rv:Vals xs its)(hl:ks.length=xs.length)(F:lU X L4 σ f sp)(spec:∀(i:Nat) (v:V) (key:ZKey) (H':Hp),xs[i]?=some v->ks[i]?=some key->Same H1 H'->∀R:VK,(∀kv H'',Same H' H''->key.at H'' kv->R kv H'')->sp [v] H' R E0)(fin:∀(as:List V) (us:LM) (e:Nat) (H:Hp) (s:LO),SGZ X L4 σ H1 m kS D e1 ks as us e H s->as.length=xs.length->Fin us e s):
  ∀(r:LM) (as:List V) (us:LM) (e:Nat) (H:Hp) (s:LO),SGZ X L4 σ H1 m kS D e1 ks as us e H s->its=its.take as.length++r->as.length+r.length=xs.length ->
   KatKeys X.prog X.w X.A.in1.in1 X.base X.env.locals m kS (.ref f) Fin r us e s
 | [],as,us,e,H,s,S,_,hlen=>KatKeys.nil (fin as us e H s S (by simpa using hlen))
 |u::r,as,us,e,H,s,S,hits,hlen=>by
  have hi:as.length<xs.length:=by rw[Zl]at hlen;omega
  have hx:xs[as.length]?=some xs[as.length]:=z9 hi;exists[u',gu,ru],rv.get hx;have hlt:as.length<its.length:=by rw[<-rv.length];exact hi
  have gu':its[as.length]?=some u:=by rw[hits,ZF (by rw[ZD];omega),ZD,Y8 ∅,YV];rfl
  rw[gu']at gu;cases gu;have hkey:ks[as.length]?=some (ks[as.length]'∅):=z9 ∅;generalize ks[as.length]'∅=key at hkey;refine KatKeys.cons (wpAny_call (codeAny_mono (F s H u xs[as.length] (λv H''=>Same H H''/\key.at H'' v) S.I ru (spec _ _ _ H hx hkey S.sm _ λkv H'' s' q=>#[s',q])) λres s' hq=>?_));cases res with
  |error e=>exact hq
  |ok fl =>
   cases fl with
   |next=>exact False.elim hq
   |brk=>exact False.elim hq
   |cont=>exact False.elim hq
   |ret uv =>
    exists[v,H'',os,bare,un,hok,rvv,sm,ea],hq;exists[hh,g,d,t,os'],s';obtain rfl:os'=s.os:=os;have I2:Inv X L4 σ H'' { s with heap:=hh,gens:=g,drawn:=d,toks:=t }:=S.I.call (h':=hh) (g':=g) (d':=d) (t':=t) (ch:=[]) un hok bare (λb z=>absurd z (by simp));have nstk:∀{b:LN},aZ X L4 H b->b∉frs X.stack:=fun{b} fo z=>(Zf.mp (S.I.stkSub b z)).elim fo.2.1 fo.2.2.1;have hk2:hh.get? kS=some (seqObj "list" (List.toArray us) e):=un.keep kS _ S.hk S.fk.1 (nstk S.fk) (by simp);have hd2:hh.get? D=some (seqObj "list" #[] e1):=un.keep D _ S.hd S.fd.1 (nstk S.fd) (by simp);have ns2:hh.Ns X.env.locals m:=by exists[o,es,ep,ho,rr],id S.ns;exists[sl,hL],un.any ho S.I.free (by simp);exact#[_,es,ep,hL,rr]
    have fk2:aZ X L4 H'' kS:=#[un.free kS _ S.hk S.fk.1 (by simp),S.fk.2]
    have fd2:aZ X L4 H'' D:=#[un.free D _ S.hd S.fd.1 (by simp),S.fd.2]
    have hkL:kS≠X.env.locals:=S.fk.2.1;refine KatBack.intro (news:=(kS,seqObj "list" (List.toArray us) e)::dW X.base hh X.env.locals kS) ⟨ns2,I2.bk,Zt S.I.ok.bsz S.I.ok.above⟩ (de hk2 hkL S.bk) (.head dX) λh3 c F3 N3=>?_;have mv:=cZ (λb o q=>I2.bk b o q) F3 N3;have I3:Inv X L4 σ H'' { s with heap:=h3,gens:=g,drawn:=d,toks:=t }:=Inv.movedF (ch:=[kS]) (t':=t) I2 (λb hb=>by rw[Zj.mp hb];exact fk2) mv #[m,ns2,F3.ns];refine pV hne rv hl F spec fin r (as++[v]) (us++[uv]) c H'' _ #[I3,S.sm.trans sm,fk2,fd2,S.bk,S.bd,(N3 _ (.head _)).1,mv D _ S.fd.2.1 (λz=>hne (Zj.mp z).symm) hd2,F3.ns,S.vals.append (.cons rvv .nil),λi b key' h1 h2=>?_] ?_ ?_
    ·by_cases hi2:i<as.length
     ·rw[ZS hi2]at h1;exact(S.keys i b key' h1 h2).same sm
     ·have hi3:=(Zm.mp h1).1;rw[Zi,Z1]at hi3;have e3:i=as.length:=∅
      subst e3;rw[ZF (Ze _),YV]at h1;cases h1;rw[hkey]at h2;cases h2;exact ea
    ·rw[Zi,Z1,List.take_add_one,gu',Option.toList_some,ZO];exact hits
    ·rw[Zi,Z1,<-hlen,Zl];omega
end
end L2
set_option maxHeartbeats 4000000
namespace PySem
open Sem (wp)
section
variable{prog:LQ}{w:LU}{K:Type}[DecidableEq K]{knd:KeyKind prog w K}
structure PairAt(knd:KeyKind prog w K)(h:Heap)(p:LN×List K×LN×LP):Prop where
 tup:∃o n,h.get? p.1=some o/\o.cls=.type "tuple"/\o.data=.seq (List.toArray [.ref p.2.2.1,p.2.2.2]) n
 key:IsTupleKey knd h p.2.1 p.2.2.1
end
end PySem
namespace L2
open PySem PySem.Spec PyProof.Rows PySem.W
def ItD(o:Obj)(a:LN):It where
 go:=λi H=>∃kvs,H a=some (.frz o (.dT kvs))/\i<kvs.length
 yld:=λi H x H'=>H'=H/\∀kvs,H a=some (.frz o (.dT kvs))->∃p b,kvs[i]?=some p/\x=.ref b/\H b=some (.tup (p.1.map kV))
 stop:=λi H=>∃kvs,H a=some (.frz o (.dT kvs))/\kvs.length<=i
def G2(r:KT H kvs xs):∀{i:Nat} {x:List Key×LN×LP},xs[i]?=some x->∃p,kvs[i]?=some p/\H x.2.1=some (.tup (p.1.map kV)):=by
 induction r with
 |nil=>intro i x h;simp at h
 |@cons p q _ _ h _ ih =>
  intro i x e;cases i with
  |zero=>cases e;exact#[p,rfl,h.2.1]
  |succ i=>exact ih e
def Ai{w:LU}(ok:HOk P w H h)(e:H a=some (.frz o (.dT kvs))):
  (a==sysModules)=false/\∃xs es ep,KT H kvs xs/\h.get? a=some o/\o.ExactDict/\o.data=.dict es ep/\es.toList=xs.map (entryOfKey (tupleKind (ba P w)))/\kvs.length=es.size:=by
 exists[ho,z,y,xs,r,o',es,ep,h1,h2,h3,h4,h5],(show ObjOk P w H h a (.frz o (.dT kvs))from ok a _ e)
 rw[ho]at h1;cases h1;exact#[y,xs,es,ep,r,ho,h2,h3,h4,(Z8 r).trans (size_of_entries h4).symm]
def BF{w:LU}{K:W.Frag}(o:Obj)(a it:LN):Turn P w K tg (ItD o a) [it] it (λi h=>∃es ep,o.data=.dict es ep/\i<=es.size/\h.IsKeyIter it a i es.size ep) where
 mem:=by simp
 obj:=λi h st b hb=>by
  have e:b=it:=by simpa using hb
  subst e;exists[es,ep,_,_,o,e,c,d],st;exact#[o,e,λv z=>by rw[d]at z;cases z]
 keep:=λi h h' st k=>by exists[es,ep,h1,h2,h3],st;exact#[es,ep,h1,h2,h3.at λo e=>k it (by simp) o e]
 item:=by
  intro X hP hw hK hc i L4 s σ H E I hf st hg;subst hP hw hK;exists[kvs,hq,hx],hg;exists[es,ep,sd,sl,st],st;exists[lo,xs,es',ep',r,ho,hx2,hd,h4,hl],Ai I.hok hq;rw[sd]at hd;cases hd;exists[f0,f1,f2,f3,f4,f5],hf it (by simp);have hi:i<es.size:=∅
  refine vt st #[o,ho,hx2,sd] hi λh' st' sb=>?_;have I1:Inv X L4 σ H { s with heap:=h' }:=I.turned (t':=s.toks) (λb o hb e=>(sb.2 b hb).trans e) f0 f1 f3 f4 f5;exists[oi,e,c,d],id st';have hxs:i<xs.length:=by rw[<-size_of_entries h4];exact hi
  have hk:es[i].key=Value.ref xs[i].2.1:=by have e1:=entry_at h4 (j:=i);rw[z9 hxs,Yf hi]at e1;have e2:=ZB e1;rw[e2];rfl
  exists[p,hp,hb],G2 r (z9 hxs);refine#[_,rfl,mh (s:={ s with heap:=h' }) e c d ⋯ #[.ref xs[i].2.1,H,I1,hk,#[rfl,λkvs' hy=>?_],#[es,ep,sd,∅,st'],λb hb=>(hf b hb).1]];rw[hq]at hy;cases hy;exact#[p,xs[i].2.1,hp,rfl,hb]
 done:=by
  intro X hP hw hK hc i L4 s σ H E I hf st hg;subst hP hw hK;exists[kvs,hq,hx],hg;exists[es,ep,sd,sl,st],st;exists[lo,xs,es',ep',r,ho,hx2,hd,h4,hl],Ai I.hok hq;rw[sd]at hd;cases hd;exists[f0,f1,f2,f3,f4,f5],hf it (by simp);obtain rfl:i=es.size:=∅
  exact xu (I.ok.hd hc) st #[o,ho,hx2,sd] λh' eb=>#[rfl,I.turned (t':=s.toks) (λb o hb e=>eb b o hb e) f0 f1 f3 f4 f5]
 self:=λ_ _ _ _ _ st h=>by exists[es,ep,h1,h2,h3],st;exact wpAny_pyIter_keyiter h3 h
section
def Inv.freeze(I:Inv X L4 σ H s)(hq:H a=some (.dT kvs))(ho:s.heap.get? a=some o):Inv X L4 σ (upd H a (.frz o (.dT kvs))) s :=
 I.write (x:=a) (e:=a) (h':=s.heap) (t':=s.toks) (by rw[hq];exact True.intro) (.inl rfl) (λb u _ e=>e) #[o,ho]
  #[ho,ObjOk.stay (show ObjOk X.prog X.w H s.heap a (.dT kvs) from I.hok a _ hq) (λb u _ e=>e) (λb e=>by
   rw[ag λz=>by rw[z,hq]at e;cases e];exact e) λb xs e=>by
   rw[ag λz=>by rw[z,hq]at e;cases e];exact e]
def GJ(tl:TE):TI:=λσ H R=>tl σ H λx H1=>∃a kvs,x=.ref a/\H1 a=some (.dT kvs)/\∀o,R (ItD o a) (upd H1 a (.frz o (.dT kvs)))
def HU(hl:PE X l tl):PI X tg l (GJ tl):=by
 intro L4 s σ H R I h;refine thn (hl L4 s σ H _ I h) λv s1 hz9=>?_;exists[x,H1,I1,r1,q1],hz9;exists[a,kvs,e,hq,q],q1;subst e;cases r1;exists[z,lo,xs,r,o,es,ep,h1,h2,h3,h4,h5],(show ObjOk X.prog X.w H1 s1.heap a (.dT kvs)from I1.hok a _ hq)
 refine vw lo #[o,h1,h2,h3] ?_;have I2:=I1.freeze hq h1;refine#[s1.heap.objs.size,[s1.heap.objs.size],_,_,_,rfl,I2.kept (t':=s1.toks) λb o e=>Za _ e,BF o a _,#[es,ep,h3,Zy _,_,Zk _ rfl,rfl,rfl],λb hb=>?_,q o];have e:b=s1.heap.objs.size:=by simpa using hb
 subst e;exact I2.fpOk (Ze _) (I2.hok.fresh (Ze _))
def Inv.thaw(I:Inv X L4 σ H s)(hq:H a=some (.frz o u))(h0:∀o' u',X.H₀ a≠some (.frz o' u'))(ht:∀xs,X.H₀ a≠some (.tup xs))(hb:∀ps,X.H₀ a≠some (.tbl ps)):
  Inv X L4 σ (upd H a u) s:=by
 have hn:∀b,H b=none->upd H a u b=none:=λb e=>by rw[ag λz=>by rw[z,hq]at e;cases e];exact e
 refine#[I.ok,I.os,I.bare,#[I.base.keep,I.base.slot,λb ob e1 e2 e3=>hn _ (I.base.free b ob e1 e2 e3),I.base.there,λb xs e=>?_,λb ob v e=>?_,λb ps e=>?_],I.loc,I.cell,hn _ I.free,λx c e=>hn _ (I.freeC x c e),
  λp hp=>?_,λb v e=>?_,I.len]
 ·rw[ag fun(z:b=a)=>ht xs (by rw[<-z];exact e)];exact I.base.tups b xs e
 ·rw[ag fun(z:b=a)=>h0 ob v (by rw[<-z];exact e)];exact I.base.frzs b ob v e
 ·rw[ag fun(z:b=a)=>hb ps (by rw[<-z];exact e)];exact I.base.tbls b ps e
 ·exists[p1,p2,p3],I.pin p hp;exact#[p1,hn _ p2,p3]
 ·have st:∀ {c:LN} {v:HO},ObjOk X.prog X.w H s.heap c v->ObjOk X.prog X.w (upd H a u) s.heap c v:=λx=>ObjOk.stay x (λb u _ e=>e) (λb e=>by
   rw[ag λz=>by rw[z,hq]at e;cases e];exact e) λb xs e=>by
   rw[ag λz=>by rw[z,hq]at e;cases e];exact e
  by_cases c:b=a
  ·subst c;rw[ac]at e;cases e;exact st (show ObjOk X.prog X.w H s.heap b (.frz o _)from I.hok b _ hq).2
  ·rw[ag c]at e;exact st (I.hok b v e)
def Jg(hl:QE X l te):QI X tg l (GJ te):=#[HU hl.h]
def Loose(H:Hp)(a:LN):Prop:=(∀o' u',H a≠some (.frz o' u'))/\(∀xs,H a≠some (.tup xs))/\∀ps,H a≠some (.tbl ps)
def Loose.non{H:Hp}(h:H a=none):Loose H a:=#[λ_ _ z=>(by rw[h]at z;cases z),λ_ z=>(by rw[h]at z;cases z),λ_ z=>(by rw[h]at z;cases z)]
def JM(H0:Hp)(t:TE):TE:=λσ H Q=>t σ H λv H'=>∃a o u,H' a=some (.frz o u)/\Loose H0 a/\Q v (upd H' a u)
def Ip{t:TE}(h:QE X e t):QE X e (JM X.H₀ t):=#[λL4 s σ H Q I q=>thn (h.h L4 s σ H _ I q) λv s1 ⟨x,H1,I1,r1,a,o,u,e1,l,q1⟩=>#[x,_,I1.thaw e1 l.1 l.2.1 l.2.2,r1,q1]]
end
def zW{kvs:List (List Key×V)}{n:Nat}{g:TG}{tc:TT}{te:TE}{Q:VK}(Pv:Nat->List V->Hp->Prop)(hz:kvs.length<=1000)(hn:∀i ys H,Pv i ys H->ys.length<=i)(h0:Pv 0 [] H0)(hl:∀i ys H,Pv i ys H->H a=some (.frz o (.dT kvs)))(ht:∀i ys H p b,kvs[i]?=some p->H b=some (.tup (p.1.map kV))->Pv i ys H->∀Y:List V->Hp->Prop,(∀zs H4,Pv (i+1) zs H4->Y zs H4)->g (.ref b) (bw n cap σ) H λσ2 H2=>tc σ2 H2 λb H3=>if b=true then te σ2 H3 λy H4=>Y (ys++[y]) H4 else Y ys H3)(hq:∀ys p H,Pv kvs.length ys H->H p=none->Q (.ref p) (upd H p (.lst ys))):cP n cap g tc te σ (ItD o a) H0 Q:=by
 refine#[λi m ys H=>m=kvs.length-i/\i<=kvs.length/\Pv i ys H,#[kvs.length,by simp,Zy _,h0],?_];rintro i m ys H ⟨rfl,hi,pv⟩;have q:=hl i ys H pv;by_cases hlt:i<kvs.length
 ·refine .inr #[#[kvs,q,hlt],?_,λx H' y=>?_]
  ·have:=hn i ys H pv;exact Y5 (Zt this ∅) (show 1000<sizeLine by decide)
  ·exists[e,y],y;subst e;exists[pr,b,e1,rfl,e2],y kvs q;exact ht i ys _ pr b e1 e2 pv (λys H4=>∃m',m'<kvs.length-i/\m'=kvs.length-(i+1)/\i+1<=kvs.length/\Pv (i+1) ys H4) λzs H4 z=>#[kvs.length-(i+1),∅,rfl,hlt,z]
 ·have e:i=kvs.length:=∅
  subst e;exact .inl #[#[kvs,q,Ze _],λp hp=>hq ys p H pv hp]
section
variable{X:Cx}{s:LO}
def pz{P:PySem.Fin->LO->Prop}{n:Nat}{vs:LM}(h2:vs.length<2)(ho:s.heap.get? a=some (seqObj "list" vs.toArray n))(h:∀(h3:Heap) (c:Nat),(∀b u,b≠a->s.heap.get? b=some u->h3.get? b=some u)->h3.get? a=some (seqObj "list" vs.toArray c)->P (.done (.ret .none)) { s with heap:=h3 }):
  wpAny (model X.prog X.w) A (Builtin.«list.sort» #[[.ref a],[]]) P E s:=by
 have zs:vs.toArray.size<=sizeLine:=by rw[Zh,sizeLine_eq];omega
 have s1:=ZI s.heap a (Obj.mapSeq λ_=>(#[]:Array LP));obtain⟨e1,ho1⟩:∃e1,(s.heap.update a (Obj.mapSeq λ_=>(#[]:Array LP))).get? a=some (seqObj "list" #[] e1):=#[_,Yc ho λ_=>#[]]
 have ha3:(((s.heap.update a (Obj.mapSeq λ_=>(#[]:Array LP))).push (seqObj "tuple" vs.toArray 0)).push (seqObj "list" #[] 0)).get? a=some (seqObj "list" #[] e1):=Za _ (Za _ ho1);have kp:∀b u,b≠a->s.heap.get? b=some u->(((s.heap.update a (Obj.mapSeq λ_=>(#[]:Array LP))).push (seqObj "tuple" vs.toArray 0)).push (seqObj "list" #[] 0)).get? b=some u:=λb u hb g=>Za _ (Za _ ((s1.2 b hb).trans g));rw[list_sort_plain];refine z6 (listItems_at ho rfl ?_);refine z6 (Ym ho rfl ?_ zs (Zy _));refine z6 (seqEpoch_at ho1 rfl ?_);refine z6 (wpAny_newTuple ?_ zs);refine z6 (wpAny_newList ?_ (Zy _));refine Z2 ?_;show wpAny (model X.prog X.w) A _ P E { s with heap:=((s.heap.update a (Obj.mapSeq λ_=>(#[]:Array LP))).push (seqObj "tuple" vs.toArray 0)).push (seqObj "list" #[] 0) };generalize((s.heap.update a (Obj.mapSeq λ_=>(#[]:Array LP))).push (seqObj "tuple" vs.toArray 0)).push (seqObj "list" #[] 0)=h1 at ha3 kp ⊢;dsimp only;have hn2:vs.toArray.size<2:=by rw[Zh];exact h2
 rw[LI hn2,LI hn2];refine z6 (Zb ?_);rw[StateT.run_pure];refine z6 (Zb ?_);dsimp only;have em:Array.map (λx=>x.snd) (arrOf (SortSt.mk' general' (vs.toArray.zip vs.toArray) #[] 7 none))=vs.toArray:=by show Array.map (λx:LP×LP=>x.2) (vs.toArray.zip vs.toArray)=_;apply Y2.mp;rw[Array.toList_map,Array.toList_zip];exact List.map_snd_zip (Ze _)
 rw[em];have s2:=ZI h1 a (Obj.mapSeq λ_=>vs.toArray);obtain⟨c2,hc2⟩:∃c2,(h1.update a (Obj.mapSeq λ_=>vs.toArray)).get? a=some (seqObj "list" vs.toArray c2):=#[_,Yc ha3 λ_=>vs.toArray]
 refine z6 (seqEpoch_at ha3 rfl ?_);refine z6 (Ym ha3 rfl ?_ (Zy _) (x9 zs));simp only[bne_self_eq_false,y6,YH];exact Zb (h _ c2 (λb u hb g=>(s2.2 b hb).trans (kp b u hb g)) hc2)
def vM{Q:VK}(I:Inv X L4 σ H s)(hH:H l=some (.lst xs))(h2:xs.length<2)(q:∀D:LN,H D=none->Q (.ref D) (upd H D (.lst xs))):
  wpAny (model X.prog X.w) X.A (call (.builtin "sorted") [.ref l]) (EP X L4 σ Q) X.xe s:=by
 exists[z,its,n,rv,hlen,e],I.lstM hH;have li:its.length=xs.length:=hlen.symm;have zs:its.toArray.size<=sizeLine:=by rw[Zh,sizeLine_eq];omega
 refine Calls.call_function_entry kind_sorted plain_sorted entry_sorted (args_sorted1 _) ?_;unfold Builtin.«sorted»;refine z6 (m:=checkCount "sorted" 1 1 _) (Zb (z6 (collect_list #[_,e,rfl,n,rfl] (z6 (wpAny_newList ?_ zs)) zs)));have z1:((s.heap.push (seqObj "list" #[] 0)).update s.heap.objs.size (Obj.mapSeq (·++its.toArray))).objs.size=s.heap.objs.size+1:=by rw[Heap.size_update,size_push']
 have g1:(((s.heap.push (seqObj "list" #[] 0)).update s.heap.objs.size (Obj.mapSeq (·++its.toArray))).push (seqObj "list" its.toArray 0)).get? (s.heap.objs.size+1)=some (seqObj "list" its.toArray 0):=by rw[<-z1];exact Zk _ rfl
 have kp:∀b o,s.heap.get? b=some o->(((s.heap.push (seqObj "list" #[] 0)).update s.heap.objs.size (Obj.mapSeq (·++its.toArray))).push (seqObj "list" its.toArray 0)).get? b=some o:=λb o g=>by have lt:=Zr g;rw[Heap.get?_push_ne _ _ _ (by rw[z1];exact Zx (Yj lt)),Heap.get?_update_ne _ _ _ _ (Zx lt),Heap.get?_push_ne _ _ _ (Zx lt)];exact g
 show wpAny _ _ _ _ _ { s with heap:=((s.heap.push (seqObj "list" #[] 0)).update s.heap.objs.size (Obj.mapSeq (·++its.toArray))).push (seqObj "list" its.toArray 0) };rw[z1];generalize(((s.heap.push (seqObj "list" #[] 0)).update s.heap.objs.size (Obj.mapSeq (·++its.toArray))).push (seqObj "list" its.toArray 0))=hA at g1 kp ⊢;refine z6 (Z2 (ZT slot_list_sort #[_,g1,rfl] entry_list_sort ?body (args_list_sort _)))
 case body =>
  refine pz (X:=X) (s:={ s with heap:=hA }) ∅ g1 λh3 c k3 a3=>#[_,rfl,Zb #[_,rfl,?_]]
  have da:s.heap.get? (s.heap.objs.size+1)=none:=Yr (YA _);exact#[.ref _,_,I.laid (t':=s.toks) (o:=.lst xs) (λb o g=>k3 b o (λzz=>by rw[zz,da]at g;cases g) (kp b o g)) (YA _) #[z,its,c,rv,a3],rfl,q _ (none_of I da)]
def kU{K:W.Frag}{k:Nat}(hK:X.K=K)(hr:Room k X.A):QOp X (compareOp .NotIn) (vq K true):=by subst hK;exact Cy hr
def Ij{K:W.Frag}(hK:X.K=K)(he:QE X e ta)(hb:attributeBase e f X.env (eval e X.env)=eval e X.env:=by rfl):QE X (.Attribute e f pos) (Dv K ta f):=by subst hK;exact cT he hb
def wL:QCall X (.builtin "sorted") (λxs H Q=>∃ (p:LN) (as:List LN) (ks:List LX),xs=[.ref p]/\H p=some (.lst (as.map V.ref))/\as.length<64/\ks.length=as.length/\(∀ k∈ks,k≠[])/\(∀ (i:Nat) (a:LN) (k:LX),as[i]? = some a->ks[i]? = some k->H a=some (.tup (k.map V.int))) /\
  ∀ (pm:LY) (D:LN),POk as.length pm->LS (λi j=>HT.lexLt (ks.getD i []) (ks.getD j [])) pm as.length->H D=none->Q (.ref D) (upd H D (.lst (pm.toList.map λi=>(as.map V.ref).getD i .non)))):=by
 refine#[?_];intro L4 s σ H xs us Q I r h;exists[p,as,ks,rfl,hp,h64,hl,hne,hk,q],h;exists[u,rfl,ru],bG r;cases ru;by_cases h2:as.length<2
 ·refine vM I hp (by rw[Zd];exact h2) λD hD=>?_;have e:((List.range as.length).toArray.toList.map λi=>(as.map V.ref).getD i V.non)=as.map V.ref:=by refine Ye (by simp) λi h1 h2=>?_;rw[Zd]at h2;simp[h2]
  have:=q (List.range as.length).toArray D (Array.Perm.refl _) (λi j hij hj=>∅) hD;rw[e]at this;exact this
 exists[z,its,n,rv,hlen,e],I.lstM hp;rw[Zd]at hlen;have eits:its=as.map Value.ref:=by
  clear e z hlen hp hk q hl h2 h64;induction as generalizing its with
  |nil=>cases rv;rfl
  |cons a as ih =>
   cases rv with
   |cons r1 r2 =>cases r1;rw[ih _ r2];rfl
 subst eits;exists[m,F0],I.fr;refine kat_sorted (vs:=as.map Value.ref) F0 (eE X.base s.heap X.env.locals) #[_,e,rfl,n,rfl] (by rw[Zd];omega) (by rw[Zd];omega) λD e1 h1 F1 N1 hD=>?_;have mv0:∀b u,b≠X.env.locals->b∉([]:List LN)->s.heap.get? b=some u->h1.get? b=some u:=λb u hL _ g=>by
  cases qb:X.base.get? b with
  |none=>exact(N1 (b,u) (.tail _ (bQ g hL qb))).1
  |some o =>have e':=I.bk b o qb;rw[g]at e';cases e';exact F1.keep b u qb
 have I1:Inv X L4 σ H { s with heap:=h1 }:=Inv.movedF (ch:=[]) (t':=s.toks) I (λb hb=>absurd hb (by simp)) mv0 #[m,F0.ns,F1.ns];exists[fs,t1,t2,t3],uL I1 hne as 0 ∅ (λi a k h1 h2=>hk i a k h1 (by rw[Nat.zero_add]at h2;exact h2));refine kat_kind (T:=.type "int") t1 ∅ (λv hv=>?_) rfl ?_
 ·exists[i,t,rfl],t3 v hv;exact .now
 rw[Zd];refine mr (n:=as.length) (lt:=λi j=>HT.lexLt (ks.getD i []) (ks.getD j [])) (λi j C hi hj hC=>?_) (λpm hpm hs=>?_) (nX ∅) (qC (uR ks) ∅)
 ·have ga:∀i,i<as.length->∃a:LN,(as.map Value.ref).getD i Value.none=.ref a/\H a=some (.tup ((ks.getD i []).map V.int)):=λi hi=>by
   have h1:as[i]?=some (as[i]'∅):=z9 ∅;have h2:ks[i]?=some (ks[i]'∅):=z9 ∅;refine#[as[i]'∅,?_,?_]
   ·rw[Zg,Zq,h1];rfl
   ·have:=hk i _ _ h1 h2;rw[Zg,h2];exact this
  exists[a,ea,ha],ga i hi;exists[b,eb,hb'],ga j hj;exists[ia,ra,pa,za],I1.tuple (L6 (K:=X.K) ha);exists[ib,rb,pb,zb],I1.tuple (L6 (K:=X.K) hb');exists[oa,eoa,ca,n1,da],id pa;exists[ob,eob,cb,n2,db],id pb;unfold kas_ask;rw[ea,eb];exact kat_lt eoa da eob db (mZ _ _ _ _ 0 (bo ra) (bo rb) (by rw[Zh,Zh,<-ra.length,<-rb.length,Zd,Zd]) hC)
 ·have hDL:D≠X.env.locals:=(N1 (D,seqObj "list" #[] e1) (.head _)).2.1;have hDs:s.heap.get? D=none:=by
   cases g:s.heap.get? D with
   |none=>rfl
   |some o=>exact absurd (hD (D,o) (bQ g hDL (N1 (D,seqObj "list" #[] e1) (.head _)).2.2)) (Yl _)
  have pl:∀i∈pm.toList,i<as.length:=λi hi=>by have:=(hpm.mem_iff).mp (Ys.mp hi);simpa using this
  have vals:∀(w:List Nat),(∀i∈w,i<as.length)->Vals (w.map λi=>(as.map V.ref).getD i .non) (w.map λi=>(as.map Value.ref).getD i Value.none):=λw=>by
   induction w with
   |nil=>intro _;exact .nil
   |cons i w ih =>intro hw;have hi:=hw i Zo;refine .cons ?_ (ih λj hj=>hw j (Zn _ hj));show RelV ((as.map V.ref).getD i V.non) ((as.map Value.ref).getD i Value.none);rw[Zg,Zg,Zq,Zq,z9 hi];rfl
  have lp:pm.toList.length=as.length:=by have:=hs.1;simpa using this
  refine KasFin.intro (news:=(D,seqObj "list" #[] e1)::pM X.base s.heap X.env.locals) F1 N1 (.head λp hp=>Zx (hD p hp)) λh2 c F2 N2=>?_;refine#[.ref D,_,I.laidF (o:=.lst (pm.toList.map λi=>(as.map V.ref).getD i .non)) (t':=s.toks) (λb o hL g=>?_) #[m,F0.ns,F2.ns] hDs #[by rw[Zd,lp];exact dh ∅,_,c,vals _ pl,(N2 (D,_) (.head _)).1],rfl,q pm D hpm hs.2 (none_of I hDs)];cases q:X.base.get? b with
  |none=>exact(N2 (b,o) (.tail _ (bQ g hL q))).1
  |some o' =>have e':=I.bk b o' q;rw[g]at e';cases e';exact F2.keep b o q
end
section
variable{K:W.Frag}
def Bj:V->List V->Hp->VK->Prop:=λx xs H Q=>∃(z y:Str),x=.str z/\xs=[.str y]/\y.length=1/\z.length<=100000/\∀D,H D=none->Q (.ref D) (upd H D (.lst ((Txt.split z y).map V.str)))
theorem rR:∀{l:List (Str×Tok)} {ys:List Str},l.map (·.1)=ys->Vals (ys.map V.str) (strValues l)
 | [],ys,e=>by subst e;exact .nil
 |p::l,ys,e=>by subst e;exact .cons #[p.2,rfl] (rR (l:=l) rfl)
def Bs(x y:Str):(Txt.split x y).length<=x.length+2:=by
 unfold Txt.split;split
 ·simp
 ·split
  ·simp
  ·rw[length_partsBetween];have:=StrLaws.occ_length_le x y 0 x.length (x.length+1);omega
def Cr:MtR X "str.split" Bj:=by
 intro L4 s σ H x xs v us Q I rx r h;exists[z,y,rfl,rfl,hy,hz,q],h;exists[t,rfl],rx;exists[u,rfl,ru],bG r;exists[t2,rfl],ru;exists[m,F0],I.fr;refine splitN1A F0 (eE X.base s.heap X.env.locals) (by rw[hy];rfl) (λl h' k e1 sa sh il F1 N1=>?_) (by rw[sizeLine_eq];omega);have hDs:s.heap.get? s.heap.objs.size=none:=Yr (Ze _);have lz:=Bs z y;refine#[.ref s.heap.objs.size,_,I.laidF (t':=k) (o:=.lst ((Txt.split z y).map V.str)) (λb o hL g=>?_) #[m,F0.ns,F1.ns] hDs #[by rw[Zd,sizeLine_eq];omega,_,0,rR e1,(N1 (s.heap.objs.size,_) (.head _)).1],rfl,q _ (none_of I hDs)];cases qb:X.base.get? b with
 |none=>exact(N1 (b,o) (.tail _ (bQ g hL qb))).1
 |some o' =>have e':=I.bk b o' qb;rw[g]at e';cases e';exact F1.keep b o qb
def qL{apos cpos:Pos}(ho:QE X o to)(he:QE X e te)(hs:aK e=true:=by rfl)(hbase:attributeBase o "split" X.env (eval o X.env)=eval o X.env:=by rfl)(hline:(apos.endLine==cpos.line)=true:=by rfl):
  QE X (.Call (.Attribute o "split" apos) [e] [] cpos) (tBM X.K "str" Bj to (dA te dP)):=by
 have h1:=aI (es:=[]) (env:=X.env) hs;have h2:starEach ([]:List L3) X.env=[]:=rfl;refine#[mH PySem.F.plainAttrs_str PySem.F.slot_str_split PySem.F.type_str_split Cr ho.h (mG he.h gU (hs:=h1)) (hbase:=hbase) (hfew:=?_) (hline:=hline) (hs:=h1) (hplain:=by rw[h2];rfl)];rw[h1,h2];rfl
def qM:V->List V->Hp->VK->Prop:=λx xs H Q=>∃(z y:Str),x=.str z/\xs=[.str y]/\Q (.bl (Txt.startswith z y)) H
def AH:MtR X "str.startswith" qM:=by intro L4 s σ H x xs v us Q I rx r h;exists[z,y,rfl,rfl,q],h;exists[t,rfl],rx;exists[u,rfl,ru],bG r;exists[t2,rfl],ru;exact SC.startswith #[.bl _,H,I,rfl,q]
def Da{apos cpos:Pos}(ho:QE X o to)(he:QE X e te)(hs:aK e=true:=by rfl)(hbase:attributeBase o "startswith" X.env (eval o X.env)=eval o X.env:=by rfl)(hline:(apos.endLine==cpos.line)=true:=by rfl):
  QE X (.Call (.Attribute o "startswith" apos) [e] [] cpos) (tBM X.K "str" qM to (dA te dP)):=by
 have h1:=aI (es:=[]) (env:=X.env) hs;have h2:starEach ([]:List L3) X.env=[]:=rfl;refine#[mH PySem.F.plainAttrs_str PySem.F.slot_str_startswith PySem.F.type_str_startswith AH ho.h (mG he.h gU (hs:=h1)) (hbase:=hbase) (hfew:=?_) (hline:=hline) (hs:=h1) (hplain:=by rw[h2];rfl)];rw[h1,h2];rfl
def ud:QCall X (.type "int") (λxs H Q=>∃(x:Str) (n:Int),xs=[.str x]/\PySem.intText? x=some n/\x.length<=640/\Q (.int n) H):=by refine#[?_];intro L4 s σ H xs us Q I r h;exists[x,n,rfl,hn,hl,q],h;exists[u,rfl,rx],bG r;exists[t,rfl],rx;exact KIN.call_text hn hl #[.int n,H,I.tok _,#[_,rfl],q]
end
def dO{x y:Str}(h:x.cps.toList=y.cps.toList):x=y:=by cases x;cases y;congr 1;exact Y2.mp h
def bf(x y:Str):(x++y).cps.toList=x.cps.toList++y.cps.toList:=by show(x.cps++y.cps).toList=_;rw[Array.toList_append]
def ch1(c:Nat):Str:=#[(List.toArray [c])]
def Jb(c:Nat):(ch1 c).cps.toList=[c]:=rfl
theorem um{c:Nat}:∀{a b x y:List Nat},c∉a->c∉b->a++c::x=b++c::y->a=b/\x=y
 | [],[],x,y,_,_,h=>by injection h with _ h;exact#[rfl,h]
 | [],d::b,x,y,_,hb,h=>by injection h with h _;exact absurd (by rw[h];exact Zo) hb
 |d::a,[],x,y,ha,_,h=>by injection h with h _;exact absurd (by rw[<-h];exact Zo) ha
 |d::a,e::b,x,y,ha,hb,h=>by injection h with h1 h2;rw[Zf,not_or]at ha hb;exists[e1,e2],um ha.2 hb.2 h2;exact#[by rw[h1,e1],e2]
def gP(c:Nat)(a b:Str)(r:List Str):(Str.join (ch1 c) (a::b::r)).cps.toList=a.cps.toList++c::(Str.join (ch1 c) (b::r)).cps.toList:=by have e:Str.join (ch1 c) (a::b::r)=a++ch1 c++Str.join (ch1 c) (b::r):=rfl;rw[e,bf,bf,Jb];simp
theorem rF{c:Nat}:∀{l m:List Str},l≠[]->m≠[]->(∀p∈l,c∉p.cps.toList)->(∀p∈m,c∉p.cps.toList)->Str.join (ch1 c) l=Str.join (ch1 c) m->l=m
 | [],_,h,_,_,_,_=>absurd rfl h
 |_,[],_,h,_,_,_=>absurd rfl h
 | [a],[b],_,_,_,_,h=>by rw[show a=b from h]
 | [a],b::b2::r,_,_,ha,_,h=>by have:=ZN Str.cps h;have:=ZN Array.toList this;rw[gP]at this;exact absurd (show c∈a.cps.toList by rw[show a.cps.toList=_ from this];simp) (ha a (by simp))
 |a::a2::r,[b],_,_,_,hb,h=>by have:=ZN Str.cps h;have:=ZN Array.toList this;rw[gP]at this;exact absurd (show c∈b.cps.toList by rw[show b.cps.toList=_ from this.symm];simp) (hb b (by simp))
 |a::a2::r,b::b2::r2,_,_,ha,hb,h=>by have:=ZN Str.cps h;have:=ZN Array.toList this;rw[gP,gP]at this;exists[e1,e2],um (ha a (by simp)) (hb b (by simp)) this;have ih:=rF (l:=a2::r) (m:=b2::r2) (by simp) (by simp) (λp hp=>ha p (Zn _ hp)) (λp hp=>hb p (Zn _ hp)) (dO e2);rw[dO e1,ih]
def Ds(x y:Str):Txt.split x y≠[]:=by
 unfold Txt.split;split
 ·simp
 ·split
  ·simp
  ·intro h;have:=ZN List.length h;rw[length_partsBetween]at this;simp at this
def pY{c:Nat}(h:l≠[])(hf:∀p∈l,c∉p.cps.toList):Txt.split (Str.join (ch1 c) l) (ch1 c)=l :=
 rF (Ds _ _) h (StrLaws.split_free _ c) hf (StrLaws.join_split _ _)
section
variable{X:Cx}
def J0(hm:X.mg x=some (.str s tk))(hg:Gl X x:=by rfl)(hd:(x==("__debug__":Str))=false:=by decide):QE X (.Name x pos) (tC (.str s)):=#[qI hg hm #[_,rfl] hd]
end
def dg(n:Nat):List Nat:=(Nat.toDigits 10 n).map Char.toNat
def dch{d:Nat}(h:d<10):(Nat.digitChar d).toNat=48+d:=by
 have:∀d:Nat,d<10->(Nat.digitChar d).toNat=48+d:=⋯
 exact this d h
def lY{n:Nat}(h:n<10):dg n=[48+n]:=by unfold dg;rw[Nat.toDigits_of_lt_base h,Zs,dch h];rfl
def lZ{n:Nat}(h:¬n<10):dg n=dg (n / 10)++[48+n%10]:=by have hm:n%10<10:=Nat.mod_lt n ⋯;have t:Nat.toDigits 10 (n / 10)++Nat.toDigits 10 (n%10)=Nat.toDigits 10 (10*(n / 10)+n%10):=Nat.toDigits_append_toDigits ⋯ ∅ hm;rw[Nat.div_add_mod]at t;unfold dg;rw[<-t,ZU,Nat.toDigits_of_lt_base hm,Zs,dch hm];rfl
def kH(n:Nat):∀c∈dg n,48<=c/\c<=57:=by
 induction n using Nat.strongRecOn with
 |_ n ih =>
  intro c hc;by_cases h:n<10
  ·rw[lY h]at hc;have:=Zj.mp hc;omega
  ·rw[lZ h]at hc;have hm:n%10<10:=Nat.mod_lt n ⋯;rcases ZE.mp hc with hc|hc
   ·exact ih (n / 10) ∅ c hc
   ·have:=Zj.mp hc;omega
def sQ(n:Nat):dg n≠[]:=by
 by_cases h:n<10
 ·rw[lY h];simp
 ·rw[lZ h];simp
theorem uq:∀(k:Nat) {n:Nat},n<10^(k+1)->(dg n).length<=k+1
 |0,n,h=>by rw[lY (by simpa using h)];simp
 |k+1,n,h=>by
  by_cases c:n<10
  ·rw[lY c];simp
  ·rw[lZ c,Zi];have:=uq k (n:=n / 10) (by rw[Nat.div_lt_iff_lt_mul ⋯];rw[Nat.pow_succ]at h;exact h);simp;omega
def EH(n:Nat):n≠0->(dg n).head?≠some 48:=by
 induction n using Nat.strongRecOn with
 |_ n ih =>
  intro h0;by_cases h:n<10
  ·rw[lY h];intro z;have:48+n=48:=ZB z;omega
  ·rw[lZ h];have:=ih (n / 10) ∅ ∅;cases e:dg (n / 10)with
   |nil=>exact absurd e (sQ _)
   |cons a r =>rw[e]at this;exact this
def nR{i:Int}(h:0<=i):(aL i).cps.toList=dg i.toNat:=by have:=KIN.signs_num i.toNat;rw[show((i.toNat:Nat):Int)=i by omega]at this;exact this
def uI{i:Int}(h:i<0):(aL i).cps.toList=45::dg i.natAbs:=by
 obtain⟨n,rfl⟩:∃n,i=Int.negSucc n:=#[(-i-1).toNat,∅]
 have e:toString (Int.negSucc n)="-"++Nat.repr (n+1):=rfl;unfold aL;rw[e,signs_ofString,String.toList_append,ZU];have e2:(Nat.repr (n+1)).toList=Nat.toDigits 10 (n+1):=by simp[Nat.repr]
 rw[e2];rfl
def gC{i:Int}(h:i.natAbs<10^60):PySem.intText? (aL i)=some i:=by
 have hl:=uq 59 h;by_cases c:0<=i
 ·have e:=nR c;have e2:i.toNat=i.natAbs:=∅
  have ln:(aL i).length<=4300:=by show(aL i).cps.size<=_;rw[<-Zu,e,e2];omega
  have:=intText_digits (x:=aL i) (by rw[e];exact kH _) (by rw[e];exact sQ _) ln;rw[this,e];have v:=KIN.val_back i.toNat;show some ((NumText.digitsVal ((Nat.toDigits 10 i.toNat).map Char.toNat):Nat):Int)=_;rw[v];congr 1;omega
 ·have e:=uI (i:=i) ∅;have ln:(aL i).length<=4300:=by show(aL i).cps.size<=_;rw[<-Zu,e,Zl];omega
  have:=intText_neg (x:=aL i) e (kH _) (sQ _) ln;rw[this];have v:=KIN.val_back i.natAbs;show some (-((NumText.digitsVal ((Nat.toDigits 10 i.natAbs).map Char.toNat):Nat):Int))=_;rw[v];congr 1;omega
def jD(i:Int):∀c∈(aL i).cps.toList,c=45\/(48<=c/\c<=57):=λc hc=>by
 by_cases h:0<=i
 ·rw[nR h]at hc;exact .inr (kH _ c hc)
 ·rw[uI ∅]at hc;rcases Zf.mp hc with h|h
  ·exact .inl h
  ·exact .inr (kH _ c h)
def Bu{c:Nat}:Txt.startswith x (ch1 c)=decide (x.cps.toList.head?=some c):=by
 exists[a],x;show(decide (0+1<=a.size)&&(a.extract 0 (0+1) == (List.toArray [c])))=_;rw[Z3,ZK,Z6,Z6,YK];constructor
 ·rintro⟨h1,h2⟩;have:=ZN Array.toList h2;rw[Array.toList_extract]at this;cases e:a.toList with
  |nil =>
   have:a.size=0:=by rw[<-Zu,e];rfl
   omega
  |cons b r =>rw[e]at this;simp at this;rw[List.head?_cons,this]
 ·intro h;cases e:a.toList with
  |nil=>rw[e]at h;cases h
  |cons b r =>
   rw[e,List.head?_cons]at h;have hb:b=c:=ZB h;have hs:a.size=r.length+1:=by rw[<-Zu,e];rfl
   refine#[∅,?_];apply Y2.mp;rw[Array.toList_extract,e,hb];simp
def E6(x:Str)(c:Nat):(!(Builtin.Str.occurrences x (ch1 c) 0 x.length 1).isEmpty)=decide (c∈x.cps.toList):=by
 have h:=StrLaws.occ_head x (ch1 c) 1 (Ze _);have at_:∀k,StrLaws.At x (ch1 c) x.length k↔x.cps.toList[k]?=some c:=λk=>by
  show(k+1<=x.cps.size/\(x.cps.extract k (k+1) == (List.toArray [c]))=true)↔_;rw[YK];constructor
  ·rintro⟨h1,h2⟩;have:=ZN Array.toList h2;rw[Array.toList_extract]at this;have hk:k<x.cps.toList.length:=by rw[Zu];omega
   rw[z9 hk];have e:(x.cps.toList.extract k (k+1))=[x.cps.toList[k]]:=by rw[List.extract_eq_drop_take,YC hk];simp
   rw[e]at this;simpa using this
  ·intro h;have hk:=(Zm.mp h).1;rw[Zu]at hk;refine#[∅,?_];apply Y2.mp;rw[Array.toList_extract,List.extract_eq_drop_take,YC (by rw[Zu];exact hk)];have:=(Zm.mp h).2;rw[this];simp
 rcases h with⟨e,no⟩|⟨i,r,e,a,_⟩
 ·rw[e];refine(decide_eq_false λhm=>?_).symm;exists[k,hk],List.getElem?_of_mem hm;exact no k ((at_ k).mpr hk)
 ·rw[e];exact(decide_eq_true (ZC ((at_ i).mp a))).symm
section
variable{X:Cx}
def Bt(hc:X.calm=true)(I:Inv X L4 σ H s)(hq:Rd H p (.dT kvs)):∃ks,fX H kvs ks/\Gp X s p ks:=by
 exists[z,hd,xs,rel,o,es,ep,h1,h2,h3,h4,_,_],jw I.hok hq;have hsz:es.size=xs.length:=size_of_entries h4;have hkl:kvs.length=xs.length:=Z8 rel;refine#[_,oZ rel,λQ h=>?_];refine kdu_collect (xw (es:=es) (ep:=ep) hd) (I.ok.hd hc) #[o,h1,h2,h3] ∅ λh' tk acc' kp hacc=>h h' tk _ kp ?_;have gen:∀(vs:LM) (ys:List (List Key×LN×LP)),vs.length=ys.length->(∀(j:Nat) (v:LP),vs[j]?=some v->∃x:List Key×LN×LP,ys[j]?=some x/\v=Value.ref x.2.1)->Vals (ys.map fun(x:List Key×LN×LP)=>V.ref x.2.1) vs:=by
  intro vs;induction vs with
  |nil =>
   intro ys hl _;cases ys with
   |nil=>exact .nil
   |cons _ _=>cases hl
  |cons v vs ih =>
   intro ys hl hv;cases ys with
   |nil=>cases hl
   |cons y ys =>exists[x,e1,e2],hv 0 v rfl;cases e1;exact .cons e2 (ih ys (by simpa using hl) λj v' e'=>hv (j+1) v' (by simpa using e'))
 refine gen _ _ (by rw[Zu,hacc.1,hsz]) λj v e'=>?_;exists[en,e1,e2],hacc.2 j v (by rw[<-Y6];exact e');rw[entry_at h4]at e1;exists[x,e3,e4],ZL.mp e1;refine#[x,e3,?_];rw[e2,<-e4];rfl
end
section
variable{prog:LQ}{w:LU}{A:LV}{E:LK}{s:LO}
def zp{α:Type}{M:Model}{c:Prop}[Decidable c]{x y:Sem α}{Q:α->LO->Prop}(h1:c->wpAny M A x Q E s)(h2:¬c->wpAny M A y Q E s):wpAny M A (if c then x else y) Q E s:=by
 by_cases h:c
 ·rw[LI h];exact h1 h
 ·rw[LH h];exact h2 h
def eI(prog:LQ)(w:LU):Option (List Key)->Int
 |none=>0xFCA86420
 |some k=>(tupleKind (ba prog w)).hash k
def OIs(prog:LQ)(w:LU)(h:Heap):Option (List Key)->LP->Prop
 |none,v=>v=.none
 |some k,v=>∃a,v=.ref a/\(tupleKind (ba prog w)).is h k a
def rG{k:Option (List Key)}{Q:Int->LO->Prop}(hu2:A.units<cLine)(h:OIs prog w s.heap k v)(q:∀tk,Q (eI prog w k) { s with toks:=tk }):wpAny (model prog w) A (pyHash v) Q E s:=by
 cases k with
 |none =>rw[show v=.none from h];exact pyHash_slot (T:="NoneType") rfl F.slot_NoneType_hash F.entry_NoneType_hash (F.args_NoneType_hash_1 _) (beq_builtin_none _) (.inr hu2) (z6 (Zb (z6 (wpAny_mkInt (Zb #[_,_,rfl,q _])))))
 |some k =>exists[a,rfl,h],h;exact(tupleKind (ba prog w)).pyHash hu2 h (q _)
def OIs.tup{k:List Key}{a:LN}{h:Heap}(x:(tupleKind (ba prog w)).is h k a):∃vs,h.IsTuple a vs:=by exists[o,items,n,h1,h2,h3,_],x;exact#[items,o,h1,h2,n,h3]
def xo{Q:Bool->LO->Prop}(hu2:A.units<cLine)(h1:OIs prog w s.heap x u)(h2:OIs prog w s.heap y v)(q:Q (decide (x=y)) s):wpAny (model prog w) A (eqBool u v) Q E s:=by
 cases x with
 |none =>
  rw[show u=.none from h1];cases y with
  |none =>rw[show v=.none from h2];exact SeqAt.EqAt.same _ _ _ _ _ q
  |some k =>exists[b,rfl,h2],h2;exists[vs,ht],OIs.tup h2;exact SeqAt.EqAt.none_tuple ht hu2 _ _ _ _ q
 |some k =>
  exists[a,rfl,h1],h1;cases y with
  |none =>rw[show v=.none from h2];exists[vs,ht],OIs.tup h1;exact SeqAt.EqAt.tuple_none ht hu2 _ _ _ _ q
  |some l =>exists[b,rfl,h2],h2;refine(tupleKind (ba prog w)).eqBool hu2 h1 h2 ?_;rw[show decide (k=l)=decide (some k=some l) by rw[decide_eq_decide];simp];exact q
def OIs.inj(h1:OIs prog w h x (.ref a))(h2:OIs prog w h y (.ref a)):x=y:=by
 cases x with
 |none=>cases h1
 |some k =>
  cases y with
  |none=>cases h2
  |some l =>exists[b,e,h1],h1;cases e;exists[b,e,h2],h2;cases e;rw[(tupleKind (ba prog w)).inj h1 h2]
def AR{k:Option (List Key)}{Q:Bool->LO->Prop}(h:OIs prog w s.heap k v)(q:Q true s):wpAny (model prog w) A (eqIsQuiet 8 v) Q E s:=by
 cases k with
 |none =>rw[show v=.none from h];exact Zb q
 |some k =>exists[a,rfl,h],h;exact(tupleKind (ba prog w)).quiet h q
def AT{key:LP}{k:Option (List Key)}{stored:LM}{Q:Bool->LO->Prop}(hkey:OIs prog w s.heap k key)(hst:∀v∈stored,∃k',OIs prog w s.heap k' v)(q:Q false s):wpAny (model prog w) A (tableMayTell key stored) Q E s:=by
 unfold tableMayTell;by_cases he:stored.isEmpty=true
 ·rw[LI he];exact Zb q
 ·rw[LH he];refine z6 (AR hkey ?_);rw[LH (by simp)];refine z6 (wpAny_forIn_list _ (λrest b s'=>s'=s/\b=(none,())/\∀v∈rest,∃k',OIs prog w s.heap k' v) _ (λx rest b s' h=>?_) (λb s' h=>?_) _ _ #[rfl,rfl,hst])
  ·exists[rfl,rfl,hr],h;exists[k',hk'],hr x Zo;refine z6 (AR hk' ?_);rw[LH (by simp)];exact Zb #[rfl,rfl,λv hv=>hr v (Zn _ hv)]
  ·exists[rfl,rfl,_],h;exact Zb q
abbrev fZ:=Option (List Key)×LP×LP
def fG(prog:LQ)(w:LU)(x:fZ):DictEntry:=#[eI prog w x.1,x.2.1,x.2.2]
structure ODict(prog:LQ)(w:LU)(h:Heap)(d:LN)(o:Obj)(es:Array DictEntry)(ep:Nat)(xs:List fZ):Prop where
 ho:h.get? d=some o
 hd:o.data=.dict es ep
 he:es.toList=xs.map (fG prog w)
 his:∀x∈xs,OIs prog w h x.1 x.2.1
 hn:(xs.map (·.1)).Nodup
def ODict.at{ep:Nat}(D:ODict prog w h d o es ep xs)(j:Nat):es[j]?=(xs[j]?).map (fG prog w):=by rw[<-Y6,D.he,Zq]
def ODict.one{ep:Nat}(D:ODict prog w h d o es ep xs){i j:Nat}(hx:xs[i]?=some x)(hy:xs[j]?=some y)(e:x.1=y.1):i=j:=by
 have h1:(xs.map (·.1))[i]?=some x.1:=by rw[Zq,hx];rfl
 have h2:(xs.map (·.1))[j]?=some x.1:=by rw[Zq,hy,e];rfl
 exact(List.getElem?_inj (Zm.mp h1).1 D.hn).mp (h1.trans h2.symm)
def oPl(es:Array DictEntry)(h:Int):List Nat:=placesWithHash es.size (λi=>es[i]?.map (·.hash)) h
def Hg(es:Array DictEntry)(h:Int):(oPl es h).Nodup:=List.Pairwise.filter _ List.nodup_range
def ODict.pl{ep:Nat}(D:ODict prog w h d o es ep xs){k:Option (List Key)}{j:Nat}(hx:xs[j]?=some x)(e:x.1=k):j∈oPl es (eI prog w k):=by
 have hj:es[j]?=some (fG prog w x):=by rw[D.at,hx];rfl
 refine ZP.mpr #[ZM.mpr (Array.getElem?_eq_some_iff.mp hj).1,?_];dsimp only;rw[hj];simp[fG,e]
def ODict.of_pl{ep:Nat}(D:ODict prog w h d o es ep xs){z:Int}{j:Nat}(hj:j∈oPl es z):∃x,xs[j]?=some x/\es[j]?=some (fG prog w x)/\eI prog w x.1=z:=by
 exists[h1,h2],ZP.mp hj;have hl:=ZM.mp h1;have e:=D.at j;rw[Yf hl]at e;exists[x,hx,hx2],ZL.mp e.symm;have e2:es[j]?=some (fG prog w x):=by rw[Yf hl,hx2]
 refine#[x,hx,e2,?_];dsimp only at h2;rw[e2]at h2;simpa[fG]using h2
def ut{ep:Nat}{k:Option (List Key)}{key:LP}{Q:Option Nat->LO->Prop}(hu:A.units<cLine)(hkey:OIs prog w s.heap k key)(D:ODict prog w s.heap d o es ep xs)(hnone:(∀(j:Nat) (x:fZ),xs[j]?=some x->x.1≠k)->Q none s)(hsome:∀(j:Nat) (x:fZ),xs[j]?=some x->x.1=k->Q (some j) s):wpAny (model prog w) A (dictFind d key (eI prog w k)) Q E s:=by
 have hst:∀v∈(oPl es (eI prog w k)).filterMap (λi=>es[i]?.map (·.key)),∃k',OIs prog w s.heap k' v:=λv hv=>by exists[i,hi,e],List.mem_filterMap.mp hv;exists[x,h1,h2,_],D.of_pl hi;rw[h2]at e;cases e;exact#[x.1,D.his x (ZC h1)]
 have plain:wpAny (model prog w) A (dictWalkPlain d key (eI prog w k) es (oPl es (eI prog w k))) Q E s:=by
  unfold dictWalkPlain;refine z6 (wpAny_forIn_list _ (λrest b s'=>s'=s/\b=(none,())/\(∀i∈rest,i∈oPl es (eI prog w k))/\∀(j:Nat) (x:fZ),xs[j]?=some x->x.1=k->j∈rest) _ (λi rest b s' h=>?_) (λb s' h=>?_) _ _ #[rfl,rfl,λ_ z=>z,λj x h1 h2=>D.pl h1 h2])
  ·exists[rfl,rfl,sub,all],h;exists[x,h1,h2,h3],D.of_pl (sub i Zo);rw[h2];dsimp only;rw[LI (by simp[fG,h3])];refine z6 (wpAny_dictEpoch D.ho D.hd (z6 (xo hu (D.his x (ZC h1)) hkey (z6 (wpAny_dictEpoch D.ho D.hd ?_)))));rw[LH (by simp)];by_cases e:x.1=k
   ·rw[decide_eq_true e,LI rfl];exact z6 (Yv (Zb (Zb (hsome i x h1 e))))
   ·rw[decide_eq_false e,LH (by simp)];refine z6 (Yv (Zb #[rfl,rfl,λi hi=>sub i (Zn _ hi),λj y g1 g2=>(Zf.mp (all j y g1 g2)).resolve_left λz=>e ?_]));subst z;rw[h1]at g1;cases g1;exact g2
  ·exists[rfl,rfl,sub,all],h;refine Zb (hnone λj x h1 h2=>?_);exact absurd (all j x h1 h2) (by simp)
 unfold dictFind;refine Z2 ?_;refine z6 (YX D.ho D.hd ?_);have shape:key=.none\/∃a,key=.ref a:=by
  cases k with
  |none=>exact .inl hkey
  |some kk=>exists[a,e,_],hkey;exact .inr #[a,e]
 rcases shape with rfl|⟨a,rfl⟩
 case' inr =>dsimp only;rw[LH (by simp[carriedByValue]),LH (by intro z;rw[<-Array.any_toList,Yu]at z;exists[e,he,hc],z;rw[D.he]at he;exists[x,hx,rfl],Zw.mp he;simp only[fG,ZK,YK,bne_iff_ne,ne_eq]at hc;have h1:=D.his x hx;rw[hc.1]at h1;exact hc.2 (by rw[OIs.inj h1 hkey]))];refine zp (λ_=>z6 (Zb ?_)) λ_=>z6 (AT hkey hst ?_)
 case' inl =>dsimp only;refine zp (λ_=>plain) λ_=>zp (λ_=>z6 (Zb ?_)) λ_=>z6 (AT hkey hst ?_)
 all_goals
  rw[LH (by simp)];refine z6 (wpAny_forIn_list _ (λrest b s'=>s'=s/\rest.Nodup/\(∀i∈rest,i∈oPl es (eI prog w k))/\∃hit,b=(none,hit)/\((hit=none/\∀(j:Nat) (x:fZ),xs[j]?=some x->x.1=k->j∈rest)\/∃(j:Nat) (x:fZ),hit=some j/\xs[j]?=some x/\x.1=k/\j∉rest)) _ (λi rest b s' h=>?_) (λb s' h=>?_) _ _ #[rfl,Hg _ _,λ_ z=>z,none,rfl,.inl #[rfl,λj x h1 h2=>D.pl h1 h2]])
  ·exists[rfl,nd,sub,hit,rfl,hh],h;exists[x,h1,h2,h3],D.of_pl (sub i Zo);have nd':=(Yb.mp nd).2;have ni:=(Yb.mp nd).1;have sub':∀i∈rest,i∈oPl es (eI prog w k):=λi hi=>sub i (Zn _ hi);rw[h2];dsimp only;rw[LI (by simp[fG,h3])];refine z6 (wpAny_dictEpoch D.ho D.hd (z6 (xo hu (D.his x (ZC h1)) hkey (z6 (wpAny_dictEpoch D.ho D.hd ?_)))));rw[LH (by simp)];by_cases e:x.1=k
   ·rw[decide_eq_true e,LI rfl];rcases hh with⟨rfl,all⟩|⟨j,y,rfl,g1,g2,g3⟩
    ·rw[LH (by simp)];refine z6 (Yv ?_);split
     ·exact Zb (Zb (hsome i x h1 e))
     ·exact Zb #[rfl,nd',sub',some i,rfl,.inr #[i,x,rfl,h1,e,ni]]
    ·exact absurd (D.one g1 h1 (g2.trans e.symm)) λz=>g3 (by rw[z];exact Zo)
   ·rw[decide_eq_false e,LH (by simp)];refine z6 (Yv ?_);rw[LH (by simp)];refine Zb #[rfl,nd',sub',hit,rfl,?_];rcases hh with⟨rfl,all⟩|⟨j,y,rfl,g1,g2,g3⟩
    ·refine .inl #[rfl,λj y g1 g2=>(Zf.mp (all j y g1 g2)).resolve_left λz=>e ?_];subst z;rw[h1]at g1;cases g1;exact g2
    ·exact .inr #[j,y,rfl,g1,g2,λz=>g3 (Zn _ z)]
  ·exists[rfl,_,_,hit,rfl,hh],h;rcases hh with⟨rfl,all⟩|⟨j,y,rfl,g1,g2,_⟩
   ·exact Zb (hnone λj x h1 h2=>absurd (all j x h1 h2) (by simp))
   ·exact Zb (hsome j y g1 g2)
end
section
variable{A:LV}{s:LO}
def yX{ep:Nat}{k:Option (List Key)}{key v:LP}{Q:LK}(hu:A.units<cLine)(hkey:OIs prog w s.heap k key)(D:ODict prog w s.heap d o es ep xs)(hc:o.ExactDict)(hz:es.size<=sizeLine)(hold:∀(j:Nat) (x:fZ) (tk:Nat),xs[j]?=some x->x.1=k->Q x.2.2 { s with toks:=tk })(hnew:(∀(j:Nat) (x:fZ),xs[j]?=some x->x.1≠k)->∀(h':Heap) (tk:Nat) (o':Obj) (es':Array DictEntry) (ep':Nat),h'.get? d=some o'->o'.ExactDict->o'.data=.dict es' ep'->es'.toList=es.toList++[#[eI prog w k,key,v]]->Heap.SameBut d s.heap h'->Q v { s with heap:=h',toks:=tk }):
  wpAny (model prog w) A (dictSetDefault d key v) Q E s:=by
 unfold dictSetDefault;refine Z2 ?_;refine z6 (rG hu hkey λtk=>?_);have D':ODict prog w ({ s with toks:=tk }:LO).heap d o es ep xs:=D;refine z6 (ut (s:={ s with toks:=tk }) hu hkey D' (λhno=>?_) (λj x h1 h2=>?_))
 ·refine z6 (Yv (z6 (wpAny_updateDictKeys (hz:=hz) (s:={ s with toks:=tk }) D.ho D.hd (Zb (hnew hno _ tk _ _ (ep+1) (YR _ D.ho (Obj.isFreed_of_dict (Obj.data_mapDictKeys D.hd _))) (hc.mapDictKeys _) (Obj.data_mapDictKeys D.hd _) ?_ (ZI ..))))));simp
 ·refine z6 (YX (s:={ s with toks:=tk }) D.ho D.hd ?_);rw[D.at j,h1];exact z6 (Yv (Zb (hold j x tk h1 h2)))
def EN{ep:Nat}{k:Option (List Key)}{key:LP}{Q:Option LP->LO->Prop}(hu:A.units<cLine)(hkey:OIs prog w s.heap k key)(D:ODict prog w s.heap d o es ep xs)(hold:∀(j:Nat) (x:fZ) (tk:Nat),xs[j]?=some x->x.1=k->Q (some x.2.2) { s with toks:=tk })(hnew:(∀(j:Nat) (x:fZ),xs[j]?=some x->x.1≠k)->∀tk:Nat,Q none { s with toks:=tk }):
  wpAny (model prog w) A (dictGet d key) Q E s:=by
 unfold dictGet;refine Z2 ?_;refine z6 (rG hu hkey λtk=>?_);have D':ODict prog w ({ s with toks:=tk }:LO).heap d o es ep xs:=D;refine z6 (ut (s:={ s with toks:=tk }) hu hkey D' (λhno=>Zb (hnew hno tk)) (λj x h1 h2=>?_));refine z6 (YX (s:={ s with toks:=tk }) D.ho D.hd ?_);rw[D.at j,h1];exact Zb (hold j x tk h1 h2)
end
abbrev OK1:=Option (List Key×LN)
def okD:OK1->Option (List Key)
 |none=>none
 |some p=>some p.1
def okV:OK1->LP
 |none=>.none
 |some p=>.ref p.2
def oE(e:OK1×LN):fZ:=(okD e.1,okV e.1,.ref e.2)
def odO(P:LQ)(w:LU)(d:LN)(kls:List (OK1×LN)):HO:=.ext λh=>(d==sysModules)=false/\∃(o:Obj) (es:Array DictEntry) (ep:Nat),h.get? d=some o/\o.ExactDict/\o.data=.dict es ep/\es.toList=(kls.map oE).map (fG P w)
def AV{w:LU}{h:Heap}{kls:List (OK1×LN)}{ep:Nat}(hd:(d==sysModules)=false)(h1:h.get? d=some o)(h2:o.ExactDict)(h3:o.data=.dict es ep)(h4:es.toList=(kls.map oE).map (fG P w)):ObjOk P w H h d (odO P w d kls) :=
 #[#[hd,o,es,ep,h1,h2,h3,h4],#[o,h1],λ_ _ ⟨a,o,es,ep,b,c⟩ k=>#[a,o,es,ep,k _ b,c]]
def qh(H:Hp)(y:V):OK1->Prop
 |none=>y=.non
 |some p=>y=.ref p.2/\H p.2=some (.tup (p.1.map kV))
def bN(kls:List (OK1×LN))(k:Option (List Key)):Option LN:=(kls.find? λe=>decide (okD e.1=k)).map (·.2)
structure OdAt(P:LQ)(w:LU)(H:Hp)(d:LN)(kls:List (OK1×LN)):Prop where
 ob:H d=some (odO P w d kls)
 ks:∀e∈kls,∀p,e.1=some p->H p.2=some (.tup (p.1.map kV))
 nd:(kls.map λe=>okD e.1).Nodup
def rH{kls:List (OK1×LN)}(nd:(kls.map λe=>okD e.1).Nodup){j:Nat}(h:kls[j]?=some e):bN kls (okD e.1)=some e.2:=by
 unfold bN;induction kls generalizing j with
 |nil=>simp at h
 |cons x r ih =>
  rw[Zs,Yb]at nd;cases j with
  |zero =>cases h;rw[List.find?_cons_of_pos (by simp)];rfl
  |succ j =>
   have h:r[j]?=some e:=h;rw[List.find?_cons_of_neg (by
    simp only[decide_eq_true_eq];intro z;exact nd.1 (z▸List.mem_map_of_mem (ZC h)))]
   exact ih nd.2 h
def pE{k:Option (List Key)}(h:∀e∈kls,okD e.1≠k):bN kls k=none:=by unfold bN;rw[List.find?_eq_none.mpr (λe he=>by simp only[decide_eq_true_eq];exact h e he)];rfl
section
def xp(I:Inv X L4 σ H s)(h:qh H y e)(r:RelV y u):OIs X.prog X.w s.heap (okD e) u/\u=okV e:=by
 cases e with
 |none =>rw[show y=.non from h]at r;cases(show u=Value.none from r);exact#[rfl,rfl]
 |some p =>exists[rfl,h],h;cases(show u=Value.ref p.2 from r);exact#[#[p.2,rfl,gQ I.hok h],rfl]
def Ea(I:Inv X L4 σ H s)(h:OdAt X.prog X.w H d kls):(d==sysModules)=false/\∃(o:Obj) (es:Array DictEntry) (ep:Nat),o.ExactDict/\ODict X.prog X.w s.heap d o es ep (kls.map oE):=by
 exists[hd,o,es,ep,h1,h2,h3,h4],(I.hok d _ h.ob).1;refine#[hd,o,es,ep,h2,h1,h3,h4,λx hx=>?_,?_]
 ·exists[e,he,rfl],Zw.mp hx;cases ek:e.1 with
  |none =>show OIs _ _ _ (okD e.1) (okV e.1);rw[ek];exact rfl
  |some p =>show OIs _ _ _ (okD e.1) (okV e.1);rw[ek];exact#[p.2,rfl,gQ I.hok (h.ks e he p ek)]
 ·rw[Yw];exact h.nd
end
def BP(P:LQ)(w:LU)(H:Hp)(a:LN):Prop:=∃kls,H a=some (odO P w a kls)
def JK(P:LQ)(w:LU):TE:=λ_ H Q=>∀p,H p=none->Q (.ref p) (upd H p (odO P w p []))
def JL(P:LQ)(w:LU)(td ty tx:TE):TE:=λσ H Q=>td σ H λx H1=>∃a,x=.ref a/\BP P w H1 a/\ty σ H1 λy H2=>tx σ H2 λz H3=>∃kls e l0,OdAt P w H3 a kls/\qh H3 y e/\z=.ref l0/\kls.length<4096 /\
 (∀l,bN kls (okD e)=some l->Q (.ref l) H3)/\(bN kls (okD e)=none->Q (.ref l0) (upd H3 a (odO P w a (kls++[(e,l0)]))))
def JJ(P:LQ)(w:LU)(td ty tx:TE):TE:=λσ H Q=>td σ H λx H1=>∃a,x=.ref a/\BP P w H1 a/\ty σ H1 λy H2=>tx σ H2 λz H3=>∃kls e,OdAt P w H3 a kls/\qh H3 y e/\kls.length<4096 /\
 (∀l,bN kls (okD e)=some l->Q (.ref l) H3)/\(bN kls (okD e)=none->Q z H3)
section
variable{X:Cx}{apos cpos:Pos}
def JE:QE X (.Dict [] [] pos) (JK X.prog X.w):=#[λL4 s σ H Q I h =>
 wpAny_Dict_empty #[.ref s.heap.objs.size,_,I.laid (a:=s.heap.objs.size) (o:=odO X.prog X.w s.heap.objs.size []) (t':=s.toks) (λ_ _ q=>Za _ q) (Ze _) (AV (ep:=0) (Yg.mpr (y7 (Zx I.big))) (Zk _ rfl) #[rfl,rfl,rfl] rfl rfl),rfl,h _ (I.hok.fresh (Ze _))]]
def mn(I:Inv X L4 σ H s)(d:BP X.prog X.w H a):s.TypeIs (.ref a) "dict"/\(∀b,Value.ref a=.ref b->∃ob,s.heap.get? b=some ob/\ob.dict=none):=by exists[kls,h],d;exists[_,o,es,ep,h1,h2,_],(I.hok a _ h).1;refine#[#[o,h1,h2.1],λb q=>?_];cases q;exact#[o,h1,h2.2.1]
def Bh(hu:X.A.units+64<cLine)(ho:QE X o td)(he:QE X e ty)(hf:QE X f tx)(hs1:aK e=true:=by rfl)(hs2:aK f=true:=by rfl)(hbase:attributeBase o "setdefault" X.env (eval o X.env)=eval o X.env:=by rfl)(hline:(apos.endLine==cpos.line)=true:=by rfl) :
  QE X (.Call (.Attribute o "setdefault" apos) [e,f] [] cpos) (JL X.prog X.w td ty tx):=by
 refine#[?_];have h1:=aI (es:=[f]) (env:=X.env) hs1;have h2:=aI (es:=[]) (env:=X.env) hs2;have h3:starEach ([]:List L3) X.env=[]:=rfl;intro L4 s σ H Q I h;refine wpAny_Call_method hbase (by rw[h1,h2,h3];rfl) hline PySem.F.plainAttrs_dict PySem.F.slot_dict_setdefault PySem.F.type_dict_setdefault (thn (ho.h L4 s σ H _ I h) λu s1 hz9=>?_);exists[x,H1,I1,rx,a,ex,d,q1],hz9;subst ex;obtain rfl:u=Value.ref a:=rx;exists[t1,t2],mn I1 d;refine#[t1,t2,?_];have ht:backTo cpos (starEach [e,f] X.env)=[(false,eval e X.env),(false,eval f X.env)]:=by rw[h1,h2,h3];rfl
 rw[ht];refine Calls.callWith_builtin rfl (Calls.evalArgs_plain (Y4 (thn (he.h L4 s1 σ H1 _ I1 q1) λiv s2 ⟨y,H2,I2,ry,q2⟩ =>
  Y4 (thn (hf.h L4 s2 σ H2 _ I2 q2) λfv s3 ⟨z,H3,I3,rz,kls,ke,l0,oa,ok,ez,l,qo,qn⟩=>Calls.spliced_nil ?_))))
 subst ez;obtain rfl:fv=Value.ref l0:=rz;exists[ki,kv],xp I3 ok ry;exists[hd,ob,es,ep,hc,D],Ea I3 oa;have hz:es.size<=sizeLine:=by rw[<-Zu,D.he,Zd,Zd];exact fm ∅
 have ty':=(mn I3 #[kls,oa.ob]).1;refine ZT PySem.F.slot_dict_setdefault ty' PySem.F.entry_dict_setdefault ?_ (PySem.F.args_dict_setdefault_3 _ _ _);show wpAny _ _ (Builtin.«dict.setdefault» #[[.ref a,iv,.ref l0],[]]) _ _ s3;unfold Builtin.«dict.setdefault»;refine z6 ?_;unfold Builtin.Dict.keyAndDefault;refine z6 (wpAny_notOrdered_dict ty' ?_);show wpAny _ _ (pure (a,iv,some (Value.ref l0))) _ _ s3;refine Zb ?_;show wpAny _ _ (if(a==sysModules)=true then _ else(dictSetDefault a iv (.ref l0) >>= _)) _ _ s3;rw[LH (by rw[hd];exact Zv)];refine z6 (yX (by show X.A.in1.units<cLine;simp only[Around.in1_units];omega) ki D hc hz (λj x tk g1 g2=>Zb #[_,rfl,?_]) (λhno h' tk o' es' ep' g1 g2 g3 g4 g5=>Zb #[_,rfl,?_]))
 ·rw[Zq]at g1;exists[en,g3,rfl],ZL.mp g1;have:=rH oa.nd g3;rw[show okD en.1=okD ke from g2]at this;exact#[.ref en.2,H3,I3.tok _,rfl,qo _ this]
 ·have hn:bN kls (okD ke)=none:=pE λen hen=>by exists[j,hj],ZR.mp hen;exact hno j (oE en) (by rw[Zq,hj];rfl)
  refine#[.ref l0,_,lX (a:=a) (t':=tk) I3 (by rw[oa.ob];exact True.intro) g5 #[o',g1] (AV (kls:=kls++[(ke,l0)]) hd g1 g2 g3 ?_),rfl,qn hn];rw[g4,D.he,ZU,ZU,kv];rfl
end
section
variable{X:Cx}{apos cpos:Pos}
def Bg(hu:X.A.units+64<cLine)(ho:QE X o td)(he:QE X e ty)(hf:QE X f tx)(hs1:aK e=true:=by rfl)(hs2:aK f=true:=by rfl)(hbase:attributeBase o "get" X.env (eval o X.env)=eval o X.env:=by rfl)(hline:(apos.endLine==cpos.line)=true:=by rfl) :
  QE X (.Call (.Attribute o "get" apos) [e,f] [] cpos) (JJ X.prog X.w td ty tx):=by
 refine#[?_];have h1:=aI (es:=[f]) (env:=X.env) hs1;have h2:=aI (es:=[]) (env:=X.env) hs2;have h3:starEach ([]:List L3) X.env=[]:=rfl;intro L4 s σ H Q I h;refine wpAny_Call_method hbase (by rw[h1,h2,h3];rfl) hline PySem.F.plainAttrs_dict PySem.F.slot_dict_get PySem.F.type_dict_get (thn (ho.h L4 s σ H _ I h) λu s1 hz9=>?_);exists[x,H1,I1,rx,a,ex,d,q1],hz9;subst ex;obtain rfl:u=Value.ref a:=rx;exists[t1,t2],mn I1 d;refine#[t1,t2,?_];have ht:backTo cpos (starEach [e,f] X.env)=[(false,eval e X.env),(false,eval f X.env)]:=by rw[h1,h2,h3];rfl
 rw[ht];refine Calls.callWith_builtin rfl (Calls.evalArgs_plain (Y4 (thn (he.h L4 s1 σ H1 _ I1 q1) λiv s2 ⟨y,H2,I2,ry,q2⟩ =>
  Y4 (thn (hf.h L4 s2 σ H2 _ I2 q2) λfv s3 ⟨z,H3,I3,rz,kls,ke,oa,ok,l,qo,qn⟩=>Calls.spliced_nil ?_))))
 exists[ki,kv],xp I3 ok ry;exists[hd,ob,es,ep,hc,D],Ea I3 oa;have ty':=(mn I3 #[kls,oa.ob]).1;refine ZT PySem.F.slot_dict_get ty' PySem.F.entry_dict_get ?_ (PySem.F.args_dict_get_3 _ _ _);show wpAny _ _ (Builtin.«dict.get» #[[.ref a,iv,fv],[]]) _ _ s3;unfold Builtin.«dict.get»;refine z6 ?_;unfold Builtin.Dict.keyAndDefault;refine z6 (wpAny_notOrdered_dict ty' ?_);show wpAny _ _ (pure (a,iv,some fv)) _ _ s3;refine Zb ?_;dsimp only;refine z6 (EN (by show X.A.in1.units<cLine;simp only[Around.in1_units];omega) ki D (λj x tk g1 g2=>?_) (λhno tk=>?_))
 ·rw[Zq]at g1;exists[en,g3,rfl],ZL.mp g1;have:=rH oa.nd g3;rw[show okD en.1=okD ke from g2]at this;exact Zb #[_,rfl,.ref en.2,H3,I3.tok _,rfl,qo _ this]
 ·have hn:bN kls (okD ke)=none:=pE λen hen=>by exists[j,hj],ZR.mp hen;exact hno j (oE en) (by rw[Zq,hj];rfl)
  dsimp only;unfold Builtin.Dict.missed;rw[LH (by rw[hd];exact Zv)];exact z6 (Zb (Zb #[_,rfl,z,H3,I3.tok _,rz,qn hn]))
def Io(ho:QE X o to)(hbase:attributeBase o "pop" X.env (eval o X.env)=eval o X.env:=by rfl)(hline:(apos.endLine==cpos.line)=true:=by rfl):QE X (.Call (.Attribute o "pop" apos) [] [] cpos) (IC X.K "list" Iv to) :=
 #[HH PySem.F.plainAttrs_list PySem.F.slot_list_pop PySem.F.type_list_pop Hd ho.h hbase hline]
def C7(ho:QE X o to)(he:QE X e te)(hs:aK e=true:=by rfl)(hbase:attributeBase o "extend" X.env (eval o X.env)=eval o X.env:=by rfl)(hline:(apos.endLine==cpos.line)=true:=by rfl) :
  QE X (.Call (.Attribute o "extend" apos) [e] [] cpos) (tBM X.K "list" xt to (dA te dP)):=by
 have h1:=aI (es:=[]) (env:=X.env) hs;have h2:starEach ([]:List L3) X.env=[]:=rfl;refine#[mH PySem.F.plainAttrs_list PySem.F.slot_list_extend PySem.F.type_list_extend AG ho.h (pa he.h gU hs) hbase ?_ hline h1 (by rw[h2];rfl)];rw[h1,h2];rfl
end
def zo{l:W.OpenLaw}{n k:Nat}{XP:(LL)->Heap->Prop}{YP:LU->Heap->Prop}{d:DefRec}{K:Params->W.Frag}{tabs:Params->List (LN×LN)}{sp:LU->Sp}(hn:l.most=some n)(hn2:n<=sizeLine)(hdf:d.params.defaults=[])(hr:Room k callerA)(hY:∀ (w:LU) (h:Heap),YP w h->(K w.params).In h)(ht:∀ (w:LU) (h:Heap),YP w h->∀ t∈tabs w.params,CodeHd h t.1 t.2/\h.get? t.2=some (tabObj #[]))(nt:∀ w:LU,noTabs (K w.params)=true)(F:∀ (w:LU) (mg:LL) (fa:LN) (h:Heap),(K w.params).In h->h.Ns mainGlobals mg->mg d.name=some (.ref fa) ->
   ∃fd:LW,(∀(s:LO) (u:LP),BindsTo s fd #[[u],[]] [(x,u)]) /\
    ∀ base:Heap,(K w.params).In base->base.Ns mainGlobals mg->Blt base mg->(∀ t∈tabs w.params,CodeHd base t.1 t.2)->FnOk l.prog w (K w.params) mg base CX0 k fa fd [x] (sp w))(go:∀ (w:LU) (H:Hp) (a:LN) (ns:LX),ns.length<=n->(∀ t∈tabs w.params,H t.2=some (.tbl #[]))->SqL (K w.params) H a (ns.map V.int)->sp w [.ref a] H (λv _=>v=.bl true) λ_ _ _=>False):
  W.WalkO q loose XP YP l.row.toRowW d [] (λf vs=>PySem.call f vs):=by
 refine Att.attach_call hn hdf λw s₀ s₁ mg mb fa o pm cd doc a vs ns G Y ho hd hcd hmg hobj hints hlen hg=>?_;have kx:=hY w _ Y;exists[fd,hb,hF],F w mg fa _ kx G.T.g hmg;exact Cj (tabs:=tabs w.params) kx G.T.g G.T.b G.T.builtins G.T.nolimit hg G.T.bmain (λr hr'=>ht w _ Y r hr') (nt w) hobj hints (Zt hlen hn2) hr (λbase h1 h2 h3 h4=>hF base h1 h2 h3 h4) hb λH h1 h2=>go w H a ns hlen h1 h2
def lO(K:Frag)(x m:Str):Option (LN×LN):=match nsIn K mainGlobals x with
 | some (some (.ref C))=>(match findIn K (.ref C) m with
  | some (some (.ref f))=>(match K.lookup f with
   | some ⟨_,_,.func fd,_⟩=>(match fd.code with
    | .ref c=>(match K.lookup c with
     | some ⟨_,_,.fields vs,_⟩=>(match (vs[11]?:Option LP) with
      |some (.ref P)=>some (c,P)
      | _=>none)
     | _=>none)
    | _=>none)
   | _=>none)
  | _=>none)
 |_=>none
def BA{K:Frag}(g:nsIn K mainGlobals x=some (some (.ref C)))(a:findIn K (.ref C) m=some (some (.ref f)))(l:K.lookup f=some #[oc,od,.func fd,sl])(t:lO K x m=some (c,P)):fd.code=.ref c:=by
 unfold lO at t;rw[g]at t;dsimp only at t;rw[a]at t;dsimp only at t;rw[l]at t;dsimp only at t;split at t
 ·rename_i c' e;rw[e];split at t
  ·split at t
   ·cases t;rfl
   ·cases t
  ·cases t
 ·cases t
def Aj{K:Frag}{st:Stmt}(g:nsIn K mainGlobals x=some (some (.ref C)))(a:findIn K (.ref C) m=some (some (.ref f)))(F:Fun K m q st f fd)(t:lO K x m=some (c,P)):fd.code=.ref c:=by exists[oc,od,kV,dc,pm,an,cd,ct,sl,rfl,l,c0],id F.ex;exact BA g a l t
section
variable{prog:LQ}{w:LU}{A:LV}{E:LK}{s:LO}{κ:SortKind}{it:Array Keyed}{lt:LZ}{N:Nat}
def Gh(Z:Zc prog w A s κ it lt N)(O:LtOk lt)(h2:2<=N)(h64:N<64){Q:Unit->SortSt->Prop}(h:∀(p:LY) (st':SortSt),POk N p->LS lt p N->p.size=N->arrOf st'=p.map (kas_item it)->failedOf st'=none->Q () st') :
  wpS (model prog w) A E s sortRuns' Q (SortSt.mk' κ ((List.toArray (List.range N)).map (kas_item it)) #[] 7 none) :=
 kas_runs (Q:=λu st' s'=>s'=s/\Q u st') (G:=λp s'=>s'=s/\POk N p/\LS lt p N) h2 h64 (λp st' _ hz ha hf g=>#[g.1,h p st' g.2.1 g.2.2 hz ha hf]) (mr (n:=N) (lt:=lt) Z (λ_ hp hr=>#[rfl,hp,hr.2]) (nX ∅) (qC O ∅))
end
section
variable{A:LV}{s:LO}{kS:LN}{vs ks:LM}
def IT{e e1:Nat}{P:PySem.Fin->LO->Prop}(hl:ks.length=vs.length)(h64:vs.length<64)(h:xV prog w A b ks vs (λout=>KatFin h₀ L m kS a ks e e1 out (λs3=>P (.done (.ret .none)) s3)) s):
  wpAny (model prog w) A (ksk_end a b vs.toArray e1 (.ref kS) (List.toArray ks)) P E s:=by
 have hz:vs.length<=4096:=∅
 have lr:(katRev b ks).length=(katRev b vs).length:=by rw[kat_len,kat_len,hl]
 have lv:(katRev b vs).length=vs.length:=kat_len b vs;have step:∀t:Sem PySem.Fin,wpAny (model prog w) A t P E s->wpAny (model prog w) A (if b=true then(do let _ ←rule "list.sort.reverse";t)else t) P E s:=by
  intro t ht;split
  ·exact z6 (Yv ht)
  ·exact ht
 unfold ksk_end;dsimp only;refine step _ ?_;have er:∀κ,SortSt.mk' κ ((List.toArray (katRev b ks)).zip (List.toArray (katRev b vs))) #[] 7 none=SortSt.mk' κ ((List.toArray (List.range vs.length)).map (kas_item ((List.toArray (katRev b ks)).zip (List.toArray (katRev b vs))))) #[] 7 none:=λκ=>by have e:=kas_range ((List.toArray (katRev b ks)).zip (List.toArray (katRev b vs)));rw[show((List.toArray (katRev b ks)).zip (List.toArray (katRev b vs))).size=vs.length by simp[lr,lv]]at e;rw[e]
 rw[kat_pairs b hl];by_cases n2:vs.toArray.size<2
 ·rw[LI n2,LI n2];have n2':vs.length<2:=by simpa using n2
  refine z6 (Zb ?_);rw[er,StateT.run_pure];refine z6 (Zb ?_);dsimp only;exact xR (kat_snds lr (p:=List.toArray (List.range vs.length)) rfl) (by simpa using hz) ∅ rfl (h.2 n2')
 rw[LH n2,LH n2];have n3:2<=vs.length:=by rw[Zh]at n2;omega
 refine z6 (Z7 (h.1 n3) (λκ s0 hg=>?_) λ_ _ x=>x.elim);exists[lt,O,ask,fin],hg;have Z:Zc prog w A s0 κ ((List.toArray (katRev b ks)).zip (List.toArray (katRev b vs))) lt vs.length:=λi j C hi hj hC=>by have:=ask i j C hi hj hC;rw[kat_ask_eq lr]at this;exact this
 rw[er];refine z6 (Z7 (Gh (E:=E) (Q:=λ_ st'=>∃p:LY,POk vs.length p/\LS lt p vs.length/\p.size=vs.length/\arrOf st'=p.map (kas_item ((List.toArray (katRev b ks)).zip (List.toArray (katRev b vs))))/\failedOf st'=none) Z O n3 h64 λp st' a1 a2 a3 a4 a5=>#[p,a1,a2,a3,a4,a5]) ?_ λ_ _ x=>x);rintro⟨⟨⟩,st'⟩ s' ⟨rfl,p,a1,a2,a3,a4,a5⟩;dsimp only;exact xR (kat_snds lr a4) (by rw[Zd,Zu,a3];exact hz) ∅ a5 (fin p a1 a2)
def Gg{e1:Nat}{P:PySem.Fin->LO->Prop}(hq:s.heap.get? kS=some (seqObj "list" #[] 0))(h64:vs.length<64)(h:KatKeys prog w A h₀ L m kS f (λks e s'=>xV prog w A b ks vs (λout=>KatFin h₀ L m kS a ks e e1 out (λs3=>P (.done (.ret .none)) s3)) s') vs [] 0 s):
  wpAny (model prog w) A (ksk_rest a f b vs.toArray e1 (.ref kS)) P E s:=by
 have hz:vs.length<=4096:=∅
 unfold ksk_rest;refine z6 (Yv ?_);rw[<-Array.forIn_toList];refine z6 (Z7 (xQ hz (λx qs e s' C hzz hx=>?_) vs [] 0 s (by simp) hq h) (λ_ s' hd=>?_) λ_ _ x=>x)
 ·refine z6 (wpAny_attempt (Z7 hx (λk s2 hkk=>?_) λ_ _ hF=>hF.elim));exists[nw,g,Fq,Nq,Uq,cq],hkk;exists[l1,l2,e0,hg,x1,x2],Uq.split;rw[e0]at Nq;have ak:=Nq (kS,seqObj "list" (List.toArray qs) e) (ZJ _ (.head _));have s1:=ZI s2.heap kS (Obj.mapSeq (·.push k));have ea:(List.toArray qs).push k=List.toArray (qs++[k]):=by simp
  obtain⟨c2,hc2⟩:∃z,(s2.heap.update kS (Obj.mapSeq (·.push k))).get? kS=some (seqObj "list" (List.toArray (qs++[k])) z):=#[_,by rw[<-ea];exact Yc ak.1 (·.push k)]
  dsimp only;refine z6 (Ym ak.1 rfl (Zb #[rfl,k,c2,hc2,cq _ c2 (kas_fr Fq s1 ak.2.1 ak.2.2) (by rw[hg];exact news_set Nq x1 x2 s1 hc2)]) (by rw[Zh];exact fm ∅) (Zt (Nat.le_of_eq (Array.size_push ..)) (by rw[Zh];exact x9 (fm ∅))))
 ·exists[qs,e,hq',hl,fin],hd;exact z6 (listItems_at hq' rfl (IT hl h64 fin))
def DG{n:Nat}{P:PySem.Fin->LO->Prop}(F:Fr h₀ L s.heap m)(N:News h₀ L s.heap news)(ho:s.heap.get? a=some (seqObj "list" vs.toArray n))(haL:a≠L)(ha0:h₀.get? a=none)(hna:∀ p∈news,p.1≠a)(h64:vs.length<64)(h:∀ kS e1 h',Fr h₀ L h' m->News h₀ L h' ((kS,seqObj "list" #[] 0)::(a,seqObj "list" #[] e1)::news)->a<kS->(∀ q∈news,q.1<kS) ->
   KatKeys prog w A h₀ L m kS f (λks e s'=>xV prog w A b ks vs (λout=>KatFin h₀ L m kS a ks e e1 out (λs3=>P (.done (.ret .none)) s3)) s') vs [] 0 { s with heap:=h' }):
  wpAny (model prog w) A (ksk_tree a f b) P E s:=by
 have hz:vs.length<=4096:=∅
 have la:a<s.heap.objs.size:=Zr ho;have s1:=ZI s.heap a (Obj.mapSeq λ_=>(#[]:Array LP));have F1:=kas_fr F s1 haL ha0;have N1:=kas_news N s1 hna;obtain⟨e1,ho1⟩:∃z,(s.heap.update a (Obj.mapSeq λ_=>(#[]:Array LP))).get? a=some (seqObj "list" #[] z):=#[_,Yc ho λ_=>#[]]
 have zk:((s.heap.update a (Obj.mapSeq λ_=>(#[]:Array LP))).push (seqObj "tuple" vs.toArray 0)).objs.size=s.heap.objs.size+1:=by rw[size_push',Heap.size_update]
 have lk:L<((s.heap.update a (Obj.mapSeq λ_=>(#[]:Array LP))).push (seqObj "tuple" vs.toArray 0)).objs.size:=(F1.push _).ns.lt;unfold ksk_tree;refine z6 (listItems_at ho rfl (z6 (Ym ho rfl (z6 (seqEpoch_at ho1 rfl (z6 (wpAny_newTuple (z6 (wpAny_newList (Z2 ?_) (Zy _))) (fm hz))))) (by rw[Zh];exact fm hz) (Zy _))));refine Gg (s:={ s with heap:=((s.heap.update a (Obj.mapSeq λ_=>(#[]:Array LP))).push (seqObj "tuple" vs.toArray 0)).push (seqObj "list" #[] 0) }) (kS:=((s.heap.update a (Obj.mapSeq λ_=>(#[]:Array LP))).push (seqObj "tuple" vs.toArray 0)).objs.size)
  (Zk _ rfl) h64 (h _ e1 _ ((F1.push _).push _) (λp hp=>?_) (by rw[zk];exact Yj la) λq hq=>by rw[zk];exact Yj (Zr (N q hq).1))
 rcases Zf.mp hp with rfl|hp
 ·exact#[Zk _ rfl,ZV lk,Yr (Zt F.above (Nat.le_of_lt lk))]
 ·rcases Zf.mp hp with rfl|hp
  ·exact#[Za _ (Za _ ho1),haL,ha0]
  ·exact#[Za _ (Za _ (N1 p hp).1),(N1 p hp).2]
def Gf{Q:LK}(F:Fr h₀ L s.heap m)(N:News h₀ L s.heap news)(h64:vs.length<64)(ha2:∀ x,argsOk "list.sort" #[[.ref x],kw])(ht:∀ x,Builtin.«list.sort» #[[.ref x],kw]=ksk_tree x f b)(h:∀ D kS e1 h',Fr h₀ L h' m->News h₀ L h' ((kS,seqObj "list" #[] 0)::(D,seqObj "list" #[] e1)::news)->D<kS->(∀ q∈news,q.1<D) ->
   KatKeys prog w A.in1 h₀ L m kS f (λks e s'=>xV prog w A.in1 b ks vs (λout=>KatFin h₀ L m kS D ks e e1 out (λs4=>Q (.ref D) s4)) s') vs [] 0 { s with heap:=h' }):
  wpAny (model prog w) A (do let l ←newList vs;let _ ←holding [l] (call (.builtin "list.sort") [l] kw);ret l) (λfin s'=>∃v,fin=.done (.ret v)/\Q v s') E s:=by
 have hz:vs.length<=4096:=∅
 have hL:L<s.heap.objs.size:=F.ns.lt;have hoL:(s.heap.push (seqObj "list" vs.toArray 0)).get? s.heap.objs.size=some (seqObj "list" vs.toArray 0):=Zk _ rfl;refine z6 (wpAny_newList ?_ (fm hz));refine z6 (Z2 (wpAny_call_entry_kw slot_list_sort #[_,hoL,rfl] entry_list_sort ?body (ha2 _)))
 case body =>
  show wpAny (model prog w) A.in1 (Builtin.«list.sort» #[[.ref s.heap.objs.size],kw]) _ _ _;rw[ht];refine DG (s:={ s with heap:=s.heap.push (seqObj "list" vs.toArray 0) }) (F.kept λb o q=>Za _ q) (N.grown λb o q=>Za _ q) hoL (ZV hL) (Yr (Zt F.above (Nat.le_of_lt hL))) (λp hp=>Zx (Zr (N p hp).1)) h64 λkS e1 h' F' N' l0 l1=>?_;refine kat_keys_mono (h _ kS e1 h' F' N' l0 λq hq=>Zr (N q hq).1) λks e s' _ hd=>#[λn2=>Z7 (hd.1 n2) (λκ s2 hk=>?_) λ_ _ x=>x,λn2=>(hd.2 n2).mono λs4 hq=>#[_,rfl,Zb #[_,rfl,hq]]]
  exists[lt,O,ask,fin],hk;exact#[lt,O,ask,λp a1 a2=>(fin p a1 a2).mono λs4 hq=>#[_,rfl,Zb #[_,rfl,hq]]]
end
section
def wC{ks:List ZKey}{Q:VK}(I:Inv X L4 σ H s)(src:Gp X s l xs)(h64:xs.length<64)(hl:ks.length=xs.length)(hne:(∀k∈ks,∃ns,k=.t ns/\ns≠[])\/(zr ks/\X.A.in1.in1.units+64<cLine))(hs1:argsOk "sorted" #[[.ref l],kw])(hs2:∀x,argsOk "list.sort" #[[.ref x],kw])(hs3:∀x,Builtin.«list.sort» #[[.ref x],kw]=ksk_tree x (.ref f) b)(F:∀l,lU (wX X l) L4 σ f sp)(spec:∀(i:Nat) (v:V) (key:ZKey) (H':Hp),xs[i]?=some v->ks[i]?=some key->Same H H'->∀R:VK,(∀kv H'',Same H' H''->key.at H'' kv->R kv H'')->sp [v] H' R E0)(q:∀(p:LY) (H2:Hp) (D:LN),POk xs.length p->LS (λi j=>HT.lexLt ((katRev b (ks.map ZKey.nums)).getD i []) ((katRev b (ks.map ZKey.nums)).getD j [])) p xs.length->Same H H2->H2 D=none->Q (.ref D) (upd H2 D (.lst (katRev b (p.toList.map λi=>(katRev b xs).getD i .non))))):
  wpAny (model X.prog X.w) X.A (call (.builtin "sorted") [.ref l] kw) (EP X L4 σ Q) X.xe s:=by
 have hz:xs.length<=4096:=∅
 refine call_function_entry_kw kind_sorted plain_sorted entry_sorted hs1 ?_;unfold Builtin.«sorted»;refine z6 (m:=checkCount "sorted" 1 1 _) (Zb (z6 (src _ λh0 tk its kp rv=>?_)));have I0:Inv X L4 σ H { s with heap:=h0,toks:=tk }:=I.kept (t':=tk) kp;exists[m,F0],I0.fr;have li:its.length=xs.length:=rv.length.symm;refine Gf (vs:=its) (b:=b) F0 (eE X.base h0 X.env.locals) ∅ hs2 hs3 λD kS e1 h1 F1 N1 hDk hD=>?_;have nD:=N1 (D,seqObj "list" #[] e1) (.tail _ (.head _));have nK:=N1 (kS,seqObj "list" #[] 0) (.head _);have hds:h0.get? D=none:=by
  cases g:h0.get? D with
  |none=>rfl
  |some o=>exact absurd (hD (D,o) (bQ g nD.2.1 nD.2.2)) (Yl _)
 have hks:h0.get? kS=none:=by
  cases g:h0.get? kS with
  |none=>rfl
  |some o=>exact absurd (Nat.lt_trans hDk (hD (kS,o) (bQ g nK.2.1 nK.2.2))) (Yl _)
 have xk:=I0.exOk hks nK.2.1 nK.2.2;have xd:=I0.exOk hds nD.2.1 nD.2.2;have hlx:∀b∈[kS,D],ExOk X b:=λb' hb=>by
  simp only[Zf,Zz,ZY]at hb;rcases hb with rfl|rfl
  ·exact xk
  ·exact xd
 have fpk:=I0.fpW (l:=[kS,D]) (by simp) xk hks;have fpd:=I0.fpW (l:=[kS,D]) (by simp) xd hds;have mv0:∀b u,b≠X.env.locals->b∉([]:List LN)->h0.get? b=some u->h1.get? b=some u:=λb u hL _ g=>by
  cases qb:X.base.get? b with
  |none=>exact(N1 (b,u) (.tail _ (.tail _ (bQ g hL qb)))).1
  |some o =>have e':=I0.bk b o qb;rw[g]at e';cases e';exact F1.keep b u qb
 have I1:Inv X L4 σ H { s with heap:=h1,toks:=tk }:=Inv.movedF (ch:=[]) (s:={ s with heap:=h0,toks:=tk }) (t':=tk) I0 (λb hb=>absurd hb (by simp)) mv0 #[m,F0.ns,F1.ns];have I2:=I1.widen hlx;have hkd:kS≠D:=ZV hDk;refine pV (X:=wX X [kS,D]) (H1:=H) (D:=D) (e1:=e1) (ks:=ks) (xs:=xs) (its:=its) hkd rv hl (F _) spec (λas us e2 H' s' S la=>?_) its [] [] 0 H { s with heap:=h1,toks:=tk } #[I2,Same.refl H,fpk,fpd,nK.2.2,nD.2.2,nK.1,nD.1,F1.ns,.nil,λi a k h=>by simp at h] (by simp) (by simpa using li);have hN:its.length=xs.length:=li;have lu:us.length=xs.length:=by rw[<-S.vals.length,la]
 have rvR:Vals (katRev b xs) (katRev b its):=jX b rv;have lR:(katRev b xs).length=xs.length:=kat_len b xs;have gk:∀i,i<xs.length->∃(v:V) (u:LP) (k:ZKey),RelV v u/\(katRev b us).getD i Value.none=u/\k∈ks/\(katRev b (ks.map ZKey.nums)).getD i []=k.nums/\k.at H' v:=λi hi=>by
  obtain⟨j,hj,e1⟩:∃j,j<xs.length/\∀{α:Type} (l:List α),l.length=xs.length->(katRev b l)[i]?=l[j]?:=by
   cases b with
   |false=>exact#[i,hi,λl _=>rfl]
   | true=>exact#[xs.length - 1 - i,∅,λl hl'=>by
     show l.reverse[i]?=_;rw[YF ∅,hl']]
  have h1:as[j]?=some (as[j]'∅):=z9 ∅;have h2:ks[j]?=some (ks[j]'∅):=z9 ∅;exists[u,gu,ru],S.vals.get h1;refine#[_,u,_,ru,?_,ZG (show j<ks.length by omega),?_,S.keys j _ _ h1 h2]
  ·rw[Zg,e1 us lu,gu];rfl
  ·rw[Zg,e1 (ks.map ZKey.nums) (by rw[Zd,hl]),Zq,h2];rfl
 have fin:∀p:LY,POk xs.length p->p.size=xs.length/\LS (λi j=>HT.lexLt ((katRev b (ks.map ZKey.nums)).getD i []) ((katRev b (ks.map ZKey.nums)).getD j [])) p xs.length ->
   KatFin X.base X.env.locals m kS D us e2 e1 (katRev b (p.toList.map λi=>(katRev b its).getD i Value.none)) (λs4=>EP X L4 σ Q (.ref D) s4) s':=λp hp hs=>by
  refine KatFin.intro (news:=(kS,seqObj "list" (List.toArray us) e2)::dW X.base s'.heap X.env.locals kS) S.fr (de S.hk S.fk.2.1 S.bk) (.head dX) λh3 c F3 N3=>?_;have mv3:=cZ (λb' o qb=>S.I.bk b' o qb) F3 N3;have hd3:h3.get? D=some (seqObj "list" #[] e1):=mv3 D _ S.fd.2.1 (λzz=>hkd (Zj.mp zz).symm) S.hd;refine KasFin.intro (news:=(D,seqObj "list" #[] e1)::dW X.base h3 X.env.locals D) (s:={ s' with heap:=h3 }) F3 (de hd3 S.fd.2.1 S.bd) (.head dX) λh4 c4 F4 N4=>?_;have mv4:=cZ (λb' o qb=>F3.keep b' o qb) F4 N4;have hch:∀b∈[kS,D],aZ (wX X [kS,D]) L4 H' b:=λb' hb=>by
   simp only[Zf,Zz,ZY]at hb;rcases hb with rfl|rfl
   ·exact S.fk
   ·exact S.fd
  have mv:∀b u,b≠X.env.locals->b∉[kS,D]->s'.heap.get? b=some u->h4.get? b=some u:=λb' u hL hx g=>mv4 b' u hL (λzz=>hx (by rw[Zj.mp zz];simp)) (mv3 b' u hL (λzz=>hx (by rw[Zj.mp zz];simp)) g);have pl:∀i∈p.toList,i<xs.length:=λi hi=>by have:=(hp.mem_iff).mp (Ys.mp hi);simpa using this
  have vals:∀(w:List Nat),(∀i∈w,i<xs.length)->Vals (w.map λi=>(katRev b xs).getD i .non) (w.map λi=>(katRev b its).getD i Value.none):=λw=>by
   induction w with
   |nil=>intro _;exact .nil
   |cons i w ih =>intro hw;have hi:=hw i Zo;have hx:(katRev b xs)[i]?=some ((katRev b xs)[i]'∅):=z9 ∅;exists[u,gu,ru],rvR.get hx;refine .cons ?_ (ih λj hj=>hw j (Zn _ hj));show RelV ((katRev b xs).getD i V.non) ((katRev b its).getD i Value.none);rw[Zg,Zg,hx,gu];exact ru
  have lp:p.toList.length=xs.length:=by have:=hs.1;simpa using this
  have new:ObjOk X.prog X.w (upd H' D (.lst (katRev b (p.toList.map λi=>(katRev b xs).getD i .non)))) h4 D (.lst (katRev b (p.toList.map λi=>(katRev b xs).getD i .non))):=#[by rw[kat_len,Zd,lp];exact fm ∅,_,c4,jX b (vals _ pl),(N4 _ (.head _)).1]
  have I4:=Inv.tookF (X:=wX X [kS,D]) (ch:=[kS,D]) (a:=D) (o:=.lst (katRev b (p.toList.map λi=>(katRev b xs).getD i .non))) (t':=s'.toks) S.I (by simp) hch mv #[m,S.ns,F4.ns] new;exact#[.ref D,_,I4.narrow I.ok (λb' hb=>(hlx b' hb).old),rfl,q p H' D hp hs.2 S.sm S.fd.1]
 have go:∀κ:SortKind,(∀(i j:Nat) (C:Bool->LO->Prop),i<xs.length->j<xs.length->C (HT.lexLt ((katRev b (ks.map ZKey.nums)).getD i []) ((katRev b (ks.map ZKey.nums)).getD j [])) s'->kas_ask X.prog X.w X.A.in1.in1 κ (katRev b us) i j C s') ->
   ZGo X.prog X.w X.A.in1.in1 b us its (λout=>KatFin X.base X.env.locals m kS D us e2 e1 out (λs4=>EP X L4 σ Q (.ref D) s4)) κ s':=λκ hask=>by
  refine#[_,uR (katRev b (ks.map ZKey.nums)),?_,?_]
  ·rw[hN];exact hask
  ·rw[hN];exact λp hp hs=>fin p hp #[by have:=hp.size_eq;simpa using this,hs]
 refine#[λn2=>?_,λn2=>?_]
 rotate_left
 ·have:=fin (List.toArray (List.range its.length)) (by rw[hN];exact Array.Perm.refl _) #[by simpa using hN,λi j h1 h2=>∅];rw[List.toList_toArray]at this;exact this
 rcases hne with hB|⟨hP,hun⟩
 ·have tups:∀(vs:List V) (ws:LM) (n:Nat),Vals vs ws->n+vs.length=ks.length->(∀(i:Nat) (v:V) (k:ZKey),vs[i]?=some v->ks[n+i]?=some k->k.at H' v)->∃fs:LM,KatTups s'.heap ws fs/\fs.length=ws.length/\∀v∈fs,∃i t,v=.int i t:=λvs=>by
   induction vs with
   |nil =>intro ws n hv _ _;cases hv;exact#[[],KatTups.nil,rfl,λv h=>nomatch h]
   |cons v vs ih =>
    intro ws n hv hl' h;cases hv with
    |cons rv1 hv =>
     rw[Zl]at hl';have hkn:ks[n]?=some (ks[n]'∅):=z9 ∅;exists[ns,en,ne],hB _ (ZG (show n<ks.length by omega));rw[en]at hkn;exists[a,rfl,ea],h 0 v _ rfl (by rw[Nat.add_zero];exact hkn);cases rv1;exists[ia,ra,pa,za],S.I.tuple (L6 (K:=X.K) ea);exists[oa,eo,ca,n1,da],id pa;obtain⟨x,t,ia',rfl⟩:∃x t r,ia=.int x t::r:=by
      cases bo ra with
      |nil=>exact absurd rfl ne
      |cons x t r=>exact#[x,t,_,rfl]
     exists[fs,f1,f2,f3],ih _ (n+1) hv ∅ (λi w k' h1 h2=>h (i+1) w k' h1 (by rw[show n+(i+1)=n+1+i by omega];exact h2));refine#[.int x t::fs,KatTups.cons eo ca da rfl f1,by rw[Zl,Zl,f2],λv hv=>?_];rcases Zf.mp hv with rfl|hv
     ·exact#[_,_,rfl]
     ·exact f3 v hv
  exists[fs,t1,t2,t3],tups as us 0 S.vals ∅ (λi v k h1 h2=>S.keys i v k h1 (by rw[Nat.zero_add]at h2;exact h2));refine kat_kind (T:=.type "int") t1 ∅ (λv hv=>?_) rfl (go _ λi j C hi hj hC=>?_)
  ·exists[i,t,rfl],t3 v hv;exact .now
  ·exists[v,u,k1,ru,eu,m1,en,at1],gk i hi;exists[v2,u2,k2,ru2,eu2,m2,en2,at2],gk j hj;exists[n1,rfl,_],hB _ m1;exists[n2,rfl,_],hB _ m2;exists[a1,rfl,ha1],at1;exists[a2,rfl,ha2],at2;cases ru;cases ru2;exists[ia,ra,pa,za],S.I.tuple (L6 (K:=X.K) ha1);exists[ib,rb,pb,zb],S.I.tuple (L6 (K:=X.K) ha2);exists[oa,eoa,ca,q1,da],id pa;exists[ob,eob,cb,q2,db],id pb;unfold kas_ask;rw[eu,eu2];rw[en,en2]at hC;exact kat_lt eoa da eob db (mZ _ _ _ _ 0 (bo ra) (bo rb) (by rw[Zh,Zh,<-ra.length,<-rb.length,Zd,Zd]) hC)
 ·have tups:∀(vs:List V) (ws:LM) (n:Nat),Vals vs ws->n+vs.length=ks.length->(∀(i:Nat) (v:V) (k:ZKey),vs[i]?=some v->ks[n+i]?=some k->k.at H' v)->∃fs:LM,KatTups s'.heap ws fs/\fs.length=ws.length/\∀v∈fs,∃(a:LN) (o:Obj),v=.ref a/\s'.heap.get? a=some o/\o.cls=.type "tuple":=λvs=>by
   induction vs with
   |nil =>intro ws n hv _ _;cases hv;exact#[[],KatTups.nil,rfl,λv h=>nomatch h]
   |cons v vs ih =>
    intro ws n hv hl' h;cases hv with
    |cons rv1 hv =>
     rw[Zl]at hl';have hkn:ks[n]?=some (ks[n]'∅):=z9 ∅;exists[ps,ns,en],hP _ (ZG (show n<ks.length by omega));rw[en]at hkn;exists[a,b,c,rfl,ea,eb,ec],h 0 v _ rfl (by rw[Nat.add_zero];exact hkn);cases rv1;exists[ia,ra,pa,za],S.I.tuple (L6 (K:=X.K) ea);exists[oa,eo,ca,n1,da],id pa;exists[ib,rb,pb,zb],S.I.tuple (L6 (K:=X.K) eb);exists[ob,eob,cb,n2,db],id pb;exists[u1,u2,rfl,r1,r2],fW ra;cases r1;exists[fs,f1,f2,f3],ih _ (n+1) hv ∅ (λi w k' h1 h2=>h (i+1) w k' h1 (by rw[show n+(i+1)=n+1+i by omega];exact h2));refine#[.ref b::fs,KatTups.cons eo ca da rfl f1,by rw[Zl,Zl,f2],λv hv=>?_];rcases Zf.mp hv with rfl|hv
     ·exact#[b,ob,rfl,eob,cb]
     ·exact f3 v hv
  exists[fs,t1,t2,t3],tups as us 0 S.vals ∅ (λi v k h1 h2=>S.keys i v k h1 (by rw[Nat.zero_add]at h2;exact h2));refine kat_kind (T:=.type "tuple") t1 ∅ (λv hv=>?_) rfl (go _ λi j C hi hj hC=>?_)
  ·exists[a,o,rfl,ho,hc'],t3 v hv;rw[<-hc'];exact(Looks.ld ho).andThen .now
  ·exists[v,u,k1,ru,eu,m1,en,at1],gk i hi;exists[v2,u2,k2,ru2,eu2,m2,en2,at2],gk j hj;exists[p1,n1,rfl],hP _ m1;exists[p2,n2,rfl],hP _ m2;exists[a1,b1,c1,rfl,ha1,hb1,hc1],at1;exists[a2,b2,c2,rfl,ha2,hb2,hc2],at2;cases ru;cases ru2;exists[ia,ra,pa,za],S.I.tuple (L6 (K:=X.K) ha1);exists[ib,rb,pb,zb],S.I.tuple (L6 (K:=X.K) ha2);exists[oa,eoa,ca,q1,da],id pa;exists[ob,eob,cb,q2,db],id pb;exists[u1,u2,rfl,r1,r2],fW ra;cases r1;cases r2;exists[u1,u2,rfl,r1,r2],fW rb;cases r1;cases r2;exists[ix,rx,px,zx],S.I.tuple (L6 (K:=X.K) hb1);exists[iy,ry,py,zy],S.I.tuple (L6 (K:=X.K) hb2);exists[jx,sx,qx,yx],S.I.tuple (L6 (K:=X.K) hc1);exists[jy,sy,qy,yy],S.I.tuple (L6 (K:=X.K) hc2);unfold kas_ask;rw[eu,eu2];rw[en,en2]at hC;have hu0:X.A.in1.in1.units<cLine:=∅
   exact kat_lt eoa da eob db (wf (wZ S.I hun hb1 hb2) (wZ S.I hun hc1 hc2) (λR hR=>HT.lt_tupInts px py (bo rx) (bo ry) hu0 hR) (λR hR=>HT.lt_tupInts qx qy (bo sx) (bo sy) hu0 hR) rfl hC)
end
def II(sp:Sp)(H:Hp)(xs:List V)(Q:VK):Prop :=
 xs.length<64/\∃ks:List ZKey,ks.length=xs.length/\zr ks /\
 (∀(i:Nat) (v:V) (key:ZKey) (H':Hp),xs[i]?=some v->ks[i]?=some key->Same H H'->∀R:VK,(∀kv H'',Same H' H''->key.at H'' kv->R kv H'')->sp [v] H' R E0) /\
 ∀(p:LY) (H2:Hp) (D:LN),POk xs.length p->LS (λi j=>HT.lexLt ((ks.map ZKey.nums).getD i []) ((ks.map ZKey.nums).getD j [])) p xs.length->Same H H2->H2 D=none->Q (.ref D) (upd H2 D (.lst (p.toList.map λi=>xs.getD i .non)))
def F6(P:LN)(q:Str)(lpos:Pos)(j:Nat)(sp:V->Sp)(ta:TA):TE:=λσ H0 Q=>ta σ H0 λvs H=>∃(l:LN) (kvs:List (List Key×V)) (kv:V),vs=[.ref l]/\σ[j]?=some (some kv)/\H l=some (.dT kvs)/\aN q P lpos H/\∀ks H2,SameT P H H2->aN q P lpos H2->fX H2 kvs ks->II (sp kv) H2 ks Q
section
variable{X:Cx}
def C9{k j:Nat}(hc:X.calm=true)(hm:X.mg "sorted" = none)(hcode:X.env.code=.ref c)(C:CodeHd X.base c P)(B:Blt X.base X.mg)(F:LamOkX X.prog X.w X.K X.mg X.base k (X.env.qual++"<lambda>") body scope x y sp)(hr:Room (k+3) X.A)(ha:QA X [e] ta)(hj:X.N[j]?=some y)(hyc:X.env.scope.names.lookup y=some .cell)(hcy:X.env.cells.lookup y=some cy)(hcl:closureFor scope X.env=pure [(y,cy)])(hbd:∀(pm ct:LP) (c':LN) (s:LO) (u:LP),BindsTo s (mx (X.env.qual++"<lambda>") params body scope [(y,cy)] pm c' ct) #[[u],[]] [(x,u)]:=by intros;exact .of_eq rfl)(hge:X.env.globals=mainGlobals:=by rfl)(hdef:defaultsOf params X.env=([],[]):=by rfl)(hg:Gl X "sorted":=by rfl)(hn:aK e=true:=by rfl):
  QE X (.Call (.Name "sorted" p) [e] [#[some "key",.Lambda params body scope lpos,kpos]] pos) (F6 P (X.env.qual++"<lambda>") lpos j sp ta):=by
 refine#[?_];intro L4 s σ H0 Q I h;refine Ya (cV I hg hm YW ?_);have h1:=aI (es:=[]) (env:=X.env) hn;refine PyProof.Rows.callWith_kw (thn (ha.h pos L4 s σ H0 _ I h) λus s1 hz9=>?_) (he:=by rw[h1];rfl) (hplain:=by rw[h1];rfl) (hall:=rfl) (hkw:=rfl);exists[vs,H1,I1,r1,q1],hz9;exists[l,kvs,kv,rfl,hσ,hH,tab,q],q1;exists[u,rfl,ru],bG r1;cases ru;have hk:PK X [#[some "key",.Lambda params body scope lpos,kpos]] (dA (pZ [(y,cy)] X P params body scope lpos) dP):=mI (qJ hcode hge C B hdef hcl) vn;refine thn (hk pos L4 s1 σ H1 (λzs H2=>∃f,zs=[.ref f]/\iS X P (X.env.qual++"<lambda>") lpos params body scope [(y,cy)] H1 f H2) I1 (nZ tab λf H2 mk=>#[f,rfl,mk])) λws s2 hz9=>?_;exists[zs,H2,I2,rz,f,e1,mk],hz9;subst e1;exists[u,rfl,ru],bG rz;cases ru;exists[c',ct,sT,lt,hf,hc',nf,nc],mk;have hr2:Room (k+1) X.A.in1.in1:=(hr.mono ∅ |>.in1 |>.in1)
 have F1:=uO (X:=X) (L4:=L4) (σ:=σ) (sp:=sp kv) (params:=params) (f:=f) (c:=cy) (c':=c') (pm:=(X.mg "__name__").getD .none) (ct:=ct) F.sc hj hσ hyc hcy hr2 (hbd _ _ _) λA outer s H v Q hr' hs=>let⟨t,t1,t2⟩:=F.ex f c' cy kv A outer s H v Q hr' hs;#[t,t1.h,t2]
 exists[ps0,tP,_],id tab;have hlP:l≠P:=λz=>by rw[z,tP]at hH;cases hH
 have hH2:=sT _ _ hH hlP;exists[ks,kat,src],Bt hc I2 (Rd.of hH2);exists[hz,zs,hl,hal,spec,q],q ks H2 sT lt kat;exact wC (b:=false) I2 src hz hl (.inr #[hal,hr2.units]) (ksk_s1 _ _) (λx=>ksk_l1 _ _) (λx=>ksk_t1 f x) F1 (λi v key H' g1 g2 g3 R hR=>#[g3 _ _ hf,g3 _ _ hc',spec i v key H' g1 g2 g3 R hR]) q
end
inductive IsF(a b:Str)(x:V)(R:V->Prop):Prop
 |mk (z:Str) (h0:x=.str z) (h1:a.length+z.length+b.length<=sizeLine) (q:R (.str (a++z++b))):IsF a b x R
section
def Dl(ha:QE X o ta)(hv:QE X value tv)(hop:BO X op rd):QS X (.AugAssign (.Attribute o f tpos) op value pos) (xB X.K ta tv rd f):=#[Bc ha.h hv.h hop]
end
inductive rStrA(xs:List V)(H:Hp)(Q:VK):Prop
 |int (i:Int) (h0:xs=[.int i]) (h1:i.natAbs<10^4300) (q:Q (.str (aL i)) H):rStrA xs H Q
 |str (z:Str) (h0:xs=[.str z]) (q:Q (.str z) H):rStrA xs H Q
section
variable{X:Cx}{K:W.Frag}
def qm(hK:X.K=K)(hc:X.calm=true)(dg:nsIn K cStatics "sys.int_max_str_digits" = some none):QCall X (.type "str") rStrA:=by
 refine#[?_];intro L4 s σ H xs us Q I r h;cases h with
 |int i h0 hi q=>exact(EB hK hc dg).h L4 s σ H xs us Q I r #[i,h0,hi,q]
 |str z h0 q =>subst h0;exists[u,rfl,rx],bG r;exists[t,rfl],rx;exact P.str_of_str #[.str z,H,I,#[_,rfl],q]
inductive rNeNil(K:W.Frag)(x y:V)(H:Hp)(Q:VK):Prop
 |mk (a b:LN) (xs:List V) (h0:x=.ref a) (h1:y=.ref b) (ha:SqL K H a xs) (hb:SqL K H b []) (q:Q (.bl (!xs.isEmpty)) H):rNeNil K x y H Q
def qF(hK:X.K=K)(hu:X.A.units+64<cLine):QOp X (compareOp .NotEq) (rNeNil K):=by
 refine#[?_];subst hK;intro L4 s σ H x y v u Q I rx ry h;exists[a,b,xs,rfl,rfl,ha,hb,q],h;cases xs with
 |nil=>exact Ht hu L4 s σ H _ _ v u Q I rx ry #[a,b,[],[],rfl,rfl,ha,hb,q]
 |cons x xs =>cases rx;cases ry;exists[its,r1,p1,_],I.list ha;exists[its2,r2,p2,_],I.list hb;have l1:its.length=xs.length+1:=r1.length.symm;have l2:its2.length=0:=r2.length.symm;exact SeqAt.RcNeAt.lists_lengths p1.isList p2.isList (by simp[l1,l2]) ∅ X.prog X.w X.xe _ #[.bl true,H,I,rfl,q]
end
structure MkFnX(P:LQ)(w:LU)(K:W.Frag)(mg:LL)(base:Heap)(k:Nat)(C:LN)(x:Str)(ps:List Str)(sp:Sp):Prop where
 cl:Cls K C
 mgC:mg x=some (.ref C)
 ex:∃f fd,FnOk P w K mg base (CXr P w) k f fd ps sp/\Mk K C f/\Binds K fd ps []
open PySem PySem.Spec PyProof.Rows PySem.W Builtin Builtin.Str
structure QE1(X:Cx)(e:L3)(t:TE):Prop where
 h:∀(L4:LJ) (s:LO) (σ:St) (H:Hp) (Q:VK),1<=s.toks->Inv X L4 σ H s->t σ H Q->wpAny (model X.prog X.w) X.A (eval e X.env) (EP X L4 σ Q) X.xe s
structure QT1(X:Cx)(e:L3)(t:TT):Prop where
 h:∀(L4:LJ) (s:LO) (σ:St) (H:Hp) (Q:Bool->Hp->Prop),Inv X L4 σ H s->t σ H Q->wpAny (model X.prog X.w) X.A (isTrue e X.env (eval e X.env)) (λb s'=>1<=s'.toks/\TP X L4 σ Q b s') X.xe s
structure QS1(X:Cx)(st:Stmt)(t:TS):Prop where
 h:∀(L4:LJ) (s:LO) (σ:St) (H:Hp) (D:Ends),Inv X L4 σ H s->t D σ H->wpAny (model X.prog X.w) X.A (exec st X.env) (λf s'=>1<=s'.toks/\SP X L4 D f s') X.xe s
structure QB1(X:Cx)(st:List Stmt)(t:TS):Prop where
 h:∀(L4:LJ) (s:LO) (σ:St) (H:Hp) (D:Ends),1<=s.toks->Inv X L4 σ H s->t D σ H->wpAny (model X.prog X.w) X.A (execs st X.env) (SP X L4 D) X.xe s
section
variable{X:Cx}{L4:LJ}{σ:St}{H:Hp}{s:LO}
structure MS(X:Cx)(L4:LJ)(σ:St)(H1:Hp)(S I l:LN)(j:Nat)(us:Array LP)(H:Hp)(s:LO):Prop where
 iv:Inv X L4 σ H s
 sm:Same H1 H
 fS:aZ X L4 H S
 fI:aZ X L4 H I
 hS:∃e,s.heap.get? S=some (seqObj "list" us e)
 hI:s.heap.IsListIter I l j
end
inductive rEqNil(K:W.Frag)(x y:V)(H:Hp)(Q:VK):Prop
 |mk (a b:LN) (xs:List V) (h0:x=.ref a) (h1:y=.ref b) (ha:SqL K H a xs) (hb:SqL K H b []) (q:Q (.bl xs.isEmpty) H):rEqNil K x y H Q
def E4{X:Cx}{K:W.Frag}(hK:X.K=K)(hu:X.A.units+64<cLine):QOp X (compareOp .Eq) (rEqNil K):=by
 refine#[?_];subst hK;intro L4 s σ H x y v u Q I rx ry h;exists[a,b,xs,rfl,rfl,ha,hb,q],h;cases rx;cases ry;exists[its,r1,p1,_],I.list ha;exists[its2,r2,p2,_],I.list hb;have l2:its2.length=0:=r2.length.symm;cases xs with
 |nil =>have l1:its.length=0:=r1.length.symm;have g:=SeqAt.RcAt.lists (A:=X.A) (e:=λ_=>true) p1.isList p2.isList (by simp[l1,l2]) ∅ (λj h1 h2=>by simp[l1]at h1);rw[show(List.range its.toArray.size).all (λ_=>true)=true by simp]at g;exact g X.prog X.w X.xe _ #[.bl true,H,I,rfl,q]
 |cons x xs =>have l1:its.length=xs.length+1:=r1.length.symm;exact SeqAt.RcAt.lists_lengths p1.isList p2.isList (by simp[l1,l2]) ∅ X.prog X.w X.xe _ #[.bl false,H,I,rfl,q]
end L2
namespace HT
open PySem PyProof.Rows
end HT
namespace L2
open PySem PySem.Spec PyProof.Rows PySem.W Builtin
section
variable{prog:LQ}{w:LU}{A:LV}{S:LN}{wr:List LN}{n:Nat}{P:Nat->LP->Prop}{St:Nat->Heap->Prop}{TT:Heap->Prop}
structure CmpIn(prog:LQ)(w:LU)(A:LV)(P:Nat->LP->Prop)(lt:LZ)(wr:List LN)(S:LN)(TT:Heap->Prop):Prop where
 stay:∀h h':Heap,(∀b o,b∉wr->b≠S->h.get? b=some o->h'.get? b=some o)->TT h->TT h'
 cmp:∀i j vi vj (s:LO) (Q E:LK),TT s.heap->P i vi->P j vj->Q (.bool (lt i j)) s->wpAny (model prog w) A (richCompare .Lt vi vj) Q E s
end
section
variable{kd:Nat}
inductive MinR(K:W.Frag)(vs:List V)(H:Hp)(Q:VK):Prop
 |mk (a:LN) (ps:List (LN×LX)) (h0:vs=[.ref a]) (h1:SqL K H a (ps.map λx=>.ref x.1)) (h2:∀x∈ps,SqT K H x.1 (x.2.map V.int)) (q0:ps=[]->Q .non H) (q:∀x∈ps,(∀y∈ps,HT.lexLt y.2 x.2=false)->Q (.ref x.1) H):MinR K vs H Q
end
def A8{a b c:Int}(h0:0<=a)(h1:a<=b)(h2:0<c):(slicePick items (some a) (some b) (some c)).toList.length<=((b-a+c-1) / c).toNat:=by
 unfold slicePick;rw[List.toList_toArray];refine Zt (List.length_filterMap_le _ _) ?_;unfold sliceRange sliceBounds;simp only[Option.getD_some,gt_iff_lt,h2,if_true,Zd,List.length_range,LH (show¬a<0 by omega),LH (show¬b<0 by omega)];refine Int.toNat_le_toNat ?_;split
 ·refine Int.ediv_le_ediv h2 ?_;omega
 ·exact Int.ediv_nonneg ∅ ∅
theorem rK{ns:LX}(r:Vals (ns.map V.int) its):∀ix:List Nat,∃ms:LX,Vals (ms.map V.int) (ix.filterMap λx=>its.toArray[x]?)/\ms.length=(ix.filterMap λx=>its.toArray[x]?).length
 | []=>#[[],.nil,rfl]
 |i::ix=>by
  exists[ms,h1,h2],rK r ix;cases e:its.toArray[i]? with
  |none =>
   refine#[ms,?_,?_]<;>rw[List.filterMap_cons_none e]
   ·exact h1
   ·exact h2
  |some u =>
   have e':its[i]?=some u:=by simpa using e
   have hi:i<its.length:=(Zm.mp e').1;have hn:i<ns.length:=by have:=r.length;rw[Zd]at this;omega
   exists[u',hu,ru],r.get (x:=V.int ns[i]) (by rw[Zq,z9 hn];rfl);rw[e']at hu;cases hu;refine#[ns[i]::ms,?_,?_]<;>rw[List.filterMap_cons_some e]
   ·exact .cons ru h1
   ·rw[Zl,Zl,h2]
inductive rSl3(K:W.Frag)(x l u z:V)(H:Hp)(Q:VK):Prop
 |mk (a b c:Int) (p:LN) (ns:LX) (h0:l=.int a) (h1:u=.int b) (h2:z=.int c) (h3:0<=a) (h4:a<=b) (h5:0<c) (h6:x=.ref p) (h7:SqL K H p (ns.map V.int)) (q:∀(p':LN) (ms:LX),ms.length<=((b-a+c-1) / c).toNat->H p'=none->Q (.ref p') (upd H p' (.lst (ms.map V.int)))):rSl3 K x l u z H Q
def J7(K:W.Frag)(te tl tu ts:TE):TE:=λσ H Q=>te σ H λx H1=>tl σ H1 λl H2=>tu σ H2 λu H3=>ts σ H3 λz H4=>rSl3 K x l u z H4 Q
section
def yO{e el eu st:L3}{te tl tu ts:TE}(he:QE X e te)(hl:QE X el tl)(hu:QE X eu tu)(hst:QE X st ts):QE X (.Subscript e (.Slice (some el) (some eu) (some st) p2) pos) (J7 X.K te tl tu ts):=by
 refine#[?_];intro L4 s σ H Q I h;refine Subscript_ (thn (he.h L4 s σ H _ I h) λv s1 hz9=>?_);exists[x,H1,I1,r1,q1],hz9;refine wpAny_Slice (wpAny_evalPart_some (thn (hl.h L4 s1 σ H1 _ I1 q1) λvl sl hz9=>?_));exists[l,Hl,Il,rl,ql],hz9;refine wpAny_evalPart_some (thn (hu.h L4 sl σ Hl _ Il ql) λvu su hz9=>?_);exists[u,Hu,Iu,ru,qu],hz9;refine wpAny_evalPart_some (thn (hst.h L4 su σ Hu _ Iu qu) λvk s2 hz9=>?_);exists[z,H2,I2,rz,q2],hz9;exists[a,b,c,p,ns,rfl,rfl,rfl,h0,h1,h2,rfl,hx,q],q2;cases r1;exists[ta,rfl],rl;exists[tb,rfl],ru;exists[t,rfl],rz;have I4:Inv X L4 σ H2 { s2 with heap:=s2.heap.push { cls:=.type "slice",data:=.fields (List.toArray [.int a ta,.int b tb,.int c t]) } }:=I2.kept (t':=s2.toks) λb ob q=>Za _ q;exists[its,r,ht,hz],I4.list hx;have hlen:=r.length;show wpAny (model X.prog X.w) X.A (subscriptTail e (.Slice (some el) (some eu) (some st) p2) (.ref p) (.ref s2.heap.objs.size)) (EP X L4 σ Q) X.xe { s2 with heap:=s2.heap.push { cls:=.type "slice",data:=.fields (List.toArray [.int a ta,.int b tb,.int c t]) } };refine tail_any (ops:=_) ht.isList.typeIs slot_list_getitem.lookup ?_ (by with_unfolding_all rfl);refine wpAny_getItem_list_slice ht.isList (Heap.IsSliceOf.new ..) (.int a ta) (.int b tb) (.int c t) (by intro z;cases z;exact absurd h2 ⋯) ?_ (by rw[Zh]<;>omega);exists[ms,m1,m2],rK r (sliceRange (sliceBounds (some a) (some b) (some c) its.toArray.size).fst (sliceBounds (some a) (some b) (some c) its.toArray.size).snd.fst (sliceBounds (some a) (some b) (some c) its.toArray.size).snd.snd);have pl:=A8 (items:=its.toArray) h0 h1 h2;have le:(slicePick its.toArray (some a) (some b) (some c)).size<=its.toArray.size:=slicePick_size_le ..;have em:ms.length=(slicePick its.toArray (some a) (some b) (some c)).toList.length:=by unfold slicePick;rw[List.toList_toArray];exact m2
 refine#[.ref _,_,I4.laid (t':=s2.toks) (o:=.lst (ms.map V.int)) (λb ob q=>Za _ q) (Ze _) ?_,rfl,q _ ms (by rw[em];exact pl) (I4.hok.fresh (Ze _))];refine#[?_,(slicePick its.toArray (some a) (some b) (some c)).toList,0,?_,?_]
 ·have sz:its.toArray.size=its.length:=Zh;rw[Zd,em,Zu];exact Zt le (by rw[sz,<-hlen];exact hz)
 ·unfold slicePick;rw[List.toList_toArray];exact m1
 ·exact Zk _ rfl
end
end L2
set_option maxRecDepth 100000
set_option maxHeartbeats 4000000
namespace K55
open PySem L2
open PyProof.Rows (envOfC)
open PySem.W (envX katRev CodeHd)
abbrev Md:=List V
abbrev Mc:=List (List Key×V)
def top(i:Nat):Stmt:=PySem.Challenge.pw_limb_k55_whole_asked.main.body.getD i (.Pass #[0,0,0,0])
def tw(l:List Str):TV:=.tup (l.map V.str)
section
variable{K:W.Frag}
def cxK:(fq CX P w K mg base N qual scope f cd A outer s H E).nox.K=K:=rfl
def vix{K:W.Frag}{i:Nat}{n:Int}{Q:VK}(hv:σ[i]?=some (some (.ref a)))(hs:SqT K H a xs)(ha:atI xs n=some v)(q:Q v H):tOp (rIxT K) (tVar i) (tC (.int n)) σ H Q:=#[_,hv,a,_,_,_,rfl,rfl,hs,ha,q]
def Ag{K:W.Frag}{xs:Md}{g:TG}{tb:L2.TS}{D:Ends}(Pv:Nat->St->Hp->Prop)(h0:Pv 0 σ H)(hl:∀i σ H,i<=xs.length->Pv i σ H->SqL K H a xs)(hs:∀i x σ H,xs[i]?=some x->Pv i σ H->∀D':Ends,(∀σ' H',Pv (i+1) σ' H'->D'.nx σ' H')->g x σ H λσ2 H2=>tb D' σ2 H2)(hd:∀σ H,Pv xs.length σ H->D.nx σ H):
  ∃W:Nat->Nat->St->Hp->Prop,(∃m,W 0 m σ H)/\∀i m σ H,W i m σ H ->
   ((Itl K a).stop i H/\D.nx σ H)\/((Itl K a).go i H/\∃N:St->Hp->Prop,(∀σ' H',N σ' H'->∃m',m'<m/\W (i+1) m' σ' H')/\∀x H',(Itl K a).yld i H x H'->g x σ H' λσ2 H2=>tb { D with nx:=N,ct:=N,bk:=D.nx } σ2 H2) :=
 B5 Pv h0 hl (λi x σ H a b=>hs i x σ H a b _ λ_ _ z=>z) hd
def rD{K:W.Frag}{xs:Md}{j:Nat}{tb:L2.TS}{D:Ends}(Pv:Nat->St->Hp->Prop)(h0:Pv 0 σ H)(hl:∀i σ H,i<=xs.length->Pv i σ H->SqL K H a xs)(hs:∀i x σ H,xs[i]?=some x->Pv i σ H->∀D':Ends,(∀σ' H',Pv (i+1) σ' H'->D'.nx σ' H')->tb D' (σ.set j (some x)) H)(hd:∀σ H,Pv xs.length σ H->D.nx σ H):
  ∃W:Nat->Nat->St->Hp->Prop,(∃m,W 0 m σ H)/\∀i m σ H,W i m σ H ->
   ((Itl K a).stop i H/\D.nx σ H)\/((Itl K a).go i H/\∃N:St->Hp->Prop,(∀σ' H',N σ' H'->∃m',m'<m/\W (i+1) m' σ' H')/\∀x H',(Itl K a).yld i H x H'->bD j x σ H' λσ2 H2=>tb { D with nx:=N,ct:=N,bk:=D.nx } σ2 H2) :=
 Ag Pv h0 hl hs hd
def yk{lo:Int}{n:Nat}{g:TG}{tb:L2.TS}{D:Ends}(Pv:Nat->St->Hp->Prop)(h0:Pv 0 σ H)(hs:∀i σ H,i<n->Pv i σ H->∀D':Ends,(∀σ' H',Pv (i+1) σ' H'->D'.nx σ' H')->g (.int (lo+i)) σ H λσ2 H2=>tb D' σ2 H2)(hd:∀σ H,Pv n σ H->D.nx σ H):
  ∃W:Nat->Nat->St->Hp->Prop,(∃m,W 0 m σ H)/\∀i m σ H,W i m σ H ->
   ((Itr lo n).stop i H/\D.nx σ H)\/((Itr lo n).go i H/\∃N:St->Hp->Prop,(∀σ' H',N σ' H'->∃m',m'<m/\W (i+1) m' σ' H')/\∀x H',(Itr lo n).yld i H x H'->g x σ H' λσ2 H2=>tb { D with nx:=N,ct:=N,bk:=D.nx } σ2 H2) :=
 Ah Pv h0 (λi σ H a b=>hs i σ H a b _ λ_ _ z=>z) hd
def aT{t u:L2.TS}(h:∀R:Ends,(∀σ' H',u D σ' H'->R.nx σ' H')->t R σ H):vR t u D σ H:=h { D with nx:=u D } λ_ _ z=>z
def Af{K:W.Frag}{xs:Md}{i j:Nat}{tb:L2.TS}{D:Ends}(Pv:Nat->St->Hp->Prop)(h0:Pv 0 σ H)(ha:∀i σ H,i<=xs.length->Pv i σ H->SqL K H a xs)(hs:∀k x σ H,xs[k]?=some x->Pv k σ H->∀D':Ends,(∀σ' H',Pv (k+1) σ' H'->D'.nx σ' H')->∀T,H T=none->tb D' ((σ.set i (some (.int k))).set j (some x)) (upd H T (.tup [.int k,x])))(hd:∀σ H,Pv xs.length σ H->D.nx σ H):
  ∃W:Nat->Nat->St->Hp->Prop,(∃m,W 0 m σ H)/\∀k m σ H,W k m σ H ->
   ((Ite K a xs).stop k H/\D.nx σ H)\/((Ite K a xs).go k H/\∃N:St->Hp->Prop,(∀σ' H',N σ' H'->∃m',m'<m/\W (k+1) m' σ' H')/\∀x H',(Ite K a xs).yld k H x H'->kK K 2 (eG (bD i) (eG (bD j) kJ)) x σ H' λσ2 H2=>tb { D with nx:=N,ct:=N,bk:=D.nx } σ2 H2) :=
 B4 Pv h0 ha (λk x σ H a b T c=>hs k x σ H a b _ (λ_ _ z=>z) T c) hd
def at0{r:Md}:atI (x::r) 0=some x:=cU (xs:=x::r) (j:=0) rfl
def at1{r:Md}:atI (x::y::r) 1=some y:=cU (xs:=x::y::r) (j:=1) rfl
def at2{r:Md}:atI (x::y::z::r) 2=some z:=cU (xs:=x::y::z::r) (j:=2) rfl
def at3{r:Md}:atI (x::y::z::u::r) 3=some u:=cU (xs:=x::y::z::u::r) (j:=3) rfl
def at4{r:Md}:atI (x::y::z::u::v::r) 4=some v:=cU (xs:=x::y::z::u::v::r) (j:=4) rfl
def aS{c A B:Prop}[Decidable c](h:¬c)(hB:B):if decide c=true then A else B:=by rw[decide_eq_false h];exact aJ hB
def FW{t u:L2.TS}(J:St->Hp->Prop)(h1:∀R:Ends,(∀σ' H',J σ' H'->R.nx σ' H')->t R σ H)(h2:∀σ' H',J σ' H'->u D σ' H'):vR t u D σ H:=h1 { D with nx:=u D } h2
end
def Sm(i:Int):Prop:=i.natAbs<10^60
def Sm.big{i:Int}(h:Sm i):i.natAbs<10^4300:=ZA h (Nat.pow_le_pow_right ⋯ ⋯)
def Sm.len{i:Int}(h:Sm i):(aL i).length<=62:=Zt (Ca (k:=59) h) ⋯
def Br(K:W.Frag):Sp:=λvs H Q _=>∃(a:LN) (ns:LX) (k:Int),vs=[.ref a,.int k]/\SqL K H a (ns.map V.int)/\0<=k/\Q (.int (dI ns k.toNat)) H
section
variable{K:W.Frag}{mg:LL}
def gi(c:Nat):Bool:=decide (48<=c)&&decide (c<=57)
def gh(l:List Nat):Bool:=(decide (1<=l.length)&&decide (l.length<=60))&&l.all gi&&(decide (l=[48]) ||!decide (l.head?=some 48))
def FIG:Str:="0123456789"
def GF(c:Nat):decide (c∈FIG.cps.toList)=gi c:=by
 have e:FIG.cps.toList=[48,49,50,51,52,53,54,55,56,57]:=⋯
 rw[e];unfold gi;rw[Z3,Z6,ZK,Z6,Z6];simp only[Zf,Zz,ZY];omega
def zd:Sp:=λvs H Q _=>∃x:Str,vs=[.str x]/\x.length<=1000/\x.cps.all (·<128)=true/\∀H',Same H H'->Q (.bl (gh x.cps.toList)) H'
def B3(x:Str):(((List.range x.cps.size).map λi=>gi (x.cps.getD i 0)).all id)=x.cps.toList.all gi:=by
 rw[List.all_map,Z3,List.all_eq_true,List.all_eq_true];constructor
 ·intro h c hc;exists[i,hi,rfl],Y0 hc;have hi':i<x.cps.size:=by simpa using hi
  have:=h i (ZM.mpr hi');simpa[ZQ,hi']using this
 ·intro h i hi;have hi':=ZM.mp hi;have:=h x.cps[i] (by simp);simpa[ZQ,hi']using this
def JV(x:Str):decide (V.str x=V.str "0")=decide (x.cps.toList=[48]):=by
 rw[decide_eq_decide];constructor
 ·intro h;injection h with h;rw[h];decide +kernel
 ·intro h;have:x="0":=dO (by rw[h];decide +kernel);rw[this]
abbrev hW:Stmt:=top 34
abbrev tM:List Str:=["text"]
def sJ:FnScope tM ["text"] (aj hW):= ~~~0
def sw(F:Fun K "is_figures" "is_figures" hW f fd)(a8:mg "len" = none)(k7:mg "all" = none)(n9:mg "MOST_FIGURES" = some (.int 60 t1))(Kv:mg "FIGURES" = some (.str FIG t2)):↑FnOk CX0 1 f fd ["text"] zd:=by
 exists sJ
 exists[x,rfl,hl,ha,q],h;refine#[_,(b_c (aC (t_w (oB (mQ (F7 kT kT af (q_B oK a8 ZH (q_a ↑0 ah)) (bV n9))) (jY (mQ (cc (q_B (xY rfl) k7 ip (q_a (aQ (own:=["sign"]) (#[rfl,⋯,⋯,rfl,trivial]:CompOk _ _ [] []) rfl (Jh ↑0) (λ_ _ _ _=>aA (i:=0) (show (["sign"]:List Str).Nodup by decide)) (aF ⋯) (λ_ _ _ _=>bA) (λ_ _ _ _=>(aM yC ↑0 (J0 Kv)))) ah))))))) (b_1 (am fK)) b_0)
   (b_1 (am (yN (aM aD ↑0 ai) (fe (iw (Da ↑0 ai))))))),?_]
 have lx:x.cps.toList.length=x.length:=Zu;have fin:∀H',Same H H'->x.cps.toList.all gi=true->1<=x.length->x.length<=60->∀R:VK,(∀b,b=gh x.cps.toList->R (.bl b) H')->Dy (tOp rEq (tVar 0) (tC (.str "0"))) (zi (tBM K "str" qM (tVar 0) (dA (tC (.str "0")) dP))) [some (.str x)] H' R:=λH' s' h1 h2 h3 R hR=>by
  have fb:gh x.cps.toList=(decide (x.cps.toList=[48]) ||!decide (x.cps.toList.head?=some 48)):=by unfold gh;rw[h1,lx,decide_eq_true h2,decide_eq_true h3];rfl
  refine#[_,rfl,rfl,_,rfl,?_];rw[JV];cases e:decide (x.cps.toList=[48])with
  |true=>exact aP (hR _ (by rw[fb,e];rfl))
  |false =>refine aJ #[_,rfl,rfl,x,"0",rfl,rfl,_,rfl,?_];have es:Txt.startswith x "0" = decide (x.cps.toList.head?=some 48):=Bu (c:=48);rw[es];exact hR _ (by rw[fb,e];rfl)
 refine#[_,rfl,x,rfl,hl,_,_,rfl,rfl,_,rfl,?_];refine GS (λc=>?_) (λc=>?_)
 ·have c1:1<=x.length:=by have:=ZZ c;omega
  refine#[_,_,rfl,rfl,_,rfl,?_];by_cases c2:x.length<=60
  ·rw[decide_eq_true (show(x.length:Int)<=60 by omega)];refine aJ #[_,rfl,x,rfl,ha,?_];refine BZ (x:=x) (λi=>.bl (gi (x.cps.getD i 0))) hl (λi c' H1 hi sm R k=>?_) (λp H1 sm hp=>?_)
   ·have e:x.cps.getD i 0=c':=by rw[ZQ,hi];rfl
    rw[e]at k;have k':=k H1 (Same.refl H1);rw[<-GF,<-E6]at k';exact#[_,rfl,#[(List.toArray [c'])],FIG,rfl,rfl,k']
   ·refine#[p,(List.range x.cps.size).map (λi=>gi (x.cps.getD i 0)),rfl,L7 (by rw[ac,Yw];rfl),_,rfl,?_];rw[B3];have sp:=sm.trans (ad hp (.lst ((List.range x.cps.size).map λi=>V.bl (gi (x.cps.getD i 0)))));cases e:x.cps.toList.all gi with
    |true=>exact aJ (fin _ sp e c1 c2 _ λb hb=>by rw[hb];exact q _ sp)
    |false =>refine aP ?_;have q':=q _ sp;rw[show gh x.cps.toList=false by unfold gh;rw[e];simp]at q';exact q'
  ·rw[decide_eq_false (show¬(x.length:Int)<=60 by omega)];refine aP (aP ?_);have q':=q H (Same.refl H);rw[show gh x.cps.toList=false by unfold gh;rw[lx,decide_eq_false c2];simp]at q';exact q'
 ·have c1:¬1<=x.length:=λz=>c (decide_eq_true ∅);refine#[_,rfl,aP (aP ?_)];have q':=q H (Same.refl H);rw[show gh x.cps.toList=false by unfold gh;rw[lx,decide_eq_false c1];simp]at q';exact q'
end
def JP:¬(("words":Str)="spot"):=⋯
def iA(l:LN)(i:Nat):List (Str×V):=cQ "spot" (.int (i:Int)) (cQ "words" (.ref l) [])
def vy(l:LN)(i:Nat):(iA l i).lookup ("words":Str)=some (.ref l):=by unfold iA;rw[bj,LH JP,bj,LI rfl]
def qO(l:LN)(i:Nat):(iA l i).lookup ("spot":Str)=some (.int (i:Int)):=by unfold iA;rw[bj,LI rfl]
def bg(l:LN)(i:Nat){m:Str}(h1:¬m="spot")(h2:¬m="words"):(iA l i).lookup m=none:=by
 unfold iA;rw[bj,LH h1,bj,LH h2]
 all_goals rfl
inductive RdAt(C:LN)(H:Hp)(p l:LN)(ws:List Str)(i:Nat):Prop
 |mk (dx:LN) (h0:H p=some (.ins C dx (iA l i))) (h1:H l=some (.lst (ws.map V.str))) (h2:i<=ws.length) (h3:ws.length<=100000):RdAt C H p l ws i
structure Txt(K:W.Frag)(C:LN):Prop where
 cl:Cls K C
 nW:NoAttr K C "words"
 nS:NoAttr K C "spot"
inductive spThrough(C:LN)(vs:Md)(H:Hp)(Q:VK)(E_:XK):Prop
 |mk (p l:LN) (ws:List Str) (i:Nat) (h0:vs=[.ref p]) (h1:RdAt C H p l ws i) (h2:Q (.bl (decide (i=ws.length))) H):spThrough C vs H Q E_
inductive spHere(C:LN)(vs:Md)(H:Hp)(Q:VK)(E_:XK):Prop
 |mk (p l:LN) (ws:List Str) (i:Nat) (h0:vs=[.ref p]) (h1:RdAt C H p l ws i) (h2:Q (.str (ws.getD i "")) H):spHere C vs H Q E_
inductive spGoOn(C:LN)(vs:Md)(H:Hp)(Q:VK)(E_:XK):Prop
 |mk (p l:LN) (ws:List Str) (i:Nat) (h0:vs=[.ref p,.bl true]) (h1:RdAt C H p l ws i) (h2:i<ws.length) (h3:∀H',(∀b o,H b=some o->b≠p->H' b=some o)->RdAt C H' p l ws (i+1)->Q .non H'):spGoOn C vs H Q E_
inductive spPasses(C:LN)(vs:Md)(H:Hp)(Q:VK)(E_:XK):Prop
 |mk (p l:LN) (ws:List Str) (i:Nat) (t:Str) (h0:vs=[.ref p,.str t]) (h1:RdAt C H p l ws i) (h2:t≠"") (h3:ws.getD i ""≠t->Q (.bl false) H) (h4:ws[i]?=some t->∀H',(∀b o,H b=some o->b≠p->H' b=some o)->RdAt C H' p l ws (i+1)->Q (.bl true) H'):spPasses C vs H Q E_
inductive spRInit(C:LN)(vs:Md)(H:Hp)(Q:VK)(E_:XK):Prop
 |mk (p dx l:LN) (ws:List Str) (h0:vs=[.ref p,.ref l]) (h1:H p=some (.ins C dx [])) (h2:H l=some (.lst (ws.map V.str))) (h3:ws.length<=100000) (h4:∀H',(∀b o,H b=some o->b≠p->H' b=some o)->RdAt C H' p l ws 0->Q .non H'):spRInit C vs H Q E_
section
variable{K:W.Frag}{mg:LL}
abbrev dH:Stmt:=bU (top 41) 1
abbrev kl:List Str:=["self"]
def jU:FnScope kl ["self"] (aj dH):= ~~~0
def jO(F:Fun K "is_through" "Reader.is_through" dH f fd)(T:Txt K C)(a8:mg "len" = none):↑FnOk CX0 1 f fd ["self"] (spThrough C):=by
 exists jU
 obtain⟨p,l,ws,i,rfl,⟨dx,e0,e1,hi,hz⟩,q⟩:=h;refine#[_,(b_1 (am (aM aD (cT ↑0) (q_B bM a8 ZH (q_a (cT ↑0) ah))))),?_];have hd:decide (V.int (i:Int)=V.int ((ws.map V.str).length:Int))=decide (i=ws.length):=by
  rw[Zd];by_cases c:i=ws.length
  ·rw[decide_eq_true c,c,decide_eq_true rfl]
  ·rw[decide_eq_false c,decide_eq_false λz=>c (by injection z with z;omega)]
 rw[<-hd]at q;exact#[_,rfl,p,C,dx,_,_,rfl,e0,T.cl,T.nS,qO l i,#[_,rfl,p,C,dx,_,_,rfl,e0,T.cl,T.nW,vy l i,l,_,rfl,.inl (L7 e1),rfl,q]]
abbrev gq:Stmt:=bU (top 41) 2
abbrev rZ:List Str:=["self"]
def qT:FnScope rZ ["self"] (aj gq):= ~~~0
def qG(F:Fun K "here" "Reader.here" gq f fd)(T:Txt K C)(i8:↑MFn 1 C "is_through" ["self"] (spThrough C)):↑FnOk CX0 2 f fd ["self"] (spHere C):=by
 exists qT
 exists[p,l,ws,i,rfl,R,q],h;exists[dx,e0,e1,hi,hz],id R;refine#[_,(b_1 (am (yM (cc (cY i8 ↑99 ↑0)) ai (ao aY (cT ↑0) (cT ↑0))))),?_];refine#[_,rfl,p,dx,_,rfl,e0,bg l i ⋯ ⋯,#[p,l,ws,i,rfl,R,#[_,rfl,bp (λc=>?_) (λc=>?_)]]]
 ·rw[Zg,Y7 ∅]at q;exact q
 ·have hl:i<ws.length:=∅
  have ha:atI (ws.map V.str) (i:Int)=some (.str (ws.getD i "")):=cU (by rw[Zq,Zg,z9 hl];rfl);exact#[_,rfl,p,C,dx,_,_,rfl,e0,T.cl,T.nW,vy l i,#[_,rfl,p,C,dx,_,_,rfl,e0,T.cl,T.nS,qO l i,#[l,_,_,_,rfl,rfl,L7 e1,ha,q]]]
abbrev fM:Stmt:=bU (top 41) 3
abbrev qe:List Str:=["self","good"]
def pP:FnScope qe ["self","good"] (aj fM):= ~~~0
def pI(F:Fun K "go_on" "Reader.go_on" fM f fd)(T:Txt K C):↑FnOk CX0 1 f fd ["self","good"] (spGoOn C):=by
 exists pP
 exists[p,l,ws,i,rfl,R,hlt,q],h;exists[dx,e0,e1,hi,hz],id R;refine#[_,(b_c (aC (mQ (cc ↑1)) (b_1 dY) b_0)
   (b_1 (Dl ↑0 af GR))),?_]
 refine#[_,rfl,#[_,rfl,aJ ?_]];have npl:l≠p:=λz=>by rw[z,e0]at e1;cases e1
 refine#[_,rfl,p,C,dx,_,_,rfl,e0,T.cl,T.nS,qO l i,_,_,rfl,rfl,dx,_,e0,?_,?_]
 ·show 2<1000;decide
 ·exact q _ (λb o e n=>by rw[ag n];exact e) #[dx,ac,by rw[ag npl];exact e1,hlt,hz]
abbrev fg:Stmt:=bU (top 41) 4
abbrev oF:List Str:=["self","word","found"]
def ii:FnScope oF ["self","word"] (aj fg):= ~~~0
def oj(F:Fun K "passes" "Reader.passes" fg f fd)(i9:↑MFn 2 C "here" ["self"] (spHere C))(e8:↑MFn 1 C "go_on" ["self","good"] (spGoOn C)):↑FnOk CX0 3 f fd ["self","word"] (spPasses C):=by
 exists ii
 exists[p,l,ws,i,t,rfl,R,ht,q1,q2],h;exists[dx,e0,e1,hi,hz],id R;refine#[_,(b_c (ax (i:=2) ii.nd (aM aD (cY i9 ↑99 ↑0) ↑1))
   (b_c (aC (cc ↑2) (b_1 (bC (br e8 ↑99 ↑0 (q_a fK ah)))) b_0)
   (b_1 (am ↑2)))),?_]
 refine#[_,rfl,p,dx,_,rfl,e0,bg l i ⋯ ⋯,#[p,l,ws,i,rfl,R,#[_,rfl,rfl,?_]]];by_cases c:ws.getD i "" = t
 ·have hw:ws[i]?=some t:=by
   rw[Zg]at c;cases e:ws[i]? with
   |none=>rw[e]at c;exact absurd c.symm ht
   |some x=>rw[e]at c;exact ZN some c
  have hl:i<ws.length:=(Zm.mp hw).1;rw[c,decide_eq_true rfl];refine#[_,rfl,#[_,rfl,aP #[_,rfl,p,dx,_,rfl,e0,bg l i ⋯ ⋯,#[p,l,ws,i,rfl,R,hl,λH' b R'=>#[_,rfl,q2 hw H' b R']]]]]
 ·rw[decide_eq_false λz=>c (by injection z)];exact#[_,rfl,#[_,rfl,aJ #[_,rfl,q1 c]]]
abbrev gw:Stmt:=bU (top 41) 0
abbrev se:List Str:=["self","words"]
def qU:FnScope se ["self","words"] (aj gw):= ~~~0
def qH(F:Fun K "__init__" "Reader.__init__" gw f fd)(T:Txt K C):↑FnOk CX0 1 f fd ["self","words"] (spRInit C):=by
 exists qU
 exists[p,dx,l,ws,rfl,e0,e1,hz,q],h;refine#[_,(b_c (sX ↑0 ↑1)
   (b_1 (sX ↑0 af))),?_]
 have npl:l≠p:=λz=>by rw[z,e0]at e1;cases e1
 refine#[_,rfl,_,rfl,p,C,dx,[],rfl,e0,T.cl,T.nW,(by show 0<1000;decide),?_];refine#[_,rfl,p,C,dx,_,rfl,ac,T.cl,T.nS,(by show 1<1000;decide),?_];exact q _ (λb o e n=>by rw[ag n,ag n];exact e) #[dx,ac,by rw[ag npl,ag npl];exact e1,Zy _,hz]
end
inductive spAlo1(vs:Md)(H:Hp)(Q:VK)(E_:XK):Prop
 |mk (t:Str) (L:LN) (ps:Md) (h0:vs=[.str t,.ref L]) (h1:H L=some (.lst ps)) (h2:ps≠[]) (h3:ps.length<=900) (h4:∀v,ps=[v]->Q v H) (h5:ps.length≠1->∀a b H',Same H H'->H' b=some (.tup ps)->H' a=some (.tup [.str t,.ref b])->Q (.ref a) H'):spAlo1 vs H Q E_
section
variable{K:W.Frag}{mg:LL}
abbrev jR:Stmt:=top 45
abbrev xS:List Str:=["word","parts"]
def ww:FnScope xS ["word","parts"] (aj jR):= ~~~0
def wm(F:Fun K "alone_or" "alone_or" jR f fd)(a8:mg "len" = none)(j8:mg "tuple" = none):↑FnOk CX0 1 f fd ["word","parts"] spAlo1:=by
 exists ww
 exists[t,L,ps,rfl,e,hne,hz,q1,q2],h;refine#[_,(b_1 (am (yM (aq aD (q_B bM a8 ZH (q_a ↑1 ah)) af) (ao aY ↑1 af) (aW (q_a ↑0 (q_a (eZ xZ j8 ju (q_a ↑1 ah)) ah)))))),?_];refine#[_,rfl,L,ps,rfl,.inl (L7 e),rfl,#[_,rfl,bp (λc=>?_) (λc=>?_)]]
 ·obtain⟨v,rfl⟩:∃v,ps=[v]:=by
   have c:(ps.length:Int)=1:=by injection c
   exact List.length_eq_one_iff.mp ∅
  exact#[_,rfl,L,_,_,v,rfl,rfl,L7 e,at0,q1 v rfl]
 ·have c1:ps.length≠1:=λz=>c (by rw[z];rfl);refine#[_,rfl,_,rfl,L,ps,rfl,.inl #[L7 e,λb gb=>?_]];have wb:=ad gb (.tup ps);refine#[sz rfl,λa ga=>q2 c1 a b _ (wb.trans (ad ga _)) (ad ga _ _ _ ac) ac]
end
inductive Cq where
 |w (s:Str)
 |num (s:Str)(n:Int)
 |item (x y:Int)
 |says (t:Str)
 |no (c:Cq)
 |many (o:Bool)(cs:List Cq)
def orW(o:Bool):Str:=if o then"or" else"and"
def Cq.hd:Cq->Str
 |.w s=>s
 |.num s _=>s
 |.item _ _=>"beneath"
 |.says _=>"says"
 |.no _=>"not"
 |.many o _=>orW o
mutual
inductive CqAt(H:Hp):V->Cq->Prop
 |w {a:LN} {s:Str} (h:H a=some (.tup [.str s])):CqAt H (.ref a) (.w s)
 |num {a:LN} {s:Str} {n:Int} (h:H a=some (.tup [.str s,.int n])):CqAt H (.ref a) (.num s n)
 |item {a b:LN} {x y:Int} (h:H a=some (.tup [.str "beneath",.ref b])) (h1:H b=some (.tup [.int x,.int y])):CqAt H (.ref a) (.item x y)
 |says {a:LN} {t:Str} (h:H a=some (.tup [.str "says",.str t])):CqAt H (.ref a) (.says t)
 |no {a:LN} {v:V} {c:Cq} (h:H a=some (.tup [.str "not",v])) (h1:CqAt H v c):CqAt H (.ref a) (.no c)
 |many {a b:LN} {o:Bool} {vs:Md} {cs:List Cq} (h:H a=some (.tup [.str (orW o),.ref b])) (h1:H b=some (.tup vs)) (h2:CqsAt H vs cs):CqAt H (.ref a) (.many o cs)
inductive CqsAt(H:Hp):Md->List Cq->Prop
 |nil:CqsAt H [] []
 |cons {v:V} {vs:Md} {c:Cq} {cs:List Cq} (h:CqAt H v c) (t:CqsAt H vs cs):CqsAt H (v::vs) (c::cs)
end
def TS2(H H':Hp):Prop:=∀a zs,H a=some (.tup zs)->H' a=some (.tup zs)
mutual
theorem CqAt.ts(s:TS2 H H'):∀{v:V} {c:Cq},CqAt H v c->CqAt H' v c
 |_,_,.w h=>.w (s _ _ h)
 |_,_,.num h=>.num (s _ _ h)
 |_,_,.item h h1=>.item (s _ _ h) (s _ _ h1)
 |_,_,.says h=>.says (s _ _ h)
 |_,_,.no h h1=>.no (s _ _ h) (CqAt.ts s h1)
 |_,_,.many h h1 h2=>.many (s _ _ h) (s _ _ h1) (CqsAt.ts s h2)
theorem CqsAt.ts(s:TS2 H H'):∀{vs:Md} {cs:List Cq},CqsAt H vs cs->CqsAt H' vs cs
 |_,_,.nil=>.nil
 |_,_,.cons h t=>.cons (CqAt.ts s h) (CqsAt.ts s t)
end
def CqAt.head(h:CqAt H v c):∃a xs,v=.ref a/\H a=some (.tup (.str c.hd::xs)):=by
 cases h with
 |w h=>exact#[_,_,rfl,h]
 |num h=>exact#[_,_,rfl,h]
 |item h _=>exact#[_,_,rfl,h]
 |says h=>exact#[_,_,rfl,h]
 |no h _=>exact#[_,_,rfl,h]
 |many h _ _=>exact#[_,_,rfl,h]
def brk(c:Cq)(t:Str):Bool:=decide (c.hd="or") ||(decide (c.hd="and")&&!decide (t="or"))
inductive spDeep(vs:Md)(H:Hp)(Q:VK)(E_:XK):Prop
 |mk (v:V) (c:Cq) (d:Int) (t:Str) (h0:vs=[v,.int d,.str t]) (h1:CqAt H v c) (h2:Q (.int (if brk c t then d+1 else d)) H):spDeep vs H Q E_
section
variable{K:W.Frag}
abbrev vE:Stmt:=top 53
abbrev zB:List Str:=["_law_condition","_law_deep_here","_law_word"]
def FS:FnScope zB ["_law_condition","_law_deep_here","_law_word"] (aj vE):= ~~~0
def E9(F:Fun K "_law_deep" "_law_deep" vE f fd):↑FnOk CX0 1 f fd ["_law_condition","_law_deep_here","_law_word"] spDeep:=by
 exists FS
 exists[v,c,d,t,rfl,hc,q],h;exists[a,xs,rfl,e],hc.head;refine#[_,(b_c (aC (t_w (oB (aq aD (ao au ↑0 af) ai) (jY (t_w (cA (aq aD (ao au ↑0 af) ai) (bY (aq uZ ↑2 ai))))))) (b_1 (am (aw eX ↑1 af))) b_0)
   (b_1 (am ↑1))),?_]
 have hix:∀{R:VK},R (.str c.hd) H->tOp (rIxT K) (tVar 0) (tC (.int 0)) (L2.start zB [V.ref a,V.int d,V.str t]) H R:=λr=>#[_,rfl,a,_,_,_,rfl,rfl,L6 e,at0,r]
 have hb:brk c t=(decide (c.hd="or") ||(decide (c.hd="and")&&!decide (t="or"))):=rfl;rw[hb]at q;refine hix #[rfl,#[_,rfl,bp (λc1=>?_) (λc1=>?_)]]
 ·rw[decide_eq_true (show c.hd="or" by injection c1)]at q;exact aP #[_,rfl,_,_,rfl,rfl,q]
 rw[decide_eq_false (λz=>c1 (by rw[z]))]at q;refine hix #[rfl,#[_,rfl,bp (λc2=>?_) (λc2=>?_)]]
 ·rw[decide_eq_true (show c.hd="and" by injection c2)]at q;refine#[_,rfl,#[rfl,#[_,rfl,?_]]];by_cases c3:t="or"
  ·rw[decide_eq_true c3]at q;rw[c3,decide_eq_true rfl];exact aJ #[_,rfl,q]
  ·rw[decide_eq_false c3]at q;rw[decide_eq_false (λz=>c3 (by injection z))];exact aP #[_,rfl,_,_,rfl,rfl,q]
 ·rw[decide_eq_false (λz=>c2 (by rw[z]))]at q;exact aJ #[_,rfl,q]
end
def aR:Str:=" "
def opn:Str:="("
def cls:Str:=")"
def bS:Str:="not"
def dq(b:Bool)(ws:List Str):List Str:=if b then opn::(ws++[cls])else ws
mutual
def Cq.ws:Cq->List Str
 |.w s=>[s]
 |.num s n=>[s,aL n]
 |.item x y=>["beneath",aL x++"."++aL y]
 |.says t=>["says",t]
 |.no c=>bS::dq (brk c bS) (Cq.ws c)
 |.many o cs=>Cq.wsL o cs
def Cq.wsL(o:Bool):List Cq->List Str
 | []=>[]
 | [c]=>dq (brk c (orW o)) (Cq.ws c)
 |c::d::cs=>dq (brk c (orW o)) (Cq.ws c)++orW o::Cq.wsL o (d::cs)
end
def Cq.line(c:Cq):Str:=Str.join aR c.ws
section
variable{P:LQ}{w:LU}{K:W.Frag}{mg:LL}{base:Heap}{tkD tkN tkT tkO tkW tkF:Tok}
def W6:List Str:=["all","done","folded","free","leaf","seen"]
def tf(s:Str):TV:=.flat (.str s)
def FT:List (Str×TV):=[("all",tf "nothing"),("done",tf "nothing"),("folded",tf "nothing"),("free",tf "nothing"),("leaf",tf "nothing"),("seen",tf "nothing"),("due",tf "number"),("depth",tf "number"),("beneath",tf "item"),("says",tf "word")]
def fU(x y:Int):Str:=aL x++"."++aL y
inductive AtOk:Cq->Prop
 |w {s:Str} (h:s∈W6):AtOk (.w s)
 |num {s:Str} {n:Int} (h:s="due"\/s="depth") (h0:0<=n) (h1:Sm n):AtOk (.num s n)
 |item {x y:Int} (h0:0<=x) (h1:1<=y) (h2:Sm x) (h3:Sm y):AtOk (.item x y)
 |says {t:Str} (h0:t≠"") (h1:t.length<=100) (h2:32∉t.cps.toList):AtOk (.says t)
def nM{i:Int}(c:0<=i)(h:Sm i):gh (aL i).cps.toList=true:=by
 have dl:=uq 59 h;have da:=kH i.natAbs;have dn:=sQ i.natAbs;have al:(dg i.natAbs).all gi=true:=by rw[List.all_eq_true];intro c hc;have:=da c hc;unfold gi;rw[decide_eq_true this.1,decide_eq_true this.2];rfl
 have l1:1<=(dg i.natAbs).length:=YZ.mpr dn;have h0:(decide (dg i.natAbs=[48]) ||!decide ((dg i.natAbs).head?=some 48))=true:=by
  by_cases c:i.natAbs=0
  ·rw[c,show dg 0=[48]from lY ⋯];rfl
  ·rw[decide_eq_false (EH _ c)];simp
 have e:(aL i).cps.toList=dg i.natAbs:=by rw[nR c,show i.toNat=i.natAbs by omega]
 rw[e];unfold gh;rw[al,h0,decide_eq_true l1,decide_eq_true dl];rfl
def kI(i:Int):(aL i).cps.all (·<128)=true:=by rw[<-Array.all_toList,List.all_eq_true];intro c hc;have:=jD i c hc;exact decide_eq_true ∅
def Ar(x y:Int):fU x y=Str.join (ch1 46) [aL x,aL y]:=by refine dO ?_;rw[gP];unfold fU;rw[bf,bf,ZO];rfl
def oY(x y:Int):Txt.split (fU x y) "." = [aL x,aL y]:=by rw[Ar];refine pY (c:=46) (by simp) λp hp hm=>?_;simp only[Zf,Zz,ZY]at hp;rcases hp with rfl|rfl<;>(have:=jD _ _ hm;omega)
def nV{x y:Int}(h1:Sm x)(h2:Sm y):(fU x y).length<=125:=by have:=h1.len;have:=h2.len;unfold fU;rw[Yx,Yx];have:(".":Str).length=1:=rfl;omega
def ER{y:Int}(h:1<=y)(h1:Sm y):V.str (aL y)≠V.str "0":=λz=>by
 injection z with z;have e:=gC (i:=y) h1;rw[z]at e;have:PySem.intText? "0" = some 0:=⋯
 rw[this]at e;injection e with e;omega
inductive spItemW(vs:Md)(H:Hp)(Q:VK)(E_:XK):Prop
 |mk (x y:Int) (h0:vs=[.str (fU x y)]) (h1:AtOk (.item x y)) (h2:∀H',Same H H'->Q (.bl true) H'):spItemW vs H Q E_
inductive spItemIn(vs:Md)(H:Hp)(Q:VK)(E_:XK):Prop
 |mk (x y:Int) (h0:vs=[.str (fU x y)]) (h1:AtOk (.item x y)) (h2:∀a H',Same H H'->H' a=some (.tup [.int x,.int y])->Q (.ref a) H'):spItemIn vs H Q E_
abbrev fO:Stmt:=top 35
abbrev qg:List Str:=["word","halves"]
def iD:FnScope qg ["word"] (aj fO):= ~~~0
def pJ(F:Fun K "is_item_word" "is_item_word" fO f fd)(i4:↑Fn 1 "is_figures" ["text"] zd)(a8:mg "len" = none):↑FnOk CX0 2 f fd ["word"] spItemW:=by
 exists iD
 exists[x,y,rfl,ok,q],h;refine#[_,(b_c (ax (i:=1) iD.nd (qL ↑0 ai))
   (b_1 (am (gH (aM aD (q_B bM a8 ZH (q_a ↑1 ah)) af) (gH (aG i4 ↑99 (q_a (ao aY ↑1 af) ah)) (gH (aG i4 ↑99 (q_a (ao aY ↑1 af) ah)) (fe (aM uZ (ao aY ↑1 af) ai)))))))),?_]
 cases ok with
 |item x0 y0 sx sy =>
 refine#[_,rfl,rfl,_,".",rfl,rfl,rfl,Zt (nV sx sy) ⋯,λD gD=>?_];rw[oY];have wD:=ad gD (.lst ([aL x,aL y].map V.str));have eD:upd H D (.lst ([aL x,aL y].map V.str)) D=some (.lst ([aL x,aL y].map V.str)):=ac;generalize upd H D (.lst ([aL x,aL y].map V.str))=H1 at wD eD ⊢;have y1:0<=y:=∅
 refine#[_,rfl,D,_,rfl,.inl (L7 eD),rfl,_,rfl,aP ?_];refine#[_,rfl,D,_,_,_,rfl,rfl,L7 eD,at0,aL x,rfl,Zt sx.len ⋯,kI x,λH2 s2=>#[_,rfl,?_]];rw[nM x0 sx];refine aP #[_,rfl,D,_,_,_,rfl,rfl,L7 (s2 _ _ eD),at1,aL y,rfl,Zt sy.len ⋯,kI y,λH3 s3=>#[_,rfl,?_]];rw[nM y1 sy];refine aP #[_,rfl,D,_,_,_,rfl,rfl,L7 (s3 _ _ (s2 _ _ eD)),at1,rfl,?_];rw[decide_eq_false (ER y0 sy)];exact q _ (wD.trans (s2.trans s3))
abbrev lG:Stmt:=top 36
abbrev zG:List Str:=["word","halves"]
def pQ:FnScope zG ["word"] (aj lG):= ~~~0
def yH(F:Fun K "item_in" "item_in" lG f fd)(i6:mg "int" = none):↑FnOk CX0 1 f fd ["word"] spItemIn:=by
 exists pQ
 exists[x,y,rfl,ok,q],h;refine#[_,(b_c (ax (i:=1) pQ.nd (qL ↑0 ai))
   (b_1 (am (aW (q_a (eZ ud i6 eO (q_a (ao aY ↑1 af) ah)) (q_a (eZ ud i6 eO (q_a (ao aY ↑1 af) ah)) ah)))))),?_]
 cases ok with
 |item x0 y0 sx sy =>
 refine#[_,rfl,rfl,_,".",rfl,rfl,rfl,Zt (nV sx sy) ⋯,λD gD=>?_];rw[oY];have wD:=ad gD (.lst ([aL x,aL y].map V.str));have eD:upd H D (.lst ([aL x,aL y].map V.str)) D=some (.lst ([aL x,aL y].map V.str)):=ac;generalize upd H D (.lst ([aL x,aL y].map V.str))=H1 at wD eD ⊢;refine#[_,rfl,D,_,_,_,rfl,rfl,L7 eD,at0,aL x,x,rfl,gC sx,Zt sx.len ⋯,?_];refine#[_,rfl,D,_,_,_,rfl,rfl,L7 eD,at1,aL y,y,rfl,gC sy,Zt sy.len ⋯,?_];exact#[sz rfl,λa ga=>q a _ (wD.trans (ad ga _)) ac]
def Cq.kind:Cq->Str
 |.num _ _=>"number"
 |.item _ _=>"item"
 |.says _=>"word"
 |_=>"nothing"
def Cq.arg:Cq->Str
 |.num _ n=>aL n
 |.item x y=>fU x y
 |.says t=>t
 |_=>""
inductive ArgAt(H:Hp):V->Cq->Prop
 |num {s:Str} {n:Int}:ArgAt H (.int n) (.num s n)
 |item {b:LN} {x y:Int} (h:H b=some (.tup [.int x,.int y])):ArgAt H (.ref b) (.item x y)
 |says {t:Str}:ArgAt H (.str t) (.says t)
inductive spMay(vs:Md)(H:Hp)(Q:VK)(E_:XK):Prop
 |mk (c:Cq) (h0:vs=[.str c.kind,.str c.arg]) (h1:AtOk c) (h2:c.kind≠"nothing") (h3:∀H',Same H H'->Q (.bl true) H'):spMay vs H Q E_
inductive spFollowing(vs:Md)(H:Hp)(Q:VK)(E_:XK):Prop
 |mk (c:Cq) (h0:vs=[.str c.kind,.str c.arg]) (h1:AtOk c) (h2:c.kind≠"nothing") (h3:∀v H',Same H H'->ArgAt H' v c->Q v H'):spFollowing vs H Q E_
def DZ:¬(V.str "item" = V.str "number"):=⋯
def D5:¬(V.str "word" = V.str "number"):=⋯
def D4:¬(V.str "word" = V.str "item"):=⋯
abbrev hX:Stmt:=top 48
abbrev tN:List Str:=["kind","word"]
def sK:FnScope tN ["kind","word"] (aj hX):= ~~~0
def sA(F:Fun K "may_follow" "may_follow" hX f fd)(i4:↑Fn 1 "is_figures" ["text"] zd)(pi:↑Fn 2 "is_item_word" ["word"] spItemW):↑FnOk CX0 3 f fd ["kind","word"] spMay:=by
 exists sK
 exists[c,rfl,ok,nn,q],h;refine#[_,(b_c (aC (aq aD ↑0 ai) (b_1 (am (aG i4 ↑99 (q_a ↑1 ah)))) b_0)
   (b_c (aC (aq aD ↑0 ai) (b_1 (am (aG pi ↑99 (q_a ↑1 ah)))) b_0)
   (b_1 (am (aM uZ ↑1 ai))))),?_]
 cases id ok with
 |w h=>exact absurd rfl nn
 |@num s n h h0 h1 =>refine#[_,rfl,rfl,_,rfl,bc rfl #[_,rfl,aL n,rfl,Zt h1.len ⋯,kI n,λH1 s1=>?_]];rw[nM h0 h1];exact q _ s1
 |@item x y h0 h1 h2 h3 =>exact#[_,rfl,rfl,_,rfl,aS DZ #[_,rfl,rfl,_,rfl,bc rfl #[_,rfl,x,y,rfl,ok,q]]]
 |@says t h0 h1 h2 =>refine#[_,rfl,rfl,_,rfl,aS D5 #[_,rfl,rfl,_,rfl,aS D4 #[_,rfl,rfl,?_]]];rw[decide_eq_false (λz=>h0 (by injection z))];exact q _ (Same.refl _)
abbrev eS:Stmt:=top 49
abbrev nz:List Str:=["kind","word"]
def mV:FnScope nz ["kind","word"] (aj eS):= ~~~0
def mT(F:Fun K "read_following" "read_following" eS f fd)(Kw:↑Fn 1 "item_in" ["word"] spItemIn)(i6:mg "int" = none):↑FnOk CX0 2 f fd ["kind","word"] spFollowing:=by
 exists mV
 exists[c,rfl,ok,nn,q],h;refine#[_,(b_c (aC (aq aD ↑0 ai) (b_1 (am (eZ ud i6 eO (q_a ↑1 ah)))) b_0)
   (b_c (aC (aq aD ↑0 ai) (b_1 (am (aG Kw ↑99 (q_a ↑1 ah)))) b_0)
   (b_1 (am ↑1)))),?_]
 cases id ok with
 |w h=>exact absurd rfl nn
 |@num s n h h0 h1 =>exact#[_,rfl,rfl,_,rfl,bc rfl #[_,rfl,aL n,n,rfl,gC h1,Zt h1.len ⋯,q _ _ (Same.refl _) .num]]
 |@item x y h0 h1 h2 h3 =>exact#[_,rfl,rfl,_,rfl,aS DZ #[_,rfl,rfl,_,rfl,bc rfl #[_,rfl,x,y,rfl,ok,λa H' s' e=>q _ _ s' (.item e)]]]
 |@says t h0 h1 h2 =>exact#[_,rfl,rfl,_,rfl,aS D5 #[_,rfl,rfl,_,rfl,aS D4 #[_,rfl,q _ _ (Same.refl _) .says]]]
def KpR(p:LN)(H H':Hp):Prop:=∀b o,H b=some o->b≠p->H' b=some o
def KpR.trans(a:KpR p H H1)(b:KpR p H1 H2):KpR p H H2:=λ_ _ e n=>b _ _ (a _ _ e n) n
def KpR.same(a:Same H H1):KpR p H H1:=λ_ _ e _=>a _ _ e
inductive RdL(C:LN)(H:Hp)(p l:LN)(ws us:List Str):Prop
 |mk (pre:List Str) (h0:ws=pre++us) (h1:RdAt C H p l ws pre.length):RdL C H p l ws us
section
variable{C p l:LN}{H H':Hp}{ws us r:List Str}{t x:Str}{Q:VK}{E:XK}
def RdL.obj(R:RdL C H p l ws us):∃dx i,H p=some (.ins C dx (iA l i)):=by exists[pre,_,dx,h,_],R;exact#[dx,_,h]
def RdL.lst(R:RdL C H p l ws us):H l=some (.lst (ws.map V.str)):=by exists[pre,_,dx,_,h,_],R;exact h
def RdL.tup(R:RdL C H p l ws us){a:LN}{zs:Md}(e:H a=some (.tup zs)):a≠p:=by exists[dx,i,h],R.obj;rintro rfl;rw[h]at e;cases e
def RdL.ts(R:RdL C H p l ws us)(k:KpR p H H'):TS2 H H':=λ_ _ e=>k _ _ e (R.tup e)
def RdL.same(R:RdL C H p l ws us)(s:Same H H'):RdL C H' p l ws us:=by exists[pre,h,dx,h1,h2,h3,h4],R;exact#[pre,h,dx,s _ _ h1,s _ _ h2,h3,h4]
def RdL.upd(R:RdL C H p l ws us)(n1:a≠p)(n2:a≠l):RdL C (upd H a o) p l ws us:=by exists[pre,h,dx,h1,h2,h3,h4],R;exact#[pre,h,dx,by rw[ag (y7 n1)];exact h1,by rw[ag (y7 n2)];exact h2,h3,h4]
def RdL.here(R:RdL C H p l ws us)(q:Q (.str (us.headD "")) H):spHere C [.ref p] H Q E:=by
 exists[pre,rfl,h],R;refine#[p,l,_,_,rfl,h,?_];rw[Zg,ZF (Ze _),YV];cases us with
 |nil=>exact q
 |cons=>exact q
def RdL.through(R:RdL C H p l ws us)(q:Q (.bl us.isEmpty) H):spThrough C [.ref p] H Q E:=by
 exists[pre,rfl,h],R;refine#[p,l,_,_,rfl,h,?_];cases us with
 |nil =>rw[decide_eq_true (by simp)];exact q
 |cons =>rw[decide_eq_false (by simp)];exact q
def RdL.next(h:RdAt C H' p l (pre++x::r) (pre.length+1)):RdL C H' p l (pre++x::r) r :=
 #[pre++[x],by simp,by rw[Zi];exact h]
def RdL.go(R:RdL C H p l ws (x::r))(q:∀H',KpR p H H'->RdL C H' p l ws r->Q .non H'):spGoOn C [.ref p,.bl true] H Q E:=by exists[pre,rfl,h],R;exact#[p,l,_,_,rfl,h,by simp,λH' k h'=>q H' k (RdL.next h')]
def RdL.no(R:RdL C H p l ws us)(ht:t≠"")(n:us.headD ""≠t)(q:Q (.bl false) H):spPasses C [.ref p,.str t] H Q E:=by
 exists[pre,rfl,h],R;have e:(pre++us)[pre.length]?=us.head?:=by rw[ZF (Ze _),YV];cases us<;>rfl
 refine#[p,l,_,_,t,rfl,h,ht,λ_=>q,λz=>?_];rw[e]at z;exact absurd (by rw[List.headD_eq_head?_getD,z];rfl) n
def RdL.yes(R:RdL C H p l ws (t::r))(ht:t≠"")(q:∀H',KpR p H H'->RdL C H' p l ws r->Q (.bl true) H'):spPasses C [.ref p,.str t] H Q E:=by exists[pre,rfl,h],R;refine#[p,l,_,_,t,rfl,h,ht,λz=>?_,λ_ H' k h'=>q H' k (RdL.next h')];rw[Zg,ZF (Ze _),YV]at z;exact absurd rfl z
end
abbrev RR:=Int->List Str->Cq->List Str->Prop
inductive spR(C:LN)(R:RR)(vs:Md)(H:Hp)(Q:VK)(E_:XK):Prop
 |mk (p l:LN) (ws us:List Str) (d:Int) (c:Cq) (r:List Str) (h0:vs=[.ref p,.int d]) (h1:RdL C H p l ws us) (h2:R d us c r) (h3:∀v H',KpR p H H'->CqAt H' v c->RdL C H' p l ws r->Q v H'):spR C R vs H Q E_
inductive RL(R:List Str->Cq->List Str->Prop)(t:Str):List Str->List Cq->List Str->Prop
 |nil {us:List Str} (h:us.headD ""≠t):RL R t us [] us
 |cons {us r1 r:List Str} {c:Cq} {cs:List Cq} (h:R us c r1) (h2:RL R t r1 cs r):RL R t (t::us) (c::cs) r
def DJ(o:Bool)(c:Cq):List Cq->Cq
 | []=>c
 |d::cs=>.many o (c::d::cs)
inductive RM(o:Bool)(R:RR)(d:Int)(us:List Str)(c:Cq)(r:List Str):Prop
 |mk (c0:Cq) (r0:List Str) (cs:List Cq) (h0:R d us c0 r0) (h1:RL (R d) (orW o) r0 cs r) (h2:cs.length<=800) (h3:c=DJ o c0 cs):RM o R d us c r
def RO:Nat->RR
 |0=>λ_ _ _ _=>False
 |n+1=>λd us c r=>(d<12/\∃us' c',us=bS::us'/\c=.no c'/\RO n (d+1) us' c' r)\/(d<12/\∃us',us=opn::us'/\RM true (RM false (RO n)) (d+1) us' c (cls::r))\/(AtOk c/\us=c.ws++r)
def CqsAt.app:∀{vs:Md} {cs:List Cq} {v:V} {c:Cq},CqsAt H vs cs->CqAt H v c->CqsAt H (vs++[v]) (cs++[c])
 |_,_,_,_,.nil,h=>.cons h .nil
 |_,_,_,_,.cons g t,h=>.cons g (t.app h)
def CqsAt.len:∀{vs:Md} {cs:List Cq},CqsAt H vs cs->vs.length=cs.length
 |_,_,.nil=>rfl
 |_,_,.cons _ t=>ZN (·+1) t.len
def xJ{H:Hp}(e:H a=some (.lst xs)):TS2 H (upd H a o):=λb zs h=>by
 rw[ag]
 ·exact h
 ·rintro rfl;rw[e]at h;cases h
abbrev iP:Stmt:=top 44
abbrev vW:List Str:=["reader","depth","parts"]
def lI:FnScope vW ["reader","depth"] (aj iP):= ~~~0
def kX{k:Nat}(hk:3<=k)(F:Fun K "read_each" "read_each" iP f fd)(v7:↑Fn k "read_one" ["reader","depth"] (spR C R))(c7:↑MFn 3 C "passes" ["self","word"] (spPasses C))(i7:↑Fn 1 "alone_or" ["word","parts"] spAlo1):↑FnOk CX0 (k+1) f fd ["reader","depth"] (spR C (RM false R)):=by
 exists lI
 obtain⟨p,l,ws,us,d,c,r,rfl,R0,⟨c0,r0,cs,h1,h2,h3,rfl⟩,q⟩:=h;refine#[_,(b_c (ax (i:=2) lI.nd (bv (q_a (aG v7 (hr.mono ∅) (q_a ↑0 (q_a ↑1 ah))) ah)))
   (b_c (mP Yp (cc (br c7 (hr.mono ∅) ↑0 (q_a ai ah))) (b_1 (bC (mJ ↑2 (aG v7 (hr.mono ∅) (q_a ↑0 (q_a ↑1 ah)))))))
   (b_1 (am (aG i7 (hr.mono ∅) (q_a ai (q_a ↑2 ah))))))),?_]
 refine#[_,rfl,_,rfl,p,l,ws,us,d,c0,r0,rfl,R0,h1,λv H1 k1 cv R1=>#[sz rfl,λL gL=>?_]];have npl:l≠p:=λz=>by exists[dx,i,e],R0.obj;have:=R0.lst;rw[z,e]at this;cases this
 have n1:L≠p:=λz=>by exists[dx,i,e],R1.obj;rw[z,e]at gL;cases gL
 have n2:L≠l:=λz=>by rw[z,R1.lst]at gL;cases gL
 have nH:H L=none:=by
  cases e:H L with
  |none=>rfl
  |some o=>rw[k1 _ _ e n1]at gL;cases gL
 refine#[λm σ H'=>∃(done todo:List Cq) (vs:Md) (rr:List Str),σ=[some (.ref p),some (.int d),some (.ref L)]/\H' L=some (.lst vs)/\CqsAt H' vs done/\c0::cs=done++todo/\done≠[]/\RL (R d) (orW false) rr todo r/\KpR p H H'/\RdL C H' p l ws rr/\m=todo.length,#[cs.length,[c0],cs,[v],r0,rfl,ac,.cons (cv.ts (λa zs e=>ad gL _ _ _ e)) .nil,rfl,by simp,h2,k1.trans (KpR.same (ad gL _)),R1.same (ad gL _),rfl],?_];rintro m σ H' ⟨done,todo,vs,rr,rfl,eL,ca,ed,nd,hl,kp,RR1,rfl⟩;exists[dx,i,e0],RR1.obj;refine#[_,rfl,p,dx,_,rfl,e0,bg l i ⋯ ⋯,?_];cases hl with
 |nil h =>
  refine RR1.no ⋯ h #[_,rfl,aJ ?_];rw[YL]at ed;have lv:=ca.len;rw[<-ed]at ca;refine#[_,rfl,_,L,vs,rfl,eL,λz=>?_,?_,λv' e1=>?_,λn1 a b H2 s2 eb ea=>?_]
  ·rw[z]at lv;exact nd (List.length_eq_zero_iff.mp lv.symm)
  ·rw[lv,<-ed,Zl];omega
  ·subst e1;cases ca with
   |cons g t =>cases t;exact q _ _ kp g RR1
  ·cases cs with
   |nil=>exact absurd (by rw[lv,<-ed];rfl) n1
   |cons c1 cs =>exact q _ _ (kp.trans (KpR.same s2)) (.many (o:=false) ea eb (ca.ts λa zs e=>s2 _ _ e)) (RR1.same s2)
 |@cons us1 r1 _ c1 cs1 h hl =>
  refine RR1.yes ⋯ λH2 k2 R2=>#[_,rfl,aP #[_,λ_ _ z=>z,?_]]
  have eL2:=k2 _ _ eL n1;refine#[_,rfl,.inl #[rfl,_,L7 eL2],_,rfl,_,rfl,p,l,ws,us1,d,c1,r1,rfl,R2,h,λv3 H3 k3 cv3 R3=>?_];have eL3:=k3 _ _ eL2 n1;have lv:=ca.len;have ca3:=(ca.ts (RR1.ts k2)).ts (R2.ts k3);refine#[L,vs,v3,rfl,rfl,eL3,Y5 (m:=1000) ?_ ⋯,?_]
  ·have:(c0::cs).length=done.length+(c1::cs1).length:=by rw[ed,Zi]
   simp only[Zl]at this;omega
  ·have tu:=xJ (o:=.lst (vs++[v3])) eL3;refine#[cs1.length,Yd _,done++[c1],cs1,vs++[v3],r1,rfl,ac,(ca3.app cv3).ts tu,by rw[ed,ZO];rfl,by simp,hl,λb o e n=>?_,R3.upd n1 n2,rfl];rw[ag]
   ·exact k3 _ _ (k2 _ _ (kp _ _ e n) n) n
   ·rintro rfl;rw[nH]at e;cases e
abbrev iQ:Stmt:=top 43
abbrev vX:List Str:=["reader","depth","parts"]
def lJ:FnScope vX ["reader","depth"] (aj iQ):= ~~~0
def kY{k:Nat}(hk:3<=k)(F:Fun K "read_some" "read_some" iQ f fd)(u0:↑Fn k "read_each" ["reader","depth"] (spR C R))(c7:↑MFn 3 C "passes" ["self","word"] (spPasses C))(i7:↑Fn 1 "alone_or" ["word","parts"] spAlo1):↑FnOk CX0 (k+1) f fd ["reader","depth"] (spR C (RM true R)):=by
 exists lJ
 obtain⟨p,l,ws,us,d,c,r,rfl,R0,⟨c0,r0,cs,h1,h2,h3,rfl⟩,q⟩:=h;refine#[_,(b_c (ax (i:=2) lJ.nd (bv (q_a (aG u0 (hr.mono ∅) (q_a ↑0 (q_a ↑1 ah))) ah)))
   (b_c (mP Yp (cc (br c7 (hr.mono ∅) ↑0 (q_a ai ah))) (b_1 (bC (mJ ↑2 (aG u0 (hr.mono ∅) (q_a ↑0 (q_a ↑1 ah)))))))
   (b_1 (am (aG i7 (hr.mono ∅) (q_a ai (q_a ↑2 ah))))))),?_]
 refine#[_,rfl,_,rfl,p,l,ws,us,d,c0,r0,rfl,R0,h1,λv H1 k1 cv R1=>#[sz rfl,λL gL=>?_]];have npl:l≠p:=λz=>by exists[dx,i,e],R0.obj;have:=R0.lst;rw[z,e]at this;cases this
 have n1:L≠p:=λz=>by exists[dx,i,e],R1.obj;rw[z,e]at gL;cases gL
 have n2:L≠l:=λz=>by rw[z,R1.lst]at gL;cases gL
 have nH:H L=none:=by
  cases e:H L with
  |none=>rfl
  |some o=>rw[k1 _ _ e n1]at gL;cases gL
 refine#[λm σ H'=>∃(done todo:List Cq) (vs:Md) (rr:List Str),σ=[some (.ref p),some (.int d),some (.ref L)]/\H' L=some (.lst vs)/\CqsAt H' vs done/\c0::cs=done++todo/\done≠[]/\RL (R d) (orW true) rr todo r/\KpR p H H'/\RdL C H' p l ws rr/\m=todo.length,#[cs.length,[c0],cs,[v],r0,rfl,ac,.cons (cv.ts (λa zs e=>ad gL _ _ _ e)) .nil,rfl,by simp,h2,k1.trans (KpR.same (ad gL _)),R1.same (ad gL _),rfl],?_];rintro m σ H' ⟨done,todo,vs,rr,rfl,eL,ca,ed,nd,hl,kp,RR1,rfl⟩;exists[dx,i,e0],RR1.obj;refine#[_,rfl,p,dx,_,rfl,e0,bg l i ⋯ ⋯,?_];cases hl with
 |nil h =>
  refine RR1.no ⋯ h #[_,rfl,aJ ?_];rw[YL]at ed;have lv:=ca.len;rw[<-ed]at ca;refine#[_,rfl,_,L,vs,rfl,eL,λz=>?_,?_,λv' e1=>?_,λn1 a b H2 s2 eb ea=>?_]
  ·rw[z]at lv;exact nd (List.length_eq_zero_iff.mp lv.symm)
  ·rw[lv,<-ed,Zl];omega
  ·subst e1;cases ca with
   |cons g t =>cases t;exact q _ _ kp g RR1
  ·cases cs with
   |nil=>exact absurd (by rw[lv,<-ed];rfl) n1
   |cons c1 cs =>exact q _ _ (kp.trans (KpR.same s2)) (.many (o:=true) ea eb (ca.ts λa zs e=>s2 _ _ e)) (RR1.same s2)
 |@cons us1 r1 _ c1 cs1 h hl =>
  refine RR1.yes ⋯ λH2 k2 R2=>#[_,rfl,aP #[_,λ_ _ z=>z,?_]]
  have eL2:=k2 _ _ eL n1;refine#[_,rfl,.inl #[rfl,_,L7 eL2],_,rfl,_,rfl,p,l,ws,us1,d,c1,r1,rfl,R2,h,λv3 H3 k3 cv3 R3=>?_];have eL3:=k3 _ _ eL2 n1;have lv:=ca.len;have ca3:=(ca.ts (RR1.ts k2)).ts (R2.ts k3);refine#[L,vs,v3,rfl,rfl,eL3,Y5 (m:=1000) ?_ ⋯,?_]
  ·have:(c0::cs).length=done.length+(c1::cs1).length:=by rw[ed,Zi]
   simp only[Zl]at this;omega
  ·have tu:=xJ (o:=.lst (vs++[v3])) eL3;refine#[cs1.length,Yd _,done++[c1],cs1,vs++[v3],r1,rfl,ac,(ca3.app cv3).ts tu,by rw[ed,ZO];rfl,by simp,hl,λb o e n=>?_,R3.upd n1 n2,rfl];rw[ag]
   ·exact k3 _ _ (k2 _ _ (kp _ _ e n) n) n
   ·rintro rfl;rw[nH]at e;cases e
def DK(h:AtOk c):c.ws=c.hd::(if c.kind="nothing" then[]else[c.arg]):=by cases h<;>first|rfl|(simp only[Cq.ws,Cq.hd,Cq.kind,Cq.arg];rfl)
def IY(h:AtOk c):PyProof.Rows.KTD.datumAt c.hd FT=some (tf c.kind):=by
 cases h with
 |w h =>simp only[W6,Zf,Zz,ZY]at h;rcases h with rfl|rfl|rfl|rfl|rfl|rfl<;>rfl
 |num h=>rcases h with rfl|rfl<;>rfl
 |item=>rfl
 |says=>rfl
def jt(h:AtOk c):c.hd≠"not"/\c.hd≠"("/\c.hd≠"or"/\c.hd≠"and":=by
 cases h with
 |w h =>
  have:∀s∈W6,s≠"not"/\s≠"("/\s≠"or"/\s≠"and":=⋯
  exact this _ h
 |num h =>
  rcases h with rfl|rfl
  ·show("due":Str)≠"not"/\("due":Str)≠"("/\("due":Str)≠"or"/\("due":Str)≠"and";decide +kernel
  ·show("depth":Str)≠"not"/\("depth":Str)≠"("/\("depth":Str)≠"or"/\("depth":Str)≠"and";decide +kernel
 |item=>show("beneath":Str)≠"not"/\("beneath":Str)≠"("/\("beneath":Str)≠"or"/\("beneath":Str)≠"and";decide +kernel
 |says=>show("says":Str)≠"not"/\("says":Str)≠"("/\("says":Str)≠"or"/\("says":Str)≠"and";decide +kernel
def IX{H:Hp}(ok:AtOk c)(e:H a=some (.tup [.str c.hd,v]))(h:ArgAt H v c):CqAt H (.ref a) c:=by
 cases h with
 |num=>exact .num e
 |item h=>exact .item e h
 |says=>exact .says e
def Gv{H:Hp}(ok:AtOk c)(n:c.kind="nothing")(e:H a=some (.tup [.str c.hd])):CqAt H (.ref a) c:=by
 cases ok with
 |w=>exact .w e
 |num=>exact absurd n (by show¬(("number":Str)="nothing");decide +kernel)
 |item=>exact absurd n (by show¬(("item":Str)="nothing");decide +kernel)
 |says=>exact absurd n (by show¬(("word":Str)="nothing");decide +kernel)
inductive spPl(C:LN)(vs:Md)(H:Hp)(Q:VK)(E_:XK):Prop
 |mk (p l:LN) (ws:List Str) (c:Cq) (r:List Str) (h0:vs=[.ref p]) (h1:RdL C H p l ws (c.ws++r)) (h2:AtOk c) (h3:∀v H',KpR p H H'->CqAt H' v c->RdL C H' p l ws r->Q v H'):spPl C vs H Q E_
abbrev hZ:Stmt:=top 47
abbrev tO:List Str:=["reader","word","kind","following"]
def eJ:FnScope tO ["reader"] (aj hZ):= ~~~0
def sB(F:Fun K "read_plain" "read_plain" hZ f fd)(v9:↑Fn 3 "may_follow" ["kind","word"] spMay)(k8:↑Fn 2 "read_following" ["kind","word"] spFollowing)(i9:↑MFn 2 C "here" ["self"] (spHere C))(e8:↑MFn 1 C "go_on" ["self","good"] (spGoOn C))(u4:mg "FOLLOWING" = some (.ref ff))(T:Tab K ff FT):↑FnOk CX0 4 f fd ["reader"] (spPl C):=by
 exists eJ
 exists[p,l,ws,c,r,rfl,R0,ok,q],h;refine#[_,(b_c (ax (i:=1) eJ.nd (cY i9 ↑99 ↑0))
   (b_c (bC (br e8 ↑99 ↑0 (q_a (aM E5 ↑1 (vp u4)) ah)))
   (b_c (ax (i:=2) eJ.nd (ao zq (vp u4) ↑1))
   (b_c (aC (aq aD ↑2 ai) (b_1 (am (aW (q_a ↑1 ah)))) b_0)
   (b_c (ax (i:=3) eJ.nd (cY i9 ↑99 ↑0))
   (b_c (bC (br e8 ↑99 ↑0 (q_a (aG v9 ↑99 (q_a ↑2 (q_a ↑3 ah))) ah)))
   (b_1 (am (aW (q_a ↑1 (q_a (aG k8 ↑99 (q_a ↑2 (q_a ↑3 ah))) ah))))))))))),?_]
 have ft:=IY ok;rw[DK ok]at R0;exists[dx,i,e0],R0.obj;refine#[_,rfl,p,dx,_,rfl,e0,bg l i ⋯ ⋯,R0.here ?_];refine#[_,rfl,p,dx,_,rfl,e0,bg l i ⋯ ⋯,#[_,rfl,ff,c.hd,FT,rfl,rfl,T,?_]];rw[ft];refine R0.go λH1 k1 R1=>?_;refine#[_,rfl,ff,c.hd,FT,_,rfl,rfl,T,ft,?_];refine#[_,rfl,rfl,_,rfl,bp (λn=>?_) (λn=>?_)]
 ·have n':c.kind="nothing":=by injection n
  rw[LI n']at R1;refine#[_,rfl,sz rfl,λa ga=>?_];have w1:=ad ga (.tup [.str c.hd]);exact q _ _ (k1.trans (KpR.same w1)) (Gv ok n' ac) (R1.same w1)
 ·have n':c.kind≠"nothing":=λz=>n (by rw[z]);rw[LH n']at R1;exists[dx,i,e1],R1.obj;refine#[_,rfl,p,dx,_,rfl,e1,bg l i ⋯ ⋯,R1.here ?_];refine#[_,rfl,p,dx,_,rfl,e1,bg l i ⋯ ⋯,#[_,rfl,_,rfl,c,rfl,ok,n',λH2 s2=>?_]];have R2:RdL C H2 p l ws (c.arg::r):=R1.same s2;refine R2.go λH3 k3 R3=>?_;refine#[_,rfl,_,rfl,_,rfl,c,rfl,ok,n',λv H4 s4 av=>#[sz rfl,λa ga=>?_]];have w1:=ad ga (.tup [.str c.hd,v]);refine q _ _ (k1.trans ((KpR.same s2).trans (k3.trans (KpR.same (s4.trans w1))))) (IX ok ac ?_) (R3.same (s4.trans w1));cases av with
  |num=>exact .num
  |item h=>exact .item (w1 _ _ h)
  |says=>exact .says
abbrev jT:Stmt:=top 46
abbrev xT:List Str:=["reader","depth","condition"]
def nq:FnScope xT ["reader","depth"] (aj jT):= ~~~0
def wv{k n:Nat}(hk:3<=k)(F:Fun K "read_one" "read_one" jT f fd)(v7:↑Fn k "read_one" ["reader","depth"] (spR C (RO n)))(j9:↑Fn (k+2) "read_some" ["reader","depth"] (spR C (RM true (RM false (RO n)))))(J9:↑Fn 4 "read_plain" ["reader"] (spPl C))(c7:↑MFn 3 C "passes" ["self","word"] (spPasses C))(i9:↑MFn 2 C "here" ["self"] (spHere C))(e8:↑MFn 1 C "go_on" ["self","good"] (spGoOn C))(u5:mg "MOST_DEEP" = some (.int 12 t1)):↑FnOk CX0 (k+3) f fd ["reader","depth"] (spR C (RO (n+1))):=by
 exists nq
 exists[p,l,ws,us,d,c,r,rfl,R0,h,q],h;refine#[_,(b_c (aC (t_w (cA (aq jL ↑1 (bV u5)) (bY (cc (br c7 (hr.mono ∅) ↑0 (q_a ai ah)))))) (b_1 (am (aW (q_a ai (q_a (aG v7 (hr.mono ∅) (q_a ↑0 (q_a (aw eX ↑1 af) ah))) ah))))) b_0)
   (b_c (aC (t_w (cA (aq jL ↑1 (bV u5)) (bY (cc (br c7 (hr.mono ∅) ↑0 (q_a ai ah)))))) (b_c (ax (i:=2) nq.nd (aG j9 (hr.mono ∅) (q_a ↑0 (q_a (aw eX ↑1 af) ah))))
   (b_c (bC (br e8 (hr.mono ∅) ↑0 (q_a (aM aD (cY i9 (hr.mono ∅) ↑0) ai) ah)))
   (b_1 (am ↑2)))) b_0)
   (b_1 (am (aG J9 (hr.mono ∅) (q_a ↑0 ah)))))),?_]
 exists[dx,i,e0],R0.obj;rcases h with⟨d12,us',c',rfl,rfl,h⟩|⟨d12,us',rfl,h⟩|⟨ok,rfl⟩
 ·refine#[_,rfl,_,_,rfl,rfl,#[_,rfl,bc d12 #[_,rfl,p,dx,_,rfl,e0,bg l i ⋯ ⋯,RdL.yes (t:="not") R0 ⋯ λH1 k1 R1=>#[_,rfl,aP ?_]]]];refine#[_,rfl,_,rfl,_,_,rfl,rfl,p,l,ws,us',d+1,c',r,rfl,R1,h,λv H2 k2 cv R2=>#[sz rfl,λa ga=>?_]];have w1:=ad ga (.tup [.str "not",v]);exact q _ _ (k1.trans (k2.trans (KpR.same w1))) (.no ac (cv.ts λa zs e=>w1 _ _ e)) (R2.same w1)
 ·refine#[_,rfl,_,_,rfl,rfl,#[_,rfl,bc d12 #[_,rfl,p,dx,_,rfl,e0,bg l i ⋯ ⋯,RdL.no (t:="not") R0 ⋯ (by show¬(opn="not");decide +kernel) #[_,rfl,aJ ?_]]]];refine#[_,rfl,_,_,rfl,rfl,#[_,rfl,bc d12 #[_,rfl,p,dx,_,rfl,e0,bg l i ⋯ ⋯,RdL.yes (t:="(") R0 ⋯ λH1 k1 R1=>#[_,rfl,aP ?_]]]];refine#[_,rfl,_,rfl,_,_,rfl,rfl,p,l,ws,us',d+1,c,_,rfl,R1,h,λv H2 k2 cv R2=>?_];exists[dx,i,e2],R2.obj;refine#[_,rfl,p,dx,_,rfl,e2,bg l i ⋯ ⋯,#[_,rfl,p,dx,_,rfl,e2,bg l i ⋯ ⋯,R2.here #[rfl,?_]]];rw[decide_eq_true (show V.str ((cls::r).headD "")=V.str ")" from rfl)];exact R2.go λH3 k3 R3=>#[_,rfl,q _ _ (k1.trans (k2.trans k3)) (cv.ts (R2.ts k3)) R3]
 ·have hh:=jt ok;have hu:(c.ws++r).headD "" = c.hd:=by rw[DK ok];rfl
  refine#[_,rfl,_,_,rfl,rfl,#[_,rfl,bp (λd12=>?_) (λd12=>?_)]]
  ·refine#[_,rfl,p,dx,_,rfl,e0,bg l i ⋯ ⋯,RdL.no (t:="not") R0 ⋯ (by rw[hu];exact hh.1) #[_,rfl,aJ ?_]];refine#[_,rfl,_,_,rfl,rfl,#[_,rfl,bc d12 #[_,rfl,p,dx,_,rfl,e0,bg l i ⋯ ⋯,RdL.no (t:="(") R0 ⋯ (by rw[hu];exact hh.2.1) #[_,rfl,aJ ?_]]]];exact#[_,rfl,p,l,ws,c,r,rfl,R0,ok,q]
  ·refine aJ #[_,rfl,_,_,rfl,rfl,#[_,rfl,aS d12 (aJ ?_)]];exact#[_,rfl,p,l,ws,c,r,rfl,R0,ok,q]
def cS:List Str:=["place","text","size","depth","due"]
inductive QTl:List Str->Str->Bool->Prop
 |none:QTl [] "place" false
 |key {k:Str} (h:k∈cS):QTl ["by",k] k false
 |back {k:Str} (h:k∈cS):QTl ["by",k,"back"] k true
inductive spRQ(R:RR)(vs:Md)(H:Hp)(Q:VK)(E_:XK):Prop
 |mk (ws:List Str) (c:Cq) (r:List Str) (key:Str) (back:Bool) (h0:vs=[.str (Str.join aR ws)]) (h1:ws≠[]) (h2:∀x∈ws,32∉x.cps.toList) (h3:(Str.join aR ws).length<=100000) (h4:ws.length<=100000) (h5:R 0 ws c r) (h6:QTl r key back)
   (h7:∀a v H',Same H H'->H' a=some (.tup [v,.str key,.bl back])->CqAt H' v c->Q (.ref a) H'):spRQ R vs H Q E_
def Ay{k:Str}(h:k∈cS):inV (.str k) (cS.map V.str)=true:=by simp only[cS,Zf,Zz,ZY]at h;rcases h with rfl|rfl|rfl|rfl|rfl<;>decide +kernel
abbrev fh:Stmt:=top 42
abbrev oG:List Str:=["text","reader","condition","key","back"]
def bH:FnScope oG ["text"] (aj fh):= ~~~0
def om{k:Nat}(hk:3<=k)(F:Fun K "read_question" "read_question" fh f fd)(Kx:↑MkFn 1 C "Reader" ["self","words"] (spRInit C))(j9:↑Fn k "read_some" ["reader","depth"] (spR C R))(c7:↑MFn 3 C "passes" ["self","word"] (spPasses C))(i9:↑MFn 2 C "here" ["self"] (spHere C))(e8:↑MFn 1 C "go_on" ["self","good"] (spGoOn C))(i8:↑MFn 1 C "is_through" ["self"] (spThrough C))(La:mg "KEYS" = some (.ref kk))(hK:∀H,SqT K H kk (cS.map V.str)):↑FnOk CX0 (k+1) f fd ["text"] (spRQ R):=by
 exists bH
 exists[ws,c,r,key,back,rfl,ne,nb,l1,l2,h1,h2,q],h;refine#[_,(b_c (ax (i:=1) bH.nd (Im Kx (hr.mono ∅) (q_a (qL ↑0 ai) ah)))
   (b_c (ax (i:=2) bH.nd (aG j9 (hr.mono ∅) (q_a ↑1 (q_a af ah))))
   (b_c (ax (i:=3) bH.nd ai)
   (b_c (ax (i:=4) bH.nd fK)
   (b_c (aC (cc (br c7 (hr.mono ∅) ↑1 (q_a ai ah))) (b_c (ax (i:=3) bH.nd (cY i9 (hr.mono ∅) ↑1))
   (b_c (bC (br e8 (hr.mono ∅) ↑1 (q_a (aM (D7 (K:=K) rfl) ↑3 (vp La)) ah)))
   (b_1 (ax (i:=4) bH.nd (br c7 (hr.mono ∅) ↑1 (q_a ai ah)))))) b_0)
   (b_c (aC (mQ (cc (cY i8 (hr.mono ∅) ↑1))) (b_1 dY) b_0)
   (b_1 (am (aW (q_a ↑2 (q_a ↑3 (q_a ↑4 ah)))))))))))),?_]
 refine#[_,rfl,rfl,_," ",rfl,rfl,rfl,l1,λD gD=>?_];rw[show Txt.split (Str.join aR ws) " " = ws from pY (c:=32) ne nb];have wD:=ad gD (.lst (ws.map V.str));have eD:upd H D (.lst (ws.map V.str)) D=some (.lst (ws.map V.str)):=ac;generalize upd H D (.lst (ws.map V.str))=H1 at wD eD ⊢;intro x dx gx gdx nx;have nDx:D≠x:=λz=>by rw[z,gx]at eD;cases eD
 have nDdx:D≠dx:=λz=>by rw[z,gdx]at eD;cases eD
 refine#[x,dx,D,ws,rfl,ac,by rw[ag nDx,ag nDdx];exact eD,l2,λH2 k2 R2=>#[rfl,?_]];have w2:Same H H2:=λb o e=>by
  have e1:=wD _ _ e;have n1:b≠x:=λz=>by rw[z,gx]at e1;cases e1
  have n2:b≠dx:=λz=>by rw[z,gdx]at e1;cases e1
  exact k2 _ _ (by rw[ag n1,ag n2];exact e1) n1
 have R2:RdL C H2 x D ws ws:=#[[],rfl,R2]
 have nHx:H x=none:=by
  cases e:H x with
  |none=>rfl
  |some o=>rw[wD _ _ e]at gx;cases gx
 have fs:∀{H3:Hp},KpR x H2 H3->Same H H3:=λk b o e=>k _ _ (w2 _ _ e) λz=>by rw[z,nHx]at e;cases e
 refine#[_,rfl,x,D,ws,ws,0,c,r,rfl,R2,h1,λv H3 k3 cv R3=>?_];exists[dy,i,e3],R3.obj;cases h2 with
 |none =>refine#[_,rfl,x,dy,_,rfl,e3,bg D i ⋯ ⋯,RdL.no (t:="by") R3 ⋯ ⋯ #[_,rfl,aJ ?_]];refine#[_,rfl,x,dy,_,rfl,e3,bg D i ⋯ ⋯,R3.through #[_,rfl,aJ ?_]];refine#[_,rfl,_,rfl,_,rfl,sz rfl,λa ga=>?_];exact q a v _ ((fs k3).trans (ad ga _)) ac (cv.ts λa zs e=>ad ga _ _ _ e)
 |key h =>refine#[_,rfl,x,dy,_,rfl,e3,bg D i ⋯ ⋯,RdL.yes (t:="by") R3 ⋯ λH4 k4 R4=>#[_,rfl,aP ?_]];exists[dy,i,e4],R4.obj;refine#[_,rfl,x,dy,_,rfl,e4,bg D i ⋯ ⋯,R4.here ?_];refine#[_,rfl,x,dy,_,rfl,e4,bg D i ⋯ ⋯,#[_,rfl,kk,_,rfl,.inr (hK _),rfl,rfl,?_]];rw[show(if false=true then !inV (.str (List.headD [key] "")) (cS.map V.str)else inV (.str (List.headD [key] "")) (cS.map V.str))=true from Ay h];refine R4.go λH5 k5 R5=>?_;exists[dy,i,e5],R5.obj;refine#[_,rfl,x,dy,_,rfl,e5,bg D i ⋯ ⋯,RdL.no (t:="back") R5 ⋯ ⋯ ?_];refine#[_,rfl,x,dy,_,rfl,e5,bg D i ⋯ ⋯,R5.through #[_,rfl,aJ ?_]];refine#[_,rfl,_,rfl,_,rfl,sz rfl,λa ga=>?_];exact q a v _ ((fs (k3.trans (k4.trans k5))).trans (ad ga _)) ac (((cv.ts (R3.ts k4)).ts (R4.ts k5)).ts λa zs e=>ad ga _ _ _ e)
 |back h =>refine#[_,rfl,x,dy,_,rfl,e3,bg D i ⋯ ⋯,RdL.yes (t:="by") R3 ⋯ λH4 k4 R4=>#[_,rfl,aP ?_]];exists[dy,i,e4],R4.obj;refine#[_,rfl,x,dy,_,rfl,e4,bg D i ⋯ ⋯,R4.here ?_];refine#[_,rfl,x,dy,_,rfl,e4,bg D i ⋯ ⋯,#[_,rfl,kk,_,rfl,.inr (hK _),rfl,rfl,?_]];rw[show(if false=true then !inV (.str (List.headD [key,"back"] "")) (cS.map V.str)else inV (.str (List.headD [key,"back"] "")) (cS.map V.str))=true from Ay h];refine R4.go λH5 k5 R5=>?_;exists[dy,i,e5],R5.obj;refine#[_,rfl,x,dy,_,rfl,e5,bg D i ⋯ ⋯,RdL.yes (t:="back") R5 ⋯ λH6 k6 R6=>?_];exists[dy,i,e6],R6.obj;refine#[_,rfl,x,dy,_,rfl,e6,bg D i ⋯ ⋯,R6.through #[_,rfl,aJ ?_]];refine#[_,rfl,_,rfl,_,rfl,sz rfl,λa ga=>?_];exact q a v _ ((fs (k3.trans (k4.trans (k5.trans k6)))).trans (ad ga _)) ac ((((cv.ts (R3.ts k4)).ts (R4.ts k5)).ts (R5.ts k6)).ts λa zs e=>ad ga _ _ _ e)
def Cq.mny:Cq->Bool
 |.many _ _=>true
 |_=>false
def Cq.isOr:Cq->Bool
 |.many o _=>o
 |_=>false
inductive GoodC:Nat->Nat->Cq->Prop
 |at{h d:Nat} {c:Cq} (ok:AtOk c):GoodC (h+1) d c
 |no {h d d':Nat} {c:Cq} (g:GoodC h d c) (hd:d+(if c.mny then 2 else 1)<=d'):GoodC (h+1) d' (.no c)
 |many {h d:Nat} {o:Bool} {cs:List Cq} (h1:2<=cs.length) (h2:cs.length<=90) (g:∀c∈cs,GoodC h (d-(if brk c (orW o)then 1 else 0)) c) (hd:∀c∈cs,brk c (orW o)=true->1<=d):GoodC (h+1) d (.many o cs)
def GoodC.mono{h d:Nat}(g:GoodC h d c):∀{h' d':Nat},h<=h'->d<=d'->GoodC h' d' c:=by
 induction g with
 |@«at» h d c ok =>
  intro h' d' hh hd;obtain⟨h',rfl⟩:∃x,h'=x+1:=#[h'-1,∅]
  exact .at ok
 |@no h d e c g hd ih =>
  intro h' d' hh hd';obtain⟨h',rfl⟩:∃x,h'=x+1:=#[h'-1,∅]
  exact .no (ih ∅ (Ze _)) ∅
 |@many h d o cs h1 h2 g hd ih =>
  intro h' d' hh hd';obtain⟨h',rfl⟩:∃x,h'=x+1:=#[h'-1,∅]
  exact .many h1 h2 (λc hc=>ih c hc ∅ (by split<;>omega)) (λc hc z=>Zt (hd c hc z) hd')
def GoodC.hds{h d:Nat}(g:GoodC h d c):decide (c.hd="or")=c.isOr/\decide (c.hd="and")=(c.mny&&!c.isOr)/\(c.mny=false->c.isOr=false):=by
 cases g with
 | «at» ok =>
  have a:=jt ok;have b:c.isOr=false/\c.mny=false:=by cases ok<;>exact#[rfl,rfl]
  rw[b.1,b.2,decide_eq_false a.2.2.1,decide_eq_false a.2.2.2];exact#[rfl,rfl,λ_=>rfl]
 |no g hd =>
  refine#[decide_eq_false ?_,decide_eq_false ?_,λ_=>rfl]
  ·show¬(("not":Str)="or");decide +kernel
  ·show¬(("not":Str)="and");decide +kernel
 |@many h d o cs =>show decide (orW o="or")=o/\decide (orW o="and")=!o/\_;cases o<;>refine#[⋯,⋯,λz=>by cases z]
def GoodC.brkA{h d:Nat}(g:GoodC h d c){t:Str}(n:t≠"or"):brk c t=c.mny:=by
 exists[a,b,e],g.hds;unfold brk;rw[a,b,decide_eq_false n];cases c with
 |many o=>cases o<;>rfl
 |_=>rfl
def GoodC.brkO{h d:Nat}(g:GoodC h d c):brk c "or" = c.isOr:=by exists[a,b,e],g.hds;unfold brk;rw[a,b,decide_eq_true rfl];cases c.isOr<;>cases c.mny<;>rfl
theorem yd{R:List Str->Cq->List Str->Prop}{r:List Str}(hr:r.headD ""≠orW o):∀(cs:List Cq) (c:Cq),(∀x∈c::cs,∀r',(r'=r\/∃z,r'=orW o::z)->R (dq (brk x (orW o)) x.ws++r') x r') ->
  ∃r0,R (Cq.wsL o (c::cs)++r) c r0/\RL R (orW o) r0 cs r
 | [],c,h=>#[r,h c Zo r (.inl rfl),.nil hr]
 |d::cs,c,h=>by exists[r1,a,b],yd hr cs d λx hx=>h x (Zn _ hx);refine#[orW o::(Cq.wsL o (d::cs)++r),?_,.cons a b];have:=h c Zo (orW o::(Cq.wsL o (d::cs)++r)) (.inr #[_,rfl]);rw[Cq.wsL,ZO];exact this
def tV(h:2<=(c::cs).length):DJ o c cs=.many o (c::cs):=by
 cases cs with
 |nil=>simp at h
 |cons=>rfl
theorem reads:∀(h d:Nat) (c:Cq),GoodC h d c ->
  (∀(n:Nat) (D:Int) (r:List Str),(13:Int)<=n+D->D+d+(if c.mny then 1 else 0)<=12->RO n D (dq c.mny c.ws++r) c r) /\
  (c.isOr=false->∀(n:Nat) (D:Int) (r:List Str),(13:Int)<=n+D->D+d<=12->r.headD ""≠"and"->RM false (RO n) D (c.ws++r) c r) /\
  (∀(n:Nat) (D:Int) (r:List Str),(13:Int)<=n+D->D+d<=12->r.headD ""≠"and"->r.headD ""≠"or"->RM true (RM false (RO n)) D (c.ws++r) c r)
 |0,d,c,g=>by cases g
 |h+1,d,c,g=>by
  have E:c.isOr=false->∀(n:Nat) (D:Int) (r:List Str),(13:Int)<=n+D->D+d<=12->r.headD ""≠"and"->(c.mny=false->RO n D (c.ws++r) c r)->RM false (RO n) D (c.ws++r) c r:=λno n D r hn hD hr hu=>by
   cases hm:c.mny with
   |false=>exact#[c,r,[],hu hm,.nil hr,by simp,rfl]
   |true =>
    cases g with
    | «at» ok=>cases ok<;>cases hm
    |no=>cases hm
    |@many _ _ o cs h1 h2 g hd =>
     have no:o=false:=no;subst no;cases cs with
     |nil=>simp at h1
     |cons c1 cs =>
      exists[r0,a,b],yd (R:=RO n D) (o:=false) (r:=r) hr cs c1 λx hx r' hr'=>by have gx:=g x hx;have hb:=gx.brkA (t:=orW false) ⋯;have dx:=hd x hx;have:=(reads h _ x gx).1 n D r' hn (by rw[hb]at dx ⊢;split<;>(rename_i z;first|(have:=dx z;omega)|omega));rw[hb];exact this
      exact#[c1,r0,cs,a,b,by simp at h2;omega,(tV h1).symm]
  have S:∀(n:Nat) (D:Int) (r:List Str),(13:Int)<=n+D->D+d<=12->r.headD ""≠"and"->r.headD ""≠"or"->(c.isOr=false->RM false (RO n) D (c.ws++r) c r)->RM true (RM false (RO n)) D (c.ws++r) c r:=λn D r hn hD hr hr2 hE=>by
   cases ho:c.isOr with
   |false=>exact#[c,r,[],hE ho,.nil hr2,by simp,rfl]
   |true =>
    cases g with
    | «at» ok=>cases ok<;>cases ho
    |no=>cases ho
    |@many _ _ o cs h1 h2 g hd =>
     have ho:o=true:=ho;subst ho;cases cs with
     |nil=>simp at h1
     |cons c1 cs =>
      exists[r0,a,b],yd (R:=RM false (RO n) D) (o:=true) (r:=r) hr2 cs c1 λx hx r' hr'=>by
       have gx:=g x hx;have hb:brk x (orW true)=x.isOr:=gx.brkO;have dx:=hd x hx;have hra:r'.headD ""≠"and":=by
        rcases hr' with rfl|⟨z,rfl⟩
        ·exact hr
        ·show¬(orW true="and");decide +kernel
       exists[u,e,_],reads h _ x gx;rw[hb]at dx u e ⊢;cases hx:x.isOr with
       |false =>rw[hx]at u e;exact e rfl n D r' hn (by simp;omega) hra
       |true =>
        have hm:x.mny=true:=by
         cases hq:x.mny with
         |true=>rfl
         |false=>rw[gx.hds.2.2 hq]at hx;cases hx
        rw[hx]at u;rw[hm]at u;have:=dx hx;exact#[x,r',[],u n D r' hn (by simp;omega),.nil hra,by simp,rfl]
      exact#[c1,r0,cs,a,b,by simp at h2;omega,(tV h1).symm]
  have U:∀(n:Nat) (D:Int) (r:List Str),(13:Int)<=n+D->D+d+(if c.mny then 1 else 0)<=12->c.mny=false->RO n D (c.ws++r) c r:=λn D r hn hD hm=>by
   rw[hm]at hD;simp at hD;obtain⟨n,rfl⟩:∃x,n=x+1:=#[n-1,∅]
   have hn':(13:Int)<=n+(D+1):=∅
   cases g with
   | «at» ok=>exact .inr (.inr #[ok,rfl])
   |@no _ e _ c' g he =>have hb:brk c' bS=c'.mny:=g.brkA ⋯;refine .inl #[by split at he<;>omega,dq (brk c' bS) c'.ws++r,c',rfl,rfl,?_];rw[hb];exact(reads h _ c' g).1 n (D+1) r hn' (by split at he<;>simp_all<;>omega)
   |many=>cases hm
  refine#[λn D r hn hD=>?_,λno n D r hn hD hr=>E no n D r hn hD hr λhm=>U n D r hn (by rw[hm];simpa using hD) hm,λn D r hn hD hr hr2=>S n D r hn hD hr hr2 λno=>E no n D r hn hD hr λhm=>U n D r hn (by rw[hm];simpa using hD) hm];cases hm:c.mny with
  |false=>exact U n D r hn hD hm
  |true =>
   rw[hm]at hD;simp at hD;obtain⟨n,rfl⟩:∃x,n=x+1:=#[n-1,∅]
   have nc:∀t:Str,t="and"\/t="or"->(cls::r).headD ""≠t:=by
    rintro t (rfl|rfl)
    ·show¬(cls="and");decide +kernel
    ·show¬(cls="or");decide +kernel
   refine .inr (.inl #[∅,c.ws++cls::r,?_,S n (D+1) (cls::r) ∅ ∅ (nc _ (.inl rfl)) (nc _ (.inr rfl)) λno=>E no n (D+1) (cls::r) ∅ ∅ (nc _ (.inl rfl)) λhm'=>by rw[hm]at hm';cases hm']);show(opn::(c.ws++[cls]))++r=opn::(c.ws++cls::r);rw[List.cons_append,ZO];rfl
theorem eW:∀{a b:List Str},a≠[]->b≠[]->(Str.join s (a++b)).cps.toList=(Str.join s a).cps.toList++(s.cps.toList++(Str.join s b).cps.toList)
 | [],_,h,_=>absurd rfl h
 |_,[],_,h=>absurd rfl h
 | [x],y::b,_,_=>by show(x++s++Str.join s (y::b)).cps.toList=_;rw[bf,bf,ZO];rfl
 |x::x2::a,y::b,_,_=>by have ih:=eW (s:=s) (a:=x2::a) (b:=y::b) (by simp) (by simp);show(x++s++Str.join s (x2::a++y::b)).cps.toList=(x++s++Str.join s (x2::a)).cps.toList++_;rw[bf,bf,ih,bf,bf];simp only[ZO]
def EQ{ws:List Str}(h:ws≠[]):Str.join aR (dq true ws)=("( ":Str)++Str.join aR ws++(" )":Str):=by
 refine dO ?_;show(Str.join aR ([opn]++(ws++[cls]))).cps.toList=_;rw[eW (by simp) (by simp),eW h (by simp),bf,bf];have e1:("( ":Str).cps.toList=opn.cps.toList++aR.cps.toList:=⋯
 have e2:(" )":Str).cps.toList=aR.cps.toList++cls.cps.toList:=⋯
 rw[e1,e2];show opn.cps.toList++_=_;simp only[ZO];rfl
def Cv{ws:List Str}(h:ws≠[]):Str.join aR (bS::ws)=("not ":Str)++Str.join aR ws:=by
 refine dO ?_;show(Str.join aR ([bS]++ws)).cps.toList=_;rw[eW (by simp) h,bf];have e1:("not ":Str).cps.toList=bS.cps.toList++aR.cps.toList:=⋯
 rw[e1,ZO];rfl
def wK{ws:List Str}(h:ws≠[])(k:Str):Str.join aR (ws++[("by":Str),k])=Str.join aR ws++(" by ":Str)++k:=by
 refine dO ?_;rw[eW h (by simp),bf,bf];have e1:(" by ":Str).cps.toList=aR.cps.toList++(("by":Str).cps.toList++aR.cps.toList):=⋯
 rw[e1];show _=(Str.join aR ws).cps.toList++_++_;have e2:(Str.join aR [("by":Str),k]).cps.toList=("by":Str).cps.toList++(aR.cps.toList++k.cps.toList):=by rw[show(["by",k]:List Str)=[("by":Str)]++[k]from rfl,eW (by simp) (by simp)];rfl
 rw[e2];simp only[ZO]
def zK{ws:List Str}(h:ws≠[]):Str.join aR (ws++[("back":Str)])=Str.join aR ws++(" back":Str):=by
 refine dO ?_;rw[eW h (by simp),bf];have e1:(" back":Str).cps.toList=aR.cps.toList++("back":Str).cps.toList:=⋯
 rw[e1];rfl
def Cq.lineIn(t:Str)(c:Cq):Str:=Str.join aR (dq (brk c t) c.ws)
def qz{ws:List Str}(h:ws≠[]):dq b ws≠[]:=by
 cases b
 ·exact h
 ·exact List.cons_ne_nil _ _
def BM:∀{cs:List Cq},cs≠[]->(∀c∈cs,c.ws≠[])->Cq.wsL o cs≠[]
 | [],h,_=>absurd rfl h
 | [c],_,h=>by rw[Cq.wsL];exact qz (h c Zo)
 |c::d::cs,_,h=>by rw[Cq.wsL];simp
theorem vT:∀{cs:List Cq},cs≠[]->(∀c∈cs,c.ws≠[])->Str.join aR (Cq.wsL o cs)=Str.join ((" ":Str)++orW o++(" ":Str)) (cs.map (Cq.lineIn (orW o)))
 | [],h,_=>absurd rfl h
 | [c],_,h=>by rw[Cq.wsL];rfl
 |c::d::cs,_,h=>by have ih:=vT (o:=o) (cs:=d::cs) (by simp) λx hx=>h x (Zn _ hx);have n:=BM (o:=o) (cs:=d::cs) (by simp) λx hx=>h x (Zn _ hx);rw[Cq.wsL];refine dO ?_;rw[eW (qz (h c Zo)) (by simp)];rw[show orW o::Cq.wsL o (d::cs)=[orW o]++Cq.wsL o (d::cs)from rfl,eW (by simp) n,ih];show _=(Cq.lineIn (orW o) c++((" ":Str)++orW o++(" ":Str))++Str.join ((" ":Str)++orW o++(" ":Str)) ((d::cs).map (Cq.lineIn (orW o)))).cps.toList;rw[bf,bf,bf,bf];simp only[ZO];rfl
def Wd(x:Str):Prop:=x.length<=130/\32∉x.cps.toList
theorem iX:∀{ws:List Str},(∀x∈ws,Wd x)->(Str.join aR ws).length<=131*ws.length
 | [],_=>Ze 0
 | [x],h=>by have:x.length<=130:=(h x Zo).1;show x.length<=131*1;omega
 |x::y::ws,h=>by have ih:=iX (ws:=y::ws) λz hz=>h z (Zn _ hz);have:x.length<=130:=(h x Zo).1;show(x++aR++Str.join aR (y::ws)).length<=131*(ws.length+1+1);rw[Yx,Yx];have:aR.length=1:=rfl;simp only[Zl]at ih;omega
def mR{ws:List Str}(h:∀x∈ws,Wd x):∀x∈dq b ws,Wd x:=by
 intro x hx;cases b with
 |false=>exact h x hx
 |true =>
  have hx:x∈opn::(ws++[cls]):=hx;rcases Zf.mp hx with rfl|hx
  ·exact#[⋯,⋯]
  ·rcases ZE.mp hx with hx|hx
   ·exact h x hx
   ·rw[Zj.mp hx];exact#[⋯,⋯]
def JO(o:Bool):Wd (orW o):=by cases o<;>exact#[⋯,⋯]
theorem IQ:∀{cs:List Cq},(∀c∈cs,∀x∈c.ws,Wd x)->∀x∈Cq.wsL o cs,Wd x
 | [],_,x,hx=>by rw[Cq.wsL]at hx;cases hx
 | [c],h,x,hx=>by rw[Cq.wsL]at hx;exact mR (h c Zo) x hx
 |c::d::cs,h,x,hx=>by
  rw[Cq.wsL]at hx;rcases ZE.mp hx with hx|hx
  ·exact mR (h c Zo) x hx
  ·rcases Zf.mp hx with rfl|hx
   ·exact JO o
   ·exact IQ (λz hz=>h z (Zn _ hz)) x hx
def qA(i:Int){k:Nat}(h:k≠45)(h1:k<48\/57<k):k∉(aL i).cps.toList:=λz=>by have:=jD i k z;omega
def AtOk.words(ok:AtOk c):c.ws≠[]/\∀x∈c.ws,Wd x:=by
 cases ok with
 |@w s h =>
  have:∀s∈W6,s.length<=130/\32∉s.cps.toList:=⋯
  exact#[by simp[Cq.ws],λx hx=>by rw[Cq.ws]at hx;rw[Zj.mp hx];exact this s h]
 |@num s n h h0 h1 =>
  refine#[by simp[Cq.ws],λx hx=>?_];rw[Cq.ws]at hx;simp only[Zf,Zz,ZY]at hx;rcases hx with rfl|rfl
  ·rcases h with rfl|rfl<;>exact#[⋯,⋯]
  ·exact#[Zt h1.len ⋯,qA n ⋯ ⋯]
 |@item x y h0 h1 h2 h3 =>
  refine#[by simp[Cq.ws],λz hz=>?_];rw[Cq.ws]at hz;simp only[Zf,Zz,ZY]at hz;rcases hz with rfl|rfl
  ·exact#[⋯,⋯]
  ·refine#[Zt (nV h2 h3) ⋯,?_];rw[bf,bf];intro q;rcases ZE.mp q with q|q
   ·rcases ZE.mp q with q|q
    ·exact qA x ⋯ ⋯ q
    ·revert q;decide +kernel
   ·exact qA y ⋯ ⋯ q
 |@says t h0 h1 h2 =>
  refine#[by simp[Cq.ws],λz hz=>?_];rw[Cq.ws]at hz;simp only[Zf,Zz,ZY]at hz;rcases hz with rfl|rfl
  ·exact#[⋯,⋯]
  ·exact#[Zt h1 ⋯,h2]
def GoodC.words{h d:Nat}(g:GoodC h d c):c.ws≠[]/\∀x∈c.ws,Wd x:=by
 induction g with
 | «at» ok=>exact ok.words
 |no g hd ih =>
  rw[Cq.ws];refine#[by simp,λx hx=>?_];rcases Zf.mp hx with rfl|hx
  ·exact#[⋯,⋯]
  ·exact mR ih.2 x hx
 |many h1 h2 g hd ih =>rw[Cq.ws];exact#[BM (λz=>by rw[z]at h1;simp at h1) λc hc=>(ih c hc).1,IQ λc hc=>(ih c hc).2]
theorem xO:∀{cs:List Cq},(∀c∈cs,∀x∈c.ws,Wd x)->((cs.map (Cq.lineIn (orW o))).map (·.length)).sum<=131*(Cq.wsL o cs).length
 | [],_=>by simp
 | [c],h=>by have:=iX (mR (b:=brk c (orW o)) (h c Zo));rw[Cq.wsL];simp only[Zs,YN,List.sum_cons,List.sum_nil];exact this
 |c::d::cs,h=>by have a:=iX (mR (b:=brk c (orW o)) (h c Zo));have ih:=xO (o:=o) (cs:=d::cs) λz hz=>h z (Zn _ hz);rw[Cq.wsL,Zi,Zl,Zs,Zs,List.sum_cons];have a:(Cq.lineIn (orW o) c).length<=_:=a;omega
theorem xN:∀{cs:List Cq} {c:Cq},c∈cs->(dq (brk c (orW o)) c.ws).length<=(Cq.wsL o cs).length
 | [],_,h=>by cases h
 | [c],x,h=>by rw[Cq.wsL,Zj.mp h];exact Ze _
 |c::d::cs,x,h=>by
  rw[Cq.wsL,Zi,Zl];rcases Zf.mp h with rfl|h
  ·omega
  ·have:=xN (o:=o) h;omega
def xc{ws:List Str}:ws.length<=(dq b ws).length:=by
 cases b
 ·exact Ze _
 ·show ws.length<=(ws++[cls]).length+1;rw[Zi];omega
def CqsAt.get:∀{vs:Md} {cs:List Cq} {i:Nat} {v:V},CqsAt H vs cs->vs[i]?=some v->∃c,cs[i]?=some c/\CqAt H v c
 |_,_,0,_,.cons h t,e=>by cases e;exact#[_,rfl,h]
 |_,_,i+1,_,.cons h t,e=>t.get (i:=i) e
 |_,_,_,_,.nil,e=>by cases e
def Dh(l:List Str):(List.range l.length).map (λi=>V.str ((l[i]?).getD ""))=l.map V.str:=by refine Ye (by simp) λi h1 h2=>?_;rw[Zd]at h2;simp[h2]
inductive spWC(n:Nat)(vs:Md)(H:Hp)(Q:VK)(E_:XK):Prop
 |mk (v:V) (c:Cq) (d:Nat) (h0:vs=[v]) (h1:CqAt H v c) (h2:GoodC n d c) (h3:c.ws.length<=2000) (h4:∀H',Same H H'->Q (.str c.line) H'):spWC n vs H Q E_
inductive spWW(n:Nat)(vs:Md)(H:Hp)(Q:VK)(E_:XK):Prop
 |mk (v:V) (c:Cq) (d:Nat) (t:Str) (h0:vs=[v,.str t]) (h1:CqAt H v c) (h2:GoodC n d c) (h3:c.ws.length<=2000) (h4:∀H',Same H H'->Q (.str (c.lineIn t)) H'):spWW n vs H Q E_
def GoodC.lineLen{h d:Nat}(g:GoodC h d c)(l:c.ws.length<=2000):c.line.length<=262000:=by have:=iX g.words.2;have e:c.line.length<=131*c.ws.length:=this;omega
def GoodC.inLen{h d:Nat}{t:Str}(g:GoodC h d c)(l:c.ws.length<=2000):(c.lineIn t).length<=262300:=by
 have:=iX (mR (b:=brk c t) g.words.2);have e:(c.lineIn t).length<=131*(dq (brk c t) c.ws).length:=this;have:(dq (brk c t) c.ws).length<=c.ws.length+2:=by
  cases brk c t
  ·exact YI _ 2
  ·show(c.ws++[cls]).length+1<=_;rw[Zi];exact Ze _
 omega
def cK{n:Nat}(h:n<=1000000):n<=sizeLine:=Zt h (by rw[sizeLine_eq];decide)
abbrev qS:Stmt:=top 56
abbrev Ew:List Str:=["_law_condition","_law_around","_law_line_here"]
def vI:FnScope Ew ["_law_condition","_law_around"] (aj qS):= ~~~0
def CG{k n:Nat}(F:Fun K "_law_inner" "_law_inner" qS f fd)(Ky:↑Fn k "_law_line" ["_law_condition"] (spWC n)):↑FnOk CX0 (k+1) f fd ["_law_condition","_law_around"] (spWW n):=by
 exists vI
 exists[v,c,d,t,rfl,hc,g,hl,q],h;refine#[_,(b_c (ax (i:=2) vI.nd (aG Ky (hr.mono ∅) (q_a ↑0 ah)))
   (b_c (aC (t_w (oB (aq aD (ao au ↑0 af) ai) (jY (t_w (cA (aq aD (ao au ↑0 af) ai) (bY (aq uZ ↑1 ai))))))) (b_1 (am (aw cW (aw cW ai ↑2) ai))) b_0)
   (b_1 (am ↑2)))),?_]
 exists[a,xs,rfl,e],hc.head;refine#[_,rfl,_,c,d,rfl,hc,g,hl,λH1 s1=>?_];have e1:=s1 _ _ e;have q:=q _ s1;have hb:c.lineIn t=Str.join aR (dq (decide (c.hd="or") ||(decide (c.hd="and")&&!decide (t="or"))) c.ws):=rfl;rw[hb]at q;have fin:Q (.str (Str.join aR (dq true c.ws))) H1->∀R:VK,R=Q->tOp (λx y H Q=>∃i j,x=.str i/\y=.str j/\i.length+j.length<=sizeLine/\Q (.str (i++j)) H) (tOp (λx y H Q=>∃i j,x=.str i/\y=.str j/\i.length+j.length<=sizeLine/\Q (.str (i++j)) H) (tC (.str "( ")) (tVar 2)) (tC (.str " )")) [some (.ref a),some (.str t),some (.str c.line)] H1 R:=by
  rintro z R rfl;have l1:=g.lineLen hl;refine#[_,rfl,_,_,rfl,rfl,cK ?_,_,_,rfl,rfl,cK ?_,?_]
  ·have:("( ":Str).length=2:=rfl;omega
  ·have:("( ":Str).length=2:=rfl;have:(" )":Str).length=2:=rfl;rw[Yx];omega
  ·rw[EQ g.words.1]at z;exact z
 refine#[_,rfl,a,_,_,_,rfl,rfl,L6 e1,at0,#[rfl,#[_,rfl,bp (λc1=>?_) (λc1=>?_)]]]
 ·rw[decide_eq_true (show c.hd="or" by injection c1)]at q;exact aP (fin q _ rfl)
 rw[decide_eq_false (λz=>c1 (by rw[z]))]at q;refine#[_,rfl,a,_,_,_,rfl,rfl,L6 e1,at0,#[rfl,#[_,rfl,bp (λc2=>?_) (λc2=>?_)]]]
 ·rw[decide_eq_true (show c.hd="and" by injection c2)]at q;refine#[_,rfl,#[rfl,#[_,rfl,?_]]];by_cases c3:t="or"
  ·rw[decide_eq_true c3]at q;rw[c3,decide_eq_true rfl];exact aJ #[_,rfl,q]
  ·rw[decide_eq_false c3]at q;rw[decide_eq_false (λz=>c3 (by injection z))];exact aP (fin q _ rfl)
 ·rw[decide_eq_false (λz=>c2 (by rw[z]))]at q;exact aJ #[_,rfl,q]
def tj(s:Str)(l:List Str):Txt.join s l=Str.join s l:=StrLaws.glued_eq_join _ _
def Co{h d:Nat}{sep:Str}(g:GoodC h d (.many o cs))(hl:(Cq.many o cs).ws.length<=2000)(hs:sep.length<=10):((cs.map (Cq.lineIn (orW o))).map (·.length)).sum+(cs.map (Cq.lineIn (orW o))).length*sep.length<=16777216:=by
 cases g with
 | «at» ok=>cases ok
 |many h1 h2 g hd =>have a:=xO (o:=o) (cs:=cs) λc hc=>(g c hc).words.2;rw[Cq.ws]at hl;rw[Zd];have:cs.length*sep.length<=90*10:=Nat.mul_le_mul h2 hs;omega
def GoodC.parts{h d:Nat}(g:GoodC (h+1) d (.many o cs))(hl:(Cq.many o cs).ws.length<=2000):cs≠[]/\cs.length<=90/\∀c∈cs,(∃e,GoodC h e c)/\c.ws.length<=2000:=by
 cases g with
 | «at» ok=>cases ok
 |many h1 h2 g hd =>refine#[λz=>by rw[z]at h1;simp at h1,h2,λc hc=>#[#[_,g c hc],?_]];rw[Cq.ws]at hl;exact Zt xc (Zt (xN (o:=o) hc) hl)
def GoodC.manyLine{h d:Nat}(g:GoodC (h+1) d (.many o cs)):(Cq.many o cs).line=Str.join ((" ":Str)++orW o++(" ":Str)) (cs.map (Cq.lineIn (orW o))):=by
 have w:=g.words;cases g with
 | «at» ok=>cases ok
 |many h1 h2 g hd =>unfold Cq.line;rw[Cq.ws];exact vT (λz=>by rw[z]at h1;simp at h1) λc hc=>(g c hc).words.1
def FV(o:Bool):((" ":Str)++orW o++(" ":Str)).length<=10:=by cases o<;>decide +kernel
def GoodC.noPart{h d:Nat}(g:GoodC (h+1) d (.no c))(hl:(Cq.no c).ws.length<=2000):(∃e,GoodC h e c)/\c.ws.length<=2000/\(Cq.no c).line=("not ":Str)++c.lineIn bS:=by
 cases g with
 | «at» ok=>cases ok
 |no g hd =>
  refine#[#[_,g],?_,?_]
  ·rw[Cq.ws,Zl]at hl;have:=xc (b:=brk c bS) (ws:=c.ws);omega
  ·unfold Cq.line;rw[Cq.ws];exact Cv (qz g.words.1)
def GoodC.w6{h d:Nat}(g:GoodC h d (.w s)):s∈W6:=by
 cases g with
 | «at» ok=>cases ok;assumption
def GoodC.at'{h d:Nat}(g:GoodC h d c)(h1:c.mny=false)(h2:c.hd≠"not"):AtOk c:=by
 cases g with
 | «at» ok=>exact ok
 |no=>exact absurd rfl h2
 |many=>cases h1
def Gu:¬(V.str (orW false)=V.str "or"):=⋯
def Do(o:Bool):(" ":Str).length+(orW o).length<=sizeLine:=by cases o<;>decide +kernel
def Dp(o:Bool):((" ":Str)++orW o).length+(" ":Str).length<=sizeLine:=by cases o<;>decide +kernel
def Jn:¬(V.str bS=V.str "or"):=⋯
def Hf:¬(V.str bS=V.str "and"):=⋯
def Jk:¬(V.str "says" = V.str "beneath"):=⋯
abbrev vG:Stmt:=top 57
abbrev Gn:List Str:=["_law_condition","_law_word"]
def xC:FnScope Gn ["_law_condition"] (aj vG):= ~~~0
def Fb{k n:Nat}(hk:1<=k)(F:Fun K "_law_line" "_law_line" vG f fd)(Lj:↑Fn k "_law_inner" ["_law_condition","_law_around"] (spWW n))(dg:W.nsIn K cStatics "sys.int_max_str_digits" = some none)(K0:mg "str" = none)(a8:mg "len" = none):↑FnOk CX0 (k+1) f fd ["_law_condition"] (spWC (n+1)):=by
 exists xC
 exists[v,c,d,rfl,hc,g,hl,q],h;refine#[_,(b_c (ax (i:=1) xC.nd (ao au ↑0 af))
   (b_c (aC (t_w (oB (aq aD ↑1 ai) (jY (aq aD ↑1 ai)))) (b_1 (am (Ik (aw cW (aw cW ai ↑1) ai) (aQ (own:=["_law_part"]) (#[rfl,⋯,⋯,rfl,#[rfl,rfl,trivial]]:CompOk _ _ [1] ["_law_word"]) rfl (jC (ao au ↑0 af)) (λ_ _ _ _=>aA (i:=0) (show (["_law_part","_law_word"]:List Str).Nodup by decide)) (aF ⋯) (λ_ _ _ _=>bA) (λ_ _ _ _=>(aG Lj (hr.mono ∅) (q_a ↑0 (q_a ↑1 ah)))))))) b_0)
   (b_c (aC (aq aD ↑1 ai) (b_1 (am (aw cW ai (aG Lj (hr.mono ∅) (q_a (ao au ↑0 af) (q_a ↑1 ah)))))) b_0)
   (b_c (aC (aq aD (q_B bM a8 ZH (q_a ↑0 ah)) af) (b_1 (am ↑1)) b_0)
   (b_c (aC (aq aD ↑1 ai) (b_1 (am (aw cW (aw cW (aw cW ai (eZ (qm (K:=K) rfl rfl dg) K0 nC (q_a (ao au (ao au ↑0 af) af) ah))) ai) (eZ (qm (K:=K) rfl rfl dg) K0 nC (q_a (ao au (ao au ↑0 af) af) ah))))) b_0)
   (b_1 (am (aw cW (aw cW ↑1 ai) (eZ (qm (K:=K) rfl rfl dg) K0 nC (q_a (ao au ↑0 af) ah)))))))))),?_]
 exists[a,xs,rfl,e],hc.head;refine#[_,rfl,a,_,_,_,rfl,rfl,L6 e,at0,?_];have atom:AtOk c->∀{A B:Prop},B->if decide (V.str c.hd=V.str "or")=true then A else B:=λok _ _ hB=>aS (λz=>(jt ok).2.2.1 (by injection z)) hB
 have atom2:AtOk c->∀{A B:Prop},B->if decide (V.str c.hd=V.str "and")=true then A else B:=λok _ _ hB=>aS (λz=>(jt ok).2.2.2 (by injection z)) hB
 have atom3:AtOk c->∀{A B:Prop},B->if decide (V.str c.hd=V.str "not")=true then A else B:=λok _ _ hB=>aS (λz=>(jt ok).1 (by injection z)) hB
 cases hc with
 |@w _ s h =>have ok:AtOk (.w s):=.w g.w6;refine#[_,rfl,rfl,#[_,rfl,atom ok #[_,rfl,rfl,#[_,rfl,atom2 ok #[_,rfl,rfl,#[_,rfl,atom3 ok ?_]]]]]];exact#[_,rfl,a,_,rfl,.inr (L6 h),rfl,#[_,rfl,bc rfl #[_,rfl,q _ (Same.refl _)]]]
 |@num _ s m h =>
  have ok:AtOk (.num s m):=g.at' rfl (by cases g with|«at» ok=>exact(jt ok).1);refine#[_,rfl,rfl,#[_,rfl,atom ok #[_,rfl,rfl,#[_,rfl,atom2 ok #[_,rfl,rfl,#[_,rfl,atom3 ok ?_]]]]]];refine#[_,rfl,a,_,rfl,.inr (L6 h),rfl,#[_,rfl,aS (by show¬(V.int 2=V.int 1);decide) ?_]];cases ok with
  |num hs h0 h1 =>
  refine#[_,rfl,rfl,#[_,rfl,aS ?_ ?_]]
  ·rcases hs with rfl|rfl
   ·show¬(V.str "due" = V.str "beneath");decide +kernel
   ·show¬(V.str "depth" = V.str "beneath");decide +kernel
  have ls:s.length<=5:=by rcases hs with rfl|rfl<;>decide +kernel
  have:=h1.len;refine#[_,rfl,_,_,rfl,rfl,cK ?_,_,rfl,a,_,_,_,rfl,rfl,L6 h,at1,.int m rfl h1.big #[_,_,rfl,rfl,cK ?_,q _ (Same.refl _)]]
  ·show s.length+1<=_;omega
  ·rw[Yx];show s.length+1+_<=_;omega
 |@item _ b x y h h1 =>
  have ok:AtOk (.item x y):=g.at' rfl (by show¬(("beneath":Str)="not");decide +kernel);refine#[_,rfl,rfl,#[_,rfl,atom ok #[_,rfl,rfl,#[_,rfl,atom2 ok #[_,rfl,rfl,#[_,rfl,atom3 ok ?_]]]]]];refine#[_,rfl,a,_,rfl,.inr (L6 h),rfl,#[_,rfl,aS (by show¬(V.int 2=V.int 1);decide) ?_]];cases ok with
  |item h2 h3 h4 h5 =>
  have lx:=h4.len;have ly:=h5.len;have lb:("beneath ":Str).length=8:=⋯
  have ld:(".":Str).length=1:=rfl;refine#[_,rfl,rfl,#[_,rfl,bc rfl ?_]];refine#[_,rfl,a,_,_,_,rfl,rfl,L6 h,at1,b,_,_,_,rfl,rfl,L6 h1,at0,.int x rfl h4.big #[_,_,rfl,rfl,cK ∅,_,_,rfl,rfl,cK (by rw[Yx];omega),?_]];refine#[_,rfl,a,_,_,_,rfl,rfl,L6 h,at1,b,_,_,_,rfl,rfl,L6 h1,at1,.int y rfl h5.big #[_,_,rfl,rfl,cK (by rw[Yx,Yx];omega),?_]];have el:(Cq.item x y).line=("beneath ":Str)++aL x++"."++aL y:=by
   refine dO ?_;show(("beneath":Str)++(" ":Str)++fU x y).cps.toList=_;unfold fU;simp only[bf,ZO];have:("beneath ":Str).cps.toList=("beneath":Str).cps.toList++(" ":Str).cps.toList:=⋯
   rw[this,ZO]
  rw[el]at q;exact q _ (Same.refl _)
 |@says _ t h =>
  have ok:AtOk (.says t):=g.at' rfl (by show¬(("says":Str)="not");decide +kernel);refine#[_,rfl,rfl,#[_,rfl,atom ok #[_,rfl,rfl,#[_,rfl,atom2 ok #[_,rfl,rfl,#[_,rfl,atom3 ok ?_]]]]]];refine#[_,rfl,a,_,rfl,.inr (L6 h),rfl,#[_,rfl,aS (by show¬(V.int 2=V.int 1);decide) ?_]];cases ok with
  |says h2 h3 h4 =>
  refine#[_,rfl,rfl,#[_,rfl,aS Jk ?_]];refine#[_,rfl,_,_,rfl,rfl,(show("says":Str).length+(" ":Str).length<=sizeLine by decide),_,rfl,a,_,_,_,rfl,rfl,L6 h,at1,.str t rfl #[_,_,rfl,rfl,cK ?_,q _ (Same.refl _)]];have:(("says":Str)++(" ":Str)).length=5:=⋯
  show(("says":Str)++(" ":Str)).length+_<=_;omega
 |@no _ v c h h1 =>obtain⟨⟨e',g'⟩,hl',el⟩:=g.noPart hl;refine#[_,rfl,rfl,#[_,rfl,aS Jn #[_,rfl,rfl,#[_,rfl,aS Hf #[_,rfl,rfl,#[_,rfl,bc rfl ?_]]]]]];refine#[_,rfl,a,_,_,_,rfl,rfl,L6 h,at1,_,rfl,v,c,e',bS,rfl,h1,g',hl',λH1 s1=>?_];have:=g'.inLen (t:=bS) hl';rw[el]at q;exact#[_,_,rfl,rfl,cK (by show 4+_<=_;omega),q _ s1]
 |@many _ b o vs cs h h1 h2 =>
  exists[ne,l90,hp],g.parts hl;rw[g.manyLine]at q;have lv:=h2.len;have fit:=Co g hl (FV o);have lL:(cs.map (Cq.lineIn (orW o))).length=cs.length:=Zd _;have eL:∀i c,cs[i]?=some c->((cs.map (Cq.lineIn (orW o)))[i]?).getD ("":Str)=Cq.lineIn (orW o) c:=λi c ec=>by rw[Zq,ec];rfl
  generalize cs.map (Cq.lineIn (orW o))=L at q fit lL eL;refine#[_,rfl,rfl,#[_,rfl,?_]];cases o
  case' true=>refine bc rfl (aP ?_)
  case' false=>refine aS Gu #[_,rfl,rfl,#[_,rfl,bc rfl ?_]]
  case true|false =>
   refine#[_,rfl,_,_,rfl,rfl,Do _,_,_,rfl,rfl,Dp _,rfl,_,rfl,a,_,_,_,rfl,rfl,L6 h,at1,b,rfl,#[_,L6 h1],?_];refine nJ (λi=>.str ((L[i]?).getD ("":Str))) ∅ (L6 h1) (λi x H1 hi sm R k=>?_) (λp H1 sm hp'=>?_)
   ·exists[c,ec,hc],h2.get hi;obtain⟨⟨e',g'⟩,hl'⟩:=hp c (ZC ec);rw[eL i c ec]at k;exact#[_,rfl,_,rfl,x,c,e',_,rfl,hc.ts λa zs e=>sm _ _ e,g',hl',k]
   ·rw[show vs.length=L.length by rw[lL,lv],Dh];refine#[_,p,L,rfl,rfl,L7 ac,fit,?_];rw[tj];exact q _ (sm.trans (ad hp' _))
abbrev lC:Stmt:=top 51
abbrev zw:List Str:=["_law_script","_law_k"]
def yU:FnScope zw ["_law_script","_law_k"] (aj lC):= ~~~0
def yE(F:Fun K "_law_cell_at" "_law_cell_at" lC f fd)(a8:mg "len" = none):↑FnOk CX0 1 f fd ["_law_script","_law_k"] (Br K):=by
 exists yU
 exists[a,ns,k,rfl,hS,h0,q],h;refine#[_,(b_c (aC (aq jL ↑1 (q_B bM a8 ZH (q_a ↑0 ah))) (b_1 (am (ao aY ↑0 ↑1))) b_0)
   (b_1 (am af))),?_]
 refine#[_,rfl,_,rfl,a,_,rfl,.inl hS,_,_,rfl,rfl,_,rfl,?_];refine GS (λc=>?_) (λc=>?_)
 ·have c':k<((ns.map V.int).length:Int):=ZZ c;rw[Zd]at c';exact#[_,rfl,_,rfl,a,_,_,_,rfl,rfl,hS,BS h0 c',q]
 ·have c':¬k<((ns.map V.int).length:Int):=YJ (Y9.mpr c);rw[Zd]at c';rw[BY h0 c']at q;exact q
def eY(key:Str)(back:Bool):List Str:=if back ||!decide (key="place")then"by"::key::(if back then["back"]else[])else[]
abbrev xU:RR:=RM true (RM false (RO 13))
def Be{r:List Str}{key:Str}{back:Bool}(h:QTl r key back):r.headD ""≠"and"/\r.headD ""≠"or":=by cases h<;>(constructor<;>(simp only[List.headD_cons,List.headD_nil];decide +kernel))
def yl{h:Nat}{r:List Str}{key:Str}{back:Bool}(g:GoodC h 12 c)(t:QTl r key back):xU 0 (c.ws++r) c r :=
 (reads h 12 c g).2.2 13 0 r ⋯ ⋯ (Be t).1 (Be t).2
def C6{key:Str}(hk:key∈cS)(back:Bool):QTl (eY key back) key back:=by
 unfold eY;cases back with
 |true=>exact .back hk
 |false =>
  by_cases c:key="place"
  ·rw[c];exact .none
  ·rw[decide_eq_false c];exact .key hk
def F8{r:List Str}{key:Str}{back:Bool}(h:QTl r key back):∀x∈r,Wd x:=by
 have kw:∀k∈cS,k.length<=130/\32∉k.cps.toList:=⋯
 have b1:Wd "by":=#[⋯,⋯]
 have b2:Wd "back":=#[⋯,⋯]
 intro x hx;cases h with
 |none=>cases hx
 |key hk =>
  simp only[Zf,Zz,ZY]at hx;rcases hx with rfl|rfl
  ·exact b1
  ·exact kw _ hk
 |back hk =>
  simp only[Zf,Zz,ZY]at hx;rcases hx with rfl|rfl|rfl
  ·exact b1
  ·exact kw _ hk
  ·exact b2
def DB{r:List Str}{key:Str}{back:Bool}(h:QTl r key back):r.length<=3:=by cases h<;>simp
def Ef{ws:List Str}{r:List Str}{key:Str}{back:Bool}{Q:VK}(hT:T=Str.join aR ws)(ne:ws≠[])(wd:∀x∈ws,Wd x)(hl:ws.length<=500)(hr:xU 0 ws c r)(ht:QTl r key back)(q:∀a v H',Same H H'->H' a=some (.tup [v,.str key,.bl back])->CqAt H' v c->Q (.ref a) H'):spRQ xU [.str T] H Q E:=by have:=iX wd;exact#[ws,c,r,key,back,by rw[hT],ne,λx hx=>(wd x hx).2,∅,∅,hr,ht,q]
def Pt(ds:Nat->Nat):Nat->List Nat
 |0=>[0]
 |k+1=>(Pt ds k).take (ds (k+1))++[k+1]
def iF(ds:Nat->Nat)(n:Nat):Prop:=ds 0=0/\∀k,k+1<n->ds (k+1)<=ds k+1
theorem cX{n:Nat}(g:iF ds n):∀k,k<n->(Pt ds k).length=ds k+1
 |0,_=>by rw[g.1];rfl
 |k+1,h=>by have ih:=cX g k ∅;have:=g.2 k h;rw[Pt,Zi,ZD,ih,Z1];omega
def qK{n:Nat}(g:iF ds n)(k:Nat)(h:k<n):(Pt ds k)[ds k]?=some k:=by
 cases k with
 |zero=>rw[g.1];rfl
 |succ k =>have ih:=cX g k ∅;have:=g.2 k h;rw[Pt,ZF (by rw[ZD];omega),ZD,ih,Y8 ∅,YV];rfl
def vo{n:Nat}(g:iF ds n){k e:Nat}(h:k+1<n)(he:e<ds (k+1)):(Pt ds (k+1))[e]?=(Pt ds k)[e]?:=by have ih:=cX g k ∅;have:=g.2 k h;rw[Pt,ZS (by rw[ZD];omega),List.getElem?_take,LI he]
def FM{n:Nat}(g:iF ds n){k:Nat}(h:k+1<n):(Pt ds (k+1)).take (ds (k+1))=(Pt ds k).take (ds (k+1)):=by have ih:=cX g k ∅;have:=g.2 k h;rw[Pt,List.take_append_of_le_length (by rw[ZD];omega),List.take_take,Nat.min_self]
theorem pL{n:Nat}(g:iF ds n):∀(k e j:Nat),k<n->(Pt ds k)[e]?=some j->Pt ds j=(Pt ds k).take (e+1)
 |0,e,j,h,he=>by
  match e,he with
  |0,he=>cases he;rfl
  |e+1,he=>simp[Pt]at he
 |k+1,e,j,h,he=>by
  have l1:=cX g (k+1) h;have lt:e<(Pt ds (k+1)).length:=(Zm.mp he).1;by_cases c:e<ds (k+1)
  ·rw[vo g h c]at he;rw[pL g k e j ∅ he];have ih:=cX g k ∅;have:=g.2 k h;rw[Pt,List.take_append_of_le_length (by rw[ZD];omega),List.take_take,Y8 ∅]
  ·have:e=ds (k+1):=∅
   subst this;rw[qK g (k+1) h]at he;cases he;rw[YB ∅]
theorem sV:∀(k j:Nat),j∈Pt ds k->j<=k
 |0,j,h=>by simp[Pt]at h;omega
 |k+1,j,h=>by
  rw[Pt]at h;rcases ZE.mp h with h|h
  ·have:=sV k j (List.mem_of_mem_take h);omega
  ·have:j=k+1:=by simpa using h
   omega
def upN(ds:Nat->Nat)(k:Nat):Option Nat:=if ds k=0 then none else(Pt ds k)[ds k-1]?
def xL{n:Nat}(g:iF ds n){k:Nat}(h:k<n)(h0:ds k≠0):∃j,upN ds k=some j/\(Pt ds k)[ds k-1]?=some j/\j<k:=by
 have l:=cX g k h;unfold upN;rw[LH h0];refine#[(Pt ds k)[ds k-1]'∅,z9 ∅,z9 ∅,?_];cases k with
 |zero=>exact absurd g.1 h0
 |succ k =>have e:(Pt ds (k+1))[ds (k+1)-1]?=(Pt ds k)[ds (k+1)-1]?:=vo g h ∅;rw[z9 ∅]at e;have:=sV k _ (ZC e.symm);omega
def under(ds:Nat->Nat)(tops:Nat->Bool)(k:Nat):Bool:=((Pt ds k).take (ds k)).any tops
def iT(ds:Nat->Nat)(tops:Nat->Bool)(k:Nat):Option Nat:=(Pt ds k).findIdx? tops
theorem rB:∀(l:List Nat) (n:Nat),(l.take n).findIdx? p=match l.findIdx? p with
  |some a=>if a<n then some a else none
  |none=>none
 | [],n=>by simp
 |x::l,0=>by
  rw[List.take_zero,List.findIdx?_nil];cases List.findIdx? p (x::l)with
  |none=>rfl
  |some a=>simp
 |x::l,n+1=>by
  rw[List.take_succ_cons,List.findIdx?_cons,List.findIdx?_cons,rB l n];cases p x with
  |true=>simp
  |false =>
   cases List.findIdx? p l with
   |none=>simp
   |some a =>
    by_cases c:a<n
    ·simp[c]
    ·simp[c]
def find_some(l:List Nat):(l.findIdx? p).isSome=l.any p:=by
 induction l with
 |nil=>rfl
 |cons x l ih =>
  rw[List.findIdx?_cons,YQ];cases p x with
  |true=>rfl
  |false=>simpa using ih
def dU(ds:Nat->Nat)(tops:Nat->Bool):Nat->Option Nat
 |0=>none
 |k+1=>match iT ds tops k with
  |some a=>if a<ds (k+1)then some a else none
  |none=>none
def EV{n:Nat}(g:iF ds n){k:Nat}(h:k<n):(dU ds tops k).isSome=under ds tops k/\iT ds tops k=(if tops k=true/\dU ds tops k=none then some (ds k)else dU ds tops k):=by
 cases k with
 |zero =>
  refine#[by unfold under dU;rw[g.1];rfl,?_];unfold iT dU;rw[Pt,g.1];cases hT:tops 0 with
  |true=>simp[hT]
  |false=>simp[hT]
 |succ k =>
  have e:dU ds tops (k+1)=((Pt ds k).take (ds (k+1))).findIdx? tops:=by rw[rB];rfl
  refine#[by rw[e,find_some];unfold under;rw[FM g h],?_];have l:=cX g k ∅;have:=g.2 k h;rw[e];unfold iT;rw[Pt,List.findIdx?_append];cases hf:((Pt ds k).take (ds (k+1))).findIdx? tops with
  |some a=>simp
  |none =>
   cases hT:tops (k+1)with
   |true=>simp[hT,l];omega
   |false=>simp[hT]
theorem xn{n:Nat}(g:iF ds n){k:Nat}:∀m,k+1<=m->m<n->ds (k+1)<=ds k->k∉Pt ds m
 |0,h,_,_=>∅
 |m+1,h,hm,hd=>by
  rw[Pt];by_cases c:k=m
  ·subst c;intro z;rcases ZE.mp z with z|z
   ·exists[e,he],List.getElem?_of_mem z;rw[List.getElem?_take]at he;by_cases c2:e<ds (k+1)
    ·rw[LI c2]at he;have h1:=pL g k e k ∅ he;have h2:=ZN List.length h1;rw[ZD,cX g k ∅]at h2;omega
    ·rw[LH c2]at he;cases he
   ·have:k=k+1:=by simpa using z
    omega
  ·have ih:=xn g m ∅ ∅ hd;intro z;rcases ZE.mp z with z|z
   ·exact ih (List.mem_of_mem_take z)
   ·have:k=m+1:=by simpa using z
    omega
def EY{n:Nat}(g:iF ds n){k:Nat}(hk:k<n):(∀m,m<n->upN ds m≠some k)↔(k+1=n\/ds (k+1)<=ds k):=by
 constructor
 ·intro h;by_cases c:k+1=n
  ·exact .inl c
  ·refine .inr (Nat.le_of_not_lt λd=>h (k+1) ∅ ?_);have:=g.2 k ∅;unfold upN;rw[LH ∅,vo g ∅ ∅,show ds (k+1)-1=ds k by omega];exact qK g k hk
 ·rintro h m hm e;unfold upN at e;by_cases c:ds m=0
  ·rw[LI c]at e;cases e
  ·rw[LH c]at e;have mem:=ZC e;have le:=sV m k mem;have pre:=pL g m _ k hm e;have len:=ZN List.length pre;rw[ZD,cX g m hm,cX g k hk]at len;have ne:k≠m:=λz=>by subst z;omega
   rcases h with h|h
   ·omega
   ·exact xn g m ∅ hm h mem
structure Rw where
 d:Nat
 h:Int
 n:Int
 t:Str
 b:Bool
 w:Option Int
 f:Bool
def whV:Option Int->V
 |none=>.non
 |some i=>.int i
def oo:Option Nat->V
 |none=>.non
 |some i=>.int (i:Int)
def CI(o:Option Nat):(!decide (oo o=V.non))=o.isSome:=by
 cases o with
 |none=>rfl
 |some i=>rfl
def RRR(H:Hp)(a:LN)(r:Rw):Prop:=∃p,H a=some (.tup [.int (r.d:Int),.ref p,.str r.t,.bl r.b,whV r.w,.bl r.f])/\H p=some (.tup ([r.h,r.n].map V.int))/\PyData.strOk r.t=true
abbrev LT:=List (LN×Rw)
def aH{α:Type}(L:List (LN×α)):Md:=L.map λx=>V.ref x.1
def vals{α:Type}(L:List (LN×α)):List α:=L.map Prod.snd
def aB{α:Type}(L:List (LN×α)):(aH L).length=L.length:=Zd ..
def eU{α:Type}(L:List (LN×α)):(vals L).length=L.length:=Zd ..
def R0:Rw:=#[0,0,0,"",false,none,false]
def ay(L:LT)(k:Nat):Rw:=((L[k]?).getD (0,R0)).2
def be(L:LT)(k:Nat):LN:=((L[k]?).getD (0,R0)).1
def dep(L:LT)(k:Nat):Nat:=(ay L k).d
def LR(H:Hp)(l:LN)(L:LT):Prop:=H l=some (.lst (aH L))/\∀x∈L,RRR H x.1 x.2
def Ga{H:Hp}(hp:H p=some (.lst xs))(ha:H a=some (.tup zs)):upd H p (.lst ys) a=some (.tup zs):=by rw[ag (λz=>by rw[z,hp]at ha;cases ha)];exact ha
def TS(H H':Hp):Prop:=∀a zs,H a=some (.tup zs)->H' a=some (.tup zs)
def L5(e:Same H H'):TS H H':=λa zs h=>e a _ h
def IL{H:Hp}(hp:H p=some (.lst xs)):TS H (upd H p (.lst ys)):=λa zs h=>Ga hp h
def RRR.ts{r:Rw}(x:RRR H a r)(e:TS H H'):RRR H' a r:=by exists[p,h1,h2,h3],x;exact#[p,e _ _ h1,e _ _ h2,h3]
def LR.same(x:LR H l L)(e:Same H H'):LR H' l L:=#[e _ _ x.1,λy hy=>(x.2 y hy).ts (L5 e)]
def LR.at(x:LR H l L){k:Nat}(h:k<L.length):RRR H (be L k) (ay L k):=by unfold be ay;rw[z9 h];exact x.2 _ (ZG h)
def lW{L:LT}{k:Nat}(h:k<L.length):atI (aH L) (k:Int)=some (.ref (be L k)):=cU (by unfold aH be;rw[Zq,z9 h];rfl)
def dN{k:Nat}(h:(aH L)[k]?=some x):k<L.length/\x=.ref (be L k):=by
 have hk:k<L.length:=by have:=(Zm.mp h).1;rw[aB]at this;exact this
 refine#[hk,?_];unfold aH at h;rw[Zq,z9 hk]at h;unfold be;rw[z9 hk];exact(ZB h).symm
inductive Cd where
 |all|done|folded|free|leaf|seen
 |due (i:Int)
 |depth (i:Int)
 |beneath (h n:Int)
 |says (s:Str)
def iE:Cd->Str
 |.all=>"all" |.done=>"done" |.folded=>"folded" |.free=>"free" |.leaf=>"leaf" |.seen=>"seen"
 |.due _=>"due" |.depth _=>"depth" |.beneath _ _=>"beneath" |.says _=>"says"
def CR(H:Hp)(a:LN):Cd->Prop
 |.due i=>H a=some (.tup [.str "due",.int i])
 |.depth i=>H a=some (.tup [.str "depth",.int i])
 |.beneath h n=>∃p,H a=some (.tup [.str "beneath",.ref p])/\H p=some (.tup ([h,n].map V.int))
 |.says s=>H a=some (.tup [.str "says",.str s])
 |c=>H a=some (.tup [.str (iE c)])
def CR.ts(x:CR H a c)(e:TS H H'):CR H' a c:=by
 cases c with
 |beneath h n =>exists[p,h1,h2],x;exact#[p,e _ _ h1,e _ _ h2]
 |_=>exact e _ _ x
def CR.head(x:CR H a c):∃r,H a=some (.tup (.str (iE c)::r)):=by
 cases c with
 |beneath h n =>exists[p,h1,h2],x;exact#[_,h1]
 |_=>exact#[_,x]
def occ(s t:Str):Bool:=!(Builtin.Str.occurrences t s 0 t.length 1).isEmpty
def tU(c:Cd)(r:Rw):Bool:=match c with
 |.done=>r.b
 |.folded=>r.f
 |.free=>decide (whV r.w=V.non)
 |.due i=>decide (whV r.w=V.int i)
 |.depth i=>decide ((r.d:Int)<=i)
 |.says s=>occ s r.t
 |_=>true
def iW:Cd->Bool
 |.leaf=>false|.seen=>false|.beneath _ _=>false
 |_=>true
def nmB(L:LT)(h n:Int)(k:Nat):Bool:=decide ([(ay L k).h,(ay L k).n]=[h,n])
def jI(L:LT)(k:Nat):Bool:=decide (k+1=L.length\/dep L (k+1)<=dep L k)
def nO(L:LT)(c:Cd)(k:Nat):Bool:=match c with
 |.leaf=>jI L k
 |.seen=>!under (dep L) (λj=>(ay L j).f) k
 |.beneath h n=>under (dep L) (nmB L h n) k
 |c=>tU c (ay L k)
def rC{k:Nat}(h:iW c=true):nO L c k=tU c (ay L k):=by cases c<;>first|rfl|cases h
def tW(h:iW c=true):V.str (iE c)≠V.str "or"/\V.str (iE c)≠V.str "and"/\V.str (iE c)≠V.str "not"/\V.str (iE c)≠V.str "leaf"/\V.str (iE c)≠V.str "beneath"/\V.str (iE c)≠V.str "seen":=by
 cases c with
 |leaf=>cases h
 |seen=>cases h
 |beneath h' n=>cases h
 |all=>exact(by decide:V.str "all"≠V.str "or"/\V.str "all"≠V.str "and"/\V.str "all"≠V.str "not"/\V.str "all"≠V.str "leaf"/\V.str "all"≠V.str "beneath"/\V.str "all"≠V.str "seen")
 |done=>exact(by decide:V.str "done"≠V.str "or"/\V.str "done"≠V.str "and"/\V.str "done"≠V.str "not"/\V.str "done"≠V.str "leaf"/\V.str "done"≠V.str "beneath"/\V.str "done"≠V.str "seen")
 |folded=>exact(by decide:V.str "folded"≠V.str "or"/\V.str "folded"≠V.str "and"/\V.str "folded"≠V.str "not"/\V.str "folded"≠V.str "leaf"/\V.str "folded"≠V.str "beneath"/\V.str "folded"≠V.str "seen")
 |free=>exact(by decide:V.str "free"≠V.str "or"/\V.str "free"≠V.str "and"/\V.str "free"≠V.str "not"/\V.str "free"≠V.str "leaf"/\V.str "free"≠V.str "beneath"/\V.str "free"≠V.str "seen")
 |due i=>exact(by decide:V.str "due"≠V.str "or"/\V.str "due"≠V.str "and"/\V.str "due"≠V.str "not"/\V.str "due"≠V.str "leaf"/\V.str "due"≠V.str "beneath"/\V.str "due"≠V.str "seen")
 |depth i=>exact(by decide:V.str "depth"≠V.str "or"/\V.str "depth"≠V.str "and"/\V.str "depth"≠V.str "not"/\V.str "depth"≠V.str "leaf"/\V.str "depth"≠V.str "beneath"/\V.str "depth"≠V.str "seen")
 |says s=>exact(by decide:V.str "says"≠V.str "or"/\V.str "says"≠V.str "and"/\V.str "says"≠V.str "not"/\V.str "says"≠V.str "leaf"/\V.str "says"≠V.str "beneath"/\V.str "says"≠V.str "seen")
def whD:Option Int->PyData
 |none=>.none
 |some i=>.int i
def rwD(r:Rw):PyData:=.tuple [.int (r.d:Int),.tuple [.int r.h,.int r.n],.str r.t,.bool r.b,whD r.w,.bool r.f]
def IR(w:Option Int):Dt H (whD w) (whV w):=by
 cases w with
 |none=>simp only[whD,whV,Dt]
 |some i=>simp only[whD,whV,Dt]
def RRR.dt{r:Rw}(x:RRR H a r):Dt H (rwD r) (.ref a):=by exists[p,h1,h2,_],x;have dw:=IR (H:=H) r.w;unfold rwD;simp only[Dt,DtAll];exact#[a,_,rfl,.inl h1,_,_,rfl,rfl,_,_,rfl,#[p,_,rfl,.inl h2,_,_,rfl,rfl,_,_,rfl,rfl,rfl],_,_,rfl,rfl,_,_,rfl,rfl,_,_,rfl,dw,_,_,rfl,rfl,rfl]
theorem ma:∀{L:LT},(∀x∈L,RRR H x.1 x.2)->DtAll H ((vals L).map rwD) (aH L)
 | [],_=>by simp[DtAll,vals,aH]
 |x::L,h=>by show DtAll H (rwD x.2::(vals L).map rwD) (V.ref x.1::aH L);simp only[DtAll];exact#[_,_,rfl,(h x (by simp)).dt,ma λy hy=>h y (by simp[hy])]
def LR.dt(x:LR H l L):Dt H (.list ((vals L).map rwD)) (.ref l):=by simp only[Dt];exact#[l,_,rfl,.inl x.1,ma x.2]
def uQ{r:Rw}(h:PyData.strOk r.t=true):(rwD r).canLay0=true/\(rwD r).depth=2:=by
 cases e:r.w with
 |none=>exact#[by simp[rwD,whD,e,PyData.canLay0,PyData.canLayAll0,h],by simp[rwD,whD,e,PyData.depth,PyData.depthAll]]
 |some i=>exact#[by simp[rwD,whD,e,PyData.canLay0,PyData.canLayAll0,h],by simp[rwD,whD,e,PyData.depth,PyData.depthAll]]
theorem iZ:∀{L:List Rw},(∀r∈L,PyData.strOk r.t=true)->PyData.canLayAll0 (L.map rwD)=true/\PyData.depthAll (L.map rwD)<=3
 | [],_=>#[rfl,by simp[PyData.depthAll]]
 |x::L,h=>by exists[h1,h2],iZ (L:=L) λr hr=>h r (by simp[hr]);exists[h3,h4],uQ (h x (by simp));simp only[Zs,PyData.canLayAll0,PyData.depthAll,h1,h3];exact#[rfl,∅]
def LR.ok(x:LR H l L):∀r∈vals L,PyData.strOk r.t=true:=λr hr=>by exists[y,hy,rfl],Zw.mp hr;exists[_,_,_,h3],x.2 y hy;exact h3
def pS{L:List Rw}(h:∀r∈L,PyData.strOk r.t=true):SeqAt.shaped (.list (L.map rwD))=true:=by exists[h1,h2],iZ h;unfold SeqAt.shaped;rw[ZK];refine#[by simpa[PyData.canLay0]using h1,decide_eq_true ?_];simp only[PyData.depth];omega
def EJ{L:List Rw}(h:∀r∈L,PyData.strOk r.t=true):PyData.eqv (.list (L.map rwD)) (.list (L.map rwD))=true:=SeqAt.eqv_refl _ (by simpa[PyData.canLay0]using(iZ h).1)
def bls(n:Nat)(f:Nat->Bool):Md:=(List.range n).map λk=>V.bl (f k)
def cE(n:Nat)(f:Nat->Bool):(bls n f).length=n:=by unfold bls;rw[Zd,List.length_range]
def iU{n k:Nat}(h:k<n):(bls n f)[k]?=some (.bl (f k)):=by unfold bls;rw[Zq,List.getElem?_range h];rfl
def BU(n:Nat)(f:Nat->Bool):bls (n+1) f=bls n f++[.bl (f n)]:=by unfold bls;rw[List.range_succ,ZU];rfl
def Gd(L:LT):Prop:=iF (dep L) L.length
def vO:Sp:=λvs H Q _=>∃(l:LN) (L:LT) (k:Nat),vs=[.ref l,.int (k:Int)]/\LR H l L/\k<L.length/\Q (.bl (jI L k)) H
def qY:Sp:=λvs H Q _=>∃(t l:LN) (L:LT) (tops:Nat->Bool),vs=[.ref t,.ref l]/\LR H l L/\L.length<=63/\Gd L/\H t=some (.lst (bls L.length tops))/\∀p H',H p=none->Same H H'->H' p=some (.lst (bls L.length (under (dep L) tops)))->Q (.ref p) H'
def qW:Sp:=λvs H Q _=>∃(c a:LN) (cd:Cd) (r:Rw),vs=[.ref c,.ref a]/\CR H c cd/\iW cd=true/\RRR H a r/\Q (.bl (tU cd r)) H
abbrev lF:Stmt:=top 10
abbrev zE:List Str:=["rows","at"]
def yV:FnScope zE ["rows","at"] (aj lF):= ~~~0
def yG(F:Fun K "is_leaf" "is_leaf" lF f fd)(a8:mg "len" = none)(c8:mg "DEPTH" = some (.int 0 tkD)):↑FnOk CX0 1 f fd ["rows","at"] vO:=by
 exists yV
 exists[l,L,k,rfl,hL,hk,q],h;refine#[_,(b_1 (am (yN (aM aD (aw eX ↑1 af) (q_B bM a8 ZH (q_a ↑0 ah))) (fe (aM kT (ao au (ao aY ↑0 (aw eX ↑1 af)) (bV c8)) (ao au (ao aY ↑0 ↑1) (bV c8))))))),?_];refine#[_,rfl,_,_,rfl,rfl,_,rfl,l,_,rfl,.inl (L7 hL.1),rfl,_,rfl,?_];unfold jI at q;by_cases c:k+1=L.length
 ·rw[decide_eq_true (.inl c)]at q;exact bc (by rw[aB,<-c];rfl) q
 ·refine aS (λz=>by injection z with z;rw[aB]at z;omega) ?_;have hk1:k+1<L.length:=∅
  exists[p1,e1,_],hL.at hk1;exists[p2,e2,_],hL.at hk;refine#[_,rfl,_,rfl,_,_,rfl,rfl,l,_,_,_,rfl,rfl,L7 hL.1,(show atI (aH L) ((k:Int)+1)=_ by rw[show((k:Int)+1)=((k+1:Nat):Int) by omega];exact lW hk1),be L (k+1),_,_,_,rfl,rfl,L6 e1,at0,_,rfl,_,rfl,l,_,_,_,rfl,rfl,L7 hL.1,lW hk,be L k,_,_,_,rfl,rfl,L6 e2,at0,_,_,rfl,rfl,?_];have eb:decide (((ay L (k+1)).d:Int)<=((ay L k).d:Int))=decide (k+1=L.length\/dep L (k+1)<=dep L k):=by rw[Z3,Z6,Z6];unfold dep;omega
  rw[<-eb]at q;exact q
def sU(ds:Nat->Nat)(tops:Nat->Bool):Nat->Option Nat
 |0=>none
 |k+1=>iT ds tops k
def Av(ds:Nat->Nat)(tops:Nat->Bool)(k:Nat):dU ds tops k=match sU ds tops k with
  |some a=>if a<ds k then some a else none
  |none=>none:=by
 cases k with
 |zero=>rfl
 |succ k=>rfl
abbrev dE:Stmt:=top 11
abbrev mW:List Str:=["tops","rows","truths","above","row","is_top"]
def cH:FnScope mW ["tops","rows"] (aj dE):= ~~~0
section
variable{A:LV}{s:LO}
def F9(hr:Room 0 (A.deeper (envOfC "are_under" (aj dE) s.heap.objs.size f cdv)))(c8:mg "DEPTH" = some (.int 0 tkD)):∃t,QB (fq CX0 P w K mg base mW "are_under" (aj dE) f cdv A outer s H E).nox ((Gw ((bK dE).getD 2 (.Pass #[0,0,0,0]))).drop 1) t /\
   ∀(D:Ends) (H0:Hp) (x0 x1:Option V) (p a:LN) (r:Rw) (tb:Bool) (o:Option Nat) (bs:Md) (H2:Hp),Same H0 H2->H0 p=none->H2 p=some (.lst bs)->bs.length<=63->RRR H2 a r ->
    (∀H3,Same H0 H3->H3 p=some (.lst (bs++[.bl o.isSome]))->D.nx [x0,x1,some (.ref p),some (oo (if tb=true/\o=none then some r.d else o)),some (.ref a),some (.bl tb)] H3) ->
    t D [x0,x1,some (.ref p),some (oo o),some (.ref a),some (.bl tb)] H2:=by
 refine#[_,(b_c (bC (mJ ↑2 (aM kW ↑3 cM)))
   (b_1 (aC (t_w (cA (cc ↑5) (bY (aq mF ↑3 cM)))) (b_1 (ax (i:=3) cH.nd (ao au ↑4 (bV c8)))) b_0))),?_]
 intro D H0 x0 x1 p a r tb o bs H2 sm np ep zb hrow nx;refine#[_,rfl,.inl #[rfl,_,L7 ep],_,rfl,rfl,p,_,_,rfl,rfl,ep,cD ∅,?_];rw[CI];have S3:=fi (o:=.lst (bs++[.bl o.isSome])) sm np;have e3:upd H2 p (.lst (bs++[.bl o.isSome])) p=some (.lst (bs++[.bl o.isSome])):=ac;exists[q1,e1,_],hrow.ts (IL (ys:=bs++[.bl o.isSome]) ep);generalize upd H2 p (.lst (bs++[.bl o.isSome]))=H3 at S3 e3 e1 ⊢;have fin:=nx H3 S3 e3;refine#[_,rfl,_,rfl,?_];cases tb with
 |false =>rw[LH (λz=>by cases z.1)]at fin;exact aJ fin
 |true =>
  refine aP ?_;cases o with
  |some i =>rw[LH (λz=>by cases z.2)]at fin;exact#[_,rfl,rfl,_,rfl,aS nofun fin]
  |none =>rw[LI #[rfl,rfl]]at fin;exact#[_,rfl,rfl,_,rfl,bc rfl #[_,rfl,a,_,_,_,rfl,rfl,L6 e1,at0,fin]]
end
def vc(F:Fun K "are_under" "are_under" dE f fd)(u6:mg "zip" = none)(c8:mg "DEPTH" = some (.int 0 tkD)):↑FnOk CX0 1 f fd ["tops","rows"] qY:=by
 exists cH
 exists[t,l,L,tops,rfl,hL,hz,gd,ht,q],h;exists[tl,htl,hb],F9 (P:=P) (w:=w) (K:=K) (mg:=mg) (base:=base) (outer:=outer) (s:=s) (H:=H) (E:=E) hr c8;refine#[_,(b_c (ax (i:=2) cH.nd (bv ah))
   (b_c (ax (i:=3) cH.nd cM)
   (b_c (jS Yp rfl (Ao u6 (q_a ↑1 (q_a ↑0 ah))) (iu rfl (cF (aA (i:=4) cH.nd) (cF (aA (i:=5) cH.nd) iG))) (b_c (aC (t_w (cA (aq kW ↑3 cM) (bY (aq kT (ao au ↑4 (bV c8)) ↑3)))) (b_1 (ax (i:=3) cH.nd cM)) b_0)
   htl))
   (b_1 (am ↑2))))),?_]
 refine#[sz rfl,λp g=>?_];have w1:=ad g (.lst []);refine#[_,rfl,_,rfl,l,t,_,_,rfl,L7 (w1 _ _ hL.1),L7 (w1 _ _ ht),by rw[aB,cE],?_];refine B6 (K:=K) (a:=l) (b:=t) (xs:=aH L) (ys:=bls L.length tops) (λk σ H'=>Same H H'/\H' p=some (.lst (bls k (under (dep L) tops)))/\∃o4 o5,σ=[some (.ref t),some (.ref l),some (.ref p),some (oo (sU (dep L) tops k)),o4,o5]) #[w1,ac,none,none,rfl] (λi σ H' _ z=>L7 (z.1 _ _ hL.1)) (λi σ H' _ z=>L7 (z.1 _ _ ht)) (by rw[aB,cE]) ?_ ?_
 ·rintro k x y σ H' hx hy ⟨sm,ep,o4,o5,rfl⟩ T hT;exists[hk,rfl],dN hx;rw[iU hk]at hy;cases hy;have wT:=ad hT (.tup [.ref (be L k),.bl (tops k)]);have sm1:=sm.trans wT;have ep1:=wT _ _ ep;have hrow:=(hL.at hk).ts (L5 sm1);generalize upd H' T (.tup [.ref (be L k),.bl (tops k)])=H2 at sm1 ep1 hrow ⊢;exists[pn,e1,_],id hrow;exists[ki1,ki2],EV gd (tops:=tops) hk;have kp:=Av (dep L) tops k;have fin:=fun(D:Ends)=>hb D H (some (.ref t)) (some (.ref l)) p (be L k) (ay L k) (tops k) (dU (dep L) tops k) (bls k (under (dep L) tops)) H2 sm1 g ep1 (by rw[cE];omega) hrow;have last:∀H3,Same H H3->H3 p=some (.lst (bls k (under (dep L) tops)++[.bl (dU (dep L) tops k).isSome]))->Same H H3/\H3 p=some (.lst (bls (k+1) (under (dep L) tops)))/\∃o4 o5,[some (V.ref t),some (.ref l),some (.ref p),some (oo (if tops k=true/\dU (dep L) tops k=none then some (ay L k).d else dU (dep L) tops k)),some (.ref (be L k)),some (.bl (tops k))]=[some (.ref t),some (.ref l),some (.ref p),some (oo (sU (dep L) tops (k+1))),o4,o5]:=λH3 s3 e3=>#[s3,by rw[BU,<-ki1];exact e3,_,_,by show _=[some (.ref t),some (.ref l),some (.ref p),some (oo (iT (dep L) tops k)),_,_];rw[ki2];rfl]
  cases hp:sU (dep L) tops k with
  |none =>rw[hp]at kp;rw[kp]at fin last;exact#[_,rfl,rfl,_,rfl,aJ (fin _ last)]
  |some i =>
   rw[hp]at kp;refine#[_,rfl,rfl,_,rfl,aP ?_];refine#[_,rfl,be L k,_,_,_,rfl,rfl,L6 e1,at0,_,rfl,_,_,rfl,rfl,_,rfl,bp (λc=>?_) (λc=>?_)]
   ·have c':¬i<dep L k:=by unfold dep;omega
    have kp':dU (dep L) tops k=none:=kp.trans (LH c');rw[kp']at fin last;exact fin _ last
   ·have c':i<dep L k:=by unfold dep;omega
    have kp':dU (dep L) tops k=some i:=kp.trans (LI c');rw[kp']at fin last;exact fin _ last
 ·rintro σ H' ⟨sm,ep,o4,o5,rfl⟩;rw[aB]at ep;exact#[_,rfl,q p H' g sm ep]
abbrev hV:Stmt:=top 12
abbrev tL:List Str:=["condition","row","word"]
def kg:FnScope tL ["condition","row"] (aj hV):= ~~~0
def sv(F:Fun K "fits_alone" "fits_alone" hV f fd)(c8:mg "DEPTH" = some (.int 0 tkD))(d6:mg "TEXT_answers" = some (.int 2 tkT))(Lb:mg "DONE" = some (.int 3 tkO))(l7:mg "WHOM" = some (.int 4 tkW))(j3:mg "FOLDED" = some (.int 5 tkF)):↑FnOk CX0 1 f fd ["condition","row"] qW:=by
 exists kg
 exists[c,a,cd,r,rfl,hc,al,hrow,q],h;exists[p,e1,e2,_],hrow;refine#[_,(b_c (ax (i:=2) kg.nd (ao au ↑0 af))
   (b_c (aC (aq aD ↑2 ai) (b_1 (am (ao au ↑1 (bV Lb)))) b_0)
   (b_c (aC (aq aD ↑2 ai) (b_1 (am (ao au ↑1 (bV j3)))) b_0)
   (b_c (aC (aq aD ↑2 ai) (b_1 (am (aM mF (ao au ↑1 (bV l7)) cM))) b_0)
   (b_c (aC (aq aD ↑2 ai) (b_1 (am (aM aD (ao au ↑1 (bV l7)) (ao au ↑0 af)))) b_0)
   (b_c (aC (aq aD ↑2 ai) (b_1 (am (aM kT (ao au ↑1 (bV c8)) (ao au ↑0 af)))) b_0)
   (b_c (aC (aq aD ↑2 ai) (b_1 (am (aM yC (ao au ↑0 af) (ao au ↑1 (bV d6))))) b_0)
   (b_1 (am fK))))))))),?_]
 exists[rest,eh],hc.head;refine#[_,rfl,c,_,_,_,rfl,rfl,L6 eh,at0,?_];have ne:∀{A B:Prop} (x y:Str),decide (V.str x=V.str y)=false->B->(if decide (V.str x=V.str y)=true then A else B):=fun{A B} x y h hB=>by rw[h];exact aJ hB
 cases cd with
 |leaf=>cases al
 |seen=>cases al
 |beneath h' n=>cases al
 |done=>exact#[_,rfl,rfl,_,rfl,bc rfl #[_,rfl,a,_,_,_,rfl,rfl,L6 e1,rfl,q]]
 |folded=>exact#[_,rfl,rfl,_,rfl,ne _ _ ⋯ #[_,rfl,rfl,_,rfl,bc rfl #[_,rfl,a,_,_,_,rfl,rfl,L6 e1,rfl,q]]]
 |free=>exact#[_,rfl,rfl,_,rfl,ne _ _ ⋯ #[_,rfl,rfl,_,rfl,ne _ _ ⋯ #[_,rfl,rfl,_,rfl,bc rfl #[_,rfl,a,_,_,_,rfl,rfl,L6 e1,rfl,rfl,q]]]]
 |due i =>
  have hc':H c=some (.tup [.str "due",.int i]):=hc;have sc:yW (whV r.w) (.int i)=true:=by cases r.w<;>rfl
  exact#[_,rfl,rfl,_,rfl,ne "due" _ ⋯ #[_,rfl,rfl,_,rfl,ne "due" _ ⋯ #[_,rfl,rfl,_,rfl,ne "due" _ ⋯ #[_,rfl,rfl,_,rfl,bc rfl #[_,rfl,a,_,_,_,rfl,rfl,L6 e1,rfl,_,rfl,c,_,_,_,rfl,rfl,L6 hc',rfl,sc,q]]]]]
 |depth i =>have hc':H c=some (.tup [.str "depth",.int i]):=hc;exact#[_,rfl,rfl,_,rfl,ne "depth" _ ⋯ #[_,rfl,rfl,_,rfl,ne "depth" _ ⋯ #[_,rfl,rfl,_,rfl,ne "depth" _ ⋯ #[_,rfl,rfl,_,rfl,ne "depth" _ ⋯ #[_,rfl,rfl,_,rfl,bc rfl #[_,rfl,a,_,_,_,rfl,rfl,L6 e1,rfl,_,rfl,c,_,_,_,rfl,rfl,L6 hc',rfl,_,_,rfl,rfl,q]]]]]]
 |says z =>have hc':H c=some (.tup [.str "says",.str z]):=hc;exact#[_,rfl,rfl,_,rfl,ne "says" _ ⋯ #[_,rfl,rfl,_,rfl,ne "says" _ ⋯ #[_,rfl,rfl,_,rfl,ne "says" _ ⋯ #[_,rfl,rfl,_,rfl,ne "says" _ ⋯ #[_,rfl,rfl,_,rfl,ne "says" _ ⋯ #[_,rfl,rfl,_,rfl,bc rfl #[_,rfl,c,_,_,_,rfl,rfl,L6 hc',rfl,_,rfl,a,_,_,_,rfl,rfl,L6 e1,rfl,_,_,rfl,rfl,q]]]]]]]
 |all=>exact#[_,rfl,rfl,_,rfl,ne _ _ ⋯ #[_,rfl,rfl,_,rfl,ne _ _ ⋯ #[_,rfl,rfl,_,rfl,ne _ _ ⋯ #[_,rfl,rfl,_,rfl,ne _ _ ⋯ #[_,rfl,rfl,_,rfl,ne _ _ ⋯ #[_,rfl,rfl,_,rfl,ne _ _ ⋯ q]]]]]]
def qX:Sp:=λ_ _ _ _=>False
def IW(w:Bool):Str:=if w then"and" else"or"
abbrev GL:=List (LN×(Nat->Bool))
def uy(bs:List (Nat->Bool))(k:Nat):Bool:=bs.all λg=>g k
def uA(bs:List (Nat->Bool))(k:Nat):Bool:=bs.any λg=>g k
def gOf(w:Bool)(bs:List (Nat->Bool)):Nat->Bool:=if w then uy bs else uA bs
def CF(L:LT):Nat->Hp->LN->(Nat->Bool)->Prop
 |0,H,a,g=>∃cd,CR H a cd/\g=nO L cd
 |n+1,H,a,g=>(∃cd,CR H a cd/\g=nO L cd)\/(∃b g',H a=some (.tup [.str "not",.ref b])/\CF L n H b g'/\g=λk=>!g' k) \/
   ∃(w:Bool) (p:LN) (bs:GL),H a=some (.tup [.str (IW w),.ref p])/\H p=some (.tup (aH bs))/\bs.length<=90/\(∀x∈bs,CF L n H x.1 x.2)/\g=gOf w (vals bs)
def CF.ts:∀{n:Nat} {H H':Hp} {a:LN} {g:Nat->Bool},CF L n H a g->TS H H'->CF L n H' a g
 |0,_,_,_,_,⟨cd,h1,h2⟩,e=>#[cd,h1.ts e,h2]
 |n+1,_,_,_,_,.inl ⟨cd,h1,h2⟩,e=>.inl #[cd,h1.ts e,h2]
 |n+1,_,_,_,_,.inr (.inl ⟨b,g',h1,h2,h3⟩),e=>.inr (.inl #[b,g',e _ _ h1,h2.ts e,h3])
 |n+1,_,_,_,_,.inr (.inr ⟨w,p,bs,h1,h2,h3,h4,h5⟩),e=>.inr (.inr #[w,p,bs,e _ _ h1,e _ _ h2,h3,λx hx=>(h4 x hx).ts e,h5])
def QL(H:Hp)(p:LN)(n:Nat)(gs:List (Nat->Bool)):Prop:=∃qs:List LN,H p=some (.lst (qs.map V.ref))/\qs.length=gs.length/\∀(j:Nat) (q:LN) (g:Nat->Bool),qs[j]?=some q->gs[j]?=some g->H q=some (.lst (bls n g))
def QL.same{n:Nat}{gs:List (Nat->Bool)}(x:QL H p n gs)(e:Same H H'):QL H' p n gs:=by exists[qs,h1,h2,h3],x;exact#[qs,e _ _ h1,h2,λj q g a b=>e _ _ (h3 j q g a b)]
def pX(n:Nat):Sp:=λvs H Q _=>∃(c l:LN) (L:LT) (g:Nat->Bool),vs=[.ref c,.ref l]/\CF L n H c g/\LR H l L/\L.length<=63/\Gd L/\∀p H',Same H H'->H' p=some (.lst (bls L.length g))->Q (.ref p) H'
def Dr:Sp:=λvs H Q _=>∃(p:LN) (n k:Nat) (gs:List (Nat->Bool)),vs=[.ref p,.int (k:Int)]/\QL H p n gs/\k<n/\gs.length<=90/\∀q H',Same H H'->H' q=some (.lst ((gs.map λg=>g k).map V.bl))->Q (.ref q) H'
abbrev iR:Stmt:=top 9
abbrev vY:List Str:=["parts","at"]
def vJ:FnScope vY ["parts","at"] (aj iR):= ~~~0
def vd(F:Fun K "truths_at" "truths_at" iR f fd):↑FnOk CX0 1 f fd ["parts","at"] Dr:=by
 exists vJ
 obtain⟨p,n,k,gs,rfl,⟨qs,e1,e2,e3⟩,hk,hz,q⟩:=h;refine#[_,(b_1 (am (aQ (own:=["truths"]) (#[rfl,⋯,⋯,rfl,#[rfl,rfl,trivial]]:CompOk _ _ [1] ["at"]) rfl (bz ↑0) (λ_ _ _ _=>aA (i:=0) (show(["truths","at"]:List Str).Nodup by decide)) (aF ⋯) (λ_ _ _ _=>bA) (λ_ _ _ _=>(ao (Ge (K:=K) rfl) ↑0 ↑1))))),?_];refine#[_,rfl,p,rfl,#[_,L7 e1],?_];refine bJ (xs:=qs.map V.ref) (λj=>.bl (((gs[j]?).getD λ_=>false) k)) (by rw[Zd];omega) (L7 e1) (λj x H1 hx s1 R kk=>?_) (λp1 H1 s1 g1=>?_)
 ·rw[Zq]at hx;exists[b,hb,rfl],ZL.mp hx;have hj:j<gs.length:=by rw[<-e2];exact(Zm.mp hb).1
  have kk':=kk H1 (Same.refl H1);rw[z9 hj]at kk';exact#[_,rfl,_,rfl,b,_,_,_,rfl,rfl,L7 (s1 _ _ (e3 j b _ hb (z9 hj))),cU (iU hk),kk']
 ·have e:((List.range (qs.map V.ref).length).map λj=>V.bl (((gs[j]?).getD λ_=>false) k))=(gs.map λg=>g k).map V.bl:=by
   rw[Zd,e2];refine Ye (by simp) λi h1 h2=>?_;have hi:i<gs.length:=by simpa using h2
   simp[hi]
  rw[e];exact q p1 _ (s1.trans (ad g1 _)) ac
def rn{K:W.Frag}{L:LT}{bs:GL}{te:TE}{H0:Hp}{Q:VK}(ep:H0 p=some (.tup (aH bs)))(hz:bs.length<=90)(he:∀(j:Nat) (x:LN×(Nat->Bool)) (H:Hp),bs[j]?=some x->Same H0 H->∀R:VK,(∀q H',Same H H'->H' q=some (.lst (bls L.length x.2))->R (.ref q) H')->te ((bw 1 cap σ).set 0 (some (.ref x.1))) H R)(hq:∀q H,Same H0 H->QL H q L.length (vals bs)->Q (.ref q) H):cP 1 cap (bD 0) dZ te σ (Itt K p) H0 Q:=by
 refine nG (N:=bs.length) (λi ys H=>Same H0 H/\ys.length=i/\∃qs:List LN,ys=qs.map V.ref/\∀(j:Nat) (q:LN) (x:LN×(Nat->Bool)),qs[j]?=some q->bs[j]?=some x->H q=some (.lst (bls L.length x.2))) ∅ (λi ys H z=>z.2.1) #[Same.refl H0,rfl,[],rfl,λj q x a=>by simp at a]
  (λi ys H hi z=>#[aH bs,.ref bs[i].1,L6 (z.1 _ _ ep),by unfold aH;rw[Zq,z9 hi];rfl]) (λys H z=>#[aH bs,L6 (z.1 _ _ ep),by rw[aB];exact Ze _]) (λi ys H x H' hi z y A kA=>?_) (λys q H z g=>?_)
 ·exists[rfl,y],y;exists[sm,ly,qs,rfl,hqs],z;have lqs:qs.length=i:=by simpa using ly
  have hx:=y (aH bs) (L6 (sm _ _ ep));unfold aH at hx;rw[Zq,z9 hi]at hx;have ex:x=.ref bs[i].1:=(ZB hx).symm;subst ex;refine he i bs[i] _ (z9 hi) sm A λq H4 s4 e4=>kA _ _ #[sm.trans s4,by simp[lqs],qs++[q],by simp,λj q' x' h1 h2=>?_];by_cases c:j<qs.length
  ·rw[ZS c]at h1;exact s4 _ _ (hqs j q' x' h1 h2)
  ·have ej:j=qs.length:=by have:=(Zm.mp h1).1;rw[Zi,Z1]at this;omega
   subst ej;rw[ZF (Ze _),YV]at h1;cases h1;rw[lqs,z9 hi]at h2;cases h2;exact e4
 ·exists[sm,ly,qs,rfl,hqs],z;have w1:=ad g (.lst (qs.map V.ref));refine hq q _ (sm.trans w1) #[qs,ac,by rw[eU];simpa using ly,λj q' g' h1 h2=>?_];unfold vals at h2;rw[Zq]at h2;exists[x,hx,rfl],ZL.mp h2;exact w1 _ _ (hqs j q' x h1 hx)
abbrev iB:Stmt:=top 8
abbrev zC:List Str:=["condition","rows","word","parts"]
def cN:FnScope zC ["condition","rows"] (aj iB):= ~~~0
def wn(F:Fun K "fitting" "fitting" iB f fd)(k9:↑Fn 1 "is_leaf" ["rows","at"] vO)(d8:↑Fn 1 "are_under" ["tops","rows"] qY)(j0:↑Fn 1 "fits_alone" ["condition","row"] qW)(d9:↑Fn 1 "truths_at" ["parts","at"] Dr)(d7:↑Fn 1 "fitting" ["condition","rows"] qX)(a8:mg "len" = none)(g8:mg "range" = none)(v8:mg "any" = none)(k7:mg "all" = none)(Kp:mg "NAME" = some (.int 1 tkN))(j3:mg "FOLDED" = some (.int 5 tkF)):↑FnOk CX0 3 f fd ["condition","rows"] (pX 0):=by
 exists cN
 exists[c,l,L,g,rfl,hcf,hL,hz,gd,q],h;have ne:∀{A B:Prop} (x y:Str),decide (V.str x=V.str y)=false->B->(if decide (V.str x=V.str y)=true then A else B):=fun{A B} x y h hB=>by rw[h];exact aJ hB
 refine#[_,(b_c (ax (i:=2) cN.nd (ao au ↑0 af))
   (b_c (aC (aq aD ↑2 ai) (b_c (ax (i:=3) cN.nd (aQ (own:=["part"]) (#[rfl,⋯,⋯,rfl,#[rfl,rfl,trivial]]:CompOk _ _ [1] ["rows"]) rfl (jC (ao au ↑0 af)) (λ_ _ _ _=>aA (i:=0) (show (["part","rows"]:List Str).Nodup by decide)) (aF ⋯) (λ_ _ _ _=>bA) (λ_ _ _ _=>(aG d7 (hr.mono ∅) (q_a ↑0 (q_a ↑1 ah))))))
   (b_1 (am (aQ (own:=["at"]) (#[rfl,⋯,⋯,rfl,#[rfl,rfl,trivial]]:CompOk _ _ [3] ["parts"]) rfl (gO g8 (q_a (q_B bM a8 ZH (q_a ↑1 ah)) ah)) (λ_ _ _ _=>aA (i:=0) (show (["at","parts"]:List Str).Nodup by decide)) (aF ⋯) (λ_ _ _ _=>bA) (λ_ _ _ _=>(q_B (zQ (K:=K) rfl rfl) v8 PyProof.Rows.boot_any (q_a (aG d9 (hr.mono ∅) (q_a ↑1 (q_a ↑0 ah))) ah))))))) b_0)
   (b_c (aC (aq aD ↑2 ai) (b_c (ax (i:=3) cN.nd (aQ (own:=["part"]) (#[rfl,⋯,⋯,rfl,#[rfl,rfl,trivial]]:CompOk _ _ [1] ["rows"]) rfl (jC (ao au ↑0 af)) (λ_ _ _ _=>aA (i:=0) (show (["part","rows"]:List Str).Nodup by decide)) (aF ⋯) (λ_ _ _ _=>bA) (λ_ _ _ _=>(aG d7 (hr.mono ∅) (q_a ↑0 (q_a ↑1 ah))))))
   (b_1 (am (aQ (own:=["at"]) (#[rfl,⋯,⋯,rfl,#[rfl,rfl,trivial]]:CompOk _ _ [3] ["parts"]) rfl (gO g8 (q_a (q_B bM a8 ZH (q_a ↑1 ah)) ah)) (λ_ _ _ _=>aA (i:=0) (show (["at","parts"]:List Str).Nodup by decide)) (aF ⋯) (λ_ _ _ _=>bA) (λ_ _ _ _=>(q_B (zO (K:=K) rfl rfl) k7 ip (q_a (aG d9 (hr.mono ∅) (q_a ↑1 (q_a ↑0 ah))) ah))))))) b_0)
   (b_c (aC (aq aD ↑2 ai) (b_1 (am (aQ (own:=["fits"]) (#[rfl,⋯,⋯,rfl,trivial]:CompOk _ _ [] []) rfl (bz (aG d7 (hr.mono ∅) (q_a (ao au ↑0 af) (q_a ↑1 ah)))) (λ_ _ _ _=>aA (i:=0) (show (["fits"]:List Str).Nodup by decide)) (aF ⋯) (λ_ _ _ _=>bA) (λ_ _ _ _=>(iw ↑0))))) b_0)
   (b_c (aC (aq aD ↑2 ai) (b_1 (am (aQ (own:=["at"]) (#[rfl,⋯,⋯,rfl,#[rfl,rfl,trivial]]:CompOk _ _ [1] ["rows"]) rfl (gO g8 (q_a (q_B bM a8 ZH (q_a ↑1 ah)) ah)) (λ_ _ _ _=>aA (i:=0) (show (["at","rows"]:List Str).Nodup by decide)) (aF ⋯) (λ_ _ _ _=>bA) (λ_ _ _ _=>(aG k9 (hr.mono ∅) (q_a ↑1 (q_a ↑0 ah))))))) b_0)
   (b_c (aC (aq aD ↑2 ai) (b_1 (am (aG d8 (hr.mono ∅) (q_a (aQ (own:=["row"]) (#[rfl,⋯,⋯,rfl,#[rfl,rfl,trivial]]:CompOk _ _ [0] ["condition"]) rfl (bz ↑1) (λ_ _ _ _=>aA (i:=0) (show (["row","condition"]:List Str).Nodup by decide)) (aF ⋯) (λ_ _ _ _=>bA) (λ_ _ _ _=>(aM (AU hr.units) (ao (dQ (K:=K) rfl) ↑0 (bV Kp)) (ao (dQ (K:=K) rfl) ↑1 af)))) (q_a ↑1 ah))))) b_0)
   (b_c (aC (aq aD ↑2 ai) (b_1 (am (aQ (own:=["under"]) (#[rfl,⋯,⋯,rfl,trivial]:CompOk _ _ [] []) rfl (bz (aG d8 (hr.mono ∅) (q_a (aQ (own:=["row"]) (#[rfl,⋯,⋯,rfl,trivial]:CompOk _ _ [] []) rfl (bz ↑1) (λ_ _ _ _=>aA (i:=0) (show (["row"]:List Str).Nodup by decide)) (aF ⋯) (λ_ _ _ _=>bA) (λ_ _ _ _=>(ao (dQ (K:=K) rfl) ↑0 (bV j3)))) (q_a ↑1 ah)))) (λ_ _ _ _=>aA (i:=0) (show (["under"]:List Str).Nodup by decide)) (aF ⋯) (λ_ _ _ _=>bA) (λ_ _ _ _=>(iw ↑0))))) b_0)
   (b_1 (am (aQ (own:=["row"]) (#[rfl,⋯,⋯,rfl,#[rfl,rfl,trivial]]:CompOk _ _ [0] ["condition"]) rfl (bz ↑1) (λ_ _ _ _=>aA (i:=0) (show (["row","condition"]:List Str).Nodup by decide)) (aF ⋯) (λ_ _ _ _=>bA) (λ_ _ _ _=>(aG j0 (hr.mono ∅) (q_a ↑1 (q_a ↑0 ah)))))))))))))),?_]
 exists[cd,hc,rfl],hcf;exists[rest,eh],hc.head;refine#[_,rfl,c,_,_,_,rfl,rfl,L6 eh,at0,?_];by_cases al:iW cd=true
 ·exists[n1,n2,n3,n4,n5,n6],tW al;refine#[_,rfl,rfl,_,rfl,aS n1 #[_,rfl,rfl,_,rfl,aS n2 #[_,rfl,rfl,_,rfl,aS n3 #[_,rfl,rfl,_,rfl,aS n4 #[_,rfl,rfl,_,rfl,aS n5 #[_,rfl,rfl,_,rfl,aS n6 ?_]]]]]];refine#[_,rfl,l,rfl,#[_,L7 hL.1],?_];refine bJ (xs:=aH L) (λk=>.bl (nO L cd k)) (by rw[aB];omega) (L7 hL.1) (λk x H1 hx s1 R kk=>?_) (λp1 H1 s1 g1=>?_)
  ·exists[hk,rfl],dN hx;have kk':=kk H1 (Same.refl H1);rw[rC al]at kk';exact#[_,rfl,_,rfl,c,be L k,cd,ay L k,rfl,hc.ts (L5 s1),al,(hL.at hk).ts (L5 s1),kk']
  ·rw[aB];exact q p1 _ (s1.trans (ad g1 _)) ac
 cases cd with
 |leaf =>refine#[_,rfl,rfl,_,rfl,ne _ _ ⋯ #[_,rfl,rfl,_,rfl,ne _ _ ⋯ #[_,rfl,rfl,_,rfl,ne _ _ ⋯ #[_,rfl,rfl,_,rfl,bc rfl ?_]]]];refine#[_,rfl,l,_,rfl,.inl (L7 hL.1),_,rfl,by rw[aB];omega,by rw[aB];omega,?_];rw[aB,show((L.length:Int)).toNat=L.length by omega];refine gz (N:=L.length) (lo:=0) (λk=>.bl (jI L k)) ∅ (λk H1 hk s1 R kk=>?_) (λp H1 s1 g1=>q p _ (s1.trans (ad g1 _)) ac);exact#[_,rfl,_,rfl,l,L,k,(show[V.ref l,V.int (0+(k:Int))]=[V.ref l,V.int (k:Int)] by rw[Int.zero_add]),hL.same s1,hk,kk H1 (Same.refl H1)]
 |seen =>
  refine#[_,rfl,rfl,_,rfl,ne _ _ ⋯ #[_,rfl,rfl,_,rfl,ne _ _ ⋯ #[_,rfl,rfl,_,rfl,ne _ _ ⋯ #[_,rfl,rfl,_,rfl,ne _ _ ⋯ #[_,rfl,rfl,_,rfl,ne _ _ ⋯ #[_,rfl,rfl,_,rfl,bc rfl ?_]]]]]];refine#[_,rfl,l,rfl,#[_,L7 hL.1],?_];refine bJ (xs:=aH L) (λk=>.bl (ay L k).f) (by rw[aB];omega) (L7 hL.1) (λk x H1 hx s1 R kk=>?_) (λp1 H1 s1 g1=>?_)
  ·exists[hk,rfl],dN hx;exists[pn,e1,_],(hL.at hk).ts (L5 s1);exact#[_,rfl,be L k,_,_,_,rfl,rfl,L6 e1,rfl,kk H1 (Same.refl H1)]
  ·rw[aB];have w1:=s1.trans (ad g1 (.lst (bls L.length λk=>(ay L k).f)));refine#[_,rfl,p1,l,L,λk=>(ay L k).f,rfl,hL.same w1,hz,gd,ac,λp2 H2 n2 s2 e2=>?_];refine#[p2,rfl,#[_,L7 e2],?_];refine bJ (xs:=bls L.length (under (dep L) λk=>(ay L k).f)) (λk=>.bl (!under (dep L) (λk=>(ay L k).f) k)) (by rw[cE];omega) (L7 e2) (λk x H3 hx s3 R kk=>?_) (λp3 H3 s3 g3=>?_)
   ·have hk:k<L.length:=by have:=(Zm.mp hx).1;rw[cE]at this;exact this
    rw[iU hk]at hx;cases hx;exact#[_,rfl,_,rfl,kk H3 (Same.refl H3)]
   ·rw[cE];exact q p3 _ ((w1.trans s2).trans (s3.trans (ad g3 _))) ac
 |beneath bh bn =>
  exists[pb,eb1,eb2],hc;refine#[_,rfl,rfl,_,rfl,ne "beneath" _ ⋯ #[_,rfl,rfl,_,rfl,ne "beneath" _ ⋯ #[_,rfl,rfl,_,rfl,ne "beneath" _ ⋯ #[_,rfl,rfl,_,rfl,ne "beneath" _ ⋯ #[_,rfl,rfl,_,rfl,bc rfl ?_]]]]];refine#[_,rfl,l,rfl,#[_,L7 hL.1],?_];refine bJ (xs:=aH L) (λk=>.bl (nmB L bh bn k)) (by rw[aB];omega) (L7 hL.1) (λk x H1 hx s1 R kk=>?_) (λp1 H1 s1 g1=>?_)
  ·exists[hk,rfl],dN hx;exists[pn,e1,e2,_],(hL.at hk).ts (L5 s1);exact#[_,rfl,be L k,_,_,_,rfl,rfl,L6 e1,rfl,_,rfl,c,_,_,_,rfl,rfl,L6 (s1 _ _ eb1),rfl,pn,pb,_,_,rfl,rfl,e2,s1 _ _ eb2,kk H1 (Same.refl H1)]
  ·rw[aB];have w1:=s1.trans (ad g1 (.lst (bls L.length (nmB L bh bn))));exact#[_,rfl,p1,l,L,nmB L bh bn,rfl,hL.same w1,hz,gd,ac,λp2 H2 n2 s2 e2=>q p2 H2 (w1.trans s2) e2]
 |_=>exact absurd rfl al
def wq{n k:Nat}(hk:1<=k)(F:Fun K "fitting" "fitting" iB f fd)(k9:↑Fn 1 "is_leaf" ["rows","at"] vO)(d8:↑Fn 1 "are_under" ["tops","rows"] qY)(j0:↑Fn 1 "fits_alone" ["condition","row"] qW)(d9:↑Fn 1 "truths_at" ["parts","at"] Dr)(d7:↑Fn k "fitting" ["condition","rows"] (pX n))(a8:mg "len" = none)(g8:mg "range" = none)(v8:mg "any" = none)(k7:mg "all" = none)(Kp:mg "NAME" = some (.int 1 tkN))(j3:mg "FOLDED" = some (.int 5 tkF)):↑FnOk CX0 (k+2) f fd ["condition","rows"] (pX (n+1)):=by
 exists cN
 exists[c,l,L,g,rfl,hcf,hL,hz,gd,q],h;have ne:∀{A B:Prop} (x y:Str),decide (V.str x=V.str y)=false->B->(if decide (V.str x=V.str y)=true then A else B):=fun{A B} x y h hB=>by rw[h];exact aJ hB
 refine#[_,(b_c (ax (i:=2) cN.nd (ao au ↑0 af))
   (b_c (aC (aq aD ↑2 ai) (b_c (ax (i:=3) cN.nd (aQ (own:=["part"]) (#[rfl,⋯,⋯,rfl,#[rfl,rfl,trivial]]:CompOk _ _ [1] ["rows"]) rfl (jC (ao au ↑0 af)) (λ_ _ _ _=>aA (i:=0) (show (["part","rows"]:List Str).Nodup by decide)) (aF ⋯) (λ_ _ _ _=>bA) (λ_ _ _ _=>(aG d7 (hr.mono ∅) (q_a ↑0 (q_a ↑1 ah))))))
   (b_1 (am (aQ (own:=["at"]) (#[rfl,⋯,⋯,rfl,#[rfl,rfl,trivial]]:CompOk _ _ [3] ["parts"]) rfl (gO g8 (q_a (q_B bM a8 ZH (q_a ↑1 ah)) ah)) (λ_ _ _ _=>aA (i:=0) (show (["at","parts"]:List Str).Nodup by decide)) (aF ⋯) (λ_ _ _ _=>bA) (λ_ _ _ _=>(q_B (zQ (K:=K) rfl rfl) v8 PyProof.Rows.boot_any (q_a (aG d9 (hr.mono ∅) (q_a ↑1 (q_a ↑0 ah))) ah))))))) b_0)
   (b_c (aC (aq aD ↑2 ai) (b_c (ax (i:=3) cN.nd (aQ (own:=["part"]) (#[rfl,⋯,⋯,rfl,#[rfl,rfl,trivial]]:CompOk _ _ [1] ["rows"]) rfl (jC (ao au ↑0 af)) (λ_ _ _ _=>aA (i:=0) (show (["part","rows"]:List Str).Nodup by decide)) (aF ⋯) (λ_ _ _ _=>bA) (λ_ _ _ _=>(aG d7 (hr.mono ∅) (q_a ↑0 (q_a ↑1 ah))))))
   (b_1 (am (aQ (own:=["at"]) (#[rfl,⋯,⋯,rfl,#[rfl,rfl,trivial]]:CompOk _ _ [3] ["parts"]) rfl (gO g8 (q_a (q_B bM a8 ZH (q_a ↑1 ah)) ah)) (λ_ _ _ _=>aA (i:=0) (show (["at","parts"]:List Str).Nodup by decide)) (aF ⋯) (λ_ _ _ _=>bA) (λ_ _ _ _=>(q_B (zO (K:=K) rfl rfl) k7 ip (q_a (aG d9 (hr.mono ∅) (q_a ↑1 (q_a ↑0 ah))) ah))))))) b_0)
   (b_c (aC (aq aD ↑2 ai) (b_1 (am (aQ (own:=["fits"]) (#[rfl,⋯,⋯,rfl,trivial]:CompOk _ _ [] []) rfl (bz (aG d7 (hr.mono ∅) (q_a (ao au ↑0 af) (q_a ↑1 ah)))) (λ_ _ _ _=>aA (i:=0) (show (["fits"]:List Str).Nodup by decide)) (aF ⋯) (λ_ _ _ _=>bA) (λ_ _ _ _=>(iw ↑0))))) b_0)
   (b_c (aC (aq aD ↑2 ai) (b_1 (am (aQ (own:=["at"]) (#[rfl,⋯,⋯,rfl,#[rfl,rfl,trivial]]:CompOk _ _ [1] ["rows"]) rfl (gO g8 (q_a (q_B bM a8 ZH (q_a ↑1 ah)) ah)) (λ_ _ _ _=>aA (i:=0) (show (["at","rows"]:List Str).Nodup by decide)) (aF ⋯) (λ_ _ _ _=>bA) (λ_ _ _ _=>(aG k9 (hr.mono ∅) (q_a ↑1 (q_a ↑0 ah))))))) b_0)
   (b_c (aC (aq aD ↑2 ai) (b_1 (am (aG d8 (hr.mono ∅) (q_a (aQ (own:=["row"]) (#[rfl,⋯,⋯,rfl,#[rfl,rfl,trivial]]:CompOk _ _ [0] ["condition"]) rfl (bz ↑1) (λ_ _ _ _=>aA (i:=0) (show (["row","condition"]:List Str).Nodup by decide)) (aF ⋯) (λ_ _ _ _=>bA) (λ_ _ _ _=>(aM (AU hr.units) (ao (dQ (K:=K) rfl) ↑0 (bV Kp)) (ao (dQ (K:=K) rfl) ↑1 af)))) (q_a ↑1 ah))))) b_0)
   (b_c (aC (aq aD ↑2 ai) (b_1 (am (aQ (own:=["under"]) (#[rfl,⋯,⋯,rfl,trivial]:CompOk _ _ [] []) rfl (bz (aG d8 (hr.mono ∅) (q_a (aQ (own:=["row"]) (#[rfl,⋯,⋯,rfl,trivial]:CompOk _ _ [] []) rfl (bz ↑1) (λ_ _ _ _=>aA (i:=0) (show (["row"]:List Str).Nodup by decide)) (aF ⋯) (λ_ _ _ _=>bA) (λ_ _ _ _=>(ao (dQ (K:=K) rfl) ↑0 (bV j3)))) (q_a ↑1 ah)))) (λ_ _ _ _=>aA (i:=0) (show (["under"]:List Str).Nodup by decide)) (aF ⋯) (λ_ _ _ _=>bA) (λ_ _ _ _=>(iw ↑0))))) b_0)
   (b_1 (am (aQ (own:=["row"]) (#[rfl,⋯,⋯,rfl,#[rfl,rfl,trivial]]:CompOk _ _ [0] ["condition"]) rfl (bz ↑1) (λ_ _ _ _=>aA (i:=0) (show (["row","condition"]:List Str).Nodup by decide)) (aF ⋯) (λ_ _ _ _=>bA) (λ_ _ _ _=>(aG j0 (hr.mono ∅) (q_a ↑1 (q_a ↑0 ah)))))))))))))),?_]
 rcases hcf with⟨cd,hc,rfl⟩|⟨b,g',e1,hb,rfl⟩|⟨w,p,bs,e1,e2,hbs,hb,rfl⟩
 rotate_left
 ·
  refine#[_,rfl,c,_,_,_,rfl,rfl,L6 e1,rfl,?_];refine#[_,rfl,rfl,_,rfl,ne "not" _ ⋯ #[_,rfl,rfl,_,rfl,ne "not" _ ⋯ #[_,rfl,rfl,_,rfl,bc rfl ?_]]];refine#[_,rfl,c,_,_,_,rfl,rfl,L6 e1,rfl,_,rfl,b,l,L,g',rfl,hb,hL,hz,gd,λp1 H1 s1 e3=>?_];refine#[p1,rfl,#[_,L7 e3],?_];refine bJ (xs:=bls L.length g') (λk=>.bl (!g' k)) (by rw[cE];omega) (L7 e3) (λk x H3 hx s3 R kk=>?_) (λp3 H3 s3 g3=>?_)
  ·have hk:k<L.length:=by have:=(Zm.mp hx).1;rw[cE]at this;exact this
   rw[iU hk]at hx;cases hx;exact#[_,rfl,_,rfl,kk H3 (Same.refl H3)]
  ·rw[cE];exact q p3 _ (s1.trans (s3.trans (ad g3 _))) ac
 ·
  cases w with
  |true =>
   refine#[_,rfl,c,_,_,_,rfl,rfl,L6 e1,rfl,?_];refine#[_,rfl,rfl,_,rfl,ne "and" _ ⋯ #[_,rfl,rfl,_,rfl,bc rfl ?_]];refine#[_,rfl,c,_,_,_,rfl,rfl,L6 e1,rfl,p,rfl,#[_,L6 e2],?_];refine rn (L:=L) (bs:=bs) e2 ∅ (λj x H1 hx s1 R kk=>?_) (λpp H1 s1 hQ=>?_)
   ·exact#[_,rfl,_,rfl,x.1,l,L,x.2,rfl,(hb x (ZC hx)).ts (L5 s1),hL.same s1,hz,gd,kk]
   ·refine#[_,rfl,l,_,rfl,.inl (L7 (hL.same s1).1),_,rfl,by rw[aB];omega,by rw[aB];omega,?_];rw[aB,show((L.length:Int)).toNat=L.length by omega];refine gz (N:=L.length) (lo:=0) (λk=>.bl (uy (vals bs) k)) ∅ (λk H2 hk s2 R kk=>?_) (λp2 H2 s2 g2=>q p2 _ (s1.trans (s2.trans (ad g2 _))) ac);refine#[_,rfl,_,rfl,pp,L.length,k,vals bs,(show[V.ref pp,V.int (0+(k:Int))]=[V.ref pp,V.int (k:Int)] by rw[Int.zero_add]),hQ.same s2,hk,by rw[eU];omega,λp4 H4 s4 e4=>?_];refine#[p4,_,rfl,L7 e4,?_];rw[show((vals bs).map λg=>g k).all id=uy (vals bs) k by rw[List.all_map];rfl];exact kk H4 s4
  |false =>
   refine#[_,rfl,c,_,_,_,rfl,rfl,L6 e1,rfl,?_];refine#[_,rfl,rfl,_,rfl,bc rfl ?_];refine#[_,rfl,c,_,_,_,rfl,rfl,L6 e1,rfl,p,rfl,#[_,L6 e2],?_];refine rn (L:=L) (bs:=bs) e2 ∅ (λj x H1 hx s1 R kk=>?_) (λpp H1 s1 hQ=>?_)
   ·exact#[_,rfl,_,rfl,x.1,l,L,x.2,rfl,(hb x (ZC hx)).ts (L5 s1),hL.same s1,hz,gd,kk]
   ·refine#[_,rfl,l,_,rfl,.inl (L7 (hL.same s1).1),_,rfl,by rw[aB];omega,by rw[aB];omega,?_];rw[aB,show((L.length:Int)).toNat=L.length by omega];refine gz (N:=L.length) (lo:=0) (λk=>.bl (uA (vals bs) k)) ∅ (λk H2 hk s2 R kk=>?_) (λp2 H2 s2 g2=>q p2 _ (s1.trans (s2.trans (ad g2 _))) ac);refine#[_,rfl,_,rfl,pp,L.length,k,vals bs,(show[V.ref pp,V.int (0+(k:Int))]=[V.ref pp,V.int (k:Int)] by rw[Int.zero_add]),hQ.same s2,hk,by rw[eU];omega,λp4 H4 s4 e4=>?_];refine#[p4,_,rfl,L7 e4,?_];rw[show((vals bs).map λg=>g k).any id=uA (vals bs) k by rw[List.any_map];rfl];exact kk H4 s4
 exists[rest,eh],hc.head;refine#[_,rfl,c,_,_,_,rfl,rfl,L6 eh,at0,?_];by_cases al:iW cd=true
 ·exists[n1,n2,n3,n4,n5,n6],tW al;refine#[_,rfl,rfl,_,rfl,aS n1 #[_,rfl,rfl,_,rfl,aS n2 #[_,rfl,rfl,_,rfl,aS n3 #[_,rfl,rfl,_,rfl,aS n4 #[_,rfl,rfl,_,rfl,aS n5 #[_,rfl,rfl,_,rfl,aS n6 ?_]]]]]];refine#[_,rfl,l,rfl,#[_,L7 hL.1],?_];refine bJ (xs:=aH L) (λk=>.bl (nO L cd k)) (by rw[aB];omega) (L7 hL.1) (λk x H1 hx s1 R kk=>?_) (λp1 H1 s1 g1=>?_)
  ·exists[hk,rfl],dN hx;have kk':=kk H1 (Same.refl H1);rw[rC al]at kk';exact#[_,rfl,_,rfl,c,be L k,cd,ay L k,rfl,hc.ts (L5 s1),al,(hL.at hk).ts (L5 s1),kk']
  ·rw[aB];exact q p1 _ (s1.trans (ad g1 _)) ac
 cases cd with
 |leaf =>refine#[_,rfl,rfl,_,rfl,ne _ _ ⋯ #[_,rfl,rfl,_,rfl,ne _ _ ⋯ #[_,rfl,rfl,_,rfl,ne _ _ ⋯ #[_,rfl,rfl,_,rfl,bc rfl ?_]]]];refine#[_,rfl,l,_,rfl,.inl (L7 hL.1),_,rfl,by rw[aB];omega,by rw[aB];omega,?_];rw[aB,show((L.length:Int)).toNat=L.length by omega];refine gz (N:=L.length) (lo:=0) (λk=>.bl (jI L k)) ∅ (λk H1 hk s1 R kk=>?_) (λp H1 s1 g1=>q p _ (s1.trans (ad g1 _)) ac);exact#[_,rfl,_,rfl,l,L,k,(show[V.ref l,V.int (0+(k:Int))]=[V.ref l,V.int (k:Int)] by rw[Int.zero_add]),hL.same s1,hk,kk H1 (Same.refl H1)]
 |seen =>
  refine#[_,rfl,rfl,_,rfl,ne _ _ ⋯ #[_,rfl,rfl,_,rfl,ne _ _ ⋯ #[_,rfl,rfl,_,rfl,ne _ _ ⋯ #[_,rfl,rfl,_,rfl,ne _ _ ⋯ #[_,rfl,rfl,_,rfl,ne _ _ ⋯ #[_,rfl,rfl,_,rfl,bc rfl ?_]]]]]];refine#[_,rfl,l,rfl,#[_,L7 hL.1],?_];refine bJ (xs:=aH L) (λk=>.bl (ay L k).f) (by rw[aB];omega) (L7 hL.1) (λk x H1 hx s1 R kk=>?_) (λp1 H1 s1 g1=>?_)
  ·exists[hk,rfl],dN hx;exists[pn,e1,_],(hL.at hk).ts (L5 s1);exact#[_,rfl,be L k,_,_,_,rfl,rfl,L6 e1,rfl,kk H1 (Same.refl H1)]
  ·rw[aB];have w1:=s1.trans (ad g1 (.lst (bls L.length λk=>(ay L k).f)));refine#[_,rfl,p1,l,L,λk=>(ay L k).f,rfl,hL.same w1,hz,gd,ac,λp2 H2 n2 s2 e2=>?_];refine#[p2,rfl,#[_,L7 e2],?_];refine bJ (xs:=bls L.length (under (dep L) λk=>(ay L k).f)) (λk=>.bl (!under (dep L) (λk=>(ay L k).f) k)) (by rw[cE];omega) (L7 e2) (λk x H3 hx s3 R kk=>?_) (λp3 H3 s3 g3=>?_)
   ·have hk:k<L.length:=by have:=(Zm.mp hx).1;rw[cE]at this;exact this
    rw[iU hk]at hx;cases hx;exact#[_,rfl,_,rfl,kk H3 (Same.refl H3)]
   ·rw[cE];exact q p3 _ ((w1.trans s2).trans (s3.trans (ad g3 _))) ac
 |beneath bh bn =>
  exists[pb,eb1,eb2],hc;refine#[_,rfl,rfl,_,rfl,ne "beneath" _ ⋯ #[_,rfl,rfl,_,rfl,ne "beneath" _ ⋯ #[_,rfl,rfl,_,rfl,ne "beneath" _ ⋯ #[_,rfl,rfl,_,rfl,ne "beneath" _ ⋯ #[_,rfl,rfl,_,rfl,bc rfl ?_]]]]];refine#[_,rfl,l,rfl,#[_,L7 hL.1],?_];refine bJ (xs:=aH L) (λk=>.bl (nmB L bh bn k)) (by rw[aB];omega) (L7 hL.1) (λk x H1 hx s1 R kk=>?_) (λp1 H1 s1 g1=>?_)
  ·exists[hk,rfl],dN hx;exists[pn,e1,e2,_],(hL.at hk).ts (L5 s1);exact#[_,rfl,be L k,_,_,_,rfl,rfl,L6 e1,rfl,_,rfl,c,_,_,_,rfl,rfl,L6 (s1 _ _ eb1),rfl,pn,pb,_,_,rfl,rfl,e2,s1 _ _ eb2,kk H1 (Same.refl H1)]
  ·rw[aB];have w1:=s1.trans (ad g1 (.lst (bls L.length (nmB L bh bn))));exact#[_,rfl,p1,l,L,nmB L bh bn,rfl,hL.same w1,hz,gd,ac,λp2 H2 n2 s2 e2=>q p2 H2 (w1.trans s2) e2]
 |_=>exact absurd rfl al
def bO(k:Str)(r:Rw):SKey:=if k="text" then .s r.t else if k="size" then .i r.t.length else if k="depth" then .i r.d else .bi r.w.isNone (r.w.getD 0)
def jl:Sp:=λvs H Q _=>∃(k:Str) (a:LN) (r:Rw),vs=[.str k,.ref a]/\RRR H a r/\r.t.length<=1000/\∀v H',Same H H'->(bO k r).at H' v->Q v H'
def ze(kv:V):Sp:=λvs H Q E=>∃v,vs=[v]/\jl [kv,v] H Q E
def kz(k:Str)(b:Bool)(L M:LT):Prop :=
 if k="place" then M=katRev b L else∃p:LY,POk L.length p/\LS (λi j=>HT.lexLt ((katRev b (L.map λx=>(bO k x.2).nums)).getD i []) ((katRev b (L.map λx=>(bO k x.2).nums)).getD j [])) p L.length/\M=katRev b (p.toList.map λi=>(katRev b L).getD i (0,R0))
abbrev gX:Str:=(("asked":Str)++".<locals>.")++"<lambda>"
def Df:Stmt->L3
 |.Return (some e) _=>e
 |.If _ (s::_) _ _=>Df s
 |_=>.Name "" #[0,0,0,0]
def Ch:L3->L3
 |.Call _ _ (k::_) _=>k.value
 |e=>e
def Cg:L3->L3
 |.Lambda _ b _ _=>b
 |e=>e
def Ci:L3->Scope
 |.Lambda _ _ s _=>s
 |_=>default
def fz:L3->Pos
 |.Lambda _ _ _ p=>p
 |_=>#[0,0,0,0]
abbrev ic:Stmt:=top 14
abbrev tQ:List Str:=["key","row"]
def sL:FnScope tQ ["key","row"] (aj ic):= ~~~0
def sF(F:Fun K "sort_value" "sort_value" ic f fd)(a8:mg "len" = none)(c8:mg "DEPTH" = some (.int 0 tkD))(d6:mg "TEXT_answers" = some (.int 2 tkT))(l7:mg "WHOM" = some (.int 4 tkW)):↑FnOk CX0 1 f fd ["key","row"] jl:=by
 exists sL
 obtain⟨k,a,r,rfl,⟨p,e1,e2,_⟩,hlen,q⟩:=h;refine#[_,(b_c (aC (aq aD ↑0 ai) (b_1 (am (ao au ↑1 (bV d6)))) b_0)
   (b_c (aC (aq aD ↑0 ai) (b_1 (am (q_B oK a8 ZH (q_a (ao au ↑1 (bV d6)) ah)))) b_0)
   (b_c (aC (aq aD ↑0 ai) (b_1 (am (ao au ↑1 (bV c8)))) b_0)
   (b_1 (am (aW (q_a (aM mF (ao au ↑1 (bV l7)) cM) (q_a (yM (aq mF (ao au ↑1 (bV l7)) cM) af (ao au ↑1 (bV l7))) ah)))))))),?_]
 have sEq:∀{y:Str},(V.str k=V.str y)=(k=y):=fun{y}=>propext #[λz=>V.str.inj z,λz=>by rw[z]];unfold bO at q;refine#[_,rfl,rfl,_,rfl,bp (λc=>?_) (λc=>?_)]
 ·rw[LI (V.str.inj c)]at q;exact#[_,rfl,a,_,_,_,rfl,rfl,L6 e1,rfl,q _ _ (Same.refl H) rfl]
 rw[LH (λz=>c (by rw[z]))]at q;refine#[_,rfl,rfl,_,rfl,bp (λc=>?_) (λc=>?_)]
 ·rw[LI (V.str.inj c)]at q;exact#[_,rfl,a,_,_,_,rfl,rfl,L6 e1,rfl,r.t,rfl,hlen,q _ _ (Same.refl H) rfl]
 rw[LH (λz=>c (by rw[z]))]at q;refine#[_,rfl,rfl,_,rfl,bp (λc=>?_) (λc=>?_)]
 ·rw[LI (V.str.inj c)]at q;exact#[_,rfl,a,_,_,_,rfl,rfl,L6 e1,rfl,q _ _ (Same.refl H) rfl]
 rw[LH (λz=>c (by rw[z]))]at q;refine#[_,rfl,a,_,_,_,rfl,rfl,L6 e1,rfl,rfl,_,rfl,a,_,_,_,rfl,rfl,L6 e1,rfl,rfl,_,rfl,?_];cases hw:r.w with
 |none =>rw[hw]at e1 q;exact aP #[sz rfl,λp' g'=>q _ _ (ad g' _) #[p',rfl,ac]]
 |some i =>rw[hw]at e1 q;exact aJ #[_,rfl,a,_,_,_,rfl,rfl,L6 e1,rfl,sz rfl,λp' g'=>q _ _ (ad g' _) #[p',rfl,ac]]
abbrev jg:Stmt:=top 13
abbrev Eu:List Str:=["question","rows","key","told"]
def oy:FnScope Eu ["question","rows"] (aj jg):= ~~~0
abbrev jG:L3:=Ch (Df ((bK jg).getD 3 (.Pass #[0,0,0,0])))
abbrev jH:L3:=Ch (Df ((bK jg).getD 4 (.Pass #[0,0,0,0])))
def yp(j7:↑Fn 1 "sort_value" ["key","row"] jl):↑LamOkX 2 gX (Cg jG) (Ci jG) "row" "key" ze:=by refine#[#[rfl,rfl,rfl,rfl,rfl,⋯,⋯,⋯],λf c' c kv A outer s H v Q hr h=>?_];exists[v',e,h],h;cases e;exact#[_,(aG j7 ↑99 (q_a ↑1 (q_a ↑0 ah))),_,rfl,_,rfl,h]
def yq(j7:↑Fn 1 "sort_value" ["key","row"] jl):↑LamOkX 2 gX (Cg jH) (Ci jH) "row" "key" ze:=by refine#[#[rfl,rfl,rfl,rfl,rfl,⋯,⋯,⋯],λf c' c kv A outer s H v Q hr h=>?_];exists[v',e,h],h;cases e;exact#[_,(aG j7 ↑99 (q_a ↑1 (q_a ↑0 ah))),_,rfl,_,rfl,h]
def bT(L:LT)(g:Nat->Bool):LT:=((List.range L.length).filter g).map λi=>(be L i,ay L i)
def yQ(L:LT)(g:Nat->Bool):aH (bT L g)=((List.range L.length).filter g).map λi=>V.ref (be L i):=by unfold aH bT;rw[Yw];rfl
def rL(L:LT)(g:Nat->Bool):(bT L g).length<=L.length:=by unfold bT;rw[Zd];have:=y8 g (List.range L.length);rw[List.length_range]at this;exact this
def kZ(h:x∈bT L g):x∈L:=by exists[i,hi,rfl],Zw.mp h;have hi':i<L.length:=ZM.mp (ZP.mp hi).1;unfold be ay;rw[z9 hi'];exact ZG hi'
def xD(T:LN):Sp:=λvs H Q _=>∃(qa c l:LN) (k:Str) (b:Bool) (L:LT) (g:Nat->Bool) (pos:Pos),vs=[.ref qa,.ref l]/\H qa=some (.tup [.ref c,.str k,.bl b])/\CF L 63 H c g/\LR H l L/\Gd L/\(∀x∈L,x.2.t.length<=1000)/\L.length<=63/\aN gX T pos H/\(k≠"place"->pos=fz (if b then jG else jH)) /\
 ∀D H' M,kz k b (bT L g) M->SameT T H H'->aN gX T pos H'->H' D=some (.lst (aH M))->H D=none->Q (.ref D) H'
def aE(h:aN q T pos H)(s:Same H H'):aN q T pos H':=by exists[ps,e1,e2,e3],h;exact#[ps,s _ _ e1,e2,e3.imp id fun⟨c,z1,z2⟩=>#[c,z1,s _ _ z2]]
def kQ(s:Same H H')(h:H' D=none):H D=none:=by
 cases e:H D with
 |none=>rfl
 |some o=>rw[s _ _ e]at h;cases h
def vx(b:Bool)(L:LT):aH (katRev b L)=katRev b (aH L):=by
 cases b
 ·rfl
 ·show aH L.reverse=(aH L).reverse;unfold aH;rw[List.map_reverse]
def Bm(b:Bool)(L:LT):∀ps:List Nat,(∀i∈ps,i<L.length)->aH (ps.map λi=>(katRev b L).getD i (0,R0))=ps.map λi=>(katRev b (aH L)).getD i .non:=λps h=>by
 rw[<-vx];unfold aH;rw[Yw];refine List.map_congr_left λi hi=>?_;have hi':i<(katRev b L).length:=by rw[W.kat_len];exact h i hi
 show V.ref ((katRev b L).getD i (0,R0)).1=((katRev b L).map λx=>V.ref x.1).getD i .non;rw[Zg,Zg,Zq,z9 hi'];rfl
def oH(k:Str)(L:LT):oC (L.map λx=>bO k x.2):=by
 unfold oC bO;by_cases h1:k="text"
 ·refine .inr (.inl λz hz=>?_);exists[x,_,rfl],Zw.mp hz;exact#[_,LI h1]
 by_cases h2:k="size"
 ·refine .inl λz hz=>?_;exists[x,_,rfl],Zw.mp hz;exact#[_,by rw[LH h1,LI h2]]
 by_cases h3:k="depth"
 ·refine .inl λz hz=>?_;exists[x,_,rfl],Zw.mp hz;exact#[_,by rw[LH h1,LH h2,LI h3]]
 ·refine .inr (.inr λz hz=>?_);exists[x,_,rfl],Zw.mp hz;exact#[_,_,by rw[LH h1,LH h2,LH h3]]
def Dm{H H':Hp}(h:H T=some (.tbl ps))(s:SameT T H H'):TS H H':=λa zs e=>s _ _ e λz=>by rw[z,h]at e;cases e
def uP{k:Str}{l:LN}{i:Nat}{key:SKey}{R:VK}(tab:aN gX T pos H3)(hL:∀x∈L,RRR H3 x.1 x.2)(hlen:∀x∈L,x.2.t.length<=1000)(hv:(aH L)[i]?=some v)(hkey:(L.map λx=>bO k x.2)[i]?=some key)(sm:SameT T H3 H')(kR:∀kv H'',Same H' H''->key.at H'' kv->R kv H''):ze (.str k) [v] H' R E0:=by exists[ps,tP,_],tab;unfold aH at hv;rw[Zq]at hv hkey;exists[x,hx,rfl],ZL.mp hv;rw[hx]at hkey;cases hkey;have m:=ZC hx;exact#[_,rfl,k,x.1,x.2,rfl,(hL x m).ts (Dm tP sm),hlen x m,λv' H'' s'' hat=>kR v' H'' s'' hat]
def CC{f c0 T:LN}{fd:LW}(F:Fun K "asked" "asked" jg f fd)(hcode:fd.code=.ref c0)(C:CodeHd base c0 T)(B:Blt base mg)(d7:↑Fn 129 "fitting" ["condition","rows"] (pX 63))(Lo:↑Fn 1 "sort_value" ["key","row"] jl)(u6:mg "zip" = none)(l8:mg "list" = none)(j4:mg "reversed" = none)(i5:mg "sorted" = none):↑FnOk CX0 130 f fd ["question","rows"] (xD T):=by
 refine F.okC hcode oy (λvs H Q E h=>?_) (λA outer s H vs Q E hr h=>?_)
 ·exists[qa,c,l,k,b,L,g,pos,rfl,_],h;rfl
 exists[qa,c,l,k,b,L0,g,pos,rfl,eq,ec,hL0,gd,hlen0,hz0,tab,hpos,q],h;refine#[_,(b_c (ax (i:=2) oy.nd (ao au ↑0 af))
   (b_c (pO (j:=3) oy.nd (own:=["row","fits"]) (#[rfl,⋯,⋯,rfl,trivial]:CompOk _ _ [] []) rfl (Ao u6 (q_a ↑1 (q_a (aG d7 ↑99 (q_a (ao au ↑0 af) (q_a ↑1 ah))) ah))) (λ_ _ _ _=>uB (K:=K) (n:=2) rfl rfl (cF (aA (i:=0) (show (["row","fits"]:List Str).Nodup by decide)) (cF (aA (i:=1) (show (["row","fits"]:List Str).Nodup by decide)) iG))) (uD (fw (aF ⋯) dS (fw (aF ⋯) dS qw gJ) (nQ dS gJ))) (λ_ _ _ _=>(uG (cc ↑1))) (λ_ _ _ _=>↑0))
   (b_c (aC (aq aD ↑2 ai) (b_1 (am (yM (cc (ao au ↑0 af)) (Bf rfl l8 j4 (q_a ↑3 ah)) ↑3))) b_0)
   (b_c (aC (cc (ao au ↑0 af)) (b_1 (am (C8 (j:=2) i5 rfl C B (yp Lo) ↑99 (q_a ↑3 ah) fK rfl rfl rfl rfl))) b_0)
   (b_1 (am (FP (j:=2) i5 rfl C B (yq Lo) ↑99 (q_a ↑3 ah) rfl rfl rfl rfl))))))),?_]
 refine#[_,rfl,qa,_,_,_,rfl,rfl,L6 eq,rfl,?_];refine#[_,rfl,_,rfl,qa,_,_,_,rfl,rfl,L6 eq,at0,_,rfl,c,l,L0,g,rfl,ec,hL0,hz0,gd,λp1 H1 s1 e1=>?_];refine#[l,p1,aH L0,_,rfl,L7 (s1 _ _ hL0.1),L7 e1,by rw[aB,cE],?_];refine uh (N:=L0.length) g (λi=>.ref (be L0 i)) ∅ (λi H2 hi s2=>?_) (λH2 s2=>?_) (λi H2 x H3 hi s2 y A B kA kB=>?_) (λp2 H2 s2 g2=>?_)
 ·exact#[by rw[aB];exact hi,L7 (s2 _ _ (s1 _ _ hL0.1)),L7 (s2 _ _ e1)]
 ·exact#[by rw[aB],L7 (s2 _ _ (s1 _ _ hL0.1)),L7 (s2 _ _ e1)]
 ·exists[T',p,q',hT,hx,hy,rfl,rfl],y;have s3:=ad hT (.tup [p,q']);exists[hk,rfl],dN hx;obtain rfl:q'=V.bl (g i):=by rw[iU hk]at hy;exact(ZB hy).symm
  refine#[T',[_,_],rfl,L6 ac,rfl,_,[_],rfl,_,[],rfl,rfl,_,rfl,_,rfl,?_];cases hg:g i with
  |true=>exact aP #[_,rfl,kA hg _ (hg▸s3)]
  |false=>exact aJ (kB hg _ (hg▸s3))
 rw[<-yQ];have hlen:∀x∈bT L0 g,x.2.t.length<=1000:=λx hx=>hlen0 x (kZ hx);have hz:(bT L0 g).length<=63:=Zt (rL L0 g) hz0;have hLm:∀x∈bT L0 g,RRR H x.1 x.2:=λx hx=>hL0.2 x (kZ hx);generalize bT L0 g=L at q hlen hz hLm ⊢;have w2:=(s1.trans s2).trans (ad g2 (.lst (aH L)));have d2:H p2=none:=kQ (s1.trans s2) g2;have e2:upd H2 p2 (.lst (aH L)) p2=some (.lst (aH L)):=ac;generalize upd H2 p2 (.lst (aH L))=H3 at w2 e2 ⊢;have sEq:∀{y:Str},(V.str k=V.str y)->k=y:=fun{y} z=>V.str.inj z;refine#[_,rfl,rfl,_,rfl,bp (λc1=>?_) (λc1=>?_)]
 ·have hk:=sEq c1;subst hk;refine#[_,rfl,qa,_,_,_,rfl,rfl,L6 (w2 _ _ eq),rfl,_,rfl,?_];cases b with
  |true =>refine aP #[_,rfl,p2,aH L,rfl,L7 e2,λp4 g4=>?_];have w4:=w2.trans (ad g4 (.lst (aH L).reverse));refine q p4 _ L.reverse ?_ (.of w4) (aE tab w4) (by rw[ac];unfold aH;rw[List.map_reverse]) (kQ w2 g4);unfold kz;rw[LI rfl];rfl
  |false =>refine aJ #[_,rfl,?_];refine q p2 _ L ?_ (.of w2) (aE tab w2) e2 d2;unfold kz;rw[LI rfl];rfl
 have hk:k≠"place":=λz=>c1 (by rw[z]);obtain rfl:=hpos hk;have fin:∀(b':Bool),b=b'->∀(p:LY) (H4:Hp) (D:LN),POk (aH L).length p->LS (λi j=>HT.lexLt ((katRev b' ((L.map λx=>bO k x.2).map SKey.nums)).getD i []) ((katRev b' ((L.map λx=>bO k x.2).map SKey.nums)).getD j [])) p (aH L).length->SameT T H3 H4->aN gX T (fz (if b' then jG else jH)) H4->H4 D=none ->
   Q (.ref D) (upd H4 D (.lst (katRev b' (p.toList.map λi=>(katRev b' (aH L)).getD i .non)))):=by
  rintro b' rfl p H4 D hp hs sT t4 g4;have hpl:∀i∈p.toList,i<L.length:=λi hi=>by have:=(hp.mem_iff).mp (Ys.mp hi);rw[aB]at this;simpa using this
  have nD:H3 D=none:=by
   cases e:H3 D with
   |none=>rfl
   |some o =>
    by_cases z:D=T
    ·exists[ps,e1,_],t4;rw[z,e1]at g4;cases g4
    ·rw[sT _ _ e z]at g4;cases g4
  refine q D _ (katRev b (p.toList.map λi=>(katRev b L).getD i (0,R0))) ?_ ((SameT.of w2).trans (sT.trans (.of (ad g4 _)))) (aE t4 (ad g4 _)) (by rw[ac,vx,Bm b L _ hpl]) (kQ w2 nD);unfold kz;rw[LH hk];rw[aB]at hp hs;rw[Yw]at hs;exact#[p,hp,hs,rfl]
 refine#[_,rfl,qa,_,_,_,rfl,rfl,L6 (w2 _ _ eq),rfl,_,rfl,?_];cases b with
 |true =>
  refine aP #[_,rfl,p2,aH L,L.map λx=>bO k x.2,_,rfl,rfl,e2,by rw[aB];omega,by rw[Zd,aB],?_,aE tab w2,λi v key H' hv hkey sm R kR=>?_,fin true rfl]
  ·exact oH k L
  ·exact uP (l:=l) (aE tab w2) (λx hx=>(hLm x hx).ts (L5 w2)) hlen hv hkey sm kR
 |false =>
  refine aJ #[_,rfl,p2,aH L,L.map λx=>bO k x.2,_,rfl,rfl,e2,by rw[aB];omega,by rw[Zd,aB],?_,aE tab w2,λi v key H' hv hkey sm R kR=>?_,fin false rfl]
  ·exact oH k L
  ·exact uP (l:=l) (aE tab w2) (λx hx=>(hLm x hx).ts (L5 w2)) hlen hv hkey sm kR
theorem mD:∀{a b:LX},HT.lexLt a b=false->HT.lexLt b a=false->a=b
 | [],[],_,_=>rfl
 | [],_::_,h,_=>by cases h
 |_::_,[],_,h=>by cases h
 |x::a,y::b,h,k=>by
  rw[HT.lexLt_cons]at h k;by_cases e:x=y
  ·subst e;rw[LI rfl]at h k;rw[mD h k]
  ·rw[LH e]at h;rw[LH (λz=>e z.symm)]at k;have h':=YJ h;have k':=YJ k;omega
def nm(k:Str)(L:LT)(i:Nat):LX:=(bO k (L.getD i (0,R0)).2).nums
def Fol(k:Str)(b:Bool)(L:LT)(u v:Nat):Prop :=
 if k="place" then(if b=true then v<u else u<v)else if b=true then HT.lexLt (nm k L u) (nm k L v)=false/\(HT.lexLt (nm k L v) (nm k L u)=true\/u<v)else HT.lexLt (nm k L v) (nm k L u)=false/\(HT.lexLt (nm k L u) (nm k L v)=true\/u<v)
def GG{k:Str}{u v:Nat}(h:Fol k b L u v)(g:Fol k b L v u):False:=by
 unfold Fol at h g;split at h
 ·split at h
  ·rw[LI ‹_›,LI ‹_›]at g;omega
  ·rw[LI ‹_›,LH ‹_›]at g;omega
 ·rw[LH ‹_›]at g;split at h
  ·rw[LI ‹_›]at g;exists[h1,h2],h;exists[g1,g2],g;rw[g1]at h2;rw[h1]at g2;simp at h2 g2;omega
  ·rw[LH ‹_›]at g;exists[h1,h2],h;exists[g1,g2],g;rw[g1]at h2;rw[h1]at g2;simp at h2 g2;omega
theorem xq{R:Nat->Nat->Prop}(as:∀u v,R u v->R v u->False):∀{a b:List Nat},a.Perm b->a.Pairwise R->b.Pairwise R->a=b
 | [],b,p,_,_=>(List.nil_perm.mp p).symm
 |x::a,[],p,_,_=>absurd p.length_eq (by simp)
 |x::a,y::b,p,ha,hb=>by
  have e:x=y:=by
   by_cases e:x=y
   ·exact e
   ·have h1:x∈b:=by
     rcases Zf.mp (p.mem_iff.mp Zo)with z|z
     ·exact absurd z e
     ·exact z
    have h2:y∈a:=by
     rcases Zf.mp (p.mem_iff.mpr Zo)with z|z
     ·exact absurd z.symm e
     ·exact z
    exact(as _ _ ((List.pairwise_cons.mp ha).1 _ h2) ((List.pairwise_cons.mp hb).1 _ h1)).elim
  subst e;rw[xq as (List.perm_cons _ |>.mp p) (List.pairwise_cons.mp ha).2 (List.pairwise_cons.mp hb).2]
def fJ(L:LT)(ix:List Nat):LT:=ix.map λi=>L.getD i (0,R0)
def jP(L:LT):fJ L (List.range L.length)=L:=by
 refine List.ext_getElem? λi=>?_;unfold fJ;rw[Zq];by_cases h:i<L.length
 ·rw[List.getElem?_range h];show some (L.getD i (0,R0))=_;rw[Zg,z9 h];rfl
 ·rw[Y7 (by simpa using h),Y7 ∅];rfl
def Dg(L:LT){i:Nat}(h:i<L.length):L.reverse.getD i (0,R0)=L.getD (L.length-1-i) (0,R0):=by rw[Zg,Zg,YF h]
def uW(k:Str)(L:LT){i:Nat}(h:i<L.length):(L.map λx=>(bO k x.2).nums).getD i []=nm k L i:=by unfold nm;rw[Zg,Zg,Zq,z9 h];rfl
def AI(k:Str)(L:LT){i:Nat}(h:i<L.length):(L.map λx=>(bO k x.2).nums).reverse.getD i []=nm k L (L.length-1-i):=by rw[<-uW k L ∅,Zg,Zg,YF (by rw[Zd];exact h),Zd]
def rc{k:Str}(h:kz k b L M):∃ix:List Nat,ix.Perm (List.range L.length)/\ix.Pairwise (Fol k b L)/\M=fJ L ix:=by
 unfold kz at h;by_cases hk:k="place"
 ·rw[LI hk]at h;cases b with
  |false =>refine#[List.range L.length,.refl _,List.pairwise_lt_range.imp fun{u v} z=>?_,by rw[jP];exact h];unfold Fol;rw[LI hk,LH ⋯];exact z
  |true =>
   refine#[(List.range L.length).reverse,List.reverse_perm _,List.pairwise_reverse.mpr (List.pairwise_lt_range.imp fun{u v} z=>?_),?_]
   ·unfold Fol;rw[LI hk,LI rfl];exact z
   ·unfold fJ;rw[List.map_reverse,show(List.range L.length).map (λi=>L.getD i (0,R0))=L from jP L];exact h
 ·rw[LH hk]at h;exists[p,hp,hs,hM],h;have hpl:p.toList.Perm (List.range L.length):=by have:p.Perm (List.range L.length).toArray:=hp;simpa using this.toList
  have hlt:∀i∈p.toList,i<L.length:=λi hi=>by have:=hpl.mem_iff.mp hi;simpa using this
  have hsz:p.size=L.length:=by have:=hpl.length_eq;simpa using this
  have hg:∀a (ha:a<p.toList.length),gA p a=p.toList[a]:=λa ha=>by unfold gA;rw[Zu]at ha;simp[ha]
  cases b with
  |false =>refine#[p.toList,hpl,Z9.mpr λa c ha hc hac=>?_,hM];have:=hs a c hac (by rw[<-hsz];simpa using hc);rw[hg a ha,hg c hc]at this;exists[h1,h2],this;have e1:=uW k L (hlt _ (ZG ha));have e2:=uW k L (hlt _ (ZG hc));unfold Fol;rw[LH hk,LH ⋯,<-e1,<-e2];exact#[h1,h2]
  |true =>
   refine#[(p.toList.map λi=>L.length-1-i).reverse,?_,List.pairwise_reverse.mpr (Xa.mpr (Z9.mpr λa c ha hc hac=>?_)),?_]
   ·refine(List.reverse_perm _).trans ((hpl.map _).trans ?_);have e:((List.range L.length).map λi=>L.length-1-i)=(List.range L.length).reverse:=by refine Ye (by simp) λi h1 h2=>?_;simp at h1 ⊢
    rw[e];exact List.reverse_perm _
   ·have:=hs a c hac (by rw[<-hsz];simpa using hc);rw[hg a ha,hg c hc]at this;exists[h1,h2],this;have l1:=hlt _ (ZG ha);have l2:=hlt _ (ZG hc);have e1:=AI k L l1;have e2:=AI k L l2;unfold Fol;rw[LH hk,LI rfl,<-e1,<-e2];refine#[h1,h2.imp id λz=>?_];omega
   ·rw[hM];show(p.toList.map λi=>L.reverse.getD i (0,R0)).reverse=_;unfold fJ;rw[List.map_reverse,Yw];congr 1;refine List.map_congr_left λi hi=>?_;exact Dg L (hlt i hi)
def BD{k:Str}(h:kz k b L M)(g:kz k b L M'):M=M':=by exists[ix,p1,w1,rfl],rc h;exists[iy,p2,w2,rfl],rc g;rw[xq (λu v a b=>GG a b) (p1.trans p2.symm) w1 w2]
abbrev cz:Stmt:=bU (top 30) 15
abbrev jr:List Str:=["self"]
def ji:FnScope jr ["self"] (aj cz):= ~~~0
abbrev gG:Str:=(("Plain.sorted_names":Str)++".<locals>.")++"<lambda>"
def JG:Stmt->L3
 |.Return (some e) _=>e
 |_=>.Name "" #[0,0,0,0]
abbrev ee:L3:=Ch (JG ((bK cz).getD 0 (.Pass #[0,0,0,0])))
abbrev LTr(T:LN)(H:Hp):Prop:=aN gG T (fz ee) H
def ST:List (Str×TV):=[("put",tw ["new","up","place","text"]),("move",tw ["item","up","place"]),("write",tw ["item","text"]),("mark",tw ["item","truth"]),("due",tw ["item","whom"]),("fold",tw ["item","truth"]),("part",tw ["item","at","new","place"]),("join",tw ["item","item"]),("gone",tw ["item"])]
def Jf:¬(("held":Str)="away"):=⋯
def pfl(h a:LN):List (Str×V):=cQ "away" (.ref a) (cQ "held" (.ref h) [])
def dr(h a:LN):(pfl h a).lookup ("held":Str)=some (.ref h):=by unfold pfl;rw[bj,LH Jf,bj,LI rfl]
def ve(h a:LN):(pfl h a).lookup ("away":Str)=some (.ref a):=by unfold pfl;rw[bj,LI rfl]
def vh(h a:LN){m:Str}(h1:¬m="away")(h2:¬m="held"):(pfl h a).lookup m=none:=by
 unfold pfl;rw[bj,LH h1,bj,LH h2]
 all_goals rfl
structure PlainAt(C:LN)(H:Hp)(p d g:LN)(kvs gvs:Mc):Prop where
 ob:∃dx,H p=some (.ins C dx (pfl d g))
 dc:H d=some (.dT kvs)
 gc:H g=some (.dT gvs)
 ne:d≠g
def PlainAt.same(x:PlainAt C H p d g kvs gvs)(s:Same H H'):PlainAt C H' p d g kvs gvs:=by obtain⟨⟨dx,h1⟩,h2,h3,h4⟩:=x;exact#[#[dx,s _ _ h1],s _ _ h2,s _ _ h3,h4]
def PlainAt.put(x:PlainAt C H p d g kvs gvs):PlainAt C (upd H d (.dT kvs')) p d g kvs' gvs:=by obtain⟨⟨dx,h1⟩,h2,h3,h4⟩:=x;exact#[#[dx,by rw[ag (jJ h1 h2 nofun)];exact h1],ac,by rw[ag (y7 h4)];exact h3,h4]
def But(d:LN)(H H':Hp):Prop:=∀b o,H b=some o->b≠d->H' b=some o
inductive NameIs(H:Hp)(v:V)(k:List Key):Prop
 |mk (b:_) (h0:v=.ref b) (h1:H b=some (.tup (k.map kV))):NameIs H v k
def NameIs.of{H:Hp}{k:List Key}(h:∃b,v=.ref b/\H b=some (.tup (k.map kV))):NameIs H v k:=by exists[b,h0,h1],h;exact#[b,h0,h1]
def NameIs.same{k:List Key}(x:NameIs H v k)(s:Same H H'):NameIs H' v k:=by exists[b,h1,h2],x;exact#[b,h1,s _ _ h2]
inductive spSParts(K:W.Frag)(vs:Md)(H:Hp)(Q:VK)(E_:XK):Prop
 |mk (k:Str) (ws:List Str) (h0:vs=[.str k]) (h1:PyProof.Rows.KTD.datumAt k ST=some (tw ws)) (h2:∀t,(∀H',SqT K H' t (ws.map V.str))->Q (.ref t) H):spSParts K vs H Q E_
inductive spPInit(C:LN)(vs:Md)(H:Hp)(Q:VK)(E_:XK):Prop
 |mk (p dx:LN) (h0:vs=[.ref p]) (h1:H p=some (.ins C dx [])) (h2:∀(d g:LN) (H':Hp),H d=none->H g=none->PlainAt C H' p d g [] []->(∀b o,H b=some o->b≠p->H' b=some o)->Q .non H'):spPInit C vs H Q E_
def wF(H:Hp)(kvs:Mc)(ws:List Str)(ps:Md):Prop:=ws.length=ps.length/\∀(i:Nat) (w:Str) (v:V),ws[i]?=some w->ps[i]?=some v ->
 (w="new"->∃k,NameIs H v k/\bI kvs k=none)/\((w="item"\/w="up")->v=.non\/∃k,NameIs H v k/\(bI kvs k).isSome=true)
inductive spCheckN(C:LN)(vs:Md)(H:Hp)(Q:VK)(E_:XK):Prop
 |mk (p d g st:LN) (kvs gvs:Mc) (w:Str) (ws:List Str) (ps:Md) (h0:vs=[.ref p,.ref st]) (h1:PlainAt C H p d g kvs gvs) (h2:H st=some (.tup (.str w::ps))) (h3:PyProof.Rows.KTD.datumAt w ST=some (tw ws)) (h4:wF H kvs ws ps) (h5:∀H',Same H H'->Q .non H'):spCheckN C vs H Q E_
inductive spBring(C:LN)(vs:Md)(H:Hp)(Q:VK)(E_:XK):Prop
 |mk (p d g:LN) (kvs gvs:Mc) (nm up pl tx:V) (k:List Key) (h0:vs=[.ref p,nm,up,pl,tx]) (h1:PlainAt C H p d g kvs gvs) (h2:NameIs H nm k) (h3:kvs.length<=500) (h4:∀(t:LN) (H':Hp),Same H H'->H' t=some (.tup [up,pl,tx,.bl false,.non,.bl false])->Q .non (upd H' d (.dT (bP kvs k (.ref t))))):spBring C vs H Q E_
inductive spItem(C:LN)(vs:Md)(H:Hp)(Q:VK)(E_:XK):Prop
 |mk (p d g:LN) (kvs gvs:Mc) (nm v:V) (k:List Key) (h0:vs=[.ref p,nm]) (h1:PlainAt C H p d g kvs gvs) (h2:NameIs H nm k) (h3:bI kvs k=some v) (h4:Q v H):spItem C vs H Q E_
structure TxP(K:W.Frag)(C:LN):Prop where
 cl:Cls K C
 nH:NoAttr K C "held"
 nA:NoAttr K C "away"
abbrev ie:Stmt:=top 24
abbrev tR:List Str:=["word"]
def sM:FnScope tR ["word"] (aj ie):= ~~~0
def sH(F:Fun K "step_parts" "step_parts" ie f fd)(Ka:mg "STEP_PARTS" = some (.ref dd))(T:Tab K dd ST):↑FnOk CX0 1 f fd ["word"] (spSParts K):=by
 exists sM
 exists[k,ws,rfl,hk,q],h;exists _,(b_1 (am (ao zq (vp Ka) ↑0)))
 exact#[_,rfl,dd,k,ST,tw ws,rfl,rfl,T,hk,q]
abbrev gZ:Stmt:=bU (top 30) 0
abbrev tI:List Str:=["self"]
def sI:FnScope tI ["self"] (aj gZ):= ~~~0
def sq(F:Fun K "__init__" "Plain.__init__" gZ f fd)(T:TxP K C):↑FnOk CX0 1 f fd ["self"] (spPInit C):=by
 exists sI
 exists[p,dx,rfl,hp,k],h;exists _,(b_c (sX ↑0 sW)
   (b_1 (sX ↑0 sW)))
 intro d hd;have npd:p≠d:=ar hp hd;refine#[_,rfl,p,C,dx,[],rfl,(by rw[ag npd];exact hp),T.cl,T.nH,(by show 0<1000;decide),?_];intro g hg;have hg0:H g=none:=by
  cases e:H g with
  |none=>rfl
  |some o =>
   have:g≠d:=ar e hd;by_cases c:g=p
   ·subst c;rw[ac]at hg;cases hg
   ·rw[ag c,ag this,e]at hg;cases hg
 have ngp:g≠p:=λz=>by rw[z,hp]at hg0;cases hg0
 have ngd:g≠d:=λz=>by rw[z,ag npd.symm,ac]at hg;cases hg
 refine#[_,rfl,p,C,dx,_,rfl,(by rw[ag ngp.symm,ac]),T.cl,T.nA,(by show 1<1000;decide),?_];refine k d g _ hd hg0 #[#[dx,ac],by rw[ag npd.symm,ag ngd.symm,ag npd.symm,ac],by rw[ag ngp,ac],ngd.symm] λb o e hb=>?_;rw[ag hb,ag (ar e hg0),ag hb,ag (ar e hd)];exact e
abbrev eQ:Stmt:=bU (top 30) 4
abbrev ny:List Str:=["self","name","up","place","text"]
def mU:FnScope ny ["self","name","up","place","text"] (aj eQ):= ~~~0
def mS(F:Fun K "bring_in" "Plain.bring_in" eQ f fd)(T:TxP K C):↑FnOk CX0 1 f fd ["self","name","up","place","text"] (spBring C):=by
 exists mU
 exists[p,d,g,kvs,gvs,nm,up,pl,tx,k,rfl,S,hn,hl,q],h;obtain⟨⟨dx,h1⟩,h2,h3,h4⟩:=id S;exists _,(b_1 (lD hr.units (cT ↑0) ↑1 (aW (q_a ↑2 (q_a ↑3 (q_a ↑4 (q_a fK (q_a cM (q_a fK ah)))))))))
 refine#[_,rfl,_,rfl,_,rfl,sz rfl,λt ht=>?_];have sm:=ad ht (.tup [up,pl,tx,.bl false,.non,.bl false]);exists[b,rfl,hb],hn;exact#[_,rfl,p,C,dx,_,_,rfl,sm _ _ h1,T.cl,T.nH,dr _ _,_,rfl,d,_,rfl,DPut.t (sm _ _ h2) (sm _ _ hb) (cD ∅),q t _ sm ac]
def Ji(w:Str):inV (.str w) [.str "item",.str "up"]=decide (w="item"\/w="up"):=by
 unfold inV eqV;by_cases h1:w="item"
 ·subst h1;simp
 ·by_cases h2:w="up"
  ·subst h2;simp
  ·simp[h1,h2,y7 h1,y7 h2]
abbrev dF:Stmt:=bU (top 30) 2
abbrev kh:List Str:=["self","step","kinds","kind","name"]
def bq:FnScope kh ["self","step"] (aj dF):= ~~~0
def jM(F:Fun K "check_names" "Plain.check_names" dF f fd)(T:TxP K C)(Kb:↑Fn 1 "step_parts" ["word"] (spSParts K))(u6:mg "zip" = none):↑FnOk CX0 2 f fd ["self","step"] (spCheckN C):=by
 exists bq
 exists[p,d,g,st,kvs,gvs,wd,ws,ps,rfl,S,hst,hk,ok,q],h;obtain⟨⟨dx,h1⟩,h2,h3,h4⟩:=id S;exists _,(b_c (ax (i:=2) bq.nd (aG Kb ↑99 (q_a (ao au ↑1 af) ah)))
   (b_c (jS Yp rfl (DW u6 (q_a ↑2 (q_a (iO iY ↑1 (iN af) iM) ah))) (iu rfl (cF (aA (i:=3) bq.nd) (cF (aA (i:=4) bq.nd) iG))) (b_1 (aC (t_w (cA (aq aD ↑3 ai) (bY (Eo hr.units ↑4 (cT ↑0))))) (b_1 dY) b_0)))
   (b_1 (jS Yp rfl (DW u6 (q_a ↑2 (q_a (iO iY ↑1 (iN af) iM) ah))) (iu rfl (cF (aA (i:=3) bq.nd) (cF (aA (i:=4) bq.nd) iG))) (b_1 (aC (t_w (cA (aq (D7 (K:=K) rfl) ↑3 (aW (q_a ai (q_a ai ah)))) (cA (aq kW ↑4 cM) (bY (oA hr.units ↑4 (cT ↑0)))))) (b_1 dY) b_0))))))
 refine(vix rfl (L6 hst) at0 #[wd,ws,rfl,hk,λt ht=>?_]);have c1:cu (V.str wd::ps) (some 1) none=ps:=by unfold cu;rw[HT.sIx_none,show(1:Int)=((1:Nat):Int)from rfl,HT.sIx_nat];simp
 have lw:(ws.map V.str).length=ps.length:=by rw[Zd];exact ok.1
 have item:∀{i:Nat} {x:V},(ws.map V.str)[i]?=some x->∃w',ws[i]?=some w'/\x=.str w':=fun{i x} hx=>by rw[Zq]at hx;exists[w',e1,e2],ZL.mp hx;exact#[w',e1,e2.symm]
 refine#[_,rfl,_,rfl,_,rfl,st,_,rfl,hst,λz H1 s1 e1=>?_];rw[c1]at e1;refine#[t,z,_,_,rfl,ht _,L6 e1,lw,?_];refine xa (i:=3) (j:=4) (λi σ H'=>Same H H'/\H' z=some (.tup ps)/\∃o3 o4,σ=[some (.ref p),some (.ref st),some (.ref t),o3,o4]) #[s1,e1,none,none,rfl] (λ_ _ _ _ _=>ht _) (λ_ _ _ _ v=>L6 v.2.1) lw ?_ ?_
 ·rintro i x v σ H' hx hv ⟨sm,ez,o3,o4,rfl⟩ T' gT;have wT:=ad gT (.tup [x,v]);exists[w',hw,rfl],item hx;have sm':=sm.trans wT;refine#[_,rfl,rfl,_,rfl,bp (λc=>?_) (λc=>?_)]
  ·injection c with c;subst c;obtain⟨k,⟨b,rfl,hb⟩,hn⟩:=((ok.2 i _ v hw hv).1 rfl)
   refine#[_,rfl,_,rfl,p,C,dx,_,_,rfl,sm' _ _ h1,T.cl,T.nH,dr _ _,d,none,rfl,hn▸DGet.t (sm' _ _ h2) (sm' _ _ hb),_,rfl,aJ ?_];exact#[sm',wT _ _ ez,_,_,rfl]
  ·exact aJ #[sm',wT _ _ ez,_,_,rfl]
 ·rintro σ H' ⟨sm,ez,o3,o4,rfl⟩;refine#[_,rfl,_,rfl,_,rfl,st,_,rfl,sm _ _ hst,λz' H2 s2 e2=>?_];rw[c1]at e2;refine#[t,z',_,_,rfl,ht _,L6 e2,lw,?_];refine xa (i:=3) (j:=4) (λi σ H'=>Same H H'/\H' z'=some (.tup ps)/\∃o3 o4,σ=[some (.ref p),some (.ref st),some (.ref t),o3,o4]) #[sm.trans s2,e2,o3,o4,rfl] (λ_ _ _ _ _=>ht _) (λ_ _ _ _ v=>L6 v.2.1) lw ?_ ?_
  ·rintro i x v σ H' hx hv ⟨sm,ez,o3,o4,rfl⟩ T' gT;have wT:=ad gT (.tup [x,v]);exists[w',hw,rfl],item hx;have sm':=sm.trans wT;refine#[_,rfl,sz rfl,λu gu=>?_];have wu:=ad gu (.tup [.str "item",.str "up"]);have sm2:=sm'.trans wu;refine#[u,_,rfl,.inr (L6 ac),rfl,rfl,_,rfl,?_];have ei:(if false=true then !inV (V.str w') [.str "item",.str "up"]else inV (V.str w') [.str "item",.str "up"])=decide (w'="item"\/w'="up"):=Ji w';have fin:∃o3 o4,(((([some (V.ref p),some (.ref st),some (.ref t),o3,o4]:St).set 3 (some (.str w'))).set 4 (some v)))=[some (.ref p),some (.ref st),some (.ref t),o3,o4]:=#[_,_,rfl]
   rw[ei];refine bp (λc=>?_) (λc=>?_)
   ·rcases(ok.2 i _ v hw hv).2 c with rfl|⟨k,⟨b,rfl,hb⟩,hn⟩
    ·refine#[_,rfl,rfl,_,rfl,DY rfl ?_];exact aJ #[sm2,wu _ _ (wT _ _ ez),_,_,rfl]
    ·refine#[_,rfl,rfl,_,rfl,DX nofun ?_];refine#[_,rfl,_,rfl,p,C,dx,_,_,rfl,sm2 _ _ h1,T.cl,T.nH,dr _ _,d,_,rfl,DGet.t (sm2 _ _ h2) (sm2 _ _ hb),_,rfl,?_];rw[hn];exact aJ #[sm2,wu _ _ (wT _ _ ez),_,_,rfl]
   ·exact aJ #[sm2,wu _ _ (wT _ _ ez),_,_,rfl]
  ·rintro σ H' ⟨sm,ez,o3,o4,rfl⟩;exact q H' sm
inductive spBounds(C:LN)(vs:Md)(H:Hp)(Q:VK)(E_:XK):Prop
 |mk (p st:LN) (w:Str) (ps:Md) (h0:vs=[.ref p,.ref st]) (h1:H st=some (.tup (.str w::ps))) (h2:V.str w≠V.str "move") (h3:V.str w≠V.str "join") (h4:V.str w≠V.str "part") (h5:Q .non H):spBounds C vs H Q E_
abbrev je:Stmt:=bU (top 30) 12
abbrev dv:Stmt:=bU (top 30) 3
abbrev jq:List Str:=["self","step"]
def jh:FnScope jq ["self","step"] (aj dv):= ~~~0
def jb(F:Fun K "check_bounds" "Plain.check_bounds" dv f fd)(j5:↑MFn 1 C "at_or_beneath" ["self","one","other"] qX)(j1:mg "TEXT_plain" = some (.int 2 tk))(a8:mg "len" = none):
  FnOk P w K mg base CX0 2 f fd ["self","step"] (spBounds C):=by
 exists jh
 exists[p,st,wd,ps,rfl,hst,n1,n2,n3,q],h;exists _,(b_c (aC (t_w (cA (aq aD (ao au ↑1 af) ai) (bY (cc (br j5 ↑99 ↑0 (q_a (ao au ↑1 af) (q_a (ao au ↑1 af) ah))))))) (b_1 dY) b_0)
   (b_c (aC (t_w (cA (aq aD (ao au ↑1 af) ai) (bY (cc (br j5 ↑99 ↑0 (q_a (ao au ↑1 af) (q_a (ao au ↑1 af) ah))))))) (b_1 dY) b_0)
   (b_1 (aC (t_w (cA (aq aD (ao au ↑1 af) ai) (bY (aq jK (ao au ↑1 af) (q_B oK a8 ZH (q_a (ao au (dM hr.units (cT ↑0) (ao au ↑1 af)) (bV j1)) ah)))))) (b_1 dY) b_0))))
 refine(vix rfl (L6 hst) at0 #[rfl,_,rfl,jE n1 (aJ ?_)]);refine(vix rfl (L6 hst) at0 #[rfl,_,rfl,jE n2 (aJ ?_)]);exact(vix rfl (L6 hst) at0 #[rfl,_,rfl,jE n3 (aJ q)])
def fE(h a:LN){m:Str}(h1:¬m="away":=by decide)(h2:¬m="held":=by decide):(pfl h a).lookup m=none:=vh h a h1 h2
def jm{H:Hp}(h:H d=some (.dT kvs)):TS H (upd H d (.dT kvs')):=λa zs e=>by rw[ag (jJ e h nofun)];exact e
abbrev Nm:=Int×Int
structure It where
 up:Option Nm
 pl:LX
 tx:Str
 dn:Bool
 wh:Option Int
 fo:Bool
abbrev Ol:=List (Nm×It)
def nk(n:Nm):List Key:=[.inl n.1,.inl n.2]
def pC(h:nk n=nk m):n=m:=by unfold nk at h;injection h with h1 h2;injection h2 with h2 _;injection h1 with h1;injection h2 with h2;exact Prod.ext h1 h2
abbrev As(β:Type):=List (Nm×β)
def look{β:Type}:As β->Nm->Option β
 | [],_=>none
 |p::l,n=>if p.1=n then some p.2 else look l n
def bu{β:Type}(l:As β)(n:Nm)(i:β):As β:=if(look l n).isSome=true then l.map (λp=>if p.1=n then(p.1,i)else p)else l++[(n,i)]
def UpAt(H:Hp)(v:V):Option Nm->Prop
 |none=>v=.non
 |some n=>NameIs H v (nk n)
inductive PlAt(H:Hp)(v:V)(ns:LX):Prop
 |mk (b:_) (h0:v=.ref b) (h1:H b=some (.tup (ns.map V.int))):PlAt H v ns
inductive ItAt(H:Hp)(v:V)(it:It):Prop
 |mk (a:LN) (uv pv:V) (h0:v=.ref a) (h1:H a=some (.tup [uv,pv,.str it.tx,.bl it.dn,whV it.wh,.bl it.fo])) (h2:UpAt H uv it.up) (h3:PlAt H pv it.pl):ItAt H v it
def NameIs.ts'{k:List Key}(x:NameIs H v k)(s:TS H H'):NameIs H' v k:=by exists[b,h1,h2],x;exact#[b,h1,s _ _ h2]
def UpAt.ts(x:UpAt H v u)(s:TS H H'):UpAt H' v u:=by
 cases u with
 |none=>exact x
 |some n=>exact NameIs.ts' x s
def PlAt.ts(x:PlAt H v ns)(s:TS H H'):PlAt H' v ns:=by exists[b,h1,h2],x;exact#[b,h1,s _ _ h2]
def ItAt.ts(x:ItAt H v it)(s:TS H H'):ItAt H' v it:=by exists[a,uv,pv,h1,h2,h3,h4],x;exact#[a,uv,pv,h1,s _ _ h2,h3.ts s,h4.ts s]
abbrev Rws{β:Type}(R:V->β->Prop)(kvs:Mc)(ol:As β):Prop:=Paired (λp q=>p.1=nk q.1/\R p.2 q.2) kvs ol
abbrev Rows(H:Hp)(kvs:Mc)(ol:Ol):Prop:=Rws (ItAt H) kvs ol
def Rows.ts{ol:Ol}(x:Rows H kvs ol)(s:TS H H'):Rows H' kvs ol:=Paired.mapP x λ_ _ z=>#[z.1,z.2.ts s]
def yY{l:Mc}{k:List Key}(h:k∈l.map (·.1)):(bI l k).isSome=true:=by
 cases e:bI l k with
 |none=>exact absurd h (DF e)
 |some v=>rfl
def C5{l:Mc}{k:List Key}(v:V)(h:k∈l.map (·.1)):bP l k v=l.map (λkv=>if kv.1=k then(kv.1,v)else kv):=by unfold bP;rw[LI];rw[fQ];exact yY h
section
variable{β:Type}{ol:As β}
def lB(x:Rws R kvs ol)(h:look ol n=none):bI kvs (nk n)=none:=by
 induction x with
 |nil=>rfl
 |@cons p q _ _ r _ ih =>
  unfold look at h;by_cases c:q.1=n
  ·rw[LI c]at h;cases h
  ·rw[LH c]at h;rw[io λz=>c (pC (r.1.symm.trans z))];exact ih h
def cC(x:Rws R kvs ol)(h:look ol n=some it):∃v,bI kvs (nk n)=some v/\R v it:=by
 induction x with
 |nil=>cases h
 |@cons p q _ _ r _ ih =>
  unfold look at h;by_cases c:q.1=n
  ·rw[LI c]at h;cases h;exact#[p.2,jW (r.1.trans (ZN nk c)),r.2]
  ·rw[LH c]at h;rw[io λz=>c (pC (r.1.symm.trans z))];exact ih h
def mK(x:Rws R kvs ol):(bI kvs (nk n)).isSome=(look ol n).isSome:=by
 cases e:look ol n with
 |none=>rw[lB x e];rfl
 |some it =>exists[v,h,_],cC x e;rw[h];rfl
def Dj(x:Rws R kvs ol)(hv:R v it):Rws R (kvs.map λkv=>if kv.1=nk n then(kv.1,v)else kv) (ol.map λp=>if p.1=n then(p.1,it)else p):=by
 induction x with
 |nil=>exact .nil
 |@cons p q _ _ r _ ih =>
  rw[Zs,Zs];refine .cons ?_ ih;by_cases c:p.1=nk n
  ·rw[LI c,LI (pC (r.1.symm.trans c))];exact#[r.1,hv]
  ·rw[LH c,LH λz=>c (r.1.trans (ZN nk z))];exact r
def jQ(x:Rws R kvs ol)(hv:R v it):Rws R (bP kvs (nk n) v) (bu ol n it):=by
 unfold bu;cases e:look ol n with
 |none =>rw[C4 _ (lB x e),LH (by simp)];exact Paired.snoc x #[rfl,hv]
 |some it0 =>exists[v0,h0,_],cC x e;rw[C5 _ (Gb h0),LI (show(some it0).isSome=true from rfl)];exact Dj x hv
def gY(x:Rws R kvs ol):kvs.length=ol.length:=Z8 x
end
inductive OlAt(C:LN)(H:Hp)(p d g:LN)(ol:Ol):Prop
 |mk (kvs gvs:_) (h0:PlainAt C H p d g kvs gvs) (h1:Rows H kvs ol):OlAt C H p d g ol
inductive GoneAt(H:Hp)(g:LN)(gs:As Unit):Prop
 |mk (gvs:_) (h0:H g=some (.dT gvs)) (h1:Rws (λv _=>v=.bl true) gvs gs):GoneAt H g gs
def OlAt.same{ol:Ol}(x:OlAt C H p d g ol)(s:Same H H'):OlAt C H' p d g ol:=by exists[kvs,gvs,h1,h2],x;exact#[kvs,gvs,h1.same s,h2.ts (L5 s)]
def GoneAt.same{gs:As Unit}(x:GoneAt H g gs)(s:Same H H'):GoneAt H' g gs:=by exists[gvs,h1,h2],x;exact#[gvs,s _ _ h1,h2]
def But.put(s:Same H H')(o:HO):But d H (upd H' d o):=λb u h n=>by rw[ag n];exact s _ _ h
def AX{p d g t:LN}{ol:Ol}(S:PlainAt C H p d g kvs gvs)(R:Rows H kvs ol)(s:Same H H')(hi:ItAt H' (.ref t) it):OlAt C (upd H' d (.dT (bP kvs (nk n) (.ref t)))) p d g (bu ol n it):=by have td:TS H' (upd H' d (.dT (bP kvs (nk n) (.ref t)))):=jm (s _ _ S.dc);exact#[_,_,(S.same s).put,Rows.ts (jQ (Rows.ts R (L5 s)) hi) td]
def But2(d g:LN)(H H':Hp):Prop:=∀b o,H b=some o->b≠d->b≠g->H' b=some o
def GoneAt.but{gs:As Unit}(x:GoneAt H g gs)(b:But d H H')(ne:d≠g):GoneAt H' g gs:=by exists[gvs,h1,h2],x;exact#[gvs,b _ _ h1 (y7 ne),h2]
def FC:List (Str×TV):=[("move",.flat (.int 0)),("write",.flat (.int 2)),("mark",.flat (.int 3)),("due",.flat (.int 4)),("fold",.flat (.int 5))]
inductive spChange(C:LN)(vs:Md)(H:Hp)(Q:VK)(E_:XK):Prop
 |mk (p d g it va:LN) (kvs gvs:Mc) (nm:V) (k:List Key) (i:Nat) (xs ys:Md) (h0:vs=[.ref p,nm,.int (i:Int),.ref va]) (h1:PlainAt C H p d g kvs gvs) (h2:NameIs H nm k) (h3:kvs.length<=500) (h4:bI kvs k=some (.ref it)) (h5:H it=some (.tup xs)) (h6:H va=some (.tup ys)) (h7:i+ys.length<=xs.length) (h8:xs.length<=100) (h9:∀(t:LN) (H':Hp),Same H H'->H' t=some (.tup (xs.take i++ys++xs.drop (i+ys.length)))->Q .non (upd H' d (.dT (bP kvs k (.ref t))))):spChange C vs H Q E_
abbrev fL:Stmt:=bU (top 30) 5
abbrev qd:List Str:=["self","name","first","values","item"]
def iC:FnScope qd ["self","name","first","values"] (aj fL):= ~~~0
def pH(F:Fun K "change" "Plain.change" fL f fd)(T:TxP K C)(a8:mg "len" = none):↑FnOk CX0 1 f fd ["self","name","first","values"] (spChange C):=by
 exists iC
 exists[p,d,g,it,va,kvs,gvs,nm,k,i,xs,ys,rfl,S,hn,hl,hv,hit,hva,hi,hx,q],h;obtain⟨⟨dx,h1⟩,h2,h3,h4⟩:=id S;exists[b,rfl,hb],hn;exists _,(b_c (ax (i:=4) iC.nd (dM hr.units (cT ↑0) ↑1))
   (b_1 (lD hr.units (cT ↑0) ↑1 (aw uY (aw uY (iO iY ↑4 iM (iN ↑2)) ↑3) (iO iY ↑4 (iN (aw eX ↑2 (q_B bM a8 ZH (q_a ↑3 ah)))) iM)))))
 refine#[_,rfl,p,C,dx,_,_,rfl,h1,T.cl,T.nH,dr _ _,_,rfl,d,_,rfl,hv▸DGet.t h2 hb,?_];refine#[_,rfl,_,rfl,_,rfl,it,xs,rfl,hit,λt1 H1 s1 e1=>?_];have c1:cu xs none (some (i:Int))=xs.take i:=by unfold cu;rw[HT.sIx_none,HT.sIx_nat,List.drop_zero,Nat.sub_zero,Y8 ∅]
 rw[c1]at e1;refine#[_,rfl,t1,va,_,_,rfl,rfl,e1,s1 _ _ hva,dh (by rw[ZD];omega),λt2 H2 s2 e2=>?_];refine#[_,rfl,_,rfl,_,rfl,va,ys,rfl,.inr (L6 (s2 _ _ (s1 _ _ hva))),_,_,rfl,rfl,_,rfl,it,xs,rfl,s2 _ _ (s1 _ _ hit),λt3 H3 s3 e3=>?_];have c2:cu xs (some ((i:Int)+(ys.length:Int))) none=xs.drop (i+ys.length):=by unfold cu;rw[HT.sIx_none,show(i:Int)+(ys.length:Int)=((i+ys.length:Nat):Int) by omega,HT.sIx_nat,Y8 hi,YB (by rw[Yt];omega)]
 rw[c2]at e3;refine#[t2,t3,_,_,rfl,rfl,s3 _ _ e2,e3,dh (by rw[Zi,ZD,Yt];omega),λt4 H4 s4 e4=>?_];have sm:Same H H4:=s1.trans (s2.trans (s3.trans s4));exact#[_,rfl,p,C,dx,_,_,rfl,sm _ _ h1,T.cl,T.nH,dr _ _,_,rfl,d,_,rfl,DPut.t (sm _ _ h2) (sm _ _ hb) (cD ∅),q t4 _ sm e4]
inductive Ck
 |mark (b:Bool)
 |due (o:Option Int)
 |fold (b:Bool)
def Ck.wd:Ck->Str
 |.mark _=>"mark"
 |.due _=>"due"
 |.fold _=>"fold"
def Ck.pt:Ck->Str
 |.mark _=>"truth"
 |.due _=>"whom"
 |.fold _=>"truth"
def Ck.ix:Ck->Nat
 |.mark _=>3
 |.due _=>4
 |.fold _=>5
def Ck.vl:Ck->V
 |.mark b=>.bl b
 |.due o=>whV o
 |.fold b=>.bl b
def Ck.on(it:It):Ck->It
 |.mark b=>{ it with dn:=b }
 |.due o=>{ it with wh:=o }
 |.fold b=>{ it with fo:=b }
def Ck.nes(c:Ck):(¬V.str c.wd=V.str "put"/\¬V.str c.wd=V.str "part"/\¬V.str c.wd=V.str "join"/\¬V.str c.wd=V.str "gone"/\¬V.str c.wd=V.str "move")/\PyProof.Rows.KTD.datumAt c.wd ST=some (tw ["item",c.pt])/\PyProof.Rows.KTD.datumAt c.wd FC=some (.flat (.int (c.ix:Int)))/\c.ix+1<=6/\c.pt≠"new"/\¬(c.pt="item"\/c.pt="up"):=by cases c<;>(dsimp only[Ck.wd,Ck.pt,Ck.ix];exact#[#[⋯,⋯,⋯,⋯,⋯],rfl,rfl,⋯,⋯,⋯])
inductive Sd
 |put (n:Nm)(u:Option Nm)(pl:LX)(tx:Str)
 |set (n:Nm)(c:Ck)
 |gone (n:Nm)
def StAt(H:Hp)(st:LN):Sd->Prop
 |.put n u pl tx=>∃nv uv pv,H st=some (.tup [.str "put",nv,uv,pv,.str tx])/\NameIs H nv (nk n)/\UpAt H uv u/\PlAt H pv pl
 |.set n c=>∃nv,H st=some (.tup [.str c.wd,nv,c.vl])/\NameIs H nv (nk n)
 |.gone n=>∃nv,H st=some (.tup [.str "gone",nv])/\NameIs H nv (nk n)
def StAt.ts{st:LN}(x:StAt H st s)(t:TS H H'):StAt H' st s:=by
 cases s with
 |put=>exists[nv,uv,pv,h1,h2,h3,h4],x;exact#[nv,uv,pv,t _ _ h1,h2.ts' t,h3.ts t,h4.ts t]
 |set=>exists[nv,h1,h2],x;exact#[nv,t _ _ h1,h2.ts' t]
 |gone=>exists[nv,h1,h2],x;exact#[nv,t _ _ h1,h2.ts' t]
def Sd.may(ol:Ol):Sd->Prop
 |.put n u _ _=>look ol n=none/\∀m,u=some m->(look ol m).isSome=true
 |.set n _=>(look ol n).isSome=true
 |.gone n=>(look ol n).isSome=true
def Sd.ol(ol:Ol):Sd->Ol
 |.put n u pl tx=>bu ol n #[u,pl,tx,false,none,false]
 |.set n c=>bu ol n (c.on ((look ol n).getD #[none,[],"",false,none,false]))
 |.gone _=>ol
def Sd.gs(gs:As Unit):Sd->As Unit
 |.put _ _ _ _=>gs
 |.set _ _=>gs
 |.gone n=>bu gs n ()
def Du{st:LN}{ol:Ol}(R:Rows H kvs ol)(h:StAt H st s)(hm:s.may ol):∃wd ws ps,H st=some (.tup (.str wd::ps))/\PyProof.Rows.KTD.datumAt wd ST=some (tw ws)/\wF H kvs ws ps:=by
 have old:∀{v:V} {n:Nm},NameIs H v (nk n)->(look ol n).isSome=true->v=.non\/∃k,NameIs H v k/\(bI kvs k).isSome=true:=fun{v n} h1 h2=>.inr #[_,h1,by rw[mK R];exact h2];cases s with
 |put n u pl tx =>
  exists[nv,uv,pv,h1,h2,h3,h4],h;refine#[_,_,_,h1,rfl,rfl,λi w v e1 e2=>?_]
  match i,e1,e2 with
  |0,e1,e2=>cases e1;cases e2;exact#[λ_=>#[_,h2,lB R hm.1],λz=>absurd z ⋯]
  |1,e1,e2 =>
   cases e1;cases e2;refine#[λz=>absurd z ⋯,λ_=>?_];cases u with
   |none=>exact .inl h3
   |some x=>exact old h3 (hm.2 x rfl)
  |2,e1,e2=>cases e1;exact#[λz=>absurd z ⋯,λz=>absurd z ⋯]
  |3,e1,e2=>cases e1;exact#[λz=>absurd z ⋯,λz=>absurd z ⋯]
  |i+4,e1,e2=>simp at e1
 |set n c =>
  exists[nv,h1,h2],h;refine#[_,_,_,h1,c.nes.2.1,rfl,λi w v e1 e2=>?_]
  match i,e1,e2 with
  |0,e1,e2=>cases e1;cases e2;exact#[λz=>absurd z ⋯,λ_=>old h2 hm]
  |1,e1,e2=>cases e1;exact#[λz=>absurd z c.nes.2.2.2.2.1,λz=>absurd z c.nes.2.2.2.2.2]
  |i+2,e1,e2=>simp at e1
 |gone n =>
  exists[nv,h1,h2],h;refine#[_,_,_,h1,rfl,rfl,λi w v e1 e2=>?_]
  match i,e1,e2 with
  |0,e1,e2=>cases e1;cases e2;exact#[λz=>absurd z ⋯,λ_=>old h2 hm]
  |i+1,e1,e2=>simp at e1
inductive spStep(C:LN)(vs:Md)(H:Hp)(Q:VK)(E:XK):Prop
 |mk (p d g st:LN) (ol:Ol) (gs:As Unit) (s:Sd) (h0:vs=[.ref p,.ref st]) (h1:OlAt C H p d g ol) (hg:GoneAt H g gs) (l:ol.length<=60) (lg:gs.length<=60) (hs:StAt H st s) (hm:s.may ol)
   (q:∀H',But2 d g H H'->OlAt C H' p d g (s.ol ol)->GoneAt H' g (s.gs gs)->Q .non H'):spStep C vs H Q E
abbrev hU:Stmt:=bU (top 30) 1
abbrev tK:List Str:=["self","step","word"]
def kf:FnScope tK ["self","step"] (aj hU):= ~~~0
def ss(F:Fun K "step" "Plain.step" hU f fd)(a9:TxP K C)(u7:↑MFn 2 C "check_names" ["self","step"] (spCheckN C))(q9:↑MFn 2 C "check_bounds" ["self","step"] (spBounds C))(Ks:↑MFn 1 C "bring_in" ["self","name","up","place","text"] (spBring C))(KM:↑MFn 1 C "change" ["self","name","first","values"] (spChange C))(l9:mg "FIRST_CHANGED" = some (.ref dd))(TF:Tab K dd FC):
  FnOk P w K mg base CX0 3 f fd ["self","step"] (spStep C):=by
 exists kf
 exists[p,d,g,st,ol,gs,sk,rfl,O,G,l3,l4,hs,hm,q],h;exists[kvs,gvs,S,R],id O;obtain⟨⟨dx,h1⟩,h2,h3,h4⟩:=id S;have lk:=gY R;exists[wd,ws,ps,hst,dat,ok],Du R hs hm;exists _,(b_c (bC (br u7 ↑99 ↑0 (q_a ↑1 ah)))
   (b_c (bC (br q9 ↑99 ↑0 (q_a ↑1 ah)))
   (b_c (ax (i:=2) kf.nd (ao au ↑1 af))
   (b_1 (aC (aq aD ↑2 ai) (b_1 (bC (br Ks ↑99 ↑0 (q_a (ao au ↑1 af) (q_a (ao au ↑1 af) (q_a (ao au ↑1 af) (q_a (ao au ↑1 af) ah))))))) (b_1 (aC (aq aD ↑2 ai) (b_1 dY) (b_1 (aC (aq aD ↑2 ai) (b_1 dY) (b_1 (aC (aq aD ↑2 ai) (b_1 (lD hr.units (cT ↑0) (ao au ↑1 af) fK)) (b_1 (bC (br KM ↑99 ↑0 (q_a (ao au ↑1 af) (q_a (ao zq (vp l9) ↑2) (q_a (iO iY ↑1 (iN af) iM) ah)))))))))))))))))
 refine#[_,rfl,p,dx,_,rfl,h1,fE _ _,_,rfl,p,d,g,st,kvs,gvs,wd,ws,ps,rfl,S,hst,dat,ok,λH1 s1=>?_];have hs1:=hs.ts (L5 s1);have S1:=S.same s1;have R1:=R.ts (L5 s1);have y1:=s1 _ _ h1;cases sk with
 |put n u pl tx =>
  exists[nv,uv,pv,hst,hn,hu,hp],hs1;have e1:=L6 (K:=K) hst;refine#[_,rfl,p,dx,_,rfl,y1,fE _ _,_,rfl,p,st,_,_,rfl,hst,⋯,⋯,⋯,?_];refine vix rfl e1 at0 #[_,rfl,rfl,_,rfl,uK ?_];refine#[_,rfl,p,dx,_,rfl,y1,fE _ _,vix rfl e1 at1 (vix rfl e1 at2 (vix rfl e1 at3 (vix rfl e1 at4
   #[p,d,g,kvs,gvs,nv,uv,pv,.str tx,nk n,rfl,S1,hn,∅,λt H2 s2 e2=>?_])))]
  have bt:=But.put (d:=d) (s1.trans s2) (.dT (bP kvs (nk n) (.ref t)));exact q _ (λb o e n1 _=>bt b o e n1) (AX S1 R1 s2 #[t,uv,pv,rfl,e2,hu.ts (L5 s2),hp.ts (L5 s2)]) (G.but bt h4)
 |set n c =>exists[nv,hst,hn],hs1;have e1:=L6 (K:=K) hst;exists[it,hl],YG.mp hm;obtain⟨⟨n1,n2,n3,n4,n5⟩,_,fc,c6,_⟩:=c.nes;exists[v,hv,ia,uw,pw,rfl,c2,c3,c4],cC R1 hl;refine#[_,rfl,p,dx,_,rfl,y1,fE _ _,_,rfl,p,st,_,_,rfl,hst,n5,n3,n2,?_];refine(vix rfl e1 at0 ?_);refine#[_,rfl,rfl,_,rfl,aS n1 ?_];refine#[_,rfl,rfl,_,rfl,aS n2 ?_];refine#[_,rfl,rfl,_,rfl,aS n3 ?_];refine#[_,rfl,rfl,_,rfl,aS n4 ?_];refine#[_,rfl,p,dx,_,rfl,y1,fE _ _,vix rfl e1 at1 #[_,rfl,dd,c.wd,FC,_,rfl,rfl,TF,fc,?_]];refine#[_,rfl,_,rfl,st,_,rfl,hst,λva H2 s2 e2=>?_];refine#[p,d,g,ia,va,kvs,gvs,nv,nk n,c.ix,_,[c.vl],rfl,S1.same s2,hn.same s2,∅,hv,s2 _ _ c2,e2,c6,show 6<=100 by decide,λt H3 s3 e3=>?_];have bt:=But.put (d:=d) (s1.trans (s2.trans s3)) (.dT (bP kvs (nk n) (.ref t)));refine q _ (λb o e n1 _=>bt b o e n1) ?_ (G.but bt h4);show OlAt C _ p d g (bu ol n (c.on ((look ol n).getD #[none,[],"",false,none,false])));rw[hl];exact AX S1 R1 (s2.trans s3) #[t,uw,pw,rfl,by cases c<;>exact e3,by cases c<;>exact c3.ts (L5 (s2.trans s3)),by cases c<;>exact c4.ts (L5 (s2.trans s3))]
 |gone n =>
  exists[nv,hst,hn],hs1;have e1:=L6 (K:=K) hst;exists[nb,rfl,hnb],id hn;exists[gvs',hg',Rg],id G;have eg:gvs'=gvs:=by rw[h3]at hg';injection hg' with hg';injection hg' with hg';exact hg'.symm
  subst eg;have lgv:=gY Rg;refine#[_,rfl,p,dx,_,rfl,y1,fE _ _,_,rfl,p,st,_,_,rfl,hst,⋯,⋯,⋯,?_];refine(vix rfl e1 at0 ?_);refine#[_,rfl,rfl,_,rfl,jE ⋯ ?_];refine#[_,rfl,rfl,_,rfl,jE ⋯ ?_];refine#[_,rfl,rfl,_,rfl,jE ⋯ ?_];refine#[_,rfl,rfl,_,rfl,uK ?_];refine#[_,rfl,p,C,dx,_,_,rfl,y1,a9.cl,a9.nA,ve _ _,vix rfl e1 at1 #[g,_,rfl,DPut.t (k:=nk n) (s1 _ _ h3) hnb (cD ∅),?_]];have tg:=jm (kvs':=bP gvs' (nk n) (.bl true)) (s1 _ _ h3);obtain⟨⟨dx1,z1⟩,z2,z3,z4⟩:=id S1;exact q _ (λb o e n1 n2=>by rw[ag n2];exact s1 _ _ e) #[kvs,_,#[#[dx1,by rw[ag (jJ z1 z3 nofun)];exact z1],by rw[ag z4];exact z2,ac,z4],R1.ts tg] #[_,ac,jQ Rg rfl]
def kyP(x:Nm×It):ZKey:=.p x.2.pl [x.1.1,x.1.2]
inductive spLamP(C:LN)(kv:V)(vs:Md)(H:Hp)(Q:VK)(E_:XK):Prop
 |mk (p d g:LN) (ol:Ol) (v:V) (n:Nm) (it:It) (h0:kv=.ref p) (h1:vs=[v]) (h2:OlAt C H p d g ol) (h3:NameIs H v (nk n)) (h4:look ol n=some it) (h5:∀kv' H',Same H H'->(kyP (n,it)).at H' kv'->Q kv' H'):spLamP C kv vs H Q E_
def cJ(T:TxP K C)(Kq:mg "PLACE" = some (.int 1 tk)):↑LamOkX 1 gG (Cg ee) (Ci ee) "name" "self" (spLamP C):=by refine#[#[rfl,rfl,rfl,rfl,rfl,⋯,⋯,⋯],λf c' c kv A outer s H v Q hr h=>?_];obtain⟨p,d,g,ol,v',n,it,rfl,e,⟨kvs,gvs,S,R⟩,hn,hl,q⟩:=h;cases e;obtain⟨⟨dx,h1⟩,h2,h3,h4⟩:=id S;exists[nb,rfl,hnb],id hn;obtain⟨iv,e1,ia,uv,pv,rfl,e2,e3,⟨pb,rfl,e4⟩⟩:=cC R hl;refine#[_,(aW (q_a (ao (dQ (K:=K) rfl) (dM hr.units (Ij (K:=K) rfl ↑1) ↑0) (bV Kq)) (q_a ↑0 ah))),?_];refine#[_,rfl,p,C,dx,_,_,rfl,h1,T.cl,T.nH,dr _ _,_,rfl,d,.ref ia,rfl,e1▸DGet.t (k:=nk n) h2 hnb,?_];refine#[ia,_,_,_,rfl,rfl,L6 e2,at1,_,rfl,sz rfl,λt gt=>?_];have wt:=ad gt (.tup [.ref pb,.ref nb]);exact q _ _ wt #[t,pb,nb,rfl,ac,wt _ _ e4,wt _ _ hnb]
def I0:Nm×It:=((0,0),#[none,[],"",false,none,false])
def leP(x y:Nm×It):Prop:=HT.lexLt (kyP y).nums (kyP x).nums=false
def Dq{ol:Ol}(hp:POk ol.length p)(hs:LS (λi j=>HT.lexLt (((ol.map kyP).map ZKey.nums).getD i []) (((ol.map kyP).map ZKey.nums).getD j [])) p ol.length):(p.toList.map λi=>ol.getD i I0).Pairwise leP/\(p.toList.map λi=>ol.getD i I0).Perm ol:=by
 have ep:p.toList.Perm (List.range ol.length):=by have:=Array.perm_iff_toList_perm.mp hp;simpa using this
 refine#[?_,?_]
 ·rw[Xa];have hz:p.size=ol.length:=by have:=hp.size_eq;simpa using this
  rw[Z9];intro i j hi hj hij;rw[Zu]at hi hj;have lx:=(hs i j hij ∅).1;have e1:gA p i=p.toList[i]'(by rw[Zu];exact hi):=by rw[mf,Zg,z9 (by rw[Zu];exact hi)];rfl
  have e2:gA p j=p.toList[j]'(by rw[Zu];exact hj):=by rw[mf,Zg,z9 (by rw[Zu];exact hj)];rfl
  have m1:p.toList[i]'(by rw[Zu];exact hi)<ol.length:=ZM.mp (ep.mem_iff.mp (ZG _));have m2:p.toList[j]'(by rw[Zu];exact hj)<ol.length:=ZM.mp (ep.mem_iff.mp (ZG _));dsimp only at lx;rw[e1,e2]at lx;generalize p.toList[i]'(by rw[Zu];exact hi)=a at *;generalize p.toList[j]'(by rw[Zu];exact hj)=b at *;have ga:∀k,k<ol.length->((ol.map kyP).map ZKey.nums).getD k []=(kyP (ol.getD k I0)).nums:=λk hk=>by simp[hk]
  rw[ga a m1,ga b m2]at lx;exact lx
 ·have:=ep.map λi=>ol.getD i I0;have e:((List.range ol.length).map λi=>ol.getD i I0)=ol:=by refine Ye (by simp) λi h1 h2=>?_;simp[h2]
  rw[e]at this;exact this
abbrev KsAt(H:Hp)(M:Ol)(ks:Md):Prop:=Paired (λx v=>NameIs H v (nk x.1)) M ks
def KsAt.ts(x:KsAt H M ks)(s:TS H H'):KsAt H' M ks:=Paired.mapP x λ_ _ z=>z.ts' s
def Jj{ol:Ol}(x:fX H kvs ks)(r:Rows H' kvs ol):KsAt H ol ks:=by
 induction x generalizing ol with
 |nil=>cases r;exact .nil
 |cons h _ ih =>
  cases r with
  |cons a b =>exists[c,rfl,hc],h;exact .cons #[c,rfl,by rw[<-a.1];exact hc] (ih b)
def kP(x:KsAt H M ks):∀(i:Nat) (v:V),ks[i]?=some v->∃m,M[i]?=some m/\NameIs H v (nk m.1):=by
 induction x with
 |nil=>intro i v h;simp at h
 |cons h _ ih =>
  intro i v hv;cases i with
  |zero=>cases hv;exact#[_,rfl,h]
  |succ i=>exact ih i v hv
def EX(x:KsAt H M ks):∀(l:List Nat),(∀i∈l,i<M.length)->KsAt H (l.map λi=>M.getD i I0) (l.map λi=>ks.getD i .non):=λl=>by
 induction l with
 |nil=>intro _;exact .nil
 |cons i l ih =>
  intro h;have hi:=h i Zo;have hk:i<ks.length:=by rw[<-Z8 x];exact hi
  exists[m,hm,hn],kP x i _ (z9 hk);refine .cons ?_ (ih λj hj=>h j (Zn _ hj));dsimp only;rw[Zg,Zg,hm,z9 hk];exact hn
def JI(s:SameT T H H')(tab:aN q T pos H):TS H H':=λa zs e=>s _ _ e λz=>by exists[ps,e1,_],tab;rw[z,e1]at e;cases e
def PlainAt.sameT(x:PlainAt C H p d g kvs gvs)(s:SameT T H H')(tab:aN q T pos H):PlainAt C H' p d g kvs gvs:=by
 obtain⟨⟨dx,h1⟩,h2,h3,h4⟩:=x;exists[ps,e1,_],tab;refine#[#[dx,s _ _ h1 λz=>?_],s _ _ h2 λz=>?_,s _ _ h3 λz=>?_,h4]
 ·rw[z,e1]at h1;cases h1
 ·rw[z,e1]at h2;cases h2
 ·rw[z,e1]at h3;cases h3
def OlAt.sameT{ol:Ol}(x:OlAt C H p d g ol)(s:SameT T H H')(tab:aN q T pos H):OlAt C H' p d g ol:=by exists[kvs,gvs,a,b],x;exact#[kvs,gvs,a.sameT s tab,b.ts (JI s tab)]
def GoneAt.sameT{gs:As Unit}(x:GoneAt H g gs)(s:SameT T H H')(tab:aN q T pos H):GoneAt H' g gs:=by exists[gvs,h1,h2],x;exists[ps,e1,_],tab;exact#[gvs,s _ _ h1 (λz=>by rw[z,e1]at h1;cases h1),h2]
def cG{β:Type}{l:As β}(nd:(l.map (·.1)).Nodup){i:Nat}{x:Nm×β}(h:l[i]?=some x):look l x.1=some x.2:=by
 induction l generalizing i with
 |nil=>simp at h
 |cons y r ih =>
  rw[Zs,Yb]at nd;unfold look;cases i with
  |zero=>cases h;rw[LI rfl]
  |succ i =>have h:r[i]?=some x:=h;rw[LH fun(z:y.1=x.1)=>nd.1 (by rw[z];exact List.mem_map_of_mem (ZC h))];exact ih nd.2 h
inductive spSorted(C T:LN)(vs:Md)(H:Hp)(Q:VK)(E_:XK):Prop
 |mk (p d g:LN) (ol:Ol) (h0:vs=[.ref p]) (h1:OlAt C H p d g ol) (h2:ol.length<=60) (h3:(ol.map (·.1)).Nodup) (h4:aN gG T (fz ee) H) (h5:∀(D:LN) (H':Hp) (M:Ol) (ks:Md),M.Perm ol->M.Pairwise leP->SameT T H H'->aN gG T (fz ee) H'->H D=none->H' D=some (.lst ks)->KsAt H' M ks->Q (.ref D) H'):spSorted C T vs H Q E_
def pD(s:SameT T H H')(h:H' D=none)(hT:∃o,H' T=some o):H D=none:=by
 cases e:H D with
 |none=>rfl
 |some o =>
  by_cases z:D=T
  ·exists[o',ho],hT;rw[z,ho]at h;cases h
  ·rw[s _ _ e z]at h;cases h
def jc(F:Fun K "sorted_names" "Plain.sorted_names" cz f fd)(hcode:fd.code=.ref c0)(C:CodeHd base c0 T)(B:Blt base mg)(a9:TxP K C0)(Kq:mg "PLACE" = some (.int 1 tk))(i5:mg "sorted" = none):↑FnOk CX0 5 f fd ["self"] (spSorted C0 T):=by
 have cJ:=cJ (P:=P) (w:=w) (K:=K) (mg:=mg) (base:=base) a9 Kq;refine F.okC hcode ji (λvs H Q E h=>?_) (λA outer s H vs Q E hr h=>?_)
 ·exists[p,d,g,ol,rfl,_],h;rfl
 exists[p,d,g,ol,rfl,hO,hl,nd,tab,q],h;exists[kvs,gvs,S,R],id hO;obtain⟨⟨dx,h1⟩,h2,h3,h4⟩:=id S;refine#[_,(b_1 (am (C9 (j:=0) rfl i5 rfl C B (cJ) ↑99 (q_a (cT ↑0) ah) rfl rfl rfl rfl))),?_];refine#[_,rfl,p,C0,dx,_,_,rfl,h1,a9.cl,a9.nH,dr _ _,d,kvs,.ref p,rfl,rfl,h2,tab,λks H2 sT tab2 kat=>?_];have O2:=hO.sameT sT tab;have ka:=Jj kat R;have lk:ks.length=ol.length:=(Z8 ka).symm;refine#[∅,ol.map kyP,by rw[Zd,lk],λk hk=>?_,λi v key H' hv hk sm R' kR=>?_,λpp H3 D hp hs sm gD=>?_]
 ·exists[x,_,rfl],Zw.mp hk;exact#[_,_,rfl]
 ·exists[m,hm,hn],kP ka i v hv;rw[Zq,hm]at hk;cases hk;exact#[p,d,g,ol,v,m.1,m.2,rfl,rfl,O2.same sm,hn.ts' (λa zs e=>sm _ _ e),cG nd hm,λkv' H'' s' a=>kR kv' H'' s' a]
 ·rw[lk]at hp hs;exists[so,pe],Dq hp hs;have pl:∀i∈pp.toList,i<ol.length:=λi hi=>by have:=(hp.mem_iff).mp (Ys.mp hi);simpa using this
  have wD:=ad gD (.lst (pp.toList.map λi=>ks.getD i .non));have tab3:=aE tab2 sm;have s03:SameT T H H3:=sT.trans (.of sm);refine q D _ _ _ pe so (s03.trans (.of wD)) (aE tab3 wD) (pD s03 gD ?_) ac ((EX (ka.ts λa zs e=>sm _ _ e) _ pl).ts λa zs e=>wD _ _ e);exists[ps,e1,_],tab3;exact#[_,e1]
def grp(M:Ol)(u:Option Nm):Ol:=M.filter λx=>decide (x.2.up=u)
def upK(u:Option Nm):Option (List Key):=u.map nk
def xK(h:upK u=upK v):u=v:=by
 cases u with
 |none=>cases v with
  |none=>rfl
  |some n=>cases h
 |some m=>cases v with
  |none=>cases h
  |some n=>rw[pC (ZB h)]
structure LowAt(P:LQ)(w:LU)(H:Hp)(D:LN)(M:Ol)(kls:List (OK1×LN)):Prop where
 od:OdAt P w H D kls
 gr:∀e∈kls,∃(u:Option Nm) (ks:Md),okD e.1=upK u/\H e.2=some (.lst ks)/\KsAt H (grp M u) ks
 al:∀m∈M,(bN kls (upK m.2.up)).isSome=true
structure LowI(P:LQ)(w:LU)(H2 H:Hp)(D:LN)(M:Ol)(kls:List (OK1×LN)):Prop where
 lo:LowAt P w H D M kls
 nl:∀e∈kls,H2 e.2=none
 nd:(kls.map (·.2)).Nodup
 le:kls.length<=M.length
def UpAt.key(h:UpAt H v u):∃e:OK1,qh H v e/\okD e=upK u:=by
 cases u with
 |none=>exact#[none,h,rfl]
 |some n =>exists[b,rfl,hb],h;exact#[some (nk n,b),#[rfl,hb],rfl]
def pG{k:Option (List Key)}(h:bN kls k=some l):∃e∈kls,okD e.1=k/\e.2=l:=by unfold bN at h;exists[e,he,rfl],ZL.mp h;have:=List.find?_some he;exact#[e,List.mem_of_find?_eq_some he,ZZ this,rfl]
def pF{k:Option (List Key)}(h:(bN kls k).isSome=true\/okD e=k):(bN (kls++[(e,l)]) k).isSome=true:=by
 unfold bN at *;rw[List.find?_append];rcases h with h|h
 ·exists[x,hx],YG.mp h;exists[y,hy,_],ZL.mp hx;rw[hy];rfl
 ·cases hf:kls.find? (λe=>decide (okD e.1=k))with
  |some y=>rfl
  |none=>simp[h]
def jA(M:Ol)(m:Nm×It)(u:Option Nm):grp (M++[m]) u=if m.2.up=u then grp M u++[m]else grp M u:=by
 unfold grp;rw[List.filter_append];by_cases h:m.2.up=u
 ·rw[LI h,List.filter_cons_of_pos (by simp[h])];rfl
 ·rw[LH h,List.filter_cons_of_neg (by simp[h])];simp
def KsAt.snoc{m:Nm×It}(x:KsAt H M ks)(h:NameIs H v (nk m.1)):KsAt H (M++[m]) (ks++[v]):=by
 induction x with
 |nil=>exact .cons h .nil
 |cons a _ ih=>exact .cons a ih
def Jr{P:LQ}{w:LU}{H H':Hp}(x:OdAt P w H D kls)(h:H' D=H D)(s:TS H H'):OdAt P w H' D kls:=#[h.trans x.ob,λe he p hp=>s _ _ (x.ks e he p hp),x.nd]
def uV{α β:Type}{f:α->β}{l:List α}(nd:(l.map f).Nodup){a b:α}(ha:a∈l)(hb:b∈l)(h:f a=f b):a=b:=by
 induction l with
 |nil=>cases ha
 |cons x r ih =>
  rw[Zs,Yb]at nd;rcases Zf.mp ha with rfl|ha'
  ·rcases Zf.mp hb with rfl|hb'
   ·rfl
   ·exact absurd (by rw[h];exact List.mem_map_of_mem hb') nd.1
  ·rcases Zf.mp hb with rfl|hb'
   ·exact absurd (by rw[<-h];exact List.mem_map_of_mem ha') nd.1
   ·exact ih nd.2 ha' hb'
def Cw{k:Option (List Key)}(h:bN kls k=none):∀e∈kls,okD e.1≠k:=λe he z=>by unfold bN at h;rw[Option.map_eq_none_iff,List.find?_eq_none]at h;exact h e he (by simp[z])
def LowAt.same(x:LowAt P w H D M kls)(s:Same H H'):LowAt P w H' D M kls :=
 #[#[s _ _ x.od.ob,λe he p hp=>s _ _ (x.od.ks e he p hp),x.od.nd],λe he=>by
  exists[u,ks,h1,h2,h3],x.gr e he;exact#[u,ks,h1,s _ _ h2,h3.ts (L5 s)],x.al]
def LowI.same(x:LowI P w H2 H D M kls)(s:Same H H'):LowI P w H2 H' D M kls:=#[x.lo.same s,x.nl,x.nd,x.le]
def Eb{P:LQ}{w:LU}{H:Hp}(h:H D=some (odO P w D kls))(h2:H l=some (.lst ks)):D≠l:=λz=>by rw[z,h2]at h;unfold odO at h;cases h
def lT{H:Hp}(h:H l=some (.lst ks)):TS H (upd H l (.lst ks')):=λa zs e=>by rw[ag (jJ e h nofun)];exact e
def LowI.old{m:Nm×It}(x:LowI P w H2 H D M kls)(hl:bN kls (upK m.2.up)=some l)(hv:NameIs H v (nk m.1)):
  ∃ks,H l=some (.lst ks)/\ks.length<=M.length/\H2 l=none/\LowI P w H2 (upd H l (.lst (ks++[v]))) D (M++[m]) kls:=by
 exists[e,he,hk,rfl],pG hl;exists[u,ks,h1,h2,h3],x.lo.gr e he;have hu:u=m.2.up:=xK (h1.symm.trans hk);subst hu;have ts:=lT (ks':=ks++[v]) h2;refine#[ks,h2,by rw[<-Z8 h3];exact y8 _ _,x.nl e he,#[Jr x.lo.od (ag (Eb x.lo.od.ob h2)) ts,λe' he'=>?_,λy hy=>?_],x.nl,x.nd,by rw[Zi];exact Zt x.le (YI _ _)]
 ·by_cases z:e'.2=e.2
  ·have:=uV x.nd he' he z;subst this;refine#[m.2.up,ks++[v],h1,ac,?_];rw[jA,LI rfl];exact(h3.ts ts).snoc (hv.ts' ts)
  ·exists[u',ks',g1,g2,g3],x.lo.gr e' he';refine#[u',ks',g1,by rw[ag z];exact g2,?_];rw[jA,LH λy=>z ?_]
   ·exact g3.ts ts
   ·have:okD e'.1=okD e.1:=by rw[g1,h1,y]
    rw[uV (f:=λe=>okD e.1) x.lo.od.nd he' he this]
 ·rcases ZE.mp hy with hy|hy
  ·exact x.lo.al y hy
  ·rw[Zj]at hy;subst hy;rw[hl];rfl
def LowI.new{m:Nm×It}(x:LowI P w H2 H D M kls)(hl:bN kls (upK m.2.up)=none)(hv:NameIs H v (nk m.1))(hk:qh H uv e)(he:okD e=upK m.2.up)(g0:H l0=none)(b:But D H2 H):
  H2 l0=none/\l0≠D/\LowI P w H2 (upd (upd (upd H l0 (.lst [])) D (odO P w D (kls++[(e,l0)]))) l0 (.lst [v])) D (M++[m]) (kls++[(e,l0)]):=by
 have nD:l0≠D:=λz=>by rw[z,x.lo.od.ob]at g0;cases g0
 have n2:H2 l0=none:=by
  cases z:H2 l0 with
  |none=>rfl
  |some o=>rw[b _ _ z nD]at g0;cases g0
 have keep:∀a o,H a=some o->a≠D->upd (upd (upd H l0 (.lst [])) D (odO P w D (kls++[(e,l0)]))) l0 (.lst [v]) a=some o:=λa o ea ha=>by
  have nl:a≠l0:=λz=>by rw[z,g0]at ea;cases ea
  rw[ag nl,ag ha,ag nl];exact ea
 have ts:TS H (upd (upd (upd H l0 (.lst [])) D (odO P w D (kls++[(e,l0)]))) l0 (.lst [v])):=λa zs ea=>keep a _ ea λz=>by have:=x.lo.od.ob;rw[z,this]at ea;unfold odO at ea;cases ea
 have no:=Cw hl;refine#[n2,nD,#[#[by rw[ag (y7 nD)];exact ac,λe' he' p hp=>?_,?_],λe' he'=>?_,λy hy=>?_],λe' he'=>?_,?_,?_]
 ·rcases ZE.mp he' with he'|he'
  ·exact ts _ _ (x.lo.od.ks e' he' p hp)
  ·rw[Zj]at he';subst he';obtain rfl:e=some p:=hp;exact ts _ _ hk.2
 ·rw[ZU,List.nodup_append];refine#[x.lo.od.nd,by simp,λa ha c hc z=>?_];simp only[Zs,YN,Zj]at hc;exists[e',he',rfl],Zw.mp ha;exact no e' he' (by rw[<-he,<-hc];exact z)
 ·rcases ZE.mp he' with he'|he'
  ·exists[u',ks',g1,g2,g3],x.lo.gr e' he';refine#[u',ks',g1,keep _ _ g2 (y7 (Eb x.lo.od.ob g2)),?_];rw[jA,LH λz=>no e' he' (by rw[g1,z])];exact g3.ts ts
  ·rw[Zj]at he';subst he';refine#[m.2.up,[v],he,ac,?_];have em:grp M m.2.up=[]:=by unfold grp;rw[List.filter_eq_nil_iff];intro y hy z;have:=x.lo.al y hy;rw[ZZ z,hl]at this;cases this
   rw[jA,LI rfl,em];exact .cons (hv.ts' ts) .nil
 ·rcases ZE.mp hy with hy|hy
  ·exact pF (.inl (x.lo.al y hy))
  ·rw[Zj]at hy;subst hy;exact pF (.inr he)
 ·rcases ZE.mp he' with he'|he'
  ·exact x.nl e' he'
  ·rw[Zj]at he';subst he';exact n2
 ·rw[ZU,List.nodup_append];refine#[x.nd,by simp,λa ha c hc z=>?_];simp only[Zs,YN,Zj]at hc;exists[e',he',rfl],Zw.mp ha;exists[_,_,_,g2,_],x.lo.gr e' he';rw[z,hc,g0]at g2;cases g2
 ·rw[Zi,Zi];exact Nat.add_le_add x.le (Ze _)
def bR(gs:As Unit)(x:Nm×It):Bool:=!(look gs x.1).isSome
inductive spLower(P:LQ)(w:LU)(C T:LN)(vs:Md)(H:Hp)(Q:VK)(E_:XK):Prop
 |mk (p d g:LN) (ol:Ol) (gs:As Unit) (h0:vs=[.ref p]) (h1:OlAt C H p d g ol) (h2:GoneAt H g gs) (h3:ol.length<=60) (h4:(ol.map (·.1)).Nodup) (h5:aN gG T (fz ee) H) (h6:∀(D:LN) (H':Hp) (M:Ol) (kls:List (OK1×LN)),M.Perm ol->M.Pairwise leP->SameT T H H'->aN gG T (fz ee) H'->H D=none->kls.length<=60->LowAt P w H' D (M.filter (bR gs)) kls->Q (.ref D) H'):spLower P w C T vs H Q E_
def qN(n:Nat)(o:Obj):Heap:=#[Array.replicate n o,{}]
def De{n:Nat}(hf:∀c d s,o≠#[c,d,.freed,s])(h:(qN n o).get? a=some o'):o'=o:=by
 unfold qN Heap.get? at h;dsimp only at h;by_cases ha:a<n
 ·rw[Yf (by simpa using ha),Array.getElem_replicate]at h;split at h
  ·cases h
  ·exact(ZB h).symm
 ·rw[Array.getElem?_eq_none (by simpa using ha)]at h;cases h
def xy{n:Nat}(hf:∀c d s,o≠#[c,d,.freed,s])(ha:a<n):(qN n o).get? a=some o:=by
 unfold qN Heap.get?;dsimp only;rw[Yf (by simpa using ha),Array.getElem_replicate];split
 ·rename_i z;exact absurd (ZB z) (hf _ _ _)
 ·rfl
def Jq:odO P w D kls≠iI c q:=λz=>by
 unfold odO iI at z;injection z with z;by_cases hs:(D==sysModules)=false
 ·have e:=congrFun z (qN (D+1) { cls:=.type "dict",data:=.dict (((kls.map oE).map (fG P w)).toArray) 0 });have:=e.mp #[hs,_,_,_,xy (by intro _ _ _ y;cases y) (Yd D),#[rfl,rfl,rfl],rfl,by simp];exists[c',o,vs,t,e1,e2,e3,e4],this;have:=De (by intro _ _ _ y;cases y) e2;rw[this]at e3;cases e3
 ·have e:=congrFun z (qN (c+1) { cls:=.none,data:=.fields (List.toArray [.none,.str q 0]) });have:=e.mpr #[c,_,_,_,rfl,xy (by intro _ _ _ y;cases y) (Yd c),rfl,rfl];exact hs this.1
def Gz:(fq CX P w K mg base N qual scope f cd A outer s H E).nox.prog=P:=rfl
def GA:(fq CX P w K mg base N qual scope f cd A outer s H E).nox.w=w:=rfl
abbrev dG:Stmt:=bU (top 30) 17
abbrev kj:List Str:=["self","lower","name"]
def dz:FnScope kj ["self"] (aj dG):= ~~~0
def jN{f C T:LN}{fd:LW}{tk:Tok}(F:Fun K "lower_names" "Plain.lower_names" dG f fd)(a9:TxP K C)(r6:↑MFn 5 C "sorted_names" ["self"] (spSorted C T))(Ll:mg "UP" = some (.int 0 tk)):↑FnOk CX0 6 f fd ["self"] (spLower P w C T):=by
 exists dz
 exists[p,d,g,ol,gs,rfl,hO,hG,hl,nd,tab,q],h;exists _,(b_c (ax (i:=1) dz.nd JE)
   (b_c (jS Yp rfl (bz (cY r6 ↑99 ↑0)) (aA (i:=2) dz.nd) (b_1 (aC (oA hr.units ↑2 (cT ↑0)) (b_1 (bC (mJ (Bh hr.units ↑1 (ao au (dM hr.units (cT ↑0) ↑2) (bV Ll)) (bv ah)) ↑2))) b_0)))
   (b_1 (am ↑1))))
 rw[Gz,GA];intro D gD;have wD:=ad gD (odO P w D []);have eD:upd H D (odO P w D []) D=some (odO P w D []):=ac;generalize upd H D (odO P w D [])=H1 at wD eD ⊢;have O1:=hO.same wD;have tab1:=aE tab wD;exists[kvs1,gvs1,S1,R1],id O1;obtain⟨⟨dx,h1⟩,h2,h3,h4⟩:=id S1;refine#[_,rfl,p,dx,_,rfl,h1,vh _ _ ⋯ ⋯,p,d,g,ol,rfl,O1,hl,nd,tab1,λL H2 M ks pe so s12 tab2 gL eL ka=>?_];refine#[L,rfl,#[ks,L7 eL],?_];have O2:=O1.sameT s12 tab1;have hG2:=(hG.same wD).sameT s12 tab1;have nDT:D≠T:=λz=>by exists[ps,e1,_],tab1;rw[z,e1]at eD;cases eD
 have eD2:=s12 _ _ eD nDT;have nLD:L≠D:=λz=>by rw[z,eD]at gL;cases gL
 have lM:M.length<=60:=by rw[pe.length_eq];exact hl
 have lks:=Z8 ka;refine rD (xs:=ks) (λi σ H'=>But D H2 H'/\∃(kls:List (OK1×LN)) (o:Option V),LowI P w H2 H' D ((M.take i).filter (bR gs)) kls/\σ=[some (.ref p),some (.ref D),o]) #[λ_ _ z _=>z,[],none,#[#[#[eD2,(λe he=>by cases he),.nil],(λe he=>by cases he),(λm hm=>by simp at hm)],(λe he=>by cases he),.nil,Zy _],rfl] (λi σ H' _ hP=>L7 (hP.1 _ _ eL nLD)) (λi v σ H' hv hP D' kD=>?_) (λσ H' hP=>?_)
 ·exists[bt,kls,o,lo,rfl],hP;exists[m,hm,hn],kP ka i v hv;exists[gvs0,hg0,Rg],id hG2;exists[kvs,gvs,S,R],id O2;have ts2:TS H2 H':=λa zs e=>bt _ _ e λz=>by rw[z,eD2]at e;unfold odO at e;cases e
  have nd':∀{a:LN} {o:HO},H2 a=some o->o≠odO P w D []->H' a=some o:=λe ne=>bt _ _ e λz=>ne (by rw[z,eD2]at e;exact(ZB e).symm);obtain⟨⟨dx',k1⟩,k2,k3,k4⟩:=id S;have k1':=nd' k1 (by unfold odO;intro z;cases z);have k2':=nd' k2 (by unfold odO;intro z;cases z);have k3':=nd' k3 (by unfold odO;intro z;cases z);have hmo:m∈ol:=pe.mem_iff.mp (ZC hm);exists[jj,hj],ZR.mp hmo;exists[iv,e1,ia,uv,pv,rfl,e2,e3,e4],cC R (cG nd hj);have hn':=hn.ts' ts2;exists[nb,rfl,hnb],id hn';have eg:gvs0=gvs:=by rw[k3]at hg0;injection hg0 with hg0;injection hg0 with hg0;exact hg0.symm
  subst eg;have lt:(M.take i).length<=60:=Zt (List.length_take_le' _ _) lM;have lt2:((M.take i).filter (bR gs)).length<=60:=Zt (y8 _ _) lt;have et0:M.take (i+1)=M.take i++[m]:=by rw[List.take_succ,hm];rfl
  refine#[_,rfl,_,rfl,p,C,dx',_,_,rfl,k1',a9.cl,a9.nA,ve _ _,g,_,rfl,DGet.t (k:=nk m.1) k3' hnb,_,rfl,?_];rw[mK Rg];cases hvis:(look gs m.1).isSome with
  |true =>refine aJ (kD _ _ #[bt,kls,_,?_,rfl]);rw[et0,List.filter_append,List.filter_cons_of_neg (by simp[bR,hvis]),List.filter_nil,YL];exact lo
  |false =>
  refine aP ?_;have et:(M.take (i+1)).filter (bR gs)=(M.take i).filter (bR gs)++[m]:=by rw[et0,List.filter_append,List.filter_cons_of_pos (by simp[bR,hvis]),List.filter_nil]
  exists[ke,hk,hke],(e3.ts ts2).key;refine#[_,rfl,D,rfl,#[kls,lo.lo.od.ob],?_];refine#[_,rfl,p,C,dx',_,_,rfl,k1',a9.cl,a9.nH,dr _ _,_,rfl,d,.ref ia,rfl,e1▸DGet.t (k:=nk m.1) k2' hnb,?_];refine#[ia,_,_,_,rfl,rfl,L6 (ts2 _ _ e2),at0,sz rfl,λl0 g0=>?_];have w0:=ad g0 (.lst []);have lo0:=lo.same w0;have hk0:qh (upd H' l0 (.lst [])) uv ke:=by
   cases ke with
   |none=>exact hk
   |some q=>exact#[hk.1,w0 _ _ hk.2]
  refine#[kls,ke,l0,lo0.lo.od,hk0,rfl,(by have:=lo.le;omega),λl hl'=>?_,λhl'=>?_]
  ·rw[hke]at hl';exists[ks',f1,f2,f3,f4],lo0.old hl' (hn'.ts' (L5 w0));refine#[.inl #[rfl,_,L7 f1],_,rfl,l,_,_,rfl,rfl,f1,dh ∅,kD _ _ #[λb ob eb hb=>?_,kls,_,by rw[et];exact f4,rfl]];have hbl:b≠l:=λz=>by rw[z,f3]at eb;cases eb
   rw[ag hbl];exact w0 _ _ (bt _ _ eb hb)
  ·rw[hke]at hl';exists[n2,nD0,f4],lo.new hl' hn' hk hke g0 bt;refine#[.inl #[rfl,[],L7 (by rw[ag nD0];exact ac)],_,rfl,l0,[],_,rfl,rfl,by rw[ag nD0];exact ac,sz rfl,kD _ _ #[λb ob eb hb=>?_,_,_,by rw[et];exact f4,rfl]];have hbl:b≠l0:=λz=>by rw[z,n2]at eb;cases eb
   rw[ag hbl,ag hb,ag hbl];exact bt _ _ eb hb
 ·exists[bt,kls,o,lo,rfl],hP;have ml:M.take ks.length=M:=YB ∅;rw[ml]at lo;have nTD:T≠D:=y7 nDT;have tab3:aN gG T (fz ee) H':=by exists[ps,t1,t2,t3],tab2;refine#[ps,bt _ _ t1 nTD,t2,t3.imp id fun⟨c,z1,z2⟩=>#[c,z1,bt _ _ z2 λz=>?_]];rw[z,eD2]at z2;exact Jq (ZB z2)
  exact#[_,rfl,q D H' M kls pe so (λb ob eb hb=>bt _ _ (s12 _ _ (wD _ _ eb) hb) λz=>by rw[z,gD]at eb;cases eb) tab3 gD (Zt lo.le (Zt (y8 _ _) lM)) lo.lo]
abbrev DI:=Int×(Nm×It)
inductive Dfs(M:Ol):List DI->List DI->Nat->Prop
 |nil:Dfs M [] [] 0
 |cons {d:Int} {m:Nm×It} {rest out:List DI} {k:Nat} (h:Dfs M ((grp M (some m.1)).map (λx=>(d+1,x))++rest) out k):Dfs M ((d,m)::rest) ((d,m)::out) (k+1)
def Dfs.le{st out:List DI}{k:Nat}(h:Dfs M st out k):st.length<=k:=by
 induction h with
 |nil=>exact Ze _
 |cons _ ih =>rw[Zi]at ih;rw[Zl];omega
def Dfs.len{st out:List DI}{k:Nat}(h:Dfs M st out k):out.length=k:=by
 induction h with
 |nil=>rfl
 |cons _ ih=>rw[Zl,ih]
inductive SkAt(H:Hp)(v:V)(x:DI):Prop
 |mk (a:LN) (nv:V) (h0:v=.ref a) (h1:H a=some (.tup [.int x.1,nv])) (h2:NameIs H nv (nk x.2.1)):SkAt H v x
inductive RwAt(H:Hp)(v:V)(x:DI):Prop
 |mk (a:LN) (nv:V) (h0:v=.ref a) (h1:H a=some (.tup [.int x.1,nv,.str x.2.2.tx,.bl x.2.2.dn,whV x.2.2.wh,.bl x.2.2.fo])) (h2:NameIs H nv (nk x.2.1)):RwAt H v x
abbrev SksAt(H:Hp)(xs:List DI)(vs:Md):Prop:=Paired (λx v=>SkAt H v x) xs vs
abbrev RwsAt(H:Hp)(xs:List DI)(vs:Md):Prop:=Paired (λx v=>RwAt H v x) xs vs
def SkAt.ts(h:SkAt H v x)(s:TS H H'):SkAt H' v x:=by exists[a,nv,h1,h2,h3],h;exact#[a,nv,h1,s _ _ h2,h3.ts' s]
def RwAt.ts(h:RwAt H v x)(s:TS H H'):RwAt H' v x:=by exists[a,nv,h1,h2,h3],h;exact#[a,nv,h1,s _ _ h2,h3.ts' s]
def SksAt.ts(x:SksAt H xs vs)(s:TS H H'):SksAt H' xs vs:=Paired.mapP x λ_ _ z=>z.ts s
def RwsAt.ts(x:RwsAt H xs vs)(s:TS H H'):RwsAt H' xs vs:=Paired.mapP x λ_ _ z=>z.ts s
def fH{α β:Type}{R:α->β->Prop}{a c:List α}{b d:List β}(x:Paired R a b)(y:Paired R c d):Paired R (a++c) (b++d):=by
 induction x with
 |nil=>exact y
 |cons h _ ih=>exact .cons h ih
theorem rJ{α β:Type}{R:α->β->Prop}:∀{a:List α} {x:α} {b:List β},Paired R (a++[x]) b->∃(b0:List β) (y:β),b=b0++[y]/\Paired R a b0/\R x y
 | [],x,b,h=>by
  cases h with
  |cons h1 h2 =>cases h2;exact#[[],_,rfl,.nil,h1]
 |z::a,x,b,h=>by
  cases h with
  |cons h1 h2 =>exists[b0,y,rfl,h3,h4],rJ h2;exact#[_::b0,y,rfl,.cons h1 h3,h4]
def LowAt.get(x:LowAt P w H D M kls)(u:Option Nm):(∀l,bN kls (upK u)=some l->∃ks,H l=some (.lst ks)/\KsAt H (grp M u) ks)/\(bN kls (upK u)=none->grp M u=[]):=by
 refine#[λl hl=>?_,λhl=>?_]
 ·exists[e,he,hk,rfl],pG hl;exists[u',ks,h1,h2,h3],x.gr e he;rw[<-xK (h1.symm.trans hk)];exact#[ks,h2,h3]
 ·unfold grp;rw[List.filter_eq_nil_iff];intro y hy z;have:=x.al y hy;rw[ZZ z,hl]at this;cases this
def rq{n:Nat}{te:TE}{H0:Hp}{Q:VK}{d:Int}(hl:H0 l=some (.lst ks))(hk:KsAt H0 M ks)(hz:M.length<=60)(he:∀(v:V) (H:Hp),Same H0 H->∀R:VK,(∀t,H t=none->R (.ref t) (upd H t (.tup [.int d,v])))->te ((bw n cap σ).set 0 (some v)) H R)(hq:∀(ws:Md) (p:LN) (H:Hp),Same H0 H->SksAt H (M.map λx=>(d,x)).reverse ws->H p=none->Q (.ref p) (upd H p (.lst ws))):cP n cap (bD 0) dZ te σ (Itv K l ks) H0 Q:=by
 have lk:=Z8 hk;refine nG (N:=ks.length) (λi ys H=>Same H0 H/\ys.length=i/\SksAt H ((M.map λx=>(d,x)).reverse.take i) ys) ∅ (λ_ _ _ p=>p.2.1) #[Same.refl _,rfl,.nil] (λi ys H hi hP=>#[hi,L7 (hP.1 _ _ hl)]) (λys H hP=>#[rfl,L7 (hP.1 _ _ hl)]) ?_ ?_
 ·rintro i ys H x H2 hi ⟨sm,ly,pa⟩ ⟨rfl,hx⟩ R kR;refine he x _ sm _ λt gt=>kR _ _ ?_;have wt:=ad gt (.tup [.int d,x]);refine#[sm.trans wt,by rw[Zi,ly];rfl,?_];rw[YF (by simpa using hi)]at hx;exists[m,hm,hn],kP hk _ x hx;have e:(M.map λx=>(d,x)).reverse[i]?=some (d,m):=by rw[YF (by rw[Zd];omega),Zd,Zq,lk,hm];rfl
  rw[List.take_succ,e];exact fH (pa.ts (L5 wt)) (.cons #[t,x,rfl,ac,(hn.ts' (L5 sm)).ts' (L5 wt)] .nil)
 ·rintro ys p H ⟨sm,ly,pa⟩ gp;refine hq ys p H sm ?_ gp;rw[YB (by rw[YM,Zd];omega)]at pa;exact pa
def uC{G:LN->Prop}(x:LowAt P w Hc D M kls)(e0:Hc l0=some (.lst []))(h:∀(l:LN) (ks:Md),Hc l=some (.lst ks)->KsAt Hc (grp M u) ks->G l):
  (∀l,bN kls (upK u)=some l->G l)/\(bN kls (upK u)=none->G l0):=by
 exists[a,b],x.get u;refine#[λl hl=>?_,λhl=>?_]
 ·exists[ks,h1,h2],a l hl;exact h l ks h1 h2
 ·exact h l0 [] e0 (by rw[b hl];exact .nil)
abbrev jV(M:Ol):List DI:=(grp M none).map λx=>(0,x)
inductive spRows(C T:LN)(vs:Md)(H:Hp)(Q:VK)(E_:XK):Prop
 |mk (p d g:LN) (ol:Ol) (gs:As Unit) (h0:vs=[.ref p]) (h1:OlAt C H p d g ol) (h2:GoneAt H g gs) (h3:ol.length<=60) (h4:(ol.map (·.1)).Nodup) (h5:aN gG T (fz ee) H) (h6:(∀M:Ol,M.Perm ol->∃out k,Dfs (M.filter (bR gs)) (jV (M.filter (bR gs))) out k/\k<=60)) (h7:∀(R:LN) (H':Hp) (M:Ol) (out:List DI) (k:Nat) (rs:Md),M.Perm ol->M.Pairwise leP->Dfs (M.filter (bR gs)) (jV (M.filter (bR gs))) out k->SameT T H H'->aN gG T (fz ee) H'->H R=none->H' R=some (.lst rs)->RwsAt H' out rs->Q (.ref R) H'):spRows C T vs H Q E_
def Dfs.mem{st out:List DI}{k:Nat}(h:Dfs M st out k):(∀x∈st,x.2∈M)->∀x∈out,x.2∈M:=by
 induction h with
 |nil=>intro _ x hx;cases hx
 |@cons d m rest out k _ ih =>
  intro hs x hx;rcases Zf.mp hx with rfl|hx
  ·exact hs _ Zo
  ·refine ih (λy hy=>?_) x hx;rcases ZE.mp hy with hy|hy
   ·exists[z,hz,rfl],Zw.mp hy;exact(ZP.mp hz).1
   ·exact hs y (Zn _ hy)
def Jd:cu [a,b,c,d,e,f] (some 2) none=[c,d,e,f]:=rfl
abbrev hJ:Stmt:=bU (top 30) 16
abbrev tJ:List Str:=["self","lower","rows","ahead","following","depth","name"]
def cg:FnScope tJ ["self"] (aj hJ):= ~~~0
def sr(F:Fun K "rows" "Plain.rows" hJ f fd)(a9:TxP K C)(u8:↑MFn 6 C "lower_names" ["self"] (spLower P w C T))(j1:mg "TEXT_plain" = some (.int 2 tk))(j4:mg "reversed" = none)(a8:mg "len" = none):↑FnOk CX0 7 f fd ["self"] (spRows C T):=by
 exists cg
 exists[p,d,g,ol,gs,rfl,hO,hG,hl,nd,tab,ex,q],h;exists[kvs0,gvs0,S0,R0],id hO;obtain⟨⟨dx,h1⟩,h2,h3,h4⟩:=id S0;exists _,(b_c (ax (i:=1) cg.nd (cY u8 ↑99 ↑0))
   (b_c (ax (i:=2) cg.nd (bv ah))
   (b_c (pO (j:=3) cg.nd (own:=["each"]) (#[rfl,⋯,⋯,rfl,trivial]:CompOk _ _ [] []) rfl (DV j4 (q_a (Bg hr.units ↑1 cM (bv ah)) ah)) (λ_ _ _ _=>aA (i:=0) (show (["each"]:List Str).Nodup by decide)) (aF ⋯) (λ_ _ _ _=>bA) (λ_ _ _ _=>(aW (q_a af (q_a ↑0 ah)))))
   (b_c (mP Yp (aq jK (q_B bM a8 ZH (q_a ↑3 ah)) af) (b_c (ax (i:=4) cg.nd (Io ↑3))
   (b_c (ax (i:=5) cg.nd (ao au ↑4 af))
   (b_c (ax (i:=6) cg.nd (ao au ↑4 af))
   (b_c (bC (mJ ↑2 (aw uY (aW (q_a ↑5 (q_a ↑6 ah))) (iO iY (dM hr.units (cT ↑0) ↑6) (iN (bV j1)) iM))))
   (b_1 (bC (C7 ↑3 (aQ (own:=["each"]) (#[rfl,⋯,⋯,rfl,#[rfl,rfl,trivial]]:CompOk _ _ [5] ["depth"]) rfl (DV j4 (q_a (Bg hr.units ↑1 ↑6 (bv ah)) ah)) (λ_ _ _ _=>aA (i:=0) (show (["each","depth"]:List Str).Nodup by decide)) (aF ⋯) (λ_ _ _ _=>bA) (λ_ _ _ _=>(aW (q_a (aw eX ↑1 af) (q_a ↑0 ah)))))))))))))
   (b_1 (am ↑2))))))
 rw[Gz,GA];refine#[_,rfl,p,dx,_,rfl,h1,vh _ _ ⋯ ⋯,p,d,g,ol,gs,rfl,hO,hG,hl,nd,tab,λD H3 M0 kls pe so s03 tab3 gD lk lo=>?_];exists[out,k,df,k60],ex M0 pe;have lM0:M0.length<=60:=by rw[pe.length_eq];exact hl
 have mem0:∀x∈M0.filter (bR gs),x∈ol:=λx hx=>pe.mem_iff.mp (ZP.mp hx).1;have lM:(M0.filter (bR gs)).length<=60:=Zt (y8 _ _) lM0;have qq:=λR H' out k rs=>q R H' M0 out k rs pe so;generalize M0.filter (bR gs)=M at df lo lM mem0 qq;have O3:=hO.sameT s03 tab;exists[kvs,gvs,S,R3],id O3;obtain⟨⟨dx',k1⟩,k2,k3,k4⟩:=id S;refine#[sz rfl,λR gR=>?_];have wR:=ad gR (.lst []);have eR:upd H3 R (.lst []) R=some (.lst []):=ac;generalize upd H3 R (.lst [])=H4 at wR eR ⊢;refine#[_,rfl,D,rfl,#[kls,wR _ _ lo.od.ob],sz rfl,λl0 g0=>?_];have w0:=ad g0 (.lst []);have e0:upd H4 l0 (.lst []) l0=some (.lst []):=ac;generalize upd H4 l0 (.lst [])=H5 at w0 e0 ⊢;have lo5:=lo.same (wR.trans w0);refine#[kls,none,lo5.od,rfl,∅,uC (u:=none) lo5 e0 λl ks el hk=>?_];refine#[l,ks,rfl,L7 el,rq (d:=0) el hk (Zt (y8 _ _) lM) (λv Hx sx Rx kx=>#[_,rfl,sz rfl,λt gt=>kx t gt]) (λws Aa H6 s6 pa gA=>?_)];have wA:=ad gA (.lst ws);have eA:upd H6 Aa (.lst ws) Aa=some (.lst ws):=ac;have s36:Same H3 (upd H6 Aa (.lst ws)):=(wR.trans (w0.trans s6)).trans wA;have eR6:upd H6 Aa (.lst ws) R=some (.lst []):=wA _ _ (s6 _ _ (w0 _ _ eR));have pa6:=pa.ts (L5 wA);have nRA:R≠Aa:=λz=>by rw[<-z,s6 _ _ (w0 _ _ eR)]at gA;cases gA
 have g3A:H3 Aa=none:=by
  cases z:H3 Aa with
  |none=>rfl
  |some o=>rw[s6 _ _ (w0 _ _ (wR _ _ z))]at gA;cases gA
 generalize upd H6 Aa (.lst ws)=H7 at eA s36 eR6 pa6 ⊢;refine#[λm σ H'=>Same H3 H'/\∃(stk outd rst:List DI) (rs as:Md) (o4 o5 o6:Option V),Dfs M stk rst m/\outd++rst=out/\H' R=some (.lst rs)/\RwsAt H' outd rs/\H' Aa=some (.lst as)/\SksAt H' stk.reverse as/\σ=[some (.ref p),some (.ref D),some (.ref R),some (.ref Aa),o4,o5,o6],#[k,s36,jV M,[],out,[],ws,none,none,none,df,rfl,eR6,.nil,eA,pa6,rfl],?_];rintro m σ H' ⟨sm,stk,outd,rst,rs,as,o4,o5,o6,df',eo,eR',ra,eA',sa,rfl⟩;have las:=Z8 sa;rw[YM]at las;refine#[_,rfl,Aa,as,rfl,.inl (L7 eA'),_,_,rfl,rfl,_,rfl,?_];have lo60:outd.length+m<=60:=by have h1:=ZN List.length eo;rw[Zi,df'.len,df.len]at h1;omega
 cases df' with
 |nil =>have:as.length=0:=las.symm;rw[show(decide ((0:Int)<(as.length:Int)))=false by rw[this];rfl];refine aJ #[_,rfl,?_];rw[YL]at eo;subst eo;refine qq R H' outd k rs df (s03.trans (.of sm)) (aE tab3 sm) (pD s03 gR ?_) eR' ra;exists[ps,t1,_],tab3;exact#[_,t1]
 |@cons d0 mm rest rst' m' df' =>
  have:0<as.length:=by rw[<-las];exact Nat.succ_pos _
  rw[show(decide ((0:Int)<(as.length:Int)))=true by rw[decide_eq_true];omega];refine aP ?_;rw[List.reverse_cons]at sa;obtain⟨as0,y,rfl,sa0,⟨ya,nv,rfl,ey,hn⟩⟩:=rJ sa;exists[nb,rfl,hnb],id hn;have hmem:mm∈M:=df.mem (λx hx=>by
   exists[z,hz,rfl],Zw.mp hx;exact (ZP.mp hz).1) (d0,mm) (by rw[<-eo];simp)
  exists[jj,hj],ZR.mp (mem0 _ hmem);exists[iv,e1,ia,uv,pv,rfl,e2,e3,e4],cC R3 (cG nd hj);refine#[λσ' H''=>Same H3 H''/\∃(stk outd rst:List DI) (rs as:Md) (o4 o5 o6:Option V),Dfs M stk rst m'/\outd++rst=out/\H'' R=some (.lst rs)/\RwsAt H'' outd rs/\H'' Aa=some (.lst as)/\SksAt H'' stk.reverse as/\σ'=[some (.ref p),some (.ref D),some (.ref R),some (.ref Aa),o4,o5,o6],λσ' H'' h=>#[m',Yd _,h],?_];refine#[_,rfl,.inl #[rfl,_,L7 eA'],Aa,_,.ref ya,rfl,rfl,eA',by simp,?_];rw[List.dropLast_concat];have t8:=lT (ks':=as0) eA';have s38:Same H3 (upd H' Aa (.lst as0)):=fi sm g3A;have eA8:upd H' Aa (.lst as0) Aa=some (.lst as0):=ac;have eR8:upd H' Aa (.lst as0) R=some (.lst rs):=by rw[ag nRA];exact eR'
  have ey8:=t8 _ _ ey;have hn8:=t8 _ _ hnb;have ra8:=ra.ts t8;have sa8:=SksAt.ts sa0 t8;generalize upd H' Aa (.lst as0)=H8 at s38 eA8 eR8 ey8 hn8 ra8 sa8 ⊢;refine#[_,rfl,ya,_,_,_,rfl,rfl,L6 ey8,at0,?_];refine#[_,rfl,ya,_,_,_,rfl,rfl,L6 ey8,at1,?_];refine#[_,rfl,.inl #[rfl,_,L7 eR8],_,rfl,_,rfl,sz rfl,λt1 g1=>?_];have w1:=ad g1 (.tup [.int d0,.ref nb]);have s1':=s38.trans w1;refine#[_,rfl,p,C,dx',_,_,rfl,s1' _ _ k1,a9.cl,a9.nH,dr _ _,_,rfl,d,.ref ia,rfl,e1▸DGet.t (k:=nk mm.1) (s1' _ _ k2) (w1 _ _ hn8),_,rfl,?_];refine#[ia,_,rfl,s1' _ _ e2,λt2 H9 s9 e9=>?_];rw[Jd]at e9;refine#[t1,t2,_,_,rfl,rfl,s9 _ _ ac,e9,sz rfl,λt3 H10 s10 e10=>?_];have w8:Same H8 H10:=w1.trans (s9.trans s10);have lra:=Z8 ra;refine#[R,rs,.ref t3,rfl,rfl,w8 _ _ eR8,dh ∅,?_];have t11:=lT (ks':=rs++[.ref t3]) (w8 _ _ eR8);have g3R:H3 R=none:=gR;have s311:Same H3 (upd H10 R (.lst (rs++[.ref t3]))):=fi (s38.trans w8) g3R;have eR11:upd H10 R (.lst (rs++[.ref t3])) R=some (.lst (rs++[.ref t3])):=ac;have eA11:upd H10 R (.lst (rs++[.ref t3])) Aa=some (.lst as0):=by rw[ag (y7 nRA)];exact w8 _ _ eA8
  have hn11:=t11 _ _ (w8 _ _ hn8);have ra11:RwsAt (upd H10 R (.lst (rs++[.ref t3]))) (outd++[(d0,mm)]) (rs++[.ref t3]):=fH ((ra8.ts (L5 w8)).ts t11) (.cons #[t3,.ref nb,rfl,t11 _ _ e10,nb,rfl,hn11] .nil);have sa11:=(sa8.ts (L5 w8)).ts t11;generalize upd H10 R (.lst (rs++[.ref t3]))=H11 at s311 eR11 eA11 hn11 ra11 sa11 ⊢;refine#[_,rfl,.inl #[rfl,_,L7 eA11],?_];refine#[_,rfl,D,rfl,#[kls,s311 _ _ lo.od.ob],_,rfl,sz rfl,λl1 gl1=>?_];have wl:=ad gl1 (.lst []);have el1:upd H11 l1 (.lst []) l1=some (.lst []):=ac;generalize upd H11 l1 (.lst [])=H12 at wl el1 ⊢;have lo12:=lo.same (s311.trans wl);refine#[kls,some (nk mm.1,nb),lo12.od,#[rfl,wl _ _ hn11],∅,uC (u:=some mm.1) lo12 el1 λl ks el hk=>?_];refine#[l,ks,rfl,L7 el,rq (d:=d0+1) el hk (Zt (y8 _ _) lM) (λv Hx sx Rx kx=>#[_,rfl,_,_,rfl,rfl,_,rfl,sz rfl,λt gt=>kx t gt]) (λws' pW H13 s13 pa' gW=>?_)];have wW:=ad gW (.lst ws');have w1113:Same H11 (upd H13 pW (.lst ws')):=wl.trans (s13.trans wW);have lw:=Z8 pa';have lsa:=Z8 sa8;have dl:=df'.le;rw[Zi]at dl;rw[YM]at lw lsa;refine#[Aa,pW,as0,ws',rfl,rfl,w1113 _ _ eA11,ac,dh ∅,?_];have t14:=lT (ks':=as0++ws') (w1113 _ _ eA11);refine#[fi (s311.trans w1113) g3A,(grp M (some mm.1)).map (λx=>(d0+1,x))++rest,outd++[(d0,mm)],rst',rs++[.ref t3],as0++ws',_,_,_,df',by rw[<-eo];simp,by rw[ag nRA];exact w1113 _ _ eR11,(ra11.ts (L5 w1113)).ts t14,ac,?_,rfl];rw[List.reverse_append];exact fH ((sa11.ts (L5 w1113)).ts t14) ((pa'.ts (L5 wW)).ts t14)
def cj:Option Nm->PyData
 |none=>.none
 |some n=>.tuple [.int n.1,.int n.2]
def lS(h:UpAt H v u):Dt H (cj u) v/\(cj u).canLay0=true/\(cj u).depth<=1:=by
 cases u with
 |none =>obtain rfl:v=.non:=h;exact#[by simp only[cj,Dt],rfl,⋯]
 |some n =>exists[b,rfl,e],h;refine#[?_,by simp[cj,PyData.canLay0,PyData.canLayAll0],by simp[cj,PyData.depth,PyData.depthAll]];simp only[cj,Dt,DtAll];exact#[b,_,rfl,.inl e,_,_,rfl,rfl,_,_,rfl,rfl,rfl]
def BK(u v:Option Nm):PyData.eqv (cj u) (cj v)=decide (u=v):=by
 cases u with
 |none=>cases v<;>rfl
 |some n =>
  cases v with
  |none=>rfl
  |some m =>
   have:=nL [n.1,n.2] [m.1,m.2];show PyData.eqv (.tuple ([n.1,n.2].map PyData.int)) (.tuple ([m.1,m.2].map PyData.int))=_;rw[this,decide_eq_decide];constructor
   ·intro z;injection z with z1 z2;injection z2 with z2 _;exact ZN some (Prod.ext z1 z2)
   ·intro z;rw[ZB z]
def lK{d:PyData}(h1:d.canLay0=true)(h2:d.depth<=10):SeqAt.shaped d=true:=by unfold SeqAt.shaped;rw[ZK];exact#[h1,decide_eq_true ∅]
inductive UpC(ol:Ol):Nat->Option Nm->Prop
 |none:UpC ol 0 none
 |up {k:Nat} {n:Nm} {it:It} (h:look ol n=some it) (c:UpC ol k it.up):UpC ol (k+1) (some n)
def Ups(ol:Ol):Prop:=∀n it,look ol n=some it->∃k,UpC ol k (some n)
def fB{β:Type}{l:As β}{n:Nm}{i:β}(h:look l n=some i):(n,i)∈l:=by
 induction l with
 |nil=>cases h
 |cons p l ih =>
  have h:(if p.1=n then some p.2 else look l n)=some i:=h;by_cases c:p.1=n
  ·rw[LI c]at h;cases h;rw[<-c];exact Zo
  ·rw[LH c]at h;exact Zn _ (ih h)
structure GoodO(ol:Ol):Prop where
 ups:Ups ol
 nd:(ol.map (·.1)).Nodup
 pl:∀x∈ol,1<=x.2.pl.length/\x.2.pl.length<=64
def Dfs.app{k1 k2:Nat}(h:Dfs M s1 o1 k1)(g:Dfs M s2 o2 k2):Dfs M (s1++s2) (o1++o2) (k1+k2):=by
 induction h with
 |nil=>rw[Nat.zero_add];exact g
 |@cons d m rest out k _ ih =>rw[Nat.add_right_comm];refine .cons ?_;show Dfs M (_++(rest++s2)) (out++o2) _;rw[<-ZO];exact ih
def Dfs.det{st o1 o2:List DI}{k1 k2:Nat}(h:Dfs M st o1 k1)(g:Dfs M st o2 k2):o1=o2:=by
 induction h generalizing o2 k2 with
 |nil=>cases g;rfl
 |cons _ ih=>cases g with|cons g=>rw[ih g]
def UpC.one{ol:Ol}{a b:Nat}(h:UpC ol a u)(g:UpC ol b u):a=b:=by
 induction h generalizing b with
 |none=>cases g;rfl
 |up h _ ih =>
  cases g with
  |up h' c' =>rw[h]at h';cases h';rw[ih c']
def dD:x∈grp M u↔x∈M/\x.2.up=u:=by unfold grp;rw[ZP];simp
def BR(ol:Ol)(B:Nat):Prop:=∀x∈ol,∃k,k<=B/\UpC ol k (some x.1)
def xI{ol:Ol}(nd:(ol.map (·.1)).Nodup)(t:Ups ol):∃B,BR ol B:=by
 have go:∀l:Ol,(∀x∈l,x∈ol)->∃B,∀x∈l,∃k,k<=B/\UpC ol k (some x.1):=λl=>by
  induction l with
  |nil=>intro _;exact#[0,λx hx=>by cases hx]
  |cons y l ih =>
   intro hl;exists[B,hB],ih λx hx=>hl x (Zn _ hx);exists[i,hi],ZR.mp (hl y Zo);exists[k,ck],t _ _ (cG nd hi);refine#[B+k,λx hx=>?_];rcases Zf.mp hx with rfl|hx
   ·exact#[k,Nat.le_add_left _ _,ck]
   ·exists[k',h1,h2],hB x hx;exact#[k',Zt h1 (YI _ _),h2]
 exact go ol λ_ z=>z
def EG{ol M:Ol}{B:Nat}(pe:∀x∈M,x∈ol)(nd:(ol.map (·.1)).Nodup)(tb:BR ol B):∀(f:Nat) (x:Nm×It) (j:Nat) (d:Int),x∈M->UpC ol j (some x.1)->B<j+f->∃out k,Dfs M [(d,x)] out k:=by
 intro f;induction f with
 |zero =>intro x j d hx ch hB;exists[k,hk,ch'],tb x (pe x hx);have:=ch.one ch';omega
 |succ f ih =>
  intro x j d hx ch hB;have kids:∀(l:Ol),(∀y∈l,y∈grp M (some x.1))->∃out k,Dfs M (l.map λy=>(d+1,y)) out k:=by
   intro l;induction l with
   |nil=>intro _;exact#[[],0,.nil]
   |cons y l ihl =>intro hl;exists[ym,yu],dD.mp (hl y Zo);exists[i,hi],ZR.mp (pe y ym);have cy:UpC ol (j+1) (some y.1):=.up (cG nd hi) (by rw[yu];exact ch);exists[o1,k1,h1],ih y (j+1) (d+1) ym cy ∅;exists[o2,k2,h2],ihl λz hz=>hl z (Zn _ hz);exact#[_,_,h1.app h2]
  exists[out,k,h],kids (grp M (some x.1)) λ_ z=>z;exact#[_,_,.cons (rest:=[]) (by rw[YL];exact h)]
def GB{ol M:Ol}{B:Nat}(pe:∀x∈M,x∈ol)(nd:(ol.map (·.1)).Nodup)(tb:BR ol B):∃out k,Dfs M (jV M) out k:=by
 have go:∀(l:Ol),(∀y∈l,y∈M)->∃out k,Dfs M (l.map λy=>((0:Int),y)) out k:=by
  intro l;induction l with
  |nil=>intro _;exact#[[],0,.nil]
  |cons y l ihl =>intro hl;exists[j,_,ch],tb y (pe y (hl y Zo));exists[o1,k1,h1],EG pe nd tb (B+1) y j 0 (hl y Zo) ch ∅;exists[o2,k2,h2],ihl λz hz=>hl z (Zn _ hz);exact#[_,_,h1.app h2]
 exact go (grp M none) λy hy=>(dD.mp hy).1
def cnR(n:Nm)(l:List DI):Nat:=l.countP λx=>decide (x.2.1=n)
def EE(n:Nm)(a b:List DI):cnR n (a++b)=cnR n a+cnR n b:=List.countP_append
def nF(n:Nm)(x:DI)(l:List DI):cnR n (x::l)=(if x.2.1=n then 1 else 0)+cnR n l:=by unfold cnR;rw[List.countP_cons,Nat.add_comm];simp
def oV(M:Ol)(n:Nm)(u:Option Nm):Nat :=
 match look M n with
 |some it=>if it.up=u then 1 else 0
 |none=>0
def xi{l:Ol}(h:n∉l.map (·.1)):look l n=none:=by
 induction l with
 |nil=>rfl
 |cons y l ih =>rw[Zs,Zf,not_or]at h;unfold look;rw[LH (y7 h.1)];exact ih h.2
def ug{M:Ol}{d:Int}(nd:(M.map (·.1)).Nodup):cnR n ((grp M u).map λx=>(d,x))=oV M n u:=by
 unfold cnR grp oV;rw[List.countP_map];induction M with
 |nil=>rfl
 |cons y l ih =>
  rw[Zs,Yb]at nd;have ih:=ih nd.2;unfold look;by_cases hn:y.1=n
  ·rw[LI hn];rw[xi (by rw[<-hn];exact nd.1)]at ih;by_cases hu:y.2.up=u
   ·rw[List.filter_cons_of_pos (by simp[hu]),List.countP_cons,ih];simp[hn,hu]
   ·rw[List.filter_cons_of_neg (by simp[hu]),ih];simp[hu]
  ·rw[LH hn,<-ih];by_cases hu:y.2.up=u
   ·rw[List.filter_cons_of_pos (by simp[hu]),List.countP_cons];simp[hn]
   ·rw[List.filter_cons_of_neg (by simp[hu])]
def Dfs.cnt{M:Ol}{st out:List DI}{k:Nat}(nd:(M.map (·.1)).Nodup)(n:Nm)(h:Dfs M st out k) :
  cnR n out=cnR n st+(match look M n with|some it=>(match it.up with|some p=>cnR p out|none=>0)|none=>0):=by
 induction h with
 |nil =>
  cases look M n with
  |none=>rfl
  |some it=>cases hu:it.up<;>simp[hu,cnR]
 |@cons d m rest out k _ ih =>
  rw[nF,nF,ih,EE,ug nd];unfold oV;cases hl:look M n with
  |none=>simp
  |some it =>
   cases hu:it.up with
   |none=>simp[hu]
   |some p =>
    dsimp only;rw[hu];dsimp only;rw[nF p];have e:(if(some p:Option Nm)=some m.1 then 1 else 0)=(if m.1=p then 1 else 0:Nat):=by
     by_cases hp:m.1=p
     ·rw[LI (by rw[hp]),LI hp]
     ·rw[LH (λz=>hp (ZB z).symm),LH hp]
    rw[e];omega
def uo{ol M:Ol}{k:Nat}(nd:(M.map (·.1)).Nodup)(h:Dfs M (jV M) out k)(lk:∀n it,look M n=some it->look ol n=some it):∀{j:Nat} {u:Option Nm},UpC ol j u->∀n,u=some n->cnR n out<=1:=by
 intro j u ch;induction ch with
 |none=>intro n z;cases z
 |@up j n' it hl c ih =>
  intro n z;cases z;rw[h.cnt nd n',show cnR n' (jV M)=oV M n' none from ug nd];unfold oV;cases e:look M n' with
  |none=>exact Zy _
  |some it' =>
   have:=lk _ _ e;rw[hl]at this;cases this;dsimp only;cases hu:it.up with
   |none=>exact Ze _
   |some p =>have:=ih p hu;show(if(some p:Option Nm)=none then 1 else 0)+cnR p out<=1;rw[LH nofun];omega
def oh{α:Type}[BEq α][LawfulBEq α]:∀{l m:List α},l.Nodup->(∀x∈l,x∈m)->l.length<=m.length:=by
 intro l;induction l with
 |nil=>intro m _ _;exact Zy _
 |cons n l ih =>intro m nd hs;exists[nn,nd],Yb.mp nd;have hn:=hs n Zo;have:=ih (m:=m.erase n) nd λx hx=>(List.mem_erase_of_ne (fun(z:x=n)=>nn (by rw[<-z];exact hx))).mpr (hs x (Zn _ hx));rw[List.length_erase_of_mem hn]at this;have:=List.length_pos_of_mem hn;rw[Zl];omega
def Gc{ol:Ol}{gs:As Unit}(gd:GoodO ol)(l3:ol.length<=60):∀M:Ol,M.Perm ol->∃out k,Dfs (M.filter (bR gs)) (jV (M.filter (bR gs))) out k/\k<=60:=λM pe=>by
 exists[B,tb],xI gd.nd gd.ups;have sub:∀x∈M.filter (bR gs),x∈ol:=λx hx=>pe.mem_iff.mp (ZP.mp hx).1;exists[out,k,df],GB sub gd.nd tb;refine#[out,k,df,?_];have ndM:((M.filter (bR gs)).map (·.1)).Nodup:=YS (List.Sublist.map _ List.filter_sublist) ((pe.map _).nodup_iff.mpr gd.nd);have lk:∀n it,look (M.filter (bR gs)) n=some it->look ol n=some it:=λn it hl=>by exists[i,hi],ZR.mp (sub _ (fB hl));exact cG gd.nd hi
 have mem:∀x∈out,x.2∈M.filter (bR gs):=df.mem λz hz=>by exists[w',hw,rfl],Zw.mp hz;exact(dD.mp hw).1
 have nd:(out.map λx=>x.2.1).Nodup:=by
  rw[List.nodup_iff_count];intro n;have e:(out.map λx=>x.2.1).count n=cnR n out:=by
   unfold cnR;rw[List.count,List.countP_map];congr 1;funext x;show(x.2.1==n)=decide (x.2.1=n);by_cases z:x.2.1=n
   ·rw[decide_eq_true z,z];exact beq_self_eq_true n
   ·rw[decide_eq_false z];exact Yg.mpr z
  rw[e];by_cases c:n∈out.map λx=>x.2.1
  ·exists[x,hx,rfl],Zw.mp c;exists[j,_,ch],tb x.2 (sub _ (mem x hx));exact uo ndM df lk ch _ rfl
  ·rw[<-e,List.count_eq_zero_of_not_mem c];exact Zy _
 have:=oh nd (m:=ol.map (·.1)) λn hn=>by exists[x,hx,rfl],Zw.mp hn;exact Zw.mpr #[x.2,sub _ (mem x hx),rfl]
 rw[Zd,Zd,df.len]at this;omega
def EI(h:bX p n=bX q m):p=q/\n=m:=by
 induction p generalizing q with
 |nil =>
  cases q with
  |nil =>rw[bX,bX]at h;exact#[rfl,(Yy h).2]
  |cons b q =>rw[bX,bX]at h;exact absurd (Yy h).1 ⋯
 |cons a p ih =>
  cases q with
  |nil =>rw[bX,bX]at h;exact absurd (Yy h).1 ⋯
  |cons b q =>rw[bX,bX]at h;exists[h1,h2],Yy (Yy h).2;exists[h3,h4],ih h2;exact#[by rw[h1,h3],h4]
theorem uS:∀{a b:LX},HT.lexLt a b=false->HT.lexLt b a=false->a=b
 | [],[],_,_=>rfl
 | [],_::_,h,_=>by rw[HT.lexLt_nil_cons]at h;cases h
 |_::_,[],_,h=>by rw[HT.lexLt_nil_cons]at h;cases h
 |x::a,y::b,h,g=>by
  rw[HT.lexLt_cons]at h g;by_cases z:x=y
  ·subst z;rw[LI rfl]at h g;rw[uS h g]
  ·rw[LH z]at h;rw[LH (y7 z)]at g;have h:=YJ h;have g:=YJ g;omega
def yZ{ol M M':Ol}(nd:(ol.map (·.1)).Nodup)(p:M.Perm ol)(p':M'.Perm ol)(s:M.Pairwise leP)(s':M'.Pairwise leP):M=M':=by refine List.Perm.eq_of_pairwise (le:=leP) (λa b ha hb h1 h2=>?_) s s' (p.trans p'.symm);have h:bX a.2.pl [a.1.1,a.1.2]=bX b.2.pl [b.1.1,b.1.2]:=uS h2 h1;exists[_,h],EI h;injection h with h1 h2;injection h2 with h2 _;exact uV nd (p.mem_iff.mp ha) (p'.mem_iff.mp hb) (Prod.ext h1 h2)
inductive RowsOf(ol:Ol)(gs:As Unit)(out:List DI):Prop
 |mk (M:Ol) (k:Nat) (h0:M.Perm ol) (h1:M.Pairwise leP) (h2:Dfs (M.filter (bR gs)) (jV (M.filter (bR gs))) out k):RowsOf ol gs out
def RowsOf.one{ol:Ol}{gs:As Unit}(nd:(ol.map (·.1)).Nodup)(h1:RowsOf ol gs o1)(h2:RowsOf ol gs o2):o1=o2:=by exists[M,k,p,s,d],h1;exists[M',k',p',s',d'],h2;have:=yZ nd p p' s s';subst this;exact d.det d'
def RowsOf.mem{ol:Ol}{gs:As Unit}(h:RowsOf ol gs out):∀x∈out,x.2∈ol:=λx hx=>by
 exists[M,k,p,s,d],h;exact p.mem_iff.mp (ZP.mp (d.mem (λz hz=>by
  exists[w',hw,rfl],Zw.mp hz;exact (dD.mp hw).1) x hx)).1
def ik{ol:Ol}(h:look ol n=none):bu ol n it=ol++[(n,it)]:=by unfold bu;rw[h,LH (by simp)]
def qc(L:LT):Prop:=∀k,k<L.length->(∀j,j<L.length->(ay L j).n=(ay L k).n->j=k)/\(∀i,(ay L k).w=some i->0<=i/\i<8)/\(ay L k).t.length<=63
def fA(k:Str)(r:Rw):V:=if k="text" then .str r.t else if k="size" then .int r.t.length else if k="depth" then .int r.d else match r.w with
 |none=>.int 8
 |some i=>.int i
def Ei:Sp:=λvs H Q _=>∃(k:Str) (a:LN) (r:Rw),vs=[.str k,.ref a]/\RRR H a r/\r.t.length<=1000/\Q (fA k r) H
abbrev yT:Stmt:=top 62
abbrev IU:List Str:=["_law_key_here","_law_row"]
def Iy:FnScope IU ["_law_key_here","_law_row"] (aj yT):= ~~~0
def Hh(F:Fun K "_law_key" "_law_key" yT f fd)(a8:mg "len" = none):↑FnOk CX0 1 f fd ["_law_key_here","_law_row"] Ei:=by
 exists Iy
 obtain⟨k,a,r,rfl,⟨p,e1,e2,_⟩,hlen,q⟩:=h;refine#[_,(b_c (aC (aq aD ↑0 ai) (b_1 (am (ao au ↑1 af))) b_0)
   (b_c (aC (aq aD ↑0 ai) (b_1 (am (q_B oK a8 ZH (q_a (ao au ↑1 af) ah)))) b_0)
   (b_c (aC (aq aD ↑0 ai) (b_1 (am (ao au ↑1 af))) b_0)
   (b_c (aC (aq mF (ao au ↑1 af) cM) (b_1 (am af)) b_0)
   (b_1 (am (ao au ↑1 af))))))),?_]
 unfold fA at q;refine#[_,rfl,rfl,_,rfl,bp (λc=>?_) (λc=>?_)]
 ·rw[LI (V.str.inj c)]at q;exact#[_,rfl,a,_,_,_,rfl,rfl,L6 e1,rfl,q]
 rw[LH (λz=>c (by rw[z]))]at q;refine#[_,rfl,rfl,_,rfl,bp (λc=>?_) (λc=>?_)]
 ·rw[LI (V.str.inj c)]at q;exact#[_,rfl,a,_,_,_,rfl,rfl,L6 e1,rfl,r.t,rfl,hlen,q]
 rw[LH (λz=>c (by rw[z]))]at q;refine#[_,rfl,rfl,_,rfl,bp (λc=>?_) (λc=>?_)]
 ·rw[LI (V.str.inj c)]at q;exact#[_,rfl,a,_,_,_,rfl,rfl,L6 e1,rfl,q]
 rw[LH (λz=>c (by rw[z]))]at q;refine#[_,rfl,a,_,_,_,rfl,rfl,L6 e1,rfl,rfl,_,rfl,?_];cases hw:r.w with
 |none =>rw[hw]at q;exact aP q
 |some i =>rw[hw]at e1 q;exact aJ #[_,rfl,a,_,_,_,rfl,rfl,L6 e1,rfl,q]
def Az{k:Str}(g:qc L){u v:Nat}(hu:u<L.length)(hv:v<L.length):ltV (fA k (ay L u)) (fA k (ay L v))=some (HT.lexLt (bO k (ay L u)).nums (bO k (ay L v)).nums):=by
 exists[_,w1,_],g u hu;exists[_,w2,_],g v hv;unfold fA bO;by_cases h1:k="text"
 ·simp only[LI h1];exact ZN some (qE _ _).symm
 simp only[LH h1];by_cases h2:k="size"
 ·simp only[LI h2];exact ZN some (mC _ _).symm
 simp only[LH h2];by_cases h3:k="depth"
 ·simp only[LI h3];exact ZN some (mC _ _).symm
 simp only[LH h3];cases e1:(ay L u).w with
 |none =>
  cases e2:(ay L v).w with
  |none=>rfl
  |some j =>have:=w2 j e2;show some (decide ((8:Int)<j))=some (HT.lexLt [1,0] [0,j]);rw[decide_eq_false ∅];rfl
 |some i =>
  have:=w1 i e1;cases e2:(ay L v).w with
  |none =>show some (decide (i<(8:Int)))=some (HT.lexLt [0,i] [1,0]);rw[decide_eq_true ∅];rfl
  |some j =>show some (decide (i<j))=some (HT.lexLt [0,i] [0,j]);rw[HT.lexLt_cons,LI rfl,mC]
theorem wN:∀{a b:List Nat},a.map Int.ofNat=b.map Int.ofNat->a=b
 | [],[],_=>rfl
 | [],_::_,h=>by cases h
 |_::_,[],h=>by cases h
 |x::a,y::b,h=>by rw[Zs,Zs]at h;exists[h1,h2],Yy h;rw[Int.ofNat.inj h1,wN h2]
def GU{k:Str}(g:qc L){u v:Nat}(hu:u<L.length)(hv:v<L.length):fA k (ay L u)=fA k (ay L v)↔(bO k (ay L u)).nums=(bO k (ay L v)).nums:=by
 exists[_,w1,_],g u hu;exists[_,w2,_],g v hv;unfold fA bO;by_cases h1:k="text"
 ·simp only[LI h1];constructor
  ·intro z;rw[V.str.inj z]
  ·intro z;have:=wN z;rw[show (ay L u).t=(ay L v).t from by
    cases e1:(ay L u).t;cases e2:(ay L v).t;rw[e1,e2]at this;exact ZN Str.mk (Y2.mp this)]
 simp only[LH h1];by_cases h2:k="size"
 ·simp only[LI h2];exact#[λz=>by rw[V.int.inj z],λz=>by rw[(Yy z).1]]
 simp only[LH h2];by_cases h3:k="depth"
 ·simp only[LI h3];exact#[λz=>by rw[V.int.inj z],λz=>by rw[(Yy z).1]]
 simp only[LH h3];cases e1:(ay L u).w with
 |none =>
  cases e2:(ay L v).w with
  |none=>exact#[λ_=>rfl,λ_=>rfl]
  |some j =>have:=w2 j e2;exact#[λz=>absurd (V.int.inj z) ∅,λz=>absurd (Yy z).1 (by simp)]
 |some i =>
  have:=w1 i e1;cases e2:(ay L v).w with
  |none=>exact#[λz=>absurd (V.int.inj z) ∅,λz=>absurd (Yy z).1 (by simp)]
  |some j =>
   exact#[λz=>by rw[V.int.inj z],λz=>by
    have:=(Yy (Yy z).2).1;rw[show i=j from this]]
def J6{r r':Rw}(h:PyData.eqv (rwD r) (rwD r')=true):r.n=r'.n:=by unfold rwD at h;simp[PyData.eqv,PyData.eqvAll]at h;exact h.2.1.2
def Bo{r:Rw}(h:PyData.strOk r.t=true):PyData.eqv (rwD r) (rwD r)=true:=SeqAt.eqv_refl _ (uQ h).1
def rW{i:Nat}(h:i<((vals L).map rwD).length):((vals L).map rwD)[i]=rwD (ay L i):=by
 have h':i<L.length:=by rw[Zd,eU]at h;exact h
 apply ZB;rw[<-z9 h];unfold vals ay;rw[Zq,Zq,z9 h'];rfl
def pN{r:Rw}(h:PyData.strOk r.t=true):SeqAt.shaped (rwD r)=true:=by have:=uQ h;unfold SeqAt.shaped;simp[this.1,this.2]
def rP:Sp:=λvs H Q _=>∃(k:Str) (b:Bool) (l:LN) (L:LT) (u v:Nat),vs=[.str k,.bl b,.ref (be L u),.ref (be L v),.ref l]/\LR H l L/\qc L/\L.length<=50/\u<L.length/\v<L.length/\Fol k b L u v/\Q (.bl true) H
def uH(hL:LR H l L)(g:qc L)(hz:L.length<=50){u:Nat}(hu:u<L.length):∃hj:u<((vals L).map rwD).length,Dt H (rwD (ay L u)) (.ref (be L u))/\DtAll H ((vals L).map rwD) (aH L)/\SeqAt.shaped (rwD (ay L u))=true/\PyData.canLayAll0 ((vals L).map rwD)=true/\((vals L).map rwD).length<=1000/\PyData.eqv ((vals L).map rwD)[u] (rwD (ay L u))=true/\∀(i:Nat) (hi:i<u),PyData.eqv (((vals L).map rwD)[i]'(Nat.lt_trans hi hj)) (rwD (ay L u))=false:=by
 have hu':u<((vals L).map rwD).length:=by rw[Zd,eU];exact hu
 have ok:PyData.strOk (ay L u).t=true:=let⟨_,_,_,h⟩:=hL.at hu;h
 refine#[hu',(hL.at hu).dt,ma hL.2,pN ok,(iZ hL.ok).1,by rw[Zd,eU];omega,by rw[rW hu'];exact Bo ok,λi hi=>?_];have hi':i<((vals L).map rwD).length:=Nat.lt_trans hi hu';rw[rW hi'];cases e:PyData.eqv (rwD (ay L i)) (rwD (ay L u))with
 |false=>rfl
 |true =>have:=(g u hu).1 i ∅ (J6 e);omega
def sR(k:Str)(L:LT)(u:Nat):nm k L u=(bO k (ay L u)).nums:=by unfold nm ay;rw[Zg]
abbrev lE:Stmt:=top 63
abbrev zD:List Str:=["_law_key_here","_law_back","_law_one","_law_other","_law_rows","_law_first","_law_second","_law_mine","_law_theirs"]
def fj:FnScope zD ["_law_key_here","_law_back","_law_one","_law_other","_law_rows"] (aj lE):= ~~~0
def yF(F:Fun K "_law_follows" "_law_follows" lE f fd)(K9:↑Fn 1 "_law_key" ["_law_key_here","_law_row"] Ei):↑FnOk CX0 2 f fd ["_law_key_here","_law_back","_law_one","_law_other","_law_rows"] rP:=by
 exists fj
 exists[k,b,l,L,u,v,rfl,hL,g,hz,hu,hv,fo,q],h;refine#[_,(b_c (ax (i:=5) fj.nd (xr hr ↑4 ↑2))
   (b_c (ax (i:=6) fj.nd (xr hr ↑4 ↑3))
   (b_c (aC (aq aD ↑0 ai) (b_1 (am (yN (gH (aM jL ↑5 ↑6) (fe (iw ↑1))) (fe (gH (aM jL ↑6 ↑5) (fe ↑1)))))) b_0)
   (b_c (ax (i:=7) fj.nd (aG K9 ↑99 (q_a ↑0 (q_a ↑2 ah))))
   (b_c (ax (i:=8) fj.nd (aG K9 ↑99 (q_a ↑0 (q_a ↑3 ah))))
   (b_c (aC (aq aD ↑7 ↑8) (b_1 (am (aM jL ↑5 ↑6))) b_0)
   (b_1 (am (yN (gH (aM D8 ↑7 ↑8) (fe (iw ↑1))) (fe (gH (aM D8 ↑8 ↑7) (fe ↑1)))))))))))),?_]
 exists[hj,a1,a2,a3,a4,a5,a6,a7],uH hL g hz hu;refine#[_,rfl,.inl #[rfl,_,L7 hL.1],_,rfl,l,aH L,_,_,_,u,hj,rfl,rfl,hL.1,a1,a2,a3,a4,a5,a6,a7,?_];exists[hj,a1,a2,a3,a4,a5,a6,a7],uH hL g hz hv;refine#[_,rfl,.inl #[rfl,_,L7 hL.1],_,rfl,l,aH L,_,_,_,v,hj,rfl,rfl,hL.1,a1,a2,a3,a4,a5,a6,a7,?_];refine#[_,rfl,rfl,_,rfl,bp (λc1=>?_) (λc1=>?_)]
 ·have hk:k="place":=V.str.inj c1;unfold Fol at fo;rw[LI hk]at fo;refine#[_,rfl,_,rfl,_,_,rfl,rfl,_,rfl,?_];cases b with
  |true =>rw[LI rfl]at fo;rw[decide_eq_false ∅];refine aJ #[_,rfl,aJ #[_,rfl,_,rfl,_,_,rfl,rfl,_,rfl,?_]];rw[decide_eq_true ∅];exact aP #[_,rfl,q]
  |false =>rw[LH ⋯]at fo;rw[decide_eq_true ∅];exact aP #[_,rfl,_,rfl,_,rfl,aP q]
 have hk:k≠"place":=λz=>c1 (by rw[z]);have ru:=hL.at hu;have rv:=hL.at hv;exists[_,_,lu],g u hu;exists[_,_,lv],g v hv;refine#[_,rfl,_,rfl,k,_,_,rfl,ru,∅,?_];refine#[_,rfl,_,rfl,k,_,_,rfl,rv,∅,?_];unfold Fol at fo;rw[LH hk,sR,sR]at fo;have k1:=Az (k:=k) g hu hv;have k2:=Az (k:=k) g hv hu;have k3:=GU (k:=k) g hu hv;have sc:yW (fA k (ay L u)) (fA k (ay L v))=true:=by
  unfold fA;by_cases h1:k="text"
  ·rw[LI h1,LI h1];rfl
  rw[LH h1,LH h1];by_cases h2:k="size"
  ·rw[LI h2,LI h2];rfl
  rw[LH h2,LH h2];by_cases h3:k="depth"
  ·rw[LI h3,LI h3];rfl
  rw[LH h3,LH h3];cases(ay L u).w<;>cases(ay L v).w<;>rfl
 generalize(bO k (ay L u)).nums=nu at fo k1 k2 k3;generalize(bO k (ay L v)).nums=nv at fo k1 k2 k3;generalize fA k (ay L u)=ku at k1 k2 k3 sc ⊢;generalize fA k (ay L v)=kv at k1 k2 k3 sc ⊢;refine#[_,rfl,_,rfl,sc,_,rfl,bp (λc2=>?_) (λc2=>?_)]
 ·have e:=k3.mp c2;have huv:u<v:=by
   subst e;have irr:HT.lexLt nu nu=false:=by
    cases z:HT.lexLt nu nu with
    |false=>rfl
    |true=>rw[pq z]at z;cases z
   rw[irr]at fo;split at fo
   ·exact fo.2.resolve_left (by simp)
   ·exact fo.2.resolve_left (by simp)
  refine#[_,rfl,_,rfl,_,_,rfl,rfl,?_];show Q (V.bl (decide ((u:Int)<(v:Int)))) H;rw[decide_eq_true ∅];exact q
 ·have ne:nu≠nv:=λz=>c2 (k3.mpr z);refine#[_,rfl,_,rfl,_,k1,_,rfl,?_];cases b with
  |true =>
   rw[LI rfl]at fo;rw[fo.1];refine aJ #[_,rfl,aJ #[_,rfl,_,rfl,_,k2,_,rfl,?_]];cases z:HT.lexLt nv nu with
   |true=>exact aP #[_,rfl,q]
   |false=>exact absurd (mD fo.1 z) ne
  |false =>
   rw[LH ⋯]at fo;cases z:HT.lexLt nu nv with
   |true=>exact aP #[_,rfl,_,rfl,_,rfl,aP q]
   |false=>exact absurd (mD z fo.1) ne
def Lv(ab:List Nm)(st:List DI):Prop:=(∀x∈st,0<=x.1/\x.1.toNat<=ab.length/\x.2.2.up=if x.1=0 then none else ab[x.1.toNat-1]?)/\st.Pairwise λx y=>y.1<=x.1
inductive Wk:List Nm->List DI->Prop
 |nil {ab:List Nm}:Wk ab []
 |cons {ab:List Nm} {d:Int} {m:Nm×It} {out:List DI} (h0:0<=d) (h1:d.toNat<=ab.length) (hu:m.2.up=if d=0 then none else ab[d.toNat-1]?) (h:Wk (ab.take d.toNat++[m.1]) out):Wk ab ((d,m)::out)
def Lv.top(M:Ol):Lv [] (jV M):=by
 refine#[λx hx=>?_,?_]
 ·exists[y,hy,rfl],Zw.mp hx;exact#[Int.le_refl _,Ze _,(dD.mp hy).2]
 ·rw[Xa];exact List.pairwise_of_forall λ_ _=>Int.le_refl _
def Lv.step{d:Int}(h:Lv ab ((d,m)::rest)):Lv (ab.take d.toNat++[m.1]) ((grp M (some m.1)).map (λx=>(d+1,x))++rest):=by
 exists[h1,h2],h;exists[d0,dl,du],h1 _ Zo;have d0:0<=d:=d0;have dl:d.toNat<=ab.length:=dl;exists[p1,p2],List.pairwise_cons.mp h2;have lt:(ab.take d.toNat).length=d.toNat:=by rw[ZD];omega
 refine#[λx hx=>?_,?_]
 ·rcases ZE.mp hx with hx|hx
  ·exists[y,hy,rfl],Zw.mp hx;refine#[by show 0<=d+1;omega,by rw[Zi,lt];show(d+1).toNat<=d.toNat+1;omega,?_];show y.2.up=if d+1=0 then none else(ab.take d.toNat++[m.1])[(d+1).toNat-1]?
   rw[LH ∅,(dD.mp hy).2,ZF (by rw[lt];omega),lt,show(d+1).toNat-1-d.toNat=0 by omega];rfl
  ·exists[g0,gl,gu],h1 x (Zn _ hx);have le:x.1<=d:=p1 x hx;refine#[g0,by rw[Zi,lt];omega,?_];rw[gu];by_cases z:x.1=0
   ·rw[LI z,LI z]
   ·rw[LH z,LH z,ZS (by rw[lt];omega),List.getElem?_take_of_lt ∅]
 ·rw[List.pairwise_append];refine#[?_,p2,λx hx y hy=>?_]
  ·rw[Xa];exact List.pairwise_of_forall λ_ _=>Int.le_refl _
  ·exists[z,_,rfl],Zw.mp hx;have:=p1 y hy;show y.1<=d+1;have:y.1<=d:=this;omega
def Ab{st out:List DI}{k:Nat}(h:Dfs M st out k):∀{ab:List Nm},Lv ab st->Wk ab out:=by
 induction h with
 |nil=>intro _ _;exact .nil
 |@cons d m rest out k _ ih =>intro ab hL;exists[g0,gl,gu],hL.1 _ Zo;exact .cons g0 gl gu (ih hL.step)
def rwO(x:DI):Rw:=#[x.1.toNat,x.2.1.1,x.2.1.2,x.2.2.tx,x.2.2.dn,x.2.2.wh,x.2.2.fo]
def aU(L:LT)(k:Nat):Nm:=((ay L k).h,(ay L k).n)
theorem vA:∀{out:List DI} {rs:Md},RwsAt H out rs->(∀x∈out,0<=x.1/\PyData.strOk x.2.2.tx=true)->∃L:LT,aH L=rs/\vals L=out.map rwO/\∀x∈L,RRR H x.1 x.2
 |_,_,.nil,_=>#[[],rfl,rfl,λx hx=>nomatch hx]
 |_,_,.cons (a:=x) h t,ok=>by
  exists[L,e1,e2,e3],vA t λy hy=>ok y (Zn _ hy);exists[a,nv,rfl,h1,b,rfl,h2],h;exists[o1,o2],ok x Zo;refine#[(a,rwO x)::L,by rw[<-e1];rfl,by rw[Zs,<-e2];rfl,λy hy=>?_];rcases Zf.mp hy with rfl|hy
  ·refine#[b,?_,h2,o2];rw[h1];show some (HO.tup [V.int x.1,_,_,_,_,_])=some (HO.tup [V.int ((x.1.toNat:Nat):Int),_,_,_,_,_]);rw[Int.toNat_of_nonneg o1];rfl
  ·exact e3 y hy
def xA{H:Hp}(hl:H l=some (.lst rs))(h:RwsAt H out rs)(ok:∀x∈out,0<=x.1/\PyData.strOk x.2.2.tx=true):∃L:LT,LR H l L/\vals L=out.map rwO:=by exists[L,e1,e2,e3],vA h ok;exact#[L,#[by rw[e1];exact hl,e3],e2]
def yR{out:List DI}(e:vals L=out.map rwO):L.length=out.length/\∀k (h:k<out.length),ay L k=rwO out[k]:=by
 have l:L.length=out.length:=by have:=ZN List.length e;rw[eU,Zd]at this;exact this
 refine#[l,λk h=>?_];have:=ZN (λz=>z[k]?) e;unfold vals at this;simp only[Zq,z9 h,z9 (l▸h:k<L.length)]at this;unfold ay;rw[z9 (l▸h:k<L.length)];exact ZB this
theorem Ep{out:List DI}{ds:Nat->Nat}{nmf:Nat->Nm}(hd:∀k (h:k<out.length),ds k=(out[k]).1.toNat)(hn:∀k (h:k<out.length),nmf k=(out[k]).2.1)(w:Wk [] out):∀k (h:k<out.length),Wk ((Pt ds k).map nmf) (out.drop (k+1))/\(Pt ds k).length=ds k+1/\(out[k]).2.2.up=(upN ds k).map nmf/\(k+1<out.length->ds (k+1)<=ds k+1)/\0<=(out[k]).1
 |0,h=>by
  have e0:=hd 0 h;have n0:=hn 0 h;have fin:∀{ab:List Nm},ab.length=ds 0+1->Wk ab (out.drop 1)->(1<out.length->ds 1<=ds 0+1):=fun{ab} la x h1=>by
   rw[YC h1]at x;rw[hd 1 h1];generalize out[1]=y at x;cases x with
   |cons _ h1 _ _=>rw[<-la];exact h1
  cases out with
  |nil=>exact absurd h (Nat.not_lt_zero _)
  |cons x r =>
   cases w with
   |@cons _ d m _ h0 h1 hu t =>
    have d0:d=0:=by have:d.toNat<=0:=h1;omega
    subst d0;have z:ds 0=0:=e0;have t':Wk ((Pt ds 0).map nmf) r:=by
     have:(Pt ds 0).map nmf=[m.1]:=by show[nmf 0]=_;rw[n0];rfl
     rw[this];exact t
    refine#[t',by rw[z];rfl,?_,λh2=>fin (ab:=(Pt ds 0).map nmf) (by rw[z];rfl) t' h2,Int.le_refl _];unfold upN;rw[LI z];exact hu
 |k+1,h=>by
  exists[w1,l1,_,b1,_],Ep hd hn w k (Nat.lt_of_succ_lt h);have e0:=hd (k+1) h;have n0:=hn (k+1) h;have le:=b1 h;rw[YC h]at w1;generalize hx:out[k+1]=x at w1 e0 n0;have fin:∀{ab:List Nm},ab.length=ds (k+1)+1->Wk ab (out.drop (k+2))->(k+2<out.length->ds (k+2)<=ds (k+1)+1):=fun{ab} la x h1=>by
   rw[YC h1]at x;rw[hd (k+2) h1];generalize out[k+2]=y at x;cases x with
   |cons _ h1 _ _=>rw[<-la];exact h1
  cases w1 with
  |@cons _ d m _ h0 h1 hu t =>
   have ed:ds (k+1)=d.toNat:=e0;have lp:(Pt ds (k+1)).length=ds (k+1)+1:=by show((Pt ds k).take (ds (k+1))++[k+1]).length=_;rw[Zi,ZD,Y8 ∅];rfl
   have t':Wk ((Pt ds (k+1)).map nmf) (out.drop (k+2)):=by
    have:(Pt ds (k+1)).map nmf=((Pt ds k).map nmf).take d.toNat++[m.1]:=by show((Pt ds k).take (ds (k+1))++[k+1]).map nmf=_;rw[ZU,List.map_take,ed,List.map_singleton,n0]
    rw[this];exact t
   refine#[t',lp,?_,λh2=>fin (by rw[Zd];exact lp) t' h2,h0];show m.2.up=_;rw[hu];unfold upN;by_cases c:d=0
   ·subst c;rw[LI rfl,LI (show ds (k+1)=0 from ed)];rfl
   ·have c1:¬ds (k+1)=0:=∅
    rw[LH c,LH c1,Zq,ed];congr 1;show _=((Pt ds k).take (ds (k+1))++[k+1])[d.toNat-1]?;rw[ZS (by rw[ZD];omega),List.getElem?_take_of_lt ∅]
inductive Abv(ol:Ol):Option Nm->List Nm->Prop
 |none:Abv ol none []
 |up {n:Nm} {it:It} {l:List Nm} (h:look ol n=some it) (t:Abv ol it.up l):Abv ol (some n) (n::l)
def Abv.one{ol:Ol}(h:Abv ol u a)(g:Abv ol u b):a=b:=by
 induction h generalizing b with
 |none=>cases g;rfl
 |up h _ ih =>
  cases g with
  |up h' t' =>rw[h]at h';cases h';rw[ih t']
def UpC.abv{ol:Ol}{k:Nat}(h:UpC ol k u):∃l,Abv ol u l:=by
 induction h with
 |none=>exact#[[],.none]
 |up h _ ih =>exists[l,hl],ih;exact#[_,.up h hl]
structure Rk(ol:Ol)(L:LT):Prop where
 gd:Gd L
 up:∀k,k<L.length->∃it,look ol (aU L k)=some it/\ay L k=rwO (((ay L k).d:Int),(aU L k,it))/\it.up=(upN (dep L) k).map (aU L)
 inj:∀j k,j<L.length->k<L.length->aU L j=aU L k->j=k
def JH{ol:Ol}{gs:As Unit}(nd:(ol.map (·.1)).Nodup)(h:RowsOf ol gs out)(e:vals L=out.map rwO)(ndo:(out.map λx=>x.2.1).Nodup):Rk ol L:=by
 exists[ll,rw'],yR e;exists[M,k,h0,h1,df],id h;have wk:=Ab df (Lv.top _);have hn:∀k (h:k<out.length),aU L k=(out[k]).2.1:=λk h=>by unfold aU;rw[rw' k h];rfl
 have pt:=Ep (ds:=dep L) (nmf:=aU L) (λk h=>by unfold dep;rw[rw' k h];rfl) hn wk;refine#[#[?_,λk hk=>(pt k ∅).2.2.2.1 ∅],λk hk=>?_,λj k hj hk z=>?_]
 ·by_cases c:0<out.length
  ·have:=(pt 0 c).2.1;have e0:(Pt (dep L) 0).length=1:=rfl;omega
  ·unfold dep ay;rw[Y7 ∅];rfl
 ·have hk':k<out.length:=∅
  exists[_,_,u,_,z0],pt k hk';refine#[(out[k]).2.2,?_,?_,u]
  ·rw[hn k hk'];exists[i,hi],ZR.mp (h.mem _ (ZG hk'));exact cG nd hi
  ·rw[rw' k hk',hn k hk'];unfold rwO;simp;omega
 ·rw[hn j ∅,hn k ∅]at z;have a1:(out.map λx=>x.2.1)[j]'(by rw[Zd];omega)=(out.map λx=>x.2.1)[k]'(by rw[Zd];omega):=by rw[List.getElem_map,List.getElem_map];exact z
  refine Nat.le_antisymm (Nat.le_of_not_lt λc=>?_) (Nat.le_of_not_lt λc=>?_)
  ·exact Z9.mp ndo k j _ _ c a1.symm
  ·exact Z9.mp ndo j k _ _ c a1
def abL(L:LT)(k:Nat):List Nat:=((Pt (dep L) k).take (dep L k)).reverse
def Rk.abv{ol:Ol}(r:Rk ol L):∀(f k:Nat),k<f->k<L.length->∀it,look ol (aU L k)=some it->Abv ol it.up ((abL L k).map (aU L)):=by
 intro f;induction f with
 |zero=>exact λk h=>absurd h (Nat.not_lt_zero _)
 |succ f ih =>
  intro k hf hk it hit;exists[it',h1,h2,h3],r.up k hk;rw[hit]at h1;cases h1;rw[h3];by_cases c:dep L k=0
  ·unfold upN abL;rw[LI c,c];exact .none
  ·exists[j,e1,e2,e3],xL r.gd hk c;have pj:=pL r.gd k (dep L k-1) j hk e2;have ej:dep L k-1+1=dep L k:=∅
   rw[ej]at pj;have hj:j<L.length:=∅
   have lj:=cX r.gd j hj;have lastj:=qK r.gd j hj;have sp:Pt (dep L) j=(Pt (dep L) j).take (dep L j)++[j]:=by have:(Pt (dep L) j).take (dep L j+1)=Pt (dep L) j:=YB ∅;rw[List.take_succ,lastj]at this;exact this.symm
   rw[e1];have eab:abL L k=j::abL L j:=by
    unfold abL;rw[<-pj]
    conv=>lhs;rw[sp]
    rw[List.reverse_append];rfl
   rw[eab];exists[itj,g1,_,_],r.up j hj;exact .up g1 (ih j ∅ hj itj g1)
def Ex(g:Gd L){k:Nat}(h:k<L.length):(abL L k).length=dep L k:=by have:=cX g k h;unfold abL;rw[YM,ZD];unfold dep at *;omega
def zI(g:Gd L){k j:Nat}(h:k<L.length)(hj:j∈abL L k):j<L.length:=by have:=sV k j (List.mem_of_mem_take (List.mem_reverse.mp hj));omega
def rS(L:LT)(tops:Nat->Bool)(k:Nat):under (dep L) tops k=(abL L k).any tops:=by unfold under abL;rw[List.any_reverse]
def Dfs.sub{st out:List DI}{k:Nat}(h:Dfs M st out k):∀x∈st,x∈out:=by
 induction h with
 |nil=>exact λx hx=>hx
 |cons _ ih =>
  intro x hx;rcases Zf.mp hx with rfl|hx
  ·exact Zo
  ·exact Zn _ (ih x (ZJ _ hx))
def Dfs.kid{st out:List DI}{k:Nat}(h:Dfs M st out k):∀(d:Int) (m:Nm×It),(d,m)∈out->∀y∈grp M (some m.1),(d+1,y)∈out:=by
 induction h with
 |nil=>exact λd m hx=>nomatch hx
 |cons h ih =>
  intro d m hx y hy;rcases Zf.mp hx with e|hx
  ·cases e;exact Zn _ (h.sub _ (List.mem_append_left _ (Zw.mpr #[y,hy,rfl])))
  ·exact Zn _ (ih d m hx y hy)
def FR{ol:Ol}{gs:As Unit}(gd:GoodO ol)(h:RowsOf ol gs out):(out.map λx=>x.2.1).Nodup/\out.length<=ol.length:=by
 exists[M,k,pe,_,df],h;exists[B,tb],xI gd.nd gd.ups;have sub:∀x∈M.filter (bR gs),x∈ol:=λx hx=>pe.mem_iff.mp (ZP.mp hx).1;have ndM:((M.filter (bR gs)).map (·.1)).Nodup:=YS (List.Sublist.map _ List.filter_sublist) ((pe.map _).nodup_iff.mpr gd.nd);have lk:∀n it,look (M.filter (bR gs)) n=some it->look ol n=some it:=λn it hl=>by exists[i,hi],ZR.mp (sub _ (fB hl));exact cG gd.nd hi
 have mem:∀x∈out,x.2∈M.filter (bR gs):=df.mem λz hz=>by exists[w',hw,rfl],Zw.mp hz;exact(dD.mp hw).1
 have nd:(out.map λx=>x.2.1).Nodup:=by
  rw[List.nodup_iff_count];intro n;have e:(out.map λx=>x.2.1).count n=cnR n out:=by
   unfold cnR;rw[List.count,List.countP_map];congr 1;funext x;show(x.2.1==n)=decide (x.2.1=n);by_cases z:x.2.1=n
   ·rw[decide_eq_true z,z];exact beq_self_eq_true n
   ·rw[decide_eq_false z];exact Yg.mpr z
  rw[e];by_cases c:n∈out.map λx=>x.2.1
  ·exists[x,hx,rfl],Zw.mp c;exists[j,_,ch],tb x.2 (sub _ (mem x hx));exact uo ndM df lk ch _ rfl
  ·rw[<-e,List.count_eq_zero_of_not_mem c];exact Zy _
 refine#[nd,?_];have:=oh nd (m:=ol.map (·.1)) λn hn=>by exists[x,hx,rfl],Zw.mp hn;exact Zw.mpr #[x.2,sub _ (mem x hx),rfl]
 rw[Zd,Zd]at this;exact this
def cw(gs:As Unit)(n:Nm):Bool:=(look gs n).isSome
def Dk{ol:Ol}{gs:As Unit}(h:RowsOf ol gs out):∀x∈out,cw gs x.2.1=false:=λx hx=>by
 exists[M,k,pe,_,df],h;have m:=df.mem (λz hz=>by
  exists[w',hw,rfl],Zw.mp hz;exact (dD.mp hw).1) x hx
 have:=(ZP.mp m).2;unfold bR at this;unfold cw;simpa using this
def Di{ol:Ol}{gs:As Unit}(h:RowsOf ol gs out)(ab:Abv ol u l):(∀m∈l,cw gs m=false)->∀(n:Nm) (it:It),look ol n=some it->it.up=u->cw gs n=false->∃d,(d,(n,it))∈out:=by
 exists[M,k,pe,_,df],h;have inM:∀{n:Nm} {it:It},look ol n=some it->cw gs n=false->(n,it)∈M.filter (bR gs):=fun{n it} hl hg=>by refine ZP.mpr #[pe.mem_iff.mpr (fB hl),?_];unfold bR;unfold cw at hg;rw[hg];rfl
 induction ab with
 |none =>intro _ n it hl hu hg;exact#[0,df.sub _ (Zw.mpr #[(n,it),dD.mpr #[inM hl hg,hu],rfl])]
 |@up m im l hm _ ih =>intro hv n it hl hu hg;exists[d,hd],ih (λz hz=>hv z (Zn _ hz)) m im hm rfl (hv m Zo);exact#[d+1,df.kid d _ hd _ (dD.mpr #[inM hl hg,hu])]
def ph(ol:Ol)(gs:As Unit)(n:Nm):Prop:=cw gs n=false/\∃it l,look ol n=some it/\Abv ol it.up l/\∀m∈l,cw gs m=false
def Bn{ol:Ol}{gs:As Unit}(gd:GoodO ol)(h:RowsOf ol gs out)(e:vals L=out.map rwO)(r:Rk ol L)(n:Nm):ph ol gs n↔∃k,k<L.length/\aU L k=n:=by
 exists[ll,rw'],yR e;have hn:∀k (h:k<out.length),aU L k=(out[k]).2.1:=λk h=>by unfold aU;rw[rw' k h];rfl
 have vis:∀k,k<L.length->cw gs (aU L k)=false:=λk hk=>by rw[hn k ∅];exact Dk h _ (ZG _)
 constructor
 ·rintro⟨g,it,l,h1,h2,h3⟩;exists[d,hd],Di h h2 h3 n it h1 rfl g;exists[k,hk,ek],List.mem_iff_getElem.mp hd;exact#[k,∅,by rw[hn k hk,ek]]
 ·rintro⟨k,hk,rfl⟩;exists[it,h1,_,_],r.up k hk;refine#[vis k hk,it,_,h1,r.abv (k+1) k (Yd k) hk it h1,λm hm=>?_];exists[j,hj,rfl],Zw.mp hm;exact vis j (zI r.gd hk hj)
def di:Cq->Cd
 |.w s=>if s="done" then .done else if s="folded" then .folded else if s="free" then .free else if s="leaf" then .leaf else if s="seen" then .seen else .all
 |.num s n=>if s="due" then .due n else .depth n
 |.item x y=>.beneath x y
 |.says t=>.says t
 |_=>.all
mutual
def ce(f:Cq->Bool):Cq->Bool
 |.no c=>!ce f c
 |.many o cs=>oR f o cs
 |.w s=>f (.w s)
 |.num s n=>f (.num s n)
 |.item x y=>f (.item x y)
 |.says t=>f (.says t)
def oR(f:Cq->Bool)(o:Bool):List Cq->Bool
 | []=>!o
 |c::cs=>if o then ce f c ||oR f o cs else ce f c&&oR f o cs
end
theorem gN(f:Cq->Bool)(o:Bool):∀cs:List Cq,oR f o cs=if o then cs.any (ce f)else cs.all (ce f)
 | []=>by cases o<;>rfl
 |c::cs=>by rw[oR,gN f o cs];cases o<;>rfl
def me(h:AtOk c):ce f c=f c:=by cases h<;>rw[ce]
def yi{f f':Cq->Bool}{h d:Nat}(g:GoodC h d c)(e:∀a,AtOk a->f a=f' a):ce f c=ce f' c:=by
 induction g with
 | «at» ok=>rw[me ok,me ok,e _ ok]
 |no _ _ ih=>rw[ce,ce,ih]
 |@many h d o cs h1 h2 g hd ih =>
  rw[ce,ce,gN,gN];have:∀(l:List Cq),(∀c∈l,ce f c=ce f' c)->(l.any (ce f)=l.any (ce f'))/\l.all (ce f)=l.all (ce f'):=by
   intro l;induction l with
   |nil=>exact λ_=>#[rfl,rfl]
   |cons c l il =>intro hl;exists[a,b],il λx hx=>hl x (Zn _ hx);rw[YQ,YQ,YO,YO,hl c Zo,a,b];exact#[rfl,rfl]
  exists[a,b],this cs ih;cases o
  ·exact b
  ·exact a
def cI(L:LT)(k:Nat)(c:Cq):Bool:=ce (λa=>nO L (di a) k) c
def Jc(ok:AtOk c)(h:CqAt H (.ref a) c):CR H a (di c):=by
 cases ok with
 |@w s hs =>
  cases h with
  |w h =>
   simp only[W6,Zf,Zz,ZY]at hs;unfold di;rcases hs with rfl|rfl|rfl|rfl|rfl|rfl
   all_goals simp only[show¬(("all":Str)="done") by decide,show¬(("all":Str)="folded") by decide,show¬(("all":Str)="free") by decide,show¬(("all":Str)="leaf") by decide,show¬(("all":Str)="seen") by decide,show¬(("folded":Str)="done") by decide,show¬(("free":Str)="done") by decide,show¬(("free":Str)="folded") by decide,show¬(("leaf":Str)="done") by decide,show¬(("leaf":Str)="folded") by decide,show¬(("leaf":Str)="free") by decide,show¬(("seen":Str)="done") by decide,show¬(("seen":Str)="folded") by decide,show¬(("seen":Str)="free") by decide,show¬(("seen":Str)="leaf") by decide,if_true,YH]
   all_goals exact h
 |num hs =>
  cases h with
  |num h =>
   unfold di;dsimp only;rcases hs with rfl|rfl
   ·rw[LI rfl];exact h
   ·rw[LH ⋯];exact h
 |item =>
  cases h with
  |item h h1=>exact#[_,h,h1]
 |says =>
  cases h with
  |says h=>exact h
theorem zU{n:Nat}:∀{vs:Md} {cs:List Cq},CqsAt H vs cs->(∀c∈cs,∀a,CqAt H (.ref a) c->CF L n H a (λk=>cI L k c))->∃bs:GL,vs=aH bs/\bs.length=cs.length/\(∀x∈bs,CF L n H x.1 x.2)/\vals bs=cs.map λc k=>cI L k c
 |_,_,.nil,_=>#[[],rfl,rfl,(λx hx=>(nomatch hx)),rfl]
 |_,_,.cons (c:=c) h t,ih=>by
  exists[bs,e1,e2,e3,e4],zU t λc hc=>ih c (Zn _ hc);exists[a,_,rfl,_],h.head;refine#[(a,λk=>cI L k c)::bs,by rw[e1];rfl,by rw[Zl,Zl,e2],λx hx=>?_,by rw[Zs,<-e4];rfl];rcases Zf.mp hx with rfl|hx
  ·exact ih c Zo a h
  ·exact e3 x hx
def DN{h d:Nat}(g:GoodC h d c):∀a,CqAt H (.ref a) c->CF L h H a (λk=>cI L k c):=by
 induction g with
 | «at» ok=>exact λa hc=>.inl #[di _,Jc ok hc,funext λk=>me ok]
 |no g hd ih =>
  intro a hc;cases hc with
  |no e h1 =>exists[b,_,rfl,_],h1.head;refine .inr (.inl #[b,_,e,ih b h1,funext λk=>?_]);unfold cI;rw[ce]
 |@many h d o cs h1 h2 g hd ih =>
  intro a hc;cases hc with
  |@many _ b _ vs _ e e1 hcs =>
   exists[bs,rfl,l,f,ev],zU hcs ih;refine .inr (.inr #[!o,b,bs,?_,e1,∅,f,funext λk=>?_])
   ·rw[e];cases o<;>rfl
   ·rw[ev];unfold cI;rw[ce,gN];unfold gOf;cases o
    ·show cs.all _=uy _ k;unfold uy;rw[List.all_map];rfl
    ·show cs.any _=uA _ k;unfold uA;rw[List.any_map];rfl
def upO(ol:Ol)(n:Nm):Option Nm:=(look ol n).bind (·.up)
def foO(ol:Ol)(n:Nm):Bool:=((look ol n).map (·.fo)).getD false
def iJ(ol:Ol)(lf:List Nm)(it:It)(n:Nm)(ab:List Nm):Cd->Bool
 |.all=>true
 |.done=>it.dn
 |.folded=>it.fo
 |.free=>decide (whV it.wh=V.non)
 |.due i=>decide (whV it.wh=V.int i)
 |.depth i=>decide ((ab.length:Int)<=i)
 |.says s=>occ s it.tx
 |.leaf=>!(lf.any λm=>decide (upO ol m=some n))
 |.seen=>!(ab.any λm=>foO ol m)
 |.beneath h y=>decide ((h,y)∈ab)
def IN(g:Gd L){j k:Nat}(hj:j<L.length)(h:upN (dep L) j=some k):k<L.length:=by
 by_cases c:dep L j=0
 ·unfold upN at h;rw[LI c]at h;cases h
 ·exists[m,e,_,l],xL g hj c;rw[e]at h;cases h;omega
def G3{ol:Ol}(r:Rk ol L)(hl:∀n,n∈lf↔∃k,k<L.length/\aU L k=n){k:Nat}(hk:k<L.length)(hit:look ol (aU L k)=some it)(cd:Cd):nO L cd k=iJ ol lf it (aU L k) ((abL L k).map (aU L)) cd:=by
 exists[it',h1,h2,h3],r.up k hk;rw[hit]at h1;cases h1;have at':∀j,j<L.length->∃ij,look ol (aU L j)=some ij/\(ay L j).f=ij.fo/\ij.up=(upN (dep L) j).map (aU L):=λj hj=>by exists[ij,g1,g2,g3],r.up j hj;exact#[ij,g1,by rw[g2];rfl,g3]
 cases cd with
 |all=>rfl
 |done=>show(ay L k).b=it.dn;rw[h2];rfl
 |folded=>show(ay L k).f=it.fo;rw[h2];rfl
 |free=>show decide (whV (ay L k).w=V.non)=_;rw[h2];rfl
 |due i=>show decide (whV (ay L k).w=V.int i)=_;rw[h2];rfl
 |depth i =>show decide (((ay L k).d:Int)<=i)=decide ((((abL L k).map (aU L)).length:Int)<=i);rw[Zd,Ex r.gd hk];rfl
 |says s=>show occ s (ay L k).t=occ s it.tx;rw[h2];rfl
 |leaf =>
  show jI L k=!(lf.any λm=>decide (upO ol m=some (aU L k)));have lf':=EY r.gd hk;unfold jI;rw[decide_eq_decide.mpr lf'.symm];rw[Z3,Z6,Bool.not_eq_true',List.any_eq_false];constructor
  ·intro z m hm;exists[j,hj,rfl],(hl m).mp hm;exists[ij,g1,_,g3],at' j hj;simp only[decide_eq_true_eq];intro e;unfold upO at e;rw[g1]at e;have e:ij.up=some (aU L k):=e;rw[g3]at e;exists[i,ei,en],ZL.mp e;rw[r.inj i k (IN r.gd hj ei) hk en]at ei;exact z j hj ei
  ·intro z m hm e;exists[im,g1,_,g3],at' m hm;have:=z (aU L m) ((hl _).mpr #[m,hm,rfl]);simp only[decide_eq_true_eq]at this;apply this;unfold upO;rw[g1];show im.up=_;rw[g3,e];rfl
 |seen =>
  show(!under (dep L) (λj=>(ay L j).f) k)=!(((abL L k).map (aU L)).any λm=>foO ol m);rw[rS,List.any_map];congr 1;rw[Z3,Yu,Yu];have e:∀j∈abL L k,foO ol (aU L j)=(ay L j).f:=λj hj=>by exists[ij,g1,g2,_],at' j (zI r.gd hk hj);unfold foO;rw[g1,g2];rfl
  exact#[fun⟨j,hj,z⟩=>#[j,hj,(e j hj).trans z],fun⟨j,hj,z⟩=>#[j,hj,(e j hj).symm.trans z]]
 |beneath h y =>
  show under (dep L) (nmB L h y) k=decide ((h,y)∈(abL L k).map (aU L));rw[rS,Z3,Yu,Z6,Zw];constructor
  ·rintro⟨j,hj,z⟩;unfold nmB at z;have z:=ZZ z;simp only[List.cons.injEq,and_true]at z;exact#[j,hj,Prod.ext z.1 z.2]
  ·rintro⟨j,hj,z⟩;refine#[j,hj,?_];unfold nmB;unfold aU at z;cases z;exact decide_eq_true rfl
def fu(ol:Ol)(lf:List Nm)(it:It)(n:Nm)(ab:List Nm)(c:Cq):Bool:=ce (λa=>iJ ol lf it n ab (di a)) c
def yj{ol:Ol}(r:Rk ol L)(hl:∀n,n∈lf↔∃k,k<L.length/\aU L k=n){k:Nat}(hk:k<L.length)(hit:look ol (aU L k)=some it){h d:Nat}(g:GoodC h d c):cI L k c=fu ol lf it (aU L k) ((abL L k).map (aU L)) c :=
 yi g λa _=>G3 r hl hk hit (di a)
inductive MiAt(H:Hp)(v:V)(it:It):Prop
 |mk (a:LN) (uv:V) (h0:v=.ref a) (h1:H a=some (.tup [uv,.str it.tx,.bl it.dn,whV it.wh,.bl it.fo])) (h2:UpAt H uv it.up):MiAt H v it
def MiAt.ts(x:MiAt H v it)(s:TS H H'):MiAt H' v it:=by exists[a,uv,h0,h1,h2],x;exact#[a,uv,h0,s _ _ h1,h2.ts s]
inductive MineAt(H:Hp)(m:LN)(ol:Ol):Prop
 |mk (mvs:Mc) (h0:H m=some (.dT mvs)) (h1:Rws (MiAt H) mvs ol):MineAt H m ol
def MineAt.same{ol:Ol}(x:MineAt H m ol)(s:Same H H'):MineAt H' m ol:=by exists[mvs,h0,h1],x;exact#[mvs,s _ _ h0,Paired.mapP h1 λ_ _ z=>#[z.1,z.2.ts (L5 s)]]
def xx(s:Same H H')(h:Rd H m u):Rd H' m u:=h.imp (s _ _) fun⟨o,z⟩=>#[o,s _ _ z]
inductive MinR(H:Hp)(m:LN)(ol:Ol):Prop
 |mk (mvs:Mc) (h0:Rd H m (.dT mvs)) (h1:Rws (MiAt H) mvs ol):MinR H m ol
def MineAt.r{ol:Ol}(x:MineAt H m ol):MinR H m ol:=by exists[mvs,h0,h1],x;exact#[mvs,.inl h0,h1]
def MinR.same{ol:Ol}(x:MinR H m ol)(s:Same H H'):MinR H' m ol:=by exists[mvs,h0,h1],x;exact#[mvs,xx s h0,Paired.mapP h1 λ_ _ z=>#[z.1,z.2.ts (L5 s)]]
def ur(h:Rd H m (.dT mvs))(hb:H b=some (.tup ((nk n).map kV)))(e:bI mvs (nk n)=some v):DGet H m (.ref b) (some v):=e▸.inr #[mvs,nk n,b,h,rfl,hb,rfl]
abbrev NmsAt(H:Hp)(l:List Nm)(ks:Md):Prop:=Paired (λn v=>NameIs H v (nk n)) l ks
def NmsAt.ts(x:NmsAt H l ks)(s:TS H H'):NmsAt H' l ks:=Paired.mapP x λ_ _ z=>z.ts' s
inductive spAbove(vs:Md)(H:Hp)(Q:VK)(E_:XK):Prop
 |mk (nv:V) (m:LN) (ol:Ol) (n:Nm) (it:It) (l:List Nm) (h0:vs=[nv,.ref m]) (h1:MinR H m ol) (h2:NameIs H nv (nk n)) (h3:look ol n=some it) (h4:Abv ol it.up l) (h5:l.length<=60) (q:∀(p:LN) (ks:Md) (H':Hp),Same H H'->H p=none->H' p=some (.lst ks)->NmsAt H' l ks->Q (.ref p) H'):spAbove vs H Q E_
abbrev qP:Stmt:=top 59
abbrev Es:List Str:=["_law_name","_law_mine","_law_found"]
def ox:FnScope Es ["_law_name","_law_mine"] (aj qP):= ~~~0
def CA(F:Fun K "_law_above" "_law_above" qP f fd):↑FnOk CX0 1 f fd ["_law_name","_law_mine"] spAbove:=by
 exists ox
 exists[nv,m,ol,n,it,l,rfl,M,hn,hl,ab,hz,q],h;exists _,(b_c (ax (i:=2) ox.nd (bv ah))
   (b_c (mP Yp (aq kW (ao au (dM hr.units ↑1 ↑0) af) cM) (b_c (ax (i:=0) ox.nd (ao au (dM hr.units ↑1 ↑0) af))
   (b_1 (bC (mJ ↑2 ↑0)))))
   (b_1 (am ↑2))))
 refine#[sz rfl,λp gp=>?_];have w0:=ad gp (.lst []);have e0:upd H p (.lst []) p=some (.lst []):=ac;generalize upd H p (.lst [])=H1 at w0 e0 ⊢;refine#[λk σ H'=>∃(v:V) (n:Nm) (it:It) (dn l':List Nm) (ks:Md),Same H H'/\H' p=some (.lst ks)/\NmsAt H' dn ks/\NameIs H' v (nk n)/\look ol n=some it/\Abv ol it.up l'/\dn++l'=l/\k=l'.length/\σ=[some v,some (.ref m),some (.ref p)],#[l.length,nv,n,it,[],l,[],w0,e0,.nil,hn.same w0,hl,ab,rfl,rfl,rfl],?_];rintro k σ H' ⟨v,n,it,dn,l',ks,sm,ep,ka,hv,hl,ab,el,rfl,rfl⟩;exists[mvs,hm,Rm],M.same sm;exists[iv,e1,ia,uv,rfl,e2,e3],cC Rm hl;exists[vb,rfl,hvb],id hv;refine#[_,rfl,_,rfl,m,.ref ia,rfl,ur hm hvb e1,ia,_,_,_,rfl,rfl,L6 e2,at0,rfl,_,rfl,?_];generalize hu:it.up=u at ab e3;cases ab with
 |none =>obtain rfl:uv=.non:=e3;refine DY rfl ?_;rw[YL]at el;subst el;exact#[_,rfl,q p ks H' sm gp ep ka]
 |@up n2 it2 l2 h2 t2 =>
  exists[ub,rfl,hub],id e3;refine DX nofun ?_;refine#[_,λ_ _ z=>z,?_];refine#[_,rfl,_,rfl,m,.ref ia,rfl,ur hm hvb e1,ia,_,_,_,rfl,rfl,L6 e2,at0,?_];have lk:ks.length=dn.length:=ka.length.symm;have ll:dn.length+(n2::l2).length=l.length:=by rw[<-el,Zi]
  rw[Zl]at ll;refine#[_,rfl,.inl #[rfl,_,L7 ep],_,rfl,p,ks,.ref ub,rfl,rfl,ep,Y5 (m:=1000) ∅ ⋯,?_];have tu:TS H' (upd H' p (.lst (ks++[.ref ub]))):=lT ep;refine#[l2.length,Yd _,.ref ub,n2,it2,dn++[n2],l2,ks++[.ref ub],fi sm gp,ac,?_,?_,h2,t2,by rw[<-el,ZO];rfl,rfl,rfl]
  ·exact fH (ka.ts tu) (.cons (#[ub,rfl,tu _ _ hub]:NameIs _ _ _) .nil)
  ·exact#[ub,rfl,tu _ _ hub]
inductive NlAt(H:Hp)(l:LN):Prop
 |mk (ns:List Nm) (ks:Md) (h0:H l=some (.lst ks)) (h1:NmsAt H ns ks) (h2:∀n∈ns,0<=n.1/\n.1<=10^20/\1<=n.2/\n.2<=10^20) (h3:ks.length<=60):NlAt H l
def NlAt.same(x:NlAt H l)(s:Same H H'):NlAt H' l:=by exists[ns,ks,h0,h1,h2,h3],x;exact#[ns,ks,s _ _ h0,h1.ts (L5 s),h2,h3]
def ja(x:NmsAt H l ks):∀(i:Nat) (v:V),ks[i]?=some v->∃n,l[i]?=some n/\NameIs H v (nk n):=by
 induction x with
 |nil=>intro i v h;simp at h
 |cons h _ ih =>
  intro i v e;cases i with
  |zero=>cases e;exact#[_,rfl,h]
  |succ i=>exact ih i v e
def iV{t:TT}{tA tB:L2.TS}(J:Bool->Hp->Prop)(h1:∀Kk:Bool->Hp->Prop,(∀c H1,J c H1->Kk c H1)->t σ H Kk)(h2:∀H1,J true H1->tA D σ H1)(h3:∀H1,J false H1->tB D σ H1):Dw t tA tB D σ H:=h1 _ λc H1 z=>by
 cases c with
 |true=>rw[LI rfl];exact h2 H1 z
 |false=>rw[LH Zv];exact h3 H1 z
inductive spAtom(vs:Md)(H:Hp)(Q:VK)(E_:XK):Prop
 |mk (n:Int) (l:LN) (h0:vs=[.int n,.ref l]) (h1:NlAt H l) (h2:∀v c H',Same H H'->AtOk c->CqAt H' v c->Q v H'):spAtom vs H Q E_
def gM{i:Int}(h0:0<=i)(h1:i<=10^20):Sm i:=by
 unfold Sm;have:i.natAbs<=10^20:=∅
 exact Y5 this ⋯
abbrev vD:Stmt:=top 52
abbrev Gk:List Str:=["_law_number","_law_names","_law_way","_law_more"]
def qV:FnScope Gk ["_law_number","_law_names"] (aj vD):= ~~~0
def E8(F:Fun K "_law_atom" "_law_atom" vD f fd)(a8:mg "len" = none)(i6:mg "int" = none):↑FnOk CX0 1 f fd ["_law_number","_law_names"] spAtom:=by
 exists qV
 exists[n,l,rfl,hN,q],h;refine#[_,(b_c (ax (i:=2) qV.nd (aw aX ↑0 af))
   (b_c (ax (i:=3) qV.nd (aw bL ↑0 af))
   (b_c (aC (aq jL ↑2 af) (b_1 (am (aW (q_a (ao aY (bv (q_a ai (q_a ai (q_a ai (q_a ai (q_a ai (q_a ai ah))))))) ↑2) ah)))) b_0)
   (b_c (aC (aq aD ↑2 af) (b_1 (am (aW (q_a ai (q_a (ao aY (bv (q_a (aw aX ↑3 af) (q_a (aw aX ↑3 (aw yD af af)) ah))) (eZ sP i6 eO (q_a (aM aD (aw aX (aw bL ↑3 af) af) af) ah))) ah))))) b_0)
   (b_c (aC (aq aD ↑2 af) (b_1 (am (aW (q_a ai (q_a (ao aY (bv (q_a (aw aX ↑3 af) (q_a (aw aX ↑3 (aw yD af af)) ah))) (eZ sP i6 eO (q_a (aM aD (aw aX (aw bL ↑3 af) af) af) ah))) ah))))) b_0)
   (b_c (aC (t_w (cA (aq aD ↑2 af) (cA (aq (qF (K:=K) rfl hr.units) ↑1 (bv ah)) (bY (aq jK (aw aX ↑3 af) af))))) (b_1 (am (aW (q_a ai (q_a (ao aY ↑1 (aw aX (aw bL ↑3 af) (q_B bM a8 ZH (q_a ↑1 ah)))) ah))))) b_0)
   (b_c (aC (aq aD ↑2 af) (b_1 (am (aW (q_a ai (q_a (aW (q_a (aw aX (aw bL ↑3 af) af) (q_a (aw eX af (aw aX (aw bL ↑3 af) (aw yD af af))) ah))) ah))))) b_0)
   (b_1 (am (aW (q_a ai (q_a (ao aY (bv (q_a ai (q_a ai (q_a ai (q_a ai (q_a ai (q_a ai (q_a ai (q_a ai (q_a ai (q_a ai (q_a ai (q_a ai ah))))))))))))) (aw aX ↑3 af)) ah)))))))))))),?_]
 refine#[_,rfl,_,_,rfl,rfl,(by show(0:Int)<10;decide),?_];refine#[_,rfl,_,_,rfl,rfl,#[⋯,⋯],?_];have w0:=YD n (show(10:Int)≠0 by decide);have w1:=Yq n (show(0:Int)<10 by decide)
 try dsimp(config:={ proj:=false,iota:=false,eta:=false,zeta:=false }) only
 generalize n%10=wy at w0 w1 ⊢;generalize n / 10=mo;have two:∀x y:Int,0<=x->x<=10^20->0<=y->y<=10^20->∃i:Int,0<=i/\Sm i/\atI [V.int x,V.int y] (if decide (V.int (mo / 8%4)=V.int 3)=true then 1 else 0)=some (.int i):=λx y a b c d=>by
  split
  ·exact#[y,c,gM c d,rfl]
  ·exact#[x,a,gM a b,rfl]
 have m20:=YD mo (show(10^20:Int)≠0 by decide);have m21:=Yq mo (show(0:Int)<10^20 by decide);refine#[_,rfl,_,_,rfl,rfl,_,rfl,bp (λc1=>?_) (λc1=>?_)]
 ·refine#[sz rfl,λp g=>?_];have v1:=ad g (.lst [.str "all",.str "done",.str "folded",.str "free",.str "leaf",.str "seen"]);obtain⟨cd,h1,h2⟩:∃cd:Str,atI [V.str "all",.str "done",.str "folded",.str "free",.str "leaf",.str "seen"] wy=some (.str cd)/\cd∈W6:=by
   have:wy=0\/wy=1\/wy=2\/wy=3\/wy=4\/wy=5:=∅
   rcases this with rfl|rfl|rfl|rfl|rfl|rfl
   ·exact#["all",rfl,⋯]
   ·exact#["done",rfl,⋯]
   ·exact#["folded",rfl,⋯]
   ·exact#["free",rfl,⋯]
   ·exact#["leaf",rfl,⋯]
   ·exact#["seen",rfl,⋯]
  refine#[_,rfl,p,_,_,_,rfl,rfl,L7 ac,h1,sz rfl,λp2 g2=>?_];exact q _ _ _ (v1.trans (ad g2 _)) (.w h2) (.w ac)
 refine#[_,rfl,rfl,_,rfl,uJ (λc2=>?_) (λc2=>?_)]
 ·refine#[_,rfl,_,_,rfl,rfl,(by show(0:Int)<8;decide),_,rfl,_,_,rfl,rfl,#[⋯,⋯,⋯],_,_,rfl,rfl,(by show(0:Int)<10^20;decide),sz rfl,λp g=>?_];exists[i,i0,i1,hi],two (mo%8) (mo%10^20) ∅ ∅ m20 ∅;refine#[_,rfl,_,_,rfl,rfl,#[⋯,⋯],_,_,rfl,rfl,(by show(0:Int)<4;decide),rfl,.inr #[_,rfl,p,_,_,_,rfl,rfl,L7 ac,hi,sz rfl,λp2 g2=>?_]];exact q _ _ _ ((ad g _).trans (ad g2 _)) (.num (.inl rfl) i0 i1) (.num ac)
 refine#[_,rfl,rfl,_,rfl,uJ (λc3=>?_) (λc3=>?_)]
 ·refine#[_,rfl,_,_,rfl,rfl,(by show(0:Int)<4;decide),_,rfl,_,_,rfl,rfl,#[⋯,⋯,⋯],_,_,rfl,rfl,(by show(0:Int)<10^20;decide),sz rfl,λp g=>?_];exists[i,i0,i1,hi],two (mo%4) (mo%10^20) ∅ ∅ m20 ∅;refine#[_,rfl,_,_,rfl,rfl,#[⋯,⋯],_,_,rfl,rfl,(by show(0:Int)<4;decide),rfl,.inr #[_,rfl,p,_,_,_,rfl,rfl,L7 ac,hi,sz rfl,λp2 g2=>?_]];exact q _ _ _ ((ad g _).trans (ad g2 _)) (.num (.inr rfl) i0 i1) (.num ac)
 exists[ns,ks,hN,kn,nb,lk],hN;unfold zh;dsimp(config:={ proj:=true,iota:=false,eta:=false,zeta:=false }) only;refine iV (λb Hc=>Same H Hc/\(b=true->ks≠[])) ?_ ?_ ?_
 ·intro Kk hK;refine#[_,rfl,rfl,_,rfl,uJ (λc4=>?_) (λc4=>hK _ _ #[Same.refl _,λz=>nomatch z])];refine#[_,rfl,sz rfl,λp g=>?_];have v1:=ad g (.lst []);refine#[l,p,ks,rfl,rfl,L7 (v1 _ _ hN),L7 ac,_,rfl,?_];cases ks with
  |nil=>exact aJ (hK _ _ #[v1,λz=>nomatch z])
  |cons k0 ks0=>exact aP #[_,rfl,_,_,rfl,rfl,(by show(0:Int)<4;decide),_,_,rfl,rfl,_,rfl,hK _ _ #[v1,λ_ z=>nomatch z]]
 ·rintro H1 ⟨s1,nk0⟩;have hne:=nk0 rfl;have hpos:0<ks.length:=YZ.mpr hne;have hp:(0:Int)<(ks.length:Int):=∅
  have y0:=YD (mo / 4) (show(ks.length:Int)≠0 by omega);have y1:=Yq (mo / 4) hp;have hi:(mo / 4%(ks.length:Int)).toNat<ks.length:=∅
  exists[n,hn,hv],ja kn _ _ (z9 hi);exists[nb',ev,hb],hv;have ha:atI ks (mo / 4%(ks.length:Int))=some (.ref nb'):=by
   have:mo / 4%(ks.length:Int)=(((mo / 4%(ks.length:Int)).toNat:Nat):Int):=∅
   rw[this];exact cU (by rw[z9 hi,ev])
  exists[b1,b2,b3,b4],nb n (ZC hn);refine#[_,rfl,_,rfl,_,_,rfl,rfl,#[⋯,⋯],_,rfl,l,ks,rfl,.inl (L7 (s1 _ _ hN)),_,_,rfl,rfl,hp,l,_,_,_,rfl,rfl,L7 (s1 _ _ hN),ha,sz rfl,λp2 g2=>?_];exact q _ (.item n.1 n.2) _ (s1.trans (ad g2 _)) (.item b1 b3 (gM b1 b2) (gM ∅ b4)) (.item ac (ad g2 _ _ _ (s1 _ _ hb)))
 rintro H1 ⟨s1,_⟩;refine#[_,rfl,rfl,_,rfl,uJ (λc4=>?_) (λc4=>?_)]
 ·
  have y0:=YD (mo / 36) (show(10^20:Int)≠0 by decide);have y1:=Yq (mo / 36) (show(0:Int)<10^20 by decide);refine#[_,rfl,_,_,rfl,rfl,#[⋯,⋯],_,_,rfl,rfl,(by show(0:Int)<9;decide),_,rfl,_,_,rfl,rfl,#[⋯,⋯],_,_,rfl,rfl,#[⋯,⋯,⋯],_,_,rfl,rfl,(by show(0:Int)<10^20;decide),_,_,rfl,rfl,sz rfl,λp3 g3=>#[sz rfl,λp4 g4=>?_]];exact q _ (.item (mo / 4%9) (1+mo / 36%10^20)) _ (s1.trans ((ad g3 _).trans (ad g4 _))) (.item ∅ ∅ (gM ∅ ∅) (gM ∅ ∅)) (.item ac (ad g4 _ _ _ ac))
 ·
  refine#[sz rfl,λp g=>?_];have k0:=YD mo (show(12:Int)≠0 by decide);have k1:=Yq mo (show(0:Int)<12 by decide);obtain⟨t,ht,hw⟩:∃t:Str,atI [V.str "a",.str "b",.str "ab",.str "or",.str "A",.str "not",.str "(",.str "aa",.str "B",.str ")",.str "by",.str "x"] (mo%12)=some (.str t)/\(t≠""/\t.length<=100/\32∉t.cps.toList):=by
   have:mo%12=0\/mo%12=1\/mo%12=2\/mo%12=3\/mo%12=4\/mo%12=5\/mo%12=6\/mo%12=7\/mo%12=8\/mo%12=9\/mo%12=10\/mo%12=11:=∅
   rcases this with e|e|e|e|e|e|e|e|e|e|e|e<;>rw[e]<;>exact#[_,rfl,⋯]
  refine#[_,rfl,_,_,rfl,rfl,(by show(0:Int)<12;decide),p,_,_,_,rfl,rfl,L7 ac,ht,sz rfl,λp2 g2=>?_];exact q _ _ _ (s1.trans ((ad g _).trans (ad g2 _))) (.says hw.1 hw.2.1 hw.2.2) (.says ac)
def ul{xs:Md}{k:Int}(h0:0<=k)(h1:k<=xs.length):cu xs (some k) none=xs.drop k.toNat:=by unfold cu;rw[Bp h0,HT.sIx_none];rw[show min k.toNat xs.length=k.toNat by omega];exact YB (by rw[Yt];exact Ze _)
def Gy{xs:Md}{k:Int}(h0:0<=k)(h1:k<=xs.length):cu xs none (some k)=xs.take k.toNat:=by unfold cu;rw[Bp h0,HT.sIx_none,show min k.toNat xs.length=k.toNat by omega];rfl
def B0(xs:Md):cu xs none (some (-1))=xs.take (xs.length-1):=by
 unfold cu;rw[HT.sIx_none];have:HT.sIx xs.length xs.length (some (-1))=xs.length-1:=by show(if(-1:Int)<0 then((-1:Int)+(xs.length:Int)).toNat else min (-1:Int).toNat xs.length)=_;rw[LI ⋯];omega
 rw[this];rfl
def fR{K:W.Frag}{xs:Md}{n:Nat}{g:TG}{tc:TT}{te:TE}{Q:VK}(keep:Nat->Bool)(f:Nat->V)(hz:xs.length<=1000)(hl:SqL K H0 a xs)(he:∀i x H,xs[i]?=some x->Same H0 H->∀(A:VK) (B:Hp->Prop),(keep i=true->∀H4,Same H H4->A (f i) H4)->(keep i=false->∀H4,Same H H4->B H4)->g x (bw n cap σ) H λσ2 H2=>tc σ2 H2 λb H3=>if b=true then te σ2 H3 A else B H3)(hq:∀p H,Same H0 H->H p=none->Q (.ref p) (upd H p (.lst (((List.range xs.length).filter keep).map f)))):cP n cap g tc te σ (Itl K a) H0 Q :=
 uh (N:=xs.length) keep f hz (λi H hi sm=>#[xs,xs[i],sm.seq hl,by simp[hi]]) (λH sm=>#[xs,sm.seq hl,Ze _]) (λi H x H' hi sm y=>by
  exists[e,y],y;subst e;exact he i x _ (y xs (sm.seq hl)) sm) hq
def yf{K:W.Frag}{xs:Md}{n:Nat}{g:TG}{te:TE}{Q:VK}(f:Nat->V)(hz:xs.length<=1000)(hl:SqL K H0 a xs)(he:∀i x H,xs[i]?=some x->Same H0 H->∀R:VK,(∀H',Same H H'->R (f i) H')->g x (bw n cap σ) H λσ2 H2=>te σ2 H2 R)(hq:∀p H,Same H0 H->H p=none->Q (.ref p) (upd H p (.lst ((List.range xs.length).map f)))):cP n cap g dZ te σ (Itl K a) H0 Q:=by
 refine fR (λ_=>true) f hz hl (λi x H hx sm A B hA _=>?_) (λp H sm hp=>?_)
 ·have:=he i x H hx sm A (hA rfl);unfold dZ;simpa using this
 ·rw[List.filter_eq_self.mpr λ_ _=>rfl];exact hq p H sm hp
def fP{t u:L2.TS}{D:Ends}(J:St->Hp->Prop)(h1:∀R:Ends,(∀σ' H',J σ' H'->R.nx σ' H')->R.rt=D.rt->t R σ H)(h2:∀σ' H',J σ' H'->u D σ' H'):vR t u D σ H:=h1 { D with nx:=u D } h2 rfl
inductive PAt(H:Hp):V->Cq×Nat->Prop
 |mk {a:LN} {v:V} {c:Cq} {d:Nat} (h:H a=some (.tup [v,.int (d:Int)])) (h1:CqAt H v c):PAt H (.ref a) (c,d)
def PsAt(H:Hp)(vs:Md)(ps:List (Cq×Nat)):Prop:=vs.length=ps.length/\∀(i:Nat) (v:V) (x:Cq×Nat),vs[i]?=some v->ps[i]?=some x->PAt H v x
def PAt.same(p:PAt H v x)(s:Same H H'):PAt H' v x:=by
 cases p with
 |mk h h1=>exact .mk (s _ _ h) (h1.ts λa zs e=>s _ _ e)
def PsAt.same(p:PsAt H vs ps)(s:Same H H'):PsAt H' vs ps:=#[p.1,λi v x a b=>(p.2 i v x a b).same s]
def PsAt.take(p:PsAt H vs ps)(n:Nat):PsAt H (vs.take n) (ps.take n):=by
 refine#[by rw[ZD,ZD,p.1],λi v x a b=>?_];rw[List.getElem?_take]at a b;split at a
 ·rename_i z;rw[LI z]at b;exact p.2 i v x a b
 ·cases a
def PsAt.drop(p:PsAt H vs ps)(n:Nat):PsAt H (vs.drop n) (ps.drop n):=by refine#[by rw[Yt,Yt,p.1],λi v x a b=>?_];rw[List.getElem?_drop]at a b;exact p.2 _ v x a b
def PsAt.snoc(p:PsAt H vs ps)(q:PAt H v x):PsAt H (vs++[v]) (ps++[x]):=by
 refine#[by rw[Zi,Zi,p.1];rfl,λi v' x' a b=>?_];by_cases z:i<vs.length
 ·rw[ZS z]at a;rw[ZS (by rw[<-p.1];exact z)]at b;exact p.2 i _ _ a b
 ·rw[ZF ∅]at a;rw[ZF (by rw[<-p.1];omega),<-p.1]at b;have z0:i-vs.length=0:=by have:=(Zm.mp a).1;simp at this;omega
  rw[z0]at a b;cases a;cases b;exact q
def wt(ps:List (Cq×Nat)):Nat:=(ps.map λx=>x.1.ws.length+4).sum
def jo(a b:List (Cq×Nat)):wt (a++b)=wt a+wt b:=by unfold wt;rw[ZU,List.sum_append]
def PsOk(h B:Nat)(ps:List (Cq×Nat)):Prop:=(∀x∈ps,GoodC h x.2 x.1/\x.2<=12)/\wt ps<=B
theorem vU:∀(ps:List (Cq×Nat)),(Cq.wsL o (ps.map (·.1))).length<=wt ps
 | []=>by rw[YN,Cq.wsL];exact Zy _
 | [x]=>by
  rw[Zs,YN,Cq.wsL];have:(dq (brk x.1 (orW o)) x.1.ws).length<=x.1.ws.length+2:=by
   cases brk x.1 (orW o)
   ·exact YI _ 2
   ·show(x.1.ws++[cls]).length+1<=_;rw[Zi];exact Ze _
  unfold wt;simp only[Zs,YN,List.sum_cons,List.sum_nil];omega
 |x::y::ps=>by
  have ih:=vU (o:=o) (y::ps);rw[Zs,Zs,Cq.wsL,Zi,Zl];rw[Zs]at ih;have:(dq (brk x.1 (orW o)) x.1.ws).length<=x.1.ws.length+2:=by
   cases brk x.1 (orW o)
   ·exact YI _ 2
   ·show(x.1.ws++[cls]).length+1<=_;rw[Zi];exact Ze _
  have e:wt (x::y::ps)=x.1.ws.length+4+wt (y::ps):=by unfold wt;rw[Zs,List.sum_cons]
  rw[e];omega
def zJ(ok:AtOk c):c.ws.length<=2:=by cases ok<;>(rw[Cq.ws];simp)
def PsAt.get(p:PsAt H vs ps){i:Nat}(e:vs[i]?=some v):∃c d a u,ps[i]?=some (c,d)/\v=.ref a/\H a=some (.tup [u,.int (d:Int)])/\CqAt H u c:=by
 have hi:i<ps.length:=by rw[<-p.1];exact(Zm.mp e).1
 have:=p.2 i v ps[i] e (z9 hi);obtain⟨c,d⟩:Cq×Nat:=ps[i];generalize hx:ps[i]=x at this;cases this with
 |mk h h1=>exact#[_,_,_,_,by rw[z9 hi,hx],rfl,h,h1]
def wJ(e:xs[xs.length-1]?=some v):atI xs (-1)=some v:=by have hl:xs.length-1<xs.length:=(Zm.mp e).1;unfold atI ixN;rw[LH ⋯,LI ∅];show xs[((-1:Int)+xs.length).toNat]?=_;rw[show((-1:Int)+xs.length).toNat=xs.length-1 by omega];exact e
def dm(H:Hp):V->V
 |.ref a=>(match H a with|some (.tup (u::_))=>u|_=>.non)
 |_=>.non
def gI{H:Hp}{r:Md}(e:H a=some (.tup (u::r))):dm H (.ref a)=u:=by show(match H a with|some (.tup (u::_))=>u|_=>V.non)=u;rw[e]
def FQ(H:Hp)(vs:Md):(List.range vs.length).map (λi=>dm H ((vs[i]?).getD .non))=vs.map (dm H):=by refine Ye (by simp) λi h1 h2=>?_;rw[Zd]at h2;simp[h2]
theorem PsAt.fsts:∀{vs:Md} {ps:List (Cq×Nat)},PsAt H vs ps->CqsAt H (vs.map (dm H)) (ps.map (·.1))
 | [],[],_=>.nil
 | [],_::_,h=>by have:=h.1;simp at this
 |_::_,[],h=>by have:=h.1;simp at this
 |v::vs,x::ps,h=>by
  refine .cons ?_ (PsAt.fsts #[by have:=h.1;simpa using this,λi v x a b=>h.2 (i+1) v x a b]);have:=h.2 0 v x rfl rfl;cases this with
  |mk h1 h2=>rw[gI h1];exact h2
def dpI(t:Str)(x:Cq×Nat):Nat:=if brk x.1 t then x.2+1 else x.2
def wU(t:Str)(c:Cq)(d:Nat):(if brk c t then(d:Int)+1 else(d:Int))=(dpI t (c,d):Int):=by unfold dpI;split<;>simp_all
def FH(e:ps[ps.length-1]?=some x):ps=ps.take (ps.length-1)++[x]:=by have hl:ps.length-1<ps.length:=(Zm.mp e).1;have:ps=ps.take (ps.length-1)++ps.drop (ps.length-1):=(List.take_append_drop _ _).symm;rw[YC hl,List.drop_of_length_le ∅,show ps[ps.length-1]=x from ZB ((z9 hl).symm.trans e)]at this;exact this
inductive spGrown(vs:Md)(H:Hp)(Q:VK)(E_:XK):Prop
 |mk (L N:LN) (cell:Int) (ws:Md) (ps:List (Cq×Nat)) (h B:Nat) (h0:vs=[.ref L,.int cell,.ref N]) (h1:H L=some (.lst ws)) (h2:NlAt H N) (h3:PsAt H ws ps) (h4:PsOk h B ps) (h5:ps.length<=70)
   (h7:∀L' ws' ps' H',Same H H'->H' L'=some (.lst ws')->PsAt H' ws' ps'->PsOk (h+1) (B+6) ps'->ps'.length<=ps.length+1->ps'≠[]->Q (.ref L') H'):spGrown vs H Q E_
abbrev qR:Stmt:=top 54
abbrev Ev:List Str:=["_law_some","_law_cell","_law_names","_law_number","_law_way","_law_parts","_law_condition","_law_deep_here","_law_word"]
def cR:FnScope Ev ["_law_some","_law_cell","_law_names"] (aj qR):= ~~~0
def CD(F:Fun K "_law_grown" "_law_grown" qR f fd)(K1:↑Fn 1 "_law_deep" ["_law_condition","_law_deep_here","_law_word"] spDeep)(Kr:↑Fn 1 "_law_atom" ["_law_number","_law_names"] spAtom)(a8:mg "len" = none)(KJ:mg "max" = none)(j8:mg "tuple" = none):↑FnOk CX0 2 f fd ["_law_some","_law_cell","_law_names"] spGrown:=by
 exists cR
 exists[L,N,cell,ws,ps,h,B,rfl,eL,eN,pa,pk,l70,q],h;refine#[_,(b_c (ax (i:=3) cR.nd (aw aX (aw D9 (aw aX ↑1 af) af) af))
   (b_c (ax (i:=4) cR.nd (aw aX ↑1 af))
   (b_c (ax (i:=5) cR.nd (iO pf ↑0 (iN (aw gF (aw gF (q_B bM a8 ZH (q_a ↑0 ah)) af) (aw aX (aw bL ↑1 af) af))) iM))
   (b_c (aC (aq jL (q_B bM a8 ZH (q_a ↑0 ah)) (aw eX af (aw aX (aw bL ↑1 af) af))) (b_1 (ax (i:=5) cR.nd ↑0)) b_0)
   (b_c (aC (t_w (cA (aq aD ↑4 af) (bY (aq (qF (K:=K) rfl hr.units) ↑0 (bv ah))))) (b_c (yS (ao aY ↑0 (Db zn af)) (iu rfl (cF (aA (i:=6) cR.nd) (cF (aA (i:=7) cR.nd) iG))))
   (b_c (ax (i:=7) cR.nd (aw eX af (aG K1 ↑99 (q_a ↑6 (q_a ↑7 (q_a ai ah))))))
   (b_1 (aC (aq kT ↑7 af) (b_1 (am (aw sS (iO pf ↑0 iM (iN (Db zn af))) (bv (q_a (aW (q_a (aW (q_a ai (q_a ↑6 ah))) (q_a ↑7 ah))) ah))))) b_0)))) b_0)
   (b_c (aC (t_w (cA (aq jK ↑4 af) (bY (aq jK (q_B bM a8 ZH (q_a ↑5 ah)) af)))) (b_c (ax (i:=8) cR.nd (ao aY (bv (q_a ai (q_a ai ah))) (aw gF ↑4 af)))
   (b_c (ax (i:=7) cR.nd (q_B (Gx (K:=K) rfl rfl) KJ tY (q_a (aQ (own:=["_law_condition","_law_deep_here"]) (#[rfl,⋯,⋯,rfl,#[rfl,rfl,trivial]]:CompOk _ _ [8] ["_law_word"]) rfl (bz ↑5) (λ_ _ _ _=>uB (K:=K) (n:=2) rfl rfl (cF (aA (i:=0) (show (["_law_condition","_law_deep_here","_law_word"]:List Str).Nodup by decide)) (cF (aA (i:=1) (show (["_law_condition","_law_deep_here","_law_word"]:List Str).Nodup by decide)) iG))) (uD (fw (aF ⋯) dS (fw (aF ⋯) dS qw gJ) (nQ dS gJ))) (λ_ _ _ _=>bA) (λ_ _ _ _=>(aG K1 ↑99 (q_a ↑0 (q_a ↑1 (q_a ↑2 ah)))))) ah)))
   (b_1 (aC (aq kT ↑7 af) (b_1 (am (aw sS (iO pf ↑0 iM (iN (aw gF (q_B bM a8 ZH (q_a ↑0 ah)) (q_B bM a8 ZH (q_a ↑5 ah))))) (bv (q_a (aW (q_a (aW (q_a ↑8 (q_a (eZ xZ j8 ju (q_a (aQ (own:=["_law_part"]) (#[rfl,⋯,⋯,rfl,trivial]:CompOk _ _ [] []) rfl (bz ↑5) (λ_ _ _ _=>aA (i:=0) (show (["_law_part"]:List Str).Nodup by decide)) (aF ⋯) (λ_ _ _ _=>bA) (λ_ _ _ _=>(ao (dQ (K:=K) rfl) ↑0 af))) ah)) ah))) (q_a ↑7 ah))) ah))))) b_0)))) b_0)
   (b_1 (am (aw sS ↑0 (bv (q_a (aW (q_a (aG Kr ↑99 (q_a ↑3 (q_a ↑2 ah))) (q_a af ah))) ah))))))))))),?_]
 have k0:=YD (cell / 7) (show(3:Int)≠0 by decide);have k1:=Yq (cell / 7) (show(0:Int)<3 by decide);have lw:ws.length=ps.length:=pa.1;refine#[_,rfl,_,_,rfl,rfl,(by show(0:Int)<1000003;decide),_,_,rfl,rfl,.inr #[⋯,⋯],_,_,rfl,rfl,(by show(0:Int)<2147483647;decide),?_];refine#[_,rfl,_,_,rfl,rfl,(by show(0:Int)<7;decide),?_];refine#[_,rfl,_,rfl,L,ws,rfl,.inl (L7 eL),_,_,rfl,rfl,_,rfl,_,_,rfl,rfl,#[⋯,⋯],_,_,rfl,rfl,(by show(0:Int)<3;decide),_,_,rfl,rfl,_,rfl,L,ws,rfl,L7 eL,λp gp=>?_];generalize cell%1000003*48271%2147483647=num;dsimp only[bD];refine FW (λσ' H'=>∃(P:LN) (m:Nat),σ'=[some (.ref L),some (.int cell),some (.ref N),some (.int num),some (.int (cell%7)),some (.ref P),none,none,none]/\Same H H'/\H' P=some (.lst (ws.drop m))/\m<=ws.length) (λR hR=>?_) ?_
 ·have w1:=ad gp (.lst (cu ws (some ((ws.length:Int)-2-cell / 7%3)) none));refine#[_,rfl,L,ws,rfl,.inl (L7 (w1 _ _ eL)),_,rfl,_,_,rfl,rfl,#[⋯,⋯],_,_,rfl,rfl,(by show(0:Int)<3;decide),_,_,rfl,rfl,_,_,rfl,rfl,#[_,rfl,bp (λc=>?_) (λc=>?_)]]
  ·exact#[_,rfl,hR _ _ #[L,0,rfl,w1,w1 _ _ eL,Zy _]]
  ·have c:¬(ws.length:Int)<2+cell / 7%3:=c;refine hR _ _ #[p,((ws.length:Int)-2-cell / 7%3).toNat,rfl,w1,?_,∅];rw[ac,ul ∅ ∅]
 rintro σ' H1 ⟨P,m,rfl,s1,eP,hm⟩;have gtake:∀n,∀x∈ps.take n,GoodC (h+1) x.2 x.1/\x.2<=12:=λn x hx=>by exists[a,b],pk.1 x (List.mem_of_mem_take hx);exact#[a.mono (YA h) (Ze _),b]
 refine fP (λσ' H'=>∃x6 x7,σ'=[some (.ref L),some (.int cell),some (.ref N),some (.int num),some (.int (cell%7)),some (.ref P),x6,x7,none]/\Same H H'/\H' P=some (.lst (ws.drop m))) (λR hR hrt=>?_) ?_
 ·refine#[_,rfl,rfl,#[_,rfl,uJ (λc4=>?_) (λc4=>aJ (hR _ _ #[_,_,rfl,s1,eP]))]];refine#[_,rfl,sz rfl,λp2 g2=>#[L,p2,ws,rfl,rfl,L7 (ad g2 _ _ _ (s1 _ _ eL)),L7 ac,#[_,rfl,?_]]];have w2:=s1.trans (ad g2 (.lst []));have eP2:=ad g2 (.lst []) _ _ eP;generalize upd H1 p2 (.lst [])=H2 at w2 eP2 ⊢;by_cases hw:ws=[]
  ·rw[hw];exact aJ (hR _ _ #[_,_,rfl,w2,by rw[eP2,hw]])
  have hlen:0<ws.length:=YZ.mpr hw;rw[show(!ws.isEmpty)=true by cases ws with|nil=>exact absurd rfl hw|cons=>rfl];refine aP ?_;have elast:ws[ws.length-1]?=some ws[ws.length-1]:=z9 ∅;exists[c,d,a,u,ep,ev,ea,hc],pa.get elast;rw[ev]at elast;refine#[_,rfl,1,rfl,L,ws,_,_,rfl,rfl,L7 (w2 _ _ eL),wJ elast,a,_,rfl,L6 (w2 _ _ ea),rfl,u,_,rfl,_,_,rfl,rfl,?_];refine#[_,rfl,_,rfl,u,c,d,bS,rfl,hc.ts λa zs e=>w2 _ _ e,#[_,_,rfl,rfl,?_]];rw[wU];refine#[_,rfl,_,_,rfl,rfl,#[_,rfl,bp (λc12=>?_) (λc12=>hR _ _ #[_,_,rfl,w2,eP2])]];have c12:1+(dpI bS (c,d):Int)<=12:=c12;refine#[_,rfl,1,rfl,_,rfl,L,ws,rfl,L7 (w2 _ _ eL),λp3 g3=>?_];rw[B0];have w3:=w2.trans (ad g3 (.lst (ws.take (ws.length-1))));have e3:upd H2 p3 (.lst (ws.take (ws.length-1))) p3=some (.lst (ws.take (ws.length-1))):=ac;generalize upd H2 p3 (.lst (ws.take (ws.length-1)))=H3 at w3 e3 ⊢;refine#[_,rfl,sz rfl,λt1 g4=>#[_,rfl,sz rfl,λt2 g5=>#[sz rfl,λp6 g6=>?_]]];have w4:=ad g4 (.tup [.str "not",u]);have e4:upd H3 t1 (.tup [.str "not",u]) t1=some (.tup [.str "not",u]):=ac;generalize upd H3 t1 (.tup [.str "not",u])=H4 at w4 e4 g5 g6 ⊢;have w5:=ad g5 (.tup [.ref t1,.int (1+(dpI bS (c,d):Int))]);have e5:upd H4 t2 (.tup [.ref t1,.int (1+(dpI bS (c,d):Int))]) t2=some (.tup [.ref t1,.int (1+(dpI bS (c,d):Int))]):=ac;generalize upd H4 t2 (.tup [.ref t1,.int (1+(dpI bS (c,d):Int))])=H5 at w5 e5 g6 ⊢;have w6:=ad g6 (.lst [.ref t2]);have e6:upd H5 p6 (.lst [.ref t2]) p6=some (.lst [.ref t2]):=ac;generalize upd H5 p6 (.lst [.ref t2])=H6 at w6 e6 ⊢;refine#[p3,p6,_,_,rfl,rfl,w6 _ _ (w5 _ _ (w4 _ _ e3)),e6,dh (by simp;omega),λp7 g7=>?_];rw[hrt];have w7:=ad g7 (.lst (ws.take (ws.length-1)++[.ref t2]));have wa:Same H3 (upd H6 p7 (.lst (ws.take (ws.length-1)++[.ref t2]))):=w4.trans (w5.trans (w6.trans w7));have hb:brk c bS=c.mny:=(pk.1 _ (ZC ep)).1.brkA ⋯;rw[lw]at ep;have el:=FH ep;refine q p7 _ (ps.take (ws.length-1)++[(.no c,1+dpI bS (c,d))]) _ (w3.trans wa) ac (((pa.take _).same (w3.trans wa)).snoc (.mk (v:=.ref t1) ?_ (.no (w7 _ _ (w6 _ _ (w5 _ _ e4))) (hc.ts λa zs e=>wa _ _ (w3 _ _ e))))) #[λx hx=>?_,?_] ?_ (by simp)
  ·rw[w7 _ _ (w6 _ _ e5)];rfl
  ·rcases ZE.mp hx with hx|hx
   ·exact gtake _ x hx
   ·rw[Zj.mp hx];refine#[.no (pk.1 _ (ZC ep)).1 ?_,?_]
    ·show d+_<=1+dpI bS (c,d);unfold dpI;show d+_<=1+(if brk c bS=true then d+1 else d);rw[hb];cases c.mny
     ·show d+1<=1+d;omega
     ·show d+2<=1+(d+1);omega
    ·show 1+dpI bS (c,d)<=12;omega
  ·have h1:wt ps=wt (ps.take (ps.length-1))+wt [(c,d)]:=by rw[<-jo,<-el]
   have h2:=pk.2;rw[jo,lw];have h3:wt [(Cq.no c,1+dpI bS (c,d))]<=wt [(c,d)]+3:=by
    show(Cq.no c).ws.length+4+0<=c.ws.length+4+0+3;rw[Cq.ws,Zl];have:(dq (brk c bS) c.ws).length<=c.ws.length+2:=by
     cases brk c bS
     ·exact YI _ 2
     ·show(c.ws++[cls]).length+1<=_;rw[Zi];exact Ze _
    omega
   omega
  ·rw[Zi,ZD];simp;omega
 rintro σ' H2 ⟨x6,x7,rfl,s2,eP⟩;have eLen:(ws.drop m).length=ws.length-m:=Yt;have pd:=(pa.drop m).same s2;refine fP (λσ' H'=>∃x6 x7 x8,σ'=[some (.ref L),some (.int cell),some (.ref N),some (.int num),some (.int (cell%7)),some (.ref P),x6,x7,x8]/\Same H H') (λR hR hrt=>?_) ?_
 ·refine#[_,rfl,_,_,rfl,rfl,#[_,rfl,bp (λc4=>?_) (λc4=>aJ (hR _ _ #[_,_,_,rfl,s2]))]];refine#[_,rfl,P,_,rfl,.inl (L7 eP),_,_,rfl,rfl,#[_,rfl,bp (λc1=>?_) (λc1=>hR _ _ #[_,_,_,rfl,s2])]];have c4:cell%7>4:=c4;have c1:((ws.drop m).length:Int)>1:=c1;rw[eLen]at c1;obtain⟨o,ho⟩:∃o:Bool,atI [V.str "and",V.str "or"] (cell%7-5)=some (.str (orW o)):=by
   have:cell%7=5\/cell%7=6:=∅
   rcases this with e|e
   ·exact#[false,by rw[e];rfl]
   ·exact#[true,by rw[e];rfl]
  refine#[sz rfl,λp3 g3=>#[_,rfl,_,_,rfl,rfl,p3,_,_,_,rfl,rfl,L7 ac,ho,?_]];have w3:=ad g3 (.lst [.str "and",.str "or"]);generalize upd H2 p3 (.lst [.str "and",.str "or"])=H3 at w3 ⊢;have eP3:=w3 _ _ eP;have pd3:=pd.same w3;have lp:(ws.drop m).length=(ps.drop m).length:=pd.1;refine#[_,rfl,P,rfl,#[_,L7 eP3],?_];refine yf (λi=>.int (dI ((ps.drop m).map λx=>(dpI (orW o) x:Int)) i)) ∅ (L7 eP3) (λi x H4 hi sm R' k=>?_) (λp4 H4 s4 g4=>?_)
  ·exists[c,d,a,u,ep,rfl,ea,hc],pd3.get hi;have ek:dI ((ps.drop m).map λx=>(dpI (orW o) x:Int)) i=(dpI (orW o) (c,d):Int):=by unfold dI;rw[Zq,ep];rfl
   rw[ek,<-wU]at k;exact#[a,_,rfl,L6 (sm _ _ ea),rfl,u,_,rfl,_,_,rfl,rfl,#[_,rfl,_,rfl,_,rfl,u,c,d,orW o,rfl,hc.ts λa zs e=>sm _ _ e,k _ (Same.refl _)]]
  have em:(List.range (ws.drop m).length).map (λi=>V.int (dI ((ps.drop m).map λx=>(dpI (orW o) x:Int)) i))=((ps.drop m).map λx=>(dpI (orW o) x:Int)).map V.int:=by rw[lp];refine Ye (by simp) λi h1 h2=>?_;rw[Zd,Zd]at h2;simp only[List.getElem_map,List.getElem_range];unfold dI;rw[Zq,z9 h2];rfl
  rw[em];refine#[p4,_,rfl,L7 ac,λz=>?_,λM hM hmx=>?_]
  ·have:=ZN List.length z;rw[Zd]at this;simp only[List.length_nil]at this;omega
  have w4:=s4.trans (ad g4 (.lst (((ps.drop m).map λx=>(dpI (orW o) x:Int)).map V.int)));generalize upd H4 p4 (.lst (((ps.drop m).map λx=>(dpI (orW o) x:Int)).map V.int))=H5 at w4 ⊢;obtain⟨Mn,rfl⟩:∃Mn:Nat,M=(Mn:Int):=by exists[x,_,rfl],Zw.mp hM;exact#[_,rfl]
  have hmx:∀x∈ps.drop m,dpI (orW o) x<=Mn:=λx hx=>by have:=hmx _ (Zw.mpr #[x,hx,rfl]);omega
  refine#[_,rfl,_,_,rfl,rfl,#[_,rfl,bp (λc12=>?_) (λc12=>hR _ _ #[_,_,_,rfl,s2.trans (w3.trans w4)])]];have c12:(Mn:Int)<=12:=c12;have s5:=s2.trans (w3.trans w4);have eP5:=w4 _ _ eP3;have pd5:=pd3.same w4;refine#[_,rfl,_,rfl,L,ws,rfl,.inl (L7 (s5 _ _ eL)),_,rfl,P,_,rfl,.inl (L7 eP5),_,_,rfl,rfl,_,rfl,L,ws,rfl,L7 (s5 _ _ eL),λp6 g6=>?_];rw[show cu ws none (some ((ws.length:Int)-((ws.drop m).length:Int)))=ws.take m by rw[eLen,Gy ∅ ∅];congr 1;omega];have w6:=ad g6 (.lst (ws.take m));have e6:upd H5 p6 (.lst (ws.take m)) p6=some (.lst (ws.take m)):=ac;generalize upd H5 p6 (.lst (ws.take m))=H6 at w6 e6 ⊢;have eP6:=w6 _ _ eP5;have pd6:=pd5.same w6;refine#[_,rfl,_,rfl,P,rfl,#[_,L7 eP6],?_];refine bJ (λi=>dm H6 (((ws.drop m)[i]?).getD .non)) ∅ (L7 eP6) (λi x H7 hi sm R' k=>?_) (λp7 H7 s7 g7=>?_)
  ·exists[c,d,a,u,ep,rfl,ea,hc],pd6.get hi;rw[hi]at k;have:dm H6 (Option.getD (some (V.ref a)) V.non)=u:=gI ea;rw[this]at k;exact#[_,rfl,a,_,_,_,rfl,rfl,L6 (sm _ _ ea),at0,k _ (Same.refl _)]
  rw[FQ];have cq:=pd6.fsts;have l1:((ws.drop m).map (dm H6)).length=ws.length-m:=by rw[Zd,eLen]
  generalize(ws.drop m).map (dm H6)=us at cq l1 ⊢;have w7:=s7.trans (ad g7 (.lst us));have e7:upd H7 p7 (.lst us) p7=some (.lst us):=ac;generalize upd H7 p7 (.lst us)=H8 at w7 e7 ⊢;refine#[p7,us,rfl,.inl #[L7 e7,λb gb=>#[sz rfl,λt1 g1=>#[_,rfl,sz rfl,λt2 g2=>#[sz rfl,λp9 g9=>?_]]]]];have wb:=ad gb (.tup us);have eb:upd H8 b (.tup us) b=some (.tup us):=ac;generalize upd H8 b (.tup us)=H9 at wb eb g1 g2 g9 ⊢;have wt1:=ad g1 (.tup [.str (orW o),.ref b]);have et1:upd H9 t1 (.tup [.str (orW o),.ref b]) t1=some (.tup [.str (orW o),.ref b]):=ac;generalize upd H9 t1 (.tup [.str (orW o),.ref b])=HA at wt1 et1 g2 g9 ⊢;have wt2:=ad g2 (.tup [.ref t1,.int (Mn:Int)]);have et2:upd HA t2 (.tup [.ref t1,.int (Mn:Int)]) t2=some (.tup [.ref t1,.int (Mn:Int)]):=ac;generalize upd HA t2 (.tup [.ref t1,.int (Mn:Int)])=HB at wt2 et2 g9 ⊢;have w9:=ad g9 (.lst [.ref t2]);have e9:upd HB p9 (.lst [.ref t2]) p9=some (.lst [.ref t2]):=ac;generalize upd HB p9 (.lst [.ref t2])=HC at w9 e9 ⊢;have w69:Same H6 HC:=w7.trans (wb.trans (wt1.trans (wt2.trans w9)));refine#[p6,p9,_,_,rfl,rfl,w69 _ _ e6,e9,dh (by simp;omega),λpA gA=>?_];rw[hrt];have wA:=ad gA (.lst (ws.take m++[.ref t2]));have wz:Same H _:=s5.trans (w6.trans (w69.trans wA));refine q pA _ (ps.take m++[(.many o ((ps.drop m).map (·.1)),Mn)]) _ wz ac (((pa.take m).same wz).snoc (.mk (v:=.ref t1) (wA _ _ (w9 _ _ et2)) (.many (wA _ _ (w9 _ _ (wt2 _ _ et1))) (wA _ _ (w9 _ _ (wt2 _ _ (wt1 _ _ eb)))) (cq.ts λa zs e=>wA _ _ (w69 _ _ e))))) #[λx hx=>?_,?_] ?_ (by simp)
  ·rcases ZE.mp hx with hx|hx
   ·exact gtake _ x hx
   ·rw[Zj.mp hx];refine#[.many (by rw[Zd,<-lp,eLen];omega) (by rw[Zd,<-lp,eLen];omega) (λc hc=>?_) (λc hc hb=>?_),by show Mn<=12;omega]
    ·exists[x,hx,rfl],Zw.mp hc;have g1:=(pk.1 x (List.mem_of_mem_drop hx)).1;have g2:=hmx x hx;refine g1.mono (Ze _) ?_;show x.2<=Mn-_;unfold dpI at g2;split at g2<;>simp_all<;>omega
    ·exists[x,hx,rfl],Zw.mp hc;have g2:=hmx x hx;unfold dpI at g2;rw[LI hb]at g2;show 1<=Mn;omega
  ·have h1:wt ps=wt (ps.take m)+wt (ps.drop m):=by rw[<-jo,List.take_append_drop]
   have h2:=pk.2;have h3:wt [(Cq.many o ((ps.drop m).map (·.1)),Mn)]<=wt (ps.drop m)+4:=by show(Cq.many o ((ps.drop m).map (·.1))).ws.length+4+0<=_;rw[Cq.ws];have:=vU (o:=o) (ps.drop m);omega
   rw[jo];omega
  ·rw[Zi,ZD];simp;omega
 rintro σ' H3 ⟨x6,x7,x8,rfl,s3⟩;refine#[_,rfl,_,rfl,_,rfl,num,N,rfl,eN.same s3,λv c H4 s4 ok hc=>#[sz rfl,λt2 g5=>#[sz rfl,λp6 g6=>?_]]];have w5:=ad g5 (.tup [v,.int 0]);have e5:upd H4 t2 (.tup [v,.int 0]) t2=some (.tup [v,.int 0]):=ac;generalize upd H4 t2 (.tup [v,.int 0])=H5 at w5 e5 g6 ⊢;have w6:=ad g6 (.lst [.ref t2]);have e6:upd H5 p6 (.lst [.ref t2]) p6=some (.lst [.ref t2]):=ac;generalize upd H5 p6 (.lst [.ref t2])=H6 at w6 e6 ⊢;refine#[L,p6,_,_,rfl,rfl,w6 _ _ (w5 _ _ (s4 _ _ (s3 _ _ eL))),e6,dh (by simp;omega),λp7 g7=>?_];have w7:=ad g7 (.lst (ws++[.ref t2]));refine q p7 _ (ps++[(c,0)]) _ (s3.trans (s4.trans (w5.trans (w6.trans w7)))) ac ((pa.same (s3.trans (s4.trans (w5.trans (w6.trans w7))))).snoc (.mk (v:=v) (w7 _ _ (w6 _ _ e5)) (hc.ts λa zs e=>w7 _ _ (w6 _ _ (w5 _ _ e))))) #[λx hx=>?_,?_] (by simp) (by simp)
 ·rcases ZE.mp hx with hx|hx
  ·exists[a,b],pk.1 x hx;exact#[a.mono (YA h) (Ze _),b]
  ·rw[Zj.mp hx];exact#[.at ok,Zy _]
 ·rw[jo];have:=pk.2;have:wt [(c,0)]<=6:=by show c.ws.length+4+0<=6;have:=zJ ok;omega
  omega
inductive spTree(K:W.Frag)(vs:Md)(H:Hp)(Q:VK)(E_:XK):Prop
 |mk (L N:LN) (ns:LX) (h0:vs=[.ref L,.ref N]) (h1:SqL K H L (ns.map V.int)) (h2:NlAt H N) (h3:ns.length<=60) (h7:∀v c H',Same H H'->CqAt H' v c->GoodC 63 12 c->c.ws.length<=400->Q v H'):spTree K vs H Q E_
def PsOk.mono{h h' B B':Nat}(p:PsOk h B ps)(a:h<=h')(b:B<=B'):PsOk h' B' ps:=#[λx hx=>#[(p.1 x hx).1.mono a (Ze _),(p.1 x hx).2],Zt p.2 b]
theorem BN:∀{ps:List (Cq×Nat)} {x:Cq×Nat},x∈ps->x.1.ws.length+4<=wt ps
 |y::ps,x,h=>by
  have e:wt (y::ps)=y.1.ws.length+4+wt ps:=by unfold wt;rw[Zs,List.sum_cons]
  rcases Zf.mp h with rfl|h
  ·omega
  ·have:=BN h;omega
theorem rY(k:Cq×Nat->Bool):∀ps:List (Cq×Nat),wt (ps.filter k)<=wt ps
 | []=>Ze _
 |y::ps=>by
  have ih:=rY k ps;have e:∀ps,wt (y::ps)=y.1.ws.length+4+wt ps:=λps=>by unfold wt;rw[Zs,List.sum_cons]
  rw[List.filter_cons];split
  ·rw[e,e];omega
  ·rw[e];omega
def PsOk.len{h B:Nat}(p:PsOk h B ps)(hx:x∈ps):x.1.ws.length<=B:=by have:=BN hx;have:=p.2;omega
def kO(ps:List (Cq×Nat)):List (Cq×Nat):=ps.filter λx=>decide (x.2<12)
theorem PsAt.keep(h':Hp):∀{vs:Md} {ps:List (Cq×Nat)},PsAt H vs ps->∀k:Nat->Bool,(∀i x,ps[i]?=some x->k i=decide (x.2<12))->CqsAt H (((List.range vs.length).filter k).map λi=>dm H ((vs[i]?).getD .non)) ((kO ps).map (·.1))
 | [],[],_,_,_=>.nil
 | [],_::_,h,_,_=>by have:=h.1;simp at this
 |_::_,[],h,_,_=>by have:=h.1;simp at this
 |v::vs,x::ps,h,k,hk=>by
  have ih:=PsAt.keep h' (vs:=vs) (ps:=ps) #[by have:=h.1;simpa using this,λi v x a b=>h.2 (i+1) v x a b] (λi=>k (i+1)) (λi y e=>hk (i+1) y e);have e:((List.range (v::vs).length).filter k).map (λi=>dm H (((v::vs)[i]?).getD .non))=(if k 0 then[dm H v]else[])++((List.range vs.length).filter λi=>k (i+1)).map λi=>dm H ((vs[i]?).getD .non):=by
   rw[Zl,List.range_succ_eq_map,List.filter_cons];have e2:((List.range vs.length).map Nat.succ).filter k=((List.range vs.length).filter λi=>k (i+1)).map Nat.succ:=by rw[List.filter_map];rfl
   rw[e2];split
   ·rw[Zs,Yw];rfl
   ·rw[Yw];rfl
  rw[e];have k0:=hk 0 x rfl;unfold kO;rw[List.filter_cons,k0];have p0:=h.2 0 v x rfl rfl;split
  ·cases p0 with
   |mk h1 h2 =>rw[gI h1];exact .cons h2 ih
  ·exact ih
abbrev vH:Stmt:=top 55
abbrev Go:List Str:=["_law_cells","_law_names","_law_some","_law_cell","_law_parts"]
def jk:FnScope Go ["_law_cells","_law_names"] (aj vH):= ~~~0
def Fc(F:Fun K "_law_tree" "_law_tree" vH f fd)(K5:↑Fn 2 "_law_grown" ["_law_some","_law_cell","_law_names"] spGrown)(Kr:↑Fn 1 "_law_atom" ["_law_number","_law_names"] spAtom)(a8:mg "len" = none)(j8:mg "tuple" = none):↑FnOk CX0 3 f fd ["_law_cells","_law_names"] (spTree K):=by
 exists jk
 exists[L,N,ns,rfl,eC,eN,l60,q],h;exists _,(b_c (ax (i:=2) jk.nd (bv (q_a (aW (q_a (aG Kr ↑99 (q_a af (q_a ↑1 ah))) (q_a af ah))) ah)))
   (b_c (jS Yp rfl (bz ↑0) (aA (i:=3) jk.nd) (b_1 (ax (i:=2) jk.nd (aG K5 ↑99 (q_a ↑2 (q_a ↑3 (q_a ↑1 ah)))))))
   (b_c (pO (j:=4) jk.nd (own:=["_law_condition","_law_deep_here"]) (#[rfl,⋯,⋯,rfl,trivial]:CompOk _ _ [] []) rfl (bz (iO pf ↑2 (iN af) iM)) (λ_ _ _ _=>uB (K:=K) (n:=2) rfl rfl (cF (aA (i:=0) (show (["_law_condition","_law_deep_here"]:List Str).Nodup by decide)) (cF (aA (i:=1) (show (["_law_condition","_law_deep_here"]:List Str).Nodup by decide)) iG))) (uD (fw (aF ⋯) dS (fw (aF ⋯) dS qw gJ) (nQ dS gJ))) (λ_ _ _ _=>(uG (aq jL ↑1 af))) (λ_ _ _ _=>↑0))
   (b_c (aC (aq jK (q_B bM a8 ZH (q_a ↑4 ah)) af) (b_1 (am (aW (q_a ai (q_a (eZ xZ j8 ju (q_a ↑4 ah)) ah))))) b_0)
   (b_1 (am (ao au (ao aY ↑2 (Db zn af)) af)))))))
 refine#[_,rfl,0,N,rfl,eN,λv c H1 s1 ok hc=>#[sz rfl,λt1 g1=>#[sz rfl,λp1 g2=>?_]]];have w1:=ad g1 (.tup [v,.int 0]);have e1:upd H1 t1 (.tup [v,.int 0]) t1=some (.tup [v,.int 0]):=ac;generalize upd H1 t1 (.tup [v,.int 0])=H2 at w1 e1 g2 ⊢;have w2:=ad g2 (.lst [.ref t1]);have e2:upd H2 p1 (.lst [.ref t1]) p1=some (.lst [.ref t1]):=ac;generalize upd H2 p1 (.lst [.ref t1])=H3 at w2 e2 ⊢;have s3:=s1.trans (w1.trans w2);have eC3:=s3.seq eC;refine#[_,rfl,L,rfl,#[_,eC3],?_];refine rD (xs:=ns.map V.int) (λi σ' H'=>∃(p:LN) (x:Option V) (ws:Md) (ps:List (Cq×Nat)),σ'=[some (.ref L),some (.ref N),some (.ref p),x,none]/\Same H H'/\H' p=some (.lst ws)/\PsAt H' ws ps/\PsOk (i+1) (6*(i+1)) ps/\ps.length<=i+1/\ps≠[]) ?_ ?_ ?_ ?_
 ·refine#[p1,none,[.ref t1],[(c,0)],rfl,s3,e2,#[rfl,λi v' x a b=>?_],#[λx hx=>?_,?_],by simp,by simp]
  ·have i0:i=0:=by have:=(Zm.mp a).1;simp at this;exact this
   subst i0;cases a;cases b;exact .mk (w2 _ _ e1) (hc.ts λa zs e=>w2 _ _ (w1 _ _ e))
  ·rw[Zj.mp hx];exact#[.at ok,Zy _]
  ·show c.ws.length+4+0<=6;have:=zJ ok;omega
 ·rintro i σ' H' hi ⟨p,x,ws,ps,rfl,s',_⟩;exact s'.seq eC
 ·rintro i x σ' H' hx ⟨p,x0,ws,ps,rfl,s',e',pa,pk,l1,ne⟩ D' hD;exists[rfl,hj],Cb hx;refine#[_,rfl,_,rfl,_,rfl,p,N,_,ws,ps,i+1,6*(i+1),rfl,e',eN.same s',pa,pk,∅,λL' ws' ps' H4 s4 e4 pa4 pk4 l4 ne4=>?_];exact hD _ _ #[L',_,ws',ps',rfl,s'.trans s4,e4,pa4,pk4,∅,ne4]
 rintro σ' H4 ⟨p,x,ws,ps,rfl,s4,e4,pa,pk,l1,ne⟩;rw[Zd]at pk l1;have pk:=pk.mono (h':=62) (B':=372) ∅ ∅;have lw:=pa.1;have lpos:0<ps.length:=YZ.mpr ne;refine#[_,rfl,_,rfl,p,ws,rfl,L7 e4,λp5 g5=>#[p5,rfl,#[_,L7 ac],?_]];rw[show cu ws (some 1) none=ws.drop 1 from ul (k:=1) ⋯ ∅];have w5:=ad g5 (.lst (ws.drop 1));have e5:upd H4 p5 (.lst (ws.drop 1)) p5=some (.lst (ws.drop 1)):=ac;generalize upd H4 p5 (.lst (ws.drop 1))=H5 at w5 e5 ⊢;have pd:=(pa.drop 1).same w5;have ld:(ws.drop 1).length=ws.length-1:=Yt;refine fR (λi=>decide ((((ps.drop 1)[i]?).getD (c,0)).2<12)) (λi=>dm H5 (((ws.drop 1)[i]?).getD .non)) ∅ (L7 e5) (λi x H6 hx sm A B hA hB=>?_) (λp6 H6 s6 g6=>?_)
 ·exists[c',d',a,u,ep,rfl,ea,hc'],pd.get hx;rw[ep]at hA hB;rw[hx]at hA;have:dm H5 (Option.getD (some (V.ref a)) V.non)=u:=gI ea;rw[this]at hA;refine#[a,_,rfl,L6 (sm _ _ ea),rfl,u,_,rfl,_,_,rfl,rfl,#[_,rfl,_,_,rfl,rfl,#[_,rfl,?_]]];by_cases z:d'<12
  ·rw[decide_eq_true (show(d':Int)<12 by omega)];exact aP #[_,rfl,hA (decide_eq_true z) _ (Same.refl _)]
  ·rw[decide_eq_false (show¬(d':Int)<12 by omega)];exact aJ (hB (decide_eq_false z) _ (Same.refl _))
 have cq:=PsAt.keep H5 pd (λi=>decide ((((ps.drop 1)[i]?).getD (c,0)).2<12)) λi x e=>by rw[e];rfl
 generalize((List.range (ws.drop 1).length).filter λi=>decide ((((ps.drop 1)[i]?).getD (c,0)).2<12)).map (λi=>dm H5 (((ws.drop 1)[i]?).getD .non))=us at cq ⊢;have lq:=cq.len;rw[Zd]at lq;have lk:(kO (ps.drop 1)).length<=ps.length:=by unfold kO;exact Zt (y8 _ _) (by rw[Yt];omega)
 have w6:=s6.trans (ad g6 (.lst us));have e6:upd H6 p6 (.lst us) p6=some (.lst us):=ac;generalize upd H6 p6 (.lst us)=H7 at w6 e6 ⊢;have s7:=s4.trans (w5.trans w6);refine#[_,rfl,p6,us,rfl,.inl (L7 e6),_,_,rfl,rfl,#[_,rfl,bp (λc1=>?_) (λc1=>?_)]]
 ·have c1:(us.length:Int)>1:=c1;refine#[_,rfl,p6,us,rfl,.inl #[L7 e6,λb gb=>#[sz rfl,λt2 gt2=>?_]]];have wb:=ad gb (.tup us);have eb:upd H7 b (.tup us) b=some (.tup us):=ac;generalize upd H7 b (.tup us)=H8 at wb eb gt2 ⊢;have wt2:=ad gt2 (.tup [.str "or",.ref b]);have mem:∀x∈kO (ps.drop 1),x∈ps/\x.2<12:=λx hx=>by unfold kO at hx;exists[a,b],ZP.mp hx;exact#[List.mem_of_mem_drop a,ZZ b]
  refine q _ (.many true ((kO (ps.drop 1)).map (·.1))) _ (s7.trans (wb.trans wt2)) (.many (o:=true) ac (wt2 _ _ eb) (cq.ts λa zs e=>wt2 _ _ (wb _ _ (w6 _ _ e)))) (.many (by rw[Zd];omega) (by rw[Zd];omega) (λc' hc'=>?_) (λ_ _ _=>∅)) ?_
  ·exists[x,hx,rfl],Zw.mp hc';exists[m1,m2],mem x hx;exact(pk.1 x m1).1.mono (Ze _) (by split<;>omega)
  ·rw[Cq.ws];refine Zt (vU _) ?_;have a:wt (kO (ps.drop 1))<=wt (ps.drop 1):=rY _ _;have b:wt ps=wt (ps.take 1)+wt (ps.drop 1):=by rw[<-jo,List.take_append_drop]
   have:=pk.2;omega
 ·have elast:ws[ws.length-1]?=some ws[ws.length-1]:=z9 ∅;exists[c',d',a,u,ep,ev,ea,hc'],pa.get elast;rw[ev]at elast;refine#[_,rfl,1,rfl,p,ws,_,_,rfl,rfl,L7 (w6 _ _ (w5 _ _ e4)),wJ elast,a,_,_,_,rfl,rfl,L6 (w6 _ _ (w5 _ _ ea)),at0,?_];have m1:=ZC ep;exists[g,d12],pk.1 _ m1;exact q _ c' _ s7 (hc'.ts λa zs e=>w6 _ _ (w5 _ _ e)) (g.mono ⋯ d12) (Zt (pk.len m1) ⋯)
theorem AJ:∀{l:List Nm} {ks:Md},NmsAt H l ks->DtAll H (l.map λn=>cj (some n)) ks
 |_,_,.nil=>by simp[DtAll]
 |_,_,.cons h t=>by rw[Zs];simp only[DtAll];exact#[_,_,rfl,(lS (u:=some _) h).1,AJ t]
theorem re:∀l:List (Option Nm),PyData.canLayAll0 (l.map cj)=true
 | []=>rfl
 |u::l=>by rw[Zs,PyData.canLayAll0,re l,Bool.and_true];cases u<;>rfl
theorem rj:∀l:List Bool,PyData.canLayAll0 (l.map PyData.bool)=true
 | []=>rfl
 |u::l=>by rw[Zs,PyData.canLayAll0,rj l];rfl
theorem tX:∀l:List Bool,DtAll H (l.map PyData.bool) (l.map V.bl)
 | []=>by simp[DtAll]
 |b::l=>by rw[Zs,Zs];simp only[DtAll];exact#[_,_,rfl,by simp[Dt],tX l]
def xM(l:List (Option Nm))(u:Option Nm):(l.map cj).any (λd=>PyData.eqv d (cj u))=decide (u∈l):=by
 rw[List.any_map,Z3,Yu,Z6];constructor
 ·rintro⟨v,hv,e⟩;rw[Function.comp,BK]at e;rw[<-ZZ e];exact hv
 ·intro h;exact#[u,h,by rw[Function.comp,BK];exact decide_eq_true rfl]
def Ez(ok:AtOk c):(c.hd="beneath"->∃x y,c=.item x y)/\(c.hd="seen"->c=.w "seen")/\(c.hd="leaf"->c=.w "leaf")/\(c.hd="says"->∃t,c=.says t)/\(c.hd="due"->∃n,c=.num "due" n)/\(c.hd="depth"->∃n,c=.num "depth" n)/\(c.hd≠"beneath"->c.hd≠"seen"->c.hd≠"leaf"->c.hd≠"says"->c.hd≠"due"->c.hd≠"depth"->c=.w "all"\/c=.w "done"\/c=.w "folded"\/c=.w "free"):=by
 have dj:∀s∈W6,s≠"beneath"/\s≠"says"/\s≠"due"/\s≠"depth":=⋯
 cases ok with
 |@w s hs =>
  exists[d1,d2,d3,d4],dj s hs;refine#[λz=>absurd z d1,λz=>ZN _ z,λz=>ZN _ z,λz=>absurd z d2,λz=>absurd z d3,λz=>absurd z d4,λ_ n1 n2 _ _ _=>?_];simp only[W6,Zf,Zz,ZY]at hs;rcases hs with rfl|rfl|rfl|rfl|rfl|rfl
  ·exact .inl rfl
  ·exact .inr (.inl rfl)
  ·exact .inr (.inr (.inl rfl))
  ·exact .inr (.inr (.inr rfl))
  ·exact absurd rfl n2
  ·exact absurd rfl n1
 |@num s n hs =>
  have:(s="due"\/s="depth")->s≠"beneath"/\s≠"seen"/\s≠"leaf"/\s≠"says":=by rintro(rfl|rfl)<;>decide +kernel
  exists[d1,d2,d3,d4],this hs;exact#[λz=>absurd z d1,λz=>absurd z d2,λz=>absurd z d3,λz=>absurd z d4,λz=>#[n,ZN (λs=>Cq.num s n) z],λz=>#[n,ZN (λs=>Cq.num s n) z],λ_ _ _ _ n5 n6=>(hs.elim n5 n6).elim]
 |@item x y =>
  have:(("beneath":Str)≠"seen")/\("beneath":Str)≠"leaf"/\("beneath":Str)≠"says"/\("beneath":Str)≠"due"/\("beneath":Str)≠"depth":=⋯
  exact#[λ_=>#[x,y,rfl],λz=>absurd z this.1,λz=>absurd z this.2.1,λz=>absurd z this.2.2.1,λz=>absurd z this.2.2.2.1,λz=>absurd z this.2.2.2.2,λz=>absurd rfl z]
 |@says t =>
  have:(("says":Str)≠"beneath")/\("says":Str)≠"seen"/\("says":Str)≠"leaf"/\("says":Str)≠"due"/\("says":Str)≠"depth":=⋯
  exact#[λz=>absurd z this.1,λz=>absurd z this.2.1,λz=>absurd z this.2.2.1,λ_=>#[t,rfl],λz=>absurd z this.2.2.2.1,λz=>absurd z this.2.2.2.2,λ_ _ _ n=>absurd rfl n]
def JT:di (.w "all")=.all/\di (.w "done")=.done/\di (.w "folded")=.folded/\di (.w "free")=.free/\di (.w "leaf")=.leaf/\di (.w "seen")=.seen/\(∀n,di (.num "due" n)=.due n)/\∀n,di (.num "depth" n)=.depth n:=by unfold di;simp only[show¬(("all":Str)="done") by decide,show¬(("all":Str)="folded") by decide,show¬(("all":Str)="free") by decide,show¬(("all":Str)="leaf") by decide,show¬(("all":Str)="seen") by decide,show¬(("folded":Str)="done") by decide,show¬(("free":Str)="done") by decide,show¬(("free":Str)="folded") by decide,show¬(("leaf":Str)="done") by decide,show¬(("leaf":Str)="folded") by decide,show¬(("leaf":Str)="free") by decide,show¬(("seen":Str)="done") by decide,show¬(("seen":Str)="folded") by decide,show¬(("seen":Str)="free") by decide,show¬(("seen":Str)="leaf") by decide,show¬(("depth":Str)="due") by decide,if_true,YH];exact#[trivial,trivial,trivial,trivial,trivial,trivial,λ_=>trivial,λ_=>trivial]
inductive LfAt(H:Hp)(p:LN)(ol:Ol)(l:List Nm):Prop
 |mk (ks:Md) (h0:H p=some (.lst ks)) (h1:NmsAt H l ks) (h2:∀n∈l,(look ol n).isSome=true) (h3:l.length<=60):LfAt H p ol l
def LfAt.same{ol:Ol}(x:LfAt H p ol l)(s:Same H H'):LfAt H' p ol l:=by exists[ks,h0,h1,h2,h3],x;exact#[ks,s _ _ h0,h1.ts (L5 s),h2,h3]
inductive spLAlone(vs:Md)(H:Hp)(Q:VK)(E_:XK):Prop
 |mk (cv nv:V) (m lf:LN) (c:Cq) (ol:Ol) (n:Nm) (it:It) (l ab:List Nm) (h0:vs=[cv,nv,.ref m,.ref lf]) (hc:CqAt H cv c) (ok:AtOk c) (h1:MinR H m ol) (h2:NameIs H nv (nk n)) (h3:look ol n=some it) (h4:Abv ol it.up ab) (h5:ab.length<=60) (h6:LfAt H lf ol l) (q:∀H':Hp,Same H H'->Q (.bl (iJ ol l it n ab (di c))) H'):spLAlone vs H Q E_
def rT(u:Option Nm):SeqAt.shaped (cj u)=true:=by
 cases u with
 |none=>exact lK rfl (Zy _)
 |some n=>exact lK rfl (by simp[cj,PyData.depth,PyData.depthAll])
def IP(f:Nat->V)(g:Nat->Option Nm):∀n:Nat,(∀j,j<n->UpAt H (f j) (g j))->DtAll H (((List.range n).map g).map cj) ((List.range n).map f):=by
 intro n h;have:∀l:List Nat,(∀j∈l,j<n)->DtAll H ((l.map g).map cj) (l.map f):=by
  intro l;induction l with
  |nil=>intro _;simp[DtAll]
  |cons j l ih =>intro hl;rw[Zs,Zs,Zs];simp only[DtAll];exact#[_,_,rfl,(lS (h j (hl j Zo))).1,ih λi hi=>hl i (Zn _ hi)]
 exact this _ λj hj=>ZM.mp hj
def ot{α:Type}(l:List α)(z:α){β:Type}(f:α->β):(List.range l.length).map (λi=>f (l.getD i z))=l.map f:=by
 refine Ye (by simp) λi h1 h2=>?_;have hi:i<l.length:=by simpa using h2
 simp[hi]
def Abv.mem{ol:Ol}(h:Abv ol u l):∀m∈l,∃it,look ol m=some it:=by
 induction h with
 |none=>exact λm hm=>nomatch hm
 |@up n it l h _ ih =>
  intro m hm;rcases Zf.mp hm with rfl|hm
  ·exact#[it,h]
  ·exact ih m hm
def zL(l:List Bool):(l.map PyData.bool).any (λd=>PyData.eqv d (.bool true))=l.any id:=by rw[List.any_map];congr 1;funext b;cases b<;>rfl
def cL{α:Type}{l:List α}{j:Nat}{x z:α}(h:l[j]?=some x):l.getD j z=x:=by rw[Zg,h];rfl
abbrev qQ:Stmt:=top 60
abbrev Et:List Str:=["_law_condition","_law_name","_law_mine","_law_left","_law_word","_law_up","_law_text","_law_done","_law_whom","_law_folded"]
def eT:FnScope Et ["_law_condition","_law_name","_law_mine","_law_left"] (aj qQ):= ~~~0
def CB(F:Fun K "_law_alone" "_law_alone" qQ f fd)(l5:↑Fn 1 "_law_above" ["_law_name","_law_mine"] spAbove)(a8:mg "len" = none):↑FnOk CX0 2 f fd ["_law_condition","_law_name","_law_mine","_law_left"] spLAlone:=by
 exists eT
 exists[cv,nv,m,lf,c,ol,n,it,l,ab,rfl,hc,ok,M,hn,hl,hab,hz,hlf,q],h;exists[ca,xs,rfl,ec],hc.head;exists[mvs,hm,Rm],id M;exists[iv,e1,ia,uv,rfl,e2,e3],cC Rm hl;exists[nb,rfl,hnb],id hn;exists[w1,w2,w3,w4,w5,w6,w7],Ez ok;exists[cd1,cd2,cd3,cd4,cd5,cd6,cd7,cd8],JT;have sEq:∀{x y:Str},V.str x=V.str y->x=y:=λh=>V.str.inj h;exists _,(b_c (ax (i:=4) eT.nd (ao au ↑0 af))
   (b_c (yS (dM hr.units ↑2 ↑1) (iu rfl (cF (aA (i:=5) eT.nd) (cF (aA (i:=6) eT.nd) (cF (aA (i:=7) eT.nd) (cF (aA (i:=8) eT.nd) (cF (aA (i:=9) eT.nd) iG)))))))
   (b_c (aC (aq aD ↑4 ai) (b_1 (am (aM (Jo hr) (ao au ↑0 af) (aG l5 ↑99 (q_a ↑1 (q_a ↑2 ah)))))) b_0)
   (b_c (aC (aq aD ↑4 ai) (b_1 (am (aM (kU (K:=K) rfl hr) fK (aQ (own:=["_law_one"]) (#[rfl,⋯,⋯,rfl,#[rfl,rfl,trivial]]:CompOk _ _ [2] ["_law_mine"]) rfl (bz (aG l5 ↑99 (q_a ↑1 (q_a ↑2 ah)))) (λ_ _ _ _=>aA (i:=0) (show (["_law_one","_law_mine"]:List Str).Nodup by decide)) (aF ⋯) (λ_ _ _ _=>bA) (λ_ _ _ _=>(ao (dQ (K:=K) rfl) (dM hr.units ↑1 ↑0) af)))))) b_0)
   (b_c (aC (aq aD ↑4 ai) (b_1 (am (aM (kU (K:=K) rfl hr) ↑1 (aQ (own:=["_law_one"]) (#[rfl,⋯,⋯,rfl,#[rfl,rfl,trivial]]:CompOk _ _ [2] ["_law_mine"]) rfl (bz ↑3) (λ_ _ _ _=>aA (i:=0) (show (["_law_one","_law_mine"]:List Str).Nodup by decide)) (aF ⋯) (λ_ _ _ _=>bA) (λ_ _ _ _=>(ao (dQ (K:=K) rfl) (dM hr.units ↑1 ↑0) af)))))) b_0)
   (b_c (aC (aq aD ↑4 ai) (b_1 (am (aM yC (ao au ↑0 af) ↑6))) b_0)
   (b_c (aC (aq aD ↑4 ai) (b_1 (am (gH (aM kW ↑8 cM) (fe (aM aD ↑8 (ao au ↑0 af)))))) b_0)
   (b_c (aC (aq aD ↑4 ai) (b_1 (am (aM kT (q_B bM a8 ZH (q_a (aG l5 ↑99 (q_a ↑1 (q_a ↑2 ah))) ah)) (ao au ↑0 af)))) b_0)
   (b_1 (am (dM hr.units (Ii (yP ai fK (yP ai ↑7 (yP ai ↑9 (yP ai (aM mF ↑8 cM) J1))))) ↑4)))))))))))
 refine aT λR0 hR0=>?_;refine vix rfl (L6 ec) at0 (hR0 _ _ ?_);refine aT λR0 hR0=>?_;refine#[_,rfl,_,rfl,m,.ref ia,rfl,ur hm hnb e1,ia,_,rfl,L6 e2,rfl,_,_,rfl,_,_,rfl,_,_,rfl,_,_,rfl,_,_,rfl,rfl,hR0 _ _ ?_];refine#[_,rfl,rfl,_,rfl,bp (λc1=>?_) (λc1=>?_)]
 ·exists[x,y,rfl],w1 (sEq c1);cases hc with
  |@item _ b _ _ ea eb =>
   refine vix rfl (L6 ea) at1 #[_,rfl,_,rfl,.ref nb,m,ol,n,it,ab,rfl,M,hn,hl,hab,hz,λp ks H1 s1 g1 e1' ka=>?_];have:=xM (ab.map some) (some (x,y));rw[Yw]at this;refine#[p,ks,cj (some (x,y)),ab.map λn=>cj (some n),rfl,L7 e1',(lS (u:=some (x,y)) #[b,rfl,s1 _ _ eb]).1,AJ ka,rT _,?_,?_]
   ·have:=re (ab.map some);rw[Yw]at this;exact this
   ·have e:(ab.map λn=>cj (some n)).any (λd=>PyData.eqv d (cj (some (x,y))))=decide ((x,y)∈ab):=by refine Eq.trans this ?_;simp
    have q1:=q H1 s1;rw[<-show _=iJ ol l it n ab (di (.item x y))from e]at q1;exact q1
 refine#[_,rfl,rfl,_,rfl,bp (λc2=>?_) (λc2=>?_)]
 ·obtain rfl:=w2 (sEq c2);refine#[_,rfl,_,rfl,.ref nb,m,ol,n,it,ab,rfl,M,hn,hl,hab,hz,λp ks H1 s1 g1 e1' ka=>#[p,rfl,#[_,L7 e1'],?_]];have lk:=ka.length;refine bJ (xs:=ks) (λj=>.bl (foO ol (ab.getD j (0,0)))) ∅ (L7 e1') (λj x H2 hx s2 R kk=>?_) (λp2 H2 s2 g2=>?_)
  ·exists[n',hn',hx'],ja ka j x hx;exists[it',hl'],hab.mem n' (ZC hn');exists[mvs2,hm2,Rm2],M.same (s1.trans s2);exists[iv,f1,ib,ub,rfl,f2,f3],cC Rm2 hl';exists[xb,rfl,hxb],hx';have k1:=kk H2 (Same.refl _);rw[cL hn',show foO ol n'=it'.fo by unfold foO;rw[hl'];rfl]at k1;exact#[_,rfl,_,rfl,m,.ref ib,rfl,ur hm2 (s2 _ _ hxb) f1,ib,_,_,_,rfl,rfl,L6 f2,at4,k1]
  ·have e:(List.range ks.length).map (λj=>V.bl (foO ol (ab.getD j (0,0))))=(ab.map (foO ol)).map V.bl:=by rw[<-lk,ot ab (0,0) (λn=>V.bl (foO ol n)),Yw];rfl
   rw[e];refine#[p2,_,.bool true,(ab.map (foO ol)).map PyData.bool,rfl,L7 ac,by simp[Dt],tX _,rfl,rj _,?_];have q1:=q _ (s1.trans (s2.trans (ad g2 (.lst ((ab.map (foO ol)).map V.bl)))));rw[cd6,show iJ ol l it n ab .seen=!(((ab.map (foO ol)).map PyData.bool).any λd=>PyData.eqv d (.bool true)) by rw[zL,List.any_map];rfl]at q1;exact q1
 refine#[_,rfl,rfl,_,rfl,bp (λc3=>?_) (λc3=>?_)]
 ·obtain rfl:=w3 (sEq c3);exists[ks,h0,ka,hin,l60],hlf;have lk:=ka.length;refine#[_,rfl,_,rfl,lf,rfl,#[_,L7 h0],?_];have at':∀j n',l[j]?=some n'->∃ib ub it',look ol n'=some it'/\bI mvs (nk n')=some (.ref ib)/\(∃r,H ib=some (.tup (ub::r)))/\UpAt H ub it'.up:=λj n' hn'=>by exists[it',hl'],YG.mp (hin n' (ZC hn'));exists[iv,f1,ib,ub,rfl,f2,f3],cC Rm hl';exact#[ib,ub,it',hl',f1,#[_,f2],f3]
  refine bJ (xs:=ks) (λj=>dm H ((bI mvs (nk (l.getD j (0,0)))).getD .non)) ∅ (L7 h0) (λj x H2 hx s2 R kk=>?_) (λp2 H2 s2 g2=>?_)
  ·exists[n',hn',hx'],ja ka j x hx;obtain⟨ib,ub,it',hl',f1,⟨r,f2⟩,f3⟩:=at' j n' hn';exists[xb,rfl,hxb],hx';have k1:=kk H2 (Same.refl _);rw[cL hn',f1,show dm H (Option.getD (some (V.ref ib)) V.non)=ub from gI f2]at k1;exact#[_,rfl,_,rfl,m,.ref ib,rfl,ur (xx s2 hm) (s2 _ _ hxb) f1,ib,_,_,_,rfl,rfl,L6 (s2 _ _ f2),at0,k1]
  ·have w2':=s2.trans (ad g2 (.lst ((List.range ks.length).map λj=>dm H ((bI mvs (nk (l.getD j (0,0)))).getD .non))));refine#[p2,_,cj (some n),((List.range ks.length).map λj=>upO ol (l.getD j (0,0))).map cj,rfl,L7 ac,(lS (u:=some n) (hn.ts' (L5 w2'))).1,IP _ _ _ (λj hj=>?_),rT _,re _,?_]
   ·have hj':j<l.length:=∅
    obtain⟨ib,ub,it',hl',f1,⟨r,f2⟩,f3⟩:=at' j _ (z9 hj');rw[cL (z9 hj'),f1,show dm H (Option.getD (some (V.ref ib)) V.non)=ub from gI f2,show upO ol l[j]=it'.up by unfold upO;rw[hl'];rfl];exact f3.ts (L5 w2')
   ·have q1:=q _ w2';rw[cd5,show iJ ol l it n ab .leaf = !(((List.range ks.length).map λj=>upO ol (l.getD j (0,0))).map cj).any λd=>PyData.eqv d (cj (some n)) by
     rw[xM,<-lk,ot l (0,0) (upO ol)];show(!(l.any λm=>decide (upO ol m=some n)))=_;congr 1;rw[Z3,Yu,Z6,Zw];exact#[fun⟨x,hx,z⟩=>#[x,hx,ZZ z],fun⟨x,hx,z⟩=>#[x,hx,decide_eq_true z]]]at q1
    exact q1
 refine#[_,rfl,rfl,_,rfl,bp (λc4=>?_) (λc4=>?_)]
 ·exists[t,rfl],w4 (sEq c4);cases hc with
  |says ea =>refine vix rfl (L6 ea) at1 #[_,rfl,_,_,rfl,rfl,?_];exact q H (Same.refl H)
 refine#[_,rfl,rfl,_,rfl,bp (λc5=>?_) (λc5=>?_)]
 ·exists[i,rfl],w5 (sEq c5);cases hc with
  |num ea =>
   have q1:=q H (Same.refl H);rw[cd7]at q1;rw[show iJ ol l it n ab (.due i)=decide (whV it.wh=V.int i)from rfl]at q1;refine#[_,rfl,rfl,_,rfl,?_];generalize it.wh=o at q1 ⊢;cases o with
   |none =>rw[show decide (whV none=V.int i)=false from decide_eq_false nofun]at q1;exact aJ q1
   |some x=>exact aP #[_,rfl,vix rfl (L6 ea) at1 #[rfl,q1]]
 refine#[_,rfl,rfl,_,rfl,bp (λc6=>?_) (λc6=>?_)]
 ·exists[i,rfl],w6 (sEq c6);cases hc with
  |num ea =>refine#[_,rfl,_,rfl,.ref nb,m,ol,n,it,ab,rfl,M,hn,hl,hab,hz,λp ks H1 s1 g1 e1' ka=>?_];refine#[p,ks,rfl,.inl (L7 e1'),vix rfl (L6 (s1 _ _ ea)) at1 #[_,_,rfl,rfl,?_]];have q1:=q H1 s1;rw[cd8]at q1;have lk:=ka.length;rw[show iJ ol l it n ab (.depth i)=decide ((ks.length:Int)<=i) by rw[<-lk];rfl]at q1;exact q1
 have go:∀(b:Bool),iJ ol l it n ab (di c)=b->bI (dJ [] [((.inr "all":Key),V.bl true),(.inr "done",.bl it.dn),(.inr "folded",.bl it.fo),(.inr "free",.bl (decide (whV it.wh=V.non)))]) (.inr c.hd)=some (.bl b)->∀p,H p=none->DGet (upd (upd H p (.dK [])) p (.dK (dJ [] [((.inr "all":Key),V.bl true),(.inr "done",.bl it.dn),(.inr "folded",.bl it.fo),(.inr "free",.bl (decide (whV it.wh=V.non)))]))) p (.str c.hd) (some (.bl b))/\Q (.bl b) (upd (upd H p (.dK [])) p (.dK (dJ [] [((.inr "all":Key),V.bl true),(.inr "done",.bl it.dn),(.inr "folded",.bl it.fo),(.inr "free",.bl (decide (whV it.wh=V.non)))]))):=λb eb ev p gp=>by subst eb;refine#[ev▸DGet.k (k:=.inr c.hd) ac,q _ λx o e=>?_];rw[ag (ar e gp),ag (ar e gp)];exact e
 refine λp gp=>#[_,rfl,_,rfl,_,rfl,rfl,ac,[(.inr "all",.bl true),(.inr "done",.bl it.dn),(.inr "folded",.bl it.fo),(.inr "free",.bl (decide (whV it.wh=V.non)))],rfl,YE rfl,_,rfl,p,?_]
 have fin:∀b,iJ ol l it n ab (di c)=b->bI (dJ [] [((.inr "all":Key),V.bl true),(.inr "done",.bl it.dn),(.inr "folded",.bl it.fo),(.inr "free",.bl (decide (whV it.wh=V.non)))]) (.inr c.hd)=some (.bl b)->∃v,V.ref p=V.ref p/\DGet (upd (upd H p (.dK [])) p (.dK (dJ [] [((.inr "all":Key),V.bl true),(.inr "done",.bl it.dn),(.inr "folded",.bl it.fo),(.inr "free",.bl (decide (whV it.wh=V.non)))]))) p (.str c.hd) (some v)/\Q v (upd (upd H p (.dK [])) p (.dK (dJ [] [((.inr "all":Key),V.bl true),(.inr "done",.bl it.dn),(.inr "folded",.bl it.fo),(.inr "free",.bl (decide (whV it.wh=V.non)))]))):=λb e1 e2=>#[_,rfl,(go b e1 e2 p gp).1,(go b e1 e2 p gp).2]
 rcases w7 (λz=>c1 (by rw[z])) (λz=>c2 (by rw[z])) (λz=>c3 (by rw[z])) (λz=>c4 (by rw[z])) (λz=>c5 (by rw[z])) (λz=>c6 (by rw[z]))with rfl|rfl|rfl|rfl
 ·exact fin _ (by rw[cd1]) (by with_unfolding_all rfl)
 ·exact fin _ (by rw[cd2]) (by with_unfolding_all rfl)
 ·exact fin _ (by rw[cd3]) (by with_unfolding_all rfl)
 ·exact fin _ (by rw[cd4]) (by with_unfolding_all rfl)
structure LaAt(H:Hp)(nv:V)(m lf:LN)(ol:Ol)(n:Nm)(it:It)(l ab:List Nm):Prop where
 mi:MinR H m ol
 nm:NameIs H nv (nk n)
 lk:look ol n=some it
 av:Abv ol it.up ab
 z:ab.length<=60
 lf:LfAt H lf ol l
def LaAt.same{H H':Hp}{nv:V}{m lf:LN}{ol:Ol}{n:Nm}{it:It}{l ab:List Nm}(x:LaAt H nv m lf ol n it l ab)(s:Same H H'):LaAt H' nv m lf ol n it l ab:=#[x.mi.same s,x.nm.same s,x.lk,x.av,x.z,x.lf.same s]
inductive spLFits(k:Nat)(vs:Md)(H:Hp)(Q:VK)(E_:XK):Prop
 |mk (cv nv:V) (m lf:LN) (c:Cq) (d:Nat) (ol:Ol) (n:Nm) (it:It) (l ab:List Nm) (h0:vs=[cv,nv,.ref m,.ref lf]) (hc:CqAt H cv c) (g:GoodC k d c) (h1:LaAt H nv m lf ol n it l ab) (q:∀H':Hp,Same H H'->Q (.bl (fu ol l it n ab c)) H'):spLFits k vs H Q E_
abbrev vF:Stmt:=top 61
abbrev Gm:List Str:=["_law_condition","_law_name","_law_mine","_law_left"]
def FU:FnScope Gm ["_law_condition","_law_name","_law_mine","_law_left"] (aj vF):= ~~~0
def Fa{k n0:Nat}(hk:2<=k)(F:Fun K "_law_fits" "_law_fits" vF f fd)(Kc:↑Fn k "_law_fits" ["_law_condition","_law_name","_law_mine","_law_left"] (spLFits n0))(K6:↑Fn 2 "_law_alone" ["_law_condition","_law_name","_law_mine","_law_left"] spLAlone)(k7:mg "all" = none)(v8:mg "any" = none):↑FnOk CX0 (k+1) f fd ["_law_condition","_law_name","_law_mine","_law_left"] (spLFits (n0+1)):=by
 exists FU
 exists[cv,nv,m,lf,c,d,ol,n,it,l,ab,rfl,hc,g,hL,q],h;exists[ca,xs,rfl,ec],hc.head;exists _,(b_c (aC (aq aD (ao au ↑0 af) ai) (b_1 (am (q_B (xY rfl) k7 ip (q_a (aQ (own:=["_law_part"]) (#[rfl,⋯,⋯,rfl,#[rfl,rfl,#[rfl,rfl,#[rfl,rfl,trivial]]]]:CompOk _ _ [1,2,3] ["_law_name","_law_mine","_law_left"]) rfl (jC (ao au ↑0 af)) (λ_ _ _ _=>aA (i:=0) (show (["_law_part","_law_name","_law_mine","_law_left"]:List Str).Nodup by decide)) (aF ⋯) (λ_ _ _ _=>bA) (λ_ _ _ _=>(aG Kc (hr.mono ∅) (q_a ↑0 (q_a ↑1 (q_a ↑2 (q_a ↑3 ah))))))) ah)))) b_0)
   (b_c (aC (aq aD (ao au ↑0 af) ai) (b_1 (am (q_B (DM rfl) v8 PyProof.Rows.boot_any (q_a (aQ (own:=["_law_part"]) (#[rfl,⋯,⋯,rfl,#[rfl,rfl,#[rfl,rfl,#[rfl,rfl,trivial]]]]:CompOk _ _ [1,2,3] ["_law_name","_law_mine","_law_left"]) rfl (jC (ao au ↑0 af)) (λ_ _ _ _=>aA (i:=0) (show (["_law_part","_law_name","_law_mine","_law_left"]:List Str).Nodup by decide)) (aF ⋯) (λ_ _ _ _=>bA) (λ_ _ _ _=>(aG Kc (hr.mono ∅) (q_a ↑0 (q_a ↑1 (q_a ↑2 (q_a ↑3 ah))))))) ah)))) b_0)
   (b_c (aC (aq aD (ao au ↑0 af) ai) (b_1 (am (iw (aG Kc (hr.mono ∅) (q_a (ao au ↑0 af) (q_a ↑1 (q_a ↑2 (q_a ↑3 ah)))))))) b_0)
   (b_1 (am (aG K6 (hr.mono ∅) (q_a ↑0 (q_a ↑1 (q_a ↑2 (q_a ↑3 ah))))))))))
 cases g with
 | «at» ok =>have hh:=jt ok;refine vix rfl (L6 ec) at0 #[rfl,_,rfl,aS (λz=>hh.2.2.2 (by injection z)) ?_];refine vix rfl (L6 ec) at0 #[rfl,_,rfl,aS (λz=>hh.2.2.1 (by injection z)) ?_];refine vix rfl (L6 ec) at0 #[rfl,_,rfl,aS (λz=>hh.1 (by injection z)) ?_];refine#[_,rfl,_,rfl,_,rfl,_,rfl,.ref ca,nv,m,lf,c,ol,n,it,l,ab,rfl,hc,ok,hL.mi,hL.nm,hL.lk,hL.av,hL.z,hL.lf,λH1 s1=>?_];have q1:=q H1 s1;unfold fu at q1;rw[me ok]at q1;exact q1
 |@no _ _ _ c' g' hd =>
  cases hc with
  |@no _ v _ e1 h1 =>refine vix rfl (L6 e1) at0 #[rfl,_,rfl,jE ⋯ ?_];refine vix rfl (L6 e1) at0 #[rfl,_,rfl,jE ⋯ ?_];refine vix rfl (L6 e1) at0 #[rfl,_,rfl,uK ?_];refine vix rfl (L6 e1) at1 #[_,rfl,_,rfl,_,rfl,v,nv,m,lf,c',_,ol,n,it,l,ab,rfl,h1,g',hL,λH1 s1=>?_];have q1:=q H1 s1;unfold fu at q1;rw[ce]at q1;exact#[_,rfl,q1]
 |@many _ _ o cs h1 h2 g' hd =>
  cases hc with
  |@many _ b _ vs _ e1 e2 hcs =>
   have lv:vs.length=cs.length:=hcs.len;have q0:∀H',Same H H'->Q (.bl (if o then(cs.map λc=>fu ol l it n ab c).any id else(cs.map λc=>fu ol l it n ab c).all id)) H':=λH' s'=>by have q1:=q H' s';unfold fu at q1;rw[ce,gN]at q1;rw[List.any_map,List.all_map];exact q1
   have el:∀(f':Nat->V),(∀j c,cs[j]?=some c->f' j=V.bl (fu ol l it n ab c))->(List.range vs.length).map f'=(cs.map λc=>fu ol l it n ab c).map V.bl:=λf' hf=>by
    rw[lv,Yw];refine Ye (by simp) λi h1 h2=>?_;have hi:i<cs.length:=by simpa using h2
    simp[hf i cs[i] (z9 hi)]
   have each:∀(j:Nat) (x:V) (H1:Hp) (R:VK),vs[j]?=some x->Same H H1->(∀H',Same H1 H'->R (.bl (fu ol l it n ab (cs.getD j (.w "")))) H')->spLFits n0 [x,nv,.ref m,.ref lf] H1 R E0:=λj x H1 R hx s1 kk=>by exists[c',hc',hx'],hcs.get hx;rw[cL hc']at kk;exact#[x,nv,m,lf,c',_,ol,n,it,l,ab,rfl,hx'.ts λa zs e=>s1 _ _ e,g' c' (ZC hc'),hL.same s1,kk]
   cases o with
   |false =>
    refine vix rfl (L6 e1) at0 #[rfl,_,rfl,uK ?_];refine vix rfl (L6 e1) at1 #[b,rfl,#[_,L6 e2],?_];refine nJ (xs:=vs) (λj=>.bl (fu ol l it n ab (cs.getD j (.w "")))) ∅ (L6 e2) (λj x H1 hx s1 R kk=>?_) (λp2 H2 s2 g2=>?_)
    ·exact#[_,rfl,_,rfl,_,rfl,_,rfl,each j x H1 R hx s1 kk]
    ·rw[el _ λj c hj=>by rw[cL hj]];exact#[p2,_,rfl,L7 ac,q0 _ (s2.trans (ad g2 _))]
   |true =>
    refine vix rfl (L6 e1) at0 #[rfl,_,rfl,jE ⋯ ?_];refine vix rfl (L6 e1) at0 #[rfl,_,rfl,uK ?_];refine vix rfl (L6 e1) at1 #[b,rfl,#[_,L6 e2],?_];refine nJ (xs:=vs) (λj=>.bl (fu ol l it n ab (cs.getD j (.w "")))) ∅ (L6 e2) (λj x H1 hx s1 R kk=>?_) (λp2 H2 s2 g2=>?_)
    ·exact#[_,rfl,_,rfl,_,rfl,_,rfl,each j x H1 R hx s1 kk]
    ·rw[el _ λj c hj=>by rw[cL hj]];exact#[p2,_,rfl,L7 ac,q0 _ (s2.trans (ad g2 _))]
def fD{β:Type}(l:As β)(n m:Nm)(i:β):look (bu l n i) m=if m=n then some i else look l m:=by
 have app:∀l:As β,(look l n).isSome=false->look (l++[(n,i)]) m=if m=n then some i else look l m:=by
  intro l;induction l with
  |nil =>
   intro _;show(if n=m then some i else none)=if m=n then some i else none
   by_cases c:m=n
   ·rw[LI c,LI c.symm]
   ·rw[LH c,LH λz=>c z.symm]
  |cons p l ih =>
   intro h;have h':(if p.1=n then some p.2 else look l n).isSome=false:=h;by_cases cn:p.1=n
   ·rw[LI cn]at h';cases h'
   ·rw[LH cn]at h';show(if p.1=m then some p.2 else look (l++[(n,i)]) m)=if m=n then some i else(if p.1=m then some p.2 else look l m)
    by_cases cm:p.1=m
    ·rw[LI cm,LI cm,LH λz=>cn (cm.trans z)]
    ·rw[LH cm,LH cm];exact ih h'
 have mp:∀l:As β,(look l n).isSome=true->look (l.map λp=>if p.1=n then(p.1,i)else p) m=if m=n then some i else look l m:=by
  intro l;induction l with
  |nil=>intro h;cases h
  |cons p l ih =>
   intro h;have h':(if p.1=n then some p.2 else look l n).isSome=true:=h;show(if(if p.1=n then(p.1,i)else p).1=m then some (if p.1=n then(p.1,i)else p).2 else look (l.map λp=>if p.1=n then(p.1,i)else p) m)=if m=n then some i else(if p.1=m then some p.2 else look l m)
   by_cases cn:p.1=n
   ·rw[LI cn];by_cases cm:p.1=m
    ·rw[LI cm,LI (cm.symm.trans cn)]
    ·rw[LH cm,LH cm,LH λz=>cm (cn.trans z.symm)];have no:∀l:As β,look (l.map λp=>if p.1=n then(p.1,i)else p) m=look l m:=by
      intro l;induction l with
      |nil=>rfl
      |cons q l ih2 =>
       show(if(if q.1=n then(q.1,i)else q).1=m then some (if q.1=n then(q.1,i)else q).2 else look (l.map λp=>if p.1=n then(p.1,i)else p) m)=if q.1=m then some q.2 else look l m
       by_cases c2:q.1=n
       ·rw[LI c2,LH λz=>cm (cn.trans (c2.symm.trans z)),LH λz=>cm (cn.trans (c2.symm.trans z))];exact ih2
       ·rw[LH c2,ih2]
     exact no l
   ·rw[LH cn]at h' ⊢;by_cases cm:p.1=m
    ·rw[LI cm,LI cm,LH λz=>cn (cm.trans z)]
    ·rw[LH cm,LH cm];exact ih h'
 unfold bu;cases h:(look l n).isSome with
 |true=>rw[LI rfl];exact mp l h
 |false=>rw[LH Zv];exact app l h
def GZ{ol:Ol}(x:fX H kvs ks)(r:Rws Rr kvs ol):KsAt H ol ks:=by
 induction r generalizing ks with
 |nil=>cases x;exact .nil
 |cons a _ ih =>
  cases x with
  |cons b t =>rw[a.1]at b;exact .cons (NameIs.of b) (ih t)
def UpC.mono{ol:Ol}(h:look ol n=Option.none){k:Nat}(c:UpC ol k u):UpC (bu ol n it) k u:=by
 induction c with
 |none=>exact .none
 |@up k m im hl _ ih =>refine .up (it:=im) ?_ ih;rw[fD,LH λz=>by rw[z,h]at hl;cases hl];exact hl
def GoodO.put{ol:Ol}(g:GoodO ol){it:It}(h:look ol n=none)(hu:∀m,it.up=some m->(look ol m).isSome=true)(hp:1<=it.pl.length/\it.pl.length<=64):GoodO (bu ol n it):=by
 have e:bu ol n it=ol++[(n,it)]:=by unfold bu;rw[h,LH (by simp)]
 refine#[λm im hm=>?_,?_,λx hx=>?_]
 ·rw[fD]at hm;by_cases c:m=n
  ·rw[LI c]at hm;cases hm;have:∃k,UpC ol k it.up:=by
    cases hu':it.up with
    |none=>exact#[0,.none]
    |some j =>
     have:=hu j hu';cases hj:look ol j with
     |none=>rw[hj]at this;cases this
     |some ij=>exact g.ups j ij hj
   exists[k,uc],this;exact#[k+1,.up (it:=it) (by rw[fD,LI c]) (uc.mono h)]
  ·rw[LH c]at hm;exists[k,uc],g.ups m im hm;exact#[k,uc.mono h]
 ·rw[e,ZU,List.nodup_append];refine#[g.nd,List.pairwise_singleton ..,λa ha b hb z=>?_];exists[x,hx,rfl],Zw.mp ha;exists[j,hj],ZR.mp hx;have hl:=cG g.nd hj;have hb:b=n:=Zj.mp hb;rw[z,hb,h]at hl;cases hl
 ·rw[e]at hx;rcases ZE.mp hx with hx|hx
  ·exact g.pl x hx
  ·rw[Zj.mp hx];exact hp
def But2.of(s:Same H H'):But2 d g H H':=λb o e _ _=>s b o e
def But2.trans(x:But2 d g H H')(y:But2 d g H' H2):But2 d g H H2:=λb o e n1 n2=>y b o (x b o e n1 n2) n1 n2
def But2.ts{ol:Ol}(x:But2 d g H H')(O:OlAt C H p d g ol):TS H H':=λa zs e=>by obtain⟨kvs,gvs,⟨_,h2,h3,_⟩,_⟩:=O;exact x a _ e (λz=>by rw[z,h2]at e;cases e) (λz=>by rw[z,h3]at e;cases e)
def MineAt.but2{ol ol':Ol}(M:MineAt H m ol)(x:But2 d g H H')(O:OlAt C H p d g ol')(n1:m≠d)(n2:m≠g):MineAt H' m ol:=by exists[mvs,h0,h1],M;exact#[mvs,x _ _ h0 n1 n2,Paired.mapP h1 λ_ _ z=>#[z.1,z.2.ts (x.ts O)]]
def GoneAt.but2{gs:As Unit}(M:GoneAt H m gs)(x:But2 d g H H')(n1:m≠d)(n2:m≠g):GoneAt H' m gs:=by exists[mvs,h0,h1],M;exact#[mvs,x _ _ h0 n1 n2,h1]
structure ItOk(i:Nat)(x:Nm×It):Prop where
 h:0<=x.1.1/\x.1.1<8
 n:x.1.2=1+(i:Int)\/x.1.2=201-(i:Int)
 s:PyData.strOk x.2.tx=true
 t:x.2.tx.length<=63
 w:∀w,x.2.wh=some w->0<=w/\w<8
structure Pd(C:LN)(H:Hp)(p d g m lo:LN)(ol:Ol)(gs:As Unit):Prop where
 o:OlAt C H p d g ol
 go:GoneAt H g gs
 mi:MineAt H m ol
 los:GoneAt H lo gs
 ne:m≠d/\m≠g/\lo≠d/\lo≠g/\m≠lo
 gd:GoodO ol
 it:∀i x,ol[i]?=some x->ItOk i x
 lg:gs.length<=ol.length
inductive spPlant(C:LN)(vs:Md)(H:Hp)(Q:VK)(E_:XK):Prop
 |mk (p d g ca:LN) (cs:LX) (h0:vs=[.ref p,.ref ca]) (h1:OlAt C H p d g []) (h2:GoneAt H g []) (h3:H ca=some (.lst (cs.map V.int))) (h4:cs.length<=16) (q:∀(t m lo:LN) (ol:Ol) (gs:As Unit) (H':Hp),But2 d g H H'->H' t=some (.tup [.ref m,.ref lo])->Pd C H' p d g m lo ol gs->ol.length<=16->H m=none->H lo=none->Q (.ref t) H'):spPlant C vs H Q E_
def say{C p d g st:LN}{ol:Ol}{gs:As Unit}{Q:VK}(O:OlAt C H p d g ol)(G:GoneAt H g gs)(l:ol.length<=60)(lg:gs.length<=60)(hs:StAt H st s)(hm:s.may ol)(q:∀H',But2 d g H H'->OlAt C H' p d g (s.ol ol)->GoneAt H' g (s.gs gs)->Q .non H'):spStep C [.ref p,.ref st] H Q E:=#[p,d,g,st,ol,gs,s,rfl,O,G,l,lg,hs,hm,q]
def OlAt.obj{ol:Ol}(O:OlAt C H p d g ol):∃dx,H p=some (.ins C dx (pfl d g)):=by exists[kvs,gvs,S,_],O;exact S.1
def FY{ol:Ol}(h:look ol n=none):bu (bu ol n a) n b=bu ol n b:=by
 have no:∀x∈ol,x.1≠n:=λx hx z=>by
  have:∀l:Ol,x∈l->(look l n).isSome=true:=by
   intro l;induction l with
   |nil=>exact λz=>nomatch z
   |cons p l ih =>
    intro hp;show(if p.1=n then some p.2 else look l n).isSome=true;by_cases c:p.1=n
    ·rw[LI c];rfl
    ·rw[LH c];rcases Zf.mp hp with e|hp
     ·exact absurd (e▸z) c
     ·exact ih hp
  rw[this ol hx |> YG.mp |>.choose_spec]at h;cases h
 rw[ik h,ik (it:=b) h];have l1:(look (ol++[(n,a)]) n).isSome=true:=by rw[<-ik h,fD,LI rfl];rfl
 unfold bu;rw[LI l1,ZU];congr 1
 ·exact(List.map_congr_left λx hx=>by rw[LH (no x hx)];rfl).trans (List.map_id _)
 ·show[if n=n then(n,b)else(n,a)]=_;rw[LI rfl]
def Cs{ol:Ol}{n:Nm}(h:∀i x,ol[i]?=some x->ItOk i x)(l:ol.length<=15)(hn:n.2=1+(ol.length:Int)\/n.2=201-(ol.length:Int)):look ol n=none:=by refine xi λz=>?_;exists[x,hx,rfl],Zw.mp z;exists[i,hi],ZR.mp hx;have li:=(Zm.mp hi).1;have:=(h i x hi).n;omega
def Ba(n:Int):∃t:Str,atI [V.str "",.str "a",.str "b",.str "ab",.str "b a",.str "a b c",.str "B",.str "ab ab",.str "or",.str "not a",.str "( a )",.str "a(b"] (n%12)=some (.str t)/\PyData.strOk t=true/\t.length<=63:=by
 have:n%12=0\/n%12=1\/n%12=2\/n%12=3\/n%12=4\/n%12=5\/n%12=6\/n%12=7\/n%12=8\/n%12=9\/n%12=10\/n%12=11:=∅
 rcases this with e|e|e|e|e|e|e|e|e|e|e|e<;>rw[e]<;>exact#[_,rfl,⋯,⋯]
def vK{ol:Ol}(h:look ol n=none):(Sd.set n c).ol (bu ol n it)=bu ol n (c.on it):=by show bu (bu ol n it) n (c.on ((look (bu ol n it) n).getD _))=_;rw[fD,LI rfl];exact FY h
def mE{ol:Ol}:(look (bu ol n it) n).isSome=true:=by rw[fD,LI rfl];rfl
def gK{ol:Ol}(h:look ol n=none):(bu ol n it).length=ol.length+1:=by rw[ik h,Zi];rfl
def OlAt.upd{ol:Ol}(O:OlAt C H p d g ol)(ha:H a=some (.dT kvs))(n1:a≠d)(n2:a≠g):OlAt C (L2.upd H a (.dT kvs')) p d g ol:=by obtain⟨k,gv,⟨⟨dx,h1⟩,h2,h3,h4⟩,R⟩:=O;refine#[k,gv,#[#[dx,?_],by rw[ag n1.symm];exact h2,by rw[ag n2.symm];exact h3,h4],R.ts (jm ha)];rw[ag λz=>by rw[z,ha]at h1;cases h1];exact h1
def GoneAt.upd{gs:As Unit}(G:GoneAt H g gs)(n:a≠g):GoneAt (L2.upd H a o) g gs:=by exists[gv,h0,h1],G;exact#[gv,by rw[ag n.symm];exact h0,h1]
def MineAt.upd{ol:Ol}(M:MineAt H m ol)(ha:H a=some (.dT kvs))(n:a≠m):MineAt (L2.upd H a (.dT kvs')) m ol:=by exists[mv,h0,h1],M;exact#[mv,by rw[ag n.symm];exact h0,Paired.mapP h1 λ_ _ z=>#[z.1,z.2.ts (jm ha)]]
def But2.upd(x:But2 d g H H')(h:H a=none):But2 d g H (L2.upd H' a o):=λb o' e n1 n2=>by rw[ag (ar e h)];exact x b o' e n1 n2
def Cm{gs:As Unit}:(bu gs n ()).length<=gs.length+1:=by
 unfold bu;split
 ·rw[Zd];omega
 ·rw[Zi];exact Ze _
abbrev lH:Stmt:=top 58
abbrev zH:List Str:=["_law_plain","_law_cells","_law_mine","_law_lost","_law_k","_law_cell","_law_number","_law_names","_law_name","_law_up","_law_text","_law_whom"]
def bF:FnScope zH ["_law_plain","_law_cells"] (aj lH):= ~~~0
def yI(F:Fun K "_law_planted" "_law_planted" lH f fd)(Kd:↑MFn 3 C "step" ["self","step"] (spStep C))(Km:mg "enumerate" = none)(l8:mg "list" = none)(a8:mg "len" = none)(KJ:mg "max" = none)(i6:mg "int" = none):↑FnOk CX0 4 f fd ["_law_plain","_law_cells"] (spPlant C):=by
 exists bF
 exists[p,d,g,ca,cs,rfl,O0,G0,hS,hz,q],h;exists _,(b_c (ax (i:=2) bF.nd sW)
   (b_c (ax (i:=3) bF.nd sW)
   (b_c (jS Yp rfl (GQ Km (q_a ↑1 ah)) (iu rfl (cF (aA (i:=4) bF.nd) (cF (aA (i:=5) bF.nd) iG))) (b_c (ax (i:=6) bF.nd (aw aX (aw D9 (aw aX ↑5 af) af) af))
   (b_c (ax (i:=7) bF.nd (eZ (EC rfl) l8 kC (q_a ↑2 ah)))
   (b_c (ax (i:=8) bF.nd (aW (q_a (aw aX ↑6 af) (q_a (aw eX af (ao aY (bv (q_a ↑4 (q_a (aw gF af ↑4) ah))) (aw aX (aw bL ↑6 af) af))) ah))))
   (b_c (ax (i:=9) bF.nd cM)
   (b_c (aC (t_w (cA (aq (qF (K:=K) rfl hr.units) ↑7 (bv ah)) (bY (aq jK (aw aX ↑5 af) af)))) (b_1 (ax (i:=9) bF.nd (ao aY ↑7 (q_B (Ja rfl) KJ tY (q_a af (q_a (aw gF (aw gF (q_B bM a8 ZH (q_a ↑7 ah)) af) (aw aX (aw bL ↑6 af) af)) ah)))))) b_0)
   (b_c (ax (i:=10) bF.nd (ao aY (bv (q_a ai (q_a ai (q_a ai (q_a ai (q_a ai (q_a ai (q_a ai (q_a ai (q_a ai (q_a ai (q_a ai (q_a ai ah))))))))))))) (aw aX (aw bL ↑5 af) af)))
   (b_c (ax (i:=11) bF.nd (ao aY (bv (q_a cM (q_a (aw aX (aw bL ↑6 af) af) ah))) (eZ sP i6 eO (q_a (aM jK (aw aX (aw bL ↑6 af) af) af) ah))))
   (b_c (bC (br Kd ↑99 ↑0 (q_a (aW (q_a ai (q_a ↑8 (q_a ↑9 (q_a (aW (q_a (aw gF (aw aX (aw bL ↑6 af) af) af) ah)) (q_a ↑10 ah)))))) ah)))
   (b_c (bC (br Kd ↑99 ↑0 (q_a (aW (q_a ai (q_a ↑8 (q_a (aM aD (aw aX (aw bL ↑6 af) af) af) ah)))) ah)))
   (b_c (bC (br Kd ↑99 ↑0 (q_a (aW (q_a ai (q_a ↑8 (q_a ↑11 ah)))) ah)))
   (b_c (bC (br Kd ↑99 ↑0 (q_a (aW (q_a ai (q_a ↑8 (q_a (aM aD (aw aX (aw bL ↑6 af) af) af) ah)))) ah)))
   (b_c (aC (aq aD (aw aX (aw bL ↑6 af) af) af) (b_c (bC (br Kd ↑99 ↑0 (q_a (aW (q_a ai (q_a ↑8 ah))) ah)))
   (b_1 (lD hr.units ↑3 ↑8 fK))) b_0)
   (b_1 (lD hr.units ↑2 ↑8 (aW (q_a ↑9 (q_a ↑10 (q_a (aM aD (aw aX (aw bL ↑6 af) af) af) (q_a ↑11 (q_a (aM aD (aw aX (aw bL ↑6 af) af) af) ah)))))))))))))))))))))
   (b_1 (am (aW (q_a ↑2 (q_a ↑3 ah))))))))
 refine aT λR0 hR0=>?_;refine λm gm=>hR0 _ _ ?_;refine aT λR0 hR0=>?_;refine λlo gl=>hR0 _ _ ?_;have w1:=ad gm (.dT []);have w2:=ad gl (.dT []);have em:upd (upd H m (.dT [])) lo (.dT []) m=some (.dT []):=w2 _ _ ac;have el:upd (upd H m (.dT [])) lo (.dT []) lo=some (.dT []):=ac;have w3:=w1.trans w2;have P0:Pd C (upd (upd H m (.dT [])) lo (.dT [])) p d g m lo [] []:=by
  obtain⟨kvs,gvs,⟨h1,h2,h3,h4⟩,_⟩:=id O0;refine#[O0.same w3,G0.same w3,#[[],em,.nil],#[[],el,.nil],#[?_,?_,?_,?_,?_],#[(λn it z=>(nomatch z)),List.Pairwise.nil,(λx hx=>(nomatch hx))],λi x z=>(by simp at z),Ze _]
  ·exact λz=>by rw[z,h2]at gm;cases gm
  ·exact λz=>by rw[z,h3]at gm;cases gm
  ·exact λz=>by rw[z,w1 _ _ h2]at gl;cases gl
  ·exact λz=>by rw[z,w1 _ _ h3]at gl;cases gl
  ·exact λz=>by rw[<-z,ac]at gl;cases gl
 have b0:But2 d g H (upd (upd H m (.dT [])) lo (.dT [])):=.of w3;have ncd:ca≠d/\ca≠g:=by obtain⟨kvs,gvs,⟨h1,h2,h3,h4⟩,_⟩:=id O0;exact#[(λz=>by rw[z,h2]at hS;cases hS),(λz=>by rw[z,h3]at hS;cases hS)]
 generalize upd (upd H m (.dT [])) lo (.dT [])=H1 at P0 b0 ⊢;have lo0:H lo=none:=w1.free gl;refine aT λR0 hR0=>?_;refine#[_,rfl,ca,_,rfl,b0 _ _ hS ncd.1 ncd.2,?_];refine Af (K:=K) (xs:=cs.map V.int) (λk σ H'=>But2 d g H H'/\∃(ol:Ol) (gs:As Unit) (o4 o5 o6 o7 o8 o9 o10 o11:Option V),Pd C H' p d g m lo ol gs/\ol.length=k/\σ=[some (.ref p),some (.ref ca),some (.ref m),some (.ref lo),o4,o5,o6,o7,o8,o9,o10,o11]) #[b0,[],[],none,none,none,none,none,none,none,none,P0,rfl,rfl] (λi σ H' _ z=>L7 (z.1 _ _ hS ncd.1 ncd.2)) ?_ ?_
 ·rintro k x σ H' hx ⟨bt,ol,gs,o4,o5,o6,o7,o8,o9,o10,o11,Pk,rfl,rfl⟩ DL hDL T hT;rw[Zq]at hx;exists[c,hc,rfl],ZL.mp hx;have hk:ol.length<cs.length:=(Zm.mp hc).1;have wT:=ad hT (.tup [.int (ol.length:Int),.int c]);generalize upd H' T (.tup [.int (ol.length:Int),.int c])=Ha at wT ⊢;refine aT λR1 hR1=>?_;refine#[_,rfl,_,_,rfl,rfl,(by show(0:Int)<1000003;decide),_,_,rfl,rfl,.inr #[⋯,⋯],_,_,rfl,rfl,(by show(0:Int)<2147483647;decide),hR1 _ _ ?_];generalize c%1000003*48271%2147483647=nu;refine aT λR1 hR1=>?_;exists[mvs,hmm,Rm],id Pk.mi;refine#[_,rfl,m,mvs,rfl,.inl (wT _ _ hmm),λl ks gl ka=>hR1 _ _ ?_];have wl:=ad gl (.lst ks);have el:upd Ha l (.lst ks) l=some (.lst ks):=ac;have ka1:=(GZ ka Rm).ts (L5 wl);have sb:=wT.trans wl;generalize upd Ha l (.lst ks)=Hb at el ka1 sb ⊢;have m0:=YD (nu / 8) (show(2:Int)≠0 by decide);have m1:=Yq (nu / 8) (show(0:Int)<2 by decide);obtain⟨nv,hnv,hnv2⟩:∃nv,atI [V.int (ol.length:Int),V.int (200-(ol.length:Int))] (nu / 8%2)=some (.int nv)/\(nv=(ol.length:Int)\/nv=200-(ol.length:Int)):=by
   have:nu / 8%2=0\/nu / 8%2=1:=∅
   rcases this with e|e
   ·rw[e];exact#[_,rfl,.inl rfl]
   ·rw[e];exact#[_,rfl,.inr rfl]
  refine aT λR1 hR1=>?_;refine#[_,rfl,_,_,rfl,rfl,(by show(0:Int)<8;decide),_,rfl,_,rfl,_,_,rfl,rfl,sz rfl,λp1 g1=>?_];refine#[_,rfl,_,_,rfl,rfl,#[⋯,⋯],_,_,rfl,rfl,(by show(0:Int)<2;decide),p1,_,_,_,rfl,rfl,L7 ac,hnv,_,_,rfl,rfl,sz rfl,λp2 g2=>hR1 _ _ ?_];have v2:=(ad g1 (.lst [.int (ol.length:Int),.int (200-(ol.length:Int))])).trans (ad g2 (.tup [.int (nu%8),.int (1+nv)]));have en:NameIs (upd (upd Hb p1 (.lst [.int (ol.length:Int),.int (200-(ol.length:Int))])) p2 (.tup [.int (nu%8),.int (1+nv)])) (.ref p2) (nk (nu%8,1+nv)):=#[p2,rfl,ac]
  have el2:=v2 _ _ el;have ka2:=ka1.ts (L5 v2);have sc:=sb.trans v2;generalize upd (upd Hb p1 (.lst [.int (ol.length:Int),.int (200-(ol.length:Int))])) p2 (.tup [.int (nu%8),.int (1+nv)])=Hc at en el2 ka2 sc ⊢;have h8:0<=nu%8/\nu%8<8:=#[YD _ ⋯,Yq _ ⋯]
  have hn1:(1:Int)+nv=1+(ol.length:Int)\/(1:Int)+nv=201-(ol.length:Int):=hnv2.imp (λz=>∅) λz=>∅
  have lk0:look ol (nu%8,1+nv)=none:=Cs Pk.it ∅ hn1;generalize hnn:((nu%8,1+nv):Nm)=n at en lk0;refine aT λR1 hR1=>?_;refine hR1 _ _ ?_;refine fP (λσ' H2=>∃uv u,Same H' H2/\UpAt H2 uv u/\NameIs H2 (.ref p2) (nk n)/\(∀x,u=some x->(look ol x).isSome=true)/\σ'=[some (.ref p),some (.ref ca),some (.ref m),some (.ref lo),some (.int (ol.length:Int)),some (.int c),some (.int nu),some (.ref l),some (.ref p2),some uv,o10,o11]) (λR1 hR1 _=>?_) ?_
  ·refine iV (λb Hx=>Same Hc Hx/\(b=true->ks≠[])) ?_ ?_ ?_
   ·intro Kk hK;refine#[_,rfl,sz rfl,λe0 ge=>?_];have we:=ad ge (.lst []);refine#[l,e0,ks,rfl,rfl,L7 (we _ _ el2),L7 ac,_,rfl,?_];cases ks with
    |nil=>exact aJ (hK _ _ #[we,λz=>nomatch z])
    |cons k0 ks0=>exact aP #[_,rfl,_,_,rfl,rfl,(by show(0:Int)<4;decide),_,_,rfl,rfl,_,rfl,hK _ _ #[we,λ_ z=>nomatch z]]
   ·rintro Hx ⟨sx,nk0⟩;have hne:=nk0 rfl;have hpos:0<ks.length:=YZ.mpr hne;have x0:=YD (nu / 16) (show(3:Int)≠0 by decide);obtain⟨ix,hix,hlt⟩:∃ix:Nat,(if(ks.length:Int)-1-nu / 16%3>0 then(ks.length:Int)-1-nu / 16%3 else 0)=(ix:Int)/\ix<ks.length:=#[(if(ks.length:Int)-1-nu / 16%3>0 then(ks.length:Int)-1-nu / 16%3 else 0).toNat,by split<;>omega,by split<;>omega]
    exists[y,hy,hyn],kP ka2 ix _ (z9 hlt);have hat:atI ks (if(ks.length:Int)-1-nu / 16%3>0 then(ks.length:Int)-1-nu / 16%3 else 0)=some ks[ix]:=by rw[hix];exact cU (z9 hlt)
    refine#[_,rfl,_,rfl,l,ks,rfl,.inl (L7 (sx _ _ el2)),_,_,rfl,rfl,_,rfl,_,_,rfl,rfl,#[⋯,⋯],_,_,rfl,rfl,(by show(0:Int)<3;decide),_,_,rfl,rfl,_,_,rfl,l,_,_,_,rfl,rfl,L7 (sx _ _ el2),hat,?_];refine hR1 _ _ #[ks[ix],some y.1,sc.trans sx,hyn.same sx,en.same sx,(λx z=>?_),rfl];cases z;rw[cG Pk.gd.nd hy];rfl
   ·rintro Hx ⟨sx,_⟩;exact hR1 _ _ #[.non,none,sc.trans sx,rfl,en.same sx,(λx z=>(nomatch z)),rfl]
  rintro σ' H2 ⟨uv,u,s2,hu,hn2,hin,rfl⟩;exists[tx,ht,tok,tlen],Ba (c / 4);refine aT λR1 hR1=>?_;refine#[sz rfl,λp3 g3=>?_];refine#[_,rfl,_,_,rfl,rfl,#[⋯,⋯],_,_,rfl,rfl,(by show(0:Int)<12;decide),p3,_,_,_,rfl,rfl,L7 ac,ht,hR1 _ _ ?_];have v3:=ad g3 (.lst [V.str "",.str "a",.str "b",.str "ab",.str "b a",.str "a b c",.str "B",.str "ab ab",.str "or",.str "not a",.str "( a )",.str "a(b"]);generalize upd H2 p3 (.lst [V.str "",.str "a",.str "b",.str "ab",.str "b a",.str "a b c",.str "B",.str "ab ab",.str "or",.str "not a",.str "( a )",.str "a(b"])=H3 at v3 ⊢;obtain⟨wo,hwo,hwo2⟩:∃wo:Option Int,atI [V.non,V.int (nu / 64%8)] (if decide (0<nu / 16%3)=true then 1 else 0)=some (whV wo)/\∀i,wo=some i->0<=i/\i<8:=by
   split
   ·exact#[some _,rfl,λi z=>by cases z;exact#[YD _ ⋯,Yq _ ⋯]]
   ·exact#[none,rfl,λi z=>(nomatch z)]
  refine aT λR1 hR1=>?_;refine#[_,rfl,_,_,rfl,rfl,#[⋯,⋯],_,_,rfl,rfl,(by show(0:Int)<8;decide),sz rfl,λp4 g4=>?_];refine#[_,rfl,_,_,rfl,rfl,#[⋯,⋯],_,_,rfl,rfl,(by show(0:Int)<3;decide),_,_,rfl,rfl,.inr #[_,rfl,p4,_,_,_,rfl,rfl,L7 ac,hwo,hR1 _ _ ?_]];have v4:=v3.trans (ad g4 (.lst [.non,.int (nu / 64%8)]));have s4:=s2.trans v4;have hu4:=hu.ts (L5 v4);have hn4:=hn2.same v4;have O4:=Pk.o.same s4;have G4:=Pk.go.same s4;generalize upd H3 p4 (.lst [.non,.int (nu / 64%8)])=H4 at s4 hu4 hn4 O4 G4 ⊢;have lg:=Pk.lg;refine aT λR1 hR1=>?_;exists[dx,h1],O4.obj;refine#[_,rfl,p,dx,_,rfl,h1,fE _ _,_,rfl,_,rfl,_,rfl,_,_,rfl,rfl,#[⋯,⋯],_,_,rfl,rfl,(by show(0:Int)<3;decide),_,_,rfl,rfl,sz rfl,λt5 g5=>?_];refine#[_,rfl,sz rfl,λt6 g6=>?_];have v5:=(ad g5 (.tup [.int (nu / 48%3-1)])).trans (ad g6 (.tup [.str "put",.ref p2,uv,.ref t5,.str tx]));have pl5:PlAt (upd (upd H4 t5 (.tup [.int (nu / 48%3-1)])) t6 (.tup [.str "put",.ref p2,uv,.ref t5,.str tx])) (.ref t5) [nu / 48%3-1]:=#[t5,rfl,ad g6 _ _ _ ac]
  have st5:StAt (upd (upd H4 t5 (.tup [.int (nu / 48%3-1)])) t6 (.tup [.str "put",.ref p2,uv,.ref t5,.str tx])) t6 (.put n u [nu / 48%3-1] tx):=#[_,_,_,ac,hn4.same v5,hu4.ts (L5 v5),pl5]
  refine say (O4.same v5) (G4.same v5) ∅ ∅ st5 #[lk0,hin] λH5 b5 O5 G5=>hR1 _ _ ?_;have ts5:=b5.ts (O4.same v5);have hn5:=(hn4.same v5).ts' ts5;have hu5:=(hu4.ts (L5 v5)).ts ts5;have bk:=(But2.of (d:=d) (g:=g) s4).trans ((But2.of v5).trans b5);have O5:OlAt C H5 p d g (bu ol n #[u,[nu / 48%3-1],tx,false,none,false]):=O5;have G5:GoneAt H5 g gs:=G5;refine aT λR1 hR1=>?_;exists[dx,h1],O5.obj;refine#[_,rfl,p,dx,_,rfl,h1,fE _ _,_,rfl,_,rfl,_,_,rfl,rfl,#[⋯,⋯],_,_,rfl,rfl,(by show(0:Int)<2;decide),rfl,sz rfl,λt6 g6=>?_];have v6:=ad g6 (.tup [.str "mark",.ref p2,.bl (decide (V.int (nu / 144%2)=V.int 1))]);refine say (s:=.set n (.mark (decide (V.int (nu / 144%2)=V.int 1)))) (O5.same v6) (G5.same v6) (by rw[gK lk0];omega) ∅ #[_,ac,hn5.same v6] mE λH6 b6 O6 G6=>hR1 _ _ ?_;have ts6:=b6.ts (O5.same v6);have hn6:=(hn5.same v6).ts' ts6;have hu6:=(hu5.ts (L5 v6)).ts ts6;have bk6:=bk.trans ((But2.of v6).trans b6);rw[vK lk0]at O6;have G6:GoneAt H6 g gs:=G6;refine aT λR1 hR1=>?_;exists[dx,h1],O6.obj;refine#[_,rfl,p,dx,_,rfl,h1,fE _ _,_,rfl,_,rfl,sz rfl,λt6 g6=>?_];have v6:=ad g6 (.tup [.str "due",.ref p2,whV wo]);refine say (s:=.set n (.due wo)) (O6.same v6) (G6.same v6) (by rw[gK lk0];omega) ∅ #[_,ac,hn6.same v6] mE λH7 b6 O7 G7=>hR1 _ _ ?_;have ts6:=b6.ts (O6.same v6);have hn7:=(hn6.same v6).ts' ts6;have hu7:=(hu6.ts (L5 v6)).ts ts6;have bk7:=bk6.trans ((But2.of v6).trans b6);rw[vK lk0]at O7;have G7:GoneAt H7 g gs:=G7;refine aT λR1 hR1=>?_;exists[dx,h1],O7.obj;refine#[_,rfl,p,dx,_,rfl,h1,fE _ _,_,rfl,_,rfl,_,_,rfl,rfl,#[⋯,⋯],_,_,rfl,rfl,(by show(0:Int)<3;decide),rfl,sz rfl,λt6 g6=>?_];have v6:=ad g6 (.tup [.str "fold",.ref p2,.bl (decide (V.int (nu / 288%3)=V.int 1))]);refine say (s:=.set n (.fold (decide (V.int (nu / 288%3)=V.int 1)))) (O7.same v6) (G7.same v6) (by rw[gK lk0];omega) ∅ #[_,ac,hn7.same v6] mE λH8 b6 O8 G8=>hR1 _ _ ?_;have ts6:=b6.ts (O7.same v6);have hn8:=(hn7.same v6).ts' ts6;have hu8:=(hu7.ts (L5 v6)).ts ts6;have bk8:=bk7.trans ((But2.of v6).trans b6);rw[vK lk0]at O8;have G8:GoneAt H8 g gs:=G8;have O8:OlAt C H8 p d g (bu ol n #[u,[nu / 48%3-1],tx,decide (V.int (nu / 144%2)=V.int 1),wo,decide (V.int (nu / 288%3)=V.int 1)]):=O8;have M8:=Pk.mi.but2 bk8 Pk.o Pk.ne.1 Pk.ne.2.1;have L8:=Pk.los.but2 bk8 Pk.ne.2.2.1 Pk.ne.2.2.2.1;have bt8:=bt.trans bk8;generalize hit:(#[u,[nu / 48%3-1],tx,decide (V.int (nu / 144%2)=V.int 1),wo,decide (V.int (nu / 288%3)=V.int 1)]:It)=it at O8;refine fP (λσ' H9=>∃gs',But2 d g H H9/\OlAt C H9 p d g (bu ol n it)/\GoneAt H9 g gs'/\MineAt H9 m ol/\GoneAt H9 lo gs'/\NameIs H9 (.ref p2) (nk n)/\UpAt H9 uv u/\gs'.length<=ol.length+1/\σ'=[some (.ref p),some (.ref ca),some (.ref m),some (.ref lo),some (.int (ol.length:Int)),some (.int c),some (.int nu),some (.ref l),some (.ref p2),some uv,some (.str tx),some (whV wo)]) (λR1 hR1 _=>?_) ?_
  ·refine iV (λb Hx=>Hx=H8) ?_ ?_ ?_
   ·intro Kk hK;exact#[_,rfl,_,_,rfl,rfl,#[⋯,⋯],_,_,rfl,rfl,(by show(0:Int)<7;decide),rfl,_,rfl,hK _ _ rfl]
   ·rintro Hx rfl;exists[dx,h1],O8.obj;refine aT λR2 hR2=>?_;refine#[_,rfl,p,dx,_,rfl,h1,fE _ _,_,rfl,sz rfl,λt6 g6=>?_];have v6:=ad g6 (.tup [.str "gone",.ref p2]);refine say (s:=.gone n) (O8.same v6) (G8.same v6) (by rw[gK lk0];omega) ∅ #[_,ac,hn8.same v6] mE λH9 b6 O9 G9=>hR2 _ _ ?_;have ts6:=b6.ts (O8.same v6);have hn9:=(hn8.same v6).ts' ts6;have hu9:=(hu8.ts (L5 v6)).ts ts6;have b9:=(But2.of v6).trans b6;have M9:=M8.but2 b9 O8 Pk.ne.1 Pk.ne.2.1;exists[lvs,hlo,Rl],L8.but2 b9 Pk.ne.2.2.1 Pk.ne.2.2.2.1;exists[nb,enb,hnb],id hn9;cases enb;have ll:=gY Rl;refine#[_,rfl,_,rfl,lo,_,rfl,DPut.t (k:=nk n) hlo hnb (cD ∅),hR1 _ _ ?_];have td:=jm (kvs':=bP lvs (nk n) (.bl true)) hlo;refine#[bu gs n (),(bt8.trans b9).upd lo0,O9.upd hlo Pk.ne.2.2.1 Pk.ne.2.2.2.1,G9.upd Pk.ne.2.2.2.1,M9.upd hlo Pk.ne.2.2.2.2.symm,#[_,ac,jQ Rl rfl],hn9.ts' td,hu9.ts td,Zt Cm ∅,rfl]
   ·rintro Hx rfl;exact hR1 _ _ #[gs,bt8,O8,G8,M8,L8,hn8,hu8,∅,rfl]
  rintro σ' H9 ⟨gs',bt9,O9,G9,M9,L9,hn9,hu9,lg9,rfl⟩;exists[mvs,hmm,Rm],id M9;exists[nb,enb,hnb],id hn9;cases enb;have lm:=gY Rm;refine#[_,rfl,_,rfl,_,rfl,_,_,rfl,rfl,#[⋯,⋯],_,_,rfl,rfl,(by show(0:Int)<2;decide),rfl,_,rfl,_,rfl,_,_,rfl,rfl,#[⋯,⋯],_,_,rfl,rfl,(by show(0:Int)<3;decide),rfl,sz rfl,λt6 g6=>?_];have v6:=ad g6 (.tup [uv,.str tx,.bl (decide (V.int (nu / 144%2)=V.int 1)),whV wo,.bl (decide (V.int (nu / 288%3)=V.int 1))]);refine#[_,rfl,_,rfl,m,_,rfl,DPut.t (k:=nk n) (v6 _ _ hmm) (v6 _ _ hnb) (cD ∅),hDL _ _ ?_];have mi:MiAt (upd H9 t6 (.tup [uv,.str tx,.bl (decide (V.int (nu / 144%2)=V.int 1)),whV wo,.bl (decide (V.int (nu / 288%3)=V.int 1))])) (.ref t6) it:=by rw[<-hit];exact#[t6,uv,rfl,ac,hu9.ts (L5 v6)]
  have R9:Rws (MiAt (upd H9 t6 (.tup [uv,.str tx,.bl (decide (V.int (nu / 144%2)=V.int 1)),whV wo,.bl (decide (V.int (nu / 288%3)=V.int 1))]))) mvs ol:=Paired.mapP Rm λ_ _ z=>#[z.1,z.2.ts (L5 v6)]
  have td:=jm (kvs':=bP mvs (nk n) (.ref t6)) (v6 _ _ hmm);refine#[(bt9.trans (.of v6)).upd gm,bu ol n it,gs',_,_,_,_,_,_,_,_,#[(O9.same v6).upd (v6 _ _ hmm) Pk.ne.1 Pk.ne.2.1,(G9.same v6).upd Pk.ne.2.1,#[_,ac,Paired.mapP (jQ R9 mi) λ_ _ z=>#[z.1,z.2.ts td]],(L9.same v6).upd Pk.ne.2.2.2.2,Pk.ne,Pk.gd.put lk0 (λx hx=>hin x (by rw[<-hx,<-hit])) (by rw[<-hit];exact#[Ze 1,YE rfl]),λi x hx=>?_,by rw[gK lk0];exact lg9],gK lk0,rfl];rw[ik lk0]at hx;by_cases ci:i<ol.length
  ·rw[ZS ci]at hx;exact Pk.it i x hx
  ·have hi:i=ol.length:=by have:=(Zm.mp hx).1;rw[Zi,Z1]at this;omega
   subst hi;rw[ZF (Ze _),YV]at hx;cases hx;rw[<-hit,<-hnn];exact#[h8,hn1,tok,tlen,hwo2]
 ·rintro σ' H' ⟨bt,ol,gs,o4,o5,o6,o7,o8,o9,o10,o11,Pk,ll,rfl⟩;rw[Zd]at ll;refine hR0 _ _ #[_,rfl,_,rfl,sz rfl,λt gt=>?_];have v:=ad gt (.tup [.ref m,.ref lo]);exact q t m lo ol gs _ (bt.trans (.of v)) ac #[Pk.o.same v,Pk.go.same v,Pk.mi.same v,Pk.los.same v,Pk.ne,Pk.gd,Pk.it,Pk.lg] ∅ gm lo0
theorem oq{α β:Type}{R:α->β->Prop}:∀{a:List α} {b:List β} {i:Nat} {x:α},Paired R a b->a[i]?=some x->∃y,b[i]?=some y/\R x y
 |_,_,0,_,.cons h _,e=>by cases e;exact#[_,rfl,h]
 |_,_,i+1,_,.cons _ t,e=>oq (i:=i) t e
def nI(n:Nm):LX:=[n.1,n.2]
def He(h:nI n=nI m):n=m:=by injection h with h1 h2;injection h2 with h2 _;exact Prod.ext h1 h2
def wH(h:NmsAt H ns vs):∃as:List LN,vs=as.map V.ref/\as.length=ns.length/\∀(i:Nat) (a:LN) (k:LX),as[i]?=some a->(ns.map nI)[i]?=some k->H a=some (.tup (k.map V.int)):=by
 induction h with
 |nil=>exact#[[],rfl,rfl,λi a k e=>by simp at e]
 |cons h _ ih =>
  exists[as,e1,e2,e3],ih;exists[b,rfl,hb],h;refine#[b::as,by rw[e1];rfl,by rw[Zl,Zl,e2],λi a k g1 g2=>?_];cases i with
  |zero =>cases g1;cases g2;exact hb
  |succ i=>exact e3 i a k g1 g2
def qj(x:NmsAt H ns vs):∀(l:List Nat),(∀i∈l,i<ns.length)->NmsAt H (l.map λi=>ns.getD i (0,0)) (l.map λi=>vs.getD i .non):=λl=>by
 induction l with
 |nil=>intro _;exact .nil
 |cons i l ih =>intro h;have hi:=h i Zo;exists[y,hy,hn],oq x (z9 hi);refine .cons ?_ (ih λj hj=>h j (Zn _ hj));dsimp only;rw[Zg,Zg,hy,z9 hi];exact hn
def Eh{α:Type}{key:α->LX}{z:α}{l:List α}{p:LY}(hp:POk l.length p)(hs:LS (λi j=>HT.lexLt ((l.map key).getD i []) ((l.map key).getD j [])) p l.length):(p.toList.map λi=>l.getD i z).Pairwise (λx y=>HT.lexLt (key y) (key x)=false)/\(p.toList.map λi=>l.getD i z).Perm l:=by
 have ep:p.toList.Perm (List.range l.length):=by have:=Array.perm_iff_toList_perm.mp hp;simpa using this
 refine#[?_,?_]
 ·rw[Xa];have hz:p.size=l.length:=by have:=hp.size_eq;simpa using this
  rw[Z9];intro i j hi hj hij;rw[Zu]at hi hj;have lx:=(hs i j hij ∅).1;have e1:gA p i=p.toList[i]'(by rw[Zu];exact hi):=by rw[mf,Zg,z9 (by rw[Zu];exact hi)];rfl
  have e2:gA p j=p.toList[j]'(by rw[Zu];exact hj):=by rw[mf,Zg,z9 (by rw[Zu];exact hj)];rfl
  have m1:p.toList[i]'(by rw[Zu];exact hi)<l.length:=ZM.mp (ep.mem_iff.mp (ZG _));have m2:p.toList[j]'(by rw[Zu];exact hj)<l.length:=ZM.mp (ep.mem_iff.mp (ZG _));dsimp only at lx;rw[e1,e2]at lx;generalize p.toList[i]'(by rw[Zu];exact hi)=a at *;generalize p.toList[j]'(by rw[Zu];exact hj)=b at *;have ga:∀k,k<l.length->(l.map key).getD k []=key (l.getD k z):=λk hk=>by simp[hk]
  rw[ga a m1,ga b m2]at lx;exact lx
 ·have:=ep.map λi=>l.getD i z;have e:((List.range l.length).map λi=>l.getD i z)=l:=by refine Ye (by simp) λi h1 h2=>?_;simp[h2]
  rw[e]at this;exact this
def E3{a b:List Nm}(p:a.Perm b)(s:a.Pairwise (λx y=>HT.lexLt (nI y) (nI x)=false))(s':b.Pairwise (λx y=>HT.lexLt (nI y) (nI x)=false)):a=b :=
 List.Perm.eq_of_pairwise (le:=λx y=>HT.lexLt (nI y) (nI x)=false) (λ_ _ _ _ h1 h2=>He (mD h2 h1)) s s' p
def nmD(n:Nm):PyData:=.tuple [.int n.1,.int n.2]
def Jm(h:NameIs H v (nk n)):Dt H (nmD n) v:=(lS (u:=some n) h).1
theorem xj:∀{ns:List Nm} {ks:Md},NmsAt H ns ks->DtAll H (ns.map nmD) ks
 |_,_,.nil=>by simp[DtAll]
 |_,_,.cons h t=>by rw[Zs];simp only[DtAll];exact#[_,_,rfl,Jm h,xj t]
theorem xl:∀ns:List Nm,PyData.canLayAll0 (ns.map nmD)=true/\PyData.depthAll (ns.map nmD)<=2
 | []=>#[rfl,by simp[PyData.depthAll]]
 |n::ns=>by exists[h1,h2],xl ns;rw[Zs];refine#[by simp[PyData.canLayAll0,h1,nmD,PyData.canLay0],?_];simp only[PyData.depthAll,nmD,PyData.depth];omega
def iL(ns:List Nm):PyData:=.list (ns.map nmD)
def xm{H:Hp}(hl:H l=some (.lst ks))(h:NmsAt H ns ks):Dt H (iL ns) (.ref l)/\SeqAt.shaped (iL ns)=true/\PyData.eqv (iL ns) (iL ns)=true:=by
 exists[h1,h2],xl ns;have hc:(iL ns).canLay0=true:=by simpa[iL,PyData.canLay0]using h1
 refine#[?_,lK hc (by simp only[iL,PyData.depth];omega),SeqAt.eqv_refl _ hc];simp only[iL,Dt];exact#[l,_,rfl,.inl hl,xj h]
def KT(H H':Hp):Prop:=∀b o,H b=some o->(∀ps,o≠.tbl ps)->H' b=some o
def KT.of(s:Same H H'):KT H H':=λb o e _=>s b o e
def KT.trans(s:KT H H')(t:KT H' H2):KT H H2:=λb o e n=>t b o (s b o e n) n
def KT.ts(s:KT H H'):TS H H':=λa zs h=>s a _ h λps z=>by cases z
def KT.tab(t:aN q T pos H)(s:SameT T H H'):KT H H':=λb o e n=>s b o e λz=>by exists[ps,e1,_],t;rw[z,e1]at e;cases e;exact n ps rfl
def lP(t:aN q T pos H)(r:aN q' R pos' H)(ne:R≠T)(s:SameT T H H'):aN q' R pos' H':=by exists[ps,e1,e2,e3],r;refine#[ps,s _ _ e1 ne,e2,e3.imp id fun⟨c,z1,z2⟩=>#[c,z1,s _ _ z2 λz=>?_]];exists[qs,f1,_],t;rw[z,f1]at z2;cases z2
def EW{K:W.Frag}:W.kitOne K (.type "list") (.type "list")=some true:=Ce (t:="list") (T:="list") (b:=true) rfl λz=>nomatch z
def uu(g:qc L):∀x∈L,x.2.t.length<=1000:=λx hx=>by exists[i,hi,rfl],Y0 hx;exists[_,_,h],g i hi;unfold ay at h;rw[z9 hi]at h;have h':(L[i]).2.t.length<=63:=h;omega
def Ey(hL:LR H l L)(hx:x∈L):((vals L).map rwD).any (λd=>PyData.eqv d (rwD x.2))=true:=by exists[_,_,_,ok],hL.2 x hx;exact Yu.mpr #[rwD x.2,Zw.mpr #[x.2,Zw.mpr #[x,hx,rfl],rfl],Bo ok]
def CS(L:LT)(ix:List Nat):(fJ L ix).length=ix.length:=Zd ..
def CT{L:LT}{ix:List Nat}(h:∀i∈ix,i<L.length):∀x∈fJ L ix,x∈L:=λx hx=>by exists[i,hi,rfl],Zw.mp hx;rw[Zg,z9 (h i hi)];exact ZG _
def FA{ix:List Nat}{a:Nat}(h:a<ix.length):be (fJ L ix) a=be L ix[a]:=by unfold be fJ;rw[Zq,z9 h];show((L.getD ix[a] (0,R0))).1=_;rw[Zg]
def OlAt.kt{ol:Ol}(O:OlAt C H p d g ol)(s:KT H H'):OlAt C H' p d g ol:=by obtain⟨kvs,gvs,⟨⟨dx,h1⟩,h2,h3,h4⟩,R⟩:=O;exact#[kvs,gvs,#[#[dx,s _ _ h1 λ_ z=>by cases z],s _ _ h2 nofun,s _ _ h3 nofun,h4],R.ts s.ts]
def GoneAt.kt{gs:As Unit}(G:GoneAt H g gs)(s:KT H H'):GoneAt H' g gs:=by exists[gv,h0,h1],G;exact#[gv,s _ _ h0 nofun,h1]
def MineAt.kt{ol:Ol}(M:MineAt H m ol)(s:KT H H'):MineAt H' m ol:=by exists[mv,h0,h1],M;exact#[mv,s _ _ h0 nofun,Paired.mapP h1 λ_ _ z=>#[z.1,z.2.ts s.ts]]
def Pd.kt{C p d g m lo:LN}{ol:Ol}{gs:As Unit}(x:Pd C H p d g m lo ol gs)(s:KT H H'):Pd C H' p d g m lo ol gs:=#[x.o.kt s,x.go.kt s,x.mi.kt s,x.los.kt s,x.ne,x.gd,x.it,x.lg]
def LfAt.kt{ol:Ol}(x:LfAt H p ol l)(s:KT H H'):LfAt H' p ol l:=by exists[ks,h0,h1,h2,h3],x;exact#[ks,s _ _ h0 nofun,h1.ts s.ts,h2,h3]
def LR.kt(x:LR H l L)(s:KT H H'):LR H' l L:=#[s _ _ x.1 nofun,λy hy=>(x.2 y hy).ts s.ts]
def KT.seq(s:KT H H')(x:SqL K H a xs):SqL K H' a xs:=by
 rcases x with(x|⟨o,x⟩)|x
 ·exact .inl (.inl (s _ _ x λps z=>by cases z))
 ·exact .inl (.inr #[o,s _ _ x λps z=>by cases z])
 ·exact .inr x
structure Lft(ol:Ol)(gs:As Unit)(i:Nat)(l:List Nm):Prop where
 sub:l.Sublist ((ol.take i).map (·.1))
 mem:∀x∈ol.take i,(x.1∈l↔ph ol gs x.1)
def Lft.nil{ol:Ol}{gs:As Unit}:Lft ol gs 0 []:=#[List.nil_sublist _,λx hx=>by simp at hx]
def Lft.step{ol:Ol}{gs:As Unit}{i:Nat}(nd:(ol.map (·.1)).Nodup)(h:Lft ol gs i l)(hx:ol[i]?=some x)(b:Bool)(hb:b=true↔ph ol gs x.1):Lft ol gs (i+1) (if b then l++[x.1]else l):=by
 have e:ol.take (i+1)=ol.take i++[x]:=by rw[List.take_succ,hx];rfl
 have hi:i<ol.length:=(Zm.mp hx).1;have nin:x.1∉(ol.take i).map (·.1):=λz=>by have nd':((ol.take (i+1)).map (·.1)).Nodup:=YS (List.Sublist.map _ (List.take_sublist _ _)) nd;rw[e,ZU]at nd';exact(List.nodup_append.mp nd').2.2 _ z _ (Zj.mpr rfl) rfl
 have nil:x.1∉l:=λz=>nin (h.sub.subset z);refine#[?_,λy hy=>?_]
 ·rw[e,ZU];cases b with
  |true=>exact h.sub.append (List.Sublist.refl _)
  |false=>exact h.sub.trans (List.sublist_append_left _ _)
 ·rw[e]at hy;rcases ZE.mp hy with hy|hy
  ·have ne:y.1≠x.1:=λz=>nin (z▸Zw.mpr #[y,hy,rfl]);rw[<-h.mem y hy];cases b with
   |true =>show y.1∈l++[x.1]↔_;rw[ZE,Zj];exact#[λz=>z.resolve_right ne,.inl]
   |false=>exact Iff.rfl
  ·rw[Zj.mp hy,<-hb];cases b with
   |true=>exact#[λ_=>rfl,λ_=>ZJ _ (Zj.mpr rfl)]
   |false=>exact#[λz=>absurd z nil,λz=>nomatch z]
def Lft.all{ol:Ol}{gs:As Unit}(h:Lft ol gs ol.length l)(n:Nm):n∈l↔ph ol gs n:=by
 exists[sub,mem],h;rw[List.take_length]at sub mem;constructor
 ·intro z;exists[x,hx,rfl],Zw.mp (sub.subset z);exact(mem x hx).mp z
 ·intro z;exists[_,it,_,hl,_],id z;exact(mem (n,it) (fB hl)).mpr z
def Abv.suf{ol:Ol}(h:Abv ol u l)(hn:n∈l):∃l2,l2.length<=l.length/\Abv ol (some n) l2:=by
 induction h with
 |none=>cases hn
 |@up m it l h t ih =>
  rcases Zf.mp hn with rfl|hn
  ·exact#[_,Ze _,.up h t]
  ·exists[l2,a,b],ih hn;exact#[l2,x9 a,b]
def Abv.nodup{ol:Ol}(h:Abv ol u l):l.Nodup:=by
 induction h with
 |none=>exact List.Pairwise.nil
 |@up m it l h t ih =>refine Yb.mpr #[λz=>?_,ih];exists[l2,a,b],t.suf z;have:=b.one (.up h t);rw[this,Zl]at a;omega
def Abv.len{ol:Ol}(h:Abv ol u l):l.length<=ol.length:=by
 have:=oh h.nodup (m:=ol.map (·.1)) λn hn=>by exists[it,hl],h.mem n hn;exact Zw.mpr #[_,fB hl,rfl]
 rw[Zd]at this;exact this
def AO{gs:As Unit}{ab:List Nm}{ks:Md}(lk:ab.length=ks.length):(((List.range ks.length).filter λj=>cw gs (ab.getD j (0,0))).map λj=>ks.getD j V.non).isEmpty=true↔∀m∈ab,cw gs m=false:=by
 rw[List.isEmpty_iff,List.map_eq_nil_iff,List.filter_eq_nil_iff];constructor
 ·intro h m hm;exists[j,hj,rfl],Y0 hm;have:=h j (ZM.mpr ∅);rw[cL (z9 hj)]at this;exact Bool.not_eq_true _▸this
 ·intro h j hj;have hj':j<ab.length:=by have:=ZM.mp hj;omega
  rw[cL (z9 hj'),h _ (ZG hj')];exact Zv
def Cl{ol:Ol}{gs:As Unit}(hl:look ol n=some it)(hab:Abv ol it.up ab)(hg:cw gs n=false):ph ol gs n↔∀m∈ab,cw gs m=false:=by
 constructor
 ·rintro⟨_,it',l,h1,h2,h3⟩;rw[hl]at h1;cases h1;rw[hab.one h2];exact h3
 ·intro h;exact#[hg,it,ab,hl,hab,h]
def rN{C R p d g m lo:LN}{ol:Ol}{gs:As Unit}{Q:VK}(x:Pd C H p d g m lo ol gs)(l16:ol.length<=16)(tab:LTr R H)(q:∀(r:LN) (H':Hp) (out:List DI) (rs:Md),SameT R H H'->LTr R H'->RowsOf ol gs out->H' r=some (.lst rs)->RwsAt H' out rs->Q (.ref r) H'):spRows C R [.ref p] H Q E :=
 #[p,d,g,ol,gs,rfl,x.o,x.go,∅,x.gd.nd,tab,Gc x.gd ∅,λr H2 M out k rs pe so df s2 tab2 _ er rw=>q r H2 out rs s2 tab2 #[M,k,pe,so,df] er rw]
def BL(h:Wk ab out):∀x∈out,0<=x.1:=by
 induction h with
 |nil=>exact λx hx=>nomatch hx
 |cons h0 _ _ _ ih =>
  intro x hx;rcases Zf.mp hx with rfl|hx
  ·exact h0
  ·exact ih x hx
def RowsOf.ok{ol:Ol}{gs:As Unit}(h:RowsOf ol gs out)(hi:∀i x,ol[i]?=some x->ItOk i x):∀x∈out,0<=x.1/\PyData.strOk x.2.2.tx=true:=λx hx=>by exists[i,ei],ZR.mp (h.mem x hx);exists[M,k,_,_,df],h;exact#[BL (Ab df (Lv.top _)) x hx,(hi i _ ei).s]
def EL{ol:Ol}(r:Rk ol L)(hi:∀i x,ol[i]?=some x->ItOk i x)(l16:ol.length<=16):qc L:=λk hk=>by
 have at':∀j,j<L.length->∃i it,ol[i]?=some (aU L j,it)/\ay L j=rwO (((ay L j).d:Int),(aU L j,it)):=λj hj=>by exists[it,h1,h2,_],r.up j hj;exists[i,e],ZR.mp (fB h1);exact#[i,it,e,h2]
 exists[i,it,e1,e2],at' k hk;have ok:=hi i _ e1;refine#[λj hj z=>?_,λw hw=>?_,?_]
 ·exists[i',it',f1,f2],at' j hj;have ok':=hi i' _ f1;have n1:=ok.n;have n2:=ok'.n;have z':(aU L j).2=(aU L k).2:=z;have b1:=(Zm.mp e1).1;have b2:=(Zm.mp f1).1;have:i'=i:=by dsimp only at n1 n2;omega
  subst this;rw[e1]at f1;exact r.inj j k hj hk (ZN Prod.fst (ZB f1)).symm
 ·rw[e2]at hw;exact ok.w w hw
 ·rw[e2];exact ok.t
def Jl{ol:Ol}(x:LfAt H lf ol l)(hi:∀i x,ol[i]?=some x->ItOk i x)(l16:ol.length<=16):NlAt H lf:=by exists[ks,h0,h1,h2,h3],x;refine#[l,ks,h0,h1,λn hn=>?_,by have:=h1.length;omega];exists[it,hl],YG.mp (h2 n hn);exists[i,e],ZR.mp (fB hl);have ok:=hi i _ e;have b:=(Zm.mp e).1;have n1:=ok.n;have n2:=ok.h;dsimp only at n1 n2;refine#[n2.1,∅,∅,∅]
def BB{ws:List Str}(h:ws≠[])(key:Str)(back:Bool)(hb:back=true\/key≠"place"):Str.join aR (ws++eY key back)=Str.join aR ws++(" by ":Str)++key++(if back then(" back":Str)else""):=by
 unfold eY;cases back with
 |true =>
  have e:ws++[("by":Str),key,"back"]=(ws++[("by":Str),key])++[("back":Str)]:=by rw[ZO];rfl
  show Str.join aR (ws++[("by":Str),key,"back"])=_;rw[e,zK (by simp),wK h];rfl
 |false =>rw[decide_eq_false (hb.resolve_left ⋯)];show Str.join aR (ws++[("by":Str),key])=_;rw[wK h];refine dO ?_;simp only[bf];rw[show(if false=true then(" back":Str)else"").cps.toList=[]from by decide,YL]
def BC{ws:List Str}{key:Str}(hk:key="place"):ws++eY key false=ws:=by unfold eY;rw[hk];simp
def Cc(i:Int):∃key:Str,atI [V.str "place",.str "text",.str "size",.str "depth",.str "due"] (i%5)=some (.str key)/\key∈cS:=by
 have:i%5=0\/i%5=1\/i%5=2\/i%5=3\/i%5=4:=∅
 rcases this with e|e|e|e|e<;>rw[e]
 ·exact#["place",rfl,⋯]
 ·exact#["text",rfl,⋯]
 ·exact#["size",rfl,⋯]
 ·exact#["depth",rfl,⋯]
 ·exact#["due",rfl,⋯]
def fN(L:LT)(c:Cq)(n:Nm):Bool:=(List.range L.length).any λk=>decide (aU L k=n)&&cI L k c
def DP{ol:Ol}(r:Rk ol L)(c:Cq){k:Nat}(hk:k<L.length):fN L c (aU L k)=cI L k c:=by
 unfold fN;rw[Z3,Yu];constructor
 ·rintro⟨j,hj,z⟩;rw[ZK,Z6]at z;rw[<-r.inj j k (ZM.mp hj) hk z.1];exact z.2
 ·intro h;exact#[k,ZM.mpr hk,by rw[decide_eq_true rfl,h];rfl]
def yB(x:NmsAt H l ks)(f:Nm->Bool):NmsAt H (l.filter f) (((List.range ks.length).filter λi=>f (l.getD i (0,0))).map λi=>ks.getD i .non):=by
 have lk:=x.length;have e:l.filter f=((List.range l.length).filter λi=>f (l.getD i (0,0))).map λi=>l.getD i (0,0):=by
  have h:=ot l (0,0) id;rw[List.map_id]at h
  conv=>lhs;rw[<-h]
  rw[List.filter_map];rfl
 rw[e,lk];refine qj x _ λi hi=>?_;have:=ZM.mp (ZP.mp hi).1;omega
def nmX(x:LN×Rw):Nm:=(x.2.h,x.2.n)
def A9{L:LT}{ix:List Nat}(h:ix.Perm (List.range L.length)):(fJ L ix).Perm L:=by unfold fJ;refine(h.map _).trans ?_;have:=jP L;unfold fJ at this;rw[this]
def yA{ol:Ol}{L M:LT}{l:List Nm}{c:Cq}{ix:List Nat}(r:Rk ol L)(hin:∀n,n∈l↔∃k,k<L.length/\aU L k=n)(ndl:l.Nodup)(pm:ix.Perm (List.range (bT L λk=>cI L k c).length))(eM:M=fJ (bT L λk=>cI L k c) ix):(M.map nmX).Perm (l.filter (fN L c)):=by
 rw[eM];refine((A9 pm).map nmX).trans ?_;have e1:(bT L λk=>cI L k c).map nmX=((List.range L.length).filter λk=>cI L k c).map (aU L):=by unfold bT;rw[Yw];rfl
 rw[e1];have pl:l.Perm ((List.range L.length).map (aU L)):=by
  have nd2:((List.range L.length).map (aU L)).Nodup:=by refine Xa.mpr (List.Pairwise.imp_of_mem (fun{a b} ha hb ne z=>ne (r.inj a b (ZM.mp ha) (ZM.mp hb) z)) List.nodup_range)
  refine(List.perm_ext_iff_of_nodup ndl nd2).mpr λn=>?_;rw[hin,Zw];exact#[fun⟨k,hk,z⟩=>#[k,ZM.mpr hk,z],fun⟨k,hk,z⟩=>#[k,ZM.mp hk,z]]
 refine List.Perm.symm ((pl.filter _).trans ?_);rw[List.filter_map];refine List.Perm.of_eq (ZN _ (List.filter_congr λk hk=>?_));exact DP r c (ZM.mp hk)
def fx(L:LT)(g:Nat->Bool):List Nat:=(List.range L.length).filter g
def DR(L:LT)(g:Nat->Bool){x y:Nat}(hx:x<(fx L g).length)(hy:y<(fx L g).length):x<y↔(fx L g)[x]<(fx L g)[y]:=by
 have pw:(fx L g).Pairwise (·<·):=YS List.filter_sublist List.pairwise_lt_range;have:=Z9.mp pw;constructor
 ·exact this x y hx hy
 ·intro h;rcases Nat.lt_trichotomy x y with z|z|z
  ·exact z
  ·subst z;omega
  ·have:=this y x hy hx z;omega
def vm(L:LT)(g:Nat->Bool){x:Nat}(hx:x<(fx L g).length):(bT L g)[x]?=some (be L (fx L g)[x],ay L (fx L g)[x]):=by show(((List.range L.length).filter g).map _)[x]?=_;rw[Zq];show Option.map _ (fx L g)[x]?=_;rw[z9 hx];rfl
def Ae{k:Str}{x y:Nat}(hx:x<(fx L g).length)(hy:y<(fx L g).length)(h:Fol k b (bT L g) x y):Fol k b L (fx L g)[x] (fx L g)[y]:=by
 have e:∀{z:Nat} (hz:z<(fx L g).length),nm k (bT L g) z=nm k L (fx L g)[z]:=fun{z} hz=>by rw[sR,sR];congr 2;show((bT L g)[z]?.getD (0,R0)).2=_;rw[vm L g hz];rfl
 unfold Fol at h ⊢;rw[e hx,e hy]at h;rw[<-DR L g hx hy,<-DR L g hy hx];exact h
def Al{x:Nat}(hx:x<(fx L g).length):(fx L g)[x]<L.length:=ZM.mp (ZP.mp (ZG hx)).1
def GH(L:LT)(g:Nat->Bool):(bT L g).length=(fx L g).length:=Zd ..
def xz(h:LR H l L)(h':LR H l' L')(e:vals L=vals L'):∃D D',Dt H D (.ref l)/\Dt H D' (.ref l')/\SeqAt.shaped D=true/\SeqAt.shaped D'=true/\PyData.eqv D D'=true :=
 #[_,_,h.dt,h'.dt,pS h.ok,pS h'.ok,by rw[e];exact EJ h'.ok]
def sY(K:W.Frag)(T R:LN):Sp:=λvs H Q _=>∃(a:LN) (ns:LX),vs=[.ref a]/\SqL K H a (ns.map V.int)/\ns.length<=63/\H T=some (.tbl #[])/\H R=some (.tbl #[])/\T≠R/\∀H',Q (.bl true) H'
abbrev mO:Stmt:=top 64
abbrev IV:List Str:=["_law_script","_law_plain","_law_mine","_law_lost","_law_left","_law_rows","_law_condition","_law_key_here","_law_back","_law_line_here","_law_found","_law_due","_law_k"]
def cO:FnScope IV ["_law_script"] (aj mO):= ~~~0
def Hi(F:Fun K "law" "law" mO f fd)(Kl:↑Fn 1 "_law_cell_at" ["_law_script","_law_k"] (Br K))(Lc:↑Fn 3 "_law_tree" ["_law_cells","_law_names"] (spTree K))(Ky:↑Fn 127 "_law_line" ["_law_condition"] (spWC 63))(j6:↑Fn 45 "read_question" ["text"] (spRQ xU))(KK:↑Fn 130 "asked" ["question","rows"] (xD T))(Kz:↑Fn 4 "_law_planted" ["_law_plain","_law_cells"] (spPlant C))(l5:↑Fn 1 "_law_above" ["_law_name","_law_mine"] spAbove)(Kc:↑Fn 66 "_law_fits" ["_law_condition","_law_name","_law_mine","_law_left"] (spLFits 63))(KA:↑Fn 2 "_law_follows" ["_law_key_here","_law_back","_law_one","_law_other","_law_rows"] rP)(KN:↑MkFn 1 C "Plain" ["self"] (spPInit C))(K3:↑MFn 7 C "rows" ["self"] (spRows C R))(Ke:mg "isinstance" = none)(l8:mg "list" = none)(i5:mg "sorted" = none)(a8:mg "len" = none)(g8:mg "range" = none)(i6:mg "int" = none):↑FnOk CX0 131 f fd ["_law_script"] (sY K T R):=by
 exists cO
 exists[a,sc,rfl,hS,hlen,hT,hR,TR,hq],h;exists _,(b_c (ax (i:=1) cO.nd (FO KN ↑99))
   (b_c (yS (aG Kz ↑99 (q_a ↑1 (q_a (yO ↑0 af af af) ah))) (iu rfl (cF (aA (i:=2) cO.nd) (cF (aA (i:=3) cO.nd) iG))))
   (b_c (ax (i:=4) cO.nd (Ip (aQ (own:=["_law_name"]) (#[rfl,⋯,⋯,rfl,#[rfl,rfl,#[rfl,rfl,trivial]]]:CompOk _ _ [3,2] ["_law_lost","_law_mine"]) rfl (Jg ↑2) (λ_ _ _ _=>aA (i:=0) (show (["_law_name","_law_lost","_law_mine"]:List Str).Nodup by decide)) (aF ⋯) (λ_ _ _ _=>(uG (t_w (cA (oA hr.units ↑0 ↑1) (bY (aq (E4 (K:=K) rfl hr.units) (aQ (own:=["_law_one"]) (#[rfl,⋯,⋯,rfl,#[rfl,rfl,trivial]]:CompOk _ _ [1] ["_law_lost"]) rfl (EO (K:=K) rfl (aG l5 ↑99 (q_a ↑0 (q_a ↑2 ah)))) (λ_ _ _ _=>aA (i:=0) (show (["_law_one","_law_lost"]:List Str).Nodup by decide)) (aF ⋯) (λ_ _ _ _=>(uG (Eo hr.units ↑0 ↑1))) (λ_ _ _ _=>↑0)) (bv ah))))))) (λ_ _ _ _=>↑0))))
   (b_c (ax (i:=5) cO.nd (cY K3 ↑99 ↑1))
   (b_c (ax (i:=6) cO.nd (aG Lc ↑99 (q_a (aw sS (yO ↑0 af af af) (yO ↑0 af af af)) (q_a ↑4 ah))))
   (b_c (ax (i:=7) cO.nd (ao aY (bv (q_a ai (q_a ai (q_a ai (q_a ai (q_a ai ah)))))) (aw aX (aG Kl ↑99 (q_a ↑0 (q_a af ah))) af)))
   (b_c (ax (i:=8) cO.nd (aM aD (aw aX (aw bL (aG Kl ↑99 (q_a ↑0 (q_a af ah))) af) af) af))
   (b_c (ax (i:=9) cO.nd (aG Ky ↑99 (q_a ↑6 ah)))
   (b_c (aC (t_w (oB (cc ↑8) (jY (aq uZ ↑7 ai)))) (b_1 (ax (i:=9) cO.nd (aw cW (aw cW (aw cW ↑9 ai) ↑7) (ao aY (bv (q_a ai (q_a ai ah))) (eZ sP i6 eO (q_a ↑8 ah)))))) b_0)
   (b_c (ax (i:=10) cO.nd (aG KK ↑99 (q_a (aG j6 ↑99 (q_a ↑9 ah)) (q_a ↑5 ah))))
   (b_c (pO (j:=11) cO.nd (own:=["_law_name"]) (#[rfl,⋯,⋯,rfl,#[rfl,rfl,#[rfl,rfl,#[rfl,rfl,trivial]]]]:CompOk _ _ [6,2,4] ["_law_condition","_law_mine","_law_left"]) rfl (bz ↑4) (λ_ _ _ _=>aA (i:=0) (show (["_law_name","_law_condition","_law_mine","_law_left"]:List Str).Nodup by decide)) (aF ⋯) (λ_ _ _ _=>(uG (cc (aG Kc ↑99 (q_a ↑1 (q_a ↑0 (q_a ↑2 (q_a ↑3 ah)))))))) (λ_ _ _ _=>↑0))
   (b_c (aC (t_w (oB (mQ (cc (q_B IZ Ke oJ (q_a ↑10 (q_a (JZ l8 kC) ah))))) (jY (aq (Jp hr.units) (q_B wL i5 YW (q_a (aQ (own:=["_law_row"]) (#[rfl,⋯,⋯,rfl,trivial]:CompOk _ _ [] []) rfl (bz ↑10) (λ_ _ _ _=>aA (i:=0) (show (["_law_row"]:List Str).Nodup by decide)) (aF ⋯) (λ_ _ _ _=>bA) (λ_ _ _ _=>(ao (dQ (K:=K) rfl) ↑0 af))) ah)) (q_B wL i5 YW (q_a ↑11 ah)))))) (b_1 (am fK)) b_0)
   (b_c (jS Yp rfl (gO g8 (q_a (q_B bM a8 ZH (q_a ↑10 ah)) ah)) (aA (i:=12) cO.nd) (b_1 (aC (t_w (oB (aq (kU (K:=K) rfl hr) (ao aY ↑10 ↑12) ↑5) (jY (t_w (cA (aq jK ↑12 af) (bY (mQ (cc (aG KA ↑99 (q_a ↑7 (q_a ↑8 (q_a (ao aY ↑10 (aw gF ↑12 af)) (q_a (ao aY ↑10 ↑12) (q_a ↑5 ah)))))))))))))) (b_1 (am fK)) b_0)))
   (b_1 (am (gH (aM (D6 hr.units) (cY K3 ↑99 ↑1) ↑5) (fe (aM (D6 hr.units) (aG KK ↑99 (q_a (aG j6 ↑99 (q_a ↑9 ah)) (q_a ↑5 ah))) ↑10))))))))))))))))))
 refine aT λR0 hR0=>?_;intro p dx gp gdx ndx;refine#[p,dx,rfl,ac,λd g H1 hd hg S kp1=>#[rfl,hR0 _ _ ?_]];have s1:Same H H1:=λb o e=>kp1 b o (by rw[ag (ar e gp),ag (ar e gdx)];exact e) (ar e gp);have O1:OlAt C H1 p d g []:=#[[],[],S,.nil]
 have G1:GoneAt H1 g []:=#[[],S.3,.nil]
 refine aT λR0 hR0=>?_;refine#[_,rfl,_,rfl,4,52,3,a,sc,rfl,rfl,rfl,⋯,⋯,⋯,rfl,s1.seq hS,λca ms lms gca=>?_];have wc:=ad gca (.lst (ms.map V.int));refine#[p,d,g,ca,ms,rfl,O1.same wc,G1.same wc,ac,lms,λt m lo ol gs H2 bt et Pk l16 gm glo=>?_];refine#[t,_,rfl,L6 et,rfl,_,_,rfl,_,_,rfl,rfl,hR0 _ _ ?_];have hd0:H d=none:=by
  cases e:H d with
  |none=>rfl
  |some o=>rw[ag (ar e gp),ag (ar e gdx),e]at hd;cases hd
 have hg0:H g=none:=by
  cases e:H g with
  |none=>rfl
  |some o=>rw[ag (ar e gp),ag (ar e gdx),e]at hg;cases hg
 have s2:Same H H2:=λb o e=>bt b o (wc _ _ (s1 _ _ e)) (ar e hd0) (ar e hg0);have m0:H m=none:=s1.free (wc.free gm);exists[mvs,hm,Rm],id Pk.mi;have lmv:=gY Rm;refine aT λR0 hR0=>?_;refine#[_,rfl,m,mvs,rfl,hm,λob=>?_];have tF:TS H2 (upd H2 m (.frz ob (.dT mvs))):=λc zs e=>by rw[ag (jJ e hm nofun)];exact e
 have eF:upd H2 m (.frz ob (.dT mvs)) m=some (.frz ob (.dT mvs)):=ac;have uF:∀{c:LN} {o:HO},H2 c=some o->c≠m->upd H2 m (.frz ob (.dT mvs)) c=some o:=λe h=>by rw[ag h];exact e
 have MF:MinR (upd H2 m (.frz ob (.dT mvs))) m ol:=#[mvs,.inr #[ob,ac],Paired.mapP Rm λ_ _ z=>#[z.1,z.2.ts tF]]
 have LF:GoneAt (upd H2 m (.frz ob (.dT mvs))) lo gs:=Pk.los.upd Pk.ne.2.2.2.2;have fF:∀{c:LN},upd H2 m (.frz ob (.dT mvs)) c=none->c≠m:=λe z=>by rw[z,ac]at e;cases e
 generalize upd H2 m (.frz ob (.dT mvs))=HF at tF eF uF MF LF fF ⊢;refine zW (a:=m) (o:=ob) (kvs:=mvs) (λi ys H'=>Same HF H'/\∃l,NmsAt H' l ys/\Lft ol gs i l) ∅ ?_ #[Same.refl _,[],.nil,.nil] (λi ys H' z=>z.1 _ _ eF) ?_ ?_
 ·rintro i ys H' ⟨_,l,na,lf⟩;have:=na.length;have:=lf.sub.length_le;rw[Zd,ZD]at this;omega
 ·rintro i ys H' pr b hpr hb ⟨sm,l,na,lf⟩ Y hY;exists[x,hx,ex1,_],oq Rm hpr;rw[ex1]at hb;have hlx:=cG Pk.gd.nd hx;exists[kk,uc],Pk.gd.ups _ _ hlx;exists[l0,ab0],uc.abv;cases ab0 with
  |@up _ it ab hlx' hab =>
   rw[hlx]at hlx';cases hlx';have lab:=hab.len;exists[gvl,hlo,Rl],LF.same sm;refine#[_,rfl,_,rfl,lo,_,rfl,DGet.t (k:=nk x.1) hlo hb,_,rfl,?_];rw[mK Rl];cases hg:(look gs x.1).isSome with
   |true =>refine aJ ?_;refine hY ys H' #[sm,l,na,?_];refine lf.step Pk.gd.nd hx false #[(λz=>(nomatch z)),λz=>?_];have:=z.1;unfold cw at this;rw[hg]at this;cases this
   |false =>
    refine aP ?_;refine#[_,rfl,_,rfl,.ref b,m,ol,x.1,x.2,ab,rfl,MF.same sm,#[b,rfl,hb],hlx,hab,∅,λp1 ks H3 s3 g1 e1 ka=>#[p1,rfl,#[_,L7 e1],?_]];have lk:=ka.length;refine fR (λj=>cw gs (ab.getD j (0,0))) (λj=>ks.getD j .non) ∅ (L7 e1) (λj y H4 hy s4 A B hA hB=>?_) (λp6 H6 s6 g6=>?_)
    ·exists[n',hn',hy'],ja ka j y hy;exists[yb,rfl,hyb],hy';exists[gvl',hlo',Rl'],(LF.same sm).same (s3.trans s4);refine#[_,rfl,_,rfl,lo,_,rfl,DGet.t (k:=nk n') hlo' (s4 _ _ hyb),_,rfl,?_];rw[mK Rl'];rw[cL hn']at hA hB;rw[cL hy]at hA;unfold cw at hA hB;cases hg':(look gs n').isSome with
     |true=>exact aP #[_,rfl,hA hg' _ (Same.refl _)]
     |false=>exact aJ (hB hg' _ (Same.refl _))
    ·refine#[sz rfl,λe0 ge=>#[p6,e0,_,rfl,rfl,L7 (ad ge _ _ _ ac),L7 ac,_,rfl,?_]];have S6:=s3.trans (s6.trans ((ad g6 (.lst (((List.range ks.length).filter λj=>cw gs (ab.getD j (0,0))).map λj=>ks.getD j V.non))).trans (ad ge (.lst []))));have ng:=AO (gs:=gs) lk;have li:=Cl hlx hab hg;generalize upd (upd H6 p6 (.lst (((List.range ks.length).filter λj=>cw gs (ab.getD j (0,0))).map λj=>ks.getD j V.non))) e0 (.lst [])=H7 at S6 ⊢;cases he:(((List.range ks.length).filter λj=>cw gs (ab.getD j (0,0))).map λj=>ks.getD j V.non).isEmpty with
     |true =>refine aP #[_,rfl,hY _ _ #[sm.trans S6,l++[x.1],fH (na.ts (L5 S6)) (.cons (#[b,rfl,S6 _ _ hb]:NameIs _ _ _) .nil),?_]];exact lf.step Pk.gd.nd hx true #[λ_=>li.mpr (ng.mp he),λ_=>rfl]
     |false =>refine aJ (hY _ _ #[sm.trans S6,l,na.ts (L5 S6),?_]);refine lf.step Pk.gd.nd hx false #[(λz=>(nomatch z)),λz=>?_];rw[ng.mpr (li.mp z)]at he;cases he
 rintro ys lf H' ⟨sm,l,na,lft⟩ glf;rw[lmv]at lft;have nfm:lf≠m:=λz=>by rw[z,sm _ _ eF]at glf;cases glf
 refine#[m,ob,.dT mvs,by rw[ag nfm.symm];exact sm _ _ eF,Loose.non m0,hR0 _ _ ?_];have s3:Same H2 (upd (upd H' lf (.lst ys)) m (.dT mvs)):=λc o e=>by
  by_cases cm:c=m
  ·subst cm;rw[hm]at e;rw[ac];exact e
  ·rw[ag cm,ag (ar (sm _ _ (uF e cm)) glf)];exact sm _ _ (uF e cm)
 have tl:TS H' (upd (upd H' lf (.lst ys)) m (.dT mvs)):=λc zs e=>by rw[ag (jJ e (sm _ _ eF) nofun),ag (ar e glf)];exact e
 have lf3:LfAt (upd (upd H' lf (.lst ys)) m (.dT mvs)) lf ol l:=by
  refine#[ys,by rw[ag nfm,ac],na.ts tl,λn hn=>?_,?_]
  ·exists[_,it,_,hl,_],(lft.all n).mp hn;rw[hl];rfl
  ·have:=lft.sub.length_le;rw[Zd,ZD]at this;omega
 have P3:Pd C (upd (upd H' lf (.lst ys)) m (.dT mvs)) p d g m lo ol gs:=Pk.kt (KT.of s3);have s3':=s2.trans s3;generalize upd (upd H' lf (.lst ys)) m (.dT mvs)=H3 at s3 tl lf3 P3 s3' ⊢;refine aT λR0 hR0=>?_;exists[dxp,h1],P3.o.obj;have tR3:LTr R H3:=#[#[],s3' _ _ hR,trivial,.inl rfl]
 have tT3:∀pos,aN gX T pos H3:=λpos=>#[#[],s3' _ _ hT,trivial,.inl rfl]
 refine#[_,rfl,p,dxp,_,rfl,h1,fE _ _,rN P3 l16 tR3 λrw_ H4 out rs s4 tR4 ro er ra=>hR0 _ _ ?_];have k4:=KT.tab tR3 s4;have tT4:∀pos,aN gX T pos H4:=λpos=>lP tR3 (tT3 pos) TR s4;have P4:=P3.kt k4;have lf4:=lf3.kt k4;have hS4:=k4.seq (s3'.seq hS);exists[L,hL4,eL],xA er ra (ro.ok P4.it);exists[ndo,lout],FR P4.gd ro;have rk:=JH P4.gd.nd ro eL ndo;have lL:=(yR eL).1;have fine:=EL rk P4.it l16;have hin:∀n,n∈l↔∃k,k<L.length/\aU L k=n:=λn=>(lft.all n).trans (Bn P4.gd ro eL rk n);have ndl:l.Nodup:=YS lft.sub (YS (List.Sublist.map _ (List.take_sublist _ _)) P4.gd.nd);refine aT λR0 hR0=>?_;refine#[_,rfl,5,53,3,a,sc,rfl,rfl,rfl,⋯,⋯,⋯,rfl,hS4,λc1 ms1 l1 g1=>?_];have w1:=ad g1 (.lst (ms1.map V.int));refine#[_,rfl,6,54,3,a,sc,rfl,rfl,rfl,⋯,⋯,⋯,rfl,w1.seq hS4,λc2 ms2 l2 g2=>?_];have w2:=ad g2 (.lst (ms2.map V.int));have l1':ms1.length<=16:=l1;have l2':ms2.length<=16:=l2;refine#[c1,c2,_,_,rfl,rfl,w2 _ _ ac,ac,dh (by rw[Zd,Zd];omega),λc3 g3=>?_];have w3:=ad g3 (.lst (ms1.map V.int++ms2.map V.int));have W3:=w1.trans (w2.trans w3);refine#[_,rfl,c3,lf,ms1++ms2,rfl,L7 (by rw[ac,ZU]),Jl (lf4.same W3) P4.it l16,by rw[Zi];omega,λv c H5 s5 hc gc lc=>hR0 _ _ ?_];have S5:=W3.trans s5;have P5:=P4.kt (KT.of S5);have lf5:=lf4.same S5;have hL5:=hL4.same S5;have hS5:=S5.seq hS4;have tR5:LTr R H5:=aE tR4 S5;have tT5:∀pos,aN gX T pos H5:=λpos=>aE (tT4 pos) S5;exists[key,hkey,hk5],Cc (dI sc 0);have lk:key.length<=10:=by
  have:∀k∈cS,k.length<=10:=⋯
  exact this key hk5
 refine aT λR0 hR0=>?_;refine#[sz rfl,λp1 g1=>#[_,rfl,a,sc,0,rfl,(ad g1 _).seq hS5,Int.le_refl _,_,_,rfl,rfl,(by show(0:Int)<5;decide),p1,_,_,_,rfl,rfl,L7 ac,hkey,hR0 _ _ ?_]];have w1:=ad g1 (.lst [.str "place",.str "text",.str "size",.str "depth",.str "due"]);generalize upd H5 p1 (.lst [.str "place",.str "text",.str "size",.str "depth",.str "due"])=H6 at w1 ⊢;refine aT λR0 hR0=>?_;refine#[_,rfl,a,sc,0,rfl,w1.seq hS5,Int.le_refl _,_,_,rfl,rfl,#[⋯,⋯],_,_,rfl,rfl,(by show(0:Int)<2;decide),rfl,hR0 _ _ ?_];generalize decide (V.int (dI sc (Int.toNat 0) / 5%2)=V.int 1)=back;have wd:=gc.words;refine aT λR0 hR0=>?_;refine#[_,rfl,v,c,12,rfl,hc.ts λa zs e=>w1 _ _ e,gc,∅,λH7 s7=>hR0 _ _ ?_];have ll:=gc.lineLen ∅;have S7:=w1.trans s7;have P7:=P5.kt (KT.of S7);have lf7:=lf5.same S7;have hL7:=hL5.same S7;have tR7:LTr R H7:=aE tR5 S7;have tT7:∀pos,aN gX T pos H7:=λpos=>aE (tT5 pos) S7;have hc7:=hc.ts λa zs e=>S7 _ _ e;refine fP (λσ' H8=>Same H7 H8/\σ'=[some (.ref a),some (.ref p),some (.ref m),some (.ref lo),some (.ref lf),some (.ref rw_),some v,some (.str key),some (.bl back),some (.str (Str.join aR (c.ws++eY key back))),none,none,none]) (λR1 hR1 _=>?_) ?_
 ·refine iV (λb Hx=>Hx=H7/\(b=true->back=true\/key≠"place")/\(b=false->back=false/\key="place")) ?_ ?_ ?_
  ·intro Kk hK;refine#[_,rfl,#[_,rfl,?_]];cases back with
   |true=>exact aP (hK _ _ #[rfl,λ_=>.inl rfl,λz=>(nomatch z)])
   |false =>
    refine aJ #[_,rfl,rfl,#[_,rfl,?_]];by_cases ck:key="place"
    ·rw[decide_eq_true (show V.str key=V.str "place" by rw[ck])];exact hK _ _ #[rfl,(λz=>(nomatch z)),λ_=>#[rfl,ck]]
    ·rw[decide_eq_false (show¬V.str key=V.str "place" from λz=>ck (by injection z))];exact hK _ _ #[rfl,λ_=>.inr ck,λz=>(nomatch z)]
  ·rintro Hx ⟨rfl,hb,_⟩;have a1:(" by ":Str).length=4:=⋯
   have a2:∀b:Bool,(if b then(" back":Str)else"").length<=5:=⋯
   have a2':=a2 back;have hat:atI [V.str "",V.str " back"] (if back=true then 1 else 0)=some (.str (if back then(" back":Str)else"")):=by cases back<;>rfl
   refine#[_,rfl,_,_,rfl,rfl,cK ∅,_,rfl,_,_,rfl,rfl,cK (by rw[Yx];omega),sz rfl,λp2 g2=>#[_,rfl,.inr #[_,rfl,p2,_,_,_,rfl,rfl,L7 ac,hat,_,_,rfl,rfl,cK (by rw[Yx,Yx];omega),hR1 _ _ #[ad g2 _,?_]]]];rw[BB wd.1 key back (hb rfl)];rfl
  ·rintro Hx ⟨rfl,_,hb⟩;exists[rfl,hk],hb rfl;refine hR1 _ _ #[Same.refl _,?_];rw[BC hk];rfl
 rintro σ' H8 ⟨s8,rfl⟩;have ne:∀{r:List Str},c.ws++r≠[]:=λz=>wd.1 (List.append_eq_nil_iff.mp z).1;have tq:=C6 hk5 back;have wdr:∀x∈c.ws++eY key back,Wd x:=λx hx=>by
  rcases ZE.mp hx with hx|hx
  ·exact wd.2 x hx
  ·exact F8 tq x hx
 have lr:(c.ws++eY key back).length<=500:=by have:=DB tq;rw[Zi];omega
 have gr:=yl gc tq;have P8:=P7.kt (KT.of s8);have lf8:=lf7.same s8;have hL8:=hL7.same s8;have tR8:LTr R H8:=aE tR7 s8;have tT8:∀pos,aN gX T pos H8:=λpos=>aE (tT7 pos) s8;have hc8:=hc7.ts λa zs e=>s8 _ _ e;refine aT λR0 hR0=>?_;refine#[_,rfl,Ef rfl ne wdr lr gr tq λa2 u2 H9 s9 e9 c9=>?_];exists[ca2,_,rfl,_],c9.head;refine#[_,rfl,a2,ca2,rw_,key,back,L,λk=>cI L k c,fz (if back then jG else jH),rfl,e9,DN gc ca2 c9,hL8.same s9,rk.gd,uu fine,∅,aE (tT8 _) s9,λ_=>rfl,λD HA M told sT tA eD nD=>hR0 _ _ ?_];have tT9:=aE (tT8 (fz (if back then jG else jH))) s9;have kA:=(KT.of s9).trans (KT.tab tT9 sT);have PA:=P8.kt kA;have lfA:=lf8.kt kA;have hLA:=hL8.kt kA;have tRA:LTr R HA:=lP tT9 (aE tR8 s9) TR.symm sT;have hcA:=hc8.ts kA.ts;exists[ix,pm,pw,eM],rc told;have np:=yA rk hin ndl pm eM;have lN:(bT L λk=>cI L k c).length<=L.length:=rL L _;have ixl:∀i∈ix,i<(bT L λk=>cI L k c).length:=λi hi=>by have:=pm.mem_iff.mp hi;simpa using this
 have ixn:ix.length=(bT L λk=>cI L k c).length:=by have:=pm.length_eq;simpa using this
 have lM:M.length=ix.length:=by rw[eM,CS]
 have mL:∀x∈M,x∈L:=λx hx=>kZ (CT ixl x (by rw[<-eM];exact hx));have hMA:LR HA D M:=#[eD,λx hx=>hLA.2 x (mL x hx)]
 refine aT λR0 hR0=>?_;exists[ks,h0,ka,hsm,l60],id lfA;have lk:=ka.length;refine#[_,rfl,lf,rfl,#[_,L7 h0],?_];refine fR (λj=>fN L c (l.getD j (0,0))) (λj=>ks.getD j .non) ∅ (L7 h0) (λj x H1 hx s1 A' B' hA hB=>?_) (λdl H1 s1 g1=>hR0 _ _ ?_)
 ·exists[n',hn',hx'],ja ka j x hx;exists[k,hk,ek],(hin n').mp (ZC hn');subst ek;exists[it,hit,_,_],rk.up k hk;rw[cL hn',DP rk c hk,yj rk hin hk hit gc]at hA hB;rw[cL hx]at hA;have ab:=rk.abv (k+1) k (Yd k) hk it hit;have lab:=ab.len;refine#[_,rfl,_,rfl,_,rfl,_,rfl,v,x,m,lf,c,12,ol,aU L k,it,l,_,rfl,hcA.ts λa zs e=>s1 _ _ e,gc,#[(PA.mi.same s1).r,hx'.same s1,hit,ab,∅,lfA.same s1],λH2 s2=>#[_,rfl,?_]];cases hf:fu ol l it (aU L k) ((abL L k).map (aU L)) c with
  |true=>exact aP #[_,rfl,hA hf _ s2]
  |false=>exact aJ (hB hf _ s2)
 have wB:=s1.trans (ad g1 (.lst (((List.range ks.length).filter λj=>fN L c (l.getD j (0,0))).map λj=>ks.getD j V.non)));have eB:upd H1 dl (.lst (((List.range ks.length).filter λj=>fN L c (l.getD j (0,0))).map λj=>ks.getD j V.non)) dl=some (.lst (((List.range ks.length).filter λj=>fN L c (l.getD j (0,0))).map λj=>ks.getD j V.non)):=ac;have nB:=(yB ka (fN L c)).ts (L5 wB);generalize(((List.range ks.length).filter λj=>fN L c (l.getD j (0,0))).map λj=>ks.getD j V.non)=ds at wB eB nB ⊢;generalize upd H1 dl (.lst ds)=HB at wB eB nB ⊢;have PB:=PA.kt (KT.of wB);have hLB:=hLA.same wB;have hMB:=hMA.same wB;have tRB:LTr R HB:=aE tRA wB;have tTB:=aE tA wB;refine fP (λσ' HC=>Same HB HC/\σ'=[some (.ref a),some (.ref p),some (.ref m),some (.ref lo),some (.ref lf),some (.ref rw_),some v,some (.str key),some (.bl back),some (.str (Str.join aR (c.ws++eY key back))),some (.ref D),some (.ref dl),none]) (λR1 hR1 _=>?_) ?_
 ·refine iV (λb HC=>Same HB HC/\b=false) ?_ (λHC z=>nomatch z.2) (λHC z=>hR1 _ _ #[z.1,rfl]);intro Kk hK;refine#[_,rfl,_,"list",_,true,rfl,.lst hMB.1,EW,_,rfl,aJ ?_];refine#[_,rfl,D,rfl,#[_,L7 hMB.1],?_];have lr1:(aH M).length=M.length:=aB M;refine nG (N:=(aH M).length) (λi ys H'=>Same HB H'/\ys.length=i/\NmsAt H' ((M.take i).map nmX) ys) ∅ (λ_ _ _ x=>x.2.1) #[Same.refl _,rfl,.nil] (λi ys H' hi hP=>#[aH M,(aH M)[i],L7 (hP.1 _ _ hMB.1),by simp[hi]]) (λys H' hP=>#[aH M,L7 (hP.1 _ _ hMB.1),Ze _]) ?_ ?_
  ·rintro i ys H' x H'' hi ⟨sm,ly,pa⟩ ⟨rfl,y⟩ A' kA';have hx:(aH M)[i]?=some x:=y (aH M) (L7 (sm _ _ hMB.1));unfold aH at hx;rw[Zq]at hx;exists[z,hz',rfl],ZL.mp hx;exists[pb,er,en,_],hMB.2 z (ZC hz');refine#[_,rfl,z.1,_,_,_,rfl,rfl,L6 (sm _ _ er),at1,kA' _ _ #[sm,by rw[Zi,ly];rfl,?_]];rw[List.take_succ,hz',ZU];exact fH pa (.cons (#[pb,rfl,sm _ _ en]:NameIs _ (.ref pb) (nk (nmX z))) .nil)
  rintro ys L1 H8 ⟨s8,ly,pa⟩ gL1;have w9:=ad gL1 (.lst ys);have e9:upd H8 L1 (.lst ys) L1=some (.lst ys):=ac;have pa9:=pa.ts (L5 w9);have s9:=s8.trans w9;generalize upd H8 L1 (.lst ys)=H9 at e9 pa9 s9 ⊢;rw[YB ∅]at pa9;have lno:(M.map nmX).length<=60:=by rw[Zd];omega
  have lnd:(l.filter (fN L c)).length<=60:=by rw[<-np.length_eq];exact lno
  exists[as1,rfl,la1,ha1],wH pa9;have hne:∀(l:List Nm),∀k∈l.map nI,k≠[]:=λl k hk=>by exists[n,_,rfl],Zw.mp hk;exact List.cons_ne_nil _ _
  refine#[L1,as1,(M.map nmX).map nI,rfl,e9,∅,by rw[Zd,la1],hne _,ha1,λpm1 D1 hpm1 hs1 gD1=>?_];rw[la1]at hpm1 hs1;exists[so1,pe1],Eh (z:=((0,0):Nm)) hpm1 hs1;have ab1:=qj pa9 _ (λi hi=>by
   have:=(hpm1.mem_iff).mp (Ys.mp hi);simpa using this:∀ i∈pm1.toList,i<(M.map nmX).length)
  generalize hn1:(pm1.toList.map λi=>(M.map nmX).getD i ((0,0):Nm))=ns1 at so1 pe1 ab1;generalize(pm1.toList.map λi=>(as1.map V.ref).getD i .non)=ws1 at ab1 ⊢;have wA:=ad gD1 (.lst ws1);have abA:=(nB.ts (L5 s9)).ts (L5 wA);have elA:=wA _ _ (s9 _ _ eB);exists[as2,hvs,la2,ha2],wH abA;rw[hvs]at abA elA;refine#[_,rfl,dl,as2,(l.filter (fN L c)).map nI,rfl,elA,∅,by rw[Zd,la2],hne _,ha2,λpm2 D2 hpm2 hs2 gD2=>?_];rw[la2]at hpm2 hs2;exists[so2,pe2],Eh (z:=((0,0):Nm)) hpm2 hs2;have ab2:=qj abA _ (λi hi=>by
   have:=(hpm2.mem_iff).mp (Ys.mp hi);simpa using this:∀ i∈pm2.toList,i<(l.filter (fN L c)).length)
  generalize hn2:(pm2.toList.map λi=>(l.filter (fN L c)).getD i ((0,0):Nm))=ns2 at so2 pe2 ab2;generalize(pm2.toList.map λi=>(as2.map V.ref).getD i .non)=ws2 at ab2 ⊢;have wB:=ad gD2 (.lst ws2);have eq12:ns1=ns2:=E3 ((pe1.trans np).trans pe2.symm) so1 so2;subst eq12;exists[y1,y2,y3],xm (wB _ _ (ac (H:=H9) (a:=D1) (o:=.lst ws1))) ((ab1.ts (L5 wA)).ts (L5 wB));exists[y4,y5,_],xm (l:=D2) ac (ab2.ts (L5 wB));refine#[iL ns1,iL ns1,y1,y4,y2,y5,_,rfl,?_];rw[y3];exact hK _ _ #[s9.trans (wA.trans wB),rfl]
 rintro σ' HC ⟨sC,rfl⟩;have PC:=PB.kt (KT.of sC);have hLC:=hLB.same sC;have hMC:=hMB.same sC;have tRC:LTr R HC:=aE tRB sC;have tTC:=aE tTB sC;have lr1:(aH M).length=M.length:=aB M;have lfx:=GH L λk=>cI L k c;have adM:∀i (h:i<ix.length),∃hf:ix[i]<(fx L λk=>cI L k c).length,be M i=be L ((fx L λk=>cI L k c)[ix[i]]):=λi h=>by
  have hf:ix[i]<(fx L λk=>cI L k c).length:=by rw[<-lfx];exact ixl _ (ZG h)
  refine#[hf,?_];rw[eM,FA h];unfold be;rw[vm L _ hf];rfl
 refine aT λR0 hR0=>?_;refine#[_,rfl,D,_,rfl,.inl (L7 hMC.1),_,rfl,∅,∅,?_];rw[show((aH M).length:Int).toNat=ix.length by omega];refine yk (lo:=0) (λi σ H'=>Same HC H'/\∃o12:Option V,σ=[some (.ref a),some (.ref p),some (.ref m),some (.ref lo),some (.ref lf),some (.ref rw_),some v,some (.str key),some (.bl back),some (.str (Str.join aR (c.ws++eY key back))),some (.ref D),some (.ref dl),o12]) #[Same.refl _,none,rfl] ?_ ?_
 ·rintro i σ H' hi ⟨sm,o12,rfl⟩ DL hDL;refine iV (λb Hx=>Hx=H'/\b=false) ?_ (λHx z=>nomatch z.2) (λHx z=>hDL _ _ #[z.1▸sm,_,rfl]);intro Kk hK;have hLi:=hLC.same sm;have hMi:=hMC.same sm;have hi':i<M.length:=∅
  exists[hf,ead],adM i hi;have at2:atI (aH M) (0+(i:Int))=some (.ref (be M i)):=by rw[Int.zero_add];exact lW hi'
  have mM:(be M i,ay M i)∈M:=by unfold be ay;rw[z9 hi'];exact ZG hi'
  have my:=mL _ mM;have ry:=hLi.2 _ my;have ok:PyData.strOk (ay M i).t=true:=let⟨_,_,_,h⟩:=ry;h
  refine#[_,rfl,_,rfl,D,_,_,_,rfl,rfl,L7 hMi.1,at2,_,rfl,rw_,aH L,rwD (ay M i),(vals L).map rwD,rfl,L7 hLi.1,ry.dt,ma hLi.2,pN ok,(iZ hLi.ok).1,_,rfl,?_];rw[Ey hLi my];refine aJ #[_,rfl,_,_,rfl,rfl,_,rfl,bp (λc0=>?_) (λc0=>hK _ _ #[rfl,rfl])];cases i with
  |zero=>exact absurd c0 ∅
  |succ j =>
   exists[hf0,ead0],adM j ∅;have at1':atI (aH M) (0+((j+1:Nat):Int)-1)=some (.ref (be M j)):=by rw[show 0+((j+1:Nat):Int)-1=(j:Int) by omega];exact lW ∅
   have fo:=Ae hf0 hf (Z9.mp pw j (j+1) ∅ ∅ ∅);rw[ead]at at2;rw[ead0]at at1';exact#[_,rfl,_,rfl,_,rfl,_,rfl,_,_,rfl,rfl,D,_,_,_,rfl,rfl,L7 hMi.1,at1',_,rfl,_,rfl,D,_,_,_,rfl,rfl,L7 hMi.1,at2,_,rfl,key,back,rw_,L,_,_,rfl,hLi,fine,∅,Al hf0,Al hf,fo,_,rfl,hK _ _ #[rfl,rfl]]
 rintro σ' HD ⟨sD,o12,rfl⟩;refine hR0 _ _ ?_;have PD:=PC.kt (KT.of sD);have hLD:=hLC.same sD;have hMD:=hMC.same sD;have tRD:LTr R HD:=aE tRC sD;have tTD:=aE tTC sD;exists[dxp,h1],PD.o.obj;refine#[_,rfl,p,dxp,_,rfl,h1,fE _ _,rN PD l16 tRD λr2 HE out2 rs2 sE tRE ro2 er2 ra2=>?_];have kE:=KT.tab tRD sE;have hLE:=hLD.kt kE;have hME:=hMD.kt kE;have tTE:=lP tRD tTD TR sE;exists[L2,hL2,eL2],xA er2 ra2 (ro2.ok PD.it);have eo:vals L2=vals L:=by rw[eL2,eL,ro2.one PD.gd.nd ro]
 exists[D1,D2,y1,y2,y3,y4,y5],xz hL2 hLE eo;refine#[_,rfl,D1,D2,y1,y2,y3,y4,?_];rw[y5];refine#[_,rfl,aP ?_];refine#[_,rfl,Ef rfl ne wdr lr gr tq λa3 u3 HF s3 e3 c3=>?_];exists[ca3,_,rfl,_],c3.head;refine#[_,rfl,a3,ca3,rw_,key,back,L,λk=>cI L k c,fz (if back then jG else jH),rfl,e3,DN gc ca3 c3,hLE.same s3,rk.gd,uu fine,∅,aE tTE s3,λ_=>rfl,λD3 HG M3 told3 sG tG eD3 nD3=>?_];obtain rfl:=BD told3 told;have kG:=(KT.of s3).trans (KT.tab (aE tTE s3) sG);have hMG:=hME.kt kG;have hLG:=hLE.kt kG;have hM3:LR HG D3 M3:=#[eD3,λx hx=>hLG.2 x (mL x hx)]
 exists[E1,E2,x1,x2,x3,x4,x5],xz hM3 hMG rfl;refine#[_,rfl,E1,E2,x1,x2,x3,x4,?_];rw[x5];exact hq _
def qv{k:Nat}{sp:Sp}(h:∀vs H Q E,¬sp vs H Q E):↑FnOk CX0 k f fd ps sp:=#[λ_ _ _ _ z=>absurd z (h _ _ _ _),λ_ _ _ _ _ _ _ _ _ _ _ _ _ z=>absurd z (h _ _ _ _)]
def B7{st:Stmt}(a:W.nsIn K mainGlobals x=some (some (.ref f)))(F:Fun K x q st f fd)(t:W.tabIn K x=some (c,T)):fd.code=.ref c:=by exists[oc,od,kV,dc,pm,an,cd,ct,sl,rfl,l0,c0],id F.ex;exact Dz a l0 t
end
def tS:Nat->(LM->Prop)->Prop
 |0,p=>p []
 |n+1,p=>∀a,tS n λus=>p (a::us)
theorem lV:∀{n:Nat} {p:LM->Prop},tS n p->∀us:LM,us.length=n->p us
 |0,_,h,[],_=>h
 |_+1,_,h,a::us,e=>lV (h a) us (Nat.succ.inj e)
section
variable{P:LQ}{w:LU}{K:W.Frag}{mg:LL}{base h:Heap}{n m q:Str}{st:Stmt}{C f:LN}{k:Nat}
structure Bx(P:LQ)(w:LU)(K:W.Frag)(mg:LL)(base h:Heap):Prop where
 X:K.In h
 G:h.Ns mainGlobals mg
def A1(K:W.Frag)(n:Str)(st:Stmt)(f:LN):Prop:=W.nsIn K mainGlobals n=some (some (.ref f))/\∃fd,Fun K n n st f fd
def A2(K:W.Frag)(C:LN)(m q:Str)(st:Stmt)(f:LN):Prop:=W.findIn K (.ref C) m=some (some (.ref f))/\W.isFn K (.ref f)=true/\∃fd,Fun K m q st f fd
def AF(K:W.Frag):List (Str×Stmt×LN)->Prop
 | []=>True
 |(n,st,f)::l=>A1 K n st f/\AF K l
def AM(K:W.Frag):List (LN×Str×Str×Stmt×LN)->Prop
 | []=>True
 |(C,m,q,st,f)::l=>A2 K C m q st f/\AM K l
def AN(p:Str->Prop):List Str->Prop
 | []=>True
 |n::l=>p n/\AN p l
theorem anI{p p':Str->Prop}(i:∀{n},p n->p' n):∀{l:List Str},AN p l->AN p' l
 | [],_=>True.intro
 |_::_,h=>#[i h.1,anI i h.2]
def gf{oc kV dc pm cd ct:LP}(a:W.nsIn K mainGlobals n=some (some (.ref f)))(b:K.lookup f=some #[oc,od,.func (W.fnOf n n (dC st) (bK st) (aj st) .none kV dc pm an cd ct),sl])(c:W.codeIn K cd n=true)(d:W.keepIn K (.ref f)=true)(r:AF K l):AF K ((n,st,f)::l):=#[#[a,_,Ak b c d],r]
def gm{oc kV dc pm cd ct:LP}(a:W.findIn K (.ref C) m=some (some (.ref f)))(i:W.isFn K (.ref f)=true)(b:K.lookup f=some #[oc,od,.func (W.fnOf m q (dC st) (bK st) (aj st) .none kV dc pm an cd ct),sl])(c:W.codeIn K cd q=true)(d:W.keepIn K (.ref f)=true)(r:AM K l):AM K ((C,m,q,st,f)::l):=#[#[a,i,_,Ak b c d],r]
def gn(a:W.nsIn K mainGlobals n=some none)(r:AN (λn=>W.nsIn K mainGlobals n=some none) l):AN (λn=>W.nsIn K mainGlobals n=some none) (n::l):=#[a,r]
def mkF(B:↑Bx h)(A:A1 K n st f)(ok:∀{fd},Fun K n n st f fd->FnOk P w K mg base CX0 k f fd ps sp)(hb:∀(kV doc pm:LP) (an:Option LN) (cdv ct:LP),tS ps.length λus=>bindArgs (W.fnOf n n (dC st) (bK st) (aj st) .none kV doc pm an cdv ct) #[us,[]]=pure (ps.zip us):=by(repeat intro _);rfl):↑Fn k n ps sp:=by exists[a,fd,F],A;exact#[f,fd,ok F,ZW B.X B.G a,F.kp,F.binds λa b c d e g=>lV (hb a b c d e g)]
def mkM(B:↑Bx h)(L:Cls K C)(A:A2 K C m q st f)(ok:∀{fd},Fun K m q st f fd->FnOk P w K mg base CX0 k f fd ps sp)(hb:∀(kV doc pm:LP) (an:Option LN) (cdv ct:LP),tS ps.length λus=>bindArgs (W.fnOf m q (dC st) (bK st) (aj st) .none kV doc pm an cdv ct) #[us,[]]=pure (ps.zip us):=by(repeat intro _);rfl):↑MFn k C m ps sp:=by exists[a,i,fd,F],A;exact#[L,f,fd,ok F,#[a,i,F.kp],F.binds λa b c d e g=>lV (hb a b c d e g)]
def mkC(B:↑Bx h)(L:Cls K C)(g:mg x=some (.ref C))(mk:W.makesIn K C=true)(kc:W.keepIn K (.ref C)=true)(A:A2 K C "__init__" q st f)(ok:∀{fd},Fun K "__init__" q st f fd->FnOk P w K mg base CX0 k f fd ps sp)(hb:∀(kV doc pm:LP) (an:Option LN) (cdv ct:LP),tS ps.length λus=>bindArgs (W.fnOf "__init__" q (dC st) (bK st) (aj st) .none kV doc pm an cdv ct) #[us,[]]=pure (ps.zip us):=by(repeat intro _);rfl):↑MkFn k C x ps sp:=by exists[a,i,fd,F],A;exact#[L,g,f,fd,ok F,#[mk,a,i,kc],F.binds λa b c d e g=>lV (hb a b c d e g)]
end
def Gs{l:W.OpenLaw}{w:LU}{K:W.Frag}(X:K.In h)(G:h.Ns mainGlobals mg)(hfa:mg "law" = some (.ref fa))(KO:W.nsIn K mainGlobals "Reader" = some (some (.ref C_Reader)))(KB:W.plainGet K C_Reader Str.empty=true)(KC:W.hasDictIn K C_Reader=true)(KD:W.plainOver K C_Reader=true)(KE:W.findIn K (.ref C_Reader) "__setattr__" = some (some (.builtin "object.__setattr__")))(KF:W.makesIn K C_Reader=true)(KG:W.keepIn K (.ref C_Reader)=true)(r9:W.findIn K (.ref C_Reader) "words" = some none)(u9:W.findIn K (.ref C_Reader) "spot" = some none)(KL:W.nsIn K mainGlobals "Plain" = some (some (.ref C_Plain)))(KP:W.plainGet K C_Plain Str.empty=true)(KQ:W.hasDictIn K C_Plain=true)(KR:W.plainOver K C_Plain=true)(KS:W.findIn K (.ref C_Plain) "__setattr__" = some (some (.builtin "object.__setattr__")))(KU:W.makesIn K C_Plain=true)(KY:W.keepIn K (.ref C_Plain)=true)(Kf:W.findIn K (.ref C_Plain) "held" = some none)(Kg:W.findIn K (.ref C_Plain) "away" = some none)(zF:AF K (("is_figures",hW,f1)::("is_item_word",fO,f2)::("item_in",lG,f3)::("may_follow",hX,f4)::("read_following",eS,f5)::("alone_or",jR,f6)::("read_plain",hZ,f7)::("read_one",jT,f8)::("read_each",iP,f9)::("read_some",iQ,f10)::("read_question",fh,f11)::("is_leaf",lF,f12)::("are_under",dE,f13)::("fits_alone",hV,f14)::("truths_at",iR,f15)::("fitting",iB,f16)::("sort_value",ic,f17)::("asked",jg,f18)::("step_parts",ie,f19)::("_law_cell_at",lC,f20)::("_law_atom",vD,f21)::("_law_deep",vE,f22)::("_law_grown",qR,f23)::("_law_tree",vH,f24)::("_law_line",vG,f25)::("_law_inner",qS,f26)::("_law_planted",lH,f27)::("_law_above",qP,f28)::("_law_alone",qQ,f29)::("_law_fits",vF,f30)::("_law_key",yT,f31)::("_law_follows",lE,f32)::("law",mO,f33)::[]))(zM:AM K ((C_Reader,"__init__","Reader.__init__",gw,m1)::(C_Reader,"is_through","Reader.is_through",dH,m2)::(C_Reader,"here","Reader.here",gq,m3)::(C_Reader,"go_on","Reader.go_on",fM,m4)::(C_Reader,"passes","Reader.passes",fg,m5)::(C_Plain,"__init__","Plain.__init__",gZ,m6)::(C_Plain,"bring_in","Plain.bring_in",eQ,m7)::(C_Plain,"change","Plain.change",fL,m8)::(C_Plain,"check_names","Plain.check_names",dF,m9)::(C_Plain,"at_or_beneath","Plain.at_or_beneath",je,m10)::(C_Plain,"check_bounds","Plain.check_bounds",dv,m11)::(C_Plain,"step","Plain.step",hU,m12)::(C_Plain,"sorted_names","Plain.sorted_names",cz,m13)::(C_Plain,"lower_names","Plain.lower_names",dG,m14)::(C_Plain,"rows","Plain.rows",hJ,m15)::[]))(zN:AN (λn=>W.nsIn K mainGlobals n=some none) ("isinstance"::"int"::"str"::"tuple"::"len"::"all"::"any"::"max"::"range"::"zip"::"list"::"reversed"::"sorted"::"enumerate"::[]))(t0:W.nsIn K mainGlobals "MOST_FIGURES" = some (some (.int 60 Lp)))(KH:W.nsIn K mainGlobals "FIGURES" = some (some (.str FIG Lw)))(Kn:W.nsIn K mainGlobals "MOST_DEEP" = some (some (.int 12 Lu)))(K7:W.nsIn K mainGlobals "DEPTH" = some (some (.int 0 Lz)))(Ld:W.nsIn K mainGlobals "NAME" = some (some (.int 1 LB)))(t7:W.nsIn K mainGlobals "TEXT_answers" = some (some (.int 2 Lq)))(Le:W.nsIn K mainGlobals "DONE" = some (some (.int 3 LC)))(Lf:W.nsIn K mainGlobals "WHOM" = some (some (.int 4 LD)))(KZ:W.nsIn K mainGlobals "FOLDED" = some (some (.int 5 Ly)))(Kh:W.nsIn K mainGlobals "TEXT_plain" = some (some (.int 2 Ls)))(Lm:W.nsIn K mainGlobals "UP" = some (some (.int 0 LG)))(K8:W.nsIn K mainGlobals "PLACE" = some (some (.int 1 LA)))(Ko:W.nsIn K mainGlobals "FOLLOWING" = some (some (.ref KI)))(t_FOLLOWING:PyProof.Rows.KTD.tabLook (jn K) (λb=>K.lookup b) KI FT=true)(Ki:W.nsIn K mainGlobals "STEP_PARTS" = some (some (.ref Ku)))(t_STEP_PARTS:PyProof.Rows.KTD.tabLook (jn K) (λb=>K.lookup b) Ku ST=true)(n8:W.nsIn K mainGlobals "FIRST_CHANGED" = some (some (.ref Kj)))(t_FIRST_CHANGED:PyProof.Rows.KTD.tabLook (jn K) (λb=>K.lookup b) Kj FC=true)(dg:W.nsIn K cStatics "sys.int_max_str_digits" = some none)(Lg:W.nsIn K mainGlobals "KEYS" = some (some (.ref Lk)))(t_KEYS:∃(o:Obj) (its:Array LP) (n:Nat),K.lookup Lk=some o/\o.cls=.type "tuple"/\o.data=.seq its n/\its.size<=sizeLine/\Vals (cS.map V.str) its.toList)(tb1:W.tabIn K "asked" = some (c1,T1))(tb2:L2.lO K "Plain" "sorted_names" = some (c2,T2)):∃fd:LW,(∀(s:LO) (v:LP),BindsTo s fd #[[v],[]] [("_law_script",v)])/\∀base:Heap,K.In base->base.Ns mainGlobals mg->Blt base mg->W.CodeHd base c1 T1->W.CodeHd base c2 T2->FnOk l.prog w K mg base CX0 131 fa fd ["_law_script"] (sY K T1 T2):=by
 obtain⟨Af1,Af2,Af3,Af4,Af5,Af6,Af7,Af8,Af9,Af10,Af11,Af12,Af13,Af14,Af15,Af16,Af17,Af18,Af19,Af20,Af21,Af22,Af23,Af24,Af25,Af26,Af27,Af28,Af29,Af30,Af31,Af32,⟨a0,_,F0⟩,_⟩:=zF;exists[Am1,Am2,Am3,Am4,Am5,Am6,Am7,Am8,Am9,Am10,Am11,Am12,Am13,Am14,Am15,_],zM;exists[Ke,i6,K0,j8,a8,k7,v8,KJ,g8,u6,l8,j4,i5,Km,_],anI (p':=λn=>mg n=none) (λz=>W.mg_none_of X G z) zN;have e:=hfa.symm.trans (ZW X G a0);cases e;exists[oc,od,kV,dc,pm,an,cd,ct,sl,rfl,l0,c0],id F0.ex;have n9:=ZW X G t0;have Kv:=ZW X G KH;have u5:=ZW X G Kn;have c8:=ZW X G K7;have Kp:=ZW X G Ld;have d6:=ZW X G t7;have Lb:=ZW X G Le;have l7:=ZW X G Lf;have j3:=ZW X G KZ;have j1:=ZW X G Kh;have Ll:=ZW X G Lm;have Kq:=ZW X G K8;have u4:=ZW X G Ko;have Ka:=ZW X G Ki;have l9:=ZW X G n8;have Ln:=ZW X G KO;have t9:Cls K C_Reader:=#[KB,KC,KD,KE]
 have Kt:Txt K C_Reader:=#[t9,r9,u9]
 have Lr:=ZW X G KL;have j2:Cls K C_Plain:=#[KP,KQ,KR,KS]
 have a9:TxP K C_Plain:=#[j2,Kf,Kg]
 have Li:Tab K KI FT:=#[t_FOLLOWING]
 have Lh:Tab K Ku ST:=#[t_STEP_PARTS]
 have K4:Tab K Kj FC:=#[t_FIRST_CHANGED]
 have La:=ZW X G Lg;have hK:∀H,SqT K H Lk (cS.map V.str):=λ_=>.inr t_KEYS;refine#[W.fnOf "law" "law" (dC mO) (bK mO) (aj mO) .none kV dc pm an cd ct,λs v=>.of_eq rfl,λbase _ _ Bl C1 C2=>?_];have B:Bx l.prog w K mg base h:=#[X,G]
 have i4:=mkF B Af1 λF=>sw F a8 k7 n9 Kv;have pi:=mkF B Af2 λF=>pJ F i4 a8;have Kw:=mkF B Af3 λF=>yH F i6;have v9:=mkF B Af4 λF=>sA F i4 pi;have k8:=mkF B Af5 λF=>mT F Kw i6;have i7:=mkF B Af6 λF=>wm F a8 j8;have Kx:=mkC B t9 Ln KF KG Am1 λF=>qH F Kt;have i8:=mkM B t9 Am2 λF=>jO F Kt a8;have i9:=mkM B t9 Am3 λF=>qG F Kt i8;have e8:=mkM B t9 Am4 λF=>pI F Kt;have c7:=mkM B t9 Am5 λF=>oj F i9 e8;have J9:=mkF B Af7 λF=>sB F v9 k8 i9 e8 u4 Li;have RO_:∀n,Fn l.prog w K mg base (3*n+3) "read_one" ["reader","depth"] (spR C_Reader (RO n)):=λn=>by
  induction n with
  |zero=>exact mkF B Af8 λ_=>qv λ_ _ _ _ z=>by exists[_,_,_,_,_,_,_,_,_,z,_],z;exact z
  |succ n ih =>have e1:=mkF B Af9 λF=>kX (k:=3*n+3) ∅ F ih c7 i7;have e2:=mkF B Af10 λF=>kY (k:=3*n+4) ∅ F e1 c7 i7;exact mkF B Af8 λF=>wv (k:=3*n+3) ∅ F ih e2 J9 c7 i9 e8 u5
 have u0:=mkF B Af9 λF=>kX (k:=42) ∅ F (RO_ 13) c7 i7;have j9:=mkF B Af10 λF=>kY (k:=43) ∅ F u0 c7 i7;have j6:=mkF B Af11 λF=>om (k:=44) ∅ F Kx j9 c7 i9 e8 i8 La hK;have k9:=mkF B Af12 λF=>yG F a8 c8;have d8:=mkF B Af13 λF=>vc F u6 c8;have j0:=mkF B Af14 λF=>sv F c8 d6 Lb l7 j3;have d9:=mkF B Af15 λF=>vd F;have FT_:∀n,Fn l.prog w K mg base (2*n+3) "fitting" ["condition","rows"] (pX n):=λn=>by
  induction n with
  |zero=>exact mkF B Af16 λF=>wn F k9 d8 j0 d9 (mkF (k:=1) (ps:=["condition","rows"]) (sp:=qX) B Af16 λ_=>ux) a8 g8 v8 k7 Kp j3
  |succ n ih=>exact mkF B Af16 λF=>wq (k:=2*n+3) ∅ F k9 d8 j0 d9 ih a8 g8 v8 k7 Kp j3
 have d7:=FT_ 63;have j7:=mkF B Af17 λF=>sF F a8 c8 d6 l7;have KK:=mkF B Af18 λF=>CC F (B7 Af18.1 F tb1) C1 Bl d7 j7 u6 l8 j4 i5;have Kb:=mkF B Af19 λF=>sH F Ka Lh;have KN:=mkC B j2 Lr KU KY Am6 λF=>sq F a9;have Ks:=mkM B j2 Am7 λF=>mS F a9;have KM:=mkM B j2 Am8 λF=>pH F a9 a8;have u7:=mkM B j2 Am9 λF=>jM F a9 Kb u6;have j5:=mkM (k:=1) (ps:=["self","one","other"]) B j2 Am10 λ_=>ux;have q9:=mkM B j2 Am11 λF=>jb F j5 j1 a8;have Kd:=mkM B j2 Am12 λF=>ss F a9 u7 q9 Ks KM l9 K4;have r6:=mkM B j2 Am13 λF=>jc F (Aj KL Am13.1 F tb2) C2 Bl a9 Kq i5;have u8:=mkM B j2 Am14 λF=>jN F a9 r6 Ll;have K3:=mkM B j2 Am15 λF=>sr F a9 u8 j1 j4 a8;have Kl:=mkF B Af20 λF=>yE F a8;have Kr:=mkF B Af21 λF=>E8 F a8 i6;have K1:=mkF B Af22 λF=>E9 F;have K5:=mkF B Af23 λF=>CD F K1 Kr a8 KJ j8;have Lc:=mkF B Af24 λF=>Fc F K5 Kr a8 j8;have LN_:∀n,Fn l.prog w K mg base (2*n+1) "_law_line" ["_law_condition"] (spWC n):=λn=>by
  induction n with
  |zero=>exact mkF B Af25 λ_=>qv λ_ _ _ _ z=>by exists[_,_,_,_,_,z,_],z;cases z
  |succ n ih=>exact mkF B Af25 λF=>Fb (k:=2*n+2) ∅ F (mkF B Af26 λF=>CG F ih) dg K0 a8
 have Ky:=LN_ 63;have Kz:=mkF B Af27 λF=>yI F Kd Km l8 a8 KJ i6;have l5:=mkF B Af28 λF=>CA F;have K6:=mkF B Af29 λF=>CB F l5 a8;have LF_:∀n,Fn l.prog w K mg base (n+3) "_law_fits" ["_law_condition","_law_name","_law_mine","_law_left"] (spLFits n):=λn=>by
  induction n with
  |zero=>exact mkF B Af30 λ_=>qv λ_ _ _ _ z=>by exists[_,_,_,_,_,_,_,_,_,_,_,_,_,g,_],z;cases g
  |succ n ih=>exact mkF B Af30 λF=>Fa (k:=n+3) ∅ F ih K6 k7 v8
 have Kc:=LF_ 63;have K9:=mkF B Af31 λF=>Hh F a8;have KA:=mkF B Af32 λF=>yF F K9;exact Hi F0 Kl Lc Ky j6 KK Kz l5 Kc KA KN K3 Ke l8 i5 a8 g8 i6
def J8{l:W.OpenLaw}{XP:(LL)->Heap->Prop}{YP:LU->Heap->Prop}{d:DefRec}{K:Params->W.Frag}(hn:l.most=some 63)(hdf:d.params.defaults=[])(hY:∀ (w:LU) (h:Heap),YP w h->(K w.params).In h)(tb0:∀ w:LU,(W.tabIn (K w.params) "asked")=some (c1,T1))(ht0:∀ (w:LU) (h:Heap),YP w h->W.CodeHd h c1 T1/\h.get? T1=some (W.tabObj #[]))(tb1:∀ w:LU,(L2.lO (K w.params) "Plain" "sorted_names")=some (c2,T2))(ht1:∀ (w:LU) (h:Heap),YP w h->W.CodeHd h c2 T2/\h.get? T2=some (W.tabObj #[]))(nT:T1≠T2)(nt:∀ w:LU,W.noTabs (K w.params)=true)(F:∀ (w:LU) (mg:LL) (fa:LN) (h:Heap),(K w.params).In h->h.Ns mainGlobals mg->mg d.name=some (.ref fa) ->
   ∃ fd:LW,(∀ (s:LO) (u:LP),BindsTo s fd #[[u],[]] [("_law_script",u)])/\∀ base:Heap,(K w.params).In base->base.Ns mainGlobals mg->Blt base mg->W.CodeHd base c1 T1->W.CodeHd base c2 T2->FnOk l.prog w (K w.params) mg base CX0 131 fa fd ["_law_script"] (sY (K w.params) T1 T2)):
  W.WalkO q loose XP YP l.row.toRowW d [] (λf vs=>PySem.call f vs) :=
 L2.zo (n:=63) (k:=131) (x:="_law_script") (tabs:=λ_=>[(c1,T1),(c2,T2)]) (sp:=λw=>sY (K w.params) T1 T2) hn ⋯ hdf #[rfl,⋯,⋯] hY (λw h y t htm=>by
   rcases Zf.mp htm with rfl|htm
   ·exact ht0 w h y
   ·rw[Zj.mp htm];exact ht1 w h y) nt
  (λw mg fa h k g e=>let⟨fd,b,r⟩:=F w mg fa h k g e;#[fd,b,λbase k2 g2 bl cs=>r base k2 g2 bl (cs _ (.head _)) (cs _ (.tail _ (.head _)))]) (λw H a ns hl hT hS=>#[a,ns,rfl,hS,hl,hT _ (.head _),hT _ (.tail _ (.head _)),nT,λ_=>rfl])
end K55
end
namespace PySem.W.Fast
def tw3359511091101480736:=()
def tw3692325860839763161:=()
def tw14657817174714810366:=()
def tw1050620361420333635:=()
def tw9723925885695776852:=()
def tw6568485853542372080:=()
def tw12879165784995018360:=()
def tw2943437127015701534:=()
def tw6333852536435741205:=()
def tw11890737752992237209:=()
def tw2197526455977841733:=()
def tw12014968019973560977:=()
def tw11995091428866004622:=()
def tw17944115929113645338:=()
def tw10420614264907120811:=()
def tw6010843340399658316:=()
def tw13777014916097657840:=()
def tw6025811366765388178:=()
def tw4308849965652732201:=()
def tw3704998911557512751:=()
def tw3248622920731794828:=()
def tw245845051117236619:=()
def tw9017110810948524165:=()
def tw11194663834112854638:=()
def tw15091155669558543269:=()
def tw3270948135154958397:=()
def tw5202161518321909151:=()
def tw3561491437895423578:=()
def tw4602368031012654772:=()
def tw7682903219027328843:=()
def tw7515641842686780914:=()
def tw12257995126203548583:=()
def tw5851136260662600142:=()
def tw11834399257908212712:=()
def tw6065144650177729430:=()
def tw14382524879663360291:=()
def tw12474244258444968595:=()
def tw17401401077871646117:=()
def tw8347325361762245512:=()
def tw11127518917536178192:=()
def tw4192248158964482547:=()
def tw10528394597624505589:=()
def tw3683388331145260667:=()
def tw5740322078845276592:=()
def tw14723225602465657363:=()
def tw15105462723347168746:=()
def tw6169865132797049828:=()
def tw18288171614908315211:=()
def tw13216816205546154929:=()
def tw3153625576281468232:=()
def tw8847970271857493399:=()
def tw1463733036861627586:=()
def tw6045751009166722285:=()
def tw11585028618213491763:=()
def tw13966532504415404326:=()
def tw6426966804223539610:=()
def tw11090426506886944084:=()
def tw7622297702509809519:=()
def tw11512041334987134565:=()
def tw5280050088882855605:=()
def tw16172787823963345546:=()
def tw5388800975325297445:=()
def tw4912739329296693861:=()
def tw12929775311324043556:=()
def tw1910167580460889977:=()
def tw17108207378238696533:=()
def tw1383330296829889924:=()
def tw11379930613987141066:=()
def tw10571223611400408580:=()
def tw12985039609262588789:=()
def tw9124572665546713609:=()
def tw3141732814786639366:=()
def tw15809827008360719429:=()
def tw11157661683564751004:=()
def tw6019567276859063962:=()
def tw5119027769641068101:=()
def tw18372520969731326486:=()
def tw13871731185117861606:=()
def tw17878614444389066549:=()
def tw6458866819384568592:=()
def tw1611743528530203572:=()
def tw16950161659388056456:=()
def tw6256875572248292558:=()
def tw15493554783501579860:=()
def tw11182059465482504840:=()
def tw5608634416076069945:=()
def tw16453441518162489878:=()
def tw10540015354153369098:=()
def tw8455548150792962767:=()
def tw15166834074334564849:=()
def tw2968720578841528367:=()
def tw10729222503412075045:=()
def tw16837446037635892555:=()
def tw15743963805911565196:=()
def tw8767997081871636282:=()
def tw12475214679392944118:=()
def tw7951351175767582374:=()
def tw692550309187993383:=()
def tw7504452112491176816:=()
def tw8622795524867971530:=()
def tw3227781508924675524:=()
def tw1609729236542866868:=()
def tw770254322734652518:=()
def tw2186660656407401159:=()
def tw6612707377851523465:=()
def tw7971519689477815906:=()
def tw7241295483761040870:=()
def tw6778096478048558167:=()
def tw14253076418096238642:=()
def tw5237536316072572181:=()
def tw17221610870588078052:=()
def tw13256436397805516259:=()
def tw7334480030228327132:=()
def tw9108111807572883488:=()
def tw5963950855818208588:=()
def tw3236881303957649669:=()
def tw4797350950488432905:=()
def tw8634995400418434732:=()
def tw8713995855733131863:=()
def tw3943280907621880840:=()
def tw11566731876554703770:=()
def tw10558029387496113220:=()
def tw10391626874490686524:=()
def tw3561126089583305637:=()
def tw17499272516800172351:=()
def tw13860891796809728:=()
def tw2565978218507233439:=()
def tw13117832379946311333:=()
def tw16945405360491542726:=()
def tw11013719210760740671:=()
def tw14411746933393604717:=()
def tw17993356038845703734:=()
def tw3729955005501773959:=()
def tw2118021779356042173:=()
def tw8584862578470536397:=()
def tw18338441455514008548:=()
def tw15368050741042444334:=()
def tw4856826561407301895:=()
def tw2001969907190786838:=()
def tw8480173492033604411:=()
def tw13078801992485029270:=()
def tw5986360174987675371:=()
def tw13854690727140128097:=()
def tw11789400449180299155:=()
def tw5103483170488568224:=()
def tw8525337950392962662:=()
def tw10222417839010655593:=()
def tw13668865047750957224:=()
def tw10378082037869691849:=()
def tw2936525981706565545:=()
end PySem.W.Fast
open PySem PySem.W PyProof.Rows
set_option maxRecDepth 100000 in
set_option maxHeartbeats 0 in
theorem PySem.Challenge.cw_limb_k55_whole_asked_holds : PySem.Challenge.rw_limb_k55_whole_asked.Holds := by
  w_on; o_law; k_head; (case hw => w_witness2)
  k_fill
  refine' K55.J8 (l := PySem.Challenge.rw_limb_k55_whole_asked) rfl rfl (λw h Y => W.km_in_of Y) ?tb0 ?ht0 ?tb1 ?ht1 ?nT ?nt ?F
  case tb0 => intro w; with_unfolding_all rfl
  case ht0 => intro w h Y; exact ⟨codeHd_of_K (km_in_of Y) (by kernel_rfl), km_tabs_of Y _ (by k_mem)⟩
  case tb1 => intro w; with_unfolding_all rfl
  case ht1 => intro w h Y; exact ⟨codeHd_of_K (km_in_of Y) (by kernel_rfl), km_tabs_of Y _ (by k_mem)⟩
  case nT => decide
  case nt => intro w; kernel_rfl
  case F =>
    intro w mg fa h KX G hmg
    refine' K55.Gs KX G hmg ?KO ?KB ?KC ?KD ?KE ?KF ?KG ?r9 ?u9 ?KL ?KP ?KQ ?KR ?KS ?KU ?KY ?Kf ?Kg ?zF ?zM ?zN ?t0 ?KH ?Kn ?K7 ?Ld ?t7 ?Le ?Lf ?KZ ?Kh ?Lm ?K8 ?Ko ?t_FOLLOWING ?Ki ?t_STEP_PARTS ?n8 ?t_FIRST_CHANGED ?dg ?Lg ?t_KEYS ?tb1 ?tb2
    (case KO => k_is)
    (case KB => k_is)
    (case KC => k_is)
    (case KD => k_is)
    (case KE => k_is)
    (case KF => k_is)
    (case KG => k_is)
    (case r9 => k_is)
    (case u9 => k_is)
    (case KL => k_is)
    (case KP => k_is)
    (case KQ => k_is)
    (case KR => k_is)
    (case KS => k_is)
    (case KU => k_is)
    (case KY => k_is)
    (case Kf => k_is)
    (case Kg => k_is)
    (case zF => (repeat refine K55.gf (by k_is) (by k_is) (by k_is) (by k_is) ?_); exact True.intro)
    (case zM => (repeat refine K55.gm (by k_is) (by k_is) (by k_is) (by k_is) (by k_is) ?_); exact True.intro)
    (case zN => (repeat refine K55.gn (by k_is) ?_); exact True.intro)
    (case t0 => k_is)
    (case KH => k_is)
    (case Kn => k_is)
    (case K7 => k_is)
    (case Ld => k_is)
    (case t7 => k_is)
    (case Le => k_is)
    (case Lf => k_is)
    (case KZ => k_is)
    (case Kh => k_is)
    (case Lm => k_is)
    (case K8 => k_is)
    (case Ko => k_is)
    (case t_FOLLOWING => rfl)
    (case Ki => k_is)
    (case t_STEP_PARTS => rfl)
    (case n8 => k_is)
    (case t_FIRST_CHANGED => rfl)
    (case dg => k_is)
    (case Lg => k_is)
    (case t_KEYS => exact ⟨_, _, _, rfl, rfl, rfl, by decide, .cons ⟨_, rfl⟩ (.cons ⟨_, rfl⟩ (.cons ⟨_, rfl⟩ (.cons ⟨_, rfl⟩ (.cons ⟨_, rfl⟩ .nil))))⟩)
    (case tb1 => with_unfolding_all rfl)
    (case tb2 => with_unfolding_all rfl)
