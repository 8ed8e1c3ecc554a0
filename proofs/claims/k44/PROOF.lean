import PyProof.Rows.All
import Wide.All
import OpenK.AllK
import Wide.FinOn
import PyProof.EqAt
import PyProof.EqKinds
import PyProof.TupleCall
import Lean
import PySem.Challenge.RW_limb_k44_undone_and_done_again
def MO:=@if_pos
def MN:=@if_neg
def z0:=@PySem.wpAny_bind
def z6:=@PySem.Heap.get?_push_of_some
def z9:=@PySem.wpAny_pure
def Za:=@Nat.le_refl
def Zb:=@List.length_map
def Zd:=@List.mem_singleton
def Ze:=@PySem.Heap.get?_push_size
def Zf:=@List.size_toArray
def Zg:=@Bool.false_ne_true
def Zh:=@PySem.Heap.lt_size
def Zi:=@List.getElem?_eq_some_iff
def Zj:=@List.getElem?_eq_getElem
def Zk:=@List.length_append
def Zl:=@List.mem_cons
def Zm:=@List.mem_map
def Zn:=@Option.some.inj
def Zo:=@Nat.ne_of_lt
def Zq:=@Nat.le_trans
def Zr:=@List.mem_append_right
def Zs:=@List.mem_append
def Zt:=@Nat.lt_of_lt_of_le
def Zu:=@List.length_cons
def Zv:=@List.mem_of_getElem?
def Zw:=@Bool.and_eq_true
def Zx:=@List.mem_filter
def Zy:=@List.map_append
def Zz:=@PySem.Heap.get?_update_other
def ZA:=@PySem.wpAny_callSpecial?_slot
def ZB:=@List.not_mem_nil
def ZC:=@Array.length_toList
def ZD:=@PySem.wpAny_newObj_type
def ZE:=@List.getElem?_map
def ZF:=@PySem.wpAny_holding
def ZG:=@List.mem_cons_of_mem
def ZH:=@PySem.Paired.length
def ZI:=@PySem.F.plain_max_loop
def ZJ:=@Int.toNat_natCast
def ZK:=@PySem.wpAny_call_entry
def ZL:=@PySem.wpAny_mono
def ZM:=@of_decide_eq_true
def ZN:=@List.lookup_cons
def ZO:=@PySem.wpAny_field
def ZP:=@List.length_take
def ZQ:=@List.take_length
def ZR:=@List.getElem_mem
def ZS:=@PySem.PassesOwn.never
def ZT:=@PySem.Heap.SameBut.update
def ZU:=@Nat.zero_le
def ZV:=@List.getElem?_append_right
def ZW:=@PySem.W.mg_of
def ZX:=@PySem.wpAny_truthy_bool
def ZY:=@Nat.ne_of_gt
def ZZ:=@PySem.Heap.get?_update_self
def Z0:=@PySem.boot_len
def Z1:=@List.map_cons
def Z2:=@Ne.symm
def Z3:=@List.mem_append_left
def Z4:=@PySem.Obj.data_mapFields
def Z5:=@List.length_filter_le
def Z6:=@beq_iff_eq
def Z7:=@List.pairwise_iff_getElem
def Z8:=@PySem.wpAny_seqItems
def Z9:=@Array.getD_eq_getD_getElem?
def y0:=@List.length_singleton
def y7:=@List.getD_eq_getElem?_getD
def y8:=@Nat.succ_le_succ
def y9:=@List.getElem?_append_left
def Ya:=@PySem.Around.under_plainId
def Yb:=@List.mem_iff_getElem
def Yc:=@List.filter_append
def Yd:=@List.take_of_length_le
def Ye:=@List.all_eq_true
def Yf:=@PyProof.Rows.slot_tuple_getitem
def Yg:=@or_false
def Yh:=@PySem.Heap.size_push
def Yi:=@PySem.wpAny_tryCatch
def Yj:=@PySem.Heap.get?_none_of_le
def Yk:=@PySem.F.slot_dict_valueiterator_next
def Yl:=@PySem.mem_of_lookup
def Ym:=@PySem.F.slot_dict_keyiterator_next
def Yn:=@Nat.le_succ_of_le
def Yo:=@PySem.wpAny_setField
def Yp:=@Nat.lt_or_ge
def Yq:=@PySem.W.kia_one
def Yr:=@List.append_nil
def Ys:=@List.mem_cons_self
def Yt:=@PyProof.Rows.callWith_type1
def Yu:=@Bool.false_eq_true
def Yv:=@List.filter_cons
def Yw:=@congrArg
def Yx:=@List.length_set
def Yy:=@PySem.codeAny_builtin
def Yz:=@PySem.Obj.isFreed_of_fields
def YA:=@PySem.wpAny_Call_Name_kw
def YB:=@Option.isSome_iff_exists
def YC:=@List.length_drop
def YD:=@Nat.lt_irrefl
def YE:=@PySem.wpAny_attempt
def YF:=@PySem.plainId_quiet
def YG:=@List.take_sublist
def YH:=@PySem.wpAny_dictEntries
def YI:=@beq_eq_false_iff_ne
def YJ:=@Option.map_eq_some_iff
def YK:=@PySem.wpAny_letGo
def YL:=@PySem.F.entry_max_loop
def YM:=@List.all_cons
def YN:=@List.sum_cons
def YO:=@if_false
def YQ:=@PySem.F.slot_tuple_iterator_next
def YR:=@Array.getElem?_toList
def YS:=@Int.emod_lt_of_pos
def YT:=@PySem.F.slot_zip_next
def YU:=@PySem.AutoSeq1.wpAny_loadPart'
def YV:=@Nat.min_eq_left
def YW:=@PySem.wpAny_pyIter_list
def YX:=@PySem.wpAny_loadPart_at
def YY:=@Bool.eq_false_iff
def YZ:=@PySem.wpAny_typeNameOfWhole_keyiter
def Y0:=@PySem.wpAny_typeNameOfWhole_valiter
def Y1:=@List.eq_nil_of_length_eq_zero
def Y2:=@List.mem_range
def Y3:=@PySem.wpAny_isInstance
def Y4:=@PySem.wpAny_rule
def Y5:=@PySem.wpAny_of_eq
def Y6:=@Nat.le_of_lt
def Y7:=@PySem.wpAny_pyIter_tuple
def Y8:=@List.mem_filterMap
def Y9:=@List.contains_cons
def x4:=@List.map_map
def x5:=@List.length_replicate
def x6:=@List.filter_nil
def x8:=@Int.emod_nonneg
def x9:=@List.take_add_one
set_option Elab.async false
set_option linter.all false
set_option maxRecDepth 100000
set_option maxHeartbeats 2000000
local macro_rules | `(tactic| omega) => `(tactic| first | with_reducible first | assumption | exact Nat.le_of_lt (by assumption) | exact Nat.le_refl _ | exact Nat.lt_add_one _ | exact Nat.le_trans (by assumption) (by decide) | exact Nat.lt_of_lt_of_le (by assumption) (by decide) | exact Nat.sub_lt_sub_left (by assumption) (Nat.lt_add_one _) | exact Nat.le_antisymm (by assumption) (Nat.le_of_not_lt (by assumption)) | lia)
local macro_rules | `(tactic| decide) => `(tactic| decide +kernel)
abbrev MP:=List (PySem.Addr×PySem.Obj)
abbrev MQ:=PySem.Value->PySem.Shared->Prop
abbrev MR:=PySem.Str->Option PySem.Value
abbrev MT:=List PySem.Value
abbrev MU:=PySem.Addr
abbrev MV:=PySem.Shared
abbrev MW:=PySem.Value
abbrev MX:=PySem.Program
abbrev MY:=PySem.World
abbrev MZ:=PySem.Around
abbrev M0:=PySem.FuncData
abbrev M5:=List Int
abbrev M6:=Array Nat
abbrev M7:=Nat->Nat->Bool
abbrev M8:=PySem.Expr
section
set_option hygiene false
set_option linter.defProp false
local macro_rules | `(⋯) => `(by decide)
local macro_rules | `(∅) => `(by omega)
local macro_rules | `(#[$xs,*]) => do if xs.getElems.isEmpty then Lean.Macro.throwUnsupported else `(⟨$xs,*⟩)
local macro_rules | `(↑$x:ident) => `($x P w K mg base)
local macro_rules | `(↑$x:num) => `(q_v $x)
local macro_rules | `(↑99) => `((hr.mono (by decide)))
local macro_rules | `(~~~$x:num) => `(⟨rfl,rfl,rfl,by decide,rfl,by decide,by decide⟩)
local macro_rules | `(tactic| exists 0, $x) => `(tactic| refine F.okQ $x (fun vs H Q E h=>?_) (fun cdv A outer s H vs Q E hr h=>?_))
local macro_rules | `(tactic| exists $x) => `(tactic| (refine F.okQ $x (fun vs H Q E h=>?_) (fun cdv A outer s H vs Q E hr h=>?_);(first|(· obtain⟨_,rfl,_⟩:=h;rfl)|(· obtain⟨_,_,rfl,_⟩:=h;rfl)|(· obtain⟨_,_,_,rfl,_⟩:=h;rfl)|(· obtain⟨_,_,_,_,rfl,_⟩:=h;rfl)|(· obtain⟨_,_,_,_,_,rfl,_⟩:=h;rfl)|(· obtain⟨_,_,_,_,_,_,rfl,_⟩:=h;rfl)|(· obtain⟨_,_,_,_,_,_,_,rfl,_⟩:=h;rfl)|(· obtain⟨_,_,_,_,_,_,_,_,rfl,_⟩:=h;rfl)|(· obtain⟨_,_,_,_,_,_,_,_,_,rfl,_⟩:=h;rfl)|(· obtain⟨_,_,_,_,_,_,_,_,_,_,rfl,_⟩:=h;rfl)|(· obtain⟨_,_,_,_,_,_,_,_,_,_,_,rfl,_⟩:=h;rfl)|(· obtain⟨_,_,_,_,_,_,_,_,_,_,_,_,rfl,_⟩:=h;rfl)|(· obtain⟨_,_,_,_,_,_,_,_,_,_,_,_,_,rfl,_⟩:=h;rfl)|(· obtain⟨_,_,_,_,_,_,_,_,_,_,_,_,_,_,rfl,_⟩:=h;rfl))))
local macro_rules | `(tactic| exists _, $y) => `(tactic| (refine ⟨_,$y,?_⟩;try rw [cxK]))
namespace L2
open PySem PySem.Spec PyProof.Rows
abbrev Key:=Sum Int Str
def kh:Key->MW->Bool
 |.inl k,v=>Value.isInt k v
 |.inr x,v=>Value.isStrOf x v
def J5(w:MY):Key->Int
 |.inl k=>hashInt k
 |.inr x=>hashStr w x
theorem bT:∀{k:Key} {v:MW},kh k v=true->(∃i t,k=Sum.inl i/\v=Value.int i t)\/(∃x t,k=Sum.inr x/\v=Value.str x t)
 |.inl i,v,h=>by obtain⟨t,e⟩:=Value.isInt_shape (k:=i) (v:=v) h;exact .inl #[i,t,rfl,e]
 |.inr x,v,h=>by obtain⟨t,e⟩:=Value.isStrOf_shape (x:=x) (v:=v) h;exact .inr #[x,t,rfl,e]
theorem BL(i:Int)(t:Tok):kh (.inl i) (.int i t)=true:=by simp[kh,Value.isInt]
theorem BM(x:Str)(t:Tok):kh (.inr x) (.str x t)=true:=by simp[kh,Value.isStrOf]
theorem He(a b:Int):decide ((Sum.inl a:Key)=Sum.inl b)=(a==b):=by
 by_cases e:a=b
 ·subst e;simp
 ·have h:¬(Sum.inl a:Key)=Sum.inl b:=λq=>e (Sum.inl.inj q);rw[decide_eq_false h];exact(YI.mpr e).symm
theorem Hh(a b:Str):decide ((Sum.inr a:Key)=Sum.inr b)=decide (a=b):=by
 by_cases e:a=b
 ·subst e;simp
 ·have h:¬(Sum.inr a:Key)=Sum.inr b:=λq=>e (Sum.inr.inj q);rw[decide_eq_false h,decide_eq_false e]
theorem Hf(a:Int)(b:Str):decide ((Sum.inl a:Key)=Sum.inr b)=false:=decide_eq_false (λq=>nomatch q)
theorem Hg(a:Str)(b:Int):decide ((Sum.inr a:Key)=Sum.inl b)=false:=decide_eq_false (λq=>nomatch q)
def bj(prog:MX)(w:MY):PySem.KeyKind prog w Key where
 is:=kh
 hash:=J5 w
 inj:=λv a b ha hb=>by
  rcases bT ha with⟨i,t,rfl,rfl⟩|⟨x,t,rfl,rfl⟩
  ·rcases bT hb with⟨j,u,rfl,e⟩|⟨y,u,rfl,e⟩
   ·injection e with e1 _;rw[e1]
   ·exact nomatch e
  ·rcases bT hb with⟨j,u,rfl,e⟩|⟨y,u,rfl,e⟩
   ·exact nomatch e
   ·injection e with e1 _;rw[e1]
 byValue:=λk v h=>by rcases bT h with⟨i,t,rfl,rfl⟩|⟨x,t,rfl,rfl⟩<;>rfl
 pyHash:=λhv h=>by
  rcases bT hv with⟨i,t,rfl,rfl⟩|⟨x,t,rfl,rfl⟩
  ·exact wpAny_pyHash_int h
  ·exact wpAny_pyHash_str h
 eqBool:=λhu hv h=>by
  rcases bT hu with⟨i,t,rfl,rfl⟩|⟨x,t,rfl,rfl⟩
  ·rcases bT hv with⟨j,u,rfl,rfl⟩|⟨y,u,rfl,rfl⟩
   ·rw[He]at h;exact wpAny_eqBool_int h
   ·rw[Hf]at h;exact SeqAt.EqAt.int_str i t y u _ _ _ _ h
  ·rcases bT hv with⟨j,u,rfl,rfl⟩|⟨y,u,rfl,rfl⟩
   ·rw[Hg]at h;exact SeqAt.EqAt.str_int x t j u _ _ _ _ h
   ·rw[Hh]at h;exact wpAny_eqBool_str h
 «strs»:=λk x t v h=>by
  rcases bT h with⟨i,u,rfl,e⟩|⟨y,u,rfl,e⟩
  ·exact nomatch e
  ·injection e with e1 _;subst e1;cases v<;>rfl
theorem wR(prog:MX)(w:MY)(i:Int)(t:Tok):(bj prog w).is (.inl i) (.int i t)=true:=BL i t
theorem wS(prog:MX)(w:MY)(x:Str)(t:Tok):(bj prog w).is (.inr x) (.str x t)=true:=BM x t
inductive V where
 |non|bl (b:Bool)|int (i:Int)|str (x:Str)|byt (b:Array UInt8)|flt (b:UInt64)|ref (a:MU)|ty (n:String)
 deriving DecidableEq
def RelV:V->MW->Prop
 |.non,u=>u=Value.none
 |.bl b,u=>u=Value.bool b
 |.int i,u=>∃t,u=Value.int i t
 |.str x,u=>∃t,u=Value.str x t
 |.byt b,u=>∃t,u=Value.bytes b t
 |.flt b,u=>∃t,u=Value.float b t
 |.ref a,u=>u=Value.ref a
 |.ty n,u=>u=Value.type n
abbrev Vals:List V->MT->Prop:=Paired RelV
theorem Vals.length{xs:List V}{us:MT}(r:Vals xs us):xs.length=us.length:=ZH r
theorem Vals.get:∀{xs:List V} {us:MT} {i:Nat} {x:V},Vals xs us->xs[i]?=some x->∃u,us[i]?=some u/\RelV x u
 |_,_,_,_,.nil,e=>by simp at e
 |_,_,0,_,.cons r _,e=>by simp at e;subst e;exact#[_,rfl,r]
 |_,_,i+1,x,.cons _ t,e=>by obtain⟨u,h1,h2⟩:=Vals.get (i:=i) (x:=x) t (by simpa using e);exact#[u,by simpa using h1,h2]
theorem Vals.set{x:V}{u:MW}(r:RelV x u):∀{xs:List V} {us:MT} (i:Nat),Vals xs us->Vals (xs.set i x) (us.set i u)
 |_,_,_,.nil=>.nil
 |_,_,0,.cons _ t=>.cons r t
 |_,_,i+1,.cons q t=>.cons q (Vals.set r i t)
theorem Vals.append:∀{xs ys:List V} {us ws:MT},Vals xs us->Vals ys ws->Vals (xs++ys) (us++ws)
 |_,_,_,_,.nil,s=>s
 |_,_,_,_,.cons r t,s=>.cons r (Vals.append t s)
theorem Vals.take:∀{xs:List V} {us:MT} (n:Nat),Vals xs us->Vals (xs.take n) (us.take n)
 |_,_,0,_=>.nil
 |_,_,_+1,.nil=>.nil
 |_,_,n+1,.cons r t=>.cons r (Vals.take n t)
theorem Vals.drop:∀{xs:List V} {us:MT} (n:Nat),Vals xs us->Vals (xs.drop n) (us.drop n)
 |_,_,0,r=>r
 |_,_,_+1,.nil=>.nil
 |_,_,n+1,.cons _ t=>Vals.drop n t
def RelO:Option V->Option MW->Prop
 |some v,some u=>RelV v u
 |none,none=>True
 |_,_=>False
def KV{κ:Type}:List (κ×V)->List (κ×MW)->Prop:=Paired fun(p:κ×V) (q:κ×MW)=>p.1=q.1/\RelV p.2 q.2
def kV:Key->V
 |.inl i=>.int i
 |.inr x=>.str x
inductive HO where
 |lst (xs:List V)
 |tup (xs:List V)
 |dK (kvs:List (Key×V))|dT (kvs:List (List Key×V))
 |set (S:Int->Bool)(n:Nat)
 |ins (C dx:MU)(fs:List (Str×V))
 |own (x:MU)
 |xd (fs:List (Str×V))
 |met (f x:MU)
 |rng (lo hi:Int)
 |frz (o:Obj)(u:HO)
 |tbl (ps:Array MW)
 |ext (φ:Heap->Prop)
abbrev Hp:=MU->Option HO
def upd(H:Hp)(a:MU)(o:HO):Hp:=λb=>if b=a then some o else H b
theorem ad{H:Hp}{a:MU}{o:HO}:upd H a o a=some o:=by unfold upd;rw[MO rfl]
theorem ah{H:Hp}{a b:MU}{o:HO}(h:b≠a):upd H a o b=H b:=by unfold upd;rw[MN h]
theorem ER{H:Hp}{a b:MU}{o u:HO}(h:H a=some o)(h':H b=some u)(d:o≠u):a≠b:=by intro e;subst e;rw[h]at h';exact d (Zn h')
theorem al{H:Hp}{a b:MU}{o:HO}(h:H a=some o)(h':H b=none):a≠b:=by intro e;subst e;rw[h]at h';cases h'
section
variable(P:MX)(w:MY)
def ObjOk(H:Hp)(h:Heap)(a:MU):HO->Prop
 |.lst xs=>xs.length<=sizeLine/\∃(its:MT) (n:Nat),Vals xs its/\h.get? a=some { cls:=.type "list",data:=.seq its.toArray n }
 |.tup xs=>xs.length<=sizeLine/\∃its:MT,Vals xs its/\IsTup h a its.toArray
 |.dK kvs=>kvs.length<=sizeLine/\(a==sysModules)=false/\∃vs,KV kvs vs/\h.DictOf (bj P w) a vs
 |.dT kvs=>kvs.length<=sizeLine/\(a==sysModules)=false/\∃xs:List (List Key×MU×MW),
   Paired (fun(p:List Key×V) (q:List Key×MU×MW)=>p.1=q.1/\H q.2.1=some (.tup (p.1.map kV))/\RelV p.2 q.2.2) kvs xs /\
   ∃o es ep,h.get? a=some o/\o.ExactDict/\o.data=.dict es ep/\es.toList=xs.map (entryOfKey (tupleKind (bj P w)))/\(xs.map (·.1)).Nodup
 |.set S n=>h.SetOf (intKind P w) a S n
 |.ins C dx fs=>H dx=some (.own a)/\fs.length<=1000/\dx≠a/\h.get? a=some (W.instObj C dx) /\
   ∃mA,h.Ns1 dx mA/\(∀f,RelO (fs.lookup f) (mA f))/\PySem.Within mA (fs.map (·.1))
 |.own _=>∃o,h.get? a=some o
 |.xd fs=>∃mA,h.Ns1 a mA/\∀f,RelO (fs.lookup f) (mA f)
 |.rng lo hi=>∃t u v,h.get? a=some { cls:=.type "range",data:=.fields (List.toArray [.int lo t,.int hi u,.int 1 v]) }
 |.frz o u=>h.get? a=some o/\ObjOk H h a u
 |.tbl ps=>h.get? a=some { cls:=.none,data:=.fields ps }
 |.met f x=>h.get? a=some (W.methodObj (.ref f) (.ref x))
 |.ext φ=>φ h/\(∃o,h.get? a=some o)/\∀h1 h2:Heap,φ h1->(∀o,h1.get? a=some o->h2.get? a=some o)->φ h2
def HOk(H:Hp)(h:Heap):Prop:=∀a o,H a=some o->ObjOk P w H h a o
end
section
variable{P:MX}{w:MY}{H H':Hp}{h h':Heap}{a:MU}{o:HO}
theorem ObjOk.lt(x:ObjOk P w H h a o):a<h.objs.size:=by
 cases o with
 |lst xs=>obtain⟨_,_,_,_,e⟩:=x;exact Zh e
 |tup xs=>obtain⟨_,_,_,p⟩:=x;exact p.lt
 |dK kvs=>obtain⟨_,_,_,_,o,_,_,e,_⟩:=x;exact Zh e
 |dT kvs=>obtain⟨_,_,_,_,o,_,_,e,_⟩:=x;exact Zh e
 |set S n=>obtain⟨o,_,_,_,e,_⟩:=x;exact Zh e
 |ins C dx fs=>obtain⟨_,_,_,e,_⟩:=x;exact Zh e
 |own y=>obtain⟨_,e⟩:=x;exact Zh e
 |xd fs=>obtain⟨_,⟨_,_,_,e,_⟩,_⟩:=x;exact Zh e
 |rng lo hi=>obtain⟨_,_,_,e⟩:=x;exact Zh e
 |frz ob u=>obtain⟨e,_⟩:=x;exact Zh e
 |tbl ps=>exact Zh (show h.get? a=some _ from x)
 |met f y=>exact Zh (show h.get? a=some _ from x)
 |ext φ=>obtain⟨_,⟨_,e⟩,_⟩:=x;exact Zh e
theorem Paired.mapP{α β:Type}{F G:α->β->Prop}:∀{l₁:List α} {l₂:List β},Paired F l₁ l₂->(∀a b,F a b->G a b)->Paired G l₁ l₂
 |_,_,.nil,_=>.nil
 |_,_,.cons r t,f=>.cons (f _ _ r) (Paired.mapP t f)
theorem ObjOk.stay(x:ObjOk P w H h a o)(k:∀b u,(b=a\/H b=some (.own a))->h.get? b=some u->h'.get? b=some u)(ho:∀b,H b=some (.own a)->H' b=some (.own a))(ht:∀b xs,H b=some (.tup xs)->H' b=some (.tup xs)):ObjOk P w H' h' a o:=by
 induction o with
 |lst xs=>obtain⟨z,its,n,r,e⟩:=x;exact#[z,its,n,r,k _ _ (.inl rfl) e]
 |tup xs=>obtain⟨z,its,r,ob,e,c⟩:=x;exact#[z,its,r,ob,k _ _ (.inl rfl) e,c]
 |dK kvs=>obtain⟨z,y,vs,r,ob,es,ep,e,c⟩:=x;exact#[z,y,vs,r,ob,es,ep,k _ _ (.inl rfl) e,c]
 |dT kvs =>obtain⟨z,y,xs,r,ob,es,ep,e,c⟩:=x;exact#[z,y,xs,Paired.mapP r λp q z=>#[z.1,ht _ _ z.2.1,z.2.2],ob,es,ep,k _ _ (.inl rfl) e,c]
 |set S n=>obtain⟨ob,es,ep,t,e,c⟩:=x;exact#[ob,es,ep,t,k _ _ (.inl rfl) e,c]
 |ins C dx fs =>obtain⟨d,z,ne,e,mA,⟨od,es,ep,e2,c⟩,r⟩:=x;exact#[ho _ d,z,ne,k _ _ (.inl rfl) e,mA,#[od,es,ep,k _ _ (.inr d) e2,c],r]
 |own y=>obtain⟨ob,e⟩:=x;exact#[ob,k _ _ (.inl rfl) e]
 |xd fs=>obtain⟨mA,⟨od,es,ep,e,c⟩,r⟩:=x;exact#[mA,#[od,es,ep,k _ _ (.inl rfl) e,c],r]
 |rng lo hi=>obtain⟨t,u,v,e⟩:=x;exact#[t,u,v,k _ _ (.inl rfl) e]
 |frz ob u ih=>obtain⟨e,q⟩:=x;exact#[k _ _ (.inl rfl) e,ih q]
 |tbl ps =>have e:h.get? a=some { cls:=.none,data:=.fields ps }:=x;show h'.get? a=some { cls:=.none,data:=.fields ps };exact k a _ (.inl rfl) e
 |met f y =>have e:h.get? a=some (W.methodObj (.ref f) (.ref y)):=x;show h'.get? a=some (W.methodObj (.ref f) (.ref y));exact k a _ (.inl rfl) e
 |ext φ=>obtain⟨p,⟨o,e⟩,st⟩:=x;exact#[st _ _ p λo q=>k _ _ (.inl rfl) q,#[o,k _ _ (.inl rfl) e],st]
theorem HOk.lt(x:HOk P w H h)(e:H a=some o):a<h.objs.size:=(x a o e).lt
theorem HOk.fresh(x:HOk P w H h)(e:h.objs.size<=a):H a=none:=by
 cases q:H a with
 |none=>rfl
 |some u=>exact absurd (Zt (x.lt q) e) (YD _)
theorem HOk.kept(x:HOk P w H h)(k:∀b u,h.get? b=some u->h'.get? b=some u):HOk P w H h':=λa o e =>
 (x a o e).stay (λb u _ q=>k b u q) (λ_ q=>q) λ_ _ q=>q
theorem HOk.laid(x:HOk P w H h)(k:∀b u,h.get? b=some u->h'.get? b=some u)(hp:h.objs.size<=a)(new:ObjOk P w (upd H a o) h' a o):HOk P w (upd H a o) h':=λb u e=>by
 have hn:=x.fresh hp;by_cases hb:b=a
 ·subst hb;rw[ad]at e;cases e;exact new
 ·rw[ah hb]at e;exact(x b u e).stay (λc v _ q=>k c v q) (λc q=>by rw[ah (al q hn)];exact q) λc xs q=>by rw[ah (al q hn)];exact q
end
def Rd(H:Hp)(a:MU)(u:HO):Prop:=H a=some u\/∃o,H a=some (.frz o u)
theorem Rd.of{H:Hp}{a:MU}{u:HO}(h:H a=some u):Rd H a u:=.inl h
theorem Rd.ok{P:MX}{w:MY}{H:Hp}{h:Heap}{a:MU}{u:HO}(r:Rd H a u)(x:HOk P w H h):ObjOk P w H h a u:=by
 rcases r with r|⟨o,r⟩
 ·exact x a u r
 ·obtain⟨_,q⟩:=x a _ r;exact q
def Mut:Option HO->Prop
 |some (.lst _)=>True
 |some (.dK _)=>True
 |some (.dT _)=>True
 |some (.set _ _)=>True
 |some (.ins _ _ _)=>True
 |some (.ext _)=>True
 |_=>False
section
variable{P:MX}{w:MY}{H:Hp}{h h':Heap}{x e:MU}{o':HO}
theorem HOk.write(ok:HOk P w H h)(mu:Mut (H x))(he:e=x\/H e=some (.own x))(k:∀b u,b≠e->h.get? b=some u->h'.get? b=some u)(heo:∃u,h'.get? e=some u)(new:ObjOk P w (upd H x o') h' x o'):HOk P w (upd H x o') h':=λb u q=>by
 have nown:∀c y,H c=some (.own y)->c≠x:=λc y r z=>by subst z;rw[r]at mu;exact mu
 have ntup:∀c xs,H c=some (.tup xs)->c≠x:=λc xs r z=>by subst z;rw[r]at mu;exact mu
 by_cases hb:b=x
 ·subst hb;rw[ad]at q;cases q;exact new
 ·rw[ah hb]at q;by_cases hbe:b=e
  ·have q':H b=some (.own x):=by
    rcases he with z|z
    ·exact absurd (hbe.trans z) hb
    ·rw[hbe];exact z
   rw[q]at q';cases q';obtain⟨v,hv⟩:=heo;exact#[v,by rw[hbe];exact hv]
  ·refine(ok b u q).stay (λc v hc r=>k c v ?_ r) (λc r=>by rw[ah (nown c b r)];exact r) λc xs r=>by rw[ah (ntup c xs r)];exact r
   rcases hc with rfl|hc
   ·exact hbe
   ·rintro rfl;rcases he with z|z
    ·exact nown c b hc z
    ·rw[hc]at z;cases z;exact hb rfl
end
structure Un(fs ex:List MU)(H H':Hp)(h h':Heap):Prop where
 keep:∀b o,h.get? b=some o->H b=none->b∉fs->b∉ex->h'.get? b=some o
 slot:∀b o,h.get? b=some o->H b=none->b∈fs->b∉ex->∃sl,h'.get? b=some { o with slots:=sl }
 free:∀b o,h.get? b=some o->H b=none->b∉ex->H' b=none
 there:∀b o,h.get? b=some o->b∉ex->∃o',h'.get? b=some o'
 tups:∀b xs,H b=some (.tup xs)->H' b=some (.tup xs)
 frzs:∀b o u,H b=some (.frz o u)->H' b=some (.frz o u)
 tbls:∀b ps,H b=some (.tbl ps)->∃more,H' b=some (.tbl (ps++more))
section
variable{fs fs' ex ex':List MU}{H H1 H2:Hp}{h h1 h2 h':Heap}{a x e:MU}{o:HO}
theorem Un.any(u:Un fs ex H H1 h h1){b:MU}{ob:Obj}(q:h.get? b=some ob)(n:H b=none)(hx:b∉ex):∃sl,h1.get? b=some { ob with slots:=sl }:=by
 by_cases hb:b∈fs
 ·exact u.slot b ob q n hb hx
 ·exact#[ob.slots,u.keep b ob q n hb hx]
theorem Un.kept(k:∀b u,h.get? b=some u->h'.get? b=some u):Un fs ex H H h h' :=
 #[λb ob q _ _ _=>k b ob q,λb ob q _ _ _=>#[ob.slots,k b ob q],λ_ _ _ n _=>n,λb ob q _=>#[ob,k b ob q],λ_ _ q=>q,λ_ _ _ q=>q,λ_ ps q=>#[#[],by rw[q];simp]]
theorem Un.refl:Un fs ex H H h h:=Un.kept λ_ _ q=>q
theorem Un.laid(k:∀b u,h.get? b=some u->h'.get? b=some u)(hp:h.objs.size<=a)(hn:H a=none):Un fs ex H (upd H a o) h h' where
 keep:=λb u q _ _ _=>k b u q
 slot:=λb u q _ _ _=>#[u.slots,k b u q]
 free:=λb u q n _=>by rw[ah (Zo (Zt (Zh q) hp))];exact n
 there:=λb u q _=>#[u,k b u q]
 tups:=λb xs q=>by rw[ah (al q hn)];exact q
 frzs:=λb u xs q=>by rw[ah (al q hn)];exact q
 tbls:=λb ps q=>#[#[],by rw[ah (al q hn),q];simp]
theorem Un.write(mu:Mut (H x))(he:e=x\/H e=some (.own x))(k:∀b u,b≠e->h.get? b=some u->h'.get? b=some u)(heo:∃u,h'.get? e=some u):Un fs ex H (upd H x o) h h':=by
 have hx:∀b,H b=none->b≠x:=λb n z=>by subst z;rw[n]at mu;exact mu
 have hb:∀b,H b=none->b≠e:=λb n z=>by
  subst z;rcases he with r|r
  ·exact hx b n r
  ·rw[n]at r;cases r
 have hm:∀b u,H b=some u->¬Mut (some u)->b≠x:=λb u q nm z=>by subst z;rw[q]at mu;exact nm mu
 refine#[λb u q n _ _=>k b u (hb b n) q,λb u q n _ _=>#[u.slots,k b u (hb b n) q],λb u q n _=>by rw[ah (hx b n)];exact n,λb u q _=>?_,
  λb xs q=>by rw[ah (hm b _ q λz=>z)];exact q,λb u xs q=>by rw[ah (hm b _ q λz=>z)];exact q,λb ps q=>#[#[],by rw[ah (hm b _ q λz=>z),q];simp]]
 by_cases hbe:b=e
 ·subst hbe;exact heo
 ·exact#[u,k b u hbe q]
end
def trk(h:Heap)(H:Hp):List MU:=(List.range h.objs.size).filter λa=>(H a).isSome
def jl(h:Heap)(H:Hp):Heap:=W.hideAll h (trk h H)
theorem BD(h:Heap)(H:Hp):(jl h H).objs.size=h.objs.size:=W.hideAll_size _ _
theorem kf{h:Heap}{H:Hp}{b:MU}{o:Obj}(e:h.get? b=some o)(n:H b=none):(jl h H).get? b=some o :=
 W.hideAll_get _ e λhm=>by have q:(H b).isSome=true:=(Zx.mp hm).2;rw[n]at q;simp at q
theorem FB{h:Heap}{H:Hp}{b:MU}{o:Obj}(e:(jl h H).get? b=some o):h.get? b=some o/\H b=none:=by
 have e':h.get? b=some o:=W.of_hideAll (trk h H) e;refine#[e',?_];cases q:H b with
 |none=>rfl
 |some x =>have hm:b∈trk h H:=Zx.mpr #[Y2.mpr (Zh e'),by simp[q]];have z:(jl h H).get? b=none:=W.hideAll_none (trk h H) hm;rw[z]at e;cases e
structure Mod(K:W.Frag)(mg:MR)(base:Heap):Prop where
 kin:K.In base
 glob:base.Ns mainGlobals mg
 blt:∃mb,base.Ns builtinsNs mb/\∀x:Str,x≠"__name__"->mb x=bootBuiltins x
 nolimit:base.NoLimit
structure Cx where
 prog:MX
 w:MY
 K:W.Frag
 mg:MR
 base:Heap
 A:MZ
 N:List Str
 s₀:MV
 H₀:Hp
 env:Env
 outer:List Env
 stack:List Env
 ex:List MU
 fn:Str->Bool
 calm:Bool
 pn:MP
 xe:MQ
def frs(l:List Env):List MU:=l.filterMap (·.frame)
abbrev Cx.fs(X:Cx):List MU:=frs X.outer
def Vis(sc:Scope)(x:Str):Prop:=sc.names.lookup x=some .local\/sc.names.lookup x=some .cell\/sc.names.lookup x=some .free
def Loc(sc:Scope)(x:Str):Prop:=sc.names.lookup x=some .local\/sc.names.lookup x=some .cell
def JW(env:Env)(h:Heap)(m:MR)(x:Str)(u:MW):Prop :=
 (env.kindOf x=some .local/\m x=some u)\/((env.kindOf x=some .cell\/env.kindOf x=some .free)/\∃c,env.cells.lookup x=some c/\h.IsCell c (some u))
structure Cx.Ok(X:Cx):Prop where
 mod:Mod X.K X.mg X.base
 kind:X.env.scope.kind=.function
 glob:X.env.globals=mainGlobals
 blt:X.env.builtins=builtinsNs
 above:X.s₀.heap.objs.size<=X.env.locals
 inj:∀x y c,X.env.cells.lookup x=some c->X.env.cells.lookup y=some c->x=y
 has:∀x,(X.env.kindOf x=some .cell\/X.env.kindOf x=some .free)->∃c,X.env.cells.lookup x=some c
 cab:∀x c,X.fn x=true->X.env.cells.lookup x=some c->X.s₀.heap.objs.size<=c
 hd:X.calm=true->X.A.handled=none
 frames:X.A.frames=some X.stack
 stk:X.stack=X.outer\/(X.stack=X.env::X.outer/\X.env.frame=some X.env.locals)
 exf:∀b∈X.ex,b≠X.env.locals/\∀x c,X.env.cells.lookup x=some c->c≠b
 bs:∀b o,X.base.get? b=some o->X.s₀.heap.get? b=some o/\X.H₀ b=none
 bsz:X.base.objs.size<=X.s₀.heap.objs.size
 noex:∀b o,X.base.get? b=some o->b∉X.ex
 exfs:∀b∈X.ex,b∉X.fs
 funs:X.s₀.heap.FunFrames X.base X.outer
 frf:∀b∈X.fs,X.H₀ b=none
structure Inv(X:Cx)(M9:MP)(σ:List (Option V))(H:Hp)(s:MV):Prop where
 ok:X.Ok
 os:s.os=X.s₀.os
 bare:AllBare s.gens
 base:Un X.fs X.ex X.H₀ H X.s₀.heap s.heap
 loc:∃m,s.heap.Ns X.env.locals m/\∀(i:Nat) (x:Str) (v:V),X.N[i]?=some x->σ[i]?=some (some v)->Vis X.env.scope x->∃u,RelV v u/\JW X.env s.heap m x u
 cell:∀x c,X.env.cells.lookup x=some c->∃v,s.heap.IsCell c v
 free:H X.env.locals=none
 freeC:∀x c,X.env.cells.lookup x=some c->H c=none
 pin:∀p∈X.pn++M9,s.heap.get? p.1=some p.2/\H p.1=none/\p.1≠X.env.locals/\p.1∉X.fs/\∀v,p.2.data≠.cell v
 hok:HOk X.prog X.w H s.heap
 len:σ.length=X.N.length
section
variable{X:Cx}{M9:MP}{σ:List (Option V)}{H H':Hp}{s:MV}{h':Heap}
theorem Cx.Ok.nofr(ok:X.Ok){b:MU}{o:Obj}(e:X.base.get? b=some o):b∉X.fs:=λhb=>by have:=(ok.funs.mem hb).1;rw[e]at this;cases this
theorem Inv.bs(I:Inv X M9 σ H s):∀b o,X.base.get? b=some o->s.heap.get? b=some o/\H b=none:=λb o e =>
 #[I.base.keep b o (I.ok.bs b o e).1 (I.ok.bs b o e).2 (I.ok.nofr e) (I.ok.noex b o e),I.base.free b o (I.ok.bs b o e).1 (I.ok.bs b o e).2 (I.ok.noex b o e)]
theorem Inv.bk(I:Inv X M9 σ H s):∀b o,X.base.get? b=some o->s.heap.get? b=some o:=λb o e=>(I.bs b o e).1
theorem Inv.mod(I:Inv X M9 σ H s):Mod X.K X.mg X.base:=I.ok.mod
theorem Inv.kIn(I:Inv X M9 σ H s):X.K.In s.heap:=I.ok.mod.kin.keeps I.bk
theorem Inv.fr(I:Inv X M9 σ H s):∃m,Fr X.base X.env.locals s.heap m :=
 let⟨m,hn,_⟩:=I.loc
 #[m,hn,I.bk,Zq I.ok.bsz I.ok.above]
theorem Inv.lt(I:Inv X M9 σ H s):X.env.locals<s.heap.objs.size:=let⟨_,hn,_⟩:=I.loc;hn.lt
theorem Inv.sz(I:Inv X M9 σ H s):X.s₀.heap.objs.size<=s.heap.objs.size:=Zq I.ok.above (Y6 I.lt)
theorem Inv.nofs(I:Inv X M9 σ H s){a:MU}(h:s.heap.objs.size<=a):a∉X.fs:=λhb=>by obtain⟨_,o,ho,_⟩:=I.ok.funs.mem hb;exact absurd (Zt (Zh ho) (Zq I.sz h)) (YD _)
theorem Inv.cne(I:Inv X M9 σ H s):∀x c,X.env.cells.lookup x=some c->c≠X.env.locals:=λx c e z=>by obtain⟨v,o,ho,hd⟩:=I.cell x c e;obtain⟨m,⟨o',es,ep,ho',hd',_⟩,_⟩:=I.loc;rw[z,ho']at ho;cases ho;rw[hd']at hd;cases hd
theorem Inv.funs(I:Inv X M9 σ H s):s.heap.FunFrames X.base X.outer:=by
 have all:∀(l:List Env),(∀b∈frs l,b∈X.fs)->X.s₀.heap.FunFrames X.base l->s.heap.FunFrames X.base l:=by
  intro l;induction l with
  |nil=>intro _ _;trivial
  |cons env r ih =>intro hs hl;obtain⟨hk,⟨L,o,hf,hn,ho,hd⟩,hr⟩:=hl;have hL:L∈X.fs:=hs L (by unfold frs;rw[List.filterMap_cons,hf];exact Ys);obtain⟨sl,e⟩:=I.base.slot L o ho (I.ok.frf L hL) hL λz=>I.ok.exfs L z hL;exact#[hk,#[L,_,hf,hn,e,hd],ih (λb hb=>hs b (by unfold frs;rw[List.filterMap_cons,hf];exact ZG _ hb)) hr]
 exact all X.outer (λ_ hb=>hb) I.ok.funs
theorem Inv.stack(I:Inv X M9 σ H s):s.heap.FunFrames X.base X.stack:=by
 rcases I.ok.stk with e|⟨e,hf⟩
 ·rw[e];exact I.funs
 ·rw[e];obtain⟨m,hn,_⟩:=I.loc;refine .cons (by rw[I.ok.kind];decide) hf hn ?_ I.funs;exact Yj (Zq I.ok.bsz I.ok.above)
theorem Inv.stkSub(I:Inv X M9 σ H s):∀b∈frs X.stack,b∈X.env.locals::X.fs:=λb hb=>by
 rcases I.ok.stk with e|⟨e,hf⟩
 ·rw[e]at hb;exact ZG _ hb
 ·rw[e]at hb;unfold frs at hb;rw[List.filterMap_cons,hf]at hb;exact hb
theorem Inv.stkFree(I:Inv X M9 σ H s):∀b∈frs X.stack,H b=none:=λb hb=>by
 rcases Zl.mp (I.stkSub b hb)with e|hb
 ·rw[e];exact I.free
 ·obtain⟨_,o,ho,_⟩:=I.ok.funs.mem hb;exact I.base.free b o ho (I.ok.frf b hb) λz=>I.ok.exfs b z hb
theorem Inv.step{g':Array GenState}{t':Nat}{d':Drawn}{ch:List MU}(I:Inv X M9 σ H s)(hch:∀b∈ch,(b∈X.ex\/X.s₀.heap.objs.size<=b)/\b≠X.env.locals/\(∀x c,X.env.cells.lookup x=some c->c≠b)/\∀p∈X.pn++M9,p.1≠b)(keep:∀b o,b≠X.env.locals->b∉X.fs->b∉ch->s.heap.get? b=some o->H b=none->h'.get? b=some o)(slot:∀b o,b≠X.env.locals->b∈X.fs->b∉ch->s.heap.get? b=some o->H b=none->∃sl,h'.get? b=some { o with slots:=sl })(free:∀b o,b∉ch->s.heap.get? b=some o->H b=none->H' b=none)(there:∀b o,b∉ch->s.heap.get? b=some o->∃o',h'.get? b=some o')(tups:∀b xs,H b=some (.tup xs)->H' b=some (.tup xs))(frzs:∀b o u,H b=some (.frz o u)->H' b=some (.frz o u))(tbls:∀b ps,H b=some (.tbl ps)->∃more,H' b=some (.tbl (ps++more)))(ns:∀m,s.heap.Ns X.env.locals m->h'.Ns X.env.locals m)(hok:HOk X.prog X.w H' h')(hg:AllBare g') :
  Inv X M9 σ H' { s with heap:=h',gens:=g',drawn:=d',toks:=t' }:=by
 have neL:∀b o,X.s₀.heap.get? b=some o->b≠X.env.locals:=λb o e=>Zo (Zt (Zh e) I.ok.above);have neC:∀b o,X.s₀.heap.get? b=some o->b∉X.ex->b∉ch:=λb o e hx hb=>by
  rcases(hch b hb).1 with z|z
  ·exact hx z
  ·exact absurd (Zt (Zh e) z) (YD _)
 have cellK:∀x c,X.env.cells.lookup x=some c->∀v,s.heap.IsCell c v->h'.IsCell c v:=λx c e v ⟨o,ho,hd⟩=>by
  have nch:c∉ch:=λz=>(hch c z).2.2.1 x c e rfl;by_cases hc:c∈X.fs
  ·obtain⟨sl,q⟩:=slot c o (I.cne x c e) hc nch ho (I.freeC x c e);exact#[_,q,hd]
  ·exact#[o,keep c o (I.cne x c e) hc nch ho (I.freeC x c e),hd]
 refine#[I.ok,I.os,hg,#[λb o e n hb hx=>?_,λb o e n hb hx=>?_,λb o e n hx=>?_,λb o e hx=>?_,λb xs e=>tups b xs (I.base.tups b xs e),λb o xs e=>frzs b o xs (I.base.frzs b o xs e),λb ps e=>?_],?_,λx c e=>?_,?_,λx c e=>?_,λp hp=>?_,hok,I.len]
 ·exact keep b o (neL b o e) hb (neC b o e hx) (I.base.keep b o e n hb hx) (I.base.free b o e n hx)
 ·obtain⟨sl,e1⟩:=I.base.slot b o e n hb hx;obtain⟨sl',e2⟩:=slot b _ (neL b o e) hb (neC b o e hx) e1 (I.base.free b o e n hx);exact#[sl',e2]
 ·obtain⟨o',e1⟩:=I.base.there b o e hx;exact free b o' (neC b o e hx) e1 (I.base.free b o e n hx)
 ·obtain⟨o',e1⟩:=I.base.there b o e hx;exact there b o' (neC b o e hx) e1
 ·obtain⟨m1,e1⟩:=I.base.tbls b ps e;obtain⟨m2,e2⟩:=tbls b _ e1;exact#[m1++m2,by rw[e2,Array.append_assoc]]
 ·obtain⟨m,hn,hl⟩:=I.loc;refine#[m,ns m hn,λi x v e1 e2 e3=>?_];obtain⟨u,r,l⟩:=hl i x v e1 e2 e3;refine#[u,r,?_];rcases l with l|⟨k,c,e,z⟩
  ·exact .inl l
  ·exact .inr #[k,c,e,cellK x c e _ z]
 ·obtain⟨v,z⟩:=I.cell x c e;exact#[v,cellK x c e v z]
 ·obtain⟨m,⟨o,_,_,ho,_⟩,_⟩:=I.loc;exact free _ o (λz=>(hch _ z).2.1 rfl) ho I.free
 ·obtain⟨v,o,ho,hd⟩:=I.cell x c e;exact free c o (λz=>(hch c z).2.2.1 x c e rfl) ho (I.freeC x c e)
 ·obtain⟨e,n,ne,nf,d⟩:=I.pin p hp;have nch:p.1∉ch:=λz=>(hch p.1 z).2.2.2 p hp rfl;exact#[keep p.1 p.2 ne nf nch e n,free p.1 p.2 nch e n,ne,nf,d]
theorem Inv.un{t':Nat}(I:Inv X M9 σ H s)(u:Un X.fs [] H H' s.heap h')(hok:HOk X.prog X.w H' h'):Inv X M9 σ H' { s with heap:=h',toks:=t' }:=by
 obtain⟨m,⟨o,es,ep,ho,r⟩,_⟩:=id I.loc;obtain⟨sl,hL⟩:=u.any ho I.free (by simp);exact I.step (g':=s.gens) (d':=s.drawn) (ch:=[]) (λ_ z=>nomatch z) (λb o _ hb _ e n=>u.keep b o e n hb (by simp)) (λb o _ hb _ e n=>u.slot b o e n hb (by simp)) (λb o _ e n=>u.free b o e n (by simp)) (λb o _ e=>u.there b o e (by simp)) u.tups u.frzs u.tbls (λm' hm=>by
  obtain⟨o',es',ep',ho',r'⟩:=hm;rw[ho]at ho';cases ho';exact#[_,es',ep',hL,r']) hok I.bare
theorem Inv.call{g':Array GenState}{t':Nat}{d':Drawn}{ch:List MU}(I:Inv X M9 σ H s)(u:Un (frs X.stack) ch H H' s.heap h')(hok:HOk X.prog X.w H' h')(hg:AllBare g')(hch:∀b∈ch,(b∈X.ex\/X.s₀.heap.objs.size<=b)/\b≠X.env.locals/\(∀x c,X.env.cells.lookup x=some c->c≠b)/\∀p∈X.pn++M9,p.1≠b) :
  Inv X M9 σ H' { s with heap:=h',gens:=g',drawn:=d',toks:=t' }:=by
 obtain⟨m,⟨o,es,ep,ho,r⟩,_⟩:=id I.loc;obtain⟨sl,hL⟩:=u.any ho I.free λz=>(hch _ z).2.1 rfl;exact I.step (ch:=ch) hch (λb o hL hb hc e n=>u.keep b o e n (λz=>(Zl.mp (I.stkSub b z)).elim hL hb) hc) (λb o _ _ hc e n=>u.any e n hc) (λb o hc e n=>u.free b o e n hc) (λb o hc e=>u.there b o e hc) u.tups u.frzs u.tbls (λm' hm=>by
  obtain⟨o',es',ep',ho',r'⟩:=hm;rw[ho]at ho';cases ho';exact#[_,es',ep',hL,r']) hok hg
theorem Inv.turned{t':Nat}{it:MU}(I:Inv X M9 σ H s)(k:∀b o,b≠it->s.heap.get? b=some o->h'.get? b=some o)(hn:H it=none)(hL:it≠X.env.locals)(h1:it∈X.ex\/X.s₀.heap.objs.size<=it)(h2:∀x c,X.env.cells.lookup x=some c->c≠it)(h3:∀p∈X.pn++M9,p.1≠it):Inv X M9 σ H { s with heap:=h',toks:=t' }:=by
 have nit:∀b u,H b=some u->b≠it:=λb u e z=>by rw[z,hn]at e;cases e
 refine I.step (g':=s.gens) (d':=s.drawn) (ch:=[it]) (λb hb=>?_) (λb o _ _ hc e _=>k b o (λz=>hc (by simp[z])) e) (λb o _ _ hc e _=>#[o.slots,k b o (λz=>hc (by simp[z])) e]) (λ_ _ _ _ n=>n)
  (λb o hc e=>#[o,k b o (λz=>hc (by simp[z])) e]) (λ_ _ e=>e) (λ_ _ _ e=>e) (λb ps e=>#[#[],by rw[e];simp]) (λm hm=>?_) (λb u e=>?_) I.bare
 ·have e:b=it:=by simpa using hb
  subst e;exact#[h1,hL,h2,h3]
 ·obtain⟨o,es,ep,ho,r⟩:=hm;exact#[o,es,ep,k _ o (Z2 hL) ho,r]
 ·refine(I.hok b u e).stay (λc v hc q=>k c v ?_ q) (λ_ q=>q) λ_ _ q=>q;rcases hc with z|z
  ·rw[z];exact nit b u e
  ·exact nit c _ z
theorem Inv.tok(I:Inv X M9 σ H s)(t:Nat):Inv X M9 σ H { s with toks:=t }:=I.un (h':=s.heap) (t':=t) Un.refl I.hok
theorem Inv.kept{t':Nat}(I:Inv X M9 σ H s)(k:∀b u,s.heap.get? b=some u->h'.get? b=some u):Inv X M9 σ H { s with heap:=h',toks:=t' }:=I.un (Un.kept k) (I.hok.kept k)
theorem Inv.laid{a:MU}{o:HO}{t':Nat}(I:Inv X M9 σ H s)(k:∀b u,s.heap.get? b=some u->h'.get? b=some u)(hp:s.heap.objs.size<=a)(new:ObjOk X.prog X.w (upd H a o) h' a o) :
  Inv X M9 σ (upd H a o) { s with heap:=h',toks:=t' }:=I.un (Un.laid k hp (I.hok.fresh hp)) (I.hok.laid k hp new)
theorem Inv.write{x e:MU}{o:HO}{t':Nat}(I:Inv X M9 σ H s)(mu:Mut (H x))(he:e=x\/H e=some (.own x))(k:∀b u,b≠e->s.heap.get? b=some u->h'.get? b=some u)(heo:∃u,h'.get? e=some u)(new:ObjOk X.prog X.w (upd H x o) h' x o):Inv X M9 σ (upd H x o) { s with heap:=h',toks:=t' }:=I.un (Un.write mu he k heo) (I.hok.write mu he k heo new)
theorem Inv.weak{σ':List (Option V)}(I:Inv X M9 σ H s)(hl:σ'.length=σ.length)(w:∀(i:Nat) v,σ'[i]?=some (some v)->σ[i]?=some (some v)):Inv X M9 σ' H s :=
 #[I.ok,I.os,I.bare,I.base,let⟨m,hn,hl'⟩:=I.loc;#[m,hn,λi x v e1 e2 e3=>hl' i x v e1 (w i v e2) e3],I.cell,I.free,I.freeC,I.pin,I.hok,hl.trans I.len]
theorem Inv.pins_of{pins':MP}(I:Inv X M9 σ H s)(h:∀p∈pins',s.heap.get? p.1=some p.2/\H p.1=none/\p.1≠X.env.locals/\p.1∉X.fs/\∀v,p.2.data≠.cell v):Inv X pins' σ H s :=
 #[I.ok,I.os,I.bare,I.base,I.loc,I.cell,I.free,I.freeC,λp hp=>(Zs.mp hp).elim (λz=>I.pin p (Z3 _ z)) (h p),I.hok,I.len]
theorem vp{N:List Str}(hN:N.Nodup){i j:Nat}{x:Str}(a:N[i]?=some x)(b:N[j]?=some x):i=j:=by obtain⟨h1,e1⟩:=Zi.mp a;obtain⟨h2,e2⟩:=Zi.mp b;exact(List.getElem_inj hN).mp (e1.trans e2.symm)
theorem sj{M:Model}{A:MZ}{E:MQ}{i:Nat}{x:Str}{v:V}{u:MW}{Q:Unit->MV->Prop}(I:Inv X M9 σ H s)(hN:X.N.Nodup)(hi:X.N[i]?=some x)(hx:Loc X.env.scope x)(r:RelV v u)(h:∀s',Inv X M9 (σ.set i (some v)) H s'->(∃a,Heap.SameBut a s.heap s'.heap/\(a=X.env.locals\/X.env.cells.lookup x=some a))->Q () s')(hf:X.fn x=true\/X.env.scope.names.lookup x=some .local:=by first|exact .inl rfl|exact .inr rfl|assumption):wpAny M A (storeName X.env x u) Q E s:=by
 obtain⟨m,hn,hl⟩:=id I.loc;have hcls:(X.env.scope.kind == .class ||(X.env.scope.kind == .module&&X.env.locals != X.env.globals))=false:=by rw[I.ok.kind];rfl
 have hiσ:i<σ.length:=by rw[I.len];exact(Zi.mp hi).1
 have cne:=I.cne;have tracked:∀{a:MU} {h':Heap},(∃o,s.heap.get? a=some o/\H a=none)->Heap.SameBut a s.heap h'->HOk X.prog X.w H h':=fun{a h'} ha hs b ob e=>by
  obtain⟨_,_,hfree⟩:=ha;refine(I.hok b ob e).stay (λc w' hc q=>(hs.2 c ?_).trans q) (λ_ q=>q) λ_ _ q=>q;rintro rfl;rcases hc with rfl|hc
  ·rw[hfree]at e;cases e
  ·rw[hfree]at hc;cases hc
 rcases hx with hk|hk
 ·refine wpAny_storeName_local hk hn (λh' hn' hs=>?_) hcls;obtain⟨oL,_,_,hoL,_⟩:=id hn;refine h _ #[I.ok,I.os,I.bare,#[λb o e n hb hx=>?_,λb o e n hb hx=>?_,I.base.free,λb o e hx=>?_,I.base.tups,I.base.frzs,I.base.tbls],#[_,hn',λj y v' e1 e2 e3=>?_],λy c e=>?_,I.free,I.freeC,λp hp=>?_,tracked #[oL,hoL,I.free] hs,by simpa using I.len] #[_,hs,.inl rfl]
  ·exact(hs.2 b (Zo (Zt (Zh e) I.ok.above))).trans (I.base.keep b o e n hb hx)
  ·obtain⟨sl,e1⟩:=I.base.slot b o e n hb hx;exact#[sl,(hs.2 b (Zo (Zt (Zh e) I.ok.above))).trans e1]
  ·obtain⟨o',e1⟩:=I.base.there b o e hx;exact#[o',(hs.2 b (Zo (Zt (Zh e) I.ok.above))).trans e1]
  ·by_cases hj:j=i
   ·subst hj;rw[hi]at e1;cases e1;rw[List.getElem?_set_self hiσ]at e2;cases e2;exact#[u,r,.inl #[hk,by simp]]
   ·rw[List.getElem?_set_ne (Z2 hj)]at e2;obtain⟨u',r',q⟩:=hl j y v' e1 e2 e3;refine#[u',r',?_];rcases q with⟨k,e⟩|⟨k,c,e,z⟩
    ·refine .inl #[k,?_];have:y≠x:=λe=>hj (vp hN e1 (e▸hi));simp[this,e]
    ·exact .inr #[k,c,e,z.sameBut hs (cne y c e)]
  ·obtain⟨w',z⟩:=I.cell y c e;exact#[w',z.sameBut hs (cne y c e)]
  ·obtain⟨e,n,ne,nf,d⟩:=I.pin p hp;exact#[(hs.2 p.1 ne).trans e,n,ne,nf,d]
 ·have hfn:X.fn x=true:=by
   rcases hf with z|z
   ·exact z
   ·rw[z]at hk;cases hk
  obtain⟨c,hc⟩:=I.ok.has x (.inl hk);obtain⟨w',z⟩:=I.cell x c hc;refine wpAny_storeName_cell I.ok.kind hk hc z (λh' hc' hs=>?_);obtain⟨oc,hoc,hocd⟩:=id z;refine h { s with heap:=h' } #[I.ok,I.os,I.bare,#[λb o e n hb hx=>?_,λb o e n hb hx=>?_,I.base.free,λb o e hx=>?_,I.base.tups,I.base.frzs,I.base.tbls],#[m,hn.sameBut hs (Z2 (cne x c hc)),λj y v' e1 e2 e3=>?_],λy c' e=>?_,I.free,I.freeC,λp hp=>?_,tracked #[oc,hoc,I.freeC x c hc] hs,by simpa using I.len] #[c,hs,.inr hc]
  ·exact(hs.2 b (Zo (Zt (Zh e) (I.ok.cab x c hfn hc)))).trans (I.base.keep b o e n hb hx)
  ·obtain⟨sl,e1⟩:=I.base.slot b o e n hb hx;exact#[sl,(hs.2 b (Zo (Zt (Zh e) (I.ok.cab x c hfn hc)))).trans e1]
  ·obtain⟨o',e1⟩:=I.base.there b o e hx;exact#[o',(hs.2 b (Zo (Zt (Zh e) (I.ok.cab x c hfn hc)))).trans e1]
  ·by_cases hj:j=i
   ·subst hj;rw[hi]at e1;cases e1;rw[List.getElem?_set_self hiσ]at e2;cases e2;exact#[u,r,.inr #[.inl hk,c,hc,hc']]
   ·rw[List.getElem?_set_ne (Z2 hj)]at e2;obtain⟨u',r',q⟩:=hl j y v' e1 e2 e3;refine#[u',r',?_];rcases q with q|⟨k,c',e,z'⟩
    ·exact .inl q
    ·refine .inr #[k,c',e,z'.sameBut hs ?_];rintro rfl;exact hj (vp hN e1 (I.ok.inj _ _ _ e hc▸hi))
  ·by_cases hcc:c'=c
   ·subst hcc;exact#[_,hc']
   ·obtain⟨w2,z2⟩:=I.cell y c' e;exact#[w2,z2.sameBut hs hcc]
  ·obtain⟨e,n,ne,nf,d⟩:=I.pin p hp;refine#[(hs.2 p.1 ?_).trans e,n,ne,nf,d];intro q;rw[q,hoc]at e;have q':oc=p.2:=Zn e;exact d w' (by rw[<-q'];exact hocd)
theorem ww{M:Model}{A:MZ}{E:MQ}{i:Nat}{x:Str}{v:V}{u:MW}{Q:Unit->MV->Prop}(I:Inv X M9 σ H s)(hN:X.N.Nodup)(hi:X.N[i]?=some x)(hx:Loc X.env.scope x)(r:RelV v u)(h:∀s',Inv X M9 (σ.set i (some v)) H s'->Q () s')(hf:X.fn x=true\/X.env.scope.names.lookup x=some .local:=by first|exact .inl rfl|exact .inr rfl|assumption):wpAny M A (storeName X.env x u) Q E s :=
 sj I hN hi hx r (λs' I' _=>h s' I') hf
theorem Inv.call'{s':MV}{ch:List MU}(I:Inv X M9 σ H s)(ho:s'.os=s.os)(u:Un (frs X.stack) ch H H' s.heap s'.heap)(hok:HOk X.prog X.w H' s'.heap)(hg:AllBare s'.gens)(hch:∀b∈ch,(b∈X.ex\/X.s₀.heap.objs.size<=b)/\b≠X.env.locals/\(∀x c,X.env.cells.lookup x=some c->c≠b)/\∀p∈X.pn++M9,p.1≠b):Inv X M9 σ H' s':=by obtain⟨h',g',d',t',o'⟩:=s';have e:o'=s.os:=ho;subst e;exact I.call (g':=g') (t':=t') (d':=d') u hok hg hch
end
abbrev XK:=MW->Option MU->Hp->Prop
abbrev St:=List (Option V)
abbrev VK:=V->Hp->Prop
abbrev TE:=St->Hp->VK->Prop
abbrev TT:=St->Hp->(Bool->Hp->Prop)->Prop
abbrev TA:=St->Hp->(List V->Hp->Prop)->Prop
structure Ends where
 nx:St->Hp->Prop
 rt:VK
 bk:St->Hp->Prop:=λ_ _=>False
 ct:St->Hp->Prop:=λ_ _=>False
abbrev TS:=Ends->St->Hp->Prop
def EP(X:Cx)(M9:MP)(σ:St)(Q:VK)(u:MW)(s':MV):Prop:=∃v H',Inv X M9 σ H' s'/\RelV v u/\Q v H'
def TP(X:Cx)(M9:MP)(σ:St)(Q:Bool->Hp->Prop)(b:Bool)(s':MV):Prop:=∃H',Inv X M9 σ H' s'/\Q b H'
def AP(X:Cx)(M9:MP)(σ:St)(Q:List V->Hp->Prop)(us:MT)(s':MV):Prop:=∃vs H',Inv X M9 σ H' s'/\Vals vs us/\Q vs H'
def SP(X:Cx)(M9:MP)(D:Ends)(f:Flow)(s':MV):Prop :=
 match f with
 |.next=>∃σ' H',Inv X M9 σ' H' s'/\D.nx σ' H'
 |.brk=>∃σ' H',Inv X M9 σ' H' s'/\D.bk σ' H'
 |.cont=>∃σ' H',Inv X M9 σ' H' s'/\D.ct σ' H'
 |.ret u=>∃v σ' H',Inv X M9 σ' H' s'/\RelV v u/\D.rt v H'
def PE(X:Cx)(e:M8)(t:TE):Prop :=
 ∀(M9:MP) (s:MV) (σ:St) (H:Hp) (Q:VK),Inv X M9 σ H s->t σ H Q->wpAny (model X.prog X.w) X.A (eval e X.env) (EP X M9 σ Q) X.xe s
def PT(X:Cx)(e:M8)(t:TT):Prop :=
 ∀(M9:MP) (s:MV) (σ:St) (H:Hp) (Q:Bool->Hp->Prop),Inv X M9 σ H s->t σ H Q->wpAny (model X.prog X.w) X.A (isTrue e X.env (eval e X.env)) (TP X M9 σ Q) X.xe s
def PW(X:Cx)(e:M8)(t:TT):Prop :=
 ∀(whole:Sem MW) (M9:MP) (s:MV) (σ:St) (H:Hp) (Q:Bool->Hp->Prop),Inv X M9 σ H s->t σ H Q->wpAny (model X.prog X.w) X.A (isTrue e X.env whole) (TP X M9 σ Q) X.xe s
theorem PW.pt{X:Cx}{e:M8}{t:TT}(h:PW X e t):PT X e t:=h _
def PA(X:Cx)(es:List M8)(t:TA):Prop :=
 ∀(pos:Pos) (M9:MP) (s:MV) (σ:St) (H:Hp) (Q:List V->Hp->Prop),Inv X M9 σ H s->t σ H Q->wpAny (model X.prog X.w) X.A (spliced (backTo pos (starEach es X.env))) (AP X M9 σ Q) X.xe s
def PS(X:Cx)(st:Stmt)(t:TS):Prop :=
 ∀(M9:MP) (s:MV) (σ:St) (H:Hp) (D:Ends),Inv X M9 σ H s->t D σ H->wpAny (model X.prog X.w) X.A (exec st X.env) (SP X M9 D) X.xe s
def PSs(X:Cx)(st:List Stmt)(t:TS):Prop :=
 ∀(M9:MP) (s:MV) (σ:St) (H:Hp) (D:Ends),Inv X M9 σ H s->t D σ H->wpAny (model X.prog X.w) X.A (execs st X.env) (SP X M9 D) X.xe s
theorem thn{α:Type}{t:Sem α}{Q Q':α->MV->Prop}{M:Model}{A:MZ}{E:MQ}{s:MV}(h:wpAny M A t Q E s)(hQ:∀a s,Q a s->Q' a s):wpAny M A t Q' E s:=ZL h hQ λ_ _ x=>x
section
variable{X:Cx}
inductive tVar(i:Nat)(σ:St)(H:Hp)(Q:VK):Prop
 |mk (v:V) (h:σ[i]?=some (some v)) (q:Q v H):tVar i σ H Q
def tC(v:V):TE:=λ_ H Q=>Q v H
theorem HP{i:Nat}{x:Str}{pos:Pos}(hN:X.N[i]?=some x)(hv:Vis X.env.scope x)(hd:(x==("__debug__":Str))=false:=by decide)(hcd:(x==("__classdict__":Str))=false:=by decide):PE X (.Name x pos) (tVar i):=by
 intro M9 s σ H Q I h;obtain⟨v,e,h⟩:=h;obtain⟨m,hn,hl⟩:=I.loc;obtain⟨u,r,l⟩:=hl i x v hN e hv;have fin:EP X M9 σ Q u s:=#[v,H,I,r,h]
 rcases l with⟨hk,hm⟩|⟨hk,c,hc,hcell⟩
 ·exact wpAny_Name (wpAny_loadName_local I.ok.kind hk hn hm fin) hd
 ·rcases hk with hk|hk
  ·exact wpAny_Name (wpAny_loadName_cell I.ok.kind hk hc hcell fin) hd
  ·exact wpAny_Name (wpAny_loadName_free I.ok.kind hk hc hcell fin hcd) hd
theorem HH{i j pos}:PE X (.Constant (.int i) j pos) (tC (.int i)):=λ_ _ _ H _ I h=>wpAny_Constant_int #[.int i,H,I.tok _,#[_,rfl],h]
theorem JE{b j pos}:PE X (.Constant (.bool b) j pos) (tC (.bl b)):=λ_ _ _ H _ I h=>Constant_bool #[.bl b,H,I,rfl,h]
theorem HJ{j pos}:PE X (.Constant .none j pos) (tC .non):=λ_ _ _ H _ I h=>Constant_none #[.non,H,I,rfl,h]
theorem HM{x j pos}:PE X (.Constant (.str x) j pos) (tC (.str x)):=λ_ _ _ H _ I h=>Calls.Constant_str #[.str x,H,I.tok _,#[_,rfl],h]
def Gl(X:Cx)(x:Str):Prop:=X.env.kindOf x=some .globalImplicit
theorem fT{E:MQ}{M9:MP}{s:MV}{σ:St}{H:Hp}{x:Str}{u:MW}{pos:Pos}{Q:MQ}(I:Inv X M9 σ H s)(hg:Gl X x)(hm:X.mg x=some u)(h:Q u s)(hd:(x==("__debug__":Str))=false:=by decide):wpAny (model X.prog X.w) X.A (eval (.Name x pos) X.env) Q E s :=
 Calls.Name_function_global I.ok.kind hg (Calls.loadGlobal_global (by rw[I.ok.glob];exact I.mod.glob.keeps I.bk) hm h) hd
theorem eC{E:MQ}{M9:MP}{s:MV}{σ:St}{H:Hp}{x:Str}{u:MW}{pos:Pos}{Q:MQ}(I:Inv X M9 σ H s)(hg:Gl X x)(hm:X.mg x=none)(hv:bootBuiltins x=some u)(h:Q u s)(hn:x≠"__name__":=by decide)(hd:(x==("__debug__":Str))=false:=by decide):wpAny (model X.prog X.w) X.A (eval (.Name x pos) X.env) Q E s:=by obtain⟨mb,h1,h2⟩:=I.mod.blt;exact Calls.Name_function_global I.ok.kind hg (Calls.loadGlobal_builtin (by rw[I.ok.glob];exact I.mod.glob.keeps I.bk) hm (by rw[I.ok.blt];exact h1.keeps I.bk) ((h2 x hn).trans hv) h) hd
theorem yj{x:Str}{v:V}{u:MW}{pos:Pos}(hg:Gl X x)(hm:X.mg x=some u)(r:RelV v u)(hd:(x==("__debug__":Str))=false:=by decide):PE X (.Name x pos) (tC v) :=
 λ_ _ _ H _ I h=>fT I hg hm #[v,H,I,r,h] hd
theorem FO{x:Str}{v:V}{u:MW}{pos:Pos}(hg:Gl X x)(hm:X.mg x=none)(hv:bootBuiltins x=some u)(r:RelV v u)(hn:x≠"__name__":=by decide)(hd:(x==("__debug__":Str))=false:=by decide):PE X (.Name x pos) (tC v) :=
 λ_ _ _ H _ I h=>eC I hg hm hv #[v,H,I,r,h] hn hd
variable{a b:M8}{ta tb:TE}{pos:Pos}
def PC(X:Cx)(op:CmpOp)(a b:M8)(t:TE):Prop :=
 ∀(M9:MP) (s:MV) (σ:St) (H:Hp) (Q:VK),Inv X M9 σ H s->t σ H Q ->
  wpAny (model X.prog X.w) X.A (eval a X.env) (λv s₁=>wpAny (model X.prog X.w) X.A (eval b X.env) (λu s₂=>wpAny (model X.prog X.w) X.A (compareOp op v u) (EP X M9 σ Q) X.xe s₂) X.xe s₁) X.xe s
inductive IsB(x:V)(H:Hp)(Q:Bool->Hp->Prop):Prop
 |mk (c:Bool) (h:x=.bl c) (q:Q c H):IsB x H Q
def tB(t:TE):TT:=λσ H Q=>t σ H λx H1=>IsB x H1 Q
theorem HF{op:CmpOp}{t:TE}(h:PC X op a b t)(h1:behindInMarks op b=false:=by first|exact nobehind _ ⋯ ⋯|rfl):PE X (.Compare a [op] [b] pos) t:=λM9 s σ H Q I hw=>wpAny_Compare1 (h M9 s σ H Q I hw) h1
theorem Cq{op:CmpOp}{t:TE}(h:PC X op a b t)(h1:behindInMarks op b=false:=by first|exact nobehind _ ⋯ ⋯|rfl):PT X (.Compare a [op] [b] pos) (tB t):=by intro M9 s σ H Q I hw;refine wpAny_isTrue_Compare1 (thn (h M9 s σ H _ I hw) λv s1 h1=>thn h1 λu s2 h2=>thn h2 λc s3 hz9=>?_) h1;obtain⟨x,H1,I1,r1,q1⟩:=hz9;obtain⟨d,rfl,q⟩:=q1;cases r1;exact ZX #[H1,I1,q]
theorem Ic{e:M8}{t:TE}(h:PE X e t)(he:∀whole,isTrue e X.env whole=(do let v ←whole;standAt e.pos;holding [v] (truthy v)):=by intro _;rfl):PT X e (tB t):=by intro M9 s σ H Q I hw;refine isTrue_plain (thn (h M9 s σ H _ I hw) λv s1 hz9=>?_) (he _);obtain⟨x,H1,I1,r1,q1⟩:=hz9;obtain⟨d,rfl,q⟩:=q1;cases r1;exact ZX #[H1,I1,q]
variable{tA tB':TT}{rest:List M8}
def IC(t u:TT):TT:=λσ H Q=>t σ H λc H1=>if c=true then u σ H1 Q else Q false H1
def tOr(t u:TT):TT:=λσ H Q=>t σ H λc H1=>if c=true then Q true H1 else u σ H1 Q
def II(t:TT):TT:=λσ H Q=>t σ H λc H1=>Q (!c) H1
theorem Gg(ha:PT X a tA):PW X (.BoolOp .And [a] pos) tA:=by
 intro wh M9 s σ H Q I h;refine isTrue_and (thn (ha M9 s σ H Q I h) λc s1 e=>?_);cases c with
 |true=>exact isTrue_and_nil e
 |false=>exact e
theorem Ig(ha:PT X a tA):PW X (.BoolOp .Or [a] pos) tA:=by
 intro wh M9 s σ H Q I h;refine isTrue_or (thn (ha M9 s σ H Q I h) λc s1 e=>?_);cases c with
 |false=>exact isTrue_or_nil e
 |true=>exact e
theorem Ie(ha:PT X a tA)(hb:PW X (.BoolOp .And (b::rest) pos) tB'):PW X (.BoolOp .And (a::b::rest) pos) (IC tA tB'):=by
 intro wh M9 s σ H Q I h;refine isTrue_and (thn (ha M9 s σ H _ I h) λc s1 ⟨H1,I1,q1⟩=>?_);cases c with
 |true=>exact hb wh M9 s1 σ H1 Q I1 q1
 |false=>exact#[H1,I1,q1]
theorem JL(ha:PT X a tA)(hb:PW X (.BoolOp .Or (b::rest) pos) tB'):PW X (.BoolOp .Or (a::b::rest) pos) (tOr tA tB'):=by
 intro wh M9 s σ H Q I h;refine isTrue_or (thn (ha M9 s σ H _ I h) λc s1 ⟨H1,I1,q1⟩=>?_);cases c with
 |true=>exact#[H1,I1,q1]
 |false=>exact hb wh M9 s1 σ H1 Q I1 q1
theorem Ib(ha:PT X a tA):PT X (.UnaryOp .Not a pos) (II tA):=by intro M9 s σ H Q I h;exact isTrue_not (ha M9 s σ H (λc H1=>Q (!c) H1) I h)
def E5(ta tb:TE):TE:=λσ H Q=>ta σ H λx H1=>∃c,x=.bl c/\if c=true then tb σ H1 Q else Q (.bl false) H1
def IJ(ta tb:TE):TE:=λσ H Q=>ta σ H λx H1=>∃c,x=.bl c/\if c=true then Q (.bl true) H1 else tb σ H1 Q
def E7(ta:TE):TE:=λσ H Q=>ta σ H λx H1=>∃c,x=.bl c/\Q (.bl (!c)) H1
theorem HL{op}{t:TE}(h:PE X a t):PE X (.BoolOp op [a] pos) t:=λM9 s σ H Q I hw=>BoolOp_one (h M9 s σ H Q I hw)
theorem HE(ha:PE X a ta)(hb:PE X (.BoolOp .And (b::rest) pos) tb):PE X (.BoolOp .And (a::b::rest) pos) (E5 ta tb):=by
 intro M9 s σ H Q I h;refine BoolOp_and (thn (ha M9 s σ H _ I h) λv s1 hz9=>?_);obtain⟨x,H1,I1,r1,q1⟩:=hz9;obtain⟨c,rfl,q1⟩:=q1;cases r1;refine ZX ?_;cases c with
 |true=>exact hb M9 s1 σ H1 Q I1 q1
 |false=>exact#[.bl false,H1,I1,rfl,q1]
theorem JJ(ha:PE X a ta)(hb:PE X (.BoolOp .Or (b::rest) pos) tb):PE X (.BoolOp .Or (a::b::rest) pos) (IJ ta tb):=by
 intro M9 s σ H Q I h;refine BoolOp_or (thn (ha M9 s σ H _ I h) λv s1 hz9=>?_);obtain⟨x,H1,I1,r1,q1⟩:=hz9;obtain⟨c,rfl,q1⟩:=q1;cases r1;refine ZX ?_;cases c with
 |false=>exact hb M9 s1 σ H1 Q I1 q1
 |true=>exact#[.bl true,H1,I1,rfl,q1]
theorem HK(ha:PE X a ta):PE X (.UnaryOp .Not a pos) (E7 ta):=by intro M9 s σ H Q I h;refine UnaryOp_ (thn (ha M9 s σ H _ I h) λv s1 hz9=>?_);obtain⟨x,H1,I1,r1,q1⟩:=hz9;obtain⟨c,rfl,q1⟩:=q1;cases r1;exact not_of (ZX #[.bl (!c),H1,I1,rfl,q1])
def tIf(t:TT)(ta tb:TE):TE:=λσ H Q=>t σ H λc H1=>if c=true then ta σ H1 Q else tb σ H1 Q
theorem DY{c:M8}(hc:PT X c tA)(ha:PE X a ta)(hb:PE X b tb):PE X (.IfExp c a b pos) (tIf tA ta tb):=by
 intro M9 s σ H Q I h;refine wpAny_IfExp (thn (hc M9 s σ H _ I h) λd s1 ⟨H1,I1,q1⟩=>?_);cases d with
 |true=>exact ha M9 s1 σ H1 Q I1 q1
 |false=>exact hb M9 s1 σ H1 Q I1 q1
end
def SqL(K:W.Frag)(H:Hp)(a:MU)(xs:List V):Prop :=
 Rd H a (.lst xs) \/
  ∃(o:Obj) (its:Array MW) (n:Nat),K.lookup a=some o/\o.cls=.type "list"/\o.dict=none/\o.data=.seq its n/\its.size<=sizeLine/\Vals xs its.toList
def SqT(K:W.Frag)(H:Hp)(a:MU)(xs:List V):Prop :=
 Rd H a (.tup xs) \/
  ∃(o:Obj) (its:Array MW) (n:Nat),K.lookup a=some o/\o.cls=.type "tuple"/\o.data=.seq its n/\its.size<=sizeLine/\Vals xs its.toList
def JY:MW->Option V
 |.none=>some .non
 |.bool b=>some (.bl b)
 |.int i _=>some (.int i)
 |.str x _=>some (.str x)
 |.bytes b _=>some (.byt b)
 |.float b _=>some (.flt b)
 |.ref a=>some (.ref a)
 |.type n=>some (.ty n)
 |_=>none
theorem RelV.abs{x:V}{u:MW}(r:RelV x u):JY u=some x:=by
 cases x with
 |non=>cases r;rfl
 |bl _=>cases r;rfl
 |int _=>obtain⟨t,rfl⟩:=r;rfl
 |str _=>obtain⟨t,rfl⟩:=r;rfl
 |byt _=>obtain⟨t,rfl⟩:=r;rfl
 |flt _=>obtain⟨t,rfl⟩:=r;rfl
 |ref _=>cases r;rfl
 |ty _=>cases r;rfl
theorem RelV.inj{x y:V}{u:MW}(r:RelV x u)(q:RelV y u):x=y:=Zn (r.abs.symm.trans q.abs)
theorem Vals.inj:∀{xs ys:List V} {us:MT},Vals xs us->Vals ys us->xs=ys
 |_,_,_,.nil,.nil=>rfl
 |_,_,_,.cons r t,.cons r' t'=>by rw[r.inj r',Vals.inj t t']
section
variable{X:Cx}{M9:MP}{σ:St}{H:Hp}{s:MV}{a:MU}{xs ys:List V}
theorem Nc{K:W.Frag}(h:H a=some (.lst xs)):SqL K H a xs:=.inl (.inl h)
theorem Nb{K:W.Frag}(h:H a=some (.tup xs)):SqT K H a xs:=.inl (.inl h)
theorem Inv.list(I:Inv X M9 σ H s)(h:SqL X.K H a xs):∃its:MT,Vals xs its/\PlainL s.heap a its.toArray/\xs.length<=sizeLine:=by
 rcases h with h|⟨o,its,n,hk,hc,hd,hs,hz,r⟩
 ·obtain⟨z,its,n,r,e⟩:=h.ok I.hok;exact#[its,r,#[_,n,e,rfl,rfl,rfl],z]
 ·refine#[its.toList,r,#[o,n,I.kIn a o hk,hc,hd,by simpa using hs],?_];have e:=r.length;simp only[ZC]at e;omega
theorem Inv.tuple(I:Inv X M9 σ H s)(h:SqT X.K H a xs):∃its:MT,Vals xs its/\IsTup s.heap a its.toArray/\xs.length<=sizeLine:=by
 rcases h with h|⟨o,its,n,hk,hc,hs,hz,r⟩
 ·obtain⟨z,its,r,p⟩:=h.ok I.hok;exact#[its,r,p,z]
 ·refine#[its.toList,r,#[o,I.kIn a o hk,hc,n,by simpa using hs],?_];have e:=r.length;simp only[ZC]at e;omega
theorem Inv.list_inj(I:Inv X M9 σ H s)(h:SqL X.K H a xs)(h':SqL X.K H a ys):xs=ys:=by
 obtain⟨its,r,⟨o,n,e,_,_,d⟩,_⟩:=I.list h;obtain⟨its',r',⟨o',n',e',_,_,d'⟩,_⟩:=I.list h';rw[e]at e';cases e';rw[d]at d';injection d' with d1 _;have:its=its':=by simpa using Yw Array.toList d1
 subst this;exact r.inj r'
theorem Inv.tuple_inj(I:Inv X M9 σ H s)(h:SqT X.K H a xs)(h':SqT X.K H a ys):xs=ys:=by
 obtain⟨its,r,⟨o,e,_,n,d⟩,_⟩:=I.tuple h;obtain⟨its',r',⟨o',e',_,n',d'⟩,_⟩:=I.tuple h';rw[e]at e';cases e';rw[d]at d';injection d' with d1 _;have:its=its':=by simpa using Yw Array.toList d1
 subst this;exact r.inj r'
end
abbrev Cx.wish(X:Cx)(E:MQ):Cx:={ X with xe:=E }
abbrev Cx.nox(X:Cx):Cx:=X.wish λ_ _=>False
theorem Cx.Ok.wish{X:Cx}(ok:X.Ok)(E:MQ):(X.wish E).Ok :=
 #[ok.mod,ok.kind,ok.glob,ok.blt,ok.above,ok.inj,ok.has,ok.cab,ok.hd,ok.frames,ok.stk,ok.exf,ok.bs,ok.bsz,ok.noex,ok.exfs,ok.funs,ok.frf]
theorem Cx.Ok.unwish{X:Cx}{E:MQ}(ok:(X.wish E).Ok):X.Ok :=
 #[ok.mod,ok.kind,ok.glob,ok.blt,ok.above,ok.inj,ok.has,ok.cab,ok.hd,ok.frames,ok.stk,ok.exf,ok.bs,ok.bsz,ok.noex,ok.exfs,ok.funs,ok.frf]
section
variable{X:Cx}{M9:MP}{σ:St}{H:Hp}{s:MV}{E:MQ}
theorem Inv.wish(I:Inv X M9 σ H s)(E:MQ):Inv (X.wish E) M9 σ H s:=#[I.ok.wish E,I.os,I.bare,I.base,I.loc,I.cell,I.free,I.freeC,I.pin,I.hok,I.len]
theorem Inv.unwish(I:Inv (X.wish E) M9 σ H s):Inv X M9 σ H s:=#[I.ok.unwish,I.os,I.bare,I.base,I.loc,I.cell,I.free,I.freeC,I.pin,I.hok,I.len]
theorem SP.unwish{D:Ends}{f:Flow}{s':MV}(h:SP (X.wish E) M9 D f s'):SP X M9 D f s':=by
 cases f with
 |next=>obtain⟨σ',H',I,q⟩:=h;exact#[σ',H',I.unwish,q]
 |brk=>obtain⟨σ',H',I,q⟩:=h;exact#[σ',H',I.unwish,q]
 |cont=>obtain⟨σ',H',I,q⟩:=h;exact#[σ',H',I.unwish,q]
 |ret u=>obtain⟨v,σ',H',I,r,q⟩:=h;exact#[v,σ',H',I.unwish,r,q]
theorem PSs.nox{st:List Stmt}{t:TS}(h:PSs X.nox st t):PSs X st t:=λM9 s σ H D I hw =>
 ZL (h M9 s σ H D (I.wish _) hw) (λ_ _ q=>q.unwish) λ_ _ z=>False.elim z
end
section
variable{X:Cx}{st:Stmt}{rest:List Stmt}{t u:TS}{e:M8}{te:TE}{pos:Pos}
def pY:TS:=λD σ H=>D.nx σ H
def AB(t u:TS):TS:=λD σ H=>t { D with nx:=u D } σ H
theorem Gd:PSs X [] pY:=λ_ _ σ H _ I h=>wpAny_execs_nil #[σ,H,I,h]
theorem Ec(h1:PS X st t)(h2:PSs X rest u):PSs X (st::rest) (AB t u):=by
 intro M9 s σ H D I h;refine wpAny_execs_cons (thn (h1 M9 s σ H { D with nx:=u D } I h) λf s1 q=>?_);cases f with
 |next =>obtain⟨σ',H',I',q⟩:=q;exact h2 M9 s1 σ' H' D I' q
 |ret v=>exact q
 |brk=>exact q
 |cont=>exact q
theorem Ge(h1:PS X st t):PSs X [st] t:=by
 intro M9 s σ H D I h;refine wpAny_execs_cons (thn (h1 M9 s σ H D I h) λf s1 q=>?_);cases f with
 |next=>exact wpAny_execs_nil q
 |ret v=>exact q
 |brk=>exact q
 |cont=>exact q
theorem Inv.quiet{M9:MP}{σ:St}{H:Hp}{s:MV}(I:Inv X M9 σ H s):interactive X.env=false:=by simp[interactive,I.ok.kind]
def Az(te:TE):TS:=λD σ H=>te σ H λ_ H1=>D.nx σ H1
theorem Gb(he:PE X e te)(hs:swapsWith e none pos.line X.env=pure false:=by rfl):PS X (.Expr e pos) (Az te):=by intro M9 s σ H D I h;exact wpAny_Expr_any (thn (he M9 s σ H _ I h) λv s1 ⟨x,H1,I1,r1,q1⟩=>#[σ,H1,I1,q1]) I.quiet hs
def IK(te:TE):TS:=λD σ H=>te σ H D.rt
theorem HZ(he:PE X e te):PS X (.Return (some e) pos) (IK te):=by intro M9 s σ H D I h;exact wpAny_Return_some (thn (he M9 s σ H _ I h) λv s1 ⟨x,H1,I1,r1,q1⟩=>#[x,σ,H1,I1,r1,q1])
def AA(c:TT)(t u:TS):TS:=λD σ H=>c σ H λb H1=>if b=true then t D σ H1 else u D σ H1
theorem JK{c:M8}{a b:List Stmt}{tc:TT}(hc:PT X c tc)(ha:PSs X a t)(hb:PSs X b u):PS X (.If c a b pos) (AA tc t u):=by
 intro M9 s σ H D I h;refine wpAny_If (thn (hc M9 s σ H _ I h) λd s1 ⟨H1,I1,q1⟩=>?_);cases d with
 |true=>exact ha M9 s1 σ H1 D I1 q1
 |false=>exact hb M9 s1 σ H1 D I1 q1
end
abbrev TG:=V->St->Hp->(St->Hp->Prop)->Prop
abbrev TGs:=List V->St->Hp->(St->Hp->Prop)->Prop
def PG(X:Cx)(target:M8)(t:TG):Prop :=
 ∀(M9:MP) (s:MV) (σ:St) (H:Hp) (v:V) (u:MW) (Q:St->Hp->Prop),Inv X M9 σ H s->RelV v u->t v σ H Q ->
  wpAny (model X.prog X.w) X.A (assign target X.env u) (λ_ s'=>∃σ' H',Inv X M9 σ' H' s'/\Q σ' H') X.xe s
def PGs(X:Cx)(ts:List M8)(t:TGs):Prop :=
 ∀(M9:MP) (s:MV) (σ:St) (H:Hp) (vs:List V) (us:MT) (Q:St->Hp->Prop),Inv X M9 σ H s->Vals vs us->t vs σ H Q ->
  wpAny (model X.prog X.w) X.A (assignInOrder ((assignEach ts X.env).map (·.2)) us) (λ_ s'=>∃σ' H',Inv X M9 σ' H' s'/\Q σ' H') X.xe s
abbrev ux:=V->V->V->Hp->(Hp->Prop)->Prop
def Dc(X:Cx)(t:ux):Prop :=
 ∀(M9:MP) (s:MV) (σ:St) (H:Hp) (o i v:V) (ov iv u:MW) (Q:Hp->Prop),Inv X M9 σ H s->RelV o ov->RelV i iv->RelV v u->t o i v H Q ->
  wpAny (model X.prog X.w) X.A (setItem ov iv u) (λ_ s'=>∃H',Inv X M9 σ H' s'/\Q H') X.xe s
abbrev TIp:=V->V->Hp->VK->Prop
def PIp(X:Cx)(op:Operator)(t:TIp):Prop :=
 ∀(M9:MP) (s:MV) (σ:St) (H:Hp) (x y:V) (v u:MW) (Q:VK),Inv X M9 σ H s->RelV x v->RelV y u->t x y H Q ->
  wpAny (model X.prog X.w) X.A (inplaceOp op v u) (EP X M9 σ Q) X.xe s
section
variable{X:Cx}{pos:Pos}
def bo(i:Nat):TG:=λv σ H Q=>Q (σ.set i (some v)) H
theorem FU{i:Nat}{x:Str}(hN:X.N.Nodup)(hi:X.N[i]?=some x)(hx:Loc X.env.scope x)(hf:X.fn x=true\/X.env.scope.names.lookup x=some .local:=by first|exact .inl rfl|exact .inr rfl|assumption):PG X (.Name x pos) (bo i):=by intro M9 s σ H v u Q I r h;exact wpAny_assign_Name (ww I hN hi hx r (λs' I'=>#[_,H,I',h]) hf)
def jY:TGs:=λvs σ H Q=>vs=[]/\Q σ H
def dS(t:TG)(u:TGs):TGs:=λvs σ H Q=>∃v r,vs=v::r/\t v σ H λσ' H'=>u r σ' H' Q
theorem FV:PGs X [] jY:=by intro M9 s σ H vs us Q I r h;obtain⟨e,h⟩:=h;subst e;cases r;exact assignInOrder_nil #[σ,H,I,h]
theorem D5{e:M8}{es:List M8}{t:TG}{u:TGs}(h1:PG X e t)(h2:PGs X es u)(hs:(assignEach (e::es) X.env).map (·.2)=assign e X.env::(assignEach es X.env).map (·.2):=by rfl):PGs X (e::es) (dS t u):=by
 intro M9 s σ H vs us Q I r h;obtain⟨v,vr,e1,h⟩:=h;subst e1;cases r with
 |cons r rr =>rw[hs];refine assignInOrder_cons (thn (h1 M9 s σ H _ _ _ I r h) λ_ s1 ⟨σ1,H1,I1,q1⟩=>?_);exact h2 M9 s1 σ1 H1 _ _ Q I1 rr q1
def jZ(K:W.Frag)(n:Nat)(t:TGs):TG:=λv σ H Q=>∃a xs,v=.ref a/\SqT K H a xs/\xs.length=n/\t xs σ H Q
theorem HS{es:List M8}{k:Nat}{t:TGs}{n:Nat}(hc:X.calm=true)(h:PGs X es t)(hn:(assignEach es X.env).length=n:=by rfl)(hst:(assignEach es X.env).findIdx? (·.1)=none:=by rfl):PG X (.Tuple es k pos) (jZ X.K n t):=by intro M9 s σ H v u Q I r hw;obtain⟨a,xs,e1,hq,hl,hw⟩:=hw;subst e1;cases r;obtain⟨its,rv,ht,hz⟩:=I.tuple hq;refine assign_Tuple_tuple (I.ok.hd hc) ht (by simp[hn,<-hl,rv.length]) hst λh' hx=>?_;have I1:Inv X M9 σ H { s with heap:=h' }:=I.kept (t':=s.toks) λb o e=>hx b o (Zo (Zh e)) e;exact h M9 _ σ H xs _ Q I1 (by simpa using rv) hw
def G4(to ti:TE)(t:ux):TG:=λv σ H Q=>to σ H λo H1=>ti σ H1 λi H2=>t o i v H2 λH3=>Q σ H3
theorem HR{o i:M8}{to ti:TE}{t:ux}(ho:PE X o to)(hi:PE X i ti)(hs:Dc X t)(ha:∀ v,assign (.Subscript o i pos) X.env v=(do
   let ov ←holding [v] (eval o X.env)
   let iv ←holding [v,ov] (eval i X.env)
   standAt pos
   holding [v,ov,iv] (setItem ov iv v)
   release [v,ov,iv] []):=by intro _;rfl):PG X (.Subscript o i pos) (G4 to ti t):=by
 intro M9 s σ H v u Q I r h;rw[ha];refine z0 (ZF (thn (ho M9 s σ H _ I h) λov s1 hz9=>?_));obtain⟨x,H1,I1,r1,q1⟩:=hz9;refine z0 (ZF (thn (hi M9 s1 σ H1 _ I1 q1) λiv s2 hz9=>?_));obtain⟨y,H2,I2,r2,q2⟩:=hz9;refine z0 (wpAny_standAt (z0 (ZF (thn (hs M9 s2 σ H2 x y v ov iv u _ I2 r1 r2 r q2) λ_ s3 ⟨H3,I3,q3⟩=>?_))));exact wpAny_release #[σ,H3,I3,q3]
def rE(te:TE)(g:TG):TS:=λD σ H=>te σ H λx H1=>g x σ H1 D.nx
theorem HW{tg e:M8}{te:TE}{g:TG}(he:PE X e te)(hg:PG X tg g)(hs:swapsWithSole [tg] e pos.line X.env=pure false:=by rfl)(hw:swappedStores [tg] e X.env=pure none:=by rfl)(h1:(assignEach [tg] X.env).map (·.2)=[assign tg X.env]:=by rfl):PS X (.Assign [tg] e pos) (rE te g):=by intro M9 s σ H D I h;refine wpAny_Assign_stores (thn (he M9 s σ H _ I h) λv s1 hz9=>?_) hs hw;obtain⟨x,H1,I1,r1,q1⟩:=hz9;rw[h1];exact thn (hg M9 s1 σ H1 x v _ I1 r1 q1) λ_ s2 q=>q
theorem Ia{i:Nat}{x:Str}{e:M8}{te:TE}{pos':Pos}(hN:X.N.Nodup)(hi:X.N[i]?=some x)(hx:Loc X.env.scope x)(he:PE X e te)(hs:swapsWith e (some (.Name x pos')) pos.line X.env=pure false:=by rfl)(hf:X.fn x=true\/X.env.scope.names.lookup x=some .local:=by first|exact .inl rfl|exact .inr rfl|assumption) :
  PS X (.Assign [.Name x pos'] e pos) (rE te (bo i)):=by
 intro M9 s σ H D I h;refine wpAny_Assign_Name (thn (he M9 s σ H _ I h) λv s1 hz9=>?_) hs;obtain⟨y,H1,I1,r1,q1⟩:=hz9;exact ww I1 hN hi hx r1 (λs2 I2=>#[_,H1,I2,q1]) hf
end
section
variable{X:Cx}{pos:Pos}
def CW(c:TT)(tb:TS):TS:=λD σ H=>∃W:Nat->St->Hp->Prop,(∃m,W m σ H)/\∀m σ H,W m σ H ->
 c σ H λb H1=>if b=true then∃N:St->Hp->Prop,(∀σ' H',N σ' H'->∃m',m'<m/\W m' σ' H')/\tb { D with nx:=N,ct:=N,bk:=D.nx } σ H1 else D.nx σ H1
theorem Eb{c:M8}{body:List Stmt}{tc:TT}{tb:TS}(hp:PassesOwn (model X.prog X.w) X.A X.env X.xe)(hc:PT X c tc)(hb:PSs X body tb):PS X (.While c body [] pos) (CW tc tb):=by
 intro M9 s σ H D I h;obtain⟨W,⟨m0,w0⟩,turn⟩:=h;refine wpAny_While (codeAny_whileLoop (λn s'=>∃σ' H',Inv X M9 σ' H' s'/\W n σ' H') ?_ m0 #[σ,H,I,w0]);rintro n s1 ⟨σ1,H1,I1,w1⟩;refine wpAny_passesOwn hp (thn (hc M9 s1 σ1 H1 _ I1 (turn n σ1 H1 w1)) λb s2 ⟨H2,I2,q2⟩=>?_);cases b with
 |true =>
  obtain⟨N,hN,q2⟩:=q2;rw[MO rfl];refine wpAny_passesOwn hp (thn (hb M9 s2 σ1 H2 _ I2 q2) λf s3 q3=>?_);cases f with
  |next =>obtain⟨σ3,H3,I3,n3⟩:=q3;obtain⟨m',hm,w3⟩:=hN σ3 H3 n3;exact#[m',hm,σ3,H3,I3,w3]
  |cont =>obtain⟨σ3,H3,I3,n3⟩:=q3;obtain⟨m',hm,w3⟩:=hN σ3 H3 n3;exact#[m',hm,σ3,H3,I3,w3]
  |brk=>exact q3
  |ret v=>exact q3
 |false =>rw[MN Zg];exact wpAny_execs_nil #[σ1,H2,I2,q2]
end
structure It where
 go:Nat->Hp->Prop
 yld:Nat->Hp->V->Hp->Prop
 stop:Nat->Hp->Prop
def bG(X:Cx)(M9:MP)(H:Hp)(b:MU):Prop :=
 H b=none/\b≠X.env.locals/\b∉X.fs/\(b∈X.ex\/X.s₀.heap.objs.size<=b)/\(∀x c,X.env.cells.lookup x=some c->c≠b)/\∀p∈X.pn++M9,p.1≠b
theorem Inv.fpOk{X:Cx}{M9:MP}{σ:St}{H H':Hp}{s:MV}{b:MU}(I:Inv X M9 σ H s)(hb:s.heap.objs.size<=b)(hn:H' b=none):bG X M9 H' b:=by
 refine#[hn,ZY (Zt I.lt hb),I.nofs hb,.inr (Zq I.sz hb),λx c e z=>?_,λp hp z=>?_]
 ·obtain⟨v,q⟩:=I.cell x c e;exact absurd (Zt q.lt (by rw[z];exact hb)) (YD _)
 ·exact absurd (Zt (Zh (I.pin p hp).1) (by rw[z];exact hb)) (YD _)
structure Turn(P:MX)(w:MY)(K:W.Frag)(tg:M8)(J:It)(fp:List MU)(it:MU)(tn:Nat->Heap->Prop):Prop where
 mem:it∈fp
 obj:∀i h,tn i h->∀b∈fp,∃o,h.get? b=some o/\∀v,o.data≠.cell v
 keep:∀i h h',tn i h->(∀b∈fp,∀o,h.get? b=some o->h'.get? b=some o)->tn i h'
 item:∀(X:Cx),X.prog=P->X.w=w->X.K=K->X.calm=true->∀(i:Nat) (M9:MP) (s:MV) (σ:St) (H:Hp) (E:MQ),Inv X M9 σ H s->(∀b∈fp,bG X M9 H b)->tn i s.heap->J.go i H ->
  wpAny (model P w) X.A (pyNext (.ref it)) (λr s1=>∃ u,r=some u /\
   wpAny (model P w) X.A (letOwnedTupleGo tg (.ref it) u) (λ_ s2=>∃ x H',Inv X M9 σ H' s2/\RelV x u/\J.yld i H x H'/\tn (i+1) s2.heap/\∀ b∈fp,H' b=none) E s1) E s
 done:∀(X:Cx),X.prog=P->X.w=w->X.K=K->X.calm=true->∀(i:Nat) (M9:MP) (s:MV) (σ:St) (H:Hp) (E:MQ),Inv X M9 σ H s->(∀b∈fp,bG X M9 H b)->tn i s.heap->J.stop i H ->
  wpAny (model P w) X.A (pyNext (.ref it)) (λr s1=>r=none/\Inv X M9 σ H s1) E s
 self:∀(A:MZ) (i:Nat) (s:MV) (Q:MQ) (E:MQ),tn i s.heap->Q (.ref it) s->wpAny (model P w) A (pyIter (.ref it)) Q E s
abbrev TI:=St->Hp->(It->Hp->Prop)->Prop
def PIE(X:Cx)(M9:MP)(σ:St)(tg:M8)(R:It->Hp->Prop)(itv:MW)(s2:MV):Prop :=
 ∃(it:MU) (fp:List MU) (tn:Nat->Heap->Prop) (J:It) (H':Hp),itv=.ref it/\Inv X M9 σ H' s2/\Turn X.prog X.w X.K tg J fp it tn/\tn 0 s2.heap/\(∀b∈fp,bG X M9 H' b)/\R J H'
def PI(X:Cx)(tg iter:M8)(wi:TI):Prop :=
 ∀(M9:MP) (s:MV) (σ:St) (H:Hp) (R:It->Hp->Prop),Inv X M9 σ H s->wi σ H R ->
  wpAny (model X.prog X.w) X.A (eval iter X.env) (λv s1=>wpAny (model X.prog X.w) X.A (pyIter v) (PIE X M9 σ tg R) X.xe s1) X.xe s
theorem oX{M:Model}{A:MZ}{E:MQ}{s:MV}{tg:M8}{it:MU}{u:MW}{o:Obj}{n:String}{vs:Array MW}{Q:Unit->MV->Prop}(ho:s.heap.get? it=some o)(hc:o.cls=.type n)(hd:o.data=.fields vs)(hn:["enumerate","zip","dict_itemiterator","dict_reverseitemiterator","odict_iterator","itertools.zip_longest","itertools.pairwise"].contains n=false)(hQ:Q () s):wpAny M A (letOwnedTupleGo tg (.ref it) u) Q E s:=by
 unfold letOwnedTupleGo;cases tg<;>first
  |exact z9 hQ
  | (cases u<;>first
    |exact z9 hQ
    | (refine z0 (wpAny_load ho ?_)
       rw[hc,hd];show wpAny M A (if(["enumerate","zip","dict_itemiterator","dict_reverseitemiterator","odict_iterator","itertools.zip_longest","itertools.pairwise"].contains n&&vs[0]?==some (rawInt _))=true then _ else _) Q E s;rw[MN (by intro h;rw[hn,Bool.false_and]at h;cases h)];exact z9 hQ))
def Itl(K:W.Frag)(a:MU):It :=
 #[λi H=>∃xs x,SqL K H a xs/\xs[i]?=some x,λi H x H'=>H'=H/\∀xs,SqL K H a xs->xs[i]?=some x,λi H=>∃xs,SqL K H a xs/\xs.length<=i]
def Itt(K:W.Frag)(a:MU):It :=
 #[λi H=>∃xs x,SqT K H a xs/\xs[i]?=some x,λi H x H'=>H'=H/\∀xs,SqT K H a xs->xs[i]?=some x,λi H=>∃xs,SqT K H a xs/\xs.length<=i]
def Itr(lo:Int)(n:Nat):It:=#[λi _=>i<n,λi H x H'=>H'=H/\x=.int (lo+i),λi _=>n<=i]
theorem C0{P:MX}{w:MY}{K:W.Frag}{tg:M8}(a it:MU):Turn P w K tg (Itl K a) [it] it (λi h=>h.IsListIter it a i) where
 mem:=by simp
 obj:=λi h st b hb=>by
  have e:b=it:=by simpa using hb
  subst e;obtain⟨o,e,c,d⟩:=st;exact#[o,e,λv z=>by rw[d]at z;cases z]
 keep:=λi h h' st k=>st.at λo e=>k it (by simp) o e
 item:=by intro X hP hw hK hc i M9 s σ H E I hf st hg;subst hP hw hK;obtain⟨xs,x,hq,hx⟩:=hg;obtain⟨its,rv,p,hz⟩:=I.list hq;obtain⟨u,hu,ru⟩:=rv.get hx;obtain⟨f0,f1,f2,f3,f4,f5⟩:=hf it (by simp);refine wpAny_pyNext_list_item st p.isList (x:=u) (by simpa using hu) λh' st' sb=>?_;have I1:Inv X M9 σ H { s with heap:=h' }:=I.turned (t':=s.toks) (λb o hb e=>(sb.2 b hb).trans e) f0 f1 f3 f4 f5;obtain⟨o,e,c,d⟩:=id st';exact#[u,rfl,oX (s:={ s with heap:=h' }) e c d ⋯ #[x,H,I1,ru,#[rfl,λys hy=>by rw[I.list_inj hy hq];exact hx],st',λb hb=>(hf b hb).1]]
 done:=by intro X hP hw hK hc i M9 s σ H E I hf st hg;subst hP hw hK;obtain⟨xs,hq,hx⟩:=hg;obtain⟨its,rv,p,hz⟩:=I.list hq;obtain⟨f0,f1,f2,f3,f4,f5⟩:=hf it (by simp);have hl:=rv.length;exact wpAny_pyNext_list_end (I.ok.hd hc) st p.isList (by simp;omega) λh' eb=>#[rfl,I.turned (t':=s.toks) (λb o hb e=>eb b o hb e) f0 f1 f3 f4 f5]
 self:=λ_ _ _ _ _ st h=>wpAny_pyIter_listiter st h
theorem AH{P:MX}{w:MY}{K:W.Frag}{tg:M8}(a it:MU):Turn P w K tg (Itt K a) [it] it (λi h=>h.IsTupleIter it a i) where
 mem:=by simp
 obj:=λi h st b hb=>by
  have e:b=it:=by simpa using hb
  subst e;obtain⟨o,e,c,d⟩:=st;exact#[o,e,λv z=>by rw[d]at z;cases z]
 keep:=λi h h' st k=>st.at λo e=>k it (by simp) o e
 item:=by intro X hP hw hK hc i M9 s σ H E I hf st hg;subst hP hw hK;obtain⟨xs,x,hq,hx⟩:=hg;obtain⟨its,rv,p,hz⟩:=I.tuple hq;obtain⟨u,hu,ru⟩:=rv.get hx;obtain⟨f0,f1,f2,f3,f4,f5⟩:=hf it (by simp);refine wpAny_pyNext_tuple_item st (show s.heap.IsTuple a its.toArray from p) (x:=u) (by simpa using hu) λh' st' sb=>?_;have I1:Inv X M9 σ H { s with heap:=h' }:=I.turned (t':=s.toks) (λb o hb e=>(sb.2 b hb).trans e) f0 f1 f3 f4 f5;obtain⟨o,e,c,d⟩:=id st';exact#[u,rfl,oX (s:={ s with heap:=h' }) e c d ⋯ #[x,H,I1,ru,#[rfl,λys hy=>by rw[I.tuple_inj hy hq];exact hx],st',λb hb=>(hf b hb).1]]
 done:=by intro X hP hw hK hc i M9 s σ H E I hf st hg;subst hP hw hK;obtain⟨xs,hq,hx⟩:=hg;obtain⟨its,rv,p,hz⟩:=I.tuple hq;obtain⟨f0,f1,f2,f3,f4,f5⟩:=hf it (by simp);have hl:=rv.length;exact wpAny_pyNext_tuple_end (I.ok.hd hc) st (show s.heap.IsTuple a its.toArray from p) (by simp;omega) λh' eb=>#[rfl,I.turned (t':=s.toks) (λb o hb e=>eb b o hb e) f0 f1 f3 f4 f5]
 self:=λ_ _ _ _ _ st h=>wpAny_pyIter_tupleiter st h
theorem AG{P:MX}{w:MY}{K:W.Frag}{tg:M8}(it:MU)(lo:Int)(n:Nat):Turn P w K tg (Itr lo n) [it] it (λi h=>IsRangeIter h it (lo+(i:Nat)*1) ((n:Int)-(i:Nat)) 1) where
 mem:=by simp
 obj:=λi h st b hb=>by
  have e:b=it:=by simpa using hb
  subst e;exact#[_,st,λv z=>by
   have z':Data.fields _=Data.cell v:=z;cases z']
 keep:=λi h h' st k=>k it (by simp) _ st
 item:=by intro X hP hw hK hc i M9 s σ H E I hf st hg;subst hP hw hK;obtain⟨f0,f1,f2,f3,f4,f5⟩:=hf it (by simp);have W:=Walks.range (prog:=X.prog) (w:=X.w) (I.ok.hd hc) it lo 1 n;refine W.item i s _ _ hg st λv h' tk hv st' kk=>?_;obtain⟨t,rfl⟩:=hv;have I1:Inv X M9 σ H { s with heap:=h',toks:=tk }:=I.turned (λb o hb e=>kk b o (by simpa using hb) e) f0 f1 f3 f4 f5;refine#[_,rfl,oX (s:={ s with heap:=h',toks:=tk }) (n:="range_iterator") st' rfl rfl ⋯ #[.int (lo+i),H,I1,#[t,?_],#[rfl,rfl],st',λb hb=>(hf b hb).1]];rw[Int.mul_one]
 done:=by intro X hP hw hK hc i M9 s σ H E I hf st hg;subst hP hw hK;obtain⟨f0,f1,f2,f3,f4,f5⟩:=hf it (by simp);exact wpAny_pyNext_range_end (I.ok.hd hc) st (by have:n<=i:=hg;omega) λh' eb=>#[rfl,I.turned (t':=s.toks) (λb o hb e=>eb b o hb e) f0 f1 f3 f4 f5]
 self:=λ_ _ _ _ _ st h=>wpAny_pyIter_rangeiter st h
section
variable{X:Cx}{tg:M8}
def EI(K:W.Frag)(tl:TE):TI:=λσ H R=>tl σ H λx H1=>∃a,x=.ref a/\(∃xs,SqL K H1 a xs)/\R (Itl K a) H1
def G7(K:W.Frag)(tl:TE):TI:=λσ H R=>tl σ H λx H1=>∃a,x=.ref a/\(∃xs,SqT K H1 a xs)/\R (Itt K a) H1
theorem FY{l:M8}{tl:TE}(hl:PE X l tl):PI X tg l (EI X.K tl):=by
 intro M9 s σ H R I h;refine thn (hl M9 s σ H _ I h) λv s1 hz9=>?_;obtain⟨x,H1,I1,r1,q1⟩:=hz9;obtain⟨a,e,⟨xs,hq⟩,q⟩:=q1;subst e;cases r1;obtain⟨its,rv,p,hz⟩:=I1.list hq;refine YW p.isList ?_;refine#[s1.heap.objs.size,[s1.heap.objs.size],_,_,H1,rfl,I1.kept (t':=s1.toks) λb o e=>z6 _ e,C0 a _,#[_,Ze _ rfl,rfl,rfl],λb hb=>?_,q];have e:b=s1.heap.objs.size:=by simpa using hb
 subst e;exact I1.fpOk (Za _) (I1.hok.fresh (Za _))
theorem HU{l:M8}{tl:TE}(hl:PE X l tl):PI X tg l (G7 X.K tl):=by
 intro M9 s σ H R I h;refine thn (hl M9 s σ H _ I h) λv s1 hz9=>?_;obtain⟨x,H1,I1,r1,q1⟩:=hz9;obtain⟨a,e,⟨xs,hq⟩,q⟩:=q1;subst e;cases r1;obtain⟨its,rv,p,hz⟩:=I1.tuple hq;refine Y7 (show s1.heap.IsTuple a its.toArray from p) ?_;refine#[s1.heap.objs.size,[s1.heap.objs.size],_,_,H1,rfl,I1.kept (t':=s1.toks) λb o e=>z6 _ e,AH a _,#[_,Ze _ rfl,rfl,rfl],λb hb=>?_,q];have e:b=s1.heap.objs.size:=by simpa using hb
 subst e;exact I1.fpOk (Za _) (I1.hok.fresh (Za _))
theorem Ef{M9:MP}{σ:St}{H:Hp}{s:MV}{R:It->Hp->Prop}{E:MQ}{lo hi:Int}{t u v:Tok}{tk:Nat}(I:Inv X M9 σ H s)(h1:-(2^62)<=lo)(h2:lo<2^62)(h3:-(2^62)<=hi)(h4:hi<2^62)(q:R (Itr lo (hi-lo).toNat) H):wpAny (model X.prog X.w) X.A (pyIter (.ref s.heap.objs.size)) (PIE X M9 σ tg R) E { s with heap:=s.heap.push { cls:=.type "range",data:=.fields (List.toArray [.int lo t,.int hi u,.int 1 v]) },toks:=tk }:=by
 refine wpAny_pyIter_range (IsRange.new ..) (small_one h1 h2 h3 h4) ?_;have I1:Inv X M9 σ H { s with heap:=s.heap.push { cls:=.type "range",data:=.fields (List.toArray [.int lo t,.int hi u,.int 1 v]) },toks:=tk }:=I.kept λb o e=>z6 _ e;refine#[(s.heap.push { cls:=.type "range",data:=.fields (List.toArray [.int lo t,.int hi u,.int 1 v]) }).objs.size,[(s.heap.push { cls:=.type "range",data:=.fields (List.toArray [.int lo t,.int hi u,.int 1 v]) }).objs.size],_,_,H,rfl,
  I1.kept (t':=tk) λb o e=>z6 _ e,AG _ lo (hi - lo).toNat,?_,λb hb=>?_,q]
 ·have e1:lo+((0:Nat):Int)*1=lo:=by simp
  have e2:(((hi-lo).toNat:Nat):Int)-((0:Nat):Int)=Builtin.Range.rangeSize lo hi 1:=by rw[rangeSize_one];split<;>omega
  show IsRangeIter _ _ (lo+((0:Nat):Int)*1) ((((hi-lo).toNat:Nat):Int)-((0:Nat):Int)) 1;rw[e1,e2];exact Ze _ rfl
 ·have e:b=(s.heap.push { cls:=.type "range",data:=.fields (List.toArray [.int lo t,.int hi u,.int 1 v]) }).objs.size:=by simpa using hb
  subst e;exact I1.fpOk (Za _) (I1.hok.fresh (Za _))
def EJ(ta:TA):TI:=λσ H R=>ta σ H λvs H1=>∃j:Int,vs=[.int j]/\-(2^62)<=j/\j<2^62/\R (Itr 0 j.toNat) H1
theorem Cn{a:M8}{ta:TA}{p pos:Pos}(hg:Gl X "range")(hm:X.mg "range" = none)(ha:PA X [a] ta)(hs:starEach [a] X.env=[(false,eval a X.env)]:=by rfl):PI X tg (.Call (.Name "range" p) [a] [] pos) (EJ ta):=by
 intro M9 s σ H R I h;refine Call_ (eC I hg hm boot_range (Yt (thn (ha pos M9 s σ H _ I h) λus s1 hz9=>?_) hs rfl));obtain⟨vs,H1,I1,r1,q1⟩:=hz9;obtain⟨j,e,q1,q2,q⟩:=q1;subst e;cases r1 with
 |cons r rr =>cases rr;obtain⟨t,rfl⟩:=r;exact call_range_1 (Ef I1 ∅ ∅ q1 q2 (by simpa using q))
def IE(wi:TI)(g:TG)(tb:TS):TS:=λD σ H=>wi σ H λJ H1=>∃W:Nat->Nat->St->Hp->Prop,(∃m,W 0 m σ H1)/\∀i m σ H,W i m σ H ->
 (J.stop i H/\D.nx σ H)\/(J.go i H/\∃N:St->Hp->Prop,(∀σ' H',N σ' H'->∃m',m'<m/\W (i+1) m' σ' H')/\∀x H',J.yld i H x H'->g x σ H' λσ2 H2=>tb { D with nx:=N,ct:=N,bk:=D.nx } σ2 H2)
def lG(fp:List MU)(h:Heap):MP:=fp.filterMap λb=>(h.get? b).map λo=>(b,o)
theorem gZ{fp:List MU}{h:Heap}{b:MU}{o:Obj}(hb:b∈fp)(e:h.get? b=some o):(b,o)∈lG fp h:=Y8.mpr #[b,hb,by rw[e];rfl]
theorem B9{fp:List MU}{h:Heap}{p:MU×Obj}(hp:p∈lG fp h):p.1∈fp/\h.get? p.1=some p.2:=by
 obtain⟨b,hb,e⟩:=Y8.mp hp;cases q:h.get? b with
 |none=>rw[q]at e;cases e
 |some o =>rw[q]at e;have e':(b,o)=p:=Zn e;subst e';exact#[hb,q]
theorem Inv.pinned{M9:MP}{σ:St}{H:Hp}{s:MV}{fp:List MU}(I:Inv X M9 σ H s)(hf:∀b∈fp,bG X M9 H b)(ho:∀b∈fp,∃o,s.heap.get? b=some o/\∀v,o.data≠.cell v):Inv X (M9++lG fp s.heap) σ H s :=
 I.pins_of λp hp=>(Zs.mp hp).elim (λz=>I.pin p (Zr _ z)) λz=>by obtain⟨hb,e⟩:=B9 z;obtain⟨f0,f1,f2,_⟩:=hf p.1 hb;obtain⟨o,e',d⟩:=ho p.1 hb;rw[e]at e';cases e';exact#[e,f0,f1,f2,d]
theorem Inv.unpinned{M9 pl:MP}{σ:St}{H:Hp}{s:MV}(I:Inv X (M9++pl) σ H s):Inv X M9 σ H s:=I.pins_of λp hp=>I.pin p (Zr _ (Z3 _ hp))
theorem HY{iter:M8}{body:List Stmt}{wi:TI}{g:TG}{tb:TS}{pos:Pos}(hp:PassesOwn (model X.prog X.w) X.A X.env X.xe)(hc:X.calm=true)(hi:PI X tg iter wi)(hg:PG X tg g)(hb:PSs X body tb)(hs:∀x,foldedSetIterable iter X.env x=pure x:=by intro _;rfl):PS X (.For tg iter body [] pos) (IE wi g tb):=by
 intro M9 s σ H D I h;refine wpAny_For (thn (hi M9 s σ H _ I h) λv s1 h1=>thn h1 λitv s2 h2=>?_) hs;obtain⟨it,fp,tn,J,H2,e,I2,T,st2,f2,W,⟨m0,w0⟩,turn⟩:=h2;subst e;have stat:∀{H':Hp},(∀b∈fp,H' b=none)->∀b∈fp,bG X M9 H' b:=λhn b hb=>#[hn b hb,(f2 b hb).2]
 refine codeAny_forLoop_any (λn s'=>∃i σ' H',Inv X M9 σ' H' s'/\tn i s'.heap/\(∀b∈fp,H' b=none)/\W i n σ' H') ?_ m0 #[0,σ,H2,I2,st2,λb hb=>(f2 b hb).1,w0];rintro n s3 ⟨i,σ3,H3,I3,st3,fr3,w3⟩;rcases turn i n σ3 H3 w3 with⟨stop,qn⟩|⟨go,N,hN,step⟩
 ·refine wpAny_passesOwn hp (thn (T.done X rfl rfl rfl hc i M9 s3 σ3 H3 X.xe I3 (stat fr3) st3 stop) λr s4 ⟨hr,I4⟩=>?_);subst hr;exact wpAny_execs_nil #[σ3,H3,I4,qn]
 ·refine wpAny_passesOwn hp (thn (T.item X rfl rfl rfl hc i M9 s3 σ3 H3 X.xe I3 (stat fr3) st3 go) λr s4 ⟨u,hr,h4⟩=>?_);subst hr;refine wpAny_passesOwn hp (thn h4 λ_ s5 hz9=>?_);obtain⟨x,H5,I5,r5,y5,st5,fr5⟩:=hz9;have I5':=I5.pinned (stat fr5) (T.obj _ _ st5);refine wpAny_passesOwn hp (thn (hg _ s5 σ3 H5 x u _ I5' r5 (step x H5 y5)) λ_ s6 ⟨σ6,H6,I6,q6⟩=>?_);refine wpAny_passesOwn hp (thn (hb _ s6 σ6 H6 _ I6 q6) λf s7 q7=>?_);have again:∀{σ7:St} {H7:Hp},Inv X (M9++lG fp s5.heap) σ7 H7 s7->N σ7 H7->∃m,m<n/\∃i σ' H',Inv X M9 σ' H' s7/\tn i s7.heap/\(∀b∈fp,H' b=none)/\W i m σ' H':=fun{σ7 H7} I7 n7=>by obtain⟨m',hm,w7⟩:=hN σ7 H7 n7;refine#[m',hm,i+1,σ7,H7,I7.unpinned,T.keep _ _ _ st5 λb hb o e=>(I7.pin (b,o) (Zr _ (Zr _ (gZ hb e)))).1,λb hb=>?_,w7];obtain⟨o,e,d⟩:=T.obj _ _ st5 b hb;exact(I7.pin (b,o) (Zr _ (Zr _ (gZ hb e)))).2.1
  cases f with
  |next=>obtain⟨σ7,H7,I7,n7⟩:=q7;exact again I7 n7
  |cont=>obtain⟨σ7,H7,I7,n7⟩:=q7;exact again I7 n7
  |brk=>obtain⟨σ7,H7,I7,q7⟩:=q7;exact#[σ7,H7,I7.unpinned,q7]
  |ret v=>obtain⟨x7,σ7,H7,I7,r7,q7⟩:=q7;exact#[x7,σ7,H7,I7.unpinned,r7,q7]
end
theorem nC{K:W.Frag}{a:MU}{xs:List V}{g:TG}{tb:TS}{D:Ends}{σ:St}{H:Hp}(Pv:Nat->St->Hp->Prop)(h0:Pv 0 σ H)(hl:∀i σ H,i<=xs.length->Pv i σ H->SqL K H a xs)(hs:∀i x σ H,xs[i]?=some x->Pv i σ H->g x σ H λσ2 H2=>tb { D with nx:=Pv (i+1),ct:=Pv (i+1),bk:=D.nx } σ2 H2)(hd:∀σ H,Pv xs.length σ H->D.nx σ H) :
  ∃W:Nat->Nat->St->Hp->Prop,(∃m,W 0 m σ H)/\∀i m σ H,W i m σ H ->
   ((Itl K a).stop i H/\D.nx σ H)\/((Itl K a).go i H/\∃N:St->Hp->Prop,(∀σ' H',N σ' H'->∃m',m'<m/\W (i+1) m' σ' H')/\∀x H',(Itl K a).yld i H x H'->g x σ H' λσ2 H2=>tb { D with nx:=N,ct:=N,bk:=D.nx } σ2 H2):=by
 refine#[λi m σ H=>m=xs.length-i/\i<=xs.length/\Pv i σ H,#[xs.length,by simp,ZU _,h0],?_];rintro i m σ H ⟨rfl,hi,p⟩;have q:=hl i σ H hi p;by_cases hlt:i<xs.length
 ·refine .inr #[#[xs,xs[i],q,by simp[hlt]],Pv (i+1),λσ' H' p'=>#[xs.length-(i+1),∅,rfl,hlt,p'],λx H' y=>?_];obtain⟨e,y⟩:=y;subst e;exact hs i x σ _ (y xs q) p
 ·have e:i=xs.length:=∅
  subst e;exact .inl #[#[xs,q,Za _],hd σ H p]
theorem Bz{lo:Int}{n:Nat}{g:TG}{tb:TS}{D:Ends}{σ:St}{H:Hp}(Pv:Nat->St->Hp->Prop)(h0:Pv 0 σ H)(hs:∀i σ H,i<n->Pv i σ H->g (.int (lo+i)) σ H λσ2 H2=>tb { D with nx:=Pv (i+1),ct:=Pv (i+1),bk:=D.nx } σ2 H2)(hd:∀σ H,Pv n σ H->D.nx σ H) :
  ∃W:Nat->Nat->St->Hp->Prop,(∃m,W 0 m σ H)/\∀i m σ H,W i m σ H ->
   ((Itr lo n).stop i H/\D.nx σ H)\/((Itr lo n).go i H/\∃N:St->Hp->Prop,(∀σ' H',N σ' H'->∃m',m'<m/\W (i+1) m' σ' H')/\∀x H',(Itr lo n).yld i H x H'->g x σ H' λσ2 H2=>tb { D with nx:=N,ct:=N,bk:=D.nx } σ2 H2):=by
 refine#[λi m σ H=>m=n-i/\i<=n/\Pv i σ H,#[n,by simp,ZU _,h0],?_];rintro i m σ H ⟨rfl,hi,p⟩;by_cases hlt:i<n
 ·refine .inr #[hlt,Pv (i+1),λσ' H' p'=>#[n-(i+1),∅,rfl,hlt,p'],λx H' y=>?_];obtain⟨e,y⟩:=y;subst e y;exact hs i σ _ hlt p
 ·have e:i=n:=∅
  subst e;exact .inl #[Za _,hd σ H p]
abbrev R2:=V->V->Hp->VK->Prop
def OpR(X:Cx)(f:MW->MW->Sem MW)(r:R2):Prop :=
 ∀(M9:MP) (s:MV) (σ:St) (H:Hp) (x y:V) (v u:MW) (Q:VK),Inv X M9 σ H s->RelV x v->RelV y u->r x y H Q ->
  wpAny (model X.prog X.w) X.A (f v u) (EP X M9 σ Q) X.xe s
def UnR(X:Cx)(f:MW->Sem MW)(r:V->Hp->VK->Prop):Prop :=
 ∀(M9:MP) (s:MV) (σ:St) (H:Hp) (x:V) (v:MW) (Q:VK),Inv X M9 σ H s->RelV x v->r x H Q ->
  wpAny (model X.prog X.w) X.A (f v) (EP X M9 σ Q) X.xe s
def cU(X:Cx)(f:MW)(r:List V->Hp->VK->Prop):Prop :=
 ∀(M9:MP) (s:MV) (σ:St) (H:Hp) (xs:List V) (us:MT) (Q:VK),Inv X M9 σ H s->Vals xs us->r xs H Q ->
  wpAny (model X.prog X.w) X.A (call f us) (EP X M9 σ Q) X.xe s
def tOp(r:R2)(ta tb:TE):TE:=λσ H Q=>ta σ H λx H1=>tb σ H1 λy H2=>r x y H2 Q
inductive rI(C:Int->Int->Prop)(g:Int->Int->V)(x:V)(y:V)(H:Hp)(Q:VK):Prop
 |mk (i j:_) (h0:x=.int i) (h1:y=.int j) (h2:C i j) (h3:Q (g i j) H):rI C g x y H Q
inductive rI0(g:Int->Int->V)(x:V)(y:V)(H:Hp)(Q:VK):Prop
 |mk (i j:_) (h0:x=.int i) (h1:y=.int j) (h2:Q (g i j) H):rI0 g x y H Q
section
variable{X:Cx}{a b c:M8}{ta tb tc:TE}{pos:Pos}
theorem Di(ha:PE X a ta)(hb:PE X b tb){M9:MP}{s:MV}{σ:St}{H:Hp}{R:V->V->Hp->Prop}(I:Inv X M9 σ H s)(h:ta σ H λx H1=>tb σ H1 λy H2=>R x y H2){Q:MQ}{f:MW->MW->Sem MW}(hf:∀v u s2 x y H2,Inv X M9 σ H2 s2->RelV x v->RelV y u->R x y H2->wpAny (model X.prog X.w) X.A (f v u) Q X.xe s2) :
  wpAny (model X.prog X.w) X.A (eval a X.env) (λv s₁=>wpAny (model X.prog X.w) X.A (eval b X.env) (λu s₂=>wpAny (model X.prog X.w) X.A (f v u) Q X.xe s₂) X.xe s₁) X.xe s:=by
 refine thn (ha M9 s σ H _ I h) λv s1 hz9=>?_;obtain⟨x,H1,I1,r1,q1⟩:=hz9;refine thn (hb M9 s1 σ H1 _ I1 q1) λu s2 hz9=>?_;obtain⟨y,H2,I2,r2,q2⟩:=hz9;exact hf v u s2 x y H2 I2 r1 r2 q2
theorem JI{op:Operator}{r:R2}(ho:OpR X (binaryOp op) r)(ha:PE X a ta)(hb:PE X b tb):PE X (.BinOp a op b pos) (tOp r ta tb):=by intro M9 s σ H Q I h;exact wpAny_BinOp (Di ha hb I h λv u s2 x y H2 I2 rx ry q=>ho M9 s2 σ H2 x y v u Q I2 rx ry q)
theorem opI{f:MW->MW->Sem MW}{C:Int->Int->Prop}{g:Int->Int->Int}(rule:∀(i j:Int) (t u:Tok) (s:MV) (Q:MQ) (E:MQ),C i j->Q (.int (g i j) s.toks) { s with toks:=s.toks+1 }->wpAny (model X.prog X.w) X.A (f (.int i t) (.int j u)) Q E s) :
  OpR X f (rI C λi j=>.int (g i j)):=by
 intro M9 s σ H x y v u Q I rx ry h;obtain⟨i,j,rfl,rfl,hc,q⟩:=h;obtain⟨t,rfl⟩:=rx;obtain⟨t',rfl⟩:=ry;exact rule i j t t' s _ _ hc #[.int (g i j),H,I.tok _,#[_,rfl],q]
theorem Hu{f:MW->MW->Sem MW}{g:Int->Int->Int}(rule:∀(i j:Int) (t u:Tok) (s:MV) (Q:MQ) (E:MQ),Q (.int (g i j) s.toks) { s with toks:=s.toks+1 }->wpAny (model X.prog X.w) X.A (f (.int i t) (.int j u)) Q E s) :
  OpR X f (rI0 λi j=>.int (g i j)):=by
 intro M9 s σ H x y v u Q I rx ry h;obtain⟨i,j,rfl,rfl,q⟩:=h;obtain⟨t,rfl⟩:=rx;obtain⟨t',rfl⟩:=ry;exact rule i j t t' s _ _ #[.int (g i j),H,I.tok _,#[_,rfl],q]
theorem Ae{f:MW->MW->Sem MW}{g:Int->Int->Bool}(rule:∀(i j:Int) (t u:Tok) (s:MV) (Q:MQ) (E:MQ),Q (.bool (g i j)) s->wpAny (model X.prog X.w) X.A (f (.int i t) (.int j u)) Q E s) :
  OpR X f (rI0 λi j=>.bl (g i j)):=by
 intro M9 s σ H x y v u Q I rx ry h;obtain⟨i,j,rfl,rfl,q⟩:=h;obtain⟨t,rfl⟩:=rx;obtain⟨t',rfl⟩:=ry;exact rule i j t t' s _ _ #[.bl (g i j),H,I,rfl,q]
def GG(i j:Int):Prop:=0<j/\j<1073741824
def GH(i j:Int):Prop:=0<=j/\j<=1000000/\i.natAbs<2^64
theorem Hv:OpR X (binaryOp .Add) (rI0 λi j=>.int (i+j)):=Hu λ_ _ _ _ _ _ _ q=>add_int q
theorem HD:OpR X (binaryOp .Sub) (rI0 λi j=>.int (i-j)):=Hu λ_ _ _ _ _ _ _ q=>sub_int q
theorem FI:OpR X (binaryOp .FloorDiv) (rI GG λi j=>.int (i / j)):=opI λi j _ _ _ _ _ hc q=>by have h1:(0:Int)<j:=hc.1;have h2:j<1073741824:=hc.2;exact floordiv_int ∅ (by rw[Int.fdiv_eq_ediv_of_nonneg i ∅];exact q) (.inl (PyProof.noPylong_small ∅))
theorem Hz:OpR X (binaryOp .Mod) (rI (λ_ j=>0<j) λi j=>.int (i%j)):=opI λi j _ _ _ _ _ hc q=>by have h1:(0:Int)<j:=hc;exact mod_int' ∅ (by rw[Int.fmod_eq_emod_of_nonneg i ∅];exact q)
theorem HC:OpR X (binaryOp .Pow) (rI GH λi j=>.int (i^j.toNat)):=opI λ_ _ _ _ _ _ _ hc q=>pow_int_small hc.1 hc.2.1 hc.2.2 q
end
def Iw:V->V->Bool
 |.non,.non=>true|.non,.int _=>true|.int _,.non=>true|.non,.bl _=>true|.bl _,.non=>true|.non,.str _=>true|.str _,.non=>true
 |.int _,.int _=>true|.bl _,.bl _=>true|.str _,.str _=>true|.byt _,.byt _=>true
 |.int _,.str _=>true|.str _,.int _=>true|.bl _,.str _=>true|.str _,.bl _=>true
 |_,_=>false
def rEq:R2:=λx y H Q=>Iw x y=true/\Q (.bl (decide (x=y))) H
def rNe:R2:=λx y H Q=>Iw x y=true/\Q (.bl (!decide (x=y))) H
theorem xK{i j:Int}:decide (V.int i=V.int j)=(i==j):=by rw[Bool.eq_iff_iff];simp
theorem Bo{i j:Bool}:decide (V.bl i=V.bl j)=(i==j):=by rw[Bool.eq_iff_iff];simp
theorem xL{i j:Str}:decide (V.str i=V.str j)=(i==j):=by rw[Bool.eq_iff_iff];simp
theorem xJ{i j:Array UInt8}:decide (V.byt i=V.byt j)=(i.toList==j.toList):=by rw[Bool.eq_iff_iff];cases i;cases j;simp
section
variable{X:Cx}{a b c:M8}{ta tb tc:TE}{pos:Pos}
theorem aR{M9:MP}{σ:St}{H:Hp}{s:MV}{Q:VK}{k k':Bool}(I:Inv X M9 σ H s)(q:Q (.bl k) H)(e:k=k'):EP X M9 σ Q (.bool k') s:=by subst e;exact#[.bl k,H,I,rfl,q]
theorem Jx:OpR X (compareOp .Eq) rEq:=by
 intro M9 s σ H x y v u Q I rx ry h;obtain⟨hs,q⟩:=h;cases x with
 |non =>
  cases rx;cases y with
  |non=>cases ry;exact PySem.EqNone.eq_none_none (aR I q (by simp))
  |bl j=>cases ry;exact PySem.EqNone.eq_none_bool (aR I q (by simp))
  |int j=>obtain⟨t',rfl⟩:=ry;exact PySem.EqNone.eq_none_int (aR I q (by simp))
  |str j=>obtain⟨t',rfl⟩:=ry;exact PySem.EqNone.eq_none_str (aR I q (by simp))
  |_=>exact absurd (show false=true from hs) Zg
 |bl i =>
  cases rx;cases y with
  |non=>cases ry;exact PySem.EqNone.eq_bool_none (aR I q (by simp))
  |bl j=>cases ry;exact eq_bool (aR I q Bo)
  |str j=>obtain⟨t',rfl⟩:=ry;exact PySem.EqMixed.eq_bool_str (aR I q (by simp))
  |_=>exact absurd (show false=true from hs) Zg
 |int i =>
  obtain⟨t,rfl⟩:=rx;cases y with
  |non=>cases ry;exact PySem.EqNone.eq_int_none (aR I q (by simp))
  |int j=>obtain⟨t',rfl⟩:=ry;exact eq_int (aR I q xK)
  |str j=>obtain⟨t',rfl⟩:=ry;exact PySem.EqMixed.eq_int_str (aR I q (by simp))
  |_=>exact absurd (show false=true from hs) Zg
 |str i =>
  obtain⟨t,rfl⟩:=rx;cases y with
  |non=>cases ry;exact PySem.EqNone.eq_str_none (aR I q (by simp))
  |bl j=>cases ry;exact PySem.EqMixed.eq_str_bool (aR I q (by simp))
  |int j=>obtain⟨t',rfl⟩:=ry;exact PySem.EqMixed.eq_str_int (aR I q (by simp))
  |str j=>obtain⟨t',rfl⟩:=ry;exact eq_str (aR I q xL)
  |_=>exact absurd (show false=true from hs) Zg
 |byt i =>
  obtain⟨t,rfl⟩:=rx;cases y with
  |byt j=>obtain⟨t',rfl⟩:=ry;exact W.eq_bytes (aR I q xJ)
  |_=>exact absurd (show false=true from hs) Zg
 |_=>cases y<;>exact absurd (show false=true from hs) Zg
theorem JC:OpR X (compareOp .NotEq) rNe:=by
 intro M9 s σ H x y v u Q I rx ry h;obtain⟨hs,q⟩:=h;cases x with
 |non =>
  cases rx;cases y with
  |non=>cases ry;exact PySem.EqNone.ne_none_none (aR I q (by simp))
  |bl j=>cases ry;exact PySem.EqNone.ne_none_bool (aR I q (by simp))
  |int j=>obtain⟨t',rfl⟩:=ry;exact PySem.EqNone.ne_none_int (aR I q (by simp))
  |str j=>obtain⟨t',rfl⟩:=ry;exact PySem.EqNone.ne_none_str (aR I q (by simp))
  |_=>exact absurd (show false=true from hs) Zg
 |bl i =>
  cases rx;cases y with
  |non=>cases ry;exact PySem.EqNone.ne_bool_none (aR I q (by simp))
  |bl j=>cases ry;exact ne_bool (aR I q (Yw not Bo))
  |str j=>obtain⟨t',rfl⟩:=ry;exact PySem.EqMixed.ne_bool_str (aR I q (by simp))
  |_=>exact absurd (show false=true from hs) Zg
 |int i =>
  obtain⟨t,rfl⟩:=rx;cases y with
  |non=>cases ry;exact PySem.EqNone.ne_int_none (aR I q (by simp))
  |int j=>obtain⟨t',rfl⟩:=ry;exact ne_int (aR I q (Yw not xK))
  |str j=>obtain⟨t',rfl⟩:=ry;exact PySem.EqMixed.ne_int_str (aR I q (by simp))
  |_=>exact absurd (show false=true from hs) Zg
 |str i =>
  obtain⟨t,rfl⟩:=rx;cases y with
  |non=>cases ry;exact PySem.EqNone.ne_str_none (aR I q (by simp))
  |bl j=>cases ry;exact PySem.EqMixed.ne_str_bool (aR I q (by simp))
  |int j=>obtain⟨t',rfl⟩:=ry;exact PySem.EqMixed.ne_str_int (aR I q (by simp))
  |str j=>obtain⟨t',rfl⟩:=ry;exact ne_str (aR I q (Yw not xL))
  |_=>exact absurd (show false=true from hs) Zg
 |byt i =>
  obtain⟨t,rfl⟩:=rx;cases y with
  |byt j=>obtain⟨t',rfl⟩:=ry;exact W.ne_bytes (aR I q (Yw not xJ))
  |_=>exact absurd (show false=true from hs) Zg
 |_=>cases y<;>exact absurd (show false=true from hs) Zg
theorem JB:OpR X (compareOp .Lt) (rI0 λi j=>.bl (decide (i<j))):=Ae λ_ _ _ _ _ _ _ q=>lt_int q
theorem JA:OpR X (compareOp .LtE) (rI0 λi j=>.bl (decide (i<=j))):=Ae λ_ _ _ _ _ _ _ q=>le_int q
theorem Jz:OpR X (compareOp .Gt) (rI0 λi j=>.bl (decide (j<i))):=Ae λ_ _ _ _ _ _ _ q=>gt_int q
theorem Jy:OpR X (compareOp .GtE) (rI0 λi j=>.bl (decide (j<=i))):=Ae λ_ _ _ _ _ _ _ q=>ge_int q
theorem Hy:OpR X (compareOp .Is) (λx y H Q=>y=.non/\Q (.bl (decide (x=.non))) H):=by
 intro M9 s σ H x y v u Q I rx ry h;obtain⟨rfl,q⟩:=h;cases ry;refine is_none_gen (aR I q ?_);cases x<;>first
  |(cases rx;rfl)
  |(obtain⟨t,rfl⟩:=rx;rfl)
theorem FJ:OpR X (compareOp .IsNot) (λx y H Q=>y=.non/\Q (.bl (!decide (x=.non))) H):=by
 intro M9 s σ H x y v u Q I rx ry h;obtain⟨rfl,q⟩:=h;cases ry;refine isnot_none_gen (aR I q ?_);cases x<;>first
  |(cases rx;rfl)
  |(obtain⟨t,rfl⟩:=rx;rfl)
theorem B4(b:M8){op:CmpOp}(h:op≠.In:=by decide)(h2:op≠.NotIn:=by decide):behindInMarks op b=false:=by
 have e1:(op==CmpOp.In)=false:=by cases op<;>first|rfl|exact absurd rfl h
 have e2:(op==CmpOp.NotIn)=false:=by cases op<;>first|rfl|exact absurd rfl h2
 cases b<;>simp[behindInMarks,e1,e2]
theorem FQ{op:CmpOp}{r:R2}(ho:OpR X (compareOp op) r)(ha:PE X a ta)(hb:PE X b tb)(hm:behindInMarks op b=false):PE X (.Compare a [op] [b] pos) (tOp r ta tb):=by intro M9 s σ H Q I h;exact wpAny_Compare1 (Di ha hb I h λv u s2 x y H2 I2 rx ry q=>ho M9 s2 σ H2 x y v u Q I2 rx ry q) hm
def pZ(t:TE):TT:=λσ H Q=>t σ H λx H1=>IsB x H1 Q
theorem Gf{op:CmpOp}{r:R2}(ho:OpR X (compareOp op) r)(ha:PE X a ta)(hb:PE X b tb)(hm:behindInMarks op b=false):PT X (.Compare a [op] [b] pos) (pZ (tOp r ta tb)):=by
 intro M9 s σ H Q I h;refine wpAny_isTrue_Compare1 (thn (ha M9 s σ H _ I h) λv s1 ⟨x,H1,I1,r1,q1⟩=>thn (hb M9 s1 σ H1 _ I1 q1) λu s2 ⟨y,H2,I2,r2,q2⟩ =>
  thn (ho M9 s2 σ H2 x y v u _ I2 r1 r2 q2) λc s3 ⟨z,H3,I3,r3,k,e,q3⟩=>?_) hm
 subst e;cases r3;exact ZX #[H3,I3,q3]
def pW(r r':R2)(ta tb tc:TE):TE:=λσ H Q=>ta σ H λx H1=>tb σ H1 λy H2=>r x y H2 λz H3=>∃k,z=.bl k /\
 (if k=true then tc σ H3 λw' H4=>r' y w' H4 Q else Q (.bl false) H3)
theorem DU{op op':CmpOp}{r r':R2}(ho:OpR X (compareOp op) r)(ho':OpR X (compareOp op') r')(ha:PE X a ta)(hb:PE X b tb)(hc:PE X c tc)(hm:lastMarks [op,op'] [b,c]=false:=by with_unfolding_all rfl):PE X (.Compare a [op,op'] [b,c] pos) (pW r r' ta tb tc):=by
 intro M9 s σ H Q I h;refine Compare_chain (thn (ha M9 s σ H _ I h) λv s1 ⟨x,H1,I1,r1,q1⟩=>chain_link (thn (hb M9 s1 σ H1 _ I1 q1) λu s2 ⟨y,H2,I2,r2,q2⟩ =>
  thn (ho M9 s2 σ H2 x y v u _ I2 r1 r2 q2) λd s3 ⟨z,H3,I3,r3,k,e,q3⟩=>?_)) hm
 subst e;cases r3;refine ZX ?_;cases k with
 |false=>exact ite_ff #[.bl false,H3,I3,rfl,q3]
 |true=>exact ite_tt (chain_last (thn (hc M9 s3 σ H3 _ I3 q3) λw' s4 ⟨z',H4,I4,r4,q4⟩=>ho' M9 s4 σ H4 y z' u w' Q I4 r2 r4 q4))
theorem Ed{op op':CmpOp}{r r':R2}(ho:OpR X (compareOp op) r)(ho':OpR X (compareOp op') r')(ha:PE X a ta)(hb:PE X b tb)(hc:PE X c tc)(hm:lastMarks [op,op'] [b,c]=false:=by with_unfolding_all rfl):PT X (.Compare a [op,op'] [b,c] pos) (pZ (pW r r' ta tb tc)):=by
 intro M9 s σ H Q I h;refine isTrue_chain (thn (ha M9 s σ H _ I h) λv s1 ⟨x,H1,I1,r1,q1⟩=>test_link (thn (hb M9 s1 σ H1 _ I1 q1) λu s2 ⟨y,H2,I2,r2,q2⟩ =>
  thn (ho M9 s2 σ H2 x y v u _ I2 r1 r2 q2) λd s3 ⟨z,H3,I3,r3,k,e,q3⟩=>?_)) hm
 subst e;cases r3;refine ZX ?_;cases k with
 |false =>obtain⟨k',e',q'⟩:=q3;cases e';exact ite_ff #[H3,I3,q']
 |true =>refine ite_tt (test_last (thn (hc M9 s3 σ H3 _ I3 q3) λw' s4 ⟨z',H4,I4,r4,q4⟩=>thn (ho' M9 s4 σ H4 y z' u w' _ I4 r2 r4 q4) λd' s5 hz9=>?_));obtain⟨z2,H5,I5,r5,k2,e2,q5⟩:=hz9;subst e2;cases r5;exact ZX #[H5,I5,q5]
theorem pe:(sizeLine:Nat)<2^63:=by rw[sizeLine_eq];decide
theorem bZ{x:V}{us:MT}(r:Vals [x] us):∃u,us=[u]/\RelV x u:=by
 cases r with
 |cons r1 r2=>cases r2;exact#[_,rfl,r1]
theorem kP{x y:V}{us:MT}(r:Vals [x,y] us):∃u w',us=[u,w']/\RelV x u/\RelV y w':=by
 cases r with
 |cons r1 r2 =>
  cases r2 with
  |cons r3 r4=>cases r4;exact#[_,_,rfl,r1,r3]
theorem Be(hc:X.calm=true):cU X (.builtin "max") (λxs H Q=>∃i j,xs=[.int i,.int j]/\Q (.int (if j>i then j else i)) H):=by
 intro M9 s σ H xs us Q I r h;obtain⟨i,j,rfl,q⟩:=h;obtain⟨u,w',rfl,⟨t,rfl⟩,⟨t',rfl⟩⟩:=kP r;refine max_two_ints (I.ok.hd hc) λh' tk k=>#[_,H,I.kept k,?_,q]
 by_cases hj:j>i
 ·rw[MO hj,MO hj];exact#[_,rfl]
 ·rw[MN hj,MN hj];exact#[_,rfl]
theorem Bb:cU X (.type "int") (λxs H Q=>(∃i,xs=[.int i]/\Q (.int i) H)\/∃k,xs=[.bl k]/\Q (.int (if k then 1 else 0)) H):=by
 intro M9 s σ H xs us Q I r h;rcases h with⟨i,rfl,q⟩|⟨k,rfl,q⟩
 ·obtain⟨u,rfl,t,rfl⟩:=bZ r;exact call_int_int #[.int i,H,I,#[_,rfl],q]
 ·obtain⟨u,rfl,r1⟩:=bZ r;cases r1;exact call_int_bool #[.int (if k then 1 else 0),H,I.tok _,#[_,rfl],q]
end
structure ObjM(h:Heap)(x dx C:MU)(mA:MR):Prop where
 obj:h.get? x=some (W.instObj C dx)
 ns:h.Ns1 dx mA
 ne:dx≠x
theorem BV{h:Heap}{dx:MU}{mA:MR}(n:h.Ns1 dx mA):∃od,h.get? dx=some od/\∀name,W.lookIn name od=some (mA name):=by
 obtain⟨o,es,ep,ho,hd,hk,_,hm⟩:=n;refine#[o,ho,λname=>?_];have e:=hm name;unfold nsFind findBy at e;rw[<-Array.find?_toList]at e;unfold W.lookIn;rw[hd];dsimp only;split
 ·rename_i y q;rw[q]at e;exact Yw some e
 ·rename_i q;rw[q]at e;have a:es.toList.any (·.refKey)=false:=by rw[List.any_eq_false];intro y hy;obtain⟨z,t,hkey⟩:=hk y (Array.mem_toList_iff.mp hy);simp[DictEntry.refKey,hkey]
  have a':¬es.toList.any (·.refKey)=true:=by rw[a];exact Zg
  rw[MN a'];exact Yw some e
theorem ObjM.look{h:Heap}{x dx C:MU}{mA:MR}(I:ObjM h x dx C mA):∃od,W.InstAt h x (W.instObj C dx) C (some od)/\∀name,W.lookIn name od=some (mA name) :=
 let⟨od,ho,hl⟩:=BV I.ns
 #[od,#[I.obj,rfl,rfl,ho],hl]
section
variable{prog:MX}{w:MY}{A:MZ}{E:MQ}{s:MV}{K:W.Frag}{x dx C f:MU}{mA:MR}{name:Str}{v:MW}
theorem Fj{expr:Bool}{Q:MQ}(X:K.In s.heap)(I:ObjM s.heap x dx C mA)(hg:W.plainGet K C name=true)(hh:W.hasDictIn K C=true)(ha:W.findIn K (.ref C) name=some none)(hv:mA name=some v)(hv':W.handedIn v=true)(h:Q v { s with toks:=s.toks+1 }) :
  wpAny (model prog w) A (getAttr (.ref x) name expr) Q E s:=by
 obtain⟨od,J,hl⟩:=I.look;exact W.get_value X J (W.plainGet_of hg).1 (W.findObj_own hh ha rfl (by rw[hl,hv])) hv' h
theorem Dx{pl:Sem Bool}{Q:MW×MT->MV->Prop}(X:K.In s.heap)(I:ObjM s.heap x dx C mA)(hg:W.plainGet K C name=true)(hf:W.findIn K (.ref C) name=some (some (.ref f)))(ht:W.isFn K (.ref f)=true)(hv:mA name=none)(h:Q (.ref f,[.ref x]) s) :
  wpAny (model prog w) A (getMethod (.ref x) name pl) Q E s:=by
 obtain⟨od,J,hl⟩:=I.look;exact W.method_fn X J (W.plainGet_of hg).1 (W.plainGet_of hg).2 hf (Z6.mp ht) (by show(W.lookIn name od).map (·.isSome)=some false;rw[hl,hv];rfl) h
theorem Gp{ns:List Str}{Q:Unit->MV->Prop}(X:K.In s.heap)(I:ObjM s.heap x dx C mA)(hs:W.findIn K (.ref C) "__setattr__" = some (some (.builtin "object.__setattr__")))(hp:W.plainOver K C=true)(ht:W.takerIn K C name=some none)(hh:W.hasDictIn K C=true)(hw:PySem.Within mA ns)(hsz:ns.length<=sizeLine)(h:∀h',ObjM h' x dx C (λy=>if y=name then some v else mA y)->Heap.SameBut dx s.heap h'->Q () { s with heap:=h',toks:=s.toks+2 }) :
  wpAny (model prog w) A (setAttr (.ref x) name v) Q E s:=by
 obtain⟨od,J,hl⟩:=I.look;refine W.set_plain X J hs (W.osa_open (s:={ s with toks:=s.toks+1 }) (r:=none) X J hp ht λb=>?_);obtain⟨cd,hc,hd'⟩:=W.any_some hh;have hx:s.heap.get? x=some #[.ref C,some dx,.plain,#[]]:=I.obj;refine z0 (z9 (z0 (z0 (wpAny_loadPart hx (z0 (W.Looks.here (s:={ s with toks:=s.toks+1 }) (W.looks_clsIn X hc) ?_))))));rw[hd'];refine z9 (a:=some dx) (z0 (z9 (z0 ?_)));refine wpAny_nsSet1 (s:={ s with toks:=s.toks+1 }) I.ns λh' hn2 hs2=>?_;obtain⟨oD,esD,epD,hoD,hdD,hcD⟩:=hn2.count (PySem.Within.cons name v hw);refine z0 (wpAny_lookBehind hoD (by rw[hdD];exact pastItsLine_dict (Zq hcD (by rw[Zu];omega))) ?_);exact z9 (h _ #[(hs2.2 _ (Z2 I.ne)).trans I.obj,hn2,I.ne] hs2)
theorem DI{R:Result->MV->Prop}{vs:MT}{kw:List (Str×MW)}(X:K.In s.heap)(hm:W.makesIn K C=true)(hi:W.findIn K (.ref C) "__init__" = some (some (.ref f)))(hf:W.typeIn K (.ref f)=some (.type "function"))(h:codeAny (model prog w) (A.under (.builtin "type.__call__" #[.ref C::vs,kw])) (.call (.ref f) #[.ref (s.heap.objs.size+1)::vs,kw]) (W.InitBack (s.heap.objs.size+1) R)
   { s with heap:=(s.heap.push W.emptyDict).push (W.instObj C s.heap.objs.size) }) :
  codeAny (model prog w) A (.call (.ref C) #[vs,kw]) R s:=by
 obtain⟨hh,g,d,t,os⟩:=s;exact W.make_core (W.makes_of X hm) (W.looks_findIn X hi) (λself=>W.bind_fn X self hf) (.inl rfl) h
end
def cQ(f:Str)(v:V):List (Str×V)->List (Str×V)
 | []=>[(f,v)]
 |(g,x)::r=>if g=f then(g,v)::r else(g,x)::cQ f v r
theorem aT(f g:Str)(v:V):∀fs:List (Str×V),(cQ f v fs).lookup g=if g=f then some v else fs.lookup g
 | []=>by
  show List.lookup g [(f,v)]=_;by_cases h:g=f
  ·have hb:(g==f)=true:=Z6.mpr h;simp only[List.lookup,hb,MO h]
  ·have hb:(g==f)=false:=YI.mpr h;simp only[List.lookup,hb,MN h]
 |(k,x)::r=>by
  have ih:=aT f g v r;rw[show cQ f v ((k,x)::r)=(if k=f then(k,v)::r else(k,x)::cQ f v r)from rfl];by_cases hk:k=f
  ·rw[MO hk];by_cases h:g=k
   ·have hb:(g==k)=true:=Z6.mpr h;simp only[List.lookup,hb,MO (h.trans hk)]
   ·have hb:(g==k)=false:=YI.mpr h;simp only[List.lookup,hb,MN (λe:g=f=>h (e.trans hk.symm))]
  ·rw[MN hk];by_cases h:g=k
   ·have hb:(g==k)=true:=Z6.mpr h;simp only[List.lookup,hb,MN (λe:g=f=>hk (h.symm.trans e))]
   ·have hb:(g==k)=false:=YI.mpr h;simp only[List.lookup,hb];exact ih
theorem lj(f:Str)(v:V):∀fs:List (Str×V),f∈(cQ f v fs).map (·.1)/\∀g,g∈fs.map (·.1)->g∈(cQ f v fs).map (·.1)
 | []=>#[by simp[cQ],λg h=>by simp at h]
 |(k,x)::r=>by
  obtain⟨i1,i2⟩:=lj f v r;rw[show cQ f v ((k,x)::r)=(if k=f then(k,v)::r else(k,x)::cQ f v r)from rfl];by_cases hk:k=f
  ·rw[MO hk];subst hk;exact#[by simp,λg h=>by simpa using h]
  ·rw[MN hk];refine#[?_,λg h=>?_]
   ·rw[Z1];exact ZG _ i1
   ·rw[Z1]at h ⊢;rcases Zl.mp h with e|e
    ·exact Zl.mpr (.inl e)
    ·exact ZG _ (i2 g e)
theorem mV(f:Str)(v:V):∀fs:List (Str×V),(cQ f v fs).length<=fs.length+1
 | []=>by simp[cQ]
 |(k,x)::r=>by
  have ih:=mV f v r;rw[show cQ f v ((k,x)::r)=(if k=f then(k,v)::r else(k,x)::cQ f v r)from rfl];by_cases hk:k=f
  ·rw[MO hk,Zu,Zu];omega
  ·rw[MN hk,Zu,Zu];omega
theorem RelO.some_of{v:V}{o:Option MW}(r:RelO (some v) o):∃u,o=some u/\RelV v u:=by
 cases o with
 |none=>exact(show False from r).elim
 |some u=>exact#[u,rfl,r]
theorem RelO.none_of{o:Option MW}(r:RelO none o):o=none:=by
 cases o with
 |none=>rfl
 |some u=>exact(show False from r).elim
theorem BC{v:V}{u:MW}(r:RelV v u):W.handedIn u=true:=by
 cases v with
 |non=>cases(show u=Value.none from r);rfl
 |bl b=>cases(show u=Value.bool b from r);rfl
 |int i=>obtain⟨t,e⟩:=(show∃t,u=Value.int i t from r);cases e;rfl
 |str x=>obtain⟨t,e⟩:=(show∃t,u=Value.str x t from r);cases e;rfl
 |byt b=>obtain⟨t,e⟩:=(show∃t,u=Value.bytes b t from r);cases e;rfl
 |flt b=>obtain⟨t,e⟩:=(show∃t,u=Value.float b t from r);cases e;rfl
 |ref a=>cases(show u=Value.ref a from r);rfl
 |ty n=>cases(show u=Value.type n from r);rfl
section
variable{P:MX}{w:MY}{H H':Hp}{h h':Heap}{a C dx:MU}{fs fs':List (Str×V)}
theorem mt(hok:HOk P w H h)(e:H a=some (.ins C dx fs)):∃mA,ObjM h a dx C mA/\(∀f,RelO (fs.lookup f) (mA f))/\PySem.Within mA (fs.map (·.1))/\fs.length<=1000/\H dx=some (.own a):=by
 obtain⟨d,z,ne,ob,mA,n,r,q⟩:=(show ObjOk P w H h a (.ins C dx fs)from hok a _ e)
 exact#[mA,#[ob,n,ne],r,q,z,d]
end
structure Cls(K:W.Frag)(C:MU):Prop where
 pg:W.plainGet K C Str.empty=true
 hd:W.hasDictIn K C=true
 po:W.plainOver K C=true
 sa:W.findIn K (.ref C) "__setattr__" = some (some (.builtin "object.__setattr__"))
theorem Cls.get{K:W.Frag}{C:MU}(c:Cls K C)(f:Str):W.plainGet K C f=true:=c.pg
def NoAttr(K:W.Frag)(C:MU)(f:Str):Prop:=W.findIn K (.ref C) f=some none
theorem NoAttr.taker{K:W.Frag}{C:MU}{f:Str}(n:NoAttr K C f):W.takerIn K C f=some none:=by unfold W.takerIn;rw[show W.findIn K (.ref C) f=some none from n];rfl
structure Con(K:W.Frag)(C:MU)(f:Str)(v:V)(u:MW):Prop where
 at_:W.findIn K (.ref C) f=some (some u)
 rel:RelV v u
 get:W.specialIn K u "__get__" = some none
 cp:W.copiedNames.contains f=false
structure Meth(K:W.Frag)(C:MU)(m:Str)(f:MU):Prop where
 at_:W.findIn K (.ref C) m=some (some (.ref f))
 fn:W.isFn K (.ref f)=true
 kp:W.keepIn K (.ref f)=true
section
variable{X:Cx}{M9:MP}{σ:St}{H:Hp}{s:MV}{a C dx:MU}{fs:List (Str×V)}{f:Str}{v:V}{A:MZ}{E:MQ}
theorem zj{b:Bool}{Q:MQ}(I:Inv X M9 σ H s)(e:H a=some (.ins C dx fs))(c:Cls X.K C)(n:NoAttr X.K C f)(l:fs.lookup f=some v)(h:∀u s',Inv X M9 σ H s'->RelV v u->Q u s'):wpAny (model X.prog X.w) A (getAttr (.ref a) f b) Q E s:=by obtain⟨mA,O,r,_,_,_⟩:=mt I.hok e;obtain⟨u,hu,ru⟩:=RelO.some_of (v:=v) (o:=mA f) (by rw[<-l];exact r f);exact Fj I.kIn O (c.get f) c.hd n hu (BC ru) (h u _ (I.tok _) ru)
theorem ke{m:Str}{g:MU}{pl:Sem Bool}{Q:MW×MT->MV->Prop}(I:Inv X M9 σ H s)(e:H a=some (.ins C dx fs))(c:Cls X.K C)(k:Meth X.K C m g)(l:fs.lookup m=none)(h:Q (.ref g,[.ref a]) s):wpAny (model X.prog X.w) A (getMethod (.ref a) m pl) Q E s:=by obtain⟨mA,O,r,_,_,_⟩:=mt I.hok e;have hn:mA m=none:=RelO.none_of (by rw[<-l];exact r m);exact Dx I.kIn O (c.get m) k.at_ k.fn hn h
theorem Aw{y:V}{u:MW}{Q:Unit->MV->Prop}(I:Inv X M9 σ H s)(e:H a=some (.ins C dx fs))(c:Cls X.K C)(n:NoAttr X.K C f)(hl:fs.length<1000)(ry:RelV y u)(h:∀s',Inv X M9 σ (upd H a (.ins C dx (cQ f y fs))) s'->Q () s'):wpAny (model X.prog X.w) A (setAttr (.ref a) f u) Q E s:=by
 obtain⟨mA,O,r,wi,_,ho⟩:=mt I.hok e;have hz:(fs.map (·.1)).length<=sizeLine:=by rw[Zb,sizeLine_eq];omega
 refine Gp I.kIn O c.sa c.po n.taker c.hd wi hz λh' O' sb=>h _ ?_;have hd:∃o,h'.get? dx=some o:=let⟨o,_,_,e',_⟩:=O'.ns;#[o,e']
 refine I.write (x:=a) (e:=dx) (by rw[e];exact True.intro) (.inr ho) (λb q hb z=>(sb.2 b hb).trans z) hd ?_;refine#[by rw[ah O.ne];exact ho,?_,O.ne,O'.obj,_,O'.ns,λg=>?_,λg hg=>?_]
 ·have:=mV f y fs;omega
 ·show RelO ((cQ f y fs).lookup g) (if g=f then some u else mA g);rw[aT];by_cases q:g=f
  ·rw[MO q,MO q];exact ry
  ·rw[MN q,MN q];exact r g
 ·by_cases q:g=f
  ·rw[q];exact(lj f y fs).1
  ·refine(lj f y fs).2 g (wi g λz=>hg ?_);show(if g=f then some u else mA g)=none;rw[MN q];exact z
theorem Inv.made(I:Inv X M9 σ H s):Inv X M9 σ (upd (upd H s.heap.objs.size (.own (s.heap.objs.size+1))) (s.heap.objs.size+1) (.ins C s.heap.objs.size []))
  { s with heap:=(s.heap.push W.emptyDict).push (W.instObj C s.heap.objs.size) }:=by
 have e1:(s.heap.push W.emptyDict).get? s.heap.objs.size=some W.emptyDict:=Ze s.heap rfl;have e2:((s.heap.push W.emptyDict).push (W.instObj C s.heap.objs.size)).get? (s.heap.objs.size+1)=some (W.instObj C s.heap.objs.size):=by
  have:=Ze (s.heap.push W.emptyDict) (o:=W.instObj C s.heap.objs.size) rfl
  rwa [Yh]at this
 have e3:(s.heap.push W.emptyDict).Ns s.heap.objs.size (λ_=>none):=#[W.emptyDict,#[],_,e1,rfl,(λe he=>absurd he (by simp)),λ_=>rfl]
 have I1:=I.laid (a:=s.heap.objs.size) (o:=.own (s.heap.objs.size+1)) (h':=s.heap.push W.emptyDict) (t':=s.toks) (λb u q=>z6 _ q) (Za _) #[_,e1];refine I1.laid (a:=s.heap.objs.size+1) (o:=.ins C s.heap.objs.size []) (t':=s.toks) (λb u q=>z6 _ q) (Nat.le_of_eq (Yh _ _)) ?_;have ne:s.heap.objs.size≠s.heap.objs.size+1:=Zo (Nat.lt_succ_self _);refine#[by rw[ah ne,ad],ZU _,ne,e2,λ_=>none,(Heap.Ns1.of_empty e3).at λo q=>z6 _ q,λ_=>True.intro,λy hy=>absurd rfl hy]
theorem Ff{prog:MX}{w:MY}{env:Env}{e:M8}{f:Str}{pos:Pos}{s:MV}{Q:MQ}(hb:attributeBase e f env (eval e env)=eval e env)(h:wpAny (model prog w) A (eval e env) (λo s₁=>wpAny (model prog w) A (getAttr o f true) Q E s₁) E s):wpAny (model prog w) A (eval (.Attribute e f pos) env) Q E s :=
 Attribute_any_ h (by rw[arm_eval_Attribute,hb])
end
def ID(K:W.Frag)(ta:TE)(f:Str):TE:=λσ H Q=>ta σ H λx H1=>∃a C dx fs v,x=.ref a/\H1 a=some (.ins C dx fs)/\Cls K C/\NoAttr K C f/\fs.lookup f=some v/\Q v H1
def Iq(K:W.Frag)(ta tv:TE)(f:Str):TS:=λD σ H=>tv σ H λy H1=>ta σ H1 λx H2=>∃a C dx fs,x=.ref a/\H2 a=some (.ins C dx fs)/\Cls K C/\NoAttr K C f/\fs.length<1000 /\
 D.nx σ (upd H2 a (.ins C dx (cQ f y fs)))
section
variable{X:Cx}{o e value:M8}{f:Str}{pos pos' tpos:Pos}{ta tv:TE}
theorem HG(he:PE X e ta)(hb:attributeBase e f X.env (eval e X.env)=eval e X.env):PE X (.Attribute e f pos) (ID X.K ta f):=by intro M9 s σ H Q I h;refine Ff hb (thn (he M9 s σ H _ I h) λu s1 hz9=>?_);obtain⟨x,H1,I1,rx,a,C,dx,fs,v,ex,ea,c,n,l,q⟩:=hz9;subst ex;obtain rfl:u=Value.ref a:=rx;exact zj I1 ea c n l λu' s2 I2 ru=>#[v,H1,I2,ru,q]
theorem HX(ha:PE X o ta)(hv:PE X value tv)(hs:swapsWith value (some (.Attribute o f pos')) pos.line X.env=pure false):PS X (.Assign [.Attribute o f pos'] value pos) (Iq X.K ta tv f):=by intro M9 s σ H D I h;refine plainObj_wpAny_Assign_Attribute (thn (hv M9 s σ H _ I h) λu s1 ⟨y,H1,I1,ry,q⟩=>thn (ha M9 s1 σ H1 _ I1 q) λov s2 hz9=>?_) hs;obtain⟨x,H2,I2,rx,a,C,dx,fs,ex,ea,c,n,l,q2⟩:=hz9;subst ex;obtain rfl:ov=Value.ref a:=rx;exact Aw I2 ea c n l ry λs3 I3=>#[σ,_,I3,q2]
end
section
variable{X:Cx}{M9:MP}{σ:St}{H:Hp}{s:MV}{A:MZ}{E:MQ}{Q:MQ}{c:MW}{b:Bool}
inductive TyOf(K:W.Frag)(H:Hp):V->MW->Prop where
 |non:TyOf K H .non (.type "NoneType")
 |bl (x:Bool):TyOf K H (.bl x) (.type "bool")
 |int (i:Int):TyOf K H (.int i) (.type "int")
 |str (x:Str):TyOf K H (.str x) (.type "str")
 |flt (x:UInt64):TyOf K H (.flt x) (.type "float")
 |lst {a:MU} {xs:List V} (e:H a=some (.lst xs)):TyOf K H (.ref a) (.type "list")
 |frz {a:MU} {o:Obj} {xs:List V} (e:H a=some (.frz o (.lst xs))):TyOf K H (.ref a) (.type "list")
 |tup {a:MU} {xs:List V} (e:H a=some (.tup xs)):TyOf K H (.ref a) (.type "tuple")
 |dK {a:MU} {kvs:List (Key×V)} (e:H a=some (.dK kvs)):TyOf K H (.ref a) (.type "dict")
 |dT {a:MU} {kvs:List (List Key×V)} (e:H a=some (.dT kvs)):TyOf K H (.ref a) (.type "dict")
 |ins {a C dx:MU} {fs:List (Str×V)} (e:H a=some (.ins C dx fs)) (cl:Cls K C) (ha:W.findIn K (.ref C) "__class__" = some (some (.builtin "object.__class__")))
   (hn:W.specialIn K (.builtin "object.__class__") "__get__" = some (some (.builtin "getset_descriptor.__get__"))) (htk:W.takesIn K (.builtin "object.__class__")=some true)
   (hm:W.mroIn K C (.type "object")=some true):TyOf K H (.ref a) (.ref C)
theorem BK{x:V}{u t:MW}(I:Inv X M9 σ H s)(rx:RelV x u)(ty:TyOf X.K H x t)(e:W.kitOne X.K t c=some b)(h:∀tk,Q (.bool b) { s with toks:=tk }) :
  wpAny (model X.prog X.w) A (call (.builtin "isinstance") [u,c]) Q E s:=by
 cases ty with
 |non=>cases(show u=Value.none from rx);exact Yq W.kitx_none I.kIn True.intro e nofun h
 |bl y=>cases(show u=Value.bool y from rx);exact Yq W.kitx_bool I.kIn True.intro e nofun h
 |int i=>obtain⟨t,q⟩:=(show∃t,u=Value.int i t from rx);cases q;exact Yq W.kitx_int I.kIn True.intro e nofun h
 |str y=>obtain⟨t,q⟩:=(show∃t,u=Value.str y t from rx);cases q;exact Yq W.kitx_str I.kIn True.intro e nofun h
 |flt y=>obtain⟨t,q⟩:=(show∃t,u=Value.float y t from rx);cases q;exact Yq W.kitx_float I.kIn True.intro e nofun h
 |@lst a xs ea =>
  cases(show u=Value.ref a from rx);obtain⟨_,_,n,_,h1⟩:=(show ObjOk X.prog X.w H s.heap a (.lst xs)from I.hok a _ ea)
  exact Yq W.kitx_list I.kIn #[_,h1,rfl] e nofun h
 |@frz a ob xs ea =>
  cases(show u=Value.ref a from rx);obtain⟨_,_,_,n,_,h1⟩:=(show ObjOk X.prog X.w H s.heap a (.frz ob (.lst xs))from I.hok a _ ea)
  exact Yq W.kitx_list I.kIn #[_,h1,rfl] e nofun h
 |@tup a xs ea =>
  cases(show u=Value.ref a from rx);obtain⟨_,_,_,p⟩:=(show ObjOk X.prog X.w H s.heap a (.tup xs)from I.hok a _ ea)
  obtain⟨o,h1,h2,_⟩:=p;exact Yq W.kitx_tuple I.kIn #[o,h1,h2] e nofun h
 |@dK a kvs ea =>
  cases(show u=Value.ref a from rx);obtain⟨_,_,vs,_,p⟩:=(show ObjOk X.prog X.w H s.heap a (.dK kvs)from I.hok a _ ea)
  obtain⟨o,es,ep,h1,h2,_⟩:=p;exact Yq W.kitx_dict I.kIn #[o,h1,h2.1] e nofun h
 |@dT a kvs ea =>
  cases(show u=Value.ref a from rx);obtain⟨_,_,xs,_,o,es,ep,h1,h2,_⟩:=(show ObjOk X.prog X.w H s.heap a (.dT kvs)from I.hok a _ ea)
  exact Yq W.kitx_dict I.kIn #[o,h1,h2.1] e nofun h
 |@ins a C dx fs ea cl ha hn htk hm =>cases(show u=Value.ref a from rx);obtain⟨mA,O,_⟩:=mt I.hok ea;obtain⟨od,J,_⟩:=O.look;exact Yq (W.kitx_own (cl.get _) cl.hd ha hn htk hm) I.kIn J e nofun h
end
structure Room(k:Nat)(A:MZ):Prop where
 hd:A.handled=none
 dp:A.depth+3*k+5<recursionLimit
 un:A.units+16*k+200<cLine
theorem Room.mono{j k:Nat}{A:MZ}(r:Room k A)(h:j<=k):Room j A:=#[r.hd,by have:=r.dp;omega,by have:=r.un;omega]
theorem Room.deeper{k:Nat}{A:MZ}(r:Room (k+1) A)(env:Env):Room k (A.deeper env) :=
 #[r.hd,by have:=r.dp;show A.depth+1+3*k+5<_;omega,by have:=r.un;show A.units+3+16*k+200<_;omega]
theorem Room.in1{k:Nat}{A:MZ}(r:Room (k+1) A):Room k A.in1 :=
 #[r.hd,by have:=r.dp;show A.depth+3*k+5<_;omega,by have:=r.un;show A.units+1+16*k+200<_;omega]
theorem zt{A:MZ}{C:MU}{us:MT}{kw:List (Str×MW)}:(A.under (.builtin "type.__call__" #[.ref C::us,kw])).depth=A.depth+1:=by
 first|rfl|simp[Around.under,Code.weight,Code.isCreation,Code.isGuard,Code.isCaller,Code.frames,Code.isFrame,guardIds]
theorem zw{A:MZ}{C:MU}{us:MT}{kw:List (Str×MW)}:(A.under (.builtin "type.__call__" #[.ref C::us,kw])).units=A.units+1:=by
 first|rfl|simp[Around.under,Code.cUnits,Code.frames,Code.isFrame]
theorem Room.make{k:Nat}{A:MZ}(r:Room (k+1) A)(C:MU)(us:MT)(kw:List (Str×MW)):Room k (A.under (.builtin "type.__call__" #[.ref C::us,kw])) :=
 #[r.hd,by have:=r.dp;rw[zt];omega,by have:=r.un;rw[zw];omega]
theorem Room.depth{k:Nat}{A:MZ}(r:Room k A):A.depth<recursionLimit:=by have:=r.dp;omega
theorem Room.units{k:Nat}{A:MZ}(r:Room k A):A.units+64<cLine:=by have:=r.un;omega
theorem Room.units0{k:Nat}{A:MZ}(r:Room k A):A.units<cLine:=by have:=r.un;omega
def ge:TA:=λ_ H Q=>Q [] H
def fh(ta:TE)(tr:TA):TA:=λσ H Q=>ta σ H λx H1=>tr σ H1 λxs H2=>Q (x::xs) H2
section
variable{X:Cx}{e:M8}{es:List M8}{te:TE}{t:TA}{pos:Pos}
theorem Ci:PA X [] ge:=λ_ _ _ _ H Q I h=>Calls.spliced_nil #[[],H,I,.nil,h]
theorem FN(ha:PE X e te)(hr:PA X es t)(hs:starEach (e::es) X.env=(false,eval e X.env)::starEach es X.env:=by rfl):PA X (e::es) (fh te t):=by intro pos M9 s σ H Q I h;rw[hs];show wpAny _ _ (spliced ((false,eval e X.env)::backTo pos (starEach es X.env))) _ _ s;refine Calls.spliced_cons (thn (ha M9 s σ H _ I h) λu s1 hz9=>?_);obtain⟨x,H1,I1,r1,q1⟩:=hz9;exact thn (hr pos M9 s1 σ H1 _ I1 q1) λus s2 ⟨xs,H2,I2,r2,q2⟩=>#[x::xs,H2,I2,.cons r1 r2,q2]
def Et(t:TA):TE:=λσ H Q=>t σ H λxs H1=>xs.length<=sizeLine/\∀p,H1 p=none->Q (.ref p) (upd H1 p (.tup xs))
def IF(t:TA):TE:=λσ H Q=>t σ H λxs H1=>xs.length<=sizeLine/\∀p,H1 p=none->Q (.ref p) (upd H1 p (.lst xs))
theorem HN{x1}(h:PA X es t):PE X (.Tuple es x1 pos) (Et t):=by intro M9 s σ H Q I hq;refine wpAny_Tuple_spliced (thn (h pos M9 s σ H _ I hq) λus s1 ⟨xs,H1,I1,r,z,q⟩=>#[by rw[<-r.length];exact z,?_]);have hf:H1 s1.heap.objs.size=none:=I1.hok.fresh (Za _);refine#[.ref s1.heap.objs.size,upd H1 s1.heap.objs.size (.tup xs),I1.laid (t':=s1.toks) (λb u e=>z6 _ e) (Za _) ?_,rfl,q _ hf];exact#[z,us,r,#[_,Ze _ rfl,rfl,_,rfl]]
theorem HI(h:PA X es t):PE X (.List es pos) (IF t):=by intro M9 s σ H Q I hq;refine wpAny_List_spliced (thn (h pos M9 s σ H _ I hq) λus s1 ⟨xs,H1,I1,r,z,q⟩=>#[by rw[<-r.length];exact z,?_]);have hf:H1 s1.heap.objs.size=none:=I1.hok.fresh (Za _);refine#[.ref s1.heap.objs.size,upd H1 s1.heap.objs.size (.lst xs),I1.laid (t':=s1.toks) (λb u e=>z6 _ e) (Za _) ?_,rfl,q _ hf];exact#[z,us,0,r,Ze _ rfl]
end
abbrev Sp:=List V->Hp->VK->XK->Prop
abbrev CXT:=List Env->Hp->MV->XK->MW->MV->Prop
structure Env0(P:MX)(w:MY)(K:W.Frag)(mg:MR)(base:Heap)(A:MZ)(outer:List Env)(s:MV)(H:Hp):Prop where
 frames:A.frames=some outer
 mod:Mod K mg base
 bs:∀b o,base.get? b=some o->s.heap.get? b=some o/\H b=none
 bsz:base.objs.size<=s.heap.objs.size
 funs:s.heap.FunFrames base outer
 frf:∀b∈frs outer,H b=none
 hok:HOk P w H s.heap
 bare:AllBare s.gens
def CE(outer:List Env)(P:MX)(w:MY)(H:Hp)(s:MV)(Q:VK)(u:MW)(s':MV):Prop :=
 ∃v H',s'.os=s.os/\AllBare s'.gens/\Un (frs outer) [] H H' s.heap s'.heap/\HOk P w H' s'.heap/\RelV v u/\Q v H'
def CR(CX:CXT)(outer:List Env)(P:MX)(w:MY)(H:Hp)(s:MV)(Q:VK)(E:XK)(r:Result)(s':MV):Prop :=
 match r with
 |.ok (.ret u)=>CE outer P w H s Q u s'
 |.ok _=>False
 |.error e=>CX outer H s E e s'
structure FnOk(P:MX)(w:MY)(K:W.Frag)(mg:MR)(base:Heap)(CX:CXT)(k:Nat)(f:MU)(fd:M0)(ps:List Str)(sp:Sp):Prop where
 len:∀vs H Q E,sp vs H Q E->vs.length=ps.length
 run:∀(A:MZ) (outer:List Env) (s:MV) (H:Hp) (args:Args) (us:MT) (vs:List V) (Q:VK) (E:XK),Room k A->Env0 P w K mg base A outer s H->BindsTo s fd args (ps.zip us)->Vals vs us->sp vs H Q E ->
  codeAny (model P w) A (.call (.ref f) args) (CR CX outer P w H s Q E) s
theorem Env0.make{P:MX}{w:MY}{K:W.Frag}{mg:MR}{base:Heap}{A:MZ}{outer:List Env}{s:MV}{H:Hp}(e:↑Env0 A outer s H)(C:MU)(us:MT)(kw:List (Str×MW)) :
  Env0 P w K mg base (A.under (.builtin "type.__call__" #[.ref C::us,kw])) outer s H:=#[by first|exact e.frames|(simpa[Around.under,Code.envs,Code.isFrame,pushEnvs]using e.frames),e.mod,e.bs,e.bsz,e.funs,e.frf,e.hok,e.bare]
section
variable{X:Cx}{M9:MP}{σ:St}{H:Hp}{s s':MV}
theorem Inv.env0(I:Inv X M9 σ H s):Env0 X.prog X.w X.K X.mg X.base X.A X.stack s H :=
 #[I.ok.frames,I.ok.mod,I.bs,Zq I.ok.bsz I.sz,I.stack,I.stkFree,I.hok,I.bare]
theorem Inv.after{Q:VK}{u:MW}(I:Inv X M9 σ H s)(h:CE X.stack X.prog X.w H s Q u s'):EP X M9 σ Q u s':=by obtain⟨v,H',os,bare,un,hok,r,q⟩:=h;obtain⟨hh,g,d,t,os'⟩:=s';obtain rfl:os'=s.os:=os;exact#[v,H',I.call (h':=hh) (g':=g) (d':=d) (t':=t) (ch:=[]) un hok bare (λb z=>absurd z (by simp)),r,q]
end
def tW(sp:Sp)(dvs:List V)(E:XK)(t:TA):TE:=λσ H Q=>t σ H λvs H1=>sp (vs++dvs) H1 Q E
inductive IsM(C:MU)(m:Str)(x:V)(H:Hp)(R:Prop):Prop
 |mk (a dx:MU) (fs:List (Str×V)) (h0:x=.ref a) (h1:H a=some (.ins C dx fs)) (h2:fs.lookup m=none) (q:R):IsM C m x H R
def pX(C:MU)(m:Str)(sp:Sp)(dvs:List V)(E:XK)(ta:TE)(t:TA):TE:=λσ H Q=>ta σ H λx H1=>IsM C m x H1 (t σ H1 λvs H2=>sp (x::(vs++dvs)) H2 Q E)
def tZ(C:MU)(sp:Sp)(dvs:List V)(E:XK)(t:TA):TE:=λσ H Q=>t σ H λvs H1=>∀x dx,H1 x=none->H1 dx=none->dx≠x ->
 sp (.ref x::(vs++dvs)) (upd (upd H1 dx (.own x)) x (.ins C dx [])) (λv H2=>v=.non/\Q (.ref x) H2) E
def Binds(K:W.Frag)(fd:M0)(ps:List Str)(ds:MT):Prop :=
 ∀(s:MV) (us:MT),K.In s.heap->(us++ds).length=ps.length->BindsTo s fd #[us,[]] (ps.zip (us++ds))
theorem Binds.all{K:W.Frag}{fd:M0}{ps:List Str}(h:∀us:MT,us.length=ps.length->bindArgs fd #[us,[]]=pure (ps.zip us)):Binds K fd ps []:=λs us _ hl=>by rw[Yr]at hl ⊢;exact .of_eq (h us hl)
def ee(CX:CXT)(X:Cx)(E:XK):Prop:=∀(M9:MP) (σ:St) (H:Hp) (s:MV) (e:MW) (s':MV),Inv X M9 σ H s->CX X.stack H s E e s'->X.xe e s'
section
variable{X:Cx}{CX:CXT}{k:Nat}{f C:MU}{fd:M0}{ps:List Str}{sp:Sp}{dvs:List V}{ds:MT}{E:XK}{x m:Str}{p pos apos:Pos}{e o:M8}{es:List M8}{ta:TE}{t:TA}
theorem vJ{M9:MP}{σ:St}{H:Hp}{s:MV}{Q:VK}{us:MT}{vs:List V}(F:FnOk X.prog X.w X.K X.mg X.base CX k f fd ps sp)(hr:Room k X.A)(hb:Binds X.K fd ps ds)(hd:Vals dvs ds)(hx:ee CX X E)(I:Inv X M9 σ H s)(r:Vals vs us)(h:sp (vs++dvs) H Q E):wpAny (model X.prog X.w) X.A (call (.ref f) us) (EP X M9 σ Q) X.xe s:=by
 have r2:Vals (vs++dvs) (us++ds):=r.append hd;have hl:(us++ds).length=ps.length:=by rw[<-r2.length];exact F.len _ _ _ _ h
 refine wpAny_call (codeAny_mono (F.run X.A X.stack s H #[us,[]] (us++ds) (vs++dvs) Q E hr I.env0 (hb s us I.kIn hl) r2 h) λr s' hq=>?_);cases r with
 |error e=>exact hx M9 σ H s e s' I hq
 |ok fl =>
  cases fl with
  |ret u=>exact I.after hq
  |next=>exact False.elim hq
  |brk=>exact False.elim hq
  |cont=>exact False.elim hq
theorem FP(F:FnOk X.prog X.w X.K X.mg X.base CX k f fd ps sp)(hr:Room k X.A)(hg:Gl X x)(hm:X.mg x=some (.ref f))(hk:W.keepIn X.K (.ref f)=true)(hb:Binds X.K fd ps ds)(hd:Vals dvs ds)(hx:ee CX X E)(ha:PA X (e::es) t)(hdb:(x==("__debug__":Str))=false:=by decide)(he:starEach (e::es) X.env=(false,eval e X.env)::starEach es X.env:=by rfl)(hpl:(backTo pos (starEach es X.env)).any (·.1)=false:=by rfl) :
  PE X (.Call (.Name x p) (e::es) [] pos) (tW sp dvs E t):=by
 intro M9 s σ H Q I h;refine YA (fT I hg hm ?_ hdb);refine W.callWith_K (h₀:=X.base) I.ok.mod.kin hk (thn (ha pos M9 s σ H _ I h) λus s1 ⟨vs,H1,I1,r,q⟩=>#[I1.kIn,?_]) he hpl;exact vJ F hr hb hd hx I1 r q
theorem yl{pl:Sem Bool}(he:PE X o ta)(c:Cls X.K C)(hm:Meth X.K C m f)(F:FnOk X.prog X.w X.K X.mg X.base CX k f fd ps sp)(hr:Room k X.A)(hb:Binds X.K fd ps ds)(hd:Vals dvs ds)(hx:ee CX X E)(ha:PA X (e::es) t)(hst:starEach (e::es) X.env=(false,eval e X.env)::starEach es X.env:=by rfl)(hpl:(backTo pos (starEach es X.env)).any (·.1)=false:=by rfl)(ht:eval (.Call (.Attribute o m apos) (e::es) [] pos) X.env=(do
   let ov ←eval o X.env
   standAt apos.atName
   let(f,first) ←holding [ov] (getMethod ov m pl)
   callWith pos f first (backTo pos (starEach (e::es) X.env)) (backToKw pos (keywordEach [] X.env))):=by rfl) :
  PE X (.Call (.Attribute o m apos) (e::es) [] pos) (pX C m sp dvs E ta t):=by
 intro M9 s σ H Q I h;refine W.methodCall_KW (pl:=pl) (thn (he M9 s σ H _ I h) λu s1 hz9=>?_) ht;obtain⟨x,H1,I1,rx,a,dx,fs,ex,ea,l,q⟩:=hz9;subst ex;obtain rfl:u=Value.ref a:=rx;refine ke I1 ea c hm l ?_;refine W.callWith_K (first:=[.ref a]) (h₀:=X.base) I.ok.mod.kin hm.kp (thn (ha pos M9 s1 σ H1 _ I1 q) λus s2 ⟨vs,H2,I2,r,q2⟩=>#[I2.kIn,?_]) hst hpl;exact vJ (us:=.ref a::us) (vs:=.ref a::vs) F hr hb hd hx I2 (.cons rfl r) q2
theorem D1{pl:Sem Bool}(he:PE X o ta)(c:Cls X.K C)(hm:Meth X.K C m f)(F:FnOk X.prog X.w X.K X.mg X.base CX k f fd ps sp)(hr:Room k X.A)(hb:Binds X.K fd ps ds)(hd:Vals dvs ds)(hx:ee CX X E)(ht:eval (.Call (.Attribute o m apos) [] [] pos) X.env=(do
   let ov ←eval o X.env
   standAt apos.atName
   let(f,first) ←holding [ov] (getMethod ov m pl)
   callWith pos f first (backTo pos (starEach [] X.env)) (backToKw pos (keywordEach [] X.env))):=by rfl) :
  PE X (.Call (.Attribute o m apos) [] [] pos) (pX C m sp dvs E ta ge):=by
 intro M9 s σ H Q I h;refine W.methodCall_KW (pl:=pl) (thn (he M9 s σ H _ I h) λu s1 hz9=>?_) ht;obtain⟨x,H1,I1,rx,a,dx,fs,ex,ea,l,q⟩:=hz9;subst ex;obtain rfl:u=Value.ref a:=rx;refine ke I1 ea c hm l ?_;exact W.callWith_K0 (first:=[.ref a]) I1.kIn hm.kp (vJ (us:=[.ref a]) (vs:=[.ref a]) F hr hb hd hx I1 (.cons rfl .nil) q)
structure Mk(K:W.Frag)(C f:MU):Prop where
 makes:W.makesIn K C=true
 init:W.findIn K (.ref C) "__init__" = some (some (.ref f))
 fn:W.isFn K (.ref f)=true
 kp:W.keepIn K (.ref C)=true
theorem vK{M9:MP}{σ:St}{H:Hp}{s:MV}{Q:VK}{us:MT}{vs:List V}(M:Mk X.K C f)(F:FnOk X.prog X.w X.K X.mg X.base CX k f fd ps sp)(hr:Room (k+1) X.A)(hb:Binds X.K fd ps ds)(hd:Vals dvs ds)(hx:ee CX X E)(I:Inv X M9 σ H s)(r:Vals vs us)(h:∀x dx,H x=none->H dx=none->dx≠x->sp (.ref x::(vs++dvs)) (upd (upd H dx (.own x)) x (.ins C dx [])) (λv H2=>v=.non/\Q (.ref x) H2) E) :
  wpAny (model X.prog X.w) X.A (call (.ref C) us) (EP X M9 σ Q) X.xe s:=by
 have hq:=h (s.heap.objs.size+1) s.heap.objs.size (I.hok.fresh (Nat.le_succ _)) (I.hok.fresh (Za _)) (Zo (Nat.lt_succ_self _));have I2:=Inv.made (C:=C) I;have r2:Vals (V.ref (s.heap.objs.size+1)::(vs++dvs)) (Value.ref (s.heap.objs.size+1)::(us++ds)):=.cons rfl (r.append hd);have hl:(Value.ref (s.heap.objs.size+1)::us++ds).length=ps.length:=by have e:=r2.length;rw[F.len _ _ _ _ hq]at e;exact e.symm
 refine wpAny_call (DI (f:=f) I.kIn M.makes M.init (Z6.mp M.fn) (codeAny_mono (F.run _ X.stack _ _ #[Value.ref (s.heap.objs.size+1)::us,[]] (Value.ref (s.heap.objs.size+1)::(us++ds)) _ _ E (hr.make C us [])
  (I2.env0.make C us []) (hb _ (Value.ref (s.heap.objs.size+1)::us) I2.kIn hl) r2 hq) λr s' hq'=>?_))
 cases r with
 |error e=>exact hx M9 σ _ _ e s' I2 hq'
 |ok fl =>
  cases fl with
  |ret u =>obtain⟨v,H',I3,rv,ev,q3⟩:=I2.after hq';subst ev;exact#[rv,#[V.ref (s.heap.objs.size+1),H',I3,rfl,q3]]
  |next=>exact False.elim hq'
  |brk=>exact False.elim hq'
  |cont=>exact False.elim hq'
theorem FT(M:Mk X.K C f)(F:FnOk X.prog X.w X.K X.mg X.base CX k f fd ps sp)(hr:Room (k+1) X.A)(hg:Gl X x)(hm:X.mg x=some (.ref C))(hb:Binds X.K fd ps ds)(hd:Vals dvs ds)(hx:ee CX X E)(ha:PA X (e::es) t)(hdb:(x==("__debug__":Str))=false:=by decide)(he:starEach (e::es) X.env=(false,eval e X.env)::starEach es X.env:=by rfl)(hpl:(backTo pos (starEach es X.env)).any (·.1)=false:=by rfl) :
  PE X (.Call (.Name x p) (e::es) [] pos) (tZ C sp dvs E t):=by
 intro M9 s σ H Q I h;refine YA (fT I hg hm ?_ hdb);refine W.callWith_K (h₀:=X.base) I.ok.mod.kin M.kp (thn (ha pos M9 s σ H _ I h) λus s1 ⟨vs,H1,I1,r,q⟩=>#[I1.kIn,?_]) he hpl;exact vK M F hr hb hd hx I1 r q
theorem DZ(M:Mk X.K C f)(F:FnOk X.prog X.w X.K X.mg X.base CX k f fd ps sp)(hr:Room (k+1) X.A)(hg:Gl X x)(hm:X.mg x=some (.ref C))(hb:Binds X.K fd ps ds)(hd:Vals dvs ds)(hx:ee CX X E)(hdb:(x==("__debug__":Str))=false:=by decide):PE X (.Call (.Name x p) [] [] pos) (tZ C sp dvs E ge):=by intro M9 s σ H Q I h;refine YA (fT I hg hm ?_ hdb);exact W.callWith_K0 I.kIn M.kp (vK (us:=[]) M F hr hb hd hx I .nil h)
end
def PK(X:Cx)(kws:List Keyword)(t:TA):Prop :=
 ∀(pos:Pos) (M9:MP) (s:MV) (σ:St) (H:Hp) (Q:List V->Hp->Prop),Inv X M9 σ H s->t σ H Q->wpAny (model X.prog X.w) X.A (evalAll ((backToKw pos (keywordEach kws X.env)).map (·.2))) (AP X M9 σ Q) X.xe s
section
variable{X:Cx}{CX:CXT}{k:Nat}{f C:MU}{fd:M0}{ps ks:List Str}{sp:Sp}{E:XK}{x m:Str}{p pos apos kpos:Pos}{e o:M8}{es:List M8}{kws:List Keyword}{te ta:TE}{t tk:TA}{nm:Option Str}
theorem vG:PK X [] ge:=λ_ _ _ _ H Q I h=>wpAny_evalAll_nil #[[],H,I,.nil,h]
theorem mD(ha:PE X e te)(hr:PK X kws t):PK X (#[nm,e,kpos]::kws) (fh te t):=by intro pos M9 s σ H Q I h;show wpAny _ _ (evalAll ((do let v ←eval e X.env;standAt pos;pure v)::(backToKw pos (keywordEach kws X.env)).map (·.2))) _ _ s;refine wpAny_evalAll_cons (z0 (thn (ha M9 s σ H _ I h) λu s1 ⟨x,H1,I1,r1,q1⟩=>z0 (wpAny_standAt (z9 ?_))));exact thn (hr pos M9 s1 σ H1 _ I1 q1) λus s2 ⟨xs,H2,I2,r2,q2⟩=>#[x::xs,H2,I2,.cons r1 r2,q2]
structure KBinds(K:W.Frag)(fd:M0)(ps ks:List Str)(g:MT->MT->MT)(gV:List V->List V->List V):Prop where
 to:∀(s:MV) (us ws:MT),K.In s.heap->(g us ws).length=ps.length->BindsTo s fd #[us,ks.zip ws] (ps.zip (g us ws))
 rel:∀{vs:List V} {us:MT} {zs:List V} {ws:MT},Vals vs us->Vals zs ws->Vals (gV vs zs) (g us ws)
variable{g:MT->MT->MT}{gV:List V->List V->List V}
end
structure FnScope(N P:List Str)(sc:Scope):Prop where
 kind:sc.kind=.function
 co:sc.isCoroutine=false
 gen:sc.isGenerator=false
 nd:N.Nodup
 pre:N.take P.length=P
 par:∀x∈P,sc.names.lookup x=some .local\/sc.names.lookup x=some .cell
 nofree:∀y∈sc.names,y.2≠.free
theorem rK{kindOf:Str->Option NameKind}{x:Str}:∀{binds:List (Str×MW)} {m:MR},(∀v,(x,v)∉binds)->bindL kindOf binds m x=m x
 | [],_,_=>rfl
 |(n,v)::r,m,h=>by
  unfold bindL;rw[rK λw hw=>h w (ZG _ hw)];split
  ·have:x≠n:=by rintro rfl;exact h v Ys
   simp[this]
  ·rfl
theorem rH{kindOf:Str->Option NameKind}{x:Str}:∀{binds:List (Str×MW)} {m:MR},(∀v,(x,v)∉binds)->bindC kindOf binds m x=m x
 | [],_,_=>rfl
 |(n,v)::r,m,h=>by
  unfold bindC;rw[rH λw hw=>h w (ZG _ hw)];split
  ·rfl
  ·have:x≠n:=by rintro rfl;exact h v Ys
   simp[this]
theorem rJ{kindOf:Str->Option NameKind}{x:Str}{v:MW}:∀{P:List Str} {vs:MT} {i:Nat} {m:MR},P.Nodup->P[i]?=some x->vs[i]?=some v->kindOf x=some .local ->
  bindL kindOf (P.zip vs) m x=some v
 | [],_,_,_,_,h,_,_=>by simp at h
 |_::_,[],_,_,_,_,h,_=>by simp at h
 |p::P,w::vs,0,m,nd,h1,h2,hk=>by simp at h1 h2;subst h1;subst h2;show bindL kindOf ((p,w)::P.zip vs) m p=_;unfold bindL;rw[rK λv hv=>(List.nodup_cons.mp nd).1 (List.of_mem_zip hv).1,MO hk];simp
 |p::P,w::vs,i+1,m,nd,h1,h2,hk=>by show bindL kindOf ((p,w)::P.zip vs) m x=_;unfold bindL;exact rJ (i:=i) (List.nodup_cons.mp nd).2 (by simpa using h1) (by simpa using h2) hk
theorem rG{kindOf:Str->Option NameKind}{x:Str}{v:MW}:∀{P:List Str} {vs:MT} {i:Nat} {m:MR},P.Nodup->P[i]?=some x->vs[i]?=some v->kindOf x≠some .local ->
  bindC kindOf (P.zip vs) m x=some v
 | [],_,_,_,_,h,_,_=>by simp at h
 |_::_,[],_,_,_,_,h,_=>by simp at h
 |p::P,w::vs,0,m,nd,h1,h2,hk=>by simp at h1 h2;subst h1;subst h2;show bindC kindOf ((p,w)::P.zip vs) m p=_;unfold bindC;rw[rH λv hv=>(List.nodup_cons.mp nd).1 (List.of_mem_zip hv).1,MN hk];simp
 |p::P,w::vs,i+1,m,nd,h1,h2,hk=>by show bindC kindOf ((p,w)::P.zip vs) m x=_;unfold bindC;exact rG (i:=i) (List.nodup_cons.mp nd).2 (by simpa using h1) (by simpa using h2) hk
def start(N:List Str)(vs:List V):St:=vs.map some++List.replicate (N.length-vs.length) none
def fq(CX:CXT)(P:MX)(w:MY)(K:W.Frag)(mg:MR)(base:Heap)(N:List Str)(qual:Str)(scope:Scope)(f:MU)(cd:MW)(A:MZ)(outer:List Env)(s:MV)(H:Hp)(E:XK):Cx where
 prog:=P
 w:=w
 K:=K
 mg:=mg
 base:=base
 A:=A.deeper (envOfC qual scope s.heap.objs.size f cd)
 N:=N
 s₀:=s
 H₀:=H
 env:=envOfC qual scope s.heap.objs.size f cd
 outer:=outer
 stack:=envOfC qual scope s.heap.objs.size f cd::outer
 ex:=[]
 calm:=true
 fn:=λ_=>true
 pn:=[]
 xe:=λe s'=>wpAny (model P w) (A.deeper (envOfC qual scope s.heap.objs.size f cd)) (leaving (envOfC qual scope s.heap.objs.size f cd) e) (λ_ s''=>CX outer H s E e s'') (λe' s''=>CX outer H s E e' s'') s'
theorem uF{sc:Scope}{n:Nat}{x:Str}(h:sc.names.lookup x=some .cell):∃c,(cellsFrom n sc.names []).lookup x=some c:=by have q:=W.cellsFrom_some sc.names n [] (.inl h);exact YB.mp q
theorem rU{CX:CXT}{P:MX}{w:MY}{K:W.Frag}{mg:MR}{base:Heap}{N ps:List Str}{qual:Str}{scope:Scope}{f:MU}{cd:MW}{A:MZ}{outer:List Env}{s s1:MV}{H:Hp}{E:XK}{us:MT}{vs:List V}(S:FnScope N ps scope)(hd:A.handled=none)(e0:↑Env0 A outer s H)(hl:vs.length=ps.length)(r:Vals vs us)(x:InCallC s s.heap.objs.size (bindL (envOfC qual scope s.heap.objs.size f cd).kindOf (ps.zip us) λ_=>none) (cellsFrom (s.heap.objs.size+1) scope.names []) (bindC (envOfC qual scope s.heap.objs.size f cd).kindOf (ps.zip us) λ_=>none) s1) :
  Inv (fq CX P w K mg base N qual scope f cd A outer s H E) [] (start N vs) H s1:=by
 have hpl:ps.length<=N.length:=by have:=Yw List.length S.pre;rw[ZP]at this;omega
 obtain⟨h1,tk,rfl,hk⟩:=x.done;have noA:∀b:MU,b∉(fq CX P w K mg base N qual scope f cd A outer s H E).ex:=λb z=>absurd (show b∈([]:List MU)from z) (by simp);refine#[#[e0.mod,S.kind,rfl,rfl,Za _,λy z c h1 h2=>?_,λy hy=>?_,λy c _ h=>?_,λ_=>hd,Around.frames_deeper e0.frames,.inr #[rfl,rfl],λb z=>absurd z (noA b),e0.bs,e0.bsz,λb _ _=>noA b,λb z=>absurd z (noA b),e0.funs,e0.frf],
  rfl,e0.bare,Un.kept hk,#[_,x.toInCall.ns,λi y v h1 h2 h3=>?_],λy c h=>#[_,x.cell y c h],e0.hok.fresh (Za _),λy c h=>?_,λp hp=>absurd (show p∈([]:MP) from hp) (by simp),e0.hok.kept hk,?_]
 ·exact name_of_addr x.apart (Yl h1) (Yl h2)
 ·have hy:scope.names.lookup y=some .cell\/scope.names.lookup y=some .free:=hy;rcases hy with hy|hy
  ·exact uF hy
  ·exact absurd rfl (S.nofree _ (Yl hy))
 ·exact Y6 (x.above y c (Yl h))
 ·have hi:i<vs.length:=by
   unfold start at h2;by_cases hi:i<vs.length
   ·exact hi
   ·rw[ZV (by simpa using hi)]at h2;rw[List.getElem?_replicate]at h2;split at h2<;>cases h2
  have ha:vs[i]?=some v:=by
   unfold start at h2;rw[y9 (by simpa using hi),ZE]at h2;cases e:vs[i]? with
   |none=>rw[e]at h2;cases h2
   |some a=>rw[e]at h2;cases h2;rfl
  obtain⟨u,hu,rv⟩:=r.get ha;have hp:ps[i]?=some y:=by rw[<-S.pre,List.getElem?_take_of_lt ∅];exact h1
  have ndP:ps.Nodup:=by rw[<-S.pre];exact S.nd.sublist (YG _ _)
  refine#[u,rv,?_];rcases S.par y (Zv hp)with k|k
  ·exact .inl #[k,rJ ndP hp hu k]
  ·obtain⟨c,e⟩:=uF (n:=s.heap.objs.size+1) k;refine .inr #[.inl k,c,e,?_];have q:=x.cell y c e;rw[rG ndP hp hu (by show scope.names.lookup y≠_;rw[k];decide)]at q;exact q
 ·exact e0.hok.fresh (Y6 (x.above y c (Yl h)))
 ·unfold start;show _=N.length;rw[Zk,Zb,x5];omega
theorem ze{CX:CXT}{P:MX}{w:MY}{K:W.Frag}{mg:MR}{base:Heap}{k:Nat}{f:MU}{name qual:Str}{params:Arguments}{body:List Stmt}{scope:Scope}{dV kV doc pm cdv ct oc:MW}{an od:Option MU}{osl:Array (Option MW)}{N ps:List Str}{sp:Sp}(lk:K.lookup f=some #[oc,od,.func (W.fnOf name qual params body scope dV kV doc pm an cdv ct),osl])(hcd:W.codeIn K cdv qual=true)(S:FnScope N ps scope)(len:∀ vs H Q E,sp vs H Q E->vs.length=ps.length)(hbody:∀ (A:MZ) (outer:List Env) (s:MV) (H:Hp) (vs:List V) (Q:VK) (E:XK),Room k (A.deeper (envOfC qual scope s.heap.objs.size f cdv))->sp vs H Q E ->
   ∃ t,PSs (fq CX P w K mg base N qual scope f cdv A outer s H E) body t/\t { nx:=λ_ H'=>Q .non H',rt:=Q } (start N vs) H) :
  FnOk P w K mg base CX (k+1) f (W.fnOf name qual params body scope dV kV doc pm an cdv ct) ps sp:=by
 refine#[len,λA outer s H args us vs Q E hr e0 hb r hsp=>?_];have hl:=len _ _ _ _ hsp;have KX:K.In s.heap:=e0.mod.kin.keeps λb o e=>(e0.bs b o e).1;have lim:s.heap.NoLimit:=e0.mod.nolimit.keeps λb o e=>(e0.bs b o e).1;have hkind:∀y∈ps.zip us,scope.names.lookup y.1=some .local\/(scope.names.lookup y.1=some .cell/\((cellsFrom (s.heap.objs.size+1) scope.names []).lookup y.1).isSome=true):=fun⟨n,v⟩ hy=>by
  rcases S.par n (List.of_mem_zip hy).1 with q|q
  ·exact .inl q
  ·exact .inr #[q,W.cellsFrom_some _ _ _ (.inl q)]
 refine codeAny_call_function hr.depth (KX _ _ lk) rfl S.co S.gen rfl (W.codeRec_of KX hcd) (hb _ _ _ _ ?_);refine wpAny_newFunctionEnv_cells S.kind hkind λenv he s1 x=>?_;subst he;refine#[lim.keeps x.toInCall.keep,codeAny_func ?_];obtain⟨t,ht,hq⟩:=hbody A outer s H vs Q E (hr.deeper _) hsp;have I:Inv (fq CX P w K mg base N qual scope f cdv A outer s H E) [] (start N vs) H s1:=rU S hr.hd e0 hl r x;refine ZL (ht [] s1 (start N vs) H _ I hq) (λfl s' hs=>?_) λe s' hs=>hs;have fin:∀{σ':St} {H':Hp} {v:V} {u:MW},Inv (fq CX P w K mg base N qual scope f cdv A outer s H E) [] σ' H' s'->RelV v u->Q v H'->CE outer P w H s Q u s' :=
  fun{σ' H' v u} J rv q=>#[v,H',J.os,J.bare,J.base,J.hok,rv,q]
 cases fl with
 |ret u =>obtain⟨v,σ',H',J,rv,q⟩:=hs;exact fin J rv q
 |next =>obtain⟨σ',H',J,q⟩:=hs;exact fin (v:=V.non) (u:=Value.none) J rfl q
 |brk =>obtain⟨_,_,_,q⟩:=hs;exact False.elim q
 |cont =>obtain⟨_,_,_,q⟩:=hs;exact False.elim q
section
variable{X:Cx}{x:Str}{p pos:Pos}{e:M8}{es:List M8}{t:TA}{id T:String}{r:List V->Hp->VK->Prop}
def tCB(r:List V->Hp->VK->Prop)(t:TA):TE:=λσ H Q=>t σ H λvs H1=>r vs H1 Q
theorem DS(hc:cU X (.builtin id) r)(hg:Gl X x)(hm:X.mg x=none)(hv:bootBuiltins x=some (.builtin id))(ha:PA X (e::es) t)(hn:x≠"__name__":=by decide)(hdb:(x==("__debug__":Str))=false:=by decide)(he:starEach (e::es) X.env=(false,eval e X.env)::starEach es X.env:=by rfl)(hpl:(backTo pos (starEach es X.env)).any (·.1)=false:=by rfl):PE X (.Call (.Name x p) (e::es) [] pos) (tCB r t):=by intro M9 s σ H Q I h;refine YA (eC I hg hm hv ?_ hn hdb);exact PyProof.Rows.callWith_builtin1 (thn (ha pos M9 s σ H _ I h) λus s1 ⟨vs,H1,I1,r1,q1⟩=>hc M9 s1 σ H1 vs us Q I1 r1 q1) he hpl
theorem Cm(hc:cU X (.type T) r)(hg:Gl X x)(hm:X.mg x=none)(hv:bootBuiltins x=some (.type T))(ha:PA X (e::es) t)(hn:x≠"__name__":=by decide)(hdb:(x==("__debug__":Str))=false:=by decide)(he:starEach (e::es) X.env=(false,eval e X.env)::starEach es X.env:=by rfl)(hpl:(backTo pos (starEach es X.env)).any (·.1)=false:=by rfl):PE X (.Call (.Name x p) (e::es) [] pos) (tCB r t):=by intro M9 s σ H Q I h;refine YA (eC I hg hm hv ?_ hn hdb);exact Yt (thn (ha pos M9 s σ H _ I h) λus s1 ⟨vs,H1,I1,r1,q1⟩=>hc M9 s1 σ H1 vs us Q I1 r1 q1) he hpl
end
end L2
namespace HT
open PySem PyProof.Rows
def lexLt:M5->M5->Bool
 | [],[]=>false
 | [],_::_=>true
 |_::_,[]=>false
 |x::xs,y::ys=>if x=y then lexLt xs ys else decide (x<y)
theorem lexLt_cons(x y:Int)(xs ys:M5):lexLt (x::xs) (y::ys)=if x=y then lexLt xs ys else decide (x<y):=rfl
theorem lexLt_nil_nil:lexLt [] []=false:=rfl
theorem eqAt_int(A:MZ)(s:MV)(a:Int)(t:Tok)(c:Int)(u:Tok):∃e,SeqAt.EqAt A s (.int a t) (.int c u) e/\(e=true↔a=c) :=
 #[(a==c),SeqAt.EqAt.int_int a t c u,by simp]
section
variable{prog:MX}{w:MY}{A:MZ}{E:MQ}{s:MV}
theorem cat_tup{t b:MU}{vs ws:MT}{Q:MQ}(ht:IsTup s.heap t vs.toArray)(hb:IsTup s.heap b ws.toArray)(hv:vs≠[])(h1:ws=[]->Q (.ref t) s)(h2:ws≠[]->Q (.ref s.heap.objs.size) { s with heap:=s.heap.push { cls:=.type "tuple",data:=.seq (vs++ws).toArray } })(hsz:vs.length+ws.length<=sizeLine):wpAny (model prog w) A (binaryOp .Add (.ref t) (.ref b)) Q E s:=by
 obtain⟨⟨cls,dd,data,sl⟩,ho,hc,n,hd⟩:=id ht;obtain⟨⟨cls2,dd2,data2,sl2⟩,ho2,hc2,n2,hd2⟩:=id hb;simp only at hc hd hc2 hd2;subst hc hd hc2 hd2;have e:vs.toArray++ws.toArray=(vs++ws).toArray:=by simp
 by_cases hw:ws=[]
 ·exact concat_meets #[_,ho,rfl] #[_,ho2,rfl] noFill_tuple_add seq_tuple_add PySem.F.slot_tuple_add PySem.F.entry_tuple_add (PySem.F.args_tuple_add_2 _ _)
   (tuple_addW1 t b vs.toArray ws.toArray n n2 dd dd2 sl sl2 (by simpa using hv) (by simp[hw])) #[ho,ho2,h1 hw]
 ·refine concat_meets #[_,ho,rfl] #[_,ho2,rfl] noFill_tuple_add seq_tuple_add PySem.F.slot_tuple_add PySem.F.entry_tuple_add (PySem.F.args_tuple_add_2 _ _)
   (tuple_addW2 t b vs.toArray ws.toArray n n2 dd dd2 sl sl2 (by simpa using hv) (by simpa using hw) (by rw[Zf,Zf];exact hsz)) #[ho,ho2,?_]
  rw[e];exact h2 hw
def sIx(n d:Nat):Option Int->Nat
 |none=>d
 |some v=>if v<0 then(v+(n:Int)).toNat else min v.toNat n
theorem sIx_none(n d:Nat):sIx n d none=d:=rfl
theorem sIx_nat(n d k:Nat):sIx n d (some (k:Int))=min k n:=by show(if(k:Int)<0 then((k:Int)+(n:Int)).toNat else min (k:Int).toNat n)=min k n;rw[MN ∅,ZJ]
theorem Ir(n d:Nat)(hd:d<=n)(o:Option Int):sIx n d o<=n:=by
 cases o with
 |none=>exact hd
 |some v =>
  show(if v<0 then(v+(n:Int)).toNat else min v.toNat n)<=n;by_cases hv:v<0
  ·rw[MO hv];omega
  ·rw[MN hv];exact Nat.min_le_right _ _
theorem xG(v:Int)(n d:Nat):(if v<0 then max (v+(n:Int)) 0 else min v (n:Int))=((sIx n d (some v):Nat):Int):=by
 show(if v<0 then max (v+(n:Int)) 0 else min v (n:Int))=(((if v<0 then(v+(n:Int)).toNat else min v.toNat n):Nat):Int);by_cases hv:v<0
 ·simp only[MO hv];omega
 ·simp only[MN hv];omega
theorem yS(lo hi:Option Int)(n:Nat):Builtin.Slice.sliceAdjust lo hi 1 (n:Int)=(((sIx n 0 lo:Nat):Int),((sIx n n hi:Nat):Int)):=by
 have h1:¬((1:Int)<0):=∅
 unfold Builtin.Slice.sliceAdjust;simp only[h1,YO];refine Prod.ext ?_ ?_
 ·cases lo with
  |none=>rfl
  |some v=>exact xG v n 0
 ·cases hi with
  |none=>rfl
  |some v=>exact xG v n n
theorem Af(i j:Nat):Builtin.Slice.slicePlaces (i:Int) (j:Int) 1=j-i:=by
 unfold Builtin.Slice.slicePlaces;have h1:(1:Int)>0:=∅
 simp only[h1,if_true,Int.ediv_one];split<;>omega
theorem pQ{v:MW}{o:Option Int}{Q:Option Int->MV->Prop}(p:IsPart v o)(h:Q o s):wpAny (model prog w) A (Builtin.Slice.slicePartIndex v) Q E s:=by
 cases p with
 |none=>exact slicePart_none h
 |int i t=>exact slicePart_int h
theorem sliceApplied_gen{sl:MU}{vl vu:MW}{lo hi:Option Int}{n:Nat}{Q:Int×Int×Nat->MV->Prop}(hs:s.heap.IsSliceOf sl vl vu .none)(pl:IsPart vl lo)(pu:IsPart vu hi)(h:Q (((sIx n 0 lo:Nat):Int),1,sIx n n hi-sIx n 0 lo) s):wpAny (model prog w) A (Builtin.Slice.sliceApplied (.ref sl) (pure (n:Int))) Q E s:=by obtain⟨os,hos,hcs,hds⟩:=id hs;unfold Builtin.Slice.sliceApplied Builtin.Slice.sliceFields;refine z0 (z0 (ZO hos hds (x:=vl) rfl (z0 (ZO hos hds (x:=vu) rfl (z0 (ZO hos hds (x:=.none) rfl (z9 ?_)))))));refine z0 (slicePart_none ?_);show wpAny _ _ (if((1:Int)==0)=true then _ else _) _ _ s;rw[MN ⋯];refine z0 (pQ pl (z0 (pQ pu (z0 (z9 ?_)))));show wpAny _ _ (match Builtin.Slice.sliceAdjust lo hi 1 (n:Int)with|(lo,hi)=>pure (lo,(1:Int),Builtin.Slice.slicePlaces lo hi 1)) _ _ s;rw[yS lo hi n];show wpAny _ _ (pure (((sIx n 0 lo:Nat):Int),(1:Int),Builtin.Slice.slicePlaces ((sIx n 0 lo:Nat):Int) ((sIx n n hi:Nat):Int) 1)) _ _ s;rw[Af];exact z9 h
theorem D7(xs:Array MW)(i k:Nat):((List.range k).filterMap fun(m:Nat)=>xs[((i:Int)+(m:Int)*1).toNat]?).toArray=((xs.toList.drop i).take k).toArray:=by
 have e:(fun(m:Nat)=>xs[((i:Int)+(m:Int)*1).toNat]?)=λm=>xs[i+m]?:=by
  funext m;have:((i:Int)+(m:Int)*1).toNat=i+m:=∅
  rw[this]
 rw[e];have:=pick_run xs i k;rw[List.filterMap_map]at this;have e2:((λx=>xs[x]?)∘λx=>i+x)=λm=>xs[i+m]?:=rfl;rw[e2]at this;rw[this]
theorem getItem_tuple_cut{t sl:MU}{items:Array MW}{vl vu:MW}{lo hi:Option Int}{Q:MQ}(ht:IsTup s.heap t items)(hs:s.heap.IsSliceOf sl vl vu .none)(pl:IsPart vl lo)(pu:IsPart vu hi)(hw:¬(sIx items.size 0 lo=0/\sIx items.size items.size hi=items.size))(h:Q (.ref s.heap.objs.size) { s with heap:=s.heap.push { cls:=.type "tuple",data:=.seq ((items.toList.drop (sIx items.size 0 lo)).take (sIx items.size items.size hi-sIx items.size 0 lo)).toArray } })(hsz:items.size<=sizeLine):wpAny (model prog w) A (getItem (.ref t) (.ref sl)) Q E s:=by
 have htake:sizeOk (.seq ((items.toList.drop (sIx items.size 0 lo)).take (sIx items.size items.size hi-sIx items.size 0 lo)).toArray):=by show((items.toList.drop (sIx items.size 0 lo)).take (sIx items.size items.size hi-sIx items.size 0 lo)).toArray.size<=sizeLine;rw[Zf,ZP,YC,ZC];omega
 have hj:sIx items.size items.size hi<=items.size:=Ir _ _ (Za _) hi;obtain⟨os,hos,hcs,hds⟩:=id hs;have hTs:s.TypeIs (.ref sl) "slice":=#[os,hos,hcs]
 unfold getItem
 try with_reducible refine ZF ?_
 first|refine z0 (z9 ?_)|skip
 refine z0 (wpAny_sequenceKey ht.typeIs ⋯ ?_);refine z0 (ZA (name:=Str.ofString "__getitem__") ht.typeIs Yf
  (ZK Yf ht.typeIs entry_tuple_getitem ?_ (args_tuple_getitem _ _)))
 show wpAny _ _ (Builtin.Tuple.tupleItemsOf (.ref t) >>= _) _ _ s;refine z0 (tupleItemsOf_ ht ?_);refine z0 (wpAny_typeOf hTs ?_);rw[MO ⋯];refine z0 (sliceApplied_gen hs pl pu ?_);have hno:¬((((sIx items.size 0 lo:Nat):Int)==0&&(1:Int)==1&&(sIx items.size items.size hi-sIx items.size 0 lo)==items.size)=true):=by intro q;rw[Zw,Zw]at q;have q1:((sIx items.size 0 lo:Nat):Int)=0:=eq_of_beq q.1.1;have q2:sIx items.size items.size hi-sIx items.size 0 lo=items.size:=eq_of_beq q.2;exact hw #[∅,∅]
 show wpAny _ _ (if(((sIx items.size 0 lo:Nat):Int)==0&&(1:Int)==1&&(sIx items.size items.size hi-sIx items.size 0 lo)==items.size)=true then _ else _) _ _ s;rw[MN hno,D7]
 first
  |exact z0 (m:=Builtin.Tuple.tupleExact _) (ZD (z9 #[_,rfl,z9 h]) htake)
  |exact z0 (m:=Builtin.Tuple.tupleExact _) (ZD (z0 (z9 (z9 #[_,rfl,z9 h]))) htake)
  |exact z0 (z0 (m:=Builtin.Tuple.tupleExact _) (ZD (z9 (z9 #[_,rfl,z9 h])) htake))
  |exact z0 (z0 (m:=Builtin.Tuple.tupleExact _) (ZD (z9 #[_,rfl,z9 h]) htake))
end
end HT
namespace L2
open PySem PySem.Spec PyProof.Rows
abbrev TO:=St->Hp->(Option Int->Hp->Prop)->Prop
def PO(X:Cx)(e:Option M8)(t:TO):Prop :=
 ∀(M9:MP) (s:MV) (σ:St) (H:Hp) (Q:Option Int->Hp->Prop),Inv X M9 σ H s->t σ H Q ->
  wpAny (model X.prog X.w) X.A (evalPart e X.env) (λu s'=>∃o H',Inv X M9 σ H' s'/\IsPart u o/\Q o H') X.xe s
def yz:TO:=λ_ H Q=>Q none H
inductive IsI(x:V)(R:Int->Prop):Prop
 |mk (i:Int) (h:x=.int i) (q:R i):IsI x R
def E8(t:TE):TO:=λσ H Q=>t σ H λx H1=>IsI x λi=>Q (some i) H1
theorem dB{ns:M5}:∀{us:MT},Vals (ns.map V.int) us->IntsAre us ns:=by
 induction ns with
 |nil=>intro us r;rw[List.map_nil]at r;cases r;exact .nil
 |cons n ns ih =>
  intro us r;rw[Z1]at r;cases r with
  |cons r1 r2 =>obtain⟨t,e⟩:=r1;subst e;exact .cons n t (ih r2)
section
variable{X:Cx}{e:M8}{te:TE}{lo hi:Option M8}{tl th:TO}{pos p2:Pos}
theorem F7:PO X none yz:=by intro M9 s σ H Q I h;rw[evalPart_none];exact z9 #[none,H,I,.none,h]
theorem F8(h:PE X e te):PO X (some e) (E8 te):=by intro M9 s σ H Q I hw;rw[evalPart_some];refine thn (h M9 s σ H _ I hw) λu s1 hz9=>?_;obtain⟨x,H1,I1,r1,q1⟩:=hz9;obtain⟨i,rfl,q⟩:=q1;obtain⟨t,rfl⟩:=r1;exact#[some i,H1,I1,.int i t,q]
def SlR(X:Cx)(r:V->Option Int->Option Int->Hp->VK->Prop):Prop :=
 ∀(M9:MP) (s:MV) (σ:St) (H:Hp) (x:V) (v vl vu:MW) (lo hi:Option Int) (sl:MU) (Q:VK),Inv X M9 σ H s->RelV x v->s.heap.IsSliceOf sl vl vu .none->IsPart vl lo->IsPart vu hi->r x lo hi H Q ->
  ∃T id,typeLookup (.type T) "__getitem__" = pure (some (.builtin id))/\s.TypeIs v T/\wpAny (model X.prog X.w) X.A (getItem v (.ref sl)) (EP X M9 σ Q) X.xe s
def tSl(r:V->Option Int->Option Int->Hp->VK->Prop)(te:TE)(tl th:TO):TE:=λσ H Q=>te σ H λx H1=>tl σ H1 λl H2=>th σ H2 λu H3=>r x l u H3 Q
theorem D4{r:V->Option Int->Option Int->Hp->VK->Prop}(hr:SlR X r)(he:PE X e te)(hl:PO X lo tl)(hu:PO X hi th):PE X (.Subscript e (.Slice lo hi none p2) pos) (tSl r te tl th):=by intro M9 s σ H Q I h;refine Subscript_ (thn (he M9 s σ H _ I h) λv s1 hz9=>?_);obtain⟨x,H1,I1,r1,q1⟩:=hz9;refine wpAny_Slice (thn (hl M9 s1 σ H1 _ I1 q1) λvl s2 ⟨l,H2,I2,pl,q2⟩=>thn (hu M9 s2 σ H2 _ I2 q2) λvu s3 hz9=>?_);obtain⟨u,H3,I3,pu,q3⟩:=hz9;rw[evalPart_none];refine z9 ?_;have I4:Inv X M9 σ H3 { s3 with heap:=s3.heap.push { cls:=.type "slice",data:=.fields (List.toArray [vl,vu,.none]) } }:=I3.kept (t':=s3.toks) λb ob q=>z6 _ q;obtain⟨T,id,hT,ht,hg⟩:=hr M9 { s3 with heap:=s3.heap.push { cls:=.type "slice",data:=.fields (List.toArray [vl,vu,.none]) } } σ H3 x v vl vu l u s3.heap.objs.size Q I4 r1 (Heap.IsSliceOf.new ..) pl pu q3;show wpAny (model X.prog X.w) X.A (subscriptTail e (.Slice lo hi none p2) v (.ref s3.heap.objs.size)) (EP X M9 σ Q) X.xe { s3 with heap:=s3.heap.push { cls:=.type "slice",data:=.fields (List.toArray [vl,vu,.none]) } };exact tail_any (ops:=[.ref s3.heap.objs.size,v]) ht hT hg (by with_unfolding_all rfl)
def bM(xs:List V)(lo hi:Option Int):List V:=(xs.drop (HT.sIx xs.length 0 lo)).take (HT.sIx xs.length xs.length hi-HT.sIx xs.length 0 lo)
theorem jj(xs:List V)(lo hi:Option Int):(bM xs lo hi).length<=xs.length:=by unfold bM;rw[ZP,YC];omega
inductive rSlT(K:W.Frag)(x:V)(lo:Option Int)(hi:Option Int)(H:Hp)(Q:VK):Prop
 |mk (a xs:_) (h0:x=.ref a) (h1:SqT K H a xs) (h2:¬(HT.sIx xs.length 0 lo=0/\HT.sIx xs.length xs.length hi=xs.length)) (h3:∀p,H p=none->Q (.ref p) (upd H p (.tup (bM xs lo hi)))):rSlT K x lo hi H Q
theorem Ix:SlR X (rSlT X.K):=by
 intro M9 s σ H x v vl vu lo hi sl Q I rx hs pl pu h;obtain⟨a,xs,rfl,hx,hw,q⟩:=h;cases rx;obtain⟨its,r,ht,hz⟩:=I.tuple hx;have hlen:its.toArray.size=xs.length:=by rw[Zf];exact r.length.symm
 refine#["tuple",_,Yf.lookup,ht.typeIs,?_];refine HT.getItem_tuple_cut ht hs pl pu (by rw[hlen];exact hw) ?_ (by rw[hlen];exact hz);rw[hlen];refine#[.ref s.heap.objs.size,_,I.laid (t':=s.toks) (o:=.tup (bM xs lo hi)) (λb ob q=>z6 _ q) (Za _) ?_,rfl,q _ (I.hok.fresh (Za _))];exact#[Zq (jj xs lo hi) hz,_,(r.drop (HT.sIx xs.length 0 lo)).take (HT.sIx xs.length xs.length hi-HT.sIx xs.length 0 lo),IsTup.new _ _]
def JM(K:W.Frag):R2:=λx y H Q=>∃a b xs ys,x=.ref a/\y=.ref b/\SqT K H a xs/\SqT K H b ys/\xs≠[]/\xs.length+ys.length<=sizeLine /\
 (ys=[]->Q (.ref a) H)/\(ys≠[]->∀p,H p=none->Q (.ref p) (upd H p (.tup (xs++ys))))
theorem Vals.nil_iff{xs:List V}{us:MT}(r:Vals xs us):us=[]↔xs=[]:=by
 cases r with
 |nil=>simp
 |cons _ _=>simp
theorem FH:OpR X (binaryOp .Add) (JM X.K):=by intro M9 s σ H x y v u Q I rx ry h;obtain⟨a,b,xs,ys,rfl,rfl,ha,hb,hx,hz,q1,q2⟩:=h;cases rx;cases ry;obtain⟨its,r1,p1,_⟩:=I.tuple ha;obtain⟨its2,r2,p2,_⟩:=I.tuple hb;refine HT.cat_tup p1 p2 (λz=>hx (r1.nil_iff.mp z)) (λz=>#[.ref a,H,I,rfl,q1 (r2.nil_iff.mp z)]) (λz=>?_) (by rw[<-r1.length,<-r2.length];exact hz);refine#[.ref s.heap.objs.size,_,I.laid (t':=s.toks) (o:=.tup (xs++ys)) (λb ob q=>z6 _ q) (Za _) ?_,rfl,q2 (λw=>z (r2.nil_iff.mpr w)) _ (I.hok.fresh (Za _))];exact#[by rw[Zk];exact hz,_,r1.append r2,IsTup.new _ _]
end
def ixN(n:Nat)(i:Int):Option Nat:=if 0<=i then(if i<n then some i.toNat else none)else if -(n:Int)<=i then some (i+n).toNat else none
def atI{α:Type}(xs:List α)(i:Int):Option α:=(ixN xs.length i).bind λj=>xs[j]?
theorem xQ{n:Nat}{i:Int}{j:Nat}(h:ixN n i=some j):seqIndex? i n=some j/\j<n/\-(n:Int)<=i/\i<n:=by
 unfold ixN at h;by_cases h0:0<=i
 ·rw[MO h0]at h;by_cases h1:i<n
  ·rw[MO h1]at h;have e:i.toNat=j:=Zn h;exact#[by rw[seqIndex_of h0 h1,e],∅,∅,h1]
  ·rw[MN h1]at h;cases h
 ·rw[MN h0]at h;by_cases h1:-(n:Int)<=i
  ·rw[MO h1]at h;have e:(i+n).toNat=j:=Zn h;exact#[by rw[seqIndex_neg ∅ h1,e],∅,h1,∅]
  ·rw[MN h1]at h;cases h
theorem xC{α:Type}{xs:List α}{i:Int}{v:α}(h:atI xs i=some v):∃j,seqIndex? i xs.length=some j/\xs[j]?=some v/\j<xs.length/\-(xs.length:Int)<=i/\i<xs.length:=by
 unfold atI at h;cases e:ixN xs.length i with
 |none=>rw[e]at h;cases h
 |some j =>rw[e]at h;obtain⟨h1,h2,h3,h4⟩:=xQ e;exact#[j,h1,h,h2,h3,h4]
theorem fD{α:Type}{xs:List α}{j:Nat}{v:α}(h:xs[j]?=some v):atI xs (j:Int)=some v:=by
 have hj:j<xs.length:=(Zi.mp h).1;have e:ixN xs.length (j:Int)=some j:=by unfold ixN;rw[MO ∅,MO ∅];simp
 unfold atI;rw[e];exact h
def xz(b:M8):Prop:=∀o i,subscripted b false o i=operate [o,i] (getItem o i)
def IxR(X:Cx)(r:R2):Prop :=
 ∀(value slice:M8) (M9:MP) (s:MV) (σ:St) (H:Hp) (x y:V) (v u:MW) (Q:VK),Inv X M9 σ H s->RelV x v->RelV y u->r x y H Q ->
  subscripted slice false v u=operate [v,u] (getItem v u)->wpAny (model X.prog X.w) X.A (subscriptTail value slice v u) (EP X M9 σ Q) X.xe s
def MtR(X:Cx)(id:String)(r:V->List V->Hp->VK->Prop):Prop :=
 ∀(M9:MP) (s:MV) (σ:St) (H:Hp) (x:V) (xs:List V) (v:MW) (us:MT) (Q:VK),Inv X M9 σ H s->RelV x v->Vals xs us->r x xs H Q ->
  wpAny (model X.prog X.w) X.A (call (.builtin id) (v::us)) (EP X M9 σ Q) X.xe s
section
variable{X:Cx}{a b:M8}{ta tb:TE}{pos:Pos}
theorem JH{r:R2}(hr:IxR X r)(ha:PE X a ta)(hb:PE X b tb)(hs:xz b):PE X (.Subscript a b pos) (tOp r ta tb):=by intro M9 s σ H Q I h;exact Subscript_ (Di ha hb I h λv u s2 x y H2 I2 rx ry q=>hr a b M9 s2 σ H2 x y v u Q I2 rx ry q (hs _ _))
inductive rIxL(K:W.Frag)(x:V)(y:V)(H:Hp)(Q:VK):Prop
 |mk (p xs i v:_) (h0:x=.ref p) (h1:y=.int i) (h2:SqL K H p xs) (h3:atI xs i=some v) (h4:Q v H):rIxL K x y H Q
inductive rIxT(K:W.Frag)(x:V)(y:V)(H:Hp)(Q:VK):Prop
 |mk (p xs i v:_) (h0:x=.ref p) (h1:y=.int i) (h2:SqT K H p xs) (h3:atI xs i=some v) (h4:Q v H):rIxT K x y H Q
theorem Fp:IxR X (rIxL X.K):=by
 intro value slice M9 s σ H x y v u Q I rx ry h hs;obtain⟨p,xs,i,z,rfl,rfl,hq,he,q⟩:=h;cases rx;obtain⟨t,rfl⟩:=ry;obtain⟨its,r,pl,hz⟩:=I.list hq;obtain⟨j,h1,h2,h3,h4,h5⟩:=xC he;obtain⟨w,ew,rw'⟩:=r.get h2;have hl:=r.length;have hn:=pe;have fin:EP X M9 σ Q w s:=#[z,H,I,rw',q]
 by_cases h0:0<=i
 ·have hj:i.toNat=j:=by rw[seqIndex_of h0 h5]at h1;exact Zn h1
  exact item_listR pl.isList h0 ∅ (by rw[hj];simpa using ew) fin hs
 ·have hj:(i+(its.toArray.size:Int)).toNat=j:=by rw[seqIndex_neg ∅ h4]at h1;rw[Zf,<-hl];exact Zn h1
  exact subscriptTail_builtinR (x:=w) pl.isList.typeIs slot_list_getitem.lookup
   (wpAny_getItem_list_neg (Q:=λr s'=>r=w/\EP X M9 σ Q r s') pl.isList ∅ (by rw[Zf]<;>omega) ∅ (by rw[hj];simpa using ew) #[rfl,fin]) hs
theorem Hd:IxR X (rIxT X.K):=by
 intro value slice M9 s σ H x y v u Q I rx ry h hs;obtain⟨p,xs,i,z,rfl,rfl,hq,he,q⟩:=h;cases rx;obtain⟨t,rfl⟩:=ry;obtain⟨its,r,pl,hz⟩:=I.tuple hq;obtain⟨j,h1,h2,h3,h4,h5⟩:=xC he;obtain⟨w,ew,rw'⟩:=r.get h2;have hl:=r.length;have hn:=pe;have fin:EP X M9 σ Q w s:=#[z,H,I,rw',q]
 exact subscriptTail_builtinR (x:=w) pl.typeIs slot_tuple_getitem.lookup
  (getItem_tuple (j:=j) (Q:=λr s'=>r=w/\EP X M9 σ Q r s') pl ∅ ∅ (by rw[Zf,<-hl];exact h1) (by simpa using ew) #[rfl,fin]) hs
theorem zA(its:MT)(n j:Nat)(u:MW):Obj.mapSeq (·.setIfInBounds j u) { cls:=.type "list",data:=.seq its.toArray n }={ cls:=.type "list",data:=.seq (its.set j u).toArray n }:=by simp[Obj.mapSeq]
theorem Inv.lst{M9:MP}{σ:St}{H:Hp}{s:MV}{p:MU}{xs:List V}(I:Inv X M9 σ H s)(h:H p=some (.lst xs)) :
  ∃(its:MT) (n:Nat),Vals xs its/\s.heap.get? p=some { cls:=.type "list",data:=.seq its.toArray n }/\xs.length<=sizeLine:=by
 obtain⟨z,its,n,r,e⟩:=I.hok p _ h;exact#[its,n,r,e,z]
theorem Inv.lstUpd{M9:MP}{σ:St}{H:Hp}{s:MV}{p:MU}{xs ys:List V}{its its':MT}{n n':Nat}{f:Obj->Obj}(I:Inv X M9 σ H s)(h:H p=some (.lst xs))(ho:s.heap.get? p=some { cls:=.type "list",data:=.seq its.toArray n })(hf:f { cls:=.type "list",data:=.seq its.toArray n }={ cls:=.type "list",data:=.seq its'.toArray n' })(r:Vals ys its')(hz:ys.length<=sizeLine)(t:Nat) :
  Inv X M9 σ (upd H p (.lst ys)) { s with heap:=s.heap.update p f,toks:=t }:=by
 have e:(s.heap.update p f).get? p=some { cls:=.type "list",data:=.seq its'.toArray n' }:=by rw[ZZ f ho (by rw[hf]<;>rfl),hf]
 refine I.write (x:=p) (e:=p) (by rw[h];trivial) (.inl rfl) (λb u hb q=>(Zz _ _ (Z2 hb)).trans q) #[_,e] ?_;exact#[hz,its',n',r,e]
def EZ:V->V->V->Hp->(Hp->Prop)->Prop:=λo i v H Q=>∃p xs k j,o=.ref p/\i=.int k/\H p=some (.lst xs)/\ixN xs.length k=some j/\Q (upd H p (.lst (xs.set j v)))
theorem Eo:Dc X EZ:=by
 intro M9 s σ H o i v ov iv u Q I ro ri rv h;obtain⟨p,xs,k,j,rfl,rfl,hp,hj,q⟩:=h;cases ro;obtain⟨t,rfl⟩:=ri;obtain⟨its,n,r,ho,hz⟩:=I.lst hp;obtain⟨h1,h2,h3,h4⟩:=xQ hj;have hl:=r.length;have hn:=pe;have I':Inv X M9 σ (upd H p (.lst (xs.set j v))) { s with heap:=s.heap.update p (Obj.mapSeq (·.setIfInBounds j u)) } :=
  I.lstUpd hp ho (zA its n j u) (r.set rv j) (by rw[Yx];exact hz) s.toks
 by_cases h0:0<=k
 ·have hk:k.toNat=j:=by rw[seqIndex_of h0 h4]at h1;exact Zn h1
  exact W.ki_setAt ho h0 ∅ (by rw[Zf,<-hl];exact h4) (by rw[hk];exact#[_,I',q])
 ·have hk:(k+(its.toArray.size:Int)).toNat=j:=by rw[seqIndex_neg ∅ h3]at h1;rw[Zf,<-hl];exact Zn h1
  exact W.ki_setBack ho ∅ (by rw[Zf,<-hl];exact h3) ∅ (by rw[hk];exact#[_,I',q])
theorem vW(lo hi:Option Int)(n:Nat):(sliceBounds lo hi none n).1=((HT.sIx n 0 lo:Nat):Int)/\(sliceBounds lo hi none n).2.1=((HT.sIx n n hi:Nat):Int)/\(sliceBounds lo hi none n).2.2=1:=by
 refine#[?_,?_,rfl]
 ·cases lo with
  |none=>simp[sliceBounds,HT.sIx]
  |some i =>
   simp only[sliceBounds,HT.sIx,Option.getD_none,show(1:Int)>0 by decide,if_true];by_cases h:i<0
   ·simp only[h,if_true]<;>omega
   ·simp only[h,YO]<;>omega
 ·cases hi with
  |none=>simp[sliceBounds,HT.sIx]
  |some i =>
   simp only[sliceBounds,HT.sIx,Option.getD_none,show(1:Int)>0 by decide,if_true];by_cases h:i<0
   ·simp only[h,if_true]<;>omega
   ·simp only[h,YO]<;>omega
theorem tK(its:MT)(lo hi:Option Int):slicePick its.toArray lo hi none=((its.drop (HT.sIx its.length 0 lo)).take (HT.sIx its.length its.length hi-HT.sIx its.length 0 lo)).toArray:=by obtain⟨h1,h2,h3⟩:=vW lo hi its.toArray.size;unfold slicePick;rw[h1,h2,h3];simp only[sliceRange_one,pick_run,Zf]<;>rfl
inductive rSlL(K:W.Frag)(x:V)(lo:Option Int)(hi:Option Int)(H:Hp)(Q:VK):Prop
 |mk (a xs:_) (h0:x=.ref a) (h1:SqL K H a xs) (h2:∀p,H p=none->Q (.ref p) (upd H p (.lst (bM xs lo hi)))):rSlL K x lo hi H Q
theorem Gq:SlR X (rSlL X.K):=by intro M9 s σ H x v vl vu lo hi sl Q I rx hs pl pu h;obtain⟨a,xs,rfl,hx,q⟩:=h;cases rx;obtain⟨its,r,ht,hz⟩:=I.list hx;have hlen:=r.length;refine#["list",_,slot_list_getitem.lookup,ht.isList.typeIs,?_];refine wpAny_getItem_list_slice ht.isList hs pl pu .none (by simp) ?_ (by rw[Zf]<;>omega);rw[tK,<-hlen];refine#[.ref s.heap.objs.size,_,I.laid (t':=s.toks) (o:=.lst (bM xs lo hi)) (λb ob q=>z6 _ q) (Za _) ?_,rfl,q _ (I.hok.fresh (Za _))];exact#[Zq (jj xs lo hi) hz,_,0,(r.drop (HT.sIx xs.length 0 lo)).take (HT.sIx xs.length xs.length hi-HT.sIx xs.length 0 lo),Ze _ rfl]
def jb:V->Bool
 |.non=>true
 |.bl _=>true
 |.int _=>true
 |.str _=>true
 |_=>false
def eqV:V->V->Bool
 |.non,.non=>true
 |.bl a,.bl b=>a==b
 |.bl a,.int b=>(if a then 1 else 0)==b
 |.int a,.bl b=>a==(if b then 1 else 0)
 |.int a,.int b=>a==b
 |.str a,.str b=>a==b
 |_,_=>false
theorem G1{A:MZ}{s:MV}{y x:V}{u v:MW}(ry:RelV y u)(rx:RelV x v)(fy:jb y=true)(fx:jb x=true):SeqAt.EqAt A s u v (eqV y x):=by
 cases y with
 |non =>
  cases ry;cases x with
  |non=>cases rx;exact SeqAt.EqAt.same _
  |bl b=>cases rx;exact SeqAt.EqAt.none_bool b
  |int b=>obtain⟨t,rfl⟩:=rx;exact SeqAt.EqAt.none_int b t
  |str b=>obtain⟨t,rfl⟩:=rx;exact SeqAt.EqAt.none_str b t
  |_=>exact absurd (show false=true from fx) Zg
 |bl a =>
  cases ry;cases x with
  |non=>cases rx;exact SeqAt.EqAt.bool_none a
  |bl b=>cases rx;exact SeqAt.EqAt.bool_bool a b
  |int b=>obtain⟨t,rfl⟩:=rx;exact SeqAt.EqAt.bool_int a b t
  |str b=>obtain⟨t,rfl⟩:=rx;exact SeqAt.EqAt.bool_str a b t
  |_=>exact absurd (show false=true from fx) Zg
 |int a =>
  obtain⟨t',rfl⟩:=ry;cases x with
  |non=>cases rx;exact SeqAt.EqAt.int_none a t'
  |bl b=>cases rx;exact SeqAt.EqAt.int_bool a t' b
  |int b=>obtain⟨t,rfl⟩:=rx;exact SeqAt.EqAt.int_int a t' b t
  |str b=>obtain⟨t,rfl⟩:=rx;exact SeqAt.EqAt.int_str a t' b t
  |_=>exact absurd (show false=true from fx) Zg
 |str a =>
  obtain⟨t',rfl⟩:=ry;cases x with
  |non=>cases rx;exact SeqAt.EqAt.str_none a t'
  |bl b=>cases rx;exact SeqAt.EqAt.str_bool a t' b
  |int b=>obtain⟨t,rfl⟩:=rx;exact SeqAt.EqAt.str_int a t' b t
  |str b=>obtain⟨t,rfl⟩:=rx;exact SeqAt.EqAt.str_str a t' b t
  |_=>exact absurd (show false=true from fx) Zg
 |_=>exact absurd (show false=true from fy) Zg
def eqU(x:V)(u:MW):Bool:=match u with
 |.none=>eqV .non x
 |.bool b=>eqV (.bl b) x
 |.int i _=>eqV (.int i) x
 |.str z _=>eqV (.str z) x
 |_=>false
theorem Bs{x y:V}{u:MW}(r:RelV y u)(f:jb y=true):eqU x u=eqV y x:=by
 cases y with
 |non=>cases r;rfl
 |bl b=>cases r;rfl
 |int i=>obtain⟨t,rfl⟩:=r;rfl
 |str z=>obtain⟨t,rfl⟩:=r;rfl
 |_=>exact absurd (show false=true from f) Zg
theorem jB{x:V}:∀{xs:List V} {us:MT},Vals xs us->xs.all jb=true->us.any (eqU x)=xs.any λy=>eqV y x
 |_,_,.nil,_=>rfl
 |y::xs,u::us,.cons r t,f=>by rw[YM,Zw]at f;rw[List.any_cons,List.any_cons,Bs r f.1,jB t f.2]
theorem iA{A:MZ}{s:MV}{x:V}{v:MW}(rx:RelV x v)(fx:jb x=true):∀{xs:List V} {us:MT},Vals xs us->xs.all jb=true->∀u∈us,SeqAt.EqAt A s u v (eqU x u)
 |_,_,.nil,_=>λu hu=>by cases hu
 |y::xs,u::us,.cons r t,f=>λu' hu=>by
  rw[YM,Zw]at f;rcases Zl.mp hu with rfl|hu
  ·rw[Bs r f.1];exact G1 r rx f.1 fx
  ·exact iA rx fx t f.2 u' hu
def inV(x:V)(xs:List V):Bool:=xs.any λy=>eqV y x
def rIn(K:W.Frag)(neg:Bool):R2:=λx y H Q=>∃p xs,y=.ref p/\(SqL K H p xs\/SqT K H p xs)/\jb x=true/\xs.all jb=true/\Q (.bl (if neg then !inV x xs else inV x xs)) H
theorem Cf:OpR X (compareOp .In) (rIn X.K false):=by
 intro M9 s σ H x y v u Q I rx ry h;obtain⟨p,xs,rfl,hq,fx,fs,q⟩:=h;cases ry;rcases hq with hq|hq
 ·obtain⟨its,r,pl,hz⟩:=I.list hq;refine SeqAt.in_listAt (eqU x) pl.isList (λw hw=>iA rx fx r fs w (by simpa using hw)) #[.bl _,H,I,rfl,?_];rw[show its.toArray.any (eqU x)=its.any (eqU x) by simp,jB r fs];exact q
 ·obtain⟨its,r,pl,hz⟩:=I.tuple hq;refine SeqAt.in_tupleAt (eqU x) pl (λw hw=>iA rx fx r fs w (by simpa using hw)) #[.bl _,H,I,rfl,?_];rw[show its.toArray.any (eqU x)=its.any (eqU x) by simp,jB r fs];exact q
theorem vF:OpR X (compareOp .NotIn) (rIn X.K true):=by
 intro M9 s σ H x y v u Q I rx ry h;obtain⟨p,xs,rfl,hq,fx,fs,q⟩:=h;cases ry;rcases hq with hq|hq
 ·obtain⟨its,r,pl,hz⟩:=I.list hq;refine SeqAt.notIn_listAt (eqU x) pl.isList (λw hw=>iA rx fx r fs w (by simpa using hw)) #[.bl _,H,I,rfl,?_];rw[show its.toArray.any (eqU x)=its.any (eqU x) by simp,jB r fs];exact q
 ·obtain⟨its,r,pl,hz⟩:=I.tuple hq;refine SeqAt.notIn_tupleAt (eqU x) pl (λw hw=>iA rx fx r fs w (by simpa using hw)) #[.bl _,H,I,rfl,?_];rw[show its.toArray.any (eqU x)=its.any (eqU x) by simp,jB r fs];exact q
theorem uD:cU X (.builtin "len") (λxs H Q=>∃p ys,xs=[.ref p]/\(SqL X.K H p ys\/SqT X.K H p ys)/\Q (.int ys.length) H):=by
 intro M9 s σ H xs us Q I r h;obtain⟨p,ys,rfl,hq,q⟩:=h;obtain⟨u,rfl,rx⟩:=bZ r;cases rx;have hn:=pe;rcases hq with hq|hq
 ·obtain⟨its,r',pl,hz⟩:=I.list hq;have hlen:=r'.length;exact Calls.call_len_list pl.isList (by simp only[Zf]<;>omega) #[.int ys.length,H,I.tok _,#[s.toks+1,by rw[Zf,hlen]],q]
 ·obtain⟨its,r',pl,hz⟩:=I.tuple hq;have hlen:=r'.length;exact len_tuple pl (by simp only[Zf]<;>omega) #[.int ys.length,H,I.tok _,#[s.toks+1,by rw[Zf,hlen]],q]
theorem uE:cU X (.type "list") (λxs H Q=>∃p ys,xs=[.ref p]/\(SqL X.K H p ys\/SqT X.K H p ys)/\∀l,H l=none->Q (.ref l) (upd H l (.lst ys))):=by
 intro M9 s σ H xs us Q I r h;obtain⟨p,ys,rfl,hq,q⟩:=h;obtain⟨u,rfl,rx⟩:=bZ r;cases rx;have fin:∀(its:MT),Vals ys its->ys.length<=sizeLine->∀(h':Heap) (c':Nat),(∀b o',s.heap.get? b=some o'->h'.get? b=some o') ->
   h'.get? s.heap.objs.size=some { cls:=.type "list",dict:=none,data:=.seq its.toArray c',slots:=#[] }->EP X M9 σ Q (.ref s.heap.objs.size) { s with heap:=h' }:=λits r' hz h' c' kp e =>
  #[.ref s.heap.objs.size,_,I.laid (t':=s.toks) kp (Za _) (show ObjOk X.prog X.w _ h' _ (.lst ys)from#[hz,its,c',r',e]),rfl,q _ (I.hok.fresh (Za _))]
 rcases hq with hq|hq
 ·obtain⟨its,r',pl,hz⟩:=I.list hq;have hlen:=r'.length;obtain⟨o,ho,hc,n,hd⟩:=pl.isList;exact call_list_seq p (.inl rfl) ho hc hd (λh' c' kp e=>fin its r' hz h' c' kp e) (by simp only[Zf]<;>omega)
 ·obtain⟨its,r',pl,hz⟩:=I.tuple hq;have hlen:=r'.length;obtain⟨o,ho,hc,n,hd⟩:=pl;exact call_list_seq p (.inr rfl) ho hc hd (λh' c' kp e=>fin its r' hz h' c' kp e) (by simp only[Zf]<;>omega)
theorem sO:cU X (.type "tuple") (λxs H Q=>∃p ys,xs=[.ref p]/\((SqL X.K H p ys/\∀l,H l=none->Q (.ref l) (upd H l (.tup ys)))\/(SqT X.K H p ys/\Q (.ref p) H))):=by
 intro M9 s σ H xs us Q I r h;obtain⟨p,ys,rfl,h⟩:=h;obtain⟨u,rfl,rx⟩:=bZ r;cases rx;rcases h with⟨hq,q⟩|⟨hq,q⟩
 ·obtain⟨its,r',pl,hz⟩:=I.list hq;have hlen:=r'.length;refine call_tuple_list pl.isList (λh' kp=>?_) (by simp only[Zf]<;>omega);have I1:Inv X M9 σ H { s with heap:=h' }:=I.kept (t':=s.toks) kp;have I2:Inv X M9 σ (upd H h'.objs.size (.tup ys)) { s with heap:=h'.push { cls:=.type "tuple",data:=.seq its.toArray } } :=
   I1.laid (t':=s.toks) (λb o e=>z6 _ e) (Za _) (show ObjOk X.prog X.w _ _ _ (.tup ys)from#[hz,its,r',IsTup.new _ _])
  exact#[.ref h'.objs.size,_,I2,rfl,q _ (I1.hok.fresh (Za _))]
 ·obtain⟨its,r',pl,hz⟩:=I.tuple hq;exact call_tuple_same pl #[.ref p,H,I,rfl,q]
def tyV(K:W.Frag)(T:String)(x:V)(H:Hp):Prop:=match x with
 |.str _=>T="str"
 |.int _=>T="int"
 |.ref p=>(T="list"/\∃xs,SqL K H p xs)\/(T="tuple"/\∃o,K.lookup p=some o/\o.cls=.type "tuple"/\o.dict=none) \/
   (T="dict"/\((∃kvs,H p=some (.dK kvs))\/∃kvs,H p=some (.dT kvs)))\/(T="set"/\∃S n,H p=some (.set S n))
 |_=>False
theorem IP{M9:MP}{σ:St}{H:Hp}{s:MV}{T:String}{x:V}{v:MW}(I:Inv X M9 σ H s)(r:RelV x v)(ty:tyV X.K T x H) :
  s.TypeIs v T/\∀a,v=.ref a->∃ob,s.heap.get? a=some ob/\ob.dict=none:=by
 cases x with
 |str z =>obtain⟨t,rfl⟩:=r;cases(show T="str" from ty);exact#[typeIs_str s z t,λ_ e=>nomatch e]
 |int i =>obtain⟨t,rfl⟩:=r;cases(show T="int" from ty);exact#[typeIs_int s i t,λ_ e=>nomatch e]
 |ref p =>
  cases r;rcases ty with⟨rfl,xs,hq⟩|⟨rfl,o,hk,hc,hd⟩|⟨rfl,hk⟩|⟨rfl,S,n,hk⟩
  ·obtain⟨its,_,pl,_⟩:=I.list hq;refine#[pl.isList.typeIs,λa e=>?_];cases e;obtain⟨o,n,e,c,hd,_⟩:=pl;exact#[o,e,hd]
  ·refine#[#[o,I.kIn p o hk,hc],λa e=>?_];cases e;exact#[o,I.kIn _ o hk,hd]
  ·have z:∃o,s.heap.get? p=some o/\o.ExactDict:=by
    rcases hk with⟨kvs,hk⟩|⟨kvs,hk⟩
    ·obtain⟨_,_,_,_,o,_,_,e,ex,_⟩:=I.hok p _ hk;exact#[o,e,ex]
    ·obtain⟨_,_,_,_,o,_,_,e,ex,_⟩:=I.hok p _ hk;exact#[o,e,ex]
   obtain⟨o,e,ex⟩:=z;refine#[#[o,e,ex.1],λa e2=>?_];cases e2;exact#[o,e,ex.2.1]
  ·obtain⟨o,_,_,_,e,ex,_⟩:=I.hok p _ hk;refine#[#[o,e,ex.1],λa e2=>?_];cases e2;exact#[o,e,ex.2.1]
 |_=>exact False.elim ty
def tBM(K:W.Frag)(T:String)(r:V->List V->Hp->VK->Prop)(to:TE)(t:TA):TE:=λσ H Q=>to σ H λx H1=>tyV K T x H1/\t σ H1 λxs H2=>r x xs H2 Q
variable{o e:M8}{es:List M8}{to:TE}{t:TA}{name:Str}{apos cpos:Pos}{T id:String}{r:V->List V->Hp->VK->Prop}
theorem JF(pa:PlainAttrs T)(slot:Slot T name id)(hty:typeOf (.builtin id)=pure (.type "method_descriptor"))(hm:MtR X id r)(ho:PE X o to)(ha:PA X (e::es) t)(hbase:attributeBase o name X.env (eval o X.env)=eval o X.env:=by rfl)(hfew:((backTo cpos (starEach (e::es) X.env)).all (λx=>!x.1)&&(backToKw cpos (keywordEach [] X.env)).all (λx=>x.1.isSome)
  &&decide ((e::es).length+([]:List Keyword).length+(if ([]:List Keyword).isEmpty then 0 else 1)<30))=true:=by rfl)(hline:(apos.endLine == cpos.line)=true:=by rfl)(hs:starEach (e::es) X.env=(false,eval e X.env)::starEach es X.env:=by rfl)(hplain:(backTo cpos (starEach es X.env)).any (·.1)=false:=by rfl) :
  PE X (.Call (.Attribute o name apos) (e::es) [] cpos) (tBM X.K T r to t):=by
 intro M9 s σ H Q I h;refine wpAny_Call_method_late hbase hfew hline rfl (thn (ho M9 s σ H _ I h) λv s1 hz9=>?_);obtain⟨x,H1,I1,r1,ty,q1⟩:=hz9;obtain⟨h1,h2⟩:=IP I1 r1 ty;refine#[T,id,pa,slot,hty,h1,h2,?_];have hA:=ha cpos M9 s1 σ H1 _ I1 q1;rw[hs]at hA ⊢;refine Calls.callWith_builtin (by show(false ||(backTo cpos (starEach es X.env)).any (·.1))=false;rw[hplain]<;>rfl) (Calls.evalArgs_plain ?_);exact thn hA λus s2 ⟨vs,H2,I2,r2,q2⟩=>hm M9 s2 σ H2 x vs v us Q I2 r1 r2 q2
end
def MtM(X:Cx)(id:String)(r:V->List V->Hp->VK->Prop):Prop :=
 ∀(M9:MP) (s:MV) (σ:St) (H:Hp) (x:V) (xs:List V) (v:MW) (us:MT) (Q:VK),Inv X M9 σ H s->RelV x v->Vals xs us->r x xs H Q ->
  wpAny (model X.prog X.w) X.A (call (.builtin id) (v::us)) (EP X M9 σ Q) X.xe s
theorem Vals.one:∀{x:V} {us:MT},Vals [x] us->∃u,us=[u]/\RelV x u
 |_,_,.cons r .nil=>#[_,rfl,r]
theorem Vals.rep{xs:List V}{us:MT}(h:Vals xs us):∀k:Nat,Vals (List.replicate k xs).flatten (List.replicate k us).flatten
 |0=>.nil
 |k+1=>by rw[List.replicate_succ,List.replicate_succ,List.flatten_cons,List.flatten_cons];exact Vals.append h (Vals.rep h k)
theorem rS(its:MT):∀(k:Nat) (acc:MT),
  List.foldl (λx1 x2=>x1++x2) acc.toArray (List.replicate k its.toArray)=(acc++(List.replicate k its).flatten).toArray
 |0,acc=>by simp
 |k+1,acc=>by
  have e:acc.toArray++its.toArray=(acc++its).toArray:=by simp
  have e2:(acc++its)++(List.replicate k its).flatten=acc++(List.replicate (k+1) its).flatten:=by rw[List.replicate_succ,List.flatten_cons,List.append_assoc]
  rw[<-e2,<-rS its k (acc++its),<-e,List.replicate_succ,List.foldl_cons]
section
variable{X:Cx}{M9:MP}{σ:St}{H:Hp}{s:MV}{l b:MU}{xs ys zs:List V}
theorem Inv.lset{its its':MT}{n:Nat}{f:Array MW->Array MW}{t':Nat}(I:Inv X M9 σ H s)(hH:H l=some (.lst xs))(e:s.heap.get? l=some { cls:=.type "list",data:=.seq its.toArray n })(hf:f its.toArray=its'.toArray)(hv:Vals ys its')(hz:ys.length<=sizeLine) :
  Inv X M9 σ (upd H l (.lst ys)) { s with heap:=s.heap.update l (Obj.mapSeq f),toks:=t' }:=by
 have q:=PySem.IsL.update e f;rw[hf]at q;refine I.write (x:=l) (e:=l) (by rw[hH];exact trivial) (.inl rfl) (λb' u hb hu=>(Zz s.heap (Obj.mapSeq f) (Z2 hb)).trans hu) #[_,q] ?_;exact#[hz,its',_,hv,q]
theorem Inv.lnew{its:MT}{t':Nat}(I:Inv X M9 σ H s)(hv:Vals ys its)(hz:ys.length<=sizeLine) :
  Inv X M9 σ (upd H s.heap.objs.size (.lst ys)) { s with heap:=s.heap.push { cls:=.type "list",data:=.seq its.toArray },toks:=t' } :=
 I.laid (λ_ _ q=>z6 _ q) (Za _) #[hz,its,0,hv,Ze _ rfl]
theorem Inv.fresh(I:Inv X M9 σ H s):H s.heap.objs.size=none:=I.hok.fresh (Za _)
theorem Inv.lstM(I:Inv X M9 σ H s)(hH:H l=some (.lst xs)):xs.length<=sizeLine/\∃(its:MT) (n:Nat),Vals xs its/\xs.length=its.length/\s.heap.get? l=some { cls:=.type "list",data:=.seq its.toArray n }:=by obtain⟨z,its,n,r,e⟩:=I.hok l _ hH;exact#[z,its,n,r,r.length,e]
end
section
variable{X:Cx}
inductive rAppend  (x:V)(vs:List V)(H:Hp)(Q:VK):Prop
 |mk (l xs y:_) (h0:x=.ref l) (h1:vs=[y]) (h2:H l=some (.lst xs)) (h3:xs.length<sizeLine) (h4:Q .non (upd H l (.lst (xs++[y])))):rAppend  x vs H Q
theorem B0:MtM X "list.append" rAppend:=by intro M9 s σ H x vs v us Q I rx rv h;obtain⟨l,xs,y,rfl,rfl,hH,hz,q⟩:=h;cases rx;obtain⟨u,rfl,ru⟩:=rv.one;obtain⟨z,its,n,r,hl,e⟩:=I.lstM hH;refine call_meets F.slot_list_append #[_,e,rfl] F.entry_list_append (F.args_list_append_2 _ _) (PySem.list_append l its.toArray n u (by rw[Zf];omega)) #[e,?_];refine#[.non,_,I.lset (its':=its++[u]) hH e (by simp) (r.append (.cons ru .nil)) ?_,rfl,q];rw[Zk,y0];omega
inductive rCat  (x:V)(y:V)(H:Hp)(Q:VK):Prop
 |mk (l b xs zs:_) (h0:x=.ref l) (h1:y=.ref b) (h2:H l=some (.lst xs)) (h3:H b=some (.lst zs)) (h4:xs.length+zs.length<=sizeLine) (h5:∀p,H p=none->Q (.ref p) (upd H p (.lst (xs++zs)))):rCat  x y H Q
theorem Hw:OpR X (binaryOp .Add) rCat:=by
 intro M9 s σ H x y v u Q I rx ry h;obtain⟨l,b,xs,zs,rfl,rfl,hH,hB,hz,q⟩:=h;cases rx;cases ry;obtain⟨z,its,n,r,hl,e⟩:=I.lstM hH;obtain⟨z2,its2,n2,r2,hl2,e2⟩:=I.lstM hB;refine PySem.P.add_list e e2 ?_ (by rw[Zf,Zf];omega);have ea:its.toArray++its2.toArray=(its++its2).toArray:=by simp
 rw[ea];exact#[.ref _,_,I.lnew (t':=s.toks) (r.append r2) (by rw[Zk];omega),rfl,q _ I.fresh]
theorem xY{α:Type}(xs:List α)(k:Nat):(List.replicate k xs).flatten.length=k*xs.length:=by
 induction k with
 |zero=>simp
 |succ k ih=>rw[List.replicate_succ,List.flatten_cons,Zk,ih,Nat.succ_mul,Nat.add_comm]
end
section
variable{κ:Type}[DecidableEq κ]
def aH(kvs:List (κ×V))(k:κ):Option V:=(kvs.find? λkv=>decide (kv.1=k)).map (·.2)
def bh(kvs:List (κ×V))(k:κ)(v:V):List (κ×V) :=
 if(kvs.any λkv=>decide (kv.1=k))=true then kvs.map (λkv=>if kv.1=k then(kv.1,v)else kv)else kvs++[(k,v)]
theorem cO{p:κ×V}{r:List (κ×V)}{k:κ}(e:p.1=k):aH (p::r) k=some p.2:=by simp[aH,List.find?_cons,e]
theorem cL{p:κ×V}{r:List (κ×V)}{k:κ}(e:¬p.1=k):aH (p::r) k=aH r k:=by simp[aH,List.find?_cons,e]
theorem eR(k:κ):∀kvs:List (κ×V),(kvs.any λkv=>decide (kv.1=k))=(aH kvs k).isSome
 | []=>rfl
 |p::r=>by
  rw[List.any_cons];by_cases e:p.1=k
  ·simp only[cO e,decide_eq_true e,Bool.true_or,Option.isSome_some]
  ·rw[cL e,decide_eq_false e,Bool.false_or];exact eR k r
theorem wA(k j:κ)(y:V):∀kvs:List (κ×V),aH (kvs.map λkv=>if kv.1=k then(kv.1,y)else kv) j=(aH kvs j).map λx=>if j=k then y else x
 | []=>rfl
 |p::r=>by
  have ih:=wA k j y r;rw[Z1];by_cases h:p.1=k
  ·rw[MO h];by_cases e:p.1=j
   ·rw[cO (p:=(p.1,y)) e,cO e,Option.map_some,MO (e.symm.trans h)]
   ·rw[cL (p:=(p.1,y)) e,cL e,ih]
  ·rw[MN h];by_cases e:p.1=j
   ·rw[cO (p:=p) e,cO e,Option.map_some,MN (λz=>h (e.trans z))]
   ·rw[cL (p:=p) e,cL e,ih]
theorem su(k j:κ)(y:V):∀kvs:List (κ×V),aH kvs k=none->aH (kvs++[(k,y)]) j=if j=k then some y else aH kvs j
 | [],_=>by
  by_cases e:k=j
  ·rw[MO e.symm];exact cO (p:=(k,y)) e
  ·rw[MN (λz=>e z.symm)];exact cL (p:=(k,y)) e
 |p::r,hn=>by
  rw[List.cons_append];have hk:¬p.1=k:=λz=>by rw[cO z]at hn;cases hn
  rw[cL hk]at hn;have ih:=su k j y r hn;by_cases e:p.1=j
  ·rw[cO e,cO e,MN (λz=>hk (e.trans z))]
  ·rw[cL e,cL e,ih]
theorem dI(kvs:List (κ×V))(k j:κ)(y:V):aH (bh kvs k y) j=if j=k then some y else aH kvs j:=by
 unfold bh;by_cases a:(kvs.any λkv=>decide (kv.1=k))=true
 ·rw[MO a,wA];rw[eR]at a;by_cases e:j=k
  ·obtain⟨x,hx⟩:=YB.mp a;rw[MO e,e,hx,Option.map_some,MO rfl]
  ·rw[MN e];cases aH kvs j with
   |none=>rfl
   |some x=>rw[Option.map_some,MN e]
 ·rw[MN a];refine su k j y kvs ?_;rw[eR]at a;cases q:aH kvs k with
  |none=>rfl
  |some x=>rw[q]at a;exact(a rfl).elim
theorem cJ(kvs:List (κ×V))(k:κ)(v:V):(bh kvs k v).length<=kvs.length+1:=by
 unfold bh;split
 ·rw[Zb];omega
 ·rw[Zk,Zu,List.length_nil];omega
theorem nX{kvs:List (κ×V)}{k:κ}(v:V)(h:aH kvs k=none):bh kvs k v=kvs++[(k,v)]:=by unfold bh;rw[eR,h];exact MN ⋯
theorem RelO.isSome_eq{o:Option V}{u:Option MW}(r:RelO o u):o.isSome=u.isSome:=by
 cases o with
 |none=>cases u with
  |none=>rfl
  |some _=>exact(show False from r).elim
 |some _=>cases u with
  |none=>exact(show False from r).elim
  |some _=>rfl
theorem RelO.getD{o:Option V}{u:Option MW}{d:V}{d':MW}(r:RelO o u)(rd:RelV d d'):RelV (o.getD d) (u.getD d'):=by
 cases o with
 |none=>cases u with
  |none=>exact rd
  |some _=>exact(show False from r).elim
 |some _=>cases u with
  |none=>exact(show False from r).elim
  |some _=>exact r
theorem KV.val{kvs:List (κ×V)}{vs:List (κ×MW)}(r:KV kvs vs)(k:κ):RelO (aH kvs k) (valueAt vs k):=by
 unfold KV at r;induction r with
 |nil=>exact True.intro
 |@cons p q ps qs h t ih =>
  obtain⟨h1,h2⟩:=h;by_cases e:p.1=k
  ·have e':q.1=k:=h1.symm.trans e;have b:valueAt (q::qs) k=some q.2:=by simp[valueAt,List.find?_cons,e']
   rw[cO e,b];exact h2
  ·have e':¬q.1=k:=λz=>e (h1.trans z);have b:valueAt (q::qs) k=valueAt qs k:=by simp[valueAt,List.find?_cons,e']
   rw[cL e,b];exact ih
theorem KV.any{kvs:List (κ×V)}{vs:List (κ×MW)}(r:KV kvs vs)(k:κ):(kvs.any λkv=>decide (kv.1=k))=vs.any λkv=>decide (kv.1=k):=by
 unfold KV at r;induction r with
 |nil=>rfl
 |cons h t ih=>rw[List.any_cons,List.any_cons,ih,h.1]
theorem KV.repl{kvs:List (κ×V)}{vs:List (κ×MW)}(r:KV kvs vs)(k:κ){y:V}{u:MW}(ry:RelV y u) :
  KV (kvs.map λkv=>if kv.1=k then(kv.1,y)else kv) (vs.map λkv=>if kv.1=k then(kv.1,u)else kv):=by
 unfold KV at r ⊢;induction r with
 |nil=>exact .nil
 |@cons p q ps qs h t ih =>
  rw[Z1,Z1];refine .cons ?_ ih;obtain⟨h1,h2⟩:=h;by_cases e:p.1=k
  ·rw[MO e,MO (h1.symm.trans e)];exact#[h1,ry]
  ·rw[MN e,MN (λz=>e (h1.trans z))];exact#[h1,h2]
theorem KV.put{kvs:List (κ×V)}{vs:List (κ×MW)}(r:KV kvs vs)(k:κ){y:V}{u:MW}(ry:RelV y u):KV (bh kvs k y) (stored vs k u):=by
 unfold bh stored;rw[r.any k];by_cases e:(vs.any λkv=>decide (kv.1=k))=true
 ·rw[MO e,MO e];exact r.repl k ry
 ·rw[MN e,MN e];exact Paired.snoc r #[rfl,ry]
theorem KV.length{kvs:List (κ×V)}{vs:List (κ×MW)}(r:KV kvs vs):kvs.length=vs.length:=ZH r
end
theorem mw{P:MX}{w:MY}{k:Key}{u:MW}(r:RelV (kV k) u):(bj P w).is k u=true:=by
 cases k with
 |inl i=>obtain⟨t,e⟩:=(show∃t,u=Value.int i t from r);subst e;exact wR P w i t
 |inr x=>obtain⟨t,e⟩:=(show∃t,u=Value.str x t from r);subst e;exact wS P w x t
theorem rV{P:MX}{w:MY}:∀{ks:List Key} {us:MT},Vals (ks.map kV) us->ItemsAre (bj P w) ks us
 | [],_,r=>by rw[List.map_nil]at r;cases r;exact .nil
 |k::ks,_,r=>by
  rw[Z1]at r;cases r with
  |cons h t=>exact .cons (mw h) (rV t)
abbrev KT(H:Hp):List (List Key×V)->List (List Key×MU×MW)->Prop:=Paired λp q=>p.1=q.1/\H q.2.1=some (.tup (p.1.map kV))/\RelV p.2 q.2.2
theorem KT.val{H:Hp}{kvs:List (List Key×V)}{xs:List (List Key×MU×MW)}(r:KT H kvs xs)(k:List Key):RelO (aH kvs k) ((atKey xs k).map (·.2)):=by
 induction r with
 |nil=>exact True.intro
 |@cons p q ps qs h t ih =>
  obtain⟨h1,_,h2⟩:=h;by_cases e:p.1=k
  ·have e':q.1=k:=h1.symm.trans e;have b:atKey (q::qs) k=some q.2:=by simp[atKey,List.find?_cons,e']
   rw[cO e,b];exact h2
  ·have e':¬q.1=k:=λz=>e (h1.trans z);have b:atKey (q::qs) k=atKey qs k:=by simp[atKey,List.find?_cons,e']
   rw[cL e,b];exact ih
theorem KT.repl{H:Hp}{kvs:List (List Key×V)}{xs:List (List Key×MU×MW)}(r:KT H kvs xs)(k:List Key){y:V}{u:MW}(ry:RelV y u) :
  KT H (kvs.map λkv=>if kv.1=k then(kv.1,y)else kv) (xs.map (putAt k u)):=by
 induction r with
 |nil=>exact .nil
 |@cons p q ps qs h t ih =>
  rw[Z1,Z1];refine .cons ?_ ih;obtain⟨h1,h2,h3⟩:=h;unfold putAt;by_cases e:p.1=k
  ·rw[MO e,MO (h1.symm.trans e)];exact#[h1,h2,ry]
  ·rw[MN e,MN (λz=>e (h1.trans z))];exact#[h1,h2,h3]
theorem KT.put{H:Hp}{kvs:List (List Key×V)}{xs:List (List Key×MU×MW)}(r:KT H kvs xs)(k:List Key){b:MU}{y:V}{u:MW}(hb:H b=some (.tup (k.map kV)))(ry:RelV y u) :
  KT H (bh kvs k y) (storedH xs k b u):=by
 have e:(kvs.any λkv=>decide (kv.1=k))=(atKey xs k).isSome:=by rw[eR,(r.val k).isSome_eq,Option.isSome_map]
 unfold bh storedH;rw[e];by_cases q:(atKey xs k).isSome=true
 ·rw[MO q,MO q];exact r.repl k ry
 ·rw[MN q,MN q];exact Paired.snoc r #[rfl,hb,ry]
theorem KT.keeps{H H':Hp}{kvs:List (List Key×V)}{xs:List (List Key×MU×MW)}(r:KT H kvs xs)(ht:∀b ys,H b=some (.tup ys)->H' b=some (.tup ys)):KT H' kvs xs :=
 Paired.mapP r λ_ _ z=>#[z.1,ht _ _ z.2.1,z.2.2]
section
variable{P:MX}{w:MY}{H:Hp}{h:Heap}{a:MU}
theorem E1{u:HO}(ok:HOk P w H h)(e:Rd H a u):ObjOk P w H h a u:=e.ok ok
theorem iZ{kvs:List (Key×V)}(ok:HOk P w H h)(e:Rd H a (.dK kvs)):kvs.length<=sizeLine/\(a==sysModules)=false/\∃vs,KV kvs vs/\h.DictOf (bj P w) a vs :=
 show ObjOk P w H h a (.dK kvs)from E1 ok e
theorem Jc{kvs:List (Key×V)}(ok:HOk P w H h)(e:H a=some (.dK kvs)):kvs.length<=sizeLine/\(a==sysModules)=false/\∃vs,KV kvs vs/\h.DictOf (bj P w) a vs:=iZ ok (.inl e)
theorem iu{ks:List Key}(ok:HOk P w H h)(e:H a=some (.tup (ks.map kV))):(tupleKind (bj P w)).is h ks a:=by
 obtain⟨_,its,r,o,h1,h2,n,h3⟩:=(show ObjOk P w H h a (.tup (ks.map kV))from ok a _ e)
 exact#[o,its.toArray,n,h1,h2,h3,by simpa using rV r]
theorem gi{kvs:List (List Key×V)}(ok:HOk P w H h)(e:Rd H a (.dT kvs)):kvs.length<=sizeLine/\(a==sysModules)=false /\
  ∃xs,KT H kvs xs/\h.DictOfH (tupleKind (bj P w)) a xs:=by
 obtain⟨z,y,xs,r,o,es,ep,h1,h2,h3,h4,h5⟩:=(show ObjOk P w H h a (.dT kvs)from E1 ok e)
 refine#[z,y,xs,r,o,es,ep,h1,h2,h3,h4,λx hx=>?_,h5];have all:∀{l:List (List Key×V)} {m:List (List Key×MU×MW)},KT H l m->∀x∈m,(tupleKind (bj P w)).is h x.1 x.2.1:=by
  intro l m q;induction q with
  |nil=>intro x hx;exact nomatch hx
  |@cons p q ps qs hq t ih =>
   intro x hx;rcases Zl.mp hx with e|hx
   ·subst e;exact iu ok (by rw[<-hq.1];exact hq.2.1)
   ·exact ih x hx
 exact all r x hx
theorem Jd{kvs:List (List Key×V)}(ok:HOk P w H h)(e:H a=some (.dT kvs)):kvs.length<=sizeLine/\(a==sysModules)=false /\
  ∃xs,KT H kvs xs/\h.DictOfH (tupleKind (bj P w)) a xs:=gi ok (.inl e)
end
def DGet(H:Hp)(a:MU)(y:V)(r:Option V):Prop :=
 (∃kvs k,Rd H a (.dK kvs)/\y=kV k/\r=aH kvs k)\/∃kvs k b,Rd H a (.dT kvs)/\y=.ref b/\H b=some (.tup (k.map kV))/\r=aH kvs k
def DPut(H:Hp)(a:MU)(y v:V)(H':Hp):Prop :=
 (∃kvs k,H a=some (.dK kvs)/\y=kV k/\kvs.length<sizeLine/\H'=upd H a (.dK (bh kvs k v))) \/
 ∃kvs k b,H a=some (.dT kvs)/\y=.ref b/\H b=some (.tup (k.map kV))/\kvs.length<sizeLine/\H'=upd H a (.dT (bh kvs k v))
theorem DGet.k{H:Hp}{a:MU}{kvs:List (Key×V)}{k:Key}(e:H a=some (.dK kvs)):DGet H a (kV k) (aH kvs k):=.inl #[kvs,k,.inl e,rfl,rfl]
theorem DGet.t{H:Hp}{a b:MU}{kvs:List (List Key×V)}{k:List Key}(e:H a=some (.dT kvs))(eb:H b=some (.tup (k.map kV))):DGet H a (.ref b) (aH kvs k):=.inr #[kvs,k,b,.inl e,rfl,eb,rfl]
theorem DPut.k{H:Hp}{a:MU}{kvs:List (Key×V)}{k:Key}{v:V}(e:H a=some (.dK kvs))(hl:kvs.length<sizeLine):DPut H a (kV k) v (upd H a (.dK (bh kvs k v))):=.inl #[kvs,k,e,rfl,hl,rfl]
theorem DPut.t{H:Hp}{a b:MU}{kvs:List (List Key×V)}{k:List Key}{v:V}(e:H a=some (.dT kvs))(eb:H b=some (.tup (k.map kV)))(hl:kvs.length<sizeLine) :
  DPut H a (.ref b) v (upd H a (.dT (bh kvs k v))):=.inr #[kvs,k,b,e,rfl,eb,hl,rfl]
section
variable{X:Cx}{M9:MP}{σ:St}{H:Hp}{s:MV}{a:MU}{y v:V}{u r:MW}{o:Option V}{A:MZ}{E:MQ}
theorem Inv.big(I:Inv X M9 σ H s):sysModules<s.heap.objs.size:=by have h:mainGlobals<s.heap.objs.size:=(I.mod.glob.keeps I.bk).lt;exact Nat.lt_trans ⋯ h
theorem Bk{Q:MQ}(hu:A.units+1<cLine)(I:Inv X M9 σ H s)(g:DGet H a y (some v))(ry:RelV y u)(h:∀w' s',Inv X M9 σ H s'->RelV v w'->Q w' s') :
  wpAny (model X.prog X.w) A (getItem (.ref a) u) Q E s:=by
 rcases g with⟨kvs,k,e,ey,l⟩|⟨kvs,k,b,e,ey,eb,l⟩
 ·subst ey;obtain⟨z,hd,vs,rel,dd⟩:=iZ I.hok e;obtain⟨w',hw,rw'⟩:=RelO.some_of (v:=v) (o:=valueAt vs k) (by rw[l];exact rel.val k);exact wpAny_getItem_of (mw ry) dd.mapOf hw (h w' _ (I.tok _) rw')
 ·subst ey;cases(show u=Value.ref b from ry);obtain⟨z,hd,xs,rel,dd⟩:=gi I.hok e;obtain⟨w',hw,rw'⟩:=RelO.some_of (v:=v) (o:=(atKey xs k).map (·.2)) (by rw[l];exact rel.val k);obtain⟨p,hp,hp2⟩:=YJ.mp hw;refine wpAny_getItem_heap (tupleKind_room_in1 hu) (iu I.hok eb) dd hp ?_;rw[hp2];exact h w' _ (I.tok _) rw'
theorem J0{Q:MQ}(hu:A.units+1<cLine)(I:Inv X M9 σ H s)(g:DGet H a y o)(ry:RelV y u)(h:∀s',Inv X M9 σ H s'->Q (.bool o.isSome) s') :
  wpAny (model X.prog X.w) A (compareOp .In u (.ref a)) Q E s:=by
 rcases g with⟨kvs,k,e,ey,l⟩|⟨kvs,k,b,e,ey,eb,l⟩
 ·subst ey;obtain⟨z,hd,vs,rel,dd⟩:=iZ I.hok e;refine wpAny_in_of (mw ry) hd dd.mapOf ?_;rw[<-(rel.val k).isSome_eq,<-l];exact h _ (I.tok _)
 ·subst ey;cases(show u=Value.ref b from ry);obtain⟨z,hd,xs,rel,dd⟩:=gi I.hok e;refine wpAny_in_heap (tupleKind_room_in1 hu) (iu I.hok eb) hd dd ?_;have q:=(rel.val k).isSome_eq;rw[Option.isSome_map]at q;rw[<-q,<-l];exact h _ (I.tok _)
theorem Fh{Q:MQ}(hu:A.units+1<cLine)(I:Inv X M9 σ H s)(g:DGet H a y o)(ry:RelV y u)(h:∀s',Inv X M9 σ H s'->Q (.bool (!o.isSome)) s') :
  wpAny (model X.prog X.w) A (compareOp .NotIn u (.ref a)) Q E s:=by
 rcases g with⟨kvs,k,e,ey,l⟩|⟨kvs,k,b,e,ey,eb,l⟩
 ·subst ey;obtain⟨z,hd,vs,rel,dd⟩:=iZ I.hok e;refine wpAny_notIn_of (mw ry) hd dd.mapOf ?_;rw[<-(rel.val k).isSome_eq,<-l];exact h _ (I.tok _)
 ·subst ey;cases(show u=Value.ref b from ry);obtain⟨z,hd,xs,rel,dd⟩:=gi I.hok e;refine wpAny_notIn_heap (tupleKind_room_in1 hu) (iu I.hok eb) hd dd ?_;have q:=(rel.val k).isSome_eq;rw[Option.isSome_map]at q;rw[<-q,<-l];exact h _ (I.tok _)
theorem xH{h':Heap}{t':Nat}{ob:HO}(I:Inv X M9 σ H s)(mu:Mut (H a))(hs:Heap.SameBut a s.heap h')(he:∃q,h'.get? a=some q)(new:ObjOk X.prog X.w (upd H a ob) h' a ob) :
  Inv X M9 σ (upd H a ob) { s with heap:=h',toks:=t' } :=
 I.write (x:=a) (e:=a) mu (.inl rfl) (λb q hb z=>(hs.2 b hb).trans z) he new
theorem GZ{P:MX}{w:MY}{H':Hp}{h':Heap}{kvs:List (Key×V)}{vs:List (Key×MW)}(z:kvs.length<=sizeLine)(hd:(a==sysModules)=false)(rel:KV kvs vs)(dd:h'.DictOf (bj P w) a vs) :
  ObjOk P w H' h' a (.dK kvs):=#[z,hd,vs,rel,dd]
theorem Bm{H':Hp}{Q:Unit->MV->Prop}(hu:A.units+1<cLine)(I:Inv X M9 σ H s)(g:DPut H a y v H')(ry:RelV y u)(rv:RelV v r)(h:∀s',Inv X M9 σ H' s'->Q () s') :
  wpAny (model X.prog X.w) A (setItem (.ref a) u r) Q E s:=by
 rcases g with⟨kvs,k,e,ey,l,eH⟩|⟨kvs,k,b,e,ey,eb,l,eH⟩
 ·subst ey eH;obtain⟨z,hd,vs,rel,dd⟩:=Jc I.hok e;have hz:vs.length<=sizeLine:=by rw[<-rel.length];exact z
  have hl:(bh kvs k v).length<=sizeLine:=by have:=cJ kvs k v;omega
  refine wpAny_setItem_pairs (hsz:=hz) (mw ry) dd λh' dd' hs=>h _ ?_;have he:∃q,h'.get? a=some q:=let⟨q,_,_,hq,_⟩:=dd';#[q,hq]
  exact xH I (by rw[e];exact True.intro) hs he (GZ hl hd (rel.put k rv) dd')
 ·subst ey eH;cases(show u=Value.ref b from ry);obtain⟨z,hd,xs,rel,dd⟩:=Jd I.hok e;have hz:xs.length<=sizeLine:=by rw[<-ZH rel];exact z
  have hl:(bh kvs k v).length<=sizeLine:=by have:=cJ kvs k v;omega
  refine wpAny_setItem_heap (hsz:=hz) (tupleKind_room_in1 hu) (iu I.hok eb) dd λh' dd' hs=>h _ ?_;obtain⟨q,es,ep,hq,h2,h3,h4,_,h5⟩:=dd';refine xH I (by rw[e];exact True.intro) hs #[q,hq] #[hl,hd,_,(rel.put k eb rv).keeps λc ys ec=>?_,q,es,ep,hq,h2,h3,h4,h5];rw[ah (ER ec e nofun)];exact ec
end
section
variable{X:Cx}{M9:MP}{σ:St}{H:Hp}{s:MV}{a:MU}{kvs:List (Key×V)}{k:Key}{u:MW}{A:MZ}{E:MQ}
theorem Jb{Q:MQ}(I:Inv X M9 σ H s)(e:Rd H a (.dK kvs))(h:∀t s',Inv X M9 σ H s'->Q (.int kvs.length t) s'):wpAny (model X.prog X.w) A (call (.builtin "len") [.ref a]) Q E s:=by obtain⟨z,hd,vs,rel,dd⟩:=iZ I.hok e;refine call_len_dict hd dd (by rw[<-rel.length];rw[sizeLine_eq]at z;omega) ?_;rw[<-rel.length];exact h _ _ (I.tok _)
end
def Da(i:M8):Prop:=∀ov iv,subscripted i false ov iv=operate [ov,iv] (getItem ov iv)
theorem Gs{prog:MX}{w:MY}{A:MZ}{E:MQ}{s:MV}{env:Env}{value slice:M8}{pos:Pos}{T id:String}{Q:MQ}(hl:typeLookup (.type T) "__getitem__" = pure (some (.builtin id)))(hs:Da slice)(h:wpAny (model prog w) A (eval value env) (λo s₁=>wpAny (model prog w) A (eval slice env) (λi s₂=>s₂.TypeIs o T/\wpAny (model prog w) A (getItem o i) Q E s₂) E s₁) E s) :
  wpAny (model prog w) A (eval (.Subscript value slice pos) env) Q E s:=by
 refine Subscript_ (ZL h (λo s₁ h₁=>ZL h₁ (λi s₂ h₂=>?_) λ_ _ x=>x) λ_ _ x=>x);obtain⟨hT,h₂⟩:=h₂;unfold subscriptTail;refine z0 ?_;rw[getitemInPython_of_ne hT.not_modules];refine z0 (wpAny_specialOf hT hl ?_);have fin:wpAny (model prog w) A (subscripted slice false o i) (λr s₃=>wpAny (model prog w) A (letTemporaryGo value o r >>= λ_=>pure r) Q E s₃) E s₂:=by rw[hs o i];exact wpAny_operating (ZL h₂ (λr s₃ h₃=>z0 (wpAny_letTemporaryGo (z9 h₃))) λ_ _ x=>x)
 first
  |exact z9 (z0 fin)
  |exact z0 (z9 (z0 fin))
  |exact z0 fin
theorem wN{X:Cx}{M9:MP}{σ:St}{H:Hp}{s:MV}{a:MU}{y:V}{o:Option V}(I:Inv X M9 σ H s)(g:DGet H a y o):s.TypeIs (.ref a) "dict":=by
 rcases g with⟨kvs,k,e,_,_⟩|⟨kvs,k,b,e,_,_,_⟩
 ·obtain⟨_,_,vs,_,dd⟩:=iZ I.hok e;exact dd.typeIs
 ·obtain⟨_,_,xs,_,dd⟩:=gi I.hok e;exact dd.typeIs
def E6(td ty:TE):TE:=λσ H Q=>td σ H λx H1=>ty σ H1 λy H2=>∃a v,x=.ref a/\DGet H2 a y (some v)/\Q v H2
def Es(ty td:TE):TE:=λσ H Q=>ty σ H λy H1=>td σ H1 λx H2=>∃a o,x=.ref a/\DGet H2 a y o/\Q (.bl o.isSome) H2
def yy(ty td:TE):TE:=λσ H Q=>ty σ H λy H1=>td σ H1 λx H2=>∃a o,x=.ref a/\DGet H2 a y o/\Q (.bl (!o.isSome)) H2
inductive IsP(x y v:V)(H:Hp)(R:Hp->Prop):Prop
 |mk (a:MU) (H':Hp) (h0:x=.ref a) (h1:DPut H a y v H') (q:R H'):IsP x y v H R
def E2(td ty tv:TE):TS:=λD σ H=>tv σ H λv H1=>td σ H1 λx H2=>ty σ H2 λy H3=>IsP x y v H3 (D.nx σ)
section
variable{X:Cx}{o i e value:M8}{pos pos' tpos:Pos}{td ty tv:TE}
theorem FS(hu:X.A.units+1<cLine)(ho:PE X o td)(hi:PE X i ty)(hs:Da i):PE X (.Subscript o i pos) (E6 td ty):=by intro M9 s σ H Q I h;refine Gs PySem.F.slot_dict_getitem.lookup hs (thn (ho M9 s σ H _ I h) λu s1 ⟨x,H1,I1,rx,q1⟩=>thn (hi M9 s1 σ H1 _ I1 q1) λiv s2 hz9=>?_);obtain⟨y,H2,I2,ry,a,v,ex,g,q2⟩:=hz9;subst ex;obtain rfl:u=Value.ref a:=rx;exact#[wN I2 g,Bk hu I2 g ry λw' s3 I3 rw'=>#[v,H2,I3,rw',q2]]
theorem Ck(hu:X.A.units+1<cLine)(hi:PE X i ty)(ho:PE X o td):PC X .In i o (Es ty td):=by intro M9 s σ H Q I h;refine thn (hi M9 s σ H _ I h) λiv s1 ⟨y,H1,I1,ry,q1⟩=>thn (ho M9 s1 σ H1 _ I1 q1) λu s2 hz9=>?_;obtain⟨x,H2,I2,rx,a,ov,ex,g,q2⟩:=hz9;subst ex;obtain rfl:u=Value.ref a:=rx;exact J0 hu I2 g ry λs3 I3=>#[.bl ov.isSome,H2,I3,rfl,q2]
theorem Cl(hu:X.A.units+1<cLine)(hi:PE X i ty)(ho:PE X o td):PC X .NotIn i o (yy ty td):=by intro M9 s σ H Q I h;refine thn (hi M9 s σ H _ I h) λiv s1 ⟨y,H1,I1,ry,q1⟩=>thn (ho M9 s1 σ H1 _ I1 q1) λu s2 hz9=>?_;obtain⟨x,H2,I2,rx,a,ov,ex,g,q2⟩:=hz9;subst ex;obtain rfl:u=Value.ref a:=rx;exact Fh hu I2 g ry λs3 I3=>#[.bl (!ov.isSome),H2,I3,rfl,q2]
theorem Ga(hu:X.A.units+1<cLine)(ho:PE X o td)(hi:PE X i ty)(hv:PE X value tv)(hs:swapsWith value (some (.Subscript o i pos')) pos.line X.env=pure false) :
  PS X (.Assign [.Subscript o i pos'] value pos) (E2 td ty tv):=by
 intro M9 s σ H D I h;refine wpAny_Assign_Subscript (thn (hv M9 s σ H _ I h) λr s1 ⟨v,H1,I1,rv,q1⟩=>thn (ho M9 s1 σ H1 _ I1 q1) λu s2 ⟨x,H2,I2,rx,q2⟩=>thn (hi M9 s2 σ H2 _ I2 q2) λiv s3 hz9=>?_) hs;obtain⟨y,H3,I3,ry,a,H4,ex,g,q3⟩:=hz9;subst ex;obtain rfl:u=Value.ref a:=rx;exact Bm hu I3 g ry rv λs4 I4=>#[σ,H4,I4,q3]
end
theorem Du{P:MX}{w:MY}{H:Hp}(h:Heap)(hb:sysModules<h.objs.size):ObjOk P w H (h.push { cls:=.type "dict",data:=.dict #[] }) h.objs.size (.dK []) :=
 #[ZU _,YI.mpr (Z2 (Zo hb)),[],.nil,Heap.DictOf.new h]
theorem Dv{P:MX}{w:MY}{H:Hp}(h:Heap)(hb:sysModules<h.objs.size):ObjOk P w H (h.push { cls:=.type "dict",data:=.dict #[] }) h.objs.size (.dT []) :=
 #[ZU _,YI.mpr (Z2 (Zo hb)),[],.nil,_,#[],0,Ze _ rfl,#[rfl,rfl,rfl],rfl,rfl,List.nodup_nil]
def CT:TE:=λ_ H Q=>∀p,H p=none->Q (.ref p) (upd H p (.dK []))
def CU:TE:=λ_ H Q=>∀p,H p=none->Q (.ref p) (upd H p (.dT []))
section
variable{X:Cx}{pos:Pos}
theorem DW:PE X (.Dict [] [] pos) CT:=λM9 s σ H Q I h =>
 wpAny_Dict_empty #[.ref s.heap.objs.size,_,I.laid (a:=s.heap.objs.size) (o:=.dK []) (t':=s.toks) (λ_ _ q=>z6 _ q) (Za _) (Du s.heap I.big),rfl,h _ (I.hok.fresh (Za _))]
theorem DX:PE X (.Dict [] [] pos) CU:=λM9 s σ H Q I h =>
 wpAny_Dict_empty #[.ref s.heap.objs.size,_,I.laid (a:=s.heap.objs.size) (o:=.dT []) (t':=s.toks) (λ_ _ q=>z6 _ q) (Za _) (Dv s.heap I.big),rfl,h _ (I.hok.fresh (Za _))]
end
def CV:List (TE×TE)->St->Hp->(List (V×V)->Hp->Prop)->Prop
 | [],_,H,Q=>Q [] H
 |(tk,tv)::r,σ,H,Q=>tk σ H λx H1=>tv σ H1 λy H2=>CV r σ H2 λps H3=>Q ((x,y)::ps) H3
abbrev VV:List (V×V)->List (MW×MW)->Prop:=Paired λp q=>RelV p.1 q.1/\RelV p.2 q.2
def PPs(X:Cx)(pos:Pos)(keys:List (Option M8))(values:List M8)(trs:List (TE×TE)):Prop :=
 ∀(M9:MP) (s:MV) (σ:St) (H:Hp) (Q:List (V×V)->Hp->Prop),Inv X M9 σ H s->CV trs σ H Q ->
  wpAny (model X.prog X.w) X.A (evalPairs (pairTrees keys values X.env pos)) (λvs s'=>∃ps H',Inv X M9 σ H' s'/\VV ps vs/\Q ps H') X.xe s
structure M1(X:Cx)(o:M8)(m:Str)(apos:Pos)(e:M8)(cpos:Pos):Prop where
 base:attributeBase o m X.env (eval o X.env)=eval o X.env
 few:((backTo cpos (starEach [e] X.env)).all (λx=>!x.1)&&(backToKw cpos (keywordEach [] X.env)).all (λx=>x.1.isSome)
 &&decide (([e]:List M8).length+([]:List Keyword).length+(if ([]:List Keyword).isEmpty then 0 else 1)<30))=true
 line:(apos.endLine==cpos.line)=true
 trees:backTo cpos (starEach [e] X.env)=[(false,eval e X.env)]
structure M2(X:Cx)(o:M8)(m:Str)(apos:Pos)(e f:M8)(cpos:Pos):Prop where
 base:attributeBase o m X.env (eval o X.env)=eval o X.env
 few:((backTo cpos (starEach [e,f] X.env)).all (λx=>!x.1)&&(backToKw cpos (keywordEach [] X.env)).all (λx=>x.1.isSome)
 &&decide (([e,f]:List M8).length+([]:List Keyword).length+(if ([]:List Keyword).isEmpty then 0 else 1)<30))=true
 line:(apos.endLine==cpos.line)=true
 trees:backTo cpos (starEach [e,f] X.env)=[(false,eval e X.env),(false,eval f X.env)]
def IsD(H:Hp)(a:MU):Prop:=(∃kvs,Rd H a (.dK kvs))\/∃kvs,Rd H a (.dT kvs)
theorem BJ{X:Cx}{M9:MP}{σ:St}{H:Hp}{s:MV}{a:MU}(I:Inv X M9 σ H s)(d:IsD H a) :
  s.TypeIs (.ref a) "dict"/\(∀b,Value.ref a=.ref b->∃ob,s.heap.get? b=some ob/\ob.dict=none)/\(a==sysModules)=false:=by
 rcases d with⟨kvs,e⟩|⟨kvs,e⟩
 ·obtain⟨_,hd,vs,_,dd⟩:=iZ I.hok e;refine#[dd.typeIs,λb q=>?_,hd];cases q;obtain⟨ob,_,_,h1,h2,_⟩:=dd;exact#[ob,h1,h2.2.1]
 ·obtain⟨_,hd,xs,_,dd⟩:=gi I.hok e;refine#[dd.typeIs,λb q=>?_,hd];cases q;obtain⟨ob,_,_,h1,h2,_⟩:=dd;exact#[ob,h1,h2.2.1]
section
variable{X:Cx}{M9:MP}{σ:St}{H:Hp}{s:MV}{a:MU}{y d:V}{u r:MW}{o:Option V}{A:MZ}{E:MQ}
theorem GY{Q:MQ}(hu:A.units+1<cLine)(I:Inv X M9 σ H s)(g:DGet H a y o)(ry:RelV y u)(h:∀w' s',Inv X M9 σ H s'->RelV (o.getD .non) w'->Q w' s') :
  wpAny (model X.prog X.w) A (call (.builtin "dict.get") [.ref a,u]) Q E s:=by
 rcases g with⟨kvs,k,e,ey,l⟩|⟨kvs,k,b,e,ey,eb,l⟩
 ·subst ey;obtain⟨z,hd,vs,rel,dd⟩:=iZ I.hok e;refine call_meetsIn PySem.F.slot_dict_get dd.typeIs PySem.F.entry_dict_get (PySem.F.args_dict_get_2 _ _) (meets_dict_get (bj X.prog X.w) a (mw ry) hd) #[_,dd.mapOf,h _ _ (I.tok _) ?_];rw[l];exact(rel.val k).getD rfl
 ·subst ey;cases(show u=Value.ref b from ry);obtain⟨z,hd,xs,rel,dd⟩:=gi I.hok e;refine call_meetsIn PySem.F.slot_dict_get dd.typeIs PySem.F.entry_dict_get (PySem.F.args_dict_get_2 _ _) (meetsH_dict_get (tupleKind (bj X.prog X.w)) a b hd) #[tupleKind_room_in1 hu,k,xs,iu I.hok eb,dd,h _ _ (I.tok _) ?_];rw[l];exact(rel.val k).getD rfl
end
def CQ(td ty:TE):TE:=λσ H Q=>td σ H λx H1=>∃a,x=.ref a/\IsD H1 a/\ty σ H1 λy H2=>∃o,DGet H2 a y o/\Q (o.getD .non) H2
section
variable{X:Cx}{o e f:M8}{apos cpos:Pos}{td ty tx:TE}
theorem DV(hu:X.A.units+1<cLine)(ho:PE X o td)(he:PE X e ty)(m:M1 X o "get" apos e cpos):PE X (.Call (.Attribute o "get" apos) [e] [] cpos) (CQ td ty):=by intro M9 s σ H Q I h;refine wpAny_Call_method m.base m.few m.line PySem.F.plainAttrs_dict PySem.F.slot_dict_get PySem.F.type_dict_get (thn (ho M9 s σ H _ I h) λu s1 hz9=>?_);obtain⟨x,H1,I1,rx,a,ex,d,q1⟩:=hz9;subst ex;obtain rfl:u=Value.ref a:=rx;obtain⟨t1,t2,_⟩:=BJ I1 d;refine#[t1,t2,?_];rw[m.trees];refine Calls.callWith_builtin rfl (Calls.evalArgs_plain (Calls.spliced_cons (thn (he M9 s1 σ H1 _ I1 q1) λiv s2 ⟨y,H2,I2,ry,ov,g,q2⟩=>Calls.spliced_nil ?_)));exact GY hu I2 g ry λw' s3 I3 rw'=>#[_,H2,I3,rw',q2]
end
end L2
namespace Att
open PySem PySem.W PySem.Calls PyProof.Rows
theorem oZ{P:Params}{h:Heap}:∀(ns:M5) (vs:MT),WellAll P h vs (ns.map WData.int)->IntsAre vs ns:=by
 intro ns;induction ns with
 |nil =>intro vs w;rw[List.map_nil]at w;cases w;exact .nil
 |cons n ns ih =>
  intro vs w;rw[Z1]at w;cases w with
  |cons a b =>cases a;exact .cons _ _ (ih _ b)
theorem CC{l:OpenLaw}{n:Nat}(hn:l.most=some n){P:Params}{h:Heap}{args:List WData}{vals:MT}(hpre:l.row.toRowW.claim.pre args=true)(hwl:WellAll P h vals args) :
  ∃a vs ns,vals=[Value.ref a]/\args=[WData.list (ns.map WData.int)]/\h.get? a=some { cls:=.type "list",data:=.seq vs.toArray }/\IntsAre vs ns/\ns.length<=n:=by
 have hsh:WShape.hasAll [] args [.list .int]=true:=(pre_splitW hpre).1;have hc:l.pre.holds [] { args:=args }=true:=(pre_splitW hpre).2;obtain⟨d,r,rfl,h1,h2⟩:=hasAllW_cons hsh;obtain rfl:=hasAllW_nil h2;obtain⟨xs,rfl,h3⟩:=hasW_list h1;obtain⟨ns,rfl⟩:=items_int h3;have hlen:ns.length<=n:=by
  unfold OpenLaw.pre at hc;have h4:(WTm.not (.lt (.lit (.int (n:Int))) (.len (.arg 0)))).holds [] { args:=[.list (ns.map .int)] }=true:=by have h4:=(holds_andW hc).1;rw[hn]at h4;exact h4
  have h5:=condW_of h4 (w_not (w_lt w_lit (w_len_list (w_arg rfl))));rw[Zb]at h5;refine Nat.le_of_not_lt λq=>?_;have q':(n:Int)<((ns.length:Nat):Int):=∅
  first
   |(rw[decide_eq_true q']at h5;exact absurd h5 ⋯)
   |(simp at h5;omega)
 cases hwl with
 |cons w1 w2 =>
  cases w2;cases w1 with
  |list ho hall=>exact#[_,_,ns,rfl,rfl,ho,oZ ns _ hall,hlen]
theorem Co(l:OpenLaw)(args:List WData):l.row.toRowW.claim.post args (.bool true) args=true :=
 postW_of (r:=l.row.toRowW) (X:=(true==true))
  (show WShape.has [] (.bool true) .bool=true by first|rfl|decide|simp[WShape.has,WShape.arms,WShape.armsAll])
  (show(WTm.eq .res (.lit (.bool true))).value [] { args:=args,res:=some (.bool true),after:=args }=some (.bool (true==true))from w_eq_bool (w_res rfl) w_lit) rfl
theorem attach_call{l:OpenLaw}{n:Nat}{q:MX}{loose:List Str}{XP:(MR)->Heap->Prop}{YP:MY->Heap->Prop}{d:DefRec}(hn:l.most=some n)(hdf:d.params.defaults=[])(call:∀ (w:MY) (s₀ s₁:MV) (mg mb:MR) (fa:MU) (o:Obj) (pm cd doc:MW) (a:MU) (vs:MT) (ns:M5),
   Ground q loose [] XP w s₀ mg mb s₁.heap->YP w s₁.heap ->
   s₁.heap.get? fa=some o->o.data=.func (docDef d.name d.params d.body d.scope pm cd doc)->s₁.heap.CodeRec cd d.name->mg d.name=some (.ref fa) ->
   s₁.heap.get? a=some { cls:=.type "list",data:=.seq vs.toArray }->IntsAre vs ns->ns.length<=n->s₁.gens=#[] ->
   codeAny (model l.prog w) callerA (.call (.ref fa) #[[.ref a],[]]) (λr s'=>r=.ok (.ret (.bool true))/\OldK s₁.heap s'.heap/\s'.os=s₁.os/\AllBare s'.gens) s₁) :
  WalkO q loose XP YP l.row.toRowW d [] (λf vs=>PySem.call f vs):=by
 intro w s₀ s₁ mg mb G Y fa o pm cd doc dV kV ho hd hcd hD hmg hg args vals as hpre hlay hrd hwl hlo;obtain rfl:dV=.none:=Dflts.none hD hdf;obtain rfl:kV=.none:=Dflts.noKw hD;obtain⟨a,vs,ns,rfl,rfl,hobj,hints,hlen⟩:=CC hn hpre hwl;refine enter_call (codeAny_mono (call w s₀ s₁ mg mb fa o pm cd doc a vs ns G Y ho (fd_plain hd) hcd hmg hobj hints hlen hg) λr s' hq=>?_);obtain⟨rfl,h2,h3,h4⟩:=hq;exact#[.inl #[.bool true,.bool true,[],rfl,λ_=>rfl,.bool true,Co l _,λ_=>#[List.Pairwise.nil,λ_ hm=>(nomatch hm)]],h2,h3,h4]
end Att
namespace L2
open PySem PySem.Spec PyProof.Rows
theorem sw:∀{vs:MT} {ns:M5},IntsAre vs ns->Vals (ns.map V.int) vs
 |_,_,.nil=>.nil
 |_,_,.cons n t h=>.cons #[t,rfl] (sw h)
def aY(s:Stmt)(j:Nat):Stmt:=match s with
 |.ClassDef _ _ _ body _ _ _ _ _ _ _=>body.getD j (.Pass #[0,0,0,0])
 |_=>.Pass #[0,0,0,0]
def cR(s:Stmt):Arguments:=match s with
 |.FunctionDef _ a _ _ _ _ _ _ _ _=>a
 |_=>{ posonlyargs:=[],args:=[],vararg:=none,kwonlyargs:=[],kw_defaults:=[],kwarg:=none,defaults:=[] }
def bK(s:Stmt):List Stmt:=match s with
 |.FunctionDef _ _ b _ _ _ _ _ _ _=>b
 |_=>[]
def aj(s:Stmt):Scope:=match s with
 |.FunctionDef _ _ _ _ _ _ sc _ _ _=>sc
 |_=>{ kind:=.function,names:=[],isGenerator:=false,isCoroutine:=false }
abbrev CX0:CXT:=λ_ _ _ _ _ _=>False
abbrev E0:XK:=λ_ _ _=>False
theorem jg{X:Cx}:ee CX0 X E0:=λ_ _ _ _ _ _ _ h=>h.elim
structure Fun(K:W.Frag)(x qual:Str)(st:Stmt)(f:MU)(fd:M0):Prop where
 ex:∃(oc:MW) (od:Option MU) (kV doc pm:MW) (an:Option MU) (cdv ct:MW) (osl:Array (Option MW)),
  fd=W.fnOf x qual (cR st) (bK st) (aj st) .none kV doc pm an cdv ct/\K.lookup f=some #[oc,od,.func fd,osl]/\W.codeIn K cdv qual=true
 kp:W.keepIn K (.ref f)=true
section
variable{P:MX}{w:MY}{K:W.Frag}{mg:MR}{base:Heap}
theorem Fun.ok{x qual:Str}{st:Stmt}{f:MU}{fd:M0}{N ps:List Str}{k:Nat}{sp:Sp}(F:Fun K x qual st f fd)(S:FnScope N ps (aj st))(len:∀ vs H Q E,sp vs H Q E->vs.length=ps.length)(hbody:∀ (cdv:MW) (A:MZ) (outer:List Env) (s:MV) (H:Hp) (vs:List V) (Q:VK) (E:XK),Room k (A.deeper (envOfC qual (aj st) s.heap.objs.size f cdv))->sp vs H Q E ->
   ∃ t,PSs (fq CX0 P w K mg base N qual (aj st) f cdv A outer s H E).nox (bK st) t/\t { nx:=λ_ H'=>Q .non H',rt:=Q } (start N vs) H):↑FnOk CX0 (k+1) f fd ps sp:=by
 obtain⟨oc,od,kV,doc,pm,an,cdv,ct,osl,rfl,lk,hcd⟩:=F.ex;refine ze lk hcd S len λA outer s H vs Q E hr hsp=>?_;obtain⟨t,h,q⟩:=hbody cdv A outer s H vs Q E hr hsp;exact#[t,h.nox,q]
theorem Fun.binds{x qual:Str}{st:Stmt}{f:MU}{fd:M0}{ps:List Str}(F:Fun K x qual st f fd)(h:∀(kV doc pm:MW) (an:Option MU) (cdv ct:MW) (us:MT),us.length=ps.length->bindArgs (W.fnOf x qual (cR st) (bK st) (aj st) .none kV doc pm an cdv ct) #[us,[]]=pure (ps.zip us)):Binds K fd ps []:=by obtain⟨oc,od,kV,doc,pm,an,cdv,ct,osl,rfl,lk,hcd⟩:=F.ex;exact .all (h kV doc pm an cdv ct)
theorem BB{x qual:Str}{st:Stmt}{f:MU}{oc:MW}{od an:Option MU}{osl:Array (Option MW)}{kV doc pm cdv ct:MW}(l:K.lookup f=some #[oc,od,.func (W.fnOf x qual (cR st) (bK st) (aj st) .none kV doc pm an cdv ct),osl])(c:W.codeIn K cdv qual=true)(k:W.keepIn K (.ref f)=true):Fun K x qual st f (W.fnOf x qual (cR st) (bK st) (aj st) .none kV doc pm an cdv ct):=#[#[oc,od,kV,doc,pm,an,cdv,ct,osl,rfl,l,c],k]
end
theorem be{n:Nat}(h:n<=1000):n<sizeLine:=Nat.lt_of_le_of_lt h ⋯
theorem aD{A B:Prop}(h:B):if false=true then A else B:=by rw[MN Zg];exact h
theorem aK{A B:Prop}(h:A):if true=true then A else B:=by rw[MO rfl];exact h
theorem J3{c A B:Prop}[Decidable c](h1:c->A)(h2:¬c->B):if c then A else B:=by
 by_cases h:c
 ·rw[MO h];exact h1 h
 ·rw[MN h];exact h2 h
theorem jd{c A B:Prop}[Decidable c](hc:c)(h:B):if(!decide c)=true then A else B:=by rw[decide_eq_true hc];exact aD h
def Same(H H':Hp):Prop:=∀b o,H b=some o->H' b=some o
theorem Same.refl(H:Hp):Same H H:=λ_ _ h=>h
theorem Same.trans{H H1 H2:Hp}(a:Same H H1)(b:Same H1 H2):Same H H2:=λc o h=>b c o (a c o h)
theorem Same.free{H H':Hp}(e:Same H H'){l:MU}(h:H' l=Option.none):H l=Option.none:=by
 cases q:H l with
 |none=>rfl
 |some o =>rw[e l o q]at h;cases h
theorem Same.seq{K:W.Frag}{H H':Hp}{a:MU}{xs:List V}(e:Same H H')(h:SqL K H a xs):SqL K H' a xs:=by
 rcases h with(h|⟨o,h⟩)|h
 ·exact .inl (.inl (e _ _ h))
 ·exact .inl (.inr #[o,e _ _ h])
 ·exact .inr h
section
variable{X:Cx}
theorem Bc:cU X (.builtin "len") (λxs H Q=>∃a kvs,xs=[V.ref a]/\H a=some (.dK kvs)/\Q (.int kvs.length) H):=by intro M9 s σ H xs us Q I r h;obtain⟨a,kvs,rfl,ha,q⟩:=h;obtain⟨u,rfl,ru⟩:=bZ r;cases ru;exact Jb I (.inl ha) λt s' I'=>#[.int kvs.length,H,I',#[t,rfl],q]
end
section
variable{κ:Type}[DecidableEq κ]
theorem Ey{kvs:List (κ×V)}{k:κ}(h:aH kvs k=none):¬k∈kvs.map (·.1):=by intro m;obtain⟨p,hp,e⟩:=Zm.mp m;have q:(kvs.any λkv=>decide (kv.1=k))=true:=List.any_eq_true.mpr #[p,hp,decide_eq_true e];rw[eR,h]at q;exact absurd q (by simp)
theorem ya:∀{l:List κ} {k:κ},l.Nodup->¬k∈l->(l++[k]).Nodup
 | [],k,_,_=>by simp
 |a::r,k,h,hk=>by
  obtain⟨h1,h2⟩:=List.nodup_cons.mp h;show(a::(r++[k])).Nodup;refine List.nodup_cons.mpr #[λm=>?_,ya h2 λm=>hk (Zl.mpr (Or.inr m))];rcases Zs.mp m with q|q
  ·exact h1 q
  ·exact hk (Zl.mpr (Or.inl (Zd.mp q).symm))
theorem Fw{kvs:List (κ×V)}{k:κ}(v:V)(hn:(kvs.map (·.1)).Nodup)(h:aH kvs k=none):((bh kvs k v).map (·.1)).Nodup:=by rw[nX v h,Zy];exact ya hn (Ey h)
end
theorem jJ{env:Env}:∀{names:List (Str×NameKind)} {x:Str} {k:NameKind},
  (names.map fun(n,k)=>if(k==NameKind.free&&env.scope.kind == .function&&env.kindOf n==some .cell)then(n,NameKind.cell)else(n,k)).lookup x=some k ->
  ∃k',names.lookup x=some k'/\(k=k'\/(k'=.free/\k=.cell))
 | [],_,_,h=>by simp at h
 |(n,k0)::r,x,k,h=>by
  have ih:=@jJ env r x k;rw[Z1]at h;by_cases hc:(k0==NameKind.free&&env.scope.kind == .function&&env.kindOf n==some .cell)=true
  ·have e:(if(k0==NameKind.free&&env.scope.kind == .function&&env.kindOf n==some .cell)=true then(n,NameKind.cell)else(n,k0))=(n,NameKind.cell):=MO hc;simp only[e]at h;cases hx:x==n with
   |true =>
    simp only[ZN,hx]at h ⊢;have hf:k0=.free:=by have:=hc;simp only[Zw,Z6]at this;exact this.1.1
    exact#[k0,rfl,.inr #[hf,(Zn h).symm]]
   |false =>simp only[ZN,hx]at h ⊢;exact ih h
  ·have e:(if(k0==NameKind.free&&env.scope.kind == .function&&env.kindOf n==some .cell)=true then(n,NameKind.cell)else(n,k0))=(n,k0):=MN hc;simp only[e]at h;cases hx:x==n with
   |true =>simp only[ZN,hx]at h ⊢;exact#[k0,rfl,.inl (Zn h).symm]
   |false =>simp only[ZN,hx]at h ⊢;exact ih h
theorem lN{env:Env}:∀{names:List (Str×NameKind)} {x:Str},names.lookup x=some .free ->
  (names.map fun(n,k)=>if(k==NameKind.free&&env.scope.kind == .function&&env.kindOf n==some .cell)then(n,NameKind.cell)else(n,k)).lookup x=some .cell \/
  (names.map fun(n,k)=>if(k==NameKind.free&&env.scope.kind == .function&&env.kindOf n==some .cell)then(n,NameKind.cell)else(n,k)).lookup x=some .free
 | [],_,h=>by simp at h
 |(n,k0)::r,x,h=>by
  have ih:=@lN env r x;rw[Z1];by_cases hc:(k0==NameKind.free&&env.scope.kind == .function&&env.kindOf n==some .cell)=true
  ·have e:(if(k0==NameKind.free&&env.scope.kind == .function&&env.kindOf n==some .cell)=true then(n,NameKind.cell)else(n,k0))=(n,NameKind.cell):=MO hc;simp only[e];cases hx:x==n with
   |true =>
    simp only[ZN,hx]at h ⊢
    first|exact .inl rfl|exact .inl trivial
   |false =>simp only[ZN,hx]at h ⊢;exact ih h
  ·have e:(if(k0==NameKind.free&&env.scope.kind == .function&&env.kindOf n==some .cell)=true then(n,NameKind.cell)else(n,k0))=(n,k0):=MN hc;simp only[e];cases hx:x==n with
   |true =>simp only[ZN,hx]at h ⊢;exact .inr h
   |false =>simp only[ZN,hx]at h ⊢;exact ih h
def cz(env:Env):List (Str×NameKind)->List (Str×MU)->List (Str×MU)
 | [],acc=>acc
 |y::r,acc=>if(y.2==NameKind.free)=true then cz env r ((y.1,(env.cells.lookup y.1).getD 0)::acc)else cz env r acc
theorem qp{env:Env}:∀{names:List (Str×NameKind)} {acc:List (Str×MU)},(∀y∈names,y.2=.free->∃c,env.cells.lookup y.1=some c) ->
  (forIn names acc fun(x:Str×NameKind) (cs:List (Str×MU))=>if(x.2==NameKind.free)=true then do let c ←cellOf env x.1;pure (ForInStep.yield ((x.1,c)::cs))else pure (ForInStep.yield cs):Sem (List (Str×MU)))=pure (cz env names acc)
 | [],_,_=>rfl
 |y::r,acc,h=>by
  rw[List.forIn_cons];by_cases hy:(y.2==NameKind.free)=true
  ·obtain⟨c,hc⟩:=h y Ys (by simpa using hy);have e:cellOf env y.1=pure c:=by unfold cellOf;rw[hc]
   rw[MO hy,e,pure_bind,pure_bind];show(forIn r ((y.1,c)::acc) _:Sem (List (Str×MU)))=_;rw[qp λz hz=>h z (ZG _ hz)];show _=pure (if(y.2==NameKind.free)=true then cz env r ((y.1,(env.cells.lookup y.1).getD 0)::acc)else cz env r acc);rw[MO hy,hc];rfl
  ·rw[MN hy,pure_bind];show(forIn r acc _:Sem (List (Str×MU)))=_;rw[qp λz hz=>h z (ZG _ hz)];show _=pure (if(y.2==NameKind.free)=true then cz env r ((y.1,(env.cells.lookup y.1).getD 0)::acc)else cz env r acc);rw[MN hy]
theorem Fg{scope:Scope}{env:Env}(h:∀y∈scope.names,y.2=.free->∃c,env.cells.lookup y.1=some c):closureFor scope env=pure (cz env scope.names []):=by have q:=qp (env:=env) (names:=scope.names) (acc:=[]) h;unfold closureFor;exact(by first|(simp only[bind_pure];exact q)|(rw[bind_pure];exact q)|exact q)
theorem qq{env:Env}:∀{names:List (Str×NameKind)} {acc:List (Str×MU)},(∀y∈names,y.2=.free->∃c,env.cells.lookup y.1=some c)->(∀x c,acc.lookup x=some c->env.cells.lookup x=some c) ->
  ∀x c,(cz env names acc).lookup x=some c->env.cells.lookup x=some c
 | [],_,_,ha=>ha
 |y::r,acc,h,ha=>by
  have hr:∀z∈r,z.2=.free->∃c,env.cells.lookup z.1=some c:=λz hz=>h z (ZG _ hz);intro x c e;unfold cz at e;by_cases hy:(y.2==NameKind.free)=true
  ·rw[MO hy]at e;refine qq hr (λx' c' e'=>?_) x c e;obtain⟨d,hd⟩:=h y Ys (by simpa using hy);rw[hd,Option.getD_some]at e';cases hx:x'==y.1 with
   |true =>simp only[ZN,hx]at e';have e1:x'=y.1:=eq_of_beq hx;rw[e1,hd];exact e'
   |false =>simp only[ZN,hx]at e';exact ha x' c' e'
  ·rw[MN hy]at e;exact qq hr ha x c e
theorem ny{env:Env}:∀{names:List (Str×NameKind)} {acc:List (Str×MU)} {x:Str},(∃c,acc.lookup x=some c)->∃c,(cz env names acc).lookup x=some c
 | [],_,_,h=>h
 |y::r,acc,x,h=>by
  unfold cz;by_cases hy:(y.2==NameKind.free)=true
  ·rw[MO hy];refine ny ?_;cases hx:x==y.1 with
   |true=>exact#[(env.cells.lookup y.1).getD 0,by simp only[ZN,hx]]
   |false =>obtain⟨c,e⟩:=h;exact#[c,by simp only[ZN,hx];exact e]
  ·rw[MN hy];exact ny h
theorem qo{env:Env}:∀{names:List (Str×NameKind)} {acc:List (Str×MU)} {x:Str},names.lookup x=some .free->∃c,(cz env names acc).lookup x=some c
 | [],_,_,h=>by simp at h
 |(n,k)::r,acc,x,h=>by
  unfold cz;cases hx:x==n with
  |true =>
   simp only[ZN,hx]at h;have hy:(k==NameKind.free)=true:=by rw[Zn h];rfl
   rw[MO hy];exact ny #[(env.cells.lookup n).getD 0,by simp only[ZN,hx]]
  |false =>
   simp only[ZN,hx]at h;by_cases hy:(k==NameKind.free)=true
   ·rw[MO hy];exact qo h
   ·rw[MN hy];exact qo h
abbrev aU(X:Cx)(scope:Scope)(N':List Str)(C:MU)(s0:MV)(H0:Hp)(ex:List MU):Cx where
 prog:=X.prog
 w:=X.w
 K:=X.K
 mg:=X.mg
 base:=X.base
 A:=X.A
 N:=N'
 s₀:=s0
 H₀:=H0
 env:=compEnvC scope (cz X.env scope.names []) C X.env
 outer:=X.stack
 stack:=X.stack
 ex:=ex
 fn:=λ_=>false
 calm:=X.calm
 pn:=[]
 xe:=λ_ _=>False
def CapOk(X:Cx)(sc:Scope):List Nat->List Str->Prop
 | [],[]=>True
 |j::js,x::xs=>X.N[j]?=some x/\sc.names.lookup x=some .free/\CapOk X sc js xs
 |_,_=>False
theorem CapOk.get{X:Cx}{sc:Scope}:∀{js:List Nat} {xs:List Str} {i:Nat} {x:Str},CapOk X sc js xs->xs[i]?=some x ->
  ∃j,js[i]?=some j/\X.N[j]?=some x/\sc.names.lookup x=some .free
 | [],[],_,_,_,e=>by simp at e
 |j::js,y::xs,0,x,h,e=>by
  obtain⟨h1,h2,_⟩:=h;have e':y=x:=by simpa using e
  subst e';exact#[j,rfl,h1,h2]
 |j::js,y::xs,i+1,x,h,e=>by obtain⟨_,_,h6⟩:=h;obtain⟨j',q⟩:=CapOk.get (i:=i) (x:=x) h6 (by simpa using e);exact#[j',by simpa using q.1,q.2]
 | [],_::_,_,_,h,_=>h.elim
 |_::_,[],_,_,h,_=>h.elim
theorem CapOk.len{X:Cx}{sc:Scope}:∀{js:List Nat} {xs:List Str},CapOk X sc js xs->js.length=xs.length
 | [],[],_=>rfl
 |j::js,y::xs,h=>by obtain⟨_,_,h6⟩:=h;simp[CapOk.len h6]
 | [],_::_,h=>h.elim
 |_::_,[],h=>h.elim
structure CompOk(X:Cx)(scope:Scope)(cap:List Nat)(capN:List Str):Prop where
 kind:scope.kind=.function
 names:∀x∈scope.names,x.2=.local->scope.names.lookup x.1=some .local
 nocell:∀y∈scope.names,y.2≠.cell
 frees:(scope.names.all λy=>!(y.2==NameKind.free) ||(X.env.kindOf y.1==some .cell ||X.env.kindOf y.1==some .free))=true
 cap:CapOk X scope cap capN
section
variable{X:Cx}{scope:Scope}{cap:List Nat}{capN:List Str}
theorem CompOk.around(O:CompOk X scope cap capN){y:Str×NameKind}(hy:y∈scope.names)(hf:y.2=.free):X.env.kindOf y.1=some .cell\/X.env.kindOf y.1=some .free:=by have q:=Ye.mp O.frees y hy;rw[hf]at q;simpa using q
theorem CompOk.cells(O:CompOk X scope cap capN)(ok:X.Ok):∀y∈scope.names,y.2=.free->∃c,X.env.cells.lookup y.1=some c:=λy hy hf=>ok.has _ (O.around hy hf)
theorem CompOk.clos(O:CompOk X scope cap capN)(ok:X.Ok):closureFor scope X.env=pure (cz X.env scope.names []):=Fg (O.cells ok)
theorem CompOk.sub(O:CompOk X scope cap capN)(ok:X.Ok):∀x c,(cz X.env scope.names []).lookup x=some c->X.env.cells.lookup x=some c:=qq (O.cells ok) λx c e=>by simp at e
theorem CompOk.has(_O:CompOk X scope cap capN){x:Str}(h:scope.names.lookup x=some .free):∃c,(cz X.env scope.names []).lookup x=some c:=qo h
end
def bU(n:Nat)(cap:List Nat)(σ:St):St:=List.replicate n none++cap.map (λj=>(σ[j]?).join)
theorem yX{n:Nat}{cap:List Nat}{σ:St}:(bU n cap σ).length=n+cap.length:=by unfold bU;rw[Zk,x5,Zb]
theorem oS{n:Nat}{cap:List Nat}{σ:St}{i:Nat}{v:V}(h:(bU n cap σ)[i]?=some (some v)):n<=i/\∃j,cap[i-n]?=some j/\σ[j]?=some (some v):=by
 unfold bU at h;by_cases hi:i<n
 ·rw[y9 (by simpa using hi),List.getElem?_replicate]at h;rw[MO hi]at h;cases h
 ·have hi':n<=i:=Nat.le_of_not_lt hi;rw[ZV (by simpa using hi'),x5,ZE]at h;refine#[hi',?_];cases e:cap[i-n]? with
  |none=>rw[e]at h;cases h
  |some j =>
   rw[e]at h;refine#[j,rfl,?_];have h':(σ[j]?).join=some v:=by simpa using h
   cases q:σ[j]? with
   |none=>rw[q]at h';cases h'
   |some o =>rw[q]at h';have:o=some v:=h';rw[this]
section
variable{X:Cx}{M9:MP}{σ:St}{H:Hp}{s:MV}{scope:Scope}{cap:List Nat}{capN N':List Str}{C:MU}{ex:List MU}
theorem Bh(I:Inv X M9 σ H s)(O:CompOk X scope cap capN)(hC:s.heap.objs.size<=C)(hex:∀b∈ex,bG X M9 H b/\b<s.heap.objs.size):(aU X scope N' C s H ex).Ok where
 mod:=I.ok.mod
 kind:=O.kind
 glob:=I.ok.glob
 blt:=I.ok.blt
 above:=hC
 inj:=λx y c h1 h2=>I.ok.inj x y c (O.sub I.ok x c h1) (O.sub I.ok y c h2)
 has:=λx hx=>by
  have hx':(relabel scope X.env).names.lookup x=some .cell\/(relabel scope X.env).names.lookup x=some .free:=hx;have key:∀k,(relabel scope X.env).names.lookup x=some k->(k=.cell\/k=.free)->scope.names.lookup x=some .free:=λk e hk=>by
   obtain⟨k',e',q⟩:=jJ (env:=X.env) e;rcases q with q|⟨q,_⟩
   ·subst q;rcases hk with z|z
    ·subst z;exact absurd rfl (O.nocell _ (Yl e'))
    ·subst z;exact e'
   ·subst q;exact e'
  rcases hx' with e|e
  ·exact O.has (key _ e (.inl rfl))
  ·exact O.has (key _ e (.inr rfl))
 cab:=λx c h _=>by cases h
 hd:=I.ok.hd
 frames:=I.ok.frames
 stk:=.inl rfl
 exf:=λb hb=>by obtain⟨⟨f0,f1,f2,f3,f4,f5⟩,lt⟩:=hex b hb;exact#[Zo (Zt lt hC),λx c e=>f4 x c (O.sub I.ok x c e)]
 bs:=I.bs
 bsz:=Zq I.ok.bsz I.sz
 noex:=λb o e hb=>by
  obtain⟨⟨f0,f1,f2,f3,f4,f5⟩,lt⟩:=hex b hb;rcases f3 with z|z
  ·exact I.ok.noex b o e z
  ·exact absurd (Zt (Zh e) (Zq I.ok.bsz z)) (YD _)
 exfs:=λb hb z=>by
  obtain⟨⟨f0,f1,f2,f3,f4,f5⟩,lt⟩:=hex b hb;rcases Zl.mp (I.stkSub b z)with e|e
  ·exact f1 e
  ·exact f2 e
 funs:=I.stack
 frf:=I.stkFree
theorem B5(I:Inv X M9 σ H s){b:MU}(hb:s.heap.objs.size<=b):b∉frs X.stack:=λz=>by
 rcases Zl.mp (I.stkSub b z)with e|e
 ·exact absurd (Zt I.lt hb) (by rw[e];exact YD _)
 ·exact I.nofs hb e
theorem DJ(I:Inv X M9 σ H s){b:MU}(hb:s.heap.objs.size<=b):∀x c,X.env.cells.lookup x=some c->c≠b:=λx c e z=>by obtain⟨v,q⟩:=I.cell x c e;exact absurd (Zt q.lt (by rw[z];exact hb)) (YD _)
theorem yZ{n:Nat}{h1:Heap}{m1:MR}{tk:Nat}(I:Inv X M9 σ H s)(O:CompOk X scope cap capN)(hN:N'.length=n+capN.length)(hN2:∀i x,n<=i->N'[i]?=some x->capN[i-n]?=some x)(hC:s.heap.objs.size<=C)(hex:∀b∈ex,bG X M9 H b/\b<s.heap.objs.size)(hk:∀b o,s.heap.get? b=some o->h1.get? b=some o)(hn:h1.Ns C m1):Inv (aU X scope N' C s H ex) [] (bU n cap σ) H { s with heap:=h1,toks:=tk }:=by
 refine#[Bh I O hC hex,rfl,I.bare,Un.kept hk,#[m1,hn,λi x v e1 e2 e3=>?_],λx c e=>?_,I.hok.fresh hC,λx c e=>I.freeC x c (O.sub I.ok x c e),λp hp=>absurd (show p∈([]:MP)from hp) (by simp),I.hok.kept hk,?_]
 ·obtain⟨hi,j,ej,es⟩:=oS e2;obtain⟨j',q1,q2,qf⟩:=O.cap.get (hN2 i x hi e1);have q3:=O.around (Yl qf) rfl;have q4:=lN (env:=X.env) qf;obtain⟨c,q5⟩:=O.has qf;have q6:=O.sub I.ok x c q5;rw[q1]at ej;cases ej;obtain⟨m0,hn0,hl0⟩:=I.loc;obtain⟨u,r,l⟩:=hl0 _ x v q2 es (by
   rcases q3 with z|z
   ·exact .inr (.inl z)
   ·exact .inr (.inr z))
  refine#[u,r,.inr #[q4,c,q5,?_]];rcases l with⟨k,_⟩|⟨_,c',e',z⟩
  ·rcases q3 with z|z
   ·have z':X.env.kindOf x=some .cell:=z;rw[z']at k;cases k
   ·have z':X.env.kindOf x=some .free:=z;rw[z']at k;cases k
  ·rw[q6]at e';cases e';obtain⟨o,ho,hd⟩:=z;exact#[o,hk _ _ ho,hd]
 ·obtain⟨v,o,ho,hd⟩:=I.cell x c (O.sub I.ok x c e);exact#[v,o,hk _ _ ho,hd]
 ·rw[yX,O.cap.len];exact hN.symm
end
def qk(X:Cx)(ifs:List M8)(t:TT):Prop :=
 ∀(M9:MP) (s:MV) (σ:St) (H:Hp) (Q:Bool->Hp->Prop),Inv X M9 σ H s->t σ H Q ->
  wpAny (model X.prog X.w) X.A (forIn ifs true λc r=>if r=true then do let ok ←isTrue c X.env (eval c X.env);pure (ForInStep.yield ok)else pure (ForInStep.yield r)) (TP X M9 σ Q) X.xe s
def gw:TT:=λ_ H Q=>Q true H
theorem D8{X:Cx}:qk X [] gw:=λ_ _ _ H _ I h=>wpAny_tests_nil #[H,I,h]
theorem D9{X:Cx}{c:M8}{t:TT}(h:PT X c t):qk X [c] t:=λM9 s σ H Q I hw=>wpAny_tests_one (h M9 s σ H Q I hw)
def GK(n:Nat)(g:TG):Prop:=∀x σ H Q,g x σ H Q->g x σ H (λσ2 H2=>(σ2.length=σ.length/\∀i,n<=i->σ2[i]?=σ[i]?)/\Q σ2 H2)
theorem aM{n i:Nat}(hi:i<n):GK n (bo i):=λx σ H Q h=>#[#[Yx,λj hj=>List.getElem?_set_ne ∅],h]
def GKs(n:Nat)(g:TGs):Prop:=∀xs σ H Q,g xs σ H Q->g xs σ H (λσ2 H2=>(σ2.length=σ.length/\∀i,n<=i->σ2[i]?=σ[i]?)/\Q σ2 H2)
theorem fR{n:Nat}:GKs n jY:=λxs σ H Q h=>#[h.1,#[rfl,λ_ _=>rfl],h.2]
def GM(g:TG):Prop:=∀x σ H Q Q',(∀σ2 H2,Q σ2 H2->Q' σ2 H2)->g x σ H Q->g x σ H Q'
def GMs(g:TGs):Prop:=∀xs σ H Q Q',(∀σ2 H2,Q σ2 H2->Q' σ2 H2)->g xs σ H Q->g xs σ H Q'
theorem aP{i:Nat}:GM (bo i):=λ_ _ _ _ _ f h=>f _ _ h
theorem bQ:GMs jY:=λ_ _ _ _ _ f h=>#[h.1,f _ _ h.2]
theorem ci{t:TG}{u:TGs}(a:GM t)(b:GMs u):GMs (dS t u):=λxs σ H Q Q' f h=>by obtain⟨v,r,e,h⟩:=h;exact#[v,r,e,a _ _ _ _ _ (λσ2 H2 z=>b _ _ _ _ _ f z) h]
theorem bu{n:Nat}{t:TG}{u:TGs}(a:GK n t)(m:GM t)(b:GKs n u)(mb:GMs u):GKs n (dS t u):=λxs σ H Q h=>by obtain⟨v,r,e,h⟩:=h;refine#[v,r,e,m _ _ _ _ _ (λσ2 H2 z=>?_) (a _ _ _ _ h)];obtain⟨⟨l1,k1⟩,z⟩:=z;refine mb _ _ _ _ _ (λσ3 H3 w=>?_) (b _ _ _ _ z);obtain⟨⟨l2,k2⟩,w⟩:=w;exact#[#[l2.trans l1,λi hi=>(k2 i hi).trans (k1 i hi)],w]
theorem im{n m:Nat}{K:W.Frag}{t:TGs}(a:GKs n t):GK n (jZ K m t):=λx σ H Q h=>by obtain⟨b,xs,e,h1,h2,h3⟩:=h;exact#[b,xs,e,h1,h2,a _ _ _ _ h3]
def dM(n:Nat)(cap:List Nat)(g:TG)(tc:TT)(te:TE)(σ:St)(J:It)(H1:Hp)(Q:VK):Prop :=
 ∃W:Nat->Nat->List V->Hp->Prop,(∃m,W 0 m [] H1)/\∀i m ys H,W i m ys H ->
  (J.stop i H/\∀p,H p=none->Q (.ref p) (upd H p (.lst ys))) \/
  (J.go i H/\ys.length<sizeLine/\∀ x H',J.yld i H x H'->g x (bU n cap σ) H' λσ2 H2=>tc σ2 H2 λb H3 =>
   if b=true then te σ2 H3 λy H4=>∃ m',m'<m/\W (i+1) m' (ys++[y]) H4 else ∃ m',m'<m/\W (i+1) m' ys H3)
def tX(n:Nat)(cap:List Nat)(wi:TI)(g:TG)(tc:TT)(te:TE):TE:=λσ H Q=>wi σ H λJ H1=>dM n cap g tc te σ J H1 Q
theorem jU{prog:MX}{w:MY}{A:MZ}{R:Result->MV->Prop}{s:MV}{elt target iter:M8}{ifs:List M8}{scope:Scope}{pos:Pos}{it acc:MW}{env:Env}(I:Nat->MV->Prop)(turn:∀ n s,I n s->wpAny (model prog w) A (pyNext it) (λr s₁=>match r with
   |none=>R (.ok .next) s₁
   | some v=>wpAny (model prog w) A (letOwnedTupleGo target it v) (λ_ s₁'=>wpAny (model prog w) A (assign target env v) (λ_ s₂ =>
     wpAny (model prog w) A (forIn ifs true λc r=>if r=true then do let ok ←isTrue c env (eval c env);pure (ForInStep.yield ok) else pure (ForInStep.yield r)) (λok s₃ =>
      if ok=true then wpAny (model prog w) A (eval elt env) (λx s₄ =>
       wpAny (model prog w) A (call (.builtin "list.append") [acc,x]) (λ_ s₅=>∃ m,m<n/\I m s₅) (λ_ _=>False) s₄) (λ_ _=>False) s₃
      else ∃ m,m<n/\I m s₃) (λ_ _=>False) s₂) (λ_ _=>False) s₁') (λ_ _=>False) s₁) (λ_ _=>False) s)(n:Nat)(h:I n s) :
  codeAny (model prog w) A (.compLoop (.ListComp elt [#[target,iter,ifs,0]] scope pos) 0 it acc env) R s:=by
 refine codeAny_loop rfl I (λn s hI=>?_) n h;show wpAny _ A ((compTurn (.ListComp elt [#[target,iter,ifs,0]] scope pos) 0 it acc env).onRaise (λx=>do noteFrame x env;theTreesLotGoes x)) _ _ s;refine wpAny_noted (wpAny_noRaise ?_);rw[compTurn_list];refine z0 (wpAny_standAt (z0 (ZL (turn n s hI) (λr s₁ h₁=>?_) λ_ _ h'=>h')));cases r with
 |none=>exact z9 h₁
 |some v =>
  refine z0 (ZL h₁ (λ_ s₁' h₁'=>?_) λ_ _ h'=>h');refine z0 (ZL h₁' (λ_ s₂ h₂=>z0 (ZL h₂ (λok s₃ h₃=>?_) λ_ _ h'=>h')) λ_ _ h'=>h');cases ok with
  |false=>exact z9 #[rfl,h₃]
  |true =>exact z0 (z0 (ZL h₃ (λx s₄ h₄=>z0 (ZL h₄ (λ_ s₅ h₅=>z9 (z9 #[rfl,h₅])) λ_ _ h'=>h')) λ_ _ h'=>h'))
theorem FM{own capN:List Str}:∀(i:Nat) (x:Str),own.length<=i->(own++capN)[i]?=some x->capN[i-own.length]?=some x:=λi x hi e=>by rw[ZV hi]at e;exact e
section
variable{X:Cx}{M9:MP}{σ:St}{H2:Hp}{s2:MV}{scope:Scope}{cap:List Nat}{capN own:List Str}
variable{elt tg iter:M8}{ifs:List M8}{pos:Pos}{g:TG}{tc:TT}{te:TE}{Q:VK}
abbrev gH(its:MT)(nn:Nat):Obj:={ cls:=.type "list",data:=.seq its.toArray nn }
theorem rO{J:It}{fp:List MU}{it:MU}{tn:Nat->Heap->Prop}{E:MQ}{RR:MW->MU->Result->MV->Prop}(O:CompOk X scope cap capN)(hc:X.calm=true)(hg:∀C s0 H0 ex,PG (aU X scope (own++capN) C s0 H0 ex) tg g)(gk:GK own.length g)(ht:∀C s0 H0 ex,qk (aU X scope (own++capN) C s0 H0 ex) ifs tc)(he:∀C s0 H0 ex,PE (aU X scope (own++capN) C s0 H0 ex) elt te)(I2:Inv X M9 σ H2 s2)(T:Turn X.prog X.w X.K tg J fp it tn)(st2:tn 0 s2.heap)(f2:∀b∈fp,bG X M9 H2 b)(hq:dM own.length cap g tc te σ J H2 Q)(fin:∀(D C:MU) (s4:MV) (H4:Hp) (ys:List V),Inv X M9 σ (upd H4 D (.lst ys)) s4->(∃m,s4.heap.Ns C m)->bG X M9 (upd H4 D (.lst ys)) C->Q (.ref D) (upd H4 D (.lst ys))->RR (.ref D) C (.ok .next) s4) :
  wpAny (model X.prog X.w) X.A (newList []) (λacc s₃=>wpAny (model X.prog X.w) X.A (newFunctionEnv scope X.env.globals (cz X.env scope.names []) [] X.env.qual none .none (some X.env)) (λcenv s₄ =>
   codeAny (model X.prog X.w) X.A (.compStart (.ListComp elt [#[tg,iter,ifs,0]] scope pos) 0 (.ref it) acc { cenv with scope:=relabel scope X.env }) (RR acc cenv.locals) s₄) E s₃) E s2:=by
 obtain⟨W,⟨m0,w0⟩,turn⟩:=hq;refine ZD (wpAny_newFunctionEnv O.nocell (by intro y hy;simp at hy) (λh₁ hns₁ hsb₁=>?_) O.kind);dsimp only at hns₁ hsb₁ ⊢;generalize hHp:s2.heap.push { cls:=.type "list",dict:=none,data:=.seq ([]:MT).toArray }=Hp2 at hns₁ hsb₁ ⊢;have hC:Hp2.objs.size=s2.heap.objs.size+1:=by rw[<-hHp,Yh]
 have hDC:s2.heap.objs.size≠Hp2.objs.size:=by rw[hC];exact Zo (Nat.lt_succ_self _)
 have hCle:s2.heap.objs.size<=Hp2.objs.size:=by rw[hC];exact Nat.le_succ _
 have below:∀b,b<s2.heap.objs.size->b≠Hp2.objs.size/\b≠s2.heap.objs.size:=λb hb=>#[by rw[hC];exact Zo (Nat.lt_succ_of_lt hb),Zo hb]
 have old:∀b o,s2.heap.get? b=some o->h₁.get? b=some o:=λb o e=>hsb₁.extBut b o (below b (Zh e)).1 (z6 _ (hHp▸z6 _ e));have hacc:h₁.get? s2.heap.objs.size=some (gH [] 0):=hsb₁.extBut _ _ hDC (z6 _ (hHp▸Ze _ rfl));generalize hDe:s2.heap.objs.size=D at *;generalize hCe:Hp2.objs.size=C at *;have hfpl:∀b∈fp,b<s2.heap.objs.size:=λb hb=>by obtain⟨o,e,_⟩:=T.obj _ _ st2 b hb;exact Zh e
 have hex:∀b∈fp,bG X M9 H2 b/\b<s2.heap.objs.size:=λb hb=>#[f2 b hb,hfpl b hb]
 have hCle':s2.heap.objs.size<=C:=by rw[hDe];exact hCle
 have hDle:s2.heap.objs.size<=D:=by rw[hDe];exact Za _
 have hDfp:∀b∈fp,D≠b:=λb hb z=>by have:=hfpl b hb;rw[<-z]at this;exact absurd this (Nat.not_lt.mpr hDle)
 have I0:∀tk,Inv (aU X scope (own++capN) C s2 H2 fp) [] (bU own.length cap σ) H2 { s2 with heap:=h₁,toks:=tk }:=λtk=>yZ I2 O (by simp) FM hCle' hex old hns₁;have Dst:D∉frs X.stack:=B5 I2 hDle;have Dcell:∀x c,(aU X scope (own++capN) C s2 H2 fp).env.cells.lookup x=some c->c≠D:=λx c e=>DJ I2 hDle x c (O.sub I2.ok x c e);have pinD:∀{σ':St} {H':Hp} {s':MV} {its:MT} {nn:Nat},Inv (aU X scope (own++capN) C s2 H2 fp) [] σ' H' s'->s'.heap.get? D=some (gH its nn)->H' D=none->Inv (aU X scope (own++capN) C s2 H2 fp) [(D,gH its nn)] σ' H' s':=fun{σ' H' s' its nn} I e hn =>
  I.pins_of λp hp=>by
   have z:p=(D,gH its nn):=by simpa using hp
   subst z;exact#[e,hn,hDC,Dst,λv q=>by cases q]
 have loop:∀s₃:MV,s₃={ s2 with heap:=h₁,toks:=s2.toks+([]:List (Str×MW)).length } ->
   codeAny (model X.prog X.w) X.A (.compLoop (.ListComp elt [#[tg,iter,ifs,0]] scope pos) 0 (.ref it) (.ref D) (compEnvC scope (cz X.env scope.names []) C X.env)) (RR (.ref D) C) s₃:=by
  rintro s₃ rfl;refine jU (λk s'=>∃(i:Nat) (ys:List V) (its:MT) (nn:Nat) (H':Hp),Inv (aU X scope (own++capN) C s2 H2 fp) [(D,gH its nn)] (bU own.length cap σ) H' s'/\tn i s'.heap/\(∀b∈fp,H' b=none)/\Vals ys its/\ys.length<=sizeLine/\W i k ys H') ?_ m0
   #[0,[],[],0,H2,pinD (I0 _) hacc (I2.hok.fresh hDle),T.keep _ _ _ st2 (λb hb o e=>old b o e),λb hb=>(f2 b hb).1,.nil,ZU _,w0]
  rintro k s3 ⟨i,ys,its,nn,H3,I3,st3,fr3,rv,hz,w3⟩;have oD3:s3.heap.get? D=some (gH its nn):=(I3.pin (D,gH its nn) (by simp)).1;have fpY:∀{H':Hp},(∀b∈fp,H' b=none)->∀b∈fp,bG (aU X scope (own++capN) C s2 H2 fp) [(D,gH its nn)] H' b:=fun{H'} hn b hb=>by
   obtain⟨f0,f1,g2,f3,f4,f5⟩:=f2 b hb;refine#[hn b hb,Zo (Zt (hfpl b hb) hCle'),λz=>?_,.inl hb,λx c e=>f4 x c (O.sub I2.ok x c e),λp hp=>?_]
   ·rcases Zl.mp (I2.stkSub b z)with e|e
    ·exact f1 e
    ·exact g2 e
   ·have z:p=(D,gH its nn):=by simpa[aU]using hp
    subst z;exact hDfp b hb
  rcases turn i k ys H3 w3 with⟨stop,qn⟩|⟨go,hlt,step⟩
  ·refine thn (T.done (aU X scope (own++capN) C s2 H2 fp) rfl rfl rfl hc i _ s3 _ H3 _ I3 (fpY fr3) st3 stop) λr s4 ⟨hr,I4⟩=>?_;subst hr;obtain⟨oD,nD,_⟩:=I4.pin (D,gH its nn) (by simp);have neD:∀{b:MU} {u:HO},H3 b=some u->b≠D:=fun{b u} e=>al e nD;have JX:Inv X M9 σ (upd H3 D (.lst ys)) s4:=by
    refine I2.call' (ch:=fp) I4.os #[I4.base.keep,I4.base.slot,λb o e nb hx=>?_,I4.base.there,λb xs e=>?_,λb o u e=>?_,λb ps e=>?_] (λb u e=>?_) I4.bare (λb hb=>?_)
    ·rw[ah (by rw[<-hDe];exact Zo (Zh e))];exact I4.base.free b o e nb hx
    ·have q:=I4.base.tups b xs e;rw[ah (neD q)];exact q
    ·have q:=I4.base.frzs b o u e;rw[ah (neD q)];exact q
    ·obtain⟨more,q⟩:=I4.base.tbls b ps e;exact#[more,by rw[ah (neD q)];exact q]
    ·by_cases hb:b=D
     ·subst hb;rw[ad]at e;cases e;exact#[hz,its,nn,rv,oD]
     ·rw[ah hb]at e;exact(I4.hok b u e).stay (λ_ _ _ q=>q) (λc q=>by rw[ah (neD q)];exact q) λc xs q=>by rw[ah (neD q)];exact q
    ·obtain⟨f0,f1,g2,f3,f4,f5⟩:=f2 b hb;exact#[f3,f1,f4,f5]
   obtain⟨m4,hn4,_⟩:=I4.loc;refine fin D C s4 H3 ys JX #[m4,hn4] ?_ (qn D nD);refine I2.fpOk (b:=C) hCle' ?_;rw[ah (Z2 hDC)];exact I4.free
  ·refine thn (T.item (aU X scope (own++capN) C s2 H2 fp) rfl rfl rfl hc i _ s3 _ H3 _ I3 (fpY fr3) st3 go) λr s4 ⟨u,hr,h4⟩=>?_;subst hr;refine thn h4 λ_ s5 hz9=>?_;obtain⟨x,H5,I5,r5,y5,st5,fr5⟩:=hz9;have I5':=I5.pinned (fpY fr5) (T.obj _ _ st5);refine thn (hg C s2 H2 fp _ s5 _ H5 x u _ I5' r5 (gk _ _ _ _ (step x H5 y5))) λ_ s6 hz9=>?_;obtain⟨σ6,H6,I6,⟨l6,k6⟩,q6⟩:=hz9;refine thn (ht C s2 H2 fp _ s6 σ6 H6 _ I6 q6) λok s7 ⟨H7,I7,q7⟩=>?_;have wk:∀{H8:Hp} {s8:MV} {pl:MP},Inv (aU X scope (own++capN) C s2 H2 fp) pl σ6 H8 s8->Inv (aU X scope (own++capN) C s2 H2 fp) pl (bU own.length cap σ) H8 s8:=λI=>I.weak l6.symm λj v e=>by obtain⟨hj,_⟩:=oS e;rw[k6 j hj];exact e
   have tn8:∀{σ8:St} {H8:Hp} {s8:MV},Inv (aU X scope (own++capN) C s2 H2 fp) ([(D,gH its nn)]++lG fp s5.heap) σ8 H8 s8->(∀b∈fp,∀o,s5.heap.get? b=some o->s8.heap.get? b=some o)/\∀b∈fp,H8 b=none:=fun{σ8 H8 s8} I=>by refine#[λb hb o e=>(I.pin (b,o) (Zr _ (Zr _ (gZ hb e)))).1,λb hb=>?_];obtain⟨o,e,d⟩:=T.obj _ _ st5 b hb;exact(I.pin (b,o) (Zr _ (Zr _ (gZ hb e)))).2.1
   cases ok with
   |false =>rw[MN Zg]at q7 ⊢;obtain⟨m',hm,w7⟩:=q7;obtain⟨t1,t2⟩:=tn8 I7;exact#[m',hm,i+1,ys,its,nn,H7,wk I7.unpinned,T.keep _ _ _ st5 t1,t2,rv,hz,w7]
   |true =>
    rw[MO rfl]at q7 ⊢;refine thn (he C s2 H2 fp _ s7 σ6 H7 _ I7 q7) λy s8 hz9=>?_;obtain⟨yv,H8,I8,r8,m',hm,w8⟩:=hz9;obtain⟨t1,t2⟩:=tn8 I8;obtain⟨oD,nD,_⟩:=I8.pin (D,gH its nn) (by simp);have hil:=rv.length;refine call_meets F.slot_list_append #[_,oD,rfl] F.entry_list_append (F.args_list_append_2 _ _) (PySem.list_append D its.toArray nn y (by rw[Zf];omega)) #[oD,?_];have q:=PySem.IsL.update oD (λx_1=>x_1.push y);have hf:its.toArray.push y=(its++[y]).toArray:=by simp
    rw[hf]at q;have keepO:∀b o,b≠D->s8.heap.get? b=some o->(s8.heap.update D (Obj.mapSeq λx_1=>x_1.push y)).get? b=some o:=λb o hb e=>(Zz s8.heap (Obj.mapSeq λx_1=>x_1.push y) (Z2 hb)).trans e;have I9:Inv (aU X scope (own++capN) C s2 H2 fp) [] σ6 H8 { s8 with heap:=s8.heap.update D (Obj.mapSeq λx_1=>x_1.push y),toks:=s8.toks } :=
     (I8.pins_of (pins':=[]) λp hp=>absurd hp (by simp)).turned (it:=D) keepO nD hDC (.inr hDle) Dcell (λp hp=>absurd (show p∈([]:MP)from hp) (by simp))
    refine#[m',hm,i+1,ys++[yv],its++[y],_,H8,wk (pinD I9 q nD),T.keep _ _ _ st5 (λb hb o e=>keepO b o (Z2 (hDfp b hb)) (t1 b hb o e)),t2,rv.append (.cons r8 .nil),?_,w8];rw[Zk,y0];omega
 exact codeAny_compStart_list (loop _ rfl) (T.self _ 0 _ _ _ (T.keep _ _ _ st2 (λb hb o e=>old b o e)) (loop _ rfl))
theorem FR{wi:TI}(O:CompOk X scope cap capN)(hc:X.calm=true)(hi:PI X tg iter wi)(hg:∀C s0 H0 ex,PG (aU X scope (own++capN) C s0 H0 ex) tg g)(gk:GK own.length g)(ht:∀C s0 H0 ex,qk (aU X scope (own++capN) C s0 H0 ex) ifs tc)(he:∀C s0 H0 ex,PE (aU X scope (own++capN) C s0 H0 ex) elt te)(hs:∀x,foldedSetIterable iter X.env x=pure x:=by intro _;rfl):PE X (.ListComp elt [#[tg,iter,ifs,0]] scope pos) (tX own.length cap wi g tc te):=by intro M9 s σ H Q I h;rw[eval_ListComp];refine wpAny_comprehension_free (use:=none) rfl hs (O.clos I.ok) O.kind O.names (thn (hi M9 s σ H _ I h) λv s1 h1=>thn h1 λitv s2 h2=>?_);obtain⟨it,fp,tn,J,H2,e,I2,T,st2,f2,hq⟩:=h2;subst e;refine rO (RR:=λacc C=>compPost (model X.prog X.w) X.A X.xe none (EP X M9 σ Q) acc C) O hc hg gk ht he I2 T st2 f2 hq λD C s4 H4 ys J4 hn4 fC q4=>?_;obtain⟨m,hn⟩:=hn4;obtain⟨f0,f1,g2,f3,f4,f5⟩:=fC;exact#[m,hn,λh' sb=>#[.ref D,_,J4.turned (t':=s4.toks) (λb o hb e=>(sb.2 b hb).trans e) f0 f1 f3 f4 f5,rfl,q4]]
theorem Gc{wi:TI}{j:Nat}{y:Str}{py spos:Pos}(hN0:X.N.Nodup)(hj:X.N[j]?=some y)(hy:Loc X.env.scope y)(O:CompOk X scope cap capN)(hc:X.calm=true)(hi:PI X tg iter wi)(hg:∀C s0 H0 ex,PG (aU X scope (own++capN) C s0 H0 ex) tg g)(gk:GK own.length g)(ht:∀C s0 H0 ex,qk (aU X scope (own++capN) C s0 H0 ex) ifs tc)(he:∀C s0 H0 ex,PE (aU X scope (own++capN) C s0 H0 ex) elt te)(hsw:swapsWith (.ListComp elt [#[tg,iter,ifs,0]] scope pos) (some (.Name y py)) spos.line X.env=pure true:=by rfl)(hs:∀x,foldedSetIterable iter X.env x=pure x:=by intro _;rfl)(hf:X.fn y=true\/X.env.scope.names.lookup y=some .local:=by first|exact .inl rfl|exact .inr rfl|assumption) :
  PS X (.Assign [.Name y py] (.ListComp elt [#[tg,iter,ifs,0]] scope pos) spos) (rE (tX own.length cap wi g tc te) (bo j)):=by
 intro M9 s σ H D0 I h;rw[exec_Assign_Name_used _ _ _ _ hsw];refine z0 (wpAny_standAt (z0 ?_));show wpAny _ X.A (do let _ ←comprehension (.ListComp elt [#[tg,iter,ifs,0]] scope pos) scope X.env _ (newList []) false (eval iter X.env) (some (assign (.Name y py) X.env))) _ _ s;refine z0 (ZL (wpAny_comprehension_free (use:=some (assign (.Name y py) X.env)) (Q:=λ_ s'=>SP X M9 D0 .next s') rfl hs (O.clos I.ok) O.kind O.names (thn (hi M9 s σ H _ I h) λv s1 h1=>thn h1 λitv s2 h2=>?_)) (λ_ s' hq=>z9 (z9 hq)) λ_ _ e=>e);obtain⟨it,fp,tn,J,H2,e,I2,T,st2,f2,hq⟩:=h2;subst e;refine rO (RR:=λacc C=>compPost (model X.prog X.w) X.A X.xe (some (assign (.Name y py) X.env)) (λ_ s'=>SP X M9 D0 .next s') acc C) O hc hg gk ht he I2 T st2 f2 hq λD C s4 H4 ys J4 hn4 fC q4=>?_;obtain⟨m,hn⟩:=hn4;obtain⟨f0,f1,g2,f3,f4,f5⟩:=fC;show wpAny _ X.A (assign (.Name y py) X.env (.ref D)) _ _ _;refine wpAny_assign_Name (sj J4 hN0 hj hy (v:=.ref D) rfl (λs5 I5 ⟨a,sba,ha⟩=>?_) hf);have hCa:C≠a:=by
  rcases ha with z|z
  ·rw[z];exact f1
  ·exact Z2 (f4 _ _ z)
 refine#[m,hn.sameBut sba hCa,λh' sb=>?_];exact#[_,_,I5.turned (t':=s5.toks) (λb o hb e=>(sb.2 b hb).trans e) f0 f1 f3 f4 f5,q4]
end
structure Fn(P:MX)(w:MY)(K:W.Frag)(mg:MR)(base:Heap)(k:Nat)(x:Str)(ps:List Str)(sp:Sp):Prop where
 ex:∃f fd,FnOk P w K mg base CX0 k f fd ps sp/\mg x=some (.ref f)/\W.keepIn K (.ref f)=true/\Binds K fd ps []
section
variable{X:Cx}{k:Nat}{x:Str}{p pos:Pos}{e:M8}{es:List M8}{ps:List Str}{sp:Sp}{t:TA}
theorem JG(F:Fn X.prog X.w X.K X.mg X.base k x ps sp)(hr:Room k X.A)(ha:PA X (e::es) t)(hg:Gl X x:=by rfl)(hdb:(x==("__debug__":Str))=false:=by decide)(he:starEach (e::es) X.env=(false,eval e X.env)::starEach es X.env:=by rfl)(hpl:(backTo pos (starEach es X.env)).any (·.1)=false:=by rfl) :
  PE X (.Call (.Name x p) (e::es) [] pos) (tW sp [] E0 t):=by
 obtain⟨f,fd,G,m,kp,b⟩:=F.ex;exact FP G hr hg m kp b .nil jg ha hdb he hpl
end
theorem aZ:bootBuiltins "isinstance" = some (.builtin "isinstance"):=⋯
theorem uA:bootBuiltins "max" = some (.builtin "max"):=⋯
theorem nq:bootBuiltins "int" = some (.type "int"):=⋯
theorem rL:bootBuiltins "bool" = some (.type "bool"):=⋯
theorem dA:bootBuiltins "tuple" = some (.type "tuple"):=⋯
theorem kZ:bootBuiltins "list" = some (.type "list"):=⋯
theorem eg:bootBuiltins "all" = some (.builtin "all"):=⋯
section
variable{X:Cx}
theorem Dj(hc:X.calm=true):cU X (.builtin "all") (λxs H Q=>∃(p:MU) (bs:List Bool),xs=[.ref p]/\SqL X.K H p (bs.map V.bl)/\Q (.bl (bs.all id)) H):=by
 intro M9 s σ H xs us Q I r h;obtain⟨p,bs,rfl,hq,q⟩:=h;obtain⟨u,rfl,rx⟩:=bZ r;cases rx;obtain⟨its,rv,pl,hz⟩:=I.list hq;have hl:=pl.isList;have hlt:p<s.heap.objs.size:=by obtain⟨_,e,_⟩:=hl;exact Zh e
 have hh:=I.ok.hd hc;have hlen:bs.length=its.length:=by rw[<-rv.length,Zb]
 refine call_all_walk (YW hl ?_);refine#[s.heap.objs.size,[s.heap.objs.size,p],[s.heap.objs.size],its.toArray.size,_,_,λi=>(bs[i]?).getD true,rfl,Walks.list (A:=X.A.in1) hh _ p (Zo hlt) its.toArray,
  #[#[_,Ze _ rfl,rfl,rfl],hl.push _],λi v s' Q' E' hP hQ=>?_,λh' tk hk=>?_]
 ·have hv:its[i]?=some v:=by simpa using hP
  have hi:i<bs.length:=by rw[hlen];exact(Zi.mp hv).1
  obtain⟨u,hu,ru⟩:=rv.get (i:=i) (x:=.bl bs[i]) (by rw[ZE,Zj hi];rfl);rw[hv]at hu;cases hu;cases ru;have hQ':Q' ((bs[i]?).getD true) s':=hQ;rw[Zj hi]at hQ';exact ZX hQ'
 ·have e:((List.range its.toArray.size).all λi=>(bs[i]?).getD true)=bs.all id:=by rw[Zf,<-hlen];exact LSm.range_all bs
  rw[e];exact#[.bl _,H,I.kept (t':=tk) (LSm.kept_iter hk),rfl,q]
theorem Dl:cU X (.builtin "isinstance") (λxs H Q=>∃x T t b,xs=[x,.ty T]/\TyOf X.K H x t/\W.kitOne X.K t (.type T)=some b/\Q (.bl b) H):=by intro M9 s σ H xs us Q I r h;obtain⟨x,T,t,b,rfl,ty,e,q⟩:=h;obtain⟨u,w',rfl,rx,ry⟩:=kP r;cases(show w'=Value.type T from ry);exact BK I rx ty e λtk=>#[.bl b,H,I.tok tk,rfl,q]
end
def isI:V->Bool
 |.int _=>true
 |.bl _=>true
 |_=>false
def isB:V->Bool
 |.bl _=>true
 |_=>false
theorem dC{K:W.Frag}{t T:String}{b:Bool}(h1:(Value.type t==Value.type T)=b)(h2:b=false->W.kitMeta T=true/\(PySem.fastBuiltinMro t).map (·.contains (Value.type T))=some false):W.kitOne K (.type t) (.type T)=some b:=by
 unfold W.kitOne;rw[h1];cases b with
 |true=>exact MO rfl
 |false =>rw[MN Zg];obtain⟨m,q⟩:=h2 rfl;show(if W.kitMeta T=true then W.subIn K (.type t) (.type T)else none)=_;rw[MO m];exact q
theorem bL{K:W.Frag}{t T:String}{b:Bool}(h1:(Value.type t==Value.type T)=false)(h2:W.kitMeta T=true)(h3:(PySem.fastBuiltinMro t).map (·.contains (Value.type T))=some b):W.kitOne K (.type t) (.type T)=some b:=by unfold W.kitOne;rw[h1,MN Zg];show(if W.kitMeta T=true then W.subIn K (.type t) (.type T)else none)=_;rw[MO h2];exact h3
theorem Fs{K:W.Frag}{H:Hp}{v:V}{n:String}(h:TyOf K H v (.type n)):W.kitOne K (.type n) (.type "int")=some (isI v):=by
 cases h with
 |non=>exact bL (b:=false) ⋯ ⋯ ⋯
 |bl x=>exact bL (b:=true) ⋯ ⋯ ⋯
 |int i=>exact dC (b:=true) ⋯ nofun
 |str x=>exact bL (b:=false) ⋯ ⋯ ⋯
 |flt x=>exact bL (b:=false) ⋯ ⋯ ⋯
 |lst e=>exact bL (b:=false) ⋯ ⋯ ⋯
 |frz e=>exact bL (b:=false) ⋯ ⋯ ⋯
 |tup e=>exact bL (b:=false) ⋯ ⋯ ⋯
 |dK e=>exact bL (b:=false) ⋯ ⋯ ⋯
 |dT e=>exact bL (b:=false) ⋯ ⋯ ⋯
theorem vb{K:W.Frag}{H:Hp}{v:V}{n:String}(h:TyOf K H v (.type n)):W.kitOne K (.type n) (.type "bool")=some (isB v):=by
 cases h with
 |non=>exact bL (b:=false) ⋯ ⋯ ⋯
 |bl x=>exact dC (b:=true) ⋯ nofun
 |int i=>exact bL (b:=false) ⋯ ⋯ ⋯
 |str x=>exact bL (b:=false) ⋯ ⋯ ⋯
 |flt x=>exact bL (b:=false) ⋯ ⋯ ⋯
 |lst e=>exact bL (b:=false) ⋯ ⋯ ⋯
 |frz e=>exact bL (b:=false) ⋯ ⋯ ⋯
 |tup e=>exact bL (b:=false) ⋯ ⋯ ⋯
 |dK e=>exact bL (b:=false) ⋯ ⋯ ⋯
 |dT e=>exact bL (b:=false) ⋯ ⋯ ⋯
theorem af{H:Hp}{p:MU}(h:H p=none)(o:HO):Same H (upd H p o):=λb u q=>by rw[ah (al q h)];exact q
theorem fz{K:W.Frag}{H H':Hp}{a:MU}{xs:List V}(e:Same H H')(h:SqT K H a xs):SqT K H' a xs:=by
 rcases h with(h|⟨o,h⟩)|h
 ·exact .inl (.inl (e _ _ h))
 ·exact .inl (.inr #[o,e _ _ h])
 ·exact .inr h
theorem fP{n:Nat}(h:n<=1000):n<=sizeLine:=Y6 (be h)
theorem sz{n:Nat}(h:Nat.ble n 1000=true):n<=sizeLine:=fP (Nat.le_of_ble_eq_true h)
theorem iY{J:It}{N n:Nat}{cap:List Nat}{te:TE}{σ:St}{H0:Hp}{Q:VK}(x0 f:Nat->V)(hz:N<=1000)(hgo:∀i H,i<N->Same H0 H->J.go i H)(hst:∀H,Same H0 H->J.stop N H)(hy:∀i H x H',i<N->Same H0 H->J.yld i H x H'->H'=H/\x=x0 i)(he:∀i H,i<N->Same H0 H->∀R:VK,(∀H',Same H H'->R (f i) H')->te ((bU n cap σ).set 0 (some (x0 i))) H R)(hq:∀p H,Same H0 H->H p=none->Q (.ref p) (upd H p (.lst ((List.range N).map f)))):dM n cap (bo 0) gw te σ J H0 Q:=by
 refine#[λi m ys H=>m=N-i/\i<=N/\Same H0 H/\ys=(List.range i).map f,#[N,by simp,ZU _,Same.refl _,rfl],?_];rintro i m ys H ⟨rfl,hi,sm,rfl⟩;by_cases hlt:i<N
 ·refine .inr #[hgo i H hlt sm,?_,λx H' y=>?_]
  ·rw[Zb,List.length_range];exact be ∅
  ·obtain⟨e1,e2⟩:=hy i H x H' hlt sm y;subst e1 e2;refine he i H' hlt sm _ λH4 sm4=>#[N-(i+1),∅,rfl,hlt,sm.trans sm4,?_]
   rw[List.range_succ,Zy];rfl
 ·have e:i=N:=∅
  subst e;exact .inl #[hst H sm,λp hp=>hq p H sm hp]
theorem Bj{K:W.Frag}{a:MU}{xs:List V}{n:Nat}{cap:List Nat}{te:TE}{σ:St}{H0:Hp}{Q:VK}(f:Nat->V)(hz:xs.length<=1000)(hl:SqL K H0 a xs)(he:∀i x H,xs[i]?=some x->Same H0 H->∀R:VK,(∀H',Same H H'->R (f i) H')->te ((bU n cap σ).set 0 (some x)) H R)(hq:∀p H,Same H0 H->H p=none->Q (.ref p) (upd H p (.lst ((List.range xs.length).map f)))):dM n cap (bo 0) gw te σ (Itl K a) H0 Q:=by
 refine iY (N:=xs.length) (λi=>(xs[i]?).getD .non) f hz (λi H hi sm=>#[xs,xs[i],sm.seq hl,by simp[hi]]) (λH sm=>#[xs,sm.seq hl,Za _]) (λi H x H' hi sm y=>#[y.1,?_]) (λi H hi sm R k=>?_) hq
 ·rw[y.2 xs (sm.seq hl)];rfl
 ·have e:xs[i]?=some xs[i]:=by simp[hi]
  rw[e];exact he i xs[i] H e sm R k
theorem uH{K:W.Frag}{a:MU}{xs:List V}{n:Nat}{cap:List Nat}{te:TE}{σ:St}{H0:Hp}{Q:VK}(f:Nat->V)(hz:xs.length<=1000)(hl:SqT K H0 a xs)(he:∀i x H,xs[i]?=some x->Same H0 H->∀R:VK,(∀H',Same H H'->R (f i) H')->te ((bU n cap σ).set 0 (some x)) H R)(hq:∀p H,Same H0 H->H p=none->Q (.ref p) (upd H p (.lst ((List.range xs.length).map f)))):dM n cap (bo 0) gw te σ (Itt K a) H0 Q:=by
 refine iY (N:=xs.length) (λi=>(xs[i]?).getD .non) f hz (λi H hi sm=>#[xs,xs[i],fz sm hl,by simp[hi]]) (λH sm=>#[xs,fz sm hl,Za _]) (λi H x H' hi sm y=>#[y.1,?_]) (λi H hi sm R k=>?_) hq
 ·rw[y.2 xs (fz sm hl)];rfl
 ·have e:xs[i]?=some xs[i]:=by simp[hi]
  rw[e];exact he i xs[i] H e sm R k
theorem yY{N n:Nat}{lo:Int}{cap:List Nat}{te:TE}{σ:St}{H0:Hp}{Q:VK}(f:Nat->V)(hz:N<=1000)(he:∀i H,i<N->Same H0 H->∀R:VK,(∀H',Same H H'->R (f i) H')->te ((bU n cap σ).set 0 (some (.int (lo+i)))) H R)(hq:∀p H,Same H0 H->H p=none->Q (.ref p) (upd H p (.lst ((List.range N).map f)))):dM n cap (bo 0) gw te σ (Itr lo N) H0 Q :=
 iY (N:=N) (λi=>.int (lo+i)) f hz (λ_ _ hi _=>hi) (λ_ _=>Za N) (λ_ _ _ _ _ _ y=>y) he hq
def aO:M8->Bool
 |.Starred _ _=>false
 |_=>true
theorem aS{e:M8}{es:List M8}{env:Env}(h:aO e=true):starEach (e::es) env=(false,eval e env)::starEach es env:=by cases e<;>first|rfl|cases h
theorem bp{env:Env}{pos:Pos}:∀{es:List M8},es.all aO=true->(backTo pos (starEach es env)).any (·.1)=false
 | [],_=>rfl
 |e::es,h=>by rw[YM,Zw]at h;rw[aS h.1];show(false ||(backTo pos (starEach es env)).any (·.1))=false;rw[Bool.false_or];exact bp h.2
section
variable{X:Cx}{x:Str}{p pos:Pos}{e:M8}{es:List M8}{te:TE}{t:TA}{id T:String}{r:List V->Hp->VK->Prop}{k:Nat}{ps:List Str}{sp:Sp}
theorem pa(ha:PE X e te)(hr:PA X es t)(hs:aO e=true:=by rfl):PA X (e::es) (fh te t):=FN ha hr (aS hs)
theorem pB(hc:cU X (.builtin id) r)(hm:X.mg x=none)(hv:bootBuiltins x=some (.builtin id))(ha:PA X (e::es) t)(hg:Gl X x:=by rfl)(hs:(e::es).all aO=true:=by rfl)(hn:x≠"__name__":=by decide)(hdb:(x==("__debug__":Str))=false:=by decide) :
  PE X (.Call (.Name x p) (e::es) [] pos) (tCB r t):=by
 rw[YM,Zw]at hs;exact DS hc hg hm hv ha hn hdb (aS hs.1) (bp hs.2)
theorem pTy(hc:cU X (.type T) r)(hm:X.mg x=none)(hv:bootBuiltins x=some (.type T))(ha:PA X (e::es) t)(hg:Gl X x:=by rfl)(hs:(e::es).all aO=true:=by rfl)(hn:x≠"__name__":=by decide)(hdb:(x==("__debug__":Str))=false:=by decide) :
  PE X (.Call (.Name x p) (e::es) [] pos) (tCB r t):=by
 rw[YM,Zw]at hs;exact Cm hc hg hm hv ha hn hdb (aS hs.1) (bp hs.2)
theorem pfn(F:Fn X.prog X.w X.K X.mg X.base k x ps sp)(hr:Room k X.A)(ha:PA X (e::es) t)(hg:Gl X x:=by rfl)(hs:(e::es).all aO=true:=by rfl)(hdb:(x==("__debug__":Str))=false:=by decide) :
  PE X (.Call (.Name x p) (e::es) [] pos) (tW sp [] E0 t):=by
 rw[YM,Zw]at hs;exact JG F hr ha hg hdb (aS hs.1) (bp hs.2)
end
structure QE(X:Cx)(e:M8)(t:TE):Prop where
 h:PE X e t
structure QT(X:Cx)(e:M8)(t:TT):Prop where
 h:PT X e t
structure QW(X:Cx)(e:M8)(t:TT):Prop where
 h:PW X e t
structure QA(X:Cx)(es:List M8)(t:TA):Prop where
 h:PA X es t
structure QS(X:Cx)(st:Stmt)(t:TS):Prop where
 h:PS X st t
structure QB(X:Cx)(st:List Stmt)(t:TS):Prop where
 h:PSs X st t
structure QG(X:Cx)(tg:M8)(g:TG):Prop where
 h:PG X tg g
structure QGs(X:Cx)(ts:List M8)(g:TGs):Prop where
 h:PGs X ts g
structure QI(X:Cx)(tg iter:M8)(wi:TI):Prop where
 h:PI X tg iter wi
structure QIf(X:Cx)(ifs:List M8)(t:TT):Prop where
 h:qk X ifs t
structure QO(X:Cx)(e:Option M8)(t:TO):Prop where
 h:PO X e t
structure QOp(X:Cx)(f:MW->MW->Sem MW)(r:R2):Prop where
 h:OpR X f r
structure QCall(X:Cx)(f:MW)(r:List V->Hp->VK->Prop):Prop where
 h:cU X f r
structure QIx(X:Cx)(r:R2):Prop where
 h:IxR X r
structure QSl(X:Cx)(r:V->Option Int->Option Int->Hp->VK->Prop):Prop where
 h:SlR X r
structure QSet(X:Cx)(t:ux):Prop where
 h:Dc X t
structure QUn(X:Cx)(f:MW->Sem MW)(r:V->Hp->VK->Prop):Prop where
 h:UnR X f r
structure QIp(X:Cx)(op:Operator)(t:TIp):Prop where
 h:PIp X op t
section
variable{X:Cx}{pos p:Pos}{e a b c o:M8}{es rest:List M8}{te ta tb tc:TE}{t:TA}{tA tB':TT}{x:Str}
theorem q_v(i:Nat){x:Str}{pos:Pos}(hN:X.N[i]?=some x:=by rfl)(hv:Vis X.env.scope x:=by first|exact Or.inl rfl|exact Or.inr (Or.inl rfl)|exact Or.inr (Or.inr rfl))(hd:(x==("__debug__":Str))=false:=by decide)(hcd:(x==("__classdict__":Str))=false:=by decide):QE X (.Name x pos) (tVar i):=#[HP hN hv hd hcd]
theorem ai{i:Int}{j:Nat}:QE X (.Constant (.int i) j pos) (tC (.int i)):=#[HH]
theorem eJ{i:Bool}{j:Nat}:QE X (.Constant (.bool i) j pos) (tC (.bl i)):=#[JE]
theorem aW{j:Nat}:QE X (.Constant .none j pos) (tC .non):=#[HJ]
theorem ar{i:Str}{j:Nat}:QE X (.Constant (.str i) j pos) (tC (.str i)):=#[HM]
theorem jp{T:String}(hm:X.mg x=none)(hv:bootBuiltins x=some (.type T))(hg:Gl X x:=by rfl)(hn:x≠"__name__":=by decide)(hd:(x==("__debug__":Str))=false:=by decide):QE X (.Name x pos) (tC (.ty T)):=#[FO hg hm hv rfl hn hd]
theorem iE{i:Int}{tk:Tok}(hm:X.mg x=some (.int i tk))(hg:Gl X x:=by rfl)(hd:(x==("__debug__":Str))=false:=by decide):QE X (.Name x pos) (tC (.int i)):=#[yj hg hm #[_,rfl] hd]
theorem bg{op:Operator}{r:R2}(ho:QOp X (binaryOp op) r)(ha:QE X a ta)(hb:QE X b tb):QE X (.BinOp a op b pos) (tOp r ta tb):=#[JI ho.h ha.h hb.h]
theorem cP{op}(h:QE X a ta):QE X (.BoolOp op [a] pos) ta:=#[HL h.h]
theorem cG(ha:QE X a ta)(hb:QE X (.BoolOp .And (b::rest) pos) tb):QE X (.BoolOp .And (a::b::rest) pos) (E5 ta tb):=#[HE ha.h hb.h]
theorem Ij(ha:QE X a ta)(hb:QE X (.BoolOp .Or (b::rest) pos) tb):QE X (.BoolOp .Or (a::b::rest) pos) (IJ ta tb):=#[JJ ha.h hb.h]
theorem tS(ha:QE X a ta):QE X (.UnaryOp .Not a pos) (E7 ta):=#[HK ha.h]
theorem cA{op:CmpOp}{r:R2}(ho:QOp X (compareOp op) r)(ha:QE X a ta)(hb:QE X b tb)(hm:behindInMarks op b=false:=by first|exact B4 _|with_unfolding_all rfl):QE X (.Compare a [op] [b] pos) (tOp r ta tb):=#[FQ ho.h ha.h hb.h hm]
theorem Gh{op op':CmpOp}{r r':R2}(ho:QOp X (compareOp op) r)(ho':QOp X (compareOp op') r')(ha:QE X a ta)(hb:QE X b tb)(hc:QE X c tc)(hm:lastMarks [op,op'] [b,c]=false:=by with_unfolding_all rfl) :
  QE X (.Compare a [op,op'] [b,c] pos) (pW r r' ta tb tc):=#[DU ho.h ho'.h ha.h hb.h hc.h hm]
theorem lJ(hc:QT X c tA)(ha:QE X a ta)(hb:QE X b tb):QE X (.IfExp c a b pos) (tIf tA ta tb):=#[DY hc.h ha.h hb.h]
theorem dX(h:QA X es t):QE X (.List es pos) (IF t):=#[HI h.h]
theorem aB{x1}(h:QA X es t):QE X (.Tuple es x1 pos) (Et t):=#[HN h.h]
theorem Ih:QE X (.Dict [] [] pos) CT:=#[DW]
theorem aq{r:R2}(hr:QIx X r)(ha:QE X a ta)(hb:QE X b tb)(hs:xz b:=by intro _ _;rfl):QE X (.Subscript a b pos) (tOp r ta tb):=#[JH hr.h ha.h hb.h hs]
theorem eL{r:V->Option Int->Option Int->Hp->VK->Prop}{lo hi:Option M8}{tl th:TO}{p2:Pos}(hr:QSl X r)(he:QE X e te)(hl:QO X lo tl)(hu:QO X hi th):QE X (.Subscript e (.Slice lo hi none p2) pos) (tSl r te tl th):=#[D4 hr.h he.h hl.h hu.h]
theorem eW:QO X none yz:=#[F7]
theorem dP(h:QE X e te):QO X (some e) (E8 te):=#[F8 h.h]
theorem ag:QA X [] ge:=#[Ci]
theorem q_a(ha:QE X e te)(hr:QA X es t)(hs:aO e=true:=by rfl):QA X (e::es) (fh te t):=#[pa ha.h hr.h hs]
theorem q_B{id:String}{r:List V->Hp->VK->Prop}(hc:QCall X (.builtin id) r)(hm:X.mg x=none)(hv:bootBuiltins x=some (.builtin id))(ha:QA X (e::es) t)(hg:Gl X x:=by rfl)(hs:(e::es).all aO=true:=by rfl)(hn:x≠"__name__":=by decide)(hdb:(x==("__debug__":Str))=false:=by decide) :
  QE X (.Call (.Name x p) (e::es) [] pos) (tCB r t):=#[pB hc.h hm hv ha.h hg hs hn hdb]
theorem ko{T:String}{r:List V->Hp->VK->Prop}(hc:QCall X (.type T) r)(hm:X.mg x=none)(hv:bootBuiltins x=some (.type T))(ha:QA X (e::es) t)(hg:Gl X x:=by rfl)(hs:(e::es).all aO=true:=by rfl)(hn:x≠"__name__":=by decide)(hdb:(x==("__debug__":Str))=false:=by decide) :
  QE X (.Call (.Name x p) (e::es) [] pos) (tCB r t):=#[pTy hc.h hm hv ha.h hg hs hn hdb]
theorem aw{k:Nat}{ps:List Str}{sp:Sp}(F:Fn X.prog X.w X.K X.mg X.base k x ps sp)(hr:Room k X.A)(ha:QA X (e::es) t)(hg:Gl X x:=by rfl)(hs:(e::es).all aO=true:=by rfl)(hdb:(x==("__debug__":Str))=false:=by decide) :
  QE X (.Call (.Name x p) (e::es) [] pos) (tW sp [] E0 t):=#[pfn F hr ha.h hg hs hdb]
theorem ax{op:CmpOp}{r:R2}(ho:QOp X (compareOp op) r)(ha:QE X a ta)(hb:QE X b tb)(hm:behindInMarks op b=false:=by first|exact B4 _|with_unfolding_all rfl):QT X (.Compare a [op] [b] pos) (pZ (tOp r ta tb)):=#[Gf ho.h ha.h hb.h hm]
theorem Gx{op op':CmpOp}{r r':R2}(ho:QOp X (compareOp op) r)(ho':QOp X (compareOp op') r')(ha:QE X a ta)(hb:QE X b tb)(hc:QE X c tc)(hm:lastMarks [op,op'] [b,c]=false:=by with_unfolding_all rfl) :
  QT X (.Compare a [op,op'] [b,c] pos) (pZ (pW r r' ta tb tc)):=#[Ed ho.h ho'.h ha.h hb.h hc.h hm]
theorem fj(ha:QT X a tA):QT X (.UnaryOp .Not a pos) (II tA):=#[Ib ha.h]
theorem bY(h:QE X e te)(he:∀whole,isTrue e X.env whole=(do let v ←whole;standAt e.pos;holding [v] (truthy v)):=by intro _;rfl):QT X e (tB te):=#[Ic h.h he]
theorem dN(ha:QT X a tA):QW X (.BoolOp .And [a] pos) tA:=#[Gg ha.h]
theorem fQ(ha:QT X a tA):QW X (.BoolOp .Or [a] pos) tA:=#[Ig ha.h]
theorem dY(ha:QT X a tA)(hb:QW X (.BoolOp .And (b::rest) pos) tB'):QW X (.BoolOp .And (a::b::rest) pos) (IC tA tB'):=#[Ie ha.h hb.h]
theorem gY(ha:QT X a tA)(hb:QW X (.BoolOp .Or (b::rest) pos) tB'):QW X (.BoolOp .Or (a::b::rest) pos) (tOr tA tB'):=#[JL ha.h hb.h]
theorem t_w(h:QW X e tA):QT X e tA:=#[h.h.pt]
end
section
variable{X:Cx}{pos:Pos}{tg iter elt:M8}{ifs:List M8}{g:TG}{gs:TGs}{tc:TT}{te:TE}{scope:Scope}{cap:List Nat}{capN own:List Str}{wi:TI}
theorem aA{i:Nat}{x:Str}(hN:X.N.Nodup)(hi:X.N[i]?=some x:=by rfl)(hx:Loc X.env.scope x:=by first|exact Or.inl rfl|exact Or.inr rfl)(hf:X.fn x=true\/X.env.scope.names.lookup x=some .local:=by first|exact .inl rfl|exact .inr rfl):QG X (.Name x pos) (bo i):=#[FU hN hi hx hf]
theorem eV:QGs X [] jY:=#[FV]
theorem bq{e:M8}{es:List M8}(h1:QG X e g)(h2:QGs X es gs)(hs:(assignEach (e::es) X.env).map (·.2)=assign e X.env::(assignEach es X.env).map (·.2):=by rfl):QGs X (e::es) (dS g gs):=#[D5 h1.h h2.h hs]
theorem gj{es:List M8}{k n:Nat}(hc:X.calm=true)(h:QGs X es gs)(hn:(assignEach es X.env).length=n:=by rfl)(hst:(assignEach es X.env).findIdx? (·.1)=none:=by rfl):QG X (.Tuple es k pos) (jZ X.K n gs):=#[HS hc h.h hn hst]
theorem zi{o i:M8}{to ti:TE}{t:ux}(ho:QE X o to)(hi:QE X i ti)(hs:QSet X t)(ha:∀ v,assign (.Subscript o i pos) X.env v=(do
   let ov ←holding [v] (eval o X.env)
   let iv ←holding [v,ov] (eval i X.env)
   standAt pos
   holding [v,ov,iv] (setItem ov iv v)
   release [v,ov,iv] []):=by intro _;rfl):QG X (.Subscript o i pos) (G4 to ti t):=#[HR ho.h hi.h hs.h ha]
theorem bz{l:M8}(hl:QE X l te):QI X tg l (EI X.K te):=#[FY hl.h]
theorem EL{l:M8}(hl:QE X l te):QI X tg l (G7 X.K te):=#[HU hl.h]
theorem BG{a:M8}{ta:TA}{p:Pos}(hm:X.mg "range" = none)(ha:QA X [a] ta)(hg:Gl X "range":=by rfl)(hs:aO a=true:=by rfl):QI X tg (.Call (.Name "range" p) [a] [] pos) (EJ ta):=#[Cn hg hm ha.h (aS hs)]
theorem ip:QIf X [] gw:=#[D8]
theorem jm{c:M8}{t:TT}(h:QT X c t):QIf X [c] t:=#[D9 h.h]
theorem cK(O:CompOk X scope cap capN)(hc:X.calm=true)(hi:QI X tg iter wi)(hg:∀C s0 H0 ex,QG (aU X scope (own++capN) C s0 H0 ex) tg g)(gk:GK own.length g)(ht:∀C s0 H0 ex,QIf (aU X scope (own++capN) C s0 H0 ex) ifs tc)(he:∀C s0 H0 ex,QE (aU X scope (own++capN) C s0 H0 ex) elt te)(hs:∀x,foldedSetIterable iter X.env x=pure x:=by intro _;rfl):QE X (.ListComp elt [#[tg,iter,ifs,0]] scope pos) (tX own.length cap wi g tc te) :=
 #[FR O hc hi.h (λC s0 H0 ex=>(hg C s0 H0 ex).h) gk (λC s0 H0 ex=>(ht C s0 H0 ex).h) (λC s0 H0 ex=>(he C s0 H0 ex).h) hs]
variable{st:Stmt}{rest:List Stmt}{t u:TS}{e c:M8}
theorem b_0:QB X [] pY:=#[Gd]
theorem b_1(h:QS X st t):QB X [st] t:=#[Ge h.h]
theorem b_c(h1:QS X st t)(h2:QB X rest u):QB X (st::rest) (AB t u):=#[Ec h1.h h2.h]
theorem am(h:QE X e te):QS X (.Return (some e) pos) (IK te):=#[HZ h.h]
theorem bP(h:QE X e te)(hs:swapsWith e none pos.line X.env=pure false:=by rfl):QS X (.Expr e pos) (Az te):=#[Gb h.h hs]
theorem aJ{body els:List Stmt}(hc:QT X c tc)(ht:QB X body t)(hu:QB X els u):QS X (.If c body els pos) (AA tc t u):=#[JK hc.h ht.h hu.h]
theorem aC{i:Nat}{x:Str}{pos':Pos}(hN:X.N.Nodup)(he:QE X e te)(hi:X.N[i]?=some x:=by rfl)(hx:Loc X.env.scope x:=by first|exact Or.inl rfl|exact Or.inr rfl)(hs:swapsWith e (some (.Name x pos')) pos.line X.env=pure false:=by rfl)(hf:X.fn x=true\/X.env.scope.names.lookup x=some .local:=by first|exact .inl rfl|exact .inr rfl):QS X (.Assign [.Name x pos'] e pos) (rE te (bo i)):=#[Ia hN hi hx he.h hs hf]
theorem jK{j:Nat}{y:Str}{py spos:Pos}(hN0:X.N.Nodup)(O:CompOk X scope cap capN)(hc:X.calm=true)(hi:QI X tg iter wi)(hg:∀C s0 H0 ex,QG (aU X scope (own++capN) C s0 H0 ex) tg g)(gk:GK own.length g)(ht:∀C s0 H0 ex,QIf (aU X scope (own++capN) C s0 H0 ex) ifs tc)(he:∀C s0 H0 ex,QE (aU X scope (own++capN) C s0 H0 ex) elt te)(hj:X.N[j]?=some y:=by rfl)(hy:Loc X.env.scope y:=by first|exact Or.inl rfl|exact Or.inr rfl)(hsw:swapsWith (.ListComp elt [#[tg,iter,ifs,0]] scope pos) (some (.Name y py)) spos.line X.env=pure true:=by rfl)(hs:∀x,foldedSetIterable iter X.env x=pure x:=by intro _;rfl)(hf:X.fn y=true\/X.env.scope.names.lookup y=some .local:=by first|exact .inl rfl|exact .inr rfl) :
  QS X (.Assign [.Name y py] (.ListComp elt [#[tg,iter,ifs,0]] scope pos) spos) (rE (tX own.length cap wi g tc te) (bo j)) :=
 #[Gc hN0 hj hy O hc hi.h (λC s0 H0 ex=>(hg C s0 H0 ex).h) gk (λC s0 H0 ex=>(ht C s0 H0 ex).h) (λC s0 H0 ex=>(he C s0 H0 ex).h) hsw hs hf]
theorem tU(he:QE X e te)(hg:QG X tg g)(hs:swapsWithSole [tg] e pos.line X.env=pure false:=by rfl)(hw:swappedStores [tg] e X.env=pure none:=by rfl)(h1:(assignEach [tg] X.env).map (·.2)=[assign tg X.env]:=by rfl):QS X (.Assign [tg] e pos) (rE te g):=#[HW he.h hg.h hs hw h1]
theorem cH{body:List Stmt}(hp:PassesOwn (model X.prog X.w) X.A X.env X.xe)(hc:X.calm=true)(hi:QI X tg iter wi)(hg:QG X tg g)(hb:QB X body t)(hs:∀x,foldedSetIterable iter X.env x=pure x:=by intro _;rfl):QS X (.For tg iter body [] pos) (IE wi g t):=#[HY hp hc hi.h hg.h hb.h hs]
theorem Gn{body:List Stmt}(hp:PassesOwn (model X.prog X.w) X.A X.env X.xe)(hc:QT X c tc)(hb:QB X body t):QS X (.While c body [] pos) (CW tc t):=#[Eb hp hc.h hb.h]
end
theorem Fun.okQ{P:MX}{w:MY}{K:W.Frag}{mg:MR}{base:Heap}{x qual:Str}{st:Stmt}{f:MU}{fd:M0}{N ps:List Str}{k:Nat}{sp:Sp}(F:Fun K x qual st f fd)(S:FnScope N ps (aj st))(len:∀ vs H Q E,sp vs H Q E->vs.length=ps.length)(hbody:∀ (cdv:MW) (A:MZ) (outer:List Env) (s:MV) (H:Hp) (vs:List V) (Q:VK) (E:XK),Room k (A.deeper (envOfC qual (aj st) s.heap.objs.size f cdv))->sp vs H Q E ->
   ∃ t,QB (fq CX0 P w K mg base N qual (aj st) f cdv A outer s H E).nox (bK st) t/\t { nx:=λ_ H'=>Q .non H',rt:=Q } (start N vs) H):↑FnOk CX0 (k+1) f fd ps sp :=
 F.ok S len λcdv A outer s H vs Q E hr hsp=>let⟨t,h,q⟩:=hbody cdv A outer s H vs Q E hr hsp;#[t,h.h,q]
section
variable{X:Cx}
theorem dU:QOp X (binaryOp .Add) (rI0 λi j=>.int (i+j)):=#[Hv]
theorem zI:QOp X (binaryOp .Sub) (rI0 λi j=>.int (i-j)):=#[HD]
theorem B7:QOp X (binaryOp .FloorDiv) (rI GG λi j=>.int (i / j)):=#[FI]
theorem je:QOp X (binaryOp .Mod) (rI (λ_ j=>0<j) λi j=>.int (i%j)):=#[Hz]
theorem Jv:QOp X (binaryOp .Pow) (rI GH λi j=>.int (i^j.toNat)):=#[HC]
theorem ES:QOp X (binaryOp .Add) rCat:=#[Hw]
theorem br:QOp X (compareOp .Eq) rEq:=#[Jx]
theorem lD:QOp X (compareOp .NotEq) rNe:=#[JC]
theorem qI:QOp X (compareOp .Lt) (rI0 λi j=>.bl (decide (i<j))):=#[JB]
theorem qH:QOp X (compareOp .LtE) (rI0 λi j=>.bl (decide (i<=j))):=#[JA]
theorem zH:QOp X (compareOp .Gt) (rI0 λi j=>.bl (decide (j<i))):=#[Jz]
theorem DK:QOp X (compareOp .GtE) (rI0 λi j=>.bl (decide (j<=i))):=#[Jy]
theorem pw:QOp X (compareOp .Is) (λx y H Q=>y=.non/\Q (.bl (decide (x=.non))) H):=#[Hy]
theorem iB:QOp X (compareOp .IsNot) (λx y H Q=>y=.non/\Q (.bl (!decide (x=.non))) H):=#[FJ]
theorem eS:QIx X (rIxL X.K):=#[Fp]
theorem ao:QIx X (rIxT X.K):=#[Hd]
theorem BQ:QSl X (rSlL X.K):=#[Gq]
theorem Av:QSet X EZ:=#[Eo]
theorem dR:QCall X (.builtin "len") (λxs H Q=>∃p ys,xs=[.ref p]/\(SqL X.K H p ys\/SqT X.K H p ys)/\Q (.int ys.length) H):=#[uD]
theorem gg:QCall X (.builtin "isinstance") (λxs H Q=>∃x T t b,xs=[x,.ty T]/\TyOf X.K H x t/\W.kitOne X.K t (.type T)=some b/\Q (.bl b) H):=#[Dl]
theorem jT(hc:X.calm=true):QCall X (.builtin "all") (λxs H Q=>∃(p:MU) (bs:List Bool),xs=[.ref p]/\SqL X.K H p (bs.map V.bl)/\Q (.bl (bs.all id)) H):=#[Dj hc]
theorem IZ(hc:X.calm=true):QCall X (.builtin "max") (λxs H Q=>∃i j,xs=[.int i,.int j]/\Q (.int (if j>i then j else i)) H):=#[Be hc]
theorem EF:QCall X (.type "tuple") (λxs H Q=>∃p ys,xs=[.ref p]/\((SqL X.K H p ys/\∀l,H l=none->Q (.ref l) (upd H l (.tup ys)))\/(SqT X.K H p ys/\Q (.ref p) H))):=#[sO]
theorem GT:QCall X (.type "list") (λxs H Q=>∃p ys,xs=[.ref p]/\(SqL X.K H p ys\/SqT X.K H p ys)/\∀l,H l=none->Q (.ref l) (upd H l (.lst ys))):=#[uE]
theorem EB:QCall X (.type "int") (λxs H Q=>(∃i,xs=[.int i]/\Q (.int i) H)\/∃k,xs=[.bl k]/\Q (.int (if k then 1 else 0)) H):=#[Bb]
end
mutual
def Dt(H:Hp):PyData->V->Prop
 |.none,v=>v=.non
 |.bool b,v=>v=.bl b
 |.int i,v=>v=.int i
 |.str x,v=>v=.str x
 |.list ds,v=>∃a xs,v=.ref a/\Rd H a (.lst xs)/\DtAll H ds xs
 |.tuple ds,v=>∃a xs,v=.ref a/\Rd H a (.tup xs)/\DtAll H ds xs
 |.dict _,_=>False
def DtAll(H:Hp):List PyData->List V->Prop
 | [],xs=>xs=[]
 |d::ds,xs=>∃y ys,xs=y::ys/\Dt H d y/\DtAll H ds ys
end
section
variable{P:MX}{w:MY}{H:Hp}{h:Heap}
mutual
theorem Dt.reads(ok:HOk P w H h):∀(d:PyData) (x:V) (v:MW),Dt H d x->RelV x v->∃as,Reads h v d as
 |.none,x,v,e,r=>by
  have e':x=.non:=by simpa only[Dt]using e
  subst e';cases r;exact#[_,.none]
 |.bool b,x,v,e,r=>by
  have e':x=.bl b:=by simpa only[Dt]using e
  subst e';cases r;exact#[_,.bool b]
 |.int i,x,v,e,r=>by
  have e':x=.int i:=by simpa only[Dt]using e
  subst e';obtain⟨t,rfl⟩:=r;exact#[_,.int i t]
 |.str z,x,v,e,r=>by
  have e':x=.str z:=by simpa only[Dt]using e
  subst e';obtain⟨t,rfl⟩:=r;exact#[_,.str z t]
 |.list ds,x,v,e,r=>by
  have e':∃a xs,x=.ref a/\Rd H a (.lst xs)/\DtAll H ds xs:=by simpa only[Dt]using e
  obtain⟨a,xs,rfl,hr,hd⟩:=e';cases r;obtain⟨_,its,n,rv,eo⟩:=hr.ok ok;obtain⟨as,q⟩:=DtAll.reads ok ds xs its hd rv;exact#[_,.list eo rfl rfl (by simpa using q)]
 |.tuple ds,x,v,e,r=>by
  have e':∃a xs,x=.ref a/\Rd H a (.tup xs)/\DtAll H ds xs:=by simpa only[Dt]using e
  obtain⟨a,xs,rfl,hr,hd⟩:=e';cases r;obtain⟨_,its,rv,o,eo,hc,n,hs⟩:=hr.ok ok;obtain⟨as,q⟩:=DtAll.reads ok ds xs its hd rv;exact#[_,.tuple eo hc hs (by simpa using q)]
 |.dict kvs,x,v,e,r=>by
  have e':False:=by simpa only[Dt]using e
  exact e'.elim
theorem DtAll.reads(ok:HOk P w H h):∀(ds:List PyData) (xs:List V) (vs:MT),DtAll H ds xs->Vals xs vs->∃as,ReadsAll h vs ds as
 | [],xs,vs,e,r=>by
  have e':xs=[]:=by simpa only[DtAll]using e
  subst e';cases r;exact#[_,.nil]
 |d::ds,xs,vs,e,r=>by
  have e':∃y ys,xs=y::ys/\Dt H d y/\DtAll H ds ys:=by simpa only[DtAll]using e
  obtain⟨y,ys,rfl,h1,h2⟩:=e';cases r with
  |cons r1 r2 =>obtain⟨as,q1⟩:=Dt.reads ok d y _ h1 r1;obtain⟨bs,q2⟩:=DtAll.reads ok ds ys _ h2 r2;exact#[_,.cons q1 q2]
end
end
theorem jD{H:Hp}:∀(ns:M5),DtAll H (ns.map PyData.int) (ns.map V.int)
 | []=>by simp only[List.map_nil,DtAll]
 |n::ns=>by simp only[Z1,DtAll];exact#[_,_,rfl,by simp only[Dt],jD ns]
section
variable{X:Cx}
inductive rEqD  (x:V)(y:V)(H:Hp)(Q:VK):Prop
 |mk (dx dy:_) (h0:Dt H dx x) (h1:Dt H dy y) (h2:SeqAt.shaped dx=true) (h3:SeqAt.shaped dy=true) (h4:Q (.bl (PyData.eqv dx dy)) H):rEqD  x y H Q
inductive rNeD  (x:V)(y:V)(H:Hp)(Q:VK):Prop
 |mk (dx dy:_) (h0:Dt H dx x) (h1:Dt H dy y) (h2:SeqAt.shaped dx=true) (h3:SeqAt.shaped dy=true) (h4:Q (.bl (!PyData.eqv dx dy)) H):rNeD  x y H Q
theorem Ce(hu:X.A.units+64<cLine):OpR X (compareOp .Eq) rEqD:=by intro M9 s σ H x y v u Q I rx ry h;obtain⟨dx,dy,h1,h2,s1,s2,q⟩:=h;obtain⟨as,r1⟩:=Dt.reads I.hok dx x v h1 rx;obtain⟨bs,r2⟩:=Dt.reads I.hok dy y u h2 ry;exact eq_dataH r1 r2 s1 s2 hu #[.bl _,H,I,rfl,q]
theorem Cg(hu:X.A.units+64<cLine):OpR X (compareOp .NotEq) rNeD:=by intro M9 s σ H x y v u Q I rx ry h;obtain⟨dx,dy,h1,h2,s1,s2,q⟩:=h;obtain⟨as,r1⟩:=Dt.reads I.hok dx x v h1 rx;obtain⟨bs,r2⟩:=Dt.reads I.hok dy y u h2 ry;exact ne_dataH r1 r2 s1 s2 hu #[.bl _,H,I,rfl,q]
theorem ET(hu:X.A.units+64<cLine):QOp X (compareOp .Eq) rEqD:=#[Ce hu]
theorem EU(hu:X.A.units+64<cLine):QOp X (compareOp .NotEq) rNeD:=#[Cg hu]
end
section
variable{X:Cx}
variable{o e:M8}{to te:TE}{apos cpos:Pos}
theorem hG(ho:QE X o to)(he:QE X e te)(hs:aO e=true:=by rfl)(hbase:attributeBase o "append" X.env (eval o X.env)=eval o X.env:=by rfl)(hline:(apos.endLine==cpos.line)=true:=by rfl) :
  QE X (.Call (.Attribute o "append" apos) [e] [] cpos) (tBM X.K "list" rAppend to (fh te ge)):=by
 have h1:=aS (es:=[]) (env:=X.env) hs;have h2:starEach ([]:List M8) X.env=[]:=rfl;refine#[JF PySem.F.plainAttrs_list PySem.F.slot_list_append PySem.F.type_list_append B0 ho.h (pa he.h Ci hs) hbase ?_ hline h1 (by rw[h2];rfl)];rw[h1,h2];rfl
end
theorem qD{i j:Int}{A B:Prop}(h1:i=j->A)(h2:i≠j->B):if decide (V.int i=V.int j)=true then A else B:=by
 by_cases h:i=j
 ·rw[MO (decide_eq_true (by rw[h]))];exact h1 h
 ·rw[MN (by rw[decide_eq_false (λz=>h (by injection z))];exact Zg)];exact h2 h
theorem dH{H H':Hp}{p:MU}{o:HO}(e:Same H H')(h:H p=none):Same H (upd H' p o):=λb u q=>by rw[ah (al q h)];exact e _ _ q
theorem uV{n:Nat}{i:Int}(h0:0<=i)(h1:i<n):ixN n i=some i.toNat:=by unfold ixN;rw[MO h0,MO h1]
def au(ns:M5)(k:Nat):Int:=(ns[k]?).getD 0
theorem dq{ns:M5}{k:Int}(h0:0<=k)(h1:k<ns.length):atI (ns.map V.int) k=some (.int (au ns k.toNat)):=by
 have hk:k.toNat<ns.length:=∅
 have ek:k=((k.toNat:Nat):Int):=∅
 have q:atI (ns.map V.int) ((k.toNat:Nat):Int)=some (.int ns[k.toNat]):=fD (by rw[ZE,Zj hk]<;>rfl);rw[<-ek]at q;rw[q];unfold au;rw[Zj hk];rfl
theorem Dm{ns:M5}{k:Int}(h0:0<=k)(h1:¬k<ns.length):au ns k.toNat=0:=by unfold au;rw[List.getElem?_eq_none ∅];rfl
section
variable{prog:MX}{w:MY}{A:MZ}
theorem gh(calm:A.handled=none)(it t:MU)(apart:t≠it)(xs:Array MW) :
  Draws prog w A it [it,t] xs.size (λi v=>xs[i]?=some v) (λi h=>h.IsTupleIter it t i/\h.IsTuple t xs) where
 live:=λ_ _ q=>let⟨o,eo,_⟩:=q.1;#[o,eo]
 frame:=λ_ _ _ q kp=>#[let⟨o,eo,r⟩:=q.1;#[o,kp it (by simp) o eo,r],let⟨o,eo,r⟩:=q.2;#[o,kp t (by simp) o eo,r]]
 item:=λi s Q E lt q cont=>by
  have ei:xs[i]?=some xs[i]:=by simp[lt]
  obtain⟨o,eo,ec,ed⟩:=id q.1;obtain⟨p,ep,_,np,edp⟩:=id q.2;have ty:=q.1.typeIs;unfold Builtin.SmallTypes.nextOf;refine z0 (ZA (name:=Str.ofString "__next__") ty F.slot_tuple_iterator_next (ZK F.slot_tuple_iterator_next ty F.entry_tuple_iterator_next ?_ (F.args_tuple_iterator_next_1 _)));show wpAny _ _ (field (.ref it) 0 >>= _) _ _ s;refine z0 (ZO eo ed (x:=.ref t) rfl ?_);show wpAny _ _ (if(Value.ref t==Value.none)=true then _ else _) _ _ s;rw[MN (show¬((Value.ref t==Value.none)=true)from Zg)];show wpAny _ _ (field (.ref it) 1 >>= _) _ _ s;refine z0 (ZO eo ed (x:=.int i 0) rfl ?_);show wpAny _ _ (seqItems? (.ref t) >>= _) _ _ s;refine z0 (Z8 ep edp ?_);simp only[ZJ,ei];have sb:=ZT s.heap it (λob=>ob.mapFields λfs=>fs.setIfInBounds 1 (rawInt (i+1)));refine z0 (Yo eo ed (by simp) (z9 #[xs[i],rfl,z9 (cont _ _ s.toks ei #[?_,?_] (ZT ..))]))
  ·exact#[_,ZZ _ eo (Yz (Z4 ed _)),(Obj.cls_mapFields ..).trans ec,by rw[Z4 ed];simp[rawInt]]
  ·exact q.2.extBut (ZT ..).extBut apart
 done:=λs Q E q cont=>by
  have ei:xs[xs.size]?=none:=by simp
  obtain⟨o,eo,ec,ed⟩:=id q.1;obtain⟨p,ep,_,np,edp⟩:=id q.2;have ty:=q.1.typeIs;unfold Builtin.SmallTypes.nextOf;refine z0 (ZA (name:=Str.ofString "__next__") ty F.slot_tuple_iterator_next (ZK F.slot_tuple_iterator_next ty F.entry_tuple_iterator_next ?_ (F.args_tuple_iterator_next_1 _)));show wpAny _ _ (field (.ref it) 0 >>= _) _ _ s;refine z0 (ZO eo ed (x:=.ref t) rfl ?_);show wpAny _ _ (if(Value.ref t==Value.none)=true then _ else _) _ _ s;rw[MN (show¬((Value.ref t==Value.none)=true)from Zg)];show wpAny _ _ (field (.ref it) 1 >>= _) _ _ s;refine z0 (ZO eo ed (x:=.int xs.size 0) rfl ?_);show wpAny _ _ (seqItems? (.ref t) >>= _) _ _ s;refine z0 (Z8 ep edp ?_);simp only[ZJ,ei];refine z0 (Y4 (z0 (Yo eo ed (by simp) ?_)));show wpAny _ _ (newExc (.type "StopIteration") [] >>= _) _ _ _;refine z0 ?_;simp only[newExc,newTuple];refine z0 (ZD ?_ (by size_fits));refine z0 (m:=firstArgMember _ _) (Y5 (a:=Value.none) (by first|rfl|(simp only[firstArgMember];rfl)) (ZD ?_ (by size_fits)));simp only[raiseNew];refine z0 (wpAny_handled ?_)
  first|rw[show A.in1.handled=none from calm]|rw[calm]
  exact z0 (z9 (wpAny_throw (cont _ _ (((ZT ..).extBut.push _).push _) #[_,Ze _ rfl,rfl])))
end
structure ZAp(z u v i j:MU)(f g:List MU):Prop where
 uz:u≠z
 vz:v≠z
 uv:u≠v
 ui:u≠i
 uj:u≠j
 vi:v≠i
 vj:v≠j
 iz:i≠z
 jz:j≠z
 ij:i≠j
 zf:z∉f
 zg:z∉g
 vf:v∉f
 vg:v∉g
 jf:j∉f
 ig:i∉g
section
variable{prog:MX}{w:MY}{A:MZ}{E:MQ}{s:MV}{z u v i j:MU}{f g:List MU}{n m k:Nat}{P1 P2:Nat->MW->Prop}{S1 S2:Nat->Heap->Prop}{a b:MW}
def yR(z v i j:MU)(h h':Heap):Prop:=∀c o,c≠z->c≠v->c≠i->c≠j->h.get? c=some o->h'.get? c=some o
theorem eE{c:MU}{f:List MU}{d:MU}(hc:c∈f)(hd:d∉f):c≠d:=λe=>hd (e▸hc)
theorem wF(d1:Draws prog w A i f n P1 S1)(d2:Draws prog w A j g m P2 S2)(ap:ZAp z u v i j f g)(hz:IsZip s.heap z u v .none)(hu:IsPair s.heap u (.ref i) (.ref j))(hv:IsPair s.heap v a b)(h1:S1 k s.heap)(h2:S2 k s.heap)(l1:k<n)(l2:k<m){Q:MQ}(cont:∀h' tk x y,P1 k x->P2 k y->IsZip h' z u v (rawInt s.heap.objs.size)->IsPair h' v x y->S1 (k+1) h'->S2 (k+1) h'->IsPair h' s.heap.objs.size x y->yR z v i j s.heap h'->Q (.ref s.heap.objs.size) { s with heap:=h',toks:=tk }) :
  wpAny (model prog w) A (Builtin.«zip.__next__» #[[.ref z],[]]) (λfin s'=>∃r,fin=.done (.ret r)/\Q r s') E s:=by
 show wpAny _ _ (field (.ref z) 2 >>= _) _ _ _;refine z0 (ZO hz rfl (x:=.bool false) rfl ?_);show wpAny _ _ (field (.ref z) 3 >>= _) _ _ _;refine z0 (ZO hz rfl (x:=.ref u) rfl (z0 (Z8 hu rfl ?_)));show wpAny _ _ (Builtin.SmallTypes.ownedTupleIsFree (.ref z) >>= _) _ _ _;refine z0 ?_;unfold Builtin.SmallTypes.ownedTupleIsFree;refine z0 (ZO hz rfl (x:=.none) rfl (z9 ?_));simp only[if_true];refine z0 (Y4 (z0 (ZO hz rfl (x:=.ref v) rfl ?_)));refine z0 (wpAny_setField_rec hz (by simp) λq1 z1 b1=>?_)
 replace z1:IsZip q1 z u v .ellipsis:=z1
 refine z0 ?_;simp only[List.zipIdx_cons,List.zipIdx_nil,List.forIn_cons,List.forIn_nil];refine z0 (z0 (wpAny_onRaise ?_));show wpAny _ _ (Builtin.SmallTypes.nextOf (.ref i) >>= _) _ _ _;refine z0 (d1.item k { s with heap:=q1 } _ _ l1 (d1.frame _ _ _ h1 λc hc o e=>b1.extBut c o (eE hc ap.zf) e) λx q2 t2 px s2 b2=>z9 ?_);have v2:IsPair q2 v a b:=b2.extBut _ _ ap.vi (b1.extBut _ _ ap.vz hv);refine z0 (Z8 v2 rfl (z0 (wpAny_updateSeq_pair v2 λq3 w3 b3=>?_)))
 replace w3:IsPair q3 v x b:=w3
 refine z0 (YK (z9 ?_));refine z0 (z0 (wpAny_onRaise ?_));show wpAny _ _ (Builtin.SmallTypes.nextOf (.ref j) >>= _) _ _ _;refine z0 (d2.item k { s with heap:=q3,toks:=t2 } _ _ l2 (d2.frame _ _ _ h2 λc hc o e=>b3.extBut c o (eE hc ap.vg) (b2.extBut c o (eE hc ap.ig) (b1.extBut c o (eE hc ap.zg) e))) λy q4 t4 py s4 b4=>z9 ?_);have v4:IsPair q4 v x b:=b4.extBut _ _ ap.vj w3;refine z0 (Z8 v4 rfl (z0 (wpAny_updateSeq_pair v4 λq5 w5 b5=>?_)))
 replace w5:IsPair q5 v x y:=w5
 refine z0 (YK (z9 (z9 (z0 (Z8 w5 rfl (z0 (wpAny_newTuple ?_)))))));have sz:q5.objs.size=s.heap.objs.size:=by rw[b5.1,b4.1,b3.1,b2.1,b1.1]
 have z5:IsZip q5 z u v .ellipsis:=b5.extBut _ _ ap.vz.symm (b4.extBut _ _ ap.jz.symm (b3.extBut _ _ ap.vz.symm (b2.extBut _ _ ap.iz.symm z1)));have k5:yR z v i j s.heap q5:=λc o c1 c2 c3 c4 e=>b5.extBut _ _ c2 (b4.extBut _ _ c4 (b3.extBut _ _ c2 (b2.extBut _ _ c3 (b1.extBut _ _ c1 e))));have s5:S1 (k+1) q5:=d1.frame _ _ _ s2 λc hc o e=>b5.extBut c o (eE hc ap.vf) (b4.extBut c o (eE hc ap.jf) (b3.extBut c o (eE hc ap.vf) e));have r5:S2 (k+1) q5:=d2.frame _ _ _ s4 λc hc o e=>b5.extBut c o (eE hc ap.vg) e;have zlt:z<q5.objs.size:=Zh z5;show wpAny _ _ (Builtin.SmallTypes.ownedTupleHandOut (.ref z) (.ref q5.objs.size) >>= _) _ _ _;refine z0 ?_;unfold Builtin.SmallTypes.ownedTupleHandOut;refine z0 (wpAny_setField_rec (show IsZip (q5.push { cls:=.type "tuple",data:=.seq (List.toArray [x,y]) }) z u v .ellipsis from z6 _ z5) (by simp) λq7 z7 b7=>?_)
 replace z7:IsZip q7 z u v (rawInt q5.objs.size):=z7
 refine wpAny_setField_rec z7 (by simp) λq8 z8 b8=>?_
 replace z8:IsZip q8 z u v (rawInt q5.objs.size):=z8
 have up:∀c o,c≠z->q5.get? c=some o->q8.get? c=some o:=λc o c1 e=>b8.extBut _ _ c1 (b7.extBut _ _ c1 (z6 _ e));have p8:IsPair q8 q5.objs.size x y:=b8.extBut _ _ (ZY zlt) (b7.extBut _ _ (ZY zlt) (Ze _ rfl));rw[sz]at z8 p8;refine z9 #[_,rfl,?_];show Q (.ref q5.objs.size) _;rw[sz];exact cont q8 _ x y px py z8 (up _ _ ap.vz w5) (d1.frame _ _ _ s5 λc hc o e=>up c o (eE hc ap.zf) e) (d2.frame _ _ _ r5 λc hc o e=>up c o (eE hc ap.zg) e) p8 λc o c1 c2 c3 c4 e=>up c o c1 (k5 c o c1 c2 c3 c4 e)
theorem yB(d1:Draws prog w A i f n P1 S1)(d2:Draws prog w A j g m P2 S2)(ap:ZAp z u v i j f g)(hz:IsZip s.heap z u v .none)(hu:IsPair s.heap u (.ref i) (.ref j))(hv:IsPair s.heap v a b)(h1:S1 n s.heap){Q:Fin->MV->Prop}(cont:∀h' e,yR z v i j s.heap h'->(∃o,h'.get? e=some o/\o.cls=.type "StopIteration")->E (.ref e) { s with heap:=h' }):wpAny (model prog w) A (Builtin.«zip.__next__» #[[.ref z],[]]) Q E s:=by
 show wpAny _ _ (field (.ref z) 2 >>= _) _ _ _;refine z0 (ZO hz rfl (x:=.bool false) rfl ?_);show wpAny _ _ (field (.ref z) 3 >>= _) _ _ _;refine z0 (ZO hz rfl (x:=.ref u) rfl (z0 (Z8 hu rfl ?_)));show wpAny _ _ (Builtin.SmallTypes.ownedTupleIsFree (.ref z) >>= _) _ _ _;refine z0 ?_;unfold Builtin.SmallTypes.ownedTupleIsFree;refine z0 (ZO hz rfl (x:=.none) rfl (z9 ?_));simp only[if_true];refine z0 (Y4 (z0 (ZO hz rfl (x:=.ref v) rfl ?_)));refine z0 (wpAny_setField_rec hz (by simp) λq1 z1 b1=>?_)
 replace z1:IsZip q1 z u v .ellipsis:=z1
 refine z0 ?_;simp only[List.zipIdx_cons,List.zipIdx_nil,List.forIn_cons,List.forIn_nil];refine z0 (z0 (wpAny_onRaise ?_));show wpAny _ _ (Builtin.SmallTypes.nextOf (.ref i) >>= _) _ _ _;refine z0 (d1.done { s with heap:=q1 } _ _ (d1.frame _ _ _ h1 λc hc o e=>b1.extBut c o (eE hc ap.zf) e) λq2 e b2 he=>?_);obtain⟨oe,hoe,hce⟩:=he;have z2:IsZip q2 z u v .ellipsis:=b2 _ _ ap.iz.symm z1;have ez:e≠z:=λx=>by subst x;rw[z2]at hoe;cases hoe;simp at hce
 exact wpAny_setField_rec z2 (by simp) λq3 _ b3=>cont q3 e (λc o c1 _ c3 _ x=>b3.extBut _ _ c1 (b2 _ _ c3 (b1.extBut _ _ c1 x))) #[oe,b3.extBut _ _ ez hoe,hce]
end
section
variable{X:Cx}{M9:MP}{σ:St}{H:Hp}{s:MV}{h':Heap}{ch:List MU}{t':Nat}
theorem Inv.turnH{H':Hp}(I:Inv X M9 σ H s)(hch:∀b∈ch,bG X M9 H b)(kp:∀b o,b∉ch->s.heap.get? b=some o->h'.get? b=some o)(up:∀b u,H b=some u->H' b=some u)(dn:∀b o,s.heap.get? b=some o->H b=none->H' b=none)(hok:HOk X.prog X.w H' h') :
  Inv X M9 σ H' { s with heap:=h',toks:=t' }:=by
 refine I.step (g':=s.gens) (d':=s.drawn) (ch:=ch) (λb hb=>?_) (λb o _ _ hc e _=>kp b o hc e) (λb o _ _ hc e _=>#[o.slots,kp b o hc e]) (λb o _ e n=>dn b o e n) (λb o hc e=>#[o,kp b o hc e]) (λb xs e=>up _ _ e) (λb o u e=>up _ _ e) (λb ps e=>#[#[],by rw[up _ _ e];simp]) (λm hm=>?_) hok I.bare
 ·obtain⟨f0,f1,f2,f3,f4,f5⟩:=hch b hb;exact#[f3,f1,f4,f5]
 ·obtain⟨o,es,ep,ho,r⟩:=hm;exact#[o,es,ep,kp _ o (λz=>(hch _ z).2.1 rfl) ho,r]
theorem uR(I:Inv X M9 σ H s)(hch:∀b∈ch,bG X M9 H b)(kp:∀b o,b∉ch->s.heap.get? b=some o->h'.get? b=some o):HOk X.prog X.w H h':=λb u e=>by
 have nin:∀{c:MU} {q:HO},H c=some q->c∉ch:=fun{c q} e z=>by rw[(hch c z).1]at e;cases e
 refine(I.hok b u e).stay (λc v hc q=>kp c v ?_ q) (λ_ q=>q) λ_ _ q=>q;rcases hc with z|z
 ·rw[z];exact nin e
 ·exact nin z
theorem Inv.turnM(I:Inv X M9 σ H s)(hch:∀b∈ch,bG X M9 H b)(kp:∀b o,b∉ch->s.heap.get? b=some o->h'.get? b=some o):Inv X M9 σ H { s with heap:=h',toks:=t' } :=
 I.turnH hch kp (λ_ _ e=>e) (λ_ _ _ n=>n) (uR I hch kp)
theorem Inv.turnT{xs:List V}{its:MT}(I:Inv X M9 σ H s)(hch:∀b∈ch,bG X M9 H b)(kp:∀b o,b∉ch->s.heap.get? b=some o->h'.get? b=some o)(hp:IsTup h' s.heap.objs.size its.toArray)(rv:Vals xs its)(hz:xs.length<=sizeLine) :
  Inv X M9 σ (upd H s.heap.objs.size (.tup xs)) { s with heap:=h',toks:=t' }:=by
 have fr:=I.hok.fresh (Za s.heap.objs.size);have ne:∀{b:MU} {u:HO},H b=some u->b≠s.heap.objs.size:=fun{b u} e=>al e fr;have hk:=uR I hch kp;refine I.turnH hch kp (λb u e=>by rw[ah (ne e)];exact e) (λb o e n=>by rw[ah (Zo (Zh e))];exact n) λb u e=>?_;by_cases hb:b=s.heap.objs.size
 ·subst hb;rw[ad]at e;cases e;exact#[hz,its,rv,hp]
 ·rw[ah hb]at e;exact(hk b u e).stay (λ_ _ _ q=>q) (λc q=>by rw[ah (ne q)];exact q) λc ys q=>by rw[ah (ne q)];exact q
end
def Itz(K:W.Frag)(a b:MU)(xs ys:List V):It :=
 #[λi H=>i<xs.length/\SqT K H a xs/\SqT K H b ys,λi H x H'=>∃T p q,H T=none/\xs[i]?=some p/\ys[i]?=some q/\x=.ref T/\H'=upd H T (.tup [p,q]),λi H=>i=xs.length/\SqT K H a xs/\SqT K H b ys]
abbrev zTn(z u v i1 i2 a b:MU):Nat->Heap->Prop:=λi h=>IsZip h z u v .none/\IsPair h u (.ref i1) (.ref i2)/\(∃p q,IsPair h v p q)/\h.IsTupleIter i1 a i/\h.IsTupleIter i2 b i
theorem Ex{P:MX}{w:MY}{K:W.Frag}{elts:List M8}{kt:Nat}{tp:Pos}{z u v i1 i2 a b:MU}{xs ys:List V}(hl:xs.length=ys.length)(D:[z,u,v,i1,i2].Nodup)(ha:∀c∈[z,u,v,i1,i2],c≠a/\c≠b) :
  Turn P w K (.Tuple elts kt tp) (Itz K a b xs ys) [z,u,v,i1,i2] z (zTn z u v i1 i2 a b):=by
 have nd:(z≠u/\z≠v/\z≠i1/\z≠i2)/\(u≠v/\u≠i1/\u≠i2)/\(v≠i1/\v≠i2)/\i1≠i2:=by simpa using D
 obtain⟨⟨zu,zv,z1,z2⟩,⟨uv,u1,u2⟩,⟨v1,v2⟩,i12⟩:=nd;have az:=ha z (by simp);have av:=ha v (by simp);have a1:=ha i1 (by simp);have a2:=ha i2 (by simp);have ap:ZAp z u v i1 i2 [i1,a] [i2,b]:=#[zu.symm,zv.symm,uv,u1,u2,v1,v2,z1.symm,z2.symm,i12,by simp[z1,az.1],by simp[z2,az.2],by simp[v1,av.1],by simp[v2,av.2],by simp[i12.symm,a2.1],by simp[i12,a1.2]]
 refine#[by simp,λi h st c hc=>?_,λi h h' st k=>?_,?_,?_,λA i s Q E st h=>wpAny_pyIter_zip st.1 h]
 ·obtain⟨e1,e2,⟨p,q,e3⟩,⟨o4,e4,_,d4⟩,⟨o5,e5,_,d5⟩⟩:=st;simp only[Zl,ZB,Yg]at hc;rcases hc with rfl|rfl|rfl|rfl|rfl
  ·exact#[_,e1,λv z=>nomatch z]
  ·exact#[_,e2,λv z=>nomatch z]
  ·exact#[_,e3,λv z=>nomatch z]
  ·exact#[_,e4,λv z=>by rw[d4]at z;cases z]
  ·exact#[_,e5,λv z=>by rw[d5]at z;cases z]
 ·obtain⟨e1,e2,⟨p,q,e3⟩,⟨o4,e4,r4⟩,⟨o5,e5,r5⟩⟩:=st;exact#[k z (by simp) _ e1,k u (by simp) _ e2,#[p,q,k v (by simp) _ e3],#[o4,k i1 (by simp) _ e4,r4],#[o5,k i2 (by simp) _ e5,r5]]
 ·intro X hP hw hK hc i M9 s σ H E I hf st hg;subst hP hw hK;obtain⟨e1,e2,⟨p,q,e3⟩,e4,e5⟩:=st;obtain⟨hi,hx,hy⟩:=hg;obtain⟨its,rx,px,zx⟩:=I.tuple hx;obtain⟨jts,ry,py,zy⟩:=I.tuple hy;have lx:i<its.toArray.size:=by rw[Zf,<-rx.length];exact hi
  have ly:i<jts.toArray.size:=by rw[Zf,<-ry.length,<-hl];exact hi
  have hh:=I.ok.hd hc;have hT:s.TypeIs (.ref z) "zip":=#[_,e1,rfl]
  unfold pyNext;refine z0 (YE (ZA (name:=Str.ofString "__next__") hT YT (ZK YT hT F.entry_zip_next
   (wF (gh (A:=X.A.in1) hh i1 a a1.1.symm its.toArray) (gh (A:=X.A.in1) hh i2 b a2.2.symm jts.toArray) ap e1 e2 e3 #[e4,px] #[e5,py] lx ly λh' tk x y qx qy zz vv s1 s2 pp kp=>z9 ?_) (F.args_zip_next_1 _))))
  refine#[_,rfl,wpAny_letOwnedTupleGo_zip (s:={ s with heap:=h',toks:=tk }) zz λh2 z2' sb=>?_];obtain⟨xv,ex⟩:∃xv,xs[i]?=some xv:=#[xs[i],by simp[hi]]
  obtain⟨yv,ey⟩:∃yv,ys[i]?=some yv:=#[ys[i]'∅,by simp[show i<ys.length by omega]]
  obtain⟨x',gx,rxv⟩:=rx.get ex;obtain⟨y',gy,ryv⟩:=ry.get ey;have qx':its[i]?=some x:=by simpa using qx
  have qy':jts[i]?=some y:=by simpa using qy
  rw[gx]at qx';rw[gy]at qy';cases qx';cases qy';have ltz:z<s.heap.objs.size:=Zh e1;have kp2:∀c o,c∉[z,u,v,i1,i2]->s.heap.get? c=some o->h2.get? c=some o:=λc o hc e=>by simp only[Zl,ZB,Yg,not_or]at hc;exact sb.extBut c o hc.1 (kp c o hc.1 hc.2.2.1 hc.2.2.2.1 hc.2.2.2.2 e)
  have tT:IsTup h2 s.heap.objs.size [x,y].toArray:=#[_,sb.extBut _ _ (ZY ltz) pp,rfl,_,rfl]
  refine#[.ref s.heap.objs.size,upd H s.heap.objs.size (.tup [xv,yv]),I.turnT (t':=tk) hf kp2 tT (.cons rxv (.cons ryv .nil)) (sz rfl),rfl,#[_,xv,yv,I.hok.fresh (Za _),ex,ey,rfl,rfl],?_,λc hc=>?_]
  ·exact#[z2',sb.extBut _ _ zu.symm (kp _ _ zu.symm uv u1 u2 e2),#[_,_,sb.extBut _ _ zv.symm vv],s1.1.extBut sb.extBut z1.symm,s2.1.extBut sb.extBut z2.symm]
  ·rw[ah]
   ·exact(hf c hc).1
   ·obtain⟨o,eo,_⟩:∃o,s.heap.get? c=some o/\True:=by
     simp only[Zl,ZB,Yg]at hc;rcases hc with rfl|rfl|rfl|rfl|rfl
     ·exact#[_,e1,trivial]
     ·exact#[_,e2,trivial]
     ·exact#[_,e3,trivial]
     ·obtain⟨o,eo,_⟩:=e4;exact#[o,eo,trivial]
     ·obtain⟨o,eo,_⟩:=e5;exact#[o,eo,trivial]
    exact Zo (Zh eo)
 ·intro X hP hw hK hc i M9 s σ H E I hf st hg;subst hP hw hK;obtain⟨e1,e2,⟨p,q,e3⟩,e4,e5⟩:=st;obtain⟨rfl,hx,hy⟩:=hg;obtain⟨its,rx,px,zx⟩:=I.tuple hx;obtain⟨jts,ry,py,zy⟩:=I.tuple hy;have lx:its.toArray.size=xs.length:=by rw[Zf,<-rx.length]
  have hh:=I.ok.hd hc;have hT:s.TypeIs (.ref z) "zip":=#[_,e1,rfl]
  unfold pyNext;refine z0 (YE (ZA (name:=Str.ofString "__next__") hT YT (ZK YT hT F.entry_zip_next
   (yB (gh (A:=X.A.in1) hh i1 a a1.1.symm its.toArray) (gh (A:=X.A.in1) hh i2 b a2.2.symm jts.toArray) ap e1 e2 e3 #[by rw[lx];exact e4,px] λh' e kp he=>?_) (F.args_zip_next_1 _))))
  obtain⟨o,ho,hco⟩:=he;refine z0 (Y3 (T:="StopIteration") (b:=true) #[o,ho,hco] isSubtype_stop (z9 #[rfl,?_]));exact I.turnM (t':=s.toks) hf λc ob hc e=>by simp only[Zl,ZB,Yg,not_or]at hc;exact kp c ob hc.1 hc.2.2.1 hc.2.2.2.1 hc.2.2.2.2 e
theorem zE(l1 l2:MU)(xs ys:Array MW) :
  Meets (Builtin.«zip.__new__» #[[.type "zip",.ref l1,.ref l2],[]]) (λ_ R s=>s.heap.IsTuple l1 xs/\s.heap.IsTuple l2 ys /\
   R (.ok (.ret (.ref ((((s.heap.push { cls:=.type "tuple_iterator",data:=.fields (List.toArray [.ref l1,.int 0 0]) }).push { cls:=.type "tuple_iterator",data:=.fields (List.toArray [.ref l2,.int 0 0]) }).push { cls:=.type "tuple",data:=.seq (List.toArray [.ref s.heap.objs.size,.ref (s.heap.push { cls:=.type "tuple_iterator",data:=.fields (List.toArray [.ref l1,.int 0 0]) }).objs.size]) }).push { cls:=.type "tuple",data:=.seq (List.toArray [.none,.none]) }).objs.size)))
    { s with heap:=((((s.heap.push { cls:=.type "tuple_iterator",data:=.fields (List.toArray [.ref l1,.int 0 0]) }).push { cls:=.type "tuple_iterator",data:=.fields (List.toArray [.ref l2,.int 0 0]) }).push { cls:=.type "tuple",data:=.seq (List.toArray [.ref s.heap.objs.size,.ref (s.heap.push { cls:=.type "tuple_iterator",data:=.fields (List.toArray [.ref l1,.int 0 0]) }).objs.size]) }).push { cls:=.type "tuple",data:=.seq (List.toArray [.none,.none]) }).push { cls:=.type "zip",data:=.fields (List.toArray [.none,.bool false,.bool false,.ref ((s.heap.push { cls:=.type "tuple_iterator",data:=.fields (List.toArray [.ref l1,.int 0 0]) }).push { cls:=.type "tuple_iterator",data:=.fields (List.toArray [.ref l2,.int 0 0]) }).objs.size,.ref (((s.heap.push { cls:=.type "tuple_iterator",data:=.fields (List.toArray [.ref l1,.int 0 0]) }).push { cls:=.type "tuple_iterator",data:=.fields (List.toArray [.ref l2,.int 0 0]) }).push { cls:=.type "tuple",data:=.seq (List.toArray [.ref s.heap.objs.size,.ref (s.heap.push { cls:=.type "tuple_iterator",data:=.fields (List.toArray [.ref l1,.int 0 0]) }).objs.size]) }).objs.size]) } }) :=
 .of_wp λprog w A R s h=>by
  obtain⟨hp,g,d,tk,os⟩:=s;obtain⟨t1,t2,h⟩:=h;have hsub:=sub_zip;have T1:Heap.IsTuple (Shared.heap #[hp,g,d,tk,os]) l1 xs:=t1;have T2:Heap.IsTuple (Shared.heap #[hp.push { cls:=.type "tuple_iterator",data:=.fields (List.toArray [.ref l1,.int 0 0]) },g,d,tk,os]) l2 ys:=Heap.IsTuple.push t2 _
  wp_walk using Y7 T1,Y7 T2
  exact#[_,rfl,h]
theorem B2(n:Nat):[n+4,n+2,n+3,n,n+1].Nodup:=by simp
def G8(K:W.Frag)(ta:TA):TI:=λσ H R=>ta σ H λvs H1=>∃a b xs ys,vs=[.ref a,.ref b]/\SqT K H1 a xs/\SqT K H1 b ys/\xs.length=ys.length/\R (Itz K a b xs ys) H1
section
variable{X:Cx}
theorem HV{e1 e2:M8}{ta:TA}{p pos tp:Pos}{elts:List M8}{kt:Nat}(hg:Gl X "zip")(hm:X.mg "zip" = none)(ha:PA X [e1,e2] ta)(n1:aO e1=true)(n2:aO e2=true):PI X (.Tuple elts kt tp) (.Call (.Name "zip" p) [e1,e2] [] pos) (G8 X.K ta):=by
 intro M9 s σ H R I h;refine Call_ (eC I hg hm boot_zip (Yt (thn (ha pos M9 s σ H _ I h) λus s1 hz9=>?_) (aS n1) (bp (by simp[n2]))));obtain⟨vs,H1,I1,r1,q1⟩:=hz9;obtain⟨a,b,xs,ys,e,hx,hy,hl,q⟩:=q1;subst e;obtain⟨ua,ub,rfl,ra,rb⟩:=kP r1;cases ra;cases rb;obtain⟨its,rx,px,zx⟩:=I1.tuple hx;obtain⟨jts,ry,py,zy⟩:=I1.tuple hy;refine callType_new F.called_zip ⋯ (F.typeCall_zip_2 _ _) (F.newCall_zip_2 _ _) (λobj=>F.args_object_init_3 obj _ _) F.entry_zip_new (zE a b its.toArray jts.toArray) #[px,py,?_];generalize ea:({ cls:=.type "tuple_iterator",data:=.fields (List.toArray [.ref a,.int 0 0]) }:Obj)=oa;generalize eb:({ cls:=.type "tuple_iterator",data:=.fields (List.toArray [.ref b,.int 0 0]) }:Obj)=ob;have z1:(s1.heap.push oa).objs.size=s1.heap.objs.size+1:=Yh ..;have z2:((s1.heap.push oa).push ob).objs.size=s1.heap.objs.size+2:=by rw[Yh,z1]
 rw[z2,z1];generalize eu:({ cls:=.type "tuple",data:=.seq (List.toArray [.ref s1.heap.objs.size,.ref (s1.heap.objs.size+1)]) }:Obj)=ou;have z3:(((s1.heap.push oa).push ob).push ou).objs.size=s1.heap.objs.size+3:=by rw[Yh,z2]
 generalize ev:({ cls:=.type "tuple",data:=.seq (List.toArray [.none,.none]) }:Obj)=ov;have z4:((((s1.heap.push oa).push ob).push ou).push ov).objs.size=s1.heap.objs.size+4:=by rw[Yh,z3]
 rw[z4,z3];generalize ez:({ cls:=.type "zip",data:=.fields (List.toArray [.none,.bool false,.bool false,.ref (s1.heap.objs.size+2),.ref (s1.heap.objs.size+3)]) }:Obj)=oz;have g5:(((((s1.heap.push oa).push ob).push ou).push ov).push oz).get? (s1.heap.objs.size+4)=some oz:=by rw[<-z4];exact Ze _ (by rw[<-ez];rfl)
 have g4:(((((s1.heap.push oa).push ob).push ou).push ov).push oz).get? (s1.heap.objs.size+3)=some ov:=by rw[<-z3];exact z6 _ (Ze _ (by rw[<-ev];rfl))
 have g3:(((((s1.heap.push oa).push ob).push ou).push ov).push oz).get? (s1.heap.objs.size+2)=some ou:=by rw[<-z2];exact z6 _ (z6 _ (Ze _ (by rw[<-eu];rfl)))
 have g2:(((((s1.heap.push oa).push ob).push ou).push ov).push oz).get? (s1.heap.objs.size+1)=some ob:=by rw[<-z1];exact z6 _ (z6 _ (z6 _ (Ze _ (by rw[<-eb];rfl))))
 have g1:(((((s1.heap.push oa).push ob).push ou).push ov).push oz).get? s1.heap.objs.size=some oa:=z6 _ (z6 _ (z6 _ (z6 _ (Ze _ (by rw[<-ea];rfl)))));have kp:∀c o,s1.heap.get? c=some o->(((((s1.heap.push oa).push ob).push ou).push ov).push oz).get? c=some o:=λc o e=>z6 _ (z6 _ (z6 _ (z6 _ (z6 _ e))));generalize((((s1.heap.push oa).push ob).push ou).push ov).push oz=hN at g1 g2 g3 g4 g5 kp ⊢;have I2:Inv X M9 σ H1 { s1 with heap:=hN }:=I1.kept (t':=s1.toks) kp;have la:a<s1.heap.objs.size:=px.lt;have lb:b<s1.heap.objs.size:=py.lt;subst ea eb eu ev ez;have base:∀c∈[s1.heap.objs.size+4,s1.heap.objs.size+2,s1.heap.objs.size+3,s1.heap.objs.size,s1.heap.objs.size+1],s1.heap.objs.size<=c:=λc hc=>by simp only[Zl,ZB,Yg]at hc;omega
 refine#[#[_,g5,rfl],?_];show wpAny (model X.prog X.w) X.A (pyIter (.ref (s1.heap.objs.size+4))) (PIE X M9 σ (.Tuple elts kt tp) R) X.xe { s1 with heap:=hN };refine wpAny_pyIter_zip g5 ?_;refine#[s1.heap.objs.size+4,[s1.heap.objs.size+4,s1.heap.objs.size+2,s1.heap.objs.size+3,s1.heap.objs.size,s1.heap.objs.size+1],zTn (s1.heap.objs.size+4) (s1.heap.objs.size+2) (s1.heap.objs.size+3) s1.heap.objs.size (s1.heap.objs.size+1) a b,_,H1,rfl,I2,
  Ex hl ?_ (λc hc=>#[ZY (Zt la (base c hc)),ZY (Zt lb (base c hc))]),#[g5,g3,#[_,_,g4],#[_,g1,rfl,rfl],#[_,g2,rfl,rfl]],λc hc=>?_,q]
 ·exact B2 s1.heap.objs.size
 ·exact I1.fpOk (base c hc) (I1.hok.fresh (base c hc))
theorem tN{e1 e2:M8}{ta:TA}{p pos tp:Pos}{elts:List M8}{kt:Nat}(hm:X.mg "zip" = none)(ha:QA X [e1,e2] ta)(hg:Gl X "zip":=by rfl)(n1:aO e1=true:=by rfl)(n2:aO e2=true:=by rfl):QI X (.Tuple elts kt tp) (.Call (.Name "zip" p) [e1,e2] [] pos) (G8 X.K ta):=#[HV hg hm ha.h n1 n2]
end
theorem Dp{J:It}{N n:Nat}{cap:List Nat}{g:TG}{tc:TT}{te:TE}{σ:St}{H0:Hp}{Q:VK}(keep:Nat->Bool)(f:Nat->V)(hz:N<=1000)(hgo:∀ i H,i<N->Same H0 H->J.go i H)(hst:∀ H,Same H0 H->J.stop N H)(ht:∀ i H x H',i<N->Same H0 H->J.yld i H x H'->∀ (A:VK) (B:Hp->Prop),(keep i=true->∀ H4,Same H H4->A (f i) H4)->(keep i=false->∀ H4,Same H H4->B H4) ->
   g x (bU n cap σ) H' λσ2 H2=>tc σ2 H2 λb H3=>if b=true then te σ2 H3 A else B H3)(hq:∀ p H,Same H0 H->H p=none->Q (.ref p) (upd H p (.lst (((List.range N).filter keep).map f)))):dM n cap g tc te σ J H0 Q:=by
 refine#[λi m ys H=>m=N-i/\i<=N/\Same H0 H/\ys=((List.range i).filter keep).map f,#[N,by simp,ZU _,Same.refl _,rfl],?_];rintro i m ys H ⟨rfl,hi,sm,rfl⟩;by_cases hlt:i<N
 ·refine .inr #[hgo i H hlt sm,?_,λx H' y=>?_]
  ·rw[Zb];have:=Z5 keep (List.range i);rw[List.length_range]at this;exact be ∅
  ·refine ht i H x H' hlt sm y _ _ (λk H4 s4=>#[N-(i+1),∅,rfl,hlt,sm.trans s4,?_]) (λk H4 s4=>#[N-(i+1),∅,rfl,hlt,sm.trans s4,?_])
   ·rw[List.range_succ,Yc,Zy];simp[k]
   ·rw[List.range_succ,Yc,Zy];simp[k]
 ·have e:i=N:=∅
  subst e;exact .inl #[hst H sm,λp hp=>hq p H sm hp]
theorem uI{K:W.Frag}{a b:MU}{xs ys:List V}{n:Nat}{cap:List Nat}{te:TE}{σ:St}{H0:Hp}{Q:VK}(f:Nat->V)(hz:xs.length<=1000)(ha:SqT K H0 a xs)(hb:SqT K H0 b ys)(hl:xs.length=ys.length)(he:∀i x y H,xs[i]?=some x->ys[i]?=some y->Same H0 H->∀R:VK,(∀H',Same H H'->R (f i) H')->te (((bU n cap σ).set 0 (some x)).set 1 (some y)) H R)(hq:∀p H,Same H0 H->H p=none->Q (.ref p) (upd H p (.lst ((List.range xs.length).map f)))):dM n cap (jZ K 2 (dS (bo 0) (dS (bo 1) jY))) gw te σ (Itz K a b xs ys) H0 Q:=by
 refine Dp (N:=xs.length) (λ_=>true) f hz (λi H hi sm=>#[hi,fz sm ha,fz sm hb]) (λH sm=>#[rfl,fz sm ha,fz sm hb]) (λi H x H' hi sm y A B kA kB=>?_) (λp H sm hp=>?_)
 ·obtain⟨T,p,q,hT,hx,hy,rfl,rfl⟩:=y;have s1:=af hT (.tup [p,q]);refine#[T,[p,q],rfl,Nb ad,rfl,p,[q],rfl,q,[],rfl,rfl,?_];unfold gw;refine aK ?_;exact he i p q _ hx hy (sm.trans s1) _ λH4 s4=>kA rfl H4 (s1.trans s4)
 ·have:=hq p H sm hp;rw[List.filter_eq_self.mpr (λ_ _=>rfl)];exact this
inductive rCatS  (x:V)(y:V)(H:Hp)(Q:VK):Prop
 |mk (a b xs ys:_) (h0:x=.ref a) (h1:y=.ref b) (h2:H a=some (.tup xs)) (h3:H b=some (.tup ys)) (h4:xs.length+ys.length<=sizeLine) (h5:∀p H',Same H H'->H' p=some (.tup (xs++ys))->Q (.ref p) H'):rCatS  x y H Q
section
variable{X:Cx}
theorem FG:OpR X (binaryOp .Add) rCatS:=by
 intro M9 s σ H x y v u Q I rx ry h;obtain⟨a,b,xs,ys,rfl,rfl,ha,hb,hz,q⟩:=h;by_cases hx:xs=[]
 ·cases rx;cases ry;obtain⟨its,r1,p1,_⟩:=I.tuple (Nb (K:=X.K) ha);obtain⟨its2,r2,p2,_⟩:=I.tuple (Nb (K:=X.K) hb);obtain⟨⟨cls,dd,data,sl⟩,ho,hc,n,hd⟩:=id p1;obtain⟨⟨cls2,dd2,data2,sl2⟩,ho2,hc2,n2,hd2⟩:=id p2;simp only at hc hd hc2 hd2;subst hc hd hc2 hd2;have e:its=[]:=r1.nil_iff.mpr hx;subst e;refine PySem.concat_meets #[_,ho,rfl] #[_,ho2,rfl] noFill_tuple_add seq_tuple_add PySem.F.slot_tuple_add PySem.F.entry_tuple_add (PySem.F.args_tuple_add_2 _ _)
   (tuple_addW0 a b _ its2.toArray n n2 dd dd2 sl sl2 (by simp)) #[ho,ho2,#[.ref b,H,I,rfl,q b H (Same.refl H) ?_]]
  rw[hx];exact hb
 ·exact FH M9 s σ H _ _ v u Q I rx ry #[a,b,xs,ys,rfl,rfl,Nb ha,Nb hb,hx,hz,λe=>q a H (Same.refl H) (by rw[e,Yr];exact ha),λ_ p hp=>q p _ (af hp _) ad]
theorem gC:QOp X (binaryOp .Add) rCatS:=#[FG]
theorem nU:fillsNumberSlot (.type "tuple") "mul" = pure false :=
 PySem.fillsNumberSlot_seq (id:="tuple.__mul__") (r:=some (.builtin "tuple.__rmul__")) F.slot_tuple_mul.lookup ⋯ F.slot_tuple_rmul.lookup ⋯
theorem vH:seqRepeat? (.type "tuple")=pure (some (.builtin "tuple.__mul__")):=by unfold seqRepeat?;rw[PySem.seqSlot_of (T:="tuple") (name:="__mul__") (id:="tuple.__mul__") F.slot_tuple_mul.lookup ⋯,PySem.seqSlot_of (T:="tuple") (name:="__rmul__") (id:="tuple.__rmul__") F.slot_tuple_rmul.lookup ⋯];rfl
theorem qB(a:Int)(t:Tok)(l:MU)(items:Array MW)(n:Nat)(dd:Option MU)(sl:Array (Option MW)) :
  Meets (Builtin.«int.__rmul__» #[[.int a t,.ref l],[]]) (λ_ R s=>s.heap.get? l=some { cls:=.type "tuple",dict:=dd,data:=.seq items n,slots:=sl }/\R (.ok (.ret Value.notImplemented)) s) :=
 .of_wp λprog w A R s h=>by obtain⟨hp,g,d,tk,os⟩:=s;obtain⟨hl,h⟩:=h;wp_walk using YU hl;exact#[_,rfl,h]
theorem tM(l:MU)(items:Array MW)(n:Nat)(dd:Option MU)(sl:Array (Option MW))(u:Tok) :
  Meets (Builtin.«tuple.__mul__» #[[.ref l,.int 1 u],[]]) (λ_ R s=>s.heap.get? l=some { cls:=.type "tuple",dict:=dd,data:=.seq items n,slots:=sl }/\R (.ok (.ret (.ref l))) s) :=
 .of_wp λprog w A R s h=>by obtain⟨hp,g,d,tk,os⟩:=s;obtain⟨hl,h⟩:=h;have f1:=AutoSeq1.idx_int;wp_walk using YU hl;exact#[_,rfl,h]
theorem rF(l:MU)(items:Array MW)(n:Nat)(dd:Option MU)(sl:Array (Option MW))(k:Int)(u:Tok)(c1:¬(k < -(2^63) ||k>=2^63)=true)(c2:¬(items.isEmpty ||k==1)=true)(c3:¬(decide (k<=0) ||items.isEmpty)=true)(c4:¬items.size*k>(2^63-1) / 8)(c5:¬Builtin.Tuple.tupleTooMany (items.size*k)=true)(c6:(List.foldl (λx1 x2=>x1++x2) #[] (List.replicate k.toNat items)).size<=sizeLine) :
  Meets (Builtin.«tuple.__mul__» #[[.ref l,.int k u],[]]) (λ_ R s=>s.heap.get? l=some { cls:=.type "tuple",dict:=dd,data:=.seq items n,slots:=sl } /\
   R (.ok (.ret (.ref s.heap.objs.size))) { s with heap:=s.heap.push { cls:=.type "tuple",data:=.seq (List.foldl (λx1 x2=>x1++x2) #[] (List.replicate k.toNat items)) } }) :=
 .of_wp λprog w A R s h=>by obtain⟨hp,g,d,tk,os⟩:=s;obtain⟨hl,h⟩:=h;have f1:=AutoSeq1.idx_int;wp_walk using YU hl;rw[MN c1];wp_walk using YU hl;rw[MN c4];wp_walk using YU hl;exact#[_,rfl,h]
def EY:R2:=λx y H Q=>∃a k xs,x=.ref a/\y=.int k/\H a=some (.tup xs)/\1<=k/\k<=1000/\xs≠[]/\xs.length*k.toNat<=sizeLine/\∀p H',Same H H'->H' p=some (.tup (List.replicate k.toNat xs).flatten)->Q (.ref p) H'
theorem FK:OpR X (binaryOp .Mult) EY:=by
 intro M9 s σ H x y v u Q I rx ry h;obtain⟨a,k,xs,rfl,rfl,ha,k1,k2,hx,hz,q⟩:=h;cases rx;obtain⟨t,rfl⟩:=ry;obtain⟨its,r1,p1,_⟩:=I.tuple (Nb (K:=X.K) ha);obtain⟨⟨cls,dd,data,sl⟩,ho,hc,n,hd⟩:=id p1;simp only at hc hd;subst hc hd;have hne:its≠[]:=λz=>hx (r1.nil_iff.mp z);refine wpAny_binaryOp_repeat_ref (T:="tuple") (U:="int") ⋯ #[_,ho,rfl] (λs'=>typeIs_int s' k t) nU F.fills_int_mul F.slot_int_rmul vH F.slot_int_index.lookup
  (call_meets F.slot_int_rmul (typeIs_int s k t) F.entry_int_rmul (F.args_int_rmul_2 _ _) (qB k t a its.toArray n dd sl) #[ho,rfl,#[_,ho,rfl],?_])
 by_cases hk:k=1
 ·subst hk;refine call_meets F.slot_tuple_mul #[_,ho,rfl] F.entry_tuple_mul (F.args_tuple_mul_2 _ _) (tM a its.toArray n dd sl t) #[ho,#[.ref a,H,I,rfl,q a H (Same.refl H) ?_]];have e:(List.replicate (1:Int).toNat xs).flatten=xs:=by simp
  rw[e];exact ha
 ·have hl:its.length=xs.length:=r1.length.symm;have hnew:List.foldl (λx1 x2=>x1++x2) #[] (List.replicate k.toNat its.toArray)=(List.replicate k.toNat its).flatten.toArray:=by have:=rS its k.toNat [];rw[List.nil_append]at this;exact this
  have hlen:(List.replicate k.toNat its).flatten.length<=sizeLine:=by rw[xY,hl,Nat.mul_comm];exact hz
  have hzk:((its.toArray.size:Int)*k)<=(sizeLine:Int):=by
   have e:((its.toArray.size:Int)*k)=((xs.length*k.toNat:Nat):Int):=by rw[Zf,hl,Int.natCast_mul];congr 1;omega
   rw[e];exact Int.ofNat_le.mpr hz
  have hcap:(sizeLine:Int)<=(2^63-1) / 8:=⋯
  have hemp:its.toArray.isEmpty=false:=by
   cases its with
   |nil=>exact absurd rfl hne
   |cons _ _=>rfl
  refine call_meets F.slot_tuple_mul #[_,ho,rfl] F.entry_tuple_mul (F.args_tuple_mul_2 _ _) (rF a its.toArray n dd sl k t ?_ ?_ ?_ ∅ ?_ (by rw[hnew,Zf];exact hlen)) #[ho,?_]
  ·simp only[Bool.or_eq_true,decide_eq_true_eq,not_or];omega
  ·simp[hemp,hk]
  ·have h1:¬k<=0:=∅
   simp[hemp,h1]
  ·unfold Builtin.Tuple.tupleTooMany;simp only[decide_eq_true_eq];omega
  ·rw[hnew];refine#[.ref s.heap.objs.size,_,I.laid (t':=s.toks) (o:=.tup (List.replicate k.toNat xs).flatten) (λb ob q=>z6 _ q) (Za _) ?_,rfl,q _ _ (af (I.hok.fresh (Za _)) _) ad];exact#[by rw[xY,Nat.mul_comm];exact hz,_,r1.rep k.toNat,IsTup.new _ _]
theorem nE{ns:M5}{i:Nat}{x:V}(h:(ns.map V.int)[i]?=some x):x=.int (au ns i)/\i<ns.length:=by
 rw[ZE]at h;unfold au;cases e:ns[i]? with
 |none=>rw[e]at h;cases h
 |some z =>rw[e]at h;cases h;exact#[rfl,(Zi.mp e).1]
theorem vL{n d:Nat}{h:Int}(h0:0<=h):HT.sIx n d (some h)=min h.toNat n:=by have e:=HT.sIx_nat n d h.toNat;rw[show((h.toNat:Nat):Int)=h by omega]at e;exact e
variable{K:W.Frag}(hK:X.K=K)
include hK
theorem iX:QIx X (rIxT K):=by subst hK;exact ao
theorem il{es:List M8}{k n:Nat}{gs:TGs}{pos:Pos}(hc:X.calm=true)(h:QGs X es gs)(hn:(assignEach es X.env).length=n:=by rfl)(hst:(assignEach es X.env).findIdx? (·.1)=none:=by rfl):QG X (.Tuple es k pos) (jZ K n gs):=by subst hK;exact gj hc h hn hst
omit hK
theorem Hr:QOp X (binaryOp .Mult) EY:=#[FK]
end
open PySem PySem.Spec PyProof.Rows PySem.W
section
variable{X:Cx}
theorem qY{st:Stmt}:QS X st (λ_ _ _=>False):=#[λ_ _ _ _ _ _ h=>h.elim]
variable{o e d:M8}{to te td:TE}{apos cpos:Pos}
theorem kX{prog:MX}{w:MY}{A:MZ}{E:MQ}{s:MV}{t sl:MU}{items:Array MW}{vl vu:MW}{lo hi:Option Int}{Q:MQ}(ht:IsTup s.heap t items)(hs:s.heap.IsSliceOf sl vl vu .none)(pl:IsPart vl lo)(pu:IsPart vu hi)(hw:HT.sIx items.size 0 lo=0/\HT.sIx items.size items.size hi=items.size)(h:Q (.ref t) s):wpAny (model prog w) A (getItem (.ref t) (.ref sl)) Q E s:=by
 obtain⟨os,hos,hcs,hds⟩:=id hs;have hTs:s.TypeIs (.ref sl) "slice":=#[os,hos,hcs]
 unfold getItem
 try with_reducible refine ZF ?_
 first|refine z0 (z9 ?_)|skip
 refine z0 (wpAny_sequenceKey ht.typeIs ⋯ ?_);refine z0 (ZA (name:=Str.ofString "__getitem__") ht.typeIs Yf
  (ZK Yf ht.typeIs entry_tuple_getitem ?_ (args_tuple_getitem _ _)))
 show wpAny _ _ (Builtin.Tuple.tupleItemsOf (.ref t) >>= _) _ _ s;refine z0 (tupleItemsOf_ ht ?_);refine z0 (wpAny_typeOf hTs ?_);rw[MO ⋯];refine z0 (HT.sliceApplied_gen hs pl pu ?_);show wpAny _ _ (if(((HT.sIx items.size 0 lo:Nat):Int)==0&&(1:Int)==1&&(HT.sIx items.size items.size hi-HT.sIx items.size 0 lo)==items.size)=true then _ else _) _ _ s;rw[MO (by rw[hw.1,hw.2];simp)];refine z0 (m:=Builtin.Tuple.tupleIsExact _) ?_;unfold Builtin.Tuple.tupleIsExact;refine z0 (wpAny_typeOf ht.typeIs (z9 ?_));rw[MO ⋯];exact z0 (Y4 (z9 #[_,rfl,z9 h]))
def J6:V->Option Int->Option Int->Hp->VK->Prop:=λx lo hi H Q=>∃a xs,x=.ref a/\H a=some (.tup xs)/\∀p H',Same H H'->H' p=some (.tup (bM xs lo hi))->Q (.ref p) H'
theorem de:QSl X J6:=by
 refine#[?_];intro M9 s σ H x v vl vu lo hi sl Q I rx hs pl pu h;obtain⟨a,xs,rfl,hx,q⟩:=h;by_cases hw:HT.sIx xs.length 0 lo=0/\HT.sIx xs.length xs.length hi=xs.length
 ·cases rx;obtain⟨its,r,ht,hz⟩:=I.tuple (Nb (K:=X.K) hx);have hlen:its.toArray.size=xs.length:=by rw[Zf];exact r.length.symm
  refine#["tuple",_,Yf.lookup,ht.typeIs,kX ht hs pl pu (by rw[hlen];exact hw) #[.ref a,H,I,rfl,q a H (Same.refl H) ?_]];unfold bM;rw[hw.1,hw.2,List.drop_zero,Nat.sub_zero,ZQ];exact hx
 ·exact Ix M9 s σ H _ v vl vu lo hi sl Q I rx hs pl pu #[a,xs,rfl,Nb hx,hw,λp hp=>q p _ (af hp _) ad]
end
section
variable{prog:MX}{w:MY}{A:MZ}{s:MV}{fin:Bool}{Q:Bool->MV->Prop}
theorem wP(ns:M5):∀(ms:M5) (vs ws:MT) (i:Nat),IntsAre vs ns->IntsAre ws ms->fin=decide (ns.length<ms.length)->Q (HT.lexLt ns ms) s->KatLex prog w A true fin Q (vs.zip ws) i s:=by
 induction ns with
 |nil =>
  intro ms vs ws i a b hf q;subst hf;cases a;cases b with
  |nil=>exact kat_nil q
  |cons _ _ _=>exact kat_nil (by rw[decide_eq_true (by simp)];exact q)
 |cons x ns ih =>
  intro ms vs ws i a b hf q;cases a with
  |cons _ t h1 =>
  cases b with
  |nil =>subst hf;exact kat_nil q
  |cons y u h2 =>
  obtain⟨e,he,iff⟩:=HT.eqAt_int A s x t y u;rw[HT.lexLt_cons]at q;refine kat_cons (he _ _ _ _ (kat_go (λet=>?_) (λef=>?_)))
  ·rw[MO (iff.mp et)]at q;exact kat_yes (ih _ _ _ (i+1) h1 h2 (by rw[hf];simp) q)
  ·have hne:x≠y:=λz=>by rw[iff.mpr z]at ef;cases ef
   rw[MN hne]at q;refine kat_no ?_;cases i with
   |zero=>exact oneLt_int q
   |succ i=>exact kat_one _ _ (PyProof.Rows.lt_int q)
end
section
variable{X:Cx}{M9:MP}{σ:St}{H:Hp}{s:MV}{h':Heap}
theorem iC{P:MX}{w:MY}{H:Hp}{h:Heap}{a:MU}{o:HO}(x:ObjOk P w H h a o):∃ob,h.get? a=some ob:=by
 cases o with
 |lst xs =>obtain⟨_,_,_,_,e⟩:=x;exact#[_,e]
 |tup xs =>obtain⟨_,_,_,ob,e,_⟩:=x;exact#[ob,e]
 |dK kvs =>obtain⟨_,_,_,_,ob,_,_,e,_⟩:=x;exact#[ob,e]
 |dT kvs =>obtain⟨_,_,_,_,ob,_,_,e,_⟩:=x;exact#[ob,e]
 |set S n =>obtain⟨ob,_,_,_,e,_⟩:=x;exact#[ob,e]
 |ins C dx fs =>obtain⟨_,_,_,e,_⟩:=x;exact#[_,e]
 |own y=>exact x
 |xd fs =>obtain⟨_,⟨ob,_,_,e,_⟩,_⟩:=x;exact#[ob,e]
 |rng lo hi =>obtain⟨_,_,_,e⟩:=x;exact#[_,e]
 |frz ob u=>exact#[ob,x.1]
 |tbl ps=>exact#[_,x]
 |met f y=>exact#[_,x]
 |ext φ=>exact x.2.1
theorem none_of(I:Inv X M9 σ H s){a:MU}(hg:s.heap.get? a=none):H a=none:=by
 cases q:H a with
 |none=>rfl
 |some u =>obtain⟨ob,e⟩:=iC (I.hok a u q);rw[hg]at e;cases e
def vI(base h:Heap)(L:MU):MP:=(List.range h.objs.size).filterMap λb=>if b=L\/(base.get? b).isSome=true then none else(h.get? b).map λo=>(b,o)
theorem mZ(base h:Heap)(L:MU):News base L h (vI base h L):=λp hp=>by
 obtain⟨b,_,e⟩:=Y8.mp hp;by_cases c:b=L\/(base.get? b).isSome=true
 ·rw[MO c]at e;cases e
 ·rw[MN c]at e;cases q:h.get? b with
  |none=>rw[q]at e;cases e
  |some o =>
   rw[q]at e;cases e;refine#[q,λz=>c (.inl z),?_];cases z:base.get? b with
   |none=>rfl
   |some u=>exact absurd (.inr (by rw[z];rfl)) c
theorem hO{base h:Heap}{L b:MU}{o:Obj}(e:h.get? b=some o)(hL:b≠L)(hb:base.get? b=none):(b,o)∈vI base h L:=by refine Y8.mpr #[b,Y2.mpr (Zh e),?_];rw[MN (by rintro(z|z);exact hL z;rw[hb]at z;cases z),e];rfl
end
theorem gq(ns:M5):SeqAt.shaped (.tuple (ns.map .int))=true:=by
 unfold SeqAt.shaped;rw[Zw];refine#[?_,?_]
 ·simp only[PyData.canLay0];exact PyProof.Rows.canLayAll_ints ns
 ·refine decide_eq_true ?_;simp only[PyData.depth];rw[PyProof.Rows.depthAll_ints ns];decide
theorem mT:∀(ns ms:M5),PyData.eqvAll (ns.map .int) (ms.map .int)=decide (ns=ms)
 | [],[]=>by simp[PyData.eqvAll]
 | [],_::_=>by simp[PyData.eqvAll]
 |_::_,[]=>by simp[PyData.eqvAll]
 |x::ns,y::ms=>by simp only[Z1,PyData.eqvAll,PyData.eqv];rw[mT ns ms,Bool.eq_iff_iff];simp
theorem uK(ns ms:M5):PyData.eqv (.tuple (ns.map .int)) (.tuple (ms.map .int))=decide (ns=ms):=by simp only[PyData.eqv];exact mT ns ms
theorem jE{H:Hp}{a:MU}{ns:M5}(h:H a=some (.tup (ns.map V.int))):Dt H (.tuple (ns.map .int)) (.ref a):=by simp only[Dt];exact#[a,_,rfl,Rd.of h,jD ns]
section
variable{X:Cx}
theorem B6(hu:X.A.units+64<cLine):QOp X (compareOp .Eq) (λx y H Q=>∃(a b:MU) (ns ms:M5),x=.ref a/\y=.ref b/\H a=some (.tup (ns.map V.int))/\H b=some (.tup (ms.map V.int))/\Q (.bl (decide (ns=ms))) H):=by refine#[?_];intro M9 s σ H x y v u Q I rx ry h;obtain⟨a,b,ns,ms,rfl,rfl,ha,hb,q⟩:=h;exact Ce hu M9 s σ H _ _ v u Q I rx ry #[_,_,jE ha,jE hb,gq ns,gq ms,by rw[uK];exact q]
theorem pA(hu:X.A.units+64<cLine):QOp X (compareOp .NotEq) (λx y H Q=>∃(a b:MU) (ns ms:M5),x=.ref a/\y=.ref b/\H a=some (.tup (ns.map V.int))/\H b=some (.tup (ms.map V.int))/\Q (.bl (!decide (ns=ms))) H):=by refine#[?_];intro M9 s σ H x y v u Q I rx ry h;obtain⟨a,b,ns,ms,rfl,rfl,ha,hb,q⟩:=h;exact Cg hu M9 s σ H _ _ v u Q I rx ry #[_,_,jE ha,jE hb,gq ns,gq ms,by rw[uK];exact q]
end
theorem tO{x:V}{A B:Prop}(h:x≠.non)(hA:A):if(!decide (x=.non))=true then A else B:=by rw[decide_eq_false h];exact aK hA
theorem Jn{x:V}{A B:Prop}(h:x≠.non)(hB:B):if decide (x=.non)=true then A else B:=by rw[decide_eq_false h];exact aD hB
theorem zp{c A B:Prop}[Decidable c](h:c)(hA:A):if decide c=true then A else B:=by rw[decide_eq_true h];exact aK hA
theorem lg{c A B:Prop}[Decidable c](h1:c->A)(h2:¬c->B):if decide c=true then A else B:=by
 by_cases h:c
 ·exact zp h (h1 h)
 ·rw[decide_eq_false h];exact aD (h2 h)
structure CompOk1(X:Cx)(scope:Scope)(cx:Str)(cap:List Nat)(capN:List Str):Prop where
 kind:scope.kind=.function
 names:∀x∈scope.names,x.2=.local->scope.names.lookup x.1=some .local
 onecell:∀y∈scope.names,y.2=.cell->y.1=cx
 own:scope.names.lookup cx=some .cell
 cf:∀(n:Nat) (acc:List (Str×MU)),cellsFrom n scope.names acc=(cx,n)::acc
 pc:∀h:Heap,pushCells h scope.names=h.push { cls:=.type "cell",data:=.cell none }
 frees:(scope.names.all λy=>!(y.2==NameKind.free) ||(X.env.kindOf y.1==some .cell ||X.env.kindOf y.1==some .free))=true
 cap:CapOk X scope cap capN
theorem fG:∀{vs:MT} {ns:M5},IntsAre vs ns->∃xs:List (Int×Tok),vs=xs.map (λp=>.int p.1 p.2)/\ns=xs.map (·.1)
 |_,_,.nil=>#[[],rfl,rfl]
 |_,_,.cons n t h=>by obtain⟨xs,e1,e2⟩:=fG h;exact#[(n,t)::xs,by rw[e1];rfl,by rw[e2];rfl]
section
variable{X:Cx}
theorem GU{K:W.Frag}(hK:X.K=K)(hc:X.calm=true):QCall X (.builtin "max") (λxs H Q=>∃(p:MU) (ns:M5),xs=[.ref p]/\SqL K H p (ns.map V.int)/\ns≠[]/\∀M,M∈ns->(∀x∈ns,x<=M)->Q (.int M) H):=by
 subst hK;refine#[?_];intro M9 s σ H xs us Q I r h;obtain⟨p,ns,rfl,hS,hne,q⟩:=h;obtain⟨u,rfl,ru⟩:=bZ r;cases ru;obtain⟨its,rv,pl,hz⟩:=I.list hS;obtain⟨ys,e1,e2⟩:=fG (dB rv);have hl:s.heap.IsList p (intItems ys.toArray):=by have:=pl.isList;rw[e1]at this;simpa[intItems]using this
 have hpos:0<ys.toArray.size:=by rw[Zf];refine List.length_pos_iff.mpr λz=>hne ?_;rw[e2,z];rfl
 refine max_intList (I.ok.hd hc) hl hpos λv h' tk hv hk=>?_;obtain⟨b1,b2⟩:=argBest_gt (numAt ys.toArray) (ys.toArray.size-1);obtain⟨t,rfl⟩:=intItems_at hv;generalize argBest (λi j=>decide (numAt ys.toArray i>numAt ys.toArray j)) (ys.toArray.size-1)=k at b1 b2 ⊢;have num:∀j (hj:j<ys.length),numAt ys.toArray j=(ys[j]).1:=λj hj=>by simp[numAt,hj]
 rw[Zf]at b1 b2 hpos;have hk':k<ys.length:=∅
 refine#[.int (numAt ys.toArray k),H,I.kept (t':=tk) hk,#[t,rfl],q _ ?_ λx hx=>?_]
 ·rw[e2,num k hk'];exact Zm.mpr #[ys[k],ZR hk',rfl]
 ·rw[e2]at hx;obtain⟨y,hy,rfl⟩:=Zm.mp hx;obtain⟨j,hj,rfl⟩:=List.getElem_of_mem hy;have:=b2 j ∅;rw[num j hj]at this;exact this
end
def dZ(h:Heap)(e:MU)(dc:Option MU):Prop:=∃o,h.get? e=some o/\o.dict=dc
theorem qv(f:Array MW->Array MW)(o:Obj):(Obj.mapFields f o).dict=o.dict:=by unfold Obj.mapFields;split<;>rfl
section
variable{M:Model}{A:MZ}{E:MQ}{s:MV}{base:Heap}{env:Env}{outer l:List Env}{L e:MU}
theorem mW{oe:Obj}{vs:Array MW}{hd0 a0:MW}{nx:Bool}{Q:Unit->MV->Prop}(fr:A.frames=some (env::outer))(ff:s.heap.FunFrames base (env::outer))(ef:env.frame=some L)(he:s.heap.get? e=some oe)(kb:base.StaysIn s.heap)(en:base.get? e=none)(dt:oe.data=.fields vs)(sz:1<vs.size)(v0:vs[0]?=some a0)(k:∀h',Heap.NotedW base (env::outer) e oe.cls a0 (rawInt L) s.heap h'->dZ h' e oe.dict->Q () { s with heap:=h' }) :
  wpAny M A (do let a ←frameOf env;let pl ←entryPlaceOf L nx;let b ←EntryCells.newEntry hd0 a .none (rawInt L) .none pl;setField (.ref e) 1 b) Q E s:=by
 have nf:e∉(env::outer).filterMap (·.frame):=λhm=>by obtain⟨_,o,ho,hn⟩:=ff.mem hm;cases Zn (he.symm.trans ho);exact hn vs dt
 refine z0 (wpAny_frameOf_fun fr ff ef λh1 k1=>z0 (wpAny_entryPlaceOf λpl hpl=>?_));unfold EntryCells.newEntry newFields;refine z0 (ZD ?_ (hpl.sizeOk5 _ _ _ _ _));have t3:([hd0,.ref L,.none,rawInt L,.none]++(if pl.isEmpty then List.replicate 6 Value.none else pl)).toArray[3]?=some (rawInt L):=by simp
 generalize([hd0,.ref L,.none,rawInt L,.none]++(if pl.isEmpty then List.replicate 6 Value.none else pl)).toArray=ts at t3 ⊢;have g1:h1.get? e=some oe:=(k1.2.1 e nf).trans he;have st1:base.StaysIn h1:=λb o hb=>(k1.2.1 b λhm=>nomatch(hb.symm.trans (ff.mem hm).1)).trans (kb b o hb);have gp:(h1.push { cls:=.type "traceback",data:=.fields ts }).get? e=some oe:=z6 _ g1;have ne:h1.objs.size≠e:=ZY (Zh g1);have dm:=Z4 dt (·.setIfInBounds 1 (Value.ref h1.objs.size));have self:=ZZ (Obj.mapFields (·.setIfInBounds 1 (Value.ref h1.objs.size))) gp (Yz dm);have atT:=(Zz (h1.push { cls:=.type "traceback",data:=.fields ts }) (Obj.mapFields (·.setIfInBounds 1 (Value.ref h1.objs.size))) (Z2 ne)).trans (Ze h1 rfl);have oth:∀b o,b≠e->h1.get? b=some o->((h1.push { cls:=.type "traceback",data:=.fields ts }).update e (Obj.mapFields (·.setIfInBounds 1 (Value.ref h1.objs.size)))).get? b=some o:=λb o n q=>(Zz _ _ (Z2 n)).trans (z6 _ q);have nrec:∀b o,s.heap.get? b=some o->(∀ws,o.data≠.fields ws)->b≠e:=λb o q hn z=>by subst z;cases Zn (he.symm.trans q);exact hn vs dt
 refine Yo gp dt sz (k _ #[λb o q=>oth b o (λz=>nomatch((z▸q).symm.trans en)) (st1 b o q),ff.of_keeps λb o q hn=>?_,?_,λb o q hn=>?_] #[_,self,qv _ _])
 ·obtain⟨sl,hs⟩:=k1.2.2 b o q;exact#[_,oth b _ (nrec b o q hn) hs,rfl]
 ·exact#[_,_,h1.objs.size,_,ts,self,#[Obj.cls_mapFields _ _,by rw[Array.getElem?_setIfInBounds_ne ⋯];exact v0],dm,by simp[sz],st1.fresh,ne,atT,rfl,t3]
 ·obtain⟨sl,hs⟩:=k1.2.2 b o q;exact#[sl,oth b _ (nrec b o q hn) hs]
theorem jX{cls a0 fl:MW}{dc:Option MU}{Q:Unit->MV->Prop}(kb:base.StaysIn s.heap)(ff:s.heap.FunFrames base l)(tr:s.heap.TracedAtW base e cls a0 fl)(dd:dZ s.heap e dc)(k:∀h',base.StaysIn h'->h'.FunFrames base l->h'.TracedW base e cls a0->s.heap.UpToSlots h'->dZ h' e dc->Q () { s with heap:=h' }):wpAny M A (setFlight (.ref e) none) Q E s:=by
 obtain⟨oe,vs,T,oT,ts,he,hc,dt,v1,nT,ne,hT,dT,t3⟩:=tr;have z3:3<ts.size:=(Array.getElem?_eq_some_iff.mp t3).1;have oth:∀b,b≠T->(s.heap.update T (Obj.mapFields (·.setIfInBounds 3 ((none:Option MU).elim Value.none λf=>rawInt f)))).get? b=s.heap.get? b:=λb n=>Zz _ _ (Z2 n);have nrec:∀b o,s.heap.get? b=some o->(∀ws,o.data≠.fields ws)->b≠T:=λb o q hn z=>by subst z;cases Zn (hT.symm.trans q);exact hn ts dT
 unfold setFlight;refine z0 (ZO he dt v1 ?_);rw[MO (by simp:(Value.ref T != Value.none)=true)];refine Yo hT dT z3 (k _ (λb o q=>(oth b λz=>nomatch((z▸q).symm.trans nT)).trans (kb b o q)) (ff.of_keeps λb o q hn=>#[o,(oth b (nrec b o q hn)).trans q,rfl]) ?_ (λb o q hn=>#[o.slots,(oth b (nrec b o q hn)).trans q]) ?_)
 ·exact#[oe,vs,T,_,_,(oth e (Z2 ne)).trans he,hc,dt,v1,nT,ne,ZZ _ hT (Yz (Z4 dT _)),Z4 dT _,by simp[z3]]
 ·obtain⟨o,q,d⟩:=dd;exact#[o,(oth e (Z2 ne)).trans q,d]
theorem ph{cls a0:MW}{dc:Option MU}{Q:Unit->MV->Prop}(fr:A.frames=some (env::outer))(ef:env.frame=some L)(fl:Heap.FlyingW base (env::outer) e cls a0 s.heap)(dd:dZ s.heap e dc)(k:∀h',Heap.HeldW base (env::outer) e cls a0 L h'->s.heap.UpToSlots h'->dZ h' e dc->Q () { s with heap:=h' }):wpAny M A (noteFrame (.ref e) env) Q E s:=by
 obtain⟨f1,f2,f3,oe,vs,T,oT,ts,he,hc,dt,v1,nT,ne,hT,dT,t3⟩:=fl;obtain⟨o2,q2,d2⟩:=dd;cases Zn (he.symm.trans q2);have z3:3<ts.size:=(Array.getElem?_eq_some_iff.mp t3).1;unfold noteFrame;simp only[ef];refine z0 (ZO he dt v1 ?_);rw[MO (by simp:(Value.ref T != Value.none)=true)];refine z0 (ZO hT dT t3 ?_);rw[MN (by simp[rawInt]:¬(Value.none==rawInt L)=true)];refine z0 (Yo hT dT z3 ?_);have oth:∀b,b≠T->(s.heap.update T (Obj.mapFields (·.setIfInBounds 3 Value.none))).get? b=s.heap.get? b:=λb n=>Zz _ _ (Z2 n);have nrec:∀b o,s.heap.get? b=some o->(∀ws,o.data≠.fields ws)->b≠T:=λb o q hn z=>by subst z;cases Zn (hT.symm.trans q);exact hn ts dT
 have sz:1<vs.size:=(Array.getElem?_eq_some_iff.mp v1).1;refine mW (s:={ s with heap:=s.heap.update T (Obj.mapFields (·.setIfInBounds 3 Value.none)) }) fr (f3.of_keeps λb o q hn=>#[o,(oth b (nrec b o q hn)).trans q,rfl]) ef ((oth e (Z2 ne)).trans he) (λb o q=>(oth b λz=>nomatch((z▸q).symm.trans nT)).trans (f1 b o q)) f2 dt sz hc.2 λh' nt dd=>?_;obtain⟨n1,n2,n3,n4⟩:=nt;rw[hc.1]at n3;rw[d2]at dd;exact k h' #[n1,f2,n2,n3] (λb o q hn=>n4 b o ((oth b (nrec b o q hn)).trans q) hn) dd
end
def Its(x:Str):It:=#[λi _=>i<x.cps.size,λi H v H'=>H'=H/\∃c,x.cps[i]?=some c/\v=.str #[(List.toArray [c])],λi _=>x.cps.size<=i]
theorem Ew{P:MX}{w:MY}{K:W.Frag}{tg:M8}(it:MU)(x:Str)(t:Tok):Turn P w K tg (Its x) [it] it (λi h=>h.IsStrIter it "str_ascii_iterator" x t i) where
 mem:=Zd.mpr rfl
 obj:=λi h st b hb=>by cases Zd.mp hb;obtain⟨o,e,c,d⟩:=st;exact#[o,e,λv z=>nomatch d.symm.trans z]
 keep:=λi h h' st k=>by obtain⟨o,ho,r⟩:=st;exact#[o,k it (Zd.mpr rfl) o ho,r]
 item:=by intro X eP ew eK hc i M9 s σ H E I hf st hg;cases eP;cases ew;cases eK;have hi:i<x.cps.size:=hg;have fo:=hf it (Zd.mpr rfl);refine(Walks.strAscii (prog:=X.prog) (w:=X.w) (I.ok.hd hc) it x t).item i s _ _ hi st λv h' tk hv st' kk=>?_;obtain⟨c,u,hc',rfl⟩:=hv;have I1:Inv X M9 σ H { s with heap:=h',toks:=tk }:=I.turned (λb o hb e=>kk b o (λz=>hb (Zd.mp z)) e) fo.1 fo.2.1 fo.2.2.2.1 fo.2.2.2.2.1 fo.2.2.2.2.2;obtain⟨o,e,c1,d1⟩:=id st';exact#[_,rfl,oX (s:={ s with heap:=h',toks:=tk }) e c1 d1 ⋯ #[.str #[(List.toArray [c])],H,I1,#[u,rfl],#[rfl,c,hc',rfl],st',λb hb=>(hf b hb).1]]
 done:=by intro X eP ew eK hc i M9 s σ H E I hf st hg;cases eP;cases ew;cases eK;have hi:x.cps.size<=i:=hg;have fo:=hf it (Zd.mpr rfl);exact wpAny_pyNext_ascii_end (I.ok.hd hc) st (by simp;omega) λh' eb=>#[rfl,I.turned (t':=s.toks) (λb o hb e=>eb b o hb e) fo.1 fo.2.1 fo.2.2.2.1 fo.2.2.2.2.1 fo.2.2.2.2.2]
 self:=λ_ _ _ _ _ st h=>wpAny_pyIter_striter_ascii st h
def J1(tl:TE):TI:=λσ H R=>tl σ H λv H1=>∃x,v=.str x/\x.cps.all (·<128)=true/\R (Its x) H1
section
variable{X:Cx}{tg l:M8}{tl:TE}
theorem Ji(hl:QE X l tl):QI X tg l (J1 tl):=by refine#[?_];intro M9 s σ H R I h;refine thn (hl.h M9 s σ H _ I h) λv s1 hz9=>?_;obtain⟨y,H1,I1,r1,q1⟩:=hz9;obtain⟨x,rfl,ha,q⟩:=q1;obtain⟨t,rfl⟩:=r1;refine wpAny_pyIter_ascii ha #[s1.heap.objs.size,[s1.heap.objs.size],_,_,H1,rfl,I1.kept (t':=s1.toks) (λb o e=>z6 _ e),Ew _ x t,#[_,Ze _ rfl,rfl,rfl],λb hb=>?_,q];cases Zd.mp hb;exact I1.fpOk (Za _) (I1.hok.fresh (Za _))
end
theorem Dq{x:Str}{n:Nat}{cap:List Nat}{te:TE}{σ:St}{H0:Hp}{Q:VK}(f:Nat->V)(hz:x.cps.size<=1000)(he:∀i c H,x.cps[i]?=some c->Same H0 H->∀R:VK,(∀H',Same H H'->R (f i) H')->te ((bU n cap σ).set 0 (some (.str #[(List.toArray [c])]))) H R)(hq:∀p H,Same H0 H->H p=none->Q (.ref p) (upd H p (.lst ((List.range x.cps.size).map f)))):dM n cap (bo 0) gw te σ (Its x) H0 Q:=by
 refine iY (N:=x.cps.size) (λi=>.str #[(List.toArray [x.cps.getD i 0])]) f hz (λi H hi sm=>hi) (λH sm=>Za _) (λi H v H' hi sm y=>?_) (λi H hi sm R k=>?_) hq
 ·obtain⟨y1,c,hc,rfl⟩:=y;refine#[y1,?_];simp[Z9,hc]
 ·have e:x.cps[i]?=some x.cps[i]:=by simp[hi]
  have:=he i _ H e sm R k;simpa[Z9,e]using this
section
variable{X:Cx}
theorem ED:QCall X (.builtin "ord") (λxs H Q=>∃c:Nat,xs=[.str #[(List.toArray [c])]]/\Q (.int (c:Int)) H):=by refine#[?_];intro M9 s σ H xs us Q I r h;obtain⟨c,rfl,q⟩:=h;obtain⟨u,rfl,rx⟩:=bZ r;obtain⟨t,rfl⟩:=rx;exact PySem.P.ord_of_char #[.int c,H,I.tok _,#[_,rfl],q]
end
section
variable{X:Cx}
theorem Ba:QCall X (.builtin "len") (λxs H Q=>∃x:Str,xs=[.str x]/\x.length<=1000/\Q (.int (x.length:Int)) H):=by refine#[?_];intro M9 s σ H xs us Q I r h;obtain⟨x,rfl,hz,q⟩:=h;obtain⟨u,rfl,rx⟩:=bZ r;obtain⟨t,rfl⟩:=rx;exact PyProof.Rows.len_str ∅ #[.int x.length,H,I.tok _,#[_,rfl],q]
end
theorem cZ{v:V}{A B:Prop}(hA:A):if decide (v=v)=true then A else B:=by rw[decide_eq_true rfl];exact aK hA
theorem cj{v u:V}{A B:Prop}(h:v≠u)(hB:B):if decide (v=u)=true then A else B:=by rw[decide_eq_false h];exact aD hB
theorem GQ{x:V}{xs:List V}:atI (x::xs) 0=some x:=fD (j:=0) rfl
theorem uB:bootBuiltins "str" = some (.type "str"):=⋯
theorem uO{P:MX}{w:MY}{K:W.Frag}{mg:MR}{base:Heap}{k:Nat}{f:MU}{fd:M0}{ps:List Str}:↑FnOk CX0 k f fd ps (λ_ _ _ _=>False):=#[λ_ _ _ _ h=>h.elim,λ_ _ _ _ _ _ _ _ _ _ _ _ _ h=>h.elim]
inductive TV where
 |flat (v:V)
 |tup (xs:List V)
def uc:V->MW->Bool
 |.non,.none=>true
 |.bl b,.bool c=>b==c
 |.int i,.int j _=>i==j
 |.str x,.str y _=>x==y
 |_,_=>false
theorem sq:∀{v:V} {u:MW},uc v u=true->RelV v u:=by
 intro v u h;unfold uc at h;split at h
 ·exact rfl
 ·obtain rfl:=Z6.mp h;exact rfl
 ·obtain rfl:=Z6.mp h;exact#[_,rfl]
 ·obtain rfl:=Z6.mp h;exact#[_,rfl]
 ·cases h
def wE:List V->MT->Bool
 | [],[]=>true
 |v::vs,u::us=>uc v u&&wE vs us
 |_,_=>false
theorem nh:∀{vs:List V} {us:MT},wE vs us=true->Vals vs us
 | [],[],_=>.nil
 |_::_,_::_,h=>by have h:=(Zw _ _).mp h;exact .cons (sq h.1) (nh h.2)
 | [],_::_,h=>nomatch h
 |_::_,[],h=>nomatch h
def jQ(K:W.Frag):TV->MW->Bool
 |.flat v,u=>uc v u
 | .tup xs,.ref a=>(match K.lookup a with
  |some o=>o.cls == .type "tuple"&&(match o.data with|.seq its _=>decide (its.size<=1000)&&wE xs its.toList|_=>false)
  | none=>false)
 |_,_=>false
def GO(K:W.Frag):TV->MW->Prop
 |.flat v,u=>RelV v u
 |.tup xs,u=>∃a,u=.ref a/\∀H,SqT K H a xs
theorem JV{K:W.Frag}(d:TV)(u:MW)(h:jQ K d u=true):GO K d u:=by
 unfold jQ at h;split at h
 ·exact sq h
 ·rename_i xs a;split at h
  ·rename_i o ho;obtain⟨e1,e2⟩:=(Zw _ _).mp h;split at e2
   ·rename_i its n hd;obtain⟨e3,e4⟩:=(Zw _ _).mp e2;exact#[a,rfl,λH=>.inr #[o,its,n,ho,Z6.mp e1,hd,fP (ZM e3),nh e4]]
   ·cases e2
  ·cases h
 ·cases h
structure Tab(K:W.Frag)(a:MU)(D:List (Str×TV)):Prop where
 look:KTD.tabLook (jQ K) (λb=>K.lookup b) a D=true
theorem Tab.at{K:W.Frag}{a:MU}{D:List (Str×TV)}(T:Tab K a D){h:Heap}(X:K.In h):KTD.TabOf (GO K) h a D:=KTD.tab_of_look JV (λb o e=>X b o e) T.look
section
variable{prog:MX}{w:MY}{A:MZ}{E:MQ}{s:MV}{d:MU}{o:Obj}{es:Array DictEntry}{ep:Nat}{x:Str}{tx:Tok}
theorem yA{Q:Option MW->MV->Prop}(ho:s.heap.get? d=some o)(hd:o.data=.dict es ep)(hall:(es.all λe=>isExactStrKey e.key)=true)(h:Q ((es.toList.find? λe=>e.key.isStr x).map (·.val)) { s with toks:=s.toks+1 }) :
  wpAny (model prog w) A (dictGet d (.str x tx)) Q E s:=by
 unfold dictGet;(try with_reducible (refine ZF ?_))
 refine z0 (wpAny_pyHash_str (z0 (KTD.kt_dictFind_strs (s:={ s with toks:=s.toks+1 }) ho hd hall ?_)));have hq:Q (findBy (λy v=>v.isStr y) es x) { s with toks:=s.toks+1 }:=by
  have hf:findBy (λy v=>v.isStr y) es x=(es.toList.find? λe=>e.key.isStr x).map (·.val):=by obtain⟨l⟩:=es;simp[findBy]
  rw[hf];exact h
 rw[findBy_of_findIdx?]at hq;cases hi:es.findIdx? λe=>e.key.isStr x<;>rw[hi]at hq
 ·exact z9 hq
 ·exact z0 (YH (s:={ s with toks:=s.toks+1 }) ho hd (z9 hq))
theorem IM{Q:MQ}(sy:(d==sysModules)=false)(ex:o.ExactDict)(ho:s.heap.get? d=some o)(hd:o.data=.dict es ep)(hall:(es.all λe=>isExactStrKey e.key)=true)(h:Q (.bool ((es.toList.find? λe=>e.key.isStr x).map (·.val)).isSome) { s with toks:=s.toks+1 }):wpAny (model prog w) A (compareOp .In (.str x tx) (.ref d)) Q E s:=by
 have T:s.TypeIs (.ref d) "dict":=#[o,ho,ex.1]
 show wpAny _ _ (do return .bool (←contains (.ref d) (.str x tx))) Q E s;refine z0 ?_;unfold contains;(try with_reducible (refine ZF ?_))
 refine z0 (wpAny_specialOf T slot_dict_contains.lookup ?_);show wpAny _ _ (if(some (Value.builtin "dict.__contains__")==some Value.none)=true then _ else _) _ _ _;rw[MN (by rw[beq_builtin_none];decide)];refine z0 (wpAny_callSpecialUnlessNone?_slot (name:=Str.ofString "__contains__") T slot_dict_contains (ZK slot_dict_contains T entry_dict_contains ?_ (args_dict_contains _ _)));show wpAny _ _ (dictGet d (.str x tx) >>= _) _ _ _;refine z0 (yA ho hd hall ?_);cases hv:(es.toList.find? λe=>e.key.isStr x).map (·.val)with
 |some v =>rw[hv]at h;show wpAny _ _ (ret (.bool true)) _ _ _;exact z9 #[_,rfl,ZX (z9 h)]
 |none =>rw[hv]at h;show wpAny _ _ (Builtin.Dict.pendingKey? d (.str x tx) >>= _) _ _ _;exact z0 (wpAny_pendingKey_other sy (z9 #[_,rfl,ZX (z9 h)]))
theorem Ev{Q:MQ}{v:MW}(ex:o.ExactDict)(ho:s.heap.get? d=some o)(hd:o.data=.dict es ep)(hall:(es.all λe=>isExactStrKey e.key)=true)(hv:(es.toList.find? λe=>e.key.isStr x).map (·.val)=some v)(h:Q v { s with toks:=s.toks+1 }):wpAny (model prog w) A (getItem (.ref d) (.str x tx)) Q E s:=by
 have T:s.TypeIs (.ref d) "dict":=#[o,ho,ex.1]
 unfold getItem;(try with_reducible (refine ZF ?_))
 refine z0 (wpAny_sequenceKey T ⋯ (z0 (ZA (name:=Str.ofString "__getitem__") T slot_dict_getitem (ZK slot_dict_getitem T entry_dict_getitem ?_ (args_dict_getitem _ _)))));show wpAny _ _ (dictGet d (.str x tx) >>= _) _ _ _;refine z0 (yA ho hd hall ?_);rw[hv];exact z9 #[v,rfl,z9 h]
end
section
variable{X:Cx}
def Im(K:W.Frag):R2:=λx y H Q=>∃a k D,x=.str k/\y=.ref a/\Tab K a D/\Q (.bl (KTD.datumAt k D).isSome) H
theorem FA:QOp X (compareOp .In) (Im X.K):=by
 refine#[?_];intro M9 s σ H x y v u Q I rx ry h;obtain⟨a,k,D,rfl,rfl,T,q⟩:=h;obtain⟨t,rfl⟩:=rx;cases ry;obtain⟨sy,o,es,ep,ho,ex,hd,hr⟩:=T.at I.kIn;refine IM sy ex ho hd (by obtain⟨l⟩:=es;simpa using hr.exact) #[.bl (KTD.datumAt k D).isSome,H,I.tok _,?_,q];cases e:KTD.datumAt k D with
 |none=>rw[hr.find_none e];rfl
 |some d=>obtain⟨v,hv,_⟩:=hr.find_some e;rw[hv];rfl
def Io(K:W.Frag):R2:=λx y H Q=>∃a k D d,x=.ref a/\y=.str k/\Tab K a D/\KTD.datumAt k D=some d/\(match d with|.flat v=>Q v H|.tup xs=>∀t,(∀H',SqT K H' t xs)->Q (.ref t) H)
theorem AI:QIx X (Io X.K):=by
 refine#[?_];intro value slice M9 s σ H x y v u Q I rx ry h hs;obtain⟨a,k,D,d,rfl,rfl,T,hk,q⟩:=h;obtain⟨t,rfl⟩:=ry;cases rx;obtain⟨sy,o,es,ep,ho,ex,hd,hr⟩:=T.at I.kIn;obtain⟨v,hv,ok⟩:=hr.find_some hk;have fin:EP X M9 σ Q v { s with toks:=s.toks+1 }:=by
  cases d with
  |flat z=>exact#[z,H,I.tok _,ok,q]
  |tup xs =>obtain⟨t,rfl,e⟩:=ok;exact#[.ref t,H,I.tok _,rfl,q t e]
 exact subscriptTail_builtinR (x:=v) (#[o,ho,ex.1]:s.TypeIs (.ref a) "dict") slot_dict_getitem.lookup (Ev (Q:=λr s'=>r=v/\EP X M9 σ Q r s') ex ho hd (by obtain⟨l⟩:=es;simpa using hr.exact) hv #[rfl,fin]) hs
theorem Ah{x:Str}{a:MU}{pos:Pos}(hm:X.mg x=some (.ref a))(hg:Gl X x:=by rfl)(hd:(x==("__debug__":Str))=false:=by decide):QE X (.Name x pos) (tC (.ref a)):=#[yj hg hm rfl hd]
end
def CXr(P:MX)(w:MY):CXT:=λouter H s E e s' =>
 ∃(ea t:MU) (C:MW) (vs:MT) (B:Heap) (H':Hp) (dc:Option MU),e=.ref ea/\s'.os=s.os/\AllBare s'.gens/\Un (frs outer) [] H H' s.heap s'.heap/\HOk P w H' s'.heap /\
  Heap.FlyingW B outer ea C (.ref t) s'.heap/\s'.heap.TupAt t vs/\B.get? t=none/\(∀b o,b∉frs outer->((∃u,H' b=some u)\/∃o0,s.heap.get? b=some o0)->s'.heap.get? b=some o->B.get? b=some o)/\dZ s'.heap ea dc/\E C dc H'
structure ExCls(K:W.Frag)(C:MU):Prop where
 cls:∀h,K.In h->∃nm q N bs bm hdct sn sub ab col dd k0 k1 k2 k3 k5 mN,h.get? C=some (excClassObj nm q C N bs bm hdct sn sub ab col dd k0 k1 k2 k3 k5 "ValueError.__new__")/\h.Ns N mN/\mN "__init__" = none/\bm.contains (.type "BaseException")=true /\
  OwnTail h [.type "ValueError",.type "Exception",.type "BaseException",.type "object"] bm
def A6(X:Cx)(EC:MW->Hp->Prop):Prop:=∀(M9:MP) (σ:St) (H1:Hp) (s1:MV) (h2:Heap) (e:MU) (C:MW) (vs:MT),Inv X M9 σ H1 s1->Heap.MadeExcOf s1.heap h2 e C vs->EC C H1->X.xe (.ref e) { s1 with heap:=h2 }
section
variable{X:Cx}{EC:MW->Hp->Prop}{C:MU}{x:Str}{np cpos pos:Pos}{e:M8}{es:List M8}{ta:TA}
theorem mH(hR:A6 X EC)(hc:X.calm=true)(cl:ExCls X.K C)(hm:X.mg x=some (.ref C))(ha:QA X (e::es) ta)(hg:Gl X x:=by rfl)(hs:(e::es).all aO=true:=by rfl)(hdb:(x==("__debug__":Str))=false:=by decide) :
  QS X (.Raise (some (.Call (.Name x np) (e::es) [] cpos)) none pos) (λ_ σ H=>ta σ H λvs H1=>vs.length<=sizeLine/\EC (.ref C) H1):=by
 refine#[?_];intro M9 s σ H D I h;obtain⟨nm,q,N,bs,bm,hdct,sn,sub,ab,col,dd,k0,k1,k2,k3,k5,mN,hC,hN,hni,hb,T⟩:=cl.cls X.base I.ok.mod.kin;have hs1:aO e=true:=by have:=Ye.mp hs e (by simp);exact this
 have he:=aS (es:=es) (env:=X.env) hs1;have hpl:(backTo cpos (starEach es X.env)).any (·.1)=false:=bp (by
  rw[Ye];intro y hy;exact Ye.mp hs y (ZG _ hy))
 refine wpAny_Raise_call_subT (nm:=nm) (q:=q) (C:=C) (N:=N) (bs:=bs) (hdct:=hdct) (sn:=sn) (sub:=sub) (ab:=ab) (col:=col) (dd:=dd) (k0:=k0) (k1:=k1) (k2:=k2) (k3:=k3) (k5:=k5) PySem.F.excBase_ValueError hb (I.ok.hd hc) ?_ hni (fT I hg hm #[rfl,?_] hdb)
 ·rw[he];show(false ||(backTo cpos (starEach es X.env)).any (·.1))=false;rw[hpl];rfl
 ·have hA:=ha.h cpos M9 s σ H _ I h;rw[he]at hA ⊢;refine Calls.evalArgs_plain (thn hA λus s1 ⟨vs,H1,I1,r1,hz,hE⟩=>#[rfl,by rw[<-r1.length];exact hz,I1.bk _ _ hC,hN.keeps I1.bk,T.keeps I1.bk,λh' ea hm=>hR M9 σ H1 s1 h' ea _ _ I1 hm hE])
end
theorem Fun.okX{P:MX}{w:MY}{K:W.Frag}{mg:MR}{base:Heap}{x qual:Str}{st:Stmt}{f:MU}{fd:M0}{N ps:List Str}{k:Nat}{sp:Sp}(F:Fun K x qual st f fd)(S:FnScope N ps (aj st))(len:∀ vs H Q E,sp vs H Q E->vs.length=ps.length)(hb:∀ (cdv:MW) (A:MZ) (outer:List Env) (s:MV) (H:Hp) (vs:List V) (Q:VK) (E:XK),Room k (A.deeper (envOfC qual (aj st) s.heap.objs.size f cdv))->sp vs H Q E ->
   ∃ t,QB (fq (CXr P w) P w K mg base N qual (aj st) f cdv A outer s H E) (bK st) t/\t { nx:=λ_ H'=>Q .non H',rt:=Q } (start N vs) H):↑FnOk (CXr P w) (k+1) f fd ps sp:=by
 obtain⟨oc,od,kV,doc,pm,an,cdv,ct,osl,rfl,lk,hcd⟩:=F.ex;exact ze lk hcd S len λA outer s H vs Q E hr hsp=>let⟨t,h,q⟩:=hb cdv A outer s H vs Q E hr hsp;#[t,h.h,q]
structure FnX(P:MX)(w:MY)(K:W.Frag)(mg:MR)(base:Heap)(k:Nat)(x:Str)(ps:List Str)(sp:Sp):Prop where
 ex:∃f fd,FnOk P w K mg base (CXr P w) k f fd ps sp/\mg x=some (.ref f)/\W.keepIn K (.ref f)=true/\Binds K fd ps []
def XP(X:Cx)(M9:MP)(σ:St)(E:XK)(e:MW)(s':MV):Prop:=∃s0 H0,Inv X M9 σ H0 s0/\CXr X.prog X.w X.stack H0 s0 E e s'
abbrev TX:=St->Hp->VK->XK->Prop
structure QX(X:Cx)(e:M8)(t:TX):Prop where
 h:∀(M9:MP) (s:MV) (σ:St) (H:Hp) (Q:VK) (E:XK),Inv X M9 σ H s->t σ H Q E->wpAny (model X.prog X.w) X.A (eval e X.env) (EP X M9 σ Q) (XP X M9 σ E) s
abbrev TSX:=Ends->St->Hp->XK->Prop
structure QSX(X:Cx)(st:Stmt)(t:TSX):Prop where
 h:∀(M9:MP) (s:MV) (σ:St) (H:Hp) (D:Ends) (E:XK),Inv X M9 σ H s->t D σ H E->wpAny (model X.prog X.w) X.A (exec st X.env) (SP X M9 D) (XP X M9 σ E) s
section
variable{X:Cx}{e:M8}{tx:TX}{pos pos':Pos}{x:Str}
theorem Gu(he:QX X e tx)(hs:swapsWith e none pos.line X.env=pure false:=by rfl):QSX X (.Expr e pos) (λD σ H E=>tx σ H (λ_ H1=>D.nx σ H1) E):=by refine#[?_];intro M9 s σ H D E I h;exact wpAny_Expr_any (thn (he.h M9 s σ H _ E I h) λv s1 ⟨y,H1,I1,r1,q1⟩=>#[σ,H1,I1,q1]) I.quiet hs
end
structure Fl(X:Cx)(H0 H':Hp)(s0 s':MV)(B:Heap):Prop where
 os:s'.os=s0.os
 bare:AllBare s'.gens
 un:Un (frs X.stack) [] H0 H' s0.heap s'.heap
 hok:HOk X.prog X.w H' s'.heap
 kb:∀b o,b∉frs X.stack->((∃u,H' b=some u)\/∃o0,s0.heap.get? b=some o0)->s'.heap.get? b=some o->B.get? b=some o
section
variable{X:Cx}{M9:MP}{σ:St}{H0 H':Hp}{s0 s':MV}{B h':Heap}
theorem Fl.inv(F:Fl X H0 H' s0 s' B)(I:Inv X M9 σ H0 s0):Inv X M9 σ H' s':=I.call' F.os F.un F.hok F.bare λ_ z=>nomatch z
theorem Fl.nf(F:Fl X H0 H' s0 s' B)(I:Inv X M9 σ H0 s0){b:MU}{u:HO}(h:H' b=some u):b∉frs X.stack:=λhm=>by have:=(F.inv I).stkFree b hm;rw[h]at this;cases this
theorem Fl.move{tk:Nat}(F:Fl X H0 H' s0 s' B)(I:Inv X M9 σ H0 s0)(st:B.StaysIn h')(up:s'.heap.UpToSlots h'):Fl X H0 H' s0 { s' with heap:=h',toks:=tk } B:=by
 have kp:∀b o,b∉frs X.stack->((∃u,H' b=some u)\/∃o0,s0.heap.get? b=some o0)->s'.heap.get? b=some o->h'.get? b=some o:=λb o h1 h2 h3=>st b o (F.kb b o h1 h2 h3);have sl:∀b o,b∈frs X.stack->s'.heap.get? b=some o->∃sl,h'.get? b=some { o with slots:=sl }:=λb o hm q=>by obtain⟨_,o',ho',hd⟩:=(F.inv I).stack.mem hm;have e:s'.heap.get? b=some o':=ho';rw[q]at e;cases e;exact up b o q hd
 refine#[F.os,F.bare,#[λb o q n hb hx=>kp b o hb (.inr #[o,q]) (F.un.keep b o q n hb hx),λb o q n hb hx=>?_,F.un.free,λb o q hx=>?_,F.un.tups,F.un.frzs,F.un.tbls],λb u q=>?_,λb o hb ho q=>?_]
 ·obtain⟨s1,e1⟩:=F.un.slot b o q n hb hx;obtain⟨s2,e2⟩:=sl b _ hb e1;exact#[s2,e2]
 ·obtain⟨o',e1⟩:=F.un.there b o q hx;by_cases hb:b∈frs X.stack
  ·obtain⟨s2,e2⟩:=sl b o' hb e1;exact#[_,e2]
  ·exact#[o',kp b o' hb (.inr #[o,q]) e1]
 ·refine(F.hok b u q).stay (λc v hc z=>kp c v ?_ ?_ z) (λ_ z=>z) λ_ _ z=>z
  ·rcases hc with z'|z'
   ·rw[z'];exact F.nf I q
   ·exact F.nf I z'
  ·rcases hc with z'|z'
   ·rw[z'];exact .inl #[u,q]
   ·exact .inl #[_,z']
 ·obtain⟨o1,q1⟩:∃o1,s'.heap.get? b=some o1:=by
   rcases ho with⟨u,z⟩|⟨o0,z⟩
   ·exact iC (F.hok b u z)
   ·exact F.un.there b o0 z (by simp)
  have q2:=kp b o1 hb ho q1;have q':h'.get? b=some o:=q;rw[q']at q2;cases q2;exact F.kb b o hb ho q1
end
structure ExC(K:W.Frag)(C:MU)(bm:MT):Prop where
 cls:∀h,K.In h->∃nm q N bs hdct sn sub ab col dd k0 k1 k2 k3 k5 ni,h.get? C=some (excClassObj nm q C N bs bm hdct sn sub ab col dd k0 k1 k2 k3 k5 ni)
 exc:bm.contains (.type "BaseException")=true
theorem wO{M:Model}{A:MZ}{E:MQ}{s:MV}{e C T:MU}{oe:Obj}{bmC bmT:MT}{K:W.Frag}{Q:Bool->MV->Prop}(hC:ExC K C bmC)(hT:ExC K T bmT)(hk:K.In s.heap)(he:s.heap.get? e=some oe)(hcls:oe.cls=.ref C)(hq:Q ((Value.ref C::bmC).contains (.ref T)) s):wpAny M A (excMatches (.ref e) (.ref T)) Q E s:=by
 obtain⟨nm,q,N,bs,hdct,sn,sub,ab,col,dd,k0,k1,k2,k3,k5,ni,oC⟩:=hC.cls _ hk;obtain⟨nm',q',N',bs',hdct',sn',sub',ab',col',dd',k0',k1',k2',k3',k5',ni',oT⟩:=hT.cls _ hk;obtain⟨hp,g,d,tk,os⟩:=s;have hcB:(Value.ref T::bmT).contains (.type "BaseException")=true:=by rw[Y9,hT.exc,Bool.or_true]
 have f:=tc_notTuple;unfold excMatches;generalize hr:(Value.ref C::bmC).contains (Value.ref T)=r at hq
 repeat(first|(with_reducible refine YX he ?_;rw[hcls])|with_reducible refine YX oT ?_|(with_reducible refine wpAny_isSubtype_exc oT ?_;rw[hcB])|(with_reducible refine wpAny_isSubtype_exc oC ?_;rw[hr])|wp_step)
 cases r<;>(first|exact hq|(wp_walk;exact hq))
def Cx.exc(X:Cx)(e:MW):Cx:={ X with A:=X.A.mark (some e),calm:=false,xe:=λ_ _=>False }
section
variable{X:Cx}{M9:MP}{σ:St}{H:Hp}{s:MV}{e:MW}
theorem Inv.exc(I:Inv X M9 σ H s)(e:MW):Inv (X.exc e) M9 σ H s :=
 #[#[I.ok.mod,I.ok.kind,I.ok.glob,I.ok.blt,I.ok.above,I.ok.inj,I.ok.has,I.ok.cab,λz=>(nomatch z),I.ok.frames,I.ok.stk,I.ok.exf,I.ok.bs,I.ok.bsz,I.ok.noex,I.ok.exfs,I.ok.funs,I.ok.frf],I.os,I.bare,I.base,I.loc,I.cell,I.free,I.freeC,I.pin,I.hok,I.len]
theorem Inv.unexc(ok:X.Ok)(I:Inv (X.exc e) M9 σ H s):Inv X M9 σ H s:=#[ok,I.os,I.bare,I.base,I.loc,I.cell,I.free,I.freeC,I.pin,I.hok,I.len]
end
abbrev TH:=Ends->St->MW->Option MU->Hp->Prop
structure QH(X:Cx)(hs:List ExceptHandler)(th:TH):Prop where
 h:∀(M9:MP) (s0:MV) (H0:Hp) (σ:St) (D:Ends) (ea t:MU) (C:MW) (B:Heap) (H':Hp) (dc:Option MU) (s':MV),Inv X M9 σ H0 s0->Fl X H0 H' s0 s' B->Heap.FlyingW B X.stack ea C (.ref t) s'.heap->dZ s'.heap ea dc->th D σ C dc H' ->
  wpAny (model X.prog X.w) X.A (handleBy (.ref ea) X.env hs) (SP X M9 D) X.xe s'
section
variable{X:Cx}
def J8(tb:TSX)(th:TH):TS:=λD σ H=>tb D σ H λC dc H1=>th D σ C dc H1
theorem Iv{st:Stmt}{tb:TSX}{th:TH}{h0:ExceptHandler}{hs:List ExceptHandler}{pos:Pos}(hst:X.stack=X.env::X.outer)(hfr:X.env.frame=some X.env.locals)(hb:QSX X st tb)(hh:QH X (h0::hs) th) :
  QS X (.Try [st] (h0::hs) [] [] pos) (J8 tb th):=by
 refine#[?_];intro M9 s σ H D I h;refine wpAny_Try_except (wpAny_execs_cons (ZL (hb.h M9 s σ H D _ I h) (λf s1 q=>?_) (λe s1 x=>?_)))
 ·cases f with
  |next=>exact wpAny_execs_nil (wpAny_execs_nil q)
  |brk=>exact q
  |cont=>exact q
  |ret v=>exact q
 ·obtain⟨s0,H0,I0,ea,t,C,vs,B,H',dc,rfl,os,bare,un,hok,fly,tup,hBt,kb,dd,q⟩:=x;have F:Fl X H0 H' s0 s1 B:=#[os,bare,un,hok,kb]
  have fr:X.A.frames=some (X.env::X.outer):=by rw[<-hst];exact I.ok.frames
  rw[hst]at fly;refine ph fr hfr fly dd λh4 held up4 dd4=>?_;obtain⟨f1,f2,f3,f4⟩:=held;refine jX f1 f3 f4 dd4 λh5 k1 k2 k3 up5 dd5=>?_;have F5:=(F.move (tk:=s1.toks) I0 k1 (up4.trans up5))
  rw[<-hst]at k2;exact hh.h M9 s0 H0 σ D ea t C B H' dc _ I0 F5 #[k1,f2,k2,k3] dd5 q
end
abbrev VE:MT:=[.type "ValueError",.type "Exception",.type "BaseException",.type "object"]
structure ExcAt(K:W.Frag)(C:MU)(bm:MT):Prop where
 isIn:excIn K C VE "ValueError.__new__" = true
 mro:∃c d cd sl,K.lookup C=some #[c,d,.cls cd,sl]/\cd.mro=Value.ref C::bm
 exc:bm.contains (.type "BaseException")=true
theorem rQ{K:W.Frag}{C:MU}{bm:MT}(q:ExcAt K C bm){h:Heap}(X:K.In h) :
  ∃nm qn N bs hdct sn sub ab col dd k0 k1 k2 k3 k5 mN,h.get? C=some (excClassObj nm qn C N bs bm hdct sn sub ab col dd k0 k1 k2 k3 k5 "ValueError.__new__")/\h.Ns N mN/\mN "__init__" = none/\OwnTail h VE bm:=by
 have q1:=q.isIn;obtain⟨c9,d9,cd9,sl9,l9,m9⟩:=q.mro;unfold excIn at q1;split at q1
 ·rename_i dd cd sl ho;split at q1
  ·rename_i C' bm' k0 k1 k2 k3 n k5 hm hs;have q2:cd.mro=Value.ref C::bm:=by have z:=ho.symm.trans l9;cases z;exact m9
   rw[hm]at q2;injection q2 with z1 z2;injection z1 with z1;cases z1;cases z2;simp only[Zw,Z6,Bool.not_eq_true']at q1;obtain⟨⟨⟨⟨⟨_,rfl⟩,nd⟩,ht⟩,ok⟩,ni⟩:=q1;have es:sl=(List.toArray [k0,k1,k2,k3,some (.builtin "ValueError.__new__"),k5]):=by obtain⟨l⟩:=sl;simp only at hs;rw[hs]
   cases es;obtain⟨nm,bs,mro,ns,qn,hd,sn,sub,ab,col,del⟩:=cd;dsimp only at hm nd ok ni;cases hm;cases nd;exact#[nm,qn,ns,bs,hd,sn,sub,ab,col,dd,k0,k1,k2,k3,k5,_,X _ _ ho,.of_isNs (isNs_of_in X ok),nsMap_none_of_in X ok ni,tail_of_in X ht]
  ·cases q1
 ·cases q1
theorem uL{K:W.Frag}{C:MU}{bm:MT}(q:ExcAt K C bm):ExC K C bm where
 cls:=λh X=>by obtain⟨nm,qn,N,bs,hdct,sn,sub,ab,col,dd,k0,k1,k2,k3,k5,mN,e,_⟩:=rQ q X;exact#[nm,qn,N,bs,hdct,sn,sub,ab,col,dd,k0,k1,k2,k3,k5,_,e]
 exc:=q.exc
theorem nB{K:W.Frag}{C:MU}{bm:MT}(q:ExcAt K C bm):ExCls K C where
 cls:=λh X=>by obtain⟨nm,qn,N,bs,hdct,sn,sub,ab,col,dd,k0,k1,k2,k3,k5,mN,e,e2,e3,e4⟩:=rQ q X;exact#[nm,qn,N,bs,bm,hdct,sn,sub,ab,col,dd,k0,k1,k2,k3,k5,mN,e,e2,e3,(uL q).exc,e4]
structure ExK(K:W.Frag)(c:MU):Prop where
 hc:(clsIn K c).isSome=true
 hga:findIn K (.ref c) "__getattribute__" = some (some (.builtin "BaseException.__getattribute__"))
 hgh:findIn K (.ref c) "__getattr__" = some none
 ha:findIn K (.ref c) "__class__" = some (some (.builtin "object.__class__"))
 hb:mroIn K c (.type "BaseException")=some true
 hm:mroIn K c (.type "object")=some true
def J2(i:Int):Str:=Str.ofString (toString i)
theorem xO{K:W.Frag}{a b:MU}{xs ys:List V}{i j:Nat}{tb:TS}{D:Ends}{σ:St}{H:Hp}(Pv:Nat->St->Hp->Prop)(h0:Pv 0 σ H)(ha:∀i σ H,i<=xs.length->Pv i σ H->SqT K H a xs)(hb:∀i σ H,i<=xs.length->Pv i σ H->SqT K H b ys)(hl:xs.length=ys.length)(hs:∀k x y σ H,xs[k]?=some x->ys[k]?=some y->Pv k σ H->∀T,H T=none->tb { D with nx:=Pv (k+1),ct:=Pv (k+1),bk:=D.nx } ((σ.set i (some x)).set j (some y)) (upd H T (.tup [x,y])))(hd:∀σ H,Pv xs.length σ H->D.nx σ H) :
  ∃W:Nat->Nat->St->Hp->Prop,(∃m,W 0 m σ H)/\∀k m σ H,W k m σ H ->
   ((Itz K a b xs ys).stop k H/\D.nx σ H)\/((Itz K a b xs ys).go k H/\∃N:St->Hp->Prop,(∀σ' H',N σ' H'->∃m',m'<m/\W (k+1) m' σ' H')/\∀x H',(Itz K a b xs ys).yld k H x H'->jZ K 2 (dS (bo i) (dS (bo j) jY)) x σ H' λσ2 H2=>tb { D with nx:=N,ct:=N,bk:=D.nx } σ2 H2):=by
 refine#[λk m σ H=>m=xs.length-k/\k<=xs.length/\Pv k σ H,#[xs.length,by simp,ZU _,h0],?_];rintro k m σ H ⟨rfl,hk,pv⟩;by_cases hlt:k<xs.length
 ·refine .inr #[#[hlt,ha k σ H hk pv,hb k σ H hk pv],Pv (k+1),λσ' H' z=>#[xs.length-(k+1),∅,rfl,hlt,z],λx H' y=>?_];obtain⟨T,p,q,hT,hx,hy,rfl,rfl⟩:=y;exact#[T,[p,q],rfl,Nb ad,rfl,p,[q],rfl,q,[],rfl,rfl,hs k p q σ H hx hy pv T hT]
 ·have e:k=xs.length:=∅
  subst e;exact .inl #[#[rfl,ha _ σ H hk pv,hb _ σ H hk pv],hd σ H pv]
def uJ(z:Str)(lo hi:Option Int):Str:=if(Builtin.Str.strSliceIndices lo hi 1 z.length).length=z.length then z else#[((Builtin.Str.strSliceIndices lo hi 1 z.length).filterMap (z.cps[·]?)).toArray]
theorem nz(z:Str)(lo hi:Option Int):(uJ z lo hi).length<=z.length:=by
 unfold uJ;split
 ·exact Za _
 ·show(List.filterMap _ _).toArray.size<=_;rw[Zf];exact Zq (List.length_filterMap_le _ _) (indices_len_le _ _ _)
section
variable{X:Cx}{K:W.Frag}
theorem BR:QSl X (λx lo hi H Q=>∃z:Str,x=.str z/\z.length<=1000/\Q (.str (uJ z lo hi)) H):=by
 refine#[?_];intro M9 s σ H x v vl vu lo hi sl Q I rx hs pl pu h;obtain⟨z,rfl,hz,q⟩:=h;obtain⟨t,rfl⟩:=rx;have pt:∀{v:MW} {o:Option Int},IsPart v o->∃p:Option (Int×Tok),v=partValue p/\p.map (·.1)=o:=fun{v o} p=>by
  cases p with
  |none=>exact#[none,rfl,rfl]
  |int i t=>exact#[some (i,t),rfl,rfl]
 obtain⟨l,rfl,hl⟩:=pt pl;obtain⟨u,rfl,hu⟩:=pt pu;have e:slicePicked z l u none=Builtin.Str.strSliceIndices lo hi 1 z.length:=by unfold slicePicked;rw[hl,hu];rfl
 refine#["str",_,F.slot_str_getitem.lookup,typeIs_str _ _ _,wpAny_getItem_str_slice (l:=l) (u:=u) (st:=none) hs rfl ?_];have hy:=nz z lo hi;unfold sliceMade;unfold uJ at q hy;rw[e];split
 ·rename_i hc;have hc':(Builtin.Str.strSliceIndices lo hi 1 z.length).length=z.length:=by simpa using hc
  rw[MO hc']at q;exact#[.str z,H,I,#[_,rfl],q]
 ·rename_i hc;have hc':¬(Builtin.Str.strSliceIndices lo hi 1 z.length).length=z.length:=by simpa using hc
  rw[MN hc']at q hy;exact#[fP (Zq hy hz),.str _,H,I.tok _,#[_,rfl],q]
end
def KIn{α:Type}(n:Nat)(P:α->Prop):KasT α->Prop
 |.ret a=>P a
 |.ask i j k=>i<n/\j<n/\∀b,KIn n P (k b)
theorem KIn.bind{α β:Type}{n:Nat}{P:α->Prop}{R:β->Prop}{f:α->KasT β}:∀{t:KasT α},KIn n P t->(∀a,P a->KIn n R (f a))->KIn n R (t.bind f)
 |.ret _,h,k=>k _ h
 |.ask _ _ _,⟨h1,h2,h3⟩,k=>#[h1,h2,λb=>KIn.bind (h3 b) k]
def POk(n:Nat)(p:M6):Prop:=p.Perm (List.range n).toArray
theorem POk.lt{n:Nat}{p:M6}(h:POk n p)(hn:0<n)(k:Nat):p.getD k 0<n:=by
 rw[Z9];cases e:p[k]? with
 |none=>exact hn
 |some x =>have hm:x∈p:=Array.mem_of_getElem? e;have:=(h.mem_iff).mp hm;simpa using this
theorem POk.rev{n:Nat}{p:M6}(h:POk n p)(i j:Nat):POk n (kas_rev p i j):=(mirror_perm p i j _).trans h
theorem POk.bub{n:Nat}{p:M6}(h:POk n p)(i j:Nat):POk n (bubble p i j):=(bubble_perm p i j).trans h
theorem qE{n:Nat}(hn:0<n){p:M6}(h:POk n p):∀f k,KIn n (λ_=>True) (kas_asc p f k)
 |0,_=>trivial
 | f+1,k=>#[h.lt hn _,h.lt hn _,λc=>by
  cases c with
  |true=>exact trivial
  | false=>exact qE hn h f (k+1)]
theorem ki{n:Nat}(hn:0<n):∀(f:Nat) {p:M6},POk n p->∀k q,KIn n (λr=>POk n r.1) (kas_desc f p k q)
 |0,_,h,_,_=>h
 |f+1,p,h,k,q=>by
  refine#[h.lt hn _,h.lt hn _,λc=>?_];cases c with
  |true =>
   show KIn n _ (if q>0 then _ else _);split
   ·exact ki hn f (h.rev _ _) _ _
   ·exact ki hn f h _ _
  |false =>
   refine#[h.lt hn _,h.lt hn _,λd=>?_];cases d with
   |true=>exact h
   |false=>exact ki hn f h _ _
theorem uZ{n:Nat}(hn:0<n){p:M6}(h:POk n p)(k r:Nat):KIn n (λr=>POk n r.2) (kas_tail3 k r p):=KIn.bind (qE hn (h.rev 0 k) _ _) λ_ _=>h.rev 0 k
theorem lm{n:Nat}(hn:0<n){p:M6}(h:POk n p)(k r:Nat):KIn n (λr=>POk n r.2) (kas_descPart k r p):=KIn.bind (ki hn _ h _ _) λx hx=>by
 show KIn n _ (if x.2.2>0 then _ else _);split
 ·exact uZ hn (hx.rev _ _) _ _
 ·exact uZ hn hx _ _
theorem BO{n:Nat}(hn:0<n){p:M6}(h:POk n p)(r:Nat):KIn n (λr=>POk n r.2) (kas_count r p):=KIn.bind (qE hn h _ _) λk _=>by
 show KIn n _ (if(k==r)=true then _ else if k>1 then _ else _);split
 ·exact h
 ·split
  ·refine#[h.lt hn _,h.lt hn _,λc=>?_];cases c with
   |true=>exact h
   |false=>exact lm hn (h.rev _ _) _ _
  ·exact lm hn h _ _
theorem ls{n:Nat}(hn:0<n){p:M6}(h:POk n p)(k:Nat):∀f l r,KIn n (λ_=>True) (kas_place p k f l r)
 |0,_,_=>trivial
 |f+1,l,r=>by
  show KIn n _ (if l>=r then _ else _);split
  ·exact trivial
  ·refine#[h.lt hn _,h.lt hn _,λc=>?_];cases c with
   |true=>exact ls hn h k f _ _
   |false=>exact ls hn h k f _ _
theorem xU{n:Nat}(hn:0<n):∀(f:Nat) {p:M6},POk n p->∀k,KIn n (POk n) (kas_bin f p k)
 |0,_,h,_=>h
 |f+1,_,h,k=>KIn.bind (ls hn h k _ _ _) λ_ _=>xU hn f (h.bub _ _) (k+1)
theorem DD{n:Nat}(hn:0<n):KIn n (POk n) (kas_sort n):=KIn.bind (BO hn (Array.Perm.refl _) _) λr hr=>by
 show KIn n _ (if r.1<n then _ else _);split
 ·exact xU hn _ hr _
 ·exact hr
section
variable{X:Cx}
theorem GW{K:W.Frag}(hK:X.K=K)(hc:X.calm=true):QCall X (.builtin "sum") (λxs H Q=>∃(p:MU) (ns:M5),xs=[.ref p]/\SqT K H p (ns.map V.int)/\Q (.int ns.sum) H):=by
 subst hK;refine#[?_];intro M9 s σ H xs us Q I r h;obtain⟨p,ns,rfl,hS,q⟩:=h;obtain⟨u,rfl,ru⟩:=bZ r;cases ru;obtain⟨its,rv,pl,hz⟩:=I.tuple hS;obtain⟨ys,e1,e2⟩:=fG (dB rv);have hl:s.heap.IsTuple p (intItems ys.toArray):=by obtain⟨o,ho,hc',n,hd⟩:=pl;rw[e1]at hd;exact#[o,ho,hc',n,by simpa[intItems]using hd]
 refine ktm_sumG (I.ok.hd hc) hl λh' tk t' hk=>#[.int ns.sum,H,I.kept (t':=tk) hk,#[t',?_],q]
 have e:preSum (numAt ys.toArray) ys.toArray.size=ns.sum:=by rw[preSum_eq,Yd (by simp),e2]
 rw[e]
theorem km{K:W.Frag}(hK:X.K=K):QOp X (compareOp .In) (rIn K false):=by subst hK;exact#[Cf]
end
def KW{α:Type}(lt:M7)(Q:α->Prop):KasT α->Prop
 |.ret a=>Q a
 |.ask i j k=>KW lt Q (k (lt i j))
theorem KW.bind{α β:Type}{lt:M7}{Q:β->Prop}{f:α->KasT β}:∀{t:KasT α},KW lt (λa=>KW lt Q (f a)) t->KW lt Q (t.bind f)
 |.ret _,h=>h
 |.ask i j k,h=>KW.bind (t:=k (lt i j)) h
theorem KW.mono{α:Type}{lt:M7}{Q R:α->Prop}(k:∀a,Q a->R a):∀{t:KasT α},KW lt Q t->KW lt R t
 |.ret _,h=>k _ h
 |.ask i j c,h=>KW.mono k (t:=c (lt i j)) h
structure LtOk(lt:M7):Prop where
 as:∀{a b},lt a b=true->lt b a=false
 tr:∀{a b c},lt b a=false->lt c b=false->lt c a=false
def gA(p:M6)(k:Nat):Nat:=p.getD k 0
def Lx(lt:M7)(a b:Nat):Prop:=lt b a=false/\(lt a b=true\/a<b)
section
variable{lt:M7}(O:LtOk lt)
include O
theorem LtOk.lt_le{a b c:Nat}(h:lt a b=true)(h2:lt c b=false):lt a c=true:=by
 cases e:lt a c with
 |true=>rfl
 |false=>rw[O.tr h2 e]at h;cases h
theorem LtOk.le_lt{a b c:Nat}(h:lt b a=false)(h2:lt b c=true):lt a c=true:=by
 cases e:lt a c with
 |true=>rfl
 |false=>rw[O.tr e h]at h2;cases h2
theorem Lx.trans{a b c:Nat}(h:Lx lt a b)(k:Lx lt b c):Lx lt a c:=by
 refine#[O.tr h.1 k.1,?_];rcases h.2 with x|x
 ·exact .inl (O.lt_le x k.1)
 ·rcases k.2 with y|y
  ·exact .inl (O.le_lt h.1 y)
  ·exact .inr (Nat.lt_trans x y)
theorem Lx.of_lt{a b:Nat}(h:lt a b=true):Lx lt a b:=#[O.as h,.inl h]
end
structure Fx(N:Nat)(p:M6)(m:Nat):Prop where
 sz:p.size=N
 hi:∀k,m<=k->k<N->gA p k=k
 lo:∀i,i<m->gA p i<m
def LS(lt:M7)(p:M6)(m:Nat):Prop:=∀i j,i<j->j<m->Lx lt (gA p i) (gA p j)
def AS(lt:M7)(p:M6)(m:Nat):Prop:=∀i j,i<j->j<m->Lx lt (gA p j) (gA p i)
theorem Fx.succ{N:Nat}{p:M6}{m:Nat}(h:Fx N p m)(hm:m<N):Fx N p (m+1):=#[h.sz,λk h1 h2=>h.hi k ∅ h2,λi hi=>by
 rcases Yp i m with h1|h1
 ·have:=h.lo i h1;omega
 ·have e:i=m:=∅
  subst e;rw[h.hi i (Za _) hm];omega]
theorem dJ{p:M6}{i j k:Nat}(hj:j<=p.size):gA (kas_rev p i j) k=if i<=k/\k<j then gA p (i+j-1-k)else gA p k:=by
 unfold gA kas_rev;rw[Z9,getElem?_mirror_all hj];split
 ·rw[Z9]
 ·rw[Z9]
theorem oW(p:M6)(k:Nat):gA p k=(p[k]?).getD 0:=by unfold gA;rw[Z9]
theorem G3{p:M6}{k d i:Nat}(hk:k<p.size)(hd:d<=k):gA (bubble p k d) i=if i=k-d then gA p k else if k-d<i/\i<=k then gA p (i-1)else gA p i:=by
 rw[oW,getElem?_bubble hk d hd];split
 ·rw[oW]
 ·split
  ·rw[oW]
  ·rw[oW]
theorem Fx.rev{N:Nat}{p:M6}{m i j:Nat}(h:Fx N p m)(hj:j<=m)(hm:m<=N):Fx N (kas_rev p i j) m:=by
 have hs:j<=p.size:=by rw[h.sz];omega
 refine#[by rw[kas_rev_size];exact h.sz,λk h1 h2=>?_,λk hk=>?_]
 ·rw[dJ hs,MN ∅];exact h.hi k h1 h2
 ·rw[dJ hs];split
  ·exact h.lo _ ∅
  ·exact h.lo _ hk
section
variable{lt:M7}(O:LtOk lt){N:Nat}
include O
theorem LS.step{p:M6}{n:Nat}(h:LS lt p n)(hx:Lx lt (gA p (n-1)) (gA p n))(h1:1<=n):LS lt p (n+1):=λi j hij hj=>by
 rcases Yp j n with h2|h2
 ·exact h i j hij h2
 ·have e:j=n:=∅
  subst e;rcases Yp i (j-1)with h3|h3
  ·exact(h i (j-1) h3 ∅).trans O hx
  ·have e:i=j-1:=∅
   subst e;exact hx
theorem vc{p:M6}:∀(f n:Nat),1<=n->n+f<=N->Fx N p n->LS lt p n->KW lt (λm=>n<=m/\m<=n+f/\Fx N p m/\LS lt p m/\(m<n+f->lt (gA p m) (gA p (m-1))=true)) (kas_asc p f n)
 |0,n,_,_,hf,hs=>#[Za _,Za _,hf,hs,λh=>absurd h ∅]
 |f+1,n,h1,hN,hf,hs=>by
  show KW lt _ (if lt (gA p n) (gA p (n-1))=true then .ret n else kas_asc p f (n+1));by_cases c:lt (gA p n) (gA p (n-1))=true
  ·rw[MO c];exact#[Za _,∅,hf,hs,λ_=>c]
  ·rw[MN c];have c':=YY.mpr c;have hx:Lx lt (gA p (n-1)) (gA p n):=#[c',.inr (by rw[hf.hi n (Za _) ∅];exact hf.lo _ ∅)]
   refine KW.mono (λm hm=>?_) (vc f (n+1) ∅ ∅ (hf.succ ∅) (hs.step O hx h1));exact#[∅,∅,hm.2.2.1,hm.2.2.2.1,λz=>hm.2.2.2.2 ∅]
theorem AS.rev{p:M6}{n:Nat}(h:AS lt p n)(hn:n<=p.size):LS lt (kas_rev p 0 n) n:=λi j hij hj=>by rw[dJ hn,dJ hn,MO ∅,MO ∅];exact h _ _ ∅ ∅
theorem xW{p:M6}{n:Nat}(h1:1<=n)(hN:n<=N)(hf:Fx N p n)(ha:AS lt p n):KW lt (λr=>r.1<=N/\1<=r.1/\Fx N r.2 r.1/\LS lt r.2 r.1) (kas_tail3 n N p):=by refine KW.bind (KW.mono (λm hm=>?_) (vc O (N:=N) (N-n) n h1 ∅ (hf.rev (Za _) hN) (ha.rev O (by rw[hf.sz];exact hN))));exact#[∅,∅,hm.2.2.1,hm.2.2.2.1]
structure Dn(lt:M7)(p:M6)(n q:Nat):Prop where
 hq:q+1<=n
 up:∀i j,i<j->j<n-(q+1)->Lx lt (gA p j) (gA p i)
 cr:∀i j,i<n-(q+1)->n-(q+1)<=j->j<n->lt (gA p j) (gA p i)=true
 eq:∀i j,n-(q+1)<=i->i<j->j<n->lt (gA p i) (gA p j)=false/\lt (gA p j) (gA p i)=false/\gA p i<gA p j
theorem Dn.rev{p:M6}{n q:Nat}(h:Dn lt p n q)(hn:n<=p.size):AS lt (kas_rev p (n-(q+1)) n) n:=λi j hij hj=>by
 have hq:=h.hq;rw[dJ hn,dJ hn];by_cases c1:n-(q+1)<=i
 ·rw[MO ∅,MO ∅];obtain⟨e1,e2,e3⟩:=h.eq (n-(q+1)+n-1-j) (n-(q+1)+n-1-i) ∅ ∅ ∅;exact#[e2,.inr e3]
 ·rw[MN (show¬(n-(q+1)<=i/\i<n) by omega)];by_cases c2:n-(q+1)<=j
  ·rw[MO ∅];exact Lx.of_lt O (h.cr _ _ ∅ ∅ ∅)
  ·rw[MN ∅];exact h.up _ _ hij ∅
theorem Dn.zero{p:M6}{n:Nat}(h:Dn lt p n 0):AS lt p n:=λi j hij hj=>by
 rcases Yp j (n-1)with c|c
 ·exact h.up i j hij c
 ·exact Lx.of_lt O (h.cr i j ∅ ∅ hj)
theorem Dn.start{p:M6}{n:Nat}(h:AS lt p n)(h1:1<=n)(hl:lt (gA p n) (gA p (n-1))=true):Dn lt p (n+1) 0:=by
 refine#[∅,λi j hij hj=>h i j hij ∅,λi j hi h2 h3=>?_,λi j h2 h3 h4=>absurd h3 ∅];have e:j=n:=∅
 subst e;rcases Yp i (j-1)with h3|h3
 ·exact O.lt_le hl (h i (j-1) h3 ∅).1
 ·have e:i=j-1:=∅
  subst e;exact hl
theorem mz:∀(f:Nat) {p:M6} {n q:Nat},n+f<=N->Fx N p n->Dn lt p n q->KW lt (λr=>n<=r.2.1/\r.2.1<=n+f/\Fx N r.1 r.2.1/\Dn lt r.1 r.2.1 r.2.2) (kas_desc f p n q)
 |0,_,n,_,_,hf,hd=>#[Za _,Za _,hf,hd]
 |f+1,p,n,q,hN,hf,hd=>by
  have hs:n<=p.size:=by rw[hf.sz];omega
  have hq:=hd.hq;show KW lt _ (if lt (gA p n) (gA p (n-1))=true then(if q>0 then kas_desc f (kas_rev p (n-(q+1)) n) (n+1) 0 else kas_desc f p (n+1) 0)else KasT.ask (gA p (n-1)) (gA p n) λd=>if d=true then .ret (p,n,q)else kas_desc f p (n+1) (q+1));by_cases c:lt (gA p n) (gA p (n-1))=true
  ·rw[MO c];have wk:∀{r:M6×Nat×Nat},(n+1<=r.2.1/\r.2.1<=n+1+f/\Fx N r.1 r.2.1/\Dn lt r.1 r.2.1 r.2.2)->n<=r.2.1/\r.2.1<=n+(f+1)/\Fx N r.1 r.2.1/\Dn lt r.1 r.2.1 r.2.2:=λh=>#[∅,∅,h.2.2.1,h.2.2.2]
   by_cases cq:q>0
   ·rw[MO cq];have fr:=hf.rev (i:=n-(q+1)) (Za n) ∅;have e1:gA (kas_rev p (n-(q+1)) n) n=gA p n:=by rw[dJ hs,MN ∅]
    have e2:gA (kas_rev p (n-(q+1)) n) (n-1)=gA p (n-(q+1)):=by rw[dJ hs,MO ∅];congr 1;omega
    have l2:lt (gA p n) (gA p (n-(q+1)))=true:=O.lt_le c (hd.eq (n-(q+1)) (n-1) (Za _) ∅ ∅).1;refine KW.mono (λr h=>wk h) (mz f ∅ (fr.succ ∅) (Dn.start O (hd.rev O hs) ∅ (by rw[e1,e2];exact l2)))
   ·rw[MN cq];have e:q=0:=∅
    subst e;exact KW.mono (λr h=>wk h) (mz f ∅ (hf.succ ∅) (Dn.start O (hd.zero O) ∅ c))
  ·rw[MN c];have c':=YY.mpr c;show KW lt _ (if lt (gA p (n-1)) (gA p n)=true then _ else _);by_cases d:lt (gA p (n-1)) (gA p n)=true
   ·rw[MO d];exact#[Za _,Nat.le_add_right _ _,hf,hd]
   ·rw[MN d];have d':=YY.mpr d;have gn:gA p n=n:=hf.hi n (Za _) ∅;have same:∀i,n-(q+1)<=i->i<n->lt (gA p i) (gA p n)=false/\lt (gA p n) (gA p i)=false:=λi h1 h2=>by
     rcases Yp i (n-1)with h3|h3
     ·obtain⟨a1,a2,_⟩:=hd.eq i (n-1) h1 h3 ∅;exact#[O.tr d' a1,O.tr a2 c']
     ·have e:i=n-1:=∅
      subst e;exact#[d',c']
    refine KW.mono (λr h=>#[∅,∅,h.2.2.1,h.2.2.2]) (mz f (n:=n+1) (q:=q+1) ∅ (hf.succ ∅) #[∅,λi j hij hj=>hd.up i j hij ∅,λi j hi h2 h3=>?_,λi j h1 h2 h3=>?_])
    ·rcases Yp j n with h4|h4
     ·exact hd.cr i j ∅ ∅ h4
     ·have e:j=n:=∅
      subst e;exact O.le_lt d' (hd.cr i (j-1) ∅ ∅ ∅)
    ·rcases Yp j n with h4|h4
     ·exact hd.eq i j ∅ h2 h4
     ·have e:j=n:=∅
      subst e;obtain⟨a1,a2⟩:=same i ∅ h2;exact#[a1,a2,by rw[gn];exact hf.lo _ h2]
theorem mU{p:M6}{n:Nat}(h1:1<=n)(hN:n<N)(hf:Fx N p n)(ha:AS lt p n)(hl:lt (gA p n) (gA p (n-1))=true):KW lt (λr=>r.1<=N/\1<=r.1/\Fx N r.2 r.1/\LS lt r.2 r.1) (kas_descPart n N p):=by
 refine KW.bind (KW.mono (λr hr=>?_) (mz O (N:=N) (N-(n+1)) ∅ (hf.succ hN) (Dn.start O ha h1 hl)));obtain⟨r1,r2,r3,r4⟩:=hr;show KW lt _ (if r.2.2>0 then _ else _);by_cases c:r.2.2>0
 ·rw[MO c];exact xW O ∅ ∅ (r3.rev (Za _) ∅) (r4.rev O (by rw[r3.sz];omega))
 ·rw[MN c];have e:r.2.2=0:=∅
  rw[e]at r4;exact xW O ∅ ∅ r3 (r4.zero O)
theorem DG{p:M6}(hN:1<=N)(hf:Fx N p 1):KW lt (λr=>r.1<=N/\1<=r.1/\Fx N r.2 r.1/\LS lt r.2 r.1) (kas_count N p):=by
 refine KW.bind (KW.mono (λn hn=>?_) (vc O (N:=N) (N-1) 1 (Za _) ∅ hf (λi j h1 h2=>absurd h1 ∅)));obtain⟨n1,n2,nf,ns,nl⟩:=hn;show KW lt _ (if(n==N)=true then KasT.ret (n,p)else if n>1 then KasT.ask (gA p 0) (gA p (n-1)) (λc=>if c=true then .ret (n,p)else kas_descPart n N (kas_rev p 0 n))else kas_descPart n N p);by_cases c:(n==N)=true
 ·rw[MO c];exact#[∅,n1,nf,ns]
 ·rw[MN c];have nN:n<N:=by have:n≠N:=λz=>c (Z6.mpr z);omega
  have hl:=nl ∅;by_cases c2:n>1
  ·rw[MO c2];show KW lt _ (if lt (gA p 0) (gA p (n-1))=true then _ else _);by_cases c3:lt (gA p 0) (gA p (n-1))=true
   ·rw[MO c3];exact#[∅,n1,nf,ns]
   ·rw[MN c3];have c3':=YY.mpr c3;have hs:n<=p.size:=by rw[nf.sz];omega
    have le0:∀i,i<n->lt (gA p i) (gA p 0)=false:=λi hi=>by
     rcases Nat.eq_zero_or_pos i with z|z
     ·subst z;cases e:lt (gA p 0) (gA p 0)with
      |false=>rfl
      |true=>rw[O.as e]at e;cases e
     ·exact(ns 0 i z hi).1
    have leN:∀i,i<n->lt (gA p (n-1)) (gA p i)=false:=λi hi=>by
     rcases Yp i (n-1)with z|z
     ·exact(ns i (n-1) z ∅).1
     ·have e:i=n-1:=∅
      subst e;cases e:lt (gA p (n-1)) (gA p (n-1))with
      |false=>rfl
      |true=>rw[O.as e]at e;cases e
    have all:∀i j,i<n->j<n->lt (gA p i) (gA p j)=false:=λi j hi hj=>O.tr (leN j hj) (O.tr c3' (le0 i hi));refine mU O n1 nN (nf.rev (Za _) ∅) (λi j hij hj=>?_) ?_
    ·rw[dJ hs,dJ hs,MO ∅,MO ∅];have z:=ns (0+n-1-j) (0+n-1-i) ∅ ∅;refine#[all _ _ ∅ ∅,?_];rcases z.2 with y|y
     ·rw[all _ _ ∅ ∅]at y;cases y
     ·exact .inr y
    ·rw[dJ hs,dJ hs,MN ∅,MO ∅];exact O.lt_le hl (all _ _ ∅ ∅)
  ·rw[MN c2];have e:n=1:=∅
   subst e;exact mU O n1 nN nf (λi j h1 h2=>absurd h1 ∅) hl
theorem nG{p:M6}{k:Nat}(hs:LS lt p k):∀(f l r:Nat),r-l<=f->r<=k->(∀i,i<l->i<k->lt (gA p k) (gA p i)=false)->(∀i,r<=i->i<k->lt (gA p k) (gA p i)=true)->l<=r ->
  KW lt (λm=>m<=k/\(∀i,i<m->lt (gA p k) (gA p i)=false)/\∀i,m<=i->i<k->lt (gA p k) (gA p i)=true) (kas_place p k f l r)
 |0,l,r,h1,h2,h3,h4,h5=>#[∅,λi hi=>h3 i hi ∅,λi hi=>h4 i ∅]
 |f+1,l,r,h1,h2,h3,h4,h5=>by
  show KW lt _ (if l>=r then KasT.ret l else KasT.ask (gA p k) (gA p ((l+r) / 2)) λc=>if c=true then kas_place p k f l ((l+r) / 2)else kas_place p k f ((l+r) / 2+1) r);by_cases c:l>=r
  ·rw[MO c];exact#[∅,λi hi=>h3 i hi ∅,λi hi=>h4 i ∅]
  ·rw[MN c];show KW lt _ (if lt (gA p k) (gA p ((l+r) / 2))=true then _ else _);by_cases d:lt (gA p k) (gA p ((l+r) / 2))=true
   ·rw[MO d];refine nG hs f l ((l+r) / 2) ∅ ∅ h3 (λi hi hk=>?_) ∅;rcases Nat.eq_or_lt_of_le hi with e|e
    ·rw[<-e];exact d
    ·exact O.lt_le d (hs _ _ e hk).1
   ·rw[MN d];have d':=YY.mpr d;refine nG hs f ((l+r) / 2+1) r ∅ h2 (λi hi hk=>?_) h4 ∅;rcases Yp i ((l+r) / 2)with e|e
    ·exact O.tr (hs _ _ e ∅).1 d'
    ·have e:i=(l+r) / 2:=∅
     rw[e];exact d'
theorem BP:∀(f:Nat) {p:M6} {k:Nat},k+f=N->1<=k->Fx N p k->LS lt p k->KW lt (λp=>p.size=N/\LS lt p N) (kas_bin f p k)
 |0,p,k,e,_,hf,hs=>by
  have:k=N:=∅
  subst this;exact#[hf.sz,hs]
 |f+1,p,k,e,h1,hf,hs=>by
  refine KW.bind (KW.mono (λm hm=>?_) (nG O hs k 0 k ∅ (Za _) (λi hi=>absurd hi ∅) (λi h2 h3=>absurd h2 ∅) (ZU _)));obtain⟨m1,m2,m3⟩:=hm;have hk:k<p.size:=by rw[hf.sz];omega
  have gk:gA p k=k:=hf.hi k (Za _) ∅;have ekm:k-(k-m)=m:=∅
  have gb:∀i,gA (bubble p k (k-m)) i=if i=m then gA p k else if m<i/\i<=k then gA p (i-1)else gA p i:=λi=>by rw[G3 hk ∅,ekm]
  refine BP f ∅ ∅ #[by rw[bubble_size];exact hf.sz,λi h2 h3=>?_,λi hi=>?_] (λi j hij hj=>?_)
  ·rw[gb,MN ∅,MN ∅];exact hf.hi i ∅ h3
  ·rw[gb];split
   ·rw[gk];omega
   ·split
    ·have:=hf.lo (i-1) ∅;omega
    ·have:=hf.lo i ∅;omega
  ·have lk:∀i,i<m->Lx lt (gA p i) (gA p k):=λi hi=>#[m2 i hi,.inr (by rw[gk];exact hf.lo i ∅)]
   have gt:∀i,m<=i->i<k->Lx lt (gA p k) (gA p i):=λi h2 h3=>Lx.of_lt O (m3 i h2 h3);rw[gb,gb];by_cases a1:i=m
   ·rw[MO a1,MN ∅,MO ∅];exact gt _ ∅ ∅
   ·rw[MN a1];by_cases a2:m<i/\i<=k
    ·rw[MO a2,MN ∅,MO ∅];exact hs _ _ ∅ ∅
    ·rw[MN a2];by_cases b1:j=m
     ·rw[MO b1];exact lk i ∅
     ·rw[MN b1];by_cases b2:m<j/\j<=k
      ·rw[MO b2];exact hs _ _ ∅ ∅
      ·rw[MN b2];exact hs _ _ hij ∅
theorem Ft(hN:1<=N):KW lt (λp=>p.size=N/\LS lt p N) (kas_sort N):=by
 have f0:Fx N (List.toArray (List.range N)) 1:=by
  have g:∀k,k<N->gA (List.toArray (List.range N)) k=k:=λk hk=>by rw[oW];simp[hk]
  refine#[by simp,λk _ hk=>g k hk,λi hi=>?_];have e:i=0:=∅
  subst e;rw[g 0 ∅];decide
 refine KW.bind (KW.mono (λr hr=>?_) (DG O hN f0));obtain⟨r1,r2,r3,r4⟩:=hr;show KW lt _ (if r.1<N then kas_bin (N-max r.1 1) r.2 (max r.1 1)else .ret r.2);have e:max r.1 1=r.1:=∅
 rw[e];by_cases c:r.1<N
 ·rw[MO c];exact BP O _ ∅ r2 r3 r4
 ·rw[MN c];have e:r.1=N:=∅
  rw[e]at r3 r4;exact#[r3.sz,r4]
end
def Ite(K:W.Frag)(a:MU)(xs:List V):It :=
 #[λi H=>i<xs.length/\SqL K H a xs,λi H x H'=>∃T p,H T=none/\xs[i]?=some p/\x=.ref T/\H'=upd H T (.tup [.int i,p]),λi H=>i=xs.length/\SqL K H a xs]
abbrev eTn(e it a:MU):Nat->Heap->Prop:=λi h=>(∃old,IsEnum h e it i old)/\h.IsListIter it a i
theorem CZ{P:MX}{w:MY}{K:W.Frag}{elts:List M8}{kt:Nat}{tp:Pos}{e it a:MU}{xs:List V}(ne:e≠it)(ha:e≠a/\it≠a) :
  Turn P w K (.Tuple elts kt tp) (Ite K a xs) [e,it] e (eTn e it a):=by
 refine#[by simp,λi h st c hc=>?_,λi h h' st k=>?_,?_,?_,λA i s Q E st h=>?_]
 ·obtain⟨⟨old,e1⟩,⟨o4,e4,_,d4⟩⟩:=st;simp only[Zl,ZB,Yg]at hc;rcases hc with rfl|rfl
  ·exact#[_,e1,λv z=>nomatch z]
  ·exact#[_,e4,λv z=>by rw[d4]at z;cases z]
 ·obtain⟨⟨old,e1⟩,⟨o4,e4,r4⟩⟩:=st;exact#[#[old,k e (by simp) _ e1],#[o4,k it (by simp) _ e4,r4]]
 ·intro X hP hw hK hc i M9 s σ H E I hf st hg;subst hP hw hK;obtain⟨⟨old,e1⟩,e4⟩:=st;obtain⟨hi,hx⟩:=hg;obtain⟨its,rx,px,zx⟩:=I.list hx;have lx:i<its.toArray.size:=by rw[Zf,<-rx.length];exact hi
  have hh:=I.ok.hd hc;refine wpAny_pyNext_enum_itemD (Draws.list (A:=X.A.in1) hh it a ha.2.symm its.toArray) e1 #[e4,px.isList] lx ne (by simp[ne,ha.1]) λx h' tk qx ho hs' hT hsz hk=>?_;refine#[_,rfl,wpAny_letOwnedTupleGo_enum (s:={ s with heap:=h',toks:=tk+1 }) ho λh2 he2 sb=>?_];obtain⟨xv,ex⟩:∃xv,xs[i]?=some xv:=#[xs[i],by simp[hi]]
  obtain⟨x',gx,rxv⟩:=rx.get ex;have qx':its[i]?=some x:=by simpa using qx
  rw[gx]at qx';cases qx';have lte:e<s.heap.objs.size:=Zh e1;have kp2:∀c o,c∉[e,it]->s.heap.get? c=some o->h2.get? c=some o:=λc o hc q=>by simp only[Zl,ZB,Yg,not_or]at hc;exact sb.extBut c o hc.1 (hk c o hc.1 hc.2 q)
  have tT:IsTup h2 s.heap.objs.size [.int i tk,x].toArray:=#[_,sb.extBut _ _ (ZY lte) hT,rfl,_,rfl]
  refine#[.ref s.heap.objs.size,upd H s.heap.objs.size (.tup [.int i,xv]),I.turnT (t':=tk+1) hf kp2 tT (.cons #[tk,rfl] (.cons rxv .nil)) (sz rfl),rfl,#[_,xv,I.hok.fresh (Za _),ex,rfl,rfl],?_,λc hc=>?_]
  ·exact#[#[_,by simpa using he2],hs'.1.extBut sb.extBut ne.symm]
  ·rw[ah]
   ·exact(hf c hc).1
   ·obtain⟨o,eo⟩:∃o,s.heap.get? c=some o:=by
     simp only[Zl,ZB,Yg]at hc;rcases hc with rfl|rfl
     ·exact#[_,e1]
     ·obtain⟨o,eo,_⟩:=e4;exact#[o,eo]
    exact Zo (Zh eo)
 ·intro X hP hw hK hc i M9 s σ H E I hf st hg;subst hP hw hK;obtain⟨⟨old,e1⟩,e4⟩:=st;obtain⟨rfl,hx⟩:=hg;obtain⟨its,rx,px,zx⟩:=I.list hx;have lx:its.toArray.size=xs.length:=by rw[Zf,<-rx.length]
  have hh:=I.ok.hd hc;refine wpAny_pyNext_enum_endD (Draws.list (A:=X.A.in1) hh it a ha.2.symm its.toArray) e1 #[by rw[lx];exact e4,px.isList] λh' kp=>#[rfl,?_]
  exact I.turnM (t':=s.toks) hf λc ob hc q=>by simp only[Zl,ZB,Yg,not_or]at hc;exact kp c ob hc.2 q
 ·obtain⟨⟨old,e1⟩,_⟩:=st;exact wpAny_pyIter_enum e1 h
def EH(K:W.Frag)(ta:TA):TI:=λσ H R=>ta σ H λvs H1=>∃a xs,vs=[.ref a]/\H1 a=some (.lst xs)/\R (Ite K a xs) H1
section
variable{X:Cx}
theorem FX{e1:M8}{ta:TA}{p pos tp:Pos}{elts:List M8}{kt:Nat}(hg:Gl X "enumerate")(hm:X.mg "enumerate" = none)(ha:PA X [e1] ta)(n1:aO e1=true):PI X (.Tuple elts kt tp) (.Call (.Name "enumerate" p) [e1] [] pos) (EH X.K ta):=by
 intro M9 s σ H R I h;refine Call_ (eC I hg hm boot_enumerate (Yt (thn (ha pos M9 s σ H _ I h) λus s1 hz9=>?_) (aS n1) (bp (by simp))));obtain⟨vs,H1,I1,r1,q1⟩:=hz9;obtain⟨a,xs,e,hx,q⟩:=q1;subst e;obtain⟨ua,rfl,ra⟩:=bZ r1;cases ra;obtain⟨z,its,n,rx,hl',eo⟩:=I1.lstM hx;have la:a<s1.heap.objs.size:=Zh eo;refine call_enumerate_1 eo λh' he hl hz hk=>wpAny_pyIter_enum he ?_;refine#[s1.heap.objs.size+1,[s1.heap.objs.size+1,s1.heap.objs.size],eTn (s1.heap.objs.size+1) s1.heap.objs.size a,_,H1,rfl,I1.kept (t':=s1.toks) hk,CZ (Nat.succ_ne_self _) #[ZY (Nat.lt_succ_of_lt la),ZY la],#[#[_,he],hl],λc hc=>?_,q];have hc':s1.heap.objs.size<=c:=by
  simp only[Zl,ZB,Yg]at hc;rcases hc with rfl|rfl
  ·exact Nat.le_succ _
  ·exact Za _
 exact I1.fpOk hc' (I1.hok.fresh hc')
theorem uU{e1:M8}{ta:TA}{p pos tp:Pos}{elts:List M8}{kt:Nat}(hm:X.mg "enumerate" = none)(ha:QA X [e1] ta)(hg:Gl X "enumerate":=by rfl)(n1:aO e1=true:=by rfl):QI X (.Tuple elts kt tp) (.Call (.Name "enumerate" p) [e1] [] pos) (EH X.K ta):=#[FX hg hm ha.h n1]
end
theorem Dw{K:W.Frag}{a:MU}{xs:List V}{i j:Nat}{tb:TS}{D:Ends}{σ:St}{H:Hp}(Pv:Nat->St->Hp->Prop)(h0:Pv 0 σ H)(ha:∀i σ H,i<=xs.length->Pv i σ H->SqL K H a xs)(hs:∀k x σ H,xs[k]?=some x->Pv k σ H->∀T,H T=none->tb { D with nx:=Pv (k+1),ct:=Pv (k+1),bk:=D.nx } ((σ.set i (some (.int k))).set j (some x)) (upd H T (.tup [.int k,x])))(hd:∀σ H,Pv xs.length σ H->D.nx σ H) :
  ∃W:Nat->Nat->St->Hp->Prop,(∃m,W 0 m σ H)/\∀k m σ H,W k m σ H ->
   ((Ite K a xs).stop k H/\D.nx σ H)\/((Ite K a xs).go k H/\∃N:St->Hp->Prop,(∀σ' H',N σ' H'->∃m',m'<m/\W (k+1) m' σ' H')/\∀x H',(Ite K a xs).yld k H x H'->jZ K 2 (dS (bo i) (dS (bo j) jY)) x σ H' λσ2 H2=>tb { D with nx:=N,ct:=N,bk:=D.nx } σ2 H2):=by
 refine#[λk m σ H=>m=xs.length-k/\k<=xs.length/\Pv k σ H,#[xs.length,by simp,ZU _,h0],?_];rintro k m σ H ⟨rfl,hk,pv⟩;by_cases hlt:k<xs.length
 ·refine .inr #[#[hlt,ha k σ H hk pv],Pv (k+1),λσ' H' z=>#[xs.length-(k+1),∅,rfl,hlt,z],λx H' y=>?_];obtain⟨T,p,hT,hx,rfl,rfl⟩:=y;exact#[T,[.int k,p],rfl,Nb ad,rfl,.int k,[p],rfl,p,[],rfl,rfl,hs k p σ H hx pv T hT]
 ·have e:k=xs.length:=∅
  subst e;exact .inl #[#[rfl,ha _ σ H hk pv],hd σ H pv]
theorem xT{α:Type}{n:Nat}{lt:M7}{P R:α->Prop}{cmp:Nat->Nat->(Bool->MV->Prop)->MV->Prop}{Q:α->MV->Prop}{s:MV}(hc:∀i j C,i<n->j<n->C (lt i j) s->cmp i j C s)(hq:∀a,P a->R a->Q a s):∀{t:KasT α},KIn n P t->KW lt R t->t.kasWp cmp Q s
 |.ret _,h,k=>hq _ h k
 |.ask i j c,⟨h1,h2,h3⟩,k=>hc _ _ _ h1 h2 (xT hc hq (t:=c (lt i j)) (h3 _) k)
section
variable{X:Cx}{M9:MP}{σ:St}{H:Hp}{s:MV}{h':Heap}
theorem Inv.movedF{ch:List MU}{t':Nat}(I:Inv X M9 σ H s)(hch:∀b∈ch,bG X M9 H b)(k:∀b u,b≠X.env.locals->b∉ch->s.heap.get? b=some u->h'.get? b=some u)(hn:∃m,s.heap.Ns X.env.locals m/\h'.Ns X.env.locals m):Inv X M9 σ H { s with heap:=h',toks:=t' }:=by
 have neL:∀{b:MU} {u:HO},H b=some u->b≠X.env.locals:=fun{b u} e=>al e I.free;have neC:∀{b:MU} {u:HO},H b=some u->b∉ch:=fun{b u} e z=>by have:=(hch b z).1;rw[e]at this;cases this
 refine I.step (g':=s.gens) (d':=s.drawn) (ch:=ch) (λb hb=>#[(hch b hb).2.2.2.1,(hch b hb).2.1,(hch b hb).2.2.2.2.1,(hch b hb).2.2.2.2.2]) (λb o hL _ hc e _=>k b o hL hc e) (λb o hL _ hc e _=>#[o.slots,k b o hL hc e]) (λb o _ e n=>n) (λb o hc e=>?_)
  (λb xs e=>e) (λb o u e=>e) (λb ps e=>#[#[],by rw[e];simp]) (λm' hm'=>?_) (λb u e=>?_) I.bare
 ·by_cases hL:b=X.env.locals
  ·obtain⟨m,_,o',_,_,e',_⟩:=hn;exact#[o',by rw[hL];exact e']
  ·exact#[o,k b o hL hc e]
 ·obtain⟨m,h1,h2⟩:=hn;rw[hm'.eq_nsMap,<-h1.eq_nsMap];exact h2
 ·refine(I.hok b u e).stay (λc v hc q=>k c v ?_ ?_ q) (λc q=>q) λc ys q=>q
  ·rcases hc with z|z
   ·rw[z];exact neL e
   ·exact neL z
  ·rcases hc with z|z
   ·rw[z];exact neC e
   ·exact neC z
theorem Inv.tookF{ch:List MU}{a:MU}{o:HO}{t':Nat}(I:Inv X M9 σ H s)(ha:a∈ch)(hch:∀b∈ch,bG X M9 H b)(k:∀b u,b≠X.env.locals->b∉ch->s.heap.get? b=some u->h'.get? b=some u)(hn:∃m,s.heap.Ns X.env.locals m/\h'.Ns X.env.locals m)(new:ObjOk X.prog X.w (upd H a o) h' a o):Inv X M9 σ (upd H a o) { s with heap:=h',toks:=t' }:=by
 have fr:=(hch a ha).1;have ne:∀{b:MU} {u:HO},H b=some u->b≠a:=fun{b u} e=>al e fr;have neL:∀{b:MU} {u:HO},H b=some u->b≠X.env.locals:=fun{b u} e=>al e I.free;have neC:∀{b:MU} {u:HO},H b=some u->b∉ch:=fun{b u} e z=>by have:=(hch b z).1;rw[e]at this;cases this
 refine I.step (g':=s.gens) (d':=s.drawn) (ch:=ch) (λb hb=>#[(hch b hb).2.2.2.1,(hch b hb).2.1,(hch b hb).2.2.2.2.1,(hch b hb).2.2.2.2.2]) (λb o hL _ hc e _=>k b o hL hc e) (λb o hL _ hc e _=>#[o.slots,k b o hL hc e]) (λb o hc e n=>by rw[ah (λz:b=a=>hc (by rw[z];exact ha))];exact n) (λb o hc e=>?_)
  (λb xs e=>by rw[ah (ne e)];exact e) (λb o u e=>by rw[ah (ne e)];exact e) (λb ps e=>#[#[],by rw[ah (ne e),e];simp]) (λm' hm'=>?_) (λb u e=>?_) I.bare
 ·by_cases hL:b=X.env.locals
  ·obtain⟨m,_,o',_,_,e',_⟩:=hn;exact#[o',by rw[hL];exact e']
  ·exact#[o,k b o hL hc e]
 ·obtain⟨m,h1,h2⟩:=hn;rw[hm'.eq_nsMap,<-h1.eq_nsMap];exact h2
 ·by_cases hb:b=a
  ·subst hb;rw[ad]at e;cases e;exact new
  ·rw[ah hb]at e;refine(I.hok b u e).stay (λc v hc q=>k c v ?_ ?_ q) (λc q=>by rw[ah (ne q)];exact q) λc ys q=>by rw[ah (ne q)];exact q
   ·rcases hc with z|z
    ·rw[z];exact neL e
    ·exact neL z
   ·rcases hc with z|z
    ·rw[z];exact neC e
    ·exact neC z
def ic(base h:Heap)(L kS:MU):MP:=(vI base h L).filter λp=>decide (p.1≠kS)
theorem iG{base h:Heap}{L kS:MU}{o:Obj}(e:h.get? kS=some o)(hL:kS≠L)(hb:base.get? kS=none):News base L h ((kS,o)::ic base h L kS):=λp hp=>by
 rcases Zl.mp hp with rfl|hp
 ·exact#[e,hL,hb]
 ·exact mZ base h L p (Zx.mp hp).1
theorem kC{base h:Heap}{L kS:MU}:∀p∈ic base h L kS,p.1≠kS:=λp hp=>ZM (Zx.mp hp).2
theorem iF{base h h2:Heap}{L kS:MU}{o':Obj}{m:MR}(hbk:∀b o,base.get? b=some o->h.get? b=some o)(F:Fr base L h2 m)(N:News base L h2 ((kS,o')::ic base h L kS)):∀b u,b≠L->b∉[kS]->h.get? b=some u->h2.get? b=some u:=λb u hL hk e=>by
 cases q:base.get? b with
 |none=>exact(N (b,u) (.tail _ (Zx.mpr #[hO e hL q,decide_eq_true (λz=>hk (Zd.mpr z))]))).1
 |some o =>have e':=hbk b o q;rw[e]at e';cases e';exact F.keep b u q
structure SK(X:Cx)(M9:MP)(σ:St)(H1:Hp)(m:MR)(kS D:MU)(e1:Nat)(ks:List M5)(as:List MU)(e:Nat)(H:Hp)(s:MV):Prop where
 I:Inv X M9 σ H s
 sm:Same H1 H
 fk:bG X M9 H kS
 fd:bG X M9 H D
 bk:X.base.get? kS=none
 bd:X.base.get? D=none
 hk:s.heap.get? kS=some (seqObj "list" (List.toArray (as.map Value.ref)) e)
 hd:s.heap.get? D=some (seqObj "list" #[] e1)
 ns:s.heap.Ns X.env.locals m
 keys:∀(i:Nat) (a:MU) (k:M5),as[i]?=some a->ks[i]?=some k->H a=some (.tup (k.map V.int))
end
theorem BT:∀{a b:M5},HT.lexLt a b=true->HT.lexLt b a=false
 | [],[],h=>by cases h
 | [],_::_,_=>rfl
 |_::_,[],h=>by cases h
 |x::a,y::b,h=>by
  rw[HT.lexLt_cons]at h ⊢;by_cases e:x=y
  ·subst e;rw[MO rfl]at h ⊢;exact BT h
  ·rw[MN e]at h;rw[MN (λz=>e z.symm)];have:=ZM h;exact decide_eq_false ∅
theorem BU:∀{a b c:M5},HT.lexLt b a=false->HT.lexLt c b=false->HT.lexLt c a=false
 | [],[],[],_,_=>rfl
 | [],[],_::_,_,_=>rfl
 | [],_::_,[],_,h=>by cases h
 | [],_::_,_::_,_,_=>rfl
 |_::_,[],_,h,_=>by cases h
 |_::_,_::_,[],_,h=>by cases h
 |x::a,y::b,z::c,h,k=>by
  rw[HT.lexLt_cons]at h k ⊢;by_cases e:y=x
  ·subst e;rw[MO rfl]at h;by_cases e2:z=y
   ·rw[MO e2]at k ⊢;exact BU h k
   ·rw[MN e2]at k ⊢;exact k
  ·rw[MN e]at h;have h':=of_decide_eq_false h;by_cases e2:z=y
   ·rw[MN ∅];exact decide_eq_false ∅
   ·rw[MN e2]at k;have k':=of_decide_eq_false k;rw[MN ∅];exact decide_eq_false ∅
theorem Hn(ks:List M5):LtOk (λi j=>HT.lexLt (ks.getD i []) (ks.getD j [])):=#[BT,BU]
section
variable{X:Cx}{M9:MP}{σ:St}{H:Hp}{s:MV}
def wX(X:Cx)(l:List MU):Cx:={ X with ex:=l++X.ex }
structure ExOk(X:Cx)(b:MU):Prop where
 old:b∈X.ex\/X.s₀.heap.get? b=none
 loc:b≠X.env.locals
 cel:∀x c,X.env.cells.lookup x=some c->c≠b
 bas:X.base.get? b=none
 fs:b∉X.fs
theorem Inv.widen{l:List MU}(I:Inv X M9 σ H s)(hl:∀b∈l,ExOk X b):Inv (wX X l) M9 σ H s:=by
 have ok:(wX X l).Ok:=by
  have o:=I.ok;refine#[o.mod,o.kind,o.glob,o.blt,o.above,o.inj,o.has,o.cab,o.hd,o.frames,o.stk,λb hb=>?_,o.bs,o.bsz,λb ob hb z=>?_,λb hb=>?_,o.funs,o.frf]
  ·rcases Zs.mp hb with h|h
   ·exact#[(hl b h).loc,(hl b h).cel]
   ·exact o.exf b h
  ·rcases Zs.mp z with h|h
   ·have hb':X.base.get? b=some ob:=hb;rw[(hl b h).bas]at hb';cases hb'
   ·exact o.noex b ob hb h
  ·rcases Zs.mp hb with h|h
   ·exact(hl b h).fs
   ·exact o.exfs b h
 have ne:∀{b:MU},b∉l++X.ex->b∉X.ex:=λh z=>h (Zr _ z);have u:=I.base;exact#[ok,I.os,I.bare,#[λb o e n hb hx=>u.keep b o e n hb (ne hx),λb o e n hb hx=>u.slot b o e n hb (ne hx),λb o e n hx=>u.free b o e n (ne hx),λb o e hx=>u.there b o e (ne hx),u.tups,u.frzs,u.tbls],I.loc,I.cell,I.free,I.freeC,I.pin,I.hok,I.len]
theorem Inv.narrow{l:List MU}(I:Inv (wX X l) M9 σ H s)(ok:X.Ok)(hl:∀b∈l,b∈X.ex\/X.s₀.heap.get? b=none):Inv X M9 σ H s:=by
 have ne:∀{b:MU} {o:Obj},X.s₀.heap.get? b=some o->b∉X.ex->b∉l++X.ex:=fun{b o} e h z=>by
  rcases Zs.mp z with z|z
  ·rcases hl b z with y|y
   ·exact h y
   ·rw[y]at e;cases e
  ·exact h z
 have u:=I.base;exact#[ok,I.os,I.bare,#[λb o e n hb hx=>u.keep b o e n hb (ne e hx),λb o e n hb hx=>u.slot b o e n hb (ne e hx),λb o e n hx=>u.free b o e n (ne e hx),λb o e hx=>u.there b o e (ne e hx),u.tups,u.frzs,u.tbls],I.loc,I.cell,I.free,I.freeC,I.pin,I.hok,I.len]
theorem Inv.exOk(I:Inv X M9 σ H s){b:MU}(hb:s.heap.get? b=none)(hL:b≠X.env.locals)(h0:X.base.get? b=none):ExOk X b:=by
 have old:b∈X.ex\/X.s₀.heap.get? b=none:=by
  by_cases hx:b∈X.ex
  ·exact .inl hx
  ·cases e:X.s₀.heap.get? b with
   |none=>exact .inr rfl
   |some o =>obtain⟨o',e'⟩:=I.base.there b o e hx;rw[hb]at e';cases e'
 refine#[old,hL,λx c e z=>?_,h0,λz=>?_]
 ·obtain⟨v,o,ho,_⟩:=I.cell x c e;rw[z,hb]at ho;cases ho
 ·obtain⟨_,o,ho,_⟩:=I.ok.funs.mem z;rcases old with y|y
  ·exact I.ok.exfs b y z
  ·rw[y]at ho;cases ho
theorem Inv.fpW{l:List MU}(I:Inv X M9 σ H s){b:MU}(hm:b∈l)(x:ExOk X b)(hb:s.heap.get? b=none):bG (wX X l) M9 H b:=by refine#[none_of I hb,x.loc,x.fs,.inl (Z3 _ hm),x.cel,λp hp z=>?_];have:=(I.pin p hp).1;rw[z,hb]at this;cases this
end
section
variable{X:Cx}{o i value:M8}{pos pos':Pos}{td ty tv:TE}
theorem kz:QE X (.Dict [] [] pos) CU:=#[DX]
theorem cu(hu:X.A.units+64<cLine)(ho:QE X o td)(hi:QE X i ty)(hs:Da i:=by intro _ _;rfl):QE X (.Subscript o i pos) (E6 td ty):=#[FS ∅ ho.h hi.h hs]
theorem Ag(hu:X.A.units+64<cLine)(hi:QE X i ty)(ho:QE X o td)(hm:behindInMarks .In o=false:=by with_unfolding_all rfl):QE X (.Compare i [.In] [o] pos) (Es ty td):=#[HF (Ck ∅ hi.h ho.h) hm]
theorem AC(hu:X.A.units+64<cLine)(hi:QE X i ty)(ho:QE X o td)(hm:behindInMarks .In o=false:=by with_unfolding_all rfl):QT X (.Compare i [.In] [o] pos) (tB (Es ty td)):=#[Cq (Ck ∅ hi.h ho.h) hm]
theorem oH(hu:X.A.units+64<cLine)(hi:QE X i ty)(ho:QE X o td)(hm:behindInMarks .NotIn o=false:=by with_unfolding_all rfl):QT X (.Compare i [.NotIn] [o] pos) (tB (yy ty td)):=#[Cq (Cl ∅ hi.h ho.h) hm]
theorem fK(hu:X.A.units+64<cLine)(ho:QE X o td)(hi:QE X i ty)(hv:QE X value tv)(hs:swapsWith value (some (.Subscript o i pos')) pos.line X.env=pure false:=by rfl):QS X (.Assign [.Subscript o i pos'] value pos) (E2 td ty tv):=#[Ga ∅ ho.h hi.h hv.h hs]
end
open Classical in
noncomputable def lc(h:Heap)(dx:PyData)(u:MW):Bool:=decide (∃d as,Reads h u d as/\PyData.canLay0 d=true/\PyData.eqv d dx=true)
open Classical in
theorem qw{h:Heap}{dx d:PyData}{u:MW}{as:List MU}(r:Reads h u d as)(hl:d.canLay0=true):lc h dx u=PyData.eqv d dx:=by
 unfold lc;cases e:PyData.eqv d dx with
 |true=>exact decide_eq_true #[d,as,r,hl,e]
 |false =>refine decide_eq_false ?_;rintro⟨d',as',r',l',e'⟩;rw[SeqAt.Reads.unique d d' u as as' hl r r',e']at e;cases e
section
variable{P:MX}{w:MY}{H:Hp}{h:Heap}
theorem jV(ok:HOk P w H h):∀{ds:List PyData} {xs:List V} {us:MT},DtAll H ds xs->Vals xs us->PyData.canLayAll0 ds=true->∀dx:PyData,us.any (lc h dx)=ds.any (λd=>PyData.eqv d dx)/\us.countP (lc h dx)=ds.countP (λd=>PyData.eqv d dx)/\∀u∈us,∃d as,d∈ds/\Reads h u d as/\d.canLay0=true
 | [],xs,us,hd,r,_,dx=>by
  have e:xs=[]:=by simpa only[DtAll]using hd
  subst e;cases r;exact#[rfl,rfl,λu hu=>nomatch hu]
 |d::ds,xs,us,hd,r,hl,dx=>by
  have e:∃y ys,xs=y::ys/\Dt H d y/\DtAll H ds ys:=by simpa only[DtAll]using hd
  obtain⟨y,ys,rfl,h1,h2⟩:=e;cases r with
  |cons r1 r2 =>
   have hl':d.canLay0=true/\PyData.canLayAll0 ds=true:=by simpa[PyData.canLayAll0]using hl
   obtain⟨as,q1⟩:=Dt.reads ok d y _ h1 r1;obtain⟨i1,i2,i3⟩:=jV ok h2 r2 hl'.2 dx;refine#[by rw[List.any_cons,List.any_cons,qw q1 hl'.1,i1],by rw[List.countP_cons,List.countP_cons,qw q1 hl'.1,i2],λu hu=>?_];rcases Zl.mp hu with rfl|hu
   ·exact#[d,as,by simp,q1,hl'.1]
   ·obtain⟨d',as',m,z⟩:=i3 u hu;exact#[d',as',by simp[m],z]
end
section
variable{X:Cx}
def Il(K:W.Frag)(neg:Bool):R2:=λx y H Q=>∃(p:MU) (xs:List V) (dx:PyData) (ds:List PyData),y=.ref p/\SqL K H p xs/\Dt H dx x/\DtAll H ds xs/\SeqAt.shaped dx=true/\PyData.canLayAll0 ds=true/\Q (.bl (if neg then !(ds.any λd=>PyData.eqv d dx)else ds.any λd=>PyData.eqv d dx)) H
theorem Bn{M9:MP}{σ:St}{H:Hp}{s:MV}{A:MZ}{dx:PyData}{x:V}{v:MW}{ds:List PyData}{xs:List V}{us:MT}(I:Inv X M9 σ H s)(hu:A.units+64<cLine)(h1:Dt H dx x)(rx:RelV x v)(h2:DtAll H ds xs)(r:Vals xs us)(s1:SeqAt.shaped dx=true)(s2:PyData.canLayAll0 ds=true):∀u∈us,SeqAt.EqAt A s u v (lc s.heap dx u):=λu hu'=>by obtain⟨_,_,z⟩:=jV I.hok h2 r s2 dx;obtain⟨d,as,_,q1,q2⟩:=z u hu';obtain⟨bs,q3⟩:=Dt.reads I.hok dx x v h1 rx;rw[qw q1 q2];refine SeqAt.eqAt_reads d dx A s u v as bs q1 q3 q2 (SeqAt.canLay_of_shaped s1) ?_;have d1:=SeqAt.depth_of_shaped s1;have d2:min d.depth dx.depth<=dx.depth:=Nat.min_le_right _ _;omega
theorem Hx(hu:X.A.in1.units+64<cLine):OpR X (compareOp .In) (Il X.K false):=by intro M9 s σ H x y v u Q I rx ry h;obtain⟨p,xs,dx,ds,rfl,hq,h1,h2,s1,s2,q⟩:=h;cases ry;obtain⟨its,r,pl,hz⟩:=I.list hq;refine SeqAt.in_listAt (lc s.heap dx) pl.isList (λw hw=>Bn I hu h1 rx h2 r s1 s2 w (by simpa using hw)) #[.bl _,H,I,rfl,?_];rw[show its.toArray.any (lc s.heap dx)=its.any (lc s.heap dx) by simp,(jV I.hok h2 r s2 dx).1];exact q
theorem Ju{k:Nat}(hr:Room k X.A):QOp X (compareOp .In) (Il X.K false):=#[Hx (by have:=hr.un;show X.A.units+_+64<_;omega)]
end
def GI(K:W.Frag)(a b:MU)(xs ys:List V):It :=
 #[λi H=>i<xs.length/\SqL K H a xs/\SqL K H b ys,λi H x H'=>∃T p q,H T=none/\xs[i]?=some p/\ys[i]?=some q/\x=.ref T/\H'=upd H T (.tup [p,q]),λi H=>i=xs.length/\SqL K H a xs/\SqL K H b ys]
abbrev IU(z u v i1 i2 a b:MU):Nat->Heap->Prop:=λi h=>IsZip h z u v .none/\IsPair h u (.ref i1) (.ref i2)/\(∃p q,IsPair h v p q)/\h.IsListIter i1 a i/\h.IsListIter i2 b i
theorem C3{P:MX}{w:MY}{K:W.Frag}{elts:List M8}{kt:Nat}{tp:Pos}{z u v i1 i2 a b:MU}{xs ys:List V}(hl:xs.length=ys.length)(D:[z,u,v,i1,i2].Nodup)(ha:∀c∈[z,u,v,i1,i2],c≠a/\c≠b) :
  Turn P w K (.Tuple elts kt tp) (GI K a b xs ys) [z,u,v,i1,i2] z (IU z u v i1 i2 a b):=by
 have nd:(z≠u/\z≠v/\z≠i1/\z≠i2)/\(u≠v/\u≠i1/\u≠i2)/\(v≠i1/\v≠i2)/\i1≠i2:=by simpa using D
 obtain⟨⟨zu,zv,z1,z2⟩,⟨uv,u1,u2⟩,⟨v1,v2⟩,i12⟩:=nd;have az:=ha z (by simp);have av:=ha v (by simp);have a1:=ha i1 (by simp);have a2:=ha i2 (by simp);have ap:ZAp z u v i1 i2 [i1,a] [i2,b]:=#[zu.symm,zv.symm,uv,u1,u2,v1,v2,z1.symm,z2.symm,i12,by simp[z1,az.1],by simp[z2,az.2],by simp[v1,av.1],by simp[v2,av.2],by simp[i12.symm,a2.1],by simp[i12,a1.2]]
 refine#[by simp,λi h st c hc=>?_,λi h h' st k=>?_,?_,?_,λA i s Q E st h=>wpAny_pyIter_zip st.1 h]
 ·obtain⟨e1,e2,⟨p,q,e3⟩,⟨o4,e4,_,d4⟩,⟨o5,e5,_,d5⟩⟩:=st;simp only[Zl,ZB,Yg]at hc;rcases hc with rfl|rfl|rfl|rfl|rfl
  ·exact#[_,e1,λv z=>nomatch z]
  ·exact#[_,e2,λv z=>nomatch z]
  ·exact#[_,e3,λv z=>nomatch z]
  ·exact#[_,e4,λv z=>by rw[d4]at z;cases z]
  ·exact#[_,e5,λv z=>by rw[d5]at z;cases z]
 ·obtain⟨e1,e2,⟨p,q,e3⟩,⟨o4,e4,r4⟩,⟨o5,e5,r5⟩⟩:=st;exact#[k z (by simp) _ e1,k u (by simp) _ e2,#[p,q,k v (by simp) _ e3],#[o4,k i1 (by simp) _ e4,r4],#[o5,k i2 (by simp) _ e5,r5]]
 ·intro X hP hw hK hc i M9 s σ H E I hf st hg;subst hP hw hK;obtain⟨e1,e2,⟨p,q,e3⟩,e4,e5⟩:=st;obtain⟨hi,hx,hy⟩:=hg;obtain⟨its,rx,px,zx⟩:=I.list hx;obtain⟨jts,ry,py,zy⟩:=I.list hy;have lx:i<its.toArray.size:=by rw[Zf,<-rx.length];exact hi
  have ly:i<jts.toArray.size:=by rw[Zf,<-ry.length,<-hl];exact hi
  have hh:=I.ok.hd hc;have hT:s.TypeIs (.ref z) "zip":=#[_,e1,rfl]
  unfold pyNext;refine z0 (YE (ZA (name:=Str.ofString "__next__") hT YT (ZK YT hT F.entry_zip_next
   (wF (Draws.list (A:=X.A.in1) hh i1 a a1.1.symm its.toArray) (Draws.list (A:=X.A.in1) hh i2 b a2.2.symm jts.toArray) ap e1 e2 e3 #[e4,px.isList] #[e5,py.isList] lx ly λh' tk x y qx qy zz vv s1 s2 pp kp=>z9 ?_) (F.args_zip_next_1 _))))
  refine#[_,rfl,wpAny_letOwnedTupleGo_zip (s:={ s with heap:=h',toks:=tk }) zz λh2 z2' sb=>?_];obtain⟨xv,ex⟩:∃xv,xs[i]?=some xv:=#[xs[i],by simp[hi]]
  obtain⟨yv,ey⟩:∃yv,ys[i]?=some yv:=#[ys[i]'∅,by simp[show i<ys.length by omega]]
  obtain⟨x',gx,rxv⟩:=rx.get ex;obtain⟨y',gy,ryv⟩:=ry.get ey;have qx':its[i]?=some x:=by simpa using qx
  have qy':jts[i]?=some y:=by simpa using qy
  rw[gx]at qx';rw[gy]at qy';cases qx';cases qy';have ltz:z<s.heap.objs.size:=Zh e1;have kp2:∀c o,c∉[z,u,v,i1,i2]->s.heap.get? c=some o->h2.get? c=some o:=λc o hc e=>by simp only[Zl,ZB,Yg,not_or]at hc;exact sb.extBut c o hc.1 (kp c o hc.1 hc.2.2.1 hc.2.2.2.1 hc.2.2.2.2 e)
  have tT:IsTup h2 s.heap.objs.size [x,y].toArray:=#[_,sb.extBut _ _ (ZY ltz) pp,rfl,_,rfl]
  refine#[.ref s.heap.objs.size,upd H s.heap.objs.size (.tup [xv,yv]),I.turnT (t':=tk) hf kp2 tT (.cons rxv (.cons ryv .nil)) (sz rfl),rfl,#[_,xv,yv,I.hok.fresh (Za _),ex,ey,rfl,rfl],?_,λc hc=>?_]
  ·exact#[z2',sb.extBut _ _ zu.symm (kp _ _ zu.symm uv u1 u2 e2),#[_,_,sb.extBut _ _ zv.symm vv],s1.1.extBut sb.extBut z1.symm,s2.1.extBut sb.extBut z2.symm]
  ·rw[ah]
   ·exact(hf c hc).1
   ·obtain⟨o,eo,_⟩:∃o,s.heap.get? c=some o/\True:=by
     simp only[Zl,ZB,Yg]at hc;rcases hc with rfl|rfl|rfl|rfl|rfl
     ·exact#[_,e1,trivial]
     ·exact#[_,e2,trivial]
     ·exact#[_,e3,trivial]
     ·obtain⟨o,eo,_⟩:=e4;exact#[o,eo,trivial]
     ·obtain⟨o,eo,_⟩:=e5;exact#[o,eo,trivial]
    exact Zo (Zh eo)
 ·intro X hP hw hK hc i M9 s σ H E I hf st hg;subst hP hw hK;obtain⟨e1,e2,⟨p,q,e3⟩,e4,e5⟩:=st;obtain⟨rfl,hx,hy⟩:=hg;obtain⟨its,rx,px,zx⟩:=I.list hx;obtain⟨jts,ry,py,zy⟩:=I.list hy;have lx:its.toArray.size=xs.length:=by rw[Zf,<-rx.length]
  have hh:=I.ok.hd hc;have hT:s.TypeIs (.ref z) "zip":=#[_,e1,rfl]
  unfold pyNext;refine z0 (YE (ZA (name:=Str.ofString "__next__") hT YT (ZK YT hT F.entry_zip_next
   (yB (Draws.list (A:=X.A.in1) hh i1 a a1.1.symm its.toArray) (Draws.list (A:=X.A.in1) hh i2 b a2.2.symm jts.toArray) ap e1 e2 e3 #[by rw[lx];exact e4,px.isList] λh' e kp he=>?_) (F.args_zip_next_1 _))))
  obtain⟨o,ho,hco⟩:=he;refine z0 (Y3 (T:="StopIteration") (b:=true) #[o,ho,hco] isSubtype_stop (z9 #[rfl,?_]));exact I.turnM (t':=s.toks) hf λc ob hc e=>by simp only[Zl,ZB,Yg,not_or]at hc;exact kp c ob hc.1 hc.2.2.1 hc.2.2.2.1 hc.2.2.2.2 e
theorem zD(l1 l2:MU)(xs ys:Array MW) :
  Meets (Builtin.«zip.__new__» #[[.type "zip",.ref l1,.ref l2],[]]) (λ_ R s=>s.heap.IsList l1 xs/\s.heap.IsList l2 ys /\
   R (.ok (.ret (.ref ((((s.heap.push { cls:=.type "list_iterator",data:=.fields (List.toArray [.ref l1,.int 0 0]) }).push { cls:=.type "list_iterator",data:=.fields (List.toArray [.ref l2,.int 0 0]) }).push { cls:=.type "tuple",data:=.seq (List.toArray [.ref s.heap.objs.size,.ref (s.heap.push { cls:=.type "list_iterator",data:=.fields (List.toArray [.ref l1,.int 0 0]) }).objs.size]) }).push { cls:=.type "tuple",data:=.seq (List.toArray [.none,.none]) }).objs.size)))
    { s with heap:=((((s.heap.push { cls:=.type "list_iterator",data:=.fields (List.toArray [.ref l1,.int 0 0]) }).push { cls:=.type "list_iterator",data:=.fields (List.toArray [.ref l2,.int 0 0]) }).push { cls:=.type "tuple",data:=.seq (List.toArray [.ref s.heap.objs.size,.ref (s.heap.push { cls:=.type "list_iterator",data:=.fields (List.toArray [.ref l1,.int 0 0]) }).objs.size]) }).push { cls:=.type "tuple",data:=.seq (List.toArray [.none,.none]) }).push { cls:=.type "zip",data:=.fields (List.toArray [.none,.bool false,.bool false,.ref ((s.heap.push { cls:=.type "list_iterator",data:=.fields (List.toArray [.ref l1,.int 0 0]) }).push { cls:=.type "list_iterator",data:=.fields (List.toArray [.ref l2,.int 0 0]) }).objs.size,.ref (((s.heap.push { cls:=.type "list_iterator",data:=.fields (List.toArray [.ref l1,.int 0 0]) }).push { cls:=.type "list_iterator",data:=.fields (List.toArray [.ref l2,.int 0 0]) }).push { cls:=.type "tuple",data:=.seq (List.toArray [.ref s.heap.objs.size,.ref (s.heap.push { cls:=.type "list_iterator",data:=.fields (List.toArray [.ref l1,.int 0 0]) }).objs.size]) }).objs.size]) } }) :=
 .of_wp λprog w A R s h=>by
  obtain⟨hp,g,d,tk,os⟩:=s;obtain⟨t1,t2,h⟩:=h;have hsub:=sub_zip;have T1:Heap.IsList (Shared.heap #[hp,g,d,tk,os]) l1 xs:=t1;have T2:Heap.IsList (Shared.heap #[hp.push { cls:=.type "list_iterator",data:=.fields (List.toArray [.ref l1,.int 0 0]) },g,d,tk,os]) l2 ys:=Heap.IsList.push t2 _
  wp_walk using YW T1,YW T2
  exact#[_,rfl,h]
def EK(K:W.Frag)(ta:TA):TI:=λσ H R=>ta σ H λvs H1=>∃a b xs ys,vs=[.ref a,.ref b]/\SqL K H1 a xs/\SqL K H1 b ys/\xs.length=ys.length/\R (GI K a b xs ys) H1
section
variable{X:Cx}
theorem FZ{e1 e2:M8}{ta:TA}{p pos tp:Pos}{elts:List M8}{kt:Nat}(hg:Gl X "zip")(hm:X.mg "zip" = none)(ha:PA X [e1,e2] ta)(n1:aO e1=true)(n2:aO e2=true):PI X (.Tuple elts kt tp) (.Call (.Name "zip" p) [e1,e2] [] pos) (EK X.K ta):=by
 intro M9 s σ H R I h;refine Call_ (eC I hg hm boot_zip (Yt (thn (ha pos M9 s σ H _ I h) λus s1 hz9=>?_) (aS n1) (bp (by simp[n2]))));obtain⟨vs,H1,I1,r1,q1⟩:=hz9;obtain⟨a,b,xs,ys,e,hx,hy,hl,q⟩:=q1;subst e;obtain⟨ua,ub,rfl,ra,rb⟩:=kP r1;cases ra;cases rb;obtain⟨its,rx,px,zx⟩:=I1.list hx;obtain⟨jts,ry,py,zy⟩:=I1.list hy;refine callType_new F.called_zip ⋯ (F.typeCall_zip_2 _ _) (F.newCall_zip_2 _ _) (λobj=>F.args_object_init_3 obj _ _) F.entry_zip_new (zD a b its.toArray jts.toArray) #[px.isList,py.isList,?_];generalize ea:({ cls:=.type "list_iterator",data:=.fields (List.toArray [.ref a,.int 0 0]) }:Obj)=oa;generalize eb:({ cls:=.type "list_iterator",data:=.fields (List.toArray [.ref b,.int 0 0]) }:Obj)=ob;have z1:(s1.heap.push oa).objs.size=s1.heap.objs.size+1:=Yh ..;have z2:((s1.heap.push oa).push ob).objs.size=s1.heap.objs.size+2:=by rw[Yh,z1]
 rw[z2,z1];generalize eu:({ cls:=.type "tuple",data:=.seq (List.toArray [.ref s1.heap.objs.size,.ref (s1.heap.objs.size+1)]) }:Obj)=ou;have z3:(((s1.heap.push oa).push ob).push ou).objs.size=s1.heap.objs.size+3:=by rw[Yh,z2]
 generalize ev:({ cls:=.type "tuple",data:=.seq (List.toArray [.none,.none]) }:Obj)=ov;have z4:((((s1.heap.push oa).push ob).push ou).push ov).objs.size=s1.heap.objs.size+4:=by rw[Yh,z3]
 rw[z4,z3];generalize ez:({ cls:=.type "zip",data:=.fields (List.toArray [.none,.bool false,.bool false,.ref (s1.heap.objs.size+2),.ref (s1.heap.objs.size+3)]) }:Obj)=oz;have g5:(((((s1.heap.push oa).push ob).push ou).push ov).push oz).get? (s1.heap.objs.size+4)=some oz:=by rw[<-z4];exact Ze _ (by rw[<-ez];rfl)
 have g4:(((((s1.heap.push oa).push ob).push ou).push ov).push oz).get? (s1.heap.objs.size+3)=some ov:=by rw[<-z3];exact z6 _ (Ze _ (by rw[<-ev];rfl))
 have g3:(((((s1.heap.push oa).push ob).push ou).push ov).push oz).get? (s1.heap.objs.size+2)=some ou:=by rw[<-z2];exact z6 _ (z6 _ (Ze _ (by rw[<-eu];rfl)))
 have g2:(((((s1.heap.push oa).push ob).push ou).push ov).push oz).get? (s1.heap.objs.size+1)=some ob:=by rw[<-z1];exact z6 _ (z6 _ (z6 _ (Ze _ (by rw[<-eb];rfl))))
 have g1:(((((s1.heap.push oa).push ob).push ou).push ov).push oz).get? s1.heap.objs.size=some oa:=z6 _ (z6 _ (z6 _ (z6 _ (Ze _ (by rw[<-ea];rfl)))));have kp:∀c o,s1.heap.get? c=some o->(((((s1.heap.push oa).push ob).push ou).push ov).push oz).get? c=some o:=λc o e=>z6 _ (z6 _ (z6 _ (z6 _ (z6 _ e))));generalize((((s1.heap.push oa).push ob).push ou).push ov).push oz=hN at g1 g2 g3 g4 g5 kp ⊢;have I2:Inv X M9 σ H1 { s1 with heap:=hN }:=I1.kept (t':=s1.toks) kp;have la:a<s1.heap.objs.size:=(let⟨_,ho,_⟩:=px.isList;Zh ho)
 have lb:b<s1.heap.objs.size:=(let⟨_,ho,_⟩:=py.isList;Zh ho)
 subst ea eb eu ev ez;have base:∀c∈[s1.heap.objs.size+4,s1.heap.objs.size+2,s1.heap.objs.size+3,s1.heap.objs.size,s1.heap.objs.size+1],s1.heap.objs.size<=c:=λc hc=>by simp only[Zl,ZB,Yg]at hc;omega
 refine#[#[_,g5,rfl],?_];show wpAny (model X.prog X.w) X.A (pyIter (.ref (s1.heap.objs.size+4))) (PIE X M9 σ (.Tuple elts kt tp) R) X.xe { s1 with heap:=hN };refine wpAny_pyIter_zip g5 ?_;refine#[s1.heap.objs.size+4,[s1.heap.objs.size+4,s1.heap.objs.size+2,s1.heap.objs.size+3,s1.heap.objs.size,s1.heap.objs.size+1],IU (s1.heap.objs.size+4) (s1.heap.objs.size+2) (s1.heap.objs.size+3) s1.heap.objs.size (s1.heap.objs.size+1) a b,_,H1,rfl,I2,
  C3 hl ?_ (λc hc=>#[ZY (Zt la (base c hc)),ZY (Zt lb (base c hc))]),#[g5,g3,#[_,_,g4],#[_,g1,rfl,rfl],#[_,g2,rfl,rfl]],λc hc=>?_,q]
 ·exact B2 s1.heap.objs.size
 ·exact I1.fpOk (base c hc) (I1.hok.fresh (base c hc))
theorem G9{e1 e2:M8}{ta:TA}{p pos tp:Pos}{elts:List M8}{kt:Nat}(hm:X.mg "zip" = none)(ha:QA X [e1,e2] ta)(hg:Gl X "zip":=by rfl)(n1:aO e1=true:=by rfl)(n2:aO e2=true:=by rfl):QI X (.Tuple elts kt tp) (.Call (.Name "zip" p) [e1,e2] [] pos) (EK X.K ta):=#[FZ hg hm ha.h n1 n2]
end
section
variable{X:Cx}
theorem Gi{o e:M8}{apos cpos:Pos}{td ty:TE}(hu:X.A.units+64<cLine)(ho:QE X o td)(he:QE X e ty)(hs:aO e=true:=by rfl)(hbase:attributeBase o "get" X.env (eval o X.env)=eval o X.env:=by rfl)(hline:(apos.endLine==cpos.line)=true:=by rfl):QE X (.Call (.Attribute o "get" apos) [e] [] cpos) (CQ td ty):=by
 have h1:=aS (es:=[]) (env:=X.env) hs;have h2:starEach ([]:List M8) X.env=[]:=rfl;refine#[DV ∅ ho.h he.h #[hbase,?_,hline,?_]]
 ·rw[h1,h2];rfl
 ·rw[h1,h2];rfl
structure QPs(X:Cx)(pos:Pos)(keys:List (Option M8))(values:List M8)(trs:List (TE×TE)):Prop where
 h:PPs X pos keys values trs
theorem nV{K:W.Frag}(hK:X.K=K):QOp X (compareOp .NotIn) (rIn K true):=by subst hK;exact#[vF]
end
section
variable{X:Cx}
theorem Dk(hc:X.calm=true):cU X (.builtin "any") (λxs H Q=>∃(p:MU) (bs:List Bool),xs=[.ref p]/\SqL X.K H p (bs.map V.bl)/\Q (.bl (bs.any id)) H):=by
 intro M9 s σ H xs us Q I r h;obtain⟨p,bs,rfl,hq,q⟩:=h;obtain⟨u,rfl,rx⟩:=bZ r;cases rx;obtain⟨its,rv,pl,hz⟩:=I.list hq;have hl:=pl.isList;have hlt:p<s.heap.objs.size:=by obtain⟨_,e,_⟩:=hl;exact Zh e
 have hh:=I.ok.hd hc;have hlen:bs.length=its.length:=by rw[<-rv.length,Zb]
 refine call_any_walk (YW hl ?_);refine#[s.heap.objs.size,[s.heap.objs.size,p],[s.heap.objs.size],its.toArray.size,_,_,λi=>(bs[i]?).getD false,rfl,Walks.list (A:=X.A.in1) hh _ p (Zo hlt) its.toArray,
  #[#[_,Ze _ rfl,rfl,rfl],hl.push _],λi v s' Q' E' hP hQ=>?_,λh' tk hk=>?_]
 ·have hv:its[i]?=some v:=by simpa using hP
  have hi:i<bs.length:=by rw[hlen];exact(Zi.mp hv).1
  obtain⟨u,hu,ru⟩:=rv.get (i:=i) (x:=.bl bs[i]) (by rw[ZE,Zj hi];rfl);rw[hv]at hu;cases hu;cases ru;have hQ':Q' ((bs[i]?).getD false) s':=hQ;rw[Zj hi]at hQ';exact ZX hQ'
 ·have e:((List.range its.toArray.size).any λi=>(bs[i]?).getD false)=bs.any id:=by rw[Zf,<-hlen];exact LSm.range_any bs
  rw[e];exact#[.bl _,H,I.kept (t':=tk) (LSm.kept_iter hk),rfl,q]
theorem IY(hc:X.calm=true):QCall X (.builtin "any") (λxs H Q=>∃(p:MU) (bs:List Bool),xs=[.ref p]/\SqL X.K H p (bs.map V.bl)/\Q (.bl (bs.any id)) H):=#[Dk hc]
end
structure MFn(P:MX)(w:MY)(K:W.Frag)(mg:MR)(base:Heap)(k:Nat)(C:MU)(m:Str)(ps:List Str)(sp:Sp):Prop where
 cl:Cls K C
 ex:∃f fd,FnOk P w K mg base CX0 k f fd ps sp/\Meth K C m f/\Binds K fd ps []
structure MkFn(P:MX)(w:MY)(K:W.Frag)(mg:MR)(base:Heap)(k:Nat)(C:MU)(x:Str)(ps:List Str)(sp:Sp):Prop where
 cl:Cls K C
 mgC:mg x=some (.ref C)
 ex:∃f fd,FnOk P w K mg base CX0 k f fd ps sp/\Mk K C f/\Binds K fd ps []
section
variable{X:Cx}{k:Nat}{C:MU}{m x f:Str}{p pos pos' apos:Pos}{o e value:M8}{es:List M8}{ps:List Str}{sp:Sp}{t:TA}{ta tv:TE}
theorem bR(he:QE X e ta)(hb:attributeBase e f X.env (eval e X.env)=eval e X.env:=by rfl):QE X (.Attribute e f pos) (ID X.K ta f):=#[HG he.h hb]
theorem mF(ha:QE X o ta)(hv:QE X value tv)(hs:swapsWith value (some (.Attribute o f pos')) pos.line X.env=pure false:=by rfl):QS X (.Assign [.Attribute o f pos'] value pos) (Iq X.K ta tv f):=#[HX ha.h hv.h hs]
theorem bX{pl:Sem Bool}(F:MFn X.prog X.w X.K X.mg X.base k C m ps sp)(hr:Room k X.A)(he:QE X o ta)(ha:QA X (e::es) t)(hs:(e::es).all aO=true:=by rfl)(ht:eval (.Call (.Attribute o m apos) (e::es) [] pos) X.env=(do
   let ov ←eval o X.env
   standAt apos.atName
   let(f,first) ←holding [ov] (getMethod ov m pl)
   callWith pos f first (backTo pos (starEach (e::es) X.env)) (backToKw pos (keywordEach [] X.env))):=by rfl) :
  QE X (.Call (.Attribute o m apos) (e::es) [] pos) (pX C m sp [] E0 ta t):=by
 obtain⟨f,fd,G,hm,b⟩:=F.ex;rw[YM,Zw]at hs;exact#[yl (pl:=pl) he.h F.cl hm G hr b .nil jg ha.h (aS hs.1) (bp hs.2) ht]
theorem cS{pl:Sem Bool}(F:MFn X.prog X.w X.K X.mg X.base k C m ps sp)(hr:Room k X.A)(he:QE X o ta)(ht:eval (.Call (.Attribute o m apos) [] [] pos) X.env=(do
   let ov ←eval o X.env
   standAt apos.atName
   let(f,first) ←holding [ov] (getMethod ov m pl)
   callWith pos f first (backTo pos (starEach [] X.env)) (backToKw pos (keywordEach [] X.env))):=by rfl) :
  QE X (.Call (.Attribute o m apos) [] [] pos) (pX C m sp [] E0 ta ge):=by
 obtain⟨f,fd,G,hm,b⟩:=F.ex;exact#[D1 (pl:=pl) he.h F.cl hm G hr b .nil jg ht]
theorem yn(F:MkFn X.prog X.w X.K X.mg X.base k C x ps sp)(hr:Room (k+1) X.A)(hg:Gl X x:=by rfl)(hdb:(x==("__debug__":Str))=false:=by decide):QE X (.Call (.Name x p) [] [] pos) (tZ C sp [] E0 ge):=by obtain⟨f,fd,G,hm,b⟩:=F.ex;exact#[DZ hm G hr hg F.mgC b .nil jg hdb]
theorem Cr(F:MkFn X.prog X.w X.K X.mg X.base k C x ps sp)(hr:Room (k+1) X.A)(ha:QA X (e::es) t)(hg:Gl X x:=by rfl)(hs:(e::es).all aO=true:=by rfl)(hdb:(x==("__debug__":Str))=false:=by decide) :
  QE X (.Call (.Name x p) (e::es) [] pos) (tZ C sp [] E0 t):=by
 obtain⟨f,fd,G,hm,b⟩:=F.ex;rw[YM,Zw]at hs;exact#[FT hm G hr hg F.mgC b .nil jg ha.h hdb (aS hs.1) (bp hs.2)]
end
def DRaw(h:Heap)(d:MU)(es:Array DictEntry)(ep:Nat):Prop:=∃o,h.get? d=some o/\o.ExactDict/\o.data=.dict es ep
theorem DRaw.type{s:MV}{d:MU}{es:Array DictEntry}{ep:Nat}(x:DRaw s.heap d es ep):s.TypeIs (.ref d) "dict":=let⟨o,ho,hc,_⟩:=x;#[o,ho,hc.1]
theorem DRaw.at'{h h':Heap}{d:MU}{es:Array DictEntry}{ep:Nat}(x:DRaw h d es ep)(e:∀o,h.get? d=some o->h'.get? d=some o):DRaw h' d es ep:=let⟨o,ho,r⟩:=x;#[o,e o ho,r]
theorem DRaw.lt{h:Heap}{d:MU}{es:Array DictEntry}{ep:Nat}(x:DRaw h d es ep):d<h.objs.size:=let⟨_,ho,_⟩:=x;Zh ho
section
variable{prog:MX}{w:MY}{A:MZ}{E:MQ}{s:MV}{d it:MU}{es:Array DictEntry}{ep i:Nat}
theorem Eh{Q:MQ}(hd:(d==sysModules)=false)(hm:DRaw s.heap d es ep)(hQ:Q (.ref s.heap.objs.size) { s with heap:=s.heap.push { cls:=.type "dict_keyiterator",data:=.fields (List.toArray [.ref d,.int 0 0,.int es.size 0,.int ep 0]) } }) :
  wpAny (model prog w) A (pyIter (.ref d)) Q E s:=by
 obtain⟨o,ho,hc,hdat⟩:=id hm;refine wpAny_pyIter_slot hm.type PySem.F.slot_dict_iter (ZK PySem.F.slot_dict_iter hm.type PySem.F.entry_dict_iter ?_ (PySem.F.args_dict_iter_1 _));unfold Builtin.«dict.__iter__»;refine z0 ?_;unfold Builtin.Dict.dictSlotNone;refine z0 (wpAny_notOrdered_dict hm.type ?_);show wpAny _ _ (pure (Value.ref d)) _ _ s;refine z9 ?_;show wpAny _ _ (Builtin.Dict.showsAll d >>= _) _ _ s;unfold Builtin.Dict.showsAll;rw[MN (by rw[hd];exact Zg)];refine z0 (z9 ?_);refine z0 (YH ho hdat ?_);refine z0 (wpAny_dictEpoch ho hdat ?_);refine z0 (ZD (z9 #[_,rfl,"dict_keyiterator",_,#[_,Ze _ rfl,rfl],Ym.lookup,?_]));simpa[rawInt]using hQ
theorem Eg{Q:Option MW->MV->Prop}(hit:s.heap.IsKeyIter it d i es.size ep)(hm:DRaw s.heap d es ep)(hx:i<es.size)(hQ:∀h',h'.IsKeyIter it d (i+1) es.size ep->Heap.SameBut it s.heap h'->Q (some es[i].key) { s with heap:=h' }):wpAny (model prog w) A (pyNext (.ref it)) Q E s:=by
 obtain⟨o,ho,hc,hd⟩:=id hit;obtain⟨od,hod,hcd,hdd⟩:=id hm;unfold pyNext;refine z0 (YE (ZA (name:=Str.ofString "__next__") hit.typeIs Ym
  (ZK Ym hit.typeIs PySem.F.entry_dict_keyiterator_next ?_ (PySem.F.args_dict_keyiterator_next_1 _))))
 refine z0 (z9 ?_);refine z0 ?_;refine z0 ?_
 first|refine z0 (YZ hit.typeIs (z9 ?_))|refine z0 (wpAny_typeNameOf_keyiter hit.typeIs (z9 ?_))
 refine z0 (wpAny_fieldsOf ho hd ?_);have hown:Builtin.Dict_items.ownsTuple "dict_keyiterator" = false:=⋯
 simp only[hown,Yu,YO];show wpAny _ _ (if(Value.ref d==Value.none)=true then _ else _) _ _ s;rw[MN (show¬((Value.ref d==Value.none)=true)from Zg)];refine z0 (z9 ?_);refine z0 (YH hod hdd ?_);rw[MN (by simp)];refine z0 (z9 ?_);refine z0 (wpAny_dictEpoch hod hdd ?_);rw[MN (by simp)];refine z9 ?_;simp only[show¬((i:Int)<0)from by omega,YO,ZJ,Array.getElem?_eq_getElem hx];refine z0 ?_
 first|refine z0 (YZ hit.typeIs (z9 ?_))|refine z0 (wpAny_typeNameOf_keyiter hit.typeIs (z9 ?_))
 refine z0 (wpAny_isOneOf_keyiter hit.typeIs ?_);show wpAny _ _ (setField (.ref it) 1 (rawInt ((i:Int)+1)) >>= _) _ _ s;refine z0 (Yo ho hd (by simp) ?_);have hit':(s.heap.update it (Obj.mapFields (·.setIfInBounds 1 (rawInt ((i:Int)+1))))).IsKeyIter it d (i+1) es.size ep :=
  #[_,ZZ _ ho (Yz (Z4 hd _)),(Obj.cls_mapFields ..).trans hc,by rw[Z4 hd];simp[rawInt]]
 refine z0 (ZF ?_);refine z0 (wpAny_isOneOf_keyiter (s:={ s with heap:=s.heap.update it (Obj.mapFields (·.setIfInBounds 1 (rawInt ((i:Int)+1)))) }) hit'.typeIs ?_);show wpAny _ _ (pure es[i].key) _ _ _;exact z9 (z9 #[_,rfl,z9 (hQ _ hit' (ZT ..))])
theorem Gk{Q:Option MW->MV->Prop}(hh:A.handled=none)(hit:s.heap.IsKeyIter it d es.size es.size ep)(hm:DRaw s.heap d es ep)(hQ:∀h',Heap.ExtBut it s.heap h'->Q none { s with heap:=h' }) :
  wpAny (model prog w) A (pyNext (.ref it)) Q E s:=by
 obtain⟨o,ho,hc,hd⟩:=id hit;obtain⟨od,hod,hcd,hdd⟩:=id hm;unfold pyNext;refine z0 (YE (ZA (name:=Str.ofString "__next__") hit.typeIs Ym
  (ZK Ym hit.typeIs PySem.F.entry_dict_keyiterator_next ?_ (PySem.F.args_dict_keyiterator_next_1 _))))
 refine z0 (z9 ?_);refine z0 ?_;refine z0 ?_
 first|refine z0 (YZ hit.typeIs (z9 ?_))|refine z0 (wpAny_typeNameOf_keyiter hit.typeIs (z9 ?_))
 refine z0 (wpAny_fieldsOf ho hd ?_);have hown:Builtin.Dict_items.ownsTuple "dict_keyiterator" = false:=⋯
 simp only[hown,Yu,YO];show wpAny _ _ (if(Value.ref d==Value.none)=true then _ else _) _ _ s;rw[MN (show¬((Value.ref d==Value.none)=true)from Zg)];refine z0 (z9 ?_);refine z0 (YH hod hdd ?_);rw[MN (by simp)];refine z0 (z9 ?_);refine z0 (wpAny_dictEpoch hod hdd ?_);rw[MN (by simp)];refine z9 ?_;simp only[show¬((es.size:Int)<0)from by omega,YO,ZJ,Array.getElem?_eq_none (Za _)];refine z0 ?_
 first|refine z0 (YZ hit.typeIs (z9 ?_))|refine z0 (wpAny_typeNameOf_keyiter hit.typeIs (z9 ?_))
 show wpAny _ _ (setField (.ref it) 0 .none >>= _) _ _ s;refine z0 (Yo ho hd (by simp) ?_);show wpAny _ _ (newExc (.type "StopIteration") [] >>= _) _ _ _;refine z0 ?_;simp only[newExc,newTuple];refine z0 (ZD ?_ (by size_fits));refine z0 (m:=firstArgMember _ _) (Y5 (a:=Value.none) (by first|rfl|(simp only[firstArgMember];rfl)) ?_);refine ZD ?_ (by size_fits);simp only[raiseNew];refine z0 (wpAny_handled ?_);rw[show A.in1.handled=none from hh];refine z0 (z9 (wpAny_throw ?_));refine z0 (Y3 (T:="StopIteration") (b:=true) #[_,Ze _ rfl,rfl] isSubtype_stop ?_);exact z9 (hQ _ (((ZT ..).extBut.push _).push _))
end
def JR(t:TS):TS:=λD σ H=>∃Pv:St->Hp->Prop,t { D with nx:=Pv } σ H/\∀σ' H',Pv σ' H'->D.nx σ' H'
theorem Cz{X:Cx}{st:Stmt}{t:TS}(h:QS X st t):QS X st (JR t):=#[λM9 s σ H D I ⟨Pv,h1,h2⟩=>thn (h.h M9 s σ H _ I h1) λfl s' q=>by
 cases fl with
 |next =>obtain⟨σ',H',I',q'⟩:=q;exact#[σ',H',I',h2 _ _ q']
 | _=>exact q]
section
variable{prog:MX}{w:MY}{A:MZ}{E:MQ}{h:Heap}{g:Array GenState}{d:Drawn}{t:Nat}{os:OsState}
variable{nm q:Str}{C N:MU}{bs bm bmB:MT}{hdct:Bool}{sn:List Str}{sub:MT}{ab:Bool}{col:Option Bool}{dd:Option MU}{k0 k1 k2 k3 k5:Option MW}{B newId initId:String}
theorem qc(F:ExcBaseFacts B newId initId bmB)(T:OwnTail h bmB bm){mN:MR}{rest:MT}{fI:MU}{oI:Obj}{Q:PySem.Fin->MV->Prop}(hC:h.get? C=some (excClassObj nm q C N bs bm hdct sn sub ab col dd k0 k1 k2 k3 k5 newId))(hn:h.Ns N mN)(hi:mN "__init__" = some (.ref fI))(hfI:h.get? fI=some oI)(hfc:oI.cls=.type "function")(hq:∀h' e,Heap.MadeExcOf h h' e (.ref C) rest->wpAny (model prog w) A (call (.ref fI) (.ref e::rest)) (λr s'=>r=.none/\Q (.done (.ret (.ref e))) s') E #[h',g,d,t,os])(hrest:rest.length<=sizeLine) :
  wpAny (model prog w) A (Builtin.«type.__call__» #[.ref C::rest,[]]) Q E #[h,g,d,t,os]:=by
 repeat(first|with_reducible refine YX hC ?_|with_reducible refine wpAny_madeBy_exc hC ?_|wp_step)
 refine codeAny_call_builtin_code (Code.quiet_builtin _ F.quiet) (wpAny_check_new_subT F T hC ?_);refine codeAny_exc_new_subT F T hC ?_ hrest;show wpAny _ _ _ _ _ _;have kp:∀b o,h.get? b=some o->((h.push { cls:=.type "tuple",data:=.seq rest.toArray }).push { cls:=.ref C,data:=.fields (List.toArray [.ref h.objs.size,.none,.none,.none,.bool false,.none]) }).get? b=some o :=
  λb o e=>z6 _ (z6 _ e)
 have hn₁:((h.push { cls:=.type "tuple",data:=.seq rest.toArray }).push { cls:=.ref C,data:=.fields (List.toArray [.ref h.objs.size,.none,.none,.none,.bool false,.none]) }).Ns N mN:=hn.keeps kp;have hget:((h.push { cls:=.type "tuple",data:=.seq rest.toArray }).push { cls:=.ref C,data:=.fields (List.toArray [.ref h.objs.size,.none,.none,.none,.bool false,.none]) }).get? (h.objs.size+1) =
   some { cls:=.ref C,data:=.fields (List.toArray [.ref h.objs.size,.none,.none,.none,.bool false,.none]) }:=by heap_get
 have hcC:(Value.ref C::bm).contains (.ref C)=true:=by simp
 unfold isInstance
 repeat(first|with_reducible refine YX hget ?_|(with_reducible refine wpAny_isSubtype_exc (kp _ _ hC) ?_;rw[hcC])|wp_step)
 show wpAny _ _ (typeLookup (.ref C) _) _ _ _;refine wpAny_typeLookup_tail (kp _ _ hC) hn₁ (T.keeps kp) F.mroIs F.init.lookup ?_;rw[hi];refine ZF (z0 ?_);unfold bindSpecial;refine z0 (wpAny_typeOf (T:="function") #[_,kp _ _ hfI,hfc] ?_);rw[MO ⋯];refine z9 (z0 (ZL (hq _ (h.objs.size+1) #[kp,Yj (Nat.le_succ _),h.objs.size,hget,Yj (Za _),?_]) (λr s' hr=>?_) λ_ _ x=>x))
 ·exact z6 _ (Heap.get?_push_at rfl rfl)
 ·obtain⟨rfl,hQ⟩:=hr
  wp_walk
  exact hQ
theorem yV(F:ExcBaseFacts B newId initId bmB)(T:OwnTail h bmB bm){mN:MR}{rest:MT}{fI:MU}{oI:Obj}{Q:MQ}(hC:h.get? C=some (excClassObj nm q C N bs bm hdct sn sub ab col dd k0 k1 k2 k3 k5 newId))(hn:h.Ns N mN)(hi:mN "__init__" = some (.ref fI))(hfI:h.get? fI=some oI)(hfc:oI.cls=.type "function")(hq:∀h' e,Heap.MadeExcOf h h' e (.ref C) rest->wpAny (model prog w) (A.under (.builtin "type.__call__" #[.ref C::rest,[]])) (call (.ref fI) (.ref e::rest)) (λr s'=>r=.none/\Q (.ref e) s') E #[h',g,d,t,os])(hrest:rest.length<=sizeLine) :
  wpAny (model prog w) A (call (.ref C) rest) Q E #[h,g,d,t,os]:=by
 have f1:=tc_lookup;have f2:=tc_bind (.ref C);have hT:(#[h,g,d,t,os]:MV).TypeIs (.ref C) "type":=#[_,hC,rfl]
 refine wpAny_call (codeAny_of_tree ?_);show wpAny _ _ (callAny (.ref C) _) _ _ _
 repeat(any_goals(first|assumption|with_reducible refine YX hC ?_|wp_step))
 refine#[rfl,?_];exact codeAny_call_builtin_at (Code.quiet_builtin _ ⋯) entry_typeCall (wpAny_check_type_call_sub hC (qc F T hC hn hi hfI hfc (λh' e hm=>hq h' e hm) hrest))
end
section
variable{M:Model}{A:MZ}{E:MQ}{env:Env}{K:W.Frag}
theorem Ct{C:MU}{bm:MT}{s:MV}{x:Sem MW}{Q:Flow->MV->Prop}(hC:ExC K C bm)(hh:A.handled=none)(h:wpAny M A x (λv s₁=>∃e oe,v=.ref e/\K.In s₁.heap/\s₁.heap.get? e=some oe/\oe.cls=.ref C/\(∃t,oe.data=.fields (List.toArray [.ref t,.none,.none,.none,.bool false,.none]))/\E (.ref e) s₁) E s):wpAny M A (raiseStmt env (some x) none) Q E s:=by
 have hcB:(Value.ref C::bm).contains (.type "BaseException")=true:=by rw[Y9,hC.exc,Bool.or_true]
 unfold raiseStmt;refine z0 (ZL h (λv s₁ h₁=>?_) λ_ _ x=>x);obtain⟨e,oe,rfl,hk,he,hcl,⟨vs,hd⟩,hE⟩:=h₁;obtain⟨nm,q,N,bs,hdct,sn,sub,ab,col,dd,k0,k1,k2,k3,k5,ni,oC⟩:=hC.cls _ hk;obtain⟨hp,g,d,tk,os⟩:=s₁;obtain⟨oc,od,odt,osl⟩:=oe;cases hcl;cases hd
 repeat(first|with_reducible refine YX he ?_|with_reducible refine YX oC ?_|(with_reducible refine wpAny_isSubtype_exc oC ?_;rw[hcB])|wp_step)
 exact wpAny_raiseNew_none hh hE
end
open PySem PySem.Spec PyProof.Rows PySem.W PySem.Builtin PySem.Builtin.ObjectAttr
theorem Cy(self:MW):refuseLoop self "__setattr__" VE=pure ():=by kernel_rfl
def pF:MT->Bool
 |.ref _::r=>pF r
 |l=>l==VE
theorem mY(self:MW):∀{l:MT},pF l=true->refuseLoop self "__setattr__" l=pure ()
 |.ref c::r,e=>by rw[refuseLoop_ref];exact mY self e
 | [],e=>nomatch e
 |.type n::r,e=>by rw[show(Value.type n::r)=VE from Z6.mp e];exact Cy self
 |.none::r,e=>by have:=(Z6 (α:=MT)).mp e;cases this
 |.bool b::r,e=>by have:=(Z6 (α:=MT)).mp e;cases this
 |.int b t::r,e=>by have:=(Z6 (α:=MT)).mp e;cases this
 |.str b t::r,e=>by have:=(Z6 (α:=MT)).mp e;cases this
 |.bytes b t::r,e=>by have:=(Z6 (α:=MT)).mp e;cases this
 |.float b t::r,e=>by have:=(Z6 (α:=MT)).mp e;cases this
 |.builtin b::r,e=>by have:=(Z6 (α:=MT)).mp e;cases this
 |.ellipsis::r,e=>by have:=(Z6 (α:=MT)).mp e;cases this
 |.notImplemented::r,e=>by have:=(Z6 (α:=MT)).mp e;cases this
structure ExS(K:W.Frag)(c:MU):Prop where
 sa:findIn K (.ref c) "__setattr__" = some (some (.builtin "object.__setattr__"))
 ov:((clsIn K c).any λcd=>pF cd.mro&&cd.hasDict)=true
 ob:mroIn K c (.type "object")=some true
section
variable{prog:MX}{w:MY}{K:W.Frag}{A:MZ}{R:Result->MV->Prop}{s:MV}{x C:MU}
theorem FL{ox:Obj}{od:Option Obj}{name:Str}{tk:Tok}{v:MW}(X:K.In s.heap)(I:InstAt s.heap x ox C od)(S:ExS K C)(hn:findIn K (.ref C) name=some none)(h:wpAny (model prog w) A.in1 (storeInOwnDict (.ref x) (.ref C) (.str name tk) name v false)
   (λfin s'=>match fin with|.done f=>R (.ok f) s'|.again c'=>c'.quiet=true/\codeAny (model prog w) A c' R s') (λe s'=>R (.error e) s') s) :
  codeAny (model prog w) A (.call (.builtin "object.__setattr__") #[[.ref x,.str name tk,v],[]]) R s:=by
 have SF:=PySem.F.store_object;obtain⟨cd,hc,ho⟩:=any_some S.ov;rw[Zw]at ho;have sub:Looks (model prog w) s.heap (isInstance (.ref x) (.type "object")) true:=I.type.andThen (looks_mroIn X S.ob);refine codeAny_call_builtin SF.slot.plain SF.entry (@check_slot (model prog w) _ _ s "object.__setattr__" "object" "__setattr__" (.ref x) [.str name tk,v] [] _ SF.kind SF.split sub (SF.args (.ref x) (.str name tk) v) ?_);have hm:Looks (model prog w) s.heap (mroOf (.ref C)) cd.mro:=(looks_clsIn X hc).andThen .now;rw[osa_eq,refuse_eq];refine z0 (z0 (I.type.here (z0 (hm.here ?_))));rw[mY _ ho.1];refine z9 (z0 (I.type.here (z0 ((looks_findIn X hn).here (z0 (Looks.now.here ?_))))));exact h
end
def exN(ea c t:MU)(dc:Option MU):HO:=.ext λh=>h.get? ea=some { cls:=.ref c,dict:=dc,data:=.fields (List.toArray [.ref t,.none,.none,.none,.bool false,.none]) }
theorem Bt{P:MX}{w:MY}{H:Hp}{h:Heap}{ea c t:MU}{dc:Option MU}(e:h.get? ea=some { cls:=.ref c,dict:=dc,data:=.fields (List.toArray [.ref t,.none,.none,.none,.bool false,.none]) }):ObjOk P w H h ea (exN ea c t dc) :=
 #[e,#[_,e],λ_ _ p k=>k _ p]
section
variable{X:Cx}{M9:MP}{σ:St}{H:Hp}{s:MV}{a c t:MU}{f:Str}{y:V}{u:MW}{A:MZ}{E:MQ}
theorem Go{Q:Unit->MV->Prop}(I:Inv X M9 σ H s)(e:H a=some (exN a c t none))(S:ExS X.K c)(n:NoAttr X.K c f)(ry:RelV y u)(h:∀d s',H d=none->Inv X M9 σ (upd (upd H d (.xd [(f,y)])) a (exN a c t (some d))) s'->Q () s'):wpAny (model X.prog X.w) A (setAttr (.ref a) f u) Q E s:=by
 have hx:s.heap.get? a=some { cls:=.ref c,dict:=none,data:=.fields (List.toArray [.ref t,.none,.none,.none,.bool false,.none]) }:=(show ObjOk X.prog X.w H s.heap a (exN a c t none)from I.hok a _ e).1;have J:InstAt s.heap a { cls:=.ref c,dict:=none,data:=.fields (List.toArray [.ref t,.none,.none,.none,.bool false,.none]) } c none:=#[hx,rfl,rfl,True.intro]
 obtain⟨cd,hc,ho⟩:=any_some S.ov;rw[Zw]at ho;refine W.set_plain I.kIn J S.sa (FL (s:={ s with toks:=s.toks+1 }) I.kIn J S n ?_);refine z0 (z9 (z0 (z0 (wpAny_loadPart hx (z0 (W.Looks.here (s:={ s with toks:=s.toks+1 }) (W.looks_clsIn I.kIn hc) ?_))))));rw[ho.2];have hxs:a≠s.heap.objs.size:=Zo (Zh hx);have hx1:(s.heap.push { cls:=.type "dict",data:=.dict #[] }).get? a=some { cls:=.ref c,dict:=none,data:=.fields (List.toArray [.ref t,.none,.none,.none,.bool false,.none]) }:=z6 _ hx;show wpAny _ _ (alloc { cls:=.type "dict",data:=.dict #[] } >>= λd=>update a (λo=>{ cls:=o.cls,dict:=some d,data:=o.data,slots:=o.slots }) >>= λ_=>dictMade (.ref c) a d) _ _ _;refine z0 (wpAny_alloc' ?_);refine z0 (wpAny_update' hx1 ?_);refine z9 ?_;have hgd:((s.heap.push { cls:=.type "dict",data:=.dict #[] }).update a λo=>{ cls:=o.cls,dict:=some s.heap.objs.size,data:=o.data,slots:=o.slots }).get? s.heap.objs.size=some { cls:=.type "dict",data:=.dict #[] } :=
  (Heap.get?_update_ne _ _ _ _ hxs.symm).trans (Heap.get?_push_at rfl rfl)
 have hnd:((s.heap.push { cls:=.type "dict",data:=.dict #[] }).update a λo=>{ cls:=o.cls,dict:=some s.heap.objs.size,data:=o.data,slots:=o.slots }).Ns s.heap.objs.size (λ_=>none) :=
  #[_,#[],_,hgd,rfl,λe he=>absurd he (by simp),λ_=>rfl]
 refine z0 (z9 (z0 (wpAny_nsSet1 (Heap.Ns1.of_empty hnd) λh' hn' hs=>?_)));obtain⟨oD,esD,epD,hoD,hdD,hcD⟩:=hn'.count (Within.cons f u Within.nil);refine z0 (wpAny_lookBehind hoD (by rw[hdD];exact pastItsLine_dict (Zq hcD (by rw[Zu,List.length_nil,sizeLine_eq];omega))) ?_);have hx':h'.get? a=some { cls:=.ref c,dict:=some s.heap.objs.size,data:=.fields (List.toArray [.ref t,.none,.none,.none,.bool false,.none]) }:=(hs.2 a hxs).trans (ZZ _ hx1 rfl);have kp:∀b o,b≠a->s.heap.get? b=some o->h'.get? b=some o:=λb o hb q=>(hs.2 b (Zo (Zh q))).trans ((Heap.get?_update_ne _ _ _ _ hb).trans (z6 _ q));have hd0:H s.heap.objs.size=none:=I.hok.fresh (Za _);have nd:∀b o,s.heap.get? b=some o->b≠s.heap.objs.size:=λb o q=>Zo (Zh q);have ne1:∀b v,H b=some v->v≠exN a c t none->b≠a:=λb v q hv z=>by rw[z,e]at q;exact hv (Zn q).symm
 have ne2:∀b v,H b=some v->b≠s.heap.objs.size:=λb v q=>al q hd0;have un:Un X.fs [] H (upd (upd H s.heap.objs.size (.xd [(f,y)])) a (exN a c t (some s.heap.objs.size))) s.heap h':=by
  refine#[λb o q m _ _=>kp b o (λz=>by rw[z,e]at m;cases m) q,λb o q m _ _=>#[o.slots,kp b o (λz=>by rw[z,e]at m;cases m) q],λb o q m _=>?_,λb o q _=>?_,λb xs q=>?_,λb o v q=>?_,λb ps q=>#[#[],?_]]
  ·rw[ah (λz=>by rw[z,e]at m;cases m),ah (nd b o q)];exact m
  ·by_cases hb:b=a
   ·exact#[_,hb▸hx']
   ·exact#[o,kp b o hb q]
  ·rw[ah (ne1 _ _ q nofun),ah (ne2 _ _ q)];exact q
  ·rw[ah (ne1 _ _ q nofun),ah (ne2 _ _ q)];exact q
  ·rw[ah (ne1 _ _ q nofun),ah (ne2 _ _ q),q];simp
 have hok:HOk X.prog X.w (upd (upd H s.heap.objs.size (.xd [(f,y)])) a (exN a c t (some s.heap.objs.size))) h':=λb v q=>by
  by_cases hb:b=a
  ·subst hb;rw[ad]at q;cases q;exact Bt hx'
  ·rw[ah hb]at q;by_cases hbd:b=s.heap.objs.size
   ·subst hbd;rw[ad]at q;cases q;refine#[_,hn',λg=>?_];by_cases hg:g=f
    ·subst hg;rw[MO rfl];show RelO ([(g,y)].lookup g) (some u);rw[ZN,show(g==g)=true by simp];exact ry
    ·rw[MN hg];show RelO ([(f,y)].lookup g) none;rw[ZN,show(g==f)=false by simpa using hg];exact True.intro
   ·rw[ah hbd]at q;refine(I.hok b v q).stay (λb' v' hb' q'=>kp b' v' ?_ q') (λb' q'=>?_) λb' xs q'=>?_
    ·rcases hb' with rfl|z
     ·exact hb
     ·exact ne1 _ _ z nofun
    ·rw[ah (ne1 _ _ q' nofun),ah (ne2 _ _ q')];exact q'
    ·rw[ah (ne1 _ _ q' nofun),ah (ne2 _ _ q')];exact q'
 exact z9 (h _ _ hd0 (I.un un hok))
end
def JN(K:W.Frag)(ta tv:TE)(f:Str):TS:=λD σ H=>tv σ H λy H1=>ta σ H1 λx H2=>∃a c t,x=.ref a/\H2 a=some (exN a c t none)/\ExS K c/\NoAttr K c f/\∀d,H2 d=none ->
 D.nx σ (upd (upd H2 d (.xd [(f,y)])) a (exN a c t (some d)))
theorem Iu{X:Cx}{o value:M8}{f:Str}{pos pos':Pos}{ta tv:TE}(ha:QE X o ta)(hv:QE X value tv)(hs:swapsWith value (some (.Attribute o f pos')) pos.line X.env=pure false:=by rfl):QS X (.Assign [.Attribute o f pos'] value pos) (JN X.K ta tv f):=by refine#[?_];intro M9 s σ H D I h;refine plainObj_wpAny_Assign_Attribute (thn (hv.h M9 s σ H _ I h) λu s1 ⟨y,H1,I1,ry,q⟩=>thn (ha.h M9 s1 σ H1 _ I1 q) λov s2 hz9=>?_) hs;obtain⟨x,H2,I2,rx,a,c,t,ex,ea,S,n,q2⟩:=hz9;subst ex;obtain rfl:ov=Value.ref a:=rx;exact Go I2 ea S n ry λd s3 hd I3=>#[σ,_,I3,q2 d hd]
def del(H:Hp)(a:MU):Hp:=λb=>if b=a then none else H b
theorem Ds{H:Hp}{a:MU}:del H a a=none:=by unfold del;rw[MO rfl]
theorem fF{H:Hp}{a b:MU}(h:b≠a):del H a b=H b:=by unfold del;rw[MN h]
theorem B8{H:Hp}{a b:MU}{u:HO}(h:del H a b=some u):b≠a/\H b=some u:=by
 by_cases c:b=a
 ·rw[c,Ds]at h;cases h
 ·rw[fF c]at h;exact#[c,h]
def uN(K:W.Frag)(C fI:MU):Bool:=match K.lookup C with
 | some ⟨.type "type",_,.cls cd,sl⟩=>(match cd.mro,sl.toList with
  |.ref C'::bm,[_,_,_,_,some (.builtin n),_]=>C'==C&&n=="ValueError.__new__"&&!cd.hasDel&&tailIn K VE bm&&nsOkIn K cd.ns&&nsIn K cd.ns "__init__" == some (some (.ref fI))
  | _,_=>false)
 |_=>false
theorem zG{K:W.Frag}{h:Heap}{N:MU}{m:MR}{n:Str}{v:MW}(X:K.In h)(G:h.Ns N m)(e:nsIn K N n=some (some v)):m n=some v:=by
 obtain⟨o,es,ep,ho,hd,_,hf⟩:=G;unfold nsIn at e;split at e
 ·rename_i c d es' n' sl q;have:=X _ _ q;rw[ho]at this;cases this;cases hd;split at e
  ·rename_i en he;cases e;rw[<-hf];unfold nsFind findBy;rw[<-Array.find?_toList,he];rfl
  ·split at e<;>cases e
 ·cases e
structure ExcAtI(K:W.Frag)(C fI:MU)(bm:MT):Prop where
 isIn:uN K C fI=true
 mro:∃c d cd sl,K.lookup C=some #[c,d,.cls cd,sl]/\cd.mro=Value.ref C::bm
 exc:bm.contains (.type "BaseException")=true
 fn:∃oI,K.lookup fI=some oI/\oI.cls=.type "function"
theorem oU{K:W.Frag}{C fI:MU}{bm:MT}(q:ExcAtI K C fI bm){h:Heap}(X:K.In h) :
  ∃nm qn N bs hdct sn sub ab col dd k0 k1 k2 k3 k5 mN,h.get? C=some (excClassObj nm qn C N bs bm hdct sn sub ab col dd k0 k1 k2 k3 k5 "ValueError.__new__")/\h.Ns N mN/\mN "__init__" = some (.ref fI)/\OwnTail h VE bm:=by
 have q1:=q.isIn;obtain⟨c9,d9,cd9,sl9,l9,m9⟩:=q.mro;unfold uN at q1;split at q1
 ·rename_i dd cd sl ho;split at q1
  ·rename_i C' bm' k0 k1 k2 k3 n k5 hm hs;have q2:cd.mro=Value.ref C::bm:=by have z:=ho.symm.trans l9;cases z;exact m9
   rw[hm]at q2;injection q2 with z1 z2;injection z1 with z1;cases z1;cases z2;simp only[Zw,Z6,Bool.not_eq_true']at q1;obtain⟨⟨⟨⟨⟨_,rfl⟩,nd⟩,ht⟩,ok⟩,ni⟩:=q1;have es:sl=(List.toArray [k0,k1,k2,k3,some (.builtin "ValueError.__new__"),k5]):=by obtain⟨l⟩:=sl;simp only at hs;rw[hs]
   cases es;obtain⟨nm,bs,mro,ns,qn,hd,sn,sub,ab,col,del⟩:=cd;dsimp only at hm nd ok ni;cases hm;cases nd;have G:h.Ns ns _:=.of_isNs (isNs_of_in X ok);exact#[nm,qn,ns,bs,hd,sn,sub,ab,col,dd,k0,k1,k2,k3,k5,_,X _ _ ho,G,zG X G ni,tail_of_in X ht]
  ·cases q1
 ·cases q1
theorem xM{K:W.Frag}{C fI:MU}{bm:MT}(q:ExcAtI K C fI bm):ExC K C bm where
 cls:=λh X=>by obtain⟨nm,qn,N,bs,hdct,sn,sub,ab,col,dd,k0,k1,k2,k3,k5,mN,e,_⟩:=oU q X;exact#[nm,qn,N,bs,hdct,sn,sub,ab,col,dd,k0,k1,k2,k3,k5,_,e]
 exc:=q.exc
structure ExI(P:MX)(w:MY)(K:W.Frag)(mg:MR)(base:Heap)(k:Nat)(C:MU)(bm:MT)(ps:List Str)(sp:Sp):Prop where
 ex:∃fI fd,ExcAtI K C fI bm/\FnOk P w K mg base CX0 k fI fd ps sp/\Binds K fd ps []
section
variable{X:Cx}{M9:MP}{σ:St}{H:Hp}{s:MV}
theorem Inv.excMade{h':Heap}{e c t:MU}(I:Inv X M9 σ H s)(kp:∀b o,s.heap.get? b=some o->h'.get? b=some o)(hn:s.heap.get? e=none)(he:h'.get? e=some { cls:=.ref c,data:=.fields (List.toArray [.ref t,.none,.none,.none,.bool false,.none]) }) :
  H e=none/\Inv X M9 σ (upd H e (exN e c t none)) { s with heap:=h' }:=by
 have h0:H e=none:=by
  cases q:H e with
  |none=>rfl
  |some u =>obtain⟨o,z⟩:=iC (I.hok e u q);rw[hn]at z;cases z
 have nb:∀b o,s.heap.get? b=some o->b≠e:=λb o q z=>by rw[z,hn]at q;cases q
 refine#[h0,I.un (t':=s.toks) #[λb o q _ _ _=>kp b o q,λb o q _ _ _=>#[o.slots,kp b o q],λb o q m _=>by rw[ah (nb b o q)];exact m,λb o q _=>#[o,kp b o q],λb xs q=>by rw[ah (al q h0)];exact q,λb o v q=>by rw[ah (al q h0)];exact q,λb ps q=>#[#[],by rw[ah (al q h0),q];simp]] λb u q=>?_];by_cases hb:b=e
 ·subst hb;rw[ad]at q;cases q;exact Bt he
 ·rw[ah hb]at q;exact(I.hok b u q).stay (λb' v _ q'=>kp b' v q') (λb' z=>by rw[ah (al z h0)];exact z) λb' xs z=>by rw[ah (al z h0)];exact z
end
section
variable{X:Cx}{EC:MW->Option MU->Hp->Prop}{C:MU}{bm:MT}{k:Nat}{ps:List Str}{sp:Sp}{x:Str}{np cpos pos:Pos}{e:M8}{es:List M8}{ta:TA}
def Gv(sp:Sp)(C:MU)(EC:MW->Option MU->Hp->Prop)(ta:TA):TS:=λ_ σ H=>ta σ H λvs H1=>vs.length<=sizeLine/\∀ea t,H1 ea=none->H1 t=none->t≠ea ->
 sp (.ref ea::vs) (upd H1 ea (exN ea C t none)) (λv H2=>v=.non/\∃dc,H2 ea=some (exN ea C t dc)/\EC (.ref C) dc (del H2 ea)) E0
end
structure MFnX(P:MX)(w:MY)(K:W.Frag)(mg:MR)(base:Heap)(k:Nat)(C:MU)(m:Str)(ps:List Str)(sp:Sp):Prop where
 cl:Cls K C
 ex:∃f fd,FnOk P w K mg base (CXr P w) k f fd ps sp/\Meth K C m f/\Binds K fd ps []
section
variable{X:Cx}{k:Nat}{C:MU}{m x:Str}{p pos apos:Pos}{o e:M8}{es:List M8}{ps:List Str}{sp:Sp}{t:TA}{ta:TE}{E:XK}
theorem mE{pl:Sem Bool}(F:MFnX X.prog X.w X.K X.mg X.base k C m ps sp)(hx:ee (CXr X.prog X.w) X E)(hr:Room k X.A)(he:QE X o ta)(ha:QA X (e::es) t)(hs:(e::es).all aO=true:=by rfl)(ht:eval (.Call (.Attribute o m apos) (e::es) [] pos) X.env=(do
   let ov ←eval o X.env
   standAt apos.atName
   let(f,first) ←holding [ov] (getMethod ov m pl)
   callWith pos f first (backTo pos (starEach (e::es) X.env)) (backToKw pos (keywordEach [] X.env))):=by rfl) :
  QE X (.Call (.Attribute o m apos) (e::es) [] pos) (pX C m sp [] E ta t):=by
 obtain⟨f,fd,G,hm,b⟩:=F.ex;rw[YM,Zw]at hs;exact#[yl (pl:=pl) he.h F.cl hm G hr b .nil hx ha.h (aS hs.1) (bp hs.2) ht]
def IH(C:MU)(m:Str)(sp:Sp)(ta:TE)(t:TA):TX:=λσ H Q E=>ta σ H λx H1=>IsM C m x H1 (t σ H1 λvs H2=>sp (x::vs) H2 Q E)
theorem IT{pl:Sem Bool}(F:MFnX X.prog X.w X.K X.mg X.base k C m ps sp)(hr:Room k X.A)(he:QE X.nox o ta)(ha:QA X.nox (e::es) t)(hs:(e::es).all aO=true:=by rfl)(ht:eval (.Call (.Attribute o m apos) (e::es) [] pos) X.env=(do
   let ov ←eval o X.env
   standAt apos.atName
   let(f,first) ←holding [ov] (getMethod ov m pl)
   callWith pos f first (backTo pos (starEach (e::es) X.env)) (backToKw pos (keywordEach [] X.env))):=by rfl) :
  QX X (.Call (.Attribute o m apos) (e::es) [] pos) (IH C m sp ta t):=by
 refine#[?_];intro M9 s σ H Q E I h;obtain⟨f,fd,G,hm,b⟩:=F.ex;rw[YM,Zw]at hs;refine W.methodCall_KW (pl:=pl) (ZL (he.h M9 s σ H _ (I.wish _) h) (λu s1 hz9=>?_) λ_ _ z=>False.elim z) ht;obtain⟨y,H1,I1,rx,a,dx,fs,ex,ea,l,q⟩:=hz9;subst ex;obtain rfl:u=Value.ref a:=rx;have I1':=I1.unwish;refine ke I1' ea F.cl hm l ?_;refine W.callWith_K (first:=[.ref a]) (h₀:=X.base) I.ok.mod.kin hm.kp (ZL (ha.h pos M9 s1 σ H1 _ I1 q) (λus s2 ⟨vs,H2,I2,r,q2⟩=>#[I2.kIn,?_]) λ_ _ z=>False.elim z) (aS hs.1) (bp hs.2);have I3:=I2.unwish;have hb:=b s2 (.ref a::us) I3.kIn (by rw[Yr,<-G.len _ _ _ _ q2,Zu,Zu,r.length]);rw[Yr]at hb;refine wpAny_call (codeAny_mono (G.run X.A X.stack s2 H2 #[.ref a::us,[]] (.ref a::us) (.ref a::vs) Q E hr I3.env0 hb (.cons rfl r) q2) λr s' hq=>?_);cases r with
 |error e=>exact#[s2,H2,I3,hq]
 |ok fl =>
  cases fl with
  |ret u=>exact I3.after hq
  |next=>exact False.elim hq
  |brk=>exact False.elim hq
  |cont=>exact False.elim hq
end
section
variable{X:Cx}
theorem Jf:QH X [] (λ_ _ _ _ _=>False):=#[λ_ _ _ _ _ _ _ _ _ _ _ _ _ _ _ _ h=>h.elim]
def JT(K:W.Frag)(Ch:MU)(ts:TS)(th:TH):TH:=λD σ C dc H'=>∃c bm,C=.ref c/\ExC K c bm/\if(Value.ref c::bm).contains (.ref Ch)=true then ts D σ H' else th D σ C dc H'
theorem Dy{x:Str}{Ch:MU}{bmh:MT}{b0:Stmt}{suite:List Stmt}{ts:TS}{np pos:Pos}{rest:List ExceptHandler}{th:TH}(cl:ExC X.K Ch bmh)(hm:X.mg x=some (.ref Ch))(hs:∀e,QB (X.exc e) (b0::suite) ts)(hrest:QH X rest th)(hg:Gl X x:=by rfl)(hdb:(x==("__debug__":Str))=false:=by decide):QH X (.ExceptHandler (some (.Name x np)) none (b0::suite) pos::rest) (JT X.K Ch ts th):=by
 refine#[?_];rintro M9 s0 H0 σ D ea t C B H' dc s' I0 F fly hd ⟨c,bm,rfl,ec,q⟩;have I:=F.inv I0;refine wpAny_handleBy_cons (codeAny_handlers_test ?_) nofun;refine fT (X:=X.exc (.ref ea)) (I.exc _) hg hm ?_ hdb;obtain⟨oe,he,hcl⟩:=fly.there;refine wO ec cl I.kIn he hcl ?_;cases hc:(Value.ref c::bm).contains (.ref Ch)with
 |true =>
  rw[hc,MO rfl]at q;refine codeAny_handlers_suite ?_;obtain⟨f1,f2,f3,f4⟩:=fly;refine jX f1 f3 f4.at hd λh6 k1 k2 k3 up6 hd6=>?_;have F6:=F.move (tk:=s'.toks) I0 k1 up6;refine ZL ((hs (.ref ea)).h M9 _ _ _ _ ((F6.inv I0).exc _) q) (λf s8 sp=>?_) (λ_ _ z=>False.elim z);cases f with
  |next =>obtain⟨σ2,H2,I8,q8⟩:=sp;exact#[_,H2,I8.unexc I0.ok,q8]
  |brk =>obtain⟨σ2,H2,I8,q8⟩:=sp;exact#[_,H2,I8.unexc I0.ok,q8]
  |cont =>obtain⟨σ2,H2,I8,q8⟩:=sp;exact#[_,H2,I8.unexc I0.ok,q8]
  |ret u =>obtain⟨v,σ2,H2,I8,r8,q8⟩:=sp;exact#[v,_,H2,I8.unexc I0.ok,r8,q8]
 |false =>rw[hc,MN Zg]at q;exact hrest.h M9 s0 H0 σ D ea t _ B H' dc _ I0 F fly hd q
end
def Fe(X:Cx)(B:Heap)(ea:MU)(C:MW)(t:MU)(h:Heap):Prop :=
 (B.StaysIn h/\B.get? ea=none/\h.FunFrames B X.stack/\∃oe,h.get? ea=some oe/\oe.cls=C/\oe.data=.fields (List.toArray [.ref t,.none,.none,.none,.bool false,.none])) \/
 Heap.FlyingW B X.stack ea C (.ref t) h\/Heap.HeldW B X.stack ea C (.ref t) X.env.locals h
def yE(X:Cx)(E:XK)(ea:MU)(s':MV):Prop:=∃(M9:MP) (σ:St) (H0 H':Hp) (s0:MV) (B:Heap) (t:MU) (C:MW) (vs:MT) (dc:Option MU),
 Inv X M9 σ H0 s0/\Fl X H0 H' s0 s' B/\Fe X B ea C t s'.heap/\s'.heap.TupAt t vs/\B.get? t=none/\dZ s'.heap ea dc/\E C dc H'
section
variable{M:Model}{A:MZ}{E:MQ}{s:MV}{base:Heap}{l:List Env}{L e:MU}
theorem Bv{cls a0 fl:MW}{dc:Option MU}{Q:Unit->MV->Prop}(kb:base.StaysIn s.heap)(ff:s.heap.FunFrames base l)(tr:s.heap.TracedAtW base e cls a0 fl)(dd:dZ s.heap e dc)(k:∀h',base.StaysIn h'->h'.FunFrames base l->h'.TracedAtW base e cls a0 (rawInt L)->s.heap.UpToSlots h'->dZ h' e dc->Q () { s with heap:=h' }):wpAny M A (setFlight (.ref e) (some L)) Q E s:=by
 obtain⟨oe,vs,T,oT,ts,he,hc,dt,v1,nT,ne,hT,dT,t3⟩:=tr;have z3:3<ts.size:=(Array.getElem?_eq_some_iff.mp t3).1;have oth:∀b,b≠T->(s.heap.update T (Obj.mapFields (·.setIfInBounds 3 ((some L:Option MU).elim Value.none λf=>rawInt f)))).get? b=s.heap.get? b:=λb n=>Zz _ _ (Z2 n);have nrec:∀b o,s.heap.get? b=some o->(∀ws,o.data≠.fields ws)->b≠T:=λb o q hn z=>by subst z;cases Zn (hT.symm.trans q);exact hn ts dT
 unfold setFlight;refine z0 (ZO he dt v1 ?_);rw[MO (by simp:(Value.ref T != Value.none)=true)];refine Yo hT dT z3 (k _ (λb o q=>(oth b λz=>nomatch((z▸q).symm.trans nT)).trans (kb b o q)) (ff.of_keeps λb o q hn=>#[o,(oth b (nrec b o q hn)).trans q,rfl]) ?_ (λb o q hn=>#[o.slots,(oth b (nrec b o q hn)).trans q]) ?_)
 ·exact#[oe,vs,T,_,_,(oth e (Z2 ne)).trans he,hc,dt,v1,nT,ne,ZZ _ hT (Yz (Z4 dT _)),Z4 dT _,by simp[z3]]
 ·obtain⟨o,q,d⟩:=dd;exact#[o,(oth e (Z2 ne)).trans q,d]
end
section
variable{X:Cx}{E:XK}{ea:MU}{s':MV}{EE:MQ}
theorem oO{Q:Unit->MV->Prop}(hst:X.stack=X.env::X.outer)(hfr:X.env.frame=some X.env.locals)(x:yE X E ea s')(k:∀ h',(∃ (M9:MP) (σ:St) (H0 H':Hp) (s0:MV) (B:Heap) (t:MU) (C:MW) (vs:MT) (dc:Option MU),
   Inv X M9 σ H0 s0/\Fl X H0 H' s0 { s' with heap:=h' } B/\Heap.HeldW B X.stack ea C (.ref t) X.env.locals h'/\h'.TupAt t vs/\B.get? t=none/\dZ h' ea dc/\E C dc H')->Q () { s' with heap:=h' }) :
  wpAny (model X.prog X.w) X.A (noteFrame (.ref ea) X.env) Q EE s':=by
 obtain⟨M9,σ,H0,H',s0,B,t,C,vs,dc,I0,F,st,tup,hBt,dd,q⟩:=x;have fr:X.A.frames=some (X.env::X.outer):=by rw[<-hst];exact I0.ok.frames
 rcases st with⟨f1,f2,f3,oe,he,rfl,hd⟩|fly|held
 ·unfold noteFrame;simp only[hfr];refine z0 (ZO he hd (show _=some Value.none from rfl) ?_);rw[MN ⋯];rw[hst]at f3;refine mW (a0:=.ref t) fr f3 hfr he f1 f2 hd (by simp) rfl λh1 nt dd1=>?_;obtain⟨n1,n2,n3,n4⟩:=nt;rw[<-hst]at n2;obtain⟨o9,q9,d9⟩:=dd;cases Zn (he.symm.trans q9);rw[d9]at dd1;exact k h1 #[M9,σ,H0,H',s0,B,t,_,vs,dc,I0,F.move (tk:=s'.toks) I0 n1 n4,#[n1,f2,n2,n3],tup.of_slots n4,hBt,dd1,q]
 ·rw[hst]at fly;refine ph fr hfr fly dd λh1 held up dd1=>?_;rw[<-hst]at held;exact k h1 #[M9,σ,H0,H',s0,B,t,C,vs,dc,I0,F.move (tk:=s'.toks) I0 held.1 up,held,tup.of_slots up,hBt,dd1,q]
 ·exact wpAny_noteFrame_againW hfr held.2.2.2 (k s'.heap #[M9,σ,H0,H',s0,B,t,C,vs,dc,I0,F,held,tup,hBt,dd,q])
def Mid(X:Cx)(E:XK):MQ:=λe s'=>∃ea,e=.ref ea/\yE X E ea s'
theorem pG(hst:X.stack=X.env::X.outer)(hfr:X.env.frame=some X.env.locals):PassesOwn (model X.prog X.w) X.A X.env (Mid X E):=by rintro e s' ⟨ea,rfl,x⟩;refine oO hst hfr x ?_;rintro h1 ⟨M9,σ,H0,H',s0,B,t,C,vs,dc,I0,F,held,tup,hBt,dd,q⟩;obtain⟨f1,f2,f3,f4⟩:=held;obtain⟨oe,us,T,oT,ts,he,hc,dt,v1,nT,ne,hT,dT,t3⟩:=id f4;unfold cameBackBy;refine z0 (ZO he dt v1 ?_);rw[MN (by simp)];rw[hfr];refine Bv (s:={ s' with heap:=h1 }) f1 f3 f4 dd λh2 k1 k2 k3 up dd2=>?_;exact#[ea,rfl,M9,σ,H0,H',s0,B,t,C,vs,dc,I0,F.move (tk:=s'.toks) I0 k1 up,.inr (.inr #[k1,f2,k2,k3]),tup.of_slots up,hBt,dd2,q]
end
def hX(X:Cx)(E:XK):Prop:=∀ea s',yE X E ea s'->X.xe (.ref ea) s'
theorem mX{X:Cx}{E:XK}:hX (X.wish (Mid X E)) E:=by rintro ea s' ⟨M9,σ,H0,H',s0,B,t,C,vs,dc,I0,F,st,r⟩;exact#[ea,rfl,M9,σ,H0,H',s0,B,t,C,vs,dc,I0.unwish,#[F.os,F.bare,F.un,F.hok,F.kb],st,r]
section
variable{P:MX}{w:MY}{K:W.Frag}{mg:MR}{base:Heap}{N:List Str}{qual:Str}{scope:Scope}{f:MU}{cd:MW}{A:MZ}{outer:List Env}{s:MV}{H:Hp}{E:XK}
theorem dF:hX (fq (CXr P w) P w K mg base N qual scope f cd A outer s H E) E:=by
 intro ea s' x;show wpAny (model P w) (A.deeper (envOfC qual scope s.heap.objs.size f cd)) (leaving (envOfC qual scope s.heap.objs.size f cd) (.ref ea)) _ _ _;unfold leaving;refine z0 (oO (X:=fq (CXr P w) P w K mg base N qual scope f cd A outer s H E) rfl rfl x ?_);rintro h1 ⟨M9,σ,H0,H',s0,B,t,C,vs,dc,I,F,held,tup,hBt,dd,q⟩;obtain⟨f1,f2,f3,f4⟩:=held;refine jX (s:={ s' with heap:=h1 }) f1 f3 f4 dd λh2 k1 k2 k3 up dd2=>?_;have F2:=F.move (tk:=s'.toks) I k1 up;have I2:=F2.inv I;have hL:∀b o,s.heap.get? b=some o->b≠s.heap.objs.size:=λb o q=>Zo (Zh q);have nfr:∀b,b∉frs outer->b≠s.heap.objs.size->b∉frs (envOfC qual scope s.heap.objs.size f cd::outer):=λb h1 h2 hm=>by
  rcases Zl.mp (I.stkSub b hm)with z|z
  ·exact h2 z
  ·exact h1 z
 obtain⟨_,_,k2'⟩:=k2;refine#[ea,t,C,vs,B,H',dc,rfl,I2.os,F2.bare,#[λb o q n hb _=>?_,λb o q n hb _=>?_,λb o q n _=>?_,λb o q _=>?_,I2.base.tups,I2.base.frzs,I2.base.tbls],F2.hok,#[k1,f2,k2',k3],tup.of_slots up,hBt,λb o hb ho q=>?_,dd2,q]
 ·exact I2.base.keep b o q n hb nofun
 ·exact I2.base.slot b o q n hb nofun
 ·exact I2.base.free b o q n nofun
 ·exact I2.base.there b o q nofun
 ·refine F2.kb b o ?_ ?_ q
  ·rcases ho with⟨u,z⟩|⟨o0,z⟩
   ·exact F2.nf I z
   ·exact nfr b hb (hL b o0 z)
  ·rcases ho with⟨u,z⟩|⟨o0,z⟩
   ·exact .inl #[u,z]
   ·exact .inr (I.base.there b o0 z nofun)
end
section
variable{X:Cx}{E:XK}
theorem EW(hR:hX X E):ee (CXr X.prog X.w) X E:=λM9 σ H s e s' I x=>by obtain⟨ea,t,C,vs,B,H',dc,rfl,os,bare,un,hok,fly,tup,hBt,kb,dd,q⟩:=x;exact hR ea s' #[M9,σ,H,H',s,B,t,C,vs,dc,I,#[os,bare,un,hok,kb],.inr (.inl fly),tup,hBt,dd,q]
theorem fJ(hR:hX X E):A6 X (λC H1=>E C none H1):=λM9 σ H1 s1 h2 e C vs I hx hE=>by
 obtain⟨t,he,tn,tt⟩:=hx.there;have fr0:∀b,b∈frs X.stack->∃o,s1.heap.get? b=some o:=λb hm=>by obtain⟨_,o',ho',_⟩:=I.stack.mem hm;exact#[o',ho']
 have hid:∀b o,s1.heap.get? b=some o->b∉frs X.stack->(hideAll s1.heap (frs X.stack)).get? b=some o:=λb o q hb=>hideAll_get _ q hb;have none_of:∀b,s1.heap.get? b=none->(hideAll s1.heap (frs X.stack)).get? b=none:=λb hb=>by
  cases q:(hideAll s1.heap (frs X.stack)).get? b with
  |none=>rfl
  |some o=>exact nomatch hb.symm.trans (of_hideAll _ q)
 have tr:∀b u,H1 b=some u->b∉frs X.stack:=λb u q hm=>by have:=I.stkFree b hm;rw[q]at this;cases this
 have F:Fl X H1 H1 s1 { s1 with heap:=h2 } (hideAll s1.heap (frs X.stack)):=#[rfl,I.bare,Un.kept hx.keeps,I.hok.kept hx.keeps,λb o hb ho q=>by
  obtain⟨o1,q1⟩:∃o1,s1.heap.get? b=some o1:=by
   rcases ho with⟨u,z⟩|⟨o0,z⟩
   ·exact iC (I.hok b u z)
   ·exact#[o0,z]
  have q2:=hx.keeps _ _ q1;have q':h2.get? b=some o:=q;rw[q']at q2;cases q2;exact hid b o q1 hb]
 have ff:h2.FunFrames (hideAll s1.heap (frs X.stack)) X.stack:=(funFrames_hide I.stack λenv he b hb=>Y8.mpr #[env,he,hb]).of_keeps λb o q _=>#[o,hx.keeps b o q,rfl]
 exact hR e _ #[M9,σ,H1,H1,s1,_,t,C,vs,none,I,F,.inl #[λb o q=>hx.keeps b o (of_hideAll _ q),none_of e hx.new,ff,_,he,rfl,rfl],#[_,_,tt,rfl,rfl],none_of t tn,#[_,he,rfl],hE]
end
section
variable{X:Cx}{E:XK}{st:Stmt}{t:TS}
theorem E3(hR:hX X E)(h:QS (X.wish (Mid X E)) st t):QS X st t:=#[λM9 s σ H D I q=>ZL (h.h M9 s σ H D (I.wish _) q) (λ_ _ z=>z.unwish) λ_ _ ⟨ea,e,x⟩=>by rw[e];exact hR ea _ x]
end
section
variable{X:Cx}{E:XK}{C:MU}{bm:MT}{k:Nat}{ps:List Str}{sp:Sp}{x:Str}{np cpos pos:Pos}{e:M8}{es:List M8}{ta:TA}
theorem Ek(hR:hX X E)(hc:X.calm=true)(F:ExI X.prog X.w X.K X.mg X.base k C bm ps sp)(hr:Room (k+1) X.A)(hm:X.mg x=some (.ref C))(ha:QA X (e::es) ta)(hg:Gl X x:=by rfl)(hs:(e::es).all aO=true:=by rfl)(hdb:(x==("__debug__":Str))=false:=by decide) :
  QS X (.Raise (some (.Call (.Name x np) (e::es) [] cpos)) none pos) (Gv sp C E ta):=by
 refine#[?_];intro M9 s σ H D I h;obtain⟨fI,fd,xc,G,hb⟩:=F.ex;have hs1:aO e=true:=Ye.mp hs e (by simp);have he:=aS (es:=es) (env:=X.env) hs1;have hpl:(backTo cpos (starEach es X.env)).any (·.1)=false:=bp (by
  rw[Ye];intro y hy;exact Ye.mp hs y (ZG _ hy))
 have hpl':(backTo cpos (starEach (e::es) X.env)).any (·.1)=false:=by rw[he];show(false ||(backTo cpos (starEach es X.env)).any (·.1))=false;rw[hpl];rfl
 rw[arm_exec_Raise];refine z0 (wpAny_standAt (Ct (K:=X.K) (xM xc) (I.ok.hd hc) (z0 (ZL (wpAny_Call_ofName (fT I hg hm ?_ hdb)) (λv s₃ h₃=>z0 (wpAny_standAt (z9 h₃))) λ_ _ x=>x))));unfold callWith;have hA:=ha.h cpos M9 s σ H _ I h;rw[he]at hA ⊢;refine z0 (ZF (Calls.evalArgs_plain (thn hA λus s1 ⟨vs,H1,I1,r1,hz,hE⟩=>z0 (wpAny_standAt ?_))));obtain⟨nm,q,N,bs,hdct,sn,sub,ab,col,dd,k0,k1,k2,k3,k5,mN,oC,hN,hi,T⟩:=oU xc I1.kIn;obtain⟨oI,lI,cI⟩:=xc.fn;obtain⟨hp,g,d,tk,os⟩:=s1;rw[<-he];simp only[hpl'];refine z0 (wpAny_keeperOf_exc oC ?_);refine z0 (yV PySem.F.excBase_ValueError T oC hN hi (I1.kIn _ _ lI) cI (λh' ea mx=>?_) (show us.length<=sizeLine by rw[<-r1.length];exact hz));obtain⟨t,ht,tn,tt⟩:=mx.there;obtain⟨hea0,I2⟩:=I1.excMade mx.keeps mx.new ht;have nt:t≠ea:=λz=>by rw[z,ht]at tt;cases tt
 have ht0:H1 t=none:=by
  cases q:H1 t with
  |none=>rfl
  |some u =>obtain⟨o,z⟩:=iC (I1.hok t u q);exact nomatch tn.symm.trans z
 have hq:=hE ea t hea0 ht0 nt;have hl:(Value.ref ea::us).length=ps.length:=by rw[<-G.len _ _ _ _ hq,Zu,Zu,r1.length]
 refine wpAny_call (codeAny_mono (G.run _ X.stack _ _ #[Value.ref ea::us,[]] (Value.ref ea::us) (V.ref ea::vs) _ _ (hr.make C us []) (I2.env0.make C us []) (by have:=hb _ (Value.ref ea::us) I2.kIn (by rw[Yr];exact hl);rw[Yr]at this;exact this) (.cons rfl r1) hq) λr s' hq'=>?_);cases r with
 |error e'=>exact False.elim hq'
 |ok fl =>
  cases fl with
  |next=>exact False.elim hq'
  |brk=>exact False.elim hq'
  |cont=>exact False.elim hq'
  |ret u =>
   obtain⟨v,H',os',bare,un,hok,r,rfl,dc,hd,hE'⟩:=hq';obtain rfl:u=Value.none:=r;have I3:Inv X M9 σ H' s':=I2.call' os' un hok bare λ_ z=>nomatch z;have notin:∀b,hp.get? b=none->b∉frs X.stack:=λb hb hm=>by obtain⟨_,o',ho',_⟩:=I1.stack.mem hm;exact nomatch hb.symm.trans ho'
   have hx:s'.heap.get? ea=some { cls:=.ref C,dict:=dc,data:=.fields (List.toArray [.ref t,.none,.none,.none,.bool false,.none]) }:=(show ObjOk X.prog X.w H' s'.heap ea (exN ea C t dc)from I3.hok ea _ hd).1;have ut:upd H1 ea (exN ea C t none) t=none:=by rw[ah nt];exact ht0
   have tt':=un.keep t _ tt ut (notin t tn) nofun;refine#[rfl,z0 (ZF (wpAny_point (z9 #[ea,_,rfl,I3.kIn,hx,rfl,#[t,rfl],?_])))];have hy:s'.heap.get? ea=some { cls:=.ref C,dict:=dc,data:=.fields (List.toArray [.ref t,.none,.none,.none,.bool false,.none]) }:=hx;have ne:∀b v,H' b=some v->v≠exN ea C t dc->b≠ea:=λb v q hv z=>by rw[z,hd]at q;exact hv (Zn q).symm
   have ft:=un.free t _ tt ut nofun;have tr2:∀b v,H' b=some v->b≠t:=λb v q z=>by rw[z,ft]at q;cases q
   have tfr:∀b v,H' b=some v->b∉frs X.stack:=λb v q hm=>by have:=I3.stkFree b hm;rw[q]at this;cases this
   have oe:∀b o,hp.get? b=some o->b≠ea:=λb o q z=>by rw[z]at q;exact nomatch mx.new.symm.trans q
   have ot:∀b o,hp.get? b=some o->b≠t:=λb o q z=>by rw[z]at q;exact nomatch tn.symm.trans q
   have un1:Un (frs X.stack) [] H1 (del H' ea) hp s'.heap:=by
    refine#[λb o q n hb hx'=>un.keep b o (mx.keeps b o q) (by rw[ah (oe b o q)];exact n) hb hx',λb o q n hb hx'=>un.slot b o (mx.keeps b o q) (by rw[ah (oe b o q)];exact n) hb hx',λb o q n hx'=>?_,λb o q hx'=>un.there b o (mx.keeps b o q) hx',λb xs q=>?_,λb o v q=>?_,λb ps' q=>?_]
    ·rw[fF (oe b o q)];exact un.free b o (mx.keeps b o q) (by rw[ah (oe b o q)];exact n) hx'
    ·have:=un.tups b xs (by rw[ah (al q hea0)];exact q);rw[fF (ne _ _ this nofun)];exact this
    ·have:=un.frzs b o v (by rw[ah (al q hea0)];exact q);rw[fF (ne _ _ this nofun)];exact this
    ·obtain⟨more,this⟩:=un.tbls b ps' (by rw[ah (al q hea0)];exact q);exact#[more,by rw[fF (ne _ _ this nofun)];exact this]
   have hok1:HOk X.prog X.w (del H' ea) s'.heap:=λb v q=>by obtain⟨hb,q⟩:=B8 q;exact(I3.hok b v q).stay (λ_ _ _ z=>z) (λb' z=>by rw[fF (ne _ _ z nofun)];exact z) λb' xs z=>by rw[fF (ne _ _ z nofun)];exact z
   have hid:∀b o,s'.heap.get? b=some o->b≠ea->b≠t->b∉frs X.stack->(hideAll s'.heap (ea::t::frs X.stack)).get? b=some o:=λb o q h1 h2 h3 =>
    hideAll_get _ q λhm=>by
     rcases Zl.mp hm with z|hm
     ·exact h1 z
     rcases Zl.mp hm with z|hm
     ·exact h2 z
     ·exact h3 hm
   have Fx:Fl X H1 (del H' ea) #[hp,g,d,tk,os] s' (hideAll s'.heap (ea::t::frs X.stack)):=#[os',bare,un1,hok1,λb o hb ho q=>by
    rcases ho with⟨v,z⟩|⟨o0,z⟩
    ·obtain⟨hb',z⟩:=B8 z;exact hid b o q hb' (tr2 _ _ z) hb
    ·exact hid b o q (oe b o0 z) (ot b o0 z) hb]
   exact hR ea s' #[M9,σ,H1,del H' ea,_,_,t,.ref C,us,dc,I1,Fx,.inl #[λb o q=>of_hideAll _ q,hideAll_none _ Ys,
    funFrames_hide I3.stack λenv he b hb=>ZG _ (ZG _ (Y8.mpr #[env,he,hb])),_,hy,rfl,rfl],#[_,_,tt',rfl,rfl],hideAll_none _ (ZG _ Ys),#[_,hy,rfl],hE']
end
def mC(qual:Str)(params:Arguments)(body:M8)(scope:Scope)(cl:List (Str×MU))(pm:MW)(c:MU)(ct:MW):M0:=kla_fn "<lambda>" qual params body scope cl pm (.ref c) ct
def ix(qual:Str)(params:Arguments)(body:M8)(scope:Scope)(cl:List (Str×MU))(pm:MW)(c:MU)(ct:MW):Obj:={ cls:=.type "function",data:=.func (mC qual params body scope cl pm c ct) }
def fH(a:MU)(o:Obj):HO:=.ext λh=>h.get? a=some o
def ir(c:MU)(qual:Str):HO:=.ext λh=>h.CodeRec (.ref c) qual
theorem qC{P:MX}{w:MY}{H:Hp}{h:Heap}{a:MU}{o:Obj}(e:h.get? a=some o):ObjOk P w H h a (fH a o):=#[e,#[o,e],λ_ _ x k=>k _ x]
theorem Fo{P:MX}{w:MY}{H:Hp}{h:Heap}{c:MU}{q:Str}(e:h.CodeRec (.ref c) q):ObjOk P w H h c (ir c q):=by obtain⟨c',oc,vs,t,e1,e2,e3,e4⟩:=id e;cases e1;refine#[e,#[oc,e2],λh1 h2 x k=>?_];obtain⟨c',oc,vs,t,e1,e2,e3,e4⟩:=id x;cases e1;exact#[c,oc,vs,t,rfl,k _ e2,e3,e4]
def Blt(h:Heap)(mg:MR):Prop:=∃bm ob,mg "__builtins__" = some (.ref bm)/\bm≠builtinsNs/\h.get? bm=some ob/\ob.cls=.type "module"/\ob.dict=some builtinsNs/\ob.data=.plain
section
variable{X:Cx}{M9:MP}{σ:St}{H:Hp}{s:MV}
theorem Inv.bltAt(I:Inv X M9 σ H s)(B:Blt X.base X.mg){P:MU}{ps:Array MW}(hP:H P=some (.tbl ps)):s.heap.BuiltinsAt X.mg P:=by
 obtain⟨bm,ob,b1,b2,b3,b4,b5,b6⟩:=B;refine#[bm,ob,b1,b2,λz=>?_,λz=>?_,I.bk _ _ b3,b4,b5,b6]
 ·obtain⟨o,es,ep,e,d,_⟩:=I.ok.mod.glob;rw[<-z,b3]at e;cases e;rw[d]at b6;cases b6
 ·have:=(I.bs _ _ b3).2;rw[z,hP]at this;cases this
theorem Inv.grown{h':Heap}{P c f:MU}{ps more:Array MW}{oc of':HO}{t':Nat}(I:Inv X M9 σ H s)(hP:H P=some (.tbl ps))(k:∀b o,b≠P->s.heap.get? b=some o->h'.get? b=some o)(hc:s.heap.objs.size<=c)(hf:s.heap.objs.size<=f)(hcf:c≠f)(eP:h'.get? P=some { cls:=.none,data:=.fields (ps++more) })(nc:∀H',ObjOk X.prog X.w H' h' c oc)(nf:∀H',ObjOk X.prog X.w H' h' f of') :
  H c=none/\H f=none/\Inv X M9 σ (upd (upd (upd H P (.tbl (ps++more))) c oc) f of') { s with heap:=h',toks:=t' }:=by
 have c0:=I.hok.fresh hc;have f0:=I.hok.fresh hf;have nP:∀{b:MU} {u:HO},H b=some u->(∀qs,u≠.tbl qs)->b≠P:=fun{b u} e n z=>by rw[z,hP]at e;cases e;exact n _ rfl
 have up:∀{b:MU},b≠P->b≠c->b≠f->upd (upd (upd H P (.tbl (ps++more))) c oc) f of' b=H b:=fun{b} n1 n2 n3=>by rw[ah n3,ah n2,ah n1]
 have old:∀{b:MU} {o:Obj},s.heap.get? b=some o->b≠c/\b≠f:=fun{b o} e=>#[Zo (Zt (Zh e) hc),Zo (Zt (Zh e) hf)]
 have pcf:P≠c/\P≠f:=by have:=I.hok P _ hP;exact old (show s.heap.get? P=some _ from this)
 refine#[c0,f0,I.un (t':=t') #[λb o e n _ _=>k b o (λz=>by rw[z,hP]at n;cases n) e,λb o e n _ _=>#[o.slots,k b o (λz=>by rw[z,hP]at n;cases n) e],λb o e n _=>?_,λb o e _=>?_,λb xs e=>?_,λb o u e=>?_,λb qs e=>?_] λb u e=>?_]
 ·rw[up (λz=>by rw[z,hP]at n;cases n) (old e).1 (old e).2];exact n
 ·by_cases z:b=P
  ·exact#[_,z▸eP]
  ·exact#[o,k b o z e]
 ·rw[up (nP e λ_ z=>nomatch z) (al e c0) (al e f0)];exact e
 ·rw[up (nP e λ_ z=>nomatch z) (al e c0) (al e f0)];exact e
 ·by_cases z:b=P
  ·subst z;rw[hP]at e;cases e;exact#[more,by rw[ah pcf.2,ah pcf.1,ad]]
  ·exact#[#[],by rw[up z (al e c0) (al e f0),e];simp]
 ·by_cases zf:b=f
  ·subst zf;rw[ad]at e;cases e;exact nf _
  ·rw[ah zf]at e;by_cases zc:b=c
   ·subst zc;rw[ad]at e;cases e;exact nc _
   ·rw[ah zc]at e;by_cases zP:b=P
    ·subst zP;rw[ad]at e;cases e;exact eP
    ·rw[ah zP]at e;refine(I.hok b u e).stay (λb' v hb' q=>k b' v (λz=>?_) q) (λb' z=>by rw[up (nP z λ_ z=>nomatch z) (al z c0) (al z f0)];exact z) λb' xs z=>by rw[up (nP z λ_ z=>nomatch z) (al z c0) (al z f0)];exact z
     rcases hb' with rfl|hb'
     ·exact zP z
     ·rw[z,hP]at hb';cases hb'
end
theorem Hm{CX:CXT}{P:MX}{w:MY}{K:W.Frag}{mg:MR}{base:Heap}{k:Nat}{f c':MU}{qual:Str}{params:Arguments}{body:M8}{scope:Scope}{pm ct:MW}{N ps:List Str}{sp:Sp}(S:FnScope N ps scope)(len:∀ vs H Q E,sp vs H Q E->vs.length=ps.length)(hbody:∀ (A:MZ) (outer:List Env) (s:MV) (H:Hp) (vs:List V) (Q:VK) (E:XK),Room k (A.deeper (envOfC qual scope s.heap.objs.size f (.ref c')))->sp vs H Q E ->
   ∃ t,PE (fq CX P w K mg base N qual scope f (.ref c') A outer s H E) body t/\t (start N vs) H Q) :
  FnOk P w K mg base CX (k+1) f (mC qual params body scope [] pm c' ct) ps (λvs H Q E=>H f=some (fH f (ix qual params body scope [] pm c' ct))/\H c'=some (ir c' qual)/\sp vs H Q E):=by
 refine#[λvs H Q E h=>len _ _ _ _ h.2.2,λA outer s H args us vs Q E hr e0 hb r ⟨hf,hc,hsp⟩=>?_];have hl:=len _ _ _ _ hsp;have lim:s.heap.NoLimit:=e0.mod.nolimit.keeps λb o e=>(e0.bs b o e).1;have hkind:∀y∈ps.zip us,scope.names.lookup y.1=some .local\/(scope.names.lookup y.1=some .cell/\((cellsFrom (s.heap.objs.size+1) scope.names []).lookup y.1).isSome=true):=fun⟨n,v⟩ hy=>by
  rcases S.par n (List.of_mem_zip hy).1 with q|q
  ·exact .inl q
  ·exact .inr #[q,W.cellsFrom_some _ _ _ (.inl q)]
 have of1:=(e0.hok f _ hf).1;have oc1:=(e0.hok c' _ hc).1;refine kla_callFunE hr.depth of1 rfl S.co S.gen rfl oc1 (hb _ _ _ _ ?_);refine wpAny_newFunctionEnv_cells S.kind hkind λenv he s1 x=>?_;subst he;refine#[lim.keeps x.toInCall.keep,kla_codeExpr ?_];obtain⟨t,ht,hq⟩:=hbody A outer s H vs Q E (hr.deeper _) hsp;have I:Inv (fq CX P w K mg base N qual scope f (.ref c') A outer s H E) [] (start N vs) H s1:=rU S hr.hd e0 hl r x;refine ZL (ht [] s1 (start N vs) H _ I hq) (λu s' hz9=>?_) λe s' hs=>hs;obtain⟨v,H',J,rv,q⟩:=hz9;exact#[v,H',J.os,J.bare,J.base,J.hok,rv,q]
def bc(q:Str)(P:MU)(pos:Pos)(H:Hp):Prop:=∃ps:Array MW,H P=some (.tbl ps)/\TriplesOk ps.toList/\(codeAmong pos ps.toList=none\/∃c',codeAmong pos ps.toList=some (.ref c')/\H c'=some (ir c' q))
def SameT(P:MU)(H H':Hp):Prop:=∀b o,H b=some o->b≠P->H' b=some o
theorem SameT.of{P:MU}{H H':Hp}(s:Same H H'):SameT P H H':=λb o e _=>s b o e
theorem SameT.trans{P:MU}{H H' H2:Hp}(s:SameT P H H')(t:SameT P H' H2):SameT P H H2:=λb o e n=>t b o (s b o e n) n
theorem mr{x y:Int}{c:MW}{a b:Tok}:∀l:MT,TriplesOk l->TriplesOk (l++[.int x a,.int y b,c])
 | [],_=>trivial
 |.int _ _::.int _ _::_::rest,h=>mr rest h
structure LamOk(P:MX)(w:MY)(K:W.Frag)(mg:MR)(base:Heap)(k:Nat)(qual:Str)(body:M8)(scope:Scope)(x:Str)(sp:Sp):Prop where
 ex:∃N:List Str,FnScope N [x] scope/\(∀vs H Q E,sp vs H Q E->vs.length=1)/\∀(f c':MU) (A:MZ) (outer:List Env) (s:MV) (H:Hp) (vs:List V) (Q:VK) (E:XK),Room k (A.deeper (envOfC qual scope s.heap.objs.size f (.ref c')))->sp vs H Q E ->
  ∃t,QE (fq CX0 P w K mg base N qual scope f (.ref c') A outer s H E) body t/\t (start N vs) H Q
def Fa(a:MU)(tabs:List (MU×MU))(H:Hp):Prop:=∀b,H b=none\/(b=a/\∃o xs,H b=some (.frz o (.lst xs)))\/((∃c,(c,b)∈tabs)/\H b=some (.tbl #[]))
theorem DH{P:MX}{w:MY}{K:W.Frag}{mg mb:MR}{k:Nat}{fa a:MU}{fd:M0}{x:Str}{sp:Sp}{s:MV}{vs:MT}{ns:M5}{tabs:List (MU×MU)}(kx:K.In s.heap)(gx:s.heap.Ns mainGlobals mg)(bx:s.heap.Ns builtinsNs mb)(bb:∀y:Str,y≠"__name__"->mb y=bootBuiltins y)(nl:s.heap.NoLimit)(gn:s.gens=#[])(bl:Blt s.heap mg)(tx:∀q∈tabs,CodeHd s.heap q.1 q.2/\s.heap.get? q.2=some (tabObj #[]))(nt:noTabs K=true)(sa:s.heap.get? a=some { cls:=.type "list",data:=.seq vs.toArray })(si:IntsAre vs ns)(sl:ns.length<=sizeLine)(hr:Room k callerA)(F:∀base:Heap,K.In base->base.Ns mainGlobals mg->Blt base mg->(∀q∈tabs,CodeHd base q.1 q.2)->FnOk P w K mg base CX0 k fa fd [x] sp)(bind:∀(s:MV) (u:MW),BindsTo s fd #[[u],[]] [(x,u)])(go:∀H:Hp,(∀q∈tabs,H q.2=some (.tbl #[]))->SqL K H a (ns.map V.int)->sp [.ref a] H (λv _=>v=.bl true) λ_ _ _=>False) :
  codeAny (model P w) callerA (.call (.ref fa) #[[.ref a],[]]) (λr s'=>r=.ok (.ret (.bool true))/\OldK s.heap s'.heap/\s'.os=s.os/\AllBare s'.gens) s:=by
 have tabNot:∀{b:MU} {c:MU},(c,b)∈tabs->K.lookup b=none:=fun{b c} hm=>by
  cases e:K.lookup b with
  |none=>rfl
  |some o =>have e1:=(kx b o e).symm.trans (tx _ hm).2;cases e1;have:=Ye.mp nt _ (mem_of_lookupK e);cases this
 have aNot:∀{c:MU},¬(c,a)∈tabs:=fun{c} hm=>by have:=(tx _ hm).2;rw[sa]at this;cases this
 have main:∀H:Hp,Fa a tabs H->(∀q∈tabs,H q.2=some (.tbl #[]))->SqL K H a (ns.map V.int)->HOk P w H s.heap->(H a≠none->K.lookup a=none) ->
   codeAny (model P w) callerA (.call (.ref fa) #[[.ref a],[]]) (λr s'=>r=.ok (.ret (.bool true))/\OldK s.heap s'.heap/\s'.os=s.os/\AllBare s'.gens) s:=by
  intro H ae ht hS ok ha;have free:∀{b:MU} {o:Obj},s.heap.get? b=some o->(∀n m,o.data≠.seq n m)->(∀n,o.data≠.fields n)->H b=none:=fun{b o} e n1 n2=>by
   rcases ae b with z|⟨rfl,_⟩|⟨⟨c,hm⟩,_⟩
   ·exact z
   ·rw[sa]at e;cases e;exact absurd rfl (n1 _ _)
   ·rw[(tx _ hm).2]at e;cases e;exact absurd rfl (n2 _)
  have nsB:∀{b:MU} {m:MR},s.heap.Ns b m->(jl s.heap H).Ns b m:=fun{b m} ⟨o,es,ep,e,d,r⟩=>#[o,es,ep,kf e (free e (λ_ _ z=>by rw[d]at z;cases z) λ_ z=>by rw[d]at z;cases z),d,r]
  have kB:K.In (jl s.heap H):=λb o e=>kf (kx b o e) (by
   rcases ae b with z|⟨rfl,o',xs,z⟩|⟨⟨c,hm⟩,_⟩
   ·exact z
   ·rw[ha (by rw[z];simp)]at e;cases e
   ·rw[tabNot hm]at e;cases e)
  have bB:Blt (jl s.heap H) mg:=by obtain⟨bm,ob,b1,b2,b3,b4,b5,b6⟩:=bl;exact#[bm,ob,b1,b2,kf b3 (free b3 (λ_ _ z=>by rw[b6]at z;cases z) λ_ z=>by rw[b6]at z;cases z),b4,b5,b6]
  have cB:∀q∈tabs,CodeHd (jl s.heap H) q.1 q.2:=λq hq=>by
   obtain⟨o,ws,file,tf,fl,tg,inF,text,tt,c1,c2,c3,c4⟩:=(tx q hq).1;refine#[o,ws,file,tf,fl,tg,inF,text,tt,kf c1 ?_,c2,c3,c4];rcases ae q.1 with z|⟨z,_⟩|⟨⟨c,hm⟩,_⟩
   ·exact z
   ·rw[z,sa]at c1;cases c1;injection c2 with c2;exact absurd c2 ⋯
   ·rw[(tx _ hm).2]at c1;cases c1;cases c2
  have mB:Mod K mg (jl s.heap H):=#[kB,nsB gx,#[mb,nsB bx,bb],let⟨mc,n1,n2⟩:=nl;#[mc,nsB n1,n2]]
  have env:Env0 P w K mg (jl s.heap H) callerA [] s H:=#[rfl,mB,λb o e=>FB e,Nat.le_of_eq (BD _ _),trivial,λb hb=>absurd (show b∈([]:List MU)from hb) (by simp),ok,.of_eq gn]
  refine codeAny_mono ((F _ kB (nsB gx) bB cB).run callerA [] s H #[[.ref a],[]] [.ref a] [.ref a] _ _ hr env (bind s (.ref a)) (.cons rfl .nil) (go H ht hS)) λr s' h=>?_;cases r with
  |error e=>exact False.elim h
  |ok fl =>
   cases fl with
   |next=>exact False.elim h
   |brk=>exact False.elim h
   |cont=>exact False.elim h
   |ret u =>
    obtain⟨v,H',os,bare,un,ok',rv,hv⟩:=h;obtain rfl:v=.bl true:=hv;obtain rfl:u=Value.bool true:=rv;have each:∀b o,s.heap.get? b=some o->asItWas s.heap s'.heap b o/\∃o',s'.heap.get? b=some o':=λb o e=>by
     rcases ae b with z|⟨rfl,o',xs,z⟩|⟨⟨c,hm⟩,z⟩
     ·have:=un.keep b o e z (by intro q;exact absurd (show b∈([]:List MU)from q) (by simp)) (by simp);exact#[.inl this,_,this]
     ·obtain⟨e1,_⟩:=ok b _ z;obtain⟨e2,_⟩:=ok' b _ (un.frzs b o' _ z);rw[e]at e1;cases e1;exact#[.inl e2,_,e2]
     ·obtain⟨more,z2⟩:=un.tbls b _ z;have e2:s'.heap.get? b=some { cls:=.none,data:=.fields (#[]++more) }:=ok' b _ z2;have e1:=(tx _ hm).2;rw[e]at e1;cases e1;exact#[.inr (.inl #[(((tx _ hm).1).tab e).isCodeTable,rfl,#[],more,rfl,e2]),_,e2]
    exact#[rfl,#[λb o e=>(each b o e).1,λb o e=>(each b o e).2],os,bare]
 have rv:=sw si;have lv:=si.length;have inT:∀b,Decidable (∃c,(c,b)∈tabs):=λb=>Classical.propDecidable _;cases hk:K.lookup a with
 |some o =>
  have e:=kx a o hk;rw[sa]at e;cases e;refine main (λb=>@ite _ (∃c,(c,b)∈tabs) (inT b) (some (.tbl #[])) none) (λb=>?_) (λq hq=>MO #[q.1,hq]) (.inr #[_,vs.toArray,_,hk,rfl,rfl,rfl,by rw[Zf,lv];exact sl,by simpa using rv]) (λb u z=>?_) (λz=>absurd (MN fun⟨c,hm⟩=>aNot hm) z)
  ·by_cases c:∃c,(c,b)∈tabs
   ·exact .inr (.inr #[c,MO c])
   ·exact .inl (MN c)
  ·by_cases c:∃c,(c,b)∈tabs
   ·have z':=(MO c).symm.trans z;cases z';obtain⟨c,hm⟩:=c;exact(tx _ hm).2
   ·have z':=(MN c).symm.trans z;cases z'
 |none =>
  refine main (λb=>@ite _ (∃c,(c,b)∈tabs) (inT b) (some (.tbl #[])) (if b=a then some (.frz { cls:=.type "list",data:=.seq vs.toArray } (.lst (ns.map V.int)))else none)) (λb=>?_) (λq hq=>MO #[q.1,hq]) (.inl (.inr #[{ cls:=.type "list",data:=.seq vs.toArray },(MN fun⟨c,hm⟩=>aNot hm).trans (MO rfl)])) (λb u z=>?_) (λ_=>hk)
  ·by_cases c:∃c,(c,b)∈tabs
   ·exact .inr (.inr #[c,MO c])
   ·by_cases hb:b=a
    ·exact .inr (.inl #[hb,_,_,(MN c).trans (MO hb)])
    ·exact .inl ((MN c).trans (MN hb))
  ·by_cases c:∃c,(c,b)∈tabs
   ·have z':=(MO c).symm.trans z;cases z';obtain⟨c,hm⟩:=c;exact(tx _ hm).2
   ·have z':=(MN c).symm.trans z;by_cases hb:b=a
    ·rw[MO hb]at z';cases z';subst hb;exact#[sa,by rw[Zb];exact sl,vs,_,rv,sa]
    ·rw[MN hb]at z';cases z'
theorem Fun.okC{P:MX}{w:MY}{K:W.Frag}{mg:MR}{base:Heap}{x qual:Str}{st:Stmt}{f c:MU}{fd:M0}{N ps:List Str}{k:Nat}{sp:Sp}(F:Fun K x qual st f fd)(hc:fd.code=.ref c)(S:FnScope N ps (aj st))(len:∀ vs H Q E,sp vs H Q E->vs.length=ps.length)(body:∀ (A:MZ) (outer:List Env) (s:MV) (H:Hp) (vs:List V) (Q:VK) (E:XK),Room k (A.deeper (envOfC qual (aj st) s.heap.objs.size f (.ref c)))->sp vs H Q E ->
   ∃ t,QB (fq CX0 P w K mg base N qual (aj st) f (.ref c) A outer s H E).nox (bK st) t/\t { nx:=λ_ H'=>Q .non H',rt:=Q } (start N vs) H):↑FnOk CX0 (k+1) f fd ps sp:=by
 obtain⟨oc,od,kV,doc,pm,an,cdv,ct,osl,rfl,lk,hcd⟩:=F.ex;obtain rfl:cdv=.ref c:=hc;refine ze lk hcd S len λA outer s H vs Q E hr hs=>?_;obtain⟨t,h,q⟩:=body A outer s H vs Q E hr hs;exact#[t,h.h.nox,q]
theorem Eu{K:W.Frag}{x:Str}{f c P:MU}{oc:MW}{od:Option MU}{fd:M0}{sl:Array (Option MW)}(a:nsIn K mainGlobals x=some (some (.ref f)))(l:K.lookup f=some #[oc,od,.func fd,sl])(t:tabIn K x=some (c,P)):fd.code=.ref c:=by
 unfold tabIn at t;rw[a]at t;dsimp only at t;rw[l]at t;dsimp only at t;split at t
 ·rename_i c' e;rw[e];split at t
  ·split at t
   ·cases t;rfl
   ·cases t
  ·cases t
 ·cases t
theorem C4{l:W.OpenLaw}{n k:Nat}{q:MX}{loose:List Str}{XP:(MR)->Heap->Prop}{YP:MY->Heap->Prop}{d:DefRec}{K:Params->W.Frag}{tabs:Params->List (Str×MU×MU)}{sp:MY->Sp}{x:Str}(hn:l.most=some n)(hn2:n<=sizeLine)(hdf:d.params.defaults=[])(hr:Room k callerA)(hY:∀ (w:MY) (h:Heap),YP w h->(K w.params).In h)(ht:∀ (w:MY),∀ t∈tabs w.params,tabIn (K w.params) t.1=some t.2/\∃ d',(recsOf q).find? (λe=>e.name == t.1)=some d')(nt:∀ w:MY,noTabs (K w.params)=true)(F:∀ (w:MY) (mg:MR) (fa:MU) (h:Heap),(K w.params).In h->h.Ns mainGlobals mg->mg d.name=some (.ref fa) ->
   ∃fd:M0,(∀(s:MV) (u:MW),BindsTo s fd #[[u],[]] [(x,u)]) /\
    ∀ base:Heap,(K w.params).In base->base.Ns mainGlobals mg->Blt base mg->(∀ t∈tabs w.params,CodeHd base t.2.1 t.2.2)->FnOk l.prog w (K w.params) mg base CX0 k fa fd [x] (sp w))(go:∀ (w:MY) (H:Hp) (a:MU) (ns:M5),ns.length<=n->(∀ t∈tabs w.params,H t.2.2=some (.tbl #[]))->SqL (K w.params) H a (ns.map V.int)->sp w [.ref a] H (λv _=>v=.bl true) λ_ _ _=>False) :
  W.WalkO q loose XP YP l.row.toRowW d [] (λf vs=>PySem.call f vs):=by
 refine Att.attach_call hn hdf λw s₀ s₁ mg mb fa o pm cd doc a vs ns G Y ho hd hcd hmg hobj hints hlen hg=>?_;have kx:=hY w _ Y;obtain⟨fd,hb,hF⟩:=F w mg fa _ kx G.T.g hmg;refine DH (tabs:=(tabs w.params).map (·.2)) kx G.T.g G.T.b G.T.builtins G.T.nolimit hg G.T.bmain (λr hr'=>?_) (nt w) hobj hints (Zq hlen hn2) hr (λbase h1 h2 h3 h4=>hF base h1 h2 h3 λt htm=>h4 _ (List.mem_map_of_mem htm)) hb λH h1 h2=>go w H a ns hlen (λt htm=>h1 _ (List.mem_map_of_mem htm)) h2;obtain⟨t,htm,rfl⟩:=Zm.mp hr';obtain⟨e1,d',e2⟩:=ht w t htm;exact tab_of G.T kx e2 (by rw[e1])
inductive SKey where
 |i (n:Int)|s (t:Str)|bi (b:Bool)(n:Int)
def SKey.at(H:Hp):SKey->V->Prop
 |.i n,v=>v=.int n
 |.s t,v=>v=.str t
 |.bi b n,v=>∃a,v=.ref a/\H a=some (.tup [.bl b,.int n])
section
variable{X:Cx}{M9:MP}{σ:St}{H:Hp}{s:MV}{h':Heap}
def yP(X:Cx)(M9:MP)(σ:St)(f:MU)(sp:Sp):Prop:=∀(s:MV) (H:Hp) (u:MW) (v:V) (Q:VK),Inv X M9 σ H s->RelV v u->sp [v] H Q E0->codeAny (model X.prog X.w) X.A.in1.in1 (.call (.ref f) #[[u],[]]) (CR CX0 X.stack X.prog X.w H s Q E0) s
theorem Gm{k:Nat}{f:MU}{fd:M0}{x:Str}{sp:Sp}(F:FnOk X.prog X.w X.K X.mg X.base CX0 k f fd [x] sp)(hb:∀(s:MV) (u:MW),X.K.In s.heap->BindsTo s fd #[[u],[]] [(x,u)])(hr:Room k X.A.in1.in1):∀l,yP (wX X l) M9 σ f sp:=λl s H u v Q I ru hs=>by
 have env:Env0 X.prog X.w X.K X.mg X.base X.A.in1.in1 X.stack s H:=by have e0:=I.env0;exact#[e0.frames,e0.mod,e0.bs,e0.bsz,e0.funs,e0.frf,e0.hok,e0.bare]
 exact F.run X.A.in1.in1 X.stack s H #[[u],[]] [u] [v] Q E0 hr env (hb s u I.kIn) (.cons ru .nil) hs
structure SG(X:Cx)(M9:MP)(σ:St)(H1:Hp)(m:MR)(kS D:MU)(e1:Nat)(ks:List SKey)(as:List V)(us:MT)(e:Nat)(H:Hp)(s:MV):Prop where
 I:Inv X M9 σ H s
 sm:Same H1 H
 fk:bG X M9 H kS
 fd:bG X M9 H D
 bk:X.base.get? kS=none
 bd:X.base.get? D=none
 hk:s.heap.get? kS=some (seqObj "list" (List.toArray us) e)
 hd:s.heap.get? D=some (seqObj "list" #[] e1)
 ns:s.heap.Ns X.env.locals m
 vals:Vals as us
 keys:∀(i:Nat) (a:V) (k:SKey),as[i]?=some a->ks[i]?=some k->k.at H a
theorem wB(b:Bool){xs:List V}{us:MT}(h:Vals xs us):Vals (katRev b xs) (katRev b us):=by
 cases b with
 |false=>exact h
 |true =>
  show Vals xs.reverse us.reverse;induction h with
  |nil=>exact .nil
  |cons r _ ih =>rw[List.reverse_cons,List.reverse_cons];exact ih.append (.cons r .nil)
theorem Fu(n m:Int):HT.lexLt [n] [m]=decide (n<m):=by
 rw[HT.lexLt_cons,HT.lexLt_nil_nil];by_cases z:n=m
 ·rw[MO z,decide_eq_false ∅]
 ·rw[MN z]
end
structure LamScope(x y:Str)(sc:Scope):Prop where
 kind:sc.kind=.function
 co:sc.isCoroutine=false
 gen:sc.isGenerator=false
 lx:sc.names.lookup x=some .local
 ly:sc.names.lookup y=some .free
 nc:∀z∈sc.names,z.2≠.cell
 nf:∀z∈sc.names,z.2=.free->z.1=y
 ne:x≠y
def cxX(CX:CXT)(P:MX)(w:MY)(K:W.Frag)(mg:MR)(base:Heap)(N:List Str)(qual:Str)(scope:Scope)(f:MU)(cd:MW)(cl:List (Str×MU))(A:MZ)(outer:List Env)(s:MV)(H:Hp)(E:XK):Cx where
 prog:=P
 w:=w
 K:=K
 mg:=mg
 base:=base
 A:=A.deeper (envX qual scope s.heap.objs.size f cd cl)
 N:=N
 s₀:=s
 H₀:=H
 env:=envX qual scope s.heap.objs.size f cd cl
 outer:=outer
 stack:=envX qual scope s.heap.objs.size f cd cl::outer
 ex:=[]
 calm:=true
 fn:=λ_=>false
 pn:=[]
 xe:=λe s'=>wpAny (model P w) (A.deeper (envX qual scope s.heap.objs.size f cd cl)) (leaving (envX qual scope s.heap.objs.size f cd cl) e) (λ_ s''=>CX outer H s E e s'') (λe' s''=>CX outer H s E e' s'') s'
theorem zn{CX:CXT}{P:MX}{w:MY}{K:W.Frag}{mg:MR}{base:Heap}{x y:Str}{qual:Str}{scope:Scope}{f c:MU}{cd:MW}{A:MZ}{outer:List Env}{s:MV}{H:Hp}{E:XK}{u ku:MW}{v kv:V}{h1:Heap}{tk:Nat}(S:LamScope x y scope)(hd:A.handled=none)(e0:↑Env0 A outer s H)(r:RelV v u)(kr:RelV kv ku)(hc:s.heap.IsCell c (some ku))(fc:H c=none)(hns:h1.Ns s.heap.objs.size λz=>[(x,u)].reverse.lookup z)(hk:∀b o,s.heap.get? b=some o->h1.get? b=some o) :
  Inv (cxX CX P w K mg base [x,y] qual scope f cd [(y,c)] A outer s H E) [] [some v,some kv] H { s with heap:=h1,toks:=tk }:=by
 have noA:∀b:MU,b∉(cxX CX P w K mg base [x,y] qual scope f cd [(y,c)] A outer s H E).ex:=λb z=>absurd (show b∈([]:List MU)from z) (by simp);have lk:∀{z:Str} {d:MU},([(y,c)]:List (Str×MU)).lookup z=some d->z=y/\d=c:=fun{z d} h=>by
  rw[ZN]at h;split at h
  ·rename_i e;cases h;exact#[by simpa using e,rfl]
  ·cases h
 have ly:([(y,c)]:List (Str×MU)).lookup y=some c:=by simp
 have cell1:h1.IsCell c (some ku):=by obtain⟨o,a1,a2⟩:=hc;exact#[o,hk _ _ a1,a2]
 refine#[#[e0.mod,S.kind,rfl,rfl,Za _,λz z' d q1 q2=>?_,λz hz=>?_,λz d q _=>(nomatch q),λ_=>hd,Around.frames_deeper e0.frames,.inr #[rfl,rfl],λb z=>absurd z (noA b),e0.bs,e0.bsz,λb _ _=>noA b,λb z=>absurd z (noA b),e0.funs,e0.frf],
  rfl,e0.bare,Un.kept hk,#[_,hns,λi z v' q1 q2 q3=>?_],λz d q=>#[some ku,by rw[(lk q).2];exact cell1],e0.hok.fresh (Za _),λz d q=>by rw[(lk q).2];exact fc,λp hp=>absurd (show p∈([]:MP) from hp) (by simp),e0.hok.kept hk,rfl]
 ·exact(lk q1).1.trans (lk q2).1.symm
 ·have hz:scope.names.lookup z=some .cell\/scope.names.lookup z=some .free:=hz;rcases hz with hz|hz
  ·exact absurd rfl (S.nc _ (Yl hz))
  ·exact#[c,by rw[show z=y from S.nf _ (Yl hz) rfl];exact ly]
 ·match i,q1,q2 with
  |0,q1,q2 =>cases q1;cases q2;exact#[u,r,.inl #[S.lx,by simp]]
  |1,q1,q2 =>cases q1;cases q2;exact#[ku,kr,.inr #[.inr S.ly,c,ly,cell1]]
  |i+2,q1,_=>simp[cxX]at q1
section
variable{X:Cx}{c P:MU}{params:Arguments}{body:M8}{scope:Scope}{pos:Pos}{cl:List (Str×MU)}
def tY(cl:List (Str×MU))(X:Cx)(P:MU)(params:Arguments)(body:M8)(scope:Scope)(pos:Pos):TE:=λ_ H Q=>∃ps:Array MW,H P=some (.tbl ps)/\TriplesOk ps.toList /\
 ((∃ c',codeAmong pos ps.toList=some (.ref c')/\H c'=some (ir c' (X.env.qual++"<lambda>"))/\∀ f ct,H f=none->Q (.ref f) (upd H f (fH f (ix (X.env.qual++"<lambda>") params body scope cl ((X.mg "__name__").getD .none) c' ct)))) \/
  (codeAmong pos ps.toList=none/\∀ f c' ct,H f=none->H c'=none->c'≠f->Q (.ref f) (upd (upd (upd H P (.tbl (ps++(List.toArray [rawInt pos.line,rawInt pos.col,.ref c'])))) c' (ir c' (X.env.qual++"<lambda>"))) f (fH f (ix (X.env.qual++"<lambda>") params body scope cl ((X.mg "__name__").getD .none) c' ct)))))
theorem yk(hcode:X.env.code=.ref c)(hge:X.env.globals=mainGlobals)(C:CodeHd X.base c P)(B:Blt X.base X.mg)(hdef:defaultsOf params X.env=([],[]))(hcl:closureFor scope X.env=pure cl):PE X (.Lambda params body scope pos) (tY cl X P params body scope pos):=by
 intro M9 s σ H Q I h;obtain⟨ps,hP,ht,hh⟩:=h;have oP:s.heap.get? P=some (tabObj ps):=I.hok P _ hP;have hg:s.heap.Ns mainGlobals X.mg:=I.ok.mod.glob.keeps I.bk;have hb:=I.bltAt B hP;refine kla_eval hdef ?_;rcases hh with⟨c',hf,hc',q⟩|⟨hnf,q⟩
 ·refine kla_makeFunctionHit hcl hge hg hcode (C.keeps I.bk) oP ht hf hb λct h' tk kp hsz=>?_;have hn:=I.hok.fresh hsz;exact#[.ref _,_,I.laid (t':=tk) (λb o e=>z6 _ (kp b o e)) hsz (qC (Ze _ rfl)),rfl,q _ ct hn]
 ·have hgP:mainGlobals≠P:=λz=>by obtain⟨o,es,ep,e,d,_⟩:=hg;rw[z,oP]at e;cases e;cases d
  refine kla_makeFunction hcl hge hg hcode (C.keeps I.bk) oP ht hnf hgP hb λc' ct h' tk hx hge' hlt hrec htb=>?_;have hnF:c'≠h'.objs.size:=Zo hlt;obtain⟨i1,i2,i3⟩:=I.grown (t':=tk) (c:=c') (f:=h'.objs.size) (h':=h'.push (ix (X.env.qual++"<lambda>") params body scope cl ((X.mg "__name__").getD .none) c' ct)) (oc:=ir c' (X.env.qual++"<lambda>")) (of':=fH h'.objs.size (ix (X.env.qual++"<lambda>") params body scope cl ((X.mg "__name__").getD .none) c' ct)) hP
   (λb o hb' e=>z6 _ (hx b o hb' e)) hge' (Zq hge' (Y6 hlt)) hnF (z6 _ htb) (λ_=>Fo (by
    obtain⟨c₂,oc,vs,t,e1,e2,e3,e4⟩:=hrec;exact#[c₂,oc,vs,t,e1,z6 _ e2,e3,e4])) (λ_=>qC (Ze _ rfl))
  exact#[.ref _,_,i3,rfl,q _ c' ct i2 i1 hnF]
structure LamOkX(P:MX)(w:MY)(K:W.Frag)(mg:MR)(base:Heap)(k:Nat)(qual:Str)(body:M8)(scope:Scope)(x y:Str)(sp:V->Sp):Prop where
 sc:LamScope x y scope
 ex:∀(f c' c:MU) (kv:V) (A:MZ) (outer:List Env) (s:MV) (H:Hp) (v:V) (Q:VK),Room k (A.deeper (envX qual scope s.heap.objs.size f (.ref c') [(y,c)]))->sp kv [v] H Q E0 ->
  ∃t,QE (cxX CX0 P w K mg base [x,y] qual scope f (.ref c') [(y,c)] A outer s H E0) body t/\t [some v,some kv] H Q
def qg(X:Cx)(P:MU)(q:Str)(lpos:Pos)(params:Arguments)(body:M8)(scope:Scope)(cl:List (Str×MU))(H1:Hp)(f:MU)(H2:Hp):Prop :=
 ∃(c':MU) (ct:MW),SameT P H1 H2/\bc q P lpos H2/\H2 f=some (fH f (ix q params body scope cl ((X.mg "__name__").getD .none) c' ct))/\H2 c'=some (ir c' q)/\f≠P/\c'≠P
theorem vd{H1:Hp}{lpos:Pos}{σ:St}{R:VK}(tab:bc (X.env.qual++"<lambda>") P lpos H1)(h:∀f H2,qg X P (X.env.qual++"<lambda>") lpos params body scope cl H1 f H2->R (.ref f) H2):tY cl X P params body scope lpos σ H1 R:=by
 obtain⟨ps,tP,t3,tc⟩:=tab;refine#[ps,tP,t3,?_];rcases tc with hno|⟨c',hy,hc'⟩
 ·refine .inr #[hno,λf c' ct f0 c0 hcf=>h _ _ ?_];have nPf:f≠P:=λz=>by rw[z,tP]at f0;cases f0
  have nPc:c'≠P:=λz=>by rw[z,tP]at c0;cases c0
  refine#[c',ct,λb o e hb=>?_,#[_,by rw[ah (Z2 nPf),ah (Z2 nPc),ad],?_,.inr #[c',?_,by rw[ah hcf,ad]]],ad,by rw[ah hcf,ad],nPf,nPc]
  ·rw[ah (al e f0),ah (al e c0),ah hb];exact e
  ·rw[Array.toList_append];exact mr _ t3
  ·rw[Array.toList_append];exact codeAmong_snoc _ t3 hno
 ·refine .inl #[c',hy,hc',λf ct f0=>h _ _ ?_];have nPf:f≠P:=λz=>by rw[z,tP]at f0;cases f0
  have nPc:c'≠P:=λz=>by rw[z,tP]at hc';cases hc'
  exact#[c',ct,λb o e hb=>by rw[ah (al e f0)];exact e,#[ps,by rw[ah (Z2 nPf)];exact tP,t3,.inr #[c',hy,by rw[ah (al hc' f0)];exact hc']],ad,by rw[ah (al hc' f0)];exact hc',nPf,nPc]
end
open PySem PyProof.Rows PySem.W
open PySem PyProof.Rows PySem.W
section
variable{prog:MX}{w:MY}{A:MZ}{E:MQ}{s:MV}{κ:SortKind}{it:Array Keyed}{lt:M7}{N:Nat}{st:SortSt}
def Zc(prog:MX)(w:MY)(A:MZ)(s:MV)(κ:SortKind)(it:Array Keyed)(lt:M7)(N:Nat):Prop :=
 ∀i j (C:Bool->MV->Prop),i<N->j<N->C (lt i j) s->kas_cmp prog w A κ it i j C s
end
open PySem PyProof.Rows PySem.W
section
variable{lt:M7}
theorem xP(p:M6)(k:Nat):gA p k=p.toList.getD k 0:=by unfold gA;rw[Z9,y7,YR]
structure MF(lt:M7)(N:Nat)(a b:M6):Prop where
 sa:∀i j,i<j->j<a.size->Lx lt (gA a i) (gA a j)
 sb:∀i j,i<j->j<b.size->Lx lt (gA b i) (gA b j)
 cr:∀i j,i<a.size->j<b.size->lt (gA b j) (gA a i)=false->Lx lt (gA a i) (gA b j)
 na:∀i,i<a.size->gA a i<N
 nb:∀i,i<b.size->gA b i<N
 a0:0<a.size
 b0:0<b.size
 fst:lt (gA b 0) (gA a 0)=true
 lst:∀j,j<b.size->lt (gA b j) (gA a (a.size-1))=true
variable{N:Nat}{a b:M6}{f:Nat->Keyed}
end
open PySem PyProof.Rows PySem.W
open PySem PyProof.Rows PySem.W
open PySem PyProof.Rows PySem.W
open PySem PyProof.Rows PySem.W
section
variable{prog:MX}{w:MY}{A:MZ}{E:MQ}{s:MV}{κ:SortKind}{it:Array Keyed}{lt:M7}{N:Nat}{st:SortSt}{pre u:M6}
structure Zp(prog:MX)(w:MY)(A:MZ)(s:MV)(κ:SortKind)(it:Array Keyed)(lt:M7)(N:Nat)(st:SortSt)(pre:M6)(n:Nat):Prop where
 Z:Zc prog w A s κ it lt N
 hk:kindOf st=κ
 hN:pre.size+n=N
 n0:0<n
end
open PySem PyProof.Rows PySem.W
section
variable{lt:M7}(O:LtOk lt){N:Nat}
include O
end
open PySem PyProof.Rows PySem.W
section
variable{lt:M7}
def EA(lt:M7):Nat->List (List Nat)->List (Nat×Nat×Nat)->Prop
 |_,[],[]=>True
 |b,r::rs,t::ts=>t.1=b/\t.2.1=r.length/\0<r.length/\r.Pairwise (Lx lt)/\r.Perm (List.range' b r.length)/\EA lt (b+r.length) rs ts
 |_,_,_=>False
variable{prog:MX}{w:MY}{A:MZ}{E:MQ}{s:MV}{κ:SortKind}{it:Array Keyed}{N:Nat}{st:SortSt}
structure RI(κ:SortKind)(it:Array Keyed)(lt:M7)(N lo:Nat)(T:List Nat)(p:M6)(rs:List (List Nat))(st:SortSt):Prop where
 hk:kindOf st=κ
 hf:failedOf st=none
 ha:arrOf st=p.map (kas_item it)
 hp:p.toList=rs.flatten++T
 pm:p.toList.Perm (List.range N)
 rl:EA lt 0 rs (pendingOf st).toList
 hl:rs.flatten.length=lo
end
open PySem PyProof.Rows PySem.W
theorem fO{n:Nat}(h:n<=4096):n<=sizeLine:=by rw[sizeLine_eq];omega
section
variable{prog:MX}{w:MY}{A:MZ}{E:MQ}{s:MV}{h₀:Heap}{L a kS:MU}{m:MR}{news:MP}{vs ks:MT}
theorem qu{Q:MT->MV->Prop}{r:MU}{lo hi:Int}{t u v:Tok}{n:Nat}(hh:A.handled=none)(hr:IsRange s.heap r lo hi 1 t u v)(hsmall:Builtin.Range.small lo hi 1=true)(hn:Builtin.Range.rangeSize lo hi 1=n)(hlen:n<=2^24)(h:∀h' tk acc,(∀b o,s.heap.get? b=some o->h'.get? b=some o)->ItemsOf (λi v=>∃t,v=.int (lo+i*1) t) acc n->Q acc.toList { s with heap:=h',toks:=tk }):wpAny (model prog w) A (collect (.ref r)) Q E s:=by
 unfold collect;refine z0 (wpAny_runValue (Yy F.entry_proto_collect ?_));rw[Ya F.plain_proto_collect _];show wpAny _ A.in1 (newList [] >>= λq=>again (.builtin "list.__iadd__" #[[q,.ref r],[]])) _ _ s;refine z0 (ZD (z9 #[YF F.plain_list_iadd _,Yy F.entry_list_iadd ?_]));rw[Ya F.plain_list_iadd _];show wpAny _ A.in1 (Builtin.List.listExtendWith (.ref s.heap.objs.size) (.ref r) (.ref s.heap.objs.size)) _ _ _;refine wpAny_extend_range (A:=A) (R:=λr s'=>match r with
  | .ok (.ret v)=>wpAny (model prog w) A (match v with
   |.ref a=>do
    let o ←load a
    match o.data with
    |.seq xs _=>pure xs.toList
    |_=>unsupported "internal:collect"
   | _=>unsupported "internal:collect") Q E s'
  |.ok _=>False
  | .error e=>E e s') (s:={ s with heap:=s.heap.push { cls:=.type "list",data:=.seq ([]:MT).toArray } }) hh (z6 _ hr) hsmall hn hlen s.heap.objs.size _ 0 (Ze _ rfl) λh' tk acc c hk hS hacc=>?_
 show wpAny _ A (load s.heap.objs.size >>= _) _ _ _;refine z0 (wpAny_load hS (z9 ?_));exact h h' tk acc (λb o e=>hk b o (Zo (Zh e)) (z6 _ e)) hacc
def ZGo(prog:MX)(w:MY)(A:MZ)(b:Bool)(ks vs:MT)(F:MT->MV->Prop)(κ:SortKind)(s:MV):Prop :=
 ∃lt:M7,LtOk lt/\(∀i j (C:Bool->MV->Prop),i<vs.length->j<vs.length->C (lt i j) s->kas_ask prog w A κ (katRev b ks) i j C s) /\
  ∀p:M6,POk vs.length p->LS lt p vs.length->F (katRev b (p.toList.map λi=>(katRev b vs).getD i Value.none)) s
def yQ(prog:MX)(w:MY)(A:MZ)(b:Bool)(ks vs:MT)(F:MT->MV->Prop)(s:MV):Prop :=
 (2<=vs.length->wpAny (model prog w) A (keyKind' (List.toArray ks)) (ZGo prog w A b ks vs F) (λ_ _=>False) s)/\(vs.length<2->F (katRev b ((List.range vs.length).map λi=>(katRev b vs).getD i Value.none)) s)
theorem yD{b:Bool}{st:SortSt}{e e1:Nat}{out:MT}{P:PySem.Fin->MV->Prop}(ho:(arrOf st).map (·.2)=List.toArray out)(hz:out.length<=4096)(hq:ks.length<=4096)(hf:failedOf st=none)(h:KatFin h₀ L m kS a ks e e1 (katRev b out) (λs'=>P (.done (.ret .none)) s') s):wpAny (model prog w) A (ksk_tail a b e1 (.ref kS) st) P E s:=by
 obtain⟨nw,g,Fq,Nq,Uq,kq⟩:=h;obtain⟨l1,l2,e0,hg,x1,x2⟩:=Uq.split;rw[e0]at Nq;have ak:=Nq (kS,seqObj "list" (List.toArray ks) e) (Zr _ (.head _));have s1:=ZT s.heap kS (Obj.mapSeq λ_=>(#[]:Array MW));obtain⟨ck,hck⟩:∃z,(s.heap.update kS (Obj.mapSeq λ_=>(#[]:Array MW))).get? kS=some (seqObj "list" #[] z):=#[_,get?_update_seq ak.1 λ_=>#[]]
 have K2:=kq _ ck (kas_fr Fq s1 ak.2.1 ak.2.2) (by rw[hg];exact news_set Nq x1 x2 s1 hck);obtain⟨nw2,g2,F2,N2,U2,k2⟩:=K2;obtain⟨m1,m2,e2,hg2,y1,y2⟩:=U2.split;rw[e2]at N2;have aa:=N2 (a,seqObj "list" #[] e1) (Zr _ (.head _));have s2:=ZT (s.heap.update kS (Obj.mapSeq λ_=>(#[]:Array MW))) a (Obj.mapSeq λ_=>List.toArray (katRev b out));have hsz:(List.toArray (katRev b out)).size=out.length:=by rw[Zf,kat_len]
 obtain⟨c2,hc2⟩:∃z,((s.heap.update kS (Obj.mapSeq λ_=>(#[]:Array MW))).update a (Obj.mapSeq λ_=>List.toArray (katRev b out))).get? a=some (seqObj "list" (List.toArray (katRev b out)) z):=#[_,get?_update_seq aa.1 λ_=>List.toArray (katRev b out)]
 unfold ksk_tail;dsimp only;rw[ho,kat_outs];refine z0 (listUpdate_at ak.1 rfl (z0 (YK (z0 (seqEpoch_at aa.1 rfl (z0 (listUpdate_at aa.1 rfl ?_ (ZU _) (Zq (Nat.le_of_eq hsz) (Yn (fO hz))))))))) (by rw[Zf];exact fO hq) (ZU _));rw[hf];simp only[bne_self_eq_false,Yu,YO];refine z9 (k2 _ c2 (kas_fr F2 s2 aa.2.1 aa.2.2) ?_);rw[hg2];exact news_set N2 y1 y2 s2 hc2
theorem yC{f:MW}{Fin:MT->Nat->MV->Prop}{n:Nat}{body:MW->PUnit->Sem (ForInStep PUnit)}(hn:n<=4096)(hb:∀ x ks e (s:MV) (C:MW->Nat->MV->Prop),List.length ks<4096->wpAny (model prog w) A (call f [x]) (KatBack h₀ L m kS ks e C) (λ_ _=>False) s ->
   wpAny (model prog w) A (body x ⟨⟩) (λr s'=>r=.yield ⟨⟩/\∃ k c,s'.heap.get? kS=some (seqObj "list" (List.toArray (ks++[k])) c)/\C k c s') E s):∀ (r qs:MT) (e:Nat) (s:MV),qs.length+r.length=n ->
   s.heap.get? kS=some (seqObj "list" (List.toArray qs) e)->KatKeys prog w A h₀ L m kS f Fin r qs e s ->
   wpAny (model prog w) A (forIn r PUnit.unit body) (λ_ s'=>∃qs e,s'.heap.get? kS=some (seqObj "list" (List.toArray qs) e)/\qs.length=n/\Fin qs e s') E s
 | [],qs,e,s,hl,hq,h=>by rw[List.forIn_nil];exact z9 #[qs,e,hq,by simpa using hl,h]
 |x::r,qs,e,s,hl,hq,h=>by rw[Zu]at hl;rw[List.forIn_cons];refine z0 (ZL (hb x qs e s (λk c s'=>KatKeys prog w A h₀ L m kS f Fin r (qs++[k]) c s') ∅ h) (λz s' hz=>?_) λ_ _ x=>x);obtain⟨rfl,k,c,hk',h2⟩:=hz;exact yC hn hb r (qs++[k]) c s' (by rw[Zk,y0];omega) hk' h2
end
def G0:M5->M5->M5
 | [],ns=>0::ns
 |p::ps,ns=>1::p::G0 ps ns
inductive ZKey where
 |i (n:Int)|t (ns:M5)|p (ps ns:M5)
def ZKey.nums:ZKey->M5
 |.i n=>[n]
 |.t ns=>ns
 |.p ps ns=>G0 ps ns
def ZKey.at(H:Hp):ZKey->V->Prop
 |.i n,v=>v=.int n
 |.t ns,v=>∃a,v=.ref a/\H a=some (.tup (ns.map V.int))
 |.p ps ns,v=>∃a b c,v=.ref a/\H a=some (.tup [.ref b,.ref c])/\H b=some (.tup (ps.map V.int))/\H c=some (.tup (ns.map V.int))
theorem ZKey.at.same{H H':Hp}(sm:Same H H'):∀{k:ZKey} {v:V},k.at H v->k.at H' v
 |.i _,_,h=>h
 |.t _,_,⟨a,e,h⟩=>#[a,e,sm _ _ h]
 |.p _ _,_,⟨a,b,c,e,h1,h2,h3⟩=>#[a,b,c,e,sm _ _ h1,sm _ _ h2,sm _ _ h3]
section
variable{X:Cx}{M9:MP}{σ:St}{H:Hp}{s:MV}{h':Heap}
def De(X:Cx)(s:MV)(l:MU)(xs:List V):Prop:=∀Q:MT->MV->Prop,(∀h' tk its,(∀b o,s.heap.get? b=some o->h'.get? b=some o)->Vals xs its->Q its { s with heap:=h',toks:=tk })->wpAny (model X.prog X.w) X.A.in1 (collect (.ref l)) Q X.xe s
theorem CL{l:MU}{xs:List V}(I:Inv X M9 σ H s)(hH:H l=some (.lst xs))(hz:xs.length<=4096):De X s l xs:=λQ h=>by obtain⟨z,its,n,rv,hlen,e⟩:=I.lstM hH;have li:its.length=xs.length:=hlen.symm;refine collect_list #[_,e,rfl,n,rfl] (h _ s.toks its (λb o g=>?_) rv) (fO ∅);rw[Heap.get?_update_ne _ _ _ _ (Zo (Zh g))];exact z6 _ g
structure SGZ(X:Cx)(M9:MP)(σ:St)(H1:Hp)(m:MR)(kS D:MU)(e1:Nat)(ks:List ZKey)(as:List V)(us:MT)(e:Nat)(H:Hp)(s:MV):Prop where
 I:Inv X M9 σ H s
 sm:Same H1 H
 fk:bG X M9 H kS
 fd:bG X M9 H D
 bk:X.base.get? kS=none
 bd:X.base.get? D=none
 hk:s.heap.get? kS=some (seqObj "list" (List.toArray us) e)
 hd:s.heap.get? D=some (seqObj "list" #[] e1)
 ns:s.heap.Ns X.env.locals m
 vals:Vals as us
 keys:∀(i:Nat) (a:V) (k:ZKey),as[i]?=some a->ks[i]?=some k->k.at H a
theorem SGZ.fr{H1:Hp}{m:MR}{kS D:MU}{e1:Nat}{ks:List ZKey}{as:List V}{us:MT}{e:Nat}(S:SGZ X M9 σ H1 m kS D e1 ks as us e H s):Fr X.base X.env.locals s.heap m:=#[S.ns,S.I.bk,Zq S.I.ok.bsz S.I.ok.above]
theorem pR{H1:Hp}{m:MR}{kS D:MU}{e1:Nat}{ks:List ZKey}{xs:List V}{its:MT}{f:MU}{sp:Sp}{Fin:MT->Nat->MV->Prop}(hne:kS≠D)(rv:Vals xs its)(hl:ks.length=xs.length)(F:yP X M9 σ f sp)(spec:∀(i:Nat) (v:V) (key:ZKey) (H':Hp),xs[i]?=some v->ks[i]?=some key->Same H1 H'->∀R:VK,(∀kv H'',Same H' H''->key.at H'' kv->R kv H'')->sp [v] H' R E0)(fin:∀(as:List V) (us:MT) (e:Nat) (H:Hp) (s:MV),SGZ X M9 σ H1 m kS D e1 ks as us e H s->as.length=xs.length->Fin us e s) :
  ∀(r:MT) (as:List V) (us:MT) (e:Nat) (H:Hp) (s:MV),SGZ X M9 σ H1 m kS D e1 ks as us e H s->its=its.take as.length++r->as.length+r.length=xs.length ->
   KatKeys X.prog X.w X.A.in1.in1 X.base X.env.locals m kS (.ref f) Fin r us e s
 | [],as,us,e,H,s,S,_,hlen=>KatKeys.nil (fin as us e H s S (by simpa using hlen))
 |u::r,as,us,e,H,s,S,hits,hlen=>by
  have hi:as.length<xs.length:=by rw[Zu]at hlen;omega
  have hx:xs[as.length]?=some xs[as.length]:=Zj hi;obtain⟨u',gu,ru⟩:=rv.get hx;have hlt:as.length<its.length:=by rw[<-rv.length];exact hi
  have gu':its[as.length]?=some u:=by rw[hits,ZV (by rw[ZP];omega),ZP,YV ∅,Nat.sub_self];rfl
  rw[gu']at gu;cases gu;have hkey:ks[as.length]?=some (ks[as.length]'∅):=Zj ∅;generalize ks[as.length]'∅=key at hkey;refine KatKeys.cons (wpAny_call (codeAny_mono (F s H u xs[as.length] (λv H''=>Same H H''/\key.at H'' v) S.I ru (spec _ _ _ H hx hkey S.sm _ λkv H'' s' q=>#[s',q])) λres s' hq=>?_));cases res with
  |error e=>exact hq
  |ok fl =>
   cases fl with
   |next=>exact False.elim hq
   |brk=>exact False.elim hq
   |cont=>exact False.elim hq
   |ret uv =>
    obtain⟨v,H'',os,bare,un,hok,rvv,sm,ea⟩:=hq;obtain⟨hh,g,d,t,os'⟩:=s';obtain rfl:os'=s.os:=os;have I2:Inv X M9 σ H'' { s with heap:=hh,gens:=g,drawn:=d,toks:=t }:=S.I.call (h':=hh) (g':=g) (d':=d) (t':=t) (ch:=[]) un hok bare (λb z=>absurd z (by simp));have nstk:∀{b:MU},bG X M9 H b->b∉frs X.stack:=fun{b} fo z=>(Zl.mp (S.I.stkSub b z)).elim fo.2.1 fo.2.2.1;have hk2:hh.get? kS=some (seqObj "list" (List.toArray us) e):=un.keep kS _ S.hk S.fk.1 (nstk S.fk) (by simp);have hd2:hh.get? D=some (seqObj "list" #[] e1):=un.keep D _ S.hd S.fd.1 (nstk S.fd) (by simp);have ns2:hh.Ns X.env.locals m:=by obtain⟨o,es,ep,ho,rr⟩:=id S.ns;obtain⟨sl,hL⟩:=un.any ho S.I.free (by simp);exact#[_,es,ep,hL,rr]
    have fk2:bG X M9 H'' kS:=#[un.free kS _ S.hk S.fk.1 (by simp),S.fk.2]
    have fd2:bG X M9 H'' D:=#[un.free D _ S.hd S.fd.1 (by simp),S.fd.2]
    have hkL:kS≠X.env.locals:=S.fk.2.1;refine KatBack.intro (news:=(kS,seqObj "list" (List.toArray us) e)::ic X.base hh X.env.locals kS) ⟨ns2,I2.bk,Zq S.I.ok.bsz S.I.ok.above⟩ (iG hk2 hkL S.bk) (.head kC) λh3 c F3 N3=>?_;have mv:=iF (λb o q=>I2.bk b o q) F3 N3;have I3:Inv X M9 σ H'' { s with heap:=h3,gens:=g,drawn:=d,toks:=t }:=Inv.movedF (ch:=[kS]) (t':=t) I2 (λb hb=>by rw[Zd.mp hb];exact fk2) mv #[m,ns2,F3.ns];refine pR hne rv hl F spec fin r (as++[v]) (us++[uv]) c H'' _ #[I3,S.sm.trans sm,fk2,fd2,S.bk,S.bd,(N3 _ (.head _)).1,mv D _ S.fd.2.1 (λz=>hne (Zd.mp z).symm) hd2,F3.ns,S.vals.append (.cons rvv .nil),λi b key' h1 h2=>?_] ?_ ?_
    ·by_cases hi2:i<as.length
     ·rw[y9 hi2]at h1;exact(S.keys i b key' h1 h2).same sm
     ·have hi3:=(Zi.mp h1).1;rw[Zk,y0]at hi3;have e3:i=as.length:=∅
      subst e3;rw[ZV (Za _),Nat.sub_self]at h1;cases h1;rw[hkey]at h2;cases h2;exact ea
    ·rw[Zk,y0,x9,gu',Option.toList_some,List.append_assoc];exact hits
    ·rw[Zk,y0,<-hlen,Zu];omega
end
def J7(j:Int)(t u v:Tok):Obj:={ cls:=.type "range",data:=.fields (List.toArray [.int 0 t,.int j u,.int 1 v]) }
def SrcH(H:Hp)(l:MU)(xs:List V):Prop:=H l=some (.lst xs)\/∃(n:Nat) (t u v:Tok),n<=4096/\H l=some (fH l (J7 (n:Int) t u v))/\xs=(List.range n).map λi:Nat=>V.int (i:Int)
section
variable{X:Cx}{M9:MP}{σ:St}{H:Hp}{s:MV}
theorem Gr{l:MU}{xs:List V}(hc:X.calm=true)(I:Inv X M9 σ H s)(h:SrcH H l xs)(hz:xs.length<=4096):De X s l xs:=by
 rcases h with h|⟨n,t,u,v,hn,h,rfl⟩
 ·exact CL I h hz
 ·intro Q hq;have hr:IsRange s.heap l 0 (n:Int) 1 t u v:=(I.hok l _ h).1;have hh:X.A.in1.handled=none:=I.ok.hd hc;have h1:Builtin.Range.rangeSize 0 (n:Int) 1=((n:Nat):Int):=by rw[rangeSize_one];split<;>omega
  refine qu hh hr (small_one ∅ ∅ ∅ ∅) h1 ∅ λh' tk acc kp hI=>hq h' tk acc.toList kp ?_;have go:∀(its:MT) (k:Nat),(∀(i:Nat) (v:MW),its[i]?=some v->∃t,v=.int ((k+i:Nat):Int) t)->Vals ((List.range' k its.length).map λi:Nat=>V.int (i:Int)) its:=by
   intro its;induction its with
   |nil=>intro k _;exact .nil
   |cons x its ih =>
    intro k hx;obtain⟨t,rfl⟩:=hx 0 x rfl;rw[Zu,List.range'_succ,Z1];refine .cons #[t,?_] (ih (k+1) λi v hv=>?_)
    ·rfl
    ·obtain⟨t,e⟩:=hx (i+1) v hv;exact#[t,by rw[e];congr 2;omega]
  have e:=go acc.toList 0 λi v hv=>by obtain⟨t,e⟩:=hI.2 i v (by rw[<-hv,YR]);refine#[t,by rw[e];congr 1;omega]
  rw[ZC,hI.1]at e;rw[List.range_eq_range'];exact e
end
theorem SrcH.moved{P:MU}{q:Str}{lpos:Pos}{H H2:Hp}{l:MU}{xs:List V}(h:SrcH H l xs)(tab:bc q P lpos H)(s:SameT P H H2):SrcH H2 l xs:=by
 obtain⟨ps,tP,_⟩:=tab;rcases h with h|⟨n,t,u,v,hn,h,e⟩
 ·exact .inl (s _ _ h λz=>by rw[z,tP]at h;cases h)
 ·have hne:l≠P:=λz=>by rw[z,tP]at h;cases h
  exact .inr #[n,t,u,v,hn,s _ _ h hne,e]
section
variable{prog:MX}{w:MY}{A:MZ}{E:MQ}{s:MV}{d it v:MU}{es:Array DictEntry}{ep i:Nat}
theorem Cv{Q:MQ}(hv:s.heap.IsValuesView v d)(hm:DRaw s.heap d es ep)(hQ:Q (.ref s.heap.objs.size) { s with heap:=s.heap.push { cls:=.type "dict_valueiterator",data:=.fields (List.toArray [.ref d,.int 0 0,.int es.size 0,.int ep 0]) } }):wpAny (model prog w) A (pyIter (.ref v)) Q E s:=by
 obtain⟨ov,e1,e2,e3⟩:=id hv;obtain⟨o,f1,f2,f3⟩:=id hm;refine wpAny_pyIter_slot hv.typeIs PySem.F.slot_dict_values_iter (ZK PySem.F.slot_dict_values_iter hv.typeIs PySem.F.entry_dict_values_iter ?_ (PySem.F.args_dict_values_iter_1 _));unfold Builtin.«dict_values.__iter__»;refine z0 (z9 (z0 ?_));unfold Builtin.Dict_items.dictOf;refine z0 (ZO e1 e3 (x:=.ref d) rfl (z9 (z0 ?_)));unfold Builtin.Dict_items.newIterator;refine z0 (YH f1 f3 (z0 (wpAny_dictEpoch f1 f3 ?_)));have own:Builtin.Dict_items.ownsTuple "dict_valueiterator" = false:=⋯
 simp only[own,Yu,YO];refine ZD (z9 #[_,rfl,"dict_valueiterator",_,#[_,Ze _ rfl,rfl],Yk.lookup,?_]);simpa[rawInt]using hQ
theorem Cu{Q:Option MW->MV->Prop}(hit:s.heap.IsValIter it d i es.size ep)(hm:DRaw s.heap d es ep)(hx:i<es.size)(hQ:∀h',h'.IsValIter it d (i+1) es.size ep->Heap.SameBut it s.heap h'->Q (some es[i].val) { s with heap:=h' }):wpAny (model prog w) A (pyNext (.ref it)) Q E s:=by
 obtain⟨o,ho,hc,hd⟩:=id hit;obtain⟨od,hod,hcd,hdd⟩:=id hm;unfold pyNext;refine z0 (YE (ZA (name:=Str.ofString "__next__") hit.typeIs Yk
  (ZK Yk hit.typeIs PySem.F.entry_dict_valueiterator_next ?_ (PySem.F.args_dict_valueiterator_next_1 _))))
 refine z0 (z9 ?_);refine z0 ?_;refine z0 ?_
 first|refine z0 (Y0 hit.typeIs (z9 ?_))|refine z0 (wpAny_typeNameOf_valiter hit.typeIs (z9 ?_))
 refine z0 (wpAny_fieldsOf ho hd ?_);have hown:Builtin.Dict_items.ownsTuple "dict_valueiterator" = false:=⋯
 simp only[hown,Yu,YO];show wpAny _ _ (if(Value.ref d==Value.none)=true then _ else _) _ _ s;rw[MN (show¬((Value.ref d==Value.none)=true)from Zg)];refine z0 (z9 ?_);refine z0 (YH hod hdd ?_);rw[MN (by simp)];refine z0 (z9 ?_);refine z0 (wpAny_dictEpoch hod hdd ?_);rw[MN (by simp)];refine z9 ?_;simp only[show¬((i:Int)<0)from by omega,YO,ZJ,Array.getElem?_eq_getElem hx];refine z0 ?_
 first|refine z0 (Y0 hit.typeIs (z9 ?_))|refine z0 (wpAny_typeNameOf_valiter hit.typeIs (z9 ?_))
 refine z0 (wpAny_isOneOf_valiter hit.typeIs ?_);show wpAny _ _ (setField (.ref it) 1 (rawInt ((i:Int)+1)) >>= _) _ _ s;refine z0 (Yo ho hd (by simp) ?_);have hit':(s.heap.update it (Obj.mapFields (·.setIfInBounds 1 (rawInt ((i:Int)+1))))).IsValIter it d (i+1) es.size ep :=
  #[_,ZZ _ ho (Yz (Z4 hd _)),(Obj.cls_mapFields ..).trans hc,by rw[Z4 hd];simp[rawInt]]
 refine z0 (ZF ?_);refine z0 (wpAny_isOneOf_valiter (s:={ s with heap:=s.heap.update it (Obj.mapFields (·.setIfInBounds 1 (rawInt ((i:Int)+1)))) }) hit'.typeIs ?_);refine z0 (wpAny_isOneOf_valiter (s:={ s with heap:=s.heap.update it (Obj.mapFields (·.setIfInBounds 1 (rawInt ((i:Int)+1)))) }) hit'.typeIs ?_);show wpAny _ _ (pure es[i].val) _ _ _;exact z9 (z9 #[_,rfl,z9 (hQ _ hit' (ZT ..))])
theorem Ei{Q:Option MW->MV->Prop}(hh:A.handled=none)(hit:s.heap.IsValIter it d es.size es.size ep)(hm:DRaw s.heap d es ep)(hQ:∀h',Heap.ExtBut it s.heap h'->Q none { s with heap:=h' }) :
  wpAny (model prog w) A (pyNext (.ref it)) Q E s:=by
 obtain⟨o,ho,hc,hd⟩:=id hit;obtain⟨od,hod,hcd,hdd⟩:=id hm;unfold pyNext;refine z0 (YE (ZA (name:=Str.ofString "__next__") hit.typeIs Yk
  (ZK Yk hit.typeIs PySem.F.entry_dict_valueiterator_next ?_ (PySem.F.args_dict_valueiterator_next_1 _))))
 refine z0 (z9 ?_);refine z0 ?_;refine z0 ?_
 first|refine z0 (Y0 hit.typeIs (z9 ?_))|refine z0 (wpAny_typeNameOf_valiter hit.typeIs (z9 ?_))
 refine z0 (wpAny_fieldsOf ho hd ?_);have hown:Builtin.Dict_items.ownsTuple "dict_valueiterator" = false:=⋯
 simp only[hown,Yu,YO];show wpAny _ _ (if(Value.ref d==Value.none)=true then _ else _) _ _ s;rw[MN (show¬((Value.ref d==Value.none)=true)from Zg)];refine z0 (z9 ?_);refine z0 (YH hod hdd ?_);rw[MN (by simp)];refine z0 (z9 ?_);refine z0 (wpAny_dictEpoch hod hdd ?_);rw[MN (by simp)];refine z9 ?_;simp only[show¬((es.size:Int)<0)from by omega,YO,ZJ,Array.getElem?_eq_none (Za _)];refine z0 ?_
 first|refine z0 (Y0 hit.typeIs (z9 ?_))|refine z0 (wpAny_typeNameOf_valiter hit.typeIs (z9 ?_))
 show wpAny _ _ (setField (.ref it) 0 .none >>= _) _ _ s;refine z0 (Yo ho hd (by simp) ?_);show wpAny _ _ (newExc (.type "StopIteration") [] >>= _) _ _ _;refine z0 ?_;simp only[newExc,newTuple];refine z0 (ZD ?_ (by size_fits));refine z0 (m:=firstArgMember _ _) (Y5 (a:=Value.none) (by first|rfl|(simp only[firstArgMember];rfl)) ?_);refine ZD ?_ (by size_fits);simp only[raiseNew];refine z0 (wpAny_handled ?_);rw[show A.in1.handled=none from hh];refine z0 (z9 (wpAny_throw ?_));refine z0 (Y3 (T:="StopIteration") (b:=true) #[_,Ze _ rfl,rfl] isSubtype_stop ?_);exact z9 (hQ _ (((ZT ..).extBut.push _).push _))
theorem Aj(hh:A.handled=none)(I d:MU)(hne:d≠I)(es:Array DictEntry)(ep:Nat) :
  Walks prog w A I [I,d] [I] es.size (λi v=>∃e,es[i]?=some e/\v=e.val) (λi h=>h.IsValIter I d i es.size ep/\DRaw h d es ep) where
 sub:=λb hb=>by simp at hb;simp[hb]
 frame:=λ_ _ _ st hk=>#[let⟨o,ho,r⟩:=st.1;#[o,hk I (by simp) o ho,r],st.2.at' λo e=>hk d (by simp) o e]
 item:=λi s Q E hi st hQ=>Cu st.1 st.2 hi λh' hit' hs'=>hQ _ h' s.toks #[es[i],by simp[hi],rfl] #[hit',st.2.at' λo e=>hs'.extBut d o hne e] λb o hb e=>hs'.extBut b o (λh=>hb (by simp[h])) e
 done:=λs Q E st hQ=>Ei hh st.1 st.2 λh' he'=>hQ h' s.toks λb o hb e=>he' b o (λh=>hb (by simp[h])) e
 self:=λ_ _ _ _ st hQ=>wpAny_pyIter_valiter st.1 hQ
theorem Ej:KdlSrc prog w "dict_values" v d es.size (λi v=>∃e,es[i]?=some e/\v=e.val) (λh=>h.IsValuesView v d/\DRaw h d es ep) where
 type:=λ_ hm=>hm.1.typeIs
 there:=λ_ hm=>#[let⟨_,ho,_⟩:=hm.1;Zh ho,hm.2.lt]
 keep:=λ_ _ hm hk=>#[let⟨o,ho,x⟩:=hm.1;#[o,hk v (.inl rfl) o ho,x],hm.2.at' λo e=>hk d (.inr rfl) o e]
 notList:=⋯
 notTuple:=⋯
 hint:=λ_ _ _ _ hm hq=>kdl_hint_values hm.1.typeIs hq
 iter:=λ_ _ hh hm=>#[_,_,(λ_ _ hq=>Cv hm.1 hm.2 hq),Aj hh _ d (Zo hm.2.lt) es ep,#[#[_,Ze _ rfl,rfl,rfl],hm.2.at' λo e=>z6 _ e]]
end
section
variable{prog:MX}{w:MY}{A:MZ}{E:MQ}{s:MV}
theorem pj{it l:MU}{i:Nat}{items:Array MW}{x:MW}{Q:MQ}(hit:s.heap.IsTupleIter it l i)(hl:s.heap.IsTuple l items)(hx:items[i]?=some x)(hQ:∀h',h'.IsTupleIter it l (i+1)->Heap.SameBut it s.heap h'->Q x { s with heap:=h' }):wpAny (model prog w) A (Builtin.SmallTypes.nextOf (.ref it)) Q E s:=by obtain⟨o,ho,hc,hd⟩:=id hit;obtain⟨ol,g1,_,nl,g2⟩:=hl;unfold Builtin.SmallTypes.nextOf;refine z0 (ZA (name:=Str.ofString "__next__") hit.typeIs YQ (ZK YQ hit.typeIs PySem.F.entry_tuple_iterator_next ?_ (PySem.F.args_tuple_iterator_next_1 _)));show wpAny _ _ (field (.ref it) 0 >>= _) _ _ s;refine z0 (ZO ho hd (x:=.ref l) rfl ?_);show wpAny _ _ (if(Value.ref l==Value.none)=true then _ else _) _ _ s;rw[MN (show¬((Value.ref l==Value.none)=true)from Zg)];show wpAny _ _ (field (.ref it) 1 >>= _) _ _ s;refine z0 (ZO ho hd (x:=.int i 0) rfl ?_);show wpAny _ _ (seqItems? (.ref l) >>= _) _ _ s;refine z0 (Z8 g1 g2 ?_);simp only[ZJ,hx];refine z0 (Yo ho hd (by simp) (z9 #[x,rfl,z9 (hQ _ #[_,ZZ _ ho (Yz (Z4 hd _)),(Obj.cls_mapFields ..).trans hc,by rw[Z4 hd];simp[rawInt]] (ZT ..))]))
theorem qG{it l:MU}{i:Nat}{items:Array MW}{Q:MQ}(hh:A.handled=none)(hit:s.heap.IsTupleIter it l i)(hl:s.heap.IsTuple l items)(hx:items[i]?=none)(hE:∀h' e,Heap.ExtBut it s.heap h'->(∃o,h'.get? e=some o/\o.cls=.type "StopIteration")->E (.ref e) { s with heap:=h' }):wpAny (model prog w) A (Builtin.SmallTypes.nextOf (.ref it)) Q E s:=by
 obtain⟨o,ho,hc,hd⟩:=id hit;obtain⟨ol,g1,_,nl,g2⟩:=hl;unfold Builtin.SmallTypes.nextOf;refine z0 (ZA (name:=Str.ofString "__next__") hit.typeIs YQ (ZK YQ hit.typeIs PySem.F.entry_tuple_iterator_next ?_ (PySem.F.args_tuple_iterator_next_1 _)));show wpAny _ _ (field (.ref it) 0 >>= _) _ _ s;refine z0 (ZO ho hd (x:=.ref l) rfl ?_);show wpAny _ _ (if(Value.ref l==Value.none)=true then _ else _) _ _ s;rw[MN (show¬((Value.ref l==Value.none)=true)from Zg)];show wpAny _ _ (field (.ref it) 1 >>= _) _ _ s;refine z0 (ZO ho hd (x:=.int i 0) rfl ?_);show wpAny _ _ (seqItems? (.ref l) >>= _) _ _ s;refine z0 (Z8 g1 g2 ?_);simp only[ZJ,hx];refine z0 (Y4 (z0 (Yo ho hd (by simp) ?_)));show wpAny _ _ (newExc (.type "StopIteration") [] >>= _) _ _ _;refine z0 ?_;simp only[newExc,newTuple];refine z0 (ZD ?_ (by size_fits));refine z0 (m:=firstArgMember _ _) (Y5 (a:=Value.none) (by first|rfl|(simp only[firstArgMember];rfl)) ?_);refine ZD ?_ (by size_fits);simp only[raiseNew];refine z0 (wpAny_handled ?_)
 first|rw[show A.in1.handled=none from hh]|rw[hh]
 refine z0 (z9 (wpAny_throw ?_));exact hE _ _ (((ZT ..).extBut.push _).push _) #[_,Ze _ rfl,rfl]
theorem Bq(hh:A.handled=none)(it l:MU)(hne:l≠it)(items:Array MW):Draws prog w A it [it,l] items.size (λi v=>items[i]?=some v) (λi h=>h.IsTupleIter it l i/\h.IsTuple l items) where
 live:=λ_ _ st=>let⟨o,ho,_⟩:=st.1;#[o,ho]
 frame:=λ_ _ _ st hk=>#[let⟨o,ho,r⟩:=st.1;#[o,hk it (by simp) o ho,r],let⟨o,ho,r⟩:=st.2;#[o,hk l (by simp) o ho,r]]
 item:=λi s Q E hi st hQ=>pj st.1 st.2 (x:=items[i]) (by simp[hi]) λh' hit' hs'=>hQ _ h' s.toks (by simp[hi]) #[hit',st.2.extBut hs'.extBut hne] hs'
 done:=λs Q E st hE=>qG hh st.1 st.2 (by simp) hE
open PySem.AutoSeq1 (wpAny_loadPart')in
theorem wQ(l:MU)(items:Array MW)(n:Nat)(dct:Option MU)(sl:Array (Option MW)) :
  Meets (Builtin.«enumerate.__new__» #[[.type "enumerate",.ref l],[]]) (λ_ R s=>s.heap.get? l=some { cls:=.type "tuple",dict:=dct,data:=.seq items n,slots:=sl } /\
   R (.ok (.ret (.ref (s.heap.push { cls:=.type "tuple_iterator",data:=.fields (List.toArray [.ref l,.int 0 0]) }).objs.size)))
    { s with heap:=(s.heap.push { cls:=.type "tuple_iterator",data:=.fields (List.toArray [.ref l,.int 0 0]) }).push { cls:=.type "enumerate",data:=.fields (List.toArray [.none,.bool false,.ref s.heap.objs.size,rawInt 0,.none,.none]) } }) :=
 .of_wp λprog w A R s h=>by
  obtain⟨hp,g,d,tk,os⟩:=s;obtain⟨hl,h⟩:=h;have hsub:=sub_enumerate;have hL:Heap.IsTuple (Shared.heap #[hp,g,d,tk,os]) l items:=#[_,hl,rfl,n,rfl]
  wp_walk using wpAny_loadPart' hl
  refine wpAny_stack_any λst=>z9 ?_;split
  ·rename_i c _ _ _ _ _;cases(c==Value.type "enumerate")
   ·wp_walk using wpAny_loadPart' hl,Y7 hL
    exact#[_,rfl,h]
   ·wp_walk using wpAny_loadPart' hl,Y7 hL
    exact#[_,rfl,h]
  ·wp_walk using wpAny_loadPart' hl,Y7 hL
   exact#[_,rfl,h]
theorem yU{l:MU}{items:Array MW}{Q:MQ}(hL:IsTup s.heap l items)(h:∀h',IsEnum h' (s.heap.objs.size+1) s.heap.objs.size 0 .none->h'.IsTupleIter s.heap.objs.size l 0->h'.objs.size=s.heap.objs.size+2->(∀b o,s.heap.get? b=some o->h'.get? b=some o)->Q (.ref (s.heap.objs.size+1)) { s with heap:=h' }) :
  wpAny (model prog w) A (call (.type "enumerate") [.ref l]) Q E s:=by
 obtain⟨⟨c,dct,dt,sl⟩,hl,hc,n,hd⟩:=hL
 replace hc:c=.type "tuple":=hc
 replace hd:dt=.seq items n:=hd
 subst hc hd;refine callType_new PySem.F.called_enumerate ⋯ (PySem.F.typeCall_enumerate_1 _) (PySem.F.newCall_enumerate_1 _) (λobj=>PySem.F.args_object_init_2 obj _) PySem.F.entry_enumerate_new (wQ l items n dct sl) #[hl,?_];have hz:(s.heap.push { cls:=.type "tuple_iterator",data:=.fields (List.toArray [.ref l,.int 0 0]) }).objs.size=s.heap.objs.size+1:=Yh ..;show _/\_;rw[hz];have he:IsEnum ((s.heap.push { cls:=.type "tuple_iterator",data:=.fields (List.toArray [.ref l,.int 0 0]) }).push { cls:=.type "enumerate",data:=.fields (List.toArray [.none,.bool false,.ref s.heap.objs.size,rawInt 0,.none,.none]) }) (s.heap.objs.size+1) s.heap.objs.size 0 .none:=by have:=Ze (s.heap.push { cls:=.type "tuple_iterator",data:=.fields (List.toArray [.ref l,.int 0 0]) }) (o:={ cls:=.type "enumerate",data:=.fields (List.toArray [.none,.bool false,.ref s.heap.objs.size,rawInt 0,.none,.none]) }) rfl;rw[hz]at this;exact this
 refine#[#[_,he,rfl],h _ he #[_,z6 _ (Ze _ rfl),rfl,rfl] (by rw[Yh,hz]) λb o x=>z6 _ (z6 _ x)]
end
def ItT(K:W.Frag)(a:MU)(xs:List V):It :=
 #[λi H=>i<xs.length/\SqT K H a xs,λi H x H'=>∃T p,H T=none/\xs[i]?=some p/\x=.ref T/\H'=upd H T (.tup [.int i,p]),λi H=>i=xs.length/\SqT K H a xs]
abbrev eTt(e it a:MU):Nat->Heap->Prop:=λi h=>(∃old,IsEnum h e it i old)/\h.IsTupleIter it a i
theorem AE{P:MX}{w:MY}{K:W.Frag}{elts:List M8}{kt:Nat}{tp:Pos}{e it a:MU}{xs:List V}(ne:e≠it)(ha:e≠a/\it≠a) :
  Turn P w K (.Tuple elts kt tp) (ItT K a xs) [e,it] e (eTt e it a):=by
 refine#[by simp,λi h st c hc=>?_,λi h h' st k=>?_,?_,?_,λA i s Q E st h=>?_]
 ·obtain⟨⟨old,e1⟩,⟨o4,e4,_,d4⟩⟩:=st;simp only[Zl,ZB,Yg]at hc;rcases hc with rfl|rfl
  ·exact#[_,e1,λv z=>nomatch z]
  ·exact#[_,e4,λv z=>by rw[d4]at z;cases z]
 ·obtain⟨⟨old,e1⟩,⟨o4,e4,r4⟩⟩:=st;exact#[#[old,k e (by simp) _ e1],#[o4,k it (by simp) _ e4,r4]]
 ·intro X hP hw hK hc i M9 s σ H E I hf st hg;subst hP hw hK;obtain⟨⟨old,e1⟩,e4⟩:=st;obtain⟨hi,hx⟩:=hg;obtain⟨its,rx,px,zx⟩:=I.tuple hx;have lx:i<its.toArray.size:=by rw[Zf,<-rx.length];exact hi
  have hh:=I.ok.hd hc;refine wpAny_pyNext_enum_itemD (Bq (A:=X.A.in1) hh it a ha.2.symm its.toArray) e1 #[e4,px] lx ne (by simp[ne,ha.1]) λx h' tk qx ho hs' hT hsz hk=>?_;refine#[_,rfl,wpAny_letOwnedTupleGo_enum (s:={ s with heap:=h',toks:=tk+1 }) ho λh2 he2 sb=>?_];obtain⟨xv,ex⟩:∃xv,xs[i]?=some xv:=#[xs[i],by simp[hi]]
  obtain⟨x',gx,rxv⟩:=rx.get ex;have qx':its[i]?=some x:=by simpa using qx
  rw[gx]at qx';cases qx';have lte:e<s.heap.objs.size:=Zh e1;have kp2:∀c o,c∉[e,it]->s.heap.get? c=some o->h2.get? c=some o:=λc o hc q=>by simp only[Zl,ZB,Yg,not_or]at hc;exact sb.extBut c o hc.1 (hk c o hc.1 hc.2 q)
  have tT:IsTup h2 s.heap.objs.size [.int i tk,x].toArray:=#[_,sb.extBut _ _ (ZY lte) hT,rfl,_,rfl]
  refine#[.ref s.heap.objs.size,upd H s.heap.objs.size (.tup [.int i,xv]),I.turnT (t':=tk+1) hf kp2 tT (.cons #[tk,rfl] (.cons rxv .nil)) (sz rfl),rfl,#[_,xv,I.hok.fresh (Za _),ex,rfl,rfl],?_,λc hc=>?_]
  ·exact#[#[_,by simpa using he2],hs'.1.extBut sb.extBut ne.symm]
  ·rw[ah]
   ·exact(hf c hc).1
   ·obtain⟨o,eo⟩:∃o,s.heap.get? c=some o:=by
     simp only[Zl,ZB,Yg]at hc;rcases hc with rfl|rfl
     ·exact#[_,e1]
     ·obtain⟨o,eo,_⟩:=e4;exact#[o,eo]
    exact Zo (Zh eo)
 ·intro X hP hw hK hc i M9 s σ H E I hf st hg;subst hP hw hK;obtain⟨⟨old,e1⟩,e4⟩:=st;obtain⟨rfl,hx⟩:=hg;obtain⟨its,rx,px,zx⟩:=I.tuple hx;have lx:its.toArray.size=xs.length:=by rw[Zf,<-rx.length]
  have hh:=I.ok.hd hc;refine wpAny_pyNext_enum_endD (Bq (A:=X.A.in1) hh it a ha.2.symm its.toArray) e1 #[by rw[lx];exact e4,px] λh' kp=>#[rfl,?_]
  exact I.turnM (t':=s.toks) hf λc ob hc q=>by simp only[Zl,ZB,Yg,not_or]at hc;exact kp c ob hc.2 q
 ·obtain⟨⟨old,e1⟩,_⟩:=st;exact wpAny_pyIter_enum e1 h
def BF(K:W.Frag)(ta:TA):TI:=λσ H R=>ta σ H λvs H1=>∃a xs,vs=[.ref a]/\H1 a=some (.tup xs)/\R (ItT K a xs) H1
section
variable{X:Cx}
theorem D6{e1:M8}{ta:TA}{p pos tp:Pos}{elts:List M8}{kt:Nat}(hg:Gl X "enumerate")(hm:X.mg "enumerate" = none)(ha:PA X [e1] ta)(n1:aO e1=true):PI X (.Tuple elts kt tp) (.Call (.Name "enumerate" p) [e1] [] pos) (BF X.K ta):=by
 intro M9 s σ H R I h;refine Call_ (eC I hg hm boot_enumerate (Yt (thn (ha pos M9 s σ H _ I h) λus s1 hz9=>?_) (aS n1) (bp (by simp))));obtain⟨vs,H1,I1,r1,q1⟩:=hz9;obtain⟨a,xs,e,hx,q⟩:=q1;subst e;obtain⟨ua,rfl,ra⟩:=bZ r1;cases ra;obtain⟨its,rx,pa,zz⟩:=I1.tuple (Nb (K:=X.K) hx);obtain⟨oo,eo,_⟩:=id pa;have la:a<s1.heap.objs.size:=Zh eo;refine yU pa λh' he hl hz hk=>wpAny_pyIter_enum he ?_;refine#[s1.heap.objs.size+1,[s1.heap.objs.size+1,s1.heap.objs.size],eTt (s1.heap.objs.size+1) s1.heap.objs.size a,_,H1,rfl,I1.kept (t':=s1.toks) hk,AE (Nat.succ_ne_self _) #[ZY (Nat.lt_succ_of_lt la),ZY la],#[#[_,he],hl],λc hc=>?_,q];have hc':s1.heap.objs.size<=c:=by
  simp only[Zl,ZB,Yg]at hc;rcases hc with rfl|rfl
  ·exact Nat.le_succ _
  ·exact Za _
 exact I1.fpOk hc' (I1.hok.fresh hc')
theorem Fk{e1:M8}{ta:TA}{p pos tp:Pos}{elts:List M8}{kt:Nat}(hm:X.mg "enumerate" = none)(ha:QA X [e1] ta)(hg:Gl X "enumerate":=by rfl)(n1:aO e1=true:=by rfl):QI X (.Tuple elts kt tp) (.Call (.Name "enumerate" p) [e1] [] pos) (BF X.K ta):=#[D6 hg hm ha.h n1]
end
theorem Bw{K:W.Frag}{a:MU}{xs:List V}{i j:Nat}{tb:TS}{D:Ends}{σ:St}{H:Hp}(Pv:Nat->St->Hp->Prop)(h0:Pv 0 σ H)(ha:∀i σ H,i<=xs.length->Pv i σ H->SqT K H a xs)(hs:∀k x σ H,xs[k]?=some x->Pv k σ H->∀T,H T=none->tb { D with nx:=Pv (k+1),ct:=Pv (k+1),bk:=D.nx } ((σ.set i (some (.int k))).set j (some x)) (upd H T (.tup [.int k,x])))(hd:∀σ H,Pv xs.length σ H->D.nx σ H) :
  ∃W:Nat->Nat->St->Hp->Prop,(∃m,W 0 m σ H)/\∀k m σ H,W k m σ H ->
   ((ItT K a xs).stop k H/\D.nx σ H)\/((ItT K a xs).go k H/\∃N:St->Hp->Prop,(∀σ' H',N σ' H'->∃m',m'<m/\W (k+1) m' σ' H')/\∀x H',(ItT K a xs).yld k H x H'->jZ K 2 (dS (bo i) (dS (bo j) jY)) x σ H' λσ2 H2=>tb { D with nx:=N,ct:=N,bk:=D.nx } σ2 H2):=by
 refine#[λk m σ H=>m=xs.length-k/\k<=xs.length/\Pv k σ H,#[xs.length,by simp,ZU _,h0],?_];rintro k m σ H ⟨rfl,hk,pv⟩;by_cases hlt:k<xs.length
 ·refine .inr #[#[hlt,ha k σ H hk pv],Pv (k+1),λσ' H' z=>#[xs.length-(k+1),∅,rfl,hlt,z],λx H' y=>?_];obtain⟨T,p,hT,hx,rfl,rfl⟩:=y;exact#[T,[.int k,p],rfl,Nb ad,rfl,.int k,[p],rfl,p,[],rfl,rfl,hs k p σ H hx pv T hT]
 ·have e:k=xs.length:=∅
  subst e;exact .inl #[#[rfl,ha _ σ H hk pv],hd σ H pv]
def mO(d:MU):Obj:={ cls:=.type "dict_values",data:=.fields (List.toArray [.ref d]) }
def JU(td:TE):TE:=λσ H Q=>td σ H λx H1=>∃a kvs,x=.ref a/\H1 a=some (.dT kvs)/\∀v,H1 v=none->Q (.ref v) (upd H1 v (fH v (mO a)))
section
variable{X:Cx}{o:M8}{td:TE}{apos cpos:Pos}
theorem Cs(ho:QE X o td)(hbase:attributeBase o "values" X.env (eval o X.env)=eval o X.env:=by rfl)(hline:(apos.endLine==cpos.line)=true:=by rfl):QE X (.Call (.Attribute o "values" apos) [] [] cpos) (JU td):=by refine#[?_];intro M9 s σ H Q I h;refine wpAny_Call_method0_late hbase hline (thn (ho.h M9 s σ H _ I h) λv s1 hz9=>?_);obtain⟨x,H1,I1,r1,a,kvs,e,hd,q1⟩:=hz9;subst e;cases r1;obtain⟨t1,t2,_⟩:=BJ I1 (.inr #[kvs,.inl hd]);obtain⟨z,ns,xs,rel,ob,es,ep,g1,g2,g3,_⟩:=gi I1.hok (.inl hd);refine#["dict","dict.values",PySem.F.plainAttrs_dict,PySem.F.slot_dict_values,PySem.F.type_dict_values,t1,t2,Calls.callWith_builtin rfl (PySem.evalArgs_none ?_)];refine ZK PySem.F.slot_dict_values t1 PySem.F.entry_dict_values ?_ (PySem.F.args_dict_values_1 _);refine z0 ?_;unfold Builtin.Dict.noArgs;refine z0 (wpAny_notOrdered_dict t1 ?_);show wpAny _ _ (pure a) _ _ s1;refine z9 ?_;show wpAny _ _ (Builtin.Dict.showsAll a >>= _) _ _ s1;unfold Builtin.Dict.showsAll;rw[MN (by rw[ns];exact Zg)];refine z0 (z9 (z0 (ZD (z9 #[_,rfl,?_]))));exact#[.ref _,_,I1.laid (t':=s1.toks) (λb o e=>z6 _ e) (Za _) (qC (Ze _ rfl)),rfl,q1 _ (I1.hok.fresh (Za _))]
theorem yW(hc:X.calm=true):cU X (.type "list") (λxs H Q=>∃v a kvs,xs=[.ref v]/\H v=some (fH v (mO a))/\H a=some (.dT kvs)/\∀l,H l=none->Q (.ref l) (upd H l (.lst (kvs.map (·.2))))):=by
 intro M9 s σ H xs us Q I r h;obtain⟨v,a,kvs,rfl,hv,hq,q⟩:=h;obtain⟨u,rfl,rx⟩:=bZ r;cases rx;obtain⟨z,hd,xs,rel,o,es,ep,h1,h2,h3,h4,_,_⟩:=gi I.hok (.inl hq);have hsz:es.size=xs.length:=size_of_entries h4;have hkl:kvs.length=xs.length:=ZH rel;have vv:s.heap.IsValuesView v a:=#[_,(I.hok v _ hv).1,rfl,rfl]
 refine kdl_call (Ej (es:=es) (ep:=ep)) (I.ok.hd hc) #[vv,#[o,h1,h2,h3]] ∅ λh' tk acc' c' kp e hacc=>?_;have ev:Vals (kvs.map (·.2)) acc'.toList:=by
  have gen:∀(vs:MT) (ys:List (List Key×MU×MW)) (ks:List (List Key×V)),KT H ks ys->vs.length=ys.length->(∀(j:Nat) (v:MW),vs[j]?=some v->∃x:List Key×MU×MW,ys[j]?=some x/\v=x.2.2)->Vals (ks.map (·.2)) vs:=by
   intro vs;induction vs with
   |nil =>
    intro ys ks rl hl _;cases ys with
    |nil=>cases rl;exact .nil
    |cons _ _=>cases hl
   |cons v vs ih =>
    intro ys ks rl hl hv;cases ys with
    |nil=>cases hl
    |cons y ys =>
     cases rl with
     |cons hy rl =>obtain⟨x,e1,e2⟩:=hv 0 v rfl;cases e1;rw[e2];exact .cons hy.2.2 (ih ys _ rl (by simpa using hl) λj v' e'=>hv (j+1) v' (by simpa using e'))
  refine gen _ _ _ rel (by rw[ZC,hacc.1,hsz]) λj v e'=>?_;obtain⟨en,e1,e2⟩:=hacc.2 j v (by rw[<-YR];exact e');rw[entry_at h4]at e1;obtain⟨x,e3,e4⟩:=YJ.mp e1;refine#[x,e3,?_];rw[e2,<-e4];rfl
 exact#[.ref s.heap.objs.size,_,I.laid (t':=tk) kp (Za _) (show ObjOk X.prog X.w _ h' _ (.lst (kvs.map (·.2)))from#[by rw[Zb];omega,acc'.toList,c',ev,by simpa using e]),rfl,q _ (I.hok.fresh (Za _))]
theorem xF(hc:X.calm=true):QCall X (.type "list") (λxs H Q=>∃v a kvs,xs=[.ref v]/\H v=some (fH v (mO a))/\H a=some (.dT kvs)/\∀l,H l=none->Q (.ref l) (upd H l (.lst (kvs.map (·.2))))):=#[yW hc]
end
end L2
set_option maxHeartbeats 4000000
namespace PySem
open Sem (wp)
section
variable{prog:MX}{w:MY}{A:MZ}{E:MQ}{s:MV}
theorem oG:isSubtype (.type "AttributeError") (.type "AttributeError")=pure true:=by rw[isSubtype_type];kernel_rfl
theorem Ai{α:Type}{self:MW}{name msg:Str}{Q:α->MV->Prop}(hm:msg.length<=sizeLine)(hh:A.handled=none)(hE:∀a h',(∃o,Heap.get? h' a=some o/\o.cls=.type "AttributeError")->(∀b o,s.heap.get? b=some o->h'.get? b=some o)->E (.ref a) { s with heap:=h',toks:=s.toks+1+1 }) :
  wpAny (model prog w) A (raiseAttrError self name msg) Q E s:=by
 unfold raiseAttrError;refine z0 (wpAny_mkStr ?_ hm);refine z0 ?_;simp only[newExc,newTuple];refine z0 (ZD ?_ (by size_fits));refine z0 (m:=firstArgMember _ _) (Y5 (a:=Value.none) (by first|rfl|(simp only[firstArgMember];rfl)) ?_);refine ZD ?_ (by size_fits);refine z0 (wpAny_mkText ?_);refine z0 ?_;unfold noteAttr;dsimp only;refine z0 ?_;unfold lacksNameAndObj;dsimp only;refine z0 (Y3 (T:="AttributeError") (b:=true) #[_,Ze _ rfl,rfl] oG ?_);simp only[Bool.not_true,Yu,YO];refine z0 (wpAny_load (Ze _ rfl) ?_);show wpAny _ _ (pure true) _ _ _;refine z9 ?_;simp only[if_true];refine z0 (Y4 ?_);refine z0 (wpAny_typeOf #[_,Ze _ rfl,rfl] ?_);dsimp only;unfold layMembers;refine z0 (wpAny_load (Ze _ rfl) ?_);dsimp only;refine wpAny_update (Ze _ rfl) ?_;unfold raiseNew;refine z0 (wpAny_handled ?_);rw[hh];dsimp only;refine z0 (z9 (wpAny_throw ?_));refine hE _ _ #[_,ZZ _ (Ze _ rfl) rfl,rfl] λb o e=>?_;have e1:(s.heap.push { cls:=Value.type "tuple",data:=Data.seq (List.toArray [Value.str msg s.toks]) }).get? b=some o:=z6 _ e;exact(Zz _ _ (Z2 (Zo (Zh e1)))).trans (z6 _ e1)
variable{a:MU}{o:Obj}
theorem ve:typeLookup (.type "list") "keys" = pure none:=by rw[typeLookup_type,builtinLookup_eq_fast];kernel_rfl
theorem pf:typeLookup (.type "list") "__getattr__" = pure none:=by rw[typeLookup_type,builtinLookup_eq_fast];kernel_rfl
def qe(s:MV)(E:MQ):Prop:=∀a h' t',(∃o,Heap.get? h' a=some o/\o.cls=.type "AttributeError")->(∀b o,s.heap.get? b=some o->h'.get? b=some o)->E (.ref a) { s with heap:=h',toks:=t' }
theorem vt{tk:Tok}{Q:Fin->MV->Prop}(hx:s.heap.get? a=some o)(hc:o.cls=.type "list")(hdd:o.dict=none){its:Array MW}{n:Nat}(hdat:o.data=.seq its n)(hh:A.handled=none)(hE:qe s E) :
  wpAny (model prog w) A (Builtin.«object.__getattribute__» #[[.ref a,.str "keys" tk],[]]) Q E s:=by
 obtain⟨h,g,d,t,os⟩:=s;have hT:(#[h,g,d,t,os]:MV).TypeIs (.ref a) "list":=#[_,hx,hc]
 have f4:=ve
 repeat(any_goals(first|assumption|wp_step))
 rw[hdat];dsimp only;unfold instanceDict
 repeat(any_goals(first|assumption|wp_step))
 rw[hc,hdd];dsimp only;rw[MO (by rfl)]
 repeat(any_goals(first|assumption|wp_step))
 refine Ai ⋯ hh λa h' ho hk=>hE a h' _ ho hk
theorem wU{tk:Tok}{R:Result->MV->Prop}(hx:s.heap.get? a=some o)(hc:o.cls=.type "list")(hdd:o.dict=none){its:Array MW}{n:Nat}(hdat:o.data=.seq its n)(hh:A.handled=none)(hE:qe s λe s'=>R (.error e) s') :
  codeAny (model prog w) A (.call (.builtin "list.__getattribute__") #[[.ref a,.str "keys" tk],[]]) R s:=by
 refine codeAny_call_builtin F.slot_list_getattribute.plain F.entry_list_ga (F.slot_list_getattribute.check _ _ _ _ _ _ _ _ (show s.TypeIs (.ref a) "list" from#[_,hx,hc]) (F.args_list_getattribute_2 _ _) (vt hx hc hdd hdat ?_ hE));exact hh
theorem B3{tk:Tok}{Q:MQ}(hx:s.heap.get? a=some o)(hc:o.cls=.type "list")(hdd:o.dict=none){its:Array MW}{n:Nat}(hdat:o.data=.seq its n)(hh:A.handled=none)(hE:qe s E) :
  wpAny (model prog w) A (getAttrBy (.ref a) (.str "keys" tk) false) Q E s:=by
 have hT:s.TypeIs (.ref a) "list":=#[_,hx,hc]
 have f2:=F.slot_list_getattribute.lookup;have f3:=F.slot_list_getattribute.bind (.ref a);unfold getAttrBy;refine ZF (z0 (wpAny_typeOf hT (z0 (Y5 f2 ?_))));show wpAny _ _ (getAttrByItsOwn _ _ _ _ _ _) _ _ _;unfold getAttrByItsOwn;refine z0 ?_;show wpAny _ _ (pure none) _ _ _;refine z9 (z0 (YE (ZF ?_)));show wpAny _ _ (boundAndCalled _ _ _) _ _ _;unfold boundAndCalled;refine z0 (Y5 f3 ?_);refine wpAny_call (wU hx hc hdd hdat hh ?_);rintro a' h' t' ⟨o',e1,e2⟩ hk;show wpAny _ _ (getattributeRaised _ _ _ _ _ _ _) _ _ _;unfold getattributeRaised;refine z0 (Y3 (T:="AttributeError") (b:=true) #[_,e1,e2] oG ?_);rw[MO rfl];refine z0 ?_;show wpAny _ _ (typeLookup (.type "list") "__getattr__") _ _ _;refine Y5 pf ?_;show wpAny _ _ (throw _) _ _ _;exact wpAny_throw (hE a' h' t' #[o',e1,e2] hk)
theorem Ho{Q:Option MW->MV->Prop}(hx:s.heap.get? a=some o)(hc:o.cls=.type "list")(hdd:o.dict=none){its:Array MW}{n:Nat}(hdat:o.data=.seq its n)(hh:A.handled=none)(hQ:∀h' t',(∀b o,s.heap.get? b=some o->h'.get? b=some o)->Q none { s with heap:=h',toks:=t' }):wpAny (model prog w) A (getAttr? (.ref a) "keys") Q E s:=by unfold getAttr? getAttrBy?;refine z0 (wpAny_mkText (z0 (YE (B3 (s:={ s with toks:=s.toks+1 }) hx hc hdd hdat hh ?_))));rintro a' h' t' ⟨o',e1,e2⟩ hk;dsimp only;refine z0 (Y3 (T:="AttributeError") (b:=true) #[_,e1,e2] oG ?_);rw[MO rfl];exact z9 (hQ h' t' hk)
end
section
variable{prog:MX}{w:MY}{K:Type}[DecidableEq K]{knd:KeyKind prog w K}
theorem ja:entryFor table "dict.update.loop" = some Builtin.«dict.update.loop»:=entryFor_of_tree (by kernel_rfl)
theorem dW:plainId "dict.update.loop" = true:=⋯
structure PairAt(knd:KeyKind prog w K)(h:Heap)(p:MU×List K×MU×MW):Prop where
 tup:∃o n,h.get? p.1=some o/\o.cls=.type "tuple"/\o.data=.seq (List.toArray [.ref p.2.2.1,p.2.2.2]) n
 key:IsTupleKey knd h p.2.1 p.2.2.1
theorem PairAt.keeps{h h':Heap}{p:MU×List K×MU×MW}(x:PairAt knd h p){B:List MU}(hB:∀b∈B,∃o,h.get? b=some o/\o.cls≠.type "tuple")(hk:∀b o,¬b∈B->h.get? b=some o->h'.get? b=some o):PairAt knd h' p:=by
 obtain⟨⟨o,n,e1,e2,e3⟩,o',its,n',f1,f2,f3,f4⟩:=x;refine#[#[o,n,hk _ _ (λz=>?_) e1,e2,e3],o',its,n',hk _ _ (λz=>?_) f1,f2,f3,f4]
 ·obtain⟨q,q1,q2⟩:=hB _ z;rw[e1]at q1;cases q1;exact q2 e2
 ·obtain⟨q,q1,q2⟩:=hB _ z;rw[f1]at q1;cases q1;exact q2 f2
theorem xx(xs:List (List K×MU×MW))(k:List K)(a:MU)(v:MW):(storedH xs k a v).length<=xs.length+1:=by
 unfold storedH;split
 ·rw[Zb];omega
 ·rw[Zk];exact Za _
def pV(xs:List (List K×MU×MW))(ps:List (MU×List K×MU×MW)):List (List K×MU×MW):=ps.foldl (λxs p=>storedH xs p.2.1 p.2.2.1 p.2.2.2) xs
variable{A:MZ}{R:Result->MV->Prop}
theorem Bp{d it l:MU}{items:Array MW}{ps:List (MU×List K×MU×MW)}(hps:items.toList=ps.map λp=>Value.ref p.1)(hu:(tupleKind knd).room A.in1)(hh:A.in1.handled=none)(res:MW)(nl:l≠it)(nld:l≠d)(ndi:d≠it) :
  ∀(k i:Nat) (s:MV) (xs:List (List K×MU×MW)),ps.length-i=k->i<=ps.length->s.heap.IsListIter it l i->s.heap.IsList l items->s.heap.DictOfH (tupleKind knd) d xs->(∀p∈ps,PairAt knd s.heap p)->xs.length+k<=sizeLine ->
  (∀h' t',h'.DictOfH (tupleKind knd) d (pV xs (ps.drop i))->(∀b o,b≠d->b≠it->s.heap.get? b=some o->h'.get? b=some o)->R (.ok (.ret res)) { s with heap:=h',toks:=t' }) ->
  codeAny (model prog w) A (.builtin "dict.update.loop" #[[.ref d,.ref it,rawInt i,res],[]]) R s:=by
 intro k;have hsz:items.size=ps.length:=by rw[<-ZC,hps,Zb]
 induction k with
 |zero =>
  intro i s xs hk hi hit hl hd hp hz hR;have hin:i=ps.length:=∅
  subst hin;refine Yy ja ?_;rw[Ya dW _];show wpAny _ A.in1 (pyNext (.ref it) >>= _) _ _ s;refine z0 (wpAny_pyNext_list_end hh hit hl (by rw[<-hsz];simp) λh' he=>?_);show wpAny _ _ (Builtin.Dict.addKeywords d [] >>= _) _ _ _;refine z0 (z9 (z9 ?_));obtain⟨o,es,ep,q1,q2,q3,q4,q5,q6⟩:=hd;refine hR h' s.toks #[o,es,ep,he _ _ ndi q1,q2,q3,?_,λx hx=>?_,?_] λb o _ hb e=>he b o hb e
  ·rw[List.drop_length];exact q4
  ·rw[List.drop_length]at hx;obtain⟨o',its',n',f1,f2,f3,f4⟩:=q5 x hx;obtain⟨oi,i1,i2,i3⟩:=hit;exact#[o',its',n',he _ _ (λz=>by rw[z,i1]at f1;cases f1;rw[i2]at f2;exact absurd f2 ⋯) f1,f2,f3,f4]
  ·rw[List.drop_length];exact q6
 |succ k ih =>
  intro i s xs hk hi hit hl hd hp hz hR;have hlt:i<ps.length:=∅
  have hx:items[i]?=some (.ref ps[i].1):=by rw[<-YR,hps,ZE,Zj hlt];rfl
  refine Yy ja ?_;rw[Ya dW _];show wpAny _ A.in1 (pyNext (.ref it) >>= _) _ _ s;refine z0 (wpAny_pyNext_list_item hit hl hx λh1 hit1 hs1=>?_);have hitc:∃o,s.heap.get? it=some o/\o.cls≠.type "tuple":=by obtain⟨oi,i1,i2,i3⟩:=hit;exact#[oi,i1,by rw[i2];decide]
  have hp1:∀p∈ps,PairAt knd h1 p:=λp hm=>(hp p hm).keeps (B:=[it]) (λb hb=>by rw[Zd.mp hb];exact hitc) λb o hb e=>hs1.extBut b o (λz=>hb (Zd.mpr z)) e;have hl1:h1.IsList l items:=hl.extBut hs1.extBut nl;have hd1:h1.DictOfH (tupleKind knd) d xs:=by obtain⟨o,es,ep,q1,q2,q3,q4,q5,q6⟩:=hd;refine#[o,es,ep,hs1.extBut _ _ ndi q1,q2,q3,q4,λx hx=>?_,q6];obtain⟨o',its',n',f1,f2,f3,f4⟩:=q5 x hx;obtain⟨oi,i1,i2⟩:=hitc;exact#[o',its',n',hs1.extBut _ _ (λz=>by rw[z,i1]at f1;cases f1;exact i2 f2) f1,f2,f3,f4]
  obtain⟨⟨ot,nt,t1,t2,t3⟩,hkey⟩:=hp1 ps[i] (ZR hlt);have hT:Shared.TypeIs { s with heap:=h1 } (.ref ps[i].1) "tuple":=#[ot,t1,t2]
  dsimp only;refine z0 (ZF ?_);refine z0 (Yi ?_);unfold Builtin.Dict.pairItems;refine z0 (wpAny_typeOf hT ?_);rw[MO ⋯];refine z0 (Z8 t1 t3 (z9 ?_));show wpAny _ _ (holding [.ref ps[i].2.2.1,ps[i].2.2.2] (dictSet d (.ref ps[i].2.2.1) ps[i].2.2.2)) _ _ _;refine ZF (wpAny_dictSet_heap (s:={ s with heap:=h1 }) (hsz:=by omega) hu hkey hd1 λh2 hd2 hs2=>?_);have hdc:∃o,h1.get? d=some o/\o.cls≠.type "tuple":=by obtain⟨o,es,ep,q1,q2,_⟩:=hd1;exact#[o,q1,by rw[q2.1];decide]
  have hit2:h2.IsListIter it l (i+1):=by obtain⟨oi,i1,i2,i3⟩:=hit1;exact#[oi,hs2.extBut _ _ (Z2 ndi) i1,i2,i3]
  have hp2:∀p∈ps,PairAt knd h2 p:=λp hm=>(hp1 p hm).keeps (B:=[d]) (λb hb=>by rw[Zd.mp hb];exact hdc) λb o hb e=>hs2.extBut b o (λz=>hb (Zd.mpr z)) e;refine z9 #[YF dW _,?_];have:=xx xs ps[i].2.1 ps[i].2.2.1 ps[i].2.2.2;refine ih (i+1) { s with heap:=h2,toks:=s.toks+(tupleKind knd).draws ps[i].2.1 } _ ∅ ∅ hit2 (hl1.extBut hs2.extBut nld) hd2 hp2 ∅ λh' t' hd' hk'=>?_;refine hR h' t' ?_ λb o hb1 hb2 e=>hk' b o hb1 hb2 (hs2.extBut b o hb1 (hs1.extBut b o hb2 e));rw[List.drop_eq_getElem_cons hlt];exact hd'
end
section
variable{prog:MX}{w:MY}{K:Type}[DecidableEq K]{knd:KeyKind prog w K}{A:MZ}{E:MQ}{s:MV}
theorem oQ{l:MU}{o:Obj}{items:Array MW}{n:Nat}{ps:List (MU×List K×MU×MW)}{Q:MQ}(hx:s.heap.get? l=some o)(hc:o.cls=.type "list")(hdd:o.dict=none)(hdat:o.data=.seq items n)(hps:items.toList=ps.map λp=>Value.ref p.1)(hp:∀p∈ps,PairAt knd s.heap p)(hsz:ps.length<=sizeLine)(hu:A.units+5<cLine)(hh:A.handled=none)(h:∀h' t',h'.DictOfH (tupleKind knd) s.heap.objs.size (pV [] ps)->(∀b o,s.heap.get? b=some o->h'.get? b=some o)->Q (.ref s.heap.objs.size) { s with heap:=h',toks:=t' }) :
  wpAny (model prog w) A (call (.type "dict") [.ref l]) Q E s:=by
 refine callType_codes (Q₁:=λobj s₁=>obj=.ref s.heap.objs.size/\s₁={ s with heap:=s.heap.push { cls:=.type "dict",data:=.dict #[] } }) F.kt_called_dict (F.kt_typeCall_dict_1 _) F.entry_dict_init (kt_code_dict_new _ #[rfl,rfl]) ?_;rintro obj s₁ ⟨rfl,rfl⟩;have hnew:(s.heap.push { cls:=.type "dict",data:=.dict #[] }).DictOfH (tupleKind knd) s.heap.objs.size []:=Heap.DictOfH.new s.heap;refine#[hnew.typeIs,F.args_dict_init_2 _ _,?_];unfold Builtin.«dict.__init__»;refine z0 ?_;unfold Builtin.Dict.selfAndRest;refine z0 (wpAny_notOrdered_dict hnew.typeIs ?_);show wpAny _ _ (pure (s.heap.objs.size,[Value.ref l])) _ _ _;refine z9 ?_;show wpAny _ _ (Builtin.Dict.updateFrom "dict.__init__" s.heap.objs.size (.ref l) [] .none) _ _ _;have hx1:(s.heap.push { cls:=.type "dict",data:=.dict #[] }).get? l=some o:=z6 _ hx;unfold Builtin.Dict.updateFrom;refine z0 (wpAny_typeOf (T:="list") #[o,hx1,hc] ?_);rw[MO ⋯];refine z0 (Ho (s:={ s with heap:=s.heap.push { cls:=.type "dict",data:=.dict #[] } }) hx1 hc hdd hdat hh λh2 t2 hk2=>?_);rw[MO (show(none:Option MW).isNone=true from rfl)];refine z0 (Y4 ?_);have hx2:h2.get? l=some o:=hk2 _ _ hx1;have hl2:h2.IsList l items:=#[o,hx2,hc,n,hdat]
 obtain⟨od,es,ep,d1,d2,d3,d4,d5,d6⟩:=hnew;have k02:∀b q,s.heap.get? b=some q->h2.get? b=some q:=λb q e=>hk2 _ _ (z6 _ e);have hd2:h2.DictOfH (tupleKind knd) s.heap.objs.size []:=#[od,es,ep,hk2 _ _ d1,d2,d3,d4,λx hx=>(nomatch hx),d6]
 refine z0 (YW (s:={ s with heap:=h2,toks:=t2 }) hl2 ?_);have hp3:∀p∈ps,PairAt knd (h2.push { cls:=.type "list_iterator",data:=.fields (List.toArray [.ref l,.int 0 0]) }) p:=λp hm=>(hp p hm).keeps (B:=[]) (λb hb=>(nomatch hb)) λb q _ e=>z6 _ (k02 _ _ e);obtain⟨od',es',ep',d1',d2',d3',d4',_,d6'⟩:=id hd2;have hd3:(h2.push { cls:=.type "list_iterator",data:=.fields (List.toArray [.ref l,.int 0 0]) }).DictOfH (tupleKind knd) s.heap.objs.size []:=#[od',es',ep',z6 _ d1',d2',d3',d4',λx hx=>(nomatch hx),d6']
 have nsz:∀{b q},h2.get? b=some q->b≠h2.objs.size:=λe=>Zo (Zh e);have nld:l≠s.heap.objs.size:=Zo (Zh hx);refine z9 #[YF dW _,Bp (A:=A.in1) (knd:=knd) (ps:=ps) hps (by show A.units+1+1<cLine;omega) hh .none (nsz hx2) nld (nsz d1') ps.length 0 { s with heap:=h2.push { cls:=.type "list_iterator",data:=.fields (List.toArray [.ref l,.int 0 0]) },toks:=t2 } [] (Nat.sub_zero _) (ZU _) #[_,Ze _ rfl,rfl,rfl] #[o,z6 _ hx2,hc,n,hdat] hd3 hp3 (by show 0+ps.length<=sizeLine;omega) λh' t' hd' hk'=>#[rfl,?_]];refine h h' t' hd' λb q e=>hk' b q (Zo (Zh e)) (nsz (k02 _ _ e)) (z6 _ (k02 _ _ e))
end
end PySem
namespace L2
open PySem PySem.Spec PyProof.Rows PySem.W
def cc(kvs:List (List Key×V))(ps:List (List Key×V)):List (List Key×V):=ps.foldl (λkvs p=>bh kvs p.1 p.2) kvs
def uw(H:Hp)(v:V)(p:List Key×V):Prop:=∃t a,v=.ref t/\H t=some (.tup [.ref a,p.2])/\H a=some (.tup (p.1.map kV))
theorem Ea{H:Hp}:∀{qs:List (List Key×V)} {ps:List (MU×List Key×MU×MW)} {kvs:List (List Key×V)} {xs:List (List Key×MU×MW)},KT H kvs xs->Paired (λq (p:MU×List Key×MU×MW)=>q.1=p.2.1/\H p.2.2.1=some (.tup (q.1.map kV))/\RelV q.2 p.2.2.2) qs ps->KT H (cc kvs qs) (pV xs ps):=by
 intro qs ps kvs xs r h;induction h generalizing kvs xs with
 |nil=>exact r
 |@cons q p _ _ z _ ih =>show KT H (cc (bh kvs q.1 q.2) _) (pV (storedH xs p.2.1 p.2.2.1 p.2.2.2) _);refine ih ?_;rw[<-z.1];exact r.put q.1 z.2.1 z.2.2
theorem Cp(ps:List (List Key×V)):∀kvs:List (List Key×V),(cc kvs ps).length<=kvs.length+ps.length:=by
 induction ps with
 |nil=>intro kvs;exact Za _
 |cons p ps ih =>intro kvs;have h1:=ih (bh kvs p.1 p.2);have h2:=cJ kvs p.1 p.2;show(cc (bh kvs p.1 p.2) ps).length<=_;rw[Zu];omega
section
variable{X:Cx}
theorem yT(hc:X.calm=true)(hu:X.A.units+64<cLine):cU X (.type "dict") (λxs H Q=>∃l vs qs,xs=[.ref l]/\H l=some (.lst vs)/\Paired (uw H) vs qs/\vs.length<=1000/\∀d,H d=none->Q (.ref d) (upd H d (.dT (cc [] qs)))):=by
 intro M9 s σ H xs us Q I r h;obtain⟨l,vs,qs,rfl,hl,hq,lv,q⟩:=h;obtain⟨u,rfl,rx⟩:=bZ r;cases rx;obtain⟨its,rv,⟨o,n',e,c1,c2,d1⟩,hz⟩:=I.list (Nc hl);have gen:∀{vs:List V} {its:MT} {qs:List (List Key×V)},Paired (uw H) vs qs->Vals vs its->∃ps:List (MU×List Key×MU×MW),its=ps.map (λp=>Value.ref p.1)/\(∀p∈ps,PairAt (bj X.prog X.w) s.heap p)/\ps.length=qs.length/\Paired (λq (p:MU×List Key×MU×MW)=>q.1=p.2.1/\H p.2.2.1=some (.tup (q.1.map kV))/\RelV q.2 p.2.2.2) qs ps:=by
  intro vs its qs hp rv;induction hp generalizing its with
  |nil=>cases rv;exact#[[],rfl,λp hp=>(nomatch hp),rfl,.nil]
  |@cons v p _ _ hv _ ih =>
   cases rv with
   |@cons _ u _ us ru rr =>
   obtain⟨ps,i1,i2,i3,i4⟩:=ih rr;obtain⟨t,a,rfl,e1,e2⟩:=hv;cases(show u=Value.ref t from ru);obtain⟨_,its2,r2,o2,g1,g2,n2,g3⟩:=(show ObjOk X.prog X.w H s.heap t (.tup [.ref a,p.2])from I.hok t _ e1)
   cases r2 with
   |cons ra r2 =>
    cases r2 with
    |cons rb r2 =>
     cases r2;cases(show _=Value.ref a from ra);rename_i wv;refine#[(t,p.1,a,wv)::ps,by rw[i1];rfl,λx hx=>?_,by rw[Zu,Zu,i3],.cons #[rfl,e2,rb] i4];rcases Zl.mp hx with rfl|hx
     ·exact#[#[o2,n2,g1,g2,g3],iu I.hok e2]
     ·exact i2 x hx
 obtain⟨ps,p1,p2,p3,p4⟩:=gen hq rv;have lq:=ZH hq;refine oQ (knd:=bj X.prog X.w) (ps:=ps) e c1 c2 d1 (by simpa using p1) p2 (by rw[p3,<-lq];exact Zq lv ⋯) ∅ (I.ok.hd hc) λh' t' hd hk=>?_;have hz0:=Cp qs [];have hnew:H s.heap.objs.size=none:=I.hok.fresh (Za _);obtain⟨q0,es,ep,hq0,h2,h3,h4,_,h5⟩:=hd;have kt:KT (upd H s.heap.objs.size (.dT (cc [] qs))) (cc [] qs) (pV [] ps):=(Ea (H:=H) .nil p4).keeps λb ys eb=>by rw[ah (al eb hnew)];exact eb
 refine#[.ref s.heap.objs.size,_,I.laid (a:=s.heap.objs.size) (o:=.dT (cc [] qs)) (t':=t') hk (Za _) (show ObjOk X.prog X.w _ h' _ (.dT (cc [] qs))from#[Zq hz0 (by rw[<-lq];show 0+vs.length<=sizeLine;exact Zq ∅ (show 1000<=sizeLine by decide)),?_,_,kt,q0,es,ep,hq0,h2,h3,h4,h5]),rfl,q _ hnew];have:=I.big;exact YI.mpr (ZY this)
theorem xE(hc:X.calm=true)(hu:X.A.units+64<cLine):QCall X (.type "dict") (λxs H Q=>∃l vs qs,xs=[.ref l]/\H l=some (.lst vs)/\Paired (uw H) vs qs/\vs.length<=1000/\∀d,H d=none->Q (.ref d) (upd H d (.dT (cc [] qs)))):=#[yT hc hu]
end
theorem sQ{prog:MX}{w:MY}{d:MU}(hd:(d==sysModules)=false)(es:Array DictEntry)(ep:Nat) :
  MeetsIn prog w (Builtin.«dict.__len__» #[[.ref d],[]]) (λ_ R s=>DRaw s.heap d es ep/\R (.ok (.ret (.int es.size s.toks))) { s with toks:=s.toks+1 }) :=
 .of_wp λA R s ⟨hm,h⟩=>by obtain⟨o,ho,hc,hdat⟩:=hm;show wpAny _ _ (dictSize d >>= _) _ _ s;unfold dictSize;refine z0 (z0 (YH ho hdat (z9 ?_)));show wpAny _ _ (Builtin.Dict.pendingCount d >>= _) _ _ s;refine z0 (wpAny_pendingCount_other hd ?_);refine wpAny_ret_mkInt ?_;rw[Nat.add_zero];exact h
theorem uC{prog:MX}{w:MY}{A:MZ}{E:MQ}{s:MV}{d:MU}{es:Array DictEntry}{ep:Nat}{Q:MQ}(hd:(d==sysModules)=false)(hm:DRaw s.heap d es ep)(hfit:(es.size:Int)<2^63)(h:Q (.int es.size (s.toks+1)) { s with toks:=s.toks+1+1 }):wpAny (model prog w) A (call (.builtin "len") [.ref d]) Q E s:=by
 refine Calls.call_function_entry kind_len plain_len entry_len (args_len1 _) ?_;unfold Builtin.«len»;refine z0 (m:=oneArg "len" _) (z9 ?_);refine z0 (m:=callSpecial? (.ref d) (Str.ofString "__len__")) (ZA (name:=Str.ofString "__len__") hm.type F.slot_dict_len
  (call_meetsIn F.slot_dict_len hm.type F.entry_dict_len (F.args_dict_len_1 _) (sQ hd es ep) #[hm,?_]))
 show wpAny _ _ _ _ _ { s with toks:=s.toks+1 };refine z0 (ZF (z9 ?_));refine z0 (YK ?_);show wpAny _ _ (if((es.size:Nat):Int)<0 then _ else _) _ _ _;rw[MN ∅];show wpAny _ _ (if((es.size:Nat):Int)>=2^63 then _ else _) _ _ _;rw[MN ∅];exact z0 (wpAny_mkInt (z9 #[_,rfl,h]))
section
variable{X:Cx}
theorem Bd:cU X (.builtin "len") (λxs H Q=>∃a kvs,xs=[V.ref a]/\Rd H a (.dT kvs)/\Q (.int kvs.length) H):=by intro M9 s σ H xs us Q I r h;obtain⟨a,kvs,rfl,ha,q⟩:=h;obtain⟨u,rfl,ru⟩:=bZ r;cases ru;obtain⟨z,hd,ys,rel,o,es,ep,h1,h2,h3,h4,_,_⟩:=gi I.hok ha;have e:es.size=kvs.length:=(size_of_entries h4).trans (ZH rel).symm;refine uC hd #[o,h1,h2,h3] (by rw[e];rw[sizeLine_eq]at z;omega) ?_;rw[e];exact#[.int kvs.length,H,I.tok _,#[_,rfl],q]
theorem GS:QCall X (.builtin "len") (λxs H Q=>∃a kvs,xs=[V.ref a]/\Rd H a (.dT kvs)/\Q (.int kvs.length) H):=#[Bd]
end
section
variable{prog:MX}{w:MY}{A:MZ}{E:MQ}{s:MV}
def Jt(prog:MX)(w:MY):Option (List Key)->Int
 |none=>0xFCA86420
 |some k=>(tupleKind (bj prog w)).hash k
def OIs(prog:MX)(w:MY)(h:Heap):Option (List Key)->MW->Prop
 |none,v=>v=.none
 |some k,v=>∃a,v=.ref a/\(tupleKind (bj prog w)).is h k a
abbrev Db:=Option (List Key)×MW×MW
def Hq(prog:MX)(w:MY)(x:Db):DictEntry:=#[Jt prog w x.1,x.2.1,x.2.2]
structure ODict(prog:MX)(w:MY)(h:Heap)(d:MU)(o:Obj)(es:Array DictEntry)(ep:Nat)(xs:List Db):Prop where
 ho:h.get? d=some o
 hd:o.data=.dict es ep
 he:es.toList=xs.map (Hq prog w)
 his:∀x∈xs,OIs prog w h x.1 x.2.1
 hn:(xs.map (·.1)).Nodup
end
abbrev OK1:=Option (List Key×MU)
def okD:OK1->Option (List Key)
 |none=>none
 |some p=>some p.1
def okV:OK1->MW
 |none=>.none
 |some p=>.ref p.2
def oE(e:OK1×MU):Db:=(okD e.1,okV e.1,.ref e.2)
def odO(P:MX)(w:MY)(d:MU)(kls:List (OK1×MU)):HO:=.ext λh=>(d==sysModules)=false/\∃(o:Obj) (es:Array DictEntry) (ep:Nat),h.get? d=some o/\o.ExactDict/\o.data=.dict es ep/\es.toList=(kls.map oE).map (Hq P w)
structure OdAt(P:MX)(w:MY)(H:Hp)(d:MU)(kls:List (OK1×MU)):Prop where
 ob:H d=some (odO P w d kls)
 ks:∀e∈kls,∀p,e.1=some p->H p.2=some (.tup (p.1.map kV))
 nd:(kls.map λe=>okD e.1).Nodup
theorem GV{X:Cx}{K:W.Frag}(hK:X.K=K)(hc:X.calm=true):QCall X (.builtin "sum") (λxs H Q=>∃(p:MU) (ns:M5),xs=[.ref p]/\SqL K H p (ns.map V.int)/\Q (.int ns.sum) H):=by
 subst hK;refine#[?_];intro M9 s σ H xs us Q I r h;obtain⟨p,ns,rfl,hS,q⟩:=h;obtain⟨u,rfl,ru⟩:=bZ r;cases ru;obtain⟨its,rv,pl,hz⟩:=I.list hS;obtain⟨ys,e1,e2⟩:=fG (dB rv);have hl:s.heap.IsList p (intItems ys.toArray):=by have:=pl.isList;rw[e1]at this;simpa[intItems]using this
 refine sum_intListG (I.ok.hd hc) hl λh' tk t' hk=>#[.int ns.sum,H,I.kept (t':=tk) hk,#[t',?_],q]
 have e:preSum (numAt ys.toArray) ys.toArray.size=ns.sum:=by rw[preSum_eq,Yd (by simp),e2]
 rw[e]
section
variable{prog:MX}{w:MY}{A:MZ}{E:MQ}{s:MV}{κ:SortKind}{it:Array Keyed}{lt:M7}{N:Nat}
theorem GE(Z:Zc prog w A s κ it lt N)(O:LtOk lt)(h2:2<=N)(h64:N<64){Q:Unit->SortSt->Prop}(h:∀(p:M6) (st':SortSt),POk N p->LS lt p N->p.size=N->arrOf st'=p.map (kas_item it)->failedOf st'=none->Q () st') :
  wpS (model prog w) A E s sortRuns' Q (SortSt.mk' κ ((List.toArray (List.range N)).map (kas_item it)) #[] 7 none) :=
 kas_runs (Q:=λu st' s'=>s'=s/\Q u st') (G:=λp s'=>s'=s/\POk N p/\LS lt p N) h2 h64 (λp st' _ hz ha hf g=>#[g.1,h p st' g.2.1 g.2.2 hz ha hf]) (xT (n:=N) (lt:=lt) Z (λ_ hp hr=>#[rfl,hp,hr.2]) (DD ∅) (Ft O ∅))
end
section
variable{prog:MX}{w:MY}{A:MZ}{E:MQ}{s:MV}{h₀:Heap}{L a kS:MU}{m:MR}{news:MP}{vs ks:MT}
theorem IV{b:Bool}{e e1:Nat}{P:PySem.Fin->MV->Prop}(hl:ks.length=vs.length)(h64:vs.length<64)(h:yQ prog w A b ks vs (λout=>KatFin h₀ L m kS a ks e e1 out (λs3=>P (.done (.ret .none)) s3)) s) :
  wpAny (model prog w) A (ksk_end a b vs.toArray e1 (.ref kS) (List.toArray ks)) P E s:=by
 have hz:vs.length<=4096:=∅
 have lr:(katRev b ks).length=(katRev b vs).length:=by rw[kat_len,kat_len,hl]
 have lv:(katRev b vs).length=vs.length:=kat_len b vs;have step:∀t:Sem PySem.Fin,wpAny (model prog w) A t P E s->wpAny (model prog w) A (if b=true then(do let _ ←rule "list.sort.reverse";t)else t) P E s:=by
  intro t ht;split
  ·exact z0 (Y4 ht)
  ·exact ht
 unfold ksk_end;dsimp only;refine step _ ?_;have er:∀κ,SortSt.mk' κ ((List.toArray (katRev b ks)).zip (List.toArray (katRev b vs))) #[] 7 none=SortSt.mk' κ ((List.toArray (List.range vs.length)).map (kas_item ((List.toArray (katRev b ks)).zip (List.toArray (katRev b vs))))) #[] 7 none:=λκ=>by have e:=kas_range ((List.toArray (katRev b ks)).zip (List.toArray (katRev b vs)));rw[show((List.toArray (katRev b ks)).zip (List.toArray (katRev b vs))).size=vs.length by simp[lr,lv]]at e;rw[e]
 rw[kat_pairs b hl];by_cases n2:vs.toArray.size<2
 ·rw[MO n2,MO n2];have n2':vs.length<2:=by simpa using n2
  refine z0 (z9 ?_);rw[er,StateT.run_pure];refine z0 (z9 ?_);dsimp only;exact yD (kat_snds lr (p:=List.toArray (List.range vs.length)) rfl) (by simpa using hz) ∅ rfl (h.2 n2')
 rw[MN n2,MN n2];have n3:2<=vs.length:=by rw[Zf]at n2;omega
 refine z0 (ZL (h.1 n3) (λκ s0 hg=>?_) λ_ _ x=>x.elim);obtain⟨lt,O,ask,fin⟩:=hg;have Z:Zc prog w A s0 κ ((List.toArray (katRev b ks)).zip (List.toArray (katRev b vs))) lt vs.length:=λi j C hi hj hC=>by have:=ask i j C hi hj hC;rw[kat_ask_eq lr]at this;exact this
 rw[er];refine z0 (ZL (GE (E:=E) (Q:=λ_ st'=>∃p:M6,POk vs.length p/\LS lt p vs.length/\p.size=vs.length/\arrOf st'=p.map (kas_item ((List.toArray (katRev b ks)).zip (List.toArray (katRev b vs))))/\failedOf st'=none) Z O n3 h64 λp st' a1 a2 a3 a4 a5=>#[p,a1,a2,a3,a4,a5]) ?_ λ_ _ x=>x);rintro⟨⟨⟩,st'⟩ s' ⟨rfl,p,a1,a2,a3,a4,a5⟩;dsimp only;exact yD (kat_snds lr a4) (by rw[Zb,ZC,a3];exact hz) ∅ a5 (fin p a1 a2)
theorem GD{b:Bool}{f:MW}{e1:Nat}{P:PySem.Fin->MV->Prop}(hq:s.heap.get? kS=some (seqObj "list" #[] 0))(h64:vs.length<64)(h:KatKeys prog w A h₀ L m kS f (λks e s'=>yQ prog w A b ks vs (λout=>KatFin h₀ L m kS a ks e e1 out (λs3=>P (.done (.ret .none)) s3)) s') vs [] 0 s) :
  wpAny (model prog w) A (ksk_rest a f b vs.toArray e1 (.ref kS)) P E s:=by
 have hz:vs.length<=4096:=∅
 unfold ksk_rest;refine z0 (Y4 ?_);rw[<-Array.forIn_toList];refine z0 (ZL (yC hz (λx qs e s' C hzz hx=>?_) vs [] 0 s (by simp) hq h) (λ_ s' hd=>?_) λ_ _ x=>x)
 ·refine z0 (YE (ZL hx (λk s2 hkk=>?_) λ_ _ hF=>hF.elim));obtain⟨nw,g,Fq,Nq,Uq,cq⟩:=hkk;obtain⟨l1,l2,e0,hg,x1,x2⟩:=Uq.split;rw[e0]at Nq;have ak:=Nq (kS,seqObj "list" (List.toArray qs) e) (Zr _ (.head _));have s1:=ZT s2.heap kS (Obj.mapSeq (·.push k));have ea:(List.toArray qs).push k=List.toArray (qs++[k]):=by simp
  obtain⟨c2,hc2⟩:∃z,(s2.heap.update kS (Obj.mapSeq (·.push k))).get? kS=some (seqObj "list" (List.toArray (qs++[k])) z):=#[_,by rw[<-ea];exact get?_update_seq ak.1 (·.push k)]
  dsimp only;refine z0 (listUpdate_at ak.1 rfl (z9 #[rfl,k,c2,hc2,cq _ c2 (kas_fr Fq s1 ak.2.1 ak.2.2) (by rw[hg];exact news_set Nq x1 x2 s1 hc2)]) (by rw[Zf];exact fO ∅) (Zq (Nat.le_of_eq (Array.size_push ..)) (by rw[Zf];exact Yn (fO ∅))))
 ·obtain⟨qs,e,hq',hl,fin⟩:=hd;exact z0 (listItems_at hq' rfl (IV hl h64 fin))
theorem Ez{b:Bool}{f:MW}{n:Nat}{P:PySem.Fin->MV->Prop}(F:Fr h₀ L s.heap m)(N:News h₀ L s.heap news)(ho:s.heap.get? a=some (seqObj "list" vs.toArray n))(haL:a≠L)(ha0:h₀.get? a=none)(hna:∀ p∈news,p.1≠a)(h64:vs.length<64)(h:∀ kS e1 h',Fr h₀ L h' m->News h₀ L h' ((kS,seqObj "list" #[] 0)::(a,seqObj "list" #[] e1)::news)->a<kS->(∀ q∈news,q.1<kS) ->
   KatKeys prog w A h₀ L m kS f (λks e s'=>yQ prog w A b ks vs (λout=>KatFin h₀ L m kS a ks e e1 out (λs3=>P (.done (.ret .none)) s3)) s') vs [] 0 { s with heap:=h' }) :
  wpAny (model prog w) A (ksk_tree a f b) P E s:=by
 have hz:vs.length<=4096:=∅
 have la:a<s.heap.objs.size:=Zh ho;have s1:=ZT s.heap a (Obj.mapSeq λ_=>(#[]:Array MW));have F1:=kas_fr F s1 haL ha0;have N1:=kas_news N s1 hna;obtain⟨e1,ho1⟩:∃z,(s.heap.update a (Obj.mapSeq λ_=>(#[]:Array MW))).get? a=some (seqObj "list" #[] z):=#[_,get?_update_seq ho λ_=>#[]]
 have zk:((s.heap.update a (Obj.mapSeq λ_=>(#[]:Array MW))).push (seqObj "tuple" vs.toArray 0)).objs.size=s.heap.objs.size+1:=by rw[size_push',Heap.size_update]
 have lk:L<((s.heap.update a (Obj.mapSeq λ_=>(#[]:Array MW))).push (seqObj "tuple" vs.toArray 0)).objs.size:=(F1.push _).ns.lt;unfold ksk_tree;refine z0 (listItems_at ho rfl (z0 (listUpdate_at ho rfl (z0 (seqEpoch_at ho1 rfl (z0 (wpAny_newTuple (z0 (wpAny_newList (ZF ?_) (ZU _))) (fO hz))))) (by rw[Zf];exact fO hz) (ZU _))));refine GD (s:={ s with heap:=((s.heap.update a (Obj.mapSeq λ_=>(#[]:Array MW))).push (seqObj "tuple" vs.toArray 0)).push (seqObj "list" #[] 0) }) (kS:=((s.heap.update a (Obj.mapSeq λ_=>(#[]:Array MW))).push (seqObj "tuple" vs.toArray 0)).objs.size)
  (Ze _ rfl) h64 (h _ e1 _ ((F1.push _).push _) (λp hp=>?_) (by rw[zk];exact Nat.lt_succ_of_lt la) λq hq=>by rw[zk];exact Nat.lt_succ_of_lt (Zh (N q hq).1))
 rcases Zl.mp hp with rfl|hp
 ·exact#[Ze _ rfl,ZY lk,Yj (Zq F.above (Y6 lk))]
 ·rcases Zl.mp hp with rfl|hp
  ·exact#[z6 _ (z6 _ ho1),haL,ha0]
  ·exact#[z6 _ (z6 _ (N1 p hp).1),(N1 p hp).2]
theorem GC{b:Bool}{f:MW}{kw:List (Str×MW)}{Q:MQ}(F:Fr h₀ L s.heap m)(N:News h₀ L s.heap news)(h64:vs.length<64)(ha2:∀ x,argsOk "list.sort" #[[.ref x],kw])(ht:∀ x,Builtin.«list.sort» #[[.ref x],kw]=ksk_tree x f b)(h:∀ D kS e1 h',Fr h₀ L h' m->News h₀ L h' ((kS,seqObj "list" #[] 0)::(D,seqObj "list" #[] e1)::news)->D<kS->(∀ q∈news,q.1<D) ->
   KatKeys prog w A.in1 h₀ L m kS f (λks e s'=>yQ prog w A.in1 b ks vs (λout=>KatFin h₀ L m kS D ks e e1 out (λs4=>Q (.ref D) s4)) s') vs [] 0 { s with heap:=h' }) :
  wpAny (model prog w) A (do let l ←newList vs;let _ ←holding [l] (call (.builtin "list.sort") [l] kw);ret l) (λfin s'=>∃v,fin=.done (.ret v)/\Q v s') E s:=by
 have hz:vs.length<=4096:=∅
 have hL:L<s.heap.objs.size:=F.ns.lt;have hoL:(s.heap.push (seqObj "list" vs.toArray 0)).get? s.heap.objs.size=some (seqObj "list" vs.toArray 0):=Ze _ rfl;refine z0 (wpAny_newList ?_ (fO hz));refine z0 (ZF (wpAny_call_entry_kw slot_list_sort #[_,hoL,rfl] entry_list_sort ?body (ha2 _)))
 case body =>
  show wpAny (model prog w) A.in1 (Builtin.«list.sort» #[[.ref s.heap.objs.size],kw]) _ _ _;rw[ht];refine Ez (s:={ s with heap:=s.heap.push (seqObj "list" vs.toArray 0) }) (F.kept λb o q=>z6 _ q) (N.grown λb o q=>z6 _ q) hoL (ZY hL) (Yj (Zq F.above (Y6 hL))) (λp hp=>Zo (Zh (N p hp).1)) h64 λkS e1 h' F' N' l0 l1=>?_;refine kat_keys_mono (h _ kS e1 h' F' N' l0 λq hq=>Zh (N q hq).1) λks e s' _ hd=>#[λn2=>ZL (hd.1 n2) (λκ s2 hk=>?_) λ_ _ x=>x,λn2=>(hd.2 n2).mono λs4 hq=>#[_,rfl,z9 #[_,rfl,hq]]]
  obtain⟨lt,O,ask,fin⟩:=hk;exact#[lt,O,ask,λp a1 a2=>(fin p a1 a2).mono λs4 hq=>#[_,rfl,z9 #[_,rfl,hq]]]
end
inductive IsF(a b:Str)(x:V)(R:V->Prop):Prop
 |mk (z:Str) (h0:x=.str z) (h1:a.length+z.length+b.length<=sizeLine) (q:R (.str (a++z++b))):IsF a b x R
inductive rStrA(xs:List V)(H:Hp)(Q:VK):Prop
 |int (i:Int) (h0:xs=[.int i]) (h1:i.natAbs<10^4300) (q:Q (.str (J2 i)) H):rStrA xs H Q
 |str (z:Str) (h0:xs=[.str z]) (q:Q (.str z) H):rStrA xs H Q
section
variable{X:Cx}{K:W.Frag}
inductive rNeNil(K:W.Frag)(x y:V)(H:Hp)(Q:VK):Prop
 |mk (a b:MU) (xs:List V) (h0:x=.ref a) (h1:y=.ref b) (ha:SqL K H a xs) (hb:SqL K H b []) (q:Q (.bl (!xs.isEmpty)) H):rNeNil K x y H Q
end
structure MkFnX(P:MX)(w:MY)(K:W.Frag)(mg:MR)(base:Heap)(k:Nat)(C:MU)(x:Str)(ps:List Str)(sp:Sp):Prop where
 cl:Cls K C
 mgC:mg x=some (.ref C)
 ex:∃f fd,FnOk P w K mg base (CXr P w) k f fd ps sp/\Mk K C f/\Binds K fd ps []
open PySem PySem.Spec PyProof.Rows PySem.W Builtin Builtin.Str
structure QE1(X:Cx)(e:M8)(t:TE):Prop where
 h:∀(M9:MP) (s:MV) (σ:St) (H:Hp) (Q:VK),1<=s.toks->Inv X M9 σ H s->t σ H Q->wpAny (model X.prog X.w) X.A (eval e X.env) (EP X M9 σ Q) X.xe s
structure QT1(X:Cx)(e:M8)(t:TT):Prop where
 h:∀(M9:MP) (s:MV) (σ:St) (H:Hp) (Q:Bool->Hp->Prop),Inv X M9 σ H s->t σ H Q->wpAny (model X.prog X.w) X.A (isTrue e X.env (eval e X.env)) (λb s'=>1<=s'.toks/\TP X M9 σ Q b s') X.xe s
structure QS1(X:Cx)(st:Stmt)(t:TS):Prop where
 h:∀(M9:MP) (s:MV) (σ:St) (H:Hp) (D:Ends),Inv X M9 σ H s->t D σ H->wpAny (model X.prog X.w) X.A (exec st X.env) (λf s'=>1<=s'.toks/\SP X M9 D f s') X.xe s
structure QB1(X:Cx)(st:List Stmt)(t:TS):Prop where
 h:∀(M9:MP) (s:MV) (σ:St) (H:Hp) (D:Ends),1<=s.toks->Inv X M9 σ H s->t D σ H->wpAny (model X.prog X.w) X.A (execs st X.env) (SP X M9 D) X.xe s
theorem A8(u v:MW):argsOk "max" #[[u],[(Str.ofString "default",v)]]:=by
 unfold argsOk
 kernel_rfl
theorem rN:bootBuiltins "max" = some (.builtin "max"):=⋯
section
variable{prog:MX}{w:MY}{A:MZ}{R:Result->MV->Prop}{I S:MU}{fp wr:List MU}{n:Nat}{P:Nat->MW->Prop}{St:Nat->Heap->Prop}{dv:MW}
theorem BX(W:Walks prog w A.in1 I fp wr n P St)(gt:M7)(cmp:CmpOf prog w A.in1 .Gt P gt)(nS:S∉fp):∀(k j:Nat) (s:MV) (b0:MW) (c:Nat),n=j+1+k->St (j+1) s.heap->P (argBest gt j) b0 ->
  s.heap.get? S=some { cls:=.type "list",dict:=none,data:=.seq (List.toArray [b0,b0]) c,slots:=#[] } ->
  (∀v h1 tk,P (argBest gt (n-1)) v->(∀b o,b∉wr->b≠S->s.heap.get? b=some o->h1.get? b=some o)->R (.ok (.ret v)) { s with heap:=h1,toks:=tk }) ->
  codeAny (model prog w) A (.builtin "max.loop" #[[.ref I,.none,.ref S],[(Str.ofString "default",dv)]]) R s:=by
 have nw:S∉wr:=λz=>nS (W.sub _ z);have nm:(toString "max"++toString ".loop":String)="max.loop":=⋯
 intro k;induction k with
 |zero =>intro j s b0 c en st pb gS fin;subst en;refine Yy YL ?_;rw[Ya ZI _];show wpAny _ A.in1 (seqItems? (.ref S) >>= _) _ _ s;refine z0 (Z8 gS rfl ?_);show wpAny _ A.in1 (tryCatch (pyNext (.ref I)) _ >>= _) _ _ s;refine z0 (Yi (W.done s _ _ st λh1 tk kp=>?_));show wpAny _ A.in1 (updateSeq S (λ_=>#[]) >>= _) _ _ _;refine z0 (wpAny_updateSeq (kp S _ nw gS) rfl (z0 (YK (z9 ?_))));exact fin b0 _ tk pb λb o bw bS e=>(Zz _ _ (Z2 bS)).trans (kp b o bw e)
 |succ k ih =>
  intro j s b0 c en st pb gS fin;refine Yy YL ?_;rw[Ya ZI _];show wpAny _ A.in1 (seqItems? (.ref S) >>= _) _ _ s;refine z0 (Z8 gS rfl ?_);show wpAny _ A.in1 (tryCatch (pyNext (.ref I)) _ >>= _) _ _ s;refine z0 (Yi (W.item (j+1) s _ _ ∅ st λv h1 tk pv st1 kp=>?_));have gS1:=kp S _ nw gS;show wpAny _ A.in1 (tryCatch (holding [v,v] (richCompare .Gt v b0 >>= _)) _ >>= _) _ _ _;refine z0 (Yi (ZF (z0 (cmp (j+1) (argBest gt j) v b0 _ _ _ pv pb ?_))));refine z0 (ZF (ZX ?_));refine z0 (YK (z9 ?_));have ab:argBest gt (j+1)=if gt (j+1) (argBest gt j)then j+1 else argBest gt j:=rfl
  cases hb:gt (j+1) (argBest gt j)with
  |true =>
   rw[hb,MO rfl]at ab;simp only[if_true];refine z0 (wpAny_updateSeq gS1 rfl (z0 (YK ?_)));rw[nm];refine z9 #[YF ZI _,ih (j+1) _ v _ ∅ (W.frame _ _ _ st1 λb bf o e=>?_) (by rw[ab];exact pv) (ZZ _ gS1 rfl) λv1 h2 tk2 pv1 kp2=>?_]
   ·exact(Zz _ _ (λz:S=b=>nS (by rw[z];exact bf))).trans e
   ·exact fin v1 h2 tk2 pv1 λb o bw bS e=>kp2 b o bw bS ((Zz _ _ (Z2 bS)).trans (kp b o bw e))
  |false =>rw[hb,MN Zg]at ab;simp only[Yu,YO];refine z0 (YK ?_);rw[nm];refine z9 #[YF ZI _,ih (j+1) _ b0 c ∅ st1 (by rw[ab];exact pb) gS1 λv1 h2 tk2 pv1 kp2=>?_];exact fin v1 h2 tk2 pv1 λb o bw bS e=>kp2 b o bw bS (kp b o bw e)
theorem zB(W:Walks prog w A.in1 I fp wr n P St)(gt:M7)(cmp:CmpOf prog w A.in1 .Gt P gt)(nS:S∉fp){s:MV}{c:Nat}(st:St 0 s.heap)(gS:s.heap.get? S=some { cls:=.type "list",dict:=none,data:=.seq #[] c,slots:=#[] })(fin:∀v h1 tk,(n=0/\v=dv)\/(0<n/\P (argBest gt (n-1)) v)->(∀b o,b∉wr->b≠S->s.heap.get? b=some o->h1.get? b=some o)->R (.ok (.ret v)) { s with heap:=h1,toks:=tk }) :
  codeAny (model prog w) A (.builtin "max.loop" #[[.ref I,.none,.ref S],[(Str.ofString "default",dv)]]) R s:=by
 have nw:S∉wr:=λz=>nS (W.sub _ z);have nm:(toString "max"++toString ".loop":String)="max.loop":=⋯
 refine Yy YL ?_;rw[Ya ZI _];show wpAny _ A.in1 (seqItems? (.ref S) >>= _) _ _ s;refine z0 (Z8 gS rfl ?_);show wpAny _ A.in1 (tryCatch (pyNext (.ref I)) _ >>= _) _ _ s;cases hn:n with
 |zero =>subst hn;refine z0 (Yi (W.done s _ _ st λh1 tk kp=>?_));refine z0 (Y4 (z9 ?_));exact fin dv _ tk (.inl #[rfl,rfl]) λb o bw _ e=>kp b o bw e
 |succ m =>
  refine z0 (Yi (W.item 0 s _ _ ∅ st λv h1 tk pv st1 kp=>?_));have gS1:=kp S _ nw gS;show wpAny _ A.in1 (updateSeq S (λ_=>(List.toArray [v,v])) >>= _) _ _ _;refine z0 (wpAny_updateSeq gS1 rfl ?_);rw[nm];refine z9 #[YF ZI _,BX W gt cmp nS m 0 _ v _ ∅ (W.frame _ _ _ st1 λb bf o e=>?_) pv (ZZ _ gS1 rfl) λv1 h2 tk2 pv1 kp2=>?_]
  ·exact(Zz _ _ (λz:S=b=>nS (by rw[z];exact bf))).trans e
  ·exact fin v1 h2 tk2 (.inr #[∅,pv1]) λb o bw bS e=>kp2 b o bw bS ((Zz _ _ (Z2 bS)).trans (kp b o bw e))
end
section
variable{prog:MX}{w:MY}{A:MZ}{E:MQ}{s:MV}{l:MU}{xs:Array (Int×Tok)}{dv:MW}
theorem BW{Q:MQ}(hh:A.handled=none)(hl:s.heap.IsList l (intItems xs))(h:∀v h1 tk,(xs.size=0/\v=dv)\/(0<xs.size/\(intItems xs)[argBest (λi j=>decide (numAt xs i>numAt xs j)) (xs.size-1)]?=some v)->(∀b o,s.heap.get? b=some o->h1.get? b=some o)->Q v { s with heap:=h1,toks:=tk }) :
  wpAny (model prog w) A (call (.builtin "max") [.ref l] [(Str.ofString "default",dv)]) Q E s:=by
 have nm:(toString "max"++toString ".loop":String)="max.loop":=⋯
 have sz0:(intItems xs).size=xs.size:=by simp[intItems]
 refine kmk_tree PySem.F.kind_max PySem.F.plain_max PySem.F.entry_max (A8 _ _) ?_;show wpAny _ A.in1 (Builtins.bindParams "max" ["key","default"] 0 #[[],[(Str.ofString "default",dv)]] >>= _) _ _ s;refine z0 (Y5 (show Builtins.bindParams "max" ["key","default"] 0 #[[],[(Str.ofString "default",dv)]]=pure [none,some dv]from rfl) ?_);refine z0 (z9 (z0 (iter_intList hl λs2 e st hfp hlI=>?_)));subst e;refine z0 (ZD ?_);have W:=Walks.list (prog:=prog) (w:=w) (A:=A.in1) hh _ l hlI (intItems xs);rw[nm];refine z9 #[YF ZI _,zB W _ (CmpOf.ints_gt (numAt xs) λ_ _=>intItems_at) (λm=>YD _ (hfp _ m)) (W.frame _ _ _ st λb _ o e=>z6 _ e) (Ze _ rfl) λv h1 tk hv kp=>?_];rw[sz0]at hv;refine h v h1 tk hv (old_kept λb o hb e=>kp b o hb (Zo (Zh e)) (z6 _ e))
end
section
variable{X:Cx}{e:M8}{te:TE}{p pos kpos:Pos}{kd:Nat}{np:Pos}
def JS(K:W.Frag)(t:TA):TE:=λσ H Q=>t σ H λvs H1=>∃(a:MU) (ns:M5),vs=[.ref a]/\SqL K H1 a (ns.map V.int)/\(ns=[]->Q .non H1)/\∀M,M∈ns->(∀x∈ns,x<=M)->Q (.int M) H1
theorem Ii{ta:TA}(hc:X.calm=true)(hm:X.mg "max" = none)(ha:QA X [e] ta)(hg:Gl X "max":=by rfl)(hn:aO e=true:=by rfl) :
  QE X (.Call (.Name "max" p) [e] [#[some "default",.Constant .none kd np,kpos]] pos) (JS X.K ta):=by
 refine#[?_];intro M9 s σ H0 Q I h;refine YA (eC I hg hm rN ?_);have h1:=aS (es:=[]) (env:=X.env) hn;refine PyProof.Rows.callWith_kw (thn (ha.h pos M9 s σ H0 _ I h) λus s1 hz9=>?_) (he:=by rw[h1];rfl) (hplain:=by rw[h1];rfl) (hall:=rfl) (hkw:=rfl);obtain⟨vs,H1,I1,r1,q1⟩:=hz9;obtain⟨l,ns,rfl,hS,qn,q⟩:=q1;obtain⟨u,rfl,ru⟩:=bZ r1;cases ru;have hk:PK X [#[some "default",.Constant .none kd np,kpos]] (fh (tC .non) ge):=mD (aW (X:=X)).h vG;refine thn (hk pos M9 s1 σ H1 (λzs H2=>zs=[.non]/\H2=H1) I1 #[rfl,rfl]) λws s2 hz9=>?_;obtain⟨zs,H2,I2,rz,hz,hH⟩:=hz9;subst hz;subst hH;obtain⟨u,rfl,ru⟩:=bZ rz;cases ru;obtain⟨its,rv,pl,_⟩:=I2.list hS;obtain⟨ys,e1,e2⟩:=fG (dB rv);have hl:s2.heap.IsList l (intItems ys.toArray):=by have:=pl.isList;rw[e1]at this;simpa[intItems]using this
 refine BW (I2.ok.hd hc) hl λv h' tk hv hk=>?_;have num:∀j (hj:j<ys.length),numAt ys.toArray j=(ys[j]).1:=λj hj=>by simp[numAt,hj]
 rw[Zf]at hv;rcases hv with⟨hz,rfl⟩|⟨hp,hv⟩
 ·refine#[.non,H2,I2.kept (t':=tk) hk,rfl,qn ?_];rw[e2,Y1 hz];rfl
 ·obtain⟨b1,b2⟩:=argBest_gt (numAt ys.toArray) (ys.length-1);obtain⟨t,rfl⟩:=intItems_at hv;generalize argBest (λi j=>decide (numAt ys.toArray i>numAt ys.toArray j)) (ys.length-1)=k at b1 b2 ⊢;have hk':k<ys.length:=∅
  refine#[.int (numAt ys.toArray k),H2,I2.kept (t':=tk) hk,#[t,rfl],q _ ?_ λx hx=>?_]
  ·rw[e2,num k hk'];exact Zm.mpr #[ys[k],ZR hk',rfl]
  ·rw[e2]at hx;obtain⟨y,hy,rfl⟩:=Zm.mp hx;obtain⟨j,hj,rfl⟩:=List.getElem_of_mem hy;have:=b2 j ∅;rw[num j hj]at this;exact this
end
section
variable{X:Cx}{M9:MP}{σ:St}{H:Hp}{s:MV}{h':Heap}
theorem xu{b:Bool}{kw:List (Str×MW)}{ks:List ZKey}{xs:List V}{f l:MU}{sp:Sp}{Q:VK}(I:Inv X M9 σ H s)(src:De X s l xs)(h64:xs.length<64)(hl:ks.length=xs.length)(hB:∀k∈ks,∃ns,k=.t ns/\ns≠[])(hs1:argsOk "sorted" #[[.ref l],kw])(hs2:∀x,argsOk "list.sort" #[[.ref x],kw])(hs3:∀x,Builtin.«list.sort» #[[.ref x],kw]=ksk_tree x (.ref f) b)(F:∀l,yP (wX X l) M9 σ f sp)(spec:∀(i:Nat) (v:V) (key:ZKey) (H':Hp),xs[i]?=some v->ks[i]?=some key->Same H H'->∀R:VK,(∀kv H'',Same H' H''->key.at H'' kv->R kv H'')->sp [v] H' R E0)(q:∀(p:M6) (H2:Hp) (D:MU),POk xs.length p->LS (λi j=>HT.lexLt ((katRev b (ks.map ZKey.nums)).getD i []) ((katRev b (ks.map ZKey.nums)).getD j [])) p xs.length->Same H H2->H2 D=none->Q (.ref D) (upd H2 D (.lst (katRev b (p.toList.map λi=>(katRev b xs).getD i .non))))) :
  wpAny (model X.prog X.w) X.A (call (.builtin "sorted") [.ref l] kw) (EP X M9 σ Q) X.xe s:=by
 have hz:xs.length<=4096:=∅
 refine call_function_entry_kw kind_sorted plain_sorted entry_sorted hs1 ?_;unfold Builtin.«sorted»;refine z0 (m:=checkCount "sorted" 1 1 _) (z9 (z0 (src _ λh0 tk its kp rv=>?_)));have I0:Inv X M9 σ H { s with heap:=h0,toks:=tk }:=I.kept (t':=tk) kp;obtain⟨m,F0⟩:=I0.fr;have li:its.length=xs.length:=rv.length.symm;refine GC (vs:=its) (b:=b) F0 (mZ X.base h0 X.env.locals) ∅ hs2 hs3 λD kS e1 h1 F1 N1 hDk hD=>?_;have nD:=N1 (D,seqObj "list" #[] e1) (.tail _ (.head _));have nK:=N1 (kS,seqObj "list" #[] 0) (.head _);have hds:h0.get? D=none:=by
  cases g:h0.get? D with
  |none=>rfl
  |some o=>exact absurd (hD (D,o) (hO g nD.2.1 nD.2.2)) (YD _)
 have hks:h0.get? kS=none:=by
  cases g:h0.get? kS with
  |none=>rfl
  |some o=>exact absurd (Nat.lt_trans hDk (hD (kS,o) (hO g nK.2.1 nK.2.2))) (YD _)
 have xk:=I0.exOk hks nK.2.1 nK.2.2;have xd:=I0.exOk hds nD.2.1 nD.2.2;have hlx:∀b∈[kS,D],ExOk X b:=λb' hb=>by
  simp only[Zl,ZB,Yg]at hb;rcases hb with rfl|rfl
  ·exact xk
  ·exact xd
 have fpk:=I0.fpW (l:=[kS,D]) (by simp) xk hks;have fpd:=I0.fpW (l:=[kS,D]) (by simp) xd hds;have mv0:∀b u,b≠X.env.locals->b∉([]:List MU)->h0.get? b=some u->h1.get? b=some u:=λb u hL _ g=>by
  cases qb:X.base.get? b with
  |none=>exact(N1 (b,u) (.tail _ (.tail _ (hO g hL qb)))).1
  |some o =>have e':=I0.bk b o qb;rw[g]at e';cases e';exact F1.keep b u qb
 have I1:Inv X M9 σ H { s with heap:=h1,toks:=tk }:=Inv.movedF (ch:=[]) (s:={ s with heap:=h0,toks:=tk }) (t':=tk) I0 (λb hb=>absurd hb (by simp)) mv0 #[m,F0.ns,F1.ns];have I2:=I1.widen hlx;have hkd:kS≠D:=ZY hDk;refine pR (X:=wX X [kS,D]) (H1:=H) (D:=D) (e1:=e1) (ks:=ks) (xs:=xs) (its:=its) hkd rv hl (F _) spec (λas us e2 H' s' S la=>?_) its [] [] 0 H { s with heap:=h1,toks:=tk } #[I2,Same.refl H,fpk,fpd,nK.2.2,nD.2.2,nK.1,nD.1,F1.ns,.nil,λi a k h=>by simp at h] (by simp) (by simpa using li);have hN:its.length=xs.length:=li;have lu:us.length=xs.length:=by rw[<-S.vals.length,la]
 have rvR:Vals (katRev b xs) (katRev b its):=wB b rv;have lR:(katRev b xs).length=xs.length:=kat_len b xs;have gk:∀i,i<xs.length->∃(v:V) (u:MW) (k:ZKey),RelV v u/\(katRev b us).getD i Value.none=u/\k∈ks/\(katRev b (ks.map ZKey.nums)).getD i []=k.nums/\k.at H' v:=λi hi=>by
  obtain⟨j,hj,e1⟩:∃j,j<xs.length/\∀{α:Type} (l:List α),l.length=xs.length->(katRev b l)[i]?=l[j]?:=by
   cases b with
   |false=>exact#[i,hi,λl _=>rfl]
   | true=>exact#[xs.length - 1 - i,∅,λl hl'=>by
     show l.reverse[i]?=_;rw[List.getElem?_reverse ∅,hl']]
  have h1:as[j]?=some (as[j]'∅):=Zj ∅;have h2:ks[j]?=some (ks[j]'∅):=Zj ∅;obtain⟨u,gu,ru⟩:=S.vals.get h1;refine#[_,u,_,ru,?_,ZR (show j<ks.length by omega),?_,S.keys j _ _ h1 h2]
  ·rw[y7,e1 us lu,gu];rfl
  ·rw[y7,e1 (ks.map ZKey.nums) (by rw[Zb,hl]),ZE,h2];rfl
 have fin:∀p:M6,POk xs.length p->p.size=xs.length/\LS (λi j=>HT.lexLt ((katRev b (ks.map ZKey.nums)).getD i []) ((katRev b (ks.map ZKey.nums)).getD j [])) p xs.length ->
   KatFin X.base X.env.locals m kS D us e2 e1 (katRev b (p.toList.map λi=>(katRev b its).getD i Value.none)) (λs4=>EP X M9 σ Q (.ref D) s4) s':=λp hp hs=>by
  refine KatFin.intro (news:=(kS,seqObj "list" (List.toArray us) e2)::ic X.base s'.heap X.env.locals kS) S.fr (iG S.hk S.fk.2.1 S.bk) (.head kC) λh3 c F3 N3=>?_;have mv3:=iF (λb' o qb=>S.I.bk b' o qb) F3 N3;have hd3:h3.get? D=some (seqObj "list" #[] e1):=mv3 D _ S.fd.2.1 (λzz=>hkd (Zd.mp zz).symm) S.hd;refine KasFin.intro (news:=(D,seqObj "list" #[] e1)::ic X.base h3 X.env.locals D) (s:={ s' with heap:=h3 }) F3 (iG hd3 S.fd.2.1 S.bd) (.head kC) λh4 c4 F4 N4=>?_;have mv4:=iF (λb' o qb=>F3.keep b' o qb) F4 N4;have hch:∀b∈[kS,D],bG (wX X [kS,D]) M9 H' b:=λb' hb=>by
   simp only[Zl,ZB,Yg]at hb;rcases hb with rfl|rfl
   ·exact S.fk
   ·exact S.fd
  have mv:∀b u,b≠X.env.locals->b∉[kS,D]->s'.heap.get? b=some u->h4.get? b=some u:=λb' u hL hx g=>mv4 b' u hL (λzz=>hx (by rw[Zd.mp zz];simp)) (mv3 b' u hL (λzz=>hx (by rw[Zd.mp zz];simp)) g);have pl:∀i∈p.toList,i<xs.length:=λi hi=>by have:=(hp.mem_iff).mp (Array.mem_toList_iff.mp hi);simpa using this
  have vals:∀(w:List Nat),(∀i∈w,i<xs.length)->Vals (w.map λi=>(katRev b xs).getD i .non) (w.map λi=>(katRev b its).getD i Value.none):=λw=>by
   induction w with
   |nil=>intro _;exact .nil
   |cons i w ih =>intro hw;have hi:=hw i Ys;have hx:(katRev b xs)[i]?=some ((katRev b xs)[i]'∅):=Zj ∅;obtain⟨u,gu,ru⟩:=rvR.get hx;refine .cons ?_ (ih λj hj=>hw j (ZG _ hj));show RelV ((katRev b xs).getD i V.non) ((katRev b its).getD i Value.none);rw[y7,y7,hx,gu];exact ru
  have lp:p.toList.length=xs.length:=by have:=hs.1;simpa using this
  have new:ObjOk X.prog X.w (upd H' D (.lst (katRev b (p.toList.map λi=>(katRev b xs).getD i .non)))) h4 D (.lst (katRev b (p.toList.map λi=>(katRev b xs).getD i .non))):=#[by rw[kat_len,Zb,lp];exact fO ∅,_,c4,wB b (vals _ pl),(N4 _ (.head _)).1]
  have I4:=Inv.tookF (X:=wX X [kS,D]) (ch:=[kS,D]) (a:=D) (o:=.lst (katRev b (p.toList.map λi=>(katRev b xs).getD i .non))) (t':=s'.toks) S.I (by simp) hch mv #[m,S.ns,F4.ns] new;exact#[.ref D,_,I4.narrow I.ok (λb' hb=>(hlx b' hb).old),rfl,q p H' D hp hs.2 S.sm S.fd.1]
 have go:∀κ:SortKind,(∀(i j:Nat) (C:Bool->MV->Prop),i<xs.length->j<xs.length->C (HT.lexLt ((katRev b (ks.map ZKey.nums)).getD i []) ((katRev b (ks.map ZKey.nums)).getD j [])) s'->kas_ask X.prog X.w X.A.in1.in1 κ (katRev b us) i j C s') ->
   ZGo X.prog X.w X.A.in1.in1 b us its (λout=>KatFin X.base X.env.locals m kS D us e2 e1 out (λs4=>EP X M9 σ Q (.ref D) s4)) κ s':=λκ hask=>by
  refine#[_,Hn (katRev b (ks.map ZKey.nums)),?_,?_]
  ·rw[hN];exact hask
  ·rw[hN];exact λp hp hs=>fin p hp #[by have:=hp.size_eq;simpa using this,hs]
 refine#[λn2=>?_,λn2=>?_]
 rotate_left
 ·have:=fin (List.toArray (List.range its.length)) (by rw[hN];exact Array.Perm.refl _) #[by simpa using hN,λi j h1 h2=>∅];rw[List.toList_toArray]at this;exact this
 have tups:∀(vs:List V) (ws:MT) (n:Nat),Vals vs ws->n+vs.length=ks.length->(∀(i:Nat) (v:V) (k:ZKey),vs[i]?=some v->ks[n+i]?=some k->k.at H' v)->∃fs:MT,KatTups s'.heap ws fs/\fs.length=ws.length/\∀v∈fs,∃i t,v=.int i t:=λvs=>by
  induction vs with
  |nil =>intro ws n hv _ _;cases hv;exact#[[],KatTups.nil,rfl,λv h=>nomatch h]
  |cons v vs ih =>
   intro ws n hv hl' h;cases hv with
   |cons rv1 hv =>
    rw[Zu]at hl';have hkn:ks[n]?=some (ks[n]'∅):=Zj ∅;obtain⟨ns,en,ne⟩:=hB _ (ZR (show n<ks.length by omega));rw[en]at hkn;obtain⟨a,rfl,ea⟩:=h 0 v _ rfl (by rw[Nat.add_zero];exact hkn);cases rv1;obtain⟨ia,ra,pa,za⟩:=S.I.tuple (Nb (K:=X.K) ea);obtain⟨oa,eo,ca,n1,da⟩:=id pa;obtain⟨x,t,ia',rfl⟩:∃x t r,ia=.int x t::r:=by
     cases dB ra with
     |nil=>exact absurd rfl ne
     |cons x t r=>exact#[x,t,_,rfl]
    obtain⟨fs,f1,f2,f3⟩:=ih _ (n+1) hv ∅ (λi w k' h1 h2=>h (i+1) w k' h1 (by rw[show n+(i+1)=n+1+i by omega];exact h2));refine#[.int x t::fs,KatTups.cons eo ca da rfl f1,by rw[Zu,Zu,f2],λv hv=>?_];rcases Zl.mp hv with rfl|hv
    ·exact#[_,_,rfl]
    ·exact f3 v hv
 obtain⟨fs,t1,t2,t3⟩:=tups as us 0 S.vals ∅ (λi v k h1 h2=>S.keys i v k h1 (by rw[Nat.zero_add]at h2;exact h2));refine kat_kind (T:=.type "int") t1 ∅ (λv hv=>?_) rfl (go _ λi j C hi hj hC=>?_)
 ·obtain⟨i,t,rfl⟩:=t3 v hv;exact .now
 ·obtain⟨v,u,k1,ru,eu,m1,en,at1⟩:=gk i hi;obtain⟨v2,u2,k2,ru2,eu2,m2,en2,at2⟩:=gk j hj;obtain⟨n1,rfl,_⟩:=hB _ m1;obtain⟨n2,rfl,_⟩:=hB _ m2;obtain⟨a1,rfl,ha1⟩:=at1;obtain⟨a2,rfl,ha2⟩:=at2;cases ru;cases ru2;obtain⟨ia,ra,pa,za⟩:=S.I.tuple (Nb (K:=X.K) ha1);obtain⟨ib,rb,pb,zb⟩:=S.I.tuple (Nb (K:=X.K) ha2);obtain⟨oa,eoa,ca,q1,da⟩:=id pa;obtain⟨ob,eob,cb,q2,db⟩:=id pb;unfold kas_ask;rw[eu,eu2];rw[en,en2]at hC;exact kat_lt eoa da eob db (wP _ _ _ _ 0 (dB ra) (dB rb) (by rw[Zf,Zf,<-ra.length,<-rb.length,Zb,Zb]) hC)
end
def GF(ks:List ZKey):Prop:=False\/∀k∈ks,∃ns,k=.t ns/\ns≠[]
def IL(sp:Hp->List V->Hp->VK->Prop)(sm:Hp->Hp->Prop)(end':Hp->Prop)(H:Hp)(xs:List V)(ks:List ZKey)(Q:VK):Prop :=
 xs.length<64/\ks.length=xs.length/\GF ks /\
 (∀(i:Nat) (v:V) (key:ZKey) (H':Hp),xs[i]?=some v->ks[i]?=some key->sm H H'->∀R:VK,(∀kv H'',Same H' H''->key.at H'' kv->R kv H'')->sp H' [v] H' R) /\
 ∀(p:M6) (H2:Hp) (D:MU),POk xs.length p->LS (λi j=>HT.lexLt ((ks.map ZKey.nums).getD i []) ((ks.map ZKey.nums).getD j [])) p xs.length->sm H H2->end' H2->H2 D=none->Q (.ref D) (upd H2 D (.lst (p.toList.map λi=>xs.getD i .non)))
def Gw(P:MU)(q:Str)(lpos:Pos)(sp:Sp)(ta:TA):TE:=λσ H0 Q=>ta σ H0 λvs H=>∃(l:MU) (xs:List V) (ks:List ZKey),vs=[.ref l]/\SrcH H l xs/\bc q P lpos H/\IL (λ_ vs H Q=>sp vs H Q E0) (SameT P) (bc q P lpos) H xs ks Q
section
variable{X:Cx}{c P:MU}{M9:MP}{σ:St}
theorem Ee{k:Nat}{x:Str}{sp:Sp}{e body:M8}{params:Arguments}{scope:Scope}{ta:TA}{p lpos kpos pos:Pos}(hc:X.calm=true)(hm:X.mg "sorted" = none)(hcode:X.env.code=.ref c)(C:CodeHd X.base c P)(B:Blt X.base X.mg)(F:LamOk X.prog X.w X.K X.mg X.base k (X.env.qual++"<lambda>") body scope x sp)(hr:Room (k+3) X.A)(ha:QA X [e] ta)(hbd:∀(pm ct:MW) (c':MU) (s:MV) (u:MW),BindsTo s (mC (X.env.qual++"<lambda>") params body scope [] pm c' ct) #[[u],[]] [(x,u)]:=by intros;exact .of_eq rfl)(hge:X.env.globals=mainGlobals:=by rfl)(hdef:defaultsOf params X.env=([],[]):=by rfl)(hcl:closureFor scope X.env=pure []:=by rfl)(hg:Gl X "sorted":=by rfl)(hn:aO e=true:=by rfl) :
  QE X (.Call (.Name "sorted" p) [e] [#[some "key",.Lambda params body scope lpos,kpos]] pos) (Gw P (X.env.qual++"<lambda>") lpos sp ta):=by
 refine#[?_];intro M9 s σ H0 Q I h;obtain⟨N,S,len,hbody⟩:=F.ex;refine YA (eC I hg hm PyProof.Rows.boot_sorted ?_);have h1:=aS (es:=[]) (env:=X.env) hn;refine PyProof.Rows.callWith_kw (thn (ha.h pos M9 s σ H0 _ I h) λus s1 hz9=>?_) (he:=by rw[h1];rfl) (hplain:=by rw[h1];rfl) (hall:=rfl) (hkw:=rfl);obtain⟨vs,H1,I1,r1,q1⟩:=hz9;obtain⟨l,xs,ks,rfl,hH,tab,h64,hl,hne,spec,q⟩:=q1;have hz:xs.length<=4096:=∅
 obtain⟨u,rfl,ru⟩:=bZ r1;cases ru;have hk:PK X [#[some "key",.Lambda params body scope lpos,kpos]] (fh (tY [] X P params body scope lpos) ge):=mD (yk hcode hge C B hdef hcl) vG;refine thn (hk pos M9 s1 σ H1 (λzs H2=>∃f,zs=[.ref f]/\qg X P (X.env.qual++"<lambda>") lpos params body scope [] H1 f H2) I1 (vd tab λf H2 mk=>#[f,rfl,mk])) λws s2 hz9=>?_;obtain⟨zs,H2,I2,rz,f,e1,mk⟩:=hz9;subst e1;obtain⟨u,rfl,ru⟩:=bZ rz;cases ru;obtain⟨c',ct,sT,lt,hf,hc',nf,nc⟩:=mk;have F1:FnOk X.prog X.w X.K X.mg X.base CX0 (k+1) f (mC (X.env.qual++"<lambda>") params body scope [] ((X.mg "__name__").getD .none) c' ct) [x] _:=Hm (params:=params) (pm:=(X.mg "__name__").getD .none) (ct:=ct) (c':=c') S len λA outer s H vs Q E hr' hs=>let⟨t,t1,t2⟩:=hbody f c' A outer s H vs Q E hr' hs;#[t,t1.h,t2]
 refine xu (b:=false) I2 (Gr hc I2 (hH.moved tab sT) hz) h64 hl (hne.elim False.elim id) (ksk_s1 _ _) (λx=>ksk_l1 _ _) (λx=>ksk_t1 f x) (Gm F1 (λs u _=>hbd _ _ _ s u) (hr.mono ∅ |>.in1 |>.in1)) (λi v key H' g1 g2 g3 R hR=>#[g3 _ _ hf,g3 _ _ hc',spec i v key H' g1 g2 (sT.trans (.of g3)) R hR]) λp H3 D a1 a2 a3 a4=>q p H3 D a1 a2 (sT.trans (.of a3)) ?_ a4;obtain⟨ps',e1,e2,e3⟩:=lt;exact#[ps',a3 _ _ e1,e2,e3.imp id fun⟨c'',z1,z2⟩=>#[c'',z1,a3 _ _ z2]]
end
section
open PySem.SeqAt
open PySem.AutoSeq1 (wpAny_loadPart')
open PySem.MeetsSeq PySem.MeetsSeq2 PySem.MeetsSeq3
theorem tL(l b:MU)(x1 x2 y1 y2:MW)(n n2:Nat)(dd dd2:Option MU)(sl sl2:Array (Option MW))(e2 r2:Bool) :
  Meets (Builtin.«tuple.__gt__» #[[.ref l,.ref b],[]])
   (λA R s=>s.heap.get? l=some { cls:=.type "tuple",dict:=dd,data:=.seq (List.toArray [x1,x2]) n,slots:=sl }/\s.heap.get? b=some { cls:=.type "tuple",dict:=dd2,data:=.seq (List.toArray [y1,y2]) n2,slots:=sl2 } /\
    EqAt A.in1 s x1 y1 true/\EqAt A.in1 s x2 y2 e2/\(∀prog w E Q,Q (.bool r2) s->wpAny (model prog w) A.in1 (richCompare .Gt x2 y2) Q E s) /\
    R (.ok (.ret (.bool (if e2 then false else r2)))) s) :=
 .of_wp λprog w A R s h=>by
  obtain⟨hp,g,d,tk,os⟩:=s;obtain⟨hl,hb,q1,q2,c2,h⟩:=h;have f2:=AutoSeq1.sub_tuple_tuple
  wp_walk using wpAny_loadPart' hl,wpAny_loadPart' hb,wpAny_forIn_list _ (λrest b s'=>b.1=none/\s'=#[hp,g,d,tk,os]/\(rest=[(x1,y1),(x2,y2)]\/rest=[(x2,y2)]\/(rest=[]/\e2=true))) _
  case turn =>
   rintro⟨y,x⟩ rest b s' ⟨hb',rfl,hz⟩;rcases hz with hz|hz|⟨hz,_⟩
   ·injection hz with hyx hrest;injection hyx with hy hx;subst hy hx hrest;refine z0 (q1 prog w _ _ ?_)
    wp_walk
    exact#[rfl,rfl,.inr (.inl rfl)]
   ·injection hz with hyx hrest;injection hyx with hy hx;subst hy hx hrest;refine z0 (q2 prog w _ _ ?_);cases e2 with
    |true =>
     wp_walk
     exact#[rfl,rfl,.inr (.inr #[rfl,rfl])]
    |false =>
     have hri:=c2 prog w
     wp_walk using hri
     exact#[_,rfl,by simpa using h]
   ·cases hz
  case fin =>
   rintro⟨b1,b2⟩ s' ⟨hb',rfl,hz⟩;simp only at hb';subst hb';rcases hz with hz|hz|⟨_,he2⟩
   ·cases hz
   ·cases hz
   ·subst he2
    wp_walk
    exact#[_,rfl,by simpa[Builtin.Tuple.tupleCompareSizes]using h]
  case h =>exact#[rfl,rfl,.inl rfl]
end
section
variable{X:Cx}{M9:MP}{σ:St}{H:Hp}{s:MV}
theorem A9(u v v2:MW):argsOk "max" #[[u],[(Str.ofString "key",v),(Str.ofString "default",v2)]]:=by
 unfold argsOk
 kernel_rfl
theorem G5{prog:MX}{w:MY}{A:MZ}{Q:MQ}{E:MQ}{a b:MU}{c i j:Int}(I:Inv X M9 σ H s)(hu:A.units<cLine)(ha:H a=some (.tup [.int c,.int i]))(hb:H b=some (.tup [.int c,.int j]))(q:Q (.bool (decide (i>j))) s):wpAny (model prog w) A (richCompare .Gt (.ref a) (.ref b)) Q E s:=by
 obtain⟨ia,ra,pa,za⟩:=I.tuple (Nb (K:=X.K) ha);obtain⟨ib,rb,pb,zb⟩:=I.tuple (Nb (K:=X.K) hb);obtain⟨u1,u2,rfl,⟨t1,rfl⟩,⟨t2,rfl⟩⟩:=kP ra;obtain⟨u1,u2,rfl,⟨t3,rfl⟩,⟨t4,rfl⟩⟩:=kP rb;obtain⟨⟨cls,dd,data,sl⟩,ho,hcl,n,hd⟩:=id pa;obtain⟨⟨cls2,dd2,data2,sl2⟩,ho2,hcl2,n2,hd2⟩:=id pb;simp only at hcl hd hcl2 hd2;subst hcl hd hcl2 hd2;refine richCompare_meets_room (op:=.Gt) #[_,ho,rfl] #[_,ho2,rfl] PySem.F.slot_tuple_gt PySem.F.entry_tuple_gt (PySem.F.args_tuple_gt_2 _ _) (tL a b _ _ _ _ n n2 dd dd2 sl sl2 (i==j) (decide (i>j))) #[ho,ho2,?_,SeqAt.EqAt.int_int i t2 j t4,λprog w E Q z=>(PyProof.Rows.gt_int z:wpAny (model prog w) _ (compareOp .Gt (.int i t2) (.int j t4)) Q E s),?_] hu
 ·have:=SeqAt.EqAt.int_int (A:=A.in1) (s:=s) c t1 c t3;rw[beq_self_eq_true]at this;exact this
 ·refine#[(λx=>nomatch x),?_];by_cases e:i=j
  ·subst e;rw[beq_self_eq_true,MO rfl];rw[decide_eq_false ∅]at q;exact q
  ·rw[show(i==j)=false by simpa using e,MN Zg];exact q
def oK(A:MZ)(X:Cx)(M9:MP)(σ:St)(f:MU)(sp:Sp):Prop:=∀(s:MV) (H:Hp) (u:MW) (v:V) (Q:VK),Inv X M9 σ H s->RelV v u->sp [v] H Q E0->codeAny (model X.prog X.w) A (.call (.ref f) #[[u],[]]) (CR CX0 X.stack X.prog X.w H s Q E0) s
theorem pd{ch:List MU}{h':Heap}{t':Nat}(I:Inv X M9 σ H s)(hch:∀b∈ch,bG X M9 H b)(k:∀b u,b∉ch->s.heap.get? b=some u->h'.get? b=some u):Inv X M9 σ H { s with heap:=h',toks:=t' }:=by obtain⟨m,hn,_⟩:=I.loc;refine I.movedF hch (λb u _ hc e=>k b u hc e) #[m,hn,?_];obtain⟨o,es,ep,ho,rr⟩:=hn;exact#[o,es,ep,k _ _ (λz=>(hch _ z).2.1 rfl) ho,rr]
structure MS(X:Cx)(M9:MP)(σ:St)(H1:Hp)(S I l:MU)(j:Nat)(us:Array MW)(H:Hp)(s:MV):Prop where
 iv:Inv X M9 σ H s
 sm:Same H1 H
 fS:bG X M9 H S
 fI:bG X M9 H I
 hS:∃e,s.heap.get? S=some (seqObj "list" us e)
 hI:s.heap.IsListIter I l j
theorem MS.next{H1:Hp}{S I l:MU}{j:Nat}{us:Array MW}{xs:List V}{x:V}{Q:Option MW->MV->Prop}{E:MQ}(M:MS X M9 σ H1 S I l j us H s)(nSI:S≠I)(hl:H1 l=some (.lst xs))(hlI:l≠I)(hd:X.A.handled=none)(hj:xs[j]?=some x)(go:∀u s',RelV x u->MS X M9 σ H1 S I l (j+1) us H s'->Q (some u) s'):wpAny (model X.prog X.w) X.A.in1 (pyNext (.ref I)) Q E s:=by
 obtain⟨i1,sm,fS,fI,⟨e,hS⟩,hI⟩:=id M;obtain⟨z,its,n,rv,hlen,el⟩:=i1.lstM (sm _ _ hl);have hlt:j<xs.length:=(Zi.mp hj).1;have W:=Walks.list (prog:=X.prog) (w:=X.w) (A:=X.A.in1) hd I l hlI its.toArray;refine W.item j _ _ _ (by rw[Zf];omega) #[hI,#[_,el,rfl,_,rfl]] λv h' tk' hP hst' hk'=>?_;obtain⟨u',gu,ru⟩:=rv.get hj;have hv:its[j]?=some v:=by simpa using hP
 rw[hv]at gu;cases gu;exact go v _ ru #[pd (ch:=[I]) i1 (λb hb=>by rw[Zd.mp hb];exact fI) hk',sm,fS,fI,#[e,hk' S _ (by simpa using nSI) hS],hst'.1]
theorem MS.out{H1:Hp}{S I l:MU}{us:Array MW}{xs:List V}{Q:Option MW->MV->Prop}{E:MQ}(M:MS X M9 σ H1 S I l xs.length us H s)(nSI:S≠I)(hl:H1 l=some (.lst xs))(hlI:l≠I)(hd:X.A.handled=none)(go:∀s',(∃e,s'.heap.get? S=some (seqObj "list" us e))->Inv X M9 σ H s'->Q none s'):wpAny (model X.prog X.w) X.A.in1 (pyNext (.ref I)) Q E s:=by obtain⟨i1,sm,fS,fI,⟨e,hS⟩,hI⟩:=id M;obtain⟨z,its,n,rv,hlen,el⟩:=i1.lstM (sm _ _ hl);have W:=Walks.list (prog:=X.prog) (w:=X.w) (A:=X.A.in1) hd I l hlI its.toArray;refine W.done _ _ _ #[by rw[Zf,<-hlen];exact hI,#[_,el,rfl,_,rfl]] λh' tk' hk'=>?_;exact go _ #[e,hk' S _ (by simpa using nSI) hS] (pd (ch:=[I]) i1 (λb hb=>by rw[Zd.mp hb];exact fI) hk')
theorem MS.key{H1:Hp}{S I l f:MU}{j:Nat}{us:Array MW}{x:V}{u:MW}{sp:Sp}{c k:Int}{Q:MQ}{E:MQ}(M:MS X M9 σ H1 S I l j us H s)(ru:RelV x u)(F:oK X.A.in1 X M9 σ f sp)(spec:∀H',Same H1 H'->∀R:VK,(∀a H'',Same H' H''->H'' a=some (.tup [.int c,.int k])->R (.ref a) H'')->sp [x] H' R E0)(go:∀a H' s',Same H H'->H' a=some (.tup [.int c,.int k])->MS X M9 σ H1 S I l j us H' s'->Q (.ref a) s'):wpAny (model X.prog X.w) X.A.in1 (call (.ref f) [u]) Q E s:=by
 obtain⟨i1,sm,fS,fI,⟨e,hS⟩,⟨oI,hoI,hoc,hod⟩⟩:=id M;refine wpAny_call (codeAny_mono (F _ H u x (λv H''=>Same H H''/\∃a,v=.ref a/\H'' a=some (.tup [.int c,.int k])) i1 ru (spec H sm _ λa H'' s' q=>#[s',a,rfl,q])) λres s' hq=>?_);cases res with
 |error e=>exact False.elim hq
 |ok fl =>
  cases fl with
  |next=>exact False.elim hq
  |brk=>exact False.elim hq
  |cont=>exact False.elim hq
  |ret uv =>obtain⟨v,H'',os,bare,un,hok,rvv,sm2,a,rfl,ea⟩:=hq;cases rvv;have nstk:∀{b:MU},bG X M9 H b->b∉frs X.stack:=fun{b} fo z=>(Zl.mp (i1.stkSub b z)).elim fo.2.1 fo.2.2.1;refine go a H'' s' sm2 ea #[i1.call' os un hok bare (λb z=>absurd z (by simp)),sm.trans sm2,#[un.free S _ hS fS.1 (by simp),fS.2],#[un.free I _ hoI fI.1 (by simp),fI.2],#[e,un.keep S _ hS fS.1 (nstk fS) (by simp)],#[oI,un.keep I _ hoI fI.1 (nstk fI) (by simp),hoc,hod]]
theorem MS.put{H1:Hp}{S I l:MU}{j:Nat}{us ws:Array MW}{Q:Unit->MV->Prop}{E:MQ}(M:MS X M9 σ H1 S I l j us H s)(nSI:S≠I)(hz:us.size<=sizeLine)(hz':ws.size<=sizeLine)(go:∀s',MS X M9 σ H1 S I l j ws H s'->Q () s'):wpAny (model X.prog X.w) X.A.in1 (updateSeq S λ_=>ws) Q E s:=by
 obtain⟨i1,sm,fS,fI,⟨e,hS⟩,⟨oI,hoI,hoc,hod⟩⟩:=id M;refine wpAny_updateSeq (hz:=hz) (_hz':=Yn hz') hS rfl (go _ #[pd (t':=s.toks) (ch:=[S]) i1 (λb hb=>by rw[Zd.mp hb];exact fS) (λb o hb e=>?_),sm,fS,fI,#[_,get?_update_seq hS λ_=>ws],#[oI,?_,hoc,hod]])
 ·exact(Zz _ _ (λz=>hb (Zd.mpr z.symm))).trans e
 ·exact(Zz _ _ nSI).trans hoI
theorem BZ{H1:Hp}{S I l f:MU}{xs:List V}{sp:Sp}{c:Int}{kb:Nat->Int}{R:Result->MV->Prop}(nSI:S≠I)(hl:H1 l=some (.lst xs))(hlI:l≠I)(hd:X.A.handled=none)(hu:X.A.in1.units<cLine)(F:oK X.A.in1 X M9 σ f sp)(spec:∀(i:Nat) (v:V) (H':Hp),xs[i]?=some v->Same H1 H'->∀R:VK,(∀a H'',Same H' H''->H'' a=some (.tup [.int c,.int (kb i)])->R (.ref a) H'')->sp [v] H' R E0)(fin:∀(i:Nat) (v:V) (u:MW) (H':Hp) (s':MV),xs[i]?=some v->RelV v u->(∀k,k<xs.length->kb k<=kb i)->Inv X M9 σ H' s'->Same H1 H'->R (.ok (.ret u)) s') :
  ∀(r j i:Nat) (v:V) (u:MW) (a:MU) (H:Hp) (s:MV),xs.length=j+r->i<j->xs[i]?=some v->RelV v u->(∀k,k<j->kb k<=kb i)->H a=some (.tup [.int c,.int (kb i)])->MS X M9 σ H1 S I l j (List.toArray [u,.ref a]) H s ->
   codeAny (model X.prog X.w) X.A (.builtin "max.loop" #[[.ref I,.ref f,.ref S],[(Str.ofString "default",.none)]]) R s:=by
 have nm:(toString "max"++toString ".loop":String)="max.loop":=⋯
 intro r;induction r with
 |zero =>
  intro j i v u a H s hr hi hv rv hb ea M;obtain rfl:j=xs.length:=∅
  obtain⟨e,hS⟩:=id M.hS;refine Yy YL ?_;rw[Ya ZI _];show wpAny _ X.A.in1 (seqItems? (.ref S) >>= _) _ _ s;refine z0 (Z8 hS rfl ?_);show wpAny _ X.A.in1 (tryCatch (pyNext (.ref I)) _ >>= _) _ _ s;refine z0 (Yi (M.out nSI hl hlI hd λs' ⟨e',hS'⟩ I'=>?_));show wpAny _ X.A.in1 (updateSeq S (λ_=>#[]) >>= _) _ _ _;refine z0 (wpAny_updateSeq hS' rfl (z0 (YK (z9 ?_))));exact fin i v u H _ hv rv hb (pd (t':=s'.toks) (ch:=[S]) I' (λb hb=>by rw[Zd.mp hb];exact M.fS) (λb o hb e=>(Zz _ _ (λz=>hb (Zd.mpr z.symm))).trans e)) M.sm
 |succ r ih =>
  intro j i v u a H s hr hi hv rv hb ea M;obtain⟨e,hS⟩:=id M.hS;have hj:xs[j]?=some (xs[j]'∅):=Zj ∅;generalize xs[j]'∅=x at hj;refine Yy YL ?_;rw[Ya ZI _];show wpAny _ X.A.in1 (seqItems? (.ref S) >>= _) _ _ s;refine z0 (Z8 hS rfl ?_);show wpAny _ X.A.in1 (tryCatch (pyNext (.ref I)) _ >>= _) _ _ s;refine z0 (Yi (M.next nSI hl hlI hd hj λu2 s2 ru2 M2=>?_));show wpAny _ X.A.in1 (tryCatch (holding [u2] (call (.ref f) [u2])) _ >>= _) _ _ _;refine z0 (Yi (ZF (M2.key ru2 F (λH'=>spec j x H' hj) λa2 H3 s3 sm3 ea2 M3=>?_)));show wpAny _ X.A.in1 (tryCatch (holding [u2,.ref a2] (richCompare .Gt (.ref a2) (.ref a) >>= _)) _ >>= _) _ _ _;refine z0 (Yi (ZF (z0 (G5 M3.iv hu ea2 (sm3 _ _ ea) ?_))));refine z0 (ZF (ZX ?_));refine z0 (YK (z9 ?_));by_cases hb':kb j>kb i
  ·simp only[hb',decide_true,if_true];refine z0 (M3.put nSI (sz rfl) (sz rfl) λs4 M4=>z0 (YK ?_));rw[nm];refine z9 #[YF ZI _,ih (j+1) j x u2 a2 H3 _ ∅ (Nat.lt_succ_self _) hj ru2 (λk hk=>?_) ea2 M4];by_cases e:k=j
   ·rw[e];exact Int.le_refl _
   ·have:=hb k ∅;omega
  ·simp only[hb',decide_false,Yu,YO];refine z0 (YK ?_);rw[nm];refine z9 #[YF ZI _,ih (j+1) i v u a H3 _ ∅ ∅ hv rv (λk hk=>?_) (sm3 _ _ ea) M3];by_cases e:k=j
   ·rw[e];omega
   ·exact hb k ∅
theorem zC{H1:Hp}{S I l f:MU}{xs:List V}{sp:Sp}{c:Int}{kb:Nat->Int}{R:Result->MV->Prop}(nSI:S≠I)(hl:H1 l=some (.lst xs))(hlI:l≠I)(hd:X.A.handled=none)(hu:X.A.in1.units<cLine)(F:oK X.A.in1 X M9 σ f sp)(spec:∀(i:Nat) (v:V) (H':Hp),xs[i]?=some v->Same H1 H'->∀R:VK,(∀a H'',Same H' H''->H'' a=some (.tup [.int c,.int (kb i)])->R (.ref a) H'')->sp [v] H' R E0)(fin:∀(i:Nat) (v:V) (u:MW) (H':Hp) (s':MV),xs[i]?=some v->RelV v u->(∀k,k<xs.length->kb k<=kb i)->Inv X M9 σ H' s'->Same H1 H'->R (.ok (.ret u)) s')(fin0:xs=[]->∀(H':Hp) (s':MV),Inv X M9 σ H' s'->Same H1 H'->R (.ok (.ret .none)) s')(M:MS X M9 σ H1 S I l 0 #[] H s) :
   codeAny (model X.prog X.w) X.A (.builtin "max.loop" #[[.ref I,.ref f,.ref S],[(Str.ofString "default",.none)]]) R s:=by
 have nm:(toString "max"++toString ".loop":String)="max.loop":=⋯
 obtain⟨e,hS⟩:=id M.hS;refine Yy YL ?_;rw[Ya ZI _];show wpAny _ X.A.in1 (seqItems? (.ref S) >>= _) _ _ s;refine z0 (Z8 hS rfl ?_);show wpAny _ X.A.in1 (tryCatch (pyNext (.ref I)) _ >>= _) _ _ s;cases xs with
 |nil =>refine z0 (Yi (MS.out (xs:=[]) M nSI hl hlI hd λs' _ I'=>?_));exact z0 (Y4 (z9 (fin0 rfl H s' I' M.sm)))
 |cons x xs =>
  refine z0 (Yi (M.next nSI hl hlI hd rfl λu2 s2 ru2 M2=>?_));show wpAny _ X.A.in1 (tryCatch (holding [u2] (call (.ref f) [u2])) _ >>= _) _ _ _;refine z0 (Yi (ZF (M2.key ru2 F (λH'=>spec 0 x H' rfl) λa2 H3 s3 sm3 ea2 M3=>?_)));show wpAny _ X.A.in1 (updateSeq S (λ_=>(List.toArray [u2,.ref a2])) >>= _) _ _ _;refine z0 (M3.put nSI (sz rfl) (sz rfl) λs4 M4=>?_);rw[nm];refine z9 #[YF ZI _,BZ nSI hl hlI hd hu F spec fin xs.length 1 0 x u2 a2 H3 _ (by rw[Zu];omega) (Nat.zero_lt_one) rfl ru2 (λk hk=>?_) ea2 M4];obtain rfl:k=0:=∅
  exact Int.le_refl _
theorem BY{H1:Hp}{l f:MU}{xs:List V}{sp:Sp}{c:Int}{kb:Nat->Int}{Q:VK}(I0:Inv X M9 σ H1 s)(hl:H1 l=some (.lst xs))(hd:X.A.handled=none)(hu:X.A.in1.units<cLine)(F:∀l,oK X.A.in1 (wX X l) M9 σ f sp)(spec:∀(i:Nat) (v:V) (H':Hp),xs[i]?=some v->Same H1 H'->∀R:VK,(∀a H'',Same H' H''->H'' a=some (.tup [.int c,.int (kb i)])->R (.ref a) H'')->sp [v] H' R E0)(qn:xs=[]->∀H',Same H1 H'->Q .non H')(q:∀(i:Nat) (v:V) (H':Hp),xs[i]?=some v->(∀k,k<xs.length->kb k<=kb i)->Same H1 H'->Q v H') :
  wpAny (model X.prog X.w) X.A (call (.builtin "max") [.ref l] [(Str.ofString "key",.ref f),(Str.ofString "default",.none)]) (EP X M9 σ Q) X.xe s:=by
 have nm:(toString "max"++toString ".loop":String)="max.loop":=⋯
 obtain⟨z,its,n,rv,hlen,el⟩:=I0.lstM hl;refine kmk_tree PySem.F.kind_max PySem.F.plain_max PySem.F.entry_max (A9 _ _ _) ?_;show wpAny _ X.A.in1 (Builtins.bindParams "max" ["key","default"] 0 #[[],[(Str.ofString "key",.ref f),(Str.ofString "default",.none)]] >>= _) _ _ s;refine z0 (Y5 (show Builtins.bindParams "max" ["key","default"] 0 #[[],[(Str.ofString "key",.ref f),(Str.ofString "default",.none)]]=pure [some (.ref f),some .none]from rfl) ?_);refine z0 (z9 ?_);refine z0 (YW #[_,el,rfl,_,rfl] ?_);refine z0 (wpAny_newList ?_ (ZU _));rw[nm];have hll:l<s.heap.objs.size:=Zh el;have hS:(s.heap.push { cls:=.type "list_iterator",data:=.fields (List.toArray [.ref l,.int 0 0]) }).objs.size=s.heap.objs.size+1:=size_push' ..;have gI:((s.heap.push { cls:=.type "list_iterator",data:=.fields (List.toArray [.ref l,.int 0 0]) }).push (seqObj "list" #[] 0)).get? s.heap.objs.size=some { cls:=.type "list_iterator",data:=.fields (List.toArray [.ref l,.int 0 0]) }:=z6 _ (Ze _ rfl);have gS:((s.heap.push { cls:=.type "list_iterator",data:=.fields (List.toArray [.ref l,.int 0 0]) }).push (seqObj "list" #[] 0)).get? (s.heap.push { cls:=.type "list_iterator",data:=.fields (List.toArray [.ref l,.int 0 0]) }).objs.size=some (seqObj "list" #[] 0):=Ze _ rfl;have hk:∀b o,s.heap.get? b=some o->((s.heap.push { cls:=.type "list_iterator",data:=.fields (List.toArray [.ref l,.int 0 0]) }).push (seqObj "list" #[] 0)).get? b=some o:=λb o e=>z6 _ (z6 _ e);generalize(s.heap.push { cls:=.type "list_iterator",data:=.fields (List.toArray [.ref l,.int 0 0]) }).push (seqObj "list" #[] 0)=h2 at gI gS hk ⊢;generalize(s.heap.push { cls:=.type "list_iterator",data:=.fields (List.toArray [.ref l,.int 0 0]) }).objs.size=S at hS gS ⊢;have nI:s.heap.get? s.heap.objs.size=none:=Yj (Za _);have nS:s.heap.get? S=none:=Yj ∅;have lt:=I0.lt;have bI:X.base.get? s.heap.objs.size=none:=Yj (Zq (Zq I0.ok.bsz I0.ok.above) (Y6 lt));have bS:X.base.get? S=none:=Yj (Zq (Zq I0.ok.bsz I0.ok.above) ∅);have xI:=I0.exOk nI (ZY lt) bI;have xS:=I0.exOk nS ∅ bS;have hlx:∀b∈[S,s.heap.objs.size],ExOk X b:=λb hb=>by
  simp only[Zl,ZB,Yg]at hb;rcases hb with rfl|rfl
  ·exact xS
  ·exact xI
 have fS:=I0.fpW (l:=[S,s.heap.objs.size]) (by simp) xS nS;have fI:=I0.fpW (l:=[S,s.heap.objs.size]) (by simp) xI nI;have I1:Inv X M9 σ H1 { s with heap:=h2 }:=I0.kept (t':=s.toks) hk;have ok:=I0.ok;have nar:∀{H':Hp} {s':MV},Inv (wX X [S,s.heap.objs.size]) M9 σ H' s'->Inv X M9 σ H' s':=λJ=>J.narrow ok λb hb=>(hlx b hb).old;refine z9 #[YF ZI _,zC (X:=wX X [S,s.heap.objs.size]) (H:=H1) ∅ hl (Zo hll) hd hu (F _) spec (λi v u H' s' hv ru hb J sm=>?_) (λhz H' s' J sm=>?_) #[I1.widen hlx,Same.refl _,fS,fI,#[_,gS],#[_,gI,rfl,rfl]]]
 ·exact#[v,H',nar J,ru,q i v H' hv hb sm]
 ·exact#[.non,H',nar J,rfl,qn hz H' sm]
theorem BS{k j:Nat}{x y qual:Str}{params:Arguments}{body:M8}{scope:Scope}{f c c':MU}{pm ct:MW}{kv:V}{sp:Sp}(S:LamScope x y scope)(hi:X.N[j]? = some y)(hσ:σ[j]? = some (some kv))(hyc:X.env.scope.names.lookup y=some .cell)(hcy:X.env.cells.lookup y=some c)(hr:Room (k+1) X.A.in1)(hbd:∀ (s:MV) (u:MW),BindsTo s (mC qual params body scope [(y,c)] pm c' ct) #[[u],[]] [(x,u)])(hbody:∀ (A:MZ) (outer:List Env) (s:MV) (H:Hp) (v:V) (Q:VK),Room k (A.deeper (envX qual scope s.heap.objs.size f (.ref c') [(y,c)]))->sp [v] H Q E0 ->
   ∃ t,PE (cxX CX0 X.prog X.w X.K X.mg X.base [x,y] qual scope f (.ref c') [(y,c)] A outer s H E0) body t/\t [some v,some kv] H Q) :
  ∀l,oK X.A.in1 (wX X l) M9 σ f (λvs H Q E=>H f=some (fH f (ix qual params body scope [(y,c)] pm c' ct))/\H c'=some (ir c' qual)/\sp vs H Q E):=by
 intro l s H u v Q I ru ⟨hf,hc,hsp⟩;have e0:Env0 X.prog X.w X.K X.mg X.base X.A.in1 X.stack s H:=by have e0:=I.env0;exact#[e0.frames,e0.mod,e0.bs,e0.bsz,e0.funs,e0.frf,e0.hok,e0.bare]
 have lim:s.heap.NoLimit:=e0.mod.nolimit.keeps λb o e=>(e0.bs b o e).1;have of1:=(e0.hok f _ hf).1;have oc1:=(e0.hok c' _ hc).1;obtain⟨m,_,look⟩:=I.loc;obtain⟨ku,kr,lk⟩:=look j y kv hi hσ (.inr (.inl hyc));have cell:s.heap.IsCell c (some ku):=by
  rcases lk with⟨z,_⟩|⟨_,d,e1,e2⟩
  ·have z':X.env.scope.names.lookup y=some .local:=z;rw[hyc]at z';cases z'
  ·have e1':X.env.cells.lookup y=some d:=e1;rw[hcy]at e1';cases e1';exact e2
 have fc:H c=none:=I.freeC y c hcy;refine kla_callFunE hr.depth of1 rfl S.co S.gen rfl oc1 (hbd s u _ _ _ _ ?_);refine wpAny_newFunctionEnv S.nc (λz hz=>?_) (λh1 hns hsb=>#[lim.keeps ?_,kla_codeExpr ?_]) S.kind
 ·rw[Zd.mp hz];exact S.lx
 all_goals have hk:∀b o,s.heap.get? b=some o->h1.get? b=some o:=λb o e=>hsb.extBut b o (Zo (Zh e)) (z6 _ e)
 ·exact hk
 ·obtain⟨t,ht,hq⟩:=hbody X.A.in1 X.stack s H v Q (hr.deeper _) hsp;have I2:=zn (CX:=CX0) (qual:=qual) (f:=f) (cd:=.ref c') (E:=E0) (tk:=s.toks+1) S hr.hd e0 ru kr cell fc hns hk;refine ZL (ht [] _ _ H _ I2 hq) (λu s' hz9=>?_) λe s' hs=>hs;obtain⟨v,H',J,rv,q⟩:=hz9;exact#[v,H',J.os,J.bare,J.base,J.hok,rv,q]
end
def IG(P:MU)(q:Str)(lpos:Pos)(j:Nat)(sp:V->Sp)(ta:TA):TE:=λσ H0 Q=>ta σ H0 λvs H=>∃(l:MU) (xs:List V) (kv:V) (c:Int) (kb:Nat->Int),vs=[.ref l]/\σ[j]?=some (some kv)/\H l=some (.lst xs)/\bc q P lpos H /\
 (∀(i:Nat) (v:V) (H':Hp),xs[i]?=some v->SameT P H H'->∀R:VK,(∀a H'',Same H' H''->H'' a=some (.tup [.int c,.int (kb i)])->R (.ref a) H'')->sp kv [v] H' R E0) /\
 (xs=[]->∀H2,SameT P H H2->bc q P lpos H2->Q .non H2)/\∀(i:Nat) (v:V) (H2:Hp),xs[i]?=some v->(∀k,k<xs.length->kb k<=kb i)->SameT P H H2->bc q P lpos H2->Q v H2
section
variable{X:Cx}{c P:MU}{params:Arguments}{body:M8}{scope:Scope}{pos:Pos}{k j:Nat}{x y:Str}{cy:MU}{sp:V->Sp}{e:M8}{ta:TA}{p lpos kpos dpos np:Pos}{kd:Nat}
theorem Gj(hc:X.calm=true)(hm:X.mg "max" = none)(hcode:X.env.code=.ref c)(C:CodeHd X.base c P)(B:Blt X.base X.mg)(F:LamOkX X.prog X.w X.K X.mg X.base k (X.env.qual++"<lambda>") body scope x y sp)(hr:Room (k+2) X.A)(ha:QA X [e] ta)(hj:X.N[j]?=some y)(hyc:X.env.scope.names.lookup y=some .cell)(hcy:X.env.cells.lookup y=some cy)(hcl:closureFor scope X.env=pure [(y,cy)])(hbd:∀(pm ct:MW) (c':MU) (s:MV) (u:MW),BindsTo s (mC (X.env.qual++"<lambda>") params body scope [(y,cy)] pm c' ct) #[[u],[]] [(x,u)]:=by intros;exact .of_eq rfl)(hge:X.env.globals=mainGlobals:=by rfl)(hdef:defaultsOf params X.env=([],[]):=by rfl)(hg:Gl X "max":=by rfl)(hn:aO e=true:=by rfl) :
  QE X (.Call (.Name "max" p) [e] [#[some "key",.Lambda params body scope lpos,kpos],#[some "default",.Constant .none kd np,dpos]] pos) (IG P (X.env.qual++"<lambda>") lpos j sp ta):=by
 refine#[?_];intro M9 s σ H0 Q I h;refine YA (eC I hg hm rN ?_);have h1:=aS (es:=[]) (env:=X.env) hn;refine PyProof.Rows.callWith_kw (thn (ha.h pos M9 s σ H0 _ I h) λus s1 hz9=>?_) (he:=by rw[h1];rfl) (hplain:=by rw[h1];rfl) (hall:=rfl) (hkw:=rfl);obtain⟨vs,H1,I1,r1,q1⟩:=hz9;obtain⟨l,xs,kv,c1,kb,rfl,hσ,hH,tab,spec,qn,q⟩:=q1;obtain⟨u,rfl,ru⟩:=bZ r1;cases ru;have nlP:l≠P:=λz=>by obtain⟨ps,tP,_⟩:=tab;rw[z,tP]at hH;cases hH
 have hk:PK X [#[some "key",.Lambda params body scope lpos,kpos],#[some "default",.Constant .none kd np,dpos]] (fh (tY [(y,cy)] X P params body scope lpos) (fh (tC .non) ge)):=mD (yk hcode hge C B hdef hcl) (mD (aW (X:=X)).h vG);refine thn (hk pos M9 s1 σ H1 (λzs H2=>∃f,zs=[.ref f,.non]/\qg X P (X.env.qual++"<lambda>") lpos params body scope [(y,cy)] H1 f H2) I1 (vd tab λf H2 mk=>#[f,rfl,mk])) λws s2 hz9=>?_;obtain⟨zs,H2,I2,rz,f,hz,mk⟩:=hz9;subst hz;obtain⟨u,u2,rfl,ru,ru2⟩:=kP rz;cases ru;cases ru2;obtain⟨c',ct,sT,lt,hf,hc',nf,nc⟩:=mk;have hr2:Room (k+1) X.A.in1:=hr.in1;have F1:=BS (X:=X) (M9:=M9) (σ:=σ) (sp:=sp kv) (params:=params) (f:=f) (c:=cy) (c':=c') (pm:=(X.mg "__name__").getD .none) (ct:=ct) F.sc hj hσ hyc hcy hr2 (hbd _ _ _) λA outer s H v Q hr' hs=>let⟨t,t1,t2⟩:=F.ex f c' cy kv A outer s H v Q hr' hs;#[t,t1.h,t2]
 have lt':∀{H':Hp},Same H2 H'->bc (X.env.qual++"<lambda>") P lpos H':=λa3=>by obtain⟨ps',e1,e2,e3⟩:=lt;exact#[ps',a3 _ _ e1,e2,e3.imp id fun⟨c'',z1,z2⟩=>#[c'',z1,a3 _ _ z2]]
 exact BY I2 (sT _ _ hH nlP) (I2.ok.hd hc) hr2.units0 F1 (λi v H' hv s3 R hR=>#[s3 _ _ hf,s3 _ _ hc',spec i v H' hv (sT.trans (.of s3)) R hR]) (λhz H' s3=>qn hz H' (sT.trans (.of s3)) (lt' s3)) (λi v H' hv hb s3=>q i v H' hv hb (sT.trans (.of s3)) (lt' s3))
end
def ItK(o:Obj)(a:MU):It where
 go:=λi H=>∃kvs,H a=some (.frz o (.dK kvs))/\i<kvs.length
 yld:=λi H x H'=>H'=H/\∀kvs,H a=some (.frz o (.dK kvs))->∃p,kvs[i]?=some p/\x=kV p.1
 stop:=λi H=>∃kvs,H a=some (.frz o (.dK kvs))/\kvs.length<=i
theorem Hi{kvs:List (Key×V)}{xs:List (Key×MW)}(r:KV kvs xs):∀{i:Nat} {x:Key×MW},xs[i]?=some x->∃p,kvs[i]?=some p/\p.1=x.1:=by
 induction r with
 |nil=>intro i x h;simp at h
 |@cons p q _ _ h _ ih =>
  intro i x e;cases i with
  |zero=>cases e;exact#[p,rfl,h.1]
  |succ i=>exact ih e
theorem F9{P:MX}{w:MY}{es:List DictEntry}{xs:List (Key×MW)}(r:Pairs (bj P w) es xs):∀{i:Nat} {e:DictEntry},es[i]?=some e->∃x,xs[i]?=some x/\kh x.1 e.key=true:=by
 induction r with
 |nil=>intro i x h;simp at h
 |@cons e kv _ _ h1 h2 _ ih =>
  intro i x q;cases i with
  |zero=>cases q;exact#[kv,rfl,h1]
  |succ i=>exact ih q
theorem BA{P:MX}{w:MY}{H:Hp}{h:Heap}{a:MU}{o:Obj}{kvs:List (Key×V)}(ok:HOk P w H h)(e:H a=some (.frz o (.dK kvs))) :
  (a==sysModules)=false/\∃xs es ep,KV kvs xs/\h.get? a=some o/\o.ExactDict/\o.data=.dict es ep/\Pairs (bj P w) es.toList xs/\kvs.length=es.size:=by
 obtain⟨ho,z,y,xs,r,o',es,ep,h1,h2,h3,h4,h5,h6⟩:=(show ObjOk P w H h a (.frz o (.dK kvs))from ok a _ e)
 rw[ho]at h1;cases h1;refine#[y,xs,es,ep,r,ho,h2,h3,h5,?_];have:=h5.length;rw[ZC]at this;rw[this];exact ZH r
theorem AD{P:MX}{w:MY}{K:W.Frag}{tg:M8}(o:Obj)(a it:MU):Turn P w K tg (ItK o a) [it] it (λi h=>∃es ep,o.data=.dict es ep/\i<=es.size/\h.IsKeyIter it a i es.size ep) where
 mem:=by simp
 obj:=λi h st b hb=>by
  have e:b=it:=by simpa using hb
  subst e;obtain⟨es,ep,_,_,o,e,c,d⟩:=st;exact#[o,e,λv z=>by rw[d]at z;cases z]
 keep:=λi h h' st k=>by obtain⟨es,ep,h1,h2,h3⟩:=st;exact#[es,ep,h1,h2,h3.at λo e=>k it (by simp) o e]
 item:=by
  intro X hP hw hK hc i M9 s σ H E I hf st hg;subst hP hw hK;obtain⟨kvs,hq,hx⟩:=hg;obtain⟨es,ep,sd,sl,st⟩:=st;obtain⟨lo,xs,es',ep',r,ho,hx2,hd,h4,hl⟩:=BA I.hok hq;rw[sd]at hd;cases hd;obtain⟨f0,f1,f2,f3,f4,f5⟩:=hf it (by simp);have hi:i<es.size:=∅
  refine Eg st #[o,ho,hx2,sd] hi λh' st' sb=>?_;have I1:Inv X M9 σ H { s with heap:=h' }:=I.turned (t':=s.toks) (λb o hb e=>(sb.2 b hb).trans e) f0 f1 f3 f4 f5;obtain⟨oi,e,c,d⟩:=id st';obtain⟨x,hxi,hk⟩:=F9 h4 (i:=i) (e:=es[i]) (by rw[YR,Array.getElem?_eq_getElem hi]);obtain⟨p,hp,hb⟩:=Hi r hxi;have hr:RelV (kV p.1) es[i].key:=by
   rw[hb];rcases bT hk with⟨n,t,h1,h2⟩|⟨n,t,h1,h2⟩
   ·rw[h1,h2];exact#[t,rfl]
   ·rw[h1,h2];exact#[t,rfl]
  refine#[_,rfl,oX (s:={ s with heap:=h' }) e c d ⋯ #[kV p.1,H,I1,hr,#[rfl,λkvs' hy=>?_],#[es,ep,sd,∅,st'],λb hb=>(hf b hb).1]];rw[hq]at hy;cases hy;exact#[p,hp,rfl]
 done:=by
  intro X hP hw hK hc i M9 s σ H E I hf st hg;subst hP hw hK;obtain⟨kvs,hq,hx⟩:=hg;obtain⟨es,ep,sd,sl,st⟩:=st;obtain⟨lo,xs,es',ep',r,ho,hx2,hd,h4,hl⟩:=BA I.hok hq;rw[sd]at hd;cases hd;obtain⟨f0,f1,f2,f3,f4,f5⟩:=hf it (by simp);obtain rfl:i=es.size:=∅
  exact Gk (I.ok.hd hc) st #[o,ho,hx2,sd] λh' eb=>#[rfl,I.turned (t':=s.toks) (λb o hb e=>eb b o hb e) f0 f1 f3 f4 f5]
 self:=λ_ _ _ _ _ st h=>by obtain⟨es,ep,h1,h2,h3⟩:=st;exact wpAny_pyIter_keyiter h3 h
section
variable{X:Cx}{tg:M8}
theorem Inv.freezeK{M9:MP}{σ:St}{H:Hp}{s:MV}{a:MU}{o:Obj}{kvs:List (Key×V)}(I:Inv X M9 σ H s)(hq:H a=some (.dK kvs))(ho:s.heap.get? a=some o):Inv X M9 σ (upd H a (.frz o (.dK kvs))) s :=
 I.write (x:=a) (e:=a) (h':=s.heap) (t':=s.toks) (by rw[hq];exact True.intro) (.inl rfl) (λb u _ e=>e) #[o,ho]
  #[ho,ObjOk.stay (show ObjOk X.prog X.w H s.heap a (.dK kvs) from I.hok a _ hq) (λb u _ e=>e) (λb e=>by
   rw[ah λz=>by rw[z,hq]at e;cases e];exact e) λb xs e=>by
   rw[ah λz=>by rw[z,hq]at e;cases e];exact e]
def EG(tl:TE):TI:=λσ H R=>tl σ H λx H1=>∃a kvs,x=.ref a/\H1 a=some (.dK kvs)/\∀o,R (ItK o a) (upd H1 a (.frz o (.dK kvs)))
theorem FW{l:M8}{tl:TE}(hl:PE X l tl):PI X tg l (EG tl):=by
 intro M9 s σ H R I h;refine thn (hl M9 s σ H _ I h) λv s1 hz9=>?_;obtain⟨x,H1,I1,r1,q1⟩:=hz9;obtain⟨a,kvs,e,hq,q⟩:=q1;subst e;cases r1;obtain⟨z,lo,xs,r,o,es,ep,h1,h2,h3,h4,h5,h6⟩:=(show ObjOk X.prog X.w H1 s1.heap a (.dK kvs)from I1.hok a _ hq)
 refine Eh lo #[o,h1,h2,h3] ?_;have I2:=I1.freezeK hq h1;refine#[s1.heap.objs.size,[s1.heap.objs.size],_,_,_,rfl,I2.kept (t':=s1.toks) λb o e=>z6 _ e,AD o a _,#[es,ep,h3,ZU _,_,Ze _ rfl,rfl,rfl],λb hb=>?_,q o];have e:b=s1.heap.objs.size:=by simpa using hb
 subst e;exact I2.fpOk (Za _) (I2.hok.fresh (Za _))
theorem uT{l:M8}{te:TE}(hl:QE X l te):QI X tg l (EG te):=#[FW hl.h]
theorem GR:QCall X (.builtin "len") (λxs H Q=>∃a kvs,xs=[V.ref a]/\H a=some (.dK kvs)/\Q (.int kvs.length) H):=#[Bc]
end
theorem DGet.fk{H:Hp}{a:MU}{o:Obj}{kvs:List (Key×V)}{k:Key}(e:H a=some (.frz o (.dK kvs))):DGet H a (kV k) (aH kvs k):=.inl #[kvs,k,.inr #[o,e],rfl,rfl]
theorem uP{a:MU}{o:Obj}{kvs:List (Key×V)}{j:Nat}{tb:TS}{D:Ends}{σ:St}{H:Hp}(Pv:Nat->St->Hp->Prop)(h0:Pv 0 σ H)(hl:∀i σ H,i<=kvs.length->Pv i σ H->H a=some (.frz o (.dK kvs)))(hs:∀i p σ H,kvs[i]?=some p->Pv i σ H->∀D':Ends,(∀σ' H',Pv (i+1) σ' H'->D'.nx σ' H')->D'.rt=D.rt->tb D' (σ.set j (some (kV p.1))) H)(hd:∀σ H,Pv kvs.length σ H->D.nx σ H) :
  ∃W:Nat->Nat->St->Hp->Prop,(∃m,W 0 m σ H)/\∀i m σ H,W i m σ H ->
   ((ItK o a).stop i H/\D.nx σ H)\/((ItK o a).go i H/\∃N:St->Hp->Prop,(∀σ' H',N σ' H'->∃m',m'<m/\W (i+1) m' σ' H')/\∀x H',(ItK o a).yld i H x H'->bo j x σ H' λσ2 H2=>tb { D with nx:=N,ct:=N,bk:=D.nx } σ2 H2):=by
 refine#[λi m σ H=>m=kvs.length-i/\i<=kvs.length/\Pv i σ H,#[kvs.length,by simp,ZU _,h0],?_];rintro i m σ H ⟨rfl,hi,p⟩;have q:=hl i σ H hi p;by_cases hlt:i<kvs.length
 ·refine .inr #[#[kvs,q,hlt],Pv (i+1),λσ' H' p'=>#[kvs.length-(i+1),∅,rfl,hlt,p'],λx H' y=>?_];obtain⟨e,y⟩:=y;subst e;obtain⟨pr,e1,rfl⟩:=y kvs q;exact hs i pr σ _ e1 p _ (λ_ _ z=>z) rfl
 ·have e:i=kvs.length:=∅
  subst e;exact .inl #[#[kvs,q,Za _],hd σ H p]
theorem Bi{a:MU}{o:Obj}{kvs:List (Key×V)}{n:Nat}{cap:List Nat}{g:TG}{tc:TT}{te:TE}{σ:St}{H0:Hp}{Q:VK}(Pv:Nat->List V->Hp->Prop)(hz:kvs.length<=1000)(hn:∀i ys H,Pv i ys H->ys.length<=i)(h0:Pv 0 [] H0)(hl:∀i ys H,Pv i ys H->H a=some (.frz o (.dK kvs)))(ht:∀i ys H p,kvs[i]?=some p->Pv i ys H->∀Y:List V->Hp->Prop,(∀zs H4,Pv (i+1) zs H4->Y zs H4)->g (kV p.1) (bU n cap σ) H λσ2 H2=>tc σ2 H2 λb H3=>if b=true then te σ2 H3 λy H4=>Y (ys++[y]) H4 else Y ys H3)(hq:∀ys p H,Pv kvs.length ys H->H p=none->Q (.ref p) (upd H p (.lst ys))):dM n cap g tc te σ (ItK o a) H0 Q:=by
 refine#[λi m ys H=>m=kvs.length-i/\i<=kvs.length/\Pv i ys H,#[kvs.length,by simp,ZU _,h0],?_];rintro i m ys H ⟨rfl,hi,pv⟩;have q:=hl i ys H pv;by_cases hlt:i<kvs.length
 ·refine .inr #[#[kvs,q,hlt],?_,λx H' y=>?_]
  ·have:=hn i ys H pv;exact Nat.lt_of_le_of_lt (Zq this ∅) (show 1000<sizeLine by decide)
  ·obtain⟨e,y⟩:=y;subst e;obtain⟨pr,e1,rfl⟩:=y kvs q;exact ht i ys _ pr e1 pv (λys H4=>∃m',m'<kvs.length-i/\m'=kvs.length-(i+1)/\i+1<=kvs.length/\Pv (i+1) ys H4) λzs H4 z=>#[kvs.length-(i+1),∅,rfl,hlt,z]
 ·have e:i=kvs.length:=∅
  subst e;exact .inl #[#[kvs,q,Za _],λp hp=>hq ys p H pv hp]
inductive rEqNil(K:W.Frag)(x y:V)(H:Hp)(Q:VK):Prop
 |mk (a b:MU) (xs:List V) (h0:x=.ref a) (h1:y=.ref b) (ha:SqL K H a xs) (hb:SqL K H b []) (q:Q (.bl xs.isEmpty) H):rEqNil K x y H Q
theorem yf{X:Cx}{K:W.Frag}(hK:X.K=K)(hu:X.A.units+64<cLine):QOp X (compareOp .Eq) (rEqNil K):=by
 refine#[?_];subst hK;intro M9 s σ H x y v u Q I rx ry h;obtain⟨a,b,xs,rfl,rfl,ha,hb,q⟩:=h;cases rx;cases ry;obtain⟨its,r1,p1,_⟩:=I.list ha;obtain⟨its2,r2,p2,_⟩:=I.list hb;have l2:its2.length=0:=r2.length.symm;cases xs with
 |nil =>have l1:its.length=0:=r1.length.symm;have g:=SeqAt.RcAt.lists (A:=X.A) (e:=λ_=>true) p1.isList p2.isList (by simp[l1,l2]) ∅ (λj h1 h2=>by simp[l1]at h1);rw[show(List.range its.toArray.size).all (λ_=>true)=true by simp]at g;exact g X.prog X.w X.xe _ #[.bl true,H,I,rfl,q]
 |cons x xs =>have l1:its.length=xs.length+1:=r1.length.symm;exact SeqAt.RcAt.lists_lengths p1.isList p2.isList (by simp[l1,l2]) ∅ X.prog X.w X.xe _ #[.bl false,H,I,rfl,q]
end L2
set_option maxRecDepth 100000
set_option maxHeartbeats 4000000
namespace K44
open PySem L2
open PyProof.Rows (envOfC)
open PySem.W (envX CodeHd)
abbrev Nh:=List V
abbrev Ng:=List (List Key×V)
def top(i:Nat):Stmt:=PySem.Challenge.pw_limb_k44_undone_and_done_again.main.body.getD i (.Pass #[0,0,0,0])
theorem cxK{CX:CXT}{N:List Str}{qual:Str}{scope:Scope}{f:MU}{cd:MW}{A:MZ}{outer:List Env}{s:MV}{H:Hp}{E:XK}:(fq CX P w K mg base N qual scope f cd A outer s H E).nox.K=K:=rfl
theorem vix{K:W.Frag}{i:Nat}{n:Int}{σ:St}{H:Hp}{Q:VK}{a:MU}{xs:Nh}{v:V}(hv:σ[i]?=some (some (.ref a)))(hs:SqT K H a xs)(ha:atI xs n=some v)(q:Q v H):tOp (rIxT K) (tVar i) (tC (.int n)) σ H Q:=#[_,hv,a,_,_,_,rfl,rfl,hs,ha,q]
theorem wC{K:W.Frag}{i:Nat}{n m:Int}{σ:St}{H:Hp}{Q:VK}{a b:MU}{xs ys:Nh}{v:V}(hv:σ[i]?=some (some (.ref a)))(hs:SqT K H a xs)(ha:atI xs n=some (.ref b))(ht:SqT K H b ys)(hb:atI ys m=some v)(q:Q v H):tOp (rIxT K) (tOp (rIxT K) (tVar i) (tC (.int n))) (tC (.int m)) σ H Q:=#[_,hv,a,_,_,_,rfl,rfl,hs,ha,b,_,_,_,rfl,rfl,ht,hb,q]
theorem dj{K:W.Frag}{a:MU}{xs:Nh}{g:TG}{tb:L2.TS}{D:Ends}{σ:St}{H:Hp}(Pv:Nat->St->Hp->Prop)(h0:Pv 0 σ H)(hl:∀i σ H,i<=xs.length->Pv i σ H->SqL K H a xs)(hs:∀i x σ H,xs[i]?=some x->Pv i σ H->∀D':Ends,(∀σ' H',Pv (i+1) σ' H'->D'.nx σ' H')->g x σ H λσ2 H2=>tb D' σ2 H2)(hd:∀σ H,Pv xs.length σ H->D.nx σ H) :
  ∃W:Nat->Nat->St->Hp->Prop,(∃m,W 0 m σ H)/\∀i m σ H,W i m σ H ->
   ((Itl K a).stop i H/\D.nx σ H)\/((Itl K a).go i H/\∃N:St->Hp->Prop,(∀σ' H',N σ' H'->∃m',m'<m/\W (i+1) m' σ' H')/\∀x H',(Itl K a).yld i H x H'->g x σ H' λσ2 H2=>tb { D with nx:=N,ct:=N,bk:=D.nx } σ2 H2) :=
 nC Pv h0 hl (λi x σ H a b=>hs i x σ H a b _ λ_ _ z=>z) hd
theorem By{K:W.Frag}{a:MU}{xs:Nh}{j:Nat}{tb:L2.TS}{D:Ends}{σ:St}{H:Hp}(Pv:Nat->St->Hp->Prop)(h0:Pv 0 σ H)(hl:∀i σ H,i<=xs.length->Pv i σ H->SqL K H a xs)(hs:∀i x σ H,xs[i]?=some x->Pv i σ H->∀D':Ends,(∀σ' H',Pv (i+1) σ' H'->D'.nx σ' H')->tb D' (σ.set j (some x)) H)(hd:∀σ H,Pv xs.length σ H->D.nx σ H) :
  ∃W:Nat->Nat->St->Hp->Prop,(∃m,W 0 m σ H)/\∀i m σ H,W i m σ H ->
   ((Itl K a).stop i H/\D.nx σ H)\/((Itl K a).go i H/\∃N:St->Hp->Prop,(∀σ' H',N σ' H'->∃m',m'<m/\W (i+1) m' σ' H')/\∀x H',(Itl K a).yld i H x H'->bo j x σ H' λσ2 H2=>tb { D with nx:=N,ct:=N,bk:=D.nx } σ2 H2) :=
 dj Pv h0 hl hs hd
theorem zh{lo:Int}{n:Nat}{g:TG}{tb:L2.TS}{D:Ends}{σ:St}{H:Hp}(Pv:Nat->St->Hp->Prop)(h0:Pv 0 σ H)(hs:∀i σ H,i<n->Pv i σ H->∀D':Ends,(∀σ' H',Pv (i+1) σ' H'->D'.nx σ' H')->g (.int (lo+i)) σ H λσ2 H2=>tb D' σ2 H2)(hd:∀σ H,Pv n σ H->D.nx σ H) :
  ∃W:Nat->Nat->St->Hp->Prop,(∃m,W 0 m σ H)/\∀i m σ H,W i m σ H ->
   ((Itr lo n).stop i H/\D.nx σ H)\/((Itr lo n).go i H/\∃N:St->Hp->Prop,(∀σ' H',N σ' H'->∃m',m'<m/\W (i+1) m' σ' H')/\∀x H',(Itr lo n).yld i H x H'->g x σ H' λσ2 H2=>tb { D with nx:=N,ct:=N,bk:=D.nx } σ2 H2) :=
 Bz Pv h0 (λi σ H a b=>hs i σ H a b _ λ_ _ z=>z) hd
theorem uW{A:(St->Hp->Prop)->Prop}{B:St->Hp->Prop}(J:St->Hp->Prop)(h1:∀R:St->Hp->Prop,(∀σ H,J σ H->R σ H)->A R)(h2:∀σ H,J σ H->B σ H):∃R,A R/\∀σ H,R σ H->B σ H:=#[J,h1 J λ_ _ z=>z,h2]
theorem ay{t u:L2.TS}{D:Ends}{σ:St}{H:Hp}(h:∀R:Ends,(∀σ' H',u D σ' H'->R.nx σ' H')->t R σ H):AB t u D σ H:=h { D with nx:=u D } λ_ _ z=>z
theorem ld{K:W.Frag}{a:MU}{xs:Nh}{i j:Nat}{tb:L2.TS}{D:Ends}{σ:St}{H:Hp}(Pv:Nat->St->Hp->Prop)(h0:Pv 0 σ H)(ha:∀i σ H,i<=xs.length->Pv i σ H->SqL K H a xs)(hs:∀k x σ H,xs[k]?=some x->Pv k σ H->∀D':Ends,(∀σ' H',Pv (k+1) σ' H'->D'.nx σ' H')->∀T,H T=none->tb D' ((σ.set i (some (.int k))).set j (some x)) (upd H T (.tup [.int k,x])))(hd:∀σ H,Pv xs.length σ H->D.nx σ H) :
  ∃W:Nat->Nat->St->Hp->Prop,(∃m,W 0 m σ H)/\∀k m σ H,W k m σ H ->
   ((Ite K a xs).stop k H/\D.nx σ H)\/((Ite K a xs).go k H/\∃N:St->Hp->Prop,(∀σ' H',N σ' H'->∃m',m'<m/\W (k+1) m' σ' H')/\∀x H',(Ite K a xs).yld k H x H'->jZ K 2 (dS (bo i) (dS (bo j) jY)) x σ H' λσ2 H2=>tb { D with nx:=N,ct:=N,bk:=D.nx } σ2 H2) :=
 Dw Pv h0 ha (λk x σ H a b T c=>hs k x σ H a b _ (λ_ _ z=>z) T c) hd
inductive Ik|take|back|join|mark|part|move|write|due|fold
inductive Wh
 |no
 |put (m:Int)
 |itm (c:Ik)(h k:Int)
 |trn (b:Bool)(k:Int)
def ofW(b:Bool):Str:=if b then"on" else"off"
def iW:Ik->Str
 |.take=>"take" |.back=>"back" |.join=>"join" |.mark=>"mark" |.part=>"part" |.move=>"move" |.write=>"write" |.due=>"due" |.fold=>"fold"
def iR(q r:MU):Ik->Nh
 |.take=>[]|.back=>[]|.join=>[.ref q]|.mark=>[.bl true]|.part=>[.int 0,.ref r]|.move=>[.non,.ref r]|.write=>[.str "a"]|.due=>[.non]|.fold=>[.bl false]
def iN:Ik->Int
 |.move=>1
 |_=>0
structure Dd where
 h:Nat
 ns:M5
 w:Wh
def D0:Dd:=#[0,[],.no]
def aV(d:Dd)(i:Nat):Int:=if i=d.h then au d.ns i-1 else au d.ns i
def nmZ(d:Dd):M5:=[(d.h:Int),au d.ns d.h]
def nmK(d:Dd):List Key:=[.inl (d.h:Int),.inl (au d.ns d.h)]
def fm(d:Dd):List Nat:=(List.range d.ns.length).filter λi=>decide (aV d i>0)
def kyZ(d:Dd):M5:=[d.ns.sum,(d.h:Int)]
def kLt(d e:Dd):Prop:=d.ns.sum<e.ns.sum\/(d.ns.sum=e.ns.sum/\d.h<e.h)
def leC(a b:M5):Prop:=∀i,i<a.length->au a i<=au b i
def ie(ns ms:M5):Bool:=((List.range ns.length).map λi=>decide (au ns i<=au ms i)).all id
theorem C5{a b:M5}(h:leC a b):ie a b=true:=by unfold ie;rw[Ye];intro x hx;obtain⟨i,hi,rfl⟩:=Zm.mp hx;exact decide_eq_true (h i (Y2.mp hi))
theorem Jq(d e:Dd):HT.lexLt (kyZ d) (kyZ e)=true↔kLt d e:=by
 unfold kyZ kLt;rw[HT.lexLt_cons];by_cases c:d.ns.sum=e.ns.sum
 ·rw[MO c,Fu];constructor
  ·intro h;have:=ZM h;exact .inr #[c,∅]
  ·rintro(h|⟨_,h⟩)
   ·omega
   ·exact decide_eq_true ∅
 ·rw[MN c];constructor
  ·intro h;exact .inl (ZM h)
  ·rintro(h|⟨h,_⟩)
   ·exact decide_eq_true h
   ·exact absurd h c
theorem ka{α:Type}(L:List α)(z:α):(List.range L.length).map (λi=>L.getD i z)=L:=by
 apply List.ext_getElem
 ·simp
 ·intro i h1 h2;simp[h2]
theorem xw{α:Type}{f:α->Dd}{L:List α}{z:α}{p:M6}(hp:POk L.length p)(hs:LS (λi j=>HT.lexLt ((L.map λx=>kyZ (f x)).getD i []) ((L.map λx=>kyZ (f x)).getD j [])) p L.length) :
  ((p.toList.map λi=>L.getD i z).map f).Pairwise (λd e=>¬kLt e d)/\(p.toList.map λi=>L.getD i z).Perm L:=by
 have ep:p.toList.Perm (List.range L.length):=by have:=Array.perm_iff_toList_perm.mp hp;simpa using this
 refine#[?_,?_]
 ·rw[x4,List.pairwise_map];have hz:p.size=L.length:=by have:=hp.size_eq;simpa using this
  rw[Z7];intro i j hi hj hij;rw[ZC]at hi hj;have lx:=hs i j hij ∅;have e1:gA p i=p.toList[i]'(by rw[ZC];exact hi):=by rw[xP,y7,Zj (by rw[ZC];exact hi)];rfl
  have e2:gA p j=p.toList[j]'(by rw[ZC];exact hj):=by rw[xP,y7,Zj (by rw[ZC];exact hj)];rfl
  have nd:(p.toList).Nodup:=ep.nodup_iff.mpr List.nodup_range;have ne:p.toList[i]'(by rw[ZC];exact hi)≠p.toList[j]'(by rw[ZC];exact hj):=by rw[List.nodup_iff_pairwise_ne,Z7]at nd;exact nd i j _ _ hij
  have m1:p.toList[i]'(by rw[ZC];exact hi)<L.length:=Y2.mp (ep.mem_iff.mp (ZR _));have m2:p.toList[j]'(by rw[ZC];exact hj)<L.length:=Y2.mp (ep.mem_iff.mp (ZR _));rw[e1,e2]at lx;generalize p.toList[i]'(by rw[ZC];exact hi)=a at *;generalize p.toList[j]'(by rw[ZC];exact hj)=b at *;have ga:∀k,k<L.length->(L.map λx=>kyZ (f x)).getD k []=kyZ (f (L.getD k z)):=λk hk=>by simp[hk]
  have lx':HT.lexLt (kyZ (f (L.getD b z))) (kyZ (f (L.getD a z)))=false:=by have:=lx.1;dsimp only at this;rw[ga a m1,ga b m2]at this;exact this
  show¬kLt (f (L.getD b z)) (f (L.getD a z));intro h;rw[(Jq _ _).mpr h]at lx';cases lx'
 ·have:=ep.map λi=>L.getD i z;rw[ka]at this;exact this
theorem xR{d e:Dd}(h:kLt d e)(k:kLt e d):False:=by unfold kLt at h k;omega
theorem CD{A B:List Dd}(ha:A.Pairwise kLt)(hb:B.Pairwise kLt)(p:A.Perm B):A=B:=List.Perm.eq_of_pairwise (λ_ _ _ _ h k=>(xR h k).elim) ha hb p
def bH(M:List (MU×Dd)):Ng:=M.map λx=>(nmK x.2,V.ref x.1)
theorem CO:∀{a b:M5},a.length=b.length->leC a b->a.sum<=b.sum
 | [],[],_,_=>Int.le_refl _
 |x::a,y::b,e,h=>by rw[YN,YN];have h0:x<=y:=h 0 (by simp);have:=CO (a:=a) (b:=b) (by simpa using e) λi hi=>h (i+1) (by simpa using hi);omega
theorem ik{c:M5}{k i:Nat}{v:Int}(hk:k<c.length):au (c.set k v) i=if i=k then v else au c i:=by
 unfold au;rw[List.getElem?_set];by_cases e:i=k
 ·subst e;rw[MO rfl,MO rfl,MO hk];rfl
 ·rw[MN (λz=>e z.symm),MN e]
theorem CP:∀{c:M5} {k:Nat},k<c.length->(c.set k (au c k+1)).sum=c.sum+1
 |x::c,0,_=>by show(((x::c).set 0 (x+1))).sum=_;rw[List.set_cons_zero,YN,YN];omega
 |x::c,k+1,h=>by show((x::c).set (k+1) (au c k+1)).sum=_;rw[List.set_cons_succ,YN,YN,CP (by simpa using h)];omega
theorem Do(n i:Nat):au (List.replicate n (0:Int)) i=0:=by unfold au;rw[List.getElem?_replicate];split<;>rfl
theorem qd{a b:M5}:ie a b=true↔leC a b:=by refine#[λh i hi=>?_,C5];unfold ie at h;rw[Ye]at h;exact ZM (h _ (Zm.mpr #[i,Y2.mpr hi,rfl]))
structure UN(n:Nat)(L:List Dd):Prop where
 len:∀d∈L,d.ns.length=n/\d.h<n
 own:∀d∈L,0<au d.ns d.h
 uni:L.Pairwise λd e=>nmK d≠nmK e
theorem UN.perm{n:Nat}{L M:List Dd}(g:UN n L)(p:L.Perm M):UN n M:=#[λd hd=>g.len d (p.mem_iff.mpr hd),λd hd=>g.own d (p.mem_iff.mpr hd),g.uni.perm p fun{x y} h e=>h e.symm]
theorem UN.sub{n:Nat}{L M:List Dd}(g:UN n L)(p:M.Sublist L):UN n M:=#[λd hd=>g.len d (p.subset hd),λd hd=>g.own d (p.subset hd),g.uni.sublist p]
theorem lB:∀{L:List Dd},(L.Pairwise λd e=>nmK d≠nmK e)->∀{d e:Dd},d∈L->e∈L->nmK d=nmK e->d=e
 |x::L,u,d,e,hd,he,h=>by
  rw[List.pairwise_cons]at u;rcases Zl.mp hd with z1|hd'
  ·rcases Zl.mp he with z2|he'
   ·rw[z1,z2]
   ·exact absurd (z1▸h) (u.1 e he')
  ·rcases Zl.mp he with z2|he'
   ·exact absurd (z2▸h).symm (u.1 d hd')
   ·exact lB u.2 hd' he' h
def ji(R:List Dd)(d:Dd)(i:Nat):Bool:=match R.find? (λe=>decide (nmK e=[.inl (i:Int),.inl (aV d i)]))with
 |some e=>ie e.ns d.ns
 |none=>false
def ql(R:List Dd)(d:Dd):Bool:=(fm d).all λi=>ji R d i
def An(R:List Dd)(d:Dd)(i:Nat):Prop:=∃e∈R,e.h=i/\au e.ns e.h=aV d i/\leC e.ns d.ns
theorem jG{e:Dd}{i:Nat}{z:Int}:nmK e=[.inl (i:Int),.inl z]↔e.h=i/\au e.ns e.h=z:=by
 unfold nmK;constructor
 ·intro h;injection h with h1 h2;injection h2 with h3 _;injection h1 with h1;injection h3 with h3;exact#[∅,h3]
 ·rintro⟨rfl,rfl⟩;rfl
theorem xB{R:List Dd}(u:R.Pairwise λd e=>nmK d≠nmK e){d:Dd}{i:Nat}:ji R d i=true↔An R d i:=by
 unfold ji;cases hf:R.find? (λe=>decide (nmK e=[.inl (i:Int),.inl (aV d i)]))with
 |none =>
  constructor
  ·intro h;cases h
  ·rintro⟨e,he,e1,e2,_⟩;have:=List.find?_eq_none.mp hf e he;exact absurd (jG.mpr #[e1,e2]) (by simpa using this)
 |some x =>
  have hm:=List.mem_of_find?_eq_some hf;have hq:=List.find?_some hf;have hx:=jG.mp (ZM hq);constructor
  ·intro h;exact#[x,hm,hx.1,hx.2,qd.mp h]
  ·rintro⟨e,he,e1,e2,e3⟩;have:x=e:=lB u hm he ((jG.mpr hx).trans (jG.mpr #[e1,e2]).symm);rw[this];exact qd.mpr e3
theorem xA{n:Nat}{R:List Dd}(u:R.Pairwise λd e=>nmK d≠nmK e){d:Dd}(hd:d.ns.length=n):ql R d=true↔∀i,i<n->aV d i>0->An R d i:=by
 unfold ql fm;rw[Ye];constructor
 ·intro h i hi hl;exact(xB u).mp (h i (Zx.mpr #[Y2.mpr ∅,decide_eq_true hl]))
 ·intro h i hi;obtain⟨h1,h2⟩:=Zx.mp hi;exact(xB u).mpr (h i (by have:=Y2.mp h1;omega) (ZM h2))
def Ch(n:Nat)(R:List Dd):Prop:=∀k (hk:k<R.length),∀i,i<n->aV R[k] i>0->An (R.take k) R[k] i
def Sat(n:Nat)(L B:List Dd):Prop:=∀d∈L,(∀i,i<n->aV d i>0->An B d i)->d∈B
theorem Ch.snoc{n:Nat}{R:List Dd}{d:Dd}(c:Ch n R)(h:∀i,i<n->aV d i>0->An R d i):Ch n (R++[d]):=λk hk i hi hl=>by
 rcases Yp k R.length with c1|c1
 ·rw[List.getElem_append_left c1]at hl ⊢;rw[List.take_append_of_le_length (Y6 c1)];exact c k c1 i hi hl
 ·have e:k=R.length:=by rw[Zk,y0]at hk;omega
  subst e;have ed:(R++[d])[R.length]=d:=by simp
  rw[ed]at hl ⊢;rw[List.take_left];exact h i hi hl
theorem IB{n:Nat}{L A B:List Dd}(c:Ch n A)(hA:∀d∈A,d∈L)(s:Sat n L B):∀d∈A,d∈B:=by
 have go:∀k (hk:k<A.length),A[k]∈B:=by
  intro k;induction k using Nat.strongRecOn with
  |_ k ih =>intro hk;refine s _ (hA _ (ZR hk)) λi hi hl=>?_;obtain⟨e,he,r⟩:=c k hk i hi hl;obtain⟨j,hj,rfl⟩:=Yb.mp he;rw[ZP]at hj;refine#[_,?_,r];rw[List.getElem_take];exact ih j ∅ ∅
 intro d hd;obtain⟨k,hk,rfl⟩:=Yb.mp hd;exact go k hk
theorem mq:∀{a b:M5} {k:Nat},a.length=b.length->leC a b->k<a.length->au a k<au b k->a.sum<b.sum
 |x::a,y::b,0,e,h,_,hl=>by rw[YN,YN];have h0:x<y:=hl;have:=CO (a:=a) (b:=b) (by simpa using e) λi hi=>h (i+1) (by simpa using hi);omega
 |x::a,y::b,k+1,e,h,hk,hl=>by rw[YN,YN];have h0:x<=y:=h 0 (by simp);have:=mq (a:=a) (b:=b) (k:=k) (by simpa using e) (λi hi=>h (i+1) (by simpa using hi)) (by simpa using hk) hl;omega
theorem nL{a b:M5}(e:a.length=b.length)(h:∀i,i<a.length->au a i=au b i):a=b:=by apply List.ext_getElem e;intro i h1 h2;have:=h i h1;unfold au at this;rw[Zj h1,Zj h2]at this;exact this
theorem Jr{a b:M5}(e:a.length=b.length)(h:leC a b):a=b\/a.sum<b.sum:=by
 by_cases c:∃k,k<a.length/\au a k<au b k
 ·obtain⟨k,hk,hl⟩:=c;exact .inr (mq e h hk hl)
 ·refine .inl (nL e λi hi=>?_);have h1:=h i hi;have h2:¬au a i<au b i:=λz=>c #[i,hi,z];omega
theorem fE(d:Dd):aV d d.h=au d.ns d.h-1:=by unfold aV;rw[MO rfl]
theorem xX{d:Dd}{i:Nat}(h:i≠d.h):aV d i=au d.ns i:=by unfold aV;rw[MN h]
theorem Bf{n:Nat}{R:List Dd}(c:Ch n R)(u:UN n R):∀(m:Nat) {d e:Dd},d∈R->e∈R->d.h=e.h->au d.ns d.h+(m:Int)+1=au e.ns e.h->d.ns.sum<e.ns.sum:=by
 intro m;induction m with
 |zero =>intro d e hd he eh em;obtain⟨k,hk,rfl⟩:=Yb.mp he;have h1:=u.own d hd;obtain⟨x,hx,x1,x2,x3⟩:=c k hk R[k].h (u.len _ he).2 (by rw[fE];omega);have hx':=List.mem_of_mem_take hx;rw[fE]at x2;have:x=d:=lB u.uni hx' hd ((jG (i:=R[k].h) (z:=au d.ns d.h)).mpr #[x1,by rw[x2];omega] |>.trans (jG.mpr #[eh,rfl]).symm);subst this;refine mq (k:=x.h) (by rw[(u.len x hd).1,(u.len _ he).1]) x3 (by rw[(u.len x hd).1];exact(u.len x hd).2) ?_;rw[x2,x1];omega
 |succ m ih =>
  intro d e hd he eh em;obtain⟨k,hk,rfl⟩:=Yb.mp he;have h1:=u.own d hd;obtain⟨x,hx,x1,x2,x3⟩:=c k hk R[k].h (u.len _ he).2 (by rw[fE];omega);have hx':=List.mem_of_mem_take hx;rw[fE]at x2;have s1:=ih hd hx' (eh.trans x1.symm) (by rw[x2];omega);have s2:x.ns.sum<R[k].ns.sum:=by refine mq (k:=x.h) (by rw[(u.len x hx').1,(u.len _ he).1]) x3 (by rw[(u.len x hx').1];exact(u.len x hx').2) ?_;rw[x2,x1];omega
  omega
theorem GX{n:Nat}{R:List Dd}(c:Ch n R)(u:UN n R):R.Pairwise λd e=>d.h=e.h->d.ns.sum≠e.ns.sum:=by
 rw[Z7];intro i j hi hj hij eh es;have hd:=ZR hi;have he:=ZR hj;have ne:au R[i].ns R[i].h≠au R[j].ns R[j].h:=λz=>by have un:=u.uni;rw[Z7]at un;exact un i j hi hj hij (by unfold nmK;rw[z,eh])
 rcases Int.lt_or_gt_of_ne ne with q|q
 ·have:=Bf c u (au R[j].ns R[j].h-au R[i].ns R[i].h-1).toNat hd he eh ∅;omega
 ·have:=Bf c u (au R[i].ns R[i].h-au R[j].ns R[j].h-1).toNat he hd eh.symm ∅;omega
abbrev LT:=List (MU×Dd)
def vals(L:LT):List Dd:=L.map Prod.snd
def hV(R:LT)(x:MU×Dd):LT:=if ql (vals R) x.2=true then R++[x]else R
def bD(S:LT)(k:Nat):LT:=(S.take k).foldl hV []
theorem fB{S:LT}{k:Nat}(hk:k<S.length):bD S (k+1)=hV (bD S k) S[k]:=by unfold bD;rw[x9,Zj hk,Option.toList_some,List.foldl_append];rfl
theorem dl(S:LT):∀k,k<=S.length->(bD S k).Sublist (S.take k)
 |0,_=>by unfold bD;exact List.Sublist.refl _
 |k+1,h=>by
  have ih:=dl S k ∅;rw[fB ∅,x9,Zj ∅,Option.toList_some];unfold hV;split
  ·exact ih.append (List.Sublist.refl _)
  ·exact ih.trans (List.sublist_append_left _ _)
theorem fA{A B:LT}(h:A.Sublist B):(vals A).Sublist (vals B):=h.map _
theorem qm{n:Nat}{S:LT}(u:UN n (vals S)):∀k,k<=S.length->Ch n (vals (bD S k))
 |0,_=>λk hk=>absurd hk (by simp[bD,vals])
 |k+1,h=>by
  have ih:=qm u k ∅;have us:=u.sub (fA ((dl S k ∅).trans (YG _ _)));rw[fB ∅];unfold hV;split
  ·rename_i c;unfold vals at ih us c ⊢;rw[Zy];exact ih.snoc ((xA us.uni (u.len _ (Zm.mpr #[S[k],ZR ∅,rfl])).1).mp c)
  ·exact ih
theorem uy(S:LT):∀{k j:Nat},k<=j->j<=S.length->∀x∈bD S k,x∈bD S j:=by
 intro k j hkj;induction hkj with
 |refl=>intro _ x hx;exact hx
 |step h ih =>
  intro hj x hx;rw[fB ∅];unfold hV;have:=ih ∅ x hx;split
  ·exact Z3 _ this
  ·exact this
theorem A7{S:LT}(nd:S.Nodup){i:Nat}(hi:i<S.length):∀{j:Nat},i<j->j<=S.length->S[i]∈bD S j->S[i]∈bD S (i+1):=by
 intro j hij;induction hij with
 |refl=>intro _ h;exact h
 |step h ih =>
  intro hj hx;rename_i j;have hij':i+1<=j:=h;rw[fB ∅]at hx;unfold hV at hx;split at hx
  ·rcases Zs.mp hx with hx|hx
   ·exact ih ∅ hx
   ·exfalso;have e:=Zd.mp hx;rw[List.nodup_iff_pairwise_ne,Z7]at nd;exact nd i j hi ∅ ∅ e
  ·exact ih ∅ hx
theorem vq{n:Nat}{S:LT}(u:UN n (vals S)):S.Nodup:=by have:=u.uni;unfold vals at this;rw[List.pairwise_map]at this;exact this.imp fun{a b} h z=>h (by rw[z])
theorem Df{n:Nat}{S:LT}(u:UN n (vals S))(hs:(vals S).Pairwise λd e=>¬kLt e d):Sat n (vals S) (vals (bD S S.length)):=λd hd h=>by
 obtain⟨x,hx,rfl⟩:=Zm.mp hd;obtain⟨k,hk,rfl⟩:=Yb.mp hx;have nd:=vq u;have subM:=(dl S S.length (Za _)).trans (YG _ _);have uM:=u.sub (fA subM);have cM:=qm u S.length (Za _);by_cases c:∃i,i<n/\aV S[k].2 i>0/\∃e∈vals (bD S S.length),e.h=i/\au e.ns e.h=aV S[k].2 i/\leC e.ns S[k].2.ns/\e.ns=S[k].2.ns
 ·obtain⟨i,hi,hl,e,he,e1,e2,e3,e4⟩:=c;have ne:i≠S[k].2.h:=λz=>by rw[z,fE]at e2;rw[e4,e1,z]at e2;omega
  obtain⟨j,hj,rfl⟩:=Yb.mp he;have lh:aV (vals (bD S S.length))[j] S[k].2.h=au S[k].2.ns S[k].2.h:=by rw[xX (by rw[e1];exact λz=>ne z.symm),e4]
  obtain⟨x,hx,x1,x2,x3⟩:=cM j hj S[k].2.h (u.len _ hd).2 (by rw[lh];exact u.own _ hd);have hx':=List.mem_of_mem_take hx;rw[lh]at x2;have:x=S[k].2:=lB u.uni ((fA subM).subset hx') hd (by unfold nmK;rw[x2,x1]);rw[<-this];exact hx'
 ·have all:∀i,i<n->aV S[k].2 i>0->An (vals (bD S k)) S[k].2 i:=λi hi hl=>by
   obtain⟨e,he,e1,e2,e3⟩:=h i hi hl;have heS:=(fA subM).subset he;have sl:e.ns.sum<S[k].2.ns.sum:=by
    rcases Jr (by rw[(u.len e heS).1,(u.len _ hd).1]) e3 with z|z
    ·exact absurd #[i,hi,hl,e,he,e1,e2,e3,z] c
    ·exact z
   obtain⟨y,hy,rfl⟩:=Zm.mp he;obtain⟨j,hj,rfl⟩:=Yb.mp (subM.subset hy);have hjk:j<k:=by
    rcases Yp j k with q|q
    ·exact q
    ·exfalso;rcases Yp k j with q2|q2
     ·rw[Z7]at hs;have:=hs k j (by unfold vals;rw[Zb];exact hk) (by unfold vals;rw[Zb];exact hj) q2;simp only[vals,List.getElem_map]at this;exact this (.inl sl)
     ·have:j=k:=∅
      subst this;omega
   refine#[S[j].2,Zm.mpr #[S[j],?_,rfl],e1,e2,e3];exact uy S (show j+1<=k by omega) ∅ _ (A7 nd hj (show j<S.length by omega) (Za _) hy)
  have us:=u.sub (fA ((dl S k ∅).trans (YG _ _)));have ac:=(xA us.uni (u.len _ hd).1).mpr all;have:S[k]∈bD S (k+1):=by rw[fB hk];unfold hV;rw[MO ac];exact Zr _ (Zd.mpr rfl)
  exact Zm.mpr #[S[k],uy S (show k+1<=S.length by omega) (Za _) _ this,rfl]
theorem CN{R:List Dd}(h:R.Pairwise λd e=>¬kLt e d)(u:R.Pairwise λd e=>d.h=e.h->d.ns.sum≠e.ns.sum):R.Pairwise kLt:=by
 refine(List.Pairwise.and h u).imp fun{d e} ⟨h1,h2⟩=>?_;unfold kLt at h1 ⊢;by_cases c:d.h=e.h
 ·have:=h2 c;omega
 ·omega
def tw(l:List Str):TV:=.tup (l.map V.str)
def DT:List (Str×TV):=[("put",tw ["up","place","text"]),("move",tw ["item","up","place"]),("write",tw ["item","text"]),("mark",tw ["item","truth"]),("due",tw ["item","whom"]),("fold",tw ["item","truth"]),("part",tw ["item","at","place"]),("join",tw ["item","item"]),("take",tw ["item"]),("back",tw ["item"]),("off",tw ["number"]),("on",tw ["number"]),("none",tw [])]
inductive Kd|u|p|t|i|b|w|a|n
deriving DecidableEq
def nm:Kd->Str
 |.u=>"up" |.p=>"place" |.t=>"text" |.i=>"item" |.b=>"truth" |.w=>"whom" |.a=>"at" |.n=>"number"
def Ax(c:Nat):Bool:=(decide ((32:Int)<=c)&&decide ((c:Int)<=126))&&!decide ((c:Int)=37)
def pP(x:Str):Bool:=x.cps.toList.all Ax
def nmL(hd:Int)(ns:M5):M5:=[hd,au ns hd.toNat]
def iw(hd:Int)(ns:M5)(i j:Int):Bool:=(decide (0<=i)&&(decide (i<ns.length)&&decide (1<=j)))&&(decide (j<=au ns i.toNat)&&!decide ([i,j]=nmL hd ns))
inductive PartR(H:Hp)(hd:Int)(ns:M5):Kd->V->Prop
 |it (a:MU) (i j:Int) (e:H a=some (.tup ([i,j].map V.int))) (k:iw hd ns i j=true):PartR H hd ns .i (.ref a)
 |u0:PartR H hd ns .u .non
 |up (a:MU) (i j:Int) (e:H a=some (.tup ([i,j].map V.int))) (k:iw hd ns i j=true):PartR H hd ns .u (.ref a)
 |pl (a:MU) (ms:M5) (e:H a=some (.tup (ms.map V.int))) (h1:1<=ms.length) (h2:ms.length<=64):PartR H hd ns .p (.ref a)
 |tx (x:Str) (hl:x.length<=60) (ha:x.cps.all (·<128)=true) (e:pP x=true):PartR H hd ns .t (.str x)
 |bl (b:Bool):PartR H hd ns .b (.bl b)
 |w0:PartR H hd ns .w .non
 |at(i:Int) (h:0<=i):PartR H hd ns .a (.int i)
 |nu (i:Int) (h1:1<=i) (h2:i<au ns hd.toNat):PartR H hd ns .n (.int i)
theorem PartR.same{H H':Hp}{hd:Int}{ns:M5}{k:Kd}{v:V}(r:PartR H hd ns k v)(s:Same H H'):PartR H' hd ns k v:=by
 cases r with
 |it a i j e k=>exact .it a i j (s _ _ e) k
 |u0=>exact .u0
 |up a i j e k=>exact .up a i j (s _ _ e) k
 |pl a ms e h1 h2=>exact .pl a ms (s _ _ e) h1 h2
 |tx x hl ha e=>exact .tx x hl ha e
 |bl b=>exact .bl b
 |w0=>exact .w0
 | «at» i h=>exact .at i h
 |nu i h1 h2=>exact .nu i h1 h2
abbrev uu(H:Hp)(hd:Int)(ns:M5)(ks:List Kd)(ps:Nh):Prop:=Paired (PartR H hd ns) ks ps
inductive WhatR(H:Hp)(hd:Int)(ns:M5):V->Prop
 |is {a:MU} {k:Str} {ps:Nh} {ks:List Kd} (e:H a=some (.tup (.str k::ps))) (hk:PyProof.Rows.KTD.datumAt k DT=some (tw (ks.map nm))) (hl:ks.length<=60) (p:uu H hd ns ks ps):WhatR H hd ns (.ref a)
theorem WhatR.same{H H':Hp}{hd:Int}{ns:M5}{v:V}(r:WhatR H hd ns v)(s:Same H H'):WhatR H' hd ns v:=by
 cases r with
 |is e hk hl p=>exact .is (s _ _ e) hk hl (Paired.mapP p λ_ _ z=>z.same s)
inductive DeedR(H:Hp)(h:Int):V->Prop
 |is {a c:MU} {i:Int} {ns:M5} {z:V} (e:H a=some (.tup [.int i,.ref c,z])) (i0:0<=i) (i1:i<h) (ec:H c=some (.tup (ns.map V.int))) (hl:(ns.length:Int)=h) (hn:∀n∈ns,0<=n) (h8:ns.length<=60) (h1:1<=au ns i.toNat) (r:WhatR H i ns z):DeedR H h (.ref a)
def rq:Sp:=λvs H Q _=>∃i:Int,vs=[.int i]/\Q (.bl true) H
def jP:Sp:=λvs H Q _=>∃i lo:Int,vs=[.int i,.int lo]/\lo<=i/\Q (.bl true) H
def yt:Sp:=λvs H Q _=>∃(a:MU) (i j h:Int),vs=[.ref a,.int h]/\H a=some (.tup ([i,j].map V.int))/\0<=i/\i<h/\1<=j/\Q (.bl true) H
def sg:Sp:=λvs H Q _=>∃(a:MU) (ns:M5),vs=[.ref a,.int (ns.length:Int)]/\H a=some (.tup (ns.map V.int))/\ns.length<=60/\(∀n∈ns,0<=n)/\∀H',Same H H'->Q (.bl true) H'
def rC:Sp:=λvs H Q _=>∃(a b:MU) (xs:Nh) (i j z:Int),vs=[.ref a,.ref b]/\H a=some (.tup xs)/\H b=some (.tup [.int i,.int j])/\atI xs i=some (.int z)/\Q (.bl (decide (j<=z))) H
def wg:Sp:=λvs H Q _=>∃(k:Str) (v:TV),vs=[.str k]/\PyProof.Rows.KTD.datumAt k DT=some v/\Q (.bl true) H
def yu(K:W.Frag):Sp:=λvs H Q _=>∃(k:Str) (ws:List Str),vs=[.str k]/\PyProof.Rows.KTD.datumAt k DT=some (tw ws)/\∀t,(∀H',SqT K H' t (ws.map V.str))->Q (.ref t) H
def sh:Sp:=λvs H Q _=>∃(a:MU) (ns:M5),vs=[.ref a]/\H a=some (.tup (ns.map V.int))/\1<=ns.length/\ns.length<=64/\∀H',Same H H'->Q (.bl true) H'
def CK:Sp:=λvs H Q _=>∃c:Nat,vs=[.str #[(List.toArray [c])]]/\Ax c=true/\Q (.bl true) H
def wc:Sp:=λvs H Q _=>∃x:Str,vs=[.str x]/\x.length<=1000/\x.cps.all (·<128)=true/\pP x=true/\∀H',Same H H'->Q (.bl true) H'
def vY:Sp:=λvs H Q _=>∃i h:Int,vs=[.int i,.int h]/\0<=i/\i<h/\Q (.bl true) H
def yr:Sp:=λvs H Q _=>∃(a c:MU) (hd i j:Int) (ns:M5),vs=[.ref a,.int hd,.ref c]/\H c=some (.tup (ns.map V.int))/\0<=hd/\hd<ns.length/\H a=some (.tup ([i,j].map V.int))/\iw hd ns i j=true/\∀H',Same H H'->Q (.bl true) H'
def wb:Sp:=λvs H Q _=>∃(k:Kd) (v:V) (c:MU) (hd:Int) (ns:M5),vs=[.str (nm k),v,.int hd,.ref c]/\H c=some (.tup (ns.map V.int))/\0<=hd/\hd<ns.length/\PartR H hd ns k v/\∀H',Same H H'->Q (.bl true) H'
def we:Sp:=λvs H Q _=>∃(v:V) (c:MU) (hd:Int) (ns:M5),vs=[v,.int hd,.ref c]/\H c=some (.tup (ns.map V.int))/\0<=hd/\hd<ns.length/\WhatR H hd ns v/\∀H',Same H H'->Q (.bl true) H'
def CI:Sp:=λvs H Q _=>∃(v:V) (h:Int),vs=[v,.int h]/\DeedR H h v/\∀H',Same H H'->Q (.bl true) H'
def WR(H:Hp)(v:V):Wh->Prop
 |.no=>∃p,v=.ref p/\H p=some (.tup [.str "none"])
 |.put m=>∃p q,v=.ref p/\H p=some (.tup [.str "put",.non,.ref q,.str ""])/\H q=some (.tup ([m].map V.int))
 |.itm c h k=>∃p q r,v=.ref p/\H p=some (.tup (.str (iW c)::.ref q::iR q r c))/\H q=some (.tup ([h,k].map V.int))/\H r=some (.tup ([iN c].map V.int))
 |.trn b k=>∃p,v=.ref p/\H p=some (.tup [.str (ofW b),.int k])
def DR(H:Hp)(a:MU)(d:Dd):Prop:=∃(c:MU) (v:V),H a=some (.tup [.int (d.h:Int),.ref c,v])/\H c=some (.tup (d.ns.map V.int))/\WR H v d.w/\d.h<d.ns.length/\d.ns.length<=8
def aE(L:LT):Nh:=L.map λx=>V.ref x.1
theorem cC(L:LT):(aE L).length=L.length:=Zb ..
theorem kQ(L:LT):(vals L).length=L.length:=Zb ..
def LR(H:Hp)(l:MU)(L:LT):Prop:=H l=some (.lst (aE L))/\∀x∈L,DR H x.1 x.2
def TS(H H':Hp):Prop:=∀a zs,H a=some (.tup zs)->H' a=some (.tup zs)
theorem Na{H H':Hp}(e:Same H H'):TS H H':=λa zs h=>e a _ h
theorem TS.trans{H H' H2:Hp}(e:TS H H')(f:TS H' H2):TS H H2:=λa zs h=>f a zs (e a zs h)
theorem on{T:MU}{H H':Hp}(hT:∀zs,H T≠some (.tup zs))(s:SameT T H H'):TS H H':=λa zs h=>s a _ h λz=>hT zs (by rw[<-z];exact h)
theorem dh{H:Hp}{p:MU}{o:HO}(hp:∀zs,H p≠some (.tup zs)):TS H (upd H p o):=λa zs h=>by rw[ah (λz=>hp zs (by rw[<-z];exact h))];exact h
theorem WR.ts{H H':Hp}{v:V}{w:Wh}(x:WR H v w)(e:TS H H'):WR H' v w:=by
 cases w with
 |no =>obtain⟨p,h1,h2⟩:=x;exact#[p,h1,e _ _ h2]
 |put m =>obtain⟨p,q,h1,h2,h3⟩:=x;exact#[p,q,h1,e _ _ h2,e _ _ h3]
 |itm c h k =>obtain⟨p,q,r,h1,h2,h3,h4⟩:=x;exact#[p,q,r,h1,e _ _ h2,e _ _ h3,e _ _ h4]
 |trn b k =>obtain⟨p,h1,h2⟩:=x;exact#[p,h1,e _ _ h2]
theorem DR.ts{H H':Hp}{a:MU}{d:Dd}(x:DR H a d)(e:TS H H'):DR H' a d:=by obtain⟨c,v,h1,h2,h3,h4⟩:=x;exact#[c,v,e _ _ h1,e _ _ h2,h3.ts e,h4]
theorem DR.same{H H':Hp}{a:MU}{d:Dd}(x:DR H a d)(e:Same H H'):DR H' a d:=x.ts (Na e)
theorem LR.same{H H':Hp}{l:MU}{L:LT}(x:LR H l L)(e:Same H H'):LR H' l L:=#[e _ _ x.1,λy hy=>(x.2 y hy).same e]
theorem at0{x:V}{r:Nh}:atI (x::r) 0=some x:=fD (xs:=x::r) (j:=0) rfl
theorem at1{x y:V}{r:Nh}:atI (x::y::r) 1=some y:=fD (xs:=x::y::r) (j:=1) rfl
theorem vh{ns:M5}{k:Nat}(h:k<ns.length):atI (ns.map V.int) (k:Int)=some (.int (au ns k)):=by have:=dq (ns:=ns) (k:=(k:Int)) ∅ ∅;rw[show((k:Int)).toNat=k by omega]at this;exact this
theorem nY{L:LT}{k:Nat}{x:V}(h:(aE L)[k]?=some x):∃hk:k<L.length,x=.ref L[k].1:=by
 have hk:k<L.length:=by have:=(Zi.mp h).1;rw[cC]at this;exact this
 refine#[hk,?_];unfold aE at h;rw[ZE,Zj hk]at h;exact(Zn h).symm
def nD(h k:Int):PyData:=.tuple [.int h,.int k]
def iD(h k:Int):Ik->List PyData
 |.take=>[]|.back=>[]|.join=>[nD h k]|.mark=>[.bool true]|.part=>[.int 0,.tuple [.int 0]]|.move=>[.none,.tuple [.int 1]]|.write=>[.str "a"]|.due=>[.none]|.fold=>[.bool false]
def wD:Wh->PyData
 |.no=>.tuple [.str "none"]
 |.put m=>.tuple [.str "put",.none,.tuple [.int m],.str ""]
 |.itm c h k=>.tuple (.str (iW c)::nD h k::iD h k c)
 |.trn b k=>.tuple [.str (ofW b),.int k]
def dD(d:Dd):PyData:=.tuple [.int (d.h:Int),.tuple (d.ns.map .int),wD d.w]
theorem jD{H:Hp}:∀ns:M5,DtAll H (ns.map .int) (ns.map V.int)
 | []=>by simp[DtAll]
 |n::ns=>by show DtAll H (PyData.int n::ns.map .int) (V.int n::ns.map V.int);simp only[DtAll];exact#[_,_,rfl,by simp only[Dt],jD ns]
theorem WR.dt{H:Hp}{v:V}{w:Wh}(x:WR H v w):Dt H (wD w) v:=by
 cases w with
 |no =>obtain⟨p,rfl,h2⟩:=x;unfold wD;simp only[Dt,DtAll];exact#[p,_,rfl,.inl h2,_,_,rfl,rfl,rfl]
 |put m =>obtain⟨p,q,rfl,h2,h3⟩:=x;unfold wD;simp only[Dt,DtAll];exact#[p,_,rfl,.inl h2,_,_,rfl,rfl,_,_,rfl,rfl,_,_,rfl,#[q,_,rfl,.inl h3,_,_,rfl,rfl,rfl],_,_,rfl,rfl,rfl]
 |itm c h k =>
  obtain⟨p,q,r,rfl,h2,h3,h4⟩:=x;have hn:Dt H (nD h k) (.ref q):=by unfold nD;simp only[Dt,DtAll];exact#[q,_,rfl,.inl h3,_,_,rfl,rfl,_,_,rfl,rfl,rfl]
  have hr:Dt H (.tuple [.int (iN c)]) (.ref r):=by simp only[Dt,DtAll];exact#[r,_,rfl,.inl h4,_,_,rfl,rfl,rfl]
  have ha:DtAll H (iD h k c) (iR q r c):=by
   cases c with
   |take=>exact rfl
   |back=>exact rfl
   |join=>exact#[_,_,rfl,hn,rfl]
   |mark=>exact#[_,_,rfl,rfl,rfl]
   |part=>exact#[_,_,rfl,rfl,_,_,rfl,hr,rfl]
   |move=>exact#[_,_,rfl,rfl,_,_,rfl,hr,rfl]
   |write=>exact#[_,_,rfl,rfl,rfl]
   |due=>exact#[_,_,rfl,rfl,rfl]
   |fold=>exact#[_,_,rfl,rfl,rfl]
  unfold wD;simp only[Dt];exact#[p,_,rfl,.inl h2,_,_,rfl,rfl,_,_,rfl,hn,ha]
 |trn b k =>obtain⟨p,rfl,h2⟩:=x;unfold wD;simp only[Dt,DtAll];exact#[p,_,rfl,.inl h2,_,_,rfl,rfl,_,_,rfl,rfl,rfl]
theorem DR.dt{H:Hp}{a:MU}{d:Dd}(x:DR H a d):Dt H (dD d) (.ref a):=by obtain⟨c,v,h1,h2,h3,_⟩:=x;have dw:=h3.dt;have dn:=jD (H:=H) d.ns;unfold dD;simp only[Dt,DtAll];exact#[a,_,rfl,.inl h1,_,_,rfl,rfl,_,_,rfl,#[c,_,rfl,.inl h2,dn],_,_,rfl,dw,rfl]
def WOk(_:Wh):Prop:=True
theorem nJ:∀ns:M5,PyData.canLayAll0 (ns.map .int)=true/\PyData.depthAll (ns.map .int)<=1
 | []=>#[rfl,by simp[PyData.depthAll]]
 |n::ns=>by obtain⟨h1,h2⟩:=nJ ns;simp only[Z1,PyData.canLayAll0,PyData.depthAll,PyData.canLay0,PyData.depth,h1];exact#[rfl,∅]
theorem EV(b:Bool):PyData.strOk (ofW b)=true:=by cases b<;>decide +kernel
theorem EQ{w:Wh}(h:WOk w):(wD w).canLay0=true/\(wD w).depth<=3:=by
 cases w with
 |no=>exact#[by simp[wD,PyData.canLay0,PyData.canLayAll0];decide +kernel,by simp[wD,PyData.depth,PyData.depthAll]]
 |put m =>refine#[?_,by simp[wD,PyData.depth,PyData.depthAll]];simp[wD,PyData.canLay0,PyData.canLayAll0];decide +kernel
 |itm c h k =>refine#[?_,by cases c<;>simp[wD,iD,nD,PyData.depth,PyData.depthAll]];cases c<;>simp[wD,iD,nD,iW,PyData.canLay0,PyData.canLayAll0]<;>decide +kernel
 |trn b k =>refine#[?_,by simp[wD,PyData.depth,PyData.depthAll]];simp[wD,PyData.canLay0,PyData.canLayAll0,EV]
theorem EO{d:Dd}(h:WOk d.w):(dD d).canLay0=true/\(dD d).depth<=4:=by obtain⟨a1,a2⟩:=nJ d.ns;obtain⟨b1,b2⟩:=EQ h;unfold dD;simp only[PyData.canLay0,PyData.canLayAll0,PyData.depth,PyData.depthAll,a1,b1];exact#[rfl,∅]
def wq:Sp:=λvs H Q _=>∃(a b:MU) (ns ms:M5),vs=[.ref a,.ref b]/\H a=some (.tup (ns.map V.int))/\H b=some (.tup (ms.map V.int))/\ns.length=ms.length/\ns.length<=8/\∀H',Same H H'->Q (.bl (ie ns ms)) H'
def cE:Sp:=λvs H Q _=>∃(a:MU) (d:Dd),vs=[.ref a]/\DR H a d/\∀p H',Same H H'->H' p=some (.tup ((nmZ d).map V.int))->Q (.ref p) H'
def NA(H:Hp)(d:Dd)(as:List MU)(is:List Nat):Prop:=as.length=is.length/\∀(k:Nat) (b:MU) (i:Nat),as[k]?=some b->is[k]?=some i->H b=some (.tup ([(i:Int),aV d i].map V.int))
def yq:Sp:=λvs H Q _=>∃(a:MU) (d:Dd),vs=[.ref a]/\DR H a d/\∀p H' as,Same H H'->H' p=some (.lst (as.map V.ref))->NA H' d as (fm d)->Q (.ref p) H'
def CF:Sp:=λvs H Q _=>∃(a nm r:MU) (d:Dd) (i:Nat) (R:LT) (n:Nat),vs=[.ref a,.ref nm,.ref r]/\DR H a d/\H nm=some (.tup ([(i:Int),aV d i].map V.int))/\H r=some (.dT (bH R))/\(∀x∈R,DR H x.1 x.2)/\(∀x∈R,x.2.ns.length=n)/\d.ns.length=n/\∀H',Same H H'->Q (.bl (ji (vals R) d i)) H'
theorem mL(R:LT)(k:List Key):aH (bH R) k=(R.find? λx=>decide (nmK x.2=k)).map λx=>V.ref x.1:=by unfold aH bH;rw[List.find?_map,Option.map_map];rfl
theorem Bu(R:LT)(k:List Key):(vals R).find? (λe=>decide (nmK e=k))=(R.find? λx=>decide (nmK x.2=k)).map Prod.snd:=by unfold vals;rw[List.find?_map];rfl
def CG(K:W.Frag):Sp:=λvs H Q _=>∃(a:MU) (ns:M5) (k:Int),vs=[.ref a,.int k]/\SqL K H a (ns.map V.int)/\0<=k/\Q (.int (au ns k.toNat)) H
def JQ:Sp:=λvs H Q _=>∃(a:MU) (d:Dd),vs=[.ref a]/\DR H a d/\∀p H',Same H H'->H' p=some (.tup ((kyZ d).map V.int))->Q (.ref p) H'
section
variable{P:MX}{w:MY}{K:W.Frag}{mg:MR}{base:Heap}
abbrev jv:Stmt:=top 2
abbrev wK:List Str:=["thing"]
theorem vS:FnScope wK ["thing"] (aj jv):= ~~~0
theorem vC{f:MU}{fd:M0}(F:Fun K "is_number" "is_number" jv f fd)(a7:mg "isinstance" = none)(K4:mg "int" = none)(KZ:mg "bool" = none):↑FnOk CX0 1 f fd ["thing"] rq:=by
 exists vS
 obtain⟨i,rfl,q⟩:=h;exists _,(b_1 (am (cG (q_B gg a7 aZ (q_a ↑0 (q_a (jp K4 nq) ag))) (cP (tS (q_B gg a7 aZ (q_a ↑0 (q_a (jp KZ rL) ag))))))))
 exact#[_,rfl,_,"int",.type "int",true,rfl,.int i,Fs (H:=H) (.int i),_,rfl,aK #[_,rfl,_,"bool",.type "int",false,rfl,.int i,vb (H:=H) (.int i),_,rfl,q]]
abbrev kI:Stmt:=top 3
abbrev yK:List Str:=["thing","low"]
theorem xq:FnScope yK ["thing","low"] (aj kI):= ~~~0
theorem xf{f:MU}{fd:M0}(F:Fun K "is_whole" "is_whole" kI f fd)(j2:↑Fn 1 "is_number" ["thing"] rq):↑FnOk CX0 2 f fd ["thing","low"] jP:=by
 exists xq
 obtain⟨i,lo,rfl,hl,q⟩:=h;exists _,(b_1 (am (cG (aw j2 ↑99 (q_a ↑0 ag)) (cP (cA DK ↑0 ↑1)))))
 refine#[_,rfl,i,rfl,_,rfl,aK #[_,rfl,_,rfl,i,lo,rfl,rfl,?_]];rw[decide_eq_true hl];exact q
abbrev lU:Stmt:=top 4
abbrev AQ:List Str:=["thing","hands"]
theorem Ap:FnScope AQ ["thing","hands"] (aj lU):= ~~~0
theorem zS{f:MU}{fd:M0}(F:Fun K "is_name" "is_name" lU f fd)(d7:↑Fn 2 "is_whole" ["thing","low"] jP)(a7:mg "isinstance" = none)(b9:mg "tuple" = none)(a8:mg "len" = none):↑FnOk CX0 3 f fd ["thing","hands"] yt:=by
 exists Ap
 obtain⟨a,i,j,h,rfl,e,i0,i1,j1,q⟩:=h;exists _,(b_c (aJ (t_w (gY (fj (bY (q_B gg a7 aZ (q_a ↑0 (q_a (jp b9 dA) ag))))) (fQ (ax lD (q_B dR a8 Z0 (q_a ↑0 ag)) ai)))) (b_1 (am eJ)) b_0)
   (b_1 (am (cG (aw d7 ↑99 (q_a (aq ao ↑0 ai) (q_a ai ag))) (cG (cA qI (aq ao ↑0 ai) ↑1) (cP (aw d7 ↑99 (q_a (aq ao ↑0 ai) (q_a ai ag)))))))))
 refine#[_,rfl,.ref a,"tuple",.type "tuple",true,rfl,.tup e,dC (b:=true) ⋯ nofun,_,rfl,aD ?_];refine#[_,rfl,a,_,rfl,.inr (Nb e),rfl,_,rfl,jd rfl ?_];refine#[_,rfl,a,_,_,_,rfl,rfl,Nb e,rfl,i,0,rfl,i0,_,rfl,aK #[_,rfl,a,_,_,_,rfl,rfl,Nb e,rfl,_,rfl,_,_,rfl,rfl,_,rfl,?_]];rw[decide_eq_true i1];exact aK #[_,rfl,a,_,_,_,rfl,rfl,Nb e,rfl,j,1,rfl,j1,q]
theorem jS(n:Nat):((List.range n).map λ_=>true).all id=true:=by simp
theorem kl{n:Nat}:(List.range n).map (λ_=>V.bl true)=((List.range n).map λ_=>true).map V.bl:=by rw[x4];rfl
abbrev kG:Stmt:=top 5
abbrev yI:List Str:=["thing","hands"]
theorem xn:FnScope yI ["thing","hands"] (aj kG):= ~~~0
theorem xa{f:MU}{fd:M0}(F:Fun K "is_clock" "is_clock" kG f fd)(d7:↑Fn 2 "is_whole" ["thing","low"] jP)(a7:mg "isinstance" = none)(b9:mg "tuple" = none)(a8:mg "len" = none)(h9:mg "all" = none):↑FnOk CX0 3 f fd ["thing","hands"] sg:=by
 exists xn
 obtain⟨a,ns,rfl,e,hl,hn,q⟩:=h;exists _,(b_c (aJ (t_w (gY (fj (bY (q_B gg a7 aZ (q_a ↑0 (q_a (jp b9 dA) ag))))) (fQ (ax lD (q_B dR a8 Z0 (q_a ↑0 ag)) ↑1)))) (b_1 (am eJ)) b_0)
   (b_1 (am (q_B (jT rfl) h9 eg (q_a (cK (own:=["number"]) (#[rfl,⋯,⋯,rfl,trivial]:CompOk _ _ [] []) rfl (EL ↑0) (λ_ _ _ _=>aA (i:=0) (show (["number"]:List Str).Nodup by decide)) (aM ⋯) (λ_ _ _ _=>ip) (λ_ _ _ _=>(aw d7 ↑99 (q_a ↑0 (q_a ai ag))))) ag)))))
 refine#[_,rfl,.ref a,"tuple",.type "tuple",true,rfl,.tup e,dC (b:=true) ⋯ nofun,_,rfl,aD ?_];refine#[_,rfl,a,_,rfl,.inr (Nb e),_,rfl,rfl,_,rfl,jd (by rw[Zb]) ?_];refine#[_,rfl,a,rfl,#[_,Nb e],?_];refine uH (xs:=ns.map V.int) (λ_=>.bl true) (by rw[Zb];omega) (Nb e) (λi x H1 hi sm R k=>?_) (λp H1 sm hp=>?_)
 ·obtain⟨n,hm,rfl⟩:=Zm.mp (Zv hi);exact#[_,rfl,n,0,rfl,hn n hm,k H1 (Same.refl H1)]
 ·refine#[p,_,rfl,Nc (by rw[ad,kl]),?_];rw[jS];exact q _ (sm.trans (af hp _))
abbrev kH:Stmt:=top 27
abbrev yJ:List Str:=["thing"]
theorem xp:FnScope yJ ["thing"] (aj kH):= ~~~0
theorem xb{f:MU}{fd:M0}{tk:Tok}(F:Fun K "is_place" "is_place" kH f fd)(j2:↑Fn 1 "is_number" ["thing"] rq)(a7:mg "isinstance" = none)(b9:mg "tuple" = none)(a8:mg "len" = none)(h9:mg "all" = none)(u7:mg "MOST_NUMBERS" = some (.int 64 tk)):↑FnOk CX0 2 f fd ["thing"] sh:=by
 exists xp
 obtain⟨a,ns,rfl,e,h1,h2,q⟩:=h;exists _,(b_c (aJ (t_w (gY (fj (bY (q_B gg a7 aZ (q_a ↑0 (q_a (jp b9 dA) ag))))) (fQ (fj (Gx qH qH ai (q_B dR a8 Z0 (q_a ↑0 ag)) (iE u7)))))) (b_1 (am eJ)) b_0)
   (b_1 (am (q_B (jT rfl) h9 eg (q_a (cK (own:=["number"]) (#[rfl,⋯,⋯,rfl,trivial]:CompOk _ _ [] []) rfl (EL ↑0) (λ_ _ _ _=>aA (i:=0) (show (["number"]:List Str).Nodup by decide)) (aM ⋯) (λ_ _ _ _=>ip) (λ_ _ _ _=>(aw j2 ↑99 (q_a ↑0 ag)))) ag)))))
 refine#[_,rfl,.ref a,"tuple",.type "tuple",true,rfl,.tup e,dC (b:=true) ⋯ nofun,_,rfl,aD ?_];refine#[_,rfl,a,_,rfl,.inr (Nb e),_,_,rfl,rfl,_,rfl,?_];rw[Zb,decide_eq_true ∅];refine aK #[_,_,rfl,rfl,_,rfl,?_];rw[decide_eq_true ∅];refine aD #[_,rfl,a,rfl,#[_,Nb e],?_];refine uH (xs:=ns.map V.int) (λ_=>.bl true) (by rw[Zb];omega) (Nb e) (λi x H1 hi sm R k=>?_) (λp H1 sm hp=>?_)
 ·obtain⟨n,hm,rfl⟩:=Zm.mp (Zv hi);exact#[_,rfl,n,rfl,k H1 (Same.refl H1)]
 ·refine#[p,_,rfl,Nc (by rw[ad,kl]),?_];rw[jS];exact q _ (sm.trans (af hp _))
abbrev qZ:Stmt:=top 9
abbrev Fd:List Str:=["clock","name"]
theorem En:FnScope Fd ["clock","name"] (aj qZ):= ~~~0
theorem DQ{f:MU}{fd:M0}(F:Fun K "tells" "tells" qZ f fd):↑FnOk CX0 1 f fd ["clock","name"] rC:=by
 exists En
 obtain⟨a,b,xs,i,j,z,rfl,hA,hB,hz,q⟩:=h;exists _,(b_1 (am (cA DK (aq ao ↑0 (aq ao ↑1 ai)) (aq ao ↑1 ai))))
 exact#[_,rfl,_,rfl,b,_,_,_,rfl,rfl,Nb hB,rfl,a,_,_,_,rfl,rfl,Nb hA,hz,_,rfl,b,_,_,_,rfl,rfl,Nb hB,rfl,_,_,rfl,rfl,q]
abbrev fX:Stmt:=top 13
abbrev qi:List Str:=["thing"]
theorem pJ:FnScope qi ["thing"] (aj fX):= ~~~0
abbrev iP:Stmt:=top 14
abbrev ul:List Str:=["word"]
theorem tH:FnScope ul ["word"] (aj iP):= ~~~0
theorem pD{f:MU}{fd:M0}(F:Fun K "is_deed_word" "is_deed_word" fX f fd){dd:MU}(i8:mg "DEED_PARTS" = some (.ref dd))(T:Tab K dd DT)(a7:mg "isinstance" = none)(Lz:mg "str" = none):↑FnOk CX0 1 f fd ["thing"] wg:=by
 exists pJ
 obtain⟨k,v,rfl,hk,q⟩:=h;exists _,(b_1 (am (cG (q_B gg a7 aZ (q_a ↑0 (q_a (jp Lz uB) ag))) (cP (cA FA ↑0 (Ah i8))))))
 refine#[_,rfl,.str k,"str",.type "str",true,rfl,.str _,dC (b:=true) ⋯ nofun,_,rfl,aK #[_,rfl,dd,k,DT,rfl,rfl,T,?_]];rw[hk];exact q
theorem sZ{f:MU}{fd:M0}(F:Fun K "deed_parts" "deed_parts" iP f fd){dd:MU}(i8:mg "DEED_PARTS" = some (.ref dd))(T:Tab K dd DT):↑FnOk CX0 1 f fd ["word"] (yu K):=by
 exists tH
 obtain⟨k,ws,rfl,hk,q⟩:=h;exists _,(b_1 (am (aq AI (Ah i8) ↑0)))
 exact#[_,rfl,dd,k,DT,tw ws,rfl,rfl,T,hk,q]
abbrev lX:Stmt:=top 37
abbrev AT:List Str:=["sign"]
theorem Ar:FnScope AT ["sign"] (aj lX):= ~~~0
theorem zU{f:MU}{fd:M0}{t1 t2 t3:Tok}(F:Fun K "is_sign" "is_sign" lX f fd)(Mo:mg "ord" = none)(Kw:mg "FIRST_SIGN" = some (.int 32 t1))(KR:mg "LAST_SIGN" = some (.int 126 t2))(u8:mg "PERCENT_SIGN" = some (.int 37 t3)):↑FnOk CX0 1 f fd ["sign"] CK:=by
 exists Ar
 obtain⟨c,rfl,hc,q⟩:=h;exists _,(b_1 (am (cG (Gh qH qH (iE Kw) (q_B ED Mo PyProof.Rows.bootS_ord (q_a ↑0 ag)) (iE KR)) (cP (cA lD (q_B ED Mo PyProof.Rows.bootS_ord (q_a ↑0 ag)) (iE u8))))))
 unfold Ax at hc;simp only[Zw,decide_eq_true_eq,Bool.not_eq_true',decide_eq_false_iff_not]at hc;refine#[_,rfl,c,rfl,_,_,rfl,rfl,_,rfl,?_];rw[decide_eq_true hc.1.1];refine aK #[_,_,rfl,rfl,_,rfl,?_];rw[decide_eq_true hc.1.2];refine aK #[_,rfl,c,rfl,rfl,?_];rw[decide_eq_false (λy=>hc.2 (V.int.inj y))];exact q
abbrev lY:Stmt:=top 36
abbrev AU:List Str:=["thing"]
theorem As:FnScope AU ["thing"] (aj lY):= ~~~0
theorem zV{f:MU}{fd:M0}(F:Fun K "is_text" "is_text" lY f fd)(Lg:↑Fn 1 "is_sign" ["sign"] CK)(a7:mg "isinstance" = none)(Lz:mg "str" = none)(h9:mg "all" = none):↑FnOk CX0 2 f fd ["thing"] wc:=by
 exists As
 obtain⟨x,rfl,hl,ha,hs,q⟩:=h;exists _,(b_1 (am (cG (q_B gg a7 aZ (q_a ↑0 (q_a (jp Lz uB) ag))) (cP (q_B (jT rfl) h9 eg (q_a (cK (own:=["sign"]) (#[rfl,⋯,⋯,rfl,trivial]:CompOk _ _ [] []) rfl (Ji ↑0) (λ_ _ _ _=>aA (i:=0) (show(["sign"]:List Str).Nodup by decide)) (aM ⋯) (λ_ _ _ _=>ip) (λ_ _ _ _=>(aw Lg ↑99 (q_a ↑0 ag)))) ag))))))
 refine#[_,rfl,.str x,"str",.type "str",true,rfl,.str _,dC (b:=true) ⋯ nofun,_,rfl,aK #[_,rfl,x,rfl,ha,?_]];refine Dq (x:=x) (λ_=>.bl true) hl (λi c H1 hi sm R k=>?_) (λp H1 sm hp=>?_)
 ·unfold pP at hs;exact#[_,rfl,c,rfl,Ye.mp hs c (Zv (by rw[YR];exact hi)),k H1 (Same.refl H1)]
 ·refine#[p,_,rfl,Nc (by rw[ad,kl]),?_];rw[jS];exact q _ (sm.trans (af hp _))
abbrev lT:Stmt:=top 42
abbrev AO:List Str:=["thing","hands"]
theorem Ao:FnScope AO ["thing","hands"] (aj lT):= ~~~0
theorem zR{f:MU}{fd:M0}(F:Fun K "is_hand" "is_hand" lT f fd)(d7:↑Fn 2 "is_whole" ["thing","low"] jP):↑FnOk CX0 3 f fd ["thing","hands"] vY:=by
 exists Ao
 obtain⟨i,h,rfl,i0,i1,q⟩:=h;exists _,(b_1 (am (cG (aw d7 ↑99 (q_a ↑0 (q_a ai ag))) (cP (cA qI ↑0 ↑1)))))
 refine#[_,rfl,i,0,rfl,i0,_,rfl,aK #[_,rfl,_,rfl,i,h,rfl,rfl,?_]];rw[decide_eq_true i1];exact q
abbrev fL:Stmt:=top 45
abbrev oJ:List Str:=["thing","hand","clock"]
theorem oq:FnScope oJ ["thing","hand","clock"] (aj fL):= ~~~0
theorem nW{f:MU}{fd:M0}(F:Fun K "is_known_item" "is_known_item" fL f fd)(Lh:↑Fn 3 "is_name" ["thing","hands"] yt)(Ks:↑Fn 1 "tells" ["clock","name"] rC)(a8:mg "len" = none):↑FnOk CX0 4 f fd ["thing","hand","clock"] yr:=by
 exists oq
 obtain⟨a,c,hd,i,j,ns,rfl,hC,d0,d1,e,k,q⟩:=h;exists _,(b_1 (am (cG (aw Lh ↑99 (q_a ↑0 (q_a (q_B dR a8 Z0 (q_a ↑2 ag)) ag))) (cG (aw Ks ↑99 (q_a ↑2 (q_a ↑0 ag))) (cP (cA (pA hr.units) ↑0 (aB (q_a ↑1 (q_a (aq ao ↑2 ↑1) ag)))))))))
 unfold iw at k;simp only[Zw,decide_eq_true_eq,Bool.not_eq_true',decide_eq_false_iff_not]at k;obtain⟨⟨i0,i1,j1⟩,k1,k2⟩:=k;refine#[_,rfl,_,rfl,c,_,rfl,.inr (Nb hC),a,i,j,_,rfl,e,i0,by rw[Zb];exact i1,j1,_,rfl,aK #[_,rfl,_,rfl,c,a,_,i,j,_,rfl,hC,e,dq i0 i1,_,rfl,?_]];rw[decide_eq_true k1];refine aK #[_,rfl,_,rfl,_,rfl,_,rfl,c,_,_,_,rfl,rfl,Nb hC,dq d0 d1,sz rfl,λp g=>?_];have w1:=af g (.tup [.int hd,.int (au ns hd.toNat)]);refine#[a,p,[i,j],nmL hd ns,rfl,rfl,w1 _ _ e,ad,?_];rw[decide_eq_false k2];exact q _ w1
abbrev lV:Stmt:=top 44
abbrev AR:List Str:=["kind","part","hand","clock"]
theorem Aq:FnScope AR ["kind","part","hand","clock"] (aj lV):= ~~~0
theorem zT{f:MU}{fd:M0}{tk:Tok}(F:Fun K "is_part" "is_part" lV f fd)(j4:↑Fn 4 "is_known_item" ["thing","hand","clock"] yr)(K5:↑Fn 2 "is_place" ["thing"] sh)(Li:↑Fn 2 "is_text" ["thing"] wc)(pi:↑Fn 3 "is_hand" ["thing","hands"] vY)(d7:↑Fn 2 "is_whole" ["thing","low"] jP)(a7:mg "isinstance" = none)(KZ:mg "bool" = none)(a8:mg "len" = none)(Kx:mg "MOST_SIGNS" = some (.int 60 tk)):↑FnOk CX0 5 f fd ["kind","part","hand","clock"] wb:=by
 exists Aq
 obtain⟨k,v,c,hd,ns,rfl,hC,d0,d1,hp,q⟩:=h;exists _,(b_c (aJ (ax br ↑0 ar) (b_1 (am (aw j4 ↑99 (q_a ↑1 (q_a ↑2 (q_a ↑3 ag)))))) b_0)
   (b_c (aJ (ax br ↑0 ar) (b_1 (am (Ij (cA pw ↑1 aW) (cP (aw j4 ↑99 (q_a ↑1 (q_a ↑2 (q_a ↑3 ag)))))))) b_0)
   (b_c (aJ (ax br ↑0 ar) (b_1 (am (aw K5 ↑99 (q_a ↑1 ag)))) b_0)
   (b_c (aJ (ax br ↑0 ar) (b_1 (am (cG (aw Li ↑99 (q_a ↑1 ag)) (cP (cA qH (q_B Ba a8 Z0 (q_a ↑1 ag)) (iE Kx)))))) b_0)
   (b_c (aJ (ax br ↑0 ar) (b_1 (am (q_B gg a7 aZ (q_a ↑1 (q_a (jp KZ rL) ag))))) b_0)
   (b_c (aJ (ax br ↑0 ar) (b_1 (am (Ij (cA pw ↑1 aW) (cP (aw pi ↑99 (q_a ↑1 (q_a (q_B dR a8 Z0 (q_a ↑3 ag)) ag))))))) b_0)
   (b_c (aJ (ax br ↑0 ar) (b_1 (am (aw d7 ↑99 (q_a ↑1 (q_a ai ag))))) b_0)
   (b_1 (am (cG (aw d7 ↑99 (q_a ↑1 (q_a ai ag))) (cP (cA qI ↑1 (aq ao ↑3 ↑2)))))))))))))
 have q0:=q H (Same.refl H);have nx:∀{a b:Str} {A B:Prop},a≠b->B->if decide (V.str a=V.str b)=true then A else B:=λh z=>cj (λy=>h (V.str.inj y)) z
 refine#[_,rfl,rfl,_,rfl,?_];cases hp with
 |it a i j e kn=>exact cZ #[_,rfl,_,rfl,_,rfl,a,c,hd,i,j,ns,rfl,hC,d0,d1,e,kn,q]
 |u0=>exact nx ⋯ #[_,rfl,rfl,_,rfl,cZ #[_,rfl,rfl,_,rfl,zp rfl q0]]
 |up a i j e kn=>exact nx ⋯ #[_,rfl,rfl,_,rfl,cZ #[_,rfl,rfl,_,rfl,Jn nofun #[_,rfl,_,rfl,_,rfl,a,c,hd,i,j,ns,rfl,hC,d0,d1,e,kn,q]]]
 |pl a ms e h1 h2=>exact nx ⋯ #[_,rfl,rfl,_,rfl,nx ⋯ #[_,rfl,rfl,_,rfl,cZ #[_,rfl,a,ms,rfl,e,h1,h2,q]]]
 |tx x hl ha e =>refine nx ⋯ #[_,rfl,rfl,_,rfl,nx ⋯ #[_,rfl,rfl,_,rfl,nx ⋯ #[_,rfl,rfl,_,rfl,cZ #[_,rfl,x,rfl,∅,ha,e,λH1 s1=>#[_,rfl,aK #[_,rfl,x,rfl,∅,_,_,rfl,rfl,?_]]]]]];rw[decide_eq_true ∅];exact q H1 s1
 |bl b=>exact nx ⋯ #[_,rfl,rfl,_,rfl,nx ⋯ #[_,rfl,rfl,_,rfl,nx ⋯ #[_,rfl,rfl,_,rfl,nx ⋯ #[_,rfl,rfl,_,rfl,cZ #[_,rfl,_,"bool",.type "bool",true,rfl,.bl b,vb (H:=H) (.bl b),q0]]]]]
 |w0=>exact nx ⋯ #[_,rfl,rfl,_,rfl,nx ⋯ #[_,rfl,rfl,_,rfl,nx ⋯ #[_,rfl,rfl,_,rfl,nx ⋯ #[_,rfl,rfl,_,rfl,nx ⋯ #[_,rfl,rfl,_,rfl,cZ #[_,rfl,rfl,_,rfl,zp rfl q0]]]]]]
 | «at» i h=>exact nx ⋯ #[_,rfl,rfl,_,rfl,nx ⋯ #[_,rfl,rfl,_,rfl,nx ⋯ #[_,rfl,rfl,_,rfl,nx ⋯ #[_,rfl,rfl,_,rfl,nx ⋯ #[_,rfl,rfl,_,rfl,nx ⋯ #[_,rfl,rfl,_,rfl,cZ #[_,rfl,i,0,rfl,h,q0]]]]]]]
 |nu i h1 h2 =>refine nx ⋯ #[_,rfl,rfl,_,rfl,nx ⋯ #[_,rfl,rfl,_,rfl,nx ⋯ #[_,rfl,rfl,_,rfl,nx ⋯ #[_,rfl,rfl,_,rfl,nx ⋯ #[_,rfl,rfl,_,rfl,nx ⋯ #[_,rfl,rfl,_,rfl,nx ⋯ #[_,rfl,i,1,rfl,h1,_,rfl,aK #[_,rfl,_,rfl,_,rfl,c,_,_,_,rfl,rfl,Nb hC,dq d0 d1,_,_,rfl,rfl,?_]]]]]]]];rw[decide_eq_true h2];exact q0
abbrev ma:Stmt:=top 43
abbrev AW:List Str:=["thing","hand","clock","kinds"]
theorem pK:FnScope AW ["thing","hand","clock"] (aj ma):= ~~~0
theorem zX{f:MU}{fd:M0}(F:Fun K "is_what" "is_what" ma f fd)(u9:↑Fn 1 "is_deed_word" ["thing"] wg)(Ky:↑Fn 1 "deed_parts" ["word"] (yu K))(Lj:↑Fn 5 "is_part" ["kind","part","hand","clock"] wb)(a7:mg "isinstance" = none)(b9:mg "tuple" = none)(a8:mg "len" = none)(h9:mg "all" = none)(j6:mg "zip" = none):↑FnOk CX0 6 f fd ["thing","hand","clock"] we:=by
 exists pK
 obtain⟨v,c,hd,ns,rfl,hC,d0,d1,r,q⟩:=h;exists _,(b_c (aJ (t_w (gY (fj (bY (q_B gg a7 aZ (q_a ↑0 (q_a (jp b9 dA) ag))))) (gY (ax br (q_B dR a8 Z0 (q_a ↑0 ag)) ai) (fQ (fj (bY (aw u9 ↑99 (q_a (aq ao ↑0 ai) ag)))))))) (b_1 (am eJ)) b_0)
   (b_c (aC (i:=3) pK.nd (aw Ky ↑99 (q_a (aq ao ↑0 ai) ag)))
   (b_c (aJ (ax lD (q_B dR a8 Z0 (q_a ↑0 ag)) (bg dU (q_B dR a8 Z0 (q_a ↑3 ag)) ai)) (b_1 (am eJ)) b_0)
   (b_1 (am (q_B (jT rfl) h9 eg (q_a (cK (own:=["kind","part"]) (#[rfl,⋯,⋯,rfl,#[rfl,rfl,#[rfl,rfl,trivial]]]:CompOk _ _ [1,2] ["hand","clock"]) rfl (tN j6 (q_a ↑3 (q_a (eL de ↑0 (dP ai) eW) ag))) (λ_ _ _ _=>il (K:=K) (n:=2) rfl rfl (bq (aA (i:=0) (show (["kind","part","hand","clock"]:List Str).Nodup by decide)) (bq (aA (i:=1) (show (["kind","part","hand","clock"]:List Str).Nodup by decide)) eV))) (im (bu (aM ⋯) aP (bu (aM ⋯) aP fR bQ) (ci aP bQ))) (λ_ _ _ _=>ip) (λ_ _ _ _=>(aw Lj ↑99 (q_a ↑0 (q_a ↑1 (q_a ↑2 (q_a ↑3 ag))))))) ag)))))))
 cases r with
 |@is t k ps ks e hk l3 hp =>
  have lw:=ZH hp;refine#[_,rfl,.ref t,"tuple",.type "tuple",true,rfl,.tup e,dC (b:=true) ⋯ nofun,_,rfl,aD ?_];refine#[_,rfl,t,_,rfl,.inr (Nb e),rfl,_,rfl,cj (λz=>by injection z with z;rw[Zu]at z;omega) ?_];refine#[_,rfl,t,_,_,_,rfl,rfl,Nb e,GQ,k,_,rfl,hk,_,rfl,aD ?_];refine#[_,rfl,t,_,_,_,rfl,rfl,Nb e,GQ,k,ks.map nm,rfl,hk,λy hy=>?_];refine#[_,rfl,t,_,rfl,.inr (Nb e),_,rfl,y,_,rfl,.inr (hy H),_,_,rfl,rfl,rfl,_,rfl,jd (by rw[Zu,Zb,Zb,lw];rfl) ?_];have cv:bM (V.str k::ps) (some 1) none=ps:=by unfold bM;rw[HT.sIx_none,vL ⋯,Zu,show((1:Int).toNat)=1 from rfl,YV ∅,List.drop_succ_cons,List.drop_zero,Yd ∅]
  refine#[_,rfl,_,rfl,_,rfl,t,_,rfl,e,λz H0 w1 ez=>?_];rw[cv]at ez;refine#[y,z,_,_,rfl,hy _,Nb ez,by rw[Zb,Zb,lw],?_];refine uI (λ_=>.bl true) (by rw[Zb,Zb];omega) (hy _) (Nb ez) (by rw[Zb,Zb,lw]) (λi x v H1 hx hv sm R kk=>?_) (λp H1 sm hp1=>?_)
  ·rw[ZE,ZE]at hx;cases e:ks[i]? with
   |none=>rw[e]at hx;cases hx
   |some kd =>
    rw[e]at hx;cases hx;have pb:PartR H hd ns kd v:=by
     have gt:∀{ks:List Kd} {ps:Nh},uu H hd ns ks ps->∀{i:Nat},ks[i]?=some kd->ps[i]?=some v->PartR H hd ns kd v:=by
      intro ks ps x;induction x with
      |nil=>intro i h;simp at h
      |cons r _ ih =>
       intro i h1 h2;cases i with
       |zero=>cases h1;cases h2;exact r
       |succ i=>exact ih h1 h2
     exact gt hp e hv
    exact#[_,rfl,_,rfl,_,rfl,_,rfl,kd,v,c,hd,ns,rfl,sm _ _ (w1 _ _ hC),d0,d1,pb.same (w1.trans sm),λH2 s2=>kk H2 s2]
  ·refine#[p,_,rfl,Nc (by rw[ad,kl]),?_];rw[jS];exact q _ (w1.trans (sm.trans (af hp1 _)))
abbrev lS:Stmt:=top 41
abbrev AL:List Str:=["thing","hands"]
theorem Am:FnScope AL ["thing","hands"] (aj lS):= ~~~0
theorem zQ{f:MU}{fd:M0}(F:Fun K "is_deed" "is_deed" lS f fd)(pi:↑Fn 3 "is_hand" ["thing","hands"] vY)(K6:↑Fn 3 "is_clock" ["thing","hands"] sg)(Lk:↑Fn 6 "is_what" ["thing","hand","clock"] we)(a7:mg "isinstance" = none)(b9:mg "tuple" = none)(a8:mg "len" = none):↑FnOk CX0 7 f fd ["thing","hands"] CI:=by
 exists Am
 obtain⟨v,h,rfl,r,q⟩:=h;exists _,(b_c (aJ (t_w (gY (fj (bY (q_B gg a7 aZ (q_a ↑0 (q_a (jp b9 dA) ag))))) (fQ (ax lD (q_B dR a8 Z0 (q_a ↑0 ag)) ai)))) (b_1 (am eJ)) b_0)
   (b_c (aJ (t_w (gY (fj (bY (aw pi ↑99 (q_a (aq ao ↑0 ai) (q_a ↑1 ag))))) (fQ (fj (bY (aw K6 ↑99 (q_a (aq ao ↑0 ai) (q_a ↑1 ag)))))))) (b_1 (am eJ)) b_0)
   (b_1 (am (cG (cA DK (aq ao (aq ao ↑0 ai) (aq ao ↑0 ai)) ai) (cP (aw Lk ↑99 (q_a (aq ao ↑0 ai) (q_a (aq ao ↑0 ai) (q_a (aq ao ↑0 ai) ag))))))))))
 cases r with
 |@is a c i ns z e i0 i1 ec hl hn h8 h1 wr =>subst hl;refine#[_,rfl,.ref a,"tuple",.type "tuple",true,rfl,.tup e,dC (b:=true) ⋯ nofun,_,rfl,aD ?_];refine#[_,rfl,a,_,rfl,.inr (Nb e),rfl,_,rfl,jd rfl ?_];refine#[_,rfl,a,_,_,_,rfl,rfl,Nb e,rfl,_,rfl,i,_,rfl,i0,i1,_,rfl,aD ?_];refine#[_,rfl,a,_,_,_,rfl,rfl,Nb e,rfl,_,rfl,c,ns,rfl,ec,h8,hn,λH1 s1=>#[_,rfl,aD ?_]];have f1:=s1 _ _ e;refine#[_,rfl,a,_,_,_,rfl,rfl,Nb f1,rfl,_,rfl,a,_,_,_,rfl,rfl,Nb f1,rfl,c,_,_,_,rfl,rfl,Nb (s1 _ _ ec),dq i0 ∅,_,_,rfl,rfl,_,rfl,?_];rw[decide_eq_true h1];refine aK #[_,rfl,a,_,_,_,rfl,rfl,Nb f1,rfl,_,rfl,a,_,_,_,rfl,rfl,Nb f1,rfl,_,rfl,a,_,_,_,rfl,rfl,Nb f1,rfl,?_];exact#[z,c,i,ns,rfl,s1 _ _ ec,i0,i1,wr.same s1,λH2 s2=>q H2 (s1.trans s2)]
abbrev oj:Stmt:=top 7
abbrev C9:List Str:=["one","other"]
theorem CB:FnScope C9 ["one","other"] (aj oj):= ~~~0
theorem Cd{f:MU}{fd:M0}(F:Fun K "within" "within" oj f fd)(h9:mg "all" = none)(j6:mg "zip" = none):↑FnOk CX0 1 f fd ["one","other"] wq:=by
 exists CB
 obtain⟨a,b,ns,ms,rfl,hA,hB,hl,h8,q⟩:=h;exists _,(b_1 (am (q_B (jT rfl) h9 eg (q_a (cK (own:=["mine","yours"]) (#[rfl,⋯,⋯,rfl,trivial]:CompOk _ _ [] []) rfl (tN j6 (q_a ↑0 (q_a ↑1 ag))) (λ_ _ _ _=>il (K:=K) (n:=2) rfl rfl (bq (aA (i:=0) (show(["mine","yours"]:List Str).Nodup by decide)) (bq (aA (i:=1) (show(["mine","yours"]:List Str).Nodup by decide)) eV))) (im (bu (aM ⋯) aP (bu (aM ⋯) aP fR bQ) (ci aP bQ))) (λ_ _ _ _=>ip) (λ_ _ _ _=>(cA qH ↑0 ↑1))) ag))))
 refine#[_,rfl,_,rfl,a,b,_,_,rfl,Nb hA,Nb hB,by rw[Zb,Zb,hl],?_];refine uI (λi=>.bl (decide (au ns i<=au ms i))) (by rw[Zb];omega) (Nb hA) (Nb hB) (by rw[Zb,Zb,hl]) (λi x y H1 hx hy sm R k=>?_) (λp H1 sm hp=>?_)
 ·obtain⟨rfl,_⟩:=nE hx;obtain⟨rfl,_⟩:=nE hy;exact#[_,rfl,_,rfl,_,_,rfl,rfl,k H1 (Same.refl H1)]
 ·rw[Zb];refine#[p,(List.range ns.length).map λi=>decide (au ns i<=au ms i),rfl,Nc ?_,q _ (sm.trans (af hp _))];rw[ad,x4];rfl
abbrev mf:Stmt:=top 40
abbrev AY:List Str:=["deed"]
theorem Au:FnScope AY ["deed"] (aj mf):= ~~~0
theorem zZ{f:MU}{fd:M0}(F:Fun K "name_of" "name_of" mf f fd):↑FnOk CX0 1 f fd ["deed"] cE:=by
 exists Au
 obtain⟨a,d,rfl,⟨c,v,e1,e2,e3,e4,_⟩,q⟩:=h;exists _,(b_1 (am (aB (q_a (aq ao ↑0 ai) (q_a (aq ao (aq ao ↑0 ai) (aq ao ↑0 ai)) ag)))))
 refine#[_,rfl,a,_,_,_,rfl,rfl,Nb e1,rfl,_,rfl,a,_,_,_,rfl,rfl,Nb e1,rfl,_,rfl,a,_,_,_,rfl,rfl,Nb e1,rfl,c,_,_,_,rfl,rfl,Nb e2,vh e4,sz rfl,λp g=>?_];exact q p _ (af g _) ad
abbrev gQ:Stmt:=top 69
abbrev sG:List Str:=["deed","name","ready"]
theorem rh:FnScope sG ["deed","name","ready"] (aj gQ):= ~~~0
theorem qQ{f:MU}{fd:M0}(F:Fun K "is_answered" "is_answered" gQ f fd)(LE:↑Fn 1 "within" ["one","other"] wq):↑FnOk CX0 2 f fd ["deed","name","ready"] CF:=by
 exists rh
 obtain⟨a,nm,r,d,i,R,n,rfl,hd,hn,hr',hR,hRn,hdn,q⟩:=h;have key:DGet H r (.ref nm) (aH (bH R) [.inl (i:Int),.inl (aV d i)]):=.inr #[bH R,[.inl (i:Int),.inl (aV d i)],nm,.inl hr',rfl,hn,rfl];obtain⟨c,v,d1,d2,d3,d4,d5⟩:=id hd;exists _,(b_1 (am (cG (Ag hr.units ↑1 ↑2) (cP (aw LE ↑99 (q_a (aq ao (cu hr.units ↑2 ↑1) ai) (q_a (aq ao ↑0 ai) ag)))))))
 rw[mL]at key;unfold ji at q;rw[Bu]at q;cases hf:R.find? (λx=>decide (nmK x.2=[.inl (i:Int),.inl (aV d i)]))with
 |none =>rw[hf]at key q;refine#[_,rfl,_,rfl,r,_,rfl,key,false,rfl,aD ?_];exact q H (Same.refl H)
 |some x =>rw[hf]at key q;have hm:=List.mem_of_find?_eq_some hf;obtain⟨c',v',f1,f2,f3,f4,f5⟩:=hR x hm;refine#[_,rfl,_,rfl,r,_,rfl,key,true,rfl,aK ?_];refine#[_,rfl,_,rfl,r,_,rfl,key,x.1,_,_,_,rfl,rfl,Nb f1,at1,_,rfl,a,_,_,_,rfl,rfl,Nb d1,at1,c',c,x.2.ns,d.ns,rfl,f2,d2,by rw[hRn x hm,hdn],f5,λH' s'=>?_];exact q H' s'
abbrev kD:Stmt:=top 68
abbrev yF:List Str:=["deed","names","hand","number","last"]
theorem fb:FnScope yF ["deed"] (aj kD):= ~~~0
theorem rR(d:Dd)(k:Nat):(List.range (k+1)).filter (λi=>decide (aV d i>0))=(List.range k).filter (λi=>decide (aV d i>0))++if aV d k>0 then[k]else[]:=by
 rw[List.range_succ,Yc];congr 1;by_cases c:aV d k>0
 ·rw[MO c,Yv,MO (by simpa using c),x6]
 ·rw[MN c,Yv,MN (by simpa using c),x6]
theorem NA.snoc{H H':Hp}{d:Dd}{as:List MU}{is:List Nat}{b:MU}{i:Nat}(h:NA H d as is)(t:TS H H')(hb:H' b=some (.tup ([(i:Int),aV d i].map V.int))):NA H' d (as++[b]) (is++[i]):=by
 refine#[by simp[h.1],λk c j h1 h2=>?_];rcases Yp k as.length with c1|c1
 ·rw[y9 c1]at h1;rw[y9 (by rw[<-h.1];exact c1)]at h2;exact t _ _ (h.2 k c j h1 h2)
 ·rw[ZV c1]at h1;rw[ZV (by rw[<-h.1];exact c1),<-h.1]at h2;have e:k-as.length=0:=by have:=(Zi.mp h1).1;simp at this;omega
  rw[e]at h1 h2;cases h1;cases h2;exact hb
theorem NA.ts{H H':Hp}{d:Dd}{as:List MU}{is:List Nat}(h:NA H d as is)(t:TS H H'):NA H' d as is:=#[h.1,λk c j h1 h2=>t _ _ (h.2 k c j h1 h2)]
theorem wV{f:MU}{fd:M0}(F:Fun K "asked_by" "asked_by" kD f fd)(d8:mg "enumerate" = none):↑FnOk CX0 1 f fd ["deed"] yq:=by
 exists fb
 obtain⟨a,d,rfl,hd,q⟩:=h;obtain⟨c,v,e1,e2,e3,e4,e5⟩:=id hd;exists _,(b_c (aC (i:=1) fb.nd (dX ag))
   (b_c (cH ZS rfl (Fk d8 (q_a (aq ao ↑0 ai) ag)) (gj rfl (bq (aA (i:=2) fb.nd) (bq (aA (i:=3) fb.nd) eV))) (b_c (aC (i:=4) fb.nd (lJ (ax br ↑2 (aq ao ↑0 ai)) (bg zI ↑3 ai) ↑3))
   (b_1 (aJ (ax zH ↑4 ai) (b_1 (bP (hG ↑1 (aB (q_a ↑2 (q_a ↑4 ag)))))) b_0))))
   (b_1 (am ↑1))))
 refine#[sz rfl,λp g=>?_];have s0:=af g (.lst []);refine#[_,rfl,a,_,_,_,rfl,rfl,Nb (s0 _ _ e1),at1,c,_,rfl,s0 _ _ e2,?_];refine Bw (i:=2) (j:=3) (λk σ H'=>Same H H'/\(∃o2 o3 o4,σ=[some (.ref a),some (.ref p),o2,o3,o4])/\∃as,H' p=some (.lst (as.map V.ref))/\NA H' d as ((List.range k).filter λi=>decide (aV d i>0))) #[s0,#[none,none,none,rfl],[],ad,rfl,λk b i h1=>by simp at h1] (λi σ H' _ ⟨sm,_⟩=>Nb (sm _ _ e2)) (λk x σ H1 hx ⟨sm,⟨o2,o3,o4,eσ⟩,as,hp,na⟩ T hT=>?_) (λσ H1 ⟨sm,⟨o2,o3,o4,eσ⟩,as,hp,na⟩=>?_)
 ·subst eσ;obtain⟨rfl,hk⟩:=nE hx;have sT:=af hT (.tup [.int (k:Int),.int (au d.ns k)]);have m1:=sT _ _ (sm _ _ e1);have pT:=sT _ _ hp;have go:∀(z:Int) (D:Ends),z=aV d k->(∀σ' H',(Same H H'/\(∃o2 o3 o4,σ'=[some (.ref a),some (.ref p),o2,o3,o4])/\∃as,H' p=some (.lst (as.map V.ref))/\NA H' d as ((List.range (k+1)).filter λi=>decide (aV d i>0)))->D.nx σ' H') ->
    AA (pZ (tOp (rI0 λi j=>V.bl (decide (j<i))) (tVar 4) (tC (V.int 0)))) (Az (tBM K "list" rAppend (tVar 1) (fh (Et (fh (tVar 2) (fh (tVar 4) ge))) ge))) pY D [some (.ref a),some (.ref p),some (.int (k:Int)),some (.int (au d.ns k)),some (.int z)] (upd H1 T (.tup [.int (k:Int),.int (au d.ns k)])):=λz D hz hD=>by
   refine#[_,rfl,_,_,rfl,rfl,_,rfl,lg (λhc=>?_) λhc=>?_]
   ·refine#[_,rfl,.inl #[rfl,_,Nc pT],_,rfl,_,rfl,sz rfl,λb gb=>?_];have sB:=af gb (.tup [.int (k:Int),.int z]);have pB:=sB _ _ pT;refine#[p,_,_,rfl,rfl,pB,?_,?_]
    ·have:=na.1;have l1:((List.range k).filter λi=>decide (aV d i>0)).length<=k:=by have:=Z5 (λi=>decide (aV d i>0)) (List.range k);rw[List.length_range]at this;exact this
     rw[Zb];exact fP ∅
    ·refine hD _ _ #[?_,#[_,_,_,rfl],as++[b],?_,?_]
     ·exact λb' o hb=>by rw[ah (al hb g)];exact sB _ _ (sT _ _ (sm _ _ hb))
     ·rw[ad,Zy];rfl
     ·rw[rR,MO ∅];refine na.snoc ?_ ?_
      ·exact(Na sT).trans ((Na sB).trans (dh λzs e=>by rw[pB]at e;cases e))
      ·rw[ah (λe=>by rw[<-e,ad]at pB;cases pB),ad,hz];rfl
   ·refine hD _ _ #[sm.trans sT,#[_,_,_,rfl],as,pT,?_];rw[rR,MN ∅,Yr];exact na.ts (Na sT)
  refine#[_,rfl,_,rfl,a,_,_,_,rfl,rfl,Nb m1,at0,rfl,_,rfl,qD (λek=>?_) λek=>?_]
  ·refine#[_,rfl,_,_,rfl,rfl,go _ _ ?_ λσ' H' z=>z];unfold aV;rw[MO ∅]
  ·refine#[_,rfl,go _ _ ?_ λσ' H' z=>z];unfold aV;rw[MN ∅]
 ·subst eσ;exact#[_,rfl,q p H1 as sm hp (by unfold fm;rw[Zb]at na;exact na)]
abbrev hU:Stmt:=top 67
abbrev yM:List Str:=["deeds","ready","deed"]
theorem jy:FnScope yM ["deeds"] (aj hU):= ~~~0
abbrev lH:Str:=(("ready_of":Str)++".<locals>.")++"<lambda>"
def EN:Stmt->M8
 |.For _ it _ _ _=>it
 |.Assign _ e _=>e
 |_=>.Name "" #[0,0,0,0]
def Hk:M8->M8
 |.Call _ _ (k::_) _=>k.value
 |e=>e
def Hj:M8->M8
 |.Lambda _ b _ _=>b
 |e=>e
def Hl:M8->Scope
 |.Lambda _ _ s _=>s
 |_=>default
def lA:M8->Pos
 |.Lambda _ _ _ p=>p
 |_=>#[0,0,0,0]
abbrev kj:M8:=Hk (EN ((bK hU).getD 1 (.Pass #[0,0,0,0])))
theorem sP(KP:mg "sum" = none):↑LamOk 1 lH (Hj kj) (Hl kj) "each" JQ:=by
 refine#[["each"],#[rfl,rfl,rfl,⋯,rfl,⋯,⋯],λvs H Q E h=>?_,λf c' A outer s H vs Q E hr h=>?_]
 ·obtain⟨a,d,rfl,_⟩:=h;rfl
 obtain⟨a,d,rfl,⟨c,v,e1,e2,e3,e4,e5⟩,q⟩:=h;refine#[_,(aB (q_a (q_B (GW (K:=K) rfl rfl) KP PyProof.Rows.boot_sum (q_a (aq ao ↑0 ai) ag)) (q_a (aq ao ↑0 ai) ag))),?_];refine#[_,rfl,a,_,_,_,rfl,rfl,Nb e1,at1,c,d.ns,rfl,Nb e2,_,rfl,a,_,_,_,rfl,rfl,Nb e1,at0,sz rfl,λp g=>?_];exact q p _ (af g _) ad
def yw(T:MU):Sp:=λvs H Q _=>∃(l:MU) (L:LT) (n:Nat),vs=[.ref l]/\LR H l L/\L.length<=63/\n<=8/\UN n (vals L)/\bc lH T (lA kj) H /\
 ∀D H' (S:LT),S.Perm L->((vals S).Pairwise λd e=>¬kLt e d)->SameT T H H'->bc lH T (lA kj) H'->H' D=some (.lst (aE (bD S S.length)))->H D=none->Q (.ref D) H'
theorem bO{q:Str}{T:MU}{pos:Pos}{H H':Hp}(h:bc q T pos H)(s:Same H H'):bc q T pos H':=by obtain⟨ps,e1,e2,e3⟩:=h;exact#[ps,s _ _ e1,e2,e3.imp id fun⟨c,z1,z2⟩=>#[c,z1,s _ _ z2]]
theorem dE{q:Str}{T r:MU}{pos:Pos}{H H':Hp}(h:bc q T pos H)(s:SameT r H H')(hr:∀f,H r=some f->(∀ps,f≠.tbl ps)/\∀c,f≠ir c q):bc q T pos H':=by obtain⟨ps,e1,e2,e3⟩:=h;exact#[ps,s _ _ e1 λz=>(hr _ (by rw[<-z];exact e1)).1 ps rfl,e2,e3.imp id fun⟨c,z1,z2⟩=>#[c,z1,s _ _ z2 λz=>(hr _ (by rw[<-z];exact z2)).2 c rfl]]
theorem IN{q:Str}{T:MU}{pos:Pos}{H:Hp}(h:bc q T pos H):∀zs,H T≠some (.tup zs):=λzs e=>by obtain⟨ps,e1,_⟩:=h;rw[e1]at e;cases e
theorem Cw{L:LT}{is:List Nat}(h:∀i∈is,i<L.length):(is.map λi=>(aE L).getD i .non)=aE (is.map λi=>L.getD i (0,D0)):=by unfold aE;rw[x4];apply List.map_congr_left;intro i hi;have hl:=h i hi;simp[hl]
theorem xh{f c0 T:MU}{fd:M0}(F:Fun K "ready_of" "ready_of" hU f fd)(hcode:fd.code=.ref c0)(C:CodeHd base c0 T)(B:Blt base mg)(K7:↑Fn 1 "asked_by" ["deed"] yq)(Kj:↑Fn 2 "is_answered" ["deed","name","ready"] CF)(a6:↑Fn 1 "name_of" ["deed"] cE)(KP:mg "sum" = none)(LF:mg "sorted" = none)(h9:mg "all" = none)(r9:mg "list" = none):↑FnOk CX0 5 f fd ["deeds"] (yw T):=by
 refine F.okC hcode jy (λvs H Q E h=>?_) (λA outer s H vs Q E hr h=>?_)
 ·obtain⟨l,L,n,rfl,_⟩:=h;rfl
 obtain⟨l,L,n,rfl,hL,hz,hn,hg,tab,q⟩:=h;exists _,(b_c (aC (i:=1) jy.nd kz)
   (b_c (cH ZS rfl (bz (Ee rfl LF rfl C B (sP KP) ↑99 (q_a ↑0 ag))) (aA (i:=2) jy.nd) (b_1 (aJ (bY (q_B (jT rfl) h9 eg (q_a (cK (own:=["name"]) (#[rfl,⋯,⋯,rfl,#[rfl,rfl,#[rfl,rfl,trivial]]]:CompOk _ _ [2,1] ["deed","ready"]) rfl (bz (aw K7 ↑99 (q_a ↑2 ag))) (λ_ _ _ _=>aA (i:=0) (show (["name","deed","ready"]:List Str).Nodup by decide)) (aM ⋯) (λ_ _ _ _=>ip) (λ_ _ _ _=>(aw Kj ↑99 (q_a ↑1 (q_a ↑0 (q_a ↑2 ag)))))) ag))) (b_1 (fK hr.units ↑1 (aw a6 ↑99 (q_a ↑2 ag)) ↑2)) b_0)))
   (b_1 (am (ko (xF rfl) r9 kZ (q_a (Cs ↑1) ag))))))
 intro r gr;have s0:=af gr (.dT []);have er0:upd H r (.dT []) r=some (.dT []):=ad;generalize upd H r (.dT [])=H0 at s0 er0 ⊢;have L0:=hL.same s0;have tab0:=bO tab s0;have nt0:=IN tab0;have rT:r≠T:=λz=>by obtain⟨ps,e1,_⟩:=tab;rw[z,e1]at gr;cases gr
 refine#[_,rfl,l,aE L,L.map λx=>ZKey.t (kyZ x.2),rfl,.inl L0.1,tab0,by rw[cC];omega,by rw[cC,Zb],.inr λk hk=>?_,λi v key H' hv hkey sT R kR=>?_,λp H2 D hp hls sT tab2 gD=>?_]
 ·obtain⟨x,_,rfl⟩:=Zm.mp hk;exact#[_,rfl,by simp[kyZ]]
 ·obtain⟨hi,rfl⟩:=nY hv;rw[ZE,Zj hi]at hkey;cases hkey;exact#[_,_,rfl,(L0.2 _ (ZR hi)).ts (on nt0 sT),λp' H'' s'' e''=>kR (.ref p') H'' s'' #[p',rfl,e'']]
 ·rw[cC]at hp hls;have pl:∀i∈p.toList,i<L.length:=λi hi=>by have:=(hp.mem_iff).mp (Array.mem_toList_iff.mp hi);simpa using this
  rw[Cw pl];have so:=xw (f:=Prod.snd) (z:=((0,D0):MU×Dd)) hp (by rw[x4]at hls;exact hls);generalize(p.toList.map λi=>L.getD i (0,D0))=M at so ⊢;obtain⟨sM,pM⟩:=so;have gM:UN n (vals M):=hg.perm (pM.symm.map Prod.snd);have lM:M.length=L.length:=pM.length_eq;have er2:H2 r=some (.dT []):=sT _ _ er0 rT;have s3:=af gD (.lst (aE M));have eD:upd H2 D (.lst (aE M)) D=some (.lst (aE M)):=ad;have er3:=s3 _ _ er2;have nt2:=on nt0 sT;have M3:∀x∈M,DR (upd H2 D (.lst (aE M))) x.1 x.2:=λx hx=>(L0.2 x (pM.mem_iff.mp hx)).ts (nt2.trans (Na s3));have tab3:=bO tab2 s3;have all3:SameT T H (upd H2 D (.lst (aE M))):=λb o e hb=>s3 _ _ (sT _ _ (s0 _ _ e) hb);have hD0:H D=none:=by
   cases e:H D with
   |none=>rfl
   |some o =>
    by_cases z:D=T
    ·obtain⟨ps,e1,_⟩:=tab2;rw[<-z,gD]at e1;cases e1
    ·have:=sT _ _ (s0 _ _ e) z;rw[gD]at this;cases this
  have nDr:D≠r:=λz=>by rw[z,er2]at gD;cases gD
  generalize upd H2 D (.lst (aE M))=H3 at *;refine#[D,rfl,#[_,Nc eD],nC (λk σ H'=>(∃o2,σ=[some (.ref l),some (.ref r),o2])/\SameT r H3 H'/\H' r=some (.dT (bH (bD M k)))) #[#[none,rfl],λb o e _=>e,er3] (λi σ H' _ ⟨_,sr,_⟩=>Nc (sr _ _ eD nDr)) (λk x σ H4 hx ⟨⟨o2,eσ⟩,sr,hr4⟩=>?_) (λσ H4 ⟨⟨o2,eσ⟩,sr,hr4⟩=>?_)]
  ·subst eσ;obtain⟨hk,rfl⟩:=nY hx;have t4:TS H3 H4:=on (λzs e=>by rw[er3]at e;cases e) sr;have M4:∀x∈M,DR H4 x.1 x.2:=λx hx=>(M3 x hx).ts t4;have dk:=M4 _ (ZR hk);have mk:M[k].2∈vals M:=Zm.mpr #[M[k],ZR hk,rfl];refine#[_,rfl,M[k].1,M[k].2,rfl,dk,λp1 H5 as s5 e5 na=>?_];have la:as.length<=8:=by rw[na.1];unfold fm;have:=Z5 (λi=>decide (aV M[k].2 i>0)) (List.range M[k].2.ns.length);rw[List.length_range]at this;have l8:=(gM.len _ mk).1;omega
   have sub:=(dl M k ∅).trans (YG k M);refine#[p1,rfl,#[_,Nc e5],Bj (λj=>.bl (ji (vals (bD M k)) M[k].2 ((fm M[k].2).getD j 0))) (by rw[Zb];omega) (Nc e5) (λj x H6 hx s6 R kR=>?_) (λp2 H6 s6 g6=>?_)]
   ·rw[ZE]at hx;obtain⟨b,hb,rfl⟩:=YJ.mp hx;have hj:j<(fm M[k].2).length:=by rw[<-na.1];exact(Zi.mp hb).1
    have ej:(fm M[k].2).getD j 0=(fm M[k].2)[j]:=by simp[hj]
    have hbn:=s6 _ _ (na.2 j b _ hb (Zj hj));rw[<-ej]at hbn;have hr6:=s6 _ _ (s5 _ _ hr4);have t6:TS H4 H6:=(Na s5).trans (Na s6);exact#[_,rfl,_,rfl,_,rfl,M[k].1,b,r,M[k].2,(fm M[k].2).getD j 0,bD M k,n,rfl,dk.ts t6,hbn,hr6,λx hx=>(M4 x (sub.subset hx)).ts t6,λx hx=>(gM.len _ (Zm.mpr #[x,sub.subset hx,rfl])).1,(gM.len _ mk).1,λH' s'=>kR H' s']
   ·have S6:=s6.trans (af g6 (.lst ((List.range (as.map V.ref).length).map λj=>V.bl (ji (vals (bD M k)) M[k].2 ((fm M[k].2).getD j 0)))));refine#[p2,(List.range (as.map V.ref).length).map λj=>ji (vals (bD M k)) M[k].2 ((fm M[k].2).getD j 0),rfl,Nc (by rw[ad,x4];rfl),?_];have ea:((List.range (as.map V.ref).length).map λj=>ji (vals (bD M k)) M[k].2 ((fm M[k].2).getD j 0)).all id=ql (vals (bD M k)) M[k].2:=by unfold ql;rw[Zb,na.1,<-ka (fm M[k].2) 0,List.all_map,List.all_map,ka];rfl
    rw[ea];generalize upd H6 p2 (.lst ((List.range (as.map V.ref).length).map λj=>V.bl (ji (vals (bD M k)) M[k].2 ((fm M[k].2).getD j 0))))=H7 at S6 ⊢;have S7:=s5.trans S6;have hr7:=S7 _ _ hr4;refine#[_,rfl,?_];have e1:bD M (k+1)=hV (bD M k) M[k]:=fB hk;unfold hV at e1;by_cases ac:ql (vals (bD M k)) M[k].2=true
    ·rw[MO ac]at e1;rw[ac];refine aK #[_,rfl,_,rfl,_,rfl,M[k].1,M[k].2,rfl,dk.ts (Na S7),λp3 H8 s8 e8=>?_];have hr8:=s8 _ _ hr7;have vn:aH (bH (bD M k)) (nmK M[k].2)=none:=by
      rw[mL];have:(bD M k).find? (λx=>decide (nmK x.2=nmK M[k].2))=none:=by rw[List.find?_eq_none];intro y hy;obtain⟨j,hj,rfl⟩:=Yb.mp ((dl M k ∅).subset hy);rw[ZP]at hj;rw[List.getElem_take];have u:=gM.uni;rw[Z7]at u;have:=u j k (by rw[kQ];omega) (by rw[kQ];exact hk) ∅;simp only[vals,List.getElem_map]at this;simpa using this
      rw[this];rfl
     have lk:(bH (bD M k)).length<=63:=by unfold bH;rw[Zb];have:=sub.length_le;omega
     refine#[r,_,rfl,.inr #[_,nmK M[k].2,p3,hr8,rfl,e8,Nat.lt_of_le_of_lt lk (by rw[PySem.sizeLine_eq];decide),rfl],#[_,rfl],λb o e hb=>?_,?_]
     ·rw[ah hb];exact s8 _ _ (S7 _ _ (sr _ _ e hb))
     ·rw[ad,nX _ vn,e1];congr 2;unfold bH;rw[Zy];rfl
    ·rw[MN ac]at e1;rw[YY.mpr ac];refine aD #[#[_,rfl],λb o e hb=>S7 _ _ (sr _ _ e hb),?_];rw[e1];exact hr7
  ·subst eσ;rw[cC]at hr4;refine#[_,rfl,r,_,rfl,hr4,λv gv=>?_];have sv:=af gv (fH v (mO r));refine#[v,r,_,rfl,ad,sv _ _ hr4,λl2 g2=>?_];have s2:=af g2 (.lst ((bH (bD M M.length)).map (·.2)));have rb:SameT r H3 (upd (upd H4 v (fH v (mO r))) l2 (.lst ((bH (bD M M.length)).map (·.2)))):=λb o e hb=>s2 _ _ (sv _ _ (sr _ _ e hb));have hl2:H l2=none:=by
    cases e:H l2 with
    |none=>rfl
    |some o =>
     have hb:l2≠r:=λz=>by rw[z,gr]at e;cases e
     by_cases z:l2=T
     ·obtain⟨ps,e1,_⟩:=tab3;rw[<-z]at e1;have:=sv _ _ (sr _ _ e1 hb);rw[g2]at this;cases this
     ·have:=sv _ _ (sr _ _ (all3 _ _ e z) hb);rw[g2]at this;cases this
   refine q l2 _ M pM sM (λb o e hb=>?_) (dE tab3 rb λf' hf'=>?_) ?_ hl2
   ·refine rb _ _ (all3 _ _ e hb) λz=>?_;rw[z,gr]at e;cases e
   ·rw[er3]at hf';cases hf';exact#[λps e=>(by cases e),λc e=>(by cases e)]
   ·rw[ad];congr 2;unfold bH aE;rw[x4];rfl
theorem rP{J:L2.It}{N n:Nat}{cap:List Nat}{g:TG}{tc:TT}{te:TE}{σ:St}{H0:Hp}{Q:VK}(Pv:Nat->Nh->Hp->Prop)(hz:N<=1000)(hn:∀i ys H,Pv i ys H->ys.length<=i)(h0:Pv 0 [] H0)(hgo:∀i ys H,i<N->Pv i ys H->J.go i H)(hst:∀ys H,Pv N ys H->J.stop N H)(ht:∀i ys H x H',i<N->Pv i ys H->J.yld i H x H'->∀Y:Nh->Hp->Prop,(∀zs H4,Pv (i+1) zs H4->Y zs H4)->g x (bU n cap σ) H' λσ2 H2=>tc σ2 H2 λb H3=>if b=true then te σ2 H3 λy H4=>Y (ys++[y]) H4 else Y ys H3)(hq:∀ys p H,Pv N ys H->H p=none->Q (.ref p) (upd H p (.lst ys))):dM n cap g tc te σ J H0 Q:=by
 refine#[λi m ys H=>m=N-i/\i<=N/\Pv i ys H,#[N,by simp,ZU _,h0],?_];rintro i m ys H ⟨rfl,hi,pv⟩;by_cases hlt:i<N
 ·refine .inr #[hgo i ys H hlt pv,?_,λx H' y=>?_]
  ·have:=hn i ys H pv;exact Nat.lt_of_le_of_lt (Zq this ∅) (show 1000<sizeLine by decide)
  ·exact ht i ys H x H' hlt pv y (λys H4=>∃m',m'<N-i/\m'=N-(i+1)/\i+1<=N/\Pv (i+1) ys H4) λzs H4 z=>#[N-(i+1),∅,rfl,hlt,z]
 ·have e:i=N:=∅
  subst e;exact .inl #[hst ys H pv,λp hp=>hq ys p H pv hp]
theorem bV{K:W.Frag}{a:MU}{xs:Nh}{n:Nat}{cap:List Nat}{g:TG}{tc:TT}{te:TE}{σ:St}{H0:Hp}{Q:VK}(Pv:Nat->Nh->Hp->Prop)(hz:xs.length<=1000)(hn:∀i ys H,Pv i ys H->ys.length<=i)(h0:Pv 0 [] H0)(hl:∀i ys H,Pv i ys H->SqL K H a xs)(ht:∀i ys H x,xs[i]?=some x->Pv i ys H->∀Y:Nh->Hp->Prop,(∀zs H4,Pv (i+1) zs H4->Y zs H4)->g x (bU n cap σ) H λσ2 H2=>tc σ2 H2 λb H3=>if b=true then te σ2 H3 λy H4=>Y (ys++[y]) H4 else Y ys H3)(hq:∀ys p H,Pv xs.length ys H->H p=none->Q (.ref p) (upd H p (.lst ys))):dM n cap g tc te σ (Itl K a) H0 Q:=by refine rP (N:=xs.length) Pv hz hn h0 (λi ys H hi z=>#[xs,xs[i],hl i ys H z,by simp[hi]]) (λys H z=>#[xs,hl _ ys H z,Za _]) (λi ys H x H' hi z y Y hY=>?_) hq;obtain rfl:H'=H:=y.1;exact ht i ys H' x (y.2 xs (hl i ys H' z)) z Y hY
theorem Jh:¬(("hands":Str)="deeds"):=⋯
def jk(n:Nat)(d:MU):List (Str×V):=cQ "deeds" (.ref d) (cQ "hands" (.int (n:Int)) [])
theorem oV(n:Nat)(d:MU):(jk n d).lookup ("hands":Str)=some (.int (n:Int)):=by unfold jk;rw[aT,MN Jh,aT,MO rfl]
theorem jW(n:Nat)(d:MU):(jk n d).lookup ("deeds":Str)=some (.ref d):=by unfold jk;rw[aT,MO rfl]
structure StoreAt(C:MU)(H:Hp)(p d:MU)(n:Nat)(L:LT):Prop where
 ob:∃dx,H p=some (.ins C dx (jk n d))
 dc:H d=some (.dT (bH L))
 dr:∀x∈L,DR H x.1 x.2
 un:UN n (vals L)
 n1:1<=n
 n8:n<=8
 len:L.length<=63
structure Txt(K:W.Frag)(C:MU):Prop where
 cl:Cls K C
 nH:NoAttr K C "hands"
 nD:NoAttr K C "deeds"
def KT(H H':Hp):Prop:=∀b o,H b=some o->(∀ps,o≠.tbl ps)->H' b=some o
theorem KT.of{H H':Hp}(s:Same H H'):KT H H':=λb o e _=>s b o e
theorem KT.trans{H H' H2:Hp}(s:KT H H')(t:KT H' H2):KT H H2:=λb o e n=>t b o (s b o e n) n
theorem KT.ts{H H':Hp}(s:KT H H'):TS H H':=λa zs h=>s a _ h λps z=>by cases z
theorem KT.tab{q:Str}{T:MU}{pos:Pos}{H H':Hp}(t:bc q T pos H)(s:SameT T H H'):KT H H':=λb o e n=>s b o e λz=>by obtain⟨ps,e1,_⟩:=t;rw[z,e1]at e;cases e;exact n ps rfl
theorem StoreAt.kt{C:MU}{H H':Hp}{p d:MU}{n:Nat}{L:LT}(x:StoreAt C H p d n L)(s:KT H H'):StoreAt C H' p d n L:=by obtain⟨⟨dx,h1⟩,h2,h3,h4,h5,h6,h7⟩:=x;exact#[#[dx,s _ _ h1 λps z=>by cases z],s _ _ h2 nofun,λy hy=>(h3 y hy).ts s.ts,h4,h5,h6,h7]
theorem StoreAt.same{C:MU}{H H':Hp}{p d:MU}{n:Nat}{L:LT}(x:StoreAt C H p d n L)(s:Same H H'):StoreAt C H' p d n L:=x.kt (.of s)
def RDY(L M:LT):Prop:=∃S:LT,S.Perm L/\((vals S).Pairwise λd e=>¬kLt e d)/\M=bD S S.length
theorem RDY.sub{L M:LT}(h:RDY L M):∀x∈M,x∈L:=λx hx=>by obtain⟨S,pS,_,rfl⟩:=h;exact pS.mem_iff.mp (((dl S S.length (Za _)).trans (YG _ _)).subset hx)
theorem RDY.len{L M:LT}(h:RDY L M):M.length<=L.length:=by obtain⟨S,pS,_,rfl⟩:=h;have:=((dl S S.length (Za _)).trans (YG _ _)).length_le;have e:=pS.length_eq;omega
def CJ(C:MU):Sp:=λvs H Q _=>∃(p dx:MU) (n:Nat),vs=[.ref p,.int (n:Int)]/\H p=some (.ins C dx [])/\1<=n/\n<=8/\∀(d:MU) (H':Hp),H d=none->StoreAt C H' p d n []->(∀b o,H b=some o->b≠p->H' b=some o)->Q .non H'
def eU(hd:Nat)(ns:M5):Wh->Prop
 |.no=>True
 |.put _=>True
 |.itm _ h k=>iw (hd:Int) ns h k=true
 |.trn _ k=>1<=k/\k<au ns hd
structure Fit(n:Nat)(d:Dd):Prop where
 len:d.ns.length=n
 hd:d.h<n
 nn:∀z∈d.ns,0<=z
 own:1<=au d.ns d.h
 wf:eU d.h d.ns d.w
def vZ(C:MU):Sp:=λvs H Q _=>∃(p d a:MU) (n:Nat) (L:LT) (e:Dd),vs=[.ref p,.ref a]/\StoreAt C H p d n L/\DR H a e/\Fit n e/\L.length<63/\(∀x∈L,nmK x.2≠nmK e)/\∀H',SameT d H H'->StoreAt C H' p d n (L++[(a,e)])->Q (.bl true) H'
def oB(C T:MU):Sp:=λvs H Q _=>∃(p d:MU) (n:Nat) (L:LT),vs=[.ref p]/\StoreAt C H p d n L/\bc lH T (lA kj) H /\
 ∀D H' (M:LT),RDY L M->SameT T H H'->bc lH T (lA kj) H'->H' D=some (.lst (aE M))->H D=none->Q (.ref D) H'
abbrev iO:Stmt:=aY (top 71) 0
abbrev uk:List Str:=["self","hands"]
theorem tG:FnScope uk ["self","hands"] (aj iO):= ~~~0
theorem sY{f C:MU}{fd:M0}(F:Fun K "__init__" "Store.__init__" iO f fd)(T:Txt K C):↑FnOk CX0 1 f fd ["self","hands"] (CJ C):=by
 exists tG
 obtain⟨p,dx,n,rfl,hp,n1,n8,k⟩:=h;exists _,(b_c (mF ↑0 ↑1)
   (b_1 (mF ↑0 kz)))
 refine#[_,rfl,_,rfl,p,C,dx,[],rfl,hp,T.cl,T.nH,(by show 0<1000;decide),?_];intro d hd;have hd0:H d=none:=by
  cases e:H d with
  |none=>rfl
  |some o =>
   by_cases c:d=p
   ·subst c;rw[ad]at hd;cases hd
   ·rw[ah c,e]at hd;cases hd
 have npd:p≠d:=al hp hd0;refine#[_,rfl,p,C,dx,_,rfl,(by rw[ah npd,ad]),T.cl,T.nD,(by show 1<1000;decide),?_];refine k d _ hd0 #[#[dx,ad],by rw[ah npd.symm,ad];rfl,λx hx=>(nomatch hx),#[λ_ h=>(nomatch h),λ_ h=>(nomatch h),.nil],n1,n8,ZU _] λb o e hb=>?_;rw[ah hb,ah (al e hd0),ah hb];exact e
theorem Gz:pP "" = true:=⋯
theorem Id:PyProof.Rows.KTD.datumAt ("put":Str) DT=some (tw ([Kd.u,.p,.t].map nm)):=by with_unfolding_all rfl
theorem Fy:PyProof.Rows.KTD.datumAt ("none":Str) DT=some (tw (([]:List Kd).map nm)):=by with_unfolding_all rfl
theorem Jw(b:Bool):PyProof.Rows.KTD.datumAt (ofW b) DT=some (tw ([Kd.n].map nm)):=by
 cases b
 ·exact(show PyProof.Rows.KTD.datumAt ("off":Str) DT=some (tw ([Kd.n].map nm)) by with_unfolding_all rfl)
 ·exact(show PyProof.Rows.KTD.datumAt ("on":Str) DT=some (tw ([Kd.n].map nm)) by with_unfolding_all rfl)
def iK:Ik->List Kd
 |.take=>[.i]|.back=>[.i]|.join=>[.i,.i]|.mark=>[.i,.b]|.part=>[.i,.a,.p]|.move=>[.i,.u,.p]|.write=>[.i,.t]|.due=>[.i,.w]|.fold=>[.i,.b]
theorem Jm(c:Ik):PyProof.Rows.KTD.datumAt (iW c) DT=some (tw ((iK c).map nm)):=by cases c<;>with_unfolding_all rfl
theorem eG{H:Hp}{hd:Int}{ns:M5}{k:Kd}{v:V}(a:PartR H hd ns k v):uu H hd ns [k] [v]:=.cons a .nil
theorem GB{H:Hp}{v:V}{w':Wh}{hd:Nat}{ns:M5}(h:WR H v w')(hw:eU hd ns w'):WhatR H (hd:Int) ns v:=by
 cases w' with
 |no =>obtain⟨p,rfl,e⟩:=h;exact .is (ks:=[]) e Fy ⋯ .nil
 |trn b k =>obtain⟨p,rfl,e⟩:=h;exact .is e (Jw b) ⋯ (eG (.nu k hw.1 (by rw[ZJ];exact hw.2)))
 |itm c hh k =>
  obtain⟨p,q,r,rfl,e,e2,e3⟩:=h;have hi:PartR H (hd:Int) ns .i (.ref q):=.it q hh k e2 hw;have hp:PartR H (hd:Int) ns .p (.ref r):=.pl r [iN c] e3 (Za 1) (Nat.le_of_ble_eq_true rfl);refine .is e (Jm c) (by cases c<;>decide) ?_;cases c with
  |take=>exact eG hi
  |back=>exact eG hi
  |join=>exact .cons hi (eG hi)
  |mark=>exact .cons hi (eG (.bl true))
  |part=>exact .cons hi (.cons (.at 0 ⋯) (eG hp))
  |move=>exact .cons hi (.cons .u0 (eG hp))
  |write=>exact .cons hi (eG (.tx "a" ⋯ ⋯ ⋯))
  |due=>exact .cons hi (eG .w0)
  |fold=>exact .cons hi (eG (.bl false))
 |put m =>obtain⟨p,q,rfl,e,e2⟩:=h;exact .is e Id ⋯ (.cons .u0 (.cons (.pl q [m] e2 (Za 1) (Nat.le_of_ble_eq_true rfl)) (eG (.tx "" ⋯ ⋯ Gz))))
theorem Fi{H:Hp}{a:MU}{d:Dd}{n:Nat}(h:DR H a d)(f:Fit n d)(n8:n<=8):DeedR H (n:Int) (.ref a):=by obtain⟨c,v,h1,h2,h3,h4,h5⟩:=h;exact .is h1 (Int.natCast_nonneg _) (by have:=f.hd;omega) h2 (by rw[f.len]) f.nn ∅ (by rw[ZJ];exact f.own) (GB h3 f.wf)
theorem xV{n:Nat}{L:LT}(u:UN n (vals L)){x:MU×Dd}(hx:x∈L):aH (bH L) (nmK x.2)=some (.ref x.1):=by
 rw[mL];have:L.find? (λy=>decide (nmK y.2=nmK x.2))=some x:=by
  have hs:(L.find? λy=>decide (nmK y.2=nmK x.2)).isSome=true:=by rw[List.find?_isSome];exact#[x,hx,decide_eq_true rfl]
  obtain⟨y,hy⟩:=YB.mp hs;rw[hy];have my:=List.mem_of_find?_eq_some hy;have qy:nmK y.2=nmK x.2:=ZM (p:=nmK y.2=nmK x.2) (List.find?_some (p:=λy:MU×Dd=>decide (nmK y.2=nmK x.2)) hy);have nd:=u.uni;unfold vals at nd;rw[List.pairwise_map]at nd;obtain⟨i,hi,rfl⟩:=Yb.mp my;obtain⟨j,hj,rfl⟩:=Yb.mp hx;rw[Z7]at nd;rcases Nat.lt_trichotomy i j with c|c|c
  ·exact absurd qy (nd i j hi hj c)
  ·subst c;rfl
  ·exact absurd qy.symm (nd j i hj hi c)
 rw[this];rfl
theorem vU(d:Dd):SeqAt.shaped (dD d)=true:=by obtain⟨h1,h2⟩:=EO (d:=d) trivial;unfold SeqAt.shaped;rw[Zw];exact#[h1,decide_eq_true ∅]
theorem Dz{C p d a:MU}{H H2:Hp}{n:Nat}{L:LT}{e:Dd}(S:StoreAt C H p d n L)(s12:Same H H2)(hd:DR H a e)(ft:Fit n e)(ll:L.length<63)(hn:∀x∈L,nmK x.2≠nmK e)(vn:aH (bH L) (nmK e)=none):StoreAt C (upd H2 d (.dT (bh (bH L) (nmK e) (.ref a)))) p d n (L++[(a,e)]):=by
 obtain⟨⟨dx,h1⟩,h2,h3,h4,h5,h6,h7⟩:=S;rw[nX _ vn];have tA:TS H2 (upd H2 d (.dT (bH L++[(nmK e,.ref a)]))):=dh λzs z=>by rw[s12 _ _ h2]at z;cases z
 have npd:p≠d:=λz=>by rw[z,h2]at h1;cases h1
 have ek:bH L++[(nmK e,V.ref a)]=bH (L++[(a,e)]):=by unfold bH;rw[Zy];rfl
 have ev:vals (L++[(a,e)])=vals L++[e]:=by unfold vals;rw[Zy];rfl
 refine#[#[dx,by rw[ah npd];exact s12 _ _ h1],by rw[ad,ek],λx hx=>?_,?_,h5,h6,by rw[Zk];exact ll]
 ·rcases Zs.mp hx with hx|hx
  ·exact(h3 x hx).ts ((Na s12).trans tA)
  ·rw[Zd.mp hx];exact hd.ts ((Na s12).trans tA)
 ·rw[ev];refine#[λx hx=>?_,λx hx=>?_,List.pairwise_append.mpr #[h4.uni,List.pairwise_singleton _ _,λx hx y hy=>?_]]
  ·rcases Zs.mp hx with hx|hx
   ·exact h4.len x hx
   ·rw[Zd.mp hx];exact#[ft.len,ft.hd]
  ·rcases Zs.mp hx with hx|hx
   ·exact h4.own x hx
   ·rw[Zd.mp hx];have:=ft.own;omega
  ·rw[Zd.mp hy];obtain⟨z,hz,rfl⟩:=Zm.mp hx;exact hn z hz
abbrev iM:Stmt:=aY (top 71) 1
abbrev uh:List Str:=["self","deed","name"]
theorem kU:FnScope uh ["self","deed"] (aj iM):= ~~~0
theorem sX{f C:MU}{fd:M0}(F:Fun K "hear" "Store.hear" iM f fd)(T:Txt K C)(Ll:↑Fn 7 "is_deed" ["thing","hands"] CI)(a6:↑Fn 1 "name_of" ["deed"] cE):↑FnOk CX0 8 f fd ["self","deed"] (vZ C):=by
 exists kU
 obtain⟨p,d,a,n,L,e,rfl,S,hd,ft,ll,hn,q⟩:=h;obtain⟨⟨dx,h1⟩,h2,h3,h4,h5,h6,h7⟩:=id S;exists _,(b_c (aJ (fj (bY (aw Ll ↑99 (q_a ↑1 (q_a (bR ↑0) ag))))) (b_1 qY) b_0)
   (b_c (aC (i:=2) kU.nd (aw a6 ↑99 (q_a ↑1 ag)))
   (b_c (aJ (oH hr.units ↑2 (bR ↑0)) (b_c (fK hr.units (bR ↑0) ↑2 ↑1)
   (b_1 (am eJ))) b_0)
   (b_c (aJ (ax (EU hr.units) (cu hr.units (bR ↑0) ↑2) ↑1) (b_1 qY) b_0)
   (b_1 (am eJ))))))
 refine#[_,rfl,_,rfl,p,C,dx,_,_,rfl,h1,T.cl,T.nH,oV _ _,_,(n:Int),rfl,Fi hd ft h6,λH1 s1=>?_];refine#[_,rfl,?_];refine#[_,rfl,a,e,rfl,hd.same s1,λt H2 s2 et=>?_];have s12:=s1.trans s2;refine#[_,rfl,_,rfl,p,C,dx,_,_,rfl,s12 _ _ h1,T.cl,T.nD,jW _ _,d,_,rfl,.inr #[_,nmK e,t,.inl (s12 _ _ h2),rfl,et,rfl],_,rfl,?_];have vn:aH (bH L) (nmK e)=none:=by
  rw[mL];have:L.find? (λx=>decide (nmK x.2=nmK e))=none:=by rw[List.find?_eq_none];intro y hy;simpa using hn y hy
  rw[this];rfl
 rw[vn];refine aK ?_;have lk:(bH L).length<=63:=by unfold bH;rw[Zb];exact h7
 refine#[_,rfl,_,rfl,p,C,dx,_,_,rfl,s12 _ _ h1,T.cl,T.nD,jW _ _,_,rfl,d,_,rfl,.inr #[_,nmK e,t,s12 _ _ h2,rfl,et,Nat.lt_of_le_of_lt lk (by rw[PySem.sizeLine_eq];decide),rfl],?_];exact q _ (λb o eb hb=>by rw[ah hb];exact s12 _ _ eb) (Dz S s12 hd ft ll hn vn)
theorem DF(L:LT):(bH L).map (·.2)=aE L:=by unfold bH aE;rw[x4];rfl
abbrev gP:Stmt:=aY (top 71) 2
abbrev sF:List Str:=["self"]
theorem rg:FnScope sF ["self"] (aj gP):= ~~~0
theorem qP{f C T:MU}{fd:M0}(F:Fun K "ready" "Store.ready" gP f fd)(X:Txt K C)(K8:↑Fn 5 "ready_of" ["deeds"] (yw T))(r9:mg "list" = none):↑FnOk CX0 6 f fd ["self"] (oB C T):=by
 exists rg
 obtain⟨p,d,n,L,rfl,S,tab,q⟩:=h;obtain⟨⟨dx,h1⟩,h2,h3,h4,h5,h6,h7⟩:=id S;exists _,(b_1 (am (aw K8 ↑99 (q_a (ko (xF rfl) r9 kZ (q_a (Cs (bR ↑0)) ag)) ag))))
 refine#[_,rfl,p,C,dx,_,_,rfl,h1,X.cl,X.nD,jW _ _,d,_,rfl,h2,λv gv=>?_];have sv:=af gv (fH v (mO d));refine#[v,d,_,rfl,ad,sv _ _ h2,λl2 g2=>?_];rw[DF];have s2:=sv.trans (af g2 (.lst (aE L)));refine#[l2,L,n,rfl,#[ad,λx hx=>(h3 x hx).same s2],h7,h6,h4,bO tab s2,λD H' S' pS sS sT tab' eD nD=>?_];exact q D H' _ #[S',pS,sS,rfl] (λb o e hb=>sT _ _ (s2 _ _ e) hb) tab' eD (s2.free nD)
theorem bC{α:Type}{l:List α}{i:Nat}{x:α}(h:l[i]?=some x):l.take (i+1)=l.take i++[x]:=by rw[List.take_succ,h];rfl
theorem bJ{L:LT}{k:Nat}{x:V}(h:(aE L)[k]?=some x):∃y,L[k]?=some y/\y∈L/\x=.ref y.1:=by obtain⟨hk,rfl⟩:=nY h;exact#[L[k],Zj hk,ZR hk,rfl]
theorem qz(n:Nat)(d:MU){m:Str}(h1:¬m="deeds")(h2:¬m="hands"):(jk n d).lookup m=none:=by
 unfold jk;rw[aT,MN h1,aT,MN h2]
 all_goals rfl
theorem vo(n:Nat)(d:MU):(jk n d).lookup ("ready":Str)=none:=qz n d ⋯ ⋯
def aG(ns:M5)(h:Nat):M5:=ns.take h++[au ns h+1]++ns.drop (h+1)
def yx:Sp:=λvs H Q _=>∃(h:Int),vs=[.int h]/\1<=h/\h<=8/\∀p H',Same H H'->H' p=some (.tup ((List.replicate h.toNat (0:Int)).map V.int))->Q (.ref p) H'
def oA:Sp:=λvs H Q _=>∃(a:MU) (ns:M5) (h:Int),vs=[.ref a,.int h]/\H a=some (.tup (ns.map V.int))/\0<=h/\h<ns.length/\ns.length<=8/\∀p H',Same H H'->H' p=some (.tup ((aG ns h.toNat).map V.int))->Q (.ref p) H'
abbrev gU:Stmt:=top 6
abbrev sJ:List Str:=["hands"]
theorem rj:FnScope sJ ["hands"] (aj gU):= ~~~0
theorem qU{f:MU}{fd:M0}(F:Fun K "start_clock" "start_clock" gU f fd):↑FnOk CX0 1 f fd ["hands"] yx:=by
 exists rj
 obtain⟨h,rfl,h1,h8,q⟩:=h;exists _,(b_1 (am (bg Hr (aB (q_a ai ag)) ↑0)))
 refine#[sz rfl,λp g=>?_];refine#[_,rfl,p,h,[.int 0],rfl,rfl,ad,h1,∅,(by simp),(fP (by rw[y0];omega)),λp2 H2 s2 e2=>?_];refine q p2 H2 ((af g _).trans s2) ?_;rw[e2,List.flatten_replicate_singleton,List.map_replicate]
abbrev oh:Stmt:=top 8
abbrev C8:List Str:=["clock","hand"]
theorem CA:FnScope C8 ["clock","hand"] (aj oh):= ~~~0
theorem Cc{f:MU}{fd:M0}(F:Fun K "raised" "raised" oh f fd):↑FnOk CX0 1 f fd ["clock","hand"] oA:=by
 exists CA
 obtain⟨a,ns,h,rfl,hA,h0,h1,h8,q⟩:=h;have hk:h.toNat<ns.length:=∅
 have c1:bM (ns.map V.int) none (some h)=(ns.take h.toNat).map V.int:=by unfold bM;rw[Zb,HT.sIx_none,vL h0,YV ∅,List.drop_zero,Nat.sub_zero,List.map_take]
 have c2:bM (ns.map V.int) (some (h+1)) none=(ns.drop (h.toNat+1)).map V.int:=by unfold bM;rw[Zb,HT.sIx_none,vL ∅,YV ∅,<-List.map_drop,<-List.map_take];rw[show(h+1).toNat=h.toNat+1 by omega,Yd (by rw[YC];exact Za _)]
 exists _,(b_1 (am (bg gC (bg gC (eL de ↑0 eW (dP ↑1)) (aB (q_a (bg dU (aq ao ↑0 ↑1) ai) ag))) (eL de ↑0 (dP (bg dU ↑1 ai)) eW))))
 refine#[_,rfl,_,rfl,_,rfl,a,_,rfl,hA,λp1 H1 s1 e1=>?_];rw[c1]at e1;refine#[_,rfl,_,rfl,a,_,_,_,rfl,rfl,Nb (s1 _ _ hA),dq h0 h1,_,_,rfl,rfl,sz rfl,λp2 g2=>?_];have s2:=af g2 (.tup [.int (au ns h.toNat+1)]);refine#[p1,p2,_,_,rfl,rfl,s2 _ _ e1,ad,(fP (by rw[Zb,ZP,y0];omega)),λp3 H3 s3 e3=>?_];refine#[_,rfl,_,rfl,_,_,rfl,rfl,_,rfl,a,_,rfl,s3 _ _ (s2 _ _ (s1 _ _ hA)),λp4 H4 s4 e4=>?_];rw[c2]at e4;refine#[p3,p4,_,_,rfl,rfl,s4 _ _ e3,e4,(fP (by simp only[Zk,Zb,ZP,YC,y0];omega)),λp5 H5 s5 e5=>?_];refine q p5 H5 (s1.trans (s2.trans (s3.trans (s4.trans s5)))) ?_;rw[e5];unfold aG;rw[Zy,Zy];rfl
def cW(ds:List Dd)(g:Nat):Int:=((ds.countP λd=>decide (d.h=g):Nat):Int)
def aF(n:Nat)(ds:List Dd):M5:=(List.range n).map (cW ds)
theorem cX{n g:Nat}{ds:List Dd}(h:g<n):au (aF n ds) g=cW ds g:=by unfold au aF;rw[ZE,List.getElem?_range h];rfl
theorem aL(n:Nat)(ds:List Dd):(aF n ds).length=n:=by unfold aF;rw[Zb,List.length_range]
theorem aX{ns:M5}{h:Nat}(hh:h<ns.length):aG ns h=ns.set h (au ns h+1):=by unfold aG;rw[List.set_eq_take_append_cons_drop,MO hh,List.append_assoc];rfl
theorem oR{n:Nat}{ds:List Dd}{d:Dd}(h:d.h<n):aG (aF n ds) d.h=aF n (ds++[d]):=by
 have hl:d.h<(aF n ds).length:=by rw[aL];exact h
 rw[aX hl];refine nL (by rw[Yx,aL,aL]) λi hi=>?_;rw[Yx,aL]at hi;rw[ik hl,cX h,cX hi,cX hi];unfold cW;rw[List.countP_append,Int.natCast_add];by_cases c:i=d.h
 ·rw[MO c,List.countP_cons_of_pos (by rw[c];exact decide_eq_true rfl),c];rfl
 ·rw[MN c,List.countP_cons_of_neg (by simpa using λz=>c z.symm)];exact(Int.add_zero _).symm
def oy(C T:MU):Sp:=λvs H Q _=>∃(p d:MU) (n:Nat) (L:LT),vs=[.ref p]/\StoreAt C H p d n L/\bc lH T (lA kj) H /\
 ∀c H' (M:LT),RDY L M->SameT T H H'->bc lH T (lA kj) H'->H' c=some (.tup ((aF n (vals M)).map V.int))->Q (.ref c) H'
theorem qr(n:Nat):aF n []=List.replicate n 0:=by refine nL (by rw[aL,x5]) λi hi=>?_;rw[aL]at hi;rw[cX hi,Do];rfl
abbrev gO:Stmt:=aY (top 71) 4
abbrev sE:List Str:=["self","clock","deed"]
theorem eT:FnScope sE ["self"] (aj gO):= ~~~0
theorem qO{f C T:MU}{fd:M0}(F:Fun K "clock" "Store.clock" gO f fd)(X:Txt K C)(Kt:↑MFn 6 C "ready" ["self"] (oB C T))(Kk:↑Fn 1 "start_clock" ["hands"] yx)(v6:↑Fn 1 "raised" ["clock","hand"] oA):↑FnOk CX0 7 f fd ["self"] (oy C T):=by
 exists eT
 obtain⟨p,d,n,L,rfl,S,tab,q⟩:=h;obtain⟨⟨dx,h1⟩,h2,h3,h4,h5,h6,h7⟩:=id S;exists _,(b_c (aC (i:=1) eT.nd (aw Kk ↑99 (q_a (bR ↑0) ag)))
   (b_c (cH ZS rfl (bz (cS Kt ↑99 ↑0)) (aA (i:=2) eT.nd) (b_1 (aC (i:=1) eT.nd (aw v6 ↑99 (q_a ↑1 (q_a (aq ao ↑2 ai) ag))))))
   (b_1 (am ↑1))))
 refine ay λR0 hR0=>?_;refine#[_,rfl,p,C,dx,_,_,rfl,h1,X.cl,X.nH,oV _ _,(n:Int),rfl,∅,∅,λc0 H0 s0 e0=>hR0 _ _ ?_];rw[ZJ,<-qr]at e0;refine ay λR0 hR0=>?_;refine#[_,rfl,p,dx,_,rfl,s0 _ _ h1,vo _ _,p,d,n,L,rfl,S.same s0,bO tab s0,λD H1 M rd sT tab1 eD nD=>?_];have kt1:=KT.tab (bO tab s0) sT;have S1:=(S.same s0).kt kt1;have lM:=rd.len;have e1:H1 c0=some (.tup ((aF n (vals [])).map V.int)):=kt1.ts _ _ e0;refine#[D,rfl,#[_,Nc eD],?_];refine By (K:=K) (a:=D) (xs:=aE M) (λi σ H'=>Same H1 H'/\∃(c:MU) (o2:Option V),H' c=some (.tup ((aF n (vals (M.take i))).map V.int))/\σ=[some (.ref p),some (.ref c),o2]) #[Same.refl _,c0,none,e1,rfl] (λi σ H' _ z=>Nc (z.1 _ _ eD)) ?_ ?_
 ·rintro i v σ H' hv ⟨sm,c,o2,ec,rfl⟩ DL hDL;obtain⟨y,hy,my,rfl⟩:=bJ hv;obtain⟨cl,wv,d1,d2,d3,d4,d5⟩:=(S1.dr y (rd.sub y my)).same sm;have hy2:y.2∈vals L:=Zm.mpr #[y,rd.sub y my,rfl];have lh:=(h4.len _ hy2)
  refine#[_,rfl,vix rfl (Nb d1) at0 #[c,_,(y.2.h:Int),rfl,ec,∅,by rw[aL];omega,by rw[aL];exact h6,λc2 H2 s2 e2=>hDL _ _ #[sm.trans s2,c2,_,?_,rfl]]];rw[e2,ZJ,oR ∅,bC hy];unfold vals;rw[Zy];rfl
 rintro σ H' ⟨sm,c,o2,ec,rfl⟩;refine hR0 _ _ ?_;rw[cC,ZQ]at ec;exact#[_,rfl,q c H' M rd (λb o e hb=>sm _ _ (sT _ _ (s0 _ _ e) hb)) (bO tab1 sm) ec]
def aI(d:Dd):Int:=au d.ns d.h
def isT:Wh->Bool
 |.trn _ _=>true
 |_=>false
def di:Wh->Bool
 |.no=>false
 |.trn _ _=>false
 |_=>true
def wW:Wh->Str
 |.no=>"none"
 |.put _=>"put"
 |.itm c _ _=>iW c
 |.trn b _=>ofW b
theorem WR.head{H:Hp}{v:V}{w:Wh}(x:WR H v w):∃p r,v=.ref p/\H p=some (.tup (.str (wW w)::r)):=by
 cases w with
 |no =>obtain⟨p,h1,h2⟩:=x;exact#[p,_,h1,h2]
 |put m =>obtain⟨p,q,h1,h2,_⟩:=x;exact#[p,_,h1,h2]
 |itm b h k =>obtain⟨p,q,r,h1,h2,_⟩:=x;exact#[p,_,h1,h2]
 |trn b k =>obtain⟨p,h1,h2⟩:=x;exact#[p,_,h1,h2]
theorem qA(w:Wh):inV (.str (wW w)) [.str "off",.str "on"]=isT w:=by
 cases w with
 |no=>exact(show inV (.str "none") [.str "off",.str "on"]=false by decide)
 |put m=>exact(show inV (.str "put") [.str "off",.str "on"]=false by decide)
 |itm c h k=>exact(show inV (.str (iW c)) [.str "off",.str "on"]=false by cases c<;>decide +kernel)
 |trn b k=>exact(show inV (.str (ofW b)) [.str "off",.str "on"]=true by cases b<;>decide +kernel)
theorem BI(w:Wh):(!inV (.str (wW w)) [.str "off",.str "on",.str "none"])=di w:=by
 cases w with
 |no=>exact(show(!inV (.str "none") [.str "off",.str "on",.str "none"])=false by decide)
 |put m=>exact(show(!inV (.str "put") [.str "off",.str "on",.str "none"])=true by decide)
 |itm c h k=>exact(show(!inV (.str (iW c)) [.str "off",.str "on",.str "none"])=true by cases c<;>decide +kernel)
 |trn b k=>exact(show(!inV (.str (ofW b)) [.str "off",.str "on",.str "none"])=false by cases b<;>decide +kernel)
theorem yg(b:Bool):decide (V.str (ofW b)=V.str "off")=!b:=by cases b<;>decide +kernel
def eQ(x:Dd):Option (List Key):=match x.w with
 |.trn _ n=>some [.inl (x.h:Int),.inl n]
 |_=>none
def ltn(L:LT)(k:List Key):Option (MU×Dd):=L.foldl (λo x=>if eQ x.2=some k then some x else o) none
theorem iy(L:LT)(x:MU×Dd)(k:List Key):ltn (L++[x]) k=if eQ x.2=some k then some x else ltn L k:=by unfold ltn;rw[List.foldl_append];rfl
theorem nR{L:LT}{i:Nat}{x:MU×Dd}(h:L[i]?=some x)(k:List Key):ltn (L.take (i+1)) k=if eQ x.2=some k then some x else ltn (L.take i) k:=by rw[bC h,iy]
theorem nQ{L:LT}{k:List Key}{y:MU×Dd}:ltn L k=some y->y∈L/\eQ y.2=some k:=by
 suffices h:∀i,ltn (L.take i) k=some y->y∈L/\eQ y.2=some k by
  have:=h L.length
  rwa [ZQ]at this
 intro i;induction i with
 |zero=>exact λh=>nomatch h
 |succ i ih =>
  cases e:L[i]? with
  |none =>have hl:L.length<=i:=List.getElem?_eq_none_iff.mp e;rw[Yd ∅];rw[Yd hl]at ih;exact ih
  |some x =>
   rw[nR e];intro h;by_cases c:eQ x.2=some k
   ·rw[MO c]at h;cases h;exact#[Zv e,c]
   ·rw[MN c]at h;exact ih h
def DN:Wh->Bool
 |.trn b _=>!b
 |_=>false
def zJ:Option (MU×Dd)->Bool
 |some y=>DN y.2.w
 |none=>false
def aQ(L:LT)(x:Dd):Bool:=!isT x.w&&zJ (ltn L (nmK x))
def TOk(kvs:Ng)(L:LT):Prop:=∀k,aH kvs k=(ltn L k).map λy=>V.ref y.1
def kO:Sp:=λvs H Q _=>∃(d:MU) (x:Dd),vs=[.ref d]/\DR H d x/\∀H',Same H H'->Q (.bl (isT x.w)) H'
def oF:Sp:=λvs H Q _=>∃(d:MU) (x:Dd) (b:Bool) (n:Int),vs=[.ref d]/\DR H d x/\x.w=.trn b n/\∀p H',Same H H'->H' p=some (.tup [.int (x.h:Int),.int n])->Q (.ref p) H'
def mo:Sp:=λvs H Q _=>∃(l:MU) (L:LT),vs=[.ref l]/\LR H l L/\L.length<=63/\∀p kvs H',Same H H'->H' p=some (.dT kvs)->TOk kvs L->Q (.ref p) H'
def mJ:Sp:=λvs H Q _=>∃(d p:MU) (x:Dd) (kvs:Ng) (L:LT),vs=[.ref d,.ref p]/\DR H d x/\H p=some (.dT kvs)/\TOk kvs L/\(∀y∈L,DR H y.1 y.2)/\∀H',Same H H'->Q (.bl (aQ L x)) H'
def pU:Sp:=λvs H Q _=>∃(l:MU) (L:LT),vs=[.ref l]/\LR H l L/\L.length<=63/\∀p H',Same H H'->LR H' p (L.filter λx=>!aQ L x.2)->Q (.ref p) H'
def Ay:Sp:=λvs H Q _=>∃(l:MU) (L:LT) (me:Nat),vs=[.ref l,.int (me:Int)]/\LR H l L/\L.length<=63/\∀p H',Same H H'->LR H' p (L.filter λx=>decide (x.2.h=me))->Q (.ref p) H'
def wo:Sp:=λvs H Q _=>∃(l:MU) (L:LT),vs=[.ref l]/\LR H l L/\L.length<=63/\(∀H',Same H H'->(∀x∈L,di x.2.w=false)->Q .non H')/\∀H',Same H H'->∀x∈L,di x.2.w=true->(∀y∈L,di y.2.w=true->aI y.2<=aI x.2)->Q (.int (aI x.2)) H'
abbrev lZ:Stmt:=top 56
abbrev AV:List Str:=["deed"]
theorem At:FnScope AV ["deed"] (aj lZ):= ~~~0
theorem zW{f:MU}{fd:M0}(F:Fun K "is_turn" "is_turn" lZ f fd):↑FnOk CX0 1 f fd ["deed"] kO:=by
 exists At
 obtain⟨d,x,rfl,⟨c,v,e1,e2,e4,e3⟩,q⟩:=h;obtain⟨p0,r,rfl,e5⟩:=e4.head;exists _,(b_1 (am (cA (km (K:=K) rfl) (aq ao (aq ao ↑0 ai) ai) (aB (q_a ar (q_a ar ag))))))
 refine#[_,rfl,d,_,_,_,rfl,rfl,Nb e1,rfl,p0,_,_,_,rfl,rfl,Nb e5,at0,sz rfl,λp g=>?_];refine#[p,_,rfl,.inr (Nb ad),rfl,rfl,?_];rw[MN Zg,qA];exact q _ (af g _)
abbrev gW:Stmt:=top 57
abbrev sL:List Str:=["deed"]
theorem rk:FnScope sL ["deed"] (aj gW):= ~~~0
theorem qV{f:MU}{fd:M0}(F:Fun K "turned_name" "turned_name" gW f fd):↑FnOk CX0 1 f fd ["deed"] oF:=by
 exists rk
 obtain⟨d,x,b,n,rfl,⟨c,v,e1,e2,e4,e3⟩,et,q⟩:=h;rw[et]at e4;obtain⟨p0,rfl,e5⟩:=e4;exists _,(b_1 (am (aB (q_a (aq ao ↑0 ai) (q_a (aq ao (aq ao ↑0 ai) ai) ag)))))
 refine#[_,rfl,d,_,_,_,rfl,rfl,Nb e1,rfl,_,rfl,d,_,_,_,rfl,rfl,Nb e1,rfl,p0,_,_,_,rfl,rfl,Nb e5,rfl,sz rfl,λp g=>?_];exact q p _ (af g _) ad
abbrev iQ:Stmt:=top 58
abbrev um:List Str:=["ready","turns","deed"]
theorem gX:FnScope um ["ready"] (aj iQ):= ~~~0
theorem tj{f:MU}{fd:M0}(F:Fun K "last_turns" "last_turns" iQ f fd)(i6:↑Fn 1 "is_turn" ["deed"] kO)(i7:↑Fn 1 "turned_name" ["deed"] oF):↑FnOk CX0 2 f fd ["ready"] mo:=by
 exists gX
 obtain⟨l,L,rfl,hL,hz,q⟩:=h;exists _,(b_c (aC (i:=1) gX.nd kz)
   (b_c (cH ZS rfl (bz ↑0) (aA (i:=2) gX.nd) (b_1 (aJ (bY (aw i6 ↑99 (q_a ↑2 ag))) (b_1 (fK hr.units ↑1 (aw i7 ↑99 (q_a ↑2 ag)) ↑2)) b_0)))
   (b_1 (am ↑1))))
 refine λp g=>?_;have s0:=af g (.dT []);refine#[_,rfl,l,rfl,#[_,Nc (s0 _ _ hL.1)],?_];refine dj (K:=K) (a:=l) (xs:=aE L) (λi σ H'=>Same H H'/\∃o kvs,σ=[some (.ref l),some (.ref p),o]/\H' p=some (.dT kvs)/\kvs.length<=i/\TOk kvs (L.take i)) #[s0,none,[],rfl,ad,Za _,λk=>rfl] (λi σ H' _ z=>Nc (z.1 _ _ hL.1)) (λi x σ H' hx hP D' kN=>?_) (λσ H' hP=>?_)
 ·obtain⟨sm,o,kvs,rfl,ed,hl,hk⟩:=hP;obtain⟨y,hy,ym,rfl⟩:=bJ hx;have hd:=(hL.2 y ym).same sm;have hi:i<L.length:=(Zi.mp hy).1;refine#[_,rfl,y.1,y.2,rfl,hd,λH1 s1=>#[_,rfl,?_]];cases et:isT y.2.w with
  |true =>
   obtain⟨b,n,ew⟩:∃b n,y.2.w=.trn b n:=by
    cases e:y.2.w with
    |trn b n=>exact#[b,n,rfl]
    |no=>rw[e]at et;cases et
    |put m=>rw[e]at et;cases et
    |itm b h k=>rw[e]at et;cases et
   have et':eQ y.2=some [.inl (y.2.h:Int),.inl n]:=by unfold eQ;rw[ew]
   refine aK ?_;refine#[_,rfl,_,rfl,_,rfl,y.1,y.2,b,n,rfl,hd.same s1,ew,λp2 H2 s2 e2=>?_];have ed2:=s2 _ _ (s1 _ _ ed);refine#[p,_,rfl,DPut.t (k:=[.inl (y.2.h:Int),.inl n]) ed2 e2 (be ∅),kN _ _ ?_];refine#[dH ((sm.trans s1).trans s2) g,_,_,rfl,ad,?_,?_]
   ·have:=cJ kvs [.inl (y.2.h:Int),.inl n] (.ref y.1);omega
   ·intro k;rw[dI,nR hy,et',hk k];by_cases c:k=[.inl (y.2.h:Int),.inl n]
    ·rw[MO c,MO (by rw[c])];rfl
    ·rw[MN c,MN λz=>c (Zn z).symm]
  |false =>
   have et':eQ y.2=none:=by
    unfold eQ;cases e:y.2.w with
    |trn b n=>rw[e]at et;cases et
    |no=>rfl
    |put m=>rfl
    |itm b h k=>rfl
   exact aD (kN _ _ #[sm.trans s1,_,kvs,rfl,s1 _ _ ed,Yn hl,λk=>by rw[nR hy,et',MN nofun];exact hk k])
 ·obtain⟨sm,o,kvs,rfl,ed,hl,hk⟩:=hP;rw[show(aE L).length=L.length by unfold aE;rw[Zb],ZQ]at hk;exact#[_,rfl,q p kvs H' sm ed hk]
abbrev nZ:Stmt:=top 59
abbrev C6:List Str:=["deed","turns","name"]
theorem rZ:FnScope C6 ["deed","turns"] (aj nZ):= ~~~0
theorem Ca{f:MU}{fd:M0}(F:Fun K "is_off" "is_off" nZ f fd)(a6:↑Fn 1 "name_of" ["deed"] cE)(i6:↑Fn 1 "is_turn" ["deed"] kO):↑FnOk CX0 2 f fd ["deed","turns"] mJ:=by
 exists rZ
 obtain⟨d,p,x,kvs,L,rfl,hd,ep,hk,hL,q⟩:=h;exists _,(b_c (aC (i:=2) rZ.nd (aw a6 ↑99 (q_a ↑0 ag)))
   (b_1 (am (cG (tS (aw i6 ↑99 (q_a ↑0 ag))) (cG (Ag hr.units ↑2 ↑1) (cP (cA br (aq ao (aq ao (cu hr.units ↑1 ↑2) ai) ai) ar)))))))
 refine#[_,rfl,d,x,rfl,hd,λp1 H1 s1 e1=>?_];refine#[_,rfl,d,x,rfl,hd.same s1,λH2 s2=>?_];have S2:=s1.trans s2;refine#[_,rfl,_,rfl,?_];cases ht:isT x.w with
 |true =>
  have e:aQ L x=false:=by unfold aQ;rw[ht];rfl
  rw[e]at q;exact aD (q H2 S2)
 |false =>
  have e:aQ L x=zJ (ltn L (nmK x)):=by unfold aQ;rw[ht];rfl
  rw[e]at q;refine aK ?_;have e2:H2 p1=some (.tup ((nmK x).map kV)):=s2 _ _ e1;have dg0:=DGet.t (S2 _ _ ep) e2;rw[hk (nmK x)]at dg0;refine#[_,rfl,_,rfl,p,_,rfl,dg0,_,rfl,?_];cases hl:ltn L (nmK x)with
  |none =>rw[hl]at q;exact aD (q H2 S2)
  |some y =>
   rw[hl]at q dg0;refine aK ?_;obtain⟨ym,et⟩:=nQ hl;obtain⟨b,n,ew⟩:∃b n,y.2.w=.trn b n:=by
    unfold eQ at et;cases e:y.2.w with
    |trn b n=>exact#[b,n,rfl]
    |no=>rw[e]at et;cases et
    |put m=>rw[e]at et;cases et
    |itm b h k=>rw[e]at et;cases et
   obtain⟨c,v,d1,d2,d4,d3⟩:=(hL y ym).same S2;rw[ew]at d4;obtain⟨p3,rfl,d5⟩:=d4;refine#[_,rfl,_,rfl,p,_,rfl,dg0,y.1,_,_,_,rfl,rfl,Nb d1,rfl,p3,_,_,_,rfl,rfl,Nb d5,at0,rfl,?_];rw[yg];have e3:zJ (some y)=!b:=by show DN y.2.w=!b;rw[ew];rfl
   rw[e3]at q;exact q H2 S2
abbrev kE:Stmt:=top 53
abbrev yG:List Str:=["ready","turns"]
theorem ng:FnScope yG ["ready"] (aj kE):= ~~~0
theorem wY{f:MU}{fd:M0}(F:Fun K "counting" "counting" kE f fd)(a9:↑Fn 2 "last_turns" ["ready"] mo)(j0:↑Fn 2 "is_off" ["deed","turns"] mJ):↑FnOk CX0 3 f fd ["ready"] pU:=by
 exists ng
 obtain⟨l,L,rfl,hL,hz,q⟩:=h;exists _,(b_c (aC (i:=1) ng.nd (aw a9 ↑99 (q_a ↑0 ag)))
   (b_1 (am (cK (own:=["deed"]) (#[rfl,⋯,⋯,rfl,#[rfl,rfl,trivial]]:CompOk _ _ [1] ["turns"]) rfl (bz ↑0) (λ_ _ _ _=>aA (i:=0) (show (["deed","turns"]:List Str).Nodup by decide)) (aM ⋯) (λ_ _ _ _=>(jm (fj (bY (aw j0 ↑99 (q_a ↑0 (q_a ↑1 ag))))))) (λ_ _ _ _=>↑0)))))
 refine#[_,rfl,l,L,rfl,hL,hz,λp kvs H1 s1 e1 hk=>?_];have hL1:=hL.same s1;refine#[_,rfl,l,rfl,#[_,Nc hL1.1],?_];refine bV (K:=K) (a:=l) (xs:=aE L) (λi ys H'=>Same H1 H'/\ys=aE ((L.take i).filter λx=>!aQ L x.2)) (by unfold aE;rw[Zb];omega) (λi ys H' z=>by obtain⟨_,rfl⟩:=z;unfold aE;rw[Zb];exact Zq (Z5 _ _) (by rw[ZP];omega)) #[Same.refl _,rfl] (λi ys H' z=>Nc (z.1 _ _ hL1.1)) (λi ys H' x hx hP Y kY=>?_) (λys p' H' hP hp'=>?_)
 ·obtain⟨sm,rfl⟩:=hP;obtain⟨y,hy,ym,rfl⟩:=bJ hx;refine#[_,rfl,_,rfl,y.1,p,y.2,kvs,L,rfl,(hL1.2 y ym).same sm,sm _ _ e1,hk,λz hz=>(hL1.2 z hz).same sm,λH2 s2=>#[_,rfl,?_]];cases hb:aQ L y.2 with
  |true =>refine aD (kY _ _ #[sm.trans s2,?_]);rw[bC hy,Yc,Yv,MN (by rw[hb];exact Zg),x6,Yr]
  |false =>refine aK #[_,rfl,kY _ _ #[sm.trans s2,?_]];rw[bC hy,Yc,Yv,MO (by rw[hb];rfl)];unfold aE;rw[Zy];rfl
 ·obtain⟨sm,rfl⟩:=hP;have ll:(aE L).length=L.length:=by unfold aE;rw[Zb]
  rw[ll,ZQ];have w3:=s1.trans (sm.trans (af hp' (.lst (aE (L.filter λx=>!aQ L x.2)))));exact q p' _ w3 #[ad,λx hx=>(hL.2 x (Zx.mp hx).1).same w3]
abbrev jw:Stmt:=top 85
abbrev wL:List Str:=["deeds","me"]
theorem vT:FnScope wL ["deeds","me"] (aj jw):= ~~~0
theorem vD{f:MU}{fd:M0}(F:Fun K "own_deeds" "own_deeds" jw f fd):↑FnOk CX0 1 f fd ["deeds","me"] Ay:=by
 exists vT
 obtain⟨l,L,me,rfl,hL,hz,q⟩:=h;exists _,(b_1 (am (cK (own:=["deed"]) (#[rfl,⋯,⋯,rfl,#[rfl,rfl,trivial]]:CompOk _ _ [1] ["me"]) rfl (bz ↑0) (λ_ _ _ _=>aA (i:=0) (show(["deed","me"]:List Str).Nodup by decide)) (aM ⋯) (λ_ _ _ _=>(jm (ax br (aq (iX (K:=K) rfl) ↑0 ai) ↑1))) (λ_ _ _ _=>↑0))))
 refine#[_,rfl,l,rfl,#[_,Nc hL.1],?_];refine bV (K:=K) (a:=l) (xs:=aE L) (λi ys H'=>Same H H'/\ys=aE ((L.take i).filter λx=>decide (x.2.h=me))) (by unfold aE;rw[Zb];omega) (λi ys H' z=>by obtain⟨_,rfl⟩:=z;unfold aE;rw[Zb];exact Zq (Z5 _ _) (by rw[ZP];omega)) #[Same.refl _,rfl] (λi ys H' z=>Nc (z.1 _ _ hL.1)) (λi ys H' x hx hP Y kY=>?_) (λys p' H' hP hp'=>?_)
 ·obtain⟨sm,rfl⟩:=hP;obtain⟨y,hy,ym,rfl⟩:=bJ hx;obtain⟨c,v,e1,_⟩:=(hL.2 y ym).same sm;refine#[_,rfl,y.1,_,_,_,rfl,rfl,Nb e1,rfl,_,rfl,rfl,_,rfl,qD (λe=>?_) (λe=>?_)]
  ·refine#[_,rfl,kY _ _ #[sm,?_]];rw[bC hy,Yc,Yv,MO (decide_eq_true ∅)];unfold aE;rw[Zy];rfl
  ·refine kY _ _ #[sm,?_];rw[bC hy,Yc,Yv,MN (by rw[decide_eq_false ∅];exact Zg),x6,Yr]
 ·obtain⟨sm,rfl⟩:=hP;have ll:(aE L).length=L.length:=by unfold aE;rw[Zb]
  rw[ll,ZQ];have w3:=sm.trans (af hp' (.lst (aE (L.filter λx=>decide (x.2.h=me)))));exact q p' _ w3 #[ad,λx hx=>(hL.2 x (Zx.mp hx).1).same w3]
abbrev gR:Stmt:=top 86
abbrev sI:List Str:=["deeds","numbers"]
theorem jM:FnScope sI ["deeds"] (aj gR):= ~~~0
theorem qS{f:MU}{fd:M0}(F:Fun K "last_undone" "last_undone" gR f fd)(a6:↑Fn 1 "name_of" ["deed"] cE)(n6:mg "max" = none):↑FnOk CX0 2 f fd ["deeds"] wo:=by
 exists jM
 obtain⟨l,L,rfl,hL,hz,qn,q⟩:=h;exists _,(b_c (jK (j:=1) jM.nd (own:=["deed"]) (#[rfl,⋯,⋯,rfl,trivial]:CompOk _ _ [] []) rfl (bz ↑0) (λ_ _ _ _=>aA (i:=0) (show (["deed"]:List Str).Nodup by decide)) (aM ⋯) (λ_ _ _ _=>(jm (ax (nV (K:=K) rfl) (aq (iX (K:=K) rfl) (aq (iX (K:=K) rfl) ↑0 ai) ai) (aB (q_a ar (q_a ar (q_a ar ag))))))) (λ_ _ _ _=>(aq (iX (K:=K) rfl) (aw a6 ↑99 (q_a ↑0 ag)) ai)))
   (b_1 (am (Ii rfl n6 (q_a ↑1 ag)))))
 refine#[_,rfl,l,rfl,#[_,Nc hL.1],?_];refine bV (K:=K) (a:=l) (xs:=aE L) (λi ys H'=>Same H H'/\ys=(((L.take i).filter λx=>di x.2.w).map λx=>aI x.2).map V.int) (by unfold aE;rw[Zb];omega) (λi ys H' z=>by obtain⟨_,rfl⟩:=z;rw[Zb,Zb];exact Zq (Z5 _ _) (by rw[ZP];omega)) #[Same.refl _,rfl] (λi ys H' z=>Nc (z.1 _ _ hL.1)) (λi ys H' x hx hP Y kY=>?_) (λys p' H' hP hp'=>?_)
 ·obtain⟨sm,rfl⟩:=hP;obtain⟨y,hy,ym,rfl⟩:=bJ hx;have hd:=(hL.2 y ym).same sm;obtain⟨c,v,e1,e2,e4,e3⟩:=id hd;obtain⟨p0,r,rfl,e5⟩:=e4.head;refine#[_,rfl,y.1,_,_,_,rfl,rfl,Nb e1,rfl,p0,_,_,_,rfl,rfl,Nb e5,at0,sz rfl,λp g=>?_];have w1:=af g (.tup [.str "off",.str "on",.str "none"]);refine#[p,_,rfl,.inr (Nb ad),rfl,rfl,_,rfl,?_];rw[MO rfl,BI];cases hu:di y.2.w with
  |true =>refine aK #[_,rfl,y.1,y.2,rfl,hd.same w1,λt H2 s2 et=>?_];refine#[t,_,_,_,rfl,rfl,Nb et,rfl,kY _ _ #[sm.trans (w1.trans s2),?_]];rw[bC hy,Yc,Yv,MO hu,Zy,Zy];rfl
  |false =>refine aD (kY _ _ #[sm.trans w1,?_]);rw[bC hy,Yc,Yv,MN (by rw[hu];exact Zg),x6,Yr]
 ·obtain⟨sm,rfl⟩:=hP;have ll:(aE L).length=L.length:=by unfold aE;rw[Zb]
  rw[ll,ZQ];have w3:=sm.trans (af hp' (.lst ((((L.filter λx=>di x.2.w).map λx=>aI x.2).map V.int))));refine#[_,rfl,p',_,rfl,Nc ad,λz=>qn _ w3 λx hx=>?_,λM hM hx=>?_]
  ·cases hu:di x.2.w with
   |false=>rfl
   |true =>have:aI x.2∈((L.filter λx=>di x.2.w).map λx=>aI x.2):=Zm.mpr #[x,Zx.mpr #[hx,hu],rfl];rw[z]at this;cases this
  ·obtain⟨x,hx',rfl⟩:=Zm.mp hM;obtain⟨h1,h2⟩:=Zx.mp hx';exact q _ w3 x h1 h2 λy hy hu=>hx _ (Zm.mpr #[y,Zx.mpr #[hy,hu],rfl])
abbrev fg:Stmt:=top 87
abbrev sH:List Str:=["deeds","turns","names","last"]
theorem gd:FnScope sH ["deeds","turns"] (aj fg):= ~~~0
abbrev EX:Str:=(("last_redone":Str)++".<locals>.")++"<lambda>"
abbrev zq:M8:=Hk (EN ((bK fg).getD 1 (.Pass #[0,0,0,0])))
def Iy(kv:V):Sp:=λvs H Q _=>∃(p b:MU) (kvs:Ng) (k:List Key) (y:MU×Dd),kv=.ref p/\vs=[.ref b]/\H p=some (.dT kvs)/\H b=some (.tup (k.map kV))/\aH kvs k=some (.ref y.1)/\DR H y.1 y.2/\∀a H',Same H H'->H' a=some (.tup ((nmZ y.2).map V.int))->Q (.ref a) H'
theorem fv(a6:↑Fn 1 "name_of" ["deed"] cE):↑LamOkX 2 EX (Hj zq) (Hl zq) "name" "turns" Iy:=by refine#[#[rfl,rfl,rfl,rfl,rfl,⋯,⋯,⋯],λf c' c kv A outer s H v Q hr h=>?_];obtain⟨p,b,kvs,k,y,rfl,e,hp,hb,hv,hd,q⟩:=h;cases e;refine#[_,(aw a6 ↑99 (q_a (cu hr.units ↑1 ↑0) ag)),?_];have dg:=DGet.t (k:=k) hp hb;rw[hv]at dg;exact#[_,rfl,_,rfl,p,.ref y.1,rfl,dg,y.1,y.2,rfl,hd,λa H' s' e'=>q a H' s' e']
abbrev LTr(T:MU)(H:Hp):Prop:=bc EX T (lA zq) H
def wj(T:MU):Sp:=λvs H Q _=>∃(l p:MU) (M L:LT) (me:Nat) (kvs:Ng),vs=[.ref l,.ref p]/\LR H l M/\M.length<=63/\(∀x∈M,x.2.h=me)/\H p=some (.dT kvs)/\TOk kvs L/\(∀y∈L,DR H y.1 y.2)/\LTr T H /\
 (∀H',SameT T H H'->LTr T H'->(∀x∈M,aQ L x.2=false)->Q .non H') /\
 ∀H' x y,SameT T H H'->LTr T H'->x∈M->aQ L x.2=true->ltn L (nmK x.2)=some y->(∀x' y',x'∈M->aQ L x'.2=true->ltn L (nmK x'.2)=some y'->aI y'.2<=aI y.2)->Q (.int (aI x.2)) H'
theorem fV{L:LT}{x:Dd}(h:aQ L x=true):∃y,ltn L (nmK x)=some y/\y∈L/\y.2.h=x.h:=by
 unfold aQ at h;cases e:ltn L (nmK x)with
 |none=>rw[e]at h;simp[zJ]at h
 |some y =>
  obtain⟨ym,et⟩:=nQ e;refine#[y,rfl,ym,?_];unfold eQ at et;cases ew:y.2.w with
  |trn b n =>rw[ew]at et;have:=Zn et;injection this with k1 k2;injection k1 with k1;omega
  |no=>rw[ew]at et;cases et
  |put m=>rw[ew]at et;cases et
  |itm b h k=>rw[ew]at et;cases et
theorem bW{α β:Type}{R:α->β->Prop}{xs:List α}{ys:List β}(x:Paired R xs ys):∀{i:Nat} {a:α},xs[i]?=some a->∃b,ys[i]?=some b/\R a b:=by
 induction x with
 |nil=>intro i a h;simp at h
 |cons r _ ih =>
  intro i a h;cases i with
  |zero=>cases h;exact#[_,rfl,r]
  |succ i=>exact ih h
theorem cn{α β:Type}{R:α->β->Prop}{xs:List α}{ys:List β}{a:α}{b:β}(h:Paired R xs ys)(r:R a b):Paired R (xs++[a]) (ys++[b]):=by
 induction h with
 |nil=>exact .cons r .nil
 |cons q _ ih=>exact .cons q ih
def zK(L M:LT):LT:=M.filter λx=>aQ L x.2
def kbR(L M:LT)(i:Nat):Int:=aI ((ltn L (nmK ((zK L M).getD i (0,D0)).2)).getD (0,D0)).2
theorem uX{L M:LT}{i:Nat}{x y:MU×Dd}(hx:(zK L M)[i]?=some x)(hy:ltn L (nmK x.2)=some y):kbR L M i=aI y.2:=by unfold kbR;rw[y7,hx,Option.getD_some,hy,Option.getD_some]
theorem qR{f c0 T:MU}{fd:M0}(F:Fun K "last_redone" "last_redone" fg f fd)(hcode:fd.code=.ref c0)(C:CodeHd base c0 T)(B:Blt base mg)(a6:↑Fn 1 "name_of" ["deed"] cE)(j0:↑Fn 2 "is_off" ["deed","turns"] mJ)(n6:mg "max" = none):↑FnOk CX0 5 f fd ["deeds","turns"] (wj T):=by
 have fv:=fv (P:=P) (w:=w) (K:=K) (mg:=mg) (base:=base) a6;refine F.okC hcode gd (λvs H Q E h=>?_) (λA outer s H vs Q E hr h=>?_)
 ·obtain⟨l,p,M,L,me,kvs,rfl,_⟩:=h;rfl
 obtain⟨l,p,M,L,me,kvs,rfl,hM,hz,hme,hp,hk,hL,tab,qn,q⟩:=h;refine#[_,(b_c (jK (j:=2) gd.nd (own:=["deed"]) (#[rfl,⋯,⋯,rfl,#[rfl,rfl,trivial]]:CompOk _ _ [1] ["turns"]) rfl (bz ↑0) (λ_ _ _ _=>aA (i:=0) (show (["deed","turns"]:List Str).Nodup by decide)) (aM ⋯) (λ_ _ _ _=>(jm (bY (aw j0 ↑99 (q_a ↑0 (q_a ↑1 ag)))))) (λ_ _ _ _=>(aw a6 ↑99 (q_a ↑0 ag))))
   (b_c (aC (i:=3) gd.nd (Gj (j:=1) rfl n6 rfl C B (fv) ↑99 (q_a ↑2 ag) rfl rfl rfl rfl))
   (b_1 (am (lJ (ax pw ↑3 aW) aW (aq ao ↑3 ai)))))),?_]
 refine#[_,rfl,l,rfl,#[_,Nc hM.1],?_];refine bV (K:=K) (a:=l) (xs:=aE M) (λi ys H'=>Same H H'/\∃ as:List MU,ys=as.map V.ref/\Paired (λa x=>H' a=some (.tup ((nmZ x.2).map V.int))) as ((M.take i).filter λx=>aQ L x.2)) (by unfold aE;rw[Zb];omega) (λi ys H' z=>by
  obtain⟨_,as,rfl,h⟩:=z;rw[Zb,ZH h];exact Zq (Z5 _ _) (by rw[ZP];omega)) #[Same.refl _,[],rfl,.nil] (λi ys H' z=>Nc (z.1 _ _ hM.1)) (λi ys H' x hx hP Y kY=>?_) (λys p' H' hP hp'=>?_)
 ·obtain⟨sm,as,rfl,hp2⟩:=hP;obtain⟨y,hy,ym,rfl⟩:=bJ hx;have hd:=(hM.2 y ym).same sm;refine#[_,rfl,_,rfl,y.1,p,y.2,kvs,L,rfl,hd,sm _ _ hp,hk,λz hz=>(hL z hz).same sm,λH2 s2=>#[_,rfl,?_]];cases hb:aQ L y.2 with
  |false =>refine aD (kY _ _ #[sm.trans s2,as,rfl,?_]);rw[bC hy,Yc,Yv,MN (by rw[hb];exact Zg),x6,Yr];exact Paired.mapP hp2 λ_ _ z=>s2 _ _ z
  |true =>refine aK #[_,rfl,y.1,y.2,rfl,hd.same s2,λt H3 s3 et=>kY _ _ #[(sm.trans s2).trans s3,as++[t],by rw[Zy];rfl,?_]];rw[bC hy,Yc,Yv,MO hb,x6];exact cn (Paired.mapP hp2 λ_ _ z=>s3 _ _ (s2 _ _ z)) et
 ·obtain⟨sm,as,rfl,hp2⟩:=hP;have ll:(aE M).length=M.length:=by unfold aE;rw[Zb]
  rw[ll,ZQ]at hp2;have w3:=sm.trans (af hp' (.lst (as.map V.ref)));have el:upd H' p' (.lst (as.map V.ref)) p'=some (.lst (as.map V.ref)):=ad;have hp3:=Paired.mapP hp2 λ_ _ z=>af hp' (.lst (as.map V.ref)) _ _ z;generalize upd H' p' (.lst (as.map V.ref))=H2 at w3 el hp3;refine#[_,rfl,p',as.map V.ref,.ref p,me,kbR L M,rfl,rfl,el,bO tab w3,?_,?_,?_]
  ·intro i v H3 hv sT R kR;rw[ZE]at hv;obtain⟨a,ha,rfl⟩:=YJ.mp hv;obtain⟨x,hx,ea⟩:=bW hp3 ha;obtain⟨xm,xo⟩:=Zx.mp (Zv hx);obtain⟨y,ey,ym,yh⟩:=fV xo;have kt:=KT.tab (bO tab w3) sT;refine#[p,a,kvs,nmK x.2,y,rfl,rfl,kt _ _ (w3 _ _ hp) nofun,kt _ _ ea nofun,by rw[hk,ey];rfl,(hL y ym).ts ((Na w3).trans kt.ts),λb H4 s4 e4=>kR b H4 s4 ?_];rw[uX hx ey,e4,show(me:Int)=(y.2.h:Int) by rw[yh,hme x xm]];rfl
  ·intro ez H3 sT tab3;have ea:as=[]:=List.map_eq_nil_iff.mp ez;subst ea;have sT2:SameT T H H3:=λb o e hb=>sT _ _ (w3 _ _ e) hb;refine#[_,rfl,rfl,_,rfl,aK (qn H3 sT2 tab3 λx hx=>?_)];have fl:=ZH hp3;cases hb:aQ L x.2 with
   |false=>rfl
   |true =>have:x∈M.filter λx=>aQ L x.2:=Zx.mpr #[hx,hb];rw[Y1 fl.symm]at this;cases this
  ·intro i v H3 hv hb sT tab3;rw[ZE]at hv;obtain⟨a,ha,rfl⟩:=YJ.mp hv;obtain⟨x,hx,ea⟩:=bW hp3 ha;obtain⟨xm,xo⟩:=Zx.mp (Zv hx);obtain⟨y,ey,ym,yh⟩:=fV xo;have kt:=KT.tab (bO tab w3) sT;have sT2:SameT T H H3:=λb o e hb=>sT _ _ (w3 _ _ e) hb;refine#[_,rfl,rfl,_,rfl,aD #[_,rfl,a,_,_,_,rfl,rfl,Nb (kt _ _ ea nofun),rfl,q H3 x y sT2 tab3 xm xo ey λx' y' xm' xo' ey'=>?_]];have xin:x'∈zK L M:=Zx.mpr #[xm',xo'];obtain⟨k,hk',e⟩:=List.getElem_of_mem xin;have hx':(zK L M)[k]?=some x':=by rw[Zj hk',e]
   have:=hb k (by rw[Zb,ZH hp3];exact hk');rw[uX hx' ey',uX hx ey]at this;exact this
theorem B1{n:Nat}{L:LT}(u:UN n (vals L)){x y:MU×Dd}(hx:x∈L)(hy:y∈L)(h:nmK x.2=nmK y.2):x=y:=by have e1:=xV u hx;rw[h,xV u hy]at e1;injection e1 with e1;injection e1 with e1;exact Prod.ext e1.symm (lB u.uni (Zm.mpr #[x,hx,rfl]) (Zm.mpr #[y,hy,rfl]) h)
theorem Ip{n:Nat}{L M:LT}(u:UN n (vals L))(rd:RDY L M):UN n (vals M)/\Ch n (vals M)/\Sat n (vals L) (vals M)/\(vals M).Pairwise kLt:=by obtain⟨S,pS,hs,rfl⟩:=rd;have uS:UN n (vals S):=u.perm (pS.symm.map Prod.snd);have subM:=(dl S S.length (Za _)).trans (YG _ _);have uM:=uS.sub (fA subM);have cM:=qm uS S.length (Za _);refine#[uM,cM,λd hd h=>Df uS hs d ((pS.map Prod.snd).mem_iff.mpr hd) h,CN (hs.sublist (fA subM)) (GX cM uM)]
inductive Chn(n:Nat):LT->Prop
 |nil:Chn n []
 |snoc {C:LT} {x:MU×Dd} (c:Chn n C) (f:Fit n x.2) (e:x.2.ns=aF n (vals (C++[x]))):Chn n (C++[x])
theorem cY(A B:LT):vals (A++B)=vals A++vals B:=by unfold vals;rw[Zy]
theorem jC(A:List Dd)(x:Dd)(i:Nat):cW (A++[x]) i=cW A i+if x.h=i then 1 else 0:=by
 unfold cW;rw[List.countP_append,List.countP_cons,List.countP_nil];by_cases c:x.h=i
 ·rw[decide_eq_true c,MO rfl,MO c];omega
 ·rw[decide_eq_false c,MN Zg,MN c];omega
theorem qt(ds:List Dd)(i:Nat):0<=cW ds i:=Int.natCast_nonneg _
theorem eO{n:Nat}{C:LT}{x:MU×Dd}(e:x.2.ns=aF n (vals (C++[x]))){i:Nat}(hi:i<n):au x.2.ns i=cW (vals C) i+if x.2.h=i then 1 else 0:=by rw[e,cX hi,cY];exact jC _ _ _
theorem Er{n:Nat}{C:LT}{x:MU×Dd}(e:x.2.ns=aF n (vals (C++[x])))(f:Fit n x.2):aI x.2=cW (vals C) x.2.h+1:=by unfold aI;rw[eO e f.hd,MO rfl]
theorem sf{n:Nat}{C:LT}{x:MU×Dd}(e:x.2.ns=aF n (vals (C++[x]))){i:Nat}(hi:i<n):aV x.2 i=cW (vals C) i:=by
 by_cases c:i=x.2.h
 ·subst c;rw[fE,eO e hi,MO rfl];omega
 ·rw[xX c,eO e hi,MN (λz=>c z.symm)];omega
theorem Chn.fit{n:Nat}{C:LT}(c:Chn n C):∀x∈C,Fit n x.2:=by
 induction c with
 |nil=>exact λx hx=>nomatch hx
 |snoc c f e ih =>
  intro y hy;rcases Zs.mp hy with hy|hy
  ·exact ih y hy
  ·rw[Zd.mp hy];exact f
theorem Chn.top{n:Nat}{C:LT}(c:Chn n C):∀x∈C,∀i,i<n->au x.2.ns i<=cW (vals C) i:=by
 induction c with
 |nil=>exact λx hx=>nomatch hx
 |@snoc C x c f e ih =>
  intro y hy i hi;rw[cY];show _<=cW (vals C++[x.2]) i;rw[jC];rcases Zs.mp hy with hy|hy
  ·have:=ih y hy i hi;split<;>omega
  ·rw[Zd.mp hy,eO e hi];omega
theorem Chn.own{n:Nat}{C:LT}(c:Chn n C):∀x∈C,1<=aI x.2/\aI x.2<=cW (vals C) x.2.h:=λx hx=>#[(c.fit x hx).own,c.top x hx _ (c.fit x hx).hd]
theorem Chn.last{n:Nat}{C:LT}(c:Chn n C):∀i,i<n->0<cW (vals C) i->∃x∈C,x.2.h=i/\aI x.2=cW (vals C) i:=by
 induction c with
 |nil=>exact λi _ h=>absurd (show(0:Int)<0 from h) ⋯
 |@snoc C x c f e ih =>
  intro i hi hp;have ec:cW (vals (C++[x])) i=cW (vals C) i+if x.2.h=i then 1 else 0:=by rw[cY];exact jC _ _ _
  rw[ec]at hp ⊢;by_cases q:x.2.h=i
  ·refine#[x,Zr _ (Zd.mpr rfl),q,?_];rw[Er e f,MO q,q]
  ·rw[MN q]at hp ⊢;obtain⟨y,hy,h1,h2⟩:=ih i hi ∅;exact#[y,Z3 _ hy,h1,∅]
theorem Chn.le{n:Nat}{C:LT}(c:Chn n C){x:MU×Dd}(e:x.2.ns=aF n (vals (C++[x]))):∀y∈C,leC y.2.ns x.2.ns:=λy hy i hi=>by rw[(c.fit y hy).len]at hi;have:=c.top y hy i hi;rw[eO e hi];split<;>omega
theorem Chn.ch{n:Nat}{C:LT}(c:Chn n C):Ch n (vals C):=by
 induction c with
 |nil=>exact λk hk=>absurd hk (Nat.not_lt_zero _)
 |@snoc C x c f e ih =>rw[cY];refine ih.snoc λi hi hl=>?_;rw[sf e hi]at hl;obtain⟨y,hy,h1,h2⟩:=c.last i hi hl;exact#[y.2,Zm.mpr #[y,hy,rfl],h1,by rw[sf e hi];exact h2,c.le e y hy]
theorem Chn.sorted{n:Nat}{C:LT}(c:Chn n C):(vals C).Pairwise kLt:=by
 induction c with
 |nil=>exact .nil
 |@snoc C x c f e ih =>rw[cY];refine List.pairwise_append.mpr #[ih,List.pairwise_singleton _ _,λd hd z hz=>.inl ?_];obtain⟨y,hy,rfl⟩:=Zm.mp hd;rw[Zd.mp hz];refine mq (k:=x.2.h) (by rw[(c.fit y hy).len,f.len]) (c.le e y hy) (by rw[(c.fit y hy).len];exact f.hd) ?_;have:=c.top y hy _ f.hd;rw[eO e f.hd,MO rfl];omega
theorem rW{A:List Dd}(h:A.Pairwise kLt):A.Nodup:=h.imp fun{a b} k z=>by subst z;exact xR k k
theorem lK{n:Nat}{L M:LT}(u:UN n (vals L))(c:Chn n L)(rd:RDY L M):M=L:=by
 obtain⟨uM,cM,sM,oM⟩:=Ip u rd;have sub1:∀d∈vals M,d∈vals L:=λd hd=>by obtain⟨x,hx,rfl⟩:=Zm.mp hd;exact Zm.mpr #[x,rd.sub x hx,rfl]
 have sub2:∀d∈vals L,d∈vals M:=IB c.ch (λd hd=>hd) sM;have ev:vals M=vals L:=CD oM c.sorted ((List.perm_ext_iff_of_nodup (rW oM) (rW c.sorted)).mpr λd=>#[sub1 d,sub2 d]);have el:M.length=L.length:=by
  have:=Yw List.length ev;unfold vals at this
  rwa [Zb,Zb]at this
 refine List.ext_getElem el λi h1 h2=>?_;refine B1 u (rd.sub _ (ZR h1)) (ZR h2) ?_;have:(vals M)[i]?=(vals L)[i]?:=by rw[ev]
 unfold vals at this;rw[ZE,ZE,Zj h1,Zj h2]at this;have:M[i].2=L[i].2:=Zn this;rw[this]
theorem Chn.sum{n:Nat}{C:LT}(c:Chn n C):(aF n (vals C)).sum=(C.length:Int):=by
 induction c with
 |nil =>show(aF n []).sum=_;rw[qr];simp
 |@snoc C x c f e ih =>rw[cY,show vals [x]=[x.2]from rfl,<-oR f.hd,aX (by rw[aL];exact f.hd),CP (by rw[aL];exact f.hd),ih];simp
theorem JP:¬(("store":Str)="me"):=⋯
def hfl(p:MU)(me:Nat):List (Str×V):=cQ "me" (.int (me:Int)) (cQ "store" (.ref p) [])
theorem gB(p:MU)(me:Nat):(hfl p me).lookup ("store":Str)=some (.ref p):=by unfold hfl;rw[aT,MN JP,aT,MO rfl]
theorem oY(p:MU)(me:Nat):(hfl p me).lookup ("me":Str)=some (.int (me:Int)):=by unfold hfl;rw[aT,MO rfl]
theorem io(p:MU)(me:Nat){m:Str}(h1:¬m="me")(h2:¬m="store"):(hfl p me).lookup m=none:=by unfold hfl;rw[aT,MN h1,aT,MN h2];rfl
theorem lf(p:MU)(me:Nat):(hfl p me).lookup ("do":Str)=none:=io p me ⋯ ⋯
theorem DA(p:MU)(me:Nat):(hfl p me).lookup ("hear":Str)=none:=io p me ⋯ ⋯
theorem BE(p:MU)(me:Nat):(hfl p me).lookup ("clock":Str)=none:=io p me ⋯ ⋯
theorem jc(p:MU)(me:Nat):(hfl p me).lookup ("ready":Str)=none:=io p me ⋯ ⋯
theorem DB(p:MU)(me:Nat):(hfl p me).lookup ("redo":Str)=none:=io p me ⋯ ⋯
theorem zl(p:MU)(me:Nat):(hfl p me).lookup ("report":Str)=none:=io p me ⋯ ⋯
theorem yb(n:Nat)(d:MU):(jk n d).lookup ("hear":Str)=none:=qz n d ⋯ ⋯
theorem vm(n:Nat)(d:MU):(jk n d).lookup ("clock":Str)=none:=qz n d ⋯ ⋯
theorem DC(p:MU)(me:Nat):(hfl p me).lookup ("undo":Str)=none:=io p me ⋯ ⋯
structure HandAt(CH CS:MU)(H:Hp)(h p d:MU)(n me:Nat)(L:LT):Prop where
 ob:∃dx,H h=some (.ins CH dx (hfl p me))
 st:StoreAt CS H p d n L
 hm:me<n
structure TxH(K:W.Frag)(C:MU):Prop where
 cl:Cls K C
 nS:NoAttr K C "store"
 nM:NoAttr K C "me"
theorem HandAt.kt{CH CS:MU}{H H':Hp}{h p d:MU}{n me:Nat}{L:LT}(x:HandAt CH CS H h p d n me L)(s:KT H H'):HandAt CH CS H' h p d n me L:=by obtain⟨⟨dx,h1⟩,h2,h3⟩:=x;exact#[#[dx,s _ _ h1 λps z=>by cases z],h2.kt s,h3]
theorem HandAt.same{CH CS:MU}{H H':Hp}{h p d:MU}{n me:Nat}{L:LT}(x:HandAt CH CS H h p d n me L)(s:Same H H'):HandAt CH CS H' h p d n me L:=x.kt (.of s)
def KD(d:MU)(H H':Hp):Prop:=∀b o,H b=some o->(∀ps,o≠.tbl ps)->b≠d->H' b=some o
theorem KD.of{d:MU}{H H':Hp}(s:KT H H'):KD d H H':=λb o e n _=>s b o e n
theorem KD.trans{d:MU}{H H' H2:Hp}(s:KD d H H')(t:KD d H' H2):KD d H H2:=λb o e n m=>t b o (s b o e n m) n m
theorem KD.ts{d:MU}{H H':Hp}{kvs:Ng}(s:KD d H H')(e:H d=some (.dT kvs)):TS H H':=λa zs h=>s a _ h nofun λz=>by rw[z,e]at h;cases h
theorem KD.lst{d a:MU}{H H':Hp}{kvs:Ng}{xs:Nh}(s:KD d H H')(e:H d=some (.dT kvs))(h:H a=some (.lst xs)):H' a=some (.lst xs):=s a _ h nofun λz=>by rw[z,e]at h;cases h
abbrev LTb(T:MU)(H:Hp):Prop:=bc lH T (lA kj) H
theorem Gy{T k:MU}{Ha Hb:Hp}{kvs:Ng}(t:LTb T Ha)(s:SameT k Ha Hb)(e:Ha k=some (.dT kvs)):LTb T Hb:=dE t s λf hf=>by rw[e]at hf;cases hf;exact#[λps e=>(by cases e),λc e=>(by cases e)]
def bA(n me:Nat)(C:LT)(w:Wh):Dd:=#[me,aG (aF n (vals C)) me,w]
inductive spHInit(CH CS:MU)(vs:Nh)(H:Hp)(Q:VK)(E_:XK):Prop
 |mk (h dx:MU) (n me:Nat) (h0:vs=[.ref h,.int (n:Int),.int (me:Int)]) (h1:H h=some (.ins CH dx [])) (n1:1<=n) (n8:n<=8) (hm:me<n)
   (q:∀p d H',H d=none->HandAt CH CS H' h p d n me []->(∀b o,H b=some o->b≠h->H' b=some o)->Q .non H'):spHInit CH CS vs H Q E_
structure Sta(CH CS T R:MU)(H:Hp)(h p d:MU)(n me:Nat)(L:LT):Prop where
 ha:HandAt CH CS H h p d n me L
 ch:Chn n L
 t1:LTb T H
 t2:LTr R H
 ne:T≠R
theorem sk{q:Str}{T R:MU}{pos pos':Pos}{q':Str}{H H':Hp}(t:bc q T pos H)(r:bc q' R pos' H)(ne:R≠T)(s:SameT T H H'):bc q' R pos' H':=by obtain⟨ps,e1,e2,e3⟩:=r;refine#[ps,s _ _ e1 ne,e2,e3.imp id fun⟨c,z1,z2⟩=>#[c,z1,s _ _ z2 λz=>?_]];obtain⟨qs,f1,_⟩:=t;rw[z,f1]at z2;cases z2
theorem Sta.same{CH CS T R:MU}{H H':Hp}{h p d:MU}{n me:Nat}{L:LT}(x:Sta CH CS T R H h p d n me L)(s:Same H H'):Sta CH CS T R H' h p d n me L:=#[x.ha.same s,x.ch,bO x.t1 s,bO x.t2 s,x.ne]
theorem Sta.sT{CH CS T R:MU}{H H':Hp}{h p d:MU}{n me:Nat}{L:LT}(x:Sta CH CS T R H h p d n me L)(s:SameT T H H')(t:LTb T H'):Sta CH CS T R H' h p d n me L:=#[x.ha.kt (KT.tab x.t1 s),x.ch,t,sk x.t1 x.t2 x.ne.symm s,x.ne]
theorem Sta.sR{CH CS T R:MU}{H H':Hp}{h p d:MU}{n me:Nat}{L:LT}(x:Sta CH CS T R H h p d n me L)(s:SameT R H H')(t:LTr R H'):Sta CH CS T R H' h p d n me L:=#[x.ha.kt (KT.tab x.t2 s),x.ch,sk x.t2 x.t1 x.ne s,t,x.ne]
theorem xN{n o:Nat}{C:LT}{w:Wh}(ho:o<n)(n8:n<=8)(hw:eU o (aG (aF n (vals C)) o) w):Fit n (bA n o C w):=by
 have rl:(aG (aF n (vals C)) o).length=n:=by rw[aX (by rw[aL];exact ho),Yx,aL]
 refine#[rl,ho,λz hz=>?_,?_,hw]
 ·have hz:z∈aG (aF n (vals C)) o:=hz;rw[aX (by rw[aL];exact ho)]at hz;rcases List.mem_or_eq_of_mem_set hz with h|h
  ·unfold aF at h;obtain⟨i,_,rfl⟩:=Zm.mp h;exact qt _ _
  ·rw[h,cX ho];have:=qt (vals C) o;omega
 ·show 1<=au (aG (aF n (vals C)) o) o;rw[aX (by rw[aL];exact ho),ik (by rw[aL];exact ho),MO rfl,cX ho];have:=qt (vals C) o;omega
theorem ye{n o:Nat}{C:LT}{w:Wh}(ho:o<n):aI (bA n o C w)=cW (vals C) o+1:=by show au (aG (aF n (vals C)) o) o=_;rw[aX (by rw[aL];exact ho),ik (by rw[aL];exact ho),MO rfl,cX ho]
theorem yd{n o:Nat}{C:LT}{w:Wh}(ho:o<n)(c:Chn n C):∀x∈C,nmK x.2≠nmK (bA n o C w):=λx hx z=>by
 have h1:=(c.own x hx).2;have h2:=ye (C:=C) (w:=w) ho;injection z with k1 k2;injection k1 with k1;injection k2 with k2 _;injection k2 with k2;have e:x.2.h=o:=by have:(x.2.h:Int)=(o:Int):=k1;omega
 have k2':aI x.2=aI (bA n o C w):=k2;rw[e]at h1;omega
theorem Fz{n o:Nat}{C:LT}{w:Wh}{a:MU}(ho:o<n)(c:Chn n C)(f:Fit n (bA n o C w)):Chn n (C++[(a,bA n o C w)]):=.snoc c f (by
 rw[cY];exact oR (d:=bA n o C w) ho)
inductive spHReady(CH CS T R:MU)(vs:Nh)(H:Hp)(Q:VK)(E_:XK):Prop
 |mk (h p d:MU) (n me:Nat) (L:LT) (h0:vs=[.ref h]) (h1:Sta CH CS T R H h p d n me L)
   (q:∀D H',KT H H'->Sta CH CS T R H' h p d n me L->LR H' D L->Q (.ref D) H'):spHReady CH CS T R vs H Q E_
inductive spHClock(CH CS T R:MU)(vs:Nh)(H:Hp)(Q:VK)(E_:XK):Prop
 |mk (h p d:MU) (n me:Nat) (L:LT) (h0:vs=[.ref h]) (h1:Sta CH CS T R H h p d n me L)
   (q:∀c H',KT H H'->Sta CH CS T R H' h p d n me L->H' c=some (.tup ((aF n (vals L)).map V.int))->Q (.ref c) H'):spHClock CH CS T R vs H Q E_
inductive spHHear(CH CS T R:MU)(vs:Nh)(H:Hp)(Q:VK)(E:XK):Prop
 |mk (h p d a:MU) (n me o:Nat) (L:LT) (w:Wh) (h0:vs=[.ref h,.ref a]) (h1:Sta CH CS T R H h p d n me L) (ho:o<n) (hd:DR H a (bA n o L w)) (hw:eU o (aG (aF n (vals L)) o) w) (ll:L.length<63)
   (q:∀H',KD d H H'->Sta CH CS T R H' h p d n me (L++[(a,bA n o L w)])->Q (.bl true) H'):spHHear CH CS T R vs H Q E
inductive spHDo(CH CS T R:MU)(vs:Nh)(H:Hp)(Q:VK)(E:XK):Prop
 |mk (h p d:MU) (n me:Nat) (L:LT) (v:V) (w:Wh) (h0:vs=[.ref h,v]) (h1:Sta CH CS T R H h p d n me L) (hv:WR H v w) (hw:eU me (aG (aF n (vals L)) me) w) (ll:L.length<63)
   (q:∀a H',KD d H H'->Sta CH CS T R H' h p d n me (L++[(a,bA n me L w)])->Q (.ref a) H'):spHDo CH CS T R vs H Q E
abbrev jr:Stmt:=aY (top 84) 0
abbrev wH:List Str:=["self","hands","me"]
theorem vR:FnScope wH ["self","hands","me"] (aj jr):= ~~~0
theorem vx{f CH CS:MU}{fd:M0}(F:Fun K "__init__" "Hand.__init__" jr f fd)(X:TxH K CH)(LG:↑MkFn 1 CS "Store" ["self","hands"] (CJ CS)):↑FnOk CX0 3 f fd ["self","hands","me"] (spHInit CH CS):=by
 exists vR
 obtain⟨h,dx,n,me,rfl,hh,n1,n8,hm,q⟩:=h;exists _,(b_c (mF ↑0 (Cr LG ↑99 (q_a ↑1 ag)))
   (b_1 (mF ↑0 ↑2)))
 refine#[_,rfl,?_];intro x dx' hx hdx ne;have hhx:h≠x:=al hh hx;have hhd:h≠dx':=al hh hdx;have kp0:∀b o,H b=some o->upd (upd H dx' (.own x)) x (.ins CS dx' []) b=some o:=λb o e=>by rw[ah (al e hx),ah (al e hdx)];exact e
 refine#[x,dx',n,rfl,ad,n1,n8,λd H2 fd1 St1 kp1=>#[rfl,?_]];have g2:H2 h=some (.ins CH dx []):=kp1 _ _ (kp0 _ _ hh) hhx;have nd:h≠d:=al (kp0 _ _ hh) fd1;have d0:H d=none:=by
  cases e:H d with
  |none=>rfl
  |some o =>rw[kp0 _ _ e]at fd1;cases fd1
 refine#[_,rfl,h,CH,dx,[],rfl,g2,X.cl,X.nS,(by show 0<1000;decide),?_];refine#[_,rfl,_,rfl,h,CH,dx,_,rfl,ad,X.cl,X.nM,(by show 1<1000;decide),?_];obtain⟨⟨ex,s1⟩,s2,s3,s4,s5,s6,s7⟩:=St1;refine q x d _ d0 #[#[dx,ad],#[#[ex,?_],?_,λy hy=>(nomatch hy),s4,s5,s6,s7],hm] λb o e hb=>?_
 ·rw[ah hhx.symm,ah hhx.symm];exact s1
 ·rw[ah nd.symm,ah nd.symm];exact s2
 ·rw[ah hb,ah hb];exact kp1 _ _ (kp0 _ _ e) (al e hx)
abbrev iH:Stmt:=aY (top 84) 4
abbrev ud:List Str:=["self"]
theorem tD:FnScope ud ["self"] (aj iH):= ~~~0
theorem sU{f CH CS T R:MU}{fd:M0}(F:Fun K "clock" "Hand.clock" iH f fd)(X:TxH K CH)(Ku:↑MFn 7 CS "clock" ["self"] (oy CS T)):↑FnOk CX0 8 f fd ["self"] (spHClock CH CS T R):=by
 exists tD
 obtain⟨h,p,d,n,me,L,rfl,S0,q⟩:=h;obtain⟨⟨dx,h1⟩,S,hm⟩:=id S0.ha;obtain⟨⟨ex,h2⟩,_⟩:=id S;exists _,(b_1 (am (cS Ku ↑99 (bR ↑0))))
 refine#[_,rfl,h,CH,dx,_,_,rfl,h1,X.cl,X.nS,gB _ _,p,ex,_,rfl,h2,vm _ _,p,d,n,L,rfl,S,S0.t1,λc H1 M rd sT tab1 ec=>?_];rw[lK S.un S0.ch rd]at ec;exact q c H1 (KT.tab S0.t1 sT) (S0.sT sT tab1) ec
abbrev iI:Stmt:=aY (top 84) 5
abbrev ue:List Str:=["self"]
theorem tE:FnScope ue ["self"] (aj iI):= ~~~0
theorem sV{f CH CS T R:MU}{fd:M0}(F:Fun K "ready" "Hand.ready" iI f fd)(X:TxH K CH)(Kt:↑MFn 6 CS "ready" ["self"] (oB CS T)):↑FnOk CX0 7 f fd ["self"] (spHReady CH CS T R):=by
 exists tE
 obtain⟨h,p,d,n,me,L,rfl,S0,q⟩:=h;obtain⟨⟨dx,h1⟩,S,hm⟩:=id S0.ha;obtain⟨⟨ex,h2⟩,_⟩:=id S;exists _,(b_1 (am (cS Kt ↑99 (bR ↑0))))
 refine#[_,rfl,h,CH,dx,_,_,rfl,h1,X.cl,X.nS,gB _ _,p,ex,_,rfl,h2,vo _ _,p,d,n,L,rfl,S,S0.t1,λD H1 M rd sT tab1 eD nD=>?_];have e:=lK S.un S0.ch rd;subst e;have kt:=KT.tab S0.t1 sT;exact q D H1 kt (S0.sT sT tab1) #[eD,λx hx=>(S.dr x hx).ts kt.ts]
theorem Sta.put{CH CS T R:MU}{H H':Hp}{h p d a:MU}{n me o:Nat}{L:LT}{w:Wh}(x:Sta CH CS T R H h p d n me L)(ho:o<n)(f:Fit n (bA n o L w))(s:SameT d H H')(S:StoreAt CS H' p d n (L++[(a,bA n o L w)])):Sta CH CS T R H' h p d n me (L++[(a,bA n o L w)]):=by
 obtain⟨⟨dx,h1⟩,S0,hm⟩:=id x.ha;refine#[#[#[dx,s _ _ h1 λz=>?_],S,hm],Fz ho x.ch f,Gy x.t1 s S0.dc,?_,x.ne]
 ·rw[z,S0.dc]at h1;cases h1
 ·exact dE x.t2 s λf hf=>by rw[S0.dc]at hf;cases hf;exact#[λps e=>(by cases e),λc e=>(by cases e)]
abbrev jq:Stmt:=aY (top 84) 2
abbrev wG:List Str:=["self","deed"]
theorem vQ:FnScope wG ["self","deed"] (aj jq):= ~~~0
theorem vw{f CH CS T R:MU}{fd:M0}(F:Fun K "hear" "Hand.hear" jq f fd)(X:TxH K CH)(K0:↑MFn 8 CS "hear" ["self","deed"] (vZ CS)):↑FnOk CX0 9 f fd ["self","deed"] (spHHear CH CS T R):=by
 exists vQ
 obtain⟨h,p,d,a,n,me,o,L,w,rfl,S0,ho,hd,hw,ll,q⟩:=h;obtain⟨⟨dx,h1⟩,S,hm⟩:=id S0.ha;obtain⟨⟨ex,h2⟩,_⟩:=id S;have ft:=xN ho S.n8 hw;exists _,(b_1 (am (bX K0 ↑99 (bR ↑0) (q_a ↑1 ag))))
 exact#[_,rfl,h,CH,dx,_,_,rfl,h1,X.cl,X.nS,gB _ _,p,ex,_,rfl,h2,yb _ _,_,rfl,p,d,a,n,L,_,rfl,S,hd,ft,ll,yd ho S0.ch,λH1 s1 S1=>q H1 (λb o e n m=>s1 b o e m) (S0.put ho ft s1 S1)]
abbrev lO:Stmt:=aY (top 84) 1
abbrev AJ:List Str:=["self","what","deed"]
theorem pI:FnScope AJ ["self","what"] (aj lO):= ~~~0
theorem zL{f CH CS T R:MU}{fd:M0}(F:Fun K "do" "Hand.do" lO f fd)(X:TxH K CH)(Ku:↑MFn 7 CS "clock" ["self"] (oy CS T))(v6:↑Fn 1 "raised" ["clock","hand"] oA)(K0:↑MFn 8 CS "hear" ["self","deed"] (vZ CS)):↑FnOk CX0 9 f fd ["self","what"] (spHDo CH CS T R):=by
 exists pI
 obtain⟨h,p,d,n,me,L,v,wh,rfl,S0,hv,hw,ll,q⟩:=h;obtain⟨⟨dx,h1⟩,S,hm⟩:=id S0.ha;obtain⟨⟨ex,h2⟩,_⟩:=id S;have n8:=S.n8;have ft:=xN hm n8 hw;exists _,(b_c (aC (i:=2) pI.nd (aB (q_a (bR ↑0) (q_a (aw v6 ↑99 (q_a (cS Ku ↑99 (bR ↑0)) (q_a (bR ↑0) ag))) (q_a ↑1 ag)))))
   (b_c (bP (bX K0 ↑99 (bR ↑0) (q_a ↑2 ag)))
   (b_1 (am ↑2))))
 refine#[_,rfl,h,CH,dx,_,_,rfl,h1,X.cl,X.nM,oY _ _,_,rfl,h,CH,dx,_,_,rfl,h1,X.cl,X.nS,gB _ _,p,ex,_,rfl,h2,vm _ _,p,d,n,L,rfl,S,S0.t1,λc H1 M rd sT tab1 ec=>?_];have e:=lK S.un S0.ch rd;subst e;have k1:=KT.tab S0.t1 sT;have A1:=S0.sT sT tab1;obtain⟨⟨dx1,g1⟩,S1,_⟩:=id A1.ha;refine#[_,rfl,h,CH,dx1,_,_,rfl,g1,X.cl,X.nM,oY _ _,c,_,(me:Int),rfl,ec,∅,by rw[aL];omega,by rw[aL];omega,λc2 H2 s2 ec2=>?_];rw[ZJ]at ec2;refine#[_,rfl,sz rfl,λa ga=>?_];have w3:=s2.trans (af ga (.tup [.int (me:Int),.ref c2,v]));have ea:upd H2 a (.tup [.int (me:Int),.ref c2,v]) a=some (.tup [.int (me:Int),.ref c2,v]):=ad;have ec3:=(af ga (.tup [.int (me:Int),.ref c2,v])) _ _ ec2;generalize upd H2 a (.tup [.int (me:Int),.ref c2,v])=H3 at w3 ea ec3 ⊢;have k3:=k1.trans (KT.of w3);have A3:=A1.same w3;obtain⟨⟨dx3,g3⟩,S3,_⟩:=id A3.ha;obtain⟨⟨ex3,g4⟩,_⟩:=id S3;have rl:(aG (aF n (vals M)) me).length=n:=ft.len;have dr:DR H3 a (bA n me M wh):=#[c2,v,ea,ec3,hv.ts k3.ts,by show me<(aG (aF n (vals M)) me).length;omega,by show(aG (aF n (vals M)) me).length<=8;omega]
 refine#[_,rfl,h,CH,dx3,_,_,rfl,g3,X.cl,X.nS,gB _ _,p,ex3,_,rfl,g4,yb _ _,_,rfl,?_];exact#[p,d,a,n,M,_,rfl,S3,dr,ft,ll,yd hm A3.ch,λH4 s4 S4=>#[_,rfl,q a H4 (λb o e n m=>s4 b o (k3 b o e n) m) (A3.put hm ft s4 S4)]]
inductive UndoIs(L:LT)(me:Nat):Option Int->Prop
 |none (h:∀x∈L,x.2.h=me->aQ L x.2=false->di x.2.w=false):UndoIs L me none
 |some (x:MU×Dd) (hx:x∈L) (hm:x.2.h=me) (ho:aQ L x.2=false) (hu:di x.2.w=true) (mx:∀y∈L,y.2.h=me->aQ L y.2=false->di y.2.w=true->aI y.2<=aI x.2):UndoIs L me (some (aI x.2))
inductive RedoIs(L:LT)(me:Nat):Option Int->Prop
 |none (h:∀x∈L,x.2.h=me->aQ L x.2=false):RedoIs L me none
 |some (x y:MU×Dd) (hx:x∈L) (hm:x.2.h=me) (ho:aQ L x.2=true) (hy:ltn L (nmK x.2)=some y) (mx:∀x' y',x'∈L->x'.2.h=me->aQ L x'.2=true->ltn L (nmK x'.2)=some y'->aI y'.2<=aI y.2):RedoIs L me (some (aI x.2))
inductive spHUn(W:LT->Nat->Option Int->Prop)(b:Bool)(CH CS T R:MU)(vs:Nh)(H:Hp)(Q:VK)(E:XK):Prop
 |mk (h p d:MU) (n me:Nat) (L:LT) (h0:vs=[.ref h]) (h1:Sta CH CS T R H h p d n me L) (ll:L.length<63)
   (q0:W L me none->∀H',KT H H'->Sta CH CS T R H' h p d n me L->Q .non H')
   (q1:∀k,W L me (some k)->∀a H',KD d H H'->Sta CH CS T R H' h p d n me (L++[(a,bA n me L (.trn b k))])->Q (.ref a) H'):spHUn W b CH CS T R vs H Q E
theorem CY{n me:Nat}{L:LT}{x:MU×Dd}{b:Bool}(c:Chn n L)(hx:x∈L)(hm:x.2.h=me)(hn:me<n):eU me (aG (aF n (vals L)) me) (.trn b (aI x.2)):=by obtain⟨h1,h2⟩:=c.own x hx;refine#[h1,?_];rw[aX (by rw[aL];exact hn),ik (by rw[aL];exact hn),MO rfl,cX hn];rw[hm]at h2;omega
abbrev ju:Stmt:=aY (top 84) 7
abbrev wJ:List Str:=["self","number"]
theorem mn:FnScope wJ ["self"] (aj ju):= ~~~0
theorem vB{f CH CS T R:MU}{fd:M0}(F:Fun K "undo" "Hand.undo" ju f fd)(X:TxH K CH)(i5:↑MFn 7 CH "ready" ["self"] (spHReady CH CS T R))(t5:↑MFn 9 CH "do" ["self","what"] (spHDo CH CS T R))(K9:↑Fn 3 "counting" ["ready"] pU)(j3:↑Fn 1 "own_deeds" ["deeds","me"] Ay)(Kl:↑Fn 2 "last_undone" ["deeds"] wo):↑FnOk CX0 10 f fd ["self"] (spHUn UndoIs false CH CS T R):=by
 exists mn
 obtain⟨h,p,d,n,me,L,rfl,S0,ll,q0,q1⟩:=h;obtain⟨⟨dx,h1⟩,S,hm⟩:=id S0.ha;exists _,(b_c (aC (i:=1) mn.nd (aw Kl ↑99 (q_a (aw j3 ↑99 (q_a (aw K9 ↑99 (q_a (cS i5 ↑99 ↑0) ag)) (q_a (bR ↑0) ag))) ag)))
   (b_1 (am (lJ (ax pw ↑1 aW) aW (bX t5 ↑99 ↑0 (q_a (aB (q_a ar (q_a ↑1 ag))) ag))))))
 refine#[_,rfl,h,dx,_,rfl,h1,jc _ _,h,p,d,n,me,L,rfl,S0,λD H1 k1 S1 hL=>?_];refine#[D,L,rfl,hL,∅,λD2 H2 s2 hL2=>?_];have S2:=S1.same s2;obtain⟨⟨dx2,g2⟩,_⟩:=id S2.ha;refine#[_,rfl,h,CH,dx2,_,_,rfl,g2,X.cl,X.nM,oY _ _,D2,_,me,rfl,hL2,Zq (Z5 _ _) ∅,λD3 H3 s3 hL3=>?_];have S3:=S2.same s3;have k3:=k1.trans (KT.of (s2.trans s3));refine#[D3,_,rfl,hL3,Zq (Z5 _ _) (Zq (Z5 _ _) ∅),λH4 s4 hn=>?_,λH4 s4 x hx hu mx=>?_]
 ·refine#[_,rfl,rfl,_,rfl,aK (q0 (.none λx hx hm' ho=>hn x (Zx.mpr #[Zx.mpr #[hx,by rw[ho];rfl],decide_eq_true hm'])) H4 (k3.trans (KT.of s4)) (S3.same s4))]
 ·have S4:=S3.same s4;obtain⟨⟨dx4,g4⟩,_⟩:=id S4.ha;obtain⟨hx1,hx2⟩:=Zx.mp hx;obtain⟨hx3,hx4⟩:=Zx.mp hx1;have hm':x.2.h=me:=ZM hx2;have ho:aQ L x.2=false:=by simpa using hx4
  refine#[_,rfl,rfl,_,rfl,aD ?_];refine#[_,rfl,h,dx4,_,rfl,g4,lf _ _,_,rfl,sz rfl,λt gt=>?_];have w5:=af gt (.tup [.str "off",.int (aI x.2)]);have et:upd H4 t (.tup [.str "off",.int (aI x.2)]) t=some (.tup [.str "off",.int (aI x.2)]):=ad;generalize upd H4 t (.tup [.str "off",.int (aI x.2)])=H5 at w5 et ⊢;refine#[h,p,d,n,me,L,.ref t,.trn false (aI x.2),rfl,S4.same w5,#[t,rfl,et],CY S0.ch hx3 hm' hm,ll,λa H6 k6 S6=>q1 _ (.some x hx3 hm' ho hu λy hy hym hyo hyu=>mx y (Zx.mpr #[Zx.mpr #[hy,by rw[hyo];rfl],decide_eq_true hym]) hyu) a H6 ?_ S6];exact(KD.of (k3.trans (KT.of (s4.trans w5)))).trans k6
abbrev jt:Stmt:=aY (top 84) 8
abbrev wI:List Str:=["self","ready","number"]
theorem iV:FnScope wI ["self"] (aj jt):= ~~~0
theorem vA{f CH CS T R:MU}{fd:M0}(F:Fun K "redo" "Hand.redo" jt f fd)(X:TxH K CH)(i5:↑MFn 7 CH "ready" ["self"] (spHReady CH CS T R))(t5:↑MFn 9 CH "do" ["self","what"] (spHDo CH CS T R))(a9:↑Fn 2 "last_turns" ["ready"] mo)(j3:↑Fn 1 "own_deeds" ["deeds","me"] Ay)(Km:↑Fn 5 "last_redone" ["deeds","turns"] (wj R)):↑FnOk CX0 10 f fd ["self"] (spHUn RedoIs true CH CS T R):=by
 exists iV
 obtain⟨h,p,d,n,me,L,rfl,S0,ll,q0,q1⟩:=h;obtain⟨⟨dx,h1⟩,S,hm⟩:=id S0.ha;exists _,(b_c (aC (i:=1) iV.nd (cS i5 ↑99 ↑0))
   (b_c (aC (i:=2) iV.nd (aw Km ↑99 (q_a (aw j3 ↑99 (q_a ↑1 (q_a (bR ↑0) ag))) (q_a (aw a9 ↑99 (q_a ↑1 ag)) ag))))
   (b_1 (am (lJ (ax pw ↑2 aW) aW (bX t5 ↑99 ↑0 (q_a (aB (q_a ar (q_a ↑2 ag))) ag)))))))
 refine#[_,rfl,h,dx,_,rfl,h1,jc _ _,h,p,d,n,me,L,rfl,S0,λD H1 k1 S1 hL=>?_];obtain⟨⟨dx1,g1⟩,_⟩:=id S1.ha;refine#[_,rfl,_,rfl,h,CH,dx1,_,_,rfl,g1,X.cl,X.nM,oY _ _,D,L,me,rfl,hL,∅,λD2 H2 s2 hL2=>?_];have S2:=S1.same s2;refine#[_,rfl,D,L,rfl,hL.same s2,∅,λpt kvs H3 s3 ep hk=>?_];have S3:=S2.same s3;have k3:=k1.trans (KT.of (s2.trans s3));refine#[D2,pt,_,L,me,kvs,rfl,hL2.same s3,Zq (Z5 _ _) ∅,λx hx=>ZM (Zx.mp hx).2,ep,hk,λy hy=>(hL.2 y hy).same (s2.trans s3),S3.t2,λH4 sR tR hn=>?_,λH4 x y sR tR hx ho ey mx=>?_]
 ·refine#[_,rfl,rfl,_,rfl,aK (q0 (.none λx hx hm'=>hn x (Zx.mpr #[hx,decide_eq_true hm'])) H4 (k3.trans (KT.tab S3.t2 sR)) (S3.sR sR tR))]
 ·have S4:=S3.sR sR tR;obtain⟨⟨dx4,g4⟩,_⟩:=id S4.ha;obtain⟨hx3,hx2⟩:=Zx.mp hx;have hm':x.2.h=me:=ZM hx2;refine#[_,rfl,rfl,_,rfl,aD ?_];refine#[_,rfl,h,dx4,_,rfl,g4,lf _ _,_,rfl,sz rfl,λt gt=>?_];have w5:=af gt (.tup [.str "on",.int (aI x.2)]);have et:upd H4 t (.tup [.str "on",.int (aI x.2)]) t=some (.tup [.str "on",.int (aI x.2)]):=ad;generalize upd H4 t (.tup [.str "on",.int (aI x.2)])=H5 at w5 et ⊢;refine#[h,p,d,n,me,L,.ref t,.trn true (aI x.2),rfl,S4.same w5,#[t,rfl,et],CY S0.ch hx3 hm' hm,ll,λa H6 k6 S6=>q1 _ (.some x y hx3 hm' ho ey λx' y' hx' hm2 ho' ey'=>mx x' y' (Zx.mpr #[hx',decide_eq_true hm2]) ho' ey') a H6 ?_ S6];exact(KD.of ((k3.trans (KT.tab S3.t2 sR)).trans (KT.of w5))).trans k6
def ST:List (Str×TV):=[("put",tw ["new","up","place","text"]),("move",tw ["item","up","place"]),("write",tw ["item","text"]),("mark",tw ["item","truth"]),("due",tw ["item","whom"]),("fold",tw ["item","truth"]),("part",tw ["item","at","new","place"]),("join",tw ["item","item"]),("gone",tw ["item"])]
def FC:List (Str×TV):=[("move",.flat (.int 0)),("write",.flat (.int 2)),("mark",.flat (.int 3)),("due",.flat (.int 4)),("fold",.flat (.int 5))]
theorem at2{x y z:V}{r:Nh}:atI (x::y::z::r) 2=some z:=fD (xs:=x::y::z::r) (j:=2) rfl
theorem at3{x y z u:V}{r:Nh}:atI (x::y::z::u::r) 3=some u:=fD (xs:=x::y::z::u::r) (j:=3) rfl
theorem at4{x y z u v:V}{r:Nh}:atI (x::y::z::u::v::r) 4=some v:=fD (xs:=x::y::z::u::v::r) (j:=4) rfl
theorem EM{c A B:Prop}[Decidable c](h:¬c)(hB:B):if decide c=true then A else B:=by rw[decide_eq_false h];exact aD hB
theorem Jg:¬(("held":Str)="away"):=⋯
def pfl(h a:MU):List (Str×V):=cQ "away" (.ref a) (cQ "held" (.ref h) [])
theorem eI(h a:MU):(pfl h a).lookup ("held":Str)=some (.ref h):=by unfold pfl;rw[aT,MN Jg,aT,MO rfl]
theorem HQ(h a:MU){m:Str}(h1:¬m="away")(h2:¬m="held"):(pfl h a).lookup m=none:=by
 unfold pfl;rw[aT,MN h1,aT,MN h2]
 all_goals rfl
structure PlainAt(C:MU)(H:Hp)(p d g:MU)(kvs gvs:Ng):Prop where
 ob:∃dx,H p=some (.ins C dx (pfl d g))
 dc:H d=some (.dT kvs)
 gc:H g=some (.dT gvs)
 ne:d≠g
theorem PlainAt.same{C:MU}{H H':Hp}{p d g:MU}{kvs gvs:Ng}(x:PlainAt C H p d g kvs gvs)(s:Same H H'):PlainAt C H' p d g kvs gvs:=by obtain⟨⟨dx,h1⟩,h2,h3,h4⟩:=x;exact#[#[dx,s _ _ h1],s _ _ h2,s _ _ h3,h4]
theorem PlainAt.put{C:MU}{H:Hp}{p d g:MU}{kvs gvs kvs':Ng}(x:PlainAt C H p d g kvs gvs):PlainAt C (upd H d (.dT kvs')) p d g kvs' gvs:=by obtain⟨⟨dx,h1⟩,h2,h3,h4⟩:=x;exact#[#[dx,by rw[ah (ER h1 h2 nofun)];exact h1],ad,by rw[ah (Z2 h4)];exact h3,h4]
def But(d:MU)(H H':Hp):Prop:=∀b o,H b=some o->b≠d->H' b=some o
def NameIs(H:Hp)(v:V)(k:List Key):Prop:=∃b,v=.ref b/\H b=some (.tup (k.map kV))
theorem NameIs.same{H H':Hp}{v:V}{k:List Key}(x:NameIs H v k)(s:Same H H'):NameIs H' v k:=by obtain⟨b,h1,h2⟩:=x;exact#[b,h1,s _ _ h2]
def wm(K:W.Frag):Sp:=λvs H Q _=>∃(k:Str) (ws:List Str),vs=[.str k]/\PyProof.Rows.KTD.datumAt k ST=some (tw ws)/\∀t,(∀H',SqT K H' t (ws.map V.str))->Q (.ref t) H
def rB(C:MU):Sp:=λvs H Q _=>∃(p dx:MU),vs=[.ref p]/\H p=some (.ins C dx [])/\∀(d g:MU) (H':Hp),H d=none->H g=none->PlainAt C H' p d g [] []->(∀b o,H b=some o->b≠p->H' b=some o)->Q .non H'
def rm(C:MU):Sp:=λvs H Q _=>∃(p d g:MU) (kvs gvs:Ng) (nm up pl tx:V) (k:List Key),vs=[.ref p,nm,up,pl,tx]/\PlainAt C H p d g kvs gvs/\NameIs H nm k/\kvs.length<=500 /\
 ∀(t:MU) (H':Hp),Same H H'->H' t=some (.tup [up,pl,tx,.bl false,.non,.bl false])->Q .non (upd H' d (.dT (bh kvs k (.ref t))))
def ow(C:MU):Sp:=λvs H Q _=>∃(p d g it va:MU) (kvs gvs:Ng) (nm:V) (k:List Key) (i:Nat) (xs ys:Nh),vs=[.ref p,nm,.int (i:Int),.ref va]/\PlainAt C H p d g kvs gvs/\NameIs H nm k/\kvs.length<=500 /\
 aH kvs k=some (.ref it)/\H it=some (.tup xs)/\H va=some (.tup ys)/\i+ys.length<=xs.length/\xs.length<=100 /\
 ∀(t:MU) (H':Hp),Same H H'->H' t=some (.tup (xs.take i++ys++xs.drop (i+ys.length)))->Q .non (upd H' d (.dT (bh kvs k (.ref t))))
structure TxP(K:W.Frag)(C:MU):Prop where
 cl:Cls K C
 nH:NoAttr K C "held"
 nA:NoAttr K C "away"
abbrev iS:Stmt:=top 15
abbrev uo:List Str:=["word"]
theorem tI:FnScope uo ["word"] (aj iS):= ~~~0
theorem tm{f:MU}{fd:M0}(F:Fun K "step_parts" "step_parts" iS f fd){dd:MU}(Kz:mg "STEP_PARTS" = some (.ref dd))(T:Tab K dd ST):↑FnOk CX0 1 f fd ["word"] (wm K):=by
 exists tI
 obtain⟨k,ws,rfl,hk,q⟩:=h;exists _,(b_1 (am (aq AI (Ah Kz) ↑0)))
 exact#[_,rfl,dd,k,ST,tw ws,rfl,rfl,T,hk,q]
abbrev iJ:Stmt:=aY (top 51) 0
abbrev uf:List Str:=["self"]
theorem tF:FnScope uf ["self"] (aj iJ):= ~~~0
theorem sW{f C:MU}{fd:M0}(F:Fun K "__init__" "Plain.__init__" iJ f fd)(T:TxP K C):↑FnOk CX0 1 f fd ["self"] (rB C):=by
 exists tF
 obtain⟨p,dx,rfl,hp,k⟩:=h;exists _,(b_c (mF ↑0 kz)
   (b_1 (mF ↑0 kz)))
 intro d hd;have npd:p≠d:=al hp hd;refine#[_,rfl,p,C,dx,[],rfl,(by rw[ah npd];exact hp),T.cl,T.nH,(by show 0<1000;decide),?_];intro g hg;have hg0:H g=none:=by
  cases e:H g with
  |none=>rfl
  |some o =>
   have:g≠d:=al e hd;by_cases c:g=p
   ·subst c;rw[ad]at hg;cases hg
   ·rw[ah c,ah this,e]at hg;cases hg
 have ngp:g≠p:=λz=>by rw[z,hp]at hg0;cases hg0
 have ngd:g≠d:=λz=>by rw[z,ah npd.symm,ad]at hg;cases hg
 refine#[_,rfl,p,C,dx,_,rfl,(by rw[ah ngp.symm,ad]),T.cl,T.nA,(by show 1<1000;decide),?_];refine k d g _ hd hg0 #[#[dx,ad],by rw[ah npd.symm,ah ngd.symm,ah npd.symm,ad],by rw[ah ngp,ad],ngd.symm] λb o e hb=>?_;rw[ah hb,ah (al e hg0),ah hb,ah (al e hd)];exact e
abbrev fw:Stmt:=aY (top 51) 4
abbrev nj:List Str:=["self","name","up","place","text"]
theorem mS:FnScope nj ["self","name","up","place","text"] (aj fw):= ~~~0
theorem mR{f C:MU}{fd:M0}(F:Fun K "bring_in" "Plain.bring_in" fw f fd)(T:TxP K C):↑FnOk CX0 1 f fd ["self","name","up","place","text"] (rm C):=by
 exists mS
 obtain⟨p,d,g,kvs,gvs,nm,up,pl,tx,k,rfl,S,hn,hl,q⟩:=h;obtain⟨⟨dx,h1⟩,h2,h3,h4⟩:=id S;exists _,(b_1 (fK hr.units (bR ↑0) ↑1 (aB (q_a ↑2 (q_a ↑3 (q_a ↑4 (q_a eJ (q_a aW (q_a eJ ag)))))))))
 refine#[_,rfl,_,rfl,_,rfl,sz rfl,λt ht=>?_];have sm:=af ht (.tup [up,pl,tx,.bl false,.non,.bl false]);obtain⟨b,rfl,hb⟩:=hn;exact#[_,rfl,p,C,dx,_,_,rfl,sm _ _ h1,T.cl,T.nH,eI _ _,_,rfl,d,_,rfl,DPut.t (sm _ _ h2) (sm _ _ hb) (be ∅),q t _ sm ad]
abbrev fW:Stmt:=aY (top 51) 5
abbrev qh:List Str:=["self","name","first","values","item"]
theorem jh:FnScope qh ["self","name","first","values"] (aj fW):= ~~~0
theorem pC{f C:MU}{fd:M0}(F:Fun K "change" "Plain.change" fW f fd)(T:TxP K C)(a8:mg "len" = none):↑FnOk CX0 1 f fd ["self","name","first","values"] (ow C):=by
 exists jh
 obtain⟨p,d,g,it,va,kvs,gvs,nm,k,i,xs,ys,rfl,S,hn,hl,hv,hit,hva,hi,hx,q⟩:=h;obtain⟨⟨dx,h1⟩,h2,h3,h4⟩:=id S;obtain⟨b,rfl,hb⟩:=hn;exists _,(b_c (aC (i:=4) jh.nd (cu hr.units (bR ↑0) ↑1))
   (b_1 (fK hr.units (bR ↑0) ↑1 (bg gC (bg gC (eL de ↑4 eW (dP ↑2)) ↑3) (eL de ↑4 (dP (bg dU ↑2 (q_B dR a8 Z0 (q_a ↑3 ag)))) eW)))))
 refine#[_,rfl,p,C,dx,_,_,rfl,h1,T.cl,T.nH,eI _ _,_,rfl,d,_,rfl,hv▸DGet.t h2 hb,?_];refine#[_,rfl,_,rfl,_,rfl,it,xs,rfl,hit,λt1 H1 s1 e1=>?_];have c1:bM xs none (some (i:Int))=xs.take i:=by unfold bM;rw[HT.sIx_none,HT.sIx_nat,List.drop_zero,Nat.sub_zero,YV ∅]
 rw[c1]at e1;refine#[_,rfl,t1,va,_,_,rfl,rfl,e1,s1 _ _ hva,fP (by rw[ZP];omega),λt2 H2 s2 e2=>?_];refine#[_,rfl,_,rfl,_,rfl,va,ys,rfl,.inr (Nb (s2 _ _ (s1 _ _ hva))),_,_,rfl,rfl,_,rfl,it,xs,rfl,s2 _ _ (s1 _ _ hit),λt3 H3 s3 e3=>?_];have c2:bM xs (some ((i:Int)+(ys.length:Int))) none=xs.drop (i+ys.length):=by unfold bM;rw[HT.sIx_none,show(i:Int)+(ys.length:Int)=((i+ys.length:Nat):Int) by omega,HT.sIx_nat,YV hi,Yd (by rw[YC];omega)]
 rw[c2]at e3;refine#[t2,t3,_,_,rfl,rfl,s3 _ _ e2,e3,fP (by rw[Zk,ZP,YC];omega),λt4 H4 s4 e4=>?_];have sm:Same H H4:=s1.trans (s2.trans (s3.trans s4));exact#[_,rfl,p,C,dx,_,_,rfl,sm _ _ h1,T.cl,T.nH,eI _ _,_,rfl,d,_,rfl,DPut.t (sm _ _ h2) (sm _ _ hb) (be ∅),q t4 _ sm e4]
theorem Jj(w:Str):inV (.str w) [.str "item",.str "up"]=decide (w="item"\/w="up"):=by
 unfold inV eqV;by_cases h1:w="item"
 ·subst h1;simp
 ·by_cases h2:w="up"
  ·subst h2;simp
  ·simp[h1,h2,Z2 h1,Z2 h2]
abbrev dQ:Stmt:=aY (top 51) 2
abbrev kW:List Str:=["self","step","kinds","kind","name"]
theorem bE:FnScope kW ["self","step"] (aj dQ):= ~~~0
def Iz(cN:MU):Sp:=λvs H Q _=>∃(e t:MU) (v:V),vs=[.ref e,v]/\H e=some (exN e cN t none)/\∀d,H d=none->Q .non (upd (upd H d (.xd [("name",v)])) e (exN e cN t (some d)))
abbrev gL:Stmt:=aY (top 22) 0
abbrev sC:List Str:=["self","name"]
theorem re:FnScope sC ["self","name"] (aj gL):= ~~~0
theorem qK{f cN:MU}{fd:M0}(F:Fun K "__init__" "NoItem.__init__" gL f fd)(S:ExS K cN)(n:NoAttr K cN "name"):↑FnOk CX0 1 f fd ["self","name"] (Iz cN):=by
 exists re
 obtain⟨e,t,v,rfl,he,q⟩:=h;exists _,(b_1 (Iu ↑0 ↑1))
 exact#[_,rfl,_,rfl,e,cN,t,rfl,he,S,n,q]
theorem Dg{H1:Hp}{ea t d cN:MU}{v:V}(h1:H1 ea=none)(hd:upd H1 ea (exN ea cN t none) d=none) :
  Same H1 (del (upd (upd (upd H1 ea (exN ea cN t none)) d (.xd [("name",v)])) ea (exN ea cN t (some d))) ea)/\del (upd (upd (upd H1 ea (exN ea cN t none)) d (.xd [("name",v)])) ea (exN ea cN t (some d))) ea d=some (.xd [("name",v)]):=by
 have nde:d≠ea:=λz=>by rw[z,ad]at hd;cases hd
 refine#[λb o e=>?_,?_]
 ·have hb:b≠ea:=al e h1;have hbd:b≠d:=λz=>by rw[<-z,ah hb,e]at hd;cases hd
  rw[fF hb,ah hb,ah hbd,ah hb];exact e
 ·rw[fF nde,ah nde,ad]
def PartB(H:Hp)(kvs:Ng)(w:Str)(v:V)(b:Bool):Prop :=
 (w="new"->∃k,NameIs H v k/\b=!(aH kvs k).isSome)/\((w="item"\/w="up")->(v=.non/\b=true)\/∃k,NameIs H v k/\b=(aH kvs k).isSome)
theorem PartB.same{H H':Hp}{kvs:Ng}{w:Str}{v:V}{b:Bool}(x:PartB H kvs w v b)(s:Same H H'):PartB H' kvs w v b :=
 #[λe=>let⟨k,a,c⟩:=x.1 e;#[k,a.same s,c],λe=>(x.2 e).imp id fun⟨k,a,c⟩=>#[k,a.same s,c]]
def isI(w:Str):Prop:=w="item"\/w="up"
def vX(C cT cN:MU):Sp:=λvs H Q E=>∃(p d g st:MU) (kvs gvs:Ng) (w:Str) (ws:List Str) (ps:Nh) (bs:List Bool),vs=[.ref p,.ref st]/\PlainAt C H p d g kvs gvs/\H st=some (.tup (.str w::ps)) /\
 PyProof.Rows.KTD.datumAt w ST=some (tw ws)/\ws.length=ps.length/\bs.length=ps.length/\(∀(i:Nat) (w:Str) (v:V) (b:Bool),ws[i]?=some w->ps[i]?=some v->bs[i]?=some b->PartB H kvs w v b) /\
 ((∃i:Nat,ws[i]?=some "new"/\bs[i]?=some false)->∀H',Same H H'->E (.ref cT) none H') /\
 ((∀ i:Nat,ws[i]? = some "new"->bs[i]? = some true)->((∀ (i:Nat) (w:Str),ws[i]? = some w->isI w->bs[i]? = some true)->∀ H',Same H H'->Q .non H') /\
  ∀ (i:Nat) (w:Str) (v:V),ws[i]? = some w->ps[i]? = some v->isI w->bs[i]? = some false->(∀ (j:Nat) (w':Str),j<i->ws[j]? = some w'->isI w'->bs[j]? = some true)->∀ H' dd,Same H H'->H' dd=some (.xd [("name",v)])->E (.ref cN) (some dd) H')
theorem jI{f C cT cN:MU}{fd:M0}{bm:MT}(F:Fun K "check_names" "Plain.check_names" dQ f fd)(T:TxP K C)(KA:↑Fn 1 "step_parts" ["word"] (wm K))(j6:mg "zip" = none)(x_Taken:ExCls K cT)(L6:mg "Taken" = some (.ref cT))(Lm:↑ExI 1 cN bm ["self","name"] (Iz cN))(v7:mg "NoItem" = some (.ref cN)):↑FnOk (CXr P w) 3 f fd ["self","step"] (vX C cT cN):=by
 refine F.okX bE (λvs H Q E h=>?_) (λcdv A outer s H vs Q E hr h=>?_)
 ·obtain⟨p,d,g,st,kvs,gvs,wd,ws,ps,bs,rfl,_⟩:=h;rfl
 obtain⟨p,d,g,st,kvs,gvs,wd,ws,ps,bs,rfl,S,hst,hk,l1,l2,ok,qT,qN⟩:=h;obtain⟨⟨dx,h1⟩,h2,h3,h4⟩:=id S;exists _,(b_c (aC (i:=2) bE.nd (aw KA ↑99 (q_a (aq ao ↑1 ai) ag)))
   (b_c (E3 dF (cH (pG rfl rfl) rfl (tN j6 (q_a ↑2 (q_a (eL de ↑1 (dP ai) eW) ag))) (gj rfl (bq (aA (i:=3) bE.nd) (bq (aA (i:=4) bE.nd) eV))) (b_1 (aJ (t_w (dY (ax br ↑3 ar) (dN (AC hr.units ↑4 (bR ↑0))))) (b_1 (mH (fJ mX) rfl x_Taken L6 (q_a ar ag))) b_0))))
   (b_1 (E3 dF (cH (pG rfl rfl) rfl (tN j6 (q_a ↑2 (q_a (eL de ↑1 (dP ai) eW) ag))) (gj rfl (bq (aA (i:=3) bE.nd) (bq (aA (i:=4) bE.nd) eV))) (b_1 (aJ (t_w (dY (ax (km (K:=K) rfl) ↑3 (aB (q_a ar (q_a ar ag)))) (dY (ax iB ↑4 aW) (dN (oH hr.units ↑4 (bR ↑0)))))) (b_1 (Ek mX rfl Lm ↑99 v7 (q_a ↑4 ag))) b_0)))))))
 refine(vix rfl (Nb hst) at0 #[wd,ws,rfl,hk,λt ht=>?_]);have c1:bM (V.str wd::ps) (some 1) none=ps:=by unfold bM;rw[HT.sIx_none,show(1:Int)=((1:Nat):Int)from rfl,HT.sIx_nat];simp
 have lw:(ws.map V.str).length=ps.length:=by rw[Zb];exact l1
 have item:∀{i:Nat} {x:V},(ws.map V.str)[i]?=some x->∃w',ws[i]?=some w'/\x=.str w':=fun{i x} hx=>by rw[ZE]at hx;obtain⟨w',e1,e2⟩:=YJ.mp hx;exact#[w',e1,e2.symm]
 have bat:∀{i:Nat} {v:V},ps[i]?=some v->∃b,bs[i]?=some b:=fun{i v} hv=>by
  have hi:i<bs.length:=by rw[l2];exact(Zi.mp hv).1
  exact#[_,Zj hi]
 refine#[_,rfl,_,rfl,_,rfl,st,_,rfl,hst,λz H1 s1 e1=>?_];rw[c1]at e1;refine#[t,z,_,_,rfl,ht _,Nb e1,lw,?_];refine xO (i:=3) (j:=4) (λi σ H'=>Same H H'/\H' z=some (.tup ps)/\(∀j:Nat,j<i->ws[j]?=some "new"->bs[j]?=some true)/\∃o3 o4,σ=[some (.ref p),some (.ref st),some (.ref t),o3,o4]) #[s1,e1,(λj hj=>∅),none,none,rfl] (λ_ _ _ _ _=>ht _) (λ_ _ _ _ v=>Nb v.2.1) lw ?_ ?_
 ·rintro i x v σ H' hx hv ⟨sm,ez,pre,o3,o4,rfl⟩ T' gT;have wT:=af gT (.tup [x,v]);obtain⟨w',hw,rfl⟩:=item hx;obtain⟨b,hb⟩:=bat hv;have sm':=sm.trans wT;have pb:=(ok i w' v b hw hv hb).same sm';refine#[_,rfl,rfl,_,rfl,lg (λc=>?_) (λc=>?_)]
  ·injection c with c;subst c;obtain⟨k,⟨nb,rfl,hnb⟩,hbv⟩:=pb.1 rfl;refine#[_,rfl,_,rfl,p,C,dx,_,_,rfl,sm' _ _ h1,T.cl,T.nH,eI _ _,d,_,rfl,DGet.t (sm' _ _ h2) hnb,_,rfl,?_];cases hs:(aH kvs k).isSome with
   |true =>rw[hs]at hbv;subst hbv;refine aK ?_;exact#[sz rfl,qT #[i,hw,hb] _ sm']
   |false =>
    rw[hs]at hbv;subst hbv;refine aD #[sm',wT _ _ ez,λj hj hw'=>?_,_,_,rfl];by_cases c2:j=i
    ·rw[c2];exact hb
    ·exact pre j ∅ hw'
  ·refine aD #[sm',wT _ _ ez,λj hj hw'=>?_,_,_,rfl];by_cases c2:j=i
   ·rw[c2,hw]at hw';exact absurd (Yw V.str (Zn hw')) c
   ·exact pre j ∅ hw'
 ·rintro σ H' ⟨sm,ez,pre,o3,o4,rfl⟩;have all:∀i:Nat,ws[i]?=some "new"->bs[i]?=some true:=λi hi=>pre i (by rw[Zb];exact(Zi.mp hi).1) hi;obtain⟨qok,qni⟩:=qN all;refine#[_,rfl,_,rfl,_,rfl,st,_,rfl,sm _ _ hst,λz' H2 s2 e2=>?_];rw[c1]at e2;refine#[t,z',_,_,rfl,ht _,Nb e2,lw,?_];refine xO (i:=3) (j:=4) (λi σ H'=>Same H H'/\H' z'=some (.tup ps)/\(∀(j:Nat) (w':Str),j<i->ws[j]?=some w'->isI w'->bs[j]?=some true)/\∃o3 o4,σ=[some (.ref p),some (.ref st),some (.ref t),o3,o4]) #[sm.trans s2,e2,(λj _ hj=>∅),o3,o4,rfl] (λ_ _ _ _ _=>ht _) (λ_ _ _ _ v=>Nb v.2.1) lw ?_ ?_
  ·rintro i x v σ H' hx hv ⟨sm,ez,pre2,o3,o4,rfl⟩ T' gT;have wT:=af gT (.tup [x,v]);obtain⟨w',hw,rfl⟩:=item hx;obtain⟨b,hb⟩:=bat hv;have sm':=sm.trans wT;refine#[_,rfl,sz rfl,λu gu=>?_];have wu:=af gu (.tup [.str "item",.str "up"]);have sm2:=sm'.trans wu;have pb:=(ok i w' v b hw hv hb).same sm2;refine#[u,_,rfl,.inr (Nb ad),rfl,rfl,_,rfl,?_];have ei:(if false=true then !inV (V.str w') [.str "item",.str "up"]else inV (V.str w') [.str "item",.str "up"])=decide (w'="item"\/w'="up"):=Jj w';have step:bs[i]?=some true->∀(j:Nat) (w'':Str),j<i+1->ws[j]?=some w''->isI w''->bs[j]?=some true:=λhbt j w'' hj hw'' hi=>by
    by_cases c2:j=i
    ·rw[c2];exact hbt
    ·exact pre2 j w'' ∅ hw'' hi
   rw[ei];refine lg (λc=>?_) (λc=>?_)
   ·rcases pb.2 c with⟨rfl,rfl⟩|⟨k,⟨nb,rfl,hnb⟩,hbv⟩
    ·refine#[_,rfl,rfl,_,rfl,jd rfl ?_];exact aD #[sm2,wu _ _ (wT _ _ ez),step hb,_,_,rfl]
    ·refine#[_,rfl,rfl,_,rfl,tO nofun ?_];refine#[_,rfl,_,rfl,p,C,dx,_,_,rfl,sm2 _ _ h1,T.cl,T.nH,eI _ _,d,_,rfl,DGet.t (sm2 _ _ h2) hnb,_,rfl,?_];cases hs:(aH kvs k).isSome with
     |true =>rw[hs]at hbv;subst hbv;exact aD #[sm2,wu _ _ (wT _ _ ez),step hb,_,_,rfl]
     |false =>rw[hs]at hbv;subst hbv;refine aK ?_;refine#[_,rfl,sz rfl,λea tt' e1 e2 nt=>#[ea,tt',_,rfl,ad,λdd hdd=>#[rfl,some dd,ad,?_]]];obtain⟨a1,a2⟩:=Dg (v:=V.ref nb) e1 hdd;exact qni i w' _ hw hv c hb pre2 _ dd (sm2.trans a1) a2
   ·refine aD #[sm2,wu _ _ (wT _ _ ez),λj w'' hj hw'' hi=>?_,_,_,rfl];by_cases c2:j=i
    ·rw[c2,hw]at hw'';cases hw'';exact absurd hi c
    ·exact pre2 j w'' ∅ hw'' hi
  ·rintro σ H' ⟨sm,ez,pre2,o3,o4,rfl⟩;exact qok (λi w' hw hi=>pre2 i w' (by rw[Zb];exact(Zi.mp hw).1) hw hi) H' sm
def nk2(h k:Int):List Key:=[.inl h,.inl k]
def inN(N:List (List Key))(k:List Key):Bool:=N.any λj=>decide (k=j)
inductive ItR(H:Hp):V->Prop
 |mk (q:MU) (v1:V) (s:Str) (v3 v4 v5:V) (e:H q=some (.tup [.non,v1,.str s,v3,v4,v5])) (l:s.length<=1):ItR H (.ref q)
theorem ItR.ts{H H':Hp}{v:V}(x:ItR H v)(s:TS H H'):ItR H' v:=by
 cases x with
 |mk q v1 t v3 v4 v5 e l=>exact .mk q v1 t v3 v4 v5 (s _ _ e) l
inductive PN(C:MU)(H:Hp)(p d g:MU)(N:List (List Key))(B:Nat):Prop
 |mk (kvs gvs:Ng) (S:PlainAt C H p d g kvs gvs) (hN:∀k,(aH kvs k).isSome=inN N k) (hI:∀k v,aH kvs k=some v->ItR H v) (hB:kvs.length<=B):PN C H p d g N B
theorem PN.same{C:MU}{H H':Hp}{p d g:MU}{N:List (List Key)}{B:Nat}(x:PN C H p d g N B)(s:Same H H'):PN C H' p d g N B:=by obtain⟨kvs,gvs,S,hN,hI,hB⟩:=x;exact#[kvs,gvs,S.same s,hN,λk v h=>(hI k v h).ts (Na s),hB]
theorem But.put{d:MU}{H H1:Hp}{o:HO}(s:Same H H1):But d H (upd H1 d o):=λb o e n=>by rw[ah n];exact s _ _ e
theorem But.trans{d:MU}{H H1 H2:Hp}(s:But d H H1)(t:But d H1 H2):But d H H2:=λb o e n=>t b o (s b o e n) n
theorem But.ts{d:MU}{H H':Hp}{kvs:Ng}(b:But d H H')(h:H d=some (.dT kvs)):TS H H':=λa zs e=>b _ _ e λz=>by rw[z,h]at e;cases e
theorem pH{C:MU}{H H1:Hp}{p d g t:MU}{N N':List (List Key)}{B:Nat}{kvs gvs:Ng}{k:List Key}(S:PlainAt C H p d g kvs gvs)(hN:∀k,(aH kvs k).isSome=inN N k)(hI:∀k v,aH kvs k=some v->ItR H v)(hB:kvs.length<=B)(s:Same H H1)(it:ItR H1 (.ref t))(hk:∀k',inN N' k'=(decide (k'=k) ||inN N k')):PN C (upd H1 d (.dT (bh kvs k (.ref t)))) p d g N' (B+1):=by
 have tA:TS H1 (upd H1 d (.dT (bh kvs k (.ref t)))):=dh λzs z=>by rw[s _ _ S.dc]at z;cases z
 refine#[_,gvs,(S.same s).put,λk'=>?_,λk' v h=>?_,by have:=cJ kvs k (.ref t);omega]
 ·rw[dI,hk k'];by_cases c:k'=k
  ·rw[MO c,decide_eq_true c];rfl
  ·rw[MN c,hN k',decide_eq_false c];rfl
 ·rw[dI]at h;by_cases c:k'=k
  ·rw[MO c]at h;cases h;exact it.ts tA
  ·rw[MN c]at h;exact((hI k' v h).ts (Na s)).ts tA
theorem qF{N:List (List Key)}{k:List Key}:∀k',inN (N++[k]) k'=(decide (k'=k) ||inN N k'):=λk'=>by unfold inN;rw[List.any_append,Bool.or_comm];simp
theorem xZ{N:List (List Key)}{k:List Key}(h:inN N k=true):∀k',inN N k'=(decide (k'=k) ||inN N k'):=λk'=>by
 by_cases c:k'=k
 ·rw[decide_eq_true c,c,h];rfl
 ·rw[decide_eq_false c];rfl
inductive Stp
 |put (k:List Key)
 |part (h k:Int)(n:List Key)
 |itm (c:Ik)(h k:Int)
def okC:Ik->Bool
 |.take=>false|.back=>false|.part=>false|_=>true
inductive SR(H:Hp):V->Stp->Prop
 |put (p nb:MU) (k:List Key) (pl:V) (e:H p=some (.tup [.str "put",.ref nb,.non,pl,.str ""])) (en:H nb=some (.tup (k.map kV))):SR H (.ref p) (.put k)
 |part (p q nb:MU) (h i:Int) (k:List Key) (pl:V) (e:H p=some (.tup [.str "part",.ref q,.int 0,.ref nb,pl])) (eq:H q=some (.tup ([h,i].map V.int))) (en:H nb=some (.tup (k.map kV))):SR H (.ref p) (.part h i k)
 |itm (p q r:MU) (c:Ik) (h i:Int) (hc:okC c=true) (e:H p=some (.tup (.str (iW c)::.ref q::iR q r c))) (eq:H q=some (.tup ([h,i].map V.int))):SR H (.ref p) (.itm c h i)
theorem SR.ts{H H':Hp}{v:V}{s:Stp}(x:SR H v s)(t:TS H H'):SR H' v s:=by
 cases x with
 |put p nb k pl e en=>exact .put p nb k pl (t _ _ e) (t _ _ en)
 |part p q nb h i k pl e eq en=>exact .part p q nb h i k pl (t _ _ e) (t _ _ eq) (t _ _ en)
 |itm p q r c h i hc e eq=>exact .itm p q r c h i hc (t _ _ e) (t _ _ eq)
def fu:Ik->Bool
 |.join=>true
 |_=>false
def stB(N:List (List Key)):Stp->Option (List (List Key))
 |.put k=>some (N++[k])
 |.part h i k=>bif inN N (nk2 h i)then some (N++[k])else none
 |.itm c h i=>bif (inN N (nk2 h i)&&!fu c)then some N else none
def fresh(N:List (List Key)):Stp->Prop
 |.put k=>inN N k=false
 |.part _ _ k=>inN N k=false
 |.itm _ _ _=>True
inductive spHolds(C:MU)(vs:Nh)(H:Hp)(Q:VK)(E:XK):Prop
 |mk (p d g:MU) (N:List (List Key)) (B:Nat) (nv:V) (k:List Key) (h0:vs=[.ref p,nv]) (h1:PN C H p d g N B) (h2:NameIs H nv k) (q:Q (.bl (inN N k)) H):spHolds C vs H Q E
abbrev gN:Stmt:=aY (top 51) 9
abbrev sD:List Str:=["self","name"]
theorem rf:FnScope sD ["self","name"] (aj gN):= ~~~0
theorem qL{f C:MU}{fd:M0}(F:Fun K "holds" "Plain.holds" gN f fd)(T:TxP K C):↑FnOk CX0 1 f fd ["self","name"] (spHolds C):=by
 exists rf
 obtain⟨p,d,g,N,B,nv,k,rfl,⟨kvs,gvs,S,hN,hI,hB⟩,⟨b,rfl,hb⟩,q⟩:=h;obtain⟨⟨dx,h1⟩,h2,h3,h4⟩:=id S;exists _,(b_1 (am (Ag hr.units ↑1 (bR ↑0))))
 refine#[_,rfl,_,rfl,p,C,dx,_,_,rfl,h1,T.cl,T.nH,eI _ _,d,_,rfl,DGet.t (k:=k) h2 hb,?_];rw[hN k];exact q
inductive spAob(vs:Nh)(H:Hp)(Q:VK)(E:XK):Prop
 |no (p v:V) (h0:vs=[p,.non,v]) (q:Q (.bl false) H):spAob vs H Q E
 |self (p:V) (a b:MU) (ns:M5) (h0:vs=[p,.ref a,.ref b]) (h1:H a=some (.tup (ns.map V.int))) (h2:H b=some (.tup (ns.map V.int))) (q:Q (.bl true) H):spAob vs H Q E
abbrev df:Stmt:=aY (top 51) 12
abbrev jA:List Str:=["self","one","other"]
theorem eZ:FnScope jA ["self","one","other"] (aj df):= ~~~0
theorem jn{f:MU}{fd:M0}(F:Fun K "at_or_beneath" "Plain.at_or_beneath" df f fd){tk:Tok}(L7:mg "UP" = some (.int 0 tk)):↑FnOk CX0 1 f fd ["self","one","other"] spAob:=by
 exists 0,eZ
 ·cases h with
  |no p v h0 q=>rw[h0];rfl
  |self p a b ns h0 h1 h2 q=>rw[h0];rfl
 exists _,(b_c (Gn ZS (t_w (dY (ax iB ↑1 aW) (dN (ax (pA hr.units) ↑1 ↑2)))) (b_1 (aC (i:=1) eZ.nd (aq ao (cu hr.units (bR ↑0) ↑1) (iE L7)))))
   (b_1 (am (cA iB ↑1 aW))))
 cases h with
 |no p v h0 q =>subst h0;refine#[λm σ H'=>H'=H/\σ=[some p,some .non,some v],#[0,rfl,rfl],?_];rintro m σ H' ⟨rfl,rfl⟩;refine#[_,rfl,rfl,_,rfl,jd rfl (aD ?_)];exact#[_,rfl,rfl,q]
 |self p a b ns h0 h1 h2 q =>subst h0;refine#[λm σ H'=>H'=H/\σ=[some p,some (.ref a),some (.ref b)],#[0,rfl,rfl],?_];rintro m σ H' ⟨rfl,rfl⟩;refine#[_,rfl,rfl,_,rfl,tO nofun ?_];refine#[_,rfl,_,rfl,a,b,ns,ns,rfl,rfl,h1,h2,_,rfl,?_];rw[decide_eq_true rfl];refine aD ?_;exact#[_,rfl,rfl,q]
theorem gJ(h a:MU){m:Str}(h1:¬m="away":=by decide)(h2:¬m="held":=by decide):(pfl h a).lookup m=none:=HQ h a h1 h2
theorem Fm{c:Ik}(h:okC c=true):c=.join\/c=.move\/(V.str (iW c)≠V.str "move"/\V.str (iW c)≠V.str "join"/\V.str (iW c)≠V.str "part"):=by
 cases c with
 |join=>exact .inl rfl
 |move=>exact .inr (.inl rfl)
 |take=>cases h
 |back=>cases h
 |part=>cases h
 |mark=>exact .inr (.inr ⋯)
 |write=>exact .inr (.inr ⋯)
 |due=>exact .inr (.inr ⋯)
 |fold=>exact .inr (.inr ⋯)
def isJ:Stp->Bool
 |.itm c _ _=>fu c
 |_=>false
def G6(N:List (List Key)):Stp->Prop
 |.part h i _=>inN N (nk2 h i)=true
 |_=>True
inductive spBndX(C cB:MU)(vs:Nh)(H:Hp)(Q:VK)(E:XK):Prop
 |mk (p d g:MU) (N:List (List Key)) (B:Nat) (v:V) (s:Stp) (h0:vs=[.ref p,v]) (h1:PN C H p d g N B) (h2:SR H v s) (hi:G6 N s) (q:isJ s=false->Q .non H) (e:isJ s=true->E (.ref cB) none H):spBndX C cB vs H Q E
abbrev dG:Stmt:=aY (top 51) 3
abbrev jR:List Str:=["self","step"]
theorem jL:FnScope jR ["self","step"] (aj dG):= ~~~0
theorem jo{f C cB cF:MU}{fd:M0}(F:Fun K "check_bounds" "Plain.check_bounds" dG f fd)(T:TxP K C)(g0:↑MFn 1 C "at_or_beneath" ["self","one","other"] spAob){tk:Tok}(Kh:mg "TEXT" = some (.int 2 tk))(a8:mg "len" = none)(x_Beneath:ExCls K cB)(j5:mg "Beneath" = some (.ref cB))(x_Far:ExCls K cF)(LA:mg "Far" = some (.ref cF)):↑FnOk (CXr P w) 2 f fd ["self","step"] (spBndX C cB):=by
 refine F.okX jL (λvs H Q E h=>?_) (λcdv A outer s H vs Q E hr h=>?_)
 ·obtain⟨p,d,g,N,B,v,st,rfl,_⟩:=h;rfl
 obtain⟨p,d,g,N,B,v,sd,rfl,⟨kvs,gvs,S,hN,hI,hB⟩,hs,hi,q,e⟩:=h;obtain⟨⟨dx,h1⟩,h2,h3,h4⟩:=id S;exists _,(b_c (aJ (t_w (dY (ax br (aq ao ↑1 ai) ar) (dN (bY (bX g0 ↑99 ↑0 (q_a (aq ao ↑1 ai) (q_a (aq ao ↑1 ai) ag))))))) (b_1 (mH (fJ dF) rfl x_Beneath j5 (q_a ar ag))) b_0)
   (b_c (aJ (t_w (dY (ax br (aq ao ↑1 ai) ar) (dN (bY (bX g0 ↑99 ↑0 (q_a (aq ao ↑1 ai) (q_a (aq ao ↑1 ai) ag))))))) (b_1 (mH (fJ dF) rfl x_Beneath j5 (q_a ar ag))) b_0)
   (b_1 (aJ (t_w (dY (ax br (aq ao ↑1 ai) ar) (dN (ax zH (aq ao ↑1 ai) (q_B Ba a8 Z0 (q_a (aq ao (cu hr.units (bR ↑0) (aq ao ↑1 ai)) (iE Kh)) ag)))))) (b_1 (mH (fJ dF) rfl x_Far LA (q_a ar ag))) b_0))))
 cases hs with
 |put st nb k pl hst en =>refine#[_,rfl,st,_,_,_,rfl,rfl,Nb hst,at0,rfl,_,rfl,cj ⋯ (aD ?_)];refine#[_,rfl,st,_,_,_,rfl,rfl,Nb hst,at0,rfl,_,rfl,cj ⋯ (aD ?_)];exact#[_,rfl,st,_,_,_,rfl,rfl,Nb hst,at0,rfl,_,rfl,cj ⋯ (aD (q rfl))]
 |part st nb nb2 h i k pl hst eq en =>
  refine#[_,rfl,st,_,_,_,rfl,rfl,Nb hst,at0,rfl,_,rfl,cj ⋯ (aD ?_)];refine#[_,rfl,st,_,_,_,rfl,rfl,Nb hst,at0,rfl,_,rfl,cj ⋯ (aD ?_)];refine#[_,rfl,st,_,_,_,rfl,rfl,Nb hst,at0,rfl,_,rfl,cZ ?_];have hs:=hN (nk2 h i);rw[show inN N (nk2 h i)=true from hi]at hs;obtain⟨iv,e1⟩:=YB.mp hs;cases hI _ _ e1 with
  |mk ia v1 tx v3 v4 v5 e2 l2 =>refine#[_,rfl,st,_,_,_,rfl,rfl,Nb hst,at2,_,rfl,p,C,dx,_,_,rfl,h1,T.cl,T.nH,eI _ _,_,rfl,st,_,_,_,rfl,rfl,Nb hst,at1,d,.ref ia,rfl,e1▸DGet.t (k:=nk2 h i) h2 eq,ia,_,_,_,rfl,rfl,Nb e2,at2,tx,rfl,∅,_,_,rfl,rfl,_,rfl,?_];exact EM ∅ (q rfl)
 |itm st qa r c h i hc hst eq =>
  rcases Fm hc with rfl|rfl|⟨n1,n2,n3⟩
  ·refine#[_,rfl,st,_,_,_,rfl,rfl,Nb hst,at0,rfl,_,rfl,cj ⋯ (aD ?_)];refine#[_,rfl,st,_,_,_,rfl,rfl,Nb hst,at0,rfl,_,rfl,cZ ?_];refine#[_,rfl,p,dx,_,rfl,h1,gJ _ _,_,rfl,st,_,_,_,rfl,rfl,Nb hst,at1,_,rfl,st,_,_,_,rfl,rfl,Nb hst,at2,.self _ qa qa _ rfl eq eq #[_,rfl,?_]];exact aK #[sz rfl,e rfl]
  ·refine#[_,rfl,st,_,_,_,rfl,rfl,Nb hst,at0,rfl,_,rfl,cZ ?_];refine#[_,rfl,p,dx,_,rfl,h1,gJ _ _,_,rfl,st,_,_,_,rfl,rfl,Nb hst,at2,_,rfl,st,_,_,_,rfl,rfl,Nb hst,at1,.no _ _ rfl #[_,rfl,?_]];refine aD ?_;refine#[_,rfl,st,_,_,_,rfl,rfl,Nb hst,at0,rfl,_,rfl,cj ⋯ (aD ?_)];exact#[_,rfl,st,_,_,_,rfl,rfl,Nb hst,at0,rfl,_,rfl,cj ⋯ (aD (q rfl))]
  ·refine#[_,rfl,st,_,_,_,rfl,rfl,Nb hst,at0,rfl,_,rfl,cj n1 (aD ?_)];refine#[_,rfl,st,_,_,_,rfl,rfl,Nb hst,at0,rfl,_,rfl,cj n2 (aD ?_)];refine#[_,rfl,st,_,_,_,rfl,rfl,Nb hst,at0,rfl,_,rfl,cj n3 (aD (q ?_))];cases c with
   |join=>exact absurd rfl n2
   |_=>rfl
inductive spPartI(C:MU)(vs:Nh)(H:Hp)(Q:VK)(E:XK):Prop
 |mk (p d g:MU) (N:List (List Key)) (B:Nat) (nv mv pv:V) (n m:List Key) (h0:vs=[.ref p,nv,.int 0,mv,pv]) (h1:PN C H p d g N B) (h2:NameIs H nv n) (h3:NameIs H mv m) (hn:inN N n=true) (hB:B<=400)
   (q:∀H',But d H H'->PN C H' p d g (N++[m]) (B+2)->Q .non H'):spPartI C vs H Q E
abbrev eX:Stmt:=aY (top 51) 6
abbrev mP:List Str:=["self","name","at","new","place","item","ahead"]
theorem eM:FnScope mP ["self","name","at","new","place"] (aj eX):= ~~~0
theorem lE{f C:MU}{fd:M0}(F:Fun K "part_item" "Plain.part_item" eX f fd)(T:TxP K C)(v8:↑MFn 1 C "change" ["self","name","first","values"] (ow C))(j7:↑MFn 1 C "bring_in" ["self","name","up","place","text"] (rm C)){tk tk':Tok}(Kh:mg "TEXT" = some (.int 2 tk))(L7:mg "UP" = some (.int 0 tk'))(n6:mg "max" = none):↑FnOk CX0 2 f fd ["self","name","at","new","place"] (spPartI C):=by
 exists eM
 obtain⟨p,d,g,N,B,nv,mv,pv,n,m,rfl,⟨kvs,gvs,S,hN,hI,hB⟩,hn,hm,hin,b4,q⟩:=h;obtain⟨⟨dx,h1⟩,h2,h3,h4⟩:=id S;obtain⟨nb,rfl,hnb⟩:=id hn;have hs:=hN n;rw[hin]at hs;obtain⟨iv,e1⟩:=YB.mp hs;cases hI _ _ e1 with
 |mk ia v1 tx v3 v4 v5 e2 l2 =>
  refine#[_,(b_c (aC (i:=5) eM.nd (cu hr.units (bR ↑0) ↑1))
   (b_c (aC (i:=6) eM.nd (q_B (IZ rfl) n6 uA (q_a ↑2 (q_a ai ag))))
   (b_c (bP (bX v8 ↑99 ↑0 (q_a ↑1 (q_a (iE Kh) (q_a (aB (q_a (eL BR (aq ao ↑5 (iE Kh)) eW (dP ↑6)) ag)) ag)))))
   (b_1 (bP (bX j7 ↑99 ↑0 (q_a ↑3 (q_a (aq ao ↑5 (iE L7)) (q_a ↑4 (q_a (eL BR (aq ao ↑5 (iE Kh)) (dP ↑6) eW) ag)))))))))),?_]
  try rw[cxK]
  refine#[_,rfl,p,C,dx,_,_,rfl,h1,T.cl,T.nH,eI _ _,_,rfl,d,.ref ia,rfl,e1▸DGet.t (k:=n) h2 hnb,?_];refine#[_,rfl,_,_,rfl,?_];refine#[_,rfl,p,dx,_,rfl,h1,gJ _ _,_,rfl,_,rfl,ia,_,_,_,rfl,rfl,Nb e2,at2,_,rfl,_,rfl,tx,rfl,∅,sz rfl,λva gva=>?_];have wv:=af gva (.tup [.str (uJ tx none (some (if(0:Int)>0 then 0 else 0)))]);refine#[p,d,g,ia,va,kvs,gvs,.ref nb,n,2,_,_,rfl,S.same wv,hn.same wv,∅,e1,wv _ _ e2,ad,show 2+1<=6 by decide,show 6<=100 by decide,λt H1 s1 e5=>?_];have s01:Same H H1:=wv.trans s1;have O1:=pH (k:=n) S hN hI hB s01 (.mk t v1 _ v3 v4 v5 e5 (Zq (nz _ _ _) l2)) (xZ hin);have b1:But d H (upd H1 d (.dT (bh kvs n (.ref t)))):=But.put s01;generalize upd H1 d (.dT (bh kvs n (.ref t)))=H2 at O1 b1 ⊢;have t2:=b1.ts h2;obtain⟨kvs2,gvs2,S2,hN2,hI2,hB2⟩:=id O1;obtain⟨⟨dx2,y1⟩,y2,y3,y4⟩:=id S2;obtain⟨mb,rfl,hmb⟩:=id hm;refine#[_,rfl,p,dx2,_,rfl,y1,gJ _ _,_,rfl,_,rfl,ia,_,_,_,rfl,rfl,Nb (t2 _ _ e2),at0,_,rfl,_,rfl,ia,_,_,_,rfl,rfl,Nb (t2 _ _ e2),at2,_,rfl,_,rfl,tx,rfl,∅,?_];refine#[p,d,g,kvs2,gvs2,.ref mb,.non,pv,.str _,m,rfl,S2,#[mb,rfl,t2 _ _ hmb],∅,λt' H3 s3 e6=>?_];exact q _ (b1.trans (But.put s3)) (pH S2 hN2 hI2 hB2 s3 (.mk t' _ _ _ _ _ e6 (Zq (nz _ _ _) l2)) qF)
inductive PBs(H:Hp)(kvs:Ng)(b:Bool):List Str->Nh->List Bool->Prop
 |nil:PBs H kvs b [] [] []
 |oth {w:Str} {v:V} {ws:List Str} {vs:Nh} {bs:List Bool} (h1:w≠"new") (h2:¬isI w) (t:PBs H kvs b ws vs bs):PBs H kvs b (w::ws) (v::vs) (true::bs)
 |new {v:V} {k:List Key} {ws:List Str} {vs:Nh} {bs:List Bool} (h1:NameIs H v k) (h2:(aH kvs k).isSome=false) (t:PBs H kvs b ws vs bs):PBs H kvs b ("new"::ws) (v::vs) (true::bs)
 |up {ws:List Str} {vs:Nh} {bs:List Bool} (t:PBs H kvs b ws vs bs):PBs H kvs b ("up"::ws) (.non::vs) (true::bs)
 |it {v:V} {k:List Key} {ws:List Str} {vs:Nh} {bs:List Bool} (h1:NameIs H v k) (h2:(aH kvs k).isSome=b) (t:PBs H kvs b ws vs bs):PBs H kvs b ("item"::ws) (v::vs) (b::bs)
theorem PBs.len{H:Hp}{kvs:Ng}{b:Bool}{ws:List Str}{vs:Nh}{bs:List Bool}(x:PBs H kvs b ws vs bs):ws.length=vs.length/\bs.length=vs.length:=by
 induction x with
 |nil=>exact#[rfl,rfl]
 |oth _ _ _ ih=>exact#[Yw Nat.succ ih.1,Yw Nat.succ ih.2]
 |new _ _ _ ih=>exact#[Yw Nat.succ ih.1,Yw Nat.succ ih.2]
 |up _ ih=>exact#[Yw Nat.succ ih.1,Yw Nat.succ ih.2]
 |it _ _ _ ih=>exact#[Yw Nat.succ ih.1,Yw Nat.succ ih.2]
theorem Jl:¬(("item":Str)="new")/\¬(("up":Str)="new")/\¬(("new":Str)="item")/\¬(("new":Str)="up"):=⋯
theorem PBs.get{H:Hp}{kvs:Ng}{b:Bool}{ws:List Str}{vs:Nh}{bs:List Bool}(x:PBs H kvs b ws vs bs):∀(i:Nat) (w:Str) (v:V) (c:Bool),ws[i]?=some w->vs[i]?=some v->bs[i]?=some c->PartB H kvs w v c/\(c=false->b=false)/\(w="new"->c=true):=by
 obtain⟨n1,n2,n3,n4⟩:=Jl;induction x with
 |nil=>exact λi w v c h=>by simp at h
 |oth h1 h2 _ ih =>
  intro i w v c e1 e2 e3
  match i with
  |0=>cases e1;cases e2;cases e3;exact#[#[λz=>absurd z h1,λz=>absurd z h2],λz=>(by cases z),λz=>absurd z h1]
  |i+1=>exact ih i w v c e1 e2 e3
 |@new v0 k ws vs bs h1 h2 _ ih =>
  intro i w v c e1 e2 e3
  match i with
  |0=>cases e1;cases e2;cases e3;exact#[#[λ_=>#[k,h1,by rw[h2];rfl],λz=>(z.elim n3 n4).elim],λz=>(by cases z),λ_=>rfl]
  |i+1=>exact ih i w v c e1 e2 e3
 |up _ ih =>
  intro i w v c e1 e2 e3
  match i with
  |0=>cases e1;cases e2;cases e3;exact#[#[λz=>absurd z n2,λ_=>.inl #[rfl,rfl]],λz=>(by cases z),λz=>absurd z n2]
  |i+1=>exact ih i w v c e1 e2 e3
 |@it v0 k ws vs bs h1 h2 _ ih =>
  intro i w v c e1 e2 e3
  match i with
  |0=>cases e1;cases e2;cases e3;exact#[#[λz=>absurd z n1,λ_=>.inr #[k,h1,h2.symm]],id,λz=>absurd z n1]
  |i+1=>exact ih i w v c e1 e2 e3
def sK:Ik->List Str
 |.join=>["item","item"]|.mark=>["item","truth"]|.move=>["item","up","place"]|.write=>["item","text"]|.due=>["item","whom"]|.fold=>["item","truth"]|_=>[]
theorem JO{c:Ik}(h:okC c=true):PyProof.Rows.KTD.datumAt (iW c) ST=some (tw (sK c)):=by
 cases c with
 |take=>cases h
 |back=>cases h
 |part=>cases h
 |_=>with_unfolding_all rfl
theorem JD:(∀w∈(["place","text","truth","whom","at"]:List Str),w≠"new"/\¬(w="item"\/w="up")):=⋯
theorem IA{H:Hp}{st:MU}{s:Stp}{N:List (List Key)}{kvs:Ng}(x:SR H (.ref st) s)(hN:∀k,(aH kvs k).isSome=inN N k)(hf:fresh N s):∃(wd:Str) (ws:List Str) (ps:Nh) (b:Bool) (bs:List Bool),H st=some (.tup (.str wd::ps))/\PyProof.Rows.KTD.datumAt wd ST=some (tw ws)/\PBs H kvs b ws ps bs/\(b=false->stB N s=none)/\(b=true->G6 N s/\(isJ s=false->(stB N s).isSome=true))/\(b=true\/(ws[0]?=some ("item":Str)/\bs[0]?=some b)):=by
 have o:=λw h=>JD w h;cases x with
 |put _ nb k pl e en =>refine#[_,["new","up","place","text"],_,true,_,e,by with_unfolding_all rfl,.new #[nb,rfl,en] (by rw[hN];exact hf) (.up (.oth (o "place" ⋯).1 (o "place" ⋯).2 (.oth (o "text" ⋯).1 (o "text" ⋯).2 .nil))),λz=>(by cases z),λ_=>#[trivial,λ_=>rfl],.inl rfl]
 |part _ q nb h i k pl e eq en =>
  refine#[_,["item","at","new","place"],_,inN N (nk2 h i),_,e,by with_unfolding_all rfl,.it (k:=nk2 h i) #[q,rfl,eq] (hN _) (.oth (o "at" ⋯).1 (o "at" ⋯).2 (.new #[nb,rfl,en] (by rw[hN];exact hf) (.oth (o "place" ⋯).1 (o "place" ⋯).2 .nil))),λz=>?_,λz=>#[z,λ_=>?_],.inr #[rfl,rfl]]
  ·show(bif inN N (nk2 h i)then _ else none)=none;rw[z];rfl
  ·show(bif inN N (nk2 h i)then some (N++[k])else none).isSome=true;rw[z];rfl
 |itm _ q r c h i hc e eq =>
  have key:∃bs,PBs H kvs (inN N (nk2 h i)) (sK c) (.ref q::iR q r c) bs/\(sK c)[0]?=some ("item":Str)/\bs[0]?=some (inN N (nk2 h i)):=by
   have h1:NameIs H (.ref q) (nk2 h i):=#[q,rfl,eq]
   cases c with
   |take=>cases hc
   |back=>cases hc
   |part=>cases hc
   |join=>exact#[_,.it h1 (hN _) (.it h1 (hN _) .nil),rfl,rfl]
   |mark=>exact#[_,.it h1 (hN _) (.oth (o "truth" ⋯).1 (o "truth" ⋯).2 .nil),rfl,rfl]
   |move=>exact#[_,.it h1 (hN _) (.up (.oth (o "place" ⋯).1 (o "place" ⋯).2 .nil)),rfl,rfl]
   |write=>exact#[_,.it h1 (hN _) (.oth (o "text" ⋯).1 (o "text" ⋯).2 .nil),rfl,rfl]
   |due=>exact#[_,.it h1 (hN _) (.oth (o "whom" ⋯).1 (o "whom" ⋯).2 .nil),rfl,rfl]
   |fold=>exact#[_,.it h1 (hN _) (.oth (o "truth" ⋯).1 (o "truth" ⋯).2 .nil),rfl,rfl]
  obtain⟨bs,pb,k1,k2⟩:=key;refine#[_,_,_,_,_,e,JO hc,pb,λz=>?_,λz=>#[trivial,λj=>?_],.inr #[k1,k2]]
  ·show(bif (inN N (nk2 h i)&&!fu c)then some N else none)=none;rw[z];rfl
  ·show(bif (inN N (nk2 h i)&&!fu c)then some N else none).isSome=true;rw[z,show fu c=false from j];rfl
def fi:Ik->Nat
 |.move=>0|.write=>2|.mark=>3|.due=>4|.fold=>5|_=>0
theorem Je{c:Ik}(h:okC c=true)(j:fu c=false):PyProof.Rows.KTD.datumAt (iW c) FC=some (.flat (.int (fi c:Int))):=by
 cases c with
 |take=>cases h
 |back=>cases h
 |part=>cases h
 |join=>cases j
 |_=>with_unfolding_all rfl
theorem Jo{c:Ik}(h:okC c=true)(j:fu c=false):V.str (iW c)≠V.str "put"/\V.str (iW c)≠V.str "part"/\V.str (iW c)≠V.str "join"/\V.str (iW c)≠V.str "gone":=by
 cases c with
 |take=>cases h
 |back=>cases h
 |part=>cases h
 |join=>cases j
 |_=>decide +kernel
theorem zo{H:Hp}{t q r:MU}{c:Ik}{v1 v3 v4 v5:V}{s:Str}(h:okC c=true)(j:fu c=false)(l:s.length<=1)(e:H t=some (.tup (([V.non,v1,.str s,v3,v4,v5]:Nh).take (fi c)++iR q r c++([V.non,v1,.str s,v3,v4,v5]:Nh).drop (fi c+(iR q r c).length)))):ItR H (.ref t):=by
 cases c with
 |take=>cases h
 |back=>cases h
 |part=>cases h
 |join=>cases j
 |mark=>exact .mk t v1 s _ v4 v5 e l
 |move=>exact .mk t _ s v3 v4 v5 e l
 |write=>exact .mk t v1 "a" v3 v4 v5 e ⋯
 |due=>exact .mk t v1 s v3 _ v5 e l
 |fold=>exact .mk t v1 s v3 v4 _ e l
theorem G2{q r:MU}(c:Ik):fi c+(iR q r c).length<=6:=by cases c<;>exact Nat.le_of_ble_eq_true rfl
theorem JZ(w:Str)(q:MU)(ys:Nh):bM (V.str w::.ref q::ys) (some 2) none=ys:=by unfold bM;rw[HT.sIx_none,show(2:Int)=((2:Nat):Int)from rfl,HT.sIx_nat];simp
inductive spStepX(C cN cB:MU)(vs:Nh)(H:Hp)(Q:VK)(E:XK):Prop
 |mk (p d g:MU) (N:List (List Key)) (B:Nat) (v:V) (s:Stp) (h0:vs=[.ref p,v]) (h1:PN C H p d g N B) (hB:B<=400) (h2:SR H v s) (hf:fresh N s)
   (q:∀N' H',stB N s=some N'->But d H H'->PN C H' p d g N' (B+2)->Q .non H')
   (e:stB N s=none->∀c o H',Same H H'->c=cN\/c=cB->E (.ref c) o H'):spStepX C cN cB vs H Q E
theorem PN.up{C:MU}{H:Hp}{p d g:MU}{N:List (List Key)}{B B':Nat}(x:PN C H p d g N B)(h:B<=B'):PN C H p d g N B':=by obtain⟨kvs,gvs,S,hN,hI,hB⟩:=x;exact#[kvs,gvs,S,hN,hI,Zq hB h]
theorem But.of{d:MU}{H H':Hp}(s:Same H H'):But d H H':=λb o e _=>s b o e
def rA:Sp:=λ_ _ _ _=>False
abbrev iL:Stmt:=aY (top 51) 1
abbrev ug:List Str:=["self","step","word"]
theorem kT:FnScope ug ["self","step"] (aj iL):= ~~~0
theorem qM{f C cT cN cB:MU}{fd:M0}{dd:MU}(F:Fun K "step" "Plain.step" iL f fd)(j8:TxP K C)(IO:↑MFnX 3 C "check_names" ["self","step"] (vX C cT cN))(u3:↑MFnX 2 C "check_bounds" ["self","step"] (spBndX C cB))(j7:↑MFn 1 C "bring_in" ["self","name","up","place","text"] (rm C))(KS:↑MFn 2 C "part_item" ["self","name","at","new","place"] (spPartI C))(KB:↑MFn 2 C "join_items" ["self","name","other"] rA)(v8:↑MFn 1 C "change" ["self","name","first","values"] (ow C))(u4:mg "FIRST_CHANGED" = some (.ref dd))(TF:Tab K dd FC):↑FnOk (CXr P w) 4 f fd ["self","step"] (spStepX C cN cB):=by
 refine F.okX kT (λvs H Q E h=>?_) (λcdv A outer s H vs Q E hr h=>?_)
 ·obtain⟨p,d,g,N,B,v,sd,rfl,_⟩:=h;rfl
 obtain⟨p,d,g,N,B,v,sd,rfl,hP,b4,hs,hf,q,e⟩:=h;obtain⟨kvs,gvs,S,hN,hI,hB⟩:=id hP;obtain⟨⟨dx,h1⟩,h2,h3,h4⟩:=id S;obtain⟨st,rfl⟩:∃st,v=.ref st:=by cases hs<;>exact#[_,rfl]
 obtain⟨wd,ws,ps,b,bs,hst,dat,pb,bf,bt,b0⟩:=IA (kvs:=kvs) hs hN hf;exists _,(b_c (bP (mE IO (EW dF) ↑99 ↑0 (q_a ↑1 ag)))
   (b_c (bP (mE u3 (EW dF) ↑99 ↑0 (q_a ↑1 ag)))
   (b_c (aC (i:=2) kT.nd (aq ao ↑1 ai))
   (b_1 (aJ (ax br ↑2 ar) (b_1 (bP (bX j7 ↑99 ↑0 (q_a (aq ao ↑1 ai) (q_a (aq ao ↑1 ai) (q_a (aq ao ↑1 ai) (q_a (aq ao ↑1 ai) ag))))))) (b_1 (aJ (ax br ↑2 ar) (b_1 (bP (bX KS ↑99 ↑0 (q_a (aq ao ↑1 ai) (q_a (aq ao ↑1 ai) (q_a (aq ao ↑1 ai) (q_a (aq ao ↑1 ai) ag))))))) (b_1 (aJ (ax br ↑2 ar) (b_1 (bP (bX KB ↑99 ↑0 (q_a (aq ao ↑1 ai) (q_a (aq ao ↑1 ai) ag))))) (b_1 (aJ (ax br ↑2 ar) (b_1 qY) (b_1 (bP (bX v8 ↑99 ↑0 (q_a (aq ao ↑1 ai) (q_a (aq AI (Ah u4) ↑2) (q_a (eL de ↑1 (dP ai) eW) ag)))))))))))))))))
 refine#[_,rfl,p,dx,_,rfl,h1,gJ _ _,_,rfl,p,d,g,st,kvs,gvs,wd,ws,ps,bs,rfl,S,hst,dat,pb.len.1,pb.len.2,λi w' v' c' e1 e2 e3=>(pb.get i w' v' c' e1 e2 e3).1,fun⟨i,e1,e2⟩=>?_,λnn=>#[λall H1 s1=>?_,λi w' v' e1 e2 hi e3 pre H' dd' sm hd=>?_]]
 ·obtain⟨v',hv⟩:∃v',ps[i]?=some v':=#[_,Zj (by rw[<-pb.len.1];exact(Zi.mp e1).1)]
  have:=(pb.get i _ v' _ e1 hv e2).2.2 rfl;cases this
 ·have hb:b=true:=b0.elim id fun⟨z1,z2⟩=>by have:=all 0 _ z1 (.inl rfl);rw[z2]at this;exact Zn this
  obtain⟨hh,hz⟩:=bt hb;have hs1:=hs.ts (Na s1);have P1:=hP.same s1;obtain⟨kvs1,gvs1,S1,hN1,hI1,hB1⟩:=id P1;obtain⟨⟨dx1,y1⟩,y2,y3,y4⟩:=id S1;refine#[_,rfl,p,dx1,_,rfl,y1,gJ _ _,_,rfl,p,d,g,N,B,.ref st,sd,rfl,P1,hs1,hh,λhj=>?_,λhj=>?_]
  ·have hz:=hz hj;cases hs1 with
   |put _ nb k pl hst en =>refine(vix rfl (Nb hst) at0 ?_);refine#[_,rfl,rfl,_,rfl,cZ ?_];exact#[_,rfl,p,dx1,_,rfl,y1,gJ _ _,vix rfl (Nb hst) at1 (vix rfl (Nb hst) at2 (vix rfl (Nb hst) at3 (vix rfl (Nb hst) at4 #[p,d,g,kvs1,gvs1,.ref nb,.non,pl,.str "",k,rfl,S1,#[nb,rfl,en],∅,λt H2 s2 e2=>q _ _ rfl (But.put (s1.trans s2)) ((pH S1 hN1 hI1 hB1 s2 (.mk t _ _ _ _ _ e2 ⋯) qF).up ∅)])))]
   |part _ qa nb h i k pl hst eq en =>refine(vix rfl (Nb hst) at0 ?_);refine#[_,rfl,rfl,_,rfl,cj ⋯ ?_];refine#[_,rfl,rfl,_,rfl,cZ ?_];exact#[_,rfl,p,dx1,_,rfl,y1,gJ _ _,vix rfl (Nb hst) at1 (vix rfl (Nb hst) at2 (vix rfl (Nb hst) at3 (vix rfl (Nb hst) at4 #[p,d,g,N,B,.ref qa,.ref nb,pl,nk2 h i,k,rfl,P1,#[qa,rfl,eq],#[nb,rfl,en],hh,b4,λH2 b2 P2=>q _ _ (by show(bif inN N (nk2 h i)then some (N++[k])else none)=_;rw[show inN N (nk2 h i)=true from hh];rfl) ((But.of s1).trans b2) P2])))]
   |itm _ qa r c h i hc hst eq =>
    have hj':fu c=false:=hj;have hin:inN N (nk2 h i)=true:=by
     cases z:inN N (nk2 h i)with
     |true=>rfl
     |false =>have:(bif (inN N (nk2 h i)&&!fu c)then some N else none).isSome=true:=hz;rw[z]at this;cases this
    obtain⟨n1,n2,n3,n4⟩:=Jo hc hj';have hsm:=hN1 (nk2 h i);rw[hin]at hsm;obtain⟨iv,e1⟩:=YB.mp hsm;cases hI1 _ _ e1 with
    |mk ia v1 tx v3 v4 v5 e2 l2 =>refine(vix rfl (Nb hst) at0 ?_);refine#[_,rfl,rfl,_,rfl,cj n1 ?_];refine#[_,rfl,rfl,_,rfl,cj n2 ?_];refine#[_,rfl,rfl,_,rfl,cj n3 ?_];refine#[_,rfl,rfl,_,rfl,cj n4 ?_];refine#[_,rfl,p,dx1,_,rfl,y1,gJ _ _,vix rfl (Nb hst) at1 #[_,rfl,dd,iW c,FC,_,rfl,rfl,TF,Je hc hj',?_]];refine#[_,rfl,_,rfl,st,_,rfl,hst,λva H2 s2 e3=>?_];rw[JZ]at e3;refine#[p,d,g,ia,va,kvs1,gvs1,.ref qa,nk2 h i,fi c,_,_,rfl,S1.same s2,#[qa,rfl,s2 _ _ eq],∅,e1,s2 _ _ e2,e3,G2 c,show 6<=100 by decide,λt H3 s3 e5=>?_];refine q N _ (by show(bif (inN N (nk2 h i)&&!fu c)then some N else none)=_;rw[hin,hj'];rfl) (But.put (s1.trans (s2.trans s3))) ((pH S1 hN1 hI1 hB1 (s2.trans s3) (zo hc hj' l2 e5) (xZ hin)).up ∅)
  ·refine e ?_ cB none H1 s1 (.inr rfl);cases hs1 with
   |put _ nb k pl hst en=>cases hj
   |part _ qa nb h i k pl hst eq en=>cases hj
   |itm _ qa r c h i hc hst eq =>show(bif (inN N (nk2 h i)&&!fu c)then some N else none)=none;rw[show fu c=true from hj,Bool.not_true,Bool.and_false];rfl
 ·refine e (bf ?_) cN (some dd') H' sm (.inl rfl);exact(pb.get i w' v' _ e1 e2 e3).2.1 rfl
theorem yo(c:MU)(b:MT):(Value.ref c::b).contains (.ref c)=true:=by simp
structure ErF(K:W.Frag)(cN cB cF:MU)(bN bB bF:MT):Prop where
 eN:ExC K cN bN
 eB:ExC K cB bB
 eF:ExC K cF bF
 bn:(Value.ref cB::bB).contains (.ref cN)=false
inductive spWordOf(C:MU)(vs:Nh)(H:Hp)(Q:VK)(E:XK):Prop
 |mk (p d g:MU) (N:List (List Key)) (B:Nat) (v:V) (s:Stp) (h0:vs=[.ref p,v]) (h1:PN C H p d g N B) (hB:B<=400) (h2:SR H v s) (hf:fresh N s)
   (q:∀N' H',stB N s=some N'->But d H H'->PN C H' p d g N' (B+2)->Q (.str "done") H')
   (e:stB N s=none->∀(w:Str) H',w="none"\/w="beneath"->Same H H'->Q (.str w) H'):spWordOf C vs H Q E
abbrev fY:Stmt:=top 63
abbrev qj:List Str:=["outline","step"]
theorem pO:FnScope qj ["outline","step"] (aj fY):= ~~~0
theorem pE{f C cN cB cF:MU}{fd:M0}{bN bB bF:MT}(F:Fun K "word_of_step" "word_of_step" fY f fd)(j9:↑MFnX 4 C "step" ["self","step"] (spStepX C cN cB))(R:ErF K cN cB cF bN bB bF)(v7:mg "NoItem" = some (.ref cN))(j5:mg "Beneath" = some (.ref cB))(LA:mg "Far" = some (.ref cF)):↑FnOk CX0 5 f fd ["outline","step"] (spWordOf C):=by
 have MB:=R.eN;have Mz:=R.eB;have MJ:=R.eF;exists pO
 obtain⟨p,d,g,N,B,v,sd,rfl,hP,b4,hs,hf,q,e⟩:=h;obtain⟨kvs,gvs,S,_⟩:=id hP;obtain⟨⟨dx,h1⟩,h2,h3,h4⟩:=id S;exists _,(b_c (Iv rfl rfl (Gu (IT j9 ↑99 ↑0 (q_a ↑1 ag))) (Dy MB v7 (λ_=>(b_1 (am ar))) (Dy Mz j5 (λ_=>(b_1 (am ar))) (Dy MJ LA (λ_=>(b_1 (am ar))) Jf))))
   (b_1 (am ar)))
 refine#[_,rfl,p,dx,_,rfl,h1,gJ _ _,_,rfl,p,d,g,N,B,v,sd,rfl,hP,b4,hs,hf,λN' H' e1 b1 P1=>?_,λe1 c o H' s1 hc=>?_]
 ·exact q N' H' e1 b1 P1
 ·rcases hc with rfl|rfl
  ·exact#[c,bN,rfl,R.eN,by rw[yo];exact aK (e e1 _ _ (.inl rfl) s1)]
  ·exact#[c,bB,rfl,R.eB,by rw[R.bn];exact aD #[c,bB,rfl,R.eB,by rw[yo];exact aK (e e1 _ _ (.inr rfl) s1)]]
def stO(x:Dd):Option Stp:=match x.w with
 |.put _=>some (.put (nmK x))
 | .itm c h k=>(match c with
  |.take=>none
  |.back=>none
  |.part=>some (.part h k (nmK x))
  | c=>some (.itm c h k))
 |_=>none
inductive spStepOf(vs:Nh)(H:Hp)(Q:VK)(E:XK):Prop
 |mk (a:MU) (x:Dd) (s:Stp) (h0:vs=[.ref a]) (h1:DR H a x) (h2:stO x=some s) (q:∀v H',Same H H'->SR H' v s->Q v H'):spStepOf vs H Q E
abbrev mh:Stmt:=top 62
abbrev AZ:List Str:=["deed","what"]
theorem pN:FnScope AZ ["deed"] (aj mh):= ~~~0
theorem Aa{f:MU}{fd:M0}(F:Fun K "step_of" "step_of" mh f fd)(a6:↑Fn 1 "name_of" ["deed"] cE):↑FnOk CX0 2 f fd ["deed"] spStepOf:=by
 exists pN
 obtain⟨a,x,sd,rfl,hd,hs,q⟩:=h;obtain⟨c,v,e1,e2,e4,e3⟩:=id hd;exists _,(b_c (aC (i:=1) pN.nd (aq ao ↑0 ai))
   (b_c (aJ (ax br (aq ao ↑1 ai) ar) (b_1 (am (bg gC (aB (q_a ar (q_a (aw a6 ↑99 (q_a ↑0 ag)) ag))) (eL de ↑1 (dP ai) eW)))) b_0)
   (b_c (aJ (ax br (aq ao ↑1 ai) ar) (b_1 (am (bg gC (bg gC (eL de ↑1 eW (dP ai)) (aB (q_a (aw a6 ↑99 (q_a ↑0 ag)) ag))) (eL de ↑1 (dP ai) eW)))) b_0)
   (b_1 (am ↑1)))))
 refine#[_,rfl,a,_,_,_,rfl,rfl,Nb e1,rfl,?_];unfold stO at hs;cases ew:x.w with
 |no=>rw[ew]at hs;cases hs
 |trn b k=>rw[ew]at hs;cases hs
 |put m =>rw[ew]at hs e4;cases hs;obtain⟨p,pl,rfl,g1,g2⟩:=e4;refine(vix rfl (Nb g1) at0 #[rfl,_,rfl,cZ ?_]);refine#[_,rfl,_,_,rfl,hd,λt H1 s1 et=>#[sz rfl,λy gy=>?_]];have wy:=af gy (.tup [.str "put",.ref t]);refine#[_,rfl,_,rfl,p,_,rfl,wy _ _ (s1 _ _ g1),λz H2 s2 ez=>#[y,z,_,_,rfl,rfl,s2 _ _ ad,ez,sz rfl,λst H3 s3 e5=>?_]];exact q _ H3 (s1.trans (wy.trans (s2.trans s3))) (.put st t (nmK x) (.ref pl) e5 (s3 _ _ (s2 _ _ (wy _ _ et))))
 |itm c h k =>
  rw[ew]at hs e4;obtain⟨p,qa,r,rfl,g1,g2,g3⟩:=e4;by_cases cp:c=.part
  ·subst cp;cases hs;refine(vix rfl (Nb g1) at0 #[rfl,_,rfl,cj ⋯ ?_]);refine(vix rfl (Nb g1) at0 #[rfl,_,rfl,cZ ?_]);refine#[_,rfl,_,rfl,p,_,rfl,g1,λz H1 s1 ez=>?_];refine#[_,rfl,_,_,rfl,hd.same s1,λt H2 s2 et=>#[sz rfl,λy gy=>?_]];have wy:=af gy (.tup [.ref t]);refine#[z,y,_,_,rfl,rfl,wy _ _ (s2 _ _ ez),ad,sz rfl,λz2 H3 s3 e5=>?_];have s03:Same H H3:=s1.trans (s2.trans (wy.trans s3));refine#[_,rfl,_,rfl,p,_,rfl,s03 _ _ g1,λz3 H4 s4 e6=>#[z2,z3,_,_,rfl,rfl,s4 _ _ e5,e6,sz rfl,λst H5 s5 e7=>?_]];exact q _ H5 (s03.trans (s4.trans s5)) (.part st qa t h k (nmK x) (.ref r) e7 (s5 _ _ (s4 _ _ (s03 _ _ g2))) (s5 _ _ (s4 _ _ (s3 _ _ (wy _ _ et)))))
  ·have hw:V.str (iW c)≠V.str "put"/\V.str (iW c)≠V.str "part"/\okC c=true/\sd=.itm c h k:=by
    cases c with
    |take=>cases hs
    |back=>cases hs
    |part=>exact absurd rfl cp
    |_=>cases hs;exact#[⋯,⋯,rfl,rfl]
   obtain⟨w1,w2,hc,rfl⟩:=hw;refine(vix rfl (Nb g1) at0 #[rfl,_,rfl,cj w1 ?_]);refine(vix rfl (Nb g1) at0 #[rfl,_,rfl,cj w2 ?_]);exact#[_,rfl,q _ H (Same.refl H) (.itm p qa r c h k hc g1 g2)]
theorem jg{X:Cx}:ee (CXr X.prog X.w) X E0:=λM9 σ H s e s' I x=>by obtain⟨ea,t,C,vs,B,H',dc,rfl,os,bare,un,hok,fly,tup,hBt,kb,dd,q⟩:=x;exact q.elim
inductive Out(N:List (List Key))(x:Dd):Str->Option Stp->List (List Key)->Prop
 |idle (w:Str) (h:w="done"\/w="none") (hs:stO x=none):Out N x w none N
 |done (s:Stp) (N':List (List Key)) (hs:stO x=some s) (h:stB N s=some N'):Out N x "done" (some s) N'
 |no (s:Stp) (w:Str) (hs:stO x=some s) (h:stB N s=none) (hw:w="none"\/w="beneath"):Out N x w none N
def SRo(H:Hp)(v:V):Option Stp->Prop
 |none=>v=.non
 |some s=>SR H v s
inductive spPlay(C:MU)(vs:Nh)(H:Hp)(Q:VK)(E:XK):Prop
 |mk (a p d g:MU) (x:Dd) (N:List (List Key)) (B:Nat) (h0:vs=[.ref a,.ref p]) (h1:DR H a x) (ht:isT x.w=false) (h2:PN C H p d g N B) (hB:B<=400) (hf:∀s,stO x=some s->fresh N s)
   (q:∀t w so N' sv H',Out N x w so N'->But d H H'->PN C H' p d g N' (B+2)->H' t=some (.tup [.str w,sv])->SRo H' sv so->Q (.ref t) H'):spPlay C vs H Q E
inductive WV(x:Dd):Prop
 |no (h:x.w=.no):WV x
 |tb (c:Ik) (h k:Int) (e:x.w=.itm c h k) (hs:stO x=none) (n:V.str (iW c)≠V.str "none") (i:inV (.str (iW c)) [.str "take",.str "back"]=true):WV x
 |st (s:Stp) (hs:stO x=some s) (n:V.str (wW x.w)≠V.str "none") (i:inV (.str (wW x.w)) [.str "take",.str "back"]=false):WV x
theorem wv(x:Dd)(ht:isT x.w=false):WV x:=by
 cases e:x.w with
 |no=>exact .no e
 |trn b k=>rw[e]at ht;cases ht
 |put m=>exact .st (.put (nmK x)) (by unfold stO;rw[e]) (by rw[e];exact(show V.str "put"≠V.str "none" by decide)) (by rw[e];exact(show inV (.str "put") [.str "take",.str "back"]=false by decide))
 |itm c h k =>
  have tb:stO x=none->V.str (iW c)≠V.str "none"->inV (.str (iW c)) [.str "take",.str "back"]=true->WV x:=λa b d=>.tb c h k e a b d;have st:∀s,stO x=some s->V.str (iW c)≠V.str "none"->inV (.str (iW c)) [.str "take",.str "back"]=false->WV x:=λs a b d=>.st s a (by rw[e];exact b) (by rw[e];exact d);cases c with
  |take=>exact tb (by unfold stO;rw[e]) ⋯ ⋯
  |back=>exact tb (by unfold stO;rw[e]) ⋯ ⋯
  |_=>exact st _ (by unfold stO;rw[e]) ⋯ ⋯
abbrev vN:Stmt:=top 61
abbrev GL:List Str:=["deed","outline","what","step","word"]
theorem jO:FnScope GL ["deed","outline"] (aj vN):= ~~~0
theorem FE{f C cN cB:MU}{fd:M0}(F:Fun K "play" "play" vN f fd)(LB:↑MFn 1 C "holds" ["self","name"] (spHolds C))(j9:↑MFnX 4 C "step" ["self","step"] (spStepX C cN cB))(Ln:↑Fn 2 "step_of" ["deed"] spStepOf)(Ka:↑Fn 5 "word_of_step" ["outline","step"] (spWordOf C)) :
  FnOk P w K mg base CX0 6 f fd ["deed","outline"] (spPlay C):=by
 exists jO
 obtain⟨a,p,d,g,x,N,B,rfl,hd,ht,hP,b4,hf,q⟩:=h;obtain⟨c,v,e1,e2,e4,e3⟩:=id hd;obtain⟨wa,r,rfl,h5⟩:=e4.head;obtain⟨kvs,gvs,S,_⟩:=id hP;obtain⟨⟨dx,y1⟩,y2,y3,y4⟩:=id S;exists _,(b_c (aC (i:=2) jO.nd (aq ao ↑0 ai))
   (b_c (aJ (ax br (aq ao ↑2 ai) ar) (b_1 (am (aB (q_a ar (q_a aW ag))))) b_0)
   (b_c (aJ (ax (km (K:=K) rfl) (aq ao ↑2 ai) (aB (q_a ar (q_a ar ag)))) (b_1 (am (aB (q_a (lJ (bY (bX LB ↑99 ↑1 (q_a (aq ao ↑2 ai) ag))) ar ar) (q_a aW ag))))) b_0)
   (b_c (aC (i:=3) jO.nd (aw Ln ↑99 (q_a ↑0 ag)))
   (b_c (Cz (aJ (t_w (dY (ax br (aq ao ↑2 ai) ar) (dY (ax iB (aq ao ↑2 ai) aW) (dN (fj (bY (bX LB ↑99 ↑1 (q_a (aq ao ↑2 ai) ag)))))))) (b_c (aC (i:=3) jO.nd (aB (q_a ar (q_a (aq ao ↑3 ai) (q_a aW (q_a (aq ao ↑3 ai) (q_a (aq ao ↑3 ai) ag)))))))
   (b_c (bP (mE j9 jg ↑99 ↑1 (q_a ↑3 ag)))
   (b_1 (am (aB (q_a ar (q_a ↑3 ag))))))) b_0))
   (b_c (aC (i:=4) jO.nd (aw Ka ↑99 (q_a ↑1 (q_a ↑3 ag))))
   (b_1 (am (aB (q_a ↑4 (q_a (lJ (ax br ↑4 ar) ↑3 aW) ag)))))))))))
 have e5:=Nb (K:=K) h5;refine(vix rfl (Nb e1) at2 ?_);cases wv x ht with
 |no h =>rw[h]at e5;refine(vix rfl e5 at0 #[rfl,_,rfl,cZ ?_]);exact#[sz rfl,λt gt=>q t _ _ _ _ _ (.idle "done" (.inl rfl) (by unfold stO;rw[h])) (But.of (af gt _)) ((hP.same (af gt _)).up ∅) ad rfl]
 |tb c' hh kk ew hs w1 w2 =>
  rw[ew]at e4;obtain⟨p',qa,r',e,g1,g2,g3⟩:=e4;cases e;have e5:=Nb (K:=K) g1;refine(vix rfl e5 at0 #[rfl,_,rfl,cj w1 ?_]);refine(vix rfl e5 at0 #[sz rfl,λu gu=>?_]);have wu:=af gu (.tup [.str "take",.str "back"]);refine#[u,_,rfl,.inr (Nb ad),rfl,rfl,_,rfl,?_];have ei:(if false=true then !inV (V.str (iW c')) [.str "take",.str "back"]else inV (V.str (iW c')) [.str "take",.str "back"])=true:=w2;rw[ei];refine aK ?_;refine#[_,rfl,p,dx,_,rfl,wu _ _ y1,gJ _ _,vix rfl (Nb (wu _ _ g1)) at1 #[p,d,g,N,B,.ref qa,nk2 hh kk,rfl,hP.same wu,#[qa,rfl,wu _ _ g2],_,rfl,?_]];cases inN N (nk2 hh kk)with
  |true=>exact aK #[sz rfl,λt gt=>q t _ _ _ _ _ (.idle "done" (.inl rfl) hs) (But.of (wu.trans (af gt _))) ((hP.same (wu.trans (af gt _))).up ∅) ad rfl]
  |false=>exact aD #[sz rfl,λt gt=>q t _ _ _ _ _ (.idle "none" (.inr rfl) hs) (But.of (wu.trans (af gt _))) ((hP.same (wu.trans (af gt _))).up ∅) ad rfl]
 |st sd hs w1 w2 =>
  refine(vix rfl e5 at0 #[rfl,_,rfl,cj w1 ?_]);refine(vix rfl e5 at0 #[sz rfl,λu gu=>?_]);have wu:=af gu (.tup [.str "take",.str "back"]);refine#[u,_,rfl,.inr (Nb ad),rfl,rfl,_,rfl,?_];have ei:(if false=true then !inV (V.str (wW x.w)) [.str "take",.str "back"]else inV (V.str (wW x.w)) [.str "take",.str "back"])=false:=w2;rw[ei];refine aD ?_;refine#[_,rfl,a,x,sd,rfl,hd.same wu,hs,λst H2 s2 hst=>?_];have s02:Same H H2:=wu.trans s2;have e52:=Nb (K:=K) (s02 _ _ h5);refine uW (λσ H'=>H'=H2/\σ=[some (.ref a),some (.ref p),some (.ref wa),some st,none]) ?_ ?_
  ·intro RJ hRJ;refine(vix rfl e52 at0 #[rfl,_,rfl,lg (λce=>?_) (λce=>aD (hRJ _ _ #[rfl,rfl]))]);obtain⟨m,ew⟩:∃m,x.w=.put m:=by
    cases e:x.w with
    |put m=>exact#[m,rfl]
    |no=>rw[e]at ce;exact absurd ce (show V.str "none"≠V.str "put" by decide)
    |trn b k=>rw[e]at ht;cases ht
    |itm c h k=>rw[e]at ce;exact absurd ce (show V.str (iW c)≠V.str "put" by cases c<;>decide +kernel)
   rw[ew]at e4;obtain⟨p',pl,e,g1,g2⟩:=e4;cases e;exact(vix rfl (Nb (s02 _ _ g1)) at1 #[rfl,_,rfl,jd rfl (aD (hRJ _ _ #[rfl,rfl]))])
  ·rintro σ H' ⟨rfl,rfl⟩;refine#[_,rfl,_,rfl,p,d,g,N,B,st,sd,rfl,hP.same s02,b4,hst,hf sd hs,λN' H3 eN b3 P3=>?_,λeN w' H3 hw s3=>?_]
   ·refine#[_,rfl,_,rfl,rfl,_,rfl,cZ ?_];have t3:=b3.ts (s02 _ _ y2);exact#[_,rfl,sz rfl,λt gt=>q t _ _ _ _ _ (.done sd N' hs eN) (((But.of s02).trans b3).trans (But.of (af gt _))) (P3.same (af gt _)) ad ((hst.ts t3).ts (Na (af gt _)))]
   ·have nw:V.str w'≠V.str "done":=by rcases hw with rfl|rfl<;>decide +kernel
    refine#[_,rfl,_,rfl,rfl,_,rfl,cj nw ?_];exact#[sz rfl,λt gt=>q t _ _ _ _ _ (.no sd w' hs eN hw) (But.of ((s02.trans s3).trans (af gt _))) ((hP.same ((s02.trans s3).trans (af gt _))).up ∅) ad rfl]
def NmI(H:Hp)(v:V)(k:M5):Prop:=∃b,v=.ref b/\H b=some (.tup (k.map V.int))
abbrev NsI(H:Hp)(vs:Nh)(ks:List M5):Prop:=Paired (NmI H) vs ks
theorem NmI.ts{H H':Hp}{v:V}{k:M5}(x:NmI H v k)(s:TS H H'):NmI H' v k:=by obtain⟨b,h1,h2⟩:=x;exact#[b,h1,s _ _ h2]
theorem NsI.ts{H H':Hp}{vs:Nh}{ks:List M5}(x:NsI H vs ks)(s:TS H H'):NsI H' vs ks:=Paired.mapP x λ_ _ z=>z.ts s
theorem Js{H:Hp}{vs:Nh}{ks:List M5}(x:NsI H vs ks):DtAll H (ks.map λk=>PyData.tuple (k.map .int)) vs/\PyData.canLayAll0 (ks.map λk=>PyData.tuple (k.map .int))=true/\PyData.depthAll (ks.map λk=>PyData.tuple (k.map .int))<=2:=by
 induction x with
 |nil=>exact#[by simp[DtAll],rfl,by simp[PyData.depthAll]]
 |@cons v k _ _ r _ ih =>
  obtain⟨b,rfl,hb⟩:=r;obtain⟨i1,i2,i3⟩:=ih;obtain⟨l1,l2⟩:=nJ k;refine#[?_,?_,?_]
  ·simp only[Z1,DtAll];exact#[_,_,rfl,jE hb,i1]
  ·simp only[Z1,PyData.canLayAll0,i2,PyData.canLay0,l1];rfl
  ·simp only[Z1,PyData.depthAll,PyData.depth];omega
abbrev Rw:=Dd×Str×Option Stp
inductive RowP(H:Hp):V->Rw->Prop
 |mk (t nb:MU) (x:Dd) (w:Str) (sv:V) (so:Option Stp) (e:H t=some (.tup [.ref nb,.str w,sv])) (en:H nb=some (.tup ((nmZ x).map V.int))) (hs:SRo H sv so):RowP H (.ref t) (x,w,so)
theorem SRo.ts{H H':Hp}{v:V}{so:Option Stp}(x:SRo H v so)(t:TS H H'):SRo H' v so:=by
 cases so with
 |none=>exact x
 |some s=>exact SR.ts x t
theorem RowP.ts{H H':Hp}{v:V}{r:Rw}(x:RowP H v r)(t:TS H H'):RowP H' v r:=by
 cases x with
 |mk p nb x w sv so e en hs=>exact .mk p nb x w sv so (t _ _ e) (t _ _ en) (hs.ts t)
inductive Pl(L:LT):Nat->List (List Key)->List Rw->Prop
 |nil:Pl L 0 [] []
 |off {i:Nat} {N:List (List Key)} {R:List Rw} {x:MU×Dd} (hx:L[i]?=some x) (ho:aQ L x.2=true) (p:Pl L i N R):Pl L (i+1) N (R++[(x.2,("off":Str),none)])
 |trn {i:Nat} {N:List (List Key)} {R:List Rw} {x:MU×Dd} {w:Str} (hx:L[i]?=some x) (ho:aQ L x.2=false) (hw:w="turn"\/w="done") (p:Pl L i N R):Pl L (i+1) N (R++[(x.2,w,none)])
 |ply {i:Nat} {N N':List (List Key)} {R:List Rw} {x:MU×Dd} {w:Str} {so:Option Stp} (hx:L[i]?=some x) (ho:aQ L x.2=false) (o:Out N x.2 w so N') (p:Pl L i N R):Pl L (i+1) N' (R++[(x.2,w,so)])
theorem CM{N N':List (List Key)}{x:Dd}{s:Stp}(hs:stO x=some s)(h:stB N s=some N'){k:List Key}(hk:inN N' k=true):inN N k=true\/k=nmK x:=by
 have sn:inN (N++[nmK x]) k=true->inN N k=true\/k=nmK x:=λz=>by rw[qF,Bool.or_eq_true]at z;exact z.symm.imp id ZM
 unfold stO at hs;cases e:x.w with
 |no=>rw[e]at hs;cases hs
 |trn b n=>rw[e]at hs;cases hs
 |put m =>rw[e]at hs;cases hs;cases h;exact sn hk
 |itm c h' i =>
  rw[e]at hs;have two:(∃h i,s=.part h i (nmK x))\/∃c h i,s=.itm c h i:=by
   cases c with
   |take=>cases hs
   |back=>cases hs
   |part=>cases hs;exact .inl #[_,_,rfl]
   |_=>cases hs;exact .inr #[_,_,_,rfl]
  rcases two with⟨a,i,rfl⟩|⟨c,a,i,rfl⟩
  ·have h:(bif inN N (nk2 a i)then some (N++[nmK x])else none)=some N':=h;revert h;cases inN N (nk2 a i)with
   |true=>intro h;cases h;exact sn hk
   |false=>intro h;cases h
  ·have h:(bif (inN N (nk2 a i)&&!fu c)then some N else none)=some N':=h;revert h;cases(inN N (nk2 a i)&&!fu c)with
   |true=>intro h;cases h;exact .inl hk
   |false=>intro h;cases h
theorem Pl.names{L:LT}{i:Nat}{N:List (List Key)}{R:List Rw}(p:Pl L i N R):∀k,inN N k=true->∃j y,j<i/\L[j]?=some y/\k=nmK y.2:=by
 induction p with
 |nil=>exact λk h=>nomatch h
 |off _ _ _ ih=>exact λk h=>let⟨j,y,a,b,c⟩:=ih k h;#[j,y,∅,b,c]
 |trn _ _ _ _ ih=>exact λk h=>let⟨j,y,a,b,c⟩:=ih k h;#[j,y,∅,b,c]
 |@ply i N N' R x w so hx ho o p ih =>
  intro k h;have old:inN N k=true->∃j y,j<i+1/\L[j]?=some y/\k=nmK y.2:=λh=>let⟨j,y,a,b,c⟩:=ih k h;#[j,y,∅,b,c]
  cases o with
  |idle w hw hs=>exact old h
  |no s w hs h' hw=>exact old h
  |done s N' hs h' =>
   rcases CM hs h' h with z|z
   ·exact old z
   ·exact#[i,x,∅,hx,z]
theorem Pl.fresh{n:Nat}{L:LT}{i:Nat}{N:List (List Key)}{R:List Rw}(p:Pl L i N R)(u:UN n (vals L)){x:MU×Dd}(hx:L[i]?=some x){s:Stp}(hs:stO x.2=some s):fresh N s:=by
 have nn:inN N (nmK x.2)=false:=by
  cases z:inN N (nmK x.2)with
  |false=>rfl
  |true =>
   obtain⟨j,y,a,b,c⟩:=p.names _ z;have:=B1 u (Zv hx) (Zv b) c;subst this;have nd:=vq u;have h1:=(Zi.mp hx)
   have h2:=(Zi.mp b)
   exact absurd (h2.2.trans h1.2.symm) (Z7.mp nd j i h2.1 h1.1 a)
 unfold stO at hs;cases e:x.2.w with
 |no=>rw[e]at hs;cases hs
 |trn b n=>rw[e]at hs;cases hs
 |put m=>rw[e]at hs;cases hs;exact nn
 |itm c h k =>
  rw[e]at hs;cases c with
  |take=>cases hs
  |back=>cases hs
  |part=>cases hs;exact nn
  |_=>cases hs;exact trivial
theorem kg{b:Bool}{A B:Prop}(hA:A)(hB:B):if b=true then A else B:=by
 cases b
 ·exact aD hB
 ·exact aK hA
inductive spPlayed(vs:Nh)(H:Hp)(Q:VK)(E:XK):Prop
 |mk (l:MU) (L:LT) (n:Nat) (h0:vs=[.ref l]) (h1:LR H l L) (hz:L.length<=63) (u:UN n (vals L)) (q:∀D ys R N H',Same H H'->Pl L L.length N R->H' D=some (.lst ys)->Paired (RowP H') ys R->Q (.ref D) H'):spPlayed vs H Q E
abbrev og:Stmt:=top 60
abbrev C7:List Str:=["ready","turns","turning","outline","told","deed","outcome"]
theorem cV:FnScope C7 ["ready"] (aj og):= ~~~0
theorem Cb{f C:MU}{fd:M0}(F:Fun K "played" "played" og f fd)(a9:↑Fn 2 "last_turns" ["ready"] mo)(i6:↑Fn 1 "is_turn" ["deed"] kO)(a6:↑Fn 1 "name_of" ["deed"] cE)(i7:↑Fn 1 "turned_name" ["deed"] oF)(j0:↑Fn 2 "is_off" ["deed","turns"] mJ)(Mp:↑Fn 6 "play" ["deed","outline"] (spPlay C))(Kb:↑MkFn 1 C "Plain" ["self"] (rB C)):↑FnOk CX0 7 f fd ["ready"] spPlayed:=by
 exists cV
 obtain⟨l,L,n,rfl,hL,hz,un,q⟩:=h;have ll:(aE L).length=L.length:=by unfold aE;rw[Zb]
 exists _,(b_c (aC (i:=1) cV.nd (aw a9 ↑99 (q_a ↑0 ag)))
   (b_c (jK (j:=2) cV.nd (own:=["deed"]) (#[rfl,⋯,⋯,rfl,trivial]:CompOk _ _ [] []) rfl (bz ↑0) (λ_ _ _ _=>aA (i:=0) (show (["deed"]:List Str).Nodup by decide)) (aM ⋯) (λ_ _ _ _=>(jm (bY (aw i6 ↑99 (q_a ↑0 ag))))) (λ_ _ _ _=>(aw a6 ↑99 (q_a ↑0 ag))))
   (b_c (aC (i:=3) cV.nd (yn Kb ↑99))
   (b_c (aC (i:=4) cV.nd (dX ag))
   (b_c (cH ZS rfl (bz ↑0) (aA (i:=5) cV.nd) (b_c (Cz (aJ (bY (aw j0 ↑99 (q_a ↑5 (q_a ↑1 ag)))) (b_1 (aC (i:=6) cV.nd (aB (q_a ar (q_a aW ag))))) (b_1 (aJ (bY (aw i6 ↑99 (q_a ↑5 ag))) (b_1 (aC (i:=6) cV.nd (aB (q_a (lJ (ax (Ju hr) (aw i7 ↑99 (q_a ↑5 ag)) ↑2) ar ar) (q_a aW ag))))) (b_1 (aC (i:=6) cV.nd (aw Mp ↑99 (q_a ↑5 (q_a ↑3 ag)))))))))
   (b_1 (bP (hG ↑4 (bg gC (aB (q_a (aw a6 ↑99 (q_a ↑5 ag)) ag)) ↑6))))))
   (b_1 (am ↑4)))))))
 refine ay λR0 hR0=>?_;refine#[_,rfl,l,L,rfl,hL,hz,λa tvs H1 s1 ha ht=>hR0 _ _ ?_];refine ay λR0 hR0=>?_;refine#[_,rfl,l,rfl,#[_,Nc (s1 _ _ hL.1)],?_];refine bV (K:=K) (a:=l) (xs:=aE L) (λi ys H'=>Same H1 H'/\ys.length<=i/\∃ks,NsI H' ys ks) ∅ (λ_ _ _ z=>z.2.1) #[Same.refl _,Za _,[],.nil] (λi ys H' z=>Nc (z.1 _ _ (s1 _ _ hL.1))) ?_ ?_
 ·rintro i ys H' v hv ⟨sm,ly,ks,pr⟩ Y hY;obtain⟨y,hy,ym,rfl⟩:=bJ hv;have hdd:=(hL.2 y ym).same (s1.trans sm);refine#[_,rfl,y.1,y.2,rfl,hdd,λH2 s2=>#[_,rfl,?_]];cases isT y.2.w with
  |false=>exact aD (hY _ _ #[sm.trans s2,∅,ks,pr.ts (Na s2)])
  |true=>exact aK #[_,rfl,y.1,y.2,rfl,hdd.same s2,λt H3 s3 e3=>hY _ _ #[sm.trans (s2.trans s3),by rw[Zk];exact y8 ly,ks++[nmZ y.2],cn (NsI.ts pr (Na (s2.trans s3))) #[t,rfl,e3]]]
 rintro nvs tl H2 ⟨sm2,lnv,ks,prn⟩ gtl;have wtl:=af gtl (.lst nvs);have etl:upd H2 tl (.lst nvs) tl=some (.lst nvs):=ad;have s02:Same H (upd H2 tl (.lst nvs)):=s1.trans (sm2.trans wtl);have ha2:=wtl _ _ (sm2 _ _ ha);have prn2:=prn.ts (Na wtl);generalize upd H2 tl (.lst nvs)=H3 at etl s02 ha2 prn2 ⊢;refine hR0 _ _ ?_;refine ay λR0 hR0=>?_;intro x dx nx ndx nex;refine#[x,dx,rfl,ad,λd g H4 fd0 fg0 S4 kp4=>#[rfl,?_]];have s34:Same H3 H4:=λb o e=>kp4 b o (by rw[ah (al e nx),ah (al e ndx)];exact e) (al e nx);have s00:Same H3 (upd (upd H3 dx (.own x)) x (.ins C dx [])):=λb o e=>by rw[ah (al e nx),ah (al e ndx)];exact e
 have d3:H3 d=none:=s00.free fd0;refine hR0 _ _ ?_;refine ay λR0 hR0=>?_;refine#[sz rfl,λto gto=>?_];have wto:=af gto (.lst []);have eto:upd H4 to (.lst []) to=some (.lst []):=ad;have s35:Same H3 (upd H4 to (.lst [])):=s34.trans wto;have O5:PN C (upd H4 to (.lst [])) x d g [] 0:=#[[],[],S4.same wto,λk=>rfl,λk v h=>(nomatch h),Za _]
 have ndt:d≠to:=λz=>by have:=S4.dc;rw[z,gto]at this;cases this
 have t3:H3 to=none:=s34.free gto;generalize upd H4 to (.lst [])=H5 at eto s35 O5 ⊢;refine hR0 _ _ ?_;refine ay λR0 hR0=>?_;refine#[_,rfl,l,rfl,#[_,Nc (s35 _ _ (s02 _ _ hL.1))],?_];refine dj (K:=K) (a:=l) (xs:=aE L) (λi σ H'=>Same H3 H'/\∃ (N:List (List Key)) (ys:Nh) (rs:List Rw) (o5 o6:Option V),PN C H' x d g N (2 * i)/\Pl L i N rs/\H' to=some (.lst ys)/\ys.length=i/\Paired (RowP H') ys rs /\
   σ=[some (.ref l),some (.ref a),some (.ref tl),some (.ref x),some (.ref to),o5,o6])
  #[s35,[],[],[],none,none,O5,.nil,eto,rfl,.nil,rfl] (λi σ H' _ z=>Nc (z.1 _ _ (s02 _ _ hL.1))) ?_ ?_
 ·rintro i v σ H' hv ⟨sm,N,ys,rs,o5,o6,O,pl,hto,ly,pr,rfl⟩ DL hDL;obtain⟨y,hy,ym,rfl⟩:=bJ hv;have hi:i<L.length:=(Zi.mp hy).1;have hd3:=(hL.2 y ym).same s02;have hL3:∀z∈L,DR H3 z.1 z.2:=λz hz=>(hL.2 z hz).same s02;refine uW (λσ H2=>∃ (u:MU) (w:Str) (sv:V) (so:Option Stp) (N':List (List Key)),Same H3 H2/\H2 to=some (.lst ys)/\Paired (RowP H2) ys rs/\PN C H2 x d g N' (2 * (i+1))/\H2 u=some (.tup [.str w,sv])/\SRo H2 sv so /\
    Pl L (i+1) N' (rs++[(y.2,w,so)])/\σ=[some (.ref l),some (.ref a),some (.ref tl),some (.ref x),some (.ref to),some (.ref y.1),some (.ref u)]) ?_ ?_
  ·intro RJ hRJ;refine#[_,rfl,_,rfl,y.1,a,y.2,tvs,L,rfl,hd3.same sm,sm _ _ ha2,ht,λz hz=>(hL3 z hz).same sm,λH6 s6=>#[_,rfl,?_]];have s36:=sm.trans s6;have prs:∀{H7},Same H' H7->Paired (RowP H7) ys rs:=λs7=>Paired.mapP pr λ_ _ z=>z.ts (Na s7);cases c:aQ L y.2 with
   |true=>exact aK #[sz rfl,λu gu=>hRJ _ _ #[u,"off",.non,none,N,s36.trans (af gu _),af gu _ _ _ (s6 _ _ hto),prs (s6.trans (af gu _)),(O.same (s6.trans (af gu _))).up ∅,ad,rfl,.off hy c pl,rfl]]
   |false =>
    refine aD ?_;refine#[_,rfl,y.1,y.2,rfl,hd3.same s36,λH7 s7=>#[_,rfl,?_]];have s67:=s6.trans s7;have s37:=sm.trans s67;cases c2:isT y.2.w with
    |true =>
     refine aK ?_;obtain⟨b,k,ew⟩:∃b k,y.2.w=.trn b k:=by
      cases e:y.2.w with
      |trn b k=>exact#[b,k,rfl]
      |no=>rw[e]at c2;cases c2
      |put m=>rw[e]at c2;cases c2
      |itm b h k=>rw[e]at c2;cases c2
     refine#[_,rfl,y.1,y.2,b,k,rfl,hd3.same s37,ew,λt H8 s8 e8=>?_];have s78:=s67.trans s8;have s38:=sm.trans s78;obtain⟨dt1,dt2,_⟩:=Js (prn2.ts (Na s38));refine#[_,rfl,tl,nvs,.tuple [.int (y.2.h:Int),.int k],_,rfl,Nc (s38 _ _ etl),jE (ns:=[(y.2.h:Int),k]) e8,dt1,by simp[SeqAt.shaped,PyData.canLay0,PyData.canLayAll0,PyData.depth,PyData.depthAll],dt2,_,rfl,?_];refine kg ?_ ?_
     ·exact#[sz rfl,λu gu=>hRJ _ _ #[u,"turn",.non,none,N,s38.trans (af gu _),af gu _ _ _ (s78 _ _ hto),prs (s78.trans (af gu _)),(O.same (s78.trans (af gu _))).up ∅,ad,rfl,.trn hy c (.inl rfl) pl,rfl]]
     ·exact#[sz rfl,λu gu=>hRJ _ _ #[u,"done",.non,none,N,s38.trans (af gu _),af gu _ _ _ (s78 _ _ hto),prs (s78.trans (af gu _)),(O.same (s78.trans (af gu _))).up ∅,ad,rfl,.trn hy c (.inr rfl) pl,rfl]]
    |false =>refine aD ?_;obtain⟨kvs0,gvs0,S0,_⟩:=id O;refine#[_,rfl,_,rfl,y.1,x,d,g,y.2,N,2*i,rfl,hd3.same s37,c2,O.same s67,∅,λs hs=>pl.fresh un hy hs,λt w so N' sv H8 ou b8 o8 e8 so8=>?_];have k8:Same H3 H8:=λb o e=>b8 b o (s37 _ _ e) (al e d3);have t8:=b8.ts (s67 _ _ S0.dc);exact hRJ _ _ #[t,w,sv,so,N',k8,b8 _ _ (s67 _ _ hto) (Z2 ndt),Paired.mapP (prs s67) λ_ _ z=>z.ts t8,o8.up ∅,e8,so8,.ply hy c ou pl,rfl]
  ·rintro σ H2 ⟨u,w,sv,so,N',s32,hto2,pr2,O2,eu,eso,pl2,rfl⟩;refine#[_,rfl,.inl #[rfl,_,Nc hto2],_,rfl,y.1,y.2,rfl,hd3.same s32,λt H6 s6 e6=>#[sz rfl,λy' gy=>?_]];have wy:=af gy (.tup [.ref t]);refine#[_,rfl,y',u,_,_,rfl,rfl,ad,wy _ _ (s6 _ _ eu),sz rfl,λz H7 s7 e7=>?_];have s27:Same H2 H7:=s6.trans (wy.trans s7);refine#[to,_,_,rfl,rfl,s27 _ _ hto2,be ∅,?_];have tl':TS H7 (upd H7 to (.lst (ys++[.ref z]))):=dh λzs e=>by rw[s27 _ _ hto2]at e;cases e
   have T2:TS H2 (upd H7 to (.lst (ys++[.ref z]))):=λb zs e=>tl' _ _ (s27 _ _ e);refine hDL _ _ #[λb o e=>by rw[ah (al e t3)];exact s27 _ _ (s32 _ _ e),N',ys++[.ref z],rs++[(y.2,w,so)],_,_,?_,pl2,ad,by rw[Zk,ly];rfl,cn (Paired.mapP pr2 λ_ _ q=>q.ts T2) (.mk z t y.2 w sv so (tl' _ _ e7) (tl' _ _ (s7 _ _ (wy _ _ e6))) (eso.ts T2)),rfl];obtain⟨kvs',gvs',S',hN',hI',hB'⟩:=O2;obtain⟨⟨dz,z1⟩,z2,z3,z4⟩:=S'.same s27;have ne:∀{b:MU} {o:HO},H7 b=some o->(∀xs,o≠.lst xs)->b≠to:=fun{b o} e n zz=>by rw[zz,s27 _ _ hto2]at e;cases e;exact n _ rfl
   exact#[kvs',gvs',#[#[dz,by rw[ah (ne z1 λxs z=>by cases z)];exact z1],by rw[ah ndt];exact z2,by rw[ah (ne z3 λxs z=>by cases z)];exact z3,z4],hN',λk v h=>(hI' k v h).ts T2,hB']
 ·rintro σ H' ⟨sm,N,ys,rs,o5,o6,O,pl,hto,ly,pr,rfl⟩;rw[ll]at pl;refine hR0 _ _ ?_;exact#[_,rfl,q to ys rs N H' (s02.trans sm) pl hto pr]
inductive WdP(H:Hp):V->Rw->Prop
 |mk (t nb:MU) (x:Dd) (w:Str) (so:Option Stp) (e:H t=some (.tup [.ref nb,.str w])) (en:H nb=some (.tup ((nmZ x).map V.int))):WdP H (.ref t) (x,w,so)
theorem WdP.ts{H H':Hp}{v:V}{r:Rw}(x:WdP H v r)(t:TS H H'):WdP H' v r:=by
 cases x with
 |mk p nb x w so e en=>exact .mk p nb x w so (t _ _ e) (t _ _ en)
inductive StP(H:Hp):V->Stp->Prop
 |mk (t:MU) (nv sv:V) (s:Stp) (e:H t=some (.tup [nv,sv])) (hs:SR H sv s):StP H (.ref t) s
theorem StP.ts{H H':Hp}{v:V}{s:Stp}(x:StP H v s)(t:TS H H'):StP H' v s:=by
 cases x with
 |mk p nv sv s e hs=>exact .mk p nv sv s (t _ _ e) (hs.ts t)
def rD(R:List Rw):List Stp:=R.filterMap λr=>r.2.2
inductive Rn:List (List Key)->List Stp->List (List Key)->Prop
 |nil (N:List (List Key)):Rn N [] N
 |cons {N N' M:List (List Key)} {s:Stp} {ss:List Stp} (f:fresh N s) (h:stB N s=some N') (r:Rn N' ss M):Rn N (s::ss) M
theorem Rn.snoc{N M M':List (List Key)}{ss:List Stp}{s:Stp}(r:Rn N ss M)(f:fresh M s)(h:stB M s=some M'):Rn N (ss++[s]) M':=by
 induction r with
 |nil N=>exact .cons f h (.nil _)
 |cons f1 h1 _ ih=>exact .cons f1 h1 (ih f h)
theorem gG(R:List Rw)(r:Rw):rD (R++[r])=rD R++r.2.2.toList:=by
 unfold rD;rw[List.filterMap_append];cases h:r.2.2 with
 |none=>rw[List.filterMap_cons,h];rfl
 |some s=>rw[List.filterMap_cons,h];rfl
theorem Pl.rn{n:Nat}{L:LT}(u:UN n (vals L)){i:Nat}{N:List (List Key)}{R:List Rw}(p:Pl L i N R):Rn [] (rD R) N:=by
 induction p with
 |nil=>exact .nil _
 |off _ _ _ ih=>rw[gG];simpa using ih
 |trn _ _ _ _ ih=>rw[gG];simpa using ih
 |ply hx ho o p ih =>
  rw[gG];cases o with
  |idle w hw hs=>simpa using ih
  |no s w hs h' hw=>simpa using ih
  |done s N' hs h'=>exact ih.snoc (p.fresh u hx hs) h'
theorem Pl.len{L:LT}{i:Nat}{N:List (List Key)}{R:List Rw}(p:Pl L i N R):R.length=i:=by
 induction p with
 |nil=>rfl
 |off _ _ _ ih=>rw[Zk,ih];rfl
 |trn _ _ _ _ ih=>rw[Zk,ih];rfl
 |ply _ _ _ _ ih=>rw[Zk,ih];rfl
inductive spWords(vs:Nh)(H:Hp)(Q:VK)(E:XK):Prop
 |mk (l:MU) (L:LT) (n:Nat) (h0:vs=[.ref l]) (h1:LR H l L) (hz:L.length<=63) (u:UN n (vals L)) (q:∀D ys R N H',Same H H'->Pl L L.length N R->H' D=some (.lst ys)->Paired (WdP H') ys R->Q (.ref D) H'):spWords vs H Q E
abbrev kL:Stmt:=top 54
abbrev yO:List Str:=["ready"]
theorem xt:FnScope yO ["ready"] (aj kL):= ~~~0
theorem xj{f:MU}{fd:M0}(F:Fun K "words_of" "words_of" kL f fd)(Kc:↑Fn 7 "played" ["ready"] spPlayed):↑FnOk CX0 8 f fd ["ready"] spWords:=by
 exists xt
 obtain⟨l,L,n,rfl,hL,hz,un,q⟩:=h;exists _,(b_1 (am (cK (own:=["name","word","step"]) (#[rfl,⋯,⋯,rfl,trivial]:CompOk _ _ [] []) rfl (bz (aw Kc ↑99 (q_a ↑0 ag))) (λ_ _ _ _=>il (K:=K) (n:=3) rfl rfl (bq (aA (i:=0) (show(["name","word","step"]:List Str).Nodup by decide)) (bq (aA (i:=1) (show(["name","word","step"]:List Str).Nodup by decide)) (bq (aA (i:=2) (show(["name","word","step"]:List Str).Nodup by decide)) eV)))) (im (bu (aM ⋯) aP (bu (aM ⋯) aP (bu (aM ⋯) aP fR bQ) (ci aP bQ)) (ci aP (ci aP bQ)))) (λ_ _ _ _=>ip) (λ_ _ _ _=>(aB (q_a ↑0 (q_a ↑1 ag)))))))
 refine#[_,rfl,l,L,n,rfl,hL,hz,un,λa ys R N H1 s1 pl ea pr=>#[a,rfl,#[_,Nc ea],?_]];have ln:ys.length=L.length:=(ZH pr).trans pl.len;refine bV (λi zs H'=>Same H1 H'/\zs.length<=i/\Paired (WdP H') zs (R.take i)) ∅ (λ_ _ _ z=>z.2.1) #[Same.refl _,Za _,.nil] (λi zs H' z=>Nc (z.1 _ _ ea)) ?_ ?_
 ·rintro i zs H' v hv ⟨sm,lz,pz⟩ Y hY;obtain⟨r,hr',rp⟩:=bW pr hv;cases rp with
  |mk t nb x w sv so e1 e2 e3 =>refine#[t,_,rfl,Nb (sm _ _ e1),rfl,_,_,rfl,_,_,rfl,_,_,rfl,rfl,?_];refine#[_,rfl,_,rfl,sz rfl,λu gu=>hY _ _ #[sm.trans (af gu _),by rw[Zk];exact y8 lz,?_]];rw[bC hr'];exact cn (Paired.mapP pz λ_ _ z=>z.ts (Na (af gu _))) (.mk u nb x w so ad ((sm.trans (af gu _)) _ _ e2))
 ·rintro zs b H' ⟨sm,lz,pz⟩ gb;rw[(ZH pr),ZQ]at pz;exact q b zs R N _ (s1.trans (sm.trans (af gb _))) pl ad (Paired.mapP pz λ_ _ z=>z.ts (Na (af gb _)))
inductive spSteps(vs:Nh)(H:Hp)(Q:VK)(E:XK):Prop
 |mk (l:MU) (L:LT) (n:Nat) (h0:vs=[.ref l]) (h1:LR H l L) (hz:L.length<=63) (u:UN n (vals L)) (q:∀D ys ss N H',Same H H'->Rn [] ss N->ss.length<=63->H' D=some (.lst ys)->Paired (StP H') ys ss->Q (.ref D) H'):spSteps vs H Q E
abbrev kK:Stmt:=top 55
abbrev yN:List Str:=["ready"]
theorem xr:FnScope yN ["ready"] (aj kK):= ~~~0
theorem xi{f:MU}{fd:M0}(F:Fun K "steps_of" "steps_of" kK f fd)(Kc:↑Fn 7 "played" ["ready"] spPlayed):↑FnOk CX0 8 f fd ["ready"] spSteps:=by
 exists xr
 obtain⟨l,L,n,rfl,hL,hz,un,q⟩:=h;exists _,(b_1 (am (cK (own:=["name","word","step"]) (#[rfl,⋯,⋯,rfl,trivial]:CompOk _ _ [] []) rfl (bz (aw Kc ↑99 (q_a ↑0 ag))) (λ_ _ _ _=>il (K:=K) (n:=3) rfl rfl (bq (aA (i:=0) (show(["name","word","step"]:List Str).Nodup by decide)) (bq (aA (i:=1) (show(["name","word","step"]:List Str).Nodup by decide)) (bq (aA (i:=2) (show(["name","word","step"]:List Str).Nodup by decide)) eV)))) (im (bu (aM ⋯) aP (bu (aM ⋯) aP (bu (aM ⋯) aP fR bQ) (ci aP bQ)) (ci aP (ci aP bQ)))) (λ_ _ _ _=>(jm (ax iB ↑2 aW))) (λ_ _ _ _=>(aB (q_a ↑0 (q_a ↑2 ag)))))))
 refine#[_,rfl,l,L,n,rfl,hL,hz,un,λa ys R N H1 s1 pl ea pr=>#[a,rfl,#[_,Nc ea],?_]];have ln:ys.length=L.length:=(ZH pr).trans pl.len;refine bV (λi zs H'=>Same H1 H'/\zs.length<=i/\Paired (StP H') zs (rD (R.take i))) ∅ (λ_ _ _ z=>z.2.1) #[Same.refl _,Za _,.nil] (λi zs H' z=>Nc (z.1 _ _ ea)) ?_ ?_
 ·rintro i zs H' v hv ⟨sm,lz,pz⟩ Y hY;obtain⟨r,hr',rp⟩:=bW pr hv;cases rp with
  |mk t nb x w sv so e1 e2 e3 =>
   refine#[t,_,rfl,Nb (sm _ _ e1),rfl,_,_,rfl,_,_,rfl,_,_,rfl,rfl,?_];cases so with
   |none =>have e3:sv=.non:=e3;subst e3;refine#[_,rfl,rfl,_,rfl,jd rfl (hY _ _ #[sm,∅,?_])];rw[bC hr',gG];simpa using pz
   |some sd =>
    have e3:SR H1 sv sd:=e3;obtain⟨st,rfl⟩:∃st,sv=.ref st:=by cases e3<;>exact#[_,rfl]
    refine#[_,rfl,rfl,_,rfl,tO nofun #[_,rfl,_,rfl,sz rfl,λu gu=>hY _ _ #[sm.trans (af gu _),by rw[Zk];exact y8 lz,?_]]];rw[bC hr',gG];exact cn (Paired.mapP pz λ_ _ z=>z.ts (Na (af gu _))) (.mk u _ _ sd ad (e3.ts (Na (sm.trans (af gu _)))))
 ·rintro zs b H' ⟨sm,lz,pz⟩ gb;rw[(ZH pr),ZQ]at pz;refine q b zs (rD R) N _ (s1.trans (sm.trans (af gb _))) (pl.rn un) ?_ ad (Paired.mapP pz λ_ _ z=>z.ts (Na (af gb _)));rw[<-ZH pz];omega
inductive spStepped(vs:Nh)(H:Hp)(Q:VK)(E:XK):Prop
 |mk (l:MU) (xs:Nh) (ss:List Stp) (N:List (List Key)) (h0:vs=[.ref l]) (h1:H l=some (.lst xs)) (h2:Paired (SR H) xs ss) (hz:ss.length<=63) (r:Rn [] ss N) (q:∀p H',Same H H'->Q (.ref p) H'):spStepped vs H Q E
abbrev mi:Stmt:=top 74
abbrev A0:List Str:=["steps","outline","step"]
theorem kM:FnScope A0 ["steps"] (aj mi):= ~~~0
theorem Ab{f C cN cB:MU}{fd:M0}(F:Fun K "stepped" "stepped" mi f fd)(Kb:↑MkFn 1 C "Plain" ["self"] (rB C))(j9:↑MFnX 4 C "step" ["self","step"] (spStepX C cN cB)):↑FnOk CX0 5 f fd ["steps"] spStepped:=by
 exists kM
 obtain⟨l,xs,ss,N,rfl,hl,px,hz,rn,q⟩:=h;have ll:=ZH px;exists _,(b_c (aC (i:=1) kM.nd (yn Kb ↑99))
   (b_c (cH ZS rfl (bz ↑0) (aA (i:=2) kM.nd) (b_1 (bP (mE j9 jg ↑99 ↑1 (q_a ↑2 ag)))))
   (b_1 (am ↑1))))
 intro x dx nx ndx nex;refine#[x,dx,rfl,ad,λd g H4 fd0 fg0 S4 kp4=>#[rfl,?_]];have s34:Same H H4:=λb o e=>kp4 b o (by rw[ah (al e nx),ah (al e ndx)];exact e) (al e nx);have s00:Same H (upd (upd H dx (.own x)) x (.ins C dx [])):=λb o e=>by rw[ah (al e nx),ah (al e ndx)];exact e
 have d3:H d=none:=s00.free fd0;refine#[_,rfl,l,rfl,#[_,Nc (s34 _ _ hl)],?_];refine dj (K:=K) (a:=l) (xs:=xs) (λi σ H'=>Same H H'/\∃(M:List (List Key)) (o2:Option V),PN C H' x d g M (2*i)/\Rn M (ss.drop i) N/\σ=[some (.ref l),some (.ref x),o2])
  #[s34,[],none,#[[],[],S4,λk=>rfl,λk v h=>(nomatch h),Za _],rn,rfl] (λi σ H' _ z=>Nc (z.1 _ _ hl)) ?_ ?_
 ·rintro i v σ H' hv ⟨sm,M,o2,O,r,rfl⟩ DL hDL;obtain⟨sd,hsi,hst⟩:=bW px hv;have hi:i<ss.length:=(Zi.mp hsi).1;have hdr:ss.drop i=sd::ss.drop (i+1):=by rw[List.drop_eq_getElem_cons hi];rw[Zj hi]at hsi;rw[Zn hsi]
  rw[hdr]at r;cases r with
  |@cons _ M' _ _ _ f h r =>
   obtain⟨kvs,gvs,S,_⟩:=id O;obtain⟨⟨dz,y1⟩,y2,y3,y4⟩:=id S;refine#[_,rfl,x,dz,_,rfl,y1,gJ _ _,_,rfl,x,d,g,M,2*i,v,sd,rfl,O,∅,hst.ts (Na sm),f,λN' H5 eN b5 P5=>?_,λeN=>?_]
   ·rw[h]at eN;cases eN;exact hDL _ _ #[λb o e=>b5 b o (sm _ _ e) (al e d3),M',_,P5.up ∅,r,rfl]
   ·rw[h]at eN;cases eN
 ·rintro σ H' ⟨sm,M,o2,O,r,rfl⟩;exact#[_,rfl,q x H' sm]
def dL(x y:Dd):Bool:=!decide (nmZ y=nmZ x)&&decide (aI y<=au x.ns y.h)
theorem Bg{n:Nat}{L:LT}(c:Chn n L):∀x∈L,∀y∈L,nmZ x.2=nmZ y.2\/dL x.2 y.2=true\/dL y.2 x.2=true:=by
 have one:∀{C:LT} {x:MU×Dd},Chn n C->x.2.ns=aF n (vals (C++[x]))->∀y∈C,nmZ x.2=nmZ y.2\/dL x.2 y.2=true:=fun{C x} c e y hy=>by
  by_cases z:nmZ x.2=nmZ y.2
  ·exact .inl z
  ·refine .inr ?_;have h1:=(c.own y hy).2;have hh:=(c.fit y hy).hd;unfold dL;rw[decide_eq_false (λq=>z q.symm),eO e hh,decide_eq_true (by split<;>omega)];rfl
 induction c with
 |nil=>exact λx hx=>nomatch hx
 |@snoc C x c f e ih =>
  intro a ha b hb;rcases Zs.mp ha with ha|ha
  ·rcases Zs.mp hb with hb|hb
   ·exact ih a ha b hb
   ·rw[Zd.mp hb];exact(one c e a ha).imp (λz=>z.symm) .inr
  ·rw[Zd.mp ha];rcases Zs.mp hb with hb|hb
   ·exact(one c e b hb).imp id .inl
   ·rw[Zd.mp hb];exact .inl rfl
inductive spHears(vs:Nh)(H:Hp)(Q:VK)(E:XK):Prop
 |mk (a b:MU) (x y:Dd) (h0:vs=[.ref a,.ref b]) (h1:DR H a x) (h2:H b=some (.tup ((nmZ y).map V.int))) (hl:y.h<x.ns.length) (q:∀H',Same H H'->Q (.bl (dL x y)) H'):spHears vs H Q E
abbrev qX:Stmt:=top 65
abbrev Fc:List Str:=["deed","name"]
theorem Em:FnScope Fc ["deed","name"] (aj qX):= ~~~0
theorem DP{f:MU}{fd:M0}(F:Fun K "hears" "hears" qX f fd)(a6:↑Fn 1 "name_of" ["deed"] cE)(Ks:↑Fn 1 "tells" ["clock","name"] rC):↑FnOk CX0 2 f fd ["deed","name"] spHears:=by
 exists Em
 obtain⟨a,b,x,y,rfl,hd,hb,hl,q⟩:=h;exists _,(b_1 (am (cG (cA (pA hr.units) ↑1 (aw a6 ↑99 (q_a ↑0 ag))) (cP (aw Ks ↑99 (q_a (aq ao ↑0 ai) (q_a ↑1 ag)))))))
 refine#[_,rfl,_,rfl,a,x,rfl,hd,λp H1 s1 e1=>?_];refine#[b,p,nmZ y,nmZ x,rfl,rfl,s1 _ _ hb,e1,_,rfl,?_];unfold dL at q;by_cases c:nmZ y=nmZ x
 ·rw[decide_eq_true c]at q ⊢;exact aD (q H1 s1)
 ·rw[decide_eq_false c]at q ⊢;refine aK ?_;obtain⟨c',v,f1,f2,f3,f4,f5⟩:=hd.same s1;exact#[_,rfl,a,_,_,_,rfl,rfl,Nb f1,at1,_,rfl,c',b,_,(y.h:Int),aI y,au x.ns y.h,rfl,f2,s1 _ _ hb,vh hl,q H1 s1]
inductive spApart(vs:Nh)(H:Hp)(Q:VK)(E:XK):Prop
 |mk (a b:MU) (x y:Dd) (h0:vs=[.ref a,.ref b]) (h1:DR H a x) (h2:DR H b y) (hx:y.h<x.ns.length) (hy:x.h<y.ns.length) (hh:nmZ x=nmZ y\/dL x y=true\/dL y x=true) (q:∀H',Same H H'->Q (.bl false) H'):spApart vs H Q E
abbrev qW:Stmt:=top 66
abbrev Fb:List Str:=["one","other"]
theorem El:FnScope Fb ["one","other"] (aj qW):= ~~~0
theorem DO{f:MU}{fd:M0}(F:Fun K "apart" "apart" qW f fd)(a6:↑Fn 1 "name_of" ["deed"] cE)(Ke:↑Fn 2 "hears" ["deed","name"] spHears):↑FnOk CX0 3 f fd ["one","other"] spApart:=by
 exists El
 obtain⟨a,b,x,y,rfl,hd,hb,hx,hy,hh,q⟩:=h;exists _,(b_c (aJ (ax (B6 hr.units) (aw a6 ↑99 (q_a ↑0 ag)) (aw a6 ↑99 (q_a ↑1 ag))) (b_1 (am eJ)) b_0)
   (b_1 (am (cG (tS (aw Ke ↑99 (q_a ↑0 (q_a (aw a6 ↑99 (q_a ↑1 ag)) ag)))) (cP (tS (aw Ke ↑99 (q_a ↑1 (q_a (aw a6 ↑99 (q_a ↑0 ag)) ag)))))))))
 refine#[_,rfl,a,x,rfl,hd,λp H1 s1 e1=>?_];refine#[_,rfl,b,y,rfl,hb.same s1,λp2 H2 s2 e2=>?_];have s02:=s1.trans s2;refine#[p,p2,nmZ x,nmZ y,rfl,rfl,s2 _ _ e1,e2,_,rfl,lg (λ_=>q H2 s02) (λc=>?_)];refine#[_,rfl,_,rfl,b,y,rfl,hb.same s02,λp3 H3 s3 e3=>?_];have s03:=s02.trans s3;refine#[a,p3,x,y,rfl,hd.same s03,e3,hx,λH4 s4=>#[_,rfl,_,rfl,?_]];have s04:=s03.trans s4;cases z:dL x y with
 |true=>exact aD (q H4 s04)
 |false =>
  refine aK ?_;refine#[_,rfl,_,rfl,a,x,rfl,hd.same s04,λp5 H5 s5 e5=>?_];have s05:=s04.trans s5;refine#[b,p5,y,x,rfl,hb.same s05,e5,hy,λH6 s6=>#[_,rfl,?_]];have z2:dL y x=true:=by
   rcases hh with h|h|h
   ·exact absurd h c
   ·rw[z]at h;cases h
   ·exact h
  rw[z2];exact q H6 (s05.trans s6)
theorem vV(w:Wh):SeqAt.shaped (wD w)=true:=by obtain⟨h1,h2⟩:=EQ (w:=w) trivial;unfold SeqAt.shaped;rw[Zw];exact#[h1,decide_eq_true ∅]
inductive NoAp(x y:Dd):Prop
 |mk (hx:y.h<x.ns.length) (hy:x.h<y.ns.length) (hh:nmZ x=nmZ y\/dL x y=true\/dL y x=true):NoAp x y
inductive spGain(vs:Nh)(H:Hp)(Q:VK)(E:XK):Prop
 |mk (a b qa:MU) (wv:V) (x y:Dd) (h i:Int) (h0:vs=[.ref a,.ref b,.ref qa,wv]) (h1:DR H a x) (h2:DR H b y) (h3:H qa=some (.tup ([h,i].map V.int))) (na:NoAp x y) (q:∀r H',Same H H'->Q (.bl r) H'):spGain vs H Q E
abbrev kF:Stmt:=top 77
abbrev yH:List Str:=["deed","taking","item","whole"]
theorem xl:FnScope yH ["deed","taking","item","whole"] (aj kF):= ~~~0
theorem wZ{f C:MU}{fd:M0}(F:Fun K "gainsays" "gainsays" kF f fd)(a6:↑Fn 1 "name_of" ["deed"] cE)(Ke:↑Fn 2 "hears" ["deed","name"] spHears)(Kv:↑Fn 3 "apart" ["one","other"] spApart)(KC:↑Fn 1 "touched_by" ["deed"] rA)(g0:↑MFn 1 C "at_or_beneath" ["self","one","other"] spAob)(MA:mg "any" = none):↑FnOk CX0 4 f fd ["deed","taking","item","whole"] spGain:=by
 exists xl
 obtain⟨a,b,qa,wv,x,y,h,i,rfl,hd,hb,hq,⟨hx,hy,hh⟩,q⟩:=h;obtain⟨c,v,e1,e2,e4,e3⟩:=id hd;exists _,(b_c (aJ (t_w (dY (ax (ET hr.units) (aq ao ↑0 ai) (aB (q_a ar (q_a ↑2 ag)))) (dN (bY (aw Ke ↑99 (q_a ↑0 (q_a (aw a6 ↑99 (q_a ↑1 ag)) ag))))))) (b_1 (am eJ)) b_0)
   (b_1 (am (cG (aw Kv ↑99 (q_a ↑0 (q_a ↑1 ag))) (cP (q_B (IY rfl) MA PyProof.Rows.boot_any (q_a (cK (own:=["each"]) (#[rfl,⋯,⋯,rfl,#[rfl,rfl,#[rfl,rfl,trivial]]]:CompOk _ _ [3,2] ["whole","item"]) rfl (bz (aw KC ↑99 (q_a ↑0 ag))) (λ_ _ _ _=>aA (i:=0) (show (["each","whole","item"]:List Str).Nodup by decide)) (aM ⋯) (λ_ _ _ _=>ip) (λ_ _ _ _=>(bX g0 ↑99 ↑1 (q_a ↑0 (q_a ↑2 ag))))) ag)))))))
 refine(vix rfl (Nb e1) at2 ?_);refine#[_,rfl,sz rfl,λt gt=>?_];have wt:=af gt (.tup [.str "back",.ref qa]);have et:upd H t (.tup [.str "back",.ref qa]) t=some (.tup [.str "back",.ref qa]):=ad;generalize upd H t (.tup [.str "back",.ref qa])=H1 at wt et ⊢;have dt:Dt H1 (wD (.itm .back h i)) (.ref t):=by
  have hn:Dt H1 (nD h i) (.ref qa):=by unfold nD;simp only[Dt,DtAll];exact#[qa,_,rfl,.inl (wt _ _ hq),_,_,rfl,rfl,_,_,rfl,rfl,rfl]
  show Dt H1 (.tuple [.str "back",nD h i]) (.ref t);simp only[Dt,DtAll];exact#[t,_,rfl,.inl et,_,_,rfl,rfl,_,_,rfl,hn,rfl]
 have rest:∀{H2:Hp},Same H H2->∀{RR:VK},(∀H',Same H H'->RR (.bl false) H')->spApart [.ref a,.ref b] H2 RR E0:=fun{H2} s2 {RR} k=>#[a,b,x,y,rfl,hd.same s2,hb.same s2,hx,hy,hh,λH' s'=>k H' (s2.trans s')]
 refine#[_,_,(e4.ts (Na wt)).dt,dt,vV _,vV _,_,rfl,kg ?_ ?_]
 ·refine#[_,rfl,_,rfl,b,y,rfl,hb.same wt,λp H2 s2 e2=>?_];have s02:=wt.trans s2;refine#[a,p,x,y,rfl,hd.same s02,e2,hx,λH3 s3=>#[_,rfl,kg (q true H3 (s02.trans s3)) ?_]];exact#[_,rfl,_,rfl,rest (s02.trans s3) λH' s'=>#[_,rfl,aD (q false H' s')]]
 ·exact#[_,rfl,_,rfl,rest wt λH' s'=>#[_,rfl,aD (q false H' s')]]
inductive spFirst(vs:Nh)(H:Hp)(Q:VK)(E:XK):Prop
 |mk (b qa l:MU) (wv:V) (y:Dd) (M:LT) (h i:Int) (h0:vs=[.ref b,.ref qa,.ref l,wv]) (h1:DR H b y) (h2:H qa=some (.tup ([h,i].map V.int))) (h3:LR H l M) (na:∀x∈M,NoAp x.2 y)
   (q0:∀H',Same H H'->Q .non H') (q1:∀x nb H',x∈M->Same H H'->H' nb=some (.tup ((nmZ x.2).map V.int))->Q (.ref nb) H'):spFirst vs H Q E
abbrev eY:Stmt:=top 76
abbrev mQ:List Str:=["taking","item","lasting","whole","deed"]
theorem gF:FnScope mQ ["taking","item","lasting","whole"] (aj eY):= ~~~0
theorem lF{f:MU}{fd:M0}(F:Fun K "first_gainsayer" "first_gainsayer" eY f fd)(a6:↑Fn 1 "name_of" ["deed"] cE)(La:↑Fn 4 "gainsays" ["deed","taking","item","whole"] spGain):↑FnOk CX0 5 f fd ["taking","item","lasting","whole"] spFirst:=by
 exists gF
 obtain⟨b,qa,l,wv,y,M,h,i,rfl,hb,hq,hM,na,q0,q1⟩:=h;exists _,(b_c (cH ZS rfl (bz ↑2) (aA (i:=4) gF.nd) (b_1 (aJ (bY (aw La ↑99 (q_a ↑4 (q_a ↑0 (q_a ↑1 (q_a ↑3 ag)))))) (b_1 (am (aw a6 ↑99 (q_a ↑4 ag)))) b_0)))
   (b_1 (am aW)))
 refine#[_,rfl,l,rfl,#[_,Nc hM.1],?_];refine nC (K:=K) (a:=l) (xs:=aE M) (λi σ H'=>Same H H'/\∃o,σ=[some (.ref b),some (.ref qa),some (.ref l),some wv,o]) #[Same.refl _,none,rfl] (λi σ H' _ z=>Nc (z.1 _ _ hM.1)) (λj v σ H' hv hP=>?_) (λσ H' hP=>?_)
 ·obtain⟨sm,o,rfl⟩:=hP;obtain⟨x,hx,xm,rfl⟩:=bJ hv;refine#[_,rfl,_,rfl,_,rfl,_,rfl,x.1,b,qa,wv,x.2,y,h,i,rfl,(hM.2 x xm).same sm,hb.same sm,sm _ _ hq,na x xm,λr H2 s2=>#[_,rfl,kg ?_ ?_]]
  ·exact#[_,rfl,x.1,x.2,rfl,(hM.2 x xm).same (sm.trans s2),λnb H3 s3 e3=>q1 x nb H3 xm (sm.trans (s2.trans s3)) e3]
  ·exact#[sm.trans s2,_,rfl]
 ·obtain⟨sm,o,rfl⟩:=hP;exact q0 H' sm
inductive spTaken(vs:Nh)(H:Hp)(Q:VK)(E:XK):Prop
 |mk (a:MU) (x:Dd) (c:Ik) (h i:Int) (h0:vs=[.ref a]) (h1:DR H a x) (h2:x.w=.itm c h i) (hc:c=.take\/c=.join) (q:∀qa,H qa=some (.tup ([h,i].map V.int))->Q (.ref qa) H):spTaken vs H Q E
abbrev iT:Stmt:=top 75
abbrev uq:List Str:=["deed"]
theorem tJ:FnScope uq ["deed"] (aj iT):= ~~~0
theorem tq{f:MU}{fd:M0}(F:Fun K "taken_item" "taken_item" iT f fd):↑FnOk CX0 1 f fd ["deed"] spTaken:=by
 exists tJ
 obtain⟨a,x,c,h,i,rfl,hd,ew,hc,q⟩:=h;obtain⟨c',v,e1,e2,e4,e3⟩:=id hd;rw[ew]at e4;obtain⟨p,qa,r,rfl,g1,g2,g3⟩:=e4;exists _,(b_1 (am (lJ (ax br (aq ao (aq ao ↑0 ai) ai) ar) (aq ao (aq ao ↑0 ai) ai) (aq ao (aq ao ↑0 ai) ai))))
 rcases hc with rfl|rfl
 ·exact wC rfl (Nb e1) at2 (Nb g1) at0 #[rfl,_,rfl,cZ (wC rfl (Nb e1) at2 (Nb g1) at1 (q qa g2))]
 ·exact wC rfl (Nb e1) at2 (Nb g1) at0 #[rfl,_,rfl,cj ⋯ (wC rfl (Nb e1) at2 (Nb g1) at2 (q qa g2))]
def wkv(R:List Rw):Ng:=R.map λr=>(nmK r.1,V.str r.2.1)
theorem rY:∀(qs acc:Ng),(∀q∈qs,∃w:Str,q.2=.str w)->∀k,((∃q∈qs,q.1=k)\/∃w:Str,aH acc k=some (.str w))->∃w:Str,aH (cc acc qs) k=some (.str w)
 | [],acc,_,k,h=>by
  rcases h with⟨q,hq,_⟩|h
  ·cases hq
  ·exact h
 |q::qs,acc,hs,k,h=>by
  refine rY qs (bh acc q.1 q.2) (λz hz=>hs z (ZG _ hz)) k ?_;obtain⟨w,hw⟩:=hs q Ys;by_cases c:k=q.1
  ·exact .inr #[w,by rw[dI,MO c,hw]]
  ·rcases h with⟨z,hz,e⟩|⟨w',h⟩
   ·rcases Zl.mp hz with rfl|hz
    ·exact absurd e.symm c
    ·exact .inl #[z,hz,e]
   ·exact .inr #[w',by rw[dI,MN c];exact h]
theorem Pl.mem{L:LT}{i:Nat}{N:List (List Key)}{R:List Rw}(p:Pl L i N R):R.map (·.1)=(vals L).take i:=by
 have st:∀{i:Nat} {R:List Rw} {x:MU×Dd} {w:Str} {so:Option Stp},L[i]?=some x->R.map (·.1)=(vals L).take i->(R++[(x.2,w,so)]).map (·.1)=(vals L).take (i+1):=fun{i R x w so} hx ih=>by
  have hv:(vals L)[i]?=some x.2:=by unfold vals;rw[ZE,hx];rfl
  rw[Zy,ih,bC hv];rfl
 induction p with
 |nil=>rfl
 |off hx _ _ ih=>exact st hx ih
 |trn hx _ _ _ ih=>exact st hx ih
 |ply hx _ _ _ ih=>exact st hx ih
theorem IS{L:LT}{N:List (List Key)}{R:List Rw}(p:Pl L L.length N R){x:MU×Dd}(hx:x∈L):∃w:Str,aH (cc [] (wkv R)) (nmK x.2)=some (.str w):=by
 refine rY _ _ (λq hq=>?_) _ (.inl ?_)
 ·obtain⟨r,_,rfl⟩:=Zm.mp hq;exact#[_,rfl]
 ·have h1:x.2∈R.map (·.1):=by rw[p.mem,<-kQ,ZQ];exact Zm.mpr #[x,hx,rfl]
  obtain⟨r,hr,e⟩:=Zm.mp h1;exact#[_,Zm.mpr #[r,hr,rfl],by show nmK r.1=_;rw[e]]
theorem IR{H:Hp}{ys:Nh}{R:List Rw}(pr:Paired (WdP H) ys R):Paired (uw H) ys (wkv R):=by
 induction pr with
 |nil=>exact .nil
 |cons h _ ih =>
  refine .cons ?_ ih;cases h with
  |mk t nb x w so e en=>exact#[t,nb,rfl,e,en]
inductive TkP(H:Hp):V->Prop
 |mk (t nb:MU) (iv bv:V) (x:Dd) (e:H t=some (.tup [.ref nb,iv,bv])) (en:H nb=some (.tup ((nmZ x).map V.int))):TkP H (.ref t)
theorem TkP.ts{H H':Hp}{v:V}(x:TkP H v)(s:TS H H'):TkP H' v:=by
 cases x with
 |mk t nb iv bv x e en=>exact .mk t nb iv bv x (s _ _ e) (s _ _ en)
theorem rM:bootBuiltins "dict" = some (.type "dict"):=⋯
theorem uG{n:Nat}{L:LT}(c:Chn n L){x y:MU×Dd}(hx:x∈L)(hy:y∈L):NoAp x.2 y.2:=#[by rw[(c.fit x hx).len];exact(c.fit y hy).hd,by rw[(c.fit y hy).len];exact(c.fit x hx).hd,Bg c x hx y hy]
theorem Jk(w:Wh):inV (.str (wW w)) [.str "take",.str "join"]=true->∃c h i,w=.itm c h i/\(c=.take\/c=.join):=by
 cases w with
 |no=>exact(show inV (.str "none") [.str "take",.str "join"]=true->_ from λz=>absurd z ⋯)
 |put m=>exact(show inV (.str "put") [.str "take",.str "join"]=true->_ from λz=>absurd z ⋯)
 |trn b k=>exact(show inV (.str (ofW b)) [.str "take",.str "join"]=true->_ from λz=>absurd z (by cases b<;>decide +kernel))
 |itm c h i =>
  intro z;have z:inV (.str (iW c)) [.str "take",.str "join"]=true:=z;refine#[c,h,i,rfl,?_];cases c with
  |take=>exact .inl rfl
  |join=>exact .inr rfl
  |_=>exact absurd z ⋯
inductive spTakings(vs:Nh)(H:Hp)(Q:VK)(E:XK):Prop
 |mk (l:MU) (L:LT) (n:Nat) (h0:vs=[.ref l]) (h1:LR H l L) (hz:L.length<=63) (u:UN n (vals L)) (c:Chn n L) (q:∀D ys H',Same H H'->H' D=some (.lst ys)->ys.length<=63->(∀v∈ys,TkP H' v)->Q (.ref D) H'):spTakings vs H Q E
abbrev iU:Stmt:=top 73
abbrev ur:List Str:=["ready","words","whole","lasting","takings","deed","item"]
theorem cD:FnScope ur ["ready"] (aj iU):= ~~~0
theorem tu{f:MU}{fd:M0}(F:Fun K "takings_of" "takings_of" iU f fd)(l7:↑Fn 8 "words_of" ["ready"] spWords)(Lb:↑Fn 8 "steps_of" ["ready"] spSteps)(Lo:↑Fn 5 "stepped" ["steps"] spStepped)(a6:↑Fn 1 "name_of" ["deed"] cE)(KE:↑Fn 1 "taken_item" ["deed"] spTaken)(n5:↑Fn 5 "first_gainsayer" ["taking","item","lasting","whole"] spFirst)(K1:mg "dict" = none):↑FnOk CX0 9 f fd ["ready"] spTakings:=by
 exists cD
 obtain⟨l,L,n,rfl,hL,hz,un,ch,q⟩:=h;have ll:(aE L).length=L.length:=by unfold aE;rw[Zb]
 exists _,(b_c (aC (i:=1) cD.nd (ko (xE rfl hr.units) K1 rM (q_a (aw l7 ↑99 (q_a ↑0 ag)) ag)))
   (b_c (aC (i:=2) cD.nd (aw Lo ↑99 (q_a (cK (own:=["name","step"]) (#[rfl,⋯,⋯,rfl,trivial]:CompOk _ _ [] []) rfl (bz (aw Lb ↑99 (q_a ↑0 ag))) (λ_ _ _ _=>il (K:=K) (n:=2) rfl rfl (bq (aA (i:=0) (show (["name","step"]:List Str).Nodup by decide)) (bq (aA (i:=1) (show (["name","step"]:List Str).Nodup by decide)) eV))) (im (bu (aM ⋯) aP (bu (aM ⋯) aP fR bQ) (ci aP bQ))) (λ_ _ _ _=>ip) (λ_ _ _ _=>↑1)) ag)))
   (b_c (jK (j:=3) cD.nd (own:=["deed"]) (#[rfl,⋯,⋯,rfl,#[rfl,rfl,trivial]]:CompOk _ _ [1] ["words"]) rfl (bz ↑0) (λ_ _ _ _=>aA (i:=0) (show (["deed","words"]:List Str).Nodup by decide)) (aM ⋯) (λ_ _ _ _=>(jm (ax (km (K:=K) rfl) (cu hr.units ↑1 (aw a6 ↑99 (q_a ↑0 ag))) (aB (q_a ar (q_a ar ag)))))) (λ_ _ _ _=>↑0))
   (b_c (aC (i:=4) cD.nd (dX ag))
   (b_c (cH ZS rfl (bz ↑3) (aA (i:=5) cD.nd) (b_1 (aJ (ax (km (K:=K) rfl) (aq ao (aq ao ↑5 ai) ai) (aB (q_a ar (q_a ar ag)))) (b_c (aC (i:=6) cD.nd (aw KE ↑99 (q_a ↑5 ag)))
   (b_1 (bP (hG ↑4 (aB (q_a (aw a6 ↑99 (q_a ↑5 ag)) (q_a ↑6 (q_a (aw n5 ↑99 (q_a ↑5 (q_a ↑6 (q_a ↑3 (q_a ↑2 ag))))) ag)))))))) b_0)))
   (b_1 (am ↑4)))))))
 refine ay λR0 hR0=>?_;refine#[_,rfl,l,L,n,rfl,hL,hz,un,λa ys R N H1 s1 pl ea pr=>?_];refine#[a,ys,_,rfl,ea,IR pr,by rw[ZH pr,pl.len];omega,λwd gwd=>?_];have wwd:=af gwd (.dT (cc [] (wkv R)));have ewd:upd H1 wd (.dT (cc [] (wkv R))) wd=some (.dT (cc [] (wkv R))):=ad;have S2:Same H (upd H1 wd (.dT (cc [] (wkv R)))):=s1.trans wwd;have wv:=λx hx=>IS (x:=x) pl hx;generalize cc [] (wkv R)=kvw at ewd S2 wv ⊢;generalize upd H1 wd (.dT kvw)=H2 at ewd S2 ⊢;refine hR0 _ _ ?_;refine ay λR0 hR0=>?_;refine#[_,rfl,l,L,n,rfl,hL.same S2,hz,un,λa2 ys2 ss N2 H3 s3 rn lss ea2 pa2=>#[a2,rfl,#[_,Nc ea2],?_]];have ly2:ys2.length<=63:=by rw[ZH pa2];exact lss
 refine bV (λi zs H'=>Same H3 H'/\zs.length<=i/\Paired (SR H') zs (ss.take i)) ∅ (λ_ _ _ z=>z.2.1) #[Same.refl _,Za _,.nil] (λi zs H' z=>Nc (z.1 _ _ ea2)) ?_ ?_
 ·rintro i zs H' v hv ⟨sm,lz,pz⟩ Y hY;obtain⟨r,hr',sp⟩:=bW pa2 hv;cases sp with
  |mk t nv sv s' e1 e2 =>refine#[t,_,rfl,Nb (sm _ _ e1),rfl,_,_,rfl,_,_,rfl,rfl,?_];refine#[_,rfl,hY _ _ #[sm,by rw[Zk];exact y8 lz,?_]];rw[bC hr'];exact cn pz (e2.ts (Na sm))
 rintro zs lz H4 ⟨sm,lzs,pz⟩ glz;rw[ZH pa2,ZQ]at pz;have wlz:=af glz (.lst zs);refine#[lz,zs,ss,N2,rfl,ad,Paired.mapP pz λ_ _ z=>SR.ts z (Na wlz),lss,rn,λp H5 s5=>?_];have S25:Same H2 H5:=s3.trans (sm.trans (wlz.trans s5));have S5:=S2.trans S25;have ewd5:=S25 _ _ ewd;refine hR0 _ _ ?_;refine ay λR0 hR0=>?_;refine#[_,rfl,l,rfl,#[_,Nc (S5 _ _ hL.1)],?_];refine bV (K:=K) (a:=l) (xs:=aE L) (λi zs H'=>Same H5 H'/\∃M:LT,zs=aE M/\M.length<=i/\∀x∈M,x∈L) ∅ (λi zs _ z=>by obtain⟨_,M,rfl,h,_⟩:=z;rw[cC];exact h) #[Same.refl _,[],rfl,Za _,λx hx=>nomatch hx] (λi zs H' z=>Nc (z.1 _ _ (S5 _ _ hL.1))) ?_ ?_
 ·rintro i zs H' v hv ⟨sm,M,rfl,lM,mM⟩ Y hY;obtain⟨y,hy,ym,rfl⟩:=bJ hv;have hd:=(hL.2 y ym).same (S5.trans sm);obtain⟨w',ew⟩:=wv y ym;refine#[_,rfl,_,rfl,y.1,y.2,rfl,hd,λt H6 s6 e6=>?_];have dg:=DGet.t (k:=nmK y.2) (s6 _ _ (sm _ _ ewd5)) e6;rw[ew]at dg;refine#[wd,.str w',rfl,dg,sz rfl,λu gu=>?_];have wu:=s6.trans (af gu (.tup [.str "done",.str "top"]));refine#[u,_,rfl,.inr (Nb ad),rfl,rfl,_,rfl,kg ?_ ?_]
  ·exact#[_,rfl,hY _ _ #[sm.trans wu,M++[y],by unfold aE;rw[Zy];rfl,by rw[Zk];exact y8 lM,λx hx=>(Zs.mp hx).elim (mM x) λz=>by rw[Zd.mp z];exact ym]]
  ·exact hY _ _ #[sm.trans wu,M,rfl,∅,mM]
 rintro zs la H6 ⟨sm,M,rfl,lM,mM⟩ gla;rw[ll]at lM;have wla:=af gla (.lst (aE M));have ela:upd H6 la (.lst (aE M)) la=some (.lst (aE M)):=ad;have S7:=S5.trans (sm.trans wla);generalize upd H6 la (.lst (aE M))=H7 at ela S7 ⊢;refine hR0 _ _ ?_;refine ay λR0 hR0=>?_;refine#[sz rfl,λtl gtl=>?_];have wtl:=af gtl (.lst []);have etl:upd H7 tl (.lst []) tl=some (.lst []):=ad;have S8:=S7.trans wtl;have gtl0:H tl=none:=S7.free gtl;have ela8:=wtl _ _ ela;have nla:la≠tl:=λz=>by rw[z,gtl]at ela;cases ela
 generalize upd H7 tl (.lst [])=H8 at etl S8 ela8 ⊢;refine hR0 _ _ ?_;refine ay λR0 hR0=>?_;refine#[_,rfl,la,rfl,#[_,Nc ela8],?_];have nt:∀{b:MU} {zs:Nh},H8 b=some (.tup zs)->b≠tl:=fun{b zs} e z=>by rw[z,etl]at e;cases e
 refine dj (K:=K) (a:=la) (xs:=aE M) (λi σ H'=>(∀b o,b≠tl->H8 b=some o->H' b=some o)/\∃(zs:Nh) (o5 o6:Option V),H' tl=some (.lst zs)/\zs.length<=i/\(∀v∈zs,TkP H' v)/\σ=[some (.ref l),some (.ref wd),some (.ref p),some (.ref la),some (.ref tl),o5,o6])
  #[λb o _ e=>e,[],none,none,etl,Za _,(λv hv=>nomatch hv),rfl] (λi σ H' _ z=>Nc (z.1 _ _ nla ela8)) ?_ ?_
 ·rintro i v σ H' hv ⟨kp,zs,o5,o6,hzs,lz,pz,rfl⟩ DL hDL;obtain⟨y,hy,ym,rfl⟩:=bJ hv;have hi:i<M.length:=(Zi.mp hy).1;have tp:TS H8 H':=λb ws e=>kp b _ (nt e) e;have hd:=((hL.2 y (mM y ym)).same S8).ts tp;have hM':LR H' la M:=#[kp _ _ nla ela8,λx hx=>((hL.2 x (mM x hx)).same S8).ts tp]
  obtain⟨c,v,e1,e2,e4,e3⟩:=id hd;obtain⟨wa,r,rfl,h5⟩:=e4.head;refine#[_,rfl,y.1,_,_,_,rfl,rfl,Nb e1,at2,wa,_,_,_,rfl,rfl,Nb h5,at0,sz rfl,λu gu=>?_];have wu:=af gu (.tup [.str "take",.str "join"]);refine#[u,_,rfl,.inr (Nb ad),rfl,rfl,_,rfl,?_];rw[MN Zg];generalize upd H' u (.tup [.str "take",.str "join"])=H9 at wu ⊢;cases hin:inV (V.str (wW y.2.w)) [.str "take",.str "join"]with
  |false=>exact aD (hDL _ _ #[λb o n e=>wu _ _ (kp b o n e),zs,_,_,wu _ _ hzs,∅,λv hv=>(pz v hv).ts (Na wu),rfl])
  |true =>
   obtain⟨c',hh,ii,ew,hc⟩:=Jk _ hin;refine aK ?_;refine#[_,rfl,y.1,y.2,c',hh,ii,rfl,hd.same wu,ew,hc,λqa eq=>?_];refine#[_,rfl,.inl #[rfl,_,Nc (wu _ _ hzs)],_,rfl,y.1,y.2,rfl,hd.same wu,λnb HA sA eA=>?_];have s1A:=wu.trans sA;refine#[_,rfl,_,rfl,_,rfl,_,rfl,_,rfl,y.1,qa,la,.ref p,y.2,M,hh,ii,rfl,hd.same s1A,sA _ _ eq,hM'.same s1A,λx hx=>uG ch (mM x hx) (mM y ym),λHB sB=>?_,λx nb2 HB hx sB eB=>?_]
   ·refine#[sz rfl,λz gz=>?_];have wz:=af gz (.tup [.ref nb,.ref qa,.non]);have sz:=s1A.trans (sB.trans wz);refine#[tl,_,_,rfl,rfl,sz _ _ hzs,be ∅,?_];have tz:TS (upd HB z (.tup [.ref nb,.ref qa,.non])) (upd (upd HB z (.tup [.ref nb,.ref qa,.non])) tl (.lst (zs++[.ref z]))):=dh λws e=>by rw[sz _ _ hzs]at e;cases e
    refine hDL _ _ #[λb o n e=>by rw[ah n];exact sz _ _ (kp b o n e),zs++[.ref z],_,_,ad,by rw[Zk];exact y8 lz,λv hv=>?_,rfl];rcases Zs.mp hv with hv|hv
    ·exact(pz v hv).ts ((Na sz).trans tz)
    ·rw[Zd.mp hv];exact .mk z nb _ _ y.2 (tz _ _ ad) (tz _ _ ((sB.trans wz) _ _ eA))
   ·refine#[sz rfl,λz gz=>?_];have wz:=af gz (.tup [.ref nb,.ref qa,.ref nb2]);have sz:=s1A.trans (sB.trans wz);refine#[tl,_,_,rfl,rfl,sz _ _ hzs,be ∅,?_];have tz:TS (upd HB z (.tup [.ref nb,.ref qa,.ref nb2])) (upd (upd HB z (.tup [.ref nb,.ref qa,.ref nb2])) tl (.lst (zs++[.ref z]))):=dh λws e=>by rw[sz _ _ hzs]at e;cases e
    refine hDL _ _ #[λb o n e=>by rw[ah n];exact sz _ _ (kp b o n e),zs++[.ref z],_,_,ad,by rw[Zk];exact y8 lz,λv hv=>?_,rfl];rcases Zs.mp hv with hv|hv
    ·exact(pz v hv).ts ((Na sz).trans tz)
    ·rw[Zd.mp hv];exact .mk z nb _ _ y.2 (tz _ _ ad) (tz _ _ ((sB.trans wz) _ _ eA))
 ·rintro σ H' ⟨kp,zs,o5,o6,hzs,lz,pz,rfl⟩;refine hR0 _ _ ?_;exact#[_,rfl,q tl zs H' (λb o e=>kp b o (al e gtl0) (S8 _ _ e)) hzs (by rw[cC]at lz;omega) pz]
theorem Ja(a:V):bM [a] none (some 2)=[a]:=rfl
theorem zd(a b:V)(r:Nh):bM (a::b::r) none (some 2)=[a,b]:=by unfold bM;rw[show(2:Int)=((2:Nat):Int)from rfl,HT.sIx_nat];simp[HT.sIx]
def h2D:Wh->PyData
 |.no=>.tuple [.str "none"]
 |.put _=>.tuple [.str "put",.none]
 |.itm c h k=>.tuple [.str (iW c),nD h k]
 |.trn b k=>.tuple [.str (ofW b),.int k]
theorem Jp(c:Ik):PyData.strOk (iW c)=true:=by cases c<;>decide +kernel
theorem se(w:Wh):SeqAt.shaped (h2D w)=true:=by
 cases w with
 |no=>simp[h2D,SeqAt.shaped,PyData.canLay0,PyData.canLayAll0,PyData.depth,PyData.depthAll];decide +kernel
 |put m=>simp[h2D,SeqAt.shaped,PyData.canLay0,PyData.canLayAll0,PyData.depth,PyData.depthAll];decide +kernel
 |itm c h k=>simp[h2D,nD,SeqAt.shaped,PyData.canLay0,PyData.canLayAll0,PyData.depth,PyData.depthAll,Jp]
 |trn b k=>simp[h2D,SeqAt.shaped,PyData.canLay0,PyData.canLayAll0,PyData.depth,PyData.depthAll,EV]
theorem WR.two{H:Hp}{v:V}{w:Wh}(x:WR H v w):∃p xs,v=.ref p/\H p=some (.tup xs)/\∀H' t,TS H H'->H' t=some (.tup (bM xs none (some 2)))->Dt H' (h2D w) (.ref t):=by
 cases w with
 |no =>obtain⟨p,rfl,h2⟩:=x;refine#[p,_,rfl,h2,λH' t ts e=>?_];rw[Ja]at e;simp only[h2D,Dt,DtAll];exact#[t,_,rfl,.inl e,_,_,rfl,rfl,rfl]
 |put m =>obtain⟨p,q,rfl,h2,h3⟩:=x;refine#[p,_,rfl,h2,λH' t ts e=>?_];rw[zd]at e;simp only[h2D,Dt,DtAll];exact#[t,_,rfl,.inl e,_,_,rfl,rfl,_,_,rfl,rfl,rfl]
 |itm c h k =>
  obtain⟨p,q,r,rfl,h2,h3,h4⟩:=x;refine#[p,_,rfl,h2,λH' t ts e=>?_];rw[zd]at e;have hn:Dt H' (nD h k) (.ref q):=by unfold nD;simp only[Dt,DtAll];exact#[q,_,rfl,.inl (ts _ _ h3),_,_,rfl,rfl,_,_,rfl,rfl,rfl]
  unfold h2D;simp only[Dt,DtAll];exact#[t,_,rfl,.inl e,_,_,rfl,rfl,_,_,rfl,hn,rfl]
 |trn b k =>obtain⟨p,rfl,h2⟩:=x;refine#[p,_,rfl,h2,λH' t ts e=>?_];rw[zd]at e;simp only[h2D,Dt,DtAll];exact#[t,_,rfl,.inl e,_,_,rfl,rfl,_,_,rfl,rfl,rfl]
theorem Dr(L:LT)(k:Nat):bM (aE L) (some ((k:Int)+1)) none=aE (L.drop (k+1)):=by
 unfold bM;rw[HT.sIx_none,show(k:Int)+1=((k+1:Nat):Int) by omega,HT.sIx_nat,cC];unfold aE;rw[List.map_drop];rcases Nat.le_total (k+1) L.length with c|c
 ·rw[YV c,Yd (by rw[YC,Zb];omega)]
 ·rw[Nat.min_eq_right c,List.drop_eq_nil_of_le (by rw[Zb];exact Za _),List.drop_eq_nil_of_le (by rw[Zb];exact c)];simp
inductive spOvers(vs:Nh)(H:Hp)(Q:VK)(E:XK):Prop
 |mk (l:MU) (M:LT) (h0:vs=[.ref l]) (h1:LR H l M) (hz:M.length<=63) (na:∀x∈M,∀y∈M,NoAp x.2 y.2) (q:∀p H',Same H H'->H' p=some (.dT [])->Q (.ref p) H'):spOvers vs H Q E
abbrev kJ:Stmt:=top 80
abbrev yL:List Str:=["done","overs","at","deed","later"]
theorem fe:FnScope yL ["done"] (aj kJ):= ~~~0
theorem xg{f:MU}{fd:M0}(F:Fun K "overs_of" "overs_of" kJ f fd)(a6:↑Fn 1 "name_of" ["deed"] cE)(Kv:↑Fn 3 "apart" ["one","other"] spApart)(d8:mg "enumerate" = none)(a8:mg "len" = none):↑FnOk CX0 4 f fd ["done"] spOvers:=by
 exists fe
 obtain⟨l,M,rfl,hM,hz,na,q⟩:=h;exists _,(b_c (aC (i:=1) fe.nd kz)
   (b_c (cH ZS rfl (uU d8 (q_a ↑0 ag)) (gj rfl (bq (aA (i:=2) fe.nd) (bq (aA (i:=3) fe.nd) eV))) (b_1 (aJ (ax (km (K:=K) rfl) (aq ao (aq ao ↑3 ai) ai) (aB (q_a ar (q_a ar (q_a ar (q_a ar (q_a ar ag))))))) (b_c (jK (j:=4) fe.nd (own:=["each"]) (#[rfl,⋯,⋯,rfl,#[rfl,rfl,trivial]]:CompOk _ _ [3] ["deed"]) rfl (bz (eL BQ ↑0 (dP (bg dU ↑2 ai)) eW)) (λ_ _ _ _=>aA (i:=0) (show (["each","deed"]:List Str).Nodup by decide)) (aM ⋯) (λ_ _ _ _=>(jm (t_w (dY (ax (ET hr.units) (eL de (aq (iX (K:=K) rfl) ↑0 ai) eW (dP ai)) (eL de (aq (iX (K:=K) rfl) ↑1 ai) eW (dP ai))) (dN (bY (aw Kv ↑99 (q_a ↑0 (q_a ↑1 ag))))))))) (λ_ _ _ _=>↑0))
   (b_1 (aJ (ax zH (q_B dR a8 Z0 (q_a ↑4 ag)) ai) (b_1 (fK hr.units ↑1 (aw a6 ↑99 (q_a ↑3 ag)) (aw a6 ↑99 (q_a (aq eS ↑4 ai) ag)))) b_0))) b_0)))
   (b_1 (am ↑1))))
 refine ay λR0 hR0=>?_;intro od god;have w0:=af god (.dT []);refine hR0 _ _ ?_;refine ay λR0 hR0=>?_;refine#[_,rfl,l,_,rfl,w0 _ _ hM.1,?_];refine ld (i:=2) (j:=3) (λk σ H'=>Same H H'/\∃(o2 o3 o4:Option V),H' od=some (.dT [])/\σ=[some (.ref l),some (.ref od),o2,o3,o4])
  #[w0,none,none,none,ad,rfl] (λi σ H' _ z=>Nc (z.1 _ _ hM.1)) ?_ ?_
 ·rintro k x σ H3 hx ⟨S3,o2,o3,o4,eod,eσ⟩ DE hDE T hT;subst eσ;obtain⟨z,hk,hm,rfl⟩:=bJ hx;have wT:=af hT (.tup [.int (k:Int),.ref z.1]);have S4:=S3.trans wT;have eod4:=wT _ _ eod;generalize upd H3 T (.tup [.int (k:Int),.ref z.1])=H4 at S4 eod4 ⊢;obtain⟨c,v,e1,e2,e4,_⟩:=(hM.2 z hm).same S4;obtain⟨wa,r,rfl,h5⟩:=e4.head;refine(wC rfl (Nb e1) at2 (Nb h5) at0 #[sz rfl,λu gu=>?_]);have wu:=af gu (.tup [.str "move",.str "write",.str "mark",.str "due",.str "fold"]);have eu:upd H4 u (.tup [.str "move",.str "write",.str "mark",.str "due",.str "fold"]) u=_:=ad;generalize upd H4 u (.tup [.str "move",.str "write",.str "mark",.str "due",.str "fold"])=H5 at wu eu ⊢;have S5:=S4.trans wu;have eod5:=wu _ _ eod4;refine#[u,_,rfl,.inr (Nb eu),rfl,rfl,_,rfl,kg ?_ ?_]
  ·refine ay λR hR=>?_;refine#[_,rfl,_,rfl,_,_,rfl,rfl,_,rfl,l,_,rfl,Nc (S5 _ _ hM.1),λpc gpc=>#[pc,rfl,#[_,Nc ad],?_]];have ecut:=Dr M k;dsimp only;rw[ecut];have wpc:=af gpc (.lst (aE (M.drop (k+1))));have epc:upd H5 pc (.lst (aE (M.drop (k+1)))) pc=some (.lst (aE (M.drop (k+1)))):=ad;have S6:=S5.trans wpc;have eod6:=wpc _ _ eod5;generalize upd H5 pc (.lst (aE (M.drop (k+1))))=H6 at epc S6 eod6 ⊢;refine bV (xs:=aE (M.drop (k+1))) (λi zs H'=>Same H6 H'/\zs=[]) (by rw[cC,YC];omega) (λ_ _ _ z=>by rw[z.2];exact ZU _) #[Same.refl _,rfl] (λi zs H' z=>Nc (z.1 _ _ epc)) ?_ ?_
   ·rintro i zs H' v hv ⟨sm,rfl⟩ Y hY;obtain⟨y,hy,ym,rfl⟩:=bJ hv;have hyM:y∈M:=List.mem_of_mem_drop ym;have S7:=S6.trans sm;have dy:=(hM.2 y hyM).same S7;have dk:=(hM.2 z hm).same S7;obtain⟨cy,vy,y1,y2,y4,_⟩:=id dy;obtain⟨ck,vk,k1,k2,k4,_⟩:=id dk;obtain⟨py,xy,rfl,y5,y6⟩:=y4.two;obtain⟨pk,xk,rfl,k5,k6⟩:=k4.two;refine(vix rfl (Nb y1) at2 #[_,rfl,py,_,rfl,y5,λt1 H8 s8 e8=>?_]);refine(vix rfl (Nb (s8 _ _ k1)) at2 #[_,rfl,pk,_,rfl,s8 _ _ k5,λt2 H9 s9 e9=>?_]);have s89:=s8.trans s9;refine#[_,_,y6 H9 t1 (Na s89) (s9 _ _ e8),k6 H9 t2 (Na s89) e9,se _,se _,_,rfl,kg ?_ ?_]
    ·obtain⟨a1,a2,a3⟩:=na y hyM z hm;exact#[_,rfl,_,rfl,y.1,z.1,y.2,z.2,rfl,dy.same s89,dk.same s89,a1,a2,a3,λHA sA=>#[_,rfl,aD (hY _ _ #[sm.trans (s89.trans sA),rfl])]]
    ·exact aD (hY _ _ #[sm.trans s89,rfl])
   ·rintro zs lt H7 ⟨sm,rfl⟩ glt;have wlt:=af glt (.lst []);have elt:upd H7 lt (.lst []) lt=some (.lst []):=ad;have S8:=S6.trans (sm.trans wlt);have eod8:=wlt _ _ (sm _ _ eod6);generalize upd H7 lt (.lst [])=H8 at elt S8 eod8 ⊢;refine hR _ _ ?_;refine#[_,rfl,lt,[],rfl,.inl (Nc elt),_,_,rfl,rfl,_,rfl,EM ⋯ (hDE _ _ #[S8,_,_,_,eod8,rfl])]
  ·exact hDE _ _ #[S5,_,_,_,eod5,rfl]
 ·rintro σ H' ⟨sm,o2,o3,o4,eod,rfl⟩;refine hR0 _ _ ?_;exact#[_,rfl,q od H' sm eod]
inductive RpP(L:LT)(H:Hp):V->Rw->Prop
 |off (t nb nb2:MU) (x:Dd) (y:MU×Dd) (so:Option Stp) (e:H t=some (.tup [.ref nb,.str "off",.ref nb2])) (en:H nb=some (.tup ((nmZ x).map V.int))) (ey:ltn L (nmK x)=some y) (e2:H nb2=some (.tup ((nmZ y.2).map V.int))) (ho:aQ L x=true):RpP L H (.ref t) (x,"off",so)
 |oth (t nb:MU) (x:Dd) (w w2:Str) (so:Option Stp) (bv:V) (e:H t=some (.tup [.ref nb,.str w2,bv])) (en:H nb=some (.tup ((nmZ x).map V.int))) (hw:w2≠"off") (ho:aQ L x=false):RpP L H (.ref t) (x,w,so)
theorem RpP.ts{L:LT}{H H':Hp}{v:V}{r:Rw}(x:RpP L H v r)(t:TS H H'):RpP L H' v r:=by
 cases x with
 |off p nb nb2 x y so e en ey e2 ho=>exact .off p nb nb2 x y so (t _ _ e) (t _ _ en) ey (t _ _ e2) ho
 |oth p nb x w w2 so bv e en hw ho=>exact .oth p nb x w w2 so bv (t _ _ e) (t _ _ en) hw ho
theorem IQ:(("turn":Str)≠"off")/\(("done":Str)≠"off")/\(("none":Str)≠"off")/\(("beneath":Str)≠"off")/\(("kept":Str)≠"off"):=⋯
theorem Pl.off_iff{L:LT}{i:Nat}{N:List (List Key)}{R:List Rw}(p:Pl L i N R):∀r∈R,(aQ L r.1=true/\r.2.1="off")\/(aQ L r.1=false/\r.2.1≠"off"):=by
 obtain⟨n1,n2,n3,n4,_⟩:=IQ;have st:∀{R:List Rw} {q:Rw},(∀r∈R,(aQ L r.1=true/\r.2.1="off")\/(aQ L r.1=false/\r.2.1≠"off"))->((aQ L q.1=true/\q.2.1="off")\/(aQ L q.1=false/\q.2.1≠"off"))->∀r∈R++[q],(aQ L r.1=true/\r.2.1="off")\/(aQ L r.1=false/\r.2.1≠"off"):=fun{R q} ih h r hr=>by
  rcases Zs.mp hr with z|z
  ·exact ih r z
  ·rw[Zd.mp z];exact h
 induction p with
 |nil=>exact λr hr=>nomatch hr
 |off hx ho _ ih=>exact st ih (.inl #[ho,rfl])
 |trn hx ho hw _ ih=>exact st ih (.inr #[ho,by rcases hw with rfl|rfl<;>assumption])
 |ply hx ho o _ ih =>
  refine st ih (.inr #[ho,?_]);cases o with
  |idle w hw hs=>rcases hw with rfl|rfl<;>assumption
  |no s w hs h' hw=>rcases hw with rfl|rfl<;>assumption
  |done s N' hs h'=>exact n2
inductive spReport(vs:Nh)(H:Hp)(Q:VK)(E:XK):Prop
 |mk (l:MU) (L:LT) (n:Nat) (h0:vs=[.ref l]) (h1:LR H l L) (hz:L.length<=63) (u:UN n (vals L)) (c:Chn n L) (q:∀D ys R N H',Same H H'->Pl L L.length N R->H' D=some (.lst ys)->Paired (RpP L H') ys R->Q (.ref D) H'):spReport vs H Q E
abbrev jx:Stmt:=top 79
abbrev wM:List Str:=["ready","words","turns","kept","over","report","name","word"]
theorem cw:FnScope wM ["ready"] (aj jx):= ~~~0
theorem vE{f:MU}{fd:M0}(F:Fun K "report_of" "report_of" jx f fd)(l7:↑Fn 8 "words_of" ["ready"] spWords)(a9:↑Fn 2 "last_turns" ["ready"] mo)(KF:↑Fn 9 "takings_of" ["ready"] spTakings)(Lc:↑Fn 4 "overs_of" ["done"] spOvers)(a6:↑Fn 1 "name_of" ["deed"] cE)(K1:mg "dict" = none)(j6:mg "zip" = none):↑FnOk CX0 10 f fd ["ready"] spReport:=by
 exists cw
 obtain⟨l,L,n,rfl,hL,hz,un,ch,q⟩:=h;have ll:(aE L).length=L.length:=by unfold aE;rw[Zb]
 exists _,(b_c (aC (i:=1) cw.nd (aw l7 ↑99 (q_a ↑0 ag)))
   (b_c (aC (i:=2) cw.nd (aw a9 ↑99 (q_a ↑0 ag)))
   (b_c (aC (i:=3) cw.nd (ko (xE rfl hr.units) K1 rM (q_a (cK (own:=["name","item","by"]) (#[rfl,⋯,⋯,rfl,trivial]:CompOk _ _ [] []) rfl (bz (aw KF ↑99 (q_a ↑0 ag))) (λ_ _ _ _=>il (K:=K) (n:=3) rfl rfl (bq (aA (i:=0) (show (["name","item","by"]:List Str).Nodup by decide)) (bq (aA (i:=1) (show (["name","item","by"]:List Str).Nodup by decide)) (bq (aA (i:=2) (show (["name","item","by"]:List Str).Nodup by decide)) eV)))) (im (bu (aM ⋯) aP (bu (aM ⋯) aP (bu (aM ⋯) aP fR bQ) (ci aP bQ)) (ci aP (ci aP bQ)))) (λ_ _ _ _=>(jm (ax iB ↑2 aW))) (λ_ _ _ _=>(aB (q_a ↑0 (q_a ↑2 ag))))) ag)))
   (b_c (aC (i:=4) cw.nd (aw Lc ↑99 (q_a (cK (own:=["deed","named"]) (#[rfl,⋯,⋯,rfl,trivial]:CompOk _ _ [] []) rfl (G9 j6 (q_a ↑0 (q_a ↑1 ag))) (λ_ _ _ _=>il (K:=K) (n:=2) rfl rfl (bq (aA (i:=0) (show (["deed","named"]:List Str).Nodup by decide)) (bq (aA (i:=1) (show (["deed","named"]:List Str).Nodup by decide)) eV))) (im (bu (aM ⋯) aP (bu (aM ⋯) aP fR bQ) (ci aP bQ))) (λ_ _ _ _=>(jm (ax br (aq (iX (K:=K) rfl) ↑1 ai) ar))) (λ_ _ _ _=>↑0)) ag)))
   (b_c (aC (i:=5) cw.nd (dX ag))
   (b_c (cH ZS rfl (bz ↑1) (gj rfl (bq (aA (i:=6) cw.nd) (bq (aA (i:=7) cw.nd) eV))) (b_1 (aJ (ax br ↑7 ar) (b_1 (bP (hG ↑5 (aB (q_a ↑6 (q_a ar (q_a (aw a6 ↑99 (q_a (cu hr.units ↑2 ↑6) ag)) ag))))))) (b_1 (aJ (AC hr.units ↑6 ↑3) (b_1 (bP (hG ↑5 (aB (q_a ↑6 (q_a ar (q_a (cu hr.units ↑3 ↑6) ag))))))) (b_1 (aJ (AC hr.units ↑6 ↑4) (b_1 (bP (hG ↑5 (aB (q_a ↑6 (q_a ar (q_a (cu hr.units ↑4 ↑6) ag))))))) (b_1 (bP (hG ↑5 (aB (q_a ↑6 (q_a ↑7 (q_a aW ag))))))))))))))
   (b_1 (am ↑5))))))))
 refine ay λR0 hR0=>?_;refine#[_,rfl,l,L,n,rfl,hL,hz,un,λa ys R N H1 s1 pl ea pr=>hR0 _ _ ?_];have lys:ys.length=L.length:=by rw[ZH pr,pl.len]
 refine ay λR0 hR0=>?_;refine#[_,rfl,l,L,rfl,hL.same s1,hz,λta tvs H2 s2 hta hts=>hR0 _ _ ?_];have S2:=s1.trans s2;refine ay λR0 hR0=>?_;refine#[_,rfl,l,L,n,rfl,hL.same S2,hz,un,ch,λa3 vs3 H3 s3 ea3 lvs pk=>#[a3,rfl,#[_,Nc ea3],?_]];refine bV (xs:=vs3) (λi zs H'=>Same H3 H'/\zs.length<=i/\∃ps,Paired (uw H') zs ps) ∅ (λ_ _ _ z=>z.2.1) #[Same.refl _,Za _,[],.nil] (λi zs H' z=>Nc (z.1 _ _ ea3)) ?_ ?_
 ·rintro i zs H' v hv ⟨sm,lz,ps,pz⟩ Y hY;have tk:=pk v (Zv hv);cases tk with
  |mk t nb iv bv x e1 en =>refine#[t,[.ref nb,iv,bv],rfl,Nb (sm _ _ e1),rfl,_,_,rfl,iv,_,rfl,bv,_,rfl,rfl,?_];refine#[_,rfl,rfl,_,rfl,kg ?_ (hY _ _ #[sm,∅,ps,pz])];refine#[_,rfl,_,rfl,sz rfl,λtp gtp=>?_];have wtp:=af gtp (.tup [.ref nb,bv]);exact hY _ _ #[sm.trans wtp,by rw[Zk];exact y8 lz,ps++[(nmK x,bv)],cn (Paired.mapP pz λ_ _ ⟨t',a',z1,z2,z3⟩=>#[t',a',z1,wtp _ _ z2,wtp _ _ z3]) #[tp,nb,rfl,ad,wtp _ _ (sm _ _ en)]]
 rintro zs pk4 H4 ⟨s4,lz,ps,pz⟩ gpk;have w4:=af gpk (.lst zs);refine#[pk4,zs,ps,rfl,ad,Paired.mapP pz λ_ _ ⟨t',a',z1,z2,z3⟩=>#[t',a',z1,w4 _ _ z2,w4 _ _ z3],∅,λkd gkd=>?_];have w5:=af gkd (.dT (cc [] ps));have ekd:upd (upd H4 pk4 (.lst zs)) kd (.dT (cc [] ps)) kd=some (.dT (cc [] ps)):=ad;have s25:Same H2 (upd (upd H4 pk4 (.lst zs)) kd (.dT (cc [] ps))):=s3.trans (s4.trans (w4.trans w5));generalize cc [] ps=kvk at ekd s25 ⊢;generalize upd (upd H4 pk4 (.lst zs)) kd (.dT kvk)=H5 at ekd s25 ⊢;refine hR0 _ _ ?_;have s15:=s2.trans s25;have hL5:=hL.same (s1.trans s15);have ea5:=s15 _ _ ea;have pr5:=Paired.mapP pr λ_ _ z=>WdP.ts z (Na s15);have hta5:=s25 _ _ hta;refine ay λR0 hR0=>?_;refine#[_,rfl,_,rfl,l,a,_,_,rfl,Nc hL5.1,Nc ea5,by rw[ll,lys],?_];refine rP (N:=(aE L).length) (λi zs H'=>Same H5 H'/\∃M:LT,zs=aE M/\M.length<=i/\∀x∈M,x∈L) ∅ (λi zs _ z=>by obtain⟨_,M,rfl,h,_⟩:=z;rw[cC];exact h) #[Same.refl _,[],rfl,Za _,λx hx=>nomatch hx] (λi zs H' hi z=>#[hi,Nc (z.1 _ _ hL5.1),Nc (z.1 _ _ ea5)]) (λzs H' z=>#[rfl,Nc (z.1 _ _ hL5.1),Nc (z.1 _ _ ea5)]) ?_ ?_
 ·rintro i zs H' x H6 hi ⟨sm,M,rfl,lM,mM⟩ ⟨T',p,y,hT,hp,hy,rfl,rfl⟩ Y hY;have wT:=af hT (.tup [p,y]);obtain⟨r,hri,wp⟩:=bW pr5 hy;obtain⟨z,hz',zm,rfl⟩:=bJ hp;cases wp with
  |mk t nb x w so e1 e2 =>
   refine#[T',_,rfl,Nb ad,rfl,_,_,rfl,_,_,rfl,rfl,?_];refine(vix rfl (Nb (wT _ _ (sm _ _ e1))) at1 #[rfl,_,rfl,kg ?_ ?_])
   ·exact#[_,rfl,hY _ _ #[sm.trans wT,M++[z],by unfold aE;rw[Zy];rfl,by rw[Zk];exact y8 lM,λx hx=>(Zs.mp hx).elim (mM x) λq=>by rw[Zd.mp q];exact zm]]
   ·exact hY _ _ #[sm.trans wT,M,rfl,∅,mM]
 rintro zs pz H6 ⟨s6,M,rfl,lM,mM⟩ gpz;rw[ll]at lM;have w6:=af gpz (.lst (aE M));refine#[pz,M,rfl,#[ad,λx hx=>(hL5.2 x (mM x hx)).same (s6.trans w6)],∅,λx hx y hy=>uG ch (mM x hx) (mM y hy),λod H7 s7 eod=>?_];have s57:Same H5 H7:=s6.trans (w6.trans s7);have ekd7:=s57 _ _ ekd;have ea7:=s57 _ _ ea5;have hta7:=s57 _ _ hta5;have pr7:=Paired.mapP pr5 λ_ _ z=>WdP.ts z (Na s57);have S7:Same H H7:=s1.trans (s15.trans s57);refine hR0 _ _ ?_;refine ay λR0 hR0=>?_;refine#[sz rfl,λrl grl=>?_];have w8:=af grl (.lst []);have S8:=S7.trans w8;have erl:upd H7 rl (.lst []) rl=some (.lst []):=ad;have grl0:H rl=none:=S7.free grl;have ea8:=w8 _ _ ea7;have ekd8:=w8 _ _ ekd7;have eod8:=w8 _ _ eod;have hta8:=w8 _ _ hta7;have pr8:=Paired.mapP pr7 λ_ _ z=>WdP.ts z (Na w8);have nar:a≠rl:=λz=>by rw[z,grl]at ea7;cases ea7
 generalize upd H7 rl (.lst [])=H8 at S8 erl ea8 ekd8 eod8 hta8 pr8 ⊢;refine hR0 _ _ ?_;refine ay λR0 hR0=>?_;refine#[_,rfl,a,rfl,#[_,Nc ea8],?_];refine dj (K:=K) (a:=a) (xs:=ys) (λi σ H'=>(∀b o,b≠rl->H8 b=some o->H' b=some o)/\∃(zs:Nh) (o6 o7:Option V),H' rl=some (.lst zs)/\zs.length=i/\Paired (RpP L H') zs (R.take i)/\σ=[some (.ref l),some (.ref a),some (.ref ta),some (.ref kd),some (.ref od),some (.ref rl),o6,o7])
  #[λb o _ e=>e,[],none,none,erl,rfl,.nil,rfl] (λi σ H' hi z=>Nc (z.1 _ _ nar ea8)) ?_ ?_
 ·rintro i v σ H' hv ⟨kp8,zs,o6,o7,hrl,lz,pz,rfl⟩ DL hDL;have tp:TS H8 H':=λb ws e=>kp8 b _ (λz=>by rw[z,erl]at e;cases e) e;obtain⟨r,hri,wp⟩:=bW pr8 hv;have hi:i<L.length:=by have:=(Zi.mp hri).1;rw[pl.len]at this;exact this
  have oi:=pl.off_iff r (Zv hri);have n1:=kp8 _ _ (λz=>by rw[z,erl]at ekd8;cases ekd8) ekd8;have n2:=kp8 _ _ (λz=>by rw[z,erl]at eod8;cases eod8) eod8;have n4:=kp8 _ _ (λz=>by rw[z,erl]at hta8;cases hta8) hta8;cases wp with
  |mk t nb x w so e1 e2 =>
   have e2':=tp _ _ e2;have add:∀{H9:Hp} {tr:MU} {o6 o7:Option V},Same H' H9->RpP L H9 (.ref tr) (x,w,so)->DL.nx [some (.ref l),some (.ref a),some (.ref ta),some (.ref kd),some (.ref od),some (.ref rl),o6,o7] (upd H9 rl (.lst (zs++[.ref tr]))):=fun{H9 tr o6 o7} s9 rp=>by
    have tr9:TS H9 (upd H9 rl (.lst (zs++[.ref tr]))):=dh λws e'=>by rw[s9 _ _ hrl]at e';cases e'
    refine hDL _ _ #[λb o hb e=>by rw[ah hb];exact s9 _ _ (kp8 b o hb e),zs++[.ref tr],_,_,ad,by rw[Zk,lz];rfl,?_,rfl];rw[bC hri];exact cn (Paired.mapP pz λ_ _ z=>RpP.ts z (TS.trans (Na s9) tr9)) (rp.ts tr9)
   refine#[t,_,rfl,Nb (tp _ _ e1),rfl,_,_,rfl,_,_,rfl,rfl,?_];refine#[_,rfl,rfl,_,rfl,?_];rcases oi with⟨o1,o2⟩|⟨o1,o2⟩
   ·have o2:w="off":=o2;subst o2;refine cZ ?_;obtain⟨y,ey,ym,_⟩:=fV o1;have dg:=DGet.t (k:=nmK x) n4 e2';rw[hts (nmK x),ey]at dg;refine#[_,rfl,.inl #[rfl,_,Nc hrl],_,rfl,_,rfl,_,rfl,ta,.ref y.1,rfl,dg,y.1,y.2,rfl,((hL.2 y ym).same S8).ts tp,λtn H9 s9 e9=>#[sz rfl,λtr gtr=>#[rl,_,_,rfl,rfl,af gtr _ _ _ (s9 _ _ hrl),be ∅,?_]]];have wtr:=af gtr (.tup [.ref nb,.str "off",.ref tn]);exact add (s9.trans wtr) (.off tr nb tn x y so ad (wtr _ _ (s9 _ _ e2')) ey (wtr _ _ e9) o1)
   ·have o2:w≠"off":=o2;refine cj (λz=>o2 (V.str.inj z)) ?_;have dg:=DGet.t (k:=nmK x) n1 e2';refine#[_,rfl,_,rfl,kd,_,rfl,dg,_,rfl,?_];cases hk:aH kvk (nmK x)with
    |some bv =>rw[hk]at dg;refine aK #[_,rfl,.inl #[rfl,_,Nc hrl],_,rfl,_,rfl,_,rfl,kd,bv,rfl,dg,sz rfl,λtr gtr=>#[rl,_,_,rfl,rfl,af gtr _ _ _ hrl,be ∅,?_]];have wtr:=af gtr (.tup [.ref nb,.str "kept",bv]);exact add wtr (.oth tr nb x w "kept" so bv ad (wtr _ _ e2') IQ.2.2.2.2 o1)
    |none =>refine aD #[_,rfl,_,rfl,od,_,rfl,DGet.t (k:=nmK x) n2 e2',_,rfl,aD ?_];refine#[_,rfl,.inl #[rfl,_,Nc hrl],_,rfl,_,rfl,sz rfl,λtr gtr=>#[rl,_,_,rfl,rfl,af gtr _ _ _ hrl,be ∅,?_]];have wtr:=af gtr (.tup [.ref nb,.str w,.non]);exact add wtr (.oth tr nb x w w so .non ad (wtr _ _ e2') o2 o1)
 ·rintro σ H' ⟨kp8,zs,o6,o7,hrl,lz,pz,rfl⟩;rw[ZH pr,ZQ]at pz;refine hR0 _ _ ?_;exact#[_,rfl,q rl zs R N H' (λb o e=>kp8 b o (al e grl0) (S8 _ _ e)) pl hrl pz]
inductive spHReport(CH CS T R:MU)(vs:Nh)(H:Hp)(Q:VK)(E_:XK):Prop
 |mk (h p d:MU) (n me:Nat) (L:LT) (h0:vs=[.ref h]) (h1:Sta CH CS T R H h p d n me L)
   (q:∀D ys RR N H',KT H H'->Sta CH CS T R H' h p d n me L->Pl L L.length N RR->H' D=some (.lst ys)->Paired (RpP L H') ys RR->Q (.ref D) H'):spHReport CH CS T R vs H Q E_
abbrev gK:Stmt:=aY (top 84) 11
abbrev sx:List Str:=["self"]
theorem rc:FnScope sx ["self"] (aj gK):= ~~~0
theorem qJ{f CH CS T R:MU}{fd:M0}(F:Fun K "report" "Hand.report" gK f fd)(i5:↑MFn 7 CH "ready" ["self"] (spHReady CH CS T R))(KU:↑Fn 10 "report_of" ["ready"] spReport):↑FnOk CX0 11 f fd ["self"] (spHReport CH CS T R):=by
 exists rc
 obtain⟨h,p,d,n,me,L,rfl,S0,q⟩:=h;obtain⟨⟨dx,h1⟩,S,hm⟩:=id S0.ha;exists _,(b_1 (am (aw KU ↑99 (q_a (cS i5 ↑99 ↑0) ag))))
 refine#[_,rfl,h,dx,_,rfl,h1,jc _ _,h,p,d,n,me,L,rfl,S0,λD H1 k1 S1 hL=>?_];exact#[D,L,n,rfl,hL,S.len,S.un,S0.ch,λD2 ys RR N H2 s2 pl eD pr=>q D2 ys RR N H2 (k1.trans (KT.of s2)) (S1.same s2) pl eD pr]
inductive Tie(me:Nat):LT->List Wh->Prop
 |nil:Tie me [] []
 |oth {L:LT} {W:List Wh} {x:MU×Dd} (t:Tie me L W) (hx:x.2.h≠me) (hw:isT x.2.w=false):Tie me (L++[x]) W
 |own {L:LT} {W:List Wh} {x:MU×Dd} (t:Tie me L W) (hx:x.2.h=me) (ho:aI x.2=(W.length:Int)+1):Tie me (L++[x]) (W++[x.2.w])
def trS(k n:Int)(o:Option (Bool×Int)):Wh->Option (Bool×Int)
 |.trn b j=>if j=k then some (b,n)else o
 |_=>o
def zr(k:Int)(s:Int×Option (Bool×Int))(w:Wh):Int×Option (Bool×Int):=(s.1+1,trS k (s.1+1) s.2 w)
def lt2(W:List Wh)(k:Int):Option (Bool×Int):=(W.foldl (zr k) (0,none)).2
theorem Fv(W:List Wh)(k:Int)(s:Int×Option (Bool×Int)):(W.foldl (zr k) s).1=s.1+(W.length:Int):=by
 induction W generalizing s with
 |nil=>simp
 |cons w W ih =>rw[List.foldl_cons,ih,Zu];show s.1+1+(W.length:Int)=_;omega
theorem fU(W:List Wh)(w:Wh)(k:Int):lt2 (W++[w]) k=trS k ((W.length:Int)+1) (lt2 W k) w:=by have h:=Fv W k (0,none);unfold lt2;rw[List.foldl_append];show trS k ((W.foldl (zr k) (0,none)).1+1) (W.foldl (zr k) (0,none)).2 w=_;rw[h,Int.zero_add]
theorem Ep{α:Type}{p:List α->Prop}(h0:p [])(h1:∀l x,p l->p (l++[x]))(l:List α):p l:=by
 have:∀n,∀l:List α,l.length=n->p l:=by
  intro n;induction n with
  |zero=>intro l hl;rw[Y1 hl];exact h0
  |succ n ih =>
   intro l hl;have hne:l≠[]:=λz=>by rw[z]at hl;cases hl
   rw[<-List.dropLast_concat_getLast hne];exact h1 _ _ (ih _ (by rw[List.length_dropLast,hl];rfl))
 exact this _ l rfl
theorem nO{W:List Wh}{k:Int}{b:Bool}{m:Int}:lt2 W k=some (b,m)->1<=m/\m<=(W.length:Int)/\W[(m-1).toNat]?=some (.trn b k):=by
 refine Ep (p:=λW=>lt2 W k=some (b,m)->1<=m/\m<=(W.length:Int)/\W[(m-1).toNat]?=some (.trn b k)) ?_ (λW w ih h=>?_) W
 ·exact λh=>nomatch h
 have old:lt2 W k=some (b,m)->1<=m/\m<=((W++[w]).length:Int)/\(W++[w])[(m-1).toNat]?=some (.trn b k):=λh=>by obtain⟨h1,h2,h3⟩:=ih h;refine#[h1,by rw[Zk];omega,?_];rw[y9 ∅];exact h3
 rw[fU]at h;cases w with
 |trn b' j =>
  by_cases c:j=k
  ·have h:(if j=k then some (b',(W.length:Int)+1)else lt2 W k)=some (b,m):=h;rw[MO c]at h;cases h;refine#[∅,by rw[Zk];simp,?_];rw[show((W.length:Int)+1-1).toNat=W.length by omega,ZV (Za _),Nat.sub_self,c];rfl
  ·have h:(if j=k then some (b',(W.length:Int)+1)else lt2 W k)=some (b,m):=h;rw[MN c]at h;exact old h
 |no=>exact old h
 |put m=>exact old h
 |itm c h k=>exact old h
def ba(W:List Wh)(k:Int):Option Int:=match lt2 W k with
 |some (false,m)=>if(W[(k-1).toNat]?).all (λw=>!isT w)then some m else none
 |_=>none
theorem gE{W:List Wh}{k m:Int}(h:ba W k=some m):lt2 W k=some (false,m):=by
 unfold ba at h;cases e:lt2 W k with
 |none=>rw[e]at h;cases h
 |some q =>
  obtain⟨b,m'⟩:=q;rw[e]at h;cases b with
  |true=>cases h
  |false =>
   have h:(if(W[(k-1).toNat]?).all (λw=>!isT w)=true then some m' else none)=some m:=h;by_cases c:(W[(k-1).toNat]?).all (λw=>!isT w)=true
   ·rw[MO c]at h;cases h;rfl
   ·rw[MN c]at h;cases h
theorem rX{W:List Wh}{k:Int}(h:lt2 W k=none):ba W k=none:=by unfold ba;rw[h]
theorem yi{W:List Wh}{k m:Int}{b:Bool}{w:Wh}(h:lt2 W k=some (b,m))(hw:W[(k-1).toNat]?=some w):ba W k=if(!b&&!isT w)=true then some m else none:=by
 unfold ba;rw[h,hw];cases b with
 |true=>rfl
 |false=>rfl
theorem DM{W:List Wh}{k k' m:Int}(h:ba W k=some m)(h':ba W k'=some m):k=k':=by have e1:=(nO (gE h)).2.2;have e2:=(nO (gE h')).2.2;rw[e1]at e2;have:=Zn e2;injection this
def TW(W:List Wh):Prop:=∀b k,.trn b k∈W->1<=k/\k<=(W.length:Int)
theorem TW.of{W:List Wh}(h:TW W){k m:Int}{b:Bool}(e:lt2 W k=some (b,m)):1<=k/\k<=(W.length:Int):=h b k (Zv (nO e).2.2)
section
variable{me:Nat}{L:LT}{W:List Wh}
theorem jH(x:Dd):nmK x=[.inl (x.h:Int),.inl (aI x)]:=rfl
theorem mK{x:Dd}{a k:Int}:eQ x=some [.inl a,.inl k]↔(x.h:Int)=a/\∃b,x.w=.trn b k:=by
 unfold eQ;cases e:x.w with
 |trn b n =>
  constructor
  ·intro h;have h:=Zn h;injection h with k1 k2;injection k1 with k1;injection k2 with k2 _;injection k2 with k2;exact#[k1,b,by rw[k2]]
  ·rintro⟨rfl,b',h⟩;injection h with _ h;rw[h]
 |no=>exact#[(λh=>nomatch h),(λh=>nomatch h.2.choose_spec)]
 |put m=>exact#[(λh=>nomatch h),(λh=>nomatch h.2.choose_spec)]
 |itm c h i=>exact#[(λh=>nomatch h),(λh=>nomatch h.2.choose_spec)]
theorem wx{x:Dd}(h:isT x.w=false)(k:List Key):¬eQ x=some k:=by
 unfold eQ;cases e:x.w with
 |trn b n=>rw[e]at h;cases h
 |no=>exact λz=>nomatch z
 |put m=>exact λz=>nomatch z
 |itm c h i=>exact λz=>nomatch z
def trB:Wh->Bool
 |.trn b _=>b
 |_=>false
theorem Tie.ltn(t:Tie me L W)(k:Int):(K44.ltn L [.inl (me:Int),.inl k]).map (λy=>(trB y.2.w,aI y.2))=lt2 W k:=by
 induction t with
 |nil=>rfl
 |@oth L W x t hx hw ih=>rw[iy,MN (wx hw _)];exact ih
 |@own L W x t hx ho ih =>
  rw[iy,fU];by_cases c:eQ x.2=some [.inl (me:Int),.inl k]
  ·rw[MO c];obtain⟨_,b,e⟩:=mK.mp c;rw[Option.map_some,e,ho];show some (b,(W.length:Int)+1)=(if k=k then some (b,(W.length:Int)+1)else lt2 W k);rw[MO rfl]
  ·rw[MN c,ih];cases e:x.2.w with
   |trn b j =>show lt2 W k=(if j=k then some (b,(W.length:Int)+1)else lt2 W k);rw[MN λz=>c (mK.mpr #[by rw[hx],b,by rw[e,z]])]
   |no=>rfl
   |put m=>rfl
   |itm c h i=>rfl
theorem Tie.oth_off(t:Tie me L W){h k:Int}(hh:h≠(me:Int)):K44.ltn L [.inl h,.inl k]=none:=by
 induction t with
 |nil=>rfl
 |@oth L W x t hx hw ih=>rw[iy,MN (wx hw _)];exact ih
 |@own L W x t hx ho ih =>rw[iy,MN λz=>hh (by rw[<-(mK.mp z).1,hx])];exact ih
theorem Tie.at(t:Tie me L W):∀x∈L,x.2.h=me->1<=aI x.2/\W[(aI x.2-1).toNat]?=some x.2.w:=by
 induction t with
 |nil=>exact λx hx=>nomatch hx
 |@oth L W y t hy hw ih =>
  intro x hx hm;rcases Zs.mp hx with h|h
  ·exact ih x h hm
  ·rw[Zd.mp h]at hm;exact(hy hm).elim
 |@own L W y t hy ho ih =>
  intro x hx hm;rcases Zs.mp hx with h|h
  ·obtain⟨h1,h2⟩:=ih x h hm;have:=(Zi.mp h2).1;exact#[h1,by rw[y9 this];exact h2]
  ·rw[Zd.mp h,ho];refine#[∅,?_];rw[show((W.length:Int)+1-1).toNat=W.length by omega,ZV (Za _),Nat.sub_self];rfl
theorem Tie.of(t:Tie me L W):∀(i:Nat) (w:Wh),W[i]?=some w->∃x∈L,x.2.h=me/\aI x.2=(i:Int)+1/\x.2.w=w:=by
 induction t with
 |nil=>intro i w h;simp at h
 |@oth L W y t hy hw ih =>intro i w h;obtain⟨x,hx,r⟩:=ih i w h;exact#[x,Z3 _ hx,r]
 |@own L W y t hy ho ih =>
  intro i w h;by_cases c:i<W.length
  ·rw[y9 c]at h;obtain⟨x,hx,r⟩:=ih i w h;exact#[x,Z3 _ hx,r]
  ·have hl:=(Zi.mp h).1;rw[Zk]at hl;have hl:i<W.length+1:=hl;obtain rfl:i=W.length:=∅
   rw[ZV (Za _),Nat.sub_self]at h;have h:some y.2.w=some w:=h;exact#[y,Zr _ (Zd.mpr rfl),hy,ho,Zn h]
theorem Tie.off(t:Tie me L W){x:MU×Dd}(hx:x∈L)(hm:x.2.h=me):aQ L x.2=(ba W (aI x.2)).isSome:=by
 obtain⟨h1,h2⟩:=t.at x hx hm;have e:=t.ltn (aI x.2);unfold aQ;rw[jH,hm];cases el:K44.ltn L [.inl (me:Int),.inl (aI x.2)]with
 |none =>rw[el]at e;rw[rX e.symm];cases isT x.2.w<;>rfl
 |some y =>rw[el]at e;rw[yi e.symm h2];obtain⟨_,ht⟩:=nQ el;obtain⟨_,b,eb⟩:=mK.mp ht;show(!isT x.2.w&&DN y.2.w)=_;rw[eb];cases b<;>cases isT x.2.w<;>rfl
theorem Tie.off_at(t:Tie me L W){x y:MU×Dd}(hx:x∈L)(hm:x.2.h=me)(ho:aQ L x.2=true)(hy:K44.ltn L (nmK x.2)=some y):ba W (aI x.2)=some (aI y.2):=by
 obtain⟨h1,h2⟩:=t.at x hx hm;have e:=t.ltn (aI x.2);rw[jH,hm]at hy;rw[hy]at e;have h:=t.off hx hm;rw[ho]at h;cases eo:ba W (aI x.2)with
 |none=>rw[eo]at h;cases h
 |some m =>have:=gE eo;rw[<-e]at this;have:=Zn this;injection this with _ z;rw[z]
theorem Tie.all_own(t:Tie me L W){x:MU×Dd}(hx:x∈L)(ho:aQ L x.2=true):x.2.h=me:=by
 by_cases c:x.2.h=me
 ·exact c
 ·obtain⟨y,hy,_⟩:=fV ho;rw[jH,t.oth_off (λz=>c ∅)]at hy;cases hy
theorem Tie.get(t:Tie me L W)(tw:TW W){k m:Int}(h:ba W k=some m):∃x∈L,x.2.h=me/\aI x.2=k/\aQ L x.2=true:=by
 obtain⟨k1,k2⟩:=tw.of (gE h);obtain⟨x,hx,hm,ho,_⟩:=t.of (k-1).toNat _ (Zj (show(k-1).toNat<W.length by omega));have ek:aI x.2=k:=∅
 exact#[x,hx,hm,ek,by rw[t.off hx hm,ek,h];rfl]
def UnW(W:List Wh)(r:Int):Prop:=(r=0/\∀(i:Nat) (w:Wh),W[i]?=some w->di w=true->(ba W ((i:Int)+1)).isSome=true)\/∃(i:Nat) (w:Wh),r=(i:Int)+1/\W[i]?=some w/\di w=true/\ba W r=none/\∀(j:Nat) (w':Wh),W[j]?=some w'->di w'=true->ba W ((j:Int)+1)=none->(j:Int)+1<=r
def ReW(W:List Wh)(r:Int):Prop:=(r=0/\∀k,ba W k=none)\/∃m,ba W r=some m/\∀k m',ba W k=some m'->m'<=m
theorem Tie.undo(t:Tie me L W){r:Int}(u:UnW W r):(UndoIs L me none->r=0)/\∀k,UndoIs L me (some k)->r=k/\r≠0:=by
 refine#[λz=>?_,λk z=>?_]
 ·cases z with
  |none h =>
   rcases u with⟨h0,_⟩|⟨i,w,hr,hi,hu,ho,_⟩
   ·exact h0
   ·obtain⟨x,hx,hm,hn,hw⟩:=t.of i w hi;have:=h x hx hm (by rw[t.off hx hm,hn,<-hr,ho];rfl);rw[hw,hu]at this;cases this
 ·cases z with
  |some x hx hm ho hu mx =>
   obtain⟨h1,h2⟩:=t.at x hx hm;have e1:(((aI x.2-1).toNat:Nat):Int)+1=aI x.2:=∅
   have oN:ba W (aI x.2)=none:=by
    have:=t.off hx hm;rw[ho]at this;cases e:ba W (aI x.2)with
    |none=>rfl
    |some m=>rw[e]at this;cases this
   rcases u with⟨_,h⟩|⟨i,w,hr,hi,hu',ho',mx'⟩
   ·have:=h _ _ h2 hu;rw[e1,oN]at this;cases this
   ·have a1:=mx' _ _ h2 hu (by rw[e1];exact oN);obtain⟨y,hy,hym,hyn,hyw⟩:=t.of i w hi;have a2:=mx y hy hym (by rw[t.off hy hym,hyn,<-hr,ho'];rfl) (by rw[hyw];exact hu');exact#[∅,∅]
theorem Tie.redo(t:Tie me L W)(tw:TW W){r:Int}(u:ReW W r):(RedoIs L me none->r=0)/\∀k,RedoIs L me (some k)->r=k/\r≠0:=by
 refine#[λz=>?_,λk z=>?_]
 ·cases z with
  |none h =>
   rcases u with⟨h0,_⟩|⟨m,hm,_⟩
   ·exact h0
   ·obtain⟨x,hx,hxm,_,ho⟩:=t.get tw hm;rw[h x hx hxm]at ho;cases ho
 ·cases z with
  |some x y hx hm ho hy mx =>
   have e:=t.off_at hx hm ho hy;have n0:=(t.at x hx hm).1;rcases u with⟨_,h⟩|⟨m,hr,mm⟩
   ·rw[h]at e;cases e
   ·have a1:=mm _ _ e;obtain⟨x',hx',hm',hn',ho'⟩:=t.get tw hr;obtain⟨y',hy',_⟩:=fV ho';have e':=t.off_at hx' hm' ho' hy';rw[hn',hr]at e';have e':=Zn e';have a2:=mx x' y' hx' hm' ho' hy';have em:m=aI y.2:=∅
    rw[<-em]at e;have:=DM hr e;exact#[this,∅]
end
structure WsAt(H:Hp)(a:MU)(ws:Nh)(W:List Wh):Prop where
 e:H a=some (.lst ws)
 p:Paired (WR H) ws W
theorem WsAt.same{H H':Hp}{a:MU}{ws:Nh}{W:List Wh}(x:WsAt H a ws W)(s:Same H H'):WsAt H' a ws W:=#[s _ _ x.e,Paired.mapP x.p λ_ _ z=>WR.ts z (Na s)]
theorem WsAt.len{H:Hp}{a:MU}{ws:Nh}{W:List Wh}(x:WsAt H a ws W):ws.length=W.length:=ZH x.p
abbrev ky(kvs:List (Key×V)):List Key:=kvs.map λx=>x.1
def inK(l:List Key)(k:Int):Bool:=l.any λx=>decide (x=.inl k)
theorem iq{l:List Key}{k:Int}:inK l k=true↔(Sum.inl k:Key)∈l:=by unfold inK;rw[List.any_eq_true];exact#[fun⟨x,hx,h⟩=>(ZM h)▸hx,λh=>#[_,h,decide_eq_true rfl]]
structure OffOk(kvs:List (Key×V))(W:List Wh):Prop where
 nd:(kvs.map (·.1)).Nodup
 ks:∀p∈kvs,∃k,p.1=.inl k
 get:∀k,aH kvs (.inl k)=(ba W k).map V.int
inductive LkR(H:Hp):Option V->Option (Bool×Int)->Prop
 |no:LkR H none none
 |is (t:MU) (b:Bool) (m:Int) (e:H t=some (.tup [.str (ofW b),.int m])):LkR H (some (.ref t)) (some (b,m))
theorem LkR.ts{H H':Hp}{o:Option V}{q:Option (Bool×Int)}(x:LkR H o q)(s:TS H H'):LkR H' o q:=by
 cases x with
 |no=>exact .no
 |is t b m e=>exact .is t b m (s _ _ e)
structure LkOk(H:Hp)(kvs:List (Key×V))(W:List Wh):Prop where
 nd:(kvs.map (·.1)).Nodup
 ks:∀p∈kvs,∃k,p.1=.inl k
 get:∀k,LkR H (aH kvs (.inl k)) (lt2 W k)
theorem LkOk.ts{H H':Hp}{kvs:List (Key×V)}{W:List Wh}(x:LkOk H kvs W)(s:TS H H'):LkOk H' kvs W:=#[x.nd,x.ks,λk=>(x.get k).ts s]
theorem nF{κ:Type}[DecidableEq κ]{kvs:List (κ×V)}{k:κ}{v:V}(hn:(kvs.map (·.1)).Nodup):((bh kvs k v).map (·.1)).Nodup:=by
 cases e:aH kvs k with
 |none=>exact Fw v hn e
 |some x =>
  unfold bh;rw[eR,e,Option.isSome_some,MO rfl,x4];rw[show ((λx:κ×V=>x.1) ∘ λkv:κ×V=>if kv.1=k then (kv.1,v) else kv)=λx:κ×V=>x.1 by
   funext y;by_cases c:y.1=k
   ·show(if y.1=k then(y.1,v)else y).1=y.1;rw[MO c]
   ·show(if y.1=k then(y.1,v)else y).1=y.1;rw[MN c]]
  exact hn
theorem uY{kvs:List (Key×V)}{k:Int}{v:V}(h:∀p∈kvs,∃k,p.1=.inl k):∀p∈bh kvs (.inl k) v,∃k,p.1=.inl k:=by
 intro p hp;unfold bh at hp;split at hp
 ·obtain⟨q,hq,rfl⟩:=Zm.mp hp;obtain⟨j,hj⟩:=h q hq;refine#[j,?_];split
  ·exact hj
  ·exact hj
 ·rcases Zs.mp hp with z|z
  ·exact h p z
  ·rw[Zd.mp z];exact#[k,rfl]
theorem jF{j k:Int}:((Sum.inl j:Key)=Sum.inl k)↔j=k:=#[λh=>by injection h,λh=>by rw[h]]
theorem dO{κ:Type}[DecidableEq κ]{kvs:List (κ×V)}{k:κ}:(aH kvs k).isSome=true↔k∈kvs.map (·.1):=by
 rw[<-eR,List.any_eq_true];constructor
 ·rintro⟨p,hp,h⟩;exact Zm.mpr #[p,hp,ZM h]
 ·intro h;obtain⟨p,hp,e⟩:=Zm.mp h;exact#[p,hp,decide_eq_true e]
inductive spOffL(vs:Nh)(H:Hp)(Q:VK)(E:XK):Prop
 |mk (a:MU) (ws:Nh) (W:List Wh) (h0:vs=[.ref a]) (h1:WsAt H a ws W) (hz:W.length<=63) (tw:TW W) (q:∀p kvs H',Same H H'->H p=none->H' p=some (.dK kvs)->kvs.length<=63->OffOk kvs W->Q (.ref p) H'):spOffL vs H Q E
theorem Dh{xs:Nh}{k:Int}{v:V}(h1:1<=k)(h:xs[(k-1).toNat]?=some v):atI xs (k-1)=some v:=by
 have:k-1=(((k-1).toNat:Nat):Int):=∅
 rw[this];exact fD h
theorem Cj{α β:Type}{R:α->β->Prop}{xs:List α}{ys:List β}(x:Paired R xs ys):∀{i:Nat} {b:β},ys[i]?=some b->∃a,xs[i]?=some a/\R a b:=by
 induction x with
 |nil=>intro i a h;simp at h
 |cons r _ ih =>
  intro i a h;cases i with
  |zero=>cases h;exact#[_,rfl,r]
  |succ i=>exact ih h
abbrev Ak:Stmt:=top 92
abbrev IX:List Str:=["_law_whats","_law_last","_law_k","_law_what_here","_law_found","_law_number"]
theorem jN:FnScope IX ["_law_whats"] (aj Ak):= ~~~0
theorem Ht{f:MU}{fd:M0}(F:Fun K "_law_off" "_law_off" Ak f fd)(d8:mg "enumerate" = none):↑FnOk CX0 1 f fd ["_law_whats"] spOffL:=by
 exists jN
 obtain⟨a,ws,W,rfl,hW,hz,tw,q⟩:=h;have ll:=hW.len;exists _,(b_c (aC (i:=1) jN.nd Ih)
   (b_c (cH ZS rfl (uU d8 (q_a ↑0 ag)) (gj rfl (bq (aA (i:=2) jN.nd) (bq (aA (i:=3) jN.nd) eV))) (b_1 (aJ (ax (km (K:=K) rfl) (aq ao ↑3 ai) (aB (q_a ar (q_a ar ag)))) (b_1 (fK hr.units ↑1 (aq ao ↑3 ai) (aB (q_a (aq ao ↑3 ai) (q_a (bg dU ↑2 ai) ag))))) b_0)))
   (b_c (aC (i:=4) jN.nd Ih)
   (b_c (cH ZS rfl (uT ↑1) (aA (i:=5) jN.nd) (b_1 (aJ (t_w (dY (ax br (aq ao (cu hr.units ↑1 ↑5) ai) ar) (dN (ax (nV (K:=K) rfl) (aq ao (aq eS ↑0 (bg zI ↑5 ai)) ai) (aB (q_a ar (q_a ar ag))))))) (b_1 (fK hr.units ↑4 ↑5 (aq ao (cu hr.units ↑1 ↑5) ai))) b_0)))
   (b_1 (am ↑4))))))
 refine ay λR0 hR0=>?_;refine λp g=>hR0 _ _ ?_;have s0:=af g (.dK []);have e0:upd H p (.dK []) p=some (.dK []):=ad;generalize upd H p (.dK [])=H0 at s0 e0 ⊢;refine ay λR0 hR0=>?_;refine#[_,rfl,a,ws,rfl,s0 _ _ hW.e,?_];refine ld (i:=2) (j:=3) (λi σ H'=>Same H H'/\∃o2 o3 kvs,σ=[some (.ref a),some (.ref p),o2,o3,none,none]/\H' p=some (.dK kvs)/\kvs.length<=i/\LkOk H' kvs (W.take i)) #[s0,none,none,[],rfl,e0,Za _,#[.nil,λ_ z=>(nomatch z),λk=>.no]] (λi σ H' _ z=>Nc (z.1 _ _ hW.e)) ?_ ?_
 ·rintro i v σ H' hv ⟨sm,o2,o3,kvs,rfl,ep,lk,ok⟩ DL hDL T gT;obtain⟨w,hw,wr⟩:=bW hW.p hv;have wT:=af gT (.tup [.int (i:Int),v]);have s1:=sm.trans wT;have ep1:=wT _ _ ep;have ok1:=ok.ts (Na wT);generalize upd H' T (.tup [.int (i:Int),v])=H1 at s1 ep1 ok1 ⊢;have wr1:=wr.ts (Na s1);have hi:i<W.length:=(Zi.mp hw).1;obtain⟨p0,r,rfl,e5⟩:=wr1.head;refine vix rfl (Nb e5) at0 #[sz rfl,λtp gtp=>?_];have wtp:=af gtp (.tup [.str "off",.str "on"]);refine#[tp,_,rfl,.inr (Nb ad),rfl,rfl,_,rfl,?_];rw[MN Zg,qA];have s2:=s1.trans wtp;have ep2:=wtp _ _ ep1;have ok2:=ok1.ts (Na wtp);have e52:=wtp _ _ e5;generalize upd H1 tp (.tup [.str "off",.str "on"])=H2 at s2 ep2 ok2 e52 ⊢;rw[x9,hw]at hDL;cases w with
  |trn b k =>
   obtain⟨p1,e1,e6⟩:=wr.ts (Na s2);cases e1;rw[e6]at e52;cases e52;refine aK ?_;refine vix rfl (Nb e6) at0 #[_,rfl,_,_,rfl,rfl,sz rfl,λt gt=>?_];have wt:=af gt (.tup [.str (ofW b),.int ((i:Int)+1)]);have ep3:=wt _ _ ep2;have et:upd H2 t (.tup [.str (ofW b),.int ((i:Int)+1)]) t=some (.tup [.str (ofW b),.int ((i:Int)+1)]):=ad;have ok3:=ok2.ts (Na wt);have s3:=s2.trans wt;have e63:=wt _ _ e6;generalize upd H2 t (.tup [.str (ofW b),.int ((i:Int)+1)])=H3 at ep3 et ok3 s3 e63 ⊢;refine#[_,rfl,vix rfl (Nb e63) at1 #[p,_,rfl,DPut.k (k:=.inl k) ep3 (be ∅),hDL _ _ ?_]];have tsu:TS H3 (upd H3 p (.dK (bh kvs (.inl k) (.ref t)))):=dh λzs z=>by rw[ep3]at z;cases z
   refine#[dH s3 g,_,_,_,rfl,ad,?_,#[nF ok3.nd,uY ok3.ks,λj=>?_]]
   ·have:=cJ kvs (.inl k) (.ref t);omega
   ·show LkR _ _ (lt2 (W.take i++[.trn b k]) j);rw[dI,fU];show LkR _ _ (if k=j then some (b,((W.take i).length:Int)+1)else lt2 (W.take i) j);by_cases c:k=j
    ·rw[MO (by rw[c]),MO c,ZP,YV ∅];exact .is t b _ (tsu _ _ et)
    ·rw[MN (λz=>c (jF.mp z).symm),MN c];exact(ok3.get j).ts tsu
  |no=>exact aD (hDL _ _ #[s2,_,_,kvs,rfl,ep2,Yn lk,#[ok2.nd,ok2.ks,λj=>by show LkR _ _ (lt2 (W.take i++[.no]) j);rw[fU];exact ok2.get j]])
  |put m=>exact aD (hDL _ _ #[s2,_,_,kvs,rfl,ep2,Yn lk,#[ok2.nd,ok2.ks,λj=>by show LkR _ _ (lt2 (W.take i++[.put m]) j);rw[fU];exact ok2.get j]])
  |itm c h k=>exact aD (hDL _ _ #[s2,_,_,kvs,rfl,ep2,Yn lk,#[ok2.nd,ok2.ks,λj=>by show LkR _ _ (lt2 (W.take i++[.itm c h k]) j);rw[fU];exact ok2.get j]])
 rintro σ H' ⟨sm,o2,o3,kvs,rfl,ep,lk,ok⟩;refine hR0 _ _ ?_;rw[ll,ZQ]at ok;refine ay λR0 hR0=>?_;refine λp2 g2=>hR0 _ _ ?_;have w2:=af g2 (.dK []);have e2:upd H' p2 (.dK []) p2=some (.dK []):=ad;have ep2:=w2 _ _ ep;have ok2:=ok.ts (Na w2);have s2:=sm.trans w2;have g20:H p2=none:=sm.free g2;have n12:p≠p2:=λz=>by rw[z,g2]at ep;cases ep
 generalize upd H' p2 (.dK [])=H2 at w2 e2 ep2 ok2 s2 ⊢;refine ay λR0 hR0=>?_;refine#[_,rfl,p,kvs,rfl,ep2,λo=>?_];have ts3:TS H2 (upd H2 p (.frz o (.dK kvs))):=dh λzs z=>by rw[ep2]at z;cases z
 refine uP (j:=5) (λi σ H'=>Same H H'/\H' p=some (.frz o (.dK kvs))/\LkOk H' kvs W/\∃o5 kv2,σ=[some (.ref a),some (.ref p),o2,o3,some (.ref p2),o5]/\H' p2=some (.dK kv2)/\kv2.length<=i/\(kv2.map (·.1)).Nodup/\(∀p∈kv2,∃k,p.1=.inl k)/\∀k:Int,aH kv2 (.inl k)=if inK (ky (kvs.take i)) k=true then(ba W k).map V.int else none)
  #[dH s2 g,ad,ok2.ts ts3,none,[],rfl,by rw[ah n12.symm];exact e2,Za _,.nil,λ_ z=>(nomatch z),λk=>rfl] (λi σ H' _ z=>z.2.1) ?_ ?_
 ·rintro i pr σ H' hp ⟨sm,ef,ok,o5,kv2,rfl,ek,lk2,nd2,ks2,gt2⟩ DL hDL hrt;have hik:=(Zi.mp hp).1;obtain⟨k,hk⟩:=ok.ks pr (Zv hp);obtain⟨pk,pv⟩:=pr;have hk:pk=.inl k:=hk;subst hk;rw[x9,hp,Option.toList_some,show ky (kvs.take i++[((Sum.inl k:Key),pv)])=ky (kvs.take i)++[(Sum.inl k:Key)]from Zy]at hDL;have hin:(Sum.inl k:Key)∈ky kvs:=Zm.mpr #[_,Zv hp,rfl];have nin:¬(Sum.inl k:Key)∈ky (kvs.take i):=λz=>by have nd:=ok.nd;rw[<-List.take_append_drop i kvs,Zy]at nd;have hd:(Sum.inl k:Key)∈(kvs.drop i).map (·.1):=Zm.mpr #[_,Zv (i:=0) (by rw[List.getElem?_drop];exact hp),rfl];exact(List.nodup_append.mp nd).2.2 _ z _ hd rfl
  have upS:∀kv3:List (Key×V),(∀j,aH kv3 (.inl j)=if j=k then(ba W k).map V.int else aH kv2 (.inl j))->∀j,aH kv3 (.inl j)=if inK (ky (kvs.take i)++[(Sum.inl k:Key)]) j=true then(ba W j).map V.int else none:=λkv3 h j=>by
   rw[h j];by_cases c:j=k
   ·rw[MO c,MO (iq.mpr (by rw[c];exact Zr _ (Zd.mpr rfl))),c]
   ·rw[MN c,gt2 j];by_cases c2:inK (ky (kvs.take i)) j=true
    ·rw[MO c2,MO (iq.mpr (Z3 _ (iq.mp c2)))]
    ·rw[MN c2,MN λz=>(Zs.mp (iq.mp z)).elim (λz=>c2 (iq.mpr z)) λz=>c (jF.mp (Zd.mp z))]
  have gk:=ok.get k;have sv:=dO.mpr hin;have v2:aH kv2 (.inl k)=none:=by rw[gt2 k,MN λz=>nin (iq.mp z)]
  have skip:ba W k=none->∀ {H3:Hp},Same H' H3->DL.nx [some (.ref a),some (.ref p),o2,o3,some (.ref p2),some (.int k)] H3:=λz H3 s3=>hDL _ _ #[sm.trans s3,s3 _ _ ef,ok.ts (Na s3),_,kv2,rfl,s3 _ _ ek,Yn lk2,nd2,ks2,upS kv2 λj=>by
   by_cases c:j=k
   ·rw[MO c,c,v2,z];rfl
   ·rw[MN c]]
  have dg:=DGet.fk (k:=.inl k) ef;cases hv:aH kvs (.inl k)with
  |none=>rw[hv]at sv;cases sv
  |some tv =>
   rw[hv]at gk dg;generalize hl:lt2 W k=lo at gk;cases gk with
   |is t b m et =>
    obtain⟨k1,k2⟩:=tw.of hl;obtain⟨w,hw⟩:∃w,W[(k-1).toNat]?=some w:=#[_,Zj ∅]
    obtain⟨v,hv',wr⟩:=Cj (hW.same sm).p hw;have oi:=yi hl hw;refine#[_,rfl,_,rfl,p,_,rfl,dg,t,_,_,_,rfl,rfl,Nb et,at0,rfl,_,rfl,?_];rw[yg];cases b with
    |true=>exact aD (aD (skip oi (Same.refl _)))
    |false =>
     obtain⟨p0,r,rfl,e5⟩:=wr.head;refine aK #[_,rfl,_,rfl,_,_,rfl,rfl,a,_,_,_,rfl,rfl,Nc (sm _ _ hW.e),Dh k1 hv',p0,_,_,_,rfl,rfl,Nb e5,at0,sz rfl,λtp gtp=>?_];have wtp:=af gtp (.tup [.str "off",.str "on"]);refine#[tp,_,rfl,.inr (Nb ad),rfl,rfl,_,rfl,?_];rw[MO rfl,qA];cases ht:isT w with
     |true =>rw[ht]at oi;exact aD (skip oi wtp)
     |false =>
      rw[ht]at oi;have oi:ba W k=some m:=oi;have dg3:=DGet.fk (k:=.inl k) (wtp _ _ ef);rw[hv]at dg3;have ek3:=wtp _ _ ek;have s3:=sm.trans wtp;have ok3:=ok.ts (Na wtp);have ef3:=wtp _ _ ef;have et3:=wtp _ _ et;generalize upd H' tp (.tup [.str "off",.str "on"])=H3 at dg3 ek3 s3 ok3 ef3 et3 ⊢;refine aK #[_,rfl,_,rfl,p,_,rfl,dg3,t,_,_,_,rfl,rfl,Nb et3,at1,_,rfl,_,rfl,p2,_,rfl,DPut.k (k:=.inl k) ek3 (be ∅),hDL _ _ ?_];have tsu:TS H3 (upd H3 p2 (.dK (bh kv2 (.inl k) (.int m)))):=dh λzs z=>by rw[ek3]at z;cases z
      refine#[dH s3 g20,by rw[ah n12];exact ef3,ok3.ts tsu,_,_,rfl,ad,?_,nF nd2,uY ks2,upS _ λj=>?_]
      ·have:=cJ kv2 (.inl k) (.int m);omega
      ·rw[dI,oi];by_cases c:j=k
       ·rw[MO (by rw[c]),MO c];rfl
       ·rw[MN (λz=>c (jF.mp z)),MN c]
 ·rintro σ H' ⟨sm,ef,ok,o5,kv2,rfl,ek,lk2,nd2,ks2,gt2⟩;refine hR0 _ _ ?_;rw[ZQ]at gt2;refine#[_,rfl,q p2 kv2 H' sm g20 ek ∅ #[nd2,ks2,λk=>?_]];rw[gt2 k];by_cases c:inK (ky kvs) k=true
  ·rw[MO c]
  ·rw[MN c];have gk:=ok.get k;cases hv:aH kvs (.inl k)with
   |some v=>exact(c (iq.mpr (dO.mp (by rw[hv];rfl)))).elim
   |none =>rw[hv]at gk;generalize hl:lt2 W k=lo at gk;cases gk;rw[rX hl];rfl
inductive spLUn(Wp:List Wh->Int->Prop)(vs:Nh)(H:Hp)(Q:VK)(E:XK):Prop
 |mk (a:MU) (ws:Nh) (W:List Wh) (h0:vs=[.ref a]) (h1:WsAt H a ws W) (hz:W.length<=63) (tw:TW W) (q:∀r H',Same H H'->Wp W r->Q (.int r) H'):spLUn Wp vs H Q E
structure UnI(W:List Wh)(i:Nat)(ns:M5):Prop where
 z:0∈ns
 of:∀n∈ns,n=0\/∃(j:Nat) (w:Wh),n=(j:Int)+1/\W[j]?=some w/\di w=true/\ba W n=none
 all:∀(j:Nat) (w:Wh),j<i->W[j]?=some w->di w=true->ba W ((j:Int)+1)=none->(j:Int)+1∈ns
theorem UnI.skip{W:List Wh}{i:Nat}{ns:M5}{w:Wh}(u:UnI W i ns)(hw:W[i]? = some w)(h:di w=true->ba W ((i:Int)+1)≠none):UnI W (i+1) ns:=#[u.z,u.of,λj w' hj hw' hu ho=>by
 by_cases c:j=i
 ·subst c;rw[hw]at hw';cases hw';exact(h hu ho).elim
 ·exact u.all j w' ∅ hw' hu ho]
theorem UnI.add{W:List Wh}{i:Nat}{ns:M5}{w:Wh}(u:UnI W i ns)(hw:W[i]? = some w)(hu:di w=true)(ho:ba W ((i:Int)+1)=none):UnI W (i+1) (ns++[(i:Int)+1]):=#[Z3 _ u.z,λn hn=>(Zs.mp hn).elim (u.of n) λz=>.inr #[i,w,Zd.mp z,hw,hu,by rw[Zd.mp z];exact ho],λj w' hj hw' hu' ho'=>by
 by_cases c:j=i
 ·subst c;exact Zr _ (Zd.mpr rfl)
 ·exact Z3 _ (u.all j w' ∅ hw' hu' ho')]
theorem UnI.fin{W:List Wh}{ns:M5}{M:Int}(u:UnI W W.length ns)(hM:M∈ns)(mx:∀x∈ns,x<=M):UnW W M:=by
 rcases u.of M hM with h|⟨j,w,h1,h2,h3,h4⟩
 ·refine .inl #[h,λi w hw hu=>?_];cases e:ba W ((i:Int)+1)with
  |some m=>rfl
  |none =>have:=mx _ (u.all i w (Zi.mp hw).1 hw hu e);omega
 ·exact .inr #[j,w,h1,h2,h3,h4,λi w' hw hu ho=>mx _ (u.all i w' (Zi.mp hw).1 hw hu ho)]
abbrev ml:Stmt:=top 93
abbrev A5:List Str:=["_law_whats","_law_off_here","_law_some","_law_k","_law_what_here"]
theorem fN:FnScope A5 ["_law_whats"] (aj ml):= ~~~0
theorem Ad{f:MU}{fd:M0}(F:Fun K "_law_to_undo" "_law_to_undo" ml f fd)(Kr:↑Fn 1 "_law_off" ["_law_whats"] spOffL)(d8:mg "enumerate" = none)(n6:mg "max" = none):↑FnOk CX0 2 f fd ["_law_whats"] (spLUn UnW):=by
 exists fN
 obtain⟨a,ws,W,rfl,hW,hz,tw,q⟩:=h;have ll:=hW.len;exists _,(b_c (aC (i:=1) fN.nd (aw Kr ↑99 (q_a ↑0 ag)))
   (b_c (aC (i:=2) fN.nd (dX (q_a ai ag)))
   (b_c (cH ZS rfl (uU d8 (q_a ↑0 ag)) (gj rfl (bq (aA (i:=3) fN.nd) (bq (aA (i:=4) fN.nd) eV))) (b_1 (aJ (t_w (dY (ax (nV (K:=K) rfl) (aq ao ↑4 ai) (aB (q_a ar (q_a ar (q_a ar ag))))) (dN (oH hr.units (bg dU ↑3 ai) ↑1)))) (b_1 (bP (hG ↑2 (bg dU ↑3 ai)))) b_0)))
   (b_1 (am (q_B (GU (K:=K) rfl rfl) n6 uA (q_a ↑2 ag)))))))
 refine ay λR0 hR0=>?_;refine#[_,rfl,a,ws,W,rfl,hW,hz,tw,λp kvs H1 s1 g1 ep lk ok=>hR0 _ _ ?_];refine ay λR0 hR0=>?_;refine#[sz rfl,λl gl=>hR0 _ _ ?_];have w2:=af gl (.lst [.int 0]);have el:upd H1 l (.lst [.int 0]) l=some (.lst ([(0:Int)].map V.int)):=ad;generalize upd H1 l (.lst [.int 0])=H2 at w2 el ⊢;refine ay λR0 hR0=>?_;refine#[_,rfl,a,ws,rfl,w2 _ _ (s1 _ _ hW.e),?_];refine ld (i:=3) (j:=4) (λi σ H'=>Same H1 H'/\∃o3 o4 ns,σ=[some (.ref a),some (.ref p),some (.ref l),o3,o4]/\H' l=some (.lst (ns.map V.int))/\ns.length<=i+1/\UnI W i ns) #[w2,none,none,[0],rfl,el,Za _,#[Zd.mpr rfl,λn hn=>.inl (Zd.mp hn),λj w hj=>(nomatch hj)]] (λi σ H' _ z=>Nc (z.1 _ _ (s1 _ _ hW.e))) ?_ ?_
 ·rintro i v σ H' hv ⟨sm,o3,o4,ns,rfl,el,ln,u⟩ DL hDL T gT;obtain⟨w,hw,wr⟩:=bW hW.p hv;have hi:i<W.length:=(Zi.mp hw).1;have wT:=af gT (.tup [.int (i:Int),v]);have s3:=sm.trans wT;have el3:=wT _ _ el;generalize upd H' T (.tup [.int (i:Int),v])=H3 at s3 el3 ⊢;obtain⟨p0,r,rfl,e5⟩:=(wr.ts (Na (s1.trans s3))).head;refine vix rfl (Nb e5) at0 #[sz rfl,λtp gtp=>?_];have wtp:=af gtp (.tup [.str "off",.str "on",.str "none"]);refine#[tp,_,rfl,.inr (Nb ad),rfl,rfl,_,rfl,?_];rw[MO rfl,BI];have s4:=s3.trans wtp;have el4:=wtp _ _ el3;generalize upd H3 tp (.tup [.str "off",.str "on",.str "none"])=H4 at s4 el4 ⊢;cases hu:di w with
  |false=>exact aD (aD (hDL _ _ #[s4,_,_,ns,rfl,el4,∅,u.skip hw λz=>by rw[hu]at z;cases z]))
  |true =>
   have dg:=DGet.k (k:=.inl ((i:Int)+1)) (s4 _ _ ep);rw[ok.get]at dg;refine aK #[_,rfl,_,_,rfl,rfl,_,rfl,p,_,rfl,dg,_,rfl,?_];cases ho:ba W ((i:Int)+1)with
   |some m=>exact aD (hDL _ _ #[s4,_,_,ns,rfl,el4,∅,u.skip hw λ_ z=>by rw[ho]at z;cases z])
   |none =>refine aK #[_,rfl,.inl #[rfl,_,Nc el4],_,rfl,_,_,rfl,rfl,l,_,_,rfl,rfl,el4,be (by rw[Zb];omega),hDL _ _ #[dH s4 gl,_,_,ns++[(i:Int)+1],rfl,?_,by rw[Zk];exact y8 ln,u.add hw hu ho]];rw[Zy];exact ad
 ·rintro σ H' ⟨sm,o3,o4,ns,rfl,el,ln,u⟩;rw[ll]at u;exact hR0 _ _ #[_,rfl,l,ns,rfl,Nc el,(λz=>by have:=u.z;rw[z]at this;cases this),λM hM mx=>q M H' (s1.trans sm) (u.fin hM mx)]
def ReI(W:List Wh)(ks:List Key)(r:Int):Prop:=(r=0/\ks=[])\/∃m,ba W r=some m/\r≠0/\∀k,(Sum.inl k:Key)∈ks->∀m',ba W k=some m'->m'<=m
theorem ReI.fin{W:List Wh}{kvs:List (Key×V)}{r:Int}(ok:OffOk kvs W)(h:ReI W (ky kvs) r):ReW W r:=by
 have mem:∀{k m},ba W k=some m->(Sum.inl k:Key)∈ky kvs:=fun{k m} e=>dO.mp (by rw[ok.get k,e];rfl);rcases h with⟨h1,h2⟩|⟨m,h1,_,h3⟩
 ·refine .inl #[h1,λk=>?_];cases e:ba W k with
  |none=>rfl
  |some m =>have:=mem e;rw[h2]at this;cases this
 ·exact .inr #[m,h1,λk m' e=>h3 k (mem e) m' e]
abbrev mj:Stmt:=top 94
abbrev A4:List Str:=["_law_whats","_law_off_here","_law_found","_law_number"]
theorem fM:FnScope A4 ["_law_whats"] (aj mj):= ~~~0
theorem Ac{f:MU}{fd:M0}(F:Fun K "_law_to_redo" "_law_to_redo" mj f fd)(Kr:↑Fn 1 "_law_off" ["_law_whats"] spOffL):↑FnOk CX0 2 f fd ["_law_whats"] (spLUn ReW):=by
 exists fM
 obtain⟨a,ws,W,rfl,hW,hz,tw,q⟩:=h;exists _,(b_c (aC (i:=1) fM.nd (aw Kr ↑99 (q_a ↑0 ag)))
   (b_c (aC (i:=2) fM.nd ai)
   (b_c (cH ZS rfl (uT ↑1) (aA (i:=3) fM.nd) (b_1 (aJ (t_w (gY (ax br ↑2 ai) (fQ (ax qI (cu hr.units ↑1 ↑2) (cu hr.units ↑1 ↑3))))) (b_1 (aC (i:=2) fM.nd ↑3)) b_0)))
   (b_1 (am ↑2)))))
 refine ay λR0 hR0=>?_;refine#[_,rfl,a,ws,W,rfl,hW,hz,tw,λp kvs H1 s1 g1 ep lk ok=>hR0 _ _ ?_];refine ay λR0 hR0=>hR0 _ _ ?_;refine ay λR0 hR0=>?_;refine#[_,rfl,p,kvs,rfl,ep,λo=>?_];refine uP (j:=3) (λi σ H'=>Same H H'/\H' p=some (.frz o (.dK kvs))/\∃r o3,σ=[some (.ref a),some (.ref p),some (.int r),o3]/\ReI W (ky (kvs.take i)) r) #[dH s1 g1,ad,0,none,rfl,.inl #[rfl,rfl]] (λi σ H' _ z=>z.2.1) ?_ ?_
 ·rintro i pr σ H' hp ⟨sm,ef,r,o3,rfl,ri⟩ DL hDL hrt;obtain⟨k,hk⟩:=ok.ks pr (Zv hp);obtain⟨pk,pv⟩:=pr;have hk:pk=.inl k:=hk;subst hk;rw[x9,hp,Option.toList_some,show ky (kvs.take i++[((Sum.inl k:Key),pv)])=ky (kvs.take i)++[(Sum.inl k:Key)]from Zy]at hDL;have sv:(aH kvs (.inl k)).isSome=true:=dO.mpr (Zm.mpr #[_,Zv hp,rfl]);rw[ok.get k]at sv;cases hm:ba W k with
  |none=>rw[hm]at sv;cases sv
  |some m =>
   have dk:=DGet.fk (k:=.inl k) ef;rw[ok.get k,hm]at dk;have k0:k≠0:=by have:=(tw.of (gE hm)).1;omega
   refine#[_,rfl,rfl,_,rfl,qD (λe=>?_) (λne=>?_)]
   ·refine aK #[_,rfl,hDL _ _ #[sm,ef,k,_,rfl,.inr #[m,hm,k0,λj hj m' e'=>?_]]];rcases ri with⟨_,h2⟩|⟨_,_,h2,_⟩
    ·rw[h2]at hj;have:=jF.mp (Zd.mp hj);rw[this,hm]at e';cases e';exact Int.le_refl _
    ·exact(h2 e).elim
   ·rcases ri with⟨h1,_⟩|⟨m0,h1,h2,h3⟩
    ·exact(ne h1).elim
    have dr:=DGet.fk (k:=.inl r) ef;rw[ok.get r,h1]at dr;refine#[_,rfl,_,rfl,p,_,rfl,dr,_,rfl,_,rfl,p,_,rfl,dk,_,_,rfl,rfl,_,rfl,?_];refine lg (λc=>?_) (λc=>?_)
    ·refine#[_,rfl,hDL _ _ #[sm,ef,k,_,rfl,.inr #[m,hm,k0,λj hj m' e'=>?_]]];rcases Zs.mp hj with z|z
     ·have:=h3 j z m' e';omega
     ·rw[jF.mp (Zd.mp z),hm]at e';cases e';exact Int.le_refl _
    ·refine hDL _ _ #[sm,ef,r,_,rfl,.inr #[m0,h1,h2,λj hj m' e'=>?_]];rcases Zs.mp hj with z|z
     ·exact h3 j z m' e'
     ·rw[jF.mp (Zd.mp z),hm]at e';cases e';omega
 ·rintro σ H' ⟨sm,ef,r,o3,rfl,ri⟩;rw[ZQ]at ri;exact hR0 _ _ #[_,rfl,q r H' sm (ri.fin ok)]
inductive spWhatL(vs:Nh)(H:Hp)(Q:VK)(E:XK):Prop
 |mk (nb:Int) (a it:MU) (ws:Nh) (h k:Int) (h0:vs=[.int nb,.ref a,.ref it]) (ha:H a=some (.lst ws)) (hi:H it=some (.tup ([h,k].map V.int))) (q:∀v w H',Same H H'->WR H' v w->((∃m,w=.put m)\/(ws≠[]/\∃c,w=.itm c h k))->Q v H'):spWhatL vs H Q E
abbrev vP:Stmt:=top 95
abbrev GN:List Str:=["_law_number","_law_whats","_law_item","_law_some"]
theorem mI:FnScope GN ["_law_number","_law_whats","_law_item"] (aj vP):= ~~~0
theorem FF{f:MU}{fd:M0}(F:Fun K "_law_what" "_law_what" vP f fd):↑FnOk CX0 1 f fd ["_law_number","_law_whats","_law_item"] spWhatL:=by
 exists mI
 obtain⟨nb,a,it,ws,hh,k,rfl,ha,hi,q⟩:=h;exists _,(b_c (aC (i:=3) mI.nd (dX (q_a (aB (q_a ar (q_a aW (q_a (aB (q_a (bg je ↑0 (bg Jv ai ai)) ag)) (q_a ar ag))))) (q_a (aB (q_a ar (q_a ↑2 ag))) (q_a (aB (q_a ar (q_a ↑2 (q_a ↑2 ag)))) (q_a (aB (q_a ar (q_a ↑2 (q_a eJ ag)))) ag))))))
   (b_c (aC (i:=3) mI.nd (bg ES ↑3 (dX (q_a (aB (q_a ar (q_a ↑2 ag))) (q_a (aB (q_a ar (q_a ↑2 (q_a ai (q_a (aB (q_a ai ag)) ag))))) (q_a (aB (q_a ar (q_a ↑2 (q_a aW (q_a (aB (q_a ai ag)) ag))))) (q_a (aB (q_a ar (q_a ↑2 (q_a ar ag)))) ag)))))))
   (b_c (aC (i:=3) mI.nd (bg ES ↑3 (dX (q_a (aB (q_a ar (q_a ↑2 (q_a aW ag)))) (q_a (aB (q_a ar (q_a ↑2 (q_a eJ ag)))) ag)))))
   (b_c (aJ (ax (yf (K:=K) rfl hr.units) ↑1 (dX ag)) (b_1 (am (aq eS ↑3 ai))) b_0)
   (b_1 (am (aq eS ↑3 (bg je ↑0 ai))))))))
 refine ay λR0 hR0=>?_;refine#[_,rfl,_,_,rfl,rfl,#[⋯,⋯,⋯],_,_,rfl,rfl,(by show(0:Int)<10^9;decide),?_];generalize nb%(10:Int)^Int.toNat 9=m;refine#[sz rfl,λt0 gt0=>?_];have w_t0:=af gt0 (.tup [.int m]);have e_t0:upd H t0 (.tup [.int m]) t0=some (.tup [.int m]):=ad;generalize upd H t0 (.tup [.int m])=H_t0 at w_t0 e_t0 ⊢;refine#[sz rfl,λp0 gp0=>?_];have w_p0:=af gp0 (.tup [.str "put",.non,.ref t0,.str ""]);have e_p0:upd H_t0 p0 (.tup [.str "put",.non,.ref t0,.str ""]) p0=some (.tup [.str "put",.non,.ref t0,.str ""]):=ad;generalize upd H_t0 p0 (.tup [.str "put",.non,.ref t0,.str ""])=H_p0 at w_p0 e_p0 ⊢;refine#[_,rfl,sz rfl,λp1 gp1=>?_];have w_p1:=af gp1 (.tup [.str "back",.ref it]);have e_p1:upd H_p0 p1 (.tup [.str "back",.ref it]) p1=some (.tup [.str "back",.ref it]):=ad;generalize upd H_p0 p1 (.tup [.str "back",.ref it])=H_p1 at w_p1 e_p1 ⊢;refine#[_,rfl,_,rfl,sz rfl,λp2 gp2=>?_];have w_p2:=af gp2 (.tup [.str "join",.ref it,.ref it]);have e_p2:upd H_p1 p2 (.tup [.str "join",.ref it,.ref it]) p2=some (.tup [.str "join",.ref it,.ref it]):=ad;generalize upd H_p1 p2 (.tup [.str "join",.ref it,.ref it])=H_p2 at w_p2 e_p2 ⊢;refine#[_,rfl,sz rfl,λp3 gp3=>?_];have w_p3:=af gp3 (.tup [.str "mark",.ref it,.bl true]);have e_p3:upd H_p2 p3 (.tup [.str "mark",.ref it,.bl true]) p3=some (.tup [.str "mark",.ref it,.bl true]):=ad;generalize upd H_p2 p3 (.tup [.str "mark",.ref it,.bl true])=H_p3 at w_p3 e_p3 ⊢;refine#[sz rfl,λl1 gl1=>?_];have w_l1:=af gl1 (.lst [.ref p0,.ref p1,.ref p2,.ref p3]);have e_l1:upd H_p3 l1 (.lst [.ref p0,.ref p1,.ref p2,.ref p3]) l1=some (.lst [.ref p0,.ref p1,.ref p2,.ref p3]):=ad;generalize upd H_p3 l1 (.lst [.ref p0,.ref p1,.ref p2,.ref p3])=H_l1 at w_l1 e_l1 ⊢;refine hR0 _ _ ?_;refine ay λR0 hR0=>?_;refine#[_,rfl,?_];refine#[_,rfl,sz rfl,λp4 gp4=>?_];have w_p4:=af gp4 (.tup [.str "take",.ref it]);have e_p4:upd H_l1 p4 (.tup [.str "take",.ref it]) p4=some (.tup [.str "take",.ref it]):=ad;generalize upd H_l1 p4 (.tup [.str "take",.ref it])=H_p4 at w_p4 e_p4 ⊢;refine#[_,rfl,sz rfl,λr5 gr5=>?_];have w_r5:=af gr5 (.tup [.int 0]);have e_r5:upd H_p4 r5 (.tup [.int 0]) r5=some (.tup [.int 0]):=ad;generalize upd H_p4 r5 (.tup [.int 0])=H_r5 at w_r5 e_r5 ⊢;refine#[sz rfl,λp5 gp5=>?_];have w_p5:=af gp5 (.tup [.str "part",.ref it,.int 0,.ref r5]);have e_p5:upd H_r5 p5 (.tup [.str "part",.ref it,.int 0,.ref r5]) p5=some (.tup [.str "part",.ref it,.int 0,.ref r5]):=ad;generalize upd H_r5 p5 (.tup [.str "part",.ref it,.int 0,.ref r5])=H_p5 at w_p5 e_p5 ⊢;refine#[_,rfl,sz rfl,λr6 gr6=>?_];have w_r6:=af gr6 (.tup [.int 1]);have e_r6:upd H_p5 r6 (.tup [.int 1]) r6=some (.tup [.int 1]):=ad;generalize upd H_p5 r6 (.tup [.int 1])=H_r6 at w_r6 e_r6 ⊢;refine#[sz rfl,λp6 gp6=>?_];have w_p6:=af gp6 (.tup [.str "move",.ref it,.non,.ref r6]);have e_p6:upd H_r6 p6 (.tup [.str "move",.ref it,.non,.ref r6]) p6=some (.tup [.str "move",.ref it,.non,.ref r6]):=ad;generalize upd H_r6 p6 (.tup [.str "move",.ref it,.non,.ref r6])=H_p6 at w_p6 e_p6 ⊢;refine#[_,rfl,sz rfl,λp7 gp7=>?_];have w_p7:=af gp7 (.tup [.str "write",.ref it,.str "a"]);have e_p7:upd H_p6 p7 (.tup [.str "write",.ref it,.str "a"]) p7=some (.tup [.str "write",.ref it,.str "a"]):=ad;generalize upd H_p6 p7 (.tup [.str "write",.ref it,.str "a"])=H_p7 at w_p7 e_p7 ⊢;refine#[sz rfl,λl2 gl2=>?_];have w_l2:=af gl2 (.lst [.ref p4,.ref p5,.ref p6,.ref p7]);have e_l2:upd H_p7 l2 (.lst [.ref p4,.ref p5,.ref p6,.ref p7]) l2=some (.lst [.ref p4,.ref p5,.ref p6,.ref p7]):=ad;generalize upd H_p7 l2 (.lst [.ref p4,.ref p5,.ref p6,.ref p7])=H_l2 at w_l2 e_l2 ⊢;refine#[l1,l2,_,_,rfl,rfl,(w_l2 _ _ (w_p7 _ _ (w_p6 _ _ (w_r6 _ _ (w_p5 _ _ (w_r5 _ _ (w_p4 _ _ e_l1))))))),e_l2,sz rfl,λl3 gl3=>?_];rw[show([V.ref p0,V.ref p1,V.ref p2,V.ref p3]++[V.ref p4,V.ref p5,V.ref p6,V.ref p7])=[V.ref p0,V.ref p1,V.ref p2,V.ref p3,V.ref p4,V.ref p5,V.ref p6,V.ref p7]from rfl];have w_l3:=af gl3 (.lst [.ref p0,.ref p1,.ref p2,.ref p3,.ref p4,.ref p5,.ref p6,.ref p7]);have e_l3:upd H_l2 l3 (.lst [.ref p0,.ref p1,.ref p2,.ref p3,.ref p4,.ref p5,.ref p6,.ref p7]) l3=some (.lst [.ref p0,.ref p1,.ref p2,.ref p3,.ref p4,.ref p5,.ref p6,.ref p7]):=ad;generalize upd H_l2 l3 (.lst [.ref p0,.ref p1,.ref p2,.ref p3,.ref p4,.ref p5,.ref p6,.ref p7])=H_l3 at w_l3 e_l3 ⊢;refine hR0 _ _ ?_;refine ay λR0 hR0=>?_;refine#[_,rfl,?_];refine#[_,rfl,sz rfl,λp8 gp8=>?_];have w_p8:=af gp8 (.tup [.str "due",.ref it,.non]);have e_p8:upd H_l3 p8 (.tup [.str "due",.ref it,.non]) p8=some (.tup [.str "due",.ref it,.non]):=ad;generalize upd H_l3 p8 (.tup [.str "due",.ref it,.non])=H_p8 at w_p8 e_p8 ⊢;refine#[_,rfl,sz rfl,λp9 gp9=>?_];have w_p9:=af gp9 (.tup [.str "fold",.ref it,.bl false]);have e_p9:upd H_p8 p9 (.tup [.str "fold",.ref it,.bl false]) p9=some (.tup [.str "fold",.ref it,.bl false]):=ad;generalize upd H_p8 p9 (.tup [.str "fold",.ref it,.bl false])=H_p9 at w_p9 e_p9 ⊢;refine#[sz rfl,λl4 gl4=>?_];have w_l4:=af gl4 (.lst [.ref p8,.ref p9]);have e_l4:upd H_p9 l4 (.lst [.ref p8,.ref p9]) l4=some (.lst [.ref p8,.ref p9]):=ad;generalize upd H_p9 l4 (.lst [.ref p8,.ref p9])=H_l4 at w_l4 e_l4 ⊢;refine#[l3,l4,_,_,rfl,rfl,(w_l4 _ _ (w_p9 _ _ (w_p8 _ _ e_l3))),e_l4,sz rfl,λl5 gl5=>?_];rw[show([V.ref p0,V.ref p1,V.ref p2,V.ref p3,V.ref p4,V.ref p5,V.ref p6,V.ref p7]++[V.ref p8,V.ref p9])=[V.ref p0,V.ref p1,V.ref p2,V.ref p3,V.ref p4,V.ref p5,V.ref p6,V.ref p7,V.ref p8,V.ref p9]from rfl];have w_l5:=af gl5 (.lst [.ref p0,.ref p1,.ref p2,.ref p3,.ref p4,.ref p5,.ref p6,.ref p7,.ref p8,.ref p9]);have e_l5:upd H_l4 l5 (.lst [.ref p0,.ref p1,.ref p2,.ref p3,.ref p4,.ref p5,.ref p6,.ref p7,.ref p8,.ref p9]) l5=some (.lst [.ref p0,.ref p1,.ref p2,.ref p3,.ref p4,.ref p5,.ref p6,.ref p7,.ref p8,.ref p9]):=ad;generalize upd H_l4 l5 (.lst [.ref p0,.ref p1,.ref p2,.ref p3,.ref p4,.ref p5,.ref p6,.ref p7,.ref p8,.ref p9])=H_l5 at w_l5 e_l5 ⊢;refine hR0 _ _ ?_;refine#[_,rfl,?_];refine#[sz rfl,λln gln=>?_];have w_ln:=af gln (.lst []);have e_ln:upd H_l5 ln (.lst []) ln=some (.lst []):=ad;generalize upd H_l5 ln (.lst [])=H_ln at w_ln e_ln ⊢;have SS:=(((((((((((((((((w_t0.trans w_p0).trans w_p1).trans w_p2).trans w_p3).trans w_l1).trans w_p4).trans w_r5).trans w_p5).trans w_r6).trans w_p6).trans w_p7).trans w_l2).trans w_l3).trans w_p8).trans w_p9).trans w_l4).trans w_l5).trans w_ln
 replace e_t0:=(w_ln _ _ (w_l5 _ _ (w_l4 _ _ (w_p9 _ _ (w_p8 _ _ (w_l3 _ _ (w_l2 _ _ (w_p7 _ _ (w_p6 _ _ (w_r6 _ _ (w_p5 _ _ (w_r5 _ _ (w_p4 _ _ (w_l1 _ _ (w_p3 _ _ (w_p2 _ _ (w_p1 _ _ (w_p0 _ _ e_t0))))))))))))))))))
 replace e_p0:=(w_ln _ _ (w_l5 _ _ (w_l4 _ _ (w_p9 _ _ (w_p8 _ _ (w_l3 _ _ (w_l2 _ _ (w_p7 _ _ (w_p6 _ _ (w_r6 _ _ (w_p5 _ _ (w_r5 _ _ (w_p4 _ _ (w_l1 _ _ (w_p3 _ _ (w_p2 _ _ (w_p1 _ _ e_p0)))))))))))))))))
 replace e_p1:=(w_ln _ _ (w_l5 _ _ (w_l4 _ _ (w_p9 _ _ (w_p8 _ _ (w_l3 _ _ (w_l2 _ _ (w_p7 _ _ (w_p6 _ _ (w_r6 _ _ (w_p5 _ _ (w_r5 _ _ (w_p4 _ _ (w_l1 _ _ (w_p3 _ _ (w_p2 _ _ e_p1))))))))))))))))
 replace e_p2:=(w_ln _ _ (w_l5 _ _ (w_l4 _ _ (w_p9 _ _ (w_p8 _ _ (w_l3 _ _ (w_l2 _ _ (w_p7 _ _ (w_p6 _ _ (w_r6 _ _ (w_p5 _ _ (w_r5 _ _ (w_p4 _ _ (w_l1 _ _ (w_p3 _ _ e_p2)))))))))))))))
 replace e_p3:=(w_ln _ _ (w_l5 _ _ (w_l4 _ _ (w_p9 _ _ (w_p8 _ _ (w_l3 _ _ (w_l2 _ _ (w_p7 _ _ (w_p6 _ _ (w_r6 _ _ (w_p5 _ _ (w_r5 _ _ (w_p4 _ _ (w_l1 _ _ e_p3))))))))))))))
 replace e_p4:=(w_ln _ _ (w_l5 _ _ (w_l4 _ _ (w_p9 _ _ (w_p8 _ _ (w_l3 _ _ (w_l2 _ _ (w_p7 _ _ (w_p6 _ _ (w_r6 _ _ (w_p5 _ _ (w_r5 _ _ e_p4))))))))))))
 replace e_r5:=(w_ln _ _ (w_l5 _ _ (w_l4 _ _ (w_p9 _ _ (w_p8 _ _ (w_l3 _ _ (w_l2 _ _ (w_p7 _ _ (w_p6 _ _ (w_r6 _ _ (w_p5 _ _ e_r5)))))))))))
 replace e_p5:=(w_ln _ _ (w_l5 _ _ (w_l4 _ _ (w_p9 _ _ (w_p8 _ _ (w_l3 _ _ (w_l2 _ _ (w_p7 _ _ (w_p6 _ _ (w_r6 _ _ e_p5))))))))))
 replace e_r6:=(w_ln _ _ (w_l5 _ _ (w_l4 _ _ (w_p9 _ _ (w_p8 _ _ (w_l3 _ _ (w_l2 _ _ (w_p7 _ _ (w_p6 _ _ e_r6)))))))))
 replace e_p6:=(w_ln _ _ (w_l5 _ _ (w_l4 _ _ (w_p9 _ _ (w_p8 _ _ (w_l3 _ _ (w_l2 _ _ (w_p7 _ _ e_p6))))))))
 replace e_p7:=(w_ln _ _ (w_l5 _ _ (w_l4 _ _ (w_p9 _ _ (w_p8 _ _ (w_l3 _ _ (w_l2 _ _ e_p7)))))))
 replace e_p8:=(w_ln _ _ (w_l5 _ _ (w_l4 _ _ (w_p9 _ _ e_p8))))
 replace e_p9:=(w_ln _ _ (w_l5 _ _ (w_l4 _ _ e_p9)))
 replace e_l5:=(w_ln _ _ e_l5)
 have hi':=SS _ _ hi;have wp:WR H_ln (.ref p0) (.put m):=#[p0,t0,rfl,e_p0,e_t0]
 refine#[a,ln,ws,rfl,rfl,Nc (SS _ _ ha),Nc e_ln,_,rfl,?_];cases ws with
 |nil=>exact aK #[_,rfl,l5,_,_,_,rfl,rfl,Nc e_l5,at0,q _ _ _ SS wp (.inl #[m,rfl])]
 |cons x xs =>
  refine aD ?_;have a0:=x8 nb (show(10:Int)≠0 by decide);have a1:=YS nb (show(0:Int)<10 by decide);refine#[_,rfl,_,rfl,_,_,rfl,rfl,(by show(0:Int)<10;decide),?_];generalize nb%10=j at a0 a1 ⊢;have wi:∀(c:Ik) (p r:MU),H_ln p=some (.tup (.str (iW c)::.ref it::iR it r c))->H_ln r=some (.tup ([iN c].map V.int))->Q (.ref p) H_ln:=λc p r e1 e2=>q _ (.itm c hh k) _ SS #[p,it,r,rfl,e1,hi',e2] (.inr #[nofun,c,rfl]);rcases(show j=0\/j=1\/j=2\/j=3\/j=4\/j=5\/j=6\/j=7\/j=8\/j=9 by omega)with rfl|rfl|rfl|rfl|rfl|rfl|rfl|rfl|rfl|rfl
  ·exact#[l5,_,_,_,rfl,rfl,Nc e_l5,rfl,q _ _ _ SS wp (.inl #[m,rfl])]
  ·exact#[l5,_,_,_,rfl,rfl,Nc e_l5,rfl,wi .back p1 r5 e_p1 e_r5]
  ·exact#[l5,_,_,_,rfl,rfl,Nc e_l5,rfl,wi .join p2 r5 e_p2 e_r5]
  ·exact#[l5,_,_,_,rfl,rfl,Nc e_l5,rfl,wi .mark p3 r5 e_p3 e_r5]
  ·exact#[l5,_,_,_,rfl,rfl,Nc e_l5,rfl,wi .take p4 r5 e_p4 e_r5]
  ·exact#[l5,_,_,_,rfl,rfl,Nc e_l5,rfl,wi .part p5 r5 e_p5 e_r5]
  ·exact#[l5,_,_,_,rfl,rfl,Nc e_l5,rfl,wi .move p6 r6 e_p6 e_r6]
  ·exact#[l5,_,_,_,rfl,rfl,Nc e_l5,rfl,wi .write p7 r5 e_p7 e_r5]
  ·exact#[l5,_,_,_,rfl,rfl,Nc e_l5,rfl,wi .due p8 r5 e_p8 e_r5]
  ·exact#[l5,_,_,_,rfl,rfl,Nc e_l5,rfl,wi .fold p9 r5 e_p9 e_r5]
theorem BH{c:TT}{tb te:L2.TS}{D:Ends}{σ:St}{H:Hp}(J:Bool->Hp->Prop)(h1:∀Q:Bool->Hp->Prop,(∀b H',J b H'->Q b H')->c σ H Q)(h2:∀H',J true H'->tb D σ H')(h3:∀H',J false H'->te D σ H'):AA c tb te D σ H:=h1 _ λb H' z=>by
 cases b with
 |true=>exact aK (h2 H' z)
 |false=>exact aD (h3 H' z)
theorem Tie.cnt{me:Nat}{L:LT}{W:List Wh}(t:Tie me L W):cW (vals L) me=(W.length:Int):=by
 induction t with
 |nil=>rfl
 |@oth L W x t hx hw ih =>rw[cY];show cW (vals L++[x.2]) me=_;rw[jC,MN hx,ih];omega
 |@own L W x t hx ho ih =>rw[cY];show cW (vals L++[x.2]) me=_;rw[jC,MO hx,ih,Zk];rfl
theorem lC{n me:Nat}{L:LT}{W:List Wh}(hm:me<n)(t:Tie me L W):au (aG (aF n (vals L)) me) me=(W.length:Int)+1:=by rw[aX (by rw[aL];exact hm),ik (by rw[aL];exact hm),MO rfl,cX hm,t.cnt]
theorem Hc{n me:Nat}{L:LT}{W:List Wh}{c:Ik}(hm:me<n)(t:Tie me L W)(hW:W≠[]):eU me (aG (aF n (vals L)) me) (.itm c (me:Int) 1):=by
 have hl:1<=W.length:=by
  cases W with
  |nil=>exact(hW rfl).elim
  |cons x xs=>simp
 have e:=lC hm t;have rl:(aG (aF n (vals L)) me).length=n:=by rw[aX (by rw[aL];exact hm),Yx,aL]
 show iw (me:Int) (aG (aF n (vals L)) me) (me:Int) 1=true;unfold iw nmL;rw[ZJ,e,rl,decide_eq_true ∅,decide_eq_true ∅,decide_eq_true ∅,decide_eq_true ∅,decide_eq_false (by simp;omega)];rfl
theorem GA{n me:Nat}{L:LT}{W:List Wh}{b:Bool}{k:Int}(hm:me<n)(t:Tie me L W)(h1:1<=k)(h2:k<=(W.length:Int)):eU me (aG (aF n (vals L)) me) (.trn b k):=#[h1,by rw[lC hm t];omega]
inductive spDone(CH CS T R:MU)(vs:Nh)(H:Hp)(Q:VK)(E:XK):Prop
 |mk (h p d a it:MU) (n me:Nat) (L:LT) (cell:Int) (ws:Nh) (W:List Wh) (h0:vs=[.ref h,.int cell,.ref a,.ref it]) (S:Sta CH CS T R H h p d n me L) (hW:WsAt H a ws W) (hz:W.length<=63) (tie:Tie me L W) (tw:TW W) (hi:H it=some (.tup ([(me:Int),1].map V.int))) (ll:L.length<63)
   (q0:∀t H',KT H H'->Sta CH CS T R H' h p d n me L->H' t=some (.tup [.non,.non])->Q (.ref t) H')
   (q1:∀t x v w H',KD d H H'->Sta CH CS T R H' h p d n me (L++[(x,bA n me L w)])->eU me (aG (aF n (vals L)) me) w->H' t=some (.tup [.ref x,v])->WR H' v w->Q (.ref t) H'):spDone CH CS T R vs H Q E
theorem tQ{tp:MU}{r:Int}:atI [V.ref tp,V.non] (if decide (V.int r=V.int 0)=true then 1 else 0)=some (if r=0 then V.non else V.ref tp):=by
 by_cases c:r=0
 ·rw[MO (decide_eq_true (by rw[c])),MO c];rfl
 ·rw[MN (λz=>c (V.int.inj (ZM z))),MN c];rfl
abbrev vM:Stmt:=top 96
abbrev GJ:List Str:=["_law_hand","_law_cell","_law_whats","_law_item","_law_way","_law_number","_law_what_here"]
theorem fZ:FnScope GJ ["_law_hand","_law_cell","_law_whats","_law_item"] (aj vM):= ~~~0
theorem FD{f CH CS T R:MU}{fd:M0}(F:Fun K "_law_done" "_law_done" vM f fd)(t5:↑MFn 9 CH "do" ["self","what"] (spHDo CH CS T R))(L8:↑MFn 10 CH "undo" ["self"] (spHUn UndoIs false CH CS T R))(L9:↑MFn 10 CH "redo" ["self"] (spHUn RedoIs true CH CS T R))(Mq:↑Fn 1 "_law_what" ["_law_number","_law_whats","_law_item"] spWhatL)(Lp:↑Fn 2 "_law_to_undo" ["_law_whats"] (spLUn UnW))(Lq:↑Fn 2 "_law_to_redo" ["_law_whats"] (spLUn ReW))(K4:mg "int" = none)(a8:mg "len" = none):↑FnOk CX0 11 f fd ["_law_hand","_law_cell","_law_whats","_law_item"] (spDone CH CS T R):=by
 exists fZ
 obtain⟨h,p,d,a,it,n,me,L,cell,ws,W,rfl,S0,hW,hz,tie,tw,hi,ll,q0,q1⟩:=h;have hm:=S0.ha.hm;have lw:=hW.len;have wne:ws≠[]->W≠[]:=λz y=>z (Y1 (by rw[lw,y];rfl));have doW:∀{H1 H2:Hp} {v:V} {w':Wh} {x t:MU},Same H H1->eU me (aG (aF n (vals L)) me) w'->KD d H1 H2->Sta CH CS T R H2 h p d n me (L++[(x,bA n me L w')])->H2 t=none->WR H2 v w'->Q (.ref t) (upd H2 t (.tup [.ref x,v])):=fun{H1 H2 v w' x t} s1 hw k2 S2 gt hv=>by have wt:=af gt (.tup [.ref x,v]);exact q1 t x v w' _ ((KD.of (KT.of s1)).trans (k2.trans (KD.of (KT.of wt)))) (S2.same wt) hw ad (hv.ts (Na wt))
 exists _,(b_c (aC (i:=4) fZ.nd (bg je ↑1 ai))
   (b_c (aC (i:=5) fZ.nd (bg B7 ↑1 ai))
   (b_c (aJ (t_w (gY (ax qI ↑4 ai) (fQ (t_w (dY (ax zH ↑4 ai) (dN (ax (yf (K:=K) rfl hr.units) ↑2 (dX ag)))))))) (b_c (aC (i:=6) fZ.nd (aw Mq ↑99 (q_a ↑5 (q_a ↑2 (q_a ↑3 ag)))))
   (b_1 (am (aB (q_a (bX t5 ↑99 ↑0 (q_a ↑6 ag)) (q_a ↑6 ag)))))) b_0)
   (b_c (aJ (ax br ↑4 ai) (b_1 (am (aB (q_a (bX t5 ↑99 ↑0 (q_a (aB (q_a ar ag)) ag)) (q_a (aB (q_a ar ag)) ag))))) b_0)
   (b_c (aJ (t_w (gY (ax br ↑4 ai) (fQ (ax br ↑4 ai)))) (b_c (aC (i:=5) fZ.nd (aw Lp ↑99 (q_a ↑2 ag)))
   (b_1 (am (aB (q_a (cS L8 ↑99 ↑0) (q_a (aq eS (dX (q_a (aB (q_a ar (q_a ↑5 ag))) (q_a aW ag))) (ko EB K4 nq (q_a (cA br ↑5 ai) ag))) ag)))))) b_0)
   (b_c (aJ (ax br ↑4 ai) (b_c (aC (i:=5) fZ.nd (aw Lq ↑99 (q_a ↑2 ag)))
   (b_1 (am (aB (q_a (cS L9 ↑99 ↑0) (q_a (aq eS (dX (q_a (aB (q_a ar (q_a ↑5 ag))) (q_a aW ag))) (ko EB K4 nq (q_a (cA br ↑5 ai) ag))) ag)))))) b_0)
   (b_c (aC (i:=6) fZ.nd (aB (q_a (aq eS (dX (q_a ar (q_a ar ag))) (bg zI ↑4 ai)) (q_a (bg dU ai (bg je ↑5 (q_B dR a8 Z0 (q_a ↑2 ag)))) ag))))
   (b_1 (am (aB (q_a (bX t5 ↑99 ↑0 (q_a ↑6 ag)) (q_a ↑6 ag))))))))))))
 have a0:=x8 cell (show(8:Int)≠0 by decide);have a1:=YS cell (show(0:Int)<8 by decide);refine#[_,rfl,_,_,rfl,rfl,(by show(0:Int)<8;decide),?_];refine#[_,rfl,_,_,rfl,rfl,#[⋯,⋯],?_];dsimp only[bo];generalize cell%8=way at a0 a1 ⊢;generalize cell / 8=nr;refine BH (λb H'=>Same H H'/\(b=false->2<=way/\(ws=[]->way<=5))) (λQQ hQQ=>?_) (λH1 z=>?_) (λH1 z=>?_)
 ·refine#[_,rfl,_,_,rfl,rfl,_,rfl,lg (λc=>hQQ _ _ #[Same.refl _,λz=>by cases z]) (λc=>?_)];refine#[_,rfl,_,_,rfl,rfl,_,rfl,lg (λc2=>?_) (λc2=>hQQ _ _ #[Same.refl _,λ_=>#[∅,λ_=>∅]])];refine#[_,rfl,sz rfl,λln gln=>?_];have wn:=af gln (.lst []);refine#[a,ln,ws,rfl,rfl,Nc (wn _ _ hW.e),Nc ad,_,rfl,hQQ _ _ #[wn,λe=>#[∅,λz=>?_]]];rw[z]at e;cases e
 ·obtain⟨s1,_⟩:=z;refine ay λR0 hR0=>?_;refine#[_,rfl,_,rfl,_,rfl,nr,a,it,ws,(me:Int),1,rfl,s1 _ _ hW.e,s1 _ _ hi,λv w' H2 s2 wr hw=>hR0 _ _ ?_];have s02:=s1.trans s2;have S2:=S0.same s02;obtain⟨⟨dx,h1⟩,_⟩:=id S2.ha;have wok:eU me (aG (aF n (vals L)) me) w':=by
   rcases hw with⟨m,rfl⟩|⟨hne,c,rfl⟩
   ·exact trivial
   ·exact Hc hm tie (wne hne)
  exact#[_,rfl,h,dx,_,rfl,h1,lf _ _,_,rfl,h,p,d,n,me,L,v,w',rfl,S2,wr,wok,ll,λx H3 k3 S3=>#[_,rfl,sz rfl,λt gt=>doW s02 wok k3 S3 gt (wr.ts (k3.ts S2.ha.st.dc))]]
 obtain⟨s1,hz1⟩:=z;obtain⟨w2,w5⟩:=hz1 rfl;have S1:=S0.same s1;have hW1:=hW.same s1;obtain⟨⟨dx,h1⟩,_⟩:=id S1.ha;refine#[_,rfl,rfl,_,rfl,qD (λc=>?_) (λc=>?_)]
 ·refine#[_,rfl,h,dx,_,rfl,h1,lf _ _,sz rfl,λtp gtp=>?_];have wtp:=af gtp (.tup [.str "none"]);have etp:upd H1 tp (.tup [.str "none"]) tp=some (.tup [.str "none"]):=ad;have S2:=S1.same wtp;have s2:=s1.trans wtp;generalize upd H1 tp (.tup [.str "none"])=H2 at wtp etp S2 s2 ⊢;refine#[h,p,d,n,me,L,.ref tp,.no,rfl,S2,#[tp,rfl,etp],trivial,ll,λx H3 k3 S3=>#[sz rfl,λt2 gt2=>#[sz rfl,λt gt=>?_]]];have wt2:=af gt2 (.tup [.str "none"]);exact doW (w':=.no) s2 trivial (k3.trans (KD.of (KT.of wt2))) (S3.same wt2) gt #[t2,rfl,ad]
 dsimp only[pY];refine BH (λb H'=>H'=H1/\(b=false->5<=way)) (λQQ hQQ=>?_) (λH2 z=>?_) (λH2 z=>?_)
 ·exact#[_,rfl,rfl,_,rfl,qD (λc=>hQQ _ _ #[rfl,λz=>by cases z]) (λc3=>#[_,rfl,rfl,_,rfl,hQQ _ _ #[rfl,λe=>by have:¬way=4:=λz=>of_decide_eq_false e (by rw[z]);omega]])]
 ·obtain⟨rfl,_⟩:=z;refine ay λR0 hR0=>?_;refine#[_,rfl,a,ws,W,rfl,hW1,hz,tw,λr H2 s2 u=>hR0 _ _ ?_];have s02:=s1.trans s2;have S2:=S0.same s02;obtain⟨un0,un1⟩:=tie.undo u;obtain⟨⟨dx2,h2⟩,_⟩:=id S2.ha;refine#[_,rfl,h,dx2,_,rfl,h2,DC _ _,h,p,d,n,me,L,rfl,S2,ll,λun H3 k3 S3=>?_,λk un x H3 k3 S3=>?_]
  ·refine#[_,rfl,sz rfl,λtp gtp=>#[sz rfl,λlp glp=>?_]];have wtp:=af gtp (.tup [.str "off",.int r]);have wlp:=af glp (.lst [.ref tp,.non]);refine#[_,rfl,rfl,.inr #[_,rfl,lp,_,_,_,rfl,rfl,Nc ad,tQ,sz rfl,λt gt=>?_]];rw[MO (un0 un)];have wt:=af gt (.tup [.non,.non]);have ws3:=wtp.trans (wlp.trans wt);exact q0 t _ ((KT.of s02).trans (k3.trans (KT.of ws3))) (S3.same ws3) ad
  ·obtain⟨rfl,hk⟩:=un1 k un;refine#[_,rfl,sz rfl,λtp gtp=>#[sz rfl,λlp glp=>?_]];have wtp:=af gtp (.tup [.str "off",.int r]);have wlp:=af glp (.lst [.ref tp,.non]);refine#[_,rfl,rfl,.inr #[_,rfl,lp,_,_,_,rfl,rfl,Nc ad,tQ,sz rfl,λt gt=>?_]];rw[MN hk];have w34:=wtp.trans wlp;have wok:eU me (aG (aF n (vals L)) me) (.trn false r):=(S3.ch.fit (x,bA n me L (.trn false r)) (Zr _ (Zd.mpr rfl))).wf;exact doW (w':=.trn false r) s02 wok (k3.trans (KD.of (KT.of w34))) (S3.same w34) gt #[tp,rfl,wlp _ _ ad]
 obtain⟨e0,hz1⟩:=z;subst e0;have w6:=hz1 rfl;refine#[_,rfl,rfl,_,rfl,qD (λc=>?_) (λc=>?_)]
 ·refine ay λR0 hR0=>?_;refine#[_,rfl,a,ws,W,rfl,hW1,hz,tw,λr H2 s2 u=>hR0 _ _ ?_];have s02:=s1.trans s2;have S2:=S0.same s02;obtain⟨un0,un1⟩:=tie.redo tw u;obtain⟨⟨dx2,h2⟩,_⟩:=id S2.ha;refine#[_,rfl,h,dx2,_,rfl,h2,DB _ _,h,p,d,n,me,L,rfl,S2,ll,λun H3 k3 S3=>?_,λk un x H3 k3 S3=>?_]
  ·refine#[_,rfl,sz rfl,λtp gtp=>#[sz rfl,λlp glp=>?_]];have wtp:=af gtp (.tup [.str "on",.int r]);have wlp:=af glp (.lst [.ref tp,.non]);refine#[_,rfl,rfl,.inr #[_,rfl,lp,_,_,_,rfl,rfl,Nc ad,tQ,sz rfl,λt gt=>?_]];rw[MO (un0 un)];have wt:=af gt (.tup [.non,.non]);have ws3:=wtp.trans (wlp.trans wt);exact q0 t _ ((KT.of s02).trans (k3.trans (KT.of ws3))) (S3.same ws3) ad
  ·obtain⟨rfl,hk⟩:=un1 k un;refine#[_,rfl,sz rfl,λtp gtp=>#[sz rfl,λlp glp=>?_]];have wtp:=af gtp (.tup [.str "on",.int r]);have wlp:=af glp (.lst [.ref tp,.non]);refine#[_,rfl,rfl,.inr #[_,rfl,lp,_,_,_,rfl,rfl,Nc ad,tQ,sz rfl,λt gt=>?_]];rw[MN hk];have w34:=wtp.trans wlp;have wok:eU me (aG (aF n (vals L)) me) (.trn true r):=(S3.ch.fit (x,bA n me L (.trn true r)) (Zr _ (Zd.mpr rfl))).wf;exact doW (w':=.trn true r) s02 wok (k3.trans (KD.of (KT.of w34))) (S3.same w34) gt #[tp,rfl,wlp _ _ ad]
 dsimp only[pY];have hne:ws≠[]:=λz=>by have:=w5 z;omega
 have hl:1<=W.length:=by
  cases W with
  |nil=>exact(wne hne rfl).elim
  |cons x xs=>simp
 refine ay λR0 hR0=>?_;refine#[sz rfl,λl3 g3=>?_];have w3:=af g3 (.lst [.str "off",.str "on"]);obtain⟨b,hat⟩:∃b,atI [V.str "off",V.str "on"] (way-6)=some (.str (ofW b)):=by
  rcases(show way=6\/way=7 by omega)with rfl|rfl
  ·exact#[false,rfl]
  ·exact#[true,rfl]
 refine#[_,rfl,_,_,rfl,rfl,l3,_,_,_,rfl,rfl,Nc ad,hat,_,rfl,_,rfl,a,_,rfl,.inl (Nc (w3 _ _ hW1.e)),_,_,rfl,rfl,(by show(0:Int)<(ws.length:Int);omega),_,_,rfl,rfl,sz rfl,λt4 g4=>hR0 _ _ ?_];have i0:=x8 nr (show(ws.length:Int)≠0 by omega);have i1:=YS nr (show(0:Int)<(ws.length:Int) by omega);generalize nr%(ws.length:Int)=j at i0 i1 g4 ⊢;have w4:=af g4 (.tup [.str (ofW b),.int (1+j)]);have s4:=s1.trans (w3.trans w4);have e4:upd (upd H2 l3 (.lst [.str "off",.str "on"])) t4 (.tup [.str (ofW b),.int (1+j)]) t4=some (.tup [.str (ofW b),.int (1+j)]):=ad;generalize upd (upd H2 l3 (.lst [.str "off",.str "on"])) t4 (.tup [.str (ofW b),.int (1+j)])=H4 at s4 e4 ⊢;have S4:=S0.same s4;obtain⟨⟨dx4,h4⟩,_⟩:=id S4.ha;have wok:eU me (aG (aF n (vals L)) me) (.trn b (1+j)):=GA hm tie ∅ ∅;exact#[_,rfl,h,dx4,_,rfl,h4,lf _ _,_,rfl,h,p,d,n,me,L,.ref t4,.trn b (1+j),rfl,S4,#[t4,rfl,e4],wok,ll,λx H5 k5 S5=>#[_,rfl,sz rfl,λt gt=>doW (w':=.trn b (1+j)) s4 wok k5 S5 gt #[t4,rfl,k5.ts S4.ha.st.dc _ _ e4]]]
structure LSt(CH CS T R:MU)(H:Hp)(h p d cl wl:MU)(n me:Nat)(L:LT)(ws:Nh)(W:List Wh):Prop where
 S:Sta CH CS T R H h p d n me L
 ct:H cl=some (.lst ((aF n (vals L)).map V.int))
 hW:WsAt H wl ws W
 ne:cl≠wl
 tie:Tie me L W
 tw:TW W
section
variable{CH CS T R h p d cl wl c:MU}{H H':Hp}{n me:Nat}{L:LT}{ws:Nh}{W:List Wh}
theorem KT.seq{a:MU}{xs:Nh}(s:KT H H')(x:SqL K H a xs):SqL K H' a xs:=by
 rcases x with(x|⟨o,x⟩)|x
 ·exact .inl (.inl (s _ _ x λps z=>by cases z))
 ·exact .inl (.inr #[o,s _ _ x λps z=>by cases z])
 ·exact .inr x
theorem KT.kd{H0:Hp}(s:KT H0 H)(g:H0 d=none)(k:KD d H H'):KT H0 H':=λb o e n=>k b o (s b o e n) n (al e g)
theorem KT.wr{H0:Hp}{o':HO}(s:KT H0 H)(g:H0 c=none):KT H0 (upd H c o'):=λb o e n=>by rw[ah (al e g)];exact s b o e n
theorem Sta.wr{xs ys:Nh}(x:Sta CH CS T R H h p d n me L)(e:H c=some (.lst xs)):Sta CH CS T R (upd H c (.lst ys)) h p d n me L:=by
 have nl:∀{b o},H b=some o->(∀xs,o≠.lst xs)->upd H c (.lst ys) b=some o:=fun{b o} eb no=>by rw[ah (λz=>no _ (Zn (by rw[<-eb,z,e])))];exact eb
 have sT:SameT c H (upd H c (.lst ys)):=λb o eb hb=>by rw[ah hb];exact eb
 have hr:∀{q:Str} f,H c=some f->(∀ps,f≠.tbl ps)/\∀c,f≠ir c q:=fun{q} f hf=>by rw[e]at hf;cases hf;exact#[λps e=>(by cases e),λc e=>(by cases e)]
 obtain⟨⟨⟨dx,g1⟩,⟨⟨ex,g2⟩,g3,g4,g5,g6,g7,g8⟩,hm⟩,k2,k3,k4,k5⟩:=x;exact#[#[#[dx,nl g1 λxs z=>by cases z],#[#[ex,nl g2 λxs z=>by cases z],nl g3 nofun,λx hx=>(g4 x hx).ts λb zs eb=>nl eb λxs z=>(by cases z),g5,g6,g7,g8],hm],k2,dE k3 sT hr,dE k4 sT hr,k5]
theorem E9{xs ys:Nh}(e:H c=some (.lst xs)):TS H (upd H c (.lst ys)):=dh λzs z=>by rw[e]at z;cases z
theorem WsAt.ts{a:MU}(x:WsAt H a ws W)(e:H' a=some (.lst ws))(s:TS H H'):WsAt H' a ws W:=#[e,Paired.mapP x.p λ_ _ z=>WR.ts z s]
theorem LSt.same(x:LSt CH CS T R H h p d cl wl n me L ws W)(s:Same H H'):LSt CH CS T R H' h p d cl wl n me L ws W:=#[x.S.same s,s _ _ x.ct,x.hW.same s,x.ne,x.tie,x.tw]
theorem LSt.kt(x:LSt CH CS T R H h p d cl wl n me L ws W)(s:KT H H')(S:Sta CH CS T R H' h p d n me L):LSt CH CS T R H' h p d cl wl n me L ws W:=#[S,s _ _ x.ct nofun,x.hW.ts (s _ _ x.hW.e λps z=>by cases z) s.ts,x.ne,x.tie,x.tw]
theorem TW.add{w:Wh}(hm:me<n)(t:Tie me L W)(h:TW W)(ok:eU me (aG (aF n (vals L)) me) w):TW (W++[w]):=λb k hk=>by
 rw[Zk];show 1<=k/\k<=((W.length+1:Nat):Int);rcases Zs.mp hk with z|z
 ·have:=h b k z;omega
 ·rw[<-Zd.mp z]at ok;have h2:k<au (aG (aF n (vals L)) me) me:=ok.2;rw[lC hm t]at h2;have h1:1<=k:=ok.1;omega
theorem yc{a:MU}{o:Nat}{w:Wh}(ho:o<n):aG (aF n (vals L)) o=aF n (vals (L++[(a,bA n o L w)])):=by rw[cY];exact oR (d:=bA n o L w) ho
theorem Tie.nxt{a:MU}{w:Wh}(hm:me<n)(t:Tie me L W):Tie me (L++[(a,bA n me L w)]) (W++[w]):=.own (x:=(a,bA n me L w)) t rfl (by
 rw[<-t.cnt];exact ye hm)
end
structure TdOk(H:Hp)(L:LT)(kv:Ng)(R:List Rw):Prop where
 nd:(kv.map (·.1)).Nodup
 of:∀k,k∈kv.map (·.1)->∃r∈R,aQ L r.1=true/\nmK r.1=k
 get:∀r∈R,aQ L r.1=true->∃b y,aH kv (nmK r.1)=some (.ref b)/\ltn L (nmK r.1)=some y/\H b=some (.tup ((nmZ y.2).map V.int))
theorem TdOk.ts{H H':Hp}{L:LT}{kv:Ng}{R:List Rw}(x:TdOk H L kv R)(s:TS H H'):TdOk H' L kv R:=#[x.nd,x.of,λr hr ho=>by
 obtain⟨b,y,h1,h2,h3⟩:=x.get r hr ho;exact#[b,y,h1,h2,s _ _ h3]]
theorem TdOk.skip{H:Hp}{L:LT}{kv:Ng}{R:List Rw}{r:Rw}(x:TdOk H L kv R)(h:aQ L r.1=false):TdOk H L kv (R++[r]):=#[x.nd,λk hk=>by
 obtain⟨r',hr,z⟩:=x.of k hk;exact#[r',Z3 _ hr,z],λr' hr ho=>by
 rcases Zs.mp hr with z|z
 ·exact x.get r' z ho
 ·rw[Zd.mp z,h]at ho;cases ho]
theorem BN{kv:Ng}{k k':List Key}{v:V}(h:k'∈(bh kv k v).map (·.1)):k'=k\/k'∈kv.map (·.1):=by
 rw[<-dO,dI]at h;by_cases c:k'=k
 ·exact .inl c
 ·rw[MN c]at h;exact .inr (dO.mp h)
theorem TdOk.add{H:Hp}{L:LT}{kv:Ng}{R:List Rw}{r:Rw}{b:MU}{y:MU×Dd}(x:TdOk H L kv R)(h:aQ L r.1=true)(hy:ltn L (nmK r.1)=some y)(hb:H b=some (.tup ((nmZ y.2).map V.int))):TdOk H L (bh kv (nmK r.1) (.ref b)) (R++[r]):=#[nF x.nd,λk hk=>by
 rcases BN hk with rfl|z
 ·exact#[r,Zr _ (Zd.mpr rfl),h,rfl]
 ·obtain⟨r',hr,z⟩:=x.of k z;exact#[r',Z3 _ hr,z],λr' hr ho=>by
 rw[dI];by_cases c:nmK r'.1=nmK r.1
 ·rw[MO c];exact#[b,y,rfl,by rw[c];exact hy,hb]
 ·rw[MN c];rcases Zs.mp hr with z|z
  ·exact x.get r' z ho
  ·exact (c (by rw[Zd.mp z])).elim]
theorem TdOk.len{H:Hp}{L:LT}{kv:Ng}{R:List Rw}{me:Nat}{W:List Wh}{kvs:List (Key×V)}(x:TdOk H L kv R)(hR:R.map (·.1)=vals L)(t:Tie me L W)(tw:TW W)(ok:OffOk kvs W):kv.length=kvs.length:=by
 have inj:∀a b:Key,([.inl (me:Int),a]:List Key)=[.inl (me:Int),b]->a=b:=λa b h=>by injection h with _ h;injection h
 have nd2:((ky kvs).map λk=>([.inl (me:Int),k]:List Key)).Nodup:=by have:=ok.nd;refine List.Pairwise.map _ (λa b h z=>h (inj a b z)) this
 have pm:(kv.map (·.1)).Perm ((ky kvs).map λk=>([.inl (me:Int),k]:List Key)):=(List.perm_ext_iff_of_nodup x.nd nd2).mpr λk=>by
  constructor
  ·intro hk;obtain⟨r,hr,ho,e⟩:=x.of k hk;have:r.1∈vals L:=by rw[<-hR];exact Zm.mpr #[r,hr,rfl]
   obtain⟨z,hz,ez⟩:=Zm.mp this;rw[<-ez]at ho e;have hm:=t.all_own hz ho;have ho2:=t.off hz hm;rw[ho]at ho2;refine Zm.mpr #[.inl (aI z.2),dO.mp (by rw[ok.get];cases eo:ba W (aI z.2)with|none=>rw[eo]at ho2;cases ho2|some m=>rfl),?_];rw[<-e,jH,hm]
  ·intro hk;obtain⟨k',hk',e⟩:=Zm.mp hk;have hs:=dO.mpr hk';obtain⟨q,hq,eq⟩:=Zm.mp hk';obtain⟨m,hm⟩:=ok.ks q hq;have eq:q.1=k':=eq;rw[eq]at hm;subst hm;rw[ok.get]at hs;cases eo:ba W m with
   |none=>rw[eo]at hs;cases hs
   |some m' =>
    obtain⟨z,hz,hzm,hzn,ho⟩:=t.get tw eo;have:z.2∈R.map (·.1):=by rw[hR];exact Zm.mpr #[z,hz,rfl]
    obtain⟨r,hr,er⟩:=Zm.mp this;have er:r.1=z.2:=er;obtain⟨b,y,h1,_⟩:=x.get r hr (by rw[er];exact ho);rw[er,jH,hzm,hzn,e]at h1;exact dO.mp (by rw[h1];rfl)
 have:=pm.length_eq;rw[Zb,Zb,Zb]at this;exact this
def E4(K:W.Frag):Sp:=λvs H Q _=>∃(a:MU) (cs:M5) (k:Nat),vs=[.ref a,.int (k:Int)]/\SqL K H a (cs.map V.int)/\k<cs.length/\cs.length<=8/\∀c H',Same H H'->H' c=some (.tup ((aG cs k).map V.int))->Q (.ref c) H'
abbrev lQ:Stmt:=top 90
abbrev AK:List Str:=["_law_script","_law_k"]
theorem Al:FnScope AK ["_law_script","_law_k"] (aj lQ):= ~~~0
theorem zO{f:MU}{fd:M0}(F:Fun K "_law_cell_at" "_law_cell_at" lQ f fd)(a8:mg "len" = none):↑FnOk CX0 1 f fd ["_law_script","_law_k"] (CG K):=by
 exists Al
 obtain⟨a,ns,k,rfl,hS,h0,q⟩:=h;exists _,(b_c (aJ (ax qI ↑1 (q_B dR a8 Z0 (q_a ↑0 ag))) (b_1 (am (aq eS ↑0 ↑1))) b_0)
   (b_1 (am ai)))
 refine#[_,rfl,_,rfl,a,_,rfl,.inl hS,_,_,rfl,rfl,_,rfl,?_];refine J3 (λc=>?_) (λc=>?_)
 ·have c':k<((ns.map V.int).length:Int):=ZM c;rw[Zb]at c';exact#[_,rfl,_,rfl,a,_,_,_,rfl,rfl,hS,dq h0 c',q]
 ·have c':¬k<((ns.map V.int).length:Int):=of_decide_eq_false (YY.mpr c);rw[Zb]at c';rw[Dm h0 c']at q;exact q
abbrev md:Stmt:=top 91
abbrev AX:List Str:=["_law_counts","_law_me","_law_found"]
theorem pL:FnScope AX ["_law_counts","_law_me"] (aj md):= ~~~0
theorem zY{f:MU}{fd:M0}(F:Fun K "_law_raised" "_law_raised" md f fd)(r9:mg "list" = none)(b9:mg "tuple" = none):↑FnOk CX0 1 f fd ["_law_counts","_law_me"] (E4 K):=by
 exists pL
 obtain⟨a,cs,k,rfl,hS,hk,h8,q⟩:=h;exists _,(b_c (aC (i:=2) pL.nd (ko GT r9 kZ (q_a ↑0 ag)))
   (b_c (tU (bg dU (aq eS ↑2 ↑1) ai) (zi ↑2 ↑1 Av))
   (b_1 (am (ko EF b9 dA (q_a ↑2 ag))))))
 refine#[_,rfl,a,_,rfl,.inl hS,λl hl=>?_];have w1:=af hl (.lst (cs.map V.int));have e1:upd H l (.lst (cs.map V.int)) l=some (.lst (cs.map V.int)):=ad;have hkl:atI (cs.map V.int) (k:Int)=some (.int (au cs k)):=by
  have:=dq (ns:=cs) (k:=(k:Int)) ∅ ∅
  rwa [ZJ]at this
 refine#[_,rfl,_,rfl,l,_,_,_,rfl,rfl,Nc e1,hkl,_,_,rfl,rfl,?_];refine#[_,rfl,_,rfl,l,_,_,k,rfl,rfl,e1,(by rw[uV ∅ (by rw[Zb];omega)];rfl),?_];rw[<-List.map_set,<-aX hk];have w2:=dH (o:=.lst ((aG cs k).map V.int)) w1 hl;refine#[_,rfl,l,_,rfl,.inl #[Nc ad,λc gc=>?_]];exact q c _ (w2.trans (af gc _)) ad
def tV(K:W.Frag)(T R:MU):Sp:=λvs H Q _=>∃(a:MU) (ns:M5),vs=[.ref a]/\SqL K H a (ns.map V.int)/\ns.length<=63/\H T=some (.tbl #[])/\H R=some (.tbl #[])/\T≠R/\∀H',Q (.bl true) H'
theorem yp{t u:L2.TS}{D:Ends}{σ:St}{H:Hp}(J:St->Hp->Prop)(h1:∀R:Ends,(∀σ' H',J σ' H'->R.nx σ' H')->t R σ H)(h2:∀σ' H',J σ' H'->u D σ' H'):AB t u D σ H:=h1 { D with nx:=u D } h2
theorem Br{H:Hp}:Dt H .none .non:=by simp only[Dt]
inductive Due2(H:Hp):V->V->Prop
 |no:Due2 H .non .non
 |is (x y:MU) (dd:Dd) (h1:DR H x dd) (h2:DR H y dd):Due2 H (.ref x) (.ref y)
theorem xD{cs:M5}{k:Nat}(hk:k<cs.length):atI (cs.map V.int) (k:Int)=some (.int (au cs k)):=by
 have:=dq (ns:=cs) (k:=(k:Int)) ∅ ∅
 rwa [ZJ]at this
theorem Sta.dT{CH CS T R h p d c:MU}{H H':Hp}{n me:Nat}{L:LT}{kv:Ng}(x:Sta CH CS T R H h p d n me L)(e:H c=some (.dT kv))(nd:d≠c)(s:SameT c H H'):Sta CH CS T R H' h p d n me L:=by
 have nl:∀{b o},H b=some o->(∀kv,o≠.dT kv)->H' b=some o:=fun{b o} eb no=>s b o eb λz=>no kv (Zn (by rw[<-eb,z,e]));have hr:∀{q:Str} f,H c=some f->(∀ps,f≠.tbl ps)/\∀c,f≠ir c q:=fun{q} f hf=>by rw[e]at hf;cases hf;exact#[λps e=>(by cases e),λc e=>(by cases e)]
 obtain⟨⟨⟨dx,g1⟩,⟨⟨ex,g2⟩,g3,g4,g5,g6,g7,g8⟩,hm⟩,k2,k3,k4,k5⟩:=x;exact#[#[#[dx,nl g1 λxs z=>by cases z],#[#[ex,nl g2 λxs z=>by cases z],s _ _ g3 nd,λx hx=>(g4 x hx).ts λb zs eb=>nl eb λxs z=>(by cases z),g5,g6,g7,g8],hm],k2,dE k3 s hr,dE k4 s hr,k5]
abbrev mG:Stmt:=top 97
abbrev IW:List Str:=["_law_script","_law_many","_law_me","_law_hand","_law_counts","_law_k","_law_other","_law_whats","_law_cell","_law_found","_law_what_here","_law_due","_law_off_here","_law_told","_law_name","_law_word","_law_by"]
theorem cg:FnScope IW ["_law_script"] (aj mG):= ~~~0
theorem Hs{f CH CS T R:MU}{fd:M0}(F:Fun K "law" "law" mG f fd)(Ki:↑Fn 1 "_law_cell_at" ["_law_script","_law_k"] (CG K))(KQ:↑Fn 1 "_law_raised" ["_law_counts","_law_me"] (E4 K))(Kr:↑Fn 1 "_law_off" ["_law_whats"] spOffL)(Mr:↑Fn 11 "_law_done" ["_law_hand","_law_cell","_law_whats","_law_item"] (spDone CH CS T R))(Ma:↑MkFn 3 CH "Hand" ["self","hands","me"] (spHInit CH CS))(Mb:↑MFn 9 CH "hear" ["self","deed"] (spHHear CH CS T R))(LH:↑MFn 8 CH "clock" ["self"] (spHClock CH CS T R))(i5:↑MFn 7 CH "ready" ["self"] (spHReady CH CS T R))(Lr:↑MFn 11 CH "report" ["self"] (spHReport CH CS T R))(LC:mg "range" = none)(b9:mg "tuple" = none)(a8:mg "len" = none)(KP:mg "sum" = none)(h9:mg "all" = none):↑FnOk CX0 12 f fd ["_law_script"] (tV K T R):=by
 exists cg
 obtain⟨a,sc,rfl,hS,hlen,hT,hR,TR,hq⟩:=h;exists _,(b_c (aC (i:=1) cg.nd (bg dU ai (bg je (aw Ki ↑99 (q_a ↑0 (q_a ai ag))) ai)))
   (b_c (aC (i:=2) cg.nd (bg je (bg B7 (aw Ki ↑99 (q_a ↑0 (q_a ai ag))) ai) ↑1))
   (b_c (aC (i:=3) cg.nd (Cr Ma ↑99 (q_a ↑1 (q_a ↑2 ag))))
   (b_c (jK (j:=4) cg.nd (own:=["_law_k"]) (#[rfl,⋯,⋯,rfl,trivial]:CompOk _ _ [] []) rfl (BG LC (q_a ↑1 ag)) (λ_ _ _ _=>aA (i:=0) (show (["_law_k"]:List Str).Nodup by decide)) (aM ⋯) (λ_ _ _ _=>ip) (λ_ _ _ _=>ai))
   (b_c (cH ZS rfl (BG LC (q_a (bg je (aw Ki ↑99 (q_a ↑0 (q_a ai ag))) ai) ag)) (aA (i:=5) cg.nd) (b_c (aC (i:=6) cg.nd (bg je (bg dU ↑2 ai) ↑1))
   (b_1 (aJ (ax lD ↑6 ↑2) (b_c (bP (bX Mb ↑99 ↑3 (q_a (aB (q_a ↑6 (q_a (aw KQ ↑99 (q_a ↑4 (q_a ↑6 ag))) (q_a (aB (q_a ar (q_a aW (q_a (aB (q_a ↑5 ag)) (q_a ar ag))))) ag)))) ag)))
   (b_1 (tU (bg dU (aq eS ↑4 ↑6) ai) (zi ↑4 ↑6 Av)))) b_0))))
   (b_c (aC (i:=7) cg.nd (dX ag))
   (b_c (cH ZS rfl (bz (eL BQ ↑0 (dP ai) (dP ai))) (aA (i:=8) cg.nd) (b_c (tU (aw Mr ↑99 (q_a ↑3 (q_a ↑8 (q_a ↑7 (q_a (aB (q_a ↑2 (q_a ai ag))) ag))))) (gj rfl (bq (aA (i:=9) cg.nd) (bq (aA (i:=10) cg.nd) eV))))
   (b_c (aC (i:=11) cg.nd aW)
   (b_c (aJ (ax iB ↑10 aW) (b_c (aC (i:=11) cg.nd (aB (q_a ↑2 (q_a (aw KQ ↑99 (q_a ↑4 (q_a ↑2 ag))) (q_a ↑10 ag)))))
   (b_c (tU (bg dU (aq eS ↑4 ↑2) ai) (zi ↑4 ↑2 Av))
   (b_1 (bP (hG ↑7 ↑10))))) b_0)
   (b_1 (aJ (t_w (gY (ax (EU hr.units) ↑9 ↑11) (fQ (ax (pA hr.units) (cS LH ↑99 ↑3) (ko EF b9 dA (q_a ↑4 ag)))))) (b_1 (am eJ)) b_0))))))
   (b_c (aC (i:=12) cg.nd (aw Kr ↑99 (q_a ↑7 ag)))
   (b_c (aC (i:=13) cg.nd kz)
   (b_c (cH ZS rfl (bz (cS Lr ↑99 ↑3)) (gj rfl (bq (aA (i:=14) cg.nd) (bq (aA (i:=15) cg.nd) (bq (aA (i:=16) cg.nd) eV)))) (b_1 (aJ (ax br ↑15 ar) (b_1 (fK hr.units ↑13 ↑14 ↑16)) b_0)))
   (b_c (aJ (t_w (gY (ax lD (q_B GS a8 Z0 (q_a ↑13 ag)) (q_B GR a8 Z0 (q_a ↑12 ag))) (fQ (ax lD (q_B dR a8 Z0 (q_a (cS i5 ↑99 ↑3) ag)) (q_B (GV (K:=K) rfl rfl) KP PyProof.Rows.boot_sum (q_a ↑4 ag)))))) (b_1 (am eJ)) b_0)
   (b_1 (am (q_B (jT rfl) h9 eg (q_a (cK (own:=["_law_number"]) (#[rfl,⋯,⋯,rfl,#[rfl,rfl,#[rfl,rfl,#[rfl,rfl,trivial]]]]:CompOk _ _ [13,2,12] ["_law_told","_law_me","_law_off_here"]) rfl (uT ↑12) (λ_ _ _ _=>aA (i:=0) (show (["_law_number","_law_told","_law_me","_law_off_here"]:List Str).Nodup by decide)) (aM ⋯) (λ_ _ _ _=>ip) (λ_ _ _ _=>(cA (B6 hr.units) (Gi hr.units ↑1 (aB (q_a ↑2 (q_a ↑0 ag)))) (aB (q_a ↑2 (q_a (cu hr.units ↑3 ↑0) ag)))))) ag)))))))))))))))
 refine ay λR0 hR0=>?_;refine#[_,rfl,a,sc,0,rfl,hS,⋯,_,_,rfl,rfl,(by show(0:Int)<4;decide),_,_,rfl,rfl,hR0 _ _ ?_];have m0:=x8 (au sc (0:Int).toNat) (show(4:Int)≠0 by decide);have m1:=YS (au sc (0:Int).toNat) (show(0:Int)<4 by decide);obtain⟨n,hn⟩:∃n:Nat,(n:Int)=1+au sc (0:Int).toNat%4:=#[(1+au sc (0:Int).toNat%4).toNat,∅]
 rw[<-hn];have n1:1<=n:=∅
 have n4:n<=4:=∅
 refine ay λR0 hR0=>?_;refine#[_,rfl,a,sc,0,rfl,hS,⋯,_,_,rfl,rfl,#[⋯,⋯],_,rfl,_,_,rfl,rfl,(by show(0:Int)<(n:Int);omega),hR0 _ _ ?_];have m0:=x8 (au sc (0:Int).toNat / 4) (show(n:Int)≠0 by omega);have m1:=YS (au sc (0:Int).toNat / 4) (show(0:Int)<(n:Int) by omega);obtain⟨me,hme⟩:∃me:Nat,(me:Int)=au sc (0:Int).toNat / 4%(n:Int):=#[(au sc (0:Int).toNat / 4%(n:Int)).toNat,∅]
 rw[<-hme]at m0 m1 ⊢;have hm:me<n:=∅
 refine ay λR0 hR0=>?_;refine#[_,rfl,_,rfl,?_];intro h dx nx ndx nex;refine#[h,dx,n,me,rfl,ad,∅,∅,hm,λp d H1 fd1 hA1 kp1=>#[rfl,hR0 _ _ ?_]];have kp0:∀b o,H b=some o->upd (upd H dx (.own h)) h (.ins CH dx []) b=some o:=λb o e=>by rw[ah (al e nx),ah (al e ndx)];exact e
 have s1:Same H H1:=λb o e=>kp1 b o (kp0 b o e) (al e nx);have d0:H d=none:=by
  cases e:H d with
  |none=>rfl
  |some o =>rw[kp0 _ _ e]at fd1;cases fd1
 have S1:Sta CH CS T R H1 h p d n me []:=#[hA1,.nil,#[#[],s1 _ _ hT,trivial,.inl rfl],#[#[],s1 _ _ hR,trivial,.inl rfl],TR]
 refine ay λR0 hR0=>?_;refine#[_,rfl,_,rfl,∅,∅,?_];rw[ZJ];refine yY (N:=n) (lo:=0) (λ_=>.int 0) ∅ (λi H2 hi s2 R k=>k H2 (Same.refl H2)) (λcl H2 s2 gcl=>hR0 _ _ ?_);have el:((List.range n).map λ_=>V.int 0)=(aF n (vals [])).map V.int:=by show _=(aF n []).map V.int;rw[qr,List.map_replicate];exact List.ext_getElem (by simp) λi h1 h2=>by simp
 rw[el];have s12:=s2.trans (af gcl (.lst ((aF n (vals [])).map V.int)));have ecl:upd H2 cl (.lst ((aF n (vals [])).map V.int)) cl=some (.lst ((aF n (vals [])).map V.int)):=ad;have cl0:H cl=none:=(s1.trans s2).free gcl;generalize upd H2 cl (.lst ((aF n (vals [])).map V.int))=H3 at s12 ecl ⊢;have k3:KT H H3:=KT.of (s1.trans s12);have S3:=S1.same s12;have r0:=x8 (au sc (1:Int).toNat) (show(4:Int)≠0 by decide);have r1:=YS (au sc (1:Int).toNat) (show(0:Int)<4 by decide);refine ay λR0 hR0=>?_;refine#[_,rfl,a,sc,1,rfl,k3.seq hS,⋯,_,_,rfl,rfl,(by show(0:Int)<4;decide),_,rfl,∅,∅,?_];generalize au sc (1:Int).toNat%4=rr at r0 r1 ⊢;refine zh (lo:=0) (λi σ H'=>KT H H'/\∃(L:LT) (o5 o6:Option V),Sta CH CS T R H' h p d n me L/\H' cl=some (.lst ((aF n (vals L)).map V.int))/\Tie me L []/\L.length<=i/\σ=[some (.ref a),some (.int (n:Int)),some (.int (me:Int)),some (.ref h),some (.ref cl),o5,o6,none,none,none,none,none,none,none,none,none,none]) #[k3,[],none,none,S3,ecl,.nil,Za _,rfl] ?_ ?_
 ·rintro i σ H' hi ⟨kt,L,o5,o6,S,ct,tie,lL,rfl⟩ DL hDL;have x0:=x8 ((me:Int)+1) (show(n:Int)≠0 by omega);have x1:=YS ((me:Int)+1) (show(0:Int)<(n:Int) by omega);dsimp only[bo];refine ay λR1 hR1=>?_;refine#[_,rfl,_,_,rfl,rfl,_,rfl,_,_,rfl,rfl,(by show(0:Int)<(n:Int);omega),hR1 _ _ ?_];obtain⟨o,ho⟩:∃o:Nat,(o:Int)=((me:Int)+1)%(n:Int):=#[(((me:Int)+1)%(n:Int)).toNat,∅]
  rw[<-ho]at x0 x1 ⊢;have hon:o<n:=∅
  have hoc:o<(aF n (vals L)).length:=by rw[aL];exact hon
  refine#[_,rfl,_,rfl,rfl,_,rfl,?_];by_cases c:o=me
  ·rw[decide_eq_true (show V.int (o:Int)=V.int (me:Int) by rw[c])];exact aD (hDL _ _ #[kt,L,_,_,S,ct,tie,Yn lL,rfl])
  ·rw[decide_eq_false (show¬V.int (o:Int)=V.int (me:Int)from λz=>c (by have:=V.int.inj z;omega))];refine aK ?_;obtain⟨⟨dx,h1⟩,St,_⟩:=id S.ha;refine ay λR1 hR1=>?_;refine#[_,rfl,h,dx,_,rfl,h1,DA _ _,_,rfl,_,rfl,_,rfl,cl,_,o,rfl,Nc ct,hoc,by rw[aL];omega,λc1 H5 s5 e5=>?_];refine#[_,rfl,sz rfl,λt6 g6=>?_];have w6:=af g6 (.tup [.int (0+(i:Int))]);have e6:upd H5 t6 (.tup [.int (0+(i:Int))]) t6=some (.tup [.int (0+(i:Int))]):=ad;have s6:=s5.trans w6;have e56:=w6 _ _ e5;generalize upd H5 t6 (.tup [.int (0+(i:Int))])=H6 at e6 s6 e56 ⊢;refine#[sz rfl,λt7 g7=>?_];have w7:=af g7 (.tup [.str "put",.non,.ref t6,.str ""]);have e7:upd H6 t7 (.tup [.str "put",.non,.ref t6,.str ""]) t7=some (.tup [.str "put",.non,.ref t6,.str ""]):=ad;have s7:=s6.trans w7;have e57:=w7 _ _ e56;have e67:=w7 _ _ e6;generalize upd H6 t7 (.tup [.str "put",.non,.ref t6,.str ""])=H7 at e7 s7 e57 e67 ⊢;refine#[sz rfl,λt8 g8=>?_];have w8:=af g8 (.tup [.int (o:Int),.ref c1,.ref t7]);have e8:upd H7 t8 (.tup [.int (o:Int),.ref c1,.ref t7]) t8=some (.tup [.int (o:Int),.ref c1,.ref t7]):=ad;have s8:=s7.trans w8;have dr:DR (upd H7 t8 (.tup [.int (o:Int),.ref c1,.ref t7])) t8 (bA n o L (.put (0+(i:Int)))):=#[c1,.ref t7,e8,w8 _ _ e57,#[t7,t6,rfl,w8 _ _ e7,w8 _ _ e67],by
    show o<(aG (aF n (vals L)) o).length;rw[aX hoc,Yx];exact hoc,by
    show(aG (aF n (vals L)) o).length<=8;rw[aX hoc,Yx,aL];omega]
   generalize upd H7 t8 (.tup [.int (o:Int),.ref c1,.ref t7])=H8 at s8 dr ⊢;refine#[h,p,d,t8,n,me,o,L,.put (0+(i:Int)),rfl,S.same s8,hon,dr,trivial,∅,λH9 k9 S9=>hR1 _ _ ?_];have ct9:H9 cl=some (.lst ((aF n (vals L)).map V.int)):=k9.lst (S.same s8).ha.st.dc (s8 _ _ ct);refine#[_,rfl,_,rfl,cl,_,_,_,rfl,rfl,Nc ct9,xD hoc,_,_,rfl,rfl,?_];refine#[_,rfl,_,rfl,cl,_,_,o,rfl,rfl,ct9,(by rw[uV ∅ (by rw[Zb];omega)];rfl),?_];rw[<-List.map_set,<-aX hoc,yc (a:=t8) (w:=.put (0+(i:Int))) hon];exact hDL _ _ #[((kt.trans (KT.of s8)).kd d0 k9).wr cl0,_,_,_,S9.wr ct9,ad,.oth tie c rfl,by rw[Zk];exact y8 lL,rfl]
 rintro σ H' ⟨kt,L,o5,o6,S,ct,tie,lL,rfl⟩;refine hR0 _ _ ?_;have lL3:L.length<=3:=∅
 refine ay λR0 hR0=>?_;refine#[sz rfl,λwl gwl=>hR0 _ _ ?_];have w4:=af gwl (.lst []);have ne0:cl≠wl:=λz=>by rw[z,gwl]at ct;cases ct
 have X0:LSt CH CS T R (upd H' wl (.lst [])) h p d cl wl n me L [] []:=#[S.same w4,w4 _ _ ct,#[ad,.nil],ne0,tie,λb k z=>(nomatch z)]
 have hS4:=(kt.trans (KT.of w4)).seq hS;generalize upd H' wl (.lst [])=H4 at w4 X0 hS4 ⊢;refine ay λR0 hR0=>?_;refine#[_,rfl,_,rfl,_,rfl,a,_,rfl,hS4,λsl gsl=>?_];have lcs:=jj (sc.map V.int) (some 2) (some 26);have cm:∀v∈bM (sc.map V.int) (some 2) (some 26),v∈sc.map V.int:=λv hv=>List.mem_of_mem_drop (List.mem_of_mem_take hv);have l24:(bM (sc.map V.int) (some 2) (some 26)).length<=24:=by unfold bM;rw[ZP,YC,show(some (2:Int))=some ((2:Nat):Int)from rfl,show(some (26:Int))=some ((26:Nat):Int)from rfl,HT.sIx_nat,HT.sIx_nat];omega
 generalize bM (sc.map V.int) (some 2) (some 26)=xs at l24 cm ⊢;have w5:=af gsl (.lst xs);have esl:upd H4 sl (.lst xs) sl=some (.lst xs):=ad;have X5:=X0.same w5;have nsc:sl≠cl:=λz=>by rw[z,X0.ct]at gsl;cases gsl
 have nsw:sl≠wl:=λz=>by rw[z,X0.hW.e]at gsl;cases gsl
 generalize upd H4 sl (.lst xs)=H5 at w5 esl X5 ⊢;refine#[sl,rfl,#[_,Nc esl],?_];refine dj (K:=K) (a:=sl) (xs:=xs) (λi σ H'=>H' sl=some (.lst xs)/\∃(L:LT) (ws:Nh) (W:List Wh) (o8 o9 o10 o11:Option V),LSt CH CS T R H' h p d cl wl n me L ws W/\L.length<=3+i/\W.length<=i/\σ=[some (.ref a),some (.int (n:Int)),some (.int (me:Int)),some (.ref h),some (.ref cl),o5,o6,some (.ref wl),o8,o9,o10,o11,none,none,none,none,none]) #[esl,L,[],[],none,none,none,none,X5,∅,Za _,rfl] (λi σ H' _ z=>Nc z.1) ?_ ?_
 ·rintro i v σ H' hv ⟨es,L,ws,W,o8,o9,o10,o11,X,lL,lW,rfl⟩ DL hDL;have hi:i<24:=by have:=(Zi.mp hv).1;omega
  obtain⟨c,rfl⟩:∃c,v=.int c:=by obtain⟨c,_,e⟩:=Zm.mp (cm v (Zv hv));exact#[c,e.symm]
  dsimp only[bo];refine yp (λσ' H'=>H' sl=some (.lst xs)/\∃v9 v10,σ'=[some (.ref a),some (.int (n:Int)),some (.int (me:Int)),some (.ref h),some (.ref cl),o5,o6,some (.ref wl),some (.int c),some v9,some v10,o11,none,none,none,none,none]/\((v9=.non/\v10=.non/\LSt CH CS T R H' h p d cl wl n me L ws W)\/∃(x:MU) (w:Wh),v9=.ref x/\v10≠.non/\WR H' v10 w/\eU me (aG (aF n (vals L)) me) w/\Sta CH CS T R H' h p d n me (L++[(x,bA n me L w)])/\H' cl=some (.lst ((aF n (vals L)).map V.int))/\WsAt H' wl ws W)) (λR1 hR1=>?_) ?_
  ·refine#[_,rfl,_,rfl,_,rfl,_,rfl,sz rfl,λit git=>?_];have wi:=af git (.tup [.int (me:Int),.int 1]);have ei:upd H' it (.tup [.int (me:Int),.int 1]) it=some (.tup ([(me:Int),1].map V.int)):=ad;have Xi:=X.same wi;have esi:=wi _ _ es;generalize upd H' it (.tup [.int (me:Int),.int 1])=H6 at ei Xi esi ⊢;refine#[h,p,d,wl,it,n,me,L,c,ws,W,rfl,Xi.S,Xi.hW,∅,X.tie,X.tw,ei,∅,λt H7 k7 S7 et=>?_,λt x v w' H7 k7 S7 wok et wr=>?_]
   ·exact#[t,_,rfl,Nb et,rfl,_,_,rfl,_,_,rfl,rfl,hR1 _ _ #[k7 _ _ esi nofun,_,_,rfl,.inl #[rfl,rfl,Xi.kt k7 S7]]]
   ·have dc:=Xi.S.ha.st.dc;refine#[t,_,rfl,Nb et,rfl,_,_,rfl,_,_,rfl,rfl,hR1 _ _ #[k7.lst dc esi,_,_,rfl,.inr #[x,w',rfl,?_,wr,wok,S7,k7.lst dc Xi.ct,Xi.hW.ts (k7.lst dc Xi.hW.e) (k7.ts dc)]]];obtain⟨p0,r,e,_⟩:=wr.head;rw[e];exact λz=>by cases z
  rintro σ6 H6 ⟨es6,v9,v10,rfl,hJ⟩;refine ay λR1 hR1=>hR1 _ _ ?_;refine yp (λσ' H'=>H' sl=some (.lst xs)/\∃(L:LT) (ws:Nh) (W:List Wh) (v11:V),σ'=[some (.ref a),some (.int (n:Int)),some (.int (me:Int)),some (.ref h),some (.ref cl),o5,o6,some (.ref wl),some (.int c),some v9,some v10,some v11,none,none,none,none,none]/\LSt CH CS T R H' h p d cl wl n me L ws W/\Due2 H' v9 v11/\L.length<=3+(i+1)/\W.length<=i+1) (λR1 hR1=>?_) ?_
  ·rcases hJ with⟨rfl,rfl,X6⟩|⟨x,w',rfl,hv10,wr,wok,S6,ct6,hW6⟩
   ·exact#[_,rfl,rfl,_,rfl,aD (hR1 _ _ #[es6,L,ws,W,_,rfl,X6,.no,∅,∅])]
   ·have hmc:me<(aF n (vals L)).length:=by rw[aL];exact hm
    refine#[_,rfl,rfl,_,rfl,tO hv10 ?_];refine ay λR2 hR2=>?_;refine#[_,rfl,_,rfl,_,rfl,cl,_,me,rfl,Nc ct6,hmc,by rw[aL];omega,λc7 H7 s7 e7=>#[_,rfl,sz rfl,λtd gtd=>?_]];have w8:=af gtd (.tup [.int (me:Int),.ref c7,v10]);have e8:upd H7 td (.tup [.int (me:Int),.ref c7,v10]) td=some (.tup [.int (me:Int),.ref c7,v10]):=ad;have s8:=s7.trans w8;have e78:=w8 _ _ e7;generalize upd H7 td (.tup [.int (me:Int),.ref c7,v10])=H8 at e8 s8 e78 ⊢;refine hR2 _ _ ?_;have dr:DR H8 td (bA n me L w'):=#[c7,v10,e8,e78,wr.ts (Na s8),by
     show me<(aG (aF n (vals L)) me).length;rw[aX hmc,Yx];exact hmc,by
     show(aG (aF n (vals L)) me).length<=8;rw[aX hmc,Yx,aL];omega]
    have ct8:=s8 _ _ ct6;refine ay λR2 hR2=>?_;refine#[_,rfl,_,rfl,cl,_,_,_,rfl,rfl,Nc ct8,xD hmc,_,_,rfl,rfl,?_];refine#[_,rfl,_,rfl,cl,_,_,me,rfl,rfl,ct8,(by rw[uV ∅ (by rw[Zb];omega)];rfl),?_];rw[<-List.map_set,<-aX hmc,yc (a:=x) (w:=w') hm];refine hR2 _ _ ?_;have S9:=(S6.same s8).wr (ys:=(aF n (vals (L++[(x,bA n me L w')]))).map V.int) ct8;have t9:=E9 (ys:=(aF n (vals (L++[(x,bA n me L w')]))).map V.int) ct8;have es9:upd H8 cl (.lst ((aF n (vals (L++[(x,bA n me L w')]))).map V.int)) sl=some (.lst xs):=by rw[ah nsc];exact s8 _ _ es6
    have ew9:upd H8 cl (.lst ((aF n (vals (L++[(x,bA n me L w')]))).map V.int)) wl=some (.lst ws):=by rw[ah X.ne.symm];exact s8 _ _ hW6.e
    have ct9:upd H8 cl (.lst ((aF n (vals (L++[(x,bA n me L w')]))).map V.int)) cl=some (.lst ((aF n (vals (L++[(x,bA n me L w')]))).map V.int)):=ad;have hW9:=(hW6.same s8).ts ew9 t9;have wr9:=(wr.ts (Na s8)).ts t9;have dr9:=dr.ts t9;generalize upd H8 cl (.lst ((aF n (vals (L++[(x,bA n me L w')]))).map V.int))=H9 at S9 es9 ew9 ct9 hW9 wr9 dr9 ⊢;have lw:=hW9.len;refine#[_,rfl,.inl #[rfl,_,Nc ew9],_,rfl,wl,_,_,rfl,rfl,ew9,be ∅,hR1 _ _ ?_];have tA:=E9 (ys:=ws++[v10]) ew9;have SA:=S9.wr (ys:=ws++[v10]) ew9;refine#[by rw[ah nsw];exact es9,L++[(x,bA n me L w')],ws++[v10],W++[w'],_,rfl,#[SA,by rw[ah X.ne];exact ct9,#[ad,cn (Paired.mapP hW9.p λ_ _ z=>WR.ts z tA) (wr9.ts tA)],X.ne,X.tie.nxt hm,X.tw.add hm X.tie wok],.is x td _ (SA.ha.st.dr (x,bA n me L w') (Zr _ (Zd.mpr rfl))) (dr9.ts tA),by rw[Zk];exact y8 lL,by rw[Zk];exact y8 lW]
  rintro σ7 H7 ⟨es7,L,ws,W,v11,rfl,X7,du,lL,lW⟩;obtain⟨⟨dx,h1⟩,_⟩:=id X7.S.ha;obtain⟨d1,d2,dt1,dt2,sh1,sh2,eqd⟩:∃d1 d2,Dt H7 d1 v9/\Dt H7 d2 v11/\SeqAt.shaped d1=true/\SeqAt.shaped d2=true/\PyData.eqv d1 d2=true:=by
   cases du with
   |no=>exact#[_,_,Br,Br,rfl,rfl,rfl]
   |is x y dd h1 h2=>exact#[_,_,h1.dt,h2.dt,vU _,vU _,SeqAt.eqv_refl _ (EO (d:=dd) trivial).1]
  refine#[_,rfl,_,rfl,d1,d2,dt1,dt2,sh1,sh2,_,rfl,?_];rw[eqd];refine aD #[_,rfl,h,dx,_,rfl,h1,BE _ _,h,p,d,n,me,L,rfl,X7.S,λc8 H8 k8 S8 ec=>?_];have X8:=X7.kt k8 S8;refine#[_,rfl,cl,_,rfl,.inl #[Nc X8.ct,λt gt=>?_]];have wt:=af gt (.tup ((aF n (vals L)).map V.int));refine#[c8,t,_,_,rfl,rfl,wt _ _ ec,ad,_,rfl,?_];rw[decide_eq_true rfl];exact aD (hDL _ _ #[wt _ _ (k8 _ _ es7 λps z=>by cases z),L,ws,W,_,_,_,_,X8.same wt,lL,lW,rfl])
 rintro σ H' ⟨es,L,ws,W,o8,o9,o10,o11,X,lL,lW,rfl⟩;refine hR0 _ _ ?_;have hW63:W.length<=63:=∅
 refine ay λR0 hR0=>?_;refine#[_,rfl,wl,ws,W,rfl,X.hW,hW63,X.tw,λod kvs H1 s1 god eod lod ok=>hR0 _ _ ?_];have X1:=X.same s1;refine ay λR0 hR0=>?_;refine λtd gtd=>hR0 _ _ ?_;have w2:=af gtd (.dT []);have etd:upd H1 td (.dT []) td=some (.dT []):=ad;have X2:=X1.same w2;have eod2:=w2 _ _ eod;have ntd:od≠td:=λz=>by rw[z,gtd]at eod;cases eod
 have ncl:cl≠td:=λz=>by have:=X1.ct;rw[z,gtd]at this;cases this
 have nd:d≠td:=λz=>by have:=X1.S.ha.st.dc;rw[z,gtd]at this;cases this
 generalize upd H1 td (.dT [])=H2 at etd X2 eod2 ⊢;obtain⟨⟨dx,h1⟩,_⟩:=id X2.S.ha;refine ay λR0 hR0=>?_;refine#[_,rfl,h,dx,_,rfl,h1,zl _ _,h,p,d,n,me,L,rfl,X2.S,λD ys RR N H3 k3 S3 pl eD pr=>#[D,rfl,#[_,Nc eD],?_]];have ct3:=k3 _ _ X2.ct λps z=>by cases z
 have etd3:=k3 _ _ etd λps z=>by cases z
 have eod3:=k3 _ _ eod2 λps z=>by cases z
 have nD:D≠td:=λz=>by rw[z,etd3]at eD;cases eD
 have hRR:RR.map (·.1)=vals L:=by rw[pl.mem,Yd (by rw[kQ];exact Za _)]
 have lRR:=pl.len;have lys:=ZH pr;refine dj (K:=K) (a:=D) (xs:=ys) (λi σ H'=>SameT td H3 H'/\∃(kv:Ng) (o14 o15 o16:Option V),H' td=some (.dT kv)/\kv.length<=i/\TdOk H' L kv (RR.take i)/\σ=[some (.ref a),some (.int (n:Int)),some (.int (me:Int)),some (.ref h),some (.ref cl),o5,o6,some (.ref wl),o8,o9,o10,o11,some (.ref od),some (.ref td),o14,o15,o16]) #[λb o e _=>e,[],none,none,none,etd3,Za _,#[.nil,λk z=>(nomatch z),λr z=>(nomatch z)],rfl] (λi σ H' _ z=>Nc (z.1 _ _ eD nD)) ?_ ?_
 ·rintro i v σ H4 hv ⟨sT,kv,o14,o15,o16,etd4,lk,tok,rfl⟩ DL hDL;obtain⟨r,hr,rp⟩:=bW pr hv;have hi:i<ys.length:=(Zi.mp hv).1;have ts4:TS H3 H4:=λb zs e=>sT b _ e λz=>by rw[z,etd3]at e;cases e
  rw[bC hr]at hDL;have rp4:=rp.ts ts4;cases rp4 with
  |off t nb nb2 x y so e en ey e2 ho =>
   refine#[t,_,rfl,Nb e,rfl,_,_,rfl,_,_,rfl,_,_,rfl,rfl,_,rfl,rfl,_,rfl,cZ ?_];refine#[_,rfl,_,rfl,_,rfl,td,_,rfl,DPut.t (k:=nmK x) etd4 en (be ∅),hDL _ _ ?_];have tsu:TS H4 (upd H4 td (.dT (bh kv (nmK x) (.ref nb2)))):=dh λzs z=>by rw[etd4]at z;cases z
   refine#[λb o e hb=>by rw[ah hb];exact sT b o e hb,_,_,_,_,ad,?_,(tok.ts tsu).add (r:=(x,"off",so)) ho ey (tsu _ _ e2),rfl];have:=cJ kv (nmK x) (.ref nb2);omega
  |oth t nb x w w2 so bv e en hw ho =>refine#[t,_,rfl,Nb e,rfl,_,_,rfl,_,_,rfl,_,_,rfl,rfl,_,rfl,rfl,_,rfl,cj (λz=>hw (V.str.inj z)) ?_];exact hDL _ _ #[sT,kv,_,_,_,etd4,Yn lk,tok.skip (r:=(x,w,so)) ho,rfl]
 rintro σ H4 ⟨sT,kv,o14,o15,o16,etd4,lk,tok,rfl⟩;refine hR0 _ _ ?_;rw[lys,ZQ]at tok;have lkv:=tok.len hRR X.tie X.tw ok;have eod4:=sT _ _ eod3 ntd;have ct4:=sT _ _ ct3 ncl;have S4:=S3.dT etd3 nd sT;obtain⟨⟨dx4,h4⟩,_⟩:=id S4.ha;refine#[_,rfl,td,kv,rfl,.inl etd4,_,rfl,od,kvs,rfl,eod4,rfl,_,rfl,?_];rw[decide_eq_true (show V.int (kv.length:Int)=V.int (kvs.length:Int) by rw[lkv])];refine aD #[_,rfl,h,dx4,_,rfl,h4,jc _ _,h,p,d,n,me,L,rfl,S4,λD2 H5 k5 S5 lr=>?_];refine#[D2,_,rfl,.inl (Nc lr.1),_,rfl,cl,_,rfl,Nc (k5 _ _ ct4 λps z=>by cases z),rfl,_,rfl,?_];rw[decide_eq_true (show V.int ((aE L).length:Int)=V.int (aF n (vals L)).sum by rw[S4.ch.sum,cC])];refine aD ?_;have eod5:=k5 _ _ eod4 λps z=>by cases z
 have etd5:=k5 _ _ etd4 λps z=>by cases z
 have tok5:=tok.ts k5.ts;refine#[_,rfl,od,kvs,rfl,eod5,λo=>?_];have tsf:TS H5 (upd H5 od (.frz o (.dK kvs))):=dh λzs z=>by rw[eod5]at z;cases z
 have etd6:upd H5 od (.frz o (.dK kvs)) td=some (.dT kv):=by rw[ah ntd.symm];exact etd5
 have eod6:upd H5 od (.frz o (.dK kvs)) od=some (.frz o (.dK kvs)):=ad;have tok6:=tok5.ts tsf;generalize upd H5 od (.frz o (.dK kvs))=H6 at etd6 eod6 tok6 ⊢;refine Bi (kvs:=kvs) (λi ys H'=>Same H6 H'/\ys=List.replicate i (V.bl true)) ∅ (λi ys H' z=>by rw[z.2,x5];exact Za _) #[Same.refl _,rfl] (λi ys H' z=>z.1 _ _ eod6) ?_ ?_
 ·rintro i ys H7 pr hp ⟨s7,rfl⟩ Y hY;obtain⟨k,hk⟩:=ok.ks pr (Zv hp);obtain⟨pk,pv⟩:=pr;have hk:pk=.inl k:=hk;subst hk;have sv:(aH kvs (.inl k)).isSome=true:=dO.mpr (Zm.mpr #[_,Zv hp,rfl]);rw[ok.get k]at sv;cases eo:ba W k with
  |none=>rw[eo]at sv;cases sv
  |some m =>
   obtain⟨z,hz,hzm,hzn,ho⟩:=X.tie.get X.tw eo;have:z.2∈RR.map (·.1):=by rw[hRR];exact Zm.mpr #[z,hz,rfl]
   obtain⟨r,hr,er⟩:=Zm.mp this;have er:r.1=z.2:=er;obtain⟨b,y,v1,v2,v3⟩:=tok6.get r hr (by rw[er];exact ho);rw[er]at v1 v2;have om:=X.tie.off_at hz hzm ho v2;rw[hzn,eo]at om;have om:m=aI y.2:=Zn om;obtain⟨y',hy',_,hyh⟩:=fV ho;rw[v2]at hy';cases hy';dsimp only[bo];unfold gw;refine aK #[_,rfl,td,rfl,.inr #[kv,.inl (s7 _ _ etd6)],_,rfl,_,rfl,sz rfl,λt8 g8=>?_];have w8:=af g8 (.tup [.int (me:Int),kV (.inl k)]);have e8:upd H7 t8 (.tup [.int (me:Int),kV (.inl k)]) t8=some (.tup ((nmK z.2).map kV)):=by rw[ad,jH,hzm,hzn];rfl
   have dg:=DGet.t (k:=nmK z.2) (w8 _ _ (s7 _ _ etd6)) e8;rw[v1]at dg;have s8:=s7.trans w8;refine#[_,dg,?_];generalize upd H7 t8 (.tup [.int (me:Int),kV (.inl k)])=H8 at s8 ⊢;have dg2:=DGet.fk (k:=.inl k) (s8 _ _ eod6);rw[ok.get k,eo]at dg2;refine#[_,rfl,_,rfl,_,rfl,od,_,rfl,dg2,sz rfl,λt9 g9=>?_];have w9:=af g9 (.tup [.int (me:Int),.int m]);refine#[b,t9,nmZ y.2,[(me:Int),m],rfl,rfl,w9 _ _ (s8 _ _ v3),ad,?_];have en:nmZ y.2=[(me:Int),m]:=by rw[om,<-hzm,<-hyh];rfl
   rw[decide_eq_true en];refine hY _ _ #[s8.trans w9,?_];rw[List.replicate_succ']
 ·rintro ys pq H7 ⟨s7,rfl⟩ gpq;refine#[pq,List.replicate kvs.length true,rfl,Nc (by rw[List.map_replicate];exact ad),?_];rw[show(List.replicate kvs.length true).all id=true by simp];exact hq _
theorem uQ{x q:Str}{st:Stmt}{f c T:MU}{fd:M0}(a:W.nsIn K mainGlobals x=some (some (.ref f)))(F:Fun K x q st f fd)(t:W.tabIn K x=some (c,T)):fd.code=.ref c:=by obtain⟨oc,od,kV,dc,pm,an,cd,ct,sl,rfl,l0,c0⟩:=id F.ex;exact Eu a l0 t
abbrev lP:Stmt:=aY (top 51) 7
abbrev vO:Stmt:=top 78
end
def nk:Nat->(MT->Prop)->Prop
 |0,p=>p []
 |n+1,p=>∀a,nk n λus=>p (a::us)
theorem hZ:∀{n:Nat} {p:MT->Prop},nk n p->∀us:MT,us.length=n->p us
 |0,_,h,[],_=>h
 |_+1,_,h,a::us,e=>hZ (h a) us (Nat.succ.inj e)
section
variable{P:MX}{w:MY}{K:W.Frag}{mg:MR}{base h:Heap}{n m x q:Str}{st:Stmt}{C f:MU}{k:Nat}{ps:List Str}{sp:Sp}{bm:MT}
structure Bx(P:MX)(w:MY)(K:W.Frag)(mg:MR)(base h:Heap):Prop where
 X:K.In h
 G:h.Ns mainGlobals mg
def A1(K:W.Frag)(n:Str)(st:Stmt)(f:MU):Prop:=W.nsIn K mainGlobals n=some (some (.ref f))/\∃fd,Fun K n n st f fd
def A2(K:W.Frag)(C:MU)(m q:Str)(st:Stmt)(f:MU):Prop:=W.findIn K (.ref C) m=some (some (.ref f))/\W.isFn K (.ref f)=true/\∃fd,Fun K m q st f fd
def AF(K:W.Frag):List (Str×Stmt×MU)->Prop
 | []=>True
 |(n,st,f)::l=>A1 K n st f/\AF K l
def AM(K:W.Frag):List (MU×Str×Str×Stmt×MU)->Prop
 | []=>True
 |(C,m,q,st,f)::l=>A2 K C m q st f/\AM K l
def AN(p:Str->Prop):List Str->Prop
 | []=>True
 |n::l=>p n/\AN p l
theorem anI{p p':Str->Prop}(i:∀{n},p n->p' n):∀{l:List Str},AN p l->AN p' l
 | [],_=>True.intro
 |_::_,h=>#[i h.1,anI i h.2]
theorem gf{l:List (Str×Stmt×MU)}{oc kV dc pm cd ct:MW}{od an:Option MU}{sl:Array (Option MW)}(a:W.nsIn K mainGlobals n=some (some (.ref f)))(b:K.lookup f=some #[oc,od,.func (W.fnOf n n (cR st) (bK st) (aj st) .none kV dc pm an cd ct),sl])(c:W.codeIn K cd n=true)(d:W.keepIn K (.ref f)=true)(r:AF K l):AF K ((n,st,f)::l):=#[#[a,_,BB b c d],r]
theorem gm{l:List (MU×Str×Str×Stmt×MU)}{oc kV dc pm cd ct:MW}{od an:Option MU}{sl:Array (Option MW)}(a:W.findIn K (.ref C) m=some (some (.ref f)))(i:W.isFn K (.ref f)=true)(b:K.lookup f=some #[oc,od,.func (W.fnOf m q (cR st) (bK st) (aj st) .none kV dc pm an cd ct),sl])(c:W.codeIn K cd q=true)(d:W.keepIn K (.ref f)=true)(r:AM K l):AM K ((C,m,q,st,f)::l):=#[#[a,i,_,BB b c d],r]
theorem gn{l:List Str}(a:W.nsIn K mainGlobals n=some none)(r:AN (λn=>W.nsIn K mainGlobals n=some none) l):AN (λn=>W.nsIn K mainGlobals n=some none) (n::l):=#[a,r]
theorem mkF(B:↑Bx h)(A:A1 K n st f)(ok:∀{fd},Fun K n n st f fd->FnOk P w K mg base CX0 k f fd ps sp)(hb:∀(kV doc pm:MW) (an:Option MU) (cdv ct:MW),nk ps.length λus=>bindArgs (W.fnOf n n (cR st) (bK st) (aj st) .none kV doc pm an cdv ct) #[us,[]]=pure (ps.zip us):=by(repeat intro _);rfl):↑Fn k n ps sp:=by obtain⟨a,fd,F⟩:=A;exact#[f,fd,ok F,ZW B.X B.G a,F.kp,F.binds λa b c d e g=>hZ (hb a b c d e g)]
theorem mkM(B:↑Bx h)(L:Cls K C)(A:A2 K C m q st f)(ok:∀{fd},Fun K m q st f fd->FnOk P w K mg base CX0 k f fd ps sp)(hb:∀(kV doc pm:MW) (an:Option MU) (cdv ct:MW),nk ps.length λus=>bindArgs (W.fnOf m q (cR st) (bK st) (aj st) .none kV doc pm an cdv ct) #[us,[]]=pure (ps.zip us):=by(repeat intro _);rfl):↑MFn k C m ps sp:=by obtain⟨a,i,fd,F⟩:=A;exact#[L,f,fd,ok F,#[a,i,F.kp],F.binds λa b c d e g=>hZ (hb a b c d e g)]
theorem mkX(B:↑Bx h)(L:Cls K C)(A:A2 K C m q st f)(ok:∀{fd},Fun K m q st f fd->FnOk P w K mg base (CXr P w) k f fd ps sp)(hb:∀(kV doc pm:MW) (an:Option MU) (cdv ct:MW),nk ps.length λus=>bindArgs (W.fnOf m q (cR st) (bK st) (aj st) .none kV doc pm an cdv ct) #[us,[]]=pure (ps.zip us):=by(repeat intro _);rfl):↑MFnX k C m ps sp:=by obtain⟨a,i,fd,F⟩:=A;exact#[L,f,fd,ok F,#[a,i,F.kp],F.binds λa b c d e g=>hZ (hb a b c d e g)]
theorem mkC(B:↑Bx h)(L:Cls K C)(g:mg x=some (.ref C))(mk:W.makesIn K C=true)(kc:W.keepIn K (.ref C)=true)(A:A2 K C "__init__" q st f)(ok:∀{fd},Fun K "__init__" q st f fd->FnOk P w K mg base CX0 k f fd ps sp)(hb:∀(kV doc pm:MW) (an:Option MU) (cdv ct:MW),nk ps.length λus=>bindArgs (W.fnOf "__init__" q (cR st) (bK st) (aj st) .none kV doc pm an cdv ct) #[us,[]]=pure (ps.zip us):=by(repeat intro _);rfl):↑MkFn k C x ps sp:=by obtain⟨a,i,fd,F⟩:=A;exact#[L,g,f,fd,ok F,#[mk,a,i,kc],F.binds λa b c d e g=>hZ (hb a b c d e g)]
theorem mkE(B:↑Bx h)(e:ExcAtI K C f bm)(A:A2 K C m q st f)(ok:∀{fd},Fun K m q st f fd->FnOk P w K mg base CX0 k f fd ps sp)(hb:∀(kV doc pm:MW) (an:Option MU) (cdv ct:MW),nk ps.length λus=>bindArgs (W.fnOf m q (cR st) (bK st) (aj st) .none kV doc pm an cdv ct) #[us,[]]=pure (ps.zip us):=by(repeat intro _);rfl):↑ExI k C bm ps sp:=by obtain⟨a,i,fd,F⟩:=A;exact#[f,fd,e,ok F,F.binds λa b c d e g=>hZ (hb a b c d e g)]
end
theorem GP{l:W.OpenLaw}{w:MY}{K:W.Frag}{h:Heap}{mg:MR}{fa f1 f2 f3 f4 f5 f6 f7 f8 f9 f10 f11 f12 f13 f14 f15 f16 f17 f18 f19 f20 f21 f22 f23 f24 f25 f26 f27 f28 f29 f30 f31 f32 f33 f34 f35 f36 f37 f38 f39 f40 f41 f42 f43 f44 f45 f46 f47 f48 f49 f50 f51 f52 f53 f54 f55 m1 m2 m3 m4 m5 m6 m7 m8 m9 m10 m11 m12 m13 m14 m15 m16 m17 m18 m19 m20 m21 m22 m23:MU}{C_Store:MU}{C_Hand:MU}{C_Plain:MU}(X:K.In h)(G:h.Ns mainGlobals mg)(hfa:mg "law" = some (.ref fa)){L1:Tok}{Mm:Tok}{Ms:Tok}{L3:Tok}{Mn:Tok}{MG:Tok}{MM:Tok}{Kn:MU}{Ko:MU}{n9:MU}{c_NoItem c_LimbError c_Taken c_Beneath c_Far c1 T1 c2 T2:MU}(Mc:W.nsIn K mainGlobals "Store" = some (some (.ref C_Store)))(LI:W.plainGet K C_Store Str.empty=true)(LJ:W.hasDictIn K C_Store=true)(LK:W.plainOver K C_Store=true)(LL:W.findIn K (.ref C_Store) "__setattr__" = some (some (.builtin "object.__setattr__")))(LM:W.makesIn K C_Store=true)(LN:W.keepIn K (.ref C_Store)=true)(Kp:W.findIn K (.ref C_Store) "hands" = some none)(Kq:W.findIn K (.ref C_Store) "deeds" = some none)(Mt:W.nsIn K mainGlobals "Hand" = some (some (.ref C_Hand)))(Md:W.plainGet K C_Hand Str.empty=true)(Me:W.hasDictIn K C_Hand=true)(Mf:W.plainOver K C_Hand=true)(Mg:W.findIn K (.ref C_Hand) "__setattr__" = some (some (.builtin "object.__setattr__")))(Mh:W.makesIn K C_Hand=true)(Mi:W.keepIn K (.ref C_Hand)=true)(KG:W.findIn K (.ref C_Hand) "store" = some none)(Ls:W.findIn K (.ref C_Hand) "me" = some none)(Mj:W.nsIn K mainGlobals "Plain" = some (some (.ref C_Plain)))(LO:W.plainGet K C_Plain Str.empty=true)(LP:W.hasDictIn K C_Plain=true)(LQ:W.plainOver K C_Plain=true)(LU:W.findIn K (.ref C_Plain) "__setattr__" = some (some (.builtin "object.__setattr__")))(LV:W.makesIn K C_Plain=true)(LW:W.keepIn K (.ref C_Plain)=true)(KH:W.findIn K (.ref C_Plain) "held" = some none)(KI:W.findIn K (.ref C_Plain) "away" = some none)(Lu:W.nsIn K mainGlobals "NoItem" = some (some (.ref c_NoItem)))(LX:W.nsIn K mainGlobals "Taken" = some (some (.ref c_Taken)))(Ld:W.nsIn K mainGlobals "Beneath" = some (some (.ref c_Beneath)))(Mu:W.nsIn K mainGlobals "Far" = some (some (.ref c_Far)))(KJ:W.nsIn K mainGlobals "LimbError" = some (some (.ref c_LimbError)))(zF:AF K (("is_number",jv,f1)::("is_whole",kI,f2)::("is_name",lU,f3)::("is_clock",kG,f4)::("start_clock",gU,f5)::("within",oj,f6)::("raised",oh,f7)::("tells",qZ,f8)::("is_deed_word",fX,f9)::("deed_parts",iP,f10)::("is_place",kH,f11)::("is_sign",lX,f12)::("is_text",lY,f13)::("is_hand",lT,f14)::("is_known_item",fL,f15)::("is_part",lV,f16)::("is_what",ma,f17)::("is_deed",lS,f18)::("name_of",mf,f19)::("asked_by",kD,f20)::("is_answered",gQ,f21)::("ready_of",hU,f22)::("is_turn",lZ,f23)::("turned_name",gW,f24)::("last_turns",iQ,f25)::("is_off",nZ,f26)::("counting",kE,f27)::("own_deeds",jw,f28)::("last_undone",gR,f29)::("last_redone",fg,f30)::("step_parts",iS,f31)::("step_of",mh,f32)::("word_of_step",fY,f33)::("play",vN,f34)::("played",og,f35)::("words_of",kL,f36)::("steps_of",kK,f37)::("stepped",mi,f38)::("hears",qX,f39)::("apart",qW,f40)::("touched_by",vO,f41)::("taken_item",iT,f42)::("gainsays",kF,f43)::("first_gainsayer",eY,f44)::("takings_of",iU,f45)::("overs_of",kJ,f46)::("report_of",jx,f47)::("_law_cell_at",lQ,f48)::("_law_raised",md,f49)::("_law_off",Ak,f50)::("_law_to_undo",ml,f51)::("_law_to_redo",mj,f52)::("_law_what",vP,f53)::("_law_done",vM,f54)::("law",mG,f55)::[]))(zM:AM K ((C_Store,"__init__","Store.__init__",iO,m1)::(C_Store,"hear","Store.hear",iM,m2)::(C_Store,"ready","Store.ready",gP,m3)::(C_Store,"clock","Store.clock",gO,m4)::(C_Hand,"__init__","Hand.__init__",jr,m5)::(C_Hand,"clock","Hand.clock",iH,m6)::(C_Hand,"ready","Hand.ready",iI,m7)::(C_Hand,"hear","Hand.hear",jq,m8)::(C_Hand,"do","Hand.do",lO,m9)::(C_Hand,"undo","Hand.undo",ju,m10)::(C_Hand,"redo","Hand.redo",jt,m11)::(c_NoItem,"__init__","NoItem.__init__",gL,m12)::(C_Plain,"__init__","Plain.__init__",iJ,m13)::(C_Plain,"bring_in","Plain.bring_in",fw,m14)::(C_Plain,"change","Plain.change",fW,m15)::(C_Plain,"check_names","Plain.check_names",dQ,m16)::(C_Plain,"holds","Plain.holds",gN,m17)::(C_Plain,"at_or_beneath","Plain.at_or_beneath",df,m18)::(C_Plain,"check_bounds","Plain.check_bounds",dG,m19)::(C_Plain,"part_item","Plain.part_item",eX,m20)::(C_Plain,"join_items","Plain.join_items",lP,m21)::(C_Plain,"step","Plain.step",iL,m22)::(C_Hand,"report","Hand.report",gK,m23)::[]))(zN:AN (λn=>W.nsIn K mainGlobals n=some none) ("len"::"max"::"range"::"list"::"isinstance"::"zip"::"enumerate"::"sorted"::"all"::"any"::"sum"::"int"::"tuple"::"bool"::"str"::"ord"::"dict"::[]))(Kf:W.nsIn K mainGlobals "MOST_NUMBERS" = some (some (.int 64 L1)))(KK:W.nsIn K mainGlobals "FIRST_SIGN" = some (some (.int 32 Mm)))(KY:W.nsIn K mainGlobals "LAST_SIGN" = some (some (.int 126 Ms)))(Kg:W.nsIn K mainGlobals "PERCENT_SIGN" = some (some (.int 37 L3)))(KL:W.nsIn K mainGlobals "MOST_SIGNS" = some (some (.int 60 Mn)))(Mv:W.nsIn K mainGlobals "TEXT" = some (some (.int 2 MG)))(MD:W.nsIn K mainGlobals "UP" = some (some (.int 0 MM)))(KM:W.nsIn K mainGlobals "DEED_PARTS" = some (some (.ref Kn)))(t_DEED_PARTS:PyProof.Rows.KTD.tabLook (jQ K) (λb=>K.lookup b) Kn DT=true)(KN:W.nsIn K mainGlobals "STEP_PARTS" = some (some (.ref Ko)))(t_STEP_PARTS:PyProof.Rows.KTD.tabLook (jQ K) (λb=>K.lookup b) Ko ST=true)(u5:W.nsIn K mainGlobals "FIRST_CHANGED" = some (some (.ref n9)))(t_FIRST_CHANGED:PyProof.Rows.KTD.tabLook (jQ K) (λb=>K.lookup b) n9 FC=true)(Lv:uN K c_NoItem m12=true)(Lw:∃c d cd sl,K.lookup c_NoItem=some #[c,d,.cls cd,sl]/\cd.mro=Value.ref c_NoItem::Value.ref c_LimbError::VE)(if_NoItem:∃oI,K.lookup m12=some oI/\oI.cls=.type "function")(LY:W.excIn K c_Taken [.type "ValueError",.type "Exception",.type "BaseException",.type "object"] "ValueError.__new__" = true)(LZ:∃c d cd sl,K.lookup c_Taken=some #[c,d,.cls cd,sl]/\cd.mro=Value.ref c_Taken::(Value.ref c_LimbError::VE))(Le:W.excIn K c_Beneath [.type "ValueError",.type "Exception",.type "BaseException",.type "object"] "ValueError.__new__" = true)(Lf:∃c d cd sl,K.lookup c_Beneath=some #[c,d,.cls cd,sl]/\cd.mro=Value.ref c_Beneath::(Value.ref c_LimbError::VE))(Mw:W.excIn K c_Far [.type "ValueError",.type "Exception",.type "BaseException",.type "object"] "ValueError.__new__" = true)(Mx:∃c d cd sl,K.lookup c_Far=some #[c,d,.cls cd,sl]/\cd.mro=Value.ref c_Far::(Value.ref c_LimbError::VE))(tb1:W.tabIn K "ready_of" = some (c1,T1))(tb2:W.tabIn K "last_redone" = some (c2,T2))(e6:W.mroIn K c_NoItem (.type "object")=some true)(aN:W.findIn K (.ref c_NoItem) "name" = some none)(s1:W.findIn K (.ref c_NoItem) "__setattr__" = some (some (.builtin "object.__setattr__")))(s2:((W.clsIn K c_NoItem).any λcd=>pF cd.mro&&cd.hasDict)=true)(nb:(Value.ref c_Beneath::Value.ref c_LimbError::VE).contains (.ref c_NoItem)=false)
  :∃fd:M0,(∀(s:MV) (v:MW),BindsTo s fd #[[v],[]] [("_law_script",v)])/\∀base:Heap,K.In base->base.Ns mainGlobals mg->Blt base mg->W.CodeHd base c1 T1->W.CodeHd base c2 T2->FnOk l.prog w K mg base CX0 12 fa fd ["_law_script"] (tV K T1 T2):=by
 obtain⟨Af1,Af2,Af3,Af4,Af5,Af6,Af7,Af8,Af9,Af10,Af11,Af12,Af13,Af14,Af15,Af16,Af17,Af18,Af19,Af20,Af21,Af22,Af23,Af24,Af25,Af26,Af27,Af28,Af29,Af30,Af31,Af32,Af33,Af34,Af35,Af36,Af37,Af38,Af39,Af40,Af41,Af42,Af43,Af44,Af45,Af46,Af47,Af48,Af49,Af50,Af51,Af52,Af53,Af54,⟨a0,_,F0⟩,_⟩:=zF;obtain⟨Am1,Am2,Am3,Am4,Am5,Am6,Am7,Am8,Am9,Am10,Am11,Am12,Am13,Am14,Am15,Am16,Am17,Am18,Am19,Am20,Am21,Am22,Am23,_⟩:=zM;obtain⟨a8,n6,LC,r9,a7,j6,d8,LF,h9,MA,KP,K4,b9,KZ,Lz,Mo,K1,_⟩:=anI (p':=λn=>mg n=none) (λz=>W.mg_none_of X G z) zN;have e:=hfa.symm.trans (ZW X G a0);cases e;obtain⟨oc,od,kV,dc,pm,an,cd,ct,sl,rfl,l0,c0⟩:=id F0.ex;have u7:=ZW X G Kf;have Kw:=ZW X G KK;have KR:=ZW X G KY;have u8:=ZW X G Kg;have Kx:=ZW X G KL;have Kh:=ZW X G Mv;have L7:=ZW X G MD;have i8:=ZW X G KM;have Kz:=ZW X G KN;have u4:=ZW X G u5;have MH:=ZW X G Mc;have K3:Cls K C_Store:=#[LI,LJ,LK,LL]
 have LD:Txt K C_Store:=#[K3,Kp,Kq]
 have MK:=ZW X G Mt;have u6:Cls K C_Hand:=#[Md,Me,Mf,Mg]
 have KO:TxH K C_Hand:=#[u6,KG,Ls]
 have MI:=ZW X G Mj;have i9:Cls K C_Plain:=#[LO,LP,LQ,LU]
 have j8:TxP K C_Plain:=#[i9,KH,KI]
 have Ly:Tab K Kn DT:=#[t_DEED_PARTS]
 have My:Tab K Ko ST:=#[t_STEP_PARTS]
 have L4:Tab K n9 FC:=#[t_FIRST_CHANGED]
 have v7:=ZW X G Lu;have Ml:ExcAtI K c_NoItem m12 (Value.ref c_LimbError::VE):=#[Lv,Lw,by rw[Y9];rfl,if_NoItem]
 have L6:=ZW X G LX;have j5:=ZW X G Ld;have LA:=ZW X G Mu;have ML:=ZW X G KJ;have ME:ExcAt K c_Taken (Value.ref c_LimbError::VE):=#[LY,LZ,by rw[Y9];rfl]
 have L5:ExcAt K c_Beneath (Value.ref c_LimbError::VE):=#[Le,Lf,by rw[Y9];rfl]
 have MC:ExcAt K c_Far (Value.ref c_LimbError::VE):=#[Mw,Mx,by rw[Y9];rfl]
 have sN:ExS K c_NoItem:=#[s1,s2,e6]
 have er:ErF K c_NoItem c_Beneath c_Far _ _ _:=#[xM Ml,uL L5,uL MC,nb]
 refine#[W.fnOf "law" "law" (cR mG) (bK mG) (aj mG) .none kV dc pm an cd ct,λs v=>.of_eq rfl,λbase _ _ Bl C1 C2=>?_];have B:Bx l.prog w K mg base h:=#[X,G]
 have j2:=mkF B Af1 λF=>vC F a7 K4 KZ;have d7:=mkF B Af2 λF=>xf F j2;have Lh:=mkF B Af3 λF=>zS F d7 a7 b9 a8;have K6:=mkF B Af4 λF=>xa F d7 a7 b9 a8 h9;have Kk:=mkF B Af5 λF=>qU F;have LE:=mkF B Af6 λF=>Cd F h9 j6;have v6:=mkF B Af7 λF=>Cc F;have Ks:=mkF B Af8 λF=>DQ F;have u9:=mkF B Af9 λF=>pD F i8 Ly a7 Lz;have Ky:=mkF B Af10 λF=>sZ F i8 Ly;have K5:=mkF B Af11 λF=>xb F j2 a7 b9 a8 h9 u7;have Lg:=mkF B Af12 λF=>zU F Mo Kw KR u8;have Li:=mkF B Af13 λF=>zV F Lg a7 Lz h9;have pi:=mkF B Af14 λF=>zR F d7;have j4:=mkF B Af15 λF=>nW F Lh Ks a8;have Lj:=mkF B Af16 λF=>zT F j4 K5 Li pi d7 a7 KZ a8 Kx;have Lk:=mkF B Af17 λF=>zX F u9 Ky Lj a7 b9 a8 h9 j6;have Ll:=mkF B Af18 λF=>zQ F pi K6 Lk a7 b9 a8;have a6:=mkF B Af19 λF=>zZ F;have K7:=mkF B Af20 λF=>wV F d8;have Kj:=mkF B Af21 λF=>qQ F LE;have K8:=mkF B Af22 λF=>xh F (uQ Af22.1 F tb1) C1 Bl K7 Kj a6 KP LF h9 r9;have i6:=mkF B Af23 λF=>zW F;have i7:=mkF B Af24 λF=>qV F;have a9:=mkF B Af25 λF=>tj F i6 i7;have j0:=mkF B Af26 λF=>Ca F a6 i6;have K9:=mkF B Af27 λF=>wY F a9 j0;have j3:=mkF B Af28 λF=>vD F;have Kl:=mkF B Af29 λF=>qS F a6 n6;have Km:=mkF B Af30 λF=>qR F (uQ Af30.1 F tb2) C2 Bl a6 j0 n6;have LG:=mkC B K3 MH LM LN Am1 λF=>sY F LD;have K0:=mkM B K3 Am2 λF=>sX F LD Ll a6;have Kt:=mkM B K3 Am3 λF=>qP F LD K8 r9;have Ku:=mkM B K3 Am4 λF=>qO F LD Kt Kk v6;have Ma:=mkC B u6 MK Mh Mi Am5 λF=>vx F KO LG;have LH:=mkM B u6 Am6 λF=>sU F (R:=T2) KO Ku;have i5:=mkM B u6 Am7 λF=>sV F (R:=T2) KO Kt;have Mb:=mkM B u6 Am8 λF=>vw F (T:=T1) (R:=T2) KO K0;have t5:=mkM B u6 Am9 λF=>zL F (R:=T2) KO Ku v6 K0;have L8:=mkM B u6 Am10 λF=>vB F KO i5 t5 K9 j3 Kl;have L9:=mkM B u6 Am11 λF=>vA F KO i5 t5 a9 j3 Km;have KA:=mkF B Af31 λF=>tm F Kz My;have Lm:=mkE B Ml Am12 λF=>qK F sN aN;have Kb:=mkC B i9 MI LV LW Am13 λF=>sW F j8;have j7:=mkM B i9 Am14 λF=>mR F j8;have v8:=mkM B i9 Am15 λF=>pC F j8 a8;have IO:=mkX B i9 Am16 λF=>jI F j8 KA j6 (nB ME) L6 Lm v7;have LB:=mkM B i9 Am17 λF=>qL F j8;have g0:=mkM B i9 Am18 λF=>jn F L7;have u3:=mkX B i9 Am19 λF=>jo F j8 g0 Kh a8 (nB L5) j5 (nB MC) LA;have KS:=mkM B i9 Am20 λF=>lE F j8 v8 j7 Kh L7 n6;have KB:=mkM (k:=2) (ps:=["self","name","other"]) (sp:=rA) B i9 Am21 λ_=>uO;have j9:=mkX B i9 Am22 λF=>qM F j8 IO u3 j7 KS KB v8 u4 L4;have Ln:=mkF B Af32 λF=>Aa F a6;have Ka:=mkF B Af33 λF=>pE F j9 er v7 j5 LA;have Mp:=mkF B Af34 λF=>FE F LB j9 Ln Ka;have Kc:=mkF B Af35 λF=>Cb F a9 i6 a6 i7 j0 Mp Kb;have l7:=mkF B Af36 λF=>xj F Kc;have Lb:=mkF B Af37 λF=>xi F Kc;have Lo:=mkF B Af38 λF=>Ab F Kb j9;have Ke:=mkF B Af39 λF=>DP F a6 Ks;have Kv:=mkF B Af40 λF=>DO F a6 Ke;have KC:=mkF (k:=1) (ps:=["deed"]) B Af41 λ_=>uO;have KE:=mkF B Af42 λF=>tq F;have La:=mkF B Af43 λF=>wZ F a6 Ke Kv KC g0 MA;have n5:=mkF B Af44 λF=>lF F a6 La;have KF:=mkF B Af45 λF=>tu F l7 Lb Lo a6 KE n5 K1;have Lc:=mkF B Af46 λF=>xg F a6 Kv d8 a8;have KU:=mkF B Af47 λF=>vE F l7 a9 KF Lc a6 K1 j6;have Lr:=mkM B u6 Am23 λF=>qJ F i5 KU;have Ki:=mkF B Af48 λF=>zO F a8;have KQ:=mkF B Af49 λF=>zY F r9 b9;have Kr:=mkF B Af50 λF=>Ht F d8;have Lp:=mkF B Af51 λF=>Ad F Kr d8 n6;have Lq:=mkF B Af52 λF=>Ac F Kr;have Mq:=mkF B Af53 λF=>FF F;have Mr:=mkF B Af54 λF=>FD F t5 L8 L9 Mq Lp Lq K4 a8;exact Hs F0 Ki KQ Kr Mr Ma Mb LH i5 Lr LC b9 a8 KP h9
theorem J9{l:W.OpenLaw}{q:MX}{loose:List Str}{XP:(MR)->Heap->Prop}{YP:MY->Heap->Prop}{d:DefRec}{K:Params->W.Frag}{c1 T1 c2 T2:MU}(hn:l.most=some 63)(hdf:d.params.defaults=[])(hY:∀ (w:MY) (h:Heap),YP w h->(K w.params).In h)(ht0:∀ w:MY,W.tabIn (K w.params) "ready_of" = some (c1,T1))(hd0:∃ d',(PyProof.Rows.recsOf q).find? (λe=>e.name == ("ready_of":Str))=some d')(ht1:∀ w:MY,W.tabIn (K w.params) "last_redone" = some (c2,T2))(hd1:∃ d',(PyProof.Rows.recsOf q).find? (λe=>e.name == ("last_redone":Str))=some d')(nT:T1≠T2)(nt:∀ w:MY,W.noTabs (K w.params)=true)(F:∀ (w:MY) (mg:MR) (fa:MU) (h:Heap),(K w.params).In h->h.Ns mainGlobals mg->mg d.name=some (.ref fa) ->
   ∃ fd:M0,(∀ (s:MV) (u:MW),BindsTo s fd #[[u],[]] [("_law_script",u)])/\∀ base:Heap,(K w.params).In base->base.Ns mainGlobals mg->Blt base mg->W.CodeHd base c1 T1->W.CodeHd base c2 T2->FnOk l.prog w (K w.params) mg base CX0 12 fa fd ["_law_script"] (tV (K w.params) T1 T2)) :
  W.WalkO q loose XP YP l.row.toRowW d [] (λf vs=>PySem.call f vs) :=
 L2.C4 (n:=63) (k:=12) (x:="_law_script") (tabs:=λ_=>[("ready_of",c1,T1),("last_redone",c2,T2)]) (sp:=λw=>tV (K w.params) T1 T2) hn ⋯ hdf #[rfl,⋯,⋯] hY (λw t htm=>by
   rcases Zl.mp htm with rfl|htm
   ·exact#[ht0 w,hd0]
   ·rw[Zd.mp htm];exact#[ht1 w,hd1]) nt
  (λw mg fa h k g e=>let⟨fd,b,r⟩:=F w mg fa h k g e;#[fd,b,λbase k2 g2 bl cs=>r base k2 g2 bl (cs _ (.head _)) (cs _ (.tail _ (.head _)))]) (λw H a ns hl hT hS=>#[a,ns,rfl,hS,hl,hT _ (.head _),hT _ (.tail _ (.head _)),nT,λ_=>rfl])
end K44
end
namespace PySem.W.Fast
def tw7896524461155648419:=()
def tw6489891401561980981:=()
def tw12500331640419891847:=()
def tw8908618548864684784:=()
def tw10774752893280595519:=()
def tw17193389118682786151:=()
def tw11360189576485647755:=()
def tw12666747868083254926:=()
def tw12095955859554730658:=()
def tw11331101148683374215:=()
def tw949850828109084018:=()
def tw12088007249608877776:=()
def tw16002376693860644907:=()
def tw436852560930885112:=()
def tw10774987312567818049:=()
def tw16280862189543281040:=()
def tw11130611343680804722:=()
def tw10720591078261156230:=()
def tw10007739950161695805:=()
def tw6020743632735517035:=()
def tw12557341609940088259:=()
def tw14350107126380854320:=()
def tw5636746436292004269:=()
def tw2812169372157475472:=()
def tw990249124712001471:=()
def tw1110984987951836229:=()
def tw6744770228187195781:=()
def tw14232571720964385349:=()
def tw7581301476142885617:=()
def tw16746830776589367519:=()
def tw9006111284220562592:=()
def tw13511853782311835735:=()
def tw13910207336235135304:=()
def tw2094868232292917510:=()
def tw4265119843773431619:=()
def tw6246557949261998495:=()
def tw14790204163682455499:=()
def tw12882232324139905352:=()
def tw4301412826869357708:=()
def tw1048769474656067:=()
def tw11937536502644567222:=()
def tw1368130472767660102:=()
def tw10423822497102046568:=()
def tw15551854069362062989:=()
def tw8499784205206475267:=()
def tw4172893728890692638:=()
def tw16585937396728153063:=()
def tw11615798150900204416:=()
def tw15755877026285024268:=()
def tw3330034082633815892:=()
def tw412223022481494883:=()
def tw17303539113652731021:=()
def tw3912904432684076976:=()
def tw10611152376232879933:=()
def tw5813905662104248228:=()
def tw3835283113857357495:=()
def tw6784115477382574188:=()
def tw17028020400119298147:=()
def tw4598118965869988109:=()
def tw14589450885337010054:=()
def tw9538760357683765401:=()
def tw9980658775140969692:=()
def tw9209760543419198204:=()
def tw3689161302548295033:=()
def tw7178207972274770674:=()
def tw7248636646268689915:=()
def tw2736671032376866793:=()
def tw13929723164995290236:=()
def tw42895339086600248:=()
def tw17775328628671586370:=()
def tw16512335483581752952:=()
def tw2109951083963604966:=()
def tw7339963497486918680:=()
def tw13918242725274395056:=()
def tw4626932140338617296:=()
def tw9677759813874156170:=()
def tw2254861019053350485:=()
def tw2040243225782572398:=()
def tw3753454206817013549:=()
def tw14811251090878838782:=()
def tw14404288068421683738:=()
def tw3446181988418341458:=()
def tw4201376546293501459:=()
def tw11818838052907109419:=()
def tw17827279326486818142:=()
def tw15049301649096276825:=()
def tw13210636378504919102:=()
def tw11342159192646257813:=()
def tw7720363066246673870:=()
def tw3861509774898908741:=()
def tw15047671371625254622:=()
def tw2733340915940508853:=()
def tw18353495289237076235:=()
def tw15430352371803549123:=()
def tw9932924024135944391:=()
def tw6885438497813974141:=()
def tw18281967470668214624:=()
def tw7603164542280970001:=()
def tw7791101608950547726:=()
def tw3299609662647566507:=()
def tw6935646183878795392:=()
def tw587453732315713777:=()
def tw5892958115773271289:=()
def tw5472569361666452092:=()
def tw4252826057124538613:=()
def tw2211242844548260415:=()
def tw8729478763300485719:=()
def tw16710057163792805268:=()
def tw10400193394696523809:=()
def tw3835664022267613972:=()
def tw1072204916027559159:=()
def tw7199407948048293409:=()
def tw17292517464861806117:=()
def tw13127324842256570610:=()
def tw5950665314361465116:=()
def tw17173730816483403762:=()
def tw1348410222938438219:=()
def tw3564708482034270964:=()
def tw11785704907879558849:=()
def tw1559515610137718661:=()
def tw7320292396692687377:=()
def tw10742628960120301911:=()
def tw8300946929642430968:=()
def tw15067144243793897518:=()
def tw8504358338710932720:=()
def tw12701023526465476743:=()
def tw17253082208348490150:=()
def tw18011346290380859754:=()
def tw16839350056700436552:=()
def tw5167556263973333910:=()
def tw9020046759675383340:=()
def tw190341450535948533:=()
def tw674030403654536556:=()
def tw1449800805684546253:=()
def tw14529451398789205487:=()
def tw12983501338987206067:=()
def tw7098964281445723680:=()
def tw12342408503409272500:=()
def tw9560441893358773627:=()
def tw13895334812342913100:=()
def tw9129020444430639061:=()
def tw12991207017072526587:=()
def tw2926096699343785494:=()
def tw8742913745146914472:=()
def tw17280553792159160301:=()
def tw6144194764233734725:=()
def tw3460961129888913794:=()
def tw16228817903342026851:=()
def tw13786389541321799939:=()
def tw3311477512838517543:=()
def tw15689847383474399751:=()
def tw3029713885675225384:=()
def tw16383953021661860298:=()
def tw12874827050498059799:=()
def tw10251695545446675240:=()
def tw7160673422364187415:=()
def tw13865176075361456785:=()
def tw8645053785987275656:=()
def tw3909474989383921925:=()
def tw10648209947203799047:=()
def tw5048809167174041665:=()
def tw4969428187920362979:=()
def tw2609202851122998630:=()
def tw16527064995468828595:=()
def tw12473169038139047824:=()
def tw13116506871793054632:=()
def tw663031787917572781:=()
def tw4867763377460444972:=()
def tw3886326903378409038:=()
def tw6884736951085221640:=()
def tw15870228043738864193:=()
def tw2844220533869928706:=()
def tw3383858835786953400:=()
def tw11865953021968470794:=()
def tw9087138810218242098:=()
def tw12336610047183973643:=()
def tw384845912256922482:=()
def tw14340833885756368792:=()
def tw18247046041946395343:=()
def tw10486619983545909212:=()
def tw4076769400635259326:=()
def tw15981418003523744444:=()
def tw15186870595634191367:=()
def tw1703641686868396570:=()
def tw7100379724055669096:=()
def tw18313059017829625643:=()
def tw5114044354336152200:=()
def tw351362631670645575:=()
def tw8784341114404828633:=()
def tw10311281292389128917:=()
def tw17533191310694060441:=()
def tw6598767149838623665:=()
def tw5321457290118171250:=()
def tw9832558855528263041:=()
def tw15979602809986229548:=()
def tw17917851818261279526:=()
def tw17492024565689708078:=()
def tw3062453911249077473:=()
def tw13649325569195527923:=()
def tw15740816218864949143:=()
def tw3231213671780442225:=()
def tw14793879812509813076:=()
def tw605298166034459250:=()
def tw3525681684540393272:=()
def tw17031056508638161472:=()
def tw6598726948120425804:=()
def tw13275795902570623671:=()
def tw7976856904202577932:=()
def tw6663263157971499703:=()
def tw3009197919740608244:=()
def tw10264295032801468961:=()
def tw3914302193953957895:=()
def tw7255892428758222404:=()
def tw11676300392019162411:=()
def tw8023040684164648277:=()
def tw8498282977990888712:=()
def tw319653759391695982:=()
def tw12281253343745627314:=()
def tw13993108645542243877:=()
def tw15969075586699656279:=()
def tw10965948822268727794:=()
def tw11021053939250086302:=()
def tw14648680313414674162:=()
def tw9251245265816557409:=()
def tw14502140934317007313:=()
def tw14643989624805681818:=()
def tw9117757542402874619:=()
def tw18115966395418522961:=()
def tw10543813100678797075:=()
def tw4332483049367415966:=()
def tw391787003555586514:=()
end PySem.W.Fast
open PySem PySem.W PyProof.Rows
set_option maxRecDepth 100000 in
set_option maxHeartbeats 0 in
theorem PySem.Challenge.cw_limb_k44_undone_and_done_again_holds : PySem.Challenge.rw_limb_k44_undone_and_done_again.Holds := by
  w_on; o_law; k_head; (case hw => w_witness2)
  k_fill
  refine' K44.J9 (l := PySem.Challenge.rw_limb_k44_undone_and_done_again) rfl rfl (λw h Y => W.km_in_of Y) ?ht0 ?hd0 ?ht1 ?hd1 ?nT ?nt ?F
  case ht0 => intro w; with_unfolding_all rfl
  case hd0 => exact ⟨_, rfl⟩
  case ht1 => intro w; with_unfolding_all rfl
  case hd1 => exact ⟨_, rfl⟩
  case nT => decide
  case nt => intro w; kernel_rfl
  case F =>
    intro w mg fa h KX G hmg
    refine' K44.GP KX G hmg ?Mc ?LI ?LJ ?LK ?LL ?LM ?LN ?Kp ?Kq ?Mt ?Md ?Me ?Mf ?Mg ?Mh ?Mi ?KG ?Ls ?Mj ?LO ?LP ?LQ ?LU ?LV ?LW ?KH ?KI ?Lu ?LX ?Ld ?Mu ?KJ ?zF ?zM ?zN ?Kf ?KK ?KY ?Kg ?KL ?Mv ?MD ?KM ?t_DEED_PARTS ?KN ?t_STEP_PARTS ?u5 ?t_FIRST_CHANGED ?Lv ?Lw ?if_NoItem ?LY ?LZ ?Le ?Lf ?Mw ?Mx ?tb1 ?tb2 ?e6 ?aN ?s1 ?s2 ?nb
    (case Mc => k_is)
    (case LI => k_is)
    (case LJ => k_is)
    (case LK => k_is)
    (case LL => k_is)
    (case LM => k_is)
    (case LN => k_is)
    (case Kp => k_is)
    (case Kq => k_is)
    (case Mt => k_is)
    (case Md => k_is)
    (case Me => k_is)
    (case Mf => k_is)
    (case Mg => k_is)
    (case Mh => k_is)
    (case Mi => k_is)
    (case KG => k_is)
    (case Ls => k_is)
    (case Mj => k_is)
    (case LO => k_is)
    (case LP => k_is)
    (case LQ => k_is)
    (case LU => k_is)
    (case LV => k_is)
    (case LW => k_is)
    (case KH => k_is)
    (case KI => k_is)
    (case Lu => k_is)
    (case LX => k_is)
    (case Ld => k_is)
    (case Mu => k_is)
    (case KJ => k_is)
    (case zF => (repeat refine K44.gf (by k_is) (by k_is) (by k_is) (by k_is) ?_); exact True.intro)
    (case zM => (repeat refine K44.gm (by k_is) (by k_is) (by k_is) (by k_is) (by k_is) ?_); exact True.intro)
    (case zN => (repeat refine K44.gn (by k_is) ?_); exact True.intro)
    (case Kf => k_is)
    (case KK => k_is)
    (case KY => k_is)
    (case Kg => k_is)
    (case KL => k_is)
    (case Mv => k_is)
    (case MD => k_is)
    (case KM => k_is)
    (case t_DEED_PARTS => rfl)
    (case KN => k_is)
    (case t_STEP_PARTS => rfl)
    (case u5 => k_is)
    (case t_FIRST_CHANGED => rfl)
    (case Lv => kernel_rfl)
    (case Lw => exact ⟨_, _, _, _, rfl, rfl⟩)
    (case if_NoItem => exact ⟨_, rfl, rfl⟩)
    (case LY => k_exc)
    (case LZ => exact ⟨_, _, _, _, rfl, rfl⟩)
    (case Le => k_exc)
    (case Lf => exact ⟨_, _, _, _, rfl, rfl⟩)
    (case Mw => k_exc)
    (case Mx => exact ⟨_, _, _, _, rfl, rfl⟩)
    (case tb1 => with_unfolding_all rfl)
    (case tb2 => with_unfolding_all rfl)
    (case e6 => k_is)
    (case aN => k_is)
    (case s1 => k_is)
    (case s2 => rfl)
    (case nb => rfl)
