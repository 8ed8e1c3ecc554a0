import PyProof.Rows.All
import Wide.All
import OpenK.AllK
import Wide.FinOn
import PyProof.EqAt
import PyProof.EqKinds
import PyProof.TupleCall
import Lean
import PySem.Challenge.RW_limb_k27_whole_plain_outline
def Jg:=@if_pos
def Jf:=@if_neg
def z0:=@PySem.wpAny_bind
def z6:=@PySem.wpAny_pure
def z9:=@PySem.Heap.get?_push_of_some
def Za:=@Nat.le_refl
def Zb:=@Option.some.inj
def Zd:=@List.getElem?_eq_getElem
def Ze:=@List.length_map
def Zf:=@List.mem_cons_of_mem
def Zg:=@List.size_toArray
def Zh:=@Option.isSome_iff_exists
def Zi:=@Bool.false_ne_true
def Zj:=@List.mem_cons
def Zk:=@List.map_cons
def Zl:=@List.mem_cons_self
def Zm:=@PySem.Heap.lt_size
def Zn:=@List.length_append
def Zo:=@PySem.Heap.get?_push_size
def Zq:=@List.mem_singleton
def Zr:=@Nat.le_trans
def Zs:=@Ne.symm
def Zt:=@List.mem_iff_getElem?
def Zu:=@PySem.Paired.length
def Zv:=@List.getD_eq_getElem?_getD
def Zw:=@List.length_cons
def Zx:=@Array.length_toList
def Zy:=@Nat.ne_of_lt
def Zz:=@Nat.lt_of_lt_of_le
def ZA:=@List.take_of_length_le
def ZB:=@List.getElem?_eq_some_iff
def ZC:=@List.mem_append
def ZD:=@Bool.and_eq_true
def ZE:=@List.getElem?_map
def ZF:=@List.mem_map
def ZG:=@List.nodup_cons
def ZH:=@List.mem_of_getElem?
def ZI:=@List.mem_append_right
def ZJ:=@List.length_filter_le
def ZK:=@PySem.wpAny_mono
def ZL:=@List.lookup_cons
def ZM:=@Nat.zero_le
def ZN:=@List.map_append
def ZO:=@beq_iff_eq
def ZP:=@PySem.Heap.SameBut.update
def ZQ:=@List.mem_filter
def ZR:=@List.append_nil
def ZS:=@List.length_take
def ZT:=@List.not_mem_nil
def ZU:=@congrArg
def ZV:=@PySem.wpAny_field
def ZW:=@PySem.wpAny_callSpecial?_slot
def ZX:=@PySem.PassesOwn.never
def ZY:=@of_decide_eq_true
def ZZ:=@Option.map_eq_some_iff
def Z0:=@List.getElem?_append_right
def Z1:=@PySem.wpAny_holding
def Z2:=@PySem.wpAny_call_entry
def Z3:=@PySem.boot_len
def Z4:=@PySem.wpAny_dictEpoch
def Z5:=@PySem.wpAny_newObj_type
def Z6:=@PyProof.Rows.slot_tuple_getitem
def Z7:=@PySem.W.kia_one
def Z8:=@PySem.wpAny_rule
def Z9:=@List.getElem_mem
def y0:=@PySem.mem_of_lookup
def y7:=@PySem.F.slot_dict_keyiterator_next
def y8:=@PySem.W.mg_of
def y9:=@PyProof.Rows.callWith_type1
def Ya:=@List.mem_filterMap
def Yb:=@PySem.Obj.data_mapFields
def Yc:=@Array.getD_eq_getD_getElem?
def Yd:=@List.filter_cons_of_pos
def Ye:=@Nat.lt_succ_self
def Yf:=@Nat.ne_of_gt
def Yg:=@PySem.Heap.get?_update_other
def Yh:=@beq_eq_false_iff_ne
def Yi:=@List.getElem?_append_left
def Yj:=@Array.getElem?_eq_getElem
def Yk:=@PySem.Heap.get?_update_self
def Yl:=@Nat.lt_irrefl
def Ym:=@List.take_succ
def Yn:=@List.filter_cons_of_neg
def Yo:=@PySem.wpAny_truthy_bool
def Yp:=@PySem.wpAny_dictEntries
def Yq:=@List.mem_map_of_mem
def Yr:=@PySem.SeqAt.canLay_of_shaped
def Ys:=@Array.getElem?_eq_some_iff
def Yt:=@PySem.wpAny_forIn_list
def Yu:=@List.all_eq_true
def Yv:=@List.mem_range
def Yw:=@List.length_singleton
def Yx:=@List.filter_append
def Yy:=@of_decide_eq_false
def Yz:=@Int.emod_lt_of_pos
def YA:=@PySem.Heap.get?_none_of_le
def YB:=@Array.mem_toList_iff
def YC:=@Nat.lt_or_ge
def YD:=@Int.emod_nonneg
def YE:=@PySem.wpAny_loadPart_at
def YF:=@List.all_cons
def YG:=@PySem.wpAny_typeNameOfWhole_keyiter
def YH:=@List.map_congr_left
def YI:=@List.length_drop
def YJ:=@PySem.wpAny_setField
def YK:=@or_false
def YL:=@List.filter_eq_nil_iff
def YM:=@List.contains_cons
def YN:=@List.map_map
def YO:=@Array.getElem?_toList
def YQ:=@Bool.eq_false_iff
set_option Elab.async false
set_option linter.all false
set_option maxRecDepth 100000
set_option maxHeartbeats 2000000
local macro_rules | `(tactic| omega) => `(tactic| first | with_reducible first | assumption | exact Nat.le_of_lt (by assumption) | exact Nat.le_refl _ | exact Nat.lt_add_one _ | exact Nat.le_trans (by assumption) (by decide) | exact Nat.lt_of_lt_of_le (by assumption) (by decide) | exact Nat.sub_lt_sub_left (by assumption) (Nat.lt_add_one _) | exact Nat.le_antisymm (by assumption) (Nat.le_of_not_lt (by assumption)) | lia)
local macro_rules | `(tactic| decide) => `(tactic| decide +kernel)
abbrev Jh:=PySem.Value->PySem.Shared->Prop
abbrev Ji:=PySem.Str->Option PySem.Value
abbrev Jj:=List (PySem.Addr×PySem.Obj)
abbrev Jk:=Nat->Nat->Bool
abbrev Jl:=Option PySem.Value
abbrev Jm:=Array PySem.Value
abbrev Jn:=List PySem.Value
abbrev Jo:=Array Nat
abbrev Jp:=PySem.FuncData
abbrev Jq:=List Int
abbrev Jr:=List PySem.Str
abbrev Js:=List Nat
abbrev Jt:=PySem.Program
abbrev Ju:=PySem.Shared
abbrev Jv:=PySem.Around
abbrev Jw:=PySem.Value
abbrev Jx:=PySem.World
abbrev Jy:=PySem.Addr
abbrev Jz:=PySem.Expr
abbrev JA:=PySem.Stmt
abbrev JB:=PySem.Heap
namespace L2
open PySem PySem.Spec PyProof.Rows
abbrev Key:=Sum Int Str
def mt:Key->Jw->Bool
 |.inl k,v=>Value.isInt k v
 |.inr x,v=>Value.isStrOf x v
def HJ(w:Jx):Key->Int
 |.inl k=>hashInt k
 |.inr x=>hashStr w x
theorem cD:∀{k:Key} {v:Jw},mt k v=true->(∃i t,k=Sum.inl i/\v=Value.int i t)\/(∃x t,k=Sum.inr x/\v=Value.str x t)
 |.inl i,v,h=>by obtain⟨t,e⟩:=Value.isInt_shape (k:=i) (v:=v) h;exact .inl ⟨i,t,rfl,e⟩
 |.inr x,v,h=>by obtain⟨t,e⟩:=Value.isStrOf_shape (x:=x) (v:=v) h;exact .inr ⟨x,t,rfl,e⟩
theorem yt(i:Int)(t:Tok):mt (.inl i) (.int i t)=true:=by simp[mt,Value.isInt]
theorem yw(x:Str)(t:Tok):mt (.inr x) (.str x t)=true:=by simp[mt,Value.isStrOf]
theorem Es(a b:Int):decide ((Sum.inl a:Key)=Sum.inl b)=(a==b):=by
 by_cases e:a=b
 ·subst e;simp
 ·have h:¬(Sum.inl a:Key)=Sum.inl b:=λq=>e (Sum.inl.inj q);rw[decide_eq_false h];exact(Yh.mpr e).symm
theorem Ev(a b:Str):decide ((Sum.inr a:Key)=Sum.inr b)=decide (a=b):=by
 by_cases e:a=b
 ·subst e;simp
 ·have h:¬(Sum.inr a:Key)=Sum.inr b:=λq=>e (Sum.inr.inj q);rw[decide_eq_false h,decide_eq_false e]
theorem Et(a:Int)(b:Str):decide ((Sum.inl a:Key)=Sum.inr b)=false:=decide_eq_false (λq=>nomatch q)
theorem Eu(a:Str)(b:Int):decide ((Sum.inr a:Key)=Sum.inl b)=false:=decide_eq_false (λq=>nomatch q)
def bh(prog:Jt)(w:Jx):PySem.KeyKind prog w Key where
 is:=mt
 hash:=HJ w
 inj:=λv a b ha hb=>by
  rcases cD ha with⟨i,t,rfl,rfl⟩|⟨x,t,rfl,rfl⟩
  ·rcases cD hb with⟨j,u,rfl,e⟩|⟨y,u,rfl,e⟩
   ·injection e with e1 _;rw[e1]
   ·exact nomatch e
  ·rcases cD hb with⟨j,u,rfl,e⟩|⟨y,u,rfl,e⟩
   ·exact nomatch e
   ·injection e with e1 _;rw[e1]
 byValue:=λk v h=>by rcases cD h with⟨i,t,rfl,rfl⟩|⟨x,t,rfl,rfl⟩<;>rfl
 pyHash:=λhv h=>by
  rcases cD hv with⟨i,t,rfl,rfl⟩|⟨x,t,rfl,rfl⟩
  ·exact wpAny_pyHash_int h
  ·exact wpAny_pyHash_str h
 eqBool:=λhu hv h=>by
  rcases cD hu with⟨i,t,rfl,rfl⟩|⟨x,t,rfl,rfl⟩
  ·rcases cD hv with⟨j,u,rfl,rfl⟩|⟨y,u,rfl,rfl⟩
   ·rw[Es]at h;exact wpAny_eqBool_int h
   ·rw[Et]at h;exact SeqAt.EqAt.int_str i t y u _ _ _ _ h
  ·rcases cD hv with⟨j,u,rfl,rfl⟩|⟨y,u,rfl,rfl⟩
   ·rw[Eu]at h;exact SeqAt.EqAt.str_int x t j u _ _ _ _ h
   ·rw[Ev]at h;exact wpAny_eqBool_str h
 «strs»:=λk x t v h=>by
  rcases cD h with⟨i,u,rfl,e⟩|⟨y,u,rfl,e⟩
  ·exact nomatch e
  ·injection e with e1 _;subst e1;cases v<;>rfl
theorem ue(prog:Jt)(w:Jx)(i:Int)(t:Tok):(bh prog w).is (.inl i) (.int i t)=true:=yt i t
theorem uf(prog:Jt)(w:Jx)(x:Str)(t:Tok):(bh prog w).is (.inr x) (.str x t)=true:=yw x t
inductive V where
 |non|bl (b:Bool)|int (i:Int)|str (x:Str)|byt (b:Array UInt8)|flt (b:UInt64)|ref (a:Jy)|ty (n:String)
 deriving DecidableEq
def RelV:V->Jw->Prop
 |.non,u=>u=Value.none
 |.bl b,u=>u=Value.bool b
 |.int i,u=>∃t,u=Value.int i t
 |.str x,u=>∃t,u=Value.str x t
 |.byt b,u=>∃t,u=Value.bytes b t
 |.flt b,u=>∃t,u=Value.float b t
 |.ref a,u=>u=Value.ref a
 |.ty n,u=>u=Value.type n
abbrev Vals:List V->Jn->Prop:=Paired RelV
theorem Vals.length{xs:List V}{us:Jn}(r:Vals xs us):xs.length=us.length:=Zu r
theorem Vals.get:∀{xs:List V} {us:Jn} {i:Nat} {x:V},Vals xs us->xs[i]?=some x->∃u,us[i]?=some u/\RelV x u
 |_,_,_,_,.nil,e=>by simp at e
 |_,_,0,_,.cons r _,e=>by simp at e;subst e;exact⟨_,rfl,r⟩
 |_,_,i+1,x,.cons _ t,e=>by obtain⟨u,h1,h2⟩:=Vals.get (i:=i) (x:=x) t (by simpa using e);exact⟨u,by simpa using h1,h2⟩
theorem Vals.append:∀{xs ys:List V} {us ws:Jn},Vals xs us->Vals ys ws->Vals (xs++ys) (us++ws)
 |_,_,_,_,.nil,s=>s
 |_,_,_,_,.cons r t,s=>.cons r (Vals.append t s)
theorem Vals.take:∀{xs:List V} {us:Jn} (n:Nat),Vals xs us->Vals (xs.take n) (us.take n)
 |_,_,0,_=>.nil
 |_,_,_+1,.nil=>.nil
 |_,_,n+1,.cons r t=>.cons r (Vals.take n t)
theorem Vals.drop:∀{xs:List V} {us:Jn} (n:Nat),Vals xs us->Vals (xs.drop n) (us.drop n)
 |_,_,0,r=>r
 |_,_,_+1,.nil=>.nil
 |_,_,n+1,.cons _ t=>Vals.drop n t
def RelO:Option V->Jl->Prop
 |some v,some u=>RelV v u
 |none,none=>True
 |_,_=>False
def KV{κ:Type}:List (κ×V)->List (κ×Jw)->Prop:=Paired fun(p:κ×V) (q:κ×Jw)=>p.1=q.1/\RelV p.2 q.2
def kV:Key->V
 |.inl i=>.int i
 |.inr x=>.str x
inductive HO where
 |lst (xs:List V)
 |tup (xs:List V)
 |dK (kvs:List (Key×V))|dT (kvs:List (List Key×V))
 |set (S:Int->Bool)(n:Nat)
 |ins (C dx:Jy)(fs:List (Str×V))
 |own (x:Jy)
 |xd (fs:List (Str×V))
 |met (f x:Jy)
 |rng (lo hi:Int)
 |frz (o:Obj)(u:HO)
 |tbl (ps:Jm)
 |ext (φ:JB->Prop)
abbrev Hp:=Jy->Option HO
def upd(H:Hp)(a:Jy)(o:HO):Hp:=λb=>if b=a then some o else H b
theorem ac{H:Hp}{a:Jy}{o:HO}:upd H a o a=some o:=by unfold upd;rw[Jg rfl]
theorem ad{H:Hp}{a b:Jy}{o:HO}(h:b≠a):upd H a o b=H b:=by unfold upd;rw[Jf h]
theorem cV{H:Hp}{a b:Jy}{o u:HO}(h:H a=some o)(h':H b=some u)(d:o≠u):a≠b:=by intro e;subst e;rw[h]at h';exact d (Zb h')
theorem ai{H:Hp}{a b:Jy}{o:HO}(h:H a=some o)(h':H b=none):a≠b:=by intro e;subst e;rw[h]at h';cases h'
section
variable(P:Jt)(w:Jx)
def ObjOk(H:Hp)(h:JB)(a:Jy):HO->Prop
 |.lst xs=>xs.length<=sizeLine/\∃(its:Jn) (n:Nat),Vals xs its/\h.get? a=some { cls:=.type "list",data:=.seq its.toArray n }
 |.tup xs=>xs.length<=sizeLine/\∃its:Jn,Vals xs its/\IsTup h a its.toArray
 |.dK kvs=>kvs.length<=sizeLine/\(a==sysModules)=false/\∃vs,KV kvs vs/\h.DictOf (bh P w) a vs
 |.dT kvs=>kvs.length<=sizeLine/\(a==sysModules)=false/\∃xs:List (List Key×Jy×Jw),
   Paired (fun(p:List Key×V) (q:List Key×Jy×Jw)=>p.1=q.1/\H q.2.1=some (.tup (p.1.map kV))/\RelV p.2 q.2.2) kvs xs /\
   ∃o es ep,h.get? a=some o/\o.ExactDict/\o.data=.dict es ep/\es.toList=xs.map (entryOfKey (tupleKind (bh P w)))/\(xs.map (·.1)).Nodup
 |.set S n=>h.SetOf (intKind P w) a S n
 |.ins C dx fs=>H dx=some (.own a)/\fs.length<=1000/\dx≠a/\h.get? a=some (W.instObj C dx) /\
   ∃mA,h.Ns1 dx mA/\(∀f,RelO (fs.lookup f) (mA f))/\PySem.Within mA (fs.map (·.1))
 |.own _=>∃o,h.get? a=some o
 |.xd fs=>∃mA,h.Ns1 a mA/\∀f,RelO (fs.lookup f) (mA f)
 |.rng lo hi=>∃t u v,h.get? a=some { cls:=.type "range",data:=.fields #[.int lo t,.int hi u,.int 1 v] }
 |.frz o u=>h.get? a=some o/\ObjOk H h a u
 |.tbl ps=>h.get? a=some { cls:=.none,data:=.fields ps }
 |.met f x=>h.get? a=some (W.methodObj (.ref f) (.ref x))
 |.ext φ=>φ h/\(∃o,h.get? a=some o)/\∀h1 h2:JB,φ h1->(∀o,h1.get? a=some o->h2.get? a=some o)->φ h2
def HOk(H:Hp)(h:JB):Prop:=∀a o,H a=some o->ObjOk P w H h a o
end
section
variable{P:Jt}{w:Jx}{H H':Hp}{h h':JB}{a:Jy}{o:HO}
theorem ObjOk.lt(x:ObjOk P w H h a o):a<h.objs.size:=by
 cases o with
 |lst xs=>obtain⟨_,_,_,_,e⟩:=x;exact Zm e
 |tup xs=>obtain⟨_,_,_,p⟩:=x;exact p.lt
 |dK kvs=>obtain⟨_,_,_,_,o,_,_,e,_⟩:=x;exact Zm e
 |dT kvs=>obtain⟨_,_,_,_,o,_,_,e,_⟩:=x;exact Zm e
 |set S n=>obtain⟨o,_,_,_,e,_⟩:=x;exact Zm e
 |ins C dx fs=>obtain⟨_,_,_,e,_⟩:=x;exact Zm e
 |own y=>obtain⟨_,e⟩:=x;exact Zm e
 |xd fs=>obtain⟨_,⟨_,_,_,e,_⟩,_⟩:=x;exact Zm e
 |rng lo hi=>obtain⟨_,_,_,e⟩:=x;exact Zm e
 |frz ob u=>obtain⟨e,_⟩:=x;exact Zm e
 |tbl ps=>exact Zm (show h.get? a=some _ from x)
 |met f y=>exact Zm (show h.get? a=some _ from x)
 |ext φ=>obtain⟨_,⟨_,e⟩,_⟩:=x;exact Zm e
theorem Paired.mapP{α β:Type}{F G:α->β->Prop}:∀{l₁:List α} {l₂:List β},Paired F l₁ l₂->(∀a b,F a b->G a b)->Paired G l₁ l₂
 |_,_,.nil,_=>.nil
 |_,_,.cons r t,f=>.cons (f _ _ r) (Paired.mapP t f)
theorem ObjOk.stay(x:ObjOk P w H h a o)(k:∀b u,(b=a\/H b=some (.own a))->h.get? b=some u->h'.get? b=some u)(ho:∀b,H b=some (.own a)->H' b=some (.own a))(ht:∀b xs,H b=some (.tup xs)->H' b=some (.tup xs)):ObjOk P w H' h' a o:=by
 induction o with
 |lst xs=>obtain⟨z,its,n,r,e⟩:=x;exact⟨z,its,n,r,k _ _ (.inl rfl) e⟩
 |tup xs=>obtain⟨z,its,r,ob,e,c⟩:=x;exact⟨z,its,r,ob,k _ _ (.inl rfl) e,c⟩
 |dK kvs=>obtain⟨z,y,vs,r,ob,es,ep,e,c⟩:=x;exact⟨z,y,vs,r,ob,es,ep,k _ _ (.inl rfl) e,c⟩
 |dT kvs =>obtain⟨z,y,xs,r,ob,es,ep,e,c⟩:=x;exact⟨z,y,xs,Paired.mapP r λp q z=>⟨z.1,ht _ _ z.2.1,z.2.2⟩,ob,es,ep,k _ _ (.inl rfl) e,c⟩
 |set S n=>obtain⟨ob,es,ep,t,e,c⟩:=x;exact⟨ob,es,ep,t,k _ _ (.inl rfl) e,c⟩
 |ins C dx fs =>obtain⟨d,z,ne,e,mA,⟨od,es,ep,e2,c⟩,r⟩:=x;exact⟨ho _ d,z,ne,k _ _ (.inl rfl) e,mA,⟨od,es,ep,k _ _ (.inr d) e2,c⟩,r⟩
 |own y=>obtain⟨ob,e⟩:=x;exact⟨ob,k _ _ (.inl rfl) e⟩
 |xd fs=>obtain⟨mA,⟨od,es,ep,e,c⟩,r⟩:=x;exact⟨mA,⟨od,es,ep,k _ _ (.inl rfl) e,c⟩,r⟩
 |rng lo hi=>obtain⟨t,u,v,e⟩:=x;exact⟨t,u,v,k _ _ (.inl rfl) e⟩
 |frz ob u ih=>obtain⟨e,q⟩:=x;exact⟨k _ _ (.inl rfl) e,ih q⟩
 |tbl ps =>have e:h.get? a=some { cls:=.none,data:=.fields ps }:=x;show h'.get? a=some { cls:=.none,data:=.fields ps };exact k a _ (.inl rfl) e
 |met f y =>have e:h.get? a=some (W.methodObj (.ref f) (.ref y)):=x;show h'.get? a=some (W.methodObj (.ref f) (.ref y));exact k a _ (.inl rfl) e
 |ext φ=>obtain⟨p,⟨o,e⟩,st⟩:=x;exact⟨st _ _ p λo q=>k _ _ (.inl rfl) q,⟨o,k _ _ (.inl rfl) e⟩,st⟩
theorem HOk.lt(x:HOk P w H h)(e:H a=some o):a<h.objs.size:=(x a o e).lt
theorem HOk.fresh(x:HOk P w H h)(e:h.objs.size<=a):H a=none:=by
 cases q:H a with
 |none=>rfl
 |some u=>exact absurd (Zz (x.lt q) e) (Yl _)
theorem HOk.kept(x:HOk P w H h)(k:∀b u,h.get? b=some u->h'.get? b=some u):HOk P w H h':=λa o e =>
 (x a o e).stay (λb u _ q=>k b u q) (λ_ q=>q) λ_ _ q=>q
theorem HOk.laid(x:HOk P w H h)(k:∀b u,h.get? b=some u->h'.get? b=some u)(hp:h.objs.size<=a)(new:ObjOk P w (upd H a o) h' a o):HOk P w (upd H a o) h':=λb u e=>by
 have hn:=x.fresh hp;by_cases hb:b=a
 ·subst hb;rw[ac]at e;cases e;exact new
 ·rw[ad hb]at e;exact(x b u e).stay (λc v _ q=>k c v q) (λc q=>by rw[ad (ai q hn)];exact q) λc xs q=>by rw[ad (ai q hn)];exact q
end
def Rd(H:Hp)(a:Jy)(u:HO):Prop:=H a=some u\/∃o,H a=some (.frz o u)
theorem Rd.of{H:Hp}{a:Jy}{u:HO}(h:H a=some u):Rd H a u:=.inl h
theorem Rd.ok{P:Jt}{w:Jx}{H:Hp}{h:JB}{a:Jy}{u:HO}(r:Rd H a u)(x:HOk P w H h):ObjOk P w H h a u:=by
 rcases r with r|⟨o,r⟩
 ·exact x a u r
 ·obtain⟨_,q⟩:=x a _ r;exact q
def Mut:Option HO->Prop
 |some (.lst _)=>True
 |some (.dK _)=>True
 |some (.dT _)=>True
 |some (.set _ _)=>True
 |some (.ins _ _ _)=>True
 |some (.ext _)=>True
 |_=>False
section
variable{P:Jt}{w:Jx}{H:Hp}{h h':JB}{x e:Jy}{o':HO}
theorem HOk.write(ok:HOk P w H h)(mu:Mut (H x))(he:e=x\/H e=some (.own x))(k:∀b u,b≠e->h.get? b=some u->h'.get? b=some u)(heo:∃u,h'.get? e=some u)(new:ObjOk P w (upd H x o') h' x o'):HOk P w (upd H x o') h':=λb u q=>by
 have nown:∀c y,H c=some (.own y)->c≠x:=λc y r z=>by subst z;rw[r]at mu;exact mu
 have ntup:∀c xs,H c=some (.tup xs)->c≠x:=λc xs r z=>by subst z;rw[r]at mu;exact mu
 by_cases hb:b=x
 ·subst hb;rw[ac]at q;cases q;exact new
 ·rw[ad hb]at q;by_cases hbe:b=e
  ·have q':H b=some (.own x):=by
    rcases he with z|z
    ·exact absurd (hbe.trans z) hb
    ·rw[hbe];exact z
   rw[q]at q';cases q';obtain⟨v,hv⟩:=heo;exact⟨v,by rw[hbe];exact hv⟩
  ·refine(ok b u q).stay (λc v hc r=>k c v ?_ r) (λc r=>by rw[ad (nown c b r)];exact r) λc xs r=>by rw[ad (ntup c xs r)];exact r
   rcases hc with rfl|hc
   ·exact hbe
   ·rintro rfl;rcases he with z|z
    ·exact nown c b hc z
    ·rw[hc]at z;cases z;exact hb rfl
end
structure Un(fs ex:List Jy)(H H':Hp)(h h':JB):Prop where
 keep:∀b o,h.get? b=some o->H b=none->b∉fs->b∉ex->h'.get? b=some o
 slot:∀b o,h.get? b=some o->H b=none->b∈fs->b∉ex->∃sl,h'.get? b=some { o with slots:=sl }
 free:∀b o,h.get? b=some o->H b=none->b∉ex->H' b=none
 there:∀b o,h.get? b=some o->b∉ex->∃o',h'.get? b=some o'
 tups:∀b xs,H b=some (.tup xs)->H' b=some (.tup xs)
 frzs:∀b o u,H b=some (.frz o u)->H' b=some (.frz o u)
 tbls:∀b ps,H b=some (.tbl ps)->∃more,H' b=some (.tbl (ps++more))
section
variable{fs fs' ex ex':List Jy}{H H1 H2:Hp}{h h1 h2 h':JB}{a x e:Jy}{o:HO}
theorem Un.any(u:Un fs ex H H1 h h1){b:Jy}{ob:Obj}(q:h.get? b=some ob)(n:H b=none)(hx:b∉ex):∃sl,h1.get? b=some { ob with slots:=sl }:=by
 by_cases hb:b∈fs
 ·exact u.slot b ob q n hb hx
 ·exact⟨ob.slots,u.keep b ob q n hb hx⟩
theorem Un.kept(k:∀b u,h.get? b=some u->h'.get? b=some u):Un fs ex H H h h' :=
 ⟨λb ob q _ _ _=>k b ob q,λb ob q _ _ _=>⟨ob.slots,k b ob q⟩,λ_ _ _ n _=>n,λb ob q _=>⟨ob,k b ob q⟩,λ_ _ q=>q,λ_ _ _ q=>q,λ_ ps q=>⟨#[],by rw[q];simp⟩⟩
theorem Un.refl:Un fs ex H H h h:=Un.kept λ_ _ q=>q
theorem Un.laid(k:∀b u,h.get? b=some u->h'.get? b=some u)(hp:h.objs.size<=a)(hn:H a=none):Un fs ex H (upd H a o) h h' where
 keep:=λb u q _ _ _=>k b u q
 slot:=λb u q _ _ _=>⟨u.slots,k b u q⟩
 free:=λb u q n _=>by rw[ad (Zy (Zz (Zm q) hp))];exact n
 there:=λb u q _=>⟨u,k b u q⟩
 tups:=λb xs q=>by rw[ad (ai q hn)];exact q
 frzs:=λb u xs q=>by rw[ad (ai q hn)];exact q
 tbls:=λb ps q=>⟨#[],by rw[ad (ai q hn),q];simp⟩
theorem Un.write(mu:Mut (H x))(he:e=x\/H e=some (.own x))(k:∀b u,b≠e->h.get? b=some u->h'.get? b=some u)(heo:∃u,h'.get? e=some u):Un fs ex H (upd H x o) h h':=by
 have hx:∀b,H b=none->b≠x:=λb n z=>by subst z;rw[n]at mu;exact mu
 have hb:∀b,H b=none->b≠e:=λb n z=>by
  subst z;rcases he with r|r
  ·exact hx b n r
  ·rw[n]at r;cases r
 have hm:∀b u,H b=some u->¬Mut (some u)->b≠x:=λb u q nm z=>by subst z;rw[q]at mu;exact nm mu
 refine⟨λb u q n _ _=>k b u (hb b n) q,λb u q n _ _=>⟨u.slots,k b u (hb b n) q⟩,λb u q n _=>by rw[ad (hx b n)];exact n,λb u q _=>?_,
  λb xs q=>by rw[ad (hm b _ q λz=>z)];exact q,λb u xs q=>by rw[ad (hm b _ q λz=>z)];exact q,λb ps q=>⟨#[],by rw[ad (hm b _ q λz=>z),q];simp⟩⟩
 by_cases hbe:b=e
 ·subst hbe;exact heo
 ·exact⟨u,k b u hbe q⟩
end
def trk(h:JB)(H:Hp):List Jy:=(List.range h.objs.size).filter λa=>(H a).isSome
def jm(h:JB)(H:Hp):JB:=W.hideAll h (trk h H)
theorem yp(h:JB)(H:Hp):(jm h H).objs.size=h.objs.size:=W.hideAll_size _ _
theorem kl{h:JB}{H:Hp}{b:Jy}{o:Obj}(e:h.get? b=some o)(n:H b=none):(jm h H).get? b=some o :=
 W.hideAll_get _ e λhm=>by have q:(H b).isSome=true:=(ZQ.mp hm).2;rw[n]at q;simp at q
theorem CK{h:JB}{H:Hp}{b:Jy}{o:Obj}(e:(jm h H).get? b=some o):h.get? b=some o/\H b=none:=by
 have e':h.get? b=some o:=W.of_hideAll (trk h H) e;refine⟨e',?_⟩;cases q:H b with
 |none=>rfl
 |some x =>have hm:b∈trk h H:=ZQ.mpr ⟨Yv.mpr (Zm e'),by simp[q]⟩;have z:(jm h H).get? b=none:=W.hideAll_none (trk h H) hm;rw[z]at e;cases e
structure Mod(K:W.Frag)(mg:Ji)(base:JB):Prop where
 kin:K.In base
 glob:base.Ns mainGlobals mg
 blt:∃mb,base.Ns builtinsNs mb/\∀x:Str,x≠"__name__"->mb x=bootBuiltins x
 nolimit:base.NoLimit
structure Cx where
 prog:Jt
 w:Jx
 K:W.Frag
 mg:Ji
 base:JB
 A:Jv
 N:Jr
 s₀:Ju
 H₀:Hp
 env:Env
 outer:List Env
 stack:List Env
 ex:List Jy
 fn:Str->Bool
 calm:Bool
 pn:Jj
 xe:Jh
def frs(l:List Env):List Jy:=l.filterMap (·.frame)
abbrev Cx.fs(X:Cx):List Jy:=frs X.outer
def Vis(sc:Scope)(x:Str):Prop:=sc.names.lookup x=some .local\/sc.names.lookup x=some .cell\/sc.names.lookup x=some .free
def Loc(sc:Scope)(x:Str):Prop:=sc.names.lookup x=some .local\/sc.names.lookup x=some .cell
def Hv(env:Env)(h:JB)(m:Ji)(x:Str)(u:Jw):Prop :=
 (env.kindOf x=some .local/\m x=some u)\/((env.kindOf x=some .cell\/env.kindOf x=some .free)/\∃c,env.cells.lookup x=some c/\h.IsCell c (some u))
structure Cx.Ok(X:Cx):Prop where
 mod:Mod X.K X.mg X.base
 kind:X.env.scope.kind=.function
 glob:X.env.globals=mainGlobals
 blt:X.env.builtins=builtinsNs
 above:X.s₀.heap.objs.size<=X.env.locals
 inj:∀x y c,X.env.cells.lookup x=some c->X.env.cells.lookup y=some c->x=y
 has:∀x,(X.env.kindOf x=some .cell\/X.env.kindOf x=some .free)->∃c,X.env.cells.lookup x=some c
 cab:∀x c,X.fn x=true->X.env.cells.lookup x=some c->X.s₀.heap.objs.size<=c
 hd:X.calm=true->X.A.handled=none
 frames:X.A.frames=some X.stack
 stk:X.stack=X.outer\/(X.stack=X.env::X.outer/\X.env.frame=some X.env.locals)
 exf:∀b∈X.ex,b≠X.env.locals/\∀x c,X.env.cells.lookup x=some c->c≠b
 bs:∀b o,X.base.get? b=some o->X.s₀.heap.get? b=some o/\X.H₀ b=none
 bsz:X.base.objs.size<=X.s₀.heap.objs.size
 noex:∀b o,X.base.get? b=some o->b∉X.ex
 exfs:∀b∈X.ex,b∉X.fs
 funs:X.s₀.heap.FunFrames X.base X.outer
 frf:∀b∈X.fs,X.H₀ b=none
structure Inv(X:Cx)(JC:Jj)(σ:List (Option V))(H:Hp)(s:Ju):Prop where
 ok:X.Ok
 os:s.os=X.s₀.os
 bare:AllBare s.gens
 base:Un X.fs X.ex X.H₀ H X.s₀.heap s.heap
 loc:∃m,s.heap.Ns X.env.locals m/\∀(i:Nat) (x:Str) (v:V),X.N[i]?=some x->σ[i]?=some (some v)->Vis X.env.scope x->∃u,RelV v u/\Hv X.env s.heap m x u
 cell:∀x c,X.env.cells.lookup x=some c->∃v,s.heap.IsCell c v
 free:H X.env.locals=none
 freeC:∀x c,X.env.cells.lookup x=some c->H c=none
 pin:∀p∈X.pn++JC,s.heap.get? p.1=some p.2/\H p.1=none/\p.1≠X.env.locals/\p.1∉X.fs/\∀v,p.2.data≠.cell v
 hok:HOk X.prog X.w H s.heap
 len:σ.length=X.N.length
section
variable{X:Cx}{JC:Jj}{σ:List (Option V)}{H H':Hp}{s:Ju}{h':JB}
theorem Cx.Ok.nofr(ok:X.Ok){b:Jy}{o:Obj}(e:X.base.get? b=some o):b∉X.fs:=λhb=>by have:=(ok.funs.mem hb).1;rw[e]at this;cases this
theorem Inv.bs(I:Inv X JC σ H s):∀b o,X.base.get? b=some o->s.heap.get? b=some o/\H b=none:=λb o e =>
 ⟨I.base.keep b o (I.ok.bs b o e).1 (I.ok.bs b o e).2 (I.ok.nofr e) (I.ok.noex b o e),I.base.free b o (I.ok.bs b o e).1 (I.ok.bs b o e).2 (I.ok.noex b o e)⟩
theorem Inv.bk(I:Inv X JC σ H s):∀b o,X.base.get? b=some o->s.heap.get? b=some o:=λb o e=>(I.bs b o e).1
theorem Inv.mod(I:Inv X JC σ H s):Mod X.K X.mg X.base:=I.ok.mod
theorem Inv.kIn(I:Inv X JC σ H s):X.K.In s.heap:=I.ok.mod.kin.keeps I.bk
theorem Inv.fr(I:Inv X JC σ H s):∃m,Fr X.base X.env.locals s.heap m :=
 let⟨m,hn,_⟩:=I.loc
 ⟨m,hn,I.bk,Zr I.ok.bsz I.ok.above⟩
theorem Inv.lt(I:Inv X JC σ H s):X.env.locals<s.heap.objs.size:=let⟨_,hn,_⟩:=I.loc;hn.lt
theorem Inv.sz(I:Inv X JC σ H s):X.s₀.heap.objs.size<=s.heap.objs.size:=Zr I.ok.above (Nat.le_of_lt I.lt)
theorem Inv.nofs(I:Inv X JC σ H s){a:Jy}(h:s.heap.objs.size<=a):a∉X.fs:=λhb=>by obtain⟨_,o,ho,_⟩:=I.ok.funs.mem hb;exact absurd (Zz (Zm ho) (Zr I.sz h)) (Yl _)
theorem Inv.cne(I:Inv X JC σ H s):∀x c,X.env.cells.lookup x=some c->c≠X.env.locals:=λx c e z=>by obtain⟨v,o,ho,hd⟩:=I.cell x c e;obtain⟨m,⟨o',es,ep,ho',hd',_⟩,_⟩:=I.loc;rw[z,ho']at ho;cases ho;rw[hd']at hd;cases hd
theorem Inv.funs(I:Inv X JC σ H s):s.heap.FunFrames X.base X.outer:=by
 have all:∀(l:List Env),(∀b∈frs l,b∈X.fs)->X.s₀.heap.FunFrames X.base l->s.heap.FunFrames X.base l:=by
  intro l;induction l with
  |nil=>intro _ _;trivial
  |cons env r ih =>intro hs hl;obtain⟨hk,⟨L,o,hf,hn,ho,hd⟩,hr⟩:=hl;have hL:L∈X.fs:=hs L (by unfold frs;rw[List.filterMap_cons,hf];exact Zl);obtain⟨sl,e⟩:=I.base.slot L o ho (I.ok.frf L hL) hL λz=>I.ok.exfs L z hL;exact⟨hk,⟨L,_,hf,hn,e,hd⟩,ih (λb hb=>hs b (by unfold frs;rw[List.filterMap_cons,hf];exact Zf _ hb)) hr⟩
 exact all X.outer (λ_ hb=>hb) I.ok.funs
theorem Inv.stack(I:Inv X JC σ H s):s.heap.FunFrames X.base X.stack:=by
 rcases I.ok.stk with e|⟨e,hf⟩
 ·rw[e];exact I.funs
 ·rw[e];obtain⟨m,hn,_⟩:=I.loc;refine .cons (by rw[I.ok.kind];decide) hf hn ?_ I.funs;exact YA (Zr I.ok.bsz I.ok.above)
theorem Inv.stkSub(I:Inv X JC σ H s):∀b∈frs X.stack,b∈X.env.locals::X.fs:=λb hb=>by
 rcases I.ok.stk with e|⟨e,hf⟩
 ·rw[e]at hb;exact Zf _ hb
 ·rw[e]at hb;unfold frs at hb;rw[List.filterMap_cons,hf]at hb;exact hb
theorem Inv.stkFree(I:Inv X JC σ H s):∀b∈frs X.stack,H b=none:=λb hb=>by
 rcases Zj.mp (I.stkSub b hb)with e|hb
 ·rw[e];exact I.free
 ·obtain⟨_,o,ho,_⟩:=I.ok.funs.mem hb;exact I.base.free b o ho (I.ok.frf b hb) λz=>I.ok.exfs b z hb
theorem Inv.step{g':Array GenState}{t':Nat}{d':Drawn}{ch:List Jy}(I:Inv X JC σ H s)(hch:∀b∈ch,(b∈X.ex\/X.s₀.heap.objs.size<=b)/\b≠X.env.locals/\(∀x c,X.env.cells.lookup x=some c->c≠b)/\∀p∈X.pn++JC,p.1≠b)(keep:∀b o,b≠X.env.locals->b∉X.fs->b∉ch->s.heap.get? b=some o->H b=none->h'.get? b=some o)(slot:∀b o,b≠X.env.locals->b∈X.fs->b∉ch->s.heap.get? b=some o->H b=none->∃sl,h'.get? b=some { o with slots:=sl })(free:∀b o,b∉ch->s.heap.get? b=some o->H b=none->H' b=none)(there:∀b o,b∉ch->s.heap.get? b=some o->∃o',h'.get? b=some o')(tups:∀b xs,H b=some (.tup xs)->H' b=some (.tup xs))(frzs:∀b o u,H b=some (.frz o u)->H' b=some (.frz o u))(tbls:∀b ps,H b=some (.tbl ps)->∃more,H' b=some (.tbl (ps++more)))(ns:∀m,s.heap.Ns X.env.locals m->h'.Ns X.env.locals m)(hok:HOk X.prog X.w H' h')(hg:AllBare g') :
  Inv X JC σ H' { s with heap:=h',gens:=g',drawn:=d',toks:=t' }:=by
 have neL:∀b o,X.s₀.heap.get? b=some o->b≠X.env.locals:=λb o e=>Zy (Zz (Zm e) I.ok.above);have neC:∀b o,X.s₀.heap.get? b=some o->b∉X.ex->b∉ch:=λb o e hx hb=>by
  rcases(hch b hb).1 with z|z
  ·exact hx z
  ·exact absurd (Zz (Zm e) z) (Yl _)
 have cellK:∀x c,X.env.cells.lookup x=some c->∀v,s.heap.IsCell c v->h'.IsCell c v:=λx c e v ⟨o,ho,hd⟩=>by
  have nch:c∉ch:=λz=>(hch c z).2.2.1 x c e rfl;by_cases hc:c∈X.fs
  ·obtain⟨sl,q⟩:=slot c o (I.cne x c e) hc nch ho (I.freeC x c e);exact⟨_,q,hd⟩
  ·exact⟨o,keep c o (I.cne x c e) hc nch ho (I.freeC x c e),hd⟩
 refine⟨I.ok,I.os,hg,⟨λb o e n hb hx=>?_,λb o e n hb hx=>?_,λb o e n hx=>?_,λb o e hx=>?_,λb xs e=>tups b xs (I.base.tups b xs e),λb o xs e=>frzs b o xs (I.base.frzs b o xs e),λb ps e=>?_⟩,?_,λx c e=>?_,?_,λx c e=>?_,λp hp=>?_,hok,I.len⟩
 ·exact keep b o (neL b o e) hb (neC b o e hx) (I.base.keep b o e n hb hx) (I.base.free b o e n hx)
 ·obtain⟨sl,e1⟩:=I.base.slot b o e n hb hx;obtain⟨sl',e2⟩:=slot b _ (neL b o e) hb (neC b o e hx) e1 (I.base.free b o e n hx);exact⟨sl',e2⟩
 ·obtain⟨o',e1⟩:=I.base.there b o e hx;exact free b o' (neC b o e hx) e1 (I.base.free b o e n hx)
 ·obtain⟨o',e1⟩:=I.base.there b o e hx;exact there b o' (neC b o e hx) e1
 ·obtain⟨m1,e1⟩:=I.base.tbls b ps e;obtain⟨m2,e2⟩:=tbls b _ e1;exact⟨m1++m2,by rw[e2,Array.append_assoc]⟩
 ·obtain⟨m,hn,hl⟩:=I.loc;refine⟨m,ns m hn,λi x v e1 e2 e3=>?_⟩;obtain⟨u,r,l⟩:=hl i x v e1 e2 e3;refine⟨u,r,?_⟩;rcases l with l|⟨k,c,e,z⟩
  ·exact .inl l
  ·exact .inr ⟨k,c,e,cellK x c e _ z⟩
 ·obtain⟨v,z⟩:=I.cell x c e;exact⟨v,cellK x c e v z⟩
 ·obtain⟨m,⟨o,_,_,ho,_⟩,_⟩:=I.loc;exact free _ o (λz=>(hch _ z).2.1 rfl) ho I.free
 ·obtain⟨v,o,ho,hd⟩:=I.cell x c e;exact free c o (λz=>(hch c z).2.2.1 x c e rfl) ho (I.freeC x c e)
 ·obtain⟨e,n,ne,nf,d⟩:=I.pin p hp;have nch:p.1∉ch:=λz=>(hch p.1 z).2.2.2 p hp rfl;exact⟨keep p.1 p.2 ne nf nch e n,free p.1 p.2 nch e n,ne,nf,d⟩
theorem Inv.un{t':Nat}(I:Inv X JC σ H s)(u:Un X.fs [] H H' s.heap h')(hok:HOk X.prog X.w H' h'):Inv X JC σ H' { s with heap:=h',toks:=t' }:=by
 obtain⟨m,⟨o,es,ep,ho,r⟩,_⟩:=id I.loc;obtain⟨sl,hL⟩:=u.any ho I.free (by simp);exact I.step (g':=s.gens) (d':=s.drawn) (ch:=[]) (λ_ z=>nomatch z) (λb o _ hb _ e n=>u.keep b o e n hb (by simp)) (λb o _ hb _ e n=>u.slot b o e n hb (by simp)) (λb o _ e n=>u.free b o e n (by simp)) (λb o _ e=>u.there b o e (by simp)) u.tups u.frzs u.tbls (λm' hm=>by
  obtain⟨o',es',ep',ho',r'⟩:=hm;rw[ho]at ho';cases ho';exact⟨_,es',ep',hL,r'⟩) hok I.bare
theorem Inv.call{g':Array GenState}{t':Nat}{d':Drawn}{ch:List Jy}(I:Inv X JC σ H s)(u:Un (frs X.stack) ch H H' s.heap h')(hok:HOk X.prog X.w H' h')(hg:AllBare g')(hch:∀b∈ch,(b∈X.ex\/X.s₀.heap.objs.size<=b)/\b≠X.env.locals/\(∀x c,X.env.cells.lookup x=some c->c≠b)/\∀p∈X.pn++JC,p.1≠b) :
  Inv X JC σ H' { s with heap:=h',gens:=g',drawn:=d',toks:=t' }:=by
 obtain⟨m,⟨o,es,ep,ho,r⟩,_⟩:=id I.loc;obtain⟨sl,hL⟩:=u.any ho I.free λz=>(hch _ z).2.1 rfl;exact I.step (ch:=ch) hch (λb o hL hb hc e n=>u.keep b o e n (λz=>(Zj.mp (I.stkSub b z)).elim hL hb) hc) (λb o _ _ hc e n=>u.any e n hc) (λb o hc e n=>u.free b o e n hc) (λb o hc e=>u.there b o e hc) u.tups u.frzs u.tbls (λm' hm=>by
  obtain⟨o',es',ep',ho',r'⟩:=hm;rw[ho]at ho';cases ho';exact⟨_,es',ep',hL,r'⟩) hok hg
theorem Inv.turned{t':Nat}{it:Jy}(I:Inv X JC σ H s)(k:∀b o,b≠it->s.heap.get? b=some o->h'.get? b=some o)(hn:H it=none)(hL:it≠X.env.locals)(h1:it∈X.ex\/X.s₀.heap.objs.size<=it)(h2:∀x c,X.env.cells.lookup x=some c->c≠it)(h3:∀p∈X.pn++JC,p.1≠it):Inv X JC σ H { s with heap:=h',toks:=t' }:=by
 have nit:∀b u,H b=some u->b≠it:=λb u e z=>by rw[z,hn]at e;cases e
 refine I.step (g':=s.gens) (d':=s.drawn) (ch:=[it]) (λb hb=>?_) (λb o _ _ hc e _=>k b o (λz=>hc (by simp[z])) e) (λb o _ _ hc e _=>⟨o.slots,k b o (λz=>hc (by simp[z])) e⟩) (λ_ _ _ _ n=>n)
  (λb o hc e=>⟨o,k b o (λz=>hc (by simp[z])) e⟩) (λ_ _ e=>e) (λ_ _ _ e=>e) (λb ps e=>⟨#[],by rw[e];simp⟩) (λm hm=>?_) (λb u e=>?_) I.bare
 ·have e:b=it:=by simpa using hb
  subst e;exact⟨h1,hL,h2,h3⟩
 ·obtain⟨o,es,ep,ho,r⟩:=hm;exact⟨o,es,ep,k _ o (Zs hL) ho,r⟩
 ·refine(I.hok b u e).stay (λc v hc q=>k c v ?_ q) (λ_ q=>q) λ_ _ q=>q;rcases hc with z|z
  ·rw[z];exact nit b u e
  ·exact nit c _ z
theorem Inv.tok(I:Inv X JC σ H s)(t:Nat):Inv X JC σ H { s with toks:=t }:=I.un (h':=s.heap) (t':=t) Un.refl I.hok
theorem Inv.kept{t':Nat}(I:Inv X JC σ H s)(k:∀b u,s.heap.get? b=some u->h'.get? b=some u):Inv X JC σ H { s with heap:=h',toks:=t' }:=I.un (Un.kept k) (I.hok.kept k)
theorem Inv.laid{a:Jy}{o:HO}{t':Nat}(I:Inv X JC σ H s)(k:∀b u,s.heap.get? b=some u->h'.get? b=some u)(hp:s.heap.objs.size<=a)(new:ObjOk X.prog X.w (upd H a o) h' a o) :
  Inv X JC σ (upd H a o) { s with heap:=h',toks:=t' }:=I.un (Un.laid k hp (I.hok.fresh hp)) (I.hok.laid k hp new)
theorem Inv.write{x e:Jy}{o:HO}{t':Nat}(I:Inv X JC σ H s)(mu:Mut (H x))(he:e=x\/H e=some (.own x))(k:∀b u,b≠e->s.heap.get? b=some u->h'.get? b=some u)(heo:∃u,h'.get? e=some u)(new:ObjOk X.prog X.w (upd H x o) h' x o):Inv X JC σ (upd H x o) { s with heap:=h',toks:=t' }:=I.un (Un.write mu he k heo) (I.hok.write mu he k heo new)
theorem Inv.weak{σ':List (Option V)}(I:Inv X JC σ H s)(hl:σ'.length=σ.length)(w:∀(i:Nat) v,σ'[i]?=some (some v)->σ[i]?=some (some v)):Inv X JC σ' H s :=
 ⟨I.ok,I.os,I.bare,I.base,let⟨m,hn,hl'⟩:=I.loc;⟨m,hn,λi x v e1 e2 e3=>hl' i x v e1 (w i v e2) e3⟩,I.cell,I.free,I.freeC,I.pin,I.hok,hl.trans I.len⟩
theorem Inv.pins_of{pins':Jj}(I:Inv X JC σ H s)(h:∀p∈pins',s.heap.get? p.1=some p.2/\H p.1=none/\p.1≠X.env.locals/\p.1∉X.fs/\∀v,p.2.data≠.cell v):Inv X pins' σ H s :=
 ⟨I.ok,I.os,I.bare,I.base,I.loc,I.cell,I.free,I.freeC,λp hp=>(ZC.mp hp).elim (λz=>I.pin p (List.mem_append_left _ z)) (h p),I.hok,I.len⟩
theorem nG{N:Jr}(hN:N.Nodup){i j:Nat}{x:Str}(a:N[i]?=some x)(b:N[j]?=some x):i=j:=by obtain⟨h1,e1⟩:=ZB.mp a;obtain⟨h2,e2⟩:=ZB.mp b;exact(List.getElem_inj hN).mp (e1.trans e2.symm)
theorem rf{M:Model}{A:Jv}{E:Jh}{i:Nat}{x:Str}{v:V}{u:Jw}{Q:Unit->Ju->Prop}(I:Inv X JC σ H s)(hN:X.N.Nodup)(hi:X.N[i]?=some x)(hx:Loc X.env.scope x)(r:RelV v u)(h:∀s',Inv X JC (σ.set i (some v)) H s'->(∃a,Heap.SameBut a s.heap s'.heap/\(a=X.env.locals\/X.env.cells.lookup x=some a))->Q () s')(hf:X.fn x=true\/X.env.scope.names.lookup x=some .local:=by first|exact .inl rfl|exact .inr rfl|assumption):wpAny M A (storeName X.env x u) Q E s:=by
 obtain⟨m,hn,hl⟩:=id I.loc;have hcls:(X.env.scope.kind == .class ||(X.env.scope.kind == .module&&X.env.locals != X.env.globals))=false:=by rw[I.ok.kind];rfl
 have hiσ:i<σ.length:=by rw[I.len];exact(ZB.mp hi).1
 have cne:=I.cne;have tracked:∀{a:Jy} {h':JB},(∃o,s.heap.get? a=some o/\H a=none)->Heap.SameBut a s.heap h'->HOk X.prog X.w H h':=fun{a h'} ha hs b ob e=>by
  obtain⟨_,_,hfree⟩:=ha;refine(I.hok b ob e).stay (λc w' hc q=>(hs.2 c ?_).trans q) (λ_ q=>q) λ_ _ q=>q;rintro rfl;rcases hc with rfl|hc
  ·rw[hfree]at e;cases e
  ·rw[hfree]at hc;cases hc
 rcases hx with hk|hk
 ·refine wpAny_storeName_local hk hn (λh' hn' hs=>?_) hcls;obtain⟨oL,_,_,hoL,_⟩:=id hn;refine h _ ⟨I.ok,I.os,I.bare,⟨λb o e n hb hx=>?_,λb o e n hb hx=>?_,I.base.free,λb o e hx=>?_,I.base.tups,I.base.frzs,I.base.tbls⟩,⟨_,hn',λj y v' e1 e2 e3=>?_⟩,λy c e=>?_,I.free,I.freeC,λp hp=>?_,tracked ⟨oL,hoL,I.free⟩ hs,by simpa using I.len⟩ ⟨_,hs,.inl rfl⟩
  ·exact(hs.2 b (Zy (Zz (Zm e) I.ok.above))).trans (I.base.keep b o e n hb hx)
  ·obtain⟨sl,e1⟩:=I.base.slot b o e n hb hx;exact⟨sl,(hs.2 b (Zy (Zz (Zm e) I.ok.above))).trans e1⟩
  ·obtain⟨o',e1⟩:=I.base.there b o e hx;exact⟨o',(hs.2 b (Zy (Zz (Zm e) I.ok.above))).trans e1⟩
  ·by_cases hj:j=i
   ·subst hj;rw[hi]at e1;cases e1;rw[List.getElem?_set_self hiσ]at e2;cases e2;exact⟨u,r,.inl ⟨hk,by simp⟩⟩
   ·rw[List.getElem?_set_ne (Zs hj)]at e2;obtain⟨u',r',q⟩:=hl j y v' e1 e2 e3;refine⟨u',r',?_⟩;rcases q with⟨k,e⟩|⟨k,c,e,z⟩
    ·refine .inl ⟨k,?_⟩;have:y≠x:=λe=>hj (nG hN e1 (e▸hi));simp[this,e]
    ·exact .inr ⟨k,c,e,z.sameBut hs (cne y c e)⟩
  ·obtain⟨w',z⟩:=I.cell y c e;exact⟨w',z.sameBut hs (cne y c e)⟩
  ·obtain⟨e,n,ne,nf,d⟩:=I.pin p hp;exact⟨(hs.2 p.1 ne).trans e,n,ne,nf,d⟩
 ·have hfn:X.fn x=true:=by
   rcases hf with z|z
   ·exact z
   ·rw[z]at hk;cases hk
  obtain⟨c,hc⟩:=I.ok.has x (.inl hk);obtain⟨w',z⟩:=I.cell x c hc;refine wpAny_storeName_cell I.ok.kind hk hc z (λh' hc' hs=>?_);obtain⟨oc,hoc,hocd⟩:=id z;refine h { s with heap:=h' } ⟨I.ok,I.os,I.bare,⟨λb o e n hb hx=>?_,λb o e n hb hx=>?_,I.base.free,λb o e hx=>?_,I.base.tups,I.base.frzs,I.base.tbls⟩,⟨m,hn.sameBut hs (Zs (cne x c hc)),λj y v' e1 e2 e3=>?_⟩,λy c' e=>?_,I.free,I.freeC,λp hp=>?_,tracked ⟨oc,hoc,I.freeC x c hc⟩ hs,by simpa using I.len⟩ ⟨c,hs,.inr hc⟩
  ·exact(hs.2 b (Zy (Zz (Zm e) (I.ok.cab x c hfn hc)))).trans (I.base.keep b o e n hb hx)
  ·obtain⟨sl,e1⟩:=I.base.slot b o e n hb hx;exact⟨sl,(hs.2 b (Zy (Zz (Zm e) (I.ok.cab x c hfn hc)))).trans e1⟩
  ·obtain⟨o',e1⟩:=I.base.there b o e hx;exact⟨o',(hs.2 b (Zy (Zz (Zm e) (I.ok.cab x c hfn hc)))).trans e1⟩
  ·by_cases hj:j=i
   ·subst hj;rw[hi]at e1;cases e1;rw[List.getElem?_set_self hiσ]at e2;cases e2;exact⟨u,r,.inr ⟨.inl hk,c,hc,hc'⟩⟩
   ·rw[List.getElem?_set_ne (Zs hj)]at e2;obtain⟨u',r',q⟩:=hl j y v' e1 e2 e3;refine⟨u',r',?_⟩;rcases q with q|⟨k,c',e,z'⟩
    ·exact .inl q
    ·refine .inr ⟨k,c',e,z'.sameBut hs ?_⟩;rintro rfl;exact hj (nG hN e1 (I.ok.inj _ _ _ e hc▸hi))
  ·by_cases hcc:c'=c
   ·subst hcc;exact⟨_,hc'⟩
   ·obtain⟨w2,z2⟩:=I.cell y c' e;exact⟨w2,z2.sameBut hs hcc⟩
  ·obtain⟨e,n,ne,nf,d⟩:=I.pin p hp;refine⟨(hs.2 p.1 ?_).trans e,n,ne,nf,d⟩;intro q;rw[q,hoc]at e;have q':oc=p.2:=Zb e;exact d w' (by rw[<-q'];exact hocd)
theorem kL{M:Model}{A:Jv}{E:Jh}{i:Nat}{x:Str}{v:V}{u:Jw}{Q:Unit->Ju->Prop}(I:Inv X JC σ H s)(hN:X.N.Nodup)(hi:X.N[i]?=some x)(hx:Loc X.env.scope x)(r:RelV v u)(h:∀s',Inv X JC (σ.set i (some v)) H s'->Q () s')(hf:X.fn x=true\/X.env.scope.names.lookup x=some .local:=by first|exact .inl rfl|exact .inr rfl|assumption):wpAny M A (storeName X.env x u) Q E s :=
 rf I hN hi hx r (λs' I' _=>h s' I') hf
theorem Inv.call'{s':Ju}{ch:List Jy}(I:Inv X JC σ H s)(ho:s'.os=s.os)(u:Un (frs X.stack) ch H H' s.heap s'.heap)(hok:HOk X.prog X.w H' s'.heap)(hg:AllBare s'.gens)(hch:∀b∈ch,(b∈X.ex\/X.s₀.heap.objs.size<=b)/\b≠X.env.locals/\(∀x c,X.env.cells.lookup x=some c->c≠b)/\∀p∈X.pn++JC,p.1≠b):Inv X JC σ H' s':=by obtain⟨h',g',d',t',o'⟩:=s';have e:o'=s.os:=ho;subst e;exact I.call (g':=g') (t':=t') (d':=d') u hok hg hch
end
abbrev XK:=Jw->Option Jy->Hp->Prop
abbrev St:=List (Option V)
abbrev VK:=V->Hp->Prop
abbrev TE:=St->Hp->VK->Prop
abbrev TT:=St->Hp->(Bool->Hp->Prop)->Prop
abbrev TA:=St->Hp->(List V->Hp->Prop)->Prop
structure Ends where
 nx:St->Hp->Prop
 rt:VK
 bk:St->Hp->Prop:=λ_ _=>False
 ct:St->Hp->Prop:=λ_ _=>False
abbrev TS:=Ends->St->Hp->Prop
def EP(X:Cx)(JC:Jj)(σ:St)(Q:VK)(u:Jw)(s':Ju):Prop:=∃v H',Inv X JC σ H' s'/\RelV v u/\Q v H'
def TP(X:Cx)(JC:Jj)(σ:St)(Q:Bool->Hp->Prop)(b:Bool)(s':Ju):Prop:=∃H',Inv X JC σ H' s'/\Q b H'
def AP(X:Cx)(JC:Jj)(σ:St)(Q:List V->Hp->Prop)(us:Jn)(s':Ju):Prop:=∃vs H',Inv X JC σ H' s'/\Vals vs us/\Q vs H'
def SP(X:Cx)(JC:Jj)(D:Ends)(f:Flow)(s':Ju):Prop :=
 match f with
 |.next=>∃σ' H',Inv X JC σ' H' s'/\D.nx σ' H'
 |.brk=>∃σ' H',Inv X JC σ' H' s'/\D.bk σ' H'
 |.cont=>∃σ' H',Inv X JC σ' H' s'/\D.ct σ' H'
 |.ret u=>∃v σ' H',Inv X JC σ' H' s'/\RelV v u/\D.rt v H'
def PE(X:Cx)(e:Jz)(t:TE):Prop :=
 ∀(JC:Jj) (s:Ju) (σ:St) (H:Hp) (Q:VK),Inv X JC σ H s->t σ H Q->wpAny (model X.prog X.w) X.A (eval e X.env) (EP X JC σ Q) X.xe s
def PT(X:Cx)(e:Jz)(t:TT):Prop :=
 ∀(JC:Jj) (s:Ju) (σ:St) (H:Hp) (Q:Bool->Hp->Prop),Inv X JC σ H s->t σ H Q->wpAny (model X.prog X.w) X.A (isTrue e X.env (eval e X.env)) (TP X JC σ Q) X.xe s
def PW(X:Cx)(e:Jz)(t:TT):Prop :=
 ∀(whole:Sem Jw) (JC:Jj) (s:Ju) (σ:St) (H:Hp) (Q:Bool->Hp->Prop),Inv X JC σ H s->t σ H Q->wpAny (model X.prog X.w) X.A (isTrue e X.env whole) (TP X JC σ Q) X.xe s
theorem PW.pt{X:Cx}{e:Jz}{t:TT}(h:PW X e t):PT X e t:=h _
def PA(X:Cx)(es:List Jz)(t:TA):Prop :=
 ∀(pos:Pos) (JC:Jj) (s:Ju) (σ:St) (H:Hp) (Q:List V->Hp->Prop),Inv X JC σ H s->t σ H Q->wpAny (model X.prog X.w) X.A (spliced (backTo pos (starEach es X.env))) (AP X JC σ Q) X.xe s
def PS(X:Cx)(st:JA)(t:TS):Prop :=
 ∀(JC:Jj) (s:Ju) (σ:St) (H:Hp) (D:Ends),Inv X JC σ H s->t D σ H->wpAny (model X.prog X.w) X.A (exec st X.env) (SP X JC D) X.xe s
def PSs(X:Cx)(st:List JA)(t:TS):Prop :=
 ∀(JC:Jj) (s:Ju) (σ:St) (H:Hp) (D:Ends),Inv X JC σ H s->t D σ H->wpAny (model X.prog X.w) X.A (execs st X.env) (SP X JC D) X.xe s
theorem thn{α:Type}{t:Sem α}{Q Q':α->Ju->Prop}{M:Model}{A:Jv}{E:Jh}{s:Ju}(h:wpAny M A t Q E s)(hQ:∀a s,Q a s->Q' a s):wpAny M A t Q' E s:=ZK h hQ λ_ _ x=>x
section
variable{X:Cx}
inductive tVar(i:Nat)(σ:St)(H:Hp)(Q:VK):Prop
 |mk (v:V) (h:σ[i]?=some (some v)) (q:Q v H):tVar i σ H Q
def tC(v:V):TE:=λ_ H Q=>Q v H
theorem Fc{i:Nat}{x:Str}{pos:Pos}(hN:X.N[i]?=some x)(hv:Vis X.env.scope x)(hd:(x==("__debug__":Str))=false:=by decide)(hcd:(x==("__classdict__":Str))=false:=by decide):PE X (.Name x pos) (tVar i):=by
 intro JC s σ H Q I h;obtain⟨v,e,h⟩:=h;obtain⟨m,hn,hl⟩:=I.loc;obtain⟨u,r,l⟩:=hl i x v hN e hv;have fin:EP X JC σ Q u s:=⟨v,H,I,r,h⟩
 rcases l with⟨hk,hm⟩|⟨hk,c,hc,hcell⟩
 ·exact wpAny_Name (wpAny_loadName_local I.ok.kind hk hn hm fin) hd
 ·rcases hk with hk|hk
  ·exact wpAny_Name (wpAny_loadName_cell I.ok.kind hk hc hcell fin) hd
  ·exact wpAny_Name (wpAny_loadName_free I.ok.kind hk hc hcell fin hcd) hd
theorem E5{i j pos}:PE X (.Constant (.int i) j pos) (tC (.int i)):=λ_ _ _ H _ I h=>wpAny_Constant_int ⟨.int i,H,I.tok _,⟨_,rfl⟩,h⟩
theorem GN{b j pos}:PE X (.Constant (.bool b) j pos) (tC (.bl b)):=λ_ _ _ H _ I h=>Constant_bool ⟨.bl b,H,I,rfl,h⟩
theorem E7{j pos}:PE X (.Constant .none j pos) (tC .non):=λ_ _ _ H _ I h=>Constant_none ⟨.non,H,I,rfl,h⟩
theorem Fa{x j pos}:PE X (.Constant (.str x) j pos) (tC (.str x)):=λ_ _ _ H _ I h=>Calls.Constant_str ⟨.str x,H,I.tok _,⟨_,rfl⟩,h⟩
def Gl(X:Cx)(x:Str):Prop:=X.env.kindOf x=some .globalImplicit
theorem gB{E:Jh}{JC:Jj}{s:Ju}{σ:St}{H:Hp}{x:Str}{u:Jw}{pos:Pos}{Q:Jh}(I:Inv X JC σ H s)(hg:Gl X x)(hm:X.mg x=some u)(h:Q u s)(hd:(x==("__debug__":Str))=false:=by decide):wpAny (model X.prog X.w) X.A (eval (.Name x pos) X.env) Q E s :=
 Calls.Name_function_global I.ok.kind hg (Calls.loadGlobal_global (by rw[I.ok.glob];exact I.mod.glob.keeps I.bk) hm h) hd
theorem fT{E:Jh}{JC:Jj}{s:Ju}{σ:St}{H:Hp}{x:Str}{u:Jw}{pos:Pos}{Q:Jh}(I:Inv X JC σ H s)(hg:Gl X x)(hm:X.mg x=none)(hv:bootBuiltins x=some u)(h:Q u s)(hn:x≠"__name__":=by decide)(hd:(x==("__debug__":Str))=false:=by decide):wpAny (model X.prog X.w) X.A (eval (.Name x pos) X.env) Q E s:=by obtain⟨mb,h1,h2⟩:=I.mod.blt;exact Calls.Name_function_global I.ok.kind hg (Calls.loadGlobal_builtin (by rw[I.ok.glob];exact I.mod.glob.keeps I.bk) hm (by rw[I.ok.blt];exact h1.keeps I.bk) ((h2 x hn).trans hv) h) hd
theorem vm{x:Str}{v:V}{u:Jw}{pos:Pos}(hg:Gl X x)(hm:X.mg x=some u)(r:RelV v u)(hd:(x==("__debug__":Str))=false:=by decide):PE X (.Name x pos) (tC v) :=
 λ_ _ _ H _ I h=>gB I hg hm ⟨v,H,I,r,h⟩ hd
theorem C1{x:Str}{v:V}{u:Jw}{pos:Pos}(hg:Gl X x)(hm:X.mg x=none)(hv:bootBuiltins x=some u)(r:RelV v u)(hn:x≠"__name__":=by decide)(hd:(x==("__debug__":Str))=false:=by decide):PE X (.Name x pos) (tC v) :=
 λ_ _ _ H _ I h=>fT I hg hm hv ⟨v,H,I,r,h⟩ hn hd
variable{a b:Jz}{ta tb:TE}{pos:Pos}
def PC(X:Cx)(op:CmpOp)(a b:Jz)(t:TE):Prop :=
 ∀(JC:Jj) (s:Ju) (σ:St) (H:Hp) (Q:VK),Inv X JC σ H s->t σ H Q ->
  wpAny (model X.prog X.w) X.A (eval a X.env) (λv s₁=>wpAny (model X.prog X.w) X.A (eval b X.env) (λu s₂=>wpAny (model X.prog X.w) X.A (compareOp op v u) (EP X JC σ Q) X.xe s₂) X.xe s₁) X.xe s
inductive IsB(x:V)(H:Hp)(Q:Bool->Hp->Prop):Prop
 |mk (c:Bool) (h:x=.bl c) (q:Q c H):IsB x H Q
def tB(t:TE):TT:=λσ H Q=>t σ H λx H1=>IsB x H1 Q
theorem zj{op:CmpOp}{t:TE}(h:PC X op a b t)(h1:behindInMarks op b=false:=by first|exact nobehind _ (by decide) (by decide)|rfl):PT X (.Compare a [op] [b] pos) (tB t):=by intro JC s σ H Q I hw;refine wpAny_isTrue_Compare1 (thn (h JC s σ H _ I hw) λv s1 h1=>thn h1 λu s2 h2=>thn h2 λc s3 hz9=>?_) h1;obtain⟨x,H1,I1,r1,q1⟩:=hz9;obtain⟨d,rfl,q⟩:=q1;cases r1;exact Yo ⟨H1,I1,q⟩
theorem Fp{e:Jz}{t:TE}(h:PE X e t)(he:∀whole,isTrue e X.env whole=(do let v ←whole;standAt e.pos;holding [v] (truthy v)):=by intro _;rfl):PT X e (tB t):=by intro JC s σ H Q I hw;refine isTrue_plain (thn (h JC s σ H _ I hw) λv s1 hz9=>?_) (he _);obtain⟨x,H1,I1,r1,q1⟩:=hz9;obtain⟨d,rfl,q⟩:=q1;cases r1;exact Yo ⟨H1,I1,q⟩
variable{tA tB':TT}{rest:List Jz}
def FO(t u:TT):TT:=λσ H Q=>t σ H λc H1=>if c=true then u σ H1 Q else Q false H1
def tOr(t u:TT):TT:=λσ H Q=>t σ H λc H1=>if c=true then Q true H1 else u σ H1 Q
def FV(t:TT):TT:=λσ H Q=>t σ H λc H1=>Q (!c) H1
theorem Do(ha:PT X a tA):PW X (.BoolOp .And [a] pos) tA:=by
 intro wh JC s σ H Q I h;refine isTrue_and (thn (ha JC s σ H Q I h) λc s1 e=>?_);cases c with
 |true=>exact isTrue_and_nil e
 |false=>exact e
theorem Ft(ha:PT X a tA):PW X (.BoolOp .Or [a] pos) tA:=by
 intro wh JC s σ H Q I h;refine isTrue_or (thn (ha JC s σ H Q I h) λc s1 e=>?_);cases c with
 |false=>exact isTrue_or_nil e
 |true=>exact e
theorem Fs(ha:PT X a tA)(hb:PW X (.BoolOp .And (b::rest) pos) tB'):PW X (.BoolOp .And (a::b::rest) pos) (FO tA tB'):=by
 intro wh JC s σ H Q I h;refine isTrue_and (thn (ha JC s σ H _ I h) λc s1 ⟨H1,I1,q1⟩=>?_);cases c with
 |true=>exact hb wh JC s1 σ H1 Q I1 q1
 |false=>exact⟨H1,I1,q1⟩
theorem GV(ha:PT X a tA)(hb:PW X (.BoolOp .Or (b::rest) pos) tB'):PW X (.BoolOp .Or (a::b::rest) pos) (tOr tA tB'):=by
 intro wh JC s σ H Q I h;refine isTrue_or (thn (ha JC s σ H _ I h) λc s1 ⟨H1,I1,q1⟩=>?_);cases c with
 |true=>exact⟨H1,I1,q1⟩
 |false=>exact hb wh JC s1 σ H1 Q I1 q1
theorem Fo(ha:PT X a tA):PT X (.UnaryOp .Not a pos) (FV tA):=by intro JC s σ H Q I h;exact isTrue_not (ha JC s σ H (λc H1=>Q (!c) H1) I h)
def BX(ta tb:TE):TE:=λσ H Q=>ta σ H λx H1=>∃c,x=.bl c/\if c=true then tb σ H1 Q else Q (.bl false) H1
def FW(ta tb:TE):TE:=λσ H Q=>ta σ H λx H1=>∃c,x=.bl c/\if c=true then Q (.bl true) H1 else tb σ H1 Q
def B2(ta:TE):TE:=λσ H Q=>ta σ H λx H1=>∃c,x=.bl c/\Q (.bl (!c)) H1
theorem E9{op}{t:TE}(h:PE X a t):PE X (.BoolOp op [a] pos) t:=λJC s σ H Q I hw=>BoolOp_one (h JC s σ H Q I hw)
theorem E2(ha:PE X a ta)(hb:PE X (.BoolOp .And (b::rest) pos) tb):PE X (.BoolOp .And (a::b::rest) pos) (BX ta tb):=by
 intro JC s σ H Q I h;refine BoolOp_and (thn (ha JC s σ H _ I h) λv s1 hz9=>?_);obtain⟨x,H1,I1,r1,q1⟩:=hz9;obtain⟨c,rfl,q1⟩:=q1;cases r1;refine Yo ?_;cases c with
 |true=>exact hb JC s1 σ H1 Q I1 q1
 |false=>exact⟨.bl false,H1,I1,rfl,q1⟩
theorem GR(ha:PE X a ta)(hb:PE X (.BoolOp .Or (b::rest) pos) tb):PE X (.BoolOp .Or (a::b::rest) pos) (FW ta tb):=by
 intro JC s σ H Q I h;refine BoolOp_or (thn (ha JC s σ H _ I h) λv s1 hz9=>?_);obtain⟨x,H1,I1,r1,q1⟩:=hz9;obtain⟨c,rfl,q1⟩:=q1;cases r1;refine Yo ?_;cases c with
 |false=>exact hb JC s1 σ H1 Q I1 q1
 |true=>exact⟨.bl true,H1,I1,rfl,q1⟩
theorem E8(ha:PE X a ta):PE X (.UnaryOp .Not a pos) (B2 ta):=by intro JC s σ H Q I h;refine UnaryOp_ (thn (ha JC s σ H _ I h) λv s1 hz9=>?_);obtain⟨x,H1,I1,r1,q1⟩:=hz9;obtain⟨c,rfl,q1⟩:=q1;cases r1;exact not_of (Yo ⟨.bl (!c),H1,I1,rfl,q1⟩)
end
def SqL(K:W.Frag)(H:Hp)(a:Jy)(xs:List V):Prop :=
 Rd H a (.lst xs) \/
  ∃(o:Obj) (its:Jm) (n:Nat),K.lookup a=some o/\o.cls=.type "list"/\o.dict=none/\o.data=.seq its n/\its.size<=sizeLine/\Vals xs its.toList
def SqT(K:W.Frag)(H:Hp)(a:Jy)(xs:List V):Prop :=
 Rd H a (.tup xs) \/
  ∃(o:Obj) (its:Jm) (n:Nat),K.lookup a=some o/\o.cls=.type "tuple"/\o.data=.seq its n/\its.size<=sizeLine/\Vals xs its.toList
def Hy:Jw->Option V
 |.none=>some .non
 |.bool b=>some (.bl b)
 |.int i _=>some (.int i)
 |.str x _=>some (.str x)
 |.bytes b _=>some (.byt b)
 |.float b _=>some (.flt b)
 |.ref a=>some (.ref a)
 |.type n=>some (.ty n)
 |_=>none
theorem RelV.abs{x:V}{u:Jw}(r:RelV x u):Hy u=some x:=by
 cases x with
 |non=>cases r;rfl
 |bl _=>cases r;rfl
 |int _=>obtain⟨t,rfl⟩:=r;rfl
 |str _=>obtain⟨t,rfl⟩:=r;rfl
 |byt _=>obtain⟨t,rfl⟩:=r;rfl
 |flt _=>obtain⟨t,rfl⟩:=r;rfl
 |ref _=>cases r;rfl
 |ty _=>cases r;rfl
theorem RelV.inj{x y:V}{u:Jw}(r:RelV x u)(q:RelV y u):x=y:=Zb (r.abs.symm.trans q.abs)
theorem Vals.inj:∀{xs ys:List V} {us:Jn},Vals xs us->Vals ys us->xs=ys
 |_,_,_,.nil,.nil=>rfl
 |_,_,_,.cons r t,.cons r' t'=>by rw[r.inj r',Vals.inj t t']
section
variable{X:Cx}{JC:Jj}{σ:St}{H:Hp}{s:Ju}{a:Jy}{xs ys:List V}
theorem JG{K:W.Frag}(h:H a=some (.lst xs)):SqL K H a xs:=.inl (.inl h)
theorem JF{K:W.Frag}(h:H a=some (.tup xs)):SqT K H a xs:=.inl (.inl h)
theorem Inv.list(I:Inv X JC σ H s)(h:SqL X.K H a xs):∃its:Jn,Vals xs its/\PlainL s.heap a its.toArray/\xs.length<=sizeLine:=by
 rcases h with h|⟨o,its,n,hk,hc,hd,hs,hz,r⟩
 ·obtain⟨z,its,n,r,e⟩:=h.ok I.hok;exact⟨its,r,⟨_,n,e,rfl,rfl,rfl⟩,z⟩
 ·refine⟨its.toList,r,⟨o,n,I.kIn a o hk,hc,hd,by simpa using hs⟩,?_⟩;have e:=r.length;simp only[Zx]at e;omega
theorem Inv.tuple(I:Inv X JC σ H s)(h:SqT X.K H a xs):∃its:Jn,Vals xs its/\IsTup s.heap a its.toArray/\xs.length<=sizeLine:=by
 rcases h with h|⟨o,its,n,hk,hc,hs,hz,r⟩
 ·obtain⟨z,its,r,p⟩:=h.ok I.hok;exact⟨its,r,p,z⟩
 ·refine⟨its.toList,r,⟨o,I.kIn a o hk,hc,n,by simpa using hs⟩,?_⟩;have e:=r.length;simp only[Zx]at e;omega
theorem Inv.list_inj(I:Inv X JC σ H s)(h:SqL X.K H a xs)(h':SqL X.K H a ys):xs=ys:=by
 obtain⟨its,r,⟨o,n,e,_,_,d⟩,_⟩:=I.list h;obtain⟨its',r',⟨o',n',e',_,_,d'⟩,_⟩:=I.list h';rw[e]at e';cases e';rw[d]at d';injection d' with d1 _;have:its=its':=by simpa using ZU Array.toList d1
 subst this;exact r.inj r'
end
abbrev Cx.wish(X:Cx)(E:Jh):Cx:={ X with xe:=E }
abbrev Cx.nox(X:Cx):Cx:=X.wish λ_ _=>False
theorem Cx.Ok.wish{X:Cx}(ok:X.Ok)(E:Jh):(X.wish E).Ok :=
 ⟨ok.mod,ok.kind,ok.glob,ok.blt,ok.above,ok.inj,ok.has,ok.cab,ok.hd,ok.frames,ok.stk,ok.exf,ok.bs,ok.bsz,ok.noex,ok.exfs,ok.funs,ok.frf⟩
theorem Cx.Ok.unwish{X:Cx}{E:Jh}(ok:(X.wish E).Ok):X.Ok :=
 ⟨ok.mod,ok.kind,ok.glob,ok.blt,ok.above,ok.inj,ok.has,ok.cab,ok.hd,ok.frames,ok.stk,ok.exf,ok.bs,ok.bsz,ok.noex,ok.exfs,ok.funs,ok.frf⟩
section
variable{X:Cx}{JC:Jj}{σ:St}{H:Hp}{s:Ju}{E:Jh}
theorem Inv.wish(I:Inv X JC σ H s)(E:Jh):Inv (X.wish E) JC σ H s:=⟨I.ok.wish E,I.os,I.bare,I.base,I.loc,I.cell,I.free,I.freeC,I.pin,I.hok,I.len⟩
theorem Inv.unwish(I:Inv (X.wish E) JC σ H s):Inv X JC σ H s:=⟨I.ok.unwish,I.os,I.bare,I.base,I.loc,I.cell,I.free,I.freeC,I.pin,I.hok,I.len⟩
theorem SP.unwish{D:Ends}{f:Flow}{s':Ju}(h:SP (X.wish E) JC D f s'):SP X JC D f s':=by
 cases f with
 |next=>obtain⟨σ',H',I,q⟩:=h;exact⟨σ',H',I.unwish,q⟩
 |brk=>obtain⟨σ',H',I,q⟩:=h;exact⟨σ',H',I.unwish,q⟩
 |cont=>obtain⟨σ',H',I,q⟩:=h;exact⟨σ',H',I.unwish,q⟩
 |ret u=>obtain⟨v,σ',H',I,r,q⟩:=h;exact⟨v,σ',H',I.unwish,r,q⟩
theorem PSs.nox{st:List JA}{t:TS}(h:PSs X.nox st t):PSs X st t:=λJC s σ H D I hw =>
 ZK (h JC s σ H D (I.wish _) hw) (λ_ _ q=>q.unwish) λ_ _ z=>False.elim z
end
section
variable{X:Cx}{st:JA}{rest:List JA}{t u:TS}{e:Jz}{te:TE}{pos:Pos}
def pH:TS:=λD σ H=>D.nx σ H
def Bp(t u:TS):TS:=λD σ H=>t { D with nx:=u D } σ H
theorem Dk:PSs X [] pH:=λ_ _ σ H _ I h=>wpAny_execs_nil ⟨σ,H,I,h⟩
theorem Ba(h1:PS X st t)(h2:PSs X rest u):PSs X (st::rest) (Bp t u):=by
 intro JC s σ H D I h;refine wpAny_execs_cons (thn (h1 JC s σ H { D with nx:=u D } I h) λf s1 q=>?_);cases f with
 |next =>obtain⟨σ',H',I',q⟩:=q;exact h2 JC s1 σ' H' D I' q
 |ret v=>exact q
 |brk=>exact q
 |cont=>exact q
theorem Dl(h1:PS X st t):PSs X [st] t:=by
 intro JC s σ H D I h;refine wpAny_execs_cons (thn (h1 JC s σ H D I h) λf s1 q=>?_);cases f with
 |next=>exact wpAny_execs_nil q
 |ret v=>exact q
 |brk=>exact q
 |cont=>exact q
theorem Inv.quiet{JC:Jj}{σ:St}{H:Hp}{s:Ju}(I:Inv X JC σ H s):interactive X.env=false:=by simp[interactive,I.ok.kind]
def B0(te:TE):TS:=λD σ H=>te σ H λ_ H1=>D.nx σ H1
theorem Dh(he:PE X e te)(hs:swapsWith e none pos.line X.env=pure false:=by rfl):PS X (.Expr e pos) (B0 te):=by intro JC s σ H D I h;exact wpAny_Expr_any (thn (he JC s σ H _ I h) λv s1 ⟨x,H1,I1,r1,q1⟩=>⟨σ,H1,I1,q1⟩) I.quiet hs
def FX(te:TE):TS:=λD σ H=>te σ H D.rt
theorem Fk(he:PE X e te):PS X (.Return (some e) pos) (FX te):=by intro JC s σ H D I h;exact wpAny_Return_some (thn (he JC s σ H _ I h) λv s1 ⟨x,H1,I1,r1,q1⟩=>⟨x,σ,H1,I1,r1,q1⟩)
def B4:TS:=λD _ H=>D.rt .non H
theorem Di:PS X (.Return none pos) B4:=λ_ _ σ H _ I h=>wpAny_Return_none ⟨.non,σ,H,I,rfl,h⟩
def FS(c:TT)(t u:TS):TS:=λD σ H=>c σ H λb H1=>if b=true then t D σ H1 else u D σ H1
theorem GU{c:Jz}{a b:List JA}{tc:TT}(hc:PT X c tc)(ha:PSs X a t)(hb:PSs X b u):PS X (.If c a b pos) (FS tc t u):=by
 intro JC s σ H D I h;refine wpAny_If (thn (hc JC s σ H _ I h) λd s1 ⟨H1,I1,q1⟩=>?_);cases d with
 |true=>exact ha JC s1 σ H1 D I1 q1
 |false=>exact hb JC s1 σ H1 D I1 q1
end
abbrev TG:=V->St->Hp->(St->Hp->Prop)->Prop
abbrev TGs:=List V->St->Hp->(St->Hp->Prop)->Prop
def PG(X:Cx)(target:Jz)(t:TG):Prop :=
 ∀(JC:Jj) (s:Ju) (σ:St) (H:Hp) (v:V) (u:Jw) (Q:St->Hp->Prop),Inv X JC σ H s->RelV v u->t v σ H Q ->
  wpAny (model X.prog X.w) X.A (assign target X.env u) (λ_ s'=>∃σ' H',Inv X JC σ' H' s'/\Q σ' H') X.xe s
def PGs(X:Cx)(ts:List Jz)(t:TGs):Prop :=
 ∀(JC:Jj) (s:Ju) (σ:St) (H:Hp) (vs:List V) (us:Jn) (Q:St->Hp->Prop),Inv X JC σ H s->Vals vs us->t vs σ H Q ->
  wpAny (model X.prog X.w) X.A (assignInOrder ((assignEach ts X.env).map (·.2)) us) (λ_ s'=>∃σ' H',Inv X JC σ' H' s'/\Q σ' H') X.xe s
abbrev DY:=V->V->V->Hp->(Hp->Prop)->Prop
def Hw(X:Cx)(t:DY):Prop :=
 ∀(JC:Jj) (s:Ju) (σ:St) (H:Hp) (o i v:V) (ov iv u:Jw) (Q:Hp->Prop),Inv X JC σ H s->RelV o ov->RelV i iv->RelV v u->t o i v H Q ->
  wpAny (model X.prog X.w) X.A (setItem ov iv u) (λ_ s'=>∃H',Inv X JC σ H' s'/\Q H') X.xe s
abbrev TIp:=V->V->Hp->VK->Prop
def PIp(X:Cx)(op:Operator)(t:TIp):Prop :=
 ∀(JC:Jj) (s:Ju) (σ:St) (H:Hp) (x y:V) (v u:Jw) (Q:VK),Inv X JC σ H s->RelV x v->RelV y u->t x y H Q ->
  wpAny (model X.prog X.w) X.A (inplaceOp op v u) (EP X JC σ Q) X.xe s
section
variable{X:Cx}{pos:Pos}
def dv(i:Nat):TG:=λv σ H Q=>Q (σ.set i (some v)) H
theorem C8{i:Nat}{x:Str}(hN:X.N.Nodup)(hi:X.N[i]?=some x)(hx:Loc X.env.scope x)(hf:X.fn x=true\/X.env.scope.names.lookup x=some .local:=by first|exact .inl rfl|exact .inr rfl|assumption):PG X (.Name x pos) (dv i):=by intro JC s σ H v u Q I r h;exact wpAny_assign_Name (kL I hN hi hx r (λs' I'=>⟨_,H,I',h⟩) hf)
def sJ:TGs:=λvs σ H Q=>vs=[]/\Q σ H
def iZ(t:TG)(u:TGs):TGs:=λvs σ H Q=>∃v r,vs=v::r/\t v σ H λσ' H'=>u r σ' H' Q
theorem C9:PGs X [] sJ:=by intro JC s σ H vs us Q I r h;obtain⟨e,h⟩:=h;subst e;cases r;exact assignInOrder_nil ⟨σ,H,I,h⟩
theorem A4{e:Jz}{es:List Jz}{t:TG}{u:TGs}(h1:PG X e t)(h2:PGs X es u)(hs:(assignEach (e::es) X.env).map (·.2)=assign e X.env::(assignEach es X.env).map (·.2):=by rfl):PGs X (e::es) (iZ t u):=by
 intro JC s σ H vs us Q I r h;obtain⟨v,vr,e1,h⟩:=h;subst e1;cases r with
 |cons r rr =>rw[hs];refine assignInOrder_cons (thn (h1 JC s σ H _ _ _ I r h) λ_ s1 ⟨σ1,H1,I1,q1⟩=>?_);exact h2 JC s1 σ1 H1 _ _ Q I1 rr q1
def sK(K:W.Frag)(n:Nat)(t:TGs):TG:=λv σ H Q=>∃a xs,v=.ref a/\SqT K H a xs/\xs.length=n/\t xs σ H Q
theorem Fd{es:List Jz}{k:Nat}{t:TGs}{n:Nat}(hc:X.calm=true)(h:PGs X es t)(hn:(assignEach es X.env).length=n:=by rfl)(hst:(assignEach es X.env).findIdx? (·.1)=none:=by rfl):PG X (.Tuple es k pos) (sK X.K n t):=by intro JC s σ H v u Q I r hw;obtain⟨a,xs,e1,hq,hl,hw⟩:=hw;subst e1;cases r;obtain⟨its,rv,ht,hz⟩:=I.tuple hq;refine assign_Tuple_tuple (I.ok.hd hc) ht (by simp[hn,<-hl,rv.length]) hst λh' hx=>?_;have I1:Inv X JC σ H { s with heap:=h' }:=I.kept (t':=s.toks) λb o e=>hx b o (Zy (Zm e)) e;exact h JC _ σ H xs _ Q I1 (by simpa using rv) hw
def xA(te:TE)(g:TG):TS:=λD σ H=>te σ H λx H1=>g x σ H1 D.nx
theorem Fm{i:Nat}{x:Str}{e:Jz}{te:TE}{pos':Pos}(hN:X.N.Nodup)(hi:X.N[i]?=some x)(hx:Loc X.env.scope x)(he:PE X e te)(hs:swapsWith e (some (.Name x pos')) pos.line X.env=pure false:=by rfl)(hf:X.fn x=true\/X.env.scope.names.lookup x=some .local:=by first|exact .inl rfl|exact .inr rfl|assumption) :
  PS X (.Assign [.Name x pos'] e pos) (xA te (dv i)):=by
 intro JC s σ H D I h;refine wpAny_Assign_Name (thn (he JC s σ H _ I h) λv s1 hz9=>?_) hs;obtain⟨y,H1,I1,r1,q1⟩:=hz9;exact kL I1 hN hi hx r1 (λs2 I2=>⟨_,H1,I2,q1⟩) hf
end
section
variable{X:Cx}{pos:Pos}
def zH(c:TT)(tb:TS):TS:=λD σ H=>∃W:Nat->St->Hp->Prop,(∃m,W m σ H)/\∀m σ H,W m σ H ->
 c σ H λb H1=>if b=true then∃N:St->Hp->Prop,(∀σ' H',N σ' H'->∃m',m'<m/\W m' σ' H')/\tb { D with nx:=N,ct:=N,bk:=D.nx } σ H1 else D.nx σ H1
theorem A9{c:Jz}{body:List JA}{tc:TT}{tb:TS}(hp:PassesOwn (model X.prog X.w) X.A X.env X.xe)(hc:PT X c tc)(hb:PSs X body tb):PS X (.While c body [] pos) (zH tc tb):=by
 intro JC s σ H D I h;obtain⟨W,⟨m0,w0⟩,turn⟩:=h;refine wpAny_While (codeAny_whileLoop (λn s'=>∃σ' H',Inv X JC σ' H' s'/\W n σ' H') ?_ m0 ⟨σ,H,I,w0⟩);rintro n s1 ⟨σ1,H1,I1,w1⟩;refine wpAny_passesOwn hp (thn (hc JC s1 σ1 H1 _ I1 (turn n σ1 H1 w1)) λb s2 ⟨H2,I2,q2⟩=>?_);cases b with
 |true =>
  obtain⟨N,hN,q2⟩:=q2;rw[Jg rfl];refine wpAny_passesOwn hp (thn (hb JC s2 σ1 H2 _ I2 q2) λf s3 q3=>?_);cases f with
  |next =>obtain⟨σ3,H3,I3,n3⟩:=q3;obtain⟨m',hm,w3⟩:=hN σ3 H3 n3;exact⟨m',hm,σ3,H3,I3,w3⟩
  |cont =>obtain⟨σ3,H3,I3,n3⟩:=q3;obtain⟨m',hm,w3⟩:=hN σ3 H3 n3;exact⟨m',hm,σ3,H3,I3,w3⟩
  |brk=>exact q3
  |ret v=>exact q3
 |false =>rw[Jf Zi];exact wpAny_execs_nil ⟨σ1,H2,I2,q2⟩
end
structure It where
 go:Nat->Hp->Prop
 yld:Nat->Hp->V->Hp->Prop
 stop:Nat->Hp->Prop
def bY(X:Cx)(JC:Jj)(H:Hp)(b:Jy):Prop :=
 H b=none/\b≠X.env.locals/\b∉X.fs/\(b∈X.ex\/X.s₀.heap.objs.size<=b)/\(∀x c,X.env.cells.lookup x=some c->c≠b)/\∀p∈X.pn++JC,p.1≠b
theorem Inv.fpOk{X:Cx}{JC:Jj}{σ:St}{H H':Hp}{s:Ju}{b:Jy}(I:Inv X JC σ H s)(hb:s.heap.objs.size<=b)(hn:H' b=none):bY X JC H' b:=by
 refine⟨hn,Yf (Zz I.lt hb),I.nofs hb,.inr (Zr I.sz hb),λx c e z=>?_,λp hp z=>?_⟩
 ·obtain⟨v,q⟩:=I.cell x c e;exact absurd (Zz q.lt (by rw[z];exact hb)) (Yl _)
 ·exact absurd (Zz (Zm (I.pin p hp).1) (by rw[z];exact hb)) (Yl _)
structure Turn(P:Jt)(w:Jx)(K:W.Frag)(tg:Jz)(J:It)(fp:List Jy)(it:Jy)(tn:Nat->JB->Prop):Prop where
 mem:it∈fp
 obj:∀i h,tn i h->∀b∈fp,∃o,h.get? b=some o/\∀v,o.data≠.cell v
 keep:∀i h h',tn i h->(∀b∈fp,∀o,h.get? b=some o->h'.get? b=some o)->tn i h'
 item:∀(X:Cx),X.prog=P->X.w=w->X.K=K->X.calm=true->∀(i:Nat) (JC:Jj) (s:Ju) (σ:St) (H:Hp) (E:Jh),Inv X JC σ H s->(∀b∈fp,bY X JC H b)->tn i s.heap->J.go i H ->
  wpAny (model P w) X.A (pyNext (.ref it)) (λr s1=>∃ u,r=some u /\
   wpAny (model P w) X.A (letOwnedTupleGo tg (.ref it) u) (λ_ s2=>∃ x H',Inv X JC σ H' s2/\RelV x u/\J.yld i H x H'/\tn (i+1) s2.heap/\∀ b∈fp,H' b=none) E s1) E s
 done:∀(X:Cx),X.prog=P->X.w=w->X.K=K->X.calm=true->∀(i:Nat) (JC:Jj) (s:Ju) (σ:St) (H:Hp) (E:Jh),Inv X JC σ H s->(∀b∈fp,bY X JC H b)->tn i s.heap->J.stop i H ->
  wpAny (model P w) X.A (pyNext (.ref it)) (λr s1=>r=none/\Inv X JC σ H s1) E s
 self:∀(A:Jv) (i:Nat) (s:Ju) (Q:Jh) (E:Jh),tn i s.heap->Q (.ref it) s->wpAny (model P w) A (pyIter (.ref it)) Q E s
abbrev TI:=St->Hp->(It->Hp->Prop)->Prop
def PIE(X:Cx)(JC:Jj)(σ:St)(tg:Jz)(R:It->Hp->Prop)(itv:Jw)(s2:Ju):Prop :=
 ∃(it:Jy) (fp:List Jy) (tn:Nat->JB->Prop) (J:It) (H':Hp),itv=.ref it/\Inv X JC σ H' s2/\Turn X.prog X.w X.K tg J fp it tn/\tn 0 s2.heap/\(∀b∈fp,bY X JC H' b)/\R J H'
def PI(X:Cx)(tg iter:Jz)(wi:TI):Prop :=
 ∀(JC:Jj) (s:Ju) (σ:St) (H:Hp) (R:It->Hp->Prop),Inv X JC σ H s->wi σ H R ->
  wpAny (model X.prog X.w) X.A (eval iter X.env) (λv s1=>wpAny (model X.prog X.w) X.A (pyIter v) (PIE X JC σ tg R) X.xe s1) X.xe s
theorem rM{M:Model}{A:Jv}{E:Jh}{s:Ju}{tg:Jz}{it:Jy}{u:Jw}{o:Obj}{n:String}{vs:Jm}{Q:Unit->Ju->Prop}(ho:s.heap.get? it=some o)(hc:o.cls=.type n)(hd:o.data=.fields vs)(hn:["enumerate","zip","dict_itemiterator","dict_reverseitemiterator","odict_iterator","itertools.zip_longest","itertools.pairwise"].contains n=false)(hQ:Q () s):wpAny M A (letOwnedTupleGo tg (.ref it) u) Q E s:=by
 unfold letOwnedTupleGo;cases tg<;>first
  |exact z6 hQ
  | (cases u<;>first
    |exact z6 hQ
    | (refine z0 (wpAny_load ho ?_)
       rw[hc,hd];show wpAny M A (if(["enumerate","zip","dict_itemiterator","dict_reverseitemiterator","odict_iterator","itertools.zip_longest","itertools.pairwise"].contains n&&vs[0]?==some (rawInt _))=true then _ else _) Q E s;rw[Jf (by intro h;rw[hn,Bool.false_and]at h;cases h)];exact z6 hQ))
def Itl(K:W.Frag)(a:Jy):It :=
 ⟨λi H=>∃xs x,SqL K H a xs/\xs[i]?=some x,λi H x H'=>H'=H/\∀xs,SqL K H a xs->xs[i]?=some x,λi H=>∃xs,SqL K H a xs/\xs.length<=i⟩
def Itr(lo:Int)(n:Nat):It:=⟨λi _=>i<n,λi H x H'=>H'=H/\x=.int (lo+i),λi _=>n<=i⟩
theorem zL{P:Jt}{w:Jx}{K:W.Frag}{tg:Jz}(a it:Jy):Turn P w K tg (Itl K a) [it] it (λi h=>h.IsListIter it a i) where
 mem:=by simp
 obj:=λi h st b hb=>by
  have e:b=it:=by simpa using hb
  subst e;obtain⟨o,e,c,d⟩:=st;exact⟨o,e,λv z=>by rw[d]at z;cases z⟩
 keep:=λi h h' st k=>st.at λo e=>k it (by simp) o e
 item:=by intro X hP hw hK hc i JC s σ H E I hf st hg;subst hP hw hK;obtain⟨xs,x,hq,hx⟩:=hg;obtain⟨its,rv,p,hz⟩:=I.list hq;obtain⟨u,hu,ru⟩:=rv.get hx;obtain⟨f0,f1,f2,f3,f4,f5⟩:=hf it (by simp);refine wpAny_pyNext_list_item st p.isList (x:=u) (by simpa using hu) λh' st' sb=>?_;have I1:Inv X JC σ H { s with heap:=h' }:=I.turned (t':=s.toks) (λb o hb e=>(sb.2 b hb).trans e) f0 f1 f3 f4 f5;obtain⟨o,e,c,d⟩:=id st';exact⟨u,rfl,rM (s:={ s with heap:=h' }) e c d (by decide) ⟨x,H,I1,ru,⟨rfl,λys hy=>by rw[I.list_inj hy hq];exact hx⟩,st',λb hb=>(hf b hb).1⟩⟩
 done:=by intro X hP hw hK hc i JC s σ H E I hf st hg;subst hP hw hK;obtain⟨xs,hq,hx⟩:=hg;obtain⟨its,rv,p,hz⟩:=I.list hq;obtain⟨f0,f1,f2,f3,f4,f5⟩:=hf it (by simp);have hl:=rv.length;exact wpAny_pyNext_list_end (I.ok.hd hc) st p.isList (by simp;omega) λh' eb=>⟨rfl,I.turned (t':=s.toks) (λb o hb e=>eb b o hb e) f0 f1 f3 f4 f5⟩
 self:=λ_ _ _ _ _ st h=>wpAny_pyIter_listiter st h
theorem xD{P:Jt}{w:Jx}{K:W.Frag}{tg:Jz}(it:Jy)(lo:Int)(n:Nat):Turn P w K tg (Itr lo n) [it] it (λi h=>IsRangeIter h it (lo+(i:Nat)*1) ((n:Int)-(i:Nat)) 1) where
 mem:=by simp
 obj:=λi h st b hb=>by
  have e:b=it:=by simpa using hb
  subst e;exact⟨_,st,λv z=>by
   have z':Data.fields _=Data.cell v:=z;cases z'⟩
 keep:=λi h h' st k=>k it (by simp) _ st
 item:=by intro X hP hw hK hc i JC s σ H E I hf st hg;subst hP hw hK;obtain⟨f0,f1,f2,f3,f4,f5⟩:=hf it (by simp);have W:=Walks.range (prog:=X.prog) (w:=X.w) (I.ok.hd hc) it lo 1 n;refine W.item i s _ _ hg st λv h' tk hv st' kk=>?_;obtain⟨t,rfl⟩:=hv;have I1:Inv X JC σ H { s with heap:=h',toks:=tk }:=I.turned (λb o hb e=>kk b o (by simpa using hb) e) f0 f1 f3 f4 f5;refine⟨_,rfl,rM (s:={ s with heap:=h',toks:=tk }) (n:="range_iterator") st' rfl rfl (by decide) ⟨.int (lo+i),H,I1,⟨t,?_⟩,⟨rfl,rfl⟩,st',λb hb=>(hf b hb).1⟩⟩;rw[Int.mul_one]
 done:=by intro X hP hw hK hc i JC s σ H E I hf st hg;subst hP hw hK;obtain⟨f0,f1,f2,f3,f4,f5⟩:=hf it (by simp);exact wpAny_pyNext_range_end (I.ok.hd hc) st (by have:n<=i:=hg;omega) λh' eb=>⟨rfl,I.turned (t':=s.toks) (λb o hb e=>eb b o hb e) f0 f1 f3 f4 f5⟩
 self:=λ_ _ _ _ _ st h=>wpAny_pyIter_rangeiter st h
section
variable{X:Cx}{tg:Jz}
def BG(K:W.Frag)(tl:TE):TI:=λσ H R=>tl σ H λx H1=>∃a,x=.ref a/\(∃xs,SqL K H1 a xs)/\R (Itl K a) H1
theorem Db{l:Jz}{tl:TE}(hl:PE X l tl):PI X tg l (BG X.K tl):=by
 intro JC s σ H R I h;refine thn (hl JC s σ H _ I h) λv s1 hz9=>?_;obtain⟨x,H1,I1,r1,q1⟩:=hz9;obtain⟨a,e,⟨xs,hq⟩,q⟩:=q1;subst e;cases r1;obtain⟨its,rv,p,hz⟩:=I1.list hq;refine wpAny_pyIter_list p.isList ?_;refine⟨s1.heap.objs.size,[s1.heap.objs.size],_,_,H1,rfl,I1.kept (t':=s1.toks) λb o e=>z9 _ e,zL a _,⟨_,Zo _ rfl,rfl,rfl⟩,λb hb=>?_,q⟩;have e:b=s1.heap.objs.size:=by simpa using hb
 subst e;exact I1.fpOk (Za _) (I1.hok.fresh (Za _))
theorem sZ{JC:Jj}{σ:St}{H:Hp}{s:Ju}{R:It->Hp->Prop}{E:Jh}{lo hi:Int}{t u v:Tok}{tk:Nat}(I:Inv X JC σ H s)(h1:-(2^62)<=lo)(h2:lo<2^62)(h3:-(2^62)<=hi)(h4:hi<2^62)(q:R (Itr lo (hi-lo).toNat) H):wpAny (model X.prog X.w) X.A (pyIter (.ref s.heap.objs.size)) (PIE X JC σ tg R) E { s with heap:=s.heap.push { cls:=.type "range",data:=.fields #[.int lo t,.int hi u,.int 1 v] },toks:=tk }:=by
 refine wpAny_pyIter_range (IsRange.new ..) (small_one h1 h2 h3 h4) ?_;have I1:Inv X JC σ H { s with heap:=s.heap.push { cls:=.type "range",data:=.fields #[.int lo t,.int hi u,.int 1 v] },toks:=tk }:=I.kept λb o e=>z9 _ e;refine⟨(s.heap.push { cls:=.type "range",data:=.fields #[.int lo t,.int hi u,.int 1 v] }).objs.size,[(s.heap.push { cls:=.type "range",data:=.fields #[.int lo t,.int hi u,.int 1 v] }).objs.size],_,_,H,rfl,
  I1.kept (t':=tk) λb o e=>z9 _ e,xD _ lo (hi - lo).toNat,?_,λb hb=>?_,q⟩
 ·have e1:lo+((0:Nat):Int)*1=lo:=by simp
  have e2:(((hi-lo).toNat:Nat):Int)-((0:Nat):Int)=Builtin.Range.rangeSize lo hi 1:=by rw[rangeSize_one];split<;>omega
  show IsRangeIter _ _ (lo+((0:Nat):Int)*1) ((((hi-lo).toNat:Nat):Int)-((0:Nat):Int)) 1;rw[e1,e2];exact Zo _ rfl
 ·have e:b=(s.heap.push { cls:=.type "range",data:=.fields #[.int lo t,.int hi u,.int 1 v] }).objs.size:=by simpa using hb
  subst e;exact I1.fpOk (Za _) (I1.hok.fresh (Za _))
def BH(ta:TA):TI:=λσ H R=>ta σ H λvs H1=>∃j:Int,vs=[.int j]/\-(2^62)<=j/\j<2^62/\R (Itr 0 j.toNat) H1
def BI(ta:TA):TI:=λσ H R=>ta σ H λvs H1=>∃i j:Int,vs=[.int i,.int j]/\(-(2^62)<=i/\i<2^62/\-(2^62)<=j/\j<2^62)/\R (Itr i (j-i).toNat) H1
theorem zd{a:Jz}{ta:TA}{p pos:Pos}(hg:Gl X "range")(hm:X.mg "range" = none)(ha:PA X [a] ta)(hs:starEach [a] X.env=[(false,eval a X.env)]:=by rfl):PI X tg (.Call (.Name "range" p) [a] [] pos) (BH ta):=by
 intro JC s σ H R I h;refine Call_ (fT I hg hm boot_range (y9 (thn (ha pos JC s σ H _ I h) λus s1 hz9=>?_) hs rfl));obtain⟨vs,H1,I1,r1,q1⟩:=hz9;obtain⟨j,e,q1,q2,q⟩:=q1;subst e;cases r1 with
 |cons r rr =>cases rr;obtain⟨t,rfl⟩:=r;exact call_range_1 (sZ I1 (by omega) (by omega) q1 q2 (by simpa using q))
theorem ze{a b:Jz}{ta:TA}{p pos:Pos}(hg:Gl X "range")(hm:X.mg "range" = none)(ha:PA X [a,b] ta)(hs:starEach [a,b] X.env=[(false,eval a X.env),(false,eval b X.env)]:=by rfl)(hs2:starEach [b] X.env=[(false,eval b X.env)]:=by rfl) :
  PI X tg (.Call (.Name "range" p) [a,b] [] pos) (BI ta):=by
 intro JC s σ H R I h;refine Call_ (fT I hg hm boot_range (y9 (thn (ha pos JC s σ H _ I h) λus s1 hz9=>?_) (by rw[hs,hs2]) (by rw[hs2];rfl)));obtain⟨vs,H1,I1,r1,q1⟩:=hz9;obtain⟨i,j,e,⟨q1,q2,q3,q4⟩,q⟩:=q1;subst e;cases r1 with
 |cons r rr =>
  cases rr with
  |cons r' rr =>cases rr;obtain⟨t,rfl⟩:=r;obtain⟨t',rfl⟩:=r';exact call_range_2 (sZ I1 q1 q2 q3 q4 q)
def FR(wi:TI)(g:TG)(tb:TS):TS:=λD σ H=>wi σ H λJ H1=>∃W:Nat->Nat->St->Hp->Prop,(∃m,W 0 m σ H1)/\∀i m σ H,W i m σ H ->
 (J.stop i H/\D.nx σ H)\/(J.go i H/\∃N:St->Hp->Prop,(∀σ' H',N σ' H'->∃m',m'<m/\W (i+1) m' σ' H')/\∀x H',J.yld i H x H'->g x σ H' λσ2 H2=>tb { D with nx:=N,ct:=N,bk:=D.nx } σ2 H2)
def lK(fp:List Jy)(h:JB):Jj:=fp.filterMap λb=>(h.get? b).map λo=>(b,o)
theorem il{fp:List Jy}{h:JB}{b:Jy}{o:Obj}(hb:b∈fp)(e:h.get? b=some o):(b,o)∈lK fp h:=Ya.mpr ⟨b,hb,by rw[e];rfl⟩
theorem yQ{fp:List Jy}{h:JB}{p:Jy×Obj}(hp:p∈lK fp h):p.1∈fp/\h.get? p.1=some p.2:=by
 obtain⟨b,hb,e⟩:=Ya.mp hp;cases q:h.get? b with
 |none=>rw[q]at e;cases e
 |some o =>rw[q]at e;have e':(b,o)=p:=Zb e;subst e';exact⟨hb,q⟩
theorem Inv.pinned{JC:Jj}{σ:St}{H:Hp}{s:Ju}{fp:List Jy}(I:Inv X JC σ H s)(hf:∀b∈fp,bY X JC H b)(ho:∀b∈fp,∃o,s.heap.get? b=some o/\∀v,o.data≠.cell v):Inv X (JC++lK fp s.heap) σ H s :=
 I.pins_of λp hp=>(ZC.mp hp).elim (λz=>I.pin p (ZI _ z)) λz=>by obtain⟨hb,e⟩:=yQ z;obtain⟨f0,f1,f2,_⟩:=hf p.1 hb;obtain⟨o,e',d⟩:=ho p.1 hb;rw[e]at e';cases e';exact⟨e,f0,f1,f2,d⟩
theorem Inv.unpinned{JC pl:Jj}{σ:St}{H:Hp}{s:Ju}(I:Inv X (JC++pl) σ H s):Inv X JC σ H s:=I.pins_of λp hp=>I.pin p (ZI _ (List.mem_append_left _ hp))
theorem Fj{iter:Jz}{body:List JA}{wi:TI}{g:TG}{tb:TS}{pos:Pos}(hp:PassesOwn (model X.prog X.w) X.A X.env X.xe)(hc:X.calm=true)(hi:PI X tg iter wi)(hg:PG X tg g)(hb:PSs X body tb)(hs:∀x,foldedSetIterable iter X.env x=pure x:=by intro _;rfl):PS X (.For tg iter body [] pos) (FR wi g tb):=by
 intro JC s σ H D I h;refine wpAny_For (thn (hi JC s σ H _ I h) λv s1 h1=>thn h1 λitv s2 h2=>?_) hs;obtain⟨it,fp,tn,J,H2,e,I2,T,st2,f2,W,⟨m0,w0⟩,turn⟩:=h2;subst e;have stat:∀{H':Hp},(∀b∈fp,H' b=none)->∀b∈fp,bY X JC H' b:=λhn b hb=>⟨hn b hb,(f2 b hb).2⟩
 refine codeAny_forLoop_any (λn s'=>∃i σ' H',Inv X JC σ' H' s'/\tn i s'.heap/\(∀b∈fp,H' b=none)/\W i n σ' H') ?_ m0 ⟨0,σ,H2,I2,st2,λb hb=>(f2 b hb).1,w0⟩;rintro n s3 ⟨i,σ3,H3,I3,st3,fr3,w3⟩;rcases turn i n σ3 H3 w3 with⟨stop,qn⟩|⟨go,N,hN,step⟩
 ·refine wpAny_passesOwn hp (thn (T.done X rfl rfl rfl hc i JC s3 σ3 H3 X.xe I3 (stat fr3) st3 stop) λr s4 ⟨hr,I4⟩=>?_);subst hr;exact wpAny_execs_nil ⟨σ3,H3,I4,qn⟩
 ·refine wpAny_passesOwn hp (thn (T.item X rfl rfl rfl hc i JC s3 σ3 H3 X.xe I3 (stat fr3) st3 go) λr s4 ⟨u,hr,h4⟩=>?_);subst hr;refine wpAny_passesOwn hp (thn h4 λ_ s5 hz9=>?_);obtain⟨x,H5,I5,r5,y5,st5,fr5⟩:=hz9;have I5':=I5.pinned (stat fr5) (T.obj _ _ st5);refine wpAny_passesOwn hp (thn (hg _ s5 σ3 H5 x u _ I5' r5 (step x H5 y5)) λ_ s6 ⟨σ6,H6,I6,q6⟩=>?_);refine wpAny_passesOwn hp (thn (hb _ s6 σ6 H6 _ I6 q6) λf s7 q7=>?_);have again:∀{σ7:St} {H7:Hp},Inv X (JC++lK fp s5.heap) σ7 H7 s7->N σ7 H7->∃m,m<n/\∃i σ' H',Inv X JC σ' H' s7/\tn i s7.heap/\(∀b∈fp,H' b=none)/\W i m σ' H':=fun{σ7 H7} I7 n7=>by obtain⟨m',hm,w7⟩:=hN σ7 H7 n7;refine⟨m',hm,i+1,σ7,H7,I7.unpinned,T.keep _ _ _ st5 λb hb o e=>(I7.pin (b,o) (ZI _ (ZI _ (il hb e)))).1,λb hb=>?_,w7⟩;obtain⟨o,e,d⟩:=T.obj _ _ st5 b hb;exact(I7.pin (b,o) (ZI _ (ZI _ (il hb e)))).2.1
  cases f with
  |next=>obtain⟨σ7,H7,I7,n7⟩:=q7;exact again I7 n7
  |cont=>obtain⟨σ7,H7,I7,n7⟩:=q7;exact again I7 n7
  |brk=>obtain⟨σ7,H7,I7,q7⟩:=q7;exact⟨σ7,H7,I7.unpinned,q7⟩
  |ret v=>obtain⟨x7,σ7,H7,I7,r7,q7⟩:=q7;exact⟨x7,σ7,H7,I7.unpinned,r7,q7⟩
end
theorem nq{K:W.Frag}{a:Jy}{xs:List V}{g:TG}{tb:TS}{D:Ends}{σ:St}{H:Hp}(Pv:Nat->St->Hp->Prop)(h0:Pv 0 σ H)(hl:∀i σ H,i<=xs.length->Pv i σ H->SqL K H a xs)(hs:∀i x σ H,xs[i]?=some x->Pv i σ H->g x σ H λσ2 H2=>tb { D with nx:=Pv (i+1),ct:=Pv (i+1),bk:=D.nx } σ2 H2)(hd:∀σ H,Pv xs.length σ H->D.nx σ H) :
  ∃W:Nat->Nat->St->Hp->Prop,(∃m,W 0 m σ H)/\∀i m σ H,W i m σ H ->
   ((Itl K a).stop i H/\D.nx σ H)\/((Itl K a).go i H/\∃N:St->Hp->Prop,(∀σ' H',N σ' H'->∃m',m'<m/\W (i+1) m' σ' H')/\∀x H',(Itl K a).yld i H x H'->g x σ H' λσ2 H2=>tb { D with nx:=N,ct:=N,bk:=D.nx } σ2 H2):=by
 refine⟨λi m σ H=>m=xs.length-i/\i<=xs.length/\Pv i σ H,⟨xs.length,by simp,ZM _,h0⟩,?_⟩;rintro i m σ H ⟨rfl,hi,p⟩;have q:=hl i σ H hi p;by_cases hlt:i<xs.length
 ·refine .inr ⟨⟨xs,xs[i],q,by simp[hlt]⟩,Pv (i+1),λσ' H' p'=>⟨xs.length-(i+1),by omega,rfl,hlt,p'⟩,λx H' y=>?_⟩;obtain⟨e,y⟩:=y;subst e;exact hs i x σ _ (y xs q) p
 ·have e:i=xs.length:=by omega
  subst e;exact .inl ⟨⟨xs,q,Za _⟩,hd σ H p⟩
theorem qR{lo:Int}{n:Nat}{g:TG}{tb:TS}{D:Ends}{σ:St}{H:Hp}(Pv:Nat->St->Hp->Prop)(h0:Pv 0 σ H)(hs:∀i σ H,i<n->Pv i σ H->g (.int (lo+i)) σ H λσ2 H2=>tb { D with nx:=Pv (i+1),ct:=Pv (i+1),bk:=D.nx } σ2 H2)(hd:∀σ H,Pv n σ H->D.nx σ H) :
  ∃W:Nat->Nat->St->Hp->Prop,(∃m,W 0 m σ H)/\∀i m σ H,W i m σ H ->
   ((Itr lo n).stop i H/\D.nx σ H)\/((Itr lo n).go i H/\∃N:St->Hp->Prop,(∀σ' H',N σ' H'->∃m',m'<m/\W (i+1) m' σ' H')/\∀x H',(Itr lo n).yld i H x H'->g x σ H' λσ2 H2=>tb { D with nx:=N,ct:=N,bk:=D.nx } σ2 H2):=by
 refine⟨λi m σ H=>m=n-i/\i<=n/\Pv i σ H,⟨n,by simp,ZM _,h0⟩,?_⟩;rintro i m σ H ⟨rfl,hi,p⟩;by_cases hlt:i<n
 ·refine .inr ⟨hlt,Pv (i+1),λσ' H' p'=>⟨n-(i+1),by omega,rfl,hlt,p'⟩,λx H' y=>?_⟩;obtain⟨e,y⟩:=y;subst e y;exact hs i σ _ hlt p
 ·have e:i=n:=by omega
  subst e;exact .inl ⟨Za _,hd σ H p⟩
abbrev R2:=V->V->Hp->VK->Prop
def OpR(X:Cx)(f:Jw->Jw->Sem Jw)(r:R2):Prop :=
 ∀(JC:Jj) (s:Ju) (σ:St) (H:Hp) (x y:V) (v u:Jw) (Q:VK),Inv X JC σ H s->RelV x v->RelV y u->r x y H Q ->
  wpAny (model X.prog X.w) X.A (f v u) (EP X JC σ Q) X.xe s
def UnR(X:Cx)(f:Jw->Sem Jw)(r:V->Hp->VK->Prop):Prop :=
 ∀(JC:Jj) (s:Ju) (σ:St) (H:Hp) (x:V) (v:Jw) (Q:VK),Inv X JC σ H s->RelV x v->r x H Q ->
  wpAny (model X.prog X.w) X.A (f v) (EP X JC σ Q) X.xe s
def fu(X:Cx)(f:Jw)(r:List V->Hp->VK->Prop):Prop :=
 ∀(JC:Jj) (s:Ju) (σ:St) (H:Hp) (xs:List V) (us:Jn) (Q:VK),Inv X JC σ H s->Vals xs us->r xs H Q ->
  wpAny (model X.prog X.w) X.A (call f us) (EP X JC σ Q) X.xe s
def tOp(r:R2)(ta tb:TE):TE:=λσ H Q=>ta σ H λx H1=>tb σ H1 λy H2=>r x y H2 Q
def tUn(r:V->Hp->VK->Prop)(ta:TE):TE:=λσ H Q=>ta σ H λx H1=>r x H1 Q
inductive rI(C:Int->Int->Prop)(g:Int->Int->V)(x:V)(y:V)(H:Hp)(Q:VK):Prop
 |mk (i j:_) (h0:x=.int i) (h1:y=.int j) (h2:C i j) (h3:Q (g i j) H):rI C g x y H Q
inductive rI0(g:Int->Int->V)(x:V)(y:V)(H:Hp)(Q:VK):Prop
 |mk (i j:_) (h0:x=.int i) (h1:y=.int j) (h2:Q (g i j) H):rI0 g x y H Q
def rU(g:Int->V):V->Hp->VK->Prop:=λx H Q=>∃i,x=.int i/\Q (g i) H
section
variable{X:Cx}{a b c:Jz}{ta tb tc:TE}{pos:Pos}
theorem zZ(ha:PE X a ta)(hb:PE X b tb){JC:Jj}{s:Ju}{σ:St}{H:Hp}{R:V->V->Hp->Prop}(I:Inv X JC σ H s)(h:ta σ H λx H1=>tb σ H1 λy H2=>R x y H2){Q:Jh}{f:Jw->Jw->Sem Jw}(hf:∀v u s2 x y H2,Inv X JC σ H2 s2->RelV x v->RelV y u->R x y H2->wpAny (model X.prog X.w) X.A (f v u) Q X.xe s2) :
  wpAny (model X.prog X.w) X.A (eval a X.env) (λv s₁=>wpAny (model X.prog X.w) X.A (eval b X.env) (λu s₂=>wpAny (model X.prog X.w) X.A (f v u) Q X.xe s₂) X.xe s₁) X.xe s:=by
 refine thn (ha JC s σ H _ I h) λv s1 hz9=>?_;obtain⟨x,H1,I1,r1,q1⟩:=hz9;refine thn (hb JC s1 σ H1 _ I1 q1) λu s2 hz9=>?_;obtain⟨y,H2,I2,r2,q2⟩:=hz9;exact hf v u s2 x y H2 I2 r1 r2 q2
theorem GQ{op:Operator}{r:R2}(ho:OpR X (binaryOp op) r)(ha:PE X a ta)(hb:PE X b tb):PE X (.BinOp a op b pos) (tOp r ta tb):=by intro JC s σ H Q I h;exact wpAny_BinOp (zZ ha hb I h λv u s2 x y H2 I2 rx ry q=>ho JC s2 σ H2 x y v u Q I2 rx ry q)
theorem GS{op:UnaryOp}{r:V->Hp->VK->Prop}(ho:UnR X (unaryOp op) r)(ha:PE X a ta):PE X (.UnaryOp op a pos) (tUn r ta):=by intro JC s σ H Q I h;exact UnaryOp_ (thn (ha JC s σ H _ I h) λv s1 ⟨x,H1,I1,r1,q1⟩=>ho JC s1 σ H1 x v Q I1 r1 q1)
theorem opI{f:Jw->Jw->Sem Jw}{C:Int->Int->Prop}{g:Int->Int->Int}(rule:∀(i j:Int) (t u:Tok) (s:Ju) (Q:Jh) (E:Jh),C i j->Q (.int (g i j) s.toks) { s with toks:=s.toks+1 }->wpAny (model X.prog X.w) X.A (f (.int i t) (.int j u)) Q E s) :
  OpR X f (rI C λi j=>.int (g i j)):=by
 intro JC s σ H x y v u Q I rx ry h;obtain⟨i,j,rfl,rfl,hc,q⟩:=h;obtain⟨t,rfl⟩:=rx;obtain⟨t',rfl⟩:=ry;exact rule i j t t' s _ _ hc ⟨.int (g i j),H,I.tok _,⟨_,rfl⟩,q⟩
theorem EN{f:Jw->Jw->Sem Jw}{g:Int->Int->Int}(rule:∀(i j:Int) (t u:Tok) (s:Ju) (Q:Jh) (E:Jh),Q (.int (g i j) s.toks) { s with toks:=s.toks+1 }->wpAny (model X.prog X.w) X.A (f (.int i t) (.int j u)) Q E s) :
  OpR X f (rI0 λi j=>.int (g i j)):=by
 intro JC s σ H x y v u Q I rx ry h;obtain⟨i,j,rfl,rfl,q⟩:=h;obtain⟨t,rfl⟩:=rx;obtain⟨t',rfl⟩:=ry;exact rule i j t t' s _ _ ⟨.int (g i j),H,I.tok _,⟨_,rfl⟩,q⟩
theorem AW{f:Jw->Jw->Sem Jw}{g:Int->Int->Bool}(rule:∀(i j:Int) (t u:Tok) (s:Ju) (Q:Jh) (E:Jh),Q (.bool (g i j)) s->wpAny (model X.prog X.w) X.A (f (.int i t) (.int j u)) Q E s) :
  OpR X f (rI0 λi j=>.bl (g i j)):=by
 intro JC s σ H x y v u Q I rx ry h;obtain⟨i,j,rfl,rfl,q⟩:=h;obtain⟨t,rfl⟩:=rx;obtain⟨t',rfl⟩:=ry;exact rule i j t t' s _ _ ⟨.bl (g i j),H,I,rfl,q⟩
def DP(i j:Int):Prop:=0<j/\j<1073741824
def DQ(i j:Int):Prop:=0<=j/\j<=1000000/\i.natAbs<2^64
def CMul(i j:Int):Prop:=(-(2^64)<i/\i<2^64)\/(-(2^64)<j/\j<2^64)
theorem CMul.ok{i j:Int}(h:CMul i j):IntMulOk i j:=by
 rcases h with⟨h1,h2⟩|⟨h1,h2⟩
 ·exact .of_left (intBits_le_64 h1 h2)
 ·exact .of_right (intBits_le_64 h1 h2)
theorem EO:OpR X (binaryOp .Add) (rI0 λi j=>.int (i+j)):=EN λ_ _ _ _ _ _ _ q=>add_int q
theorem EV:OpR X (binaryOp .Sub) (rI0 λi j=>.int (i-j)):=EN λ_ _ _ _ _ _ _ q=>sub_int q
theorem ET:OpR X (binaryOp .Mult) (rI CMul λi j=>.int (i*j)):=opI λ_ _ _ _ _ _ _ hc q=>mul_int q hc.ok
theorem CS:OpR X (binaryOp .FloorDiv) (rI DP λi j=>.int (i / j)):=opI λi j _ _ _ _ _ hc q=>by have h1:(0:Int)<j:=hc.1;have h2:j<1073741824:=hc.2;exact floordiv_int (by omega) (by rw[Int.fdiv_eq_ediv_of_nonneg i (by omega)];exact q) (.inl (PyProof.noPylong_small (by omega)))
theorem ES:OpR X (binaryOp .Mod) (rI (λ_ j=>0<j) λi j=>.int (i%j)):=opI λi j _ _ _ _ _ hc q=>by have h1:(0:Int)<j:=hc;exact mod_int' (by omega) (by rw[Int.fmod_eq_emod_of_nonneg i (by omega)];exact q)
theorem EU:OpR X (binaryOp .Pow) (rI DQ λi j=>.int (i^j.toNat)):=opI λ_ _ _ _ _ _ _ hc q=>pow_int_small hc.1 hc.2.1 hc.2.2 q
theorem unI{f:Jw->Sem Jw}{g:Int->Int}(rule:∀(i:Int) (t:Tok) (s:Ju) (Q:Jh) (E:Jh),Q (.int (g i) s.toks) { s with toks:=s.toks+1 }->wpAny (model X.prog X.w) X.A (f (.int i t)) Q E s) :
  UnR X f (rU λi=>.int (g i)):=by
 intro JC s σ H x v Q I rx h;obtain⟨i,rfl,q⟩:=h;obtain⟨t,rfl⟩:=rx;exact rule i t s _ _ ⟨.int (g i),H,I.tok _,⟨_,rfl⟩,q⟩
theorem F8:UnR X (unaryOp .USub) (rU λi=>.int (-i)):=unI λ_ _ _ _ _ q=>neg_int q
end
def FK:V->V->Bool
 |.non,.non=>true|.non,.int _=>true|.int _,.non=>true|.non,.bl _=>true|.bl _,.non=>true|.non,.str _=>true|.str _,.non=>true
 |.int _,.int _=>true|.bl _,.bl _=>true|.str _,.str _=>true|.byt _,.byt _=>true
 |.int _,.str _=>true|.str _,.int _=>true|.bl _,.str _=>true|.str _,.bl _=>true
 |_,_=>false
def rEq:R2:=λx y H Q=>FK x y=true/\Q (.bl (decide (x=y))) H
def rNe:R2:=λx y H Q=>FK x y=true/\Q (.bl (!decide (x=y))) H
theorem uE{i j:Int}:decide (V.int i=V.int j)=(i==j):=by rw[Bool.eq_iff_iff];simp
theorem xZ{i j:Bool}:decide (V.bl i=V.bl j)=(i==j):=by rw[Bool.eq_iff_iff];simp
theorem uG{i j:Str}:decide (V.str i=V.str j)=(i==j):=by rw[Bool.eq_iff_iff];simp
theorem uD{i j:Array UInt8}:decide (V.byt i=V.byt j)=(i.toList==j.toList):=by rw[Bool.eq_iff_iff];cases i;cases j;simp
section
variable{X:Cx}{a b c:Jz}{ta tb tc:TE}{pos:Pos}
theorem aT{JC:Jj}{σ:St}{H:Hp}{s:Ju}{Q:VK}{k k':Bool}(I:Inv X JC σ H s)(q:Q (.bl k) H)(e:k=k'):EP X JC σ Q (.bool k') s:=by subst e;exact⟨.bl k,H,I,rfl,q⟩
theorem GG:OpR X (compareOp .Eq) rEq:=by
 intro JC s σ H x y v u Q I rx ry h;obtain⟨hs,q⟩:=h;cases x with
 |non =>
  cases rx;cases y with
  |non=>cases ry;exact PySem.EqNone.eq_none_none (aT I q (by simp))
  |bl j=>cases ry;exact PySem.EqNone.eq_none_bool (aT I q (by simp))
  |int j=>obtain⟨t',rfl⟩:=ry;exact PySem.EqNone.eq_none_int (aT I q (by simp))
  |str j=>obtain⟨t',rfl⟩:=ry;exact PySem.EqNone.eq_none_str (aT I q (by simp))
  |_=>exact absurd (show false=true from hs) Zi
 |bl i =>
  cases rx;cases y with
  |non=>cases ry;exact PySem.EqNone.eq_bool_none (aT I q (by simp))
  |bl j=>cases ry;exact eq_bool (aT I q xZ)
  |str j=>obtain⟨t',rfl⟩:=ry;exact PySem.EqMixed.eq_bool_str (aT I q (by simp))
  |_=>exact absurd (show false=true from hs) Zi
 |int i =>
  obtain⟨t,rfl⟩:=rx;cases y with
  |non=>cases ry;exact PySem.EqNone.eq_int_none (aT I q (by simp))
  |int j=>obtain⟨t',rfl⟩:=ry;exact eq_int (aT I q uE)
  |str j=>obtain⟨t',rfl⟩:=ry;exact PySem.EqMixed.eq_int_str (aT I q (by simp))
  |_=>exact absurd (show false=true from hs) Zi
 |str i =>
  obtain⟨t,rfl⟩:=rx;cases y with
  |non=>cases ry;exact PySem.EqNone.eq_str_none (aT I q (by simp))
  |bl j=>cases ry;exact PySem.EqMixed.eq_str_bool (aT I q (by simp))
  |int j=>obtain⟨t',rfl⟩:=ry;exact PySem.EqMixed.eq_str_int (aT I q (by simp))
  |str j=>obtain⟨t',rfl⟩:=ry;exact eq_str (aT I q uG)
  |_=>exact absurd (show false=true from hs) Zi
 |byt i =>
  obtain⟨t,rfl⟩:=rx;cases y with
  |byt j=>obtain⟨t',rfl⟩:=ry;exact W.eq_bytes (aT I q uD)
  |_=>exact absurd (show false=true from hs) Zi
 |_=>cases y<;>exact absurd (show false=true from hs) Zi
theorem GL:OpR X (compareOp .NotEq) rNe:=by
 intro JC s σ H x y v u Q I rx ry h;obtain⟨hs,q⟩:=h;cases x with
 |non =>
  cases rx;cases y with
  |non=>cases ry;exact PySem.EqNone.ne_none_none (aT I q (by simp))
  |bl j=>cases ry;exact PySem.EqNone.ne_none_bool (aT I q (by simp))
  |int j=>obtain⟨t',rfl⟩:=ry;exact PySem.EqNone.ne_none_int (aT I q (by simp))
  |str j=>obtain⟨t',rfl⟩:=ry;exact PySem.EqNone.ne_none_str (aT I q (by simp))
  |_=>exact absurd (show false=true from hs) Zi
 |bl i =>
  cases rx;cases y with
  |non=>cases ry;exact PySem.EqNone.ne_bool_none (aT I q (by simp))
  |bl j=>cases ry;exact ne_bool (aT I q (ZU not xZ))
  |str j=>obtain⟨t',rfl⟩:=ry;exact PySem.EqMixed.ne_bool_str (aT I q (by simp))
  |_=>exact absurd (show false=true from hs) Zi
 |int i =>
  obtain⟨t,rfl⟩:=rx;cases y with
  |non=>cases ry;exact PySem.EqNone.ne_int_none (aT I q (by simp))
  |int j=>obtain⟨t',rfl⟩:=ry;exact ne_int (aT I q (ZU not uE))
  |str j=>obtain⟨t',rfl⟩:=ry;exact PySem.EqMixed.ne_int_str (aT I q (by simp))
  |_=>exact absurd (show false=true from hs) Zi
 |str i =>
  obtain⟨t,rfl⟩:=rx;cases y with
  |non=>cases ry;exact PySem.EqNone.ne_str_none (aT I q (by simp))
  |bl j=>cases ry;exact PySem.EqMixed.ne_str_bool (aT I q (by simp))
  |int j=>obtain⟨t',rfl⟩:=ry;exact PySem.EqMixed.ne_str_int (aT I q (by simp))
  |str j=>obtain⟨t',rfl⟩:=ry;exact ne_str (aT I q (ZU not uG))
  |_=>exact absurd (show false=true from hs) Zi
 |byt i =>
  obtain⟨t,rfl⟩:=rx;cases y with
  |byt j=>obtain⟨t',rfl⟩:=ry;exact W.ne_bytes (aT I q (ZU not uD))
  |_=>exact absurd (show false=true from hs) Zi
 |_=>cases y<;>exact absurd (show false=true from hs) Zi
theorem GJ:OpR X (compareOp .Lt) (rI0 λi j=>.bl (decide (i<j))):=AW λ_ _ _ _ _ _ _ q=>lt_int q
theorem GI:OpR X (compareOp .LtE) (rI0 λi j=>.bl (decide (i<=j))):=AW λ_ _ _ _ _ _ _ q=>le_int q
theorem GH:OpR X (compareOp .Gt) (rI0 λi j=>.bl (decide (j<i))):=AW λ_ _ _ _ _ _ _ q=>gt_int q
theorem ER:OpR X (compareOp .Is) (λx y H Q=>y=.non/\Q (.bl (decide (x=.non))) H):=by
 intro JC s σ H x y v u Q I rx ry h;obtain⟨rfl,q⟩:=h;cases ry;refine is_none_gen (aT I q ?_);cases x<;>first
  |(cases rx;rfl)
  |(obtain⟨t,rfl⟩:=rx;rfl)
theorem CT:OpR X (compareOp .IsNot) (λx y H Q=>y=.non/\Q (.bl (!decide (x=.non))) H):=by
 intro JC s σ H x y v u Q I rx ry h;obtain⟨rfl,q⟩:=h;cases ry;refine isnot_none_gen (aT I q ?_);cases x<;>first
  |(cases rx;rfl)
  |(obtain⟨t,rfl⟩:=rx;rfl)
theorem yI(b:Jz){op:CmpOp}(h:op≠.In:=by decide)(h2:op≠.NotIn:=by decide):behindInMarks op b=false:=by
 have e1:(op==CmpOp.In)=false:=by cases op<;>first|rfl|exact absurd rfl h
 have e2:(op==CmpOp.NotIn)=false:=by cases op<;>first|rfl|exact absurd rfl h2
 cases b<;>simp[behindInMarks,e1,e2]
theorem C3{op:CmpOp}{r:R2}(ho:OpR X (compareOp op) r)(ha:PE X a ta)(hb:PE X b tb)(hm:behindInMarks op b=false):PE X (.Compare a [op] [b] pos) (tOp r ta tb):=by intro JC s σ H Q I h;exact wpAny_Compare1 (zZ ha hb I h λv u s2 x y H2 I2 rx ry q=>ho JC s2 σ H2 x y v u Q I2 rx ry q) hm
def rT(t:TE):TT:=λσ H Q=>t σ H λx H'=>IsB x H' Q
theorem Dm{op:CmpOp}{r:R2}(ho:OpR X (compareOp op) r)(ha:PE X a ta)(hb:PE X b tb)(hm:behindInMarks op b=false):PT X (.Compare a [op] [b] pos) (rT (tOp r ta tb)):=by
 intro JC s σ H Q I h;refine wpAny_isTrue_Compare1 (thn (ha JC s σ H _ I h) λv s1 ⟨x,H1,I1,r1,q1⟩=>thn (hb JC s1 σ H1 _ I1 q1) λu s2 ⟨y,H2,I2,r2,q2⟩ =>
  thn (ho JC s2 σ H2 x y v u _ I2 r1 r2 q2) λc s3 ⟨z,H3,I3,r3,k,e,q3⟩=>?_) hm
 subst e;cases r3;exact Yo ⟨H3,I3,q3⟩
def zE(r r':R2)(ta tb tc:TE):TE:=λσ H Q=>ta σ H λx H1=>tb σ H1 λy H2=>r x y H2 λz H3=>∃k,z=.bl k /\
 (if k=true then tc σ H3 λw' H4=>r' y w' H4 Q else Q (.bl false) H3)
theorem Bb{op op':CmpOp}{r r':R2}(ho:OpR X (compareOp op) r)(ho':OpR X (compareOp op') r')(ha:PE X a ta)(hb:PE X b tb)(hc:PE X c tc)(hm:lastMarks [op,op'] [b,c]=false:=by with_unfolding_all rfl):PT X (.Compare a [op,op'] [b,c] pos) (rT (zE r r' ta tb tc)):=by
 intro JC s σ H Q I h;refine isTrue_chain (thn (ha JC s σ H _ I h) λv s1 ⟨x,H1,I1,r1,q1⟩=>test_link (thn (hb JC s1 σ H1 _ I1 q1) λu s2 ⟨y,H2,I2,r2,q2⟩ =>
  thn (ho JC s2 σ H2 x y v u _ I2 r1 r2 q2) λd s3 ⟨z,H3,I3,r3,k,e,q3⟩=>?_)) hm
 subst e;cases r3;refine Yo ?_;cases k with
 |false =>obtain⟨k',e',q'⟩:=q3;cases e';exact ite_ff ⟨H3,I3,q'⟩
 |true =>refine ite_tt (test_last (thn (hc JC s3 σ H3 _ I3 q3) λw' s4 ⟨z',H4,I4,r4,q4⟩=>thn (ho' JC s4 σ H4 y z' u w' _ I4 r2 r4 q4) λd' s5 hz9=>?_));obtain⟨z2,H5,I5,r5,k2,e2,q5⟩:=hz9;subst e2;cases r5;exact Yo ⟨H5,I5,q5⟩
theorem oN:(sizeLine:Nat)<2^63:=by rw[sizeLine_eq];decide
theorem xo:OpR X (binaryOp .Add) (λx y H Q=>∃i j,x=.str i/\y=.str j/\i.length+j.length<=sizeLine/\Q (.str (i++j)) H):=by intro JC s σ H x y v u Q I rx ry h;obtain⟨i,j,rfl,rfl,hz,q⟩:=h;obtain⟨t,rfl⟩:=rx;obtain⟨t',rfl⟩:=ry;exact add_str (λt' tk=>⟨.str (i++j),H,I.tok _,⟨_,rfl⟩,q⟩) hz
theorem fz{x:V}{us:Jn}(r:Vals [x] us):∃u,us=[u]/\RelV x u:=by
 cases r with
 |cons r1 r2=>cases r2;exact⟨_,rfl,r1⟩
theorem iq{x y:V}{us:Jn}(r:Vals [x,y] us):∃u w',us=[u,w']/\RelV x u/\RelV y w':=by
 cases r with
 |cons r1 r2 =>
  cases r2 with
  |cons r3 r4=>cases r4;exact⟨_,_,rfl,r1,r3⟩
theorem xR(hc:X.calm=true):fu X (.builtin "max") (λxs H Q=>∃i j,xs=[.int i,.int j]/\Q (.int (if j>i then j else i)) H):=by
 intro JC s σ H xs us Q I r h;obtain⟨i,j,rfl,q⟩:=h;obtain⟨u,w',rfl,⟨t,rfl⟩,⟨t',rfl⟩⟩:=iq r;refine max_two_ints (I.ok.hd hc) λh' tk k=>⟨_,H,I.kept k,?_,q⟩
 by_cases hj:j>i
 ·rw[Jg hj,Jg hj];exact⟨_,rfl⟩
 ·rw[Jf hj,Jf hj];exact⟨_,rfl⟩
theorem xP:fu X (.type "int") (λxs H Q=>(∃i,xs=[.int i]/\Q (.int i) H)\/∃k,xs=[.bl k]/\Q (.int (if k then 1 else 0)) H):=by
 intro JC s σ H xs us Q I r h;rcases h with⟨i,rfl,q⟩|⟨k,rfl,q⟩
 ·obtain⟨u,rfl,t,rfl⟩:=fz r;exact call_int_int ⟨.int i,H,I,⟨_,rfl⟩,q⟩
 ·obtain⟨u,rfl,r1⟩:=fz r;cases r1;exact call_int_bool ⟨.int (if k then 1 else 0),H,I.tok _,⟨_,rfl⟩,q⟩
end
structure ObjM(h:JB)(x dx C:Jy)(mA:Ji):Prop where
 obj:h.get? x=some (W.instObj C dx)
 ns:h.Ns1 dx mA
 ne:dx≠x
theorem qW{h:JB}{dx:Jy}{mA:Ji}(n:h.Ns1 dx mA):∃od,h.get? dx=some od/\∀name,W.lookIn name od=some (mA name):=by
 obtain⟨o,es,ep,ho,hd,hk,_,hm⟩:=n;refine⟨o,ho,λname=>?_⟩;have e:=hm name;unfold nsFind findBy at e;rw[<-Array.find?_toList]at e;unfold W.lookIn;rw[hd];dsimp only;split
 ·rename_i y q;rw[q]at e;exact ZU some e
 ·rename_i q;rw[q]at e;have a:es.toList.any (·.refKey)=false:=by rw[List.any_eq_false];intro y hy;obtain⟨z,t,hkey⟩:=hk y (YB.mp hy);simp[DictEntry.refKey,hkey]
  have a':¬es.toList.any (·.refKey)=true:=by rw[a];exact Zi
  rw[Jf a'];exact ZU some e
theorem ObjM.look{h:JB}{x dx C:Jy}{mA:Ji}(I:ObjM h x dx C mA):∃od,W.InstAt h x (W.instObj C dx) C (some od)/\∀name,W.lookIn name od=some (mA name) :=
 let⟨od,ho,hl⟩:=qW I.ns
 ⟨od,⟨I.obj,rfl,rfl,ho⟩,hl⟩
section
variable{prog:Jt}{w:Jx}{A:Jv}{E:Jh}{s:Ju}{K:W.Frag}{x dx C f:Jy}{mA:Ji}{name:Str}{v:Jw}
theorem Cw{expr:Bool}{Q:Jh}(X:K.In s.heap)(I:ObjM s.heap x dx C mA)(hg:W.plainGet K C name=true)(hh:W.hasDictIn K C=true)(ha:W.findIn K (.ref C) name=some none)(hv:mA name=some v)(hv':W.handedIn v=true)(h:Q v { s with toks:=s.toks+1 }) :
  wpAny (model prog w) A (getAttr (.ref x) name expr) Q E s:=by
 obtain⟨od,J,hl⟩:=I.look;exact W.get_value X J (W.plainGet_of hg).1 (W.findObj_own hh ha rfl (by rw[hl,hv])) hv' h
theorem Aw{pl:Sem Bool}{Q:Jw×Jn->Ju->Prop}(X:K.In s.heap)(I:ObjM s.heap x dx C mA)(hg:W.plainGet K C name=true)(hf:W.findIn K (.ref C) name=some (some (.ref f)))(ht:W.isFn K (.ref f)=true)(hv:mA name=none)(h:Q (.ref f,[.ref x]) s) :
  wpAny (model prog w) A (getMethod (.ref x) name pl) Q E s:=by
 obtain⟨od,J,hl⟩:=I.look;exact W.method_fn X J (W.plainGet_of hg).1 (W.plainGet_of hg).2 hf (ZO.mp ht) (by show(W.lookIn name od).map (·.isSome)=some false;rw[hl,hv];rfl) h
theorem Dw{ns:Jr}{Q:Unit->Ju->Prop}(X:K.In s.heap)(I:ObjM s.heap x dx C mA)(hs:W.findIn K (.ref C) "__setattr__" = some (some (.builtin "object.__setattr__")))(hp:W.plainOver K C=true)(ht:W.takerIn K C name=some none)(hh:W.hasDictIn K C=true)(hw:PySem.Within mA ns)(hsz:ns.length<=sizeLine)(h:∀h',ObjM h' x dx C (λy=>if y=name then some v else mA y)->Heap.SameBut dx s.heap h'->Q () { s with heap:=h',toks:=s.toks+2 }) :
  wpAny (model prog w) A (setAttr (.ref x) name v) Q E s:=by
 obtain⟨od,J,hl⟩:=I.look;refine W.set_plain X J hs (W.osa_open (s:={ s with toks:=s.toks+1 }) (r:=none) X J hp ht λb=>?_);obtain⟨cd,hc,hd'⟩:=W.any_some hh;have hx:s.heap.get? x=some ⟨.ref C,some dx,.plain,#[]⟩:=I.obj;refine z0 (z6 (z0 (z0 (wpAny_loadPart hx (z0 (W.Looks.here (s:={ s with toks:=s.toks+1 }) (W.looks_clsIn X hc) ?_))))));rw[hd'];refine z6 (a:=some dx) (z0 (z6 (z0 ?_)));refine wpAny_nsSet1 (s:={ s with toks:=s.toks+1 }) I.ns λh' hn2 hs2=>?_;obtain⟨oD,esD,epD,hoD,hdD,hcD⟩:=hn2.count (PySem.Within.cons name v hw);refine z0 (wpAny_lookBehind hoD (by rw[hdD];exact pastItsLine_dict (Zr hcD (by rw[Zw];omega))) ?_);exact z6 (h _ ⟨(hs2.2 _ (Zs I.ne)).trans I.obj,hn2,I.ne⟩ hs2)
theorem AI{R:Result->Ju->Prop}{vs:Jn}{kw:List (Str×Jw)}(X:K.In s.heap)(hm:W.makesIn K C=true)(hi:W.findIn K (.ref C) "__init__" = some (some (.ref f)))(hf:W.typeIn K (.ref f)=some (.type "function"))(h:codeAny (model prog w) (A.under (.builtin "type.__call__" ⟨.ref C::vs,kw⟩)) (.call (.ref f) ⟨.ref (s.heap.objs.size+1)::vs,kw⟩) (W.InitBack (s.heap.objs.size+1) R)
   { s with heap:=(s.heap.push W.emptyDict).push (W.instObj C s.heap.objs.size) }) :
  codeAny (model prog w) A (.call (.ref C) ⟨vs,kw⟩) R s:=by
 obtain⟨hh,g,d,t,os⟩:=s;exact W.make_core (W.makes_of X hm) (W.looks_findIn X hi) (λself=>W.bind_fn X self hf) (.inl rfl) h
end
def dQ(f:Str)(v:V):List (Str×V)->List (Str×V)
 | []=>[(f,v)]
 |(g,x)::r=>if g=f then(g,v)::r else(g,x)::dQ f v r
theorem dq(f g:Str)(v:V):∀fs:List (Str×V),(dQ f v fs).lookup g=if g=f then some v else fs.lookup g
 | []=>by
  show List.lookup g [(f,v)]=_;by_cases h:g=f
  ·have hb:(g==f)=true:=ZO.mpr h;simp only[List.lookup,hb,Jg h]
  ·have hb:(g==f)=false:=Yh.mpr h;simp only[List.lookup,hb,Jf h]
 |(k,x)::r=>by
  have ih:=dq f g v r;rw[show dQ f v ((k,x)::r)=(if k=f then(k,v)::r else(k,x)::dQ f v r)from rfl];by_cases hk:k=f
  ·rw[Jg hk];by_cases h:g=k
   ·have hb:(g==k)=true:=ZO.mpr h;simp only[List.lookup,hb,Jg (h.trans hk)]
   ·have hb:(g==k)=false:=Yh.mpr h;simp only[List.lookup,hb,Jf (λe:g=f=>h (e.trans hk.symm))]
  ·rw[Jf hk];by_cases h:g=k
   ·have hb:(g==k)=true:=ZO.mpr h;simp only[List.lookup,hb,Jf (λe:g=f=>hk (h.symm.trans e))]
   ·have hb:(g==k)=false:=Yh.mpr h;simp only[List.lookup,hb];exact ih
theorem lC(f:Str)(v:V):∀fs:List (Str×V),f∈(dQ f v fs).map (·.1)/\∀g,g∈fs.map (·.1)->g∈(dQ f v fs).map (·.1)
 | []=>⟨by simp[dQ],λg h=>by simp at h⟩
 |(k,x)::r=>by
  obtain⟨i1,i2⟩:=lC f v r;rw[show dQ f v ((k,x)::r)=(if k=f then(k,v)::r else(k,x)::dQ f v r)from rfl];by_cases hk:k=f
  ·rw[Jg hk];subst hk;exact⟨by simp,λg h=>by simpa using h⟩
  ·rw[Jf hk];refine⟨?_,λg h=>?_⟩
   ·rw[Zk];exact Zf _ i1
   ·rw[Zk]at h ⊢;rcases Zj.mp h with e|e
    ·exact Zj.mpr (.inl e)
    ·exact Zf _ (i2 g e)
theorem mQ(f:Str)(v:V):∀fs:List (Str×V),(dQ f v fs).length<=fs.length+1
 | []=>by simp[dQ]
 |(k,x)::r=>by
  have ih:=mQ f v r;rw[show dQ f v ((k,x)::r)=(if k=f then(k,v)::r else(k,x)::dQ f v r)from rfl];by_cases hk:k=f
  ·rw[Jg hk,Zw,Zw];omega
  ·rw[Jf hk,Zw,Zw];omega
theorem RelO.some_of{v:V}{o:Jl}(r:RelO (some v) o):∃u,o=some u/\RelV v u:=by
 cases o with
 |none=>exact(show False from r).elim
 |some u=>exact⟨u,rfl,r⟩
theorem RelO.none_of{o:Jl}(r:RelO none o):o=none:=by
 cases o with
 |none=>rfl
 |some u=>exact(show False from r).elim
theorem qS{v:V}{u:Jw}(r:RelV v u):W.handedIn u=true:=by
 cases v with
 |non=>cases(show u=Value.none from r);rfl
 |bl b=>cases(show u=Value.bool b from r);rfl
 |int i=>obtain⟨t,e⟩:=(show∃t,u=Value.int i t from r);cases e;rfl
 |str x=>obtain⟨t,e⟩:=(show∃t,u=Value.str x t from r);cases e;rfl
 |byt b=>obtain⟨t,e⟩:=(show∃t,u=Value.bytes b t from r);cases e;rfl
 |flt b=>obtain⟨t,e⟩:=(show∃t,u=Value.float b t from r);cases e;rfl
 |ref a=>cases(show u=Value.ref a from r);rfl
 |ty n=>cases(show u=Value.type n from r);rfl
section
variable{P:Jt}{w:Jx}{H H':Hp}{h h':JB}{a C dx:Jy}{fs fs':List (Str×V)}
theorem mj(hok:HOk P w H h)(e:H a=some (.ins C dx fs)):∃mA,ObjM h a dx C mA/\(∀f,RelO (fs.lookup f) (mA f))/\PySem.Within mA (fs.map (·.1))/\fs.length<=1000/\H dx=some (.own a):=by
 obtain⟨d,z,ne,ob,mA,n,r,q⟩:=(show ObjOk P w H h a (.ins C dx fs)from hok a _ e)
 exact⟨mA,⟨ob,n,ne⟩,r,q,z,d⟩
end
structure Cls(K:W.Frag)(C:Jy):Prop where
 pg:W.plainGet K C Str.empty=true
 hd:W.hasDictIn K C=true
 po:W.plainOver K C=true
 sa:W.findIn K (.ref C) "__setattr__" = some (some (.builtin "object.__setattr__"))
theorem Cls.get{K:W.Frag}{C:Jy}(c:Cls K C)(f:Str):W.plainGet K C f=true:=c.pg
def NoAttr(K:W.Frag)(C:Jy)(f:Str):Prop:=W.findIn K (.ref C) f=some none
theorem NoAttr.taker{K:W.Frag}{C:Jy}{f:Str}(n:NoAttr K C f):W.takerIn K C f=some none:=by unfold W.takerIn;rw[show W.findIn K (.ref C) f=some none from n];rfl
structure Con(K:W.Frag)(C:Jy)(f:Str)(v:V)(u:Jw):Prop where
 at_:W.findIn K (.ref C) f=some (some u)
 rel:RelV v u
 get:W.specialIn K u "__get__" = some none
 cp:W.copiedNames.contains f=false
structure Meth(K:W.Frag)(C:Jy)(m:Str)(f:Jy):Prop where
 at_:W.findIn K (.ref C) m=some (some (.ref f))
 fn:W.isFn K (.ref f)=true
 kp:W.keepIn K (.ref f)=true
section
variable{X:Cx}{JC:Jj}{σ:St}{H:Hp}{s:Ju}{a C dx:Jy}{fs:List (Str×V)}{f:Str}{v:V}{A:Jv}{E:Jh}
theorem wE{b:Bool}{Q:Jh}(I:Inv X JC σ H s)(e:H a=some (.ins C dx fs))(c:Cls X.K C)(n:NoAttr X.K C f)(l:fs.lookup f=some v)(h:∀u s',Inv X JC σ H s'->RelV v u->Q u s'):wpAny (model X.prog X.w) A (getAttr (.ref a) f b) Q E s:=by obtain⟨mA,O,r,_,_,_⟩:=mj I.hok e;obtain⟨u,hu,ru⟩:=RelO.some_of (v:=v) (o:=mA f) (by rw[<-l];exact r f);exact Cw I.kIn O (c.get f) c.hd n hu (qS ru) (h u _ (I.tok _) ru)
theorem kg{m:Str}{g:Jy}{pl:Sem Bool}{Q:Jw×Jn->Ju->Prop}(I:Inv X JC σ H s)(e:H a=some (.ins C dx fs))(c:Cls X.K C)(k:Meth X.K C m g)(l:fs.lookup m=none)(h:Q (.ref g,[.ref a]) s):wpAny (model X.prog X.w) A (getMethod (.ref a) m pl) Q E s:=by obtain⟨mA,O,r,_,_,_⟩:=mj I.hok e;have hn:mA m=none:=RelO.none_of (by rw[<-l];exact r m);exact Aw I.kIn O (c.get m) k.at_ k.fn hn h
theorem xw{y:V}{u:Jw}{Q:Unit->Ju->Prop}(I:Inv X JC σ H s)(e:H a=some (.ins C dx fs))(c:Cls X.K C)(n:NoAttr X.K C f)(hl:fs.length<1000)(ry:RelV y u)(h:∀s',Inv X JC σ (upd H a (.ins C dx (dQ f y fs))) s'->Q () s'):wpAny (model X.prog X.w) A (setAttr (.ref a) f u) Q E s:=by
 obtain⟨mA,O,r,wi,_,ho⟩:=mj I.hok e;have hz:(fs.map (·.1)).length<=sizeLine:=by rw[Ze,sizeLine_eq];omega
 refine Dw I.kIn O c.sa c.po n.taker c.hd wi hz λh' O' sb=>h _ ?_;have hd:∃o,h'.get? dx=some o:=let⟨o,_,_,e',_⟩:=O'.ns;⟨o,e'⟩
 refine I.write (x:=a) (e:=dx) (by rw[e];exact True.intro) (.inr ho) (λb q hb z=>(sb.2 b hb).trans z) hd ?_;refine⟨by rw[ad O.ne];exact ho,?_,O.ne,O'.obj,_,O'.ns,λg=>?_,λg hg=>?_⟩
 ·have:=mQ f y fs;omega
 ·show RelO ((dQ f y fs).lookup g) (if g=f then some u else mA g);rw[dq];by_cases q:g=f
  ·rw[Jg q,Jg q];exact ry
  ·rw[Jf q,Jf q];exact r g
 ·by_cases q:g=f
  ·rw[q];exact(lC f y fs).1
  ·refine(lC f y fs).2 g (wi g λz=>hg ?_);show(if g=f then some u else mA g)=none;rw[Jf q];exact z
theorem Inv.made(I:Inv X JC σ H s):Inv X JC σ (upd (upd H s.heap.objs.size (.own (s.heap.objs.size+1))) (s.heap.objs.size+1) (.ins C s.heap.objs.size []))
  { s with heap:=(s.heap.push W.emptyDict).push (W.instObj C s.heap.objs.size) }:=by
 have e1:(s.heap.push W.emptyDict).get? s.heap.objs.size=some W.emptyDict:=Zo s.heap rfl;have e2:((s.heap.push W.emptyDict).push (W.instObj C s.heap.objs.size)).get? (s.heap.objs.size+1)=some (W.instObj C s.heap.objs.size):=by
  have:=Zo (s.heap.push W.emptyDict) (o:=W.instObj C s.heap.objs.size) rfl
  rwa [Heap.size_push]at this
 have e3:(s.heap.push W.emptyDict).Ns s.heap.objs.size (λ_=>none):=⟨W.emptyDict,#[],_,e1,rfl,(λe he=>absurd he (by simp)),λ_=>rfl⟩
 have I1:=I.laid (a:=s.heap.objs.size) (o:=.own (s.heap.objs.size+1)) (h':=s.heap.push W.emptyDict) (t':=s.toks) (λb u q=>z9 _ q) (Za _) ⟨_,e1⟩;refine I1.laid (a:=s.heap.objs.size+1) (o:=.ins C s.heap.objs.size []) (t':=s.toks) (λb u q=>z9 _ q) (Nat.le_of_eq (Heap.size_push _ _)) ?_;have ne:s.heap.objs.size≠s.heap.objs.size+1:=Zy (Ye _);refine⟨by rw[ad ne,ac],ZM _,ne,e2,λ_=>none,(Heap.Ns1.of_empty e3).at λo q=>z9 _ q,λ_=>True.intro,λy hy=>absurd rfl hy⟩
theorem ux{prog:Jt}{w:Jx}{env:Env}{e:Jz}{f:Str}{pos:Pos}{s:Ju}{Q:Jh}(hb:attributeBase e f env (eval e env)=eval e env)(h:wpAny (model prog w) A (eval e env) (λo s₁=>wpAny (model prog w) A (getAttr o f true) Q E s₁) E s):wpAny (model prog w) A (eval (.Attribute e f pos) env) Q E s :=
 Attribute_any_ h (by rw[arm_eval_Attribute,hb])
end
def Bo(K:W.Frag)(ta:TE)(f:Str):TE:=λσ H Q=>ta σ H λx H1=>∃a C dx fs v,x=.ref a/\H1 a=some (.ins C dx fs)/\Cls K C/\NoAttr K C f/\fs.lookup f=some v/\Q v H1
def FF(K:W.Frag)(ta tv:TE)(f:Str):TS:=λD σ H=>tv σ H λy H1=>ta σ H1 λx H2=>∃a C dx fs,x=.ref a/\H2 a=some (.ins C dx fs)/\Cls K C/\NoAttr K C f/\fs.length<1000 /\
 D.nx σ (upd H2 a (.ins C dx (dQ f y fs)))
section
variable{X:Cx}{o e value:Jz}{f:Str}{pos pos' tpos:Pos}{ta tv:TE}
theorem E4(he:PE X e ta)(hb:attributeBase e f X.env (eval e X.env)=eval e X.env):PE X (.Attribute e f pos) (Bo X.K ta f):=by intro JC s σ H Q I h;refine ux hb (thn (he JC s σ H _ I h) λu s1 hz9=>?_);obtain⟨x,H1,I1,rx,a,C,dx,fs,v,ex,ea,c,n,l,q⟩:=hz9;subst ex;obtain rfl:u=Value.ref a:=rx;exact wE I1 ea c n l λu' s2 I2 ru=>⟨v,H1,I2,ru,q⟩
theorem Fi(ha:PE X o ta)(hv:PE X value tv)(hs:swapsWith value (some (.Attribute o f pos')) pos.line X.env=pure false):PS X (.Assign [.Attribute o f pos'] value pos) (FF X.K ta tv f):=by intro JC s σ H D I h;refine plainObj_wpAny_Assign_Attribute (thn (hv JC s σ H _ I h) λu s1 ⟨y,H1,I1,ry,q⟩=>thn (ha JC s1 σ H1 _ I1 q) λov s2 hz9=>?_) hs;obtain⟨x,H2,I2,rx,a,C,dx,fs,ex,ea,c,n,l,q2⟩:=hz9;subst ex;obtain rfl:ov=Value.ref a:=rx;exact xw I2 ea c n l ry λs3 I3=>⟨σ,_,I3,q2⟩
end
section
variable{X:Cx}{JC:Jj}{σ:St}{H:Hp}{s:Ju}{A:Jv}{E:Jh}{Q:Jh}{c:Jw}{b:Bool}
inductive TyOf(K:W.Frag)(H:Hp):V->Jw->Prop where
 |non:TyOf K H .non (.type "NoneType")
 |bl (x:Bool):TyOf K H (.bl x) (.type "bool")
 |int (i:Int):TyOf K H (.int i) (.type "int")
 |str (x:Str):TyOf K H (.str x) (.type "str")
 |flt (x:UInt64):TyOf K H (.flt x) (.type "float")
 |lst {a:Jy} {xs:List V} (e:H a=some (.lst xs)):TyOf K H (.ref a) (.type "list")
 |frz {a:Jy} {o:Obj} {xs:List V} (e:H a=some (.frz o (.lst xs))):TyOf K H (.ref a) (.type "list")
 |tup {a:Jy} {xs:List V} (e:H a=some (.tup xs)):TyOf K H (.ref a) (.type "tuple")
 |dK {a:Jy} {kvs:List (Key×V)} (e:H a=some (.dK kvs)):TyOf K H (.ref a) (.type "dict")
 |dT {a:Jy} {kvs:List (List Key×V)} (e:H a=some (.dT kvs)):TyOf K H (.ref a) (.type "dict")
 |ins {a C dx:Jy} {fs:List (Str×V)} (e:H a=some (.ins C dx fs)) (cl:Cls K C) (ha:W.findIn K (.ref C) "__class__" = some (some (.builtin "object.__class__")))
   (hn:W.specialIn K (.builtin "object.__class__") "__get__" = some (some (.builtin "getset_descriptor.__get__"))) (htk:W.takesIn K (.builtin "object.__class__")=some true)
   (hm:W.mroIn K C (.type "object")=some true):TyOf K H (.ref a) (.ref C)
theorem qU{x:V}{u t:Jw}(I:Inv X JC σ H s)(rx:RelV x u)(ty:TyOf X.K H x t)(e:W.kitOne X.K t c=some b)(h:∀tk,Q (.bool b) { s with toks:=tk }) :
  wpAny (model X.prog X.w) A (call (.builtin "isinstance") [u,c]) Q E s:=by
 cases ty with
 |non=>cases(show u=Value.none from rx);exact Z7 W.kitx_none I.kIn True.intro e nofun h
 |bl y=>cases(show u=Value.bool y from rx);exact Z7 W.kitx_bool I.kIn True.intro e nofun h
 |int i=>obtain⟨t,q⟩:=(show∃t,u=Value.int i t from rx);cases q;exact Z7 W.kitx_int I.kIn True.intro e nofun h
 |str y=>obtain⟨t,q⟩:=(show∃t,u=Value.str y t from rx);cases q;exact Z7 W.kitx_str I.kIn True.intro e nofun h
 |flt y=>obtain⟨t,q⟩:=(show∃t,u=Value.float y t from rx);cases q;exact Z7 W.kitx_float I.kIn True.intro e nofun h
 |@lst a xs ea =>
  cases(show u=Value.ref a from rx);obtain⟨_,_,n,_,h1⟩:=(show ObjOk X.prog X.w H s.heap a (.lst xs)from I.hok a _ ea)
  exact Z7 W.kitx_list I.kIn ⟨_,h1,rfl⟩ e nofun h
 |@frz a ob xs ea =>
  cases(show u=Value.ref a from rx);obtain⟨_,_,_,n,_,h1⟩:=(show ObjOk X.prog X.w H s.heap a (.frz ob (.lst xs))from I.hok a _ ea)
  exact Z7 W.kitx_list I.kIn ⟨_,h1,rfl⟩ e nofun h
 |@tup a xs ea =>
  cases(show u=Value.ref a from rx);obtain⟨_,_,_,p⟩:=(show ObjOk X.prog X.w H s.heap a (.tup xs)from I.hok a _ ea)
  obtain⟨o,h1,h2,_⟩:=p;exact Z7 W.kitx_tuple I.kIn ⟨o,h1,h2⟩ e nofun h
 |@dK a kvs ea =>
  cases(show u=Value.ref a from rx);obtain⟨_,_,vs,_,p⟩:=(show ObjOk X.prog X.w H s.heap a (.dK kvs)from I.hok a _ ea)
  obtain⟨o,es,ep,h1,h2,_⟩:=p;exact Z7 W.kitx_dict I.kIn ⟨o,h1,h2.1⟩ e nofun h
 |@dT a kvs ea =>
  cases(show u=Value.ref a from rx);obtain⟨_,_,xs,_,o,es,ep,h1,h2,_⟩:=(show ObjOk X.prog X.w H s.heap a (.dT kvs)from I.hok a _ ea)
  exact Z7 W.kitx_dict I.kIn ⟨o,h1,h2.1⟩ e nofun h
 |@ins a C dx fs ea cl ha hn htk hm =>cases(show u=Value.ref a from rx);obtain⟨mA,O,_⟩:=mj I.hok ea;obtain⟨od,J,_⟩:=O.look;exact Z7 (W.kitx_own (cl.get _) cl.hd ha hn htk hm) I.kIn J e nofun h
end
structure Room(k:Nat)(A:Jv):Prop where
 hd:A.handled=none
 dp:A.depth+3*k+5<recursionLimit
 un:A.units+16*k+200<cLine
theorem Room.mono{j k:Nat}{A:Jv}(r:Room k A)(h:j<=k):Room j A:=⟨r.hd,by have:=r.dp;omega,by have:=r.un;omega⟩
theorem Room.deeper{k:Nat}{A:Jv}(r:Room (k+1) A)(env:Env):Room k (A.deeper env) :=
 ⟨r.hd,by have:=r.dp;show A.depth+1+3*k+5<_;omega,by have:=r.un;show A.units+3+16*k+200<_;omega⟩
theorem Room.in1{k:Nat}{A:Jv}(r:Room (k+1) A):Room k A.in1 :=
 ⟨r.hd,by have:=r.dp;show A.depth+3*k+5<_;omega,by have:=r.un;show A.units+1+16*k+200<_;omega⟩
theorem wL{A:Jv}{C:Jy}{us:Jn}{kw:List (Str×Jw)}:(A.under (.builtin "type.__call__" ⟨.ref C::us,kw⟩)).depth=A.depth+1:=by
 first|rfl|simp[Around.under,Code.weight,Code.isCreation,Code.isGuard,Code.isCaller,Code.frames,Code.isFrame,guardIds]
theorem wM{A:Jv}{C:Jy}{us:Jn}{kw:List (Str×Jw)}:(A.under (.builtin "type.__call__" ⟨.ref C::us,kw⟩)).units=A.units+1:=by
 first|rfl|simp[Around.under,Code.cUnits,Code.frames,Code.isFrame]
theorem Room.make{k:Nat}{A:Jv}(r:Room (k+1) A)(C:Jy)(us:Jn)(kw:List (Str×Jw)):Room k (A.under (.builtin "type.__call__" ⟨.ref C::us,kw⟩)) :=
 ⟨r.hd,by have:=r.dp;rw[wL];omega,by have:=r.un;rw[wM];omega⟩
theorem Room.depth{k:Nat}{A:Jv}(r:Room k A):A.depth<recursionLimit:=by have:=r.dp;omega
theorem Room.units{k:Nat}{A:Jv}(r:Room k A):A.units+64<cLine:=by have:=r.un;omega
def iU:TA:=λ_ H Q=>Q [] H
def jk(ta:TE)(tr:TA):TA:=λσ H Q=>ta σ H λx H1=>tr σ H1 λxs H2=>Q (x::xs) H2
section
variable{X:Cx}{e:Jz}{es:List Jz}{te:TE}{t:TA}{pos:Pos}
theorem pj:PA X [] iU:=λ_ _ _ _ H Q I h=>Calls.spliced_nil ⟨[],H,I,.nil,h⟩
theorem CY(ha:PE X e te)(hr:PA X es t)(hs:starEach (e::es) X.env=(false,eval e X.env)::starEach es X.env:=by rfl):PA X (e::es) (jk te t):=by intro pos JC s σ H Q I h;rw[hs];show wpAny _ _ (spliced ((false,eval e X.env)::backTo pos (starEach es X.env))) _ _ s;refine Calls.spliced_cons (thn (ha JC s σ H _ I h) λu s1 hz9=>?_);obtain⟨x,H1,I1,r1,q1⟩:=hz9;exact thn (hr pos JC s1 σ H1 _ I1 q1) λus s2 ⟨xs,H2,I2,r2,q2⟩=>⟨x::xs,H2,I2,.cons r1 r2,q2⟩
def F7(t:TA):TE:=λσ H Q=>t σ H λxs H1=>xs.length<=sizeLine/\∀p,H1 p=none->Q (.ref p) (upd H1 p (.tup xs))
def FT(t:TA):TE:=λσ H Q=>t σ H λxs H1=>xs.length<=sizeLine/\∀p,H1 p=none->Q (.ref p) (upd H1 p (.lst xs))
theorem Fb{x1}(h:PA X es t):PE X (.Tuple es x1 pos) (F7 t):=by intro JC s σ H Q I hq;refine wpAny_Tuple_spliced (thn (h pos JC s σ H _ I hq) λus s1 ⟨xs,H1,I1,r,z,q⟩=>⟨by rw[<-r.length];exact z,?_⟩);have hf:H1 s1.heap.objs.size=none:=I1.hok.fresh (Za _);refine⟨.ref s1.heap.objs.size,upd H1 s1.heap.objs.size (.tup xs),I1.laid (t':=s1.toks) (λb u e=>z9 _ e) (Za _) ?_,rfl,q _ hf⟩;exact⟨z,us,r,⟨_,Zo _ rfl,rfl,_,rfl⟩⟩
theorem E6(h:PA X es t):PE X (.List es pos) (FT t):=by intro JC s σ H Q I hq;refine wpAny_List_spliced (thn (h pos JC s σ H _ I hq) λus s1 ⟨xs,H1,I1,r,z,q⟩=>⟨by rw[<-r.length];exact z,?_⟩);have hf:H1 s1.heap.objs.size=none:=I1.hok.fresh (Za _);refine⟨.ref s1.heap.objs.size,upd H1 s1.heap.objs.size (.lst xs),I1.laid (t':=s1.toks) (λb u e=>z9 _ e) (Za _) ?_,rfl,q _ hf⟩;exact⟨z,us,0,r,Zo _ rfl⟩
end
abbrev Sp:=List V->Hp->VK->XK->Prop
abbrev CXT:=List Env->Hp->Ju->XK->Jw->Ju->Prop
structure Env0(P:Jt)(w:Jx)(K:W.Frag)(mg:Ji)(base:JB)(A:Jv)(outer:List Env)(s:Ju)(H:Hp):Prop where
 frames:A.frames=some outer
 mod:Mod K mg base
 bs:∀b o,base.get? b=some o->s.heap.get? b=some o/\H b=none
 bsz:base.objs.size<=s.heap.objs.size
 funs:s.heap.FunFrames base outer
 frf:∀b∈frs outer,H b=none
 hok:HOk P w H s.heap
 bare:AllBare s.gens
def CE(outer:List Env)(P:Jt)(w:Jx)(H:Hp)(s:Ju)(Q:VK)(u:Jw)(s':Ju):Prop :=
 ∃v H',s'.os=s.os/\AllBare s'.gens/\Un (frs outer) [] H H' s.heap s'.heap/\HOk P w H' s'.heap/\RelV v u/\Q v H'
def CR(CX:CXT)(outer:List Env)(P:Jt)(w:Jx)(H:Hp)(s:Ju)(Q:VK)(E:XK)(r:Result)(s':Ju):Prop :=
 match r with
 |.ok (.ret u)=>CE outer P w H s Q u s'
 |.ok _=>False
 |.error e=>CX outer H s E e s'
structure FnOk(P:Jt)(w:Jx)(K:W.Frag)(mg:Ji)(base:JB)(CX:CXT)(k:Nat)(f:Jy)(fd:Jp)(ps:Jr)(sp:Sp):Prop where
 len:∀vs H Q E,sp vs H Q E->vs.length=ps.length
 run:∀(A:Jv) (outer:List Env) (s:Ju) (H:Hp) (args:Args) (us:Jn) (vs:List V) (Q:VK) (E:XK),Room k A->Env0 P w K mg base A outer s H->BindsTo s fd args (ps.zip us)->Vals vs us->sp vs H Q E ->
  codeAny (model P w) A (.call (.ref f) args) (CR CX outer P w H s Q E) s
theorem Env0.make{P:Jt}{w:Jx}{K:W.Frag}{mg:Ji}{base:JB}{A:Jv}{outer:List Env}{s:Ju}{H:Hp}(e:Env0 P w K mg base A outer s H)(C:Jy)(us:Jn)(kw:List (Str×Jw)) :
  Env0 P w K mg base (A.under (.builtin "type.__call__" ⟨.ref C::us,kw⟩)) outer s H:=⟨by first|exact e.frames|(simpa[Around.under,Code.envs,Code.isFrame,pushEnvs]using e.frames),e.mod,e.bs,e.bsz,e.funs,e.frf,e.hok,e.bare⟩
section
variable{X:Cx}{JC:Jj}{σ:St}{H:Hp}{s s':Ju}
theorem Inv.env0(I:Inv X JC σ H s):Env0 X.prog X.w X.K X.mg X.base X.A X.stack s H :=
 ⟨I.ok.frames,I.ok.mod,I.bs,Zr I.ok.bsz I.sz,I.stack,I.stkFree,I.hok,I.bare⟩
theorem Inv.after{Q:VK}{u:Jw}(I:Inv X JC σ H s)(h:CE X.stack X.prog X.w H s Q u s'):EP X JC σ Q u s':=by obtain⟨v,H',os,bare,un,hok,r,q⟩:=h;obtain⟨hh,g,d,t,os'⟩:=s';obtain rfl:os'=s.os:=os;exact⟨v,H',I.call (h':=hh) (g':=g) (d':=d) (t':=t) (ch:=[]) un hok bare (λb z=>absurd z (by simp)),r,q⟩
end
def rR(sp:Sp)(dvs:List V)(E:XK)(t:TA):TE:=λσ H Q=>t σ H λvs H1=>sp (vs++dvs) H1 Q E
inductive IsM(C:Jy)(m:Str)(x:V)(H:Hp)(R:Prop):Prop
 |mk (a dx:Jy) (fs:List (Str×V)) (h0:x=.ref a) (h1:H a=some (.ins C dx fs)) (h2:fs.lookup m=none) (q:R):IsM C m x H R
def pG(C:Jy)(m:Str)(sp:Sp)(dvs:List V)(E:XK)(ta:TE)(t:TA):TE:=λσ H Q=>ta σ H λx H1=>IsM C m x H1 (t σ H1 λvs H2=>sp (x::(vs++dvs)) H2 Q E)
def B1(C:Jy)(sp:Sp)(dvs:List V)(E:XK)(t:TA):TE:=λσ H Q=>t σ H λvs H1=>∀x dx,H1 x=none->H1 dx=none->dx≠x ->
 sp (.ref x::(vs++dvs)) (upd (upd H1 dx (.own x)) x (.ins C dx [])) (λv H2=>v=.non/\Q (.ref x) H2) E
def Binds(K:W.Frag)(fd:Jp)(ps:Jr)(ds:Jn):Prop :=
 ∀(s:Ju) (us:Jn),K.In s.heap->(us++ds).length=ps.length->BindsTo s fd ⟨us,[]⟩ (ps.zip (us++ds))
theorem Binds.all{K:W.Frag}{fd:Jp}{ps:Jr}(h:∀us:Jn,us.length=ps.length->bindArgs fd ⟨us,[]⟩=pure (ps.zip us)):Binds K fd ps []:=λs us _ hl=>by rw[ZR]at hl ⊢;exact .of_eq (h us hl)
def fN(CX:CXT)(X:Cx)(E:XK):Prop:=∀(JC:Jj) (σ:St) (H:Hp) (s:Ju) (e:Jw) (s':Ju),Inv X JC σ H s->CX X.stack H s E e s'->X.xe e s'
section
variable{X:Cx}{CX:CXT}{k:Nat}{f C:Jy}{fd:Jp}{ps:Jr}{sp:Sp}{dvs:List V}{ds:Jn}{E:XK}{x m:Str}{p pos apos:Pos}{e o:Jz}{es:List Jz}{ta:TE}{t:TA}
theorem tq{JC:Jj}{σ:St}{H:Hp}{s:Ju}{Q:VK}{us:Jn}{vs:List V}(F:FnOk X.prog X.w X.K X.mg X.base CX k f fd ps sp)(hr:Room k X.A)(hb:Binds X.K fd ps ds)(hd:Vals dvs ds)(hx:fN CX X E)(I:Inv X JC σ H s)(r:Vals vs us)(h:sp (vs++dvs) H Q E):wpAny (model X.prog X.w) X.A (call (.ref f) us) (EP X JC σ Q) X.xe s:=by
 have r2:Vals (vs++dvs) (us++ds):=r.append hd;have hl:(us++ds).length=ps.length:=by rw[<-r2.length];exact F.len _ _ _ _ h
 refine wpAny_call (codeAny_mono (F.run X.A X.stack s H ⟨us,[]⟩ (us++ds) (vs++dvs) Q E hr I.env0 (hb s us I.kIn hl) r2 h) λr s' hq=>?_);cases r with
 |error e=>exact hx JC σ H s e s' I hq
 |ok fl =>
  cases fl with
  |ret u=>exact I.after hq
  |next=>exact False.elim hq
  |brk=>exact False.elim hq
  |cont=>exact False.elim hq
theorem C2(F:FnOk X.prog X.w X.K X.mg X.base CX k f fd ps sp)(hr:Room k X.A)(hg:Gl X x)(hm:X.mg x=some (.ref f))(hk:W.keepIn X.K (.ref f)=true)(hb:Binds X.K fd ps ds)(hd:Vals dvs ds)(hx:fN CX X E)(ha:PA X (e::es) t)(hdb:(x==("__debug__":Str))=false:=by decide)(he:starEach (e::es) X.env=(false,eval e X.env)::starEach es X.env:=by rfl)(hpl:(backTo pos (starEach es X.env)).any (·.1)=false:=by rfl) :
  PE X (.Call (.Name x p) (e::es) [] pos) (rR sp dvs E t):=by
 intro JC s σ H Q I h;refine wpAny_Call_Name_kw (gB I hg hm ?_ hdb);refine W.callWith_K (h₀:=X.base) I.ok.mod.kin hk (thn (ha pos JC s σ H _ I h) λus s1 ⟨vs,H1,I1,r,q⟩=>⟨I1.kIn,?_⟩) he hpl;exact tq F hr hb hd hx I1 r q
theorem vn{pl:Sem Bool}(he:PE X o ta)(c:Cls X.K C)(hm:Meth X.K C m f)(F:FnOk X.prog X.w X.K X.mg X.base CX k f fd ps sp)(hr:Room k X.A)(hb:Binds X.K fd ps ds)(hd:Vals dvs ds)(hx:fN CX X E)(ha:PA X (e::es) t)(hst:starEach (e::es) X.env=(false,eval e X.env)::starEach es X.env:=by rfl)(hpl:(backTo pos (starEach es X.env)).any (·.1)=false:=by rfl)(ht:eval (.Call (.Attribute o m apos) (e::es) [] pos) X.env=(do
   let ov ←eval o X.env
   standAt apos.atName
   let(f,first) ←holding [ov] (getMethod ov m pl)
   callWith pos f first (backTo pos (starEach (e::es) X.env)) (backToKw pos (keywordEach [] X.env))):=by rfl) :
  PE X (.Call (.Attribute o m apos) (e::es) [] pos) (pG C m sp dvs E ta t):=by
 intro JC s σ H Q I h;refine W.methodCall_KW (pl:=pl) (thn (he JC s σ H _ I h) λu s1 hz9=>?_) ht;obtain⟨x,H1,I1,rx,a,dx,fs,ex,ea,l,q⟩:=hz9;subst ex;obtain rfl:u=Value.ref a:=rx;refine kg I1 ea c hm l ?_;refine W.callWith_K (first:=[.ref a]) (h₀:=X.base) I.ok.mod.kin hm.kp (thn (ha pos JC s1 σ H1 _ I1 q) λus s2 ⟨vs,H2,I2,r,q2⟩=>⟨I2.kIn,?_⟩) hst hpl;exact tq (us:=.ref a::us) (vs:=.ref a::vs) F hr hb hd hx I2 (.cons rfl r) q2
theorem A0{pl:Sem Bool}(he:PE X o ta)(c:Cls X.K C)(hm:Meth X.K C m f)(F:FnOk X.prog X.w X.K X.mg X.base CX k f fd ps sp)(hr:Room k X.A)(hb:Binds X.K fd ps ds)(hd:Vals dvs ds)(hx:fN CX X E)(ht:eval (.Call (.Attribute o m apos) [] [] pos) X.env=(do
   let ov ←eval o X.env
   standAt apos.atName
   let(f,first) ←holding [ov] (getMethod ov m pl)
   callWith pos f first (backTo pos (starEach [] X.env)) (backToKw pos (keywordEach [] X.env))):=by rfl) :
  PE X (.Call (.Attribute o m apos) [] [] pos) (pG C m sp dvs E ta iU):=by
 intro JC s σ H Q I h;refine W.methodCall_KW (pl:=pl) (thn (he JC s σ H _ I h) λu s1 hz9=>?_) ht;obtain⟨x,H1,I1,rx,a,dx,fs,ex,ea,l,q⟩:=hz9;subst ex;obtain rfl:u=Value.ref a:=rx;refine kg I1 ea c hm l ?_;exact W.callWith_K0 (first:=[.ref a]) I1.kIn hm.kp (tq (us:=[.ref a]) (vs:=[.ref a]) F hr hb hd hx I1 (.cons rfl .nil) q)
structure Mk(K:W.Frag)(C f:Jy):Prop where
 makes:W.makesIn K C=true
 init:W.findIn K (.ref C) "__init__" = some (some (.ref f))
 fn:W.isFn K (.ref f)=true
 kp:W.keepIn K (.ref C)=true
theorem Bj{JC:Jj}{σ:St}{H:Hp}{s:Ju}{Q:VK}{us:Jn}{vs:List V}(M:Mk X.K C f)(F:FnOk X.prog X.w X.K X.mg X.base CX k f fd ps sp)(hr:Room (k+1) X.A)(hb:Binds X.K fd ps ds)(hd:Vals dvs ds)(hx:fN CX X E)(I:Inv X JC σ H s)(r:Vals vs us)(h:∀x dx,H x=none->H dx=none->dx≠x->sp (.ref x::(vs++dvs)) (upd (upd H dx (.own x)) x (.ins C dx [])) (λv H2=>v=.non/\Q (.ref x) H2) E) :
  wpAny (model X.prog X.w) X.A (call (.ref C) us) (EP X JC σ Q) X.xe s:=by
 have hq:=h (s.heap.objs.size+1) s.heap.objs.size (I.hok.fresh (Nat.le_succ _)) (I.hok.fresh (Za _)) (Zy (Ye _));have I2:=Inv.made (C:=C) I;have r2:Vals (V.ref (s.heap.objs.size+1)::(vs++dvs)) (Value.ref (s.heap.objs.size+1)::(us++ds)):=.cons rfl (r.append hd);have hl:(Value.ref (s.heap.objs.size+1)::us++ds).length=ps.length:=by have e:=r2.length;rw[F.len _ _ _ _ hq]at e;exact e.symm
 refine wpAny_call (AI (f:=f) I.kIn M.makes M.init (ZO.mp M.fn) (codeAny_mono (F.run _ X.stack _ _ ⟨Value.ref (s.heap.objs.size+1)::us,[]⟩ (Value.ref (s.heap.objs.size+1)::(us++ds)) _ _ E (hr.make C us [])
  (I2.env0.make C us []) (hb _ (Value.ref (s.heap.objs.size+1)::us) I2.kIn hl) r2 hq) λr s' hq'=>?_))
 cases r with
 |error e=>exact hx JC σ _ _ e s' I2 hq'
 |ok fl =>
  cases fl with
  |ret u =>obtain⟨v,H',I3,rv,ev,q3⟩:=I2.after hq';subst ev;exact⟨rv,⟨V.ref (s.heap.objs.size+1),H',I3,rfl,q3⟩⟩
  |next=>exact False.elim hq'
  |brk=>exact False.elim hq'
  |cont=>exact False.elim hq'
theorem AZ(M:Mk X.K C f)(F:FnOk X.prog X.w X.K X.mg X.base CX k f fd ps sp)(hr:Room (k+1) X.A)(hg:Gl X x)(hm:X.mg x=some (.ref C))(hb:Binds X.K fd ps ds)(hd:Vals dvs ds)(hx:fN CX X E)(hdb:(x==("__debug__":Str))=false:=by decide):PE X (.Call (.Name x p) [] [] pos) (B1 C sp dvs E iU):=by intro JC s σ H Q I h;refine wpAny_Call_Name_kw (gB I hg hm ?_ hdb);exact W.callWith_K0 I.kIn M.kp (Bj (us:=[]) M F hr hb hd hx I .nil h)
end
def PK(X:Cx)(kws:List Keyword)(t:TA):Prop :=
 ∀(pos:Pos) (JC:Jj) (s:Ju) (σ:St) (H:Hp) (Q:List V->Hp->Prop),Inv X JC σ H s->t σ H Q->wpAny (model X.prog X.w) X.A (evalAll ((backToKw pos (keywordEach kws X.env)).map (·.2))) (AP X JC σ Q) X.xe s
section
variable{X:Cx}{CX:CXT}{k:Nat}{f C:Jy}{fd:Jp}{ps ks:Jr}{sp:Sp}{E:XK}{x m:Str}{p pos apos kpos:Pos}{e o:Jz}{es:List Jz}{kws:List Keyword}{te ta:TE}{t tk:TA}{nm:Option Str}
theorem Fh:PK X [] iU:=λ_ _ _ _ H Q I h=>wpAny_evalAll_nil ⟨[],H,I,.nil,h⟩
theorem Dc(ha:PE X e te)(hr:PK X kws t):PK X (⟨nm,e,kpos⟩::kws) (jk te t):=by intro pos JC s σ H Q I h;show wpAny _ _ (evalAll ((do let v ←eval e X.env;standAt pos;pure v)::(backToKw pos (keywordEach kws X.env)).map (·.2))) _ _ s;refine wpAny_evalAll_cons (z0 (thn (ha JC s σ H _ I h) λu s1 ⟨x,H1,I1,r1,q1⟩=>z0 (wpAny_standAt (z6 ?_))));exact thn (hr pos JC s1 σ H1 _ I1 q1) λus s2 ⟨xs,H2,I2,r2,q2⟩=>⟨x::xs,H2,I2,.cons r1 r2,q2⟩
structure KBinds(K:W.Frag)(fd:Jp)(ps ks:Jr)(g:Jn->Jn->Jn)(gV:List V->List V->List V):Prop where
 to:∀(s:Ju) (us ws:Jn),K.In s.heap->(g us ws).length=ps.length->BindsTo s fd ⟨us,ks.zip ws⟩ (ps.zip (g us ws))
 rel:∀{vs:List V} {us:Jn} {zs:List V} {ws:Jn},Vals vs us->Vals zs ws->Vals (gV vs zs) (g us ws)
variable{g:Jn->Jn->Jn}{gV:List V->List V->List V}
end
structure FnScope(N P:Jr)(sc:Scope):Prop where
 kind:sc.kind=.function
 co:sc.isCoroutine=false
 gen:sc.isGenerator=false
 nd:N.Nodup
 pre:N.take P.length=P
 par:∀x∈P,sc.names.lookup x=some .local\/sc.names.lookup x=some .cell
 nofree:∀y∈sc.names,y.2≠.free
theorem qI{kindOf:Str->Option NameKind}{x:Str}:∀{binds:List (Str×Jw)} {m:Ji},(∀v,(x,v)∉binds)->bindL kindOf binds m x=m x
 | [],_,_=>rfl
 |(n,v)::r,m,h=>by
  unfold bindL;rw[qI λw hw=>h w (Zf _ hw)];split
  ·have:x≠n:=by rintro rfl;exact h v Zl
   simp[this]
  ·rfl
theorem qG{kindOf:Str->Option NameKind}{x:Str}:∀{binds:List (Str×Jw)} {m:Ji},(∀v,(x,v)∉binds)->bindC kindOf binds m x=m x
 | [],_,_=>rfl
 |(n,v)::r,m,h=>by
  unfold bindC;rw[qG λw hw=>h w (Zf _ hw)];split
  ·rfl
  ·have:x≠n:=by rintro rfl;exact h v Zl
   simp[this]
theorem qH{kindOf:Str->Option NameKind}{x:Str}{v:Jw}:∀{P:Jr} {vs:Jn} {i:Nat} {m:Ji},P.Nodup->P[i]?=some x->vs[i]?=some v->kindOf x=some .local ->
  bindL kindOf (P.zip vs) m x=some v
 | [],_,_,_,_,h,_,_=>by simp at h
 |_::_,[],_,_,_,_,h,_=>by simp at h
 |p::P,w::vs,0,m,nd,h1,h2,hk=>by simp at h1 h2;subst h1;subst h2;show bindL kindOf ((p,w)::P.zip vs) m p=_;unfold bindL;rw[qI λv hv=>(ZG.mp nd).1 (List.of_mem_zip hv).1,Jg hk];simp
 |p::P,w::vs,i+1,m,nd,h1,h2,hk=>by show bindL kindOf ((p,w)::P.zip vs) m x=_;unfold bindL;exact qH (i:=i) (ZG.mp nd).2 (by simpa using h1) (by simpa using h2) hk
theorem qE{kindOf:Str->Option NameKind}{x:Str}{v:Jw}:∀{P:Jr} {vs:Jn} {i:Nat} {m:Ji},P.Nodup->P[i]?=some x->vs[i]?=some v->kindOf x≠some .local ->
  bindC kindOf (P.zip vs) m x=some v
 | [],_,_,_,_,h,_,_=>by simp at h
 |_::_,[],_,_,_,_,h,_=>by simp at h
 |p::P,w::vs,0,m,nd,h1,h2,hk=>by simp at h1 h2;subst h1;subst h2;show bindC kindOf ((p,w)::P.zip vs) m p=_;unfold bindC;rw[qG λv hv=>(ZG.mp nd).1 (List.of_mem_zip hv).1,Jf hk];simp
 |p::P,w::vs,i+1,m,nd,h1,h2,hk=>by show bindC kindOf ((p,w)::P.zip vs) m x=_;unfold bindC;exact qE (i:=i) (ZG.mp nd).2 (by simpa using h1) (by simpa using h2) hk
def start(N:Jr)(vs:List V):St:=vs.map some++List.replicate (N.length-vs.length) none
def fA(CX:CXT)(P:Jt)(w:Jx)(K:W.Frag)(mg:Ji)(base:JB)(N:Jr)(qual:Str)(scope:Scope)(f:Jy)(cd:Jw)(A:Jv)(outer:List Env)(s:Ju)(H:Hp)(E:XK):Cx where
 prog:=P
 w:=w
 K:=K
 mg:=mg
 base:=base
 A:=A.deeper (envOfC qual scope s.heap.objs.size f cd)
 N:=N
 s₀:=s
 H₀:=H
 env:=envOfC qual scope s.heap.objs.size f cd
 outer:=outer
 stack:=envOfC qual scope s.heap.objs.size f cd::outer
 ex:=[]
 calm:=true
 fn:=λ_=>true
 pn:=[]
 xe:=λe s'=>wpAny (model P w) (A.deeper (envOfC qual scope s.heap.objs.size f cd)) (leaving (envOfC qual scope s.heap.objs.size f cd) e) (λ_ s''=>CX outer H s E e s'') (λe' s''=>CX outer H s E e' s'') s'
theorem sv{sc:Scope}{n:Nat}{x:Str}(h:sc.names.lookup x=some .cell):∃c,(cellsFrom n sc.names []).lookup x=some c:=by have q:=W.cellsFrom_some sc.names n [] (.inl h);exact Zh.mp q
theorem yr{CX:CXT}{P:Jt}{w:Jx}{K:W.Frag}{mg:Ji}{base:JB}{N ps:Jr}{qual:Str}{scope:Scope}{f:Jy}{cd:Jw}{A:Jv}{outer:List Env}{s s1:Ju}{H:Hp}{E:XK}{us:Jn}{vs:List V}(S:FnScope N ps scope)(hd:A.handled=none)(e0:Env0 P w K mg base A outer s H)(hl:vs.length=ps.length)(r:Vals vs us)(x:InCallC s s.heap.objs.size (bindL (envOfC qual scope s.heap.objs.size f cd).kindOf (ps.zip us) λ_=>none) (cellsFrom (s.heap.objs.size+1) scope.names []) (bindC (envOfC qual scope s.heap.objs.size f cd).kindOf (ps.zip us) λ_=>none) s1) :
  Inv (fA CX P w K mg base N qual scope f cd A outer s H E) [] (start N vs) H s1:=by
 have hpl:ps.length<=N.length:=by have:=ZU List.length S.pre;rw[ZS]at this;omega
 obtain⟨h1,tk,rfl,hk⟩:=x.done;have noA:∀b:Jy,b∉(fA CX P w K mg base N qual scope f cd A outer s H E).ex:=λb z=>absurd (show b∈([]:List Jy)from z) (by simp);refine⟨⟨e0.mod,S.kind,rfl,rfl,Za _,λy z c h1 h2=>?_,λy hy=>?_,λy c _ h=>?_,λ_=>hd,Around.frames_deeper e0.frames,.inr ⟨rfl,rfl⟩,λb z=>absurd z (noA b),e0.bs,e0.bsz,λb _ _=>noA b,λb z=>absurd z (noA b),e0.funs,e0.frf⟩,
  rfl,e0.bare,Un.kept hk,⟨_,x.toInCall.ns,λi y v h1 h2 h3=>?_⟩,λy c h=>⟨_,x.cell y c h⟩,e0.hok.fresh (Za _),λy c h=>?_,λp hp=>absurd (show p∈([]:Jj) from hp) (by simp),e0.hok.kept hk,?_⟩
 ·exact name_of_addr x.apart (y0 h1) (y0 h2)
 ·have hy:scope.names.lookup y=some .cell\/scope.names.lookup y=some .free:=hy;rcases hy with hy|hy
  ·exact sv hy
  ·exact absurd rfl (S.nofree _ (y0 hy))
 ·exact Nat.le_of_lt (x.above y c (y0 h))
 ·have hi:i<vs.length:=by
   unfold start at h2;by_cases hi:i<vs.length
   ·exact hi
   ·rw[Z0 (by simpa using hi)]at h2;rw[List.getElem?_replicate]at h2;split at h2<;>cases h2
  have ha:vs[i]?=some v:=by
   unfold start at h2;rw[Yi (by simpa using hi),ZE]at h2;cases e:vs[i]? with
   |none=>rw[e]at h2;cases h2
   |some a=>rw[e]at h2;cases h2;rfl
  obtain⟨u,hu,rv⟩:=r.get ha;have hp:ps[i]?=some y:=by rw[<-S.pre,List.getElem?_take_of_lt (by omega)];exact h1
  have ndP:ps.Nodup:=by rw[<-S.pre];exact S.nd.sublist (List.take_sublist _ _)
  refine⟨u,rv,?_⟩;rcases S.par y (ZH hp)with k|k
  ·exact .inl ⟨k,qH ndP hp hu k⟩
  ·obtain⟨c,e⟩:=sv (n:=s.heap.objs.size+1) k;refine .inr ⟨.inl k,c,e,?_⟩;have q:=x.cell y c e;rw[qE ndP hp hu (by show scope.names.lookup y≠_;rw[k];decide)]at q;exact q
 ·exact e0.hok.fresh (Nat.le_of_lt (x.above y c (y0 h)))
 ·unfold start;show _=N.length;rw[Zn,Ze,List.length_replicate];omega
theorem wm{CX:CXT}{P:Jt}{w:Jx}{K:W.Frag}{mg:Ji}{base:JB}{k:Nat}{f:Jy}{name qual:Str}{params:Arguments}{body:List JA}{scope:Scope}{dV kV doc pm cdv ct oc:Jw}{an od:Option Jy}{osl:Array Jl}{N ps:Jr}{sp:Sp}(lk:K.lookup f=some ⟨oc,od,.func (W.fnOf name qual params body scope dV kV doc pm an cdv ct),osl⟩)(hcd:W.codeIn K cdv qual=true)(S:FnScope N ps scope)(len:∀ vs H Q E,sp vs H Q E->vs.length=ps.length)(hbody:∀ (A:Jv) (outer:List Env) (s:Ju) (H:Hp) (vs:List V) (Q:VK) (E:XK),Room k (A.deeper (envOfC qual scope s.heap.objs.size f cdv))->sp vs H Q E ->
   ∃ t,PSs (fA CX P w K mg base N qual scope f cdv A outer s H E) body t/\t { nx:=λ_ H'=>Q .non H',rt:=Q } (start N vs) H) :
  FnOk P w K mg base CX (k+1) f (W.fnOf name qual params body scope dV kV doc pm an cdv ct) ps sp:=by
 refine⟨len,λA outer s H args us vs Q E hr e0 hb r hsp=>?_⟩;have hl:=len _ _ _ _ hsp;have KX:K.In s.heap:=e0.mod.kin.keeps λb o e=>(e0.bs b o e).1;have lim:s.heap.NoLimit:=e0.mod.nolimit.keeps λb o e=>(e0.bs b o e).1;have hkind:∀y∈ps.zip us,scope.names.lookup y.1=some .local\/(scope.names.lookup y.1=some .cell/\((cellsFrom (s.heap.objs.size+1) scope.names []).lookup y.1).isSome=true):=fun⟨n,v⟩ hy=>by
  rcases S.par n (List.of_mem_zip hy).1 with q|q
  ·exact .inl q
  ·exact .inr ⟨q,W.cellsFrom_some _ _ _ (.inl q)⟩
 refine codeAny_call_function hr.depth (KX _ _ lk) rfl S.co S.gen rfl (W.codeRec_of KX hcd) (hb _ _ _ _ ?_);refine wpAny_newFunctionEnv_cells S.kind hkind λenv he s1 x=>?_;subst he;refine⟨lim.keeps x.toInCall.keep,codeAny_func ?_⟩;obtain⟨t,ht,hq⟩:=hbody A outer s H vs Q E (hr.deeper _) hsp;have I:Inv (fA CX P w K mg base N qual scope f cdv A outer s H E) [] (start N vs) H s1:=yr S hr.hd e0 hl r x;refine ZK (ht [] s1 (start N vs) H _ I hq) (λfl s' hs=>?_) λe s' hs=>hs;have fin:∀{σ':St} {H':Hp} {v:V} {u:Jw},Inv (fA CX P w K mg base N qual scope f cdv A outer s H E) [] σ' H' s'->RelV v u->Q v H'->CE outer P w H s Q u s' :=
  fun{σ' H' v u} J rv q=>⟨v,H',J.os,J.bare,J.base,J.hok,rv,q⟩
 cases fl with
 |ret u =>obtain⟨v,σ',H',J,rv,q⟩:=hs;exact fin J rv q
 |next =>obtain⟨σ',H',J,q⟩:=hs;exact fin (v:=V.non) (u:=Value.none) J rfl q
 |brk =>obtain⟨_,_,_,q⟩:=hs;exact False.elim q
 |cont =>obtain⟨_,_,_,q⟩:=hs;exact False.elim q
section
variable{X:Cx}{x:Str}{p pos:Pos}{e:Jz}{es:List Jz}{t:TA}{id T:String}{r:List V->Hp->VK->Prop}
def tCB(r:List V->Hp->VK->Prop)(t:TA):TE:=λσ H Q=>t σ H λvs H1=>r vs H1 Q
theorem AX(hc:fu X (.builtin id) r)(hg:Gl X x)(hm:X.mg x=none)(hv:bootBuiltins x=some (.builtin id))(ha:PA X (e::es) t)(hn:x≠"__name__":=by decide)(hdb:(x==("__debug__":Str))=false:=by decide)(he:starEach (e::es) X.env=(false,eval e X.env)::starEach es X.env:=by rfl)(hpl:(backTo pos (starEach es X.env)).any (·.1)=false:=by rfl):PE X (.Call (.Name x p) (e::es) [] pos) (tCB r t):=by intro JC s σ H Q I h;refine wpAny_Call_Name_kw (fT I hg hm hv ?_ hn hdb);exact PyProof.Rows.callWith_builtin1 (thn (ha pos JC s σ H _ I h) λus s1 ⟨vs,H1,I1,r1,q1⟩=>hc JC s1 σ H1 vs us Q I1 r1 q1) he hpl
theorem yZ(hc:fu X (.type T) r)(hg:Gl X x)(hm:X.mg x=none)(hv:bootBuiltins x=some (.type T))(ha:PA X (e::es) t)(hn:x≠"__name__":=by decide)(hdb:(x==("__debug__":Str))=false:=by decide)(he:starEach (e::es) X.env=(false,eval e X.env)::starEach es X.env:=by rfl)(hpl:(backTo pos (starEach es X.env)).any (·.1)=false:=by rfl):PE X (.Call (.Name x p) (e::es) [] pos) (tCB r t):=by intro JC s σ H Q I h;refine wpAny_Call_Name_kw (fT I hg hm hv ?_ hn hdb);exact y9 (thn (ha pos JC s σ H _ I h) λus s1 ⟨vs,H1,I1,r1,q1⟩=>hc JC s1 σ H1 vs us Q I1 r1 q1) he hpl
end
end L2
namespace HT
open PySem PyProof.Rows
def lexLt:Jq->Jq->Bool
 | [],[]=>false
 | [],_::_=>true
 |_::_,[]=>false
 |x::xs,y::ys=>if x=y then lexLt xs ys else decide (x<y)
theorem lexLt_cons(x y:Int)(xs ys:Jq):lexLt (x::xs) (y::ys)=if x=y then lexLt xs ys else decide (x<y):=rfl
theorem rn:lexLt [] []=false:=rfl
theorem lexLt_nil_cons(y:Int)(ys:Jq):lexLt [] (y::ys)=true:=rfl
theorem qd(x:Int)(xs:Jq):lexLt (x::xs) []=false:=rfl
theorem eqAt_int(A:Jv)(s:Ju)(a:Int)(t:Tok)(c:Int)(u:Tok):∃e,SeqAt.EqAt A s (.int a t) (.int c u) e/\(e=true↔a=c) :=
 ⟨(a==c),SeqAt.EqAt.int_int a t c u,by simp⟩
theorem Bg(A:Jv)(s:Ju)(a:Int)(t:Tok)(c:Int)(u:Tok)(prog:Jt)(w:Jx)(E:Jh)(Q:Jh)(h:Q (.bool (decide (a<c))) s) :
  wpAny (model prog w) A (richCompare .Lt (.int a t) (.int c u)) Q E s :=
 (PyProof.Rows.lt_int h:wpAny (model prog w) A (compareOp .Lt (.int a t) (.int c u)) Q E s)
section
open PySem.SeqAt
open PySem.AutoSeq1 (wpAny_loadPart')
open PySem.MeetsSeq PySem.MeetsSeq2 PySem.MeetsSeq3
theorem rG(l b:Jy)(items items2:Jm)(n n2:Nat)(dd dd2:Option Jy)(sl sl2:Array Jl)(ns ms:Jq)(hi:IntsAre items.toList ns)(hj:IntsAre items2.toList ms) :
  Meets (Builtin.«tuple.__lt__» ⟨[.ref l,.ref b],[]⟩)
   (λ_ R s=>s.heap.get? l=some { cls:=.type "tuple",dict:=dd,data:=.seq items n,slots:=sl }/\s.heap.get? b=some { cls:=.type "tuple",dict:=dd2,data:=.seq items2 n2,slots:=sl2 } /\
    R (.ok (.ret (.bool (lexLt ns ms)))) s) :=
 .of_wp λprog w A R s h=>by
  obtain⟨hp,g,d,tk,os⟩:=s;obtain⟨hl,hb,h⟩:=h;have f2:=AutoSeq1.sub_tuple_tuple;have z1:items.size=ns.length:=by rw[<-hi.length];simp
  have z2:items2.size=ms.length:=by rw[<-hj.length];simp
  wp_walk using wpAny_loadPart' hl,wpAny_loadPart' hb,Yt _ (λrest b s'=>b.1=none/\s'=⟨hp,g,d,tk,os⟩/\∃ (vs ws:Jn) (ns' ms':Jq),rest=vs.zip ws /\
   IntsAre vs ns'/\IntsAre ws ms'/\ns'.length+items2.size=ms'.length+items.size/\R (.ok (.ret (.bool (lexLt ns' ms')))) ⟨hp,g,d,tk,os⟩) _
  case turn =>
   rintro⟨y,x⟩ rest b s' ⟨hb',rfl,vs,ws,ns',ms',hz,hvi,hwi,hlen,hR⟩;cases hvi with
   |nil=>rw[List.zip_nil_left]at hz;cases hz
   |cons a t hvi' =>
    cases hwi with
    |nil=>rw[List.zip_nil_right]at hz;cases hz
    |cons c u hwi' =>
     rw[List.zip_cons_cons]at hz;injection hz with hyx hrest;injection hyx with hy hx;subst hy hx;rw[lexLt_cons]at hR;simp only[Zw]at hlen;obtain⟨e,he,hiff⟩:=eqAt_int A.in1 ⟨hp,g,d,tk,os⟩ a t c u;refine z0 (he prog w _ _ ?_);cases e with
     |true =>
      rw[Jg (hiff.mp rfl)]at hR
      wp_walk
      exact⟨rfl,rfl,_,_,_,_,hrest,hvi',hwi',by omega,hR⟩
     |false =>
      rw[Jf (λq=>absurd (hiff.mpr q) Zi)]at hR;have hri:=Bg A.in1 ⟨hp,g,d,tk,os⟩ a t c u prog w
      wp_walk using hri
      exact⟨_,rfl,by simpa using hR⟩
  case fin =>
   rintro⟨b1,b2⟩ s' ⟨hb',rfl,vs,ws,ns',ms',hz,hvi,hwi,hlen,hR⟩;simp only at hb';subst hb';have hv:lexLt ns' ms'=decide (items.size<items2.size):=by
    cases hvi with
    |nil =>
     cases hwi with
     |nil =>simp only[List.length_nil]at hlen;rw[rn];exact(decide_eq_false (by omega)).symm
     |cons c u hw =>simp only[List.length_nil,Zw]at hlen;rw[lexLt_nil_cons];exact(decide_eq_true (by omega)).symm
    |cons a t hv =>
     cases hwi with
     |nil =>simp only[List.length_nil,Zw]at hlen;rw[qd];exact(decide_eq_false (by omega)).symm
     |cons c u hw =>rw[List.zip_cons_cons]at hz;cases hz
   rw[hv]at hR
   wp_walk
   exact⟨_,rfl,by simpa[Builtin.Tuple.tupleCompareSizes]using hR⟩
  case h =>exact⟨rfl,rfl,items.toList,items2.toList,ns,ms,rfl,hi,hj,by omega,h⟩
end
section
variable{prog:Jt}{w:Jx}{A:Jv}{E:Jh}{s:Ju}
theorem lt_tupInts{l b:Jy}{items items2:Jm}{ns ms:Jq}{Q:Jh}(hl:IsTup s.heap l items)(hb:IsTup s.heap b items2)(hi:IntsAre items.toList ns)(hj:IntsAre items2.toList ms)(hu:A.units<cLine)(h:Q (.bool (lexLt ns ms)) s):wpAny (model prog w) A (compareOp .Lt (.ref l) (.ref b)) Q E s:=by
 obtain⟨⟨cls,dd,data,sl⟩,ho,hc,n,hd⟩:=id hl;obtain⟨⟨cls2,dd2,data2,sl2⟩,ho2,hc2,n2,hd2⟩:=id hb;simp only at hc hd hc2 hd2;subst hc hd hc2 hd2;exact richCompare_meets_room (op:=.Lt) ⟨_,ho,rfl⟩ ⟨_,ho2,rfl⟩ PySem.F.slot_tuple_lt PySem.F.entry_tuple_lt (PySem.F.args_tuple_lt_2 _ _) (rG l b items items2 n n2 dd dd2 sl sl2 ns ms hi hj)
  ⟨ho,ho2,show Value.bool (lexLt ns ms)≠Value.notImplemented/\Q (.bool (lexLt ns ms)) s from⟨(λx=>nomatch x),h⟩⟩ hu
theorem cat_tup{t b:Jy}{vs ws:Jn}{Q:Jh}(ht:IsTup s.heap t vs.toArray)(hb:IsTup s.heap b ws.toArray)(hv:vs≠[])(h1:ws=[]->Q (.ref t) s)(h2:ws≠[]->Q (.ref s.heap.objs.size) { s with heap:=s.heap.push { cls:=.type "tuple",data:=.seq (vs++ws).toArray } })(hsz:vs.length+ws.length<=sizeLine):wpAny (model prog w) A (binaryOp .Add (.ref t) (.ref b)) Q E s:=by
 obtain⟨⟨cls,dd,data,sl⟩,ho,hc,n,hd⟩:=id ht;obtain⟨⟨cls2,dd2,data2,sl2⟩,ho2,hc2,n2,hd2⟩:=id hb;simp only at hc hd hc2 hd2;subst hc hd hc2 hd2;have e:vs.toArray++ws.toArray=(vs++ws).toArray:=by simp
 by_cases hw:ws=[]
 ·exact concat_meets ⟨_,ho,rfl⟩ ⟨_,ho2,rfl⟩ noFill_tuple_add seq_tuple_add PySem.F.slot_tuple_add PySem.F.entry_tuple_add (PySem.F.args_tuple_add_2 _ _)
   (tuple_addW1 t b vs.toArray ws.toArray n n2 dd dd2 sl sl2 (by simpa using hv) (by simp[hw])) ⟨ho,ho2,h1 hw⟩
 ·refine concat_meets ⟨_,ho,rfl⟩ ⟨_,ho2,rfl⟩ noFill_tuple_add seq_tuple_add PySem.F.slot_tuple_add PySem.F.entry_tuple_add (PySem.F.args_tuple_add_2 _ _)
   (tuple_addW2 t b vs.toArray ws.toArray n n2 dd dd2 sl sl2 (by simpa using hv) (by simpa using hw) (by rw[Zg,Zg];exact hsz)) ⟨ho,ho2,?_⟩
  rw[e];exact h2 hw
def sIx(n d:Nat):Option Int->Nat
 |none=>d
 |some v=>if v<0 then(v+(n:Int)).toNat else min v.toNat n
theorem sIx_none(n d:Nat):sIx n d none=d:=rfl
theorem sIx_nat(n d k:Nat):sIx n d (some (k:Int))=min k n:=by show(if(k:Int)<0 then((k:Int)+(n:Int)).toNat else min (k:Int).toNat n)=min k n;rw[Jf (by omega),Int.toNat_natCast]
theorem FG(n d:Nat)(hd:d<=n)(o:Option Int):sIx n d o<=n:=by
 cases o with
 |none=>exact hd
 |some v =>
  show(if v<0 then(v+(n:Int)).toNat else min v.toNat n)<=n;by_cases hv:v<0
  ·rw[Jg hv];omega
  ·rw[Jf hv];exact Nat.min_le_right _ _
theorem uB(v:Int)(n d:Nat):(if v<0 then max (v+(n:Int)) 0 else min v (n:Int))=((sIx n d (some v):Nat):Int):=by
 show(if v<0 then max (v+(n:Int)) 0 else min v (n:Int))=(((if v<0 then(v+(n:Int)).toNat else min v.toNat n):Nat):Int);by_cases hv:v<0
 ·simp only[Jg hv];omega
 ·simp only[Jf hv];omega
theorem vQ(lo hi:Option Int)(n:Nat):Builtin.Slice.sliceAdjust lo hi 1 (n:Int)=(((sIx n 0 lo:Nat):Int),((sIx n n hi:Nat):Int)):=by
 have h1:¬((1:Int)<0):=by omega
 unfold Builtin.Slice.sliceAdjust;simp only[h1,if_false];refine Prod.ext ?_ ?_
 ·cases lo with
  |none=>rfl
  |some v=>exact uB v n 0
 ·cases hi with
  |none=>rfl
  |some v=>exact uB v n n
theorem xr(i j:Nat):Builtin.Slice.slicePlaces (i:Int) (j:Int) 1=j-i:=by
 unfold Builtin.Slice.slicePlaces;have h1:(1:Int)>0:=by omega
 simp only[h1,if_true,Int.ediv_one];split<;>omega
theorem pC{v:Jw}{o:Option Int}{Q:Option Int->Ju->Prop}(p:IsPart v o)(h:Q o s):wpAny (model prog w) A (Builtin.Slice.slicePartIndex v) Q E s:=by
 cases p with
 |none=>exact slicePart_none h
 |int i t=>exact slicePart_int h
theorem sliceApplied_gen{sl:Jy}{vl vu:Jw}{lo hi:Option Int}{n:Nat}{Q:Int×Int×Nat->Ju->Prop}(hs:s.heap.IsSliceOf sl vl vu .none)(pl:IsPart vl lo)(pu:IsPart vu hi)(h:Q (((sIx n 0 lo:Nat):Int),1,sIx n n hi-sIx n 0 lo) s):wpAny (model prog w) A (Builtin.Slice.sliceApplied (.ref sl) (pure (n:Int))) Q E s:=by obtain⟨os,hos,hcs,hds⟩:=id hs;unfold Builtin.Slice.sliceApplied Builtin.Slice.sliceFields;refine z0 (z0 (ZV hos hds (x:=vl) rfl (z0 (ZV hos hds (x:=vu) rfl (z0 (ZV hos hds (x:=.none) rfl (z6 ?_)))))));refine z0 (slicePart_none ?_);show wpAny _ _ (if((1:Int)==0)=true then _ else _) _ _ s;rw[Jf (by decide)];refine z0 (pC pl (z0 (pC pu (z0 (z6 ?_)))));show wpAny _ _ (match Builtin.Slice.sliceAdjust lo hi 1 (n:Int)with|(lo,hi)=>pure (lo,(1:Int),Builtin.Slice.slicePlaces lo hi 1)) _ _ s;rw[vQ lo hi n];show wpAny _ _ (pure (((sIx n 0 lo:Nat):Int),(1:Int),Builtin.Slice.slicePlaces ((sIx n 0 lo:Nat):Int) ((sIx n n hi:Nat):Int) 1)) _ _ s;rw[xr];exact z6 h
theorem A5(xs:Jm)(i k:Nat):((List.range k).filterMap fun(m:Nat)=>xs[((i:Int)+(m:Int)*1).toNat]?).toArray=((xs.toList.drop i).take k).toArray:=by
 have e:(fun(m:Nat)=>xs[((i:Int)+(m:Int)*1).toNat]?)=λm=>xs[i+m]?:=by
  funext m;have:((i:Int)+(m:Int)*1).toNat=i+m:=by omega
  rw[this]
 rw[e];have:=pick_run xs i k;rw[List.filterMap_map]at this;have e2:((λx=>xs[x]?)∘λx=>i+x)=λm=>xs[i+m]?:=rfl;rw[e2]at this;rw[this]
theorem getItem_tuple_cut{t sl:Jy}{items:Jm}{vl vu:Jw}{lo hi:Option Int}{Q:Jh}(ht:IsTup s.heap t items)(hs:s.heap.IsSliceOf sl vl vu .none)(pl:IsPart vl lo)(pu:IsPart vu hi)(hw:¬(sIx items.size 0 lo=0/\sIx items.size items.size hi=items.size))(h:Q (.ref s.heap.objs.size) { s with heap:=s.heap.push { cls:=.type "tuple",data:=.seq ((items.toList.drop (sIx items.size 0 lo)).take (sIx items.size items.size hi-sIx items.size 0 lo)).toArray } })(hsz:items.size<=sizeLine):wpAny (model prog w) A (getItem (.ref t) (.ref sl)) Q E s:=by
 have htake:sizeOk (.seq ((items.toList.drop (sIx items.size 0 lo)).take (sIx items.size items.size hi-sIx items.size 0 lo)).toArray):=by show((items.toList.drop (sIx items.size 0 lo)).take (sIx items.size items.size hi-sIx items.size 0 lo)).toArray.size<=sizeLine;rw[Zg,ZS,YI,Zx];omega
 have hj:sIx items.size items.size hi<=items.size:=FG _ _ (Za _) hi;obtain⟨os,hos,hcs,hds⟩:=id hs;have hTs:s.TypeIs (.ref sl) "slice":=⟨os,hos,hcs⟩
 unfold getItem
 try with_reducible refine Z1 ?_
 first|refine z0 (z6 ?_)|skip
 refine z0 (wpAny_sequenceKey ht.typeIs (by decide) ?_);refine z0 (ZW (name:=Str.ofString "__getitem__") ht.typeIs Z6
  (Z2 Z6 ht.typeIs entry_tuple_getitem ?_ (args_tuple_getitem _ _)))
 show wpAny _ _ (Builtin.Tuple.tupleItemsOf (.ref t) >>= _) _ _ s;refine z0 (tupleItemsOf_ ht ?_);refine z0 (wpAny_typeOf hTs ?_);rw[Jg (by decide)];refine z0 (sliceApplied_gen hs pl pu ?_);have hno:¬((((sIx items.size 0 lo:Nat):Int)==0&&(1:Int)==1&&(sIx items.size items.size hi-sIx items.size 0 lo)==items.size)=true):=by intro q;rw[ZD,ZD]at q;have q1:((sIx items.size 0 lo:Nat):Int)=0:=eq_of_beq q.1.1;have q2:sIx items.size items.size hi-sIx items.size 0 lo=items.size:=eq_of_beq q.2;exact hw ⟨by omega,by omega⟩
 show wpAny _ _ (if(((sIx items.size 0 lo:Nat):Int)==0&&(1:Int)==1&&(sIx items.size items.size hi-sIx items.size 0 lo)==items.size)=true then _ else _) _ _ s;rw[Jf hno,A5]
 first
  |exact z0 (m:=Builtin.Tuple.tupleExact _) (Z5 (z6 ⟨_,rfl,z6 h⟩) htake)
  |exact z0 (m:=Builtin.Tuple.tupleExact _) (Z5 (z0 (z6 (z6 ⟨_,rfl,z6 h⟩))) htake)
  |exact z0 (z0 (m:=Builtin.Tuple.tupleExact _) (Z5 (z6 (z6 ⟨_,rfl,z6 h⟩)) htake))
  |exact z0 (z0 (m:=Builtin.Tuple.tupleExact _) (Z5 (z6 ⟨_,rfl,z6 h⟩) htake))
end
end HT
namespace L2
open PySem PySem.Spec PyProof.Rows
abbrev TO:=St->Hp->(Option Int->Hp->Prop)->Prop
def PO(X:Cx)(e:Option Jz)(t:TO):Prop :=
 ∀(JC:Jj) (s:Ju) (σ:St) (H:Hp) (Q:Option Int->Hp->Prop),Inv X JC σ H s->t σ H Q ->
  wpAny (model X.prog X.w) X.A (evalPart e X.env) (λu s'=>∃o H',Inv X JC σ H' s'/\IsPart u o/\Q o H') X.xe s
def vC:TO:=λ_ H Q=>Q none H
inductive IsI(x:V)(R:Int->Prop):Prop
 |mk (i:Int) (h:x=.int i) (q:R i):IsI x R
def B3(t:TE):TO:=λσ H Q=>t σ H λx H1=>IsI x λi=>Q (some i) H1
theorem bZ{ns:Jq}:∀{us:Jn},Vals (ns.map V.int) us->IntsAre us ns:=by
 induction ns with
 |nil=>intro us r;rw[List.map_nil]at r;cases r;exact .nil
 |cons n ns ih =>
  intro us r;rw[Zk]at r;cases r with
  |cons r1 r2 =>obtain⟨t,e⟩:=r1;subst e;exact .cons n t (ih r2)
section
variable{X:Cx}{e:Jz}{te:TE}{lo hi:Option Jz}{tl th:TO}{pos p2:Pos}
theorem Dd:PO X none vC:=by intro JC s σ H Q I h;rw[evalPart_none];exact z6 ⟨none,H,I,.none,h⟩
theorem De(h:PE X e te):PO X (some e) (B3 te):=by intro JC s σ H Q I hw;rw[evalPart_some];refine thn (h JC s σ H _ I hw) λu s1 hz9=>?_;obtain⟨x,H1,I1,r1,q1⟩:=hz9;obtain⟨i,rfl,q⟩:=q1;obtain⟨t,rfl⟩:=r1;exact⟨some i,H1,I1,.int i t,q⟩
def SlR(X:Cx)(r:V->Option Int->Option Int->Hp->VK->Prop):Prop :=
 ∀(JC:Jj) (s:Ju) (σ:St) (H:Hp) (x:V) (v vl vu:Jw) (lo hi:Option Int) (sl:Jy) (Q:VK),Inv X JC σ H s->RelV x v->s.heap.IsSliceOf sl vl vu .none->IsPart vl lo->IsPart vu hi->r x lo hi H Q ->
  ∃T id,typeLookup (.type T) "__getitem__" = pure (some (.builtin id))/\s.TypeIs v T/\wpAny (model X.prog X.w) X.A (getItem v (.ref sl)) (EP X JC σ Q) X.xe s
def tSl(r:V->Option Int->Option Int->Hp->VK->Prop)(te:TE)(tl th:TO):TE:=λσ H Q=>te σ H λx H1=>tl σ H1 λl H2=>th σ H2 λu H3=>r x l u H3 Q
theorem A3{r:V->Option Int->Option Int->Hp->VK->Prop}(hr:SlR X r)(he:PE X e te)(hl:PO X lo tl)(hu:PO X hi th):PE X (.Subscript e (.Slice lo hi none p2) pos) (tSl r te tl th):=by intro JC s σ H Q I h;refine Subscript_ (thn (he JC s σ H _ I h) λv s1 hz9=>?_);obtain⟨x,H1,I1,r1,q1⟩:=hz9;refine wpAny_Slice (thn (hl JC s1 σ H1 _ I1 q1) λvl s2 ⟨l,H2,I2,pl,q2⟩=>thn (hu JC s2 σ H2 _ I2 q2) λvu s3 hz9=>?_);obtain⟨u,H3,I3,pu,q3⟩:=hz9;rw[evalPart_none];refine z6 ?_;have I4:Inv X JC σ H3 { s3 with heap:=s3.heap.push { cls:=.type "slice",data:=.fields #[vl,vu,.none] } }:=I3.kept (t':=s3.toks) λb ob q=>z9 _ q;obtain⟨T,id,hT,ht,hg⟩:=hr JC { s3 with heap:=s3.heap.push { cls:=.type "slice",data:=.fields #[vl,vu,.none] } } σ H3 x v vl vu l u s3.heap.objs.size Q I4 r1 (Heap.IsSliceOf.new ..) pl pu q3;show wpAny (model X.prog X.w) X.A (subscriptTail e (.Slice lo hi none p2) v (.ref s3.heap.objs.size)) (EP X JC σ Q) X.xe { s3 with heap:=s3.heap.push { cls:=.type "slice",data:=.fields #[vl,vu,.none] } };exact tail_any (ops:=[.ref s3.heap.objs.size,v]) ht hT hg (by with_unfolding_all rfl)
def cE(xs:List V)(lo hi:Option Int):List V:=(xs.drop (HT.sIx xs.length 0 lo)).take (HT.sIx xs.length xs.length hi-HT.sIx xs.length 0 lo)
theorem mL(xs:List V)(lo hi:Option Int):(cE xs lo hi).length<=xs.length:=by unfold cE;rw[ZS,YI];omega
inductive rSlT(K:W.Frag)(x:V)(lo:Option Int)(hi:Option Int)(H:Hp)(Q:VK):Prop
 |mk (a xs:_) (h0:x=.ref a) (h1:SqT K H a xs) (h2:¬(HT.sIx xs.length 0 lo=0/\HT.sIx xs.length xs.length hi=xs.length)) (h3:∀p,H p=none->Q (.ref p) (upd H p (.tup (cE xs lo hi)))):rSlT K x lo hi H Q
theorem FL:SlR X (rSlT X.K):=by
 intro JC s σ H x v vl vu lo hi sl Q I rx hs pl pu h;obtain⟨a,xs,rfl,hx,hw,q⟩:=h;cases rx;obtain⟨its,r,ht,hz⟩:=I.tuple hx;have hlen:its.toArray.size=xs.length:=by rw[Zg];exact r.length.symm
 refine⟨"tuple",_,Z6.lookup,ht.typeIs,?_⟩;refine HT.getItem_tuple_cut ht hs pl pu (by rw[hlen];exact hw) ?_ (by rw[hlen];exact hz);rw[hlen];refine⟨.ref s.heap.objs.size,_,I.laid (t':=s.toks) (o:=.tup (cE xs lo hi)) (λb ob q=>z9 _ q) (Za _) ?_,rfl,q _ (I.hok.fresh (Za _))⟩;exact⟨Zr (mL xs lo hi) hz,_,(r.drop (HT.sIx xs.length 0 lo)).take (HT.sIx xs.length xs.length hi-HT.sIx xs.length 0 lo),IsTup.new _ _⟩
def GX(K:W.Frag):R2:=λx y H Q=>∃a b xs ys,x=.ref a/\y=.ref b/\SqT K H a xs/\SqT K H b ys/\xs≠[]/\xs.length+ys.length<=sizeLine /\
 (ys=[]->Q (.ref a) H)/\(ys≠[]->∀p,H p=none->Q (.ref p) (upd H p (.tup (xs++ys))))
theorem Vals.nil_iff{xs:List V}{us:Jn}(r:Vals xs us):us=[]↔xs=[]:=by
 cases r with
 |nil=>simp
 |cons _ _=>simp
theorem CQ:OpR X (binaryOp .Add) (GX X.K):=by intro JC s σ H x y v u Q I rx ry h;obtain⟨a,b,xs,ys,rfl,rfl,ha,hb,hx,hz,q1,q2⟩:=h;cases rx;cases ry;obtain⟨its,r1,p1,_⟩:=I.tuple ha;obtain⟨its2,r2,p2,_⟩:=I.tuple hb;refine HT.cat_tup p1 p2 (λz=>hx (r1.nil_iff.mp z)) (λz=>⟨.ref a,H,I,rfl,q1 (r2.nil_iff.mp z)⟩) (λz=>?_) (by rw[<-r1.length,<-r2.length];exact hz);refine⟨.ref s.heap.objs.size,_,I.laid (t':=s.toks) (o:=.tup (xs++ys)) (λb ob q=>z9 _ q) (Za _) ?_,rfl,q2 (λw=>z (r2.nil_iff.mpr w)) _ (I.hok.fresh (Za _))⟩;exact⟨by rw[Zn];exact hz,_,r1.append r2,IsTup.new _ _⟩
end
def ixN(n:Nat)(i:Int):Option Nat:=if 0<=i then(if i<n then some i.toNat else none)else if -(n:Int)<=i then some (i+n).toNat else none
def atI{α:Type}(xs:List α)(i:Int):Option α:=(ixN xs.length i).bind λj=>xs[j]?
theorem CC{n:Nat}{i:Int}{j:Nat}(h:ixN n i=some j):seqIndex? i n=some j/\j<n/\-(n:Int)<=i/\i<n:=by
 unfold ixN at h;by_cases h0:0<=i
 ·rw[Jg h0]at h;by_cases h1:i<n
  ·rw[Jg h1]at h;have e:i.toNat=j:=Zb h;exact⟨by rw[seqIndex_of h0 h1,e],by omega,by omega,h1⟩
  ·rw[Jf h1]at h;cases h
 ·rw[Jf h0]at h;by_cases h1:-(n:Int)<=i
  ·rw[Jg h1]at h;have e:(i+n).toNat=j:=Zb h;exact⟨by rw[seqIndex_neg (by omega) h1,e],by omega,h1,by omega⟩
  ·rw[Jf h1]at h;cases h
theorem pO{α:Type}{xs:List α}{i:Int}{v:α}(h:atI xs i=some v):∃j,seqIndex? i xs.length=some j/\xs[j]?=some v/\j<xs.length/\-(xs.length:Int)<=i/\i<xs.length:=by
 unfold atI at h;cases e:ixN xs.length i with
 |none=>rw[e]at h;cases h
 |some j =>rw[e]at h;obtain⟨h1,h2,h3,h4⟩:=CC e;exact⟨j,h1,h,h2,h3,h4⟩
theorem de{α:Type}{xs:List α}{j:Nat}{v:α}(h:xs[j]?=some v):atI xs (j:Int)=some v:=by
 have hj:j<xs.length:=(ZB.mp h).1;have e:ixN xs.length (j:Int)=some j:=by unfold ixN;rw[Jg (by omega),Jg (by omega)];simp
 unfold atI;rw[e];exact h
theorem zY{α:Type}(xs:List α)(v:α):atI (xs++[v]) (-1)=some v:=by
 have hl:(xs++[v]).length=xs.length+1:=by simp
 have e:ixN (xs++[v]).length (-1)=some xs.length:=by unfold ixN;rw[hl,Jf (by decide),Jg (by omega)];congr 1;omega
 unfold atI;rw[e];show(xs++[v])[xs.length]?=some v;simp
def uq(b:Jz):Prop:=∀o i,subscripted b false o i=operate [o,i] (getItem o i)
def IxR(X:Cx)(r:R2):Prop :=
 ∀(value slice:Jz) (JC:Jj) (s:Ju) (σ:St) (H:Hp) (x y:V) (v u:Jw) (Q:VK),Inv X JC σ H s->RelV x v->RelV y u->r x y H Q ->
  subscripted slice false v u=operate [v,u] (getItem v u)->wpAny (model X.prog X.w) X.A (subscriptTail value slice v u) (EP X JC σ Q) X.xe s
def MtR(X:Cx)(id:String)(r:V->List V->Hp->VK->Prop):Prop :=
 ∀(JC:Jj) (s:Ju) (σ:St) (H:Hp) (x:V) (xs:List V) (v:Jw) (us:Jn) (Q:VK),Inv X JC σ H s->RelV x v->Vals xs us->r x xs H Q ->
  wpAny (model X.prog X.w) X.A (call (.builtin id) (v::us)) (EP X JC σ Q) X.xe s
section
variable{X:Cx}{a b:Jz}{ta tb:TE}{pos:Pos}
theorem GP{r:R2}(hr:IxR X r)(ha:PE X a ta)(hb:PE X b tb)(hs:uq b):PE X (.Subscript a b pos) (tOp r ta tb):=by intro JC s σ H Q I h;exact Subscript_ (zZ ha hb I h λv u s2 x y H2 I2 rx ry q=>hr a b JC s2 σ H2 x y v u Q I2 rx ry q (hs _ _))
inductive rIxL(K:W.Frag)(x:V)(y:V)(H:Hp)(Q:VK):Prop
 |mk (p xs i v:_) (h0:x=.ref p) (h1:y=.int i) (h2:SqL K H p xs) (h3:atI xs i=some v) (h4:Q v H):rIxL K x y H Q
inductive rIxT(K:W.Frag)(x:V)(y:V)(H:Hp)(Q:VK):Prop
 |mk (p xs i v:_) (h0:x=.ref p) (h1:y=.int i) (h2:SqT K H p xs) (h3:atI xs i=some v) (h4:Q v H):rIxT K x y H Q
def FA:R2:=λx y H Q=>∃z i c,x=.str z/\y=.int i/\z.length<=sizeLine/\atI z.cps.toList i=some c/\Q (.str ⟨#[c]⟩) H
theorem CD:IxR X (rIxL X.K):=by
 intro value slice JC s σ H x y v u Q I rx ry h hs;obtain⟨p,xs,i,z,rfl,rfl,hq,he,q⟩:=h;cases rx;obtain⟨t,rfl⟩:=ry;obtain⟨its,r,pl,hz⟩:=I.list hq;obtain⟨j,h1,h2,h3,h4,h5⟩:=pO he;obtain⟨w,ew,rw'⟩:=r.get h2;have hl:=r.length;have hn:=oN;have fin:EP X JC σ Q w s:=⟨z,H,I,rw',q⟩
 by_cases h0:0<=i
 ·have hj:i.toNat=j:=by rw[seqIndex_of h0 h5]at h1;exact Zb h1
  exact item_listR pl.isList h0 (by omega) (by rw[hj];simpa using ew) fin hs
 ·have hj:(i+(its.toArray.size:Int)).toNat=j:=by rw[seqIndex_neg (by omega) h4]at h1;rw[Zg,<-hl];exact Zb h1
  exact subscriptTail_builtinR (x:=w) pl.isList.typeIs slot_list_getitem.lookup
   (wpAny_getItem_list_neg (Q:=λr s'=>r=w/\EP X JC σ Q r s') pl.isList (by omega) (by rw[Zg]<;>omega) (by omega) (by rw[hj];simpa using ew) ⟨rfl,fin⟩) hs
theorem Eo:IxR X (rIxT X.K):=by
 intro value slice JC s σ H x y v u Q I rx ry h hs;obtain⟨p,xs,i,z,rfl,rfl,hq,he,q⟩:=h;cases rx;obtain⟨t,rfl⟩:=ry;obtain⟨its,r,pl,hz⟩:=I.tuple hq;obtain⟨j,h1,h2,h3,h4,h5⟩:=pO he;obtain⟨w,ew,rw'⟩:=r.get h2;have hl:=r.length;have hn:=oN;have fin:EP X JC σ Q w s:=⟨z,H,I,rw',q⟩
 exact subscriptTail_builtinR (x:=w) pl.typeIs slot_tuple_getitem.lookup
  (getItem_tuple (j:=j) (Q:=λr s'=>r=w/\EP X JC σ Q r s') pl (by omega) (by omega) (by rw[Zg,<-hl];exact h1) (by simpa using ew) ⟨rfl,fin⟩) hs
theorem En:IxR X FA:=by
 intro value slice JC s σ H x y v u Q I rx ry h hs;obtain⟨z,i,c,rfl,rfl,hz,he,q⟩:=h;obtain⟨t,rfl⟩:=rx;obtain⟨t',rfl⟩:=ry;obtain⟨j,h1,h2,h3,h4,h5⟩:=pO he;have hl:z.cps.toList.length=z.length:=by simp[Str.length]
 rw[hl]at h1 h4 h5;have hn:=oN;exact tail_any (typeIs_str s z t) slot_str_getitem.lookup (getItem_str (c:=c) (by
  have e1:decide (i < -(2^63:Int))=false:=decide_eq_false (by omega);have e2:decide (i>=2^63)=false:=decide_eq_false (by omega);rw[e1,e2,Bool.or_false]) (by rw[h1];simpa using h2) ⟨.str ⟨#[c]⟩,H,I.tok _,⟨_,rfl⟩,q⟩) hs
theorem tL(lo hi:Option Int)(n:Nat):(sliceBounds lo hi none n).1=((HT.sIx n 0 lo:Nat):Int)/\(sliceBounds lo hi none n).2.1=((HT.sIx n n hi:Nat):Int)/\(sliceBounds lo hi none n).2.2=1:=by
 refine⟨?_,?_,rfl⟩
 ·cases lo with
  |none=>simp[sliceBounds,HT.sIx]
  |some i =>
   simp only[sliceBounds,HT.sIx,Option.getD_none,show(1:Int)>0 by decide,if_true];by_cases h:i<0
   ·simp only[h,if_true]<;>omega
   ·simp only[h,if_false]<;>omega
 ·cases hi with
  |none=>simp[sliceBounds,HT.sIx]
  |some i =>
   simp only[sliceBounds,HT.sIx,Option.getD_none,show(1:Int)>0 by decide,if_true];by_cases h:i<0
   ·simp only[h,if_true]<;>omega
   ·simp only[h,if_false]<;>omega
theorem rF(its:Jn)(lo hi:Option Int):slicePick its.toArray lo hi none=((its.drop (HT.sIx its.length 0 lo)).take (HT.sIx its.length its.length hi-HT.sIx its.length 0 lo)).toArray:=by obtain⟨h1,h2,h3⟩:=tL lo hi its.toArray.size;unfold slicePick;rw[h1,h2,h3];simp only[sliceRange_one,pick_run,Zg]<;>rfl
inductive rSlL(K:W.Frag)(x:V)(lo:Option Int)(hi:Option Int)(H:Hp)(Q:VK):Prop
 |mk (a xs:_) (h0:x=.ref a) (h1:SqL K H a xs) (h2:∀p,H p=none->Q (.ref p) (upd H p (.lst (cE xs lo hi)))):rSlL K x lo hi H Q
theorem Dx:SlR X (rSlL X.K):=by intro JC s σ H x v vl vu lo hi sl Q I rx hs pl pu h;obtain⟨a,xs,rfl,hx,q⟩:=h;cases rx;obtain⟨its,r,ht,hz⟩:=I.list hx;have hlen:=r.length;refine⟨"list",_,slot_list_getitem.lookup,ht.isList.typeIs,?_⟩;refine wpAny_getItem_list_slice ht.isList hs pl pu .none (by simp) ?_ (by rw[Zg]<;>omega);rw[rF,<-hlen];refine⟨.ref s.heap.objs.size,_,I.laid (t':=s.toks) (o:=.lst (cE xs lo hi)) (λb ob q=>z9 _ q) (Za _) ?_,rfl,q _ (I.hok.fresh (Za _))⟩;exact⟨Zr (mL xs lo hi) hz,_,0,(r.drop (HT.sIx xs.length 0 lo)).take (HT.sIx xs.length xs.length hi-HT.sIx xs.length 0 lo),Zo _ rfl⟩
def iW:V->Bool
 |.non=>true
 |.bl _=>true
 |.int _=>true
 |.str _=>true
 |_=>false
def eqV:V->V->Bool
 |.non,.non=>true
 |.bl a,.bl b=>a==b
 |.bl a,.int b=>(if a then 1 else 0)==b
 |.int a,.bl b=>a==(if b then 1 else 0)
 |.int a,.int b=>a==b
 |.str a,.str b=>a==b
 |_,_=>false
theorem Ec{A:Jv}{s:Ju}{y x:V}{u v:Jw}(ry:RelV y u)(rx:RelV x v)(fy:iW y=true)(fx:iW x=true):SeqAt.EqAt A s u v (eqV y x):=by
 cases y with
 |non =>
  cases ry;cases x with
  |non=>cases rx;exact SeqAt.EqAt.same _
  |bl b=>cases rx;exact SeqAt.EqAt.none_bool b
  |int b=>obtain⟨t,rfl⟩:=rx;exact SeqAt.EqAt.none_int b t
  |str b=>obtain⟨t,rfl⟩:=rx;exact SeqAt.EqAt.none_str b t
  |_=>exact absurd (show false=true from fx) Zi
 |bl a =>
  cases ry;cases x with
  |non=>cases rx;exact SeqAt.EqAt.bool_none a
  |bl b=>cases rx;exact SeqAt.EqAt.bool_bool a b
  |int b=>obtain⟨t,rfl⟩:=rx;exact SeqAt.EqAt.bool_int a b t
  |str b=>obtain⟨t,rfl⟩:=rx;exact SeqAt.EqAt.bool_str a b t
  |_=>exact absurd (show false=true from fx) Zi
 |int a =>
  obtain⟨t',rfl⟩:=ry;cases x with
  |non=>cases rx;exact SeqAt.EqAt.int_none a t'
  |bl b=>cases rx;exact SeqAt.EqAt.int_bool a t' b
  |int b=>obtain⟨t,rfl⟩:=rx;exact SeqAt.EqAt.int_int a t' b t
  |str b=>obtain⟨t,rfl⟩:=rx;exact SeqAt.EqAt.int_str a t' b t
  |_=>exact absurd (show false=true from fx) Zi
 |str a =>
  obtain⟨t',rfl⟩:=ry;cases x with
  |non=>cases rx;exact SeqAt.EqAt.str_none a t'
  |bl b=>cases rx;exact SeqAt.EqAt.str_bool a t' b
  |int b=>obtain⟨t,rfl⟩:=rx;exact SeqAt.EqAt.str_int a t' b t
  |str b=>obtain⟨t,rfl⟩:=rx;exact SeqAt.EqAt.str_str a t' b t
  |_=>exact absurd (show false=true from fx) Zi
 |_=>exact absurd (show false=true from fy) Zi
def eqU(x:V)(u:Jw):Bool:=match u with
 |.none=>eqV .non x
 |.bool b=>eqV (.bl b) x
 |.int i _=>eqV (.int i) x
 |.str z _=>eqV (.str z) x
 |_=>false
theorem ye{x y:V}{u:Jw}(r:RelV y u)(f:iW y=true):eqU x u=eqV y x:=by
 cases y with
 |non=>cases r;rfl
 |bl b=>cases r;rfl
 |int i=>obtain⟨t,rfl⟩:=r;rfl
 |str z=>obtain⟨t,rfl⟩:=r;rfl
 |_=>exact absurd (show false=true from f) Zi
theorem pN{x:V}:∀{xs:List V} {us:Jn},Vals xs us->xs.all iW=true->us.any (eqU x)=xs.any λy=>eqV y x
 |_,_,.nil,_=>rfl
 |y::xs,u::us,.cons r t,f=>by rw[YF,ZD]at f;rw[List.any_cons,List.any_cons,ye r f.1,pN t f.2]
theorem nE{A:Jv}{s:Ju}{x:V}{v:Jw}(rx:RelV x v)(fx:iW x=true):∀{xs:List V} {us:Jn},Vals xs us->xs.all iW=true->∀u∈us,SeqAt.EqAt A s u v (eqU x u)
 |_,_,.nil,_=>λu hu=>by cases hu
 |y::xs,u::us,.cons r t,f=>λu' hu=>by
  rw[YF,ZD]at f;rcases Zj.mp hu with rfl|hu
  ·rw[ye r f.1];exact Ec r rx f.1 fx
  ·exact nE rx fx t f.2 u' hu
def inV(x:V)(xs:List V):Bool:=xs.any λy=>eqV y x
def rIn(K:W.Frag)(neg:Bool):R2:=λx y H Q=>∃p xs,y=.ref p/\(SqL K H p xs\/SqT K H p xs)/\iW x=true/\xs.all iW=true/\Q (.bl (if neg then !inV x xs else inV x xs)) H
theorem yU:OpR X (compareOp .In) (rIn X.K false):=by
 intro JC s σ H x y v u Q I rx ry h;obtain⟨p,xs,rfl,hq,fx,fs,q⟩:=h;cases ry;rcases hq with hq|hq
 ·obtain⟨its,r,pl,hz⟩:=I.list hq;refine SeqAt.in_listAt (eqU x) pl.isList (λw hw=>nE rx fx r fs w (by simpa using hw)) ⟨.bl _,H,I,rfl,?_⟩;rw[show its.toArray.any (eqU x)=its.any (eqU x) by simp,pN r fs];exact q
 ·obtain⟨its,r,pl,hz⟩:=I.tuple hq;refine SeqAt.in_tupleAt (eqU x) pl (λw hw=>nE rx fx r fs w (by simpa using hw)) ⟨.bl _,H,I,rfl,?_⟩;rw[show its.toArray.any (eqU x)=its.any (eqU x) by simp,pN r fs];exact q
theorem sj:fu X (.builtin "len") (λxs H Q=>∃p ys,xs=[.ref p]/\(SqL X.K H p ys\/SqT X.K H p ys)/\Q (.int ys.length) H):=by
 intro JC s σ H xs us Q I r h;obtain⟨p,ys,rfl,hq,q⟩:=h;obtain⟨u,rfl,rx⟩:=fz r;cases rx;have hn:=oN;rcases hq with hq|hq
 ·obtain⟨its,r',pl,hz⟩:=I.list hq;have hlen:=r'.length;exact Calls.call_len_list pl.isList (by simp only[Zg]<;>omega) ⟨.int ys.length,H,I.tok _,⟨s.toks+1,by rw[Zg,hlen]⟩,q⟩
 ·obtain⟨its,r',pl,hz⟩:=I.tuple hq;have hlen:=r'.length;exact len_tuple pl (by simp only[Zg]<;>omega) ⟨.int ys.length,H,I.tok _,⟨s.toks+1,by rw[Zg,hlen]⟩,q⟩
theorem sq:fu X (.type "list") (λxs H Q=>∃p ys,xs=[.ref p]/\(SqL X.K H p ys\/SqT X.K H p ys)/\∀l,H l=none->Q (.ref l) (upd H l (.lst ys))):=by
 intro JC s σ H xs us Q I r h;obtain⟨p,ys,rfl,hq,q⟩:=h;obtain⟨u,rfl,rx⟩:=fz r;cases rx;have fin:∀(its:Jn),Vals ys its->ys.length<=sizeLine->∀(h':JB) (c':Nat),(∀b o',s.heap.get? b=some o'->h'.get? b=some o') ->
   h'.get? s.heap.objs.size=some { cls:=.type "list",dict:=none,data:=.seq its.toArray c',slots:=#[] }->EP X JC σ Q (.ref s.heap.objs.size) { s with heap:=h' }:=λits r' hz h' c' kp e =>
  ⟨.ref s.heap.objs.size,_,I.laid (t':=s.toks) kp (Za _) (show ObjOk X.prog X.w _ h' _ (.lst ys)from⟨hz,its,c',r',e⟩),rfl,q _ (I.hok.fresh (Za _))⟩
 rcases hq with hq|hq
 ·obtain⟨its,r',pl,hz⟩:=I.list hq;have hlen:=r'.length;obtain⟨o,ho,hc,n,hd⟩:=pl.isList;exact call_list_seq p (.inl rfl) ho hc hd (λh' c' kp e=>fin its r' hz h' c' kp e) (by simp only[Zg]<;>omega)
 ·obtain⟨its,r',pl,hz⟩:=I.tuple hq;have hlen:=r'.length;obtain⟨o,ho,hc,n,hd⟩:=pl;exact call_list_seq p (.inr rfl) ho hc hd (λh' c' kp e=>fin its r' hz h' c' kp e) (by simp only[Zg]<;>omega)
def tyV(K:W.Frag)(T:String)(x:V)(H:Hp):Prop:=match x with
 |.str _=>T="str"
 |.int _=>T="int"
 |.ref p=>(T="list"/\∃xs,SqL K H p xs)\/(T="tuple"/\∃o,K.lookup p=some o/\o.cls=.type "tuple"/\o.dict=none) \/
   (T="dict"/\((∃kvs,H p=some (.dK kvs))\/∃kvs,H p=some (.dT kvs)))\/(T="set"/\∃S n,H p=some (.set S n))
 |_=>False
theorem zO{JC:Jj}{σ:St}{H:Hp}{s:Ju}{T:String}{x:V}{v:Jw}(I:Inv X JC σ H s)(r:RelV x v)(ty:tyV X.K T x H) :
  s.TypeIs v T/\∀a,v=.ref a->∃ob,s.heap.get? a=some ob/\ob.dict=none:=by
 cases x with
 |str z =>obtain⟨t,rfl⟩:=r;cases(show T="str" from ty);exact⟨typeIs_str s z t,λ_ e=>nomatch e⟩
 |int i =>obtain⟨t,rfl⟩:=r;cases(show T="int" from ty);exact⟨typeIs_int s i t,λ_ e=>nomatch e⟩
 |ref p =>
  cases r;rcases ty with⟨rfl,xs,hq⟩|⟨rfl,o,hk,hc,hd⟩|⟨rfl,hk⟩|⟨rfl,S,n,hk⟩
  ·obtain⟨its,_,pl,_⟩:=I.list hq;refine⟨pl.isList.typeIs,λa e=>?_⟩;cases e;obtain⟨o,n,e,c,hd,_⟩:=pl;exact⟨o,e,hd⟩
  ·refine⟨⟨o,I.kIn p o hk,hc⟩,λa e=>?_⟩;cases e;exact⟨o,I.kIn _ o hk,hd⟩
  ·have z:∃o,s.heap.get? p=some o/\o.ExactDict:=by
    rcases hk with⟨kvs,hk⟩|⟨kvs,hk⟩
    ·obtain⟨_,_,_,_,o,_,_,e,ex,_⟩:=I.hok p _ hk;exact⟨o,e,ex⟩
    ·obtain⟨_,_,_,_,o,_,_,e,ex,_⟩:=I.hok p _ hk;exact⟨o,e,ex⟩
   obtain⟨o,e,ex⟩:=z;refine⟨⟨o,e,ex.1⟩,λa e2=>?_⟩;cases e2;exact⟨o,e,ex.2.1⟩
  ·obtain⟨o,_,_,_,e,ex,_⟩:=I.hok p _ hk;refine⟨⟨o,e,ex.1⟩,λa e2=>?_⟩;cases e2;exact⟨o,e,ex.2.1⟩
 |_=>exact False.elim ty
def FP(K:W.Frag)(T:String)(r:V->List V->Hp->VK->Prop)(to:TE):TE:=λσ H Q=>to σ H λx H1=>tyV K T x H1/\r x [] H1 Q
def tBM(K:W.Frag)(T:String)(r:V->List V->Hp->VK->Prop)(to:TE)(t:TA):TE:=λσ H Q=>to σ H λx H1=>tyV K T x H1/\t σ H1 λxs H2=>r x xs H2 Q
variable{o e:Jz}{es:List Jz}{to:TE}{t:TA}{name:Str}{apos cpos:Pos}{T id:String}{r:V->List V->Hp->VK->Prop}
theorem E3(pa:PlainAttrs T)(slot:Slot T name id)(hty:typeOf (.builtin id)=pure (.type "method_descriptor"))(hm:MtR X id r)(ho:PE X o to)(hbase:attributeBase o name X.env (eval o X.env)=eval o X.env:=by rfl)(hline:(apos.endLine==cpos.line)=true:=by rfl):PE X (.Call (.Attribute o name apos) [] [] cpos) (FP X.K T r to):=by intro JC s σ H Q I h;refine wpAny_Call_method0_late hbase hline (thn (ho JC s σ H _ I h) λv s1 hz9=>?_);obtain⟨x,H1,I1,r1,ty,q1⟩:=hz9;obtain⟨h1,h2⟩:=zO I1 r1 ty;exact⟨T,id,pa,slot,hty,h1,h2,Calls.callWith_builtin rfl (PySem.evalArgs_none (hm JC s1 σ H1 x [] v [] Q I1 r1 .nil q1))⟩
theorem xp(pa:PlainAttrs T)(slot:Slot T name id)(hty:typeOf (.builtin id)=pure (.type "method_descriptor"))(hm:MtR X id r)(ho:PE X o to)(ha:PA X (e::es) t)(hbase:attributeBase o name X.env (eval o X.env)=eval o X.env:=by rfl)(hfew:((backTo cpos (starEach (e::es) X.env)).all (λx=>!x.1)&&(backToKw cpos (keywordEach [] X.env)).all (λx=>x.1.isSome)
  &&decide ((e::es).length+([]:List Keyword).length+(if ([]:List Keyword).isEmpty then 0 else 1)<30))=true:=by rfl)(hline:(apos.endLine == cpos.line)=true:=by rfl)(hs:starEach (e::es) X.env=(false,eval e X.env)::starEach es X.env:=by rfl)(hplain:(backTo cpos (starEach es X.env)).any (·.1)=false:=by rfl) :
  PE X (.Call (.Attribute o name apos) (e::es) [] cpos) (tBM X.K T r to t):=by
 intro JC s σ H Q I h;refine wpAny_Call_method_late hbase hfew hline rfl (thn (ho JC s σ H _ I h) λv s1 hz9=>?_);obtain⟨x,H1,I1,r1,ty,q1⟩:=hz9;obtain⟨h1,h2⟩:=zO I1 r1 ty;refine⟨T,id,pa,slot,hty,h1,h2,?_⟩;have hA:=ha cpos JC s1 σ H1 _ I1 q1;rw[hs]at hA ⊢;refine Calls.callWith_builtin (by show(false ||(backTo cpos (starEach es X.env)).any (·.1))=false;rw[hplain]<;>rfl) (Calls.evalArgs_plain ?_);exact thn hA λus s2 ⟨vs,H2,I2,r2,q2⟩=>hm JC s2 σ H2 x vs v us Q I2 r1 r2 q2
end
def MtM(X:Cx)(id:String)(r:V->List V->Hp->VK->Prop):Prop :=
 ∀(JC:Jj) (s:Ju) (σ:St) (H:Hp) (x:V) (xs:List V) (v:Jw) (us:Jn) (Q:VK),Inv X JC σ H s->RelV x v->Vals xs us->r x xs H Q ->
  wpAny (model X.prog X.w) X.A (call (.builtin id) (v::us)) (EP X JC σ Q) X.xe s
theorem Vals.one:∀{x:V} {us:Jn},Vals [x] us->∃u,us=[u]/\RelV x u
 |_,_,.cons r .nil=>⟨_,rfl,r⟩
theorem Vals.zero:∀{us:Jn},Vals [] us->us=[]
 |_,.nil=>rfl
theorem Vals.dropLast{xs:List V}{us:Jn}(h:Vals xs us):Vals xs.dropLast us.dropLast:=by
 induction h with
 |nil=>exact .nil
 |cons r t ih =>
  cases t with
  |nil=>exact .nil
  |cons q t'=>exact .cons r ih
theorem vZ{α:Type}(l:List α):l.eraseIdx (l.length-1)=l.dropLast:=by
 induction l with
 |nil=>rfl
 |cons a r ih =>
  cases r with
  |nil=>rfl
  |cons b r =>
   have e:(a::b::r).length-1=((b::r).length-1)+1:=by have h1:(a::b::r).length=r.length+2:=rfl;have h2:(b::r).length=r.length+1:=rfl;omega
   rw[e,List.eraseIdx_cons_succ,ih]
   all_goals rfl
section
variable{X:Cx}{JC:Jj}{σ:St}{H:Hp}{s:Ju}{l b:Jy}{xs ys zs:List V}
theorem Inv.lset{its its':Jn}{n:Nat}{f:Jm->Jm}{t':Nat}(I:Inv X JC σ H s)(hH:H l=some (.lst xs))(e:s.heap.get? l=some { cls:=.type "list",data:=.seq its.toArray n })(hf:f its.toArray=its'.toArray)(hv:Vals ys its')(hz:ys.length<=sizeLine) :
  Inv X JC σ (upd H l (.lst ys)) { s with heap:=s.heap.update l (Obj.mapSeq f),toks:=t' }:=by
 have q:=PySem.IsL.update e f;rw[hf]at q;refine I.write (x:=l) (e:=l) (by rw[hH];exact trivial) (.inl rfl) (λb' u hb hu=>(Yg s.heap (Obj.mapSeq f) (Zs hb)).trans hu) ⟨_,q⟩ ?_;exact⟨hz,its',_,hv,q⟩
theorem Inv.lnew{its:Jn}{t':Nat}(I:Inv X JC σ H s)(hv:Vals ys its)(hz:ys.length<=sizeLine) :
  Inv X JC σ (upd H s.heap.objs.size (.lst ys)) { s with heap:=s.heap.push { cls:=.type "list",data:=.seq its.toArray },toks:=t' } :=
 I.laid (λ_ _ q=>z9 _ q) (Za _) ⟨hz,its,0,hv,Zo _ rfl⟩
theorem Inv.fresh(I:Inv X JC σ H s):H s.heap.objs.size=none:=I.hok.fresh (Za _)
theorem Inv.lstM(I:Inv X JC σ H s)(hH:H l=some (.lst xs)):xs.length<=sizeLine/\∃(its:Jn) (n:Nat),Vals xs its/\xs.length=its.length/\s.heap.get? l=some { cls:=.type "list",data:=.seq its.toArray n }:=by obtain⟨z,its,n,r,e⟩:=I.hok l _ hH;exact⟨z,its,n,r,r.length,e⟩
theorem AL{n:Nat}(h:n<=sizeLine):Builtin.List.listTooLong n=false:=by unfold Builtin.List.listTooLong;exact decide_eq_false (by omega)
end
section
variable{X:Cx}
inductive rAppend  (x:V)(vs:List V)(H:Hp)(Q:VK):Prop
 |mk (l xs y:_) (h0:x=.ref l) (h1:vs=[y]) (h2:H l=some (.lst xs)) (h3:xs.length<sizeLine) (h4:Q .non (upd H l (.lst (xs++[y])))):rAppend  x vs H Q
theorem yF:MtM X "list.append" rAppend:=by intro JC s σ H x vs v us Q I rx rv h;obtain⟨l,xs,y,rfl,rfl,hH,hz,q⟩:=h;cases rx;obtain⟨u,rfl,ru⟩:=rv.one;obtain⟨z,its,n,r,hl,e⟩:=I.lstM hH;refine call_meets F.slot_list_append ⟨_,e,rfl⟩ F.entry_list_append (F.args_list_append_2 _ _) (PySem.list_append l its.toArray n u (by rw[Zg];omega)) ⟨e,?_⟩;refine⟨.non,_,I.lset (its':=its++[u]) hH e (by simp) (r.append (.cons ru .nil)) ?_,rfl,q⟩;rw[Zn,Yw];omega
def vq:V->List V->Hp->VK->Prop:=λx vs H Q=>∃l b xs zs,x=.ref l/\vs=[.ref b]/\H l=some (.lst xs)/\H b=some (.lst zs)/\xs.length+zs.length<=sizeLine/\Q .non (upd H l (.lst (xs++zs)))
theorem yG:MtM X "list.extend" vq:=by
 intro JC s σ H x vs v us Q I rx rv h;obtain⟨l,b,xs,zs,rfl,rfl,hH,hB,hz,q⟩:=h;cases rx;obtain⟨u,rfl,ru⟩:=rv.one;cases ru;obtain⟨z,its,n,r,hl,e⟩:=I.lstM hH;obtain⟨z2,its2,n2,r2,hl2,e2⟩:=I.lstM hB;have hsz:its.toArray.size+its2.toArray.size<=sizeLine:=by rw[Zg,Zg];omega
 have hlong:¬(!its.toArray.isEmpty&&Builtin.List.listTooLong (its.toArray.size+its2.toArray.size))=true:=by rw[AL hsz,Bool.and_false];exact Zi
 refine call_meets F.slot_list_extend ⟨_,e,rfl⟩ F.entry_list_extend (F.args_list_extend_2 _ _)
  (AutoSeq1.list_extend_list_list_0 l its.toArray n b its2.toArray n2 hlong (by rw[Zg];omega) (by omega)) ⟨e,e2,?_⟩
 refine⟨.non,_,I.lset (its':=its++its2) hH e (by simp) (r.append r2) ?_,rfl,q⟩;rw[Zn];omega
def FD:V->List V->Hp->VK->Prop:=λx vs H Q=>∃l xs y,x=.ref l/\vs=[]/\H l=some (.lst xs)/\xs[xs.length-1]?=some y/\Q y (upd H l (.lst xs.dropLast))
theorem EA:MtM X "list.pop" FD:=by
 intro JC s σ H x vs v us Q I rx rv h;obtain⟨l,xs,y,rfl,rfl,hH,hy,q⟩:=h;cases rx;have hus:=rv.zero;subst hus;obtain⟨z,its,n,r,hl,e⟩:=I.lstM hH;obtain⟨u,hu,ru⟩:=r.get hy;have hy':its.toArray[its.toArray.size-1]?=some u:=by show its.toArray[its.length-1]?=some u;rw[<-YO,<-hl];exact hu
 refine call_meets F.slot_list_pop ⟨_,e,rfl⟩ F.entry_list_pop (F.args_list_pop_1 _) (MeetsSeq.list_pop_last l its.toArray n u hy' (by rw[Zg];omega)) ⟨e,?_⟩;refine⟨y,_,I.lset (its':=its.dropLast) hH e ?_ r.dropLast ?_,ru,q⟩
 ·show its.toArray.eraseIdxIfInBounds (its.toArray.size-1)=its.dropLast.toArray;rw[Zg,List.eraseIdxIfInBounds_toArray,vZ]
 ·rw[List.length_dropLast];omega
inductive rCat  (x:V)(y:V)(H:Hp)(Q:VK):Prop
 |mk (l b xs zs:_) (h0:x=.ref l) (h1:y=.ref b) (h2:H l=some (.lst xs)) (h3:H b=some (.lst zs)) (h4:xs.length+zs.length<=sizeLine) (h5:∀p,H p=none->Q (.ref p) (upd H p (.lst (xs++zs)))):rCat  x y H Q
theorem EQ:OpR X (binaryOp .Add) rCat:=by
 intro JC s σ H x y v u Q I rx ry h;obtain⟨l,b,xs,zs,rfl,rfl,hH,hB,hz,q⟩:=h;cases rx;cases ry;obtain⟨z,its,n,r,hl,e⟩:=I.lstM hH;obtain⟨z2,its2,n2,r2,hl2,e2⟩:=I.lstM hB;refine PySem.P.add_list e e2 ?_ (by rw[Zg,Zg];omega);have ea:its.toArray++its2.toArray=(its++its2).toArray:=by simp
 rw[ea];exact⟨.ref _,_,I.lnew (t':=s.toks) (r.append r2) (by rw[Zn];omega),rfl,q _ I.fresh⟩
end
section
variable{κ:Type}[DecidableEq κ]
def bw(kvs:List (κ×V))(k:κ):Option V:=(kvs.find? λkv=>decide (kv.1=k)).map (·.2)
def ba(kvs:List (κ×V))(k:κ)(v:V):List (κ×V) :=
 if(kvs.any λkv=>decide (kv.1=k))=true then kvs.map (λkv=>if kv.1=k then(kv.1,v)else kv)else kvs++[(k,v)]
theorem gP{p:κ×V}{r:List (κ×V)}{k:κ}(e:p.1=k):bw (p::r) k=some p.2:=by simp[bw,List.find?_cons,e]
theorem fJ{p:κ×V}{r:List (κ×V)}{k:κ}(e:¬p.1=k):bw (p::r) k=bw r k:=by simp[bw,List.find?_cons,e]
theorem gO(k:κ):∀kvs:List (κ×V),(kvs.any λkv=>decide (kv.1=k))=(bw kvs k).isSome
 | []=>rfl
 |p::r=>by
  rw[List.any_cons];by_cases e:p.1=k
  ·simp only[gP e,decide_eq_true e,Bool.true_or,Option.isSome_some]
  ·rw[fJ e,decide_eq_false e,Bool.false_or];exact gO k r
theorem jn(kvs:List (κ×V))(k:κ)(v:V):(ba kvs k v).length<=kvs.length+1:=by
 unfold ba;split
 ·rw[Ze];omega
 ·rw[Zn,Zw,List.length_nil];omega
theorem Bc{kvs:List (κ×V)}{k:κ}(v:V)(h:bw kvs k=none):ba kvs k v=kvs++[(k,v)]:=by unfold ba;rw[gO,h];exact Jf (by decide)
theorem RelO.isSome_eq{o:Option V}{u:Jl}(r:RelO o u):o.isSome=u.isSome:=by
 cases o with
 |none=>cases u with
  |none=>rfl
  |some _=>exact(show False from r).elim
 |some _=>cases u with
  |none=>exact(show False from r).elim
  |some _=>rfl
theorem KV.val{kvs:List (κ×V)}{vs:List (κ×Jw)}(r:KV kvs vs)(k:κ):RelO (bw kvs k) (valueAt vs k):=by
 unfold KV at r;induction r with
 |nil=>exact True.intro
 |@cons p q ps qs h t ih =>
  obtain⟨h1,h2⟩:=h;by_cases e:p.1=k
  ·have e':q.1=k:=h1.symm.trans e;have b:valueAt (q::qs) k=some q.2:=by simp[valueAt,List.find?_cons,e']
   rw[gP e,b];exact h2
  ·have e':¬q.1=k:=λz=>e (h1.trans z);have b:valueAt (q::qs) k=valueAt qs k:=by simp[valueAt,List.find?_cons,e']
   rw[fJ e,b];exact ih
theorem KV.any{kvs:List (κ×V)}{vs:List (κ×Jw)}(r:KV kvs vs)(k:κ):(kvs.any λkv=>decide (kv.1=k))=vs.any λkv=>decide (kv.1=k):=by
 unfold KV at r;induction r with
 |nil=>rfl
 |cons h t ih=>rw[List.any_cons,List.any_cons,ih,h.1]
theorem KV.repl{kvs:List (κ×V)}{vs:List (κ×Jw)}(r:KV kvs vs)(k:κ){y:V}{u:Jw}(ry:RelV y u) :
  KV (kvs.map λkv=>if kv.1=k then(kv.1,y)else kv) (vs.map λkv=>if kv.1=k then(kv.1,u)else kv):=by
 unfold KV at r ⊢;induction r with
 |nil=>exact .nil
 |@cons p q ps qs h t ih =>
  rw[Zk,Zk];refine .cons ?_ ih;obtain⟨h1,h2⟩:=h;by_cases e:p.1=k
  ·rw[Jg e,Jg (h1.symm.trans e)];exact⟨h1,ry⟩
  ·rw[Jf e,Jf (λz=>e (h1.trans z))];exact⟨h1,h2⟩
theorem KV.put{kvs:List (κ×V)}{vs:List (κ×Jw)}(r:KV kvs vs)(k:κ){y:V}{u:Jw}(ry:RelV y u):KV (ba kvs k y) (stored vs k u):=by
 unfold ba stored;rw[r.any k];by_cases e:(vs.any λkv=>decide (kv.1=k))=true
 ·rw[Jg e,Jg e];exact r.repl k ry
 ·rw[Jf e,Jf e];exact Paired.snoc r ⟨rfl,ry⟩
theorem KV.length{kvs:List (κ×V)}{vs:List (κ×Jw)}(r:KV kvs vs):kvs.length=vs.length:=Zu r
end
theorem mr{P:Jt}{w:Jx}{k:Key}{u:Jw}(r:RelV (kV k) u):(bh P w).is k u=true:=by
 cases k with
 |inl i=>obtain⟨t,e⟩:=(show∃t,u=Value.int i t from r);subst e;exact ue P w i t
 |inr x=>obtain⟨t,e⟩:=(show∃t,u=Value.str x t from r);subst e;exact uf P w x t
theorem qV{P:Jt}{w:Jx}:∀{ks:List Key} {us:Jn},Vals (ks.map kV) us->ItemsAre (bh P w) ks us
 | [],_,r=>by rw[List.map_nil]at r;cases r;exact .nil
 |k::ks,_,r=>by
  rw[Zk]at r;cases r with
  |cons h t=>exact .cons (mr h) (qV t)
abbrev KT(H:Hp):List (List Key×V)->List (List Key×Jy×Jw)->Prop:=Paired λp q=>p.1=q.1/\H q.2.1=some (.tup (p.1.map kV))/\RelV p.2 q.2.2
theorem KT.val{H:Hp}{kvs:List (List Key×V)}{xs:List (List Key×Jy×Jw)}(r:KT H kvs xs)(k:List Key):RelO (bw kvs k) ((atKey xs k).map (·.2)):=by
 induction r with
 |nil=>exact True.intro
 |@cons p q ps qs h t ih =>
  obtain⟨h1,_,h2⟩:=h;by_cases e:p.1=k
  ·have e':q.1=k:=h1.symm.trans e;have b:atKey (q::qs) k=some q.2:=by simp[atKey,List.find?_cons,e']
   rw[gP e,b];exact h2
  ·have e':¬q.1=k:=λz=>e (h1.trans z);have b:atKey (q::qs) k=atKey qs k:=by simp[atKey,List.find?_cons,e']
   rw[fJ e,b];exact ih
theorem KT.repl{H:Hp}{kvs:List (List Key×V)}{xs:List (List Key×Jy×Jw)}(r:KT H kvs xs)(k:List Key){y:V}{u:Jw}(ry:RelV y u) :
  KT H (kvs.map λkv=>if kv.1=k then(kv.1,y)else kv) (xs.map (putAt k u)):=by
 induction r with
 |nil=>exact .nil
 |@cons p q ps qs h t ih =>
  rw[Zk,Zk];refine .cons ?_ ih;obtain⟨h1,h2,h3⟩:=h;unfold putAt;by_cases e:p.1=k
  ·rw[Jg e,Jg (h1.symm.trans e)];exact⟨h1,h2,ry⟩
  ·rw[Jf e,Jf (λz=>e (h1.trans z))];exact⟨h1,h2,h3⟩
theorem KT.put{H:Hp}{kvs:List (List Key×V)}{xs:List (List Key×Jy×Jw)}(r:KT H kvs xs)(k:List Key){b:Jy}{y:V}{u:Jw}(hb:H b=some (.tup (k.map kV)))(ry:RelV y u) :
  KT H (ba kvs k y) (storedH xs k b u):=by
 have e:(kvs.any λkv=>decide (kv.1=k))=(atKey xs k).isSome:=by rw[gO,(r.val k).isSome_eq,Option.isSome_map]
 unfold ba storedH;rw[e];by_cases q:(atKey xs k).isSome=true
 ·rw[Jg q,Jg q];exact r.repl k ry
 ·rw[Jf q,Jf q];exact Paired.snoc r ⟨rfl,hb,ry⟩
theorem KT.keeps{H H':Hp}{kvs:List (List Key×V)}{xs:List (List Key×Jy×Jw)}(r:KT H kvs xs)(ht:∀b ys,H b=some (.tup ys)->H' b=some (.tup ys)):KT H' kvs xs :=
 Paired.mapP r λ_ _ z=>⟨z.1,ht _ _ z.2.1,z.2.2⟩
section
variable{P:Jt}{w:Jx}{H:Hp}{h:JB}{a:Jy}
theorem BR{u:HO}(ok:HOk P w H h)(e:Rd H a u):ObjOk P w H h a u:=e.ok ok
theorem oq{kvs:List (Key×V)}(ok:HOk P w H h)(e:Rd H a (.dK kvs)):kvs.length<=sizeLine/\(a==sysModules)=false/\∃vs,KV kvs vs/\h.DictOf (bh P w) a vs :=
 show ObjOk P w H h a (.dK kvs)from BR ok e
theorem BD{kvs:List (Key×V)}(ok:HOk P w H h)(e:H a=some (.dK kvs)):kvs.length<=sizeLine/\(a==sysModules)=false/\∃vs,KV kvs vs/\h.DictOf (bh P w) a vs:=oq ok (.inl e)
theorem iF{ks:List Key}(ok:HOk P w H h)(e:H a=some (.tup (ks.map kV))):(tupleKind (bh P w)).is h ks a:=by
 obtain⟨_,its,r,o,h1,h2,n,h3⟩:=(show ObjOk P w H h a (.tup (ks.map kV))from ok a _ e)
 exact⟨o,its.toArray,n,h1,h2,h3,by simpa using qV r⟩
theorem iV{kvs:List (List Key×V)}(ok:HOk P w H h)(e:Rd H a (.dT kvs)):kvs.length<=sizeLine/\(a==sysModules)=false /\
  ∃xs,KT H kvs xs/\h.DictOfH (tupleKind (bh P w)) a xs:=by
 obtain⟨z,y,xs,r,o,es,ep,h1,h2,h3,h4,h5⟩:=(show ObjOk P w H h a (.dT kvs)from BR ok e)
 refine⟨z,y,xs,r,o,es,ep,h1,h2,h3,h4,λx hx=>?_,h5⟩;have all:∀{l:List (List Key×V)} {m:List (List Key×Jy×Jw)},KT H l m->∀x∈m,(tupleKind (bh P w)).is h x.1 x.2.1:=by
  intro l m q;induction q with
  |nil=>intro x hx;exact nomatch hx
  |@cons p q ps qs hq t ih =>
   intro x hx;rcases Zj.mp hx with e|hx
   ·subst e;exact iF ok (by rw[<-hq.1];exact hq.2.1)
   ·exact ih x hx
 exact all r x hx
theorem Gm{kvs:List (List Key×V)}(ok:HOk P w H h)(e:H a=some (.dT kvs)):kvs.length<=sizeLine/\(a==sysModules)=false /\
  ∃xs,KT H kvs xs/\h.DictOfH (tupleKind (bh P w)) a xs:=iV ok (.inl e)
end
def DGet(H:Hp)(a:Jy)(y:V)(r:Option V):Prop :=
 (∃kvs k,Rd H a (.dK kvs)/\y=kV k/\r=bw kvs k)\/∃kvs k b,Rd H a (.dT kvs)/\y=.ref b/\H b=some (.tup (k.map kV))/\r=bw kvs k
def DPut(H:Hp)(a:Jy)(y v:V)(H':Hp):Prop :=
 (∃kvs k,H a=some (.dK kvs)/\y=kV k/\kvs.length<sizeLine/\H'=upd H a (.dK (ba kvs k v))) \/
 ∃kvs k b,H a=some (.dT kvs)/\y=.ref b/\H b=some (.tup (k.map kV))/\kvs.length<sizeLine/\H'=upd H a (.dT (ba kvs k v))
theorem DGet.k{H:Hp}{a:Jy}{kvs:List (Key×V)}{k:Key}(e:H a=some (.dK kvs)):DGet H a (kV k) (bw kvs k):=.inl ⟨kvs,k,.inl e,rfl,rfl⟩
theorem DGet.t{H:Hp}{a b:Jy}{kvs:List (List Key×V)}{k:List Key}(e:H a=some (.dT kvs))(eb:H b=some (.tup (k.map kV))):DGet H a (.ref b) (bw kvs k):=.inr ⟨kvs,k,b,.inl e,rfl,eb,rfl⟩
theorem DPut.t{H:Hp}{a b:Jy}{kvs:List (List Key×V)}{k:List Key}{v:V}(e:H a=some (.dT kvs))(eb:H b=some (.tup (k.map kV)))(hl:kvs.length<sizeLine) :
  DPut H a (.ref b) v (upd H a (.dT (ba kvs k v))):=.inr ⟨kvs,k,b,e,rfl,eb,hl,rfl⟩
section
variable{X:Cx}{JC:Jj}{σ:St}{H:Hp}{s:Ju}{a:Jy}{y v:V}{u r:Jw}{o:Option V}{A:Jv}{E:Jh}
theorem Inv.big(I:Inv X JC σ H s):sysModules<s.heap.objs.size:=by have h:mainGlobals<s.heap.objs.size:=(I.mod.glob.keeps I.bk).lt;exact Nat.lt_trans (by decide) h
theorem xW{Q:Jh}(hu:A.units+1<cLine)(I:Inv X JC σ H s)(g:DGet H a y (some v))(ry:RelV y u)(h:∀w' s',Inv X JC σ H s'->RelV v w'->Q w' s') :
  wpAny (model X.prog X.w) A (getItem (.ref a) u) Q E s:=by
 rcases g with⟨kvs,k,e,ey,l⟩|⟨kvs,k,b,e,ey,eb,l⟩
 ·subst ey;obtain⟨z,hd,vs,rel,dd⟩:=oq I.hok e;obtain⟨w',hw,rw'⟩:=RelO.some_of (v:=v) (o:=valueAt vs k) (by rw[l];exact rel.val k);exact wpAny_getItem_of (mr ry) dd.mapOf hw (h w' _ (I.tok _) rw')
 ·subst ey;cases(show u=Value.ref b from ry);obtain⟨z,hd,xs,rel,dd⟩:=iV I.hok e;obtain⟨w',hw,rw'⟩:=RelO.some_of (v:=v) (o:=(atKey xs k).map (·.2)) (by rw[l];exact rel.val k);obtain⟨p,hp,hp2⟩:=ZZ.mp hw;refine wpAny_getItem_heap (tupleKind_room_in1 hu) (iF I.hok eb) dd hp ?_;rw[hp2];exact h w' _ (I.tok _) rw'
theorem HH{Q:Jh}(hu:A.units+1<cLine)(I:Inv X JC σ H s)(g:DGet H a y o)(ry:RelV y u)(h:∀s',Inv X JC σ H s'->Q (.bool o.isSome) s') :
  wpAny (model X.prog X.w) A (compareOp .In u (.ref a)) Q E s:=by
 rcases g with⟨kvs,k,e,ey,l⟩|⟨kvs,k,b,e,ey,eb,l⟩
 ·subst ey;obtain⟨z,hd,vs,rel,dd⟩:=oq I.hok e;refine wpAny_in_of (mr ry) hd dd.mapOf ?_;rw[<-(rel.val k).isSome_eq,<-l];exact h _ (I.tok _)
 ·subst ey;cases(show u=Value.ref b from ry);obtain⟨z,hd,xs,rel,dd⟩:=iV I.hok e;refine wpAny_in_heap (tupleKind_room_in1 hu) (iF I.hok eb) hd dd ?_;have q:=(rel.val k).isSome_eq;rw[Option.isSome_map]at q;rw[<-q,<-l];exact h _ (I.tok _)
theorem Cr{Q:Jh}(hu:A.units+1<cLine)(I:Inv X JC σ H s)(g:DGet H a y o)(ry:RelV y u)(h:∀s',Inv X JC σ H s'->Q (.bool (!o.isSome)) s') :
  wpAny (model X.prog X.w) A (compareOp .NotIn u (.ref a)) Q E s:=by
 rcases g with⟨kvs,k,e,ey,l⟩|⟨kvs,k,b,e,ey,eb,l⟩
 ·subst ey;obtain⟨z,hd,vs,rel,dd⟩:=oq I.hok e;refine wpAny_notIn_of (mr ry) hd dd.mapOf ?_;rw[<-(rel.val k).isSome_eq,<-l];exact h _ (I.tok _)
 ·subst ey;cases(show u=Value.ref b from ry);obtain⟨z,hd,xs,rel,dd⟩:=iV I.hok e;refine wpAny_notIn_heap (tupleKind_room_in1 hu) (iF I.hok eb) hd dd ?_;have q:=(rel.val k).isSome_eq;rw[Option.isSome_map]at q;rw[<-q,<-l];exact h _ (I.tok _)
theorem me{h':JB}{t':Nat}{ob:HO}(I:Inv X JC σ H s)(mu:Mut (H a))(hs:Heap.SameBut a s.heap h')(he:∃q,h'.get? a=some q)(new:ObjOk X.prog X.w (upd H a ob) h' a ob) :
  Inv X JC σ (upd H a ob) { s with heap:=h',toks:=t' } :=
 I.write (x:=a) (e:=a) mu (.inl rfl) (λb q hb z=>(hs.2 b hb).trans z) he new
theorem yb{P:Jt}{w:Jx}{H':Hp}{h':JB}{kvs:List (Key×V)}{vs:List (Key×Jw)}(z:kvs.length<=sizeLine)(hd:(a==sysModules)=false)(rel:KV kvs vs)(dd:h'.DictOf (bh P w) a vs) :
  ObjOk P w H' h' a (.dK kvs):=⟨z,hd,vs,rel,dd⟩
theorem xX{H':Hp}{Q:Unit->Ju->Prop}(hu:A.units+1<cLine)(I:Inv X JC σ H s)(g:DPut H a y v H')(ry:RelV y u)(rv:RelV v r)(h:∀s',Inv X JC σ H' s'->Q () s') :
  wpAny (model X.prog X.w) A (setItem (.ref a) u r) Q E s:=by
 rcases g with⟨kvs,k,e,ey,l,eH⟩|⟨kvs,k,b,e,ey,eb,l,eH⟩
 ·subst ey eH;obtain⟨z,hd,vs,rel,dd⟩:=BD I.hok e;have hz:vs.length<=sizeLine:=by rw[<-rel.length];exact z
  have hl:(ba kvs k v).length<=sizeLine:=by have:=jn kvs k v;omega
  refine wpAny_setItem_pairs (hsz:=hz) (mr ry) dd λh' dd' hs=>h _ ?_;have he:∃q,h'.get? a=some q:=let⟨q,_,_,hq,_⟩:=dd';⟨q,hq⟩
  exact me I (by rw[e];exact True.intro) hs he (yb hl hd (rel.put k rv) dd')
 ·subst ey eH;cases(show u=Value.ref b from ry);obtain⟨z,hd,xs,rel,dd⟩:=Gm I.hok e;have hz:xs.length<=sizeLine:=by rw[<-Zu rel];exact z
  have hl:(ba kvs k v).length<=sizeLine:=by have:=jn kvs k v;omega
  refine wpAny_setItem_heap (hsz:=hz) (tupleKind_room_in1 hu) (iF I.hok eb) dd λh' dd' hs=>h _ ?_;obtain⟨q,es,ep,hq,h2,h3,h4,_,h5⟩:=dd';refine me I (by rw[e];exact True.intro) hs ⟨q,hq⟩ ⟨hl,hd,_,(rel.put k eb rv).keeps λc ys ec=>?_,q,es,ep,hq,h2,h3,h4,h5⟩;rw[ad (cV ec e nofun)];exact ec
end
def zV(i:Jz):Prop:=∀ov iv,subscripted i false ov iv=operate [ov,iv] (getItem ov iv)
theorem Dz{prog:Jt}{w:Jx}{A:Jv}{E:Jh}{s:Ju}{env:Env}{value slice:Jz}{pos:Pos}{T id:String}{Q:Jh}(hl:typeLookup (.type T) "__getitem__" = pure (some (.builtin id)))(hs:zV slice)(h:wpAny (model prog w) A (eval value env) (λo s₁=>wpAny (model prog w) A (eval slice env) (λi s₂=>s₂.TypeIs o T/\wpAny (model prog w) A (getItem o i) Q E s₂) E s₁) E s) :
  wpAny (model prog w) A (eval (.Subscript value slice pos) env) Q E s:=by
 refine Subscript_ (ZK h (λo s₁ h₁=>ZK h₁ (λi s₂ h₂=>?_) λ_ _ x=>x) λ_ _ x=>x);obtain⟨hT,h₂⟩:=h₂;unfold subscriptTail;refine z0 ?_;rw[getitemInPython_of_ne hT.not_modules];refine z0 (wpAny_specialOf hT hl ?_);have fin:wpAny (model prog w) A (subscripted slice false o i) (λr s₃=>wpAny (model prog w) A (letTemporaryGo value o r >>= λ_=>pure r) Q E s₃) E s₂:=by rw[hs o i];exact wpAny_operating (ZK h₂ (λr s₃ h₃=>z0 (wpAny_letTemporaryGo (z6 h₃))) λ_ _ x=>x)
 first
  |exact z6 (z0 fin)
  |exact z0 (z6 (z0 fin))
  |exact z0 fin
theorem tY{X:Cx}{JC:Jj}{σ:St}{H:Hp}{s:Ju}{a:Jy}{y:V}{o:Option V}(I:Inv X JC σ H s)(g:DGet H a y o):s.TypeIs (.ref a) "dict":=by
 rcases g with⟨kvs,k,e,_,_⟩|⟨kvs,k,b,e,_,_,_⟩
 ·obtain⟨_,_,vs,_,dd⟩:=oq I.hok e;exact dd.typeIs
 ·obtain⟨_,_,xs,_,dd⟩:=iV I.hok e;exact dd.typeIs
def BY(td ty:TE):TE:=λσ H Q=>td σ H λx H1=>ty σ H1 λy H2=>∃a v,x=.ref a/\DGet H2 a y (some v)/\Q v H2
def FQ(ty td:TE):TE:=λσ H Q=>ty σ H λy H1=>td σ H1 λx H2=>∃a o,x=.ref a/\DGet H2 a y o/\Q (.bl o.isSome) H2
def vB(ty td:TE):TE:=λσ H Q=>ty σ H λy H1=>td σ H1 λx H2=>∃a o,x=.ref a/\DGet H2 a y o/\Q (.bl (!o.isSome)) H2
inductive IsP(x y v:V)(H:Hp)(R:Hp->Prop):Prop
 |mk (a:Jy) (H':Hp) (h0:x=.ref a) (h1:DPut H a y v H') (q:R H'):IsP x y v H R
def BS(td ty tv:TE):TS:=λD σ H=>tv σ H λv H1=>td σ H1 λx H2=>ty σ H2 λy H3=>IsP x y v H3 (D.nx σ)
section
variable{X:Cx}{o i e value:Jz}{pos pos' tpos:Pos}{td ty tv:TE}
theorem C5(hu:X.A.units+1<cLine)(ho:PE X o td)(hi:PE X i ty)(hs:zV i):PE X (.Subscript o i pos) (BY td ty):=by intro JC s σ H Q I h;refine Dz PySem.F.slot_dict_getitem.lookup hs (thn (ho JC s σ H _ I h) λu s1 ⟨x,H1,I1,rx,q1⟩=>thn (hi JC s1 σ H1 _ I1 q1) λiv s2 hz9=>?_);obtain⟨y,H2,I2,ry,a,v,ex,g,q2⟩:=hz9;subst ex;obtain rfl:u=Value.ref a:=rx;exact⟨tY I2 g,xW hu I2 g ry λw' s3 I3 rw'=>⟨v,H2,I3,rw',q2⟩⟩
theorem E1(hu:X.A.units+1<cLine)(hi:PE X i ty)(ho:PE X o td):PC X .In i o (FQ ty td):=by intro JC s σ H Q I h;refine thn (hi JC s σ H _ I h) λiv s1 ⟨y,H1,I1,ry,q1⟩=>thn (ho JC s1 σ H1 _ I1 q1) λu s2 hz9=>?_;obtain⟨x,H2,I2,rx,a,ov,ex,g,q2⟩:=hz9;subst ex;obtain rfl:u=Value.ref a:=rx;exact HH hu I2 g ry λs3 I3=>⟨.bl ov.isSome,H2,I3,rfl,q2⟩
theorem yY(hu:X.A.units+1<cLine)(hi:PE X i ty)(ho:PE X o td):PC X .NotIn i o (vB ty td):=by intro JC s σ H Q I h;refine thn (hi JC s σ H _ I h) λiv s1 ⟨y,H1,I1,ry,q1⟩=>thn (ho JC s1 σ H1 _ I1 q1) λu s2 hz9=>?_;obtain⟨x,H2,I2,rx,a,ov,ex,g,q2⟩:=hz9;subst ex;obtain rfl:u=Value.ref a:=rx;exact Cr hu I2 g ry λs3 I3=>⟨.bl (!ov.isSome),H2,I3,rfl,q2⟩
theorem Dg(hu:X.A.units+1<cLine)(ho:PE X o td)(hi:PE X i ty)(hv:PE X value tv)(hs:swapsWith value (some (.Subscript o i pos')) pos.line X.env=pure false) :
  PS X (.Assign [.Subscript o i pos'] value pos) (BS td ty tv):=by
 intro JC s σ H D I h;refine wpAny_Assign_Subscript (thn (hv JC s σ H _ I h) λr s1 ⟨v,H1,I1,rv,q1⟩=>thn (ho JC s1 σ H1 _ I1 q1) λu s2 ⟨x,H2,I2,rx,q2⟩=>thn (hi JC s2 σ H2 _ I2 q2) λiv s3 hz9=>?_) hs;obtain⟨y,H3,I3,ry,a,H4,ex,g,q3⟩:=hz9;subst ex;obtain rfl:u=Value.ref a:=rx;exact xX hu I3 g ry rv λs4 I4=>⟨σ,H4,I4,q3⟩
end
theorem Aq{P:Jt}{w:Jx}{H:Hp}(h:JB)(hb:sysModules<h.objs.size):ObjOk P w H (h.push { cls:=.type "dict",data:=.dict #[] }) h.objs.size (.dK []) :=
 ⟨ZM _,Yh.mpr (Zs (Zy hb)),[],.nil,Heap.DictOf.new h⟩
theorem Ar{P:Jt}{w:Jx}{H:Hp}(h:JB)(hb:sysModules<h.objs.size):ObjOk P w H (h.push { cls:=.type "dict",data:=.dict #[] }) h.objs.size (.dT []) :=
 ⟨ZM _,Yh.mpr (Zs (Zy hb)),[],.nil,_,#[],0,Zo _ rfl,⟨rfl,rfl,rfl⟩,rfl,rfl,List.nodup_nil⟩
def zG:TE:=λ_ H Q=>∀p,H p=none->Q (.ref p) (upd H p (.dT []))
section
variable{X:Cx}{pos:Pos}
theorem AY:PE X (.Dict [] [] pos) zG:=λJC s σ H Q I h =>
 wpAny_Dict_empty ⟨.ref s.heap.objs.size,_,I.laid (a:=s.heap.objs.size) (o:=.dT []) (t':=s.toks) (λ_ _ q=>z9 _ q) (Za _) (Ar s.heap I.big),rfl,h _ (I.hok.fresh (Za _))⟩
end
def tO:List (TE×TE)->St->Hp->(List (V×V)->Hp->Prop)->Prop
 | [],_,H,Q=>Q [] H
 |(tk,tv)::r,σ,H,Q=>tk σ H λx H1=>tv σ H1 λy H2=>tO r σ H2 λps H3=>Q ((x,y)::ps) H3
abbrev VV:List (V×V)->List (Jw×Jw)->Prop:=Paired λp q=>RelV p.1 q.1/\RelV p.2 q.2
def PPs(X:Cx)(pos:Pos)(keys:List (Option Jz))(values:List Jz)(trs:List (TE×TE)):Prop :=
 ∀(JC:Jj) (s:Ju) (σ:St) (H:Hp) (Q:List (V×V)->Hp->Prop),Inv X JC σ H s->tO trs σ H Q ->
  wpAny (model X.prog X.w) X.A (evalPairs (pairTrees keys values X.env pos)) (λvs s'=>∃ps H',Inv X JC σ H' s'/\VV ps vs/\Q ps H') X.xe s
theorem Df{X:Cx}{pos:Pos}:PPs X pos [] [] []:=λJC s σ H Q I h=>pairTrees_nil_walk ⟨[],H,I,.nil,h⟩
theorem A8{X:Cx}{pos:Pos}{k v:Jz}{ks:List (Option Jz)}{vs:List Jz}{tk tv:TE}{trs:List (TE×TE)}(hk:PE X k tk)(hv:PE X v tv)(hr:PPs X pos ks vs trs) :
  PPs X pos (some k::ks) (v::vs) ((tk,tv)::trs):=λJC s σ H Q I h =>
 pairTrees_cons_walk (thn (hk JC s σ H _ I h) λu s1 ⟨x,H1,I1,rx,q1⟩=>thn (hv JC s1 σ H1 _ I1 q1) λw2 s2 ⟨y,H2,I2,ry,q2⟩ =>
  thn (hr JC s2 σ H2 _ I2 q2) λws s3 ⟨ps,H3,I3,rel,q3⟩=>⟨(x,y)::ps,H3,I3,.cons ⟨rx,ry⟩ rel,q3⟩)
def dL(kvs more:List (Key×V)):List (Key×V):=more.foldl (λacc kv=>ba acc kv.1 kv.2) kvs
theorem KV.merge:∀{more:List (Key×V)} {rs:List (Key×Jw)} {kvs:List (Key×V)} {vs:List (Key×Jw)},KV more rs->KV kvs vs->KV (dL kvs more) (merged vs rs):=by
 intro more rs kvs vs r;unfold KV at r;induction r generalizing kvs vs with
 |nil=>intro q;exact q
 |@cons p q ps qs h t ih =>
  intro r0;have e:KV (ba kvs p.1 p.2) (stored vs q.1 q.2):=by have:=r0.put p.1 h.2;rw[<-h.1];exact this
  exact ih e
theorem kM:∀(more kvs:List (Key×V)),(dL kvs more).length<=kvs.length+more.length
 | [],kvs=>by show kvs.length<=kvs.length+0;omega
 |p::r,kvs=>by have h1:=kM r (ba kvs p.1 p.2);have h2:=jn kvs p.1 p.2;show(dL (ba kvs p.1 p.2) r).length<=_;rw[Zw];omega
theorem og{P:Jt}{w:Jx}:∀{kvs:List (Key×V)} {ws:List (Jw×Jw)},VV (kvs.map λkv=>(kV kv.1,kv.2)) ws->∃rs,Carries (bh P w) ws rs/\KV kvs rs
 | [],_,r=>by rw[List.map_nil]at r;cases r;exact⟨[],True.intro,.nil⟩
 |p::kvs,_,r=>by
  rw[Zk]at r;cases r with
  |@cons a b as bs h t =>obtain⟨rs,c,q⟩:=og (P:=P) (w:=w) t;obtain⟨b1,b2⟩:=b;exact⟨(p.1,b2)::rs,⟨mr h.1,rfl,c⟩,.cons ⟨rfl,h.2⟩ q⟩
def BZ(trs:List (TE×TE)):TE:=λσ H Q=>∀p,H p=none->tO trs σ (upd H p (.dK [])) λps H2=>H2 p=some (.dK [])/\∃kvs:List (Key×V),ps=kvs.map (λkv=>(kV kv.1,kv.2))/\kvs.length<=15/\Q (.ref p) (upd H2 p (.dK (dL [] kvs)))
theorem C6{X:Cx}{pos:Pos}{keys:List (Option Jz)}{values:List Jz}{trs:List (TE×TE)}(h:PPs X pos keys values trs)(hall:keys.all (·.isSome)=true)(hl:keys.length=values.length)(h0:keys≠[])(h15:keys.length<=15):PE X (.Dict keys values pos) (BZ trs):=by
 intro JC s σ H Q I q;have hn:=I.hok.fresh (Za s.heap.objs.size);have I1:=I.laid (a:=s.heap.objs.size) (o:=.dK []) (h':=s.heap.push { cls:=.type "dict",data:=.dict #[] }) (t':=s.toks) (λ_ _ q=>z9 _ q) (Za _) (Aq s.heap I.big);refine wpAny_Dict_walk (knd:=bh X.prog X.w) hall hl h0 h15 (thn (h JC _ σ _ _ I1 (q _ hn)) λws s2 hz9=>?_);obtain⟨ps,H2,I2,rel,e,kvs,ep,lk,q2⟩:=hz9;subst ep;obtain⟨rs,c,rk⟩:=og (P:=X.prog) (w:=X.w) rel;obtain⟨z,hd,vs0,r0,dd⟩:=BD I2.hok e;cases r0;refine⟨rs,c,dd,λh' dd' hs=>⟨.ref s.heap.objs.size,_,?_,rfl,q2⟩⟩;have hz:(dL [] kvs).length<=sizeLine:=by have h1:=kM kvs [];rw[List.length_nil]at h1;rw[sizeLine_eq];omega
 have he:∃q,h'.get? s.heap.objs.size=some q:=let⟨q,_,_,hq,_⟩:=dd';⟨q,hq⟩
 exact me I2 (by rw[e];exact True.intro) hs he (yb hz hd (rk.merge .nil) dd')
structure M1(X:Cx)(o:Jz)(m:Str)(apos:Pos)(e:Jz)(cpos:Pos):Prop where
 base:attributeBase o m X.env (eval o X.env)=eval o X.env
 few:((backTo cpos (starEach [e] X.env)).all (λx=>!x.1)&&(backToKw cpos (keywordEach [] X.env)).all (λx=>x.1.isSome)
 &&decide (([e]:List Jz).length+([]:List Keyword).length+(if ([]:List Keyword).isEmpty then 0 else 1)<30))=true
 line:(apos.endLine==cpos.line)=true
 trees:backTo cpos (starEach [e] X.env)=[(false,eval e X.env)]
structure M2(X:Cx)(o:Jz)(m:Str)(apos:Pos)(e f:Jz)(cpos:Pos):Prop where
 base:attributeBase o m X.env (eval o X.env)=eval o X.env
 few:((backTo cpos (starEach [e,f] X.env)).all (λx=>!x.1)&&(backToKw cpos (keywordEach [] X.env)).all (λx=>x.1.isSome)
 &&decide (([e,f]:List Jz).length+([]:List Keyword).length+(if ([]:List Keyword).isEmpty then 0 else 1)<30))=true
 line:(apos.endLine==cpos.line)=true
 trees:backTo cpos (starEach [e,f] X.env)=[(false,eval e X.env),(false,eval f X.env)]
end L2
namespace Att
open PySem PySem.W PySem.Calls PyProof.Rows
theorem oH{P:Params}{h:JB}:∀(ns:Jq) (vs:Jn),WellAll P h vs (ns.map WData.int)->IntsAre vs ns:=by
 intro ns;induction ns with
 |nil =>intro vs w;rw[List.map_nil]at w;cases w;exact .nil
 |cons n ns ih =>
  intro vs w;rw[Zk]at w;cases w with
  |cons a b =>cases a;exact .cons _ _ (ih _ b)
theorem zA{l:OpenLaw}{n:Nat}(hn:l.most=some n){P:Params}{h:JB}{args:List WData}{vals:Jn}(hpre:l.row.toRowW.claim.pre args=true)(hwl:WellAll P h vals args) :
  ∃a vs ns,vals=[Value.ref a]/\args=[WData.list (ns.map WData.int)]/\h.get? a=some { cls:=.type "list",data:=.seq vs.toArray }/\IntsAre vs ns/\ns.length<=n:=by
 have hsh:WShape.hasAll [] args [.list .int]=true:=(pre_splitW hpre).1;have hc:l.pre.holds [] { args:=args }=true:=(pre_splitW hpre).2;obtain⟨d,r,rfl,h1,h2⟩:=hasAllW_cons hsh;obtain rfl:=hasAllW_nil h2;obtain⟨xs,rfl,h3⟩:=hasW_list h1;obtain⟨ns,rfl⟩:=items_int h3;have hlen:ns.length<=n:=by
  unfold OpenLaw.pre at hc;have h4:(WTm.not (.lt (.lit (.int (n:Int))) (.len (.arg 0)))).holds [] { args:=[.list (ns.map .int)] }=true:=by have h4:=(holds_andW hc).1;rw[hn]at h4;exact h4
  have h5:=condW_of h4 (w_not (w_lt w_lit (w_len_list (w_arg rfl))));rw[Ze]at h5;refine Nat.le_of_not_lt λq=>?_;have q':(n:Int)<((ns.length:Nat):Int):=by omega
  first
   |(rw[decide_eq_true q']at h5;exact absurd h5 (by decide))
   |(simp at h5;omega)
 cases hwl with
 |cons w1 w2 =>
  cases w2;cases w1 with
  |list ho hall=>exact⟨_,_,ns,rfl,rfl,ho,oH ns _ hall,hlen⟩
theorem zh(l:OpenLaw)(args:List WData):l.row.toRowW.claim.post args (.bool true) args=true :=
 postW_of (r:=l.row.toRowW) (X:=(true==true))
  (show WShape.has [] (.bool true) .bool=true by first|rfl|decide|simp[WShape.has,WShape.arms,WShape.armsAll])
  (show(WTm.eq .res (.lit (.bool true))).value [] { args:=args,res:=some (.bool true),after:=args }=some (.bool (true==true))from w_eq_bool (w_res rfl) w_lit) rfl
theorem attach_call{l:OpenLaw}{n:Nat}{q:Jt}{loose:Jr}{XP:(Ji)->JB->Prop}{YP:Jx->JB->Prop}{d:DefRec}(hn:l.most=some n)(hdf:d.params.defaults=[])(call:∀ (w:Jx) (s₀ s₁:Ju) (mg mb:Ji) (fa:Jy) (o:Obj) (pm cd doc:Jw) (a:Jy) (vs:Jn) (ns:Jq),
   Ground q loose [] XP w s₀ mg mb s₁.heap->YP w s₁.heap ->
   s₁.heap.get? fa=some o->o.data=.func (docDef d.name d.params d.body d.scope pm cd doc)->s₁.heap.CodeRec cd d.name->mg d.name=some (.ref fa) ->
   s₁.heap.get? a=some { cls:=.type "list",data:=.seq vs.toArray }->IntsAre vs ns->ns.length<=n->s₁.gens=#[] ->
   codeAny (model l.prog w) callerA (.call (.ref fa) ⟨[.ref a],[]⟩) (λr s'=>r=.ok (.ret (.bool true))/\OldK s₁.heap s'.heap/\s'.os=s₁.os/\AllBare s'.gens) s₁) :
  WalkO q loose XP YP l.row.toRowW d [] (λf vs=>PySem.call f vs):=by
 intro w s₀ s₁ mg mb G Y fa o pm cd doc dV kV ho hd hcd hD hmg hg args vals as hpre hlay hrd hwl hlo;obtain rfl:dV=.none:=Dflts.none hD hdf;obtain rfl:kV=.none:=Dflts.noKw hD;obtain⟨a,vs,ns,rfl,rfl,hobj,hints,hlen⟩:=zA hn hpre hwl;refine enter_call (codeAny_mono (call w s₀ s₁ mg mb fa o pm cd doc a vs ns G Y ho (fd_plain hd) hcd hmg hobj hints hlen hg) λr s' hq=>?_);obtain⟨rfl,h2,h3,h4⟩:=hq;exact⟨.inl ⟨.bool true,.bool true,[],rfl,λ_=>rfl,.bool true,zh l _,λ_=>⟨List.Pairwise.nil,λ_ hm=>(nomatch hm)⟩⟩,h2,h3,h4⟩
end Att
namespace L2
open PySem PySem.Spec PyProof.Rows
theorem rh:∀{vs:Jn} {ns:Jq},IntsAre vs ns->Vals (ns.map V.int) vs
 |_,_,.nil=>.nil
 |_,_,.cons n t h=>.cons ⟨t,rfl⟩ (rh h)
def bG(s:JA)(j:Nat):JA:=match s with
 |.ClassDef _ _ _ body _ _ _ _ _ _ _=>body.getD j (.Pass ⟨0,0,0,0⟩)
 |_=>.Pass ⟨0,0,0,0⟩
def dg(s:JA):Arguments:=match s with
 |.FunctionDef _ a _ _ _ _ _ _ _ _=>a
 |_=>{ posonlyargs:=[],args:=[],vararg:=none,kwonlyargs:=[],kw_defaults:=[],kwarg:=none,defaults:=[] }
def bP(s:JA):List JA:=match s with
 |.FunctionDef _ _ b _ _ _ _ _ _ _=>b
 |_=>[]
def aj(s:JA):Scope:=match s with
 |.FunctionDef _ _ _ _ _ _ sc _ _ _=>sc
 |_=>{ kind:=.function,names:=[],isGenerator:=false,isCoroutine:=false }
abbrev CX0:CXT:=λ_ _ _ _ _ _=>False
abbrev E0:XK:=λ_ _ _=>False
theorem rP{X:Cx}:fN CX0 X E0:=λ_ _ _ _ _ _ _ h=>h.elim
structure Fun(K:W.Frag)(x qual:Str)(st:JA)(f:Jy)(fd:Jp):Prop where
 ex:∃(oc:Jw) (od:Option Jy) (kV doc pm:Jw) (an:Option Jy) (cdv ct:Jw) (osl:Array Jl),
  fd=W.fnOf x qual (dg st) (bP st) (aj st) .none kV doc pm an cdv ct/\K.lookup f=some ⟨oc,od,.func fd,osl⟩/\W.codeIn K cdv qual=true
 kp:W.keepIn K (.ref f)=true
section
variable{P:Jt}{w:Jx}{K:W.Frag}{mg:Ji}{base:JB}
theorem Fun.ok{x qual:Str}{st:JA}{f:Jy}{fd:Jp}{N ps:Jr}{k:Nat}{sp:Sp}(F:Fun K x qual st f fd)(S:FnScope N ps (aj st))(len:∀ vs H Q E,sp vs H Q E->vs.length=ps.length)(hbody:∀ (cdv:Jw) (A:Jv) (outer:List Env) (s:Ju) (H:Hp) (vs:List V) (Q:VK) (E:XK),Room k (A.deeper (envOfC qual (aj st) s.heap.objs.size f cdv))->sp vs H Q E ->
   ∃ t,PSs (fA CX0 P w K mg base N qual (aj st) f cdv A outer s H E).nox (bP st) t/\t { nx:=λ_ H'=>Q .non H',rt:=Q } (start N vs) H):FnOk P w K mg base CX0 (k+1) f fd ps sp:=by
 obtain⟨oc,od,kV,doc,pm,an,cdv,ct,osl,rfl,lk,hcd⟩:=F.ex;refine wm lk hcd S len λA outer s H vs Q E hr hsp=>?_;obtain⟨t,h,q⟩:=hbody cdv A outer s H vs Q E hr hsp;exact⟨t,h.nox,q⟩
theorem Fun.binds{x qual:Str}{st:JA}{f:Jy}{fd:Jp}{ps:Jr}(F:Fun K x qual st f fd)(h:∀(kV doc pm:Jw) (an:Option Jy) (cdv ct:Jw) (us:Jn),us.length=ps.length->bindArgs (W.fnOf x qual (dg st) (bP st) (aj st) .none kV doc pm an cdv ct) ⟨us,[]⟩=pure (ps.zip us)):Binds K fd ps []:=by obtain⟨oc,od,kV,doc,pm,an,cdv,ct,osl,rfl,lk,hcd⟩:=F.ex;exact .all (h kV doc pm an cdv ct)
theorem yl{x qual:Str}{st:JA}{f:Jy}{oc:Jw}{od an:Option Jy}{osl:Array Jl}{kV doc pm cdv ct:Jw}(l:K.lookup f=some ⟨oc,od,.func (W.fnOf x qual (dg st) (bP st) (aj st) .none kV doc pm an cdv ct),osl⟩)(c:W.codeIn K cdv qual=true)(k:W.keepIn K (.ref f)=true):Fun K x qual st f (W.fnOf x qual (dg st) (bP st) (aj st) .none kV doc pm an cdv ct):=⟨⟨oc,od,kV,doc,pm,an,cdv,ct,osl,rfl,l,c⟩,k⟩
end
theorem bc{n:Nat}(h:n<=1000):n<sizeLine:=Nat.lt_of_le_of_lt h (by decide)
theorem aw{A B:Prop}(h:B):if false=true then A else B:=by rw[Jf Zi];exact h
theorem bn{A B:Prop}(h:A):if true=true then A else B:=by rw[Jg rfl];exact h
theorem km{c A B:Prop}[Decidable c](hc:c)(h:B):if(!decide c)=true then A else B:=by rw[decide_eq_true hc];exact aw h
def Same(H H':Hp):Prop:=∀b o,H b=some o->H' b=some o
theorem Same.refl(H:Hp):Same H H:=λ_ _ h=>h
theorem Same.trans{H H1 H2:Hp}(a:Same H H1)(b:Same H1 H2):Same H H2:=λc o h=>b c o (a c o h)
theorem Same.free{H H':Hp}(e:Same H H'){l:Jy}(h:H' l=Option.none):H l=Option.none:=by
 cases q:H l with
 |none=>rfl
 |some o =>rw[e l o q]at h;cases h
section
variable{κ:Type}[DecidableEq κ]
theorem Bv{kvs:List (κ×V)}{k:κ}(h:bw kvs k=none):¬k∈kvs.map (·.1):=by intro m;obtain⟨p,hp,e⟩:=ZF.mp m;have q:(kvs.any λkv=>decide (kv.1=k))=true:=List.any_eq_true.mpr ⟨p,hp,decide_eq_true e⟩;rw[gO,h]at q;exact absurd q (by simp)
theorem qC{kvs:List (κ×V)}{k:κ}{v:V}(h:bw kvs k=some v):k∈kvs.map (·.1):=by
 have q:(kvs.any λkv=>decide (kv.1=k))=true:=by
  rw[gO,h]
  all_goals rfl
 obtain⟨p,hp,e⟩:=List.any_eq_true.mp q;exact ZF.mpr ⟨p,hp,ZY e⟩
end
theorem jN{env:Env}:∀{names:List (Str×NameKind)} {x:Str} {k:NameKind},
  (names.map fun(n,k)=>if(k==NameKind.free&&env.scope.kind == .function&&env.kindOf n==some .cell)then(n,NameKind.cell)else(n,k)).lookup x=some k ->
  ∃k',names.lookup x=some k'/\(k=k'\/(k'=.free/\k=.cell))
 | [],_,_,h=>by simp at h
 |(n,k0)::r,x,k,h=>by
  have ih:=@jN env r x k;rw[Zk]at h;by_cases hc:(k0==NameKind.free&&env.scope.kind == .function&&env.kindOf n==some .cell)=true
  ·have e:(if(k0==NameKind.free&&env.scope.kind == .function&&env.kindOf n==some .cell)=true then(n,NameKind.cell)else(n,k0))=(n,NameKind.cell):=Jg hc;simp only[e]at h;cases hx:x==n with
   |true =>
    simp only[ZL,hx]at h ⊢;have hf:k0=.free:=by have:=hc;simp only[ZD,ZO]at this;exact this.1.1
    exact⟨k0,rfl,.inr ⟨hf,(Zb h).symm⟩⟩
   |false =>simp only[ZL,hx]at h ⊢;exact ih h
  ·have e:(if(k0==NameKind.free&&env.scope.kind == .function&&env.kindOf n==some .cell)=true then(n,NameKind.cell)else(n,k0))=(n,k0):=Jf hc;simp only[e]at h;cases hx:x==n with
   |true =>simp only[ZL,hx]at h ⊢;exact⟨k0,rfl,.inl (Zb h).symm⟩
   |false =>simp only[ZL,hx]at h ⊢;exact ih h
theorem lO{env:Env}:∀{names:List (Str×NameKind)} {x:Str},names.lookup x=some .free ->
  (names.map fun(n,k)=>if(k==NameKind.free&&env.scope.kind == .function&&env.kindOf n==some .cell)then(n,NameKind.cell)else(n,k)).lookup x=some .cell \/
  (names.map fun(n,k)=>if(k==NameKind.free&&env.scope.kind == .function&&env.kindOf n==some .cell)then(n,NameKind.cell)else(n,k)).lookup x=some .free
 | [],_,h=>by simp at h
 |(n,k0)::r,x,h=>by
  have ih:=@lO env r x;rw[Zk];by_cases hc:(k0==NameKind.free&&env.scope.kind == .function&&env.kindOf n==some .cell)=true
  ·have e:(if(k0==NameKind.free&&env.scope.kind == .function&&env.kindOf n==some .cell)=true then(n,NameKind.cell)else(n,k0))=(n,NameKind.cell):=Jg hc;simp only[e];cases hx:x==n with
   |true =>
    simp only[ZL,hx]at h ⊢
    first|exact .inl rfl|exact .inl trivial
   |false =>simp only[ZL,hx]at h ⊢;exact ih h
  ·have e:(if(k0==NameKind.free&&env.scope.kind == .function&&env.kindOf n==some .cell)=true then(n,NameKind.cell)else(n,k0))=(n,k0):=Jf hc;simp only[e];cases hx:x==n with
   |true =>simp only[ZL,hx]at h ⊢;exact .inr h
   |false =>simp only[ZL,hx]at h ⊢;exact ih h
def cJ(env:Env):List (Str×NameKind)->List (Str×Jy)->List (Str×Jy)
 | [],acc=>acc
 |y::r,acc=>if(y.2==NameKind.free)=true then cJ env r ((y.1,(env.cells.lookup y.1).getD 0)::acc)else cJ env r acc
theorem pQ{env:Env}:∀{names:List (Str×NameKind)} {acc:List (Str×Jy)},(∀y∈names,y.2=.free->∃c,env.cells.lookup y.1=some c) ->
  (forIn names acc fun(x:Str×NameKind) (cs:List (Str×Jy))=>if(x.2==NameKind.free)=true then do let c ←cellOf env x.1;pure (ForInStep.yield ((x.1,c)::cs))else pure (ForInStep.yield cs):Sem (List (Str×Jy)))=pure (cJ env names acc)
 | [],_,_=>rfl
 |y::r,acc,h=>by
  rw[List.forIn_cons];by_cases hy:(y.2==NameKind.free)=true
  ·obtain⟨c,hc⟩:=h y Zl (by simpa using hy);have e:cellOf env y.1=pure c:=by unfold cellOf;rw[hc]
   rw[Jg hy,e,pure_bind,pure_bind];show(forIn r ((y.1,c)::acc) _:Sem (List (Str×Jy)))=_;rw[pQ λz hz=>h z (Zf _ hz)];show _=pure (if(y.2==NameKind.free)=true then cJ env r ((y.1,(env.cells.lookup y.1).getD 0)::acc)else cJ env r acc);rw[Jg hy,hc];rfl
  ·rw[Jf hy,pure_bind];show(forIn r acc _:Sem (List (Str×Jy)))=_;rw[pQ λz hz=>h z (Zf _ hz)];show _=pure (if(y.2==NameKind.free)=true then cJ env r ((y.1,(env.cells.lookup y.1).getD 0)::acc)else cJ env r acc);rw[Jf hy]
theorem Cn{scope:Scope}{env:Env}(h:∀y∈scope.names,y.2=.free->∃c,env.cells.lookup y.1=some c):closureFor scope env=pure (cJ env scope.names []):=by have q:=pQ (env:=env) (names:=scope.names) (acc:=[]) h;unfold closureFor;exact(by first|(simp only[bind_pure];exact q)|(rw[bind_pure];exact q)|exact q)
theorem pR{env:Env}:∀{names:List (Str×NameKind)} {acc:List (Str×Jy)},(∀y∈names,y.2=.free->∃c,env.cells.lookup y.1=some c)->(∀x c,acc.lookup x=some c->env.cells.lookup x=some c) ->
  ∀x c,(cJ env names acc).lookup x=some c->env.cells.lookup x=some c
 | [],_,_,ha=>ha
 |y::r,acc,h,ha=>by
  have hr:∀z∈r,z.2=.free->∃c,env.cells.lookup z.1=some c:=λz hz=>h z (Zf _ hz);intro x c e;unfold cJ at e;by_cases hy:(y.2==NameKind.free)=true
  ·rw[Jg hy]at e;refine pR hr (λx' c' e'=>?_) x c e;obtain⟨d,hd⟩:=h y Zl (by simpa using hy);rw[hd,Option.getD_some]at e';cases hx:x'==y.1 with
   |true =>simp only[ZL,hx]at e';have e1:x'=y.1:=eq_of_beq hx;rw[e1,hd];exact e'
   |false =>simp only[ZL,hx]at e';exact ha x' c' e'
  ·rw[Jf hy]at e;exact pR hr ha x c e
theorem mZ{env:Env}:∀{names:List (Str×NameKind)} {acc:List (Str×Jy)} {x:Str},(∃c,acc.lookup x=some c)->∃c,(cJ env names acc).lookup x=some c
 | [],_,_,h=>h
 |y::r,acc,x,h=>by
  unfold cJ;by_cases hy:(y.2==NameKind.free)=true
  ·rw[Jg hy];refine mZ ?_;cases hx:x==y.1 with
   |true=>exact⟨(env.cells.lookup y.1).getD 0,by simp only[ZL,hx]⟩
   |false =>obtain⟨c,e⟩:=h;exact⟨c,by simp only[ZL,hx];exact e⟩
  ·rw[Jf hy];exact mZ h
theorem pP{env:Env}:∀{names:List (Str×NameKind)} {acc:List (Str×Jy)} {x:Str},names.lookup x=some .free->∃c,(cJ env names acc).lookup x=some c
 | [],_,_,h=>by simp at h
 |(n,k)::r,acc,x,h=>by
  unfold cJ;cases hx:x==n with
  |true =>
   simp only[ZL,hx]at h;have hy:(k==NameKind.free)=true:=by rw[Zb h];rfl
   rw[Jg hy];exact mZ ⟨(env.cells.lookup n).getD 0,by simp only[ZL,hx]⟩
  |false =>
   simp only[ZL,hx]at h;by_cases hy:(k==NameKind.free)=true
   ·rw[Jg hy];exact pP h
   ·rw[Jf hy];exact pP h
abbrev aZ(X:Cx)(scope:Scope)(N':Jr)(C:Jy)(s0:Ju)(H0:Hp)(ex:List Jy):Cx where
 prog:=X.prog
 w:=X.w
 K:=X.K
 mg:=X.mg
 base:=X.base
 A:=X.A
 N:=N'
 s₀:=s0
 H₀:=H0
 env:=compEnvC scope (cJ X.env scope.names []) C X.env
 outer:=X.stack
 stack:=X.stack
 ex:=ex
 fn:=λ_=>false
 calm:=X.calm
 pn:=[]
 xe:=λ_ _=>False
def CapOk(X:Cx)(sc:Scope):Js->Jr->Prop
 | [],[]=>True
 |j::js,x::xs=>X.N[j]?=some x/\sc.names.lookup x=some .free/\CapOk X sc js xs
 |_,_=>False
theorem CapOk.get{X:Cx}{sc:Scope}:∀{js:Js} {xs:Jr} {i:Nat} {x:Str},CapOk X sc js xs->xs[i]?=some x ->
  ∃j,js[i]?=some j/\X.N[j]?=some x/\sc.names.lookup x=some .free
 | [],[],_,_,_,e=>by simp at e
 |j::js,y::xs,0,x,h,e=>by
  obtain⟨h1,h2,_⟩:=h;have e':y=x:=by simpa using e
  subst e';exact⟨j,rfl,h1,h2⟩
 |j::js,y::xs,i+1,x,h,e=>by obtain⟨_,_,h6⟩:=h;obtain⟨j',q⟩:=CapOk.get (i:=i) (x:=x) h6 (by simpa using e);exact⟨j',by simpa using q.1,q.2⟩
 | [],_::_,_,_,h,_=>h.elim
 |_::_,[],_,_,h,_=>h.elim
theorem CapOk.len{X:Cx}{sc:Scope}:∀{js:Js} {xs:Jr},CapOk X sc js xs->js.length=xs.length
 | [],[],_=>rfl
 |j::js,y::xs,h=>by obtain⟨_,_,h6⟩:=h;simp[CapOk.len h6]
 | [],_::_,h=>h.elim
 |_::_,[],h=>h.elim
structure CompOk(X:Cx)(scope:Scope)(cap:Js)(capN:Jr):Prop where
 kind:scope.kind=.function
 names:∀x∈scope.names,x.2=.local->scope.names.lookup x.1=some .local
 nocell:∀y∈scope.names,y.2≠.cell
 frees:(scope.names.all λy=>!(y.2==NameKind.free) ||(X.env.kindOf y.1==some .cell ||X.env.kindOf y.1==some .free))=true
 cap:CapOk X scope cap capN
section
variable{X:Cx}{scope:Scope}{cap:Js}{capN:Jr}
theorem CompOk.around(O:CompOk X scope cap capN){y:Str×NameKind}(hy:y∈scope.names)(hf:y.2=.free):X.env.kindOf y.1=some .cell\/X.env.kindOf y.1=some .free:=by have q:=Yu.mp O.frees y hy;rw[hf]at q;simpa using q
theorem CompOk.cells(O:CompOk X scope cap capN)(ok:X.Ok):∀y∈scope.names,y.2=.free->∃c,X.env.cells.lookup y.1=some c:=λy hy hf=>ok.has _ (O.around hy hf)
theorem CompOk.clos(O:CompOk X scope cap capN)(ok:X.Ok):closureFor scope X.env=pure (cJ X.env scope.names []):=Cn (O.cells ok)
theorem CompOk.sub(O:CompOk X scope cap capN)(ok:X.Ok):∀x c,(cJ X.env scope.names []).lookup x=some c->X.env.cells.lookup x=some c:=pR (O.cells ok) λx c e=>by simp at e
theorem CompOk.has(_O:CompOk X scope cap capN){x:Str}(h:scope.names.lookup x=some .free):∃c,(cJ X.env scope.names []).lookup x=some c:=pP h
end
def dA(n:Nat)(cap:Js)(σ:St):St:=List.replicate n none++cap.map (λj=>(σ[j]?).join)
theorem vU{n:Nat}{cap:Js}{σ:St}:(dA n cap σ).length=n+cap.length:=by unfold dA;rw[Zn,List.length_replicate,Ze]
theorem oh{n:Nat}{cap:Js}{σ:St}{i:Nat}{v:V}(h:(dA n cap σ)[i]?=some (some v)):n<=i/\∃j,cap[i-n]?=some j/\σ[j]?=some (some v):=by
 unfold dA at h;by_cases hi:i<n
 ·rw[Yi (by simpa using hi),List.getElem?_replicate]at h;rw[Jg hi]at h;cases h
 ·have hi':n<=i:=Nat.le_of_not_lt hi;rw[Z0 (by simpa using hi'),List.length_replicate,ZE]at h;refine⟨hi',?_⟩;cases e:cap[i-n]? with
  |none=>rw[e]at h;cases h
  |some j =>
   rw[e]at h;refine⟨j,rfl,?_⟩;have h':(σ[j]?).join=some v:=by simpa using h
   cases q:σ[j]? with
   |none=>rw[q]at h';cases h'
   |some o =>rw[q]at h';have:o=some v:=h';rw[this]
section
variable{X:Cx}{JC:Jj}{σ:St}{H:Hp}{s:Ju}{scope:Scope}{cap:Js}{capN N':Jr}{C:Jy}{ex:List Jy}
theorem xS(I:Inv X JC σ H s)(O:CompOk X scope cap capN)(hC:s.heap.objs.size<=C)(hex:∀b∈ex,bY X JC H b/\b<s.heap.objs.size):(aZ X scope N' C s H ex).Ok where
 mod:=I.ok.mod
 kind:=O.kind
 glob:=I.ok.glob
 blt:=I.ok.blt
 above:=hC
 inj:=λx y c h1 h2=>I.ok.inj x y c (O.sub I.ok x c h1) (O.sub I.ok y c h2)
 has:=λx hx=>by
  have hx':(relabel scope X.env).names.lookup x=some .cell\/(relabel scope X.env).names.lookup x=some .free:=hx;have key:∀k,(relabel scope X.env).names.lookup x=some k->(k=.cell\/k=.free)->scope.names.lookup x=some .free:=λk e hk=>by
   obtain⟨k',e',q⟩:=jN (env:=X.env) e;rcases q with q|⟨q,_⟩
   ·subst q;rcases hk with z|z
    ·subst z;exact absurd rfl (O.nocell _ (y0 e'))
    ·subst z;exact e'
   ·subst q;exact e'
  rcases hx' with e|e
  ·exact O.has (key _ e (.inl rfl))
  ·exact O.has (key _ e (.inr rfl))
 cab:=λx c h _=>by cases h
 hd:=I.ok.hd
 frames:=I.ok.frames
 stk:=.inl rfl
 exf:=λb hb=>by obtain⟨⟨f0,f1,f2,f3,f4,f5⟩,lt⟩:=hex b hb;exact⟨Zy (Zz lt hC),λx c e=>f4 x c (O.sub I.ok x c e)⟩
 bs:=I.bs
 bsz:=Zr I.ok.bsz I.sz
 noex:=λb o e hb=>by
  obtain⟨⟨f0,f1,f2,f3,f4,f5⟩,lt⟩:=hex b hb;rcases f3 with z|z
  ·exact I.ok.noex b o e z
  ·exact absurd (Zz (Zm e) (Zr I.ok.bsz z)) (Yl _)
 exfs:=λb hb z=>by
  obtain⟨⟨f0,f1,f2,f3,f4,f5⟩,lt⟩:=hex b hb;rcases Zj.mp (I.stkSub b z)with e|e
  ·exact f1 e
  ·exact f2 e
 funs:=I.stack
 frf:=I.stkFree
theorem yJ(I:Inv X JC σ H s){b:Jy}(hb:s.heap.objs.size<=b):b∉frs X.stack:=λz=>by
 rcases Zj.mp (I.stkSub b z)with e|e
 ·exact absurd (Zz I.lt hb) (by rw[e];exact Yl _)
 ·exact I.nofs hb e
theorem AO(I:Inv X JC σ H s){b:Jy}(hb:s.heap.objs.size<=b):∀x c,X.env.cells.lookup x=some c->c≠b:=λx c e z=>by obtain⟨v,q⟩:=I.cell x c e;exact absurd (Zz q.lt (by rw[z];exact hb)) (Yl _)
theorem vV{n:Nat}{h1:JB}{m1:Ji}{tk:Nat}(I:Inv X JC σ H s)(O:CompOk X scope cap capN)(hN:N'.length=n+capN.length)(hN2:∀i x,n<=i->N'[i]?=some x->capN[i-n]?=some x)(hC:s.heap.objs.size<=C)(hex:∀b∈ex,bY X JC H b/\b<s.heap.objs.size)(hk:∀b o,s.heap.get? b=some o->h1.get? b=some o)(hn:h1.Ns C m1):Inv (aZ X scope N' C s H ex) [] (dA n cap σ) H { s with heap:=h1,toks:=tk }:=by
 refine⟨xS I O hC hex,rfl,I.bare,Un.kept hk,⟨m1,hn,λi x v e1 e2 e3=>?_⟩,λx c e=>?_,I.hok.fresh hC,λx c e=>I.freeC x c (O.sub I.ok x c e),λp hp=>absurd (show p∈([]:Jj)from hp) (by simp),I.hok.kept hk,?_⟩
 ·obtain⟨hi,j,ej,es⟩:=oh e2;obtain⟨j',q1,q2,qf⟩:=O.cap.get (hN2 i x hi e1);have q3:=O.around (y0 qf) rfl;have q4:=lO (env:=X.env) qf;obtain⟨c,q5⟩:=O.has qf;have q6:=O.sub I.ok x c q5;rw[q1]at ej;cases ej;obtain⟨m0,hn0,hl0⟩:=I.loc;obtain⟨u,r,l⟩:=hl0 _ x v q2 es (by
   rcases q3 with z|z
   ·exact .inr (.inl z)
   ·exact .inr (.inr z))
  refine⟨u,r,.inr ⟨q4,c,q5,?_⟩⟩;rcases l with⟨k,_⟩|⟨_,c',e',z⟩
  ·rcases q3 with z|z
   ·have z':X.env.kindOf x=some .cell:=z;rw[z']at k;cases k
   ·have z':X.env.kindOf x=some .free:=z;rw[z']at k;cases k
  ·rw[q6]at e';cases e';obtain⟨o,ho,hd⟩:=z;exact⟨o,hk _ _ ho,hd⟩
 ·obtain⟨v,o,ho,hd⟩:=I.cell x c (O.sub I.ok x c e);exact⟨v,o,hk _ _ ho,hd⟩
 ·rw[vU,O.cap.len];exact hN.symm
end
def pM(X:Cx)(ifs:List Jz)(t:TT):Prop :=
 ∀(JC:Jj) (s:Ju) (σ:St) (H:Hp) (Q:Bool->Hp->Prop),Inv X JC σ H s->t σ H Q ->
  wpAny (model X.prog X.w) X.A (forIn ifs true λc r=>if r=true then do let ok ←isTrue c X.env (eval c X.env);pure (ForInStep.yield ok)else pure (ForInStep.yield r)) (TP X JC σ Q) X.xe s
def pI:TT:=λ_ H Q=>Q true H
theorem A6{X:Cx}:pM X [] pI:=λ_ _ _ H _ I h=>wpAny_tests_nil ⟨H,I,h⟩
theorem A7{X:Cx}{c:Jz}{t:TT}(h:PT X c t):pM X [c] t:=λJC s σ H Q I hw=>wpAny_tests_one (h JC s σ H Q I hw)
def GK(n:Nat)(g:TG):Prop:=∀x σ H Q,g x σ H Q->g x σ H (λσ2 H2=>(σ2.length=σ.length/\∀i,n<=i->σ2[i]?=σ[i]?)/\Q σ2 H2)
theorem gj{n i:Nat}(hi:i<n):GK n (dv i):=λx σ H Q h=>⟨⟨List.length_set,λj hj=>List.getElem?_set_ne (by omega)⟩,h⟩
def jS(n:Nat)(cap:Js)(g:TG)(tc:TT)(te:TE)(σ:St)(J:It)(H1:Hp)(Q:VK):Prop :=
 ∃W:Nat->Nat->List V->Hp->Prop,(∃m,W 0 m [] H1)/\∀i m ys H,W i m ys H ->
  (J.stop i H/\∀p,H p=none->Q (.ref p) (upd H p (.lst ys))) \/
  (J.go i H/\ys.length<sizeLine/\∀ x H',J.yld i H x H'->g x (dA n cap σ) H' λσ2 H2=>tc σ2 H2 λb H3 =>
   if b=true then te σ2 H3 λy H4=>∃ m',m'<m/\W (i+1) m' (ys++[y]) H4 else ∃ m',m'<m/\W (i+1) m' ys H3)
def rS(n:Nat)(cap:Js)(wi:TI)(g:TG)(tc:TT)(te:TE):TE:=λσ H Q=>wi σ H λJ H1=>jS n cap g tc te σ J H1 Q
theorem jY{prog:Jt}{w:Jx}{A:Jv}{R:Result->Ju->Prop}{s:Ju}{elt target iter:Jz}{ifs:List Jz}{scope:Scope}{pos:Pos}{it acc:Jw}{env:Env}(I:Nat->Ju->Prop)(turn:∀ n s,I n s->wpAny (model prog w) A (pyNext it) (λr s₁=>match r with
   |none=>R (.ok .next) s₁
   | some v=>wpAny (model prog w) A (letOwnedTupleGo target it v) (λ_ s₁'=>wpAny (model prog w) A (assign target env v) (λ_ s₂ =>
     wpAny (model prog w) A (forIn ifs true λc r=>if r=true then do let ok ←isTrue c env (eval c env);pure (ForInStep.yield ok) else pure (ForInStep.yield r)) (λok s₃ =>
      if ok=true then wpAny (model prog w) A (eval elt env) (λx s₄ =>
       wpAny (model prog w) A (call (.builtin "list.append") [acc,x]) (λ_ s₅=>∃ m,m<n/\I m s₅) (λ_ _=>False) s₄) (λ_ _=>False) s₃
      else ∃ m,m<n/\I m s₃) (λ_ _=>False) s₂) (λ_ _=>False) s₁') (λ_ _=>False) s₁) (λ_ _=>False) s)(n:Nat)(h:I n s) :
  codeAny (model prog w) A (.compLoop (.ListComp elt [⟨target,iter,ifs,0⟩] scope pos) 0 it acc env) R s:=by
 refine codeAny_loop rfl I (λn s hI=>?_) n h;show wpAny _ A ((compTurn (.ListComp elt [⟨target,iter,ifs,0⟩] scope pos) 0 it acc env).onRaise (λx=>do noteFrame x env;theTreesLotGoes x)) _ _ s;refine wpAny_noted (wpAny_noRaise ?_);rw[compTurn_list];refine z0 (wpAny_standAt (z0 (ZK (turn n s hI) (λr s₁ h₁=>?_) λ_ _ h'=>h')));cases r with
 |none=>exact z6 h₁
 |some v =>
  refine z0 (ZK h₁ (λ_ s₁' h₁'=>?_) λ_ _ h'=>h');refine z0 (ZK h₁' (λ_ s₂ h₂=>z0 (ZK h₂ (λok s₃ h₃=>?_) λ_ _ h'=>h')) λ_ _ h'=>h');cases ok with
  |false=>exact z6 ⟨rfl,h₃⟩
  |true =>exact z0 (z0 (ZK h₃ (λx s₄ h₄=>z0 (ZK h₄ (λ_ s₅ h₅=>z6 (z6 ⟨rfl,h₅⟩)) λ_ _ h'=>h')) λ_ _ h'=>h'))
theorem CW{own capN:Jr}:∀(i:Nat) (x:Str),own.length<=i->(own++capN)[i]?=some x->capN[i-own.length]?=some x:=λi x hi e=>by rw[Z0 hi]at e;exact e
section
variable{X:Cx}{JC:Jj}{σ:St}{H2:Hp}{s2:Ju}{scope:Scope}{cap:Js}{capN own:Jr}
variable{elt tg iter:Jz}{ifs:List Jz}{pos:Pos}{g:TG}{tc:TT}{te:TE}{Q:VK}
abbrev hX(its:Jn)(nn:Nat):Obj:={ cls:=.type "list",data:=.seq its.toArray nn }
theorem qJ{J:It}{fp:List Jy}{it:Jy}{tn:Nat->JB->Prop}{E:Jh}{RR:Jw->Jy->Result->Ju->Prop}(O:CompOk X scope cap capN)(hc:X.calm=true)(hg:∀C s0 H0 ex,PG (aZ X scope (own++capN) C s0 H0 ex) tg g)(gk:GK own.length g)(ht:∀C s0 H0 ex,pM (aZ X scope (own++capN) C s0 H0 ex) ifs tc)(he:∀C s0 H0 ex,PE (aZ X scope (own++capN) C s0 H0 ex) elt te)(I2:Inv X JC σ H2 s2)(T:Turn X.prog X.w X.K tg J fp it tn)(st2:tn 0 s2.heap)(f2:∀b∈fp,bY X JC H2 b)(hq:jS own.length cap g tc te σ J H2 Q)(fin:∀(D C:Jy) (s4:Ju) (H4:Hp) (ys:List V),Inv X JC σ (upd H4 D (.lst ys)) s4->(∃m,s4.heap.Ns C m)->bY X JC (upd H4 D (.lst ys)) C->Q (.ref D) (upd H4 D (.lst ys))->RR (.ref D) C (.ok .next) s4) :
  wpAny (model X.prog X.w) X.A (newList []) (λacc s₃=>wpAny (model X.prog X.w) X.A (newFunctionEnv scope X.env.globals (cJ X.env scope.names []) [] X.env.qual none .none (some X.env)) (λcenv s₄ =>
   codeAny (model X.prog X.w) X.A (.compStart (.ListComp elt [⟨tg,iter,ifs,0⟩] scope pos) 0 (.ref it) acc { cenv with scope:=relabel scope X.env }) (RR acc cenv.locals) s₄) E s₃) E s2:=by
 obtain⟨W,⟨m0,w0⟩,turn⟩:=hq;refine Z5 (wpAny_newFunctionEnv O.nocell (by intro y hy;simp at hy) (λh₁ hns₁ hsb₁=>?_) O.kind);dsimp only at hns₁ hsb₁ ⊢;generalize hHp:s2.heap.push { cls:=.type "list",dict:=none,data:=.seq ([]:Jn).toArray }=Hp2 at hns₁ hsb₁ ⊢;have hC:Hp2.objs.size=s2.heap.objs.size+1:=by rw[<-hHp,Heap.size_push]
 have hDC:s2.heap.objs.size≠Hp2.objs.size:=by rw[hC];exact Zy (Ye _)
 have hCle:s2.heap.objs.size<=Hp2.objs.size:=by rw[hC];exact Nat.le_succ _
 have below:∀b,b<s2.heap.objs.size->b≠Hp2.objs.size/\b≠s2.heap.objs.size:=λb hb=>⟨by rw[hC];exact Zy (Nat.lt_succ_of_lt hb),Zy hb⟩
 have old:∀b o,s2.heap.get? b=some o->h₁.get? b=some o:=λb o e=>hsb₁.extBut b o (below b (Zm e)).1 (z9 _ (hHp▸z9 _ e));have hacc:h₁.get? s2.heap.objs.size=some (hX [] 0):=hsb₁.extBut _ _ hDC (z9 _ (hHp▸Zo _ rfl));generalize hDe:s2.heap.objs.size=D at *;generalize hCe:Hp2.objs.size=C at *;have hfpl:∀b∈fp,b<s2.heap.objs.size:=λb hb=>by obtain⟨o,e,_⟩:=T.obj _ _ st2 b hb;exact Zm e
 have hex:∀b∈fp,bY X JC H2 b/\b<s2.heap.objs.size:=λb hb=>⟨f2 b hb,hfpl b hb⟩
 have hCle':s2.heap.objs.size<=C:=by rw[hDe];exact hCle
 have hDle:s2.heap.objs.size<=D:=by rw[hDe];exact Za _
 have hDfp:∀b∈fp,D≠b:=λb hb z=>by have:=hfpl b hb;rw[<-z]at this;exact absurd this (Nat.not_lt.mpr hDle)
 have I0:∀tk,Inv (aZ X scope (own++capN) C s2 H2 fp) [] (dA own.length cap σ) H2 { s2 with heap:=h₁,toks:=tk }:=λtk=>vV I2 O (by simp) CW hCle' hex old hns₁;have Dst:D∉frs X.stack:=yJ I2 hDle;have Dcell:∀x c,(aZ X scope (own++capN) C s2 H2 fp).env.cells.lookup x=some c->c≠D:=λx c e=>AO I2 hDle x c (O.sub I2.ok x c e);have pinD:∀{σ':St} {H':Hp} {s':Ju} {its:Jn} {nn:Nat},Inv (aZ X scope (own++capN) C s2 H2 fp) [] σ' H' s'->s'.heap.get? D=some (hX its nn)->H' D=none->Inv (aZ X scope (own++capN) C s2 H2 fp) [(D,hX its nn)] σ' H' s':=fun{σ' H' s' its nn} I e hn =>
  I.pins_of λp hp=>by
   have z:p=(D,hX its nn):=by simpa using hp
   subst z;exact⟨e,hn,hDC,Dst,λv q=>by cases q⟩
 have loop:∀s₃:Ju,s₃={ s2 with heap:=h₁,toks:=s2.toks+([]:List (Str×Jw)).length } ->
   codeAny (model X.prog X.w) X.A (.compLoop (.ListComp elt [⟨tg,iter,ifs,0⟩] scope pos) 0 (.ref it) (.ref D) (compEnvC scope (cJ X.env scope.names []) C X.env)) (RR (.ref D) C) s₃:=by
  rintro s₃ rfl;refine jY (λk s'=>∃(i:Nat) (ys:List V) (its:Jn) (nn:Nat) (H':Hp),Inv (aZ X scope (own++capN) C s2 H2 fp) [(D,hX its nn)] (dA own.length cap σ) H' s'/\tn i s'.heap/\(∀b∈fp,H' b=none)/\Vals ys its/\ys.length<=sizeLine/\W i k ys H') ?_ m0
   ⟨0,[],[],0,H2,pinD (I0 _) hacc (I2.hok.fresh hDle),T.keep _ _ _ st2 (λb hb o e=>old b o e),λb hb=>(f2 b hb).1,.nil,ZM _,w0⟩
  rintro k s3 ⟨i,ys,its,nn,H3,I3,st3,fr3,rv,hz,w3⟩;have oD3:s3.heap.get? D=some (hX its nn):=(I3.pin (D,hX its nn) (by simp)).1;have fpY:∀{H':Hp},(∀b∈fp,H' b=none)->∀b∈fp,bY (aZ X scope (own++capN) C s2 H2 fp) [(D,hX its nn)] H' b:=fun{H'} hn b hb=>by
   obtain⟨f0,f1,g2,f3,f4,f5⟩:=f2 b hb;refine⟨hn b hb,Zy (Zz (hfpl b hb) hCle'),λz=>?_,.inl hb,λx c e=>f4 x c (O.sub I2.ok x c e),λp hp=>?_⟩
   ·rcases Zj.mp (I2.stkSub b z)with e|e
    ·exact f1 e
    ·exact g2 e
   ·have z:p=(D,hX its nn):=by simpa[aZ]using hp
    subst z;exact hDfp b hb
  rcases turn i k ys H3 w3 with⟨stop,qn⟩|⟨go,hlt,step⟩
  ·refine thn (T.done (aZ X scope (own++capN) C s2 H2 fp) rfl rfl rfl hc i _ s3 _ H3 _ I3 (fpY fr3) st3 stop) λr s4 ⟨hr,I4⟩=>?_;subst hr;obtain⟨oD,nD,_⟩:=I4.pin (D,hX its nn) (by simp);have neD:∀{b:Jy} {u:HO},H3 b=some u->b≠D:=fun{b u} e=>ai e nD;have JX:Inv X JC σ (upd H3 D (.lst ys)) s4:=by
    refine I2.call' (ch:=fp) I4.os ⟨I4.base.keep,I4.base.slot,λb o e nb hx=>?_,I4.base.there,λb xs e=>?_,λb o u e=>?_,λb ps e=>?_⟩ (λb u e=>?_) I4.bare (λb hb=>?_)
    ·rw[ad (by rw[<-hDe];exact Zy (Zm e))];exact I4.base.free b o e nb hx
    ·have q:=I4.base.tups b xs e;rw[ad (neD q)];exact q
    ·have q:=I4.base.frzs b o u e;rw[ad (neD q)];exact q
    ·obtain⟨more,q⟩:=I4.base.tbls b ps e;exact⟨more,by rw[ad (neD q)];exact q⟩
    ·by_cases hb:b=D
     ·subst hb;rw[ac]at e;cases e;exact⟨hz,its,nn,rv,oD⟩
     ·rw[ad hb]at e;exact(I4.hok b u e).stay (λ_ _ _ q=>q) (λc q=>by rw[ad (neD q)];exact q) λc xs q=>by rw[ad (neD q)];exact q
    ·obtain⟨f0,f1,g2,f3,f4,f5⟩:=f2 b hb;exact⟨f3,f1,f4,f5⟩
   obtain⟨m4,hn4,_⟩:=I4.loc;refine fin D C s4 H3 ys JX ⟨m4,hn4⟩ ?_ (qn D nD);refine I2.fpOk (b:=C) hCle' ?_;rw[ad (Zs hDC)];exact I4.free
  ·refine thn (T.item (aZ X scope (own++capN) C s2 H2 fp) rfl rfl rfl hc i _ s3 _ H3 _ I3 (fpY fr3) st3 go) λr s4 ⟨u,hr,h4⟩=>?_;subst hr;refine thn h4 λ_ s5 hz9=>?_;obtain⟨x,H5,I5,r5,y5,st5,fr5⟩:=hz9;have I5':=I5.pinned (fpY fr5) (T.obj _ _ st5);refine thn (hg C s2 H2 fp _ s5 _ H5 x u _ I5' r5 (gk _ _ _ _ (step x H5 y5))) λ_ s6 hz9=>?_;obtain⟨σ6,H6,I6,⟨l6,k6⟩,q6⟩:=hz9;refine thn (ht C s2 H2 fp _ s6 σ6 H6 _ I6 q6) λok s7 ⟨H7,I7,q7⟩=>?_;have wk:∀{H8:Hp} {s8:Ju} {pl:Jj},Inv (aZ X scope (own++capN) C s2 H2 fp) pl σ6 H8 s8->Inv (aZ X scope (own++capN) C s2 H2 fp) pl (dA own.length cap σ) H8 s8:=λI=>I.weak l6.symm λj v e=>by obtain⟨hj,_⟩:=oh e;rw[k6 j hj];exact e
   have tn8:∀{σ8:St} {H8:Hp} {s8:Ju},Inv (aZ X scope (own++capN) C s2 H2 fp) ([(D,hX its nn)]++lK fp s5.heap) σ8 H8 s8->(∀b∈fp,∀o,s5.heap.get? b=some o->s8.heap.get? b=some o)/\∀b∈fp,H8 b=none:=fun{σ8 H8 s8} I=>by refine⟨λb hb o e=>(I.pin (b,o) (ZI _ (ZI _ (il hb e)))).1,λb hb=>?_⟩;obtain⟨o,e,d⟩:=T.obj _ _ st5 b hb;exact(I.pin (b,o) (ZI _ (ZI _ (il hb e)))).2.1
   cases ok with
   |false =>rw[Jf Zi]at q7 ⊢;obtain⟨m',hm,w7⟩:=q7;obtain⟨t1,t2⟩:=tn8 I7;exact⟨m',hm,i+1,ys,its,nn,H7,wk I7.unpinned,T.keep _ _ _ st5 t1,t2,rv,hz,w7⟩
   |true =>
    rw[Jg rfl]at q7 ⊢;refine thn (he C s2 H2 fp _ s7 σ6 H7 _ I7 q7) λy s8 hz9=>?_;obtain⟨yv,H8,I8,r8,m',hm,w8⟩:=hz9;obtain⟨t1,t2⟩:=tn8 I8;obtain⟨oD,nD,_⟩:=I8.pin (D,hX its nn) (by simp);have hil:=rv.length;refine call_meets F.slot_list_append ⟨_,oD,rfl⟩ F.entry_list_append (F.args_list_append_2 _ _) (PySem.list_append D its.toArray nn y (by rw[Zg];omega)) ⟨oD,?_⟩;have q:=PySem.IsL.update oD (λx_1=>x_1.push y);have hf:its.toArray.push y=(its++[y]).toArray:=by simp
    rw[hf]at q;have keepO:∀b o,b≠D->s8.heap.get? b=some o->(s8.heap.update D (Obj.mapSeq λx_1=>x_1.push y)).get? b=some o:=λb o hb e=>(Yg s8.heap (Obj.mapSeq λx_1=>x_1.push y) (Zs hb)).trans e;have I9:Inv (aZ X scope (own++capN) C s2 H2 fp) [] σ6 H8 { s8 with heap:=s8.heap.update D (Obj.mapSeq λx_1=>x_1.push y),toks:=s8.toks } :=
     (I8.pins_of (pins':=[]) λp hp=>absurd hp (by simp)).turned (it:=D) keepO nD hDC (.inr hDle) Dcell (λp hp=>absurd (show p∈([]:Jj)from hp) (by simp))
    refine⟨m',hm,i+1,ys++[yv],its++[y],_,H8,wk (pinD I9 q nD),T.keep _ _ _ st5 (λb hb o e=>keepO b o (Zs (hDfp b hb)) (t1 b hb o e)),t2,rv.append (.cons r8 .nil),?_,w8⟩;rw[Zn,Yw];omega
 exact codeAny_compStart_list (loop _ rfl) (T.self _ 0 _ _ _ (T.keep _ _ _ st2 (λb hb o e=>old b o e)) (loop _ rfl))
theorem C4{wi:TI}(O:CompOk X scope cap capN)(hc:X.calm=true)(hi:PI X tg iter wi)(hg:∀C s0 H0 ex,PG (aZ X scope (own++capN) C s0 H0 ex) tg g)(gk:GK own.length g)(ht:∀C s0 H0 ex,pM (aZ X scope (own++capN) C s0 H0 ex) ifs tc)(he:∀C s0 H0 ex,PE (aZ X scope (own++capN) C s0 H0 ex) elt te)(hs:∀x,foldedSetIterable iter X.env x=pure x:=by intro _;rfl):PE X (.ListComp elt [⟨tg,iter,ifs,0⟩] scope pos) (rS own.length cap wi g tc te):=by intro JC s σ H Q I h;rw[eval_ListComp];refine wpAny_comprehension_free (use:=none) rfl hs (O.clos I.ok) O.kind O.names (thn (hi JC s σ H _ I h) λv s1 h1=>thn h1 λitv s2 h2=>?_);obtain⟨it,fp,tn,J,H2,e,I2,T,st2,f2,hq⟩:=h2;subst e;refine qJ (RR:=λacc C=>compPost (model X.prog X.w) X.A X.xe none (EP X JC σ Q) acc C) O hc hg gk ht he I2 T st2 f2 hq λD C s4 H4 ys J4 hn4 fC q4=>?_;obtain⟨m,hn⟩:=hn4;obtain⟨f0,f1,g2,f3,f4,f5⟩:=fC;exact⟨m,hn,λh' sb=>⟨.ref D,_,J4.turned (t':=s4.toks) (λb o hb e=>(sb.2 b hb).trans e) f0 f1 f3 f4 f5,rfl,q4⟩⟩
theorem Dj{wi:TI}{j:Nat}{y:Str}{py spos:Pos}(hN0:X.N.Nodup)(hj:X.N[j]?=some y)(hy:Loc X.env.scope y)(O:CompOk X scope cap capN)(hc:X.calm=true)(hi:PI X tg iter wi)(hg:∀C s0 H0 ex,PG (aZ X scope (own++capN) C s0 H0 ex) tg g)(gk:GK own.length g)(ht:∀C s0 H0 ex,pM (aZ X scope (own++capN) C s0 H0 ex) ifs tc)(he:∀C s0 H0 ex,PE (aZ X scope (own++capN) C s0 H0 ex) elt te)(hsw:swapsWith (.ListComp elt [⟨tg,iter,ifs,0⟩] scope pos) (some (.Name y py)) spos.line X.env=pure true:=by rfl)(hs:∀x,foldedSetIterable iter X.env x=pure x:=by intro _;rfl)(hf:X.fn y=true\/X.env.scope.names.lookup y=some .local:=by first|exact .inl rfl|exact .inr rfl|assumption) :
  PS X (.Assign [.Name y py] (.ListComp elt [⟨tg,iter,ifs,0⟩] scope pos) spos) (xA (rS own.length cap wi g tc te) (dv j)):=by
 intro JC s σ H D0 I h;rw[exec_Assign_Name_used _ _ _ _ hsw];refine z0 (wpAny_standAt (z0 ?_));show wpAny _ X.A (do let _ ←comprehension (.ListComp elt [⟨tg,iter,ifs,0⟩] scope pos) scope X.env _ (newList []) false (eval iter X.env) (some (assign (.Name y py) X.env))) _ _ s;refine z0 (ZK (wpAny_comprehension_free (use:=some (assign (.Name y py) X.env)) (Q:=λ_ s'=>SP X JC D0 .next s') rfl hs (O.clos I.ok) O.kind O.names (thn (hi JC s σ H _ I h) λv s1 h1=>thn h1 λitv s2 h2=>?_)) (λ_ s' hq=>z6 (z6 hq)) λ_ _ e=>e);obtain⟨it,fp,tn,J,H2,e,I2,T,st2,f2,hq⟩:=h2;subst e;refine qJ (RR:=λacc C=>compPost (model X.prog X.w) X.A X.xe (some (assign (.Name y py) X.env)) (λ_ s'=>SP X JC D0 .next s') acc C) O hc hg gk ht he I2 T st2 f2 hq λD C s4 H4 ys J4 hn4 fC q4=>?_;obtain⟨m,hn⟩:=hn4;obtain⟨f0,f1,g2,f3,f4,f5⟩:=fC;show wpAny _ X.A (assign (.Name y py) X.env (.ref D)) _ _ _;refine wpAny_assign_Name (rf J4 hN0 hj hy (v:=.ref D) rfl (λs5 I5 ⟨a,sba,ha⟩=>?_) hf);have hCa:C≠a:=by
  rcases ha with z|z
  ·rw[z];exact f1
  ·exact Zs (f4 _ _ z)
 refine⟨m,hn.sameBut sba hCa,λh' sb=>?_⟩;exact⟨_,_,I5.turned (t':=s5.toks) (λb o hb e=>(sb.2 b hb).trans e) f0 f1 f3 f4 f5,q4⟩
end
structure Fn(P:Jt)(w:Jx)(K:W.Frag)(mg:Ji)(base:JB)(k:Nat)(x:Str)(ps:Jr)(sp:Sp):Prop where
 ex:∃f fd,FnOk P w K mg base CX0 k f fd ps sp/\mg x=some (.ref f)/\W.keepIn K (.ref f)=true/\Binds K fd ps []
section
variable{X:Cx}{k:Nat}{x:Str}{p pos:Pos}{e:Jz}{es:List Jz}{ps:Jr}{sp:Sp}{t:TA}
theorem GO(F:Fn X.prog X.w X.K X.mg X.base k x ps sp)(hr:Room k X.A)(ha:PA X (e::es) t)(hg:Gl X x:=by rfl)(hdb:(x==("__debug__":Str))=false:=by decide)(he:starEach (e::es) X.env=(false,eval e X.env)::starEach es X.env:=by rfl)(hpl:(backTo pos (starEach es X.env)).any (·.1)=false:=by rfl) :
  PE X (.Call (.Name x p) (e::es) [] pos) (rR sp [] E0 t):=by
 obtain⟨f,fd,G,m,kp,b⟩:=F.ex;exact C2 G hr hg m kp b .nil rP ha hdb he hpl
end
theorem aK:bootBuiltins "isinstance" = some (.builtin "isinstance"):=by decide
theorem Ac:bootBuiltins "max" = some (.builtin "max"):=by decide
theorem iD:bootBuiltins "int" = some (.type "int"):=by decide
theorem fK:bootBuiltins "bool" = some (.type "bool"):=by decide
theorem vR:bootBuiltins "tuple" = some (.type "tuple"):=by decide
theorem ci:bootBuiltins "list" = some (.type "list"):=by decide
section
variable{X:Cx}
theorem Af:fu X (.builtin "isinstance") (λxs H Q=>∃x T t b,xs=[x,.ty T]/\TyOf X.K H x t/\W.kitOne X.K t (.type T)=some b/\Q (.bl b) H):=by intro JC s σ H xs us Q I r h;obtain⟨x,T,t,b,rfl,ty,e,q⟩:=h;obtain⟨u,w',rfl,rx,ry⟩:=iq r;cases(show w'=Value.type T from ry);exact qU I rx ty e λtk=>⟨.bl b,H,I.tok tk,rfl,q⟩
end
def isB:V->Bool
 |.bl _=>true
 |_=>false
def Az:Option HO->Bool
 |some (.tup _)=>true
 |_=>false
def isT(H:Hp):V->Bool
 |.ref a=>Az (H a)
 |_=>false
theorem jF{H:Hp}{a:Jy}{o:HO}{b:Bool}(e:H a=some o)(h:Az (some o)=b):isT H (.ref a)=b:=by show Az (H a)=b;rw[e];exact h
theorem iH{K:W.Frag}{t T:String}{b:Bool}(h1:(Value.type t==Value.type T)=b)(h2:b=false->W.kitMeta T=true/\(PySem.fastBuiltinMro t).map (·.contains (Value.type T))=some false):W.kitOne K (.type t) (.type T)=some b:=by
 unfold W.kitOne;rw[h1];cases b with
 |true=>exact Jg rfl
 |false =>rw[Jf Zi];obtain⟨m,q⟩:=h2 rfl;show(if W.kitMeta T=true then W.subIn K (.type t) (.type T)else none)=_;rw[Jg m];exact q
theorem bH{K:W.Frag}{t T:String}{b:Bool}(h1:(Value.type t==Value.type T)=false)(h2:W.kitMeta T=true)(h3:(PySem.fastBuiltinMro t).map (·.contains (Value.type T))=some b):W.kitOne K (.type t) (.type T)=some b:=by unfold W.kitOne;rw[h1,Jf Zi];show(if W.kitMeta T=true then W.subIn K (.type t) (.type T)else none)=_;rw[Jg h2];exact h3
theorem gz{K:W.Frag}{H:Hp}{v:V}{n:String}(h:TyOf K H v (.type n)):W.kitOne K (.type n) (.type "bool")=some (isB v):=by
 cases h with
 |non=>exact bH (b:=false) (by decide) (by decide) (by decide)
 |bl x=>exact iH (b:=true) (by decide) nofun
 |int i=>exact bH (b:=false) (by decide) (by decide) (by decide)
 |str x=>exact bH (b:=false) (by decide) (by decide) (by decide)
 |flt x=>exact bH (b:=false) (by decide) (by decide) (by decide)
 |lst e=>exact bH (b:=false) (by decide) (by decide) (by decide)
 |frz e=>exact bH (b:=false) (by decide) (by decide) (by decide)
 |tup e=>exact bH (b:=false) (by decide) (by decide) (by decide)
 |dK e=>exact bH (b:=false) (by decide) (by decide) (by decide)
 |dT e=>exact bH (b:=false) (by decide) (by decide) (by decide)
theorem CG{K:W.Frag}{H:Hp}{v:V}{n:String}(h:TyOf K H v (.type n)):W.kitOne K (.type n) (.type "tuple")=some (isT H v):=by
 cases h with
 |non=>exact bH (b:=false) (by decide) (by decide) (by decide)
 |bl x=>exact bH (b:=false) (by decide) (by decide) (by decide)
 |int i=>exact bH (b:=false) (by decide) (by decide) (by decide)
 |str x=>exact bH (b:=false) (by decide) (by decide) (by decide)
 |flt x=>exact bH (b:=false) (by decide) (by decide) (by decide)
 |lst e =>rw[jF e (b:=false) rfl];exact bH (b:=false) (by decide) (by decide) (by decide)
 |frz e =>rw[jF e (b:=false) rfl];exact bH (b:=false) (by decide) (by decide) (by decide)
 |tup e =>rw[jF e (b:=true) rfl];exact iH (b:=true) (by decide) nofun
 |dK e =>rw[jF e (b:=false) rfl];exact bH (b:=false) (by decide) (by decide) (by decide)
 |dT e =>rw[jF e (b:=false) rfl];exact bH (b:=false) (by decide) (by decide) (by decide)
theorem af{H:Hp}{p:Jy}(h:H p=none)(o:HO):Same H (upd H p o):=λb u q=>by rw[ad (ai q h)];exact q
theorem bD{n:Nat}(h:n<=1000):n<=sizeLine:=Nat.le_of_lt (bc h)
theorem sz{n:Nat}(h:Nat.ble n 1000=true):n<=sizeLine:=bD (Nat.le_of_ble_eq_true h)
def aP:Jz->Bool
 |.Starred _ _=>false
 |_=>true
theorem aJ{e:Jz}{es:List Jz}{env:Env}(h:aP e=true):starEach (e::es) env=(false,eval e env)::starEach es env:=by cases e<;>first|rfl|cases h
theorem bK{env:Env}{pos:Pos}:∀{es:List Jz},es.all aP=true->(backTo pos (starEach es env)).any (·.1)=false
 | [],_=>rfl
 |e::es,h=>by rw[YF,ZD]at h;rw[aJ h.1];show(false ||(backTo pos (starEach es env)).any (·.1))=false;rw[Bool.false_or];exact bK h.2
section
variable{X:Cx}{x:Str}{p pos:Pos}{e:Jz}{es:List Jz}{te:TE}{t:TA}{id T:String}{r:List V->Hp->VK->Prop}{k:Nat}{ps:Jr}{sp:Sp}
theorem pa(ha:PE X e te)(hr:PA X es t)(hs:aP e=true:=by rfl):PA X (e::es) (jk te t):=CY ha hr (aJ hs)
theorem pB(hc:fu X (.builtin id) r)(hm:X.mg x=none)(hv:bootBuiltins x=some (.builtin id))(ha:PA X (e::es) t)(hg:Gl X x:=by rfl)(hs:(e::es).all aP=true:=by rfl)(hn:x≠"__name__":=by decide)(hdb:(x==("__debug__":Str))=false:=by decide) :
  PE X (.Call (.Name x p) (e::es) [] pos) (tCB r t):=by
 rw[YF,ZD]at hs;exact AX hc hg hm hv ha hn hdb (aJ hs.1) (bK hs.2)
theorem pTy(hc:fu X (.type T) r)(hm:X.mg x=none)(hv:bootBuiltins x=some (.type T))(ha:PA X (e::es) t)(hg:Gl X x:=by rfl)(hs:(e::es).all aP=true:=by rfl)(hn:x≠"__name__":=by decide)(hdb:(x==("__debug__":Str))=false:=by decide) :
  PE X (.Call (.Name x p) (e::es) [] pos) (tCB r t):=by
 rw[YF,ZD]at hs;exact yZ hc hg hm hv ha hn hdb (aJ hs.1) (bK hs.2)
theorem pfn(F:Fn X.prog X.w X.K X.mg X.base k x ps sp)(hr:Room k X.A)(ha:PA X (e::es) t)(hg:Gl X x:=by rfl)(hs:(e::es).all aP=true:=by rfl)(hdb:(x==("__debug__":Str))=false:=by decide) :
  PE X (.Call (.Name x p) (e::es) [] pos) (rR sp [] E0 t):=by
 rw[YF,ZD]at hs;exact GO F hr ha hg hdb (aJ hs.1) (bK hs.2)
end
structure QE(X:Cx)(e:Jz)(t:TE):Prop where
 h:PE X e t
structure QT(X:Cx)(e:Jz)(t:TT):Prop where
 h:PT X e t
structure QW(X:Cx)(e:Jz)(t:TT):Prop where
 h:PW X e t
structure QA(X:Cx)(es:List Jz)(t:TA):Prop where
 h:PA X es t
structure QS(X:Cx)(st:JA)(t:TS):Prop where
 h:PS X st t
structure QB(X:Cx)(st:List JA)(t:TS):Prop where
 h:PSs X st t
structure QG(X:Cx)(tg:Jz)(g:TG):Prop where
 h:PG X tg g
structure QGs(X:Cx)(ts:List Jz)(g:TGs):Prop where
 h:PGs X ts g
structure QI(X:Cx)(tg iter:Jz)(wi:TI):Prop where
 h:PI X tg iter wi
structure QIf(X:Cx)(ifs:List Jz)(t:TT):Prop where
 h:pM X ifs t
structure QO(X:Cx)(e:Option Jz)(t:TO):Prop where
 h:PO X e t
structure QOp(X:Cx)(f:Jw->Jw->Sem Jw)(r:R2):Prop where
 h:OpR X f r
structure QCall(X:Cx)(f:Jw)(r:List V->Hp->VK->Prop):Prop where
 h:fu X f r
structure QIx(X:Cx)(r:R2):Prop where
 h:IxR X r
structure QSl(X:Cx)(r:V->Option Int->Option Int->Hp->VK->Prop):Prop where
 h:SlR X r
structure QSet(X:Cx)(t:DY):Prop where
 h:Hw X t
structure QUn(X:Cx)(f:Jw->Sem Jw)(r:V->Hp->VK->Prop):Prop where
 h:UnR X f r
structure QIp(X:Cx)(op:Operator)(t:TIp):Prop where
 h:PIp X op t
section
variable{X:Cx}{pos p:Pos}{e a b c o:Jz}{es rest:List Jz}{te ta tb tc:TE}{t:TA}{tA tB':TT}{x:Str}
theorem q_v(i:Nat){x:Str}{pos:Pos}(hN:X.N[i]?=some x:=by rfl)(hv:Vis X.env.scope x:=by first|exact Or.inl rfl|exact Or.inr (Or.inl rfl)|exact Or.inr (Or.inr rfl))(hd:(x==("__debug__":Str))=false:=by decide)(hcd:(x==("__classdict__":Str))=false:=by decide):QE X (.Name x pos) (tVar i):=⟨Fc hN hv hd hcd⟩
theorem ag{i:Int}{j:Nat}:QE X (.Constant (.int i) j pos) (tC (.int i)):=⟨E5⟩
theorem ce{i:Bool}{j:Nat}:QE X (.Constant (.bool i) j pos) (tC (.bl i)):=⟨GN⟩
theorem aY{j:Nat}:QE X (.Constant .none j pos) (tC .non):=⟨E7⟩
theorem aE{i:Str}{j:Nat}:QE X (.Constant (.str i) j pos) (tC (.str i)):=⟨Fa⟩
theorem jt{T:String}(hm:X.mg x=none)(hv:bootBuiltins x=some (.type T))(hg:Gl X x:=by rfl)(hn:x≠"__name__":=by decide)(hd:(x==("__debug__":Str))=false:=by decide):QE X (.Name x pos) (tC (.ty T)):=⟨C1 hg hm hv rfl hn hd⟩
theorem dR{i:Int}{tk:Tok}(hm:X.mg x=some (.int i tk))(hg:Gl X x:=by rfl)(hd:(x==("__debug__":Str))=false:=by decide):QE X (.Name x pos) (tC (.int i)):=⟨vm hg hm ⟨_,rfl⟩ hd⟩
theorem ar{op:Operator}{r:R2}(ho:QOp X (binaryOp op) r)(ha:QE X a ta)(hb:QE X b tb):QE X (.BinOp a op b pos) (tOp r ta tb):=⟨GQ ho.h ha.h hb.h⟩
theorem Fy{op:UnaryOp}{r:V->Hp->VK->Prop}(ho:QUn X (unaryOp op) r)(ha:QE X a ta):QE X (.UnaryOp op a pos) (tUn r ta):=⟨GS ho.h ha.h⟩
theorem pq{op}(h:QE X a ta):QE X (.BoolOp op [a] pos) ta:=⟨E9 h.h⟩
theorem mC(ha:QE X a ta)(hb:QE X (.BoolOp .And (b::rest) pos) tb):QE X (.BoolOp .And (a::b::rest) pos) (BX ta tb):=⟨E2 ha.h hb.h⟩
theorem HP(ha:QE X a ta)(hb:QE X (.BoolOp .Or (b::rest) pos) tb):QE X (.BoolOp .Or (a::b::rest) pos) (FW ta tb):=⟨GR ha.h hb.h⟩
theorem GW(ha:QE X a ta):QE X (.UnaryOp .Not a pos) (B2 ta):=⟨E8 ha.h⟩
theorem dw{op:CmpOp}{r:R2}(ho:QOp X (compareOp op) r)(ha:QE X a ta)(hb:QE X b tb)(hm:behindInMarks op b=false:=by first|exact yI _|with_unfolding_all rfl):QE X (.Compare a [op] [b] pos) (tOp r ta tb):=⟨C3 ho.h ha.h hb.h hm⟩
theorem aW(h:QA X es t):QE X (.List es pos) (FT t):=⟨E6 h.h⟩
theorem aQ{x1}(h:QA X es t):QE X (.Tuple es x1 pos) (F7 t):=⟨Fb h.h⟩
theorem am{r:R2}(hr:QIx X r)(ha:QE X a ta)(hb:QE X b tb)(hs:uq b:=by intro _ _;rfl):QE X (.Subscript a b pos) (tOp r ta tb):=⟨GP hr.h ha.h hb.h hs⟩
theorem cC{r:V->Option Int->Option Int->Hp->VK->Prop}{lo hi:Option Jz}{tl th:TO}{p2:Pos}(hr:QSl X r)(he:QE X e te)(hl:QO X lo tl)(hu:QO X hi th):QE X (.Subscript e (.Slice lo hi none p2) pos) (tSl r te tl th):=⟨A3 hr.h he.h hl.h hu.h⟩
theorem cG:QO X none vC:=⟨Dd⟩
theorem cj(h:QE X e te):QO X (some e) (B3 te):=⟨De h.h⟩
theorem ah:QA X [] iU:=⟨pj⟩
theorem q_a(ha:QE X e te)(hr:QA X es t)(hs:aP e=true:=by rfl):QA X (e::es) (jk te t):=⟨pa ha.h hr.h hs⟩
theorem q_B{id:String}{r:List V->Hp->VK->Prop}(hc:QCall X (.builtin id) r)(hm:X.mg x=none)(hv:bootBuiltins x=some (.builtin id))(ha:QA X (e::es) t)(hg:Gl X x:=by rfl)(hs:(e::es).all aP=true:=by rfl)(hn:x≠"__name__":=by decide)(hdb:(x==("__debug__":Str))=false:=by decide) :
  QE X (.Call (.Name x p) (e::es) [] pos) (tCB r t):=⟨pB hc.h hm hv ha.h hg hs hn hdb⟩
theorem fE{T:String}{r:List V->Hp->VK->Prop}(hc:QCall X (.type T) r)(hm:X.mg x=none)(hv:bootBuiltins x=some (.type T))(ha:QA X (e::es) t)(hg:Gl X x:=by rfl)(hs:(e::es).all aP=true:=by rfl)(hn:x≠"__name__":=by decide)(hdb:(x==("__debug__":Str))=false:=by decide) :
  QE X (.Call (.Name x p) (e::es) [] pos) (tCB r t):=⟨pTy hc.h hm hv ha.h hg hs hn hdb⟩
theorem bJ{k:Nat}{ps:Jr}{sp:Sp}(F:Fn X.prog X.w X.K X.mg X.base k x ps sp)(hr:Room k X.A)(ha:QA X (e::es) t)(hg:Gl X x:=by rfl)(hs:(e::es).all aP=true:=by rfl)(hdb:(x==("__debug__":Str))=false:=by decide) :
  QE X (.Call (.Name x p) (e::es) [] pos) (rR sp [] E0 t):=⟨pfn F hr ha.h hg hs hdb⟩
theorem aB{op:CmpOp}{r:R2}(ho:QOp X (compareOp op) r)(ha:QE X a ta)(hb:QE X b tb)(hm:behindInMarks op b=false:=by first|exact yI _|with_unfolding_all rfl):QT X (.Compare a [op] [b] pos) (rT (tOp r ta tb)):=⟨Dm ho.h ha.h hb.h hm⟩
theorem DD{op op':CmpOp}{r r':R2}(ho:QOp X (compareOp op) r)(ho':QOp X (compareOp op') r')(ha:QE X a ta)(hb:QE X b tb)(hc:QE X c tc)(hm:lastMarks [op,op'] [b,c]=false:=by with_unfolding_all rfl) :
  QT X (.Compare a [op,op'] [b,c] pos) (rT (zE r r' ta tb tc)):=⟨Bb ho.h ho'.h ha.h hb.h hc.h hm⟩
theorem dI(ha:QT X a tA):QT X (.UnaryOp .Not a pos) (FV tA):=⟨Fo ha.h⟩
theorem bU(h:QE X e te)(he:∀whole,isTrue e X.env whole=(do let v ←whole;standAt e.pos;holding [v] (truthy v)):=by intro _;rfl):QT X e (tB te):=⟨Fp h.h he⟩
theorem cQ(ha:QT X a tA):QW X (.BoolOp .And [a] pos) tA:=⟨Do ha.h⟩
theorem eX(ha:QT X a tA):QW X (.BoolOp .Or [a] pos) tA:=⟨Ft ha.h⟩
theorem dk(ha:QT X a tA)(hb:QW X (.BoolOp .And (b::rest) pos) tB'):QW X (.BoolOp .And (a::b::rest) pos) (FO tA tB'):=⟨Fs ha.h hb.h⟩
theorem fe(ha:QT X a tA)(hb:QW X (.BoolOp .Or (b::rest) pos) tB'):QW X (.BoolOp .Or (a::b::rest) pos) (tOr tA tB'):=⟨GV ha.h hb.h⟩
theorem t_w(h:QW X e tA):QT X e tA:=⟨h.h.pt⟩
end
section
variable{X:Cx}{pos:Pos}{tg iter elt:Jz}{ifs:List Jz}{g:TG}{gs:TGs}{tc:TT}{te:TE}{scope:Scope}{cap:Js}{capN own:Jr}{wi:TI}
theorem bv{i:Nat}{x:Str}(hN:X.N.Nodup)(hi:X.N[i]?=some x:=by rfl)(hx:Loc X.env.scope x:=by first|exact Or.inl rfl|exact Or.inr rfl)(hf:X.fn x=true\/X.env.scope.names.lookup x=some .local:=by first|exact .inl rfl|exact .inr rfl):QG X (.Name x pos) (dv i):=⟨C8 hN hi hx hf⟩
theorem Ax:QGs X [] sJ:=⟨C9⟩
theorem pY{e:Jz}{es:List Jz}(h1:QG X e g)(h2:QGs X es gs)(hs:(assignEach (e::es) X.env).map (·.2)=assign e X.env::(assignEach es X.env).map (·.2):=by rfl):QGs X (e::es) (iZ g gs):=⟨A4 h1.h h2.h hs⟩
theorem wz{es:List Jz}{k n:Nat}(hc:X.calm=true)(h:QGs X es gs)(hn:(assignEach es X.env).length=n:=by rfl)(hst:(assignEach es X.env).findIdx? (·.1)=none:=by rfl):QG X (.Tuple es k pos) (sK X.K n gs):=⟨Fd hc h.h hn hst⟩
theorem fh{l:Jz}(hl:QE X l te):QI X tg l (BG X.K te):=⟨Db hl.h⟩
theorem Ej{a:Jz}{ta:TA}{p:Pos}(hm:X.mg "range" = none)(ha:QA X [a] ta)(hg:Gl X "range":=by rfl)(hs:aP a=true:=by rfl):QI X tg (.Call (.Name "range" p) [a] [] pos) (BH ta):=⟨zd hg hm ha.h (aJ hs)⟩
theorem Ek{a b:Jz}{ta:TA}{p:Pos}(hm:X.mg "range" = none)(ha:QA X [a,b] ta)(hg:Gl X "range":=by rfl)(hs:aP a=true:=by rfl)(hs2:aP b=true:=by rfl):QI X tg (.Call (.Name "range" p) [a,b] [] pos) (BI ta) :=
 ⟨ze hg hm ha.h (by rw[aJ hs,aJ hs2];rfl) (aJ hs2)⟩
theorem wH:QIf X [] pI:=⟨A6⟩
theorem Ay{c:Jz}{t:TT}(h:QT X c t):QIf X [c] t:=⟨A7 h.h⟩
theorem lL(O:CompOk X scope cap capN)(hc:X.calm=true)(hi:QI X tg iter wi)(hg:∀C s0 H0 ex,QG (aZ X scope (own++capN) C s0 H0 ex) tg g)(gk:GK own.length g)(ht:∀C s0 H0 ex,QIf (aZ X scope (own++capN) C s0 H0 ex) ifs tc)(he:∀C s0 H0 ex,QE (aZ X scope (own++capN) C s0 H0 ex) elt te)(hs:∀x,foldedSetIterable iter X.env x=pure x:=by intro _;rfl):QE X (.ListComp elt [⟨tg,iter,ifs,0⟩] scope pos) (rS own.length cap wi g tc te) :=
 ⟨C4 O hc hi.h (λC s0 H0 ex=>(hg C s0 H0 ex).h) gk (λC s0 H0 ex=>(ht C s0 H0 ex).h) (λC s0 H0 ex=>(he C s0 H0 ex).h) hs⟩
variable{st:JA}{rest:List JA}{t u:TS}{e c:Jz}
theorem b_0:QB X [] pH:=⟨Dk⟩
theorem b_1(h:QS X st t):QB X [st] t:=⟨Dl h.h⟩
theorem b_c(h1:QS X st t)(h2:QB X rest u):QB X (st::rest) (Bp t u):=⟨Ba h1.h h2.h⟩
theorem aD(h:QE X e te):QS X (.Return (some e) pos) (FX te):=⟨Fk h.h⟩
theorem FI:QS X (.Return none pos) B4:=⟨Di⟩
theorem bC(h:QE X e te)(hs:swapsWith e none pos.line X.env=pure false:=by rfl):QS X (.Expr e pos) (B0 te):=⟨Dh h.h hs⟩
theorem aI{body els:List JA}(hc:QT X c tc)(ht:QB X body t)(hu:QB X els u):QS X (.If c body els pos) (FS tc t u):=⟨GU hc.h ht.h hu.h⟩
theorem au{i:Nat}{x:Str}{pos':Pos}(hN:X.N.Nodup)(he:QE X e te)(hi:X.N[i]?=some x:=by rfl)(hx:Loc X.env.scope x:=by first|exact Or.inl rfl|exact Or.inr rfl)(hs:swapsWith e (some (.Name x pos')) pos.line X.env=pure false:=by rfl)(hf:X.fn x=true\/X.env.scope.names.lookup x=some .local:=by first|exact .inl rfl|exact .inr rfl):QS X (.Assign [.Name x pos'] e pos) (xA te (dv i)):=⟨Fm hN hi hx he.h hs hf⟩
theorem zt{j:Nat}{y:Str}{py spos:Pos}(hN0:X.N.Nodup)(O:CompOk X scope cap capN)(hc:X.calm=true)(hi:QI X tg iter wi)(hg:∀C s0 H0 ex,QG (aZ X scope (own++capN) C s0 H0 ex) tg g)(gk:GK own.length g)(ht:∀C s0 H0 ex,QIf (aZ X scope (own++capN) C s0 H0 ex) ifs tc)(he:∀C s0 H0 ex,QE (aZ X scope (own++capN) C s0 H0 ex) elt te)(hj:X.N[j]?=some y:=by rfl)(hy:Loc X.env.scope y:=by first|exact Or.inl rfl|exact Or.inr rfl)(hsw:swapsWith (.ListComp elt [⟨tg,iter,ifs,0⟩] scope pos) (some (.Name y py)) spos.line X.env=pure true:=by rfl)(hs:∀x,foldedSetIterable iter X.env x=pure x:=by intro _;rfl)(hf:X.fn y=true\/X.env.scope.names.lookup y=some .local:=by first|exact .inl rfl|exact .inr rfl) :
  QS X (.Assign [.Name y py] (.ListComp elt [⟨tg,iter,ifs,0⟩] scope pos) spos) (xA (rS own.length cap wi g tc te) (dv j)) :=
 ⟨Dj hN0 hj hy O hc hi.h (λC s0 H0 ex=>(hg C s0 H0 ex).h) gk (λC s0 H0 ex=>(ht C s0 H0 ex).h) (λC s0 H0 ex=>(he C s0 H0 ex).h) hsw hs hf⟩
theorem eV{body:List JA}(hp:PassesOwn (model X.prog X.w) X.A X.env X.xe)(hc:X.calm=true)(hi:QI X tg iter wi)(hg:QG X tg g)(hb:QB X body t)(hs:∀x,foldedSetIterable iter X.env x=pure x:=by intro _;rfl):QS X (.For tg iter body [] pos) (FR wi g t):=⟨Fj hp hc hi.h hg.h hb.h hs⟩
theorem mG{body:List JA}(hp:PassesOwn (model X.prog X.w) X.A X.env X.xe)(hc:QT X c tc)(hb:QB X body t):QS X (.While c body [] pos) (zH tc t):=⟨A9 hp hc.h hb.h⟩
end
theorem Fun.okQ{P:Jt}{w:Jx}{K:W.Frag}{mg:Ji}{base:JB}{x qual:Str}{st:JA}{f:Jy}{fd:Jp}{N ps:Jr}{k:Nat}{sp:Sp}(F:Fun K x qual st f fd)(S:FnScope N ps (aj st))(len:∀ vs H Q E,sp vs H Q E->vs.length=ps.length)(hbody:∀ (cdv:Jw) (A:Jv) (outer:List Env) (s:Ju) (H:Hp) (vs:List V) (Q:VK) (E:XK),Room k (A.deeper (envOfC qual (aj st) s.heap.objs.size f cdv))->sp vs H Q E ->
   ∃ t,QB (fA CX0 P w K mg base N qual (aj st) f cdv A outer s H E).nox (bP st) t/\t { nx:=λ_ H'=>Q .non H',rt:=Q } (start N vs) H):FnOk P w K mg base CX0 (k+1) f fd ps sp :=
 F.ok S len λcdv A outer s H vs Q E hr hsp=>let⟨t,h,q⟩:=hbody cdv A outer s H vs Q E hr hsp;⟨t,h.h,q⟩
section
variable{X:Cx}
theorem gZ:QOp X (binaryOp .Add) (rI0 λi j=>.int (i+j)):=⟨EO⟩
theorem hM:QOp X (binaryOp .Sub) (rI0 λi j=>.int (i-j)):=⟨EV⟩
theorem oY:QOp X (binaryOp .Mult) (rI CMul λi j=>.int (i*j)):=⟨ET⟩
theorem cz:QOp X (binaryOp .FloorDiv) (rI DP λi j=>.int (i / j)):=⟨CS⟩
theorem aU:QOp X (binaryOp .Mod) (rI (λ_ j=>0<j) λi j=>.int (i%j)):=⟨ES⟩
theorem BM:QOp X (binaryOp .Pow) (rI DQ λi j=>.int (i^j.toNat)):=⟨EU⟩
theorem rO:QOp X (binaryOp .Add) rCat:=⟨EQ⟩
theorem bW:QOp X (compareOp .Eq) rEq:=⟨GG⟩
theorem EK:QOp X (compareOp .NotEq) rNe:=⟨GL⟩
theorem wU:QOp X (compareOp .Lt) (rI0 λi j=>.bl (decide (i<j))):=⟨GJ⟩
theorem EI:QOp X (compareOp .LtE) (rI0 λi j=>.bl (decide (i<=j))):=⟨GI⟩
theorem qe:QOp X (compareOp .Gt) (rI0 λi j=>.bl (decide (j<i))):=⟨GH⟩
theorem wS:QOp X (compareOp .Is) (λx y H Q=>y=.non/\Q (.bl (decide (x=.non))) H):=⟨ER⟩
theorem iI:QOp X (compareOp .IsNot) (λx y H Q=>y=.non/\Q (.bl (!decide (x=.non))) H):=⟨CT⟩
theorem B5:QUn X (unaryOp .USub) (rU λi=>.int (-i)):=⟨F8⟩
theorem br:QIx X (rIxL X.K):=⟨CD⟩
theorem aq:QIx X (rIxT X.K):=⟨Eo⟩
theorem sR:QSl X (rSlL X.K):=⟨Dx⟩
theorem fO:QCall X (.builtin "len") (λxs H Q=>∃p ys,xs=[.ref p]/\(SqL X.K H p ys\/SqT X.K H p ys)/\Q (.int ys.length) H):=⟨sj⟩
theorem gS:QCall X (.builtin "isinstance") (λxs H Q=>∃x T t b,xs=[x,.ty T]/\TyOf X.K H x t/\W.kitOne X.K t (.type T)=some b/\Q (.bl b) H):=⟨Af⟩
theorem Gk(hc:X.calm=true):QCall X (.builtin "max") (λxs H Q=>∃i j,xs=[.int i,.int j]/\Q (.int (if j>i then j else i)) H):=⟨xR hc⟩
theorem lh:QCall X (.type "list") (λxs H Q=>∃p ys,xs=[.ref p]/\(SqL X.K H p ys\/SqT X.K H p ys)/\∀l,H l=none->Q (.ref l) (upd H l (.lst ys))):=⟨sq⟩
theorem rJ:QCall X (.type "int") (λxs H Q=>(∃i,xs=[.int i]/\Q (.int i) H)\/∃k,xs=[.bl k]/\Q (.int (if k then 1 else 0)) H):=⟨xP⟩
end
mutual
def Dt(H:Hp):PyData->V->Prop
 |.none,v=>v=.non
 |.bool b,v=>v=.bl b
 |.int i,v=>v=.int i
 |.str x,v=>v=.str x
 |.list ds,v=>∃a xs,v=.ref a/\Rd H a (.lst xs)/\DtAll H ds xs
 |.tuple ds,v=>∃a xs,v=.ref a/\Rd H a (.tup xs)/\DtAll H ds xs
 |.dict _,_=>False
def DtAll(H:Hp):List PyData->List V->Prop
 | [],xs=>xs=[]
 |d::ds,xs=>∃y ys,xs=y::ys/\Dt H d y/\DtAll H ds ys
end
section
variable{P:Jt}{w:Jx}{H:Hp}{h:JB}
mutual
theorem Dt.reads(ok:HOk P w H h):∀(d:PyData) (x:V) (v:Jw),Dt H d x->RelV x v->∃as,Reads h v d as
 |.none,x,v,e,r=>by
  have e':x=.non:=by simpa only[Dt]using e
  subst e';cases r;exact⟨_,.none⟩
 |.bool b,x,v,e,r=>by
  have e':x=.bl b:=by simpa only[Dt]using e
  subst e';cases r;exact⟨_,.bool b⟩
 |.int i,x,v,e,r=>by
  have e':x=.int i:=by simpa only[Dt]using e
  subst e';obtain⟨t,rfl⟩:=r;exact⟨_,.int i t⟩
 |.str z,x,v,e,r=>by
  have e':x=.str z:=by simpa only[Dt]using e
  subst e';obtain⟨t,rfl⟩:=r;exact⟨_,.str z t⟩
 |.list ds,x,v,e,r=>by
  have e':∃a xs,x=.ref a/\Rd H a (.lst xs)/\DtAll H ds xs:=by simpa only[Dt]using e
  obtain⟨a,xs,rfl,hr,hd⟩:=e';cases r;obtain⟨_,its,n,rv,eo⟩:=hr.ok ok;obtain⟨as,q⟩:=DtAll.reads ok ds xs its hd rv;exact⟨_,.list eo rfl rfl (by simpa using q)⟩
 |.tuple ds,x,v,e,r=>by
  have e':∃a xs,x=.ref a/\Rd H a (.tup xs)/\DtAll H ds xs:=by simpa only[Dt]using e
  obtain⟨a,xs,rfl,hr,hd⟩:=e';cases r;obtain⟨_,its,rv,o,eo,hc,n,hs⟩:=hr.ok ok;obtain⟨as,q⟩:=DtAll.reads ok ds xs its hd rv;exact⟨_,.tuple eo hc hs (by simpa using q)⟩
 |.dict kvs,x,v,e,r=>by
  have e':False:=by simpa only[Dt]using e
  exact e'.elim
theorem DtAll.reads(ok:HOk P w H h):∀(ds:List PyData) (xs:List V) (vs:Jn),DtAll H ds xs->Vals xs vs->∃as,ReadsAll h vs ds as
 | [],xs,vs,e,r=>by
  have e':xs=[]:=by simpa only[DtAll]using e
  subst e';cases r;exact⟨_,.nil⟩
 |d::ds,xs,vs,e,r=>by
  have e':∃y ys,xs=y::ys/\Dt H d y/\DtAll H ds ys:=by simpa only[DtAll]using e
  obtain⟨y,ys,rfl,h1,h2⟩:=e';cases r with
  |cons r1 r2 =>obtain⟨as,q1⟩:=Dt.reads ok d y _ h1 r1;obtain⟨bs,q2⟩:=DtAll.reads ok ds ys _ h2 r2;exact⟨_,.cons q1 q2⟩
end
end
theorem uH{H:Hp}:∀(ns:Jq),DtAll H (ns.map PyData.int) (ns.map V.int)
 | []=>by simp only[List.map_nil,DtAll]
 |n::ns=>by simp only[Zk,DtAll];exact⟨_,_,rfl,by simp only[Dt],uH ns⟩
section
variable{X:Cx}
inductive rEqD  (x:V)(y:V)(H:Hp)(Q:VK):Prop
 |mk (dx dy:_) (h0:Dt H dx x) (h1:Dt H dy y) (h2:SeqAt.shaped dx=true) (h3:SeqAt.shaped dy=true) (h4:Q (.bl (PyData.eqv dx dy)) H):rEqD  x y H Q
inductive rNeD  (x:V)(y:V)(H:Hp)(Q:VK):Prop
 |mk (dx dy:_) (h0:Dt H dx x) (h1:Dt H dy y) (h2:SeqAt.shaped dx=true) (h3:SeqAt.shaped dy=true) (h4:Q (.bl (!PyData.eqv dx dy)) H):rNeD  x y H Q
theorem yT(hu:X.A.units+64<cLine):OpR X (compareOp .Eq) rEqD:=by intro JC s σ H x y v u Q I rx ry h;obtain⟨dx,dy,h1,h2,s1,s2,q⟩:=h;obtain⟨as,r1⟩:=Dt.reads I.hok dx x v h1 rx;obtain⟨bs,r2⟩:=Dt.reads I.hok dy y u h2 ry;exact eq_dataH r1 r2 s1 s2 hu ⟨.bl _,H,I,rfl,q⟩
theorem yV(hu:X.A.units+64<cLine):OpR X (compareOp .NotEq) rNeD:=by intro JC s σ H x y v u Q I rx ry h;obtain⟨dx,dy,h1,h2,s1,s2,q⟩:=h;obtain⟨as,r1⟩:=Dt.reads I.hok dx x v h1 rx;obtain⟨bs,r2⟩:=Dt.reads I.hok dy y u h2 ry;exact ne_dataH r1 r2 s1 s2 hu ⟨.bl _,H,I,rfl,q⟩
theorem hJ(hu:X.A.units+64<cLine):QOp X (compareOp .Eq) rEqD:=⟨yT hu⟩
theorem fw(hu:X.A.units+64<cLine):QOp X (compareOp .NotEq) rNeD:=⟨yV hu⟩
end
section
variable{X:Cx}
variable{o e:Jz}{to te:TE}{apos cpos:Pos}
theorem io(ho:QE X o to)(he:QE X e te)(hs:aP e=true:=by rfl)(hbase:attributeBase o "append" X.env (eval o X.env)=eval o X.env:=by rfl)(hline:(apos.endLine==cpos.line)=true:=by rfl) :
  QE X (.Call (.Attribute o "append" apos) [e] [] cpos) (tBM X.K "list" rAppend to (jk te iU)):=by
 have h1:=aJ (es:=[]) (env:=X.env) hs;have h2:starEach ([]:List Jz) X.env=[]:=rfl;refine⟨xp PySem.F.plainAttrs_list PySem.F.slot_list_append PySem.F.type_list_append yF ho.h (pa he.h pj hs) hbase ?_ hline h1 (by rw[h2];rfl)⟩;rw[h1,h2];rfl
end
theorem kI{H H':Hp}{p:Jy}{o:HO}(e:Same H H')(h:H p=none):Same H (upd H' p o):=λb u q=>by rw[ad (ai q h)];exact e _ _ q
def jX(ns:Jq)(k:Nat):Int:=(ns[k]?).getD 0
theorem zX{ns:Jq}{k:Int}(h0:0<=k)(h1:k<ns.length):atI (ns.map V.int) k=some (.int (jX ns k.toNat)):=by
 have hk:k.toNat<ns.length:=by omega
 have ek:k=((k.toNat:Nat):Int):=by omega
 have q:atI (ns.map V.int) ((k.toNat:Nat):Int)=some (.int ns[k.toNat]):=de (by rw[ZE,Zd hk]<;>rfl);rw[<-ek]at q;rw[q];unfold jX;rw[Zd hk];rfl
theorem Ag{ns:Jq}{k:Int}(h0:0<=k)(h1:¬k<ns.length):jX ns k.toNat=0:=by unfold jX;rw[List.getElem?_eq_none (by omega)];rfl
section
variable{prog:Jt}{w:Jx}{A:Jv}
theorem gU(calm:A.handled=none)(it t:Jy)(apart:t≠it)(xs:Jm) :
  Draws prog w A it [it,t] xs.size (λi v=>xs[i]?=some v) (λi h=>h.IsTupleIter it t i/\h.IsTuple t xs) where
 live:=λ_ _ q=>let⟨o,eo,_⟩:=q.1;⟨o,eo⟩
 frame:=λ_ _ _ q kp=>⟨let⟨o,eo,r⟩:=q.1;⟨o,kp it (by simp) o eo,r⟩,let⟨o,eo,r⟩:=q.2;⟨o,kp t (by simp) o eo,r⟩⟩
 item:=λi s Q E lt q cont=>by
  have ei:xs[i]?=some xs[i]:=by simp[lt]
  obtain⟨o,eo,ec,ed⟩:=id q.1;obtain⟨p,ep,_,np,edp⟩:=id q.2;have ty:=q.1.typeIs;unfold Builtin.SmallTypes.nextOf;refine z0 (ZW (name:=Str.ofString "__next__") ty F.slot_tuple_iterator_next (Z2 F.slot_tuple_iterator_next ty F.entry_tuple_iterator_next ?_ (F.args_tuple_iterator_next_1 _)));show wpAny _ _ (field (.ref it) 0 >>= _) _ _ s;refine z0 (ZV eo ed (x:=.ref t) rfl ?_);show wpAny _ _ (if(Value.ref t==Value.none)=true then _ else _) _ _ s;rw[Jf (show¬((Value.ref t==Value.none)=true)from Zi)];show wpAny _ _ (field (.ref it) 1 >>= _) _ _ s;refine z0 (ZV eo ed (x:=.int i 0) rfl ?_);show wpAny _ _ (seqItems? (.ref t) >>= _) _ _ s;refine z0 (wpAny_seqItems ep edp ?_);simp only[Int.toNat_natCast,ei];have sb:=ZP s.heap it (λob=>ob.mapFields λfs=>fs.setIfInBounds 1 (rawInt (i+1)));refine z0 (YJ eo ed (by simp) (z6 ⟨xs[i],rfl,z6 (cont _ _ s.toks ei ⟨?_,?_⟩ (ZP ..))⟩))
  ·exact⟨_,Yk _ eo (Obj.isFreed_of_fields (Yb ed _)),(Obj.cls_mapFields ..).trans ec,by rw[Yb ed];simp[rawInt]⟩
  ·exact q.2.extBut (ZP ..).extBut apart
 done:=λs Q E q cont=>by
  have ei:xs[xs.size]?=none:=by simp
  obtain⟨o,eo,ec,ed⟩:=id q.1;obtain⟨p,ep,_,np,edp⟩:=id q.2;have ty:=q.1.typeIs;unfold Builtin.SmallTypes.nextOf;refine z0 (ZW (name:=Str.ofString "__next__") ty F.slot_tuple_iterator_next (Z2 F.slot_tuple_iterator_next ty F.entry_tuple_iterator_next ?_ (F.args_tuple_iterator_next_1 _)));show wpAny _ _ (field (.ref it) 0 >>= _) _ _ s;refine z0 (ZV eo ed (x:=.ref t) rfl ?_);show wpAny _ _ (if(Value.ref t==Value.none)=true then _ else _) _ _ s;rw[Jf (show¬((Value.ref t==Value.none)=true)from Zi)];show wpAny _ _ (field (.ref it) 1 >>= _) _ _ s;refine z0 (ZV eo ed (x:=.int xs.size 0) rfl ?_);show wpAny _ _ (seqItems? (.ref t) >>= _) _ _ s;refine z0 (wpAny_seqItems ep edp ?_);simp only[Int.toNat_natCast,ei];refine z0 (Z8 (z0 (YJ eo ed (by simp) ?_)));show wpAny _ _ (newExc (.type "StopIteration") [] >>= _) _ _ _;refine z0 ?_;simp only[newExc,newTuple];refine z0 (Z5 ?_ (by size_fits));refine z0 (m:=firstArgMember _ _) (wpAny_of_eq (a:=Value.none) (by first|rfl|(simp only[firstArgMember];rfl)) (Z5 ?_ (by size_fits)));simp only[raiseNew];refine z0 (wpAny_handled ?_)
  first|rw[show A.in1.handled=none from calm]|rw[calm]
  exact z0 (z6 (wpAny_throw (cont _ _ (((ZP ..).extBut.push _).push _) ⟨_,Zo _ rfl,rfl⟩)))
end
structure ZAp(z u v i j:Jy)(f g:List Jy):Prop where
 uz:u≠z
 vz:v≠z
 uv:u≠v
 ui:u≠i
 uj:u≠j
 vi:v≠i
 vj:v≠j
 iz:i≠z
 jz:j≠z
 ij:i≠j
 zf:z∉f
 zg:z∉g
 vf:v∉f
 vg:v∉g
 jf:j∉f
 ig:i∉g
section
variable{prog:Jt}{w:Jx}{A:Jv}{E:Jh}{s:Ju}{z u v i j:Jy}{f g:List Jy}{n m k:Nat}{P1 P2:Nat->Jw->Prop}{S1 S2:Nat->JB->Prop}{a b:Jw}
def vP(z v i j:Jy)(h h':JB):Prop:=∀c o,c≠z->c≠v->c≠i->c≠j->h.get? c=some o->h'.get? c=some o
theorem eh{c:Jy}{f:List Jy}{d:Jy}(hc:c∈f)(hd:d∉f):c≠d:=λe=>hd (e▸hc)
theorem By(d1:Draws prog w A i f n P1 S1)(d2:Draws prog w A j g m P2 S2)(ap:ZAp z u v i j f g)(hz:IsZip s.heap z u v .none)(hu:IsPair s.heap u (.ref i) (.ref j))(hv:IsPair s.heap v a b)(h1:S1 k s.heap)(h2:S2 k s.heap)(l1:k<n)(l2:k<m){Q:Jh}(cont:∀h' tk x y,P1 k x->P2 k y->IsZip h' z u v (rawInt s.heap.objs.size)->IsPair h' v x y->S1 (k+1) h'->S2 (k+1) h'->IsPair h' s.heap.objs.size x y->vP z v i j s.heap h'->Q (.ref s.heap.objs.size) { s with heap:=h',toks:=tk }) :
  wpAny (model prog w) A (Builtin.«zip.__next__» ⟨[.ref z],[]⟩) (λfin s'=>∃r,fin=.done (.ret r)/\Q r s') E s:=by
 show wpAny _ _ (field (.ref z) 2 >>= _) _ _ _;refine z0 (ZV hz rfl (x:=.bool false) rfl ?_);show wpAny _ _ (field (.ref z) 3 >>= _) _ _ _;refine z0 (ZV hz rfl (x:=.ref u) rfl (z0 (wpAny_seqItems hu rfl ?_)));show wpAny _ _ (Builtin.SmallTypes.ownedTupleIsFree (.ref z) >>= _) _ _ _;refine z0 ?_;unfold Builtin.SmallTypes.ownedTupleIsFree;refine z0 (ZV hz rfl (x:=.none) rfl (z6 ?_));simp only[if_true];refine z0 (Z8 (z0 (ZV hz rfl (x:=.ref v) rfl ?_)));refine z0 (wpAny_setField_rec hz (by simp) λq1 z1 b1=>?_)
 replace z1:IsZip q1 z u v .ellipsis:=z1
 refine z0 ?_;simp only[List.zipIdx_cons,List.zipIdx_nil,List.forIn_cons,List.forIn_nil];refine z0 (z0 (wpAny_onRaise ?_));show wpAny _ _ (Builtin.SmallTypes.nextOf (.ref i) >>= _) _ _ _;refine z0 (d1.item k { s with heap:=q1 } _ _ l1 (d1.frame _ _ _ h1 λc hc o e=>b1.extBut c o (eh hc ap.zf) e) λx q2 t2 px s2 b2=>z6 ?_);have v2:IsPair q2 v a b:=b2.extBut _ _ ap.vi (b1.extBut _ _ ap.vz hv);refine z0 (wpAny_seqItems v2 rfl (z0 (wpAny_updateSeq_pair v2 λq3 w3 b3=>?_)))
 replace w3:IsPair q3 v x b:=w3
 refine z0 (wpAny_letGo (z6 ?_));refine z0 (z0 (wpAny_onRaise ?_));show wpAny _ _ (Builtin.SmallTypes.nextOf (.ref j) >>= _) _ _ _;refine z0 (d2.item k { s with heap:=q3,toks:=t2 } _ _ l2 (d2.frame _ _ _ h2 λc hc o e=>b3.extBut c o (eh hc ap.vg) (b2.extBut c o (eh hc ap.ig) (b1.extBut c o (eh hc ap.zg) e))) λy q4 t4 py s4 b4=>z6 ?_);have v4:IsPair q4 v x b:=b4.extBut _ _ ap.vj w3;refine z0 (wpAny_seqItems v4 rfl (z0 (wpAny_updateSeq_pair v4 λq5 w5 b5=>?_)))
 replace w5:IsPair q5 v x y:=w5
 refine z0 (wpAny_letGo (z6 (z6 (z0 (wpAny_seqItems w5 rfl (z0 (wpAny_newTuple ?_)))))));have sz:q5.objs.size=s.heap.objs.size:=by rw[b5.1,b4.1,b3.1,b2.1,b1.1]
 have z5:IsZip q5 z u v .ellipsis:=b5.extBut _ _ ap.vz.symm (b4.extBut _ _ ap.jz.symm (b3.extBut _ _ ap.vz.symm (b2.extBut _ _ ap.iz.symm z1)));have k5:vP z v i j s.heap q5:=λc o c1 c2 c3 c4 e=>b5.extBut _ _ c2 (b4.extBut _ _ c4 (b3.extBut _ _ c2 (b2.extBut _ _ c3 (b1.extBut _ _ c1 e))));have s5:S1 (k+1) q5:=d1.frame _ _ _ s2 λc hc o e=>b5.extBut c o (eh hc ap.vf) (b4.extBut c o (eh hc ap.jf) (b3.extBut c o (eh hc ap.vf) e));have r5:S2 (k+1) q5:=d2.frame _ _ _ s4 λc hc o e=>b5.extBut c o (eh hc ap.vg) e;have zlt:z<q5.objs.size:=Zm z5;show wpAny _ _ (Builtin.SmallTypes.ownedTupleHandOut (.ref z) (.ref q5.objs.size) >>= _) _ _ _;refine z0 ?_;unfold Builtin.SmallTypes.ownedTupleHandOut;refine z0 (wpAny_setField_rec (show IsZip (q5.push { cls:=.type "tuple",data:=.seq #[x,y] }) z u v .ellipsis from z9 _ z5) (by simp) λq7 z7 b7=>?_)
 replace z7:IsZip q7 z u v (rawInt q5.objs.size):=z7
 refine wpAny_setField_rec z7 (by simp) λq8 z8 b8=>?_
 replace z8:IsZip q8 z u v (rawInt q5.objs.size):=z8
 have up:∀c o,c≠z->q5.get? c=some o->q8.get? c=some o:=λc o c1 e=>b8.extBut _ _ c1 (b7.extBut _ _ c1 (z9 _ e));have p8:IsPair q8 q5.objs.size x y:=b8.extBut _ _ (Yf zlt) (b7.extBut _ _ (Yf zlt) (Zo _ rfl));rw[sz]at z8 p8;refine z6 ⟨_,rfl,?_⟩;show Q (.ref q5.objs.size) _;rw[sz];exact cont q8 _ x y px py z8 (up _ _ ap.vz w5) (d1.frame _ _ _ s5 λc hc o e=>up c o (eh hc ap.zf) e) (d2.frame _ _ _ r5 λc hc o e=>up c o (eh hc ap.zg) e) p8 λc o c1 c2 c3 c4 e=>up c o c1 (k5 c o c1 c2 c3 c4 e)
theorem DK(d1:Draws prog w A i f n P1 S1)(d2:Draws prog w A j g m P2 S2)(ap:ZAp z u v i j f g)(hz:IsZip s.heap z u v .none)(hu:IsPair s.heap u (.ref i) (.ref j))(hv:IsPair s.heap v a b)(h1:S1 n s.heap){Q:Fin->Ju->Prop}(cont:∀h' e,vP z v i j s.heap h'->(∃o,h'.get? e=some o/\o.cls=.type "StopIteration")->E (.ref e) { s with heap:=h' }):wpAny (model prog w) A (Builtin.«zip.__next__» ⟨[.ref z],[]⟩) Q E s:=by
 show wpAny _ _ (field (.ref z) 2 >>= _) _ _ _;refine z0 (ZV hz rfl (x:=.bool false) rfl ?_);show wpAny _ _ (field (.ref z) 3 >>= _) _ _ _;refine z0 (ZV hz rfl (x:=.ref u) rfl (z0 (wpAny_seqItems hu rfl ?_)));show wpAny _ _ (Builtin.SmallTypes.ownedTupleIsFree (.ref z) >>= _) _ _ _;refine z0 ?_;unfold Builtin.SmallTypes.ownedTupleIsFree;refine z0 (ZV hz rfl (x:=.none) rfl (z6 ?_));simp only[if_true];refine z0 (Z8 (z0 (ZV hz rfl (x:=.ref v) rfl ?_)));refine z0 (wpAny_setField_rec hz (by simp) λq1 z1 b1=>?_)
 replace z1:IsZip q1 z u v .ellipsis:=z1
 refine z0 ?_;simp only[List.zipIdx_cons,List.zipIdx_nil,List.forIn_cons,List.forIn_nil];refine z0 (z0 (wpAny_onRaise ?_));show wpAny _ _ (Builtin.SmallTypes.nextOf (.ref i) >>= _) _ _ _;refine z0 (d1.done { s with heap:=q1 } _ _ (d1.frame _ _ _ h1 λc hc o e=>b1.extBut c o (eh hc ap.zf) e) λq2 e b2 he=>?_);obtain⟨oe,hoe,hce⟩:=he;have z2:IsZip q2 z u v .ellipsis:=b2 _ _ ap.iz.symm z1;have ez:e≠z:=λx=>by subst x;rw[z2]at hoe;cases hoe;simp at hce
 exact wpAny_setField_rec z2 (by simp) λq3 _ b3=>cont q3 e (λc o c1 _ c3 _ x=>b3.extBut _ _ c1 (b2 _ _ c3 (b1.extBut _ _ c1 x))) ⟨oe,b3.extBut _ _ ez hoe,hce⟩
end
section
variable{X:Cx}{JC:Jj}{σ:St}{H:Hp}{s:Ju}{h':JB}{ch:List Jy}{t':Nat}
theorem Inv.turnH{H':Hp}(I:Inv X JC σ H s)(hch:∀b∈ch,bY X JC H b)(kp:∀b o,b∉ch->s.heap.get? b=some o->h'.get? b=some o)(up:∀b u,H b=some u->H' b=some u)(dn:∀b o,s.heap.get? b=some o->H b=none->H' b=none)(hok:HOk X.prog X.w H' h') :
  Inv X JC σ H' { s with heap:=h',toks:=t' }:=by
 refine I.step (g':=s.gens) (d':=s.drawn) (ch:=ch) (λb hb=>?_) (λb o _ _ hc e _=>kp b o hc e) (λb o _ _ hc e _=>⟨o.slots,kp b o hc e⟩) (λb o _ e n=>dn b o e n) (λb o hc e=>⟨o,kp b o hc e⟩) (λb xs e=>up _ _ e) (λb o u e=>up _ _ e) (λb ps e=>⟨#[],by rw[up _ _ e];simp⟩) (λm hm=>?_) hok I.bare
 ·obtain⟨f0,f1,f2,f3,f4,f5⟩:=hch b hb;exact⟨f3,f1,f4,f5⟩
 ·obtain⟨o,es,ep,ho,r⟩:=hm;exact⟨o,es,ep,kp _ o (λz=>(hch _ z).2.1 rfl) ho,r⟩
theorem sL(I:Inv X JC σ H s)(hch:∀b∈ch,bY X JC H b)(kp:∀b o,b∉ch->s.heap.get? b=some o->h'.get? b=some o):HOk X.prog X.w H h':=λb u e=>by
 have nin:∀{c:Jy} {q:HO},H c=some q->c∉ch:=fun{c q} e z=>by rw[(hch c z).1]at e;cases e
 refine(I.hok b u e).stay (λc v hc q=>kp c v ?_ q) (λ_ q=>q) λ_ _ q=>q;rcases hc with z|z
 ·rw[z];exact nin e
 ·exact nin z
theorem Inv.turnM(I:Inv X JC σ H s)(hch:∀b∈ch,bY X JC H b)(kp:∀b o,b∉ch->s.heap.get? b=some o->h'.get? b=some o):Inv X JC σ H { s with heap:=h',toks:=t' } :=
 I.turnH hch kp (λ_ _ e=>e) (λ_ _ _ n=>n) (sL I hch kp)
theorem Inv.turnT{xs:List V}{its:Jn}(I:Inv X JC σ H s)(hch:∀b∈ch,bY X JC H b)(kp:∀b o,b∉ch->s.heap.get? b=some o->h'.get? b=some o)(hp:IsTup h' s.heap.objs.size its.toArray)(rv:Vals xs its)(hz:xs.length<=sizeLine) :
  Inv X JC σ (upd H s.heap.objs.size (.tup xs)) { s with heap:=h',toks:=t' }:=by
 have fr:=I.hok.fresh (Za s.heap.objs.size);have ne:∀{b:Jy} {u:HO},H b=some u->b≠s.heap.objs.size:=fun{b u} e=>ai e fr;have hk:=sL I hch kp;refine I.turnH hch kp (λb u e=>by rw[ad (ne e)];exact e) (λb o e n=>by rw[ad (Zy (Zm e))];exact n) λb u e=>?_;by_cases hb:b=s.heap.objs.size
 ·subst hb;rw[ac]at e;cases e;exact⟨hz,its,rv,hp⟩
 ·rw[ad hb]at e;exact(hk b u e).stay (λ_ _ _ q=>q) (λc q=>by rw[ad (ne q)];exact q) λc ys q=>by rw[ad (ne q)];exact q
end
def Itz(K:W.Frag)(a b:Jy)(xs ys:List V):It :=
 ⟨λi H=>i<xs.length/\SqT K H a xs/\SqT K H b ys,λi H x H'=>∃T p q,H T=none/\xs[i]?=some p/\ys[i]?=some q/\x=.ref T/\H'=upd H T (.tup [p,q]),λi H=>i=xs.length/\SqT K H a xs/\SqT K H b ys⟩
abbrev zTn(z u v i1 i2 a b:Jy):Nat->JB->Prop:=λi h=>IsZip h z u v .none/\IsPair h u (.ref i1) (.ref i2)/\(∃p q,IsPair h v p q)/\h.IsTupleIter i1 a i/\h.IsTupleIter i2 b i
theorem Bs{P:Jt}{w:Jx}{K:W.Frag}{elts:List Jz}{kt:Nat}{tp:Pos}{z u v i1 i2 a b:Jy}{xs ys:List V}(hl:xs.length=ys.length)(D:[z,u,v,i1,i2].Nodup)(ha:∀c∈[z,u,v,i1,i2],c≠a/\c≠b) :
  Turn P w K (.Tuple elts kt tp) (Itz K a b xs ys) [z,u,v,i1,i2] z (zTn z u v i1 i2 a b):=by
 have nd:(z≠u/\z≠v/\z≠i1/\z≠i2)/\(u≠v/\u≠i1/\u≠i2)/\(v≠i1/\v≠i2)/\i1≠i2:=by simpa using D
 obtain⟨⟨zu,zv,z1,z2⟩,⟨uv,u1,u2⟩,⟨v1,v2⟩,i12⟩:=nd;have az:=ha z (by simp);have av:=ha v (by simp);have a1:=ha i1 (by simp);have a2:=ha i2 (by simp);have ap:ZAp z u v i1 i2 [i1,a] [i2,b]:=⟨zu.symm,zv.symm,uv,u1,u2,v1,v2,z1.symm,z2.symm,i12,by simp[z1,az.1],by simp[z2,az.2],by simp[v1,av.1],by simp[v2,av.2],by simp[i12.symm,a2.1],by simp[i12,a1.2]⟩
 refine⟨by simp,λi h st c hc=>?_,λi h h' st k=>?_,?_,?_,λA i s Q E st h=>wpAny_pyIter_zip st.1 h⟩
 ·obtain⟨e1,e2,⟨p,q,e3⟩,⟨o4,e4,_,d4⟩,⟨o5,e5,_,d5⟩⟩:=st;simp only[Zj,ZT,YK]at hc;rcases hc with rfl|rfl|rfl|rfl|rfl
  ·exact⟨_,e1,λv z=>nomatch z⟩
  ·exact⟨_,e2,λv z=>nomatch z⟩
  ·exact⟨_,e3,λv z=>nomatch z⟩
  ·exact⟨_,e4,λv z=>by rw[d4]at z;cases z⟩
  ·exact⟨_,e5,λv z=>by rw[d5]at z;cases z⟩
 ·obtain⟨e1,e2,⟨p,q,e3⟩,⟨o4,e4,r4⟩,⟨o5,e5,r5⟩⟩:=st;exact⟨k z (by simp) _ e1,k u (by simp) _ e2,⟨p,q,k v (by simp) _ e3⟩,⟨o4,k i1 (by simp) _ e4,r4⟩,⟨o5,k i2 (by simp) _ e5,r5⟩⟩
 ·intro X hP hw hK hc i JC s σ H E I hf st hg;subst hP hw hK;obtain⟨e1,e2,⟨p,q,e3⟩,e4,e5⟩:=st;obtain⟨hi,hx,hy⟩:=hg;obtain⟨its,rx,px,zx⟩:=I.tuple hx;obtain⟨jts,ry,py,zy⟩:=I.tuple hy;have lx:i<its.toArray.size:=by rw[Zg,<-rx.length];exact hi
  have ly:i<jts.toArray.size:=by rw[Zg,<-ry.length,<-hl];exact hi
  have hh:=I.ok.hd hc;have hT:s.TypeIs (.ref z) "zip":=⟨_,e1,rfl⟩
  unfold pyNext;refine z0 (wpAny_attempt (ZW (name:=Str.ofString "__next__") hT F.slot_zip_next (Z2 F.slot_zip_next hT F.entry_zip_next
   (By (gU (A:=X.A.in1) hh i1 a a1.1.symm its.toArray) (gU (A:=X.A.in1) hh i2 b a2.2.symm jts.toArray) ap e1 e2 e3 ⟨e4,px⟩ ⟨e5,py⟩ lx ly λh' tk x y qx qy zz vv s1 s2 pp kp=>z6 ?_) (F.args_zip_next_1 _))))
  refine⟨_,rfl,wpAny_letOwnedTupleGo_zip (s:={ s with heap:=h',toks:=tk }) zz λh2 z2' sb=>?_⟩;obtain⟨xv,ex⟩:∃xv,xs[i]?=some xv:=⟨xs[i],by simp[hi]⟩
  obtain⟨yv,ey⟩:∃yv,ys[i]?=some yv:=⟨ys[i]'(by omega),by simp[show i<ys.length by omega]⟩
  obtain⟨x',gx,rxv⟩:=rx.get ex;obtain⟨y',gy,ryv⟩:=ry.get ey;have qx':its[i]?=some x:=by simpa using qx
  have qy':jts[i]?=some y:=by simpa using qy
  rw[gx]at qx';rw[gy]at qy';cases qx';cases qy';have ltz:z<s.heap.objs.size:=Zm e1;have kp2:∀c o,c∉[z,u,v,i1,i2]->s.heap.get? c=some o->h2.get? c=some o:=λc o hc e=>by simp only[Zj,ZT,YK,not_or]at hc;exact sb.extBut c o hc.1 (kp c o hc.1 hc.2.2.1 hc.2.2.2.1 hc.2.2.2.2 e)
  have tT:IsTup h2 s.heap.objs.size [x,y].toArray:=⟨_,sb.extBut _ _ (Yf ltz) pp,rfl,_,rfl⟩
  refine⟨.ref s.heap.objs.size,upd H s.heap.objs.size (.tup [xv,yv]),I.turnT (t':=tk) hf kp2 tT (.cons rxv (.cons ryv .nil)) (sz rfl),rfl,⟨_,xv,yv,I.hok.fresh (Za _),ex,ey,rfl,rfl⟩,?_,λc hc=>?_⟩
  ·exact⟨z2',sb.extBut _ _ zu.symm (kp _ _ zu.symm uv u1 u2 e2),⟨_,_,sb.extBut _ _ zv.symm vv⟩,s1.1.extBut sb.extBut z1.symm,s2.1.extBut sb.extBut z2.symm⟩
  ·rw[ad]
   ·exact(hf c hc).1
   ·obtain⟨o,eo,_⟩:∃o,s.heap.get? c=some o/\True:=by
     simp only[Zj,ZT,YK]at hc;rcases hc with rfl|rfl|rfl|rfl|rfl
     ·exact⟨_,e1,trivial⟩
     ·exact⟨_,e2,trivial⟩
     ·exact⟨_,e3,trivial⟩
     ·obtain⟨o,eo,_⟩:=e4;exact⟨o,eo,trivial⟩
     ·obtain⟨o,eo,_⟩:=e5;exact⟨o,eo,trivial⟩
    exact Zy (Zm eo)
 ·intro X hP hw hK hc i JC s σ H E I hf st hg;subst hP hw hK;obtain⟨e1,e2,⟨p,q,e3⟩,e4,e5⟩:=st;obtain⟨rfl,hx,hy⟩:=hg;obtain⟨its,rx,px,zx⟩:=I.tuple hx;obtain⟨jts,ry,py,zy⟩:=I.tuple hy;have lx:its.toArray.size=xs.length:=by rw[Zg,<-rx.length]
  have hh:=I.ok.hd hc;have hT:s.TypeIs (.ref z) "zip":=⟨_,e1,rfl⟩
  unfold pyNext;refine z0 (wpAny_attempt (ZW (name:=Str.ofString "__next__") hT F.slot_zip_next (Z2 F.slot_zip_next hT F.entry_zip_next
   (DK (gU (A:=X.A.in1) hh i1 a a1.1.symm its.toArray) (gU (A:=X.A.in1) hh i2 b a2.2.symm jts.toArray) ap e1 e2 e3 ⟨by rw[lx];exact e4,px⟩ λh' e kp he=>?_) (F.args_zip_next_1 _))))
  obtain⟨o,ho,hco⟩:=he;refine z0 (wpAny_isInstance (T:="StopIteration") (b:=true) ⟨o,ho,hco⟩ isSubtype_stop (z6 ⟨rfl,?_⟩));exact I.turnM (t':=s.toks) hf λc ob hc e=>by simp only[Zj,ZT,YK,not_or]at hc;exact kp c ob hc.1 hc.2.2.1 hc.2.2.2.1 hc.2.2.2.2 e
theorem wO(l1 l2:Jy)(xs ys:Jm) :
  Meets (Builtin.«zip.__new__» ⟨[.type "zip",.ref l1,.ref l2],[]⟩) (λ_ R s=>s.heap.IsTuple l1 xs/\s.heap.IsTuple l2 ys /\
   R (.ok (.ret (.ref ((((s.heap.push { cls:=.type "tuple_iterator",data:=.fields #[.ref l1,.int 0 0] }).push { cls:=.type "tuple_iterator",data:=.fields #[.ref l2,.int 0 0] }).push { cls:=.type "tuple",data:=.seq #[.ref s.heap.objs.size,.ref (s.heap.push { cls:=.type "tuple_iterator",data:=.fields #[.ref l1,.int 0 0] }).objs.size] }).push { cls:=.type "tuple",data:=.seq #[.none,.none] }).objs.size)))
    { s with heap:=((((s.heap.push { cls:=.type "tuple_iterator",data:=.fields #[.ref l1,.int 0 0] }).push { cls:=.type "tuple_iterator",data:=.fields #[.ref l2,.int 0 0] }).push { cls:=.type "tuple",data:=.seq #[.ref s.heap.objs.size,.ref (s.heap.push { cls:=.type "tuple_iterator",data:=.fields #[.ref l1,.int 0 0] }).objs.size] }).push { cls:=.type "tuple",data:=.seq #[.none,.none] }).push { cls:=.type "zip",data:=.fields #[.none,.bool false,.bool false,.ref ((s.heap.push { cls:=.type "tuple_iterator",data:=.fields #[.ref l1,.int 0 0] }).push { cls:=.type "tuple_iterator",data:=.fields #[.ref l2,.int 0 0] }).objs.size,.ref (((s.heap.push { cls:=.type "tuple_iterator",data:=.fields #[.ref l1,.int 0 0] }).push { cls:=.type "tuple_iterator",data:=.fields #[.ref l2,.int 0 0] }).push { cls:=.type "tuple",data:=.seq #[.ref s.heap.objs.size,.ref (s.heap.push { cls:=.type "tuple_iterator",data:=.fields #[.ref l1,.int 0 0] }).objs.size] }).objs.size] } }) :=
 .of_wp λprog w A R s h=>by
  obtain⟨hp,g,d,tk,os⟩:=s;obtain⟨t1,t2,h⟩:=h;have hsub:=sub_zip;have T1:Heap.IsTuple (Shared.heap ⟨hp,g,d,tk,os⟩) l1 xs:=t1;have T2:Heap.IsTuple (Shared.heap ⟨hp.push { cls:=.type "tuple_iterator",data:=.fields #[.ref l1,.int 0 0] },g,d,tk,os⟩) l2 ys:=Heap.IsTuple.push t2 _
  wp_walk using wpAny_pyIter_tuple T1,wpAny_pyIter_tuple T2
  exact⟨_,rfl,h⟩
theorem EG(n:Nat):[n+4,n+2,n+3,n,n+1].Nodup:=by simp
def Eh(K:W.Frag)(ta:TA):TI:=λσ H R=>ta σ H λvs H1=>∃a b xs ys,vs=[.ref a,.ref b]/\SqT K H1 a xs/\SqT K H1 b ys/\xs.length=ys.length/\R (Itz K a b xs ys) H1
section
variable{X:Cx}
theorem Fg{e1 e2:Jz}{ta:TA}{p pos tp:Pos}{elts:List Jz}{kt:Nat}(hg:Gl X "zip")(hm:X.mg "zip" = none)(ha:PA X [e1,e2] ta)(n1:aP e1=true)(n2:aP e2=true):PI X (.Tuple elts kt tp) (.Call (.Name "zip" p) [e1,e2] [] pos) (Eh X.K ta):=by
 intro JC s σ H R I h;refine Call_ (fT I hg hm boot_zip (y9 (thn (ha pos JC s σ H _ I h) λus s1 hz9=>?_) (aJ n1) (bK (by simp[n2]))));obtain⟨vs,H1,I1,r1,q1⟩:=hz9;obtain⟨a,b,xs,ys,e,hx,hy,hl,q⟩:=q1;subst e;obtain⟨ua,ub,rfl,ra,rb⟩:=iq r1;cases ra;cases rb;obtain⟨its,rx,px,zx⟩:=I1.tuple hx;obtain⟨jts,ry,py,zy⟩:=I1.tuple hy;refine callType_new F.called_zip (by decide) (F.typeCall_zip_2 _ _) (F.newCall_zip_2 _ _) (λobj=>F.args_object_init_3 obj _ _) F.entry_zip_new (wO a b its.toArray jts.toArray) ⟨px,py,?_⟩;generalize ea:({ cls:=.type "tuple_iterator",data:=.fields #[.ref a,.int 0 0] }:Obj)=oa;generalize eb:({ cls:=.type "tuple_iterator",data:=.fields #[.ref b,.int 0 0] }:Obj)=ob;have z1:(s1.heap.push oa).objs.size=s1.heap.objs.size+1:=Heap.size_push ..;have z2:((s1.heap.push oa).push ob).objs.size=s1.heap.objs.size+2:=by rw[Heap.size_push,z1]
 rw[z2,z1];generalize eu:({ cls:=.type "tuple",data:=.seq #[.ref s1.heap.objs.size,.ref (s1.heap.objs.size+1)] }:Obj)=ou;have z3:(((s1.heap.push oa).push ob).push ou).objs.size=s1.heap.objs.size+3:=by rw[Heap.size_push,z2]
 generalize ev:({ cls:=.type "tuple",data:=.seq #[.none,.none] }:Obj)=ov;have z4:((((s1.heap.push oa).push ob).push ou).push ov).objs.size=s1.heap.objs.size+4:=by rw[Heap.size_push,z3]
 rw[z4,z3];generalize ez:({ cls:=.type "zip",data:=.fields #[.none,.bool false,.bool false,.ref (s1.heap.objs.size+2),.ref (s1.heap.objs.size+3)] }:Obj)=oz;have g5:(((((s1.heap.push oa).push ob).push ou).push ov).push oz).get? (s1.heap.objs.size+4)=some oz:=by rw[<-z4];exact Zo _ (by rw[<-ez];rfl)
 have g4:(((((s1.heap.push oa).push ob).push ou).push ov).push oz).get? (s1.heap.objs.size+3)=some ov:=by rw[<-z3];exact z9 _ (Zo _ (by rw[<-ev];rfl))
 have g3:(((((s1.heap.push oa).push ob).push ou).push ov).push oz).get? (s1.heap.objs.size+2)=some ou:=by rw[<-z2];exact z9 _ (z9 _ (Zo _ (by rw[<-eu];rfl)))
 have g2:(((((s1.heap.push oa).push ob).push ou).push ov).push oz).get? (s1.heap.objs.size+1)=some ob:=by rw[<-z1];exact z9 _ (z9 _ (z9 _ (Zo _ (by rw[<-eb];rfl))))
 have g1:(((((s1.heap.push oa).push ob).push ou).push ov).push oz).get? s1.heap.objs.size=some oa:=z9 _ (z9 _ (z9 _ (z9 _ (Zo _ (by rw[<-ea];rfl)))));have kp:∀c o,s1.heap.get? c=some o->(((((s1.heap.push oa).push ob).push ou).push ov).push oz).get? c=some o:=λc o e=>z9 _ (z9 _ (z9 _ (z9 _ (z9 _ e))));generalize((((s1.heap.push oa).push ob).push ou).push ov).push oz=hN at g1 g2 g3 g4 g5 kp ⊢;have I2:Inv X JC σ H1 { s1 with heap:=hN }:=I1.kept (t':=s1.toks) kp;have la:a<s1.heap.objs.size:=px.lt;have lb:b<s1.heap.objs.size:=py.lt;subst ea eb eu ev ez;have base:∀c∈[s1.heap.objs.size+4,s1.heap.objs.size+2,s1.heap.objs.size+3,s1.heap.objs.size,s1.heap.objs.size+1],s1.heap.objs.size<=c:=λc hc=>by simp only[Zj,ZT,YK]at hc;omega
 refine⟨⟨_,g5,rfl⟩,?_⟩;show wpAny (model X.prog X.w) X.A (pyIter (.ref (s1.heap.objs.size+4))) (PIE X JC σ (.Tuple elts kt tp) R) X.xe { s1 with heap:=hN };refine wpAny_pyIter_zip g5 ?_;refine⟨s1.heap.objs.size+4,[s1.heap.objs.size+4,s1.heap.objs.size+2,s1.heap.objs.size+3,s1.heap.objs.size,s1.heap.objs.size+1],zTn (s1.heap.objs.size+4) (s1.heap.objs.size+2) (s1.heap.objs.size+3) s1.heap.objs.size (s1.heap.objs.size+1) a b,_,H1,rfl,I2,
  Bs hl ?_ (λc hc=>⟨Yf (Zz la (base c hc)),Yf (Zz lb (base c hc))⟩),⟨g5,g3,⟨_,_,g4⟩,⟨_,g1,rfl,rfl⟩,⟨_,g2,rfl,rfl⟩⟩,λc hc=>?_,q⟩
 ·exact EG s1.heap.objs.size
 ·exact I1.fpOk (base c hc) (I1.hok.fresh (base c hc))
theorem BK{e1 e2:Jz}{ta:TA}{p pos tp:Pos}{elts:List Jz}{kt:Nat}(hm:X.mg "zip" = none)(ha:QA X [e1,e2] ta)(hg:Gl X "zip":=by rfl)(n1:aP e1=true:=by rfl)(n2:aP e2=true:=by rfl):QI X (.Tuple elts kt tp) (.Call (.Name "zip" p) [e1,e2] [] pos) (Eh X.K ta):=⟨Fg hg hm ha.h n1 n2⟩
end
theorem Ah{J:It}{N n:Nat}{cap:Js}{g:TG}{tc:TT}{te:TE}{σ:St}{H0:Hp}{Q:VK}(keep:Nat->Bool)(f:Nat->V)(hz:N<=1000)(hgo:∀ i H,i<N->Same H0 H->J.go i H)(hst:∀ H,Same H0 H->J.stop N H)(ht:∀ i H x H',i<N->Same H0 H->J.yld i H x H'->∀ (A:VK) (B:Hp->Prop),(keep i=true->∀ H4,Same H H4->A (f i) H4)->(keep i=false->∀ H4,Same H H4->B H4) ->
   g x (dA n cap σ) H' λσ2 H2=>tc σ2 H2 λb H3=>if b=true then te σ2 H3 A else B H3)(hq:∀ p H,Same H0 H->H p=none->Q (.ref p) (upd H p (.lst (((List.range N).filter keep).map f)))):jS n cap g tc te σ J H0 Q:=by
 refine⟨λi m ys H=>m=N-i/\i<=N/\Same H0 H/\ys=((List.range i).filter keep).map f,⟨N,by simp,ZM _,Same.refl _,rfl⟩,?_⟩;rintro i m ys H ⟨rfl,hi,sm,rfl⟩;by_cases hlt:i<N
 ·refine .inr ⟨hgo i H hlt sm,?_,λx H' y=>?_⟩
  ·rw[Ze];have:=ZJ keep (List.range i);rw[List.length_range]at this;exact bc (by omega)
  ·refine ht i H x H' hlt sm y _ _ (λk H4 s4=>⟨N-(i+1),by omega,rfl,hlt,sm.trans s4,?_⟩) (λk H4 s4=>⟨N-(i+1),by omega,rfl,hlt,sm.trans s4,?_⟩)
   ·rw[List.range_succ,Yx,ZN];simp[k]
   ·rw[List.range_succ,Yx,ZN];simp[k]
 ·have e:i=N:=by omega
  subst e;exact .inl ⟨hst H sm,λp hp=>hq p H sm hp⟩
inductive rCatS  (x:V)(y:V)(H:Hp)(Q:VK):Prop
 |mk (a b xs ys:_) (h0:x=.ref a) (h1:y=.ref b) (h2:H a=some (.tup xs)) (h3:H b=some (.tup ys)) (h4:xs.length+ys.length<=sizeLine) (h5:∀p H',Same H H'->H' p=some (.tup (xs++ys))->Q (.ref p) H'):rCatS  x y H Q
section
variable{X:Cx}
theorem CP:OpR X (binaryOp .Add) rCatS:=by
 intro JC s σ H x y v u Q I rx ry h;obtain⟨a,b,xs,ys,rfl,rfl,ha,hb,hz,q⟩:=h;by_cases hx:xs=[]
 ·cases rx;cases ry;obtain⟨its,r1,p1,_⟩:=I.tuple (JF (K:=X.K) ha);obtain⟨its2,r2,p2,_⟩:=I.tuple (JF (K:=X.K) hb);obtain⟨⟨cls,dd,data,sl⟩,ho,hc,n,hd⟩:=id p1;obtain⟨⟨cls2,dd2,data2,sl2⟩,ho2,hc2,n2,hd2⟩:=id p2;simp only at hc hd hc2 hd2;subst hc hd hc2 hd2;have e:its=[]:=r1.nil_iff.mpr hx;subst e;refine PySem.concat_meets ⟨_,ho,rfl⟩ ⟨_,ho2,rfl⟩ noFill_tuple_add seq_tuple_add PySem.F.slot_tuple_add PySem.F.entry_tuple_add (PySem.F.args_tuple_add_2 _ _)
   (tuple_addW0 a b _ its2.toArray n n2 dd dd2 sl sl2 (by simp)) ⟨ho,ho2,⟨.ref b,H,I,rfl,q b H (Same.refl H) ?_⟩⟩
  rw[hx];exact hb
 ·exact CQ JC s σ H _ _ v u Q I rx ry ⟨a,b,xs,ys,rfl,rfl,JF ha,JF hb,hx,hz,λe=>q a H (Same.refl H) (by rw[e,ZR];exact ha),λ_ p hp=>q p _ (af hp _) ac⟩
theorem di:QOp X (binaryOp .Add) rCatS:=⟨CP⟩
theorem tu{n d:Nat}{h:Int}(h0:0<=h):HT.sIx n d (some h)=min h.toNat n:=by have e:=HT.sIx_nat n d h.toNat;rw[show((h.toNat:Nat):Int)=h by omega]at e;exact e
variable{K:W.Frag}(hK:X.K=K)
include hK
theorem lZ:QIx X (rIxT K):=by subst hK;exact aq
theorem Cm:QCall X (.type "list") (λxs H Q=>∃p ys,xs=[.ref p]/\(SqL K H p ys\/SqT K H p ys)/\∀l,H l=none->Q (.ref l) (upd H l (.lst ys))):=by subst hK;exact lh
omit hK
end
open PySem PySem.Spec PyProof.Rows PySem.W
section
variable{X:Cx}
theorem Dr{st:JA}:QS X st (λ_ _ _=>False):=⟨λ_ _ _ _ _ _ h=>h.elim⟩
theorem yN:QOp X (compareOp .IsNot) (λx y H Q=>∃b c,x=.bl b/\y=.bl c/\Q (.bl (!decide (b=c))) H):=by refine⟨?_⟩;intro JC s σ H x y v u Q I rx ry h;obtain⟨b,c,rfl,rfl,q⟩:=h;cases rx;cases ry;cases b<;>cases c<;>exact z6 ⟨.bl _,H,I,rfl,q⟩
variable{o e d:Jz}{to te td:TE}{apos cpos:Pos}
theorem kU{prog:Jt}{w:Jx}{A:Jv}{E:Jh}{s:Ju}{t sl:Jy}{items:Jm}{vl vu:Jw}{lo hi:Option Int}{Q:Jh}(ht:IsTup s.heap t items)(hs:s.heap.IsSliceOf sl vl vu .none)(pl:IsPart vl lo)(pu:IsPart vu hi)(hw:HT.sIx items.size 0 lo=0/\HT.sIx items.size items.size hi=items.size)(h:Q (.ref t) s):wpAny (model prog w) A (getItem (.ref t) (.ref sl)) Q E s:=by
 obtain⟨os,hos,hcs,hds⟩:=id hs;have hTs:s.TypeIs (.ref sl) "slice":=⟨os,hos,hcs⟩
 unfold getItem
 try with_reducible refine Z1 ?_
 first|refine z0 (z6 ?_)|skip
 refine z0 (wpAny_sequenceKey ht.typeIs (by decide) ?_);refine z0 (ZW (name:=Str.ofString "__getitem__") ht.typeIs Z6
  (Z2 Z6 ht.typeIs entry_tuple_getitem ?_ (args_tuple_getitem _ _)))
 show wpAny _ _ (Builtin.Tuple.tupleItemsOf (.ref t) >>= _) _ _ s;refine z0 (tupleItemsOf_ ht ?_);refine z0 (wpAny_typeOf hTs ?_);rw[Jg (by decide)];refine z0 (HT.sliceApplied_gen hs pl pu ?_);show wpAny _ _ (if(((HT.sIx items.size 0 lo:Nat):Int)==0&&(1:Int)==1&&(HT.sIx items.size items.size hi-HT.sIx items.size 0 lo)==items.size)=true then _ else _) _ _ s;rw[Jg (by rw[hw.1,hw.2];simp)];refine z0 (m:=Builtin.Tuple.tupleIsExact _) ?_;unfold Builtin.Tuple.tupleIsExact;refine z0 (wpAny_typeOf ht.typeIs (z6 ?_));rw[Jg (by decide)];exact z0 (Z8 (z6 ⟨_,rfl,z6 h⟩))
def HR:V->Option Int->Option Int->Hp->VK->Prop:=λx lo hi H Q=>∃a xs,x=.ref a/\H a=some (.tup xs)/\∀p H',Same H H'->H' p=some (.tup (cE xs lo hi))->Q (.ref p) H'
theorem bQ:QSl X HR:=by
 refine⟨?_⟩;intro JC s σ H x v vl vu lo hi sl Q I rx hs pl pu h;obtain⟨a,xs,rfl,hx,q⟩:=h;by_cases hw:HT.sIx xs.length 0 lo=0/\HT.sIx xs.length xs.length hi=xs.length
 ·cases rx;obtain⟨its,r,ht,hz⟩:=I.tuple (JF (K:=X.K) hx);have hlen:its.toArray.size=xs.length:=by rw[Zg];exact r.length.symm
  refine⟨"tuple",_,Z6.lookup,ht.typeIs,kU ht hs pl pu (by rw[hlen];exact hw) ⟨.ref a,H,I,rfl,q a H (Same.refl H) ?_⟩⟩;unfold cE;rw[hw.1,hw.2,List.drop_zero,Nat.sub_zero,List.take_length];exact hx
 ·exact FL JC s σ H _ v vl vu lo hi sl Q I rx hs pl pu ⟨a,xs,rfl,JF hx,hw,λp hp=>q p _ (af hp _) ac⟩
end
section
variable{prog:Jt}{w:Jx}{A:Jv}{s:Ju}{fin:Bool}{Q:Bool->Ju->Prop}
theorem tZ(ns:Jq):∀(ms:Jq) (vs ws:Jn) (i:Nat),IntsAre vs ns->IntsAre ws ms->fin=decide (ns.length<ms.length)->Q (HT.lexLt ns ms) s->KatLex prog w A true fin Q (vs.zip ws) i s:=by
 induction ns with
 |nil =>
  intro ms vs ws i a b hf q;subst hf;cases a;cases b with
  |nil=>exact kat_nil q
  |cons _ _ _=>exact kat_nil (by rw[decide_eq_true (by simp)];exact q)
 |cons x ns ih =>
  intro ms vs ws i a b hf q;cases a with
  |cons _ t h1 =>
  cases b with
  |nil =>subst hf;exact kat_nil q
  |cons y u h2 =>
  obtain⟨e,he,iff⟩:=HT.eqAt_int A s x t y u;rw[HT.lexLt_cons]at q;refine kat_cons (he _ _ _ _ (kat_go (λet=>?_) (λef=>?_)))
  ·rw[Jg (iff.mp et)]at q;exact kat_yes (ih _ _ _ (i+1) h1 h2 (by rw[hf];simp) q)
  ·have hne:x≠y:=λz=>by rw[iff.mpr z]at ef;cases ef
   rw[Jf hne]at q;refine kat_no ?_;cases i with
   |zero=>exact oneLt_int q
   |succ i=>exact kat_one _ _ (PyProof.Rows.lt_int q)
end
section
variable{X:Cx}{JC:Jj}{σ:St}{H:Hp}{s:Ju}{h':JB}
theorem gG{P:Jt}{w:Jx}{H:Hp}{h:JB}{a:Jy}{o:HO}(x:ObjOk P w H h a o):∃ob,h.get? a=some ob:=by
 cases o with
 |lst xs =>obtain⟨_,_,_,_,e⟩:=x;exact⟨_,e⟩
 |tup xs =>obtain⟨_,_,_,ob,e,_⟩:=x;exact⟨ob,e⟩
 |dK kvs =>obtain⟨_,_,_,_,ob,_,_,e,_⟩:=x;exact⟨ob,e⟩
 |dT kvs =>obtain⟨_,_,_,_,ob,_,_,e,_⟩:=x;exact⟨ob,e⟩
 |set S n =>obtain⟨ob,_,_,_,e,_⟩:=x;exact⟨ob,e⟩
 |ins C dx fs =>obtain⟨_,_,_,e,_⟩:=x;exact⟨_,e⟩
 |own y=>exact x
 |xd fs =>obtain⟨_,⟨ob,_,_,e,_⟩,_⟩:=x;exact⟨ob,e⟩
 |rng lo hi =>obtain⟨_,_,_,e⟩:=x;exact⟨_,e⟩
 |frz ob u=>exact⟨ob,x.1⟩
 |tbl ps=>exact⟨_,x⟩
 |met f y=>exact⟨_,x⟩
 |ext φ=>exact x.2.1
theorem none_of(I:Inv X JC σ H s){a:Jy}(hg:s.heap.get? a=none):H a=none:=by
 cases q:H a with
 |none=>rfl
 |some u =>obtain⟨ob,e⟩:=gG (I.hok a u q);rw[hg]at e;cases e
theorem Inv.laidF{a:Jy}{o:HO}{t':Nat}(I:Inv X JC σ H s)(k:∀b u,b≠X.env.locals->s.heap.get? b=some u->h'.get? b=some u)(hn:∃m,s.heap.Ns X.env.locals m/\h'.Ns X.env.locals m)(hg:s.heap.get? a=none)(new:ObjOk X.prog X.w (upd H a o) h' a o):Inv X JC σ (upd H a o) { s with heap:=h',toks:=t' }:=by
 have fr:=none_of I hg;have ne:∀{b:Jy} {u:HO},H b=some u->b≠a:=fun{b u} e=>ai e fr;have lt:∀{b:Jy} {u:Obj},s.heap.get? b=some u->b≠a:=fun{b u} e z=>by rw[z,hg]at e;cases e
 have neL:∀{b:Jy} {u:HO},H b=some u->b≠X.env.locals:=fun{b u} e=>ai e I.free;refine I.step (g':=s.gens) (d':=s.drawn) (ch:=[]) (λb hb=>by simp at hb) (λb o hL _ _ e _=>k b o hL e) (λb o hL _ _ e _=>⟨o.slots,k b o hL e⟩) (λb o _ e n=>by rw[ad (lt e)];exact n) (λb o _ e=>?_)
  (λb xs e=>by rw[ad (ne e)];exact e) (λb o u e=>by rw[ad (ne e)];exact e) (λb ps e=>⟨#[],by rw[ad (ne e),e];simp⟩) (λm' hm'=>?_) (λb u e=>?_) I.bare
 ·by_cases hL:b=X.env.locals
  ·obtain⟨m,_,o',_,_,e',_⟩:=hn;exact⟨o',by rw[hL];exact e'⟩
  ·exact⟨o,k b o hL e⟩
 ·obtain⟨m,h1,h2⟩:=hn;rw[hm'.eq_nsMap,<-h1.eq_nsMap];exact h2
 ·by_cases hb:b=a
  ·subst hb;rw[ac]at e;cases e;exact new
  ·rw[ad hb]at e;refine(I.hok b u e).stay (λc v hc q=>k c v ?_ q) (λc q=>by rw[ad (ne q)];exact q) λc ys q=>by rw[ad (ne q)];exact q
   rcases hc with z|z
   ·rw[z];exact neL e
   ·exact neL z
def pz(base h:JB)(L:Jy):Jj:=(List.range h.objs.size).filterMap λb=>if b=L\/(base.get? b).isSome=true then none else(h.get? b).map λo=>(b,o)
theorem jw(base h:JB)(L:Jy):News base L h (pz base h L):=λp hp=>by
 obtain⟨b,_,e⟩:=Ya.mp hp;by_cases c:b=L\/(base.get? b).isSome=true
 ·rw[Jg c]at e;cases e
 ·rw[Jf c]at e;cases q:h.get? b with
  |none=>rw[q]at e;cases e
  |some o =>
   rw[q]at e;cases e;refine⟨q,λz=>c (.inl z),?_⟩;cases z:base.get? b with
   |none=>rfl
   |some u=>exact absurd (.inr (by rw[z];rfl)) c
theorem dF{base h:JB}{L b:Jy}{o:Obj}(e:h.get? b=some o)(hL:b≠L)(hb:base.get? b=none):(b,o)∈pz base h L:=by refine Ya.mpr ⟨b,Yv.mpr (Zm e),?_⟩;rw[Jf (by rintro(z|z);exact hL z;rw[hb]at z;cases z),e];rfl
end
theorem dP(ns:Jq):SeqAt.shaped (.tuple (ns.map .int))=true:=by
 unfold SeqAt.shaped;rw[ZD];refine⟨?_,?_⟩
 ·simp only[PyData.canLay0];exact PyProof.Rows.canLayAll_ints ns
 ·refine decide_eq_true ?_;simp only[PyData.depth];rw[PyProof.Rows.depthAll_ints ns];decide
theorem mM:∀(ns ms:Jq),PyData.eqvAll (ns.map .int) (ms.map .int)=decide (ns=ms)
 | [],[]=>by simp[PyData.eqvAll]
 | [],_::_=>by simp[PyData.eqvAll]
 |_::_,[]=>by simp[PyData.eqvAll]
 |x::ns,y::ms=>by simp only[Zk,PyData.eqvAll,PyData.eqv];rw[mM ns ms,Bool.eq_iff_iff];simp
theorem jZ(ns ms:Jq):PyData.eqv (.tuple (ns.map .int)) (.tuple (ms.map .int))=decide (ns=ms):=by simp only[PyData.eqv];exact mM ns ms
theorem iE{H:Hp}{a:Jy}{ns:Jq}(h:H a=some (.tup (ns.map V.int))):Dt H (.tuple (ns.map .int)) (.ref a):=by simp only[Dt];exact⟨a,_,rfl,Rd.of h,uH ns⟩
section
variable{X:Cx}
theorem EH(hu:X.A.units+64<cLine):QOp X (compareOp .Eq) (λx y H Q=>∃(a b:Jy) (ns ms:Jq),x=.ref a/\y=.ref b/\H a=some (.tup (ns.map V.int))/\H b=some (.tup (ms.map V.int))/\Q (.bl (decide (ns=ms))) H):=by refine⟨?_⟩;intro JC s σ H x y v u Q I rx ry h;obtain⟨a,b,ns,ms,rfl,rfl,ha,hb,q⟩:=h;exact yT hu JC s σ H _ _ v u Q I rx ry ⟨_,_,iE ha,iE hb,dP ns,dP ms,by rw[jZ];exact q⟩
theorem yM(hu:X.A.units+64<cLine):QOp X (compareOp .NotEq) (λx y H Q=>∃(a b:Jy) (ns ms:Jq),x=.ref a/\y=.ref b/\H a=some (.tup (ns.map V.int))/\H b=some (.tup (ms.map V.int))/\Q (.bl (!decide (ns=ms))) H):=by refine⟨?_⟩;intro JC s σ H x y v u Q I rx ry h;obtain⟨a,b,ns,ms,rfl,rfl,ha,hb,q⟩:=h;exact yV hu JC s σ H _ _ v u Q I rx ry ⟨_,_,iE ha,iE hb,dP ns,dP ms,by rw[jZ];exact q⟩
end
theorem jb{x:V}{A B:Prop}(h:x≠.non)(hA:A):if(!decide (x=.non))=true then A else B:=by rw[decide_eq_false h];exact bn hA
theorem Gv{x:V}{A B:Prop}(h:x≠.non)(hB:B):if decide (x=.non)=true then A else B:=by rw[decide_eq_false h];exact aw hB
theorem Gw{c A B:Prop}[Decidable c](h:c)(hA:A):if decide c=true then A else B:=by rw[decide_eq_true h];exact bn hA
theorem cK{c A B:Prop}[Decidable c](h1:c->A)(h2:¬c->B):if decide c=true then A else B:=by
 by_cases h:c
 ·exact Gw h (h1 h)
 ·rw[decide_eq_false h];exact aw (h2 h)
structure CompOk1(X:Cx)(scope:Scope)(cx:Str)(cap:Js)(capN:Jr):Prop where
 kind:scope.kind=.function
 names:∀x∈scope.names,x.2=.local->scope.names.lookup x.1=some .local
 onecell:∀y∈scope.names,y.2=.cell->y.1=cx
 own:scope.names.lookup cx=some .cell
 cf:∀(n:Nat) (acc:List (Str×Jy)),cellsFrom n scope.names acc=(cx,n)::acc
 pc:∀h:JB,pushCells h scope.names=h.push { cls:=.type "cell",data:=.cell none }
 frees:(scope.names.all λy=>!(y.2==NameKind.free) ||(X.env.kindOf y.1==some .cell ||X.env.kindOf y.1==some .free))=true
 cap:CapOk X scope cap capN
open PySem PySem.Spec PyProof.Rows PySem.W
def dY(h:JB)(e:Jy)(dc:Option Jy):Prop:=∃o,h.get? e=some o/\o.dict=dc
theorem pT(f:Jm->Jm)(o:Obj):(Obj.mapFields f o).dict=o.dict:=by unfold Obj.mapFields;split<;>rfl
section
variable{M:Model}{A:Jv}{E:Jh}{s:Ju}{base:JB}{env:Env}{outer l:List Env}{L e:Jy}
theorem mS{oe:Obj}{vs:Jm}{hd0 a0:Jw}{nx:Bool}{Q:Unit->Ju->Prop}(fr:A.frames=some (env::outer))(ff:s.heap.FunFrames base (env::outer))(ef:env.frame=some L)(he:s.heap.get? e=some oe)(kb:base.StaysIn s.heap)(en:base.get? e=none)(dt:oe.data=.fields vs)(sz:1<vs.size)(v0:vs[0]?=some a0)(k:∀h',Heap.NotedW base (env::outer) e oe.cls a0 (rawInt L) s.heap h'->dY h' e oe.dict->Q () { s with heap:=h' }) :
  wpAny M A (do let a ←frameOf env;let pl ←entryPlaceOf L nx;let b ←EntryCells.newEntry hd0 a .none (rawInt L) .none pl;setField (.ref e) 1 b) Q E s:=by
 have nf:e∉(env::outer).filterMap (·.frame):=λhm=>by obtain⟨_,o,ho,hn⟩:=ff.mem hm;cases Zb (he.symm.trans ho);exact hn vs dt
 refine z0 (wpAny_frameOf_fun fr ff ef λh1 k1=>z0 (wpAny_entryPlaceOf λpl hpl=>?_));unfold EntryCells.newEntry newFields;refine z0 (Z5 ?_ (hpl.sizeOk5 _ _ _ _ _));have t3:([hd0,.ref L,.none,rawInt L,.none]++(if pl.isEmpty then List.replicate 6 Value.none else pl)).toArray[3]?=some (rawInt L):=by simp
 generalize([hd0,.ref L,.none,rawInt L,.none]++(if pl.isEmpty then List.replicate 6 Value.none else pl)).toArray=ts at t3 ⊢;have g1:h1.get? e=some oe:=(k1.2.1 e nf).trans he;have st1:base.StaysIn h1:=λb o hb=>(k1.2.1 b λhm=>nomatch(hb.symm.trans (ff.mem hm).1)).trans (kb b o hb);have gp:(h1.push { cls:=.type "traceback",data:=.fields ts }).get? e=some oe:=z9 _ g1;have ne:h1.objs.size≠e:=Yf (Zm g1);have dm:=Yb dt (·.setIfInBounds 1 (Value.ref h1.objs.size));have self:=Yk (Obj.mapFields (·.setIfInBounds 1 (Value.ref h1.objs.size))) gp (Obj.isFreed_of_fields dm);have atT:=(Yg (h1.push { cls:=.type "traceback",data:=.fields ts }) (Obj.mapFields (·.setIfInBounds 1 (Value.ref h1.objs.size))) (Zs ne)).trans (Zo h1 rfl);have oth:∀b o,b≠e->h1.get? b=some o->((h1.push { cls:=.type "traceback",data:=.fields ts }).update e (Obj.mapFields (·.setIfInBounds 1 (Value.ref h1.objs.size)))).get? b=some o:=λb o n q=>(Yg _ _ (Zs n)).trans (z9 _ q);have nrec:∀b o,s.heap.get? b=some o->(∀ws,o.data≠.fields ws)->b≠e:=λb o q hn z=>by subst z;cases Zb (he.symm.trans q);exact hn vs dt
 refine YJ gp dt sz (k _ ⟨λb o q=>oth b o (λz=>nomatch((z▸q).symm.trans en)) (st1 b o q),ff.of_keeps λb o q hn=>?_,?_,λb o q hn=>?_⟩ ⟨_,self,pT _ _⟩)
 ·obtain⟨sl,hs⟩:=k1.2.2 b o q;exact⟨_,oth b _ (nrec b o q hn) hs,rfl⟩
 ·exact⟨_,_,h1.objs.size,_,ts,self,⟨Obj.cls_mapFields _ _,by rw[Array.getElem?_setIfInBounds_ne (by decide)];exact v0⟩,dm,by simp[sz],st1.fresh,ne,atT,rfl,t3⟩
 ·obtain⟨sl,hs⟩:=k1.2.2 b o q;exact⟨sl,oth b _ (nrec b o q hn) hs⟩
theorem ik{cls a0 fl:Jw}{dc:Option Jy}{Q:Unit->Ju->Prop}(kb:base.StaysIn s.heap)(ff:s.heap.FunFrames base l)(tr:s.heap.TracedAtW base e cls a0 fl)(dd:dY s.heap e dc)(k:∀h',base.StaysIn h'->h'.FunFrames base l->h'.TracedW base e cls a0->s.heap.UpToSlots h'->dY h' e dc->Q () { s with heap:=h' }):wpAny M A (setFlight (.ref e) none) Q E s:=by
 obtain⟨oe,vs,T,oT,ts,he,hc,dt,v1,nT,ne,hT,dT,t3⟩:=tr;have z3:3<ts.size:=(Ys.mp t3).1;have oth:∀b,b≠T->(s.heap.update T (Obj.mapFields (·.setIfInBounds 3 ((none:Option Jy).elim Value.none λf=>rawInt f)))).get? b=s.heap.get? b:=λb n=>Yg _ _ (Zs n);have nrec:∀b o,s.heap.get? b=some o->(∀ws,o.data≠.fields ws)->b≠T:=λb o q hn z=>by subst z;cases Zb (hT.symm.trans q);exact hn ts dT
 unfold setFlight;refine z0 (ZV he dt v1 ?_);rw[Jg (by simp:(Value.ref T != Value.none)=true)];refine YJ hT dT z3 (k _ (λb o q=>(oth b λz=>nomatch((z▸q).symm.trans nT)).trans (kb b o q)) (ff.of_keeps λb o q hn=>⟨o,(oth b (nrec b o q hn)).trans q,rfl⟩) ?_ (λb o q hn=>⟨o.slots,(oth b (nrec b o q hn)).trans q⟩) ?_)
 ·exact⟨oe,vs,T,_,_,(oth e (Zs ne)).trans he,hc,dt,v1,nT,ne,Yk _ hT (Obj.isFreed_of_fields (Yb dT _)),Yb dT _,by simp[z3]⟩
 ·obtain⟨o,q,d⟩:=dd;exact⟨o,(oth e (Zs ne)).trans q,d⟩
theorem oQ{cls a0:Jw}{dc:Option Jy}{Q:Unit->Ju->Prop}(fr:A.frames=some (env::outer))(ef:env.frame=some L)(fl:Heap.FlyingW base (env::outer) e cls a0 s.heap)(dd:dY s.heap e dc)(k:∀h',Heap.HeldW base (env::outer) e cls a0 L h'->s.heap.UpToSlots h'->dY h' e dc->Q () { s with heap:=h' }):wpAny M A (noteFrame (.ref e) env) Q E s:=by
 obtain⟨f1,f2,f3,oe,vs,T,oT,ts,he,hc,dt,v1,nT,ne,hT,dT,t3⟩:=fl;obtain⟨o2,q2,d2⟩:=dd;cases Zb (he.symm.trans q2);have z3:3<ts.size:=(Ys.mp t3).1;unfold noteFrame;simp only[ef];refine z0 (ZV he dt v1 ?_);rw[Jg (by simp:(Value.ref T != Value.none)=true)];refine z0 (ZV hT dT t3 ?_);rw[Jf (by simp[rawInt]:¬(Value.none==rawInt L)=true)];refine z0 (YJ hT dT z3 ?_);have oth:∀b,b≠T->(s.heap.update T (Obj.mapFields (·.setIfInBounds 3 Value.none))).get? b=s.heap.get? b:=λb n=>Yg _ _ (Zs n);have nrec:∀b o,s.heap.get? b=some o->(∀ws,o.data≠.fields ws)->b≠T:=λb o q hn z=>by subst z;cases Zb (hT.symm.trans q);exact hn ts dT
 have sz:1<vs.size:=(Ys.mp v1).1;refine mS (s:={ s with heap:=s.heap.update T (Obj.mapFields (·.setIfInBounds 3 Value.none)) }) fr (f3.of_keeps λb o q hn=>⟨o,(oth b (nrec b o q hn)).trans q,rfl⟩) ef ((oth e (Zs ne)).trans he) (λb o q=>(oth b λz=>nomatch((z▸q).symm.trans nT)).trans (f1 b o q)) f2 dt sz hc.2 λh' nt dd=>?_;obtain⟨n1,n2,n3,n4⟩:=nt;rw[hc.1]at n3;rw[d2]at dd;exact k h' ⟨n1,f2,n2,n3⟩ (λb o q hn=>n4 b o ((oth b (nrec b o q hn)).trans q) hn) dd
end
open PySem PySem.Spec PyProof.Rows PySem.W
theorem gw{v:V}{A B:Prop}(hA:A):if decide (v=v)=true then A else B:=by rw[decide_eq_true rfl];exact bn hA
theorem aF{v u:V}{A B:Prop}(h:v≠u)(hB:B):if decide (v=u)=true then A else B:=by rw[decide_eq_false h];exact aw hB
theorem Ae:bootBuiltins "str" = some (.type "str"):=by decide
inductive TV where
 |flat (v:V)
 |tup (xs:List V)
def rV:V->Jw->Bool
 |.non,.none=>true
 |.bl b,.bool c=>b==c
 |.int i,.int j _=>i==j
 |.str x,.str y _=>x==y
 |_,_=>false
theorem rg:∀{v:V} {u:Jw},rV v u=true->RelV v u:=by
 intro v u h;unfold rV at h;split at h
 ·exact rfl
 ·obtain rfl:=ZO.mp h;exact rfl
 ·obtain rfl:=ZO.mp h;exact⟨_,rfl⟩
 ·obtain rfl:=ZO.mp h;exact⟨_,rfl⟩
 ·cases h
def tU:List V->Jn->Bool
 | [],[]=>true
 |v::vs,u::us=>rV v u&&tU vs us
 |_,_=>false
theorem mW:∀{vs:List V} {us:Jn},tU vs us=true->Vals vs us
 | [],[],_=>.nil
 |_::_,_::_,h=>by have h:=(ZD _ _).mp h;exact .cons (rg h.1) (mW h.2)
 | [],_::_,h=>nomatch h
 |_::_,[],h=>nomatch h
def lY(K:W.Frag):TV->Jw->Bool
 |.flat v,u=>rV v u
 | .tup xs,.ref a=>(match K.lookup a with
  |some o=>o.cls == .type "tuple"&&(match o.data with|.seq its _=>decide (its.size<=1000)&&tU xs its.toList|_=>false)
  | none=>false)
 |_,_=>false
def DZ(K:W.Frag):TV->Jw->Prop
 |.flat v,u=>RelV v u
 |.tup xs,u=>∃a,u=.ref a/\∀H,SqT K H a xs
theorem Hk{K:W.Frag}(d:TV)(u:Jw)(h:lY K d u=true):DZ K d u:=by
 unfold lY at h;split at h
 ·exact rg h
 ·rename_i xs a;split at h
  ·rename_i o ho;obtain⟨e1,e2⟩:=(ZD _ _).mp h;split at e2
   ·rename_i its n hd;obtain⟨e3,e4⟩:=(ZD _ _).mp e2;exact⟨a,rfl,λH=>.inr ⟨o,its,n,ho,ZO.mp e1,hd,bD (ZY e3),mW e4⟩⟩
   ·cases e2
  ·cases h
 ·cases h
structure Tab(K:W.Frag)(a:Jy)(D:List (Str×TV)):Prop where
 look:KTD.tabLook (lY K) (λb=>K.lookup b) a D=true
theorem Tab.at{K:W.Frag}{a:Jy}{D:List (Str×TV)}(T:Tab K a D){h:JB}(X:K.In h):KTD.TabOf (DZ K) h a D:=KTD.tab_of_look Hk (λb o e=>X b o e) T.look
section
variable{prog:Jt}{w:Jx}{A:Jv}{E:Jh}{s:Ju}{d:Jy}{o:Obj}{es:Array DictEntry}{ep:Nat}{x:Str}{tx:Tok}
theorem DE{Q:Jl->Ju->Prop}(ho:s.heap.get? d=some o)(hd:o.data=.dict es ep)(hall:(es.all λe=>isExactStrKey e.key)=true)(h:Q ((es.toList.find? λe=>e.key.isStr x).map (·.val)) { s with toks:=s.toks+1 }) :
  wpAny (model prog w) A (dictGet d (.str x tx)) Q E s:=by
 unfold dictGet;(try with_reducible (refine Z1 ?_))
 refine z0 (wpAny_pyHash_str (z0 (KTD.kt_dictFind_strs (s:={ s with toks:=s.toks+1 }) ho hd hall ?_)));have hq:Q (findBy (λy v=>v.isStr y) es x) { s with toks:=s.toks+1 }:=by
  have hf:findBy (λy v=>v.isStr y) es x=(es.toList.find? λe=>e.key.isStr x).map (·.val):=by obtain⟨l⟩:=es;simp[findBy]
  rw[hf];exact h
 rw[findBy_of_findIdx?]at hq;cases hi:es.findIdx? λe=>e.key.isStr x<;>rw[hi]at hq
 ·exact z6 hq
 ·exact z0 (Yp (s:={ s with toks:=s.toks+1 }) ho hd (z6 hq))
theorem Bq{Q:Jh}{v:Jw}(ex:o.ExactDict)(ho:s.heap.get? d=some o)(hd:o.data=.dict es ep)(hall:(es.all λe=>isExactStrKey e.key)=true)(hv:(es.toList.find? λe=>e.key.isStr x).map (·.val)=some v)(h:Q v { s with toks:=s.toks+1 }):wpAny (model prog w) A (getItem (.ref d) (.str x tx)) Q E s:=by
 have T:s.TypeIs (.ref d) "dict":=⟨o,ho,ex.1⟩
 unfold getItem;(try with_reducible (refine Z1 ?_))
 refine z0 (wpAny_sequenceKey T (by decide) (z0 (ZW (name:=Str.ofString "__getitem__") T slot_dict_getitem (Z2 slot_dict_getitem T entry_dict_getitem ?_ (args_dict_getitem _ _)))));show wpAny _ _ (dictGet d (.str x tx) >>= _) _ _ _;refine z0 (DE ho hd hall ?_);rw[hv];exact z6 ⟨v,rfl,z6 h⟩
end
section
variable{X:Cx}
def FB(K:W.Frag):R2:=λx y H Q=>∃a k D d,x=.ref a/\y=.str k/\Tab K a D/\KTD.datumAt k D=some d/\(match d with|.flat v=>Q v H|.tup xs=>∀t,(∀H',SqT K H' t xs)->Q (.ref t) H)
theorem B7:QIx X (FB X.K):=by
 refine⟨?_⟩;intro value slice JC s σ H x y v u Q I rx ry h hs;obtain⟨a,k,D,d,rfl,rfl,T,hk,q⟩:=h;obtain⟨t,rfl⟩:=ry;cases rx;obtain⟨sy,o,es,ep,ho,ex,hd,hr⟩:=T.at I.kIn;obtain⟨v,hv,ok⟩:=hr.find_some hk;have fin:EP X JC σ Q v { s with toks:=s.toks+1 }:=by
  cases d with
  |flat z=>exact⟨z,H,I.tok _,ok,q⟩
  |tup xs =>obtain⟨t,rfl,e⟩:=ok;exact⟨.ref t,H,I.tok _,rfl,q t e⟩
 exact subscriptTail_builtinR (x:=v) (⟨o,ho,ex.1⟩:s.TypeIs (.ref a) "dict") slot_dict_getitem.lookup (Bq (Q:=λr s'=>r=v/\EP X JC σ Q r s') ex ho hd (by obtain⟨l⟩:=es;simpa using hr.exact) hv ⟨rfl,fin⟩) hs
theorem ql{x:Str}{a:Jy}{pos:Pos}(hm:X.mg x=some (.ref a))(hg:Gl X x:=by rfl)(hd:(x==("__debug__":Str))=false:=by decide):QE X (.Name x pos) (tC (.ref a)):=⟨vm hg hm rfl hd⟩
end
open PySem PySem.Spec PyProof.Rows PySem.W
def CXr(P:Jt)(w:Jx):CXT:=λouter H s E e s' =>
 ∃(ea t:Jy) (C:Jw) (vs:Jn) (B:JB) (H':Hp) (dc:Option Jy),e=.ref ea/\s'.os=s.os/\AllBare s'.gens/\Un (frs outer) [] H H' s.heap s'.heap/\HOk P w H' s'.heap /\
  Heap.FlyingW B outer ea C (.ref t) s'.heap/\s'.heap.TupAt t vs/\B.get? t=none/\(∀b o,b∉frs outer->((∃u,H' b=some u)\/∃o0,s.heap.get? b=some o0)->s'.heap.get? b=some o->B.get? b=some o)/\dY s'.heap ea dc/\E C dc H'
structure ExCls(K:W.Frag)(C:Jy):Prop where
 cls:∀h,K.In h->∃nm q N bs bm hdct sn sub ab col dd k0 k1 k2 k3 k5 mN,h.get? C=some (excClassObj nm q C N bs bm hdct sn sub ab col dd k0 k1 k2 k3 k5 "ValueError.__new__")/\h.Ns N mN/\mN "__init__" = none/\bm.contains (.type "BaseException")=true /\
  OwnTail h [.type "ValueError",.type "Exception",.type "BaseException",.type "object"] bm
def xM(X:Cx)(EC:Jw->Hp->Prop):Prop:=∀(JC:Jj) (σ:St) (H1:Hp) (s1:Ju) (h2:JB) (e:Jy) (C:Jw) (vs:Jn),Inv X JC σ H1 s1->Heap.MadeExcOf s1.heap h2 e C vs->EC C H1->X.xe (.ref e) { s1 with heap:=h2 }
section
variable{X:Cx}{EC:Jw->Hp->Prop}{C:Jy}{x:Str}{np cpos pos:Pos}{e:Jz}{es:List Jz}{ta:TA}
theorem mF(hR:xM X EC)(hc:X.calm=true)(cl:ExCls X.K C)(hm:X.mg x=some (.ref C))(ha:QA X (e::es) ta)(hg:Gl X x:=by rfl)(hs:(e::es).all aP=true:=by rfl)(hdb:(x==("__debug__":Str))=false:=by decide) :
  QS X (.Raise (some (.Call (.Name x np) (e::es) [] cpos)) none pos) (λ_ σ H=>ta σ H λvs H1=>vs.length<=sizeLine/\EC (.ref C) H1):=by
 refine⟨?_⟩;intro JC s σ H D I h;obtain⟨nm,q,N,bs,bm,hdct,sn,sub,ab,col,dd,k0,k1,k2,k3,k5,mN,hC,hN,hni,hb,T⟩:=cl.cls X.base I.ok.mod.kin;have hs1:aP e=true:=by have:=Yu.mp hs e (by simp);exact this
 have he:=aJ (es:=es) (env:=X.env) hs1;have hpl:(backTo cpos (starEach es X.env)).any (·.1)=false:=bK (by
  rw[Yu];intro y hy;exact Yu.mp hs y (Zf _ hy))
 refine wpAny_Raise_call_subT (nm:=nm) (q:=q) (C:=C) (N:=N) (bs:=bs) (hdct:=hdct) (sn:=sn) (sub:=sub) (ab:=ab) (col:=col) (dd:=dd) (k0:=k0) (k1:=k1) (k2:=k2) (k3:=k3) (k5:=k5) PySem.F.excBase_ValueError hb (I.ok.hd hc) ?_ hni (gB I hg hm ⟨rfl,?_⟩ hdb)
 ·rw[he];show(false ||(backTo cpos (starEach es X.env)).any (·.1))=false;rw[hpl];rfl
 ·have hA:=ha.h cpos JC s σ H _ I h;rw[he]at hA ⊢;refine Calls.evalArgs_plain (thn hA λus s1 ⟨vs,H1,I1,r1,hz,hE⟩=>⟨rfl,by rw[<-r1.length];exact hz,I1.bk _ _ hC,hN.keeps I1.bk,T.keeps I1.bk,λh' ea hm=>hR JC σ H1 s1 h' ea _ _ I1 hm hE⟩)
end
open PySem PySem.Spec PyProof.Rows PySem.W
theorem Fun.okX{P:Jt}{w:Jx}{K:W.Frag}{mg:Ji}{base:JB}{x qual:Str}{st:JA}{f:Jy}{fd:Jp}{N ps:Jr}{k:Nat}{sp:Sp}(F:Fun K x qual st f fd)(S:FnScope N ps (aj st))(len:∀ vs H Q E,sp vs H Q E->vs.length=ps.length)(hb:∀ (cdv:Jw) (A:Jv) (outer:List Env) (s:Ju) (H:Hp) (vs:List V) (Q:VK) (E:XK),Room k (A.deeper (envOfC qual (aj st) s.heap.objs.size f cdv))->sp vs H Q E ->
   ∃ t,QB (fA (CXr P w) P w K mg base N qual (aj st) f cdv A outer s H E) (bP st) t/\t { nx:=λ_ H'=>Q .non H',rt:=Q } (start N vs) H):FnOk P w K mg base (CXr P w) (k+1) f fd ps sp:=by
 obtain⟨oc,od,kV,doc,pm,an,cdv,ct,osl,rfl,lk,hcd⟩:=F.ex;exact wm lk hcd S len λA outer s H vs Q E hr hsp=>let⟨t,h,q⟩:=hb cdv A outer s H vs Q E hr hsp;⟨t,h.h,q⟩
structure FnX(P:Jt)(w:Jx)(K:W.Frag)(mg:Ji)(base:JB)(k:Nat)(x:Str)(ps:Jr)(sp:Sp):Prop where
 ex:∃f fd,FnOk P w K mg base (CXr P w) k f fd ps sp/\mg x=some (.ref f)/\W.keepIn K (.ref f)=true/\Binds K fd ps []
def XP(X:Cx)(JC:Jj)(σ:St)(E:XK)(e:Jw)(s':Ju):Prop:=∃s0 H0,Inv X JC σ H0 s0/\CXr X.prog X.w X.stack H0 s0 E e s'
abbrev TX:=St->Hp->VK->XK->Prop
structure QX(X:Cx)(e:Jz)(t:TX):Prop where
 h:∀(JC:Jj) (s:Ju) (σ:St) (H:Hp) (Q:VK) (E:XK),Inv X JC σ H s->t σ H Q E->wpAny (model X.prog X.w) X.A (eval e X.env) (EP X JC σ Q) (XP X JC σ E) s
abbrev TSX:=Ends->St->Hp->XK->Prop
structure QSX(X:Cx)(st:JA)(t:TSX):Prop where
 h:∀(JC:Jj) (s:Ju) (σ:St) (H:Hp) (D:Ends) (E:XK),Inv X JC σ H s->t D σ H E->wpAny (model X.prog X.w) X.A (exec st X.env) (SP X JC D) (XP X JC σ E) s
section
variable{X:Cx}{e:Jz}{tx:TX}{pos pos':Pos}{x:Str}
theorem FN{i:Nat}(hN:X.N.Nodup)(he:QX X e tx)(hi:X.N[i]?=some x:=by rfl)(hx:Loc X.env.scope x:=by first|exact Or.inl rfl|exact Or.inr rfl)(hs:swapsWith e (some (.Name x pos')) pos.line X.env=pure false:=by rfl)(hf:X.fn x=true\/X.env.scope.names.lookup x=some .local:=by first|exact .inl rfl|exact .inr rfl):QSX X (.Assign [.Name x pos'] e pos) (λD σ H E=>tx σ H (λv H1=>D.nx (σ.set i (some v)) H1) E):=by refine⟨?_⟩;intro JC s σ H D E I h;exact wpAny_Assign_Name (thn (he.h JC s σ H _ E I h) λv s1 ⟨y,H1,I1,r1,q1⟩=>kL I1 hN hi hx r1 (λs2 I2=>⟨_,H1,I2,q1⟩) hf) hs
theorem DA(he:QX X e tx)(hs:swapsWith e none pos.line X.env=pure false:=by rfl):QSX X (.Expr e pos) (λD σ H E=>tx σ H (λ_ H1=>D.nx σ H1) E):=by refine⟨?_⟩;intro JC s σ H D E I h;exact wpAny_Expr_any (thn (he.h JC s σ H _ E I h) λv s1 ⟨y,H1,I1,r1,q1⟩=>⟨σ,H1,I1,q1⟩) I.quiet hs
end
structure Fl(X:Cx)(H0 H':Hp)(s0 s':Ju)(B:JB):Prop where
 os:s'.os=s0.os
 bare:AllBare s'.gens
 un:Un (frs X.stack) [] H0 H' s0.heap s'.heap
 hok:HOk X.prog X.w H' s'.heap
 kb:∀b o,b∉frs X.stack->((∃u,H' b=some u)\/∃o0,s0.heap.get? b=some o0)->s'.heap.get? b=some o->B.get? b=some o
section
variable{X:Cx}{JC:Jj}{σ:St}{H0 H':Hp}{s0 s':Ju}{B h':JB}
theorem Fl.inv(F:Fl X H0 H' s0 s' B)(I:Inv X JC σ H0 s0):Inv X JC σ H' s':=I.call' F.os F.un F.hok F.bare λ_ z=>nomatch z
theorem Fl.nf(F:Fl X H0 H' s0 s' B)(I:Inv X JC σ H0 s0){b:Jy}{u:HO}(h:H' b=some u):b∉frs X.stack:=λhm=>by have:=(F.inv I).stkFree b hm;rw[h]at this;cases this
theorem Fl.move{tk:Nat}(F:Fl X H0 H' s0 s' B)(I:Inv X JC σ H0 s0)(st:B.StaysIn h')(up:s'.heap.UpToSlots h'):Fl X H0 H' s0 { s' with heap:=h',toks:=tk } B:=by
 have kp:∀b o,b∉frs X.stack->((∃u,H' b=some u)\/∃o0,s0.heap.get? b=some o0)->s'.heap.get? b=some o->h'.get? b=some o:=λb o h1 h2 h3=>st b o (F.kb b o h1 h2 h3);have sl:∀b o,b∈frs X.stack->s'.heap.get? b=some o->∃sl,h'.get? b=some { o with slots:=sl }:=λb o hm q=>by obtain⟨_,o',ho',hd⟩:=(F.inv I).stack.mem hm;have e:s'.heap.get? b=some o':=ho';rw[q]at e;cases e;exact up b o q hd
 refine⟨F.os,F.bare,⟨λb o q n hb hx=>kp b o hb (.inr ⟨o,q⟩) (F.un.keep b o q n hb hx),λb o q n hb hx=>?_,F.un.free,λb o q hx=>?_,F.un.tups,F.un.frzs,F.un.tbls⟩,λb u q=>?_,λb o hb ho q=>?_⟩
 ·obtain⟨s1,e1⟩:=F.un.slot b o q n hb hx;obtain⟨s2,e2⟩:=sl b _ hb e1;exact⟨s2,e2⟩
 ·obtain⟨o',e1⟩:=F.un.there b o q hx;by_cases hb:b∈frs X.stack
  ·obtain⟨s2,e2⟩:=sl b o' hb e1;exact⟨_,e2⟩
  ·exact⟨o',kp b o' hb (.inr ⟨o,q⟩) e1⟩
 ·refine(F.hok b u q).stay (λc v hc z=>kp c v ?_ ?_ z) (λ_ z=>z) λ_ _ z=>z
  ·rcases hc with z'|z'
   ·rw[z'];exact F.nf I q
   ·exact F.nf I z'
  ·rcases hc with z'|z'
   ·rw[z'];exact .inl ⟨u,q⟩
   ·exact .inl ⟨_,z'⟩
 ·obtain⟨o1,q1⟩:∃o1,s'.heap.get? b=some o1:=by
   rcases ho with⟨u,z⟩|⟨o0,z⟩
   ·exact gG (F.hok b u z)
   ·exact F.un.there b o0 z (by simp)
  have q2:=kp b o1 hb ho q1;have q':h'.get? b=some o:=q;rw[q']at q2;cases q2;exact F.kb b o hb ho q1
end
structure ExC(K:W.Frag)(C:Jy)(bm:Jn):Prop where
 cls:∀h,K.In h->∃nm q N bs hdct sn sub ab col dd k0 k1 k2 k3 k5 ni,h.get? C=some (excClassObj nm q C N bs bm hdct sn sub ab col dd k0 k1 k2 k3 k5 ni)
 exc:bm.contains (.type "BaseException")=true
theorem mO{M:Model}{A:Jv}{E:Jh}{s:Ju}{e C T:Jy}{oe:Obj}{bmC bmT:Jn}{K:W.Frag}{Q:Bool->Ju->Prop}(hC:ExC K C bmC)(hT:ExC K T bmT)(hk:K.In s.heap)(he:s.heap.get? e=some oe)(hcls:oe.cls=.ref C)(hq:Q ((Value.ref C::bmC).contains (.ref T)) s):wpAny M A (excMatches (.ref e) (.ref T)) Q E s:=by
 obtain⟨nm,q,N,bs,hdct,sn,sub,ab,col,dd,k0,k1,k2,k3,k5,ni,oC⟩:=hC.cls _ hk;obtain⟨nm',q',N',bs',hdct',sn',sub',ab',col',dd',k0',k1',k2',k3',k5',ni',oT⟩:=hT.cls _ hk;obtain⟨hp,g,d,tk,os⟩:=s;have hcB:(Value.ref T::bmT).contains (.type "BaseException")=true:=by rw[YM,hT.exc,Bool.or_true]
 have f:=tc_notTuple;unfold excMatches;generalize hr:(Value.ref C::bmC).contains (Value.ref T)=r at hq
 repeat(first|(with_reducible refine YE he ?_;rw[hcls])|with_reducible refine YE oT ?_|(with_reducible refine wpAny_isSubtype_exc oT ?_;rw[hcB])|(with_reducible refine wpAny_isSubtype_exc oC ?_;rw[hr])|wp_step)
 cases r<;>(first|exact hq|(wp_walk;exact hq))
theorem jd{X:Cx}{JC:Jj}{σ:St}{H:Hp}{s:Ju}{M:Model}{A:Jv}{E:Jh}{i:Nat}{n:Str}{pos:Pos}{Q:Unit->Ju->Prop}(I:Inv X JC σ H s)(hN:X.N.Nodup)(hi:X.N[i]?=some n)(hl:X.env.kindOf n=some .local)(h:∀s',Inv X JC (σ.set i none) H s'->Q () s'):wpAny M A (do bindName X.env n .none;unbindBehindTheSuite X.env n pos) Q E s:=by
 obtain⟨m,hn,hv⟩:=id I.loc;refine wpAny_nameGoes_keeps hl hn (by rw[I.ok.kind];rfl) λh' v hn' hs=>h _ ?_;obtain⟨oL,_,_,hoL,_⟩:=id hn;have cne:=I.cne;have lt:∀b o,X.s₀.heap.get? b=some o->b≠X.env.locals:=λb o q=>Zy (Zz (Zm q) I.ok.above);refine⟨I.ok,I.os,I.bare,⟨λb o e n hb hx=>(hs.2 b (lt b o e)).trans (I.base.keep b o e n hb hx),λb o e n hb hx=>?_,I.base.free,λb o e hx=>?_,I.base.tups,I.base.frzs,I.base.tbls⟩,⟨_,hn',λj y v' e1 e2 e3=>?_⟩,λy c e=>?_,I.free,I.freeC,λp hp=>?_,λb u q=>?_,by simpa using I.len⟩
 ·obtain⟨sl,e1⟩:=I.base.slot b o e n hb hx;exact⟨sl,(hs.2 b (lt b o e)).trans e1⟩
 ·obtain⟨o',e1⟩:=I.base.there b o e hx;exact⟨o',(hs.2 b (lt b o e)).trans e1⟩
 ·have hj:j≠i:=λz=>by
   subst z;have hz:j<σ.length:=by have:=(ZB.mp e2).1;simpa using this
   rw[List.getElem?_set_self hz]at e2;cases e2
  rw[List.getElem?_set_ne (Zs hj)]at e2;obtain⟨u',r',q⟩:=hv j y v' e1 e2 e3;refine⟨u',r',?_⟩;rcases q with⟨k,e⟩|⟨k,c,e,z⟩
  ·refine .inl ⟨k,?_⟩;have:y≠n:=λe=>hj (nG hN e1 (e▸hi));simp[this,e]
  ·exact .inr ⟨k,c,e,z.sameBut hs (cne y c e)⟩
 ·obtain⟨w',z⟩:=I.cell y c e;exact⟨w',z.sameBut hs (cne y c e)⟩
 ·obtain⟨e,n,ne,nf,d⟩:=I.pin p hp;exact⟨(hs.2 p.1 ne).trans e,n,ne,nf,d⟩
 ·refine(I.hok b u q).stay (λc w' hc z=>(hs.2 c ?_).trans z) (λ_ z=>z) λ_ _ z=>z;rintro rfl;rcases hc with z'|z'
  ·rw[<-z',I.free]at q;cases q
  ·rw[I.free]at z';cases z'
def Cx.exc(X:Cx)(e:Jw):Cx:={ X with A:=X.A.mark (some e),calm:=false,xe:=λ_ _=>False }
section
variable{X:Cx}{JC:Jj}{σ:St}{H:Hp}{s:Ju}{e:Jw}
theorem Inv.exc(I:Inv X JC σ H s)(e:Jw):Inv (X.exc e) JC σ H s :=
 ⟨⟨I.ok.mod,I.ok.kind,I.ok.glob,I.ok.blt,I.ok.above,I.ok.inj,I.ok.has,I.ok.cab,λz=>(nomatch z),I.ok.frames,I.ok.stk,I.ok.exf,I.ok.bs,I.ok.bsz,I.ok.noex,I.ok.exfs,I.ok.funs,I.ok.frf⟩,I.os,I.bare,I.base,I.loc,I.cell,I.free,I.freeC,I.pin,I.hok,I.len⟩
theorem Inv.unexc(ok:X.Ok)(I:Inv (X.exc e) JC σ H s):Inv X JC σ H s:=⟨ok,I.os,I.bare,I.base,I.loc,I.cell,I.free,I.freeC,I.pin,I.hok,I.len⟩
end
abbrev TH:=Ends->St->Jw->Option Jy->Hp->Prop
structure QH(X:Cx)(hs:List ExceptHandler)(th:TH):Prop where
 h:∀(JC:Jj) (s0:Ju) (H0:Hp) (σ:St) (D:Ends) (ea t:Jy) (C:Jw) (B:JB) (H':Hp) (dc:Option Jy) (s':Ju),Inv X JC σ H0 s0->Fl X H0 H' s0 s' B->Heap.FlyingW B X.stack ea C (.ref t) s'.heap->dY s'.heap ea dc->th D σ C dc H' ->
  wpAny (model X.prog X.w) X.A (handleBy (.ref ea) X.env hs) (SP X JC D) X.xe s'
section
variable{X:Cx}
def HV(tb:TSX)(th:TH):TS:=λD σ H=>tb D σ H λC dc H1=>th D σ C dc H1
theorem zw{st:JA}{tb:TSX}{th:TH}{h0:ExceptHandler}{hs:List ExceptHandler}{pos:Pos}(hst:X.stack=X.env::X.outer)(hfr:X.env.frame=some X.env.locals)(hb:QSX X st tb)(hh:QH X (h0::hs) th) :
  QS X (.Try [st] (h0::hs) [] [] pos) (HV tb th):=by
 refine⟨?_⟩;intro JC s σ H D I h;refine wpAny_Try_except (wpAny_execs_cons (ZK (hb.h JC s σ H D _ I h) (λf s1 q=>?_) (λe s1 x=>?_)))
 ·cases f with
  |next=>exact wpAny_execs_nil (wpAny_execs_nil q)
  |brk=>exact q
  |cont=>exact q
  |ret v=>exact q
 ·obtain⟨s0,H0,I0,ea,t,C,vs,B,H',dc,rfl,os,bare,un,hok,fly,tup,hBt,kb,dd,q⟩:=x;have F:Fl X H0 H' s0 s1 B:=⟨os,bare,un,hok,kb⟩
  have fr:X.A.frames=some (X.env::X.outer):=by rw[<-hst];exact I.ok.frames
  rw[hst]at fly;refine oQ fr hfr fly dd λh4 held up4 dd4=>?_;obtain⟨f1,f2,f3,f4⟩:=held;refine ik f1 f3 f4 dd4 λh5 k1 k2 k3 up5 dd5=>?_;have F5:=(F.move (tk:=s1.toks) I0 k1 (up4.trans up5))
  rw[<-hst]at k2;exact hh.h JC s0 H0 σ D ea t C B H' dc _ I0 F5 ⟨k1,f2,k2,k3⟩ dd5 q
end
open PySem PySem.Spec PyProof.Rows PySem.W
abbrev VE:Jn:=[.type "ValueError",.type "Exception",.type "BaseException",.type "object"]
structure ExcAt(K:W.Frag)(C:Jy)(bm:Jn):Prop where
 isIn:excIn K C VE "ValueError.__new__" = true
 mro:∃c d cd sl,K.lookup C=some ⟨c,d,.cls cd,sl⟩/\cd.mro=Value.ref C::bm
 exc:bm.contains (.type "BaseException")=true
theorem qP{K:W.Frag}{C:Jy}{bm:Jn}(q:ExcAt K C bm){h:JB}(X:K.In h) :
  ∃nm qn N bs hdct sn sub ab col dd k0 k1 k2 k3 k5 mN,h.get? C=some (excClassObj nm qn C N bs bm hdct sn sub ab col dd k0 k1 k2 k3 k5 "ValueError.__new__")/\h.Ns N mN/\mN "__init__" = none/\OwnTail h VE bm:=by
 have q1:=q.isIn;obtain⟨c9,d9,cd9,sl9,l9,m9⟩:=q.mro;unfold excIn at q1;split at q1
 ·rename_i dd cd sl ho;split at q1
  ·rename_i C' bm' k0 k1 k2 k3 n k5 hm hs;have q2:cd.mro=Value.ref C::bm:=by have z:=ho.symm.trans l9;cases z;exact m9
   rw[hm]at q2;injection q2 with z1 z2;injection z1 with z1;cases z1;cases z2;simp only[ZD,ZO,Bool.not_eq_true']at q1;obtain⟨⟨⟨⟨⟨_,rfl⟩,nd⟩,ht⟩,ok⟩,ni⟩:=q1;have es:sl=#[k0,k1,k2,k3,some (.builtin "ValueError.__new__"),k5]:=by obtain⟨l⟩:=sl;simp only at hs;rw[hs]
   cases es;obtain⟨nm,bs,mro,ns,qn,hd,sn,sub,ab,col,del⟩:=cd;dsimp only at hm nd ok ni;cases hm;cases nd;exact⟨nm,qn,ns,bs,hd,sn,sub,ab,col,dd,k0,k1,k2,k3,k5,_,X _ _ ho,.of_isNs (isNs_of_in X ok),nsMap_none_of_in X ok ni,tail_of_in X ht⟩
  ·cases q1
 ·cases q1
theorem jD{K:W.Frag}{C:Jy}{bm:Jn}(q:ExcAt K C bm):ExC K C bm where
 cls:=λh X=>by obtain⟨nm,qn,N,bs,hdct,sn,sub,ab,col,dd,k0,k1,k2,k3,k5,mN,e,_⟩:=qP q X;exact⟨nm,qn,N,bs,hdct,sn,sub,ab,col,dd,k0,k1,k2,k3,k5,_,e⟩
 exc:=q.exc
theorem nj{K:W.Frag}{C:Jy}{bm:Jn}(q:ExcAt K C bm):ExCls K C where
 cls:=λh X=>by obtain⟨nm,qn,N,bs,hdct,sn,sub,ab,col,dd,k0,k1,k2,k3,k5,mN,e,e2,e3,e4⟩:=qP q X;exact⟨nm,qn,N,bs,bm,hdct,sn,sub,ab,col,dd,k0,k1,k2,k3,k5,mN,e,e2,e3,(jD q).exc,e4⟩
structure ExK(K:W.Frag)(c:Jy):Prop where
 hc:(clsIn K c).isSome=true
 hga:findIn K (.ref c) "__getattribute__" = some (some (.builtin "BaseException.__getattribute__"))
 hgh:findIn K (.ref c) "__getattr__" = some none
 ha:findIn K (.ref c) "__class__" = some (some (.builtin "object.__class__"))
 hb:mroIn K c (.type "BaseException")=some true
 hm:mroIn K c (.type "object")=some true
open PySem PySem.Spec PyProof.Rows PySem.W
section
variable{X:Cx}{K:W.Frag}
theorem Hm:QIx X FA:=⟨En⟩
theorem oX:QOp X (binaryOp .Add) (λx y H Q=>∃i j,x=.str i/\y=.str j/\i.length+j.length<=sizeLine/\Q (.str (i++j)) H):=⟨xo⟩
end
theorem uJ{K:W.Frag}{a b:Jy}{xs ys:List V}{i j:Nat}{tb:TS}{D:Ends}{σ:St}{H:Hp}(Pv:Nat->St->Hp->Prop)(h0:Pv 0 σ H)(ha:∀i σ H,i<=xs.length->Pv i σ H->SqT K H a xs)(hb:∀i σ H,i<=xs.length->Pv i σ H->SqT K H b ys)(hl:xs.length=ys.length)(hs:∀k x y σ H,xs[k]?=some x->ys[k]?=some y->Pv k σ H->∀T,H T=none->tb { D with nx:=Pv (k+1),ct:=Pv (k+1),bk:=D.nx } ((σ.set i (some x)).set j (some y)) (upd H T (.tup [x,y])))(hd:∀σ H,Pv xs.length σ H->D.nx σ H) :
  ∃W:Nat->Nat->St->Hp->Prop,(∃m,W 0 m σ H)/\∀k m σ H,W k m σ H ->
   ((Itz K a b xs ys).stop k H/\D.nx σ H)\/((Itz K a b xs ys).go k H/\∃N:St->Hp->Prop,(∀σ' H',N σ' H'->∃m',m'<m/\W (k+1) m' σ' H')/\∀x H',(Itz K a b xs ys).yld k H x H'->sK K 2 (iZ (dv i) (iZ (dv j) sJ)) x σ H' λσ2 H2=>tb { D with nx:=N,ct:=N,bk:=D.nx } σ2 H2):=by
 refine⟨λk m σ H=>m=xs.length-k/\k<=xs.length/\Pv k σ H,⟨xs.length,by simp,ZM _,h0⟩,?_⟩;rintro k m σ H ⟨rfl,hk,pv⟩;by_cases hlt:k<xs.length
 ·refine .inr ⟨⟨hlt,ha k σ H hk pv,hb k σ H hk pv⟩,Pv (k+1),λσ' H' z=>⟨xs.length-(k+1),by omega,rfl,hlt,z⟩,λx H' y=>?_⟩;obtain⟨T,p,q,hT,hx,hy,rfl,rfl⟩:=y;exact⟨T,[p,q],rfl,JF ac,rfl,p,[q],rfl,q,[],rfl,rfl,hs k p q σ H hx hy pv T hT⟩
 ·have e:k=xs.length:=by omega
  subst e;exact .inl ⟨⟨rfl,ha _ σ H hk pv,hb _ σ H hk pv⟩,hd σ H pv⟩
theorem nh{J:It}{N n:Nat}{cap:Js}{g:TG}{te:TE}{σ:St}{H0:Hp}{Q:VK}(Pv:Nat->List V->Hp->Prop)(hz:N<=1000)(hn:∀i ys H,Pv i ys H->ys.length=i)(h0:Pv 0 [] H0)(hgo:∀i ys H,i<N->Pv i ys H->J.go i H)(hst:∀ys H,Pv N ys H->J.stop N H)(ht:∀i ys H x H',i<N->Pv i ys H->J.yld i H x H'->∀A:VK,(∀v H4,Pv (i+1) (ys++[v]) H4->A v H4)->g x (dA n cap σ) H' λσ2 H2=>te σ2 H2 A)(hq:∀ys p H,Pv N ys H->H p=none->Q (.ref p) (upd H p (.lst ys))):jS n cap g pI te σ J H0 Q:=by
 refine⟨λi m ys H=>m=N-i/\i<=N/\Pv i ys H,⟨N,by simp,ZM _,h0⟩,?_⟩;rintro i m ys H ⟨rfl,hi,pv⟩;by_cases hlt:i<N
 ·refine .inr ⟨hgo i ys H hlt pv,by rw[hn i ys H pv];exact bc (by omega),λx H' y=>?_⟩;have k:=ht i ys H x H' hlt pv y (λv H4=>∃m',m'<N-i/\m'=N-(i+1)/\i+1<=N/\Pv (i+1) (ys++[v]) H4) (λv H4 z=>⟨N-(i+1),by omega,rfl,hlt,z⟩);unfold pI;simpa using k
 ·have e:i=N:=by omega
  subst e;exact .inl ⟨hst ys H pv,λp hp=>hq ys p H pv hp⟩
open PySem PySem.Spec PyProof.Rows PySem.W
def bg(z:Str)(lo hi:Option Int):Str:=if(Builtin.Str.strSliceIndices lo hi 1 z.length).length=z.length then z else⟨((Builtin.Str.strSliceIndices lo hi 1 z.length).filterMap (z.cps[·]?)).toArray⟩
theorem Ak(z:Str)(lo hi:Option Int):(bg z lo hi).length<=z.length:=by
 unfold bg;split
 ·exact Za _
 ·show(List.filterMap _ _).toArray.size<=_;rw[Zg];exact Zr (List.length_filterMap_le _ _) (indices_len_le _ _ _)
theorem Al{z:Str}{lo hi:Option Int}{c:Nat}(h:c∈(bg z lo hi).cps.toList):c∈z.cps.toList:=by
 unfold bg at h;split at h
 ·exact h
 ·have h':c∈(Builtin.Str.strSliceIndices lo hi 1 z.length).filterMap (z.cps[·]?):=h;obtain⟨i,_,hi⟩:=Ya.mp h';have:=Array.mem_of_getElem? hi;simpa using this
open PySem PySem.Spec PyProof.Rows PySem.W
open PySem PySem.Spec PyProof.Rows PySem.W
def KIn{α:Type}(n:Nat)(P:α->Prop):KasT α->Prop
 |.ret a=>P a
 |.ask i j k=>i<n/\j<n/\∀b,KIn n P (k b)
theorem KIn.bind{α β:Type}{n:Nat}{P:α->Prop}{R:β->Prop}{f:α->KasT β}:∀{t:KasT α},KIn n P t->(∀a,P a->KIn n R (f a))->KIn n R (t.bind f)
 |.ret _,h,k=>k _ h
 |.ask _ _ _,⟨h1,h2,h3⟩,k=>⟨h1,h2,λb=>KIn.bind (h3 b) k⟩
def POk(n:Nat)(p:Jo):Prop:=p.Perm (List.range n).toArray
theorem POk.lt{n:Nat}{p:Jo}(h:POk n p)(hn:0<n)(k:Nat):p.getD k 0<n:=by
 rw[Yc];cases e:p[k]? with
 |none=>exact hn
 |some x =>have hm:x∈p:=Array.mem_of_getElem? e;have:=(h.mem_iff).mp hm;simpa using this
theorem POk.rev{n:Nat}{p:Jo}(h:POk n p)(i j:Nat):POk n (kas_rev p i j):=(mirror_perm p i j _).trans h
theorem POk.bub{n:Nat}{p:Jo}(h:POk n p)(i j:Nat):POk n (bubble p i j):=(bubble_perm p i j).trans h
theorem qc{n:Nat}(hn:0<n){p:Jo}(h:POk n p):∀f k,KIn n (λ_=>True) (kas_asc p f k)
 |0,_=>trivial
 | f+1,k=>⟨h.lt hn _,h.lt hn _,λc=>by
  cases c with
  |true=>exact trivial
  | false=>exact qc hn h f (k+1)⟩
theorem kn{n:Nat}(hn:0<n):∀(f:Nat) {p:Jo},POk n p->∀k q,KIn n (λr=>POk n r.1) (kas_desc f p k q)
 |0,_,h,_,_=>h
 |f+1,p,h,k,q=>by
  refine⟨h.lt hn _,h.lt hn _,λc=>?_⟩;cases c with
  |true =>
   show KIn n _ (if q>0 then _ else _);split
   ·exact kn hn f (h.rev _ _) _ _
   ·exact kn hn f h _ _
  |false =>
   refine⟨h.lt hn _,h.lt hn _,λd=>?_⟩;cases d with
   |true=>exact h
   |false=>exact kn hn f h _ _
theorem sP{n:Nat}(hn:0<n){p:Jo}(h:POk n p)(k r:Nat):KIn n (λr=>POk n r.2) (kas_tail3 k r p):=KIn.bind (qc hn (h.rev 0 k) _ _) λ_ _=>h.rev 0 k
theorem lD{n:Nat}(hn:0<n){p:Jo}(h:POk n p)(k r:Nat):KIn n (λr=>POk n r.2) (kas_descPart k r p):=KIn.bind (kn hn _ h _ _) λx hx=>by
 show KIn n _ (if x.2.2>0 then _ else _);split
 ·exact sP hn (hx.rev _ _) _ _
 ·exact sP hn hx _ _
theorem yz{n:Nat}(hn:0<n){p:Jo}(h:POk n p)(r:Nat):KIn n (λr=>POk n r.2) (kas_count r p):=KIn.bind (qc hn h _ _) λk _=>by
 show KIn n _ (if(k==r)=true then _ else if k>1 then _ else _);split
 ·exact h
 ·split
  ·refine⟨h.lt hn _,h.lt hn _,λc=>?_⟩;cases c with
   |true=>exact h
   |false=>exact lD hn (h.rev _ _) _ _
  ·exact lD hn h _ _
theorem lE{n:Nat}(hn:0<n){p:Jo}(h:POk n p)(k:Nat):∀f l r,KIn n (λ_=>True) (kas_place p k f l r)
 |0,_,_=>trivial
 |f+1,l,r=>by
  show KIn n _ (if l>=r then _ else _);split
  ·exact trivial
  ·refine⟨h.lt hn _,h.lt hn _,λc=>?_⟩;cases c with
   |true=>exact lE hn h k f _ _
   |false=>exact lE hn h k f _ _
theorem uP{n:Nat}(hn:0<n):∀(f:Nat) {p:Jo},POk n p->∀k,KIn n (POk n) (kas_bin f p k)
 |0,_,h,_=>h
 |f+1,_,h,k=>KIn.bind (lE hn h k _ _ _) λ_ _=>uP hn f (h.bub _ _) (k+1)
theorem sO{n:Nat}(hn:0<n):KIn n (POk n) (kas_sort n):=KIn.bind (yz hn (Array.Perm.refl _) _) λr hr=>by
 show KIn n _ (if r.1<n then _ else _);split
 ·exact uP hn _ hr _
 ·exact hr
section
variable{X:Cx}
theorem GC{K:W.Frag}(hK:X.K=K):QOp X (compareOp .In) (rIn K false):=by subst hK;exact⟨yU⟩
end
open PySem PySem.Spec PyProof.Rows PySem.W
def KW{α:Type}(lt:Jk)(Q:α->Prop):KasT α->Prop
 |.ret a=>Q a
 |.ask i j k=>KW lt Q (k (lt i j))
theorem KW.bind{α β:Type}{lt:Jk}{Q:β->Prop}{f:α->KasT β}:∀{t:KasT α},KW lt (λa=>KW lt Q (f a)) t->KW lt Q (t.bind f)
 |.ret _,h=>h
 |.ask i j k,h=>KW.bind (t:=k (lt i j)) h
theorem KW.mono{α:Type}{lt:Jk}{Q R:α->Prop}(k:∀a,Q a->R a):∀{t:KasT α},KW lt Q t->KW lt R t
 |.ret _,h=>k _ h
 |.ask i j c,h=>KW.mono k (t:=c (lt i j)) h
structure LtOk(lt:Jk):Prop where
 as:∀{a b},lt a b=true->lt b a=false
 tr:∀{a b c},lt b a=false->lt c b=false->lt c a=false
def gA(p:Jo)(k:Nat):Nat:=p.getD k 0
def Lx(lt:Jk)(a b:Nat):Prop:=lt b a=false/\(lt a b=true\/a<b)
section
variable{lt:Jk}(O:LtOk lt)
include O
theorem LtOk.lt_le{a b c:Nat}(h:lt a b=true)(h2:lt c b=false):lt a c=true:=by
 cases e:lt a c with
 |true=>rfl
 |false=>rw[O.tr h2 e]at h;cases h
theorem LtOk.le_lt{a b c:Nat}(h:lt b a=false)(h2:lt b c=true):lt a c=true:=by
 cases e:lt a c with
 |true=>rfl
 |false=>rw[O.tr e h]at h2;cases h2
theorem Lx.trans{a b c:Nat}(h:Lx lt a b)(k:Lx lt b c):Lx lt a c:=by
 refine⟨O.tr h.1 k.1,?_⟩;rcases h.2 with x|x
 ·exact .inl (O.lt_le x k.1)
 ·rcases k.2 with y|y
  ·exact .inl (O.le_lt h.1 y)
  ·exact .inr (Nat.lt_trans x y)
theorem Lx.of_lt{a b:Nat}(h:lt a b=true):Lx lt a b:=⟨O.as h,.inl h⟩
end
structure Fx(N:Nat)(p:Jo)(m:Nat):Prop where
 sz:p.size=N
 hi:∀k,m<=k->k<N->gA p k=k
 lo:∀i,i<m->gA p i<m
def LS(lt:Jk)(p:Jo)(m:Nat):Prop:=∀i j,i<j->j<m->Lx lt (gA p i) (gA p j)
def AS(lt:Jk)(p:Jo)(m:Nat):Prop:=∀i j,i<j->j<m->Lx lt (gA p j) (gA p i)
theorem Fx.succ{N:Nat}{p:Jo}{m:Nat}(h:Fx N p m)(hm:m<N):Fx N p (m+1):=⟨h.sz,λk h1 h2=>h.hi k (by omega) h2,λi hi=>by
 rcases YC i m with h1|h1
 ·have:=h.lo i h1;omega
 ·have e:i=m:=by omega
  subst e;rw[h.hi i (Za _) hm];omega⟩
theorem dJ{p:Jo}{i j k:Nat}(hj:j<=p.size):gA (kas_rev p i j) k=if i<=k/\k<j then gA p (i+j-1-k)else gA p k:=by
 unfold gA kas_rev;rw[Yc,getElem?_mirror_all hj];split
 ·rw[Yc]
 ·rw[Yc]
theorem oF(p:Jo)(k:Nat):gA p k=(p[k]?).getD 0:=by unfold gA;rw[Yc]
theorem Ed{p:Jo}{k d i:Nat}(hk:k<p.size)(hd:d<=k):gA (bubble p k d) i=if i=k-d then gA p k else if k-d<i/\i<=k then gA p (i-1)else gA p i:=by
 rw[oF,getElem?_bubble hk d hd];split
 ·rw[oF]
 ·split
  ·rw[oF]
  ·rw[oF]
theorem Fx.rev{N:Nat}{p:Jo}{m i j:Nat}(h:Fx N p m)(hj:j<=m)(hm:m<=N):Fx N (kas_rev p i j) m:=by
 have hs:j<=p.size:=by rw[h.sz];omega
 refine⟨by rw[kas_rev_size];exact h.sz,λk h1 h2=>?_,λk hk=>?_⟩
 ·rw[dJ hs,Jf (by omega)];exact h.hi k h1 h2
 ·rw[dJ hs];split
  ·exact h.lo _ (by omega)
  ·exact h.lo _ hk
section
variable{lt:Jk}(O:LtOk lt){N:Nat}
include O
theorem LS.step{p:Jo}{n:Nat}(h:LS lt p n)(hx:Lx lt (gA p (n-1)) (gA p n))(h1:1<=n):LS lt p (n+1):=λi j hij hj=>by
 rcases YC j n with h2|h2
 ·exact h i j hij h2
 ·have e:j=n:=by omega
  subst e;rcases YC i (j-1)with h3|h3
  ·exact(h i (j-1) h3 (by omega)).trans O hx
  ·have e:i=j-1:=by omega
   subst e;exact hx
theorem sQ{p:Jo}:∀(f n:Nat),1<=n->n+f<=N->Fx N p n->LS lt p n->KW lt (λm=>n<=m/\m<=n+f/\Fx N p m/\LS lt p m/\(m<n+f->lt (gA p m) (gA p (m-1))=true)) (kas_asc p f n)
 |0,n,_,_,hf,hs=>⟨Za _,Za _,hf,hs,λh=>absurd h (by omega)⟩
 |f+1,n,h1,hN,hf,hs=>by
  show KW lt _ (if lt (gA p n) (gA p (n-1))=true then .ret n else kas_asc p f (n+1));by_cases c:lt (gA p n) (gA p (n-1))=true
  ·rw[Jg c];exact⟨Za _,by omega,hf,hs,λ_=>c⟩
  ·rw[Jf c];have c':=YQ.mpr c;have hx:Lx lt (gA p (n-1)) (gA p n):=⟨c',.inr (by rw[hf.hi n (Za _) (by omega)];exact hf.lo _ (by omega))⟩
   refine KW.mono (λm hm=>?_) (sQ f (n+1) (by omega) (by omega) (hf.succ (by omega)) (hs.step O hx h1));exact⟨by omega,by omega,hm.2.2.1,hm.2.2.2.1,λz=>hm.2.2.2.2 (by omega)⟩
theorem AS.rev{p:Jo}{n:Nat}(h:AS lt p n)(hn:n<=p.size):LS lt (kas_rev p 0 n) n:=λi j hij hj=>by rw[dJ hn,dJ hn,Jg (by omega),Jg (by omega)];exact h _ _ (by omega) (by omega)
theorem uU{p:Jo}{n:Nat}(h1:1<=n)(hN:n<=N)(hf:Fx N p n)(ha:AS lt p n):KW lt (λr=>r.1<=N/\1<=r.1/\Fx N r.2 r.1/\LS lt r.2 r.1) (kas_tail3 n N p):=by refine KW.bind (KW.mono (λm hm=>?_) (sQ O (N:=N) (N-n) n h1 (by omega) (hf.rev (Za _) hN) (ha.rev O (by rw[hf.sz];exact hN))));exact⟨by omega,by omega,hm.2.2.1,hm.2.2.2.1⟩
structure Dn(lt:Jk)(p:Jo)(n q:Nat):Prop where
 hq:q+1<=n
 up:∀i j,i<j->j<n-(q+1)->Lx lt (gA p j) (gA p i)
 cr:∀i j,i<n-(q+1)->n-(q+1)<=j->j<n->lt (gA p j) (gA p i)=true
 eq:∀i j,n-(q+1)<=i->i<j->j<n->lt (gA p i) (gA p j)=false/\lt (gA p j) (gA p i)=false/\gA p i<gA p j
theorem Dn.rev{p:Jo}{n q:Nat}(h:Dn lt p n q)(hn:n<=p.size):AS lt (kas_rev p (n-(q+1)) n) n:=λi j hij hj=>by
 have hq:=h.hq;rw[dJ hn,dJ hn];by_cases c1:n-(q+1)<=i
 ·rw[Jg (by omega),Jg (by omega)];obtain⟨e1,e2,e3⟩:=h.eq (n-(q+1)+n-1-j) (n-(q+1)+n-1-i) (by omega) (by omega) (by omega);exact⟨e2,.inr e3⟩
 ·rw[Jf (show¬(n-(q+1)<=i/\i<n) by omega)];by_cases c2:n-(q+1)<=j
  ·rw[Jg (by omega)];exact Lx.of_lt O (h.cr _ _ (by omega) (by omega) (by omega))
  ·rw[Jf (by omega)];exact h.up _ _ hij (by omega)
theorem Dn.zero{p:Jo}{n:Nat}(h:Dn lt p n 0):AS lt p n:=λi j hij hj=>by
 rcases YC j (n-1)with c|c
 ·exact h.up i j hij c
 ·exact Lx.of_lt O (h.cr i j (by omega) (by omega) hj)
theorem Dn.start{p:Jo}{n:Nat}(h:AS lt p n)(h1:1<=n)(hl:lt (gA p n) (gA p (n-1))=true):Dn lt p (n+1) 0:=by
 refine⟨by omega,λi j hij hj=>h i j hij (by omega),λi j hi h2 h3=>?_,λi j h2 h3 h4=>absurd h3 (by omega)⟩;have e:j=n:=by omega
 subst e;rcases YC i (j-1)with h3|h3
 ·exact O.lt_le hl (h i (j-1) h3 (by omega)).1
 ·have e:i=j-1:=by omega
  subst e;exact hl
theorem mw:∀(f:Nat) {p:Jo} {n q:Nat},n+f<=N->Fx N p n->Dn lt p n q->KW lt (λr=>n<=r.2.1/\r.2.1<=n+f/\Fx N r.1 r.2.1/\Dn lt r.1 r.2.1 r.2.2) (kas_desc f p n q)
 |0,_,n,_,_,hf,hd=>⟨Za _,Za _,hf,hd⟩
 |f+1,p,n,q,hN,hf,hd=>by
  have hs:n<=p.size:=by rw[hf.sz];omega
  have hq:=hd.hq;show KW lt _ (if lt (gA p n) (gA p (n-1))=true then(if q>0 then kas_desc f (kas_rev p (n-(q+1)) n) (n+1) 0 else kas_desc f p (n+1) 0)else KasT.ask (gA p (n-1)) (gA p n) λd=>if d=true then .ret (p,n,q)else kas_desc f p (n+1) (q+1));by_cases c:lt (gA p n) (gA p (n-1))=true
  ·rw[Jg c];have wk:∀{r:Jo×Nat×Nat},(n+1<=r.2.1/\r.2.1<=n+1+f/\Fx N r.1 r.2.1/\Dn lt r.1 r.2.1 r.2.2)->n<=r.2.1/\r.2.1<=n+(f+1)/\Fx N r.1 r.2.1/\Dn lt r.1 r.2.1 r.2.2:=λh=>⟨by omega,by omega,h.2.2.1,h.2.2.2⟩
   by_cases cq:q>0
   ·rw[Jg cq];have fr:=hf.rev (i:=n-(q+1)) (Za n) (by omega);have e1:gA (kas_rev p (n-(q+1)) n) n=gA p n:=by rw[dJ hs,Jf (by omega)]
    have e2:gA (kas_rev p (n-(q+1)) n) (n-1)=gA p (n-(q+1)):=by rw[dJ hs,Jg (by omega)];congr 1;omega
    have l2:lt (gA p n) (gA p (n-(q+1)))=true:=O.lt_le c (hd.eq (n-(q+1)) (n-1) (Za _) (by omega) (by omega)).1;refine KW.mono (λr h=>wk h) (mw f (by omega) (fr.succ (by omega)) (Dn.start O (hd.rev O hs) (by omega) (by rw[e1,e2];exact l2)))
   ·rw[Jf cq];have e:q=0:=by omega
    subst e;exact KW.mono (λr h=>wk h) (mw f (by omega) (hf.succ (by omega)) (Dn.start O (hd.zero O) (by omega) c))
  ·rw[Jf c];have c':=YQ.mpr c;show KW lt _ (if lt (gA p (n-1)) (gA p n)=true then _ else _);by_cases d:lt (gA p (n-1)) (gA p n)=true
   ·rw[Jg d];exact⟨Za _,Nat.le_add_right _ _,hf,hd⟩
   ·rw[Jf d];have d':=YQ.mpr d;have gn:gA p n=n:=hf.hi n (Za _) (by omega);have same:∀i,n-(q+1)<=i->i<n->lt (gA p i) (gA p n)=false/\lt (gA p n) (gA p i)=false:=λi h1 h2=>by
     rcases YC i (n-1)with h3|h3
     ·obtain⟨a1,a2,_⟩:=hd.eq i (n-1) h1 h3 (by omega);exact⟨O.tr d' a1,O.tr a2 c'⟩
     ·have e:i=n-1:=by omega
      subst e;exact⟨d',c'⟩
    refine KW.mono (λr h=>⟨by omega,by omega,h.2.2.1,h.2.2.2⟩) (mw f (n:=n+1) (q:=q+1) (by omega) (hf.succ (by omega)) ⟨by omega,λi j hij hj=>hd.up i j hij (by omega),λi j hi h2 h3=>?_,λi j h1 h2 h3=>?_⟩)
    ·rcases YC j n with h4|h4
     ·exact hd.cr i j (by omega) (by omega) h4
     ·have e:j=n:=by omega
      subst e;exact O.le_lt d' (hd.cr i (j-1) (by omega) (by omega) (by omega))
    ·rcases YC j n with h4|h4
     ·exact hd.eq i j (by omega) h2 h4
     ·have e:j=n:=by omega
      subst e;obtain⟨a1,a2⟩:=same i (by omega) h2;exact⟨a1,a2,by rw[gn];exact hf.lo _ h2⟩
theorem mP{p:Jo}{n:Nat}(h1:1<=n)(hN:n<N)(hf:Fx N p n)(ha:AS lt p n)(hl:lt (gA p n) (gA p (n-1))=true):KW lt (λr=>r.1<=N/\1<=r.1/\Fx N r.2 r.1/\LS lt r.2 r.1) (kas_descPart n N p):=by
 refine KW.bind (KW.mono (λr hr=>?_) (mw O (N:=N) (N-(n+1)) (by omega) (hf.succ hN) (Dn.start O ha h1 hl)));obtain⟨r1,r2,r3,r4⟩:=hr;show KW lt _ (if r.2.2>0 then _ else _);by_cases c:r.2.2>0
 ·rw[Jg c];exact uU O (by omega) (by omega) (r3.rev (Za _) (by omega)) (r4.rev O (by rw[r3.sz];omega))
 ·rw[Jf c];have e:r.2.2=0:=by omega
  rw[e]at r4;exact uU O (by omega) (by omega) r3 (r4.zero O)
theorem AB{p:Jo}(hN:1<=N)(hf:Fx N p 1):KW lt (λr=>r.1<=N/\1<=r.1/\Fx N r.2 r.1/\LS lt r.2 r.1) (kas_count N p):=by
 refine KW.bind (KW.mono (λn hn=>?_) (sQ O (N:=N) (N-1) 1 (Za _) (by omega) hf (λi j h1 h2=>absurd h1 (by omega))));obtain⟨n1,n2,nf,ns,nl⟩:=hn;show KW lt _ (if(n==N)=true then KasT.ret (n,p)else if n>1 then KasT.ask (gA p 0) (gA p (n-1)) (λc=>if c=true then .ret (n,p)else kas_descPart n N (kas_rev p 0 n))else kas_descPart n N p);by_cases c:(n==N)=true
 ·rw[Jg c];exact⟨by omega,n1,nf,ns⟩
 ·rw[Jf c];have nN:n<N:=by have:n≠N:=λz=>c (ZO.mpr z);omega
  have hl:=nl (by omega);by_cases c2:n>1
  ·rw[Jg c2];show KW lt _ (if lt (gA p 0) (gA p (n-1))=true then _ else _);by_cases c3:lt (gA p 0) (gA p (n-1))=true
   ·rw[Jg c3];exact⟨by omega,n1,nf,ns⟩
   ·rw[Jf c3];have c3':=YQ.mpr c3;have hs:n<=p.size:=by rw[nf.sz];omega
    have le0:∀i,i<n->lt (gA p i) (gA p 0)=false:=λi hi=>by
     rcases Nat.eq_zero_or_pos i with z|z
     ·subst z;cases e:lt (gA p 0) (gA p 0)with
      |false=>rfl
      |true=>rw[O.as e]at e;cases e
     ·exact(ns 0 i z hi).1
    have leN:∀i,i<n->lt (gA p (n-1)) (gA p i)=false:=λi hi=>by
     rcases YC i (n-1)with z|z
     ·exact(ns i (n-1) z (by omega)).1
     ·have e:i=n-1:=by omega
      subst e;cases e:lt (gA p (n-1)) (gA p (n-1))with
      |false=>rfl
      |true=>rw[O.as e]at e;cases e
    have all:∀i j,i<n->j<n->lt (gA p i) (gA p j)=false:=λi j hi hj=>O.tr (leN j hj) (O.tr c3' (le0 i hi));refine mP O n1 nN (nf.rev (Za _) (by omega)) (λi j hij hj=>?_) ?_
    ·rw[dJ hs,dJ hs,Jg (by omega),Jg (by omega)];have z:=ns (0+n-1-j) (0+n-1-i) (by omega) (by omega);refine⟨all _ _ (by omega) (by omega),?_⟩;rcases z.2 with y|y
     ·rw[all _ _ (by omega) (by omega)]at y;cases y
     ·exact .inr y
    ·rw[dJ hs,dJ hs,Jf (by omega),Jg (by omega)];exact O.lt_le hl (all _ _ (by omega) (by omega))
  ·rw[Jf c2];have e:n=1:=by omega
   subst e;exact mP O n1 nN nf (λi j h1 h2=>absurd h1 (by omega)) hl
theorem nC{p:Jo}{k:Nat}(hs:LS lt p k):∀(f l r:Nat),r-l<=f->r<=k->(∀i,i<l->i<k->lt (gA p k) (gA p i)=false)->(∀i,r<=i->i<k->lt (gA p k) (gA p i)=true)->l<=r ->
  KW lt (λm=>m<=k/\(∀i,i<m->lt (gA p k) (gA p i)=false)/\∀i,m<=i->i<k->lt (gA p k) (gA p i)=true) (kas_place p k f l r)
 |0,l,r,h1,h2,h3,h4,h5=>⟨by omega,λi hi=>h3 i hi (by omega),λi hi=>h4 i (by omega)⟩
 |f+1,l,r,h1,h2,h3,h4,h5=>by
  show KW lt _ (if l>=r then KasT.ret l else KasT.ask (gA p k) (gA p ((l+r) / 2)) λc=>if c=true then kas_place p k f l ((l+r) / 2)else kas_place p k f ((l+r) / 2+1) r);by_cases c:l>=r
  ·rw[Jg c];exact⟨by omega,λi hi=>h3 i hi (by omega),λi hi=>h4 i (by omega)⟩
  ·rw[Jf c];show KW lt _ (if lt (gA p k) (gA p ((l+r) / 2))=true then _ else _);by_cases d:lt (gA p k) (gA p ((l+r) / 2))=true
   ·rw[Jg d];refine nC hs f l ((l+r) / 2) (by omega) (by omega) h3 (λi hi hk=>?_) (by omega);rcases Nat.eq_or_lt_of_le hi with e|e
    ·rw[<-e];exact d
    ·exact O.lt_le d (hs _ _ e hk).1
   ·rw[Jf d];have d':=YQ.mpr d;refine nC hs f ((l+r) / 2+1) r (by omega) h2 (λi hi hk=>?_) h4 (by omega);rcases YC i ((l+r) / 2)with e|e
    ·exact O.tr (hs _ _ e (by omega)).1 d'
    ·have e:i=(l+r) / 2:=by omega
     rw[e];exact d'
theorem yC:∀(f:Nat) {p:Jo} {k:Nat},k+f=N->1<=k->Fx N p k->LS lt p k->KW lt (λp=>p.size=N/\LS lt p N) (kas_bin f p k)
 |0,p,k,e,_,hf,hs=>by
  have:k=N:=by omega
  subst this;exact⟨hf.sz,hs⟩
 |f+1,p,k,e,h1,hf,hs=>by
  refine KW.bind (KW.mono (λm hm=>?_) (nC O hs k 0 k (by omega) (Za _) (λi hi=>absurd hi (by omega)) (λi h2 h3=>absurd h2 (by omega)) (ZM _)));obtain⟨m1,m2,m3⟩:=hm;have hk:k<p.size:=by rw[hf.sz];omega
  have gk:gA p k=k:=hf.hi k (Za _) (by omega);have ekm:k-(k-m)=m:=by omega
  have gb:∀i,gA (bubble p k (k-m)) i=if i=m then gA p k else if m<i/\i<=k then gA p (i-1)else gA p i:=λi=>by rw[Ed hk (by omega),ekm]
  refine yC f (by omega) (by omega) ⟨by rw[bubble_size];exact hf.sz,λi h2 h3=>?_,λi hi=>?_⟩ (λi j hij hj=>?_)
  ·rw[gb,Jf (by omega),Jf (by omega)];exact hf.hi i (by omega) h3
  ·rw[gb];split
   ·rw[gk];omega
   ·split
    ·have:=hf.lo (i-1) (by omega);omega
    ·have:=hf.lo i (by omega);omega
  ·have lk:∀i,i<m->Lx lt (gA p i) (gA p k):=λi hi=>⟨m2 i hi,.inr (by rw[gk];exact hf.lo i (by omega))⟩
   have gt:∀i,m<=i->i<k->Lx lt (gA p k) (gA p i):=λi h2 h3=>Lx.of_lt O (m3 i h2 h3);rw[gb,gb];by_cases a1:i=m
   ·rw[Jg a1,Jf (by omega),Jg (by omega)];exact gt _ (by omega) (by omega)
   ·rw[Jf a1];by_cases a2:m<i/\i<=k
    ·rw[Jg a2,Jf (by omega),Jg (by omega)];exact hs _ _ (by omega) (by omega)
    ·rw[Jf a2];by_cases b1:j=m
     ·rw[Jg b1];exact lk i (by omega)
     ·rw[Jf b1];by_cases b2:m<j/\j<=k
      ·rw[Jg b2];exact hs _ _ (by omega) (by omega)
      ·rw[Jf b2];exact hs _ _ hij (by omega)
theorem uS(hN:1<=N):KW lt (λp=>p.size=N/\LS lt p N) (kas_sort N):=by
 have f0:Fx N (List.toArray (List.range N)) 1:=by
  have g:∀k,k<N->gA (List.toArray (List.range N)) k=k:=λk hk=>by rw[oF];simp[hk]
  refine⟨by simp,λk _ hk=>g k hk,λi hi=>?_⟩;have e:i=0:=by omega
  subst e;rw[g 0 (by omega)];decide
 refine KW.bind (KW.mono (λr hr=>?_) (AB O hN f0));obtain⟨r1,r2,r3,r4⟩:=hr;show KW lt _ (if r.1<N then kas_bin (N-max r.1 1) r.2 (max r.1 1)else .ret r.2);have e:max r.1 1=r.1:=by omega
 rw[e];by_cases c:r.1<N
 ·rw[Jg c];exact yC O _ (by omega) r2 r3 r4
 ·rw[Jf c];have e:r.1=N:=by omega
  rw[e]at r3 r4;exact⟨r3.sz,r4⟩
end
open PySem PySem.Spec PyProof.Rows PySem.W
def Ite(K:W.Frag)(a:Jy)(xs:List V):It :=
 ⟨λi H=>i<xs.length/\SqL K H a xs,λi H x H'=>∃T p,H T=none/\xs[i]?=some p/\x=.ref T/\H'=upd H T (.tup [.int i,p]),λi H=>i=xs.length/\SqL K H a xs⟩
abbrev eTn(e it a:Jy):Nat->JB->Prop:=λi h=>(∃old,IsEnum h e it i old)/\h.IsListIter it a i
theorem zK{P:Jt}{w:Jx}{K:W.Frag}{elts:List Jz}{kt:Nat}{tp:Pos}{e it a:Jy}{xs:List V}(ne:e≠it)(ha:e≠a/\it≠a) :
  Turn P w K (.Tuple elts kt tp) (Ite K a xs) [e,it] e (eTn e it a):=by
 refine⟨by simp,λi h st c hc=>?_,λi h h' st k=>?_,?_,?_,λA i s Q E st h=>?_⟩
 ·obtain⟨⟨old,e1⟩,⟨o4,e4,_,d4⟩⟩:=st;simp only[Zj,ZT,YK]at hc;rcases hc with rfl|rfl
  ·exact⟨_,e1,λv z=>nomatch z⟩
  ·exact⟨_,e4,λv z=>by rw[d4]at z;cases z⟩
 ·obtain⟨⟨old,e1⟩,⟨o4,e4,r4⟩⟩:=st;exact⟨⟨old,k e (by simp) _ e1⟩,⟨o4,k it (by simp) _ e4,r4⟩⟩
 ·intro X hP hw hK hc i JC s σ H E I hf st hg;subst hP hw hK;obtain⟨⟨old,e1⟩,e4⟩:=st;obtain⟨hi,hx⟩:=hg;obtain⟨its,rx,px,zx⟩:=I.list hx;have lx:i<its.toArray.size:=by rw[Zg,<-rx.length];exact hi
  have hh:=I.ok.hd hc;refine wpAny_pyNext_enum_itemD (Draws.list (A:=X.A.in1) hh it a ha.2.symm its.toArray) e1 ⟨e4,px.isList⟩ lx ne (by simp[ne,ha.1]) λx h' tk qx ho hs' hT hsz hk=>?_;refine⟨_,rfl,wpAny_letOwnedTupleGo_enum (s:={ s with heap:=h',toks:=tk+1 }) ho λh2 he2 sb=>?_⟩;obtain⟨xv,ex⟩:∃xv,xs[i]?=some xv:=⟨xs[i],by simp[hi]⟩
  obtain⟨x',gx,rxv⟩:=rx.get ex;have qx':its[i]?=some x:=by simpa using qx
  rw[gx]at qx';cases qx';have lte:e<s.heap.objs.size:=Zm e1;have kp2:∀c o,c∉[e,it]->s.heap.get? c=some o->h2.get? c=some o:=λc o hc q=>by simp only[Zj,ZT,YK,not_or]at hc;exact sb.extBut c o hc.1 (hk c o hc.1 hc.2 q)
  have tT:IsTup h2 s.heap.objs.size [.int i tk,x].toArray:=⟨_,sb.extBut _ _ (Yf lte) hT,rfl,_,rfl⟩
  refine⟨.ref s.heap.objs.size,upd H s.heap.objs.size (.tup [.int i,xv]),I.turnT (t':=tk+1) hf kp2 tT (.cons ⟨tk,rfl⟩ (.cons rxv .nil)) (sz rfl),rfl,⟨_,xv,I.hok.fresh (Za _),ex,rfl,rfl⟩,?_,λc hc=>?_⟩
  ·exact⟨⟨_,by simpa using he2⟩,hs'.1.extBut sb.extBut ne.symm⟩
  ·rw[ad]
   ·exact(hf c hc).1
   ·obtain⟨o,eo⟩:∃o,s.heap.get? c=some o:=by
     simp only[Zj,ZT,YK]at hc;rcases hc with rfl|rfl
     ·exact⟨_,e1⟩
     ·obtain⟨o,eo,_⟩:=e4;exact⟨o,eo⟩
    exact Zy (Zm eo)
 ·intro X hP hw hK hc i JC s σ H E I hf st hg;subst hP hw hK;obtain⟨⟨old,e1⟩,e4⟩:=st;obtain⟨rfl,hx⟩:=hg;obtain⟨its,rx,px,zx⟩:=I.list hx;have lx:its.toArray.size=xs.length:=by rw[Zg,<-rx.length]
  have hh:=I.ok.hd hc;refine wpAny_pyNext_enum_endD (Draws.list (A:=X.A.in1) hh it a ha.2.symm its.toArray) e1 ⟨by rw[lx];exact e4,px.isList⟩ λh' kp=>⟨rfl,?_⟩
  exact I.turnM (t':=s.toks) hf λc ob hc q=>by simp only[Zj,ZT,YK,not_or]at hc;exact kp c ob hc.2 q
 ·obtain⟨⟨old,e1⟩,_⟩:=st;exact wpAny_pyIter_enum e1 h
def BF(K:W.Frag)(ta:TA):TI:=λσ H R=>ta σ H λvs H1=>∃a xs,vs=[.ref a]/\H1 a=some (.lst xs)/\R (Ite K a xs) H1
section
variable{X:Cx}
theorem Da{e1:Jz}{ta:TA}{p pos tp:Pos}{elts:List Jz}{kt:Nat}(hg:Gl X "enumerate")(hm:X.mg "enumerate" = none)(ha:PA X [e1] ta)(n1:aP e1=true):PI X (.Tuple elts kt tp) (.Call (.Name "enumerate" p) [e1] [] pos) (BF X.K ta):=by
 intro JC s σ H R I h;refine Call_ (fT I hg hm boot_enumerate (y9 (thn (ha pos JC s σ H _ I h) λus s1 hz9=>?_) (aJ n1) (bK (by simp))));obtain⟨vs,H1,I1,r1,q1⟩:=hz9;obtain⟨a,xs,e,hx,q⟩:=q1;subst e;obtain⟨ua,rfl,ra⟩:=fz r1;cases ra;obtain⟨z,its,n,rx,hl',eo⟩:=I1.lstM hx;have la:a<s1.heap.objs.size:=Zm eo;refine call_enumerate_1 eo λh' he hl hz hk=>wpAny_pyIter_enum he ?_;refine⟨s1.heap.objs.size+1,[s1.heap.objs.size+1,s1.heap.objs.size],eTn (s1.heap.objs.size+1) s1.heap.objs.size a,_,H1,rfl,I1.kept (t':=s1.toks) hk,zK (Nat.succ_ne_self _) ⟨Yf (Nat.lt_succ_of_lt la),Yf la⟩,⟨⟨_,he⟩,hl⟩,λc hc=>?_,q⟩;have hc':s1.heap.objs.size<=c:=by
  simp only[Zj,ZT,YK]at hc;rcases hc with rfl|rfl
  ·exact Nat.le_succ _
  ·exact Za _
 exact I1.fpOk hc' (I1.hok.fresh hc')
theorem Ei{e1:Jz}{ta:TA}{p pos tp:Pos}{elts:List Jz}{kt:Nat}(hm:X.mg "enumerate" = none)(ha:QA X [e1] ta)(hg:Gl X "enumerate":=by rfl)(n1:aP e1=true:=by rfl):QI X (.Tuple elts kt tp) (.Call (.Name "enumerate" p) [e1] [] pos) (BF X.K ta):=⟨Da hg hm ha.h n1⟩
end
theorem Av{K:W.Frag}{a:Jy}{xs:List V}{i j:Nat}{tb:TS}{D:Ends}{σ:St}{H:Hp}(Pv:Nat->St->Hp->Prop)(h0:Pv 0 σ H)(ha:∀i σ H,i<=xs.length->Pv i σ H->SqL K H a xs)(hs:∀k x σ H,xs[k]?=some x->Pv k σ H->∀T,H T=none->tb { D with nx:=Pv (k+1),ct:=Pv (k+1),bk:=D.nx } ((σ.set i (some (.int k))).set j (some x)) (upd H T (.tup [.int k,x])))(hd:∀σ H,Pv xs.length σ H->D.nx σ H) :
  ∃W:Nat->Nat->St->Hp->Prop,(∃m,W 0 m σ H)/\∀k m σ H,W k m σ H ->
   ((Ite K a xs).stop k H/\D.nx σ H)\/((Ite K a xs).go k H/\∃N:St->Hp->Prop,(∀σ' H',N σ' H'->∃m',m'<m/\W (k+1) m' σ' H')/\∀x H',(Ite K a xs).yld k H x H'->sK K 2 (iZ (dv i) (iZ (dv j) sJ)) x σ H' λσ2 H2=>tb { D with nx:=N,ct:=N,bk:=D.nx } σ2 H2):=by
 refine⟨λk m σ H=>m=xs.length-k/\k<=xs.length/\Pv k σ H,⟨xs.length,by simp,ZM _,h0⟩,?_⟩;rintro k m σ H ⟨rfl,hk,pv⟩;by_cases hlt:k<xs.length
 ·refine .inr ⟨⟨hlt,ha k σ H hk pv⟩,Pv (k+1),λσ' H' z=>⟨xs.length-(k+1),by omega,rfl,hlt,z⟩,λx H' y=>?_⟩;obtain⟨T,p,hT,hx,rfl,rfl⟩:=y;exact⟨T,[.int k,p],rfl,JF ac,rfl,.int k,[p],rfl,p,[],rfl,rfl,hs k p σ H hx pv T hT⟩
 ·have e:k=xs.length:=by omega
  subst e;exact .inl ⟨⟨rfl,ha _ σ H hk pv⟩,hd σ H pv⟩
open PySem PySem.Spec PyProof.Rows PySem.W
theorem qa{α:Type}{n:Nat}{lt:Jk}{P R:α->Prop}{cmp:Nat->Nat->(Bool->Ju->Prop)->Ju->Prop}{Q:α->Ju->Prop}{s:Ju}(hc:∀i j C,i<n->j<n->C (lt i j) s->cmp i j C s)(hq:∀a,P a->R a->Q a s):∀{t:KasT α},KIn n P t->KW lt R t->t.kasWp cmp Q s
 |.ret _,h,k=>hq _ h k
 |.ask i j c,⟨h1,h2,h3⟩,k=>hc _ _ _ h1 h2 (qa hc hq (t:=c (lt i j)) (h3 _) k)
section
variable{X:Cx}{JC:Jj}{σ:St}{H:Hp}{s:Ju}{h':JB}
theorem Inv.movedF{ch:List Jy}{t':Nat}(I:Inv X JC σ H s)(hch:∀b∈ch,bY X JC H b)(k:∀b u,b≠X.env.locals->b∉ch->s.heap.get? b=some u->h'.get? b=some u)(hn:∃m,s.heap.Ns X.env.locals m/\h'.Ns X.env.locals m):Inv X JC σ H { s with heap:=h',toks:=t' }:=by
 have neL:∀{b:Jy} {u:HO},H b=some u->b≠X.env.locals:=fun{b u} e=>ai e I.free;have neC:∀{b:Jy} {u:HO},H b=some u->b∉ch:=fun{b u} e z=>by have:=(hch b z).1;rw[e]at this;cases this
 refine I.step (g':=s.gens) (d':=s.drawn) (ch:=ch) (λb hb=>⟨(hch b hb).2.2.2.1,(hch b hb).2.1,(hch b hb).2.2.2.2.1,(hch b hb).2.2.2.2.2⟩) (λb o hL _ hc e _=>k b o hL hc e) (λb o hL _ hc e _=>⟨o.slots,k b o hL hc e⟩) (λb o _ e n=>n) (λb o hc e=>?_)
  (λb xs e=>e) (λb o u e=>e) (λb ps e=>⟨#[],by rw[e];simp⟩) (λm' hm'=>?_) (λb u e=>?_) I.bare
 ·by_cases hL:b=X.env.locals
  ·obtain⟨m,_,o',_,_,e',_⟩:=hn;exact⟨o',by rw[hL];exact e'⟩
  ·exact⟨o,k b o hL hc e⟩
 ·obtain⟨m,h1,h2⟩:=hn;rw[hm'.eq_nsMap,<-h1.eq_nsMap];exact h2
 ·refine(I.hok b u e).stay (λc v hc q=>k c v ?_ ?_ q) (λc q=>q) λc ys q=>q
  ·rcases hc with z|z
   ·rw[z];exact neL e
   ·exact neL z
  ·rcases hc with z|z
   ·rw[z];exact neC e
   ·exact neC z
theorem Inv.tookF{ch:List Jy}{a:Jy}{o:HO}{t':Nat}(I:Inv X JC σ H s)(ha:a∈ch)(hch:∀b∈ch,bY X JC H b)(k:∀b u,b≠X.env.locals->b∉ch->s.heap.get? b=some u->h'.get? b=some u)(hn:∃m,s.heap.Ns X.env.locals m/\h'.Ns X.env.locals m)(new:ObjOk X.prog X.w (upd H a o) h' a o):Inv X JC σ (upd H a o) { s with heap:=h',toks:=t' }:=by
 have fr:=(hch a ha).1;have ne:∀{b:Jy} {u:HO},H b=some u->b≠a:=fun{b u} e=>ai e fr;have neL:∀{b:Jy} {u:HO},H b=some u->b≠X.env.locals:=fun{b u} e=>ai e I.free;have neC:∀{b:Jy} {u:HO},H b=some u->b∉ch:=fun{b u} e z=>by have:=(hch b z).1;rw[e]at this;cases this
 refine I.step (g':=s.gens) (d':=s.drawn) (ch:=ch) (λb hb=>⟨(hch b hb).2.2.2.1,(hch b hb).2.1,(hch b hb).2.2.2.2.1,(hch b hb).2.2.2.2.2⟩) (λb o hL _ hc e _=>k b o hL hc e) (λb o hL _ hc e _=>⟨o.slots,k b o hL hc e⟩) (λb o hc e n=>by rw[ad (λz:b=a=>hc (by rw[z];exact ha))];exact n) (λb o hc e=>?_)
  (λb xs e=>by rw[ad (ne e)];exact e) (λb o u e=>by rw[ad (ne e)];exact e) (λb ps e=>⟨#[],by rw[ad (ne e),e];simp⟩) (λm' hm'=>?_) (λb u e=>?_) I.bare
 ·by_cases hL:b=X.env.locals
  ·obtain⟨m,_,o',_,_,e',_⟩:=hn;exact⟨o',by rw[hL];exact e'⟩
  ·exact⟨o,k b o hL hc e⟩
 ·obtain⟨m,h1,h2⟩:=hn;rw[hm'.eq_nsMap,<-h1.eq_nsMap];exact h2
 ·by_cases hb:b=a
  ·subst hb;rw[ac]at e;cases e;exact new
  ·rw[ad hb]at e;refine(I.hok b u e).stay (λc v hc q=>k c v ?_ ?_ q) (λc q=>by rw[ad (ne q)];exact q) λc ys q=>by rw[ad (ne q)];exact q
   ·rcases hc with z|z
    ·rw[z];exact neL e
    ·exact neL z
   ·rcases hc with z|z
    ·rw[z];exact neC e
    ·exact neC z
def iC(base h:JB)(L kS:Jy):Jj:=(pz base h L).filter λp=>decide (p.1≠kS)
theorem iK{base h:JB}{L kS:Jy}{o:Obj}(e:h.get? kS=some o)(hL:kS≠L)(hb:base.get? kS=none):News base L h ((kS,o)::iC base h L kS):=λp hp=>by
 rcases Zj.mp hp with rfl|hp
 ·exact⟨e,hL,hb⟩
 ·exact jw base h L p (ZQ.mp hp).1
theorem kE{base h:JB}{L kS:Jy}:∀p∈iC base h L kS,p.1≠kS:=λp hp=>ZY (ZQ.mp hp).2
theorem iJ{base h h2:JB}{L kS:Jy}{o':Obj}{m:Ji}(hbk:∀b o,base.get? b=some o->h.get? b=some o)(F:Fr base L h2 m)(N:News base L h2 ((kS,o')::iC base h L kS)):∀b u,b≠L->b∉[kS]->h.get? b=some u->h2.get? b=some u:=λb u hL hk e=>by
 cases q:base.get? b with
 |none=>exact(N (b,u) (.tail _ (ZQ.mpr ⟨dF e hL q,decide_eq_true (λz=>hk (Zq.mpr z))⟩))).1
 |some o =>have e':=hbk b o q;rw[e]at e';cases e';exact F.keep b u q
structure SK(X:Cx)(JC:Jj)(σ:St)(H1:Hp)(m:Ji)(kS D:Jy)(e1:Nat)(ks:List Jq)(as:List Jy)(e:Nat)(H:Hp)(s:Ju):Prop where
 I:Inv X JC σ H s
 sm:Same H1 H
 fk:bY X JC H kS
 fd:bY X JC H D
 bk:X.base.get? kS=none
 bd:X.base.get? D=none
 hk:s.heap.get? kS=some (seqObj "list" (List.toArray (as.map Value.ref)) e)
 hd:s.heap.get? D=some (seqObj "list" #[] e1)
 ns:s.heap.Ns X.env.locals m
 keys:∀(i:Nat) (a:Jy) (k:Jq),as[i]?=some a->ks[i]?=some k->H a=some (.tup (k.map V.int))
end
open PySem PySem.Spec PyProof.Rows PySem.W
theorem oM:∀{a b:Jq},HT.lexLt a b=true->HT.lexLt b a=false
 | [],[],h=>by cases h
 | [],_::_,_=>rfl
 |_::_,[],h=>by cases h
 |x::a,y::b,h=>by
  rw[HT.lexLt_cons]at h ⊢;by_cases e:x=y
  ·subst e;rw[Jg rfl]at h ⊢;exact oM h
  ·rw[Jf e]at h;rw[Jf (λz=>e z.symm)];have:=ZY h;exact decide_eq_false (by omega)
theorem yE:∀{a b c:Jq},HT.lexLt b a=false->HT.lexLt c b=false->HT.lexLt c a=false
 | [],[],[],_,_=>rfl
 | [],[],_::_,_,_=>rfl
 | [],_::_,[],_,h=>by cases h
 | [],_::_,_::_,_,_=>rfl
 |_::_,[],_,h,_=>by cases h
 |_::_,_::_,[],_,h=>by cases h
 |x::a,y::b,z::c,h,k=>by
  rw[HT.lexLt_cons]at h k ⊢;by_cases e:y=x
  ·subst e;rw[Jg rfl]at h;by_cases e2:z=y
   ·rw[Jg e2]at k ⊢;exact yE h k
   ·rw[Jf e2]at k ⊢;exact k
  ·rw[Jf e]at h;have h':=Yy h;by_cases e2:z=y
   ·rw[Jf (by omega)];exact decide_eq_false (by omega)
   ·rw[Jf e2]at k;have k':=Yy k;rw[Jf (by omega)];exact decide_eq_false (by omega)
theorem yD(ks:List Jq):LtOk (λi j=>HT.lexLt (ks.getD i []) (ks.getD j [])):=⟨oM,yE⟩
section
variable{X:Cx}{JC:Jj}{σ:St}{H:Hp}{s:Ju}
def wX(X:Cx)(l:List Jy):Cx:={ X with ex:=l++X.ex }
structure ExOk(X:Cx)(b:Jy):Prop where
 old:b∈X.ex\/X.s₀.heap.get? b=none
 loc:b≠X.env.locals
 cel:∀x c,X.env.cells.lookup x=some c->c≠b
 bas:X.base.get? b=none
 fs:b∉X.fs
theorem Inv.widen{l:List Jy}(I:Inv X JC σ H s)(hl:∀b∈l,ExOk X b):Inv (wX X l) JC σ H s:=by
 have ok:(wX X l).Ok:=by
  have o:=I.ok;refine⟨o.mod,o.kind,o.glob,o.blt,o.above,o.inj,o.has,o.cab,o.hd,o.frames,o.stk,λb hb=>?_,o.bs,o.bsz,λb ob hb z=>?_,λb hb=>?_,o.funs,o.frf⟩
  ·rcases ZC.mp hb with h|h
   ·exact⟨(hl b h).loc,(hl b h).cel⟩
   ·exact o.exf b h
  ·rcases ZC.mp z with h|h
   ·have hb':X.base.get? b=some ob:=hb;rw[(hl b h).bas]at hb';cases hb'
   ·exact o.noex b ob hb h
  ·rcases ZC.mp hb with h|h
   ·exact(hl b h).fs
   ·exact o.exfs b h
 have ne:∀{b:Jy},b∉l++X.ex->b∉X.ex:=λh z=>h (ZI _ z);have u:=I.base;exact⟨ok,I.os,I.bare,⟨λb o e n hb hx=>u.keep b o e n hb (ne hx),λb o e n hb hx=>u.slot b o e n hb (ne hx),λb o e n hx=>u.free b o e n (ne hx),λb o e hx=>u.there b o e (ne hx),u.tups,u.frzs,u.tbls⟩,I.loc,I.cell,I.free,I.freeC,I.pin,I.hok,I.len⟩
theorem Inv.narrow{l:List Jy}(I:Inv (wX X l) JC σ H s)(ok:X.Ok)(hl:∀b∈l,b∈X.ex\/X.s₀.heap.get? b=none):Inv X JC σ H s:=by
 have ne:∀{b:Jy} {o:Obj},X.s₀.heap.get? b=some o->b∉X.ex->b∉l++X.ex:=fun{b o} e h z=>by
  rcases ZC.mp z with z|z
  ·rcases hl b z with y|y
   ·exact h y
   ·rw[y]at e;cases e
  ·exact h z
 have u:=I.base;exact⟨ok,I.os,I.bare,⟨λb o e n hb hx=>u.keep b o e n hb (ne e hx),λb o e n hb hx=>u.slot b o e n hb (ne e hx),λb o e n hx=>u.free b o e n (ne e hx),λb o e hx=>u.there b o e (ne e hx),u.tups,u.frzs,u.tbls⟩,I.loc,I.cell,I.free,I.freeC,I.pin,I.hok,I.len⟩
theorem Inv.exOk(I:Inv X JC σ H s){b:Jy}(hb:s.heap.get? b=none)(hL:b≠X.env.locals)(h0:X.base.get? b=none):ExOk X b:=by
 have old:b∈X.ex\/X.s₀.heap.get? b=none:=by
  by_cases hx:b∈X.ex
  ·exact .inl hx
  ·cases e:X.s₀.heap.get? b with
   |none=>exact .inr rfl
   |some o =>obtain⟨o',e'⟩:=I.base.there b o e hx;rw[hb]at e';cases e'
 refine⟨old,hL,λx c e z=>?_,h0,λz=>?_⟩
 ·obtain⟨v,o,ho,_⟩:=I.cell x c e;rw[z,hb]at ho;cases ho
 ·obtain⟨_,o,ho,_⟩:=I.ok.funs.mem z;rcases old with y|y
  ·exact I.ok.exfs b y z
  ·rw[y]at ho;cases ho
theorem Inv.fpW{l:List Jy}(I:Inv X JC σ H s){b:Jy}(hm:b∈l)(x:ExOk X b)(hb:s.heap.get? b=none):bY (wX X l) JC H b:=by refine⟨none_of I hb,x.loc,x.fs,.inl (List.mem_append_left _ hm),x.cel,λp hp z=>?_⟩;have:=(I.pin p hp).1;rw[z,hb]at this;cases this
theorem sM{ks:List Jq}(I:Inv X JC σ H s)(hk:∀k∈ks,k≠[]):∀(as:List Jy) (n:Nat),n+as.length=ks.length->(∀(i:Nat) (a:Jy) (k:Jq),as[i]?=some a->ks[n+i]?=some k->H a=some (.tup (k.map V.int)))->∃fs:Jn,KatTups s.heap (as.map Value.ref) fs/\fs.length=as.length/\∀v∈fs,∃i t,v=.int i t
 | [],_,_,_=>⟨[],KatTups.nil,rfl,λv h=>nomatch h⟩
 |a::as,n,hl,h=>by
  rw[Zw]at hl;have hkn:ks[n]?=some (ks[n]'(by omega)):=Zd (by omega);have hne:=hk _ (Z9 (show n<ks.length by omega));generalize ks[n]'(by omega)=k at hkn hne;have ea:=h 0 a k rfl (by rw[Nat.add_zero];exact hkn);obtain⟨ia,ra,pa,za⟩:=I.tuple (JF (K:=X.K) ea);obtain⟨oa,eo,ca,n1,da⟩:=id pa;obtain⟨x,t,ia',rfl⟩:∃x t r,ia=.int x t::r:=by
   cases bZ ra with
   |nil=>exact absurd rfl hne
   |cons x t r=>exact⟨x,t,_,rfl⟩
  obtain⟨fs,f1,f2,f3⟩:=sM I hk as (n+1) (by omega) (λi b k' h1 h2=>h (i+1) b k' h1 (by rw[show n+(i+1)=n+1+i by omega];exact h2));refine⟨.int x t::fs,KatTups.cons eo ca da rfl f1,by rw[Zw,Zw,f2],λv hv=>?_⟩;rcases Zj.mp hv with rfl|hv
  ·exact⟨_,_,rfl⟩
  ·exact f3 v hv
end
open PySem PySem.Spec PyProof.Rows PySem.W
section
variable{X:Cx}{o i value:Jz}{pos pos':Pos}{td ty tv:TE}
theorem rQ:QE X (.Dict [] [] pos) zG:=⟨AY⟩
theorem bp(hu:X.A.units+64<cLine)(ho:QE X o td)(hi:QE X i ty)(hs:zV i:=by intro _ _;rfl):QE X (.Subscript o i pos) (BY td ty):=⟨C5 (by omega) ho.h hi.h hs⟩
theorem xC(hu:X.A.units+64<cLine)(hi:QE X i ty)(ho:QE X o td)(hm:behindInMarks .In o=false:=by with_unfolding_all rfl):QT X (.Compare i [.In] [o] pos) (tB (FQ ty td)):=⟨zj (E1 (by omega) hi.h ho.h) hm⟩
theorem gK(hu:X.A.units+64<cLine)(hi:QE X i ty)(ho:QE X o td)(hm:behindInMarks .NotIn o=false:=by with_unfolding_all rfl):QT X (.Compare i [.NotIn] [o] pos) (tB (vB ty td)):=⟨zj (yY (by omega) hi.h ho.h) hm⟩
theorem dM(hu:X.A.units+64<cLine)(ho:QE X o td)(hi:QE X i ty)(hv:QE X value tv)(hs:swapsWith value (some (.Subscript o i pos')) pos.line X.env=pure false:=by rfl):QS X (.Assign [.Subscript o i pos'] value pos) (BS td ty tv):=⟨Dg (by omega) ho.h hi.h hv.h hs⟩
end
open PySem PySem.Spec PyProof.Rows PySem.W
open PySem PySem.Spec PyProof.Rows PySem.W
def Itv(K:W.Frag)(a:Jy)(xs:List V):It:=⟨λi H=>i<xs.length/\SqL K H a xs,λi H x H'=>H'=H/\xs.reverse[i]?=some x,λi H=>i=xs.length/\SqL K H a xs⟩
theorem Br{P:Jt}{w:Jx}{K:W.Frag}{tg:Jz}{xs:List V}(a it:Jy):Turn P w K tg (Itv K a xs) [it] it (λi h=>h.IsRevIter it a ((xs.length:Int)-1-(i:Nat))) where
 mem:=Zq.mpr rfl
 obj:=λi h st b hb=>by obtain rfl:b=it:=Zq.mp hb;obtain⟨o,e,c,d⟩:=st;exact⟨o,e,λv z=>by rw[d]at z;cases z⟩
 keep:=λi h h' st k=>st.at λo e=>k it (Zq.mpr rfl) o e
 item:=by
  intro X hP hw hK hc i JC s σ H E I hf st hg;subst hP hw hK;obtain⟨hi,hq⟩:=hg;obtain⟨its,rv,p,hz⟩:=I.list hq;have hl:=rv.length;have hx:xs[xs.length-1-i]?=some xs[xs.length-1-i]:=Zd (by omega);obtain⟨u,hu,ru⟩:=rv.get hx;obtain⟨f0,f1,f2,f3,f4,f5⟩:=hf it (Zq.mpr rfl);have st1:s.heap.IsRevIter it a ((xs.length-1-i:Nat):Int):=by rw[show((xs.length-1-i:Nat):Int)=(xs.length:Int)-1-(i:Nat) by omega];exact st
  refine wpAny_pyNext_rev_item st1 p.isList (x:=u) (by simpa using hu) λh' st' sb=>?_;have I1:Inv X JC σ H { s with heap:=h' }:=I.turned (t':=s.toks) (λb o hb e=>(sb.2 b hb).trans e) f0 f1 f3 f4 f5;obtain⟨o,e,c,d⟩:=id st';rw[show((xs.length-1-i:Nat):Int)-1=(xs.length:Int)-1-((i+1:Nat):Int) by omega]at st';exact⟨u,rfl,rM (s:={ s with heap:=h' }) e c d (by decide) ⟨_,H,I1,ru,⟨rfl,by rw[List.getElem?_reverse hi];exact hx⟩,st',λb hb=>(hf b hb).1⟩⟩
 done:=by intro X hP hw hK hc i JC s σ H E I hf st hg;subst hP hw hK;obtain⟨rfl,hq⟩:=hg;obtain⟨f0,f1,f2,f3,f4,f5⟩:=hf it (Zq.mpr rfl);rw[show(xs.length:Int)-1-((xs.length:Nat):Int)=-1 by omega]at st;exact wpAny_pyNext_rev_end (I.ok.hd hc) st λh' eb=>⟨rfl,I.turned (t':=s.toks) (λb o hb e=>eb b o hb e) f0 f1 f3 f4 f5⟩
 self:=λ_ _ _ _ _ st h=>wpAny_pyIter_revIter st h
def Eg(K:W.Frag)(ta:TA):TI:=λσ H R=>ta σ H λvs H1=>∃a xs,vs=[.ref a]/\SqL K H1 a xs/\R (Itv K a xs) H1
section
variable{X:Cx}
theorem Ad:bootBuiltins "reversed" = some (.type "reversed"):=by decide
theorem Ff{tg e1:Jz}{ta:TA}{p pos:Pos}(hg:Gl X "reversed")(hm:X.mg "reversed" = none)(ha:PA X [e1] ta)(n1:aP e1=true):PI X tg (.Call (.Name "reversed" p) [e1] [] pos) (Eg X.K ta):=by
 intro JC s σ H R I h;refine Call_ (fT I hg hm Ad (y9 (thn (ha pos JC s σ H _ I h) λus s1 hz9=>?_) (aJ n1) (bK (by simp))));obtain⟨vs,H1,I1,r1,q1⟩:=hz9;obtain⟨a,xs,e,hx,q⟩:=q1;subst e;obtain⟨ua,rfl,ra⟩:=fz r1;cases ra;obtain⟨its,rv,pl,hz⟩:=I1.list hx;have hl:=rv.length;refine call_reversed_list pl.isList (wpAny_pyIter_revIter ⟨_,Zo _ rfl,rfl,rfl⟩ ?_);refine⟨s1.heap.objs.size,[s1.heap.objs.size],_,_,H1,rfl,I1.kept (t':=s1.toks) λb o e=>z9 _ e,Br (xs:=xs) a _,⟨_,Zo _ rfl,rfl,?_⟩,λb hb=>?_,q⟩
 ·show Data.fields #[.ref a,rawInt ((its.toArray.size:Int)-1)]=_;rw[Zg,<-hl];simp
 ·obtain rfl:=Zq.mp hb;exact I1.fpOk (Za _) (I1.hok.fresh (Za _))
theorem BJ{tg e1:Jz}{ta:TA}{p pos:Pos}(hm:X.mg "reversed" = none)(ha:QA X [e1] ta)(hg:Gl X "reversed":=by rfl)(n1:aP e1=true:=by rfl):QI X tg (.Call (.Name "reversed" p) [e1] [] pos) (Eg X.K ta):=⟨Ff hg hm ha.h n1⟩
end
open PySem PySem.Spec PyProof.Rows PySem.W
open Classical in
noncomputable def lj(h:JB)(dx:PyData)(u:Jw):Bool:=decide (∃d as,Reads h u d as/\PyData.canLay0 d=true/\PyData.eqv d dx=true)
open Classical in
theorem mf{h:JB}{dx d:PyData}{u:Jw}{as:List Jy}(r:Reads h u d as)(hl:d.canLay0=true):lj h dx u=PyData.eqv d dx:=by
 unfold lj;cases e:PyData.eqv d dx with
 |true=>exact decide_eq_true ⟨d,as,r,hl,e⟩
 |false =>refine decide_eq_false ?_;rintro⟨d',as',r',l',e'⟩;rw[SeqAt.Reads.unique d d' u as as' hl r r',e']at e;cases e
section
variable{P:Jt}{w:Jx}{H:Hp}{h:JB}
theorem om(ok:HOk P w H h):∀{ds:List PyData} {xs:List V} {us:Jn},DtAll H ds xs->Vals xs us->PyData.canLayAll0 ds=true->∀dx:PyData,us.any (lj h dx)=ds.any (λd=>PyData.eqv d dx)/\us.countP (lj h dx)=ds.countP (λd=>PyData.eqv d dx)/\∀u∈us,∃d as,d∈ds/\Reads h u d as/\d.canLay0=true
 | [],xs,us,hd,r,_,dx=>by
  have e:xs=[]:=by simpa only[DtAll]using hd
  subst e;cases r;exact⟨rfl,rfl,λu hu=>nomatch hu⟩
 |d::ds,xs,us,hd,r,hl,dx=>by
  have e:∃y ys,xs=y::ys/\Dt H d y/\DtAll H ds ys:=by simpa only[DtAll]using hd
  obtain⟨y,ys,rfl,h1,h2⟩:=e;cases r with
  |cons r1 r2 =>
   have hl':d.canLay0=true/\PyData.canLayAll0 ds=true:=by simpa[PyData.canLayAll0]using hl
   obtain⟨as,q1⟩:=Dt.reads ok d y _ h1 r1;obtain⟨i1,i2,i3⟩:=om ok h2 r2 hl'.2 dx;refine⟨by rw[List.any_cons,List.any_cons,mf q1 hl'.1,i1],by rw[List.countP_cons,List.countP_cons,mf q1 hl'.1,i2],λu hu=>?_⟩;rcases Zj.mp hu with rfl|hu
   ·exact⟨d,as,by simp,q1,hl'.1⟩
   ·obtain⟨d',as',m,z⟩:=i3 u hu;exact⟨d',as',by simp[m],z⟩
end
section
variable{X:Cx}
theorem xY{JC:Jj}{σ:St}{H:Hp}{s:Ju}{A:Jv}{dx:PyData}{x:V}{v:Jw}{ds:List PyData}{xs:List V}{us:Jn}(I:Inv X JC σ H s)(hu:A.units+64<cLine)(h1:Dt H dx x)(rx:RelV x v)(h2:DtAll H ds xs)(r:Vals xs us)(s1:SeqAt.shaped dx=true)(s2:PyData.canLayAll0 ds=true):∀u∈us,SeqAt.EqAt A s u v (lj s.heap dx u):=λu hu'=>by obtain⟨_,_,z⟩:=om I.hok h2 r s2 dx;obtain⟨d,as,_,q1,q2⟩:=z u hu';obtain⟨bs,q3⟩:=Dt.reads I.hok dx x v h1 rx;rw[mf q1 q2];refine SeqAt.eqAt_reads d dx A s u v as bs q1 q3 q2 (Yr s1) ?_;have d1:=SeqAt.depth_of_shaped s1;have d2:min d.depth dx.depth<=dx.depth:=Nat.min_le_right _ _;omega
end
open PySem PySem.Spec PyProof.Rows PySem.W
section
variable{X:Cx}
structure QPs(X:Cx)(pos:Pos)(keys:List (Option Jz))(values:List Jz)(trs:List (TE×TE)):Prop where
 h:PPs X pos keys values trs
theorem HQ{pos:Pos}:QPs X pos [] [] []:=⟨Df⟩
theorem Fz{pos:Pos}{k v:Jz}{ks:List (Option Jz)}{vs:List Jz}{tk tv:TE}{trs:List (TE×TE)}(hk:QE X k tk)(hv:QE X v tv)(hr:QPs X pos ks vs trs):QPs X pos (some k::ks) (v::vs) ((tk,tv)::trs):=⟨A8 hk.h hv.h hr.h⟩
theorem Fu{pos:Pos}{keys:List (Option Jz)}{values:List Jz}{trs:List (TE×TE)}(h:QPs X pos keys values trs)(hall:keys.all (·.isSome)=true:=by rfl)(hl:keys.length=values.length:=by rfl)(h0:keys≠[]:=by simp)(h15:keys.length<=15:=by decide):QE X (.Dict keys values pos) (BZ trs):=⟨C6 h.h hall hl h0 h15⟩
end
open PySem PySem.Spec PyProof.Rows PySem.W
open PySem PySem.Spec PyProof.Rows PySem.W
structure MFn(P:Jt)(w:Jx)(K:W.Frag)(mg:Ji)(base:JB)(k:Nat)(C:Jy)(m:Str)(ps:Jr)(sp:Sp):Prop where
 cl:Cls K C
 ex:∃f fd,FnOk P w K mg base CX0 k f fd ps sp/\Meth K C m f/\Binds K fd ps []
structure MkFn(P:Jt)(w:Jx)(K:W.Frag)(mg:Ji)(base:JB)(k:Nat)(C:Jy)(x:Str)(ps:Jr)(sp:Sp):Prop where
 cl:Cls K C
 mgC:mg x=some (.ref C)
 ex:∃f fd,FnOk P w K mg base CX0 k f fd ps sp/\Mk K C f/\Binds K fd ps []
section
variable{X:Cx}{k:Nat}{C:Jy}{m x f:Str}{p pos pos' apos:Pos}{o e value:Jz}{es:List Jz}{ps:Jr}{sp:Sp}{t:TA}{ta tv:TE}
theorem bS(he:QE X e ta)(hb:attributeBase e f X.env (eval e X.env)=eval e X.env:=by rfl):QE X (.Attribute e f pos) (Bo X.K ta f):=⟨E4 he.h hb⟩
theorem BU(ha:QE X o ta)(hv:QE X value tv)(hs:swapsWith value (some (.Attribute o f pos')) pos.line X.env=pure false:=by rfl):QS X (.Assign [.Attribute o f pos'] value pos) (FF X.K ta tv f):=⟨Fi ha.h hv.h hs⟩
theorem cg{pl:Sem Bool}(F:MFn X.prog X.w X.K X.mg X.base k C m ps sp)(hr:Room k X.A)(he:QE X o ta)(ha:QA X (e::es) t)(hs:(e::es).all aP=true:=by rfl)(ht:eval (.Call (.Attribute o m apos) (e::es) [] pos) X.env=(do
   let ov ←eval o X.env
   standAt apos.atName
   let(f,first) ←holding [ov] (getMethod ov m pl)
   callWith pos f first (backTo pos (starEach (e::es) X.env)) (backToKw pos (keywordEach [] X.env))):=by rfl) :
  QE X (.Call (.Attribute o m apos) (e::es) [] pos) (pG C m sp [] E0 ta t):=by
 obtain⟨f,fd,G,hm,b⟩:=F.ex;rw[YF,ZD]at hs;exact⟨vn (pl:=pl) he.h F.cl hm G hr b .nil rP ha.h (aJ hs.1) (bK hs.2) ht⟩
theorem gH{pl:Sem Bool}(F:MFn X.prog X.w X.K X.mg X.base k C m ps sp)(hr:Room k X.A)(he:QE X o ta)(ht:eval (.Call (.Attribute o m apos) [] [] pos) X.env=(do
   let ov ←eval o X.env
   standAt apos.atName
   let(f,first) ←holding [ov] (getMethod ov m pl)
   callWith pos f first (backTo pos (starEach [] X.env)) (backToKw pos (keywordEach [] X.env))):=by rfl) :
  QE X (.Call (.Attribute o m apos) [] [] pos) (pG C m sp [] E0 ta iU):=by
 obtain⟨f,fd,G,hm,b⟩:=F.ex;exact⟨A0 (pl:=pl) he.h F.cl hm G hr b .nil rP ht⟩
theorem vo(F:MkFn X.prog X.w X.K X.mg X.base k C x ps sp)(hr:Room (k+1) X.A)(hg:Gl X x:=by rfl)(hdb:(x==("__debug__":Str))=false:=by decide):QE X (.Call (.Name x p) [] [] pos) (B1 C sp [] E0 iU):=by obtain⟨f,fd,G,hm,b⟩:=F.ex;exact⟨AZ hm G hr hg F.mgC b .nil rP hdb⟩
end
def DRaw(h:JB)(d:Jy)(es:Array DictEntry)(ep:Nat):Prop:=∃o,h.get? d=some o/\o.ExactDict/\o.data=.dict es ep
theorem DRaw.type{s:Ju}{d:Jy}{es:Array DictEntry}{ep:Nat}(x:DRaw s.heap d es ep):s.TypeIs (.ref d) "dict":=let⟨o,ho,hc,_⟩:=x;⟨o,ho,hc.1⟩
theorem DRaw.at'{h h':JB}{d:Jy}{es:Array DictEntry}{ep:Nat}(x:DRaw h d es ep)(e:∀o,h.get? d=some o->h'.get? d=some o):DRaw h' d es ep:=let⟨o,ho,r⟩:=x;⟨o,e o ho,r⟩
theorem DRaw.lt{h:JB}{d:Jy}{es:Array DictEntry}{ep:Nat}(x:DRaw h d es ep):d<h.objs.size:=let⟨_,ho,_⟩:=x;Zm ho
section
variable{prog:Jt}{w:Jx}{A:Jv}{E:Jh}{s:Ju}{d it:Jy}{es:Array DictEntry}{ep i:Nat}
theorem tj{Q:Jh}(hd:(d==sysModules)=false)(hm:DRaw s.heap d es ep)(hQ:Q (.ref s.heap.objs.size) { s with heap:=s.heap.push { cls:=.type "dict_keyiterator",data:=.fields #[.ref d,.int 0 0,.int es.size 0,.int ep 0] } }) :
  wpAny (model prog w) A (pyIter (.ref d)) Q E s:=by
 obtain⟨o,ho,hc,hdat⟩:=id hm;refine wpAny_pyIter_slot hm.type PySem.F.slot_dict_iter (Z2 PySem.F.slot_dict_iter hm.type PySem.F.entry_dict_iter ?_ (PySem.F.args_dict_iter_1 _));unfold Builtin.«dict.__iter__»;refine z0 ?_;unfold Builtin.Dict.dictSlotNone;refine z0 (wpAny_notOrdered_dict hm.type ?_);show wpAny _ _ (pure (Value.ref d)) _ _ s;refine z6 ?_;show wpAny _ _ (Builtin.Dict.showsAll d >>= _) _ _ s;unfold Builtin.Dict.showsAll;rw[Jf (by rw[hd];exact Zi)];refine z0 (z6 ?_);refine z0 (Yp ho hdat ?_);refine z0 (Z4 ho hdat ?_);refine z0 (Z5 (z6 ⟨_,rfl,"dict_keyiterator",_,⟨_,Zo _ rfl,rfl⟩,y7.lookup,?_⟩));simpa[rawInt]using hQ
theorem ti{Q:Jl->Ju->Prop}(hit:s.heap.IsKeyIter it d i es.size ep)(hm:DRaw s.heap d es ep)(hx:i<es.size)(hQ:∀h',h'.IsKeyIter it d (i+1) es.size ep->Heap.SameBut it s.heap h'->Q (some es[i].key) { s with heap:=h' }):wpAny (model prog w) A (pyNext (.ref it)) Q E s:=by
 obtain⟨o,ho,hc,hd⟩:=id hit;obtain⟨od,hod,hcd,hdd⟩:=id hm;unfold pyNext;refine z0 (wpAny_attempt (ZW (name:=Str.ofString "__next__") hit.typeIs y7
  (Z2 y7 hit.typeIs PySem.F.entry_dict_keyiterator_next ?_ (PySem.F.args_dict_keyiterator_next_1 _))))
 refine z0 (z6 ?_);refine z0 ?_;refine z0 ?_
 first|refine z0 (YG hit.typeIs (z6 ?_))|refine z0 (wpAny_typeNameOf_keyiter hit.typeIs (z6 ?_))
 refine z0 (wpAny_fieldsOf ho hd ?_);have hown:Builtin.Dict_items.ownsTuple "dict_keyiterator" = false:=by decide
 simp only[hown,Bool.false_eq_true,if_false];show wpAny _ _ (if(Value.ref d==Value.none)=true then _ else _) _ _ s;rw[Jf (show¬((Value.ref d==Value.none)=true)from Zi)];refine z0 (z6 ?_);refine z0 (Yp hod hdd ?_);rw[Jf (by simp)];refine z0 (z6 ?_);refine z0 (Z4 hod hdd ?_);rw[Jf (by simp)];refine z6 ?_;simp only[show¬((i:Int)<0)from by omega,if_false,Int.toNat_natCast,Yj hx];refine z0 ?_
 first|refine z0 (YG hit.typeIs (z6 ?_))|refine z0 (wpAny_typeNameOf_keyiter hit.typeIs (z6 ?_))
 refine z0 (wpAny_isOneOf_keyiter hit.typeIs ?_);show wpAny _ _ (setField (.ref it) 1 (rawInt ((i:Int)+1)) >>= _) _ _ s;refine z0 (YJ ho hd (by simp) ?_);have hit':(s.heap.update it (Obj.mapFields (·.setIfInBounds 1 (rawInt ((i:Int)+1))))).IsKeyIter it d (i+1) es.size ep :=
  ⟨_,Yk _ ho (Obj.isFreed_of_fields (Yb hd _)),(Obj.cls_mapFields ..).trans hc,by rw[Yb hd];simp[rawInt]⟩
 refine z0 (Z1 ?_);refine z0 (wpAny_isOneOf_keyiter (s:={ s with heap:=s.heap.update it (Obj.mapFields (·.setIfInBounds 1 (rawInt ((i:Int)+1)))) }) hit'.typeIs ?_);show wpAny _ _ (pure es[i].key) _ _ _;exact z6 (z6 ⟨_,rfl,z6 (hQ _ hit' (ZP ..))⟩)
theorem vt{Q:Jl->Ju->Prop}(hh:A.handled=none)(hit:s.heap.IsKeyIter it d es.size es.size ep)(hm:DRaw s.heap d es ep)(hQ:∀h',Heap.ExtBut it s.heap h'->Q none { s with heap:=h' }) :
  wpAny (model prog w) A (pyNext (.ref it)) Q E s:=by
 obtain⟨o,ho,hc,hd⟩:=id hit;obtain⟨od,hod,hcd,hdd⟩:=id hm;unfold pyNext;refine z0 (wpAny_attempt (ZW (name:=Str.ofString "__next__") hit.typeIs y7
  (Z2 y7 hit.typeIs PySem.F.entry_dict_keyiterator_next ?_ (PySem.F.args_dict_keyiterator_next_1 _))))
 refine z0 (z6 ?_);refine z0 ?_;refine z0 ?_
 first|refine z0 (YG hit.typeIs (z6 ?_))|refine z0 (wpAny_typeNameOf_keyiter hit.typeIs (z6 ?_))
 refine z0 (wpAny_fieldsOf ho hd ?_);have hown:Builtin.Dict_items.ownsTuple "dict_keyiterator" = false:=by decide
 simp only[hown,Bool.false_eq_true,if_false];show wpAny _ _ (if(Value.ref d==Value.none)=true then _ else _) _ _ s;rw[Jf (show¬((Value.ref d==Value.none)=true)from Zi)];refine z0 (z6 ?_);refine z0 (Yp hod hdd ?_);rw[Jf (by simp)];refine z0 (z6 ?_);refine z0 (Z4 hod hdd ?_);rw[Jf (by simp)];refine z6 ?_;simp only[show¬((es.size:Int)<0)from by omega,if_false,Int.toNat_natCast,Array.getElem?_eq_none (Za _)];refine z0 ?_
 first|refine z0 (YG hit.typeIs (z6 ?_))|refine z0 (wpAny_typeNameOf_keyiter hit.typeIs (z6 ?_))
 show wpAny _ _ (setField (.ref it) 0 .none >>= _) _ _ s;refine z0 (YJ ho hd (by simp) ?_);show wpAny _ _ (newExc (.type "StopIteration") [] >>= _) _ _ _;refine z0 ?_;simp only[newExc,newTuple];refine z0 (Z5 ?_ (by size_fits));refine z0 (m:=firstArgMember _ _) (wpAny_of_eq (a:=Value.none) (by first|rfl|(simp only[firstArgMember];rfl)) ?_);refine Z5 ?_ (by size_fits);simp only[raiseNew];refine z0 (wpAny_handled ?_);rw[show A.in1.handled=none from hh];refine z0 (z6 (wpAny_throw ?_));refine z0 (wpAny_isInstance (T:="StopIteration") (b:=true) ⟨_,Zo _ rfl,rfl⟩ isSubtype_stop ?_);exact z6 (hQ _ (((ZP ..).extBut.push _).push _))
theorem zp(hh:A.handled=none)(I d:Jy)(hne:d≠I)(es:Array DictEntry)(ep:Nat) :
  Walks prog w A I [I,d] [I] es.size (λi v=>∃e,es[i]?=some e/\v=e.key) (λi h=>h.IsKeyIter I d i es.size ep/\DRaw h d es ep) where
 sub:=λb hb=>by simp at hb;simp[hb]
 frame:=λ_ _ _ st hk=>⟨st.1.at λo e=>hk I (by simp) o e,st.2.at' λo e=>hk d (by simp) o e⟩
 item:=λi s Q E hi st hQ=>ti st.1 st.2 hi λh' hit' hs'=>hQ _ h' s.toks ⟨es[i],by simp[hi],rfl⟩ ⟨hit',st.2.at' λo e=>hs'.extBut d o hne e⟩ λb o hb e=>hs'.extBut b o (λh=>hb (by simp[h])) e
 done:=λs Q E st hQ=>vt hh st.1 st.2 λh' he'=>hQ h' s.toks λb o hb e=>he' b o (λh=>hb (by simp[h])) e
 self:=λ_ _ _ _ st hQ=>wpAny_pyIter_keyiter st.1 hQ
theorem vw(lo:(d==sysModules)=false):KdlSrc prog w "dict" d d es.size (λi v=>∃e,es[i]?=some e/\v=e.key) (λh=>DRaw h d es ep) where
 type:=λ_ hm=>hm.type
 there:=λ_ hm=>⟨hm.lt,hm.lt⟩
 keep:=λ_ _ hm hk=>hm.at' λo e=>hk d (.inl rfl) o e
 notList:=by decide
 notTuple:=by decide
 hint:=λ_ _ _ _ hm hq=>kdl_hint_dict hm.type hq
 iter:=λ_ _ hh hm=>⟨_,_,(λ_ _ hq=>tj lo hm hq),zp hh _ d (Zy hm.lt) es ep,⟨⟨_,Zo _ rfl,rfl,rfl⟩,hm.at' λo e=>z9 _ e⟩⟩
end
def dh(H:Hp)(kvs:List (List Key×V))(ks:List V):Prop:=Paired (fun(p:List Key×V) (v:V)=>∃b,v=V.ref b/\H b=some (.tup (p.1.map kV))) kvs ks
theorem oJ{H:Hp}{kvs:List (List Key×V)}{xs:List (List Key×Jy×Jw)}(r:KT H kvs xs):dh H kvs (xs.map fun(x:List Key×Jy×Jw)=>V.ref x.2.1):=by
 unfold dh;induction r with
 |nil=>exact .nil
 |cons h _ ih=>exact .cons ⟨_,rfl,h.2.1⟩ ih
section
variable{X:Cx}
theorem vT(hc:X.calm=true):fu X (.type "list") (λxs H Q=>∃p kvs,xs=[.ref p]/\Rd H p (.dT kvs)/\∀l ks,H l=none->dh H kvs ks->Q (.ref l) (upd H l (.lst ks))):=by
 intro JC s σ H xs us Q I r h;obtain⟨p,kvs,rfl,hq,q⟩:=h;obtain⟨u,rfl,rx⟩:=fz r;cases rx;obtain⟨z,hd,xs,rel,o,es,ep,h1,h2,h3,h4,_,_⟩:=iV I.hok hq;have hsz:es.size=xs.length:=size_of_entries h4;have hkl:kvs.length=xs.length:=Zu rel;refine kdl_call (vw (es:=es) (ep:=ep) hd) (I.ok.hd hc) ⟨o,h1,h2,h3⟩ (by omega) λh' tk acc' c' kp e hacc=>?_;have ev:Vals (xs.map fun(x:List Key×Jy×Jw)=>V.ref x.2.1) acc'.toList:=by
  have gen:∀(vs:Jn) (ys:List (List Key×Jy×Jw)),vs.length=ys.length->(∀(j:Nat) (v:Jw),vs[j]?=some v->∃x:List Key×Jy×Jw,ys[j]?=some x/\v=Value.ref x.2.1)->Vals (ys.map fun(x:List Key×Jy×Jw)=>V.ref x.2.1) vs:=by
   intro vs;induction vs with
   |nil =>
    intro ys hl _;cases ys with
    |nil=>exact .nil
    |cons _ _=>cases hl
   |cons v vs ih =>
    intro ys hl hv;cases ys with
    |nil=>cases hl
    |cons y ys =>obtain⟨x,e1,e2⟩:=hv 0 v rfl;cases e1;exact .cons e2 (ih ys (by simpa using hl) λj v' e'=>hv (j+1) v' (by simpa using e'))
  refine gen _ _ (by rw[Zx,hacc.1,hsz]) λj v e'=>?_;obtain⟨en,e1,e2⟩:=hacc.2 j v (by rw[<-YO];exact e');rw[entry_at h4]at e1;obtain⟨x,e3,e4⟩:=ZZ.mp e1;refine⟨x,e3,?_⟩;rw[e2,<-e4];rfl
 refine⟨.ref s.heap.objs.size,_,I.laid (t':=tk) kp (Za _) (show ObjOk X.prog X.w _ h' _ (.lst (xs.map fun(x:List Key×Jy×Jw)=>V.ref x.2.1))from⟨by rw[Ze];omega,acc'.toList,c',ev,by simpa using e⟩),rfl,q _ _ (I.hok.fresh (Za _)) (oJ rel)⟩
theorem iw(hc:X.calm=true):QCall X (.type "list") (λxs H Q=>∃p kvs,xs=[.ref p]/\Rd H p (.dT kvs)/\∀l ks,H l=none->dh H kvs ks->Q (.ref l) (upd H l (.lst ks))):=⟨vT hc⟩
end
def G7(t:TS):TS:=λD σ H=>∃Pv:St->Hp->Prop,t { D with nx:=Pv } σ H/\∀σ' H',Pv σ' H'->D.nx σ' H'
theorem hW{X:Cx}{st:JA}{t:TS}(h:QS X st t):QS X st (G7 t):=⟨λJC s σ H D I ⟨Pv,h1,h2⟩=>thn (h.h JC s σ H _ I h1) λfl s' q=>by
 cases fl with
 |next =>obtain⟨σ',H',I',q'⟩:=q;exact⟨σ',H',I',h2 _ _ q'⟩
 | _=>exact q⟩
open PySem PySem.Spec PyProof.Rows PySem.W
open PySem PySem.Spec PyProof.Rows PySem.W
section
variable{prog:Jt}{w:Jx}{A:Jv}{E:Jh}{h:JB}{g:Array GenState}{d:Drawn}{t:Nat}{os:OsState}
variable{nm q:Str}{C N:Jy}{bs bm bmB:Jn}{hdct:Bool}{sn:Jr}{sub:Jn}{ab:Bool}{col:Option Bool}{dd:Option Jy}{k0 k1 k2 k3 k5:Jl}{B newId initId:String}
theorem pJ(F:ExcBaseFacts B newId initId bmB)(T:OwnTail h bmB bm){mN:Ji}{rest:Jn}{fI:Jy}{oI:Obj}{Q:PySem.Fin->Ju->Prop}(hC:h.get? C=some (excClassObj nm q C N bs bm hdct sn sub ab col dd k0 k1 k2 k3 k5 newId))(hn:h.Ns N mN)(hi:mN "__init__" = some (.ref fI))(hfI:h.get? fI=some oI)(hfc:oI.cls=.type "function")(hq:∀h' e,Heap.MadeExcOf h h' e (.ref C) rest->wpAny (model prog w) A (call (.ref fI) (.ref e::rest)) (λr s'=>r=.none/\Q (.done (.ret (.ref e))) s') E ⟨h',g,d,t,os⟩)(hrest:rest.length<=sizeLine) :
  wpAny (model prog w) A (Builtin.«type.__call__» ⟨.ref C::rest,[]⟩) Q E ⟨h,g,d,t,os⟩:=by
 repeat(first|with_reducible refine YE hC ?_|with_reducible refine wpAny_madeBy_exc hC ?_|wp_step)
 refine codeAny_call_builtin_code (Code.quiet_builtin _ F.quiet) (wpAny_check_new_subT F T hC ?_);refine codeAny_exc_new_subT F T hC ?_ hrest;show wpAny _ _ _ _ _ _;have kp:∀b o,h.get? b=some o->((h.push { cls:=.type "tuple",data:=.seq rest.toArray }).push { cls:=.ref C,data:=.fields #[.ref h.objs.size,.none,.none,.none,.bool false,.none] }).get? b=some o :=
  λb o e=>z9 _ (z9 _ e)
 have hn₁:((h.push { cls:=.type "tuple",data:=.seq rest.toArray }).push { cls:=.ref C,data:=.fields #[.ref h.objs.size,.none,.none,.none,.bool false,.none] }).Ns N mN:=hn.keeps kp;have hget:((h.push { cls:=.type "tuple",data:=.seq rest.toArray }).push { cls:=.ref C,data:=.fields #[.ref h.objs.size,.none,.none,.none,.bool false,.none] }).get? (h.objs.size+1) =
   some { cls:=.ref C,data:=.fields #[.ref h.objs.size,.none,.none,.none,.bool false,.none] }:=by heap_get
 have hcC:(Value.ref C::bm).contains (.ref C)=true:=by simp
 unfold isInstance
 repeat(first|with_reducible refine YE hget ?_|(with_reducible refine wpAny_isSubtype_exc (kp _ _ hC) ?_;rw[hcC])|wp_step)
 show wpAny _ _ (typeLookup (.ref C) _) _ _ _;refine wpAny_typeLookup_tail (kp _ _ hC) hn₁ (T.keeps kp) F.mroIs F.init.lookup ?_;rw[hi];refine Z1 (z0 ?_);unfold bindSpecial;refine z0 (wpAny_typeOf (T:="function") ⟨_,kp _ _ hfI,hfc⟩ ?_);rw[Jg (by decide)];refine z6 (z0 (ZK (hq _ (h.objs.size+1) ⟨kp,YA (Nat.le_succ _),h.objs.size,hget,YA (Za _),?_⟩) (λr s' hr=>?_) λ_ _ x=>x))
 ·exact z9 _ (Heap.get?_push_at rfl rfl)
 ·obtain⟨rfl,hQ⟩:=hr
  wp_walk
  exact hQ
theorem vS(F:ExcBaseFacts B newId initId bmB)(T:OwnTail h bmB bm){mN:Ji}{rest:Jn}{fI:Jy}{oI:Obj}{Q:Jh}(hC:h.get? C=some (excClassObj nm q C N bs bm hdct sn sub ab col dd k0 k1 k2 k3 k5 newId))(hn:h.Ns N mN)(hi:mN "__init__" = some (.ref fI))(hfI:h.get? fI=some oI)(hfc:oI.cls=.type "function")(hq:∀h' e,Heap.MadeExcOf h h' e (.ref C) rest->wpAny (model prog w) (A.under (.builtin "type.__call__" ⟨.ref C::rest,[]⟩)) (call (.ref fI) (.ref e::rest)) (λr s'=>r=.none/\Q (.ref e) s') E ⟨h',g,d,t,os⟩)(hrest:rest.length<=sizeLine) :
  wpAny (model prog w) A (call (.ref C) rest) Q E ⟨h,g,d,t,os⟩:=by
 have f1:=tc_lookup;have f2:=tc_bind (.ref C);have hT:(⟨h,g,d,t,os⟩:Ju).TypeIs (.ref C) "type":=⟨_,hC,rfl⟩
 refine wpAny_call (codeAny_of_tree ?_);show wpAny _ _ (callAny (.ref C) _) _ _ _
 repeat(any_goals(first|assumption|with_reducible refine YE hC ?_|wp_step))
 refine⟨rfl,?_⟩;exact codeAny_call_builtin_at (Code.quiet_builtin _ (by decide)) entry_typeCall (wpAny_check_type_call_sub hC (pJ F T hC hn hi hfI hfc (λh' e hm=>hq h' e hm) hrest))
end
section
variable{M:Model}{A:Jv}{E:Jh}{env:Env}{K:W.Frag}
theorem zo{C:Jy}{bm:Jn}{s:Ju}{x:Sem Jw}{Q:Flow->Ju->Prop}(hC:ExC K C bm)(hh:A.handled=none)(h:wpAny M A x (λv s₁=>∃e oe,v=.ref e/\K.In s₁.heap/\s₁.heap.get? e=some oe/\oe.cls=.ref C/\(∃t,oe.data=.fields #[.ref t,.none,.none,.none,.bool false,.none])/\E (.ref e) s₁) E s):wpAny M A (raiseStmt env (some x) none) Q E s:=by
 have hcB:(Value.ref C::bm).contains (.type "BaseException")=true:=by rw[YM,hC.exc,Bool.or_true]
 unfold raiseStmt;refine z0 (ZK h (λv s₁ h₁=>?_) λ_ _ x=>x);obtain⟨e,oe,rfl,hk,he,hcl,⟨vs,hd⟩,hE⟩:=h₁;obtain⟨nm,q,N,bs,hdct,sn,sub,ab,col,dd,k0,k1,k2,k3,k5,ni,oC⟩:=hC.cls _ hk;obtain⟨hp,g,d,tk,os⟩:=s₁;obtain⟨oc,od,odt,osl⟩:=oe;cases hcl;cases hd
 repeat(first|with_reducible refine YE he ?_|with_reducible refine YE oC ?_|(with_reducible refine wpAny_isSubtype_exc oC ?_;rw[hcB])|wp_step)
 exact wpAny_raiseNew_none hh hE
end
open PySem PySem.Spec PyProof.Rows PySem.W PySem.Builtin PySem.Builtin.ObjectAttr
theorem zq(self:Jw):refuseLoop self "__setattr__" VE=pure ():=by kernel_rfl
def ph:Jn->Bool
 |.ref _::r=>ph r
 |l=>l==VE
theorem mU(self:Jw):∀{l:Jn},ph l=true->refuseLoop self "__setattr__" l=pure ()
 |.ref c::r,e=>by rw[refuseLoop_ref];exact mU self e
 | [],e=>nomatch e
 |.type n::r,e=>by rw[show(Value.type n::r)=VE from ZO.mp e];exact zq self
 |.none::r,e=>by have:=(ZO (α:=Jn)).mp e;cases this
 |.bool b::r,e=>by have:=(ZO (α:=Jn)).mp e;cases this
 |.int b t::r,e=>by have:=(ZO (α:=Jn)).mp e;cases this
 |.str b t::r,e=>by have:=(ZO (α:=Jn)).mp e;cases this
 |.bytes b t::r,e=>by have:=(ZO (α:=Jn)).mp e;cases this
 |.float b t::r,e=>by have:=(ZO (α:=Jn)).mp e;cases this
 |.builtin b::r,e=>by have:=(ZO (α:=Jn)).mp e;cases this
 |.ellipsis::r,e=>by have:=(ZO (α:=Jn)).mp e;cases this
 |.notImplemented::r,e=>by have:=(ZO (α:=Jn)).mp e;cases this
structure ExS(K:W.Frag)(c:Jy):Prop where
 sa:findIn K (.ref c) "__setattr__" = some (some (.builtin "object.__setattr__"))
 ov:((clsIn K c).any λcd=>ph cd.mro&&cd.hasDict)=true
 ob:mroIn K c (.type "object")=some true
section
variable{prog:Jt}{w:Jx}{K:W.Frag}{A:Jv}{R:Result->Ju->Prop}{s:Ju}{x C:Jy}
theorem CU{ox:Obj}{od:Option Obj}{name:Str}{tk:Tok}{v:Jw}(X:K.In s.heap)(I:InstAt s.heap x ox C od)(S:ExS K C)(hn:findIn K (.ref C) name=some none)(h:wpAny (model prog w) A.in1 (storeInOwnDict (.ref x) (.ref C) (.str name tk) name v false)
   (λfin s'=>match fin with|.done f=>R (.ok f) s'|.again c'=>c'.quiet=true/\codeAny (model prog w) A c' R s') (λe s'=>R (.error e) s') s) :
  codeAny (model prog w) A (.call (.builtin "object.__setattr__") ⟨[.ref x,.str name tk,v],[]⟩) R s:=by
 have SF:=PySem.F.store_object;obtain⟨cd,hc,ho⟩:=any_some S.ov;rw[ZD]at ho;have sub:Looks (model prog w) s.heap (isInstance (.ref x) (.type "object")) true:=I.type.andThen (looks_mroIn X S.ob);refine codeAny_call_builtin SF.slot.plain SF.entry (@check_slot (model prog w) _ _ s "object.__setattr__" "object" "__setattr__" (.ref x) [.str name tk,v] [] _ SF.kind SF.split sub (SF.args (.ref x) (.str name tk) v) ?_);have hm:Looks (model prog w) s.heap (mroOf (.ref C)) cd.mro:=(looks_clsIn X hc).andThen .now;rw[osa_eq,refuse_eq];refine z0 (z0 (I.type.here (z0 (hm.here ?_))));rw[mU _ ho.1];refine z6 (z0 (I.type.here (z0 ((looks_findIn X hn).here (z0 (Looks.now.here ?_))))));exact h
end
def exN(ea c t:Jy)(dc:Option Jy):HO:=.ext λh=>h.get? ea=some { cls:=.ref c,dict:=dc,data:=.fields #[.ref t,.none,.none,.none,.bool false,.none] }
theorem yf{P:Jt}{w:Jx}{H:Hp}{h:JB}{ea c t:Jy}{dc:Option Jy}(e:h.get? ea=some { cls:=.ref c,dict:=dc,data:=.fields #[.ref t,.none,.none,.none,.bool false,.none] }):ObjOk P w H h ea (exN ea c t dc) :=
 ⟨e,⟨_,e⟩,λ_ _ p k=>k _ p⟩
section
variable{X:Cx}{JC:Jj}{σ:St}{H:Hp}{s:Ju}{a c t:Jy}{f:Str}{y:V}{u:Jw}{A:Jv}{E:Jh}
theorem Dv{Q:Unit->Ju->Prop}(I:Inv X JC σ H s)(e:H a=some (exN a c t none))(S:ExS X.K c)(n:NoAttr X.K c f)(ry:RelV y u)(h:∀d s',H d=none->Inv X JC σ (upd (upd H d (.xd [(f,y)])) a (exN a c t (some d))) s'->Q () s'):wpAny (model X.prog X.w) A (setAttr (.ref a) f u) Q E s:=by
 have hx:s.heap.get? a=some { cls:=.ref c,dict:=none,data:=.fields #[.ref t,.none,.none,.none,.bool false,.none] }:=(show ObjOk X.prog X.w H s.heap a (exN a c t none)from I.hok a _ e).1;have J:InstAt s.heap a { cls:=.ref c,dict:=none,data:=.fields #[.ref t,.none,.none,.none,.bool false,.none] } c none:=⟨hx,rfl,rfl,True.intro⟩
 obtain⟨cd,hc,ho⟩:=any_some S.ov;rw[ZD]at ho;refine W.set_plain I.kIn J S.sa (CU (s:={ s with toks:=s.toks+1 }) I.kIn J S n ?_);refine z0 (z6 (z0 (z0 (wpAny_loadPart hx (z0 (W.Looks.here (s:={ s with toks:=s.toks+1 }) (W.looks_clsIn I.kIn hc) ?_))))));rw[ho.2];have hxs:a≠s.heap.objs.size:=Zy (Zm hx);have hx1:(s.heap.push { cls:=.type "dict",data:=.dict #[] }).get? a=some { cls:=.ref c,dict:=none,data:=.fields #[.ref t,.none,.none,.none,.bool false,.none] }:=z9 _ hx;show wpAny _ _ (alloc { cls:=.type "dict",data:=.dict #[] } >>= λd=>update a (λo=>{ cls:=o.cls,dict:=some d,data:=o.data,slots:=o.slots }) >>= λ_=>dictMade (.ref c) a d) _ _ _;refine z0 (wpAny_alloc' ?_);refine z0 (wpAny_update' hx1 ?_);refine z6 ?_;have hgd:((s.heap.push { cls:=.type "dict",data:=.dict #[] }).update a λo=>{ cls:=o.cls,dict:=some s.heap.objs.size,data:=o.data,slots:=o.slots }).get? s.heap.objs.size=some { cls:=.type "dict",data:=.dict #[] } :=
  (Heap.get?_update_ne _ _ _ _ hxs.symm).trans (Heap.get?_push_at rfl rfl)
 have hnd:((s.heap.push { cls:=.type "dict",data:=.dict #[] }).update a λo=>{ cls:=o.cls,dict:=some s.heap.objs.size,data:=o.data,slots:=o.slots }).Ns s.heap.objs.size (λ_=>none) :=
  ⟨_,#[],_,hgd,rfl,λe he=>absurd he (by simp),λ_=>rfl⟩
 refine z0 (z6 (z0 (wpAny_nsSet1 (Heap.Ns1.of_empty hnd) λh' hn' hs=>?_)));obtain⟨oD,esD,epD,hoD,hdD,hcD⟩:=hn'.count (Within.cons f u Within.nil);refine z0 (wpAny_lookBehind hoD (by rw[hdD];exact pastItsLine_dict (Zr hcD (by rw[Zw,List.length_nil,sizeLine_eq];omega))) ?_);have hx':h'.get? a=some { cls:=.ref c,dict:=some s.heap.objs.size,data:=.fields #[.ref t,.none,.none,.none,.bool false,.none] }:=(hs.2 a hxs).trans (Yk _ hx1 rfl);have kp:∀b o,b≠a->s.heap.get? b=some o->h'.get? b=some o:=λb o hb q=>(hs.2 b (Zy (Zm q))).trans ((Heap.get?_update_ne _ _ _ _ hb).trans (z9 _ q));have hd0:H s.heap.objs.size=none:=I.hok.fresh (Za _);have nd:∀b o,s.heap.get? b=some o->b≠s.heap.objs.size:=λb o q=>Zy (Zm q);have ne1:∀b v,H b=some v->v≠exN a c t none->b≠a:=λb v q hv z=>by rw[z,e]at q;exact hv (Zb q).symm
 have ne2:∀b v,H b=some v->b≠s.heap.objs.size:=λb v q=>ai q hd0;have un:Un X.fs [] H (upd (upd H s.heap.objs.size (.xd [(f,y)])) a (exN a c t (some s.heap.objs.size))) s.heap h':=by
  refine⟨λb o q m _ _=>kp b o (λz=>by rw[z,e]at m;cases m) q,λb o q m _ _=>⟨o.slots,kp b o (λz=>by rw[z,e]at m;cases m) q⟩,λb o q m _=>?_,λb o q _=>?_,λb xs q=>?_,λb o v q=>?_,λb ps q=>⟨#[],?_⟩⟩
  ·rw[ad (λz=>by rw[z,e]at m;cases m),ad (nd b o q)];exact m
  ·by_cases hb:b=a
   ·exact⟨_,hb▸hx'⟩
   ·exact⟨o,kp b o hb q⟩
  ·rw[ad (ne1 _ _ q nofun),ad (ne2 _ _ q)];exact q
  ·rw[ad (ne1 _ _ q nofun),ad (ne2 _ _ q)];exact q
  ·rw[ad (ne1 _ _ q nofun),ad (ne2 _ _ q),q];simp
 have hok:HOk X.prog X.w (upd (upd H s.heap.objs.size (.xd [(f,y)])) a (exN a c t (some s.heap.objs.size))) h':=λb v q=>by
  by_cases hb:b=a
  ·subst hb;rw[ac]at q;cases q;exact yf hx'
  ·rw[ad hb]at q;by_cases hbd:b=s.heap.objs.size
   ·subst hbd;rw[ac]at q;cases q;refine⟨_,hn',λg=>?_⟩;by_cases hg:g=f
    ·subst hg;rw[Jg rfl];show RelO ([(g,y)].lookup g) (some u);rw[ZL,show(g==g)=true by simp];exact ry
    ·rw[Jf hg];show RelO ([(f,y)].lookup g) none;rw[ZL,show(g==f)=false by simpa using hg];exact True.intro
   ·rw[ad hbd]at q;refine(I.hok b v q).stay (λb' v' hb' q'=>kp b' v' ?_ q') (λb' q'=>?_) λb' xs q'=>?_
    ·rcases hb' with rfl|z
     ·exact hb
     ·exact ne1 _ _ z nofun
    ·rw[ad (ne1 _ _ q' nofun),ad (ne2 _ _ q')];exact q'
    ·rw[ad (ne1 _ _ q' nofun),ad (ne2 _ _ q')];exact q'
 exact z6 (h _ _ hd0 (I.un un hok))
end
def G0(K:W.Frag)(ta tv:TE)(f:Str):TS:=λD σ H=>tv σ H λy H1=>ta σ H1 λx H2=>∃a c t,x=.ref a/\H2 a=some (exN a c t none)/\ExS K c/\NoAttr K c f/\∀d,H2 d=none ->
 D.nx σ (upd (upd H2 d (.xd [(f,y)])) a (exN a c t (some d)))
theorem FH{X:Cx}{o value:Jz}{f:Str}{pos pos':Pos}{ta tv:TE}(ha:QE X o ta)(hv:QE X value tv)(hs:swapsWith value (some (.Attribute o f pos')) pos.line X.env=pure false:=by rfl):QS X (.Assign [.Attribute o f pos'] value pos) (G0 X.K ta tv f):=by refine⟨?_⟩;intro JC s σ H D I h;refine plainObj_wpAny_Assign_Attribute (thn (hv.h JC s σ H _ I h) λu s1 ⟨y,H1,I1,ry,q⟩=>thn (ha.h JC s1 σ H1 _ I1 q) λov s2 hz9=>?_) hs;obtain⟨x,H2,I2,rx,a,c,t,ex,ea,S,n,q2⟩:=hz9;subst ex;obtain rfl:ov=Value.ref a:=rx;exact Dv I2 ea S n ry λd s3 hd I3=>⟨σ,_,I3,q2 d hd⟩
open PySem PySem.Spec PyProof.Rows PySem.W
def del(H:Hp)(a:Jy):Hp:=λb=>if b=a then none else H b
theorem An{H:Hp}{a:Jy}:del H a a=none:=by unfold del;rw[Jg rfl]
theorem fP{H:Hp}{a b:Jy}(h:b≠a):del H a b=H b:=by unfold del;rw[Jf h]
theorem yP{H:Hp}{a b:Jy}{u:HO}(h:del H a b=some u):b≠a/\H b=some u:=by
 by_cases c:b=a
 ·rw[c,An]at h;cases h
 ·rw[fP c]at h;exact⟨c,h⟩
open PySem PySem.Spec PyProof.Rows PySem.W
def sG(K:W.Frag)(C fI:Jy):Bool:=match K.lookup C with
 | some ⟨.type "type",_,.cls cd,sl⟩=>(match cd.mro,sl.toList with
  |.ref C'::bm,[_,_,_,_,some (.builtin n),_]=>C'==C&&n=="ValueError.__new__"&&!cd.hasDel&&tailIn K VE bm&&nsOkIn K cd.ns&&nsIn K cd.ns "__init__" == some (some (.ref fI))
  | _,_=>false)
 |_=>false
theorem wQ{K:W.Frag}{h:JB}{N:Jy}{m:Ji}{n:Str}{v:Jw}(X:K.In h)(G:h.Ns N m)(e:nsIn K N n=some (some v)):m n=some v:=by
 obtain⟨o,es,ep,ho,hd,_,hf⟩:=G;unfold nsIn at e;split at e
 ·rename_i c d es' n' sl q;have:=X _ _ q;rw[ho]at this;cases this;cases hd;split at e
  ·rename_i en he;cases e;rw[<-hf];unfold nsFind findBy;rw[<-Array.find?_toList,he];rfl
  ·split at e<;>cases e
 ·cases e
structure ExcAtI(K:W.Frag)(C fI:Jy)(bm:Jn):Prop where
 isIn:sG K C fI=true
 mro:∃c d cd sl,K.lookup C=some ⟨c,d,.cls cd,sl⟩/\cd.mro=Value.ref C::bm
 exc:bm.contains (.type "BaseException")=true
 fn:∃oI,K.lookup fI=some oI/\oI.cls=.type "function"
theorem oA{K:W.Frag}{C fI:Jy}{bm:Jn}(q:ExcAtI K C fI bm){h:JB}(X:K.In h) :
  ∃nm qn N bs hdct sn sub ab col dd k0 k1 k2 k3 k5 mN,h.get? C=some (excClassObj nm qn C N bs bm hdct sn sub ab col dd k0 k1 k2 k3 k5 "ValueError.__new__")/\h.Ns N mN/\mN "__init__" = some (.ref fI)/\OwnTail h VE bm:=by
 have q1:=q.isIn;obtain⟨c9,d9,cd9,sl9,l9,m9⟩:=q.mro;unfold sG at q1;split at q1
 ·rename_i dd cd sl ho;split at q1
  ·rename_i C' bm' k0 k1 k2 k3 n k5 hm hs;have q2:cd.mro=Value.ref C::bm:=by have z:=ho.symm.trans l9;cases z;exact m9
   rw[hm]at q2;injection q2 with z1 z2;injection z1 with z1;cases z1;cases z2;simp only[ZD,ZO,Bool.not_eq_true']at q1;obtain⟨⟨⟨⟨⟨_,rfl⟩,nd⟩,ht⟩,ok⟩,ni⟩:=q1;have es:sl=#[k0,k1,k2,k3,some (.builtin "ValueError.__new__"),k5]:=by obtain⟨l⟩:=sl;simp only at hs;rw[hs]
   cases es;obtain⟨nm,bs,mro,ns,qn,hd,sn,sub,ab,col,del⟩:=cd;dsimp only at hm nd ok ni;cases hm;cases nd;have G:h.Ns ns _:=.of_isNs (isNs_of_in X ok);exact⟨nm,qn,ns,bs,hd,sn,sub,ab,col,dd,k0,k1,k2,k3,k5,_,X _ _ ho,G,wQ X G ni,tail_of_in X ht⟩
  ·cases q1
 ·cases q1
theorem uI{K:W.Frag}{C fI:Jy}{bm:Jn}(q:ExcAtI K C fI bm):ExC K C bm where
 cls:=λh X=>by obtain⟨nm,qn,N,bs,hdct,sn,sub,ab,col,dd,k0,k1,k2,k3,k5,mN,e,_⟩:=oA q X;exact⟨nm,qn,N,bs,hdct,sn,sub,ab,col,dd,k0,k1,k2,k3,k5,_,e⟩
 exc:=q.exc
structure ExI(P:Jt)(w:Jx)(K:W.Frag)(mg:Ji)(base:JB)(k:Nat)(C:Jy)(bm:Jn)(ps:Jr)(sp:Sp):Prop where
 ex:∃fI fd,ExcAtI K C fI bm/\FnOk P w K mg base CX0 k fI fd ps sp/\Binds K fd ps []
section
variable{X:Cx}{JC:Jj}{σ:St}{H:Hp}{s:Ju}
theorem Inv.excMade{h':JB}{e c t:Jy}(I:Inv X JC σ H s)(kp:∀b o,s.heap.get? b=some o->h'.get? b=some o)(hn:s.heap.get? e=none)(he:h'.get? e=some { cls:=.ref c,data:=.fields #[.ref t,.none,.none,.none,.bool false,.none] }) :
  H e=none/\Inv X JC σ (upd H e (exN e c t none)) { s with heap:=h' }:=by
 have h0:H e=none:=by
  cases q:H e with
  |none=>rfl
  |some u =>obtain⟨o,z⟩:=gG (I.hok e u q);rw[hn]at z;cases z
 have nb:∀b o,s.heap.get? b=some o->b≠e:=λb o q z=>by rw[z,hn]at q;cases q
 refine⟨h0,I.un (t':=s.toks) ⟨λb o q _ _ _=>kp b o q,λb o q _ _ _=>⟨o.slots,kp b o q⟩,λb o q m _=>by rw[ad (nb b o q)];exact m,λb o q _=>⟨o,kp b o q⟩,λb xs q=>by rw[ad (ai q h0)];exact q,λb o v q=>by rw[ad (ai q h0)];exact q,λb ps q=>⟨#[],by rw[ad (ai q h0),q];simp⟩⟩ λb u q=>?_⟩;by_cases hb:b=e
 ·subst hb;rw[ac]at q;cases q;exact yf he
 ·rw[ad hb]at q;exact(I.hok b u q).stay (λb' v _ q'=>kp b' v q') (λb' z=>by rw[ad (ai z h0)];exact z) λb' xs z=>by rw[ad (ai z h0)];exact z
end
section
variable{X:Cx}{EC:Jw->Option Jy->Hp->Prop}{C:Jy}{bm:Jn}{k:Nat}{ps:Jr}{sp:Sp}{x:Str}{np cpos pos:Pos}{e:Jz}{es:List Jz}{ta:TA}
def DB(sp:Sp)(C:Jy)(EC:Jw->Option Jy->Hp->Prop)(ta:TA):TS:=λ_ σ H=>ta σ H λvs H1=>vs.length<=sizeLine/\∀ea t,H1 ea=none->H1 t=none->t≠ea ->
 sp (.ref ea::vs) (upd H1 ea (exN ea C t none)) (λv H2=>v=.non/\∃dc,H2 ea=some (exN ea C t dc)/\EC (.ref C) dc (del H2 ea)) E0
end
open PySem PySem.Spec PyProof.Rows PySem.W
structure MFnX(P:Jt)(w:Jx)(K:W.Frag)(mg:Ji)(base:JB)(k:Nat)(C:Jy)(m:Str)(ps:Jr)(sp:Sp):Prop where
 cl:Cls K C
 ex:∃f fd,FnOk P w K mg base (CXr P w) k f fd ps sp/\Meth K C m f/\Binds K fd ps []
section
variable{X:Cx}{k:Nat}{C:Jy}{m x:Str}{p pos apos:Pos}{o e:Jz}{es:List Jz}{ps:Jr}{sp:Sp}{t:TA}{ta:TE}{E:XK}
theorem vp{pl:Sem Bool}(F:MFnX X.prog X.w X.K X.mg X.base k C m ps sp)(hx:fN (CXr X.prog X.w) X E)(hr:Room k X.A)(he:QE X o ta)(ha:QA X (e::es) t)(hs:(e::es).all aP=true:=by rfl)(ht:eval (.Call (.Attribute o m apos) (e::es) [] pos) X.env=(do
   let ov ←eval o X.env
   standAt apos.atName
   let(f,first) ←holding [ov] (getMethod ov m pl)
   callWith pos f first (backTo pos (starEach (e::es) X.env)) (backToKw pos (keywordEach [] X.env))):=by rfl) :
  QE X (.Call (.Attribute o m apos) (e::es) [] pos) (pG C m sp [] E ta t):=by
 obtain⟨f,fd,G,hm,b⟩:=F.ex;rw[YF,ZD]at hs;exact⟨vn (pl:=pl) he.h F.cl hm G hr b .nil hx ha.h (aJ hs.1) (bK hs.2) ht⟩
def FU(C:Jy)(m:Str)(sp:Sp)(ta:TE)(t:TA):TX:=λσ H Q E=>ta σ H λx H1=>IsM C m x H1 (t σ H1 λvs H2=>sp (x::vs) H2 Q E)
theorem zS{pl:Sem Bool}(F:MFnX X.prog X.w X.K X.mg X.base k C m ps sp)(hr:Room k X.A)(he:QE X.nox o ta)(ha:QA X.nox (e::es) t)(hs:(e::es).all aP=true:=by rfl)(ht:eval (.Call (.Attribute o m apos) (e::es) [] pos) X.env=(do
   let ov ←eval o X.env
   standAt apos.atName
   let(f,first) ←holding [ov] (getMethod ov m pl)
   callWith pos f first (backTo pos (starEach (e::es) X.env)) (backToKw pos (keywordEach [] X.env))):=by rfl) :
  QX X (.Call (.Attribute o m apos) (e::es) [] pos) (FU C m sp ta t):=by
 refine⟨?_⟩;intro JC s σ H Q E I h;obtain⟨f,fd,G,hm,b⟩:=F.ex;rw[YF,ZD]at hs;refine W.methodCall_KW (pl:=pl) (ZK (he.h JC s σ H _ (I.wish _) h) (λu s1 hz9=>?_) λ_ _ z=>False.elim z) ht;obtain⟨y,H1,I1,rx,a,dx,fs,ex,ea,l,q⟩:=hz9;subst ex;obtain rfl:u=Value.ref a:=rx;have I1':=I1.unwish;refine kg I1' ea F.cl hm l ?_;refine W.callWith_K (first:=[.ref a]) (h₀:=X.base) I.ok.mod.kin hm.kp (ZK (ha.h pos JC s1 σ H1 _ I1 q) (λus s2 ⟨vs,H2,I2,r,q2⟩=>⟨I2.kIn,?_⟩) λ_ _ z=>False.elim z) (aJ hs.1) (bK hs.2);have I3:=I2.unwish;have hb:=b s2 (.ref a::us) I3.kIn (by rw[ZR,<-G.len _ _ _ _ q2,Zw,Zw,r.length]);rw[ZR]at hb;refine wpAny_call (codeAny_mono (G.run X.A X.stack s2 H2 ⟨.ref a::us,[]⟩ (.ref a::us) (.ref a::vs) Q E hr I3.env0 hb (.cons rfl r) q2) λr s' hq=>?_);cases r with
 |error e=>exact⟨s2,H2,I3,hq⟩
 |ok fl =>
  cases fl with
  |ret u=>exact I3.after hq
  |next=>exact False.elim hq
  |brk=>exact False.elim hq
  |cont=>exact False.elim hq
end
section
variable{X:Cx}
theorem Gq:QH X [] (λ_ _ _ _ _=>False):=⟨λ_ _ _ _ _ _ _ _ _ _ _ _ _ _ _ _ h=>h.elim⟩
def G8(K:W.Frag)(Ch:Jy)(ts:TS)(th:TH):TH:=λD σ C dc H'=>∃c bm,C=.ref c/\ExC K c bm/\if(Value.ref c::bm).contains (.ref Ch)=true then ts D σ H' else th D σ C dc H'
theorem HI{x:Str}{Ch:Jy}{bmh:Jn}{b0:JA}{suite:List JA}{ts:TS}{np pos:Pos}{rest:List ExceptHandler}{th:TH}(cl:ExC X.K Ch bmh)(hm:X.mg x=some (.ref Ch))(hs:∀e,QB (X.exc e) (b0::suite) ts)(hrest:QH X rest th)(hg:Gl X x:=by rfl)(hdb:(x==("__debug__":Str))=false:=by decide):QH X (.ExceptHandler (some (.Name x np)) none (b0::suite) pos::rest) (G8 X.K Ch ts th):=by
 refine⟨?_⟩;rintro JC s0 H0 σ D ea t C B H' dc s' I0 F fly hd ⟨c,bm,rfl,ec,q⟩;have I:=F.inv I0;refine wpAny_handleBy_cons (codeAny_handlers_test ?_) nofun;refine gB (X:=X.exc (.ref ea)) (I.exc _) hg hm ?_ hdb;obtain⟨oe,he,hcl⟩:=fly.there;refine mO ec cl I.kIn he hcl ?_;cases hc:(Value.ref c::bm).contains (.ref Ch)with
 |true =>
  rw[hc,Jg rfl]at q;refine codeAny_handlers_suite ?_;obtain⟨f1,f2,f3,f4⟩:=fly;refine ik f1 f3 f4.at hd λh6 k1 k2 k3 up6 hd6=>?_;have F6:=F.move (tk:=s'.toks) I0 k1 up6;refine ZK ((hs (.ref ea)).h JC _ _ _ _ ((F6.inv I0).exc _) q) (λf s8 sp=>?_) (λ_ _ z=>False.elim z);cases f with
  |next =>obtain⟨σ2,H2,I8,q8⟩:=sp;exact⟨_,H2,I8.unexc I0.ok,q8⟩
  |brk =>obtain⟨σ2,H2,I8,q8⟩:=sp;exact⟨_,H2,I8.unexc I0.ok,q8⟩
  |cont =>obtain⟨σ2,H2,I8,q8⟩:=sp;exact⟨_,H2,I8.unexc I0.ok,q8⟩
  |ret u =>obtain⟨v,σ2,H2,I8,r8,q8⟩:=sp;exact⟨v,_,H2,I8.unexc I0.ok,r8,q8⟩
 |false =>rw[hc,Jf Zi]at q;exact hrest.h JC s0 H0 σ D ea t _ B H' dc _ I0 F fly hd q
end
def exD(ea c:Jy)(dc:Option Jy):HO:=.ext λh=>∃oe,h.get? ea=some oe/\oe.cls=.ref c/\oe.dict=dc/\notCls oe=true
theorem Fl.trackD{X:Cx}{JC:Jj}{σ:St}{H0 H':Hp}{s0 s':Ju}{B:JB}{ea t c:Jy}{dc:Option Jy}(F:Fl X H0 H' s0 s' B)(I0:Inv X JC σ H0 s0)(fly:Heap.FlyingW B X.stack ea (.ref c) (.ref t) s'.heap)(hd:∃oe,s'.heap.get? ea=some oe/\oe.cls=.ref c/\oe.dict=dc/\notCls oe=true) :
  H' ea=none/\Inv X JC σ (upd H' ea (exD ea c dc)) s':=by
 have I:=F.inv I0;obtain⟨oe,vs,he,hc,hf,_⟩:=fly.first;have nfr:ea∉frs X.stack:=λhm=>by obtain⟨_,o',ho',hd'⟩:=I.stack.mem hm;have e:s'.heap.get? ea=some o':=ho';rw[he]at e;cases e;exact hd' vs hf
 have hB:B.get? ea=none:=fly.2.1;have hn:H' ea=none:=by
  cases q:H' ea with
  |none=>rfl
  |some u =>have:=F.kb ea oe nfr (.inl ⟨u,q⟩) he;rw[hB]at this;cases this
 have h0:s0.heap.get? ea=none:=by
  cases q:s0.heap.get? ea with
  |none=>rfl
  |some o0 =>have:=F.kb ea oe nfr (.inr ⟨o0,q⟩) he;rw[hB]at this;cases this
 have ne0:∀b o,s0.heap.get? b=some o->b≠ea:=λb o q z=>by rw[z,h0]at q;cases q
 have neH:∀b u,H' b=some u->b≠ea:=λb u q z=>by rw[z,hn]at q;cases q
 refine⟨hn,⟨I.ok,I.os,I.bare,⟨I.base.keep,I.base.slot,λb o q n hx=>?_,I.base.there,λb xs q=>?_,λb o u q=>?_,λb ps q=>?_⟩,I.loc,I.cell,?_,λx c' q=>?_,λp hp=>?_,λb u q=>?_,I.len⟩⟩
 ·obtain⟨o',q'⟩:=I0.base.there b o q hx;rw[ad (ne0 b o' q')];exact I.base.free b o q n hx
 ·have:=I.base.tups b xs q;rw[ad (neH _ _ this)];exact this
 ·have:=I.base.frzs b o u q;rw[ad (neH _ _ this)];exact this
 ·obtain⟨more,this⟩:=I.base.tbls b ps q;exact⟨more,by rw[ad (neH _ _ this)];exact this⟩
 ·obtain⟨m,⟨o,_,_,ho,_⟩,_⟩:=I0.loc;rw[ad (ne0 _ o ho)];exact I.free
 ·obtain⟨v,o,ho,_⟩:=I0.cell x c' q;rw[ad (ne0 _ o ho)];exact I.freeC x c' q
 ·obtain⟨e,n,ne,nf,d⟩:=I.pin p hp;refine⟨e,?_,ne,nf,d⟩;rw[ad (ne0 _ _ (I0.pin p hp).1)];exact n
 ·by_cases hb:b=ea
  ·subst hb;rw[ac]at q;cases q;obtain⟨o1,a1,a2,a3,a4⟩:=hd;exact⟨⟨o1,a1,a2,a3,a4⟩,⟨o1,a1⟩,λh1 h2 ⟨o2,b1,b2,b3,b4⟩ k=>⟨o2,k o2 b1,b2,b3,b4⟩⟩
  ·rw[ad hb]at q;refine(I.hok b u q).stay (λ_ _ _ z=>z) (λd z=>?_) λd xs z=>?_
   ·rw[ad (neH _ _ z)];exact z
   ·rw[ad (neH _ _ z)];exact z
def HU(K:W.Frag)(i:Nat)(Ch:Jy)(ts:TS):TH:=λD σ C dc H'=>∃c bm,C=.ref c/\ExC K c bm/\(Value.ref c::bm).contains (.ref Ch)=true/\∀ea,H' ea=none ->
 ts { nx:=λσ2 H2=>D.nx (σ2.set i none) H2,rt:=D.rt,bk:=λσ2 H2=>D.bk (σ2.set i none) H2,ct:=λσ2 H2=>D.ct (σ2.set i none) H2 } (σ.set i (some (.ref ea))) (upd H' ea (exD ea c dc))
section
variable{X:Cx}
theorem Gp{i:Nat}{x n:Str}{Ch:Jy}{bmh:Jn}{b0:JA}{suite:List JA}{ts:TS}{np pos:Pos}{rest:List ExceptHandler}(hN:X.N.Nodup)(cl:ExC X.K Ch bmh)(hm:X.mg x=some (.ref Ch))(hs:∀e,QB (X.exc e) (b0::suite) ts)(hi:X.N[i]?=some n:=by rfl)(hl:X.env.kindOf n=some .local:=by rfl)(hg:Gl X x:=by rfl)(hdb:(x==("__debug__":Str))=false:=by decide) :
  QH X (.ExceptHandler (some (.Name x np)) (some n) (b0::suite) pos::rest) (HU X.K i Ch ts):=by
 refine⟨?_⟩;rintro JC s0 H0 σ D ea t C B H' dc s' I0 F fly hd ⟨c,bm,rfl,ec,hc,q⟩;have I:=F.inv I0;refine wpAny_handleBy_cons (codeAny_handlers_test ?_) nofun;refine gB (X:=X.exc (.ref ea)) (I.exc _) hg hm ?_ hdb;obtain⟨oe,he,hcl⟩:=fly.there;refine mO ec cl I.kIn he hcl ?_;rw[hc];refine codeAny_handlers_suite_as ?_;obtain⟨f1,f2,f3,f4⟩:=fly;refine ik f1 f3 f4.at hd λh6 k1 k2 k3 up6 hd6=>?_;have fly6:Heap.FlyingW B X.stack ea (.ref c) (.ref t) h6:=⟨k1,f2,k2,k3⟩
 have F6:=F.move (tk:=s'.toks) I0 fly6.1 up6;have hx6:∃oe,h6.get? ea=some oe/\oe.cls=.ref c/\oe.dict=dc/\notCls oe=true:=by obtain⟨oe,vs,z1,z2,z3,_⟩:=fly6.first;obtain⟨o2,y1,y2⟩:=hd6;cases Zb (z1.symm.trans y1);exact⟨oe,z1,z2,y2,by unfold notCls;rw[z3]⟩
 obtain⟨hn,I6⟩:=F6.trackD I0 fly6 hx6;refine kL I6 hN hi (.inl hl) (v:=.ref ea) (u:=.ref ea) rfl (λs7 I7=>?_) (.inr hl);refine ZK ((hs (.ref ea)).h JC s7 _ _ _ (I7.exc _) (q ea hn)) (λf s8 sp=>?_) (λ_ _ z=>False.elim z);cases f with
 |next =>obtain⟨σ2,H2,I8,q8⟩:=sp;exact jd (I8.unexc I0.ok) hN hi hl λs9 I9=>⟨_,H2,I9,q8⟩
 |brk =>obtain⟨σ2,H2,I8,q8⟩:=sp;exact jd (I8.unexc I0.ok) hN hi hl λs9 I9=>⟨_,H2,I9,q8⟩
 |cont =>obtain⟨σ2,H2,I8,q8⟩:=sp;exact jd (I8.unexc I0.ok) hN hi hl λs9 I9=>⟨_,H2,I9,q8⟩
 |ret u =>obtain⟨v,σ2,H2,I8,r8,q8⟩:=sp;exact jd (I8.unexc I0.ok) hN hi hl λs9 I9=>⟨v,_,H2,I9,r8,q8⟩
end
open PySem PySem.Spec PyProof.Rows PySem.W
section
variable{K:W.Frag}{prog:Jt}{w:Jx}{A:Jv}{E:Jh}{h:JB}{g:Array GenState}{d:Drawn}{t:Nat}{os:OsState}{x D:Jy}{ox:Obj}{od:Option Obj}
theorem oy{tk:Tok}{Q:PySem.Fin->Ju->Prop}(X:K.In h)(I:InstAt h x ox D od)(ha:findIn K (.ref D) "__class__" = some (some (.builtin "object.__class__")))(hm:mroIn K D (.type "object")=some true)(hq:Q (.done (.ret (.ref D))) ⟨h,g,d,t,os⟩):wpAny (model prog w) A (Builtin.«object.__getattribute__» ⟨[.ref x,.str "__class__" tk],[]⟩) Q E ⟨h,g,d,t,os⟩:=by
 have hT5:(⟨h,g,d,t,os⟩:Ju).TypeIs (.builtin "object.__class__") "getset_descriptor":=F.typeOf_object_class;have L0:=I.type (M:=model prog w);have L3:=looks_findIn (M:=model prog w) X ha;have f5:=F.typeOf_object_class;have f6:=F.slot_gs_get.lookup;have f7:=F.slot_gs_set.lookup
 repeat(any_goals(first|assumption|with_reducible refine L0.at ?_|with_reducible refine L3.at ?_|wp_step))
 refine class_get (s:=⟨h,g,d,t,os⟩) X I hm ?_
 repeat(any_goals(first|assumption|wp_step))
theorem ow{M:Model}{nv:Jw}{Q:Unit->Ju->Prop}(X:K.In h)(I:InstAt h x ox D od)(hb:mroIn K D (.type "BaseException")=some true)(hq:Q () ⟨h,g,d,t,os⟩) :
  wpAny M A (checkBuiltinCall "BaseException.__getattribute__" ⟨[.ref x,nv],[]⟩) Q E ⟨h,g,d,t,os⟩:=by
 have hk:builtinKind "BaseException.__getattribute__" = some .slot:=by decide
 have hs:splitId "BaseException.__getattribute__" = some ("BaseException","__getattribute__"):=by decide
 have ao:=F.args_bexc_ga (.ref x) nv;have L0:=I.type (M:=M);have L1:=looks_mroIn (M:=M) X hb;simp only[checkBuiltinCall,hk,hs];refine z0 ?_;unfold isInstance
 repeat(first|with_reducible refine L0.at ?_|with_reducible refine L1.at ?_|wp_step)
 exact hq
theorem wj{Q:Jl->Ju->Prop}(X:K.In h)(I:InstAt h x ox D od)(hga:findIn K (.ref D) "__getattribute__" = some (some (.builtin "BaseException.__getattribute__")))(hgh:findIn K (.ref D) "__getattr__" = some none)(ha:findIn K (.ref D) "__class__" = some (some (.builtin "object.__class__")))(hb:mroIn K D (.type "BaseException")=some true)(hm:mroIn K D (.type "object")=some true)(hq:Q (some (.ref D)) ⟨h,g,d,t+1,os⟩) :
  wpAny (model prog w) A (getAttr? (.ref x) "__class__") Q E ⟨h,g,d,t,os⟩:=by
 have L0:=I.type (M:=model prog w);have L1:=looks_findIn (M:=model prog w) X hga;have L2:=looks_findIn (M:=model prog w) X hgh;have f3:=F.excAttr_ValueError.ga.bind (.ref x);have ne:(Value.builtin "BaseException.__getattribute__" == Value.builtin "object.__getattribute__")=false:=by decide
 have ne1:(onTheHeap (Value.ref D)&&Value.builtin "BaseException.__getattribute__" == Value.builtin "object.__getattribute__")=false:=by rw[ne];rfl
 have ne2:(false&&onTheHeap (Value.builtin "BaseException.__getattribute__"))=false:=rfl;unfold getAttr? getAttrBy?
 repeat(any_goals(first|assumption|with_reducible refine L0.at ?_|with_reducible refine L1.at ?_|with_reducible refine L2.at ?_|wp_step))
 refine codeAny_call_builtin F.excAttr_ValueError.ga.plain F.entry_bexc_ga (ow X I hb (oy X I ha hm ?_))
 repeat(any_goals(first|assumption|wp_step))
theorem yg{tk:Tok}{name:Str}{v:Jw}{Q:PySem.Fin->Ju->Prop}(X:K.In h)(I:InstAt h x ox D od)(hf:findObj K D od name=some (.value v))(hq:Q (.done (.ret v)) ⟨h,g,d,t,os⟩):wpAny (model prog w) A (Builtin.«object.__getattribute__» ⟨[.ref x,.str name tk],[]⟩) Q E ⟨h,g,d,t,os⟩:=by have L0:=I.type (M:=model prog w);have L3:=looks_find (M:=model prog w) X I hf;refine z0 (z6 (z0 (z6 (z0 (L0.at (z0 (L3.at ?_)))))));exact z6 hq
theorem At{name:Str}{v:Jw}{expr:Bool}{Q:Jh}(X:K.In h)(I:InstAt h x ox D od)(hga:findIn K (.ref D) "__getattribute__" = some (some (.builtin "BaseException.__getattribute__")))(hgh:findIn K (.ref D) "__getattr__" = some none)(hb:mroIn K D (.type "BaseException")=some true)(hf:findObj K D od name=some (.value v))(hv:handedIn v=true)(hq:Q v ⟨h,g,d,t+1,os⟩) :
  wpAny (model prog w) A (getAttr (.ref x) name expr) Q E ⟨h,g,d,t,os⟩:=by
 have L0:=I.type (M:=model prog w);have L1:=looks_findIn (M:=model prog w) X hga;have L2:=looks_findIn (M:=model prog w) X hgh;have f3:=F.excAttr_ValueError.ga.bind (.ref x);have hx0:(expr&&onTheHeap (Value.builtin "BaseException.__getattribute__"))=false:=by cases expr<;>rfl
 have ne:(Value.builtin "BaseException.__getattribute__" == Value.builtin "object.__getattribute__")=false:=by decide
 have ne1:(onTheHeap (Value.ref D)&&Value.builtin "BaseException.__getattribute__" == Value.builtin "object.__getattribute__")=false:=by rw[ne];rfl
 have hh:=handedOut_of hv;unfold getAttr getAttrBy
 repeat(any_goals(first|assumption|with_reducible refine L0.at ?_|with_reducible refine L1.at ?_|with_reducible refine L2.at ?_|wp_step))
 refine codeAny_call_builtin F.excAttr_ValueError.ga.plain F.entry_bexc_ga (ow X I hb (yg X I hf ?_))
 repeat(any_goals(first|assumption|wp_step))
end
theorem yA{K:W.Frag}{x c:Jy}{ox:Obj}{od:Option Obj}(k:ExK K c):KitX K (.ref x) (.ref c) (λh=>InstAt h x ox c od) where
 ty:=λ_ _ _ I=>I.type
 it:=λ_ _ X _=>by
  obtain⟨cd,hc⟩:=Zh.mp k.hc;unfold clsIn at hc;split at hc
  ·rename_i ho;intro A' Q' E' s' kp q;unfold isType loadHead;exact z0 (wpAny_loadPart (kp _ _ (X _ _ ho)) (z6 q))
  ·cases hc
 ne:=λh tp dd its n sl X htp=>by
  obtain⟨cd,hc⟩:=Zh.mp k.hc;refine YQ.mpr λq=>?_;have e:c=tp:=Value.ref.inj (ZO.mp q);cases e;unfold clsIn at hc;split at hc
  ·rename_i ho;exact nomatch((X _ _ ho).symm.trans htp)
  ·cases hc
 ca:=fun{_ _ _ _ _ s} X I kq=>by obtain⟨hp,g,d,tt,os⟩:=s;exact wj X I k.hga k.hgh k.ha k.hb k.hm kq
def DR(H:Hp):Option Jy->Prop
 |none=>True
 |some d=>∃fs,H d=some (.xd fs)
section
variable{X:Cx}{JC:Jj}{σ:St}{H:Hp}{s:Ju}
theorem qO{a c:Jy}{dc:Option Jy}(I:Inv X JC σ H s)(ha:H a=some (exD a c dc))(hd:DR H dc):∃oe od,InstAt s.heap a oe c od/\∀d,dc=some d->∃o,od=some o/\s.heap.get? d=some o:=by
 obtain⟨⟨oe,h1,h2,h3,h4⟩,_⟩:=(show ObjOk X.prog X.w H s.heap a (exD a c dc)from I.hok a _ ha)
 cases dc with
 |none=>exact⟨oe,none,⟨h1,h2,h4,by rw[h3];exact True.intro⟩,λd z=>nomatch z⟩
 |some d =>obtain⟨fs,hf⟩:=hd;obtain⟨o,ho⟩:=gG (I.hok d _ hf);exact⟨oe,some o,⟨h1,h2,h4,by rw[h3];exact ho⟩,λd' z=>by cases z;exact⟨o,rfl,ho⟩⟩
def G6(K:W.Frag)(ta:TE)(f:Str):TE:=λσ H Q=>ta σ H λx H1=>∃a c d fs v,x=.ref a/\H1 a=some (exD a c (some d))/\H1 d=some (.xd fs)/\ExK K c/\hasDictIn K c=true/\NoAttr K c f/\fs.lookup f=some v/\Q v H1
theorem Fv{e:Jz}{f:Str}{pos:Pos}{ta:TE}(he:QE X e ta)(hb:attributeBase e f X.env (eval e X.env)=eval e X.env:=by rfl):QE X (.Attribute e f pos) (G6 X.K ta f):=by
 refine⟨?_⟩;intro JC s σ H Q I h;refine ux hb (thn (he.h JC s σ H _ I h) λu s1 hz9=>?_);obtain⟨x,H1,I1,rx,a,c,d,fs,v,ex,ea,ed,k,hh,n,l,q⟩:=hz9;subst ex;obtain rfl:u=Value.ref a:=rx;obtain⟨oe,od,ia,hod⟩:=qO I1 ea ⟨fs,ed⟩;obtain⟨o,rfl,ho⟩:=hod d rfl;obtain⟨mA,hn,hr⟩:=(show ObjOk X.prog X.w H1 s1.heap d (.xd fs)from I1.hok d _ ed)
 obtain⟨o2,ho2,hl⟩:=qW hn;cases Zb (ho.symm.trans ho2);obtain⟨u',hu,ru⟩:=RelO.some_of (v:=v) (o:=mA f) (by rw[<-l];exact hr f);obtain⟨hp,g,dr,tk,os⟩:=s1;exact At I1.kIn ia k.hga k.hgh k.hb (findObj_own hh n rfl (by rw[hl,hu])) (qS ru) ⟨v,H1,I1.tok (tk+1),ru,q⟩
end
open PySem PySem.Spec PyProof.Rows PySem.W
def Ce(X:Cx)(B:JB)(ea:Jy)(C:Jw)(t:Jy)(h:JB):Prop :=
 (B.StaysIn h/\B.get? ea=none/\h.FunFrames B X.stack/\∃oe,h.get? ea=some oe/\oe.cls=C/\oe.data=.fields #[.ref t,.none,.none,.none,.bool false,.none]) \/
 Heap.FlyingW B X.stack ea C (.ref t) h\/Heap.HeldW B X.stack ea C (.ref t) X.env.locals h
def vK(X:Cx)(E:XK)(ea:Jy)(s':Ju):Prop:=∃(JC:Jj) (σ:St) (H0 H':Hp) (s0:Ju) (B:JB) (t:Jy) (C:Jw) (vs:Jn) (dc:Option Jy),
 Inv X JC σ H0 s0/\Fl X H0 H' s0 s' B/\Ce X B ea C t s'.heap/\s'.heap.TupAt t vs/\B.get? t=none/\dY s'.heap ea dc/\E C dc H'
section
variable{M:Model}{A:Jv}{E:Jh}{s:Ju}{base:JB}{l:List Env}{L e:Jy}
theorem yh{cls a0 fl:Jw}{dc:Option Jy}{Q:Unit->Ju->Prop}(kb:base.StaysIn s.heap)(ff:s.heap.FunFrames base l)(tr:s.heap.TracedAtW base e cls a0 fl)(dd:dY s.heap e dc)(k:∀h',base.StaysIn h'->h'.FunFrames base l->h'.TracedAtW base e cls a0 (rawInt L)->s.heap.UpToSlots h'->dY h' e dc->Q () { s with heap:=h' }):wpAny M A (setFlight (.ref e) (some L)) Q E s:=by
 obtain⟨oe,vs,T,oT,ts,he,hc,dt,v1,nT,ne,hT,dT,t3⟩:=tr;have z3:3<ts.size:=(Ys.mp t3).1;have oth:∀b,b≠T->(s.heap.update T (Obj.mapFields (·.setIfInBounds 3 ((some L:Option Jy).elim Value.none λf=>rawInt f)))).get? b=s.heap.get? b:=λb n=>Yg _ _ (Zs n);have nrec:∀b o,s.heap.get? b=some o->(∀ws,o.data≠.fields ws)->b≠T:=λb o q hn z=>by subst z;cases Zb (hT.symm.trans q);exact hn ts dT
 unfold setFlight;refine z0 (ZV he dt v1 ?_);rw[Jg (by simp:(Value.ref T != Value.none)=true)];refine YJ hT dT z3 (k _ (λb o q=>(oth b λz=>nomatch((z▸q).symm.trans nT)).trans (kb b o q)) (ff.of_keeps λb o q hn=>⟨o,(oth b (nrec b o q hn)).trans q,rfl⟩) ?_ (λb o q hn=>⟨o.slots,(oth b (nrec b o q hn)).trans q⟩) ?_)
 ·exact⟨oe,vs,T,_,_,(oth e (Zs ne)).trans he,hc,dt,v1,nT,ne,Yk _ hT (Obj.isFreed_of_fields (Yb dT _)),Yb dT _,by simp[z3]⟩
 ·obtain⟨o,q,d⟩:=dd;exact⟨o,(oth e (Zs ne)).trans q,d⟩
end
section
variable{X:Cx}{E:XK}{ea:Jy}{s':Ju}{EE:Jh}
theorem nW{Q:Unit->Ju->Prop}(hst:X.stack=X.env::X.outer)(hfr:X.env.frame=some X.env.locals)(x:vK X E ea s')(k:∀ h',(∃ (JC:Jj) (σ:St) (H0 H':Hp) (s0:Ju) (B:JB) (t:Jy) (C:Jw) (vs:Jn) (dc:Option Jy),
   Inv X JC σ H0 s0/\Fl X H0 H' s0 { s' with heap:=h' } B/\Heap.HeldW B X.stack ea C (.ref t) X.env.locals h'/\h'.TupAt t vs/\B.get? t=none/\dY h' ea dc/\E C dc H')->Q () { s' with heap:=h' }) :
  wpAny (model X.prog X.w) X.A (noteFrame (.ref ea) X.env) Q EE s':=by
 obtain⟨JC,σ,H0,H',s0,B,t,C,vs,dc,I0,F,st,tup,hBt,dd,q⟩:=x;have fr:X.A.frames=some (X.env::X.outer):=by rw[<-hst];exact I0.ok.frames
 rcases st with⟨f1,f2,f3,oe,he,rfl,hd⟩|fly|held
 ·unfold noteFrame;simp only[hfr];refine z0 (ZV he hd (show _=some Value.none from rfl) ?_);rw[Jf (by decide)];rw[hst]at f3;refine mS (a0:=.ref t) fr f3 hfr he f1 f2 hd (by simp) rfl λh1 nt dd1=>?_;obtain⟨n1,n2,n3,n4⟩:=nt;rw[<-hst]at n2;obtain⟨o9,q9,d9⟩:=dd;cases Zb (he.symm.trans q9);rw[d9]at dd1;exact k h1 ⟨JC,σ,H0,H',s0,B,t,_,vs,dc,I0,F.move (tk:=s'.toks) I0 n1 n4,⟨n1,f2,n2,n3⟩,tup.of_slots n4,hBt,dd1,q⟩
 ·rw[hst]at fly;refine oQ fr hfr fly dd λh1 held up dd1=>?_;rw[<-hst]at held;exact k h1 ⟨JC,σ,H0,H',s0,B,t,C,vs,dc,I0,F.move (tk:=s'.toks) I0 held.1 up,held,tup.of_slots up,hBt,dd1,q⟩
 ·exact wpAny_noteFrame_againW hfr held.2.2.2 (k s'.heap ⟨JC,σ,H0,H',s0,B,t,C,vs,dc,I0,F,held,tup,hBt,dd,q⟩)
def Mid(X:Cx)(E:XK):Jh:=λe s'=>∃ea,e=.ref ea/\vK X E ea s'
theorem pk(hst:X.stack=X.env::X.outer)(hfr:X.env.frame=some X.env.locals):PassesOwn (model X.prog X.w) X.A X.env (Mid X E):=by rintro e s' ⟨ea,rfl,x⟩;refine nW hst hfr x ?_;rintro h1 ⟨JC,σ,H0,H',s0,B,t,C,vs,dc,I0,F,held,tup,hBt,dd,q⟩;obtain⟨f1,f2,f3,f4⟩:=held;obtain⟨oe,us,T,oT,ts,he,hc,dt,v1,nT,ne,hT,dT,t3⟩:=id f4;unfold cameBackBy;refine z0 (ZV he dt v1 ?_);rw[Jf (by simp)];rw[hfr];refine yh (s:={ s' with heap:=h1 }) f1 f3 f4 dd λh2 k1 k2 k3 up dd2=>?_;exact⟨ea,rfl,JC,σ,H0,H',s0,B,t,C,vs,dc,I0,F.move (tk:=s'.toks) I0 k1 up,.inr (.inr ⟨k1,f2,k2,k3⟩),tup.of_slots up,hBt,dd2,q⟩
end
def ir(X:Cx)(E:XK):Prop:=∀ea s',vK X E ea s'->X.xe (.ref ea) s'
theorem mT{X:Cx}{E:XK}:ir (X.wish (Mid X E)) E:=by rintro ea s' ⟨JC,σ,H0,H',s0,B,t,C,vs,dc,I0,F,st,r⟩;exact⟨ea,rfl,JC,σ,H0,H',s0,B,t,C,vs,dc,I0.unwish,⟨F.os,F.bare,F.un,F.hok,F.kb⟩,st,r⟩
section
variable{P:Jt}{w:Jx}{K:W.Frag}{mg:Ji}{base:JB}{N:Jr}{qual:Str}{scope:Scope}{f:Jy}{cd:Jw}{A:Jv}{outer:List Env}{s:Ju}{H:Hp}{E:XK}
theorem dE:ir (fA (CXr P w) P w K mg base N qual scope f cd A outer s H E) E:=by
 intro ea s' x;show wpAny (model P w) (A.deeper (envOfC qual scope s.heap.objs.size f cd)) (leaving (envOfC qual scope s.heap.objs.size f cd) (.ref ea)) _ _ _;unfold leaving;refine z0 (nW (X:=fA (CXr P w) P w K mg base N qual scope f cd A outer s H E) rfl rfl x ?_);rintro h1 ⟨JC,σ,H0,H',s0,B,t,C,vs,dc,I,F,held,tup,hBt,dd,q⟩;obtain⟨f1,f2,f3,f4⟩:=held;refine ik (s:={ s' with heap:=h1 }) f1 f3 f4 dd λh2 k1 k2 k3 up dd2=>?_;have F2:=F.move (tk:=s'.toks) I k1 up;have I2:=F2.inv I;have hL:∀b o,s.heap.get? b=some o->b≠s.heap.objs.size:=λb o q=>Zy (Zm q);have nfr:∀b,b∉frs outer->b≠s.heap.objs.size->b∉frs (envOfC qual scope s.heap.objs.size f cd::outer):=λb h1 h2 hm=>by
  rcases Zj.mp (I.stkSub b hm)with z|z
  ·exact h2 z
  ·exact h1 z
 obtain⟨_,_,k2'⟩:=k2;refine⟨ea,t,C,vs,B,H',dc,rfl,I2.os,F2.bare,⟨λb o q n hb _=>?_,λb o q n hb _=>?_,λb o q n _=>?_,λb o q _=>?_,I2.base.tups,I2.base.frzs,I2.base.tbls⟩,F2.hok,⟨k1,f2,k2',k3⟩,tup.of_slots up,hBt,λb o hb ho q=>?_,dd2,q⟩
 ·exact I2.base.keep b o q n hb nofun
 ·exact I2.base.slot b o q n hb nofun
 ·exact I2.base.free b o q n nofun
 ·exact I2.base.there b o q nofun
 ·refine F2.kb b o ?_ ?_ q
  ·rcases ho with⟨u,z⟩|⟨o0,z⟩
   ·exact F2.nf I z
   ·exact nfr b hb (hL b o0 z)
  ·rcases ho with⟨u,z⟩|⟨o0,z⟩
   ·exact .inl ⟨u,z⟩
   ·exact .inr (I.base.there b o0 z nofun)
end
section
variable{X:Cx}{E:XK}
theorem BO(hR:ir X E):fN (CXr X.prog X.w) X E:=λJC σ H s e s' I x=>by obtain⟨ea,t,C,vs,B,H',dc,rfl,os,bare,un,hok,fly,tup,hBt,kb,dd,q⟩:=x;exact hR ea s' ⟨JC,σ,H,H',s,B,t,C,vs,dc,I,⟨os,bare,un,hok,kb⟩,.inr (.inl fly),tup,hBt,dd,q⟩
theorem fV(hR:ir X E):xM X (λC H1=>E C none H1):=λJC σ H1 s1 h2 e C vs I hx hE=>by
 obtain⟨t,he,tn,tt⟩:=hx.there;have fr0:∀b,b∈frs X.stack->∃o,s1.heap.get? b=some o:=λb hm=>by obtain⟨_,o',ho',_⟩:=I.stack.mem hm;exact⟨o',ho'⟩
 have hid:∀b o,s1.heap.get? b=some o->b∉frs X.stack->(hideAll s1.heap (frs X.stack)).get? b=some o:=λb o q hb=>hideAll_get _ q hb;have none_of:∀b,s1.heap.get? b=none->(hideAll s1.heap (frs X.stack)).get? b=none:=λb hb=>by
  cases q:(hideAll s1.heap (frs X.stack)).get? b with
  |none=>rfl
  |some o=>exact nomatch hb.symm.trans (of_hideAll _ q)
 have tr:∀b u,H1 b=some u->b∉frs X.stack:=λb u q hm=>by have:=I.stkFree b hm;rw[q]at this;cases this
 have F:Fl X H1 H1 s1 { s1 with heap:=h2 } (hideAll s1.heap (frs X.stack)):=⟨rfl,I.bare,Un.kept hx.keeps,I.hok.kept hx.keeps,λb o hb ho q=>by
  obtain⟨o1,q1⟩:∃o1,s1.heap.get? b=some o1:=by
   rcases ho with⟨u,z⟩|⟨o0,z⟩
   ·exact gG (I.hok b u z)
   ·exact⟨o0,z⟩
  have q2:=hx.keeps _ _ q1;have q':h2.get? b=some o:=q;rw[q']at q2;cases q2;exact hid b o q1 hb⟩
 have ff:h2.FunFrames (hideAll s1.heap (frs X.stack)) X.stack:=(funFrames_hide I.stack λenv he b hb=>Ya.mpr ⟨env,he,hb⟩).of_keeps λb o q _=>⟨o,hx.keeps b o q,rfl⟩
 exact hR e _ ⟨JC,σ,H1,H1,s1,_,t,C,vs,none,I,F,.inl ⟨λb o q=>hx.keeps b o (of_hideAll _ q),none_of e hx.new,ff,_,he,rfl,rfl⟩,⟨_,_,tt,rfl,rfl⟩,none_of t tn,⟨_,he,rfl⟩,hE⟩
end
section
variable{X:Cx}{E:XK}{st:JA}{t:TS}
theorem BV(hR:ir X E)(h:QS (X.wish (Mid X E)) st t):QS X st t:=⟨λJC s σ H D I q=>ZK (h.h JC s σ H D (I.wish _) q) (λ_ _ z=>z.unwish) λ_ _ ⟨ea,e,x⟩=>by rw[e];exact hR ea _ x⟩
end
section
variable{X:Cx}{E:XK}{C:Jy}{bm:Jn}{k:Nat}{ps:Jr}{sp:Sp}{x:Str}{np cpos pos:Pos}{e:Jz}{es:List Jz}{ta:TA}
theorem Bk(hR:ir X E)(hc:X.calm=true)(F:ExI X.prog X.w X.K X.mg X.base k C bm ps sp)(hr:Room (k+1) X.A)(hm:X.mg x=some (.ref C))(ha:QA X (e::es) ta)(hg:Gl X x:=by rfl)(hs:(e::es).all aP=true:=by rfl)(hdb:(x==("__debug__":Str))=false:=by decide) :
  QS X (.Raise (some (.Call (.Name x np) (e::es) [] cpos)) none pos) (DB sp C E ta):=by
 refine⟨?_⟩;intro JC s σ H D I h;obtain⟨fI,fd,xc,G,hb⟩:=F.ex;have hs1:aP e=true:=Yu.mp hs e (by simp);have he:=aJ (es:=es) (env:=X.env) hs1;have hpl:(backTo cpos (starEach es X.env)).any (·.1)=false:=bK (by
  rw[Yu];intro y hy;exact Yu.mp hs y (Zf _ hy))
 have hpl':(backTo cpos (starEach (e::es) X.env)).any (·.1)=false:=by rw[he];show(false ||(backTo cpos (starEach es X.env)).any (·.1))=false;rw[hpl];rfl
 rw[arm_exec_Raise];refine z0 (wpAny_standAt (zo (K:=X.K) (uI xc) (I.ok.hd hc) (z0 (ZK (wpAny_Call_ofName (gB I hg hm ?_ hdb)) (λv s₃ h₃=>z0 (wpAny_standAt (z6 h₃))) λ_ _ x=>x))));unfold callWith;have hA:=ha.h cpos JC s σ H _ I h;rw[he]at hA ⊢;refine z0 (Z1 (Calls.evalArgs_plain (thn hA λus s1 ⟨vs,H1,I1,r1,hz,hE⟩=>z0 (wpAny_standAt ?_))));obtain⟨nm,q,N,bs,hdct,sn,sub,ab,col,dd,k0,k1,k2,k3,k5,mN,oC,hN,hi,T⟩:=oA xc I1.kIn;obtain⟨oI,lI,cI⟩:=xc.fn;obtain⟨hp,g,d,tk,os⟩:=s1;rw[<-he];simp only[hpl'];refine z0 (wpAny_keeperOf_exc oC ?_);refine z0 (vS PySem.F.excBase_ValueError T oC hN hi (I1.kIn _ _ lI) cI (λh' ea mx=>?_) (show us.length<=sizeLine by rw[<-r1.length];exact hz));obtain⟨t,ht,tn,tt⟩:=mx.there;obtain⟨hea0,I2⟩:=I1.excMade mx.keeps mx.new ht;have nt:t≠ea:=λz=>by rw[z,ht]at tt;cases tt
 have ht0:H1 t=none:=by
  cases q:H1 t with
  |none=>rfl
  |some u =>obtain⟨o,z⟩:=gG (I1.hok t u q);exact nomatch tn.symm.trans z
 have hq:=hE ea t hea0 ht0 nt;have hl:(Value.ref ea::us).length=ps.length:=by rw[<-G.len _ _ _ _ hq,Zw,Zw,r1.length]
 refine wpAny_call (codeAny_mono (G.run _ X.stack _ _ ⟨Value.ref ea::us,[]⟩ (Value.ref ea::us) (V.ref ea::vs) _ _ (hr.make C us []) (I2.env0.make C us []) (by have:=hb _ (Value.ref ea::us) I2.kIn (by rw[ZR];exact hl);rw[ZR]at this;exact this) (.cons rfl r1) hq) λr s' hq'=>?_);cases r with
 |error e'=>exact False.elim hq'
 |ok fl =>
  cases fl with
  |next=>exact False.elim hq'
  |brk=>exact False.elim hq'
  |cont=>exact False.elim hq'
  |ret u =>
   obtain⟨v,H',os',bare,un,hok,r,rfl,dc,hd,hE'⟩:=hq';obtain rfl:u=Value.none:=r;have I3:Inv X JC σ H' s':=I2.call' os' un hok bare λ_ z=>nomatch z;have notin:∀b,hp.get? b=none->b∉frs X.stack:=λb hb hm=>by obtain⟨_,o',ho',_⟩:=I1.stack.mem hm;exact nomatch hb.symm.trans ho'
   have hx:s'.heap.get? ea=some { cls:=.ref C,dict:=dc,data:=.fields #[.ref t,.none,.none,.none,.bool false,.none] }:=(show ObjOk X.prog X.w H' s'.heap ea (exN ea C t dc)from I3.hok ea _ hd).1;have ut:upd H1 ea (exN ea C t none) t=none:=by rw[ad nt];exact ht0
   have tt':=un.keep t _ tt ut (notin t tn) nofun;refine⟨rfl,z0 (Z1 (wpAny_point (z6 ⟨ea,_,rfl,I3.kIn,hx,rfl,⟨t,rfl⟩,?_⟩)))⟩;have hy:s'.heap.get? ea=some { cls:=.ref C,dict:=dc,data:=.fields #[.ref t,.none,.none,.none,.bool false,.none] }:=hx;have ne:∀b v,H' b=some v->v≠exN ea C t dc->b≠ea:=λb v q hv z=>by rw[z,hd]at q;exact hv (Zb q).symm
   have ft:=un.free t _ tt ut nofun;have tr2:∀b v,H' b=some v->b≠t:=λb v q z=>by rw[z,ft]at q;cases q
   have tfr:∀b v,H' b=some v->b∉frs X.stack:=λb v q hm=>by have:=I3.stkFree b hm;rw[q]at this;cases this
   have oe:∀b o,hp.get? b=some o->b≠ea:=λb o q z=>by rw[z]at q;exact nomatch mx.new.symm.trans q
   have ot:∀b o,hp.get? b=some o->b≠t:=λb o q z=>by rw[z]at q;exact nomatch tn.symm.trans q
   have un1:Un (frs X.stack) [] H1 (del H' ea) hp s'.heap:=by
    refine⟨λb o q n hb hx'=>un.keep b o (mx.keeps b o q) (by rw[ad (oe b o q)];exact n) hb hx',λb o q n hb hx'=>un.slot b o (mx.keeps b o q) (by rw[ad (oe b o q)];exact n) hb hx',λb o q n hx'=>?_,λb o q hx'=>un.there b o (mx.keeps b o q) hx',λb xs q=>?_,λb o v q=>?_,λb ps' q=>?_⟩
    ·rw[fP (oe b o q)];exact un.free b o (mx.keeps b o q) (by rw[ad (oe b o q)];exact n) hx'
    ·have:=un.tups b xs (by rw[ad (ai q hea0)];exact q);rw[fP (ne _ _ this nofun)];exact this
    ·have:=un.frzs b o v (by rw[ad (ai q hea0)];exact q);rw[fP (ne _ _ this nofun)];exact this
    ·obtain⟨more,this⟩:=un.tbls b ps' (by rw[ad (ai q hea0)];exact q);exact⟨more,by rw[fP (ne _ _ this nofun)];exact this⟩
   have hok1:HOk X.prog X.w (del H' ea) s'.heap:=λb v q=>by obtain⟨hb,q⟩:=yP q;exact(I3.hok b v q).stay (λ_ _ _ z=>z) (λb' z=>by rw[fP (ne _ _ z nofun)];exact z) λb' xs z=>by rw[fP (ne _ _ z nofun)];exact z
   have hid:∀b o,s'.heap.get? b=some o->b≠ea->b≠t->b∉frs X.stack->(hideAll s'.heap (ea::t::frs X.stack)).get? b=some o:=λb o q h1 h2 h3 =>
    hideAll_get _ q λhm=>by
     rcases Zj.mp hm with z|hm
     ·exact h1 z
     rcases Zj.mp hm with z|hm
     ·exact h2 z
     ·exact h3 hm
   have Fx:Fl X H1 (del H' ea) ⟨hp,g,d,tk,os⟩ s' (hideAll s'.heap (ea::t::frs X.stack)):=⟨os',bare,un1,hok1,λb o hb ho q=>by
    rcases ho with⟨v,z⟩|⟨o0,z⟩
    ·obtain⟨hb',z⟩:=yP z;exact hid b o q hb' (tr2 _ _ z) hb
    ·exact hid b o q (oe b o0 z) (ot b o0 z) hb⟩
   exact hR ea s' ⟨JC,σ,H1,del H' ea,_,_,t,.ref C,us,dc,I1,Fx,.inl ⟨λb o q=>of_hideAll _ q,hideAll_none _ Zl,
    funFrames_hide I3.stack λenv he b hb=>Zf _ (Zf _ (Ya.mpr ⟨env,he,hb⟩)),_,hy,rfl,rfl⟩,⟨_,_,tt',rfl,rfl⟩,hideAll_none _ (Zf _ Zl),⟨_,hy,rfl⟩,hE'⟩
end
open PySem PySem.Spec PyProof.Rows PySem.W
theorem nZ{X:Cx}:QCall X (.builtin "isinstance") (λxs H Q=>∃ (x T:V) (u:Jw) (b:Bool),xs=[x,T]/\(∀ v,RelV T v->v=u) /\
  ((∃ t,TyOf X.K H x t/\W.kitOne X.K t u=some b)\/∃ (a c:Jy) (dc:Option Jy),x=.ref a/\H a=some (exD a c dc)/\DR H dc/\ExK X.K c/\W.kitOne X.K (.ref c) u=some b)/\Q (.bl b) H):=by
 refine⟨?_⟩;intro JC s σ H xs us Q I r h;obtain⟨x,T,u,b,rfl,ht,hh,q⟩:=h;obtain⟨v,w',rfl,rx,ry⟩:=iq r;cases ht w' ry;rcases hh with⟨t,ty,e⟩|⟨a,c,dc,rfl,ha,hd,k,e⟩
 ·exact qU I rx ty e λtk=>⟨.bl b,H,I.tok tk,rfl,q⟩
 ·cases rx;obtain⟨oe,od,ia,_⟩:=qO I ha hd;exact Z7 (yA k) I.kIn ia e nofun λtk=>⟨.bl b,H,I.tok tk,rfl,q⟩
open PySem PySem.Spec PyProof.Rows PySem.W
def wK(qual:Str)(params:Arguments)(body:Jz)(scope:Scope)(cl:List (Str×Jy))(pm:Jw)(c:Jy)(ct:Jw):Jp:=kla_fn "<lambda>" qual params body scope cl pm (.ref c) ct
def jH(qual:Str)(params:Arguments)(body:Jz)(scope:Scope)(cl:List (Str×Jy))(pm:Jw)(c:Jy)(ct:Jw):Obj:={ cls:=.type "function",data:=.func (wK qual params body scope cl pm c ct) }
def pZ(a:Jy)(o:Obj):HO:=.ext λh=>h.get? a=some o
def fD(c:Jy)(qual:Str):HO:=.ext λh=>h.CodeRec (.ref c) qual
theorem uM{P:Jt}{w:Jx}{H:Hp}{h:JB}{a:Jy}{o:Obj}(e:h.get? a=some o):ObjOk P w H h a (pZ a o):=⟨e,⟨o,e⟩,λ_ _ x k=>k _ x⟩
theorem CA{P:Jt}{w:Jx}{H:Hp}{h:JB}{c:Jy}{q:Str}(e:h.CodeRec (.ref c) q):ObjOk P w H h c (fD c q):=by obtain⟨c',oc,vs,t,e1,e2,e3,e4⟩:=id e;cases e1;refine⟨e,⟨oc,e2⟩,λh1 h2 x k=>?_⟩;obtain⟨c',oc,vs,t,e1,e2,e3,e4⟩:=id x;cases e1;exact⟨c,oc,vs,t,rfl,k _ e2,e3,e4⟩
def Blt(h:JB)(mg:Ji):Prop:=∃bm ob,mg "__builtins__" = some (.ref bm)/\bm≠builtinsNs/\h.get? bm=some ob/\ob.cls=.type "module"/\ob.dict=some builtinsNs/\ob.data=.plain
section
variable{X:Cx}{JC:Jj}{σ:St}{H:Hp}{s:Ju}
theorem Inv.bltAt(I:Inv X JC σ H s)(B:Blt X.base X.mg){P:Jy}{ps:Jm}(hP:H P=some (.tbl ps)):s.heap.BuiltinsAt X.mg P:=by
 obtain⟨bm,ob,b1,b2,b3,b4,b5,b6⟩:=B;refine⟨bm,ob,b1,b2,λz=>?_,λz=>?_,I.bk _ _ b3,b4,b5,b6⟩
 ·obtain⟨o,es,ep,e,d,_⟩:=I.ok.mod.glob;rw[<-z,b3]at e;cases e;rw[d]at b6;cases b6
 ·have:=(I.bs _ _ b3).2;rw[z,hP]at this;cases this
theorem Inv.grown{h':JB}{P c f:Jy}{ps more:Jm}{oc of':HO}{t':Nat}(I:Inv X JC σ H s)(hP:H P=some (.tbl ps))(k:∀b o,b≠P->s.heap.get? b=some o->h'.get? b=some o)(hc:s.heap.objs.size<=c)(hf:s.heap.objs.size<=f)(hcf:c≠f)(eP:h'.get? P=some { cls:=.none,data:=.fields (ps++more) })(nc:∀H',ObjOk X.prog X.w H' h' c oc)(nf:∀H',ObjOk X.prog X.w H' h' f of') :
  H c=none/\H f=none/\Inv X JC σ (upd (upd (upd H P (.tbl (ps++more))) c oc) f of') { s with heap:=h',toks:=t' }:=by
 have c0:=I.hok.fresh hc;have f0:=I.hok.fresh hf;have nP:∀{b:Jy} {u:HO},H b=some u->(∀qs,u≠.tbl qs)->b≠P:=fun{b u} e n z=>by rw[z,hP]at e;cases e;exact n _ rfl
 have up:∀{b:Jy},b≠P->b≠c->b≠f->upd (upd (upd H P (.tbl (ps++more))) c oc) f of' b=H b:=fun{b} n1 n2 n3=>by rw[ad n3,ad n2,ad n1]
 have old:∀{b:Jy} {o:Obj},s.heap.get? b=some o->b≠c/\b≠f:=fun{b o} e=>⟨Zy (Zz (Zm e) hc),Zy (Zz (Zm e) hf)⟩
 have pcf:P≠c/\P≠f:=by have:=I.hok P _ hP;exact old (show s.heap.get? P=some _ from this)
 refine⟨c0,f0,I.un (t':=t') ⟨λb o e n _ _=>k b o (λz=>by rw[z,hP]at n;cases n) e,λb o e n _ _=>⟨o.slots,k b o (λz=>by rw[z,hP]at n;cases n) e⟩,λb o e n _=>?_,λb o e _=>?_,λb xs e=>?_,λb o u e=>?_,λb qs e=>?_⟩ λb u e=>?_⟩
 ·rw[up (λz=>by rw[z,hP]at n;cases n) (old e).1 (old e).2];exact n
 ·by_cases z:b=P
  ·exact⟨_,z▸eP⟩
  ·exact⟨o,k b o z e⟩
 ·rw[up (nP e λ_ z=>nomatch z) (ai e c0) (ai e f0)];exact e
 ·rw[up (nP e λ_ z=>nomatch z) (ai e c0) (ai e f0)];exact e
 ·by_cases z:b=P
  ·subst z;rw[hP]at e;cases e;exact⟨more,by rw[ad pcf.2,ad pcf.1,ac]⟩
  ·exact⟨#[],by rw[up z (ai e c0) (ai e f0),e];simp⟩
 ·by_cases zf:b=f
  ·subst zf;rw[ac]at e;cases e;exact nf _
  ·rw[ad zf]at e;by_cases zc:b=c
   ·subst zc;rw[ac]at e;cases e;exact nc _
   ·rw[ad zc]at e;by_cases zP:b=P
    ·subst zP;rw[ac]at e;cases e;exact eP
    ·rw[ad zP]at e;refine(I.hok b u e).stay (λb' v hb' q=>k b' v (λz=>?_) q) (λb' z=>by rw[up (nP z λ_ z=>nomatch z) (ai z c0) (ai z f0)];exact z) λb' xs z=>by rw[up (nP z λ_ z=>nomatch z) (ai z c0) (ai z f0)];exact z
     rcases hb' with rfl|hb'
     ·exact zP z
     ·rw[z,hP]at hb';cases hb'
end
def aH(q:Str)(P:Jy)(pos:Pos)(H:Hp):Prop:=∃ps:Jm,H P=some (.tbl ps)/\TriplesOk ps.toList/\(codeAmong pos ps.toList=none\/∃c',codeAmong pos ps.toList=some (.ref c')/\H c'=some (fD c' q))
def SameT(P:Jy)(H H':Hp):Prop:=∀b o,H b=some o->b≠P->H' b=some o
theorem SameT.of{P:Jy}{H H':Hp}(s:Same H H'):SameT P H H':=λb o e _=>s b o e
theorem SameT.trans{P:Jy}{H H' H2:Hp}(s:SameT P H H')(t:SameT P H' H2):SameT P H H2:=λb o e n=>t b o (s b o e n) n
theorem lW{x y:Int}{c:Jw}{a b:Tok}:∀l:Jn,TriplesOk l->TriplesOk (l++[.int x a,.int y b,c])
 | [],_=>trivial
 |.int _ _::.int _ _::_::rest,h=>lW rest h
structure LamOk(P:Jt)(w:Jx)(K:W.Frag)(mg:Ji)(base:JB)(k:Nat)(qual:Str)(body:Jz)(scope:Scope)(x:Str)(sp:Sp):Prop where
 ex:∃N:Jr,FnScope N [x] scope/\(∀vs H Q E,sp vs H Q E->vs.length=1)/\∀(f c':Jy) (A:Jv) (outer:List Env) (s:Ju) (H:Hp) (vs:List V) (Q:VK) (E:XK),Room k (A.deeper (envOfC qual scope s.heap.objs.size f (.ref c')))->sp vs H Q E ->
  ∃t,QE (fA CX0 P w K mg base N qual scope f (.ref c') A outer s H E) body t/\t (start N vs) H Q
open PySem PySem.Spec PyProof.Rows PySem.W
def B8(a:Jy)(tabs:List (Jy×Jy))(H:Hp):Prop:=∀b,H b=none\/(b=a/\∃o xs,H b=some (.frz o (.lst xs)))\/((∃c,(c,b)∈tabs)/\H b=some (.tbl #[]))
theorem AE{P:Jt}{w:Jx}{K:W.Frag}{mg mb:Ji}{k:Nat}{fa a:Jy}{fd:Jp}{x:Str}{sp:Sp}{s:Ju}{vs:Jn}{ns:Jq}{tabs:List (Jy×Jy)}(kx:K.In s.heap)(gx:s.heap.Ns mainGlobals mg)(bx:s.heap.Ns builtinsNs mb)(bb:∀y:Str,y≠"__name__"->mb y=bootBuiltins y)(nl:s.heap.NoLimit)(gn:s.gens=#[])(bl:Blt s.heap mg)(tx:∀q∈tabs,CodeHd s.heap q.1 q.2/\s.heap.get? q.2=some (tabObj #[]))(nt:noTabs K=true)(sa:s.heap.get? a=some { cls:=.type "list",data:=.seq vs.toArray })(si:IntsAre vs ns)(sl:ns.length<=sizeLine)(hr:Room k callerA)(F:∀base:JB,K.In base->base.Ns mainGlobals mg->Blt base mg->(∀q∈tabs,CodeHd base q.1 q.2)->FnOk P w K mg base CX0 k fa fd [x] sp)(bind:∀(s:Ju) (u:Jw),BindsTo s fd ⟨[u],[]⟩ [(x,u)])(go:∀H:Hp,(∀q∈tabs,H q.2=some (.tbl #[]))->SqL K H a (ns.map V.int)->sp [.ref a] H (λv _=>v=.bl true) λ_ _ _=>False) :
  codeAny (model P w) callerA (.call (.ref fa) ⟨[.ref a],[]⟩) (λr s'=>r=.ok (.ret (.bool true))/\OldK s.heap s'.heap/\s'.os=s.os/\AllBare s'.gens) s:=by
 have tabNot:∀{b:Jy} {c:Jy},(c,b)∈tabs->K.lookup b=none:=fun{b c} hm=>by
  cases e:K.lookup b with
  |none=>rfl
  |some o =>have e1:=(kx b o e).symm.trans (tx _ hm).2;cases e1;have:=Yu.mp nt _ (mem_of_lookupK e);cases this
 have aNot:∀{c:Jy},¬(c,a)∈tabs:=fun{c} hm=>by have:=(tx _ hm).2;rw[sa]at this;cases this
 have main:∀H:Hp,B8 a tabs H->(∀q∈tabs,H q.2=some (.tbl #[]))->SqL K H a (ns.map V.int)->HOk P w H s.heap->(H a≠none->K.lookup a=none) ->
   codeAny (model P w) callerA (.call (.ref fa) ⟨[.ref a],[]⟩) (λr s'=>r=.ok (.ret (.bool true))/\OldK s.heap s'.heap/\s'.os=s.os/\AllBare s'.gens) s:=by
  intro H ae ht hS ok ha;have free:∀{b:Jy} {o:Obj},s.heap.get? b=some o->(∀n m,o.data≠.seq n m)->(∀n,o.data≠.fields n)->H b=none:=fun{b o} e n1 n2=>by
   rcases ae b with z|⟨rfl,_⟩|⟨⟨c,hm⟩,_⟩
   ·exact z
   ·rw[sa]at e;cases e;exact absurd rfl (n1 _ _)
   ·rw[(tx _ hm).2]at e;cases e;exact absurd rfl (n2 _)
  have nsB:∀{b:Jy} {m:Ji},s.heap.Ns b m->(jm s.heap H).Ns b m:=fun{b m} ⟨o,es,ep,e,d,r⟩=>⟨o,es,ep,kl e (free e (λ_ _ z=>by rw[d]at z;cases z) λ_ z=>by rw[d]at z;cases z),d,r⟩
  have kB:K.In (jm s.heap H):=λb o e=>kl (kx b o e) (by
   rcases ae b with z|⟨rfl,o',xs,z⟩|⟨⟨c,hm⟩,_⟩
   ·exact z
   ·rw[ha (by rw[z];simp)]at e;cases e
   ·rw[tabNot hm]at e;cases e)
  have bB:Blt (jm s.heap H) mg:=by obtain⟨bm,ob,b1,b2,b3,b4,b5,b6⟩:=bl;exact⟨bm,ob,b1,b2,kl b3 (free b3 (λ_ _ z=>by rw[b6]at z;cases z) λ_ z=>by rw[b6]at z;cases z),b4,b5,b6⟩
  have cB:∀q∈tabs,CodeHd (jm s.heap H) q.1 q.2:=λq hq=>by
   obtain⟨o,ws,file,tf,fl,tg,inF,text,tt,c1,c2,c3,c4⟩:=(tx q hq).1;refine⟨o,ws,file,tf,fl,tg,inF,text,tt,kl c1 ?_,c2,c3,c4⟩;rcases ae q.1 with z|⟨z,_⟩|⟨⟨c,hm⟩,_⟩
   ·exact z
   ·rw[z,sa]at c1;cases c1;injection c2 with c2;exact absurd c2 (by decide)
   ·rw[(tx _ hm).2]at c1;cases c1;cases c2
  have mB:Mod K mg (jm s.heap H):=⟨kB,nsB gx,⟨mb,nsB bx,bb⟩,let⟨mc,n1,n2⟩:=nl;⟨mc,nsB n1,n2⟩⟩
  have env:Env0 P w K mg (jm s.heap H) callerA [] s H:=⟨rfl,mB,λb o e=>CK e,Nat.le_of_eq (yp _ _),trivial,λb hb=>absurd (show b∈([]:List Jy)from hb) (by simp),ok,.of_eq gn⟩
  refine codeAny_mono ((F _ kB (nsB gx) bB cB).run callerA [] s H ⟨[.ref a],[]⟩ [.ref a] [.ref a] _ _ hr env (bind s (.ref a)) (.cons rfl .nil) (go H ht hS)) λr s' h=>?_;cases r with
  |error e=>exact False.elim h
  |ok fl =>
   cases fl with
   |next=>exact False.elim h
   |brk=>exact False.elim h
   |cont=>exact False.elim h
   |ret u =>
    obtain⟨v,H',os,bare,un,ok',rv,hv⟩:=h;obtain rfl:v=.bl true:=hv;obtain rfl:u=Value.bool true:=rv;have each:∀b o,s.heap.get? b=some o->asItWas s.heap s'.heap b o/\∃o',s'.heap.get? b=some o':=λb o e=>by
     rcases ae b with z|⟨rfl,o',xs,z⟩|⟨⟨c,hm⟩,z⟩
     ·have:=un.keep b o e z (by intro q;exact absurd (show b∈([]:List Jy)from q) (by simp)) (by simp);exact⟨.inl this,_,this⟩
     ·obtain⟨e1,_⟩:=ok b _ z;obtain⟨e2,_⟩:=ok' b _ (un.frzs b o' _ z);rw[e]at e1;cases e1;exact⟨.inl e2,_,e2⟩
     ·obtain⟨more,z2⟩:=un.tbls b _ z;have e2:s'.heap.get? b=some { cls:=.none,data:=.fields (#[]++more) }:=ok' b _ z2;have e1:=(tx _ hm).2;rw[e]at e1;cases e1;exact⟨.inr (.inl ⟨(((tx _ hm).1).tab e).isCodeTable,rfl,#[],more,rfl,e2⟩),_,e2⟩
    exact⟨rfl,⟨λb o e=>(each b o e).1,λb o e=>(each b o e).2⟩,os,bare⟩
 have rv:=rh si;have lv:=si.length;have inT:∀b,Decidable (∃c,(c,b)∈tabs):=λb=>Classical.propDecidable _;cases hk:K.lookup a with
 |some o =>
  have e:=kx a o hk;rw[sa]at e;cases e;refine main (λb=>@ite _ (∃c,(c,b)∈tabs) (inT b) (some (.tbl #[])) none) (λb=>?_) (λq hq=>Jg ⟨q.1,hq⟩) (.inr ⟨_,vs.toArray,_,hk,rfl,rfl,rfl,by rw[Zg,lv];exact sl,by simpa using rv⟩) (λb u z=>?_) (λz=>absurd (Jf fun⟨c,hm⟩=>aNot hm) z)
  ·by_cases c:∃c,(c,b)∈tabs
   ·exact .inr (.inr ⟨c,Jg c⟩)
   ·exact .inl (Jf c)
  ·by_cases c:∃c,(c,b)∈tabs
   ·have z':=(Jg c).symm.trans z;cases z';obtain⟨c,hm⟩:=c;exact(tx _ hm).2
   ·have z':=(Jf c).symm.trans z;cases z'
 |none =>
  refine main (λb=>@ite _ (∃c,(c,b)∈tabs) (inT b) (some (.tbl #[])) (if b=a then some (.frz { cls:=.type "list",data:=.seq vs.toArray } (.lst (ns.map V.int)))else none)) (λb=>?_) (λq hq=>Jg ⟨q.1,hq⟩) (.inl (.inr ⟨{ cls:=.type "list",data:=.seq vs.toArray },(Jf fun⟨c,hm⟩=>aNot hm).trans (Jg rfl)⟩)) (λb u z=>?_) (λ_=>hk)
  ·by_cases c:∃c,(c,b)∈tabs
   ·exact .inr (.inr ⟨c,Jg c⟩)
   ·by_cases hb:b=a
    ·exact .inr (.inl ⟨hb,_,_,(Jf c).trans (Jg hb)⟩)
    ·exact .inl ((Jf c).trans (Jf hb))
  ·by_cases c:∃c,(c,b)∈tabs
   ·have z':=(Jg c).symm.trans z;cases z';obtain⟨c,hm⟩:=c;exact(tx _ hm).2
   ·have z':=(Jf c).symm.trans z;by_cases hb:b=a
    ·rw[Jg hb]at z';cases z';subst hb;exact⟨sa,by rw[Ze];exact sl,vs,_,rv,sa⟩
    ·rw[Jf hb]at z';cases z'
theorem Fun.okC{P:Jt}{w:Jx}{K:W.Frag}{mg:Ji}{base:JB}{x qual:Str}{st:JA}{f c:Jy}{fd:Jp}{N ps:Jr}{k:Nat}{sp:Sp}(F:Fun K x qual st f fd)(hc:fd.code=.ref c)(S:FnScope N ps (aj st))(len:∀ vs H Q E,sp vs H Q E->vs.length=ps.length)(body:∀ (A:Jv) (outer:List Env) (s:Ju) (H:Hp) (vs:List V) (Q:VK) (E:XK),Room k (A.deeper (envOfC qual (aj st) s.heap.objs.size f (.ref c)))->sp vs H Q E ->
   ∃ t,QB (fA CX0 P w K mg base N qual (aj st) f (.ref c) A outer s H E).nox (bP st) t/\t { nx:=λ_ H'=>Q .non H',rt:=Q } (start N vs) H):FnOk P w K mg base CX0 (k+1) f fd ps sp:=by
 obtain⟨oc,od,kV,doc,pm,an,cdv,ct,osl,rfl,lk,hcd⟩:=F.ex;obtain rfl:cdv=.ref c:=hc;refine wm lk hcd S len λA outer s H vs Q E hr hs=>?_;obtain⟨t,h,q⟩:=body A outer s H vs Q E hr hs;exact⟨t,h.h.nox,q⟩
open PySem PySem.Spec PyProof.Rows PySem.W
inductive SKey where
 |i (n:Int)|s (t:Str)|bi (b:Bool)(n:Int)
def SKey.at(H:Hp):SKey->V->Prop
 |.i n,v=>v=.int n
 |.s t,v=>v=.str t
 |.bi b n,v=>∃a,v=.ref a/\H a=some (.tup [.bl b,.int n])
section
variable{X:Cx}{JC:Jj}{σ:St}{H:Hp}{s:Ju}{h':JB}
def vN(X:Cx)(JC:Jj)(σ:St)(f:Jy)(sp:Sp):Prop:=∀(s:Ju) (H:Hp) (u:Jw) (v:V) (Q:VK),Inv X JC σ H s->RelV v u->sp [v] H Q E0->codeAny (model X.prog X.w) X.A.in1.in1 (.call (.ref f) ⟨[u],[]⟩) (CR CX0 X.stack X.prog X.w H s Q E0) s
structure SG(X:Cx)(JC:Jj)(σ:St)(H1:Hp)(m:Ji)(kS D:Jy)(e1:Nat)(ks:List SKey)(as:List V)(us:Jn)(e:Nat)(H:Hp)(s:Ju):Prop where
 I:Inv X JC σ H s
 sm:Same H1 H
 fk:bY X JC H kS
 fd:bY X JC H D
 bk:X.base.get? kS=none
 bd:X.base.get? D=none
 hk:s.heap.get? kS=some (seqObj "list" (List.toArray us) e)
 hd:s.heap.get? D=some (seqObj "list" #[] e1)
 ns:s.heap.Ns X.env.locals m
 vals:Vals as us
 keys:∀(i:Nat) (a:V) (k:SKey),as[i]?=some a->ks[i]?=some k->k.at H a
theorem tQ(b:Bool){xs:List V}{us:Jn}(h:Vals xs us):Vals (katRev b xs) (katRev b us):=by
 cases b with
 |false=>exact h
 |true =>
  show Vals xs.reverse us.reverse;induction h with
  |nil=>exact .nil
  |cons r _ ih =>rw[List.reverse_cons,List.reverse_cons];exact ih.append (.cons r .nil)
end
open PySem PySem.Spec PyProof.Rows PySem.W
structure LamScope(x y:Str)(sc:Scope):Prop where
 kind:sc.kind=.function
 co:sc.isCoroutine=false
 gen:sc.isGenerator=false
 lx:sc.names.lookup x=some .local
 ly:sc.names.lookup y=some .free
 nc:∀z∈sc.names,z.2≠.cell
 nf:∀z∈sc.names,z.2=.free->z.1=y
 ne:x≠y
def cxX(CX:CXT)(P:Jt)(w:Jx)(K:W.Frag)(mg:Ji)(base:JB)(N:Jr)(qual:Str)(scope:Scope)(f:Jy)(cd:Jw)(cl:List (Str×Jy))(A:Jv)(outer:List Env)(s:Ju)(H:Hp)(E:XK):Cx where
 prog:=P
 w:=w
 K:=K
 mg:=mg
 base:=base
 A:=A.deeper (envX qual scope s.heap.objs.size f cd cl)
 N:=N
 s₀:=s
 H₀:=H
 env:=envX qual scope s.heap.objs.size f cd cl
 outer:=outer
 stack:=envX qual scope s.heap.objs.size f cd cl::outer
 ex:=[]
 calm:=true
 fn:=λ_=>false
 pn:=[]
 xe:=λe s'=>wpAny (model P w) (A.deeper (envX qual scope s.heap.objs.size f cd cl)) (leaving (envX qual scope s.heap.objs.size f cd cl) e) (λ_ s''=>CX outer H s E e s'') (λe' s''=>CX outer H s E e' s'') s'
theorem wI{CX:CXT}{P:Jt}{w:Jx}{K:W.Frag}{mg:Ji}{base:JB}{x y:Str}{qual:Str}{scope:Scope}{f c:Jy}{cd:Jw}{A:Jv}{outer:List Env}{s:Ju}{H:Hp}{E:XK}{u ku:Jw}{v kv:V}{h1:JB}{tk:Nat}(S:LamScope x y scope)(hd:A.handled=none)(e0:Env0 P w K mg base A outer s H)(r:RelV v u)(kr:RelV kv ku)(hc:s.heap.IsCell c (some ku))(fc:H c=none)(hns:h1.Ns s.heap.objs.size λz=>[(x,u)].reverse.lookup z)(hk:∀b o,s.heap.get? b=some o->h1.get? b=some o) :
  Inv (cxX CX P w K mg base [x,y] qual scope f cd [(y,c)] A outer s H E) [] [some v,some kv] H { s with heap:=h1,toks:=tk }:=by
 have noA:∀b:Jy,b∉(cxX CX P w K mg base [x,y] qual scope f cd [(y,c)] A outer s H E).ex:=λb z=>absurd (show b∈([]:List Jy)from z) (by simp);have lk:∀{z:Str} {d:Jy},([(y,c)]:List (Str×Jy)).lookup z=some d->z=y/\d=c:=fun{z d} h=>by
  rw[ZL]at h;split at h
  ·rename_i e;cases h;exact⟨by simpa using e,rfl⟩
  ·cases h
 have ly:([(y,c)]:List (Str×Jy)).lookup y=some c:=by simp
 have cell1:h1.IsCell c (some ku):=by obtain⟨o,a1,a2⟩:=hc;exact⟨o,hk _ _ a1,a2⟩
 refine⟨⟨e0.mod,S.kind,rfl,rfl,Za _,λz z' d q1 q2=>?_,λz hz=>?_,λz d q _=>(nomatch q),λ_=>hd,Around.frames_deeper e0.frames,.inr ⟨rfl,rfl⟩,λb z=>absurd z (noA b),e0.bs,e0.bsz,λb _ _=>noA b,λb z=>absurd z (noA b),e0.funs,e0.frf⟩,
  rfl,e0.bare,Un.kept hk,⟨_,hns,λi z v' q1 q2 q3=>?_⟩,λz d q=>⟨some ku,by rw[(lk q).2];exact cell1⟩,e0.hok.fresh (Za _),λz d q=>by rw[(lk q).2];exact fc,λp hp=>absurd (show p∈([]:Jj) from hp) (by simp),e0.hok.kept hk,rfl⟩
 ·exact(lk q1).1.trans (lk q2).1.symm
 ·have hz:scope.names.lookup z=some .cell\/scope.names.lookup z=some .free:=hz;rcases hz with hz|hz
  ·exact absurd rfl (S.nc _ (y0 hz))
  ·exact⟨c,by rw[show z=y from S.nf _ (y0 hz) rfl];exact ly⟩
 ·match i,q1,q2 with
  |0,q1,q2 =>cases q1;cases q2;exact⟨u,r,.inl ⟨S.lx,by simp⟩⟩
  |1,q1,q2 =>cases q1;cases q2;exact⟨ku,kr,.inr ⟨.inr S.ly,c,ly,cell1⟩⟩
  |i+2,q1,_=>simp[cxX]at q1
section
variable{X:Cx}{JC:Jj}{σ:St}
theorem AD{k j:Nat}{x y qual:Str}{params:Arguments}{body:Jz}{scope:Scope}{f c c':Jy}{pm ct:Jw}{kv:V}{sp:Sp}(S:LamScope x y scope)(hi:X.N[j]? = some y)(hσ:σ[j]? = some (some kv))(hyc:X.env.scope.names.lookup y=some .cell)(hcy:X.env.cells.lookup y=some c)(hr:Room (k+1) X.A.in1.in1)(hbd:∀ (s:Ju) (u:Jw),BindsTo s (wK qual params body scope [(y,c)] pm c' ct) ⟨[u],[]⟩ [(x,u)])(hbody:∀ (A:Jv) (outer:List Env) (s:Ju) (H:Hp) (v:V) (Q:VK),Room k (A.deeper (envX qual scope s.heap.objs.size f (.ref c') [(y,c)]))->sp [v] H Q E0 ->
   ∃ t,PE (cxX CX0 X.prog X.w X.K X.mg X.base [x,y] qual scope f (.ref c') [(y,c)] A outer s H E0) body t/\t [some v,some kv] H Q) :
  ∀l,vN (wX X l) JC σ f (λvs H Q E=>H f=some (pZ f (jH qual params body scope [(y,c)] pm c' ct))/\H c'=some (fD c' qual)/\sp vs H Q E):=by
 intro l s H u v Q I ru ⟨hf,hc,hsp⟩;have e0:Env0 X.prog X.w X.K X.mg X.base X.A.in1.in1 X.stack s H:=by have e0:=I.env0;exact⟨e0.frames,e0.mod,e0.bs,e0.bsz,e0.funs,e0.frf,e0.hok,e0.bare⟩
 have lim:s.heap.NoLimit:=e0.mod.nolimit.keeps λb o e=>(e0.bs b o e).1;have of1:=(e0.hok f _ hf).1;have oc1:=(e0.hok c' _ hc).1;obtain⟨m,_,look⟩:=I.loc;obtain⟨ku,kr,lk⟩:=look j y kv hi hσ (.inr (.inl hyc));have cell:s.heap.IsCell c (some ku):=by
  rcases lk with⟨z,_⟩|⟨_,d,e1,e2⟩
  ·have z':X.env.scope.names.lookup y=some .local:=z;rw[hyc]at z';cases z'
  ·have e1':X.env.cells.lookup y=some d:=e1;rw[hcy]at e1';cases e1';exact e2
 have fc:H c=none:=I.freeC y c hcy;refine kla_callFunE hr.depth of1 rfl S.co S.gen rfl oc1 (hbd s u _ _ _ _ ?_);refine wpAny_newFunctionEnv S.nc (λz hz=>?_) (λh1 hns hsb=>⟨lim.keeps ?_,kla_codeExpr ?_⟩) S.kind
 ·rw[Zq.mp hz];exact S.lx
 all_goals have hk:∀b o,s.heap.get? b=some o->h1.get? b=some o:=λb o e=>hsb.extBut b o (Zy (Zm e)) (z9 _ e)
 ·exact hk
 ·obtain⟨t,ht,hq⟩:=hbody X.A.in1.in1 X.stack s H v Q (hr.deeper _) hsp;have I2:=wI (CX:=CX0) (qual:=qual) (f:=f) (cd:=.ref c') (E:=E0) (tk:=s.toks+1) S hr.hd e0 ru kr cell fc hns hk;refine ZK (ht [] _ _ H _ I2 hq) (λu s' hz9=>?_) λe s' hs=>hs;obtain⟨v,H',J,rv,q⟩:=hz9;exact⟨v,H',J.os,J.bare,J.base,J.hok,rv,q⟩
end
open PySem PySem.Spec PyProof.Rows PySem.W
section
variable{X:Cx}{c P:Jy}{params:Arguments}{body:Jz}{scope:Scope}{pos:Pos}{cl:List (Str×Jy)}
def xB(cl:List (Str×Jy))(X:Cx)(P:Jy)(params:Arguments)(body:Jz)(scope:Scope)(pos:Pos):TE:=λ_ H Q=>∃ps:Jm,H P=some (.tbl ps)/\TriplesOk ps.toList /\
 ((∃ c',codeAmong pos ps.toList=some (.ref c')/\H c'=some (fD c' (X.env.qual++"<lambda>"))/\∀ f ct,H f=none->Q (.ref f) (upd H f (pZ f (jH (X.env.qual++"<lambda>") params body scope cl ((X.mg "__name__").getD .none) c' ct)))) \/
  (codeAmong pos ps.toList=none/\∀ f c' ct,H f=none->H c'=none->c'≠f->Q (.ref f) (upd (upd (upd H P (.tbl (ps++#[rawInt pos.line,rawInt pos.col,.ref c']))) c' (fD c' (X.env.qual++"<lambda>"))) f (pZ f (jH (X.env.qual++"<lambda>") params body scope cl ((X.mg "__name__").getD .none) c' ct)))))
theorem C7(hcode:X.env.code=.ref c)(hge:X.env.globals=mainGlobals)(C:CodeHd X.base c P)(B:Blt X.base X.mg)(hdef:defaultsOf params X.env=([],[]))(hcl:closureFor scope X.env=pure cl):PE X (.Lambda params body scope pos) (xB cl X P params body scope pos):=by
 intro JC s σ H Q I h;obtain⟨ps,hP,ht,hh⟩:=h;have oP:s.heap.get? P=some (tabObj ps):=I.hok P _ hP;have hg:s.heap.Ns mainGlobals X.mg:=I.ok.mod.glob.keeps I.bk;have hb:=I.bltAt B hP;refine kla_eval hdef ?_;rcases hh with⟨c',hf,hc',q⟩|⟨hnf,q⟩
 ·refine kla_makeFunctionHit hcl hge hg hcode (C.keeps I.bk) oP ht hf hb λct h' tk kp hsz=>?_;have hn:=I.hok.fresh hsz;exact⟨.ref _,_,I.laid (t':=tk) (λb o e=>z9 _ (kp b o e)) hsz (uM (Zo _ rfl)),rfl,q _ ct hn⟩
 ·have hgP:mainGlobals≠P:=λz=>by obtain⟨o,es,ep,e,d,_⟩:=hg;rw[z,oP]at e;cases e;cases d
  refine kla_makeFunction hcl hge hg hcode (C.keeps I.bk) oP ht hnf hgP hb λc' ct h' tk hx hge' hlt hrec htb=>?_;have hnF:c'≠h'.objs.size:=Zy hlt;obtain⟨i1,i2,i3⟩:=I.grown (t':=tk) (c:=c') (f:=h'.objs.size) (h':=h'.push (jH (X.env.qual++"<lambda>") params body scope cl ((X.mg "__name__").getD .none) c' ct)) (oc:=fD c' (X.env.qual++"<lambda>")) (of':=pZ h'.objs.size (jH (X.env.qual++"<lambda>") params body scope cl ((X.mg "__name__").getD .none) c' ct)) hP
   (λb o hb' e=>z9 _ (hx b o hb' e)) hge' (Zr hge' (Nat.le_of_lt hlt)) hnF (z9 _ htb) (λ_=>CA (by
    obtain⟨c₂,oc,vs,t,e1,e2,e3,e4⟩:=hrec;exact⟨c₂,oc,vs,t,e1,z9 _ e2,e3,e4⟩)) (λ_=>uM (Zo _ rfl))
  exact⟨.ref _,_,i3,rfl,q _ c' ct i2 i1 hnF⟩
structure LamOkX(P:Jt)(w:Jx)(K:W.Frag)(mg:Ji)(base:JB)(k:Nat)(qual:Str)(body:Jz)(scope:Scope)(x y:Str)(sp:V->Sp):Prop where
 sc:LamScope x y scope
 ex:∀(f c' c:Jy) (kv:V) (A:Jv) (outer:List Env) (s:Ju) (H:Hp) (v:V) (Q:VK),Room k (A.deeper (envX qual scope s.heap.objs.size f (.ref c') [(y,c)]))->sp kv [v] H Q E0 ->
  ∃t,QE (cxX CX0 P w K mg base [x,y] qual scope f (.ref c') [(y,c)] A outer s H E0) body t/\t [some v,some kv] H Q
def um(X:Cx)(P:Jy)(q:Str)(lpos:Pos)(params:Arguments)(body:Jz)(scope:Scope)(cl:List (Str×Jy))(H1:Hp)(f:Jy)(H2:Hp):Prop :=
 ∃(c':Jy) (ct:Jw),SameT P H1 H2/\aH q P lpos H2/\H2 f=some (pZ f (jH q params body scope cl ((X.mg "__name__").getD .none) c' ct))/\H2 c'=some (fD c' q)/\f≠P/\c'≠P
theorem AC{H1:Hp}{lpos:Pos}{σ:St}{R:VK}(tab:aH (X.env.qual++"<lambda>") P lpos H1)(h:∀f H2,um X P (X.env.qual++"<lambda>") lpos params body scope cl H1 f H2->R (.ref f) H2):xB cl X P params body scope lpos σ H1 R:=by
 obtain⟨ps,tP,t3,tc⟩:=tab;refine⟨ps,tP,t3,?_⟩;rcases tc with hno|⟨c',hy,hc'⟩
 ·refine .inr ⟨hno,λf c' ct f0 c0 hcf=>h _ _ ?_⟩;have nPf:f≠P:=λz=>by rw[z,tP]at f0;cases f0
  have nPc:c'≠P:=λz=>by rw[z,tP]at c0;cases c0
  refine⟨c',ct,λb o e hb=>?_,⟨_,by rw[ad (Zs nPf),ad (Zs nPc),ac],?_,.inr ⟨c',?_,by rw[ad hcf,ac]⟩⟩,ac,by rw[ad hcf,ac],nPf,nPc⟩
  ·rw[ad (ai e f0),ad (ai e c0),ad hb];exact e
  ·rw[Array.toList_append];exact lW _ t3
  ·rw[Array.toList_append];exact codeAmong_snoc _ t3 hno
 ·refine .inl ⟨c',hy,hc',λf ct f0=>h _ _ ?_⟩;have nPf:f≠P:=λz=>by rw[z,tP]at f0;cases f0
  have nPc:c'≠P:=λz=>by rw[z,tP]at hc';cases hc'
  exact⟨c',ct,λb o e hb=>by rw[ad (ai e f0)];exact e,⟨ps,by rw[ad (Zs nPf)];exact tP,t3,.inr ⟨c',hy,by rw[ad (ai hc' f0)];exact hc'⟩⟩,ac,by rw[ad (ai hc' f0)];exact hc',nPf,nPc⟩
end
open PySem PySem.Spec PyProof.Rows PySem.W
section
variable{X:Cx}
theorem uC{P:Jt}{w:Jx}{H:Hp}{h:JB}(ok:HOk P w H h):∀{ds:List PyData} {xs:List V} {us:Jn},DtAll H ds xs->Vals xs us->PyData.canLayAll0 ds=true->∀(dx:PyData),us.length=ds.length/\∀(i:Nat) (hi:i<us.length) (hd:i<ds.length),lj h dx us[i]=PyData.eqv ds[i] dx
 | [],xs,us,hd,r,_,dx=>by
  have e:xs=[]:=by simpa only[DtAll]using hd
  subst e;cases r;exact⟨rfl,λi hi=>absurd hi (Nat.not_lt_zero _)⟩
 |d::ds,xs,us,hd,r,hl,dx=>by
  have e:∃y ys,xs=y::ys/\Dt H d y/\DtAll H ds ys:=by simpa only[DtAll]using hd
  obtain⟨y,ys,rfl,h1,h2⟩:=e;cases r with
  |cons r1 r2 =>
   have hl':d.canLay0=true/\PyData.canLayAll0 ds=true:=by simpa[PyData.canLayAll0]using hl
   obtain⟨as,q1⟩:=Dt.reads ok d y _ h1 r1;obtain⟨i1,i2⟩:=uC ok h2 r2 hl'.2 dx;refine⟨by rw[Zw,Zw,i1],λi hi hd=>?_⟩;cases i with
   |zero=>exact mf q1 hl'.1
   |succ i=>exact i2 i _ _
def zn:V->List V->Hp->VK->Prop:=λx vs H Q=>∃(l:Jy) (xs:List V) (y:V) (dy:PyData) (ds:List PyData) (j:Nat) (hj:j<ds.length),x=.ref l/\vs=[y]/\H l=some (.lst xs)/\Dt H dy y/\DtAll H ds xs/\SeqAt.shaped dy=true/\PyData.canLayAll0 ds=true/\ds.length<=1000/\PyData.eqv ds[j] dy=true/\(∀(i:Nat) (hi:i<j),PyData.eqv (ds[i]'(Nat.lt_trans hi hj)) dy=false)/\Q (.int (j:Int)) H
theorem AJ(hu:X.A.in1.units+64<cLine):MtM X "list.index" zn:=by
 intro JC s σ H x vs v us Q I rx rv h;obtain⟨l,xs,y,dy,ds,j,hj,rfl,rfl,hH,h1,h2,s1,s2,hz,hyes,hno,q⟩:=h;cases rx;obtain⟨u,rfl,ru⟩:=rv.one;obtain⟨z,its,n,r,hl,e⟩:=I.lstM hH;obtain⟨el,ea⟩:=uC I.hok h2 r s2 dy;have hj':j<its.length:=by omega
 refine call_meets F.slot_list_index ⟨_,e,rfl⟩ F.entry_list_index (F.args_list_index_2 _ _) (SeqAt.list_indexAt l its.toArray n none #[] u (lj s.heap dy) j (by simpa using hj') (by omega) ?_ ?_) ⟨e,λy' hy'=>xY I hu h1 ru h2 r s1 s2 y' (by simpa using hy'),?_⟩
 ·show lj s.heap dy its.toArray[j]=true;rw[List.getElem_toArray,ea j hj' hj,hyes]
 ·intro m hm hmj;rw[List.getElem_toArray,ea m (by simpa using hm) (by omega),hno m hmj]
 ·refine⟨.int _,H,I.tok _,⟨_,rfl⟩,?_⟩;exact q
end
section
variable{X:Cx}{o e:Jz}{to te:TE}{apos cpos:Pos}
theorem Dp{k:Nat}(hr:Room k X.A)(ho:QE X o to)(he:QE X e te)(hs:aP e=true:=by rfl)(hbase:attributeBase o "index" X.env (eval o X.env)=eval o X.env:=by rfl)(hline:(apos.endLine==cpos.line)=true:=by rfl) :
  QE X (.Call (.Attribute o "index" apos) [e] [] cpos) (tBM X.K "list" zn to (jk te iU)):=by
 have h1:=aJ (es:=[]) (env:=X.env) hs;have h2:starEach ([]:List Jz) X.env=[]:=rfl;refine⟨xp PySem.F.plainAttrs_list PySem.F.slot_list_index PySem.F.type_list_index (AJ (by have:=hr.un;show X.A.units+_+64<_;omega)) ho.h (pa he.h pj hs) hbase ?_ hline h1 (by rw[h2];rfl)⟩;rw[h1,h2];rfl
end
open PySem PyProof.Rows PySem.W
open PySem PyProof.Rows PySem.W
section
variable{prog:Jt}{w:Jx}{A:Jv}{E:Jh}{s:Ju}{κ:SortKind}{it:Array Keyed}{lt:Jk}{N:Nat}{st:SortSt}
def Zc(prog:Jt)(w:Jx)(A:Jv)(s:Ju)(κ:SortKind)(it:Array Keyed)(lt:Jk)(N:Nat):Prop :=
 ∀i j (C:Bool->Ju->Prop),i<N->j<N->C (lt i j) s->kas_cmp prog w A κ it i j C s
end
open PySem PyProof.Rows PySem.W
section
variable{lt:Jk}
theorem mi(p:Jo)(k:Nat):gA p k=p.toList.getD k 0:=by unfold gA;rw[Yc,Zv,YO]
structure MF(lt:Jk)(N:Nat)(a b:Jo):Prop where
 sa:∀i j,i<j->j<a.size->Lx lt (gA a i) (gA a j)
 sb:∀i j,i<j->j<b.size->Lx lt (gA b i) (gA b j)
 cr:∀i j,i<a.size->j<b.size->lt (gA b j) (gA a i)=false->Lx lt (gA a i) (gA b j)
 na:∀i,i<a.size->gA a i<N
 nb:∀i,i<b.size->gA b i<N
 a0:0<a.size
 b0:0<b.size
 fst:lt (gA b 0) (gA a 0)=true
 lst:∀j,j<b.size->lt (gA b j) (gA a (a.size-1))=true
variable{N:Nat}{a b:Jo}{f:Nat->Keyed}
end
open PySem PyProof.Rows PySem.W
open PySem PyProof.Rows PySem.W
open PySem PyProof.Rows PySem.W
open PySem PyProof.Rows PySem.W
section
variable{prog:Jt}{w:Jx}{A:Jv}{E:Jh}{s:Ju}{κ:SortKind}{it:Array Keyed}{lt:Jk}{N:Nat}{st:SortSt}{pre u:Jo}
structure Zp(prog:Jt)(w:Jx)(A:Jv)(s:Ju)(κ:SortKind)(it:Array Keyed)(lt:Jk)(N:Nat)(st:SortSt)(pre:Jo)(n:Nat):Prop where
 Z:Zc prog w A s κ it lt N
 hk:kindOf st=κ
 hN:pre.size+n=N
 n0:0<n
end
open PySem PyProof.Rows PySem.W
section
variable{lt:Jk}(O:LtOk lt){N:Nat}
include O
end
open PySem PyProof.Rows PySem.W
section
variable{lt:Jk}
def BB(lt:Jk):Nat->List Js->List (Nat×Nat×Nat)->Prop
 |_,[],[]=>True
 |b,r::rs,t::ts=>t.1=b/\t.2.1=r.length/\0<r.length/\r.Pairwise (Lx lt)/\r.Perm (List.range' b r.length)/\BB lt (b+r.length) rs ts
 |_,_,_=>False
variable{prog:Jt}{w:Jx}{A:Jv}{E:Jh}{s:Ju}{κ:SortKind}{it:Array Keyed}{N:Nat}{st:SortSt}
structure RI(κ:SortKind)(it:Array Keyed)(lt:Jk)(N lo:Nat)(T:Js)(p:Jo)(rs:List Js)(st:SortSt):Prop where
 hk:kindOf st=κ
 hf:failedOf st=none
 ha:arrOf st=p.map (kas_item it)
 hp:p.toList=rs.flatten++T
 pm:p.toList.Perm (List.range N)
 rl:BB lt 0 rs (pendingOf st).toList
 hl:rs.flatten.length=lo
end
open PySem PyProof.Rows PySem.W
open PySem PySem.Spec PyProof.Rows PySem.W
theorem fY{n:Nat}(h:n<=4096):n<=sizeLine:=by rw[sizeLine_eq];omega
section
variable{prog:Jt}{w:Jx}{A:Jv}{E:Jh}{s:Ju}{h₀:JB}{L a kS:Jy}{m:Ji}{news:Jj}{vs ks:Jn}
def ZGo(prog:Jt)(w:Jx)(A:Jv)(b:Bool)(ks vs:Jn)(F:Jn->Ju->Prop)(κ:SortKind)(s:Ju):Prop :=
 ∃lt:Jk,LtOk lt/\(∀i j (C:Bool->Ju->Prop),i<vs.length->j<vs.length->C (lt i j) s->kas_ask prog w A κ (katRev b ks) i j C s) /\
  ∀p:Jo,POk vs.length p->LS lt p vs.length->F (katRev b (p.toList.map λi=>(katRev b vs).getD i Value.none)) s
def vO(prog:Jt)(w:Jx)(A:Jv)(b:Bool)(ks vs:Jn)(F:Jn->Ju->Prop)(s:Ju):Prop :=
 (2<=vs.length->wpAny (model prog w) A (keyKind' (List.toArray ks)) (ZGo prog w A b ks vs F) (λ_ _=>False) s)/\(vs.length<2->F (katRev b ((List.range vs.length).map λi=>(katRev b vs).getD i Value.none)) s)
theorem vJ{b:Bool}{st:SortSt}{e e1:Nat}{out:Jn}{P:PySem.Fin->Ju->Prop}(ho:(arrOf st).map (·.2)=List.toArray out)(hz:out.length<=4096)(hq:ks.length<=4096)(hf:failedOf st=none)(h:KatFin h₀ L m kS a ks e e1 (katRev b out) (λs'=>P (.done (.ret .none)) s') s):wpAny (model prog w) A (ksk_tail a b e1 (.ref kS) st) P E s:=by
 obtain⟨nw,g,Fq,Nq,Uq,kq⟩:=h;obtain⟨l1,l2,e0,hg,x1,x2⟩:=Uq.split;rw[e0]at Nq;have ak:=Nq (kS,seqObj "list" (List.toArray ks) e) (ZI _ (.head _));have s1:=ZP s.heap kS (Obj.mapSeq λ_=>(#[]:Jm));obtain⟨ck,hck⟩:∃z,(s.heap.update kS (Obj.mapSeq λ_=>(#[]:Jm))).get? kS=some (seqObj "list" #[] z):=⟨_,get?_update_seq ak.1 λ_=>#[]⟩
 have K2:=kq _ ck (kas_fr Fq s1 ak.2.1 ak.2.2) (by rw[hg];exact news_set Nq x1 x2 s1 hck);obtain⟨nw2,g2,F2,N2,U2,k2⟩:=K2;obtain⟨m1,m2,e2,hg2,y1,y2⟩:=U2.split;rw[e2]at N2;have aa:=N2 (a,seqObj "list" #[] e1) (ZI _ (.head _));have s2:=ZP (s.heap.update kS (Obj.mapSeq λ_=>(#[]:Jm))) a (Obj.mapSeq λ_=>List.toArray (katRev b out));have hsz:(List.toArray (katRev b out)).size=out.length:=by rw[Zg,kat_len]
 obtain⟨c2,hc2⟩:∃z,((s.heap.update kS (Obj.mapSeq λ_=>(#[]:Jm))).update a (Obj.mapSeq λ_=>List.toArray (katRev b out))).get? a=some (seqObj "list" (List.toArray (katRev b out)) z):=⟨_,get?_update_seq aa.1 λ_=>List.toArray (katRev b out)⟩
 unfold ksk_tail;dsimp only;rw[ho,kat_outs];refine z0 (listUpdate_at ak.1 rfl (z0 (wpAny_letGo (z0 (seqEpoch_at aa.1 rfl (z0 (listUpdate_at aa.1 rfl ?_ (ZM _) (Zr (Nat.le_of_eq hsz) (Nat.le_succ_of_le (fY hz))))))))) (by rw[Zg];exact fY hq) (ZM _));rw[hf];simp only[bne_self_eq_false,Bool.false_eq_true,if_false];refine z6 (k2 _ c2 (kas_fr F2 s2 aa.2.1 aa.2.2) ?_);rw[hg2];exact news_set N2 y1 y2 s2 hc2
theorem vI{f:Jw}{Fin:Jn->Nat->Ju->Prop}{n:Nat}{body:Jw->PUnit->Sem (ForInStep PUnit)}(hn:n<=4096)(hb:∀ x ks e (s:Ju) (C:Jw->Nat->Ju->Prop),List.length ks<4096->wpAny (model prog w) A (call f [x]) (KatBack h₀ L m kS ks e C) (λ_ _=>False) s ->
   wpAny (model prog w) A (body x ⟨⟩) (λr s'=>r=.yield ⟨⟩/\∃ k c,s'.heap.get? kS=some (seqObj "list" (List.toArray (ks++[k])) c)/\C k c s') E s):∀ (r qs:Jn) (e:Nat) (s:Ju),qs.length+r.length=n ->
   s.heap.get? kS=some (seqObj "list" (List.toArray qs) e)->KatKeys prog w A h₀ L m kS f Fin r qs e s ->
   wpAny (model prog w) A (forIn r PUnit.unit body) (λ_ s'=>∃qs e,s'.heap.get? kS=some (seqObj "list" (List.toArray qs) e)/\qs.length=n/\Fin qs e s') E s
 | [],qs,e,s,hl,hq,h=>by rw[List.forIn_nil];exact z6 ⟨qs,e,hq,by simpa using hl,h⟩
 |x::r,qs,e,s,hl,hq,h=>by rw[Zw]at hl;rw[List.forIn_cons];refine z0 (ZK (hb x qs e s (λk c s'=>KatKeys prog w A h₀ L m kS f Fin r (qs++[k]) c s') (by omega) h) (λz s' hz=>?_) λ_ _ x=>x);obtain⟨rfl,k,c,hk',h2⟩:=hz;exact vI hn hb r (qs++[k]) c s' (by rw[Zn,Yw];omega) hk' h2
end
open PySem PySem.Spec PyProof.Rows PySem.W
def bI:Jq->Jq->Jq
 | [],ns=>0::ns
 |p::ps,ns=>1::p::bI ps ns
theorem pU:∀(ps ns qs ms:Jq),HT.lexLt (bI ps ns) (bI qs ms)=if ps=qs then HT.lexLt ns ms else HT.lexLt ps qs
 | [],ns,[],ms=>by rw[bI,bI,HT.lexLt_cons,Jg rfl,Jg rfl]
 | [],ns,q::qs,ms=>by rw[bI,bI,HT.lexLt_cons,Jf (by decide),Jf (by simp)];rfl
 |p::ps,ns,[],ms=>by rw[bI,bI,HT.lexLt_cons,Jf (by decide),Jf (by simp)];rfl
 |p::ps,ns,q::qs,ms=>by
  rw[bI,bI,HT.lexLt_cons,Jg rfl,HT.lexLt_cons,pU ps ns qs ms,HT.lexLt_cons];by_cases h:p=q
  ·subst h;rw[Jg rfl,Jg rfl];by_cases h2:ps=qs
   ·rw[Jg h2,Jg (by rw[h2])]
   ·rw[Jf h2,Jf (λz=>h2 (by injection z))]
  ·rw[Jf h,Jf (λz=>h (by injection z)),Jf h]
inductive ZKey where
 |i (n:Int)|t (ns:Jq)|p (ps ns:Jq)
def ZKey.nums:ZKey->Jq
 |.i n=>[n]
 |.t ns=>ns
 |.p ps ns=>bI ps ns
def ZKey.at(H:Hp):ZKey->V->Prop
 |.i n,v=>v=.int n
 |.t ns,v=>∃a,v=.ref a/\H a=some (.tup (ns.map V.int))
 |.p ps ns,v=>∃a b c,v=.ref a/\H a=some (.tup [.ref b,.ref c])/\H b=some (.tup (ps.map V.int))/\H c=some (.tup (ns.map V.int))
theorem ZKey.at.same{H H':Hp}(sm:Same H H'):∀{k:ZKey} {v:V},k.at H v->k.at H' v
 |.i _,_,h=>h
 |.t _,_,⟨a,e,h⟩=>⟨a,e,sm _ _ h⟩
 |.p _ _,_,⟨a,b,c,e,h1,h2,h3⟩=>⟨a,b,c,e,sm _ _ h1,sm _ _ h2,sm _ _ h3⟩
def xG(ks:List ZKey):Prop:=∀k∈ks,∃ps ns,k=.p ps ns
theorem mh{X:Cx}{JC:Jj}{σ:St}{H:Hp}{s:Ju}{A:Jv}{a b:Jy}{ns ms:Jq}(I:Inv X JC σ H s)(hu:A.units+64<cLine)(ha:H a=some (.tup (ns.map V.int)))(hb:H b=some (.tup (ms.map V.int))):SeqAt.EqAt A s (.ref a) (.ref b) (decide (ns=ms)):=by obtain⟨as,r1⟩:=Dt.reads I.hok _ (.ref a) (.ref a) (iE ha) rfl;obtain⟨bs,r2⟩:=Dt.reads I.hok _ (.ref b) (.ref b) (iE hb) rfl;rw[<-jZ];have s1:=dP ns;have s2:=dP ms;refine SeqAt.eqAt_reads _ _ A s _ _ as bs r1 r2 (Yr s1) (Yr s2) ?_;have d1:=SeqAt.depth_of_shaped s1;have d2:=Nat.min_le_left (PyData.tuple (ns.map .int)).depth (PyData.tuple (ms.map .int)).depth;omega
theorem ud{prog:Jt}{w:Jx}{A:Jv}{s:Ju}{fin:Bool}{Q:Bool->Ju->Prop}{b c b' c':Jy}{ps ns qs ms:Jq}(e1:SeqAt.EqAt A s (.ref b) (.ref b') (decide (ps=qs)))(e2:SeqAt.EqAt A s (.ref c) (.ref c') (decide (ns=ms)))(l1:∀R:Jh,R (.bool (HT.lexLt ps qs)) s->wpAny (model prog w) A (compareOp .Lt (.ref b) (.ref b')) R (λ_ _=>False) s)(l2:∀R:Jh,R (.bool (HT.lexLt ns ms)) s->wpAny (model prog w) A (compareOp .Lt (.ref c) (.ref c')) R (λ_ _=>False) s)(hf:fin=false)(q:Q (HT.lexLt (bI ps ns) (bI qs ms)) s):KatLex prog w A false fin Q ([Value.ref b,.ref c].zip [Value.ref b',.ref c']) 0 s:=by
 subst hf;rw[pU]at q;refine kat_cons (e1 _ _ _ _ (kat_go (λet=>?_) (λef=>?_)))
 ·rw[Jg (ZY et)]at q;refine kat_yes (kat_cons (e2 _ _ _ _ (kat_go (λet2=>?_) (λef2=>?_))))
  ·have z:=ZY et2;subst z;have e:HT.lexLt ns ns=false:=by
    cases h:HT.lexLt ns ns with
    |false=>rfl
    |true=>rw[oM h]at h;cases h
   rw[e]at q;exact kat_yes (kat_nil q)
  ·exact kat_no (kat_one _ _ (l2 _ q))
 ·rw[Jf (Yy ef)]at q;exact kat_no (kat_one _ _ (l1 _ q))
section
variable{X:Cx}{JC:Jj}{σ:St}{H:Hp}{s:Ju}{h':JB}
def DX(X:Cx)(s:Ju)(l:Jy)(xs:List V):Prop:=∀Q:Jn->Ju->Prop,(∀h' tk its,(∀b o,s.heap.get? b=some o->h'.get? b=some o)->Vals xs its->Q its { s with heap:=h',toks:=tk })->wpAny (model X.prog X.w) X.A.in1 (collect (.ref l)) Q X.xe s
structure SGZ(X:Cx)(JC:Jj)(σ:St)(H1:Hp)(m:Ji)(kS D:Jy)(e1:Nat)(ks:List ZKey)(as:List V)(us:Jn)(e:Nat)(H:Hp)(s:Ju):Prop where
 I:Inv X JC σ H s
 sm:Same H1 H
 fk:bY X JC H kS
 fd:bY X JC H D
 bk:X.base.get? kS=none
 bd:X.base.get? D=none
 hk:s.heap.get? kS=some (seqObj "list" (List.toArray us) e)
 hd:s.heap.get? D=some (seqObj "list" #[] e1)
 ns:s.heap.Ns X.env.locals m
 vals:Vals as us
 keys:∀(i:Nat) (a:V) (k:ZKey),as[i]?=some a->ks[i]?=some k->k.at H a
theorem SGZ.fr{H1:Hp}{m:Ji}{kS D:Jy}{e1:Nat}{ks:List ZKey}{as:List V}{us:Jn}{e:Nat}(S:SGZ X JC σ H1 m kS D e1 ks as us e H s):Fr X.base X.env.locals s.heap m:=⟨S.ns,S.I.bk,Zr S.I.ok.bsz S.I.ok.above⟩
theorem pE{H1:Hp}{m:Ji}{kS D:Jy}{e1:Nat}{ks:List ZKey}{xs:List V}{its:Jn}{f:Jy}{sp:Sp}{Fin:Jn->Nat->Ju->Prop}(hne:kS≠D)(rv:Vals xs its)(hl:ks.length=xs.length)(F:vN X JC σ f sp)(spec:∀(i:Nat) (v:V) (key:ZKey) (H':Hp),xs[i]?=some v->ks[i]?=some key->Same H1 H'->∀R:VK,(∀kv H'',Same H' H''->key.at H'' kv->R kv H'')->sp [v] H' R E0)(fin:∀(as:List V) (us:Jn) (e:Nat) (H:Hp) (s:Ju),SGZ X JC σ H1 m kS D e1 ks as us e H s->as.length=xs.length->Fin us e s) :
  ∀(r:Jn) (as:List V) (us:Jn) (e:Nat) (H:Hp) (s:Ju),SGZ X JC σ H1 m kS D e1 ks as us e H s->its=its.take as.length++r->as.length+r.length=xs.length ->
   KatKeys X.prog X.w X.A.in1.in1 X.base X.env.locals m kS (.ref f) Fin r us e s
 | [],as,us,e,H,s,S,_,hlen=>KatKeys.nil (fin as us e H s S (by simpa using hlen))
 |u::r,as,us,e,H,s,S,hits,hlen=>by
  have hi:as.length<xs.length:=by rw[Zw]at hlen;omega
  have hx:xs[as.length]?=some xs[as.length]:=Zd hi;obtain⟨u',gu,ru⟩:=rv.get hx;have hlt:as.length<its.length:=by rw[<-rv.length];exact hi
  have gu':its[as.length]?=some u:=by rw[hits,Z0 (by rw[ZS];omega),ZS,Nat.min_eq_left (by omega),Nat.sub_self];rfl
  rw[gu']at gu;cases gu;have hkey:ks[as.length]?=some (ks[as.length]'(by omega)):=Zd (by omega);generalize ks[as.length]'(by omega)=key at hkey;refine KatKeys.cons (wpAny_call (codeAny_mono (F s H u xs[as.length] (λv H''=>Same H H''/\key.at H'' v) S.I ru (spec _ _ _ H hx hkey S.sm _ λkv H'' s' q=>⟨s',q⟩)) λres s' hq=>?_));cases res with
  |error e=>exact hq
  |ok fl =>
   cases fl with
   |next=>exact False.elim hq
   |brk=>exact False.elim hq
   |cont=>exact False.elim hq
   |ret uv =>
    obtain⟨v,H'',os,bare,un,hok,rvv,sm,ea⟩:=hq;obtain⟨hh,g,d,t,os'⟩:=s';obtain rfl:os'=s.os:=os;have I2:Inv X JC σ H'' { s with heap:=hh,gens:=g,drawn:=d,toks:=t }:=S.I.call (h':=hh) (g':=g) (d':=d) (t':=t) (ch:=[]) un hok bare (λb z=>absurd z (by simp));have nstk:∀{b:Jy},bY X JC H b->b∉frs X.stack:=fun{b} fo z=>(Zj.mp (S.I.stkSub b z)).elim fo.2.1 fo.2.2.1;have hk2:hh.get? kS=some (seqObj "list" (List.toArray us) e):=un.keep kS _ S.hk S.fk.1 (nstk S.fk) (by simp);have hd2:hh.get? D=some (seqObj "list" #[] e1):=un.keep D _ S.hd S.fd.1 (nstk S.fd) (by simp);have ns2:hh.Ns X.env.locals m:=by obtain⟨o,es,ep,ho,rr⟩:=id S.ns;obtain⟨sl,hL⟩:=un.any ho S.I.free (by simp);exact⟨_,es,ep,hL,rr⟩
    have fk2:bY X JC H'' kS:=⟨un.free kS _ S.hk S.fk.1 (by simp),S.fk.2⟩
    have fd2:bY X JC H'' D:=⟨un.free D _ S.hd S.fd.1 (by simp),S.fd.2⟩
    have hkL:kS≠X.env.locals:=S.fk.2.1;refine KatBack.intro (news:=(kS,seqObj "list" (List.toArray us) e)::iC X.base hh X.env.locals kS) ⟨ns2,I2.bk,Zr S.I.ok.bsz S.I.ok.above⟩ (iK hk2 hkL S.bk) (.head kE) λh3 c F3 N3=>?_;have mv:=iJ (λb o q=>I2.bk b o q) F3 N3;have I3:Inv X JC σ H'' { s with heap:=h3,gens:=g,drawn:=d,toks:=t }:=Inv.movedF (ch:=[kS]) (t':=t) I2 (λb hb=>by rw[Zq.mp hb];exact fk2) mv ⟨m,ns2,F3.ns⟩;refine pE hne rv hl F spec fin r (as++[v]) (us++[uv]) c H'' _ ⟨I3,S.sm.trans sm,fk2,fd2,S.bk,S.bd,(N3 _ (.head _)).1,mv D _ S.fd.2.1 (λz=>hne (Zq.mp z).symm) hd2,F3.ns,S.vals.append (.cons rvv .nil),λi b key' h1 h2=>?_⟩ ?_ ?_
    ·by_cases hi2:i<as.length
     ·rw[Yi hi2]at h1;exact(S.keys i b key' h1 h2).same sm
     ·have hi3:=(ZB.mp h1).1;rw[Zn,Yw]at hi3;have e3:i=as.length:=by omega
      subst e3;rw[Z0 (Za _),Nat.sub_self]at h1;cases h1;rw[hkey]at h2;cases h2;exact ea
    ·rw[Zn,Yw,List.take_add_one,gu',Option.toList_some,List.append_assoc];exact hits
    ·rw[Zn,Yw,<-hlen,Zw];omega
end
open PySem PySem.Spec PyProof.Rows PySem.W
open PySem PySem.Spec PyProof.Rows PySem.W
open PySem PySem.Spec PyProof.Rows PySem.W
open PySem PySem.Spec PyProof.Rows PySem.W
end L2
set_option maxHeartbeats 4000000
namespace PySem
open Sem (wp)
section
variable{prog:Jt}{w:Jx}{K:Type}[DecidableEq K]{knd:KeyKind prog w K}
structure PairAt(knd:KeyKind prog w K)(h:JB)(p:Jy×List K×Jy×Jw):Prop where
 tup:∃o n,h.get? p.1=some o/\o.cls=.type "tuple"/\o.data=.seq #[.ref p.2.2.1,p.2.2.2] n
 key:IsTupleKey knd h p.2.1 p.2.2.1
variable{A:Jv}{R:Result->Ju->Prop}
end
end PySem
namespace L2
open PySem PySem.Spec PyProof.Rows PySem.W
def ItD(o:Obj)(a:Jy):It where
 go:=λi H=>∃kvs,H a=some (.frz o (.dT kvs))/\i<kvs.length
 yld:=λi H x H'=>H'=H/\∀kvs,H a=some (.frz o (.dT kvs))->∃p b,kvs[i]?=some p/\x=.ref b/\H b=some (.tup (p.1.map kV))
 stop:=λi H=>∃kvs,H a=some (.frz o (.dT kvs))/\kvs.length<=i
theorem Ex{H:Hp}{kvs:List (List Key×V)}{xs:List (List Key×Jy×Jw)}(r:KT H kvs xs):∀{i:Nat} {x:List Key×Jy×Jw},xs[i]?=some x->∃p,kvs[i]?=some p/\H x.2.1=some (.tup (p.1.map kV)):=by
 induction r with
 |nil=>intro i x h;simp at h
 |@cons p q _ _ h _ ih =>
  intro i x e;cases i with
  |zero=>cases e;exact⟨p,rfl,h.2.1⟩
  |succ i=>exact ih e
theorem yj{P:Jt}{w:Jx}{H:Hp}{h:JB}{a:Jy}{o:Obj}{kvs:List (List Key×V)}(ok:HOk P w H h)(e:H a=some (.frz o (.dT kvs))) :
  (a==sysModules)=false/\∃xs es ep,KT H kvs xs/\h.get? a=some o/\o.ExactDict/\o.data=.dict es ep/\es.toList=xs.map (entryOfKey (tupleKind (bh P w)))/\kvs.length=es.size:=by
 obtain⟨ho,z,y,xs,r,o',es,ep,h1,h2,h3,h4,h5⟩:=(show ObjOk P w H h a (.frz o (.dT kvs))from ok a _ e)
 rw[ho]at h1;cases h1;exact⟨y,xs,es,ep,r,ho,h2,h3,h4,(Zu r).trans (size_of_entries h4).symm⟩
theorem zJ{P:Jt}{w:Jx}{K:W.Frag}{tg:Jz}(o:Obj)(a it:Jy):Turn P w K tg (ItD o a) [it] it (λi h=>∃es ep,o.data=.dict es ep/\i<=es.size/\h.IsKeyIter it a i es.size ep) where
 mem:=by simp
 obj:=λi h st b hb=>by
  have e:b=it:=by simpa using hb
  subst e;obtain⟨es,ep,_,_,o,e,c,d⟩:=st;exact⟨o,e,λv z=>by rw[d]at z;cases z⟩
 keep:=λi h h' st k=>by obtain⟨es,ep,h1,h2,h3⟩:=st;exact⟨es,ep,h1,h2,h3.at λo e=>k it (by simp) o e⟩
 item:=by
  intro X hP hw hK hc i JC s σ H E I hf st hg;subst hP hw hK;obtain⟨kvs,hq,hx⟩:=hg;obtain⟨es,ep,sd,sl,st⟩:=st;obtain⟨lo,xs,es',ep',r,ho,hx2,hd,h4,hl⟩:=yj I.hok hq;rw[sd]at hd;cases hd;obtain⟨f0,f1,f2,f3,f4,f5⟩:=hf it (by simp);have hi:i<es.size:=by omega
  refine ti st ⟨o,ho,hx2,sd⟩ hi λh' st' sb=>?_;have I1:Inv X JC σ H { s with heap:=h' }:=I.turned (t':=s.toks) (λb o hb e=>(sb.2 b hb).trans e) f0 f1 f3 f4 f5;obtain⟨oi,e,c,d⟩:=id st';have hxs:i<xs.length:=by rw[<-size_of_entries h4];exact hi
  have hk:es[i].key=Value.ref xs[i].2.1:=by have e1:=entry_at h4 (j:=i);rw[Zd hxs,Yj hi]at e1;have e2:=Zb e1;rw[e2];rfl
  obtain⟨p,hp,hb⟩:=Ex r (Zd hxs);refine⟨_,rfl,rM (s:={ s with heap:=h' }) e c d (by decide) ⟨.ref xs[i].2.1,H,I1,hk,⟨rfl,λkvs' hy=>?_⟩,⟨es,ep,sd,by omega,st'⟩,λb hb=>(hf b hb).1⟩⟩;rw[hq]at hy;cases hy;exact⟨p,xs[i].2.1,hp,rfl,hb⟩
 done:=by
  intro X hP hw hK hc i JC s σ H E I hf st hg;subst hP hw hK;obtain⟨kvs,hq,hx⟩:=hg;obtain⟨es,ep,sd,sl,st⟩:=st;obtain⟨lo,xs,es',ep',r,ho,hx2,hd,h4,hl⟩:=yj I.hok hq;rw[sd]at hd;cases hd;obtain⟨f0,f1,f2,f3,f4,f5⟩:=hf it (by simp);obtain rfl:i=es.size:=by omega
  exact vt (I.ok.hd hc) st ⟨o,ho,hx2,sd⟩ λh' eb=>⟨rfl,I.turned (t':=s.toks) (λb o hb e=>eb b o hb e) f0 f1 f3 f4 f5⟩
 self:=λ_ _ _ _ _ st h=>by obtain⟨es,ep,h1,h2,h3⟩:=st;exact wpAny_pyIter_keyiter h3 h
section
variable{X:Cx}{tg:Jz}
theorem Inv.freeze{JC:Jj}{σ:St}{H:Hp}{s:Ju}{a:Jy}{o:Obj}{kvs:List (List Key×V)}(I:Inv X JC σ H s)(hq:H a=some (.dT kvs))(ho:s.heap.get? a=some o):Inv X JC σ (upd H a (.frz o (.dT kvs))) s :=
 I.write (x:=a) (e:=a) (h':=s.heap) (t':=s.toks) (by rw[hq];exact True.intro) (.inl rfl) (λb u _ e=>e) ⟨o,ho⟩
  ⟨ho,ObjOk.stay (show ObjOk X.prog X.w H s.heap a (.dT kvs) from I.hok a _ hq) (λb u _ e=>e) (λb e=>by
   rw[ad λz=>by rw[z,hq]at e;cases e];exact e) λb xs e=>by
   rw[ad λz=>by rw[z,hq]at e;cases e];exact e⟩
def Ef(tl:TE):TI:=λσ H R=>tl σ H λx H1=>∃a kvs,x=.ref a/\H1 a=some (.dT kvs)/\∀o,R (ItD o a) (upd H1 a (.frz o (.dT kvs)))
theorem Fe{l:Jz}{tl:TE}(hl:PE X l tl):PI X tg l (Ef tl):=by
 intro JC s σ H R I h;refine thn (hl JC s σ H _ I h) λv s1 hz9=>?_;obtain⟨x,H1,I1,r1,q1⟩:=hz9;obtain⟨a,kvs,e,hq,q⟩:=q1;subst e;cases r1;obtain⟨z,lo,xs,r,o,es,ep,h1,h2,h3,h4,h5⟩:=(show ObjOk X.prog X.w H1 s1.heap a (.dT kvs)from I1.hok a _ hq)
 refine tj lo ⟨o,h1,h2,h3⟩ ?_;have I2:=I1.freeze hq h1;refine⟨s1.heap.objs.size,[s1.heap.objs.size],_,_,_,rfl,I2.kept (t':=s1.toks) λb o e=>z9 _ e,zJ o a _,⟨es,ep,h3,ZM _,_,Zo _ rfl,rfl,rfl⟩,λb hb=>?_,q o⟩;have e:b=s1.heap.objs.size:=by simpa using hb
 subst e;exact I2.fpOk (Za _) (I2.hok.fresh (Za _))
theorem Inv.thaw{JC:Jj}{σ:St}{H:Hp}{s:Ju}{a:Jy}{o:Obj}{u:HO}(I:Inv X JC σ H s)(hq:H a=some (.frz o u))(h0:∀o' u',X.H₀ a≠some (.frz o' u'))(ht:∀xs,X.H₀ a≠some (.tup xs))(hb:∀ps,X.H₀ a≠some (.tbl ps)) :
  Inv X JC σ (upd H a u) s:=by
 have hn:∀b,H b=none->upd H a u b=none:=λb e=>by rw[ad λz=>by rw[z,hq]at e;cases e];exact e
 refine⟨I.ok,I.os,I.bare,⟨I.base.keep,I.base.slot,λb ob e1 e2 e3=>hn _ (I.base.free b ob e1 e2 e3),I.base.there,λb xs e=>?_,λb ob v e=>?_,λb ps e=>?_⟩,I.loc,I.cell,hn _ I.free,λx c e=>hn _ (I.freeC x c e),
  λp hp=>?_,λb v e=>?_,I.len⟩
 ·rw[ad fun(z:b=a)=>ht xs (by rw[<-z];exact e)];exact I.base.tups b xs e
 ·rw[ad fun(z:b=a)=>h0 ob v (by rw[<-z];exact e)];exact I.base.frzs b ob v e
 ·rw[ad fun(z:b=a)=>hb ps (by rw[<-z];exact e)];exact I.base.tbls b ps e
 ·obtain⟨p1,p2,p3⟩:=I.pin p hp;exact⟨p1,hn _ p2,p3⟩
 ·have st:∀ {c:Jy} {v:HO},ObjOk X.prog X.w H s.heap c v->ObjOk X.prog X.w (upd H a u) s.heap c v:=λx=>ObjOk.stay x (λb u _ e=>e) (λb e=>by
   rw[ad λz=>by rw[z,hq]at e;cases e];exact e) λb xs e=>by
   rw[ad λz=>by rw[z,hq]at e;cases e];exact e
  by_cases c:b=a
  ·subst c;rw[ac]at e;cases e;exact st (show ObjOk X.prog X.w H s.heap b (.frz o _)from I.hok b _ hq).2
  ·rw[ad c]at e;exact st (I.hok b v e)
theorem wG{l:Jz}{te:TE}(hl:QE X l te):QI X tg l (Ef te):=⟨Fe hl.h⟩
def Loose(H:Hp)(a:Jy):Prop:=(∀o' u',H a≠some (.frz o' u'))/\(∀xs,H a≠some (.tup xs))/\∀ps,H a≠some (.tbl ps)
theorem Loose.dt{H:Hp}{a:Jy}{kvs:List (List Key×V)}(h:H a=some (.dT kvs)):Loose H a:=⟨λ_ _ z=>(by rw[h]at z;cases z),λ_ z=>(by rw[h]at z;cases z),λ_ z=>(by rw[h]at z;cases z)⟩
def Hj(H0:Hp)(t:TE):TE:=λσ H Q=>t σ H λv H'=>∃a o u,H' a=some (.frz o u)/\Loose H0 a/\Q v (upd H' a u)
theorem zm{e:Jz}{t:TE}(h:QE X e t):QE X e (Hj X.H₀ t):=⟨λJC s σ H Q I q=>thn (h.h JC s σ H _ I q) λv s1 ⟨x,H1,I1,r1,a,o,u,e1,l,q1⟩=>⟨x,_,I1.thaw e1 l.1 l.2.1 l.2.2,r1,q1⟩⟩
end
theorem Au{a:Jy}{o:Obj}{kvs:List (List Key×V)}{j:Nat}{tb:TS}{D:Ends}{σ:St}{H:Hp}(Pv:Nat->St->Hp->Prop)(h0:Pv 0 σ H)(hl:∀i σ H,i<=kvs.length->Pv i σ H->H a=some (.frz o (.dT kvs)))(hs:∀i p b σ H,kvs[i]?=some p->H b=some (.tup (p.1.map kV))->Pv i σ H->∀D':Ends,(∀σ' H',Pv (i+1) σ' H'->D'.nx σ' H')->D'.rt=D.rt->tb D' (σ.set j (some (.ref b))) H)(hd:∀σ H,Pv kvs.length σ H->D.nx σ H) :
  ∃W:Nat->Nat->St->Hp->Prop,(∃m,W 0 m σ H)/\∀i m σ H,W i m σ H ->
   ((ItD o a).stop i H/\D.nx σ H)\/((ItD o a).go i H/\∃N:St->Hp->Prop,(∀σ' H',N σ' H'->∃m',m'<m/\W (i+1) m' σ' H')/\∀x H',(ItD o a).yld i H x H'->dv j x σ H' λσ2 H2=>tb { D with nx:=N,ct:=N,bk:=D.nx } σ2 H2):=by
 refine⟨λi m σ H=>m=kvs.length-i/\i<=kvs.length/\Pv i σ H,⟨kvs.length,by simp,ZM _,h0⟩,?_⟩;rintro i m σ H ⟨rfl,hi,p⟩;have q:=hl i σ H hi p;by_cases hlt:i<kvs.length
 ·refine .inr ⟨⟨kvs,q,hlt⟩,Pv (i+1),λσ' H' p'=>⟨kvs.length-(i+1),by omega,rfl,hlt,p'⟩,λx H' y=>?_⟩;obtain⟨e,y⟩:=y;subst e;obtain⟨pr,b,e1,rfl,e2⟩:=y kvs q;exact hs i pr b σ _ e1 e2 p _ (λ_ _ z=>z) rfl
 ·have e:i=kvs.length:=by omega
  subst e;exact .inl ⟨⟨kvs,q,Za _⟩,hd σ H p⟩
theorem qK{a:Jy}{o:Obj}{kvs:List (List Key×V)}{n:Nat}{cap:Js}{g:TG}{tc:TT}{te:TE}{σ:St}{H0:Hp}{Q:VK}(Pv:Nat->List V->Hp->Prop)(hz:kvs.length<=1000)(hn:∀i ys H,Pv i ys H->ys.length<=i)(h0:Pv 0 [] H0)(hl:∀i ys H,Pv i ys H->H a=some (.frz o (.dT kvs)))(ht:∀i ys H p b,kvs[i]?=some p->H b=some (.tup (p.1.map kV))->Pv i ys H->∀Y:List V->Hp->Prop,(∀zs H4,Pv (i+1) zs H4->Y zs H4)->g (.ref b) (dA n cap σ) H λσ2 H2=>tc σ2 H2 λb H3=>if b=true then te σ2 H3 λy H4=>Y (ys++[y]) H4 else Y ys H3)(hq:∀ys p H,Pv kvs.length ys H->H p=none->Q (.ref p) (upd H p (.lst ys))):jS n cap g tc te σ (ItD o a) H0 Q:=by
 refine⟨λi m ys H=>m=kvs.length-i/\i<=kvs.length/\Pv i ys H,⟨kvs.length,by simp,ZM _,h0⟩,?_⟩;rintro i m ys H ⟨rfl,hi,pv⟩;have q:=hl i ys H pv;by_cases hlt:i<kvs.length
 ·refine .inr ⟨⟨kvs,q,hlt⟩,?_,λx H' y=>?_⟩
  ·have:=hn i ys H pv;exact Nat.lt_of_le_of_lt (Zr this (by omega)) (show 1000<sizeLine by decide)
  ·obtain⟨e,y⟩:=y;subst e;obtain⟨pr,b,e1,rfl,e2⟩:=y kvs q;exact ht i ys _ pr b e1 e2 pv (λys H4=>∃m',m'<kvs.length-i/\m'=kvs.length-(i+1)/\i+1<=kvs.length/\Pv (i+1) ys H4) λzs H4 z=>⟨kvs.length-(i+1),by omega,rfl,hlt,z⟩
 ·have e:i=kvs.length:=by omega
  subst e;exact .inl ⟨⟨kvs,q,Za _⟩,λp hp=>hq ys p H pv hp⟩
theorem ro{prog:Jt}{w:Jx}{d:Jy}(hd:(d==sysModules)=false)(es:Array DictEntry)(ep:Nat) :
  MeetsIn prog w (Builtin.«dict.__len__» ⟨[.ref d],[]⟩) (λ_ R s=>DRaw s.heap d es ep/\R (.ok (.ret (.int es.size s.toks))) { s with toks:=s.toks+1 }) :=
 .of_wp λA R s ⟨hm,h⟩=>by obtain⟨o,ho,hc,hdat⟩:=hm;show wpAny _ _ (dictSize d >>= _) _ _ s;unfold dictSize;refine z0 (z0 (Yp ho hdat (z6 ?_)));show wpAny _ _ (Builtin.Dict.pendingCount d >>= _) _ _ s;refine z0 (wpAny_pendingCount_other hd ?_);refine wpAny_ret_mkInt ?_;rw[Nat.add_zero];exact h
theorem sh{prog:Jt}{w:Jx}{A:Jv}{E:Jh}{s:Ju}{d:Jy}{es:Array DictEntry}{ep:Nat}{Q:Jh}(hd:(d==sysModules)=false)(hm:DRaw s.heap d es ep)(hfit:(es.size:Int)<2^63)(h:Q (.int es.size (s.toks+1)) { s with toks:=s.toks+1+1 }):wpAny (model prog w) A (call (.builtin "len") [.ref d]) Q E s:=by
 refine Calls.call_function_entry kind_len plain_len entry_len (args_len1 _) ?_;unfold Builtin.«len»;refine z0 (m:=oneArg "len" _) (z6 ?_);refine z0 (m:=callSpecial? (.ref d) (Str.ofString "__len__")) (ZW (name:=Str.ofString "__len__") hm.type F.slot_dict_len
  (call_meetsIn F.slot_dict_len hm.type F.entry_dict_len (F.args_dict_len_1 _) (ro hd es ep) ⟨hm,?_⟩))
 show wpAny _ _ _ _ _ { s with toks:=s.toks+1 };refine z0 (Z1 (z6 ?_));refine z0 (wpAny_letGo ?_);show wpAny _ _ (if((es.size:Nat):Int)<0 then _ else _) _ _ _;rw[Jf (by omega)];show wpAny _ _ (if((es.size:Nat):Int)>=2^63 then _ else _) _ _ _;rw[Jf (by omega)];exact z0 (wpAny_mkInt (z6 ⟨_,rfl,h⟩))
section
variable{X:Cx}
theorem xQ:fu X (.builtin "len") (λxs H Q=>∃a kvs,xs=[V.ref a]/\Rd H a (.dT kvs)/\Q (.int kvs.length) H):=by intro JC s σ H xs us Q I r h;obtain⟨a,kvs,rfl,ha,q⟩:=h;obtain⟨u,rfl,ru⟩:=fz r;cases ru;obtain⟨z,hd,ys,rel,o,es,ep,h1,h2,h3,h4,_,_⟩:=iV I.hok ha;have e:es.size=kvs.length:=(size_of_entries h4).trans (Zu rel).symm;refine sh hd ⟨o,h1,h2,h3⟩ (by rw[e];rw[sizeLine_eq]at z;omega) ?_;rw[e];exact⟨.int kvs.length,H,I.tok _,⟨_,rfl⟩,q⟩
theorem D6:QCall X (.builtin "len") (λxs H Q=>∃a kvs,xs=[V.ref a]/\Rd H a (.dT kvs)/\Q (.int kvs.length) H):=⟨xQ⟩
end
section
variable{X:Cx}{JC:Jj}{σ:St}{H:Hp}{s:Ju}
theorem oO{A:Jv}{E:Jh}{P:PySem.Fin->Ju->Prop}{a:Jy}{n:Nat}{vs:Jn}(h2:vs.length<2)(ho:s.heap.get? a=some (seqObj "list" vs.toArray n))(h:∀(h3:JB) (c:Nat),(∀b u,b≠a->s.heap.get? b=some u->h3.get? b=some u)->h3.get? a=some (seqObj "list" vs.toArray c)->P (.done (.ret .none)) { s with heap:=h3 }) :
  wpAny (model X.prog X.w) A (Builtin.«list.sort» ⟨[.ref a],[]⟩) P E s:=by
 have zs:vs.toArray.size<=sizeLine:=by rw[Zg,sizeLine_eq];omega
 have s1:=ZP s.heap a (Obj.mapSeq λ_=>(#[]:Jm));obtain⟨e1,ho1⟩:∃e1,(s.heap.update a (Obj.mapSeq λ_=>(#[]:Jm))).get? a=some (seqObj "list" #[] e1):=⟨_,get?_update_seq ho λ_=>#[]⟩
 have ha3:(((s.heap.update a (Obj.mapSeq λ_=>(#[]:Jm))).push (seqObj "tuple" vs.toArray 0)).push (seqObj "list" #[] 0)).get? a=some (seqObj "list" #[] e1):=z9 _ (z9 _ ho1);have kp:∀b u,b≠a->s.heap.get? b=some u->(((s.heap.update a (Obj.mapSeq λ_=>(#[]:Jm))).push (seqObj "tuple" vs.toArray 0)).push (seqObj "list" #[] 0)).get? b=some u:=λb u hb g=>z9 _ (z9 _ ((s1.2 b hb).trans g));rw[list_sort_plain];refine z0 (listItems_at ho rfl ?_);refine z0 (listUpdate_at ho rfl ?_ zs (ZM _));refine z0 (seqEpoch_at ho1 rfl ?_);refine z0 (wpAny_newTuple ?_ zs);refine z0 (wpAny_newList ?_ (ZM _));refine Z1 ?_;show wpAny (model X.prog X.w) A _ P E { s with heap:=((s.heap.update a (Obj.mapSeq λ_=>(#[]:Jm))).push (seqObj "tuple" vs.toArray 0)).push (seqObj "list" #[] 0) };generalize((s.heap.update a (Obj.mapSeq λ_=>(#[]:Jm))).push (seqObj "tuple" vs.toArray 0)).push (seqObj "list" #[] 0)=h1 at ha3 kp ⊢;dsimp only;have hn2:vs.toArray.size<2:=by rw[Zg];exact h2
 rw[Jg hn2,Jg hn2];refine z0 (z6 ?_);rw[StateT.run_pure];refine z0 (z6 ?_);dsimp only;have em:Array.map (λx=>x.snd) (arrOf (SortSt.mk' general' (vs.toArray.zip vs.toArray) #[] 7 none))=vs.toArray:=by show Array.map (λx:Jw×Jw=>x.2) (vs.toArray.zip vs.toArray)=_;apply Array.toList_inj.mp;rw[Array.toList_map,Array.toList_zip];exact List.map_snd_zip (Za _)
 rw[em];have s2:=ZP h1 a (Obj.mapSeq λ_=>vs.toArray);obtain⟨c2,hc2⟩:∃c2,(h1.update a (Obj.mapSeq λ_=>vs.toArray)).get? a=some (seqObj "list" vs.toArray c2):=⟨_,get?_update_seq ha3 λ_=>vs.toArray⟩
 refine z0 (seqEpoch_at ha3 rfl ?_);refine z0 (listUpdate_at ha3 rfl ?_ (ZM _) (Nat.le_succ_of_le zs));simp only[bne_self_eq_false,Bool.false_eq_true,if_false];exact z6 (h _ c2 (λb u hb g=>(s2.2 b hb).trans (kp b u hb g)) hc2)
theorem tN{l:Jy}{xs:List V}{Q:VK}(I:Inv X JC σ H s)(hH:H l=some (.lst xs))(h2:xs.length<2)(q:∀D:Jy,H D=none->Q (.ref D) (upd H D (.lst xs))) :
  wpAny (model X.prog X.w) X.A (call (.builtin "sorted") [.ref l]) (EP X JC σ Q) X.xe s:=by
 obtain⟨z,its,n,rv,hlen,e⟩:=I.lstM hH;have li:its.length=xs.length:=hlen.symm;have zs:its.toArray.size<=sizeLine:=by rw[Zg,sizeLine_eq];omega
 refine Calls.call_function_entry kind_sorted plain_sorted entry_sorted (args_sorted1 _) ?_;unfold Builtin.«sorted»;refine z0 (m:=checkCount "sorted" 1 1 _) (z6 (z0 (collect_list ⟨_,e,rfl,n,rfl⟩ (z0 (wpAny_newList ?_ zs)) zs)));have z1:((s.heap.push (seqObj "list" #[] 0)).update s.heap.objs.size (Obj.mapSeq (·++its.toArray))).objs.size=s.heap.objs.size+1:=by rw[Heap.size_update,size_push']
 have g1:(((s.heap.push (seqObj "list" #[] 0)).update s.heap.objs.size (Obj.mapSeq (·++its.toArray))).push (seqObj "list" its.toArray 0)).get? (s.heap.objs.size+1)=some (seqObj "list" its.toArray 0):=by rw[<-z1];exact Zo _ rfl
 have kp:∀b o,s.heap.get? b=some o->(((s.heap.push (seqObj "list" #[] 0)).update s.heap.objs.size (Obj.mapSeq (·++its.toArray))).push (seqObj "list" its.toArray 0)).get? b=some o:=λb o g=>by have lt:=Zm g;rw[Heap.get?_push_ne _ _ _ (by rw[z1];exact Zy (Nat.lt_succ_of_lt lt)),Heap.get?_update_ne _ _ _ _ (Zy lt),Heap.get?_push_ne _ _ _ (Zy lt)];exact g
 show wpAny _ _ _ _ _ { s with heap:=((s.heap.push (seqObj "list" #[] 0)).update s.heap.objs.size (Obj.mapSeq (·++its.toArray))).push (seqObj "list" its.toArray 0) };rw[z1];generalize(((s.heap.push (seqObj "list" #[] 0)).update s.heap.objs.size (Obj.mapSeq (·++its.toArray))).push (seqObj "list" its.toArray 0))=hA at g1 kp ⊢;refine z0 (Z1 (Z2 slot_list_sort ⟨_,g1,rfl⟩ entry_list_sort ?body (args_list_sort _)))
 case body =>
  refine oO (X:=X) (s:={ s with heap:=hA }) (by omega) g1 λh3 c k3 a3=>⟨_,rfl,z6 ⟨_,rfl,?_⟩⟩
  have da:s.heap.get? (s.heap.objs.size+1)=none:=YA (Nat.le_succ _);exact⟨.ref _,_,I.laid (t':=s.toks) (o:=.lst xs) (λb o g=>k3 b o (λzz=>by rw[zz,da]at g;cases g) (kp b o g)) (Nat.le_succ _) ⟨z,its,c,rv,a3⟩,rfl,q _ (none_of I da)⟩
def FZ(H0:Hp)(t:TS):TS:=λD σ H=>t { D with nx:=λσ' H'=>∃a o u,H' a=some (.frz o u)/\Loose H0 a/\D.nx σ' (upd H' a u) } σ H
theorem FJ{st:JA}{t:TS}(h:QS X st t):QS X st (FZ X.H₀ t):=⟨λJC s σ H D I q=>thn (h.h JC s σ H _ I q) λf s1 z=>by
 cases f with
 |next =>obtain⟨σ',H',I1,a,o,u,e1,l,q1⟩:=z;exact⟨σ',_,I1.thaw e1 l.1 l.2.1 l.2.2,q1⟩
 |brk=>exact z
 |cont=>exact z
 | ret u=>exact z⟩
theorem zl{K:W.Frag}{e:Jz}{f:Str}{ta:TE}{pos:Pos}(hK:X.K=K)(he:QE X e ta)(hb:attributeBase e f X.env (eval e X.env)=eval e X.env:=by rfl):QE X (.Attribute e f pos) (Bo K ta f):=by subst hK;exact bS he hb
theorem uA:QCall X (.builtin "sorted") (λxs H Q=>∃ (p:Jy) (as:List Jy) (ks:List Jq),xs=[.ref p]/\H p=some (.lst (as.map V.ref))/\as.length<64/\ks.length=as.length/\(∀ k∈ks,k≠[])/\(∀ (i:Nat) (a:Jy) (k:Jq),as[i]? = some a->ks[i]? = some k->H a=some (.tup (k.map V.int))) /\
  ∀ (pm:Jo) (D:Jy),POk as.length pm->LS (λi j=>HT.lexLt (ks.getD i []) (ks.getD j [])) pm as.length->H D=none->Q (.ref D) (upd H D (.lst (pm.toList.map λi=>(as.map V.ref).getD i .non)))):=by
 refine⟨?_⟩;intro JC s σ H xs us Q I r h;obtain⟨p,as,ks,rfl,hp,h64,hl,hne,hk,q⟩:=h;obtain⟨u,rfl,ru⟩:=fz r;cases ru;by_cases h2:as.length<2
 ·refine tN I hp (by rw[Ze];exact h2) λD hD=>?_;have e:((List.range as.length).toArray.toList.map λi=>(as.map V.ref).getD i V.non)=as.map V.ref:=by refine List.ext_getElem (by simp) λi h1 h2=>?_;rw[Ze]at h2;simp[h2]
  have:=q (List.range as.length).toArray D (Array.Perm.refl _) (λi j hij hj=>by omega) hD;rw[e]at this;exact this
 obtain⟨z,its,n,rv,hlen,e⟩:=I.lstM hp;rw[Ze]at hlen;have eits:its=as.map Value.ref:=by
  clear e z hlen hp hk q hl h2 h64;induction as generalizing its with
  |nil=>cases rv;rfl
  |cons a as ih =>
   cases rv with
   |cons r1 r2 =>cases r1;rw[ih _ r2];rfl
 subst eits;obtain⟨m,F0⟩:=I.fr;refine kat_sorted (vs:=as.map Value.ref) F0 (jw X.base s.heap X.env.locals) ⟨_,e,rfl,n,rfl⟩ (by rw[Ze];omega) (by rw[Ze];omega) λD e1 h1 F1 N1 hD=>?_;have mv0:∀b u,b≠X.env.locals->b∉([]:List Jy)->s.heap.get? b=some u->h1.get? b=some u:=λb u hL _ g=>by
  cases qb:X.base.get? b with
  |none=>exact(N1 (b,u) (.tail _ (dF g hL qb))).1
  |some o =>have e':=I.bk b o qb;rw[g]at e';cases e';exact F1.keep b u qb
 have I1:Inv X JC σ H { s with heap:=h1 }:=Inv.movedF (ch:=[]) (t':=s.toks) I (λb hb=>absurd hb (by simp)) mv0 ⟨m,F0.ns,F1.ns⟩;obtain⟨fs,t1,t2,t3⟩:=sM I1 hne as 0 (by omega) (λi a k h1 h2=>hk i a k h1 (by rw[Nat.zero_add]at h2;exact h2));refine kat_kind (T:=.type "int") t1 (by omega) (λv hv=>?_) rfl ?_
 ·obtain⟨i,t,rfl⟩:=t3 v hv;exact .now
 rw[Ze];refine qa (n:=as.length) (lt:=λi j=>HT.lexLt (ks.getD i []) (ks.getD j [])) (λi j C hi hj hC=>?_) (λpm hpm hs=>?_) (sO (by omega)) (uS (yD ks) (by omega))
 ·have ga:∀i,i<as.length->∃a:Jy,(as.map Value.ref).getD i Value.none=.ref a/\H a=some (.tup ((ks.getD i []).map V.int)):=λi hi=>by
   have h1:as[i]?=some (as[i]'(by omega)):=Zd (by omega);have h2:ks[i]?=some (ks[i]'(by omega)):=Zd (by omega);refine⟨as[i]'(by omega),?_,?_⟩
   ·rw[Zv,ZE,h1];rfl
   ·have:=hk i _ _ h1 h2;rw[Zv,h2];exact this
  obtain⟨a,ea,ha⟩:=ga i hi;obtain⟨b,eb,hb'⟩:=ga j hj;obtain⟨ia,ra,pa,za⟩:=I1.tuple (JF (K:=X.K) ha);obtain⟨ib,rb,pb,zb⟩:=I1.tuple (JF (K:=X.K) hb');obtain⟨oa,eoa,ca,n1,da⟩:=id pa;obtain⟨ob,eob,cb,n2,db⟩:=id pb;unfold kas_ask;rw[ea,eb];exact kat_lt eoa da eob db (tZ _ _ _ _ 0 (bZ ra) (bZ rb) (by rw[Zg,Zg,<-ra.length,<-rb.length,Ze,Ze]) hC)
 ·have hDL:D≠X.env.locals:=(N1 (D,seqObj "list" #[] e1) (.head _)).2.1;have hDs:s.heap.get? D=none:=by
   cases g:s.heap.get? D with
   |none=>rfl
   |some o=>exact absurd (hD (D,o) (dF g hDL (N1 (D,seqObj "list" #[] e1) (.head _)).2.2)) (Yl _)
  have pl:∀i∈pm.toList,i<as.length:=λi hi=>by have:=(hpm.mem_iff).mp (YB.mp hi);simpa using this
  have vals:∀(w:Js),(∀i∈w,i<as.length)->Vals (w.map λi=>(as.map V.ref).getD i .non) (w.map λi=>(as.map Value.ref).getD i Value.none):=λw=>by
   induction w with
   |nil=>intro _;exact .nil
   |cons i w ih =>intro hw;have hi:=hw i Zl;refine .cons ?_ (ih λj hj=>hw j (Zf _ hj));show RelV ((as.map V.ref).getD i V.non) ((as.map Value.ref).getD i Value.none);rw[Zv,Zv,ZE,ZE,Zd hi];rfl
  have lp:pm.toList.length=as.length:=by have:=hs.1;simpa using this
  refine KasFin.intro (news:=(D,seqObj "list" #[] e1)::pz X.base s.heap X.env.locals) F1 N1 (.head λp hp=>Zy (hD p hp)) λh2 c F2 N2=>?_;refine⟨.ref D,_,I.laidF (o:=.lst (pm.toList.map λi=>(as.map V.ref).getD i .non)) (t':=s.toks) (λb o hL g=>?_) ⟨m,F0.ns,F2.ns⟩ hDs ⟨by rw[Ze,lp];exact bD (by omega),_,c,vals _ pl,(N2 (D,_) (.head _)).1⟩,rfl,q pm D hpm hs.2 (none_of I hDs)⟩;cases q:X.base.get? b with
  |none=>exact(N2 (b,o) (.tail _ (dF g hL q))).1
  |some o' =>have e':=I.bk b o' q;rw[g]at e';cases e';exact F2.keep b o q
end
section
variable{X:Cx}{JC:Jj}{σ:St}{H:Hp}{s:Ju}
theorem zB{p:Jy}{kvs:List (List Key×V)}(hc:X.calm=true)(I:Inv X JC σ H s)(hq:Rd H p (.dT kvs)):∃ks,dh H kvs ks/\DX X s p ks:=by
 obtain⟨z,hd,xs,rel,o,es,ep,h1,h2,h3,h4,_,_⟩:=iV I.hok hq;have hsz:es.size=xs.length:=size_of_entries h4;have hkl:kvs.length=xs.length:=Zu rel;refine⟨_,oJ rel,λQ h=>?_⟩;refine kdu_collect (vw (es:=es) (ep:=ep) hd) (I.ok.hd hc) ⟨o,h1,h2,h3⟩ (by omega) λh' tk acc' kp hacc=>h h' tk _ kp ?_;have gen:∀(vs:Jn) (ys:List (List Key×Jy×Jw)),vs.length=ys.length->(∀(j:Nat) (v:Jw),vs[j]?=some v->∃x:List Key×Jy×Jw,ys[j]?=some x/\v=Value.ref x.2.1)->Vals (ys.map fun(x:List Key×Jy×Jw)=>V.ref x.2.1) vs:=by
  intro vs;induction vs with
  |nil =>
   intro ys hl _;cases ys with
   |nil=>exact .nil
   |cons _ _=>cases hl
  |cons v vs ih =>
   intro ys hl hv;cases ys with
   |nil=>cases hl
   |cons y ys =>obtain⟨x,e1,e2⟩:=hv 0 v rfl;cases e1;exact .cons e2 (ih ys (by simpa using hl) λj v' e'=>hv (j+1) v' (by simpa using e'))
 refine gen _ _ (by rw[Zx,hacc.1,hsz]) λj v e'=>?_;obtain⟨en,e1,e2⟩:=hacc.2 j v (by rw[<-YO];exact e');rw[entry_at h4]at e1;obtain⟨x,e3,e4⟩:=ZZ.mp e1;refine⟨x,e3,?_⟩;rw[e2,<-e4];rfl
end
section
variable{prog:Jt}{w:Jx}{A:Jv}{E:Jh}{s:Ju}
theorem xF{α:Type}{M:Model}{c:Prop}[Decidable c]{x y:Sem α}{Q:α->Ju->Prop}(h1:c->wpAny M A x Q E s)(h2:¬c->wpAny M A y Q E s):wpAny M A (if c then x else y) Q E s:=by
 by_cases h:c
 ·rw[Jg h];exact h1 h
 ·rw[Jf h];exact h2 h
def cW(prog:Jt)(w:Jx):Option (List Key)->Int
 |none=>0xFCA86420
 |some k=>(tupleKind (bh prog w)).hash k
def OIs(prog:Jt)(w:Jx)(h:JB):Option (List Key)->Jw->Prop
 |none,v=>v=.none
 |some k,v=>∃a,v=.ref a/\(tupleKind (bh prog w)).is h k a
theorem qX{k:Option (List Key)}{v:Jw}{Q:Int->Ju->Prop}(hu2:A.units<cLine)(h:OIs prog w s.heap k v)(q:∀tk,Q (cW prog w k) { s with toks:=tk }):wpAny (model prog w) A (pyHash v) Q E s:=by
 cases k with
 |none =>rw[show v=.none from h];exact pyHash_slot (T:="NoneType") rfl F.slot_NoneType_hash F.entry_NoneType_hash (F.args_NoneType_hash_1 _) (beq_builtin_none _) (.inr hu2) (z0 (z6 (z0 (wpAny_mkInt (z6 ⟨_,_,rfl,q _⟩)))))
 |some k =>obtain⟨a,rfl,h⟩:=h;exact(tupleKind (bh prog w)).pyHash hu2 h (q _)
theorem OIs.tup{k:List Key}{a:Jy}{h:JB}(x:(tupleKind (bh prog w)).is h k a):∃vs,h.IsTuple a vs:=by obtain⟨o,items,n,h1,h2,h3,_⟩:=x;exact⟨items,o,h1,h2,n,h3⟩
theorem jJ{x y:Option (List Key)}{u v:Jw}{Q:Bool->Ju->Prop}(hu2:A.units<cLine)(h1:OIs prog w s.heap x u)(h2:OIs prog w s.heap y v)(q:Q (decide (x=y)) s):wpAny (model prog w) A (eqBool u v) Q E s:=by
 cases x with
 |none =>
  rw[show u=.none from h1];cases y with
  |none =>rw[show v=.none from h2];exact SeqAt.EqAt.same _ _ _ _ _ q
  |some k =>obtain⟨b,rfl,h2⟩:=h2;obtain⟨vs,ht⟩:=OIs.tup h2;exact SeqAt.EqAt.none_tuple ht hu2 _ _ _ _ q
 |some k =>
  obtain⟨a,rfl,h1⟩:=h1;cases y with
  |none =>rw[show v=.none from h2];obtain⟨vs,ht⟩:=OIs.tup h1;exact SeqAt.EqAt.tuple_none ht hu2 _ _ _ _ q
  |some l =>obtain⟨b,rfl,h2⟩:=h2;refine(tupleKind (bh prog w)).eqBool hu2 h1 h2 ?_;rw[show decide (k=l)=decide (some k=some l) by rw[decide_eq_decide];simp];exact q
theorem OIs.inj{h:JB}{x y:Option (List Key)}{a:Jy}(h1:OIs prog w h x (.ref a))(h2:OIs prog w h y (.ref a)):x=y:=by
 cases x with
 |none=>cases h1
 |some k =>
  cases y with
  |none=>cases h2
  |some l =>obtain⟨b,e,h1⟩:=h1;cases e;obtain⟨b,e,h2⟩:=h2;cases e;rw[(tupleKind (bh prog w)).inj h1 h2]
theorem yK{k:Option (List Key)}{v:Jw}{Q:Bool->Ju->Prop}(h:OIs prog w s.heap k v)(q:Q true s):wpAny (model prog w) A (eqIsQuiet 8 v) Q E s:=by
 cases k with
 |none =>rw[show v=.none from h];exact z6 q
 |some k =>obtain⟨a,rfl,h⟩:=h;exact(tupleKind (bh prog w)).quiet h q
theorem yL{key:Jw}{k:Option (List Key)}{stored:Jn}{Q:Bool->Ju->Prop}(hkey:OIs prog w s.heap k key)(hst:∀v∈stored,∃k',OIs prog w s.heap k' v)(q:Q false s):wpAny (model prog w) A (tableMayTell key stored) Q E s:=by
 unfold tableMayTell;by_cases he:stored.isEmpty=true
 ·rw[Jg he];exact z6 q
 ·rw[Jf he];refine z0 (yK hkey ?_);rw[Jf (by simp)];refine z0 (Yt _ (λrest b s'=>s'=s/\b=(none,())/\∀v∈rest,∃k',OIs prog w s.heap k' v) _ (λx rest b s' h=>?_) (λb s' h=>?_) _ _ ⟨rfl,rfl,hst⟩)
  ·obtain⟨rfl,rfl,hr⟩:=h;obtain⟨k',hk'⟩:=hr x Zl;refine z0 (yK hk' ?_);rw[Jf (by simp)];exact z6 ⟨rfl,rfl,λv hv=>hr v (Zf _ hv)⟩
  ·obtain⟨rfl,rfl,_⟩:=h;exact z6 q
abbrev cA:=Option (List Key)×Jw×Jw
def eY(prog:Jt)(w:Jx)(x:cA):DictEntry:=⟨cW prog w x.1,x.2.1,x.2.2⟩
structure ODict(prog:Jt)(w:Jx)(h:JB)(d:Jy)(o:Obj)(es:Array DictEntry)(ep:Nat)(xs:List cA):Prop where
 ho:h.get? d=some o
 hd:o.data=.dict es ep
 he:es.toList=xs.map (eY prog w)
 his:∀x∈xs,OIs prog w h x.1 x.2.1
 hn:(xs.map (·.1)).Nodup
theorem ODict.at{d:Jy}{o:Obj}{es:Array DictEntry}{ep:Nat}{xs:List cA}{h:JB}(D:ODict prog w h d o es ep xs)(j:Nat):es[j]?=(xs[j]?).map (eY prog w):=by rw[<-YO,D.he,ZE]
theorem ODict.one{d:Jy}{o:Obj}{es:Array DictEntry}{ep:Nat}{xs:List cA}{h:JB}(D:ODict prog w h d o es ep xs){i j:Nat}{x y:cA}(hx:xs[i]?=some x)(hy:xs[j]?=some y)(e:x.1=y.1):i=j:=by
 have h1:(xs.map (·.1))[i]?=some x.1:=by rw[ZE,hx];rfl
 have h2:(xs.map (·.1))[j]?=some x.1:=by rw[ZE,hy,e];rfl
 exact(List.getElem?_inj (ZB.mp h1).1 D.hn).mp (h1.trans h2.symm)
def oPl(es:Array DictEntry)(h:Int):Js:=placesWithHash es.size (λi=>es[i]?.map (·.hash)) h
theorem oW(es:Array DictEntry)(h:Int):(oPl es h).Nodup:=List.Pairwise.filter _ List.nodup_range
theorem ODict.pl{d:Jy}{o:Obj}{es:Array DictEntry}{ep:Nat}{xs:List cA}{h:JB}(D:ODict prog w h d o es ep xs){k:Option (List Key)}{j:Nat}{x:cA}(hx:xs[j]?=some x)(e:x.1=k):j∈oPl es (cW prog w k):=by
 have hj:es[j]?=some (eY prog w x):=by rw[D.at,hx];rfl
 refine ZQ.mpr ⟨Yv.mpr (Ys.mp hj).1,?_⟩;dsimp only;rw[hj];simp[eY,e]
theorem ODict.of_pl{d:Jy}{o:Obj}{es:Array DictEntry}{ep:Nat}{xs:List cA}{h:JB}(D:ODict prog w h d o es ep xs){z:Int}{j:Nat}(hj:j∈oPl es z):∃x,xs[j]?=some x/\es[j]?=some (eY prog w x)/\cW prog w x.1=z:=by
 obtain⟨h1,h2⟩:=ZQ.mp hj;have hl:=Yv.mp h1;have e:=D.at j;rw[Yj hl]at e;obtain⟨x,hx,hx2⟩:=ZZ.mp e.symm;have e2:es[j]?=some (eY prog w x):=by rw[Yj hl,hx2]
 refine⟨x,hx,e2,?_⟩;dsimp only at h2;rw[e2]at h2;simpa[eY]using h2
theorem sI{d:Jy}{o:Obj}{es:Array DictEntry}{ep:Nat}{xs:List cA}{k:Option (List Key)}{key:Jw}{Q:Option Nat->Ju->Prop}(hu:A.units<cLine)(hkey:OIs prog w s.heap k key)(D:ODict prog w s.heap d o es ep xs)(hnone:(∀(j:Nat) (x:cA),xs[j]?=some x->x.1≠k)->Q none s)(hsome:∀(j:Nat) (x:cA),xs[j]?=some x->x.1=k->Q (some j) s):wpAny (model prog w) A (dictFind d key (cW prog w k)) Q E s:=by
 have hst:∀v∈(oPl es (cW prog w k)).filterMap (λi=>es[i]?.map (·.key)),∃k',OIs prog w s.heap k' v:=λv hv=>by obtain⟨i,hi,e⟩:=Ya.mp hv;obtain⟨x,h1,h2,_⟩:=D.of_pl hi;rw[h2]at e;cases e;exact⟨x.1,D.his x (ZH h1)⟩
 have plain:wpAny (model prog w) A (dictWalkPlain d key (cW prog w k) es (oPl es (cW prog w k))) Q E s:=by
  unfold dictWalkPlain;refine z0 (Yt _ (λrest b s'=>s'=s/\b=(none,())/\(∀i∈rest,i∈oPl es (cW prog w k))/\∀(j:Nat) (x:cA),xs[j]?=some x->x.1=k->j∈rest) _ (λi rest b s' h=>?_) (λb s' h=>?_) _ _ ⟨rfl,rfl,λ_ z=>z,λj x h1 h2=>D.pl h1 h2⟩)
  ·obtain⟨rfl,rfl,sub,all⟩:=h;obtain⟨x,h1,h2,h3⟩:=D.of_pl (sub i Zl);rw[h2];dsimp only;rw[Jg (by simp[eY,h3])];refine z0 (Z4 D.ho D.hd (z0 (jJ hu (D.his x (ZH h1)) hkey (z0 (Z4 D.ho D.hd ?_)))));rw[Jf (by simp)];by_cases e:x.1=k
   ·rw[decide_eq_true e,Jg rfl];exact z0 (Z8 (z6 (z6 (hsome i x h1 e))))
   ·rw[decide_eq_false e,Jf (by simp)];refine z0 (Z8 (z6 ⟨rfl,rfl,λi hi=>sub i (Zf _ hi),λj y g1 g2=>(Zj.mp (all j y g1 g2)).resolve_left λz=>e ?_⟩));subst z;rw[h1]at g1;cases g1;exact g2
  ·obtain⟨rfl,rfl,sub,all⟩:=h;refine z6 (hnone λj x h1 h2=>?_);exact absurd (all j x h1 h2) (by simp)
 unfold dictFind;refine Z1 ?_;refine z0 (Yp D.ho D.hd ?_);have shape:key=.none\/∃a,key=.ref a:=by
  cases k with
  |none=>exact .inl hkey
  |some kk=>obtain⟨a,e,_⟩:=hkey;exact .inr ⟨a,e⟩
 rcases shape with rfl|⟨a,rfl⟩
 ·dsimp only;refine xF (λ_=>?_) (λ_=>?_)
  ·exact plain
  ·refine xF (λ_=>?_) (λ_=>?_)
   ·refine z0 (z6 ?_);rw[Jf (by simp)];refine z0 (Yt _ (λrest b s'=>s'=s/\rest.Nodup/\(∀i∈rest,i∈oPl es (cW prog w k))/\∃hit,b=(none,hit)/\((hit=none/\∀(j:Nat) (x:cA),xs[j]?=some x->x.1=k->j∈rest)\/∃(j:Nat) (x:cA),hit=some j/\xs[j]?=some x/\x.1=k/\j∉rest)) _ (λi rest b s' h=>?_) (λb s' h=>?_) _ _ ⟨rfl,oW _ _,λ_ z=>z,none,rfl,.inl ⟨rfl,λj x h1 h2=>D.pl h1 h2⟩⟩)
    ·obtain⟨rfl,nd,sub,hit,rfl,hh⟩:=h;obtain⟨x,h1,h2,h3⟩:=D.of_pl (sub i Zl);have nd':=(ZG.mp nd).2;have ni:=(ZG.mp nd).1;have sub':∀i∈rest,i∈oPl es (cW prog w k):=λi hi=>sub i (Zf _ hi);rw[h2];dsimp only;rw[Jg (by simp[eY,h3])];refine z0 (Z4 D.ho D.hd (z0 (jJ hu (D.his x (ZH h1)) hkey (z0 (Z4 D.ho D.hd ?_)))));rw[Jf (by simp)];by_cases e:x.1=k
     ·rw[decide_eq_true e,Jg rfl];rcases hh with⟨rfl,all⟩|⟨j,y,rfl,g1,g2,g3⟩
      ·rw[Jf (by simp)];refine z0 (Z8 ?_);split
       ·exact z6 (z6 (hsome i x h1 e))
       ·exact z6 ⟨rfl,nd',sub',some i,rfl,.inr ⟨i,x,rfl,h1,e,ni⟩⟩
      ·exact absurd (D.one g1 h1 (g2.trans e.symm)) λz=>g3 (by rw[z];exact Zl)
     ·rw[decide_eq_false e,Jf (by simp)];refine z0 (Z8 ?_);rw[Jf (by simp)];refine z6 ⟨rfl,nd',sub',hit,rfl,?_⟩;rcases hh with⟨rfl,all⟩|⟨j,y,rfl,g1,g2,g3⟩
      ·refine .inl ⟨rfl,λj y g1 g2=>(Zj.mp (all j y g1 g2)).resolve_left λz=>e ?_⟩;subst z;rw[h1]at g1;cases g1;exact g2
      ·exact .inr ⟨j,y,rfl,g1,g2,λz=>g3 (Zf _ z)⟩
    ·obtain⟨rfl,_,_,hit,rfl,hh⟩:=h;rcases hh with⟨rfl,all⟩|⟨j,y,rfl,g1,g2,_⟩
     ·exact z6 (hnone λj x h1 h2=>absurd (all j x h1 h2) (by simp))
     ·exact z6 (hsome j y g1 g2)
   ·refine z0 (yL hkey hst ?_);rw[Jf (by simp)];refine z0 (Yt _ (λrest b s'=>s'=s/\rest.Nodup/\(∀i∈rest,i∈oPl es (cW prog w k))/\∃hit,b=(none,hit)/\((hit=none/\∀(j:Nat) (x:cA),xs[j]?=some x->x.1=k->j∈rest)\/∃(j:Nat) (x:cA),hit=some j/\xs[j]?=some x/\x.1=k/\j∉rest)) _ (λi rest b s' h=>?_) (λb s' h=>?_) _ _ ⟨rfl,oW _ _,λ_ z=>z,none,rfl,.inl ⟨rfl,λj x h1 h2=>D.pl h1 h2⟩⟩)
    ·obtain⟨rfl,nd,sub,hit,rfl,hh⟩:=h;obtain⟨x,h1,h2,h3⟩:=D.of_pl (sub i Zl);have nd':=(ZG.mp nd).2;have ni:=(ZG.mp nd).1;have sub':∀i∈rest,i∈oPl es (cW prog w k):=λi hi=>sub i (Zf _ hi);rw[h2];dsimp only;rw[Jg (by simp[eY,h3])];refine z0 (Z4 D.ho D.hd (z0 (jJ hu (D.his x (ZH h1)) hkey (z0 (Z4 D.ho D.hd ?_)))));rw[Jf (by simp)];by_cases e:x.1=k
     ·rw[decide_eq_true e,Jg rfl];rcases hh with⟨rfl,all⟩|⟨j,y,rfl,g1,g2,g3⟩
      ·rw[Jf (by simp)];refine z0 (Z8 ?_);split
       ·exact z6 (z6 (hsome i x h1 e))
       ·exact z6 ⟨rfl,nd',sub',some i,rfl,.inr ⟨i,x,rfl,h1,e,ni⟩⟩
      ·exact absurd (D.one g1 h1 (g2.trans e.symm)) λz=>g3 (by rw[z];exact Zl)
     ·rw[decide_eq_false e,Jf (by simp)];refine z0 (Z8 ?_);rw[Jf (by simp)];refine z6 ⟨rfl,nd',sub',hit,rfl,?_⟩;rcases hh with⟨rfl,all⟩|⟨j,y,rfl,g1,g2,g3⟩
      ·refine .inl ⟨rfl,λj y g1 g2=>(Zj.mp (all j y g1 g2)).resolve_left λz=>e ?_⟩;subst z;rw[h1]at g1;cases g1;exact g2
      ·exact .inr ⟨j,y,rfl,g1,g2,λz=>g3 (Zf _ z)⟩
    ·obtain⟨rfl,_,_,hit,rfl,hh⟩:=h;rcases hh with⟨rfl,all⟩|⟨j,y,rfl,g1,g2,_⟩
     ·exact z6 (hnone λj x h1 h2=>absurd (all j x h1 h2) (by simp))
     ·exact z6 (hsome j y g1 g2)
 ·dsimp only;rw[Jf (by simp[carriedByValue]),Jf (λz=>?_)]
  ·refine xF (λ_=>?_) (λ_=>?_)
   ·refine z0 (z6 ?_);rw[Jf (by simp)];refine z0 (Yt _ (λrest b s'=>s'=s/\rest.Nodup/\(∀i∈rest,i∈oPl es (cW prog w k))/\∃hit,b=(none,hit)/\((hit=none/\∀(j:Nat) (x:cA),xs[j]?=some x->x.1=k->j∈rest)\/∃(j:Nat) (x:cA),hit=some j/\xs[j]?=some x/\x.1=k/\j∉rest)) _ (λi rest b s' h=>?_) (λb s' h=>?_) _ _ ⟨rfl,oW _ _,λ_ z=>z,none,rfl,.inl ⟨rfl,λj x h1 h2=>D.pl h1 h2⟩⟩)
    ·obtain⟨rfl,nd,sub,hit,rfl,hh⟩:=h;obtain⟨x,h1,h2,h3⟩:=D.of_pl (sub i Zl);have nd':=(ZG.mp nd).2;have ni:=(ZG.mp nd).1;have sub':∀i∈rest,i∈oPl es (cW prog w k):=λi hi=>sub i (Zf _ hi);rw[h2];dsimp only;rw[Jg (by simp[eY,h3])];refine z0 (Z4 D.ho D.hd (z0 (jJ hu (D.his x (ZH h1)) hkey (z0 (Z4 D.ho D.hd ?_)))));rw[Jf (by simp)];by_cases e:x.1=k
     ·rw[decide_eq_true e,Jg rfl];rcases hh with⟨rfl,all⟩|⟨j,y,rfl,g1,g2,g3⟩
      ·rw[Jf (by simp)];refine z0 (Z8 ?_);split
       ·exact z6 (z6 (hsome i x h1 e))
       ·exact z6 ⟨rfl,nd',sub',some i,rfl,.inr ⟨i,x,rfl,h1,e,ni⟩⟩
      ·exact absurd (D.one g1 h1 (g2.trans e.symm)) λz=>g3 (by rw[z];exact Zl)
     ·rw[decide_eq_false e,Jf (by simp)];refine z0 (Z8 ?_);rw[Jf (by simp)];refine z6 ⟨rfl,nd',sub',hit,rfl,?_⟩;rcases hh with⟨rfl,all⟩|⟨j,y,rfl,g1,g2,g3⟩
      ·refine .inl ⟨rfl,λj y g1 g2=>(Zj.mp (all j y g1 g2)).resolve_left λz=>e ?_⟩;subst z;rw[h1]at g1;cases g1;exact g2
      ·exact .inr ⟨j,y,rfl,g1,g2,λz=>g3 (Zf _ z)⟩
    ·obtain⟨rfl,_,_,hit,rfl,hh⟩:=h;rcases hh with⟨rfl,all⟩|⟨j,y,rfl,g1,g2,_⟩
     ·exact z6 (hnone λj x h1 h2=>absurd (all j x h1 h2) (by simp))
     ·exact z6 (hsome j y g1 g2)
   ·refine z0 (yL hkey hst ?_);rw[Jf (by simp)];refine z0 (Yt _ (λrest b s'=>s'=s/\rest.Nodup/\(∀i∈rest,i∈oPl es (cW prog w k))/\∃hit,b=(none,hit)/\((hit=none/\∀(j:Nat) (x:cA),xs[j]?=some x->x.1=k->j∈rest)\/∃(j:Nat) (x:cA),hit=some j/\xs[j]?=some x/\x.1=k/\j∉rest)) _ (λi rest b s' h=>?_) (λb s' h=>?_) _ _ ⟨rfl,oW _ _,λ_ z=>z,none,rfl,.inl ⟨rfl,λj x h1 h2=>D.pl h1 h2⟩⟩)
    ·obtain⟨rfl,nd,sub,hit,rfl,hh⟩:=h;obtain⟨x,h1,h2,h3⟩:=D.of_pl (sub i Zl);have nd':=(ZG.mp nd).2;have ni:=(ZG.mp nd).1;have sub':∀i∈rest,i∈oPl es (cW prog w k):=λi hi=>sub i (Zf _ hi);rw[h2];dsimp only;rw[Jg (by simp[eY,h3])];refine z0 (Z4 D.ho D.hd (z0 (jJ hu (D.his x (ZH h1)) hkey (z0 (Z4 D.ho D.hd ?_)))));rw[Jf (by simp)];by_cases e:x.1=k
     ·rw[decide_eq_true e,Jg rfl];rcases hh with⟨rfl,all⟩|⟨j,y,rfl,g1,g2,g3⟩
      ·rw[Jf (by simp)];refine z0 (Z8 ?_);split
       ·exact z6 (z6 (hsome i x h1 e))
       ·exact z6 ⟨rfl,nd',sub',some i,rfl,.inr ⟨i,x,rfl,h1,e,ni⟩⟩
      ·exact absurd (D.one g1 h1 (g2.trans e.symm)) λz=>g3 (by rw[z];exact Zl)
     ·rw[decide_eq_false e,Jf (by simp)];refine z0 (Z8 ?_);rw[Jf (by simp)];refine z6 ⟨rfl,nd',sub',hit,rfl,?_⟩;rcases hh with⟨rfl,all⟩|⟨j,y,rfl,g1,g2,g3⟩
      ·refine .inl ⟨rfl,λj y g1 g2=>(Zj.mp (all j y g1 g2)).resolve_left λz=>e ?_⟩;subst z;rw[h1]at g1;cases g1;exact g2
      ·exact .inr ⟨j,y,rfl,g1,g2,λz=>g3 (Zf _ z)⟩
    ·obtain⟨rfl,_,_,hit,rfl,hh⟩:=h;rcases hh with⟨rfl,all⟩|⟨j,y,rfl,g1,g2,_⟩
     ·exact z6 (hnone λj x h1 h2=>absurd (all j x h1 h2) (by simp))
     ·exact z6 (hsome j y g1 g2)
  ·rw[<-Array.any_toList,List.any_eq_true]at z;obtain⟨e,he,hc⟩:=z;rw[D.he]at he;obtain⟨x,hx,rfl⟩:=ZF.mp he;simp only[eY,ZD,ZO,bne_iff_ne,ne_eq]at hc;have h1:=D.his x hx;rw[hc.1]at h1;exact hc.2 (by rw[OIs.inj h1 hkey])
end
section
variable{prog:Jt}{w:Jx}{A:Jv}{E:Jh}{s:Ju}
theorem xy{d:Jy}{o:Obj}{es:Array DictEntry}{ep:Nat}{xs:List cA}{k:Option (List Key)}{key v:Jw}{Q:Jh}(hu:A.units<cLine)(hkey:OIs prog w s.heap k key)(D:ODict prog w s.heap d o es ep xs)(hc:o.ExactDict)(hz:es.size<=sizeLine)(hold:∀(j:Nat) (x:cA) (tk:Nat),xs[j]?=some x->x.1=k->Q x.2.2 { s with toks:=tk })(hnew:(∀(j:Nat) (x:cA),xs[j]?=some x->x.1≠k)->∀(h':JB) (tk:Nat) (o':Obj) (es':Array DictEntry) (ep':Nat),h'.get? d=some o'->o'.ExactDict->o'.data=.dict es' ep'->es'.toList=es.toList++[⟨cW prog w k,key,v⟩]->Heap.SameBut d s.heap h'->Q v { s with heap:=h',toks:=tk }) :
  wpAny (model prog w) A (dictSetDefault d key v) Q E s:=by
 unfold dictSetDefault;refine Z1 ?_;refine z0 (qX hu hkey λtk=>?_);have D':ODict prog w ({ s with toks:=tk }:Ju).heap d o es ep xs:=D;refine z0 (sI (s:={ s with toks:=tk }) hu hkey D' (λhno=>?_) (λj x h1 h2=>?_))
 ·refine z0 (Z8 (z0 (wpAny_updateDictKeys (hz:=hz) (s:={ s with toks:=tk }) D.ho D.hd (z6 (hnew hno _ tk _ _ (ep+1) (Yk _ D.ho (Obj.isFreed_of_dict (Obj.data_mapDictKeys D.hd _))) (hc.mapDictKeys _) (Obj.data_mapDictKeys D.hd _) ?_ (ZP ..))))));simp
 ·refine z0 (Yp (s:={ s with toks:=tk }) D.ho D.hd ?_);rw[D.at j,h1];exact z0 (Z8 (z6 (hold j x tk h1 h2)))
theorem Cy{d:Jy}{o:Obj}{es:Array DictEntry}{ep:Nat}{xs:List cA}{k:Option (List Key)}{key:Jw}{Q:Jl->Ju->Prop}(hu:A.units<cLine)(hkey:OIs prog w s.heap k key)(D:ODict prog w s.heap d o es ep xs)(hold:∀(j:Nat) (x:cA) (tk:Nat),xs[j]?=some x->x.1=k->Q (some x.2.2) { s with toks:=tk })(hnew:(∀(j:Nat) (x:cA),xs[j]?=some x->x.1≠k)->∀tk:Nat,Q none { s with toks:=tk }) :
  wpAny (model prog w) A (dictGet d key) Q E s:=by
 unfold dictGet;refine Z1 ?_;refine z0 (qX hu hkey λtk=>?_);have D':ODict prog w ({ s with toks:=tk }:Ju).heap d o es ep xs:=D;refine z0 (sI (s:={ s with toks:=tk }) hu hkey D' (λhno=>z6 (hnew hno tk)) (λj x h1 h2=>?_));refine z0 (Yp (s:={ s with toks:=tk }) D.ho D.hd ?_);rw[D.at j,h1];exact z6 (hold j x tk h1 h2)
end
abbrev OK1:=Option (List Key×Jy)
def okD:OK1->Option (List Key)
 |none=>none
 |some p=>some p.1
def okV:OK1->Jw
 |none=>.none
 |some p=>.ref p.2
def oE(e:OK1×Jy):cA:=(okD e.1,okV e.1,.ref e.2)
def odO(P:Jt)(w:Jx)(d:Jy)(kls:List (OK1×Jy)):HO:=.ext λh=>(d==sysModules)=false/\∃(o:Obj) (es:Array DictEntry) (ep:Nat),h.get? d=some o/\o.ExactDict/\o.data=.dict es ep/\es.toList=(kls.map oE).map (eY P w)
theorem yO{P:Jt}{w:Jx}{H:Hp}{h:JB}{d:Jy}{kls:List (OK1×Jy)}{o:Obj}{es:Array DictEntry}{ep:Nat}(hd:(d==sysModules)=false)(h1:h.get? d=some o)(h2:o.ExactDict)(h3:o.data=.dict es ep)(h4:es.toList=(kls.map oE).map (eY P w)):ObjOk P w H h d (odO P w d kls) :=
 ⟨⟨hd,o,es,ep,h1,h2,h3,h4⟩,⟨o,h1⟩,λ_ _ ⟨a,o,es,ep,b,c⟩ k=>⟨a,o,es,ep,k _ b,c⟩⟩
def lc(H:Hp)(y:V):OK1->Prop
 |none=>y=.non
 |some p=>y=.ref p.2/\H p.2=some (.tup (p.1.map kV))
def bR(kls:List (OK1×Jy))(k:Option (List Key)):Option Jy:=(kls.find? λe=>decide (okD e.1=k)).map (·.2)
structure OdAt(P:Jt)(w:Jx)(H:Hp)(d:Jy)(kls:List (OK1×Jy)):Prop where
 ob:H d=some (odO P w d kls)
 ks:∀e∈kls,∀p,e.1=some p->H p.2=some (.tup (p.1.map kV))
 nd:(kls.map λe=>okD e.1).Nodup
theorem qY{kls:List (OK1×Jy)}(nd:(kls.map λe=>okD e.1).Nodup){j:Nat}{e:OK1×Jy}(h:kls[j]?=some e):bR kls (okD e.1)=some e.2:=by
 unfold bR;induction kls generalizing j with
 |nil=>simp at h
 |cons x r ih =>
  rw[Zk,ZG]at nd;cases j with
  |zero =>cases h;rw[List.find?_cons_of_pos (by simp)];rfl
  |succ j =>
   have h:r[j]?=some e:=h;rw[List.find?_cons_of_neg (by
    simp only[decide_eq_true_eq];intro z;exact nd.1 (z▸Yq (ZH h)))]
   exact ih nd.2 h
theorem oU{kls:List (OK1×Jy)}{k:Option (List Key)}(h:∀e∈kls,okD e.1≠k):bR kls k=none:=by unfold bR;rw[List.find?_eq_none.mpr (λe he=>by simp only[decide_eq_true_eq];exact h e he)];rfl
section
variable{X:Cx}{JC:Jj}{σ:St}{H:Hp}{s:Ju}
theorem vh{y:V}{e:OK1}{u:Jw}(I:Inv X JC σ H s)(h:lc H y e)(r:RelV y u):OIs X.prog X.w s.heap (okD e) u/\u=okV e:=by
 cases e with
 |none =>rw[show y=.non from h]at r;cases(show u=Value.none from r);exact⟨rfl,rfl⟩
 |some p =>obtain⟨rfl,h⟩:=h;cases(show u=Value.ref p.2 from r);exact⟨⟨p.2,rfl,iF I.hok h⟩,rfl⟩
theorem BN{d:Jy}{kls:List (OK1×Jy)}(I:Inv X JC σ H s)(h:OdAt X.prog X.w H d kls):(d==sysModules)=false/\∃(o:Obj) (es:Array DictEntry) (ep:Nat),o.ExactDict/\ODict X.prog X.w s.heap d o es ep (kls.map oE):=by
 obtain⟨hd,o,es,ep,h1,h2,h3,h4⟩:=(I.hok d _ h.ob).1;refine⟨hd,o,es,ep,h2,h1,h3,h4,λx hx=>?_,?_⟩
 ·obtain⟨e,he,rfl⟩:=ZF.mp hx;cases ek:e.1 with
  |none =>show OIs _ _ _ (okD e.1) (okV e.1);rw[ek];exact rfl
  |some p =>show OIs _ _ _ (okD e.1) (okV e.1);rw[ek];exact⟨p.2,rfl,iF I.hok (h.ks e he p ek)⟩
 ·rw[YN];exact h.nd
end
def zT(P:Jt)(w:Jx)(H:Hp)(a:Jy):Prop:=∃kls,H a=some (odO P w a kls)
def Hh(P:Jt)(w:Jx):TE:=λ_ H Q=>∀p,H p=none->Q (.ref p) (upd H p (odO P w p []))
def Hi(P:Jt)(w:Jx)(td ty tx:TE):TE:=λσ H Q=>td σ H λx H1=>∃a,x=.ref a/\zT P w H1 a/\ty σ H1 λy H2=>tx σ H2 λz H3=>∃kls e l0,OdAt P w H3 a kls/\lc H3 y e/\z=.ref l0/\kls.length<4096 /\
 (∀l,bR kls (okD e)=some l->Q (.ref l) H3)/\(bR kls (okD e)=none->Q (.ref l0) (upd H3 a (odO P w a (kls++[(e,l0)]))))
def Hg(P:Jt)(w:Jx)(td ty tx:TE):TE:=λσ H Q=>td σ H λx H1=>∃a,x=.ref a/\zT P w H1 a/\ty σ H1 λy H2=>tx σ H2 λz H3=>∃kls e,OdAt P w H3 a kls/\lc H3 y e/\kls.length<4096 /\
 (∀l,bR kls (okD e)=some l->Q (.ref l) H3)/\(bR kls (okD e)=none->Q z H3)
section
variable{X:Cx}{o e f:Jz}{apos cpos:Pos}{td ty tx:TE}
theorem BQ{pos:Pos}:QE X (.Dict [] [] pos) (Hh X.prog X.w):=⟨λJC s σ H Q I h =>
 wpAny_Dict_empty ⟨.ref s.heap.objs.size,_,I.laid (a:=s.heap.objs.size) (o:=odO X.prog X.w s.heap.objs.size []) (t':=s.toks) (λ_ _ q=>z9 _ q) (Za _) (yO (ep:=0) (Yh.mpr (Zs (Zy I.big))) (Zo _ rfl) ⟨rfl,rfl,rfl⟩ rfl rfl),rfl,h _ (I.hok.fresh (Za _))⟩⟩
theorem mq{JC:Jj}{σ:St}{H:Hp}{s:Ju}{a:Jy}(I:Inv X JC σ H s)(d:zT X.prog X.w H a):s.TypeIs (.ref a) "dict"/\(∀b,Value.ref a=.ref b->∃ob,s.heap.get? b=some ob/\ob.dict=none):=by obtain⟨kls,h⟩:=d;obtain⟨_,o,es,ep,h1,h2,_⟩:=(I.hok a _ h).1;refine⟨⟨o,h1,h2.1⟩,λb q=>?_⟩;cases q;exact⟨o,h1,h2.2.1⟩
theorem rc(hu:X.A.units+64<cLine)(ho:QE X o td)(he:QE X e ty)(hf:QE X f tx)(hs1:aP e=true:=by rfl)(hs2:aP f=true:=by rfl)(hbase:attributeBase o "setdefault" X.env (eval o X.env)=eval o X.env:=by rfl)(hline:(apos.endLine==cpos.line)=true:=by rfl) :
  QE X (.Call (.Attribute o "setdefault" apos) [e,f] [] cpos) (Hi X.prog X.w td ty tx):=by
 refine⟨?_⟩;have h1:=aJ (es:=[f]) (env:=X.env) hs1;have h2:=aJ (es:=[]) (env:=X.env) hs2;have h3:starEach ([]:List Jz) X.env=[]:=rfl;intro JC s σ H Q I h;refine wpAny_Call_method hbase (by rw[h1,h2,h3];rfl) hline PySem.F.plainAttrs_dict PySem.F.slot_dict_setdefault PySem.F.type_dict_setdefault (thn (ho.h JC s σ H _ I h) λu s1 hz9=>?_);obtain⟨x,H1,I1,rx,a,ex,d,q1⟩:=hz9;subst ex;obtain rfl:u=Value.ref a:=rx;obtain⟨t1,t2⟩:=mq I1 d;refine⟨t1,t2,?_⟩;have ht:backTo cpos (starEach [e,f] X.env)=[(false,eval e X.env),(false,eval f X.env)]:=by rw[h1,h2,h3];rfl
 rw[ht];refine Calls.callWith_builtin rfl (Calls.evalArgs_plain (Calls.spliced_cons (thn (he.h JC s1 σ H1 _ I1 q1) λiv s2 ⟨y,H2,I2,ry,q2⟩ =>
  Calls.spliced_cons (thn (hf.h JC s2 σ H2 _ I2 q2) λfv s3 ⟨z,H3,I3,rz,kls,ke,l0,oa,ok,ez,l,qo,qn⟩=>Calls.spliced_nil ?_))))
 subst ez;obtain rfl:fv=Value.ref l0:=rz;obtain⟨ki,kv⟩:=vh I3 ok ry;obtain⟨hd,ob,es,ep,hc,D⟩:=BN I3 oa;have hz:es.size<=sizeLine:=by rw[<-Zx,D.he,Ze,Ze];exact fY (by omega)
 have ty':=(mq I3 ⟨kls,oa.ob⟩).1;refine Z2 PySem.F.slot_dict_setdefault ty' PySem.F.entry_dict_setdefault ?_ (PySem.F.args_dict_setdefault_3 _ _ _);show wpAny _ _ (Builtin.«dict.setdefault» ⟨[.ref a,iv,.ref l0],[]⟩) _ _ s3;unfold Builtin.«dict.setdefault»;refine z0 ?_;unfold Builtin.Dict.keyAndDefault;refine z0 (wpAny_notOrdered_dict ty' ?_);show wpAny _ _ (pure (a,iv,some (Value.ref l0))) _ _ s3;refine z6 ?_;show wpAny _ _ (if(a==sysModules)=true then _ else(dictSetDefault a iv (.ref l0) >>= _)) _ _ s3;rw[Jf (by rw[hd];exact Zi)];refine z0 (xy (by show X.A.in1.units<cLine;simp only[Around.in1_units];omega) ki D hc hz (λj x tk g1 g2=>z6 ⟨_,rfl,?_⟩) (λhno h' tk o' es' ep' g1 g2 g3 g4 g5=>z6 ⟨_,rfl,?_⟩))
 ·rw[ZE]at g1;obtain⟨en,g3,rfl⟩:=ZZ.mp g1;have:=qY oa.nd g3;rw[show okD en.1=okD ke from g2]at this;exact⟨.ref en.2,H3,I3.tok _,rfl,qo _ this⟩
 ·have hn:bR kls (okD ke)=none:=oU λen hen=>by obtain⟨j,hj⟩:=Zt.mp hen;exact hno j (oE en) (by rw[ZE,hj];rfl)
  refine⟨.ref l0,_,me (a:=a) (t':=tk) I3 (by rw[oa.ob];exact True.intro) g5 ⟨o',g1⟩ (yO (kls:=kls++[(ke,l0)]) hd g1 g2 g3 ?_),rfl,qn hn⟩;rw[g4,D.he,ZN,ZN,kv];rfl
end
section
variable{X:Cx}{o e f:Jz}{apos cpos:Pos}{td ty tx to te:TE}
theorem sY(hu:X.A.units+64<cLine)(ho:QE X o td)(he:QE X e ty)(hf:QE X f tx)(hs1:aP e=true:=by rfl)(hs2:aP f=true:=by rfl)(hbase:attributeBase o "get" X.env (eval o X.env)=eval o X.env:=by rfl)(hline:(apos.endLine==cpos.line)=true:=by rfl) :
  QE X (.Call (.Attribute o "get" apos) [e,f] [] cpos) (Hg X.prog X.w td ty tx):=by
 refine⟨?_⟩;have h1:=aJ (es:=[f]) (env:=X.env) hs1;have h2:=aJ (es:=[]) (env:=X.env) hs2;have h3:starEach ([]:List Jz) X.env=[]:=rfl;intro JC s σ H Q I h;refine wpAny_Call_method hbase (by rw[h1,h2,h3];rfl) hline PySem.F.plainAttrs_dict PySem.F.slot_dict_get PySem.F.type_dict_get (thn (ho.h JC s σ H _ I h) λu s1 hz9=>?_);obtain⟨x,H1,I1,rx,a,ex,d,q1⟩:=hz9;subst ex;obtain rfl:u=Value.ref a:=rx;obtain⟨t1,t2⟩:=mq I1 d;refine⟨t1,t2,?_⟩;have ht:backTo cpos (starEach [e,f] X.env)=[(false,eval e X.env),(false,eval f X.env)]:=by rw[h1,h2,h3];rfl
 rw[ht];refine Calls.callWith_builtin rfl (Calls.evalArgs_plain (Calls.spliced_cons (thn (he.h JC s1 σ H1 _ I1 q1) λiv s2 ⟨y,H2,I2,ry,q2⟩ =>
  Calls.spliced_cons (thn (hf.h JC s2 σ H2 _ I2 q2) λfv s3 ⟨z,H3,I3,rz,kls,ke,oa,ok,l,qo,qn⟩=>Calls.spliced_nil ?_))))
 obtain⟨ki,kv⟩:=vh I3 ok ry;obtain⟨hd,ob,es,ep,hc,D⟩:=BN I3 oa;have ty':=(mq I3 ⟨kls,oa.ob⟩).1;refine Z2 PySem.F.slot_dict_get ty' PySem.F.entry_dict_get ?_ (PySem.F.args_dict_get_3 _ _ _);show wpAny _ _ (Builtin.«dict.get» ⟨[.ref a,iv,fv],[]⟩) _ _ s3;unfold Builtin.«dict.get»;refine z0 ?_;unfold Builtin.Dict.keyAndDefault;refine z0 (wpAny_notOrdered_dict ty' ?_);show wpAny _ _ (pure (a,iv,some fv)) _ _ s3;refine z6 ?_;dsimp only;refine z0 (Cy (by show X.A.in1.units<cLine;simp only[Around.in1_units];omega) ki D (λj x tk g1 g2=>?_) (λhno tk=>?_))
 ·rw[ZE]at g1;obtain⟨en,g3,rfl⟩:=ZZ.mp g1;have:=qY oa.nd g3;rw[show okD en.1=okD ke from g2]at this;exact z6 ⟨_,rfl,.ref en.2,H3,I3.tok _,rfl,qo _ this⟩
 ·have hn:bR kls (okD ke)=none:=oU λen hen=>by obtain⟨j,hj⟩:=Zt.mp hen;exact hno j (oE en) (by rw[ZE,hj];rfl)
  dsimp only;unfold Builtin.Dict.missed;rw[Jf (by rw[hd];exact Zi)];exact z0 (z6 (z6 ⟨_,rfl,z,H3,I3.tok _,rz,qn hn⟩))
theorem Fw(ho:QE X o to)(hbase:attributeBase o "pop" X.env (eval o X.env)=eval o X.env:=by rfl)(hline:(apos.endLine==cpos.line)=true:=by rfl):QE X (.Call (.Attribute o "pop" apos) [] [] cpos) (FP X.K "list" FD to) :=
 ⟨E3 PySem.F.plainAttrs_list PySem.F.slot_list_pop PySem.F.type_list_pop EA ho.h hbase hline⟩
theorem Be(ho:QE X o to)(he:QE X e te)(hs:aP e=true:=by rfl)(hbase:attributeBase o "extend" X.env (eval o X.env)=eval o X.env:=by rfl)(hline:(apos.endLine==cpos.line)=true:=by rfl) :
  QE X (.Call (.Attribute o "extend" apos) [e] [] cpos) (tBM X.K "list" vq to (jk te iU)):=by
 have h1:=aJ (es:=[]) (env:=X.env) hs;have h2:starEach ([]:List Jz) X.env=[]:=rfl;refine⟨xp PySem.F.plainAttrs_list PySem.F.slot_list_extend PySem.F.type_list_extend yG ho.h (pa he.h pj hs) hbase ?_ hline h1 (by rw[h2];rfl)⟩;rw[h1,h2];rfl
end
section
open PySem.SeqAt
open PySem.AutoSeq1 (wpAny_loadPart')
open PySem.MeetsSeq PySem.MeetsSeq2 PySem.MeetsSeq3
theorem rH(l b:Jy)(x1 x2 y1 y2:Jw)(n n2:Nat)(dd dd2:Option Jy)(sl sl2:Array Jl)(e1 e2 r1 r2:Bool) :
  Meets (Builtin.«tuple.__lt__» ⟨[.ref l,.ref b],[]⟩)
   (λA R s=>s.heap.get? l=some { cls:=.type "tuple",dict:=dd,data:=.seq #[x1,x2] n,slots:=sl }/\s.heap.get? b=some { cls:=.type "tuple",dict:=dd2,data:=.seq #[y1,y2] n2,slots:=sl2 } /\
    EqAt A.in1 s x1 y1 e1/\EqAt A.in1 s x2 y2 e2/\(∀prog w E Q,Q (.bool r1) s->wpAny (model prog w) A.in1 (richCompare .Lt x1 y1) Q E s)/\(∀prog w E Q,Q (.bool r2) s->wpAny (model prog w) A.in1 (richCompare .Lt x2 y2) Q E s) /\
    R (.ok (.ret (.bool (if e1 then (if e2 then false else r2) else r1)))) s) :=
 .of_wp λprog w A R s h=>by
  obtain⟨hp,g,d,tk,os⟩:=s;obtain⟨hl,hb,q1,q2,c1,c2,h⟩:=h;have f2:=AutoSeq1.sub_tuple_tuple
  wp_walk using wpAny_loadPart' hl,wpAny_loadPart' hb,Yt _ (λrest b s'=>b.1=none/\s'=⟨hp,g,d,tk,os⟩/\(rest=[(x1,y1),(x2,y2)]\/(rest=[(x2,y2)]/\e1=true)\/(rest=[]/\e1=true/\e2=true))) _
  case turn =>
   rintro⟨y,x⟩ rest b s' ⟨hb',rfl,hz⟩;rcases hz with hz|⟨hz,he⟩|⟨hz,_⟩
   ·injection hz with hyx hrest;injection hyx with hy hx;subst hy hx hrest;refine z0 (q1 prog w _ _ ?_);cases e1 with
    |true =>
     wp_walk
     exact⟨rfl,rfl,.inr (.inl ⟨rfl,rfl⟩)⟩
    |false =>
     have hri:=c1 prog w
     wp_walk using hri
     exact⟨_,rfl,by simpa using h⟩
   ·injection hz with hyx hrest;injection hyx with hy hx;subst hy hx hrest he;refine z0 (q2 prog w _ _ ?_);cases e2 with
    |true =>
     wp_walk
     exact⟨rfl,rfl,.inr (.inr ⟨rfl,rfl,rfl⟩)⟩
    |false =>
     have hri:=c2 prog w
     wp_walk using hri
     exact⟨_,rfl,by simpa using h⟩
   ·cases hz
  case fin =>
   rintro⟨b1,b2⟩ s' ⟨hb',rfl,hz⟩;simp only at hb';subst hb';rcases hz with hz|⟨hz,_⟩|⟨_,he,he2⟩
   ·cases hz
   ·cases hz
   ·subst he he2
    wp_walk
    exact⟨_,rfl,by simpa[Builtin.Tuple.tupleCompareSizes]using h⟩
  case h =>exact⟨rfl,rfl,.inl rfl⟩
end
section
variable{X:Cx}
def GY:R2:=λx y H Q=>∃(a a' b c b' c':Jy) (ps ns qs ms:Jq),x=.ref a/\y=.ref a'/\H a=some (.tup [.ref b,.ref c])/\H a'=some (.tup [.ref b',.ref c'])/\H b=some (.tup (ps.map V.int))/\H c=some (.tup (ns.map V.int))/\H b'=some (.tup (qs.map V.int))/\H c'=some (.tup (ms.map V.int))/\Q (.bl (HT.lexLt (bI ps ns) (bI qs ms))) H
theorem EJ{k:Nat}(hr:Room k X.A):QOp X (compareOp .Lt) GY:=by
 refine⟨?_⟩;intro JC s σ H x y v u Q I rx ry h;obtain⟨a,a',b,c,b',c',ps,ns,qs,ms,rfl,rfl,ha,ha',hb,hc,hb',hc',q⟩:=h;cases rx;cases ry;obtain⟨ia,ra,pa,za⟩:=I.tuple (JF (K:=X.K) ha);obtain⟨ib,rb,pb,zb⟩:=I.tuple (JF (K:=X.K) ha');obtain⟨u1,u2,rfl,r1,r2⟩:=iq ra;cases r1;cases r2;obtain⟨u1,u2,rfl,r1,r2⟩:=iq rb;cases r1;cases r2;obtain⟨⟨cls,dd,data,sl⟩,ho,hcl,n,hd⟩:=id pa;obtain⟨⟨cls2,dd2,data2,sl2⟩,ho2,hcl2,n2,hd2⟩:=id pb;simp only at hcl hd hcl2 hd2;subst hcl hd hcl2 hd2;obtain⟨ix,rx,px,zx⟩:=I.tuple (JF (K:=X.K) hb);obtain⟨iy,ry,py,zy⟩:=I.tuple (JF (K:=X.K) hb');obtain⟨jx,sx,qx,yx⟩:=I.tuple (JF (K:=X.K) hc);obtain⟨jy,sy,qy,yy⟩:=I.tuple (JF (K:=X.K) hc');have un:=hr.un;have e:(if decide (ps=qs)then(if decide (ns=ms)then false else HT.lexLt ns ms)else HT.lexLt ps qs)=HT.lexLt (bI ps ns) (bI qs ms):=by
  rw[pU];by_cases h1:ps=qs
  ·rw[Jg h1,decide_eq_true h1,Jg rfl];by_cases h2:ns=ms
   ·rw[decide_eq_true h2,Jg rfl,h2];cases h:HT.lexLt ms ms with
    |false=>rfl
    |true=>rw[oM h]at h;cases h
   ·rw[decide_eq_false h2,Jf Zi]
  ·rw[Jf h1,decide_eq_false h1,Jf Zi]
 refine richCompare_meets_room (op:=.Lt) ⟨_,ho,rfl⟩ ⟨_,ho2,rfl⟩ PySem.F.slot_tuple_lt PySem.F.entry_tuple_lt (PySem.F.args_tuple_lt_2 _ _) (rH a a' (.ref b) (.ref c) (.ref b') (.ref c') n n2 dd dd2 sl sl2 (decide (ps=qs)) (decide (ns=ms)) (HT.lexLt ps qs) (HT.lexLt ns ms))
  ⟨ho,ho2,mh I ?_ hb hb',mh I ?_ hc hc',λ_ _ _ _ z=>HT.lt_tupInts px py (bZ rx) (bZ ry) ?_ z,λ_ _ _ _ z=>HT.lt_tupInts qx qy (bZ sx) (bZ sy) ?_ z,?_⟩ (by omega)
 ·show X.A.units+1+64<cLine;omega
 ·show X.A.units+1+64<cLine;omega
 ·show X.A.units+1<cLine;omega
 ·show X.A.units+1<cLine;omega
 ·rw[e];exact⟨(λx=>nomatch x),.bl _,H,I,rfl,q⟩
end
theorem xE{l:W.OpenLaw}{n k:Nat}{q:Jt}{loose:Jr}{XP:(Ji)->JB->Prop}{YP:Jx->JB->Prop}{d:DefRec}{K:Params->W.Frag}{tabs:Params->List (Jy×Jy)}{sp:Jx->Sp}{x:Str}(hn:l.most=some n)(hn2:n<=sizeLine)(hdf:d.params.defaults=[])(hr:Room k callerA)(hY:∀ (w:Jx) (h:JB),YP w h->(K w.params).In h)(ht:∀ (w:Jx) (h:JB),YP w h->∀ t∈tabs w.params,CodeHd h t.1 t.2/\h.get? t.2=some (tabObj #[]))(nt:∀ w:Jx,noTabs (K w.params)=true)(F:∀ (w:Jx) (mg:Ji) (fa:Jy) (h:JB),(K w.params).In h->h.Ns mainGlobals mg->mg d.name=some (.ref fa) ->
   ∃fd:Jp,(∀(s:Ju) (u:Jw),BindsTo s fd ⟨[u],[]⟩ [(x,u)]) /\
    ∀ base:JB,(K w.params).In base->base.Ns mainGlobals mg->Blt base mg->(∀ t∈tabs w.params,CodeHd base t.1 t.2)->FnOk l.prog w (K w.params) mg base CX0 k fa fd [x] (sp w))(go:∀ (w:Jx) (H:Hp) (a:Jy) (ns:Jq),ns.length<=n->(∀ t∈tabs w.params,H t.2=some (.tbl #[]))->SqL (K w.params) H a (ns.map V.int)->sp w [.ref a] H (λv _=>v=.bl true) λ_ _ _=>False) :
  W.WalkO q loose XP YP l.row.toRowW d [] (λf vs=>PySem.call f vs):=by
 refine Att.attach_call hn hdf λw s₀ s₁ mg mb fa o pm cd doc a vs ns G Y ho hd hcd hmg hobj hints hlen hg=>?_;have kx:=hY w _ Y;obtain⟨fd,hb,hF⟩:=F w mg fa _ kx G.T.g hmg;exact AE (tabs:=tabs w.params) kx G.T.g G.T.b G.T.builtins G.T.nolimit hg G.T.bmain (λr hr'=>ht w _ Y r hr') (nt w) hobj hints (Zr hlen hn2) hr (λbase h1 h2 h3 h4=>hF base h1 h2 h3 h4) hb λH h1 h2=>go w H a ns hlen h1 h2
def lV(K:Frag)(x m:Str):Option (Jy×Jy):=match nsIn K mainGlobals x with
 | some (some (.ref C))=>(match findIn K (.ref C) m with
  | some (some (.ref f))=>(match K.lookup f with
   | some ⟨_,_,.func fd,_⟩=>(match fd.code with
    | .ref c=>(match K.lookup c with
     | some ⟨_,_,.fields vs,_⟩=>(match (vs[11]?:Jl) with
      |some (.ref P)=>some (c,P)
      | _=>none)
     | _=>none)
    | _=>none)
   | _=>none)
  | _=>none)
 |_=>none
theorem zI{K:Frag}{x m:Str}{C f c P:Jy}{oc:Jw}{od:Option Jy}{fd:Jp}{sl:Array Jl}(g:nsIn K mainGlobals x=some (some (.ref C)))(a:findIn K (.ref C) m=some (some (.ref f)))(l:K.lookup f=some ⟨oc,od,.func fd,sl⟩)(t:lV K x m=some (c,P)):fd.code=.ref c:=by
 unfold lV at t;rw[g]at t;dsimp only at t;rw[a]at t;dsimp only at t;rw[l]at t;dsimp only at t;split at t
 ·rename_i c' e;rw[e];split at t
  ·split at t
   ·cases t;rfl
   ·cases t
  ·cases t
 ·cases t
theorem yk{K:Frag}{x m q:Str}{st:JA}{C f c P:Jy}{fd:Jp}(g:nsIn K mainGlobals x=some (some (.ref C)))(a:findIn K (.ref C) m=some (some (.ref f)))(F:Fun K m q st f fd)(t:lV K x m=some (c,P)):fd.code=.ref c:=by obtain⟨oc,od,kV,dc,pm,an,cd,ct,sl,rfl,l,c0⟩:=id F.ex;exact zI g a l t
theorem xO{X:Cx}:QCall X (.builtin "len") (λxs H Q=>∃x:Str,xs=[.str x]/\x.length<=100000/\Q (.int (x.length:Int)) H):=by refine⟨?_⟩;intro JC s σ H xs us Q I r h;obtain⟨x,rfl,hz,q⟩:=h;obtain⟨u,rfl,rx⟩:=fz r;obtain⟨t,rfl⟩:=rx;exact PyProof.Rows.len_str (by omega) ⟨.int x.length,H,I.tok _,⟨_,rfl⟩,q⟩
theorem xz{n:Nat}(h:n<=100000):n<=sizeLine:=Zr h (by decide)
theorem oK{X:Cx}:QSl X (λx lo hi H Q=>∃z:Str,x=.str z/\z.length<=100000/\Q (.str (bg z lo hi)) H):=by
 refine⟨?_⟩;intro JC s σ H x v vl vu lo hi sl Q I rx hs pl pu h;obtain⟨z,rfl,hz,q⟩:=h;obtain⟨t,rfl⟩:=rx;have pt:∀{v:Jw} {o:Option Int},IsPart v o->∃p:Option (Int×Tok),v=partValue p/\p.map (·.1)=o:=fun{v o} p=>by
  cases p with
  |none=>exact⟨none,rfl,rfl⟩
  |int i t=>exact⟨some (i,t),rfl,rfl⟩
 obtain⟨l,rfl,hl⟩:=pt pl;obtain⟨u,rfl,hu⟩:=pt pu;have e:slicePicked z l u none=Builtin.Str.strSliceIndices lo hi 1 z.length:=by unfold slicePicked;rw[hl,hu];rfl
 refine⟨"str",_,F.slot_str_getitem.lookup,typeIs_str _ _ _,wpAny_getItem_str_slice (l:=l) (u:=u) (st:=none) hs rfl ?_⟩;have hy:=Ak z lo hi;unfold sliceMade;unfold bg at q hy;rw[e];split
 ·rename_i hc;have hc':(Builtin.Str.strSliceIndices lo hi 1 z.length).length=z.length:=by simpa using hc
  rw[Jg hc']at q;exact⟨.str z,H,I,⟨_,rfl⟩,q⟩
 ·rename_i hc;have hc':¬(Builtin.Str.strSliceIndices lo hi 1 z.length).length=z.length:=by simpa using hc
  rw[Jf hc']at q hy;exact⟨xz (Zr hy hz),.str _,H,I.tok _,⟨_,rfl⟩,q⟩
section
variable{prog:Jt}{w:Jx}{A:Jv}{E:Jh}{s:Ju}{κ:SortKind}{it:Array Keyed}{lt:Jk}{N:Nat}
theorem DO(Z:Zc prog w A s κ it lt N)(O:LtOk lt)(h2:2<=N)(h64:N<64){Q:Unit->SortSt->Prop}(h:∀(p:Jo) (st':SortSt),POk N p->LS lt p N->p.size=N->arrOf st'=p.map (kas_item it)->failedOf st'=none->Q () st') :
  wpS (model prog w) A E s sortRuns' Q (SortSt.mk' κ ((List.toArray (List.range N)).map (kas_item it)) #[] 7 none) :=
 kas_runs (Q:=λu st' s'=>s'=s/\Q u st') (G:=λp s'=>s'=s/\POk N p/\LS lt p N) h2 h64 (λp st' _ hz ha hf g=>⟨g.1,h p st' g.2.1 g.2.2 hz ha hf⟩) (qa (n:=N) (lt:=lt) Z (λ_ hp hr=>⟨rfl,hp,hr.2⟩) (sO (by omega)) (uS O (by omega)))
end
section
variable{prog:Jt}{w:Jx}{A:Jv}{E:Jh}{s:Ju}{h₀:JB}{L a kS:Jy}{m:Ji}{news:Jj}{vs ks:Jn}
theorem Gd{b:Bool}{e e1:Nat}{P:PySem.Fin->Ju->Prop}(hl:ks.length=vs.length)(h64:vs.length<64)(h:vO prog w A b ks vs (λout=>KatFin h₀ L m kS a ks e e1 out (λs3=>P (.done (.ret .none)) s3)) s) :
  wpAny (model prog w) A (ksk_end a b vs.toArray e1 (.ref kS) (List.toArray ks)) P E s:=by
 have hz:vs.length<=4096:=by omega
 have lr:(katRev b ks).length=(katRev b vs).length:=by rw[kat_len,kat_len,hl]
 have lv:(katRev b vs).length=vs.length:=kat_len b vs;have step:∀t:Sem PySem.Fin,wpAny (model prog w) A t P E s->wpAny (model prog w) A (if b=true then(do let _ ←rule "list.sort.reverse";t)else t) P E s:=by
  intro t ht;split
  ·exact z0 (Z8 ht)
  ·exact ht
 unfold ksk_end;dsimp only;refine step _ ?_;have er:∀κ,SortSt.mk' κ ((List.toArray (katRev b ks)).zip (List.toArray (katRev b vs))) #[] 7 none=SortSt.mk' κ ((List.toArray (List.range vs.length)).map (kas_item ((List.toArray (katRev b ks)).zip (List.toArray (katRev b vs))))) #[] 7 none:=λκ=>by have e:=kas_range ((List.toArray (katRev b ks)).zip (List.toArray (katRev b vs)));rw[show((List.toArray (katRev b ks)).zip (List.toArray (katRev b vs))).size=vs.length by simp[lr,lv]]at e;rw[e]
 rw[kat_pairs b hl];by_cases n2:vs.toArray.size<2
 ·rw[Jg n2,Jg n2];have n2':vs.length<2:=by simpa using n2
  refine z0 (z6 ?_);rw[er,StateT.run_pure];refine z0 (z6 ?_);dsimp only;exact vJ (kat_snds lr (p:=List.toArray (List.range vs.length)) rfl) (by simpa using hz) (by omega) rfl (h.2 n2')
 rw[Jf n2,Jf n2];have n3:2<=vs.length:=by rw[Zg]at n2;omega
 refine z0 (ZK (h.1 n3) (λκ s0 hg=>?_) λ_ _ x=>x.elim);obtain⟨lt,O,ask,fin⟩:=hg;have Z:Zc prog w A s0 κ ((List.toArray (katRev b ks)).zip (List.toArray (katRev b vs))) lt vs.length:=λi j C hi hj hC=>by have:=ask i j C hi hj hC;rw[kat_ask_eq lr]at this;exact this
 rw[er];refine z0 (ZK (DO (E:=E) (Q:=λ_ st'=>∃p:Jo,POk vs.length p/\LS lt p vs.length/\p.size=vs.length/\arrOf st'=p.map (kas_item ((List.toArray (katRev b ks)).zip (List.toArray (katRev b vs))))/\failedOf st'=none) Z O n3 h64 λp st' a1 a2 a3 a4 a5=>⟨p,a1,a2,a3,a4,a5⟩) ?_ λ_ _ x=>x);rintro⟨⟨⟩,st'⟩ s' ⟨rfl,p,a1,a2,a3,a4,a5⟩;dsimp only;exact vJ (kat_snds lr a4) (by rw[Ze,Zx,a3];exact hz) (by omega) a5 (fin p a1 a2)
theorem DN{b:Bool}{f:Jw}{e1:Nat}{P:PySem.Fin->Ju->Prop}(hq:s.heap.get? kS=some (seqObj "list" #[] 0))(h64:vs.length<64)(h:KatKeys prog w A h₀ L m kS f (λks e s'=>vO prog w A b ks vs (λout=>KatFin h₀ L m kS a ks e e1 out (λs3=>P (.done (.ret .none)) s3)) s') vs [] 0 s) :
  wpAny (model prog w) A (ksk_rest a f b vs.toArray e1 (.ref kS)) P E s:=by
 have hz:vs.length<=4096:=by omega
 unfold ksk_rest;refine z0 (Z8 ?_);rw[<-Array.forIn_toList];refine z0 (ZK (vI hz (λx qs e s' C hzz hx=>?_) vs [] 0 s (by simp) hq h) (λ_ s' hd=>?_) λ_ _ x=>x)
 ·refine z0 (wpAny_attempt (ZK hx (λk s2 hkk=>?_) λ_ _ hF=>hF.elim));obtain⟨nw,g,Fq,Nq,Uq,cq⟩:=hkk;obtain⟨l1,l2,e0,hg,x1,x2⟩:=Uq.split;rw[e0]at Nq;have ak:=Nq (kS,seqObj "list" (List.toArray qs) e) (ZI _ (.head _));have s1:=ZP s2.heap kS (Obj.mapSeq (·.push k));have ea:(List.toArray qs).push k=List.toArray (qs++[k]):=by simp
  obtain⟨c2,hc2⟩:∃z,(s2.heap.update kS (Obj.mapSeq (·.push k))).get? kS=some (seqObj "list" (List.toArray (qs++[k])) z):=⟨_,by rw[<-ea];exact get?_update_seq ak.1 (·.push k)⟩
  dsimp only;refine z0 (listUpdate_at ak.1 rfl (z6 ⟨rfl,k,c2,hc2,cq _ c2 (kas_fr Fq s1 ak.2.1 ak.2.2) (by rw[hg];exact news_set Nq x1 x2 s1 hc2)⟩) (by rw[Zg];exact fY (by omega)) (Zr (Nat.le_of_eq (Array.size_push ..)) (by rw[Zg];exact Nat.le_succ_of_le (fY (by omega)))))
 ·obtain⟨qs,e,hq',hl,fin⟩:=hd;exact z0 (listItems_at hq' rfl (Gd hl h64 fin))
theorem Bz{b:Bool}{f:Jw}{n:Nat}{P:PySem.Fin->Ju->Prop}(F:Fr h₀ L s.heap m)(N:News h₀ L s.heap news)(ho:s.heap.get? a=some (seqObj "list" vs.toArray n))(haL:a≠L)(ha0:h₀.get? a=none)(hna:∀ p∈news,p.1≠a)(h64:vs.length<64)(h:∀ kS e1 h',Fr h₀ L h' m->News h₀ L h' ((kS,seqObj "list" #[] 0)::(a,seqObj "list" #[] e1)::news)->a<kS->(∀ q∈news,q.1<kS) ->
   KatKeys prog w A h₀ L m kS f (λks e s'=>vO prog w A b ks vs (λout=>KatFin h₀ L m kS a ks e e1 out (λs3=>P (.done (.ret .none)) s3)) s') vs [] 0 { s with heap:=h' }) :
  wpAny (model prog w) A (ksk_tree a f b) P E s:=by
 have hz:vs.length<=4096:=by omega
 have la:a<s.heap.objs.size:=Zm ho;have s1:=ZP s.heap a (Obj.mapSeq λ_=>(#[]:Jm));have F1:=kas_fr F s1 haL ha0;have N1:=kas_news N s1 hna;obtain⟨e1,ho1⟩:∃z,(s.heap.update a (Obj.mapSeq λ_=>(#[]:Jm))).get? a=some (seqObj "list" #[] z):=⟨_,get?_update_seq ho λ_=>#[]⟩
 have zk:((s.heap.update a (Obj.mapSeq λ_=>(#[]:Jm))).push (seqObj "tuple" vs.toArray 0)).objs.size=s.heap.objs.size+1:=by rw[size_push',Heap.size_update]
 have lk:L<((s.heap.update a (Obj.mapSeq λ_=>(#[]:Jm))).push (seqObj "tuple" vs.toArray 0)).objs.size:=(F1.push _).ns.lt;unfold ksk_tree;refine z0 (listItems_at ho rfl (z0 (listUpdate_at ho rfl (z0 (seqEpoch_at ho1 rfl (z0 (wpAny_newTuple (z0 (wpAny_newList (Z1 ?_) (ZM _))) (fY hz))))) (by rw[Zg];exact fY hz) (ZM _))));refine DN (s:={ s with heap:=((s.heap.update a (Obj.mapSeq λ_=>(#[]:Jm))).push (seqObj "tuple" vs.toArray 0)).push (seqObj "list" #[] 0) }) (kS:=((s.heap.update a (Obj.mapSeq λ_=>(#[]:Jm))).push (seqObj "tuple" vs.toArray 0)).objs.size)
  (Zo _ rfl) h64 (h _ e1 _ ((F1.push _).push _) (λp hp=>?_) (by rw[zk];exact Nat.lt_succ_of_lt la) λq hq=>by rw[zk];exact Nat.lt_succ_of_lt (Zm (N q hq).1))
 rcases Zj.mp hp with rfl|hp
 ·exact⟨Zo _ rfl,Yf lk,YA (Zr F.above (Nat.le_of_lt lk))⟩
 ·rcases Zj.mp hp with rfl|hp
  ·exact⟨z9 _ (z9 _ ho1),haL,ha0⟩
  ·exact⟨z9 _ (z9 _ (N1 p hp).1),(N1 p hp).2⟩
theorem DM{b:Bool}{f:Jw}{kw:List (Str×Jw)}{Q:Jh}(F:Fr h₀ L s.heap m)(N:News h₀ L s.heap news)(h64:vs.length<64)(ha2:∀ x,argsOk "list.sort" ⟨[.ref x],kw⟩)(ht:∀ x,Builtin.«list.sort» ⟨[.ref x],kw⟩=ksk_tree x f b)(h:∀ D kS e1 h',Fr h₀ L h' m->News h₀ L h' ((kS,seqObj "list" #[] 0)::(D,seqObj "list" #[] e1)::news)->D<kS->(∀ q∈news,q.1<D) ->
   KatKeys prog w A.in1 h₀ L m kS f (λks e s'=>vO prog w A.in1 b ks vs (λout=>KatFin h₀ L m kS D ks e e1 out (λs4=>Q (.ref D) s4)) s') vs [] 0 { s with heap:=h' }) :
  wpAny (model prog w) A (do let l ←newList vs;let _ ←holding [l] (call (.builtin "list.sort") [l] kw);ret l) (λfin s'=>∃v,fin=.done (.ret v)/\Q v s') E s:=by
 have hz:vs.length<=4096:=by omega
 have hL:L<s.heap.objs.size:=F.ns.lt;have hoL:(s.heap.push (seqObj "list" vs.toArray 0)).get? s.heap.objs.size=some (seqObj "list" vs.toArray 0):=Zo _ rfl;refine z0 (wpAny_newList ?_ (fY hz));refine z0 (Z1 (wpAny_call_entry_kw slot_list_sort ⟨_,hoL,rfl⟩ entry_list_sort ?body (ha2 _)))
 case body =>
  show wpAny (model prog w) A.in1 (Builtin.«list.sort» ⟨[.ref s.heap.objs.size],kw⟩) _ _ _;rw[ht];refine Bz (s:={ s with heap:=s.heap.push (seqObj "list" vs.toArray 0) }) (F.kept λb o q=>z9 _ q) (N.grown λb o q=>z9 _ q) hoL (Yf hL) (YA (Zr F.above (Nat.le_of_lt hL))) (λp hp=>Zy (Zm (N p hp).1)) h64 λkS e1 h' F' N' l0 l1=>?_;refine kat_keys_mono (h _ kS e1 h' F' N' l0 λq hq=>Zm (N q hq).1) λks e s' _ hd=>⟨λn2=>ZK (hd.1 n2) (λκ s2 hk=>?_) λ_ _ x=>x,λn2=>(hd.2 n2).mono λs4 hq=>⟨_,rfl,z6 ⟨_,rfl,hq⟩⟩⟩
  obtain⟨lt,O,ask,fin⟩:=hk;exact⟨lt,O,ask,λp a1 a2=>(fin p a1 a2).mono λs4 hq=>⟨_,rfl,z6 ⟨_,rfl,hq⟩⟩⟩
end
section
variable{X:Cx}{JC:Jj}{σ:St}{H:Hp}{s:Ju}{h':JB}
theorem ul{b:Bool}{kw:List (Str×Jw)}{ks:List ZKey}{xs:List V}{f l:Jy}{sp:Sp}{Q:VK}(I:Inv X JC σ H s)(src:DX X s l xs)(h64:xs.length<64)(hl:ks.length=xs.length)(hP:xG ks)(hun:X.A.in1.in1.units+64<cLine)(hs1:argsOk "sorted" ⟨[.ref l],kw⟩)(hs2:∀x,argsOk "list.sort" ⟨[.ref x],kw⟩)(hs3:∀x,Builtin.«list.sort» ⟨[.ref x],kw⟩=ksk_tree x (.ref f) b)(F:∀l,vN (wX X l) JC σ f sp)(spec:∀(i:Nat) (v:V) (key:ZKey) (H':Hp),xs[i]?=some v->ks[i]?=some key->Same H H'->∀R:VK,(∀kv H'',Same H' H''->key.at H'' kv->R kv H'')->sp [v] H' R E0)(q:∀(p:Jo) (H2:Hp) (D:Jy),POk xs.length p->LS (λi j=>HT.lexLt ((katRev b (ks.map ZKey.nums)).getD i []) ((katRev b (ks.map ZKey.nums)).getD j [])) p xs.length->Same H H2->H2 D=none->Q (.ref D) (upd H2 D (.lst (katRev b (p.toList.map λi=>(katRev b xs).getD i .non))))) :
  wpAny (model X.prog X.w) X.A (call (.builtin "sorted") [.ref l] kw) (EP X JC σ Q) X.xe s:=by
 have hz:xs.length<=4096:=by omega
 refine call_function_entry_kw kind_sorted plain_sorted entry_sorted hs1 ?_;unfold Builtin.«sorted»;refine z0 (m:=checkCount "sorted" 1 1 _) (z6 (z0 (src _ λh0 tk its kp rv=>?_)));have I0:Inv X JC σ H { s with heap:=h0,toks:=tk }:=I.kept (t':=tk) kp;obtain⟨m,F0⟩:=I0.fr;have li:its.length=xs.length:=rv.length.symm;refine DM (vs:=its) (b:=b) F0 (jw X.base h0 X.env.locals) (by omega) hs2 hs3 λD kS e1 h1 F1 N1 hDk hD=>?_;have nD:=N1 (D,seqObj "list" #[] e1) (.tail _ (.head _));have nK:=N1 (kS,seqObj "list" #[] 0) (.head _);have hds:h0.get? D=none:=by
  cases g:h0.get? D with
  |none=>rfl
  |some o=>exact absurd (hD (D,o) (dF g nD.2.1 nD.2.2)) (Yl _)
 have hks:h0.get? kS=none:=by
  cases g:h0.get? kS with
  |none=>rfl
  |some o=>exact absurd (Nat.lt_trans hDk (hD (kS,o) (dF g nK.2.1 nK.2.2))) (Yl _)
 have xk:=I0.exOk hks nK.2.1 nK.2.2;have xd:=I0.exOk hds nD.2.1 nD.2.2;have hlx:∀b∈[kS,D],ExOk X b:=λb' hb=>by
  simp only[Zj,ZT,YK]at hb;rcases hb with rfl|rfl
  ·exact xk
  ·exact xd
 have fpk:=I0.fpW (l:=[kS,D]) (by simp) xk hks;have fpd:=I0.fpW (l:=[kS,D]) (by simp) xd hds;have mv0:∀b u,b≠X.env.locals->b∉([]:List Jy)->h0.get? b=some u->h1.get? b=some u:=λb u hL _ g=>by
  cases qb:X.base.get? b with
  |none=>exact(N1 (b,u) (.tail _ (.tail _ (dF g hL qb)))).1
  |some o =>have e':=I0.bk b o qb;rw[g]at e';cases e';exact F1.keep b u qb
 have I1:Inv X JC σ H { s with heap:=h1,toks:=tk }:=Inv.movedF (ch:=[]) (s:={ s with heap:=h0,toks:=tk }) (t':=tk) I0 (λb hb=>absurd hb (by simp)) mv0 ⟨m,F0.ns,F1.ns⟩;have I2:=I1.widen hlx;have hkd:kS≠D:=Yf hDk;refine pE (X:=wX X [kS,D]) (H1:=H) (D:=D) (e1:=e1) (ks:=ks) (xs:=xs) (its:=its) hkd rv hl (F _) spec (λas us e2 H' s' S la=>?_) its [] [] 0 H { s with heap:=h1,toks:=tk } ⟨I2,Same.refl H,fpk,fpd,nK.2.2,nD.2.2,nK.1,nD.1,F1.ns,.nil,λi a k h=>by simp at h⟩ (by simp) (by simpa using li);have hN:its.length=xs.length:=li;have lu:us.length=xs.length:=by rw[<-S.vals.length,la]
 have rvR:Vals (katRev b xs) (katRev b its):=tQ b rv;have lR:(katRev b xs).length=xs.length:=kat_len b xs;have gk:∀i,i<xs.length->∃(v:V) (u:Jw) (k:ZKey),RelV v u/\(katRev b us).getD i Value.none=u/\k∈ks/\(katRev b (ks.map ZKey.nums)).getD i []=k.nums/\k.at H' v:=λi hi=>by
  obtain⟨j,hj,e1⟩:∃j,j<xs.length/\∀{α:Type} (l:List α),l.length=xs.length->(katRev b l)[i]?=l[j]?:=by
   cases b with
   |false=>exact⟨i,hi,λl _=>rfl⟩
   | true=>exact⟨xs.length - 1 - i,by omega,λl hl'=>by
     show l.reverse[i]?=_;rw[List.getElem?_reverse (by omega),hl']⟩
  have h1:as[j]?=some (as[j]'(by omega)):=Zd (by omega);have h2:ks[j]?=some (ks[j]'(by omega)):=Zd (by omega);obtain⟨u,gu,ru⟩:=S.vals.get h1;refine⟨_,u,_,ru,?_,Z9 (show j<ks.length by omega),?_,S.keys j _ _ h1 h2⟩
  ·rw[Zv,e1 us lu,gu];rfl
  ·rw[Zv,e1 (ks.map ZKey.nums) (by rw[Ze,hl]),ZE,h2];rfl
 have fin:∀p:Jo,POk xs.length p->p.size=xs.length/\LS (λi j=>HT.lexLt ((katRev b (ks.map ZKey.nums)).getD i []) ((katRev b (ks.map ZKey.nums)).getD j [])) p xs.length ->
   KatFin X.base X.env.locals m kS D us e2 e1 (katRev b (p.toList.map λi=>(katRev b its).getD i Value.none)) (λs4=>EP X JC σ Q (.ref D) s4) s':=λp hp hs=>by
  refine KatFin.intro (news:=(kS,seqObj "list" (List.toArray us) e2)::iC X.base s'.heap X.env.locals kS) S.fr (iK S.hk S.fk.2.1 S.bk) (.head kE) λh3 c F3 N3=>?_;have mv3:=iJ (λb' o qb=>S.I.bk b' o qb) F3 N3;have hd3:h3.get? D=some (seqObj "list" #[] e1):=mv3 D _ S.fd.2.1 (λzz=>hkd (Zq.mp zz).symm) S.hd;refine KasFin.intro (news:=(D,seqObj "list" #[] e1)::iC X.base h3 X.env.locals D) (s:={ s' with heap:=h3 }) F3 (iK hd3 S.fd.2.1 S.bd) (.head kE) λh4 c4 F4 N4=>?_;have mv4:=iJ (λb' o qb=>F3.keep b' o qb) F4 N4;have hch:∀b∈[kS,D],bY (wX X [kS,D]) JC H' b:=λb' hb=>by
   simp only[Zj,ZT,YK]at hb;rcases hb with rfl|rfl
   ·exact S.fk
   ·exact S.fd
  have mv:∀b u,b≠X.env.locals->b∉[kS,D]->s'.heap.get? b=some u->h4.get? b=some u:=λb' u hL hx g=>mv4 b' u hL (λzz=>hx (by rw[Zq.mp zz];simp)) (mv3 b' u hL (λzz=>hx (by rw[Zq.mp zz];simp)) g);have pl:∀i∈p.toList,i<xs.length:=λi hi=>by have:=(hp.mem_iff).mp (YB.mp hi);simpa using this
  have vals:∀(w:Js),(∀i∈w,i<xs.length)->Vals (w.map λi=>(katRev b xs).getD i .non) (w.map λi=>(katRev b its).getD i Value.none):=λw=>by
   induction w with
   |nil=>intro _;exact .nil
   |cons i w ih =>intro hw;have hi:=hw i Zl;have hx:(katRev b xs)[i]?=some ((katRev b xs)[i]'(by omega)):=Zd (by omega);obtain⟨u,gu,ru⟩:=rvR.get hx;refine .cons ?_ (ih λj hj=>hw j (Zf _ hj));show RelV ((katRev b xs).getD i V.non) ((katRev b its).getD i Value.none);rw[Zv,Zv,hx,gu];exact ru
  have lp:p.toList.length=xs.length:=by have:=hs.1;simpa using this
  have new:ObjOk X.prog X.w (upd H' D (.lst (katRev b (p.toList.map λi=>(katRev b xs).getD i .non)))) h4 D (.lst (katRev b (p.toList.map λi=>(katRev b xs).getD i .non))):=⟨by rw[kat_len,Ze,lp];exact fY (by omega),_,c4,tQ b (vals _ pl),(N4 _ (.head _)).1⟩
  have I4:=Inv.tookF (X:=wX X [kS,D]) (ch:=[kS,D]) (a:=D) (o:=.lst (katRev b (p.toList.map λi=>(katRev b xs).getD i .non))) (t':=s'.toks) S.I (by simp) hch mv ⟨m,S.ns,F4.ns⟩ new;exact⟨.ref D,_,I4.narrow I.ok (λb' hb=>(hlx b' hb).old),rfl,q p H' D hp hs.2 S.sm S.fd.1⟩
 have go:∀κ:SortKind,(∀(i j:Nat) (C:Bool->Ju->Prop),i<xs.length->j<xs.length->C (HT.lexLt ((katRev b (ks.map ZKey.nums)).getD i []) ((katRev b (ks.map ZKey.nums)).getD j [])) s'->kas_ask X.prog X.w X.A.in1.in1 κ (katRev b us) i j C s') ->
   ZGo X.prog X.w X.A.in1.in1 b us its (λout=>KatFin X.base X.env.locals m kS D us e2 e1 out (λs4=>EP X JC σ Q (.ref D) s4)) κ s':=λκ hask=>by
  refine⟨_,yD (katRev b (ks.map ZKey.nums)),?_,?_⟩
  ·rw[hN];exact hask
  ·rw[hN];exact λp hp hs=>fin p hp ⟨by have:=hp.size_eq;simpa using this,hs⟩
 refine⟨λn2=>?_,λn2=>?_⟩
 rotate_left
 ·have:=fin (List.toArray (List.range its.length)) (by rw[hN];exact Array.Perm.refl _) ⟨by simpa using hN,λi j h1 h2=>by omega⟩;rw[List.toList_toArray]at this;exact this
 have tups:∀(vs:List V) (ws:Jn) (n:Nat),Vals vs ws->n+vs.length=ks.length->(∀(i:Nat) (v:V) (k:ZKey),vs[i]?=some v->ks[n+i]?=some k->k.at H' v)->∃fs:Jn,KatTups s'.heap ws fs/\fs.length=ws.length/\∀v∈fs,∃(a:Jy) (o:Obj),v=.ref a/\s'.heap.get? a=some o/\o.cls=.type "tuple":=λvs=>by
  induction vs with
  |nil =>intro ws n hv _ _;cases hv;exact⟨[],KatTups.nil,rfl,λv h=>nomatch h⟩
  |cons v vs ih =>
   intro ws n hv hl' h;cases hv with
   |cons rv1 hv =>
    rw[Zw]at hl';have hkn:ks[n]?=some (ks[n]'(by omega)):=Zd (by omega);obtain⟨ps,ns,en⟩:=hP _ (Z9 (show n<ks.length by omega));rw[en]at hkn;obtain⟨a,b,c,rfl,ea,eb,ec⟩:=h 0 v _ rfl (by rw[Nat.add_zero];exact hkn);cases rv1;obtain⟨ia,ra,pa,za⟩:=S.I.tuple (JF (K:=X.K) ea);obtain⟨oa,eo,ca,n1,da⟩:=id pa;obtain⟨ib,rb,pb,zb⟩:=S.I.tuple (JF (K:=X.K) eb);obtain⟨ob,eob,cb,n2,db⟩:=id pb;obtain⟨u1,u2,rfl,r1,r2⟩:=iq ra;cases r1;obtain⟨fs,f1,f2,f3⟩:=ih _ (n+1) hv (by omega) (λi w k' h1 h2=>h (i+1) w k' h1 (by rw[show n+(i+1)=n+1+i by omega];exact h2));refine⟨.ref b::fs,KatTups.cons eo ca da rfl f1,by rw[Zw,Zw,f2],λv hv=>?_⟩;rcases Zj.mp hv with rfl|hv
    ·exact⟨b,ob,rfl,eob,cb⟩
    ·exact f3 v hv
 obtain⟨fs,t1,t2,t3⟩:=tups as us 0 S.vals (by omega) (λi v k h1 h2=>S.keys i v k h1 (by rw[Nat.zero_add]at h2;exact h2));refine kat_kind (T:=.type "tuple") t1 (by omega) (λv hv=>?_) rfl (go _ λi j C hi hj hC=>?_)
 ·obtain⟨a,o,rfl,ho,hc'⟩:=t3 v hv;rw[<-hc'];exact(Looks.ld ho).andThen .now
 ·obtain⟨v,u,k1,ru,eu,m1,en,at1⟩:=gk i hi;obtain⟨v2,u2,k2,ru2,eu2,m2,en2,at2⟩:=gk j hj;obtain⟨p1,n1,rfl⟩:=hP _ m1;obtain⟨p2,n2,rfl⟩:=hP _ m2;obtain⟨a1,b1,c1,rfl,ha1,hb1,hc1⟩:=at1;obtain⟨a2,b2,c2,rfl,ha2,hb2,hc2⟩:=at2;cases ru;cases ru2;obtain⟨ia,ra,pa,za⟩:=S.I.tuple (JF (K:=X.K) ha1);obtain⟨ib,rb,pb,zb⟩:=S.I.tuple (JF (K:=X.K) ha2);obtain⟨oa,eoa,ca,q1,da⟩:=id pa;obtain⟨ob,eob,cb,q2,db⟩:=id pb;obtain⟨u1,u2,rfl,r1,r2⟩:=iq ra;cases r1;cases r2;obtain⟨u1,u2,rfl,r1,r2⟩:=iq rb;cases r1;cases r2;obtain⟨ix,rx,px,zx⟩:=S.I.tuple (JF (K:=X.K) hb1);obtain⟨iy,ry,py,zy⟩:=S.I.tuple (JF (K:=X.K) hb2);obtain⟨jx,sx,qx,yx⟩:=S.I.tuple (JF (K:=X.K) hc1);obtain⟨jy,sy,qy,yy⟩:=S.I.tuple (JF (K:=X.K) hc2);unfold kas_ask;rw[eu,eu2];rw[en,en2]at hC;have hu0:X.A.in1.in1.units<cLine:=by omega
  exact kat_lt eoa da eob db (ud (mh S.I hun hb1 hb2) (mh S.I hun hc1 hc2) (λR hR=>HT.lt_tupInts px py (bZ rx) (bZ ry) hu0 hR) (λR hR=>HT.lt_tupInts qx qy (bZ sx) (bZ sy) hu0 hR) rfl hC)
end
def FY(sp:Sp)(H:Hp)(xs:List V)(Q:VK):Prop :=
 xs.length<64/\∃ks:List ZKey,ks.length=xs.length/\xG ks /\
 (∀(i:Nat) (v:V) (key:ZKey) (H':Hp),xs[i]?=some v->ks[i]?=some key->Same H H'->∀R:VK,(∀kv H'',Same H' H''->key.at H'' kv->R kv H'')->sp [v] H' R E0) /\
 ∀(p:Jo) (H2:Hp) (D:Jy),POk xs.length p->LS (λi j=>HT.lexLt ((ks.map ZKey.nums).getD i []) ((ks.map ZKey.nums).getD j [])) p xs.length->Same H H2->H2 D=none->Q (.ref D) (upd H2 D (.lst (p.toList.map λi=>xs.getD i .non)))
def DC(P:Jy)(q:Str)(lpos:Pos)(j:Nat)(sp:V->Sp)(ta:TA):TE:=λσ H0 Q=>ta σ H0 λvs H=>∃(l:Jy) (kvs:List (List Key×V)) (kv:V),vs=[.ref l]/\σ[j]?=some (some kv)/\H l=some (.dT kvs)/\aH q P lpos H/\∀ks H2,SameT P H H2->aH q P lpos H2->dh H2 kvs ks->FY (sp kv) H2 ks Q
section
variable{X:Cx}{c P:Jy}{JC:Jj}{σ:St}
theorem Bf{k j:Nat}{x y:Str}{cy:Jy}{sp:V->Sp}{e body:Jz}{params:Arguments}{scope:Scope}{ta:TA}{p lpos kpos pos:Pos}(hc:X.calm=true)(hm:X.mg "sorted" = none)(hcode:X.env.code=.ref c)(C:CodeHd X.base c P)(B:Blt X.base X.mg)(F:LamOkX X.prog X.w X.K X.mg X.base k (X.env.qual++"<lambda>") body scope x y sp)(hr:Room (k+3) X.A)(ha:QA X [e] ta)(hj:X.N[j]?=some y)(hyc:X.env.scope.names.lookup y=some .cell)(hcy:X.env.cells.lookup y=some cy)(hcl:closureFor scope X.env=pure [(y,cy)])(hbd:∀(pm ct:Jw) (c':Jy) (s:Ju) (u:Jw),BindsTo s (wK (X.env.qual++"<lambda>") params body scope [(y,cy)] pm c' ct) ⟨[u],[]⟩ [(x,u)]:=by intros;exact .of_eq rfl)(hge:X.env.globals=mainGlobals:=by rfl)(hdef:defaultsOf params X.env=([],[]):=by rfl)(hg:Gl X "sorted":=by rfl)(hn:aP e=true:=by rfl) :
  QE X (.Call (.Name "sorted" p) [e] [⟨some "key",.Lambda params body scope lpos,kpos⟩] pos) (DC P (X.env.qual++"<lambda>") lpos j sp ta):=by
 refine⟨?_⟩;intro JC s σ H0 Q I h;refine wpAny_Call_Name_kw (fT I hg hm PyProof.Rows.boot_sorted ?_);have h1:=aJ (es:=[]) (env:=X.env) hn;refine PyProof.Rows.callWith_kw (thn (ha.h pos JC s σ H0 _ I h) λus s1 hz9=>?_) (he:=by rw[h1];rfl) (hplain:=by rw[h1];rfl) (hall:=rfl) (hkw:=rfl);obtain⟨vs,H1,I1,r1,q1⟩:=hz9;obtain⟨l,kvs,kv,rfl,hσ,hH,tab,q⟩:=q1;obtain⟨u,rfl,ru⟩:=fz r1;cases ru;have hk:PK X [⟨some "key",.Lambda params body scope lpos,kpos⟩] (jk (xB [(y,cy)] X P params body scope lpos) iU):=Dc (C7 hcode hge C B hdef hcl) Fh;refine thn (hk pos JC s1 σ H1 (λzs H2=>∃f,zs=[.ref f]/\um X P (X.env.qual++"<lambda>") lpos params body scope [(y,cy)] H1 f H2) I1 (AC tab λf H2 mk=>⟨f,rfl,mk⟩)) λws s2 hz9=>?_;obtain⟨zs,H2,I2,rz,f,e1,mk⟩:=hz9;subst e1;obtain⟨u,rfl,ru⟩:=fz rz;cases ru;obtain⟨c',ct,sT,lt,hf,hc',nf,nc⟩:=mk;have hr2:Room (k+1) X.A.in1.in1:=(hr.mono (by omega) |>.in1 |>.in1)
 have F1:=AD (X:=X) (JC:=JC) (σ:=σ) (sp:=sp kv) (params:=params) (f:=f) (c:=cy) (c':=c') (pm:=(X.mg "__name__").getD .none) (ct:=ct) F.sc hj hσ hyc hcy hr2 (hbd _ _ _) λA outer s H v Q hr' hs=>let⟨t,t1,t2⟩:=F.ex f c' cy kv A outer s H v Q hr' hs;⟨t,t1.h,t2⟩
 obtain⟨ps0,tP,_⟩:=id tab;have hlP:l≠P:=λz=>by rw[z,tP]at hH;cases hH
 have hH2:=sT _ _ hH hlP;obtain⟨ks,kat,src⟩:=zB hc I2 (Rd.of hH2);obtain⟨hz,zs,hl,hal,spec,q⟩:=q ks H2 sT lt kat;exact ul (b:=false) I2 src hz hl hal hr2.units (ksk_s1 _ _) (λx=>ksk_l1 _ _) (λx=>ksk_t1 f x) F1 (λi v key H' g1 g2 g3 R hR=>⟨g3 _ _ hf,g3 _ _ hc',spec i v key H' g1 g2 g3 R hR⟩) q
end
end L2
set_option maxRecDepth 100000
set_option maxHeartbeats 4000000
namespace K27
open PySem L2
open PyProof.Rows (envOfC)
open PySem.W (envX CodeHd)
abbrev JK:=List V
abbrev JJ:=List (List Key×V)
def top(i:Nat):JA:=PySem.Challenge.pw_limb_k27_whole_plain_outline.main.body.getD i (.Pass ⟨0,0,0,0⟩)
def tw(l:Jr):TV:=.tup (l.map V.str)
theorem cxK{CX:CXT}{N:Jr}{qual:Str}{scope:Scope}{f:Jy}{cd:Jw}{A:Jv}{outer:List Env}{s:Ju}{H:Hp}{E:XK}:(fA CX P w K mg base N qual scope f cd A outer s H E).nox.K=K:=rfl
theorem vix{K:W.Frag}{i:Nat}{n:Int}{σ:St}{H:Hp}{Q:VK}{a:Jy}{xs:JK}{v:V}(hv:σ[i]?=some (some (.ref a)))(hs:SqT K H a xs)(ha:atI xs n=some v)(q:Q v H):tOp (rIxT K) (tVar i) (tC (.int n)) σ H Q:=⟨_,hv,a,_,_,_,rfl,rfl,hs,ha,q⟩
theorem qQ{K:W.Frag}{a:Jy}{xs:JK}{g:TG}{tb:L2.TS}{D:Ends}{σ:St}{H:Hp}(Pv:Nat->St->Hp->Prop)(h0:Pv 0 σ H)(hl:∀i σ H,i<=xs.length->Pv i σ H->SqL K H a xs)(hs:∀i x σ H,xs[i]?=some x->Pv i σ H->∀D':Ends,(∀σ' H',Pv (i+1) σ' H'->D'.nx σ' H')->g x σ H λσ2 H2=>tb D' σ2 H2)(hd:∀σ H,Pv xs.length σ H->D.nx σ H) :
  ∃W:Nat->Nat->St->Hp->Prop,(∃m,W 0 m σ H)/\∀i m σ H,W i m σ H ->
   ((Itl K a).stop i H/\D.nx σ H)\/((Itl K a).go i H/\∃N:St->Hp->Prop,(∀σ' H',N σ' H'->∃m',m'<m/\W (i+1) m' σ' H')/\∀x H',(Itl K a).yld i H x H'->g x σ H' λσ2 H2=>tb { D with nx:=N,ct:=N,bk:=D.nx } σ2 H2) :=
 nq Pv h0 hl (λi x σ H a b=>hs i x σ H a b _ λ_ _ z=>z) hd
theorem iY{K:W.Frag}{a:Jy}{xs:JK}{j:Nat}{tb:L2.TS}{D:Ends}{σ:St}{H:Hp}(Pv:Nat->St->Hp->Prop)(h0:Pv 0 σ H)(hl:∀i σ H,i<=xs.length->Pv i σ H->SqL K H a xs)(hs:∀i x σ H,xs[i]?=some x->Pv i σ H->∀D':Ends,(∀σ' H',Pv (i+1) σ' H'->D'.nx σ' H')->tb D' (σ.set j (some x)) H)(hd:∀σ H,Pv xs.length σ H->D.nx σ H) :
  ∃W:Nat->Nat->St->Hp->Prop,(∃m,W 0 m σ H)/\∀i m σ H,W i m σ H ->
   ((Itl K a).stop i H/\D.nx σ H)\/((Itl K a).go i H/\∃N:St->Hp->Prop,(∀σ' H',N σ' H'->∃m',m'<m/\W (i+1) m' σ' H')/\∀x H',(Itl K a).yld i H x H'->dv j x σ H' λσ2 H2=>tb { D with nx:=N,ct:=N,bk:=D.nx } σ2 H2) :=
 qQ Pv h0 hl hs hd
theorem wo{lo:Int}{n:Nat}{g:TG}{tb:L2.TS}{D:Ends}{σ:St}{H:Hp}(Pv:Nat->St->Hp->Prop)(h0:Pv 0 σ H)(hs:∀i σ H,i<n->Pv i σ H->∀D':Ends,(∀σ' H',Pv (i+1) σ' H'->D'.nx σ' H')->g (.int (lo+i)) σ H λσ2 H2=>tb D' σ2 H2)(hd:∀σ H,Pv n σ H->D.nx σ H) :
  ∃W:Nat->Nat->St->Hp->Prop,(∃m,W 0 m σ H)/\∀i m σ H,W i m σ H ->
   ((Itr lo n).stop i H/\D.nx σ H)\/((Itr lo n).go i H/\∃N:St->Hp->Prop,(∀σ' H',N σ' H'->∃m',m'<m/\W (i+1) m' σ' H')/\∀x H',(Itr lo n).yld i H x H'->g x σ H' λσ2 H2=>tb { D with nx:=N,ct:=N,bk:=D.nx } σ2 H2) :=
 qR Pv h0 (λi σ H a b=>hs i σ H a b _ λ_ _ z=>z) hd
theorem ax{t u:L2.TS}{D:Ends}{σ:St}{H:Hp}(h:∀R:Ends,(∀σ' H',u D σ' H'->R.nx σ' H')->t R σ H):Bp t u D σ H:=h { D with nx:=u D } λ_ _ z=>z
theorem yi{K:W.Frag}{a:Jy}{xs:JK}{i j:Nat}{tb:L2.TS}{D:Ends}{σ:St}{H:Hp}(Pv:Nat->St->Hp->Prop)(h0:Pv 0 σ H)(ha:∀i σ H,i<=xs.length->Pv i σ H->SqL K H a xs)(hs:∀k x σ H,xs[k]?=some x->Pv k σ H->∀D':Ends,(∀σ' H',Pv (k+1) σ' H'->D'.nx σ' H')->∀T,H T=none->tb D' ((σ.set i (some (.int k))).set j (some x)) (upd H T (.tup [.int k,x])))(hd:∀σ H,Pv xs.length σ H->D.nx σ H) :
  ∃W:Nat->Nat->St->Hp->Prop,(∃m,W 0 m σ H)/\∀k m σ H,W k m σ H ->
   ((Ite K a xs).stop k H/\D.nx σ H)\/((Ite K a xs).go k H/\∃N:St->Hp->Prop,(∀σ' H',N σ' H'->∃m',m'<m/\W (k+1) m' σ' H')/\∀x H',(Ite K a xs).yld k H x H'->sK K 2 (iZ (dv i) (iZ (dv j) sJ)) x σ H' λσ2 H2=>tb { D with nx:=N,ct:=N,bk:=D.nx } σ2 H2) :=
 Av Pv h0 ha (λk x σ H a b T c=>hs k x σ H a b _ (λ_ _ z=>z) T c) hd
def ST:List (Str×TV):=[("put",tw ["new","up","place","text"]),("move",tw ["item","up","place"]),("write",tw ["item","text"]),("mark",tw ["item","truth"]),("due",tw ["item","whom"]),("fold",tw ["item","truth"]),("part",tw ["item","at","new","place"]),("join",tw ["item","item"]),("gone",tw ["item"])]
def FC:List (Str×TV):=[("move",.flat (.int 0)),("write",.flat (.int 2)),("mark",.flat (.int 3)),("due",.flat (.int 4)),("fold",.flat (.int 5))]
theorem at0{x:V}{r:JK}:atI (x::r) 0=some x:=de (xs:=x::r) (j:=0) rfl
theorem at1{x y:V}{r:JK}:atI (x::y::r) 1=some y:=de (xs:=x::y::r) (j:=1) rfl
theorem at2{x y z:V}{r:JK}:atI (x::y::z::r) 2=some z:=de (xs:=x::y::z::r) (j:=2) rfl
theorem at3{x y z u:V}{r:JK}:atI (x::y::z::u::r) 3=some u:=de (xs:=x::y::z::u::r) (j:=3) rfl
theorem at4{x y z u v:V}{r:JK}:atI (x::y::z::u::v::r) 4=some v:=de (xs:=x::y::z::u::v::r) (j:=4) rfl
theorem at5{x y z u v q:V}{r:JK}:atI (x::y::z::u::v::q::r) 5=some q:=de (xs:=x::y::z::u::v::q::r) (j:=5) rfl
theorem Gr:¬(("held":Str)="away"):=by decide
def lq(h a:Jy):List (Str×V):=dQ "away" (.ref a) (dQ "held" (.ref h) [])
theorem aS(h a:Jy):(lq h a).lookup ("held":Str)=some (.ref h):=by unfold lq;rw[dq,Jf Gr,dq,Jg rfl]
theorem iX(h a:Jy):(lq h a).lookup ("away":Str)=some (.ref a):=by unfold lq;rw[dq,Jg rfl]
theorem iA(h a:Jy){m:Str}(h1:¬m="away")(h2:¬m="held"):(lq h a).lookup m=none:=by
 unfold lq;rw[dq,Jf h1,dq,Jf h2]
 all_goals rfl
structure PlainAt(C:Jy)(H:Hp)(p d g:Jy)(kvs gvs:JJ):Prop where
 ob:∃dx,H p=some (.ins C dx (lq d g))
 dc:H d=some (.dT kvs)
 gc:H g=some (.dT gvs)
 ne:d≠g
theorem PlainAt.same{C:Jy}{H H':Hp}{p d g:Jy}{kvs gvs:JJ}(x:PlainAt C H p d g kvs gvs)(s:Same H H'):PlainAt C H' p d g kvs gvs:=by obtain⟨⟨dx,h1⟩,h2,h3,h4⟩:=x;exact⟨⟨dx,s _ _ h1⟩,s _ _ h2,s _ _ h3,h4⟩
theorem PlainAt.put{C:Jy}{H:Hp}{p d g:Jy}{kvs gvs kvs':JJ}(x:PlainAt C H p d g kvs gvs):PlainAt C (upd H d (.dT kvs')) p d g kvs' gvs:=by obtain⟨⟨dx,h1⟩,h2,h3,h4⟩:=x;exact⟨⟨dx,by rw[ad (cV h1 h2 nofun)];exact h1⟩,ac,by rw[ad (Zs h4)];exact h3,h4⟩
def But(d:Jy)(H H':Hp):Prop:=∀b o,H b=some o->b≠d->H' b=some o
inductive NameIs(H:Hp)(v:V)(k:List Key):Prop
 |mk (b:_) (h0:v=.ref b) (h1:H b=some (.tup (k.map kV))):NameIs H v k
theorem NameIs.same{H H':Hp}{v:V}{k:List Key}(x:NameIs H v k)(s:Same H H'):NameIs H' v k:=by obtain⟨b,h1,h2⟩:=x;exact⟨b,h1,s _ _ h2⟩
inductive spParts(K:W.Frag)(vs:JK)(H:Hp)(Q:VK)(E_:XK):Prop
 |mk (k:Str) (ws:Jr) (h0:vs=[.str k]) (h1:PyProof.Rows.KTD.datumAt k ST=some (tw ws)) (h2:∀t,(∀H',SqT K H' t (ws.map V.str))->Q (.ref t) H):spParts K vs H Q E_
inductive spInit(C:Jy)(vs:JK)(H:Hp)(Q:VK)(E_:XK):Prop
 |mk (p dx:Jy) (h0:vs=[.ref p]) (h1:H p=some (.ins C dx [])) (h2:∀(d g:Jy) (H':Hp),H d=none->H g=none->PlainAt C H' p d g [] []->(∀b o,H b=some o->b≠p->H' b=some o)->Q .non H'):spInit C vs H Q E_
def Cd(H:Hp)(kvs:JJ)(ws:Jr)(ps:JK):Prop:=ws.length=ps.length/\∀(i:Nat) (w:Str) (v:V),ws[i]?=some w->ps[i]?=some v ->
 (w="new"->∃k,NameIs H v k/\bw kvs k=none)/\((w="item"\/w="up")->v=.non\/∃k,NameIs H v k/\(bw kvs k).isSome=true)
inductive spCheckN(C:Jy)(vs:JK)(H:Hp)(Q:VK)(E_:XK):Prop
 |mk (p d g st:Jy) (kvs gvs:JJ) (w:Str) (ws:Jr) (ps:JK) (h0:vs=[.ref p,.ref st]) (h1:PlainAt C H p d g kvs gvs) (h2:H st=some (.tup (.str w::ps))) (h3:PyProof.Rows.KTD.datumAt w ST=some (tw ws)) (h4:Cd H kvs ws ps) (h5:∀H',Same H H'->Q .non H'):spCheckN C vs H Q E_
inductive spBring(C:Jy)(vs:JK)(H:Hp)(Q:VK)(E_:XK):Prop
 |mk (p d g:Jy) (kvs gvs:JJ) (nm up pl tx:V) (k:List Key) (h0:vs=[.ref p,nm,up,pl,tx]) (h1:PlainAt C H p d g kvs gvs) (h2:NameIs H nm k) (h3:kvs.length<=500) (h4:∀(t:Jy) (H':Hp),Same H H'->H' t=some (.tup [up,pl,tx,.bl false,.non,.bl false])->Q .non (upd H' d (.dT (ba kvs k (.ref t))))):spBring C vs H Q E_
inductive spChange(C:Jy)(vs:JK)(H:Hp)(Q:VK)(E_:XK):Prop
 |mk (p d g it va:Jy) (kvs gvs:JJ) (nm:V) (k:List Key) (i:Nat) (xs ys:JK) (h0:vs=[.ref p,nm,.int (i:Int),.ref va]) (h1:PlainAt C H p d g kvs gvs) (h2:NameIs H nm k) (h3:kvs.length<=500) (h4:bw kvs k=some (.ref it)) (h5:H it=some (.tup xs)) (h6:H va=some (.tup ys)) (h7:i+ys.length<=xs.length) (h8:xs.length<=100) (h9:∀(t:Jy) (H':Hp),Same H H'->H' t=some (.tup (xs.take i++ys++xs.drop (i+ys.length)))->Q .non (upd H' d (.dT (ba kvs k (.ref t))))):spChange C vs H Q E_
inductive spItem(C:Jy)(vs:JK)(H:Hp)(Q:VK)(E_:XK):Prop
 |mk (p d g:Jy) (kvs gvs:JJ) (nm v:V) (k:List Key) (h0:vs=[.ref p,nm]) (h1:PlainAt C H p d g kvs gvs) (h2:NameIs H nm k) (h3:bw kvs k=some v) (h4:Q v H):spItem C vs H Q E_
inductive spNames(C:Jy)(vs:JK)(H:Hp)(Q:VK)(E_:XK):Prop
 |mk (p d g:Jy) (kvs gvs:JJ) (h0:vs=[.ref p]) (h1:PlainAt C H p d g kvs gvs) (h2:∀l ks,H l=none->dh H kvs ks->Q (.ref l) (upd H l (.lst ks))):spNames C vs H Q E_
inductive spCell(K:W.Frag)(vs:JK)(H:Hp)(Q:VK)(E_:XK):Prop
 |mk (a:Jy) (ns:Jq) (k:Int) (h0:vs=[.ref a,.int k]) (h1:SqL K H a (ns.map V.int)) (h2:0<=k) (h3:Q (.int (jX ns k.toNat)) H):spCell K vs H Q E_
inductive spLaw(K:W.Frag)(vs:JK)(H:Hp)(Q:VK)(E_:XK):Prop
 |mk (a:Jy) (ns:Jq) (h0:vs=[.ref a]) (h1:SqL K H a (ns.map V.int)) (h2:ns.length<=63) (h3:∀H',Q (.bl true) H'):spLaw K vs H Q E_
structure Txt(K:W.Frag)(C:Jy):Prop where
 cl:Cls K C
 nH:NoAttr K C "held"
 nA:NoAttr K C "away"
section
variable{P:Jt}{w:Jx}{K:W.Frag}{mg:Ji}{base:JB}
abbrev iQ:JA:=top 9
abbrev sf:Jr:=["word"]
theorem rE:FnScope sf ["word"] (aj iQ):=⟨rfl,rfl,rfl,by decide,rfl,by decide,by decide⟩
theorem rB{f:Jy}{fd:Jp}(F:Fun K "step_parts" "step_parts" iQ f fd){dd:Jy}(p7:mg "STEP_PARTS" = some (.ref dd))(T:Tab K dd ST):FnOk P w K mg base CX0 1 f fd ["word"] (spParts K):=by
 refine F.okQ rE (λvs H Q E h=>?_) (λcdv A outer s H vs Q E hr h=>?_)
 ·obtain⟨k,ws,rfl,_⟩:=h;rfl
 obtain⟨k,ws,rfl,hk,q⟩:=h;refine⟨_,(b_1 (aD (am B7 (ql p7) (q_v 0)))),?_⟩
 try rw[cxK]
 exact⟨_,rfl,dd,k,ST,tw ws,rfl,rfl,T,hk,q⟩
abbrev iM:JA:=bG (top 15) 0
abbrev rW:Jr:=["self"]
theorem rC:FnScope rW ["self"] (aj iM):=⟨rfl,rfl,rfl,by decide,rfl,by decide,by decide⟩
theorem rp{f C:Jy}{fd:Jp}(F:Fun K "__init__" "Plain.__init__" iM f fd)(T:Txt K C):FnOk P w K mg base CX0 1 f fd ["self"] (spInit C):=by
 refine F.okQ rC (λvs H Q E h=>?_) (λcdv A outer s H vs Q E hr h=>?_)
 ·obtain⟨p,dx,rfl,_⟩:=h;rfl
 obtain⟨p,dx,rfl,hp,k⟩:=h;refine⟨_,(b_c (BU (q_v 0) rQ)
   (b_1 (BU (q_v 0) rQ))),?_⟩
 try rw[cxK]
 intro d hd;have npd:p≠d:=ai hp hd;refine⟨_,rfl,p,C,dx,[],rfl,(by rw[ad npd];exact hp),T.cl,T.nH,(by show 0<1000;decide),?_⟩;intro g hg;have hg0:H g=none:=by
  cases e:H g with
  |none=>rfl
  |some o =>
   have:g≠d:=ai e hd;by_cases c:g=p
   ·subst c;rw[ac]at hg;cases hg
   ·rw[ad c,ad this,e]at hg;cases hg
 have ngp:g≠p:=λz=>by rw[z,hp]at hg0;cases hg0
 have ngd:g≠d:=λz=>by rw[z,ad npd.symm,ac]at hg;cases hg
 refine⟨_,rfl,p,C,dx,_,rfl,(by rw[ad ngp.symm,ac]),T.cl,T.nA,(by show 1<1000;decide),?_⟩;refine k d g _ hd hg0 ⟨⟨dx,ac⟩,by rw[ad npd.symm,ad ngd.symm,ad npd.symm,ac],by rw[ad ngp,ac],ngd.symm⟩ λb o e hb=>?_;rw[ad hb,ad (ai e hg0),ad hb,ad (ai e hd)];exact e
abbrev iN:JA:=bG (top 15) 10
abbrev rX:Jr:=["self","name"]
theorem rD:FnScope rX ["self","name"] (aj iN):=⟨rfl,rfl,rfl,by decide,rfl,by decide,by decide⟩
theorem rq{f C:Jy}{fd:Jp}(F:Fun K "item" "Plain.item" iN f fd)(T:Txt K C):FnOk P w K mg base CX0 1 f fd ["self","name"] (spItem C):=by
 refine F.okQ rD (λvs H Q E h=>?_) (λcdv A outer s H vs Q E hr h=>?_)
 ·obtain⟨p,d,g,kvs,gvs,nm,v,k,rfl,_⟩:=h;rfl
 obtain⟨p,d,g,kvs,gvs,nm,v,k,rfl,S,⟨b,rfl,hb⟩,hv,q⟩:=h;obtain⟨⟨dx,h1⟩,h2,h3,h4⟩:=id S;refine⟨_,(b_c (aI (gK hr.units (q_v 1) (bS (q_v 0))) (b_1 Dr) b_0)
   (b_1 (aD (bp hr.units (bS (q_v 0)) (q_v 1))))),?_⟩
 try rw[cxK]
 refine⟨_,rfl,_,rfl,p,C,dx,_,_,rfl,h1,T.cl,T.nH,aS _ _,d,_,rfl,DGet.t h2 hb,_,rfl,?_⟩;rw[hv];refine aw ?_;exact⟨_,rfl,p,C,dx,_,_,rfl,h1,T.cl,T.nH,aS _ _,_,rfl,d,v,rfl,hv▸DGet.t h2 hb,q⟩
abbrev fG:JA:=bG (top 15) 4
abbrev mX:Jr:=["self","name","up","place","text"]
theorem mK:FnScope mX ["self","name","up","place","text"] (aj fG):=⟨rfl,rfl,rfl,by decide,rfl,by decide,by decide⟩
theorem mJ{f C:Jy}{fd:Jp}(F:Fun K "bring_in" "Plain.bring_in" fG f fd)(T:Txt K C):FnOk P w K mg base CX0 1 f fd ["self","name","up","place","text"] (spBring C):=by
 refine F.okQ mK (λvs H Q E h=>?_) (λcdv A outer s H vs Q E hr h=>?_)
 ·obtain⟨p,d,g,kvs,gvs,nm,up,pl,tx,k,rfl,_⟩:=h;rfl
 obtain⟨p,d,g,kvs,gvs,nm,up,pl,tx,k,rfl,S,hn,hl,q⟩:=h;obtain⟨⟨dx,h1⟩,h2,h3,h4⟩:=id S;refine⟨_,(b_1 (dM hr.units (bS (q_v 0)) (q_v 1) (aQ (q_a (q_v 2) (q_a (q_v 3) (q_a (q_v 4) (q_a ce (q_a aY (q_a ce ah))))))))),?_⟩
 try rw[cxK]
 refine⟨_,rfl,_,rfl,_,rfl,sz rfl,λt ht=>?_⟩;have sm:=af ht (.tup [up,pl,tx,.bl false,.non,.bl false]);obtain⟨b,rfl,hb⟩:=hn;exact⟨_,rfl,p,C,dx,_,_,rfl,sm _ _ h1,T.cl,T.nH,aS _ _,_,rfl,d,_,rfl,DPut.t (sm _ _ h2) (sm _ _ hb) (bc (by omega)),q t _ sm ac⟩
abbrev gI:JA:=bG (top 15) 5
abbrev pL:Jr:=["self","name","first","values","item"]
theorem ji:FnScope pL ["self","name","first","values"] (aj gI):=⟨rfl,rfl,rfl,by decide,rfl,by decide,by decide⟩
theorem oZ{f C:Jy}{fd:Jp}(F:Fun K "change" "Plain.change" gI f fd)(T:Txt K C)(a8:mg "len" = none):FnOk P w K mg base CX0 1 f fd ["self","name","first","values"] (spChange C):=by
 refine F.okQ ji (λvs H Q E h=>?_) (λcdv A outer s H vs Q E hr h=>?_)
 ·obtain⟨p,d,g,it,va,kvs,gvs,nm,k,i,xs,ys,rfl,_⟩:=h;rfl
 obtain⟨p,d,g,it,va,kvs,gvs,nm,k,i,xs,ys,rfl,S,hn,hl,hv,hit,hva,hi,hx,q⟩:=h;obtain⟨⟨dx,h1⟩,h2,h3,h4⟩:=id S;obtain⟨b,rfl,hb⟩:=hn;refine⟨_,(b_c (au (i:=4) ji.nd (bp hr.units (bS (q_v 0)) (q_v 1)))
   (b_1 (dM hr.units (bS (q_v 0)) (q_v 1) (ar di (ar di (cC bQ (q_v 4) cG (cj (q_v 2))) (q_v 3)) (cC bQ (q_v 4) (cj (ar gZ (q_v 2) (q_B fO a8 Z3 (q_a (q_v 3) ah)))) cG))))),?_⟩
 try rw[cxK]
 refine⟨_,rfl,p,C,dx,_,_,rfl,h1,T.cl,T.nH,aS _ _,_,rfl,d,_,rfl,hv▸DGet.t h2 hb,?_⟩;refine⟨_,rfl,_,rfl,_,rfl,it,xs,rfl,hit,λt1 H1 s1 e1=>?_⟩;have c1:cE xs none (some (i:Int))=xs.take i:=by unfold cE;rw[HT.sIx_none,HT.sIx_nat,List.drop_zero,Nat.sub_zero,Nat.min_eq_left (by omega)]
 rw[c1]at e1;refine⟨_,rfl,t1,va,_,_,rfl,rfl,e1,s1 _ _ hva,bD (by rw[ZS];omega),λt2 H2 s2 e2=>?_⟩;refine⟨_,rfl,_,rfl,_,rfl,va,ys,rfl,.inr (JF (s2 _ _ (s1 _ _ hva))),_,_,rfl,rfl,_,rfl,it,xs,rfl,s2 _ _ (s1 _ _ hit),λt3 H3 s3 e3=>?_⟩;have c2:cE xs (some ((i:Int)+(ys.length:Int))) none=xs.drop (i+ys.length):=by unfold cE;rw[HT.sIx_none,show(i:Int)+(ys.length:Int)=((i+ys.length:Nat):Int) by omega,HT.sIx_nat,Nat.min_eq_left hi,ZA (by rw[YI];omega)]
 rw[c2]at e3;refine⟨t2,t3,_,_,rfl,rfl,s3 _ _ e2,e3,bD (by rw[Zn,ZS,YI];omega),λt4 H4 s4 e4=>?_⟩;have sm:Same H H4:=s1.trans (s2.trans (s3.trans s4));exact⟨_,rfl,p,C,dx,_,_,rfl,sm _ _ h1,T.cl,T.nH,aS _ _,_,rfl,d,_,rfl,DPut.t (sm _ _ h2) (sm _ _ hb) (bc (by omega)),q t4 _ sm e4⟩
theorem Gs(w:Str):inV (.str w) [.str "item",.str "up"]=decide (w="item"\/w="up"):=by
 unfold inV eqV;by_cases h1:w="item"
 ·subst h1;simp
 ·by_cases h2:w="up"
  ·subst h2;simp
  ·simp[h1,h2,Zs h1,Zs h2]
abbrev dS:JA:=bG (top 15) 2
abbrev kP:Jr:=["self","step","kinds","kind","name"]
theorem bz:FnScope kP ["self","step"] (aj dS):=⟨rfl,rfl,rfl,by decide,rfl,by decide,by decide⟩
inductive spNI(cN:Jy)(vs:JK)(H:Hp)(Q:VK)(E_:XK):Prop
 |mk (e t:Jy) (v:V) (h0:vs=[.ref e,v]) (h1:H e=some (exN e cN t none)) (h2:∀d,H d=none->Q .non (upd (upd H d (.xd [("name",v)])) e (exN e cN t (some d)))):spNI cN vs H Q E_
abbrev hZ:JA:=bG (top 4) 0
abbrev ri:Jr:=["self","name"]
theorem qv:FnScope ri ["self","name"] (aj hZ):=⟨rfl,rfl,rfl,by decide,rfl,by decide,by decide⟩
theorem qg{f cN:Jy}{fd:Jp}(F:Fun K "__init__" "NoItem.__init__" hZ f fd)(S:ExS K cN)(n:NoAttr K cN "name"):FnOk P w K mg base CX0 1 f fd ["self","name"] (spNI cN):=by
 refine F.okQ qv (λvs H Q E h=>?_) (λcdv A outer s H vs Q E hr h=>?_)
 ·obtain⟨e,t,v,rfl,_⟩:=h;rfl
 obtain⟨e,t,v,rfl,he,q⟩:=h;refine⟨_,(b_1 (FH (q_v 0) (q_v 1))),?_⟩
 try rw[cxK]
 exact⟨_,rfl,_,rfl,e,cN,t,rfl,he,S,n,q⟩
theorem zW{H1:Hp}{ea t d cN:Jy}{v:V}(h1:H1 ea=none)(hd:upd H1 ea (exN ea cN t none) d=none) :
  Same H1 (del (upd (upd (upd H1 ea (exN ea cN t none)) d (.xd [("name",v)])) ea (exN ea cN t (some d))) ea)/\del (upd (upd (upd H1 ea (exN ea cN t none)) d (.xd [("name",v)])) ea (exN ea cN t (some d))) ea d=some (.xd [("name",v)]):=by
 have nde:d≠ea:=λz=>by rw[z,ac]at hd;cases hd
 refine⟨λb o e=>?_,?_⟩
 ·have hb:b≠ea:=ai e h1;have hbd:b≠d:=λz=>by rw[<-z,ad hb,e]at hd;cases hd
  rw[fP hb,ad hb,ad hbd,ad hb];exact e
 ·rw[fP nde,ad nde,ac]
def PartB(H:Hp)(kvs:JJ)(w:Str)(v:V)(b:Bool):Prop :=
 (w="new"->∃k,NameIs H v k/\b=!(bw kvs k).isSome)/\((w="item"\/w="up")->(v=.non/\b=true)\/∃k,NameIs H v k/\b=(bw kvs k).isSome)
theorem PartB.same{H H':Hp}{kvs:JJ}{w:Str}{v:V}{b:Bool}(x:PartB H kvs w v b)(s:Same H H'):PartB H' kvs w v b :=
 ⟨λe=>let⟨k,a,c⟩:=x.1 e;⟨k,a.same s,c⟩,λe=>(x.2 e).imp id fun⟨k,a,c⟩=>⟨k,a.same s,c⟩⟩
def isI(w:Str):Prop:=w="item"\/w="up"
inductive spCheckX(C cT cN:Jy)(vs:JK)(H:Hp)(Q:VK)(E:XK):Prop
 | mk (p d g st:Jy) (kvs gvs:JJ) (w:Str) (ws:Jr) (ps:JK) (bs:List Bool) (h0:vs=[.ref p,.ref st]) (h1:PlainAt C H p d g kvs gvs) (h2:H st=some (.tup (.str w::ps))) (h3:PyProof.Rows.KTD.datumAt w ST=some (tw ws)) (h4:ws.length=ps.length) (h5:bs.length=ps.length) (h6:(∀ (i:Nat) (w:Str) (v:V) (b:Bool),ws[i]? = some w->ps[i]? = some v->bs[i]? = some b->PartB H kvs w v b)) (h7:((∃ i:Nat,ws[i]? = some "new"/\bs[i]? = some false)->∀ H',Same H H'->E (.ref cT) none H')) (h8:((∀ i:Nat,ws[i]? = some "new"->bs[i]? = some true)->((∀ (i:Nat) (w:Str),ws[i]? = some w->isI w->bs[i]? = some true)->∀ H',Same H H'->Q .non H') /\
  ∀ (i:Nat) (w:Str) (v:V),ws[i]? = some w->ps[i]? = some v->isI w->bs[i]? = some false->(∀ (j:Nat) (w':Str),j<i->ws[j]? = some w'->isI w'->bs[j]? = some true)->∀ H' dd,Same H H'->H' dd=some (.xd [("name",v)])->E (.ref cN) (some dd) H')):spCheckX C cT cN vs H Q E
theorem jK{f C cT cN:Jy}{fd:Jp}{bm:Jn}(F:Fun K "check_names" "Plain.check_names" dS f fd)(T:Txt K C)(p9:Fn P w K mg base 1 "step_parts" ["word"] (spParts K))(IN:mg "zip" = none)(x_Taken:ExCls K cT)(o7:mg "Taken" = some (.ref cT))(Ij:ExI P w K mg base 1 cN bm ["self","name"] (spNI cN))(j9:mg "NoItem" = some (.ref cN)):FnOk P w K mg base (CXr P w) 3 f fd ["self","step"] (spCheckX C cT cN):=by
 refine F.okX bz (λvs H Q E h=>?_) (λcdv A outer s H vs Q E hr h=>?_)
 ·obtain⟨p,d,g,st,kvs,gvs,wd,ws,ps,bs,rfl,_⟩:=h;rfl
 obtain⟨p,d,g,st,kvs,gvs,wd,ws,ps,bs,rfl,S,hst,hk,l1,l2,ok,qT,qN⟩:=h;obtain⟨⟨dx,h1⟩,h2,h3,h4⟩:=id S;refine⟨_,(b_c (au (i:=2) bz.nd (bJ p9 (hr.mono (by decide)) (q_a (am aq (q_v 1) ag) ah)))
   (b_c (BV dE (eV (pk rfl rfl) rfl (BK IN (q_a (q_v 2) (q_a (cC bQ (q_v 1) (cj ag) cG) ah))) (wz rfl (pY (bv (i:=3) bz.nd) (pY (bv (i:=4) bz.nd) Ax))) (b_1 (aI (t_w (dk (aB bW (q_v 3) aE) (cQ (xC hr.units (q_v 4) (bS (q_v 0)))))) (b_1 (mF (fV mT) rfl x_Taken o7 (q_a aE ah))) b_0))))
   (b_1 (BV dE (eV (pk rfl rfl) rfl (BK IN (q_a (q_v 2) (q_a (cC bQ (q_v 1) (cj ag) cG) ah))) (wz rfl (pY (bv (i:=3) bz.nd) (pY (bv (i:=4) bz.nd) Ax))) (b_1 (aI (t_w (dk (aB (GC (K:=K) rfl) (q_v 3) (aQ (q_a aE (q_a aE ah)))) (dk (aB iI (q_v 4) aY) (cQ (gK hr.units (q_v 4) (bS (q_v 0))))))) (b_1 (Bk mT rfl Ij (hr.mono (by decide)) j9 (q_a (q_v 4) ah))) b_0))))))),?_⟩
 try rw[cxK]
 refine(vix rfl (JF hst) at0 ⟨wd,ws,rfl,hk,λt ht=>?_⟩);have c1:cE (V.str wd::ps) (some 1) none=ps:=by unfold cE;rw[HT.sIx_none,show(1:Int)=((1:Nat):Int)from rfl,HT.sIx_nat];simp
 have lw:(ws.map V.str).length=ps.length:=by rw[Ze];exact l1
 have item:∀{i:Nat} {x:V},(ws.map V.str)[i]?=some x->∃w',ws[i]?=some w'/\x=.str w':=fun{i x} hx=>by rw[ZE]at hx;obtain⟨w',e1,e2⟩:=ZZ.mp hx;exact⟨w',e1,e2.symm⟩
 have bat:∀{i:Nat} {v:V},ps[i]?=some v->∃b,bs[i]?=some b:=fun{i v} hv=>by
  have hi:i<bs.length:=by rw[l2];exact(ZB.mp hv).1
  exact⟨_,Zd hi⟩
 refine⟨_,rfl,_,rfl,_,rfl,st,_,rfl,hst,λz H1 s1 e1=>?_⟩;rw[c1]at e1;refine⟨t,z,_,_,rfl,ht _,JF e1,lw,?_⟩;refine uJ (i:=3) (j:=4) (λi σ H'=>Same H H'/\H' z=some (.tup ps)/\(∀j:Nat,j<i->ws[j]?=some "new"->bs[j]?=some true)/\∃o3 o4,σ=[some (.ref p),some (.ref st),some (.ref t),o3,o4]) ⟨s1,e1,(λj hj=>by omega),none,none,rfl⟩ (λ_ _ _ _ _=>ht _) (λ_ _ _ _ v=>JF v.2.1) lw ?_ ?_
 ·rintro i x v σ H' hx hv ⟨sm,ez,pre,o3,o4,rfl⟩ T' gT;have wT:=af gT (.tup [x,v]);obtain⟨w',hw,rfl⟩:=item hx;obtain⟨b,hb⟩:=bat hv;have sm':=sm.trans wT;have pb:=(ok i w' v b hw hv hb).same sm';refine⟨_,rfl,rfl,_,rfl,cK (λc=>?_) (λc=>?_)⟩
  ·injection c with c;subst c;obtain⟨k,⟨nb,rfl,hnb⟩,hbv⟩:=pb.1 rfl;refine⟨_,rfl,_,rfl,p,C,dx,_,_,rfl,sm' _ _ h1,T.cl,T.nH,aS _ _,d,_,rfl,DGet.t (sm' _ _ h2) hnb,_,rfl,?_⟩;cases hs:(bw kvs k).isSome with
   |true =>rw[hs]at hbv;subst hbv;refine bn ?_;exact⟨sz rfl,qT ⟨i,hw,hb⟩ _ sm'⟩
   |false =>
    rw[hs]at hbv;subst hbv;refine aw ⟨sm',wT _ _ ez,λj hj hw'=>?_,_,_,rfl⟩;by_cases c2:j=i
    ·rw[c2];exact hb
    ·exact pre j (by omega) hw'
  ·refine aw ⟨sm',wT _ _ ez,λj hj hw'=>?_,_,_,rfl⟩;by_cases c2:j=i
   ·rw[c2,hw]at hw';exact absurd (ZU V.str (Zb hw')) c
   ·exact pre j (by omega) hw'
 ·rintro σ H' ⟨sm,ez,pre,o3,o4,rfl⟩;have all:∀i:Nat,ws[i]?=some "new"->bs[i]?=some true:=λi hi=>pre i (by rw[Ze];exact(ZB.mp hi).1) hi;obtain⟨qok,qni⟩:=qN all;refine⟨_,rfl,_,rfl,_,rfl,st,_,rfl,sm _ _ hst,λz' H2 s2 e2=>?_⟩;rw[c1]at e2;refine⟨t,z',_,_,rfl,ht _,JF e2,lw,?_⟩;refine uJ (i:=3) (j:=4) (λi σ H'=>Same H H'/\H' z'=some (.tup ps)/\(∀(j:Nat) (w':Str),j<i->ws[j]?=some w'->isI w'->bs[j]?=some true)/\∃o3 o4,σ=[some (.ref p),some (.ref st),some (.ref t),o3,o4]) ⟨sm.trans s2,e2,(λj _ hj=>by omega),o3,o4,rfl⟩ (λ_ _ _ _ _=>ht _) (λ_ _ _ _ v=>JF v.2.1) lw ?_ ?_
  ·rintro i x v σ H' hx hv ⟨sm,ez,pre2,o3,o4,rfl⟩ T' gT;have wT:=af gT (.tup [x,v]);obtain⟨w',hw,rfl⟩:=item hx;obtain⟨b,hb⟩:=bat hv;have sm':=sm.trans wT;refine⟨_,rfl,sz rfl,λu gu=>?_⟩;have wu:=af gu (.tup [.str "item",.str "up"]);have sm2:=sm'.trans wu;have pb:=(ok i w' v b hw hv hb).same sm2;refine⟨u,_,rfl,.inr (JF ac),rfl,rfl,_,rfl,?_⟩;have ei:(if false=true then !inV (V.str w') [.str "item",.str "up"]else inV (V.str w') [.str "item",.str "up"])=decide (w'="item"\/w'="up"):=Gs w';have step:bs[i]?=some true->∀(j:Nat) (w'':Str),j<i+1->ws[j]?=some w''->isI w''->bs[j]?=some true:=λhbt j w'' hj hw'' hi=>by
    by_cases c2:j=i
    ·rw[c2];exact hbt
    ·exact pre2 j w'' (by omega) hw'' hi
   rw[ei];refine cK (λc=>?_) (λc=>?_)
   ·rcases pb.2 c with⟨rfl,rfl⟩|⟨k,⟨nb,rfl,hnb⟩,hbv⟩
    ·refine⟨_,rfl,rfl,_,rfl,km rfl ?_⟩;exact aw ⟨sm2,wu _ _ (wT _ _ ez),step hb,_,_,rfl⟩
    ·refine⟨_,rfl,rfl,_,rfl,jb nofun ?_⟩;refine⟨_,rfl,_,rfl,p,C,dx,_,_,rfl,sm2 _ _ h1,T.cl,T.nH,aS _ _,d,_,rfl,DGet.t (sm2 _ _ h2) hnb,_,rfl,?_⟩;cases hs:(bw kvs k).isSome with
     |true =>rw[hs]at hbv;subst hbv;exact aw ⟨sm2,wu _ _ (wT _ _ ez),step hb,_,_,rfl⟩
     |false =>rw[hs]at hbv;subst hbv;refine bn ?_;refine⟨_,rfl,sz rfl,λea tt' e1 e2 nt=>⟨ea,tt',_,rfl,ac,λdd hdd=>⟨rfl,some dd,ac,?_⟩⟩⟩;obtain⟨a1,a2⟩:=zW (v:=V.ref nb) e1 hdd;exact qni i w' _ hw hv c hb pre2 _ dd (sm2.trans a1) a2
   ·refine aw ⟨sm2,wu _ _ (wT _ _ ez),λj w'' hj hw'' hi=>?_,_,_,rfl⟩;by_cases c2:j=i
    ·rw[c2,hw]at hw'';cases hw'';exact absurd hi c
    ·exact pre2 j w'' (by omega) hw'' hi
  ·rintro σ H' ⟨sm,ez,pre2,o3,o4,rfl⟩;exact qok (λi w' hw hi=>pre2 i w' (by rw[Ze];exact(ZB.mp hw).1) hw hi) H' sm
inductive spItemX(C cN:Jy)(vs:JK)(H:Hp)(Q:VK)(E:XK):Prop
 |mk (p d g:Jy) (kvs gvs:JJ) (nm:V) (k:List Key) (h0:vs=[.ref p,nm]) (h1:PlainAt C H p d g kvs gvs) (h2:NameIs H nm k) (h3:(∀v,bw kvs k=some v->Q v H)) (h4:(bw kvs k=none->∀H' dd,Same H H'->H' dd=some (.xd [("name",nm)])->E (.ref cN) (some dd) H')):spItemX C cN vs H Q E
inductive spBounds(C:Jy)(vs:JK)(H:Hp)(Q:VK)(E_:XK):Prop
 |mk (p st:Jy) (w:Str) (ps:JK) (h0:vs=[.ref p,.ref st]) (h1:H st=some (.tup (.str w::ps))) (h2:V.str w≠V.str "move") (h3:V.str w≠V.str "join") (h4:V.str w≠V.str "part") (h5:Q .non H):spBounds C vs H Q E_
abbrev dB:JA:=bG (top 15) 12
abbrev jC:Jr:=["self","one","other"]
theorem fm:FnScope jC ["self","one","other"] (aj dB):=⟨rfl,rfl,rfl,by decide,rfl,by decide,by decide⟩
abbrev dG:JA:=bG (top 15) 3
abbrev jV:Jr:=["self","step"]
theorem jO:FnScope jV ["self","step"] (aj dG):=⟨rfl,rfl,rfl,by decide,rfl,by decide,by decide⟩
theorem bV(h a:Jy){m:Str}(h1:¬m="away":=by decide)(h2:¬m="held":=by decide):(lq h a).lookup m=none:=iA h a h1 h2
theorem uW(x y:Str):(x++y).length=x.length+y.length:=by show(x.cps++y.cps).size=_;rw[Array.size_append];rfl
theorem yR{x y:Str}(h1:PyData.strOk x=true)(h2:PyData.strOk y=true):PyData.strOk (x++y)=true:=by show(x.cps++y.cps).all (·<0x110000)=true;rw[Array.all_append,ZD];exact⟨h1,h2⟩
def TS(H H':Hp):Prop:=∀a zs,H a=some (.tup zs)->H' a=some (.tup zs)
theorem JE{H H':Hp}(e:Same H H'):TS H H':=λa zs h=>e a _ h
theorem lX{H:Hp}{d:Jy}{kvs kvs':JJ}(h:H d=some (.dT kvs)):TS H (upd H d (.dT kvs')):=λa zs e=>by rw[ad (cV e h nofun)];exact e
theorem bq{d:PyData}(h1:d.canLay0=true)(h2:d.depth<=10):SeqAt.shaped d=true:=by unfold SeqAt.shaped;rw[ZD];exact⟨h1,decide_eq_true (by omega)⟩
theorem ug{l:JJ}{k:List Key}(h:¬k∈l.map (·.1)):bw l k=none:=by
 cases e:bw l k with
 |none=>rfl
 |some v=>exact absurd (qC e) h
theorem pD{l:JJ}{k:List Key}(h:k∈l.map (·.1)):(bw l k).isSome=true:=by
 cases e:bw l k with
 |none=>exact absurd h (Bv e)
 |some v=>rfl
theorem sX{l:JJ}{k:List Key}(v:V)(h:k∈l.map (·.1)):ba l k v=l.map (λkv=>if kv.1=k then(kv.1,v)else kv):=by unfold ba;rw[Jg];rw[gO];exact pD h
theorem AA{l:JJ}{k:List Key}{v:V}(h:k∈l.map (·.1)):(ba l k v).map (·.1)=l.map (·.1):=by rw[sX v h,YN];refine YH λp _=>?_;show(if p.1=k then(p.1,v)else p).1=p.1;split<;>rfl
theorem Ep{H:Hp}{kvs:JJ}{ks:JK}(r:dh H kvs ks):∀{i:Nat} {v:V},ks[i]?=some v->∃k,(kvs.map (·.1))[i]?=some k/\NameIs H v k:=by
 unfold dh at r;induction r with
 |nil=>intro i v h;simp at h
 |@cons p q _ _ h _ ih =>
  intro i v e;cases i with
  |zero =>cases e;obtain⟨b,e1,e2⟩:=h;exact⟨p.1,rfl,b,e1,e2⟩
  |succ i=>exact ih e
theorem Er{H:Hp}{kvs:JJ}{ks:JK}(r:dh H kvs ks):ks.length=kvs.length:=(Zu r).symm
theorem Gx{H H':Hp}{kvs:JJ}{ks:JK}(r:dh H kvs ks)(s:TS H H'):dh H' kvs ks:=Paired.mapP r λ_ _ ⟨b,h1,h2⟩=>⟨b,h1,s _ _ h2⟩
abbrev Nm:=Int×Int
structure It where
 up:Option Nm
 pl:Jq
 tx:Str
 dn:Bool
 wh:Option Int
 fo:Bool
abbrev Ol:=List (Nm×It)
def nk(n:Nm):List Key:=[.inl n.1,.inl n.2]
theorem jI{n m:Nm}(h:nk n=nk m):n=m:=by unfold nk at h;injection h with h1 h2;injection h2 with h2 _;injection h1 with h1;injection h2 with h2;exact Prod.ext h1 h2
abbrev As(β:Type):=List (Nm×β)
def look{β:Type}:As β->Nm->Option β
 | [],_=>none
 |p::l,n=>if p.1=n then some p.2 else look l n
def ay{β:Type}(l:As β)(n:Nm)(i:β):As β:=if(look l n).isSome=true then l.map (λp=>if p.1=n then(p.1,i)else p)else l++[(n,i)]
def UpAt(H:Hp)(v:V):Option Nm->Prop
 |none=>v=.non
 |some n=>NameIs H v (nk n)
inductive PlAt(H:Hp)(v:V)(ns:Jq):Prop
 |mk (b:_) (h0:v=.ref b) (h1:H b=some (.tup (ns.map V.int))):PlAt H v ns
def whV:Option Int->V
 |none=>.non
 |some i=>.int i
inductive ItAt(H:Hp)(v:V)(it:It):Prop
 |mk (a:Jy) (uv pv:V) (h0:v=.ref a) (h1:H a=some (.tup [uv,pv,.str it.tx,.bl it.dn,whV it.wh,.bl it.fo])) (h2:UpAt H uv it.up) (h3:PlAt H pv it.pl):ItAt H v it
theorem NameIs.ts'{H H':Hp}{v:V}{k:List Key}(x:NameIs H v k)(s:TS H H'):NameIs H' v k:=by obtain⟨b,h1,h2⟩:=x;exact⟨b,h1,s _ _ h2⟩
theorem UpAt.ts{H H':Hp}{v:V}{u:Option Nm}(x:UpAt H v u)(s:TS H H'):UpAt H' v u:=by
 cases u with
 |none=>exact x
 |some n=>exact NameIs.ts' x s
theorem PlAt.ts{H H':Hp}{v:V}{ns:Jq}(x:PlAt H v ns)(s:TS H H'):PlAt H' v ns:=by obtain⟨b,h1,h2⟩:=x;exact⟨b,h1,s _ _ h2⟩
theorem ItAt.ts{H H':Hp}{v:V}{it:It}(x:ItAt H v it)(s:TS H H'):ItAt H' v it:=by obtain⟨a,uv,pv,h1,h2,h3,h4⟩:=x;exact⟨a,uv,pv,h1,s _ _ h2,h3.ts s,h4.ts s⟩
abbrev Rws{β:Type}(R:V->β->Prop)(kvs:JJ)(ol:As β):Prop:=Paired (λp q=>p.1=nk q.1/\R p.2 q.2) kvs ol
abbrev Rows(H:Hp)(kvs:JJ)(ol:Ol):Prop:=Rws (ItAt H) kvs ol
theorem Rows.ts{H H':Hp}{kvs:JJ}{ol:Ol}(x:Rows H kvs ol)(s:TS H H'):Rows H' kvs ol:=Paired.mapP x λ_ _ z=>⟨z.1,z.2.ts s⟩
section
variable{β:Type}{R:V->β->Prop}{kvs:JJ}{ol:As β}{n:Nm}{it:β}{v:V}
theorem lP(x:Rws R kvs ol)(h:look ol n=none):bw kvs (nk n)=none:=by
 induction x with
 |nil=>rfl
 |@cons p q _ _ r _ ih =>
  unfold look at h;by_cases c:q.1=n
  ·rw[Jg c]at h;cases h
  ·rw[Jf c]at h;rw[fJ λz=>c (jI (r.1.symm.trans z))];exact ih h
theorem aC(x:Rws R kvs ol)(h:look ol n=some it):∃v,bw kvs (nk n)=some v/\R v it:=by
 induction x with
 |nil=>cases h
 |@cons p q _ _ r _ ih =>
  unfold look at h;by_cases c:q.1=n
  ·rw[Jg c]at h;cases h;exact⟨p.2,gP (r.1.trans (ZU nk c)),r.2⟩
  ·rw[Jf c]at h;rw[fJ λz=>c (jI (r.1.symm.trans z))];exact ih h
theorem eU(x:Rws R kvs ol):(bw kvs (nk n)).isSome=(look ol n).isSome:=by
 cases e:look ol n with
 |none=>rw[lP x e];rfl
 |some it =>obtain⟨v,h,_⟩:=aC x e;rw[h];rfl
theorem iL(x:Rws R kvs ol)(hv:R v it):Rws R (ba kvs (nk n) v) (ay ol n it):=by
 unfold ay;cases e:look ol n with
 |none =>rw[Bc _ (lP x e),Jf (by simp)];exact Paired.snoc x ⟨rfl,hv⟩
 |some it0 =>
  obtain⟨v0,h0,_⟩:=aC x e;rw[sX _ (qC h0),Jg (show(some it0).isSome=true from rfl)];clear e h0;induction x with
  |nil=>exact .nil
  |@cons p q _ _ r _ ih =>
   rw[Zk,Zk];refine .cons ?_ ih;by_cases c:p.1=nk n
   ·rw[Jg c,Jg (jI (r.1.symm.trans c))];exact⟨r.1,hv⟩
   ·rw[Jf c,Jf λz=>c (r.1.trans (ZU nk z))];exact r
theorem bE(x:Rws R kvs ol):kvs.length=ol.length:=Zu x
end
inductive OlAt(C:Jy)(H:Hp)(p d g:Jy)(ol:Ol):Prop
 |mk (kvs gvs:_) (h0:PlainAt C H p d g kvs gvs) (h1:Rows H kvs ol):OlAt C H p d g ol
inductive GoneAt(H:Hp)(g:Jy)(gs:As Unit):Prop
 |mk (gvs:_) (h0:H g=some (.dT gvs)) (h1:Rws (λv _=>v=.bl true) gvs gs):GoneAt H g gs
theorem OlAt.same{C:Jy}{H H':Hp}{p d g:Jy}{ol:Ol}(x:OlAt C H p d g ol)(s:Same H H'):OlAt C H' p d g ol:=by obtain⟨kvs,gvs,h1,h2⟩:=x;exact⟨kvs,gvs,h1.same s,h2.ts (JE s)⟩
theorem GoneAt.same{H H':Hp}{g:Jy}{gs:As Unit}(x:GoneAt H g gs)(s:Same H H'):GoneAt H' g gs:=by obtain⟨gvs,h1,h2⟩:=x;exact⟨gvs,s _ _ h1,h2⟩
theorem But.ts{d:Jy}{H H':Hp}{kvs:JJ}(x:But d H H')(h:H d=some (.dT kvs)):TS H H':=λa zs e=>x a _ e (cV e h nofun)
theorem But.put{d:Jy}{H H':Hp}(s:Same H H')(o:HO):But d H (upd H' d o):=λb u h n=>by rw[ad n];exact s _ _ h
theorem But.trans{d:Jy}{H H' H2:Hp}(x:But d H H')(y:But d H' H2):But d H H2:=λb u h n=>y b u (x b u h n) n
theorem But.of{d:Jy}{H H':Hp}(s:Same H H'):But d H H':=λb u h _=>s b u h
theorem fj{C:Jy}{H H':Hp}{p d g t:Jy}{kvs:JJ}{ol:Ol}{n:Nm}{it:It}{gvs:JJ}(S:PlainAt C H p d g kvs gvs)(R:Rows H kvs ol)(s:Same H H')(hi:ItAt H' (.ref t) it):OlAt C (upd H' d (.dT (ba kvs (nk n) (.ref t)))) p d g (ay ol n it):=by have td:TS H' (upd H' d (.dT (ba kvs (nk n) (.ref t)))):=lX (s _ _ S.dc);exact⟨_,_,(S.same s).put,Rows.ts (iL (Rows.ts R (JE s)) hi) td⟩
inductive Und(ol:Ol)(o:Nm):Nat->Option Nm->Bool->Prop
 |none:Und ol o 0 none false
 |self:Und ol o 0 (some o) true
 |up {k:Nat} {n:Nm} {it:It} {b:Bool}:n≠o->look ol n=some it->Und ol o k it.up b->Und ol o (k+1) (some n) b
inductive spUnder(C:Jy)(vs:JK)(H:Hp)(Q:VK)(E_:XK):Prop
 |mk (p d g:Jy) (ol:Ol) (u v:V) (one:Option Nm) (o:Nm) (k:Nat) (b:Bool) (h0:vs=[.ref p,u,v]) (h1:OlAt C H p d g ol) (h2:UpAt H u one) (h3:NameIs H v (nk o)) (h4:Und ol o k one b) (h5:Q (.bl b) H):spUnder C vs H Q E_
theorem jp{f C:Jy}{fd:Jp}(F:Fun K "at_or_beneath" "Plain.at_or_beneath" dB f fd)(T:Txt K C){tk:Tok}(d8:mg "UP" = some (.int 0 tk)):FnOk P w K mg base CX0 1 f fd ["self","one","other"] (spUnder C):=by
 refine F.okQ fm (λvs H Q E h=>?_) (λcdv A outer s H vs Q E hr h=>?_)
 ·obtain⟨p,d,g,ol,u,v,one,o,k,b,rfl,_⟩:=h;rfl
 obtain⟨p,d,g,ol,u,v,one,o,k,b,rfl,⟨kvs,gvs,S,R⟩,hu,hv,un,q⟩:=h;obtain⟨⟨dx,h1⟩,h2,h3,h4⟩:=id S;obtain⟨vb,rfl,hvb⟩:=id hv;refine⟨_,(b_c (mG ZX (t_w (dk (aB iI (q_v 1) aY) (cQ (aB (yM hr.units) (q_v 1) (q_v 2))))) (b_1 (au (i:=1) fm.nd (am aq (bp hr.units (bS (q_v 0)) (q_v 1)) (dR d8)))))
   (b_1 (aD (dw iI (q_v 1) aY)))),?_⟩
 try rw[cxK]
 refine⟨λm σ H'=>H'=H/\∃(u:V) (one:Option Nm),UpAt H u one/\Und ol o m one b/\σ=[some (.ref p),some u,some (.ref vb)],⟨k,rfl,u,one,hu,un,rfl⟩,?_⟩;rintro m σ H' ⟨rfl,u,one,hu,un,rfl⟩;cases un with
 |none =>obtain rfl:u=.non:=hu;refine⟨_,rfl,rfl,_,rfl,km rfl (aw ?_)⟩;exact⟨_,rfl,rfl,q⟩
 |self =>obtain⟨ub,rfl,hub⟩:=id hu;refine⟨_,rfl,rfl,_,rfl,jb nofun ?_⟩;refine⟨_,rfl,_,rfl,ub,vb,[o.1,o.2],[o.1,o.2],rfl,rfl,hub,hvb,_,rfl,?_⟩;rw[decide_eq_true rfl];refine aw ?_;exact⟨_,rfl,rfl,q⟩
 |@up m n it _ hn hl un =>
  obtain⟨ub,rfl,hub⟩:=id hu;obtain⟨iv,e1,ia,uv,pv,rfl,e2,e3,e4⟩:=aC R hl;refine⟨_,rfl,rfl,_,rfl,jb nofun ?_⟩;refine⟨_,rfl,_,rfl,ub,vb,[n.1,n.2],[o.1,o.2],rfl,rfl,hub,hvb,_,rfl,?_⟩;have:¬ ([n.1,n.2]=[o.1,o.2]):=λz=>hn (by
   injection z with z1 z2;injection z2 with z2 _;exact Prod.ext z1 z2)
  rw[decide_eq_false this];refine bn ?_;refine⟨λσ H2=>H2=H'/\σ=[some (.ref p),some uv,some (.ref vb)],?_,?_⟩
  ·rintro σ' H2 ⟨rfl,rfl⟩;exact⟨m,Ye m,rfl,uv,it.up,e3,un,rfl⟩
  ·refine⟨_,rfl,p,C,dx,_,_,rfl,h1,T.cl,T.nH,aS _ _,_,rfl,d,.ref ia,rfl,e1▸DGet.t (k:=nk n) h2 hub,?_⟩;exact⟨ia,_,_,_,rfl,rfl,JF e2,at0,rfl,rfl⟩
inductive Sd
 |put (n:Nm)(u:Option Nm)(pl:Jq)(tx:Str)
 |move (n:Nm)(u:Option Nm)(pl:Jq)
 |write (n:Nm)(tx:Str)
 |mark (n:Nm)(b:Bool)
 |due (n:Nm)(w:Option Int)
 |fold (n:Nm)(b:Bool)
 |part (n:Nm)(a:Int)(m:Nm)(pl:Jq)
 |join (n m:Nm)
 |gone (n:Nm)
def StAt(H:Hp)(st:Jy):Sd->Prop
 |.put n u pl tx=>∃nv uv pv,H st=some (.tup [.str "put",nv,uv,pv,.str tx])/\NameIs H nv (nk n)/\UpAt H uv u/\PlAt H pv pl
 |.move n u pl=>∃nv uv pv,H st=some (.tup [.str "move",nv,uv,pv])/\NameIs H nv (nk n)/\UpAt H uv u/\PlAt H pv pl
 |.write n tx=>∃nv,H st=some (.tup [.str "write",nv,.str tx])/\NameIs H nv (nk n)
 |.mark n b=>∃nv,H st=some (.tup [.str "mark",nv,.bl b])/\NameIs H nv (nk n)
 |.due n w=>∃nv,H st=some (.tup [.str "due",nv,whV w])/\NameIs H nv (nk n)
 |.fold n b=>∃nv,H st=some (.tup [.str "fold",nv,.bl b])/\NameIs H nv (nk n)
 |.part n a m pl=>∃nv mv pv,H st=some (.tup [.str "part",nv,.int a,mv,pv])/\NameIs H nv (nk n)/\NameIs H mv (nk m)/\PlAt H pv pl
 |.gone n=>∃nv,H st=some (.tup [.str "gone",nv])/\NameIs H nv (nk n)
 |.join n m=>∃nv mv,H st=some (.tup [.str "join",nv,mv])/\NameIs H nv (nk n)/\NameIs H mv (nk m)
theorem StAt.ts{H H':Hp}{st:Jy}{s:Sd}(x:StAt H st s)(t:TS H H'):StAt H' st s:=by
 cases s with
 |put=>obtain⟨nv,uv,pv,h1,h2,h3,h4⟩:=x;exact⟨nv,uv,pv,t _ _ h1,h2.ts' t,h3.ts t,h4.ts t⟩
 |move=>obtain⟨nv,uv,pv,h1,h2,h3,h4⟩:=x;exact⟨nv,uv,pv,t _ _ h1,h2.ts' t,h3.ts t,h4.ts t⟩
 |write=>obtain⟨nv,h1,h2⟩:=x;exact⟨nv,t _ _ h1,h2.ts' t⟩
 |mark=>obtain⟨nv,h1,h2⟩:=x;exact⟨nv,t _ _ h1,h2.ts' t⟩
 |due=>obtain⟨nv,h1,h2⟩:=x;exact⟨nv,t _ _ h1,h2.ts' t⟩
 |fold=>obtain⟨nv,h1,h2⟩:=x;exact⟨nv,t _ _ h1,h2.ts' t⟩
 |gone=>obtain⟨nv,h1,h2⟩:=x;exact⟨nv,t _ _ h1,h2.ts' t⟩
 |part=>obtain⟨nv,mv,pv,h1,h2,h3,h4⟩:=x;exact⟨nv,mv,pv,t _ _ h1,h2.ts' t,h3.ts' t,h4.ts t⟩
 |join=>obtain⟨nv,mv,h1,h2,h3⟩:=x;exact⟨nv,mv,t _ _ h1,h2.ts' t,h3.ts' t⟩
def Sd.items:Sd->List Nm
 |.put _ u _ _=>u.toList
 |.move n u _=>n::u.toList
 |.write n _=>[n]
 |.mark n _=>[n]
 |.due n _=>[n]
 |.fold n _=>[n]
 |.part n _ _ _=>[n]
 |.join n m=>[n,m]
 |.gone n=>[n]
def Sd.news:Sd->List Nm
 |.put n _ _ _=>[n]
 |.part _ _ m _=>[m]
 |_=>[]
inductive Bd(ol:Ol):Sd->Option Bool->Prop
 |put {n u pl tx}:Bd ol (.put n u pl tx) none
 |write {n tx}:Bd ol (.write n tx) none
 |mark {n b}:Bd ol (.mark n b) none
 |due {n w}:Bd ol (.due n w) none
 |fold {n b}:Bd ol (.fold n b) none
 |gone {n}:Bd ol (.gone n) none
 |move {n u pl k b}:Und ol n k u b->Bd ol (.move n u pl) (if b=true then some true else none)
 |join {n m k b}:Und ol m k (some n) b->Bd ol (.join n m) (if b=true then some true else none)
 |part {n a m pl it}:look ol n=some it->Bd ol (.part n a m pl) (if(it.tx.length:Int)<a then some false else none)
def cw(n m:Nm)(it:It):It:=if it.up=some m then{ it with up:=some n }else it
theorem Dq(n m:Nm)(it:It):cw n m (cw n m it)=cw n m it:=by
 unfold cw;by_cases c:it.up=some m
 ·rw[Jg c];by_cases c2:n=m
  ·rw[c2,Jg rfl]
  ·rw[Jf λz=>c2 (Zb z)]
 ·rw[Jf c,Jf c]
structure JoinR(ol:Ol)(n m:Nm)(itn itm:It)(ol':Ol):Prop where
 len:ol'.length=ol.length
 nm:ol'.map (·.1)=ol.map (·.1)
 lk:∃itm2,look (ay ol n { itn with tx:=itn.tx++itm.tx }) m=some itm2/\∀x,look ol' x=(look (ay (ay ol n { itn with tx:=itn.tx++itm.tx }) m { itm2 with tx:="" }) x).map (cw n m)
inductive Ap(ol:Ol):Sd->Ol->Prop
 |put {n u pl tx}:Ap ol (.put n u pl tx) (ay ol n ⟨u,pl,tx,false,none,false⟩)
 |move {n u pl it}:look ol n=some it->Ap ol (.move n u pl) (ay ol n { it with up:=u,pl:=pl })
 |write {n tx it}:look ol n=some it->Ap ol (.write n tx) (ay ol n { it with tx:=tx })
 |mark {n b it}:look ol n=some it->Ap ol (.mark n b) (ay ol n { it with dn:=b })
 |due {n w it}:look ol n=some it->Ap ol (.due n w) (ay ol n { it with wh:=w })
 |fold {n b it}:look ol n=some it->Ap ol (.fold n b) (ay ol n { it with fo:=b })
 |part {n a m pl it}:look ol n=some it->Ap ol (.part n a m pl) (ay (ay ol n { it with tx:=bg it.tx none (some (if(0:Int)>a then 0 else a)) }) m ⟨it.up,pl,bg it.tx (some (if(0:Int)>a then 0 else a)) none,false,none,false⟩)
 |gone {n}:Ap ol (.gone n) ol
 |join {n m itn itm ol'}:look ol n=some itn->look ol m=some itm->JoinR ol n m itn itm ol'->Ap ol (.join n m) ol'
theorem Ck{H:Hp}{st:Jy}{ol:Ol}{s:Sd}{r:Option Bool}(hs:StAt H st s)(hb:Bd ol s r) :
  (r=none/\∃wd ps,H st=some (.tup (.str wd::ps))/\V.str wd≠V.str "move"/\V.str wd≠V.str "join"/\V.str wd≠V.str "part") \/
  (∃n u k b nv uv pv,H st=some (.tup [.str "move",nv,uv,pv])/\NameIs H nv (nk n)/\UpAt H uv u/\Und ol n k u b/\r=if b=true then some true else none) \/
  (∃n m k b nv mv,H st=some (.tup [.str "join",nv,mv])/\NameIs H nv (nk n)/\NameIs H mv (nk m)/\Und ol m k (some n) b/\r=if b=true then some true else none) \/
  (∃n a it nv mv pv,H st=some (.tup [.str "part",nv,.int a,mv,pv])/\NameIs H nv (nk n)/\look ol n=some it/\r=if(it.tx.length:Int)<a then some false else none):=by
 cases hb with
 |put=>obtain⟨nv,uv,pv,h1,_⟩:=hs;exact .inl ⟨rfl,_,_,h1,by decide,by decide,by decide⟩
 |write=>obtain⟨nv,h1,_⟩:=hs;exact .inl ⟨rfl,_,_,h1,by decide,by decide,by decide⟩
 |mark=>obtain⟨nv,h1,_⟩:=hs;exact .inl ⟨rfl,_,_,h1,by decide,by decide,by decide⟩
 |due=>obtain⟨nv,h1,_⟩:=hs;exact .inl ⟨rfl,_,_,h1,by decide,by decide,by decide⟩
 |fold=>obtain⟨nv,h1,_⟩:=hs;exact .inl ⟨rfl,_,_,h1,by decide,by decide,by decide⟩
 |gone=>obtain⟨nv,h1,_⟩:=hs;exact .inl ⟨rfl,_,_,h1,by decide,by decide,by decide⟩
 |move un=>obtain⟨nv,uv,pv,h1,h2,h3,_⟩:=hs;exact .inr (.inl ⟨_,_,_,_,nv,uv,pv,h1,h2,h3,un,rfl⟩)
 |join un=>obtain⟨nv,mv,h1,h2,h3⟩:=hs;exact .inr (.inr (.inl ⟨_,_,_,_,nv,mv,h1,h2,h3,un,rfl⟩))
 |part hl=>obtain⟨nv,mv,pv,h1,h2,h3,_⟩:=hs;exact .inr (.inr (.inr ⟨_,_,_,nv,mv,pv,h1,h2,hl,rfl⟩))
inductive spBoundsF(C cB cF:Jy)(vs:JK)(H:Hp)(Q:VK)(E:XK):Prop
 |mk (p d g st:Jy) (ol:Ol) (s:Sd) (r:Option Bool) (h0:vs=[.ref p,.ref st]) (h1:OlAt C H p d g ol) (h2:StAt H st s) (h3:Bd ol s r) (h4:(∀n it,look ol n=some it->it.tx.length<=4000)) (h5:(r=some true->E (.ref cB) none H)) (h6:(r=some false->E (.ref cF) none H)) (h7:(r=none->Q .non H)):spBoundsF C cB cF vs H Q E
theorem jq{f C cB cF:Jy}{fd:Jp}(F:Fun K "check_bounds" "Plain.check_bounds" dG f fd)(T:Txt K C)(c7:MFn P w K mg base 1 C "at_or_beneath" ["self","one","other"] (spUnder C)){tk:Tok}(c8:mg "TEXT" = some (.int 2 tk))(a8:mg "len" = none)(x_Beneath:ExCls K cB)(i5:mg "Beneath" = some (.ref cB))(x_Far:ExCls K cF)(Ir:mg "Far" = some (.ref cF)):FnOk P w K mg base (CXr P w) 2 f fd ["self","step"] (spBoundsF C cB cF):=by
 refine F.okX jO (λvs H Q E h=>?_) (λcdv A outer s H vs Q E hr h=>?_)
 ·obtain⟨p,d,g,st,ol,sd,r,rfl,_⟩:=h;rfl
 obtain⟨p,d,g,st,ol,sd,r,rfl,O,hs,hb,htx,q1,q2,q3⟩:=h;obtain⟨kvs,gvs,S,R⟩:=id O;obtain⟨⟨dx,h1⟩,h2,h3,h4⟩:=id S;refine⟨_,(b_c (aI (t_w (dk (aB bW (am aq (q_v 1) ag) aE) (cQ (bU (cg c7 (hr.mono (by decide)) (q_v 0) (q_a (am aq (q_v 1) ag) (q_a (am aq (q_v 1) ag) ah))))))) (b_1 (mF (fV dE) rfl x_Beneath i5 (q_a aE ah))) b_0)
   (b_c (aI (t_w (dk (aB bW (am aq (q_v 1) ag) aE) (cQ (bU (cg c7 (hr.mono (by decide)) (q_v 0) (q_a (am aq (q_v 1) ag) (q_a (am aq (q_v 1) ag) ah))))))) (b_1 (mF (fV dE) rfl x_Beneath i5 (q_a aE ah))) b_0)
   (b_1 (aI (t_w (dk (aB bW (am aq (q_v 1) ag) aE) (cQ (aB qe (am aq (q_v 1) ag) (q_B xO a8 Z3 (q_a (am aq (bp hr.units (bS (q_v 0)) (am aq (q_v 1) ag)) (dR c8)) ah)))))) (b_1 (mF (fV dE) rfl x_Far Ir (q_a aE ah))) b_0)))),?_⟩
 try rw[cxK]
 rcases Ck hs hb with⟨hr',wd,ps,hst,n1,n2,n3⟩|⟨n,u,k,b,nv,uv,pv,hst,hn,hu,un,hr'⟩|⟨n,m,k,b,nv,mv,hst,hn,hm,un,hr'⟩|⟨n,a,it,nv,mv,pv,hst,hn,hl,hr'⟩
 ·refine(vix rfl (JF hst) at0 ⟨rfl,_,rfl,aF n1 (aw ?_)⟩);refine(vix rfl (JF hst) at0 ⟨rfl,_,rfl,aF n2 (aw ?_)⟩);exact(vix rfl (JF hst) at0 ⟨rfl,_,rfl,aF n3 (aw (q3 hr'))⟩)
 ·refine(vix rfl (JF hst) at0 ⟨rfl,_,rfl,gw ?_⟩);refine⟨_,rfl,p,dx,_,rfl,h1,bV _ _,vix rfl (JF hst) at2 (vix rfl (JF hst) at1 ⟨p,d,g,ol,uv,nv,u,n,k,b,rfl,O,hu,hn,un,_,rfl,?_⟩)⟩;cases b with
  |true=>exact bn ⟨sz rfl,q1 hr'⟩
  |false =>refine aw ?_;refine(vix rfl (JF hst) at0 ⟨rfl,_,rfl,aF (by decide) (aw ?_)⟩);exact(vix rfl (JF hst) at0 ⟨rfl,_,rfl,aF (by decide) (aw (q3 hr'))⟩)
 ·refine(vix rfl (JF hst) at0 ⟨rfl,_,rfl,aF (by decide) (aw ?_)⟩);refine(vix rfl (JF hst) at0 ⟨rfl,_,rfl,gw ?_⟩);refine⟨_,rfl,p,dx,_,rfl,h1,bV _ _,vix rfl (JF hst) at1 (vix rfl (JF hst) at2 ⟨p,d,g,ol,nv,mv,some n,m,k,b,rfl,O,hn,hm,un,_,rfl,?_⟩)⟩;cases b with
  |true=>exact bn ⟨sz rfl,q1 hr'⟩
  |false =>refine aw ?_;exact(vix rfl (JF hst) at0 ⟨rfl,_,rfl,aF (by decide) (aw (q3 hr'))⟩)
 ·refine(vix rfl (JF hst) at0 ⟨rfl,_,rfl,aF (by decide) (aw ?_)⟩);refine(vix rfl (JF hst) at0 ⟨rfl,_,rfl,aF (by decide) (aw ?_)⟩);refine(vix rfl (JF hst) at0 ⟨rfl,_,rfl,gw ?_⟩);obtain⟨iv,e1,ia,uv,pv',rfl,e2,e3,e4⟩:=aC R hl;obtain⟨nb,rfl,hnb⟩:=hn;refine(vix rfl (JF hst) at2 ⟨_,rfl,p,C,dx,_,_,rfl,h1,T.cl,T.nH,aS _ _,vix rfl (JF hst) at1 ⟨d,.ref ia,rfl,e1▸DGet.t (k:=nk n) h2 hnb,ia,_,_,_,rfl,rfl,JF e2,at2,it.tx,rfl,(by have:=htx n it hl;omega),_,_,rfl,rfl,_,rfl,?_⟩⟩);refine cK (λc=>?_) (λc=>?_)
  ·rw[Jg (by omega)]at hr';exact⟨sz rfl,q2 hr'⟩
  ·rw[Jf (by omega)]at hr';exact q3 hr'
inductive spPartI(C:Jy)(vs:JK)(H:Hp)(Q:VK)(E_:XK):Prop
 |mk (p d g:Jy) (ol:Ol) (nv mv pv:V) (n m:Nm) (a:Int) (pl:Jq) (it:It) (h0:vs=[.ref p,nv,.int a,mv,pv]) (h1:OlAt C H p d g ol) (h2:NameIs H nv (nk n)) (h3:NameIs H mv (nk m)) (h4:PlAt H pv pl) (h5:look ol n=some it) (h6:ol.length<=400) (h7:it.tx.length<=100000) (h8:∀H',But d H H'->OlAt C H' p d g (ay (ay ol n { it with tx:=bg it.tx none (some (if(0:Int)>a then 0 else a)) }) m ⟨it.up,pl,bg it.tx (some (if(0:Int)>a then 0 else a)) none,false,none,false⟩)->Q .non H'):spPartI C vs H Q E_
theorem iT{β:Type}(l:As β)(n:Nm)(i:β):(ay l n i).length<=l.length+1:=by
 unfold ay;split
 ·rw[Ze];omega
 ·rw[Zn];exact Za _
abbrev eZ:JA:=bG (top 15) 6
abbrev mI:Jr:=["self","name","at","new","place","item","ahead"]
theorem eI:FnScope mI ["self","name","at","new","place"] (aj eZ):=⟨rfl,rfl,rfl,by decide,rfl,by decide,by decide⟩
theorem lJ{f C:Jy}{fd:Jp}(F:Fun K "part_item" "Plain.part_item" eZ f fd)(T:Txt K C)(d7:MFn P w K mg base 1 C "change" ["self","name","first","values"] (spChange C))(i6:MFn P w K mg base 1 C "bring_in" ["self","name","up","place","text"] (spBring C)){tk tk':Tok}(c8:mg "TEXT" = some (.int 2 tk))(d8:mg "UP" = some (.int 0 tk'))(IW:mg "max" = none):FnOk P w K mg base CX0 2 f fd ["self","name","at","new","place"] (spPartI C):=by
 refine F.okQ eI (λvs H Q E h=>?_) (λcdv A outer s H vs Q E hr h=>?_)
 ·obtain⟨p,d,g,ol,nv,mv,pv,n,m,a,pl,it,rfl,_⟩:=h;rfl
 obtain⟨p,d,g,ol,nv,mv,pv,n,m,a,pl,it,rfl,⟨kvs,gvs,S,R⟩,hn,hm,hp,hl,l4,lt,q⟩:=h;obtain⟨⟨dx,h1⟩,h2,h3,h4⟩:=id S;obtain⟨nb,rfl,hnb⟩:=id hn;obtain⟨iv,e1,ia,uv,pv',rfl,e2,e3,e4⟩:=aC R hl;have lk:=bE R;refine⟨_,(b_c (au (i:=5) eI.nd (bp hr.units (bS (q_v 0)) (q_v 1)))
   (b_c (au (i:=6) eI.nd (q_B (Gk rfl) IW Ac (q_a (q_v 2) (q_a ag ah))))
   (b_c (bC (cg d7 (hr.mono (by decide)) (q_v 0) (q_a (q_v 1) (q_a (dR c8) (q_a (aQ (q_a (cC oK (am aq (q_v 5) (dR c8)) cG (cj (q_v 6))) ah)) ah)))))
   (b_1 (bC (cg i6 (hr.mono (by decide)) (q_v 0) (q_a (q_v 3) (q_a (am aq (q_v 5) (dR d8)) (q_a (q_v 4) (q_a (cC oK (am aq (q_v 5) (dR c8)) (cj (q_v 6)) cG) ah)))))))))),?_⟩
 try rw[cxK]
 refine⟨_,rfl,p,C,dx,_,_,rfl,h1,T.cl,T.nH,aS _ _,_,rfl,d,.ref ia,rfl,e1▸DGet.t (k:=nk n) h2 hnb,?_⟩;refine⟨_,rfl,_,_,rfl,?_⟩;refine⟨_,rfl,p,dx,_,rfl,h1,bV _ _,_,rfl,vix rfl (JF e2) at2 ⟨_,rfl,_,rfl,it.tx,rfl,lt,sz rfl,λva gva=>?_⟩⟩;have wv:=af gva (.tup [.str (bg it.tx none (some (if(0:Int)>a then 0 else a)))]);refine⟨p,d,g,ia,va,kvs,gvs,.ref nb,nk n,2,_,_,rfl,S.same wv,hn.same wv,by omega,e1,wv _ _ e2,ac,show 2+1<=6 by decide,show 6<=100 by decide,λt H1 s1 e5=>?_⟩;have s01:Same H H1:=wv.trans s1;have O1:=fj (n:=n) (it:={ it with tx:=bg it.tx none (some (if(0:Int)>a then 0 else a)) }) S R s01 ⟨t,uv,pv',rfl,e5,e3.ts (JE s01),e4.ts (JE s01)⟩;have b1:But d H (upd H1 d (.dT (ba kvs (nk n) (.ref t)))):=But.put s01 _;generalize upd H1 d (.dT (ba kvs (nk n) (.ref t)))=H2 at O1 b1 ⊢;have t2:=b1.ts h2;obtain⟨kvs2,gvs2,S2,R2⟩:=id O1;obtain⟨⟨dx2,y1⟩,y2,y3,y4⟩:=id S2;have lk2:=bE R2;have:=iT ol n { it with tx:=bg it.tx none (some (if(0:Int)>a then 0 else a)) };refine⟨_,rfl,p,dx2,_,rfl,y1,bV _ _,_,rfl,vix rfl (JF (t2 _ _ e2)) at0 ⟨_,rfl,vix rfl (JF (t2 _ _ e2)) at2 ⟨_,rfl,_,rfl,it.tx,rfl,lt,?_⟩⟩⟩;refine⟨p,d,g,kvs2,gvs2,mv,uv,pv,.str _,nk m,rfl,S2,hm.ts' t2,by omega,λt' H3 s3 e6=>?_⟩;refine q _ (b1.trans (But.put s3 _)) (fj S2 R2 s3 ⟨t',uv,pv,rfl,e6,(e3.ts t2).ts (JE s3),(hp.ts t2).ts (JE s3)⟩)
inductive spJoinI(C:Jy)(vs:JK)(H:Hp)(Q:VK)(E_:XK):Prop
 |mk (p d g:Jy) (ol:Ol) (nv mv:V) (n m:Nm) (itn itm:It) (h0:vs=[.ref p,nv,mv]) (h1:OlAt C H p d g ol) (h2:NameIs H nv (nk n)) (h3:NameIs H mv (nk m)) (h4:look ol n=some itn) (h5:look ol m=some itm) (h6:ol.length<=400) (h7:itn.tx.length+itm.tx.length<=100000) (h8:∀H' ol',But d H H'->OlAt C H' p d g ol'->JoinR ol n m itn itm ol'->Q .non H'):spJoinI C vs H Q E_
def eQ:Option Nm->PyData
 |none=>.none
 |some n=>.tuple [.int n.1,.int n.2]
theorem eS{H:Hp}{v:V}{u:Option Nm}(h:UpAt H v u):Dt H (eQ u) v/\(eQ u).canLay0=true/\(eQ u).depth<=1:=by
 cases u with
 |none =>obtain rfl:v=.non:=h;exact⟨by simp only[eQ,Dt],rfl,by decide⟩
 |some n =>obtain⟨b,rfl,e⟩:=h;refine⟨?_,by simp[eQ,PyData.canLay0,PyData.canLayAll0],by simp[eQ,PyData.depth,PyData.depthAll]⟩;simp only[eQ,Dt,DtAll];exact⟨b,_,rfl,.inl e,_,_,rfl,rfl,_,_,rfl,rfl,rfl⟩
theorem pK(u v:Option Nm):PyData.eqv (eQ u) (eQ v)=decide (u=v):=by
 cases u with
 |none=>cases v<;>rfl
 |some n =>
  cases v with
  |none=>rfl
  |some m =>
   have:=jZ [n.1,n.2] [m.1,m.2];show PyData.eqv (.tuple ([n.1,n.2].map PyData.int)) (.tuple ([m.1,m.2].map PyData.int))=_;rw[this,decide_eq_decide];constructor
   ·intro z;injection z with z1 z2;injection z2 with z2 _;exact ZU some (Prod.ext z1 z2)
   ·intro z;rw[Zb z]
theorem Bi{β:Type}{R:V->β->Prop}{kvs:JJ}{ol:As β}{k:List Key}(x:Rws R kvs ol)(h:k∈kvs.map (·.1)):∃n it,k=nk n/\look ol n=some it:=by
 induction x with
 |nil=>exact nomatch h
 |@cons p q _ l r _ ih =>
  rw[Zk]at h;rcases Zj.mp h with rfl|h
  ·exact⟨q.1,q.2,r.1,by unfold look;rw[Jg rfl]⟩
  ·obtain⟨n,it,h1,h2⟩:=ih h;by_cases c:q.1=n
   ·exact⟨n,q.2,h1,by unfold look;rw[Jg c]⟩
   ·exact⟨n,it,h1,by unfold look;rw[Jf c];exact h2⟩
theorem AH{β:Type}{l:As β}{n m:Nm}{i:β}:(look (l.map λp=>if p.1=n then(p.1,i)else p) m)=if m=n then(look l m).map (λ_=>i)else look l m:=by
 induction l with
 |nil=>split<;>rfl
 |cons p l ih =>
  rw[Zk];unfold look;by_cases c:p.1=n
  ·rw[Jg c];by_cases c2:p.1=m
   ·rw[Jg c2,Jg c2,Jg (c2▸c)];rfl
   ·rw[Jf c2,Jf c2,ih]
  ·rw[Jf c];by_cases c2:p.1=m
   ·rw[Jg c2,Jg c2,Jf (λz=>c (c2.trans z))]
   ·rw[Jf c2,Jf c2,ih]
theorem AG{β:Type}{l:As β}{n m:Nm}{i:β}(h:look l n=none):look (l++[(n,i)]) m=if m=n then some i else look l m:=by
 induction l with
 |nil =>
  show(if n=m then some i else none)=_;by_cases c:n=m
  ·rw[Jg c,Jg c.symm]
  ·rw[Jf c,Jf λz=>c z.symm];rfl
 |cons p l ih =>
  rw[List.cons_append];unfold look at h ⊢;by_cases c:p.1=n
  ·rw[Jg c]at h;cases h
  ·rw[Jf c]at h;by_cases c2:p.1=m
   ·rw[Jg c2,Jg c2,Jf λz=>c (c2.trans z)]
   ·rw[Jf c2,Jf c2];exact ih h
theorem aG{β:Type}{l:As β}{n m:Nm}{i:β}:look (ay l n i) m=if m=n then some i else look l m:=by
 unfold ay;cases e:look l n with
 |none =>rw[Jf (by simp)];exact AG e
 |some j =>
  rw[Jg (show(some j).isSome=true from rfl),AH];by_cases c:m=n
  ·rw[Jg c,Jg c,c,e];rfl
  ·rw[Jf c,Jf c]
theorem dj{β:Type}{l:As β}{n:Nm}{i j:β}(h:look l n=some j):(ay l n i).length=l.length:=by unfold ay;rw[h,Jg (show(some j).isSome=true from rfl),Ze]
theorem ip{β:Type}{l:As β}{n:Nm}{i:β}:((ay l n i).map (·.1))=if(look l n).isSome=true then l.map (·.1)else l.map (·.1)++[n]:=by
 unfold ay;by_cases c:(look l n).isSome=true
 ·rw[Jg c,Jg c,YN];apply YH;intro x _;show(if x.1=n then(x.1,i)else x).1=x.1;by_cases d:x.1=n
  ·rw[Jg d]
  ·rw[Jf d]
 ·rw[Jf c,Jf c,ZN];rfl
theorem nQ{β:Type}{R:V->β->Prop}{kvs:JJ}{l:As β}(x:Rws R kvs l):kvs.map (·.1)=(l.map (·.1)).map nk:=by
 induction x with
 |nil=>rfl
 |cons r _ ih=>rw[Zk,Zk,Zk,ih,r.1]
theorem vd:∀{a b:List Nm},a.map nk=b.map nk->a=b
 | [],[],_=>rfl
 | [],_::_,h=>by cases h
 |_::_,[],h=>by cases h
 |x::a,y::b,h=>by rw[Zk,Zk]at h;injection h with h1 h2;rw[jI h1,vd h2]
theorem AK{H H':Hp}{kvs kvs':JJ}{ol ol':Ol}{ns:List Nm}(R':Rows H' kvs' ol')(R:Rows H kvs ol)(e:kvs'.map (·.1)=kvs.map (·.1))(n:ol.map (·.1)=ns):ol'.map (·.1)=ns:=by rw[nQ R',nQ R]at e;rw[<-n];exact vd e
abbrev eG:JA:=bG (top 15) 7
abbrev kZ:Jr:=["self","name","other","joined","lower"]
theorem dW:FnScope kZ ["self","name","other"] (aj eG):=⟨rfl,rfl,rfl,by decide,rfl,by decide,by decide⟩
theorem kW{f C:Jy}{fd:Jp}(F:Fun K "join_items" "Plain.join_items" eG f fd)(T:Txt K C)(d7:MFn P w K mg base 1 C "change" ["self","name","first","values"] (spChange C)){tk tk':Tok}(c8:mg "TEXT" = some (.int 2 tk))(d8:mg "UP" = some (.int 0 tk'))(a9:mg "list" = none):FnOk P w K mg base CX0 2 f fd ["self","name","other"] (spJoinI C):=by
 refine F.okQ dW (λvs H Q E h=>?_) (λcdv A outer s H vs Q E hr h=>?_)
 ·obtain⟨p,d,g,ol,nv,mv,n,m,itn,itm,rfl,_⟩:=h;rfl
 obtain⟨p,d,g,ol,nv,mv,n,m,itn,itm,rfl,⟨kvs,gvs,S,R⟩,hn,hm,hln,hlm,l4,lt,q⟩:=h;obtain⟨⟨dx,h1⟩,h2,h3,h4⟩:=id S;obtain⟨nb,rfl,hnb⟩:=id hn;obtain⟨mb,rfl,hmb⟩:=id hm;obtain⟨iv,e1,ia,uv,pv,rfl,e2,e3,e4⟩:=aC R hln;obtain⟨jv,f1,ja,uv',pv',rfl,f2,f3,f4⟩:=aC R hlm;have lk:=bE R;refine⟨_,(b_c (au (i:=3) dW.nd (ar oX (am aq (bp hr.units (bS (q_v 0)) (q_v 1)) (dR c8)) (am aq (bp hr.units (bS (q_v 0)) (q_v 2)) (dR c8))))
   (b_c (bC (cg d7 (hr.mono (by decide)) (q_v 0) (q_a (q_v 1) (q_a (dR c8) (q_a (aQ (q_a (q_v 3) ah)) ah)))))
   (b_c (bC (cg d7 (hr.mono (by decide)) (q_v 0) (q_a (q_v 2) (q_a (dR c8) (q_a (aQ (q_a aE ah)) ah)))))
   (b_1 (eV ZX rfl (fh (fE (iw rfl) a9 ci (q_a (bS (q_v 0)) ah))) (bv (i:=4) dW.nd) (b_1 (aI (aB (hJ hr.units) (am aq (bp hr.units (bS (q_v 0)) (q_v 4)) (dR d8)) (q_v 2)) (b_1 (bC (cg d7 (hr.mono (by decide)) (q_v 0) (q_a (q_v 4) (q_a (dR d8) (q_a (aQ (q_a (q_v 1) ah)) ah)))))) b_0))))))),?_⟩
 try rw[cxK]
 refine⟨_,rfl,p,C,dx,_,_,rfl,h1,T.cl,T.nH,aS _ _,_,rfl,d,.ref ia,rfl,e1▸DGet.t (k:=nk n) h2 hnb,ia,_,_,_,rfl,rfl,JF e2,at2,?_⟩;refine⟨_,rfl,p,C,dx,_,_,rfl,h1,T.cl,T.nH,aS _ _,_,rfl,d,.ref ja,rfl,f1▸DGet.t (k:=nk m) h2 hmb,ja,_,_,_,rfl,rfl,JF f2,at2,_,_,rfl,rfl,xz (by omega),?_⟩;refine⟨_,rfl,p,dx,_,rfl,h1,bV _ _,_,rfl,_,rfl,sz rfl,λva gva=>?_⟩;have wv:=af gva (.tup [.str (itn.tx++itm.tx)]);refine⟨p,d,g,ia,va,kvs,gvs,.ref nb,nk n,2,_,_,rfl,S.same wv,hn.same wv,by omega,e1,wv _ _ e2,ac,show 2+1<=6 by decide,show 6<=100 by decide,λt H1 s1 e5=>?_⟩;have s01:Same H H1:=wv.trans s1;have O1:=fj (n:=n) (it:={ itn with tx:=itn.tx++itm.tx }) S R s01 ⟨t,uv,pv,rfl,e5,e3.ts (JE s01),e4.ts (JE s01)⟩;have b1:But d H (upd H1 d (.dT (ba kvs (nk n) (.ref t)))):=But.put s01 _;generalize upd H1 d (.dT (ba kvs (nk n) (.ref t)))=H2 at O1 b1 ⊢;have t2:=b1.ts h2;obtain⟨kvs2,gvs2,S2,R2⟩:=id O1;obtain⟨⟨dx2,y1⟩,y2,y3,y4⟩:=id S2;have lk2:=bE R2;have ls2:(ay ol n { itn with tx:=itn.tx++itm.tx }).length=ol.length:=dj hln;obtain⟨itm2,hlm2⟩:∃it,look (ay ol n { itn with tx:=itn.tx++itm.tx }) m=some it:=by
  rw[aG];split
  ·exact⟨_,rfl⟩
  ·exact⟨_,hlm⟩
 obtain⟨kv,g1,ka,uw,pw,rfl,g2,g3,g4⟩:=aC R2 hlm2;refine⟨_,rfl,p,dx2,_,rfl,y1,bV _ _,_,rfl,sz rfl,λvb gvb=>?_⟩;have wb:=af gvb (.tup [.str ""]);refine⟨p,d,g,ka,vb,kvs2,gvs2,.ref mb,nk m,2,_,_,rfl,S2.same wb,(hm.ts' t2).same wb,by omega,g1,wb _ _ g2,ac,show 2+1<=6 by decide,show 6<=100 by decide,λt' H3 s3 e6=>?_⟩;have s23:Same H2 H3:=wb.trans s3;have O3:=fj (n:=m) (it:={ itm2 with tx:="" }) S2 R2 s23 ⟨t',uw,pw,rfl,e6,g3.ts (JE s23),g4.ts (JE s23)⟩;have b3:But d H (upd H3 d (.dT (ba kvs2 (nk m) (.ref t')))):=b1.trans (But.put s23 _);generalize upd H3 d (.dT (ba kvs2 (nk m) (.ref t')))=H4 at O3 b3 ⊢;have t4:=b3.ts h2;obtain⟨kvs4,gvs4,S4,R4⟩:=id O3;obtain⟨⟨dx4,z1⟩,z2,z3,z4⟩:=id S4;have ls4:(ay (ay ol n { itn with tx:=itn.tx++itm.tx }) m { itm2 with tx:="" }).length=ol.length:=(dj hlm2).trans ls2;generalize hO4:ay (ay ol n { itn with tx:=itn.tx++itm.tx }) m { itm2 with tx:="" }=ol4 at O3 R4 ls4;refine⟨_,rfl,p,C,dx4,_,_,rfl,z1,T.cl,T.nH,aS _ _,d,kvs4,rfl,.inl z2,λl ks gl hk=>⟨l,rfl,⟨_,JG ac⟩,?_⟩⟩;have wl:=af gl (.lst ks);have el:upd H4 l (.lst ks) l=some (.lst ks):=ac;have nld:l≠d:=λz=>by rw[z,z2]at gl;cases gl
 have O5:PlainAt C (upd H4 l (.lst ks)) p d g kvs4 gvs4:=S4.same wl;have R5:Rows (upd H4 l (.lst ks)) kvs4 ol4:=R4.ts (JE wl);have hk5:dh (upd H4 l (.lst ks)) kvs4 ks:=Gx hk (JE wl);have b5:But d H (upd H4 l (.lst ks)):=b3.trans (But.of wl);have nb5:=wl _ _ (t4 _ _ hnb);have mb5:=wl _ _ (t4 _ _ hmb);generalize upd H4 l (.lst ks)=H5 at el O5 R5 hk5 b5 nb5 mb5 ⊢;have lks:=Er hk5;refine qQ (K:=K) (a:=l) (xs:=ks) (λi σ H'=>But d H5 H'/\∃(kvs':JJ) (ol':Ol) (o4:Option V),PlainAt C H' p d g kvs' gvs4/\Rows H' kvs' ol'/\kvs'.map (·.1)=kvs4.map (·.1)/\ol'.length=ol.length/\((∀x,nk x∈(kvs4.map (·.1)).take i->look ol' x=(look ol4 x).map (cw n m))/\∀x,¬nk x∈(kvs4.map (·.1)).take i->look ol' x=look ol4 x)/\σ=[some (.ref p),some (.ref nb),some (.ref mb),some (.str (itn.tx++itm.tx)),o4])
  ⟨But.of (Same.refl _),kvs4,ol4,none,O5,R5,rfl,ls4,⟨λx h=>by simp at h,λ_ _=>rfl⟩,rfl⟩ (λi σ H' _ z=>JG (z.1 _ _ el nld)) ?_ ?_
 ·rintro i v σ H' hv ⟨bt,kvs',ol',o4,S',R',hk',ll,⟨j1,j2⟩,rfl⟩ DL hDL;have tt:=bt.ts O5.dc;obtain⟨⟨dx',x1⟩,x2,x3,x4⟩:=id S';obtain⟨k,k1,vb',rfl,k2⟩:=Ep hk5 hv;obtain⟨c,it,rfl,hc⟩:=Bi R' (by rw[hk'];exact ZH k1);obtain⟨cv,c1,ca,uc,pc,rfl,c2,c3,c4⟩:=aC R' hc;obtain⟨p1,p2,p3⟩:=eS c3;obtain⟨r1,r2,r3⟩:=eS (u:=some m) (v:=.ref mb) ⟨mb,rfl,tt _ _ mb5⟩;have et:(kvs4.map (·.1)).take (i+1)=(kvs4.map (·.1)).take i++[nk c]:=by rw[Ym,k1];rfl
  have h4:(look ol4 c).map (cw n m)=some (cw n m it):=by
   by_cases cm:nk c∈(kvs4.map (·.1)).take i
   ·have:=j1 c cm;rw[hc]at this;cases e:look ol4 c with
    |none=>rw[e]at this;cases this
    |some it4 =>rw[e]at this;have e2:it=cw n m it4:=Zb this;rw[e2,Dq];rfl
   ·rw[<-j2 c cm,hc];rfl
  have stp:∀ol'':Ol,(∀x,look ol'' x=if x=c then some (cw n m it)else look ol' x)->(∀x,nk x∈(kvs4.map (·.1)).take (i+1)->look ol'' x=(look ol4 x).map (cw n m))/\∀x,¬nk x∈(kvs4.map (·.1)).take (i+1)->look ol'' x=look ol4 x:=λol'' ho=>by
   refine⟨λx hx=>?_,λx hx=>?_⟩
   ·rw[ho x];by_cases e:x=c
    ·rw[Jg e,e,h4]
    ·rw[Jf e];rw[et]at hx;rcases ZC.mp hx with hx|hx
     ·exact j1 x hx
     ·exact absurd (jI (Zq.mp hx)) e
   ·rw[et]at hx;rw[ho x,Jf λe=>hx (ZC.mpr (.inr (Zq.mpr (ZU nk e))))];exact j2 x λz=>hx (ZC.mpr (.inl z))
  refine⟨_,rfl,p,C,dx',_,_,rfl,x1,T.cl,T.nH,aS _ _,_,rfl,d,.ref ca,rfl,c1▸DGet.t (k:=nk c) x2 (tt _ _ k2),ca,_,_,_,rfl,rfl,JF c2,at0,_,rfl,_,_,p1,r1,bq p2 (by omega),bq r2 (by omega),_,rfl,?_⟩;have lk':=bE R';rw[pK];refine cK (λeu=>?_) (λeu=>?_)
  ·refine⟨_,rfl,p,dx',_,rfl,x1,bV _ _,_,rfl,_,rfl,sz rfl,λvc gvc=>?_⟩;have wc:=af gvc (.tup [.ref nb]);refine⟨p,d,g,ca,vc,kvs',gvs4,_,nk c,0,_,_,rfl,S'.same wc,⟨vb',rfl,wc _ _ (tt _ _ k2)⟩,by omega,c1,wc _ _ c2,ac,show 0+1<=6 by decide,show 6<=100 by decide,λt6 H6 s6 e7=>?_⟩;have s56:Same H' H6:=wc.trans s6;have hi:ItAt H6 (.ref t6) { it with up:=some n }:=⟨t6,.ref nb,pc,rfl,e7,⟨nb,rfl,s56 _ _ (tt _ _ nb5)⟩,c4.ts (JE s56)⟩
   have td:TS H6 (upd H6 d (.dT (ba kvs' (nk c) (.ref t6)))):=lX (s56 _ _ x2);have er:cw n m it={ it with up:=some n }:=by unfold cw;rw[Jg eu]
   exact hDL _ _ ⟨bt.trans (But.put s56 _),ba kvs' (nk c) (.ref t6),ay ol' c { it with up:=some n },_,(S'.same s56).put,Rows.ts (iL (Rows.ts R' (JE s56)) hi) td,by rw[AA (qC c1)];exact hk',by rw[dj hc];exact ll,stp _ λx=>by rw[aG,er],rfl⟩
  ·refine hDL _ _ ⟨bt,kvs',ol',_,S',R',hk',ll,stp ol' λx=>?_,rfl⟩;by_cases e:x=c
   ·rw[Jg e,e,hc];unfold cw;rw[Jf eu]
   ·rw[Jf e]
 ·rintro σ H' ⟨bt,kvs',ol',o4,S',R',hk',ll,⟨j1,j2⟩,rfl⟩;refine q H' ol' (b5.trans bt) ⟨kvs',gvs4,S',R'⟩ ⟨ll,AK R' R4 hk' (by rw[<-hO4,ip,Jg (by rw[hlm2];rfl),ip,Jg (by rw[hln];rfl)]),itm2,hlm2,λx=>?_⟩;rw[hO4];have ee:(kvs4.map (·.1)).take ks.length=kvs4.map (·.1):=by rw[ZA];rw[Ze,lks];exact Za _
  rw[ee]at j1 j2;by_cases hx:nk x∈kvs4.map (·.1)
  ·exact j1 x hx
  ·rw[j2 x hx];have:=eU (n:=x) R4;rw[ug hx]at this;cases e:look ol4 x with
   |none=>rfl
   |some it=>rw[e]at this;cases this
def All3(H:Hp)(kvs:JJ)(ws:Jr)(ps:JK)(bs:List Bool):Prop:=∀(i:Nat) (w:Str) (v:V) (b:Bool),ws[i]?=some w->ps[i]?=some v->bs[i]?=some b->PartB H kvs w v b
theorem All3.nil{H:Hp}{kvs:JJ}:All3 H kvs [] [] []:=λi w v b h=>by simp at h
theorem All3.cons{H:Hp}{kvs:JJ}{ws:Jr}{ps:JK}{bs:List Bool}{w:Str}{v:V}{b:Bool}(h:PartB H kvs w v b)(t:All3 H kvs ws ps bs):All3 H kvs (w::ws) (v::ps) (b::bs):=λi w' v' b' h1 h2 h3=>by
 cases i with
 |zero=>cases h1;cases h2;cases h3;exact h
 |succ i=>exact t i _ _ _ h1 h2 h3
def Hq(ws:Jr)(bs:List Bool):Prop:=∀(i:Nat) (w:Str),ws[i]?=some w->isI w->bs[i]?=some true
def upB(ol:Ol):Option Nm->Bool
 |none=>true
 |some n=>(look ol n).isSome
section
variable{H:Hp}{kvs:JJ}{ol:Ol}{v:V}{n:Nm}{u:Option Nm}
theorem EY(R:Rows H kvs ol)(h:NameIs H v (nk n)):PartB H kvs "new" v (!(look ol n).isSome):=⟨λ_=>⟨nk n,h,by rw[eU R]⟩,λz=>absurd z (by decide)⟩
theorem CZ(R:Rows H kvs ol)(h:NameIs H v (nk n)):PartB H kvs "item" v (look ol n).isSome:=⟨λz=>absurd z (by decide),λ_=>.inr ⟨nk n,h,by rw[eU R]⟩⟩
theorem GM(R:Rows H kvs ol)(h:UpAt H v u):PartB H kvs "up" v (upB ol u):=⟨λz=>absurd z (by decide),λ_=>by
 cases u with
 |none=>exact .inl ⟨h,rfl⟩
 | some n=>exact .inr ⟨nk n,h,by rw[eU R];rfl⟩⟩
theorem EZ{w:Str}(h1:w≠"new")(h2:¬isI w):PartB H kvs w v true:=⟨λz=>absurd z h1,λz=>absurd z h2⟩
end
theorem yq:isI "item":=.inl rfl
theorem El:isI "up":=.inr rfl
theorem jT{w:Str}(h:w="place"\/w="text"\/w="truth"\/w="whom"\/w="at"):w≠"new"/\¬isI w:=by rcases h with rfl|rfl|rfl|rfl|rfl<;>exact⟨by decide,by unfold isI;decide +kernel⟩
theorem Hl:¬isI "new":=by unfold isI;decide +kernel
theorem Ga:¬(("item":Str)="new")/\¬(("up":Str)="new"):=by decide
inductive Prt(H:Hp)(ol:Ol):Jr->JK->List Bool->List Nm->List Nm->Prop
 |nil:Prt H ol [] [] [] [] []
 |item {v:V} {n:Nm} {ws:Jr} {ps:JK} {bs:List Bool} {is ns:List Nm} (h:NameIs H v (nk n)) (t:Prt H ol ws ps bs is ns):Prt H ol ("item"::ws) (v::ps) ((look ol n).isSome::bs) (n::is) ns
 |up {v:V} {u:Option Nm} {ws:Jr} {ps:JK} {bs:List Bool} {is ns:List Nm} (h:UpAt H v u) (t:Prt H ol ws ps bs is ns):Prt H ol ("up"::ws) (v::ps) (upB ol u::bs) (u.toList++is) ns
 |new {v:V} {n:Nm} {ws:Jr} {ps:JK} {bs:List Bool} {is ns:List Nm} (h:NameIs H v (nk n)) (t:Prt H ol ws ps bs is ns):Prt H ol ("new"::ws) (v::ps) ((!(look ol n).isSome)::bs) is (n::ns)
 |oth {w:Str} {v:V} {ws:Jr} {ps:JK} {bs:List Bool} {is ns:List Nm} (h:w≠"new"/\¬isI w) (t:Prt H ol ws ps bs is ns):Prt H ol (w::ws) (v::ps) (true::bs) is ns
theorem Prt.all{H:Hp}{ol:Ol}{kvs:JJ}(R:Rows H kvs ol){ws:Jr}{ps:JK}{bs:List Bool}{is ns:List Nm}(h:Prt H ol ws ps bs is ns):All3 H kvs ws ps bs/\ws.length=ps.length/\bs.length=ps.length:=by
 induction h with
 |nil=>exact⟨.nil,rfl,rfl⟩
 |item h _ ih=>exact⟨.cons (CZ R h) ih.1,ZU (·+1) ih.2.1,ZU (·+1) ih.2.2⟩
 |up h _ ih=>exact⟨.cons (GM R h) ih.1,ZU (·+1) ih.2.1,ZU (·+1) ih.2.2⟩
 |new h _ ih=>exact⟨.cons (EY R h) ih.1,ZU (·+1) ih.2.1,ZU (·+1) ih.2.2⟩
 |oth h _ ih=>exact⟨.cons (EZ h.1 h.2) ih.1,ZU (·+1) ih.2.1,ZU (·+1) ih.2.2⟩
def fU(ol:Ol)(n:Nm):Bool:=(look ol n).isNone
theorem Prt.news{H:Hp}{ol:Ol}{ws:Jr}{ps:JK}{bs:List Bool}{is ns:List Nm}(h:Prt H ol ws ps bs is ns):(∀i:Nat,ws[i]?=some "new"->bs[i]?=some false->∃n∈ns,(look ol n).isSome=true)/\((∀i:Nat,ws[i]?=some "new"->bs[i]?=some true)->∀n∈ns,look ol n=none):=by
 induction h with
 |nil=>exact⟨(λi e=>by simp at e),(λ_ n hn=>nomatch hn)⟩
 |item h _ ih =>
  refine⟨λi e1 e2=>?_,λz=>ih.2 λi e=>z (i+1) e⟩;cases i with
  |zero=>exact absurd (Zb e1) Ga.1
  |succ i=>exact ih.1 i e1 e2
 |up h _ ih =>
  refine⟨λi e1 e2=>?_,λz=>ih.2 λi e=>z (i+1) e⟩;cases i with
  |zero=>exact absurd (Zb e1) Ga.2
  |succ i=>exact ih.1 i e1 e2
 |@new v n ws ps bs is ns h _ ih =>
  refine⟨λi e1 e2=>?_,λz m hm=>?_⟩
  ·cases i with
   |zero =>have e2:(!(look ol n).isSome)=false:=Zb e2;exact⟨n,Zl,by rw[Bool.not_eq_false']at e2;exact e2⟩
   |succ i =>obtain⟨m,h1,h2⟩:=ih.1 i e1 e2;exact⟨m,Zf _ h1,h2⟩
  ·rcases Zj.mp hm with rfl|hm
   ·have e2:(!(look ol m).isSome)=true:=Zb (z 0 rfl);cases c:look ol m with
    |none=>rfl
    |some x=>rw[c]at e2;cases e2
   ·exact ih.2 (λi e=>z (i+1) e) m hm
 |oth h _ ih =>
  refine⟨λi e1 e2=>?_,λz=>ih.2 λi e=>z (i+1) e⟩;cases i with
  |zero=>exact absurd (Zb e1) h.1
  |succ i=>exact ih.1 i e1 e2
theorem Prt.items{H:Hp}{ol:Ol}{ws:Jr}{ps:JK}{bs:List Bool}{is ns:List Nm}(h:Prt H ol ws ps bs is ns):(Hq ws bs->∀n∈is,(look ol n).isSome=true) /\
  ∀(i:Nat) (w:Str) (v:V),ws[i]?=some w->ps[i]?=some v->isI w->bs[i]?=some false->(∀(j:Nat) (w':Str),j<i->ws[j]?=some w'->isI w'->bs[j]?=some true)->∃n,is.find? (fU ol)=some n/\NameIs H v (nk n):=by
 induction h with
 |nil=>exact⟨(λ_ n hn=>nomatch hn),(λi w v e=>by simp at e)⟩
 |@item v n ws ps bs is ns h _ ih =>
  refine⟨λz m hm=>?_,λi w v' e1 e2 hi e3 pre=>?_⟩
  ·rcases Zj.mp hm with rfl|hm
   ·exact Zb (z 0 _ rfl yq)
   ·exact ih.1 (λi w e hw=>z (i+1) w e hw) m hm
  ·cases i with
   |zero =>
    cases e2;have e3:(look ol n).isSome=false:=Zb e3;refine⟨n,?_,h⟩;rw[List.find?_cons_of_pos];unfold fU;cases c:look ol n with
    |none=>rfl
    |some x=>rw[c]at e3;cases e3
   |succ i =>
    obtain⟨m,h1,h2⟩:=ih.2 i w v' e1 e2 hi e3 λj w' hj e hw=>pre (j+1) w' (by omega) e hw;have p0:(look ol n).isSome=true:=Zb (pre 0 _ (by omega) rfl yq);refine⟨m,?_,h2⟩;rw[List.find?_cons_of_neg]
    ·exact h1
    ·unfold fU;cases c:look ol n with
     |none=>rw[c]at p0;cases p0
     |some x=>intro z;cases z
 |@up v u ws ps bs is ns h _ ih =>
  refine⟨λz m hm=>?_,λi w v' e1 e2 hi e3 pre=>?_⟩
  ·rcases ZC.mp hm with hm|hm
   ·cases u with
    |none=>exact nomatch hm
    |some x =>
     obtain rfl:m=x:=by simpa using hm
     exact Zb (z 0 _ rfl El)
   ·exact ih.1 (λi w e hw=>z (i+1) w e hw) m hm
  ·cases i with
   |zero =>
    cases e2;cases u with
    |none=>cases e3
    |some x =>
     have e3:(look ol x).isSome=false:=Zb e3;refine⟨x,?_,h⟩;show List.find? _ (x::is)=_;rw[List.find?_cons_of_pos];unfold fU;cases c:look ol x with
     |none=>rfl
     |some y=>rw[c]at e3;cases e3
   |succ i =>
    obtain⟨m,h1,h2⟩:=ih.2 i w v' e1 e2 hi e3 λj w' hj e hw=>pre (j+1) w' (by omega) e hw;have p0:upB ol u=true:=Zb (pre 0 _ (by omega) rfl El);refine⟨m,?_,h2⟩;cases u with
    |none=>exact h1
    |some x =>
     have p0:(look ol x).isSome=true:=p0;show List.find? _ (x::is)=_;rw[List.find?_cons_of_neg]
     ·exact h1
     ·unfold fU;cases c:look ol x with
      |none=>rw[c]at p0;cases p0
      |some y=>intro z;cases z
 |new h _ ih =>
  refine⟨λz=>ih.1 λi w e hw=>z (i+1) w e hw,λi w v' e1 e2 hi e3 pre=>?_⟩;cases i with
  |zero=>cases e1;exact absurd hi Hl
  |succ i=>exact ih.2 i w v' e1 e2 hi e3 λj w' hj e hw=>pre (j+1) w' (by omega) e hw
 |oth h _ ih =>
  refine⟨λz=>ih.1 λi w e hw=>z (i+1) w e hw,λi w v' e1 e2 hi e3 pre=>?_⟩;cases i with
  |zero=>cases e3
  |succ i=>exact ih.2 i w v' e1 e2 hi e3 λj w' hj e hw=>pre (j+1) w' (by omega) e hw
theorem FM{H:Hp}{ol:Ol}{st:Jy}{s:Sd}(h:StAt H st s):∃(wd:Str) (ws:Jr) (ps:JK) (bs:List Bool),H st=some (.tup (.str wd::ps))/\PyProof.Rows.KTD.datumAt wd ST=some (tw ws)/\Prt H ol ws ps bs s.items s.news:=by
 have wp:=jT (w:="place") (.inl rfl);have wt:=jT (w:="text") (.inr (.inl rfl));have wr:=jT (w:="truth") (.inr (.inr (.inl rfl)));have ww:=jT (w:="whom") (.inr (.inr (.inr (.inl rfl))));have wa:=jT (w:="at") (.inr (.inr (.inr (.inr rfl))));cases s with
 |put n u pl tx =>obtain⟨nv,uv,pv,h1,h2,h3,h4⟩:=h;have:=Prt.up (ol:=ol) h3 (.oth (v:=pv) wp (.oth (v:=.str tx) wt .nil));rw[ZR]at this;exact⟨_,_,_,_,h1,rfl,.new h2 this⟩
 |move n u pl =>obtain⟨nv,uv,pv,h1,h2,h3,h4⟩:=h;have:=Prt.up (ol:=ol) h3 (.oth (v:=pv) wp .nil);rw[ZR]at this;exact⟨_,_,_,_,h1,rfl,.item h2 this⟩
 |write n tx =>obtain⟨nv,h1,h2⟩:=h;exact⟨_,_,_,_,h1,rfl,.item h2 (.oth wt .nil)⟩
 |mark n b =>obtain⟨nv,h1,h2⟩:=h;exact⟨_,_,_,_,h1,rfl,.item h2 (.oth wr .nil)⟩
 |due n b =>obtain⟨nv,h1,h2⟩:=h;exact⟨_,_,_,_,h1,rfl,.item h2 (.oth ww .nil)⟩
 |fold n b =>obtain⟨nv,h1,h2⟩:=h;exact⟨_,_,_,_,h1,rfl,.item h2 (.oth wr .nil)⟩
 |part n a m pl =>obtain⟨nv,mv,pv,h1,h2,h3,h4⟩:=h;exact⟨_,_,_,_,h1,rfl,.item h2 (.oth wa (.new h3 (.oth wp .nil)))⟩
 |join n m =>obtain⟨nv,mv,h1,h2,h3⟩:=h;exact⟨_,_,_,_,h1,rfl,.item h2 (.item h3 .nil)⟩
 |gone n =>obtain⟨nv,h1,h2⟩:=h;exact⟨_,_,_,_,h1,rfl,.item h2 .nil⟩
inductive Out
 |taken
 |none (n:Nm)
 |beneath
 |far
 |ok
def Gj:Option Bool->Out
 |some true=>.beneath
 |some false=>.far
 |none=>.ok
inductive Due(ol:Ol)(s:Sd):Out->Prop
 |taken (n:Nm) (h:n∈s.news) (t:(look ol n).isSome=true):Due ol s .taken
 |none (n:Nm) (h:∀m∈s.news,look ol m=none) (f:s.items.find? (fU ol)=some n):Due ol s (.none n)
 |bd (r:Option Bool) (h:∀m∈s.news,look ol m=none) (i:∀m∈s.items,(look ol m).isSome=true) (b:Bd ol s r):Due ol s (Gj r)
def But2(d g:Jy)(H H':Hp):Prop:=∀b o,H b=some o->b≠d->b≠g->H' b=some o
def ls(gs:As Unit):Sd->As Unit
 |.gone n=>ay gs n ()
 |_=>gs
theorem uK{gs:As Unit}{s:Sd}(h:∀n,s≠.gone n):ls gs s=gs:=by cases s<;>first|rfl|exact absurd rfl (h _)
theorem GoneAt.but{H H':Hp}{d g:Jy}{gs:As Unit}(x:GoneAt H g gs)(b:But d H H')(ne:d≠g):GoneAt H' g gs:=by obtain⟨gvs,h1,h2⟩:=x;exact⟨gvs,b _ _ h1 (Zs ne),h2⟩
inductive spStepA(C cT cN cB cF:Jy)(vs:JK)(H:Hp)(Q:VK)(E:XK):Prop
 |mk (p d g st:Jy) (ol:Ol) (gs:As Unit) (s:Sd) (o:Out) (h0:vs=[.ref p,.ref st]) (h1:OlAt C H p d g ol) (h2:GoneAt H g gs) (h3:ol.length<=60) (h4:gs.length<=60) (h5:StAt H st s) (h6:(∀n it,look ol n=some it->it.tx.length<=4000)) (h7:Due ol s o) (h8:(o=.taken->∀H',Same H H'->E (.ref cT) none H')) (h9:(∀n,o=.none n->∀H' dd v,Same H H'->H' dd=some (.xd [("name",v)])->NameIs H' v (nk n)->E (.ref cN) (some dd) H')) (h10:(o=.beneath->∀H',Same H H'->E (.ref cB) none H')) (h11:(o=.far->∀H',Same H H'->E (.ref cF) none H')) (h12:(o=.ok->∀H' ol',But2 d g H H'->OlAt C H' p d g ol'->GoneAt H' g (ls gs s)->Ap ol s ol'->Q .non H')):spStepA C cT cN cB cF vs H Q E
abbrev iP:JA:=bG (top 15) 1
abbrev rZ:Jr:=["self","step","word"]
theorem kO:FnScope rZ ["self","step"] (aj iP):=⟨rfl,rfl,rfl,by decide,rfl,by decide,by decide⟩
theorem qj{f C cT cN cB cF:Jy}{fd:Jp}(F:Fun K "step" "Plain.step" iP f fd)(a7:Txt K C)(k7:MFnX P w K mg base 3 C "check_names" ["self","step"] (spCheckX C cT cN))(j5:MFnX P w K mg base 2 C "check_bounds" ["self","step"] (spBoundsF C cB cF))(i6:MFn P w K mg base 1 C "bring_in" ["self","name","up","place","text"] (spBring C))(HY:MFn P w K mg base 2 C "part_item" ["self","name","at","new","place"] (spPartI C))(q0:MFn P w K mg base 2 C "join_items" ["self","name","other"] (spJoinI C))(d7:MFn P w K mg base 1 C "change" ["self","name","first","values"] (spChange C)){dd:Jy}(j6:mg "FIRST_CHANGED" = some (.ref dd))(TF:Tab K dd FC):FnOk P w K mg base (CXr P w) 4 f fd ["self","step"] (spStepA C cT cN cB cF):=by
 refine F.okX kO (λvs H Q E h=>?_) (λcdv A outer s H vs Q E hr h=>?_)
 ·obtain⟨p,d,g,st,ol,gs,sd,o,rfl,_⟩:=h;rfl
 obtain⟨p,d,g,st,ol,gs,sd,o,rfl,O,G,l3,lg,hs,htx,du,qT,qN,qB,qF,q⟩:=h;obtain⟨kvs,gvs,S,R⟩:=id O;obtain⟨⟨dx,h1⟩,h2,h3,h4⟩:=id S;have lk:=bE R;obtain⟨wd,ws,ps,bs,hst,dat,pr⟩:=FM (ol:=ol) hs;obtain⟨a3,l1,l2⟩:=pr.all R;obtain⟨n1,n2⟩:=pr.news;obtain⟨i1,i2⟩:=pr.items;refine⟨_,(b_c (bC (vp k7 (BO dE) (hr.mono (by decide)) (q_v 0) (q_a (q_v 1) ah)))
   (b_c (bC (vp j5 (BO dE) (hr.mono (by decide)) (q_v 0) (q_a (q_v 1) ah)))
   (b_c (au (i:=2) kO.nd (am aq (q_v 1) ag))
   (b_1 (aI (aB bW (q_v 2) aE) (b_1 (bC (cg i6 (hr.mono (by decide)) (q_v 0) (q_a (am aq (q_v 1) ag) (q_a (am aq (q_v 1) ag) (q_a (am aq (q_v 1) ag) (q_a (am aq (q_v 1) ag) ah))))))) (b_1 (aI (aB bW (q_v 2) aE) (b_1 (bC (cg HY (hr.mono (by decide)) (q_v 0) (q_a (am aq (q_v 1) ag) (q_a (am aq (q_v 1) ag) (q_a (am aq (q_v 1) ag) (q_a (am aq (q_v 1) ag) ah))))))) (b_1 (aI (aB bW (q_v 2) aE) (b_1 (bC (cg q0 (hr.mono (by decide)) (q_v 0) (q_a (am aq (q_v 1) ag) (q_a (am aq (q_v 1) ag) ah))))) (b_1 (aI (aB bW (q_v 2) aE) (b_1 (dM hr.units (bS (q_v 0)) (am aq (q_v 1) ag) ce)) (b_1 (bC (cg d7 (hr.mono (by decide)) (q_v 0) (q_a (am aq (q_v 1) ag) (q_a (am B7 (ql j6) (q_v 2)) (q_a (cC bQ (q_v 1) (cj ag) cG) ah))))))))))))))))),?_⟩
 try rw[cxK]
 refine⟨_,rfl,p,dx,_,rfl,h1,bV _ _,_,rfl,p,d,g,st,kvs,gvs,wd,ws,ps,bs,rfl,S,hst,dat,l1,l2,a3,fun⟨i,e1,e2⟩=>?_,λnn=>⟨λall H1 s1=>?_,λi w' v e1 e2 hi e3 pre H' dd sm hd=>?_⟩⟩
 ·obtain⟨n,hn,hl⟩:=n1 i e1 e2;have no:∀{A:Prop},(∀m∈sd.news,look ol m=none)->A:=λh=>by rw[h n hn]at hl;cases hl
  cases du with
  |taken m h t=>exact qT rfl
  |none m h f=>exact no h
  |bd r h i b=>exact no h
 ·have nn:=n2 nn;have ii:=i1 all;cases du with
  |taken m h t =>rw[nn m h]at t;cases t
  |none m h f =>
   have:=ii m (List.mem_of_find?_eq_some f);have z:=List.find?_some f;unfold fU at z;cases c:look ol m with
   |none=>rw[c]at this;cases this
   |some x=>rw[c]at z;cases z
  |bd r h i bdx =>
   have hs1:=hs.ts (JE s1);refine⟨_,rfl,p,dx,_,rfl,s1 _ _ h1,bV _ _,_,rfl,p,d,g,st,ol,sd,r,rfl,O.same s1,hs1,bdx,htx,λe=>?_,λe=>?_,λe=>?_⟩
   ·subst e;exact qB rfl H1 s1
   ·subst e;exact qF rfl H1 s1
   subst e;have q':(∀n,sd≠.gone n)->∀H' ol',But d H H'->OlAt C H' p d g ol'->Ap ol sd ol'->Q .non H':=λng H' ol' bt o' ap=>q rfl H' ol' (λb o e n _=>bt b o e n) o' (by rw[uK ng];exact G.but bt h4) ap;have S1:=S.same s1;have R1:=R.ts (JE s1);have y1:=s1 _ _ h1;have ch:∀{n:Nm} {it:It} {ia:Jy} {xs:JK},look ol n=some it->∃ia uv pv,bw kvs (nk n)=some (.ref ia)/\H1 ia=some (.tup [uv,pv,.str it.tx,.bl it.dn,whV it.wh,.bl it.fo])/\UpAt H1 uv it.up/\PlAt H1 pv it.pl:=fun{n it _ _} hl=>by obtain⟨iv,e1,ia,uv,pv,rfl,e2,e3,e4⟩:=aC R1 hl;exact⟨ia,uv,pv,e1,e2,e3,e4⟩
   cases sd with
   |put n u pl tx =>obtain⟨nv,uv,pv,hst,hn,hu,hp⟩:=hs1;have e1:=JF (K:=K) hst;refine(vix rfl e1 at0 ?_);refine⟨_,rfl,rfl,_,rfl,gw ?_⟩;exact⟨_,rfl,p,dx,_,rfl,y1,bV _ _,vix rfl e1 at1 (vix rfl e1 at2 (vix rfl e1 at3 (vix rfl e1 at4 ⟨p,d,g,kvs,gvs,nv,uv,pv,.str tx,nk n,rfl,S1,hn,by omega,λt H2 s2 e2=>q' nofun _ _ (But.put (s1.trans s2) _) (fj S1 R1 s2 ⟨t,uv,pv,rfl,e2,hu.ts (JE s2),hp.ts (JE s2)⟩) .put⟩)))⟩
   |part n a m pl =>obtain⟨nv,mv,pv,hst,hn,hm,hp⟩:=hs1;have e1:=JF (K:=K) hst;obtain⟨it,hl⟩:=Zh.mp (i n (by simp[Sd.items]));refine(vix rfl e1 at0 ?_);refine⟨_,rfl,rfl,_,rfl,aF (by decide) ?_⟩;refine⟨_,rfl,rfl,_,rfl,gw ?_⟩;exact⟨_,rfl,p,dx,_,rfl,y1,bV _ _,vix rfl e1 at1 (vix rfl e1 at2 (vix rfl e1 at3 (vix rfl e1 at4 ⟨p,d,g,ol,nv,mv,pv,n,m,a,pl,it,rfl,O.same s1,hn,hm,hp,hl,by omega,by have:=htx n it hl;omega,λH2 b2 o2=>q' nofun _ _ ((But.of s1).trans b2) o2 (.part hl)⟩)))⟩
   |join n m =>obtain⟨nv,mv,hst,hn,hm⟩:=hs1;have e1:=JF (K:=K) hst;obtain⟨itn,hln⟩:=Zh.mp (i n (by simp[Sd.items]));obtain⟨itm,hlm⟩:=Zh.mp (i m (by simp[Sd.items]));refine(vix rfl e1 at0 ?_);refine⟨_,rfl,rfl,_,rfl,aF (by decide) ?_⟩;refine⟨_,rfl,rfl,_,rfl,aF (by decide) ?_⟩;refine⟨_,rfl,rfl,_,rfl,gw ?_⟩;have:=htx n itn hln;have:=htx m itm hlm;exact⟨_,rfl,p,dx,_,rfl,y1,bV _ _,vix rfl e1 at1 (vix rfl e1 at2 ⟨p,d,g,ol,nv,mv,n,m,itn,itm,rfl,O.same s1,hn,hm,hln,hlm,by omega,by omega,λH2 ol' b2 o2 ll=>q' nofun _ _ ((But.of s1).trans b2) o2 (.join hln hlm ll)⟩)⟩
   |move n u pl =>obtain⟨nv,uv,pv,hst,hn,hu,hp⟩:=hs1;have e1:=JF (K:=K) hst;obtain⟨it,hl⟩:=Zh.mp (i n (by simp[Sd.items]));obtain⟨ia,uw,pw,c1,c2,c3,c4⟩:=ch (ia:=st) (xs:=[]) hl;refine(vix rfl e1 at0 ?_);refine⟨_,rfl,rfl,_,rfl,aF (by decide) ?_⟩;refine⟨_,rfl,rfl,_,rfl,aF (by decide) ?_⟩;refine⟨_,rfl,rfl,_,rfl,aF (by decide) ?_⟩;refine⟨_,rfl,rfl,_,rfl,aF (by decide) ?_⟩;refine⟨_,rfl,p,dx,_,rfl,y1,bV _ _,vix rfl e1 at1 ⟨_,rfl,dd,"move",FC,_,rfl,rfl,TF,rfl,?_⟩⟩;refine⟨_,rfl,_,rfl,st,_,rfl,hst,λva H2 s2 e2=>?_⟩;exact⟨p,d,g,ia,va,kvs,gvs,nv,nk n,0,_,[uv,pv],rfl,S1.same s2,hn.same s2,by omega,c1,s2 _ _ c2,e2,show 0+2<=6 by decide,show 6<=100 by decide,λt H3 s3 e3=>q' nofun _ _ (But.put (s1.trans (s2.trans s3)) _) (fj (it:={ it with up:=u,pl:=pl }) S1 R1 (s2.trans s3) ⟨t,uv,pv,rfl,e3,hu.ts (JE (s2.trans s3)),hp.ts (JE (s2.trans s3))⟩) (.move hl)⟩
   |write n tx =>obtain⟨nv,hst,hn⟩:=hs1;have e1:=JF (K:=K) hst;obtain⟨it,hl⟩:=Zh.mp (i n (by simp[Sd.items]));obtain⟨ia,uw,pw,c1,c2,c3,c4⟩:=ch (ia:=st) (xs:=[]) hl;refine(vix rfl e1 at0 ?_);refine⟨_,rfl,rfl,_,rfl,aF (by decide) ?_⟩;refine⟨_,rfl,rfl,_,rfl,aF (by decide) ?_⟩;refine⟨_,rfl,rfl,_,rfl,aF (by decide) ?_⟩;refine⟨_,rfl,rfl,_,rfl,aF (by decide) ?_⟩;refine⟨_,rfl,p,dx,_,rfl,y1,bV _ _,vix rfl e1 at1 ⟨_,rfl,dd,"write",FC,_,rfl,rfl,TF,rfl,?_⟩⟩;refine⟨_,rfl,_,rfl,st,_,rfl,hst,λva H2 s2 e2=>?_⟩;exact⟨p,d,g,ia,va,kvs,gvs,nv,nk n,2,_,[_],rfl,S1.same s2,hn.same s2,by omega,c1,s2 _ _ c2,e2,show 2+1<=6 by decide,show 6<=100 by decide,λt H3 s3 e3=>q' nofun _ _ (But.put (s1.trans (s2.trans s3)) _) (fj (it:={ it with tx:=tx }) S1 R1 (s2.trans s3) ⟨t,uw,pw,rfl,e3,c3.ts (JE (s2.trans s3)),c4.ts (JE (s2.trans s3))⟩) (.write hl)⟩
   |mark n b =>obtain⟨nv,hst,hn⟩:=hs1;have e1:=JF (K:=K) hst;obtain⟨it,hl⟩:=Zh.mp (i n (by simp[Sd.items]));obtain⟨ia,uw,pw,c1,c2,c3,c4⟩:=ch (ia:=st) (xs:=[]) hl;refine(vix rfl e1 at0 ?_);refine⟨_,rfl,rfl,_,rfl,aF (by decide) ?_⟩;refine⟨_,rfl,rfl,_,rfl,aF (by decide) ?_⟩;refine⟨_,rfl,rfl,_,rfl,aF (by decide) ?_⟩;refine⟨_,rfl,rfl,_,rfl,aF (by decide) ?_⟩;refine⟨_,rfl,p,dx,_,rfl,y1,bV _ _,vix rfl e1 at1 ⟨_,rfl,dd,"mark",FC,_,rfl,rfl,TF,rfl,?_⟩⟩;refine⟨_,rfl,_,rfl,st,_,rfl,hst,λva H2 s2 e2=>?_⟩;exact⟨p,d,g,ia,va,kvs,gvs,nv,nk n,3,_,[_],rfl,S1.same s2,hn.same s2,by omega,c1,s2 _ _ c2,e2,show 3+1<=6 by decide,show 6<=100 by decide,λt H3 s3 e3=>q' nofun _ _ (But.put (s1.trans (s2.trans s3)) _) (fj (it:={ it with dn:=b }) S1 R1 (s2.trans s3) ⟨t,uw,pw,rfl,e3,c3.ts (JE (s2.trans s3)),c4.ts (JE (s2.trans s3))⟩) (.mark hl)⟩
   |due n b =>obtain⟨nv,hst,hn⟩:=hs1;have e1:=JF (K:=K) hst;obtain⟨it,hl⟩:=Zh.mp (i n (by simp[Sd.items]));obtain⟨ia,uw,pw,c1,c2,c3,c4⟩:=ch (ia:=st) (xs:=[]) hl;refine(vix rfl e1 at0 ?_);refine⟨_,rfl,rfl,_,rfl,aF (by decide) ?_⟩;refine⟨_,rfl,rfl,_,rfl,aF (by decide) ?_⟩;refine⟨_,rfl,rfl,_,rfl,aF (by decide) ?_⟩;refine⟨_,rfl,rfl,_,rfl,aF (by decide) ?_⟩;refine⟨_,rfl,p,dx,_,rfl,y1,bV _ _,vix rfl e1 at1 ⟨_,rfl,dd,"due",FC,_,rfl,rfl,TF,rfl,?_⟩⟩;refine⟨_,rfl,_,rfl,st,_,rfl,hst,λva H2 s2 e2=>?_⟩;exact⟨p,d,g,ia,va,kvs,gvs,nv,nk n,4,_,[_],rfl,S1.same s2,hn.same s2,by omega,c1,s2 _ _ c2,e2,show 4+1<=6 by decide,show 6<=100 by decide,λt H3 s3 e3=>q' nofun _ _ (But.put (s1.trans (s2.trans s3)) _) (fj (it:={ it with wh:=b }) S1 R1 (s2.trans s3) ⟨t,uw,pw,rfl,e3,c3.ts (JE (s2.trans s3)),c4.ts (JE (s2.trans s3))⟩) (.due hl)⟩
   |fold n b =>obtain⟨nv,hst,hn⟩:=hs1;have e1:=JF (K:=K) hst;obtain⟨it,hl⟩:=Zh.mp (i n (by simp[Sd.items]));obtain⟨ia,uw,pw,c1,c2,c3,c4⟩:=ch (ia:=st) (xs:=[]) hl;refine(vix rfl e1 at0 ?_);refine⟨_,rfl,rfl,_,rfl,aF (by decide) ?_⟩;refine⟨_,rfl,rfl,_,rfl,aF (by decide) ?_⟩;refine⟨_,rfl,rfl,_,rfl,aF (by decide) ?_⟩;refine⟨_,rfl,rfl,_,rfl,aF (by decide) ?_⟩;refine⟨_,rfl,p,dx,_,rfl,y1,bV _ _,vix rfl e1 at1 ⟨_,rfl,dd,"fold",FC,_,rfl,rfl,TF,rfl,?_⟩⟩;refine⟨_,rfl,_,rfl,st,_,rfl,hst,λva H2 s2 e2=>?_⟩;exact⟨p,d,g,ia,va,kvs,gvs,nv,nk n,5,_,[_],rfl,S1.same s2,hn.same s2,by omega,c1,s2 _ _ c2,e2,show 5+1<=6 by decide,show 6<=100 by decide,λt H3 s3 e3=>q' nofun _ _ (But.put (s1.trans (s2.trans s3)) _) (fj (it:={ it with fo:=b }) S1 R1 (s2.trans s3) ⟨t,uw,pw,rfl,e3,c3.ts (JE (s2.trans s3)),c4.ts (JE (s2.trans s3))⟩) (.fold hl)⟩
   |gone n =>
    obtain⟨nv,hst,hn⟩:=hs1;have e1:=JF (K:=K) hst;obtain⟨nb,rfl,hnb⟩:=id hn;obtain⟨gvs',hg',Rg⟩:=id G;have eg:gvs'=gvs:=by rw[h3]at hg';injection hg' with hg';injection hg' with hg';exact hg'.symm
    subst eg;have lgv:=bE Rg;refine(vix rfl e1 at0 ?_);refine⟨_,rfl,rfl,_,rfl,aF (by decide) ?_⟩;refine⟨_,rfl,rfl,_,rfl,aF (by decide) ?_⟩;refine⟨_,rfl,rfl,_,rfl,aF (by decide) ?_⟩;refine⟨_,rfl,rfl,_,rfl,gw ?_⟩;refine⟨_,rfl,p,C,dx,_,_,rfl,y1,a7.cl,a7.nA,iX _ _,vix rfl e1 at1 ⟨g,_,rfl,DPut.t (k:=nk n) (s1 _ _ h3) hnb (bc (by omega)),?_⟩⟩;have tg:=lX (kvs':=ba gvs' (nk n) (.bl true)) (s1 _ _ h3);obtain⟨⟨dx1,z1⟩,z2,z3,z4⟩:=id S1;refine q rfl _ ol (λb o e n1 n2=>by rw[ad n2];exact s1 _ _ e) ⟨kvs,_,⟨⟨dx1,by rw[ad (cV z1 z3 nofun)];exact z1⟩,by rw[ad z4];exact z2,ac,z4⟩,R1.ts tg⟩ ⟨_,ac,iL Rg rfl⟩ .gone
 ·obtain⟨n,f,hn⟩:=i2 i w' v e1 e2 hi e3 pre;have nn:=n2 nn;cases du with
  |taken m h t =>rw[nn m h]at t;cases t
  |none m h f' =>rw[f]at f';cases f';exact qN n rfl H' dd v sm hd (hn.same sm)
  |bd r h i b =>
   have:=i n (List.mem_of_find?_eq_some f);have z:=List.find?_some f;unfold fU at z;cases c:look ol n with
   |none=>rw[c]at this;cases this
   |some x=>rw[c]at z;cases z
abbrev bX:Str:=(("Plain.sorted_names":Str)++".<locals>.")++"<lambda>"
def HS:JA->Jz
 |.Return (some e) _=>e
 |_=>.Name "" ⟨0,0,0,0⟩
def HL:Jz->Jz
 |.Call _ _ (k::_) _=>k.value
 |e=>e
def HK:Jz->Jz
 |.Lambda _ b _ _=>b
 |e=>e
def HM:Jz->Scope
 |.Lambda _ _ s _=>s
 |_=>default
def cc:Jz->Pos
 |.Lambda _ _ _ p=>p
 |_=>⟨0,0,0,0⟩
abbrev cR:JA:=bG (top 15) 15
abbrev jW:Jr:=["self"]
theorem jP:FnScope jW ["self"] (aj cR):=⟨rfl,rfl,rfl,by decide,rfl,by decide,by decide⟩
abbrev bO:Jz:=HL (HS ((bP cR).getD 0 (.Pass ⟨0,0,0,0⟩)))
def kyP(x:Nm×It):ZKey:=.p x.2.pl [x.1.1,x.1.2]
inductive spLamP(C:Jy)(kv:V)(vs:JK)(H:Hp)(Q:VK)(E_:XK):Prop
 |mk (p d g:Jy) (ol:Ol) (v:V) (n:Nm) (it:It) (h0:kv=.ref p) (h1:vs=[v]) (h2:OlAt C H p d g ol) (h3:NameIs H v (nk n)) (h4:look ol n=some it) (h5:∀kv' H',Same H H'->(kyP (n,it)).at H' kv'->Q kv' H'):spLamP C kv vs H Q E_
theorem cY{C:Jy}{tk:Tok}(T:Txt K C)(Ib:mg "PLACE" = some (.int 1 tk)):LamOkX P w K mg base 1 bX (HK bO) (HM bO) "name" "self" (spLamP C):=by refine⟨⟨rfl,rfl,rfl,rfl,rfl,by decide,by decide,by decide⟩,λf c' c kv A outer s H v Q hr h=>?_⟩;obtain⟨p,d,g,ol,v',n,it,rfl,e,⟨kvs,gvs,S,R⟩,hn,hl,q⟩:=h;cases e;obtain⟨⟨dx,h1⟩,h2,h3,h4⟩:=id S;obtain⟨nb,rfl,hnb⟩:=id hn;obtain⟨iv,e1,ia,uv,pv,rfl,e2,e3,⟨pb,rfl,e4⟩⟩:=aC R hl;refine⟨_,(aQ (q_a (am (lZ (K:=K) rfl) (bp hr.units (zl (K:=K) rfl (q_v 1)) (q_v 0)) (dR Ib)) (q_a (q_v 0) ah))),?_⟩;refine⟨_,rfl,p,C,dx,_,_,rfl,h1,T.cl,T.nH,aS _ _,_,rfl,d,.ref ia,rfl,e1▸DGet.t (k:=nk n) h2 hnb,?_⟩;refine⟨ia,_,_,_,rfl,rfl,JF e2,at1,_,rfl,sz rfl,λt gt=>?_⟩;have wt:=af gt (.tup [.ref pb,.ref nb]);exact q _ _ wt ⟨t,pb,nb,rfl,ac,wt _ _ e4,wt _ _ hnb⟩
def I0:Nm×It:=((0,0),⟨none,[],"",false,none,false⟩)
def leP(x y:Nm×It):Prop:=HT.lexLt (kyP y).nums (kyP x).nums=false
theorem Bm{ol:Ol}{p:Jo}(hp:POk ol.length p)(hs:LS (λi j=>HT.lexLt (((ol.map kyP).map ZKey.nums).getD i []) (((ol.map kyP).map ZKey.nums).getD j [])) p ol.length):(p.toList.map λi=>ol.getD i I0).Pairwise leP/\(p.toList.map λi=>ol.getD i I0).Perm ol:=by
 have ep:p.toList.Perm (List.range ol.length):=by have:=Array.perm_iff_toList_perm.mp hp;simpa using this
 refine⟨?_,?_⟩
 ·rw[List.pairwise_map];have hz:p.size=ol.length:=by have:=hp.size_eq;simpa using this
  rw[List.pairwise_iff_getElem];intro i j hi hj hij;rw[Zx]at hi hj;have lx:=(hs i j hij (by omega)).1;have e1:gA p i=p.toList[i]'(by rw[Zx];exact hi):=by rw[mi,Zv,Zd (by rw[Zx];exact hi)];rfl
  have e2:gA p j=p.toList[j]'(by rw[Zx];exact hj):=by rw[mi,Zv,Zd (by rw[Zx];exact hj)];rfl
  have m1:p.toList[i]'(by rw[Zx];exact hi)<ol.length:=Yv.mp (ep.mem_iff.mp (Z9 _));have m2:p.toList[j]'(by rw[Zx];exact hj)<ol.length:=Yv.mp (ep.mem_iff.mp (Z9 _));dsimp only at lx;rw[e1,e2]at lx;generalize p.toList[i]'(by rw[Zx];exact hi)=a at *;generalize p.toList[j]'(by rw[Zx];exact hj)=b at *;have ga:∀k,k<ol.length->((ol.map kyP).map ZKey.nums).getD k []=(kyP (ol.getD k I0)).nums:=λk hk=>by simp[hk]
  rw[ga a m1,ga b m2]at lx;exact lx
 ·have:=ep.map λi=>ol.getD i I0;have e:((List.range ol.length).map λi=>ol.getD i I0)=ol:=by refine List.ext_getElem (by simp) λi h1 h2=>?_;simp[h2]
  rw[e]at this;exact this
abbrev KsAt(H:Hp)(M:Ol)(ks:JK):Prop:=Paired (λx v=>NameIs H v (nk x.1)) M ks
theorem KsAt.ts{H H':Hp}{M:Ol}{ks:JK}(x:KsAt H M ks)(s:TS H H'):KsAt H' M ks:=Paired.mapP x λ_ _ z=>z.ts' s
theorem ko{H H':Hp}{kvs:JJ}{ol:Ol}{ks:JK}(x:dh H kvs ks)(r:Rows H' kvs ol):KsAt H ol ks:=by
 induction x generalizing ol with
 |nil=>cases r;exact .nil
 |cons h _ ih =>
  cases r with
  |cons a b =>obtain⟨c,rfl,hc⟩:=h;exact .cons ⟨c,rfl,by rw[<-a.1];exact hc⟩ (ih b)
theorem jG{H:Hp}{M:Ol}{ks:JK}(x:KsAt H M ks):∀(i:Nat) (v:V),ks[i]?=some v->∃m,M[i]?=some m/\NameIs H v (nk m.1):=by
 induction x with
 |nil=>intro i v h;simp at h
 |cons h _ ih =>
  intro i v hv;cases i with
  |zero=>cases hv;exact⟨_,rfl,h⟩
  |succ i=>exact ih i v hv
theorem uR{H:Hp}{M:Ol}{ks:JK}(x:KsAt H M ks):∀(l:Js),(∀i∈l,i<M.length)->KsAt H (l.map λi=>M.getD i I0) (l.map λi=>ks.getD i .non):=λl=>by
 induction l with
 |nil=>intro _;exact .nil
 |cons i l ih =>
  intro h;have hi:=h i Zl;have hk:i<ks.length:=by rw[<-Zu x];exact hi
  obtain⟨m,hm,hn⟩:=jG x i _ (Zd hk);refine .cons ?_ (ih λj hj=>h j (Zf _ hj));dsimp only;rw[Zv,Zv,hm,Zd hk];exact hn
theorem cX{T:Jy}{H H':Hp}{q:Str}{pos:Pos}(s:SameT T H H')(tab:aH q T pos H):TS H H':=λa zs e=>s _ _ e λz=>by obtain⟨ps,e1,_⟩:=tab;rw[z,e1]at e;cases e
theorem PlainAt.sameT{C T:Jy}{H H':Hp}{p d g:Jy}{kvs gvs:JJ}{q:Str}{pos:Pos}(x:PlainAt C H p d g kvs gvs)(s:SameT T H H')(tab:aH q T pos H):PlainAt C H' p d g kvs gvs:=by
 obtain⟨⟨dx,h1⟩,h2,h3,h4⟩:=x;obtain⟨ps,e1,_⟩:=tab;refine⟨⟨dx,s _ _ h1 λz=>?_⟩,s _ _ h2 λz=>?_,s _ _ h3 λz=>?_,h4⟩
 ·rw[z,e1]at h1;cases h1
 ·rw[z,e1]at h2;cases h2
 ·rw[z,e1]at h3;cases h3
theorem OlAt.sameT{C T:Jy}{H H':Hp}{p d g:Jy}{ol:Ol}{q:Str}{pos:Pos}(x:OlAt C H p d g ol)(s:SameT T H H')(tab:aH q T pos H):OlAt C H' p d g ol:=by obtain⟨kvs,gvs,a,b⟩:=x;exact⟨kvs,gvs,a.sameT s tab,b.ts (cX s tab)⟩
theorem GoneAt.sameT{T:Jy}{H H':Hp}{g:Jy}{gs:As Unit}{q:Str}{pos:Pos}(x:GoneAt H g gs)(s:SameT T H H')(tab:aH q T pos H):GoneAt H' g gs:=by obtain⟨gvs,h1,h2⟩:=x;obtain⟨ps,e1,_⟩:=tab;exact⟨gvs,s _ _ h1 (λz=>by rw[z,e1]at h1;cases h1),h2⟩
theorem aV{β:Type}{l:As β}(nd:(l.map (·.1)).Nodup){i:Nat}{x:Nm×β}(h:l[i]?=some x):look l x.1=some x.2:=by
 induction l generalizing i with
 |nil=>simp at h
 |cons y r ih =>
  rw[Zk,ZG]at nd;unfold look;cases i with
  |zero=>cases h;rw[Jg rfl]
  |succ i =>have h:r[i]?=some x:=h;rw[Jf fun(z:y.1=x.1)=>nd.1 (by rw[z];exact Yq (ZH h))];exact ih nd.2 h
inductive spSorted(C T:Jy)(vs:JK)(H:Hp)(Q:VK)(E_:XK):Prop
 |mk (p d g:Jy) (ol:Ol) (h0:vs=[.ref p]) (h1:OlAt C H p d g ol) (h2:ol.length<=60) (h3:(ol.map (·.1)).Nodup) (h4:aH bX T (cc bO) H) (h5:∀(D:Jy) (H':Hp) (M:Ol) (ks:JK),M.Perm ol->M.Pairwise leP->SameT T H H'->aH bX T (cc bO) H'->H D=none->H' D=some (.lst ks)->KsAt H' M ks->Q (.ref D) H'):spSorted C T vs H Q E_
theorem je{H H':Hp}{D:Jy}{T:Jy}(s:SameT T H H')(h:H' D=none)(hT:∃o,H' T=some o):H D=none:=by
 cases e:H D with
 |none=>rfl
 |some o =>
  by_cases z:D=T
  ·obtain⟨o',ho⟩:=hT;rw[z,ho]at h;cases h
  ·rw[s _ _ e z]at h;cases h
theorem aR{q:Str}{T:Jy}{pos:Pos}{H H':Hp}(h:aH q T pos H)(s:Same H H'):aH q T pos H':=by obtain⟨ps,e1,e2,e3⟩:=h;exact⟨ps,s _ _ e1,e2,e3.imp id fun⟨c,z1,z2⟩=>⟨c,z1,s _ _ z2⟩⟩
theorem jL{f C0 c0 T:Jy}{fd:Jp}{tk:Tok}(F:Fun K "sorted_names" "Plain.sorted_names" cR f fd)(hcode:fd.code=.ref c0)(C:CodeHd base c0 T)(B:Blt base mg)(a7:Txt K C0)(Ib:mg "PLACE" = some (.int 1 tk))(i7:mg "sorted" = none):FnOk P w K mg base CX0 5 f fd ["self"] (spSorted C0 T):=by
 have cY:=cY (P:=P) (w:=w) (K:=K) (mg:=mg) (base:=base) a7 Ib;refine F.okC hcode jP (λvs H Q E h=>?_) (λA outer s H vs Q E hr h=>?_)
 ·obtain⟨p,d,g,ol,rfl,_⟩:=h;rfl
 obtain⟨p,d,g,ol,rfl,hO,hl,nd,tab,q⟩:=h;obtain⟨kvs,gvs,S,R⟩:=id hO;obtain⟨⟨dx,h1⟩,h2,h3,h4⟩:=id S;refine⟨_,(b_1 (aD (Bf (j:=0) rfl i7 rfl C B (cY) (hr.mono (by decide)) (q_a (bS (q_v 0)) ah) rfl rfl rfl rfl))),?_⟩;refine⟨_,rfl,p,C0,dx,_,_,rfl,h1,a7.cl,a7.nH,aS _ _,d,kvs,.ref p,rfl,rfl,h2,tab,λks H2 sT tab2 kat=>?_⟩;have O2:=hO.sameT sT tab;have ka:=ko kat R;have lk:ks.length=ol.length:=(Zu ka).symm;refine⟨by omega,ol.map kyP,by rw[Ze,lk],λk hk=>?_,λi v key H' hv hk sm R' kR=>?_,λpp H3 D hp hs sm gD=>?_⟩
 ·obtain⟨x,_,rfl⟩:=ZF.mp hk;exact⟨_,_,rfl⟩
 ·obtain⟨m,hm,hn⟩:=jG ka i v hv;rw[ZE,hm]at hk;cases hk;exact⟨p,d,g,ol,v,m.1,m.2,rfl,rfl,O2.same sm,hn.ts' (λa zs e=>sm _ _ e),aV nd hm,λkv' H'' s' a=>kR kv' H'' s' a⟩
 ·rw[lk]at hp hs;obtain⟨so,pe⟩:=Bm hp hs;have pl:∀i∈pp.toList,i<ol.length:=λi hi=>by have:=(hp.mem_iff).mp (YB.mp hi);simpa using this
  have wD:=af gD (.lst (pp.toList.map λi=>ks.getD i .non));have tab3:=aR tab2 sm;have s03:SameT T H H3:=sT.trans (.of sm);refine q D _ _ _ pe so (s03.trans (.of wD)) (aR tab3 wD) (je s03 gD ?_) ac ((uR (ka.ts λa zs e=>sm _ _ e) _ pl).ts λa zs e=>wD _ _ e);obtain⟨ps,e1,_⟩:=tab3;exact⟨_,e1⟩
def grp(M:Ol)(u:Option Nm):Ol:=M.filter λx=>decide (x.2.up=u)
def upK(u:Option Nm):Option (List Key):=u.map nk
theorem vE{u v:Option Nm}(h:upK u=upK v):u=v:=by
 cases u with
 |none=>cases v with
  |none=>rfl
  |some n=>cases h
 |some m=>cases v with
  |none=>cases h
  |some n=>rw[jI (Zb h)]
structure LowAt(P:Jt)(w:Jx)(H:Hp)(D:Jy)(M:Ol)(kls:List (OK1×Jy)):Prop where
 od:OdAt P w H D kls
 gr:∀e∈kls,∃(u:Option Nm) (ks:JK),okD e.1=upK u/\H e.2=some (.lst ks)/\KsAt H (grp M u) ks
 al:∀m∈M,(bR kls (upK m.2.up)).isSome=true
structure LowI(P:Jt)(w:Jx)(H2 H:Hp)(D:Jy)(M:Ol)(kls:List (OK1×Jy)):Prop where
 lo:LowAt P w H D M kls
 nl:∀e∈kls,H2 e.2=none
 nd:(kls.map (·.2)).Nodup
 le:kls.length<=M.length
theorem UpAt.key{H:Hp}{v:V}{u:Option Nm}(h:UpAt H v u):∃e:OK1,lc H v e/\okD e=upK u:=by
 cases u with
 |none=>exact⟨none,h,rfl⟩
 |some n =>obtain⟨b,rfl,hb⟩:=h;exact⟨some (nk n,b),⟨rfl,hb⟩,rfl⟩
theorem ky{kls:List (OK1×Jy)}{k:Option (List Key)}{l:Jy}(h:bR kls k=some l):∃e∈kls,okD e.1=k/\e.2=l:=by unfold bR at h;obtain⟨e,he,rfl⟩:=ZZ.mp h;have:=List.find?_some he;exact⟨e,List.mem_of_find?_eq_some he,ZY this,rfl⟩
theorem oV{kls:List (OK1×Jy)}{k:Option (List Key)}{e:OK1}{l:Jy}(h:(bR kls k).isSome=true\/okD e=k):(bR (kls++[(e,l)]) k).isSome=true:=by
 unfold bR at *;rw[List.find?_append];rcases h with h|h
 ·obtain⟨x,hx⟩:=Zh.mp h;obtain⟨y,hy,_⟩:=ZZ.mp hx;rw[hy];rfl
 ·cases hf:kls.find? (λe=>decide (okD e.1=k))with
  |some y=>rfl
  |none=>simp[h]
theorem gv(M:Ol)(m:Nm×It)(u:Option Nm):grp (M++[m]) u=if m.2.up=u then grp M u++[m]else grp M u:=by
 unfold grp;rw[Yx];by_cases h:m.2.up=u
 ·rw[Jg h,Yd (by simp[h])];rfl
 ·rw[Jf h,Yn (by simp[h])];simp
theorem KsAt.snoc{H:Hp}{M:Ol}{ks:JK}{m:Nm×It}{v:V}(x:KsAt H M ks)(h:NameIs H v (nk m.1)):KsAt H (M++[m]) (ks++[v]):=by
 induction x with
 |nil=>exact .cons h .nil
 |cons a _ ih=>exact .cons a ih
theorem wY{P:Jt}{w:Jx}{H H':Hp}{D:Jy}{kls:List (OK1×Jy)}(x:OdAt P w H D kls)(h:H' D=H D)(s:TS H H'):OdAt P w H' D kls:=⟨h.trans x.ob,λe he p hp=>s _ _ (x.ks e he p hp),x.nd⟩
theorem sU{α β:Type}{f:α->β}{l:List α}(nd:(l.map f).Nodup){a b:α}(ha:a∈l)(hb:b∈l)(h:f a=f b):a=b:=by
 induction l with
 |nil=>cases ha
 |cons x r ih =>
  rw[Zk,ZG]at nd;rcases Zj.mp ha with rfl|ha'
  ·rcases Zj.mp hb with rfl|hb'
   ·rfl
   ·exact absurd (by rw[h];exact Yq hb') nd.1
  ·rcases Zj.mp hb with rfl|hb'
   ·exact absurd (by rw[<-h];exact Yq ha') nd.1
   ·exact ih nd.2 ha' hb'
theorem AQ{kls:List (OK1×Jy)}{k:Option (List Key)}(h:bR kls k=none):∀e∈kls,okD e.1≠k:=λe he z=>by unfold bR at h;rw[Option.map_eq_none_iff,List.find?_eq_none]at h;exact h e he (by simp[z])
theorem LowAt.same{H H':Hp}{D:Jy}{M:Ol}{kls:List (OK1×Jy)}(x:LowAt P w H D M kls)(s:Same H H'):LowAt P w H' D M kls :=
 ⟨⟨s _ _ x.od.ob,λe he p hp=>s _ _ (x.od.ks e he p hp),x.od.nd⟩,λe he=>by
  obtain⟨u,ks,h1,h2,h3⟩:=x.gr e he;exact⟨u,ks,h1,s _ _ h2,h3.ts (JE s)⟩,x.al⟩
theorem LowI.same{H2 H H':Hp}{D:Jy}{M:Ol}{kls:List (OK1×Jy)}(x:LowI P w H2 H D M kls)(s:Same H H'):LowI P w H2 H' D M kls:=⟨x.lo.same s,x.nl,x.nd,x.le⟩
theorem wV{P:Jt}{w:Jx}{H:Hp}{D l:Jy}{kls:List (OK1×Jy)}{ks:JK}(h:H D=some (odO P w D kls))(h2:H l=some (.lst ks)):D≠l:=λz=>by rw[z,h2]at h;unfold odO at h;cases h
theorem dC{H:Hp}{l:Jy}{ks ks':JK}(h:H l=some (.lst ks)):TS H (upd H l (.lst ks')):=λa zs e=>by rw[ad (cV e h nofun)];exact e
theorem LowI.old{H2 H:Hp}{D l:Jy}{M:Ol}{kls:List (OK1×Jy)}{m:Nm×It}{v:V}(x:LowI P w H2 H D M kls)(hl:bR kls (upK m.2.up)=some l)(hv:NameIs H v (nk m.1)) :
  ∃ks,H l=some (.lst ks)/\ks.length<=M.length/\H2 l=none/\LowI P w H2 (upd H l (.lst (ks++[v]))) D (M++[m]) kls:=by
 obtain⟨e,he,hk,rfl⟩:=ky hl;obtain⟨u,ks,h1,h2,h3⟩:=x.lo.gr e he;have hu:u=m.2.up:=vE (h1.symm.trans hk);subst hu;have ts:=dC (ks':=ks++[v]) h2;refine⟨ks,h2,by rw[<-Zu h3];exact ZJ _ _,x.nl e he,⟨wY x.lo.od (ad (wV x.lo.od.ob h2)) ts,λe' he'=>?_,λy hy=>?_⟩,x.nl,x.nd,by rw[Zn];exact Zr x.le (Nat.le_add_right _ _)⟩
 ·by_cases z:e'.2=e.2
  ·have:=sU x.nd he' he z;subst this;refine⟨m.2.up,ks++[v],h1,ac,?_⟩;rw[gv,Jg rfl];exact(h3.ts ts).snoc (hv.ts' ts)
  ·obtain⟨u',ks',g1,g2,g3⟩:=x.lo.gr e' he';refine⟨u',ks',g1,by rw[ad z];exact g2,?_⟩;rw[gv,Jf λy=>z ?_]
   ·exact g3.ts ts
   ·have:okD e'.1=okD e.1:=by rw[g1,h1,y]
    rw[sU (f:=λe=>okD e.1) x.lo.od.nd he' he this]
 ·rcases ZC.mp hy with hy|hy
  ·exact x.lo.al y hy
  ·rw[Zq]at hy;subst hy;rw[hl];rfl
theorem LowI.new{H2 H:Hp}{D l0:Jy}{M:Ol}{kls:List (OK1×Jy)}{m:Nm×It}{v uv:V}{e:OK1}(x:LowI P w H2 H D M kls)(hl:bR kls (upK m.2.up)=none)(hv:NameIs H v (nk m.1))(hk:lc H uv e)(he:okD e=upK m.2.up)(g0:H l0=none)(b:But D H2 H) :
  H2 l0=none/\l0≠D/\LowI P w H2 (upd (upd (upd H l0 (.lst [])) D (odO P w D (kls++[(e,l0)]))) l0 (.lst [v])) D (M++[m]) (kls++[(e,l0)]):=by
 have nD:l0≠D:=λz=>by rw[z,x.lo.od.ob]at g0;cases g0
 have n2:H2 l0=none:=by
  cases z:H2 l0 with
  |none=>rfl
  |some o=>rw[b _ _ z nD]at g0;cases g0
 have keep:∀a o,H a=some o->a≠D->upd (upd (upd H l0 (.lst [])) D (odO P w D (kls++[(e,l0)]))) l0 (.lst [v]) a=some o:=λa o ea ha=>by
  have nl:a≠l0:=λz=>by rw[z,g0]at ea;cases ea
  rw[ad nl,ad ha,ad nl];exact ea
 have ts:TS H (upd (upd (upd H l0 (.lst [])) D (odO P w D (kls++[(e,l0)]))) l0 (.lst [v])):=λa zs ea=>keep a _ ea λz=>by have:=x.lo.od.ob;rw[z,this]at ea;unfold odO at ea;cases ea
 have no:=AQ hl;refine⟨n2,nD,⟨⟨by rw[ad (Zs nD)];exact ac,λe' he' p hp=>?_,?_⟩,λe' he'=>?_,λy hy=>?_⟩,λe' he'=>?_,?_,?_⟩
 ·rcases ZC.mp he' with he'|he'
  ·exact ts _ _ (x.lo.od.ks e' he' p hp)
  ·rw[Zq]at he';subst he';obtain rfl:e=some p:=hp;exact ts _ _ hk.2
 ·rw[ZN,List.nodup_append];refine⟨x.lo.od.nd,by simp,λa ha c hc z=>?_⟩;simp only[Zk,List.map_nil,Zq]at hc;obtain⟨e',he',rfl⟩:=ZF.mp ha;exact no e' he' (by rw[<-he,<-hc];exact z)
 ·rcases ZC.mp he' with he'|he'
  ·obtain⟨u',ks',g1,g2,g3⟩:=x.lo.gr e' he';refine⟨u',ks',g1,keep _ _ g2 (Zs (wV x.lo.od.ob g2)),?_⟩;rw[gv,Jf λz=>no e' he' (by rw[g1,z])];exact g3.ts ts
  ·rw[Zq]at he';subst he';refine⟨m.2.up,[v],he,ac,?_⟩;have em:grp M m.2.up=[]:=by unfold grp;rw[YL];intro y hy z;have:=x.lo.al y hy;rw[ZY z,hl]at this;cases this
   rw[gv,Jg rfl,em];exact .cons (hv.ts' ts) .nil
 ·rcases ZC.mp hy with hy|hy
  ·exact oV (.inl (x.lo.al y hy))
  ·rw[Zq]at hy;subst hy;exact oV (.inr he)
 ·rcases ZC.mp he' with he'|he'
  ·exact x.nl e' he'
  ·rw[Zq]at he';subst he';exact n2
 ·rw[ZN,List.nodup_append];refine⟨x.nd,by simp,λa ha c hc z=>?_⟩;simp only[Zk,List.map_nil,Zq]at hc;obtain⟨e',he',rfl⟩:=ZF.mp ha;obtain⟨_,_,_,g2,_⟩:=x.lo.gr e' he';rw[z,hc,g0]at g2;cases g2
 ·rw[Zn,Zn];exact Nat.add_le_add x.le (Za _)
def cZ(gs:As Unit)(x:Nm×It):Bool:=!(look gs x.1).isSome
inductive spLower(P:Jt)(w:Jx)(C T:Jy)(vs:JK)(H:Hp)(Q:VK)(E_:XK):Prop
 |mk (p d g:Jy) (ol:Ol) (gs:As Unit) (h0:vs=[.ref p]) (h1:OlAt C H p d g ol) (h2:GoneAt H g gs) (h3:ol.length<=60) (h4:(ol.map (·.1)).Nodup) (h5:aH bX T (cc bO) H) (h6:∀(D:Jy) (H':Hp) (M:Ol) (kls:List (OK1×Jy)),M.Perm ol->M.Pairwise leP->SameT T H H'->aH bX T (cc bO) H'->H D=none->kls.length<=60->LowAt P w H' D (M.filter (cZ gs)) kls->Q (.ref D) H'):spLower P w C T vs H Q E_
def qm(n:Nat)(o:Obj):JB:=⟨Array.replicate n o,{}⟩
theorem Bh{n:Nat}{o:Obj}(hf:∀c d s,o≠⟨c,d,.freed,s⟩){a:Jy}{o':Obj}(h:(qm n o).get? a=some o'):o'=o:=by
 unfold qm Heap.get? at h;dsimp only at h;by_cases ha:a<n
 ·rw[Yj (by simpa using ha),Array.getElem_replicate]at h;split at h
  ·cases h
  ·exact(Zb h).symm
 ·rw[Array.getElem?_eq_none (by simpa using ha)]at h;cases h
theorem vy{n:Nat}{o:Obj}(hf:∀c d s,o≠⟨c,d,.freed,s⟩){a:Jy}(ha:a<n):(qm n o).get? a=some o:=by
 unfold qm Heap.get?;dsimp only;rw[Yj (by simpa using ha),Array.getElem_replicate];split
 ·rename_i z;exact absurd (Zb z) (hf _ _ _)
 ·rfl
theorem GE{D c:Jy}{q:Str}{kls:List (OK1×Jy)}:odO P w D kls≠fD c q:=λz=>by
 unfold odO fD at z;injection z with z;by_cases hs:(D==sysModules)=false
 ·have e:=congrFun z (qm (D+1) { cls:=.type "dict",data:=.dict (((kls.map oE).map (eY P w)).toArray) 0 });have:=e.mp ⟨hs,_,_,_,vy (by intro _ _ _ y;cases y) (Ye D),⟨rfl,rfl,rfl⟩,rfl,by simp⟩;obtain⟨c',o,vs,t,e1,e2,e3,e4⟩:=this;have:=Bh (by intro _ _ _ y;cases y) e2;rw[this]at e3;cases e3
 ·have e:=congrFun z (qm (c+1) { cls:=.none,data:=.fields #[.none,.str q 0] });have:=e.mpr ⟨c,_,_,_,rfl,vy (by intro _ _ _ y;cases y) (Ye c),rfl,rfl⟩;exact hs this.1
theorem vW{CX:CXT}{N:Jr}{qual:Str}{scope:Scope}{f:Jy}{cd:Jw}{A:Jv}{outer:List Env}{s:Ju}{H:Hp}{E:XK}:(fA CX P w K mg base N qual scope f cd A outer s H E).nox.prog=P:=rfl
theorem vX{CX:CXT}{N:Jr}{qual:Str}{scope:Scope}{f:Jy}{cd:Jw}{A:Jv}{outer:List Env}{s:Ju}{H:Hp}{E:XK}:(fA CX P w K mg base N qual scope f cd A outer s H E).nox.w=w:=rfl
abbrev dU:JA:=bG (top 15) 17
abbrev kQ:Jr:=["self","lower","name"]
theorem dH:FnScope kQ ["self"] (aj dU):=⟨rfl,rfl,rfl,by decide,rfl,by decide,by decide⟩
theorem kz{f C T:Jy}{fd:Jp}{tk:Tok}(F:Fun K "lower_names" "Plain.lower_names" dU f fd)(a7:Txt K C)(d6:MFn P w K mg base 5 C "sorted_names" ["self"] (spSorted C T))(d8:mg "UP" = some (.int 0 tk)):FnOk P w K mg base CX0 6 f fd ["self"] (spLower P w C T):=by
 refine F.okQ dH (λvs H Q E h=>?_) (λcdv A outer s H vs Q E hr h=>?_)
 ·obtain⟨p,d,g,ol,gs,rfl,_⟩:=h;rfl
 obtain⟨p,d,g,ol,gs,rfl,hO,hG,hl,nd,tab,q⟩:=h;refine⟨_,(b_c (au (i:=1) dH.nd BQ)
   (b_c (eV ZX rfl (fh (gH d6 (hr.mono (by decide)) (q_v 0))) (bv (i:=2) dH.nd) (b_1 (aI (gK hr.units (q_v 2) (bS (q_v 0))) (b_1 (bC (io (rc hr.units (q_v 1) (am aq (bp hr.units (bS (q_v 0)) (q_v 2)) (dR d8)) (aW ah)) (q_v 2)))) b_0)))
   (b_1 (aD (q_v 1))))),?_⟩
 try rw[cxK]
 rw[vW,vX];intro D gD;have wD:=af gD (odO P w D []);have eD:upd H D (odO P w D []) D=some (odO P w D []):=ac;generalize upd H D (odO P w D [])=H1 at wD eD ⊢;have O1:=hO.same wD;have tab1:=aR tab wD;obtain⟨kvs1,gvs1,S1,R1⟩:=id O1;obtain⟨⟨dx,h1⟩,h2,h3,h4⟩:=id S1;refine⟨_,rfl,p,dx,_,rfl,h1,iA _ _ (by decide) (by decide),p,d,g,ol,rfl,O1,hl,nd,tab1,λL H2 M ks pe so s12 tab2 gL eL ka=>?_⟩;refine⟨L,rfl,⟨ks,JG eL⟩,?_⟩;have O2:=O1.sameT s12 tab1;have hG2:=(hG.same wD).sameT s12 tab1;have nDT:D≠T:=λz=>by obtain⟨ps,e1,_⟩:=tab1;rw[z,e1]at eD;cases eD
 have eD2:=s12 _ _ eD nDT;have nLD:L≠D:=λz=>by rw[z,eD]at gL;cases gL
 have lM:M.length<=60:=by rw[pe.length_eq];exact hl
 have lks:=Zu ka;refine iY (xs:=ks) (λi σ H'=>But D H2 H'/\∃(kls:List (OK1×Jy)) (o:Option V),LowI P w H2 H' D ((M.take i).filter (cZ gs)) kls/\σ=[some (.ref p),some (.ref D),o]) ⟨λ_ _ z _=>z,[],none,⟨⟨⟨eD2,(λe he=>by cases he),.nil⟩,(λe he=>by cases he),(λm hm=>by simp at hm)⟩,(λe he=>by cases he),.nil,ZM _⟩,rfl⟩ (λi σ H' _ hP=>JG (hP.1 _ _ eL nLD)) (λi v σ H' hv hP D' kD=>?_) (λσ H' hP=>?_)
 ·obtain⟨bt,kls,o,lo,rfl⟩:=hP;obtain⟨m,hm,hn⟩:=jG ka i v hv;obtain⟨gvs0,hg0,Rg⟩:=id hG2;obtain⟨kvs,gvs,S,R⟩:=id O2;have ts2:TS H2 H':=λa zs e=>bt _ _ e λz=>by rw[z,eD2]at e;unfold odO at e;cases e
  have nd':∀{a:Jy} {o:HO},H2 a=some o->o≠odO P w D []->H' a=some o:=λe ne=>bt _ _ e λz=>ne (by rw[z,eD2]at e;exact(Zb e).symm);obtain⟨⟨dx',k1⟩,k2,k3,k4⟩:=id S;have k1':=nd' k1 (by unfold odO;intro z;cases z);have k2':=nd' k2 (by unfold odO;intro z;cases z);have k3':=nd' k3 (by unfold odO;intro z;cases z);have hmo:m∈ol:=pe.mem_iff.mp (ZH hm);obtain⟨jj,hj⟩:=Zt.mp hmo;obtain⟨iv,e1,ia,uv,pv,rfl,e2,e3,e4⟩:=aC R (aV nd hj);have hn':=hn.ts' ts2;obtain⟨nb,rfl,hnb⟩:=id hn';have eg:gvs0=gvs:=by rw[k3]at hg0;injection hg0 with hg0;injection hg0 with hg0;exact hg0.symm
  subst eg;have lt:(M.take i).length<=60:=Zr (List.length_take_le' _ _) lM;have lt2:((M.take i).filter (cZ gs)).length<=60:=Zr (ZJ _ _) lt;have et0:M.take (i+1)=M.take i++[m]:=by rw[Ym,hm];rfl
  refine⟨_,rfl,_,rfl,p,C,dx',_,_,rfl,k1',a7.cl,a7.nA,iX _ _,g,_,rfl,DGet.t (k:=nk m.1) k3' hnb,_,rfl,?_⟩;rw[eU Rg];cases hvis:(look gs m.1).isSome with
  |true =>refine aw (kD _ _ ⟨bt,kls,_,?_,rfl⟩);rw[et0,Yx,Yn (by simp[cZ,hvis]),List.filter_nil,ZR];exact lo
  |false =>
  refine bn ?_;have et:(M.take (i+1)).filter (cZ gs)=(M.take i).filter (cZ gs)++[m]:=by rw[et0,Yx,Yd (by simp[cZ,hvis]),List.filter_nil]
  obtain⟨ke,hk,hke⟩:=(e3.ts ts2).key;refine⟨_,rfl,D,rfl,⟨kls,lo.lo.od.ob⟩,?_⟩;refine⟨_,rfl,p,C,dx',_,_,rfl,k1',a7.cl,a7.nH,aS _ _,_,rfl,d,.ref ia,rfl,e1▸DGet.t (k:=nk m.1) k2' hnb,?_⟩;refine⟨ia,_,_,_,rfl,rfl,JF (ts2 _ _ e2),at0,sz rfl,λl0 g0=>?_⟩;have w0:=af g0 (.lst []);have lo0:=lo.same w0;have hk0:lc (upd H' l0 (.lst [])) uv ke:=by
   cases ke with
   |none=>exact hk
   |some q=>exact⟨hk.1,w0 _ _ hk.2⟩
  refine⟨kls,ke,l0,lo0.lo.od,hk0,rfl,(by have:=lo.le;omega),λl hl'=>?_,λhl'=>?_⟩
  ·rw[hke]at hl';obtain⟨ks',f1,f2,f3,f4⟩:=lo0.old hl' (hn'.ts' (JE w0));refine⟨.inl ⟨rfl,_,JG f1⟩,_,rfl,l,_,_,rfl,rfl,f1,bD (by omega),kD _ _ ⟨λb ob eb hb=>?_,kls,_,by rw[et];exact f4,rfl⟩⟩;have hbl:b≠l:=λz=>by rw[z,f3]at eb;cases eb
   rw[ad hbl];exact w0 _ _ (bt _ _ eb hb)
  ·rw[hke]at hl';obtain⟨n2,nD0,f4⟩:=lo.new hl' hn' hk hke g0 bt;refine⟨.inl ⟨rfl,[],JG (by rw[ad nD0];exact ac)⟩,_,rfl,l0,[],_,rfl,rfl,by rw[ad nD0];exact ac,sz rfl,kD _ _ ⟨λb ob eb hb=>?_,_,_,by rw[et];exact f4,rfl⟩⟩;have hbl:b≠l0:=λz=>by rw[z,n2]at eb;cases eb
   rw[ad hbl,ad hb,ad hbl];exact bt _ _ eb hb
 ·obtain⟨bt,kls,o,lo,rfl⟩:=hP;have ml:M.take ks.length=M:=ZA (by omega);rw[ml]at lo;have nTD:T≠D:=Zs nDT;have tab3:aH bX T (cc bO) H':=by obtain⟨ps,t1,t2,t3⟩:=tab2;refine⟨ps,bt _ _ t1 nTD,t2,t3.imp id fun⟨c,z1,z2⟩=>⟨c,z1,bt _ _ z2 λz=>?_⟩⟩;rw[z,eD2]at z2;exact GE (Zb z2)
  exact⟨_,rfl,q D H' M kls pe so (λb ob eb hb=>bt _ _ (s12 _ _ (wD _ _ eb) hb) λz=>by rw[z,gD]at eb;cases eb) tab3 gD (Zr lo.le (Zr (ZJ _ _) lM)) lo.lo⟩
abbrev DI:=Int×(Nm×It)
inductive Dfs(M:Ol):List DI->List DI->Nat->Prop
 |nil:Dfs M [] [] 0
 |cons {d:Int} {m:Nm×It} {rest out:List DI} {k:Nat} (h:Dfs M ((grp M (some m.1)).map (λx=>(d+1,x))++rest) out k):Dfs M ((d,m)::rest) ((d,m)::out) (k+1)
theorem Dfs.le{M:Ol}{st out:List DI}{k:Nat}(h:Dfs M st out k):st.length<=k:=by
 induction h with
 |nil=>exact Za _
 |cons _ ih =>rw[Zn]at ih;rw[Zw];omega
theorem Dfs.len{M:Ol}{st out:List DI}{k:Nat}(h:Dfs M st out k):out.length=k:=by
 induction h with
 |nil=>rfl
 |cons _ ih=>rw[Zw,ih]
inductive SkAt(H:Hp)(v:V)(x:DI):Prop
 |mk (a:Jy) (nv:V) (h0:v=.ref a) (h1:H a=some (.tup [.int x.1,nv])) (h2:NameIs H nv (nk x.2.1)):SkAt H v x
inductive RwAt(H:Hp)(v:V)(x:DI):Prop
 |mk (a:Jy) (nv:V) (h0:v=.ref a) (h1:H a=some (.tup [.int x.1,nv,.str x.2.2.tx,.bl x.2.2.dn,whV x.2.2.wh,.bl x.2.2.fo])) (h2:NameIs H nv (nk x.2.1)):RwAt H v x
abbrev SksAt(H:Hp)(xs:List DI)(vs:JK):Prop:=Paired (λx v=>SkAt H v x) xs vs
abbrev RwsAt(H:Hp)(xs:List DI)(vs:JK):Prop:=Paired (λx v=>RwAt H v x) xs vs
theorem SkAt.ts{H H':Hp}{v:V}{x:DI}(h:SkAt H v x)(s:TS H H'):SkAt H' v x:=by obtain⟨a,nv,h1,h2,h3⟩:=h;exact⟨a,nv,h1,s _ _ h2,h3.ts' s⟩
theorem RwAt.ts{H H':Hp}{v:V}{x:DI}(h:RwAt H v x)(s:TS H H'):RwAt H' v x:=by obtain⟨a,nv,h1,h2,h3⟩:=h;exact⟨a,nv,h1,s _ _ h2,h3.ts' s⟩
theorem SksAt.ts{H H':Hp}{xs:List DI}{vs:JK}(x:SksAt H xs vs)(s:TS H H'):SksAt H' xs vs:=Paired.mapP x λ_ _ z=>z.ts s
theorem RwsAt.ts{H H':Hp}{xs:List DI}{vs:JK}(x:RwsAt H xs vs)(s:TS H H'):RwsAt H' xs vs:=Paired.mapP x λ_ _ z=>z.ts s
theorem cO{α β:Type}{R:α->β->Prop}{a c:List α}{b d:List β}(x:Paired R a b)(y:Paired R c d):Paired R (a++c) (b++d):=by
 induction x with
 |nil=>exact y
 |cons h _ ih=>exact .cons h ih
theorem qZ{α β:Type}{R:α->β->Prop}:∀{a:List α} {x:α} {b:List β},Paired R (a++[x]) b->∃(b0:List β) (y:β),b=b0++[y]/\Paired R a b0/\R x y
 | [],x,b,h=>by
  cases h with
  |cons h1 h2 =>cases h2;exact⟨[],_,rfl,.nil,h1⟩
 |z::a,x,b,h=>by
  cases h with
  |cons h1 h2 =>obtain⟨b0,y,rfl,h3,h4⟩:=qZ h2;exact⟨_::b0,y,rfl,.cons h1 h3,h4⟩
theorem LowAt.get{H:Hp}{D:Jy}{M:Ol}{kls:List (OK1×Jy)}(x:LowAt P w H D M kls)(u:Option Nm):(∀l,bR kls (upK u)=some l->∃ks,H l=some (.lst ks)/\KsAt H (grp M u) ks)/\(bR kls (upK u)=none->grp M u=[]):=by
 refine⟨λl hl=>?_,λhl=>?_⟩
 ·obtain⟨e,he,hk,rfl⟩:=ky hl;obtain⟨u',ks,h1,h2,h3⟩:=x.gr e he;rw[<-vE (h1.symm.trans hk)];exact⟨ks,h2,h3⟩
 ·unfold grp;rw[YL];intro y hy z;have:=x.al y hy;rw[ZY z,hl]at this;cases this
theorem qL{n:Nat}{cap:Js}{te:TE}{σ:St}{H0:Hp}{Q:VK}{l:Jy}{M:Ol}{ks:JK}{d:Int}(hl:H0 l=some (.lst ks))(hk:KsAt H0 M ks)(hz:M.length<=60)(he:∀(v:V) (H:Hp),Same H0 H->∀R:VK,(∀t,H t=none->R (.ref t) (upd H t (.tup [.int d,v])))->te ((dA n cap σ).set 0 (some v)) H R)(hq:∀(ws:JK) (p:Jy) (H:Hp),Same H0 H->SksAt H (M.map λx=>(d,x)).reverse ws->H p=none->Q (.ref p) (upd H p (.lst ws))):jS n cap (dv 0) pI te σ (Itv K l ks) H0 Q:=by
 have lk:=Zu hk;refine nh (N:=ks.length) (λi ys H=>Same H0 H/\ys.length=i/\SksAt H ((M.map λx=>(d,x)).reverse.take i) ys) (by omega) (λ_ _ _ p=>p.2.1) ⟨Same.refl _,rfl,.nil⟩ (λi ys H hi hP=>⟨hi,JG (hP.1 _ _ hl)⟩) (λys H hP=>⟨rfl,JG (hP.1 _ _ hl)⟩) ?_ ?_
 ·rintro i ys H x H2 hi ⟨sm,ly,pa⟩ ⟨rfl,hx⟩ R kR;refine he x _ sm _ λt gt=>kR _ _ ?_;have wt:=af gt (.tup [.int d,x]);refine⟨sm.trans wt,by rw[Zn,ly];rfl,?_⟩;rw[List.getElem?_reverse (by simpa using hi)]at hx;obtain⟨m,hm,hn⟩:=jG hk _ x hx;have e:(M.map λx=>(d,x)).reverse[i]?=some (d,m):=by rw[List.getElem?_reverse (by rw[Ze];omega),Ze,ZE,lk,hm];rfl
  rw[Ym,e];exact cO (pa.ts (JE wt)) (.cons ⟨t,x,rfl,ac,(hn.ts' (JE sm)).ts' (JE wt)⟩ .nil)
 ·rintro ys p H ⟨sm,ly,pa⟩ gp;refine hq ys p H sm ?_ gp;rw[ZA (by rw[List.length_reverse,Ze];omega)]at pa;exact pa
theorem nz{G:Jy->Prop}{Hc:Hp}{D l0:Jy}{M:Ol}{kls:List (OK1×Jy)}{u:Option Nm}(x:LowAt P w Hc D M kls)(e0:Hc l0=some (.lst []))(h:∀(l:Jy) (ks:JK),Hc l=some (.lst ks)->KsAt Hc (grp M u) ks->G l) :
  (∀l,bR kls (upK u)=some l->G l)/\(bR kls (upK u)=none->G l0):=by
 obtain⟨a,b⟩:=x.get u;refine⟨λl hl=>?_,λhl=>?_⟩
 ·obtain⟨ks,h1,h2⟩:=a l hl;exact h l ks h1 h2
 ·exact h l0 [] e0 (by rw[b hl];exact .nil)
abbrev eK(M:Ol):List DI:=(grp M none).map λx=>(0,x)
inductive spRows(C T:Jy)(vs:JK)(H:Hp)(Q:VK)(E_:XK):Prop
 |mk (p d g:Jy) (ol:Ol) (gs:As Unit) (h0:vs=[.ref p]) (h1:OlAt C H p d g ol) (h2:GoneAt H g gs) (h3:ol.length<=60) (h4:(ol.map (·.1)).Nodup) (h5:aH bX T (cc bO) H) (h6:(∀M:Ol,M.Perm ol->∃out k,Dfs (M.filter (cZ gs)) (eK (M.filter (cZ gs))) out k/\k<=60)) (h7:∀(R:Jy) (H':Hp) (M:Ol) (out:List DI) (k:Nat) (rs:JK),M.Perm ol->M.Pairwise leP->Dfs (M.filter (cZ gs)) (eK (M.filter (cZ gs))) out k->SameT T H H'->aH bX T (cc bO) H'->H R=none->H' R=some (.lst rs)->RwsAt H' out rs->Q (.ref R) H'):spRows C T vs H Q E_
theorem Dfs.mem{M:Ol}{st out:List DI}{k:Nat}(h:Dfs M st out k):(∀x∈st,x.2∈M)->∀x∈out,x.2∈M:=by
 induction h with
 |nil=>intro _ x hx;cases hx
 |@cons d m rest out k _ ih =>
  intro hs x hx;rcases Zj.mp hx with rfl|hx
  ·exact hs _ Zl
  ·refine ih (λy hy=>?_) x hx;rcases ZC.mp hy with hy|hy
   ·obtain⟨z,hz,rfl⟩:=ZF.mp hy;exact(ZQ.mp hz).1
   ·exact hs y (Zf _ hy)
theorem rK{a b c d e f:V}:cE [a,b,c,d,e,f] (some 2) none=[c,d,e,f]:=rfl
abbrev iO:JA:=bG (top 15) 16
abbrev rY:Jr:=["self","lower","rows","ahead","following","depth","name"]
theorem cP:FnScope rY ["self"] (aj iO):=⟨rfl,rfl,rfl,by decide,rfl,by decide,by decide⟩
theorem rA{f C T:Jy}{fd:Jp}{tk:Tok}(F:Fun K "rows" "Plain.rows" iO f fd)(a7:Txt K C)(l8:MFn P w K mg base 6 C "lower_names" ["self"] (spLower P w C T))(c8:mg "TEXT" = some (.int 2 tk))(n9:mg "reversed" = none)(a8:mg "len" = none):FnOk P w K mg base CX0 7 f fd ["self"] (spRows C T):=by
 refine F.okQ cP (λvs H Q E h=>?_) (λcdv A outer s H vs Q E hr h=>?_)
 ·obtain⟨p,d,g,ol,gs,rfl,_⟩:=h;rfl
 obtain⟨p,d,g,ol,gs,rfl,hO,hG,hl,nd,tab,ex,q⟩:=h;obtain⟨kvs0,gvs0,S0,R0⟩:=id hO;obtain⟨⟨dx,h1⟩,h2,h3,h4⟩:=id S0;refine⟨_,(b_c (au (i:=1) cP.nd (gH l8 (hr.mono (by decide)) (q_v 0)))
   (b_c (au (i:=2) cP.nd (aW ah))
   (b_c (zt (j:=3) cP.nd (own:=["each"]) (⟨rfl,by decide,by decide,rfl,trivial⟩:CompOk _ _ [] []) rfl (BJ n9 (q_a (sY hr.units (q_v 1) aY (aW ah)) ah)) (λ_ _ _ _=>bv (i:=0) (show (["each"]:Jr).Nodup by decide)) (gj (by decide)) (λ_ _ _ _=>wH) (λ_ _ _ _=>(aQ (q_a ag (q_a (q_v 0) ah)))))
   (b_c (mG ZX (aB qe (q_B fO a8 Z3 (q_a (q_v 3) ah)) ag) (b_c (au (i:=4) cP.nd (Fw (q_v 3)))
   (b_c (au (i:=5) cP.nd (am aq (q_v 4) ag))
   (b_c (au (i:=6) cP.nd (am aq (q_v 4) ag))
   (b_c (bC (io (q_v 2) (ar di (aQ (q_a (q_v 5) (q_a (q_v 6) ah))) (cC bQ (bp hr.units (bS (q_v 0)) (q_v 6)) (cj (dR c8)) cG))))
   (b_1 (bC (Be (q_v 3) (lL (own:=["each"]) (⟨rfl,by decide,by decide,rfl,⟨rfl,rfl,trivial⟩⟩:CompOk _ _ [5] ["depth"]) rfl (BJ n9 (q_a (sY hr.units (q_v 1) (q_v 6) (aW ah)) ah)) (λ_ _ _ _=>bv (i:=0) (show (["each","depth"]:Jr).Nodup by decide)) (gj (by decide)) (λ_ _ _ _=>wH) (λ_ _ _ _=>(aQ (q_a (ar gZ (q_v 1) ag) (q_a (q_v 0) ah)))))))))))))
   (b_1 (aD (q_v 2))))))),?_⟩
 try rw[cxK]
 rw[vW,vX];refine⟨_,rfl,p,dx,_,rfl,h1,iA _ _ (by decide) (by decide),p,d,g,ol,gs,rfl,hO,hG,hl,nd,tab,λD H3 M0 kls pe so s03 tab3 gD lk lo=>?_⟩;obtain⟨out,k,df,k60⟩:=ex M0 pe;have lM0:M0.length<=60:=by rw[pe.length_eq];exact hl
 have mem0:∀x∈M0.filter (cZ gs),x∈ol:=λx hx=>pe.mem_iff.mp (ZQ.mp hx).1;have lM:(M0.filter (cZ gs)).length<=60:=Zr (ZJ _ _) lM0;have qq:=λR H' out k rs=>q R H' M0 out k rs pe so;clear q;clear ex so;generalize M0.filter (cZ gs)=M at df lo lM mem0 qq;have O3:=hO.sameT s03 tab;obtain⟨kvs,gvs,S,R3⟩:=id O3;obtain⟨⟨dx',k1⟩,k2,k3,k4⟩:=id S;refine⟨sz rfl,λR gR=>?_⟩;have wR:=af gR (.lst []);have eR:upd H3 R (.lst []) R=some (.lst []):=ac;generalize upd H3 R (.lst [])=H4 at wR eR ⊢;refine⟨_,rfl,D,rfl,⟨kls,wR _ _ lo.od.ob⟩,sz rfl,λl0 g0=>?_⟩;have w0:=af g0 (.lst []);have e0:upd H4 l0 (.lst []) l0=some (.lst []):=ac;generalize upd H4 l0 (.lst [])=H5 at w0 e0 ⊢;have lo5:=lo.same (wR.trans w0);refine⟨kls,none,lo5.od,rfl,by omega,nz (u:=none) lo5 e0 λl ks el hk=>?_⟩;refine⟨l,ks,rfl,JG el,qL (d:=0) el hk (Zr (ZJ _ _) lM) (λv Hx sx Rx kx=>⟨_,rfl,sz rfl,λt gt=>kx t gt⟩) (λws Aa H6 s6 pa gA=>?_)⟩;have wA:=af gA (.lst ws);have eA:upd H6 Aa (.lst ws) Aa=some (.lst ws):=ac;have s36:Same H3 (upd H6 Aa (.lst ws)):=(wR.trans (w0.trans s6)).trans wA;have eR6:upd H6 Aa (.lst ws) R=some (.lst []):=wA _ _ (s6 _ _ (w0 _ _ eR));have pa6:=pa.ts (JE wA);have nRA:R≠Aa:=λz=>by rw[<-z,s6 _ _ (w0 _ _ eR)]at gA;cases gA
 have g3A:H3 Aa=none:=by
  cases z:H3 Aa with
  |none=>rfl
  |some o=>rw[s6 _ _ (w0 _ _ (wR _ _ z))]at gA;cases gA
 generalize upd H6 Aa (.lst ws)=H7 at eA s36 eR6 pa6 ⊢;refine⟨λm σ H'=>Same H3 H'/\∃(stk outd rst:List DI) (rs as:JK) (o4 o5 o6:Option V),Dfs M stk rst m/\outd++rst=out/\H' R=some (.lst rs)/\RwsAt H' outd rs/\H' Aa=some (.lst as)/\SksAt H' stk.reverse as/\σ=[some (.ref p),some (.ref D),some (.ref R),some (.ref Aa),o4,o5,o6],⟨k,s36,eK M,[],out,[],ws,none,none,none,df,rfl,eR6,.nil,eA,pa6,rfl⟩,?_⟩;rintro m σ H' ⟨sm,stk,outd,rst,rs,as,o4,o5,o6,df',eo,eR',ra,eA',sa,rfl⟩;have las:=Zu sa;rw[List.length_reverse]at las;refine⟨_,rfl,Aa,as,rfl,.inl (JG eA'),_,_,rfl,rfl,_,rfl,?_⟩;have lo60:outd.length+m<=60:=by have h1:=ZU List.length eo;rw[Zn,df'.len,df.len]at h1;omega
 cases df' with
 |nil =>have:as.length=0:=las.symm;rw[show(decide ((0:Int)<(as.length:Int)))=false by rw[this];rfl];refine aw ⟨_,rfl,?_⟩;rw[ZR]at eo;subst eo;refine qq R H' outd k rs df (s03.trans (.of sm)) (aR tab3 sm) (je s03 gR ?_) eR' ra;obtain⟨ps,t1,_⟩:=tab3;exact⟨_,t1⟩
 |@cons d0 mm rest rst' m' df' =>
  have:0<as.length:=by rw[<-las];exact Nat.succ_pos _
  rw[show(decide ((0:Int)<(as.length:Int)))=true by rw[decide_eq_true];omega];refine bn ?_;rw[List.reverse_cons]at sa;obtain⟨as0,y,rfl,sa0,⟨ya,nv,rfl,ey,hn⟩⟩:=qZ sa;obtain⟨nb,rfl,hnb⟩:=id hn;have hmem:mm∈M:=df.mem (λx hx=>by
   obtain⟨z,hz,rfl⟩:=ZF.mp hx;exact (ZQ.mp hz).1) (d0,mm) (by rw[<-eo];simp)
  obtain⟨jj,hj⟩:=Zt.mp (mem0 _ hmem);obtain⟨iv,e1,ia,uv,pv,rfl,e2,e3,e4⟩:=aC R3 (aV nd hj);refine⟨λσ' H''=>Same H3 H''/\∃(stk outd rst:List DI) (rs as:JK) (o4 o5 o6:Option V),Dfs M stk rst m'/\outd++rst=out/\H'' R=some (.lst rs)/\RwsAt H'' outd rs/\H'' Aa=some (.lst as)/\SksAt H'' stk.reverse as/\σ'=[some (.ref p),some (.ref D),some (.ref R),some (.ref Aa),o4,o5,o6],λσ' H'' h=>⟨m',Ye _,h⟩,?_⟩;refine⟨_,rfl,.inl ⟨rfl,_,JG eA'⟩,Aa,_,.ref ya,rfl,rfl,eA',by simp,?_⟩;rw[List.dropLast_concat];have t8:=dC (ks':=as0) eA';have s38:Same H3 (upd H' Aa (.lst as0)):=kI sm g3A;have eA8:upd H' Aa (.lst as0) Aa=some (.lst as0):=ac;have eR8:upd H' Aa (.lst as0) R=some (.lst rs):=by rw[ad nRA];exact eR'
  have ey8:=t8 _ _ ey;have hn8:=t8 _ _ hnb;have ra8:=ra.ts t8;have sa8:=SksAt.ts sa0 t8;generalize upd H' Aa (.lst as0)=H8 at s38 eA8 eR8 ey8 hn8 ra8 sa8 ⊢;refine⟨_,rfl,ya,_,_,_,rfl,rfl,JF ey8,at0,?_⟩;refine⟨_,rfl,ya,_,_,_,rfl,rfl,JF ey8,at1,?_⟩;refine⟨_,rfl,.inl ⟨rfl,_,JG eR8⟩,_,rfl,_,rfl,sz rfl,λt1 g1=>?_⟩;have w1:=af g1 (.tup [.int d0,.ref nb]);have s1':=s38.trans w1;refine⟨_,rfl,p,C,dx',_,_,rfl,s1' _ _ k1,a7.cl,a7.nH,aS _ _,_,rfl,d,.ref ia,rfl,e1▸DGet.t (k:=nk mm.1) (s1' _ _ k2) (w1 _ _ hn8),_,rfl,?_⟩;refine⟨ia,_,rfl,s1' _ _ e2,λt2 H9 s9 e9=>?_⟩;rw[rK]at e9;refine⟨t1,t2,_,_,rfl,rfl,s9 _ _ ac,e9,sz rfl,λt3 H10 s10 e10=>?_⟩;have w8:Same H8 H10:=w1.trans (s9.trans s10);have lra:=Zu ra;refine⟨R,rs,.ref t3,rfl,rfl,w8 _ _ eR8,bD (by omega),?_⟩;have t11:=dC (ks':=rs++[.ref t3]) (w8 _ _ eR8);have g3R:H3 R=none:=gR;have s311:Same H3 (upd H10 R (.lst (rs++[.ref t3]))):=kI (s38.trans w8) g3R;have eR11:upd H10 R (.lst (rs++[.ref t3])) R=some (.lst (rs++[.ref t3])):=ac;have eA11:upd H10 R (.lst (rs++[.ref t3])) Aa=some (.lst as0):=by rw[ad (Zs nRA)];exact w8 _ _ eA8
  have hn11:=t11 _ _ (w8 _ _ hn8);have ra11:RwsAt (upd H10 R (.lst (rs++[.ref t3]))) (outd++[(d0,mm)]) (rs++[.ref t3]):=cO ((ra8.ts (JE w8)).ts t11) (.cons ⟨t3,.ref nb,rfl,t11 _ _ e10,nb,rfl,hn11⟩ .nil);have sa11:=(sa8.ts (JE w8)).ts t11;generalize upd H10 R (.lst (rs++[.ref t3]))=H11 at s311 eR11 eA11 hn11 ra11 sa11 ⊢;refine⟨_,rfl,.inl ⟨rfl,_,JG eA11⟩,?_⟩;refine⟨_,rfl,D,rfl,⟨kls,s311 _ _ lo.od.ob⟩,_,rfl,sz rfl,λl1 gl1=>?_⟩;have wl:=af gl1 (.lst []);have el1:upd H11 l1 (.lst []) l1=some (.lst []):=ac;generalize upd H11 l1 (.lst [])=H12 at wl el1 ⊢;have lo12:=lo.same (s311.trans wl);refine⟨kls,some (nk mm.1,nb),lo12.od,⟨rfl,wl _ _ hn11⟩,by omega,nz (u:=some mm.1) lo12 el1 λl ks el hk=>?_⟩;refine⟨l,ks,rfl,JG el,qL (d:=d0+1) el hk (Zr (ZJ _ _) lM) (λv Hx sx Rx kx=>⟨_,rfl,_,_,rfl,rfl,_,rfl,sz rfl,λt gt=>kx t gt⟩) (λws' pW H13 s13 pa' gW=>?_)⟩;have wW:=af gW (.lst ws');have w1113:Same H11 (upd H13 pW (.lst ws')):=wl.trans (s13.trans wW);have lw:=Zu pa';have lsa:=Zu sa8;have dl:=df'.le;rw[Zn]at dl;rw[List.length_reverse]at lw lsa;refine⟨Aa,pW,as0,ws',rfl,rfl,w1113 _ _ eA11,ac,bD (by omega),?_⟩;have t14:=dC (ks':=as0++ws') (w1113 _ _ eA11);refine⟨kI (s311.trans w1113) g3A,(grp M (some mm.1)).map (λx=>(d0+1,x))++rest,outd++[(d0,mm)],rst',rs++[.ref t3],as0++ws',_,_,_,df',by rw[<-eo];simp,by rw[ad nRA];exact w1113 _ _ eR11,(ra11.ts (JE w1113)).ts t14,ac,?_,rfl⟩;rw[List.reverse_append];exact cO ((sa11.ts (JE w1113)).ts t14) ((pa'.ts (JE wW)).ts t14)
inductive Chn(ol:Ol):Nat->Option Nm->Prop
 |none:Chn ol 0 none
 |up {k:Nat} {n:Nm} {it:It} (h:look ol n=some it) (c:Chn ol k it.up):Chn ol (k+1) (some n)
inductive Gn(ol:Ol)(gs:As Unit):Nat->Option Nm->Bool->Prop
 |none:Gn ol gs 0 none false
 |hit {n:Nm} (h:(look gs n).isSome=true):Gn ol gs 0 (some n) true
 |up {k:Nat} {n:Nm} {it:It} {b:Bool} (h:(look gs n).isSome=false) (l:look ol n=some it) (c:Gn ol gs k it.up b):Gn ol gs (k+1) (some n) b
theorem Chn.gn{ol:Ol}{k:Nat}{u:Option Nm}(h:Chn ol k u)(gs:As Unit):∃j b,Gn ol gs j u b:=by
 induction h with
 |none=>exact⟨0,false,.none⟩
 |@up k n it hl _ ih =>
  cases c:(look gs n).isSome with
  |true=>exact⟨0,true,.hit c⟩
  |false =>obtain⟨j,b,g⟩:=ih;exact⟨j+1,b,.up c hl g⟩
theorem Gn.det{ol:Ol}{gs:As Unit}{k k':Nat}{u:Option Nm}{b b':Bool}(h:Gn ol gs k u b)(g:Gn ol gs k' u b'):b=b':=by
 induction h generalizing k' b' with
 |none=>cases g;rfl
 |hit h =>
  cases g with
  |hit=>rfl
  |up h'=>rw[h]at h';cases h'
 |up h l _ ih =>
  cases g with
  |hit h'=>rw[h]at h';cases h'
  |up h' l' c' =>rw[l]at l';cases l';exact ih c'
noncomputable def fS(ol:Ol)(gs:As Unit)(u:Option Nm):Bool:=@decide (∃k,Gn ol gs k u true) (Classical.propDecidable _)
theorem Gn.is{ol:Ol}{gs:As Unit}{k:Nat}{u:Option Nm}{b:Bool}(h:Gn ol gs k u b):fS ol gs u=b:=by
 unfold fS;cases b with
 |true=>exact@decide_eq_true _ (Classical.propDecidable _) ⟨k,h⟩
 |false=>exact@decide_eq_false _ (Classical.propDecidable _) fun⟨j,g⟩=>by cases h.det g
inductive spGone(C:Jy)(vs:JK)(H:Hp)(Q:VK)(E_:XK):Prop
 |mk (p d g:Jy) (ol:Ol) (gs:As Unit) (v:V) (n:Nm) (k:Nat) (b:Bool) (h0:vs=[.ref p,v]) (h1:OlAt C H p d g ol) (h2:GoneAt H g gs) (h3:NameIs H v (nk n)) (h4:Gn ol gs k (some n) b) (h5:Q (.bl b) H):spGone C vs H Q E_
abbrev fX:JA:=bG (top 15) 13
abbrev nV:Jr:=["self","name","above"]
theorem fH:FnScope nV ["self","name"] (aj fX):=⟨rfl,rfl,rfl,by decide,rfl,by decide,by decide⟩
theorem nL{f C:Jy}{fd:Jp}{tk:Tok}(F:Fun K "is_gone" "Plain.is_gone" fX f fd)(T:Txt K C)(d8:mg "UP" = some (.int 0 tk)):FnOk P w K mg base CX0 1 f fd ["self","name"] (spGone C):=by
 refine F.okQ fH (λvs H Q E h=>?_) (λcdv A outer s H vs Q E hr h=>?_)
 ·obtain⟨p,d,g,ol,gs,v,n,k,b,rfl,_⟩:=h;rfl
 obtain⟨p,d,g,ol,gs,v,n,k,b,rfl,⟨kvs,gvs,S,R⟩,⟨gvs',hg,Rg⟩,hn,gn,q⟩:=h;obtain⟨⟨dx,h1⟩,h2,h3,h4⟩:=id S;refine⟨_,(b_c (au (i:=2) fH.nd (q_v 1))
   (b_c (mG ZX (t_w (dk (aB iI (q_v 2) aY) (cQ (gK hr.units (q_v 2) (bS (q_v 0)))))) (b_1 (au (i:=2) fH.nd (am aq (bp hr.units (bS (q_v 0)) (q_v 2)) (dR d8)))))
   (b_1 (aD (dw iI (q_v 2) aY))))),?_⟩
 try rw[cxK]
 refine⟨_,rfl,?_⟩;refine⟨λm σ H'=>H'=H/\∃(u:V) (one:Option Nm),UpAt H u one/\Gn ol gs m one b/\σ=[some (.ref p),some v,some u],⟨k,rfl,v,some n,hn,gn,rfl⟩,?_⟩;rintro m σ H' ⟨rfl,u,one,hu,gn,rfl⟩;cases gn with
 |none =>obtain rfl:u=.non:=hu;refine⟨_,rfl,rfl,_,rfl,km rfl (aw ?_)⟩;exact⟨_,rfl,rfl,q⟩
 |@hit n hh =>obtain⟨ub,rfl,hub⟩:=id hu;refine⟨_,rfl,rfl,_,rfl,jb nofun ?_⟩;refine⟨_,rfl,_,rfl,p,C,dx,_,_,rfl,h1,T.cl,T.nA,iX _ _,g,_,rfl,DGet.t (k:=nk n) hg hub,_,rfl,?_⟩;rw[eU Rg,hh];refine aw ?_;exact⟨_,rfl,rfl,q⟩
 |@up m n it _ hh hl ch =>
  obtain⟨ub,rfl,hub⟩:=id hu;obtain⟨iv,e1,ia,uv,pv,rfl,e2,e3,e4⟩:=aC R hl;refine⟨_,rfl,rfl,_,rfl,jb nofun ?_⟩;refine⟨_,rfl,_,rfl,p,C,dx,_,_,rfl,h1,T.cl,T.nA,iX _ _,g,_,rfl,DGet.t (k:=nk n) hg hub,_,rfl,?_⟩;rw[eU Rg,hh];refine bn ?_;refine⟨λσ H2=>H2=H'/\σ=[some (.ref p),some v,some uv],?_,?_⟩
  ·rintro σ' H2 ⟨rfl,rfl⟩;exact⟨m,Ye m,rfl,uv,it.up,e3,ch,rfl⟩
  ·refine⟨_,rfl,p,C,dx,_,_,rfl,h1,T.cl,T.nH,aS _ _,_,rfl,d,.ref ia,rfl,e1▸DGet.t (k:=nk n) h2 hub,?_⟩;exact⟨ia,_,_,_,rfl,rfl,JF e2,at0,rfl,rfl⟩
inductive spBeneath(C:Jy)(vs:JK)(H:Hp)(Q:VK)(E_:XK):Prop
 |mk (p d g:Jy) (ol:Ol) (u v:V) (n o:Nm) (it:It) (k:Nat) (b:Bool) (h0:vs=[.ref p,u,v]) (h1:OlAt C H p d g ol) (h2:NameIs H u (nk n)) (h3:look ol n=some it) (h4:NameIs H v (nk o)) (h5:Und ol o k it.up b) (h6:Q (.bl b) H):spBeneath C vs H Q E_
abbrev fW:JA:=bG (top 15) 11
abbrev nU:Jr:=["self","one","other"]
theorem nS:FnScope nU ["self","one","other"] (aj fW):=⟨rfl,rfl,rfl,by decide,rfl,by decide,by decide⟩
theorem nJ{f C:Jy}{fd:Jp}{tk:Tok}(F:Fun K "beneath" "Plain.beneath" fW f fd)(T:Txt K C)(c7:MFn P w K mg base 1 C "at_or_beneath" ["self","one","other"] (spUnder C))(d8:mg "UP" = some (.int 0 tk)):FnOk P w K mg base CX0 2 f fd ["self","one","other"] (spBeneath C):=by
 refine F.okQ nS (λvs H Q E h=>?_) (λcdv A outer s H vs Q E hr h=>?_)
 ·obtain⟨p,d,g,ol,u,v,n,o,it,k,b,rfl,_⟩:=h;rfl
 obtain⟨p,d,g,ol,u,v,n,o,it,k,b,rfl,hO,hu,hl,hv,un,q⟩:=h;obtain⟨kvs,gvs,S,R⟩:=id hO;obtain⟨⟨dx,h1⟩,h2,h3,h4⟩:=id S;obtain⟨ub,rfl,hub⟩:=id hu;obtain⟨iv,e1,ia,uv,pv,rfl,e2,e3,e4⟩:=aC R hl;refine⟨_,(b_1 (aD (cg c7 (hr.mono (by decide)) (q_v 0) (q_a (am aq (bp hr.units (bS (q_v 0)) (q_v 1)) (dR d8)) (q_a (q_v 2) ah))))),?_⟩
 try rw[cxK]
 refine⟨_,rfl,p,dx,_,rfl,h1,iA _ _ (by decide) (by decide),?_⟩;refine⟨_,rfl,p,C,dx,_,_,rfl,h1,T.cl,T.nH,aS _ _,_,rfl,d,.ref ia,rfl,e1▸DGet.t (k:=nk n) h2 hub,?_⟩;exact⟨ia,_,_,_,rfl,rfl,JF e2,at0,_,rfl,p,d,g,ol,uv,v,it.up,o,k,b,rfl,hO,e3,hv,un,q⟩
theorem yB{H:Hp}{M:Ol}{ks:JK}(x:KsAt H M ks)(f:Nm×It->Bool):KsAt H (M.filter f) (((List.range ks.length).filter λi=>f (M.getD i I0)).map λi=>ks.getD i .non):=by
 have:=uR x ((List.range ks.length).filter λi=>f (M.getD i I0)) (λi hi=>by
  have:=Yv.mp (ZQ.mp hi).1;rw[Zu x];exact this)
 have e:(((List.range ks.length).filter λi=>f (M.getD i I0)).map λi=>M.getD i I0)=M.filter f:=by
  have e2:M=(List.range ks.length).map λi=>M.getD i I0:=by refine List.ext_getElem (by simp[Zu x]) λi h1 h2=>?_;simp[h1]
  conv=>rhs;rw[e2,List.filter_map]
  rfl
 rw[e]at this;exact this
noncomputable def ngB(ol:Ol)(gs:As Unit)(x:Nm×It):Bool:=!fS ol gs (some x.1)
theorem kj(M:Ol)(f:Nm×It->Bool)(u:Option Nm):grp (M.filter f) u=M.filter λx=>decide (x.2.up=u)&&f x:=List.filter_filter
inductive spBelow(C T:Jy)(vs:JK)(H:Hp)(Q:VK)(E_:XK):Prop
 |mk (p d g:Jy) (ol:Ol) (gs:As Unit) (uv:V) (u:Option Nm) (h0:vs=[.ref p,uv]) (h1:OlAt C H p d g ol) (h2:GoneAt H g gs) (h3:UpAt H uv u) (h4:ol.length<=60) (h5:(ol.map (·.1)).Nodup) (h6:aH bX T (cc bO) H) (h7:(∀n it,look ol n=some it->∃k,Chn ol k (some n))) (h8:∀(D:Jy) (H':Hp) (M:Ol) (ks:JK),M.Perm ol->M.Pairwise leP->SameT T H H'->aH bX T (cc bO) H'->H D=none->H' D=some (.lst ks)->KsAt H' (grp (M.filter (ngB ol gs)) u) ks->Q (.ref D) H'):spBelow C T vs H Q E_
abbrev ic:JA:=bG (top 15) 14
abbrev rj:Jr:=["self","up"]
theorem qw:FnScope rj ["self","up"] (aj ic):=⟨rfl,rfl,rfl,by decide,rfl,by decide,by decide⟩
theorem qh{f C T:Jy}{fd:Jp}{tk:Tok}(F:Fun K "below" "Plain.below" ic f fd)(a7:Txt K C)(d6:MFn P w K mg base 5 C "sorted_names" ["self"] (spSorted C T))(i9:MFn P w K mg base 1 C "is_gone" ["self","name"] (spGone C))(d8:mg "UP" = some (.int 0 tk)):FnOk P w K mg base CX0 6 f fd ["self","up"] (spBelow C T):=by
 refine F.okQ qw (λvs H Q E h=>?_) (λcdv A outer s H vs Q E hr h=>?_)
 ·obtain⟨p,d,g,ol,gs,uv,u,rfl,_⟩:=h;rfl
 obtain⟨p,d,g,ol,gs,uv,u,rfl,hO,hG,hu,hl,nd,tab,tr,q⟩:=h;obtain⟨kvs0,gvs0,S0,R0⟩:=id hO;obtain⟨⟨dx0,h1⟩,_,_,_⟩:=id S0;refine⟨_,(b_1 (aD (lL (own:=["name"]) (⟨rfl,by decide,by decide,rfl,⟨rfl,rfl,⟨rfl,rfl,trivial⟩⟩⟩:CompOk _ _ [0,1] ["self","up"]) rfl (fh (gH d6 (hr.mono (by decide)) (q_v 0))) (λ_ _ _ _=>bv (i:=0) (show(["name","self","up"]:Jr).Nodup by decide)) (gj (by decide)) (λ_ _ _ _=>(Ay (t_w (dk (aB (hJ hr.units) (am (lZ (K:=K) rfl) (bp hr.units (zl (K:=K) rfl (q_v 1)) (q_v 0)) (dR d8)) (q_v 2)) (cQ (dI (bU (cg i9 (hr.mono (by decide)) (q_v 1) (q_a (q_v 0) ah))))))))) (λ_ _ _ _=>(q_v 0))))),?_⟩
 try rw[cxK]
 refine⟨_,rfl,p,dx0,_,rfl,h1,iA _ _ (by decide) (by decide),p,d,g,ol,rfl,hO,hl,nd,tab,λL H2 M ks pe so s12 tab2 gL eL ka=>?_⟩;refine⟨L,rfl,⟨ks,JG eL⟩,?_⟩;have O2:=hO.sameT s12 tab;have G2:=hG.sameT s12 tab;have hu2:=hu.ts (cX s12 tab);have lM:M.length<=60:=by rw[pe.length_eq];exact hl
 have lks:=Zu ka;refine Ah (N:=ks.length) (λi=>decide ((M.getD i I0).2.up=u)&&ngB ol gs (M.getD i I0)) (λi=>ks.getD i .non) (by omega) (λi H' hi sm=>⟨ks,ks[i],JG (sm _ _ eL),by simp[hi]⟩) (λH' sm=>⟨ks,JG (sm _ _ eL),Za _⟩) (λi H' x H'' hi sm y A B kA kB=>?_) (λD H' sm gD=>?_)
 ·obtain⟨rfl,y⟩:=y;have hx:ks[i]?=some x:=y ks (JG (sm _ _ eL));obtain⟨m,hm,hn⟩:=jG ka i x hx;have em:M.getD i I0=m:=by rw[Zv,hm];rfl
  have ex:ks.getD i .non=x:=by rw[Zv,hx];rfl
  have O':=O2.same sm;obtain⟨kvs,gvs,S,R⟩:=id O';obtain⟨⟨dx,k1⟩,k2,k3,k4⟩:=id S;obtain⟨jj,hj⟩:=Zt.mp (pe.mem_iff.mp (ZH hm));have lm:=aV nd hj;obtain⟨iv,e1,ia,uv',pv,rfl,e2,e3,e4⟩:=aC R lm;have hn':=hn.ts' (JE sm);obtain⟨nb,rfl,hnb⟩:=id hn';obtain⟨a1,a2,a3⟩:=eS e3;obtain⟨b1,b2,b3⟩:=eS (hu2.ts (JE sm));refine⟨_,rfl,p,C,dx,_,_,rfl,k1,a7.cl,a7.nH,aS _ _,_,rfl,d,.ref ia,rfl,e1▸DGet.t (k:=nk m.1) k2 hnb,?_⟩;refine⟨ia,_,_,_,rfl,rfl,JF e2,at0,_,rfl,eQ m.2.up,eQ u,a1,b1,bq a2 (by omega),bq b2 (by omega),_,rfl,?_⟩;rw[pK];obtain⟨k,ch⟩:=tr _ _ lm;obtain⟨j,b,gn⟩:=ch.gn gs;have ng:ngB ol gs m=!b:=by unfold ngB;rw[gn.is]
  rw[em,ng]at kA kB;cases hc:decide (m.2.up=u)with
  |false=>exact aw (kB (by rw[hc];rfl) _ (Same.refl _))
  |true =>
   refine bn ⟨_,rfl,p,dx,_,rfl,k1,iA _ _ (by decide) (by decide),_,rfl,p,d,g,ol,gs,.ref nb,m.1,j,b,rfl,O',G2.same sm,hn',gn,_,rfl,?_⟩;cases b with
   |true=>exact kB (by rw[hc];rfl) _ (Same.refl _)
   |false =>have kA':=kA (by rw[hc];rfl) _ (Same.refl _);rw[ex]at kA';exact⟨_,rfl,kA'⟩
 ·have wD:=af gD (.lst (((List.range ks.length).filter λi=>decide ((M.getD i I0).2.up=u)&&ngB ol gs (M.getD i I0)).map λi=>ks.getD i .non));have s02:SameT T H H':=s12.trans (.of sm);refine q D _ M _ pe so (s02.trans (.of wD)) (aR (aR tab2 sm) wD) (je s02 gD ?_) ac ?_
  ·obtain⟨ps,t1,_⟩:=aR tab2 sm;exact⟨_,t1⟩
  ·rw[kj];exact(yB (ka.ts (JE sm)) (λx=>decide (x.2.up=u)&&ngB ol gs x)).ts (JE wD)
theorem Dfs.app{M:Ol}{s1 o1 s2 o2:List DI}{k1 k2:Nat}(h:Dfs M s1 o1 k1)(g:Dfs M s2 o2 k2):Dfs M (s1++s2) (o1++o2) (k1+k2):=by
 induction h with
 |nil=>rw[Nat.zero_add];exact g
 |@cons d m rest out k _ ih =>rw[Nat.add_right_comm];refine .cons ?_;show Dfs M (_++(rest++s2)) (out++o2) _;rw[<-List.append_assoc];exact ih
theorem Chn.one{ol:Ol}{u:Option Nm}{a b:Nat}(h:Chn ol a u)(g:Chn ol b u):a=b:=by
 induction h generalizing b with
 |none=>cases g;rfl
 |up h _ ih =>
  cases g with
  |up h' c' =>rw[h]at h';cases h';rw[ih c']
theorem cU{M:Ol}{u:Option Nm}{x:Nm×It}:x∈grp M u↔x∈M/\x.2.up=u:=by unfold grp;rw[ZQ];simp
def gh(ol:Ol)(B:Nat):Prop:=∀x∈ol,∃k,k<=B/\Chn ol k (some x.1)
theorem Ct{ol M:Ol}{B:Nat}(pe:M.Perm ol)(nd:(ol.map (·.1)).Nodup)(tb:gh ol B):∀(f:Nat) (x:Nm×It) (j:Nat) (d:Int),x∈M->Chn ol j (some x.1)->B<j+f->∃out k,Dfs M [(d,x)] out k:=by
 intro f;induction f with
 |zero =>intro x j d hx ch hB;obtain⟨k,hk,ch'⟩:=tb x (pe.mem_iff.mp hx);have:=ch.one ch';omega
 |succ f ih =>
  intro x j d hx ch hB;have kids:∀(l:Ol),(∀y∈l,y∈grp M (some x.1))->∃out k,Dfs M (l.map λy=>(d+1,y)) out k:=by
   intro l;induction l with
   |nil=>intro _;exact⟨[],0,.nil⟩
   |cons y l ihl =>intro hl;obtain⟨ym,yu⟩:=cU.mp (hl y Zl);obtain⟨i,hi⟩:=Zt.mp (pe.mem_iff.mp ym);have cy:Chn ol (j+1) (some y.1):=.up (aV nd hi) (by rw[yu];exact ch);obtain⟨o1,k1,h1⟩:=ih y (j+1) (d+1) ym cy (by omega);obtain⟨o2,k2,h2⟩:=ihl λz hz=>hl z (Zf _ hz);exact⟨_,_,h1.app h2⟩
  obtain⟨out,k,h⟩:=kids (grp M (some x.1)) λ_ z=>z;exact⟨_,_,.cons (rest:=[]) (by rw[ZR];exact h)⟩
theorem Ea{ol M:Ol}{B:Nat}(pe:M.Perm ol)(nd:(ol.map (·.1)).Nodup)(tb:gh ol B):∃out k,Dfs M (eK M) out k:=by
 have go:∀(l:Ol),(∀y∈l,y∈M)->∃out k,Dfs M (l.map λy=>((0:Int),y)) out k:=by
  intro l;induction l with
  |nil=>intro _;exact⟨[],0,.nil⟩
  |cons y l ihl =>intro hl;obtain⟨j,_,ch⟩:=tb y (pe.mem_iff.mp (hl y Zl));obtain⟨o1,k1,h1⟩:=Ct pe nd tb (B+1) y j 0 (hl y Zl) ch (by omega);obtain⟨o2,k2,h2⟩:=ihl λz hz=>hl z (Zf _ hz);exact⟨_,_,h1.app h2⟩
 exact go (grp M none) λy hy=>(cU.mp hy).1
def cnt(n:Nm)(l:List DI):Nat:=l.countP λx=>decide (x.2.1=n)
theorem Co(n:Nm)(a b:List DI):cnt n (a++b)=cnt n a+cnt n b:=List.countP_append
theorem gi(n:Nm)(x:DI)(l:List DI):cnt n (x::l)=(if x.2.1=n then 1 else 0)+cnt n l:=by unfold cnt;rw[List.countP_cons,Nat.add_comm];simp
def oG(M:Ol)(n:Nm)(u:Option Nm):Nat :=
 match look M n with
 |some it=>if it.up=u then 1 else 0
 |none=>0
theorem CI{l:Ol}{n:Nm}(h:n∉l.map (·.1)):look l n=none:=by
 induction l with
 |nil=>rfl
 |cons y l ih =>rw[Zk,Zj,not_or]at h;unfold look;rw[Jf (Zs h.1)];exact ih h.2
theorem sw{M:Ol}{d:Int}{n:Nm}{u:Option Nm}(nd:(M.map (·.1)).Nodup):cnt n ((grp M u).map λx=>(d,x))=oG M n u:=by
 unfold cnt grp oG;rw[List.countP_map];induction M with
 |nil=>rfl
 |cons y l ih =>
  rw[Zk,ZG]at nd;have ih:=ih nd.2;unfold look;by_cases hn:y.1=n
  ·rw[Jg hn];rw[CI (by rw[<-hn];exact nd.1)]at ih;by_cases hu:y.2.up=u
   ·rw[Yd (by simp[hu]),List.countP_cons,ih];simp[hn,hu]
   ·rw[Yn (by simp[hu]),ih];simp[hu]
  ·rw[Jf hn,<-ih];by_cases hu:y.2.up=u
   ·rw[Yd (by simp[hu]),List.countP_cons];simp[hn]
   ·rw[Yn (by simp[hu])]
theorem Dfs.cnt{M:Ol}{st out:List DI}{k:Nat}(nd:(M.map (·.1)).Nodup)(n:Nm)(h:Dfs M st out k) :
  K27.cnt n out=K27.cnt n st+(match look M n with|some it=>(match it.up with|some p=>K27.cnt p out|none=>0)|none=>0):=by
 induction h with
 |nil =>
  cases look M n with
  |none=>rfl
  |some it=>cases hu:it.up<;>simp[hu,K27.cnt]
 |@cons d m rest out k _ ih =>
  rw[gi,gi,ih,Co,sw nd];unfold oG;cases hl:look M n with
  |none=>simp
  |some it =>
   cases hu:it.up with
   |none=>simp[hu]
   |some p =>
    dsimp only;rw[hu];dsimp only;rw[gi p];have e:(if(some p:Option Nm)=some m.1 then 1 else 0)=(if m.1=p then 1 else 0:Nat):=by
     by_cases hp:m.1=p
     ·rw[Jg (by rw[hp]),Jg hp]
     ·rw[Jf (λz=>hp (Zb z).symm),Jf hp]
    rw[e];omega
theorem Cp{M:Ol}{n:Nm}(nd:(M.map (·.1)).Nodup):K27.cnt n (eK M)=oG M n none:=sw nd
theorem sC{ol M:Ol}{out:List DI}{k:Nat}(nd:(M.map (·.1)).Nodup)(h:Dfs M (eK M) out k)(lk:∀n,look ol n=look M n):∀{j:Nat} {u:Option Nm},Chn ol j u->∀n,u=some n->K27.cnt n out=1:=by
 intro j u ch;induction ch with
 |none=>intro n z;cases z
 |@up j n' it hl c ih =>
  intro n z;cases z;rw[h.cnt nd n',Cp nd];unfold oG;rw[<-lk,hl];dsimp only;cases hu:it.up with
  |none=>simp
  |some p =>dsimp only;rw[ih p hu];simp
theorem iB{l:Ol}{n:Nm}{it:It}(h:look l n=some it):(n,it)∈l:=by
 induction l with
 |nil=>cases h
 |cons y l ih =>
  unfold look at h;by_cases c:y.1=n
  ·rw[Jg c]at h;cases h;rw[<-c];exact Zl
  ·rw[Jf c]at h;exact Zf _ (ih h)
theorem lH{M ol:Ol}(pe:M.Perm ol)(nd:(ol.map (·.1)).Nodup)(n:Nm):look ol n=look M n:=by
 have ndM:(M.map (·.1)).Nodup:=(pe.map _).nodup_iff.mpr nd;cases h:look ol n with
 |some it =>obtain⟨i,hi⟩:=Zt.mp (pe.mem_iff.mpr (iB h));exact(aV ndM hi).symm
 |none =>
  cases g:look M n with
  |none=>rfl
  |some it =>obtain⟨i,hi⟩:=Zt.mp (pe.mem_iff.mp (iB g));have e:look ol n=some it:=aV nd hi;rw[h]at e;exact e
theorem gq(a b:Ol)(u:Option Nm):grp (a++b) u=grp a u++grp b u:=Yx _ _
theorem jE(M:Ol)(u v:Option Nm):grp (grp M u) v=if u=v then grp M u else[]:=by
 unfold grp;rw[List.filter_filter];by_cases h:u=v
 ·subst h;rw[Jg rfl];congr 1;funext x;simp
 ·rw[Jf h,YL];intro x _ z;simp at z;exact h (z.2.symm.trans z.1)
theorem iG(M:Ol)(d:Int):(M.map λx=>((d,x):DI)).map Prod.snd=M:=by rw[YN];exact List.map_id _
theorem sE{M:Ol}{st out:List DI}{k:Nat}(h:Dfs M st out k)(u:Option Nm):(∀n,u=some n->K27.cnt n out=0)->grp (out.map Prod.snd) u=grp (st.map Prod.snd) u:=by
 induction h with
 |nil=>intro _;rfl
 |@cons d m rest out k _ ih =>
  intro hc;have hm:some m.1≠u:=λz=>by have:=hc m.1 z.symm;rw[gi,Jg rfl]at this;omega
  have ih:=ih λn hn=>by have:=hc n hn;rw[gi]at this;omega
  rw[ZN,gq,iG,jE,Jf hm,List.nil_append]at ih;show grp ([m]++out.map Prod.snd) u=grp ([m]++rest.map Prod.snd) u;rw[gq,gq,ih]
theorem Ao{M:Ol}{st out:List DI}{k:Nat}(h:Dfs M st out k)(n:Nm):K27.cnt n out=1->grp (st.map Prod.snd) (some n)=[]->grp (out.map Prod.snd) (some n)=grp M (some n):=by
 induction h with
 |nil=>intro hc;cases hc
 |@cons d m rest out k h ih =>
  intro hc hs;have e1:grp ([m]++rest.map Prod.snd) (some n)=[]:=hs;rw[gq]at e1;have e2:=List.append_eq_nil_iff.mp e1;show grp ([m]++out.map Prod.snd) (some n)=_;rw[gq,e2.1,List.nil_append];rw[gi]at hc;by_cases hm:m.1=n
  ·rw[Jg hm]at hc;rw[sE h (some n) (λn' hn=>by cases hn;omega),ZN,gq,iG,jE,Jg (by rw[hm]),e2.2,ZR,hm]
  ·rw[Jf hm]at hc;refine ih (by omega) ?_;rw[ZN,gq,iG,jE,Jf (λz=>hm (Zb z)),e2.2];rfl
theorem Cs{M:Ol}{out:List DI}{k:Nat}(h:Dfs M (eK M) out k)(h1:∀n it,look M n=some it->K27.cnt n out=1)(h2:∀x∈M,∀p,x.2.up=some p->(look M p).isSome=true)(u:Option Nm):grp (out.map Prod.snd) u=grp M u:=by
 cases u with
 |none=>rw[sE h none nofun,iG,jE,Jg rfl]
 |some n =>
  cases hl:look M n with
  |some it=>exact Ao h n (h1 n it hl) (by rw[iG,jE,Jf nofun])
  |none =>
   have no:∀l:Ol,(∀x∈l,x∈M)->grp l (some n)=[]:=λl hs=>by unfold grp;rw[YL];intro x hx z;have:=h2 x (hs x hx) n (ZY z);rw[hl]at this;cases this
   rw[no M λ_ z=>z,no];intro x hx;obtain⟨y,hy,rfl⟩:=ZF.mp hx;exact h.mem (λz hz=>by
    obtain⟨w',hw,rfl⟩:=ZF.mp hz;exact (cU.mp hw).1) y hy
theorem qM{M:Ol}{out:List DI}{k:Nat}(nd:(M.map (·.1)).Nodup)(h:Dfs M (eK M) out k)(h1:∀n it,look M n=some it->K27.cnt n out=1):(out.map λx=>x.2.1).Perm (M.map (·.1)):=by
 rw[List.perm_iff_count];intro n;have e:(out.map λx=>x.2.1).count n=K27.cnt n out:=by
  unfold K27.cnt;rw[List.count,List.countP_map];congr 1;funext x;show(x.2.1==n)=decide (x.2.1=n);by_cases z:x.2.1=n
  ·rw[decide_eq_true z,z];exact beq_self_eq_true n
  ·rw[decide_eq_false z];exact Yh.mpr z
 rw[e];cases hl:look M n with
 |some it =>rw[h1 n it hl];have hm:n∈M.map (·.1):=Yq (f:=(·.1)) (iB hl);exact(Nat.le_antisymm (List.nodup_iff_count.mp nd n) (List.count_pos_iff.mpr hm)).symm
 |none =>
  have hm:n∉M.map (·.1):=λz=>by obtain⟨x,hx,rfl⟩:=ZF.mp z;obtain⟨i,hi⟩:=Zt.mp hx;rw[aV nd hi]at hl;cases hl
  rw[List.count_eq_zero_of_not_mem hm];unfold K27.cnt;rw[List.countP_eq_zero];intro x hx z;have:=h.mem (λz hz=>by
   obtain⟨w',hw,rfl⟩:=ZF.mp hz;exact (cU.mp hw).1) x hx
  exact hm (ZF.mpr ⟨x.2,this,ZY z⟩)
def Lv(ab:List Nm)(st:List DI):Prop:=(∀x∈st,0<=x.1/\x.1.toNat<=ab.length/\x.2.2.up=if x.1=0 then none else ab[x.1.toNat-1]?)/\st.Pairwise λx y=>y.1<=x.1
inductive Wk:List Nm->List DI->Prop
 |nil {ab:List Nm}:Wk ab []
 |cons {ab:List Nm} {d:Int} {m:Nm×It} {out:List DI} (h0:0<=d) (h1:d.toNat<=ab.length) (hu:m.2.up=if d=0 then none else ab[d.toNat-1]?) (h:Wk (ab.take d.toNat++[m.1]) out):Wk ab ((d,m)::out)
theorem Lv.top(M:Ol):Lv [] (eK M):=by
 refine⟨λx hx=>?_,?_⟩
 ·obtain⟨y,hy,rfl⟩:=ZF.mp hx;exact⟨Int.le_refl _,Za _,(cU.mp hy).2⟩
 ·rw[List.pairwise_map];exact List.pairwise_of_forall λ_ _=>Int.le_refl _
theorem Lv.step{ab:List Nm}{d:Int}{m:Nm×It}{rest:List DI}{M:Ol}(h:Lv ab ((d,m)::rest)):Lv (ab.take d.toNat++[m.1]) ((grp M (some m.1)).map (λx=>(d+1,x))++rest):=by
 obtain⟨h1,h2⟩:=h;obtain⟨d0,dl,du⟩:=h1 _ Zl;have d0:0<=d:=d0;have dl:d.toNat<=ab.length:=dl;obtain⟨p1,p2⟩:=List.pairwise_cons.mp h2;have lt:(ab.take d.toNat).length=d.toNat:=by rw[ZS];omega
 refine⟨λx hx=>?_,?_⟩
 ·rcases ZC.mp hx with hx|hx
  ·obtain⟨y,hy,rfl⟩:=ZF.mp hx;refine⟨by show 0<=d+1;omega,by rw[Zn,lt];show(d+1).toNat<=d.toNat+1;omega,?_⟩;show y.2.up=if d+1=0 then none else(ab.take d.toNat++[m.1])[(d+1).toNat-1]?
   rw[Jf (by omega),(cU.mp hy).2,Z0 (by rw[lt];omega),lt,show(d+1).toNat-1-d.toNat=0 by omega];rfl
  ·obtain⟨g0,gl,gu⟩:=h1 x (Zf _ hx);have le:x.1<=d:=p1 x hx;refine⟨g0,by rw[Zn,lt];omega,?_⟩;rw[gu];by_cases z:x.1=0
   ·rw[Jg z,Jg z]
   ·rw[Jf z,Jf z,Yi (by rw[lt];omega),List.getElem?_take_of_lt (by omega)]
 ·rw[List.pairwise_append];refine⟨?_,p2,λx hx y hy=>?_⟩
  ·rw[List.pairwise_map];exact List.pairwise_of_forall λ_ _=>Int.le_refl _
  ·obtain⟨z,_,rfl⟩:=ZF.mp hx;have:=p1 y hy;show y.1<=d+1;have:y.1<=d:=this;omega
theorem Eb{M:Ol}{st out:List DI}{k:Nat}(h:Dfs M st out k):∀{ab:List Nm},Lv ab st->Wk ab out:=by
 induction h with
 |nil=>intro _ _;exact .nil
 |@cons d m rest out k _ ih =>intro ab hL;obtain⟨g0,gl,gu⟩:=hL.1 _ Zl;exact .cons g0 gl gu (ih hL.step)
theorem Cv{p q n m:Jq}(h:bI p n=bI q m):p=q/\n=m:=by
 induction p generalizing q with
 |nil =>
  cases q with
  |nil =>rw[bI,bI]at h;exact⟨rfl,(List.cons.inj h).2⟩
  |cons b q =>rw[bI,bI]at h;exact absurd (List.cons.inj h).1 (by decide)
 |cons a p ih =>
  cases q with
  |nil =>rw[bI,bI]at h;exact absurd (List.cons.inj h).1 (by decide)
  |cons b q =>rw[bI,bI]at h;obtain⟨h1,h2⟩:=List.cons.inj (List.cons.inj h).2;obtain⟨h3,h4⟩:=ih h2;exact⟨by rw[h1,h3],h4⟩
theorem my:∀{a b:Jq},HT.lexLt a b=false->HT.lexLt b a=false->a=b
 | [],[],_,_=>rfl
 | [],_::_,h,_=>by rw[HT.lexLt_nil_cons]at h;cases h
 |_::_,[],_,h=>by rw[HT.lexLt_nil_cons]at h;cases h
 |x::a,y::b,h,g=>by
  rw[HT.lexLt_cons]at h g;by_cases z:x=y
  ·subst z;rw[Jg rfl]at h g;rw[my h g]
  ·rw[Jf z]at h;rw[Jf (Zs z)]at g;have h:=Yy h;have g:=Yy g;omega
theorem uV{x y:Nm×It}(h:(kyP x).nums=(kyP y).nums):x.1=y.1:=by have h:bI x.2.pl [x.1.1,x.1.2]=bI y.2.pl [y.1.1,y.1.2]:=h;obtain⟨_,h⟩:=Cv h;injection h with h1 h2;injection h2 with h2 _;exact Prod.ext h1 h2
theorem ED{ol:Ol}(nd:(ol.map (·.1)).Nodup){x y:Nm×It}(hx:x∈ol)(hy:y∈ol)(h:x.1=y.1):x=y:=sU nd hx hy h
theorem kK{ol M M':Ol}(nd:(ol.map (·.1)).Nodup)(p:M.Perm ol)(p':M'.Perm ol)(s:M.Pairwise leP)(s':M'.Pairwise leP):M=M':=by refine List.Perm.eq_of_pairwise (le:=leP) (λa b ha hb h1 h2=>?_) s s' (p.trans p'.symm);exact ED nd (p.mem_iff.mp ha) (p'.mem_iff.mp hb) (uV (my h2 h1))
theorem le_lt{ol:Ol}(nd:(ol.map (·.1)).Nodup){x y:Nm×It}(hx:x∈ol)(hy:y∈ol)(ne:x.1≠y.1)(h:leP x y):HT.lexLt (kyP x).nums (kyP y).nums=true:=by
 cases g:HT.lexLt (kyP x).nums (kyP y).nums with
 |true=>rfl
 |false=>exact absurd (uV (my g h)) ne
theorem D9{xs:JK}{k:Int}(h0:0<=k):cE xs none (some k)=xs.take k.toNat:=by
 unfold cE;rw[HT.sIx_none,tu h0,List.drop_zero,Nat.sub_zero];rcases Nat.le_total k.toNat xs.length with h|h
 ·rw[Nat.min_eq_left h]
 ·rw[Nat.min_eq_right h,ZA (Za _),ZA h]
theorem Cg{xs:JK}{v:V}(h:xs.getLast?=some v):atI xs (-1)=some v:=by obtain⟨ys,rfl⟩:=List.getLast?_eq_some_iff.mp h;exact zY ys v
theorem LowI.other{H2 H:Hp}{D p:Jy}{M:Ol}{kls:List (OK1×Jy)}{ks ks':JK}(x:LowI P w H2 H D M kls)(hp:H p=some (.lst ks))(ne:∀e∈kls,e.2≠p):LowI P w H2 (upd H p (.lst ks')) D M kls:=by have ts:=dC (ks':=ks') hp;refine⟨⟨wY x.lo.od (ad (wV x.lo.od.ob hp)) ts,λe he=>?_,x.lo.al⟩,x.nl,x.nd,x.le⟩;obtain⟨u,ks0,h1,h2,h3⟩:=x.lo.gr e he;exact⟨u,ks0,h1,by rw[ad (ne e he)];exact h2,h3.ts ts⟩
theorem zr{H:Hp}{out:List DI}{rs:JK}(x:RwsAt H out rs):∀(i:Nat) (v:V),rs[i]?=some v->∃m,out[i]?=some m/\RwAt H v m:=by
 induction x with
 |nil=>intro i v h;simp at h
 |cons h _ ih =>
  intro i v hv;cases i with
  |zero=>cases hv;exact⟨_,rfl,h⟩
  |succ i=>exact ih i v hv
abbrev AbAt(H:Hp)(ab:List Nm)(vs:JK):Prop:=Paired (λn v=>NameIs H v (nk n)) ab vs
theorem AbAt.ts{H H':Hp}{ab:List Nm}{vs:JK}(x:AbAt H ab vs)(s:TS H H'):AbAt H' ab vs:=Paired.mapP x λ_ _ z=>z.ts' s
theorem jh{α β:Type}{R:α->β->Prop}:∀{a:List α} {b:List β} (n:Nat),Paired R a b->Paired R (a.take n) (b.take n)
 |_,_,0,_=>.nil
 |_,_,_+1,.nil=>.nil
 |_,_,n+1,.cons h t=>.cons h (jh n t)
theorem eE{α β:Type}{R:α->β->Prop}:∀{a:List α} {b:List β} {i:Nat} {x:α},Paired R a b->a[i]?=some x->∃y,b[i]?=some y/\R x y
 |_,_,0,_,.cons h _,e=>by cases e;exact⟨_,rfl,h⟩
 |_,_,i+1,_,.cons _ t,e=>eE (i:=i) t e
def nmD(n:Nm):PyData:=.tuple [.int n.1,.int n.2]
def cM(ns:List Nm):PyData:=.list (ns.map nmD)
theorem wP{H:Hp}{v:V}{n:Nm}(h:NameIs H v (nk n)):Dt H (nmD n) v:=(eS (u:=some n) h).1
theorem ve{H:Hp}:∀{ns:List Nm} {ks:JK},AbAt H ns ks->DtAll H (ns.map nmD) ks
 |_,_,.nil=>by simp[DtAll]
 |_,_,.cons h t=>by rw[Zk];simp only[DtAll];exact⟨_,_,rfl,wP h,ve t⟩
theorem mz:∀ns:List Nm,PyData.canLayAll0 (ns.map nmD)=true/\PyData.depthAll (ns.map nmD)<=2
 | []=>⟨rfl,by simp[PyData.depthAll]⟩
 |n::ns=>by obtain⟨h1,h2⟩:=mz ns;rw[Zk];refine⟨by simp[PyData.canLayAll0,h1,nmD,PyData.canLay0],?_⟩;simp only[PyData.depthAll,nmD,PyData.depth];omega
theorem bj{H:Hp}{l:Jy}{ns:List Nm}{ks:JK}(hl:H l=some (.lst ks))(h:AbAt H ns ks):Dt H (cM ns) (.ref l)/\SeqAt.shaped (cM ns)=true/\PyData.eqv (cM ns) (cM ns)=true:=by
 obtain⟨h1,h2⟩:=mz ns;have hc:(cM ns).canLay0=true:=by simpa[cM,PyData.canLay0]using h1
 refine⟨?_,bq hc (by simp only[cM,PyData.depth];omega),SeqAt.eqv_refl _ hc⟩;simp only[cM,Dt];exact⟨l,_,rfl,.inl hl,ve h⟩
theorem gE(ns:List Nm):PyData.eqv (cM ns) (cM [])=decide (ns=[]):=by
 cases ns with
 |nil=>rfl
 |cons n ns=>rfl
theorem gY{H:Hp}{M:Ol}{ks:JK}(h:KsAt H M ks):AbAt H (M.map (·.1)) ks:=by
 induction h with
 |nil=>exact .nil
 |cons a _ ih=>exact .cons a ih
def rwD(x:DI):PyData:=.tuple [.int x.1,nmD x.2.1,.str x.2.2.tx,.bool x.2.2.dn,(match x.2.2.wh with|none=>.none|some i=>.int i),.bool x.2.2.fo]
theorem B6{H:Hp}(o:Option Int):Dt H (match o with|none=>.none|some i=>.int i) (whV o):=by
 cases o with
 |none=>simp only[whV,Dt]
 |some i=>simp only[whV,Dt]
theorem GZ{H:Hp}{v:V}{x:DI}(h:RwAt H v x):Dt H (rwD x) v:=by obtain⟨a,nv,rfl,h1,h2⟩:=h;have w:=B6 (H:=H) x.2.2.wh;have n:=wP h2;simp only[rwD,Dt,DtAll];exact⟨a,_,rfl,.inl h1,_,_,rfl,rfl,_,_,rfl,n,_,_,rfl,rfl,_,_,rfl,rfl,_,_,rfl,w,_,_,rfl,rfl,rfl⟩
theorem vA{H:Hp}:∀{out:List DI} {rs:JK},RwsAt H out rs->DtAll H (out.map rwD) rs
 |_,_,.nil=>by simp[DtAll]
 |_,_,.cons h t=>by rw[Zk];simp only[DtAll];exact⟨_,_,rfl,GZ h,vA t⟩
theorem qp:∀out:List DI,(∀x∈out,PyData.strOk x.2.2.tx=true)->PyData.canLayAll0 (out.map rwD)=true/\PyData.depthAll (out.map rwD)<=3
 | [],_=>⟨rfl,by simp[PyData.depthAll]⟩
 |x::out,h=>by
  obtain⟨h1,h2⟩:=qp out λy hy=>h y (Zf _ hy);have hx:=h x Zl;rw[Zk];refine⟨?_,?_⟩
  ·cases hw:x.2.2.wh<;>simp[PyData.canLayAll0,h1,rwD,nmD,PyData.canLay0,hx,hw]
  ·simp only[PyData.depthAll,rwD,nmD,PyData.depth];cases hw:x.2.2.wh<;>simp only[PyData.depth]<;>omega
theorem FE{H:Hp}{l:Jy}{out:List DI}{rs:JK}(hl:H l=some (.lst rs))(h:RwsAt H out rs)(hs:∀x∈out,PyData.strOk x.2.2.tx=true):Dt H (.list (out.map rwD)) (.ref l)/\SeqAt.shaped (.list (out.map rwD))=true/\PyData.eqv (.list (out.map rwD)) (.list (out.map rwD))=true:=by
 obtain⟨h1,h2⟩:=qp out hs;have hc:(PyData.list (out.map rwD)).canLay0=true:=by simpa[PyData.canLay0]using h1
 refine⟨?_,bq hc (by simp only[PyData.depth];omega),SeqAt.eqv_refl _ hc⟩;simp only[Dt];exact⟨l,_,rfl,.inl hl,vA h⟩
theorem BW{α:Type}{key:α->Jq}{z:α}{l:List α}{p:Jo}(hp:POk l.length p)(hs:LS (λi j=>HT.lexLt ((l.map key).getD i []) ((l.map key).getD j [])) p l.length):(p.toList.map λi=>l.getD i z).Pairwise (λx y=>HT.lexLt (key y) (key x)=false)/\(p.toList.map λi=>l.getD i z).Perm l:=by
 have ep:p.toList.Perm (List.range l.length):=by have:=Array.perm_iff_toList_perm.mp hp;simpa using this
 refine⟨?_,?_⟩
 ·rw[List.pairwise_map];have hz:p.size=l.length:=by have:=hp.size_eq;simpa using this
  rw[List.pairwise_iff_getElem];intro i j hi hj hij;rw[Zx]at hi hj;have lx:=(hs i j hij (by omega)).1;have e1:gA p i=p.toList[i]'(by rw[Zx];exact hi):=by rw[mi,Zv,Zd (by rw[Zx];exact hi)];rfl
  have e2:gA p j=p.toList[j]'(by rw[Zx];exact hj):=by rw[mi,Zv,Zd (by rw[Zx];exact hj)];rfl
  have m1:p.toList[i]'(by rw[Zx];exact hi)<l.length:=Yv.mp (ep.mem_iff.mp (Z9 _));have m2:p.toList[j]'(by rw[Zx];exact hj)<l.length:=Yv.mp (ep.mem_iff.mp (Z9 _));dsimp only at lx;rw[e1,e2]at lx;generalize p.toList[i]'(by rw[Zx];exact hi)=a at *;generalize p.toList[j]'(by rw[Zx];exact hj)=b at *;have ga:∀k,k<l.length->(l.map key).getD k []=key (l.getD k z):=λk hk=>by simp[hk]
  rw[ga a m1,ga b m2]at lx;exact lx
 ·have:=ep.map λi=>l.getD i z;have e:((List.range l.length).map λi=>l.getD i z)=l:=by refine List.ext_getElem (by simp) λi h1 h2=>?_;simp[h2]
  rw[e]at this;exact this
def nI(n:Nm):Jq:=[n.1,n.2]
theorem EB{n m:Nm}(h:nI n=nI m):n=m:=by injection h with h1 h2;injection h2 with h2 _;exact Prod.ext h1 h2
theorem uu{H:Hp}{ns:List Nm}{vs:JK}(h:AbAt H ns vs):∃as:List Jy,vs=as.map V.ref/\as.length=ns.length/\∀(i:Nat) (a:Jy) (k:Jq),as[i]?=some a->(ns.map nI)[i]?=some k->H a=some (.tup (k.map V.int)):=by
 induction h with
 |nil=>exact⟨[],rfl,rfl,λi a k e=>by simp at e⟩
 |cons h _ ih =>
  obtain⟨as,e1,e2,e3⟩:=ih;obtain⟨b,rfl,hb⟩:=h;refine⟨b::as,by rw[e1];rfl,by rw[Zw,Zw,e2],λi a k g1 g2=>?_⟩;cases i with
  |zero =>cases g1;cases g2;exact hb
  |succ i=>exact e3 i a k g1 g2
theorem ur{H:Hp}{ns:List Nm}{vs:JK}(x:AbAt H ns vs):∀(l:Js),(∀i∈l,i<ns.length)->AbAt H (l.map λi=>ns.getD i (0,0)) (l.map λi=>vs.getD i .non):=λl=>by
 induction l with
 |nil=>intro _;exact .nil
 |cons i l ih =>intro h;have hi:=h i Zl;obtain⟨y,hy,hn⟩:=eE x (Zd hi);refine .cons ?_ (ih λj hj=>h j (Zf _ hj));dsimp only;rw[Zv,Zv,hy,Zd hi];exact hn
theorem CJ{a b:List Nm}(p:a.Perm b)(s:a.Pairwise (λx y=>HT.lexLt (nI y) (nI x)=false))(s':b.Pairwise (λx y=>HT.lexLt (nI y) (nI x)=false)):a=b :=
 List.Perm.eq_of_pairwise (le:=λx y=>HT.lexLt (nI y) (nI x)=false) (λ_ _ _ _ h1 h2=>EB (my h2 h1)) s s' p
theorem pS{M:Ol}{st o1 o2:List DI}{k1 k2:Nat}(h:Dfs M st o1 k1)(g:Dfs M st o2 k2):o1=o2:=by
 induction h generalizing o2 k2 with
 |nil=>cases g;rfl
 |cons _ ih =>
  cases g with
  |cons g=>rw[ih g]
theorem Ee{ol M:Ol}(nd:(ol.map (·.1)).Nodup)(pe:M.Perm ol)(so:M.Pairwise leP)(u:Option Nm):(grp M u).Pairwise (λx y=>HT.lexLt (kyP x).nums (kyP y).nums=true):=by have ndM:(M.map (·.1)).Nodup:=(pe.map _).nodup_iff.mpr nd;have ne:M.Pairwise λx y=>x.1≠y.1:=List.pairwise_map.mp ndM;have both:=so.and ne;refine List.Pairwise.filter _ (both.imp_of_mem fun{a b} ha hb h=>?_);exact le_lt nd (pe.mem_iff.mp ha) (pe.mem_iff.mp hb) h.2 h.1
def dX(ol:Ol)(u:Option Nm):Prop:=∀m,u=some m->(look ol m).isSome=true
theorem Chn.und{ol:Ol}{k:Nat}{u:Option Nm}(h:Chn ol k u)(o:Nm):∃j b,Und ol o j u b:=by
 induction h with
 |none=>exact⟨0,false,.none⟩
 |@up k n it hl _ ih =>
  by_cases c:n=o
  ·subst c;exact⟨0,true,.self⟩
  ·obtain⟨j,b,un⟩:=ih;exact⟨j+1,b,.up c hl un⟩
def Ter(ol:Ol):Prop:=∀n it,look ol n=some it->∃k,Chn ol k (some n)
theorem vD{ol:Ol}(nd:(ol.map (·.1)).Nodup)(t:Ter ol):∃B,gh ol B:=by
 have go:∀l:Ol,(∀x∈l,x∈ol)->∃B,∀x∈l,∃k,k<=B/\Chn ol k (some x.1):=λl=>by
  induction l with
  |nil=>intro _;exact⟨0,λx hx=>by cases hx⟩
  |cons y l ih =>
   intro hl;obtain⟨B,hB⟩:=ih λx hx=>hl x (Zf _ hx);obtain⟨i,hi⟩:=Zt.mp (hl y Zl);obtain⟨k,ck⟩:=t _ _ (aV nd hi);refine⟨B+k,λx hx=>?_⟩;rcases Zj.mp hx with rfl|hx
   ·exact⟨k,Nat.le_add_left _ _,ck⟩
   ·obtain⟨k',h1,h2⟩:=hB x hx;exact⟨k',Zr h1 (Nat.le_add_right _ _),h2⟩
 exact go ol λ_ z=>z
theorem Ter.up{ol:Ol}(t:Ter ol){n:Nm}{it:It}(h:look ol n=some it):∃k,Chn ol k it.up:=by
 obtain⟨k,x⟩:=t n it h;cases x with
 |up hl y =>rw[h]at hl;cases hl;exact⟨_,y⟩
theorem ma{ol ol':Ol}(hh:∀n it,look ol n=some it->∃it',look ol' n=some it'/\it'.up=it.up){k:Nat}{u:Option Nm}(h:Chn ol k u):Chn ol' k u:=by
 induction h with
 |none=>exact .none
 |up hl _ ih =>obtain⟨it',h1,h2⟩:=hh _ _ hl;exact .up h1 (h2▸ih)
theorem Ter.keep{ol:Ol}(t:Ter ol){n:Nm}{it it':It}(h:look ol n=some it)(e:it'.up=it.up):Ter (ay ol n it'):=by
 have mono:∀x i,look ol x=some i->∃i',look (ay ol n it') x=some i'/\i'.up=i.up:=λx i hx=>by
  rw[aG];by_cases c:x=n
  ·rw[Jg c];subst c;rw[h]at hx;cases hx;exact⟨_,rfl,e⟩
  ·rw[Jf c];exact⟨_,hx,rfl⟩
 intro x i hx;rw[aG]at hx;by_cases c:x=n
 ·subst c;obtain⟨k,y⟩:=t x it h;exact⟨k,ma mono y⟩
 ·rw[Jf c]at hx;obtain⟨k,y⟩:=t x i hx;exact⟨k,ma mono y⟩
theorem Ter.new{ol:Ol}(t:Ter ol){n:Nm}{it:It}{k:Nat}(h:look ol n=none)(c:Chn ol k it.up):Ter (ay ol n it):=by
 have mono:∀x i,look ol x=some i->∃i',look (ay ol n it) x=some i'/\i'.up=i.up:=λx i hx=>by rw[aG,Jf λz=>by rw[z,h]at hx;cases hx];exact⟨_,hx,rfl⟩
 intro x i hx;by_cases e:x=n
 ·subst e;exact⟨_,.up (by rw[aG,Jg rfl]) (ma mono c)⟩
 ·rw[aG,Jf e]at hx;obtain⟨k,y⟩:=t x i hx;exact⟨k,ma mono y⟩
theorem Bt{ol:Ol}{o:Nm}{x:It}{k:Nat}{u:Option Nm}{b:Bool}(h:Und ol o k u b)(hb:b=false):Chn (ay ol o x) k u:=by
 induction h with
 |none=>exact .none
 |self=>cases hb
 |up hn hl _ ih=>exact .up (by rw[aG,Jf hn];exact hl) (ih hb)
theorem Ter.move{ol:Ol}(t:Ter ol){n:Nm}{it':It}{k:Nat}(un:Und ol n k it'.up false):Ter (ay ol n it'):=by
 have cn:Chn (ay ol n it') (k+1) (some n):=.up (by rw[aG,Jg rfl]) (Bt un rfl);have gen:∀{k:Nat} {u:Option Nm},Chn ol k u->∃k',Chn (ay ol n it') k' u:=λh=>by
  induction h with
  |none=>exact⟨0,.none⟩
  |@up k x i hl _ ih =>
   by_cases c:x=n
   ·exact⟨_,by rw[c];exact cn⟩
   ·obtain⟨k',y⟩:=ih;exact⟨_,.up (by rw[aG,Jf c];exact hl) y⟩
 intro x i hx;by_cases c:x=n
 ·exact⟨_,by rw[c];exact cn⟩
 ·rw[aG,Jf c]at hx;obtain⟨k,y⟩:=t x i hx;exact gen y
theorem lB{ol ol':Ol}{n m:Nm}{itn itm:It}(hn:look ol n=some itn)(hm:look ol m=some itm)(j:JoinR ol n m itn itm ol') :
  (∀x,look ol x=none->look ol' x=none)/\∀x it,look ol x=some it->∃i,look ol' x=some (cw n m i)/\i.up=it.up/\i.tx=(if x=m then("":Str)else if x=n then itn.tx++itm.tx else it.tx):=by
 obtain⟨itm2,h2,hl⟩:=j.lk;have em:itm2.up=itm.up:=by
  rw[aG]at h2;by_cases c:m=n
  ·rw[Jg c]at h2;subst c;rw[hn]at hm;cases hm;cases h2;rfl
  ·rw[Jf c,hm]at h2;cases h2;rfl
 refine⟨λx hx=>?_,λx it hx=>?_⟩
 ·have d1:x≠m:=λz=>by rw[z,hm]at hx;cases hx
  have d2:x≠n:=λz=>by rw[z,hn]at hx;cases hx
  rw[hl x,aG,aG,Jf d1,Jf d2,hx];rfl
 ·rw[hl x,aG,aG];by_cases c:x=m
  ·rw[Jg c,Jg c];subst c;rw[hm]at hx;cases hx;exact⟨_,rfl,em,rfl⟩
  ·rw[Jf c,Jf c];by_cases c2:x=n
   ·rw[Jg c2,Jg c2];subst c2;rw[hn]at hx;cases hx;exact⟨_,rfl,rfl,rfl⟩
   ·rw[Jf c2,Jf c2,hx];exact⟨_,rfl,rfl,rfl⟩
theorem mD(n m:Nm)(i:It):(cw n m i).up=if i.up=some m then some n else i.up:=by unfold cw;split<;>rfl
theorem vx(n m:Nm)(i:It):(cw n m i).tx=i.tx:=by unfold cw;split<;>rfl
theorem qA{ol:Ol}{o:Nm}{k:Nat}{u:Option Nm}(h:Und ol o k u false):u≠some o:=by
 intro z;subst z;cases h with
 |up hn _ _=>exact hn rfl
theorem Ter.join{ol ol':Ol}{n m:Nm}{itn itm:It}(t:Ter ol)(hn:look ol n=some itn)(hm:look ol m=some itm)(j:JoinR ol n m itn itm ol'){k:Nat}(un:Und ol m k (some n) false):Ter ol':=by
 obtain⟨j0,j1⟩:=lB hn hm j;have c1:∀{k:Nat} {u:Option Nm} {b:Bool},Und ol m k u b->b=false->Chn ol' k u:=λh=>by
  induction h with
  |none=>intro _;exact .none
  |self=>intro z;cases z
  |@up k x i b hx hl y ih =>intro hb;subst hb;obtain⟨i',e1,e2,_⟩:=j1 x i hl;refine .up e1 ?_;rw[mD,e2,Jf (qA y)];exact ih rfl
 have gen:∀{k:Nat} {u:Option Nm},Chn ol k u->∃k',Chn ol' k' u:=λh=>by
  induction h with
  |none=>exact⟨0,.none⟩
  |@up k x i hl _ ih =>
   obtain⟨i',e1,e2,_⟩:=j1 x i hl;by_cases c:i.up=some m
   ·exact⟨_,.up e1 (by rw[mD,e2,Jg c];exact c1 un rfl)⟩
   ·obtain⟨k',y⟩:=ih;exact⟨_,.up e1 (by rw[mD,e2,Jf c];exact y)⟩
 intro x i hx;cases e:look ol x with
 |none=>rw[j0 x e]at hx;cases hx
 |some i0 =>obtain⟨k,y⟩:=t x i0 e;exact gen y
def wt(ol:Ol)(x:Nm):Nat:=match look ol x with
 |some it=>it.tx.length
 |none=>0
theorem gQ{ol:Ol}{x:Nm}{it:It}(h:look ol x=some it):wt ol x=it.tx.length:=by unfold wt;rw[h]
theorem vH{ol:Ol}{x:Nm}(h:look ol x=none):wt ol x=0:=by unfold wt;rw[h]
theorem jU{ol:Ol}{n x:Nm}{it:It}:wt (ay ol n it) x=if x=n then it.tx.length else wt ol x:=by
 unfold wt;rw[aG];by_cases c:x=n
 ·rw[Jg c,Jg c]
 ·rw[Jf c,Jf c]
theorem uZ{f:Nm->Nat}:∀{L:List Nm} {x:Nm},x∈L->f x<=(L.map f).sum
 |y::L,x,h=>by
  rw[Zk,List.sum_cons];rcases Zj.mp h with rfl|h
  ·omega
  ·have:=uZ (f:=f) h;omega
theorem zD{f g:Nm->Nat}{L:List Nm}(h:∀y∈L,f y=g y):(L.map f).sum=(L.map g).sum:=by rw[YH h]
theorem jR{f g:Nm->Nat}{x:Nm}:∀{L:List Nm},L.Nodup->x∈L->(∀y,y≠x->f y=g y)->(L.map f).sum+g x=(L.map g).sum+f x
 |y::L,nd,h,e=>by
  rw[ZG]at nd;rw[Zk,List.sum_cons,Zk,List.sum_cons];rcases Zj.mp h with rfl|h
  ·have:(L.map f).sum=(L.map g).sum:=zD λy hy=>e y λz=>nd.1 (z▸hy);omega
  ·have:=jR nd.2 h e;have:=e y λz=>nd.1 (z▸h);omega
structure InvO(ol:Ol)(B:Nat):Prop where
 ter:Ter ol
 wgt:∃L:List Nm,L.Nodup/\(∀x,(look ol x).isSome=true↔x∈L)/\(L.map (wt ol)).sum<=B
theorem DJ{ol:Ol}{B c:Nat}{n:Nm}{it it':It}(v:∃L:List Nm,L.Nodup/\(∀x,(look ol x).isSome=true↔x∈L)/\(L.map (wt ol)).sum<=B)(h:look ol n=some it)(e:it'.tx.length<=it.tx.length+c):∃L:List Nm,L.Nodup/\(∀x,(look (ay ol n it') x).isSome=true↔x∈L)/\(L.map (wt (ay ol n it'))).sum<=B+c:=by
 obtain⟨L,nd,hL,hs⟩:=v;have hn:n∈L:=(hL n).mp (by rw[h];rfl);refine⟨L,nd,λx=>?_,?_⟩
 ·rw[aG];by_cases z:x=n
  ·rw[Jg z,z];exact⟨λ_=>hn,λ_=>rfl⟩
  ·rw[Jf z];exact hL x
 ·have:=jR (f:=wt (ay ol n it')) (g:=wt ol) nd hn λy hy=>by rw[jU,Jf hy]
  rw[jU,Jg rfl,gQ h]at this;omega
theorem vG{ol:Ol}{B:Nat}{n:Nm}{it:It}(v:∃L:List Nm,L.Nodup/\(∀x,(look ol x).isSome=true↔x∈L)/\(L.map (wt ol)).sum<=B)(h:look ol n=none):∃L:List Nm,L.Nodup/\(∀x,(look (ay ol n it) x).isSome=true↔x∈L)/\(L.map (wt (ay ol n it))).sum<=B+it.tx.length:=by
 obtain⟨L,nd,hL,hs⟩:=v;have hn:¬n∈L:=λz=>by have:=(hL n).mpr z;rw[h]at this;cases this
 refine⟨n::L,ZG.mpr ⟨hn,nd⟩,λx=>?_,?_⟩
 ·rw[aG,Zj];by_cases z:x=n
  ·rw[Jg z];exact⟨λ_=>.inl z,λ_=>rfl⟩
  ·rw[Jf z,hL x];exact⟨.inr,λy=>y.resolve_left z⟩
 ·rw[Zk,List.sum_cons,jU,Jg rfl];have:(L.map (wt (ay ol n it))).sum=(L.map (wt ol)).sum:=zD λy hy=>by rw[jU,Jf λz:y=n=>hn (z▸hy)]
  omega
theorem xU(x:Str){a b:Nat}(hab:a<=b)(hb:b<=x.length):(bg x (some (a:Int)) (some (b:Int))).length=b-a:=by
 unfold bg;split
 ·rename_i h;rw[StrLaws.strSliceIndices_plain hab hb,Ze,List.length_range]at h;exact h.symm
 ·rw[StrLaws.sliced_plain x hab hb];show(List.toArray _).size=_;rw[Zg,ZS,YI];have:x.cps.toList.length=x.length:=rfl;omega
theorem Cq{x:Str}{a:Int}(h:¬(x.length:Int)<a):(bg x none (some (if(0:Int)>a then 0 else a))).length+(bg x (some (if(0:Int)>a then 0 else a)) none).length=x.length:=by
 have e:(if(0:Int)>a then 0 else a)=((a.toNat:Nat):Int):=by split<;>omega
 have hk:a.toNat<=x.length:=by omega
 have e1:bg x none (some ((a.toNat:Nat):Int))=bg x (some ((0:Nat):Int)) (some ((a.toNat:Nat):Int)):=by unfold bg;rw[StrLaws.sliceIdx_none_lo];rfl
 have e2:bg x (some ((a.toNat:Nat):Int)) none=bg x (some ((a.toNat:Nat):Int)) (some ((x.length:Nat):Int)):=by unfold bg;rw[StrLaws.sliceIdx_none_hi]
 rw[e,e1,e2,xU x (ZM _) hk,xU x hk (Za _)];omega
theorem Bw{ol ol':Ol}{B:Nat}{n m:Nm}{itn itm:It}(v:∃L:List Nm,L.Nodup/\(∀x,(look ol x).isSome=true↔x∈L)/\(L.map (wt ol)).sum<=B)(hn:look ol n=some itn)(hm:look ol m=some itm)(nm:n≠m)(j:JoinR ol n m itn itm ol'):∃L:List Nm,L.Nodup/\(∀x,(look ol' x).isSome=true↔x∈L)/\(L.map (wt ol')).sum<=B:=by
 obtain⟨L,nd,hL,hs⟩:=v;obtain⟨j0,j1⟩:=lB hn hm j;have mn:n∈L:=(hL n).mp (by rw[hn];rfl);have mm:m∈L:=(hL m).mp (by rw[hm];rfl);refine⟨L,nd,λx=>?_,?_⟩
 ·rw[<-hL x];cases e:look ol x with
  |none=>rw[j0 x e]
  |some it =>obtain⟨i,e1,_⟩:=j1 x it e;rw[e1];exact⟨λ_=>rfl,λ_=>rfl⟩
 ·let g:Nm->Nat:=λx=>if x=n then itn.tx.length+itm.tx.length else wt ol x
  have w1:∀x,wt ol' x=if x=m then 0 else g x:=λx=>by
   show _=if x=m then 0 else if x=n then itn.tx.length+itm.tx.length else wt ol x
   cases e:look ol x with
   |none =>
    have d1:x≠m:=λz=>by rw[z,hm]at e;cases e
    have d2:x≠n:=λz=>by rw[z,hn]at e;cases e
    rw[vH (j0 x e),Jf d1,Jf d2,vH e]
   |some it =>
    obtain⟨i,e1,_,e3⟩:=j1 x it e;rw[gQ e1,vx,e3];by_cases c:x=m
    ·rw[Jg c,Jg c];decide +kernel
    ·rw[Jf c,Jf c];by_cases c2:x=n
     ·rw[Jg c2,Jg c2,uW]
     ·rw[Jf c2,Jf c2,gQ e]
  have s1:=jR (f:=wt ol') (g:=g) nd mm λy hy=>by rw[w1 y,Jf hy]
  have s2:=jR (f:=g) (g:=wt ol) nd mn λy hy=>by show(if y=n then _ else _)=_;rw[Jf hy]
  have g1:g m=itm.tx.length:=by show(if m=n then _ else _)=_;rw[Jf (Zs nm),gQ hm]
  have g2:g n=itn.tx.length+itm.tx.length:=by show(if n=n then _ else _)=_;rw[Jg rfl]
  have g3:wt ol' m=0:=by rw[w1 m,Jg rfl]
  rw[gQ hn]at s2;omega
abbrev ie:JA:=bG (top 15) 8
abbrev rm:Jr:=["self"]
theorem qz:FnScope rm ["self"] (aj ie):=⟨rfl,rfl,rfl,by decide,rfl,by decide,by decide⟩
theorem qi{f C:Jy}{fd:Jp}(F:Fun K "names" "Plain.names" ie f fd)(T:Txt K C)(a9:mg "list" = none):FnOk P w K mg base CX0 1 f fd ["self"] (spNames C):=by
 refine F.okQ qz (λvs H Q E h=>?_) (λcdv A outer s H vs Q E hr h=>?_)
 ·obtain⟨p,d,g,kvs,gvs,rfl,_⟩:=h;rfl
 obtain⟨p,d,g,kvs,gvs,rfl,S,q⟩:=h;obtain⟨⟨dx,h1⟩,h2,h3,h4⟩:=id S;refine⟨_,(b_1 (aD (fE (iw rfl) a9 ci (q_a (bS (q_v 0)) ah)))),?_⟩;exact⟨_,rfl,p,C,dx,_,_,rfl,h1,T.cl,T.nH,aS _ _,d,kvs,rfl,.inl h2,λl ks hl hk=>q l ks hl hk⟩
inductive spLawT(K:W.Frag)(T:Jy)(vs:JK)(H:Hp)(Q:VK)(E_:XK):Prop
 |mk (a:Jy) (ns:Jq) (h0:vs=[.ref a]) (h1:SqL K H a (ns.map V.int)) (h2:ns.length<=63) (h3:H T=some (.tbl #[])) (h4:∀H',Q (.bl true) H'):spLawT K T vs H Q E_
theorem re{ol:Ol}{n:Nm}{it:It}:((ay ol n it).map (·.1))=if(look ol n).isSome=true then ol.map (·.1)else ol.map (·.1)++[n]:=by
 unfold ay;by_cases c:(look ol n).isSome=true
 ·rw[Jg c,Jg c,YN];apply YH;intro x _;show(if x.1=n then(x.1,it)else x).1=x.1;by_cases d:x.1=n
  ·rw[Jg d]
  ·rw[Jf d]
 ·rw[Jf c,Jf c,ZN];rfl
theorem DH{ol:Ol}{o:Nm}{j:Nat}{v:Option Nm}{b:Bool}(h:Und ol o j v b):b=true->∀{k:Nat},Chn ol k v->∃k',k'<=k/\Chn ol k' (some o):=by
 induction h with
 |none=>intro z;cases z
 |self=>intro _ k c;exact⟨k,Za _,c⟩
 |@up j n it b hne hl _ ih =>
  intro z k c;cases c with
  |up hl' c =>rw[hl]at hl';cases hl';obtain⟨k',h1,h2⟩:=ih z c;exact⟨k',by omega,h2⟩
theorem Bu{ol:Ol}{n:Nm}{it:It}{j k:Nat}{b:Bool}(hl:look ol n=some it)(c:Chn ol k it.up)(h:Und ol n j it.up b):b=false:=by
 cases b with
 |false=>rfl
 |true =>obtain⟨k',h1,h2⟩:=DH h rfl c;have:=Chn.one h2 (.up hl c);omega
def itD(it:It):PyData:=.tuple [eQ it.up,.tuple (it.pl.map .int),.str it.tx,.bool it.dn,(match it.wh with|none=>.none|some i=>.int i),.bool it.fo]
theorem BL{H:Hp}{v:V}{it:It}(h:ItAt H v it)(hs:PyData.strOk it.tx=true):Dt H (itD it) v/\SeqAt.shaped (itD it)=true/\PyData.eqv (itD it) (itD it)=true:=by
 obtain⟨a,uv,pv,rfl,h1,h2,pb,rfl,h3⟩:=h;obtain⟨u1,u2,u3⟩:=eS h2;have w:=B6 (H:=H) it.wh;have p:=iE h3;have pc:=PyProof.Rows.canLayAll_ints it.pl;have pd:=PyProof.Rows.depthAll_ints it.pl;have hc:(itD it).canLay0=true:=by unfold itD;cases hw:it.wh<;>simp[PyData.canLay0,PyData.canLayAll0,u2,hs,pc]
 refine⟨?_,bq hc ?_,SeqAt.eqv_refl _ hc⟩
 ·simp only[itD,Dt,DtAll];refine⟨a,_,rfl,.inl h1,_,_,rfl,u1,_,_,rfl,?_,_,_,rfl,rfl,_,_,rfl,rfl,_,_,rfl,w,_,_,rfl,rfl,rfl⟩;simpa only[Dt]using p
 ·unfold itD;simp only[PyData.depth,PyData.depthAll];rw[pd];cases hw:it.wh<;>simp only[PyData.depth]<;>omega
abbrev lS:JA:=top 18
abbrev xI:Jr:=["_law_script","_law_k"]
theorem xu:FnScope xI ["_law_script","_law_k"] (aj lS):=⟨rfl,rfl,rfl,by decide,rfl,by decide,by decide⟩
theorem xa{f:Jy}{fd:Jp}(F:Fun K "_law_cell_at" "_law_cell_at" lS f fd)(a8:mg "len" = none):FnOk P w K mg base CX0 1 f fd ["_law_script","_law_k"] (spCell K):=by
 refine F.okQ xu (λvs H Q E h=>?_) (λcdv A outer s H vs Q E hr h=>?_)
 ·obtain⟨a,ns,k,rfl,_⟩:=h;rfl
 obtain⟨a,ns,k,rfl,hS,hk,q⟩:=h;refine⟨_,(b_c (aI (aB wU (q_v 1) (q_B fO a8 Z3 (q_a (q_v 0) ah))) (b_1 (aD (am br (q_v 0) (q_v 1)))) b_0)
   (b_1 (aD ag))),?_⟩
 have hl:((ns.map V.int).length:Int)=(ns.length:Int):=by rw[Ze]
 refine⟨_,rfl,_,rfl,a,_,rfl,.inl hS,_,_,rfl,rfl,_,rfl,cK (λc=>?_) (λc=>?_)⟩
 ·refine⟨_,rfl,_,rfl,a,_,_,_,rfl,rfl,hS,zX hk (by omega),q⟩
 ·rw[show jX ns k.toNat=0 from Ag hk (by omega)]at q;exact q
inductive spPlace  (vs:JK)(H:Hp)(Q:VK)(E_:XK):Prop
 |mk (n:Int) (h0:vs=[.int n]) (h1:∀(v:V) (ps:Jq) (H':Hp),Same H H'->PlAt H' v ps->Q v H'):spPlace  vs H Q E_
abbrev qu:JA:=top 19
abbrev Cc:Jr:=["_law_number","_law_one"]
theorem tJ:FnScope Cc ["_law_number"] (aj qu):=⟨rfl,rfl,rfl,by decide,rfl,by decide,by decide⟩
theorem AU{f:Jy}{fd:Jp}(F:Fun K "_law_place" "_law_place" qu f fd):FnOk P w K mg base CX0 1 f fd ["_law_number"] spPlace:=by
 refine F.okQ tJ (λvs H Q E h=>?_) (λcdv A outer s H vs Q E hr h=>?_)
 ·obtain⟨n,rfl,_⟩:=h;rfl
 obtain⟨n,rfl,q⟩:=h;refine⟨_,(b_c (au (i:=1) tJ.nd (ar hM (ar aU (q_v 0) ag) ag))
   (b_c (aI (aB bW (ar aU (ar cz (q_v 0) ag) ag) ag) (b_1 (aD (aQ (q_a (q_v 1) ah)))) b_0)
   (b_c (aI (aB bW (ar aU (ar cz (q_v 0) ag) ag) ag) (b_1 (aD (aQ (q_a (q_v 1) (q_a (ar hM (ar aU (ar cz (q_v 0) ag) ag) ag) ah))))) b_0)
   (b_1 (aD (aQ (q_a (ar gZ (ar oY (q_v 1) (ar BM ag ag)) (ar aU (ar cz (q_v 0) ag) ag)) (q_a (ar aU (ar cz (q_v 0) ag) ag) (q_a (ar hM ag (q_v 0)) ah))))))))),?_⟩
 refine⟨_,rfl,_,_,rfl,rfl,(by show(0:Int)<3;decide),_,_,rfl,rfl,?_⟩;refine⟨_,rfl,_,_,rfl,rfl,⟨by decide,by decide⟩,_,_,rfl,rfl,(by show(0:Int)<3;decide),rfl,_,rfl,cK (λ_=>?_) (λ_=>?_)⟩
 ·refine⟨_,rfl,sz rfl,λt gt=>?_⟩;exact q _ [_] _ (af gt _) ⟨t,rfl,ac⟩
 refine⟨_,rfl,_,_,rfl,rfl,⟨by decide,by decide⟩,_,_,rfl,rfl,(by show(0:Int)<3;decide),rfl,_,rfl,cK (λ_=>?_) (λ_=>?_)⟩
 ·refine⟨_,rfl,_,rfl,_,_,rfl,rfl,⟨by decide,by decide⟩,_,_,rfl,rfl,(by show(0:Int)<3;decide),_,_,rfl,rfl,sz rfl,λt gt=>?_⟩;exact q _ [_,_] _ (af gt _) ⟨t,rfl,ac⟩
 have h0:=YD n (show(3:Int)≠0 by decide);have h1:=Yz n (show(0:Int)<3 by decide);refine⟨_,rfl,_,_,rfl,rfl,⟨by decide,by decide,by decide⟩,_,_,rfl,rfl,?_,_,rfl,_,_,rfl,rfl,⟨by decide,by decide⟩,_,_,rfl,rfl,(by show(0:Int)<2;decide),_,_,rfl,rfl,?_⟩
 ·exact .inl ⟨by omega,by omega⟩
 refine⟨_,rfl,_,_,rfl,rfl,⟨by decide,by decide⟩,_,_,rfl,rfl,(by show(0:Int)<5;decide),_,rfl,_,_,rfl,rfl,sz rfl,λt gt=>?_⟩;exact q _ [_,_,_] _ (af gt _) ⟨t,rfl,ac⟩
theorem sF{H:Hp}{a b:Jy}{kvs:JJ}{k:List Key}(e:Rd H a (.dT kvs))(eb:H b=some (.tup (k.map kV))):DGet H a (.ref b) (bw kvs k):=.inr ⟨kvs,k,b,e,rfl,eb,rfl⟩
inductive spIsIn  (vs:JK)(H:Hp)(Q:VK)(E_:XK):Prop
 |mk (mn:Jy) (mvs:JJ) (ol:Ol) (u v:V) (one:Option Nm) (o:Nm) (k:Nat) (b:Bool) (h0:vs=[u,v,.ref mn]) (h1:Rd H mn (.dT mvs)) (h2:Rows H mvs ol) (h3:UpAt H u one) (h4:NameIs H v (nk o)) (h5:Und ol o k one b) (h6:Q (.bl b) H):spIsIn  vs H Q E_
abbrev qt:JA:=top 23
abbrev Cb:Jr:=["_law_one","_law_other","_law_mine"]
theorem tI:FnScope Cb ["_law_one","_law_other","_law_mine"] (aj qt):=⟨rfl,rfl,rfl,by decide,rfl,by decide,by decide⟩
theorem AT{f:Jy}{fd:Jp}(F:Fun K "_law_is_in" "_law_is_in" qt f fd):FnOk P w K mg base CX0 1 f fd ["_law_one","_law_other","_law_mine"] spIsIn:=by
 refine F.okQ tI (λvs H Q E h=>?_) (λcdv A outer s H vs Q E hr h=>?_)
 ·obtain⟨mn,mvs,ol,u,v,one,o,k,b,rfl,_⟩:=h;rfl
 obtain⟨mn,mvs,ol,u,v,one,o,k,b,rfl,hm,R,hu,hv,un,q⟩:=h;obtain⟨vb,rfl,hvb⟩:=id hv;refine⟨_,(b_c (mG ZX (aB iI (q_v 0) aY) (b_c (aI (aB (EH hr.units) (q_v 0) (q_v 1)) (b_1 (aD ce)) b_0)
   (b_1 (au (i:=0) tI.nd (am aq (bp hr.units (q_v 2) (q_v 0)) ag)))))
   (b_1 (aD ce))),?_⟩
 try rw[cxK]
 refine⟨λm σ H'=>H'=H/\∃(u:V) (one:Option Nm),UpAt H u one/\Und ol o m one b/\σ=[some u,some (.ref vb),some (.ref mn)],⟨k,rfl,u,one,hu,un,rfl⟩,?_⟩;rintro m σ H' ⟨rfl,u,one,hu,un,rfl⟩;cases un with
 |none =>obtain rfl:u=.non:=hu;exact⟨_,rfl,rfl,_,rfl,km rfl q⟩
 |self =>obtain⟨ub,rfl,hub⟩:=id hu;refine⟨_,rfl,rfl,_,rfl,jb nofun ⟨λ_ _=>False,λ_ _ z=>z.elim,?_⟩⟩;refine⟨_,rfl,_,rfl,ub,vb,[o.1,o.2],[o.1,o.2],rfl,rfl,hub,hvb,_,rfl,?_⟩;rw[decide_eq_true rfl];exact bn q
 |@up m n it _ hn hl un =>
  obtain⟨ub,rfl,hub⟩:=id hu;obtain⟨iv,e1,ia,uv,pv,rfl,e2,e3,e4⟩:=aC R hl;refine⟨_,rfl,rfl,_,rfl,jb nofun ?_⟩;refine⟨λσ H2=>H2=H'/\σ=[some uv,some (.ref vb),some (.ref mn)],?_,?_⟩
  ·rintro σ' H2 ⟨rfl,rfl⟩;exact⟨m,Ye m,rfl,uv,it.up,e3,un,rfl⟩
  refine⟨_,rfl,_,rfl,ub,vb,[n.1,n.2],[o.1,o.2],rfl,rfl,hub,hvb,_,rfl,?_⟩;have:¬ ([n.1,n.2]=[o.1,o.2]):=λz=>hn (by
   injection z with z1 z2;injection z2 with z2 _;exact Prod.ext z1 z2)
  rw[decide_eq_false this];refine aw ?_;refine⟨_,rfl,_,rfl,mn,.ref ia,rfl,e1▸sF (k:=nk n) hm hub,?_⟩;exact⟨ia,_,_,_,rfl,rfl,JF e2,at0,rfl,rfl⟩
inductive spInOrder  (vs:JK)(H:Hp)(Q:VK)(E_:XK):Prop
 |mk (a mn:Jy) (mvs:JJ) (ol G:Ol) (ks:JK) (h0:vs=[.ref a,.ref mn]) (h1:H a=some (.lst ks)) (h2:H mn=some (.dT mvs)) (h3:Rows H mvs ol) (h4:(ol.map (·.1)).Nodup) (h5:KsAt H G ks) (h6:(∀x∈G,x∈ol)) (h7:G.length<=60) (h8:G.Pairwise (λx y=>HT.lexLt (kyP x).nums (kyP y).nums=true)) (h9:∀H',Same H H'->Q (.bl true) H'):spInOrder  vs H Q E_
theorem vk{H:Hp}{G:Ol}{ks:JK}(x:KsAt H G ks){i:Nat}(hi:i<G.length):∃v,ks[i]?=some v/\NameIs H v (nk (G[i]).1):=by
 have hk:i<ks.length:=by rw[<-Zu x];exact hi
 obtain⟨m,hm,hn⟩:=jG x i _ (Zd hk);rw[Zd hi]at hm;cases hm;exact⟨_,Zd hk,hn⟩
abbrev kG:JA:=top 29
abbrev vL:Jr:=["_law_some","_law_mine","_law_k"]
theorem mV:FnScope vL ["_law_some","_law_mine"] (aj kG):=⟨rfl,rfl,rfl,by decide,rfl,by decide,by decide⟩
theorem uh{f:Jy}{fd:Jp}(F:Fun K "_law_in_order" "_law_in_order" kG f fd)(pi:mg "range" = none)(a8:mg "len" = none):FnOk P w K mg base CX0 1 f fd ["_law_some","_law_mine"] spInOrder:=by
 refine F.okQ mV (λvs H Q E h=>?_) (λcdv A outer s H vs Q E hr h=>?_)
 ·obtain⟨a,mn,mvs,ol,G,ks,rfl,_⟩:=h;rfl
 obtain⟨a,mn,mvs,ol,G,ks,rfl,ha,hm,R,nd,kk,sub,lG,so,q⟩:=h;refine⟨_,(b_c (eV ZX rfl (Ek pi (q_a ag (q_a (q_B fO a8 Z3 (q_a (q_v 0) ah)) ah))) (bv (i:=2) mV.nd) (b_1 (aI (dI (aB (EJ hr) (aQ (q_a (am aq (bp hr.units (q_v 1) (am br (q_v 0) (ar hM (q_v 2) ag))) ag) (q_a (am br (q_v 0) (ar hM (q_v 2) ag)) ah))) (aQ (q_a (am aq (bp hr.units (q_v 1) (am br (q_v 0) (q_v 2))) ag) (q_a (am br (q_v 0) (q_v 2)) ah))))) (b_1 (aD ce)) b_0)))
   (b_1 (aD ce))),?_⟩
 try rw[cxK]
 have lk:=Zu kk;refine⟨_,rfl,a,_,rfl,.inl (JG ha),_,_,rfl,⟨by decide,by decide,by omega,by omega⟩,?_⟩;refine wo (lo:=1) (λi σ H'=>Same H H'/\∃o:Option V,σ=[some (.ref a),some (.ref mn),o]) ⟨Same.refl _,none,rfl⟩ (λi σ H' hi hP D' kD=>?_) (λσ H' hP=>?_)
 ·obtain⟨sm,o,rfl⟩:=hP;have h1:i<G.length:=by omega
  have h2:i+1<G.length:=by omega
  obtain⟨v1,g1,n1⟩:=vk kk h1;obtain⟨v2,g2,n2⟩:=vk kk h2;have lt:=(List.pairwise_iff_getElem.mp so) i (i+1) h1 h2 (Ye i);have m1:=sub _ (Z9 h1);have m2:=sub _ (Z9 h2);generalize G[i]=x1 at *;generalize G[i+1]=x2 at *;obtain⟨j1,hj1⟩:=Zt.mp m1;obtain⟨j2,hj2⟩:=Zt.mp m2;have ts:=JE sm;have R':=R.ts ts;obtain⟨w1,e1,ia1,uv1,pv1,rfl,f1,_,⟨pb1,rfl,f3⟩⟩:=aC R' (aV nd hj1);obtain⟨w2,e2,ia2,uv2,pv2,rfl,f2,_,⟨pb2,rfl,f4⟩⟩:=aC R' (aV nd hj2);obtain⟨nb1,rfl,hn1⟩:=n1.ts' ts;obtain⟨nb2,rfl,hn2⟩:=n2.ts' ts;have ha':=sm _ _ ha;have hm':=sm _ _ hm;have at1':atI ks (1+(i:Int)-1)=some (.ref nb1):=by rw[show(1:Int)+(i:Int)-1=(i:Int) by omega];exact de g1
  have at2':atI ks (1+(i:Int))=some (.ref nb2):=by rw[show(1:Int)+(i:Int)=((i+1:Nat):Int) by omega];exact de g2
  refine⟨_,rfl,_,rfl,_,rfl,_,_,rfl,rfl,a,_,_,_,rfl,rfl,JG ha',at1',mn,.ref ia1,rfl,e1▸DGet.t (k:=nk x1.1) hm' hn1,ia1,_,_,_,rfl,rfl,JF f1,at1,?_⟩;refine⟨_,rfl,_,rfl,_,_,rfl,rfl,a,_,_,_,rfl,rfl,JG ha',at1',sz rfl,λt1 gt1=>?_⟩;have v1':=af gt1 (.tup [.ref pb1,.ref nb1]);refine⟨_,rfl,_,rfl,_,rfl,a,_,_,_,rfl,rfl,JG (v1' _ _ ha'),at2',mn,.ref ia2,rfl,e2▸DGet.t (k:=nk x2.1) (v1' _ _ hm') (v1' _ _ hn2),ia2,_,_,_,rfl,rfl,JF (v1' _ _ f2),at1,?_⟩;refine⟨_,rfl,_,rfl,a,_,_,_,rfl,rfl,JG (v1' _ _ ha'),at2',sz rfl,λt2 gt2=>?_⟩;have v2':=af gt2 (.tup [.ref pb2,.ref nb2]);have vv:=v1'.trans v2';refine⟨t1,t2,pb1,nb1,pb2,nb2,x1.2.pl,[x1.1.1,x1.1.2],x2.2.pl,[x2.1.1,x2.1.2],rfl,rfl,v2' _ _ ac,ac,vv _ _ f3,vv _ _ hn1,vv _ _ f4,vv _ _ hn2,_,rfl,?_⟩;rw[show HT.lexLt (bI x1.2.pl [x1.1.1,x1.1.2]) (bI x2.2.pl [x2.1.1,x2.1.2])=true from lt];exact aw (kD _ _ ⟨sm.trans vv,_,rfl⟩)
 ·obtain⟨sm,o,rfl⟩:=hP;exact q _ sm
theorem nY{β:Type}:∀{a b:As β},a.map (·.1)=b.map (·.1)->(a.map (·.1)).Nodup->(∀x,look a x=look b x)->a=b
 | [],[],_,_,_=>rfl
 | [],_::_,h,_,_=>by cases h
 |_::_,[],h,_,_=>by cases h
 |p::a,q::b,h,nd,hl=>by
  rw[Zk,Zk]at h;injection h with h1 h2;rw[Zk,ZG]at nd;have h1:p.1=q.1:=h1;have e0:=hl p.1;unfold look at e0;rw[Jg rfl,Jg h1.symm]at e0;have nb:∀{l:As β},p.1∉l.map (·.1)->look l p.1=none:=fun{l} hn=>by
   induction l with
   |nil=>rfl
   |cons y l ih =>rw[Zk,Zj,not_or]at hn;unfold look;rw[Jf (Zs hn.1)];exact ih hn.2
  have ih:=nY (a:=a) (b:=b) h2 nd.2 λx=>by
   by_cases c:p.1=x
   ·rw[<-c,nb nd.1,nb (by rw[<-h2];exact nd.1)]
   ·have:=hl x;unfold look at this;rw[Jf c,Jf (by rw[<-h1];exact c)]at this;exact this
  rw[ih,Prod.ext h1 (Zb e0)]
theorem jc{β:Type}(f:β->β):∀(l:As β) (x:Nm),look (l.map λp=>(p.1,f p.2)) x=(look l x).map f
 | [],_=>rfl
 |p::l,x=>by
  rw[Zk];unfold look;by_cases c:p.1=x
  ·rw[Jg c,Jg c];rfl
  ·rw[Jf c,Jf c];exact jc f l x
def gX(ol:Ol)(n m:Nm):Ol :=
 match look ol n,look ol m with
 |some itn,some itm=>((ay (ay ol n { itn with tx:=itn.tx++itm.tx }) m { itm with tx:="" }).map λp=>(p.1,cw n m p.2))
 |_,_=>ol
def chO(ol:Ol)(n:Nm)(f:It->It):Ol:=match look ol n with
 |some it=>ay ol n (f it)
 |none=>ol
def kC(ol:Ol)(n m:Nm)(a:Int)(pl:Jq):Ol:=match look ol n with
 |some it=>ay (ay ol n { it with tx:=bg it.tx none (some a) }) m ⟨it.up,pl,bg it.tx (some a) none,false,none,false⟩
 |none=>ol
def apF(ol:Ol):Sd->Ol
 |.put n u pl tx=>ay ol n ⟨u,pl,tx,false,none,false⟩
 |.move n u pl=>chO ol n λit=>{ it with up:=u,pl:=pl }
 |.write n tx=>chO ol n λit=>{ it with tx:=tx }
 |.mark n b=>chO ol n λit=>{ it with dn:=b }
 |.due n w=>chO ol n λit=>{ it with wh:=w }
 |.fold n b=>chO ol n λit=>{ it with fo:=b }
 |.part n a m pl=>kC ol n m a pl
 |.join n m=>gX ol n m
 |.gone _=>ol
def StB:Sd->Prop
 |.put _ _ _ tx=>PyData.strOk tx=true/\tx.length<=60
 |.write _ tx=>PyData.strOk tx=true/\tx.length<=60
 |.part _ a _ _=>0<=a
 |_=>True
theorem pA{ol:Ol}{n m:Nm}{a b:It}{itn itm:It}(hn:look ol n=some itn)(hm:look ol m=some itm):((ay (ay ol n a) m b).map (·.1))=ol.map (·.1):=by
 rw[re,Jg,re,Jg (by rw[hn];rfl)];rw[aG];by_cases c:m=n
 ·rw[Jg c];rfl
 ·rw[Jf c,hm];rfl
theorem xN{ol ol':Ol}{s:Sd}(nd:(ol.map (·.1)).Nodup)(sb:StB s)(du:Due ol s .ok)(h:Ap ol s ol'):ol'=apF ol s:=by
 cases h with
 |put=>rfl
 |move h=>show _=chO _ _ _;unfold chO;rw[h]
 |write h=>show _=chO _ _ _;unfold chO;rw[h]
 |mark h=>show _=chO _ _ _;unfold chO;rw[h]
 |due h=>show _=chO _ _ _;unfold chO;rw[h]
 |fold h=>show _=chO _ _ _;unfold chO;rw[h]
 |@part n a m pl it h =>show _=kC _ _ _ _ _;unfold kC;rw[h];have a0:(0:Int)<=a:=sb;rw[Jf (by omega)]
 |gone=>rfl
 |@join n m itn itm ol' hn hm j =>
  have nm:n≠m:=λz=>by
   subst z;generalize ho:Out.ok=o at du;cases du with
   |taken=>cases ho
   |none=>cases ho
   |bd r _ _ b =>
    cases b with
    |join un =>
     cases un with
     |self=>cases ho
     |up hne _ _=>exact hne rfl
  show _=gX _ _ _;unfold gX;rw[hn,hm];obtain⟨itm2,h2,hl⟩:=j.lk;rw[aG,Jf (Zs nm),hm]at h2;cases h2;refine nY ?_ (by rw[j.nm];exact nd) λx=>?_
  ·rw[j.nm];show _=(((ay (ay ol n _) m _).map λp=>(p.1,cw n m p.2)).map (·.1));rw[YN];exact(pA (a:={ itn with tx:=itn.tx++itm.tx }) (b:={ itm with tx:="" }) hn hm).symm
  ·rw[hl x];exact(jc (cw n m) _ x).symm
abbrev Wgt(ol:Ol)(B:Nat):Prop:=∃L:List Nm,L.Nodup/\(∀x,(look ol x).isSome=true↔x∈L)/\(L.map (wt ol)).sum<=B
structure Ok27(ol:Ol)(gs:As Unit)(k:Nat):Prop where
 nd:(ol.map (·.1)).Nodup
 te:Ter ol
 up:∀x it,look ol x=some it->dX ol it.up
 sk:∀x it,look ol x=some it->PyData.strOk it.tx=true
 wg:Wgt ol (60*k)
 le:ol.length<=k
 gl:gs.length<=k
theorem Ok27.zero:Ok27 [] [] 0:=⟨.nil,(λn it h=>nomatch h),(λn it h=>nomatch h),(λn it h=>nomatch h),⟨[],List.nodup_nil,λx=>⟨λh=>(nomatch h),λh=>(nomatch h)⟩,Za _⟩,Za _,Za _⟩
theorem Ok27.tx{ol:Ol}{gs:As Unit}{k:Nat}(h:Ok27 ol gs k){n:Nm}{it:It}(hl:look ol n=some it):it.tx.length<=60*k:=by obtain⟨L,nd,hL,hs⟩:=h.wg;have:=uZ (f:=wt ol) ((hL n).mp (by rw[hl];rfl));rw[gQ hl]at this;omega
theorem eC{β:Type}{l:As β}{n:Nm}{i:β}(nd:(l.map (·.1)).Nodup):((ay l n i).map (·.1)).Nodup:=by
 rw[ip];by_cases c:(look l n).isSome=true
 ·rw[Jg c];exact nd
 ·rw[Jf c,List.nodup_append];refine⟨nd,by simp,λa ha b hb z=>c ?_⟩;obtain rfl:b=n:=by simpa using hb
  obtain⟨x,hx,rfl⟩:=ZF.mp ha;obtain⟨i',hi⟩:=Zt.mp hx;have:=aV nd hi;rw[z]at this;rw[this];rfl
theorem xV{x:Str}{lo hi:Option Int}(h:PyData.strOk x=true):PyData.strOk (bg x lo hi)=true:=by show(bg x lo hi).cps.all (·<0x110000)=true;have h:x.cps.all (·<0x110000)=true:=h;rw[Array.all_eq_true']at h ⊢;intro c hc;exact h c (by have:=Al (z:=x) (lo:=lo) (hi:=hi) (c:=c) (by simpa using hc);simpa using this)
theorem yc{ol:Ol}{s:Sd}(h:Due ol s .ok):(∀m∈s.news,look ol m=none)/\(∀m∈s.items,(look ol m).isSome=true)/\Bd ol s none:=by
 generalize ho:Out.ok=o at h;cases h with
 |taken=>cases ho
 |none=>cases ho
 |bd r h i b =>
  cases r with
  |none=>exact⟨h,i,b⟩
  |some z=>cases z<;>cases ho
theorem Ci{ol:Ol}{n:Nm}{u:Option Nm}{pl:Jq}(h:Bd ol (.move n u pl) none):∃k,Und ol n k u false:=by
 generalize hr:(none:Option Bool)=r at h;cases h with
 |@move _ _ _ k b un =>
  cases b with
  |true=>cases hr
  |false=>exact⟨k,un⟩
theorem uy{ol:Ol}{n m:Nm}(h:Bd ol (.join n m) none):∃k,Und ol m k (some n) false:=by
 generalize hr:(none:Option Bool)=r at h;cases h with
 |@join _ _ k b un =>
  cases b with
  |true=>cases hr
  |false=>exact⟨k,un⟩
theorem Cj{ol:Ol}{n m:Nm}{a:Int}{pl:Jq}{it:It}(h:Bd ol (.part n a m pl) none)(hl:look ol n=some it):¬(it.tx.length:Int)<a:=by
 generalize hr:(none:Option Bool)=r at h;cases h with
 |@part _ _ _ _ it' hl' =>rw[hl]at hl';cases hl';intro z;rw[Jg z]at hr;cases hr
theorem Ok27.change{ol:Ol}{gs:As Unit}{k:Nat}(h:Ok27 ol gs k){n:Nm}{it it':It}(hl:look ol n=some it)(te:Ter (ay ol n it'))(up:dX ol it'.up)(sk:PyData.strOk it'.tx=true)(wg:it'.tx.length<=it.tx.length+60):Ok27 (ay ol n it') gs (k+1):=by
 have le:=h.le;have gl:=h.gl;have upS:∀{u:Option Nm},dX ol u->dX (ay ol n it') u:=λhu m z=>by
  rw[aG];by_cases c:m=n
  ·rw[Jg c];rfl
  ·rw[Jf c];exact hu m z
 refine⟨eC h.nd,te,λx i hx=>?_,λx i hx=>?_,?_,by rw[dj hl];omega,by omega⟩
 ·rw[aG]at hx;by_cases c:x=n
  ·rw[Jg c]at hx;cases hx;exact upS up
  ·rw[Jf c]at hx;exact upS (h.up x i hx)
 ·rw[aG]at hx;by_cases c:x=n
  ·rw[Jg c]at hx;cases hx;exact sk
  ·rw[Jf c]at hx;exact h.sk x i hx
 ·have:=DJ (c:=60) h.wg hl wg;rw[show 60*k+60=60*(k+1) by omega]at this;exact this
theorem Ok27.step{ol:Ol}{gs:As Unit}{k:Nat}{s:Sd}(h:Ok27 ol gs k)(sb:StB s)(du:Due ol s .ok):Ok27 (apF ol s) (ls gs s) (k+1):=by
 obtain⟨nw,itm,bd⟩:=yc du;have le:=h.le;have gl:=h.gl;have there:∀{n:Nm},n∈s.items->∃it,look ol n=some it:=λhn=>Zh.mp (itm _ hn);have newUp:∀{n:Nm} {it:It} {u:Option Nm},dX ol u->dX (ay ol n it) u:=fun{n it u} hu m z=>by
  rw[aG];by_cases c:m=n
  ·rw[Jg c];rfl
  ·rw[Jf c];exact hu m z
 have chu:∀{u:Option Nm},dX ol u->∃j,Chn ol j u:=fun{u} hu=>by
  cases u with
  |none=>exact⟨0,.none⟩
  |some x =>obtain⟨i,hi⟩:=Zh.mp (hu x rfl);exact h.te x i hi
 cases s with
 |put n u pl tx =>
  have no:look ol n=none:=nw n (by simp[Sd.news]);have uo:dX ol u:=λm z=>itm m (by simp[Sd.items,z]);obtain⟨j,ch⟩:=chu uo;refine⟨eC h.nd,Ter.new (it:=⟨u,pl,tx,false,none,false⟩) h.te no ch,λx i hx=>?_,λx i hx=>?_,?_,?_,by show gs.length<=k+1;omega⟩
  ·have hx:look (ay ol n ⟨u,pl,tx,false,none,false⟩) x=some i:=hx;rw[aG]at hx;by_cases c:x=n
   ·rw[Jg c]at hx;cases hx;exact newUp uo
   ·rw[Jf c]at hx;exact newUp (h.up x i hx)
  ·have hx:look (ay ol n ⟨u,pl,tx,false,none,false⟩) x=some i:=hx;rw[aG]at hx;by_cases c:x=n
   ·rw[Jg c]at hx;cases hx;exact sb.1
   ·rw[Jf c]at hx;exact h.sk x i hx
  ·obtain⟨L,a,b,c⟩:=vG (it:=⟨u,pl,tx,false,none,false⟩) h.wg no;have:=sb.2;exact⟨L,a,b,Zr c (by show 60*k+tx.length<=60*(k+1);omega)⟩
  ·have:=iT ol n (⟨u,pl,tx,false,none,false⟩:It);show(ay ol n _).length<=k+1;omega
 |move n u pl =>obtain⟨it,hl⟩:=there (n:=n) (by simp[Sd.items]);obtain⟨j,un⟩:=Ci bd;show Ok27 (chO ol n _) gs (k+1);unfold chO;rw[hl];exact h.change hl (Ter.move h.te un) (λm z=>itm m (by simp[Sd.items,show u=some m from z])) (h.sk n it hl) (by show it.tx.length<=_;omega)
 |write n tx =>obtain⟨it,hl⟩:=there (n:=n) (by simp[Sd.items]);show Ok27 (chO ol n _) gs (k+1);unfold chO;rw[hl];exact h.change hl (Ter.keep h.te hl rfl) (h.up n it hl) sb.1 (by have:=sb.2;show tx.length<=_;omega)
 |mark n b =>obtain⟨it,hl⟩:=there (n:=n) (by simp[Sd.items]);show Ok27 (chO ol n _) gs (k+1);unfold chO;rw[hl];exact h.change hl (Ter.keep h.te hl rfl) (h.up n it hl) (h.sk n it hl) (by show it.tx.length<=_;omega)
 |due n b =>obtain⟨it,hl⟩:=there (n:=n) (by simp[Sd.items]);show Ok27 (chO ol n _) gs (k+1);unfold chO;rw[hl];exact h.change hl (Ter.keep h.te hl rfl) (h.up n it hl) (h.sk n it hl) (by show it.tx.length<=_;omega)
 |fold n b =>obtain⟨it,hl⟩:=there (n:=n) (by simp[Sd.items]);show Ok27 (chO ol n _) gs (k+1);unfold chO;rw[hl];exact h.change hl (Ter.keep h.te hl rfl) (h.up n it hl) (h.sk n it hl) (by show it.tx.length<=_;omega)
 |part n a m pl =>
  obtain⟨it,hl⟩:=there (n:=n) (by simp[Sd.items]);have no:look ol m=none:=nw m (by simp[Sd.news]);have a0:(0:Int)<=a:=sb;have nm:m≠n:=λz=>by rw[z,hl]at no;cases no
  have cl:=Cq (Cj bd hl);rw[Jf (by omega)]at cl;show Ok27 (kC ol n m a pl) gs (k+1);unfold kC;rw[hl];dsimp only;generalize ho:ay ol n { it with tx:=bg it.tx none (some a) }=o1;have l1:∀x,look o1 x=if x=n then some { it with tx:=bg it.tx none (some a) }else look ol x:=λx=>by rw[<-ho,aG]
  have te1:Ter o1:=by rw[<-ho];exact Ter.keep h.te hl rfl
  have no1:look o1 m=none:=by rw[l1,Jf nm,no]
  have uo1:∀{u:Option Nm},dX ol u->dX o1 u:=λhu x z=>by
   rw[l1];by_cases c:x=n
   ·rw[Jg c];rfl
   ·rw[Jf c];exact hu x z
  have uoN:dX o1 it.up:=uo1 (h.up n it hl);have ch1:∃j,Chn o1 j it.up:=by
   cases hu:it.up with
   |none=>exact⟨0,.none⟩
   |some x =>obtain⟨i,hi⟩:=Zh.mp (uoN x hu);exact te1 x i hi
  obtain⟨j,ch⟩:=ch1;have wg1:Wgt o1 (60*k-(bg it.tx (some a) none).length):=by
   obtain⟨L,nd,hL,hs⟩:=h.wg;have hn:n∈L:=(hL n).mp (by rw[hl];rfl);refine⟨L,nd,λx=>?_,?_⟩
   ·rw[l1];by_cases z:x=n
    ·rw[Jg z,z];exact⟨λ_=>hn,λ_=>rfl⟩
    ·rw[Jf z];exact hL x
   ·have:=jR (f:=wt o1) (g:=wt ol) nd hn λy hy=>by rw[<-ho,jU,Jf hy]
    have w1:wt o1 n=(bg it.tx none (some a)).length:=by rw[<-ho,jU,Jg rfl]
    rw[w1,gQ hl]at this;omega
  have hlen:=h.tx hl;refine⟨eC (by rw[<-ho];exact eC h.nd),Ter.new te1 no1 ch,λx i hx=>?_,λx i hx=>?_,?_,?_,by omega⟩
  ·have up2:∀{u:Option Nm} {i':It},dX o1 u->dX (ay o1 m i') u:=fun{u i'} hu y z=>by
    rw[aG];by_cases c:y=m
    ·rw[Jg c];rfl
    ·rw[Jf c];exact hu y z
   rw[aG]at hx;by_cases c:x=m
   ·rw[Jg c]at hx;cases hx;exact up2 uoN
   ·rw[Jf c,l1]at hx;by_cases c2:x=n
    ·rw[Jg c2]at hx;cases hx;exact up2 uoN
    ·rw[Jf c2]at hx;exact up2 (uo1 (h.up x i hx))
  ·rw[aG]at hx;by_cases c:x=m
   ·rw[Jg c]at hx;cases hx;exact xV (h.sk n it hl)
   ·rw[Jf c,l1]at hx;by_cases c2:x=n
    ·rw[Jg c2]at hx;cases hx;exact xV (h.sk n it hl)
    ·rw[Jf c2]at hx;exact h.sk x i hx
  ·obtain⟨L,a',b,c⟩:=vG (it:=⟨it.up,pl,bg it.tx (some a) none,false,none,false⟩) wg1 no1;exact⟨L,a',b,Zr c (by show 60*k-(bg it.tx (some a) none).length+(bg it.tx (some a) none).length<=60*(k+1);omega)⟩
  ·have:=iT o1 m (⟨it.up,pl,bg it.tx (some a) none,false,none,false⟩:It);have:o1.length=ol.length:=by rw[<-ho,dj hl]
   omega
 |join n m =>
  obtain⟨itn,hn⟩:=there (n:=n) (by simp[Sd.items]);obtain⟨itm',hm⟩:=there (n:=m) (by simp[Sd.items]);obtain⟨j,un⟩:=uy bd;have nm:n≠m:=λz=>(qA un) (by rw[z])
  have jr:JoinR ol n m itn itm' (gX ol n m):=by
   unfold gX;rw[hn,hm];refine⟨?_,?_,itm',by rw[aG,Jf (Zs nm)];exact hm,λx=>jc (cw n m) _ x⟩
   ·rw[Ze];exact(dj (j:=itm') (by rw[aG,Jf (Zs nm)];exact hm)).trans (dj hn)
   ·rw[YN];exact pA hn hm
  show Ok27 (gX ol n m) gs (k+1);obtain⟨j0,j1⟩:=lB hn hm jr;have back:∀x i,look (gX ol n m) x=some i->∃it,look ol x=some it/\∃i0,i=cw n m i0/\i0.up=it.up/\i0.tx=(if x=m then("":Str)else if x=n then itn.tx++itm'.tx else it.tx):=λx i hx=>by
   cases e:look ol x with
   |none=>rw[j0 x e]at hx;cases hx
   |some it =>obtain⟨i0,e1,e2,e3⟩:=j1 x it e;rw[e1]at hx;cases hx;exact⟨it,rfl,i0,rfl,e2,e3⟩
  refine⟨by rw[jr.nm];exact h.nd,Ter.join h.te hn hm jr un,λx i hx=>?_,λx i hx=>?_,?_,by rw[jr.len];omega,by omega⟩
  ·obtain⟨it,h1,i0,rfl,h2,h3⟩:=back x i hx;intro y hy;have some_of:∀z,(look ol z).isSome=true->(look (gX ol n m) z).isSome=true:=λz hz=>by obtain⟨iz,hiz⟩:=Zh.mp hz;obtain⟨i1,e1,_⟩:=j1 z iz hiz;rw[e1];rfl
   rw[mD,h2]at hy;refine some_of y ?_;by_cases c:it.up=some m
   ·rw[Jg c]at hy;cases hy;rw[hn];rfl
   ·rw[Jf c]at hy;exact h.up x it h1 y hy
  ·obtain⟨it,h1,i0,rfl,h2,h3⟩:=back x i hx;rw[vx,h3];by_cases c:x=m
   ·rw[Jg c];decide +kernel
   ·rw[Jf c];by_cases c2:x=n
    ·rw[Jg c2];exact yR (h.sk n itn hn) (h.sk m itm' hm)
    ·rw[Jf c2];exact h.sk x it h1
  ·obtain⟨L,a',b,c⟩:=Bw h.wg hn hm nm jr;exact⟨L,a',b,Zr c (by omega)⟩
 |gone n =>
  refine⟨h.nd,h.te,h.up,h.sk,?_,by show ol.length<=k+1;omega,?_⟩
  ·obtain⟨L,a',b,c⟩:=h.wg;exact⟨L,a',b,Zr c (by omega)⟩
  ·have:=iT gs n ();show(ay gs n ()).length<=k+1;omega
theorem yn{ol:Ol}{gs:As Unit}:fS ol gs none=false:=Gn.none.is
theorem kh{ol:Ol}{gs:As Unit}{n:Nm}{it:It}(te:Ter ol)(hl:look ol n=some it):fS ol gs (some n)=((look gs n).isSome ||fS ol gs it.up):=by
 cases c:(look gs n).isSome with
 |true=>exact(Gn.hit (ol:=ol) c).is
 |false =>obtain⟨k,ch⟩:=te.up hl;obtain⟨j,b,g⟩:=ch.gn gs;rw[Bool.false_or,g.is];exact(Gn.up c hl g).is
noncomputable def kp(ol:Ol)(gs:As Unit):Ol:=ol.filter (ngB ol gs)
theorem mR{f:Nm×It->Bool}:∀{l:Ol} {n:Nm} {it:It},(l.map (·.1)).Nodup->look l n=some it->f (n,it)=true->look (l.filter f) n=some it
 |y::l,n,it,nd,hl,hf=>by
  rw[Zk,ZG]at nd;unfold look at hl;by_cases c:y.1=n
  ·rw[Jg c]at hl;cases hl;have e:y=(n,y.2):=Prod.ext c rfl;rw[Yd (by rw[e];exact hf)];unfold look;rw[Jg c]
  ·rw[Jf c]at hl;have ih:=mR nd.2 hl hf;by_cases d:f y=true
   ·rw[Yd d];unfold look;rw[Jf c];exact ih
   ·rw[Yn d];exact ih
theorem uX{ol:Ol}{gs:As Unit}{n:Nm}{it:It}(nd:(ol.map (·.1)).Nodup)(hl:look ol n=some it)(g:fS ol gs (some n)=false):look (kp ol gs) n=some it:=mR nd hl (by unfold ngB;rw[g];rfl)
theorem rN{ol:Ol}{gs:As Unit}(nd:(ol.map (·.1)).Nodup):((kp ol gs).map (·.1)).Nodup:=List.Pairwise.sublist (List.Sublist.map _ List.filter_sublist) nd
theorem lF{ol:Ol}{gs:As Unit}{x:Nm×It}(h:x∈kp ol gs):x∈ol/\fS ol gs (some x.1)=false:=by obtain⟨h1,h2⟩:=ZQ.mp h;unfold ngB at h2;rw[Bool.not_eq_true']at h2;exact⟨h1,h2⟩
theorem D7{ol:Ol}{gs:As Unit}(nd:(ol.map (·.1)).Nodup)(te:Ter ol){k:Nat}{u:Option Nm}(h:Chn ol k u):fS ol gs u=false->Chn (kp ol gs) k u:=by
 induction h with
 |none=>intro _;exact .none
 |@up k n it hl _ ih =>intro g;have r:=kh (gs:=gs) te hl;rw[g]at r;have r:=(Bool.or_eq_false_iff.mp r.symm).2;exact .up (uX nd hl g) (ih r)
theorem wJ{ol:Ol}{gs:As Unit}{B:Nat}(nd:(ol.map (·.1)).Nodup)(te:Ter ol)(tb:gh ol B):gh (kp ol gs) B:=λx hx=>by obtain⟨h1,h2⟩:=lF hx;obtain⟨k,hk,ch⟩:=tb x h1;exact⟨k,hk,D7 nd te ch h2⟩
theorem Gy{ol:Ol}{gs:As Unit}(nd:(ol.map (·.1)).Nodup)(te:Ter ol)(up:∀x it,look ol x=some it->dX ol it.up):∀x∈kp ol gs,∀q,x.2.up=some q->(look (kp ol gs) q).isSome=true:=λx hx q hq=>by obtain⟨h1,h2⟩:=lF hx;obtain⟨i,hi⟩:=Zt.mp h1;have hl:=aV nd hi;obtain⟨it,hit⟩:=Zh.mp (up _ _ hl q hq);have r:=kh (gs:=gs) te hl;rw[h2]at r;have r:=(Bool.or_eq_false_iff.mp r.symm).2;rw[hq]at r;rw[uX nd hit r];rfl
theorem yH{ol M:Ol}{gs:As Unit}(nd:(ol.map (·.1)).Nodup)(te:Ter ol)(sub:∀x∈M,x∈ol){u:Option Nm}(g:fS ol gs u=false):grp (M.filter (ngB ol gs)) u=grp (M.filter (cZ gs)) u:=by
 rw[kj,kj];refine List.filter_congr λx hx=>?_;by_cases c:x.2.up=u
 ·rw[decide_eq_true c,Bool.true_and,Bool.true_and];obtain⟨i,hi⟩:=Zt.mp (sub x hx);have r:=kh (gs:=gs) te (aV nd hi);rw[c,g,Bool.or_false]at r;unfold ngB cZ;rw[r]
 ·rw[decide_eq_false c];rfl
theorem Cu{ol M:Ol}{gs:As Unit}(nd:(ol.map (·.1)).Nodup)(te:Ter ol)(sub:∀x∈M,x∈ol){st out:List DI}{k:Nat}(h:Dfs (M.filter (ngB ol gs)) st out k):(∀x∈st,fS ol gs (some x.2.1)=false)->Dfs (M.filter (cZ gs)) st out k:=by
 induction h with
 |nil=>intro _;exact .nil
 |@cons d m rest out k _ ih =>
  intro hs;have hm:=hs _ Zl;refine .cons ?_;rw[<-yH nd te sub hm];refine ih λx hx=>?_;rcases ZC.mp hx with hx|hx
  ·obtain⟨y,hy,rfl⟩:=ZF.mp hx;have:=(ZQ.mp (cU.mp hy).1).2;unfold ngB at this;rw[Bool.not_eq_true']at this;exact this
  ·exact hs x (Zf _ hx)
theorem vF{ol:Ol}{B:Nat}(nd:(ol.map (·.1)).Nodup)(tb:gh ol B)(l3:ol.length<=60):∀M:Ol,M.Perm ol->∃out k,Dfs M (eK M) out k/\k<=60:=λM pe=>by
 obtain⟨out,k,df⟩:=Ea pe nd tb;refine⟨out,k,df,?_⟩;have ndM:(M.map (·.1)).Nodup:=(pe.map _).nodup_iff.mpr nd;have on:∀n it,look M n=some it->K27.cnt n out=1:=λn it hl=>by obtain⟨j,_,ch⟩:=tb (n,it) (pe.mem_iff.mp (iB hl));exact sC ndM df (lH pe nd) ch n rfl
 have:=(qM ndM df on).length_eq;rw[Ze,Ze,pe.length_eq,df.len]at this;omega
theorem DF{ol M:Ol}{gs:As Unit}(nd:(ol.map (·.1)).Nodup)(te:Ter ol)(sub:∀x∈M,x∈ol):eK (M.filter (cZ gs))=eK (M.filter (ngB ol gs)):=by show(grp _ none).map _=(grp _ none).map _;rw[yH nd te sub yn]
theorem tS{ol:Ol}{gs:As Unit}{B:Nat}(nd:(ol.map (·.1)).Nodup)(te:Ter ol)(tb:gh ol B)(l3:ol.length<=60):∀M:Ol,M.Perm ol->∃out k,Dfs (M.filter (cZ gs)) (eK (M.filter (cZ gs))) out k/\k<=60/\Dfs (M.filter (ngB ol gs)) (eK (M.filter (ngB ol gs))) out k:=λM pe=>by have sub:∀x∈M,x∈ol:=λx hx=>pe.mem_iff.mp hx;obtain⟨out,k,df,hk⟩:=vF (rN (gs:=gs) nd) (wJ nd te tb) (Zr (ZJ _ _) l3) (M.filter (ngB ol gs)) (pe.filter _);refine⟨out,k,?_,hk,df⟩;rw[DF nd te sub];refine Cu nd te sub df λx hx=>?_;obtain⟨y,hy,rfl⟩:=ZF.mp hx;have:=(ZQ.mp (cU.mp hy).1).2;unfold ngB at this;rw[Bool.not_eq_true']at this;exact this
inductive OutOf(ol:Ol)(out:List DI):Prop
 |mk (M k:_) (h0:M.Perm ol) (h1:M.Pairwise leP) (h2:Dfs M (eK M) out k):OutOf ol out
theorem CV{ol:Ol}{o1 o2:List DI}(nd:(ol.map (·.1)).Nodup)(h1:OutOf ol o1)(h2:OutOf ol o2):o1=o2:=by obtain⟨M,k,p,s,d⟩:=h1;obtain⟨M',k',p',s',d'⟩:=h2;have:=kK nd p p' s s';subst this;exact pS d d'
theorem yW{ol M:Ol}{gs:As Unit}{B:Nat}{out:List DI}{k:Nat}(nd:(ol.map (·.1)).Nodup)(te:Ter ol)(tb:gh ol B)(l3:ol.length<=60)(pe:M.Perm ol)(so:M.Pairwise leP)(df:Dfs (M.filter (cZ gs)) (eK (M.filter (cZ gs))) out k):OutOf (kp ol gs) out:=by obtain⟨out',k',d1,_,d2⟩:=tS (gs:=gs) nd te tb l3 M pe;rw[pS df d1];exact⟨_,k',pe.filter _,List.Pairwise.filter _ so,d2⟩
theorem tV{ol M:Ol}{out:List DI}{k:Nat}(pe:M.Perm ol)(df:Dfs M (eK M) out k):∀ x∈out,x.2∈ol:=λx hx=>pe.mem_iff.mp (df.mem (λz hz=>by
 obtain⟨w',hw,rfl⟩:=ZF.mp hz;exact (cU.mp hw).1) x hx)
theorem Cz{ol:Ol}{gs:As Unit}{k:Nat}{u:Option Nm}{b:Bool}(h:Gn ol gs k u b):b=true↔∃o,(look gs o).isSome=true/\∃j,Und ol o j u true:=by
 induction h with
 |none =>refine⟨nofun,fun⟨o,h1,j,h2⟩=>(by cases h2)⟩
 |@hit n h=>exact⟨λ_=>⟨n,h,0,.self⟩,λ_=>rfl⟩
 |@up k n it b hg hl _ ih =>
  rw[ih];constructor
  ·rintro⟨o,h1,j,h2⟩;refine⟨o,h1,j+1,.up (λz=>?_) hl h2⟩;rw[z,h1]at hg;cases hg
  ·rintro⟨o,h1,j,h2⟩;cases h2 with
   |self=>rw[h1]at hg;cases hg
   |up hne hl' h3 =>rw[hl]at hl';cases hl';exact⟨o,h1,_,h3⟩
def jl:Str:=(" !\"#$&'()*+,-./0123456789:;<=>?@ABCDEFGHIJKLMNOPQRSTUVWXYZ[\\]^_`":Str)++("abcdefghijklmnopqrstuvwxyz{|}~":Str)
theorem sg:jl.length=94/\jl.cps.toList.length=94:=by decide
theorem Cf:∀c∈jl.cps.toList,c<0x110000:=by decide
inductive spText  (vs:JK)(H:Hp)(Q:VK)(E_:XK):Prop
 |mk (n:Int) (h0:vs=[.int n]) (h1:∀t:Str,PyData.strOk t=true->t.length<=60->Q (.str t) H):spText  vs H Q E_
abbrev tG:JA:=top 20
abbrev DU:Jr:=["_law_number","_law_some","_law_many","_law_found","_law_k"]
theorem fM:FnScope DU ["_law_number"] (aj tG):=⟨rfl,rfl,rfl,by decide,rfl,by decide,by decide⟩
theorem CN{f:Jy}{fd:Jp}(F:Fun K "_law_text" "_law_text" tG f fd)(pi:mg "range" = none):FnOk P w K mg base CX0 1 f fd ["_law_number"] spText:=by
 refine F.okQ fM (λvs H Q E h=>?_) (λcdv A outer s H vs Q E hr h=>?_)
 ·obtain⟨n,rfl,_⟩:=h;rfl
 obtain⟨c,rfl,q⟩:=h;refine⟨_,(b_c (au (i:=1) fM.nd aE)
   (b_c (au (i:=1) fM.nd (ar oX (q_v 1) aE))
   (b_c (au (i:=2) fM.nd (ar aU (q_v 0) ag))
   (b_c (hW (aI (aB bW (ar aU (ar cz (q_v 0) ag) ag) ag) (b_1 (au (i:=2) fM.nd (ar hM ag (ar aU (q_v 0) ag)))) b_0))
   (b_c (au (i:=3) fM.nd aE)
   (b_c (eV ZX rfl (Ej pi (q_a (q_v 2) ah)) (bv (i:=4) fM.nd) (b_1 (au (i:=3) fM.nd (ar oX (q_v 3) (am Hm (q_v 1) (ar aU (ar gZ (ar cz (q_v 0) ag) (ar oY (q_v 4) (ar aU (q_v 0) ag))) ag))))))
   (b_1 (aD (q_v 3))))))))),?_⟩
 refine⟨_,rfl,_,_,rfl,rfl,by decide,?_⟩;refine⟨_,rfl,_,_,rfl,rfl,(by show(0:Int)<5;decide),?_⟩;have c0:=YD c (show(5:Int)≠0 by decide);have c1:=Yz c (show(0:Int)<5 by decide);have c2:=YD c (show(3:Int)≠0 by decide);have c3:=Yz c (show(0:Int)<3 by decide);refine⟨λσ H'=>H'=H/\∃m:Int,0<=m/\m<=60/\σ=[some (.int c),some (.str jl),some (.int m),none,none],?_,?_⟩
 ·refine⟨_,rfl,_,_,rfl,rfl,⟨by decide,by decide⟩,_,_,rfl,rfl,(by show(0:Int)<8;decide),rfl,_,rfl,cK (λ_=>?_) (λ_=>?_)⟩
  ·exact⟨_,rfl,_,_,rfl,rfl,(by show(0:Int)<3;decide),_,_,rfl,rfl,rfl,60-c%3,by omega,by omega,rfl⟩
  ·exact⟨rfl,c%5,by omega,by omega,rfl⟩
 rintro σ H' ⟨rfl,m,m0,m1,rfl⟩;refine⟨_,rfl,_,rfl,by omega,by omega,?_⟩;refine qR (lo:=0) (λi σ H2=>H2=H'/\∃(x:Str) (o4:Option V),x.length=i/\PyData.strOk x=true/\σ=[some (.int c),some (.str jl),some (.int m),some (.str x),o4]) ⟨rfl,"",none,by decide,by decide,rfl⟩ ?_ ?_
 ·rintro i σ H2 hi ⟨rfl,x,o4,lx,okx,rfl⟩;have hi61:i<61:=by omega
  have k0:=YD (c / 40+(0+(i:Int))*(c%13)) (show(94:Int)≠0 by decide);have k1:=Yz (c / 40+(0+(i:Int))*(c%13)) (show(0:Int)<94 by decide);obtain⟨ch,hch,hm⟩:∃ch,atI jl.cps.toList ((c / 40+(0+(i:Int))*(c%13))%94)=some ch/\ch∈jl.cps.toList:=by
   generalize(c / 40+(0+(i:Int))*(c%13))%94=z at k0 k1;have hz:z.toNat<jl.cps.toList.length:=by rw[sg.2];omega
   have:=de (xs:=jl.cps.toList) (Zd hz);rw[show((z.toNat:Nat):Int)=z by omega]at this;exact⟨_,this,Z9 hz⟩
  refine⟨_,rfl,_,rfl,_,rfl,_,_,rfl,rfl,⟨by decide,by decide⟩,_,rfl,_,rfl,_,_,rfl,rfl,(by show(0:Int)<13;decide),_,_,rfl,rfl,.inl ⟨by omega,by omega⟩,_,_,rfl,rfl,_,_,rfl,rfl,(by show(0:Int)<94;decide),jl,_,ch,rfl,rfl,bD (by rw[sg.1];decide),hch,_,_,rfl,rfl,bD (by show x.length+1<=1000;omega),?_⟩;refine⟨rfl,_,_,?_,yR okx ?_,rfl⟩
  ·rw[uW,lx];rfl
  ·show(#[ch]:Jo).all (·<0x110000)=true;simp[Cf ch hm]
 ·rintro σ H2 ⟨rfl,x,o4,lx,okx,rfl⟩;exact⟨_,rfl,q x okx (by omega)⟩
inductive spName27  (vs:JK)(H:Hp)(Q:VK)(E_:XK):Prop
 |mk (n:Int) (l:Jy) (b:Bool) (ks:JK) (ns:List Nm) (h0:vs=[.int n,.ref l,.bl b]) (h1:H l=some (.lst ks)) (h2:AbAt H ns ks) (h3:∀(v:V) (m:Nm) (H':Hp),Same H H'->NameIs H' v (nk m)->Q v H'):spName27  vs H Q E_
theorem oS{H:Hp}{ns:List Nm}{ks:JK}(ka:AbAt H ns ks)(x:Int)(ne:ns≠[]):∃(m:Nm) (v:V),atI ks (x%(ks.length:Int))=some v/\m∈ns/\NameIs H v (nk m)/\0<ks.length:=by
 have lk:=Zu ka;have lp:0<ks.length:=by rw[<-lk];exact List.length_pos_iff.mpr ne
 have h0:=YD x (show(ks.length:Int)≠0 by omega);have h1:=Yz x (show(0:Int)<(ks.length:Int) by omega);obtain⟨j,hj⟩:=Int.eq_ofNat_of_zero_le h0;have hjl:j<ks.length:=by omega
 have hjn:j<ns.length:=by omega
 obtain⟨y,hy,hn⟩:=eE ka (Zd hjn);exact⟨_,y,by rw[hj];exact de hy,Z9 hjn,hn,lp⟩
abbrev tz:JA:=top 21
abbrev DS:Jr:=["_law_number","_law_names","_law_strange"]
theorem Ds:FnScope DS ["_law_number","_law_names","_law_strange"] (aj tz):=⟨rfl,rfl,rfl,by decide,rfl,by decide,by decide⟩
theorem CL{f:Jy}{fd:Jp}(F:Fun K "_law_name" "_law_name" tz f fd)(a8:mg "len" = none):FnOk P w K mg base CX0 1 f fd ["_law_number","_law_names","_law_strange"] spName27:=by
 refine F.okQ Ds (λvs H Q E h=>?_) (λcdv A outer s H vs Q E hr h=>?_)
 ·obtain⟨n,l,b,ks,ns,rfl,_⟩:=h;rfl
 obtain⟨c,l,b,ks,ns,rfl,hl,ka,q⟩:=h;refine⟨_,(b_c (aI (t_w (fe (aB (hJ hr.units) (q_v 1) (aW ah)) (eX (bU (q_v 2))))) (b_1 (aD (aQ (q_a (ar aU (q_v 0) ag) (q_a (ar gZ ag (ar aU (ar cz (q_v 0) ag) (ar BM ag ag))) ah))))) b_0)
   (b_1 (aD (am br (q_v 1) (ar aU (q_v 0) (q_B fO a8 Z3 (q_a (q_v 1) ah))))))),?_⟩
 try rw[cxK]
 refine⟨_,rfl,sz rfl,λe ge=>?_⟩;have sm:=af ge (.lst []);obtain⟨d1,s1,_⟩:=bj (sm _ _ hl) (AbAt.ts ka (JE sm));obtain⟨d2,s2,_⟩:=bj (ns:=[]) (l:=e) ac .nil;refine⟨_,_,d1,d2,s1,s2,_,rfl,?_⟩;generalize upd H e (.lst [])=H1 at sm ⊢;rw[gE];refine cK (λz=>?pos) (λz=>?neg)
 case' pos=>refine bn ?_
 case' neg =>refine⟨_,rfl,_,rfl,?_⟩;refine Bool.casesOn (motive:=λb'=>b=b'->if b'=true then _ else _) b (λeb=>aw ?n1) (λeb=>bn ?n2) rfl
 case n1 =>obtain⟨m,v,h1,h2,h3,h4⟩:=oS ka c z;refine⟨_,rfl,_,rfl,_,rfl,l,_,rfl,.inl (JG (sm _ _ hl)),_,_,rfl,rfl,(by show(0:Int)<(ks.length:Int);omega),l,_,_,_,rfl,rfl,JG (sm _ _ hl),h1,?_⟩;exact q _ m _ sm (h3.ts' (JE sm))
 case pos|n2 =>refine⟨_,rfl,_,_,rfl,rfl,(by show(0:Int)<8;decide),_,rfl,_,_,rfl,rfl,⟨by decide,by decide⟩,_,_,rfl,rfl,⟨by decide,by decide,by decide⟩,_,_,rfl,rfl,(by show(0:Int)<10^9;decide),_,_,rfl,rfl,sz rfl,λt gt=>?_⟩;exact q _ (_,_) _ (sm.trans (af gt _)) ⟨t,rfl,ac⟩
inductive spDraw  (vs:JK)(H:Hp)(Q:VK)(E_:XK):Prop
 |mk (c:Int) (k:Nat) (l:Jy) (ks:JK) (ns:List Nm) (h0:vs=[.int c,.int (k:Int),.ref l]) (h1:H l=some (.lst ks)) (h2:AbAt H ns ks) (h3:∀(st:Jy) (s:Sd) (H':Hp),Same H H'->StAt H' st s->StB s->Q (.ref st) H'):spDraw  vs H Q E_
theorem xq{a b:V}{p:Prop}[Decidable p]:∃v,atI [a,b] (if decide p=true then 1 else 0)=some v/\(v=a\/v=b):=by
 by_cases c:p
 ·rw[Jg (decide_eq_true c)];exact⟨b,at1,.inr rfl⟩
 ·rw[Jf (by rw[decide_eq_false c];exact Zi)];exact⟨a,at0,.inl rfl⟩
theorem BP{a b:V}{x:Int}:∃v,atI [a,b] (x%2)=some v/\(v=a\/v=b):=by
 rcases(show x%2=0\/x%2=1 by omega)with h|h
 ·rw[h];exact⟨a,at0,.inl rfl⟩
 ·rw[h];exact⟨b,at1,.inr rfl⟩
abbrev tE:JA:=top 22
abbrev DT:Jr:=["_law_cell","_law_k","_law_names","_law_number","_law_more","_law_new","_law_one","_law_other","_law_up","_law_way","_law_thing"]
theorem dO:FnScope DT ["_law_cell","_law_k","_law_names"] (aj tE):=⟨rfl,rfl,rfl,by decide,rfl,by decide,by decide⟩
theorem CM{f:Jy}{fd:Jp}(F:Fun K "_law_step" "_law_step" tE f fd)(IF:Fn P w K mg base 1 "_law_name" ["_law_number","_law_names","_law_strange"] spName27)(p4:Fn P w K mg base 1 "_law_place" ["_law_number"] spPlace)(IG:Fn P w K mg base 1 "_law_text" ["_law_number"] spText)(a8:mg "len" = none)(j7:mg "int" = none):FnOk P w K mg base CX0 2 f fd ["_law_cell","_law_k","_law_names"] spDraw:=by
 refine F.okQ dO (λvs H Q E h=>?_) (λcdv A outer s H vs Q E hr h=>?_)
 ·obtain⟨c,k,l,ks,ns,rfl,_⟩:=h;rfl
 obtain⟨c,k,l,ks,ns,rfl,hl,ka,q⟩:=h;refine⟨_,(b_c (au (i:=3) dO.nd (ar aU (ar oY (ar aU (q_v 0) ag) ag) ag))
   (b_c (au (i:=4) dO.nd (ar aU (ar oY (ar aU (q_v 0) ag) ag) ag))
   (b_c (au (i:=5) dO.nd (aQ (q_a (ar aU (q_v 3) ag) (q_a (ar gZ ag (am br (aW (q_a (q_v 1) (q_a (ar hM ag (q_v 1)) ah))) (ar aU (ar cz (q_v 3) ag) ag))) ah))))
   (b_c (hW (aI (t_w (dk (aB (fw hr.units) (q_v 2) (aW ah)) (cQ (aB bW (ar aU (ar cz (q_v 3) ag) ag) ag)))) (b_1 (au (i:=5) dO.nd (am br (q_v 2) (ar aU (q_v 4) (q_B fO a8 Z3 (q_a (q_v 2) ah)))))) b_0))
   (b_c (au (i:=6) dO.nd (bJ IF (hr.mono (by decide)) (q_a (ar cz (q_v 3) ag) (q_a (q_v 2) (q_a (dw bW (ar aU (ar cz (q_v 3) ag) ag) ag) ah)))))
   (b_c (au (i:=7) dO.nd (bJ IF (hr.mono (by decide)) (q_a (q_v 4) (q_a (q_v 2) (q_a (dw bW (ar aU (ar cz (q_v 3) ag) ag) ag) ah)))))
   (b_c (au (i:=8) dO.nd (am br (aW (q_a aY (q_a (q_v 7) ah))) (fE rJ j7 iD (q_a (dw qe (ar aU (q_v 4) ag) ag) ah))))
   (b_c (au (i:=9) dO.nd (ar aU (q_v 0) ag))
   (b_c (aI (t_w (fe (aB wU (q_v 9) ag) (eX (aB (hJ hr.units) (q_v 2) (aW ah))))) (b_1 (aD (aQ (q_a aE (q_a (q_v 5) (q_a (q_v 8) (q_a (bJ p4 (hr.mono (by decide)) (q_a (q_v 4) ah)) (q_a (bJ IG (hr.mono (by decide)) (q_a (ar cz (q_v 4) ag) ah)) ah)))))))) b_0)
   (b_c (aI (aB wU (q_v 9) ag) (b_1 (aD (aQ (q_a aE (q_a (q_v 6) (q_a (q_v 8) (q_a (bJ p4 (hr.mono (by decide)) (q_a (q_v 4) ah)) ah))))))) b_0)
   (b_c (aI (aB wU (q_v 9) ag) (b_c (au (i:=10) dO.nd (am br (aW (q_a (bJ IG (hr.mono (by decide)) (q_a (q_v 4) ah)) (q_a (dw bW (ar aU (q_v 4) ag) ag) (q_a (am br (aW (q_a aY (q_a (ar aU (q_v 4) ag) ah))) (fE rJ j7 iD (q_a (dw qe (ar aU (ar cz (q_v 4) ag) ag) ag) ah))) (q_a (dw bW (ar aU (q_v 4) ag) ag) ah))))) (ar hM (q_v 9) ag)))
   (b_1 (aD (aQ (q_a (am br (aW (q_a aE (q_a aE (q_a aE (q_a aE ah))))) (ar hM (q_v 9) ag)) (q_a (q_v 6) (q_a (q_v 10) ah))))))) b_0)
   (b_c (aI (aB bW (q_v 9) ag) (b_1 (aD (am br (aW (q_a (aQ (q_a aE (q_a (q_v 6) (q_a (ar aU (q_v 4) ag) (q_a (q_v 5) (q_a (bJ p4 (hr.mono (by decide)) (q_a (q_v 3) ah)) ah)))))) (q_a (aQ (q_a aE (q_a (q_v 6) (q_a (q_v 7) ah)))) ah))) (ar aU (ar cz (q_v 3) ag) ag)))) b_0)
   (b_1 (aD (am br (aW (q_a (aQ (q_a aE (q_a (q_v 6) ah))) (q_a (aQ (q_a aE (q_a (q_v 6) (q_a (ar aU (q_v 4) ag) (q_a (q_v 5) (q_a (bJ p4 (hr.mono (by decide)) (q_a (q_v 3) ah)) ah)))))) ah))) (fE rJ j7 iD (q_a (dw qe (ar aU (q_v 3) ag) ag) ah))))))))))))))))),?_⟩
 try rw[cxK]
 refine ax λR hR=>?_;refine⟨_,rfl,_,_,rfl,rfl,(by show(0:Int)<1000003;decide),_,_,rfl,rfl,.inr ⟨by decide,by decide⟩,_,_,rfl,rfl,(by show(0:Int)<2147483647;decide),hR _ _ ?_⟩;refine ax λR hR=>?_;refine⟨_,rfl,_,_,rfl,rfl,(by show(0:Int)<1000003;decide),_,_,rfl,rfl,.inr ⟨by decide,by decide⟩,_,_,rfl,rfl,(by show(0:Int)<2147483629;decide),hR _ _ ?_⟩
 try dsimp(config:={ proj:=false,iota:=false,eta:=false,zeta:=false }) only
 generalize c%1000003*48271%2147483647=nu;generalize c%1000003*69621%2147483629=mo;refine ax λR hR=>?_;obtain⟨z,hz,hz2⟩:=BP (a:=V.int (k:Int)) (b:=V.int (200-(k:Int))) (x:=nu / 8);obtain⟨zi,rfl⟩:∃zi,z=.int zi:=by rcases hz2 with h|h<;>exact⟨_,h⟩
 refine⟨_,rfl,_,_,rfl,rfl,(by show(0:Int)<8;decide),_,rfl,_,rfl,_,_,rfl,rfl,sz rfl,λlx glx=>⟨_,rfl,_,_,rfl,rfl,⟨by decide,by decide⟩,_,_,rfl,rfl,(by show(0:Int)<2;decide),lx,_,_,_,rfl,rfl,JG ac,hz,_,_,rfl,rfl,sz rfl,λt1 g1=>hR _ _ ?_⟩⟩;have s1:=(af glx (.lst [.int (k:Int),.int (200-(k:Int))])).trans (af g1 (.tup [.int (nu%8),.int (1+zi)]));have n5:NameIs (upd (upd H lx (.lst [.int (k:Int),.int (200-(k:Int))])) t1 (.tup [.int (nu%8),.int (1+zi)])) (.ref t1) (nk (nu%8,1+zi)):=⟨t1,rfl,ac⟩
 generalize((nu%8,1+zi):Nm)=m5 at n5;generalize upd (upd H lx (.lst [.int (k:Int),.int (200-(k:Int))])) t1 (.tup [.int (nu%8),.int (1+zi)])=H1 at s1 n5 ⊢;refine⟨λσ' H2=>Same H H2/\∃(v5:V) (m5:Nm),NameIs H2 v5 (nk m5)/\σ'=[some (.int c),some (.int (k:Int)),some (.ref l),some (.int nu),some (.int mo),some v5,none,none,none,none,none],?_,?_⟩
 ·refine⟨_,rfl,sz rfl,λe ge=>?_⟩;have we:=af ge (.lst []);have s2:=s1.trans we;obtain⟨d1,sh1,_⟩:=bj (s2 _ _ hl) (AbAt.ts ka (JE s2));obtain⟨d2,sh2,_⟩:=bj (ns:=[]) (l:=e) ac .nil;refine⟨_,_,d1,d2,sh1,sh2,_,rfl,?_⟩;rw[gE];cases hc:decide (ns=[])with
  |true=>exact aw (aw ⟨s2,_,m5,n5.ts' (JE we),rfl⟩)
  |false =>
   refine bn ⟨_,rfl,_,_,rfl,rfl,⟨by decide,by decide⟩,_,_,rfl,rfl,(by show(0:Int)<8;decide),rfl,_,rfl,cK (λ_=>?_) (λ_=>?_)⟩
   ·obtain⟨m,v,h1,h2,h3,h4⟩:=oS ka mo (Yy hc);exact⟨_,rfl,_,rfl,_,rfl,l,_,rfl,.inl (JG (s2 _ _ hl)),_,_,rfl,rfl,(by show(0:Int)<(ks.length:Int);omega),l,_,_,_,rfl,rfl,JG (s2 _ _ hl),h1,s2,v,m,h3.ts' (JE s2),rfl⟩
   ·exact⟨s2,_,m5,n5.ts' (JE we),rfl⟩
 clear n5 s1 m5;rintro σ' H2 ⟨s2,v5,m5,n5,rfl⟩
 try dsimp only
 refine ax λR hR=>?_;refine⟨_,rfl,_,_,rfl,rfl,⟨by decide,by decide⟩,_,rfl,_,rfl,_,_,rfl,rfl,⟨by decide,by decide⟩,_,_,rfl,rfl,(by show(0:Int)<8;decide),rfl,_,l,_,ks,ns,rfl,s2 _ _ hl,AbAt.ts ka (JE s2),λv6 m6 H3 s3 n6=>hR _ _ ?_⟩;have s03:=s2.trans s3;have n5:=n5.ts' (JE s3);refine ax λR hR=>?_;refine⟨_,rfl,_,rfl,_,rfl,_,_,rfl,rfl,⟨by decide,by decide⟩,_,_,rfl,rfl,(by show(0:Int)<8;decide),rfl,_,l,_,ks,ns,rfl,s03 _ _ hl,AbAt.ts ka (JE s03),λv7 m7 H4 s4 n7=>hR _ _ ?_⟩;have s04:=s03.trans s4;have n5:=n5.ts' (JE s4);have n6:=n6.ts' (JE s4);refine ax λR hR=>?_;obtain⟨v8,hv8,hv8'⟩:=xq (a:=V.non) (b:=v7) (p:=(0:Int)<mo%5);refine⟨_,rfl,sz rfl,λlx glx=>⟨_,rfl,_,_,rfl,rfl,(by show(0:Int)<5;decide),_,_,rfl,rfl,.inr ⟨_,rfl,lx,_,_,_,rfl,rfl,JG ac,hv8,hR _ _ ?_⟩⟩⟩;have w5:=af glx (.lst [.non,v7]);have s05:=s04.trans w5;have n5:=n5.ts' (JE w5);have n6:=n6.ts' (JE w5);have n7:=n7.ts' (JE w5);generalize upd H4 lx (.lst [.non,v7])=H5 at s05 n5 n6 n7 ⊢;obtain⟨u8,hu8⟩:∃u8,UpAt H5 v8 u8:=by
  rcases hv8' with rfl|rfl
  ·exact⟨none,rfl⟩
  ·exact⟨some m7,n7⟩
 clear hv8 hv8';refine ax λR hR=>?_;refine⟨_,rfl,_,_,rfl,rfl,(by show(0:Int)<12;decide),hR _ _ ?_⟩;have w0:=YD c (show(12:Int)≠0 by decide);have w1:=Yz c (show(0:Int)<12 by decide)
 try dsimp(config:={ proj:=false,iota:=false,eta:=false,zeta:=false }) only
 generalize c%12=wy at w0 w1 ⊢;refine⟨_,rfl,_,_,rfl,rfl,_,rfl,cK (λ_=>?pos) (λc4=>?neg)⟩
 case' pos =>have s06:=s05;have n5:=n5;have hu8:=hu8;generalize H5=H6 at s06 n5 hu8 ⊢;refine bn ?_
 case' neg =>refine⟨_,rfl,sz rfl,λe ge=>?_⟩;have we:=af ge (.lst []);have s06:=s05.trans we;have n5:=n5.ts' (JE we);have n6:=n6.ts' (JE we);have n7:=n7.ts' (JE we);have hu8:=hu8.ts (JE we);obtain⟨d1,sh1,_⟩:=bj (s06 _ _ hl) (AbAt.ts ka (JE s06));obtain⟨d2,sh2,_⟩:=bj (ns:=[]) (l:=e) ac .nil;refine⟨_,_,d1,d2,sh1,sh2,_,rfl,?_⟩;generalize upd H5 e (.lst [])=H6 at s06 n5 n6 n7 hu8 ⊢;rw[gE];refine cK (λz=>?n1) (λz=>?n2)
 case pos|n1 =>refine⟨_,rfl,_,rfl,_,rfl,mo,rfl,λpv ps H7 s7 hp=>⟨_,rfl,_,_,rfl,rfl,⟨by decide,by decide⟩,_,rfl,λtx okt lt=>⟨sz rfl,λt gt=>?_⟩⟩⟩;have wt:=af gt (.tup [.str "put",v5,v8,pv,.str tx]);have ww:=s7.trans wt;exact q t (.put m5 u8 ps tx) _ (s06.trans ww) ⟨v5,v8,pv,ac,n5.ts' (JE ww),hu8.ts (JE ww),hp.ts (JE wt)⟩ ⟨okt,lt⟩
 case n2 =>
  clear z ka hl d1 d2 sh1 sh2;refine⟨_,rfl,_,_,rfl,rfl,_,rfl,cK (λ_=>?_) (λc6=>?_)⟩
  ·refine⟨_,rfl,_,rfl,_,rfl,mo,rfl,λpv ps H7 s7 hp=>⟨sz rfl,λt gt=>?_⟩⟩;have wt:=af gt (.tup [.str "move",v6,v8,pv]);have ww:=s7.trans wt;exact q t (.move m6 u8 ps) _ (s06.trans ww) ⟨v6,v8,pv,ac,n6.ts' (JE ww),hu8.ts (JE ww),hp.ts (JE wt)⟩ trivial
  refine⟨_,rfl,_,_,rfl,rfl,_,rfl,cK (λc10=>?_) (λc10=>?_)⟩
  ·refine⟨_,rfl,mo,rfl,λtx okt lt=>?_⟩;obtain⟨v3,hv3,hv3'⟩:=xq (a:=V.non) (b:=.int (mo%8)) (p:=(0:Int)<mo / 8%3);refine⟨_,rfl,_,_,rfl,rfl,(by show(0:Int)<2;decide),rfl,_,rfl,_,_,rfl,rfl,(by show(0:Int)<8;decide),sz rfl,λlx glx=>⟨_,rfl,_,_,rfl,rfl,⟨by decide,by decide⟩,_,_,rfl,rfl,(by show(0:Int)<3;decide),_,_,rfl,rfl,.inr ⟨_,rfl,lx,_,_,_,rfl,rfl,JG ac,hv3,?_⟩⟩⟩;have wx:=af glx (.lst [.non,.int (mo%8)]);refine⟨_,rfl,_,_,rfl,rfl,(by show(0:Int)<2;decide),rfl,sz rfl,λly gly=>?_⟩;have wy':=af gly (.lst [.str tx,.bl (decide (V.int (mo%2)=V.int 1)),v3,.bl (decide (V.int (mo%2)=V.int 1))]);obtain⟨w3,rfl⟩:∃w3,v3=whV w3:=by
    rcases hv3' with rfl|rfl
    ·exact⟨none,rfl⟩
    ·exact⟨some (mo%8),rfl⟩
   have fin:∀(sd:Sd) (wd:Str) (v:V),(∀H' t,Same H6 H'->H' t=some (.tup [.str wd,v6,v])->StAt H' t sd)->StB sd->∀H8,Same H6 H8->∀t,H8 t=none->Q (.ref t) (upd H8 t (.tup [.str wd,v6,v])):=λsd wd v h1 h2 H8 s8 t gt=>by have wt:=af gt (.tup [.str wd,v6,v]);exact q t sd _ (s06.trans (s8.trans wt)) (h1 _ t (s8.trans wt) ac) h2
   have wxy:=wx.trans wy';rcases(show wy=6\/wy=7\/wy=8\/wy=9 by omega)with rfl|rfl|rfl|rfl
   ·refine⟨_,rfl,_,_,rfl,rfl,ly,_,_,_,rfl,rfl,JG ac,at0,sz rfl,λlz glz=>⟨_,rfl,_,_,rfl,rfl,lz,_,_,_,rfl,rfl,JG ac,at0,_,rfl,_,rfl,sz rfl,λt gt=>?_⟩⟩;exact fin (.write m6 tx) "write" _ (λH' t s e=>⟨v6,e,n6.ts' (JE s)⟩) ⟨okt,lt⟩ _ (wxy.trans (af glz _)) t gt
   ·refine⟨_,rfl,_,_,rfl,rfl,ly,_,_,_,rfl,rfl,JG ac,at1,sz rfl,λlz glz=>⟨_,rfl,_,_,rfl,rfl,lz,_,_,_,rfl,rfl,JG ac,at1,_,rfl,_,rfl,sz rfl,λt gt=>?_⟩⟩;exact fin (.mark m6 _) "mark" _ (λH' t s e=>⟨v6,e,n6.ts' (JE s)⟩) trivial _ (wxy.trans (af glz _)) t gt
   ·refine⟨_,rfl,_,_,rfl,rfl,ly,_,_,_,rfl,rfl,JG ac,at2,sz rfl,λlz glz=>⟨_,rfl,_,_,rfl,rfl,lz,_,_,_,rfl,rfl,JG ac,at2,_,rfl,_,rfl,sz rfl,λt gt=>?_⟩⟩;exact fin (.due m6 w3) "due" _ (λH' t s e=>⟨v6,e,n6.ts' (JE s)⟩) trivial _ (wxy.trans (af glz _)) t gt
   ·refine⟨_,rfl,_,_,rfl,rfl,ly,_,_,_,rfl,rfl,JG ac,at3,sz rfl,λlz glz=>⟨_,rfl,_,_,rfl,rfl,lz,_,_,_,rfl,rfl,JG ac,at3,_,rfl,_,rfl,sz rfl,λt gt=>?_⟩⟩;exact fin (.fold m6 _) "fold" _ (λH' t s e=>⟨v6,e,n6.ts' (JE s)⟩) trivial _ (wxy.trans (af glz _)) t gt
  have a0:=YD mo (show(5:Int)≠0 by decide);have partS:∀{H' H8:Hp} {t1:Jy} {pv:V} {ps:Jq},Same H6 H'->PlAt H' pv ps->H' t1=none->Same (upd H' t1 (.tup [.str "part",v6,.int (mo%5),v5,pv])) H8->Q (.ref t1) H8:=fun{H' H8 t1 pv ps} s8 hp gt sx=>by have wt:=af gt (.tup [.str "part",v6,.int (mo%5),v5,pv]);have ww:=s8.trans (wt.trans sx);exact q _ (.part m6 (mo%5) m5 _) _ (s06.trans ww) ⟨v6,v5,_,sx _ _ ac,n6.ts' (JE ww),n5.ts' (JE ww),hp.ts (JE (wt.trans sx))⟩ a0
  refine⟨_,rfl,rfl,_,rfl,cK (λ_=>?_) (λ_=>?_)⟩
  ·refine⟨_,rfl,_,rfl,_,_,rfl,rfl,(by show(0:Int)<5;decide),_,rfl,_,rfl,nu,rfl,λpv ps H7 s7 hp=>⟨sz rfl,λt1 g1=>?_⟩⟩;refine⟨_,rfl,_,rfl,sz rfl,λt2 g2=>⟨sz rfl,λlx glx=>?_⟩⟩;have x2:=af g2 (.tup [.str "join",v6,v7]);have xl:=af glx (.lst [.ref t1,.ref t2]);obtain⟨v,hv,hv'⟩:=BP (a:=V.ref t1) (b:=V.ref t2) (x:=nu / 3);refine⟨_,rfl,_,_,rfl,rfl,⟨by decide,by decide⟩,_,_,rfl,rfl,(by show(0:Int)<2;decide),lx,_,_,_,rfl,rfl,JG ac,hv,?_⟩;rcases hv' with rfl|rfl
   ·exact partS s7 hp g1 (x2.trans xl)
   ·have ww:=s7.trans ((af g1 _).trans (x2.trans xl));exact q _ (.join m6 m7) _ (s06.trans ww) ⟨v6,v7,xl _ _ ac,n6.ts' (JE ww),n7.ts' (JE ww)⟩ trivial
  ·refine⟨_,rfl,sz rfl,λt1 g1=>?_⟩;have x1:=af g1 (.tup [.str "gone",v6]);refine⟨_,rfl,_,rfl,_,_,rfl,rfl,(by show(0:Int)<5;decide),_,rfl,_,rfl,nu,rfl,λpv ps H7 s7 hp=>⟨sz rfl,λt2 g2=>⟨sz rfl,λlx glx=>?_⟩⟩⟩;have xl:=af glx (.lst [.ref t1,.ref t2]);obtain⟨v,hv,hv'⟩:=xq (a:=V.ref t1) (b:=V.ref t2) (p:=(0:Int)<nu%3);refine⟨_,rfl,_,_,rfl,rfl,(by show(0:Int)<3;decide),_,_,rfl,rfl,.inr ⟨_,rfl,lx,_,_,_,rfl,rfl,JG ac,hv,?_⟩⟩;rcases hv' with rfl|rfl
   ·have w':=s7.trans ((af g2 _).trans xl);have ww:=x1.trans w';exact q _ (.gone m6) _ (s06.trans ww) ⟨v6,w' _ _ ac,n6.ts' (JE ww)⟩ trivial
   ·exact partS (x1.trans s7) hp g2 xl
def OutAt(H:Hp)(t:Jy):Out->Prop
 |.taken=>H t=some (.tup [.str "taken",.non])
 |.none n=>∃v,H t=some (.tup [.str "none",v])/\NameIs H v (nk n)
 |.beneath=>H t=some (.tup [.str "beneath",.non])
 |.far=>H t=some (.tup [.str "far",.non])
 |.ok=>H t=some (.tup [.str "done",.non])
theorem OutAt.same{H H':Hp}{t:Jy}{o:Out}(x:OutAt H t o)(s:Same H H'):OutAt H' t o:=by
 cases o with
 |none n =>obtain⟨v,h1,h2⟩:=x;exact⟨v,s _ _ h1,h2.same s⟩
 |taken=>exact s _ _ x
 |beneath=>exact s _ _ x
 |far=>exact s _ _ x
 |ok=>exact s _ _ x
def dD:Out->PyData
 |.taken=>.tuple [.str "taken",.none]
 |.none n=>.tuple [.str "none",nmD n]
 |.beneath=>.tuple [.str "beneath",.none]
 |.far=>.tuple [.str "far",.none]
 |.ok=>.tuple [.str "done",.none]
theorem jM{H:Hp}{t:Jy}{o:Out}(x:OutAt H t o):Dt H (dD o) (.ref t)/\SeqAt.shaped (dD o)=true/\PyData.eqv (dD o) (dD o)=true:=by
 have hc:(dD o).canLay0=true:=by
  cases o with
  |none n =>show PyData.canLay0 (.tuple [.str "none",nmD n])=true;simp only[nmD,PyData.canLay0,PyData.canLayAll0];decide +kernel
  |taken=>decide +kernel
  |beneath=>decide +kernel
  |far=>decide +kernel
  |ok=>decide +kernel
 refine⟨?_,bq hc ?_,SeqAt.eqv_refl _ hc⟩
 ·cases o with
  |none n =>obtain⟨v,h1,h2⟩:=x;have h3:=wP h2;simp only[dD,Dt,DtAll];exact⟨t,_,rfl,.inl h1,_,_,rfl,rfl,_,_,rfl,h3,rfl⟩
  |taken=>simp only[dD,Dt,DtAll];exact⟨t,_,rfl,.inl x,_,_,rfl,rfl,_,_,rfl,rfl,rfl⟩
  |beneath=>simp only[dD,Dt,DtAll];exact⟨t,_,rfl,.inl x,_,_,rfl,rfl,_,_,rfl,rfl,rfl⟩
  |far=>simp only[dD,Dt,DtAll];exact⟨t,_,rfl,.inl x,_,_,rfl,rfl,_,_,rfl,rfl,rfl⟩
  |ok=>simp only[dD,Dt,DtAll];exact⟨t,_,rfl,.inl x,_,_,rfl,rfl,_,_,rfl,rfl,rfl⟩
 ·cases o<;>simp[dD,nmD,PyData.depth,PyData.depthAll]
def Sd.wd:Sd->Str
 |.put _ _ _ _=>"put"
 |.move _ _ _=>"move"
 |.write _ _=>"write"
 |.mark _ _=>"mark"
 |.due _ _=>"due"
 |.fold _ _=>"fold"
 |.part _ _ _ _=>"part"
 |.join _ _=>"join"
 |.gone _=>"gone"
def Sd.nm:Sd->Nm
 |.put n _ _ _=>n
 |.move n _ _=>n
 |.write n _=>n
 |.mark n _=>n
 |.due n _=>n
 |.fold n _=>n
 |.part n _ _ _=>n
 |.join n _=>n
 |.gone n=>n
def xn:Sd->List (Option Nm)
 |.put _ u _ _=>[u]
 |.move n u _=>[some n,u]
 |.join n m=>[some n,some m]
 |s=>[some s.nm]
theorem pf(s:Sd):s.items=(xn s).filterMap id:=by
 cases s with
 |put n u pl tx=>cases u<;>rfl
 |move n u pl=>cases u<;>rfl
 |_=>rfl
theorem Dy{H:Hp}{st:Jy}{s:Sd}(h:StAt H st s):∃(nv:V) (rest:JK),H st=some (.tup (.str s.wd::nv::rest))/\NameIs H nv (nk s.nm):=by
 cases s with
 |put=>obtain⟨nv,uv,pv,h1,h2,_⟩:=h;exact⟨_,_,h1,h2⟩
 |move=>obtain⟨nv,uv,pv,h1,h2,_⟩:=h;exact⟨_,_,h1,h2⟩
 |write=>obtain⟨nv,h1,h2⟩:=h;exact⟨_,_,h1,h2⟩
 |mark=>obtain⟨nv,h1,h2⟩:=h;exact⟨_,_,h1,h2⟩
 |due=>obtain⟨nv,h1,h2⟩:=h;exact⟨_,_,h1,h2⟩
 |fold=>obtain⟨nv,h1,h2⟩:=h;exact⟨_,_,h1,h2⟩
 |part=>obtain⟨nv,mv,pv,h1,h2,_⟩:=h;exact⟨_,_,h1,h2⟩
 |join=>obtain⟨nv,mv,h1,h2,_⟩:=h;exact⟨_,_,h1,h2⟩
 |gone=>obtain⟨nv,h1,h2⟩:=h;exact⟨_,_,h1,h2⟩
theorem qD{a b:Str}(h:V.str a=V.str b):a=b:=by injection h
theorem Em{s:Sd}(h:s.wd="put"):∃n u pl tx,s=.put n u pl tx:=by cases s<;>first|exact⟨_,_,_,_,rfl⟩|(simp only[Sd.wd]at h;exact absurd h (by decide))
theorem CB{s:Sd}(h:s.wd="part"):∃n a m pl,s=.part n a m pl:=by cases s<;>first|exact⟨_,_,_,_,rfl⟩|(simp only[Sd.wd]at h;exact absurd h (by decide))
theorem uO{s:Sd}(h:s.wd="move"):∃n u pl,s=.move n u pl:=by cases s<;>first|exact⟨_,_,_,rfl⟩|(simp only[Sd.wd]at h;exact absurd h (by decide))
theorem uN{s:Sd}(h:s.wd="join"):∃n m,s=.join n m:=by cases s<;>first|exact⟨_,_,rfl⟩|(simp only[Sd.wd]at h;exact absurd h (by decide))
def HN:Sd->List Nm
 |.put n _ _ _=>[n]
 |_=>[]
def AV:Sd->List (Option Nm)
 |.put _ u _ _=>[u]
 |s=>[some s.nm]
theorem EF{s:Sd}(h:s.wd≠"put"):HN s=[]/\AV s=[some s.nm]:=by cases s<;>first|exact⟨rfl,rfl⟩|exact absurd rfl h
theorem GB{s:Sd}(h:s.wd≠"move")(h2:s.wd≠"join"):xn s=AV s:=by cases s<;>first|rfl|exact absurd rfl h|exact absurd rfl h2
theorem Gz{ol:Ol}{s:Sd}(h1:s.wd≠"move")(h2:s.wd≠"join")(h3:s.wd≠"part"):Bd ol s none:=by
 cases s with
 |put=>exact .put
 |move=>exact absurd rfl h1
 |write=>exact .write
 |mark=>exact .mark
 |due=>exact .due
 |fold=>exact .fold
 |part=>exact absurd rfl h3
 |join=>exact absurd rfl h2
 |gone=>exact .gone
abbrev Gi(H:Hp)(us:List (Option Nm))(vs:JK):Prop:=Paired (λu v=>UpAt H v u) us vs
theorem hV{α β:Type}{R:α->β->Prop}:∀{a:List α} {b:List β} {i:Nat} {y:β},Paired R a b->b[i]?=some y->∃x,a[i]?=some x/\R x y
 |_,_,0,_,.cons h _,e=>by cases e;exact⟨_,rfl,h⟩
 |_,_,i+1,_,.cons _ t,e=>hV (i:=i) t e
theorem oB{ol:Ol}:∀{us:List (Option Nm)} {i:Nat} {n:Nm},us[i]?=some (some n)->look ol n=none->(∀(j:Nat) (m:Nm),j<i->us[j]?=some (some m)->(look ol m).isSome=true)->(us.filterMap id).find? (fU ol)=some n
 |u::us,0,n,h,hl,_=>by cases h;show List.find? _ (n::us.filterMap id)=_;rw[List.find?_cons_of_pos];unfold fU;rw[hl];rfl
 |u::us,i+1,n,h,hl,pre=>by
  have ih:=oB (us:=us) (i:=i) h hl λj m hj e=>pre (j+1) m (by omega) e;cases u with
  |none=>rw[List.filterMap_cons_none rfl];exact ih
  |some m =>
   have p0:=pre 0 m (by omega) rfl;show List.find? _ (m::us.filterMap id)=_;rw[List.find?_cons_of_neg]
   ·exact ih
   ·unfold fU;cases c:look ol m with
    |none=>rw[c]at p0;cases p0
    |some y=>intro z;cases z
theorem Bn{H:Hp}{st:Jy}{s:Sd}(h:StAt H st s):∃(xs:JK) (nv lv:V),H st=some (.tup xs)/\atI xs 0=some (.str s.wd)/\atI xs 1=some nv/\atI xs (-2)=some lv/\NameIs H nv (nk s.nm) /\
  ((s.news=[]/\s.wd≠"put"/\s.wd≠"part")\/(∃n,s.news=[n]/\s.wd="put"/\NameIs H nv (nk n))\/(∃n,s.news=[n]/\s.wd="part"/\NameIs H lv (nk n))):=by
 cases s with
 |put n u pl tx=>obtain⟨nv,uv,pv,h1,h2,_⟩:=h;exact⟨_,_,_,h1,at0,at1,rfl,h2,.inr (.inl ⟨n,rfl,rfl,h2⟩)⟩
 |move n u pl=>obtain⟨nv,uv,pv,h1,h2,_⟩:=h;exact⟨_,_,_,h1,at0,at1,rfl,h2,.inl ⟨rfl,(show("move":Str)≠"put" by decide),(show("move":Str)≠"part" by decide)⟩⟩
 |write n tx=>obtain⟨nv,h1,h2⟩:=h;exact⟨_,_,_,h1,at0,at1,rfl,h2,.inl ⟨rfl,(show("write":Str)≠"put" by decide),(show("write":Str)≠"part" by decide)⟩⟩
 |mark n b=>obtain⟨nv,h1,h2⟩:=h;exact⟨_,_,_,h1,at0,at1,rfl,h2,.inl ⟨rfl,(show("mark":Str)≠"put" by decide),(show("mark":Str)≠"part" by decide)⟩⟩
 |due n b=>obtain⟨nv,h1,h2⟩:=h;exact⟨_,_,_,h1,at0,at1,rfl,h2,.inl ⟨rfl,(show("due":Str)≠"put" by decide),(show("due":Str)≠"part" by decide)⟩⟩
 |fold n b=>obtain⟨nv,h1,h2⟩:=h;exact⟨_,_,_,h1,at0,at1,rfl,h2,.inl ⟨rfl,(show("fold":Str)≠"put" by decide),(show("fold":Str)≠"part" by decide)⟩⟩
 |part n a m pl=>obtain⟨nv,mv,pv,h1,h2,h3,_⟩:=h;exact⟨_,_,_,h1,at0,at1,rfl,h2,.inr (.inr ⟨m,rfl,rfl,h3⟩)⟩
 |join n m=>obtain⟨nv,mv,h1,h2,_⟩:=h;exact⟨_,_,_,h1,at0,at1,rfl,h2,.inl ⟨rfl,(show("join":Str)≠"put" by decide),(show("join":Str)≠"part" by decide)⟩⟩
 |gone n=>obtain⟨nv,h1,h2⟩:=h;exact⟨_,_,_,h1,at0,at1,rfl,h2,.inl ⟨rfl,(show("gone":Str)≠"put" by decide),(show("gone":Str)≠"part" by decide)⟩⟩
theorem wq(a b:V)(w:Str):bw (dL [] [((.inr "put":Key),a),(.inr "part",b)]) (.inr w:Key)=if w="put" then some a else if w="part" then some b else none:=by
 have e:dL [] [((.inr "put":Key),a),(.inr "part",b)]=[((.inr "put":Key),a),(.inr "part",b)]:=by
  have:¬((.inr "put":Key)=.inr "part"):=by decide
  simp[dL,ba,this]
 rw[e];by_cases c:w="put"
 ·rw[Jg c,c];exact gP rfl
 ·rw[Jf c,fJ (λz=>c (Sum.inr.inj z).symm)];by_cases d:w="part"
  ·rw[Jg d,d];exact gP rfl
  ·rw[Jf d,fJ (λz=>d (Sum.inr.inj z).symm)];rfl
def JD(st mn pF:Jy)(H:Hp)(wd:Str)(us:List (Option Nm))(σ:St)(H':Hp):Prop:=Same H H'/\∃(aO:Jy) (ovs:JK),H' aO=some (.lst ovs)/\Gi H' us ovs/\σ=[some (.ref st),some (.ref mn),some (.str wd),some (.ref pF),some (.ref aO),none]
inductive spDue27  (vs:JK)(H:Hp)(Q:VK)(E_:XK):Prop
 |mk (st mn:Jy) (mvs:JJ) (ol:Ol) (s:Sd) (h0:vs=[.ref st,.ref mn]) (h1:StAt H st s) (h2:H mn=some (.dT mvs)) (h3:Rows H mvs ol) (h4:Ter ol) (h5:(∀n it,look ol n=some it->it.tx.length<=4000)) (h6:∀(t:Jy) (o:Out) (H':Hp),Same H H'->Due ol s o->OutAt H' t o->Q (.ref t) H'):spDue27  vs H Q E_
abbrev xt:JA:=top 24
abbrev Ge:Jr:=["_law_step_here","_law_mine","_law_word","_law_fresh","_law_old","_law_name_here"]
theorem iR:FnScope Ge ["_law_step_here","_law_mine"] (aj xt):=⟨rfl,rfl,rfl,by decide,rfl,by decide,by decide⟩
theorem EL{f:Jy}{fd:Jp}(F:Fun K "_law_due" "_law_due" xt f fd)(g8:Fn P w K mg base 1 "_law_is_in" ["_law_one","_law_other","_law_mine"] spIsIn)(a8:mg "len" = none):FnOk P w K mg base CX0 2 f fd ["_law_step_here","_law_mine"] spDue27:=by
 refine F.okQ iR (λvs H Q E h=>?_) (λcdv A outer s H vs Q E hr h=>?_)
 ·obtain⟨st,mn,mvs,ol,sd,rfl,_⟩:=h;rfl
 obtain⟨st,mn,mvs,ol,sd,rfl,hs,hm,R,te,tb,q⟩:=h;refine⟨_,(b_c (au (i:=2) iR.nd (am aq (q_v 0) ag))
   (b_c (au (i:=3) iR.nd (Fu (Fz aE (am aq (q_v 0) ag) (Fz aE (am aq (q_v 0) (Fy B5 ag)) HQ))))
   (b_c (aI (t_w (dk (xC hr.units (q_v 2) (q_v 3)) (cQ (xC hr.units (bp hr.units (q_v 3) (q_v 2)) (q_v 1))))) (b_1 (aD (aQ (q_a aE (q_a aY ah))))) b_0)
   (b_c (au (i:=4) iR.nd (aW (q_a (am aq (q_v 0) ag) ah)))
   (b_c (hW (aI (aB bW (q_v 2) aE) (b_1 (au (i:=4) iR.nd (aW (q_a (am aq (q_v 0) ag) ah)))) b_0))
   (b_c (hW (aI (t_w (fe (aB bW (q_v 2) aE) (eX (aB bW (q_v 2) aE)))) (b_1 (au (i:=4) iR.nd (aW (q_a (am aq (q_v 0) ag) (q_a (am aq (q_v 0) ag) ah))))) b_0))
   (b_c (eV ZX rfl (fh (q_v 4)) (bv (i:=5) iR.nd) (b_1 (aI (t_w (dk (aB iI (q_v 5) aY) (cQ (gK hr.units (q_v 5) (q_v 1))))) (b_1 (aD (aQ (q_a aE (q_a (q_v 5) ah))))) b_0)))
   (b_c (aI (t_w (dk (aB bW (q_v 2) aE) (cQ (bU (bJ g8 (hr.mono (by decide)) (q_a (am aq (q_v 0) ag) (q_a (am aq (q_v 0) ag) (q_a (q_v 1) ah)))))))) (b_1 (aD (aQ (q_a aE (q_a aY ah))))) b_0)
   (b_c (aI (t_w (dk (aB bW (q_v 2) aE) (cQ (bU (bJ g8 (hr.mono (by decide)) (q_a (am aq (q_v 0) ag) (q_a (am aq (q_v 0) ag) (q_a (q_v 1) ah)))))))) (b_1 (aD (aQ (q_a aE (q_a aY ah))))) b_0)
   (b_c (aI (t_w (dk (aB bW (q_v 2) aE) (cQ (aB qe (am aq (q_v 0) ag) (q_B xO a8 Z3 (q_a (am aq (bp hr.units (q_v 1) (am aq (q_v 0) ag)) ag) ah)))))) (b_1 (aD (aQ (q_a aE (q_a aY ah))))) b_0)
   (b_1 (aD (aQ (q_a aE (q_a aY ah))))))))))))))),?_⟩
 try rw[cxK]
 obtain⟨xs,nv,lv,hst,x0,x1,x2,hnv,fr⟩:=Bn hs;refine(vix rfl (JF hst) x0 ?_);intro pF gF;have wF:=af gF (.dK []);refine(vix rfl (JF (wF _ _ hst)) x1 ⟨_,rfl,_,rfl,st,_,_,_,rfl,rfl,JF (wF _ _ hst),x2,ac,[((.inr "put":Key),nv),(.inr "part",lv)],rfl,Nat.le_of_ble_eq_true rfl,?_⟩);have wF2:Same H (upd (upd H pF (.dK [])) pF (.dK (dL [] [((.inr "put":Key),nv),(.inr "part",lv)]))):=λb o e=>by have:b≠pF:=ai e gF;rw[ad this,ad this];exact e
 have eF:upd (upd H pF (.dK [])) pF (.dK (dL [] [((.inr "put":Key),nv),(.inr "part",lv)])) pF=some (.dK (dL [] [((.inr "put":Key),nv),(.inr "part",lv)])):=ac;generalize upd (upd H pF (.dK [])) pF (.dK (dL [] [((.inr "put":Key),nv),(.inr "part",lv)]))=H1 at wF2 eF ⊢;have R1:=R.ts (JE wF2);have hm1:=wF2 _ _ hm;have lk:=wq nv lv sd.wd;refine⟨_,rfl,_,rfl,pF,_,rfl,DGet.k (k:=(.inr sd.wd:Key)) eF,_,rfl,?_⟩;rw[lk];have fr2:(∀m∈sd.news,look ol m=none)/\sd.news=[]/\(if sd.wd="put" then some nv else if sd.wd="part" then some lv else none)=none\/∃(n:Nm) (v:V),sd.news=[n]/\NameIs H v (nk n)/\(if sd.wd="put" then some nv else if sd.wd="part" then some lv else none)=some v:=by
  rcases fr with⟨h1,h2,h3⟩|⟨n,h1,h2,h3⟩|⟨n,h1,h2,h3⟩
  ·exact .inl ⟨(λm hm'=>by rw[h1]at hm';exact nomatch hm'),h1,by rw[Jf h2,Jf h3]⟩
  ·exact .inr ⟨n,nv,h1,h3,by rw[Jg h2]⟩
  ·exact .inr ⟨n,lv,h1,h3,by rw[Jf (by rw[h2];decide +kernel),Jg h2]⟩
 refine fr2.elim (λa=>?c1) (λa=>?c2)
 case' c1 =>obtain⟨nn,_,e0⟩:=a;rw[e0];refine aw (aw ?_)
 case' c2 =>obtain⟨n,v,hn,hv,e0⟩:=a;obtain⟨vb,rfl,hvb⟩:=id hv;rw[e0];refine bn ⟨_,rfl,_,rfl,pF,.ref vb,rfl,(lk.trans e0)▸DGet.k (k:=(.inr sd.wd:Key)) eF,_,rfl,mn,_,rfl,DGet.t (k:=nk n) hm1 (wF2 _ _ hvb),_,rfl,?_⟩;rw[eU R1];refine dite ((look ol n).isSome=true) (λc=>?t1) (λc=>?t2)
 case t1 =>rw[c];refine bn ⟨sz rfl,λt gt=>?_⟩;exact q t .taken _ (wF2.trans (af gt _)) (.taken n (by rw[hn];exact Zl) c) ac
 case' t2 =>
  have cf:(look ol n).isSome=false:=by simpa using c
  have nn:∀m∈sd.news,look ol m=none:=λm hm'=>by
   rw[hn]at hm';obtain rfl:m=n:=by simpa using hm'
   cases z:look ol m with
   |none=>rfl
   |some it=>rw[z]at cf;cases cf
  rw[cf];refine aw ?_
 case c1|t2 =>
  refine(vix rfl (JF (wF2 _ _ hst)) x1 ⟨sz rfl,λa1 g1=>?_⟩);have w1:=af g1 (.lst [nv]);have s01:=wF2.trans w1;have e1:upd H1 a1 (.lst [nv]) a1=some (.lst [nv]):=ac;generalize upd H1 a1 (.lst [nv])=H2 at s01 e1 ⊢;refine⟨JD st mn pF H sd.wd (AV sd),?_,?_⟩
  ·refine⟨_,rfl,rfl,_,rfl,cK (λc=>?_) (λc=>?_)⟩
   ·obtain⟨n,u,pl,tx,rfl⟩:=Em (qD c);obtain⟨nv',uv,pv,hst',hn',hu,hp⟩:=hs.ts (JE s01);refine(vix rfl (JF hst') at2 ⟨sz rfl,λa3 g3=>?_⟩);have w3:=af g3 (.lst [uv]);exact⟨s01.trans w3,a3,_,ac,.cons (hu.ts (JE w3)) .nil,rfl⟩
   ·obtain⟨z1,z2⟩:=EF (s:=sd) λz=>c (ZU V.str z);rw[z2];exact⟨s01,a1,_,e1,.cons (hnv.ts' (JE s01)) .nil,rfl⟩
  rintro σ' H3 ⟨s03,aO,ovs,eO,us,rfl⟩;refine⟨JD st mn pF H sd.wd (xn sd),?_,?_⟩
  ·refine⟨_,rfl,rfl,_,rfl,cK (λc=>bn ?_) (λc=>?_)⟩
   ·obtain⟨n,u,pl,rfl⟩:=uO (qD c);obtain⟨nv',uv,pv,hst',hn',hu,hp⟩:=hs.ts (JE s03);refine(vix rfl (JF hst') at1 (vix rfl (JF hst') at2 ⟨sz rfl,λa2 g2=>?_⟩));have w2:=af g2 (.lst [nv',uv]);exact⟨s03.trans w2,a2,_,ac,.cons (hn'.ts' (JE w2)) (.cons (hu.ts (JE w2)) .nil),rfl⟩
   ·refine⟨_,rfl,rfl,_,rfl,cK (λc2=>?_) (λc2=>?_)⟩
    ·obtain⟨n,m,rfl⟩:=uN (qD c2);obtain⟨nv',mv,hst',hn',hmv⟩:=hs.ts (JE s03);refine(vix rfl (JF hst') at1 (vix rfl (JF hst') at2 ⟨sz rfl,λa2 g2=>?_⟩));have w2:=af g2 (.lst [nv',mv]);exact⟨s03.trans w2,a2,_,ac,.cons (hn'.ts' (JE w2)) (.cons (hmv.ts' (JE w2)) .nil),rfl⟩
    ·rw[GB (s:=sd) (λz=>c (ZU V.str z)) λz=>c2 (ZU V.str z)];exact⟨s03,aO,_,eO,us,rfl⟩
  clear us eO s03 aO ovs;rintro σ' H4 ⟨s04,aO,ovs,eO,us,rfl⟩;have R4:=R.ts (JE s04);have hm4:=s04 _ _ hm;have hs4:=hs.ts (JE s04);refine⟨_,rfl,aO,rfl,⟨ovs,JG eO⟩,?_⟩;refine nq (xs:=ovs) (λi σ H'=>H'=H4/\(∀(j:Nat) (m:Nm),j<i->(xn sd)[j]?=some (some m)->(look ol m).isSome=true)/\∃o5,σ=[some (.ref st),some (.ref mn),some (.str sd.wd),some (.ref pF),some (.ref aO),o5]) ⟨rfl,(λj m hj=>by omega),none,rfl⟩ (λ_ _ _ _ v=>by rw[v.1];exact JG eO) ?_ ?_
  ·rintro i x σ H' hx ⟨rfl,pre,o4,rfl⟩;obtain⟨u,hu,hux⟩:=hV us hx;refine⟨_,rfl,rfl,_,rfl,?_⟩;cases u with
   |none =>
    obtain rfl:x=.non:=hux;refine km rfl (aw ⟨rfl,λj m hj e=>?_,_,rfl⟩);by_cases c2:j=i
    ·rw[c2,hu]at e;cases e
    ·exact pre j m (by omega) e
   |some n =>
    obtain⟨nb,rfl,hnb⟩:=id hux;refine jb nofun ?_;refine⟨_,rfl,_,rfl,mn,_,rfl,DGet.t (k:=nk n) hm4 hnb,_,rfl,?_⟩;cases hl:look ol n with
    |none =>rw[lP R4 hl];refine bn ⟨_,rfl,sz rfl,λt gt=>?_⟩;exact q t (.none n) _ (s04.trans (af gt _)) (.none n nn (by rw[pf];exact oB hu hl pre)) ⟨_,ac,hux.ts' (JE (af gt _))⟩
    |some it =>
     obtain⟨iv,f1,_⟩:=aC R4 hl;rw[f1];refine aw ⟨rfl,λj m hj e=>?_,_,rfl⟩;by_cases c2:j=i
     ·rw[c2,hu]at e;cases e;rw[hl];rfl
     ·exact pre j m (by omega) e
  ·rintro σ H' ⟨rfl,pre,o4,rfl⟩;have ii:∀m∈sd.items,(look ol m).isSome=true:=λm hm'=>by rw[pf]at hm';obtain⟨u,hu,rfl⟩:=Ya.mp hm';obtain⟨j,hj⟩:=Zt.mp hu;exact pre j m (by rw[<-Zu us];exact(ZB.mp hj).1) hj
   have chn:∀(u:Option Nm),(∀m,u=some m->(look ol m).isSome=true)->∀o,∃j b,Und ol o j u b:=λu hu o=>by
    cases u with
    |none=>exact⟨0,false,.none⟩
    |some x =>obtain⟨it,hit⟩:=Zh.mp (hu x rfl);obtain⟨j,ch⟩:=te x it hit;exact ch.und o
   refine⟨_,rfl,rfl,_,rfl,cK (λc=>?_) (λc=>aw ?_)⟩
   ·obtain⟨n,u,pl,rfl⟩:=uO (qD c);obtain⟨nv',uv,pv,hst',hn',hu,hp⟩:=hs4;obtain⟨j,b,un⟩:=chn u (λm z=>ii m (by simp[Sd.items,z])) n;refine(vix rfl (JF hst') at2 (vix rfl (JF hst') at1 ⟨_,rfl,mn,mvs,ol,uv,nv',u,n,j,b,rfl,.inl hm4,R4,hu,hn',un,_,rfl,?_⟩));cases b with
    |true=>exact bn ⟨sz rfl,λt gt=>q t .beneath _ (s04.trans (af gt _)) (.bd (some true) nn ii (.move un)) ac⟩
    |false =>refine aw ?_;refine⟨_,rfl,rfl,_,rfl,aF (show V.str "move"≠V.str "join" by decide) (aw ?_)⟩;refine⟨_,rfl,rfl,_,rfl,aF (show V.str "move"≠V.str "part" by decide) (aw ?_)⟩;exact⟨sz rfl,λt gt=>q t .ok _ (s04.trans (af gt _)) (.bd none nn ii (.move un)) ac⟩
   refine⟨_,rfl,rfl,_,rfl,cK (λc2=>?_) (λc2=>aw ?_)⟩
   ·obtain⟨n,m,rfl⟩:=uN (qD c2);obtain⟨nv',mv,hst',hn',hmv⟩:=hs4;obtain⟨j,b,un⟩:=chn (some n) (λm' z=>ii m' (by simp[Sd.items,Zb z])) m;refine(vix rfl (JF hst') at1 (vix rfl (JF hst') at2 ⟨_,rfl,mn,mvs,ol,nv',mv,some n,m,j,b,rfl,.inl hm4,R4,hn',hmv,un,_,rfl,?_⟩));cases b with
    |true=>exact bn ⟨sz rfl,λt gt=>q t .beneath _ (s04.trans (af gt _)) (.bd (some true) nn ii (.join un)) ac⟩
    |false =>refine aw ?_;refine⟨_,rfl,rfl,_,rfl,aF (show V.str "join"≠V.str "part" by decide) (aw ?_)⟩;exact⟨sz rfl,λt gt=>q t .ok _ (s04.trans (af gt _)) (.bd none nn ii (.join un)) ac⟩
   refine⟨_,rfl,rfl,_,rfl,cK (λc3=>?_) (λc3=>aw ?_)⟩
   ·obtain⟨n,a,m,pl,rfl⟩:=CB (qD c3);obtain⟨nv',mv,pv,hst',hn',hmv,hp⟩:=hs4;obtain⟨it,hit⟩:=Zh.mp (ii n (by simp[Sd.items]));obtain⟨iv,f1,ia,uv0,pv0,rfl,f2,_,_⟩:=aC R4 hit;obtain⟨nb,rfl,hnb⟩:=id hn';have bd:=Bd.part (ol:=ol) (a:=a) (m:=m) (pl:=pl) hit;refine(vix rfl (JF hst') at2 ⟨_,rfl,vix rfl (JF hst') at1 ⟨mn,.ref ia,rfl,f1▸DGet.t (k:=nk n) hm4 hnb,ia,_,_,_,rfl,rfl,JF f2,at2,it.tx,rfl,(by have:=tb n it hit;omega),_,_,rfl,rfl,_,rfl,cK (λc4=>?_) (λc4=>?_)⟩⟩)
    ·rw[Jg (by omega)]at bd;exact⟨sz rfl,λt gt=>q t .far _ (s04.trans (af gt _)) (.bd (some false) nn ii bd) ac⟩
    ·rw[Jf (by omega)]at bd;exact⟨sz rfl,λt gt=>q t .ok _ (s04.trans (af gt _)) (.bd none nn ii bd) ac⟩
   exact⟨sz rfl,λt gt=>q t .ok _ (s04.trans (af gt _)) (.bd none nn ii (Gz (λz=>c (ZU V.str z)) (λz=>c2 (ZU V.str z)) λz=>c3 (ZU V.str z))) ac⟩
theorem CF{K:W.Frag}:W.kitOne K (.type "str") (.type "str")=some true:=iH (t:="str") (T:="str") (b:=true) rfl λz=>nomatch z
theorem Ew{K:W.Frag}:W.kitOne K (.type "int") (.type "int")=some true:=iH (t:="int") (T:="int") (b:=true) rfl λz=>nomatch z
structure ErsH(K:W.Frag)(cL cT cN cB cF:Jy)(bT bN bB bF:Jn):Prop where
 eT:ExC K cT bT
 eN:ExC K cN bN
 eB:ExC K cB bB
 eF:ExC K cF bF
 hT:(Value.ref cT::bT).contains (.ref cL)=true
 hN:(Value.ref cN::bN).contains (.ref cL)=true
 hB:(Value.ref cB::bB).contains (.ref cL)=true
 hF:(Value.ref cF::bF).contains (.ref cL)=true
 kT:ExK K cT
 kN:ExK K cN
 kB:ExK K cB
 kF:ExK K cF
 nT:W.kitOne K (.ref cT) (.ref cN)=some false
 tT:W.kitOne K (.ref cT) (.ref cT)=some true
 nN:W.kitOne K (.ref cN) (.ref cN)=some true
 nF:W.kitOne K (.ref cF) (.ref cN)=some false
 tF:W.kitOne K (.ref cF) (.ref cT)=some false
 fF:W.kitOne K (.ref cF) (.ref cF)=some true
 nB:W.kitOne K (.ref cB) (.ref cN)=some false
 tB:W.kitOne K (.ref cB) (.ref cT)=some false
 fB:W.kitOne K (.ref cB) (.ref cF)=some false
 bB:W.kitOne K (.ref cB) (.ref cB)=some true
 dN:W.hasDictIn K cN=true
 aN:NoAttr K cN "name"
abbrev TxB(ol:Ol):Prop:=∀n it,look ol n=some it->it.tx.length<=4000
inductive spRefusal27(C:Jy)(vs:JK)(H:Hp)(Q:VK)(E_:XK):Prop
 |mk (p d g st:Jy) (ol:Ol) (gs:As Unit) (s:Sd) (o:Out) (h0:vs=[.ref p,.ref st]) (h1:OlAt C H p d g ol) (h2:GoneAt H g gs) (h3:ol.length<=60) (h4:gs.length<=60) (h5:StAt H st s) (h6:TxB ol) (h7:Due ol s o) (h8:(o≠.ok->∀(t:Jy) (H':Hp),Same H H'->OutAt H' t o->Q (.ref t) H')) (h9:(o=.ok->∀(t:Jy) (ol':Ol) (H' H2:Hp),But2 d g H H'->OlAt C H' p d g ol'->GoneAt H' g (ls gs s)->Ap ol s ol'->Same H' H2->OutAt H2 t o->Q (.ref t) H2)):spRefusal27 C vs H Q E_
abbrev lU:JA:=top 26
abbrev xK:Jr:=["_law_plain","_law_step_here","_law_wrong","_law_told_here","e"]
theorem eW:FnScope xK ["_law_plain","_law_step_here"] (aj lU):=⟨rfl,rfl,rfl,by decide,rfl,by decide,by decide⟩
theorem xh{f C cL cT cN cB cF:Jy}{fd:Jp}{bL bT bN bB bF:Jn}(F:Fun K "_law_refusal" "_law_refusal" lU f fd)(p5:MFnX P w K mg base 4 C "step" ["self","step"] (spStepA C cT cN cB cF))(R:ErsH K cL cT cN cB cF bT bN bB bF)(r6:ExC K cL bL)(g9:mg "LimbError" = some (.ref cL))(j9:mg "NoItem" = some (.ref cN))(o7:mg "Taken" = some (.ref cT))(Ir:mg "Far" = some (.ref cF))(i5:mg "Beneath" = some (.ref cB))(a6:mg "isinstance" = none)(j7:mg "int" = none):FnOk P w K mg base CX0 5 f fd ["_law_plain","_law_step_here"] (spRefusal27 C):=by
 refine F.okQ eW (λvs H Q E h=>?_) (λcdv A outer s H vs Q E hr h=>?_)
 ·obtain⟨p,d,g,st,ol,gs,sd,o,rfl,_⟩:=h;rfl
 obtain⟨p,d,g,st,ol,gs,sd,o,rfl,O,G,l3,lg,hs,tb,du,q,qk⟩:=h;obtain⟨kvs,gvs,S,_⟩:=id O;obtain⟨⟨dx,h1⟩,_⟩:=id S;refine⟨_,(b_c (au (i:=2) eW.nd aY)
   (b_c (au (i:=3) eW.nd aY)
   (b_c (zw rfl rfl (FN (i:=3) eW.nd (zS p5 (hr.mono (by decide)) (q_v 0) (q_a (q_v 1) ah))) (Gp (i:=4) eW.nd r6 g9 (λ_=>(b_1 (au (i:=2) eW.nd (q_v 4))))))
   (b_c (aI (aB wS (q_v 2) aY) (b_1 (aD (aQ (q_a aE (q_a (q_v 3) ah))))) b_0)
   (b_c (aI (bU (q_B nZ a6 aK (q_a (q_v 2) (q_a (ql j9) ah)))) (b_1 (aD (aQ (q_a aE (q_a (Fv (q_v 2)) ah))))) b_0)
   (b_c (aI (bU (q_B nZ a6 aK (q_a (q_v 2) (q_a (ql o7) ah)))) (b_1 (aD (aQ (q_a aE (q_a aY ah))))) b_0)
   (b_c (aI (bU (q_B nZ a6 aK (q_a (q_v 2) (q_a (ql Ir) ah)))) (b_1 (aD (aQ (q_a aE (q_a aY ah))))) b_0)
   (b_1 (aD (aQ (q_a (am br (aW (q_a aE (q_a aE ah))) (fE rJ j7 iD (q_a (q_B nZ a6 aK (q_a (q_v 2) (q_a (ql i5) ah))) ah))) (q_a aY ah)))))))))))),?_⟩
 try rw[cxK]
 refine⟨_,rfl,p,dx,_,rfl,h1,bV _ _,_,rfl,p,d,g,st,ol,gs,sd,o,rfl,O,G,l3,lg,hs,tb,du,λe H1 s1=>?_,λn e H1 dd v s1 hd hn=>?_,λe H1 s1=>?_,λe H1 s1=>?_,λe H1 ol' b1 O1 G1 ap=>?_⟩
 ·subst e;have q:=q nofun;refine⟨cT,bT,rfl,R.eT,R.hT,λea he=>⟨_,rfl,?_⟩⟩;have we:=af he (exD ea cT none);have ee:upd H1 ea (exD ea cT none) ea=some (exD ea cT none):=ac;have s2:=s1.trans we;generalize upd H1 ea (exD ea cT none)=H2 at ee s2 ⊢;refine⟨_,rfl,rfl,_,rfl,aF nofun ?_⟩;refine⟨_,rfl,_,_,_,_,rfl,λv hv=>hv,.inr ⟨ea,cT,none,rfl,ee,trivial,R.kT,R.nT⟩,_,rfl,aw ?_⟩;refine⟨_,rfl,_,_,_,_,rfl,λv hv=>hv,.inr ⟨ea,cT,none,rfl,ee,trivial,R.kT,R.tT⟩,_,rfl,bn ?_⟩;exact⟨sz rfl,λt gt=>q t _ (s2.trans (af gt _)) ac⟩
 ·subst e;have q:=q nofun;refine⟨cN,bN,rfl,R.eN,R.hN,λea he=>⟨_,rfl,?_⟩⟩;have we:=af he (exD ea cN (some dd));have ee:upd H1 ea (exD ea cN (some dd)) ea=some (exD ea cN (some dd)):=ac;have s2:=s1.trans we;have hd2:=we _ _ hd;have hn2:=hn.same we;generalize upd H1 ea (exD ea cN (some dd))=H2 at ee s2 hd2 hn2 ⊢;refine⟨_,rfl,rfl,_,rfl,aF nofun ?_⟩;refine⟨_,rfl,_,_,_,_,rfl,λv hv=>hv,.inr ⟨ea,cN,(some dd),rfl,ee,⟨_,hd2⟩,R.kN,R.nN⟩,_,rfl,bn ?_⟩;exact⟨_,rfl,ea,cN,dd,_,v,rfl,ee,hd2,R.kN,R.dN,R.aN,rfl,sz rfl,λt gt=>q t _ (s2.trans (af gt _)) ⟨v,ac,hn2.same (af gt _)⟩⟩
 ·subst e;have q:=q nofun;refine⟨cB,bB,rfl,R.eB,R.hB,λea he=>⟨_,rfl,?_⟩⟩;have we:=af he (exD ea cB none);have ee:upd H1 ea (exD ea cB none) ea=some (exD ea cB none):=ac;have s2:=s1.trans we;generalize upd H1 ea (exD ea cB none)=H2 at ee s2 ⊢;refine⟨_,rfl,rfl,_,rfl,aF nofun ?_⟩;refine⟨_,rfl,_,_,_,_,rfl,λv hv=>hv,.inr ⟨ea,cB,none,rfl,ee,trivial,R.kB,R.nB⟩,_,rfl,aw ?_⟩;refine⟨_,rfl,_,_,_,_,rfl,λv hv=>hv,.inr ⟨ea,cB,none,rfl,ee,trivial,R.kB,R.tB⟩,_,rfl,aw ?_⟩;refine⟨_,rfl,_,_,_,_,rfl,λv hv=>hv,.inr ⟨ea,cB,none,rfl,ee,trivial,R.kB,R.fB⟩,_,rfl,aw ?_⟩;refine⟨sz rfl,λl1 g1=>?_⟩;have w1:=af g1 (.lst [.str "other",.str "beneath"]);refine⟨_,rfl,_,_,_,_,rfl,λv hv=>hv,.inr ⟨ea,cB,none,rfl,w1 _ _ ee,trivial,R.kB,R.bB⟩,.inr ⟨_,rfl,l1,_,_,_,rfl,rfl,JG ac,at1,sz rfl,λt gt=>?_⟩⟩;exact q t _ (s2.trans (w1.trans (af gt _))) ac
 ·subst e;have q:=q nofun;refine⟨cF,bF,rfl,R.eF,R.hF,λea he=>⟨_,rfl,?_⟩⟩;have we:=af he (exD ea cF none);have ee:upd H1 ea (exD ea cF none) ea=some (exD ea cF none):=ac;have s2:=s1.trans we;generalize upd H1 ea (exD ea cF none)=H2 at ee s2 ⊢;refine⟨_,rfl,rfl,_,rfl,aF nofun ?_⟩;refine⟨_,rfl,_,_,_,_,rfl,λv hv=>hv,.inr ⟨ea,cF,none,rfl,ee,trivial,R.kF,R.nF⟩,_,rfl,aw ?_⟩;refine⟨_,rfl,_,_,_,_,rfl,λv hv=>hv,.inr ⟨ea,cF,none,rfl,ee,trivial,R.kF,R.tF⟩,_,rfl,aw ?_⟩;refine⟨_,rfl,_,_,_,_,rfl,λv hv=>hv,.inr ⟨ea,cF,none,rfl,ee,trivial,R.kF,R.fF⟩,_,rfl,bn ?_⟩;exact⟨sz rfl,λt gt=>q t _ (s2.trans (af gt _)) ac⟩
 ·subst e;refine⟨_,rfl,rfl,_,rfl,gw ?_⟩;exact⟨_,rfl,sz rfl,λt gt=>qk rfl t ol' H1 _ b1 O1 G1 ap (af gt _) ac⟩
def whD:Option Int->PyData
 |none=>.none
 |some i=>.int i
theorem Gb{H:Hp}(o:Option Int):Dt H (whD o) (whV o):=by
 cases o with
 |none=>simp only[whD,whV,Dt]
 |some i=>simp only[whD,whV,Dt]
inductive spRowRight  (vs:JK)(H:Hp)(Q:VK)(E_:XK):Prop
 |mk (a b:Jy) (x y uv pv:V) (tx:Str) (dn fo:Bool) (wh:Option Int) (h0:vs=[.ref a,.ref b]) (h1:H a=some (.tup [x,y,.str tx,.bl dn,whV wh,.bl fo])) (h2:H b=some (.tup [uv,pv,.str tx,.bl dn,whV wh,.bl fo])) (h3:PyData.strOk tx=true) (h4:∀H',Same H H'->Q (.bl true) H'):spRowRight  vs H Q E_
abbrev jB:JA:=top 27
abbrev tX:Jr:=["_law_row","_law_kept"]
theorem tK:FnScope tX ["_law_row","_law_kept"] (aj jB):=⟨rfl,rfl,rfl,by decide,rfl,by decide,by decide⟩
theorem sW{f:Jy}{fd:Jp}(F:Fun K "_law_row_right" "_law_row_right" jB f fd)(a6:mg "isinstance" = none)(IX:mg "str" = none)(g7:mg "bool" = none)(j7:mg "int" = none):FnOk P w K mg base CX0 1 f fd ["_law_row","_law_kept"] spRowRight:=by
 refine F.okQ tK (λvs H Q E h=>?_) (λcdv A outer s H vs Q E hr h=>?_)
 ·obtain⟨a,b,x,y,uv,pv,tx,dn,fo,wh,rfl,_⟩:=h;rfl
 obtain⟨a,b,x,y,uv,pv,tx,dn,fo,wh,rfl,ha,hb,hs,q⟩:=h;refine⟨_,(b_c (aI (t_w (fe (aB (fw hr.units) (cC bQ (q_v 0) (cj ag) cG) (cC bQ (q_v 1) (cj ag) cG)) (eX (dI (bU (q_B gS a6 aK (q_a (am aq (q_v 0) ag) (q_a (jt IX Ae) ah)))))))) (b_1 (aD ce)) b_0)
   (b_c (aI (t_w (fe (dI (bU (q_B gS a6 aK (q_a (am aq (q_v 0) ag) (q_a (jt g7 fK) ah))))) (eX (dI (bU (q_B gS a6 aK (q_a (am aq (q_v 0) ag) (q_a (jt g7 fK) ah)))))))) (b_1 (aD ce)) b_0)
   (b_1 (aD (HP (dw wS (am aq (q_v 0) ag) aY) (pq (mC (q_B gS a6 aK (q_a (am aq (q_v 0) ag) (q_a (jt j7 iD) ah))) (pq (GW (q_B gS a6 aK (q_a (am aq (q_v 0) ag) (q_a (jt g7 fK) ah)))))))))))),?_⟩
 try rw[cxK]
 refine⟨_,rfl,_,rfl,a,_,rfl,ha,λt1 H1 s1 e1=>?_⟩;rw[rK]at e1;refine⟨_,rfl,_,rfl,b,_,rfl,s1 _ _ hb,λt2 H2 s2 e2=>?_⟩;rw[rK]at e2;have e1:=s2 _ _ e1;have s02:=s1.trans s2;have dd:∀{t:Jy},H2 t=some (.tup [.str tx,.bl dn,whV wh,.bl fo])->Dt H2 (.tuple [.str tx,.bool dn,whD wh,.bool fo]) (.ref t):=fun{t} e=>by have wd:=Gb (H:=H2) wh;simp only[Dt,DtAll];exact⟨t,_,rfl,.inl e,_,_,rfl,rfl,_,_,rfl,rfl,_,_,rfl,wd,_,_,rfl,rfl,rfl⟩
 have hc:(PyData.tuple [.str tx,.bool dn,whD wh,.bool fo]).canLay0=true:=by cases wh<;>simp[whD,PyData.canLay0,PyData.canLayAll0,hs]
 have hp:(PyData.tuple [.str tx,.bool dn,whD wh,.bool fo]).depth<=10:=by cases wh<;>simp[whD,PyData.depth,PyData.depthAll]
 refine⟨_,_,dd e1,dd e2,bq hc hp,bq hc hp,_,rfl,?_⟩;rw[SeqAt.eqv_refl _ hc];refine aw ?_;have ha2:=s02 _ _ ha;refine(vix rfl (JF ha2) at2 ⟨_,_,_,_,rfl,.str tx,CF,_,rfl,aw ?_⟩);refine(vix rfl (JF ha2) at3 ⟨_,_,_,_,rfl,.bl dn,gz (H:=H2) (.bl dn),_,rfl,aw ?_⟩);refine(vix rfl (JF ha2) at5 ⟨_,_,_,_,rfl,.bl fo,gz (H:=H2) (.bl fo),_,rfl,aw ?_⟩);cases wh with
 |none=>exact(vix rfl (JF ha2) at4 ⟨rfl,_,rfl,bn (q _ s02)⟩)
 |some i =>refine(vix rfl (JF ha2) at4 ⟨rfl,_,rfl,aw ?_⟩);refine(vix rfl (JF ha2) at4 ⟨_,_,_,_,rfl,.int i,Ew,_,rfl,bn ?_⟩);exact(vix rfl (JF ha2) at4 ⟨_,_,_,_,rfl,.int i,gz (H:=H2) (.int i),_,rfl,q _ s02⟩)
inductive BelOf(ol:Ol)(gs:As Unit)(u:Option Nm)(bl:Ol):Prop
 |mk (M:Ol) (h0:M.Perm ol) (h1:M.Pairwise leP) (h2:bl=grp (M.filter (ngB ol gs)) u):BelOf ol gs u bl
theorem Cl{ol:Ol}{gs:As Unit}{u:Option Nm}{b1 b2:Ol}(nd:(ol.map (·.1)).Nodup)(h1:BelOf ol gs u b1)(h2:BelOf ol gs u b2):b1=b2:=by obtain⟨M,p,s,rfl⟩:=h1;obtain⟨M',p',s',rfl⟩:=h2;rw[kK nd p p' s s']
structure ToldAt(H:Hp)(t n r b:Jy)(ol:Ol)(out:List DI)(bl:Ol):Prop where
 tp:H t=some (.lst [.ref n,.ref r,.ref b])
 nm:∃ks,H n=some (.lst ks)/\KsAt H ol ks
 rw:∃rs,H r=some (.lst rs)/\RwsAt H out rs
 be:∃bs,H b=some (.lst bs)/\KsAt H bl bs
theorem ToldAt.same{H H':Hp}{t n r b:Jy}{ol:Ol}{out:List DI}{bl:Ol}(x:ToldAt H t n r b ol out bl)(s:Same H H'):ToldAt H' t n r b ol out bl:=by obtain⟨h1,⟨ks,h2,h3⟩,⟨rs,h4,h5⟩,⟨bs,h6,h7⟩⟩:=x;exact⟨s _ _ h1,⟨ks,s _ _ h2,h3.ts (JE s)⟩,⟨rs,s _ _ h4,h5.ts (JE s)⟩,⟨bs,s _ _ h6,h7.ts (JE s)⟩⟩
def hU(ol:Ol)(out:List DI)(bl:Ol):PyData:=.list [cM (ol.map (·.1)),.list (out.map rwD),cM (bl.map (·.1))]
theorem mH{H:Hp}{t n r b:Jy}{ol:Ol}{out:List DI}{bl:Ol}(x:ToldAt H t n r b ol out bl)(so:∀x∈out,PyData.strOk x.2.2.tx=true):Dt H (hU ol out bl) (.ref t)/\SeqAt.shaped (hU ol out bl)=true/\PyData.eqv (hU ol out bl) (hU ol out bl)=true:=by
 obtain⟨h1,⟨ks,h2,h3⟩,⟨rs,h4,h5⟩,⟨bs,h6,h7⟩⟩:=x;obtain⟨n1,n2,_⟩:=bj h2 (gY h3);obtain⟨r1,r2,_⟩:=FE h4 h5 so;obtain⟨b1,b2,_⟩:=bj h6 (gY h7);have n3:=Yr n2;have r3:=Yr r2;have b3:=Yr b2;have hc:(hU ol out bl).canLay0=true:=by simp only[hU,PyData.canLay0,PyData.canLayAll0,ZD,Bool.and_true];exact⟨n3,r3,b3⟩
 refine⟨?_,bq hc ?_,SeqAt.eqv_refl _ hc⟩
 ·simp only[hU,Dt,DtAll];exact⟨t,_,rfl,.inl h1,_,_,rfl,n1,_,_,rfl,r1,_,_,rfl,b1,rfl⟩
 ·have nd:=(mz (ol.map (·.1))).2;have bd:=(mz (bl.map (·.1))).2;have rd:=(qp out so).2;simp only[hU,cM,PyData.depth,PyData.depthAll];omega
inductive spTold(C T:Jy)(vs:JK)(H:Hp)(Q:VK)(E_:XK):Prop
 |mk (p d g:Jy) (ol:Ol) (gs:As Unit) (B:Nat) (uv:V) (u:Option Nm) (h0:vs=[.ref p,uv]) (h1:OlAt C H p d g ol) (h2:GoneAt H g gs) (h3:UpAt H uv u) (h4:ol.length<=60) (h5:(ol.map (·.1)).Nodup) (h6:Ter ol) (h7:gh ol B) (h8:aH bX T (cc bO) H) (h9:∀(t n r b:Jy) (out:List DI) (bl:Ol) (H':Hp),SameT T H H'->aH bX T (cc bO) H'->H t=none->H n=none->H r=none->H b=none->(n≠r/\n≠b/\r≠b/\t≠n/\t≠r/\t≠b)->OutOf (kp ol gs) out->BelOf ol gs u bl->ToldAt H' t n r b ol out bl->Q (.ref t) H'):spTold C T vs H Q E_
theorem fi{T:Jy}{H H':Hp}{q:Str}{pos:Pos}{b:Jy}{xs:JK}(e:H b=some (.lst xs))(s:SameT T H H')(tab:aH q T pos H):H' b=some (.lst xs):=s _ _ e λz=>by obtain⟨ps,t1,_⟩:=tab;rw[z,t1]at e;cases e
theorem pV{T:Jy}{H H':Hp}{q:Str}{pos:Pos}{b:Jy}(s:SameT T H H')(tab:aH q T pos H')(h:H' b=none):H b=none:=je s h (by
 obtain⟨ps,t1,_⟩:=tab;exact⟨_,t1⟩)
abbrev tH:JA:=top 31
abbrev DW:Jr:=["_law_plain","_law_up"]
theorem Du:FnScope DW ["_law_plain","_law_up"] (aj tH):=⟨rfl,rfl,rfl,by decide,rfl,by decide,by decide⟩
theorem CO{f C T:Jy}{fd:Jp}(F:Fun K "_law_told" "_law_told" tH f fd)(p6:MFn P w K mg base 1 C "names" ["self"] (spNames C))(Ic:MFn P w K mg base 7 C "rows" ["self"] (spRows C T))(k8:MFn P w K mg base 6 C "below" ["self","up"] (spBelow C T)):FnOk P w K mg base CX0 8 f fd ["_law_plain","_law_up"] (spTold C T):=by
 refine F.okQ Du (λvs H Q E h=>?_) (λcdv A outer s H vs Q E hr h=>?_)
 ·obtain⟨p,d,g,ol,gs,B,uv,u,rfl,_⟩:=h;rfl
 obtain⟨p,d,g,ol,gs,B,uv,u,rfl,O,G,hu,l3,nd,te,tb,tab,q⟩:=h;obtain⟨kvs,gvs,S,R⟩:=id O;obtain⟨⟨dx,h1⟩,_⟩:=id S;refine⟨_,(b_1 (aD (aW (q_a (gH p6 (hr.mono (by decide)) (q_v 0)) (q_a (gH Ic (hr.mono (by decide)) (q_v 0)) (q_a (cg k8 (hr.mono (by decide)) (q_v 0) (q_a (q_v 1) ah)) ah)))))),?_⟩
 try rw[cxK]
 refine⟨_,rfl,p,dx,_,rfl,h1,bV _ _,p,d,g,kvs,gvs,rfl,S,λl ks gl kat=>?_⟩;have wl:=af gl (.lst ks);have el:upd H l (.lst ks) l=some (.lst ks):=ac;have ka:=(ko kat R).ts (JE wl);generalize upd H l (.lst ks)=H1 at wl el ka ⊢;have tab1:=aR tab wl;refine⟨_,rfl,p,dx,_,rfl,wl _ _ h1,bV _ _,p,d,g,ol,gs,rfl,O.same wl,G.same wl,l3,nd,tab1,(λM pe=>by obtain⟨out,k,a,b,_⟩:=tS (gs:=gs) nd te tb l3 M pe;exact⟨out,k,a,b⟩),λRr H2 M out k rs pe so df s2 tab2 gR eR ra=>?_⟩;have O2:=(O.same wl).sameT s2 tab1;have G2:=(G.same wl).sameT s2 tab1;obtain⟨kvs2,gvs2,S2,R2⟩:=id O2;obtain⟨⟨dx2,h2⟩,_⟩:=id S2;have ts2:=cX s2 tab1;have el2:=fi el s2 tab1;refine⟨_,rfl,p,dx2,_,rfl,h2,bV _ _,_,rfl,p,d,g,ol,gs,uv,u,rfl,O2,G2,(hu.ts (JE wl)).ts ts2,l3,nd,tab2,te,λD H3 M' bs pe' so' s3 tab3 gD eD kb=>?_⟩;have ts3:=cX s3 tab2;refine⟨sz rfl,λt gt=>?_⟩;have wt:=af gt (.lst [.ref l,.ref Rr,.ref D]);have s03:SameT T H H3:=(SameT.of wl).trans (s2.trans s3);have s12:SameT T H H2:=(SameT.of wl).trans s2;have nlR:l≠Rr:=λz=>by rw[z,gR]at el;cases el
 have nlD:l≠D:=λz=>by rw[z,gD]at el2;cases el2
 have nRD:Rr≠D:=λz=>by rw[z,gD]at eR;cases eR
 have nTl:t≠l:=λz=>by rw[z,fi el2 s3 tab2]at gt;cases gt
 have nTR:t≠Rr:=λz=>by rw[z,fi eR s3 tab2]at gt;cases gt
 have nTD:t≠D:=λz=>by rw[z,eD]at gt;cases gt
 refine q t l Rr D out _ _ (s03.trans (.of wt)) (aR tab3 wt) (pV s03 tab3 gt) gl (pV (.of wl) tab1 gR) (pV s12 tab2 gD) ⟨nlR,nlD,nRD,nTl,nTR,nTD⟩ (yW nd te tb l3 pe so df) ⟨M',pe',so',rfl⟩ ⟨ac,⟨ks,wt _ _ (fi el2 s3 tab2),((ka.ts ts2).ts ts3).ts (JE wt)⟩,⟨rs,wt _ _ (fi eR s3 tab2),(ra.ts ts3).ts (JE wt)⟩,⟨bs,wt _ _ eD,kb.ts (JE wt)⟩⟩
theorem EW{ol:Ol}{B:Nat}{out:List DI}(nd:(ol.map (·.1)).Nodup)(tb:gh ol B)(l3:ol.length<=60)(h:OutOf ol out):out.length<=60:=by obtain⟨M,k,pe,_,df⟩:=h;obtain⟨out',k',d,hk⟩:=vF nd tb l3 M pe;rw[pS df d,d.len];exact hk
theorem yX{ol:Ol}{gs:As Unit}{out:List DI}(nd:(ol.map (·.1)).Nodup)(sk:∀x it,look ol x=some it->PyData.strOk it.tx=true)(h:OutOf (kp ol gs) out):∀x∈out,PyData.strOk x.2.2.tx=true:=λx hx=>by obtain⟨M,k,pe,_,df⟩:=h;obtain⟨h1,_⟩:=lF (tV pe df x hx);obtain⟨i,hi⟩:=Zt.mp h1;exact sk _ _ (aV nd hi)
inductive spOwn(C T:Jy)(vs:JK)(H:Hp)(Q:VK)(E_:XK):Prop
 |mk (p d g:Jy) (ol:Ol) (gs:As Unit) (B:Nat) (uv:V) (u:Option Nm) (h0:vs=[.ref p,uv]) (h1:OlAt C H p d g ol) (h2:GoneAt H g gs) (h3:UpAt H uv u) (h4:ol.length<=60) (h5:(ol.map (·.1)).Nodup) (h6:Ter ol) (h7:gh ol B) (h8:(∀x it,look ol x=some it->PyData.strOk it.tx=true)) (h9:aH bX T (cc bO) H) (h10:∀H',SameT T H H'->aH bX T (cc bO) H'->Q (.bl true) H'):spOwn C T vs H Q E_
abbrev jA:JA:=top 32
abbrev tW:Jr:=["_law_plain","_law_up","_law_told_here","_law_kept"]
theorem iS:FnScope tW ["_law_plain","_law_up"] (aj jA):=⟨rfl,rfl,rfl,by decide,rfl,by decide,by decide⟩
theorem sV{f C T:Jy}{fd:Jp}(F:Fun K "_law_own_lists" "_law_own_lists" jA f fd)(r9:Fn P w K mg base 8 "_law_told" ["_law_plain","_law_up"] (spTold C T))(a9:mg "list" = none):FnOk P w K mg base CX0 9 f fd ["_law_plain","_law_up"] (spOwn C T):=by
 refine F.okQ iS (λvs H Q E h=>?_) (λcdv A outer s H vs Q E hr h=>?_)
 ·obtain⟨p,d,g,ol,gs,B,uv,u,rfl,_⟩:=h;rfl
 obtain⟨p,d,g,ol,gs,B,uv,u,rfl,O,G,hu,l3,nd,te,tb,sk,tab,q⟩:=h;refine⟨_,(b_c (au (i:=2) iS.nd (bJ r9 (hr.mono (by decide)) (q_a (q_v 0) (q_a (q_v 1) ah))))
   (b_c (au (i:=3) iS.nd (aW (q_a (fE lh a9 ci (q_a (am br (q_v 2) ag) ah)) (q_a (fE lh a9 ci (q_a (am br (q_v 2) ag) ah)) (q_a (fE lh a9 ci (q_a (am br (q_v 2) ag) ah)) ah)))))
   (b_c (bC (io (am br (q_v 2) ag) aY))
   (b_c (bC (io (am br (q_v 2) ag) aY))
   (b_c (bC (io (am br (q_v 2) ag) aY))
   (b_1 (aD (dw (hJ hr.units) (bJ r9 (hr.mono (by decide)) (q_a (q_v 0) (q_a (q_v 1) ah))) (q_v 3))))))))),?_⟩
 try rw[cxK]
 refine ax λR hR=>?_;refine⟨_,rfl,_,rfl,p,d,g,ol,gs,B,uv,u,rfl,O,G,hu,l3,nd,te,tb,tab,λt n r b out bl H1 s1 tab1 ft fn fr fb ap oo bo ta=>hR _ _ ?_⟩;obtain⟨nr,nb,rb,tn,tr,tb'⟩:=ap;obtain⟨tp,⟨ks,en,ka⟩,⟨rs,er,ra⟩,⟨bs,eb,kb⟩⟩:=id ta;have lks:=Zu ka;have lrs:=Zu ra;have lbs:=Zu kb;have lo:=EW (rN nd) (wJ nd te tb) (Zr (ZJ _ _) l3) oo;have lb:bl.length<=60:=by obtain⟨M,pe,_,rfl⟩:=bo;exact Zr (ZJ _ _) (Zr (ZJ _ _) (by rw[pe.length_eq];exact l3))
 refine ax λR hR=>?_;refine⟨_,rfl,t,_,_,_,rfl,rfl,JG tp,at0,n,_,rfl,.inl (JG en),λl1 g1=>?_⟩;have w1:=af g1 (.lst ks);refine⟨_,rfl,t,_,_,_,rfl,rfl,JG (w1 _ _ tp),at1,r,_,rfl,.inl (JG (w1 _ _ er)),λl2 g2=>?_⟩;have w2:=w1.trans (af g2 (.lst rs));refine⟨_,rfl,t,_,_,_,rfl,rfl,JG (w2 _ _ tp),at2,b,_,rfl,.inl (JG (w2 _ _ eb)),λl3' g3=>?_⟩;have w23:=(af g2 (.lst rs)).trans (af g3 (.lst bs));have w3:=w2.trans (af g3 (.lst bs));refine⟨sz rfl,λlk glk=>hR _ _ ?_⟩;have wk:=af glk (.lst [.ref l1,.ref l2,.ref l3']);have w4:=w3.trans wk;have f1:l1≠n/\l1≠r/\l1≠b:=⟨(λz=>by rw[z,en]at g1;cases g1),(λz=>by rw[z,er]at g1;cases g1),(λz=>by rw[z,eb]at g1;cases g1)⟩
 have f2:l2≠n/\l2≠r/\l2≠b:=⟨(λz=>by rw[z,w1 _ _ en]at g2;cases g2),(λz=>by rw[z,w1 _ _ er]at g2;cases g2),(λz=>by rw[z,w1 _ _ eb]at g2;cases g2)⟩
 have f3:l3'≠n/\l3'≠r/\l3'≠b:=⟨(λz=>by rw[z,w2 _ _ en]at g3;cases g3),(λz=>by rw[z,w2 _ _ er]at g3;cases g3),(λz=>by rw[z,w2 _ _ eb]at g3;cases g3)⟩
 have f4:lk≠n/\lk≠r/\lk≠b:=⟨(λz=>by rw[z,w3 _ _ en]at glk;cases glk),(λz=>by rw[z,w3 _ _ er]at glk;cases glk),(λz=>by rw[z,w3 _ _ eb]at glk;cases glk)⟩
 have k1:=(w23.trans wk) _ _ (ac (H:=H1) (a:=l1) (o:=.lst ks));have k2:=((af g3 (.lst bs)).trans wk) _ _ (ac (a:=l2) (o:=.lst rs));have k3:=wk _ _ (ac (a:=l3') (o:=.lst bs));have k4:upd (upd (upd (upd H1 l1 (.lst ks)) l2 (.lst rs)) l3' (.lst bs)) lk (.lst [.ref l1,.ref l2,.ref l3']) lk=some (.lst [.ref l1,.ref l2,.ref l3']):=ac;have ta4:=ta.same w4;generalize upd (upd (upd (upd H1 l1 (.lst ks)) l2 (.lst rs)) l3' (.lst bs)) lk (.lst [.ref l1,.ref l2,.ref l3'])=H4 at w4 k1 k2 k3 k4 ta4 ⊢;have tp4:=ta4.tp;have en4:=w4 _ _ en;have er4:=w4 _ _ er;have eb4:=w4 _ _ eb;refine ax λR hR=>?_;refine⟨_,rfl,t,_,_,_,rfl,rfl,JG tp4,at0,.inl ⟨rfl,_,JG en4⟩,n,ks,_,rfl,rfl,en4,bD (by omega),hR _ _ ?_⟩;have t5:=dC (ks':=ks++[.non]) en4;have u5:∀{c:Jy} {o:HO},H4 c=some o->c≠n->upd H4 n (.lst (ks++[.non])) c=some o:=λe h=>by rw[ad h];exact e
 generalize upd H4 n (.lst (ks++[.non]))=H5 at t5 u5 ⊢;refine ax λR hR=>?_;refine⟨_,rfl,t,_,_,_,rfl,rfl,JG (u5 tp4 tn),at1,.inl ⟨rfl,_,JG (u5 er4 (Zs nr))⟩,r,rs,_,rfl,rfl,u5 er4 (Zs nr),bD (by omega),hR _ _ ?_⟩;have t6:=dC (ks':=rs++[.non]) (u5 er4 (Zs nr));have u6:∀{c:Jy} {o:HO},H4 c=some o->c≠n->c≠r->upd H5 r (.lst (rs++[.non])) c=some o:=λe h h'=>by rw[ad h'];exact u5 e h
 generalize upd H5 r (.lst (rs++[.non]))=H6 at t6 u6 ⊢;refine ax λR hR=>?_;refine⟨_,rfl,t,_,_,_,rfl,rfl,JG (u6 tp4 tn tr),at2,.inl ⟨rfl,_,JG (u6 eb4 (Zs nb) (Zs rb))⟩,b,bs,_,rfl,rfl,u6 eb4 (Zs nb) (Zs rb),bD (by omega),hR _ _ ?_⟩;have t7:=dC (ks':=bs++[.non]) (u6 eb4 (Zs nb) (Zs rb));have u7:∀{c:Jy} {o:HO},H4 c=some o->c≠n->c≠r->c≠b->upd H6 b (.lst (bs++[.non])) c=some o:=λe h h' h''=>by rw[ad h''];exact u6 e h h'
 generalize upd H6 b (.lst (bs++[.non]))=H7 at t7 u7 ⊢;have t47:K27.TS H4 H7:=λc zs e=>t7 _ _ (t6 _ _ (t5 _ _ e));have s07:SameT T H H7:=λc o e nt=>u7 (w4 _ _ (s1 c o e nt)) (ai e fn) (ai e fr) (ai e fb);have tab7:aH bX T (cc bO) H7:=by obtain⟨ps,y1,y2,y3⟩:=tab1;have nl:∀{c:Jy} {o:HO},H1 c=some o->(∀xs,o≠.lst xs)->H7 c=some o:=λe h=>u7 (w4 _ _ e) (λz=>by rw[z,en]at e;exact h _ (Zb e).symm) (λz=>by rw[z,er]at e;exact h _ (Zb e).symm) (λz=>by rw[z,eb]at e;exact h _ (Zb e).symm);exact⟨ps,nl y1 nofun,y2,y3.imp id fun⟨c,z1,z2⟩=>⟨c,z1,nl z2 (by intro xs z;unfold fD at z;cases z)⟩⟩
 have kt:ToldAt H7 lk l1 l2 l3' ol out bl:=⟨u7 k4 f4.1 f4.2.1 f4.2.2,⟨ks,u7 k1 f1.1 f1.2.1 f1.2.2,(ka.ts (JE w4)).ts t47⟩,⟨rs,u7 k2 f2.1 f2.2.1 f2.2.2,(ra.ts (JE w4)).ts t47⟩,⟨bs,u7 k3 f3.1 f3.2.1 f3.2.2,(kb.ts (JE w4)).ts t47⟩⟩
 refine⟨_,rfl,_,rfl,p,d,g,ol,gs,B,uv,u,rfl,O.sameT s07 tab,G.sameT s07 tab,hu.ts (cX s07 tab),l3,nd,te,tb,tab7,λt' n' r' b' out' bl' H8 s8 tab8 _ _ _ _ _ oo' bo' ta'=>?_⟩;obtain rfl:=CV (rN nd) oo oo';obtain rfl:=Cl nd bo bo';have kt8:ToldAt H8 lk l1 l2 l3' ol out bl:=by have ts8:=cX s8 tab7;obtain⟨q1,⟨ks',q2,q3⟩,⟨rs',q4,q5⟩,⟨bs',q6,q7⟩⟩:=kt;exact⟨fi q1 s8 tab7,⟨ks',fi q2 s8 tab7,q3.ts ts8⟩,⟨rs',fi q4 s8 tab7,q5.ts ts8⟩,⟨bs',fi q6 s8 tab7,q7.ts ts8⟩⟩
 have so:=yX nd sk oo;obtain⟨d1,sh1,eq1⟩:=mH ta' so;obtain⟨d2,sh2,_⟩:=mH kt8 so;refine⟨_,rfl,hU ol out bl,hU ol out bl,d1,d2,sh1,sh2,?_⟩;rw[eq1];exact q _ (s07.trans s8) tab8
inductive spUnder27(C:Jy)(vs:JK)(H:Hp)(Q:VK)(E_:XK):Prop
 |mk (p d g mm:Jy) (c:Int) (k:Nat) (mvs:JJ) (ol:Ol) (h0:vs=[.ref p,.int c,.int (k:Int),.ref mm]) (h1:OlAt C H p d g ol) (h2:H mm=some (.dT mvs)) (h3:Rows H mvs ol) (h4:(ol.map (·.1)).Nodup) (h5:Ter ol) (h6:k<=60) (h7:∀H',Same H H'->Q (.bl true) H'):spUnder27 C vs H Q E_
abbrev kH:JA:=top 33
abbrev vM:Jr:=["_law_plain","_law_cell","_law_k","_law_mine","_law_names","_law_one","_law_other","_law_found"]
theorem fq:FnScope vM ["_law_plain","_law_cell","_law_k","_law_mine"] (aj kH):=⟨rfl,rfl,rfl,by decide,rfl,by decide,by decide⟩
theorem uk{f C:Jy}{fd:Jp}(F:Fun K "_law_is_under" "_law_is_under" kH f fd)(g8:Fn P w K mg base 1 "_law_is_in" ["_law_one","_law_other","_law_mine"] spIsIn)(Ik:MFn P w K mg base 2 C "beneath" ["self","one","other"] (spBeneath C))(a9:mg "list" = none)(a8:mg "len" = none)(a6:mg "isinstance" = none)(g7:mg "bool" = none):FnOk P w K mg base CX0 3 f fd ["_law_plain","_law_cell","_law_k","_law_mine"] (spUnder27 C):=by
 refine F.okQ fq (λvs H Q E h=>?_) (λcdv A outer s H vs Q E hr h=>?_)
 ·obtain⟨p,d,g,mm,c,k,mvs,ol,rfl,_⟩:=h;rfl
 obtain⟨p,d,g,mm,c,k,mvs,ol,rfl,O,hm,Rm,nd,te,k60,q⟩:=h;refine⟨_,(b_c (au (i:=4) fq.nd (fE (iw rfl) a9 ci (q_a (q_v 3) ah)))
   (b_c (aI (aB (hJ hr.units) (q_v 4) (aW ah)) (b_1 (aD ce)) b_0)
   (b_c (au (i:=5) fq.nd (am br (q_v 4) (ar aU (ar cz (q_v 1) ag) (q_B fO a8 Z3 (q_a (q_v 4) ah)))))
   (b_c (au (i:=6) fq.nd (am br (q_v 4) (ar aU (ar gZ (ar cz (q_v 1) ag) (ar oY (q_v 2) (q_v 2))) (q_B fO a8 Z3 (q_a (q_v 4) ah)))))
   (b_c (au (i:=7) fq.nd (cg Ik (hr.mono (by decide)) (q_v 0) (q_a (q_v 5) (q_a (q_v 6) ah))))
   (b_1 (aD (mC (q_B gS a6 aK (q_a (q_v 7) (q_a (jt g7 fK) ah))) (pq (dw bW (q_v 7) (mC (dw (yM hr.units) (q_v 5) (q_v 6)) (pq (bJ g8 (hr.mono (by decide)) (q_a (q_v 5) (q_a (q_v 6) (q_a (q_v 3) ah)))))))))))))))),?_⟩
 try rw[cxK]
 refine ax λR hR=>?_;refine⟨_,rfl,mm,mvs,rfl,Rd.of hm,λnl ks gl kat=>hR _ _ ?_⟩;have w1:=af gl (.lst ks);have el:upd H nl (.lst ks) nl=some (.lst ks):=ac;have ka:=gY ((ko kat Rm).ts (JE w1));generalize upd H nl (.lst ks)=H1 at w1 el ka ⊢;refine⟨_,rfl,sz rfl,λe ge=>?_⟩;have we:=af ge (.lst []);obtain⟨d1,sh1,_⟩:=bj (we _ _ el) (AbAt.ts ka (JE we));obtain⟨d2,sh2,_⟩:=bj (ns:=[]) (l:=e) ac .nil;refine⟨_,_,d1,d2,sh1,sh2,_,rfl,?_⟩;have s2:=w1.trans we;have el:=we _ _ el;have ka:=AbAt.ts ka (JE we);generalize upd H1 e (.lst [])=H2 at s2 el ka ⊢;rw[gE];refine cK (λ_=>q _ s2) (λne=>?_)
 try dsimp only[pH]
 obtain⟨m1,v1,a1,i1,n1,lp⟩:=oS ka (c / 7) ne;obtain⟨m2,v2,a2,i2,n2,_⟩:=oS ka (c / 11+(k:Int)*(k:Int)) ne;refine ax λR hR=>?_;refine⟨_,rfl,_,rfl,_,_,rfl,rfl,⟨by decide,by decide⟩,_,rfl,nl,_,rfl,.inl (JG el),_,_,rfl,rfl,(by show(0:Int)<(ks.length:Int);omega),nl,_,_,_,rfl,rfl,JG el,a1,hR _ _ ?_⟩;refine ax λR hR=>?_;refine⟨_,rfl,_,rfl,_,_,rfl,rfl,⟨by decide,by decide⟩,_,rfl,_,rfl,_,_,rfl,rfl,.inl ⟨by omega,by omega⟩,_,_,rfl,rfl,_,rfl,nl,_,rfl,.inl (JG el),_,_,rfl,rfl,(by show(0:Int)<(ks.length:Int);omega),nl,_,_,_,rfl,rfl,JG el,a2,hR _ _ ?_⟩;obtain⟨x1,hx1,rfl⟩:=ZF.mp i1;obtain⟨j1,hj1⟩:=Zt.mp hx1;have l1:=aV nd hj1;have O2:=O.same s2;obtain⟨kvs,gvs,S,R0⟩:=id O2;obtain⟨⟨dx,h1⟩,_⟩:=id S;obtain⟨k0,ch0⟩:=te.up l1;obtain⟨j0,b',un⟩:=ch0.und m2;refine ax λR hR=>?_;refine⟨_,rfl,p,dx,_,rfl,h1,bV _ _,_,rfl,_,rfl,p,d,g,ol,v1,v2,x1.1,m2,x1.2,j0,b',rfl,O2,n1,l1,n2,un,hR _ _ ?_⟩;refine⟨_,rfl,.bl b',"bool",.type "bool",true,rfl,.bl b',gz (H:=H2) (.bl b'),_,rfl,bn ?_⟩;obtain⟨b1,rfl,hb1⟩:=id n1;obtain⟨b2,rfl,hb2⟩:=id n2;refine⟨_,rfl,_,rfl,_,rfl,b1,b2,[x1.1.1,x1.1.2],[m2.1,m2.2],rfl,rfl,hb1,hb2,_,rfl,?_⟩;have nI2:∀{p q:Nm},[p.1,p.2]=[q.1,q.2]->p=q:=λh=>by injection h with h1 h2;injection h2 with h2 _;exact Prod.ext h1 h2
 by_cases e:x1.1=m2
 ·have hb:b'=false:=by rw[<-e]at un;exact Bu l1 ch0 un
  rw[decide_eq_true (show[x1.1.1,x1.1.2]=[m2.1,m2.2] by rw[e])];refine aw ⟨rfl,?_⟩;rw[hb];exact q _ s2
 ·rw[decide_eq_false (show¬[x1.1.1,x1.1.2]=[m2.1,m2.2]from λz=>e (nI2 z))];refine bn ⟨_,rfl,_,rfl,_,rfl,mm,mvs,ol,.ref b1,.ref b2,some x1.1,m2,j0+1,b',rfl,.inl (s2 _ _ hm),Rm.ts (JE s2),n1,n2,.up e l1 un,rfl,?_⟩;rw[decide_eq_true rfl];exact q _ s2
def stp(x:Ol×As Unit)(s:Sd):Ol×As Unit:=(apF x.1 s,ls x.2 s)
def run(ss:List Sd):Ol×As Unit:=ss.foldl stp ([],[])
def Good(ss:List Sd):Prop:=∀(i:Nat) (s:Sd),ss[i]?=some s->Due (run (ss.take i)).1 s .ok/\StB s
theorem nM(ss:List Sd)(s:Sd):run (ss++[s])=stp (run ss) s:=by unfold run;rw[List.foldl_append];rfl
theorem nO{ss:List Sd}{i:Nat}{s:Sd}(h:ss[i]?=some s):run (ss.take (i+1))=stp (run (ss.take i)) s:=by rw[Ym,h];exact nM _ s
theorem pX{ss:List Sd}(g:Good ss):∀i,i<=ss.length->Ok27 (run (ss.take i)).1 (run (ss.take i)).2 i:=by
 intro i;induction i with
 |zero=>intro _;exact Ok27.zero
 |succ i ih =>intro hi;have hx:ss[i]?=some ss[i]:=Zd hi;rw[nO hx];exact(ih (by omega)).step (g i _ hx).2 (g i _ hx).1
theorem Good.ok{ss:List Sd}(g:Good ss):Ok27 (run ss).1 (run ss).2 ss.length:=by have:=pX g ss.length (Za _);rw[ZA (Za _)]at this;exact this
theorem Good.nil:Good []:=λi s h=>by simp at h
theorem Good.snoc{ss:List Sd}{s:Sd}(g:Good ss)(h1:Due (run ss).1 s .ok)(h2:StB s):Good (ss++[s]):=λi s' h=>by
 by_cases c:i<ss.length
 ·rw[Yi c]at h;rw[List.take_append_of_le_length (by omega)];exact g i s' h
 ·rw[Z0 (by omega)]at h;have hi:i=ss.length:=by have:=(ZB.mp h).1;have:i-ss.length<1:=this;omega
  subst hi;rw[Nat.sub_self]at h;cases h;rw[List.take_left' rfl];exact⟨h1,h2⟩
abbrev StsAt(H:Hp)(sts:List Jy)(ss:List Sd):Prop:=Paired (λst s=>StAt H st s) sts ss
theorem StsAt.ts{H H':Hp}{sts:List Jy}{ss:List Sd}(x:StsAt H sts ss)(s:K27.TS H H'):StsAt H' sts ss:=Paired.mapP x λ_ _ z=>z.ts s
inductive spLets27(C:Jy)(vs:JK)(H:Hp)(Q:VK)(E_:XK):Prop
 |mk (L:Jy) (sts rest:List Jy) (ss:List Sd) (ext:Option (Jy×Sd×Out)) (h0:vs=[.ref L]) (h1:H L=some (.lst ((sts++((ext.map (·.1)).toList++rest)).map V.ref))) (h2:StsAt H sts ss) (h3:Good ss) (h4:ss.length<=60) (h5:(ext=none->rest=[])) (h6:(∀e,ext=some e->StAt H e.1 e.2.1/\Due (run ss).1 e.2.1 e.2.2/\e.2.2≠.ok)) (h7:∀H',Same H H'->Q (.bl ext.isNone) H'):spLets27 C vs H Q E_
abbrev lT:JA:=top 16
abbrev xJ:Jr:=["steps","outline","step"]
theorem kJ:FnScope xJ ["steps"] (aj lT):=⟨rfl,rfl,rfl,by decide,rfl,by decide,by decide⟩
theorem xf{f C cL cT cN cB cF:Jy}{fd:Jp}{bL bT bN bB bF:Jn}(F:Fun K "lets_by" "lets_by" lT f fd)(k9:MkFn P w K mg base 1 C "Plain" ["self"] (spInit C))(p5:MFnX P w K mg base 4 C "step" ["self","step"] (spStepA C cT cN cB cF))(R:ErsH K cL cT cN cB cF bT bN bB bF)(r6:ExC K cL bL)(g9:mg "LimbError" = some (.ref cL)):FnOk P w K mg base CX0 5 f fd ["steps"] (spLets27 C):=by
 refine F.okQ kJ (λvs H Q E h=>?_) (λcdv A outer s H vs Q E hr h=>?_)
 ·obtain⟨L,sts,rest,ss,ext,rfl,_⟩:=h;rfl
 obtain⟨L,sts,rest,ss,ext,rfl,hL,pa,gd,le,hr0,he,q⟩:=h;refine⟨_,(b_c (au (i:=1) kJ.nd (vo k9 (hr.mono (by decide))))
   (b_c (eV ZX rfl (fh (q_v 0)) (bv (i:=2) kJ.nd) (b_1 (zw rfl rfl (DA (zS p5 (hr.mono (by decide)) (q_v 1) (q_a (q_v 2) ah))) (HI r6 g9 (λ_=>(b_1 (aD ce))) Gq))))
   (b_1 (aD ce)))),?_⟩
 try rw[cxK]
 intro x dx nx ndx nex;refine⟨x,dx,rfl,ac,λd g H1 fd0 fg0 S1 kp1=>⟨rfl,?_⟩⟩;have s00:Same H (upd (upd H dx (.own x)) x (.ins C dx [])):=λb o e=>by rw[ad (ai e nx),ad (ai e ndx)];exact e
 have hd0:H d=none:=s00.free fd0;have hg0:H g=none:=s00.free fg0;have s01:Same H H1:=λb o e=>kp1 b o (by rw[ad (ai e nx),ad (ai e ndx)];exact e) (ai e nx);have O1:OlAt C H1 x d g []:=⟨[],[],S1,.nil⟩
 have G1:GoneAt H1 g []:=⟨[],S1.gc,.nil⟩
 refine⟨_,rfl,L,rfl,⟨_,JG (s01 _ _ hL)⟩,?_⟩;have lp:=Zu pa;have tx:∀i,i<=ss.length->TxB (run (ss.take i)).1:=λi hi n it hl=>by have:=(pX gd i hi).tx hl;omega
 refine nq (xs:=(sts++((ext.map (·.1)).toList++rest)).map V.ref) (λi σ H'=>Same H H'/\i<=ss.length/\OlAt C H' x d g (run (ss.take i)).1/\GoneAt H' g (run (ss.take i)).2/\∃o2,σ=[some (.ref L),some (.ref x),o2]) ⟨s01,ZM _,O1,G1,none,rfl⟩ (λ_ _ _ _ v=>JG (v.1 _ _ hL)) ?_ ?_
 ·rintro i v σ H' hv ⟨sm,hi,O,G,o2,rfl⟩;obtain⟨kvs,gvs,S,_⟩:=id O;obtain⟨⟨dx2,h1⟩,h2,_⟩:=id S;have ok:=pX gd i hi;have l1:=ok.le;have l2:=ok.gl;by_cases c:i<sts.length
  ·rw[ZE,Yi c,Zd c]at hv;cases hv;obtain⟨y,hy,hst⟩:=eE pa (Zd c);obtain⟨du,sb⟩:=gd i y hy;refine⟨_,rfl,x,dx2,_,rfl,h1,bV _ _,_,rfl,x,d,g,_,_,_,y,.ok,rfl,O,G,by omega,by omega,hst.ts (JE sm),tx i hi,du,nofun,nofun,nofun,nofun,λ_ H2 ol' b2 O2 G2 ap=>?_⟩;rw[xN ok.nd sb du ap]at O2;refine⟨λb o e=>b2 b o (sm b o e) (ai e hd0) (ai e hg0),by omega,?_,?_,_,rfl⟩
   ·rw[nO hy];exact O2
   ·rw[nO hy];exact G2
  ·have hi2:i=sts.length:=by omega
   rw[ZE,Z0 (by omega),hi2,Nat.sub_self]at hv;cases hx:ext with
   |none =>rw[hx,hr0 hx]at hv;cases hv
   |some e =>
    rw[hx]at hv;cases hv;obtain⟨a1,a2,a3⟩:=he e hx;rw[ZA (by omega)]at O G ok l1 l2;have qf:∀H2,Same H' H2->Q (.bl false) H2:=λH2 s2=>by have:=q H2 (sm.trans s2);rw[hx]at this;exact this
    have tb:TxB (run ss).1:=by have:=tx ss.length (Za _);rw[ZA (Za _)]at this;exact this
    refine⟨_,rfl,x,dx2,_,rfl,h1,bV _ _,_,rfl,x,d,g,_,_,_,e.2.1,e.2.2,rfl,O,G,by omega,by omega,a1.ts (JE sm),tb,a2,(λz H2 s2=>⟨cT,bT,rfl,R.eT,?_⟩),(λn z H2 dd v s2 _ _=>⟨cN,bN,rfl,R.eN,?_⟩),(λz H2 s2=>⟨cB,bB,rfl,R.eB,?_⟩),(λz H2 s2=>⟨cF,bF,rfl,R.eF,?_⟩),λz=>absurd z a3⟩
    ·rw[Jg R.hT];exact qf _ s2
    ·rw[Jg R.hN];exact qf _ s2
    ·rw[Jg R.hB];exact qf _ s2
    ·rw[Jg R.hF];exact qf _ s2
 ·rintro σ H' ⟨sm,hi,O,G,o2,rfl⟩;have:=q H' sm;cases hx:ext with
  |none =>rw[hx]at this;exact this
  |some e =>rw[hx,Ze,Zn,Zn]at hi;have hi:sts.length+(1+rest.length)<=ss.length:=hi;omega
inductive MineAt(H:Hp)(mm:Jy)(ol:Ol):Prop
 |mk (mvs:_) (h0:H mm=some (.dT mvs)) (h1:Rows H mvs ol):MineAt H mm ol
theorem MineAt.same{H H':Hp}{mm:Jy}{ol:Ol}(x:MineAt H mm ol)(s:Same H H'):MineAt H' mm ol:=by obtain⟨mvs,h1,h2⟩:=x;exact⟨mvs,s _ _ h1,h2.ts (JE s)⟩
theorem gC{H:Hp}{mm t:Jy}{mvs:JJ}{ol:Ol}{n:Nm}{it:It}(hm:H mm=some (.dT mvs))(R:Rows H mvs ol)(hi:ItAt H (.ref t) it):MineAt (upd H mm (.dT (ba mvs (nk n) (.ref t)))) mm (ay ol n it)/\K27.TS H (upd H mm (.dT (ba mvs (nk n) (.ref t))))/\But mm H (upd H mm (.dT (ba mvs (nk n) (.ref t)))):=by have ts:=lX (kvs':=ba mvs (nk n) (.ref t)) hm;exact⟨⟨_,ac,Rows.ts (iL R hi) ts⟩,ts,λb o e hb=>by rw[ad hb];exact e⟩
inductive spApply  (vs:JK)(H:Hp)(Q:VK)(E_:XK):Prop
 |mk (st mm ll:Jy) (ol:Ol) (gs:As Unit) (s:Sd) (k:Nat) (h0:vs=[.ref st,.ref mm,.ref ll]) (h1:StAt H st s) (h2:MineAt H mm ol) (h3:GoneAt H ll gs) (h4:mm≠ll) (h5:Ok27 ol gs k) (h6:k<=60) (h7:Due ol s .ok) (h8:StB s) (h9:∀H',But2 mm ll H H'->MineAt H' mm (apF ol s)->GoneAt H' ll (ls gs s)->Q .non H'):spApply  vs H Q E_
theorem Ai{a b c d e f:V}:cE [a,b,c,d,e,f] none (some 2)=[a,b]:=rfl
theorem Aj{a b c d e f:V}:cE [a,b,c,d,e,f] (some 3) none=[d,e,f]:=rfl
theorem Hz{a b c d e f:V}:cE [a,b,c,d,e,f] (some 1) none=[b,c,d,e,f]:=rfl
theorem HC{a b c d:V}:cE [a,b,c,d] (some 2) none=[c,d]:=rfl
theorem HE{a b c d e:V}:cE [a,b,c,d,e] (some 2) none=[c,d,e]:=rfl
theorem But2.of{d g:Jy}{H H':Hp}(s:But d H H'):But2 d g H H':=λb o e n _=>s b o e n
theorem But2.of'{d g:Jy}{H H':Hp}(s:Same H H'):But2 d g H H':=λb o e _ _=>s b o e
theorem But2.trans{d g:Jy}{H H' H2:Hp}(x:But2 d g H H')(y:But2 d g H' H2):But2 d g H H2:=λb o e n m=>y b o (x b o e n m) n m
theorem GoneAt.but2{H H':Hp}{mm ll:Jy}{gs:As Unit}(x:GoneAt H ll gs)(b:But mm H H')(ne:mm≠ll):GoneAt H' ll gs:=by obtain⟨gvs,h1,h2⟩:=x;exact⟨gvs,b _ _ h1 (Zs ne),h2⟩
abbrev qr:JA:=top 25
abbrev Ca:Jr:=["_law_step_here","_law_mine","_law_lost","_law_word","_law_here","_law_there","_law_one","_law_at"]
theorem gJ:FnScope Ca ["_law_step_here","_law_mine","_law_lost"] (aj qr):=⟨rfl,rfl,rfl,by decide,rfl,by decide,by decide⟩
def gM(ol:Ol)(ns:List Nm)(n:Nm):Ol:=ol.map λp=>if p.1∈ns then(p.1,{ p.2 with up:=some n })else p
theorem fL(ns:List Nm)(n:Nm):∀(ol:Ol) (x:Nm),look (gM ol ns n) x=(look ol x).map λit=>if x∈ns then{ it with up:=some n }else it
 | [],_=>rfl
 |p::l,x=>by
  have ih:=fL ns n l x;unfold gM at ih ⊢;rw[Zk];unfold look;by_cases d:p.1∈ns
  ·rw[Jg d];by_cases c:p.1=x
   ·rw[Jg c,Jg c];subst c;show _=some _
    try dsimp only
    rw[Jg d]
   ·rw[Jf c,Jf c];exact ih
  ·rw[Jf d];by_cases c:p.1=x
   ·rw[Jg c,Jg c];subst c;show _=some _
    try dsimp only
    rw[Jf d]
   ·rw[Jf c,Jf c];exact ih
theorem fZ(ol:Ol)(ns:List Nm)(n:Nm):(gM ol ns n).map (·.1)=ol.map (·.1):=by
 unfold gM;rw[YN];refine YH λp _=>?_;show(if p.1∈ns then(p.1,_)else p).1=p.1;by_cases d:p.1∈ns
 ·rw[Jg d]
 ·rw[Jf d]
theorem zR{ol:Ol}{ns:List Nm}{n x:Nm}{it:It}(nd:(ol.map (·.1)).Nodup)(hl:look (gM ol ns n) x=some it):ay (gM ol ns n) x { it with up:=some n }=gM ol (ns++[x]) n:=by
 refine nY ?_ ?_ λy=>?_
 ·rw[ip,Jg (by rw[hl];rfl),fZ,fZ]
 ·exact eC (by rw[fZ];exact nd)
 ·rw[aG,fL,fL];rw[fL]at hl;by_cases c:y=x
  ·subst c;rw[Jg rfl];cases e:look ol y with
   |none=>rw[e]at hl;cases hl
   |some i =>
    rw[e]at hl;have hl:(if y∈ns then{ i with up:=some n }else i)=it:=Zb hl;show some _=some _
    try dsimp only
    rw[Jg (ZC.mpr (.inr (Zq.mpr rfl))),<-hl];by_cases d:y∈ns
    ·rw[Jg d]
    ·rw[Jf d]
  ·rw[Jf c];cases look ol y with
   |none=>rfl
   |some i =>
    show some _=some _
    try dsimp only
    by_cases d:y∈ns
    ·rw[Jg d,Jg (ZC.mpr (.inl d))]
    ·rw[Jf d,Jf λz=>?_];rcases ZC.mp z with z|z
     ·exact d z
     ·exact c (Zq.mp z)
theorem zQ{ol:Ol}{n m:Nm}(nd:(ol.map (·.1)).Nodup):gM ol ((grp ol (some m)).map (·.1)) n=ol.map λp=>(p.1,cw n m p.2):=by
 refine nY ?_ (by rw[fZ];exact nd) λx=>?_
 ·rw[fZ,YN];rfl
 ·rw[fL,jc];cases e:look ol x with
  |none=>rfl
  |some i =>
   show some _=some _
   try dsimp only
   by_cases c:i.up=some m
   ·rw[Jg (ZF.mpr ⟨(x,i),cU.mpr ⟨iB e,c⟩,rfl⟩)];unfold cw;rw[Jg c]
   ·rw[Jf λz=>c ?_]
    ·unfold cw;rw[Jf c]
    ·obtain⟨y,hy,e2⟩:=ZF.mp z;obtain⟨h1,h2⟩:=cU.mp hy;obtain⟨j,hj⟩:=Zt.mp h1;have:=aV nd hj;rw[e2,e]at this;cases this;exact h2
def WS:Jr:=["write","mark","due","fold"]
theorem jQ{H:Hp}:∀ws:Jr,DtAll H (ws.map PyData.str) (ws.map V.str)
 | []=>by simp[DtAll]
 |b::bs=>by rw[Zk,Zk];simp only[DtAll];exact⟨_,_,rfl,by simp only[Dt],jQ bs⟩
theorem AR{f:Jy}{fd:Jp}(F:Fun K "_law_apply" "_law_apply" qr f fd):FnOk P w K mg base CX0 1 f fd ["_law_step_here","_law_mine","_law_lost"] spApply:=by
 refine F.okQ gJ (λvs H Q E h=>?_) (λcdv A outer s H vs Q E hr h=>?_)
 ·obtain⟨st,mm,ll,ol,gs,sd,k,rfl,_⟩:=h;rfl
 obtain⟨st,mm,ll,ol,gs,sd,k,rfl,hs,⟨mvs,hm,Rm⟩,G,ne,ok,k60,du,sb,q⟩:=h;refine⟨_,(b_c (au (i:=3) gJ.nd (am aq (q_v 0) ag))
   (b_c (aI (aB bW (q_v 3) aE) (b_c (dM hr.units (q_v 1) (am aq (q_v 0) ag) (ar di (cC bQ (q_v 0) (cj ag) cG) (aQ (q_a ce (q_a aY (q_a ce ah))))))
   (b_1 FI)) b_0)
   (b_c (au (i:=4) gJ.nd (bp hr.units (q_v 1) (am aq (q_v 0) ag)))
   (b_1 (aI (aB bW (q_v 3) aE) (b_1 (dM hr.units (q_v 1) (am aq (q_v 0) ag) (ar di (cC bQ (q_v 0) (cj ag) cG) (cC bQ (q_v 4) (cj ag) cG)))) (b_1 (aI (aB bW (q_v 3) aE) (b_c (dM hr.units (q_v 1) (am aq (q_v 0) ag) (ar di (ar di (cC bQ (q_v 4) cG (cj ag)) (aQ (q_a (cC oK (am aq (q_v 4) ag) cG (cj (am aq (q_v 0) ag))) ah))) (cC bQ (q_v 4) (cj ag) cG)))
   (b_1 (dM hr.units (q_v 1) (am aq (q_v 0) ag) (aQ (q_a (am aq (q_v 4) ag) (q_a (am aq (q_v 0) ag) (q_a (cC oK (am aq (q_v 4) ag) (cj (am aq (q_v 0) ag)) cG) (q_a ce (q_a aY (q_a ce ah)))))))))) (b_1 (aI (aB bW (q_v 3) aE) (b_c (au (i:=5) gJ.nd (bp hr.units (q_v 1) (am aq (q_v 0) ag)))
   (b_c (dM hr.units (q_v 1) (am aq (q_v 0) ag) (ar di (ar di (cC bQ (q_v 4) cG (cj ag)) (aQ (q_a (ar oX (am aq (q_v 4) ag) (am aq (q_v 5) ag)) ah))) (cC bQ (q_v 4) (cj ag) cG)))
   (b_c (dM hr.units (q_v 1) (am aq (q_v 0) ag) (ar di (ar di (cC bQ (q_v 5) cG (cj ag)) (aQ (q_a aE ah))) (cC bQ (q_v 5) (cj ag) cG)))
   (b_1 (eV ZX rfl (fh (zm (lL (own:=["_law_name_here"]) (⟨rfl,by decide,by decide,rfl,⟨rfl,rfl,⟨rfl,rfl,trivial⟩⟩⟩:CompOk _ _ [1,0] ["_law_mine","_law_step_here"]) rfl (wG (q_v 1)) (λ_ _ _ _=>bv (i:=0) (show(["_law_name_here","_law_mine","_law_step_here"]:Jr).Nodup by decide)) (gj (by decide)) (λ_ _ _ _=>(Ay (aB (hJ hr.units) (am (lZ (K:=K) rfl) (bp hr.units (q_v 1) (q_v 0)) ag) (am (lZ (K:=K) rfl) (q_v 2) ag)))) (λ_ _ _ _=>(q_v 0))))) (bv (i:=6) gJ.nd) (b_1 (dM hr.units (q_v 1) (q_v 6) (ar di (aQ (q_a (am aq (q_v 0) ag) ah)) (cC bQ (bp hr.units (q_v 1) (q_v 6)) (cj ag) cG))))))))) (b_1 (aI (aB bW (q_v 3) aE) (b_1 (dM hr.units (q_v 2) (am aq (q_v 0) ag) ce)) (b_c (au (i:=7) gJ.nd (Dp hr (aW (q_a aE (q_a aE (q_a aE (q_a aE ah))))) (q_v 3)))
   (b_1 (dM hr.units (q_v 1) (am aq (q_v 0) ag) (ar di (ar di (cC bQ (q_v 4) cG (cj (ar gZ ag (q_v 7)))) (aQ (q_a (am aq (q_v 0) ag) ah))) (cC bQ (q_v 4) (cj (ar gZ ag (q_v 7))) cG)))))))))))))))),?_⟩
 try rw[cxK]
 obtain⟨nv,rest,hst,hnv⟩:=Dy hs;obtain⟨nw,itm,bd⟩:=yc du;have lmv:=bE Rm;have le:=ok.le;have gl:=ok.gl;refine(vix rfl (JF hst) at0 ?_);have fin:∀{H6:Hp} {t:Jy} {n:Nm} {it:It} {ol':Ol},(∀n,sd≠.gone n)->Same H H6->ItAt H6 (.ref t) it->apF ol sd=ay ol n it->Q .non (upd H6 mm (.dT (ba mvs (nk n) (.ref t)))):=fun{H6 t n it ol'} ng s6 hi e=>by obtain⟨a,b,c⟩:=gC (n:=n) (s6 _ _ hm) (Rm.ts (JE s6)) hi;rw[<-e]at a;refine q _ ((But2.of' s6).trans (But2.of c)) a ?_;rw[uK ng];exact(G.same s6).but2 c ne
 cases sd with
 |put n u pl tx =>obtain⟨nv',uv,pv,h1,h2,h3,h4⟩:=hs;obtain⟨nb,rfl,hnb⟩:=id h2;refine⟨_,rfl,rfl,_,rfl,gw ?_⟩;refine⟨_,rfl,_,rfl,st,_,rfl,h1,λt1 H5 s5 e5=>?_⟩;rw[HE]at e5;refine⟨sz rfl,λt2 g2=>?_⟩;have w2:=af g2 (.tup [.bl false,.non,.bl false]);refine⟨t1,t2,_,_,rfl,rfl,w2 _ _ e5,ac,sz rfl,λt3 H6 s6 e6=>?_⟩;have sc6:Same H H6:=s5.trans (w2.trans s6);refine⟨_,rfl,vix rfl (JF (sc6 _ _ h1)) at1 ⟨mm,_,rfl,DPut.t (k:=nk n) (sc6 _ _ hm) (sc6 _ _ hnb) (bc (by omega)),?_⟩⟩;exact fin (ol':=ol) (it:=⟨u,pl,tx,false,none,false⟩) nofun sc6 ⟨t3,uv,pv,rfl,e6,h3.ts (JE sc6),h4.ts (JE sc6)⟩ rfl
 |move n u pl =>obtain⟨nv',uv,pv,h1,h2,h3,h4⟩:=hs;obtain⟨nb,rfl,hnb⟩:=id h2;obtain⟨it,hl⟩:=Zh.mp (itm n (by simp[Sd.items]));obtain⟨iv,f1,ia,uv0,pv0,rfl,f2,f3,f4⟩:=aC Rm hl;refine⟨_,rfl,rfl,_,rfl,aF (show V.str "move"≠V.str "put" by decide) ?_⟩;refine⟨_,rfl,vix rfl (JF h1) at1 ⟨mm,.ref ia,rfl,f1▸DGet.t (k:=nk n) hm hnb,?_⟩⟩;refine⟨_,rfl,rfl,_,rfl,gw ?_⟩;refine⟨_,rfl,_,rfl,st,_,rfl,h1,λt1 H5 s5 e5=>?_⟩;rw[HC]at e5;refine⟨_,rfl,_,rfl,ia,_,rfl,s5 _ _ f2,λt2 H5' s5' e5'=>?_⟩;rw[rK]at e5';refine⟨t1,t2,_,_,rfl,rfl,s5' _ _ e5,e5',sz rfl,λt3 H6 s6 e6=>?_⟩;have sc6:Same H H6:=s5.trans (s5'.trans s6);refine⟨_,rfl,vix rfl (JF (sc6 _ _ h1)) at1 ⟨mm,_,rfl,DPut.t (k:=nk n) (sc6 _ _ hm) (sc6 _ _ hnb) (bc (by omega)),?_⟩⟩;exact fin (ol':=ol) (it:={ it with up:=u,pl:=pl }) nofun sc6 ⟨t3,uv,pv,rfl,e6,h3.ts (JE sc6),h4.ts (JE sc6)⟩ (by show chO _ _ _=_;unfold chO;rw[hl])
 |gone n =>obtain⟨nv',h1,h2⟩:=hs;obtain⟨nb,rfl,hnb⟩:=id h2;obtain⟨it,hl⟩:=Zh.mp (itm n (by simp[Sd.items]));obtain⟨iv,f1,ia,uv0,pv0,rfl,f2,f3,f4⟩:=aC Rm hl;obtain⟨lvs,hll,Rl⟩:=id G;have lgv:=bE Rl;refine⟨_,rfl,rfl,_,rfl,aF (show V.str "gone"≠V.str "put" by decide) ?_⟩;refine⟨_,rfl,vix rfl (JF h1) at1 ⟨mm,.ref ia,rfl,f1▸DGet.t (k:=nk n) hm hnb,?_⟩⟩;refine⟨_,rfl,rfl,_,rfl,aF (show V.str "gone"≠V.str "move" by decide) ?_⟩;refine⟨_,rfl,rfl,_,rfl,aF (show V.str "gone"≠V.str "part" by decide) ?_⟩;refine⟨_,rfl,rfl,_,rfl,aF (show V.str "gone"≠V.str "join" by decide) ?_⟩;refine⟨_,rfl,rfl,_,rfl,gw ?_⟩;refine⟨_,rfl,vix rfl (JF h1) at1 ⟨ll,_,rfl,DPut.t (k:=nk n) hll hnb (bc (by omega)),?_⟩⟩;refine q _ (λb o e _ n2=>by rw[ad n2];exact e) ⟨mvs,by rw[ad ne];exact hm,Rm.ts (lX hll)⟩ ⟨_,ac,iL Rl rfl⟩
 |part n a m pl =>obtain⟨nv',mv,pv,h1,h2,h3,h4⟩:=hs;obtain⟨nb,rfl,hnb⟩:=id h2;obtain⟨mb,rfl,hmb⟩:=id h3;obtain⟨it,hl⟩:=Zh.mp (itm n (by simp[Sd.items]));obtain⟨iv,f1,ia,uv0,pv0,rfl,f2,f3,f4⟩:=aC Rm hl;have tl:=ok.tx hl;refine⟨_,rfl,rfl,_,rfl,aF (show V.str "part"≠V.str "put" by decide) ?_⟩;refine⟨_,rfl,vix rfl (JF h1) at1 ⟨mm,.ref ia,rfl,f1▸DGet.t (k:=nk n) hm hnb,?_⟩⟩;refine⟨_,rfl,rfl,_,rfl,aF (show V.str "part"≠V.str "move" by decide) ?_⟩;refine⟨_,rfl,rfl,_,rfl,gw ?_⟩;refine⟨_,rfl,_,rfl,ia,_,rfl,f2,λt1 H5 s5 e5=>?_⟩;rw[Ai]at e5;refine(vix rfl (JF (s5 _ _ f2)) at2 (vix rfl (JF (s5 _ _ h1)) at2 ⟨_,rfl,it.tx,rfl,by omega,sz rfl,λt2 g2=>?_⟩));have w2:=af g2 (.tup [.str (bg it.tx none (some a))]);refine⟨t1,t2,_,_,rfl,rfl,w2 _ _ e5,ac,sz rfl,λt3 H6 s6 e6=>?_⟩;have s06:Same H H6:=s5.trans (w2.trans s6);refine⟨_,rfl,_,rfl,ia,_,rfl,s06 _ _ f2,λt4 H7 s7 e7=>?_⟩;rw[Aj]at e7;refine⟨t3,t4,_,_,rfl,rfl,s7 _ _ e6,e7,sz rfl,λt5 H8 s8 e8=>?_⟩;have s08:Same H H8:=s06.trans (s7.trans s8);refine⟨_,rfl,vix rfl (JF (s08 _ _ h1)) at1 ⟨mm,_,rfl,DPut.t (k:=nk n) (s08 _ _ hm) (s08 _ _ hnb) (bc (by omega)),?_⟩⟩;obtain⟨⟨mvs9,hm9,R9⟩,t9,b9⟩:=gC (n:=n) (it:={ it with tx:=bg it.tx none (some a) }) (t:=t5) (s08 _ _ hm) (Rm.ts (JE s08)) ⟨t5,uv0,pv0,rfl,e8,f3.ts (JE s08),f4.ts (JE s08)⟩;generalize upd H8 mm (.dT (ba mvs (nk n) (.ref t5)))=H9 at hm9 R9 t9 b9 ⊢;have T9:K27.TS H H9:=λc zs e=>t9 _ _ (s08 _ _ e);have l9:=bE R9;have ln:=dj (i:=({ it with tx:=bg it.tx none (some a) }:It)) hl;refine(vix rfl (JF (T9 _ _ f2)) at0 (vix rfl (JF (T9 _ _ h1)) at4 (vix rfl (JF (T9 _ _ f2)) at2 (vix rfl (JF (T9 _ _ h1)) at2 ⟨_,rfl,it.tx,rfl,by omega,sz rfl,λt6 g6=>?_⟩))));have w6:=af g6 (.tup [uv0,pv,.str (bg it.tx (some a) none),.bl false,.non,.bl false]);have TA:K27.TS H (upd H9 t6 (.tup [uv0,pv,.str (bg it.tx (some a) none),.bl false,.non,.bl false])):=λc zs e=>w6 _ _ (T9 _ _ e);refine⟨_,rfl,vix rfl (JF (TA _ _ h1)) at3 ⟨mm,_,rfl,DPut.t (k:=nk m) (w6 _ _ hm9) (TA _ _ hmb) (bc (by omega)),?_⟩⟩;obtain⟨aA,tA,bA⟩:=gC (n:=m) (it:=⟨it.up,pl,bg it.tx (some a) none,false,none,false⟩) (t:=t6) (w6 _ _ hm9) (R9.ts (JE w6)) ⟨t6,uv0,pv,rfl,ac,f3.ts TA,h4.ts TA⟩;refine q _ ((But2.of' s08).trans ((But2.of b9).trans ((But2.of' w6).trans (But2.of bA)))) ?_ ((((G.same s08).but2 b9 ne).same w6).but2 bA ne);show MineAt _ mm (kC ol n m a pl);unfold kC;rw[hl];exact aA
 |join n m =>
  obtain⟨nv',mv,h1,h2,h3⟩:=hs;obtain⟨nb,rfl,hnb⟩:=id h2;obtain⟨mb,rfl,hmb⟩:=id h3;obtain⟨it,hl⟩:=Zh.mp (itm n (by simp[Sd.items]));obtain⟨im,hlm⟩:=Zh.mp (itm m (by simp[Sd.items]));obtain⟨iv,f1,ia,uv0,pv0,rfl,f2,f3,f4⟩:=aC Rm hl;obtain⟨jv,j1,ja,uv1,pv1,rfl,j2,j3,j4⟩:=aC Rm hlm;have tl:=ok.tx hl;have tm:=ok.tx hlm;obtain⟨jj,un⟩:=uy bd;have nm:n≠m:=λz=>(qA un) (by rw[z])
  refine⟨_,rfl,rfl,_,rfl,aF (show V.str "join"≠V.str "put" by decide) ?_⟩;refine⟨_,rfl,vix rfl (JF h1) at1 ⟨mm,.ref ia,rfl,f1▸DGet.t (k:=nk n) hm hnb,?_⟩⟩;refine⟨_,rfl,rfl,_,rfl,aF (show V.str "join"≠V.str "move" by decide) ?_⟩;refine⟨_,rfl,rfl,_,rfl,aF (show V.str "join"≠V.str "part" by decide) ?_⟩;refine⟨_,rfl,rfl,_,rfl,gw ?_⟩;refine ax λR hR=>?_;refine⟨_,rfl,vix rfl (JF h1) at2 ⟨mm,.ref ja,rfl,j1▸DGet.t (k:=nk m) hm hmb,hR _ _ ?_⟩⟩;refine ax λR hR=>?_;refine⟨_,rfl,_,rfl,ia,_,rfl,f2,λt1 H5 s5 e5=>?_⟩;rw[Ai]at e5;refine(vix rfl (JF (s5 _ _ f2)) at2 (vix rfl (JF (s5 _ _ j2)) at2 ⟨_,_,rfl,rfl,xz (by omega),sz rfl,λt2 g2=>?_⟩));have w2:=af g2 (.tup [.str (it.tx++im.tx)]);refine⟨t1,t2,_,_,rfl,rfl,w2 _ _ e5,ac,sz rfl,λt3 H6 s6 e6=>?_⟩;have s06:Same H H6:=s5.trans (w2.trans s6);refine⟨_,rfl,_,rfl,ia,_,rfl,s06 _ _ f2,λt4 H7 s7 e7=>?_⟩;rw[Aj]at e7;refine⟨t3,t4,_,_,rfl,rfl,s7 _ _ e6,e7,sz rfl,λt5 H8 s8 e8=>?_⟩;have s08:Same H H8:=s06.trans (s7.trans s8);refine⟨_,rfl,vix rfl (JF (s08 _ _ h1)) at1 ⟨mm,_,rfl,DPut.t (k:=nk n) (s08 _ _ hm) (s08 _ _ hnb) (bc (by omega)),hR _ _ ?_⟩⟩;obtain⟨⟨mvs9,hm9,R9⟩,t9,b9⟩:=gC (n:=n) (it:={ it with tx:=it.tx++im.tx }) (t:=t5) (s08 _ _ hm) (Rm.ts (JE s08)) ⟨t5,uv0,pv0,rfl,e8,f3.ts (JE s08),f4.ts (JE s08)⟩;generalize upd H8 mm (.dT (ba mvs (nk n) (.ref t5)))=H9 at hm9 R9 t9 b9 ⊢;have T9:K27.TS H H9:=λc zs e=>t9 _ _ (s08 _ _ e);have B9:But2 mm ll H H9:=(But2.of' s08).trans (But2.of b9);have G9:=(G.same s08).but2 b9 ne;have l9:=bE R9;have ln:=dj (i:=({ it with tx:=it.tx++im.tx }:It)) hl;clear e5 e6 e7 e8 g2 w2 s5 s6 s7 s8 s06 s08 t9 b9;refine ax λR hR=>?_;refine⟨_,rfl,_,rfl,ja,_,rfl,T9 _ _ j2,λt1 H5 s5 e5=>?_⟩;rw[Ai]at e5;refine⟨sz rfl,λt2 g2=>?_⟩;have w2:=af g2 (.tup [.str ""]);refine⟨t1,t2,_,_,rfl,rfl,w2 _ _ e5,ac,sz rfl,λt3 H6 s6 e6=>?_⟩;have s06:Same H9 H6:=s5.trans (w2.trans s6);refine⟨_,rfl,_,rfl,ja,_,rfl,s06 _ _ (T9 _ _ j2),λt4 H7 s7 e7=>?_⟩;rw[Aj]at e7;refine⟨t3,t4,_,_,rfl,rfl,s7 _ _ e6,e7,sz rfl,λt5 H8' s8 e8=>?_⟩;have s98:Same H9 H8':=s06.trans (s7.trans s8);have T8:K27.TS H H8':=λc zs e=>s98 _ _ (T9 _ _ e);refine⟨_,rfl,vix rfl (JF (T8 _ _ h1)) at2 ⟨mm,_,rfl,DPut.t (k:=nk m) (s98 _ _ hm9) (T8 _ _ hmb) (bc (by omega)),hR _ _ ?_⟩⟩;obtain⟨⟨mvsA,hmA,RA⟩,tA,bA⟩:=gC (n:=m) (it:={ im with tx:="" }) (t:=t5) (s98 _ _ hm9) (R9.ts (JE s98)) ⟨t5,uv1,pv1,rfl,e8,j3.ts T8,j4.ts T8⟩;generalize upd H8' mm (.dT (ba mvs9 (nk m) (.ref t5)))=HA at hmA RA tA bA ⊢;have TA:K27.TS H HA:=λc zs e=>tA _ _ (T8 _ _ e);have BA:But2 mm ll H HA:=B9.trans ((But2.of' s98).trans (But2.of bA));have GA:=(G9.same s98).but2 bA ne;clear e5 e6 e7 e8 g2 w2 s5 s6 s7 s8 s06 s98 T8 tA bA B9 G9 T9 R9 hm9;have jo:gX ol n m=(ay (ay ol n { it with tx:=it.tx++im.tx }) m { im with tx:="" }).map λp=>(p.1,cw n m p.2):=by unfold gX;rw[hl,hlm]
  have ndo:((ay (ay ol n { it with tx:=it.tx++im.tx }) m { im with tx:="" }).map (·.1)).Nodup:=eC (eC ok.nd);have lno:(ay (ay ol n { it with tx:=it.tx++im.tx }) m { im with tx:="" }).length<=100:=by have:=iT (ay ol n { it with tx:=it.tx++im.tx }) m ({ im with tx:="" }:It);omega
  generalize ay (ay ol n { it with tx:=it.tx++im.tx }) m { im with tx:="" }=o2 at jo ndo RA lno;have lA:=bE RA;refine⟨_,rfl,mm,mvsA,rfl,hmA,λob=>?_⟩;have eF:upd HA mm (.frz ob (.dT mvsA)) mm=some (.frz ob (.dT mvsA)):=ac;have tF:K27.TS HA (upd HA mm (.frz ob (.dT mvsA))):=λc zs e=>by rw[ad (cV e hmA nofun)];exact e
  have uF:∀{c:Jy} {o:HO},HA c=some o->c≠mm->upd HA mm (.frz ob (.dT mvsA)) c=some o:=λe h=>by rw[ad h];exact e
  have bF:∀{c:Jy} {o:HO},upd HA mm (.frz ob (.dT mvsA)) c=some o->c≠mm->HA c=some o:=λe h=>by rw[ad h]at e;exact e
  have fF:∀{c:Jy},upd HA mm (.frz ob (.dT mvsA)) c=none->HA c=none/\c≠mm:=fun{c} e=>by
   have h:c≠mm:=λz=>by rw[z,ac]at e;cases e
   rw[ad h]at e;exact⟨e,h⟩
  generalize upd HA mm (.frz ob (.dT mvsA))=HF at eF tF uF bF fF ⊢;have RF:=RA.ts tF;obtain⟨b1,b2,b3⟩:=eS (u:=some m) (v:=.ref mb) (H:=HF) ⟨mb,rfl,tF _ _ (TA _ _ hmb)⟩;refine qK (a:=mm) (o:=ob) (kvs:=mvsA) (λi ys H'=>H'=HF/\ys.length<=i/\AbAt HF ((grp (o2.take i) (some m)).map (·.1)) ys) (by omega) (λ_ _ _ z=>z.2.1) ⟨rfl,Za _,.nil⟩ (λi ys H' z=>by rw[z.1];exact eF) ?_ ?_
  ·rintro i ys H' pr kb hpr hkb ⟨rfl,ly,pa⟩ Y kY;obtain⟨x,hx,ex1,ex2⟩:=eE RF hpr;have hlx:=aV ndo hx;obtain⟨xv,c1,ca,uc,pc,rfl,c2,c3,c4⟩:=aC RF hlx;have hkb':H' kb=some (.tup ((nk x.1).map kV)):=by rw[<-ex1];exact hkb
   obtain⟨a1,a2,a3⟩:=eS c3;refine⟨_,rfl,_,rfl,mm,.ref ca,rfl,c1▸sF (k:=nk x.1) (.inr ⟨ob,eF⟩) hkb',ca,_,_,_,rfl,rfl,JF c2,at0,?_⟩;refine⟨_,rfl,st,_,_,_,rfl,rfl,JF (tF _ _ (TA _ _ h1)),at2,eQ x.2.up,eQ (some m),a1,b1,bq a2 (by omega),bq b2 (by omega),_,rfl,?_⟩;rw[pK];have et:o2.take (i+1)=o2.take i++[x]:=by rw[Ym,hx];rfl
   refine cK (λcu=>?_) (λcu=>?_)
   ·refine⟨_,rfl,kY _ _ ⟨rfl,by rw[Zn];exact Nat.succ_le_succ ly,?_⟩⟩;rw[et,gv,Jg cu,ZN];exact cO pa (.cons ⟨kb,rfl,hkb'⟩ .nil)
   ·refine kY _ _ ⟨rfl,by omega,?_⟩;rw[et,gv,Jf cu];exact pa
  rintro ys lN H' ⟨rfl,ly,pa⟩ gN;rw[show mvsA.length=o2.length from lA,ZA (Za _)]at pa;obtain⟨gNA,nNm⟩:=fF gN;have wN:=af gN (.lst ys);refine⟨mm,ob,.dT mvsA,wN _ _ eF,.dt hm,?_⟩;have eT:upd (upd H' lN (.lst ys)) mm (.dT mvsA) mm=some (.dT mvsA):=ac;have eN:upd (upd H' lN (.lst ys)) mm (.dT mvsA) lN=some (.lst ys):=by rw[ad nNm];exact ac
  have uT:∀{c:Jy} {o:HO},HA c=some o->c≠mm->upd (upd H' lN (.lst ys)) mm (.dT mvsA) c=some o:=λe h=>by rw[ad h];exact wN _ _ (uF e h)
  have tT:K27.TS HA (upd (upd H' lN (.lst ys)) mm (.dT mvsA)):=λc zs e=>uT e (cV e hmA nofun);have tT':K27.TS H' (upd (upd H' lN (.lst ys)) mm (.dT mvsA)):=λc zs e=>by
   have h:c≠mm:=λz=>by rw[z,eF]at e;cases e
   exact uT (bF e h) h
  generalize upd (upd H' lN (.lst ys)) mm (.dT mvsA)=HT at eT eN uT tT tT' ⊢;have paT:=AbAt.ts pa tT';have RT:=RA.ts tT;have BT:But2 mm ll H HT:=λc o e n1 n2=>uT (BA c o e n1 n2) n1;have GT:GoneAt HT ll gs:=by obtain⟨g1,g2,g3⟩:=GA;exact⟨g1,uT g2 (Zs ne),g3⟩
  have hnT:=tT _ _ (TA _ _ hnb);have h1T:=tT _ _ (TA _ _ h1);have lys:=Zu paT;refine⟨lN,rfl,⟨ys,JG eN⟩,?_⟩;refine iY (xs:=ys) (λi σ H2=>(∀c o,HT c=some o->c≠mm->H2 c=some o)/\MineAt H2 mm (gM o2 (((grp o2 (some m)).map (·.1)).take i) n)/\∃o6,σ=[some (.ref st),some (.ref mm),some (.ref ll),some (.str "join"),some (.ref ia),some (.ref ja),o6,none]) ⟨(λc o e _=>e),⟨mvsA,eT,?_⟩,_,rfl⟩ (λi σ H2 _ z=>JG (z.1 _ _ eN nNm)) ?_ ?_
  ·rw[List.take_zero];have e0:gM o2 [] n=o2:=by unfold gM;exact(YH λp _=>Jf (ZT)).trans (List.map_id _)
   rw[e0];exact RT
  ·rintro i v σ H2 hv ⟨kp,⟨mv2,hm2,R2⟩,o6,rfl⟩ D' kD;obtain⟨x,hx,hnx⟩:=hV paT hv;have ts2:K27.TS HT H2:=λc zs e=>kp _ _ e (cV e eT nofun);have hmem:=ZH hx;obtain⟨xx,hxx,rfl⟩:=ZF.mp hmem;obtain⟨xj,hxj⟩:=Zt.mp (cU.mp hxx).1;have lx:=aV ndo hxj;obtain⟨xi,hxi⟩:∃xi,look (gM o2 (((grp o2 (some m)).map (·.1)).take i) n) xx.1=some xi:=by rw[fL,lx];exact⟨_,rfl⟩
   obtain⟨xv,c1,ca,uc,pc,rfl,c2,c3,c4⟩:=aC R2 hxi;obtain⟨xb,rfl,hxb⟩:=id (hnx.ts' ts2);have l2:=bE R2;have lu:(gM o2 (((grp o2 (some m)).map (·.1)).take i) n).length=o2.length:=Ze _;refine(vix rfl (JF (ts2 _ _ h1T)) at1 ⟨sz rfl,λt1 g1=>?_⟩);have w1:=af g1 (.tup [.ref nb]);refine⟨_,rfl,_,rfl,mm,.ref ca,rfl,c1▸DGet.t (k:=nk xx.1) (w1 _ _ hm2) (w1 _ _ hxb),_,rfl,ca,_,rfl,w1 _ _ c2,λt2 H3 s3 e3=>?_⟩;rw[Hz]at e3;refine⟨t1,t2,_,_,rfl,rfl,s3 _ _ ac,e3,sz rfl,λt3 H4 s4 e4=>?_⟩;have s24:Same H2 H4:=w1.trans (s3.trans s4);refine⟨_,rfl,_,rfl,mm,_,rfl,DPut.t (k:=nk xx.1) (s24 _ _ hm2) (s24 _ _ hxb) (bc (by omega)),kD _ _ ?_⟩;obtain⟨aM,tM,bM⟩:=gC (n:=xx.1) (it:={ xi with up:=some n }) (t:=t3) (s24 _ _ hm2) (R2.ts (JE s24)) ⟨t3,.ref nb,pc,rfl,e4,⟨nb,rfl,s24 _ _ (ts2 _ _ hnT)⟩,c4.ts (JE s24)⟩;refine⟨λc o e h=>bM _ _ (s24 _ _ (kp _ _ e h)) h,?_,_,rfl⟩;rw[zR ndo hxi]at aM;rw[Ym,hx];exact aM
  ·rintro σ H2 ⟨kp,aM,o6,rfl⟩;rw[ZA (by omega),zQ ndo,<-jo]at aM;refine q _ (λc o e n1 n2=>kp _ _ (BT c o e n1 n2) n1) aM ?_;obtain⟨g1,g2,g3⟩:=GT;exact⟨g1,kp _ _ g2 (Zs ne),g3⟩
 |write n tx =>obtain⟨nv',h1,h2⟩:=hs;obtain⟨nb,rfl,hnb⟩:=id h2;obtain⟨it,hl⟩:=Zh.mp (itm n (by simp[Sd.items]));obtain⟨iv,f1,ia,uv0,pv0,rfl,f2,f3,f4⟩:=aC Rm hl;refine⟨_,rfl,rfl,_,rfl,aF (show V.str "write"≠V.str "put" by decide) ?_⟩;refine⟨_,rfl,vix rfl (JF h1) at1 ⟨mm,.ref ia,rfl,f1▸DGet.t (k:=nk n) hm hnb,?_⟩⟩;refine⟨_,rfl,rfl,_,rfl,aF (show V.str "write"≠V.str "move" by decide) ?_⟩;refine⟨_,rfl,rfl,_,rfl,aF (show V.str "write"≠V.str "part" by decide) ?_⟩;refine⟨_,rfl,rfl,_,rfl,aF (show V.str "write"≠V.str "join" by decide) ?_⟩;refine⟨_,rfl,rfl,_,rfl,aF (show V.str "write"≠V.str "gone" by decide) ?_⟩;refine ax λR hR=>?_;refine⟨sz rfl,λlx glx=>⟨.inl ⟨rfl,_,JG ac⟩,_,rfl,lx,_,_,.str "write",WS.map PyData.str,0,by decide,rfl,rfl,ac,(show Dt _ (.str "write") (.str "write") by simp only[Dt]),jQ WS,by decide,by decide,by decide,by decide,λi hi=>absurd hi (Nat.not_lt_zero _),hR _ _ ?_⟩⟩;have wx:=af glx (.lst (WS.map V.str));have h1x:=wx _ _ h1;have f2x:=wx _ _ f2;have hmx:=wx _ _ hm;have hnx:=wx _ _ hnb;have gx:upd H lx (.lst (WS.map V.str))=upd H lx (.lst [.str "write",.str "mark",.str "due",.str "fold"]):=rfl;rw[gx]at wx h1x f2x hmx hnx;generalize upd H lx (.lst [.str "write",.str "mark",.str "due",.str "fold"])=Hx at wx h1x f2x hmx hnx ⊢;refine⟨_,rfl,_,rfl,_,_,rfl,rfl,_,rfl,ia,_,rfl,f2x,λt1 H5 s5 e5=>?_⟩;refine(vix rfl (JF (s5 _ _ h1x)) at2 ⟨sz rfl,λt2 g2=>?_⟩);have w2:=af g2 (.tup [.str tx]);refine⟨t1,t2,_,_,rfl,rfl,w2 _ _ e5,ac,sz rfl,λt3 H6 s6 e6=>?_⟩;have s06:Same Hx H6:=s5.trans (w2.trans s6);refine⟨_,rfl,_,rfl,_,_,rfl,rfl,_,rfl,ia,_,rfl,s06 _ _ f2x,λt4 H7 s7 e7=>?_⟩;refine⟨t3,t4,_,_,rfl,rfl,s7 _ _ e6,e7,sz rfl,λt5 H8 s8 e8=>?_⟩;have sx8:Same Hx H8:=s06.trans (s7.trans s8);have s08:Same H H8:=wx.trans sx8;refine⟨_,rfl,vix rfl (JF (s08 _ _ h1)) at1 ⟨mm,_,rfl,DPut.t (k:=nk n) (s08 _ _ hm) (s08 _ _ hnb) (bc (by omega)),?_⟩⟩;exact fin (ol':=ol) (it:={ it with tx:=tx }) nofun s08 ⟨t5,uv0,pv0,rfl,e8,f3.ts (JE s08),f4.ts (JE s08)⟩ (by show chO _ _ _=_;unfold chO;rw[hl])
 |mark n b =>obtain⟨nv',h1,h2⟩:=hs;obtain⟨nb,rfl,hnb⟩:=id h2;obtain⟨it,hl⟩:=Zh.mp (itm n (by simp[Sd.items]));obtain⟨iv,f1,ia,uv0,pv0,rfl,f2,f3,f4⟩:=aC Rm hl;refine⟨_,rfl,rfl,_,rfl,aF (show V.str "mark"≠V.str "put" by decide) ?_⟩;refine⟨_,rfl,vix rfl (JF h1) at1 ⟨mm,.ref ia,rfl,f1▸DGet.t (k:=nk n) hm hnb,?_⟩⟩;refine⟨_,rfl,rfl,_,rfl,aF (show V.str "mark"≠V.str "move" by decide) ?_⟩;refine⟨_,rfl,rfl,_,rfl,aF (show V.str "mark"≠V.str "part" by decide) ?_⟩;refine⟨_,rfl,rfl,_,rfl,aF (show V.str "mark"≠V.str "join" by decide) ?_⟩;refine⟨_,rfl,rfl,_,rfl,aF (show V.str "mark"≠V.str "gone" by decide) ?_⟩;refine ax λR hR=>?_;refine⟨sz rfl,λlx glx=>⟨.inl ⟨rfl,_,JG ac⟩,_,rfl,lx,_,_,.str "mark",WS.map PyData.str,1,by decide,rfl,rfl,ac,(show Dt _ (.str "mark") (.str "mark") by simp only[Dt]),jQ WS,by decide,by decide,by decide,by decide,(λi hi=>by obtain rfl:i=0:=(by omega);exact(show PyData.eqv (.str "write") (.str "mark")=false by decide)),hR _ _ ?_⟩⟩;have wx:=af glx (.lst (WS.map V.str));have h1x:=wx _ _ h1;have f2x:=wx _ _ f2;have hmx:=wx _ _ hm;have hnx:=wx _ _ hnb;have gx:upd H lx (.lst (WS.map V.str))=upd H lx (.lst [.str "write",.str "mark",.str "due",.str "fold"]):=rfl;rw[gx]at wx h1x f2x hmx hnx;generalize upd H lx (.lst [.str "write",.str "mark",.str "due",.str "fold"])=Hx at wx h1x f2x hmx hnx ⊢;refine⟨_,rfl,_,rfl,_,_,rfl,rfl,_,rfl,ia,_,rfl,f2x,λt1 H5 s5 e5=>?_⟩;refine(vix rfl (JF (s5 _ _ h1x)) at2 ⟨sz rfl,λt2 g2=>?_⟩);have w2:=af g2 (.tup [.bl b]);refine⟨t1,t2,_,_,rfl,rfl,w2 _ _ e5,ac,sz rfl,λt3 H6 s6 e6=>?_⟩;have s06:Same Hx H6:=s5.trans (w2.trans s6);refine⟨_,rfl,_,rfl,_,_,rfl,rfl,_,rfl,ia,_,rfl,s06 _ _ f2x,λt4 H7 s7 e7=>?_⟩;refine⟨t3,t4,_,_,rfl,rfl,s7 _ _ e6,e7,sz rfl,λt5 H8 s8 e8=>?_⟩;have sx8:Same Hx H8:=s06.trans (s7.trans s8);have s08:Same H H8:=wx.trans sx8;refine⟨_,rfl,vix rfl (JF (s08 _ _ h1)) at1 ⟨mm,_,rfl,DPut.t (k:=nk n) (s08 _ _ hm) (s08 _ _ hnb) (bc (by omega)),?_⟩⟩;exact fin (ol':=ol) (it:={ it with dn:=b }) nofun s08 ⟨t5,uv0,pv0,rfl,e8,f3.ts (JE s08),f4.ts (JE s08)⟩ (by show chO _ _ _=_;unfold chO;rw[hl])
 |due n b =>obtain⟨nv',h1,h2⟩:=hs;obtain⟨nb,rfl,hnb⟩:=id h2;obtain⟨it,hl⟩:=Zh.mp (itm n (by simp[Sd.items]));obtain⟨iv,f1,ia,uv0,pv0,rfl,f2,f3,f4⟩:=aC Rm hl;refine⟨_,rfl,rfl,_,rfl,aF (show V.str "due"≠V.str "put" by decide) ?_⟩;refine⟨_,rfl,vix rfl (JF h1) at1 ⟨mm,.ref ia,rfl,f1▸DGet.t (k:=nk n) hm hnb,?_⟩⟩;refine⟨_,rfl,rfl,_,rfl,aF (show V.str "due"≠V.str "move" by decide) ?_⟩;refine⟨_,rfl,rfl,_,rfl,aF (show V.str "due"≠V.str "part" by decide) ?_⟩;refine⟨_,rfl,rfl,_,rfl,aF (show V.str "due"≠V.str "join" by decide) ?_⟩;refine⟨_,rfl,rfl,_,rfl,aF (show V.str "due"≠V.str "gone" by decide) ?_⟩;refine ax λR hR=>?_;refine⟨sz rfl,λlx glx=>⟨.inl ⟨rfl,_,JG ac⟩,_,rfl,lx,_,_,.str "due",WS.map PyData.str,2,by decide,rfl,rfl,ac,(show Dt _ (.str "due") (.str "due") by simp only[Dt]),jQ WS,by decide,by decide,by decide,by decide,(λi hi=>by rcases(show i=0\/i=1 by omega)with rfl|rfl<;>first|exact(show PyData.eqv (.str "write") (.str "due")=false by decide)|exact(show PyData.eqv (.str "mark") (.str "due")=false by decide)),hR _ _ ?_⟩⟩;have wx:=af glx (.lst (WS.map V.str));have h1x:=wx _ _ h1;have f2x:=wx _ _ f2;have hmx:=wx _ _ hm;have hnx:=wx _ _ hnb;have gx:upd H lx (.lst (WS.map V.str))=upd H lx (.lst [.str "write",.str "mark",.str "due",.str "fold"]):=rfl;rw[gx]at wx h1x f2x hmx hnx;generalize upd H lx (.lst [.str "write",.str "mark",.str "due",.str "fold"])=Hx at wx h1x f2x hmx hnx ⊢;refine⟨_,rfl,_,rfl,_,_,rfl,rfl,_,rfl,ia,_,rfl,f2x,λt1 H5 s5 e5=>?_⟩;refine(vix rfl (JF (s5 _ _ h1x)) at2 ⟨sz rfl,λt2 g2=>?_⟩);have w2:=af g2 (.tup [whV b]);refine⟨t1,t2,_,_,rfl,rfl,w2 _ _ e5,ac,sz rfl,λt3 H6 s6 e6=>?_⟩;have s06:Same Hx H6:=s5.trans (w2.trans s6);refine⟨_,rfl,_,rfl,_,_,rfl,rfl,_,rfl,ia,_,rfl,s06 _ _ f2x,λt4 H7 s7 e7=>?_⟩;refine⟨t3,t4,_,_,rfl,rfl,s7 _ _ e6,e7,sz rfl,λt5 H8 s8 e8=>?_⟩;have sx8:Same Hx H8:=s06.trans (s7.trans s8);have s08:Same H H8:=wx.trans sx8;refine⟨_,rfl,vix rfl (JF (s08 _ _ h1)) at1 ⟨mm,_,rfl,DPut.t (k:=nk n) (s08 _ _ hm) (s08 _ _ hnb) (bc (by omega)),?_⟩⟩;exact fin (ol':=ol) (it:={ it with wh:=b }) nofun s08 ⟨t5,uv0,pv0,rfl,e8,f3.ts (JE s08),f4.ts (JE s08)⟩ (by show chO _ _ _=_;unfold chO;rw[hl])
 |fold n b =>obtain⟨nv',h1,h2⟩:=hs;obtain⟨nb,rfl,hnb⟩:=id h2;obtain⟨it,hl⟩:=Zh.mp (itm n (by simp[Sd.items]));obtain⟨iv,f1,ia,uv0,pv0,rfl,f2,f3,f4⟩:=aC Rm hl;refine⟨_,rfl,rfl,_,rfl,aF (show V.str "fold"≠V.str "put" by decide) ?_⟩;refine⟨_,rfl,vix rfl (JF h1) at1 ⟨mm,.ref ia,rfl,f1▸DGet.t (k:=nk n) hm hnb,?_⟩⟩;refine⟨_,rfl,rfl,_,rfl,aF (show V.str "fold"≠V.str "move" by decide) ?_⟩;refine⟨_,rfl,rfl,_,rfl,aF (show V.str "fold"≠V.str "part" by decide) ?_⟩;refine⟨_,rfl,rfl,_,rfl,aF (show V.str "fold"≠V.str "join" by decide) ?_⟩;refine⟨_,rfl,rfl,_,rfl,aF (show V.str "fold"≠V.str "gone" by decide) ?_⟩;refine ax λR hR=>?_;refine⟨sz rfl,λlx glx=>⟨.inl ⟨rfl,_,JG ac⟩,_,rfl,lx,_,_,.str "fold",WS.map PyData.str,3,by decide,rfl,rfl,ac,(show Dt _ (.str "fold") (.str "fold") by simp only[Dt]),jQ WS,by decide,by decide,by decide,by decide,(λi hi=>by rcases(show i=0\/i=1\/i=2 by omega)with rfl|rfl|rfl<;>first|exact(show PyData.eqv (.str "write") (.str "fold")=false by decide)|exact(show PyData.eqv (.str "mark") (.str "fold")=false by decide)|exact(show PyData.eqv (.str "due") (.str "fold")=false by decide)),hR _ _ ?_⟩⟩;have wx:=af glx (.lst (WS.map V.str));have h1x:=wx _ _ h1;have f2x:=wx _ _ f2;have hmx:=wx _ _ hm;have hnx:=wx _ _ hnb;have gx:upd H lx (.lst (WS.map V.str))=upd H lx (.lst [.str "write",.str "mark",.str "due",.str "fold"]):=rfl;rw[gx]at wx h1x f2x hmx hnx;generalize upd H lx (.lst [.str "write",.str "mark",.str "due",.str "fold"])=Hx at wx h1x f2x hmx hnx ⊢;refine⟨_,rfl,_,rfl,_,_,rfl,rfl,_,rfl,ia,_,rfl,f2x,λt1 H5 s5 e5=>?_⟩;refine(vix rfl (JF (s5 _ _ h1x)) at2 ⟨sz rfl,λt2 g2=>?_⟩);have w2:=af g2 (.tup [.bl b]);refine⟨t1,t2,_,_,rfl,rfl,w2 _ _ e5,ac,sz rfl,λt3 H6 s6 e6=>?_⟩;have s06:Same Hx H6:=s5.trans (w2.trans s6);refine⟨_,rfl,_,rfl,_,_,rfl,rfl,_,rfl,ia,_,rfl,s06 _ _ f2x,λt4 H7 s7 e7=>?_⟩;refine⟨t3,t4,_,_,rfl,rfl,s7 _ _ e6,e7,sz rfl,λt5 H8 s8 e8=>?_⟩;have sx8:Same Hx H8:=s06.trans (s7.trans s8);have s08:Same H H8:=wx.trans sx8;refine⟨_,rfl,vix rfl (JF (s08 _ _ h1)) at1 ⟨mm,_,rfl,DPut.t (k:=nk n) (s08 _ _ hm) (s08 _ _ hnb) (bc (by omega)),?_⟩⟩;exact fin (ol':=ol) (it:={ it with fo:=b }) nofun s08 ⟨t5,uv0,pv0,rfl,e8,f3.ts (JE s08),f4.ts (JE s08)⟩ (by show chO _ _ _=_;unfold chO;rw[hl])
theorem Gu{c A B:Prop}[Decidable c](h:c)(hA:A):if decide c=true then A else B:=by rw[decide_eq_true h];exact bn hA
inductive spGroups(P:Jt)(w:Jx)(vs:JK)(H:Hp)(Q:VK)(E_:XK):Prop
 |mk (a mn:Jy) (mvs:JJ) (ol:Ol) (out:List DI) (rs:JK) (h0:vs=[.ref a,.ref mn]) (h1:H a=some (.lst rs)) (h2:RwsAt H out rs) (h3:H mn=some (.dT mvs)) (h4:Rows H mvs ol) (h5:(ol.map (·.1)).Nodup) (h6:(∀x∈out,x.2∈ol)) (h7:(∀x∈ol,PyData.strOk x.2.tx=true)) (h8:out.length<=60) (h9:Wk [] out) (h10:∀(D:Jy) (H':Hp) (kls:List (OK1×Jy)),Same H H'->H D=none->kls.length<=60->LowAt P w H' D (out.map Prod.snd) kls->Q (.ref D) H'):spGroups P w vs H Q E_
abbrev nR:JA:=top 28
abbrev zU:Jr:=["_law_rows","_law_mine","_law_above","_law_groups_here","_law_row","_law_up"]
theorem eJ:FnScope zU ["_law_rows","_law_mine"] (aj nR):=⟨rfl,rfl,rfl,by decide,rfl,by decide,by decide⟩
theorem yS{f:Jy}{fd:Jp}(F:Fun K "_law_groups" "_law_groups" nR f fd)(a6:mg "isinstance" = none)(IJ:mg "tuple" = none)(g7:mg "bool" = none)(a8:mg "len" = none)(HZ:Fn P w K mg base 1 "_law_row_right" ["_law_row","_law_kept"] spRowRight):FnOk P w K mg base CX0 2 f fd ["_law_rows","_law_mine"] (spGroups P w):=by
 refine F.okQ eJ (λvs H Q E h=>?_) (λcdv A outer s H vs Q E hr h=>?_)
 ·obtain⟨a,mn,mvs,ol,out,rs,rfl,_⟩:=h;rfl
 obtain⟨a,mn,mvs,ol,out,rs,rfl,ha,rw',hm,R,nd,sub,fr,l3,wk,q⟩:=h;refine⟨_,(b_c (au (i:=2) eJ.nd (aW ah))
   (b_c (au (i:=3) eJ.nd BQ)
   (b_c (eV ZX rfl (fh (q_v 0)) (bv (i:=4) eJ.nd) (b_c (aI (t_w (fe (dI (bU (q_B gS a6 aK (q_a (q_v 4) (q_a (jt IJ vR) ah))))) (fe (aB EK (q_B fO a8 Z3 (q_a (q_v 4) ah)) ag) (eX (gK hr.units (am aq (q_v 4) ag) (q_v 1)))))) (b_1 (aD aY)) b_0)
   (b_c (aI (t_w (fe (bU (q_B gS a6 aK (q_a (am aq (q_v 4) ag) (q_a (jt g7 fK) ah)))) (fe (dI (DD EI EI ag (am aq (q_v 4) ag) (q_B fO a8 Z3 (q_a (q_v 2) ah)))) (eX (dI (bU (bJ HZ (hr.mono (by decide)) (q_a (q_v 4) (q_a (bp hr.units (q_v 1) (am aq (q_v 4) ag)) ah))))))))) (b_1 (aD aY)) b_0)
   (b_c (au (i:=2) eJ.nd (cC sR (q_v 2) cG (cj (am aq (q_v 4) ag))))
   (b_c (au (i:=5) eJ.nd aY)
   (b_c (hW (aI (aB (fw hr.units) (q_v 2) (aW ah)) (b_1 (au (i:=5) eJ.nd (am br (q_v 2) (Fy B5 ag)))) b_0))
   (b_c (aI (aB (fw hr.units) (am aq (bp hr.units (q_v 1) (am aq (q_v 4) ag)) ag) (q_v 5)) (b_1 (aD aY)) b_0)
   (b_c (bC (io (rc hr.units (q_v 3) (q_v 5) (aW ah)) (am aq (q_v 4) ag)))
   (b_1 (bC (io (q_v 2) (am aq (q_v 4) ag))))))))))))
   (b_1 (aD (q_v 3)))))),?_⟩
 try rw[cxK]
 rw[vW,vX];refine⟨sz rfl,λAb0 gAb=>?_⟩;have wA:=af gAb (.lst []);have eA:upd H Ab0 (.lst []) Ab0=some (.lst []):=ac;generalize upd H Ab0 (.lst [])=H1 at wA eA ⊢;intro D gD;have wD:=af gD (odO P w D []);have eD:upd H1 D (odO P w D []) D=some (odO P w D []):=ac;generalize upd H1 D (odO P w D [])=H2 at wD eD ⊢;have w02:=wA.trans wD;have gD0:H D=none:=by
  cases z:H D with
  |none=>rfl
  |some o=>rw[wA _ _ z]at gD;cases gD
 refine⟨_,rfl,a,rfl,⟨rs,JG (w02 _ _ ha)⟩,?_⟩;have nDa:∀{b:Jy} {o:HO},H b=some o->b≠D:=λe z=>by rw[z,gD0]at e;cases e
 refine iY (xs:=rs) (λi σ H'=>But D H2 H'/\∃(kls:List (OK1×Jy)) (Ab:Jy) (ab:List Nm) (avs:JK) (o4 o5:Option V),LowI P w H2 H' D ((out.take i).map Prod.snd) kls/\H' Ab=some (.lst avs)/\AbAt H' ab avs/\ab.length<=i/\Wk ab (out.drop i)/\σ=[some (.ref a),some (.ref mn),some (.ref Ab),some (.ref D),o4,o5]) ⟨λ_ _ z _=>z,[],Ab0,[],[],none,none,⟨⟨⟨eD,(λe he=>by cases he),.nil⟩,(λe he=>by cases he),(λm hm=>by simp at hm)⟩,(λe he=>by cases he),.nil,ZM _⟩,wD _ _ eA,.nil,ZM _,wk,rfl⟩ (λi σ H' _ hP=>JG (hP.1 _ _ (w02 _ _ ha) (nDa ha))) (λi v σ H' hv hP D' kD=>?_) (λσ H' hP=>?_)
 ·obtain⟨bt,kls,Ab,ab,avs,o4,o5,lo,eAb,aa,lab,wk',rfl⟩:=hP;have sH:Same H H':=λb o e=>bt _ _ (w02 _ _ e) (nDa e);obtain⟨x,hx,⟨ra,nv,rfl,er,hn⟩⟩:=zr rw' i v hv;have er:=sH _ _ er;have hn:=hn.ts' (JE sH);obtain⟨nb,rfl,hnb⟩:=id hn;obtain⟨d,m⟩:=x;have ed:out.drop i=(d,m)::out.drop (i+1):=by have:=ZB.mp hx;rw[List.drop_eq_getElem_cons this.1,this.2]
  rw[ed]at wk';cases wk' with
  |cons d0 dl du wk' =>
  have mo:m∈ol:=sub (d,m) (ZH hx);have skm:=fr m mo;obtain⟨jj,hj⟩:=Zt.mp mo;have R':=R.ts (JE sH);obtain⟨iv,e1,ia,uv,pv,rfl,e2,e3,e4⟩:=aC R' (aV nd hj);have hm':=sH _ _ hm;have lav:=Zu aa;refine⟨_,rfl,.ref ra,"tuple",.type "tuple",true,rfl,.tup er,(CG (.tup er)).trans (by rw[jF er (b:=true) rfl]),_,rfl,aw ?_⟩;refine⟨_,rfl,ra,_,rfl,.inr (JF er),rfl,_,rfl,km rfl ?_⟩;refine⟨_,rfl,ra,_,_,_,rfl,rfl,JF er,at1,_,rfl,mn,some (.ref ia),rfl,e1▸DGet.t (k:=nk m.1) hm' hnb,_,rfl,aw ?_⟩;refine(vix rfl (JF er) at0 ⟨.int d,"bool",.type "int",false,rfl,.int d,gz (H:=H') (.int d),_,rfl,aw ?_⟩);refine(vix rfl (JF er) at0 ⟨_,_,rfl,rfl,_,rfl,Gu d0 ?_⟩);refine⟨_,rfl,Ab,avs,rfl,.inl (JG eAb),_,_,rfl,rfl,_,rfl,?_⟩;rw[decide_eq_true (show d<=(avs.length:Int) by omega)];refine aw ?_;refine⟨_,rfl,_,rfl,vix rfl (JF er) at1 ⟨mn,.ref ia,rfl,e1▸DGet.t (k:=nk m.1) hm' hnb,?_⟩⟩;refine⟨ra,ia,.int d,.ref nb,uv,pv,m.2.tx,m.2.dn,m.2.fo,m.2.wh,rfl,er,e2,skm,λHr sr=>⟨_,rfl,aw ?_⟩⟩;have lo:=lo.same sr;have eAb:=sr _ _ eAb;have aa:=AbAt.ts aa (JE sr);have bt:But D H2 Hr:=λb o e hb=>sr _ _ (bt _ _ e hb);have er:=sr _ _ er;have hm':=sr _ _ hm';have hnb:=sr _ _ hnb;have e2:=sr _ _ e2;have e3:=e3.ts (JE sr);clear sH R' hn;generalize Hr=H' at lo eAb aa bt er hm' hnb e2 e3 ⊢;refine⟨_,rfl,vix rfl (JF er) at0 ⟨_,rfl,Ab,avs,rfl,JG eAb,λp gp=>?_⟩⟩;rw[D9 d0];have wp:=af gp (.lst (avs.take d.toNat));have ep:upd H' p (.lst (avs.take d.toNat)) p=some (.lst (avs.take d.toNat)):=ac;have np2:H2 p=none:=by
   cases z:H2 p with
   |none=>rfl
   |some o =>
    by_cases y:p=D
    ·rw[y,lo.lo.od.ob]at gp;cases gp
    ·rw[bt _ _ z y]at gp;cases gp
  have npk:∀e∈kls,e.2≠p:=λe he z=>by obtain⟨_,_,_,g2,_⟩:=lo.lo.gr e he;rw[z,gp]at g2;cases g2
  have npD:p≠D:=λz=>by rw[z,lo.lo.od.ob]at gp;cases gp
  have bt1:But D H2 (upd H' p (.lst (avs.take d.toNat))):=λb o e hb=>wp _ _ (bt _ _ e hb);have lo1:=lo.same wp;have aa1:=AbAt.ts (jh d.toNat aa) (JE wp);have er1:=wp _ _ er;have hm1:=wp _ _ hm';have hnb1:=wp _ _ hnb;have e21:=wp _ _ e2;have e31:=e3.ts (JE wp);generalize upd H' p (.lst (avs.take d.toNat))=H3 at ep bt1 lo1 aa1 er1 hm1 hnb1 e21 e31 ⊢;have lt:(ab.take d.toNat).length=d.toNat:=by rw[ZS];omega
  have lv:=Zu aa1;refine⟨λσ' H''=>Same H3 H''/\∃uv':V,UpAt H'' uv' m.2.up/\σ'=[some (.ref a),some (.ref mn),some (.ref p),some (.ref D),some (.ref ra),some uv'],?_,?_⟩
  ·refine⟨_,rfl,sz rfl,λe ge=>?_⟩;have we:=af ge (.lst []);obtain⟨y1,y2,_⟩:=bj (we _ _ ep) (AbAt.ts aa1 (JE we));obtain⟨y3,y4,_⟩:=bj (ns:=[]) (l:=e) ac .nil;refine⟨_,_,y1,y3,y2,y4,_,rfl,?_⟩;rw[gE];cases hc:decide (ab.take d.toNat=[])with
   |false =>
    have hd:d≠0:=λz=>by have:=Yy hc;rw[z]at this;exact this rfl
    rw[Jf hd]at du;have hlt:d.toNat-1<ab.length:=by omega
    rw[Zd hlt]at du;have eab:(ab.take d.toNat)[d.toNat-1]?=some ab[d.toNat-1]:=by rw[List.getElem?_take_of_lt (by omega),Zd hlt]
    obtain⟨y,hy,hny⟩:=eE aa1 eab;refine bn ⟨_,rfl,_,rfl,p,_,_,_,rfl,rfl,JG (we _ _ ep),(show atI (avs.take d.toNat) (-1)=some y from ?_),we,y,?_,rfl⟩
    ·refine Cg ?_;rw[List.getLast?_eq_getElem?,<-lv,lt];exact hy
    ·rw[du];exact hny.ts' (JE we)
   |true =>
    have hd:d=0:=by have:=ZU List.length (ZY hc);rw[lt]at this;have:d.toNat=0:=this;omega
    rw[Jg hd]at du;refine aw ⟨we,.non,?_,rfl⟩;rw[du];rfl
  rintro σ' H'' ⟨s3,uv',hu',rfl⟩;have ep:=s3 _ _ ep;have bt1:But D H2 H'':=λb o e hb=>s3 _ _ (bt1 _ _ e hb);have lo1:=lo1.same s3;have aa1:=AbAt.ts aa1 (JE s3);have er1:=s3 _ _ er1;have hm1:=s3 _ _ hm1;have hnb1:=s3 _ _ hnb1;have e21:=s3 _ _ e21;have e31:=e31.ts (JE s3);obtain⟨a1,a2,a3⟩:=eS e31;obtain⟨b1,b2,b3⟩:=eS hu';refine⟨_,rfl,vix rfl (JF er1) at1 ⟨mn,.ref ia,rfl,e1▸DGet.t (k:=nk m.1) hm1 hnb1,ia,_,_,_,rfl,rfl,JF e21,at0,_,rfl,eQ m.2.up,eQ m.2.up,a1,b1,bq a2 (by omega),bq b2 (by omega),_,rfl,?_⟩⟩;rw[pK,decide_eq_true rfl];refine aw ?_;obtain⟨ke,hk,hke⟩:=hu'.key;refine⟨_,rfl,D,rfl,⟨kls,lo1.lo.od.ob⟩,_,rfl,sz rfl,λl0 g0=>?_⟩;have hk0:lc (upd H'' l0 (.lst [])) uv' ke:=by
   cases ke with
   |none=>exact hk
   |some q=>exact⟨hk.1,af g0 (.lst []) _ _ hk.2⟩
  have w0:=af g0 (.lst []);have lo0:=lo1.same w0;have ltk:((out.take i).map Prod.snd).length<=60:=by rw[Ze];exact Zr (List.length_take_le' _ _) l3
  have et:(out.take (i+1)).map Prod.snd=(out.take i).map Prod.snd++[m]:=by rw[Ym,hx,ZN];rfl
  have nl0p:p≠l0:=λz=>by rw[z,g0]at ep;cases ep
  have ldab:(ab.take d.toNat++[m.1]).length<=i+1:=by rw[Zn,lt];show d.toNat+1<=i+1;omega
  have lav':(avs.take d.toNat).length<=60:=by rw[<-lv,lt];have:=ZB.mp hx;omega
  refine⟨kls,ke,l0,lo0.lo.od,hk0,rfl,(by have:=lo1.le;omega),λl hl'=>?_,λhl'=>?_⟩
  ·rw[hke]at hl';obtain⟨ks',f1,f2,f3,f4⟩:=lo0.old hl' ⟨nb,rfl,w0 _ _ hnb1⟩;obtain⟨e',he',_,hle⟩:=ky hl';have npl:p≠l:=λz=>npk e' he' (hle.trans z.symm);have e5p:upd (upd H'' l0 (.lst [])) l (.lst (ks'++[.ref nb])) p=some (.lst (avs.take d.toNat)):=by rw[ad npl];exact w0 _ _ ep
   have t5:TS H'' (upd (upd H'' l0 (.lst [])) l (.lst (ks'++[.ref nb]))):=λb zs e=>dC f1 _ _ (w0 _ _ e);have t6:=dC (ks':=avs.take d.toNat++[.ref nb]) e5p;refine⟨.inl ⟨rfl,_,JG f1⟩,vix rfl (JF (w0 _ _ er1)) at1 ⟨l,_,_,rfl,rfl,f1,bD (by omega),?_⟩⟩;refine⟨_,rfl,.inl ⟨rfl,_,JG e5p⟩,vix rfl (JF (t5 _ _ er1)) at1 ⟨p,_,_,rfl,rfl,e5p,bD (by omega),kD _ _ ⟨λb ob eb hb=>?_,kls,p,ab.take d.toNat++[m.1],_,_,_,by rw[et];exact f4.other e5p npk,ac,?_,ldab,wk',rfl⟩⟩⟩
   ·have hbl:b≠l:=λz=>by rw[z,f3]at eb;cases eb
    have hbp:b≠p:=λz=>by rw[z,np2]at eb;cases eb
    rw[ad hbp,ad hbl];exact w0 _ _ (bt1 _ _ eb hb)
   ·exact cO (AbAt.ts (AbAt.ts aa1 t5) t6) (.cons ⟨nb,rfl,t6 _ _ (t5 _ _ hnb1)⟩ .nil)
  ·rw[hke]at hl';obtain⟨n2,nD0,f4⟩:=lo1.new hl' ⟨nb,rfl,hnb1⟩ hk hke g0 bt1;have e5p:upd (upd (upd H'' l0 (.lst [])) D (odO P w D (kls++[(ke,l0)]))) l0 (.lst [.ref nb]) p=some (.lst (avs.take d.toNat)):=by rw[ad nl0p,ad npD,ad nl0p];exact ep
   have t5:TS H'' (upd (upd (upd H'' l0 (.lst [])) D (odO P w D (kls++[(ke,l0)]))) l0 (.lst [.ref nb])):=λb zs e=>by
    have h1:b≠l0:=λz=>by rw[z,g0]at e;cases e
    have h2:b≠D:=λz=>by rw[z,lo1.lo.od.ob]at e;unfold odO at e;cases e
    rw[ad h1,ad h2,ad h1];exact e
   have tD:K27.TS H'' (upd (upd H'' l0 (.lst [])) D (odO P w D (kls++[(ke,l0)]))):=λb zs e=>by
    have h1:b≠l0:=λz=>by rw[z,g0]at e;cases e
    have h2:b≠D:=λz=>by rw[z,lo1.lo.od.ob]at e;unfold odO at e;cases e
    rw[ad h2,ad h1];exact e
   have t6:=dC (ks':=avs.take d.toNat++[.ref nb]) e5p;have npk2:∀e∈kls++[(ke,l0)],e.2≠p:=λe he=>by
    rcases ZC.mp he with he|he
    ·exact npk e he
    ·rw[Zq]at he;subst he;exact Zs nl0p
   refine⟨.inl ⟨rfl,[],JG (by rw[ad nD0];exact ac)⟩,vix rfl (JF (tD _ _ er1)) at1 ⟨l0,[],_,rfl,rfl,by rw[ad nD0];exact ac,sz rfl,?_⟩⟩;refine⟨_,rfl,.inl ⟨rfl,_,JG e5p⟩,vix rfl (JF (t5 _ _ er1)) at1 ⟨p,_,_,rfl,rfl,e5p,bD (by omega),kD _ _ ⟨λb ob eb hb=>?_,kls++[(ke,l0)],p,ab.take d.toNat++[m.1],_,_,_,by rw[et];exact f4.other e5p npk2,ac,?_,ldab,wk',rfl⟩⟩⟩
   ·have hbl:b≠l0:=λz=>by rw[z,n2]at eb;cases eb
    have hbp:b≠p:=λz=>by rw[z,np2]at eb;cases eb
    rw[ad hbp,ad hbl,ad hb,ad hbl];exact bt1 _ _ eb hb
   ·exact cO (AbAt.ts (AbAt.ts aa1 t5) t6) (.cons ⟨nb,rfl,t6 _ _ (t5 _ _ hnb1)⟩ .nil)
 ·obtain⟨bt,kls,Ab,ab,avs,o4,o5,lo,eAb,aa,lab,wk',rfl⟩:=hP;have lrs:=Zu rw';rw[ZA (by omega)]at lo;have le:=lo.le;rw[Ze]at le;exact⟨_,rfl,q D H' kls (λb o e=>bt _ _ (w02 _ _ e) (nDa e)) gD0 (Zr le l3) lo.lo⟩
theorem LowAt.sameT{T:Jy}{H H':Hp}{D:Jy}{M:Ol}{kls:List (OK1×Jy)}{q:Str}{pos:Pos}(x:LowAt P w H D M kls)(s:SameT T H H')(tab:aH q T pos H):LowAt P w H' D M kls:=by
 have ts:=cX s tab;obtain⟨ps,t1,_⟩:=id tab;refine⟨wY x.od ?_ ts,λe he=>?_,x.al⟩
 ·rw[x.od.ob];refine s _ _ x.od.ob λz=>?_;have:=x.od.ob;rw[z,t1]at this;unfold odO at this;cases this
 ·obtain⟨u,ks,h1,h2,h3⟩:=x.gr e he;refine⟨u,ks,h1,s _ _ h2 λz=>?_,h3.ts ts⟩;rw[z,t1]at h2;cases h2
theorem OlAt.mv{C:Jy}{H H':Hp}{p d g:Jy}{ol:Ol}(O:OlAt C H p d g ol)(k:∀b o,H b=some o->(b=p\/b=d\/b=g)->H' b=some o)(ts:K27.TS H H'):OlAt C H' p d g ol:=by obtain⟨kvs,gvs,⟨⟨dx,h1⟩,h2,h3,h4⟩,R⟩:=O;exact⟨kvs,gvs,⟨⟨dx,k _ _ h1 (.inl rfl)⟩,k _ _ h2 (.inr (.inl rfl)),k _ _ h3 (.inr (.inr rfl)),h4⟩,R.ts ts⟩
theorem GoneAt.mv{H H':Hp}{g:Jy}{gs:As Unit}(G:GoneAt H g gs)(k:∀o,H g=some o->H' g=some o):GoneAt H' g gs:=by obtain⟨gvs,h1,h2⟩:=G;exact⟨gvs,k _ h1,h2⟩
def SameL(T l:Jy)(H H':Hp):Prop:=∀b o,H b=some o->b≠T->b≠l->H' b=some o
theorem SameL.tr{T l:Jy}{H H' H2:Hp}(x:SameL T l H H')(y:SameT T H' H2):SameL T l H H2:=λb o e n m=>y b o (x b o e n m) n
inductive spKept(C T:Jy)(vs:JK)(H:Hp)(Q:VK)(E_:XK):Prop
 |mk (p d g mm ll:Jy) (mvs:JJ) (ol:Ol) (gs:As Unit) (B k:Nat) (h0:vs=[.ref p,.ref mm,.ref ll]) (h1:OlAt C H p d g ol) (h2:GoneAt H g gs) (h3:H mm=some (.dT mvs)) (h4:Rows H mvs ol) (h5:GoneAt H ll gs) (h6:mm≠ll) (h7:mm≠d) (h8:mm≠g) (h9:ll≠d) (h10:ll≠g) (h11:Ok27 ol gs k) (h12:k<=60) (h13:gh ol B) (h14:aH bX T (cc bO) H) (h15:∀H',SameT T H H'->aH bX T (cc bO) H'->Q (.bl true) H'):spKept C T vs H Q E_
theorem uQ{ol:Ol}{f:Nm×It->Bool}{i:Nat}{x:Nm×It}(h:ol[i]?=some x):((ol.take (i+1)).filter f).map (·.1)=((ol.take i).filter f).map (·.1)++if f x=true then[x.1]else[]:=by
 rw[Ym,h,Yx];by_cases c:f x=true
 ·rw[Jg c,ZN];show _++(List.filter f [x]).map _=_;rw[Yd c];rfl
 ·rw[Jf c];show((ol.take i).filter f++List.filter f [x]).map _=_;rw[Yn c,List.filter_nil,ZR,ZR]
theorem DG{ol:Ol}{o:Nm}{j k:Nat}{u:Option Nm}{b c:Bool}(h:Und ol o j u b)(g:Und ol o k u c):b=c:=by
 induction h generalizing k c with
 |none=>cases g;rfl
 |self =>
  cases g with
  |self=>rfl
  |up hn _ _=>exact absurd rfl hn
 |up hn hl _ ih =>
  cases g with
  |self=>exact absurd rfl hn
  |up _ hl' g' =>rw[hl]at hl';cases hl';exact ih g'
theorem uY{β:Type}:∀{l:As β} {n:Nm} {x:β},look l n=some x->n∈l.map (·.1)
 |y::l,n,x,h=>by
  unfold look at h;by_cases c:y.1=n
  ·rw[<-c];exact Zl
  ·rw[Jf c]at h;exact Zf _ (uY h)
abbrev lQ:JA:=top 30
abbrev xH:Jr:=["_law_plain","_law_mine","_law_lost","_law_left","_law_name_here","_law_gone","_law_found","_law_rows","_law_groups_here","_law_up","_law_some"]
theorem cS:FnScope xH ["_law_plain","_law_mine","_law_lost"] (aj lQ):=⟨rfl,rfl,rfl,by decide,rfl,by decide,by decide⟩
theorem wZ{f C T:Jy}{fd:Jp}(F:Fun K "_law_as_kept" "_law_as_kept" lQ f fd)(g8:Fn P w K mg base 1 "_law_is_in" ["_law_one","_law_other","_law_mine"] spIsIn)(i9:MFn P w K mg base 1 C "is_gone" ["self","name"] (spGone C))(IO:MFn P w K mg base 1 C "item" ["self","name"] (spItem C))(k8:MFn P w K mg base 6 C "below" ["self","up"] (spBelow C T))(Ic:MFn P w K mg base 7 C "rows" ["self"] (spRows C T))(p6:MFn P w K mg base 1 C "names" ["self"] (spNames C))(Iv:Fn P w K mg base 2 "_law_groups" ["_law_rows","_law_mine"] (spGroups P w))(Id:Fn P w K mg base 1 "_law_in_order" ["_law_some","_law_mine"] spInOrder)(a6:mg "isinstance" = none)(g7:mg "bool" = none)(a9:mg "list" = none)(i7:mg "sorted" = none):FnOk P w K mg base CX0 8 f fd ["_law_plain","_law_mine","_law_lost"] (spKept C T):=by
 refine F.okQ cS (λvs H Q E h=>?_) (λcdv A outer s H vs Q E hr h=>?_)
 ·obtain⟨p,d,g,mm,ll,mvs,ol,gs,B,k,rfl,_⟩:=h;rfl
 obtain⟨p,d,g,mm,ll,mvs,ol,gs,B,k,rfl,O,G,hm,Rm,Gl,nml,nmd,nmg,nld,nlg,ok,k60,tb,tab,q⟩:=h;obtain⟨ps0,tT,_⟩:=id tab;refine⟨_,(b_c (au (i:=3) cS.nd (aW ah))
   (b_c (FJ (eV ZX rfl (wG (q_v 1)) (bv (i:=4) cS.nd) (b_c (au (i:=5) cS.nd (dw (fw hr.units) (zm (lL (own:=["_law_one"]) (⟨rfl,by decide,by decide,rfl,⟨rfl,rfl,⟨rfl,rfl,trivial⟩⟩⟩:CompOk _ _ [4,1] ["_law_name_here","_law_mine"]) rfl (wG (q_v 2)) (λ_ _ _ _=>bv (i:=0) (show (["_law_one","_law_name_here","_law_mine"]:Jr).Nodup by decide)) (gj (by decide)) (λ_ _ _ _=>(Ay (bU (bJ g8 (hr.mono (by decide)) (q_a (q_v 1) (q_a (q_v 0) (q_a (q_v 2) ah))))))) (λ_ _ _ _=>(q_v 0)))) (aW ah)))
   (b_c (au (i:=6) cS.nd (cg i9 (hr.mono (by decide)) (q_v 0) (q_a (q_v 4) ah)))
   (b_c (aI (t_w (fe (dI (bU (q_B gS a6 aK (q_a (q_v 6) (q_a (jt g7 fK) ah))))) (fe (aB EK (q_v 6) (q_v 5)) (eX (aB (fw hr.units) (cg IO (hr.mono (by decide)) (q_v 0) (q_a (q_v 4) ah)) (bp hr.units (q_v 1) (q_v 4))))))) (b_1 (aD ce)) b_0)
   (b_c (aI (t_w (dk (bU (q_v 5)) (cQ (aB (fw hr.units) (cg k8 (hr.mono (by decide)) (q_v 0) (q_a (q_v 4) ah)) (aW ah))))) (b_1 (aD ce)) b_0)
   (b_1 (hW (aI (dI (bU (q_v 5))) (b_1 (bC (io (q_v 3) (q_v 4)))) b_0)))))))))
   (b_c (au (i:=7) cS.nd (gH Ic (hr.mono (by decide)) (q_v 0)))
   (b_c (aI (t_w (fe (dI (bU (q_B gS a6 aK (q_a (q_v 7) (q_a (jt a9 ci) ah))))) (eX (aB (fw hr.units) (gH p6 (hr.mono (by decide)) (q_v 0)) (fE (iw rfl) a9 ci (q_a (q_v 1) ah)))))) (b_1 (aD ce)) b_0)
   (b_c (au (i:=8) cS.nd (bJ Iv (hr.mono (by decide)) (q_a (q_v 7) (q_a (q_v 1) ah))))
   (b_c (aI (t_w (fe (aB wS (q_v 8) aY) (eX (aB (fw hr.units) (q_B uA i7 PyProof.Rows.boot_sorted (q_a (lL (own:=["_law_row"]) (⟨rfl,by decide,by decide,rfl,trivial⟩:CompOk _ _ [] []) rfl (fh (q_v 7)) (λ_ _ _ _=>bv (i:=0) (show (["_law_row"]:Jr).Nodup by decide)) (gj (by decide)) (λ_ _ _ _=>wH) (λ_ _ _ _=>(am (lZ (K:=K) rfl) (q_v 0) ag))) ah)) (q_B uA i7 PyProof.Rows.boot_sorted (q_a (q_v 3) ah)))))) (b_1 (aD ce)) b_0)
   (b_c (eV ZX rfl (fh (ar rO (aW (q_a aY ah)) (q_v 3))) (bv (i:=9) cS.nd) (b_c (au (i:=10) cS.nd (sY hr.units (q_v 8) (q_v 9) (aW ah)))
   (b_1 (aI (t_w (fe (dI (bU (bJ Id (hr.mono (by decide)) (q_a (q_v 10) (q_a (q_v 1) ah))))) (eX (aB (fw hr.units) (cg k8 (hr.mono (by decide)) (q_v 0) (q_a (q_v 9) ah)) (q_v 10))))) (b_1 (aD ce)) b_0))))
   (b_1 (aD ce))))))))),?_⟩
 try rw[cxK]
 rw[vW,vX];have nd:=ok.nd;have te:=ok.te;have le:=ok.le;have lmv:=bE Rm;refine ax λR hR=>?_;refine⟨sz rfl,λlf glf=>hR _ _ ?_⟩;have wf:=af glf (.lst []);have ef:upd H lf (.lst []) lf=some (.lst []):=ac;generalize upd H lf (.lst [])=H1 at wf ef ⊢;have hm1:=wf _ _ hm;have Rm1:=Rm.ts (JE wf);have O1:=O.same wf;have G1:=G.same wf;have Gl1:=Gl.same wf;have tab1:=aR tab wf;refine ax λR hR=>?_;refine⟨_,rfl,mm,mvs,rfl,hm1,λob=>?_⟩;have eF:upd H1 mm (.frz ob (.dT mvs)) mm=some (.frz ob (.dT mvs)):=ac;have uF:∀{c:Jy} {o:HO},H1 c=some o->c≠mm->upd H1 mm (.frz ob (.dT mvs)) c=some o:=λe h=>by rw[ad h];exact e
 have bF:∀{c:Jy} {o:HO},upd H1 mm (.frz ob (.dT mvs)) c=some o->c≠mm->H1 c=some o:=λe h=>by rw[ad h]at e;exact e
 have tF:K27.TS H1 (upd H1 mm (.frz ob (.dT mvs))):=λc zs e=>uF e (cV e hm1 nofun);have tabF:aH bX T (cc bO) (upd H1 mm (.frz ob (.dT mvs))):=by obtain⟨ps,y1,y2,y3⟩:=tab1;exact⟨ps,uF y1 (cV y1 hm1 nofun),y2,y3.imp id fun⟨c,z1,z2⟩=>⟨c,z1,uF z2 (cV z2 hm1 (by intro z;unfold fD at z;cases z))⟩⟩
 have pm:∀{o:HO},H1 p=some o->p≠mm:=λ_ z=>by obtain⟨_,_,⟨⟨dx,h1⟩,_⟩,_⟩:=O1;rw[z,hm1]at h1;cases h1
 have OF:OlAt C (upd H1 mm (.frz ob (.dT mvs))) p d g ol:=O1.mv (λb o e h=>uF e (by
  rcases h with rfl|rfl|rfl
  ·exact pm e
  ·exact Zs nmd
  ·exact Zs nmg)) tF
 have GF:GoneAt (upd H1 mm (.frz ob (.dT mvs))) g gs:=G1.mv λo e=>uF e (Zs nmg);have GlF:GoneAt (upd H1 mm (.frz ob (.dT mvs))) ll gs:=Gl1.mv λo e=>uF e (Zs nml);have nfm:lf≠mm:=λz=>by rw[z,hm]at glf;cases glf
 have efF:=uF ef nfm;generalize upd H1 mm (.frz ob (.dT mvs))=HF at eF uF bF tF tabF OF GF GlF efF ⊢;have RF:=Rm1.ts tF;have nTm:mm≠T:=λz=>by rw[z,tT]at hm;cases hm
 have nTf:lf≠T:=λz=>by rw[z,tT]at glf;cases glf
 have nfx:∀{b:Jy} {o:HO},H b=some o->b≠lf:=λe=>ai e glf;have keep:∀{H':Hp},SameL T lf HF H'->(H' mm=some (.frz ob (.dT mvs))/\Rows H' mvs ol/\OlAt C H' p d g ol/\GoneAt H' g gs/\GoneAt H' ll gs/\K27.TS HF H'):=fun{H'} sl=>by
  have ts:K27.TS HF H':=λc zs e=>sl _ _ e (λz=>by obtain⟨ps,y1,_⟩:=tabF;rw[z,y1]at e;cases e) (λz=>by rw[z,efF]at e;cases e);have nlst:∀{c:Jy} {o:HO},HF c=some o->(∀xs,o≠.lst xs)->(∀ps,o≠.tbl ps)->H' c=some o:=λe h1 h2=>sl _ _ e (λz=>by obtain⟨ps,y1,_⟩:=tabF;rw[z,y1]at e;exact h2 _ (Zb e).symm) (λz=>by rw[z,efF]at e;exact h1 _ (Zb e).symm);refine⟨nlst eF nofun nofun,RF.ts ts,?_,?_,?_,ts⟩
  ·obtain⟨kvs,gvs,⟨⟨dx,h1⟩,h2,h3,h4⟩,R⟩:=OF;exact⟨kvs,gvs,⟨⟨dx,nlst h1 nofun nofun⟩,nlst h2 nofun nofun,nlst h3 nofun nofun,h4⟩,R.ts ts⟩
  ·obtain⟨gvs,h1,h2⟩:=GF;exact⟨gvs,nlst h1 nofun nofun,h2⟩
  ·obtain⟨gvs,h1,h2⟩:=GlF;exact⟨gvs,nlst h1 nofun nofun,h2⟩
 refine Au (a:=mm) (o:=ob) (kvs:=mvs) (j:=4) (λi σ H'=>SameL T lf HF H'/\aH bX T (cc bO) H'/\∃(lvs:JK) (o4 o5 o6:Option V),H' lf=some (.lst lvs)/\AbAt H' (((ol.take i).filter (ngB ol gs)).map (·.1)) lvs/\σ=[some (.ref p),some (.ref mm),some (.ref ll),some (.ref lf),o4,o5,o6,none,none,none,none]) ⟨(λ_ _ e _ _=>e),tabF,[],none,none,none,efF,.nil,rfl⟩ (λi σ H' _ z=>(keep z.1).1) ?_ ?_
 ·rintro i pr kb σ H' hpr hkb ⟨sl,tab',lvs,o4,o5,o6,el,ab,rfl⟩ D' kD _;obtain⟨eM,R',O',G',Gl',tsF⟩:=keep sl;obtain⟨x,hx,ex1,ex2⟩:=eE R' hpr;have hlx:=aV nd hx;have hkb':H' kb=some (.tup ((nk x.1).map kV)):=by rw[<-ex1];exact hkb
  have nx:NameIs H' (.ref kb) (nk x.1):=⟨kb,rfl,hkb'⟩
  obtain⟨kk,ch⟩:=te _ _ hlx;obtain⟨jg,b,gn⟩:=ch.gn gs;obtain⟨gvl,hll,Rl⟩:=id Gl';have lgl:=bE Rl;have gll:=ok.gl;have llf:lvs.length<=60:=by have h1:=Zu ab;rw[Ze]at h1;have h2:=ZJ (ngB ol gs) (ol.take i);rw[ZS]at h2;omega
  refine ax λR hR=>?_;refine⟨_,rfl,ll,gvl,rfl,hll,λob2=>?_⟩;have e2:upd H' ll (.frz ob2 (.dT gvl)) ll=some (.frz ob2 (.dT gvl)):=ac;have u2:∀{c:Jy} {o:HO},H' c=some o->c≠ll->upd H' ll (.frz ob2 (.dT gvl)) c=some o:=λe h=>by rw[ad h];exact e
  have b2:∀{c:Jy} {o:HO},upd H' ll (.frz ob2 (.dT gvl)) c=some o->c≠ll->H' c=some o:=λe h=>by rw[ad h]at e;exact e
  have f2:∀{c:Jy},upd H' ll (.frz ob2 (.dT gvl)) c=none->c≠ll:=fun{c} e z=>by rw[z,ac]at e;cases e
  have t2:K27.TS H' (upd H' ll (.frz ob2 (.dT gvl))):=λc zs e=>u2 e (cV e hll nofun);generalize upd H' ll (.frz ob2 (.dT gvl))=HG at e2 u2 b2 f2 t2 ⊢;have nx2:=nx.ts' t2;have R2:=R'.ts t2;refine qK (a:=ll) (o:=ob2) (kvs:=gvl) (λj ys H2=>H2=HG/\ys.length<=j/\∃ns:List Nm,AbAt HG ns ys/\(ns≠[]↔∃o,o∈(gs.take j).map (·.1)/\∃t,Und ol o t (some x.1) true)) (by omega) (λ_ _ _ z=>z.2.1) ⟨rfl,Za _,[],.nil,⟨λz=>absurd rfl z,fun⟨o,h,_⟩=>nomatch h⟩⟩ (λj ys H2 z=>by rw[z.1];exact e2) ?_ ?_
  ·rintro j ys H2 pr2 kb2 hpr2 hkb2 ⟨rfl,ly,ns,pa,iff⟩ Y kY;obtain⟨y,hy,ey1,_⟩:=eE Rl hpr2;have hkb2':H2 kb2=some (.tup ((nk y.1).map kV)):=by rw[<-ey1];exact hkb2
   obtain⟨ju,bu,un⟩:=ch.und y.1;refine⟨_,rfl,_,rfl,_,rfl,mm,mvs,ol,.ref kb,.ref kb2,some x.1,y.1,ju,bu,rfl,.inr ⟨ob,u2 eM nml⟩,R2,nx2,⟨kb2,rfl,hkb2'⟩,un,_,rfl,?_⟩;have et:(gs.take (j+1)).map (·.1)=(gs.take j).map (·.1)++[y.1]:=by rw[Ym,hy,ZN];rfl
   cases bu with
   |true =>refine bn ⟨_,rfl,kY _ _ ⟨rfl,by rw[Zn];exact Nat.succ_le_succ ly,ns++[y.1],cO pa (.cons ⟨kb2,rfl,hkb2'⟩ .nil),⟨λ_=>⟨y.1,by rw[et];simp,ju,un⟩,λ_=>by simp⟩⟩⟩
   |false =>
    refine aw (kY _ _ ⟨rfl,by omega,ns,pa,?_⟩);rw[iff,et];constructor
    ·rintro⟨o,h1,h2⟩;exact⟨o,ZC.mpr (.inl h1),h2⟩
    ·rintro⟨o,h1,t,h2⟩;rcases ZC.mp h1 with h1|h1
     ·exact⟨o,h1,t,h2⟩
     ·rw[Zq]at h1;subst h1;exact absurd (DG un h2) (by decide)
  rintro ys lN H2 ⟨rfl,ly,ns,pa,iff⟩ gN;have nNl:=f2 gN;have wN:=af gN (.lst ys);have Gg:∃gv0,H ll=some (.dT gv0):=by obtain⟨gv0,h0,_⟩:=Gl;exact⟨gv0,h0⟩
  obtain⟨gv0,hl0⟩:=Gg;refine⟨ll,ob2,.dT gvl,wN _ _ e2,.dt hl0,?_⟩;have s3:Same H' (upd (upd H2 lN (.lst ys)) ll (.dT gvl)):=λc o e=>by
   by_cases z:c=ll
   ·rw[z,ac,<-hll,<-z];exact e
   ·rw[ad z];exact wN _ _ (u2 e z)
  have eN:upd (upd H2 lN (.lst ys)) ll (.dT gvl) lN=some (.lst ys):=by rw[ad nNl];exact ac
  have paT:AbAt (upd (upd H2 lN (.lst ys)) ll (.dT gvl)) ns ys:=AbAt.ts pa λc zs e=>s3 _ _ (b2 e (λz=>by rw[z,e2]at e;cases e));generalize upd (upd H2 lN (.lst ys)) ll (.dT gvl)=H3 at s3 eN paT ⊢;refine⟨sz rfl,λee ge=>?_⟩;have we:=af ge (.lst []);obtain⟨d1,sh1,_⟩:=bj (we _ _ eN) (AbAt.ts paT (JE we));obtain⟨d2,sh2,_⟩:=bj (ns:=[]) (l:=ee) ac .nil;refine⟨_,_,d1,d2,sh1,sh2,?_⟩;rw[gE];have hb:(!decide (ns=[]))=b:=by
   have h1:=Cz gn;have h2:ns≠[]↔b=true:=by
    rw[iff,h1];constructor
    ·rintro⟨o,h3,h4⟩;rw[ZA (by omega)]at h3;obtain⟨y,hy,rfl⟩:=ZF.mp h3;refine⟨y.1,?_,h4⟩;rw[<-eU Rl];refine pD ?_;rw[nQ Rl];exact Yq (Yq hy)
    ·rintro⟨o,h3,h4⟩;refine⟨o,?_,h4⟩;rw[ZA (by omega)];obtain⟨u,hu⟩:=Zh.mp h3;exact uY hu
   by_cases c:ns=[]
   ·rw[decide_eq_true c];cases b with
    |false=>rfl
    |true=>exact absurd c (h2.mpr rfl)
   ·rw[decide_eq_false c,h2.mp c];rfl
  rw[hb];refine hR _ _ ?_;have s4:=s3.trans we;clear hb iff pa paT eN d1 d2 sh1 sh2 gN wN;generalize upd H3 ee (.lst [])=H4 at s4 ⊢;have O4:=O'.same s4;have G4:=G'.same s4;have R4:=R'.ts (JE s4);have nx4:=nx.ts' (JE s4);have hkb4:=s4 _ _ hkb';obtain⟨kvs4,gvs4,S4,Rp4⟩:=id O4;obtain⟨⟨dx4,h4⟩,_⟩:=id S4;refine ax λR hR=>?_;refine⟨_,rfl,p,dx4,_,rfl,h4,bV _ _,_,rfl,p,d,g,ol,gs,.ref kb,x.1,jg,b,rfl,O4,G4,nx4,gn,hR _ _ ?_⟩;obtain⟨iv4,i1,i2⟩:=aC Rp4 hlx;obtain⟨iw4,i3,i4⟩:=aC R4 hlx;have skx:=ok.sk _ _ hlx;obtain⟨dd1,ss1,qq1⟩:=BL i2 skx;obtain⟨dd2,ss2,_⟩:=BL i4 skx;refine⟨_,rfl,.bl b,"bool",.type "bool",true,rfl,.bl b,gz (H:=H4) (.bl b),_,rfl,aw ?_⟩;refine⟨_,rfl,_,rfl,rfl,_,rfl,km rfl ?_⟩;refine⟨_,rfl,p,dx4,_,rfl,h4,bV _ _,_,rfl,p,d,g,kvs4,gvs4,.ref kb,iv4,nk x.1,rfl,S4,nx4,i1,?_⟩;refine⟨_,rfl,_,rfl,mm,iw4,rfl,i3▸sF (k:=nk x.1) (.inr ⟨ob,s4 _ _ eM⟩) hkb4,itD x.2,itD x.2,dd1,dd2,ss1,ss2,_,rfl,?_⟩;rw[qq1];refine aw ?_;have tab4:=aR tab' s4;have sl4:SameL T lf HF H4:=λc o e n1 n2=>s4 _ _ (sl c o e n1 n2);have el4:=s4 _ _ el;have ab4:=AbAt.ts ab (JE s4);cases b with
  |true =>
   refine⟨_,rfl,_,rfl,bn ?_⟩;refine⟨_,rfl,p,dx4,_,rfl,h4,bV _ _,_,rfl,p,d,g,ol,gs,.ref kb,some x.1,rfl,O4,G4,nx4,by omega,nd,tab4,te,λD5 H5 M5 ks5 pe5 so5 s5 tab5 gD5 eD5 kb5=>?_⟩;have emp:grp (M5.filter (ngB ol gs)) (some x.1)=[]:=by unfold grp;rw[YL];intro y hy z;obtain⟨hy1,hy2⟩:=ZQ.mp hy;obtain⟨jy,hjy⟩:=Zt.mp (pe5.mem_iff.mp hy1);have r:=kh (gs:=gs) te (aV nd hjy);rw[ZY z,gn.is,Bool.or_true]at r;unfold ngB at hy2;rw[r]at hy2;cases hy2
   rw[emp]at kb5;have ts5:=cX s5 tab4;refine⟨sz rfl,λe6 ge6=>?_⟩;have we6:=af ge6 (.lst []);obtain⟨y1,y2,y3⟩:=bj (we6 _ _ eD5) (AbAt.ts (gY kb5) (JE we6));obtain⟨y4,y5,_⟩:=bj (ns:=[]) (l:=e6) ac .nil;refine⟨_,_,y1,y4,y2,y5,_,rfl,?_⟩;rw[gE];refine aw ?_;refine⟨λσ' H7=>SameT T H4 H7/\aH bX T (cc bO) H7/\σ'=[some (.ref p),some (.ref mm),some (.ref ll),some (.ref lf),some (.ref kb),some (.bl true),some (.bl true),none,none,none,none],?_,?_⟩
   ·exact⟨_,rfl,_,rfl,aw ⟨s5.trans (.of we6),aR tab5 we6,rfl⟩⟩
   rintro σ' H7 ⟨s7,tab7,rfl⟩;refine kD _ _ ⟨sl4.tr s7,tab7,lvs,_,_,_,s7 _ _ el4 nTf,?_,rfl⟩;rw[uQ hx,Jf (by unfold ngB;rw[gn.is];decide),ZR];exact AbAt.ts ab4 (cX s7 tab4)
  |false =>
   refine⟨_,rfl,_,rfl,aw (aw ?_)⟩;refine⟨λσ' H7=>H7=upd H4 lf (.lst (lvs++[.ref kb]))/\σ'=[some (.ref p),some (.ref mm),some (.ref ll),some (.ref lf),some (.ref kb),some (.bl false),some (.bl false),none,none,none,none],?_,?_⟩
   ·exact⟨_,rfl,_,rfl,bn ⟨_,rfl,.inl ⟨rfl,_,JG el4⟩,_,rfl,lf,lvs,_,rfl,rfl,el4,bD (by omega),rfl,rfl⟩⟩
   rintro σ' H7 ⟨rfl,rfl⟩;have t7:=dC (ks':=lvs++[.ref kb]) el4;refine kD _ _ ⟨λc o e n1 n2=>by rw[ad n2];exact sl4 c o e n1 n2,?_,lvs++[.ref kb],_,_,_,ac,?_,rfl⟩
   ·obtain⟨ps,y1,y2,y3⟩:=tab4;exact⟨ps,by rw[ad (cV y1 el4 nofun)];exact y1,y2,y3.imp id fun⟨c,z1,z2⟩=>⟨c,z1,by rw[ad (cV z2 el4 (by intro z;unfold fD at z;cases z))];exact z2⟩⟩
   ·rw[uQ hx,Jg (by unfold ngB;rw[gn.is];rfl)];exact cO (AbAt.ts ab4 t7) (.cons (nx4.ts' t7) .nil)
 rintro σ H2 ⟨sl,tab2,lvs,o4,o5,o6,el,ab,rfl⟩;obtain⟨eM,R2,O2,G2,Gl2,tsF⟩:=keep sl;rw[ZA (by omega)]at ab;have ab:AbAt H2 ((kp ol gs).map (·.1)) lvs:=ab;refine⟨mm,ob,.dT mvs,eM,.dt hm,hR _ _ ?_⟩;have u3:∀{c:Jy} {o:HO},H2 c=some o->c≠mm->upd H2 mm (.dT mvs) c=some o:=λe h=>by rw[ad h];exact e
 have t3:K27.TS H2 (upd H2 mm (.dT mvs)):=λc zs e=>u3 e (cV e eM nofun);have hm3:upd H2 mm (.dT mvs) mm=some (.dT mvs):=ac;have R3:=R2.ts t3;have pm2:∀{o:HO},H2 p=some o->p≠mm:=λ_ z=>by obtain⟨_,_,⟨⟨dx,h1⟩,_⟩,_⟩:=O2;rw[z,eM]at h1;cases h1
 have O3:OlAt C (upd H2 mm (.dT mvs)) p d g ol:=O2.mv (λb o e h=>u3 e (by
  rcases h with rfl|rfl|rfl
  ·exact pm2 e
  ·exact Zs nmd
  ·exact Zs nmg)) t3
 have G3:GoneAt (upd H2 mm (.dT mvs)) g gs:=G2.mv λo e=>u3 e (Zs nmg);have el3:=u3 el nfm;have ab3:=AbAt.ts ab t3;have tab3:aH bX T (cc bO) (upd H2 mm (.dT mvs)):=by obtain⟨ps,y1,y2,y3⟩:=tab2;exact⟨ps,u3 y1 (cV y1 eM nofun),y2,y3.imp id fun⟨c,z1,z2⟩=>⟨c,z1,u3 z2 (cV z2 eM (by intro z;unfold fD at z;cases z))⟩⟩
 have s03:SameT T H (upd H2 mm (.dT mvs)):=λc o e n1=>by
  by_cases z:c=mm
  ·rw[z,ac,<-hm,<-z];exact e
  ·exact u3 (sl _ _ (uF (wf _ _ e) z) n1 (nfx e)) z
 generalize upd H2 mm (.dT mvs)=H3 at hm3 R3 O3 G3 el3 ab3 tab3 s03 ⊢;clear u3 t3 eM R2 O2 G2 Gl2 tsF ab el tab2 sl keep uF bF tF tabF OF GF GlF efF RF eF pm pm2 hm1 Rm1 O1 G1 Gl1 tab1;obtain⟨kvs3,gvs3,S3,Rp3⟩:=id O3;obtain⟨⟨dx3,h3⟩,_⟩:=id S3;refine ax λR hR=>?_;refine⟨_,rfl,p,dx3,_,rfl,h3,bV _ _,p,d,g,ol,gs,rfl,O3,G3,by omega,nd,tab3,(λM pe=>by obtain⟨out,k,a,b,_⟩:=tS (gs:=gs) nd te tb (by omega) M pe;exact⟨out,k,a,b⟩),λRr H4 M out k' rs pe so df s4 tab4 gR eR ra=>hR _ _ ?_⟩;have oo:=yW nd te tb (by omega) pe so df;have nT:∀{b:Jy} {o:HO},H3 b=some o->(∀ps,o≠.tbl ps)->H4 b=some o:=λe ne=>s4 _ _ e λz=>by obtain⟨ps,t1,_⟩:=tab3;rw[z,t1]at e;exact ne ps (Zb e).symm
 have ts4:=cX s4 tab3;have hm4:=nT hm3 nofun;have R4:=R3.ts ts4;have O4:=O3.sameT s4 tab3;have G4:=G3.sameT s4 tab3;have el4:=nT el3 nofun;have ab4:=AbAt.ts ab3 ts4;have s04:SameT T H H4:=s03.trans s4;obtain⟨kvs4,gvs4,S4,Rp4⟩:=id O4;obtain⟨⟨dx4,h4⟩,_⟩:=id S4;have lrs:=Zu ra;have lk:(kp ol gs).length<=60:=Zr (ZJ _ _) (by omega);have ndk:=rN (gs:=gs) nd;obtain⟨Mk,kk,pek,sok,dfk⟩:=id oo;have tbk:gh (kp ol gs) B:=wJ nd te tb;have on:∀n it,look Mk n=some it->K27.cnt n out=1:=λn it hl=>by obtain⟨j,_,ch⟩:=tbk (n,it) (pek.mem_iff.mp (iB hl));exact sC ((pek.map _).nodup_iff.mpr ndk) dfk (lH pek ndk) ch n rfl
 have pn:(out.map λx=>x.2.1).Perm ((kp ol gs).map (·.1)):=(qM ((pek.map _).nodup_iff.mpr ndk) dfk on).trans (pek.map _);have lout:out.length<=60:=by have:=pn.length_eq;rw[Ze,Ze]at this;omega
 have gg:∀ u,grp (out.map Prod.snd) u=grp Mk u:=Cs dfk on (λx hx q hq=>by
  rw[<-lH pek ndk];exact Gy nd te ok.up x (pek.mem_iff.mp hx) q hq)
 have subk:∀x∈out,x.2∈ol:=λx hx=>(lF (tV pek dfk x hx)).1;refine⟨_,rfl,.ref Rr,"list",.type "list",true,rfl,.lst eR,iH (b:=true) (by decide) nofun,_,rfl,aw ?_⟩;refine⟨_,rfl,p,dx4,_,rfl,h4,bV _ _,p,d,g,kvs4,gvs4,rfl,S4,λl5 ks5 g5 kat5=>?_⟩;have w5:=af g5 (.lst ks5);refine⟨_,rfl,mm,mvs,rfl,Rd.of (w5 _ _ hm4),λl6 ks6 g6 kat6=>?_⟩;have w6:=af g6 (.lst ks6);obtain⟨y1,y2,y3⟩:=bj (w6 _ _ (ac (H:=H4) (a:=l5) (o:=.lst ks5))) (gY (((ko kat5 Rp4).ts (JE w5)).ts (JE w6)));obtain⟨y4,y5,_⟩:=bj (l:=l6) ac (gY ((ko kat6 (R4.ts (JE w5))).ts (JE w6)));refine⟨cM _,cM _,y1,y4,y2,y5,_,rfl,?_⟩;rw[y3];refine aw ?_;have s46:=w5.trans w6;clear y1 y2 y3 y4 y5;generalize upd (upd H4 l5 (.lst ks5)) l6 (.lst ks6)=H6 at s46 ⊢
 try dsimp only[pH]
 refine ax λR hR=>?_;refine⟨_,rfl,_,rfl,Rr,mm,mvs,ol,out,rs,rfl,s46 _ _ eR,ra.ts (JE s46),s46 _ _ hm4,R4.ts (JE s46),nd,subk,(λx hx=>by obtain⟨i,hi⟩:=Zt.mp hx;exact ok.sk _ _ (aV nd hi)),by omega,Eb dfk (Lv.top Mk),λD H7 kls s7 gD lkl low=>hR _ _ ?_⟩;have s47:=s46.trans s7;refine⟨_,rfl,rfl,_,rfl,Gv nofun ?_⟩;refine⟨_,rfl,Rr,rfl,⟨rs,JG (s47 _ _ eR)⟩,?_⟩;refine nh (N:=rs.length) (λi ys H'=>Same H7 H'/\ys.length=i/\AbAt H' ((out.take i).map λx=>x.2.1) ys) (by omega) (λ_ _ _ x=>x.2.1) ⟨Same.refl _,rfl,.nil⟩ (λi ys H' hi hP=>⟨rs,rs[i],JG (hP.1 _ _ (s47 _ _ eR)),by simp[hi]⟩) (λys H' hP=>⟨rs,JG (hP.1 _ _ (s47 _ _ eR)),Za _⟩) ?_ ?_
 ·rintro i ys H' x H'' hi ⟨sm,ly,pa⟩ ⟨rfl,y⟩ A' kA;have hx:rs[i]?=some x:=y rs (JG (sm _ _ (s47 _ _ eR)));obtain⟨m,hm',⟨ta,nv,rfl,er,hn⟩⟩:=zr ra i x hx;refine⟨_,rfl,ta,_,_,_,rfl,rfl,JF (sm _ _ (s47 _ _ er)),at1,kA _ _ ⟨sm,by rw[Zn,ly];rfl,?_⟩⟩;rw[Ym,hm',ZN];exact cO pa (.cons ((hn.ts' (JE s47)).ts' (JE sm)) .nil)
 rintro ys L1 H8 ⟨s78,ly,pa⟩ gL1;have w9:=af gL1 (.lst ys);have e9:upd H8 L1 (.lst ys) L1=some (.lst ys):=ac;have pa9:=AbAt.ts pa (JE w9);have s49:=s47.trans (s78.trans w9);have s79:=s78.trans w9;generalize upd H8 L1 (.lst ys)=H9 at e9 pa9 s49 s79 ⊢;rw[ZA (by omega)]at pa9;have el9:=s49 _ _ el4;have ab9:=AbAt.ts ab4 (JE s49);have lnk:((kp ol gs).map (·.1)).length<=60:=by rw[Ze];exact lk
 have lno:(out.map λx=>x.2.1).length<=60:=by rw[Ze];exact lout
 obtain⟨as1,rfl,la1,ha1⟩:=uu pa9;have hne:∀(l:List Nm),∀k∈l.map nI,k≠[]:=λl k hk=>by obtain⟨n,_,rfl⟩:=ZF.mp hk;exact List.cons_ne_nil _ _
 refine⟨L1,as1,(out.map λx=>x.2.1).map nI,rfl,e9,by omega,by rw[Ze,la1],hne _,ha1,λpm1 D1 hpm1 hs1 gD1=>?_⟩;rw[la1]at hpm1 hs1;obtain⟨so1,pe1⟩:=BW (z:=((0,0):Nm)) hpm1 hs1;have ab1:=ur pa9 _ (λi hi=>by
  have:=(hpm1.mem_iff).mp (YB.mp hi);simpa using this:∀ i∈pm1.toList,i<(out.map λx=>x.2.1).length)
 generalize hn1:(pm1.toList.map λi=>(out.map λx=>x.2.1).getD i ((0,0):Nm))=ns1 at so1 pe1 ab1;generalize(pm1.toList.map λi=>(as1.map V.ref).getD i .non)=ws1 at ab1 ⊢;have wA:=af gD1 (.lst ws1);have abA:=AbAt.ts ab9 (JE wA);have elA:=wA _ _ el9;obtain⟨as2,hvs,la2,ha2⟩:=uu abA;rw[hvs]at abA elA;refine⟨_,rfl,lf,as2,((kp ol gs).map (·.1)).map nI,rfl,elA,by omega,by rw[Ze,la2],hne _,ha2,λpm2 D2 hpm2 hs2 gD2=>?_⟩;rw[la2]at hpm2 hs2;obtain⟨so2,pe2⟩:=BW (z:=((0,0):Nm)) hpm2 hs2;have ab2:=ur abA _ (λi hi=>by
  have:=(hpm2.mem_iff).mp (YB.mp hi);simpa using this:∀ i∈pm2.toList,i<((kp ol gs).map (·.1)).length)
 generalize hn2:(pm2.toList.map λi=>((kp ol gs).map (·.1)).getD i ((0,0):Nm))=ns2 at so2 pe2 ab2;generalize(pm2.toList.map λi=>(as2.map V.ref).getD i .non)=ws2 at ab2 ⊢;have wB:=af gD2 (.lst ws2);have eq12:ns1=ns2:=CJ ((pe1.trans pn).trans pe2.symm) so1 so2;subst eq12;obtain⟨y1,y2,y3⟩:=bj (wB _ _ (ac (H:=H9) (a:=D1) (o:=.lst ws1))) (AbAt.ts (AbAt.ts ab1 (JE wA)) (JE wB));obtain⟨y4,y5,_⟩:=bj (l:=D2) ac (AbAt.ts ab2 (JE wB));refine⟨cM ns1,cM ns1,y1,y4,y2,y5,_,rfl,?_⟩;rw[y3];refine aw ?_;have sB:=wA.trans wB;have s7B:=s79.trans sB;have s4B:=s49.trans sB;have elB:=sB _ _ el9;have abB:=AbAt.ts ab9 (JE sB);clear y1 y2 y3 y4 y5;generalize upd (upd H9 D1 (.lst ws1)) D2 (.lst ws2)=HB at sB s7B s4B elB abB ⊢
 try dsimp only[pH]
 refine ax λR hR=>?_;refine⟨sz rfl,λLn gLn=>?_⟩;have wC:=af gLn (.lst [.non]);have lll:=Zu abB;refine⟨_,rfl,Ln,lf,_,_,rfl,rfl,ac,wC _ _ elB,bD (by show 1+lvs.length<=1000;omega),λLc gLc=>?_⟩;have wD:=af gLc (.lst ([.non]++lvs));have eLc:upd (upd HB Ln (.lst [.non])) Lc (.lst ([.non]++lvs)) Lc=some (.lst ([.non]++lvs)):=ac;have sBD:=wC.trans wD;have ups:∀z∈[V.non]++lvs,∃u,UpAt (upd (upd HB Ln (.lst [.non])) Lc (.lst ([.non]++lvs))) z u:=λz hz=>by
  rcases ZC.mp hz with hz|hz
  ·rw[Zq]at hz;exact⟨none,hz⟩
  ·obtain⟨i,hi⟩:=Zt.mp hz;obtain⟨m,_,hn⟩:=hV abB hi;exact⟨some m,hn.ts' (JE sBD)⟩
 generalize upd (upd HB Ln (.lst [.non])) Lc (.lst ([.non]++lvs))=HD at eLc sBD ups ⊢;generalize[V.non]++lvs=zs at eLc ups ⊢;have s4D:=s4B.trans sBD;have s7D:=s7B.trans sBD;have tabD:=aR tab4 s4D;have OD:=O4.same s4D;have GD:=G4.same s4D;have hmD:=s4D _ _ hm4;have RD:=R4.ts (JE s4D);have lowD:=low.same s7D;have nTD:∀{H':Hp} {b:Jy} {o:HO},SameT T HD H'->HD b=some o->(∀ps,o≠.tbl ps)->H' b=some o:=λsT e ne=>sT _ _ e λz=>by obtain⟨ps,t1,_⟩:=id tabD;rw[z,t1]at e;exact ne ps (Zb e).symm
 refine⟨Lc,rfl,⟨zs,JG eLc⟩,?_⟩;refine iY (xs:=zs) (λi σ H'=>SameT T HD H'/\aH bX T (cc bO) H'/\∃o9 o10:Option V,σ=[some (.ref p),some (.ref mm),some (.ref ll),some (.ref lf),o4,o5,o6,some (.ref Rr),some (.ref D),o9,o10]) ⟨.of (Same.refl _),tabD,none,none,rfl⟩ (λi σ H' _ hP=>JG (nTD hP.1 eLc nofun)) (λi z σ H' hz hP D' kD=>?_) (λσ H' hP=>?_)
 ·obtain⟨sT,tab',o9,o10,rfl⟩:=hP;obtain⟨u,hu⟩:=ups z (ZH hz);have ts:=cX sT tabD;have hu':=hu.ts ts;obtain⟨ke,hk,hke⟩:=hu'.key;have low':=lowD.sameT sT tabD;refine⟨_,rfl,D,rfl,⟨kls,low'.od.ob⟩,_,rfl,sz rfl,λl0 g0=>?_⟩;have w0:=af g0 (.lst []);have e0:upd H' l0 (.lst []) l0=some (.lst []):=ac;have hk0:lc (upd H' l0 (.lst [])) z ke:=by
   cases ke with
   |none=>exact hk
   |some q=>exact⟨hk.1,w0 _ _ hk.2⟩
  generalize upd H' l0 (.lst [])=Hc at w0 e0 hk0 ⊢;have lowc:=low'.same w0;refine⟨kls,ke,lowc.od,hk0,by omega,?_⟩;rw[hke];refine nz (u:=u) lowc e0 λl ks el hks=>?_;rw[gg]at hks;have sc:SameT T HD Hc:=sT.trans (.of w0);have tabc:=aR tab' w0;have Oc:=OD.sameT sc tabD;have Gc:=GD.sameT sc tabD;have lMk:Mk.length<=60:=by rw[pek.length_eq];exact lk
  have lg:(grp Mk u).length<=60:=Zr (ZJ _ _) (by omega);refine⟨_,rfl,_,rfl,l,mm,mvs,ol,grp Mk u,ks,rfl,el,nTD sc hmD nofun,RD.ts (cX sc tabD),nd,hks,(λx hx=>(lF (pek.mem_iff.mp (cU.mp hx).1)).1),lg,Ee ndk pek sok u,λHd sd=>⟨_,rfl,aw ?_⟩⟩;have Od:=Oc.same sd;have Gd':=Gc.same sd;obtain⟨kvsd,gvsd,Sd',Rd'⟩:=id Od;obtain⟨⟨dxd,hd1⟩,_,_,_⟩:=id Sd';have hud:=(hu'.ts (JE w0)).ts (JE sd);have tabd:=aR tabc sd;refine⟨_,rfl,p,dxd,_,rfl,hd1,bV _ _,_,rfl,p,d,g,ol,gs,z,u,rfl,Od,Gd',hud,by omega,nd,tabd,te,λD3 He M' ks' pe' so' se tabe gD3 eD3 ka'=>?_⟩;have eMk:M'.filter (ngB ol gs)=Mk:=kK ndk (pe'.filter _) pek (List.Pairwise.filter _ so') sok;rw[eMk]at ka';have ele:He l=some (.lst ks):=se _ _ (sd _ _ el) λzz=>by obtain⟨ps,t1,_⟩:=id tabd;rw[<-zz,sd _ _ el]at t1;cases t1
  obtain⟨d1',sh1',eqv1'⟩:=bj eD3 (gY ka');obtain⟨d2',sh2',_⟩:=bj ele (gY ((hks.ts (JE sd)).ts (cX se tabd)));refine⟨_,rfl,cM _,cM _,d1',d2',sh1',sh2',_,rfl,?_⟩;rw[eqv1'];exact aw (kD _ _ ⟨sc.trans ((SameT.of sd).trans se),tabe,_,_,rfl⟩)
 ·obtain⟨sT,tab',o9,o10,rfl⟩:=hP;exact hR _ _ (q _ (s04.trans ((SameT.of s4D).trans sT)) tab')
def DV(H:Hp)(v:V):Prop:=∃D,Dt H D v/\D.canLay0=true/\D.depth<=1
def DVs(H:Hp)(n:Nat)(vs:JK):Prop:=∃ds,DtAll H ds vs/\PyData.canLayAll0 ds=true/\PyData.depthAll ds<=n
theorem fg{H:Hp}{n:Nat}:DVs H n []:=⟨[],by simp[DtAll],rfl,by simp[PyData.depthAll]⟩
theorem aL{H:Hp}{v:V}{vs:JK}(h:DV H v)(t:DVs H 2 vs):DVs H 2 (v::vs):=by obtain⟨D,h1,h2,h3⟩:=h;obtain⟨ds,t1,t2,t3⟩:=t;refine⟨D::ds,?_,by simp[PyData.canLayAll0,h2,t2],by simp only[PyData.depthAll];omega⟩;simp only[DtAll];exact⟨_,_,rfl,h1,t1⟩
theorem dZ{H:Hp}{s:Str}(h:PyData.strOk s=true):DV H (.str s):=⟨.str s,by simp only[Dt],by simp only[PyData.canLay0];exact h,by simp[PyData.depth]⟩
theorem BE{H:Hp}{b:Bool}:DV H (.bl b):=⟨.bool b,by simp only[Dt],rfl,by simp[PyData.depth]⟩
theorem yd{H:Hp}{i:Int}:DV H (.int i):=⟨.int i,by simp only[Dt],rfl,by simp[PyData.depth]⟩
theorem rL{H:Hp}{v:V}{u:Option Nm}(h:UpAt H v u):DV H v:=⟨eQ u,eS h⟩
theorem fQ{H:Hp}{v:V}{n:Nm}(h:NameIs H v (nk n)):DV H v:=rL (u:=some n) h
theorem Go{H:Hp}(o:Option Int):DV H (whV o):=by
 cases o with
 |none=>exact rL (u:=none) rfl
 |some i=>exact yd
theorem uL{H:Hp}:∀ns:Jq,DtAll H (ns.map PyData.int) (ns.map V.int)/\PyData.canLayAll0 (ns.map PyData.int)=true/\PyData.depthAll (ns.map PyData.int)<=1
 | []=>⟨by simp[DtAll],rfl,by simp[PyData.depthAll]⟩
 |n::ns=>by obtain⟨h1,h2,h3⟩:=uL (H:=H) ns;rw[Zk,Zk];refine⟨?_,by simp[PyData.canLayAll0,PyData.canLay0,h2],by simp only[PyData.depthAll,PyData.depth];omega⟩;simp only[DtAll];exact⟨_,_,rfl,by simp only[Dt],h1⟩
theorem BC:∀ns:Jq,PyData.depthAll (ns.map PyData.int)=0
 | []=>by simp[PyData.depthAll]
 |n::ns=>by rw[Zk];simp[PyData.depthAll,PyData.depth,BC ns]
theorem vY{H:Hp}{v:V}{ns:Jq}(h:PlAt H v ns):DV H v:=by obtain⟨b,rfl,e⟩:=h;obtain⟨h1,h2,_⟩:=uL (H:=H) ns;have h3:=BC ns;refine⟨.tuple (ns.map PyData.int),?_,by simpa[PyData.canLay0]using h2,by simp only[PyData.depth];omega⟩;simp only[Dt];exact⟨b,_,rfl,.inl e,h1⟩
theorem fR{H:Hp}{st:Jy}{vs:JK}(e:H st=some (.tup vs))(h:DVs H 2 vs):∃D,Dt H D (.ref st)/\D.canLay0=true/\D.depth<=3:=by obtain⟨ds,h1,h2,h3⟩:=h;refine⟨.tuple ds,?_,by simpa[PyData.canLay0]using h2,by simp only[PyData.depth];omega⟩;simp only[Dt];exact⟨st,_,rfl,.inl e,h1⟩
theorem G5{H:Hp}{st:Jy}{s:Sd}(x:StAt H st s)(sb:StB s):∃D,Dt H D (.ref st)/\D.canLay0=true/\D.depth<=3:=by
 cases s with
 |put n u pl tx =>obtain⟨nv,uv,pv,e,h1,h2,h3⟩:=x;exact fR e (aL (dZ (by decide)) (aL (fQ h1) (aL (rL h2) (aL (vY h3) (aL (dZ sb.1) fg)))))
 |move n u pl =>obtain⟨nv,uv,pv,e,h1,h2,h3⟩:=x;exact fR e (aL (dZ (by decide)) (aL (fQ h1) (aL (rL h2) (aL (vY h3) fg))))
 |write n tx =>obtain⟨nv,e,h1⟩:=x;exact fR e (aL (dZ (by decide)) (aL (fQ h1) (aL (dZ sb.1) fg)))
 |mark n b =>obtain⟨nv,e,h1⟩:=x;exact fR e (aL (dZ (by decide)) (aL (fQ h1) (aL BE fg)))
 |due n w =>obtain⟨nv,e,h1⟩:=x;exact fR e (aL (dZ (by decide)) (aL (fQ h1) (aL (Go w) fg)))
 |fold n b =>obtain⟨nv,e,h1⟩:=x;exact fR e (aL (dZ (by decide)) (aL (fQ h1) (aL BE fg)))
 |part n a m pl =>obtain⟨nv,mv,pv,e,h1,h2,h3⟩:=x;exact fR e (aL (dZ (by decide)) (aL (fQ h1) (aL yd (aL (fQ h2) (aL (vY h3) fg)))))
 |gone n =>obtain⟨nv,e,h1⟩:=x;exact fR e (aL (dZ (by decide)) (aL (fQ h1) fg))
 |join n m =>obtain⟨nv,mv,e,h1,h2⟩:=x;exact fR e (aL (dZ (by decide)) (aL (fQ h1) (aL (fQ h2) fg)))
theorem zC{H:Hp}{sts:List Jy}{ss:List Sd}(x:StsAt H sts ss)(sb:∀s∈ss,StB s):DVs H 3 (sts.map V.ref):=by
 induction x with
 |nil=>exact fg
 |cons h t ih =>obtain⟨D,h1,h2,h3⟩:=G5 h (sb _ Zl);obtain⟨ds,t1,t2,t3⟩:=ih λs hs=>sb s (Zf _ hs);refine⟨D::ds,?_,by simp[PyData.canLayAll0,h2,t2],by simp only[PyData.depthAll];omega⟩;rw[Zk];simp only[DtAll];exact⟨_,_,rfl,h1,t1⟩
theorem Good.sb{ss:List Sd}(g:Good ss):∀s∈ss,StB s:=λs hs=>by obtain⟨i,hi⟩:=Zt.mp hs;exact(g i s hi).2
theorem Ey{H:Hp}{vs:JK}(x:DVs H 3 vs):∃D,SeqAt.shaped D=true/\PyData.eqv D D=true/\∀l,H l=some (.lst vs)->Dt H D (.ref l):=by
 obtain⟨ds,h1,h2,h3⟩:=x;have hc:(PyData.list ds).canLay0=true:=by simpa[PyData.canLay0]using h2
 refine⟨.list ds,bq hc (by simp only[PyData.depth];omega),SeqAt.eqv_refl _ hc,λl e=>?_⟩;simp only[Dt];exact⟨l,_,rfl,.inl e,h1⟩
theorem Ez{H:Hp}{vs:JK}(x:DVs H 3 vs)(hn:vs≠[]):∃D,SeqAt.shaped D=true/\PyData.eqv D (cM [])=false/\∀l,H l=some (.lst vs)->Dt H D (.ref l):=by
 obtain⟨ds,h1,h2,h3⟩:=x;have hc:(PyData.list ds).canLay0=true:=by simpa[PyData.canLay0]using h2
 refine⟨.list ds,bq hc (by simp only[PyData.depth];omega),?_,λl e=>?_⟩
 ·cases ds with
  |nil =>simp only[DtAll]at h1;exact absurd h1 hn
  |cons=>rfl
 ·simp only[Dt];exact⟨l,_,rfl,.inl e,h1⟩
theorem Good.take{ss:List Sd}(g:Good ss)(j:Nat):Good (ss.take j):=λi s h=>by have hi:=(ZB.mp h).1;rw[ZS]at hi;rw[List.getElem?_take_of_lt (by omega)]at h;rw[List.take_take,Nat.min_eq_left (by omega)];exact g i s h
theorem Am{xs:JK}{j:Nat}(h:j<=xs.length):cE xs (some (j:Int)) none=xs.drop j:=by unfold cE;rw[HT.sIx_nat,HT.sIx_none,Nat.min_eq_left h];exact ZA (by rw[YI];omega)
theorem EX{o:Out}(h:o≠.ok):PyData.eqv (dD o) (dD .ok)=false:=by
 cases o with
 |none n=>rfl
 |taken=>decide +kernel
 |beneath=>decide +kernel
 |far=>decide +kernel
 |ok=>exact absurd rfl h
def Kp(X:List Jy)(H H':Hp):Prop:=(∀b o,H b=some o->b∉X->H' b=some o)/\K27.TS H H'
theorem Kp.refl{X:List Jy}{H:Hp}:Kp X H H:=⟨λ_ _ e _=>e,λ_ _ e=>e⟩
theorem Kp.trans{X:List Jy}{H H' H2:Hp}(x:Kp X H H')(y:Kp X H' H2):Kp X H H2:=⟨λb o e n=>y.1 b o (x.1 b o e n) n,λa zs e=>y.2 a zs (x.2 a zs e)⟩
theorem Kp.of{X:List Jy}{H H':Hp}(s:Same H H'):Kp X H H':=⟨λb o e _=>s b o e,JE s⟩
theorem Kp.ofT{X:List Jy}{T:Jy}{H H':Hp}{q:Str}{pos:Pos}(s:SameT T H H')(tab:aH q T pos H)(h:T∈X):Kp X H H':=⟨λb o e n=>s b o e λz=>n (z▸h),cX s tab⟩
theorem Kp.of2{X:List Jy}{d g:Jy}{H H':Hp}{x y:HO}(s:But2 d g H H')(hd:H d=some x)(hg:H g=some y)(nx:∀zs,x≠.tup zs)(ny:∀zs,y≠.tup zs)(h1:d∈X)(h2:g∈X):Kp X H H' :=
 ⟨λb o e n=>s b o e (λz=>n (z▸h1)) (λz=>n (z▸h2)),λa zs e=>s a _ e (λz=>by rw[z,hd]at e;exact nx _ (Zb e)) (λz=>by rw[z,hg]at e;exact ny _ (Zb e))⟩
theorem Kp.lst{X:List Jy}{l:Jy}{H:Hp}{vs ws:JK}(e:H l=some (.lst vs))(h:l∈X):Kp X H (upd H l (.lst ws)) :=
 ⟨λb o eb n=>by rw[ad (λz:b=l=>n (z▸h))];exact eb,dC e⟩
def BadAt(X:List Jy)(H:Hp)(b:Jy)(sts:List Jy)(ss:List Sd):Prop:=b∉X/\(H b=some (.lst [])\/∃(j:Nat) (st:Jy) (s:Sd) (o:Out),j<=ss.length/\H b=some (.lst ((sts.take j++[st]).map V.ref))/\StAt H st s/\StB s/\Due (run (ss.take j)).1 s o/\o≠.ok)
theorem BadAt.mv{X:List Jy}{H H':Hp}{b:Jy}{sts:List Jy}{ss:List Sd}(x:BadAt X H b sts ss)(k:Kp X H H'):BadAt X H' b sts ss:=by
 obtain⟨n,h|⟨j,st,s,o,h1,h2,h3,h4⟩⟩:=x
 ·exact⟨n,.inl (k.1 _ _ h n)⟩
 ·exact⟨n,.inr ⟨j,st,s,o,h1,k.1 _ _ h2 n,h3.ts k.2,h4⟩⟩
theorem BadAt.snoc{X:List Jy}{H:Hp}{b:Jy}{sts:List Jy}{ss:List Sd}(x:BadAt X H b sts ss)(le:sts.length=ss.length)(st:Jy)(s:Sd):BadAt X H b (sts++[st]) (ss++[s]):=by
 obtain⟨n,h|⟨j,st',s',o,h1,h2,h3,h4,h5,h6⟩⟩:=x
 ·exact⟨n,.inl h⟩
 ·refine⟨n,.inr ⟨j,st',s',o,by rw[Zn];omega,?_,h3,h4,?_,h6⟩⟩
  ·rw[List.take_append_of_le_length (by omega)];exact h2
  ·rw[List.take_append_of_le_length (by omega)];exact h5
theorem ToldAt.mv{X:List Jy}{H H':Hp}{t n r b:Jy}{ol:Ol}{out:List DI}{bl:Ol}(x:ToldAt H t n r b ol out bl)(k:Kp X H H')(h:t∉X/\n∉X/\r∉X/\b∉X):ToldAt H' t n r b ol out bl:=by obtain⟨h1,⟨ks,h2,h3⟩,⟨rs,h4,h5⟩,⟨bs,h6,h7⟩⟩:=x;exact⟨k.1 _ _ h1 h.1,⟨ks,k.1 _ _ h2 h.2.1,h3.ts k.2⟩,⟨rs,k.1 _ _ h4 h.2.2.1,h5.ts k.2⟩,⟨bs,k.1 _ _ h6 h.2.2.2,h7.ts k.2⟩⟩
def HeldAt(X:List Jy)(H:Hp)(hv fv:Jy):Prop:=hv∉X/\fv∉X/\((H hv=some (.lst [])/\H fv=some (.lst []))\/∃(n r b n' r' b':Jy) (ol:Ol) (out:List DI) (bl:Ol),(hv∉X/\n∉X/\r∉X/\b∉X)/\(fv∉X/\n'∉X/\r'∉X/\b'∉X)/\ToldAt H hv n r b ol out bl/\ToldAt H fv n' r' b' ol out bl/\∀x∈out,PyData.strOk x.2.2.tx=true)
theorem HeldAt.mv{X:List Jy}{H H':Hp}{hv fv:Jy}(x:HeldAt X H hv fv)(k:Kp X H H'):HeldAt X H' hv fv:=by
 obtain⟨n1,n2,⟨h1,h2⟩|⟨n,r,b,n',r',b',ol,out,bl,a1,a2,t1,t2,so⟩⟩:=x
 ·exact⟨n1,n2,.inl ⟨k.1 _ _ h1 n1,k.1 _ _ h2 n2⟩⟩
 ·exact⟨n1,n2,.inr ⟨n,r,b,n',r',b',ol,out,bl,a1,a2,t1.mv k a1,t2.mv k a2,so⟩⟩
structure St27(C T p d g mm ll L:Jy)(H:Hp)(ss:List Sd)(sts:List Jy):Prop where
 gd:Good ss
 O:OlAt C H p d g (run ss).1
 G:GoneAt H g (run ss).2
 M:MineAt H mm (run ss).1
 Gl:GoneAt H ll (run ss).2
 L:H L=some (.lst (sts.map V.ref))
 S:StsAt H sts ss
 tab:aH bX T (cc bO) H
theorem St27.same{C T p d g mm ll L:Jy}{H H':Hp}{ss:List Sd}{sts:List Jy}(x:St27 C T p d g mm ll L H ss sts)(s:Same H H'):St27 C T p d g mm ll L H' ss sts :=
 ⟨x.gd,x.O.same s,x.G.same s,x.M.same s,x.Gl.same s,s _ _ x.L,x.S.ts (JE s),aR x.tab s⟩
theorem MineAt.sameT{T:Jy}{H H':Hp}{mm:Jy}{ol:Ol}{q:Str}{pos:Pos}(x:MineAt H mm ol)(s:SameT T H H')(tab:aH q T pos H):MineAt H' mm ol:=by have ts:=cX s tab;obtain⟨ps,t1,_⟩:=tab;obtain⟨mvs,h1,h2⟩:=x;exact⟨mvs,s _ _ h1 (λz=>by rw[z,t1]at h1;cases h1),h2.ts ts⟩
theorem St27.sameT{C T p d g mm ll L:Jy}{H H':Hp}{ss:List Sd}{sts:List Jy}(x:St27 C T p d g mm ll L H ss sts)(s:SameT T H H')(tab':aH bX T (cc bO) H'):St27 C T p d g mm ll L H' ss sts :=
 ⟨x.gd,x.O.sameT s x.tab,x.G.sameT s x.tab,x.M.sameT s x.tab,x.Gl.sameT s x.tab,fi x.L s x.tab,x.S.ts (cX s x.tab),tab'⟩
theorem D8{ns:Jq}(h:ns.length<=63):∃cs:Jq,cE (ns.map V.int) (some 2) (some 52)=cs.map V.int/\cs.length<=50:=by
 refine⟨(ns.drop (HT.sIx (ns.map V.int).length 0 (some 2))).take (HT.sIx (ns.map V.int).length (ns.map V.int).length (some 52)-HT.sIx (ns.map V.int).length 0 (some 2)),?_,?_⟩
 ·unfold cE;rw[List.map_take,List.map_drop]
 ·rw[ZS,tu (by decide),tu (by decide)];have:(52:Int).toNat=52:=rfl;have:(2:Int).toNat=2:=rfl;omega
abbrev X6(d g mm ll L T:Jy):List Jy:=[d,g,mm,ll,L,T]
theorem xd{d g mm ll L T:Jy}:d∈X6 d g mm ll L T:=by simp
theorem xg{d g mm ll L T:Jy}:g∈X6 d g mm ll L T:=by simp
theorem xm{d g mm ll L T:Jy}:mm∈X6 d g mm ll L T:=by simp
theorem xl{d g mm ll L T:Jy}:ll∈X6 d g mm ll L T:=by simp
theorem xL{d g mm ll L T:Jy}:L∈X6 d g mm ll L T:=by simp
theorem xT{d g mm ll L T:Jy}:T∈X6 d g mm ll L T:=by simp
theorem oj{k:JJ}:∀zs,HO.dT k≠.tup zs:=λ_ z=>nomatch z
theorem St27.nX{C T p d g mm ll L:Jy}{H:Hp}{ss:List Sd}{sts:List Jy}{b:Jy}(x:St27 C T p d g mm ll L H ss sts)(e:H b=none):b∉X6 d g mm ll L T:=λhb=>by
 obtain⟨_,⟨kvs,gvs,S,_⟩,⟨g1,g2,_⟩,⟨m1,m2,_⟩,⟨l1,l2,_⟩,hL,_,⟨ps,t1,_⟩⟩:=x;simp only[X6,Zj,ZT,YK]at hb;rcases hb with rfl|rfl|rfl|rfl|rfl|rfl
 ·have:=S.dc;rw[e]at this;cases this
 ·rw[e]at g2;cases g2
 ·rw[e]at m2;cases m2
 ·rw[e]at l2;cases l2
 ·rw[e]at hL;cases hL
 ·rw[e]at t1;cases t1
theorem OlAt.mk2{C:Jy}{H H':Hp}{p d g:Jy}{ol:Ol}(O:OlAt C H p d g ol)(k:∀b o,H b=some o->(b=d\/b=g\/∃c x ys,o=.ins c x ys)->H' b=some o)(ts:K27.TS H H'):OlAt C H' p d g ol:=by obtain⟨kvs,gvs,⟨⟨dx,h1⟩,h2,h3,h4⟩,R⟩:=O;exact⟨kvs,gvs,⟨⟨dx,k _ _ h1 (.inr (.inr ⟨_,_,_,rfl⟩))⟩,k _ _ h2 (.inl rfl),k _ _ h3 (.inr (.inl rfl)),h4⟩,R.ts ts⟩
theorem OutAt.ts{H H':Hp}{t:Jy}{o:Out}(x:OutAt H t o)(s:K27.TS H H'):OutAt H' t o:=by
 cases o with
 |none n =>obtain⟨v,h1,h2⟩:=x;exact⟨v,s _ _ h1,h2.ts' s⟩
 |taken=>exact s _ _ x
 |beneath=>exact s _ _ x
 |far=>exact s _ _ x
 |ok=>exact s _ _ x
structure Md27(C T p d g mm ll L:Jy)(H:Hp)(so ss:List Sd)(sts:List Jy):Prop where
 O:OlAt C H p d g (run so).1
 G:GoneAt H g (run so).2
 M:MineAt H mm (run ss).1
 Gl:GoneAt H ll (run ss).2
 L:H L=some (.lst (sts.map V.ref))
 S:StsAt H sts ss
 tab:aH bX T (cc bO) H
theorem Md27.same{C T p d g mm ll L:Jy}{H H':Hp}{so ss:List Sd}{sts:List Jy}(x:Md27 C T p d g mm ll L H so ss sts)(s:Same H H'):Md27 C T p d g mm ll L H' so ss sts :=
 ⟨x.O.same s,x.G.same s,x.M.same s,x.Gl.same s,s _ _ x.L,x.S.ts (JE s),aR x.tab s⟩
def J27(C T a x d g mm ll L:Jy)(H8:Hp)(n:Nat)(v8 v9 v10 v11:V)(σ:St)(H':Hp):Prop:=Kp (X6 d g mm ll L T) H8 H'/\∃(ss:List Sd) (sts:List Jy) (bd hv fv:Jy) (o12:Option V),ss.length<=n/\St27 C T x d g mm ll L H' ss sts/\BadAt (X6 d g mm ll L T) H' bd sts ss/\HeldAt (X6 d g mm ll L T) H' hv fv/\σ=[some (.ref a),some (.ref x),some (.ref mm),some (.ref ll),some (.ref L),some (.ref bd),some (.ref hv),some (.ref fv),some v8,some v9,some v10,some v11,o12,none]
theorem sS{T d g:Jy}{H H':Hp}{x y:JJ}(tab:aH bX T (cc bO) H)(s:But2 d g H H')(hd:H d=some (.dT x))(hg:H g=some (.dT y)):aH bX T (cc bO) H':=by have go:∀{b:Jy} {o:HO},H b=some o->(∀z,o≠.dT z)->H' b=some o:=λe n=>s _ _ e (λz=>by rw[z,hd]at e;exact n _ (Zb e).symm) (λz=>by rw[z,hg]at e;exact n _ (Zb e).symm);obtain⟨ps,y1,y2,y3⟩:=tab;exact⟨ps,go y1 nofun,y2,y3.imp id fun⟨c,z1,z2⟩=>⟨c,z1,go z2 (by intro _ z;unfold fD at z;cases z)⟩⟩
theorem CH{T l:Jy}{H:Hp}{vs ws:JK}(tab:aH bX T (cc bO) H)(e:H l=some (.lst vs)):aH bX T (cc bO) (upd H l (.lst ws)):=by
 have go:∀{b:Jy} {o:HO},H b=some o->(∀z,o≠.lst z)->upd H l (.lst ws) b=some o:=fun{b o} eb n=>by rw[ad (λz:b=l=>by rw[z,e]at eb;exact n _ (Zb eb).symm)];exact eb
 obtain⟨ps,y1,y2,y3⟩:=tab;exact⟨ps,go y1 nofun,y2,y3.imp id fun⟨c,z1,z2⟩=>⟨c,z1,go z2 (by intro _ z;unfold fD at z;cases z)⟩⟩
theorem MineAt.mv{H H':Hp}{mm:Jy}{ol:Ol}(x:MineAt H mm ol)(k:∀o,H mm=some o->H' mm=some o)(ts:K27.TS H H'):MineAt H' mm ol:=by obtain⟨mvs,h1,h2⟩:=x;exact⟨mvs,k _ h1,h2.ts ts⟩
def CpAt(X:List Jy)(H:Hp)(srcs:List JK)(ys:JK):Prop:=Paired (fun(src:JK) (v:V)=>∃l,v=.ref l/\l∉X/\H l=some (.lst src)) srcs ys
theorem CpAt.same{X:List Jy}{H H':Hp}{srcs:List JK}{ys:JK}(x:CpAt X H srcs ys)(s:Same H H'):CpAt X H' srcs ys:=Paired.mapP x λ_ _ ⟨l,h1,h2,h3⟩=>⟨l,h1,h2,s _ _ h3⟩
theorem F9{H:Hp}{ns:List Nm}{ks:JK}(ab:AbAt H ns ks){c:Int}{n:Nat}(hn:ks.length=n):∃v u,atI ([V.non]++ks) (c%(1+(n:Int)))=some v/\UpAt H v u:=by
 have h0:=YD c (show(1+(n:Int))≠0 by omega);have h1:=Yz c (show(0:Int)<1+(n:Int) by omega);generalize c%(1+(n:Int))=z at h0 h1;obtain⟨j,rfl⟩:=Int.eq_ofNat_of_zero_le h0;cases j with
 |zero=>exact⟨.non,none,at0,rfl⟩
 |succ j =>
  have hj:j<ks.length:=by omega
  obtain⟨m,_,hm⟩:=hV ab (Zd hj);exact⟨ks[j],some m,de (xs:=[V.non]++ks) (j:=j+1) (by show ks[j]?=_;exact Zd hj),hm⟩
theorem CpAt.three{X:List Jy}{H:Hp}{a b c:JK}{ys:JK}(x:CpAt X H [a,b,c] ys):∃n r z,ys=[.ref n,.ref r,.ref z]/\n∉X/\r∉X/\z∉X/\H n=some (.lst a)/\H r=some (.lst b)/\H z=some (.lst c):=by
 unfold CpAt at x;cases x with
 |cons a1 x =>
  cases x with
  |cons a2 x =>
   cases x with
   |cons a3 x =>
    cases x with
    |nil =>obtain⟨n4,rfl,y1,y2⟩:=a1;obtain⟨r4,rfl,y3,y4⟩:=a2;obtain⟨b4,rfl,y5,y6⟩:=a3;exact⟨n4,r4,b4,rfl,y1,y3,y5,y2,y4,y6⟩
abbrev mE:JA:=top 34
abbrev Gh:Jr:=["_law_script","_law_plain","_law_mine","_law_lost","_law_steps","_law_bad","_law_held","_law_first","_law_k","_law_cell","_law_step_here","_law_due_here","_law_up","_law_kept"]
theorem cH:FnScope Gh ["_law_script"] (aj mE):=⟨rfl,rfl,rfl,by decide,rfl,by decide,by decide⟩
theorem EM{f C T:Jy}{fd:Jp}(F:Fun K "law" "law" mE f fd)(x8:Fn P w K mg base 1 "_law_cell_at" ["_law_script","_law_k"] (spCell K))(IP:Fn P w K mg base 2 "_law_step" ["_law_cell","_law_k","_law_names"] spDraw)(IY:Fn P w K mg base 2 "_law_due" ["_law_step_here","_law_mine"] spDue27)(Il:Fn P w K mg base 5 "_law_refusal" ["_law_plain","_law_step_here"] (spRefusal27 C))(IK:Fn P w K mg base 1 "_law_apply" ["_law_step_here","_law_mine","_law_lost"] spApply)(Ie:Fn P w K mg base 3 "_law_is_under" ["_law_plain","_law_cell","_law_k","_law_mine"] (spUnder27 C))(x9:Fn P w K mg base 8 "_law_as_kept" ["_law_plain","_law_mine","_law_lost"] (spKept C T))(l7:Fn P w K mg base 9 "_law_own_lists" ["_law_plain","_law_up"] (spOwn C T))(r9:Fn P w K mg base 8 "_law_told" ["_law_plain","_law_up"] (spTold C T))(HX:Fn P w K mg base 5 "lets_by" ["steps"] (spLets27 C))(k9:MkFn P w K mg base 1 C "Plain" ["self"] (spInit C))(Ia:mg "enumerate" = none)(a8:mg "len" = none)(a9:mg "list" = none):FnOk P w K mg base CX0 10 f fd ["_law_script"] (spLawT K T):=by
 refine F.okQ cH (λvs H Q E h=>?_) (λcdv A outer s H vs Q E hr h=>?_)
 ·obtain⟨a,ns,rfl,_⟩:=h;rfl
 obtain⟨a,sc,rfl,hS,hlen,hT,hq⟩:=h;refine⟨_,(b_c (au (i:=1) cH.nd (vo k9 (hr.mono (by decide))))
   (b_c (au (i:=2) cH.nd rQ)
   (b_c (au (i:=3) cH.nd rQ)
   (b_c (au (i:=4) cH.nd (aW ah))
   (b_c (au (i:=5) cH.nd (aW ah))
   (b_c (au (i:=6) cH.nd (aW ah))
   (b_c (au (i:=7) cH.nd (aW ah))
   (b_c (eV ZX rfl (Ei Ia (q_a (cC sR (q_v 0) (cj ag) (cj ag)) ah)) (wz rfl (pY (bv (i:=8) cH.nd) (pY (bv (i:=9) cH.nd) Ax))) (b_c (au (i:=10) cH.nd (bJ IP (hr.mono (by decide)) (q_a (q_v 9) (q_a (q_v 8) (q_a (fE (iw rfl) a9 ci (q_a (q_v 2) ah)) ah)))))
   (b_c (au (i:=11) cH.nd (bJ IY (hr.mono (by decide)) (q_a (q_v 10) (q_a (q_v 2) ah))))
   (b_c (aI (aB (fw hr.units) (bJ Il (hr.mono (by decide)) (q_a (q_v 1) (q_a (q_v 10) ah))) (q_v 11)) (b_1 (aD ce)) b_0)
   (b_c (hW (aI (aB (hJ hr.units) (q_v 11) (aQ (q_a aE (q_a aY ah)))) (b_c (bC (bJ IK (hr.mono (by decide)) (q_a (q_v 10) (q_a (q_v 2) (q_a (q_v 3) ah)))))
   (b_1 (bC (io (q_v 4) (q_v 10))))) (b_1 (au (i:=5) cH.nd (ar rO (q_v 4) (aW (q_a (q_v 10) ah)))))))
   (b_c (aI (dI (bU (bJ Ie (hr.mono (by decide)) (q_a (q_v 1) (q_a (q_v 9) (q_a (q_v 8) (q_a (q_v 2) ah))))))) (b_1 (aD ce)) b_0)
   (b_1 (hW (aI (aB bW (q_v 8) (ar aU (bJ x8 (hr.mono (by decide)) (q_a (q_v 0) (q_a ag ah))) ag)) (b_c (au (i:=12) cH.nd (am br (ar rO (aW (q_a aY ah)) (fE (iw rfl) a9 ci (q_a (q_v 2) ah))) (ar aU (bJ x8 (hr.mono (by decide)) (q_a (q_v 0) (q_a ag ah))) (ar gZ ag (q_B D6 a8 Z3 (q_a (q_v 2) ah))))))
   (b_c (aI (t_w (fe (dI (bU (bJ x9 (hr.mono (by decide)) (q_a (q_v 1) (q_a (q_v 2) (q_a (q_v 3) ah)))))) (eX (dI (bU (bJ l7 (hr.mono (by decide)) (q_a (q_v 1) (q_a (q_v 12) ah)))))))) (b_1 (aD ce)) b_0)
   (b_c (au (i:=6) cH.nd (bJ r9 (hr.mono (by decide)) (q_a (q_v 1) (q_a (q_v 12) ah))))
   (b_1 (zt (j:=7) cH.nd (own:=["_law_one"]) (⟨rfl,by decide,by decide,rfl,trivial⟩:CompOk _ _ [] []) rfl (fh (q_v 6)) (λ_ _ _ _=>bv (i:=0) (show (["_law_one"]:Jr).Nodup by decide)) (gj (by decide)) (λ_ _ _ _=>wH) (λ_ _ _ _=>(fE (Cm (K:=K) rfl) a9 ci (q_a (q_v 0) ah)))))))) b_0)))))))))
   (b_c (au (i:=13) cH.nd (fE lh a9 ci (q_a (q_v 4) ah)))
   (b_c (aI (t_w (fe (aB yN (bJ HX (hr.mono (by decide)) (q_a (q_v 4) ah)) ce) (eX (t_w (dk (aB (fw hr.units) (q_v 5) (aW ah)) (cQ (aB yN (bJ HX (hr.mono (by decide)) (q_a (ar rO (q_v 5) (cC sR (q_v 4) (cj (ar hM (q_B fO a8 Z3 (q_a (q_v 5) ah)) ag)) cG)) ah)) ce))))))) (b_1 (aD ce)) b_0)
   (b_1 (aD (mC (dw (hJ hr.units) (q_v 4) (q_v 13)) (mC (bJ x9 (hr.mono (by decide)) (q_a (q_v 1) (q_a (q_v 2) (q_a (q_v 3) ah)))) (mC (bJ l7 (hr.mono (by decide)) (q_a (q_v 1) (q_a aY ah))) (pq (dw (hJ hr.units) (q_v 6) (q_v 7)))))))))))))))))),?_⟩
 try rw[cxK]
 refine ax λR hR=>?_;intro x dx nx ndx nex;refine⟨x,dx,rfl,ac,λd g H1 fd0 fg0 S1 kp1=>⟨rfl,hR _ _ ?_⟩⟩;have s00:Same H (upd (upd H dx (.own x)) x (.ins C dx [])):=λb o e=>by rw[ad (ai e nx),ad (ai e ndx)];exact e
 have hd0:H d=none:=s00.free fd0;have hg0:H g=none:=s00.free fg0;have s01:Same H H1:=λb o e=>kp1 b o (by rw[ad (ai e nx),ad (ai e ndx)];exact e) (ai e nx);clear s00 kp1 fd0 fg0 nex;refine ax λR hR=>?_;intro mm gmm;refine hR _ _ ?_;have w1:=af gmm (.dT []);have emm:upd H1 mm (.dT []) mm=some (.dT []):=ac;have S2:=S1.same w1;have s02:=s01.trans w1;have hmm0:H mm=none:=s01.free gmm;have ndm:d≠mm:=λz=>by have:=S1.dc;rw[z,gmm]at this;cases this
 have ngm:g≠mm:=λz=>by have:=S1.gc;rw[z,gmm]at this;cases this
 generalize upd H1 mm (.dT [])=H2 at emm S2 s02 ⊢;refine ax λR hR=>?_;intro ll gll;refine hR _ _ ?_;have w2:=af gll (.dT []);have ell:upd H2 ll (.dT []) ll=some (.dT []):=ac;have S3:=S2.same w2;have s03:=s02.trans w2;have hll0:H ll=none:=s02.free gll;have emm3:=w2 _ _ emm;have ndl:d≠ll:=λz=>by have:=S2.dc;rw[z,gll]at this;cases this
 have ngl:g≠ll:=λz=>by have:=S2.gc;rw[z,gll]at this;cases this
 have nml:mm≠ll:=λz=>by rw[z,gll]at emm;cases emm
 generalize upd H2 ll (.dT [])=H3 at ell S3 s03 emm3 ⊢;refine ax λR hR=>?_;refine⟨sz rfl,λL gL=>hR _ _ ?_⟩;have w3:=af gL (.lst []);have eL:upd H3 L (.lst []) L=some (.lst []):=ac;have S4:=S3.same w3;have s04:=s03.trans w3;have hL0:H L=none:=s03.free gL;have emm4:=w3 _ _ emm3;have ell4:=w3 _ _ ell;generalize upd H3 L (.lst [])=H4 at eL S4 s04 emm4 ell4 ⊢;have tab4:aH bX T (cc bO) H4:=⟨#[],s04 _ _ hT,trivial,.inl rfl⟩
 have st4:St27 C T x d g mm ll L H4 [] []:=⟨Good.nil,⟨[],[],S4,.nil⟩,⟨[],S4.gc,.nil⟩,⟨[],emm4,.nil⟩,⟨[],ell4,.nil⟩,eL,.nil,tab4⟩
 have nLd:d≠L:=λz=>by have:=S3.dc;rw[z,gL]at this;cases this
 have nLg:g≠L:=λz=>by have:=S3.gc;rw[z,gL]at this;cases this
 have nLm:mm≠L:=λz=>by rw[z,gL]at emm3;cases emm3
 have nLl:ll≠L:=λz=>by rw[z,gL]at ell;cases ell
 have nT:∀{b:Jy},H b=none->b≠T:=λe z=>by rw[z,hT]at e;cases e
 have nTd:=nT hd0;have nTg:=nT hg0;have nTm:=nT hmm0;have nTl:=nT hll0;have nTL:=nT hL0;have aX:∀{o:HO},H a=some o->(∀ps,o≠.tbl ps)->a∉X6 d g mm ll L T:=fun{o} e ne hb=>by
  simp only[X6,Zj,ZT,YK]at hb;rcases hb with z|z|z|z|z|z
  ·rw[z,hd0]at e;cases e
  ·rw[z,hg0]at e;cases e
  ·rw[z,hmm0]at e;cases e
  ·rw[z,hll0]at e;cases e
  ·rw[z,hL0]at e;cases e
  ·rw[z,hT]at e;exact ne _ (Zb e).symm
 have hSX:∀{H':Hp},Kp (X6 d g mm ll L T) H4 H'->SqL K H' a (sc.map V.int):=fun{H'} k=>by
  rcases hS with(h|⟨o,h⟩)|h
  ·exact .inl (.inl (k.1 _ _ (s04 _ _ h) (aX h nofun)))
  ·exact .inl (.inr ⟨o,k.1 _ _ (s04 _ _ h) (aX h nofun)⟩)
  ·exact .inr h
 clear aX nT S1 S2 S3 emm emm3 ell s01 s02 s03 w1 w2 w3 gmm gll gL hd0 hg0 hmm0 hll0 hL0;refine ax λR hR=>?_;refine⟨sz rfl,λbd gbd=>hR _ _ ?_⟩;have w5:=af gbd (.lst []);have ebd:upd H4 bd (.lst []) bd=some (.lst []):=ac;have nbd:=st4.nX gbd;have st5:=st4.same w5;generalize upd H4 bd (.lst [])=H5 at w5 ebd st5 ⊢;refine ax λR hR=>?_;refine⟨sz rfl,λhv0 ghv=>hR _ _ ?_⟩;have w6:=af ghv (.lst []);have ehv:upd H5 hv0 (.lst []) hv0=some (.lst []):=ac;have nhv:=st5.nX ghv;have st6:=st5.same w6;have ebd6:=w6 _ _ ebd;generalize upd H5 hv0 (.lst [])=H6 at w6 ehv st6 ebd6 ⊢;refine ax λR hR=>?_;refine⟨sz rfl,λfv0 gfv=>hR _ _ ?_⟩;have w7:=af gfv (.lst []);have efv:upd H6 fv0 (.lst []) fv0=some (.lst []):=ac;have nfv:=st6.nX gfv;have st7:=st6.same w7;have ebd7:=w7 _ _ ebd6;have ehv7:=w7 _ _ ehv;have s47:=w5.trans (w6.trans w7);generalize upd H6 fv0 (.lst [])=H7 at efv st7 ebd7 ehv7 s47 ⊢;clear w5 w6 w7 gbd ghv gfv ebd ebd6 ehv st5 st6;refine ax λR hR=>?_;refine⟨_,rfl,_,rfl,_,rfl,a,_,rfl,hSX (.of s47),λLc gLc=>?_⟩;obtain⟨cs,ecs,lcs⟩:=D8 hlen;rw[ecs];have w8:=af gLc (.lst (cs.map V.int));have eLc:upd H7 Lc (.lst (cs.map V.int)) Lc=some (.lst (cs.map V.int)):=ac;have nLc:=st7.nX gLc;have st8:=st7.same w8;have s48:=s47.trans w8;have bd8:BadAt (X6 d g mm ll L T) (upd H7 Lc (.lst (cs.map V.int))) bd [] []:=⟨nbd,.inl (w8 _ _ ebd7)⟩
 have he8:HeldAt (X6 d g mm ll L T) (upd H7 Lc (.lst (cs.map V.int))) hv0 fv0:=⟨nhv,nfv,.inl ⟨w8 _ _ ehv7,w8 _ _ efv⟩⟩
 generalize upd H7 Lc (.lst (cs.map V.int))=H8 at eLc st8 s48 bd8 he8 ⊢;refine⟨Lc,cs.map V.int,rfl,eLc,?_⟩;refine yi (i:=8) (j:=9) (λi σ H'=>Kp (X6 d g mm ll L T) H8 H'/\∃(ss:List Sd) (sts:List Jy) (bd hv fv:Jy) (o8 o9 o10 o11 o12:Option V),ss.length<=i/\St27 C T x d g mm ll L H' ss sts/\BadAt (X6 d g mm ll L T) H' bd sts ss/\HeldAt (X6 d g mm ll L T) H' hv fv/\σ=[some (.ref a),some (.ref x),some (.ref mm),some (.ref ll),some (.ref L),some (.ref bd),some (.ref hv),some (.ref fv),o8,o9,o10,o11,o12,none]) ⟨.refl,[],[],bd,hv0,fv0,none,none,none,none,none,Za _,st8,bd8,he8,rfl⟩ (λi σ H' _ hP=>JG (hP.1.1 _ _ eLc nLc)) (λi v σ H' hv hP D' kD Tt gTt=>?_) (λσ H' hP=>?_)
 ·obtain⟨kp,ss,sts,bd,hv1,fv,o8,o9,o10,o11,o12,le,st,bad,held,rfl⟩:=hP;have hi:i<50:=by have:=(ZB.mp hv).1;rw[Ze]at this;omega
  obtain⟨c,rfl⟩:∃c,v=.int c:=by rw[ZE]at hv;obtain⟨c,_,rfl⟩:=ZZ.mp hv;exact⟨c,rfl⟩
  have wT:=af gTt (.tup [.int (i:Int),.int c]);have st:=st.same wT;have kp:=kp.trans (.of wT);have bad:=bad.mv (.of wT);have held:=held.mv (.of wT);generalize upd H' Tt (.tup [.int (i:Int),.int c])=Ha at st kp bad held ⊢;clear wT gTt;have ok:=st.gd.ok;have lss:=Zu st.S;have le1:=ok.le;have le2:=ok.gl;have txb:TxB (run ss).1:=λn it hl=>Zr (ok.tx hl) (by omega);obtain⟨mvs,m1,m2⟩:=id st.M;refine ax λR hR=>?_;refine⟨_,rfl,_,rfl,_,rfl,mm,mvs,rfl,Rd.of m1,λnl ks gl kat=>?_⟩;have wl:=af gl (.lst ks);refine⟨c,i,nl,ks,(run ss).1.map (·.1),rfl,ac,AbAt.ts (gY (ko kat m2)) (JE wl),λsA sd Hb sb sa stb=>hR _ _ ?_⟩;have s1:=wl.trans sb;have st:=st.same s1;have kp:=kp.trans (.of s1);have bad:=bad.mv (.of s1);have held:=held.mv (.of s1);clear wl sb s1 kat gl m1 m2;obtain⟨mvs,m1,m2⟩:=id st.M;refine ax λR hR=>?_;refine⟨_,rfl,_,rfl,sA,mm,mvs,(run ss).1,sd,rfl,sa,m1,m2,ok.te,txb,λtD o Hc s2 du oa=>hR _ _ ?_⟩;have st:=st.same s2;have kp:=kp.trans (.of s2);have bad:=bad.mv (.of s2);have held:=held.mv (.of s2);have sa:=sa.ts (JE s2);clear s2 m1 m2;have dc:∀{H:Hp} {ol:Ol},OlAt C H x d g ol->∃kvs gvs,H d=some (.dT kvs)/\H g=some (.dT gvs):=λh=>by obtain⟨kvs,gvs,S,_⟩:=h;exact⟨_,_,S.dc,S.gc⟩
  obtain⟨kvs0,gvs0,dc1,dc2⟩:=dc st.O;have kX:∀{H H':Hp} {b:Jy} {o:HO},Kp (X6 d g mm ll L T) H H'->H b=some o->b∉X6 d g mm ll L T->H' b=some o:=λk e n=>k.1 _ _ e n;refine ax λR hR=>?_;have aft:∀(Hd:Hp) (so:List Sd),Kp (X6 d g mm ll L T) Hc Hd->Md27 C T x d g mm ll L Hd so ss sts->((o≠.ok/\so=ss)\/(o=.ok/\so=ss++[sd]))->R.nx [some (.ref a),some (.ref x),some (.ref mm),some (.ref ll),some (.ref L),some (.ref bd),some (.ref hv1),some (.ref fv),some (.int (i:Int)),some (.int c),some (.ref sA),some (.ref tD),o12,none] Hd:=λHd so kd md cs=>by
   refine hR _ _ ?_;have oa:=oa.ts kd.2;have sa:=sa.ts kd.2;have bad:=bad.mv kd;have held:=held.mv kd;have kp:=kp.trans kd;clear kd dc1 dc2 kvs0 gvs0;refine ax λR hR=>?_;refine⟨J27 C T a x d g mm ll L H8 (i+1) (.int (i:Int)) (.int c) (.ref sA) (.ref tD),?_,?_⟩
   ·have lsl:(sts.map V.ref).length<=60:=by rw[Ze];omega
    refine⟨_,rfl,sz rfl,λt gt=>?_⟩;have wt:=af gt (.tup [.str "done",.non]);have ot:OutAt (upd Hd t (.tup [.str "done",.non])) t .ok:=ac;have md:=md.same wt;have oa:=oa.same wt;have sa:=sa.ts (JE wt);have bad:=bad.mv (.of wt);have held:=held.mv (.of wt);have kp:=kp.trans (.of wt);generalize upd Hd t (.tup [.str "done",.non])=He at ot md oa sa bad held kp ⊢;clear wt gt;obtain⟨y1,y2,y3⟩:=jM oa;obtain⟨y4,y5,_⟩:=jM ot;refine⟨dD o,dD .ok,y1,y4,y2,y5,_,rfl,?_⟩;rcases cs with⟨no,rfl⟩|⟨rfl,rfl⟩
    ·rw[EX no];refine aw ?_;refine⟨_,rfl,_,rfl,sz rfl,λl1 g1=>?_⟩;have w1:=af g1 (.lst [.ref sA]);have e1:upd He l1 (.lst [.ref sA]) l1=some (.lst [.ref sA]):=ac;have md:=md.same w1;have s1:=w1;generalize upd He l1 (.lst [.ref sA])=He1 at e1 md s1 ⊢;refine⟨L,l1,_,_,rfl,rfl,md.L,e1,bD (by rw[Ze];show sts.length+1<=1000;omega),λLb gLb=>?_⟩;have st1:St27 C T x d g mm ll L He1 so sts:=⟨st.gd,md.O,md.G,md.M,md.Gl,md.L,md.S,md.tab⟩
     have nLb:=st1.nX gLb;have w2:=af gLb (.lst (sts.map V.ref++[.ref sA]));have s12:=s1.trans w2;refine⟨kp.trans (.of s12),so,sts,Lb,hv1,fv,o12,by omega,st1.same w2,⟨nLb,.inr ⟨so.length,sA,sd,o,Za _,?_,sa.ts (JE s12),stb,?_,no⟩⟩,held.mv (.of s12),rfl⟩
     ·rw[ZA (by omega),ZN];exact ac
     ·rw[ZA (Za _)];exact du
    ·rw[y3];refine bn ?_;refine⟨_,rfl,_,rfl,_,rfl,sA,mm,ll,(run ss).1,(run ss).2,sd,ss.length,rfl,sa,md.M,md.Gl,nml,ok,by omega,du,stb,λHf bf Mf Gf=>?_⟩;obtain⟨mvs5,m5,_⟩:=id md.M;obtain⟨gvs5,g5,_⟩:=id md.Gl;have kf:Kp (X6 d g mm ll L T) He Hf:=.of2 bf m5 g5 oj oj xm xl;have eLf:=bf _ _ md.L (Zs nLm) (Zs nLl);have tabf:=sS md.tab bf m5 g5;have kw:Kp (X6 d g mm ll L T) Hf (upd Hf L (.lst (sts.map V.ref++[.ref sA]))):=.lst eLf xL;have uw:∀{b:Jy} {o:HO},Hf b=some o->b≠L->upd Hf L (.lst (sts.map V.ref++[.ref sA])) b=some o:=λe h=>by rw[ad h];exact e
     have rs:run (ss++[sd])=(apF (run ss).1 sd,ls (run ss).2 sd):=nM ss sd;have nxm:∀{dz:Jy} {z:List (Str×V)},True:=trivial;have Of:OlAt C Hf x d g (run (ss++[sd])).1:=md.O.mk2 (λb o e h=>bf _ _ e (λz=>by
      rcases h with h|h|⟨c1,c2,c3,h⟩
      ·exact ndm (h▸z)
      ·exact ngm (h▸z)
      ·rw[z,m5,h]at e;cases e) (λz=>by
      rcases h with h|h|⟨c1,c2,c3,h⟩
      ·exact ndl (h▸z)
      ·exact ngl (h▸z)
      ·rw[z,g5,h]at e;cases e)) kf.2
     have Gg:GoneAt Hf g (run (ss++[sd])).2:=md.G.mv λo e=>bf _ _ e ngm ngl;refine⟨_,rfl,.inl ⟨rfl,_,JG eLf⟩,_,rfl,L,_,_,rfl,rfl,eLf,bD (by omega),?_⟩;refine⟨(kp.trans kf).trans kw,ss++[sd],sts++[sA],bd,hv1,fv,o12,by rw[Zn];show ss.length+1<=i+1;omega,⟨st.gd.snoc du stb,?_,?_,?_,?_,?_,?_,?_⟩,((bad.mv kf).mv kw).snoc lss _ _,(held.mv kf).mv kw,rfl⟩
     ·exact Of.mk2 (λb o e h=>uw e (λz=>by
       rcases h with h|h|⟨c1,c2,c3,h⟩
       ·exact nLd (h▸z)
       ·exact nLg (h▸z)
       ·rw[z,eLf,h]at e;cases e)) kw.2
     ·exact Gg.mv λo e=>uw e nLg
     ·rw[rs];exact Mf.mv (λo e=>uw e nLm) kw.2
     ·rw[rs];exact Gf.mv λo e=>uw e nLl
     ·rw[ZN];exact ac
     ·exact cO ((md.S.ts kf.2).ts kw.2) (.cons ((sa.ts kf.2).ts kw.2) .nil)
     ·exact CH tabf eLf
   rintro σ2 H2 ⟨kp2,ss2,sts2,bd2,hv2,fv2,o12',le2,st2,bad2,held2,rfl⟩;refine hR _ _ ?_;clear cs st kp bad held oa sa md so ok txb;have ok2:=st2.gd.ok;have lo:=ok2.le;have lg:=ok2.gl;obtain⟨mv2,m1,m2⟩:=id st2.M;refine ax λR hR=>?_;refine⟨_,rfl,_,rfl,_,rfl,_,rfl,x,d,g,mm,c,i,mv2,_,rfl,st2.O,m1,m2,ok2.nd,ok2.te,by omega,λHu su=>⟨_,rfl,aw (hR _ _ ?_)⟩⟩;have st2:=st2.same su;have kp2:=kp2.trans (.of su);have bad2:=bad2.mv (.of su);have held2:=held2.mv (.of su);clear su m1 m2 mv2;refine⟨J27 C T a x d g mm ll L H8 (i+1) (.int (i:Int)) (.int c) (.ref sA) (.ref tD),?_,?_⟩
   ·refine⟨_,rfl,_,rfl,a,sc,0,rfl,hSX ((Kp.of s48).trans kp2),by decide,_,_,rfl,rfl,(by show(0:Int)<50;decide),rfl,_,rfl,cK (λ_=>?_) (λ_=>⟨kp2,ss2,sts2,bd2,hv2,fv2,o12',le2,st2,bad2,held2,rfl⟩)⟩;refine ax λR1 hR1=>?_;obtain⟨mv2,m1,m2⟩:=id st2.M;have lmv:=bE m2;refine⟨sz rfl,λLn gLn=>?_⟩;have wn:=af gLn (.lst [.non]);have eLn:upd Hu Ln (.lst [.non]) Ln=some (.lst [.non]):=ac;have st3:=st2.same wn;have s23:=wn;generalize upd Hu Ln (.lst [.non])=Hn at eLn st3 s23 ⊢;refine⟨_,rfl,mm,mv2,rfl,Rd.of (s23 _ _ m1),λlk ks gk kat=>?_⟩;have wk:=af gk (.lst ks);have ab:=AbAt.ts (gY (ko kat (m2.ts (JE s23)))) (JE wk);have lks:ks.length=mv2.length:=by have:=Zu ab;rw[Ze]at this;omega
    refine⟨Ln,lk,_,_,rfl,rfl,wk _ _ eLn,ac,bD (by show 1+ks.length<=1000;omega),λLu gLu=>?_⟩;have wu:=af gLu (.lst ([.non]++ks));have eLu:upd (upd Hn lk (.lst ks)) Lu (.lst ([.non]++ks)) Lu=some (.lst ([.non]++ks)):=ac;have s24:=s23.trans (wk.trans wu);have ab:=AbAt.ts ab (JE wu);generalize upd (upd Hn lk (.lst ks)) Lu (.lst ([.non]++ks))=Ho at eLu s24 ab ⊢;have st4':=st2.same s24;have kp4:=kp2.trans (.of s24);have bad4:=bad2.mv (.of s24);obtain⟨uv,u,hat,hu⟩:=F9 (c:=jX sc (1:Int).toNat) ab lks;refine⟨_,rfl,a,sc,1,rfl,hSX ((Kp.of s48).trans kp4),by decide,_,rfl,mm,mv2,rfl,Rd.of (s24 _ _ m1),_,_,rfl,rfl,_,_,rfl,rfl,(by show(0:Int)<1+(mv2.length:Int);omega),Lu,_,_,uv,rfl,rfl,JG eLu,hat,hR1 _ _ ?_⟩;clear hR1 R1 wn wu wk gk gLn gLu s24 s23 st3 eLn eLu ab hat;obtain⟨B,tb⟩:=vD ok2.nd ok2.te;obtain⟨mv4,m3,m4⟩:=id st4'.M;refine ax λR1 hR1=>?_;refine⟨_,rfl,_,rfl,_,rfl,x,d,g,mm,ll,mv4,_,_,B,_,rfl,st4'.O,st4'.G,m3,m4,st4'.Gl,nml,Zs ndm,Zs ngm,Zs ndl,Zs ngl,ok2,by omega,tb,st4'.tab,λHp s5 tab5=>⟨_,rfl,aw ?_⟩⟩;have st5:=st4'.sameT s5 tab5;have hu5:=hu.ts (cX s5 st4'.tab);have kp5:=kp4.trans (.ofT s5 st4'.tab xT);have bad5:=bad4.mv (.ofT s5 st4'.tab xT);refine⟨_,rfl,_,rfl,x,d,g,_,_,B,uv,u,rfl,st5.O,st5.G,hu5,by omega,ok2.nd,ok2.te,tb,ok2.sk,tab5,λHr s6 tab6=>⟨_,rfl,aw (hR1 _ _ ?_)⟩⟩;have st6:=st5.sameT s6 tab6;have hu6:=hu5.ts (cX s6 tab5);have kp6:=kp5.trans (.ofT s6 tab5 xT);have bad6:=bad5.mv (.ofT s6 tab5 xT);clear st5 hu5 kp5 bad5 s6 s5 tab5 st4' kp4 bad4 m3 m4 mv4 hu;refine ax λR1 hR1=>?_;refine⟨_,rfl,_,rfl,x,d,g,_,_,B,uv,u,rfl,st6.O,st6.G,hu6,by omega,ok2.nd,ok2.te,tb,tab6,λt n r b out bl Hs s7 tab7 ft fn fr fb _ oo be ta=>hR1 _ _ ?_⟩;have st7':=st6.sameT s7 tab7;have kp7:=kp6.trans (.ofT s7 tab6 xT);have bad7:=bad6.mv (.ofT s7 tab6 xT);have nt:=st6.nX ft;have nn:=st6.nX fn;have nr:=st6.nX fr;have nb:=st6.nX fb;have so7:=yX ok2.nd ok2.sk oo;clear st6 kp6 bad6 s7 tab6 hu6 ft fn fr fb;obtain⟨e1,⟨ks1,e2,h2⟩,⟨rs1,e3,h3⟩,⟨bs1,e4,h4⟩⟩:=id ta;refine⟨_,rfl,t,rfl,⟨_,JG e1⟩,?_⟩;refine nh (N:=3) (λi ys H'=>Same Hs H'/\ys.length=i/\CpAt (X6 d g mm ll L T) H' ([ks1,rs1,bs1].take i) ys) (by decide) (λ_ _ _ x=>x.2.1) ⟨Same.refl _,rfl,.nil⟩ (λi ys H' hi hP=>⟨_,[V.ref n,.ref r,.ref b][i],JG (hP.1 _ _ e1),by simp[hi]⟩) (λys H' hP=>⟨_,JG (hP.1 _ _ e1),Za _⟩) ?_ ?_
    ·rintro i ys H' v H'' hi ⟨sm,ly,cp⟩ ⟨rfl,y⟩ A' kA;have hx:[V.ref n,.ref r,.ref b][i]?=some v:=y _ (JG (sm _ _ e1));have:∃(p:Jy) (xs:JK),v=.ref p/\H'' p=some (.lst xs)/\[ks1,rs1,bs1].take (i+1)=[ks1,rs1,bs1].take i++[xs]:=by
      match i,hi with
      |0,_=>cases hx;exact⟨n,ks1,rfl,sm _ _ e2,rfl⟩
      |1,_=>cases hx;exact⟨r,rs1,rfl,sm _ _ e3,rfl⟩
      |2,_=>cases hx;exact⟨b,bs1,rfl,sm _ _ e4,rfl⟩
     obtain⟨p,xs,rfl,hp,ht⟩:=this;refine⟨_,rfl,p,xs,rfl,.inl (JG hp),λl gl=>kA _ _ ?_⟩;have wl:=af gl (.lst xs);refine⟨sm.trans wl,by rw[Zn,ly];rfl,?_⟩;rw[ht];exact cO (cp.same wl) (.cons ⟨l,rfl,(st7'.same sm).nX gl,ac⟩ .nil)
    rintro ys fv4 H9 ⟨s9,ly,cp⟩ gfv4;have w9:=af gfv4 (.lst ys);have nfv4:=(st7'.same s9).nX gfv4;have cp:=cp.same w9;have e9:upd H9 fv4 (.lst ys) fv4=some (.lst ys):=ac;have s9:=s9.trans w9;generalize upd H9 fv4 (.lst ys)=Ht at cp e9 s9 ⊢;obtain⟨n4,r4,b4,rfl,i1,i2,i3,f1,f2,f3⟩:∃n4 r4 b4,ys=[.ref n4,.ref r4,.ref b4]/\n4∉X6 d g mm ll L T/\r4∉X6 d g mm ll L T/\b4∉X6 d g mm ll L T/\Ht n4=some (.lst ks1)/\Ht r4=some (.lst rs1)/\Ht b4=some (.lst bs1):=CpAt.three cp;exact⟨kp7.trans (.of s9),ss2,sts2,bd2,t,fv4,_,le2,st7'.same s9,bad7.mv (.of s9),⟨nt,nfv4,.inr ⟨n,r,b,n4,r4,b4,_,out,bl,⟨nt,nn,nr,nb⟩,⟨nfv4,i1,i2,i3⟩,ta.same s9,⟨e9,⟨_,f1,h2.ts (JE s9)⟩,⟨_,f2,h3.ts (JE s9)⟩,⟨_,f3,h4.ts (JE s9)⟩⟩,so7⟩⟩,rfl⟩
   rintro σ3 H3 ⟨kp3,ss3,sts3,bd3,hv3,fv3,o12',le3,st3,bad3,held3,rfl⟩;exact kD _ _ ⟨kp3,ss3,sts3,bd3,hv3,fv3,_,_,_,_,_,le3,st3,bad3,held3,rfl⟩
  refine⟨_,rfl,_,rfl,x,d,g,sA,(run ss).1,(run ss).2,sd,o,rfl,st.O,st.G,by omega,by omega,sa,txb,du,(λno tR Hd sD oR=>?_),(λyo tR ol' H' Hd b2 O2 G2 ap s2 oR=>?_)⟩
  ·obtain⟨y1,y2,y3⟩:=jM oR;obtain⟨y4,y5,_⟩:=jM (oa.same sD);refine⟨_,rfl,dD o,dD o,y1,y4,y2,y5,_,rfl,?_⟩;rw[y3];exact aw (aft Hd ss (.of sD) ⟨st.O.same sD,st.G.same sD,st.M.same sD,st.Gl.same sD,sD _ _ st.L,st.S.ts (JE sD),aR st.tab sD⟩ (.inl ⟨no,rfl⟩))
  ·subst yo;have hol:=xN ok.nd stb du ap;subst hol;have kd:Kp (X6 d g mm ll L T) Hc H':=.of2 b2 dc1 dc2 oj oj xd xg;have rs:run (ss++[sd])=(apF (run ss).1 sd,ls (run ss).2 sd):=nM ss sd;have md:Md27 C T x d g mm ll L H' (ss++[sd]) ss sts:=⟨by rw[rs];exact O2,by rw[rs];exact G2,st.M.mv (λo e=>b2 _ _ e (Zs ndm) (Zs ngm)) kd.2,st.Gl.mv (λo e=>b2 _ _ e (Zs ndl) (Zs ngl)),b2 _ _ st.L (Zs nLd) (Zs nLg),st.S.ts kd.2,sS st.tab b2 dc1 dc2⟩
   obtain⟨y1,y2,y3⟩:=jM oR;obtain⟨y4,y5,_⟩:=jM ((oa.ts kd.2).same s2);refine⟨_,rfl,dD .ok,dD .ok,y1,y4,y2,y5,_,rfl,?_⟩;rw[y3];exact aw (aft Hd (ss++[sd]) (kd.trans (.of s2)) (md.same s2) (.inr ⟨rfl,rfl⟩))
 ·obtain⟨kp,ss,sts,bd,hv,fv,o8,o9,o10,o11,o12,le,st,bad,held,rfl⟩:=hP;refine hR _ _ ?_;have ok:=st.gd.ok;have lss:=Zu st.S;have le1:=ok.le;have le2:=ok.gl;have lss60:ss.length<=60:=by rw[Ze]at le;omega
  obtain⟨B,tb⟩:=vD ok.nd ok.te;refine ax λR hR=>?_;refine⟨_,rfl,L,_,rfl,.inl (JG st.L),λLk gLk=>hR _ _ ?_⟩;have wk:=af gLk (.lst (sts.map V.ref));have eLk:upd H' Lk (.lst (sts.map V.ref)) Lk=some (.lst (sts.map V.ref)):=ac;have nLk:=st.nX gLk;have st:=st.same wk;have bad:=bad.mv (.of wk);have held:=held.mv (.of wk);generalize upd H' Lk (.lst (sts.map V.ref))=Ha at eLk st bad held ⊢;clear wk gLk kp;refine ax λR hR=>?_;refine⟨_,rfl,L,sts,[],ss,none,rfl,(by rw[show sts++((Option.map (λx:Jy×Sd×Out=>x.1) none).toList++[])=sts from ZR _];exact st.L),st.S,st.gd,lss60,(λ_=>rfl),(λe z=>nomatch z),λHb sb=>⟨true,true,rfl,rfl,_,rfl,aw ?_⟩⟩;have st:=st.same sb;have bad:=bad.mv (.of sb);have held:=held.mv (.of sb);have eLk:=sb _ _ eLk;clear sb;have lst:∀Hc,Same Hb Hc->R.nx [some (.ref a),some (.ref x),some (.ref mm),some (.ref ll),some (.ref L),some (.ref bd),some (.ref hv),some (.ref fv),o8,o9,o10,o11,o12,some (.ref Lk)] Hc:=λHc sc=>by
   refine hR _ _ ?_;have st:=st.same sc;have held:=held.mv (.of sc);have eLk:=sc _ _ eLk;clear sc bad;obtain⟨D,d1,d2,d3⟩:=Ey (zC st.S st.gd.sb);refine⟨_,rfl,_,rfl,D,D,d3 _ st.L,d3 _ eLk,d1,d1,_,rfl,?_⟩;rw[d2];refine bn ?_;obtain⟨mv2,m1,m2⟩:=id st.M;refine⟨_,rfl,_,rfl,_,rfl,x,d,g,mm,ll,mv2,_,_,B,_,rfl,st.O,st.G,m1,m2,st.Gl,nml,Zs ndm,Zs ngm,Zs ndl,Zs ngl,ok,lss60,tb,st.tab,λHd s5 tab5=>⟨_,rfl,bn ?_⟩⟩;have st5:=st.sameT s5 tab5;have held5:=held.mv (.ofT s5 st.tab xT);refine⟨_,rfl,x,d,g,_,_,B,.non,none,rfl,st5.O,st5.G,rfl,by omega,ok.nd,ok.te,tb,ok.sk,tab5,λHe s6 tab6=>⟨_,rfl,bn ?_⟩⟩;have held6:=held5.mv (.ofT s6 tab5 xT);obtain⟨_,_,⟨z1,z2⟩|⟨n,r,b,n',r',b',ol,out,bl,_,_,t1,t2,so⟩⟩:=held6
   ·obtain⟨y1,y2,y3⟩:=bj (ns:=[]) z1 .nil;obtain⟨y4,y5,_⟩:=bj (ns:=[]) z2 .nil;refine⟨_,rfl,_,rfl,cM [],cM [],y1,y4,y2,y5,?_⟩;rw[y3];exact hq _
   ·obtain⟨y1,y2,y3⟩:=mH t1 so;obtain⟨y4,y5,_⟩:=mH t2 so;refine⟨_,rfl,_,rfl,_,_,y1,y4,y2,y5,?_⟩;rw[y3];exact hq _
  obtain⟨nb,h|⟨j,sB,s,o,hj,eb,sa,sbb,du,no⟩⟩:=bad
  ·refine⟨_,rfl,sz rfl,λe0 ge=>?_⟩;have we:=af ge (.lst []);obtain⟨y1,y2,y3⟩:=bj (ns:=[]) (we _ _ h) .nil;obtain⟨y4,y5,_⟩:=bj (ns:=[]) (ac (H:=Hb) (a:=e0) (o:=.lst [])) .nil;refine⟨cM [],cM [],y1,y4,y2,y5,_,rfl,?_⟩;rw[y3];exact aw (aw (lst _ we))
  ·refine⟨_,rfl,sz rfl,λe0 ge=>?_⟩;have we:=af ge (.lst []);have e1:upd Hb e0 (.lst []) e0=some (.lst []):=ac;have st:=st.same we;have eb:=we _ _ eb;have sa:=sa.ts (JE we);have s1:=we;generalize upd Hb e0 (.lst [])=Hc at e1 st eb sa s1 ⊢;clear we;have pt:=cO (jh j st.S) (.cons sa .nil);obtain⟨D,d1,d2,d3⟩:=Ez (zC pt (λz hz=>by
    rcases ZC.mp hz with hz|hz
    ·exact st.gd.sb z (List.mem_of_mem_take hz)
    ·rw[Zq]at hz;rw[hz];exact sbb)) (by simp)
   obtain⟨y4,y5,_⟩:=bj (ns:=[]) e1 .nil;refine⟨D,cM [],d3 _ eb,y4,d1,y5,_,rfl,?_⟩;rw[d2];refine bn ?_;have lb:((sts.take j++[sB]).map V.ref).length=j+1:=by rw[Ze,Zn,ZS];show min j sts.length+1=j+1;omega
   refine⟨_,rfl,_,rfl,_,rfl,bd,_,rfl,.inl (JG eb),_,_,rfl,rfl,_,rfl,L,_,rfl,JG st.L,λLs gLs=>?_⟩;rw[show(((sts.take j++[sB]).map V.ref).length:Int)-1=(j:Int) by rw[lb];omega,Am (by rw[Ze];omega),<-List.map_drop];have ws:=af gLs (.lst ((sts.drop j).map V.ref));refine⟨bd,Ls,_,_,rfl,rfl,ws _ _ eb,ac,bD (by rw[lb,Ze,YI];omega),λLb gLb=>?_⟩;have wb:=af gLb (.lst ((sts.take j++[sB]).map V.ref++(sts.drop j).map V.ref));have s2:=ws.trans wb;have eLb:upd (upd Hc Ls (.lst ((sts.drop j).map V.ref))) Lb (.lst ((sts.take j++[sB]).map V.ref++(sts.drop j).map V.ref)) Lb=some (.lst ((sts.take j++([sB]++sts.drop j)).map V.ref)):=by rw[ac,<-ZN,List.append_assoc]
   generalize upd (upd Hc Ls (.lst ((sts.drop j).map V.ref))) Lb (.lst ((sts.take j++[sB]).map V.ref++(sts.drop j).map V.ref))=Hd at eLb s2 ⊢;refine⟨Lb,sts.take j,sts.drop j,ss.take j,some (sB,s,o),rfl,eLb,StsAt.ts (jh j st.S) (JE s2),st.gd.take j,by rw[ZS];omega,nofun,(λe z=>by cases z;exact⟨sa.ts (JE s2),du,no⟩),λHe s3=>⟨false,false,rfl,rfl,_,rfl,aw (lst _ (s1.trans (s2.trans s3)))⟩⟩
end
def mY:Nat->(Jn->Prop)->Prop
 |0,p=>p []
 |n+1,p=>∀a,mY n λus=>p (a::us)
theorem iu:∀{n:Nat} {p:Jn->Prop},mY n p->∀us:Jn,us.length=n->p us
 |0,_,h,[],_=>h
 |_+1,_,h,a::us,e=>iu (h a) us (Nat.succ.inj e)
section
variable{P:Jt}{w:Jx}{K:W.Frag}{mg:Ji}{base h:JB}{n m x q:Str}{st:JA}{C f:Jy}{k:Nat}{ps:Jr}{sp:Sp}{bm:Jn}
structure Bx(P:Jt)(w:Jx)(K:W.Frag)(mg:Ji)(base h:JB):Prop where
 X:K.In h
 G:h.Ns mainGlobals mg
def A1(K:W.Frag)(n:Str)(st:JA)(f:Jy):Prop:=W.nsIn K mainGlobals n=some (some (.ref f))/\∃fd,Fun K n n st f fd
def A2(K:W.Frag)(C:Jy)(m q:Str)(st:JA)(f:Jy):Prop:=W.findIn K (.ref C) m=some (some (.ref f))/\W.isFn K (.ref f)=true/\∃fd,Fun K m q st f fd
def AF(K:W.Frag):List (Str×JA×Jy)->Prop
 | []=>True
 |(n,st,f)::l=>A1 K n st f/\AF K l
def AM(K:W.Frag):List (Jy×Str×Str×JA×Jy)->Prop
 | []=>True
 |(C,m,q,st,f)::l=>A2 K C m q st f/\AM K l
def AN(p:Str->Prop):Jr->Prop
 | []=>True
 |n::l=>p n/\AN p l
theorem anI{p p':Str->Prop}(i:∀{n},p n->p' n):∀{l:Jr},AN p l->AN p' l
 | [],_=>True.intro
 |_::_,h=>⟨i h.1,anI i h.2⟩
theorem gf{l:List (Str×JA×Jy)}{oc kV dc pm cd ct:Jw}{od an:Option Jy}{sl:Array Jl}(a:W.nsIn K mainGlobals n=some (some (.ref f)))(b:K.lookup f=some ⟨oc,od,.func (W.fnOf n n (dg st) (bP st) (aj st) .none kV dc pm an cd ct),sl⟩)(c:W.codeIn K cd n=true)(d:W.keepIn K (.ref f)=true)(r:AF K l):AF K ((n,st,f)::l):=⟨⟨a,_,yl b c d⟩,r⟩
theorem gm{l:List (Jy×Str×Str×JA×Jy)}{oc kV dc pm cd ct:Jw}{od an:Option Jy}{sl:Array Jl}(a:W.findIn K (.ref C) m=some (some (.ref f)))(i:W.isFn K (.ref f)=true)(b:K.lookup f=some ⟨oc,od,.func (W.fnOf m q (dg st) (bP st) (aj st) .none kV dc pm an cd ct),sl⟩)(c:W.codeIn K cd q=true)(d:W.keepIn K (.ref f)=true)(r:AM K l):AM K ((C,m,q,st,f)::l):=⟨⟨a,i,_,yl b c d⟩,r⟩
theorem gn{l:Jr}(a:W.nsIn K mainGlobals n=some none)(r:AN (λn=>W.nsIn K mainGlobals n=some none) l):AN (λn=>W.nsIn K mainGlobals n=some none) (n::l):=⟨a,r⟩
theorem mkF(B:Bx P w K mg base h)(A:A1 K n st f)(ok:∀{fd},Fun K n n st f fd->FnOk P w K mg base CX0 k f fd ps sp)(hb:∀(kV doc pm:Jw) (an:Option Jy) (cdv ct:Jw),mY ps.length λus=>bindArgs (W.fnOf n n (dg st) (bP st) (aj st) .none kV doc pm an cdv ct) ⟨us,[]⟩=pure (ps.zip us):=by(repeat intro _);rfl):Fn P w K mg base k n ps sp:=by obtain⟨a,fd,F⟩:=A;exact⟨f,fd,ok F,y8 B.X B.G a,F.kp,F.binds λa b c d e g=>iu (hb a b c d e g)⟩
theorem mkM(B:Bx P w K mg base h)(L:Cls K C)(A:A2 K C m q st f)(ok:∀{fd},Fun K m q st f fd->FnOk P w K mg base CX0 k f fd ps sp)(hb:∀(kV doc pm:Jw) (an:Option Jy) (cdv ct:Jw),mY ps.length λus=>bindArgs (W.fnOf m q (dg st) (bP st) (aj st) .none kV doc pm an cdv ct) ⟨us,[]⟩=pure (ps.zip us):=by(repeat intro _);rfl):MFn P w K mg base k C m ps sp:=by obtain⟨a,i,fd,F⟩:=A;exact⟨L,f,fd,ok F,⟨a,i,F.kp⟩,F.binds λa b c d e g=>iu (hb a b c d e g)⟩
theorem mkX(B:Bx P w K mg base h)(L:Cls K C)(A:A2 K C m q st f)(ok:∀{fd},Fun K m q st f fd->FnOk P w K mg base (CXr P w) k f fd ps sp)(hb:∀(kV doc pm:Jw) (an:Option Jy) (cdv ct:Jw),mY ps.length λus=>bindArgs (W.fnOf m q (dg st) (bP st) (aj st) .none kV doc pm an cdv ct) ⟨us,[]⟩=pure (ps.zip us):=by(repeat intro _);rfl):MFnX P w K mg base k C m ps sp:=by obtain⟨a,i,fd,F⟩:=A;exact⟨L,f,fd,ok F,⟨a,i,F.kp⟩,F.binds λa b c d e g=>iu (hb a b c d e g)⟩
theorem mkC(B:Bx P w K mg base h)(L:Cls K C)(g:mg x=some (.ref C))(mk:W.makesIn K C=true)(kc:W.keepIn K (.ref C)=true)(A:A2 K C "__init__" q st f)(ok:∀{fd},Fun K "__init__" q st f fd->FnOk P w K mg base CX0 k f fd ps sp)(hb:∀(kV doc pm:Jw) (an:Option Jy) (cdv ct:Jw),mY ps.length λus=>bindArgs (W.fnOf "__init__" q (dg st) (bP st) (aj st) .none kV doc pm an cdv ct) ⟨us,[]⟩=pure (ps.zip us):=by(repeat intro _);rfl):MkFn P w K mg base k C x ps sp:=by obtain⟨a,i,fd,F⟩:=A;exact⟨L,g,f,fd,ok F,⟨mk,a,i,kc⟩,F.binds λa b c d e g=>iu (hb a b c d e g)⟩
theorem mkE(B:Bx P w K mg base h)(e:ExcAtI K C f bm)(A:A2 K C m q st f)(ok:∀{fd},Fun K m q st f fd->FnOk P w K mg base CX0 k f fd ps sp)(hb:∀(kV doc pm:Jw) (an:Option Jy) (cdv ct:Jw),mY ps.length λus=>bindArgs (W.fnOf m q (dg st) (bP st) (aj st) .none kV doc pm an cdv ct) ⟨us,[]⟩=pure (ps.zip us):=by(repeat intro _);rfl):ExI P w K mg base k C bm ps sp:=by obtain⟨a,i,fd,F⟩:=A;exact⟨f,fd,e,ok F,F.binds λa b c d e g=>iu (hb a b c d e g)⟩
end
theorem D4{l:W.OpenLaw}{w:Jx}{K:W.Frag}{h:JB}{mg:Ji}{fa f1 f2 f3 f4 f5 f6 f7 f8 f9 f10 f11 f12 f13 f14 f15 f16 f17 f18 f19 m1 m2 m3 m4 m5 m6 m7 m8 m9 m10 m11 m12 m13 m14 m15 m16 m17 m18:Jy}{C_Plain:Jy}(X:K.In h)(G:h.Ns mainGlobals mg)(hfa:mg "law" = some (.ref fa)){Jc:Tok}{Je:Tok}{Ja:Tok}{n8:Jy}{i8:Jy}{c_NoItem c_LimbError c_Taken c_Beneath c_Far c0 T:Jy}(Iu:W.nsIn K mainGlobals "Plain" = some (some (.ref C_Plain)))(Iw:W.plainGet K C_Plain Str.empty=true)(Ix:W.hasDictIn K C_Plain=true)(Iy:W.plainOver K C_Plain=true)(Iz:W.findIn K (.ref C_Plain) "__setattr__" = some (some (.builtin "object.__setattr__")))(IA:W.makesIn K C_Plain=true)(IB:W.keepIn K (.ref C_Plain)=true)(t0:W.findIn K (.ref C_Plain) "held" = some none)(u0:W.findIn K (.ref C_Plain) "away" = some none)(Im:W.nsIn K mainGlobals "NoItem" = some (some (.ref c_NoItem)))(IC:W.nsIn K mainGlobals "Taken" = some (some (.ref c_Taken)))(Ig:W.nsIn K mainGlobals "Beneath" = some (some (.ref c_Beneath)))(IQ:W.nsIn K mainGlobals "Far" = some (some (.ref c_Far)))(u4:W.nsIn K mainGlobals "LimbError" = some (some (.ref c_LimbError)))(zF:AF K (("step_parts",iQ,f1)::("lets_by",lT,f2)::("_law_cell_at",lS,f3)::("_law_place",qu,f4)::("_law_is_in",qt,f5)::("_law_text",tG,f6)::("_law_name",tz,f7)::("_law_step",tE,f8)::("_law_due",xt,f9)::("_law_apply",qr,f10)::("_law_refusal",lU,f11)::("_law_row_right",jB,f12)::("_law_groups",nR,f13)::("_law_in_order",kG,f14)::("_law_as_kept",lQ,f15)::("_law_told",tH,f16)::("_law_own_lists",jA,f17)::("_law_is_under",kH,f18)::("law",mE,f19)::[]))(zM:AM K ((c_NoItem,"__init__","NoItem.__init__",hZ,m1)::(C_Plain,"__init__","Plain.__init__",iM,m2)::(C_Plain,"item","Plain.item",iN,m3)::(C_Plain,"bring_in","Plain.bring_in",fG,m4)::(C_Plain,"change","Plain.change",gI,m5)::(C_Plain,"check_names","Plain.check_names",dS,m6)::(C_Plain,"at_or_beneath","Plain.at_or_beneath",dB,m7)::(C_Plain,"check_bounds","Plain.check_bounds",dG,m8)::(C_Plain,"part_item","Plain.part_item",eZ,m9)::(C_Plain,"join_items","Plain.join_items",eG,m10)::(C_Plain,"step","Plain.step",iP,m11)::(C_Plain,"names","Plain.names",ie,m12)::(C_Plain,"sorted_names","Plain.sorted_names",cR,m13)::(C_Plain,"lower_names","Plain.lower_names",dU,m14)::(C_Plain,"rows","Plain.rows",iO,m15)::(C_Plain,"is_gone","Plain.is_gone",fX,m16)::(C_Plain,"beneath","Plain.beneath",fW,m17)::(C_Plain,"below","Plain.below",ic,m18)::[]))(zN:AN (λn=>W.nsIn K mainGlobals n=some none) ("len"::"list"::"zip"::"range"::"enumerate"::"tuple"::"int"::"str"::"bool"::"max"::"sorted"::"reversed"::"isinstance"::[]))(IR:W.nsIn K mainGlobals "TEXT" = some (some (.int 2 Jc)))(Jb:W.nsIn K mainGlobals "UP" = some (some (.int 0 Je)))(IL:W.nsIn K mainGlobals "PLACE" = some (some (.int 1 Ja)))(u9:W.nsIn K mainGlobals "STEP_PARTS" = some (some (.ref n8)))(t_STEP_PARTS:PyProof.Rows.KTD.tabLook (lY K) (λb=>K.lookup b) n8 ST=true)(j8:W.nsIn K mainGlobals "FIRST_CHANGED" = some (some (.ref i8)))(t_FIRST_CHANGED:PyProof.Rows.KTD.tabLook (lY K) (λb=>K.lookup b) i8 FC=true)(Io:sG K c_NoItem m1=true)(Ip:∃c d cd sl,K.lookup c_NoItem=some ⟨c,d,.cls cd,sl⟩/\cd.mro=Value.ref c_NoItem::Value.ref c_LimbError::VE)(if_NoItem:∃oI,K.lookup m1=some oI/\oI.cls=.type "function")(x5:W.excIn K c_LimbError [.type "ValueError",.type "Exception",.type "BaseException",.type "object"] "ValueError.__new__" = true)(x6:∃c d cd sl,K.lookup c_LimbError=some ⟨c,d,.cls cd,sl⟩/\cd.mro=Value.ref c_LimbError::VE)(ID:W.excIn K c_Taken [.type "ValueError",.type "Exception",.type "BaseException",.type "object"] "ValueError.__new__" = true)(IE:∃c d cd sl,K.lookup c_Taken=some ⟨c,d,.cls cd,sl⟩/\cd.mro=Value.ref c_Taken::(Value.ref c_LimbError::VE))(Ih:W.excIn K c_Beneath [.type "ValueError",.type "Exception",.type "BaseException",.type "object"] "ValueError.__new__" = true)(Ii:∃c d cd sl,K.lookup c_Beneath=some ⟨c,d,.cls cd,sl⟩/\cd.mro=Value.ref c_Beneath::(Value.ref c_LimbError::VE))(IS:W.excIn K c_Far [.type "ValueError",.type "Exception",.type "BaseException",.type "object"] "ValueError.__new__" = true)(IT:∃c d cd sl,K.lookup c_Far=some ⟨c,d,.cls cd,sl⟩/\cd.mro=Value.ref c_Far::(Value.ref c_LimbError::VE))(aN:W.findIn K (.ref c_NoItem) "name" = some none)(s1:W.findIn K (.ref c_NoItem) "__setattr__" = some (some (.builtin "object.__setattr__")))(s2:((W.clsIn K c_NoItem).any λcd=>ph cd.mro&&cd.hasDict)=true)(tb1:L2.lV K "Plain" "sorted_names" = some (c0,T))(dN:W.hasDictIn K c_NoItem=true)(e1Taken:(W.clsIn K c_Taken).isSome=true)(e2Taken:W.findIn K (.ref c_Taken) "__getattribute__" = some (some (.builtin "BaseException.__getattribute__")))(e3Taken:W.findIn K (.ref c_Taken) "__getattr__" = some none)(e4Taken:W.findIn K (.ref c_Taken) "__class__" = some (some (.builtin "object.__class__")))(e5Taken:W.mroIn K c_Taken (.type "BaseException")=some true)(e6Taken:W.mroIn K c_Taken (.type "object")=some true)(e1NoItem:(W.clsIn K c_NoItem).isSome=true)(e2NoItem:W.findIn K (.ref c_NoItem) "__getattribute__" = some (some (.builtin "BaseException.__getattribute__")))(e3NoItem:W.findIn K (.ref c_NoItem) "__getattr__" = some none)(e4NoItem:W.findIn K (.ref c_NoItem) "__class__" = some (some (.builtin "object.__class__")))(e5NoItem:W.mroIn K c_NoItem (.type "BaseException")=some true)(e6NoItem:W.mroIn K c_NoItem (.type "object")=some true)(e1Beneath:(W.clsIn K c_Beneath).isSome=true)(e2Beneath:W.findIn K (.ref c_Beneath) "__getattribute__" = some (some (.builtin "BaseException.__getattribute__")))(e3Beneath:W.findIn K (.ref c_Beneath) "__getattr__" = some none)(e4Beneath:W.findIn K (.ref c_Beneath) "__class__" = some (some (.builtin "object.__class__")))(e5Beneath:W.mroIn K c_Beneath (.type "BaseException")=some true)(e6Beneath:W.mroIn K c_Beneath (.type "object")=some true)(e1Far:(W.clsIn K c_Far).isSome=true)(e2Far:W.findIn K (.ref c_Far) "__getattribute__" = some (some (.builtin "BaseException.__getattribute__")))(e3Far:W.findIn K (.ref c_Far) "__getattr__" = some none)(e4Far:W.findIn K (.ref c_Far) "__class__" = some (some (.builtin "object.__class__")))(e5Far:W.mroIn K c_Far (.type "BaseException")=some true)(e6Far:W.mroIn K c_Far (.type "object")=some true)(knT:W.kitOne K (.ref c_Taken) (.ref c_NoItem)=some false)(ktT:W.kitOne K (.ref c_Taken) (.ref c_Taken)=some true)(knN:W.kitOne K (.ref c_NoItem) (.ref c_NoItem)=some true)(knF:W.kitOne K (.ref c_Far) (.ref c_NoItem)=some false)(ktF:W.kitOne K (.ref c_Far) (.ref c_Taken)=some false)(kfF:W.kitOne K (.ref c_Far) (.ref c_Far)=some true)(knB:W.kitOne K (.ref c_Beneath) (.ref c_NoItem)=some false)(ktB:W.kitOne K (.ref c_Beneath) (.ref c_Taken)=some false)(kfB:W.kitOne K (.ref c_Beneath) (.ref c_Far)=some false)(kbB:W.kitOne K (.ref c_Beneath) (.ref c_Beneath)=some true)
  :∃fd:Jp,(∀(s:Ju) (v:Jw),BindsTo s fd ⟨[v],[]⟩ [("_law_script",v)])/\∀base:JB,K.In base->base.Ns mainGlobals mg->Blt base mg->W.CodeHd base c0 T->FnOk l.prog w K mg base CX0 10 fa fd ["_law_script"] (spLawT K T):=by
 obtain⟨Af1,Af2,Af3,Af4,Af5,Af6,Af7,Af8,Af9,Af10,Af11,Af12,Af13,Af14,Af15,Af16,Af17,Af18,⟨a0,_,F0⟩,_⟩:=zF;obtain⟨Am1,Am2,Am3,Am4,Am5,Am6,Am7,Am8,Am9,Am10,Am11,Am12,Am13,Am14,Am15,Am16,Am17,Am18,_⟩:=zM;obtain⟨a8,a9,IN,pi,Ia,IJ,j7,IX,g7,IW,i7,n9,a6,_⟩:=anI (p':=λn=>mg n=none) (λz=>W.mg_none_of X G z) zN;have e:=hfa.symm.trans (y8 X G a0);cases e;obtain⟨oc,od,kV,dc,pm,an,cd,ct,sl,rfl,l0,c0⟩:=id F0.ex;have c8:=y8 X G IR;have d8:=y8 X G Jb;have Ib:=y8 X G IL;have p7:=y8 X G u9;have j6:=y8 X G j8;have Jd:=y8 X G Iu;have c5:Cls K C_Plain:=⟨Iw,Ix,Iy,Iz⟩
 have a7:Txt K C_Plain:=⟨c5,t0,u0⟩
 have IU:Tab K n8 ST:=⟨t_STEP_PARTS⟩
 have IH:Tab K i8 FC:=⟨t_FIRST_CHANGED⟩
 have j9:=y8 X G Im;have IM:ExcAtI K c_NoItem m1 (Value.ref c_LimbError::VE):=⟨Io,Ip,by rw[YM];rfl,if_NoItem⟩
 have o7:=y8 X G IC;have i5:=y8 X G Ig;have Ir:=y8 X G IQ;have g9:=y8 X G u4;have Iq:ExcAt K c_LimbError VE:=⟨x5,x6,by decide⟩
 have IV:ExcAt K c_Taken (Value.ref c_LimbError::VE):=⟨ID,IE,by rw[YM];rfl⟩
 have II:ExcAt K c_Beneath (Value.ref c_LimbError::VE):=⟨Ih,Ii,by rw[YM];rfl⟩
 have IZ:ExcAt K c_Far (Value.ref c_LimbError::VE):=⟨IS,IT,by rw[YM];rfl⟩
 have sN:ExS K c_NoItem:=⟨s1,s2,e6NoItem⟩
 have er:ErsH K c_LimbError c_Taken c_NoItem c_Beneath c_Far _ _ _ _:=⟨jD IV,uI IM,jD II,jD IZ,by simp,by simp,by simp,by simp,⟨e1Taken,e2Taken,e3Taken,e4Taken,e5Taken,e6Taken⟩,⟨e1NoItem,e2NoItem,e3NoItem,e4NoItem,e5NoItem,e6NoItem⟩,⟨e1Beneath,e2Beneath,e3Beneath,e4Beneath,e5Beneath,e6Beneath⟩,⟨e1Far,e2Far,e3Far,e4Far,e5Far,e6Far⟩,knT,ktT,knN,knF,ktF,kfF,knB,ktB,kfB,kbB,dN,aN⟩
 refine⟨W.fnOf "law" "law" (dg mE) (bP mE) (aj mE) .none kV dc pm an cd ct,λs v=>.of_eq rfl,λbase _ _ Bl C=>?_⟩;have B:Bx l.prog w K mg base h:=⟨X,G⟩
 have p9:=mkF B Af1 λF=>rB F p7 IU;have Ij:=mkE B IM Am1 λF=>qg F sN aN;have k9:=mkC B c5 Jd IA IB Am2 λF=>rp F a7;have IO:=mkM B c5 Am3 λF=>rq F a7;have i6:=mkM B c5 Am4 λF=>mJ F a7;have d7:=mkM B c5 Am5 λF=>oZ F a7 a8;have k7:=mkX B c5 Am6 λF=>jK F a7 p9 IN (nj IV) o7 Ij j9;have c7:=mkM B c5 Am7 λF=>jp F a7 d8;have j5:=mkX B c5 Am8 λF=>jq F a7 c7 c8 a8 (nj II) i5 (nj IZ) Ir;have HY:=mkM B c5 Am9 λF=>lJ F a7 d7 i6 c8 d8 IW;have q0:=mkM B c5 Am10 λF=>kW F a7 d7 c8 d8 a9;have p5:=mkX B c5 Am11 λF=>qj F a7 k7 j5 i6 HY q0 d7 j6 IH;have p6:=mkM B c5 Am12 λF=>qi F a7 a9;have d6:=mkM B c5 Am13 λF=>jL F (yk Iu Am13.1 F tb1) C Bl a7 Ib i7;have l8:=mkM B c5 Am14 λF=>kz F a7 d6 d8;have Ic:=mkM B c5 Am15 λF=>rA F a7 l8 c8 n9 a8;have i9:=mkM B c5 Am16 λF=>nL F a7 d8;have Ik:=mkM B c5 Am17 λF=>nJ F a7 c7 d8;have k8:=mkM B c5 Am18 λF=>qh F a7 d6 i9 d8;have HX:=mkF B Af2 λF=>xf F k9 p5 er (jD Iq) g9;have x8:=mkF B Af3 λF=>xa F a8;have p4:=mkF B Af4 λF=>AU F;have g8:=mkF B Af5 λF=>AT F;have IG:=mkF B Af6 λF=>CN F pi;have IF:=mkF B Af7 λF=>CL F a8;have IP:=mkF B Af8 λF=>CM F IF p4 IG a8 j7;have IY:=mkF B Af9 λF=>EL F g8 a8;have IK:=mkF B Af10 λF=>AR F;have Il:=mkF B Af11 λF=>xh F p5 er (jD Iq) g9 j9 o7 Ir i5 a6 j7;have HZ:=mkF B Af12 λF=>sW F a6 IX g7 j7;have Iv:=mkF B Af13 λF=>yS F a6 IJ g7 a8 HZ;have Id:=mkF B Af14 λF=>uh F pi a8;have x9:=mkF B Af15 λF=>wZ F g8 i9 IO k8 Ic p6 Iv Id a6 g7 a9 i7;have r9:=mkF B Af16 λF=>CO F p6 Ic k8;have l7:=mkF B Af17 λF=>sV F r9 a9;have Ie:=mkF B Af18 λF=>uk F g8 Ik a9 a8 a6 g7;exact EM F0 x8 IP IY Il IK Ie x9 l7 r9 HX k9 Ia a8 a9
theorem HW{l:W.OpenLaw}{q:Jt}{loose:Jr}{XP:(Ji)->JB->Prop}{YP:Jx->JB->Prop}{d:DefRec}{K:Params->W.Frag}{c0 T:Jy}(hn:l.most=some 63)(hdf:d.params.defaults=[])(hY:∀ (w:Jx) (h:JB),YP w h->(K w.params).In h)(tb:∀ w:Jx,L2.lV (K w.params) "Plain" "sorted_names" = some (c0,T))(ht:∀ (w:Jx) (h:JB),YP w h->W.CodeHd h c0 T/\h.get? T=some (W.tabObj #[]))(nt:∀ w:Jx,W.noTabs (K w.params)=true)(F:∀ (w:Jx) (mg:Ji) (fa:Jy) (h:JB),(K w.params).In h->h.Ns mainGlobals mg->mg d.name=some (.ref fa) ->
   ∃ fd:Jp,(∀ (s:Ju) (u:Jw),BindsTo s fd ⟨[u],[]⟩ [("_law_script",u)])/\∀ base:JB,(K w.params).In base->base.Ns mainGlobals mg->Blt base mg->W.CodeHd base c0 T->FnOk l.prog w (K w.params) mg base CX0 10 fa fd ["_law_script"] (spLawT (K w.params) T)) :
  W.WalkO q loose XP YP l.row.toRowW d [] (λf vs=>PySem.call f vs) :=
 L2.xE (n:=63) (k:=10) (x:="_law_script") (tabs:=λ_=>[(c0,T)]) (sp:=λw=>spLawT (K w.params) T) hn (by decide) hdf ⟨rfl,by decide,by decide⟩ hY (λw h y t htm=>by rw[Zq.mp htm];exact ht w h y) nt
  (λw mg fa h k g e=>let⟨fd,b,r⟩:=F w mg fa h k g e;⟨fd,b,λbase k2 g2 bl cs=>r base k2 g2 bl (cs _ (Zq.mpr rfl))⟩) (λw H a ns hl hT hS=>⟨a,ns,rfl,hS,hl,hT _ (Zq.mpr rfl),λ_=>rfl⟩)
end K27
namespace PySem.W.Fast
def tw10972311100788534584:=()
def tw2916124745092381353:=()
def tw12150658781289760159:=()
def tw4229509558696614670:=()
def tw279929819364993540:=()
def tw15351370002341770623:=()
def tw8187037458571936163:=()
def tw16172937895208339684:=()
def tw17220302065841286650:=()
def tw16325793466744436573:=()
def tw11482281863571938087:=()
def tw12312164985066624081:=()
def tw12972153930635156620:=()
def tw16437091225052244570:=()
def tw14005853107597129525:=()
def tw17128398313650583964:=()
def tw9163121101453362329:=()
def tw8995219340059545010:=()
def tw8744151079023040934:=()
def tw2836220914965642324:=()
def tw17128290761481801209:=()
def tw5410772876262474480:=()
def tw2797863444566819547:=()
def tw9223353212803360389:=()
def tw9667980232703522646:=()
def tw11588676470132395331:=()
def tw10671273078642936474:=()
def tw7254681360867100730:=()
def tw1685306304846043658:=()
def tw6285180722101484055:=()
def tw9124819330721202304:=()
def tw3987991935940987350:=()
def tw12357743254945399349:=()
def tw10032047045206515264:=()
def tw4639484885689746553:=()
def tw2596532553793749170:=()
def tw2467192921055591340:=()
def tw6176200982461976047:=()
def tw9474177443550351499:=()
def tw14138895811333626496:=()
def tw6238000224826964618:=()
def tw17360140360679798900:=()
def tw2120421406694501725:=()
def tw17762588676695122048:=()
def tw624562848150271300:=()
def tw68482777121191306:=()
def tw11164926040487074820:=()
def tw11152509748854952052:=()
def tw3864905802203447270:=()
def tw10581447543484394896:=()
def tw8284044696658342478:=()
end PySem.W.Fast
open PySem PySem.W PyProof.Rows
set_option maxRecDepth 100000 in
set_option maxHeartbeats 0 in
theorem PySem.Challenge.cw_limb_k27_whole_plain_outline_holds : PySem.Challenge.rw_limb_k27_whole_plain_outline.Holds := by
  w_on; o_law; k_head; (case hw => w_witness2)
  k_fill
  refine' K27.HW (l := PySem.Challenge.rw_limb_k27_whole_plain_outline) rfl rfl (λw h Y => W.km_in_of Y) ?tb ?ht ?nt ?F
  case tb => intro w; with_unfolding_all rfl
  case ht => intro w h Y; exact ⟨codeHd_of_K (km_in_of Y) (by kernel_rfl), km_tabs_of Y _ (by k_mem)⟩
  case nt => intro w; kernel_rfl
  case F =>
    intro w mg fa h KX G hmg
    refine' K27.D4 KX G hmg ?Iu ?Iw ?Ix ?Iy ?Iz ?IA ?IB ?t0 ?u0 ?Im ?IC ?Ig ?IQ ?u4 ?zF ?zM ?zN ?IR ?Jb ?IL ?u9 ?t_STEP_PARTS ?j8 ?t_FIRST_CHANGED ?Io ?Ip ?if_NoItem ?x5 ?x6 ?ID ?IE ?Ih ?Ii ?IS ?IT ?aN ?s1 ?s2 ?tb1 ?dN ?e1Taken ?e2Taken ?e3Taken ?e4Taken ?e5Taken ?e6Taken ?e1NoItem ?e2NoItem ?e3NoItem ?e4NoItem ?e5NoItem ?e6NoItem ?e1Beneath ?e2Beneath ?e3Beneath ?e4Beneath ?e5Beneath ?e6Beneath ?e1Far ?e2Far ?e3Far ?e4Far ?e5Far ?e6Far ?knT ?ktT ?knN ?knF ?ktF ?kfF ?knB ?ktB ?kfB ?kbB
    (case Iu => k_is)
    (case Iw => k_is)
    (case Ix => k_is)
    (case Iy => k_is)
    (case Iz => k_is)
    (case IA => k_is)
    (case IB => k_is)
    (case t0 => k_is)
    (case u0 => k_is)
    (case Im => k_is)
    (case IC => k_is)
    (case Ig => k_is)
    (case IQ => k_is)
    (case u4 => k_is)
    (case zF => (repeat refine K27.gf (by k_is) (by k_is) (by k_is) (by k_is) ?_); exact True.intro)
    (case zM => (repeat refine K27.gm (by k_is) (by k_is) (by k_is) (by k_is) (by k_is) ?_); exact True.intro)
    (case zN => (repeat refine K27.gn (by k_is) ?_); exact True.intro)
    (case IR => k_is)
    (case Jb => k_is)
    (case IL => k_is)
    (case u9 => k_is)
    (case t_STEP_PARTS => rfl)
    (case j8 => k_is)
    (case t_FIRST_CHANGED => rfl)
    (case Io => kernel_rfl)
    (case Ip => exact ⟨_, _, _, _, rfl, rfl⟩)
    (case if_NoItem => exact ⟨_, rfl, rfl⟩)
    (case x5 => k_exc)
    (case x6 => exact ⟨_, _, _, _, rfl, rfl⟩)
    (case ID => k_exc)
    (case IE => exact ⟨_, _, _, _, rfl, rfl⟩)
    (case Ih => k_exc)
    (case Ii => exact ⟨_, _, _, _, rfl, rfl⟩)
    (case IS => k_exc)
    (case IT => exact ⟨_, _, _, _, rfl, rfl⟩)
    (case aN => k_is)
    (case s1 => k_is)
    (case s2 => rfl)
    (case tb1 => with_unfolding_all rfl)
    (case dN => rfl)
    (case e1Taken => rfl)
    (case e2Taken => k_is)
    (case e3Taken => k_is)
    (case e4Taken => k_is)
    (case e5Taken => k_is)
    (case e6Taken => k_is)
    (case e1NoItem => rfl)
    (case e2NoItem => k_is)
    (case e3NoItem => k_is)
    (case e4NoItem => k_is)
    (case e5NoItem => k_is)
    (case e6NoItem => k_is)
    (case e1Beneath => rfl)
    (case e2Beneath => k_is)
    (case e3Beneath => k_is)
    (case e4Beneath => k_is)
    (case e5Beneath => k_is)
    (case e6Beneath => k_is)
    (case e1Far => rfl)
    (case e2Far => k_is)
    (case e3Far => k_is)
    (case e4Far => k_is)
    (case e5Far => k_is)
    (case e6Far => k_is)
    (case knT => rfl)
    (case ktT => rfl)
    (case knN => rfl)
    (case knF => rfl)
    (case ktF => rfl)
    (case kfF => rfl)
    (case knB => rfl)
    (case ktB => rfl)
    (case kfB => rfl)
    (case kbB => rfl)
