import PyProof.Rows.All
import Wide.All
import OpenK.AllK
import Wide.FinOn
import PyProof.EqAt
import PyProof.EqKinds
import PyProof.TupleCall
import Lean
import PySem.Challenge.RW_limb_k21_twins_when_stores_meet
def Jv:=@if_pos
def Ju:=@if_neg
def z6:=@PySem.wpAny_bind
def z9:=@PySem.Heap.get?_push_of_some
def Za:=@PySem.wpAny_pure
def Zb:=@List.length_map
def Zd:=@List.getElem?_eq_getElem
def Ze:=@Nat.le_refl
def Zf:=@List.getD_eq_getElem?_getD
def Zg:=@List.length_append
def Zh:=@Array.length_toList
def Zi:=@List.mem_map
def Zj:=@List.size_toArray
def Zk:=@PySem.Heap.get?_push_size
def Zl:=@PyProof.Rows.wpS_bind
def Zm:=@List.length_cons
def Zn:=@PySem.Heap.lt_size
def Zo:=@List.mem_singleton
def Zq:=@PyProof.Rows.wpS_pure
def Zr:=@Bool.false_ne_true
def Zs:=@List.mem_cons
def Zt:=@List.mem_append
def Zu:=@List.pairwise_iff_getElem
def Zv:=@Nat.ne_of_lt
def Zw:=@Nat.lt_of_lt_of_le
def Zx:=@List.append_nil
def Zy:=@List.map_append
def Zz:=@Bool.and_eq_true
def ZA:=@List.getElem_mem
def ZB:=@List.getElem?_map
def ZC:=@List.mem_cons_of_mem
def ZD:=@List.mem_append_right
def ZE:=@Option.some.inj
def ZF:=@List.length_take
def ZG:=@List.mem_iff_getElem
def ZH:=@List.getElem?_eq_some_iff
def ZI:=@List.append_assoc
def ZJ:=@of_decide_eq_true
def ZK:=@PySem.Heap.SameBut.update
def ZL:=@List.mem_filter
def ZM:=@Array.toList_append
def ZN:=@List.pairwise_append
def ZO:=@PySem.boot_len
def ZP:=@List.take_sublist
def ZQ:=@PySem.wpAny_newObj_type
def ZR:=@PySem.wpAny_call_entry
def ZS:=@PySem.wpAny_callSpecial?_slot
def ZT:=@Nat.zero_le
def ZU:=@Array.getD_eq_getD_getElem?
def ZV:=@List.mem_range
def ZW:=@List.length_singleton
def ZX:=@PySem.wpAny_mono
def ZY:=@List.not_mem_nil
def ZZ:=@Nat.le_trans
def Z0:=@List.map_cons
def Z1:=@List.lookup_cons
def Z2:=@PySem.wpAny_field
def Z3:=@List.getElem?_append_right
def Z4:=@PySem.wpAny_holding
def Z5:=@List.mem_append_left
def Z6:=@Nat.lt_or_ge
def Z7:=@Int.toNat_natCast
def Z8:=@List.pairwise_map
def Z9:=@List.mem_cons_self
def y0:=@List.length_filter_le
def y3:=@List.take_append_drop
def y4:=@beq_iff_eq
def y6:=@List.all_eq_true
def y7:=@Bool.eq_false_iff
def y8:=@List.mem_of_getElem?
def y9:=@List.take_of_length_le
def Ya:=@List.length_drop
def Yb:=@List.take_length
def Yc:=@Nat.add_sub_cancel_left
def Yd:=@PySem.wpAny_truthy_bool
def Ye:=@PySem.Obj.data_mapFields
def Yf:=@List.length_set
def Yg:=@Nat.ne_of_gt
def Yh:=@PyProof.Rows.wpS_forRange
def Yi:=@PySem.Heap.get?_update_self
def Yj:=@PyProof.Rows.slot_tuple_getitem
def Yk:=@List.filter_cons_of_pos
def Yl:=@List.filter_cons_of_neg
def Ym:=@List.nodup_iff_pairwise_ne
def Yn:=@Nat.lt_of_le_of_lt
def Yo:=@List.filter_append
def Yp:=@List.map_map
def Yq:=@PySem.F.slot_dict_valueiterator_next
def Yr:=@PySem.PassesOwn.never
def Ys:=@Option.map_eq_some_iff
def Yt:=@PyProof.Rows.wpS_mono
def Yu:=@Array.map_append
def Yv:=@List.getElem?_append_left
def Yw:=@PySem.F.slot_dict_keyiterator_next
def Yx:=@Ne.symm
def Yy:=@PySem.W.kia_one
def Yz:=@Bool.false_eq_true
def YA:=@List.mem_of_mem_take
def YB:=@PySem.Heap.get?_update_other
def YC:=@PySem.wpAny_setField
def YD:=@List.flatten_cons
def YE:=@decide_eq_true_eq
def YF:=@List.drop_sublist
def YG:=@Bool.eq_iff_iff
def YH:=@PySem.wpAny_rule
def YI:=@or_false
def YJ:=@of_decide_eq_false
def YK:=@Nat.succ_le_succ
def YL:=@PySem.Paired.length
def YM:=@Nat.lt_irrefl
def YN:=@PySem.W.mg_of
def YO:=@Bool.false_and
def YQ:=@Array.size_map
def YR:=@PySem.wpAny_dictEntries
def YS:=@Nat.le_succ_of_le
def YT:=@PyProof.Rows.callWith_type1
def YU:=@PySem.mem_of_lookup
def YV:=@List.filter_eq_nil_iff
def YW:=@Array.perm_iff_toList_perm
def YX:=@List.sum_cons
def YY:=@if_false
def YZ:=@PySem.F.slot_tuple_iterator_next
def Y0:=@PySem.Heap.size_push
def Y1:=@List.length_replicate
def Y2:=@PySem.wpAny_seqItems
def Y3:=@PySem.Obj.isFreed_of_fields
def Y4:=@List.mem_of_find?_eq_some
def Y5:=@PySem.Heap.get?_none_of_le
def Y6:=@List.find?_cons
def Y7:=@PySem.AutoSeq1.wpAny_loadPart'
def Y8:=@Nat.min_eq_left
def Y9:=@List.length_range
def x5:=@PySem.wpAny_loadPart_at
def x6:=@List.getElem_take
def x8:=@PySem.sizeLine_eq
def x9:=@Bool.true_and
def Xa:=@PySem.wpAny_typeNameOfWhole_keyiter
def Xb:=@PySem.wpAny_typeNameOfWhole_valiter
def Xc:=@List.replicate_succ
def Xd:=@List.toList_toArray
def Xe:=@List.drop_of_length_le
def Xf:=@PySem.wpAny_pyIter_tuple
def Xg:=@PySem.wpAny_Call_Name_kw
def Xh:=@List.find?_eq_none
def Xi:=@List.nil_append
def Xj:=@Array.getElem?_toList
def Xk:=@Int.emod_nonneg
def Xl:=@Nat.lt_succ_of_lt
set_option Elab.async false
set_option linter.all false
set_option maxRecDepth 100000
set_option maxHeartbeats 2000000
local macro_rules | `(tactic| omega) => `(tactic| first | with_reducible first | assumption | exact Nat.le_of_lt (by assumption) | exact Nat.le_refl _ | exact Nat.lt_add_one _ | exact Nat.le_trans (by assumption) (by decide) | exact Nat.lt_of_lt_of_le (by assumption) (by decide) | exact Nat.sub_lt_sub_left (by assumption) (Nat.lt_add_one _) | exact Nat.le_antisymm (by assumption) (Nat.le_of_not_lt (by assumption)) | lia)
namespace L2
open PySem PySem.Spec PyProof.Rows
abbrev Key:=Sum Int Str
def kl:Key->Value->Bool
 |.inl k,v=>Value.isInt k v
 |.inr x,v=>Value.isStrOf x v
def HY(w:World):Key->Int
 |.inl k=>hashInt k
 |.inr x=>hashStr w x
theorem bI:∀{k:Key} {v:Value},kl k v=true->(∃i t,k=Sum.inl i/\v=Value.int i t)\/(∃x t,k=Sum.inr x/\v=Value.str x t)
 |.inl i,v,h=>by obtain⟨t,e⟩:=Value.isInt_shape (k:=i) (v:=v) h;exact .inl ⟨i,t,rfl,e⟩
 |.inr x,v,h=>by obtain⟨t,e⟩:=Value.isStrOf_shape (x:=x) (v:=v) h;exact .inr ⟨x,t,rfl,e⟩
theorem yO(i:Int)(t:Tok):kl (.inl i) (.int i t)=true:=by simp[kl,Value.isInt]
theorem yP(x:Str)(t:Tok):kl (.inr x) (.str x t)=true:=by simp[kl,Value.isStrOf]
theorem ET(a b:Int):decide ((Sum.inl a:Key)=Sum.inl b)=(a==b):=by
 by_cases e:a=b
 ·subst e;simp
 ·have h:¬(Sum.inl a:Key)=Sum.inl b:=fun q=>e (Sum.inl.inj q);rw[decide_eq_false h];exact(beq_eq_false_iff_ne.mpr e).symm
theorem EW(a b:Str):decide ((Sum.inr a:Key)=Sum.inr b)=decide (a=b):=by
 by_cases e:a=b
 ·subst e;simp
 ·have h:¬(Sum.inr a:Key)=Sum.inr b:=fun q=>e (Sum.inr.inj q);rw[decide_eq_false h,decide_eq_false e]
theorem EU(a:Int)(b:Str):decide ((Sum.inl a:Key)=Sum.inr b)=false:=decide_eq_false (fun q=>nomatch q)
theorem EV(a:Str)(b:Int):decide ((Sum.inr a:Key)=Sum.inl b)=false:=decide_eq_false (fun q=>nomatch q)
def bO(prog:Program)(w:World):PySem.KeyKind prog w Key where
 is:=kl
 hash:=HY w
 inj:=fun v a b ha hb=>by
  rcases bI ha with⟨i,t,rfl,rfl⟩|⟨x,t,rfl,rfl⟩
  ·rcases bI hb with⟨j,u,rfl,e⟩|⟨y,u,rfl,e⟩
   ·injection e with e1 _;rw[e1]
   ·exact nomatch e
  ·rcases bI hb with⟨j,u,rfl,e⟩|⟨y,u,rfl,e⟩
   ·exact nomatch e
   ·injection e with e1 _;rw[e1]
 byValue:=fun k v h=>by rcases bI h with⟨i,t,rfl,rfl⟩|⟨x,t,rfl,rfl⟩<;>rfl
 pyHash:=fun hv h=>by
  rcases bI hv with⟨i,t,rfl,rfl⟩|⟨x,t,rfl,rfl⟩
  ·exact wpAny_pyHash_int h
  ·exact wpAny_pyHash_str h
 eqBool:=fun hu hv h=>by
  rcases bI hu with⟨i,t,rfl,rfl⟩|⟨x,t,rfl,rfl⟩
  ·rcases bI hv with⟨j,u,rfl,rfl⟩|⟨y,u,rfl,rfl⟩
   ·rw[ET]at h;exact wpAny_eqBool_int h
   ·rw[EU]at h;exact SeqAt.EqAt.int_str i t y u _ _ _ _ h
  ·rcases bI hv with⟨j,u,rfl,rfl⟩|⟨y,u,rfl,rfl⟩
   ·rw[EV]at h;exact SeqAt.EqAt.str_int x t j u _ _ _ _ h
   ·rw[EW]at h;exact wpAny_eqBool_str h
 «strs»:=fun k x t v h=>by
  rcases bI h with⟨i,u,rfl,e⟩|⟨y,u,rfl,e⟩
  ·exact nomatch e
  ·injection e with e1 _;subst e1;cases v<;>rfl
theorem ux(prog:Program)(w:World)(i:Int)(t:Tok):(bO prog w).is (.inl i) (.int i t)=true:=yO i t
theorem uy(prog:Program)(w:World)(x:Str)(t:Tok):(bO prog w).is (.inr x) (.str x t)=true:=yP x t
open PySem PySem.Spec PyProof.Rows
inductive V where
 |non|bl (b:Bool)|int (i:Int)|str (x:Str)|byt (b:Array UInt8)|flt (b:UInt64)|ref (a:Addr)|ty (n:String)
 deriving DecidableEq
def RelV:V->Value->Prop
 |.non,u=>u=Value.none
 |.bl b,u=>u=Value.bool b
 |.int i,u=>∃t,u=Value.int i t
 |.str x,u=>∃t,u=Value.str x t
 |.byt b,u=>∃t,u=Value.bytes b t
 |.flt b,u=>∃t,u=Value.float b t
 |.ref a,u=>u=Value.ref a
 |.ty n,u=>u=Value.type n
abbrev Vals:List V->List Value->Prop:=Paired RelV
theorem Vals.length{xs:List V}{us:List Value}(r:Vals xs us):xs.length=us.length:=YL r
theorem Vals.get:∀{xs:List V} {us:List Value} {i:Nat} {x:V},Vals xs us->xs[i]?=some x->∃u,us[i]?=some u/\RelV x u
 |_,_,_,_,.nil,e=>by simp at e
 |_,_,0,_,.cons r _,e=>by simp at e;subst e;exact⟨_,rfl,r⟩
 |_,_,i+1,x,.cons _ t,e=>by obtain⟨u,h1,h2⟩:=Vals.get (i:=i) (x:=x) t (by simpa using e);exact⟨u,by simpa using h1,h2⟩
theorem Vals.set{x:V}{u:Value}(r:RelV x u):∀{xs:List V} {us:List Value} (i:Nat),Vals xs us->Vals (xs.set i x) (us.set i u)
 |_,_,_,.nil=>.nil
 |_,_,0,.cons _ t=>.cons r t
 |_,_,i+1,.cons q t=>.cons q (Vals.set r i t)
theorem Vals.append:∀{xs ys:List V} {us ws:List Value},Vals xs us->Vals ys ws->Vals (xs++ys) (us++ws)
 |_,_,_,_,.nil,s=>s
 |_,_,_,_,.cons r t,s=>.cons r (Vals.append t s)
theorem Vals.take:∀{xs:List V} {us:List Value} (n:Nat),Vals xs us->Vals (xs.take n) (us.take n)
 |_,_,0,_=>.nil
 |_,_,_+1,.nil=>.nil
 |_,_,n+1,.cons r t=>.cons r (Vals.take n t)
theorem Vals.drop:∀{xs:List V} {us:List Value} (n:Nat),Vals xs us->Vals (xs.drop n) (us.drop n)
 |_,_,0,r=>r
 |_,_,_+1,.nil=>.nil
 |_,_,n+1,.cons _ t=>Vals.drop n t
def RelO:Option V->Option Value->Prop
 |some v,some u=>RelV v u
 |none,none=>True
 |_,_=>False
def KV{κ:Type}:List (κ×V)->List (κ×Value)->Prop:=Paired fun(p:κ×V) (q:κ×Value)=>p.1=q.1/\RelV p.2 q.2
def kV:Key->V
 |.inl i=>.int i
 |.inr x=>.str x
inductive HO where
 |lst (xs:List V)
 |tup (xs:List V)
 |dK (kvs:List (Key×V))|dT (kvs:List (List Key×V))
 |set (S:Int->Bool)(n:Nat)
 |ins (C dx:Addr)(fs:List (Str×V))
 |own (x:Addr)
 |xd (fs:List (Str×V))
 |met (f x:Addr)
 |rng (lo hi:Int)
 |frz (o:Obj)(u:HO)
 |tbl (ps:Array Value)
 |ext (φ:Heap->Prop)
abbrev Hp:=Addr->Option HO
def upd(H:Hp)(a:Addr)(o:HO):Hp:=fun b=>if b=a then some o else H b
theorem af{H:Hp}{a:Addr}{o:HO}:upd H a o a=some o:=by unfold upd;rw[Jv rfl]
theorem ad{H:Hp}{a b:Addr}{o:HO}(h:b≠a):upd H a o b=H b:=by unfold upd;rw[Ju h]
theorem Cp{H:Hp}{a b:Addr}{o u:HO}(h:H a=some o)(h':H b=some u)(d:o≠u):a≠b:=by intro e;subst e;rw[h]at h';exact d (ZE h')
theorem al{H:Hp}{a b:Addr}{o:HO}(h:H a=some o)(h':H b=none):a≠b:=by intro e;subst e;rw[h]at h';cases h'
section
variable(P:Program)(w:World)
def ObjOk(H:Hp)(h:Heap)(a:Addr):HO->Prop
 |.lst xs=>xs.length<=sizeLine/\∃(its:List Value) (n:Nat),Vals xs its/\h.get? a=some { cls:=.type "list",data:=.seq its.toArray n }
 |.tup xs=>xs.length<=sizeLine/\∃its:List Value,Vals xs its/\IsTup h a its.toArray
 |.dK kvs=>kvs.length<=sizeLine/\(a==sysModules)=false/\∃vs,KV kvs vs/\h.DictOf (bO P w) a vs
 |.dT kvs=>kvs.length<=sizeLine/\(a==sysModules)=false/\∃xs:List (List Key×Addr×Value),
   Paired (fun(p:List Key×V) (q:List Key×Addr×Value)=>p.1=q.1/\H q.2.1=some (.tup (p.1.map kV))/\RelV p.2 q.2.2) kvs xs /\
   ∃o es ep,h.get? a=some o/\o.ExactDict/\o.data=.dict es ep/\es.toList=xs.map (entryOfKey (tupleKind (bO P w)))/\(xs.map (·.1)).Nodup
 |.set S n=>h.SetOf (intKind P w) a S n
 |.ins C dx fs=>H dx=some (.own a)/\fs.length<=1000/\dx≠a/\h.get? a=some (PySem.W.instObj C dx) /\
   ∃mA,h.Ns1 dx mA/\(∀f,RelO (fs.lookup f) (mA f))/\PySem.Within mA (fs.map (·.1))
 |.own _=>∃o,h.get? a=some o
 |.xd fs=>∃mA,h.Ns1 a mA/\∀f,RelO (fs.lookup f) (mA f)
 |.rng lo hi=>∃t u v,h.get? a=some { cls:=.type "range",data:=.fields #[.int lo t,.int hi u,.int 1 v] }
 |.frz o u=>h.get? a=some o/\ObjOk H h a u
 |.tbl ps=>h.get? a=some { cls:=.none,data:=.fields ps }
 |.met f x=>h.get? a=some (PySem.W.methodObj (.ref f) (.ref x))
 |.ext φ=>φ h/\(∃o,h.get? a=some o)/\∀h1 h2:Heap,φ h1->(∀o,h1.get? a=some o->h2.get? a=some o)->φ h2
def HOk(H:Hp)(h:Heap):Prop:=∀a o,H a=some o->ObjOk P w H h a o
end
section
variable{P:Program}{w:World}{H H':Hp}{h h':Heap}{a:Addr}{o:HO}
theorem ObjOk.lt(x:ObjOk P w H h a o):a<h.objs.size:=by
 cases o with
 |lst xs=>obtain⟨_,_,_,_,e⟩:=x;exact Zn e
 |tup xs=>obtain⟨_,_,_,p⟩:=x;exact p.lt
 |dK kvs=>obtain⟨_,_,_,_,o,_,_,e,_⟩:=x;exact Zn e
 |dT kvs=>obtain⟨_,_,_,_,o,_,_,e,_⟩:=x;exact Zn e
 |set S n=>obtain⟨o,_,_,_,e,_⟩:=x;exact Zn e
 |ins C dx fs=>obtain⟨_,_,_,e,_⟩:=x;exact Zn e
 |own y=>obtain⟨_,e⟩:=x;exact Zn e
 |xd fs=>obtain⟨_,⟨_,_,_,e,_⟩,_⟩:=x;exact Zn e
 |rng lo hi=>obtain⟨_,_,_,e⟩:=x;exact Zn e
 |frz ob u=>obtain⟨e,_⟩:=x;exact Zn e
 |tbl ps=>exact Zn (show h.get? a=some _ from x)
 |met f y=>exact Zn (show h.get? a=some _ from x)
 |ext φ=>obtain⟨_,⟨_,e⟩,_⟩:=x;exact Zn e
theorem Paired.mapP{α β:Type}{F G:α->β->Prop}:∀{l₁:List α} {l₂:List β},Paired F l₁ l₂->(∀a b,F a b->G a b)->Paired G l₁ l₂
 |_,_,.nil,_=>.nil
 |_,_,.cons r t,f=>.cons (f _ _ r) (Paired.mapP t f)
theorem ObjOk.stay(x:ObjOk P w H h a o)(k:∀b u,(b=a\/H b=some (.own a))->h.get? b=some u->h'.get? b=some u)(ho:∀b,H b=some (.own a)->H' b=some (.own a))(ht:∀b xs,H b=some (.tup xs)->H' b=some (.tup xs)):ObjOk P w H' h' a o:=by
 induction o with
 |lst xs=>obtain⟨z,its,n,r,e⟩:=x;exact⟨z,its,n,r,k _ _ (.inl rfl) e⟩
 |tup xs=>obtain⟨z,its,r,ob,e,c⟩:=x;exact⟨z,its,r,ob,k _ _ (.inl rfl) e,c⟩
 |dK kvs=>obtain⟨z,y,vs,r,ob,es,ep,e,c⟩:=x;exact⟨z,y,vs,r,ob,es,ep,k _ _ (.inl rfl) e,c⟩
 |dT kvs =>obtain⟨z,y,xs,r,ob,es,ep,e,c⟩:=x;exact⟨z,y,xs,Paired.mapP r fun p q z=>⟨z.1,ht _ _ z.2.1,z.2.2⟩,ob,es,ep,k _ _ (.inl rfl) e,c⟩
 |set S n=>obtain⟨ob,es,ep,t,e,c⟩:=x;exact⟨ob,es,ep,t,k _ _ (.inl rfl) e,c⟩
 |ins C dx fs =>obtain⟨d,z,ne,e,mA,⟨od,es,ep,e2,c⟩,r⟩:=x;exact⟨ho _ d,z,ne,k _ _ (.inl rfl) e,mA,⟨od,es,ep,k _ _ (.inr d) e2,c⟩,r⟩
 |own y=>obtain⟨ob,e⟩:=x;exact⟨ob,k _ _ (.inl rfl) e⟩
 |xd fs=>obtain⟨mA,⟨od,es,ep,e,c⟩,r⟩:=x;exact⟨mA,⟨od,es,ep,k _ _ (.inl rfl) e,c⟩,r⟩
 |rng lo hi=>obtain⟨t,u,v,e⟩:=x;exact⟨t,u,v,k _ _ (.inl rfl) e⟩
 |frz ob u ih=>obtain⟨e,q⟩:=x;exact⟨k _ _ (.inl rfl) e,ih q⟩
 |tbl ps =>have e:h.get? a=some { cls:=.none,data:=.fields ps }:=x;show h'.get? a=some { cls:=.none,data:=.fields ps };exact k a _ (.inl rfl) e
 |met f y =>have e:h.get? a=some (PySem.W.methodObj (.ref f) (.ref y)):=x;show h'.get? a=some (PySem.W.methodObj (.ref f) (.ref y));exact k a _ (.inl rfl) e
 |ext φ=>obtain⟨p,⟨o,e⟩,st⟩:=x;exact⟨st _ _ p fun o q=>k _ _ (.inl rfl) q,⟨o,k _ _ (.inl rfl) e⟩,st⟩
theorem HOk.lt(x:HOk P w H h)(e:H a=some o):a<h.objs.size:=(x a o e).lt
theorem HOk.fresh(x:HOk P w H h)(e:h.objs.size<=a):H a=none:=by
 cases q:H a with
 |none=>rfl
 |some u=>exact absurd (Zw (x.lt q) e) (YM _)
theorem HOk.kept(x:HOk P w H h)(k:∀b u,h.get? b=some u->h'.get? b=some u):HOk P w H h':=fun a o e =>
 (x a o e).stay (fun b u _ q=>k b u q) (fun _ q=>q) fun _ _ q=>q
theorem HOk.laid(x:HOk P w H h)(k:∀b u,h.get? b=some u->h'.get? b=some u)(hp:h.objs.size<=a)(new:ObjOk P w (upd H a o) h' a o):HOk P w (upd H a o) h':=fun b u e=>by
 have hn:=x.fresh hp;by_cases hb:b=a
 ·subst hb;rw[af]at e;cases e;exact new
 ·rw[ad hb]at e;exact(x b u e).stay (fun c v _ q=>k c v q) (fun c q=>by rw[ad (al q hn)];exact q) fun c xs q=>by rw[ad (al q hn)];exact q
end
def Rd(H:Hp)(a:Addr)(u:HO):Prop:=H a=some u\/∃o,H a=some (.frz o u)
theorem Rd.of{H:Hp}{a:Addr}{u:HO}(h:H a=some u):Rd H a u:=.inl h
theorem Rd.ok{P:Program}{w:World}{H:Hp}{h:Heap}{a:Addr}{u:HO}(r:Rd H a u)(x:HOk P w H h):ObjOk P w H h a u:=by
 rcases r with r|⟨o,r⟩
 ·exact x a u r
 ·obtain⟨_,q⟩:=x a _ r;exact q
def Mut:Option HO->Prop
 |some (.lst _)=>True
 |some (.dK _)=>True
 |some (.dT _)=>True
 |some (.set _ _)=>True
 |some (.ins _ _ _)=>True
 |some (.ext _)=>True
 |_=>False
section
variable{P:Program}{w:World}{H:Hp}{h h':Heap}{x e:Addr}{o':HO}
theorem HOk.write(ok:HOk P w H h)(mu:Mut (H x))(he:e=x\/H e=some (.own x))(k:∀b u,b≠e->h.get? b=some u->h'.get? b=some u)(heo:∃u,h'.get? e=some u)(new:ObjOk P w (upd H x o') h' x o'):HOk P w (upd H x o') h':=fun b u q=>by
 have nown:∀c y,H c=some (.own y)->c≠x:=fun c y r z=>by subst z;rw[r]at mu;exact mu
 have ntup:∀c xs,H c=some (.tup xs)->c≠x:=fun c xs r z=>by subst z;rw[r]at mu;exact mu
 by_cases hb:b=x
 ·subst hb;rw[af]at q;cases q;exact new
 ·rw[ad hb]at q;by_cases hbe:b=e
  ·have q':H b=some (.own x):=by
    rcases he with z|z
    ·exact absurd (hbe.trans z) hb
    ·rw[hbe];exact z
   rw[q]at q';cases q';obtain⟨v,hv⟩:=heo;exact⟨v,by rw[hbe];exact hv⟩
  ·refine(ok b u q).stay (fun c v hc r=>k c v ?_ r) (fun c r=>by rw[ad (nown c b r)];exact r) fun c xs r=>by rw[ad (ntup c xs r)];exact r
   rcases hc with rfl|hc
   ·exact hbe
   ·rintro rfl;rcases he with z|z
    ·exact nown c b hc z
    ·rw[hc]at z;cases z;exact hb rfl
end
structure Un(fs ex:List Addr)(H H':Hp)(h h':Heap):Prop where
 keep:∀b o,h.get? b=some o->H b=none->b∉fs->b∉ex->h'.get? b=some o
 slot:∀b o,h.get? b=some o->H b=none->b∈fs->b∉ex->∃sl,h'.get? b=some { o with slots:=sl }
 free:∀b o,h.get? b=some o->H b=none->b∉ex->H' b=none
 there:∀b o,h.get? b=some o->b∉ex->∃o',h'.get? b=some o'
 tups:∀b xs,H b=some (.tup xs)->H' b=some (.tup xs)
 frzs:∀b o u,H b=some (.frz o u)->H' b=some (.frz o u)
 tbls:∀b ps,H b=some (.tbl ps)->∃more,H' b=some (.tbl (ps++more))
section
variable{fs fs' ex ex':List Addr}{H H1 H2:Hp}{h h1 h2 h':Heap}{a x e:Addr}{o:HO}
theorem Un.any(u:Un fs ex H H1 h h1){b:Addr}{ob:Obj}(q:h.get? b=some ob)(n:H b=none)(hx:b∉ex):∃sl,h1.get? b=some { ob with slots:=sl }:=by
 by_cases hb:b∈fs
 ·exact u.slot b ob q n hb hx
 ·exact⟨ob.slots,u.keep b ob q n hb hx⟩
theorem Un.kept(k:∀b u,h.get? b=some u->h'.get? b=some u):Un fs ex H H h h' :=
 ⟨fun b ob q _ _ _=>k b ob q,fun b ob q _ _ _=>⟨ob.slots,k b ob q⟩,fun _ _ _ n _=>n,fun b ob q _=>⟨ob,k b ob q⟩,fun _ _ q=>q,fun _ _ _ q=>q,fun _ ps q=>⟨#[],by rw[q];simp⟩⟩
theorem Un.refl:Un fs ex H H h h:=Un.kept fun _ _ q=>q
theorem Un.laid(k:∀b u,h.get? b=some u->h'.get? b=some u)(hp:h.objs.size<=a)(hn:H a=none):Un fs ex H (upd H a o) h h' where
 keep:=fun b u q _ _ _=>k b u q
 slot:=fun b u q _ _ _=>⟨u.slots,k b u q⟩
 free:=fun b u q n _=>by rw[ad (Zv (Zw (Zn q) hp))];exact n
 there:=fun b u q _=>⟨u,k b u q⟩
 tups:=fun b xs q=>by rw[ad (al q hn)];exact q
 frzs:=fun b u xs q=>by rw[ad (al q hn)];exact q
 tbls:=fun b ps q=>⟨#[],by rw[ad (al q hn),q];simp⟩
theorem Un.write(mu:Mut (H x))(he:e=x\/H e=some (.own x))(k:∀b u,b≠e->h.get? b=some u->h'.get? b=some u)(heo:∃u,h'.get? e=some u):Un fs ex H (upd H x o) h h':=by
 have hx:∀b,H b=none->b≠x:=fun b n z=>by subst z;rw[n]at mu;exact mu
 have hb:∀b,H b=none->b≠e:=fun b n z=>by
  subst z;rcases he with r|r
  ·exact hx b n r
  ·rw[n]at r;cases r
 have hm:∀b u,H b=some u->¬Mut (some u)->b≠x:=fun b u q nm z=>by subst z;rw[q]at mu;exact nm mu
 refine⟨fun b u q n _ _=>k b u (hb b n) q,fun b u q n _ _=>⟨u.slots,k b u (hb b n) q⟩,fun b u q n _=>by rw[ad (hx b n)];exact n,fun b u q _=>?_,
  fun b xs q=>by rw[ad (hm b _ q fun z=>z)];exact q,fun b u xs q=>by rw[ad (hm b _ q fun z=>z)];exact q,fun b ps q=>⟨#[],by rw[ad (hm b _ q fun z=>z),q];simp⟩⟩
 by_cases hbe:b=e
 ·subst hbe;exact heo
 ·exact⟨u,k b u hbe q⟩
end
def trk(h:Heap)(H:Hp):List Addr:=(List.range h.objs.size).filter fun a=>(H a).isSome
def hM(h:Heap)(H:Hp):Heap:=PySem.W.hideAll h (trk h H)
theorem yJ(h:Heap)(H:Hp):(hM h H).objs.size=h.objs.size:=PySem.W.hideAll_size _ _
theorem iR{h:Heap}{H:Hp}{b:Addr}{o:Obj}(e:h.get? b=some o)(n:H b=none):(hM h H).get? b=some o :=
 PySem.W.hideAll_get _ e fun hm=>by have q:(H b).isSome=true:=(ZL.mp hm).2;rw[n]at q;simp at q
theorem Dh{h:Heap}{H:Hp}{b:Addr}{o:Obj}(e:(hM h H).get? b=some o):h.get? b=some o/\H b=none:=by
 have e':h.get? b=some o:=PySem.W.of_hideAll (trk h H) e;refine⟨e',?_⟩;cases q:H b with
 |none=>rfl
 |some x =>have hm:b∈trk h H:=ZL.mpr ⟨ZV.mpr (Zn e'),by simp[q]⟩;have z:(hM h H).get? b=none:=PySem.W.hideAll_none (trk h H) hm;rw[z]at e;cases e
open PySem PySem.Spec PyProof.Rows
structure Mod(K:PySem.W.Frag)(mg:Str->Option Value)(base:Heap):Prop where
 kin:K.In base
 glob:base.Ns mainGlobals mg
 blt:∃mb,base.Ns builtinsNs mb/\∀x:Str,x≠"__name__"->mb x=bootBuiltins x
 nolimit:base.NoLimit
structure Cx where
 prog:Program
 w:World
 K:PySem.W.Frag
 mg:Str->Option Value
 base:Heap
 A:Around
 N:List Str
 s₀:Shared
 H₀:Hp
 env:Env
 outer:List Env
 stack:List Env
 ex:List Addr
 fn:Str->Bool
 calm:Bool
 pn:List (Addr×Obj)
 xe:Value->Shared->Prop
def frs(l:List Env):List Addr:=l.filterMap (·.frame)
abbrev Cx.fs(X:Cx):List Addr:=frs X.outer
def Vis(sc:Scope)(x:Str):Prop:=sc.names.lookup x=some .local\/sc.names.lookup x=some .cell\/sc.names.lookup x=some .free
def Loc(sc:Scope)(x:Str):Prop:=sc.names.lookup x=some .local\/sc.names.lookup x=some .cell
def HR(env:Env)(h:Heap)(m:Str->Option Value)(x:Str)(u:Value):Prop :=
 (env.kindOf x=some .local/\m x=some u)\/((env.kindOf x=some .cell\/env.kindOf x=some .free)/\∃c,env.cells.lookup x=some c/\h.IsCell c (some u))
structure Cx.Ok(X:Cx):Prop where
 mod:Mod X.K X.mg X.base
 kind:X.env.scope.kind=.function
 glob:X.env.globals=mainGlobals
 blt:X.env.builtins=builtinsNs
 above:X.s₀.heap.objs.size<=X.env.locals
 inj:∀x y c,X.env.cells.lookup x=some c->X.env.cells.lookup y=some c->x=y
 has:∀x,(X.env.kindOf x=some .cell\/X.env.kindOf x=some .free)->∃c,X.env.cells.lookup x=some c
 cab:∀x c,X.fn x=true->X.env.cells.lookup x=some c->X.s₀.heap.objs.size<=c
 hd:X.calm=true->X.A.handled=none
 frames:X.A.frames=some X.stack
 stk:X.stack=X.outer\/(X.stack=X.env::X.outer/\X.env.frame=some X.env.locals)
 exf:∀b∈X.ex,b≠X.env.locals/\∀x c,X.env.cells.lookup x=some c->c≠b
 bs:∀b o,X.base.get? b=some o->X.s₀.heap.get? b=some o/\X.H₀ b=none
 bsz:X.base.objs.size<=X.s₀.heap.objs.size
 noex:∀b o,X.base.get? b=some o->b∉X.ex
 exfs:∀b∈X.ex,b∉X.fs
 funs:X.s₀.heap.FunFrames X.base X.outer
 frf:∀b∈X.fs,X.H₀ b=none
structure Inv(X:Cx)(pins:List (Addr×Obj))(σ:List (Option V))(H:Hp)(s:Shared):Prop where
 ok:X.Ok
 os:s.os=X.s₀.os
 bare:AllBare s.gens
 base:Un X.fs X.ex X.H₀ H X.s₀.heap s.heap
 loc:∃m,s.heap.Ns X.env.locals m/\∀(i:Nat) (x:Str) (v:V),X.N[i]?=some x->σ[i]?=some (some v)->Vis X.env.scope x->∃u,RelV v u/\HR X.env s.heap m x u
 cell:∀x c,X.env.cells.lookup x=some c->∃v,s.heap.IsCell c v
 free:H X.env.locals=none
 freeC:∀x c,X.env.cells.lookup x=some c->H c=none
 pin:∀p∈X.pn++pins,s.heap.get? p.1=some p.2/\H p.1=none/\p.1≠X.env.locals/\p.1∉X.fs/\∀v,p.2.data≠.cell v
 hok:HOk X.prog X.w H s.heap
 len:σ.length=X.N.length
section
variable{X:Cx}{pins:List (Addr×Obj)}{σ:List (Option V)}{H H':Hp}{s:Shared}{h':Heap}
theorem Cx.Ok.nofr(ok:X.Ok){b:Addr}{o:Obj}(e:X.base.get? b=some o):b∉X.fs:=fun hb=>by have:=(ok.funs.mem hb).1;rw[e]at this;cases this
theorem Inv.bs(I:Inv X pins σ H s):∀b o,X.base.get? b=some o->s.heap.get? b=some o/\H b=none:=fun b o e =>
 ⟨I.base.keep b o (I.ok.bs b o e).1 (I.ok.bs b o e).2 (I.ok.nofr e) (I.ok.noex b o e),I.base.free b o (I.ok.bs b o e).1 (I.ok.bs b o e).2 (I.ok.noex b o e)⟩
theorem Inv.bk(I:Inv X pins σ H s):∀b o,X.base.get? b=some o->s.heap.get? b=some o:=fun b o e=>(I.bs b o e).1
theorem Inv.mod(I:Inv X pins σ H s):Mod X.K X.mg X.base:=I.ok.mod
theorem Inv.kIn(I:Inv X pins σ H s):X.K.In s.heap:=I.ok.mod.kin.keeps I.bk
theorem Inv.fr(I:Inv X pins σ H s):∃m,Fr X.base X.env.locals s.heap m :=
 let⟨m,hn,_⟩:=I.loc
 ⟨m,hn,I.bk,ZZ I.ok.bsz I.ok.above⟩
theorem Inv.lt(I:Inv X pins σ H s):X.env.locals<s.heap.objs.size:=let⟨_,hn,_⟩:=I.loc;hn.lt
theorem Inv.sz(I:Inv X pins σ H s):X.s₀.heap.objs.size<=s.heap.objs.size:=ZZ I.ok.above (Nat.le_of_lt I.lt)
theorem Inv.nofs(I:Inv X pins σ H s){a:Addr}(h:s.heap.objs.size<=a):a∉X.fs:=fun hb=>by obtain⟨_,o,ho,_⟩:=I.ok.funs.mem hb;exact absurd (Zw (Zn ho) (ZZ I.sz h)) (YM _)
theorem Inv.cne(I:Inv X pins σ H s):∀x c,X.env.cells.lookup x=some c->c≠X.env.locals:=fun x c e z=>by obtain⟨v,o,ho,hd⟩:=I.cell x c e;obtain⟨m,⟨o',es,ep,ho',hd',_⟩,_⟩:=I.loc;rw[z,ho']at ho;cases ho;rw[hd']at hd;cases hd
theorem Inv.funs(I:Inv X pins σ H s):s.heap.FunFrames X.base X.outer:=by
 have all:∀(l:List Env),(∀b∈frs l,b∈X.fs)->X.s₀.heap.FunFrames X.base l->s.heap.FunFrames X.base l:=by
  intro l;induction l with
  |nil=>intro _ _;trivial
  |cons env r ih =>intro hs hl;obtain⟨hk,⟨L,o,hf,hn,ho,hd⟩,hr⟩:=hl;have hL:L∈X.fs:=hs L (by unfold frs;rw[List.filterMap_cons,hf];exact Z9);obtain⟨sl,e⟩:=I.base.slot L o ho (I.ok.frf L hL) hL fun z=>I.ok.exfs L z hL;exact⟨hk,⟨L,_,hf,hn,e,hd⟩,ih (fun b hb=>hs b (by unfold frs;rw[List.filterMap_cons,hf];exact ZC _ hb)) hr⟩
 exact all X.outer (fun _ hb=>hb) I.ok.funs
theorem Inv.stack(I:Inv X pins σ H s):s.heap.FunFrames X.base X.stack:=by
 rcases I.ok.stk with e|⟨e,hf⟩
 ·rw[e];exact I.funs
 ·rw[e];obtain⟨m,hn,_⟩:=I.loc;refine .cons (by rw[I.ok.kind];decide) hf hn ?_ I.funs;exact Y5 (ZZ I.ok.bsz I.ok.above)
theorem Inv.stkSub(I:Inv X pins σ H s):∀b∈frs X.stack,b∈X.env.locals::X.fs:=fun b hb=>by
 rcases I.ok.stk with e|⟨e,hf⟩
 ·rw[e]at hb;exact ZC _ hb
 ·rw[e]at hb;unfold frs at hb;rw[List.filterMap_cons,hf]at hb;exact hb
theorem Inv.stkFree(I:Inv X pins σ H s):∀b∈frs X.stack,H b=none:=fun b hb=>by
 rcases Zs.mp (I.stkSub b hb)with e|hb
 ·rw[e];exact I.free
 ·obtain⟨_,o,ho,_⟩:=I.ok.funs.mem hb;exact I.base.free b o ho (I.ok.frf b hb) fun z=>I.ok.exfs b z hb
theorem Inv.step{g':Array GenState}{t':Nat}{d':Drawn}{ch:List Addr}(I:Inv X pins σ H s)(hch:∀b∈ch,(b∈X.ex\/X.s₀.heap.objs.size<=b)/\b≠X.env.locals/\(∀x c,X.env.cells.lookup x=some c->c≠b)/\∀p∈X.pn++pins,p.1≠b)(keep:∀b o,b≠X.env.locals->b∉X.fs->b∉ch->s.heap.get? b=some o->H b=none->h'.get? b=some o)(slot:∀b o,b≠X.env.locals->b∈X.fs->b∉ch->s.heap.get? b=some o->H b=none->∃sl,h'.get? b=some { o with slots:=sl })(free:∀b o,b∉ch->s.heap.get? b=some o->H b=none->H' b=none)(there:∀b o,b∉ch->s.heap.get? b=some o->∃o',h'.get? b=some o')(tups:∀b xs,H b=some (.tup xs)->H' b=some (.tup xs))(frzs:∀b o u,H b=some (.frz o u)->H' b=some (.frz o u))(tbls:∀b ps,H b=some (.tbl ps)->∃more,H' b=some (.tbl (ps++more)))(ns:∀m,s.heap.Ns X.env.locals m->h'.Ns X.env.locals m)(hok:HOk X.prog X.w H' h')(hg:AllBare g') :
  Inv X pins σ H' { s with heap:=h',gens:=g',drawn:=d',toks:=t' }:=by
 have neL:∀b o,X.s₀.heap.get? b=some o->b≠X.env.locals:=fun b o e=>Zv (Zw (Zn e) I.ok.above);have neC:∀b o,X.s₀.heap.get? b=some o->b∉X.ex->b∉ch:=fun b o e hx hb=>by
  rcases(hch b hb).1 with z|z
  ·exact hx z
  ·exact absurd (Zw (Zn e) z) (YM _)
 have cellK:∀x c,X.env.cells.lookup x=some c->∀v,s.heap.IsCell c v->h'.IsCell c v:=fun x c e v ⟨o,ho,hd⟩=>by
  have nch:c∉ch:=fun z=>(hch c z).2.2.1 x c e rfl;by_cases hc:c∈X.fs
  ·obtain⟨sl,q⟩:=slot c o (I.cne x c e) hc nch ho (I.freeC x c e);exact⟨_,q,hd⟩
  ·exact⟨o,keep c o (I.cne x c e) hc nch ho (I.freeC x c e),hd⟩
 refine⟨I.ok,I.os,hg,⟨fun b o e n hb hx=>?_,fun b o e n hb hx=>?_,fun b o e n hx=>?_,fun b o e hx=>?_,fun b xs e=>tups b xs (I.base.tups b xs e),fun b o xs e=>frzs b o xs (I.base.frzs b o xs e),fun b ps e=>?_⟩,?_,fun x c e=>?_,?_,fun x c e=>?_,fun p hp=>?_,hok,I.len⟩
 ·exact keep b o (neL b o e) hb (neC b o e hx) (I.base.keep b o e n hb hx) (I.base.free b o e n hx)
 ·obtain⟨sl,e1⟩:=I.base.slot b o e n hb hx;obtain⟨sl',e2⟩:=slot b _ (neL b o e) hb (neC b o e hx) e1 (I.base.free b o e n hx);exact⟨sl',e2⟩
 ·obtain⟨o',e1⟩:=I.base.there b o e hx;exact free b o' (neC b o e hx) e1 (I.base.free b o e n hx)
 ·obtain⟨o',e1⟩:=I.base.there b o e hx;exact there b o' (neC b o e hx) e1
 ·obtain⟨m1,e1⟩:=I.base.tbls b ps e;obtain⟨m2,e2⟩:=tbls b _ e1;exact⟨m1++m2,by rw[e2,Array.append_assoc]⟩
 ·obtain⟨m,hn,hl⟩:=I.loc;refine⟨m,ns m hn,fun i x v e1 e2 e3=>?_⟩;obtain⟨u,r,l⟩:=hl i x v e1 e2 e3;refine⟨u,r,?_⟩;rcases l with l|⟨k,c,e,z⟩
  ·exact .inl l
  ·exact .inr ⟨k,c,e,cellK x c e _ z⟩
 ·obtain⟨v,z⟩:=I.cell x c e;exact⟨v,cellK x c e v z⟩
 ·obtain⟨m,⟨o,_,_,ho,_⟩,_⟩:=I.loc;exact free _ o (fun z=>(hch _ z).2.1 rfl) ho I.free
 ·obtain⟨v,o,ho,hd⟩:=I.cell x c e;exact free c o (fun z=>(hch c z).2.2.1 x c e rfl) ho (I.freeC x c e)
 ·obtain⟨e,n,ne,nf,d⟩:=I.pin p hp;have nch:p.1∉ch:=fun z=>(hch p.1 z).2.2.2 p hp rfl;exact⟨keep p.1 p.2 ne nf nch e n,free p.1 p.2 nch e n,ne,nf,d⟩
theorem Inv.un{t':Nat}(I:Inv X pins σ H s)(u:Un X.fs [] H H' s.heap h')(hok:HOk X.prog X.w H' h'):Inv X pins σ H' { s with heap:=h',toks:=t' }:=by
 obtain⟨m,⟨o,es,ep,ho,r⟩,_⟩:=id I.loc;obtain⟨sl,hL⟩:=u.any ho I.free (by simp);exact I.step (g':=s.gens) (d':=s.drawn) (ch:=[]) (fun _ z=>nomatch z) (fun b o _ hb _ e n=>u.keep b o e n hb (by simp)) (fun b o _ hb _ e n=>u.slot b o e n hb (by simp)) (fun b o _ e n=>u.free b o e n (by simp)) (fun b o _ e=>u.there b o e (by simp)) u.tups u.frzs u.tbls (fun m' hm=>by
  obtain⟨o',es',ep',ho',r'⟩:=hm;rw[ho]at ho';cases ho';exact⟨_,es',ep',hL,r'⟩) hok I.bare
theorem Inv.call{g':Array GenState}{t':Nat}{d':Drawn}{ch:List Addr}(I:Inv X pins σ H s)(u:Un (frs X.stack) ch H H' s.heap h')(hok:HOk X.prog X.w H' h')(hg:AllBare g')(hch:∀b∈ch,(b∈X.ex\/X.s₀.heap.objs.size<=b)/\b≠X.env.locals/\(∀x c,X.env.cells.lookup x=some c->c≠b)/\∀p∈X.pn++pins,p.1≠b) :
  Inv X pins σ H' { s with heap:=h',gens:=g',drawn:=d',toks:=t' }:=by
 obtain⟨m,⟨o,es,ep,ho,r⟩,_⟩:=id I.loc;obtain⟨sl,hL⟩:=u.any ho I.free fun z=>(hch _ z).2.1 rfl;exact I.step (ch:=ch) hch (fun b o hL hb hc e n=>u.keep b o e n (fun z=>(Zs.mp (I.stkSub b z)).elim hL hb) hc) (fun b o _ _ hc e n=>u.any e n hc) (fun b o hc e n=>u.free b o e n hc) (fun b o hc e=>u.there b o e hc) u.tups u.frzs u.tbls (fun m' hm=>by
  obtain⟨o',es',ep',ho',r'⟩:=hm;rw[ho]at ho';cases ho';exact⟨_,es',ep',hL,r'⟩) hok hg
theorem Inv.turned{t':Nat}{it:Addr}(I:Inv X pins σ H s)(k:∀b o,b≠it->s.heap.get? b=some o->h'.get? b=some o)(hn:H it=none)(hL:it≠X.env.locals)(h1:it∈X.ex\/X.s₀.heap.objs.size<=it)(h2:∀x c,X.env.cells.lookup x=some c->c≠it)(h3:∀p∈X.pn++pins,p.1≠it):Inv X pins σ H { s with heap:=h',toks:=t' }:=by
 have nit:∀b u,H b=some u->b≠it:=fun b u e z=>by rw[z,hn]at e;cases e
 refine I.step (g':=s.gens) (d':=s.drawn) (ch:=[it]) (fun b hb=>?_) (fun b o _ _ hc e _=>k b o (fun z=>hc (by simp[z])) e) (fun b o _ _ hc e _=>⟨o.slots,k b o (fun z=>hc (by simp[z])) e⟩) (fun _ _ _ _ n=>n)
  (fun b o hc e=>⟨o,k b o (fun z=>hc (by simp[z])) e⟩) (fun _ _ e=>e) (fun _ _ _ e=>e) (fun b ps e=>⟨#[],by rw[e];simp⟩) (fun m hm=>?_) (fun b u e=>?_) I.bare
 ·have e:b=it:=by simpa using hb
  subst e;exact⟨h1,hL,h2,h3⟩
 ·obtain⟨o,es,ep,ho,r⟩:=hm;exact⟨o,es,ep,k _ o (Yx hL) ho,r⟩
 ·refine(I.hok b u e).stay (fun c v hc q=>k c v ?_ q) (fun _ q=>q) fun _ _ q=>q;rcases hc with z|z
  ·rw[z];exact nit b u e
  ·exact nit c _ z
theorem Inv.tok(I:Inv X pins σ H s)(t:Nat):Inv X pins σ H { s with toks:=t }:=I.un (h':=s.heap) (t':=t) Un.refl I.hok
theorem Inv.kept{t':Nat}(I:Inv X pins σ H s)(k:∀b u,s.heap.get? b=some u->h'.get? b=some u):Inv X pins σ H { s with heap:=h',toks:=t' }:=I.un (Un.kept k) (I.hok.kept k)
theorem Inv.laid{a:Addr}{o:HO}{t':Nat}(I:Inv X pins σ H s)(k:∀b u,s.heap.get? b=some u->h'.get? b=some u)(hp:s.heap.objs.size<=a)(new:ObjOk X.prog X.w (upd H a o) h' a o) :
  Inv X pins σ (upd H a o) { s with heap:=h',toks:=t' }:=I.un (Un.laid k hp (I.hok.fresh hp)) (I.hok.laid k hp new)
theorem Inv.write{x e:Addr}{o:HO}{t':Nat}(I:Inv X pins σ H s)(mu:Mut (H x))(he:e=x\/H e=some (.own x))(k:∀b u,b≠e->s.heap.get? b=some u->h'.get? b=some u)(heo:∃u,h'.get? e=some u)(new:ObjOk X.prog X.w (upd H x o) h' x o):Inv X pins σ (upd H x o) { s with heap:=h',toks:=t' }:=I.un (Un.write mu he k heo) (I.hok.write mu he k heo new)
theorem Inv.weak{σ':List (Option V)}(I:Inv X pins σ H s)(hl:σ'.length=σ.length)(w:∀(i:Nat) v,σ'[i]?=some (some v)->σ[i]?=some (some v)):Inv X pins σ' H s :=
 ⟨I.ok,I.os,I.bare,I.base,let⟨m,hn,hl'⟩:=I.loc;⟨m,hn,fun i x v e1 e2 e3=>hl' i x v e1 (w i v e2) e3⟩,I.cell,I.free,I.freeC,I.pin,I.hok,hl.trans I.len⟩
theorem Inv.pins_of{pins':List (Addr×Obj)}(I:Inv X pins σ H s)(h:∀p∈pins',s.heap.get? p.1=some p.2/\H p.1=none/\p.1≠X.env.locals/\p.1∉X.fs/\∀v,p.2.data≠.cell v):Inv X pins' σ H s :=
 ⟨I.ok,I.os,I.bare,I.base,I.loc,I.cell,I.free,I.freeC,fun p hp=>(Zt.mp hp).elim (fun z=>I.pin p (Z5 _ z)) (h p),I.hok,I.len⟩
theorem lS{N:List Str}(hN:N.Nodup){i j:Nat}{x:Str}(a:N[i]?=some x)(b:N[j]?=some x):i=j:=by obtain⟨h1,e1⟩:=ZH.mp a;obtain⟨h2,e2⟩:=ZH.mp b;exact(List.getElem_inj hN).mp (e1.trans e2.symm)
theorem qG{M:Model}{A:Around}{E:Value->Shared->Prop}{i:Nat}{x:Str}{v:V}{u:Value}{Q:Unit->Shared->Prop}(I:Inv X pins σ H s)(hN:X.N.Nodup)(hi:X.N[i]?=some x)(hx:Loc X.env.scope x)(r:RelV v u)(h:∀s',Inv X pins (σ.set i (some v)) H s'->(∃a,Heap.SameBut a s.heap s'.heap/\(a=X.env.locals\/X.env.cells.lookup x=some a))->Q () s')(hf:X.fn x=true\/X.env.scope.names.lookup x=some .local:=by first|exact .inl rfl|exact .inr rfl|assumption):wpAny M A (storeName X.env x u) Q E s:=by
 obtain⟨m,hn,hl⟩:=id I.loc;have hcls:(X.env.scope.kind == .class ||(X.env.scope.kind == .module&&X.env.locals != X.env.globals))=false:=by rw[I.ok.kind];rfl
 have hiσ:i<σ.length:=by rw[I.len];exact(ZH.mp hi).1
 have cne:=I.cne;have tracked:∀{a:Addr} {h':Heap},(∃o,s.heap.get? a=some o/\H a=none)->Heap.SameBut a s.heap h'->HOk X.prog X.w H h':=fun{a h'} ha hs b ob e=>by
  obtain⟨_,_,hfree⟩:=ha;refine(I.hok b ob e).stay (fun c w' hc q=>(hs.2 c ?_).trans q) (fun _ q=>q) fun _ _ q=>q;rintro rfl;rcases hc with rfl|hc
  ·rw[hfree]at e;cases e
  ·rw[hfree]at hc;cases hc
 rcases hx with hk|hk
 ·refine wpAny_storeName_local hk hn (fun h' hn' hs=>?_) hcls;obtain⟨oL,_,_,hoL,_⟩:=id hn;refine h _ ⟨I.ok,I.os,I.bare,⟨fun b o e n hb hx=>?_,fun b o e n hb hx=>?_,I.base.free,fun b o e hx=>?_,I.base.tups,I.base.frzs,I.base.tbls⟩,⟨_,hn',fun j y v' e1 e2 e3=>?_⟩,fun y c e=>?_,I.free,I.freeC,fun p hp=>?_,tracked ⟨oL,hoL,I.free⟩ hs,by simpa using I.len⟩ ⟨_,hs,.inl rfl⟩
  ·exact(hs.2 b (Zv (Zw (Zn e) I.ok.above))).trans (I.base.keep b o e n hb hx)
  ·obtain⟨sl,e1⟩:=I.base.slot b o e n hb hx;exact⟨sl,(hs.2 b (Zv (Zw (Zn e) I.ok.above))).trans e1⟩
  ·obtain⟨o',e1⟩:=I.base.there b o e hx;exact⟨o',(hs.2 b (Zv (Zw (Zn e) I.ok.above))).trans e1⟩
  ·by_cases hj:j=i
   ·subst hj;rw[hi]at e1;cases e1;rw[List.getElem?_set_self hiσ]at e2;cases e2;exact⟨u,r,.inl ⟨hk,by simp⟩⟩
   ·rw[List.getElem?_set_ne (Yx hj)]at e2;obtain⟨u',r',q⟩:=hl j y v' e1 e2 e3;refine⟨u',r',?_⟩;rcases q with⟨k,e⟩|⟨k,c,e,z⟩
    ·refine .inl ⟨k,?_⟩;have:y≠x:=fun e=>hj (lS hN e1 (e▸hi));simp[this,e]
    ·exact .inr ⟨k,c,e,z.sameBut hs (cne y c e)⟩
  ·obtain⟨w',z⟩:=I.cell y c e;exact⟨w',z.sameBut hs (cne y c e)⟩
  ·obtain⟨e,n,ne,nf,d⟩:=I.pin p hp;exact⟨(hs.2 p.1 ne).trans e,n,ne,nf,d⟩
 ·have hfn:X.fn x=true:=by
   rcases hf with z|z
   ·exact z
   ·rw[z]at hk;cases hk
  obtain⟨c,hc⟩:=I.ok.has x (.inl hk);obtain⟨w',z⟩:=I.cell x c hc;refine wpAny_storeName_cell I.ok.kind hk hc z (fun h' hc' hs=>?_);obtain⟨oc,hoc,hocd⟩:=id z;refine h { s with heap:=h' } ⟨I.ok,I.os,I.bare,⟨fun b o e n hb hx=>?_,fun b o e n hb hx=>?_,I.base.free,fun b o e hx=>?_,I.base.tups,I.base.frzs,I.base.tbls⟩,⟨m,hn.sameBut hs (Yx (cne x c hc)),fun j y v' e1 e2 e3=>?_⟩,fun y c' e=>?_,I.free,I.freeC,fun p hp=>?_,tracked ⟨oc,hoc,I.freeC x c hc⟩ hs,by simpa using I.len⟩ ⟨c,hs,.inr hc⟩
  ·exact(hs.2 b (Zv (Zw (Zn e) (I.ok.cab x c hfn hc)))).trans (I.base.keep b o e n hb hx)
  ·obtain⟨sl,e1⟩:=I.base.slot b o e n hb hx;exact⟨sl,(hs.2 b (Zv (Zw (Zn e) (I.ok.cab x c hfn hc)))).trans e1⟩
  ·obtain⟨o',e1⟩:=I.base.there b o e hx;exact⟨o',(hs.2 b (Zv (Zw (Zn e) (I.ok.cab x c hfn hc)))).trans e1⟩
  ·by_cases hj:j=i
   ·subst hj;rw[hi]at e1;cases e1;rw[List.getElem?_set_self hiσ]at e2;cases e2;exact⟨u,r,.inr ⟨.inl hk,c,hc,hc'⟩⟩
   ·rw[List.getElem?_set_ne (Yx hj)]at e2;obtain⟨u',r',q⟩:=hl j y v' e1 e2 e3;refine⟨u',r',?_⟩;rcases q with q|⟨k,c',e,z'⟩
    ·exact .inl q
    ·refine .inr ⟨k,c',e,z'.sameBut hs ?_⟩;rintro rfl;exact hj (lS hN e1 (I.ok.inj _ _ _ e hc▸hi))
  ·by_cases hcc:c'=c
   ·subst hcc;exact⟨_,hc'⟩
   ·obtain⟨w2,z2⟩:=I.cell y c' e;exact⟨w2,z2.sameBut hs hcc⟩
  ·obtain⟨e,n,ne,nf,d⟩:=I.pin p hp;refine⟨(hs.2 p.1 ?_).trans e,n,ne,nf,d⟩;intro q;rw[q,hoc]at e;have q':oc=p.2:=ZE e;exact d w' (by rw[<-q'];exact hocd)
theorem jh{M:Model}{A:Around}{E:Value->Shared->Prop}{i:Nat}{x:Str}{v:V}{u:Value}{Q:Unit->Shared->Prop}(I:Inv X pins σ H s)(hN:X.N.Nodup)(hi:X.N[i]?=some x)(hx:Loc X.env.scope x)(r:RelV v u)(h:∀s',Inv X pins (σ.set i (some v)) H s'->Q () s')(hf:X.fn x=true\/X.env.scope.names.lookup x=some .local:=by first|exact .inl rfl|exact .inr rfl|assumption):wpAny M A (storeName X.env x u) Q E s :=
 qG I hN hi hx r (fun s' I' _=>h s' I') hf
theorem Inv.call'{s':Shared}{ch:List Addr}(I:Inv X pins σ H s)(ho:s'.os=s.os)(u:Un (frs X.stack) ch H H' s.heap s'.heap)(hok:HOk X.prog X.w H' s'.heap)(hg:AllBare s'.gens)(hch:∀b∈ch,(b∈X.ex\/X.s₀.heap.objs.size<=b)/\b≠X.env.locals/\(∀x c,X.env.cells.lookup x=some c->c≠b)/\∀p∈X.pn++pins,p.1≠b):Inv X pins σ H' s':=by obtain⟨h',g',d',t',o'⟩:=s';have e:o'=s.os:=ho;subst e;exact I.call (g':=g') (t':=t') (d':=d') u hok hg hch
end
abbrev XK:=Value->Option Addr->Hp->Prop
abbrev St:=List (Option V)
abbrev VK:=V->Hp->Prop
abbrev TE:=St->Hp->VK->Prop
abbrev TT:=St->Hp->(Bool->Hp->Prop)->Prop
abbrev TA:=St->Hp->(List V->Hp->Prop)->Prop
structure Ends where
 nx:St->Hp->Prop
 rt:VK
 bk:St->Hp->Prop:=fun _ _=>False
 ct:St->Hp->Prop:=fun _ _=>False
abbrev TS:=Ends->St->Hp->Prop
def EP(X:Cx)(pins:List (Addr×Obj))(σ:St)(Q:VK)(u:Value)(s':Shared):Prop:=∃v H',Inv X pins σ H' s'/\RelV v u/\Q v H'
def TP(X:Cx)(pins:List (Addr×Obj))(σ:St)(Q:Bool->Hp->Prop)(b:Bool)(s':Shared):Prop:=∃H',Inv X pins σ H' s'/\Q b H'
def AP(X:Cx)(pins:List (Addr×Obj))(σ:St)(Q:List V->Hp->Prop)(us:List Value)(s':Shared):Prop:=∃vs H',Inv X pins σ H' s'/\Vals vs us/\Q vs H'
def SP(X:Cx)(pins:List (Addr×Obj))(D:Ends)(f:Flow)(s':Shared):Prop :=
 match f with
 |.next=>∃σ' H',Inv X pins σ' H' s'/\D.nx σ' H'
 |.brk=>∃σ' H',Inv X pins σ' H' s'/\D.bk σ' H'
 |.cont=>∃σ' H',Inv X pins σ' H' s'/\D.ct σ' H'
 |.ret u=>∃v σ' H',Inv X pins σ' H' s'/\RelV v u/\D.rt v H'
def PE(X:Cx)(e:Expr)(t:TE):Prop :=
 ∀(pins:List (Addr×Obj)) (s:Shared) (σ:St) (H:Hp) (Q:VK),Inv X pins σ H s->t σ H Q->wpAny (model X.prog X.w) X.A (eval e X.env) (EP X pins σ Q) X.xe s
def PT(X:Cx)(e:Expr)(t:TT):Prop :=
 ∀(pins:List (Addr×Obj)) (s:Shared) (σ:St) (H:Hp) (Q:Bool->Hp->Prop),Inv X pins σ H s->t σ H Q->wpAny (model X.prog X.w) X.A (isTrue e X.env (eval e X.env)) (TP X pins σ Q) X.xe s
def PW(X:Cx)(e:Expr)(t:TT):Prop :=
 ∀(whole:Sem Value) (pins:List (Addr×Obj)) (s:Shared) (σ:St) (H:Hp) (Q:Bool->Hp->Prop),Inv X pins σ H s->t σ H Q->wpAny (model X.prog X.w) X.A (isTrue e X.env whole) (TP X pins σ Q) X.xe s
theorem PW.pt{X:Cx}{e:Expr}{t:TT}(h:PW X e t):PT X e t:=h _
def PA(X:Cx)(es:List Expr)(t:TA):Prop :=
 ∀(pos:Pos) (pins:List (Addr×Obj)) (s:Shared) (σ:St) (H:Hp) (Q:List V->Hp->Prop),Inv X pins σ H s->t σ H Q->wpAny (model X.prog X.w) X.A (spliced (backTo pos (starEach es X.env))) (AP X pins σ Q) X.xe s
def PS(X:Cx)(st:Stmt)(t:TS):Prop :=
 ∀(pins:List (Addr×Obj)) (s:Shared) (σ:St) (H:Hp) (D:Ends),Inv X pins σ H s->t D σ H->wpAny (model X.prog X.w) X.A (exec st X.env) (SP X pins D) X.xe s
def PSs(X:Cx)(st:List Stmt)(t:TS):Prop :=
 ∀(pins:List (Addr×Obj)) (s:Shared) (σ:St) (H:Hp) (D:Ends),Inv X pins σ H s->t D σ H->wpAny (model X.prog X.w) X.A (execs st X.env) (SP X pins D) X.xe s
theorem thn{α:Type}{t:Sem α}{Q Q':α->Shared->Prop}{M:Model}{A:Around}{E:Value->Shared->Prop}{s:Shared}(h:wpAny M A t Q E s)(hQ:∀a s,Q a s->Q' a s):wpAny M A t Q' E s:=ZX h hQ fun _ _ x=>x
open PySem PySem.Spec PyProof.Rows
section
variable{X:Cx}
def mi(i:Nat):TE:=fun σ H Q=>∃v,σ[i]?=some (some v)/\Q v H
def tC(v:V):TE:=fun _ H Q=>Q v H
theorem Fy{i:Nat}{x:Str}{pos:Pos}(hN:X.N[i]?=some x)(hv:Vis X.env.scope x)(hd:(x==("__debug__":Str))=false:=by decide)(hcd:(x==("__classdict__":Str))=false:=by decide):PE X (.Name x pos) (mi i):=by
 intro pins s σ H Q I h;obtain⟨v,e,h⟩:=h;obtain⟨m,hn,hl⟩:=I.loc;obtain⟨u,r,l⟩:=hl i x v hN e hv;have fin:EP X pins σ Q u s:=⟨v,H,I,r,h⟩
 rcases l with⟨hk,hm⟩|⟨hk,c,hc,hcell⟩
 ·exact wpAny_Name (wpAny_loadName_local I.ok.kind hk hn hm fin) hd
 ·rcases hk with hk|hk
  ·exact wpAny_Name (wpAny_loadName_cell I.ok.kind hk hc hcell fin) hd
  ·exact wpAny_Name (wpAny_loadName_free I.ok.kind hk hc hcell fin hcd) hd
theorem Fo{i j pos}:PE X (.Constant (.int i) j pos) (tC (.int i)):=fun _ _ _ H _ I h=>wpAny_Constant_int ⟨.int i,H,I.tok _,⟨_,rfl⟩,h⟩
theorem G9{b j pos}:PE X (.Constant (.bool b) j pos) (tC (.bl b)):=fun _ _ _ H _ I h=>Constant_bool ⟨.bl b,H,I,rfl,h⟩
theorem Fs{j pos}:PE X (.Constant .none j pos) (tC .non):=fun _ _ _ H _ I h=>Constant_none ⟨.non,H,I,rfl,h⟩
theorem Fv{x j pos}:PE X (.Constant (.str x) j pos) (tC (.str x)):=fun _ _ _ H _ I h=>Calls.Constant_str ⟨.str x,H,I.tok _,⟨_,rfl⟩,h⟩
def Gl(X:Cx)(x:Str):Prop:=X.env.kindOf x=some .globalImplicit
theorem gd{E:Value->Shared->Prop}{pins:List (Addr×Obj)}{s:Shared}{σ:St}{H:Hp}{x:Str}{u:Value}{pos:Pos}{Q:Value->Shared->Prop}(I:Inv X pins σ H s)(hg:Gl X x)(hm:X.mg x=some u)(h:Q u s)(hd:(x==("__debug__":Str))=false:=by decide):wpAny (model X.prog X.w) X.A (eval (.Name x pos) X.env) Q E s :=
 Calls.Name_function_global I.ok.kind hg (Calls.loadGlobal_global (by rw[I.ok.glob];exact I.mod.glob.keeps I.bk) hm h) hd
theorem eG{E:Value->Shared->Prop}{pins:List (Addr×Obj)}{s:Shared}{σ:St}{H:Hp}{x:Str}{u:Value}{pos:Pos}{Q:Value->Shared->Prop}(I:Inv X pins σ H s)(hg:Gl X x)(hm:X.mg x=none)(hv:bootBuiltins x=some u)(h:Q u s)(hn:x≠"__name__":=by decide)(hd:(x==("__debug__":Str))=false:=by decide):wpAny (model X.prog X.w) X.A (eval (.Name x pos) X.env) Q E s:=by obtain⟨mb,h1,h2⟩:=I.mod.blt;exact Calls.Name_function_global I.ok.kind hg (Calls.loadGlobal_builtin (by rw[I.ok.glob];exact I.mod.glob.keeps I.bk) hm (by rw[I.ok.blt];exact h1.keeps I.bk) ((h2 x hn).trans hv) h) hd
theorem pA{x:Str}{v:V}{u:Value}{pos:Pos}(hg:Gl X x)(hm:X.mg x=some u)(r:RelV v u)(hd:(x==("__debug__":Str))=false:=by decide):PE X (.Name x pos) (tC v) :=
 fun _ _ _ H _ I h=>gd I hg hm ⟨v,H,I,r,h⟩ hd
theorem Dw{x:Str}{v:V}{u:Value}{pos:Pos}(hg:Gl X x)(hm:X.mg x=none)(hv:bootBuiltins x=some u)(r:RelV v u)(hn:x≠"__name__":=by decide)(hd:(x==("__debug__":Str))=false:=by decide):PE X (.Name x pos) (tC v) :=
 fun _ _ _ H _ I h=>eG I hg hm hv ⟨v,H,I,r,h⟩ hn hd
variable{a b:Expr}{ta tb:TE}{pos:Pos}
def PC(X:Cx)(op:CmpOp)(a b:Expr)(t:TE):Prop :=
 ∀(pins:List (Addr×Obj)) (s:Shared) (σ:St) (H:Hp) (Q:VK),Inv X pins σ H s->t σ H Q ->
  wpAny (model X.prog X.w) X.A (eval a X.env) (fun v s₁=>wpAny (model X.prog X.w) X.A (eval b X.env) (fun u s₂=>wpAny (model X.prog X.w) X.A (compareOp op v u) (EP X pins σ Q) X.xe s₂) X.xe s₁) X.xe s
def tB(t:TE):TT:=fun σ H Q=>t σ H fun x H1=>∃c,x=.bl c/\Q c H1
theorem Fk{op:CmpOp}{t:TE}(h:PC X op a b t)(h1:behindInMarks op b=false:=by first|exact nobehind _ (by decide) (by decide)|rfl):PE X (.Compare a [op] [b] pos) t:=fun pins s σ H Q I hw=>wpAny_Compare1 (h pins s σ H Q I hw) h1
theorem FN{op:CmpOp}{t:TE}(h:PC X op a b t)(h1:behindInMarks op b=false:=by first|exact nobehind _ (by decide) (by decide)|rfl):PT X (.Compare a [op] [b] pos) (tB t):=by intro pins s σ H Q I hw;refine wpAny_isTrue_Compare1 (thn (h pins s σ H _ I hw) fun v s1 h1=>thn h1 fun u s2 h2=>thn h2 fun c s3 hz9=>?_) h1;obtain⟨x,H1,I1,r1,q1⟩:=hz9;obtain⟨d,rfl,q⟩:=q1;cases r1;exact Yd ⟨H1,I1,q⟩
theorem FP{e:Expr}{t:TE}(h:PE X e t)(he:∀whole,isTrue e X.env whole=(do let v ←whole;standAt e.pos;holding [v] (truthy v)):=by intro _;rfl):PT X e (tB t):=by intro pins s σ H Q I hw;refine isTrue_plain (thn (h pins s σ H _ I hw) fun v s1 hz9=>?_) (he _);obtain⟨x,H1,I1,r1,q1⟩:=hz9;obtain⟨d,rfl,q⟩:=q1;cases r1;exact Yd ⟨H1,I1,q⟩
variable{tA tB':TT}{rest:List Expr}
def Gk(t u:TT):TT:=fun σ H Q=>t σ H fun c H1=>if c=true then u σ H1 Q else Q false H1
def tOr(t u:TT):TT:=fun σ H Q=>t σ H fun c H1=>if c=true then Q true H1 else u σ H1 Q
def Gr(t:TT):TT:=fun σ H Q=>t σ H fun c H1=>Q (!c) H1
theorem DS(ha:PT X a tA):PW X (.BoolOp .And [a] pos) tA:=by
 intro wh pins s σ H Q I h;refine isTrue_and (thn (ha pins s σ H Q I h) fun c s1 e=>?_);cases c with
 |true=>exact isTrue_and_nil e
 |false=>exact e
theorem FS(ha:PT X a tA):PW X (.BoolOp .Or [a] pos) tA:=by
 intro wh pins s σ H Q I h;refine isTrue_or (thn (ha pins s σ H Q I h) fun c s1 e=>?_);cases c with
 |false=>exact isTrue_or_nil e
 |true=>exact e
theorem FR(ha:PT X a tA)(hb:PW X (.BoolOp .And (b::rest) pos) tB'):PW X (.BoolOp .And (a::b::rest) pos) (Gk tA tB'):=by
 intro wh pins s σ H Q I h;refine isTrue_and (thn (ha pins s σ H _ I h) fun c s1 ⟨H1,I1,q1⟩=>?_);cases c with
 |true=>exact hb wh pins s1 σ H1 Q I1 q1
 |false=>exact⟨H1,I1,q1⟩
theorem Hh(ha:PT X a tA)(hb:PW X (.BoolOp .Or (b::rest) pos) tB'):PW X (.BoolOp .Or (a::b::rest) pos) (tOr tA tB'):=by
 intro wh pins s σ H Q I h;refine isTrue_or (thn (ha pins s σ H _ I h) fun c s1 ⟨H1,I1,q1⟩=>?_);cases c with
 |true=>exact⟨H1,I1,q1⟩
 |false=>exact hb wh pins s1 σ H1 Q I1 q1
theorem FO(ha:PT X a tA):PT X (.UnaryOp .Not a pos) (Gr tA):=by intro pins s σ H Q I h;exact isTrue_not (ha pins s σ H (fun c H1=>Q (!c) H1) I h)
def CF(ta tb:TE):TE:=fun σ H Q=>ta σ H fun x H1=>∃c,x=.bl c/\if c=true then tb σ H1 Q else Q (.bl false) H1
def Gs(ta tb:TE):TE:=fun σ H Q=>ta σ H fun x H1=>∃c,x=.bl c/\if c=true then Q (.bl true) H1 else tb σ H1 Q
def CJ(ta:TE):TE:=fun σ H Q=>ta σ H fun x H1=>∃c,x=.bl c/\Q (.bl (!c)) H1
theorem Fu{op}{t:TE}(h:PE X a t):PE X (.BoolOp op [a] pos) t:=fun pins s σ H Q I hw=>BoolOp_one (h pins s σ H Q I hw)
theorem Fj(ha:PE X a ta)(hb:PE X (.BoolOp .And (b::rest) pos) tb):PE X (.BoolOp .And (a::b::rest) pos) (CF ta tb):=by
 intro pins s σ H Q I h;refine BoolOp_and (thn (ha pins s σ H _ I h) fun v s1 hz9=>?_);obtain⟨x,H1,I1,r1,q1⟩:=hz9;obtain⟨c,rfl,q1⟩:=q1;cases r1;refine Yd ?_;cases c with
 |true=>exact hb pins s1 σ H1 Q I1 q1
 |false=>exact⟨.bl false,H1,I1,rfl,q1⟩
theorem He(ha:PE X a ta)(hb:PE X (.BoolOp .Or (b::rest) pos) tb):PE X (.BoolOp .Or (a::b::rest) pos) (Gs ta tb):=by
 intro pins s σ H Q I h;refine BoolOp_or (thn (ha pins s σ H _ I h) fun v s1 hz9=>?_);obtain⟨x,H1,I1,r1,q1⟩:=hz9;obtain⟨c,rfl,q1⟩:=q1;cases r1;refine Yd ?_;cases c with
 |false=>exact hb pins s1 σ H1 Q I1 q1
 |true=>exact⟨.bl true,H1,I1,rfl,q1⟩
theorem Ft(ha:PE X a ta):PE X (.UnaryOp .Not a pos) (CJ ta):=by intro pins s σ H Q I h;refine UnaryOp_ (thn (ha pins s σ H _ I h) fun v s1 hz9=>?_);obtain⟨x,H1,I1,r1,q1⟩:=hz9;obtain⟨c,rfl,q1⟩:=q1;cases r1;exact not_of (Yd ⟨.bl (!c),H1,I1,rfl,q1⟩)
def tIf(t:TT)(ta tb:TE):TE:=fun σ H Q=>t σ H fun c H1=>if c=true then ta σ H1 Q else tb σ H1 Q
theorem Bz{c:Expr}(hc:PT X c tA)(ha:PE X a ta)(hb:PE X b tb):PE X (.IfExp c a b pos) (tIf tA ta tb):=by
 intro pins s σ H Q I h;refine wpAny_IfExp (thn (hc pins s σ H _ I h) fun d s1 ⟨H1,I1,q1⟩=>?_);cases d with
 |true=>exact ha pins s1 σ H1 Q I1 q1
 |false=>exact hb pins s1 σ H1 Q I1 q1
end
open PySem PySem.Spec PyProof.Rows
def SqL(K:PySem.W.Frag)(H:Hp)(a:Addr)(xs:List V):Prop :=
 Rd H a (.lst xs) \/
  ∃(o:Obj) (its:Array Value) (n:Nat),K.lookup a=some o/\o.cls=.type "list"/\o.dict=none/\o.data=.seq its n/\its.size<=sizeLine/\Vals xs its.toList
def SqT(K:PySem.W.Frag)(H:Hp)(a:Addr)(xs:List V):Prop :=
 Rd H a (.tup xs) \/
  ∃(o:Obj) (its:Array Value) (n:Nat),K.lookup a=some o/\o.cls=.type "tuple"/\o.data=.seq its n/\its.size<=sizeLine/\Vals xs its.toList
def HS:Value->Option V
 |.none=>some .non
 |.bool b=>some (.bl b)
 |.int i _=>some (.int i)
 |.str x _=>some (.str x)
 |.bytes b _=>some (.byt b)
 |.float b _=>some (.flt b)
 |.ref a=>some (.ref a)
 |.type n=>some (.ty n)
 |_=>none
theorem RelV.abs{x:V}{u:Value}(r:RelV x u):HS u=some x:=by
 cases x with
 |non=>cases r;rfl
 |bl _=>cases r;rfl
 |int _=>obtain⟨t,rfl⟩:=r;rfl
 |str _=>obtain⟨t,rfl⟩:=r;rfl
 |byt _=>obtain⟨t,rfl⟩:=r;rfl
 |flt _=>obtain⟨t,rfl⟩:=r;rfl
 |ref _=>cases r;rfl
 |ty _=>cases r;rfl
theorem RelV.inj{x y:V}{u:Value}(r:RelV x u)(q:RelV y u):x=y:=ZE (r.abs.symm.trans q.abs)
theorem Vals.inj:∀{xs ys:List V} {us:List Value},Vals xs us->Vals ys us->xs=ys
 |_,_,_,.nil,.nil=>rfl
 |_,_,_,.cons r t,.cons r' t'=>by rw[r.inj r',Vals.inj t t']
section
variable{X:Cx}{pins:List (Addr×Obj)}{σ:St}{H:Hp}{s:Shared}{a:Addr}{xs ys:List V}
theorem SqL.of{K:PySem.W.Frag}(h:H a=some (.lst xs)):SqL K H a xs:=.inl (.inl h)
theorem SqT.of{K:PySem.W.Frag}(h:H a=some (.tup xs)):SqT K H a xs:=.inl (.inl h)
theorem Inv.list(I:Inv X pins σ H s)(h:SqL X.K H a xs):∃its:List Value,Vals xs its/\PlainL s.heap a its.toArray/\xs.length<=sizeLine:=by
 rcases h with h|⟨o,its,n,hk,hc,hd,hs,hz,r⟩
 ·obtain⟨z,its,n,r,e⟩:=h.ok I.hok;exact⟨its,r,⟨_,n,e,rfl,rfl,rfl⟩,z⟩
 ·refine⟨its.toList,r,⟨o,n,I.kIn a o hk,hc,hd,by simpa using hs⟩,?_⟩;have e:=r.length;simp only[Zh]at e;omega
theorem Inv.tuple(I:Inv X pins σ H s)(h:SqT X.K H a xs):∃its:List Value,Vals xs its/\IsTup s.heap a its.toArray/\xs.length<=sizeLine:=by
 rcases h with h|⟨o,its,n,hk,hc,hs,hz,r⟩
 ·obtain⟨z,its,r,p⟩:=h.ok I.hok;exact⟨its,r,p,z⟩
 ·refine⟨its.toList,r,⟨o,I.kIn a o hk,hc,n,by simpa using hs⟩,?_⟩;have e:=r.length;simp only[Zh]at e;omega
theorem Inv.list_inj(I:Inv X pins σ H s)(h:SqL X.K H a xs)(h':SqL X.K H a ys):xs=ys:=by
 obtain⟨its,r,⟨o,n,e,_,_,d⟩,_⟩:=I.list h;obtain⟨its',r',⟨o',n',e',_,_,d'⟩,_⟩:=I.list h';rw[e]at e';cases e';rw[d]at d';injection d' with d1 _;have:its=its':=by simpa using congrArg Array.toList d1
 subst this;exact r.inj r'
theorem Inv.tuple_inj(I:Inv X pins σ H s)(h:SqT X.K H a xs)(h':SqT X.K H a ys):xs=ys:=by
 obtain⟨its,r,⟨o,e,_,n,d⟩,_⟩:=I.tuple h;obtain⟨its',r',⟨o',e',_,n',d'⟩,_⟩:=I.tuple h';rw[e]at e';cases e';rw[d]at d';injection d' with d1 _;have:its=its':=by simpa using congrArg Array.toList d1
 subst this;exact r.inj r'
end
abbrev Cx.wish(X:Cx)(E:Value->Shared->Prop):Cx:={ X with xe:=E }
abbrev Cx.nox(X:Cx):Cx:=X.wish fun _ _=>False
theorem Cx.Ok.wish{X:Cx}(ok:X.Ok)(E:Value->Shared->Prop):(X.wish E).Ok :=
 ⟨ok.mod,ok.kind,ok.glob,ok.blt,ok.above,ok.inj,ok.has,ok.cab,ok.hd,ok.frames,ok.stk,ok.exf,ok.bs,ok.bsz,ok.noex,ok.exfs,ok.funs,ok.frf⟩
theorem Cx.Ok.unwish{X:Cx}{E:Value->Shared->Prop}(ok:(X.wish E).Ok):X.Ok :=
 ⟨ok.mod,ok.kind,ok.glob,ok.blt,ok.above,ok.inj,ok.has,ok.cab,ok.hd,ok.frames,ok.stk,ok.exf,ok.bs,ok.bsz,ok.noex,ok.exfs,ok.funs,ok.frf⟩
section
variable{X:Cx}{pins:List (Addr×Obj)}{σ:St}{H:Hp}{s:Shared}{E:Value->Shared->Prop}
theorem Inv.wish(I:Inv X pins σ H s)(E:Value->Shared->Prop):Inv (X.wish E) pins σ H s:=⟨I.ok.wish E,I.os,I.bare,I.base,I.loc,I.cell,I.free,I.freeC,I.pin,I.hok,I.len⟩
theorem Inv.unwish(I:Inv (X.wish E) pins σ H s):Inv X pins σ H s:=⟨I.ok.unwish,I.os,I.bare,I.base,I.loc,I.cell,I.free,I.freeC,I.pin,I.hok,I.len⟩
theorem SP.unwish{D:Ends}{f:Flow}{s':Shared}(h:SP (X.wish E) pins D f s'):SP X pins D f s':=by
 cases f with
 |next=>obtain⟨σ',H',I,q⟩:=h;exact⟨σ',H',I.unwish,q⟩
 |brk=>obtain⟨σ',H',I,q⟩:=h;exact⟨σ',H',I.unwish,q⟩
 |cont=>obtain⟨σ',H',I,q⟩:=h;exact⟨σ',H',I.unwish,q⟩
 |ret u=>obtain⟨v,σ',H',I,r,q⟩:=h;exact⟨v,σ',H',I.unwish,r,q⟩
theorem PSs.nox{st:List Stmt}{t:TS}(h:PSs X.nox st t):PSs X st t:=fun pins s σ H D I hw =>
 ZX (h pins s σ H D (I.wish _) hw) (fun _ _ q=>q.unwish) fun _ _ z=>False.elim z
end
section
variable{X:Cx}{st:Stmt}{rest:List Stmt}{t u:TS}{e:Expr}{te:TE}{pos:Pos}
def xQ:TS:=fun D σ H=>D.nx σ H
def BZ(t u:TS):TS:=fun D σ H=>t { D with nx:=u D } σ H
theorem DO:PSs X [] xQ:=fun _ _ σ H _ I h=>wpAny_execs_nil ⟨σ,H,I,h⟩
theorem BI(h1:PS X st t)(h2:PSs X rest u):PSs X (st::rest) (BZ t u):=by
 intro pins s σ H D I h;refine wpAny_execs_cons (thn (h1 pins s σ H { D with nx:=u D } I h) fun f s1 q=>?_);cases f with
 |next =>obtain⟨σ',H',I',q⟩:=q;exact h2 pins s1 σ' H' D I' q
 |ret v=>exact q
 |brk=>exact q
 |cont=>exact q
theorem DP(h1:PS X st t):PSs X [st] t:=by
 intro pins s σ H D I h;refine wpAny_execs_cons (thn (h1 pins s σ H D I h) fun f s1 q=>?_);cases f with
 |next=>exact wpAny_execs_nil q
 |ret v=>exact q
 |brk=>exact q
 |cont=>exact q
theorem Inv.quiet{pins:List (Addr×Obj)}{σ:St}{H:Hp}{s:Shared}(I:Inv X pins σ H s):interactive X.env=false:=by simp[interactive,I.ok.kind]
def xO(te:TE):TS:=fun D σ H=>te σ H fun _ H1=>D.nx σ H1
theorem DM(he:PE X e te)(hs:swapsWith e none pos.line X.env=pure false:=by rfl):PS X (.Expr e pos) (xO te):=by intro pins s σ H D I h;exact wpAny_Expr_any (thn (he pins s σ H _ I h) fun v s1 ⟨x,H1,I1,r1,q1⟩=>⟨σ,H1,I1,q1⟩) I.quiet hs
def Gu(te:TE):TS:=fun D σ H=>te σ H D.rt
theorem FL(he:PE X e te):PS X (.Return (some e) pos) (Gu te):=by intro pins s σ H D I h;exact wpAny_Return_some (thn (he pins s σ H _ I h) fun v s1 ⟨x,H1,I1,r1,q1⟩=>⟨x,σ,H1,I1,r1,q1⟩)
def BY(c:TT)(t u:TS):TS:=fun D σ H=>c σ H fun b H1=>if b=true then t D σ H1 else u D σ H1
theorem Hg{c:Expr}{a b:List Stmt}{tc:TT}(hc:PT X c tc)(ha:PSs X a t)(hb:PSs X b u):PS X (.If c a b pos) (BY tc t u):=by
 intro pins s σ H D I h;refine wpAny_If (thn (hc pins s σ H _ I h) fun d s1 ⟨H1,I1,q1⟩=>?_);cases d with
 |true=>exact ha pins s1 σ H1 D I1 q1
 |false=>exact hb pins s1 σ H1 D I1 q1
end
abbrev TG:=V->St->Hp->(St->Hp->Prop)->Prop
abbrev TGs:=List V->St->Hp->(St->Hp->Prop)->Prop
def PG(X:Cx)(target:Expr)(t:TG):Prop :=
 ∀(pins:List (Addr×Obj)) (s:Shared) (σ:St) (H:Hp) (v:V) (u:Value) (Q:St->Hp->Prop),Inv X pins σ H s->RelV v u->t v σ H Q ->
  wpAny (model X.prog X.w) X.A (assign target X.env u) (fun _ s'=>∃σ' H',Inv X pins σ' H' s'/\Q σ' H') X.xe s
def PGs(X:Cx)(ts:List Expr)(t:TGs):Prop :=
 ∀(pins:List (Addr×Obj)) (s:Shared) (σ:St) (H:Hp) (vs:List V) (us:List Value) (Q:St->Hp->Prop),Inv X pins σ H s->Vals vs us->t vs σ H Q ->
  wpAny (model X.prog X.w) X.A (assignInOrder ((assignEach ts X.env).map (·.2)) us) (fun _ s'=>∃σ' H',Inv X pins σ' H' s'/\Q σ' H') X.xe s
abbrev rG:=V->V->V->Hp->(Hp->Prop)->Prop
def AK(X:Cx)(t:rG):Prop :=
 ∀(pins:List (Addr×Obj)) (s:Shared) (σ:St) (H:Hp) (o i v:V) (ov iv u:Value) (Q:Hp->Prop),Inv X pins σ H s->RelV o ov->RelV i iv->RelV v u->t o i v H Q ->
  wpAny (model X.prog X.w) X.A (setItem ov iv u) (fun _ s'=>∃H',Inv X pins σ H' s'/\Q H') X.xe s
abbrev TIp:=V->V->Hp->VK->Prop
def PIp(X:Cx)(op:Operator)(t:TIp):Prop :=
 ∀(pins:List (Addr×Obj)) (s:Shared) (σ:St) (H:Hp) (x y:V) (v u:Value) (Q:VK),Inv X pins σ H s->RelV x v->RelV y u->t x y H Q ->
  wpAny (model X.prog X.w) X.A (inplaceOp op v u) (EP X pins σ Q) X.xe s
section
variable{X:Cx}{pos:Pos}
def bw(i:Nat):TG:=fun v σ H Q=>Q (σ.set i (some v)) H
theorem DE{i:Nat}{x:Str}(hN:X.N.Nodup)(hi:X.N[i]?=some x)(hx:Loc X.env.scope x)(hf:X.fn x=true\/X.env.scope.names.lookup x=some .local:=by first|exact .inl rfl|exact .inr rfl|assumption):PG X (.Name x pos) (bw i):=by intro pins s σ H v u Q I r h;exact wpAny_assign_Name (jh I hN hi hx r (fun s' I'=>⟨_,H,I',h⟩) hf)
def lJ:TGs:=fun vs σ H Q=>vs=[]/\Q σ H
def fB(t:TG)(u:TGs):TGs:=fun vs σ H Q=>∃v r,vs=v::r/\t v σ H fun σ' H'=>u r σ' H' Q
theorem DF:PGs X [] lJ:=by intro pins s σ H vs us Q I r h;obtain⟨e,h⟩:=h;subst e;cases r;exact assignInOrder_nil ⟨σ,H,I,h⟩
theorem BC{e:Expr}{es:List Expr}{t:TG}{u:TGs}(h1:PG X e t)(h2:PGs X es u)(hs:(assignEach (e::es) X.env).map (·.2)=assign e X.env::(assignEach es X.env).map (·.2):=by rfl):PGs X (e::es) (fB t u):=by
 intro pins s σ H vs us Q I r h;obtain⟨v,vr,e1,h⟩:=h;subst e1;cases r with
 |cons r rr =>rw[hs];refine assignInOrder_cons (thn (h1 pins s σ H _ _ _ I r h) fun _ s1 ⟨σ1,H1,I1,q1⟩=>?_);exact h2 pins s1 σ1 H1 _ _ Q I1 rr q1
def lK(K:PySem.W.Frag)(n:Nat)(t:TGs):TG:=fun v σ H Q=>∃a xs,v=.ref a/\SqT K H a xs/\xs.length=n/\t xs σ H Q
theorem FB{es:List Expr}{k:Nat}{t:TGs}{n:Nat}(hc:X.calm=true)(h:PGs X es t)(hn:(assignEach es X.env).length=n:=by rfl)(hst:(assignEach es X.env).findIdx? (·.1)=none:=by rfl):PG X (.Tuple es k pos) (lK X.K n t):=by intro pins s σ H v u Q I r hw;obtain⟨a,xs,e1,hq,hl,hw⟩:=hw;subst e1;cases r;obtain⟨its,rv,ht,hz⟩:=I.tuple hq;refine assign_Tuple_tuple (I.ok.hd hc) ht (by simp[hn,<-hl,rv.length]) hst fun h' hx=>?_;have I1:Inv X pins σ H { s with heap:=h' }:=I.kept (t':=s.toks) fun b o e=>hx b o (Zv (Zn e)) e;exact h pins _ σ H xs _ Q I1 (by simpa using rv) hw
def EK(to ti:TE)(t:rG):TG:=fun v σ H Q=>to σ H fun o H1=>ti σ H1 fun i H2=>t o i v H2 fun H3=>Q σ H3
theorem FA{o i:Expr}{to ti:TE}{t:rG}(ho:PE X o to)(hi:PE X i ti)(hs:AK X t)(ha:∀ v,assign (.Subscript o i pos) X.env v=(do
   let ov ←holding [v] (eval o X.env)
   let iv ←holding [v,ov] (eval i X.env)
   standAt pos
   holding [v,ov,iv] (setItem ov iv v)
   release [v,ov,iv] []):=by intro _;rfl):PG X (.Subscript o i pos) (EK to ti t):=by
 intro pins s σ H v u Q I r h;rw[ha];refine z6 (Z4 (thn (ho pins s σ H _ I h) fun ov s1 hz9=>?_));obtain⟨x,H1,I1,r1,q1⟩:=hz9;refine z6 (Z4 (thn (hi pins s1 σ H1 _ I1 q1) fun iv s2 hz9=>?_));obtain⟨y,H2,I2,r2,q2⟩:=hz9;refine z6 (wpAny_standAt (z6 (Z4 (thn (hs pins s2 σ H2 x y v ov iv u _ I2 r1 r2 r q2) fun _ s3 ⟨H3,I3,q3⟩=>?_))));exact wpAny_release ⟨σ,H3,I3,q3⟩
def pX(te:TE)(g:TG):TS:=fun D σ H=>te σ H fun x H1=>g x σ H1 D.nx
theorem FH{tg e:Expr}{te:TE}{g:TG}(he:PE X e te)(hg:PG X tg g)(hs:swapsWithSole [tg] e pos.line X.env=pure false:=by rfl)(hw:swappedStores [tg] e X.env=pure none:=by rfl)(h1:(assignEach [tg] X.env).map (·.2)=[assign tg X.env]:=by rfl):PS X (.Assign [tg] e pos) (pX te g):=by intro pins s σ H D I h;refine wpAny_Assign_stores (thn (he pins s σ H _ I h) fun v s1 hz9=>?_) hs hw;obtain⟨x,H1,I1,r1,q1⟩:=hz9;rw[h1];exact thn (hg pins s1 σ H1 x v _ I1 r1 q1) fun _ s2 q=>q
theorem FM{i:Nat}{x:Str}{e:Expr}{te:TE}{pos':Pos}(hN:X.N.Nodup)(hi:X.N[i]?=some x)(hx:Loc X.env.scope x)(he:PE X e te)(hs:swapsWith e (some (.Name x pos')) pos.line X.env=pure false:=by rfl)(hf:X.fn x=true\/X.env.scope.names.lookup x=some .local:=by first|exact .inl rfl|exact .inr rfl|assumption) :
  PS X (.Assign [.Name x pos'] e pos) (pX te (bw i)):=by
 intro pins s σ H D I h;refine wpAny_Assign_Name (thn (he pins s σ H _ I h) fun v s1 hz9=>?_) hs;obtain⟨y,H1,I1,r1,q1⟩:=hz9;exact jh I1 hN hi hx r1 (fun s2 I2=>⟨_,H1,I2,q1⟩) hf
def Gm(i:Nat)(te:TE)(ti:TIp):TS:=fun D σ H=>∃x,σ[i]?=some (some x)/\te σ H fun y H1=>ti x y H1 fun z H2=>D.nx (σ.set i (some z)) H2
theorem FI{i:Nat}{x:Str}{e:Expr}{te:TE}{op:Operator}{ti:TIp}{pos':Pos}(hN:X.N.Nodup)(hi:X.N[i]?=some x)(hx:Loc X.env.scope x)(he:PE X e te)(ho:PIp X op ti)(hf:X.fn x=true\/X.env.scope.names.lookup x=some .local:=by first|exact .inl rfl|exact .inr rfl|assumption) :
  PS X (.AugAssign (.Name x pos') op e pos) (Gm i te ti):=by
 intro pins s σ H D I h;obtain⟨v,e1,h⟩:=h;obtain⟨m,hn,hl⟩:=I.loc;have vis:Vis X.env.scope x:=by rcases hx with k|k;exact .inl k;exact .inr (.inl k)
 obtain⟨u,r,l⟩:=hl i x v hi e1 vis;refine wpAny_AugAssign_Name ?_;have go:wpAny (model X.prog X.w) X.A (eval e X.env) (fun w s₂=>wpAny (model X.prog X.w) X.A (inplaceOp op u w) (fun r s₃=>wpAny (model X.prog X.w) X.A (storeName X.env x r) (fun _=>SP X pins D .next) X.xe s₃) X.xe s₂) X.xe s:=by refine thn (he pins s σ H _ I h) fun w s1 hz9=>?_;obtain⟨y,H1,I1,r1,q1⟩:=hz9;refine thn (ho pins s1 σ H1 v y u w _ I1 r r1 q1) fun z s2 hz9=>?_;obtain⟨zv,H2,I2,r2,q2⟩:=hz9;exact jh I2 hN hi hx r2 (fun s3 I3=>⟨_,H2,I3,q2⟩) hf
 rcases l with⟨hk,hm⟩|⟨hk,c,hc,hcell⟩
 ·exact wpAny_loadName_local I.ok.kind hk hn hm go
 ·rcases hk with hk|hk
  ·exact wpAny_loadName_cell I.ok.kind hk hc hcell go
  ·rcases hx with k|k
   ·have:X.env.scope.names.lookup x=some .free:=hk;rw[k]at this;cases this
   ·have:X.env.scope.names.lookup x=some .free:=hk;rw[k]at this;cases this
def ipI(f:Int->Int->Int):TIp:=fun x y H Q=>∃i j,x=.int i/\y=.int j/\Q (.int (f i j)) H
theorem ER:PIp X .Add (ipI fun i j=>i+j):=by intro pins s σ H x y v u Q I r1 r2 h;obtain⟨i,j,e1,e2,q⟩:=h;subst e1;subst e2;obtain⟨t,rfl⟩:=r1;obtain⟨t',rfl⟩:=r2;exact iadd_int ⟨.int _,H,I.tok _,⟨_,rfl⟩,q⟩
end
section
variable{X:Cx}{pos:Pos}
def Ap(c:TT)(tb:TS):TS:=fun D σ H=>∃W:Nat->St->Hp->Prop,(∃m,W m σ H)/\∀m σ H,W m σ H ->
 c σ H fun b H1=>if b=true then∃N:St->Hp->Prop,(∀σ' H',N σ' H'->∃m',m'<m/\W m' σ' H')/\tb { D with nx:=N,ct:=N,bk:=D.nx } σ H1 else D.nx σ H1
theorem BH{c:Expr}{body:List Stmt}{tc:TT}{tb:TS}(hp:PassesOwn (model X.prog X.w) X.A X.env X.xe)(hc:PT X c tc)(hb:PSs X body tb):PS X (.While c body [] pos) (Ap tc tb):=by
 intro pins s σ H D I h;obtain⟨W,⟨m0,w0⟩,turn⟩:=h;refine wpAny_While (codeAny_whileLoop (fun n s'=>∃σ' H',Inv X pins σ' H' s'/\W n σ' H') ?_ m0 ⟨σ,H,I,w0⟩);rintro n s1 ⟨σ1,H1,I1,w1⟩;refine wpAny_passesOwn hp (thn (hc pins s1 σ1 H1 _ I1 (turn n σ1 H1 w1)) fun b s2 ⟨H2,I2,q2⟩=>?_);cases b with
 |true =>
  obtain⟨N,hN,q2⟩:=q2;rw[Jv rfl];refine wpAny_passesOwn hp (thn (hb pins s2 σ1 H2 _ I2 q2) fun f s3 q3=>?_);cases f with
  |next =>obtain⟨σ3,H3,I3,n3⟩:=q3;obtain⟨m',hm,w3⟩:=hN σ3 H3 n3;exact⟨m',hm,σ3,H3,I3,w3⟩
  |cont =>obtain⟨σ3,H3,I3,n3⟩:=q3;obtain⟨m',hm,w3⟩:=hN σ3 H3 n3;exact⟨m',hm,σ3,H3,I3,w3⟩
  |brk=>exact q3
  |ret v=>exact q3
 |false =>rw[Ju Zr];exact wpAny_execs_nil ⟨σ1,H2,I2,q2⟩
end
structure It where
 go:Nat->Hp->Prop
 yld:Nat->Hp->V->Hp->Prop
 stop:Nat->Hp->Prop
def bv(X:Cx)(pins:List (Addr×Obj))(H:Hp)(b:Addr):Prop :=
 H b=none/\b≠X.env.locals/\b∉X.fs/\(b∈X.ex\/X.s₀.heap.objs.size<=b)/\(∀x c,X.env.cells.lookup x=some c->c≠b)/\∀p∈X.pn++pins,p.1≠b
theorem Inv.fpOk{X:Cx}{pins:List (Addr×Obj)}{σ:St}{H H':Hp}{s:Shared}{b:Addr}(I:Inv X pins σ H s)(hb:s.heap.objs.size<=b)(hn:H' b=none):bv X pins H' b:=by
 refine⟨hn,Yg (Zw I.lt hb),I.nofs hb,.inr (ZZ I.sz hb),fun x c e z=>?_,fun p hp z=>?_⟩
 ·obtain⟨v,q⟩:=I.cell x c e;exact absurd (Zw q.lt (by rw[z];exact hb)) (YM _)
 ·exact absurd (Zw (Zn (I.pin p hp).1) (by rw[z];exact hb)) (YM _)
structure Turn(P:Program)(w:World)(K:PySem.W.Frag)(tg:Expr)(J:It)(fp:List Addr)(it:Addr)(tn:Nat->Heap->Prop):Prop where
 mem:it∈fp
 obj:∀i h,tn i h->∀b∈fp,∃o,h.get? b=some o/\∀v,o.data≠.cell v
 keep:∀i h h',tn i h->(∀b∈fp,∀o,h.get? b=some o->h'.get? b=some o)->tn i h'
 item:∀(X:Cx),X.prog=P->X.w=w->X.K=K->X.calm=true->∀(i:Nat) (pins:List (Addr×Obj)) (s:Shared) (σ:St) (H:Hp) (E:Value->Shared->Prop),Inv X pins σ H s->(∀b∈fp,bv X pins H b)->tn i s.heap->J.go i H ->
  wpAny (model P w) X.A (pyNext (.ref it)) (fun r s1=>∃ u,r=some u /\
   wpAny (model P w) X.A (letOwnedTupleGo tg (.ref it) u) (fun _ s2=>∃ x H',Inv X pins σ H' s2/\RelV x u/\J.yld i H x H'/\tn (i+1) s2.heap/\∀ b∈fp,H' b=none) E s1) E s
 done:∀(X:Cx),X.prog=P->X.w=w->X.K=K->X.calm=true->∀(i:Nat) (pins:List (Addr×Obj)) (s:Shared) (σ:St) (H:Hp) (E:Value->Shared->Prop),Inv X pins σ H s->(∀b∈fp,bv X pins H b)->tn i s.heap->J.stop i H ->
  wpAny (model P w) X.A (pyNext (.ref it)) (fun r s1=>r=none/\Inv X pins σ H s1) E s
 self:∀(A:Around) (i:Nat) (s:Shared) (Q:Value->Shared->Prop) (E:Value->Shared->Prop),tn i s.heap->Q (.ref it) s->wpAny (model P w) A (pyIter (.ref it)) Q E s
abbrev TI:=St->Hp->(It->Hp->Prop)->Prop
def PIE(X:Cx)(pins:List (Addr×Obj))(σ:St)(tg:Expr)(R:It->Hp->Prop)(itv:Value)(s2:Shared):Prop :=
 ∃(it:Addr) (fp:List Addr) (tn:Nat->Heap->Prop) (J:It) (H':Hp),itv=.ref it/\Inv X pins σ H' s2/\Turn X.prog X.w X.K tg J fp it tn/\tn 0 s2.heap/\(∀b∈fp,bv X pins H' b)/\R J H'
def PI(X:Cx)(tg iter:Expr)(wi:TI):Prop :=
 ∀(pins:List (Addr×Obj)) (s:Shared) (σ:St) (H:Hp) (R:It->Hp->Prop),Inv X pins σ H s->wi σ H R ->
  wpAny (model X.prog X.w) X.A (eval iter X.env) (fun v s1=>wpAny (model X.prog X.w) X.A (pyIter v) (PIE X pins σ tg R) X.xe s1) X.xe s
theorem mF{M:Model}{A:Around}{E:Value->Shared->Prop}{s:Shared}{tg:Expr}{it:Addr}{u:Value}{o:Obj}{n:String}{vs:Array Value}{Q:Unit->Shared->Prop}(ho:s.heap.get? it=some o)(hc:o.cls=.type n)(hd:o.data=.fields vs)(hn:["enumerate","zip","dict_itemiterator","dict_reverseitemiterator","odict_iterator","itertools.zip_longest","itertools.pairwise"].contains n=false)(hQ:Q () s):wpAny M A (letOwnedTupleGo tg (.ref it) u) Q E s:=by
 unfold letOwnedTupleGo;cases tg<;>first
  |exact Za hQ
  | (cases u<;>first
    |exact Za hQ
    | (refine z6 (wpAny_load ho ?_)
       rw[hc,hd];show wpAny M A (if(["enumerate","zip","dict_itemiterator","dict_reverseitemiterator","odict_iterator","itertools.zip_longest","itertools.pairwise"].contains n&&vs[0]?==some (rawInt _))=true then _ else _) Q E s;rw[Ju (by intro h;rw[hn,YO]at h;cases h)];exact Za hQ))
def Itl(K:PySem.W.Frag)(a:Addr):It :=
 ⟨fun i H=>∃xs x,SqL K H a xs/\xs[i]?=some x,fun i H x H'=>H'=H/\∀xs,SqL K H a xs->xs[i]?=some x,fun i H=>∃xs,SqL K H a xs/\xs.length<=i⟩
def Itt(K:PySem.W.Frag)(a:Addr):It :=
 ⟨fun i H=>∃xs x,SqT K H a xs/\xs[i]?=some x,fun i H x H'=>H'=H/\∀xs,SqT K H a xs->xs[i]?=some x,fun i H=>∃xs,SqT K H a xs/\xs.length<=i⟩
def Itr(lo:Int)(n:Nat):It:=⟨fun i _=>i<n,fun i H x H'=>H'=H/\x=.int (lo+i),fun i _=>n<=i⟩
theorem As{P:Program}{w:World}{K:PySem.W.Frag}{tg:Expr}(a it:Addr):Turn P w K tg (Itl K a) [it] it (fun i h=>h.IsListIter it a i) where
 mem:=by simp
 obj:=fun i h st b hb=>by
  have e:b=it:=by simpa using hb
  subst e;obtain⟨o,e,c,d⟩:=st;exact⟨o,e,fun v z=>by rw[d]at z;cases z⟩
 keep:=fun i h h' st k=>st.at fun o e=>k it (by simp) o e
 item:=by intro X hP hw hK hc i pins s σ H E I hf st hg;subst hP hw hK;obtain⟨xs,x,hq,hx⟩:=hg;obtain⟨its,rv,p,hz⟩:=I.list hq;obtain⟨u,hu,ru⟩:=rv.get hx;obtain⟨f0,f1,f2,f3,f4,f5⟩:=hf it (by simp);refine wpAny_pyNext_list_item st p.isList (x:=u) (by simpa using hu) fun h' st' sb=>?_;have I1:Inv X pins σ H { s with heap:=h' }:=I.turned (t':=s.toks) (fun b o hb e=>(sb.2 b hb).trans e) f0 f1 f3 f4 f5;obtain⟨o,e,c,d⟩:=id st';exact⟨u,rfl,mF (s:={ s with heap:=h' }) e c d (by decide) ⟨x,H,I1,ru,⟨rfl,fun ys hy=>by rw[I.list_inj hy hq];exact hx⟩,st',fun b hb=>(hf b hb).1⟩⟩
 done:=by intro X hP hw hK hc i pins s σ H E I hf st hg;subst hP hw hK;obtain⟨xs,hq,hx⟩:=hg;obtain⟨its,rv,p,hz⟩:=I.list hq;obtain⟨f0,f1,f2,f3,f4,f5⟩:=hf it (by simp);have hl:=rv.length;exact wpAny_pyNext_list_end (I.ok.hd hc) st p.isList (by simp;omega) fun h' eb=>⟨rfl,I.turned (t':=s.toks) (fun b o hb e=>eb b o hb e) f0 f1 f3 f4 f5⟩
 self:=fun _ _ _ _ _ st h=>wpAny_pyIter_listiter st h
theorem xT{P:Program}{w:World}{K:PySem.W.Frag}{tg:Expr}(a it:Addr):Turn P w K tg (Itt K a) [it] it (fun i h=>h.IsTupleIter it a i) where
 mem:=by simp
 obj:=fun i h st b hb=>by
  have e:b=it:=by simpa using hb
  subst e;obtain⟨o,e,c,d⟩:=st;exact⟨o,e,fun v z=>by rw[d]at z;cases z⟩
 keep:=fun i h h' st k=>st.at fun o e=>k it (by simp) o e
 item:=by intro X hP hw hK hc i pins s σ H E I hf st hg;subst hP hw hK;obtain⟨xs,x,hq,hx⟩:=hg;obtain⟨its,rv,p,hz⟩:=I.tuple hq;obtain⟨u,hu,ru⟩:=rv.get hx;obtain⟨f0,f1,f2,f3,f4,f5⟩:=hf it (by simp);refine wpAny_pyNext_tuple_item st (show s.heap.IsTuple a its.toArray from p) (x:=u) (by simpa using hu) fun h' st' sb=>?_;have I1:Inv X pins σ H { s with heap:=h' }:=I.turned (t':=s.toks) (fun b o hb e=>(sb.2 b hb).trans e) f0 f1 f3 f4 f5;obtain⟨o,e,c,d⟩:=id st';exact⟨u,rfl,mF (s:={ s with heap:=h' }) e c d (by decide) ⟨x,H,I1,ru,⟨rfl,fun ys hy=>by rw[I.tuple_inj hy hq];exact hx⟩,st',fun b hb=>(hf b hb).1⟩⟩
 done:=by intro X hP hw hK hc i pins s σ H E I hf st hg;subst hP hw hK;obtain⟨xs,hq,hx⟩:=hg;obtain⟨its,rv,p,hz⟩:=I.tuple hq;obtain⟨f0,f1,f2,f3,f4,f5⟩:=hf it (by simp);have hl:=rv.length;exact wpAny_pyNext_tuple_end (I.ok.hd hc) st (show s.heap.IsTuple a its.toArray from p) (by simp;omega) fun h' eb=>⟨rfl,I.turned (t':=s.toks) (fun b o hb e=>eb b o hb e) f0 f1 f3 f4 f5⟩
 self:=fun _ _ _ _ _ st h=>wpAny_pyIter_tupleiter st h
theorem xS{P:Program}{w:World}{K:PySem.W.Frag}{tg:Expr}(it:Addr)(lo:Int)(n:Nat):Turn P w K tg (Itr lo n) [it] it (fun i h=>IsRangeIter h it (lo+(i:Nat)*1) ((n:Int)-(i:Nat)) 1) where
 mem:=by simp
 obj:=fun i h st b hb=>by
  have e:b=it:=by simpa using hb
  subst e;exact⟨_,st,fun v z=>by
   have z':Data.fields _=Data.cell v:=z;cases z'⟩
 keep:=fun i h h' st k=>k it (by simp) _ st
 item:=by intro X hP hw hK hc i pins s σ H E I hf st hg;subst hP hw hK;obtain⟨f0,f1,f2,f3,f4,f5⟩:=hf it (by simp);have W:=Walks.range (prog:=X.prog) (w:=X.w) (I.ok.hd hc) it lo 1 n;refine W.item i s _ _ hg st fun v h' tk hv st' kk=>?_;obtain⟨t,rfl⟩:=hv;have I1:Inv X pins σ H { s with heap:=h',toks:=tk }:=I.turned (fun b o hb e=>kk b o (by simpa using hb) e) f0 f1 f3 f4 f5;refine⟨_,rfl,mF (s:={ s with heap:=h',toks:=tk }) (n:="range_iterator") st' rfl rfl (by decide) ⟨.int (lo+i),H,I1,⟨t,?_⟩,⟨rfl,rfl⟩,st',fun b hb=>(hf b hb).1⟩⟩;rw[Int.mul_one]
 done:=by intro X hP hw hK hc i pins s σ H E I hf st hg;subst hP hw hK;obtain⟨f0,f1,f2,f3,f4,f5⟩:=hf it (by simp);exact wpAny_pyNext_range_end (I.ok.hd hc) st (by have:n<=i:=hg;omega) fun h' eb=>⟨rfl,I.turned (t':=s.toks) (fun b o hb e=>eb b o hb e) f0 f1 f3 f4 f5⟩
 self:=fun _ _ _ _ _ st h=>wpAny_pyIter_rangeiter st h
open PySem PySem.Spec PyProof.Rows
section
variable{X:Cx}{tg:Expr}
def Cj(K:PySem.W.Frag)(tl:TE):TI:=fun σ H R=>tl σ H fun x H1=>∃a,x=.ref a/\(∃xs,SqL K H1 a xs)/\R (Itl K a) H1
def EN(K:PySem.W.Frag)(tl:TE):TI:=fun σ H R=>tl σ H fun x H1=>∃a,x=.ref a/\(∃xs,SqT K H1 a xs)/\R (Itt K a) H1
theorem DH{l:Expr}{tl:TE}(hl:PE X l tl):PI X tg l (Cj X.K tl):=by
 intro pins s σ H R I h;refine thn (hl pins s σ H _ I h) fun v s1 hz9=>?_;obtain⟨x,H1,I1,r1,q1⟩:=hz9;obtain⟨a,e,⟨xs,hq⟩,q⟩:=q1;subst e;cases r1;obtain⟨its,rv,p,hz⟩:=I1.list hq;refine wpAny_pyIter_list p.isList ?_;refine⟨s1.heap.objs.size,[s1.heap.objs.size],_,_,H1,rfl,I1.kept (t':=s1.toks) fun b o e=>z9 _ e,As a _,⟨_,Zk _ rfl,rfl,rfl⟩,fun b hb=>?_,q⟩;have e:b=s1.heap.objs.size:=by simpa using hb
 subst e;exact I1.fpOk (Ze _) (I1.hok.fresh (Ze _))
theorem FD{l:Expr}{tl:TE}(hl:PE X l tl):PI X tg l (EN X.K tl):=by
 intro pins s σ H R I h;refine thn (hl pins s σ H _ I h) fun v s1 hz9=>?_;obtain⟨x,H1,I1,r1,q1⟩:=hz9;obtain⟨a,e,⟨xs,hq⟩,q⟩:=q1;subst e;cases r1;obtain⟨its,rv,p,hz⟩:=I1.tuple hq;refine Xf (show s1.heap.IsTuple a its.toArray from p) ?_;refine⟨s1.heap.objs.size,[s1.heap.objs.size],_,_,H1,rfl,I1.kept (t':=s1.toks) fun b o e=>z9 _ e,xT a _,⟨_,Zk _ rfl,rfl,rfl⟩,fun b hb=>?_,q⟩;have e:b=s1.heap.objs.size:=by simpa using hb
 subst e;exact I1.fpOk (Ze _) (I1.hok.fresh (Ze _))
theorem BO{pins:List (Addr×Obj)}{σ:St}{H:Hp}{s:Shared}{R:It->Hp->Prop}{E:Value->Shared->Prop}{lo hi:Int}{t u v:Tok}{tk:Nat}(I:Inv X pins σ H s)(h1:-(2^62)<=lo)(h2:lo<2^62)(h3:-(2^62)<=hi)(h4:hi<2^62)(q:R (Itr lo (hi-lo).toNat) H):wpAny (model X.prog X.w) X.A (pyIter (.ref s.heap.objs.size)) (PIE X pins σ tg R) E { s with heap:=s.heap.push { cls:=.type "range",data:=.fields #[.int lo t,.int hi u,.int 1 v] },toks:=tk }:=by
 refine wpAny_pyIter_range (IsRange.new ..) (small_one h1 h2 h3 h4) ?_;have I1:Inv X pins σ H { s with heap:=s.heap.push { cls:=.type "range",data:=.fields #[.int lo t,.int hi u,.int 1 v] },toks:=tk }:=I.kept fun b o e=>z9 _ e;refine⟨(s.heap.push { cls:=.type "range",data:=.fields #[.int lo t,.int hi u,.int 1 v] }).objs.size,[(s.heap.push { cls:=.type "range",data:=.fields #[.int lo t,.int hi u,.int 1 v] }).objs.size],_,_,H,rfl,
  I1.kept (t':=tk) fun b o e=>z9 _ e,xS _ lo (hi - lo).toNat,?_,fun b hb=>?_,q⟩
 ·have e1:lo+((0:Nat):Int)*1=lo:=by simp
  have e2:(((hi-lo).toNat:Nat):Int)-((0:Nat):Int)=Builtin.Range.rangeSize lo hi 1:=by rw[rangeSize_one];split<;>omega
  show IsRangeIter _ _ (lo+((0:Nat):Int)*1) ((((hi-lo).toNat:Nat):Int)-((0:Nat):Int)) 1;rw[e1,e2];exact Zk _ rfl
 ·have e:b=(s.heap.push { cls:=.type "range",data:=.fields #[.int lo t,.int hi u,.int 1 v] }).objs.size:=by simpa using hb
  subst e;exact I1.fpOk (Ze _) (I1.hok.fresh (Ze _))
def Ck(ta:TA):TI:=fun σ H R=>ta σ H fun vs H1=>∃j:Int,vs=[.int j]/\-(2^62)<=j/\j<2^62/\R (Itr 0 j.toNat) H1
theorem zA{a:Expr}{ta:TA}{p pos:Pos}(hg:Gl X "range")(hm:X.mg "range" = none)(ha:PA X [a] ta)(hs:starEach [a] X.env=[(false,eval a X.env)]:=by rfl):PI X tg (.Call (.Name "range" p) [a] [] pos) (Ck ta):=by
 intro pins s σ H R I h;refine Call_ (eG I hg hm boot_range (YT (thn (ha pos pins s σ H _ I h) fun us s1 hz9=>?_) hs rfl));obtain⟨vs,H1,I1,r1,q1⟩:=hz9;obtain⟨j,e,q1,q2,q⟩:=q1;subst e;cases r1 with
 |cons r rr =>cases rr;obtain⟨t,rfl⟩:=r;exact call_range_1 (BO I1 (by omega) (by omega) q1 q2 (by simpa using q))
def Go(wi:TI)(g:TG)(tb:TS):TS:=fun D σ H=>wi σ H fun J H1=>∃W:Nat->Nat->St->Hp->Prop,(∃m,W 0 m σ H1)/\∀i m σ H,W i m σ H ->
 (J.stop i H/\D.nx σ H)\/(J.go i H/\∃N:St->Hp->Prop,(∀σ' H',N σ' H'->∃m',m'<m/\W (i+1) m' σ' H')/\∀x H',J.yld i H x H'->g x σ H' fun σ2 H2=>tb { D with nx:=N,ct:=N,bk:=D.nx } σ2 H2)
def jD(fp:List Addr)(h:Heap):List (Addr×Obj):=fp.filterMap fun b=>(h.get? b).map fun o=>(b,o)
theorem fU{fp:List Addr}{h:Heap}{b:Addr}{o:Obj}(hb:b∈fp)(e:h.get? b=some o):(b,o)∈jD fp h:=List.mem_filterMap.mpr ⟨b,hb,by rw[e];rfl⟩
theorem zh{fp:List Addr}{h:Heap}{p:Addr×Obj}(hp:p∈jD fp h):p.1∈fp/\h.get? p.1=some p.2:=by
 obtain⟨b,hb,e⟩:=List.mem_filterMap.mp hp;cases q:h.get? b with
 |none=>rw[q]at e;cases e
 |some o =>rw[q]at e;have e':(b,o)=p:=ZE e;subst e';exact⟨hb,q⟩
theorem Inv.pinned{pins:List (Addr×Obj)}{σ:St}{H:Hp}{s:Shared}{fp:List Addr}(I:Inv X pins σ H s)(hf:∀b∈fp,bv X pins H b)(ho:∀b∈fp,∃o,s.heap.get? b=some o/\∀v,o.data≠.cell v):Inv X (pins++jD fp s.heap) σ H s :=
 I.pins_of fun p hp=>(Zt.mp hp).elim (fun z=>I.pin p (ZD _ z)) fun z=>by obtain⟨hb,e⟩:=zh z;obtain⟨f0,f1,f2,_⟩:=hf p.1 hb;obtain⟨o,e',d⟩:=ho p.1 hb;rw[e]at e';cases e';exact⟨e,f0,f1,f2,d⟩
theorem Inv.unpinned{pins pl:List (Addr×Obj)}{σ:St}{H:Hp}{s:Shared}(I:Inv X (pins++pl) σ H s):Inv X pins σ H s:=I.pins_of fun p hp=>I.pin p (ZD _ (Z5 _ hp))
theorem FK{iter:Expr}{body:List Stmt}{wi:TI}{g:TG}{tb:TS}{pos:Pos}(hp:PassesOwn (model X.prog X.w) X.A X.env X.xe)(hc:X.calm=true)(hi:PI X tg iter wi)(hg:PG X tg g)(hb:PSs X body tb)(hs:∀x,foldedSetIterable iter X.env x=pure x:=by intro _;rfl):PS X (.For tg iter body [] pos) (Go wi g tb):=by
 intro pins s σ H D I h;refine wpAny_For (thn (hi pins s σ H _ I h) fun v s1 h1=>thn h1 fun itv s2 h2=>?_) hs;obtain⟨it,fp,tn,J,H2,e,I2,T,st2,f2,W,⟨m0,w0⟩,turn⟩:=h2;subst e;have stat:∀{H':Hp},(∀b∈fp,H' b=none)->∀b∈fp,bv X pins H' b:=fun hn b hb=>⟨hn b hb,(f2 b hb).2⟩
 refine codeAny_forLoop_any (fun n s'=>∃i σ' H',Inv X pins σ' H' s'/\tn i s'.heap/\(∀b∈fp,H' b=none)/\W i n σ' H') ?_ m0 ⟨0,σ,H2,I2,st2,fun b hb=>(f2 b hb).1,w0⟩;rintro n s3 ⟨i,σ3,H3,I3,st3,fr3,w3⟩;rcases turn i n σ3 H3 w3 with⟨stop,qn⟩|⟨go,N,hN,step⟩
 ·refine wpAny_passesOwn hp (thn (T.done X rfl rfl rfl hc i pins s3 σ3 H3 X.xe I3 (stat fr3) st3 stop) fun r s4 ⟨hr,I4⟩=>?_);subst hr;exact wpAny_execs_nil ⟨σ3,H3,I4,qn⟩
 ·refine wpAny_passesOwn hp (thn (T.item X rfl rfl rfl hc i pins s3 σ3 H3 X.xe I3 (stat fr3) st3 go) fun r s4 ⟨u,hr,h4⟩=>?_);subst hr;refine wpAny_passesOwn hp (thn h4 fun _ s5 hz9=>?_);obtain⟨x,H5,I5,r5,y5,st5,fr5⟩:=hz9;have I5':=I5.pinned (stat fr5) (T.obj _ _ st5);refine wpAny_passesOwn hp (thn (hg _ s5 σ3 H5 x u _ I5' r5 (step x H5 y5)) fun _ s6 ⟨σ6,H6,I6,q6⟩=>?_);refine wpAny_passesOwn hp (thn (hb _ s6 σ6 H6 _ I6 q6) fun f s7 q7=>?_);have again:∀{σ7:St} {H7:Hp},Inv X (pins++jD fp s5.heap) σ7 H7 s7->N σ7 H7->∃m,m<n/\∃i σ' H',Inv X pins σ' H' s7/\tn i s7.heap/\(∀b∈fp,H' b=none)/\W i m σ' H':=fun{σ7 H7} I7 n7=>by obtain⟨m',hm,w7⟩:=hN σ7 H7 n7;refine⟨m',hm,i+1,σ7,H7,I7.unpinned,T.keep _ _ _ st5 fun b hb o e=>(I7.pin (b,o) (ZD _ (ZD _ (fU hb e)))).1,fun b hb=>?_,w7⟩;obtain⟨o,e,d⟩:=T.obj _ _ st5 b hb;exact(I7.pin (b,o) (ZD _ (ZD _ (fU hb e)))).2.1
  cases f with
  |next=>obtain⟨σ7,H7,I7,n7⟩:=q7;exact again I7 n7
  |cont=>obtain⟨σ7,H7,I7,n7⟩:=q7;exact again I7 n7
  |brk=>obtain⟨σ7,H7,I7,q7⟩:=q7;exact⟨σ7,H7,I7.unpinned,q7⟩
  |ret v=>obtain⟨x7,σ7,H7,I7,r7,q7⟩:=q7;exact⟨x7,σ7,H7,I7.unpinned,r7,q7⟩
end
theorem rZ{K:PySem.W.Frag}{a:Addr}{xs:List V}{g:TG}{tb:TS}{D:Ends}{σ:St}{H:Hp}(Pv:Nat->St->Hp->Prop)(h0:Pv 0 σ H)(hl:∀i σ H,i<=xs.length->Pv i σ H->SqL K H a xs)(hs:∀i x σ H,xs[i]?=some x->Pv i σ H->g x σ H fun σ2 H2=>tb { D with nx:=Pv (i+1),ct:=Pv (i+1),bk:=D.nx } σ2 H2)(hd:∀σ H,Pv xs.length σ H->D.nx σ H) :
  ∃W:Nat->Nat->St->Hp->Prop,(∃m,W 0 m σ H)/\∀i m σ H,W i m σ H ->
   ((Itl K a).stop i H/\D.nx σ H)\/((Itl K a).go i H/\∃N:St->Hp->Prop,(∀σ' H',N σ' H'->∃m',m'<m/\W (i+1) m' σ' H')/\∀x H',(Itl K a).yld i H x H'->g x σ H' fun σ2 H2=>tb { D with nx:=N,ct:=N,bk:=D.nx } σ2 H2):=by
 refine⟨fun i m σ H=>m=xs.length-i/\i<=xs.length/\Pv i σ H,⟨xs.length,by simp,ZT _,h0⟩,?_⟩;rintro i m σ H ⟨rfl,hi,p⟩;have q:=hl i σ H hi p;by_cases hlt:i<xs.length
 ·refine .inr ⟨⟨xs,xs[i],q,by simp[hlt]⟩,Pv (i+1),fun σ' H' p'=>⟨xs.length-(i+1),by omega,rfl,hlt,p'⟩,fun x H' y=>?_⟩;obtain⟨e,y⟩:=y;subst e;exact hs i x σ _ (y xs q) p
 ·have e:i=xs.length:=by omega
  subst e;exact .inl ⟨⟨xs,q,Ze _⟩,hd σ H p⟩
theorem qq{lo:Int}{n:Nat}{g:TG}{tb:TS}{D:Ends}{σ:St}{H:Hp}(Pv:Nat->St->Hp->Prop)(h0:Pv 0 σ H)(hs:∀i σ H,i<n->Pv i σ H->g (.int (lo+i)) σ H fun σ2 H2=>tb { D with nx:=Pv (i+1),ct:=Pv (i+1),bk:=D.nx } σ2 H2)(hd:∀σ H,Pv n σ H->D.nx σ H) :
  ∃W:Nat->Nat->St->Hp->Prop,(∃m,W 0 m σ H)/\∀i m σ H,W i m σ H ->
   ((Itr lo n).stop i H/\D.nx σ H)\/((Itr lo n).go i H/\∃N:St->Hp->Prop,(∀σ' H',N σ' H'->∃m',m'<m/\W (i+1) m' σ' H')/\∀x H',(Itr lo n).yld i H x H'->g x σ H' fun σ2 H2=>tb { D with nx:=N,ct:=N,bk:=D.nx } σ2 H2):=by
 refine⟨fun i m σ H=>m=n-i/\i<=n/\Pv i σ H,⟨n,by simp,ZT _,h0⟩,?_⟩;rintro i m σ H ⟨rfl,hi,p⟩;by_cases hlt:i<n
 ·refine .inr ⟨hlt,Pv (i+1),fun σ' H' p'=>⟨n-(i+1),by omega,rfl,hlt,p'⟩,fun x H' y=>?_⟩;obtain⟨e,y⟩:=y;subst e y;exact hs i σ _ hlt p
 ·have e:i=n:=by omega
  subst e;exact .inl ⟨Ze _,hd σ H p⟩
open PySem PySem.Spec PyProof.Rows
abbrev R2:=V->V->Hp->VK->Prop
def OpR(X:Cx)(f:Value->Value->Sem Value)(r:R2):Prop :=
 ∀(pins:List (Addr×Obj)) (s:Shared) (σ:St) (H:Hp) (x y:V) (v u:Value) (Q:VK),Inv X pins σ H s->RelV x v->RelV y u->r x y H Q ->
  wpAny (model X.prog X.w) X.A (f v u) (EP X pins σ Q) X.xe s
def UnR(X:Cx)(f:Value->Sem Value)(r:V->Hp->VK->Prop):Prop :=
 ∀(pins:List (Addr×Obj)) (s:Shared) (σ:St) (H:Hp) (x:V) (v:Value) (Q:VK),Inv X pins σ H s->RelV x v->r x H Q ->
  wpAny (model X.prog X.w) X.A (f v) (EP X pins σ Q) X.xe s
def df(X:Cx)(f:Value)(r:List V->Hp->VK->Prop):Prop :=
 ∀(pins:List (Addr×Obj)) (s:Shared) (σ:St) (H:Hp) (xs:List V) (us:List Value) (Q:VK),Inv X pins σ H s->Vals xs us->r xs H Q ->
  wpAny (model X.prog X.w) X.A (call f us) (EP X pins σ Q) X.xe s
def tOp(r:R2)(ta tb:TE):TE:=fun σ H Q=>ta σ H fun x H1=>tb σ H1 fun y H2=>r x y H2 Q
def tUn(r:V->Hp->VK->Prop)(ta:TE):TE:=fun σ H Q=>ta σ H fun x H1=>r x H1 Q
def rI(C:Int->Int->Prop)(g:Int->Int->V):R2:=fun x y H Q=>∃i j,x=.int i/\y=.int j/\C i j/\Q (g i j) H
def rI0(g:Int->Int->V):R2:=fun x y H Q=>∃i j,x=.int i/\y=.int j/\Q (g i j) H
def rU(g:Int->V):V->Hp->VK->Prop:=fun x H Q=>∃i,x=.int i/\Q (g i) H
section
variable{X:Cx}{a b c:Expr}{ta tb tc:TE}{pos:Pos}
theorem AT(ha:PE X a ta)(hb:PE X b tb){pins:List (Addr×Obj)}{s:Shared}{σ:St}{H:Hp}{R:V->V->Hp->Prop}(I:Inv X pins σ H s)(h:ta σ H fun x H1=>tb σ H1 fun y H2=>R x y H2){Q:Value->Shared->Prop}{f:Value->Value->Sem Value}(hf:∀v u s2 x y H2,Inv X pins σ H2 s2->RelV x v->RelV y u->R x y H2->wpAny (model X.prog X.w) X.A (f v u) Q X.xe s2) :
  wpAny (model X.prog X.w) X.A (eval a X.env) (fun v s₁=>wpAny (model X.prog X.w) X.A (eval b X.env) (fun u s₂=>wpAny (model X.prog X.w) X.A (f v u) Q X.xe s₂) X.xe s₁) X.xe s:=by
 refine thn (ha pins s σ H _ I h) fun v s1 hz9=>?_;obtain⟨x,H1,I1,r1,q1⟩:=hz9;refine thn (hb pins s1 σ H1 _ I1 q1) fun u s2 hz9=>?_;obtain⟨y,H2,I2,r2,q2⟩:=hz9;exact hf v u s2 x y H2 I2 r1 r2 q2
theorem Hd{op:Operator}{r:R2}(ho:OpR X (binaryOp op) r)(ha:PE X a ta)(hb:PE X b tb):PE X (.BinOp a op b pos) (tOp r ta tb):=by intro pins s σ H Q I h;exact wpAny_BinOp (AT ha hb I h fun v u s2 x y H2 I2 rx ry q=>ho pins s2 σ H2 x y v u Q I2 rx ry q)
theorem Hf{op:UnaryOp}{r:V->Hp->VK->Prop}(ho:UnR X (unaryOp op) r)(ha:PE X a ta):PE X (.UnaryOp op a pos) (tUn r ta):=by intro pins s σ H Q I h;exact UnaryOp_ (thn (ha pins s σ H _ I h) fun v s1 ⟨x,H1,I1,r1,q1⟩=>ho pins s1 σ H1 x v Q I1 r1 q1)
theorem opI{f:Value->Value->Sem Value}{C:Int->Int->Prop}{g:Int->Int->Int}(rule:∀(i j:Int) (t u:Tok) (s:Shared) (Q:Value->Shared->Prop) (E:Value->Shared->Prop),C i j->Q (.int (g i j) s.toks) { s with toks:=s.toks+1 }->wpAny (model X.prog X.w) X.A (f (.int i t) (.int j u)) Q E s) :
  OpR X f (rI C fun i j=>.int (g i j)):=by
 intro pins s σ H x y v u Q I rx ry h;obtain⟨i,j,rfl,rfl,hc,q⟩:=h;obtain⟨t,rfl⟩:=rx;obtain⟨t',rfl⟩:=ry;exact rule i j t t' s _ _ hc ⟨.int (g i j),H,I.tok _,⟨_,rfl⟩,q⟩
theorem Fa{f:Value->Value->Sem Value}{g:Int->Int->Int}(rule:∀(i j:Int) (t u:Tok) (s:Shared) (Q:Value->Shared->Prop) (E:Value->Shared->Prop),Q (.int (g i j) s.toks) { s with toks:=s.toks+1 }->wpAny (model X.prog X.w) X.A (f (.int i t) (.int j u)) Q E s) :
  OpR X f (rI0 fun i j=>.int (g i j)):=by
 intro pins s σ H x y v u Q I rx ry h;obtain⟨i,j,rfl,rfl,q⟩:=h;obtain⟨t,rfl⟩:=rx;obtain⟨t',rfl⟩:=ry;exact rule i j t t' s _ _ ⟨.int (g i j),H,I.tok _,⟨_,rfl⟩,q⟩
theorem xx{f:Value->Value->Sem Value}{g:Int->Int->Bool}(rule:∀(i j:Int) (t u:Tok) (s:Shared) (Q:Value->Shared->Prop) (E:Value->Shared->Prop),Q (.bool (g i j)) s->wpAny (model X.prog X.w) X.A (f (.int i t) (.int j u)) Q E s) :
  OpR X f (rI0 fun i j=>.bl (g i j)):=by
 intro pins s σ H x y v u Q I rx ry h;obtain⟨i,j,rfl,rfl,q⟩:=h;obtain⟨t,rfl⟩:=rx;obtain⟨t',rfl⟩:=ry;exact rule i j t t' s _ _ ⟨.bl (g i j),H,I,rfl,q⟩
def Er(i j:Int):Prop:=0<j/\j<1073741824
def CMul(i j:Int):Prop:=(-(2^64)<i/\i<2^64)\/(-(2^64)<j/\j<2^64)
theorem CMul.ok{i j:Int}(h:CMul i j):IntMulOk i j:=by
 rcases h with⟨h1,h2⟩|⟨h1,h2⟩
 ·exact .of_left (intBits_le_64 h1 h2)
 ·exact .of_right (intBits_le_64 h1 h2)
theorem Fb:OpR X (binaryOp .Add) (rI0 fun i j=>.int (i+j)):=Fa fun _ _ _ _ _ _ _ q=>add_int q
theorem Fh:OpR X (binaryOp .Sub) (rI0 fun i j=>.int (i-j)):=Fa fun _ _ _ _ _ _ _ q=>sub_int q
theorem Ff:OpR X (binaryOp .Mult) (rI CMul fun i j=>.int (i*j)):=opI fun _ _ _ _ _ _ _ hc q=>mul_int q hc.ok
theorem Dp:OpR X (binaryOp .FloorDiv) (rI Er fun i j=>.int (i / j)):=opI fun i j _ _ _ _ _ hc q=>by have h1:(0:Int)<j:=hc.1;have h2:j<1073741824:=hc.2;exact floordiv_int (by omega) (by rw[Int.fdiv_eq_ediv_of_nonneg i (by omega)];exact q) (.inl (PyProof.noPylong_small (by omega)))
theorem Fe:OpR X (binaryOp .Mod) (rI (fun _ j=>0<j) fun i j=>.int (i%j)):=opI fun i j _ _ _ _ _ hc q=>by have h1:(0:Int)<j:=hc;exact mod_int' (by omega) (by rw[Int.fmod_eq_emod_of_nonneg i (by omega)];exact q)
theorem unI{f:Value->Sem Value}{g:Int->Int}(rule:∀(i:Int) (t:Tok) (s:Shared) (Q:Value->Shared->Prop) (E:Value->Shared->Prop),Q (.int (g i) s.toks) { s with toks:=s.toks+1 }->wpAny (model X.prog X.w) X.A (f (.int i t)) Q E s) :
  UnR X f (rU fun i=>.int (g i)):=by
 intro pins s σ H x v Q I rx h;obtain⟨i,rfl,q⟩:=h;obtain⟨t,rfl⟩:=rx;exact rule i t s _ _ ⟨.int (g i),H,I.tok _,⟨_,rfl⟩,q⟩
theorem GA:UnR X (unaryOp .USub) (rU fun i=>.int (-i)):=unI fun _ _ _ _ _ q=>neg_int q
end
def Gg:V->V->Bool
 |.non,.non=>true|.non,.int _=>true|.int _,.non=>true|.non,.bl _=>true|.bl _,.non=>true|.non,.str _=>true|.str _,.non=>true
 |.int _,.int _=>true|.bl _,.bl _=>true|.str _,.str _=>true|.byt _,.byt _=>true
 |.int _,.str _=>true|.str _,.int _=>true|.bl _,.str _=>true|.str _,.bl _=>true
 |_,_=>false
def rEq:R2:=fun x y H Q=>Gg x y=true/\Q (.bl (decide (x=y))) H
def rNe:R2:=fun x y H Q=>Gg x y=true/\Q (.bl (!decide (x=y))) H
theorem va{i j:Int}:decide (V.int i=V.int j)=(i==j):=by rw[YG];simp
theorem yr{i j:Bool}:decide (V.bl i=V.bl j)=(i==j):=by rw[YG];simp
theorem vb{i j:Str}:decide (V.str i=V.str j)=(i==j):=by rw[YG];simp
theorem uZ{i j:Array UInt8}:decide (V.byt i=V.byt j)=(i.toList==j.toList):=by rw[YG];cases i;cases j;simp
section
variable{X:Cx}{a b c:Expr}{ta tb tc:TE}{pos:Pos}
theorem aO{pins:List (Addr×Obj)}{σ:St}{H:Hp}{s:Shared}{Q:VK}{k k':Bool}(I:Inv X pins σ H s)(q:Q (.bl k) H)(e:k=k'):EP X pins σ Q (.bool k') s:=by subst e;exact⟨.bl k,H,I,rfl,q⟩
theorem G3:OpR X (compareOp .Eq) rEq:=by
 intro pins s σ H x y v u Q I rx ry h;obtain⟨hs,q⟩:=h;cases x with
 |non =>
  cases rx;cases y with
  |non=>cases ry;exact PySem.EqNone.eq_none_none (aO I q (by simp))
  |bl j=>cases ry;exact PySem.EqNone.eq_none_bool (aO I q (by simp))
  |int j=>obtain⟨t',rfl⟩:=ry;exact PySem.EqNone.eq_none_int (aO I q (by simp))
  |str j=>obtain⟨t',rfl⟩:=ry;exact PySem.EqNone.eq_none_str (aO I q (by simp))
  |_=>exact absurd (show false=true from hs) Zr
 |bl i =>
  cases rx;cases y with
  |non=>cases ry;exact PySem.EqNone.eq_bool_none (aO I q (by simp))
  |bl j=>cases ry;exact eq_bool (aO I q yr)
  |str j=>obtain⟨t',rfl⟩:=ry;exact PySem.EqMixed.eq_bool_str (aO I q (by simp))
  |_=>exact absurd (show false=true from hs) Zr
 |int i =>
  obtain⟨t,rfl⟩:=rx;cases y with
  |non=>cases ry;exact PySem.EqNone.eq_int_none (aO I q (by simp))
  |int j=>obtain⟨t',rfl⟩:=ry;exact eq_int (aO I q va)
  |str j=>obtain⟨t',rfl⟩:=ry;exact PySem.EqMixed.eq_int_str (aO I q (by simp))
  |_=>exact absurd (show false=true from hs) Zr
 |str i =>
  obtain⟨t,rfl⟩:=rx;cases y with
  |non=>cases ry;exact PySem.EqNone.eq_str_none (aO I q (by simp))
  |bl j=>cases ry;exact PySem.EqMixed.eq_str_bool (aO I q (by simp))
  |int j=>obtain⟨t',rfl⟩:=ry;exact PySem.EqMixed.eq_str_int (aO I q (by simp))
  |str j=>obtain⟨t',rfl⟩:=ry;exact eq_str (aO I q vb)
  |_=>exact absurd (show false=true from hs) Zr
 |byt i =>
  obtain⟨t,rfl⟩:=rx;cases y with
  |byt j=>obtain⟨t',rfl⟩:=ry;exact PySem.W.eq_bytes (aO I q uZ)
  |_=>exact absurd (show false=true from hs) Zr
 |_=>cases y<;>exact absurd (show false=true from hs) Zr
theorem G8:OpR X (compareOp .NotEq) rNe:=by
 intro pins s σ H x y v u Q I rx ry h;obtain⟨hs,q⟩:=h;cases x with
 |non =>
  cases rx;cases y with
  |non=>cases ry;exact PySem.EqNone.ne_none_none (aO I q (by simp))
  |bl j=>cases ry;exact PySem.EqNone.ne_none_bool (aO I q (by simp))
  |int j=>obtain⟨t',rfl⟩:=ry;exact PySem.EqNone.ne_none_int (aO I q (by simp))
  |str j=>obtain⟨t',rfl⟩:=ry;exact PySem.EqNone.ne_none_str (aO I q (by simp))
  |_=>exact absurd (show false=true from hs) Zr
 |bl i =>
  cases rx;cases y with
  |non=>cases ry;exact PySem.EqNone.ne_bool_none (aO I q (by simp))
  |bl j=>cases ry;exact ne_bool (aO I q (congrArg not yr))
  |str j=>obtain⟨t',rfl⟩:=ry;exact PySem.EqMixed.ne_bool_str (aO I q (by simp))
  |_=>exact absurd (show false=true from hs) Zr
 |int i =>
  obtain⟨t,rfl⟩:=rx;cases y with
  |non=>cases ry;exact PySem.EqNone.ne_int_none (aO I q (by simp))
  |int j=>obtain⟨t',rfl⟩:=ry;exact ne_int (aO I q (congrArg not va))
  |str j=>obtain⟨t',rfl⟩:=ry;exact PySem.EqMixed.ne_int_str (aO I q (by simp))
  |_=>exact absurd (show false=true from hs) Zr
 |str i =>
  obtain⟨t,rfl⟩:=rx;cases y with
  |non=>cases ry;exact PySem.EqNone.ne_str_none (aO I q (by simp))
  |bl j=>cases ry;exact PySem.EqMixed.ne_str_bool (aO I q (by simp))
  |int j=>obtain⟨t',rfl⟩:=ry;exact PySem.EqMixed.ne_str_int (aO I q (by simp))
  |str j=>obtain⟨t',rfl⟩:=ry;exact ne_str (aO I q (congrArg not vb))
  |_=>exact absurd (show false=true from hs) Zr
 |byt i =>
  obtain⟨t,rfl⟩:=rx;cases y with
  |byt j=>obtain⟨t',rfl⟩:=ry;exact PySem.W.ne_bytes (aO I q (congrArg not uZ))
  |_=>exact absurd (show false=true from hs) Zr
 |_=>cases y<;>exact absurd (show false=true from hs) Zr
theorem G7:OpR X (compareOp .Lt) (rI0 fun i j=>.bl (decide (i<j))):=xx fun _ _ _ _ _ _ _ q=>lt_int q
theorem G6:OpR X (compareOp .LtE) (rI0 fun i j=>.bl (decide (i<=j))):=xx fun _ _ _ _ _ _ _ q=>le_int q
theorem G5:OpR X (compareOp .Gt) (rI0 fun i j=>.bl (decide (j<i))):=xx fun _ _ _ _ _ _ _ q=>gt_int q
theorem G4:OpR X (compareOp .GtE) (rI0 fun i j=>.bl (decide (j<=i))):=xx fun _ _ _ _ _ _ _ q=>ge_int q
theorem Fd:OpR X (compareOp .Is) (fun x y H Q=>y=.non/\Q (.bl (decide (x=.non))) H):=by
 intro pins s σ H x y v u Q I rx ry h;obtain⟨rfl,q⟩:=h;cases ry;refine is_none_gen (aO I q ?_);cases x<;>first
  |(cases rx;rfl)
  |(obtain⟨t,rfl⟩:=rx;rfl)
theorem yZ(b:Expr){op:CmpOp}(h:op≠.In:=by decide)(h2:op≠.NotIn:=by decide):behindInMarks op b=false:=by
 have e1:(op==CmpOp.In)=false:=by cases op<;>first|rfl|exact absurd rfl h
 have e2:(op==CmpOp.NotIn)=false:=by cases op<;>first|rfl|exact absurd rfl h2
 cases b<;>simp[behindInMarks,e1,e2]
theorem Dy{op:CmpOp}{r:R2}(ho:OpR X (compareOp op) r)(ha:PE X a ta)(hb:PE X b tb)(hm:behindInMarks op b=false):PE X (.Compare a [op] [b] pos) (tOp r ta tb):=by intro pins s σ H Q I h;exact wpAny_Compare1 (AT ha hb I h fun v u s2 x y H2 I2 rx ry q=>ho pins s2 σ H2 x y v u Q I2 rx ry q) hm
def nR(t:TE):TT:=fun σ H Q=>t σ H fun x H'=>∃k,x=.bl k/\Q k H'
theorem DQ{op:CmpOp}{r:R2}(ho:OpR X (compareOp op) r)(ha:PE X a ta)(hb:PE X b tb)(hm:behindInMarks op b=false):PT X (.Compare a [op] [b] pos) (nR (tOp r ta tb)):=by
 intro pins s σ H Q I h;refine wpAny_isTrue_Compare1 (thn (ha pins s σ H _ I h) fun v s1 ⟨x,H1,I1,r1,q1⟩=>thn (hb pins s1 σ H1 _ I1 q1) fun u s2 ⟨y,H2,I2,r2,q2⟩ =>
  thn (ho pins s2 σ H2 x y v u _ I2 r1 r2 q2) fun c s3 ⟨z,H3,I3,r3,k,e,q3⟩=>?_) hm
 subst e;cases r3;exact Yd ⟨H3,I3,q3⟩
def nQ(r r':R2)(ta tb tc:TE):TE:=fun σ H Q=>ta σ H fun x H1=>tb σ H1 fun y H2=>r x y H2 fun z H3=>∃k,z=.bl k /\
 (if k=true then tc σ H3 fun w' H4=>r' y w' H4 Q else Q (.bl false) H3)
theorem Bw{op op':CmpOp}{r r':R2}(ho:OpR X (compareOp op) r)(ho':OpR X (compareOp op') r')(ha:PE X a ta)(hb:PE X b tb)(hc:PE X c tc)(hm:lastMarks [op,op'] [b,c]=false:=by with_unfolding_all rfl):PE X (.Compare a [op,op'] [b,c] pos) (nQ r r' ta tb tc):=by
 intro pins s σ H Q I h;refine Compare_chain (thn (ha pins s σ H _ I h) fun v s1 ⟨x,H1,I1,r1,q1⟩=>chain_link (thn (hb pins s1 σ H1 _ I1 q1) fun u s2 ⟨y,H2,I2,r2,q2⟩ =>
  thn (ho pins s2 σ H2 x y v u _ I2 r1 r2 q2) fun d s3 ⟨z,H3,I3,r3,k,e,q3⟩=>?_)) hm
 subst e;cases r3;refine Yd ?_;cases k with
 |false=>exact ite_ff ⟨.bl false,H3,I3,rfl,q3⟩
 |true=>exact ite_tt (chain_last (thn (hc pins s3 σ H3 _ I3 q3) fun w' s4 ⟨z',H4,I4,r4,q4⟩=>ho' pins s4 σ H4 y z' u w' Q I4 r2 r4 q4))
theorem BJ{op op':CmpOp}{r r':R2}(ho:OpR X (compareOp op) r)(ho':OpR X (compareOp op') r')(ha:PE X a ta)(hb:PE X b tb)(hc:PE X c tc)(hm:lastMarks [op,op'] [b,c]=false:=by with_unfolding_all rfl):PT X (.Compare a [op,op'] [b,c] pos) (nR (nQ r r' ta tb tc)):=by
 intro pins s σ H Q I h;refine isTrue_chain (thn (ha pins s σ H _ I h) fun v s1 ⟨x,H1,I1,r1,q1⟩=>test_link (thn (hb pins s1 σ H1 _ I1 q1) fun u s2 ⟨y,H2,I2,r2,q2⟩ =>
  thn (ho pins s2 σ H2 x y v u _ I2 r1 r2 q2) fun d s3 ⟨z,H3,I3,r3,k,e,q3⟩=>?_)) hm
 subst e;cases r3;refine Yd ?_;cases k with
 |false =>obtain⟨k',e',q'⟩:=q3;cases e';exact ite_ff ⟨H3,I3,q'⟩
 |true =>refine ite_tt (test_last (thn (hc pins s3 σ H3 _ I3 q3) fun w' s4 ⟨z',H4,I4,r4,q4⟩=>thn (ho' pins s4 σ H4 y z' u w' _ I4 r2 r4 q4) fun d' s5 hz9=>?_));obtain⟨z2,H5,I5,r5,k2,e2,q5⟩:=hz9;subst e2;cases r5;exact Yd ⟨H5,I5,q5⟩
theorem mK:(sizeLine:Nat)<2^63:=by rw[sizeLine_eq];decide
theorem ce{x:V}{us:List Value}(r:Vals [x] us):∃u,us=[u]/\RelV x u:=by
 cases r with
 |cons r1 r2=>cases r2;exact⟨_,rfl,r1⟩
theorem xU{x y:V}{us:List Value}(r:Vals [x,y] us):∃u w',us=[u,w']/\RelV x u/\RelV y w':=by
 cases r with
 |cons r1 r2 =>
  cases r2 with
  |cons r3 r4=>cases r4;exact⟨_,_,rfl,r1,r3⟩
theorem yi(hc:X.calm=true):df X (.builtin "max") (fun xs H Q=>∃i j,xs=[.int i,.int j]/\Q (.int (if j>i then j else i)) H):=by
 intro pins s σ H xs us Q I r h;obtain⟨i,j,rfl,q⟩:=h;obtain⟨u,w',rfl,⟨t,rfl⟩,⟨t',rfl⟩⟩:=xU r;refine max_two_ints (I.ok.hd hc) fun h' tk k=>⟨_,H,I.kept k,?_,q⟩
 by_cases hj:j>i
 ·rw[Jv hj,Jv hj];exact⟨_,rfl⟩
 ·rw[Ju hj,Ju hj];exact⟨_,rfl⟩
theorem yh:df X (.type "int") (fun xs H Q=>(∃i,xs=[.int i]/\Q (.int i) H)\/∃k,xs=[.bl k]/\Q (.int (if k then 1 else 0)) H):=by
 intro pins s σ H xs us Q I r h;rcases h with⟨i,rfl,q⟩|⟨k,rfl,q⟩
 ·obtain⟨u,rfl,t,rfl⟩:=ce r;exact call_int_int ⟨.int i,H,I,⟨_,rfl⟩,q⟩
 ·obtain⟨u,rfl,r1⟩:=ce r;cases r1;exact call_int_bool ⟨.int (if k then 1 else 0),H,I.tok _,⟨_,rfl⟩,q⟩
end
open PySem PySem.Spec PyProof.Rows
structure ObjM(h:Heap)(x dx C:Addr)(mA:Str->Option Value):Prop where
 obj:h.get? x=some (PySem.W.instObj C dx)
 ns:h.Ns1 dx mA
 ne:dx≠x
theorem qv{h:Heap}{dx:Addr}{mA:Str->Option Value}(n:h.Ns1 dx mA):∃od,h.get? dx=some od/\∀name,PySem.W.lookIn name od=some (mA name):=by
 obtain⟨o,es,ep,ho,hd,hk,_,hm⟩:=n;refine⟨o,ho,fun name=>?_⟩;have e:=hm name;unfold nsFind findBy at e;rw[<-Array.find?_toList]at e;unfold PySem.W.lookIn;rw[hd];dsimp only;split
 ·rename_i y q;rw[q]at e;exact congrArg some e
 ·rename_i q;rw[q]at e;have a:es.toList.any (·.refKey)=false:=by rw[List.any_eq_false];intro y hy;obtain⟨z,t,hkey⟩:=hk y (Array.mem_toList_iff.mp hy);simp[DictEntry.refKey,hkey]
  have a':¬es.toList.any (·.refKey)=true:=by rw[a];exact Zr
  rw[Ju a'];exact congrArg some e
theorem ObjM.look{h:Heap}{x dx C:Addr}{mA:Str->Option Value}(I:ObjM h x dx C mA):∃od,PySem.W.InstAt h x (PySem.W.instObj C dx) C (some od)/\∀name,PySem.W.lookIn name od=some (mA name) :=
 let⟨od,ho,hl⟩:=qv I.ns
 ⟨od,⟨I.obj,rfl,rfl,ho⟩,hl⟩
section
variable{prog:Program}{w:World}{A:Around}{E:Value->Shared->Prop}{s:Shared}{K:PySem.W.Frag}{x dx C f:Addr}{mA:Str->Option Value}{name:Str}{v:Value}
theorem C3{expr:Bool}{Q:Value->Shared->Prop}(X:K.In s.heap)(I:ObjM s.heap x dx C mA)(hg:PySem.W.plainGet K C name=true)(hh:PySem.W.hasDictIn K C=true)(ha:PySem.W.findIn K (.ref C) name=some none)(hv:mA name=some v)(hv':PySem.W.handedIn v=true)(h:Q v { s with toks:=s.toks+1 }) :
  wpAny (model prog w) A (getAttr (.ref x) name expr) Q E s:=by
 obtain⟨od,J,hl⟩:=I.look;exact PySem.W.get_value X J (PySem.W.plainGet_of hg).1 (PySem.W.findObj_own hh ha rfl (by rw[hl,hv])) hv' h
theorem A9{pl:Sem Bool}{Q:Value×List Value->Shared->Prop}(X:K.In s.heap)(I:ObjM s.heap x dx C mA)(hg:PySem.W.plainGet K C name=true)(hf:PySem.W.findIn K (.ref C) name=some (some (.ref f)))(ht:PySem.W.isFn K (.ref f)=true)(hv:mA name=none)(h:Q (.ref f,[.ref x]) s) :
  wpAny (model prog w) A (getMethod (.ref x) name pl) Q E s:=by
 obtain⟨od,J,hl⟩:=I.look;exact PySem.W.method_fn X J (PySem.W.plainGet_of hg).1 (PySem.W.plainGet_of hg).2 hf (y4.mp ht) (by show(PySem.W.lookIn name od).map (·.isSome)=some false;rw[hl,hv];rfl) h
theorem Ea{ns:List Str}{Q:Unit->Shared->Prop}(X:K.In s.heap)(I:ObjM s.heap x dx C mA)(hs:PySem.W.findIn K (.ref C) "__setattr__" = some (some (.builtin "object.__setattr__")))(hp:PySem.W.plainOver K C=true)(ht:PySem.W.takerIn K C name=some none)(hh:PySem.W.hasDictIn K C=true)(hw:PySem.Within mA ns)(hsz:ns.length<=sizeLine)(h:∀h',ObjM h' x dx C (fun y=>if y=name then some v else mA y)->Heap.SameBut dx s.heap h'->Q () { s with heap:=h',toks:=s.toks+2 }) :
  wpAny (model prog w) A (setAttr (.ref x) name v) Q E s:=by
 obtain⟨od,J,hl⟩:=I.look;refine PySem.W.set_plain X J hs (PySem.W.osa_open (s:={ s with toks:=s.toks+1 }) (r:=none) X J hp ht fun b=>?_);obtain⟨cd,hc,hd'⟩:=PySem.W.any_some hh;have hx:s.heap.get? x=some ⟨.ref C,some dx,.plain,#[]⟩:=I.obj;refine z6 (Za (z6 (z6 (wpAny_loadPart hx (z6 (PySem.W.Looks.here (s:={ s with toks:=s.toks+1 }) (PySem.W.looks_clsIn X hc) ?_))))));rw[hd'];refine Za (a:=some dx) (z6 (Za (z6 ?_)));refine wpAny_nsSet1 (s:={ s with toks:=s.toks+1 }) I.ns fun h' hn2 hs2=>?_;obtain⟨oD,esD,epD,hoD,hdD,hcD⟩:=hn2.count (PySem.Within.cons name v hw);refine z6 (wpAny_lookBehind hoD (by rw[hdD];exact pastItsLine_dict (ZZ hcD (by rw[Zm];omega))) ?_);exact Za (h _ ⟨(hs2.2 _ (Yx I.ne)).trans I.obj,hn2,I.ne⟩ hs2)
theorem Bg{R:Result->Shared->Prop}{vs:List Value}{kw:List (Str×Value)}(X:K.In s.heap)(hm:PySem.W.makesIn K C=true)(hi:PySem.W.findIn K (.ref C) "__init__" = some (some (.ref f)))(hf:PySem.W.typeIn K (.ref f)=some (.type "function"))(h:codeAny (model prog w) (A.under (.builtin "type.__call__" ⟨.ref C::vs,kw⟩)) (.call (.ref f) ⟨.ref (s.heap.objs.size+1)::vs,kw⟩) (PySem.W.InitBack (s.heap.objs.size+1) R)
   { s with heap:=(s.heap.push PySem.W.emptyDict).push (PySem.W.instObj C s.heap.objs.size) }) :
  codeAny (model prog w) A (.call (.ref C) ⟨vs,kw⟩) R s:=by
 obtain⟨hh,g,d,t,os⟩:=s;exact PySem.W.make_core (PySem.W.makes_of X hm) (PySem.W.looks_findIn X hi) (fun self=>PySem.W.bind_fn X self hf) (.inl rfl) h
end
def cS(f:Str)(v:V):List (Str×V)->List (Str×V)
 | []=>[(f,v)]
 |(g,x)::r=>if g=f then(g,v)::r else(g,x)::cS f v r
theorem ci(f g:Str)(v:V):∀fs:List (Str×V),(cS f v fs).lookup g=if g=f then some v else fs.lookup g
 | []=>by
  show List.lookup g [(f,v)]=_;by_cases h:g=f
  ·have hb:(g==f)=true:=y4.mpr h;simp only[List.lookup,hb,Jv h]
  ·have hb:(g==f)=false:=beq_eq_false_iff_ne.mpr h;simp only[List.lookup,hb,Ju h]
 |(k,x)::r=>by
  have ih:=ci f g v r;rw[show cS f v ((k,x)::r)=(if k=f then(k,v)::r else(k,x)::cS f v r)from rfl];by_cases hk:k=f
  ·rw[Jv hk];by_cases h:g=k
   ·have hb:(g==k)=true:=y4.mpr h;simp only[List.lookup,hb,Jv (h.trans hk)]
   ·have hb:(g==k)=false:=beq_eq_false_iff_ne.mpr h;simp only[List.lookup,hb,Ju (fun e:g=f=>h (e.trans hk.symm))]
  ·rw[Ju hk];by_cases h:g=k
   ·have hb:(g==k)=true:=y4.mpr h;simp only[List.lookup,hb,Ju (fun e:g=f=>hk (h.symm.trans e))]
   ·have hb:(g==k)=false:=beq_eq_false_iff_ne.mpr h;simp only[List.lookup,hb];exact ih
theorem jv(f:Str)(v:V):∀fs:List (Str×V),f∈(cS f v fs).map (·.1)/\∀g,g∈fs.map (·.1)->g∈(cS f v fs).map (·.1)
 | []=>⟨by simp[cS],fun g h=>by simp at h⟩
 |(k,x)::r=>by
  obtain⟨i1,i2⟩:=jv f v r;rw[show cS f v ((k,x)::r)=(if k=f then(k,v)::r else(k,x)::cS f v r)from rfl];by_cases hk:k=f
  ·rw[Jv hk];subst hk;exact⟨by simp,fun g h=>by simpa using h⟩
  ·rw[Ju hk];refine⟨?_,fun g h=>?_⟩
   ·rw[Z0];exact ZC _ i1
   ·rw[Z0]at h ⊢;rcases Zs.mp h with e|e
    ·exact Zs.mpr (.inl e)
    ·exact ZC _ (i2 g e)
theorem kZ(f:Str)(v:V):∀fs:List (Str×V),(cS f v fs).length<=fs.length+1
 | []=>by simp[cS]
 |(k,x)::r=>by
  have ih:=kZ f v r;rw[show cS f v ((k,x)::r)=(if k=f then(k,v)::r else(k,x)::cS f v r)from rfl];by_cases hk:k=f
  ·rw[Jv hk,Zm,Zm];omega
  ·rw[Ju hk,Zm,Zm];omega
theorem RelO.some_of{v:V}{o:Option Value}(r:RelO (some v) o):∃u,o=some u/\RelV v u:=by
 cases o with
 |none=>exact(show False from r).elim
 |some u=>exact⟨u,rfl,r⟩
theorem RelO.none_of{o:Option Value}(r:RelO none o):o=none:=by
 cases o with
 |none=>rfl
 |some u=>exact(show False from r).elim
theorem qr{v:V}{u:Value}(r:RelV v u):PySem.W.handedIn u=true:=by
 cases v with
 |non=>cases(show u=Value.none from r);rfl
 |bl b=>cases(show u=Value.bool b from r);rfl
 |int i=>obtain⟨t,e⟩:=(show∃t,u=Value.int i t from r);cases e;rfl
 |str x=>obtain⟨t,e⟩:=(show∃t,u=Value.str x t from r);cases e;rfl
 |byt b=>obtain⟨t,e⟩:=(show∃t,u=Value.bytes b t from r);cases e;rfl
 |flt b=>obtain⟨t,e⟩:=(show∃t,u=Value.float b t from r);cases e;rfl
 |ref a=>cases(show u=Value.ref a from r);rfl
 |ty n=>cases(show u=Value.type n from r);rfl
section
variable{P:Program}{w:World}{H H':Hp}{h h':Heap}{a C dx:Addr}{fs fs':List (Str×V)}
theorem kj(hok:HOk P w H h)(e:H a=some (.ins C dx fs)):∃mA,ObjM h a dx C mA/\(∀f,RelO (fs.lookup f) (mA f))/\PySem.Within mA (fs.map (·.1))/\fs.length<=1000/\H dx=some (.own a):=by
 obtain⟨d,z,ne,ob,mA,n,r,q⟩:=(show ObjOk P w H h a (.ins C dx fs)from hok a _ e)
 exact⟨mA,⟨ob,n,ne⟩,r,q,z,d⟩
end
structure Cls(K:PySem.W.Frag)(C:Addr):Prop where
 pg:PySem.W.plainGet K C Str.empty=true
 hd:PySem.W.hasDictIn K C=true
 po:PySem.W.plainOver K C=true
 sa:PySem.W.findIn K (.ref C) "__setattr__" = some (some (.builtin "object.__setattr__"))
theorem Cls.get{K:PySem.W.Frag}{C:Addr}(c:Cls K C)(f:Str):PySem.W.plainGet K C f=true:=c.pg
def NoAttr(K:PySem.W.Frag)(C:Addr)(f:Str):Prop:=PySem.W.findIn K (.ref C) f=some none
theorem NoAttr.taker{K:PySem.W.Frag}{C:Addr}{f:Str}(n:NoAttr K C f):PySem.W.takerIn K C f=some none:=by unfold PySem.W.takerIn;rw[show PySem.W.findIn K (.ref C) f=some none from n];rfl
structure Con(K:PySem.W.Frag)(C:Addr)(f:Str)(v:V)(u:Value):Prop where
 at_:PySem.W.findIn K (.ref C) f=some (some u)
 rel:RelV v u
 get:PySem.W.specialIn K u "__get__" = some none
 cp:PySem.W.copiedNames.contains f=false
structure Meth(K:PySem.W.Frag)(C:Addr)(m:Str)(f:Addr):Prop where
 at_:PySem.W.findIn K (.ref C) m=some (some (.ref f))
 fn:PySem.W.isFn K (.ref f)=true
 kp:PySem.W.keepIn K (.ref f)=true
section
variable{X:Cx}{pins:List (Addr×Obj)}{σ:St}{H:Hp}{s:Shared}{a C dx:Addr}{fs:List (Str×V)}{f:Str}{v:V}{A:Around}{E:Value->Shared->Prop}
theorem wM{b:Bool}{Q:Value->Shared->Prop}(I:Inv X pins σ H s)(e:H a=some (.ins C dx fs))(c:Cls X.K C)(n:NoAttr X.K C f)(l:fs.lookup f=some v)(h:∀u s',Inv X pins σ H s'->RelV v u->Q u s'):wpAny (model X.prog X.w) A (getAttr (.ref a) f b) Q E s:=by obtain⟨mA,O,r,_,_,_⟩:=kj I.hok e;obtain⟨u,hu,ru⟩:=RelO.some_of (v:=v) (o:=mA f) (by rw[<-l];exact r f);exact C3 I.kIn O (c.get f) c.hd n hu (qr ru) (h u _ (I.tok _) ru)
theorem iP{m:Str}{g:Addr}{pl:Sem Bool}{Q:Value×List Value->Shared->Prop}(I:Inv X pins σ H s)(e:H a=some (.ins C dx fs))(c:Cls X.K C)(k:Meth X.K C m g)(l:fs.lookup m=none)(h:Q (.ref g,[.ref a]) s):wpAny (model X.prog X.w) A (getMethod (.ref a) m pl) Q E s:=by obtain⟨mA,O,r,_,_,_⟩:=kj I.hok e;have hn:mA m=none:=RelO.none_of (by rw[<-l];exact r m);exact A9 I.kIn O (c.get m) k.at_ k.fn hn h
theorem xL{y:V}{u:Value}{Q:Unit->Shared->Prop}(I:Inv X pins σ H s)(e:H a=some (.ins C dx fs))(c:Cls X.K C)(n:NoAttr X.K C f)(hl:fs.length<1000)(ry:RelV y u)(h:∀s',Inv X pins σ (upd H a (.ins C dx (cS f y fs))) s'->Q () s'):wpAny (model X.prog X.w) A (setAttr (.ref a) f u) Q E s:=by
 obtain⟨mA,O,r,wi,_,ho⟩:=kj I.hok e;have hz:(fs.map (·.1)).length<=sizeLine:=by rw[Zb,sizeLine_eq];omega
 refine Ea I.kIn O c.sa c.po n.taker c.hd wi hz fun h' O' sb=>h _ ?_;have hd:∃o,h'.get? dx=some o:=let⟨o,_,_,e',_⟩:=O'.ns;⟨o,e'⟩
 refine I.write (x:=a) (e:=dx) (by rw[e];exact True.intro) (.inr ho) (fun b q hb z=>(sb.2 b hb).trans z) hd ?_;refine⟨by rw[ad O.ne];exact ho,?_,O.ne,O'.obj,_,O'.ns,fun g=>?_,fun g hg=>?_⟩
 ·have:=kZ f y fs;omega
 ·show RelO ((cS f y fs).lookup g) (if g=f then some u else mA g);rw[ci];by_cases q:g=f
  ·rw[Jv q,Jv q];exact ry
  ·rw[Ju q,Ju q];exact r g
 ·by_cases q:g=f
  ·rw[q];exact(jv f y fs).1
  ·refine(jv f y fs).2 g (wi g fun z=>hg ?_);show(if g=f then some u else mA g)=none;rw[Ju q];exact z
theorem Inv.made(I:Inv X pins σ H s):Inv X pins σ (upd (upd H s.heap.objs.size (.own (s.heap.objs.size+1))) (s.heap.objs.size+1) (.ins C s.heap.objs.size []))
  { s with heap:=(s.heap.push PySem.W.emptyDict).push (PySem.W.instObj C s.heap.objs.size) }:=by
 have e1:(s.heap.push PySem.W.emptyDict).get? s.heap.objs.size=some PySem.W.emptyDict:=Zk s.heap rfl;have e2:((s.heap.push PySem.W.emptyDict).push (PySem.W.instObj C s.heap.objs.size)).get? (s.heap.objs.size+1)=some (PySem.W.instObj C s.heap.objs.size):=by
  have:=Zk (s.heap.push PySem.W.emptyDict) (o:=PySem.W.instObj C s.heap.objs.size) rfl
  rwa [Y0]at this
 have e3:(s.heap.push PySem.W.emptyDict).Ns s.heap.objs.size (fun _=>none):=⟨PySem.W.emptyDict,#[],_,e1,rfl,(fun e he=>absurd he (by simp)),fun _=>rfl⟩
 have I1:=I.laid (a:=s.heap.objs.size) (o:=.own (s.heap.objs.size+1)) (h':=s.heap.push PySem.W.emptyDict) (t':=s.toks) (fun b u q=>z9 _ q) (Ze _) ⟨_,e1⟩;refine I1.laid (a:=s.heap.objs.size+1) (o:=.ins C s.heap.objs.size []) (t':=s.toks) (fun b u q=>z9 _ q) (Nat.le_of_eq (Y0 _ _)) ?_;have ne:s.heap.objs.size≠s.heap.objs.size+1:=Zv (Nat.lt_succ_self _);refine⟨by rw[ad ne,af],ZT _,ne,e2,fun _=>none,(Heap.Ns1.of_empty e3).at fun o q=>z9 _ q,fun _=>True.intro,fun y hy=>absurd rfl hy⟩
theorem uU{prog:Program}{w:World}{env:Env}{e:Expr}{f:Str}{pos:Pos}{s:Shared}{Q:Value->Shared->Prop}(hb:attributeBase e f env (eval e env)=eval e env)(h:wpAny (model prog w) A (eval e env) (fun o s₁=>wpAny (model prog w) A (getAttr o f true) Q E s₁) E s):wpAny (model prog w) A (eval (.Attribute e f pos) env) Q E s :=
 Attribute_any_ h (by rw[arm_eval_Attribute,hb])
end
def BX(K:PySem.W.Frag)(ta:TE)(f:Str):TE:=fun σ H Q=>ta σ H fun x H1=>∃a C dx fs v,x=.ref a/\H1 a=some (.ins C dx fs)/\Cls K C/\NoAttr K C f/\fs.lookup f=some v/\Q v H1
def Gc(K:PySem.W.Frag)(ta tv:TE)(f:Str):TS:=fun D σ H=>tv σ H fun y H1=>ta σ H1 fun x H2=>∃a C dx fs,x=.ref a/\H2 a=some (.ins C dx fs)/\Cls K C/\NoAttr K C f/\fs.length<1000 /\
 D.nx σ (upd H2 a (.ins C dx (cS f y fs)))
section
variable{X:Cx}{o e value:Expr}{f:Str}{pos pos' tpos:Pos}{ta tv:TE}
theorem Fm(he:PE X e ta)(hb:attributeBase e f X.env (eval e X.env)=eval e X.env):PE X (.Attribute e f pos) (BX X.K ta f):=by intro pins s σ H Q I h;refine uU hb (thn (he pins s σ H _ I h) fun u s1 hz9=>?_);obtain⟨x,H1,I1,rx,a,C,dx,fs,v,ex,ea,c,n,l,q⟩:=hz9;subst ex;obtain rfl:u=Value.ref a:=rx;exact wM I1 ea c n l fun u' s2 I2 ru=>⟨v,H1,I2,ru,q⟩
theorem FJ(ha:PE X o ta)(hv:PE X value tv)(hs:swapsWith value (some (.Attribute o f pos')) pos.line X.env=pure false):PS X (.Assign [.Attribute o f pos'] value pos) (Gc X.K ta tv f):=by intro pins s σ H D I h;refine plainObj_wpAny_Assign_Attribute (thn (hv pins s σ H _ I h) fun u s1 ⟨y,H1,I1,ry,q⟩=>thn (ha pins s1 σ H1 _ I1 q) fun ov s2 hz9=>?_) hs;obtain⟨x,H2,I2,rx,a,C,dx,fs,ex,ea,c,n,l,q2⟩:=hz9;subst ex;obtain rfl:ov=Value.ref a:=rx;exact xL I2 ea c n l ry fun s3 I3=>⟨σ,_,I3,q2⟩
end
section
variable{X:Cx}{pins:List (Addr×Obj)}{σ:St}{H:Hp}{s:Shared}{A:Around}{E:Value->Shared->Prop}{Q:Value->Shared->Prop}{c:Value}{b:Bool}
inductive TyOf(K:PySem.W.Frag)(H:Hp):V->Value->Prop where
 |non:TyOf K H .non (.type "NoneType")
 |bl (x:Bool):TyOf K H (.bl x) (.type "bool")
 |int (i:Int):TyOf K H (.int i) (.type "int")
 |str (x:Str):TyOf K H (.str x) (.type "str")
 |flt (x:UInt64):TyOf K H (.flt x) (.type "float")
 |lst {a:Addr} {xs:List V} (e:H a=some (.lst xs)):TyOf K H (.ref a) (.type "list")
 |frz {a:Addr} {o:Obj} {xs:List V} (e:H a=some (.frz o (.lst xs))):TyOf K H (.ref a) (.type "list")
 |tup {a:Addr} {xs:List V} (e:H a=some (.tup xs)):TyOf K H (.ref a) (.type "tuple")
 |dK {a:Addr} {kvs:List (Key×V)} (e:H a=some (.dK kvs)):TyOf K H (.ref a) (.type "dict")
 |dT {a:Addr} {kvs:List (List Key×V)} (e:H a=some (.dT kvs)):TyOf K H (.ref a) (.type "dict")
 |ins {a C dx:Addr} {fs:List (Str×V)} (e:H a=some (.ins C dx fs)) (cl:Cls K C) (ha:PySem.W.findIn K (.ref C) "__class__" = some (some (.builtin "object.__class__")))
   (hn:PySem.W.specialIn K (.builtin "object.__class__") "__get__" = some (some (.builtin "getset_descriptor.__get__"))) (htk:PySem.W.takesIn K (.builtin "object.__class__")=some true)
   (hm:PySem.W.mroIn K C (.type "object")=some true):TyOf K H (.ref a) (.ref C)
theorem yN{x:V}{u t:Value}(I:Inv X pins σ H s)(rx:RelV x u)(ty:TyOf X.K H x t)(e:PySem.W.kitOne X.K t c=some b)(h:∀tk,Q (.bool b) { s with toks:=tk }) :
  wpAny (model X.prog X.w) A (call (.builtin "isinstance") [u,c]) Q E s:=by
 cases ty with
 |non=>cases(show u=Value.none from rx);exact Yy PySem.W.kitx_none I.kIn True.intro e (fun z=>nomatch z) h
 |bl y=>cases(show u=Value.bool y from rx);exact Yy PySem.W.kitx_bool I.kIn True.intro e (fun z=>nomatch z) h
 |int i=>obtain⟨t,q⟩:=(show∃t,u=Value.int i t from rx);cases q;exact Yy PySem.W.kitx_int I.kIn True.intro e (fun z=>nomatch z) h
 |str y=>obtain⟨t,q⟩:=(show∃t,u=Value.str y t from rx);cases q;exact Yy PySem.W.kitx_str I.kIn True.intro e (fun z=>nomatch z) h
 |flt y=>obtain⟨t,q⟩:=(show∃t,u=Value.float y t from rx);cases q;exact Yy PySem.W.kitx_float I.kIn True.intro e (fun z=>nomatch z) h
 |@lst a xs ea =>
  cases(show u=Value.ref a from rx);obtain⟨_,_,n,_,h1⟩:=(show ObjOk X.prog X.w H s.heap a (.lst xs)from I.hok a _ ea)
  exact Yy PySem.W.kitx_list I.kIn ⟨_,h1,rfl⟩ e (fun z=>nomatch z) h
 |@frz a ob xs ea =>
  cases(show u=Value.ref a from rx);obtain⟨_,_,_,n,_,h1⟩:=(show ObjOk X.prog X.w H s.heap a (.frz ob (.lst xs))from I.hok a _ ea)
  exact Yy PySem.W.kitx_list I.kIn ⟨_,h1,rfl⟩ e (fun z=>nomatch z) h
 |@tup a xs ea =>
  cases(show u=Value.ref a from rx);obtain⟨_,_,_,p⟩:=(show ObjOk X.prog X.w H s.heap a (.tup xs)from I.hok a _ ea)
  obtain⟨o,h1,h2,_⟩:=p;exact Yy PySem.W.kitx_tuple I.kIn ⟨o,h1,h2⟩ e (fun z=>nomatch z) h
 |@dK a kvs ea =>
  cases(show u=Value.ref a from rx);obtain⟨_,_,vs,_,p⟩:=(show ObjOk X.prog X.w H s.heap a (.dK kvs)from I.hok a _ ea)
  obtain⟨o,es,ep,h1,h2,_⟩:=p;exact Yy PySem.W.kitx_dict I.kIn ⟨o,h1,h2.1⟩ e (fun z=>nomatch z) h
 |@dT a kvs ea =>
  cases(show u=Value.ref a from rx);obtain⟨_,_,xs,_,o,es,ep,h1,h2,_⟩:=(show ObjOk X.prog X.w H s.heap a (.dT kvs)from I.hok a _ ea)
  exact Yy PySem.W.kitx_dict I.kIn ⟨o,h1,h2.1⟩ e (fun z=>nomatch z) h
 |@ins a C dx fs ea cl ha hn htk hm =>cases(show u=Value.ref a from rx);obtain⟨mA,O,_⟩:=kj I.hok ea;obtain⟨od,J,_⟩:=O.look;exact Yy (PySem.W.kitx_own (cl.get _) cl.hd ha hn htk hm) I.kIn J e (fun z=>nomatch z) h
end
open PySem PySem.Spec PyProof.Rows
structure Room(k:Nat)(A:Around):Prop where
 hd:A.handled=none
 dp:A.depth+3*k+5<recursionLimit
 un:A.units+16*k+200<cLine
theorem Room.mono{j k:Nat}{A:Around}(r:Room k A)(h:j<=k):Room j A:=⟨r.hd,by have:=r.dp;omega,by have:=r.un;omega⟩
theorem Room.deeper{k:Nat}{A:Around}(r:Room (k+1) A)(env:Env):Room k (A.deeper env) :=
 ⟨r.hd,by have:=r.dp;show A.depth+1+3*k+5<_;omega,by have:=r.un;show A.units+3+16*k+200<_;omega⟩
theorem Room.in1{k:Nat}{A:Around}(r:Room (k+1) A):Room k A.in1 :=
 ⟨r.hd,by have:=r.dp;show A.depth+3*k+5<_;omega,by have:=r.un;show A.units+1+16*k+200<_;omega⟩
theorem wW{A:Around}{C:Addr}{us:List Value}{kw:List (Str×Value)}:(A.under (.builtin "type.__call__" ⟨.ref C::us,kw⟩)).depth=A.depth+1:=by
 first|rfl|simp[Around.under,Code.weight,Code.isCreation,Code.isGuard,Code.isCaller,Code.frames,Code.isFrame,guardIds]
theorem wY{A:Around}{C:Addr}{us:List Value}{kw:List (Str×Value)}:(A.under (.builtin "type.__call__" ⟨.ref C::us,kw⟩)).units=A.units+1:=by
 first|rfl|simp[Around.under,Code.cUnits,Code.frames,Code.isFrame]
theorem Room.make{k:Nat}{A:Around}(r:Room (k+1) A)(C:Addr)(us:List Value)(kw:List (Str×Value)):Room k (A.under (.builtin "type.__call__" ⟨.ref C::us,kw⟩)) :=
 ⟨r.hd,by have:=r.dp;rw[wW];omega,by have:=r.un;rw[wY];omega⟩
theorem Room.depth{k:Nat}{A:Around}(r:Room k A):A.depth<recursionLimit:=by have:=r.dp;omega
theorem Room.units{k:Nat}{A:Around}(r:Room k A):A.units+64<cLine:=by have:=r.un;omega
def im:TA:=fun _ H Q=>Q [] H
def fD(ta:TE)(tr:TA):TA:=fun σ H Q=>ta σ H fun x H1=>tr σ H1 fun xs H2=>Q (x::xs) H2
section
variable{X:Cx}{e:Expr}{es:List Expr}{te:TE}{t:TA}{pos:Pos}
theorem zq:PA X [] im:=fun _ _ _ _ H Q I h=>Calls.spliced_nil ⟨[],H,I,.nil,h⟩
theorem Dv(ha:PE X e te)(hr:PA X es t)(hs:starEach (e::es) X.env=(false,eval e X.env)::starEach es X.env:=by rfl):PA X (e::es) (fD te t):=by intro pos pins s σ H Q I h;rw[hs];show wpAny _ _ (spliced ((false,eval e X.env)::backTo pos (starEach es X.env))) _ _ s;refine Calls.spliced_cons (thn (ha pins s σ H _ I h) fun u s1 hz9=>?_);obtain⟨x,H1,I1,r1,q1⟩:=hz9;exact thn (hr pos pins s1 σ H1 _ I1 q1) fun us s2 ⟨xs,H2,I2,r2,q2⟩=>⟨x::xs,H2,I2,.cons r1 r2,q2⟩
def B0(t:TA):TE:=fun σ H Q=>t σ H fun xs H1=>xs.length<=sizeLine/\∀p,H1 p=none->Q (.ref p) (upd H1 p (.tup xs))
def Gp(t:TA):TE:=fun σ H Q=>t σ H fun xs H1=>xs.length<=sizeLine/\∀p,H1 p=none->Q (.ref p) (upd H1 p (.lst xs))
theorem Fw{x1}(h:PA X es t):PE X (.Tuple es x1 pos) (B0 t):=by intro pins s σ H Q I hq;refine wpAny_Tuple_spliced (thn (h pos pins s σ H _ I hq) fun us s1 ⟨xs,H1,I1,r,z,q⟩=>⟨by rw[<-r.length];exact z,?_⟩);have hf:H1 s1.heap.objs.size=none:=I1.hok.fresh (Ze _);refine⟨.ref s1.heap.objs.size,upd H1 s1.heap.objs.size (.tup xs),I1.laid (t':=s1.toks) (fun b u e=>z9 _ e) (Ze _) ?_,rfl,q _ hf⟩;exact⟨z,us,r,⟨_,Zk _ rfl,rfl,_,rfl⟩⟩
theorem Fp(h:PA X es t):PE X (.List es pos) (Gp t):=by intro pins s σ H Q I hq;refine wpAny_List_spliced (thn (h pos pins s σ H _ I hq) fun us s1 ⟨xs,H1,I1,r,z,q⟩=>⟨by rw[<-r.length];exact z,?_⟩);have hf:H1 s1.heap.objs.size=none:=I1.hok.fresh (Ze _);refine⟨.ref s1.heap.objs.size,upd H1 s1.heap.objs.size (.lst xs),I1.laid (t':=s1.toks) (fun b u e=>z9 _ e) (Ze _) ?_,rfl,q _ hf⟩;exact⟨z,us,0,r,Zk _ rfl⟩
end
abbrev Sp:=List V->Hp->VK->XK->Prop
abbrev CXT:=List Env->Hp->Shared->XK->Value->Shared->Prop
structure Env0(P:Program)(w:World)(K:PySem.W.Frag)(mg:Str->Option Value)(base:Heap)(A:Around)(outer:List Env)(s:Shared)(H:Hp):Prop where
 frames:A.frames=some outer
 mod:Mod K mg base
 bs:∀b o,base.get? b=some o->s.heap.get? b=some o/\H b=none
 bsz:base.objs.size<=s.heap.objs.size
 funs:s.heap.FunFrames base outer
 frf:∀b∈frs outer,H b=none
 hok:HOk P w H s.heap
 bare:AllBare s.gens
def CE(outer:List Env)(P:Program)(w:World)(H:Hp)(s:Shared)(Q:VK)(u:Value)(s':Shared):Prop :=
 ∃v H',s'.os=s.os/\AllBare s'.gens/\Un (frs outer) [] H H' s.heap s'.heap/\HOk P w H' s'.heap/\RelV v u/\Q v H'
def CR(CX:CXT)(outer:List Env)(P:Program)(w:World)(H:Hp)(s:Shared)(Q:VK)(E:XK)(r:Result)(s':Shared):Prop :=
 match r with
 |.ok (.ret u)=>CE outer P w H s Q u s'
 |.ok _=>False
 |.error e=>CX outer H s E e s'
structure FnOk(P:Program)(w:World)(K:PySem.W.Frag)(mg:Str->Option Value)(base:Heap)(CX:CXT)(k:Nat)(f:Addr)(fd:FuncData)(ps:List Str)(sp:Sp):Prop where
 len:∀vs H Q E,sp vs H Q E->vs.length=ps.length
 run:∀(A:Around) (outer:List Env) (s:Shared) (H:Hp) (args:Args) (us:List Value) (vs:List V) (Q:VK) (E:XK),Room k A->Env0 P w K mg base A outer s H->BindsTo s fd args (ps.zip us)->Vals vs us->sp vs H Q E ->
  codeAny (model P w) A (.call (.ref f) args) (CR CX outer P w H s Q E) s
theorem Env0.make{P:Program}{w:World}{K:PySem.W.Frag}{mg:Str->Option Value}{base:Heap}{A:Around}{outer:List Env}{s:Shared}{H:Hp}(e:Env0 P w K mg base A outer s H)(C:Addr)(us:List Value)(kw:List (Str×Value)) :
  Env0 P w K mg base (A.under (.builtin "type.__call__" ⟨.ref C::us,kw⟩)) outer s H:=⟨by first|exact e.frames|(simpa[Around.under,Code.envs,Code.isFrame,pushEnvs]using e.frames),e.mod,e.bs,e.bsz,e.funs,e.frf,e.hok,e.bare⟩
section
variable{X:Cx}{pins:List (Addr×Obj)}{σ:St}{H:Hp}{s s':Shared}
theorem Inv.env0(I:Inv X pins σ H s):Env0 X.prog X.w X.K X.mg X.base X.A X.stack s H :=
 ⟨I.ok.frames,I.ok.mod,I.bs,ZZ I.ok.bsz I.sz,I.stack,I.stkFree,I.hok,I.bare⟩
theorem Inv.after{Q:VK}{u:Value}(I:Inv X pins σ H s)(h:CE X.stack X.prog X.w H s Q u s'):EP X pins σ Q u s':=by obtain⟨v,H',os,bare,un,hok,r,q⟩:=h;obtain⟨hh,g,d,t,os'⟩:=s';obtain rfl:os'=s.os:=os;exact⟨v,H',I.call (h':=hh) (g':=g) (d':=d) (t':=t) (ch:=[]) un hok bare (fun b z=>absurd z (by simp)),r,q⟩
end
def rk(sp:Sp)(dvs:List V)(E:XK)(t:TA):TE:=fun σ H Q=>t σ H fun vs H1=>sp (vs++dvs) H1 Q E
def rn(C:Addr)(m:Str)(sp:Sp)(dvs:List V)(E:XK)(ta:TE)(t:TA):TE:=fun σ H Q=>ta σ H fun x H1=>∃a dx fs,x=.ref a/\H1 a=some (.ins C dx fs)/\fs.lookup m=none /\
 t σ H1 fun vs H2=>sp (x::(vs++dvs)) H2 Q E
def CI(C:Addr)(sp:Sp)(dvs:List V)(E:XK)(t:TA):TE:=fun σ H Q=>t σ H fun vs H1=>∀x dx,H1 x=none->H1 dx=none->dx≠x ->
 sp (.ref x::(vs++dvs)) (upd (upd H1 dx (.own x)) x (.ins C dx [])) (fun v H2=>v=.non/\Q (.ref x) H2) E
def Binds(K:PySem.W.Frag)(fd:FuncData)(ps:List Str)(ds:List Value):Prop :=
 ∀(s:Shared) (us:List Value),K.In s.heap->(us++ds).length=ps.length->BindsTo s fd ⟨us,[]⟩ (ps.zip (us++ds))
theorem Binds.all{K:PySem.W.Frag}{fd:FuncData}{ps:List Str}(h:∀us:List Value,us.length=ps.length->bindArgs fd ⟨us,[]⟩=pure (ps.zip us)):Binds K fd ps []:=fun s us _ hl=>by rw[Zx]at hl ⊢;exact .of_eq (h us hl)
def gh(CX:CXT)(X:Cx)(E:XK):Prop:=∀(pins:List (Addr×Obj)) (σ:St) (H:Hp) (s:Shared) (e:Value) (s':Shared),Inv X pins σ H s->CX X.stack H s E e s'->X.xe e s'
section
variable{X:Cx}{CX:CXT}{k:Nat}{f C:Addr}{fd:FuncData}{ps:List Str}{sp:Sp}{dvs:List V}{ds:List Value}{E:XK}{x m:Str}{p pos apos:Pos}{e o:Expr}{es:List Expr}{ta:TE}{t:TA}
theorem tz{pins:List (Addr×Obj)}{σ:St}{H:Hp}{s:Shared}{Q:VK}{us:List Value}{vs:List V}(F:FnOk X.prog X.w X.K X.mg X.base CX k f fd ps sp)(hr:Room k X.A)(hb:Binds X.K fd ps ds)(hd:Vals dvs ds)(hx:gh CX X E)(I:Inv X pins σ H s)(r:Vals vs us)(h:sp (vs++dvs) H Q E):wpAny (model X.prog X.w) X.A (call (.ref f) us) (EP X pins σ Q) X.xe s:=by
 have r2:Vals (vs++dvs) (us++ds):=r.append hd;have hl:(us++ds).length=ps.length:=by rw[<-r2.length];exact F.len _ _ _ _ h
 refine wpAny_call (codeAny_mono (F.run X.A X.stack s H ⟨us,[]⟩ (us++ds) (vs++dvs) Q E hr I.env0 (hb s us I.kIn hl) r2 h) fun r s' hq=>?_);cases r with
 |error e=>exact hx pins σ H s e s' I hq
 |ok fl =>
  cases fl with
  |ret u=>exact I.after hq
  |next=>exact False.elim hq
  |brk=>exact False.elim hq
  |cont=>exact False.elim hq
theorem Dx(F:FnOk X.prog X.w X.K X.mg X.base CX k f fd ps sp)(hr:Room k X.A)(hg:Gl X x)(hm:X.mg x=some (.ref f))(hk:PySem.W.keepIn X.K (.ref f)=true)(hb:Binds X.K fd ps ds)(hd:Vals dvs ds)(hx:gh CX X E)(ha:PA X (e::es) t)(hdb:(x==("__debug__":Str))=false:=by decide)(he:starEach (e::es) X.env=(false,eval e X.env)::starEach es X.env:=by rfl)(hpl:(backTo pos (starEach es X.env)).any (·.1)=false:=by rfl) :
  PE X (.Call (.Name x p) (e::es) [] pos) (rk sp dvs E t):=by
 intro pins s σ H Q I h;refine Xg (gd I hg hm ?_ hdb);refine PySem.W.callWith_K (h₀:=X.base) I.ok.mod.kin hk (thn (ha pos pins s σ H _ I h) fun us s1 ⟨vs,H1,I1,r,q⟩=>⟨I1.kIn,?_⟩) he hpl;exact tz F hr hb hd hx I1 r q
theorem DD{pl:Sem Bool}(he:PE X o ta)(c:Cls X.K C)(hm:Meth X.K C m f)(F:FnOk X.prog X.w X.K X.mg X.base CX k f fd ps sp)(hr:Room k X.A)(hb:Binds X.K fd ps ds)(hd:Vals dvs ds)(hx:gh CX X E)(ha:PA X (e::es) t)(hst:starEach (e::es) X.env=(false,eval e X.env)::starEach es X.env:=by rfl)(hpl:(backTo pos (starEach es X.env)).any (·.1)=false:=by rfl)(ht:eval (.Call (.Attribute o m apos) (e::es) [] pos) X.env=(do
   let ov ←eval o X.env
   standAt apos.atName
   let(f,first) ←holding [ov] (getMethod ov m pl)
   callWith pos f first (backTo pos (starEach (e::es) X.env)) (backToKw pos (keywordEach [] X.env))):=by rfl) :
  PE X (.Call (.Attribute o m apos) (e::es) [] pos) (rn C m sp dvs E ta t):=by
 intro pins s σ H Q I h;refine PySem.W.methodCall_KW (pl:=pl) (thn (he pins s σ H _ I h) fun u s1 hz9=>?_) ht;obtain⟨x,H1,I1,rx,a,dx,fs,ex,ea,l,q⟩:=hz9;subst ex;obtain rfl:u=Value.ref a:=rx;refine iP I1 ea c hm l ?_;refine PySem.W.callWith_K (first:=[.ref a]) (h₀:=X.base) I.ok.mod.kin hm.kp (thn (ha pos pins s1 σ H1 _ I1 q) fun us s2 ⟨vs,H2,I2,r,q2⟩=>⟨I2.kIn,?_⟩) hst hpl;exact tz (us:=.ref a::us) (vs:=.ref a::vs) F hr hb hd hx I2 (.cons rfl r) q2
theorem BA{pl:Sem Bool}(he:PE X o ta)(c:Cls X.K C)(hm:Meth X.K C m f)(F:FnOk X.prog X.w X.K X.mg X.base CX k f fd ps sp)(hr:Room k X.A)(hb:Binds X.K fd ps ds)(hd:Vals dvs ds)(hx:gh CX X E)(ht:eval (.Call (.Attribute o m apos) [] [] pos) X.env=(do
   let ov ←eval o X.env
   standAt apos.atName
   let(f,first) ←holding [ov] (getMethod ov m pl)
   callWith pos f first (backTo pos (starEach [] X.env)) (backToKw pos (keywordEach [] X.env))):=by rfl) :
  PE X (.Call (.Attribute o m apos) [] [] pos) (rn C m sp dvs E ta im):=by
 intro pins s σ H Q I h;refine PySem.W.methodCall_KW (pl:=pl) (thn (he pins s σ H _ I h) fun u s1 hz9=>?_) ht;obtain⟨x,H1,I1,rx,a,dx,fs,ex,ea,l,q⟩:=hz9;subst ex;obtain rfl:u=Value.ref a:=rx;refine iP I1 ea c hm l ?_;exact PySem.W.callWith_K0 (first:=[.ref a]) I1.kIn hm.kp (tz (us:=[.ref a]) (vs:=[.ref a]) F hr hb hd hx I1 (.cons rfl .nil) q)
structure Mk(K:PySem.W.Frag)(C f:Addr):Prop where
 makes:PySem.W.makesIn K C=true
 init:PySem.W.findIn K (.ref C) "__init__" = some (some (.ref f))
 fn:PySem.W.isFn K (.ref f)=true
 kp:PySem.W.keepIn K (.ref C)=true
theorem BR{pins:List (Addr×Obj)}{σ:St}{H:Hp}{s:Shared}{Q:VK}{us:List Value}{vs:List V}(M:Mk X.K C f)(F:FnOk X.prog X.w X.K X.mg X.base CX k f fd ps sp)(hr:Room (k+1) X.A)(hb:Binds X.K fd ps ds)(hd:Vals dvs ds)(hx:gh CX X E)(I:Inv X pins σ H s)(r:Vals vs us)(h:∀x dx,H x=none->H dx=none->dx≠x->sp (.ref x::(vs++dvs)) (upd (upd H dx (.own x)) x (.ins C dx [])) (fun v H2=>v=.non/\Q (.ref x) H2) E) :
  wpAny (model X.prog X.w) X.A (call (.ref C) us) (EP X pins σ Q) X.xe s:=by
 have hq:=h (s.heap.objs.size+1) s.heap.objs.size (I.hok.fresh (Nat.le_succ _)) (I.hok.fresh (Ze _)) (Zv (Nat.lt_succ_self _));have I2:=Inv.made (C:=C) I;have r2:Vals (V.ref (s.heap.objs.size+1)::(vs++dvs)) (Value.ref (s.heap.objs.size+1)::(us++ds)):=.cons rfl (r.append hd);have hl:(Value.ref (s.heap.objs.size+1)::us++ds).length=ps.length:=by have e:=r2.length;rw[F.len _ _ _ _ hq]at e;exact e.symm
 refine wpAny_call (Bg (f:=f) I.kIn M.makes M.init (y4.mp M.fn) (codeAny_mono (F.run _ X.stack _ _ ⟨Value.ref (s.heap.objs.size+1)::us,[]⟩ (Value.ref (s.heap.objs.size+1)::(us++ds)) _ _ E (hr.make C us [])
  (I2.env0.make C us []) (hb _ (Value.ref (s.heap.objs.size+1)::us) I2.kIn hl) r2 hq) fun r s' hq'=>?_))
 cases r with
 |error e=>exact hx pins σ _ _ e s' I2 hq'
 |ok fl =>
  cases fl with
  |ret u =>obtain⟨v,H',I3,rv,ev,q3⟩:=I2.after hq';subst ev;exact⟨rv,⟨V.ref (s.heap.objs.size+1),H',I3,rfl,q3⟩⟩
  |next=>exact False.elim hq'
  |brk=>exact False.elim hq'
  |cont=>exact False.elim hq'
theorem DC(M:Mk X.K C f)(F:FnOk X.prog X.w X.K X.mg X.base CX k f fd ps sp)(hr:Room (k+1) X.A)(hg:Gl X x)(hm:X.mg x=some (.ref C))(hb:Binds X.K fd ps ds)(hd:Vals dvs ds)(hx:gh CX X E)(ha:PA X (e::es) t)(hdb:(x==("__debug__":Str))=false:=by decide)(he:starEach (e::es) X.env=(false,eval e X.env)::starEach es X.env:=by rfl)(hpl:(backTo pos (starEach es X.env)).any (·.1)=false:=by rfl) :
  PE X (.Call (.Name x p) (e::es) [] pos) (CI C sp dvs E t):=by
 intro pins s σ H Q I h;refine Xg (gd I hg hm ?_ hdb);refine PySem.W.callWith_K (h₀:=X.base) I.ok.mod.kin M.kp (thn (ha pos pins s σ H _ I h) fun us s1 ⟨vs,H1,I1,r,q⟩=>⟨I1.kIn,?_⟩) he hpl;exact BR M F hr hb hd hx I1 r q
end
def PK(X:Cx)(kws:List Keyword)(t:TA):Prop :=
 ∀(pos:Pos) (pins:List (Addr×Obj)) (s:Shared) (σ:St) (H:Hp) (Q:List V->Hp->Prop),Inv X pins σ H s->t σ H Q->wpAny (model X.prog X.w) X.A (evalAll ((backToKw pos (keywordEach kws X.env)).map (·.2))) (AP X pins σ Q) X.xe s
section
variable{X:Cx}{CX:CXT}{k:Nat}{f C:Addr}{fd:FuncData}{ps ks:List Str}{sp:Sp}{E:XK}{x m:Str}{p pos apos kpos:Pos}{e o:Expr}{es:List Expr}{kws:List Keyword}{te ta:TE}{t tk:TA}{nm:Option Str}
theorem zC:PK X [] im:=fun _ _ _ _ H Q I h=>wpAny_evalAll_nil ⟨[],H,I,.nil,h⟩
theorem vF(ha:PE X e te)(hr:PK X kws t):PK X (⟨nm,e,kpos⟩::kws) (fD te t):=by intro pos pins s σ H Q I h;show wpAny _ _ (evalAll ((do let v ←eval e X.env;standAt pos;pure v)::(backToKw pos (keywordEach kws X.env)).map (·.2))) _ _ s;refine wpAny_evalAll_cons (z6 (thn (ha pins s σ H _ I h) fun u s1 ⟨x,H1,I1,r1,q1⟩=>z6 (wpAny_standAt (Za ?_))));exact thn (hr pos pins s1 σ H1 _ I1 q1) fun us s2 ⟨xs,H2,I2,r2,q2⟩=>⟨x::xs,H2,I2,.cons r1 r2,q2⟩
structure KBinds(K:PySem.W.Frag)(fd:FuncData)(ps ks:List Str)(g:List Value->List Value->List Value)(gV:List V->List V->List V):Prop where
 to:∀(s:Shared) (us ws:List Value),K.In s.heap->(g us ws).length=ps.length->BindsTo s fd ⟨us,ks.zip ws⟩ (ps.zip (g us ws))
 rel:∀{vs:List V} {us:List Value} {zs:List V} {ws:List Value},Vals vs us->Vals zs ws->Vals (gV vs zs) (g us ws)
variable{g:List Value->List Value->List Value}{gV:List V->List V->List V}
end
structure FnScope(N P:List Str)(sc:Scope):Prop where
 kind:sc.kind=.function
 co:sc.isCoroutine=false
 gen:sc.isGenerator=false
 nd:N.Nodup
 pre:N.take P.length=P
 par:∀x∈P,sc.names.lookup x=some .local\/sc.names.lookup x=some .cell
 nofree:∀y∈sc.names,y.2≠.free
theorem qg{kindOf:Str->Option NameKind}{x:Str}:∀{binds:List (Str×Value)} {m:Str->Option Value},(∀v,(x,v)∉binds)->bindL kindOf binds m x=m x
 | [],_,_=>rfl
 |(n,v)::r,m,h=>by
  unfold bindL;rw[qg fun w hw=>h w (ZC _ hw)];split
  ·have:x≠n:=by rintro rfl;exact h v Z9
   simp[this]
  ·rfl
theorem qc{kindOf:Str->Option NameKind}{x:Str}:∀{binds:List (Str×Value)} {m:Str->Option Value},(∀v,(x,v)∉binds)->bindC kindOf binds m x=m x
 | [],_,_=>rfl
 |(n,v)::r,m,h=>by
  unfold bindC;rw[qc fun w hw=>h w (ZC _ hw)];split
  ·rfl
  ·have:x≠n:=by rintro rfl;exact h v Z9
   simp[this]
theorem qd{kindOf:Str->Option NameKind}{x:Str}{v:Value}:∀{P:List Str} {vs:List Value} {i:Nat} {m:Str->Option Value},P.Nodup->P[i]?=some x->vs[i]?=some v->kindOf x=some .local ->
  bindL kindOf (P.zip vs) m x=some v
 | [],_,_,_,_,h,_,_=>by simp at h
 |_::_,[],_,_,_,_,h,_=>by simp at h
 |p::P,w::vs,0,m,nd,h1,h2,hk=>by simp at h1 h2;subst h1;subst h2;show bindL kindOf ((p,w)::P.zip vs) m p=_;unfold bindL;rw[qg fun v hv=>(List.nodup_cons.mp nd).1 (List.of_mem_zip hv).1,Jv hk];simp
 |p::P,w::vs,i+1,m,nd,h1,h2,hk=>by show bindL kindOf ((p,w)::P.zip vs) m x=_;unfold bindL;exact qd (i:=i) (List.nodup_cons.mp nd).2 (by simpa using h1) (by simpa using h2) hk
theorem qa{kindOf:Str->Option NameKind}{x:Str}{v:Value}:∀{P:List Str} {vs:List Value} {i:Nat} {m:Str->Option Value},P.Nodup->P[i]?=some x->vs[i]?=some v->kindOf x≠some .local ->
  bindC kindOf (P.zip vs) m x=some v
 | [],_,_,_,_,h,_,_=>by simp at h
 |_::_,[],_,_,_,_,h,_=>by simp at h
 |p::P,w::vs,0,m,nd,h1,h2,hk=>by simp at h1 h2;subst h1;subst h2;show bindC kindOf ((p,w)::P.zip vs) m p=_;unfold bindC;rw[qc fun v hv=>(List.nodup_cons.mp nd).1 (List.of_mem_zip hv).1,Ju hk];simp
 |p::P,w::vs,i+1,m,nd,h1,h2,hk=>by show bindC kindOf ((p,w)::P.zip vs) m x=_;unfold bindC;exact qa (i:=i) (List.nodup_cons.mp nd).2 (by simpa using h1) (by simpa using h2) hk
def start(N:List Str)(vs:List V):St:=vs.map some++List.replicate (N.length-vs.length) none
def dO(CX:CXT)(P:Program)(w:World)(K:PySem.W.Frag)(mg:Str->Option Value)(base:Heap)(N:List Str)(qual:Str)(scope:Scope)(f:Addr)(cd:Value)(A:Around)(outer:List Env)(s:Shared)(H:Hp)(E:XK):Cx where
 prog:=P
 w:=w
 K:=K
 mg:=mg
 base:=base
 A:=A.deeper (envOfC qual scope s.heap.objs.size f cd)
 N:=N
 s₀:=s
 H₀:=H
 env:=envOfC qual scope s.heap.objs.size f cd
 outer:=outer
 stack:=envOfC qual scope s.heap.objs.size f cd::outer
 ex:=[]
 calm:=true
 fn:=fun _=>true
 pn:=[]
 xe:=fun e s'=>wpAny (model P w) (A.deeper (envOfC qual scope s.heap.objs.size f cd)) (leaving (envOfC qual scope s.heap.objs.size f cd) e) (fun _ s''=>CX outer H s E e s'') (fun e' s''=>CX outer H s E e' s'') s'
theorem rO{sc:Scope}{n:Nat}{x:Str}(h:sc.names.lookup x=some .cell):∃c,(cellsFrom n sc.names []).lookup x=some c:=by have q:=PySem.W.cellsFrom_some sc.names n [] (.inl h);exact Option.isSome_iff_exists.mp q
theorem qt{CX:CXT}{P:Program}{w:World}{K:PySem.W.Frag}{mg:Str->Option Value}{base:Heap}{N ps:List Str}{qual:Str}{scope:Scope}{f:Addr}{cd:Value}{A:Around}{outer:List Env}{s s1:Shared}{H:Hp}{E:XK}{us:List Value}{vs:List V}(S:FnScope N ps scope)(hd:A.handled=none)(e0:Env0 P w K mg base A outer s H)(hl:vs.length=ps.length)(r:Vals vs us)(x:InCallC s s.heap.objs.size (bindL (envOfC qual scope s.heap.objs.size f cd).kindOf (ps.zip us) fun _=>none) (cellsFrom (s.heap.objs.size+1) scope.names []) (bindC (envOfC qual scope s.heap.objs.size f cd).kindOf (ps.zip us) fun _=>none) s1) :
  Inv (dO CX P w K mg base N qual scope f cd A outer s H E) [] (start N vs) H s1:=by
 have hpl:ps.length<=N.length:=by have:=congrArg List.length S.pre;rw[ZF]at this;omega
 obtain⟨h1,tk,rfl,hk⟩:=x.done;have noA:∀b:Addr,b∉(dO CX P w K mg base N qual scope f cd A outer s H E).ex:=fun b z=>absurd (show b∈([]:List Addr)from z) (by simp);refine⟨⟨e0.mod,S.kind,rfl,rfl,Ze _,fun y z c h1 h2=>?_,fun y hy=>?_,fun y c _ h=>?_,fun _=>hd,Around.frames_deeper e0.frames,.inr ⟨rfl,rfl⟩,fun b z=>absurd z (noA b),e0.bs,e0.bsz,fun b _ _=>noA b,fun b z=>absurd z (noA b),e0.funs,e0.frf⟩,
  rfl,e0.bare,Un.kept hk,⟨_,x.toInCall.ns,fun i y v h1 h2 h3=>?_⟩,fun y c h=>⟨_,x.cell y c h⟩,e0.hok.fresh (Ze _),fun y c h=>?_,fun p hp=>absurd (show p∈([]:List (Addr×Obj)) from hp) (by simp),e0.hok.kept hk,?_⟩
 ·exact name_of_addr x.apart (YU h1) (YU h2)
 ·have hy:scope.names.lookup y=some .cell\/scope.names.lookup y=some .free:=hy;rcases hy with hy|hy
  ·exact rO hy
  ·exact absurd rfl (S.nofree _ (YU hy))
 ·exact Nat.le_of_lt (x.above y c (YU h))
 ·have hi:i<vs.length:=by
   unfold start at h2;by_cases hi:i<vs.length
   ·exact hi
   ·rw[Z3 (by simpa using hi)]at h2;rw[List.getElem?_replicate]at h2;split at h2<;>cases h2
  have ha:vs[i]?=some v:=by
   unfold start at h2;rw[Yv (by simpa using hi),ZB]at h2;cases e:vs[i]? with
   |none=>rw[e]at h2;cases h2
   |some a=>rw[e]at h2;cases h2;rfl
  obtain⟨u,hu,rv⟩:=r.get ha;have hp:ps[i]?=some y:=by rw[<-S.pre,List.getElem?_take_of_lt (by omega)];exact h1
  have ndP:ps.Nodup:=by rw[<-S.pre];exact S.nd.sublist (ZP _ _)
  refine⟨u,rv,?_⟩;rcases S.par y (y8 hp)with k|k
  ·exact .inl ⟨k,qd ndP hp hu k⟩
  ·obtain⟨c,e⟩:=rO (n:=s.heap.objs.size+1) k;refine .inr ⟨.inl k,c,e,?_⟩;have q:=x.cell y c e;rw[qa ndP hp hu (by show scope.names.lookup y≠_;rw[k];decide)]at q;exact q
 ·exact e0.hok.fresh (Nat.le_of_lt (x.above y c (YU h)))
 ·unfold start;show _=N.length;rw[Zg,Zb,Y1];omega
theorem wI{CX:CXT}{P:Program}{w:World}{K:PySem.W.Frag}{mg:Str->Option Value}{base:Heap}{k:Nat}{f:Addr}{name qual:Str}{params:Arguments}{body:List Stmt}{scope:Scope}{dV kV doc pm cdv ct oc:Value}{an od:Option Addr}{osl:Array (Option Value)}{N ps:List Str}{sp:Sp}(lk:K.lookup f=some ⟨oc,od,.func (PySem.W.fnOf name qual params body scope dV kV doc pm an cdv ct),osl⟩)(hcd:PySem.W.codeIn K cdv qual=true)(S:FnScope N ps scope)(len:∀ vs H Q E,sp vs H Q E->vs.length=ps.length)(hbody:∀ (A:Around) (outer:List Env) (s:Shared) (H:Hp) (vs:List V) (Q:VK) (E:XK),Room k (A.deeper (envOfC qual scope s.heap.objs.size f cdv))->sp vs H Q E ->
   ∃ t,PSs (dO CX P w K mg base N qual scope f cdv A outer s H E) body t/\t { nx:=fun _ H'=>Q .non H',rt:=Q } (start N vs) H) :
  FnOk P w K mg base CX (k+1) f (PySem.W.fnOf name qual params body scope dV kV doc pm an cdv ct) ps sp:=by
 refine⟨len,fun A outer s H args us vs Q E hr e0 hb r hsp=>?_⟩;have hl:=len _ _ _ _ hsp;have KX:K.In s.heap:=e0.mod.kin.keeps fun b o e=>(e0.bs b o e).1;have lim:s.heap.NoLimit:=e0.mod.nolimit.keeps fun b o e=>(e0.bs b o e).1;have hkind:∀y∈ps.zip us,scope.names.lookup y.1=some .local\/(scope.names.lookup y.1=some .cell/\((cellsFrom (s.heap.objs.size+1) scope.names []).lookup y.1).isSome=true):=fun⟨n,v⟩ hy=>by
  rcases S.par n (List.of_mem_zip hy).1 with q|q
  ·exact .inl q
  ·exact .inr ⟨q,PySem.W.cellsFrom_some _ _ _ (.inl q)⟩
 refine codeAny_call_function hr.depth (KX _ _ lk) rfl S.co S.gen rfl (PySem.W.codeRec_of KX hcd) (hb _ _ _ _ ?_);refine wpAny_newFunctionEnv_cells S.kind hkind fun env he s1 x=>?_;subst he;refine⟨lim.keeps x.toInCall.keep,codeAny_func ?_⟩;obtain⟨t,ht,hq⟩:=hbody A outer s H vs Q E (hr.deeper _) hsp;have I:Inv (dO CX P w K mg base N qual scope f cdv A outer s H E) [] (start N vs) H s1:=qt S hr.hd e0 hl r x;refine ZX (ht [] s1 (start N vs) H _ I hq) (fun fl s' hs=>?_) fun e s' hs=>hs;have fin:∀{σ':St} {H':Hp} {v:V} {u:Value},Inv (dO CX P w K mg base N qual scope f cdv A outer s H E) [] σ' H' s'->RelV v u->Q v H'->CE outer P w H s Q u s' :=
  fun{σ' H' v u} J rv q=>⟨v,H',J.os,J.bare,J.base,J.hok,rv,q⟩
 cases fl with
 |ret u =>obtain⟨v,σ',H',J,rv,q⟩:=hs;exact fin J rv q
 |next =>obtain⟨σ',H',J,q⟩:=hs;exact fin (v:=V.non) (u:=Value.none) J rfl q
 |brk =>obtain⟨_,_,_,q⟩:=hs;exact False.elim q
 |cont =>obtain⟨_,_,_,q⟩:=hs;exact False.elim q
open PySem PySem.Spec PyProof.Rows
section
variable{X:Cx}{x:Str}{p pos:Pos}{e:Expr}{es:List Expr}{t:TA}{id T:String}{r:List V->Hp->VK->Prop}
def tCB(r:List V->Hp->VK->Prop)(t:TA):TE:=fun σ H Q=>t σ H fun vs H1=>r vs H1 Q
theorem Bv(hc:df X (.builtin id) r)(hg:Gl X x)(hm:X.mg x=none)(hv:bootBuiltins x=some (.builtin id))(ha:PA X (e::es) t)(hn:x≠"__name__":=by decide)(hdb:(x==("__debug__":Str))=false:=by decide)(he:starEach (e::es) X.env=(false,eval e X.env)::starEach es X.env:=by rfl)(hpl:(backTo pos (starEach es X.env)).any (·.1)=false:=by rfl):PE X (.Call (.Name x p) (e::es) [] pos) (tCB r t):=by intro pins s σ H Q I h;refine Xg (eG I hg hm hv ?_ hn hdb);exact PyProof.Rows.callWith_builtin1 (thn (ha pos pins s σ H _ I h) fun us s1 ⟨vs,H1,I1,r1,q1⟩=>hc pins s1 σ H1 vs us Q I1 r1 q1) he hpl
theorem zw(hc:df X (.type T) r)(hg:Gl X x)(hm:X.mg x=none)(hv:bootBuiltins x=some (.type T))(ha:PA X (e::es) t)(hn:x≠"__name__":=by decide)(hdb:(x==("__debug__":Str))=false:=by decide)(he:starEach (e::es) X.env=(false,eval e X.env)::starEach es X.env:=by rfl)(hpl:(backTo pos (starEach es X.env)).any (·.1)=false:=by rfl):PE X (.Call (.Name x p) (e::es) [] pos) (tCB r t):=by intro pins s σ H Q I h;refine Xg (eG I hg hm hv ?_ hn hdb);exact YT (thn (ha pos pins s σ H _ I h) fun us s1 ⟨vs,H1,I1,r1,q1⟩=>hc pins s1 σ H1 vs us Q I1 r1 q1) he hpl
end
end L2
namespace HT
open PySem PyProof.Rows
def lexLt:List Int->List Int->Bool
 | [],[]=>false
 | [],_::_=>true
 |_::_,[]=>false
 |x::xs,y::ys=>if x=y then lexLt xs ys else decide (x<y)
theorem lexLt_cons(x y:Int)(xs ys:List Int):lexLt (x::xs) (y::ys)=if x=y then lexLt xs ys else decide (x<y):=rfl
theorem lexLt_nil_nil:lexLt [] []=false:=rfl
theorem eqAt_int(A:Around)(s:Shared)(a:Int)(t:Tok)(c:Int)(u:Tok):∃e,SeqAt.EqAt A s (.int a t) (.int c u) e/\(e=true↔a=c) :=
 ⟨(a==c),SeqAt.EqAt.int_int a t c u,by simp⟩
section
variable{prog:Program}{w:World}{A:Around}{E:Value->Shared->Prop}{s:Shared}
theorem cat_tup{t b:Addr}{vs ws:List Value}{Q:Value->Shared->Prop}(ht:IsTup s.heap t vs.toArray)(hb:IsTup s.heap b ws.toArray)(hv:vs≠[])(h1:ws=[]->Q (.ref t) s)(h2:ws≠[]->Q (.ref s.heap.objs.size) { s with heap:=s.heap.push { cls:=.type "tuple",data:=.seq (vs++ws).toArray } })(hsz:vs.length+ws.length<=sizeLine):wpAny (model prog w) A (binaryOp .Add (.ref t) (.ref b)) Q E s:=by
 obtain⟨⟨cls,dd,data,sl⟩,ho,hc,n,hd⟩:=id ht;obtain⟨⟨cls2,dd2,data2,sl2⟩,ho2,hc2,n2,hd2⟩:=id hb;simp only at hc hd hc2 hd2;subst hc hd hc2 hd2;have e:vs.toArray++ws.toArray=(vs++ws).toArray:=by simp
 by_cases hw:ws=[]
 ·exact concat_meets ⟨_,ho,rfl⟩ ⟨_,ho2,rfl⟩ noFill_tuple_add seq_tuple_add PySem.F.slot_tuple_add PySem.F.entry_tuple_add (PySem.F.args_tuple_add_2 _ _)
   (tuple_addW1 t b vs.toArray ws.toArray n n2 dd dd2 sl sl2 (by simpa using hv) (by simp[hw])) ⟨ho,ho2,h1 hw⟩
 ·refine concat_meets ⟨_,ho,rfl⟩ ⟨_,ho2,rfl⟩ noFill_tuple_add seq_tuple_add PySem.F.slot_tuple_add PySem.F.entry_tuple_add (PySem.F.args_tuple_add_2 _ _)
   (tuple_addW2 t b vs.toArray ws.toArray n n2 dd dd2 sl sl2 (by simpa using hv) (by simpa using hw) (by rw[Zj,Zj];exact hsz)) ⟨ho,ho2,?_⟩
  rw[e];exact h2 hw
def sIx(n d:Nat):Option Int->Nat
 |none=>d
 |some v=>if v<0 then(v+(n:Int)).toNat else min v.toNat n
theorem sIx_none(n d:Nat):sIx n d none=d:=rfl
theorem sIx_nat(n d k:Nat):sIx n d (some (k:Int))=min k n:=by show(if(k:Int)<0 then((k:Int)+(n:Int)).toNat else min (k:Int).toNat n)=min k n;rw[Ju (by omega),Z7]
theorem Ge(n d:Nat)(hd:d<=n)(o:Option Int):sIx n d o<=n:=by
 cases o with
 |none=>exact hd
 |some v =>
  show(if v<0 then(v+(n:Int)).toNat else min v.toNat n)<=n;by_cases hv:v<0
  ·rw[Jv hv];omega
  ·rw[Ju hv];exact Nat.min_le_right _ _
theorem uY(v:Int)(n d:Nat):(if v<0 then max (v+(n:Int)) 0 else min v (n:Int))=((sIx n d (some v):Nat):Int):=by
 show(if v<0 then max (v+(n:Int)) 0 else min v (n:Int))=(((if v<0 then(v+(n:Int)).toNat else min v.toNat n):Nat):Int);by_cases hv:v<0
 ·simp only[Jv hv];omega
 ·simp only[Ju hv];omega
theorem wq(lo hi:Option Int)(n:Nat):Builtin.Slice.sliceAdjust lo hi 1 (n:Int)=(((sIx n 0 lo:Nat):Int),((sIx n n hi:Nat):Int)):=by
 have h1:¬((1:Int)<0):=by omega
 unfold Builtin.Slice.sliceAdjust;simp only[h1,YY];refine Prod.ext ?_ ?_
 ·cases lo with
  |none=>rfl
  |some v=>exact uY v n 0
 ·cases hi with
  |none=>rfl
  |some v=>exact uY v n n
theorem xy(i j:Nat):Builtin.Slice.slicePlaces (i:Int) (j:Int) 1=j-i:=by
 unfold Builtin.Slice.slicePlaces;have h1:(1:Int)>0:=by omega
 simp only[h1,if_true,Int.ediv_one];split<;>omega
theorem nG{v:Value}{o:Option Int}{Q:Option Int->Shared->Prop}(p:IsPart v o)(h:Q o s):wpAny (model prog w) A (Builtin.Slice.slicePartIndex v) Q E s:=by
 cases p with
 |none=>exact slicePart_none h
 |int i t=>exact slicePart_int h
theorem sliceApplied_gen{sl:Addr}{vl vu:Value}{lo hi:Option Int}{n:Nat}{Q:Int×Int×Nat->Shared->Prop}(hs:s.heap.IsSliceOf sl vl vu .none)(pl:IsPart vl lo)(pu:IsPart vu hi)(h:Q (((sIx n 0 lo:Nat):Int),1,sIx n n hi-sIx n 0 lo) s):wpAny (model prog w) A (Builtin.Slice.sliceApplied (.ref sl) (pure (n:Int))) Q E s:=by obtain⟨os,hos,hcs,hds⟩:=id hs;unfold Builtin.Slice.sliceApplied Builtin.Slice.sliceFields;refine z6 (z6 (Z2 hos hds (x:=vl) rfl (z6 (Z2 hos hds (x:=vu) rfl (z6 (Z2 hos hds (x:=.none) rfl (Za ?_)))))));refine z6 (slicePart_none ?_);show wpAny _ _ (if((1:Int)==0)=true then _ else _) _ _ s;rw[Ju (by decide)];refine z6 (nG pl (z6 (nG pu (z6 (Za ?_)))));show wpAny _ _ (match Builtin.Slice.sliceAdjust lo hi 1 (n:Int)with|(lo,hi)=>pure (lo,(1:Int),Builtin.Slice.slicePlaces lo hi 1)) _ _ s;rw[wq lo hi n];show wpAny _ _ (pure (((sIx n 0 lo:Nat):Int),(1:Int),Builtin.Slice.slicePlaces ((sIx n 0 lo:Nat):Int) ((sIx n n hi:Nat):Int) 1)) _ _ s;rw[xy];exact Za h
theorem BE(xs:Array Value)(i k:Nat):((List.range k).filterMap fun(m:Nat)=>xs[((i:Int)+(m:Int)*1).toNat]?).toArray=((xs.toList.drop i).take k).toArray:=by
 have e:(fun(m:Nat)=>xs[((i:Int)+(m:Int)*1).toNat]?)=fun m=>xs[i+m]?:=by
  funext m;have:((i:Int)+(m:Int)*1).toNat=i+m:=by omega
  rw[this]
 rw[e];have:=pick_run xs i k;rw[List.filterMap_map]at this;have e2:((fun x=>xs[x]?)∘fun x=>i+x)=fun m=>xs[i+m]?:=rfl;rw[e2]at this;rw[this]
theorem getItem_tuple_cut{t sl:Addr}{items:Array Value}{vl vu:Value}{lo hi:Option Int}{Q:Value->Shared->Prop}(ht:IsTup s.heap t items)(hs:s.heap.IsSliceOf sl vl vu .none)(pl:IsPart vl lo)(pu:IsPart vu hi)(hw:¬(sIx items.size 0 lo=0/\sIx items.size items.size hi=items.size))(h:Q (.ref s.heap.objs.size) { s with heap:=s.heap.push { cls:=.type "tuple",data:=.seq ((items.toList.drop (sIx items.size 0 lo)).take (sIx items.size items.size hi-sIx items.size 0 lo)).toArray } })(hsz:items.size<=sizeLine):wpAny (model prog w) A (getItem (.ref t) (.ref sl)) Q E s:=by
 have htake:sizeOk (.seq ((items.toList.drop (sIx items.size 0 lo)).take (sIx items.size items.size hi-sIx items.size 0 lo)).toArray):=by show((items.toList.drop (sIx items.size 0 lo)).take (sIx items.size items.size hi-sIx items.size 0 lo)).toArray.size<=sizeLine;rw[Zj,ZF,Ya,Zh];omega
 have hj:sIx items.size items.size hi<=items.size:=Ge _ _ (Ze _) hi;obtain⟨os,hos,hcs,hds⟩:=id hs;have hTs:s.TypeIs (.ref sl) "slice":=⟨os,hos,hcs⟩
 unfold getItem
 try with_reducible refine Z4 ?_
 first|refine z6 (Za ?_)|skip
 refine z6 (wpAny_sequenceKey ht.typeIs (by decide) ?_);refine z6 (ZS (name:=Str.ofString "__getitem__") ht.typeIs Yj
  (ZR Yj ht.typeIs entry_tuple_getitem ?_ (args_tuple_getitem _ _)))
 show wpAny _ _ (Builtin.Tuple.tupleItemsOf (.ref t) >>= _) _ _ s;refine z6 (tupleItemsOf_ ht ?_);refine z6 (wpAny_typeOf hTs ?_);rw[Jv (by decide)];refine z6 (sliceApplied_gen hs pl pu ?_);have hno:¬((((sIx items.size 0 lo:Nat):Int)==0&&(1:Int)==1&&(sIx items.size items.size hi-sIx items.size 0 lo)==items.size)=true):=by intro q;rw[Zz,Zz]at q;have q1:((sIx items.size 0 lo:Nat):Int)=0:=eq_of_beq q.1.1;have q2:sIx items.size items.size hi-sIx items.size 0 lo=items.size:=eq_of_beq q.2;exact hw ⟨by omega,by omega⟩
 show wpAny _ _ (if(((sIx items.size 0 lo:Nat):Int)==0&&(1:Int)==1&&(sIx items.size items.size hi-sIx items.size 0 lo)==items.size)=true then _ else _) _ _ s;rw[Ju hno,BE]
 first
  |exact z6 (m:=Builtin.Tuple.tupleExact _) (ZQ (Za ⟨_,rfl,Za h⟩) htake)
  |exact z6 (m:=Builtin.Tuple.tupleExact _) (ZQ (z6 (Za (Za ⟨_,rfl,Za h⟩))) htake)
  |exact z6 (z6 (m:=Builtin.Tuple.tupleExact _) (ZQ (Za (Za ⟨_,rfl,Za h⟩)) htake))
  |exact z6 (z6 (m:=Builtin.Tuple.tupleExact _) (ZQ (Za ⟨_,rfl,Za h⟩) htake))
end
end HT
namespace L2
open PySem PySem.Spec PyProof.Rows
abbrev TO:=St->Hp->(Option Int->Hp->Prop)->Prop
def PO(X:Cx)(e:Option Expr)(t:TO):Prop :=
 ∀(pins:List (Addr×Obj)) (s:Shared) (σ:St) (H:Hp) (Q:Option Int->Hp->Prop),Inv X pins σ H s->t σ H Q ->
  wpAny (model X.prog X.w) X.A (evalPart e X.env) (fun u s'=>∃o H',Inv X pins σ H' s'/\IsPart u o/\Q o H') X.xe s
def vW:TO:=fun _ H Q=>Q none H
def CL(t:TE):TO:=fun σ H Q=>t σ H fun x H1=>∃i,x=.int i/\Q (some i) H1
theorem cH{ns:List Int}:∀{us:List Value},Vals (ns.map V.int) us->IntsAre us ns:=by
 induction ns with
 |nil=>intro us r;rw[List.map_nil]at r;cases r;exact .nil
 |cons n ns ih =>
  intro us r;rw[Z0]at r;cases r with
  |cons r1 r2 =>obtain⟨t,e⟩:=r1;subst e;exact .cons n t (ih r2)
section
variable{X:Cx}{e:Expr}{te:TE}{lo hi:Option Expr}{tl th:TO}{pos p2:Pos}
theorem DI:PO X none vW:=by intro pins s σ H Q I h;rw[evalPart_none];exact Za ⟨none,H,I,.none,h⟩
theorem DJ(h:PE X e te):PO X (some e) (CL te):=by intro pins s σ H Q I hw;rw[evalPart_some];refine thn (h pins s σ H _ I hw) fun u s1 hz9=>?_;obtain⟨x,H1,I1,r1,q1⟩:=hz9;obtain⟨i,rfl,q⟩:=q1;obtain⟨t,rfl⟩:=r1;exact⟨some i,H1,I1,.int i t,q⟩
def SlR(X:Cx)(r:V->Option Int->Option Int->Hp->VK->Prop):Prop :=
 ∀(pins:List (Addr×Obj)) (s:Shared) (σ:St) (H:Hp) (x:V) (v vl vu:Value) (lo hi:Option Int) (sl:Addr) (Q:VK),Inv X pins σ H s->RelV x v->s.heap.IsSliceOf sl vl vu .none->IsPart vl lo->IsPart vu hi->r x lo hi H Q ->
  ∃T id,typeLookup (.type T) "__getitem__" = pure (some (.builtin id))/\s.TypeIs v T/\wpAny (model X.prog X.w) X.A (getItem v (.ref sl)) (EP X pins σ Q) X.xe s
def tSl(r:V->Option Int->Option Int->Hp->VK->Prop)(te:TE)(tl th:TO):TE:=fun σ H Q=>te σ H fun x H1=>tl σ H1 fun l H2=>th σ H2 fun u H3=>r x l u H3 Q
theorem BB{r:V->Option Int->Option Int->Hp->VK->Prop}(hr:SlR X r)(he:PE X e te)(hl:PO X lo tl)(hu:PO X hi th):PE X (.Subscript e (.Slice lo hi none p2) pos) (tSl r te tl th):=by intro pins s σ H Q I h;refine Subscript_ (thn (he pins s σ H _ I h) fun v s1 hz9=>?_);obtain⟨x,H1,I1,r1,q1⟩:=hz9;refine wpAny_Slice (thn (hl pins s1 σ H1 _ I1 q1) fun vl s2 ⟨l,H2,I2,pl,q2⟩=>thn (hu pins s2 σ H2 _ I2 q2) fun vu s3 hz9=>?_);obtain⟨u,H3,I3,pu,q3⟩:=hz9;rw[evalPart_none];refine Za ?_;have I4:Inv X pins σ H3 { s3 with heap:=s3.heap.push { cls:=.type "slice",data:=.fields #[vl,vu,.none] } }:=I3.kept (t':=s3.toks) fun b ob q=>z9 _ q;obtain⟨T,id,hT,ht,hg⟩:=hr pins { s3 with heap:=s3.heap.push { cls:=.type "slice",data:=.fields #[vl,vu,.none] } } σ H3 x v vl vu l u s3.heap.objs.size Q I4 r1 (Heap.IsSliceOf.new ..) pl pu q3;show wpAny (model X.prog X.w) X.A (subscriptTail e (.Slice lo hi none p2) v (.ref s3.heap.objs.size)) (EP X pins σ Q) X.xe { s3 with heap:=s3.heap.push { cls:=.type "slice",data:=.fields #[vl,vu,.none] } };exact tail_any (ops:=[.ref s3.heap.objs.size,v]) ht hT hg (by with_unfolding_all rfl)
def cy(xs:List V)(lo hi:Option Int):List V:=(xs.drop (HT.sIx xs.length 0 lo)).take (HT.sIx xs.length xs.length hi-HT.sIx xs.length 0 lo)
theorem kQ(xs:List V)(lo hi:Option Int):(cy xs lo hi).length<=xs.length:=by unfold cy;rw[ZF,Ya];omega
def Ig(K:PySem.W.Frag):V->Option Int->Option Int->Hp->VK->Prop:=fun x lo hi H Q=>∃a xs,x=.ref a/\SqT K H a xs /\
 ¬(HT.sIx xs.length 0 lo=0/\HT.sIx xs.length xs.length hi=xs.length)/\∀p,H p=none->Q (.ref p) (upd H p (.tup (cy xs lo hi)))
theorem Gh:SlR X (Ig X.K):=by
 intro pins s σ H x v vl vu lo hi sl Q I rx hs pl pu h;obtain⟨a,xs,rfl,hx,hw,q⟩:=h;cases rx;obtain⟨its,r,ht,hz⟩:=I.tuple hx;have hlen:its.toArray.size=xs.length:=by rw[Zj];exact r.length.symm
 refine⟨"tuple",_,Yj.lookup,ht.typeIs,?_⟩;refine HT.getItem_tuple_cut ht hs pl pu (by rw[hlen];exact hw) ?_ (by rw[hlen];exact hz);rw[hlen];refine⟨.ref s.heap.objs.size,_,I.laid (t':=s.toks) (o:=.tup (cy xs lo hi)) (fun b ob q=>z9 _ q) (Ze _) ?_,rfl,q _ (I.hok.fresh (Ze _))⟩;exact⟨ZZ (kQ xs lo hi) hz,_,(r.drop (HT.sIx xs.length 0 lo)).take (HT.sIx xs.length xs.length hi-HT.sIx xs.length 0 lo),IsTup.new _ _⟩
def Hl(K:PySem.W.Frag):R2:=fun x y H Q=>∃a b xs ys,x=.ref a/\y=.ref b/\SqT K H a xs/\SqT K H b ys/\xs≠[]/\xs.length+ys.length<=sizeLine /\
 (ys=[]->Q (.ref a) H)/\(ys≠[]->∀p,H p=none->Q (.ref p) (upd H p (.tup (xs++ys))))
theorem Vals.nil_iff{xs:List V}{us:List Value}(r:Vals xs us):us=[]↔xs=[]:=by
 cases r with
 |nil=>simp
 |cons _ _=>simp
theorem Do:OpR X (binaryOp .Add) (Hl X.K):=by intro pins s σ H x y v u Q I rx ry h;obtain⟨a,b,xs,ys,rfl,rfl,ha,hb,hx,hz,q1,q2⟩:=h;cases rx;cases ry;obtain⟨its,r1,p1,_⟩:=I.tuple ha;obtain⟨its2,r2,p2,_⟩:=I.tuple hb;refine HT.cat_tup p1 p2 (fun z=>hx (r1.nil_iff.mp z)) (fun z=>⟨.ref a,H,I,rfl,q1 (r2.nil_iff.mp z)⟩) (fun z=>?_) (by rw[<-r1.length,<-r2.length];exact hz);refine⟨.ref s.heap.objs.size,_,I.laid (t':=s.toks) (o:=.tup (xs++ys)) (fun b ob q=>z9 _ q) (Ze _) ?_,rfl,q2 (fun w=>z (r2.nil_iff.mpr w)) _ (I.hok.fresh (Ze _))⟩;exact⟨by rw[Zg];exact hz,_,r1.append r2,IsTup.new _ _⟩
end
open PySem PySem.Spec PyProof.Rows
def ixN(n:Nat)(i:Int):Option Nat:=if 0<=i then(if i<n then some i.toNat else none)else if -(n:Int)<=i then some (i+n).toNat else none
def atI{α:Type}(xs:List α)(i:Int):Option α:=(ixN xs.length i).bind fun j=>xs[j]?
theorem vp{n:Nat}{i:Int}{j:Nat}(h:ixN n i=some j):seqIndex? i n=some j/\j<n/\-(n:Int)<=i/\i<n:=by
 unfold ixN at h;by_cases h0:0<=i
 ·rw[Jv h0]at h;by_cases h1:i<n
  ·rw[Jv h1]at h;have e:i.toNat=j:=ZE h;exact⟨by rw[seqIndex_of h0 h1,e],by omega,by omega,h1⟩
  ·rw[Ju h1]at h;cases h
 ·rw[Ju h0]at h;by_cases h1:-(n:Int)<=i
  ·rw[Jv h1]at h;have e:(i+n).toNat=j:=ZE h;exact⟨by rw[seqIndex_neg (by omega) h1,e],by omega,h1,by omega⟩
  ·rw[Ju h1]at h;cases h
theorem uT{α:Type}{xs:List α}{i:Int}{v:α}(h:atI xs i=some v):∃j,seqIndex? i xs.length=some j/\xs[j]?=some v/\j<xs.length/\-(xs.length:Int)<=i/\i<xs.length:=by
 unfold atI at h;cases e:ixN xs.length i with
 |none=>rw[e]at h;cases h
 |some j =>rw[e]at h;obtain⟨h1,h2,h3,h4⟩:=vp e;exact⟨j,h1,h,h2,h3,h4⟩
theorem eZ{α:Type}{xs:List α}{j:Nat}{v:α}(h:xs[j]?=some v):atI xs (j:Int)=some v:=by
 have hj:j<xs.length:=(ZH.mp h).1;have e:ixN xs.length (j:Int)=some j:=by unfold ixN;rw[Jv (by omega),Jv (by omega)];simp
 unfold atI;rw[e];exact h
def uO(b:Expr):Prop:=∀o i,subscripted b false o i=operate [o,i] (getItem o i)
def IxR(X:Cx)(r:R2):Prop :=
 ∀(value slice:Expr) (pins:List (Addr×Obj)) (s:Shared) (σ:St) (H:Hp) (x y:V) (v u:Value) (Q:VK),Inv X pins σ H s->RelV x v->RelV y u->r x y H Q ->
  subscripted slice false v u=operate [v,u] (getItem v u)->wpAny (model X.prog X.w) X.A (subscriptTail value slice v u) (EP X pins σ Q) X.xe s
def MtR(X:Cx)(id:String)(r:V->List V->Hp->VK->Prop):Prop :=
 ∀(pins:List (Addr×Obj)) (s:Shared) (σ:St) (H:Hp) (x:V) (xs:List V) (v:Value) (us:List Value) (Q:VK),Inv X pins σ H s->RelV x v->Vals xs us->r x xs H Q ->
  wpAny (model X.prog X.w) X.A (call (.builtin id) (v::us)) (EP X pins σ Q) X.xe s
section
variable{X:Cx}{a b:Expr}{ta tb:TE}{pos:Pos}
theorem Hc{r:R2}(hr:IxR X r)(ha:PE X a ta)(hb:PE X b tb)(hs:uO b):PE X (.Subscript a b pos) (tOp r ta tb):=by intro pins s σ H Q I h;exact Subscript_ (AT ha hb I h fun v u s2 x y H2 I2 rx ry q=>hr a b pins s2 σ H2 x y v u Q I2 rx ry q (hs _ _))
def BN(K:PySem.W.Frag):R2:=fun x y H Q=>∃p xs i v,x=.ref p/\y=.int i/\SqL K H p xs/\atI xs i=some v/\Q v H
def xz(K:PySem.W.Frag):R2:=fun x y H Q=>∃p xs i v,x=.ref p/\y=.int i/\SqT K H p xs/\atI xs i=some v/\Q v H
theorem C7:IxR X (BN X.K):=by
 intro value slice pins s σ H x y v u Q I rx ry h hs;obtain⟨p,xs,i,z,rfl,rfl,hq,he,q⟩:=h;cases rx;obtain⟨t,rfl⟩:=ry;obtain⟨its,r,pl,hz⟩:=I.list hq;obtain⟨j,h1,h2,h3,h4,h5⟩:=uT he;obtain⟨w,ew,rw'⟩:=r.get h2;have hl:=r.length;have hn:=mK;have fin:EP X pins σ Q w s:=⟨z,H,I,rw',q⟩
 by_cases h0:0<=i
 ·have hj:i.toNat=j:=by rw[seqIndex_of h0 h5]at h1;exact ZE h1
  exact item_listR pl.isList h0 (by omega) (by rw[hj];simpa using ew) fin hs
 ·have hj:(i+(its.toArray.size:Int)).toNat=j:=by rw[seqIndex_neg (by omega) h4]at h1;rw[Zj,<-hl];exact ZE h1
  exact subscriptTail_builtinR (x:=w) pl.isList.typeIs slot_list_getitem.lookup
   (wpAny_getItem_list_neg (Q:=fun r s'=>r=w/\EP X pins σ Q r s') pl.isList (by omega) (by rw[Zj]<;>omega) (by omega) (by rw[hj];simpa using ew) ⟨rfl,fin⟩) hs
theorem ES:IxR X (xz X.K):=by
 intro value slice pins s σ H x y v u Q I rx ry h hs;obtain⟨p,xs,i,z,rfl,rfl,hq,he,q⟩:=h;cases rx;obtain⟨t,rfl⟩:=ry;obtain⟨its,r,pl,hz⟩:=I.tuple hq;obtain⟨j,h1,h2,h3,h4,h5⟩:=uT he;obtain⟨w,ew,rw'⟩:=r.get h2;have hl:=r.length;have hn:=mK;have fin:EP X pins σ Q w s:=⟨z,H,I,rw',q⟩
 exact subscriptTail_builtinR (x:=w) pl.typeIs slot_tuple_getitem.lookup
  (getItem_tuple (j:=j) (Q:=fun r s'=>r=w/\EP X pins σ Q r s') pl (by omega) (by omega) (by rw[Zj,<-hl];exact h1) (by simpa using ew) ⟨rfl,fin⟩) hs
theorem wZ(its:List Value)(n j:Nat)(u:Value):Obj.mapSeq (·.setIfInBounds j u) { cls:=.type "list",data:=.seq its.toArray n }={ cls:=.type "list",data:=.seq (its.set j u).toArray n }:=by simp[Obj.mapSeq]
theorem Inv.lst{pins:List (Addr×Obj)}{σ:St}{H:Hp}{s:Shared}{p:Addr}{xs:List V}(I:Inv X pins σ H s)(h:H p=some (.lst xs)) :
  ∃(its:List Value) (n:Nat),Vals xs its/\s.heap.get? p=some { cls:=.type "list",data:=.seq its.toArray n }/\xs.length<=sizeLine:=by
 obtain⟨z,its,n,r,e⟩:=I.hok p _ h;exact⟨its,n,r,e,z⟩
theorem Inv.lstUpd{pins:List (Addr×Obj)}{σ:St}{H:Hp}{s:Shared}{p:Addr}{xs ys:List V}{its its':List Value}{n n':Nat}{f:Obj->Obj}(I:Inv X pins σ H s)(h:H p=some (.lst xs))(ho:s.heap.get? p=some { cls:=.type "list",data:=.seq its.toArray n })(hf:f { cls:=.type "list",data:=.seq its.toArray n }={ cls:=.type "list",data:=.seq its'.toArray n' })(r:Vals ys its')(hz:ys.length<=sizeLine)(t:Nat) :
  Inv X pins σ (upd H p (.lst ys)) { s with heap:=s.heap.update p f,toks:=t }:=by
 have e:(s.heap.update p f).get? p=some { cls:=.type "list",data:=.seq its'.toArray n' }:=by rw[Yi f ho (by rw[hf]<;>rfl),hf]
 refine I.write (x:=p) (e:=p) (by rw[h];trivial) (.inl rfl) (fun b u hb q=>(YB _ _ (Yx hb)).trans q) ⟨_,e⟩ ?_;exact⟨hz,its',n',r,e⟩
def Cz:V->V->V->Hp->(Hp->Prop)->Prop:=fun o i v H Q=>∃p xs k j,o=.ref p/\i=.int k/\H p=some (.lst xs)/\ixN xs.length k=some j/\Q (upd H p (.lst (xs.set j v)))
theorem BW:AK X Cz:=by
 intro pins s σ H o i v ov iv u Q I ro ri rv h;obtain⟨p,xs,k,j,rfl,rfl,hp,hj,q⟩:=h;cases ro;obtain⟨t,rfl⟩:=ri;obtain⟨its,n,r,ho,hz⟩:=I.lst hp;obtain⟨h1,h2,h3,h4⟩:=vp hj;have hl:=r.length;have hn:=mK;have I':Inv X pins σ (upd H p (.lst (xs.set j v))) { s with heap:=s.heap.update p (Obj.mapSeq (·.setIfInBounds j u)) } :=
  I.lstUpd hp ho (wZ its n j u) (r.set rv j) (by rw[Yf];exact hz) s.toks
 by_cases h0:0<=k
 ·have hk:k.toNat=j:=by rw[seqIndex_of h0 h4]at h1;exact ZE h1
  exact PySem.W.ki_setAt ho h0 (by omega) (by rw[Zj,<-hl];exact h4) (by rw[hk];exact⟨_,I',q⟩)
 ·have hk:(k+(its.toArray.size:Int)).toNat=j:=by rw[seqIndex_neg (by omega) h3]at h1;rw[Zj,<-hl];exact ZE h1
  exact PySem.W.ki_setBack ho (by omega) (by rw[Zj,<-hl];exact h3) (by omega) (by rw[hk];exact⟨_,I',q⟩)
theorem tK(lo hi:Option Int)(n:Nat):(sliceBounds lo hi none n).1=((HT.sIx n 0 lo:Nat):Int)/\(sliceBounds lo hi none n).2.1=((HT.sIx n n hi:Nat):Int)/\(sliceBounds lo hi none n).2.2=1:=by
 refine⟨?_,?_,rfl⟩
 ·cases lo with
  |none=>simp[sliceBounds,HT.sIx]
  |some i =>
   simp only[sliceBounds,HT.sIx,Option.getD_none,show(1:Int)>0 by decide,if_true];by_cases h:i<0
   ·simp only[h,if_true]<;>omega
   ·simp only[h,YY]<;>omega
 ·cases hi with
  |none=>simp[sliceBounds,HT.sIx]
  |some i =>
   simp only[sliceBounds,HT.sIx,Option.getD_none,show(1:Int)>0 by decide,if_true];by_cases h:i<0
   ·simp only[h,if_true]<;>omega
   ·simp only[h,YY]<;>omega
theorem qV(its:List Value)(lo hi:Option Int):slicePick its.toArray lo hi none=((its.drop (HT.sIx its.length 0 lo)).take (HT.sIx its.length its.length hi-HT.sIx its.length 0 lo)).toArray:=by obtain⟨h1,h2,h3⟩:=tK lo hi its.toArray.size;unfold slicePick;rw[h1,h2,h3];simp only[sliceRange_one,pick_run,Zj]<;>rfl
def Ga(K:PySem.W.Frag):V->Option Int->Option Int->Hp->VK->Prop:=fun x lo hi H Q=>∃a xs,x=.ref a/\SqL K H a xs/\∀p,H p=none->Q (.ref p) (upd H p (.lst (cy xs lo hi)))
theorem Eb:SlR X (Ga X.K):=by intro pins s σ H x v vl vu lo hi sl Q I rx hs pl pu h;obtain⟨a,xs,rfl,hx,q⟩:=h;cases rx;obtain⟨its,r,ht,hz⟩:=I.list hx;have hlen:=r.length;refine⟨"list",_,slot_list_getitem.lookup,ht.isList.typeIs,?_⟩;refine wpAny_getItem_list_slice ht.isList hs pl pu .none (by simp) ?_ (by rw[Zj]<;>omega);rw[qV,<-hlen];refine⟨.ref s.heap.objs.size,_,I.laid (t':=s.toks) (o:=.lst (cy xs lo hi)) (fun b ob q=>z9 _ q) (Ze _) ?_,rfl,q _ (I.hok.fresh (Ze _))⟩;exact⟨ZZ (kQ xs lo hi) hz,_,0,(r.drop (HT.sIx xs.length 0 lo)).take (HT.sIx xs.length xs.length hi-HT.sIx xs.length 0 lo),Zk _ rfl⟩
theorem rN:df X (.builtin "len") (fun xs H Q=>∃p ys,xs=[.ref p]/\(SqL X.K H p ys\/SqT X.K H p ys)/\Q (.int ys.length) H):=by
 intro pins s σ H xs us Q I r h;obtain⟨p,ys,rfl,hq,q⟩:=h;obtain⟨u,rfl,rx⟩:=ce r;cases rx;have hn:=mK;rcases hq with hq|hq
 ·obtain⟨its,r',pl,hz⟩:=I.list hq;have hlen:=r'.length;exact Calls.call_len_list pl.isList (by simp only[Zj]<;>omega) ⟨.int ys.length,H,I.tok _,⟨s.toks+1,by rw[Zj,hlen]⟩,q⟩
 ·obtain⟨its,r',pl,hz⟩:=I.tuple hq;have hlen:=r'.length;exact len_tuple pl (by simp only[Zj]<;>omega) ⟨.int ys.length,H,I.tok _,⟨s.toks+1,by rw[Zj,hlen]⟩,q⟩
theorem qN:df X (.type "tuple") (fun xs H Q=>∃p ys,xs=[.ref p]/\((SqL X.K H p ys/\∀l,H l=none->Q (.ref l) (upd H l (.tup ys)))\/(SqT X.K H p ys/\Q (.ref p) H))):=by
 intro pins s σ H xs us Q I r h;obtain⟨p,ys,rfl,h⟩:=h;obtain⟨u,rfl,rx⟩:=ce r;cases rx;rcases h with⟨hq,q⟩|⟨hq,q⟩
 ·obtain⟨its,r',pl,hz⟩:=I.list hq;have hlen:=r'.length;refine call_tuple_list pl.isList (fun h' kp=>?_) (by simp only[Zj]<;>omega);have I1:Inv X pins σ H { s with heap:=h' }:=I.kept (t':=s.toks) kp;have I2:Inv X pins σ (upd H h'.objs.size (.tup ys)) { s with heap:=h'.push { cls:=.type "tuple",data:=.seq its.toArray } } :=
   I1.laid (t':=s.toks) (fun b o e=>z9 _ e) (Ze _) (show ObjOk X.prog X.w _ _ _ (.tup ys)from⟨hz,its,r',IsTup.new _ _⟩)
  exact⟨.ref h'.objs.size,_,I2,rfl,q _ (I1.hok.fresh (Ze _))⟩
 ·obtain⟨its,r',pl,hz⟩:=I.tuple hq;exact call_tuple_same pl ⟨.ref p,H,I,rfl,q⟩
def tyV(K:PySem.W.Frag)(T:String)(x:V)(H:Hp):Prop:=match x with
 |.str _=>T="str"
 |.int _=>T="int"
 |.ref p=>(T="list"/\∃xs,SqL K H p xs)\/(T="tuple"/\∃o,K.lookup p=some o/\o.cls=.type "tuple"/\o.dict=none) \/
   (T="dict"/\((∃kvs,H p=some (.dK kvs))\/∃kvs,H p=some (.dT kvs)))\/(T="set"/\∃S n,H p=some (.set S n))
 |_=>False
theorem Gz{pins:List (Addr×Obj)}{σ:St}{H:Hp}{s:Shared}{T:String}{x:V}{v:Value}(I:Inv X pins σ H s)(r:RelV x v)(ty:tyV X.K T x H) :
  s.TypeIs v T/\∀a,v=.ref a->∃ob,s.heap.get? a=some ob/\ob.dict=none:=by
 cases x with
 |str z =>obtain⟨t,rfl⟩:=r;cases(show T="str" from ty);exact⟨typeIs_str s z t,fun _ e=>nomatch e⟩
 |int i =>obtain⟨t,rfl⟩:=r;cases(show T="int" from ty);exact⟨typeIs_int s i t,fun _ e=>nomatch e⟩
 |ref p =>
  cases r;rcases ty with⟨rfl,xs,hq⟩|⟨rfl,o,hk,hc,hd⟩|⟨rfl,hk⟩|⟨rfl,S,n,hk⟩
  ·obtain⟨its,_,pl,_⟩:=I.list hq;refine⟨pl.isList.typeIs,fun a e=>?_⟩;cases e;obtain⟨o,n,e,c,hd,_⟩:=pl;exact⟨o,e,hd⟩
  ·refine⟨⟨o,I.kIn p o hk,hc⟩,fun a e=>?_⟩;cases e;exact⟨o,I.kIn _ o hk,hd⟩
  ·have z:∃o,s.heap.get? p=some o/\o.ExactDict:=by
    rcases hk with⟨kvs,hk⟩|⟨kvs,hk⟩
    ·obtain⟨_,_,_,_,o,_,_,e,ex,_⟩:=I.hok p _ hk;exact⟨o,e,ex⟩
    ·obtain⟨_,_,_,_,o,_,_,e,ex,_⟩:=I.hok p _ hk;exact⟨o,e,ex⟩
   obtain⟨o,e,ex⟩:=z;refine⟨⟨o,e,ex.1⟩,fun a e2=>?_⟩;cases e2;exact⟨o,e,ex.2.1⟩
  ·obtain⟨o,_,_,_,e,ex,_⟩:=I.hok p _ hk;refine⟨⟨o,e,ex.1⟩,fun a e2=>?_⟩;cases e2;exact⟨o,e,ex.2.1⟩
 |_=>exact False.elim ty
def tBM(K:PySem.W.Frag)(T:String)(r:V->List V->Hp->VK->Prop)(to:TE)(t:TA):TE:=fun σ H Q=>to σ H fun x H1=>tyV K T x H1/\t σ H1 fun xs H2=>r x xs H2 Q
variable{o e:Expr}{es:List Expr}{to:TE}{t:TA}{name:Str}{apos cpos:Pos}{T id:String}{r:V->List V->Hp->VK->Prop}
theorem Ha(pa:PlainAttrs T)(slot:Slot T name id)(hty:typeOf (.builtin id)=pure (.type "method_descriptor"))(hm:MtR X id r)(ho:PE X o to)(ha:PA X (e::es) t)(hbase:attributeBase o name X.env (eval o X.env)=eval o X.env:=by rfl)(hfew:((backTo cpos (starEach (e::es) X.env)).all (fun x=>!x.1)&&(backToKw cpos (keywordEach [] X.env)).all (fun x=>x.1.isSome)
  &&decide ((e::es).length+([]:List Keyword).length+(if ([]:List Keyword).isEmpty then 0 else 1)<30))=true:=by rfl)(hline:(apos.endLine == cpos.line)=true:=by rfl)(hs:starEach (e::es) X.env=(false,eval e X.env)::starEach es X.env:=by rfl)(hplain:(backTo cpos (starEach es X.env)).any (·.1)=false:=by rfl) :
  PE X (.Call (.Attribute o name apos) (e::es) [] cpos) (tBM X.K T r to t):=by
 intro pins s σ H Q I h;refine wpAny_Call_method_late hbase hfew hline rfl (thn (ho pins s σ H _ I h) fun v s1 hz9=>?_);obtain⟨x,H1,I1,r1,ty,q1⟩:=hz9;obtain⟨h1,h2⟩:=Gz I1 r1 ty;refine⟨T,id,pa,slot,hty,h1,h2,?_⟩;have hA:=ha cpos pins s1 σ H1 _ I1 q1;rw[hs]at hA ⊢;refine Calls.callWith_builtin (by show(false ||(backTo cpos (starEach es X.env)).any (·.1))=false;rw[hplain]<;>rfl) (Calls.evalArgs_plain ?_);exact thn hA fun us s2 ⟨vs,H2,I2,r2,q2⟩=>hm pins s2 σ H2 x vs v us Q I2 r1 r2 q2
end
open PySem PySem.Spec PyProof.Rows
def MtM(X:Cx)(id:String)(r:V->List V->Hp->VK->Prop):Prop :=
 ∀(pins:List (Addr×Obj)) (s:Shared) (σ:St) (H:Hp) (x:V) (xs:List V) (v:Value) (us:List Value) (Q:VK),Inv X pins σ H s->RelV x v->Vals xs us->r x xs H Q ->
  wpAny (model X.prog X.w) X.A (call (.builtin id) (v::us)) (EP X pins σ Q) X.xe s
theorem Vals.one:∀{x:V} {us:List Value},Vals [x] us->∃u,us=[u]/\RelV x u
 |_,_,.cons r .nil=>⟨_,rfl,r⟩
theorem Vals.rep{xs:List V}{us:List Value}(h:Vals xs us):∀k:Nat,Vals (List.replicate k xs).flatten (List.replicate k us).flatten
 |0=>.nil
 |k+1=>by rw[Xc,Xc,YD,YD];exact Vals.append h (Vals.rep h k)
theorem jq(its:List Value):∀(k:Nat) (acc:List Value),
  List.foldl (fun x1 x2=>x1++x2) acc.toArray (List.replicate k its.toArray)=(acc++(List.replicate k its).flatten).toArray
 |0,acc=>by simp
 |k+1,acc=>by
  have e:acc.toArray++its.toArray=(acc++its).toArray:=by simp
  have e2:(acc++its)++(List.replicate k its).flatten=acc++(List.replicate (k+1) its).flatten:=by rw[Xc,YD,ZI]
  rw[<-e2,<-jq its k (acc++its),<-e,Xc,List.foldl_cons]
section
variable{X:Cx}{pins:List (Addr×Obj)}{σ:St}{H:Hp}{s:Shared}{l b:Addr}{xs ys zs:List V}
theorem Inv.lset{its its':List Value}{n:Nat}{f:Array Value->Array Value}{t':Nat}(I:Inv X pins σ H s)(hH:H l=some (.lst xs))(e:s.heap.get? l=some { cls:=.type "list",data:=.seq its.toArray n })(hf:f its.toArray=its'.toArray)(hv:Vals ys its')(hz:ys.length<=sizeLine) :
  Inv X pins σ (upd H l (.lst ys)) { s with heap:=s.heap.update l (Obj.mapSeq f),toks:=t' }:=by
 have q:=PySem.IsL.update e f;rw[hf]at q;refine I.write (x:=l) (e:=l) (by rw[hH];exact trivial) (.inl rfl) (fun b' u hb hu=>(YB s.heap (Obj.mapSeq f) (Yx hb)).trans hu) ⟨_,q⟩ ?_;exact⟨hz,its',_,hv,q⟩
theorem Inv.lnew{its:List Value}{t':Nat}(I:Inv X pins σ H s)(hv:Vals ys its)(hz:ys.length<=sizeLine) :
  Inv X pins σ (upd H s.heap.objs.size (.lst ys)) { s with heap:=s.heap.push { cls:=.type "list",data:=.seq its.toArray },toks:=t' } :=
 I.laid (fun _ _ q=>z9 _ q) (Ze _) ⟨hz,its,0,hv,Zk _ rfl⟩
theorem Inv.fresh(I:Inv X pins σ H s):H s.heap.objs.size=none:=I.hok.fresh (Ze _)
theorem Inv.lstM(I:Inv X pins σ H s)(hH:H l=some (.lst xs)):xs.length<=sizeLine/\∃(its:List Value) (n:Nat),Vals xs its/\xs.length=its.length/\s.heap.get? l=some { cls:=.type "list",data:=.seq its.toArray n }:=by obtain⟨z,its,n,r,e⟩:=I.hok l _ hH;exact⟨z,its,n,r,r.length,e⟩
theorem Bh{n:Nat}(h:n<=sizeLine):Builtin.List.listTooLong n=false:=by unfold Builtin.List.listTooLong;exact decide_eq_false (by omega)
end
section
variable{X:Cx}
def pD:V->List V->Hp->VK->Prop:=fun x vs H Q=>∃l xs y,x=.ref l/\vs=[y]/\H l=some (.lst xs)/\xs.length<sizeLine/\Q .non (upd H l (.lst (xs++[y])))
theorem yY:MtM X "list.append" pD:=by intro pins s σ H x vs v us Q I rx rv h;obtain⟨l,xs,y,rfl,rfl,hH,hz,q⟩:=h;cases rx;obtain⟨u,rfl,ru⟩:=rv.one;obtain⟨z,its,n,r,hl,e⟩:=I.lstM hH;refine call_meets F.slot_list_append ⟨_,e,rfl⟩ F.entry_list_append (F.args_list_append_2 _ _) (PySem.list_append l its.toArray n u (by rw[Zj];omega)) ⟨e,?_⟩;refine⟨.non,_,I.lset (its':=its++[u]) hH e (by simp) (r.append (.cons ru .nil)) ?_,rfl,q⟩;rw[Zg,ZW];omega
def FX:R2:=fun x y H Q=>∃l b xs zs,x=.ref l/\y=.ref b/\H l=some (.lst xs)/\H b=some (.lst zs)/\xs.length+zs.length<=sizeLine/\∀p,H p=none->Q (.ref p) (upd H p (.lst (xs++zs)))
theorem Fc:OpR X (binaryOp .Add) FX:=by
 intro pins s σ H x y v u Q I rx ry h;obtain⟨l,b,xs,zs,rfl,rfl,hH,hB,hz,q⟩:=h;cases rx;cases ry;obtain⟨z,its,n,r,hl,e⟩:=I.lstM hH;obtain⟨z2,its2,n2,r2,hl2,e2⟩:=I.lstM hB;refine PySem.P.add_list e e2 ?_ (by rw[Zj,Zj];omega);have ea:its.toArray++its2.toArray=(its++its2).toArray:=by simp
 rw[ea];exact⟨.ref _,_,I.lnew (t':=s.toks) (r.append r2) (by rw[Zg];omega),rfl,q _ I.fresh⟩
def F9:R2:=fun x y H Q=>∃l k xs,x=.ref l/\y=.int k/\H l=some (.lst xs)/\-(2^63)<=k/\k<2^63/\xs.length*k.toNat<=sizeLine /\
 ∀p,H p=none->Q (.ref p) (upd H p (.lst (List.replicate k.toNat xs).flatten))
theorem oV{α:Type}(xs:List α)(k:Nat):(List.replicate k xs).flatten.length=k*xs.length:=by
 induction k with
 |zero=>simp
 |succ k ih=>rw[Xc,YD,Zg,ih,Nat.succ_mul,Nat.add_comm]
theorem Fg:OpR X (binaryOp .Mult) F9:=by
 intro pins s σ H x y v u Q I rx ry h;obtain⟨l,k,xs,rfl,rfl,hH,h1,h2,hz,q⟩:=h;cases rx;obtain⟨t,rfl⟩:=ry;obtain⟨z,its,n,r,hl,e⟩:=I.lstM hH;have hlen:its.toArray.size*k.toNat<=sizeLine:=by rw[Zj,<-hl];exact hz
 have hcap:¬its.toArray.size*k.toNat>(2^63-1) / 8:=by
  have:(sizeLine:Nat)<=(2^63-1) / 8:=by decide
  omega
 have hfit:¬(!Builtin.List.listFitsIndex k)=true:=by rw[fitsIndex_both h1 h2];exact Zr
 have hlong:¬Builtin.List.listTooLong (its.toArray.size*k.toNat)=true:=by rw[Bh hlen];exact Zr
 have hnew:List.foldl (fun x1 x2=>x1++x2) #[] (List.replicate (if its.toArray.isEmpty=true then 0 else k.toNat) its.toArray)=(List.replicate k.toNat its).flatten.toArray:=by
  have f0:∀m:Nat,List.foldl (fun x1 x2=>x1++x2) #[] (List.replicate m its.toArray)=(List.replicate m its).flatten.toArray:=fun m=>by have:=jq its m [];rw[Xi]at this;exact this
  rw[f0];cases its with
  |nil=>simp
  |cons a r'=>rw[Ju (by simp)]
 refine wpAny_binaryOp_repeat_ref (T:="list") (U:="int") (by decide) ⟨_,e,rfl⟩ (fun s'=>typeIs_int s' k t) noFill_list_mul F.fills_int_mul F.slot_int_rmul repeat_list F.slot_int_index.lookup
  (call_meets F.slot_int_rmul (typeIs_int s k t) F.entry_int_rmul (F.args_int_rmul_2 _ _) (int___rmul___int_list k t l its.toArray n)
   ⟨e,rfl,⟨_,e,rfl⟩,call_meets F.slot_list_mul ⟨_,e,rfl⟩ F.entry_list_mul (F.args_list_mul_2 _ _) (AutoListH.list___mul___list_int_3 l its.toArray n k t hfit hcap hlong) ⟨e,?_⟩⟩)
 rw[hnew];exact⟨.ref _,_,I.lnew (t':=s.toks) (r.rep k.toNat) (by rw[oV,Nat.mul_comm];exact hz),rfl,q _ I.fresh⟩
end
open PySem PySem.Spec PyProof.Rows
section
variable{κ:Type}[DecidableEq κ]
def bo(kvs:List (κ×V))(k:κ):Option V:=(kvs.find? fun kv=>decide (kv.1=k)).map (·.2)
def cU(kvs:List (κ×V))(k:κ)(v:V):List (κ×V) :=
 if(kvs.any fun kv=>decide (kv.1=k))=true then kvs.map (fun kv=>if kv.1=k then(kv.1,v)else kv)else kvs++[(k,v)]
theorem jj{p:κ×V}{r:List (κ×V)}{k:κ}(e:p.1=k):bo (p::r) k=some p.2:=by simp[bo,Y6,e]
theorem ji{p:κ×V}{r:List (κ×V)}{k:κ}(e:¬p.1=k):bo (p::r) k=bo r k:=by simp[bo,Y6,e]
theorem ml(k:κ):∀kvs:List (κ×V),(kvs.any fun kv=>decide (kv.1=k))=(bo kvs k).isSome
 | []=>rfl
 |p::r=>by
  rw[List.any_cons];by_cases e:p.1=k
  ·simp only[jj e,decide_eq_true e,Bool.true_or,Option.isSome_some]
  ·rw[ji e,decide_eq_false e,Bool.false_or];exact ml k r
theorem hU(kvs:List (κ×V))(k:κ)(v:V):(cU kvs k v).length<=kvs.length+1:=by
 unfold cU;split
 ·rw[Zb];omega
 ·rw[Zg,Zm,List.length_nil];omega
theorem gF{kvs:List (κ×V)}{k:κ}(v:V)(h:bo kvs k=none):cU kvs k v=kvs++[(k,v)]:=by unfold cU;rw[ml,h];exact Ju (by decide)
theorem RelO.isSome_eq{o:Option V}{u:Option Value}(r:RelO o u):o.isSome=u.isSome:=by
 cases o with
 |none=>cases u with
  |none=>rfl
  |some _=>exact(show False from r).elim
 |some _=>cases u with
  |none=>exact(show False from r).elim
  |some _=>rfl
theorem KV.val{kvs:List (κ×V)}{vs:List (κ×Value)}(r:KV kvs vs)(k:κ):RelO (bo kvs k) (valueAt vs k):=by
 unfold KV at r;induction r with
 |nil=>exact True.intro
 |@cons p q ps qs h t ih =>
  obtain⟨h1,h2⟩:=h;by_cases e:p.1=k
  ·have e':q.1=k:=h1.symm.trans e;have b:valueAt (q::qs) k=some q.2:=by simp[valueAt,Y6,e']
   rw[jj e,b];exact h2
  ·have e':¬q.1=k:=fun z=>e (h1.trans z);have b:valueAt (q::qs) k=valueAt qs k:=by simp[valueAt,Y6,e']
   rw[ji e,b];exact ih
theorem KV.any{kvs:List (κ×V)}{vs:List (κ×Value)}(r:KV kvs vs)(k:κ):(kvs.any fun kv=>decide (kv.1=k))=vs.any fun kv=>decide (kv.1=k):=by
 unfold KV at r;induction r with
 |nil=>rfl
 |cons h t ih=>rw[List.any_cons,List.any_cons,ih,h.1]
theorem KV.repl{kvs:List (κ×V)}{vs:List (κ×Value)}(r:KV kvs vs)(k:κ){y:V}{u:Value}(ry:RelV y u) :
  KV (kvs.map fun kv=>if kv.1=k then(kv.1,y)else kv) (vs.map fun kv=>if kv.1=k then(kv.1,u)else kv):=by
 unfold KV at r ⊢;induction r with
 |nil=>exact .nil
 |@cons p q ps qs h t ih =>
  rw[Z0,Z0];refine .cons ?_ ih;obtain⟨h1,h2⟩:=h;by_cases e:p.1=k
  ·rw[Jv e,Jv (h1.symm.trans e)];exact⟨h1,ry⟩
  ·rw[Ju e,Ju (fun z=>e (h1.trans z))];exact⟨h1,h2⟩
theorem KV.put{kvs:List (κ×V)}{vs:List (κ×Value)}(r:KV kvs vs)(k:κ){y:V}{u:Value}(ry:RelV y u):KV (cU kvs k y) (stored vs k u):=by
 unfold cU stored;rw[r.any k];by_cases e:(vs.any fun kv=>decide (kv.1=k))=true
 ·rw[Jv e,Jv e];exact r.repl k ry
 ·rw[Ju e,Ju e];exact Paired.snoc r ⟨rfl,ry⟩
theorem KV.length{kvs:List (κ×V)}{vs:List (κ×Value)}(r:KV kvs vs):kvs.length=vs.length:=YL r
end
theorem mJ{P:Program}{w:World}{k:Key}{u:Value}(r:RelV (kV k) u):(bO P w).is k u=true:=by
 cases k with
 |inl i=>obtain⟨t,e⟩:=(show∃t,u=Value.int i t from r);subst e;exact ux P w i t
 |inr x=>obtain⟨t,e⟩:=(show∃t,u=Value.str x t from r);subst e;exact uy P w x t
theorem qu{P:Program}{w:World}:∀{ks:List Key} {us:List Value},Vals (ks.map kV) us->ItemsAre (bO P w) ks us
 | [],_,r=>by rw[List.map_nil]at r;cases r;exact .nil
 |k::ks,_,r=>by
  rw[Z0]at r;cases r with
  |cons h t=>exact .cons (mJ h) (qu t)
abbrev KT(H:Hp):List (List Key×V)->List (List Key×Addr×Value)->Prop:=Paired fun p q=>p.1=q.1/\H q.2.1=some (.tup (p.1.map kV))/\RelV p.2 q.2.2
theorem KT.val{H:Hp}{kvs:List (List Key×V)}{xs:List (List Key×Addr×Value)}(r:KT H kvs xs)(k:List Key):RelO (bo kvs k) ((atKey xs k).map (·.2)):=by
 induction r with
 |nil=>exact True.intro
 |@cons p q ps qs h t ih =>
  obtain⟨h1,_,h2⟩:=h;by_cases e:p.1=k
  ·have e':q.1=k:=h1.symm.trans e;have b:atKey (q::qs) k=some q.2:=by simp[atKey,Y6,e']
   rw[jj e,b];exact h2
  ·have e':¬q.1=k:=fun z=>e (h1.trans z);have b:atKey (q::qs) k=atKey qs k:=by simp[atKey,Y6,e']
   rw[ji e,b];exact ih
theorem KT.repl{H:Hp}{kvs:List (List Key×V)}{xs:List (List Key×Addr×Value)}(r:KT H kvs xs)(k:List Key){y:V}{u:Value}(ry:RelV y u) :
  KT H (kvs.map fun kv=>if kv.1=k then(kv.1,y)else kv) (xs.map (putAt k u)):=by
 induction r with
 |nil=>exact .nil
 |@cons p q ps qs h t ih =>
  rw[Z0,Z0];refine .cons ?_ ih;obtain⟨h1,h2,h3⟩:=h;unfold putAt;by_cases e:p.1=k
  ·rw[Jv e,Jv (h1.symm.trans e)];exact⟨h1,h2,ry⟩
  ·rw[Ju e,Ju (fun z=>e (h1.trans z))];exact⟨h1,h2,h3⟩
theorem KT.put{H:Hp}{kvs:List (List Key×V)}{xs:List (List Key×Addr×Value)}(r:KT H kvs xs)(k:List Key){b:Addr}{y:V}{u:Value}(hb:H b=some (.tup (k.map kV)))(ry:RelV y u) :
  KT H (cU kvs k y) (storedH xs k b u):=by
 have e:(kvs.any fun kv=>decide (kv.1=k))=(atKey xs k).isSome:=by rw[ml,(r.val k).isSome_eq,Option.isSome_map]
 unfold cU storedH;rw[e];by_cases q:(atKey xs k).isSome=true
 ·rw[Jv q,Jv q];exact r.repl k ry
 ·rw[Ju q,Ju q];exact Paired.snoc r ⟨rfl,hb,ry⟩
theorem KT.keeps{H H':Hp}{kvs:List (List Key×V)}{xs:List (List Key×Addr×Value)}(r:KT H kvs xs)(ht:∀b ys,H b=some (.tup ys)->H' b=some (.tup ys)):KT H' kvs xs :=
 Paired.mapP r fun _ _ z=>⟨z.1,ht _ _ z.2.1,z.2.2⟩
section
variable{P:Program}{w:World}{H:Hp}{h:Heap}{a:Addr}
theorem CA{u:HO}(ok:HOk P w H h)(e:Rd H a u):ObjOk P w H h a u:=e.ok ok
theorem kg{kvs:List (Key×V)}(ok:HOk P w H h)(e:Rd H a (.dK kvs)):kvs.length<=sizeLine/\(a==sysModules)=false/\∃vs,KV kvs vs/\h.DictOf (bO P w) a vs :=
 show ObjOk P w H h a (.dK kvs)from CA ok e
theorem GP{kvs:List (Key×V)}(ok:HOk P w H h)(e:H a=some (.dK kvs)):kvs.length<=sizeLine/\(a==sysModules)=false/\∃vs,KV kvs vs/\h.DictOf (bO P w) a vs:=kg ok (.inl e)
theorem iu{ks:List Key}(ok:HOk P w H h)(e:H a=some (.tup (ks.map kV))):(tupleKind (bO P w)).is h ks a:=by
 obtain⟨_,its,r,o,h1,h2,n,h3⟩:=(show ObjOk P w H h a (.tup (ks.map kV))from ok a _ e)
 exact⟨o,its.toArray,n,h1,h2,h3,by simpa using qu r⟩
theorem fS{kvs:List (List Key×V)}(ok:HOk P w H h)(e:Rd H a (.dT kvs)):kvs.length<=sizeLine/\(a==sysModules)=false /\
  ∃xs,KT H kvs xs/\h.DictOfH (tupleKind (bO P w)) a xs:=by
 obtain⟨z,y,xs,r,o,es,ep,h1,h2,h3,h4,h5⟩:=(show ObjOk P w H h a (.dT kvs)from CA ok e)
 refine⟨z,y,xs,r,o,es,ep,h1,h2,h3,h4,fun x hx=>?_,h5⟩;have all:∀{l:List (List Key×V)} {m:List (List Key×Addr×Value)},KT H l m->∀x∈m,(tupleKind (bO P w)).is h x.1 x.2.1:=by
  intro l m q;induction q with
  |nil=>intro x hx;exact nomatch hx
  |@cons p q ps qs hq t ih =>
   intro x hx;rcases Zs.mp hx with e|hx
   ·subst e;exact iu ok (by rw[<-hq.1];exact hq.2.1)
   ·exact ih x hx
 exact all r x hx
theorem Ce{kvs:List (List Key×V)}(ok:HOk P w H h)(e:H a=some (.dT kvs)):kvs.length<=sizeLine/\(a==sysModules)=false /\
  ∃xs,KT H kvs xs/\h.DictOfH (tupleKind (bO P w)) a xs:=fS ok (.inl e)
end
def dN(H:Hp)(a:Addr)(y:V)(r:Option V):Prop :=
 (∃kvs k,Rd H a (.dK kvs)/\y=kV k/\r=bo kvs k)\/∃kvs k b,Rd H a (.dT kvs)/\y=.ref b/\H b=some (.tup (k.map kV))/\r=bo kvs k
def Es(H:Hp)(a:Addr)(y v:V)(H':Hp):Prop :=
 (∃kvs k,H a=some (.dK kvs)/\y=kV k/\kvs.length<sizeLine/\H'=upd H a (.dK (cU kvs k v))) \/
 ∃kvs k b,H a=some (.dT kvs)/\y=.ref b/\H b=some (.tup (k.map kV))/\kvs.length<sizeLine/\H'=upd H a (.dT (cU kvs k v))
section
variable{X:Cx}{pins:List (Addr×Obj)}{σ:St}{H:Hp}{s:Shared}{a:Addr}{y v:V}{u r:Value}{o:Option V}{A:Around}{E:Value->Shared->Prop}
theorem Inv.big(I:Inv X pins σ H s):sysModules<s.heap.objs.size:=by have h:mainGlobals<s.heap.objs.size:=(I.mod.glob.keeps I.bk).lt;exact Nat.lt_trans (by decide) h
theorem yo{Q:Value->Shared->Prop}(hu:A.units+1<cLine)(I:Inv X pins σ H s)(g:dN H a y (some v))(ry:RelV y u)(h:∀w' s',Inv X pins σ H s'->RelV v w'->Q w' s') :
  wpAny (model X.prog X.w) A (getItem (.ref a) u) Q E s:=by
 rcases g with⟨kvs,k,e,ey,l⟩|⟨kvs,k,b,e,ey,eb,l⟩
 ·subst ey;obtain⟨z,hd,vs,rel,dd⟩:=kg I.hok e;obtain⟨w',hw,rw'⟩:=RelO.some_of (v:=v) (o:=valueAt vs k) (by rw[l];exact rel.val k);exact wpAny_getItem_of (mJ ry) dd.mapOf hw (h w' _ (I.tok _) rw')
 ·subst ey;cases(show u=Value.ref b from ry);obtain⟨z,hd,xs,rel,dd⟩:=fS I.hok e;obtain⟨w',hw,rw'⟩:=RelO.some_of (v:=v) (o:=(atKey xs k).map (·.2)) (by rw[l];exact rel.val k);obtain⟨p,hp,hp2⟩:=Ys.mp hw;refine wpAny_getItem_heap (tupleKind_room_in1 hu) (iu I.hok eb) dd hp ?_;rw[hp2];exact h w' _ (I.tok _) rw'
theorem HU{Q:Value->Shared->Prop}(hu:A.units+1<cLine)(I:Inv X pins σ H s)(g:dN H a y o)(ry:RelV y u)(h:∀s',Inv X pins σ H s'->Q (.bool o.isSome) s') :
  wpAny (model X.prog X.w) A (compareOp .In u (.ref a)) Q E s:=by
 rcases g with⟨kvs,k,e,ey,l⟩|⟨kvs,k,b,e,ey,eb,l⟩
 ·subst ey;obtain⟨z,hd,vs,rel,dd⟩:=kg I.hok e;refine wpAny_in_of (mJ ry) hd dd.mapOf ?_;rw[<-(rel.val k).isSome_eq,<-l];exact h _ (I.tok _)
 ·subst ey;cases(show u=Value.ref b from ry);obtain⟨z,hd,xs,rel,dd⟩:=fS I.hok e;refine wpAny_in_heap (tupleKind_room_in1 hu) (iu I.hok eb) hd dd ?_;have q:=(rel.val k).isSome_eq;rw[Option.isSome_map]at q;rw[<-q,<-l];exact h _ (I.tok _)
theorem C1{Q:Value->Shared->Prop}(hu:A.units+1<cLine)(I:Inv X pins σ H s)(g:dN H a y o)(ry:RelV y u)(h:∀s',Inv X pins σ H s'->Q (.bool (!o.isSome)) s') :
  wpAny (model X.prog X.w) A (compareOp .NotIn u (.ref a)) Q E s:=by
 rcases g with⟨kvs,k,e,ey,l⟩|⟨kvs,k,b,e,ey,eb,l⟩
 ·subst ey;obtain⟨z,hd,vs,rel,dd⟩:=kg I.hok e;refine wpAny_notIn_of (mJ ry) hd dd.mapOf ?_;rw[<-(rel.val k).isSome_eq,<-l];exact h _ (I.tok _)
 ·subst ey;cases(show u=Value.ref b from ry);obtain⟨z,hd,xs,rel,dd⟩:=fS I.hok e;refine wpAny_notIn_heap (tupleKind_room_in1 hu) (iu I.hok eb) hd dd ?_;have q:=(rel.val k).isSome_eq;rw[Option.isSome_map]at q;rw[<-q,<-l];exact h _ (I.tok _)
theorem oE{h':Heap}{t':Nat}{ob:HO}(I:Inv X pins σ H s)(mu:Mut (H a))(hs:Heap.SameBut a s.heap h')(he:∃q,h'.get? a=some q)(new:ObjOk X.prog X.w (upd H a ob) h' a ob) :
  Inv X pins σ (upd H a ob) { s with heap:=h',toks:=t' } :=
 I.write (x:=a) (e:=a) mu (.inl rfl) (fun b q hb z=>(hs.2 b hb).trans z) he new
theorem EF{P:Program}{w:World}{H':Hp}{h':Heap}{kvs:List (Key×V)}{vs:List (Key×Value)}(z:kvs.length<=sizeLine)(hd:(a==sysModules)=false)(rel:KV kvs vs)(dd:h'.DictOf (bO P w) a vs) :
  ObjOk P w H' h' a (.dK kvs):=⟨z,hd,vs,rel,dd⟩
theorem yp{H':Hp}{Q:Unit->Shared->Prop}(hu:A.units+1<cLine)(I:Inv X pins σ H s)(g:Es H a y v H')(ry:RelV y u)(rv:RelV v r)(h:∀s',Inv X pins σ H' s'->Q () s') :
  wpAny (model X.prog X.w) A (setItem (.ref a) u r) Q E s:=by
 rcases g with⟨kvs,k,e,ey,l,eH⟩|⟨kvs,k,b,e,ey,eb,l,eH⟩
 ·subst ey eH;obtain⟨z,hd,vs,rel,dd⟩:=GP I.hok e;have hz:vs.length<=sizeLine:=by rw[<-rel.length];exact z
  have hl:(cU kvs k v).length<=sizeLine:=by have:=hU kvs k v;omega
  refine wpAny_setItem_pairs (hsz:=hz) (mJ ry) dd fun h' dd' hs=>h _ ?_;have he:∃q,h'.get? a=some q:=let⟨q,_,_,hq,_⟩:=dd';⟨q,hq⟩
  exact oE I (by rw[e];exact True.intro) hs he (EF hl hd (rel.put k rv) dd')
 ·subst ey eH;cases(show u=Value.ref b from ry);obtain⟨z,hd,xs,rel,dd⟩:=Ce I.hok e;have hz:xs.length<=sizeLine:=by rw[<-YL rel];exact z
  have hl:(cU kvs k v).length<=sizeLine:=by have:=hU kvs k v;omega
  refine wpAny_setItem_heap (hsz:=hz) (tupleKind_room_in1 hu) (iu I.hok eb) dd fun h' dd' hs=>h _ ?_;obtain⟨q,es,ep,hq,h2,h3,h4,_,h5⟩:=dd';refine oE I (by rw[e];exact True.intro) hs ⟨q,hq⟩ ⟨hl,hd,_,(rel.put k eb rv).keeps fun c ys ec=>?_,q,es,ep,hq,h2,h3,h4,h5⟩;rw[ad (Cp ec e (fun z=>nomatch z))];exact ec
end
def AJ(i:Expr):Prop:=∀ov iv,subscripted i false ov iv=operate [ov,iv] (getItem ov iv)
theorem Ec{prog:Program}{w:World}{A:Around}{E:Value->Shared->Prop}{s:Shared}{env:Env}{value slice:Expr}{pos:Pos}{T id:String}{Q:Value->Shared->Prop}(hl:typeLookup (.type T) "__getitem__" = pure (some (.builtin id)))(hs:AJ slice)(h:wpAny (model prog w) A (eval value env) (fun o s₁=>wpAny (model prog w) A (eval slice env) (fun i s₂=>s₂.TypeIs o T/\wpAny (model prog w) A (getItem o i) Q E s₂) E s₁) E s) :
  wpAny (model prog w) A (eval (.Subscript value slice pos) env) Q E s:=by
 refine Subscript_ (ZX h (fun o s₁ h₁=>ZX h₁ (fun i s₂ h₂=>?_) fun _ _ x=>x) fun _ _ x=>x);obtain⟨hT,h₂⟩:=h₂;unfold subscriptTail;refine z6 ?_;rw[getitemInPython_of_ne hT.not_modules];refine z6 (wpAny_specialOf hT hl ?_);have fin:wpAny (model prog w) A (subscripted slice false o i) (fun r s₃=>wpAny (model prog w) A (letTemporaryGo value o r >>= fun _=>pure r) Q E s₃) E s₂:=by rw[hs o i];exact wpAny_operating (ZX h₂ (fun r s₃ h₃=>z6 (wpAny_letTemporaryGo (Za h₃))) fun _ _ x=>x)
 first
  |exact Za (z6 fin)
  |exact z6 (Za (z6 fin))
  |exact z6 fin
theorem ur{X:Cx}{pins:List (Addr×Obj)}{σ:St}{H:Hp}{s:Shared}{a:Addr}{y:V}{o:Option V}(I:Inv X pins σ H s)(g:dN H a y o):s.TypeIs (.ref a) "dict":=by
 rcases g with⟨kvs,k,e,_,_⟩|⟨kvs,k,b,e,_,_,_⟩
 ·obtain⟨_,_,vs,_,dd⟩:=kg I.hok e;exact dd.typeIs
 ·obtain⟨_,_,xs,_,dd⟩:=fS I.hok e;exact dd.typeIs
def CG(td ty:TE):TE:=fun σ H Q=>td σ H fun x H1=>ty σ H1 fun y H2=>∃a v,x=.ref a/\dN H2 a y (some v)/\Q v H2
def Gn(ty td:TE):TE:=fun σ H Q=>ty σ H fun y H1=>td σ H1 fun x H2=>∃a o,x=.ref a/\dN H2 a y o/\Q (.bl o.isSome) H2
def vV(ty td:TE):TE:=fun σ H Q=>ty σ H fun y H1=>td σ H1 fun x H2=>∃a o,x=.ref a/\dN H2 a y o/\Q (.bl (!o.isSome)) H2
def CB(td ty tv:TE):TS:=fun D σ H=>tv σ H fun v H1=>td σ H1 fun x H2=>ty σ H2 fun y H3=>∃a H4,x=.ref a/\Es H3 a y v H4/\D.nx σ H4
section
variable{X:Cx}{o i e value:Expr}{pos pos' tpos:Pos}{td ty tv:TE}
theorem DA(hu:X.A.units+1<cLine)(ho:PE X o td)(hi:PE X i ty)(hs:AJ i):PE X (.Subscript o i pos) (CG td ty):=by intro pins s σ H Q I h;refine Ec PySem.F.slot_dict_getitem.lookup hs (thn (ho pins s σ H _ I h) fun u s1 ⟨x,H1,I1,rx,q1⟩=>thn (hi pins s1 σ H1 _ I1 q1) fun iv s2 hz9=>?_);obtain⟨y,H2,I2,ry,a,v,ex,g,q2⟩:=hz9;subst ex;obtain rfl:u=Value.ref a:=rx;exact⟨ur I2 g,yo hu I2 g ry fun w' s3 I3 rw'=>⟨v,H2,I3,rw',q2⟩⟩
theorem Fi(hu:X.A.units+1<cLine)(hi:PE X i ty)(ho:PE X o td):PC X .In i o (Gn ty td):=by intro pins s σ H Q I h;refine thn (hi pins s σ H _ I h) fun iv s1 ⟨y,H1,I1,ry,q1⟩=>thn (ho pins s1 σ H1 _ I1 q1) fun u s2 hz9=>?_;obtain⟨x,H2,I2,rx,a,ov,ex,g,q2⟩:=hz9;subst ex;obtain rfl:u=Value.ref a:=rx;exact HU hu I2 g ry fun s3 I3=>⟨.bl ov.isSome,H2,I3,rfl,q2⟩
theorem zt(hu:X.A.units+1<cLine)(hi:PE X i ty)(ho:PE X o td):PC X .NotIn i o (vV ty td):=by intro pins s σ H Q I h;refine thn (hi pins s σ H _ I h) fun iv s1 ⟨y,H1,I1,ry,q1⟩=>thn (ho pins s1 σ H1 _ I1 q1) fun u s2 hz9=>?_;obtain⟨x,H2,I2,rx,a,ov,ex,g,q2⟩:=hz9;subst ex;obtain rfl:u=Value.ref a:=rx;exact C1 hu I2 g ry fun s3 I3=>⟨.bl (!ov.isSome),H2,I3,rfl,q2⟩
theorem DK(hu:X.A.units+1<cLine)(ho:PE X o td)(hi:PE X i ty)(hv:PE X value tv)(hs:swapsWith value (some (.Subscript o i pos')) pos.line X.env=pure false) :
  PS X (.Assign [.Subscript o i pos'] value pos) (CB td ty tv):=by
 intro pins s σ H D I h;refine wpAny_Assign_Subscript (thn (hv pins s σ H _ I h) fun r s1 ⟨v,H1,I1,rv,q1⟩=>thn (ho pins s1 σ H1 _ I1 q1) fun u s2 ⟨x,H2,I2,rx,q2⟩=>thn (hi pins s2 σ H2 _ I2 q2) fun iv s3 hz9=>?_) hs;obtain⟨y,H3,I3,ry,a,H4,ex,g,q3⟩:=hz9;subst ex;obtain rfl:u=Value.ref a:=rx;exact yp hu I3 g ry rv fun s4 I4=>⟨σ,H4,I4,q3⟩
end
theorem A3{P:Program}{w:World}{H:Hp}(h:Heap)(hb:sysModules<h.objs.size):ObjOk P w H (h.push { cls:=.type "dict",data:=.dict #[] }) h.objs.size (.dT []) :=
 ⟨ZT _,beq_eq_false_iff_ne.mpr (Yx (Zv hb)),[],.nil,_,#[],0,Zk _ rfl,⟨rfl,rfl,rfl⟩,rfl,rfl,List.nodup_nil⟩
def Al:TE:=fun _ H Q=>∀p,H p=none->Q (.ref p) (upd H p (.dT []))
section
variable{X:Cx}{pos:Pos}
theorem By:PE X (.Dict [] [] pos) Al:=fun pins s σ H Q I h =>
 wpAny_Dict_empty ⟨.ref s.heap.objs.size,_,I.laid (a:=s.heap.objs.size) (o:=.dT []) (t':=s.toks) (fun _ _ q=>z9 _ q) (Ze _) (A3 s.heap I.big),rfl,h _ (I.hok.fresh (Ze _))⟩
end
def Am:List (TE×TE)->St->Hp->(List (V×V)->Hp->Prop)->Prop
 | [],_,H,Q=>Q [] H
 |(tk,tv)::r,σ,H,Q=>tk σ H fun x H1=>tv σ H1 fun y H2=>Am r σ H2 fun ps H3=>Q ((x,y)::ps) H3
abbrev VV:List (V×V)->List (Value×Value)->Prop:=Paired fun p q=>RelV p.1 q.1/\RelV p.2 q.2
def PPs(X:Cx)(pos:Pos)(keys:List (Option Expr))(values:List Expr)(trs:List (TE×TE)):Prop :=
 ∀(pins:List (Addr×Obj)) (s:Shared) (σ:St) (H:Hp) (Q:List (V×V)->Hp->Prop),Inv X pins σ H s->Am trs σ H Q ->
  wpAny (model X.prog X.w) X.A (evalPairs (pairTrees keys values X.env pos)) (fun vs s'=>∃ps H',Inv X pins σ H' s'/\VV ps vs/\Q ps H') X.xe s
structure M1(X:Cx)(o:Expr)(m:Str)(apos:Pos)(e:Expr)(cpos:Pos):Prop where
 base:attributeBase o m X.env (eval o X.env)=eval o X.env
 few:((backTo cpos (starEach [e] X.env)).all (fun x=>!x.1)&&(backToKw cpos (keywordEach [] X.env)).all (fun x=>x.1.isSome)
 &&decide (([e]:List Expr).length+([]:List Keyword).length+(if ([]:List Keyword).isEmpty then 0 else 1)<30))=true
 line:(apos.endLine==cpos.line)=true
 trees:backTo cpos (starEach [e] X.env)=[(false,eval e X.env)]
structure M2(X:Cx)(o:Expr)(m:Str)(apos:Pos)(e f:Expr)(cpos:Pos):Prop where
 base:attributeBase o m X.env (eval o X.env)=eval o X.env
 few:((backTo cpos (starEach [e,f] X.env)).all (fun x=>!x.1)&&(backToKw cpos (keywordEach [] X.env)).all (fun x=>x.1.isSome)
 &&decide (([e,f]:List Expr).length+([]:List Keyword).length+(if ([]:List Keyword).isEmpty then 0 else 1)<30))=true
 line:(apos.endLine==cpos.line)=true
 trees:backTo cpos (starEach [e,f] X.env)=[(false,eval e X.env),(false,eval f X.env)]
def IsD(H:Hp)(a:Addr):Prop:=(∃kvs,Rd H a (.dK kvs))\/∃kvs,Rd H a (.dT kvs)
theorem yL{X:Cx}{pins:List (Addr×Obj)}{σ:St}{H:Hp}{s:Shared}{a:Addr}(I:Inv X pins σ H s)(d:IsD H a) :
  s.TypeIs (.ref a) "dict"/\(∀b,Value.ref a=.ref b->∃ob,s.heap.get? b=some ob/\ob.dict=none)/\(a==sysModules)=false:=by
 rcases d with⟨kvs,e⟩|⟨kvs,e⟩
 ·obtain⟨_,hd,vs,_,dd⟩:=kg I.hok e;refine⟨dd.typeIs,fun b q=>?_,hd⟩;cases q;obtain⟨ob,_,_,h1,h2,_⟩:=dd;exact⟨ob,h1,h2.2.1⟩
 ·obtain⟨_,hd,xs,_,dd⟩:=fS I.hok e;refine⟨dd.typeIs,fun b q=>?_,hd⟩;cases q;obtain⟨ob,_,_,h1,h2,_⟩:=dd;exact⟨ob,h1,h2.2.1⟩
end L2
namespace Att
open PySem PySem.W PySem.Calls PyProof.Rows
theorem mI{P:Params}{h:Heap}:∀(ns:List Int) (vs:List Value),WellAll P h vs (ns.map WData.int)->IntsAre vs ns:=by
 intro ns;induction ns with
 |nil =>intro vs w;rw[List.map_nil]at w;cases w;exact .nil
 |cons n ns ih =>
  intro vs w;rw[Z0]at w;cases w with
  |cons a b =>cases a;exact .cons _ _ (ih _ b)
theorem zV{l:OpenLaw}{n:Nat}(hn:l.most=some n){P:Params}{h:Heap}{args:List WData}{vals:List Value}(hpre:l.row.toRowW.claim.pre args=true)(hwl:WellAll P h vals args) :
  ∃a vs ns,vals=[Value.ref a]/\args=[WData.list (ns.map WData.int)]/\h.get? a=some { cls:=.type "list",data:=.seq vs.toArray }/\IntsAre vs ns/\ns.length<=n:=by
 have hsh:WShape.hasAll [] args [.list .int]=true:=(pre_splitW hpre).1;have hc:l.pre.holds [] { args:=args }=true:=(pre_splitW hpre).2;obtain⟨d,r,rfl,h1,h2⟩:=hasAllW_cons hsh;obtain rfl:=hasAllW_nil h2;obtain⟨xs,rfl,h3⟩:=hasW_list h1;obtain⟨ns,rfl⟩:=items_int h3;have hlen:ns.length<=n:=by
  unfold OpenLaw.pre at hc;have h4:(WTm.not (.lt (.lit (.int (n:Int))) (.len (.arg 0)))).holds [] { args:=[.list (ns.map .int)] }=true:=by have h4:=(holds_andW hc).1;rw[hn]at h4;exact h4
  have h5:=condW_of h4 (w_not (w_lt w_lit (w_len_list (w_arg rfl))));rw[Zb]at h5;refine Nat.le_of_not_lt fun q=>?_;have q':(n:Int)<((ns.length:Nat):Int):=by omega
  first
   |(rw[decide_eq_true q']at h5;exact absurd h5 (by decide))
   |(simp at h5;omega)
 cases hwl with
 |cons w1 w2 =>
  cases w2;cases w1 with
  |list ho hall=>exact⟨_,_,ns,rfl,rfl,ho,mI ns _ hall,hlen⟩
theorem zD(l:OpenLaw)(args:List WData):l.row.toRowW.claim.post args (.bool true) args=true :=
 postW_of (r:=l.row.toRowW) (X:=(true==true))
  (show WShape.has [] (.bool true) .bool=true by first|rfl|decide|simp[WShape.has,WShape.arms,WShape.armsAll])
  (show(WTm.eq .res (.lit (.bool true))).value [] { args:=args,res:=some (.bool true),after:=args }=some (.bool (true==true))from w_eq_bool (w_res rfl) w_lit) rfl
theorem attach_call{l:OpenLaw}{n:Nat}{q:Program}{loose:List Str}{XP:(Str->Option Value)->Heap->Prop}{YP:World->Heap->Prop}{d:DefRec}(hn:l.most=some n)(hdf:d.params.defaults=[])(call:∀ (w:World) (s₀ s₁:Shared) (mg mb:Str->Option Value) (fa:Addr) (o:Obj) (pm cd doc:Value) (a:Addr) (vs:List Value) (ns:List Int),
   Ground q loose [] XP w s₀ mg mb s₁.heap->YP w s₁.heap ->
   s₁.heap.get? fa=some o->o.data=.func (docDef d.name d.params d.body d.scope pm cd doc)->s₁.heap.CodeRec cd d.name->mg d.name=some (.ref fa) ->
   s₁.heap.get? a=some { cls:=.type "list",data:=.seq vs.toArray }->IntsAre vs ns->ns.length<=n->s₁.gens=#[] ->
   codeAny (model l.prog w) callerA (.call (.ref fa) ⟨[.ref a],[]⟩) (fun r s'=>r=.ok (.ret (.bool true))/\OldK s₁.heap s'.heap/\s'.os=s₁.os/\AllBare s'.gens) s₁) :
  WalkO q loose XP YP l.row.toRowW d [] (fun f vs=>PySem.call f vs):=by
 intro w s₀ s₁ mg mb G Y fa o pm cd doc dV kV ho hd hcd hD hmg hg args vals as hpre hlay hrd hwl hlo;obtain rfl:dV=.none:=Dflts.none hD hdf;obtain rfl:kV=.none:=Dflts.noKw hD;obtain⟨a,vs,ns,rfl,rfl,hobj,hints,hlen⟩:=zV hn hpre hwl;refine enter_call (codeAny_mono (call w s₀ s₁ mg mb fa o pm cd doc a vs ns G Y ho (fd_plain hd) hcd hmg hobj hints hlen hg) fun r s' hq=>?_);obtain⟨rfl,h2,h3,h4⟩:=hq;exact⟨.inl ⟨.bool true,.bool true,[],rfl,fun _=>rfl,.bool true,zD l _,fun _=>⟨List.Pairwise.nil,fun _ hm=>(nomatch hm)⟩⟩,h2,h3,h4⟩
end Att
namespace L2
open PySem PySem.Spec PyProof.Rows
theorem qI:∀{vs:List Value} {ns:List Int},IntsAre vs ns->Vals (ns.map V.int) vs
 |_,_,.nil=>.nil
 |_,_,.cons n t h=>.cons ⟨t,rfl⟩ (qI h)
open PySem PySem.Spec PyProof.Rows
open PySem PySem.Spec PyProof.Rows
def fb(s:Stmt)(j:Nat):Stmt:=match s with
 |.ClassDef _ _ _ body _ _ _ _ _ _ _=>body.getD j (.Pass ⟨0,0,0,0⟩)
 |_=>.Pass ⟨0,0,0,0⟩
def bZ(s:Stmt):Arguments:=match s with
 |.FunctionDef _ a _ _ _ _ _ _ _ _=>a
 |_=>{ posonlyargs:=[],args:=[],vararg:=none,kwonlyargs:=[],kw_defaults:=[],kwarg:=none,defaults:=[] }
def bt(s:Stmt):List Stmt:=match s with
 |.FunctionDef _ _ b _ _ _ _ _ _ _=>b
 |_=>[]
def aq(s:Stmt):Scope:=match s with
 |.FunctionDef _ _ _ _ _ _ sc _ _ _=>sc
 |_=>{ kind:=.function,names:=[],isGenerator:=false,isCoroutine:=false }
abbrev CX0:CXT:=fun _ _ _ _ _ _=>False
abbrev E0:XK:=fun _ _ _=>False
theorem rh{X:Cx}:gh CX0 X E0:=fun _ _ _ _ _ _ _ h=>h.elim
structure Fun(K:PySem.W.Frag)(x qual:Str)(st:Stmt)(f:Addr)(fd:FuncData):Prop where
 ex:∃(oc:Value) (od:Option Addr) (kV doc pm:Value) (an:Option Addr) (cdv ct:Value) (osl:Array (Option Value)),
  fd=PySem.W.fnOf x qual (bZ st) (bt st) (aq st) .none kV doc pm an cdv ct/\K.lookup f=some ⟨oc,od,.func fd,osl⟩/\PySem.W.codeIn K cdv qual=true
 kp:PySem.W.keepIn K (.ref f)=true
section
variable{P:Program}{w:World}{K:PySem.W.Frag}{mg:Str->Option Value}{base:Heap}
theorem Fun.ok{x qual:Str}{st:Stmt}{f:Addr}{fd:FuncData}{N ps:List Str}{k:Nat}{sp:Sp}(F:Fun K x qual st f fd)(S:FnScope N ps (aq st))(len:∀ vs H Q E,sp vs H Q E->vs.length=ps.length)(hbody:∀ (cdv:Value) (A:Around) (outer:List Env) (s:Shared) (H:Hp) (vs:List V) (Q:VK) (E:XK),Room k (A.deeper (envOfC qual (aq st) s.heap.objs.size f cdv))->sp vs H Q E ->
   ∃ t,PSs (dO CX0 P w K mg base N qual (aq st) f cdv A outer s H E).nox (bt st) t/\t { nx:=fun _ H'=>Q .non H',rt:=Q } (start N vs) H):FnOk P w K mg base CX0 (k+1) f fd ps sp:=by
 obtain⟨oc,od,kV,doc,pm,an,cdv,ct,osl,rfl,lk,hcd⟩:=F.ex;refine wI lk hcd S len fun A outer s H vs Q E hr hsp=>?_;obtain⟨t,h,q⟩:=hbody cdv A outer s H vs Q E hr hsp;exact⟨t,h.nox,q⟩
theorem Fun.binds{x qual:Str}{st:Stmt}{f:Addr}{fd:FuncData}{ps:List Str}(F:Fun K x qual st f fd)(h:∀(kV doc pm:Value) (an:Option Addr) (cdv ct:Value) (us:List Value),us.length=ps.length->bindArgs (PySem.W.fnOf x qual (bZ st) (bt st) (aq st) .none kV doc pm an cdv ct) ⟨us,[]⟩=pure (ps.zip us)):Binds K fd ps []:=by obtain⟨oc,od,kV,doc,pm,an,cdv,ct,osl,rfl,lk,hcd⟩:=F.ex;exact .all (h kV doc pm an cdv ct)
theorem yF{x qual:Str}{st:Stmt}{f:Addr}{oc:Value}{od an:Option Addr}{osl:Array (Option Value)}{kV doc pm cdv ct:Value}(l:K.lookup f=some ⟨oc,od,.func (PySem.W.fnOf x qual (bZ st) (bt st) (aq st) .none kV doc pm an cdv ct),osl⟩)(c:PySem.W.codeIn K cdv qual=true)(k:PySem.W.keepIn K (.ref f)=true):Fun K x qual st f (PySem.W.fnOf x qual (bZ st) (bt st) (aq st) .none kV doc pm an cdv ct):=⟨⟨oc,od,kV,doc,pm,an,cdv,ct,osl,rfl,l,c⟩,k⟩
end
theorem fK{n:Nat}(h:n<=1000):n<sizeLine:=Yn h (by decide)
theorem aE{A B:Prop}(h:B):if false=true then A else B:=by rw[Ju Zr];exact h
theorem aK{A B:Prop}(h:A):if true=true then A else B:=by rw[Jv rfl];exact h
theorem iT{c A B:Prop}[Decidable c](h1:c->A)(h2:¬c->B):if c then A else B:=by
 by_cases h:c
 ·rw[Jv h];exact h1 h
 ·rw[Ju h];exact h2 h
theorem gU{c A B:Prop}[Decidable c](hc:c)(h:B):if(!decide c)=true then A else B:=by rw[decide_eq_true hc];exact aE h
def Same(H H':Hp):Prop:=∀b o,H b=some o->H' b=some o
theorem Same.refl(H:Hp):Same H H:=fun _ _ h=>h
theorem Same.trans{H H1 H2:Hp}(a:Same H H1)(b:Same H1 H2):Same H H2:=fun c o h=>b c o (a c o h)
theorem Same.free{H H':Hp}(e:Same H H'){l:Addr}(h:H' l=Option.none):H l=Option.none:=by
 cases q:H l with
 |none=>rfl
 |some o =>rw[e l o q]at h;cases h
theorem Same.seq{K:PySem.W.Frag}{H H':Hp}{a:Addr}{xs:List V}(e:Same H H')(h:SqL K H a xs):SqL K H' a xs:=by
 rcases h with(h|⟨o,h⟩)|h
 ·exact .inl (.inl (e _ _ h))
 ·exact .inl (.inr ⟨o,e _ _ h⟩)
 ·exact .inr h
open PySem PySem.Spec PyProof.Rows
open PySem PySem.Spec PyProof.Rows
theorem iC{env:Env}:∀{names:List (Str×NameKind)} {x:Str} {k:NameKind},
  (names.map fun(n,k)=>if(k==NameKind.free&&env.scope.kind == .function&&env.kindOf n==some .cell)then(n,NameKind.cell)else(n,k)).lookup x=some k ->
  ∃k',names.lookup x=some k'/\(k=k'\/(k'=.free/\k=.cell))
 | [],_,_,h=>by simp at h
 |(n,k0)::r,x,k,h=>by
  have ih:=@iC env r x k;rw[Z0]at h;by_cases hc:(k0==NameKind.free&&env.scope.kind == .function&&env.kindOf n==some .cell)=true
  ·have e:(if(k0==NameKind.free&&env.scope.kind == .function&&env.kindOf n==some .cell)=true then(n,NameKind.cell)else(n,k0))=(n,NameKind.cell):=Jv hc;simp only[e]at h;cases hx:x==n with
   |true =>
    simp only[Z1,hx]at h ⊢;have hf:k0=.free:=by have:=hc;simp only[Zz,y4]at this;exact this.1.1
    exact⟨k0,rfl,.inr ⟨hf,(ZE h).symm⟩⟩
   |false =>simp only[Z1,hx]at h ⊢;exact ih h
  ·have e:(if(k0==NameKind.free&&env.scope.kind == .function&&env.kindOf n==some .cell)=true then(n,NameKind.cell)else(n,k0))=(n,k0):=Ju hc;simp only[e]at h;cases hx:x==n with
   |true =>simp only[Z1,hx]at h ⊢;exact⟨k0,rfl,.inl (ZE h).symm⟩
   |false =>simp only[Z1,hx]at h ⊢;exact ih h
theorem jF{env:Env}:∀{names:List (Str×NameKind)} {x:Str},names.lookup x=some .free ->
  (names.map fun(n,k)=>if(k==NameKind.free&&env.scope.kind == .function&&env.kindOf n==some .cell)then(n,NameKind.cell)else(n,k)).lookup x=some .cell \/
  (names.map fun(n,k)=>if(k==NameKind.free&&env.scope.kind == .function&&env.kindOf n==some .cell)then(n,NameKind.cell)else(n,k)).lookup x=some .free
 | [],_,h=>by simp at h
 |(n,k0)::r,x,h=>by
  have ih:=@jF env r x;rw[Z0];by_cases hc:(k0==NameKind.free&&env.scope.kind == .function&&env.kindOf n==some .cell)=true
  ·have e:(if(k0==NameKind.free&&env.scope.kind == .function&&env.kindOf n==some .cell)=true then(n,NameKind.cell)else(n,k0))=(n,NameKind.cell):=Jv hc;simp only[e];cases hx:x==n with
   |true =>
    simp only[Z1,hx]at h ⊢
    first|exact .inl rfl|exact .inl trivial
   |false =>simp only[Z1,hx]at h ⊢;exact ih h
  ·have e:(if(k0==NameKind.free&&env.scope.kind == .function&&env.kindOf n==some .cell)=true then(n,NameKind.cell)else(n,k0))=(n,k0):=Ju hc;simp only[e];cases hx:x==n with
   |true =>simp only[Z1,hx]at h ⊢;exact .inr h
   |false =>simp only[Z1,hx]at h ⊢;exact ih h
def bM(env:Env):List (Str×NameKind)->List (Str×Addr)->List (Str×Addr)
 | [],acc=>acc
 |y::r,acc=>if(y.2==NameKind.free)=true then bM env r ((y.1,(env.cells.lookup y.1).getD 0)::acc)else bM env r acc
theorem oq{env:Env}:∀{names:List (Str×NameKind)} {acc:List (Str×Addr)},(∀y∈names,y.2=.free->∃c,env.cells.lookup y.1=some c) ->
  (forIn names acc fun(x:Str×NameKind) (cs:List (Str×Addr))=>if(x.2==NameKind.free)=true then do let c ←cellOf env x.1;pure (ForInStep.yield ((x.1,c)::cs))else pure (ForInStep.yield cs):Sem (List (Str×Addr)))=pure (bM env names acc)
 | [],_,_=>rfl
 |y::r,acc,h=>by
  rw[List.forIn_cons];by_cases hy:(y.2==NameKind.free)=true
  ·obtain⟨c,hc⟩:=h y Z9 (by simpa using hy);have e:cellOf env y.1=pure c:=by unfold cellOf;rw[hc]
   rw[Jv hy,e,pure_bind,pure_bind];show(forIn r ((y.1,c)::acc) _:Sem (List (Str×Addr)))=_;rw[oq fun z hz=>h z (ZC _ hz)];show _=pure (if(y.2==NameKind.free)=true then bM env r ((y.1,(env.cells.lookup y.1).getD 0)::acc)else bM env r acc);rw[Jv hy,hc];rfl
  ·rw[Ju hy,pure_bind];show(forIn r acc _:Sem (List (Str×Addr)))=_;rw[oq fun z hz=>h z (ZC _ hz)];show _=pure (if(y.2==NameKind.free)=true then bM env r ((y.1,(env.cells.lookup y.1).getD 0)::acc)else bM env r acc);rw[Ju hy]
theorem CZ{scope:Scope}{env:Env}(h:∀y∈scope.names,y.2=.free->∃c,env.cells.lookup y.1=some c):closureFor scope env=pure (bM env scope.names []):=by have q:=oq (env:=env) (names:=scope.names) (acc:=[]) h;unfold closureFor;exact(by first|(simp only[bind_pure];exact q)|(rw[bind_pure];exact q)|exact q)
theorem ow{env:Env}:∀{names:List (Str×NameKind)} {acc:List (Str×Addr)},(∀y∈names,y.2=.free->∃c,env.cells.lookup y.1=some c)->(∀x c,acc.lookup x=some c->env.cells.lookup x=some c) ->
  ∀x c,(bM env names acc).lookup x=some c->env.cells.lookup x=some c
 | [],_,_,ha=>ha
 |y::r,acc,h,ha=>by
  have hr:∀z∈r,z.2=.free->∃c,env.cells.lookup z.1=some c:=fun z hz=>h z (ZC _ hz);intro x c e;unfold bM at e;by_cases hy:(y.2==NameKind.free)=true
  ·rw[Jv hy]at e;refine ow hr (fun x' c' e'=>?_) x c e;obtain⟨d,hd⟩:=h y Z9 (by simpa using hy);rw[hd,Option.getD_some]at e';cases hx:x'==y.1 with
   |true =>simp only[Z1,hx]at e';have e1:x'=y.1:=eq_of_beq hx;rw[e1,hd];exact e'
   |false =>simp only[Z1,hx]at e';exact ha x' c' e'
  ·rw[Ju hy]at e;exact ow hr ha x c e
theorem lD{env:Env}:∀{names:List (Str×NameKind)} {acc:List (Str×Addr)} {x:Str},(∃c,acc.lookup x=some c)->∃c,(bM env names acc).lookup x=some c
 | [],_,_,h=>h
 |y::r,acc,x,h=>by
  unfold bM;by_cases hy:(y.2==NameKind.free)=true
  ·rw[Jv hy];refine lD ?_;cases hx:x==y.1 with
   |true=>exact⟨(env.cells.lookup y.1).getD 0,by simp only[Z1,hx]⟩
   |false =>obtain⟨c,e⟩:=h;exact⟨c,by simp only[Z1,hx];exact e⟩
  ·rw[Ju hy];exact lD h
theorem on{env:Env}:∀{names:List (Str×NameKind)} {acc:List (Str×Addr)} {x:Str},names.lookup x=some .free->∃c,(bM env names acc).lookup x=some c
 | [],_,_,h=>by simp at h
 |(n,k)::r,acc,x,h=>by
  unfold bM;cases hx:x==n with
  |true =>
   simp only[Z1,hx]at h;have hy:(k==NameKind.free)=true:=by rw[ZE h];rfl
   rw[Jv hy];exact lD ⟨(env.cells.lookup n).getD 0,by simp only[Z1,hx]⟩
  |false =>
   simp only[Z1,hx]at h;by_cases hy:(k==NameKind.free)=true
   ·rw[Jv hy];exact on h
   ·rw[Ju hy];exact on h
abbrev aQ(X:Cx)(scope:Scope)(N':List Str)(C:Addr)(s0:Shared)(H0:Hp)(ex:List Addr):Cx where
 prog:=X.prog
 w:=X.w
 K:=X.K
 mg:=X.mg
 base:=X.base
 A:=X.A
 N:=N'
 s₀:=s0
 H₀:=H0
 env:=compEnvC scope (bM X.env scope.names []) C X.env
 outer:=X.stack
 stack:=X.stack
 ex:=ex
 fn:=fun _=>false
 calm:=X.calm
 pn:=[]
 xe:=fun _ _=>False
def CapOk(X:Cx)(sc:Scope):List Nat->List Str->Prop
 | [],[]=>True
 |j::js,x::xs=>X.N[j]?=some x/\sc.names.lookup x=some .free/\CapOk X sc js xs
 |_,_=>False
theorem CapOk.get{X:Cx}{sc:Scope}:∀{js:List Nat} {xs:List Str} {i:Nat} {x:Str},CapOk X sc js xs->xs[i]?=some x ->
  ∃j,js[i]?=some j/\X.N[j]?=some x/\sc.names.lookup x=some .free
 | [],[],_,_,_,e=>by simp at e
 |j::js,y::xs,0,x,h,e=>by
  obtain⟨h1,h2,_⟩:=h;have e':y=x:=by simpa using e
  subst e';exact⟨j,rfl,h1,h2⟩
 |j::js,y::xs,i+1,x,h,e=>by obtain⟨_,_,h6⟩:=h;obtain⟨j',q⟩:=CapOk.get (i:=i) (x:=x) h6 (by simpa using e);exact⟨j',by simpa using q.1,q.2⟩
 | [],_::_,_,_,h,_=>h.elim
 |_::_,[],_,_,h,_=>h.elim
theorem CapOk.len{X:Cx}{sc:Scope}:∀{js:List Nat} {xs:List Str},CapOk X sc js xs->js.length=xs.length
 | [],[],_=>rfl
 |j::js,y::xs,h=>by obtain⟨_,_,h6⟩:=h;simp[CapOk.len h6]
 | [],_::_,h=>h.elim
 |_::_,[],h=>h.elim
structure CompOk(X:Cx)(scope:Scope)(cap:List Nat)(capN:List Str):Prop where
 kind:scope.kind=.function
 names:∀x∈scope.names,x.2=.local->scope.names.lookup x.1=some .local
 nocell:∀y∈scope.names,y.2≠.cell
 frees:(scope.names.all fun y=>!(y.2==NameKind.free) ||(X.env.kindOf y.1==some .cell ||X.env.kindOf y.1==some .free))=true
 cap:CapOk X scope cap capN
section
variable{X:Cx}{scope:Scope}{cap:List Nat}{capN:List Str}
theorem CompOk.around(O:CompOk X scope cap capN){y:Str×NameKind}(hy:y∈scope.names)(hf:y.2=.free):X.env.kindOf y.1=some .cell\/X.env.kindOf y.1=some .free:=by have q:=y6.mp O.frees y hy;rw[hf]at q;simpa using q
theorem CompOk.cells(O:CompOk X scope cap capN)(ok:X.Ok):∀y∈scope.names,y.2=.free->∃c,X.env.cells.lookup y.1=some c:=fun y hy hf=>ok.has _ (O.around hy hf)
theorem CompOk.clos(O:CompOk X scope cap capN)(ok:X.Ok):closureFor scope X.env=pure (bM X.env scope.names []):=CZ (O.cells ok)
theorem CompOk.sub(O:CompOk X scope cap capN)(ok:X.Ok):∀x c,(bM X.env scope.names []).lookup x=some c->X.env.cells.lookup x=some c:=ow (O.cells ok) fun x c e=>by simp at e
theorem CompOk.has(_O:CompOk X scope cap capN){x:Str}(h:scope.names.lookup x=some .free):∃c,(bM X.env scope.names []).lookup x=some c:=on h
end
def be(n:Nat)(cap:List Nat)(σ:St):St:=List.replicate n none++cap.map (fun j=>(σ[j]?).join)
theorem wE{n:Nat}{cap:List Nat}{σ:St}:(be n cap σ).length=n+cap.length:=by unfold be;rw[Zg,Y1,Zb]
theorem mD{n:Nat}{cap:List Nat}{σ:St}{i:Nat}{v:V}(h:(be n cap σ)[i]?=some (some v)):n<=i/\∃j,cap[i-n]?=some j/\σ[j]?=some (some v):=by
 unfold be at h;by_cases hi:i<n
 ·rw[Yv (by simpa using hi),List.getElem?_replicate]at h;rw[Jv hi]at h;cases h
 ·have hi':n<=i:=Nat.le_of_not_lt hi;rw[Z3 (by simpa using hi'),Y1,ZB]at h;refine⟨hi',?_⟩;cases e:cap[i-n]? with
  |none=>rw[e]at h;cases h
  |some j =>
   rw[e]at h;refine⟨j,rfl,?_⟩;have h':(σ[j]?).join=some v:=by simpa using h
   cases q:σ[j]? with
   |none=>rw[q]at h';cases h'
   |some o =>rw[q]at h';have:o=some v:=h';rw[this]
section
variable{X:Cx}{pins:List (Addr×Obj)}{σ:St}{H:Hp}{s:Shared}{scope:Scope}{cap:List Nat}{capN N':List Str}{C:Addr}{ex:List Addr}
theorem yl(I:Inv X pins σ H s)(O:CompOk X scope cap capN)(hC:s.heap.objs.size<=C)(hex:∀b∈ex,bv X pins H b/\b<s.heap.objs.size):(aQ X scope N' C s H ex).Ok where
 mod:=I.ok.mod
 kind:=O.kind
 glob:=I.ok.glob
 blt:=I.ok.blt
 above:=hC
 inj:=fun x y c h1 h2=>I.ok.inj x y c (O.sub I.ok x c h1) (O.sub I.ok y c h2)
 has:=fun x hx=>by
  have hx':(relabel scope X.env).names.lookup x=some .cell\/(relabel scope X.env).names.lookup x=some .free:=hx;have key:∀k,(relabel scope X.env).names.lookup x=some k->(k=.cell\/k=.free)->scope.names.lookup x=some .free:=fun k e hk=>by
   obtain⟨k',e',q⟩:=iC (env:=X.env) e;rcases q with q|⟨q,_⟩
   ·subst q;rcases hk with z|z
    ·subst z;exact absurd rfl (O.nocell _ (YU e'))
    ·subst z;exact e'
   ·subst q;exact e'
  rcases hx' with e|e
  ·exact O.has (key _ e (.inl rfl))
  ·exact O.has (key _ e (.inr rfl))
 cab:=fun x c h _=>by cases h
 hd:=I.ok.hd
 frames:=I.ok.frames
 stk:=.inl rfl
 exf:=fun b hb=>by obtain⟨⟨f0,f1,f2,f3,f4,f5⟩,lt⟩:=hex b hb;exact⟨Zv (Zw lt hC),fun x c e=>f4 x c (O.sub I.ok x c e)⟩
 bs:=I.bs
 bsz:=ZZ I.ok.bsz I.sz
 noex:=fun b o e hb=>by
  obtain⟨⟨f0,f1,f2,f3,f4,f5⟩,lt⟩:=hex b hb;rcases f3 with z|z
  ·exact I.ok.noex b o e z
  ·exact absurd (Zw (Zn e) (ZZ I.ok.bsz z)) (YM _)
 exfs:=fun b hb z=>by
  obtain⟨⟨f0,f1,f2,f3,f4,f5⟩,lt⟩:=hex b hb;rcases Zs.mp (I.stkSub b z)with e|e
  ·exact f1 e
  ·exact f2 e
 funs:=I.stack
 frf:=I.stkFree
theorem zd(I:Inv X pins σ H s){b:Addr}(hb:s.heap.objs.size<=b):b∉frs X.stack:=fun z=>by
 rcases Zs.mp (I.stkSub b z)with e|e
 ·exact absurd (Zw I.lt hb) (by rw[e];exact YM _)
 ·exact I.nofs hb e
theorem Bi(I:Inv X pins σ H s){b:Addr}(hb:s.heap.objs.size<=b):∀x c,X.env.cells.lookup x=some c->c≠b:=fun x c e z=>by obtain⟨v,q⟩:=I.cell x c e;exact absurd (Zw q.lt (by rw[z];exact hb)) (YM _)
theorem wG{n:Nat}{h1:Heap}{m1:Str->Option Value}{tk:Nat}(I:Inv X pins σ H s)(O:CompOk X scope cap capN)(hN:N'.length=n+capN.length)(hN2:∀i x,n<=i->N'[i]?=some x->capN[i-n]?=some x)(hC:s.heap.objs.size<=C)(hex:∀b∈ex,bv X pins H b/\b<s.heap.objs.size)(hk:∀b o,s.heap.get? b=some o->h1.get? b=some o)(hn:h1.Ns C m1):Inv (aQ X scope N' C s H ex) [] (be n cap σ) H { s with heap:=h1,toks:=tk }:=by
 refine⟨yl I O hC hex,rfl,I.bare,Un.kept hk,⟨m1,hn,fun i x v e1 e2 e3=>?_⟩,fun x c e=>?_,I.hok.fresh hC,fun x c e=>I.freeC x c (O.sub I.ok x c e),fun p hp=>absurd (show p∈([]:List (Addr×Obj))from hp) (by simp),I.hok.kept hk,?_⟩
 ·obtain⟨hi,j,ej,es⟩:=mD e2;obtain⟨j',q1,q2,qf⟩:=O.cap.get (hN2 i x hi e1);have q3:=O.around (YU qf) rfl;have q4:=jF (env:=X.env) qf;obtain⟨c,q5⟩:=O.has qf;have q6:=O.sub I.ok x c q5;rw[q1]at ej;cases ej;obtain⟨m0,hn0,hl0⟩:=I.loc;obtain⟨u,r,l⟩:=hl0 _ x v q2 es (by
   rcases q3 with z|z
   ·exact .inr (.inl z)
   ·exact .inr (.inr z))
  refine⟨u,r,.inr ⟨q4,c,q5,?_⟩⟩;rcases l with⟨k,_⟩|⟨_,c',e',z⟩
  ·rcases q3 with z|z
   ·have z':X.env.kindOf x=some .cell:=z;rw[z']at k;cases k
   ·have z':X.env.kindOf x=some .free:=z;rw[z']at k;cases k
  ·rw[q6]at e';cases e';obtain⟨o,ho,hd⟩:=z;exact⟨o,hk _ _ ho,hd⟩
 ·obtain⟨v,o,ho,hd⟩:=I.cell x c (O.sub I.ok x c e);exact⟨v,o,hk _ _ ho,hd⟩
 ·rw[wE,O.cap.len];exact hN.symm
end
def oh(X:Cx)(ifs:List Expr)(t:TT):Prop :=
 ∀(pins:List (Addr×Obj)) (s:Shared) (σ:St) (H:Hp) (Q:Bool->Hp->Prop),Inv X pins σ H s->t σ H Q ->
  wpAny (model X.prog X.w) X.A (forIn ifs true fun c r=>if r=true then do let ok ←isTrue c X.env (eval c X.env);pure (ForInStep.yield ok)else pure (ForInStep.yield r)) (TP X pins σ Q) X.xe s
def eW:TT:=fun _ H Q=>Q true H
theorem BF{X:Cx}:oh X [] eW:=fun _ _ _ H _ I h=>wpAny_tests_nil ⟨H,I,h⟩
theorem BG{X:Cx}{c:Expr}{t:TT}(h:PT X c t):oh X [c] t:=fun pins s σ H Q I hw=>wpAny_tests_one (h pins s σ H Q I hw)
def GK(n:Nat)(g:TG):Prop:=∀x σ H Q,g x σ H Q->g x σ H (fun σ2 H2=>(σ2.length=σ.length/\∀i,n<=i->σ2[i]?=σ[i]?)/\Q σ2 H2)
theorem bj{n i:Nat}(hi:i<n):GK n (bw i):=fun x σ H Q h=>⟨⟨Yf,fun j hj=>List.getElem?_set_ne (by omega)⟩,h⟩
def GKs(n:Nat)(g:TGs):Prop:=∀xs σ H Q,g xs σ H Q->g xs σ H (fun σ2 H2=>(σ2.length=σ.length/\∀i,n<=i->σ2[i]?=σ[i]?)/\Q σ2 H2)
theorem vm{n:Nat}:GKs n lJ:=fun xs σ H Q h=>⟨h.1,⟨rfl,fun _ _=>rfl⟩,h.2⟩
def GM(g:TG):Prop:=∀x σ H Q Q',(∀σ2 H2,Q σ2 H2->Q' σ2 H2)->g x σ H Q->g x σ H Q'
def GMs(g:TGs):Prop:=∀xs σ H Q Q',(∀σ2 H2,Q σ2 H2->Q' σ2 H2)->g xs σ H Q->g xs σ H Q'
theorem gc{i:Nat}:GM (bw i):=fun _ _ _ _ _ f h=>f _ _ h
theorem ki:GMs lJ:=fun _ _ _ _ _ f h=>⟨h.1,f _ _ h.2⟩
theorem sg{t:TG}{u:TGs}(a:GM t)(b:GMs u):GMs (fB t u):=fun xs σ H Q Q' f h=>by obtain⟨v,r,e,h⟩:=h;exact⟨v,r,e,a _ _ _ _ _ (fun σ2 H2 z=>b _ _ _ _ _ f z) h⟩
theorem iQ{n:Nat}{t:TG}{u:TGs}(a:GK n t)(m:GM t)(b:GKs n u)(mb:GMs u):GKs n (fB t u):=fun xs σ H Q h=>by obtain⟨v,r,e,h⟩:=h;refine⟨v,r,e,m _ _ _ _ _ (fun σ2 H2 z=>?_) (a _ _ _ _ h)⟩;obtain⟨⟨l1,k1⟩,z⟩:=z;refine mb _ _ _ _ _ (fun σ3 H3 w=>?_) (b _ _ _ _ z);obtain⟨⟨l2,k2⟩,w⟩:=w;exact⟨⟨l2.trans l1,fun i hi=>(k2 i hi).trans (k1 i hi)⟩,w⟩
theorem yI{n m:Nat}{K:PySem.W.Frag}{t:TGs}(a:GKs n t):GK n (lK K m t):=fun x σ H Q h=>by obtain⟨b,xs,e,h1,h2,h3⟩:=h;exact⟨b,xs,e,h1,h2,a _ _ _ _ h3⟩
def bV(n:Nat)(cap:List Nat)(g:TG)(tc:TT)(te:TE)(σ:St)(J:It)(H1:Hp)(Q:VK):Prop :=
 ∃W:Nat->Nat->List V->Hp->Prop,(∃m,W 0 m [] H1)/\∀i m ys H,W i m ys H ->
  (J.stop i H/\∀p,H p=none->Q (.ref p) (upd H p (.lst ys))) \/
  (J.go i H/\ys.length<sizeLine/\∀ x H',J.yld i H x H'->g x (be n cap σ) H' fun σ2 H2=>tc σ2 H2 fun b H3 =>
   if b=true then te σ2 H3 fun y H4=>∃ m',m'<m/\W (i+1) m' (ys++[y]) H4 else ∃ m',m'<m/\W (i+1) m' ys H3)
def rm(n:Nat)(cap:List Nat)(wi:TI)(g:TG)(tc:TT)(te:TE):TE:=fun σ H Q=>wi σ H fun J H1=>bV n cap g tc te σ J H1 Q
theorem iG{prog:Program}{w:World}{A:Around}{R:Result->Shared->Prop}{s:Shared}{elt target iter:Expr}{ifs:List Expr}{scope:Scope}{pos:Pos}{it acc:Value}{env:Env}(I:Nat->Shared->Prop)(turn:∀ n s,I n s->wpAny (model prog w) A (pyNext it) (fun r s₁=>match r with
   |none=>R (.ok .next) s₁
   | some v=>wpAny (model prog w) A (letOwnedTupleGo target it v) (fun _ s₁'=>wpAny (model prog w) A (assign target env v) (fun _ s₂ =>
     wpAny (model prog w) A (forIn ifs true fun c r=>if r=true then do let ok ←isTrue c env (eval c env);pure (ForInStep.yield ok) else pure (ForInStep.yield r)) (fun ok s₃ =>
      if ok=true then wpAny (model prog w) A (eval elt env) (fun x s₄ =>
       wpAny (model prog w) A (call (.builtin "list.append") [acc,x]) (fun _ s₅=>∃ m,m<n/\I m s₅) (fun _ _=>False) s₄) (fun _ _=>False) s₃
      else ∃ m,m<n/\I m s₃) (fun _ _=>False) s₂) (fun _ _=>False) s₁') (fun _ _=>False) s₁) (fun _ _=>False) s)(n:Nat)(h:I n s) :
  codeAny (model prog w) A (.compLoop (.ListComp elt [⟨target,iter,ifs,0⟩] scope pos) 0 it acc env) R s:=by
 refine codeAny_loop rfl I (fun n s hI=>?_) n h;show wpAny _ A ((compTurn (.ListComp elt [⟨target,iter,ifs,0⟩] scope pos) 0 it acc env).onRaise (fun x=>do noteFrame x env;theTreesLotGoes x)) _ _ s;refine wpAny_noted (wpAny_noRaise ?_);rw[compTurn_list];refine z6 (wpAny_standAt (z6 (ZX (turn n s hI) (fun r s₁ h₁=>?_) fun _ _ h'=>h')));cases r with
 |none=>exact Za h₁
 |some v =>
  refine z6 (ZX h₁ (fun _ s₁' h₁'=>?_) fun _ _ h'=>h');refine z6 (ZX h₁' (fun _ s₂ h₂=>z6 (ZX h₂ (fun ok s₃ h₃=>?_) fun _ _ h'=>h')) fun _ _ h'=>h');cases ok with
  |false=>exact Za ⟨rfl,h₃⟩
  |true =>exact z6 (z6 (ZX h₃ (fun x s₄ h₄=>z6 (ZX h₄ (fun _ s₅ h₅=>Za (Za ⟨rfl,h₅⟩)) fun _ _ h'=>h')) fun _ _ h'=>h'))
theorem Du{own capN:List Str}:∀(i:Nat) (x:Str),own.length<=i->(own++capN)[i]?=some x->capN[i-own.length]?=some x:=fun i x hi e=>by rw[Z3 hi]at e;exact e
section
variable{X:Cx}{pins:List (Addr×Obj)}{σ:St}{H2:Hp}{s2:Shared}{scope:Scope}{cap:List Nat}{capN own:List Str}
variable{elt tg iter:Expr}{ifs:List Expr}{pos:Pos}{g:TG}{tc:TT}{te:TE}{Q:VK}
abbrev fM(its:List Value)(nn:Nat):Obj:={ cls:=.type "list",data:=.seq its.toArray nn }
theorem qj{J:It}{fp:List Addr}{it:Addr}{tn:Nat->Heap->Prop}{E:Value->Shared->Prop}{RR:Value->Addr->Result->Shared->Prop}(O:CompOk X scope cap capN)(hc:X.calm=true)(hg:∀C s0 H0 ex,PG (aQ X scope (own++capN) C s0 H0 ex) tg g)(gk:GK own.length g)(ht:∀C s0 H0 ex,oh (aQ X scope (own++capN) C s0 H0 ex) ifs tc)(he:∀C s0 H0 ex,PE (aQ X scope (own++capN) C s0 H0 ex) elt te)(I2:Inv X pins σ H2 s2)(T:Turn X.prog X.w X.K tg J fp it tn)(st2:tn 0 s2.heap)(f2:∀b∈fp,bv X pins H2 b)(hq:bV own.length cap g tc te σ J H2 Q)(fin:∀(D C:Addr) (s4:Shared) (H4:Hp) (ys:List V),Inv X pins σ (upd H4 D (.lst ys)) s4->(∃m,s4.heap.Ns C m)->bv X pins (upd H4 D (.lst ys)) C->Q (.ref D) (upd H4 D (.lst ys))->RR (.ref D) C (.ok .next) s4) :
  wpAny (model X.prog X.w) X.A (newList []) (fun acc s₃=>wpAny (model X.prog X.w) X.A (newFunctionEnv scope X.env.globals (bM X.env scope.names []) [] X.env.qual none .none (some X.env)) (fun cenv s₄ =>
   codeAny (model X.prog X.w) X.A (.compStart (.ListComp elt [⟨tg,iter,ifs,0⟩] scope pos) 0 (.ref it) acc { cenv with scope:=relabel scope X.env }) (RR acc cenv.locals) s₄) E s₃) E s2:=by
 obtain⟨W,⟨m0,w0⟩,turn⟩:=hq;refine ZQ (wpAny_newFunctionEnv O.nocell (by intro y hy;simp at hy) (fun h₁ hns₁ hsb₁=>?_) O.kind);dsimp only at hns₁ hsb₁ ⊢;generalize hHp:s2.heap.push { cls:=.type "list",dict:=none,data:=.seq ([]:List Value).toArray }=Hp2 at hns₁ hsb₁ ⊢;have hC:Hp2.objs.size=s2.heap.objs.size+1:=by rw[<-hHp,Y0]
 have hDC:s2.heap.objs.size≠Hp2.objs.size:=by rw[hC];exact Zv (Nat.lt_succ_self _)
 have hCle:s2.heap.objs.size<=Hp2.objs.size:=by rw[hC];exact Nat.le_succ _
 have below:∀b,b<s2.heap.objs.size->b≠Hp2.objs.size/\b≠s2.heap.objs.size:=fun b hb=>⟨by rw[hC];exact Zv (Xl hb),Zv hb⟩
 have old:∀b o,s2.heap.get? b=some o->h₁.get? b=some o:=fun b o e=>hsb₁.extBut b o (below b (Zn e)).1 (z9 _ (hHp▸z9 _ e));have hacc:h₁.get? s2.heap.objs.size=some (fM [] 0):=hsb₁.extBut _ _ hDC (z9 _ (hHp▸Zk _ rfl));generalize hDe:s2.heap.objs.size=D at *;generalize hCe:Hp2.objs.size=C at *;have hfpl:∀b∈fp,b<s2.heap.objs.size:=fun b hb=>by obtain⟨o,e,_⟩:=T.obj _ _ st2 b hb;exact Zn e
 have hex:∀b∈fp,bv X pins H2 b/\b<s2.heap.objs.size:=fun b hb=>⟨f2 b hb,hfpl b hb⟩
 have hCle':s2.heap.objs.size<=C:=by rw[hDe];exact hCle
 have hDle:s2.heap.objs.size<=D:=by rw[hDe];exact Ze _
 have hDfp:∀b∈fp,D≠b:=fun b hb z=>by have:=hfpl b hb;rw[<-z]at this;exact absurd this (Nat.not_lt.mpr hDle)
 have I0:∀tk,Inv (aQ X scope (own++capN) C s2 H2 fp) [] (be own.length cap σ) H2 { s2 with heap:=h₁,toks:=tk }:=fun tk=>wG I2 O (by simp) Du hCle' hex old hns₁;have Dst:D∉frs X.stack:=zd I2 hDle;have Dcell:∀x c,(aQ X scope (own++capN) C s2 H2 fp).env.cells.lookup x=some c->c≠D:=fun x c e=>Bi I2 hDle x c (O.sub I2.ok x c e);have pinD:∀{σ':St} {H':Hp} {s':Shared} {its:List Value} {nn:Nat},Inv (aQ X scope (own++capN) C s2 H2 fp) [] σ' H' s'->s'.heap.get? D=some (fM its nn)->H' D=none->Inv (aQ X scope (own++capN) C s2 H2 fp) [(D,fM its nn)] σ' H' s':=fun{σ' H' s' its nn} I e hn =>
  I.pins_of fun p hp=>by
   have z:p=(D,fM its nn):=by simpa using hp
   subst z;exact⟨e,hn,hDC,Dst,fun v q=>by cases q⟩
 have loop:∀s₃:Shared,s₃={ s2 with heap:=h₁,toks:=s2.toks+([]:List (Str×Value)).length } ->
   codeAny (model X.prog X.w) X.A (.compLoop (.ListComp elt [⟨tg,iter,ifs,0⟩] scope pos) 0 (.ref it) (.ref D) (compEnvC scope (bM X.env scope.names []) C X.env)) (RR (.ref D) C) s₃:=by
  rintro s₃ rfl;refine iG (fun k s'=>∃(i:Nat) (ys:List V) (its:List Value) (nn:Nat) (H':Hp),Inv (aQ X scope (own++capN) C s2 H2 fp) [(D,fM its nn)] (be own.length cap σ) H' s'/\tn i s'.heap/\(∀b∈fp,H' b=none)/\Vals ys its/\ys.length<=sizeLine/\W i k ys H') ?_ m0
   ⟨0,[],[],0,H2,pinD (I0 _) hacc (I2.hok.fresh hDle),T.keep _ _ _ st2 (fun b hb o e=>old b o e),fun b hb=>(f2 b hb).1,.nil,ZT _,w0⟩
  rintro k s3 ⟨i,ys,its,nn,H3,I3,st3,fr3,rv,hz,w3⟩;have oD3:s3.heap.get? D=some (fM its nn):=(I3.pin (D,fM its nn) (by simp)).1;have fpY:∀{H':Hp},(∀b∈fp,H' b=none)->∀b∈fp,bv (aQ X scope (own++capN) C s2 H2 fp) [(D,fM its nn)] H' b:=fun{H'} hn b hb=>by
   obtain⟨f0,f1,g2,f3,f4,f5⟩:=f2 b hb;refine⟨hn b hb,Zv (Zw (hfpl b hb) hCle'),fun z=>?_,.inl hb,fun x c e=>f4 x c (O.sub I2.ok x c e),fun p hp=>?_⟩
   ·rcases Zs.mp (I2.stkSub b z)with e|e
    ·exact f1 e
    ·exact g2 e
   ·have z:p=(D,fM its nn):=by simpa[aQ]using hp
    subst z;exact hDfp b hb
  rcases turn i k ys H3 w3 with⟨stop,qn⟩|⟨go,hlt,step⟩
  ·refine thn (T.done (aQ X scope (own++capN) C s2 H2 fp) rfl rfl rfl hc i _ s3 _ H3 _ I3 (fpY fr3) st3 stop) fun r s4 ⟨hr,I4⟩=>?_;subst hr;obtain⟨oD,nD,_⟩:=I4.pin (D,fM its nn) (by simp);have neD:∀{b:Addr} {u:HO},H3 b=some u->b≠D:=fun{b u} e=>al e nD;have JX:Inv X pins σ (upd H3 D (.lst ys)) s4:=by
    refine I2.call' (ch:=fp) I4.os ⟨I4.base.keep,I4.base.slot,fun b o e nb hx=>?_,I4.base.there,fun b xs e=>?_,fun b o u e=>?_,fun b ps e=>?_⟩ (fun b u e=>?_) I4.bare (fun b hb=>?_)
    ·rw[ad (by rw[<-hDe];exact Zv (Zn e))];exact I4.base.free b o e nb hx
    ·have q:=I4.base.tups b xs e;rw[ad (neD q)];exact q
    ·have q:=I4.base.frzs b o u e;rw[ad (neD q)];exact q
    ·obtain⟨more,q⟩:=I4.base.tbls b ps e;exact⟨more,by rw[ad (neD q)];exact q⟩
    ·by_cases hb:b=D
     ·subst hb;rw[af]at e;cases e;exact⟨hz,its,nn,rv,oD⟩
     ·rw[ad hb]at e;exact(I4.hok b u e).stay (fun _ _ _ q=>q) (fun c q=>by rw[ad (neD q)];exact q) fun c xs q=>by rw[ad (neD q)];exact q
    ·obtain⟨f0,f1,g2,f3,f4,f5⟩:=f2 b hb;exact⟨f3,f1,f4,f5⟩
   obtain⟨m4,hn4,_⟩:=I4.loc;refine fin D C s4 H3 ys JX ⟨m4,hn4⟩ ?_ (qn D nD);refine I2.fpOk (b:=C) hCle' ?_;rw[ad (Yx hDC)];exact I4.free
  ·refine thn (T.item (aQ X scope (own++capN) C s2 H2 fp) rfl rfl rfl hc i _ s3 _ H3 _ I3 (fpY fr3) st3 go) fun r s4 ⟨u,hr,h4⟩=>?_;subst hr;refine thn h4 fun _ s5 hz9=>?_;obtain⟨x,H5,I5,r5,y5,st5,fr5⟩:=hz9;have I5':=I5.pinned (fpY fr5) (T.obj _ _ st5);refine thn (hg C s2 H2 fp _ s5 _ H5 x u _ I5' r5 (gk _ _ _ _ (step x H5 y5))) fun _ s6 hz9=>?_;obtain⟨σ6,H6,I6,⟨l6,k6⟩,q6⟩:=hz9;refine thn (ht C s2 H2 fp _ s6 σ6 H6 _ I6 q6) fun ok s7 ⟨H7,I7,q7⟩=>?_;have wk:∀{H8:Hp} {s8:Shared} {pl:List (Addr×Obj)},Inv (aQ X scope (own++capN) C s2 H2 fp) pl σ6 H8 s8->Inv (aQ X scope (own++capN) C s2 H2 fp) pl (be own.length cap σ) H8 s8:=fun I=>I.weak l6.symm fun j v e=>by obtain⟨hj,_⟩:=mD e;rw[k6 j hj];exact e
   have tn8:∀{σ8:St} {H8:Hp} {s8:Shared},Inv (aQ X scope (own++capN) C s2 H2 fp) ([(D,fM its nn)]++jD fp s5.heap) σ8 H8 s8->(∀b∈fp,∀o,s5.heap.get? b=some o->s8.heap.get? b=some o)/\∀b∈fp,H8 b=none:=fun{σ8 H8 s8} I=>by refine⟨fun b hb o e=>(I.pin (b,o) (ZD _ (ZD _ (fU hb e)))).1,fun b hb=>?_⟩;obtain⟨o,e,d⟩:=T.obj _ _ st5 b hb;exact(I.pin (b,o) (ZD _ (ZD _ (fU hb e)))).2.1
   cases ok with
   |false =>rw[Ju Zr]at q7 ⊢;obtain⟨m',hm,w7⟩:=q7;obtain⟨t1,t2⟩:=tn8 I7;exact⟨m',hm,i+1,ys,its,nn,H7,wk I7.unpinned,T.keep _ _ _ st5 t1,t2,rv,hz,w7⟩
   |true =>
    rw[Jv rfl]at q7 ⊢;refine thn (he C s2 H2 fp _ s7 σ6 H7 _ I7 q7) fun y s8 hz9=>?_;obtain⟨yv,H8,I8,r8,m',hm,w8⟩:=hz9;obtain⟨t1,t2⟩:=tn8 I8;obtain⟨oD,nD,_⟩:=I8.pin (D,fM its nn) (by simp);have hil:=rv.length;refine call_meets F.slot_list_append ⟨_,oD,rfl⟩ F.entry_list_append (F.args_list_append_2 _ _) (PySem.list_append D its.toArray nn y (by rw[Zj];omega)) ⟨oD,?_⟩;have q:=PySem.IsL.update oD (fun x_1=>x_1.push y);have hf:its.toArray.push y=(its++[y]).toArray:=by simp
    rw[hf]at q;have keepO:∀b o,b≠D->s8.heap.get? b=some o->(s8.heap.update D (Obj.mapSeq fun x_1=>x_1.push y)).get? b=some o:=fun b o hb e=>(YB s8.heap (Obj.mapSeq fun x_1=>x_1.push y) (Yx hb)).trans e;have I9:Inv (aQ X scope (own++capN) C s2 H2 fp) [] σ6 H8 { s8 with heap:=s8.heap.update D (Obj.mapSeq fun x_1=>x_1.push y),toks:=s8.toks } :=
     (I8.pins_of (pins':=[]) fun p hp=>absurd hp (by simp)).turned (it:=D) keepO nD hDC (.inr hDle) Dcell (fun p hp=>absurd (show p∈([]:List (Addr×Obj))from hp) (by simp))
    refine⟨m',hm,i+1,ys++[yv],its++[y],_,H8,wk (pinD I9 q nD),T.keep _ _ _ st5 (fun b hb o e=>keepO b o (Yx (hDfp b hb)) (t1 b hb o e)),t2,rv.append (.cons r8 .nil),?_,w8⟩;rw[Zg,ZW];omega
 exact codeAny_compStart_list (loop _ rfl) (T.self _ 0 _ _ _ (T.keep _ _ _ st2 (fun b hb o e=>old b o e)) (loop _ rfl))
theorem Dz{wi:TI}(O:CompOk X scope cap capN)(hc:X.calm=true)(hi:PI X tg iter wi)(hg:∀C s0 H0 ex,PG (aQ X scope (own++capN) C s0 H0 ex) tg g)(gk:GK own.length g)(ht:∀C s0 H0 ex,oh (aQ X scope (own++capN) C s0 H0 ex) ifs tc)(he:∀C s0 H0 ex,PE (aQ X scope (own++capN) C s0 H0 ex) elt te)(hs:∀x,foldedSetIterable iter X.env x=pure x:=by intro _;rfl):PE X (.ListComp elt [⟨tg,iter,ifs,0⟩] scope pos) (rm own.length cap wi g tc te):=by intro pins s σ H Q I h;rw[eval_ListComp];refine wpAny_comprehension_free (use:=none) rfl hs (O.clos I.ok) O.kind O.names (thn (hi pins s σ H _ I h) fun v s1 h1=>thn h1 fun itv s2 h2=>?_);obtain⟨it,fp,tn,J,H2,e,I2,T,st2,f2,hq⟩:=h2;subst e;refine qj (RR:=fun acc C=>compPost (model X.prog X.w) X.A X.xe none (EP X pins σ Q) acc C) O hc hg gk ht he I2 T st2 f2 hq fun D C s4 H4 ys J4 hn4 fC q4=>?_;obtain⟨m,hn⟩:=hn4;obtain⟨f0,f1,g2,f3,f4,f5⟩:=fC;exact⟨m,hn,fun h' sb=>⟨.ref D,_,J4.turned (t':=s4.toks) (fun b o hb e=>(sb.2 b hb).trans e) f0 f1 f3 f4 f5,rfl,q4⟩⟩
theorem DN{wi:TI}{j:Nat}{y:Str}{py spos:Pos}(hN0:X.N.Nodup)(hj:X.N[j]?=some y)(hy:Loc X.env.scope y)(O:CompOk X scope cap capN)(hc:X.calm=true)(hi:PI X tg iter wi)(hg:∀C s0 H0 ex,PG (aQ X scope (own++capN) C s0 H0 ex) tg g)(gk:GK own.length g)(ht:∀C s0 H0 ex,oh (aQ X scope (own++capN) C s0 H0 ex) ifs tc)(he:∀C s0 H0 ex,PE (aQ X scope (own++capN) C s0 H0 ex) elt te)(hsw:swapsWith (.ListComp elt [⟨tg,iter,ifs,0⟩] scope pos) (some (.Name y py)) spos.line X.env=pure true:=by rfl)(hs:∀x,foldedSetIterable iter X.env x=pure x:=by intro _;rfl)(hf:X.fn y=true\/X.env.scope.names.lookup y=some .local:=by first|exact .inl rfl|exact .inr rfl|assumption) :
  PS X (.Assign [.Name y py] (.ListComp elt [⟨tg,iter,ifs,0⟩] scope pos) spos) (pX (rm own.length cap wi g tc te) (bw j)):=by
 intro pins s σ H D0 I h;rw[exec_Assign_Name_used _ _ _ _ hsw];refine z6 (wpAny_standAt (z6 ?_));show wpAny _ X.A (do let _ ←comprehension (.ListComp elt [⟨tg,iter,ifs,0⟩] scope pos) scope X.env _ (newList []) false (eval iter X.env) (some (assign (.Name y py) X.env))) _ _ s;refine z6 (ZX (wpAny_comprehension_free (use:=some (assign (.Name y py) X.env)) (Q:=fun _ s'=>SP X pins D0 .next s') rfl hs (O.clos I.ok) O.kind O.names (thn (hi pins s σ H _ I h) fun v s1 h1=>thn h1 fun itv s2 h2=>?_)) (fun _ s' hq=>Za (Za hq)) fun _ _ e=>e);obtain⟨it,fp,tn,J,H2,e,I2,T,st2,f2,hq⟩:=h2;subst e;refine qj (RR:=fun acc C=>compPost (model X.prog X.w) X.A X.xe (some (assign (.Name y py) X.env)) (fun _ s'=>SP X pins D0 .next s') acc C) O hc hg gk ht he I2 T st2 f2 hq fun D C s4 H4 ys J4 hn4 fC q4=>?_;obtain⟨m,hn⟩:=hn4;obtain⟨f0,f1,g2,f3,f4,f5⟩:=fC;show wpAny _ X.A (assign (.Name y py) X.env (.ref D)) _ _ _;refine wpAny_assign_Name (qG J4 hN0 hj hy (v:=.ref D) rfl (fun s5 I5 ⟨a,sba,ha⟩=>?_) hf);have hCa:C≠a:=by
  rcases ha with z|z
  ·rw[z];exact f1
  ·exact Yx (f4 _ _ z)
 refine⟨m,hn.sameBut sba hCa,fun h' sb=>?_⟩;exact⟨_,_,I5.turned (t':=s5.toks) (fun b o hb e=>(sb.2 b hb).trans e) f0 f1 f3 f4 f5,q4⟩
end
open PySem PySem.Spec PyProof.Rows
structure Fn(P:Program)(w:World)(K:PySem.W.Frag)(mg:Str->Option Value)(base:Heap)(k:Nat)(x:Str)(ps:List Str)(sp:Sp):Prop where
 ex:∃f fd,FnOk P w K mg base CX0 k f fd ps sp/\mg x=some (.ref f)/\PySem.W.keepIn K (.ref f)=true/\Binds K fd ps []
section
variable{X:Cx}{k:Nat}{x:Str}{p pos:Pos}{e:Expr}{es:List Expr}{ps:List Str}{sp:Sp}{t:TA}
theorem Hb(F:Fn X.prog X.w X.K X.mg X.base k x ps sp)(hr:Room k X.A)(ha:PA X (e::es) t)(hg:Gl X x:=by rfl)(hdb:(x==("__debug__":Str))=false:=by decide)(he:starEach (e::es) X.env=(false,eval e X.env)::starEach es X.env:=by rfl)(hpl:(backTo pos (starEach es X.env)).any (·.1)=false:=by rfl) :
  PE X (.Call (.Name x p) (e::es) [] pos) (rk sp [] E0 t):=by
 obtain⟨f,fd,G,m,kp,b⟩:=F.ex;exact Dx G hr hg m kp b .nil rh ha hdb he hpl
end
theorem aX:bootBuiltins "isinstance" = some (.builtin "isinstance"):=by decide +kernel
theorem AU:bootBuiltins "max" = some (.builtin "max"):=by decide +kernel
theorem rJ:bootBuiltins "int" = some (.type "int"):=by decide +kernel
theorem qh:bootBuiltins "bool" = some (.type "bool"):=by decide +kernel
theorem di:bootBuiltins "tuple" = some (.type "tuple"):=by decide +kernel
theorem jn:bootBuiltins "list" = some (.type "list"):=by decide +kernel
theorem dS:bootBuiltins "all" = some (.builtin "all"):=by decide +kernel
section
variable{X:Cx}
theorem AV(hc:X.calm=true):df X (.builtin "all") (fun xs H Q=>∃(p:Addr) (bs:List Bool),xs=[.ref p]/\SqL X.K H p (bs.map V.bl)/\Q (.bl (bs.all id)) H):=by
 intro pins s σ H xs us Q I r h;obtain⟨p,bs,rfl,hq,q⟩:=h;obtain⟨u,rfl,rx⟩:=ce r;cases rx;obtain⟨its,rv,pl,hz⟩:=I.list hq;have hl:=pl.isList;have hlt:p<s.heap.objs.size:=by obtain⟨_,e,_⟩:=hl;exact Zn e
 have hh:=I.ok.hd hc;have hlen:bs.length=its.length:=by rw[<-rv.length,Zb]
 refine call_all_walk (wpAny_pyIter_list hl ?_);refine⟨s.heap.objs.size,[s.heap.objs.size,p],[s.heap.objs.size],its.toArray.size,_,_,fun i=>(bs[i]?).getD true,rfl,Walks.list (A:=X.A.in1) hh _ p (Zv hlt) its.toArray,
  ⟨⟨_,Zk _ rfl,rfl,rfl⟩,hl.push _⟩,fun i v s' Q' E' hP hQ=>?_,fun h' tk hk=>?_⟩
 ·have hv:its[i]?=some v:=by simpa using hP
  have hi:i<bs.length:=by rw[hlen];exact(ZH.mp hv).1
  obtain⟨u,hu,ru⟩:=rv.get (i:=i) (x:=.bl bs[i]) (by rw[ZB,Zd hi];rfl);rw[hv]at hu;cases hu;cases ru;have hQ':Q' ((bs[i]?).getD true) s':=hQ;rw[Zd hi]at hQ';exact Yd hQ'
 ·have e:((List.range its.toArray.size).all fun i=>(bs[i]?).getD true)=bs.all id:=by rw[Zj,<-hlen];exact LSm.range_all bs
  rw[e];exact⟨.bl _,H,I.kept (t':=tk) (LSm.kept_iter hk),rfl,q⟩
theorem AW:df X (.builtin "isinstance") (fun xs H Q=>∃x T t b,xs=[x,.ty T]/\TyOf X.K H x t/\PySem.W.kitOne X.K t (.type T)=some b/\Q (.bl b) H):=by intro pins s σ H xs us Q I r h;obtain⟨x,T,t,b,rfl,ty,e,q⟩:=h;obtain⟨u,w',rfl,rx,ry⟩:=xU r;cases(show w'=Value.type T from ry);exact yN I rx ty e fun tk=>⟨.bl b,H,I.tok tk,rfl,q⟩
end
def isI:V->Bool
 |.int _=>true
 |.bl _=>true
 |_=>false
def isB:V->Bool
 |.bl _=>true
 |_=>false
def eA:V->Bool
 |.int _=>true
 |_=>false
def wQ:Option HO->Bool
 |some (.tup _)=>true
 |_=>false
def isT(H:Hp):V->Bool
 |.ref a=>wQ (H a)
 |_=>false
theorem bK{H:Hp}{a:Addr}{o:HO}{b:Bool}(e:H a=some o)(h:wQ (some o)=b):isT H (.ref a)=b:=by show wQ (H a)=b;rw[e];exact h
theorem br{K:PySem.W.Frag}{t T:String}{b:Bool}(h1:(Value.type t==Value.type T)=b)(h2:b=false->PySem.W.kitMeta T=true/\(PySem.fastBuiltinMro t).map (·.contains (Value.type T))=some false):PySem.W.kitOne K (.type t) (.type T)=some b:=by
 unfold PySem.W.kitOne;rw[h1];cases b with
 |true=>exact Jv rfl
 |false =>rw[Ju Zr];obtain⟨m,q⟩:=h2 rfl;show(if PySem.W.kitMeta T=true then PySem.W.subIn K (.type t) (.type T)else none)=_;rw[Jv m];exact q
theorem aD{K:PySem.W.Frag}{t T:String}{b:Bool}(h1:(Value.type t==Value.type T)=false)(h2:PySem.W.kitMeta T=true)(h3:(PySem.fastBuiltinMro t).map (·.contains (Value.type T))=some b):PySem.W.kitOne K (.type t) (.type T)=some b:=by unfold PySem.W.kitOne;rw[h1,Ju Zr];show(if PySem.W.kitMeta T=true then PySem.W.subIn K (.type t) (.type T)else none)=_;rw[Jv h2];exact h3
theorem C8{K:PySem.W.Frag}{H:Hp}{v:V}{n:String}(h:TyOf K H v (.type n)):PySem.W.kitOne K (.type n) (.type "int")=some (isI v):=by
 cases h with
 |non=>exact aD (b:=false) (by decide +kernel) (by decide +kernel) (by decide +kernel)
 |bl x=>exact aD (b:=true) (by decide +kernel) (by decide +kernel) (by decide +kernel)
 |int i=>exact br (b:=true) (by decide +kernel) (fun z=>nomatch z)
 |str x=>exact aD (b:=false) (by decide +kernel) (by decide +kernel) (by decide +kernel)
 |flt x=>exact aD (b:=false) (by decide +kernel) (by decide +kernel) (by decide +kernel)
 |lst e=>exact aD (b:=false) (by decide +kernel) (by decide +kernel) (by decide +kernel)
 |frz e=>exact aD (b:=false) (by decide +kernel) (by decide +kernel) (by decide +kernel)
 |tup e=>exact aD (b:=false) (by decide +kernel) (by decide +kernel) (by decide +kernel)
 |dK e=>exact aD (b:=false) (by decide +kernel) (by decide +kernel) (by decide +kernel)
 |dT e=>exact aD (b:=false) (by decide +kernel) (by decide +kernel) (by decide +kernel)
theorem su{K:PySem.W.Frag}{H:Hp}{v:V}{n:String}(h:TyOf K H v (.type n)):PySem.W.kitOne K (.type n) (.type "bool")=some (isB v):=by
 cases h with
 |non=>exact aD (b:=false) (by decide +kernel) (by decide +kernel) (by decide +kernel)
 |bl x=>exact br (b:=true) (by decide +kernel) (fun z=>nomatch z)
 |int i=>exact aD (b:=false) (by decide +kernel) (by decide +kernel) (by decide +kernel)
 |str x=>exact aD (b:=false) (by decide +kernel) (by decide +kernel) (by decide +kernel)
 |flt x=>exact aD (b:=false) (by decide +kernel) (by decide +kernel) (by decide +kernel)
 |lst e=>exact aD (b:=false) (by decide +kernel) (by decide +kernel) (by decide +kernel)
 |frz e=>exact aD (b:=false) (by decide +kernel) (by decide +kernel) (by decide +kernel)
 |tup e=>exact aD (b:=false) (by decide +kernel) (by decide +kernel) (by decide +kernel)
 |dK e=>exact aD (b:=false) (by decide +kernel) (by decide +kernel) (by decide +kernel)
 |dT e=>exact aD (b:=false) (by decide +kernel) (by decide +kernel) (by decide +kernel)
theorem iw{K:PySem.W.Frag}{H:Hp}{v:V}{n:String}(h:TyOf K H v (.type n)):PySem.W.kitOne K (.type n) (.type "tuple")=some (isT H v):=by
 cases h with
 |non=>exact aD (b:=false) (by decide +kernel) (by decide +kernel) (by decide +kernel)
 |bl x=>exact aD (b:=false) (by decide +kernel) (by decide +kernel) (by decide +kernel)
 |int i=>exact aD (b:=false) (by decide +kernel) (by decide +kernel) (by decide +kernel)
 |str x=>exact aD (b:=false) (by decide +kernel) (by decide +kernel) (by decide +kernel)
 |flt x=>exact aD (b:=false) (by decide +kernel) (by decide +kernel) (by decide +kernel)
 |lst e =>rw[bK e (b:=false) rfl];exact aD (b:=false) (by decide +kernel) (by decide +kernel) (by decide +kernel)
 |frz e =>rw[bK e (b:=false) rfl];exact aD (b:=false) (by decide +kernel) (by decide +kernel) (by decide +kernel)
 |tup e =>rw[bK e (b:=true) rfl];exact br (b:=true) (by decide +kernel) (fun z=>nomatch z)
 |dK e =>rw[bK e (b:=false) rfl];exact aD (b:=false) (by decide +kernel) (by decide +kernel) (by decide +kernel)
 |dT e =>rw[bK e (b:=false) rfl];exact aD (b:=false) (by decide +kernel) (by decide +kernel) (by decide +kernel)
theorem ai{H:Hp}{p:Addr}(h:H p=none)(o:HO):Same H (upd H p o):=fun b u q=>by rw[ad (al q h)];exact q
theorem dP{K:PySem.W.Frag}{H H':Hp}{a:Addr}{xs:List V}(e:Same H H')(h:SqT K H a xs):SqT K H' a xs:=by
 rcases h with(h|⟨o,h⟩)|h
 ·exact .inl (.inl (e _ _ h))
 ·exact .inl (.inr ⟨o,e _ _ h⟩)
 ·exact .inr h
theorem cC{K:PySem.W.Frag}{H H':Hp}{v:V}{n:Value}(e:Same H H')(h:TyOf K H v n):TyOf K H' v n:=by
 cases h with
 |non=>exact .non
 |bl x=>exact .bl x
 |int i=>exact .int i
 |str x=>exact .str x
 |flt x=>exact .flt x
 |lst q=>exact .lst (e _ _ q)
 |frz q=>exact .frz (e _ _ q)
 |tup q=>exact .tup (e _ _ q)
 |dK q=>exact .dK (e _ _ q)
 |dT q=>exact .dT (e _ _ q)
 |ins q cl ha hn htk hm=>exact .ins (e _ _ q) cl ha hn htk hm
theorem de{n:Nat}(h:n<=1000):n<=sizeLine:=Nat.le_of_lt (fK h)
theorem sz{n:Nat}(h:Nat.ble n 1000=true):n<=sizeLine:=de (Nat.le_of_ble_eq_true h)
theorem gQ{J:It}{N n:Nat}{cap:List Nat}{te:TE}{σ:St}{H0:Hp}{Q:VK}(x0 f:Nat->V)(hz:N<=1000)(hgo:∀i H,i<N->Same H0 H->J.go i H)(hst:∀H,Same H0 H->J.stop N H)(hy:∀i H x H',i<N->Same H0 H->J.yld i H x H'->H'=H/\x=x0 i)(he:∀i H,i<N->Same H0 H->∀R:VK,(∀H',Same H H'->R (f i) H')->te ((be n cap σ).set 0 (some (x0 i))) H R)(hq:∀p H,Same H0 H->H p=none->Q (.ref p) (upd H p (.lst ((List.range N).map f)))):bV n cap (bw 0) eW te σ J H0 Q:=by
 refine⟨fun i m ys H=>m=N-i/\i<=N/\Same H0 H/\ys=(List.range i).map f,⟨N,by simp,ZT _,Same.refl _,rfl⟩,?_⟩;rintro i m ys H ⟨rfl,hi,sm,rfl⟩;by_cases hlt:i<N
 ·refine .inr ⟨hgo i H hlt sm,?_,fun x H' y=>?_⟩
  ·rw[Zb,Y9];exact fK (by omega)
  ·obtain⟨e1,e2⟩:=hy i H x H' hlt sm y;subst e1 e2;refine he i H' hlt sm _ fun H4 sm4=>⟨N-(i+1),by omega,rfl,hlt,sm.trans sm4,?_⟩
   rw[List.range_succ,Zy];rfl
 ·have e:i=N:=by omega
  subst e;exact .inl ⟨hst H sm,fun p hp=>hq p H sm hp⟩
theorem yn{K:PySem.W.Frag}{a:Addr}{xs:List V}{n:Nat}{cap:List Nat}{te:TE}{σ:St}{H0:Hp}{Q:VK}(f:Nat->V)(hz:xs.length<=1000)(hl:SqL K H0 a xs)(he:∀i x H,xs[i]?=some x->Same H0 H->∀R:VK,(∀H',Same H H'->R (f i) H')->te ((be n cap σ).set 0 (some x)) H R)(hq:∀p H,Same H0 H->H p=none->Q (.ref p) (upd H p (.lst ((List.range xs.length).map f)))):bV n cap (bw 0) eW te σ (Itl K a) H0 Q:=by
 refine gQ (N:=xs.length) (fun i=>(xs[i]?).getD .non) f hz (fun i H hi sm=>⟨xs,xs[i],sm.seq hl,by simp[hi]⟩) (fun H sm=>⟨xs,sm.seq hl,Ze _⟩) (fun i H x H' hi sm y=>⟨y.1,?_⟩) (fun i H hi sm R k=>?_) hq
 ·rw[y.2 xs (sm.seq hl)];rfl
 ·have e:xs[i]?=some xs[i]:=by simp[hi]
  rw[e];exact he i xs[i] H e sm R k
theorem rV{K:PySem.W.Frag}{a:Addr}{xs:List V}{n:Nat}{cap:List Nat}{te:TE}{σ:St}{H0:Hp}{Q:VK}(f:Nat->V)(hz:xs.length<=1000)(hl:SqT K H0 a xs)(he:∀i x H,xs[i]?=some x->Same H0 H->∀R:VK,(∀H',Same H H'->R (f i) H')->te ((be n cap σ).set 0 (some x)) H R)(hq:∀p H,Same H0 H->H p=none->Q (.ref p) (upd H p (.lst ((List.range xs.length).map f)))):bV n cap (bw 0) eW te σ (Itt K a) H0 Q:=by
 refine gQ (N:=xs.length) (fun i=>(xs[i]?).getD .non) f hz (fun i H hi sm=>⟨xs,xs[i],dP sm hl,by simp[hi]⟩) (fun H sm=>⟨xs,dP sm hl,Ze _⟩) (fun i H x H' hi sm y=>⟨y.1,?_⟩) (fun i H hi sm R k=>?_) hq
 ·rw[y.2 xs (dP sm hl)];rfl
 ·have e:xs[i]?=some xs[i]:=by simp[hi]
  rw[e];exact he i xs[i] H e sm R k
theorem wF{N n:Nat}{lo:Int}{cap:List Nat}{te:TE}{σ:St}{H0:Hp}{Q:VK}(f:Nat->V)(hz:N<=1000)(he:∀i H,i<N->Same H0 H->∀R:VK,(∀H',Same H H'->R (f i) H')->te ((be n cap σ).set 0 (some (.int (lo+i)))) H R)(hq:∀p H,Same H0 H->H p=none->Q (.ref p) (upd H p (.lst ((List.range N).map f)))):bV n cap (bw 0) eW te σ (Itr lo N) H0 Q :=
 gQ (N:=N) (fun i=>.int (lo+i)) f hz (fun _ _ hi _=>hi) (fun _ _=>Ze N) (fun _ _ _ _ _ _ y=>y) he hq
open PySem PySem.Spec PyProof.Rows
def aR:Expr->Bool
 |.Starred _ _=>false
 |_=>true
theorem aU{e:Expr}{es:List Expr}{env:Env}(h:aR e=true):starEach (e::es) env=(false,eval e env)::starEach es env:=by cases e<;>first|rfl|cases h
theorem bz{env:Env}{pos:Pos}:∀{es:List Expr},es.all aR=true->(backTo pos (starEach es env)).any (·.1)=false
 | [],_=>rfl
 |e::es,h=>by rw[List.all_cons,Zz]at h;rw[aU h.1];show(false ||(backTo pos (starEach es env)).any (·.1))=false;rw[Bool.false_or];exact bz h.2
section
variable{X:Cx}{x:Str}{p pos:Pos}{e:Expr}{es:List Expr}{te:TE}{t:TA}{id T:String}{r:List V->Hp->VK->Prop}{k:Nat}{ps:List Str}{sp:Sp}
theorem pa(ha:PE X e te)(hr:PA X es t)(hs:aR e=true:=by rfl):PA X (e::es) (fD te t):=Dv ha hr (aU hs)
theorem pB(hc:df X (.builtin id) r)(hm:X.mg x=none)(hv:bootBuiltins x=some (.builtin id))(ha:PA X (e::es) t)(hg:Gl X x:=by rfl)(hs:(e::es).all aR=true:=by rfl)(hn:x≠"__name__":=by decide)(hdb:(x==("__debug__":Str))=false:=by decide) :
  PE X (.Call (.Name x p) (e::es) [] pos) (tCB r t):=by
 rw[List.all_cons,Zz]at hs;exact Bv hc hg hm hv ha hn hdb (aU hs.1) (bz hs.2)
theorem pTy(hc:df X (.type T) r)(hm:X.mg x=none)(hv:bootBuiltins x=some (.type T))(ha:PA X (e::es) t)(hg:Gl X x:=by rfl)(hs:(e::es).all aR=true:=by rfl)(hn:x≠"__name__":=by decide)(hdb:(x==("__debug__":Str))=false:=by decide) :
  PE X (.Call (.Name x p) (e::es) [] pos) (tCB r t):=by
 rw[List.all_cons,Zz]at hs;exact zw hc hg hm hv ha hn hdb (aU hs.1) (bz hs.2)
theorem pfn(F:Fn X.prog X.w X.K X.mg X.base k x ps sp)(hr:Room k X.A)(ha:PA X (e::es) t)(hg:Gl X x:=by rfl)(hs:(e::es).all aR=true:=by rfl)(hdb:(x==("__debug__":Str))=false:=by decide) :
  PE X (.Call (.Name x p) (e::es) [] pos) (rk sp [] E0 t):=by
 rw[List.all_cons,Zz]at hs;exact Hb F hr ha hg hdb (aU hs.1) (bz hs.2)
end
open PySem PySem.Spec PyProof.Rows
structure QE(X:Cx)(e:Expr)(t:TE):Prop where
 h:PE X e t
structure QT(X:Cx)(e:Expr)(t:TT):Prop where
 h:PT X e t
structure QW(X:Cx)(e:Expr)(t:TT):Prop where
 h:PW X e t
structure QA(X:Cx)(es:List Expr)(t:TA):Prop where
 h:PA X es t
structure QS(X:Cx)(st:Stmt)(t:TS):Prop where
 h:PS X st t
structure QB(X:Cx)(st:List Stmt)(t:TS):Prop where
 h:PSs X st t
structure QG(X:Cx)(tg:Expr)(g:TG):Prop where
 h:PG X tg g
structure QGs(X:Cx)(ts:List Expr)(g:TGs):Prop where
 h:PGs X ts g
structure QI(X:Cx)(tg iter:Expr)(wi:TI):Prop where
 h:PI X tg iter wi
structure QIf(X:Cx)(ifs:List Expr)(t:TT):Prop where
 h:oh X ifs t
structure QO(X:Cx)(e:Option Expr)(t:TO):Prop where
 h:PO X e t
structure QOp(X:Cx)(f:Value->Value->Sem Value)(r:R2):Prop where
 h:OpR X f r
structure QCall(X:Cx)(f:Value)(r:List V->Hp->VK->Prop):Prop where
 h:df X f r
structure QIx(X:Cx)(r:R2):Prop where
 h:IxR X r
structure QSl(X:Cx)(r:V->Option Int->Option Int->Hp->VK->Prop):Prop where
 h:SlR X r
structure QSet(X:Cx)(t:rG):Prop where
 h:AK X t
structure QUn(X:Cx)(f:Value->Sem Value)(r:V->Hp->VK->Prop):Prop where
 h:UnR X f r
structure QIp(X:Cx)(op:Operator)(t:TIp):Prop where
 h:PIp X op t
section
variable{X:Cx}{pos p:Pos}{e a b c o:Expr}{es rest:List Expr}{te ta tb tc:TE}{t:TA}{tA tB':TT}{x:Str}
theorem q_v(i:Nat){x:Str}{pos:Pos}(hN:X.N[i]?=some x:=by rfl)(hv:Vis X.env.scope x:=by first|exact Or.inl rfl|exact Or.inr (Or.inl rfl)|exact Or.inr (Or.inr rfl))(hd:(x==("__debug__":Str))=false:=by decide)(hcd:(x==("__classdict__":Str))=false:=by decide):QE X (.Name x pos) (mi i):=⟨Fy hN hv hd hcd⟩
theorem am{i:Int}{j:Nat}:QE X (.Constant (.int i) j pos) (tC (.int i)):=⟨Fo⟩
theorem bR{i:Bool}{j:Nat}:QE X (.Constant (.bool i) j pos) (tC (.bl i)):=⟨G9⟩
theorem ng{j:Nat}:QE X (.Constant .none j pos) (tC .non):=⟨Fs⟩
theorem dL{i:Str}{j:Nat}:QE X (.Constant (.str i) j pos) (tC (.str i)):=⟨Fv⟩
theorem hV{T:String}(hm:X.mg x=none)(hv:bootBuiltins x=some (.type T))(hg:Gl X x:=by rfl)(hn:x≠"__name__":=by decide)(hd:(x==("__debug__":Str))=false:=by decide):QE X (.Name x pos) (tC (.ty T)):=⟨Dw hg hm hv rfl hn hd⟩
theorem sR{i:Int}{tk:Tok}(hm:X.mg x=some (.int i tk))(hg:Gl X x:=by rfl)(hd:(x==("__debug__":Str))=false:=by decide):QE X (.Name x pos) (tC (.int i)):=⟨pA hg hm ⟨_,rfl⟩ hd⟩
theorem aP{op:Operator}{r:R2}(ho:QOp X (binaryOp op) r)(ha:QE X a ta)(hb:QE X b tb):QE X (.BinOp a op b pos) (tOp r ta tb):=⟨Hd ho.h ha.h hb.h⟩
theorem Id{op:UnaryOp}{r:V->Hp->VK->Prop}(ho:QUn X (unaryOp op) r)(ha:QE X a ta):QE X (.UnaryOp op a pos) (tUn r ta):=⟨Hf ho.h ha.h⟩
theorem cw{op}(h:QE X a ta):QE X (.BoolOp op [a] pos) ta:=⟨Fu h.h⟩
theorem cu(ha:QE X a ta)(hb:QE X (.BoolOp .And (b::rest) pos) tb):QE X (.BoolOp .And (a::b::rest) pos) (CF ta tb):=⟨Fj ha.h hb.h⟩
theorem FW(ha:QE X a ta)(hb:QE X (.BoolOp .Or (b::rest) pos) tb):QE X (.BoolOp .Or (a::b::rest) pos) (Gs ta tb):=⟨He ha.h hb.h⟩
theorem Hj(ha:QE X a ta):QE X (.UnaryOp .Not a pos) (CJ ta):=⟨Ft ha.h⟩
theorem bX{op:CmpOp}{r:R2}(ho:QOp X (compareOp op) r)(ha:QE X a ta)(hb:QE X b tb)(hm:behindInMarks op b=false:=by first|exact yZ _|with_unfolding_all rfl):QE X (.Compare a [op] [b] pos) (tOp r ta tb):=⟨Dy ho.h ha.h hb.h hm⟩
theorem DU{op op':CmpOp}{r r':R2}(ho:QOp X (compareOp op) r)(ho':QOp X (compareOp op') r')(ha:QE X a ta)(hb:QE X b tb)(hc:QE X c tc)(hm:lastMarks [op,op'] [b,c]=false:=by with_unfolding_all rfl) :
  QE X (.Compare a [op,op'] [b,c] pos) (nQ r r' ta tb tc):=⟨Bw ho.h ho'.h ha.h hb.h hc.h hm⟩
theorem Ic(hc:QT X c tA)(ha:QE X a ta)(hb:QE X b tb):QE X (.IfExp c a b pos) (tIf tA ta tb):=⟨Bz hc.h ha.h hb.h⟩
theorem kH(h:QA X es t):QE X (.List es pos) (Gp t):=⟨Fp h.h⟩
theorem bA{x1}(h:QA X es t):QE X (.Tuple es x1 pos) (B0 t):=⟨Fw h.h⟩
theorem aA{r:R2}(hr:QIx X r)(ha:QE X a ta)(hb:QE X b tb)(hs:uO b:=by intro _ _;rfl):QE X (.Subscript a b pos) (tOp r ta tb):=⟨Hc hr.h ha.h hb.h hs⟩
theorem pC{r:V->Option Int->Option Int->Hp->VK->Prop}{lo hi:Option Expr}{tl th:TO}{p2:Pos}(hr:QSl X r)(he:QE X e te)(hl:QO X lo tl)(hu:QO X hi th):QE X (.Subscript e (.Slice lo hi none p2) pos) (tSl r te tl th):=⟨BB hr.h he.h hl.h hu.h⟩
theorem sV:QO X none vW:=⟨DI⟩
theorem lX(h:QE X e te):QO X (some e) (CL te):=⟨DJ h.h⟩
theorem aj:QA X [] im:=⟨zq⟩
theorem q_a(ha:QE X e te)(hr:QA X es t)(hs:aR e=true:=by rfl):QA X (e::es) (fD te t):=⟨pa ha.h hr.h hs⟩
theorem q_B{id:String}{r:List V->Hp->VK->Prop}(hc:QCall X (.builtin id) r)(hm:X.mg x=none)(hv:bootBuiltins x=some (.builtin id))(ha:QA X (e::es) t)(hg:Gl X x:=by rfl)(hs:(e::es).all aR=true:=by rfl)(hn:x≠"__name__":=by decide)(hdb:(x==("__debug__":Str))=false:=by decide) :
  QE X (.Call (.Name x p) (e::es) [] pos) (tCB r t):=⟨pB hc.h hm hv ha.h hg hs hn hdb⟩
theorem sQ{T:String}{r:List V->Hp->VK->Prop}(hc:QCall X (.type T) r)(hm:X.mg x=none)(hv:bootBuiltins x=some (.type T))(ha:QA X (e::es) t)(hg:Gl X x:=by rfl)(hs:(e::es).all aR=true:=by rfl)(hn:x≠"__name__":=by decide)(hdb:(x==("__debug__":Str))=false:=by decide) :
  QE X (.Call (.Name x p) (e::es) [] pos) (tCB r t):=⟨pTy hc.h hm hv ha.h hg hs hn hdb⟩
theorem aF{k:Nat}{ps:List Str}{sp:Sp}(F:Fn X.prog X.w X.K X.mg X.base k x ps sp)(hr:Room k X.A)(ha:QA X (e::es) t)(hg:Gl X x:=by rfl)(hs:(e::es).all aR=true:=by rfl)(hdb:(x==("__debug__":Str))=false:=by decide) :
  QE X (.Call (.Name x p) (e::es) [] pos) (rk sp [] E0 t):=⟨pfn F hr ha.h hg hs hdb⟩
theorem aS{op:CmpOp}{r:R2}(ho:QOp X (compareOp op) r)(ha:QE X a ta)(hb:QE X b tb)(hm:behindInMarks op b=false:=by first|exact yZ _|with_unfolding_all rfl):QT X (.Compare a [op] [b] pos) (nR (tOp r ta tb)):=⟨DQ ho.h ha.h hb.h hm⟩
theorem Eh{op op':CmpOp}{r r':R2}(ho:QOp X (compareOp op) r)(ho':QOp X (compareOp op') r')(ha:QE X a ta)(hb:QE X b tb)(hc:QE X c tc)(hm:lastMarks [op,op'] [b,c]=false:=by with_unfolding_all rfl) :
  QT X (.Compare a [op,op'] [b,c] pos) (nR (nQ r r' ta tb tc)):=⟨BJ ho.h ho'.h ha.h hb.h hc.h hm⟩
theorem bY(ha:QT X a tA):QT X (.UnaryOp .Not a pos) (Gr tA):=⟨FO ha.h⟩
theorem bJ(h:QE X e te)(he:∀whole,isTrue e X.env whole=(do let v ←whole;standAt e.pos;holding [v] (truthy v)):=by intro _;rfl):QT X e (tB te):=⟨FP h.h he⟩
theorem nV(ha:QT X a tA):QW X (.BoolOp .And [a] pos) tA:=⟨DS ha.h⟩
theorem eX(ha:QT X a tA):QW X (.BoolOp .Or [a] pos) tA:=⟨FS ha.h⟩
theorem rq(ha:QT X a tA)(hb:QW X (.BoolOp .And (b::rest) pos) tB'):QW X (.BoolOp .And (a::b::rest) pos) (Gk tA tB'):=⟨FR ha.h hb.h⟩
theorem fR(ha:QT X a tA)(hb:QW X (.BoolOp .Or (b::rest) pos) tB'):QW X (.BoolOp .Or (a::b::rest) pos) (tOr tA tB'):=⟨Hh ha.h hb.h⟩
theorem t_w(h:QW X e tA):QT X e tA:=⟨h.h.pt⟩
end
section
variable{X:Cx}{pos:Pos}{tg iter elt:Expr}{ifs:List Expr}{g:TG}{gs:TGs}{tc:TT}{te:TE}{scope:Scope}{cap:List Nat}{capN own:List Str}{wi:TI}
theorem aL{i:Nat}{x:Str}(hN:X.N.Nodup)(hi:X.N[i]?=some x:=by rfl)(hx:Loc X.env.scope x:=by first|exact Or.inl rfl|exact Or.inr rfl)(hf:X.fn x=true\/X.env.scope.names.lookup x=some .local:=by first|exact .inl rfl|exact .inr rfl):QG X (.Name x pos) (bw i):=⟨DE hN hi hx hf⟩
theorem sh:QGs X [] lJ:=⟨DF⟩
theorem hJ{e:Expr}{es:List Expr}(h1:QG X e g)(h2:QGs X es gs)(hs:(assignEach (e::es) X.env).map (·.2)=assign e X.env::(assignEach es X.env).map (·.2):=by rfl):QGs X (e::es) (fB g gs):=⟨BC h1.h h2.h hs⟩
theorem wL{es:List Expr}{k n:Nat}(hc:X.calm=true)(h:QGs X es gs)(hn:(assignEach es X.env).length=n:=by rfl)(hst:(assignEach es X.env).findIdx? (·.1)=none:=by rfl):QG X (.Tuple es k pos) (lK X.K n gs):=⟨FB hc h.h hn hst⟩
theorem Cg{o i:Expr}{to ti:TE}{t:rG}(ho:QE X o to)(hi:QE X i ti)(hs:QSet X t)(ha:∀ v,assign (.Subscript o i pos) X.env v=(do
   let ov ←holding [v] (eval o X.env)
   let iv ←holding [v,ov] (eval i X.env)
   standAt pos
   holding [v,ov,iv] (setItem ov iv v)
   release [v,ov,iv] []):=by intro _;rfl):QG X (.Subscript o i pos) (EK to ti t):=⟨FA ho.h hi.h hs.h ha⟩
theorem fE{l:Expr}(hl:QE X l te):QI X tg l (Cj X.K te):=⟨DH hl.h⟩
theorem Cl{l:Expr}(hl:QE X l te):QI X tg l (EN X.K te):=⟨FD hl.h⟩
theorem jt{a:Expr}{ta:TA}{p:Pos}(hm:X.mg "range" = none)(ha:QA X [a] ta)(hg:Gl X "range":=by rfl)(hs:aR a=true:=by rfl):QI X tg (.Call (.Name "range" p) [a] [] pos) (Ck ta):=⟨zA hg hm ha.h (aU hs)⟩
theorem gj:QIf X [] eW:=⟨BF⟩
theorem oJ{c:Expr}{t:TT}(h:QT X c t):QIf X [c] t:=⟨BG h.h⟩
theorem bS(O:CompOk X scope cap capN)(hc:X.calm=true)(hi:QI X tg iter wi)(hg:∀C s0 H0 ex,QG (aQ X scope (own++capN) C s0 H0 ex) tg g)(gk:GK own.length g)(ht:∀C s0 H0 ex,QIf (aQ X scope (own++capN) C s0 H0 ex) ifs tc)(he:∀C s0 H0 ex,QE (aQ X scope (own++capN) C s0 H0 ex) elt te)(hs:∀x,foldedSetIterable iter X.env x=pure x:=by intro _;rfl):QE X (.ListComp elt [⟨tg,iter,ifs,0⟩] scope pos) (rm own.length cap wi g tc te) :=
 ⟨Dz O hc hi.h (fun C s0 H0 ex=>(hg C s0 H0 ex).h) gk (fun C s0 H0 ex=>(ht C s0 H0 ex).h) (fun C s0 H0 ex=>(he C s0 H0 ex).h) hs⟩
variable{st:Stmt}{rest:List Stmt}{t u:TS}{e c:Expr}
theorem b_0:QB X [] xQ:=⟨DO⟩
theorem b_1(h:QS X st t):QB X [st] t:=⟨DP h.h⟩
theorem b_c(h1:QS X st t)(h2:QB X rest u):QB X (st::rest) (BZ t u):=⟨BI h1.h h2.h⟩
theorem aw(h:QE X e te):QS X (.Return (some e) pos) (Gu te):=⟨FL h.h⟩
theorem nj(h:QE X e te)(hs:swapsWith e none pos.line X.env=pure false:=by rfl):QS X (.Expr e pos) (xO te):=⟨DM h.h hs⟩
theorem aZ{body els:List Stmt}(hc:QT X c tc)(ht:QB X body t)(hu:QB X els u):QS X (.If c body els pos) (BY tc t u):=⟨Hg hc.h ht.h hu.h⟩
theorem aM{i:Nat}{x:Str}{pos':Pos}(hN:X.N.Nodup)(he:QE X e te)(hi:X.N[i]?=some x:=by rfl)(hx:Loc X.env.scope x:=by first|exact Or.inl rfl|exact Or.inr rfl)(hs:swapsWith e (some (.Name x pos')) pos.line X.env=pure false:=by rfl)(hf:X.fn x=true\/X.env.scope.names.lookup x=some .local:=by first|exact .inl rfl|exact .inr rfl):QS X (.Assign [.Name x pos'] e pos) (pX te (bw i)):=⟨FM hN hi hx he.h hs hf⟩
theorem zR{j:Nat}{y:Str}{py spos:Pos}(hN0:X.N.Nodup)(O:CompOk X scope cap capN)(hc:X.calm=true)(hi:QI X tg iter wi)(hg:∀C s0 H0 ex,QG (aQ X scope (own++capN) C s0 H0 ex) tg g)(gk:GK own.length g)(ht:∀C s0 H0 ex,QIf (aQ X scope (own++capN) C s0 H0 ex) ifs tc)(he:∀C s0 H0 ex,QE (aQ X scope (own++capN) C s0 H0 ex) elt te)(hj:X.N[j]?=some y:=by rfl)(hy:Loc X.env.scope y:=by first|exact Or.inl rfl|exact Or.inr rfl)(hsw:swapsWith (.ListComp elt [⟨tg,iter,ifs,0⟩] scope pos) (some (.Name y py)) spos.line X.env=pure true:=by rfl)(hs:∀x,foldedSetIterable iter X.env x=pure x:=by intro _;rfl)(hf:X.fn y=true\/X.env.scope.names.lookup y=some .local:=by first|exact .inl rfl|exact .inr rfl) :
  QS X (.Assign [.Name y py] (.ListComp elt [⟨tg,iter,ifs,0⟩] scope pos) spos) (pX (rm own.length cap wi g tc te) (bw j)) :=
 ⟨DN hN0 hj hy O hc hi.h (fun C s0 H0 ex=>(hg C s0 H0 ex).h) gk (fun C s0 H0 ex=>(ht C s0 H0 ex).h) (fun C s0 H0 ex=>(he C s0 H0 ex).h) hsw hs hf⟩
theorem xC(he:QE X e te)(hg:QG X tg g)(hs:swapsWithSole [tg] e pos.line X.env=pure false:=by rfl)(hw:swappedStores [tg] e X.env=pure none:=by rfl)(h1:(assignEach [tg] X.env).map (·.2)=[assign tg X.env]:=by rfl):QS X (.Assign [tg] e pos) (pX te g):=⟨FH he.h hg.h hs hw h1⟩
theorem Hn{i:Nat}{x:Str}{op:Operator}{ti:TIp}{pos':Pos}(hN:X.N.Nodup)(he:QE X e te)(ho:QIp X op ti)(hi:X.N[i]?=some x:=by rfl)(hx:Loc X.env.scope x:=by first|exact Or.inl rfl|exact Or.inr rfl)(hf:X.fn x=true\/X.env.scope.names.lookup x=some .local:=by first|exact .inl rfl|exact .inr rfl) :
  QS X (.AugAssign (.Name x pos') op e pos) (Gm i te ti):=⟨FI hN hi hx he.h ho.h hf⟩
theorem eQ{body:List Stmt}(hp:PassesOwn (model X.prog X.w) X.A X.env X.xe)(hc:X.calm=true)(hi:QI X tg iter wi)(hg:QG X tg g)(hb:QB X body t)(hs:∀x,foldedSetIterable iter X.env x=pure x:=by intro _;rfl):QS X (.For tg iter body [] pos) (Go wi g t):=⟨FK hp hc hi.h hg.h hb.h hs⟩
theorem DZ{body:List Stmt}(hp:PassesOwn (model X.prog X.w) X.A X.env X.xe)(hc:QT X c tc)(hb:QB X body t):QS X (.While c body [] pos) (Ap tc t):=⟨BH hp hc.h hb.h⟩
end
theorem Fun.okQ{P:Program}{w:World}{K:PySem.W.Frag}{mg:Str->Option Value}{base:Heap}{x qual:Str}{st:Stmt}{f:Addr}{fd:FuncData}{N ps:List Str}{k:Nat}{sp:Sp}(F:Fun K x qual st f fd)(S:FnScope N ps (aq st))(len:∀ vs H Q E,sp vs H Q E->vs.length=ps.length)(hbody:∀ (cdv:Value) (A:Around) (outer:List Env) (s:Shared) (H:Hp) (vs:List V) (Q:VK) (E:XK),Room k (A.deeper (envOfC qual (aq st) s.heap.objs.size f cdv))->sp vs H Q E ->
   ∃ t,QB (dO CX0 P w K mg base N qual (aq st) f cdv A outer s H E).nox (bt st) t/\t { nx:=fun _ H'=>Q .non H',rt:=Q } (start N vs) H):FnOk P w K mg base CX0 (k+1) f fd ps sp :=
 F.ok S len fun cdv A outer s H vs Q E hr hsp=>let⟨t,h,q⟩:=hbody cdv A outer s H vs Q E hr hsp;⟨t,h.h,q⟩
section
variable{X:Cx}
theorem eI:QOp X (binaryOp .Add) (rI0 fun i j=>.int (i+j)):=⟨Fb⟩
theorem xj:QOp X (binaryOp .Sub) (rI0 fun i j=>.int (i-j)):=⟨Fh⟩
theorem rg:QOp X (binaryOp .Mult) (rI CMul fun i j=>.int (i*j)):=⟨Ff⟩
theorem gB:QOp X (binaryOp .FloorDiv) (rI Er fun i j=>.int (i / j)):=⟨Dp⟩
theorem cV:QOp X (binaryOp .Mod) (rI (fun _ j=>0<j) fun i j=>.int (i%j)):=⟨Fe⟩
theorem G0:QOp X (binaryOp .Add) FX:=⟨Fc⟩
theorem eJ:QOp X (compareOp .Eq) rEq:=⟨G3⟩
theorem jC:QOp X (compareOp .NotEq) rNe:=⟨G8⟩
theorem oZ:QOp X (compareOp .Lt) (rI0 fun i j=>.bl (decide (i<j))):=⟨G7⟩
theorem oY:QOp X (compareOp .LtE) (rI0 fun i j=>.bl (decide (i<=j))):=⟨G6⟩
theorem xh:QOp X (compareOp .Gt) (rI0 fun i j=>.bl (decide (j<i))):=⟨G5⟩
theorem Bj:QOp X (compareOp .GtE) (rI0 fun i j=>.bl (decide (j<=i))):=⟨G4⟩
theorem Ct:QOp X (compareOp .Is) (fun x y H Q=>y=.non/\Q (.bl (decide (x=.non))) H):=⟨Fd⟩
theorem Hv:QUn X (unaryOp .USub) (rU fun i=>.int (-i)):=⟨GA⟩
theorem dH:QIx X (BN X.K):=⟨C7⟩
theorem aC:QIx X (xz X.K):=⟨ES⟩
theorem EY:QSl X (Ga X.K):=⟨Eb⟩
theorem CD:QSet X Cz:=⟨BW⟩
theorem bG:QCall X (.builtin "len") (fun xs H Q=>∃p ys,xs=[.ref p]/\(SqL X.K H p ys\/SqT X.K H p ys)/\Q (.int ys.length) H):=⟨rN⟩
theorem fw:QCall X (.builtin "isinstance") (fun xs H Q=>∃x T t b,xs=[x,.ty T]/\TyOf X.K H x t/\PySem.W.kitOne X.K t (.type T)=some b/\Q (.bl b) H):=⟨AW⟩
theorem jZ(hc:X.calm=true):QCall X (.builtin "all") (fun xs H Q=>∃(p:Addr) (bs:List Bool),xs=[.ref p]/\SqL X.K H p (bs.map V.bl)/\Q (.bl (bs.all id)) H):=⟨AV hc⟩
theorem GN(hc:X.calm=true):QCall X (.builtin "max") (fun xs H Q=>∃i j,xs=[.int i,.int j]/\Q (.int (if j>i then j else i)) H):=⟨yi hc⟩
theorem GO:QCall X (.type "tuple") (fun xs H Q=>∃p ys,xs=[.ref p]/\((SqL X.K H p ys/\∀l,H l=none->Q (.ref l) (upd H l (.tup ys)))\/(SqT X.K H p ys/\Q (.ref p) H))):=⟨qN⟩
theorem GL:QCall X (.type "int") (fun xs H Q=>(∃i,xs=[.int i]/\Q (.int i) H)\/∃k,xs=[.bl k]/\Q (.int (if k then 1 else 0)) H):=⟨yh⟩
theorem HX:QIp X .Add (ipI fun i j=>i+j):=⟨ER⟩
end
open PySem PySem.Spec PyProof.Rows
mutual
def Dt(H:Hp):PyData->V->Prop
 |.none,v=>v=.non
 |.bool b,v=>v=.bl b
 |.int i,v=>v=.int i
 |.str x,v=>v=.str x
 |.list ds,v=>∃a xs,v=.ref a/\Rd H a (.lst xs)/\DtAll H ds xs
 |.tuple ds,v=>∃a xs,v=.ref a/\Rd H a (.tup xs)/\DtAll H ds xs
 |.dict _,_=>False
def DtAll(H:Hp):List PyData->List V->Prop
 | [],xs=>xs=[]
 |d::ds,xs=>∃y ys,xs=y::ys/\Dt H d y/\DtAll H ds ys
end
section
variable{P:Program}{w:World}{H:Hp}{h:Heap}
mutual
theorem Dt.reads(ok:HOk P w H h):∀(d:PyData) (x:V) (v:Value),Dt H d x->RelV x v->∃as,Reads h v d as
 |.none,x,v,e,r=>by
  have e':x=.non:=by simpa only[Dt]using e
  subst e';cases r;exact⟨_,.none⟩
 |.bool b,x,v,e,r=>by
  have e':x=.bl b:=by simpa only[Dt]using e
  subst e';cases r;exact⟨_,.bool b⟩
 |.int i,x,v,e,r=>by
  have e':x=.int i:=by simpa only[Dt]using e
  subst e';obtain⟨t,rfl⟩:=r;exact⟨_,.int i t⟩
 |.str z,x,v,e,r=>by
  have e':x=.str z:=by simpa only[Dt]using e
  subst e';obtain⟨t,rfl⟩:=r;exact⟨_,.str z t⟩
 |.list ds,x,v,e,r=>by
  have e':∃a xs,x=.ref a/\Rd H a (.lst xs)/\DtAll H ds xs:=by simpa only[Dt]using e
  obtain⟨a,xs,rfl,hr,hd⟩:=e';cases r;obtain⟨_,its,n,rv,eo⟩:=hr.ok ok;obtain⟨as,q⟩:=DtAll.reads ok ds xs its hd rv;exact⟨_,.list eo rfl rfl (by simpa using q)⟩
 |.tuple ds,x,v,e,r=>by
  have e':∃a xs,x=.ref a/\Rd H a (.tup xs)/\DtAll H ds xs:=by simpa only[Dt]using e
  obtain⟨a,xs,rfl,hr,hd⟩:=e';cases r;obtain⟨_,its,rv,o,eo,hc,n,hs⟩:=hr.ok ok;obtain⟨as,q⟩:=DtAll.reads ok ds xs its hd rv;exact⟨_,.tuple eo hc hs (by simpa using q)⟩
 |.dict kvs,x,v,e,r=>by
  have e':False:=by simpa only[Dt]using e
  exact e'.elim
theorem DtAll.reads(ok:HOk P w H h):∀(ds:List PyData) (xs:List V) (vs:List Value),DtAll H ds xs->Vals xs vs->∃as,ReadsAll h vs ds as
 | [],xs,vs,e,r=>by
  have e':xs=[]:=by simpa only[DtAll]using e
  subst e';cases r;exact⟨_,.nil⟩
 |d::ds,xs,vs,e,r=>by
  have e':∃y ys,xs=y::ys/\Dt H d y/\DtAll H ds ys:=by simpa only[DtAll]using e
  obtain⟨y,ys,rfl,h1,h2⟩:=e';cases r with
  |cons r1 r2 =>obtain⟨as,q1⟩:=Dt.reads ok d y _ h1 r1;obtain⟨bs,q2⟩:=DtAll.reads ok ds ys _ h2 r2;exact⟨_,.cons q1 q2⟩
end
end
theorem io{H:Hp}:∀(ns:List Int),DtAll H (ns.map PyData.int) (ns.map V.int)
 | []=>by simp only[List.map_nil,DtAll]
 |n::ns=>by simp only[Z0,DtAll];exact⟨_,_,rfl,by simp only[Dt],io ns⟩
section
variable{X:Cx}
def FY:R2:=fun x y H Q=>∃dx dy,Dt H dx x/\Dt H dy y/\SeqAt.shaped dx=true/\SeqAt.shaped dy=true/\Q (.bl (PyData.eqv dx dy)) H
def F8:R2:=fun x y H Q=>∃dx dy,Dt H dx x/\Dt H dy y/\SeqAt.shaped dx=true/\SeqAt.shaped dy=true/\Q (.bl (!PyData.eqv dx dy)) H
theorem zn(hu:X.A.units+64<cLine):OpR X (compareOp .Eq) FY:=by intro pins s σ H x y v u Q I rx ry h;obtain⟨dx,dy,h1,h2,s1,s2,q⟩:=h;obtain⟨as,r1⟩:=Dt.reads I.hok dx x v h1 rx;obtain⟨bs,r2⟩:=Dt.reads I.hok dy y u h2 ry;exact eq_dataH r1 r2 s1 s2 hu ⟨.bl _,H,I,rfl,q⟩
theorem zo(hu:X.A.units+64<cLine):OpR X (compareOp .NotEq) F8:=by intro pins s σ H x y v u Q I rx ry h;obtain⟨dx,dy,h1,h2,s1,s2,q⟩:=h;obtain⟨as,r1⟩:=Dt.reads I.hok dx x v h1 rx;obtain⟨bs,r2⟩:=Dt.reads I.hok dy y u h2 ry;exact ne_dataH r1 r2 s1 s2 hu ⟨.bl _,H,I,rfl,q⟩
theorem Cs(hu:X.A.units+64<cLine):QOp X (compareOp .Eq) FY:=⟨zn hu⟩
theorem xi(hu:X.A.units+64<cLine):QOp X (compareOp .NotEq) F8:=⟨zo hu⟩
end
section
variable{X:Cx}
variable{o e:Expr}{to te:TE}{apos cpos:Pos}
theorem Cv(ho:QE X o to)(he:QE X e te)(hs:aR e=true:=by rfl)(hbase:attributeBase o "append" X.env (eval o X.env)=eval o X.env:=by rfl)(hline:(apos.endLine==cpos.line)=true:=by rfl) :
  QE X (.Call (.Attribute o "append" apos) [e] [] cpos) (tBM X.K "list" pD to (fD te im)):=by
 have h1:=aU (es:=[]) (env:=X.env) hs;have h2:starEach ([]:List Expr) X.env=[]:=rfl;refine⟨Ha PySem.F.plainAttrs_list PySem.F.slot_list_append PySem.F.type_list_append yY ho.h (pa he.h zq hs) hbase ?_ hline h1 (by rw[h2];rfl)⟩;rw[h1,h2];rfl
end
open PySem PySem.Spec PyProof.Rows
theorem wS{i j:Int}{A B:Prop}(h1:i=j->A)(h2:i≠j->B):if decide (V.int i=V.int j)=true then A else B:=by
 by_cases h:i=j
 ·rw[Jv (decide_eq_true (by rw[h]))];exact h1 h
 ·rw[Ju (by rw[decide_eq_false (fun z=>h (by injection z))];exact Zr)];exact h2 h
theorem qZ{i j:Int}{A B:Prop}(h1:i≠j->A)(h2:i=j->B):if(!decide (V.int i=V.int j))=true then A else B:=by
 by_cases h:i=j
 ·rw[Ju (by rw[decide_eq_true (by rw[h])];decide)];exact h2 h
 ·rw[Jv (by rw[decide_eq_false (fun z=>h (by injection z))];rfl)];exact h1 h
theorem jg{H H':Hp}{p:Addr}{o:HO}(e:Same H H')(h:H p=none):Same H (upd H' p o):=fun b u q=>by rw[ad (al q h)];exact e _ _ q
theorem oO{H:Hp}{v:V}(h:isT H v=true):∃a xs,v=.ref a/\H a=some (.tup xs):=by
 cases v with
 |ref a =>
  have h':wQ (H a)=true:=h;cases e:H a with
  |none=>rw[e]at h';cases h'
  |some o =>
   cases o with
   |tup xs=>exact⟨a,xs,rfl,e⟩
   |_=>rw[e]at h';cases h'
 |_=>cases h
theorem mw(f:V->Bool)(xs:List V):(((List.range xs.length).map fun i=>f ((xs[i]?).getD .non)).all id)=xs.all f:=by
 rw[List.all_map];have e:((List.range xs.length).all (id∘fun i=>f ((xs[i]?).getD .non)))=xs.all f:=by
  rw[YG,y6,y6];constructor
  ·intro h x hx;obtain⟨i,hi,rfl⟩:=List.getElem_of_mem hx;have:=h i (ZV.mpr hi);simpa[hi]using this
  ·intro h i hi;have hi':=ZV.mp hi;have:=h _ (ZA hi');simpa[hi']using this
 exact e
def ag(ns:List Int)(k:Nat):Int:=(ns[k]?).getD 0
theorem cg{ns:List Int}{k:Int}(h0:0<=k)(h1:k<ns.length):atI (ns.map V.int) k=some (.int (ag ns k.toNat)):=by
 have hk:k.toNat<ns.length:=by omega
 have ek:k=((k.toNat:Nat):Int):=by omega
 have q:atI (ns.map V.int) ((k.toNat:Nat):Int)=some (.int ns[k.toNat]):=eZ (by rw[ZB,Zd hk]<;>rfl);rw[<-ek]at q;rw[q];unfold ag;rw[Zd hk];rfl
theorem AX{ns:List Int}{k:Int}(h0:0<=k)(h1:¬k<ns.length):ag ns k.toNat=0:=by unfold ag;rw[List.getElem?_eq_none (by omega)];rfl
def Asked(K:PySem.W.Frag)(H:Hp)(v:V):Prop :=
 (∃n,TyOf K H v (.type n))/\∀a xs,v=.ref a->H a=some (.tup xs)->xs.length<=1000/\∀x∈xs,∃m,TyOf K H x (.type m)
theorem Asked.same{K:PySem.W.Frag}{H H':Hp}{v:V}(h:Asked K H v)(e:Same H H'):Asked K H' v:=by
 obtain⟨⟨n,ty⟩,h2⟩:=h;refine⟨⟨n,cC e ty⟩,fun a xs hv hx=>?_⟩;subst hv;have q:H a=some (.tup xs):=by
  cases ty with
  |lst q=>rw[e _ _ q]at hx;cases hx
  |frz q=>rw[e _ _ q]at hx;cases hx
  |tup q=>rw[e _ _ q]at hx;cases hx;exact q
  |dK q=>rw[e _ _ q]at hx;cases hx
  |dT q=>rw[e _ _ q]at hx;cases hx
 obtain⟨l,k⟩:=h2 a xs rfl q;exact⟨l,fun x hm=>let⟨m,t⟩:=k x hm;⟨m,cC e t⟩⟩
theorem pZ{K:PySem.W.Frag}{H:Hp}{a:Addr}{xs:List V}(h:H a=some (.tup xs))(hl:xs.length<=1000)(hx:∀ x∈xs,∃ m,TyOf K H x (.type m)):Asked K H (.ref a):=⟨⟨_,.tup h⟩,fun b ys e z=>by
 cases e;rw[h]at z;cases z;exact⟨hl,hx⟩⟩
open PySem PySem.Spec PyProof.Rows
section
variable{prog:Program}{w:World}{A:Around}
theorem fz(calm:A.handled=none)(it t:Addr)(apart:t≠it)(xs:Array Value) :
  Draws prog w A it [it,t] xs.size (fun i v=>xs[i]?=some v) (fun i h=>h.IsTupleIter it t i/\h.IsTuple t xs) where
 live:=fun _ _ q=>let⟨o,eo,_⟩:=q.1;⟨o,eo⟩
 frame:=fun _ _ _ q kp=>⟨let⟨o,eo,r⟩:=q.1;⟨o,kp it (by simp) o eo,r⟩,let⟨o,eo,r⟩:=q.2;⟨o,kp t (by simp) o eo,r⟩⟩
 item:=fun i s Q E lt q cont=>by
  have ei:xs[i]?=some xs[i]:=by simp[lt]
  obtain⟨o,eo,ec,ed⟩:=id q.1;obtain⟨p,ep,_,np,edp⟩:=id q.2;have ty:=q.1.typeIs;unfold Builtin.SmallTypes.nextOf;refine z6 (ZS (name:=Str.ofString "__next__") ty F.slot_tuple_iterator_next (ZR F.slot_tuple_iterator_next ty F.entry_tuple_iterator_next ?_ (F.args_tuple_iterator_next_1 _)));show wpAny _ _ (field (.ref it) 0 >>= _) _ _ s;refine z6 (Z2 eo ed (x:=.ref t) rfl ?_);show wpAny _ _ (if(Value.ref t==Value.none)=true then _ else _) _ _ s;rw[Ju (show¬((Value.ref t==Value.none)=true)from Zr)];show wpAny _ _ (field (.ref it) 1 >>= _) _ _ s;refine z6 (Z2 eo ed (x:=.int i 0) rfl ?_);show wpAny _ _ (seqItems? (.ref t) >>= _) _ _ s;refine z6 (Y2 ep edp ?_);simp only[Z7,ei];have sb:=ZK s.heap it (fun ob=>ob.mapFields fun fs=>fs.setIfInBounds 1 (rawInt (i+1)));refine z6 (YC eo ed (by simp) (Za ⟨xs[i],rfl,Za (cont _ _ s.toks ei ⟨?_,?_⟩ (ZK ..))⟩))
  ·exact⟨_,Yi _ eo (Y3 (Ye ed _)),(Obj.cls_mapFields ..).trans ec,by rw[Ye ed];simp[rawInt]⟩
  ·exact q.2.extBut (ZK ..).extBut apart
 done:=fun s Q E q cont=>by
  have ei:xs[xs.size]?=none:=by simp
  obtain⟨o,eo,ec,ed⟩:=id q.1;obtain⟨p,ep,_,np,edp⟩:=id q.2;have ty:=q.1.typeIs;unfold Builtin.SmallTypes.nextOf;refine z6 (ZS (name:=Str.ofString "__next__") ty F.slot_tuple_iterator_next (ZR F.slot_tuple_iterator_next ty F.entry_tuple_iterator_next ?_ (F.args_tuple_iterator_next_1 _)));show wpAny _ _ (field (.ref it) 0 >>= _) _ _ s;refine z6 (Z2 eo ed (x:=.ref t) rfl ?_);show wpAny _ _ (if(Value.ref t==Value.none)=true then _ else _) _ _ s;rw[Ju (show¬((Value.ref t==Value.none)=true)from Zr)];show wpAny _ _ (field (.ref it) 1 >>= _) _ _ s;refine z6 (Z2 eo ed (x:=.int xs.size 0) rfl ?_);show wpAny _ _ (seqItems? (.ref t) >>= _) _ _ s;refine z6 (Y2 ep edp ?_);simp only[Z7,ei];refine z6 (YH (z6 (YC eo ed (by simp) ?_)));show wpAny _ _ (newExc (.type "StopIteration") [] >>= _) _ _ _;refine z6 ?_;simp only[newExc,newTuple];refine z6 (ZQ ?_ (by size_fits));refine z6 (m:=firstArgMember _ _) (wpAny_of_eq (a:=Value.none) (by first|rfl|(simp only[firstArgMember];rfl)) (ZQ ?_ (by size_fits)));simp only[raiseNew];refine z6 (wpAny_handled ?_)
  first|rw[show A.in1.handled=none from calm]|rw[calm]
  exact z6 (Za (wpAny_throw (cont _ _ (((ZK ..).extBut.push _).push _) ⟨_,Zk _ rfl,rfl⟩)))
end
structure ZAp(z u v i j:Addr)(f g:List Addr):Prop where
 uz:u≠z
 vz:v≠z
 uv:u≠v
 ui:u≠i
 uj:u≠j
 vi:v≠i
 vj:v≠j
 iz:i≠z
 jz:j≠z
 ij:i≠j
 zf:z∉f
 zg:z∉g
 vf:v∉f
 vg:v∉g
 jf:j∉f
 ig:i∉g
section
variable{prog:Program}{w:World}{A:Around}{E:Value->Shared->Prop}{s:Shared}{z u v i j:Addr}{f g:List Addr}{n m k:Nat}{P1 P2:Nat->Value->Prop}{S1 S2:Nat->Heap->Prop}{a b:Value}
def wo(z v i j:Addr)(h h':Heap):Prop:=∀c o,c≠z->c≠v->c≠i->c≠j->h.get? c=some o->h'.get? c=some o
theorem cZ{c:Addr}{f:List Addr}{d:Addr}(hc:c∈f)(hd:d∉f):c≠d:=fun e=>hd (e▸hc)
theorem B9(d1:Draws prog w A i f n P1 S1)(d2:Draws prog w A j g m P2 S2)(ap:ZAp z u v i j f g)(hz:IsZip s.heap z u v .none)(hu:IsPair s.heap u (.ref i) (.ref j))(hv:IsPair s.heap v a b)(h1:S1 k s.heap)(h2:S2 k s.heap)(l1:k<n)(l2:k<m){Q:Value->Shared->Prop}(cont:∀h' tk x y,P1 k x->P2 k y->IsZip h' z u v (rawInt s.heap.objs.size)->IsPair h' v x y->S1 (k+1) h'->S2 (k+1) h'->IsPair h' s.heap.objs.size x y->wo z v i j s.heap h'->Q (.ref s.heap.objs.size) { s with heap:=h',toks:=tk }) :
  wpAny (model prog w) A (Builtin.«zip.__next__» ⟨[.ref z],[]⟩) (fun fin s'=>∃r,fin=.done (.ret r)/\Q r s') E s:=by
 show wpAny _ _ (field (.ref z) 2 >>= _) _ _ _;refine z6 (Z2 hz rfl (x:=.bool false) rfl ?_);show wpAny _ _ (field (.ref z) 3 >>= _) _ _ _;refine z6 (Z2 hz rfl (x:=.ref u) rfl (z6 (Y2 hu rfl ?_)));show wpAny _ _ (Builtin.SmallTypes.ownedTupleIsFree (.ref z) >>= _) _ _ _;refine z6 ?_;unfold Builtin.SmallTypes.ownedTupleIsFree;refine z6 (Z2 hz rfl (x:=.none) rfl (Za ?_));simp only[if_true];refine z6 (YH (z6 (Z2 hz rfl (x:=.ref v) rfl ?_)));refine z6 (wpAny_setField_rec hz (by simp) fun q1 z1 b1=>?_)
 replace z1:IsZip q1 z u v .ellipsis:=z1
 refine z6 ?_;simp only[List.zipIdx_cons,List.zipIdx_nil,List.forIn_cons,List.forIn_nil];refine z6 (z6 (wpAny_onRaise ?_));show wpAny _ _ (Builtin.SmallTypes.nextOf (.ref i) >>= _) _ _ _;refine z6 (d1.item k { s with heap:=q1 } _ _ l1 (d1.frame _ _ _ h1 fun c hc o e=>b1.extBut c o (cZ hc ap.zf) e) fun x q2 t2 px s2 b2=>Za ?_);have v2:IsPair q2 v a b:=b2.extBut _ _ ap.vi (b1.extBut _ _ ap.vz hv);refine z6 (Y2 v2 rfl (z6 (wpAny_updateSeq_pair v2 fun q3 w3 b3=>?_)))
 replace w3:IsPair q3 v x b:=w3
 refine z6 (wpAny_letGo (Za ?_));refine z6 (z6 (wpAny_onRaise ?_));show wpAny _ _ (Builtin.SmallTypes.nextOf (.ref j) >>= _) _ _ _;refine z6 (d2.item k { s with heap:=q3,toks:=t2 } _ _ l2 (d2.frame _ _ _ h2 fun c hc o e=>b3.extBut c o (cZ hc ap.vg) (b2.extBut c o (cZ hc ap.ig) (b1.extBut c o (cZ hc ap.zg) e))) fun y q4 t4 py s4 b4=>Za ?_);have v4:IsPair q4 v x b:=b4.extBut _ _ ap.vj w3;refine z6 (Y2 v4 rfl (z6 (wpAny_updateSeq_pair v4 fun q5 w5 b5=>?_)))
 replace w5:IsPair q5 v x y:=w5
 refine z6 (wpAny_letGo (Za (Za (z6 (Y2 w5 rfl (z6 (wpAny_newTuple ?_)))))));have sz:q5.objs.size=s.heap.objs.size:=by rw[b5.1,b4.1,b3.1,b2.1,b1.1]
 have z5:IsZip q5 z u v .ellipsis:=b5.extBut _ _ ap.vz.symm (b4.extBut _ _ ap.jz.symm (b3.extBut _ _ ap.vz.symm (b2.extBut _ _ ap.iz.symm z1)));have k5:wo z v i j s.heap q5:=fun c o c1 c2 c3 c4 e=>b5.extBut _ _ c2 (b4.extBut _ _ c4 (b3.extBut _ _ c2 (b2.extBut _ _ c3 (b1.extBut _ _ c1 e))));have s5:S1 (k+1) q5:=d1.frame _ _ _ s2 fun c hc o e=>b5.extBut c o (cZ hc ap.vf) (b4.extBut c o (cZ hc ap.jf) (b3.extBut c o (cZ hc ap.vf) e));have r5:S2 (k+1) q5:=d2.frame _ _ _ s4 fun c hc o e=>b5.extBut c o (cZ hc ap.vg) e;have zlt:z<q5.objs.size:=Zn z5;show wpAny _ _ (Builtin.SmallTypes.ownedTupleHandOut (.ref z) (.ref q5.objs.size) >>= _) _ _ _;refine z6 ?_;unfold Builtin.SmallTypes.ownedTupleHandOut;refine z6 (wpAny_setField_rec (show IsZip (q5.push { cls:=.type "tuple",data:=.seq #[x,y] }) z u v .ellipsis from z9 _ z5) (by simp) fun q7 z7 b7=>?_)
 replace z7:IsZip q7 z u v (rawInt q5.objs.size):=z7
 refine wpAny_setField_rec z7 (by simp) fun q8 z8 b8=>?_
 replace z8:IsZip q8 z u v (rawInt q5.objs.size):=z8
 have up:∀c o,c≠z->q5.get? c=some o->q8.get? c=some o:=fun c o c1 e=>b8.extBut _ _ c1 (b7.extBut _ _ c1 (z9 _ e));have p8:IsPair q8 q5.objs.size x y:=b8.extBut _ _ (Yg zlt) (b7.extBut _ _ (Yg zlt) (Zk _ rfl));rw[sz]at z8 p8;refine Za ⟨_,rfl,?_⟩;show Q (.ref q5.objs.size) _;rw[sz];exact cont q8 _ x y px py z8 (up _ _ ap.vz w5) (d1.frame _ _ _ s5 fun c hc o e=>up c o (cZ hc ap.zf) e) (d2.frame _ _ _ r5 fun c hc o e=>up c o (cZ hc ap.zg) e) p8 fun c o c1 c2 c3 c4 e=>up c o c1 (k5 c o c1 c2 c3 c4 e)
theorem En(d1:Draws prog w A i f n P1 S1)(d2:Draws prog w A j g m P2 S2)(ap:ZAp z u v i j f g)(hz:IsZip s.heap z u v .none)(hu:IsPair s.heap u (.ref i) (.ref j))(hv:IsPair s.heap v a b)(h1:S1 n s.heap){Q:Fin->Shared->Prop}(cont:∀h' e,wo z v i j s.heap h'->(∃o,h'.get? e=some o/\o.cls=.type "StopIteration")->E (.ref e) { s with heap:=h' }):wpAny (model prog w) A (Builtin.«zip.__next__» ⟨[.ref z],[]⟩) Q E s:=by
 show wpAny _ _ (field (.ref z) 2 >>= _) _ _ _;refine z6 (Z2 hz rfl (x:=.bool false) rfl ?_);show wpAny _ _ (field (.ref z) 3 >>= _) _ _ _;refine z6 (Z2 hz rfl (x:=.ref u) rfl (z6 (Y2 hu rfl ?_)));show wpAny _ _ (Builtin.SmallTypes.ownedTupleIsFree (.ref z) >>= _) _ _ _;refine z6 ?_;unfold Builtin.SmallTypes.ownedTupleIsFree;refine z6 (Z2 hz rfl (x:=.none) rfl (Za ?_));simp only[if_true];refine z6 (YH (z6 (Z2 hz rfl (x:=.ref v) rfl ?_)));refine z6 (wpAny_setField_rec hz (by simp) fun q1 z1 b1=>?_)
 replace z1:IsZip q1 z u v .ellipsis:=z1
 refine z6 ?_;simp only[List.zipIdx_cons,List.zipIdx_nil,List.forIn_cons,List.forIn_nil];refine z6 (z6 (wpAny_onRaise ?_));show wpAny _ _ (Builtin.SmallTypes.nextOf (.ref i) >>= _) _ _ _;refine z6 (d1.done { s with heap:=q1 } _ _ (d1.frame _ _ _ h1 fun c hc o e=>b1.extBut c o (cZ hc ap.zf) e) fun q2 e b2 he=>?_);obtain⟨oe,hoe,hce⟩:=he;have z2:IsZip q2 z u v .ellipsis:=b2 _ _ ap.iz.symm z1;have ez:e≠z:=fun x=>by subst x;rw[z2]at hoe;cases hoe;simp at hce
 exact wpAny_setField_rec z2 (by simp) fun q3 _ b3=>cont q3 e (fun c o c1 _ c3 _ x=>b3.extBut _ _ c1 (b2 _ _ c3 (b1.extBut _ _ c1 x))) ⟨oe,b3.extBut _ _ ez hoe,hce⟩
end
section
variable{X:Cx}{pins:List (Addr×Obj)}{σ:St}{H:Hp}{s:Shared}{h':Heap}{ch:List Addr}{t':Nat}
theorem Inv.turnH{H':Hp}(I:Inv X pins σ H s)(hch:∀b∈ch,bv X pins H b)(kp:∀b o,b∉ch->s.heap.get? b=some o->h'.get? b=some o)(up:∀b u,H b=some u->H' b=some u)(dn:∀b o,s.heap.get? b=some o->H b=none->H' b=none)(hok:HOk X.prog X.w H' h') :
  Inv X pins σ H' { s with heap:=h',toks:=t' }:=by
 refine I.step (g':=s.gens) (d':=s.drawn) (ch:=ch) (fun b hb=>?_) (fun b o _ _ hc e _=>kp b o hc e) (fun b o _ _ hc e _=>⟨o.slots,kp b o hc e⟩) (fun b o _ e n=>dn b o e n) (fun b o hc e=>⟨o,kp b o hc e⟩) (fun b xs e=>up _ _ e) (fun b o u e=>up _ _ e) (fun b ps e=>⟨#[],by rw[up _ _ e];simp⟩) (fun m hm=>?_) hok I.bare
 ·obtain⟨f0,f1,f2,f3,f4,f5⟩:=hch b hb;exact⟨f3,f1,f4,f5⟩
 ·obtain⟨o,es,ep,ho,r⟩:=hm;exact⟨o,es,ep,kp _ o (fun z=>(hch _ z).2.1 rfl) ho,r⟩
theorem sk(I:Inv X pins σ H s)(hch:∀b∈ch,bv X pins H b)(kp:∀b o,b∉ch->s.heap.get? b=some o->h'.get? b=some o):HOk X.prog X.w H h':=fun b u e=>by
 have nin:∀{c:Addr} {q:HO},H c=some q->c∉ch:=fun{c q} e z=>by rw[(hch c z).1]at e;cases e
 refine(I.hok b u e).stay (fun c v hc q=>kp c v ?_ q) (fun _ q=>q) fun _ _ q=>q;rcases hc with z|z
 ·rw[z];exact nin e
 ·exact nin z
theorem Inv.turnM(I:Inv X pins σ H s)(hch:∀b∈ch,bv X pins H b)(kp:∀b o,b∉ch->s.heap.get? b=some o->h'.get? b=some o):Inv X pins σ H { s with heap:=h',toks:=t' } :=
 I.turnH hch kp (fun _ _ e=>e) (fun _ _ _ n=>n) (sk I hch kp)
theorem Inv.turnT{xs:List V}{its:List Value}(I:Inv X pins σ H s)(hch:∀b∈ch,bv X pins H b)(kp:∀b o,b∉ch->s.heap.get? b=some o->h'.get? b=some o)(hp:IsTup h' s.heap.objs.size its.toArray)(rv:Vals xs its)(hz:xs.length<=sizeLine) :
  Inv X pins σ (upd H s.heap.objs.size (.tup xs)) { s with heap:=h',toks:=t' }:=by
 have fr:=I.hok.fresh (Ze s.heap.objs.size);have ne:∀{b:Addr} {u:HO},H b=some u->b≠s.heap.objs.size:=fun{b u} e=>al e fr;have hk:=sk I hch kp;refine I.turnH hch kp (fun b u e=>by rw[ad (ne e)];exact e) (fun b o e n=>by rw[ad (Zv (Zn e))];exact n) fun b u e=>?_;by_cases hb:b=s.heap.objs.size
 ·subst hb;rw[af]at e;cases e;exact⟨hz,its,rv,hp⟩
 ·rw[ad hb]at e;exact(hk b u e).stay (fun _ _ _ q=>q) (fun c q=>by rw[ad (ne q)];exact q) fun c ys q=>by rw[ad (ne q)];exact q
end
def Itz(K:PySem.W.Frag)(a b:Addr)(xs ys:List V):It :=
 ⟨fun i H=>i<xs.length/\SqT K H a xs/\SqT K H b ys,fun i H x H'=>∃T p q,H T=none/\xs[i]?=some p/\ys[i]?=some q/\x=.ref T/\H'=upd H T (.tup [p,q]),fun i H=>i=xs.length/\SqT K H a xs/\SqT K H b ys⟩
abbrev zTn(z u v i1 i2 a b:Addr):Nat->Heap->Prop:=fun i h=>IsZip h z u v .none/\IsPair h u (.ref i1) (.ref i2)/\(∃p q,IsPair h v p q)/\h.IsTupleIter i1 a i/\h.IsTupleIter i2 b i
theorem B7{P:Program}{w:World}{K:PySem.W.Frag}{elts:List Expr}{kt:Nat}{tp:Pos}{z u v i1 i2 a b:Addr}{xs ys:List V}(hl:xs.length=ys.length)(D:[z,u,v,i1,i2].Nodup)(ha:∀c∈[z,u,v,i1,i2],c≠a/\c≠b) :
  Turn P w K (.Tuple elts kt tp) (Itz K a b xs ys) [z,u,v,i1,i2] z (zTn z u v i1 i2 a b):=by
 have nd:(z≠u/\z≠v/\z≠i1/\z≠i2)/\(u≠v/\u≠i1/\u≠i2)/\(v≠i1/\v≠i2)/\i1≠i2:=by simpa using D
 obtain⟨⟨zu,zv,z1,z2⟩,⟨uv,u1,u2⟩,⟨v1,v2⟩,i12⟩:=nd;have az:=ha z (by simp);have av:=ha v (by simp);have a1:=ha i1 (by simp);have a2:=ha i2 (by simp);have ap:ZAp z u v i1 i2 [i1,a] [i2,b]:=⟨zu.symm,zv.symm,uv,u1,u2,v1,v2,z1.symm,z2.symm,i12,by simp[z1,az.1],by simp[z2,az.2],by simp[v1,av.1],by simp[v2,av.2],by simp[i12.symm,a2.1],by simp[i12,a1.2]⟩
 refine⟨by simp,fun i h st c hc=>?_,fun i h h' st k=>?_,?_,?_,fun A i s Q E st h=>wpAny_pyIter_zip st.1 h⟩
 ·obtain⟨e1,e2,⟨p,q,e3⟩,⟨o4,e4,_,d4⟩,⟨o5,e5,_,d5⟩⟩:=st;simp only[Zs,ZY,YI]at hc;rcases hc with rfl|rfl|rfl|rfl|rfl
  ·exact⟨_,e1,fun v z=>nomatch z⟩
  ·exact⟨_,e2,fun v z=>nomatch z⟩
  ·exact⟨_,e3,fun v z=>nomatch z⟩
  ·exact⟨_,e4,fun v z=>by rw[d4]at z;cases z⟩
  ·exact⟨_,e5,fun v z=>by rw[d5]at z;cases z⟩
 ·obtain⟨e1,e2,⟨p,q,e3⟩,⟨o4,e4,r4⟩,⟨o5,e5,r5⟩⟩:=st;exact⟨k z (by simp) _ e1,k u (by simp) _ e2,⟨p,q,k v (by simp) _ e3⟩,⟨o4,k i1 (by simp) _ e4,r4⟩,⟨o5,k i2 (by simp) _ e5,r5⟩⟩
 ·intro X hP hw hK hc i pins s σ H E I hf st hg;subst hP hw hK;obtain⟨e1,e2,⟨p,q,e3⟩,e4,e5⟩:=st;obtain⟨hi,hx,hy⟩:=hg;obtain⟨its,rx,px,zx⟩:=I.tuple hx;obtain⟨jts,ry,py,zy⟩:=I.tuple hy;have lx:i<its.toArray.size:=by rw[Zj,<-rx.length];exact hi
  have ly:i<jts.toArray.size:=by rw[Zj,<-ry.length,<-hl];exact hi
  have hh:=I.ok.hd hc;have hT:s.TypeIs (.ref z) "zip":=⟨_,e1,rfl⟩
  unfold pyNext;refine z6 (wpAny_attempt (ZS (name:=Str.ofString "__next__") hT F.slot_zip_next (ZR F.slot_zip_next hT F.entry_zip_next
   (B9 (fz (A:=X.A.in1) hh i1 a a1.1.symm its.toArray) (fz (A:=X.A.in1) hh i2 b a2.2.symm jts.toArray) ap e1 e2 e3 ⟨e4,px⟩ ⟨e5,py⟩ lx ly fun h' tk x y qx qy zz vv s1 s2 pp kp=>Za ?_) (F.args_zip_next_1 _))))
  refine⟨_,rfl,wpAny_letOwnedTupleGo_zip (s:={ s with heap:=h',toks:=tk }) zz fun h2 z2' sb=>?_⟩;obtain⟨xv,ex⟩:∃xv,xs[i]?=some xv:=⟨xs[i],by simp[hi]⟩
  obtain⟨yv,ey⟩:∃yv,ys[i]?=some yv:=⟨ys[i]'(by omega),by simp[show i<ys.length by omega]⟩
  obtain⟨x',gx,rxv⟩:=rx.get ex;obtain⟨y',gy,ryv⟩:=ry.get ey;have qx':its[i]?=some x:=by simpa using qx
  have qy':jts[i]?=some y:=by simpa using qy
  rw[gx]at qx';rw[gy]at qy';cases qx';cases qy';have ltz:z<s.heap.objs.size:=Zn e1;have kp2:∀c o,c∉[z,u,v,i1,i2]->s.heap.get? c=some o->h2.get? c=some o:=fun c o hc e=>by simp only[Zs,ZY,YI,not_or]at hc;exact sb.extBut c o hc.1 (kp c o hc.1 hc.2.2.1 hc.2.2.2.1 hc.2.2.2.2 e)
  have tT:IsTup h2 s.heap.objs.size [x,y].toArray:=⟨_,sb.extBut _ _ (Yg ltz) pp,rfl,_,rfl⟩
  refine⟨.ref s.heap.objs.size,upd H s.heap.objs.size (.tup [xv,yv]),I.turnT (t':=tk) hf kp2 tT (.cons rxv (.cons ryv .nil)) (sz rfl),rfl,⟨_,xv,yv,I.hok.fresh (Ze _),ex,ey,rfl,rfl⟩,?_,fun c hc=>?_⟩
  ·exact⟨z2',sb.extBut _ _ zu.symm (kp _ _ zu.symm uv u1 u2 e2),⟨_,_,sb.extBut _ _ zv.symm vv⟩,s1.1.extBut sb.extBut z1.symm,s2.1.extBut sb.extBut z2.symm⟩
  ·rw[ad]
   ·exact(hf c hc).1
   ·obtain⟨o,eo,_⟩:∃o,s.heap.get? c=some o/\True:=by
     simp only[Zs,ZY,YI]at hc;rcases hc with rfl|rfl|rfl|rfl|rfl
     ·exact⟨_,e1,trivial⟩
     ·exact⟨_,e2,trivial⟩
     ·exact⟨_,e3,trivial⟩
     ·obtain⟨o,eo,_⟩:=e4;exact⟨o,eo,trivial⟩
     ·obtain⟨o,eo,_⟩:=e5;exact⟨o,eo,trivial⟩
    exact Zv (Zn eo)
 ·intro X hP hw hK hc i pins s σ H E I hf st hg;subst hP hw hK;obtain⟨e1,e2,⟨p,q,e3⟩,e4,e5⟩:=st;obtain⟨rfl,hx,hy⟩:=hg;obtain⟨its,rx,px,zx⟩:=I.tuple hx;obtain⟨jts,ry,py,zy⟩:=I.tuple hy;have lx:its.toArray.size=xs.length:=by rw[Zj,<-rx.length]
  have hh:=I.ok.hd hc;have hT:s.TypeIs (.ref z) "zip":=⟨_,e1,rfl⟩
  unfold pyNext;refine z6 (wpAny_attempt (ZS (name:=Str.ofString "__next__") hT F.slot_zip_next (ZR F.slot_zip_next hT F.entry_zip_next
   (En (fz (A:=X.A.in1) hh i1 a a1.1.symm its.toArray) (fz (A:=X.A.in1) hh i2 b a2.2.symm jts.toArray) ap e1 e2 e3 ⟨by rw[lx];exact e4,px⟩ fun h' e kp he=>?_) (F.args_zip_next_1 _))))
  obtain⟨o,ho,hco⟩:=he;refine z6 (wpAny_isInstance (T:="StopIteration") (b:=true) ⟨o,ho,hco⟩ isSubtype_stop (Za ⟨rfl,?_⟩));exact I.turnM (t':=s.toks) hf fun c ob hc e=>by simp only[Zs,ZY,YI,not_or]at hc;exact kp c ob hc.1 hc.2.2.1 hc.2.2.2.1 hc.2.2.2.2 e
theorem xa(l1 l2:Addr)(xs ys:Array Value) :
  Meets (Builtin.«zip.__new__» ⟨[.type "zip",.ref l1,.ref l2],[]⟩) (fun _ R s=>s.heap.IsTuple l1 xs/\s.heap.IsTuple l2 ys /\
   R (.ok (.ret (.ref ((((s.heap.push { cls:=.type "tuple_iterator",data:=.fields #[.ref l1,.int 0 0] }).push { cls:=.type "tuple_iterator",data:=.fields #[.ref l2,.int 0 0] }).push { cls:=.type "tuple",data:=.seq #[.ref s.heap.objs.size,.ref (s.heap.push { cls:=.type "tuple_iterator",data:=.fields #[.ref l1,.int 0 0] }).objs.size] }).push { cls:=.type "tuple",data:=.seq #[.none,.none] }).objs.size)))
    { s with heap:=((((s.heap.push { cls:=.type "tuple_iterator",data:=.fields #[.ref l1,.int 0 0] }).push { cls:=.type "tuple_iterator",data:=.fields #[.ref l2,.int 0 0] }).push { cls:=.type "tuple",data:=.seq #[.ref s.heap.objs.size,.ref (s.heap.push { cls:=.type "tuple_iterator",data:=.fields #[.ref l1,.int 0 0] }).objs.size] }).push { cls:=.type "tuple",data:=.seq #[.none,.none] }).push { cls:=.type "zip",data:=.fields #[.none,.bool false,.bool false,.ref ((s.heap.push { cls:=.type "tuple_iterator",data:=.fields #[.ref l1,.int 0 0] }).push { cls:=.type "tuple_iterator",data:=.fields #[.ref l2,.int 0 0] }).objs.size,.ref (((s.heap.push { cls:=.type "tuple_iterator",data:=.fields #[.ref l1,.int 0 0] }).push { cls:=.type "tuple_iterator",data:=.fields #[.ref l2,.int 0 0] }).push { cls:=.type "tuple",data:=.seq #[.ref s.heap.objs.size,.ref (s.heap.push { cls:=.type "tuple_iterator",data:=.fields #[.ref l1,.int 0 0] }).objs.size] }).objs.size] } }) :=
 .of_wp fun prog w A R s h=>by
  obtain⟨hp,g,d,tk,os⟩:=s;obtain⟨t1,t2,h⟩:=h;have hsub:=sub_zip;have T1:Heap.IsTuple (Shared.heap ⟨hp,g,d,tk,os⟩) l1 xs:=t1;have T2:Heap.IsTuple (Shared.heap ⟨hp.push { cls:=.type "tuple_iterator",data:=.fields #[.ref l1,.int 0 0] },g,d,tk,os⟩) l2 ys:=Heap.IsTuple.push t2 _
  wp_walk using Xf T1,Xf T2
  exact⟨_,rfl,h⟩
theorem E4(n:Nat):[n+4,n+2,n+3,n,n+1].Nodup:=by simp
def EO(K:PySem.W.Frag)(ta:TA):TI:=fun σ H R=>ta σ H fun vs H1=>∃a b xs ys,vs=[.ref a,.ref b]/\SqT K H1 a xs/\SqT K H1 b ys/\xs.length=ys.length/\R (Itz K a b xs ys) H1
section
variable{X:Cx}
theorem FE{e1 e2:Expr}{ta:TA}{p pos tp:Pos}{elts:List Expr}{kt:Nat}(hg:Gl X "zip")(hm:X.mg "zip" = none)(ha:PA X [e1,e2] ta)(n1:aR e1=true)(n2:aR e2=true):PI X (.Tuple elts kt tp) (.Call (.Name "zip" p) [e1,e2] [] pos) (EO X.K ta):=by
 intro pins s σ H R I h;refine Call_ (eG I hg hm boot_zip (YT (thn (ha pos pins s σ H _ I h) fun us s1 hz9=>?_) (aU n1) (bz (by simp[n2]))));obtain⟨vs,H1,I1,r1,q1⟩:=hz9;obtain⟨a,b,xs,ys,e,hx,hy,hl,q⟩:=q1;subst e;obtain⟨ua,ub,rfl,ra,rb⟩:=xU r1;cases ra;cases rb;obtain⟨its,rx,px,zx⟩:=I1.tuple hx;obtain⟨jts,ry,py,zy⟩:=I1.tuple hy;refine callType_new F.called_zip (by decide) (F.typeCall_zip_2 _ _) (F.newCall_zip_2 _ _) (fun obj=>F.args_object_init_3 obj _ _) F.entry_zip_new (xa a b its.toArray jts.toArray) ⟨px,py,?_⟩;generalize ea:({ cls:=.type "tuple_iterator",data:=.fields #[.ref a,.int 0 0] }:Obj)=oa;generalize eb:({ cls:=.type "tuple_iterator",data:=.fields #[.ref b,.int 0 0] }:Obj)=ob;have z1:(s1.heap.push oa).objs.size=s1.heap.objs.size+1:=Y0 ..;have z2:((s1.heap.push oa).push ob).objs.size=s1.heap.objs.size+2:=by rw[Y0,z1]
 rw[z2,z1];generalize eu:({ cls:=.type "tuple",data:=.seq #[.ref s1.heap.objs.size,.ref (s1.heap.objs.size+1)] }:Obj)=ou;have z3:(((s1.heap.push oa).push ob).push ou).objs.size=s1.heap.objs.size+3:=by rw[Y0,z2]
 generalize ev:({ cls:=.type "tuple",data:=.seq #[.none,.none] }:Obj)=ov;have z4:((((s1.heap.push oa).push ob).push ou).push ov).objs.size=s1.heap.objs.size+4:=by rw[Y0,z3]
 rw[z4,z3];generalize ez:({ cls:=.type "zip",data:=.fields #[.none,.bool false,.bool false,.ref (s1.heap.objs.size+2),.ref (s1.heap.objs.size+3)] }:Obj)=oz;have g5:(((((s1.heap.push oa).push ob).push ou).push ov).push oz).get? (s1.heap.objs.size+4)=some oz:=by rw[<-z4];exact Zk _ (by rw[<-ez];rfl)
 have g4:(((((s1.heap.push oa).push ob).push ou).push ov).push oz).get? (s1.heap.objs.size+3)=some ov:=by rw[<-z3];exact z9 _ (Zk _ (by rw[<-ev];rfl))
 have g3:(((((s1.heap.push oa).push ob).push ou).push ov).push oz).get? (s1.heap.objs.size+2)=some ou:=by rw[<-z2];exact z9 _ (z9 _ (Zk _ (by rw[<-eu];rfl)))
 have g2:(((((s1.heap.push oa).push ob).push ou).push ov).push oz).get? (s1.heap.objs.size+1)=some ob:=by rw[<-z1];exact z9 _ (z9 _ (z9 _ (Zk _ (by rw[<-eb];rfl))))
 have g1:(((((s1.heap.push oa).push ob).push ou).push ov).push oz).get? s1.heap.objs.size=some oa:=z9 _ (z9 _ (z9 _ (z9 _ (Zk _ (by rw[<-ea];rfl)))));have kp:∀c o,s1.heap.get? c=some o->(((((s1.heap.push oa).push ob).push ou).push ov).push oz).get? c=some o:=fun c o e=>z9 _ (z9 _ (z9 _ (z9 _ (z9 _ e))));generalize((((s1.heap.push oa).push ob).push ou).push ov).push oz=hN at g1 g2 g3 g4 g5 kp ⊢;have I2:Inv X pins σ H1 { s1 with heap:=hN }:=I1.kept (t':=s1.toks) kp;have la:a<s1.heap.objs.size:=px.lt;have lb:b<s1.heap.objs.size:=py.lt;subst ea eb eu ev ez;have base:∀c∈[s1.heap.objs.size+4,s1.heap.objs.size+2,s1.heap.objs.size+3,s1.heap.objs.size,s1.heap.objs.size+1],s1.heap.objs.size<=c:=fun c hc=>by simp only[Zs,ZY,YI]at hc;omega
 refine⟨⟨_,g5,rfl⟩,?_⟩;show wpAny (model X.prog X.w) X.A (pyIter (.ref (s1.heap.objs.size+4))) (PIE X pins σ (.Tuple elts kt tp) R) X.xe { s1 with heap:=hN };refine wpAny_pyIter_zip g5 ?_;refine⟨s1.heap.objs.size+4,[s1.heap.objs.size+4,s1.heap.objs.size+2,s1.heap.objs.size+3,s1.heap.objs.size,s1.heap.objs.size+1],zTn (s1.heap.objs.size+4) (s1.heap.objs.size+2) (s1.heap.objs.size+3) s1.heap.objs.size (s1.heap.objs.size+1) a b,_,H1,rfl,I2,
  B7 hl ?_ (fun c hc=>⟨Yg (Zw la (base c hc)),Yg (Zw lb (base c hc))⟩),⟨g5,g3,⟨_,_,g4⟩,⟨_,g1,rfl,rfl⟩,⟨_,g2,rfl,rfl⟩⟩,fun c hc=>?_,q⟩
 ·exact E4 s1.heap.objs.size
 ·exact I1.fpOk (base c hc) (I1.hok.fresh (base c hc))
theorem Cm{e1 e2:Expr}{ta:TA}{p pos tp:Pos}{elts:List Expr}{kt:Nat}(hm:X.mg "zip" = none)(ha:QA X [e1,e2] ta)(hg:Gl X "zip":=by rfl)(n1:aR e1=true:=by rfl)(n2:aR e2=true:=by rfl):QI X (.Tuple elts kt tp) (.Call (.Name "zip" p) [e1,e2] [] pos) (EO X.K ta):=⟨FE hg hm ha.h n1 n2⟩
end
open PySem PySem.Spec PyProof.Rows
theorem rR{J:It}{N n:Nat}{cap:List Nat}{g:TG}{tc:TT}{te:TE}{σ:St}{H0:Hp}{Q:VK}(keep:Nat->Bool)(f:Nat->V)(hz:N<=1000)(hgo:∀ i H,i<N->Same H0 H->J.go i H)(hst:∀ H,Same H0 H->J.stop N H)(ht:∀ i H x H',i<N->Same H0 H->J.yld i H x H'->∀ (A:VK) (B:Hp->Prop),(keep i=true->∀ H4,Same H H4->A (f i) H4)->(keep i=false->∀ H4,Same H H4->B H4) ->
   g x (be n cap σ) H' fun σ2 H2=>tc σ2 H2 fun b H3=>if b=true then te σ2 H3 A else B H3)(hq:∀ p H,Same H0 H->H p=none->Q (.ref p) (upd H p (.lst (((List.range N).filter keep).map f)))):bV n cap g tc te σ J H0 Q:=by
 refine⟨fun i m ys H=>m=N-i/\i<=N/\Same H0 H/\ys=((List.range i).filter keep).map f,⟨N,by simp,ZT _,Same.refl _,rfl⟩,?_⟩;rintro i m ys H ⟨rfl,hi,sm,rfl⟩;by_cases hlt:i<N
 ·refine .inr ⟨hgo i H hlt sm,?_,fun x H' y=>?_⟩
  ·rw[Zb];have:=y0 keep (List.range i);rw[Y9]at this;exact fK (by omega)
  ·refine ht i H x H' hlt sm y _ _ (fun k H4 s4=>⟨N-(i+1),by omega,rfl,hlt,sm.trans s4,?_⟩) (fun k H4 s4=>⟨N-(i+1),by omega,rfl,hlt,sm.trans s4,?_⟩)
   ·rw[List.range_succ,Yo,Zy];simp[k]
   ·rw[List.range_succ,Yo,Zy];simp[k]
 ·have e:i=N:=by omega
  subst e;exact .inl ⟨hst H sm,fun p hp=>hq p H sm hp⟩
theorem rS{N n:Nat}{lo:Int}{cap:List Nat}{tc:TT}{te:TE}{σ:St}{H0:Hp}{Q:VK}(keep:Nat->Bool)(f:Nat->V)(hz:N<=1000)(hc:∀i H,i<N->Same H0 H->∀R:Bool->Hp->Prop,(∀H',Same H H'->R (keep i) H')->tc ((be n cap σ).set 0 (some (.int (lo+i)))) H R)(he:∀i H,i<N->Same H0 H->keep i=true->∀R:VK,(∀H',Same H H'->R (f i) H')->te ((be n cap σ).set 0 (some (.int (lo+i)))) H R)(hq:∀p H,Same H0 H->H p=none->Q (.ref p) (upd H p (.lst (((List.range N).filter keep).map f)))):bV n cap (bw 0) tc te σ (Itr lo N) H0 Q:=by
 refine rR (N:=N) keep f hz (fun _ _ hi _=>hi) (fun _ _=>Ze N) (fun i H x H' hi sm y A B kA kB=>?_) hq;obtain⟨rfl,rfl⟩:=y;refine hc i H' hi sm _ fun H2 s2=>?_;cases k:keep i with
 |true=>exact aK (he i H2 hi (sm.trans s2) k _ fun H4 s4=>kA k H4 (s2.trans s4))
 |false=>exact aE (kB k H2 s2)
theorem rW{K:PySem.W.Frag}{a b:Addr}{xs ys:List V}{n:Nat}{cap:List Nat}{te:TE}{σ:St}{H0:Hp}{Q:VK}(f:Nat->V)(hz:xs.length<=1000)(ha:SqT K H0 a xs)(hb:SqT K H0 b ys)(hl:xs.length=ys.length)(he:∀i x y H,xs[i]?=some x->ys[i]?=some y->Same H0 H->∀R:VK,(∀H',Same H H'->R (f i) H')->te (((be n cap σ).set 0 (some x)).set 1 (some y)) H R)(hq:∀p H,Same H0 H->H p=none->Q (.ref p) (upd H p (.lst ((List.range xs.length).map f)))):bV n cap (lK K 2 (fB (bw 0) (fB (bw 1) lJ))) eW te σ (Itz K a b xs ys) H0 Q:=by
 refine rR (N:=xs.length) (fun _=>true) f hz (fun i H hi sm=>⟨hi,dP sm ha,dP sm hb⟩) (fun H sm=>⟨rfl,dP sm ha,dP sm hb⟩) (fun i H x H' hi sm y A B kA kB=>?_) (fun p H sm hp=>?_)
 ·obtain⟨T,p,q,hT,hx,hy,rfl,rfl⟩:=y;have s1:=ai hT (.tup [p,q]);refine⟨T,[p,q],rfl,SqT.of af,rfl,p,[q],rfl,q,[],rfl,rfl,?_⟩;unfold eW;refine aK ?_;exact he i p q _ hx hy (sm.trans s1) _ fun H4 s4=>kA rfl H4 (s1.trans s4)
 ·have:=hq p H sm hp;rw[List.filter_eq_self.mpr (fun _ _=>rfl)];exact this
def Cw:R2:=fun x y H Q=>∃a b xs ys,x=.ref a/\y=.ref b/\H a=some (.tup xs)/\H b=some (.tup ys)/\xs.length+ys.length<=sizeLine/\∀p H',Same H H'->H' p=some (.tup (xs++ys))->Q (.ref p) H'
section
variable{X:Cx}
theorem Dm:OpR X (binaryOp .Add) Cw:=by
 intro pins s σ H x y v u Q I rx ry h;obtain⟨a,b,xs,ys,rfl,rfl,ha,hb,hz,q⟩:=h;by_cases hx:xs=[]
 ·cases rx;cases ry;obtain⟨its,r1,p1,_⟩:=I.tuple (SqT.of (K:=X.K) ha);obtain⟨its2,r2,p2,_⟩:=I.tuple (SqT.of (K:=X.K) hb);obtain⟨⟨cls,dd,data,sl⟩,ho,hc,n,hd⟩:=id p1;obtain⟨⟨cls2,dd2,data2,sl2⟩,ho2,hc2,n2,hd2⟩:=id p2;simp only at hc hd hc2 hd2;subst hc hd hc2 hd2;have e:its=[]:=r1.nil_iff.mpr hx;subst e;refine PySem.concat_meets ⟨_,ho,rfl⟩ ⟨_,ho2,rfl⟩ noFill_tuple_add seq_tuple_add PySem.F.slot_tuple_add PySem.F.entry_tuple_add (PySem.F.args_tuple_add_2 _ _)
   (tuple_addW0 a b _ its2.toArray n n2 dd dd2 sl sl2 (by simp)) ⟨ho,ho2,⟨.ref b,H,I,rfl,q b H (Same.refl H) ?_⟩⟩
  rw[hx];exact hb
 ·exact Do pins s σ H _ _ v u Q I rx ry ⟨a,b,xs,ys,rfl,rfl,SqT.of ha,SqT.of hb,hx,hz,fun e=>q a H (Same.refl H) (by rw[e,Zx];exact ha),fun _ p hp=>q p _ (ai hp _) af⟩
theorem mS:QOp X (binaryOp .Add) Cw:=⟨Dm⟩
theorem lQ:fillsNumberSlot (.type "tuple") "mul" = pure false :=
 PySem.fillsNumberSlot_seq (id:="tuple.__mul__") (r:=some (.builtin "tuple.__rmul__")) F.slot_tuple_mul.lookup (by decide +kernel) F.slot_tuple_rmul.lookup (by decide +kernel)
theorem tu:seqRepeat? (.type "tuple")=pure (some (.builtin "tuple.__mul__")):=by unfold seqRepeat?;rw[PySem.seqSlot_of (T:="tuple") (name:="__mul__") (id:="tuple.__mul__") F.slot_tuple_mul.lookup (by decide +kernel),PySem.seqSlot_of (T:="tuple") (name:="__rmul__") (id:="tuple.__rmul__") F.slot_tuple_rmul.lookup (by decide +kernel)];rfl
theorem oK(a:Int)(t:Tok)(l:Addr)(items:Array Value)(n:Nat)(dd:Option Addr)(sl:Array (Option Value)) :
  Meets (Builtin.«int.__rmul__» ⟨[.int a t,.ref l],[]⟩) (fun _ R s=>s.heap.get? l=some { cls:=.type "tuple",dict:=dd,data:=.seq items n,slots:=sl }/\R (.ok (.ret Value.notImplemented)) s) :=
 .of_wp fun prog w A R s h=>by obtain⟨hp,g,d,tk,os⟩:=s;obtain⟨hl,h⟩:=h;wp_walk using Y7 hl;exact⟨_,rfl,h⟩
theorem qW(l:Addr)(items:Array Value)(n:Nat)(dd:Option Addr)(sl:Array (Option Value))(u:Tok) :
  Meets (Builtin.«tuple.__mul__» ⟨[.ref l,.int 1 u],[]⟩) (fun _ R s=>s.heap.get? l=some { cls:=.type "tuple",dict:=dd,data:=.seq items n,slots:=sl }/\R (.ok (.ret (.ref l))) s) :=
 .of_wp fun prog w A R s h=>by obtain⟨hp,g,d,tk,os⟩:=s;obtain⟨hl,h⟩:=h;have f1:=AutoSeq1.idx_int;wp_walk using Y7 hl;exact⟨_,rfl,h⟩
theorem pY(l:Addr)(items:Array Value)(n:Nat)(dd:Option Addr)(sl:Array (Option Value))(k:Int)(u:Tok)(c1:¬(k < -(2^63) ||k>=2^63)=true)(c2:¬(items.isEmpty ||k==1)=true)(c3:¬(decide (k<=0) ||items.isEmpty)=true)(c4:¬items.size*k>(2^63-1) / 8)(c5:¬Builtin.Tuple.tupleTooMany (items.size*k)=true)(c6:(List.foldl (fun x1 x2=>x1++x2) #[] (List.replicate k.toNat items)).size<=sizeLine) :
  Meets (Builtin.«tuple.__mul__» ⟨[.ref l,.int k u],[]⟩) (fun _ R s=>s.heap.get? l=some { cls:=.type "tuple",dict:=dd,data:=.seq items n,slots:=sl } /\
   R (.ok (.ret (.ref s.heap.objs.size))) { s with heap:=s.heap.push { cls:=.type "tuple",data:=.seq (List.foldl (fun x1 x2=>x1++x2) #[] (List.replicate k.toNat items)) } }) :=
 .of_wp fun prog w A R s h=>by obtain⟨hp,g,d,tk,os⟩:=s;obtain⟨hl,h⟩:=h;have f1:=AutoSeq1.idx_int;wp_walk using Y7 hl;rw[Ju c1];wp_walk using Y7 hl;rw[Ju c4];wp_walk using Y7 hl;exact⟨_,rfl,h⟩
def Cy:R2:=fun x y H Q=>∃a k xs,x=.ref a/\y=.int k/\H a=some (.tup xs)/\1<=k/\k<=1000/\xs≠[]/\xs.length*k.toNat<=sizeLine/\∀p H',Same H H'->H' p=some (.tup (List.replicate k.toNat xs).flatten)->Q (.ref p) H'
theorem Dq:OpR X (binaryOp .Mult) Cy:=by
 intro pins s σ H x y v u Q I rx ry h;obtain⟨a,k,xs,rfl,rfl,ha,k1,k2,hx,hz,q⟩:=h;cases rx;obtain⟨t,rfl⟩:=ry;obtain⟨its,r1,p1,_⟩:=I.tuple (SqT.of (K:=X.K) ha);obtain⟨⟨cls,dd,data,sl⟩,ho,hc,n,hd⟩:=id p1;simp only at hc hd;subst hc hd;have hne:its≠[]:=fun z=>hx (r1.nil_iff.mp z);refine wpAny_binaryOp_repeat_ref (T:="tuple") (U:="int") (by decide) ⟨_,ho,rfl⟩ (fun s'=>typeIs_int s' k t) lQ F.fills_int_mul F.slot_int_rmul tu F.slot_int_index.lookup
  (call_meets F.slot_int_rmul (typeIs_int s k t) F.entry_int_rmul (F.args_int_rmul_2 _ _) (oK k t a its.toArray n dd sl) ⟨ho,rfl,⟨_,ho,rfl⟩,?_⟩)
 by_cases hk:k=1
 ·subst hk;refine call_meets F.slot_tuple_mul ⟨_,ho,rfl⟩ F.entry_tuple_mul (F.args_tuple_mul_2 _ _) (qW a its.toArray n dd sl t) ⟨ho,⟨.ref a,H,I,rfl,q a H (Same.refl H) ?_⟩⟩;have e:(List.replicate (1:Int).toNat xs).flatten=xs:=by simp
  rw[e];exact ha
 ·have hl:its.length=xs.length:=r1.length.symm;have hnew:List.foldl (fun x1 x2=>x1++x2) #[] (List.replicate k.toNat its.toArray)=(List.replicate k.toNat its).flatten.toArray:=by have:=jq its k.toNat [];rw[Xi]at this;exact this
  have hlen:(List.replicate k.toNat its).flatten.length<=sizeLine:=by rw[oV,hl,Nat.mul_comm];exact hz
  have hzk:((its.toArray.size:Int)*k)<=(sizeLine:Int):=by
   have e:((its.toArray.size:Int)*k)=((xs.length*k.toNat:Nat):Int):=by rw[Zj,hl,Int.natCast_mul];congr 1;omega
   rw[e];exact Int.ofNat_le.mpr hz
  have hcap:(sizeLine:Int)<=(2^63-1) / 8:=by decide
  have hemp:its.toArray.isEmpty=false:=by
   cases its with
   |nil=>exact absurd rfl hne
   |cons _ _=>rfl
  refine call_meets F.slot_tuple_mul ⟨_,ho,rfl⟩ F.entry_tuple_mul (F.args_tuple_mul_2 _ _) (pY a its.toArray n dd sl k t ?_ ?_ ?_ (by omega) ?_ (by rw[hnew,Zj];exact hlen)) ⟨ho,?_⟩
  ·simp only[Bool.or_eq_true,YE,not_or];omega
  ·simp[hemp,hk]
  ·have h1:¬k<=0:=by omega
   simp[hemp,h1]
  ·unfold Builtin.Tuple.tupleTooMany;simp only[YE];omega
  ·rw[hnew];refine⟨.ref s.heap.objs.size,_,I.laid (t':=s.toks) (o:=.tup (List.replicate k.toNat xs).flatten) (fun b ob q=>z9 _ q) (Ze _) ?_,rfl,q _ _ (ai (I.hok.fresh (Ze _)) _) af⟩;exact⟨by rw[oV,Nat.mul_comm];exact hz,_,r1.rep k.toNat,IsTup.new _ _⟩
theorem iS{ns:List Int}{i:Nat}{x:V}(h:(ns.map V.int)[i]?=some x):x=.int (ag ns i)/\i<ns.length:=by
 rw[ZB]at h;unfold ag;cases e:ns[i]? with
 |none=>rw[e]at h;cases h
 |some z =>rw[e]at h;cases h;exact⟨rfl,(ZH.mp e).1⟩
theorem gI{n d:Nat}{h:Int}(h0:0<=h):HT.sIx n d (some h)=min h.toNat n:=by have e:=HT.sIx_nat n d h.toNat;rw[show((h.toNat:Nat):Int)=h by omega]at e;exact e
variable{K:PySem.W.Frag}(hK:X.K=K)
include hK
theorem kO:QIx X (BN K):=by subst hK;exact dH
theorem uk:QIx X (xz K):=by subst hK;exact aC
theorem yH{es:List Expr}{k n:Nat}{gs:TGs}{pos:Pos}(hc:X.calm=true)(h:QGs X es gs)(hn:(assignEach es X.env).length=n:=by rfl)(hst:(assignEach es X.env).findIdx? (·.1)=none:=by rfl):QG X (.Tuple es k pos) (lK K n gs):=by subst hK;exact wL hc h hn hst
omit hK
theorem E8:QOp X (binaryOp .Mult) Cy:=⟨Dq⟩
end
open PySem PySem.Spec PyProof.Rows PySem.W
section
variable{X:Cx}
theorem pH{st:Stmt}:QS X st (fun _ _ _=>False):=⟨fun _ _ _ _ _ _ h=>h.elim⟩
variable{o e d:Expr}{to te td:TE}{apos cpos:Pos}
theorem jl{prog:Program}{w:World}{A:Around}{E:Value->Shared->Prop}{s:Shared}{t sl:Addr}{items:Array Value}{vl vu:Value}{lo hi:Option Int}{Q:Value->Shared->Prop}(ht:IsTup s.heap t items)(hs:s.heap.IsSliceOf sl vl vu .none)(pl:IsPart vl lo)(pu:IsPart vu hi)(hw:HT.sIx items.size 0 lo=0/\HT.sIx items.size items.size hi=items.size)(h:Q (.ref t) s):wpAny (model prog w) A (getItem (.ref t) (.ref sl)) Q E s:=by
 obtain⟨os,hos,hcs,hds⟩:=id hs;have hTs:s.TypeIs (.ref sl) "slice":=⟨os,hos,hcs⟩
 unfold getItem
 try with_reducible refine Z4 ?_
 first|refine z6 (Za ?_)|skip
 refine z6 (wpAny_sequenceKey ht.typeIs (by decide) ?_);refine z6 (ZS (name:=Str.ofString "__getitem__") ht.typeIs Yj
  (ZR Yj ht.typeIs entry_tuple_getitem ?_ (args_tuple_getitem _ _)))
 show wpAny _ _ (Builtin.Tuple.tupleItemsOf (.ref t) >>= _) _ _ s;refine z6 (tupleItemsOf_ ht ?_);refine z6 (wpAny_typeOf hTs ?_);rw[Jv (by decide)];refine z6 (HT.sliceApplied_gen hs pl pu ?_);show wpAny _ _ (if(((HT.sIx items.size 0 lo:Nat):Int)==0&&(1:Int)==1&&(HT.sIx items.size items.size hi-HT.sIx items.size 0 lo)==items.size)=true then _ else _) _ _ s;rw[Jv (by rw[hw.1,hw.2];simp)];refine z6 (m:=Builtin.Tuple.tupleIsExact _) ?_;unfold Builtin.Tuple.tupleIsExact;refine z6 (wpAny_typeOf ht.typeIs (Za ?_));rw[Jv (by decide)];exact z6 (YH (Za ⟨_,rfl,Za h⟩))
def Ie:V->Option Int->Option Int->Hp->VK->Prop:=fun x lo hi H Q=>∃a xs,x=.ref a/\H a=some (.tup xs)/\∀p H',Same H H'->H' p=some (.tup (cy xs lo hi))->Q (.ref p) H'
theorem jy:QSl X Ie:=by
 refine⟨?_⟩;intro pins s σ H x v vl vu lo hi sl Q I rx hs pl pu h;obtain⟨a,xs,rfl,hx,q⟩:=h;by_cases hw:HT.sIx xs.length 0 lo=0/\HT.sIx xs.length xs.length hi=xs.length
 ·cases rx;obtain⟨its,r,ht,hz⟩:=I.tuple (SqT.of (K:=X.K) hx);have hlen:its.toArray.size=xs.length:=by rw[Zj];exact r.length.symm
  refine⟨"tuple",_,Yj.lookup,ht.typeIs,jl ht hs pl pu (by rw[hlen];exact hw) ⟨.ref a,H,I,rfl,q a H (Same.refl H) ?_⟩⟩;unfold cy;rw[hw.1,hw.2,List.drop_zero,Nat.sub_zero,Yb];exact hx
 ·exact Gh pins s σ H _ v vl vu lo hi sl Q I rx hs pl pu ⟨a,xs,rfl,SqT.of hx,hw,fun p hp=>q p _ (ai hp _) af⟩
end
section
variable{prog:Program}{w:World}{A:Around}{s:Shared}{fin:Bool}{Q:Bool->Shared->Prop}
theorem kX(ns:List Int):∀(ms:List Int) (vs ws:List Value) (i:Nat),IntsAre vs ns->IntsAre ws ms->fin=decide (ns.length<ms.length)->Q (HT.lexLt ns ms) s->KatLex prog w A true fin Q (vs.zip ws) i s:=by
 induction ns with
 |nil =>
  intro ms vs ws i a b hf q;subst hf;cases a;cases b with
  |nil=>exact kat_nil q
  |cons _ _ _=>exact kat_nil (by rw[decide_eq_true (by simp)];exact q)
 |cons x ns ih =>
  intro ms vs ws i a b hf q;cases a with
  |cons _ t h1 =>
  cases b with
  |nil =>subst hf;exact kat_nil q
  |cons y u h2 =>
  obtain⟨e,he,iff⟩:=HT.eqAt_int A s x t y u;rw[HT.lexLt_cons]at q;refine kat_cons (he _ _ _ _ (kat_go (fun et=>?_) (fun ef=>?_)))
  ·rw[Jv (iff.mp et)]at q;exact kat_yes (ih _ _ _ (i+1) h1 h2 (by rw[hf];simp) q)
  ·have hne:x≠y:=fun z=>by rw[iff.mpr z]at ef;cases ef
   rw[Ju hne]at q;refine kat_no ?_;cases i with
   |zero=>exact oneLt_int q
   |succ i=>exact kat_one _ _ (PyProof.Rows.lt_int q)
end
section
variable{X:Cx}{pins:List (Addr×Obj)}{σ:St}{H:Hp}{s:Shared}{h':Heap}
theorem gC{P:Program}{w:World}{H:Hp}{h:Heap}{a:Addr}{o:HO}(x:ObjOk P w H h a o):∃ob,h.get? a=some ob:=by
 cases o with
 |lst xs =>obtain⟨_,_,_,_,e⟩:=x;exact⟨_,e⟩
 |tup xs =>obtain⟨_,_,_,ob,e,_⟩:=x;exact⟨ob,e⟩
 |dK kvs =>obtain⟨_,_,_,_,ob,_,_,e,_⟩:=x;exact⟨ob,e⟩
 |dT kvs =>obtain⟨_,_,_,_,ob,_,_,e,_⟩:=x;exact⟨ob,e⟩
 |set S n =>obtain⟨ob,_,_,_,e,_⟩:=x;exact⟨ob,e⟩
 |ins C dx fs =>obtain⟨_,_,_,e,_⟩:=x;exact⟨_,e⟩
 |own y=>exact x
 |xd fs =>obtain⟨_,⟨ob,_,_,e,_⟩,_⟩:=x;exact⟨ob,e⟩
 |rng lo hi =>obtain⟨_,_,_,e⟩:=x;exact⟨_,e⟩
 |frz ob u=>exact⟨ob,x.1⟩
 |tbl ps=>exact⟨_,x⟩
 |met f y=>exact⟨_,x⟩
 |ext φ=>exact x.2.1
theorem none_of(I:Inv X pins σ H s){a:Addr}(hg:s.heap.get? a=none):H a=none:=by
 cases q:H a with
 |none=>rfl
 |some u =>obtain⟨ob,e⟩:=gC (I.hok a u q);rw[hg]at e;cases e
theorem Inv.laidF{a:Addr}{o:HO}{t':Nat}(I:Inv X pins σ H s)(k:∀b u,b≠X.env.locals->s.heap.get? b=some u->h'.get? b=some u)(hn:∃m,s.heap.Ns X.env.locals m/\h'.Ns X.env.locals m)(hg:s.heap.get? a=none)(new:ObjOk X.prog X.w (upd H a o) h' a o):Inv X pins σ (upd H a o) { s with heap:=h',toks:=t' }:=by
 have fr:=none_of I hg;have ne:∀{b:Addr} {u:HO},H b=some u->b≠a:=fun{b u} e=>al e fr;have lt:∀{b:Addr} {u:Obj},s.heap.get? b=some u->b≠a:=fun{b u} e z=>by rw[z,hg]at e;cases e
 have neL:∀{b:Addr} {u:HO},H b=some u->b≠X.env.locals:=fun{b u} e=>al e I.free;refine I.step (g':=s.gens) (d':=s.drawn) (ch:=[]) (fun b hb=>by simp at hb) (fun b o hL _ _ e _=>k b o hL e) (fun b o hL _ _ e _=>⟨o.slots,k b o hL e⟩) (fun b o _ e n=>by rw[ad (lt e)];exact n) (fun b o _ e=>?_)
  (fun b xs e=>by rw[ad (ne e)];exact e) (fun b o u e=>by rw[ad (ne e)];exact e) (fun b ps e=>⟨#[],by rw[ad (ne e),e];simp⟩) (fun m' hm'=>?_) (fun b u e=>?_) I.bare
 ·by_cases hL:b=X.env.locals
  ·obtain⟨m,_,o',_,_,e',_⟩:=hn;exact⟨o',by rw[hL];exact e'⟩
  ·exact⟨o,k b o hL e⟩
 ·obtain⟨m,h1,h2⟩:=hn;rw[hm'.eq_nsMap,<-h1.eq_nsMap];exact h2
 ·by_cases hb:b=a
  ·subst hb;rw[af]at e;cases e;exact new
  ·rw[ad hb]at e;refine(I.hok b u e).stay (fun c v hc q=>k c v ?_ q) (fun c q=>by rw[ad (ne q)];exact q) fun c ys q=>by rw[ad (ne q)];exact q
   rcases hc with z|z
   ·rw[z];exact neL e
   ·exact neL z
def nh(base h:Heap)(L:Addr):List (Addr×Obj):=(List.range h.objs.size).filterMap fun b=>if b=L\/(base.get? b).isSome=true then none else(h.get? b).map fun o=>(b,o)
theorem hW(base h:Heap)(L:Addr):News base L h (nh base h L):=fun p hp=>by
 obtain⟨b,_,e⟩:=List.mem_filterMap.mp hp;by_cases c:b=L\/(base.get? b).isSome=true
 ·rw[Jv c]at e;cases e
 ·rw[Ju c]at e;cases q:h.get? b with
  |none=>rw[q]at e;cases e
  |some o =>
   rw[q]at e;cases e;refine⟨q,fun z=>c (.inl z),?_⟩;cases z:base.get? b with
   |none=>rfl
   |some u=>exact absurd (.inr (by rw[z];rfl)) c
theorem cJ{base h:Heap}{L b:Addr}{o:Obj}(e:h.get? b=some o)(hL:b≠L)(hb:base.get? b=none):(b,o)∈nh base h L:=by refine List.mem_filterMap.mpr ⟨b,ZV.mpr (Zn e),?_⟩;rw[Ju (by rintro(z|z);exact hL z;rw[hb]at z;cases z),e];rfl
end
theorem dG(ns:List Int):SeqAt.shaped (.tuple (ns.map .int))=true:=by
 unfold SeqAt.shaped;rw[Zz];refine⟨?_,?_⟩
 ·simp only[PyData.canLay0];exact PyProof.Rows.canLayAll_ints ns
 ·refine decide_eq_true ?_;simp only[PyData.depth];rw[PyProof.Rows.depthAll_ints ns];decide
theorem kU:∀(ns ms:List Int),PyData.eqvAll (ns.map .int) (ms.map .int)=decide (ns=ms)
 | [],[]=>by simp[PyData.eqvAll]
 | [],_::_=>by simp[PyData.eqvAll]
 |_::_,[]=>by simp[PyData.eqvAll]
 |x::ns,y::ms=>by simp only[Z0,PyData.eqvAll,PyData.eqv];rw[kU ns ms,YG];simp
theorem iJ(ns ms:List Int):PyData.eqv (.tuple (ns.map .int)) (.tuple (ms.map .int))=decide (ns=ms):=by simp only[PyData.eqv];exact kU ns ms
theorem iq{H:Hp}{a:Addr}{ns:List Int}(h:H a=some (.tup (ns.map V.int))):Dt H (.tuple (ns.map .int)) (.ref a):=by simp only[Dt];exact⟨a,_,rfl,Rd.of h,io ns⟩
section
variable{X:Cx}
theorem E7(hu:X.A.units+64<cLine):QOp X (compareOp .Eq) (fun x y H Q=>∃(a b:Addr) (ns ms:List Int),x=.ref a/\y=.ref b/\H a=some (.tup (ns.map V.int))/\H b=some (.tup (ms.map V.int))/\Q (.bl (decide (ns=ms))) H):=by refine⟨?_⟩;intro pins s σ H x y v u Q I rx ry h;obtain⟨a,b,ns,ms,rfl,rfl,ha,hb,q⟩:=h;exact zn hu pins s σ H _ _ v u Q I rx ry ⟨_,_,iq ha,iq hb,dG ns,dG ms,by rw[iJ];exact q⟩
theorem mT(hu:X.A.units+64<cLine):QOp X (compareOp .NotEq) (fun x y H Q=>∃(a b:Addr) (ns ms:List Int),x=.ref a/\y=.ref b/\H a=some (.tup (ns.map V.int))/\H b=some (.tup (ms.map V.int))/\Q (.bl (!decide (ns=ms))) H):=by refine⟨?_⟩;intro pins s σ H x y v u Q I rx ry h;obtain⟨a,b,ns,ms,rfl,rfl,ha,hb,q⟩:=h;exact zo hu pins s σ H _ _ v u Q I rx ry ⟨_,_,iq ha,iq hb,dG ns,dG ms,by rw[iJ];exact q⟩
end
theorem Cn{x:V}{A B:Prop}(h:x≠.non)(hB:B):if decide (x=.non)=true then A else B:=by rw[decide_eq_false h];exact aE hB
theorem qY{c A B:Prop}[Decidable c](h:c)(hA:A):if decide c=true then A else B:=by rw[decide_eq_true h];exact aK hA
theorem wR{c A B:Prop}[Decidable c](h1:c->A)(h2:¬c->B):if decide c=true then A else B:=by
 by_cases h:c
 ·exact qY h (h1 h)
 ·rw[decide_eq_false h];exact aE (h2 h)
open PySem PySem.Spec PyProof.Rows
structure CompOk1(X:Cx)(scope:Scope)(cx:Str)(cap:List Nat)(capN:List Str):Prop where
 kind:scope.kind=.function
 names:∀x∈scope.names,x.2=.local->scope.names.lookup x.1=some .local
 onecell:∀y∈scope.names,y.2=.cell->y.1=cx
 own:scope.names.lookup cx=some .cell
 cf:∀(n:Nat) (acc:List (Str×Addr)),cellsFrom n scope.names acc=(cx,n)::acc
 pc:∀h:Heap,pushCells h scope.names=h.push { cls:=.type "cell",data:=.cell none }
 frees:(scope.names.all fun y=>!(y.2==NameKind.free) ||(X.env.kindOf y.1==some .cell ||X.env.kindOf y.1==some .free))=true
 cap:CapOk X scope cap capN
theorem mH:∀{vs:List Value} {ns:List Int},IntsAre vs ns->∃xs:List (Int×Tok),vs=xs.map (fun p=>.int p.1 p.2)/\ns=xs.map (·.1)
 |_,_,.nil=>⟨[],rfl,rfl⟩
 |_,_,.cons n t h=>by obtain⟨xs,e1,e2⟩:=mH h;exact⟨(n,t)::xs,by rw[e1];rfl,by rw[e2];rfl⟩
section
variable{X:Cx}
def Ij(K:PySem.W.Frag)(te ts:TE):TE:=fun σ H Q=>te σ H fun x H1=>ts σ H1 fun z H2=>z=.int (-1)/\∃a xs,x=.ref a/\SqL K H2 a xs/\∀p,H2 p=none->Q (.ref p) (upd H2 p (.lst xs.reverse))
theorem Vals.rev{xs:List V}{us:List Value}(h:Vals xs us):Vals xs.reverse us.reverse:=by
 induction h with
 |nil=>exact .nil
 |cons r _ ih =>rw[List.reverse_cons,List.reverse_cons];exact ih.append (.cons r .nil)
theorem Hk{e st:Expr}{te ts:TE}{pos p2:Pos}(he:QE X e te)(hst:QE X st ts):QE X (.Subscript e (.Slice none none (some st) p2) pos) (Ij X.K te ts):=by refine⟨?_⟩;intro pins s σ H Q I h;refine Subscript_ (thn (he.h pins s σ H _ I h) fun v s1 hz9=>?_);obtain⟨x,H1,I1,r1,q1⟩:=hz9;refine wpAny_Slice (wpAny_evalPart_none (wpAny_evalPart_none (wpAny_evalPart_some (thn (hst.h pins s1 σ H1 _ I1 q1) fun vk s2 hz9=>?_))));obtain⟨z,H2,I2,rz,q2⟩:=hz9;obtain⟨rfl,a,xs,rfl,hx,q⟩:=q2;cases r1;obtain⟨t,rfl⟩:=rz;have I4:Inv X pins σ H2 { s2 with heap:=s2.heap.push { cls:=.type "slice",data:=.fields #[.none,.none,.int (-1) t] } }:=I2.kept (t':=s2.toks) fun b ob q=>z9 _ q;obtain⟨its,r,ht,hz⟩:=I4.list hx;have hlen:=r.length;show wpAny (model X.prog X.w) X.A (subscriptTail e (.Slice none none (some st) p2) (.ref a) (.ref s2.heap.objs.size)) (EP X pins σ Q) X.xe { s2 with heap:=s2.heap.push { cls:=.type "slice",data:=.fields #[.none,.none,.int (-1) t] } };refine tail_any (ops:=_) ht.isList.typeIs slot_list_getitem.lookup ?_ (by with_unfolding_all rfl);refine wpAny_getItem_list_slice ht.isList (Heap.IsSliceOf.new ..) .none .none (.int (-1) t) (by decide) ?_ (by rw[Zj]<;>omega);rw[PySem.W.krv_pick];refine⟨.ref _,_,I4.laid (t':=s2.toks) (o:=.lst xs.reverse) (fun b ob q=>z9 _ q) (Ze _) ?_,rfl,q _ (I4.hok.fresh (Ze _))⟩;exact⟨by rw[List.length_reverse];exact hz,its.reverse,0,Vals.rev r,Zk _ rfl⟩
end
open PySem PySem.Spec PyProof.Rows PySem.W
def dY(h:Heap)(e:Addr)(dc:Option Addr):Prop:=∃o,h.get? e=some o/\o.dict=dc
theorem oF(f:Array Value->Array Value)(o:Obj):(Obj.mapFields f o).dict=o.dict:=by unfold Obj.mapFields;split<;>rfl
section
variable{M:Model}{A:Around}{E:Value->Shared->Prop}{s:Shared}{base:Heap}{env:Env}{outer l:List Env}{L e:Addr}
theorem ld{oe:Obj}{vs:Array Value}{hd0 a0:Value}{nx:Bool}{Q:Unit->Shared->Prop}(fr:A.frames=some (env::outer))(ff:s.heap.FunFrames base (env::outer))(ef:env.frame=some L)(he:s.heap.get? e=some oe)(kb:base.StaysIn s.heap)(en:base.get? e=none)(dt:oe.data=.fields vs)(sz:1<vs.size)(v0:vs[0]?=some a0)(k:∀h',Heap.NotedW base (env::outer) e oe.cls a0 (rawInt L) s.heap h'->dY h' e oe.dict->Q () { s with heap:=h' }) :
  wpAny M A (do let a ←frameOf env;let pl ←entryPlaceOf L nx;let b ←EntryCells.newEntry hd0 a .none (rawInt L) .none pl;setField (.ref e) 1 b) Q E s:=by
 have nf:e∉(env::outer).filterMap (·.frame):=fun hm=>by obtain⟨_,o,ho,hn⟩:=ff.mem hm;cases ZE (he.symm.trans ho);exact hn vs dt
 refine z6 (wpAny_frameOf_fun fr ff ef fun h1 k1=>z6 (wpAny_entryPlaceOf fun pl hpl=>?_));unfold EntryCells.newEntry newFields;refine z6 (ZQ ?_ (hpl.sizeOk5 _ _ _ _ _));have t3:([hd0,.ref L,.none,rawInt L,.none]++(if pl.isEmpty then List.replicate 6 Value.none else pl)).toArray[3]?=some (rawInt L):=by simp
 generalize([hd0,.ref L,.none,rawInt L,.none]++(if pl.isEmpty then List.replicate 6 Value.none else pl)).toArray=ts at t3 ⊢;have g1:h1.get? e=some oe:=(k1.2.1 e nf).trans he;have st1:base.StaysIn h1:=fun b o hb=>(k1.2.1 b fun hm=>nomatch(hb.symm.trans (ff.mem hm).1)).trans (kb b o hb);have gp:(h1.push { cls:=.type "traceback",data:=.fields ts }).get? e=some oe:=z9 _ g1;have ne:h1.objs.size≠e:=Yg (Zn g1);have dm:=Ye dt (·.setIfInBounds 1 (Value.ref h1.objs.size));have self:=Yi (Obj.mapFields (·.setIfInBounds 1 (Value.ref h1.objs.size))) gp (Y3 dm);have atT:=(YB (h1.push { cls:=.type "traceback",data:=.fields ts }) (Obj.mapFields (·.setIfInBounds 1 (Value.ref h1.objs.size))) (Yx ne)).trans (Zk h1 rfl);have oth:∀b o,b≠e->h1.get? b=some o->((h1.push { cls:=.type "traceback",data:=.fields ts }).update e (Obj.mapFields (·.setIfInBounds 1 (Value.ref h1.objs.size)))).get? b=some o:=fun b o n q=>(YB _ _ (Yx n)).trans (z9 _ q);have nrec:∀b o,s.heap.get? b=some o->(∀ws,o.data≠.fields ws)->b≠e:=fun b o q hn z=>by subst z;cases ZE (he.symm.trans q);exact hn vs dt
 refine YC gp dt sz (k _ ⟨fun b o q=>oth b o (fun z=>nomatch((z▸q).symm.trans en)) (st1 b o q),ff.of_keeps fun b o q hn=>?_,?_,fun b o q hn=>?_⟩ ⟨_,self,oF _ _⟩)
 ·obtain⟨sl,hs⟩:=k1.2.2 b o q;exact⟨_,oth b _ (nrec b o q hn) hs,rfl⟩
 ·exact⟨_,_,h1.objs.size,_,ts,self,⟨Obj.cls_mapFields _ _,by rw[Array.getElem?_setIfInBounds_ne (by decide)];exact v0⟩,dm,by simp[sz],st1.fresh,ne,atT,rfl,t3⟩
 ·obtain⟨sl,hs⟩:=k1.2.2 b o q;exact⟨sl,oth b _ (nrec b o q hn) hs⟩
theorem fT{cls a0 fl:Value}{dc:Option Addr}{Q:Unit->Shared->Prop}(kb:base.StaysIn s.heap)(ff:s.heap.FunFrames base l)(tr:s.heap.TracedAtW base e cls a0 fl)(dd:dY s.heap e dc)(k:∀h',base.StaysIn h'->h'.FunFrames base l->h'.TracedW base e cls a0->s.heap.UpToSlots h'->dY h' e dc->Q () { s with heap:=h' }):wpAny M A (setFlight (.ref e) none) Q E s:=by
 obtain⟨oe,vs,T,oT,ts,he,hc,dt,v1,nT,ne,hT,dT,t3⟩:=tr;have z3:3<ts.size:=(Array.getElem?_eq_some_iff.mp t3).1;have oth:∀b,b≠T->(s.heap.update T (Obj.mapFields (·.setIfInBounds 3 ((none:Option Addr).elim Value.none fun f=>rawInt f)))).get? b=s.heap.get? b:=fun b n=>YB _ _ (Yx n);have nrec:∀b o,s.heap.get? b=some o->(∀ws,o.data≠.fields ws)->b≠T:=fun b o q hn z=>by subst z;cases ZE (hT.symm.trans q);exact hn ts dT
 unfold setFlight;refine z6 (Z2 he dt v1 ?_);rw[Jv (by simp:(Value.ref T != Value.none)=true)];refine YC hT dT z3 (k _ (fun b o q=>(oth b fun z=>nomatch((z▸q).symm.trans nT)).trans (kb b o q)) (ff.of_keeps fun b o q hn=>⟨o,(oth b (nrec b o q hn)).trans q,rfl⟩) ?_ (fun b o q hn=>⟨o.slots,(oth b (nrec b o q hn)).trans q⟩) ?_)
 ·exact⟨oe,vs,T,_,_,(oth e (Yx ne)).trans he,hc,dt,v1,nT,ne,Yi _ hT (Y3 (Ye dT _)),Ye dT _,by simp[z3]⟩
 ·obtain⟨o,q,d⟩:=dd;exact⟨o,(oth e (Yx ne)).trans q,d⟩
theorem mO{cls a0:Value}{dc:Option Addr}{Q:Unit->Shared->Prop}(fr:A.frames=some (env::outer))(ef:env.frame=some L)(fl:Heap.FlyingW base (env::outer) e cls a0 s.heap)(dd:dY s.heap e dc)(k:∀h',Heap.HeldW base (env::outer) e cls a0 L h'->s.heap.UpToSlots h'->dY h' e dc->Q () { s with heap:=h' }):wpAny M A (noteFrame (.ref e) env) Q E s:=by
 obtain⟨f1,f2,f3,oe,vs,T,oT,ts,he,hc,dt,v1,nT,ne,hT,dT,t3⟩:=fl;obtain⟨o2,q2,d2⟩:=dd;cases ZE (he.symm.trans q2);have z3:3<ts.size:=(Array.getElem?_eq_some_iff.mp t3).1;unfold noteFrame;simp only[ef];refine z6 (Z2 he dt v1 ?_);rw[Jv (by simp:(Value.ref T != Value.none)=true)];refine z6 (Z2 hT dT t3 ?_);rw[Ju (by simp[rawInt]:¬(Value.none==rawInt L)=true)];refine z6 (YC hT dT z3 ?_);have oth:∀b,b≠T->(s.heap.update T (Obj.mapFields (·.setIfInBounds 3 Value.none))).get? b=s.heap.get? b:=fun b n=>YB _ _ (Yx n);have nrec:∀b o,s.heap.get? b=some o->(∀ws,o.data≠.fields ws)->b≠T:=fun b o q hn z=>by subst z;cases ZE (hT.symm.trans q);exact hn ts dT
 have sz:1<vs.size:=(Array.getElem?_eq_some_iff.mp v1).1;refine ld (s:={ s with heap:=s.heap.update T (Obj.mapFields (·.setIfInBounds 3 Value.none)) }) fr (f3.of_keeps fun b o q hn=>⟨o,(oth b (nrec b o q hn)).trans q,rfl⟩) ef ((oth e (Yx ne)).trans he) (fun b o q=>(oth b fun z=>nomatch((z▸q).symm.trans nT)).trans (f1 b o q)) f2 dt sz hc.2 fun h' nt dd=>?_;obtain⟨n1,n2,n3,n4⟩:=nt;rw[hc.1]at n3;rw[d2]at dd;exact k h' ⟨n1,f2,n2,n3⟩ (fun b o q hn=>n4 b o ((oth b (nrec b o q hn)).trans q) hn) dd
end
open PySem PySem.Spec PyProof.Rows PySem.W
def Its(x:Str):It:=⟨fun i _=>i<x.cps.size,fun i H v H'=>H'=H/\∃c,x.cps[i]?=some c/\v=.str ⟨#[c]⟩,fun i _=>x.cps.size<=i⟩
theorem B6{P:Program}{w:World}{K:PySem.W.Frag}{tg:Expr}(it:Addr)(x:Str)(t:Tok):Turn P w K tg (Its x) [it] it (fun i h=>h.IsStrIter it "str_ascii_iterator" x t i) where
 mem:=Zo.mpr rfl
 obj:=fun i h st b hb=>by cases Zo.mp hb;obtain⟨o,e,c,d⟩:=st;exact⟨o,e,fun v z=>nomatch d.symm.trans z⟩
 keep:=fun i h h' st k=>by obtain⟨o,ho,r⟩:=st;exact⟨o,k it (Zo.mpr rfl) o ho,r⟩
 item:=by intro X eP ew eK hc i pins s σ H E I hf st hg;cases eP;cases ew;cases eK;have hi:i<x.cps.size:=hg;have fo:=hf it (Zo.mpr rfl);refine(Walks.strAscii (prog:=X.prog) (w:=X.w) (I.ok.hd hc) it x t).item i s _ _ hi st fun v h' tk hv st' kk=>?_;obtain⟨c,u,hc',rfl⟩:=hv;have I1:Inv X pins σ H { s with heap:=h',toks:=tk }:=I.turned (fun b o hb e=>kk b o (fun z=>hb (Zo.mp z)) e) fo.1 fo.2.1 fo.2.2.2.1 fo.2.2.2.2.1 fo.2.2.2.2.2;obtain⟨o,e,c1,d1⟩:=id st';exact⟨_,rfl,mF (s:={ s with heap:=h',toks:=tk }) e c1 d1 (by decide) ⟨.str ⟨#[c]⟩,H,I1,⟨u,rfl⟩,⟨rfl,c,hc',rfl⟩,st',fun b hb=>(hf b hb).1⟩⟩
 done:=by intro X eP ew eK hc i pins s σ H E I hf st hg;cases eP;cases ew;cases eK;have hi:x.cps.size<=i:=hg;have fo:=hf it (Zo.mpr rfl);exact wpAny_pyNext_ascii_end (I.ok.hd hc) st (by simp;omega) fun h' eb=>⟨rfl,I.turned (t':=s.toks) (fun b o hb e=>eb b o hb e) fo.1 fo.2.1 fo.2.2.2.1 fo.2.2.2.2.1 fo.2.2.2.2.2⟩
 self:=fun _ _ _ _ _ st h=>wpAny_pyIter_striter_ascii st h
def HW(tl:TE):TI:=fun σ H R=>tl σ H fun v H1=>∃x,v=.str x/\x.cps.all (·<128)=true/\R (Its x) H1
section
variable{X:Cx}{tg l:Expr}{tl:TE}
theorem GV(hl:QE X l tl):QI X tg l (HW tl):=by refine⟨?_⟩;intro pins s σ H R I h;refine thn (hl.h pins s σ H _ I h) fun v s1 hz9=>?_;obtain⟨y,H1,I1,r1,q1⟩:=hz9;obtain⟨x,rfl,ha,q⟩:=q1;obtain⟨t,rfl⟩:=r1;refine wpAny_pyIter_ascii ha ⟨s1.heap.objs.size,[s1.heap.objs.size],_,_,H1,rfl,I1.kept (t':=s1.toks) (fun b o e=>z9 _ e),B6 _ x t,⟨_,Zk _ rfl,rfl,rfl⟩,fun b hb=>?_,q⟩;cases Zo.mp hb;exact I1.fpOk (Ze _) (I1.hok.fresh (Ze _))
end
theorem AZ{x:Str}{n:Nat}{cap:List Nat}{te:TE}{σ:St}{H0:Hp}{Q:VK}(f:Nat->V)(hz:x.cps.size<=1000)(he:∀i c H,x.cps[i]?=some c->Same H0 H->∀R:VK,(∀H',Same H H'->R (f i) H')->te ((be n cap σ).set 0 (some (.str ⟨#[c]⟩))) H R)(hq:∀p H,Same H0 H->H p=none->Q (.ref p) (upd H p (.lst ((List.range x.cps.size).map f)))):bV n cap (bw 0) eW te σ (Its x) H0 Q:=by
 refine gQ (N:=x.cps.size) (fun i=>.str ⟨#[x.cps.getD i 0]⟩) f hz (fun i H hi sm=>hi) (fun H sm=>Ze _) (fun i H v H' hi sm y=>?_) (fun i H hi sm R k=>?_) hq
 ·obtain⟨y1,c,hc,rfl⟩:=y;refine⟨y1,?_⟩;simp[ZU,hc]
 ·have e:x.cps[i]?=some x.cps[i]:=by simp[hi]
  have:=he i _ H e sm R k;simpa[ZU,e]using this
section
variable{X:Cx}
theorem Cd:QCall X (.builtin "ord") (fun xs H Q=>∃c:Nat,xs=[.str ⟨#[c]⟩]/\Q (.int (c:Int)) H):=by refine⟨?_⟩;intro pins s σ H xs us Q I r h;obtain⟨c,rfl,q⟩:=h;obtain⟨u,rfl,rx⟩:=ce r;obtain⟨t,rfl⟩:=rx;exact PySem.P.ord_of_char ⟨.int c,H,I.tok _,⟨_,rfl⟩,q⟩
end
section
variable{X:Cx}
theorem EA:QCall X (.builtin "len") (fun xs H Q=>∃x:Str,xs=[.str x]/\x.length<=1000/\Q (.int (x.length:Int)) H):=by refine⟨?_⟩;intro pins s σ H xs us Q I r h;obtain⟨x,rfl,hz,q⟩:=h;obtain⟨u,rfl,rx⟩:=ce r;obtain⟨t,rfl⟩:=rx;exact PyProof.Rows.len_str (by omega) ⟨.int x.length,H,I.tok _,⟨_,rfl⟩,q⟩
end
theorem hO{v:V}{A B:Prop}(hA:A):if decide (v=v)=true then A else B:=by rw[decide_eq_true rfl];exact aK hA
theorem aV{v u:V}{A B:Prop}(h:v≠u)(hB:B):if decide (v=u)=true then A else B:=by rw[decide_eq_false h];exact aE hB
theorem om{x:V}{xs:List V}:atI (x::xs) 0=some x:=eZ (j:=0) rfl
theorem rK:bootBuiltins "str" = some (.type "str"):=by decide +kernel
inductive TV where
 |flat (v:V)
 |tup (xs:List V)
def rp:V->Value->Bool
 |.non,.none=>true
 |.bl b,.bool c=>b==c
 |.int i,.int j _=>i==j
 |.str x,.str y _=>x==y
 |_,_=>false
theorem qH:∀{v:V} {u:Value},rp v u=true->RelV v u:=by
 intro v u h;unfold rp at h;split at h
 ·exact rfl
 ·obtain rfl:=y4.mp h;exact rfl
 ·obtain rfl:=y4.mp h;exact⟨_,rfl⟩
 ·obtain rfl:=y4.mp h;exact⟨_,rfl⟩
 ·cases h
def ug:List V->List Value->Bool
 | [],[]=>true
 |v::vs,u::us=>rp v u&&ug vs us
 |_,_=>false
theorem lA:∀{vs:List V} {us:List Value},ug vs us=true->Vals vs us
 | [],[],_=>.nil
 |_::_,_::_,h=>by have h:=(Zz _ _).mp h;exact .cons (qH h.1) (lA h.2)
 | [],_::_,h=>nomatch h
 |_::_,[],h=>nomatch h
def nS(K:PySem.W.Frag):TV->Value->Bool
 |.flat v,u=>rp v u
 | .tup xs,.ref a=>(match K.lookup a with
  |some o=>o.cls == .type "tuple"&&(match o.data with|.seq its _=>decide (its.size<=1000)&&ug xs its.toList|_=>false)
  | none=>false)
 |_,_=>false
def Ex(K:PySem.W.Frag):TV->Value->Prop
 |.flat v,u=>RelV v u
 |.tup xs,u=>∃a,u=.ref a/\∀H,SqT K H a xs
theorem Hu{K:PySem.W.Frag}(d:TV)(u:Value)(h:nS K d u=true):Ex K d u:=by
 unfold nS at h;split at h
 ·exact qH h
 ·rename_i xs a;split at h
  ·rename_i o ho;obtain⟨e1,e2⟩:=(Zz _ _).mp h;split at e2
   ·rename_i its n hd;obtain⟨e3,e4⟩:=(Zz _ _).mp e2;exact⟨a,rfl,fun H=>.inr ⟨o,its,n,ho,y4.mp e1,hd,de (ZJ e3),lA e4⟩⟩
   ·cases e2
  ·cases h
 ·cases h
structure Tab(K:PySem.W.Frag)(a:Addr)(D:List (Str×TV)):Prop where
 look:KTD.tabLook (nS K) (fun b=>K.lookup b) a D=true
theorem Tab.at{K:PySem.W.Frag}{a:Addr}{D:List (Str×TV)}(T:Tab K a D){h:Heap}(X:K.In h):KTD.TabOf (Ex K) h a D:=KTD.tab_of_look Hu (fun b o e=>X b o e) T.look
section
variable{prog:Program}{w:World}{A:Around}{E:Value->Shared->Prop}{s:Shared}{d:Addr}{o:Obj}{es:Array DictEntry}{ep:Nat}{x:Str}{tx:Tok}
theorem vX{Q:Option Value->Shared->Prop}(ho:s.heap.get? d=some o)(hd:o.data=.dict es ep)(hall:(es.all fun e=>isExactStrKey e.key)=true)(h:Q ((es.toList.find? fun e=>e.key.isStr x).map (·.val)) { s with toks:=s.toks+1 }) :
  wpAny (model prog w) A (dictGet d (.str x tx)) Q E s:=by
 unfold dictGet;(try with_reducible (refine Z4 ?_))
 refine z6 (wpAny_pyHash_str (z6 (KTD.kt_dictFind_strs (s:={ s with toks:=s.toks+1 }) ho hd hall ?_)));have hq:Q (findBy (fun y v=>v.isStr y) es x) { s with toks:=s.toks+1 }:=by
  have hf:findBy (fun y v=>v.isStr y) es x=(es.toList.find? fun e=>e.key.isStr x).map (·.val):=by obtain⟨l⟩:=es;simp[findBy]
  rw[hf];exact h
 rw[findBy_of_findIdx?]at hq;cases hi:es.findIdx? fun e=>e.key.isStr x<;>rw[hi]at hq
 ·exact Za hq
 ·exact z6 (YR (s:={ s with toks:=s.toks+1 }) ho hd (Za hq))
theorem Gw{Q:Value->Shared->Prop}(sy:(d==sysModules)=false)(ex:o.ExactDict)(ho:s.heap.get? d=some o)(hd:o.data=.dict es ep)(hall:(es.all fun e=>isExactStrKey e.key)=true)(h:Q (.bool ((es.toList.find? fun e=>e.key.isStr x).map (·.val)).isSome) { s with toks:=s.toks+1 }):wpAny (model prog w) A (compareOp .In (.str x tx) (.ref d)) Q E s:=by
 have T:s.TypeIs (.ref d) "dict":=⟨o,ho,ex.1⟩
 show wpAny _ _ (do return .bool (←contains (.ref d) (.str x tx))) Q E s;refine z6 ?_;unfold contains;(try with_reducible (refine Z4 ?_))
 refine z6 (wpAny_specialOf T slot_dict_contains.lookup ?_);show wpAny _ _ (if(some (Value.builtin "dict.__contains__")==some Value.none)=true then _ else _) _ _ _;rw[Ju (by rw[beq_builtin_none];decide)];refine z6 (wpAny_callSpecialUnlessNone?_slot (name:=Str.ofString "__contains__") T slot_dict_contains (ZR slot_dict_contains T entry_dict_contains ?_ (args_dict_contains _ _)));show wpAny _ _ (dictGet d (.str x tx) >>= _) _ _ _;refine z6 (vX ho hd hall ?_);cases hv:(es.toList.find? fun e=>e.key.isStr x).map (·.val)with
 |some v =>rw[hv]at h;show wpAny _ _ (ret (.bool true)) _ _ _;exact Za ⟨_,rfl,Yd (Za h)⟩
 |none =>rw[hv]at h;show wpAny _ _ (Builtin.Dict.pendingKey? d (.str x tx) >>= _) _ _ _;exact z6 (wpAny_pendingKey_other sy (Za ⟨_,rfl,Yd (Za h)⟩))
theorem B4{Q:Value->Shared->Prop}{v:Value}(ex:o.ExactDict)(ho:s.heap.get? d=some o)(hd:o.data=.dict es ep)(hall:(es.all fun e=>isExactStrKey e.key)=true)(hv:(es.toList.find? fun e=>e.key.isStr x).map (·.val)=some v)(h:Q v { s with toks:=s.toks+1 }):wpAny (model prog w) A (getItem (.ref d) (.str x tx)) Q E s:=by
 have T:s.TypeIs (.ref d) "dict":=⟨o,ho,ex.1⟩
 unfold getItem;(try with_reducible (refine Z4 ?_))
 refine z6 (wpAny_sequenceKey T (by decide) (z6 (ZS (name:=Str.ofString "__getitem__") T slot_dict_getitem (ZR slot_dict_getitem T entry_dict_getitem ?_ (args_dict_getitem _ _)))));show wpAny _ _ (dictGet d (.str x tx) >>= _) _ _ _;refine z6 (vX ho hd hall ?_);rw[hv];exact Za ⟨v,rfl,Za h⟩
end
section
variable{X:Cx}
def FZ(K:PySem.W.Frag):R2:=fun x y H Q=>∃a k D,x=.str k/\y=.ref a/\Tab K a D/\Q (.bl (KTD.datumAt k D).isSome) H
theorem Dg:QOp X (compareOp .In) (FZ X.K):=by
 refine⟨?_⟩;intro pins s σ H x y v u Q I rx ry h;obtain⟨a,k,D,rfl,rfl,T,q⟩:=h;obtain⟨t,rfl⟩:=rx;cases ry;obtain⟨sy,o,es,ep,ho,ex,hd,hr⟩:=T.at I.kIn;refine Gw sy ex ho hd (by obtain⟨l⟩:=es;simpa using hr.exact) ⟨.bl (KTD.datumAt k D).isSome,H,I.tok _,?_,q⟩;cases e:KTD.datumAt k D with
 |none=>rw[hr.find_none e];rfl
 |some d=>obtain⟨v,hv,_⟩:=hr.find_some e;rw[hv];rfl
def F7(K:PySem.W.Frag):R2:=fun x y H Q=>∃a k D d,x=.ref a/\y=.str k/\Tab K a D/\KTD.datumAt k D=some d/\(match d with|.flat v=>Q v H|.tup xs=>∀t,(∀H',SqT K H' t xs)->Q (.ref t) H)
theorem Hx:QIx X (F7 X.K):=by
 refine⟨?_⟩;intro value slice pins s σ H x y v u Q I rx ry h hs;obtain⟨a,k,D,d,rfl,rfl,T,hk,q⟩:=h;obtain⟨t,rfl⟩:=ry;cases rx;obtain⟨sy,o,es,ep,ho,ex,hd,hr⟩:=T.at I.kIn;obtain⟨v,hv,ok⟩:=hr.find_some hk;have fin:EP X pins σ Q v { s with toks:=s.toks+1 }:=by
  cases d with
  |flat z=>exact⟨z,H,I.tok _,ok,q⟩
  |tup xs =>obtain⟨t,rfl,e⟩:=ok;exact⟨.ref t,H,I.tok _,rfl,q t e⟩
 exact subscriptTail_builtinR (x:=v) (⟨o,ho,ex.1⟩:s.TypeIs (.ref a) "dict") slot_dict_getitem.lookup (B4 (Q:=fun r s'=>r=v/\EP X pins σ Q r s') ex ho hd (by obtain⟨l⟩:=es;simpa using hr.exact) hv ⟨rfl,fin⟩) hs
theorem FV{x:Str}{a:Addr}{pos:Pos}(hm:X.mg x=some (.ref a))(hg:Gl X x:=by rfl)(hd:(x==("__debug__":Str))=false:=by decide):QE X (.Name x pos) (tC (.ref a)):=⟨pA hg hm rfl hd⟩
end
open PySem PySem.Spec PyProof.Rows PySem.W
def CXr(P:Program)(w:World):CXT:=fun outer H s E e s' =>
 ∃(ea t:Addr) (C:Value) (vs:List Value) (B:Heap) (H':Hp) (dc:Option Addr),e=.ref ea/\s'.os=s.os/\AllBare s'.gens/\Un (frs outer) [] H H' s.heap s'.heap/\HOk P w H' s'.heap /\
  Heap.FlyingW B outer ea C (.ref t) s'.heap/\s'.heap.TupAt t vs/\B.get? t=none/\(∀b o,b∉frs outer->((∃u,H' b=some u)\/∃o0,s.heap.get? b=some o0)->s'.heap.get? b=some o->B.get? b=some o)/\dY s'.heap ea dc/\E C dc H'
structure ExCls(K:PySem.W.Frag)(C:Addr):Prop where
 cls:∀h,K.In h->∃nm q N bs bm hdct sn sub ab col dd k0 k1 k2 k3 k5 mN,h.get? C=some (excClassObj nm q C N bs bm hdct sn sub ab col dd k0 k1 k2 k3 k5 "ValueError.__new__")/\h.Ns N mN/\mN "__init__" = none/\bm.contains (.type "BaseException")=true /\
  OwnTail h [.type "ValueError",.type "Exception",.type "BaseException",.type "object"] bm
open PySem PySem.Spec PyProof.Rows PySem.W
theorem Fun.okX{P:Program}{w:World}{K:PySem.W.Frag}{mg:Str->Option Value}{base:Heap}{x qual:Str}{st:Stmt}{f:Addr}{fd:FuncData}{N ps:List Str}{k:Nat}{sp:Sp}(F:Fun K x qual st f fd)(S:FnScope N ps (aq st))(len:∀ vs H Q E,sp vs H Q E->vs.length=ps.length)(hb:∀ (cdv:Value) (A:Around) (outer:List Env) (s:Shared) (H:Hp) (vs:List V) (Q:VK) (E:XK),Room k (A.deeper (envOfC qual (aq st) s.heap.objs.size f cdv))->sp vs H Q E ->
   ∃ t,QB (dO (CXr P w) P w K mg base N qual (aq st) f cdv A outer s H E) (bt st) t/\t { nx:=fun _ H'=>Q .non H',rt:=Q } (start N vs) H):FnOk P w K mg base (CXr P w) (k+1) f fd ps sp:=by
 obtain⟨oc,od,kV,doc,pm,an,cdv,ct,osl,rfl,lk,hcd⟩:=F.ex;exact wI lk hcd S len fun A outer s H vs Q E hr hsp=>let⟨t,h,q⟩:=hb cdv A outer s H vs Q E hr hsp;⟨t,h.h,q⟩
structure FnX(P:Program)(w:World)(K:PySem.W.Frag)(mg:Str->Option Value)(base:Heap)(k:Nat)(x:Str)(ps:List Str)(sp:Sp):Prop where
 ex:∃f fd,FnOk P w K mg base (CXr P w) k f fd ps sp/\mg x=some (.ref f)/\PySem.W.keepIn K (.ref f)=true/\Binds K fd ps []
def XP(X:Cx)(pins:List (Addr×Obj))(σ:St)(E:XK)(e:Value)(s':Shared):Prop:=∃s0 H0,Inv X pins σ H0 s0/\CXr X.prog X.w X.stack H0 s0 E e s'
abbrev TX:=St->Hp->VK->XK->Prop
structure QX(X:Cx)(e:Expr)(t:TX):Prop where
 h:∀(pins:List (Addr×Obj)) (s:Shared) (σ:St) (H:Hp) (Q:VK) (E:XK),Inv X pins σ H s->t σ H Q E->wpAny (model X.prog X.w) X.A (eval e X.env) (EP X pins σ Q) (XP X pins σ E) s
abbrev TSX:=Ends->St->Hp->XK->Prop
structure QSX(X:Cx)(st:Stmt)(t:TSX):Prop where
 h:∀(pins:List (Addr×Obj)) (s:Shared) (σ:St) (H:Hp) (D:Ends) (E:XK),Inv X pins σ H s->t D σ H E->wpAny (model X.prog X.w) X.A (exec st X.env) (SP X pins D) (XP X pins σ E) s
section
variable{X:Cx}{e:Expr}{tx:TX}{pos pos':Pos}{x:Str}
theorem Gj(he:QX X e tx):QSX X (.Return (some e) pos) (fun D σ H E=>tx σ H D.rt E):=by refine⟨?_⟩;intro pins s σ H D E I h;exact wpAny_Return_some (thn (he.h pins s σ H _ E I h) fun v s1 ⟨y,H1,I1,r1,q1⟩=>⟨y,σ,H1,I1,r1,q1⟩)
theorem Ed(he:QX X e tx)(hs:swapsWith e none pos.line X.env=pure false:=by rfl):QSX X (.Expr e pos) (fun D σ H E=>tx σ H (fun _ H1=>D.nx σ H1) E):=by refine⟨?_⟩;intro pins s σ H D E I h;exact wpAny_Expr_any (thn (he.h pins s σ H _ E I h) fun v s1 ⟨y,H1,I1,r1,q1⟩=>⟨σ,H1,I1,q1⟩) I.quiet hs
end
structure Fl(X:Cx)(H0 H':Hp)(s0 s':Shared)(B:Heap):Prop where
 os:s'.os=s0.os
 bare:AllBare s'.gens
 un:Un (frs X.stack) [] H0 H' s0.heap s'.heap
 hok:HOk X.prog X.w H' s'.heap
 kb:∀b o,b∉frs X.stack->((∃u,H' b=some u)\/∃o0,s0.heap.get? b=some o0)->s'.heap.get? b=some o->B.get? b=some o
section
variable{X:Cx}{pins:List (Addr×Obj)}{σ:St}{H0 H':Hp}{s0 s':Shared}{B h':Heap}
theorem Fl.inv(F:Fl X H0 H' s0 s' B)(I:Inv X pins σ H0 s0):Inv X pins σ H' s':=I.call' F.os F.un F.hok F.bare fun _ z=>nomatch z
theorem Fl.nf(F:Fl X H0 H' s0 s' B)(I:Inv X pins σ H0 s0){b:Addr}{u:HO}(h:H' b=some u):b∉frs X.stack:=fun hm=>by have:=(F.inv I).stkFree b hm;rw[h]at this;cases this
theorem Fl.move{tk:Nat}(F:Fl X H0 H' s0 s' B)(I:Inv X pins σ H0 s0)(st:B.StaysIn h')(up:s'.heap.UpToSlots h'):Fl X H0 H' s0 { s' with heap:=h',toks:=tk } B:=by
 have kp:∀b o,b∉frs X.stack->((∃u,H' b=some u)\/∃o0,s0.heap.get? b=some o0)->s'.heap.get? b=some o->h'.get? b=some o:=fun b o h1 h2 h3=>st b o (F.kb b o h1 h2 h3);have sl:∀b o,b∈frs X.stack->s'.heap.get? b=some o->∃sl,h'.get? b=some { o with slots:=sl }:=fun b o hm q=>by obtain⟨_,o',ho',hd⟩:=(F.inv I).stack.mem hm;have e:s'.heap.get? b=some o':=ho';rw[q]at e;cases e;exact up b o q hd
 refine⟨F.os,F.bare,⟨fun b o q n hb hx=>kp b o hb (.inr ⟨o,q⟩) (F.un.keep b o q n hb hx),fun b o q n hb hx=>?_,F.un.free,fun b o q hx=>?_,F.un.tups,F.un.frzs,F.un.tbls⟩,fun b u q=>?_,fun b o hb ho q=>?_⟩
 ·obtain⟨s1,e1⟩:=F.un.slot b o q n hb hx;obtain⟨s2,e2⟩:=sl b _ hb e1;exact⟨s2,e2⟩
 ·obtain⟨o',e1⟩:=F.un.there b o q hx;by_cases hb:b∈frs X.stack
  ·obtain⟨s2,e2⟩:=sl b o' hb e1;exact⟨_,e2⟩
  ·exact⟨o',kp b o' hb (.inr ⟨o,q⟩) e1⟩
 ·refine(F.hok b u q).stay (fun c v hc z=>kp c v ?_ ?_ z) (fun _ z=>z) fun _ _ z=>z
  ·rcases hc with z'|z'
   ·rw[z'];exact F.nf I q
   ·exact F.nf I z'
  ·rcases hc with z'|z'
   ·rw[z'];exact .inl ⟨u,q⟩
   ·exact .inl ⟨_,z'⟩
 ·obtain⟨o1,q1⟩:∃o1,s'.heap.get? b=some o1:=by
   rcases ho with⟨u,z⟩|⟨o0,z⟩
   ·exact gC (F.hok b u z)
   ·exact F.un.there b o0 z (by simp)
  have q2:=kp b o1 hb ho q1;have q':h'.get? b=some o:=q;rw[q']at q2;cases q2;exact F.kb b o hb ho q1
end
structure ExC(K:PySem.W.Frag)(C:Addr)(bm:List Value):Prop where
 cls:∀h,K.In h->∃nm q N bs hdct sn sub ab col dd k0 k1 k2 k3 k5 ni,h.get? C=some (excClassObj nm q C N bs bm hdct sn sub ab col dd k0 k1 k2 k3 k5 ni)
 exc:bm.contains (.type "BaseException")=true
theorem kW{M:Model}{A:Around}{E:Value->Shared->Prop}{s:Shared}{e C T:Addr}{oe:Obj}{bmC bmT:List Value}{K:PySem.W.Frag}{Q:Bool->Shared->Prop}(hC:ExC K C bmC)(hT:ExC K T bmT)(hk:K.In s.heap)(he:s.heap.get? e=some oe)(hcls:oe.cls=.ref C)(hq:Q ((Value.ref C::bmC).contains (.ref T)) s):wpAny M A (excMatches (.ref e) (.ref T)) Q E s:=by
 obtain⟨nm,q,N,bs,hdct,sn,sub,ab,col,dd,k0,k1,k2,k3,k5,ni,oC⟩:=hC.cls _ hk;obtain⟨nm',q',N',bs',hdct',sn',sub',ab',col',dd',k0',k1',k2',k3',k5',ni',oT⟩:=hT.cls _ hk;obtain⟨hp,g,d,tk,os⟩:=s;have hcB:(Value.ref T::bmT).contains (.type "BaseException")=true:=by rw[List.contains_cons,hT.exc,Bool.or_true]
 have f:=tc_notTuple;unfold excMatches;generalize hr:(Value.ref C::bmC).contains (Value.ref T)=r at hq
 repeat(first|(with_reducible refine x5 he ?_;rw[hcls])|with_reducible refine x5 oT ?_|(with_reducible refine wpAny_isSubtype_exc oT ?_;rw[hcB])|(with_reducible refine wpAny_isSubtype_exc oC ?_;rw[hr])|wp_step)
 cases r<;>(first|exact hq|(wp_walk;exact hq))
theorem gW{X:Cx}{pins:List (Addr×Obj)}{σ:St}{H:Hp}{s:Shared}{M:Model}{A:Around}{E:Value->Shared->Prop}{i:Nat}{n:Str}{pos:Pos}{Q:Unit->Shared->Prop}(I:Inv X pins σ H s)(hN:X.N.Nodup)(hi:X.N[i]?=some n)(hl:X.env.kindOf n=some .local)(h:∀s',Inv X pins (σ.set i none) H s'->Q () s'):wpAny M A (do bindName X.env n .none;unbindBehindTheSuite X.env n pos) Q E s:=by
 obtain⟨m,hn,hv⟩:=id I.loc;refine wpAny_nameGoes_keeps hl hn (by rw[I.ok.kind];rfl) fun h' v hn' hs=>h _ ?_;obtain⟨oL,_,_,hoL,_⟩:=id hn;have cne:=I.cne;have lt:∀b o,X.s₀.heap.get? b=some o->b≠X.env.locals:=fun b o q=>Zv (Zw (Zn q) I.ok.above);refine⟨I.ok,I.os,I.bare,⟨fun b o e n hb hx=>(hs.2 b (lt b o e)).trans (I.base.keep b o e n hb hx),fun b o e n hb hx=>?_,I.base.free,fun b o e hx=>?_,I.base.tups,I.base.frzs,I.base.tbls⟩,⟨_,hn',fun j y v' e1 e2 e3=>?_⟩,fun y c e=>?_,I.free,I.freeC,fun p hp=>?_,fun b u q=>?_,by simpa using I.len⟩
 ·obtain⟨sl,e1⟩:=I.base.slot b o e n hb hx;exact⟨sl,(hs.2 b (lt b o e)).trans e1⟩
 ·obtain⟨o',e1⟩:=I.base.there b o e hx;exact⟨o',(hs.2 b (lt b o e)).trans e1⟩
 ·have hj:j≠i:=fun z=>by
   subst z;have hz:j<σ.length:=by have:=(ZH.mp e2).1;simpa using this
   rw[List.getElem?_set_self hz]at e2;cases e2
  rw[List.getElem?_set_ne (Yx hj)]at e2;obtain⟨u',r',q⟩:=hv j y v' e1 e2 e3;refine⟨u',r',?_⟩;rcases q with⟨k,e⟩|⟨k,c,e,z⟩
  ·refine .inl ⟨k,?_⟩;have:y≠n:=fun e=>hj (lS hN e1 (e▸hi));simp[this,e]
  ·exact .inr ⟨k,c,e,z.sameBut hs (cne y c e)⟩
 ·obtain⟨w',z⟩:=I.cell y c e;exact⟨w',z.sameBut hs (cne y c e)⟩
 ·obtain⟨e,n,ne,nf,d⟩:=I.pin p hp;exact⟨(hs.2 p.1 ne).trans e,n,ne,nf,d⟩
 ·refine(I.hok b u q).stay (fun c w' hc z=>(hs.2 c ?_).trans z) (fun _ z=>z) fun _ _ z=>z;rintro rfl;rcases hc with z'|z'
  ·rw[<-z',I.free]at q;cases q
  ·rw[I.free]at z';cases z'
def Cx.exc(X:Cx)(e:Value):Cx:={ X with A:=X.A.mark (some e),calm:=false,xe:=fun _ _=>False }
section
variable{X:Cx}{pins:List (Addr×Obj)}{σ:St}{H:Hp}{s:Shared}{e:Value}
theorem Inv.exc(I:Inv X pins σ H s)(e:Value):Inv (X.exc e) pins σ H s :=
 ⟨⟨I.ok.mod,I.ok.kind,I.ok.glob,I.ok.blt,I.ok.above,I.ok.inj,I.ok.has,I.ok.cab,fun z=>(nomatch z),I.ok.frames,I.ok.stk,I.ok.exf,I.ok.bs,I.ok.bsz,I.ok.noex,I.ok.exfs,I.ok.funs,I.ok.frf⟩,I.os,I.bare,I.base,I.loc,I.cell,I.free,I.freeC,I.pin,I.hok,I.len⟩
theorem Inv.unexc(ok:X.Ok)(I:Inv (X.exc e) pins σ H s):Inv X pins σ H s:=⟨ok,I.os,I.bare,I.base,I.loc,I.cell,I.free,I.freeC,I.pin,I.hok,I.len⟩
end
abbrev TH:=Ends->St->Value->Option Addr->Hp->Prop
structure QH(X:Cx)(hs:List ExceptHandler)(th:TH):Prop where
 h:∀(pins:List (Addr×Obj)) (s0:Shared) (H0:Hp) (σ:St) (D:Ends) (ea t:Addr) (C:Value) (B:Heap) (H':Hp) (dc:Option Addr) (s':Shared),Inv X pins σ H0 s0->Fl X H0 H' s0 s' B->Heap.FlyingW B X.stack ea C (.ref t) s'.heap->dY s'.heap ea dc->th D σ C dc H' ->
  wpAny (model X.prog X.w) X.A (handleBy (.ref ea) X.env hs) (SP X pins D) X.xe s'
section
variable{X:Cx}
def Ik(tb:TSX)(th:TH):TS:=fun D σ H=>tb D σ H fun C dc H1=>th D σ C dc H1
theorem zS{st:Stmt}{tb:TSX}{th:TH}{h0:ExceptHandler}{hs:List ExceptHandler}{pos:Pos}(hst:X.stack=X.env::X.outer)(hfr:X.env.frame=some X.env.locals)(hb:QSX X st tb)(hh:QH X (h0::hs) th) :
  QS X (.Try [st] (h0::hs) [] [] pos) (Ik tb th):=by
 refine⟨?_⟩;intro pins s σ H D I h;refine wpAny_Try_except (wpAny_execs_cons (ZX (hb.h pins s σ H D _ I h) (fun f s1 q=>?_) (fun e s1 x=>?_)))
 ·cases f with
  |next=>exact wpAny_execs_nil (wpAny_execs_nil q)
  |brk=>exact q
  |cont=>exact q
  |ret v=>exact q
 ·obtain⟨s0,H0,I0,ea,t,C,vs,B,H',dc,rfl,os,bare,un,hok,fly,tup,hBt,kb,dd,q⟩:=x;have F:Fl X H0 H' s0 s1 B:=⟨os,bare,un,hok,kb⟩
  have fr:X.A.frames=some (X.env::X.outer):=by rw[<-hst];exact I.ok.frames
  rw[hst]at fly;refine mO fr hfr fly dd fun h4 held up4 dd4=>?_;obtain⟨f1,f2,f3,f4⟩:=held;refine fT f1 f3 f4 dd4 fun h5 k1 k2 k3 up5 dd5=>?_;have F5:=(F.move (tk:=s1.toks) I0 k1 (up4.trans up5))
  rw[<-hst]at k2;exact hh.h pins s0 H0 σ D ea t C B H' dc _ I0 F5 ⟨k1,f2,k2,k3⟩ dd5 q
end
open PySem PySem.Spec PyProof.Rows PySem.W
abbrev VE:List Value:=[.type "ValueError",.type "Exception",.type "BaseException",.type "object"]
structure ExcAt(K:PySem.W.Frag)(C:Addr)(bm:List Value):Prop where
 isIn:excIn K C VE "ValueError.__new__" = true
 mro:∃c d cd sl,K.lookup C=some ⟨c,d,.cls cd,sl⟩/\cd.mro=Value.ref C::bm
 exc:bm.contains (.type "BaseException")=true
theorem yz{K:PySem.W.Frag}{C:Addr}{bm:List Value}(q:ExcAt K C bm){h:Heap}(X:K.In h) :
  ∃nm qn N bs hdct sn sub ab col dd k0 k1 k2 k3 k5 mN,h.get? C=some (excClassObj nm qn C N bs bm hdct sn sub ab col dd k0 k1 k2 k3 k5 "ValueError.__new__")/\h.Ns N mN/\mN "__init__" = none/\OwnTail h VE bm:=by
 have q1:=q.isIn;obtain⟨c9,d9,cd9,sl9,l9,m9⟩:=q.mro;unfold excIn at q1;split at q1
 ·rename_i dd cd sl ho;split at q1
  ·rename_i C' bm' k0 k1 k2 k3 n k5 hm hs;have q2:cd.mro=Value.ref C::bm:=by have z:=ho.symm.trans l9;cases z;exact m9
   rw[hm]at q2;injection q2 with z1 z2;injection z1 with z1;cases z1;cases z2;simp only[Zz,y4,Bool.not_eq_true']at q1;obtain⟨⟨⟨⟨⟨_,rfl⟩,nd⟩,ht⟩,ok⟩,ni⟩:=q1;have es:sl=#[k0,k1,k2,k3,some (.builtin "ValueError.__new__"),k5]:=by obtain⟨l⟩:=sl;simp only at hs;rw[hs]
   cases es;obtain⟨nm,bs,mro,ns,qn,hd,sn,sub,ab,col,del⟩:=cd;dsimp only at hm nd ok ni;cases hm;cases nd;exact⟨nm,qn,ns,bs,hd,sn,sub,ab,col,dd,k0,k1,k2,k3,k5,_,X _ _ ho,.of_isNs (isNs_of_in X ok),nsMap_none_of_in X ok ni,tail_of_in X ht⟩
  ·cases q1
 ·cases q1
theorem EH{K:PySem.W.Frag}{C:Addr}{bm:List Value}(q:ExcAt K C bm):ExC K C bm where
 cls:=fun h X=>by obtain⟨nm,qn,N,bs,hdct,sn,sub,ab,col,dd,k0,k1,k2,k3,k5,mN,e,_⟩:=yz q X;exact⟨nm,qn,N,bs,hdct,sn,sub,ab,col,dd,k0,k1,k2,k3,k5,_,e⟩
 exc:=q.exc
structure ExK(K:PySem.W.Frag)(c:Addr):Prop where
 hc:(clsIn K c).isSome=true
 hga:findIn K (.ref c) "__getattribute__" = some (some (.builtin "BaseException.__getattribute__"))
 hgh:findIn K (.ref c) "__getattr__" = some none
 ha:findIn K (.ref c) "__class__" = some (some (.builtin "object.__class__"))
 hb:mroIn K c (.type "BaseException")=some true
 hm:mroIn K c (.type "object")=some true
open PySem PySem.Spec PyProof.Rows PySem.W
theorem AY{J:It}{N n:Nat}{cap:List Nat}{g:TG}{te:TE}{σ:St}{H0:Hp}{Q:VK}(Pv:Nat->List V->Hp->Prop)(hz:N<=1000)(hn:∀i ys H,Pv i ys H->ys.length=i)(h0:Pv 0 [] H0)(hgo:∀i ys H,i<N->Pv i ys H->J.go i H)(hst:∀ys H,Pv N ys H->J.stop N H)(ht:∀i ys H x H',i<N->Pv i ys H->J.yld i H x H'->∀A:VK,(∀v H4,Pv (i+1) (ys++[v]) H4->A v H4)->g x (be n cap σ) H' fun σ2 H2=>te σ2 H2 A)(hq:∀ys p H,Pv N ys H->H p=none->Q (.ref p) (upd H p (.lst ys))):bV n cap g eW te σ J H0 Q:=by
 refine⟨fun i m ys H=>m=N-i/\i<=N/\Pv i ys H,⟨N,by simp,ZT _,h0⟩,?_⟩;rintro i m ys H ⟨rfl,hi,pv⟩;by_cases hlt:i<N
 ·refine .inr ⟨hgo i ys H hlt pv,by rw[hn i ys H pv];exact fK (by omega),fun x H' y=>?_⟩;have k:=ht i ys H x H' hlt pv y (fun v H4=>∃m',m'<N-i/\m'=N-(i+1)/\i+1<=N/\Pv (i+1) (ys++[v]) H4) (fun v H4 z=>⟨N-(i+1),by omega,rfl,hlt,z⟩);unfold eW;simpa using k
 ·have e:i=N:=by omega
  subst e;exact .inl ⟨hst ys H pv,fun p hp=>hq ys p H pv hp⟩
open PySem PySem.Spec PyProof.Rows PySem.W
open PySem PySem.Spec PyProof.Rows PySem.W
theorem G1{X:Cx}:QOp X (compareOp .Is) (fun x y H Q=>∃b c,x=.bl b/\y=.bl c/\Q (.bl (decide (b=c))) H):=by refine⟨?_⟩;intro pins s σ H x y v u Q I rx ry h;obtain⟨b,c,rfl,rfl,q⟩:=h;cases rx;cases ry;cases b<;>cases c<;>exact Za ⟨.bl _,H,I,rfl,q⟩
open PySem PySem.Spec PyProof.Rows PySem.W
def KIn{α:Type}(n:Nat)(P:α->Prop):KasT α->Prop
 |.ret a=>P a
 |.ask i j k=>i<n/\j<n/\∀b,KIn n P (k b)
theorem KIn.bind{α β:Type}{n:Nat}{P:α->Prop}{R:β->Prop}{f:α->KasT β}:∀{t:KasT α},KIn n P t->(∀a,P a->KIn n R (f a))->KIn n R (t.bind f)
 |.ret _,h,k=>k _ h
 |.ask _ _ _,⟨h1,h2,h3⟩,k=>⟨h1,h2,fun b=>KIn.bind (h3 b) k⟩
def POk(n:Nat)(p:Array Nat):Prop:=p.Perm (List.range n).toArray
theorem POk.lt{n:Nat}{p:Array Nat}(h:POk n p)(hn:0<n)(k:Nat):p.getD k 0<n:=by
 rw[ZU];cases e:p[k]? with
 |none=>exact hn
 |some x =>have hm:x∈p:=Array.mem_of_getElem? e;have:=(h.mem_iff).mp hm;simpa using this
theorem POk.rev{n:Nat}{p:Array Nat}(h:POk n p)(i j:Nat):POk n (kas_rev p i j):=(mirror_perm p i j _).trans h
theorem POk.bub{n:Nat}{p:Array Nat}(h:POk n p)(i j:Nat):POk n (bubble p i j):=(bubble_perm p i j).trans h
theorem oS{n:Nat}(hn:0<n){p:Array Nat}(h:POk n p):∀f k,KIn n (fun _=>True) (kas_asc p f k)
 |0,_=>trivial
 | f+1,k=>⟨h.lt hn _,h.lt hn _,fun c=>by
  cases c with
  |true=>exact trivial
  | false=>exact oS hn h f (k+1)⟩
theorem iU{n:Nat}(hn:0<n):∀(f:Nat) {p:Array Nat},POk n p->∀k q,KIn n (fun r=>POk n r.1) (kas_desc f p k q)
 |0,_,h,_,_=>h
 |f+1,p,h,k,q=>by
  refine⟨h.lt hn _,h.lt hn _,fun c=>?_⟩;cases c with
  |true =>
   show KIn n _ (if q>0 then _ else _);split
   ·exact iU hn f (h.rev _ _) _ _
   ·exact iU hn f h _ _
  |false =>
   refine⟨h.lt hn _,h.lt hn _,fun d=>?_⟩;cases d with
   |true=>exact h
   |false=>exact iU hn f h _ _
theorem ss{n:Nat}(hn:0<n){p:Array Nat}(h:POk n p)(k r:Nat):KIn n (fun r=>POk n r.2) (kas_tail3 k r p):=KIn.bind (oS hn (h.rev 0 k) _ _) fun _ _=>h.rev 0 k
theorem jw{n:Nat}(hn:0<n){p:Array Nat}(h:POk n p)(k r:Nat):KIn n (fun r=>POk n r.2) (kas_descPart k r p):=KIn.bind (iU hn _ h _ _) fun x hx=>by
 show KIn n _ (if x.2.2>0 then _ else _);split
 ·exact ss hn (hx.rev _ _) _ _
 ·exact ss hn hx _ _
theorem yQ{n:Nat}(hn:0<n){p:Array Nat}(h:POk n p)(r:Nat):KIn n (fun r=>POk n r.2) (kas_count r p):=KIn.bind (oS hn h _ _) fun k _=>by
 show KIn n _ (if(k==r)=true then _ else if k>1 then _ else _);split
 ·exact h
 ·split
  ·refine⟨h.lt hn _,h.lt hn _,fun c=>?_⟩;cases c with
   |true=>exact h
   |false=>exact jw hn (h.rev _ _) _ _
  ·exact jw hn h _ _
theorem jx{n:Nat}(hn:0<n){p:Array Nat}(h:POk n p)(k:Nat):∀f l r,KIn n (fun _=>True) (kas_place p k f l r)
 |0,_,_=>trivial
 |f+1,l,r=>by
  show KIn n _ (if l>=r then _ else _);split
  ·exact trivial
  ·refine⟨h.lt hn _,h.lt hn _,fun c=>?_⟩;cases c with
   |true=>exact jx hn h k f _ _
   |false=>exact jx hn h k f _ _
theorem vt{n:Nat}(hn:0<n):∀(f:Nat) {p:Array Nat},POk n p->∀k,KIn n (POk n) (kas_bin f p k)
 |0,_,h,_=>h
 |f+1,_,h,k=>KIn.bind (jx hn h k _ _ _) fun _ _=>vt hn f (h.bub _ _) (k+1)
theorem Bb{n:Nat}(hn:0<n):KIn n (POk n) (kas_sort n):=KIn.bind (yQ hn (Array.Perm.refl _) _) fun r hr=>by
 show KIn n _ (if r.1<n then _ else _);split
 ·exact vt hn _ hr _
 ·exact hr
section
variable{X:Cx}
theorem yg{K:PySem.W.Frag}(hK:X.K=K)(hc:X.calm=true):QCall X (.builtin "sum") (fun xs H Q=>∃(p:Addr) (ns:List Int),xs=[.ref p]/\SqT K H p (ns.map V.int)/\Q (.int ns.sum) H):=by
 subst hK;refine⟨?_⟩;intro pins s σ H xs us Q I r h;obtain⟨p,ns,rfl,hS,q⟩:=h;obtain⟨u,rfl,ru⟩:=ce r;cases ru;obtain⟨its,rv,pl,hz⟩:=I.tuple hS;obtain⟨ys,e1,e2⟩:=mH (cH rv);have hl:s.heap.IsTuple p (intItems ys.toArray):=by obtain⟨o,ho,hc',n,hd⟩:=pl;rw[e1]at hd;exact⟨o,ho,hc',n,by simpa[intItems]using hd⟩
 refine ktm_sumG (I.ok.hd hc) hl fun h' tk t' hk=>⟨.int ns.sum,H,I.kept (t':=tk) hk,⟨t',?_⟩,q⟩
 have e:preSum (numAt ys.toArray) ys.toArray.size=ns.sum:=by rw[preSum_eq,y9 (by simp),e2]
 rw[e]
theorem G2:QOp X (binaryOp .Mult) F9:=⟨Fg⟩
end
open PySem PySem.Spec PyProof.Rows PySem.W
def KW{α:Type}(lt:Nat->Nat->Bool)(Q:α->Prop):KasT α->Prop
 |.ret a=>Q a
 |.ask i j k=>KW lt Q (k (lt i j))
theorem KW.bind{α β:Type}{lt:Nat->Nat->Bool}{Q:β->Prop}{f:α->KasT β}:∀{t:KasT α},KW lt (fun a=>KW lt Q (f a)) t->KW lt Q (t.bind f)
 |.ret _,h=>h
 |.ask i j k,h=>KW.bind (t:=k (lt i j)) h
theorem KW.mono{α:Type}{lt:Nat->Nat->Bool}{Q R:α->Prop}(k:∀a,Q a->R a):∀{t:KasT α},KW lt Q t->KW lt R t
 |.ret _,h=>k _ h
 |.ask i j c,h=>KW.mono k (t:=c (lt i j)) h
structure LtOk(lt:Nat->Nat->Bool):Prop where
 as:∀{a b},lt a b=true->lt b a=false
 tr:∀{a b c},lt b a=false->lt c b=false->lt c a=false
def gA(p:Array Nat)(k:Nat):Nat:=p.getD k 0
def Lx(lt:Nat->Nat->Bool)(a b:Nat):Prop:=lt b a=false/\(lt a b=true\/a<b)
section
variable{lt:Nat->Nat->Bool}(O:LtOk lt)
include O
theorem LtOk.lt_le{a b c:Nat}(h:lt a b=true)(h2:lt c b=false):lt a c=true:=by
 cases e:lt a c with
 |true=>rfl
 |false=>rw[O.tr h2 e]at h;cases h
theorem LtOk.le_lt{a b c:Nat}(h:lt b a=false)(h2:lt b c=true):lt a c=true:=by
 cases e:lt a c with
 |true=>rfl
 |false=>rw[O.tr e h]at h2;cases h2
theorem Lx.trans{a b c:Nat}(h:Lx lt a b)(k:Lx lt b c):Lx lt a c:=by
 refine⟨O.tr h.1 k.1,?_⟩;rcases h.2 with x|x
 ·exact .inl (O.lt_le x k.1)
 ·rcases k.2 with y|y
  ·exact .inl (O.le_lt h.1 y)
  ·exact .inr (Nat.lt_trans x y)
theorem Lx.of_lt{a b:Nat}(h:lt a b=true):Lx lt a b:=⟨O.as h,.inl h⟩
end
structure Fx(N:Nat)(p:Array Nat)(m:Nat):Prop where
 sz:p.size=N
 hi:∀k,m<=k->k<N->gA p k=k
 lo:∀i,i<m->gA p i<m
def LS(lt:Nat->Nat->Bool)(p:Array Nat)(m:Nat):Prop:=∀i j,i<j->j<m->Lx lt (gA p i) (gA p j)
def AS(lt:Nat->Nat->Bool)(p:Array Nat)(m:Nat):Prop:=∀i j,i<j->j<m->Lx lt (gA p j) (gA p i)
theorem Fx.succ{N:Nat}{p:Array Nat}{m:Nat}(h:Fx N p m)(hm:m<N):Fx N p (m+1):=⟨h.sz,fun k h1 h2=>h.hi k (by omega) h2,fun i hi=>by
 rcases Z6 i m with h1|h1
 ·have:=h.lo i h1;omega
 ·have e:i=m:=by omega
  subst e;rw[h.hi i (Ze _) hm];omega⟩
theorem cO{p:Array Nat}{i j k:Nat}(hj:j<=p.size):gA (kas_rev p i j) k=if i<=k/\k<j then gA p (i+j-1-k)else gA p k:=by
 unfold gA kas_rev;rw[ZU,getElem?_mirror_all hj];split
 ·rw[ZU]
 ·rw[ZU]
theorem gR(p:Array Nat)(k:Nat):gA p k=(p[k]?).getD 0:=by unfold gA;rw[ZU]
theorem yG{p:Array Nat}{k d i:Nat}(hk:k<p.size)(hd:d<=k):gA (bubble p k d) i=if i=k-d then gA p k else if k-d<i/\i<=k then gA p (i-1)else gA p i:=by
 rw[gR,getElem?_bubble hk d hd];split
 ·rw[gR]
 ·split
  ·rw[gR]
  ·rw[gR]
theorem Fx.rev{N:Nat}{p:Array Nat}{m i j:Nat}(h:Fx N p m)(hj:j<=m)(hm:m<=N):Fx N (kas_rev p i j) m:=by
 have hs:j<=p.size:=by rw[h.sz];omega
 refine⟨by rw[kas_rev_size];exact h.sz,fun k h1 h2=>?_,fun k hk=>?_⟩
 ·rw[cO hs,Ju (by omega)];exact h.hi k h1 h2
 ·rw[cO hs];split
  ·exact h.lo _ (by omega)
  ·exact h.lo _ hk
section
variable{lt:Nat->Nat->Bool}(O:LtOk lt){N:Nat}
include O
theorem LS.step{p:Array Nat}{n:Nat}(h:LS lt p n)(hx:Lx lt (gA p (n-1)) (gA p n))(h1:1<=n):LS lt p (n+1):=fun i j hij hj=>by
 rcases Z6 j n with h2|h2
 ·exact h i j hij h2
 ·have e:j=n:=by omega
  subst e;rcases Z6 i (j-1)with h3|h3
  ·exact(h i (j-1) h3 (by omega)).trans O hx
  ·have e:i=j-1:=by omega
   subst e;exact hx
theorem sx{p:Array Nat}:∀(f n:Nat),1<=n->n+f<=N->Fx N p n->LS lt p n->KW lt (fun m=>n<=m/\m<=n+f/\Fx N p m/\LS lt p m/\(m<n+f->lt (gA p m) (gA p (m-1))=true)) (kas_asc p f n)
 |0,n,_,_,hf,hs=>⟨Ze _,Ze _,hf,hs,fun h=>absurd h (by omega)⟩
 |f+1,n,h1,hN,hf,hs=>by
  show KW lt _ (if lt (gA p n) (gA p (n-1))=true then .ret n else kas_asc p f (n+1));by_cases c:lt (gA p n) (gA p (n-1))=true
  ·rw[Jv c];exact⟨Ze _,by omega,hf,hs,fun _=>c⟩
  ·rw[Ju c];have c':=y7.mpr c;have hx:Lx lt (gA p (n-1)) (gA p n):=⟨c',.inr (by rw[hf.hi n (Ze _) (by omega)];exact hf.lo _ (by omega))⟩
   refine KW.mono (fun m hm=>?_) (sx f (n+1) (by omega) (by omega) (hf.succ (by omega)) (hs.step O hx h1));exact⟨by omega,by omega,hm.2.2.1,hm.2.2.2.1,fun z=>hm.2.2.2.2 (by omega)⟩
theorem AS.rev{p:Array Nat}{n:Nat}(h:AS lt p n)(hn:n<=p.size):LS lt (kas_rev p 0 n) n:=fun i j hij hj=>by rw[cO hn,cO hn,Jv (by omega),Jv (by omega)];exact h _ _ (by omega) (by omega)
theorem vA{p:Array Nat}{n:Nat}(h1:1<=n)(hN:n<=N)(hf:Fx N p n)(ha:AS lt p n):KW lt (fun r=>r.1<=N/\1<=r.1/\Fx N r.2 r.1/\LS lt r.2 r.1) (kas_tail3 n N p):=by refine KW.bind (KW.mono (fun m hm=>?_) (sx O (N:=N) (N-n) n h1 (by omega) (hf.rev (Ze _) hN) (ha.rev O (by rw[hf.sz];exact hN))));exact⟨by omega,by omega,hm.2.2.1,hm.2.2.2.1⟩
structure Dn(lt:Nat->Nat->Bool)(p:Array Nat)(n q:Nat):Prop where
 hq:q+1<=n
 up:∀i j,i<j->j<n-(q+1)->Lx lt (gA p j) (gA p i)
 cr:∀i j,i<n-(q+1)->n-(q+1)<=j->j<n->lt (gA p j) (gA p i)=true
 eq:∀i j,n-(q+1)<=i->i<j->j<n->lt (gA p i) (gA p j)=false/\lt (gA p j) (gA p i)=false/\gA p i<gA p j
theorem Dn.rev{p:Array Nat}{n q:Nat}(h:Dn lt p n q)(hn:n<=p.size):AS lt (kas_rev p (n-(q+1)) n) n:=fun i j hij hj=>by
 have hq:=h.hq;rw[cO hn,cO hn];by_cases c1:n-(q+1)<=i
 ·rw[Jv (by omega),Jv (by omega)];obtain⟨e1,e2,e3⟩:=h.eq (n-(q+1)+n-1-j) (n-(q+1)+n-1-i) (by omega) (by omega) (by omega);exact⟨e2,.inr e3⟩
 ·rw[Ju (show¬(n-(q+1)<=i/\i<n) by omega)];by_cases c2:n-(q+1)<=j
  ·rw[Jv (by omega)];exact Lx.of_lt O (h.cr _ _ (by omega) (by omega) (by omega))
  ·rw[Ju (by omega)];exact h.up _ _ hij (by omega)
theorem Dn.zero{p:Array Nat}{n:Nat}(h:Dn lt p n 0):AS lt p n:=fun i j hij hj=>by
 rcases Z6 j (n-1)with c|c
 ·exact h.up i j hij c
 ·exact Lx.of_lt O (h.cr i j (by omega) (by omega) hj)
theorem Dn.start{p:Array Nat}{n:Nat}(h:AS lt p n)(h1:1<=n)(hl:lt (gA p n) (gA p (n-1))=true):Dn lt p (n+1) 0:=by
 refine⟨by omega,fun i j hij hj=>h i j hij (by omega),fun i j hi h2 h3=>?_,fun i j h2 h3 h4=>absurd h3 (by omega)⟩;have e:j=n:=by omega
 subst e;rcases Z6 i (j-1)with h3|h3
 ·exact O.lt_le hl (h i (j-1) h3 (by omega)).1
 ·have e:i=j-1:=by omega
  subst e;exact hl
theorem km:∀(f:Nat) {p:Array Nat} {n q:Nat},n+f<=N->Fx N p n->Dn lt p n q->KW lt (fun r=>n<=r.2.1/\r.2.1<=n+f/\Fx N r.1 r.2.1/\Dn lt r.1 r.2.1 r.2.2) (kas_desc f p n q)
 |0,_,n,_,_,hf,hd=>⟨Ze _,Ze _,hf,hd⟩
 |f+1,p,n,q,hN,hf,hd=>by
  have hs:n<=p.size:=by rw[hf.sz];omega
  have hq:=hd.hq;show KW lt _ (if lt (gA p n) (gA p (n-1))=true then(if q>0 then kas_desc f (kas_rev p (n-(q+1)) n) (n+1) 0 else kas_desc f p (n+1) 0)else KasT.ask (gA p (n-1)) (gA p n) fun d=>if d=true then .ret (p,n,q)else kas_desc f p (n+1) (q+1));by_cases c:lt (gA p n) (gA p (n-1))=true
  ·rw[Jv c];have wk:∀{r:Array Nat×Nat×Nat},(n+1<=r.2.1/\r.2.1<=n+1+f/\Fx N r.1 r.2.1/\Dn lt r.1 r.2.1 r.2.2)->n<=r.2.1/\r.2.1<=n+(f+1)/\Fx N r.1 r.2.1/\Dn lt r.1 r.2.1 r.2.2:=fun h=>⟨by omega,by omega,h.2.2.1,h.2.2.2⟩
   by_cases cq:q>0
   ·rw[Jv cq];have fr:=hf.rev (i:=n-(q+1)) (Ze n) (by omega);have e1:gA (kas_rev p (n-(q+1)) n) n=gA p n:=by rw[cO hs,Ju (by omega)]
    have e2:gA (kas_rev p (n-(q+1)) n) (n-1)=gA p (n-(q+1)):=by rw[cO hs,Jv (by omega)];congr 1;omega
    have l2:lt (gA p n) (gA p (n-(q+1)))=true:=O.lt_le c (hd.eq (n-(q+1)) (n-1) (Ze _) (by omega) (by omega)).1;refine KW.mono (fun r h=>wk h) (km f (by omega) (fr.succ (by omega)) (Dn.start O (hd.rev O hs) (by omega) (by rw[e1,e2];exact l2)))
   ·rw[Ju cq];have e:q=0:=by omega
    subst e;exact KW.mono (fun r h=>wk h) (km f (by omega) (hf.succ (by omega)) (Dn.start O (hd.zero O) (by omega) c))
  ·rw[Ju c];have c':=y7.mpr c;show KW lt _ (if lt (gA p (n-1)) (gA p n)=true then _ else _);by_cases d:lt (gA p (n-1)) (gA p n)=true
   ·rw[Jv d];exact⟨Ze _,Nat.le_add_right _ _,hf,hd⟩
   ·rw[Ju d];have d':=y7.mpr d;have gn:gA p n=n:=hf.hi n (Ze _) (by omega);have same:∀i,n-(q+1)<=i->i<n->lt (gA p i) (gA p n)=false/\lt (gA p n) (gA p i)=false:=fun i h1 h2=>by
     rcases Z6 i (n-1)with h3|h3
     ·obtain⟨a1,a2,_⟩:=hd.eq i (n-1) h1 h3 (by omega);exact⟨O.tr d' a1,O.tr a2 c'⟩
     ·have e:i=n-1:=by omega
      subst e;exact⟨d',c'⟩
    refine KW.mono (fun r h=>⟨by omega,by omega,h.2.2.1,h.2.2.2⟩) (km f (n:=n+1) (q:=q+1) (by omega) (hf.succ (by omega)) ⟨by omega,fun i j hij hj=>hd.up i j hij (by omega),fun i j hi h2 h3=>?_,fun i j h1 h2 h3=>?_⟩)
    ·rcases Z6 j n with h4|h4
     ·exact hd.cr i j (by omega) (by omega) h4
     ·have e:j=n:=by omega
      subst e;exact O.le_lt d' (hd.cr i (j-1) (by omega) (by omega) (by omega))
    ·rcases Z6 j n with h4|h4
     ·exact hd.eq i j (by omega) h2 h4
     ·have e:j=n:=by omega
      subst e;obtain⟨a1,a2⟩:=same i (by omega) h2;exact⟨a1,a2,by rw[gn];exact hf.lo _ h2⟩
theorem kY{p:Array Nat}{n:Nat}(h1:1<=n)(hN:n<N)(hf:Fx N p n)(ha:AS lt p n)(hl:lt (gA p n) (gA p (n-1))=true):KW lt (fun r=>r.1<=N/\1<=r.1/\Fx N r.2 r.1/\LS lt r.2 r.1) (kas_descPart n N p):=by
 refine KW.bind (KW.mono (fun r hr=>?_) (km O (N:=N) (N-(n+1)) (by omega) (hf.succ hN) (Dn.start O ha h1 hl)));obtain⟨r1,r2,r3,r4⟩:=hr;show KW lt _ (if r.2.2>0 then _ else _);by_cases c:r.2.2>0
 ·rw[Jv c];exact vA O (by omega) (by omega) (r3.rev (Ze _) (by omega)) (r4.rev O (by rw[r3.sz];omega))
 ·rw[Ju c];have e:r.2.2=0:=by omega
  rw[e]at r4;exact vA O (by omega) (by omega) r3 (r4.zero O)
theorem sA{p:Array Nat}(hN:1<=N)(hf:Fx N p 1):KW lt (fun r=>r.1<=N/\1<=r.1/\Fx N r.2 r.1/\LS lt r.2 r.1) (kas_count N p):=by
 refine KW.bind (KW.mono (fun n hn=>?_) (sx O (N:=N) (N-1) 1 (Ze _) (by omega) hf (fun i j h1 h2=>absurd h1 (by omega))));obtain⟨n1,n2,nf,ns,nl⟩:=hn;show KW lt _ (if(n==N)=true then KasT.ret (n,p)else if n>1 then KasT.ask (gA p 0) (gA p (n-1)) (fun c=>if c=true then .ret (n,p)else kas_descPart n N (kas_rev p 0 n))else kas_descPart n N p);by_cases c:(n==N)=true
 ·rw[Jv c];exact⟨by omega,n1,nf,ns⟩
 ·rw[Ju c];have nN:n<N:=by have:n≠N:=fun z=>c (y4.mpr z);omega
  have hl:=nl (by omega);by_cases c2:n>1
  ·rw[Jv c2];show KW lt _ (if lt (gA p 0) (gA p (n-1))=true then _ else _);by_cases c3:lt (gA p 0) (gA p (n-1))=true
   ·rw[Jv c3];exact⟨by omega,n1,nf,ns⟩
   ·rw[Ju c3];have c3':=y7.mpr c3;have hs:n<=p.size:=by rw[nf.sz];omega
    have le0:∀i,i<n->lt (gA p i) (gA p 0)=false:=fun i hi=>by
     rcases Nat.eq_zero_or_pos i with z|z
     ·subst z;cases e:lt (gA p 0) (gA p 0)with
      |false=>rfl
      |true=>rw[O.as e]at e;cases e
     ·exact(ns 0 i z hi).1
    have leN:∀i,i<n->lt (gA p (n-1)) (gA p i)=false:=fun i hi=>by
     rcases Z6 i (n-1)with z|z
     ·exact(ns i (n-1) z (by omega)).1
     ·have e:i=n-1:=by omega
      subst e;cases e:lt (gA p (n-1)) (gA p (n-1))with
      |false=>rfl
      |true=>rw[O.as e]at e;cases e
    have all:∀i j,i<n->j<n->lt (gA p i) (gA p j)=false:=fun i j hi hj=>O.tr (leN j hj) (O.tr c3' (le0 i hi));refine kY O n1 nN (nf.rev (Ze _) (by omega)) (fun i j hij hj=>?_) ?_
    ·rw[cO hs,cO hs,Jv (by omega),Jv (by omega)];have z:=ns (0+n-1-j) (0+n-1-i) (by omega) (by omega);refine⟨all _ _ (by omega) (by omega),?_⟩;rcases z.2 with y|y
     ·rw[all _ _ (by omega) (by omega)]at y;cases y
     ·exact .inr y
    ·rw[cO hs,cO hs,Ju (by omega),Jv (by omega)];exact O.lt_le hl (all _ _ (by omega) (by omega))
  ·rw[Ju c2];have e:n=1:=by omega
   subst e;exact kY O n1 nN nf (fun i j h1 h2=>absurd h1 (by omega)) hl
theorem iV{p:Array Nat}{k:Nat}(hs:LS lt p k):∀(f l r:Nat),r-l<=f->r<=k->(∀i,i<l->i<k->lt (gA p k) (gA p i)=false)->(∀i,r<=i->i<k->lt (gA p k) (gA p i)=true)->l<=r ->
  KW lt (fun m=>m<=k/\(∀i,i<m->lt (gA p k) (gA p i)=false)/\∀i,m<=i->i<k->lt (gA p k) (gA p i)=true) (kas_place p k f l r)
 |0,l,r,h1,h2,h3,h4,h5=>⟨by omega,fun i hi=>h3 i hi (by omega),fun i hi=>h4 i (by omega)⟩
 |f+1,l,r,h1,h2,h3,h4,h5=>by
  show KW lt _ (if l>=r then KasT.ret l else KasT.ask (gA p k) (gA p ((l+r) / 2)) fun c=>if c=true then kas_place p k f l ((l+r) / 2)else kas_place p k f ((l+r) / 2+1) r);by_cases c:l>=r
  ·rw[Jv c];exact⟨by omega,fun i hi=>h3 i hi (by omega),fun i hi=>h4 i (by omega)⟩
  ·rw[Ju c];show KW lt _ (if lt (gA p k) (gA p ((l+r) / 2))=true then _ else _);by_cases d:lt (gA p k) (gA p ((l+r) / 2))=true
   ·rw[Jv d];refine iV hs f l ((l+r) / 2) (by omega) (by omega) h3 (fun i hi hk=>?_) (by omega);rcases Nat.eq_or_lt_of_le hi with e|e
    ·rw[<-e];exact d
    ·exact O.lt_le d (hs _ _ e hk).1
   ·rw[Ju d];have d':=y7.mpr d;refine iV hs f ((l+r) / 2+1) r (by omega) h2 (fun i hi hk=>?_) h4 (by omega);rcases Z6 i ((l+r) / 2)with e|e
    ·exact O.tr (hs _ _ e (by omega)).1 d'
    ·have e:i=(l+r) / 2:=by omega
     rw[e];exact d'
theorem yS:∀(f:Nat) {p:Array Nat} {k:Nat},k+f=N->1<=k->Fx N p k->LS lt p k->KW lt (fun p=>p.size=N/\LS lt p N) (kas_bin f p k)
 |0,p,k,e,_,hf,hs=>by
  have:k=N:=by omega
  subst this;exact⟨hf.sz,hs⟩
 |f+1,p,k,e,h1,hf,hs=>by
  refine KW.bind (KW.mono (fun m hm=>?_) (iV O hs k 0 k (by omega) (Ze _) (fun i hi=>absurd hi (by omega)) (fun i h2 h3=>absurd h2 (by omega)) (ZT _)));obtain⟨m1,m2,m3⟩:=hm;have hk:k<p.size:=by rw[hf.sz];omega
  have gk:gA p k=k:=hf.hi k (Ze _) (by omega);have ekm:k-(k-m)=m:=by omega
  have gb:∀i,gA (bubble p k (k-m)) i=if i=m then gA p k else if m<i/\i<=k then gA p (i-1)else gA p i:=fun i=>by rw[yG hk (by omega),ekm]
  refine yS f (by omega) (by omega) ⟨by rw[bubble_size];exact hf.sz,fun i h2 h3=>?_,fun i hi=>?_⟩ (fun i j hij hj=>?_)
  ·rw[gb,Ju (by omega),Ju (by omega)];exact hf.hi i (by omega) h3
  ·rw[gb];split
   ·rw[gk];omega
   ·split
    ·have:=hf.lo (i-1) (by omega);omega
    ·have:=hf.lo i (by omega);omega
  ·have lk:∀i,i<m->Lx lt (gA p i) (gA p k):=fun i hi=>⟨m2 i hi,.inr (by rw[gk];exact hf.lo i (by omega))⟩
   have gt:∀i,m<=i->i<k->Lx lt (gA p k) (gA p i):=fun i h2 h3=>Lx.of_lt O (m3 i h2 h3);rw[gb,gb];by_cases a1:i=m
   ·rw[Jv a1,Ju (by omega),Jv (by omega)];exact gt _ (by omega) (by omega)
   ·rw[Ju a1];by_cases a2:m<i/\i<=k
    ·rw[Jv a2,Ju (by omega),Jv (by omega)];exact hs _ _ (by omega) (by omega)
    ·rw[Ju a2];by_cases b1:j=m
     ·rw[Jv b1];exact lk i (by omega)
     ·rw[Ju b1];by_cases b2:m<j/\j<=k
      ·rw[Jv b2];exact hs _ _ (by omega) (by omega)
      ·rw[Ju b2];exact hs _ _ hij (by omega)
theorem Da(hN:1<=N):KW lt (fun p=>p.size=N/\LS lt p N) (kas_sort N):=by
 have f0:Fx N (List.toArray (List.range N)) 1:=by
  have g:∀k,k<N->gA (List.toArray (List.range N)) k=k:=fun k hk=>by rw[gR];simp[hk]
  refine⟨by simp,fun k _ hk=>g k hk,fun i hi=>?_⟩;have e:i=0:=by omega
  subst e;rw[g 0 (by omega)];decide
 refine KW.bind (KW.mono (fun r hr=>?_) (sA O hN f0));obtain⟨r1,r2,r3,r4⟩:=hr;show KW lt _ (if r.1<N then kas_bin (N-max r.1 1) r.2 (max r.1 1)else .ret r.2);have e:max r.1 1=r.1:=by omega
 rw[e];by_cases c:r.1<N
 ·rw[Jv c];exact yS O _ (by omega) r2 r3 r4
 ·rw[Ju c];have e:r.1=N:=by omega
  rw[e]at r3 r4;exact⟨r3.sz,r4⟩
end
open PySem PySem.Spec PyProof.Rows PySem.W
def Ite(K:PySem.W.Frag)(a:Addr)(xs:List V):It :=
 ⟨fun i H=>i<xs.length/\SqL K H a xs,fun i H x H'=>∃T p,H T=none/\xs[i]?=some p/\x=.ref T/\H'=upd H T (.tup [.int i,p]),fun i H=>i=xs.length/\SqL K H a xs⟩
abbrev eTn(e it a:Addr):Nat->Heap->Prop:=fun i h=>(∃old,IsEnum h e it i old)/\h.IsListIter it a i
theorem Ar{P:Program}{w:World}{K:PySem.W.Frag}{elts:List Expr}{kt:Nat}{tp:Pos}{e it a:Addr}{xs:List V}(ne:e≠it)(ha:e≠a/\it≠a) :
  Turn P w K (.Tuple elts kt tp) (Ite K a xs) [e,it] e (eTn e it a):=by
 refine⟨by simp,fun i h st c hc=>?_,fun i h h' st k=>?_,?_,?_,fun A i s Q E st h=>?_⟩
 ·obtain⟨⟨old,e1⟩,⟨o4,e4,_,d4⟩⟩:=st;simp only[Zs,ZY,YI]at hc;rcases hc with rfl|rfl
  ·exact⟨_,e1,fun v z=>nomatch z⟩
  ·exact⟨_,e4,fun v z=>by rw[d4]at z;cases z⟩
 ·obtain⟨⟨old,e1⟩,⟨o4,e4,r4⟩⟩:=st;exact⟨⟨old,k e (by simp) _ e1⟩,⟨o4,k it (by simp) _ e4,r4⟩⟩
 ·intro X hP hw hK hc i pins s σ H E I hf st hg;subst hP hw hK;obtain⟨⟨old,e1⟩,e4⟩:=st;obtain⟨hi,hx⟩:=hg;obtain⟨its,rx,px,zx⟩:=I.list hx;have lx:i<its.toArray.size:=by rw[Zj,<-rx.length];exact hi
  have hh:=I.ok.hd hc;refine wpAny_pyNext_enum_itemD (Draws.list (A:=X.A.in1) hh it a ha.2.symm its.toArray) e1 ⟨e4,px.isList⟩ lx ne (by simp[ne,ha.1]) fun x h' tk qx ho hs' hT hsz hk=>?_;refine⟨_,rfl,wpAny_letOwnedTupleGo_enum (s:={ s with heap:=h',toks:=tk+1 }) ho fun h2 he2 sb=>?_⟩;obtain⟨xv,ex⟩:∃xv,xs[i]?=some xv:=⟨xs[i],by simp[hi]⟩
  obtain⟨x',gx,rxv⟩:=rx.get ex;have qx':its[i]?=some x:=by simpa using qx
  rw[gx]at qx';cases qx';have lte:e<s.heap.objs.size:=Zn e1;have kp2:∀c o,c∉[e,it]->s.heap.get? c=some o->h2.get? c=some o:=fun c o hc q=>by simp only[Zs,ZY,YI,not_or]at hc;exact sb.extBut c o hc.1 (hk c o hc.1 hc.2 q)
  have tT:IsTup h2 s.heap.objs.size [.int i tk,x].toArray:=⟨_,sb.extBut _ _ (Yg lte) hT,rfl,_,rfl⟩
  refine⟨.ref s.heap.objs.size,upd H s.heap.objs.size (.tup [.int i,xv]),I.turnT (t':=tk+1) hf kp2 tT (.cons ⟨tk,rfl⟩ (.cons rxv .nil)) (sz rfl),rfl,⟨_,xv,I.hok.fresh (Ze _),ex,rfl,rfl⟩,?_,fun c hc=>?_⟩
  ·exact⟨⟨_,by simpa using he2⟩,hs'.1.extBut sb.extBut ne.symm⟩
  ·rw[ad]
   ·exact(hf c hc).1
   ·obtain⟨o,eo⟩:∃o,s.heap.get? c=some o:=by
     simp only[Zs,ZY,YI]at hc;rcases hc with rfl|rfl
     ·exact⟨_,e1⟩
     ·obtain⟨o,eo,_⟩:=e4;exact⟨o,eo⟩
    exact Zv (Zn eo)
 ·intro X hP hw hK hc i pins s σ H E I hf st hg;subst hP hw hK;obtain⟨⟨old,e1⟩,e4⟩:=st;obtain⟨rfl,hx⟩:=hg;obtain⟨its,rx,px,zx⟩:=I.list hx;have lx:its.toArray.size=xs.length:=by rw[Zj,<-rx.length]
  have hh:=I.ok.hd hc;refine wpAny_pyNext_enum_endD (Draws.list (A:=X.A.in1) hh it a ha.2.symm its.toArray) e1 ⟨by rw[lx];exact e4,px.isList⟩ fun h' kp=>⟨rfl,?_⟩
  exact I.turnM (t':=s.toks) hf fun c ob hc q=>by simp only[Zs,ZY,YI,not_or]at hc;exact kp c ob hc.2 q
 ·obtain⟨⟨old,e1⟩,_⟩:=st;exact wpAny_pyIter_enum e1 h
def Ci(K:PySem.W.Frag)(ta:TA):TI:=fun σ H R=>ta σ H fun vs H1=>∃a xs,vs=[.ref a]/\H1 a=some (.lst xs)/\R (Ite K a xs) H1
section
variable{X:Cx}
theorem DG{e1:Expr}{ta:TA}{p pos tp:Pos}{elts:List Expr}{kt:Nat}(hg:Gl X "enumerate")(hm:X.mg "enumerate" = none)(ha:PA X [e1] ta)(n1:aR e1=true):PI X (.Tuple elts kt tp) (.Call (.Name "enumerate" p) [e1] [] pos) (Ci X.K ta):=by
 intro pins s σ H R I h;refine Call_ (eG I hg hm boot_enumerate (YT (thn (ha pos pins s σ H _ I h) fun us s1 hz9=>?_) (aU n1) (bz (by simp))));obtain⟨vs,H1,I1,r1,q1⟩:=hz9;obtain⟨a,xs,e,hx,q⟩:=q1;subst e;obtain⟨ua,rfl,ra⟩:=ce r1;cases ra;obtain⟨z,its,n,rx,hl',eo⟩:=I1.lstM hx;have la:a<s1.heap.objs.size:=Zn eo;refine call_enumerate_1 eo fun h' he hl hz hk=>wpAny_pyIter_enum he ?_;refine⟨s1.heap.objs.size+1,[s1.heap.objs.size+1,s1.heap.objs.size],eTn (s1.heap.objs.size+1) s1.heap.objs.size a,_,H1,rfl,I1.kept (t':=s1.toks) hk,Ar (Nat.succ_ne_self _) ⟨Yg (Xl la),Yg la⟩,⟨⟨_,he⟩,hl⟩,fun c hc=>?_,q⟩;have hc':s1.heap.objs.size<=c:=by
  simp only[Zs,ZY,YI]at hc;rcases hc with rfl|rfl
  ·exact Nat.le_succ _
  ·exact Ze _
 exact I1.fpOk hc' (I1.hok.fresh hc')
theorem EQ{e1:Expr}{ta:TA}{p pos tp:Pos}{elts:List Expr}{kt:Nat}(hm:X.mg "enumerate" = none)(ha:QA X [e1] ta)(hg:Gl X "enumerate":=by rfl)(n1:aR e1=true:=by rfl):QI X (.Tuple elts kt tp) (.Call (.Name "enumerate" p) [e1] [] pos) (Ci X.K ta):=⟨DG hg hm ha.h n1⟩
end
theorem A6{K:PySem.W.Frag}{a:Addr}{xs:List V}{i j:Nat}{tb:TS}{D:Ends}{σ:St}{H:Hp}(Pv:Nat->St->Hp->Prop)(h0:Pv 0 σ H)(ha:∀i σ H,i<=xs.length->Pv i σ H->SqL K H a xs)(hs:∀k x σ H,xs[k]?=some x->Pv k σ H->∀T,H T=none->tb { D with nx:=Pv (k+1),ct:=Pv (k+1),bk:=D.nx } ((σ.set i (some (.int k))).set j (some x)) (upd H T (.tup [.int k,x])))(hd:∀σ H,Pv xs.length σ H->D.nx σ H) :
  ∃W:Nat->Nat->St->Hp->Prop,(∃m,W 0 m σ H)/\∀k m σ H,W k m σ H ->
   ((Ite K a xs).stop k H/\D.nx σ H)\/((Ite K a xs).go k H/\∃N:St->Hp->Prop,(∀σ' H',N σ' H'->∃m',m'<m/\W (k+1) m' σ' H')/\∀x H',(Ite K a xs).yld k H x H'->lK K 2 (fB (bw i) (fB (bw j) lJ)) x σ H' fun σ2 H2=>tb { D with nx:=N,ct:=N,bk:=D.nx } σ2 H2):=by
 refine⟨fun k m σ H=>m=xs.length-k/\k<=xs.length/\Pv k σ H,⟨xs.length,by simp,ZT _,h0⟩,?_⟩;rintro k m σ H ⟨rfl,hk,pv⟩;by_cases hlt:k<xs.length
 ·refine .inr ⟨⟨hlt,ha k σ H hk pv⟩,Pv (k+1),fun σ' H' z=>⟨xs.length-(k+1),by omega,rfl,hlt,z⟩,fun x H' y=>?_⟩;obtain⟨T,p,hT,hx,rfl,rfl⟩:=y;exact⟨T,[.int k,p],rfl,SqT.of af,rfl,.int k,[p],rfl,p,[],rfl,rfl,hs k p σ H hx pv T hT⟩
 ·have e:k=xs.length:=by omega
  subst e;exact .inl ⟨⟨rfl,ha _ σ H hk pv⟩,hd σ H pv⟩
open PySem PySem.Spec PyProof.Rows PySem.W
theorem vq{α:Type}{n:Nat}{lt:Nat->Nat->Bool}{P R:α->Prop}{cmp:Nat->Nat->(Bool->Shared->Prop)->Shared->Prop}{Q:α->Shared->Prop}{s:Shared}(hc:∀i j C,i<n->j<n->C (lt i j) s->cmp i j C s)(hq:∀a,P a->R a->Q a s):∀{t:KasT α},KIn n P t->KW lt R t->t.kasWp cmp Q s
 |.ret _,h,k=>hq _ h k
 |.ask i j c,⟨h1,h2,h3⟩,k=>hc _ _ _ h1 h2 (vq hc hq (t:=c (lt i j)) (h3 _) k)
section
variable{X:Cx}{pins:List (Addr×Obj)}{σ:St}{H:Hp}{s:Shared}{h':Heap}
theorem Inv.movedF{ch:List Addr}{t':Nat}(I:Inv X pins σ H s)(hch:∀b∈ch,bv X pins H b)(k:∀b u,b≠X.env.locals->b∉ch->s.heap.get? b=some u->h'.get? b=some u)(hn:∃m,s.heap.Ns X.env.locals m/\h'.Ns X.env.locals m):Inv X pins σ H { s with heap:=h',toks:=t' }:=by
 have neL:∀{b:Addr} {u:HO},H b=some u->b≠X.env.locals:=fun{b u} e=>al e I.free;have neC:∀{b:Addr} {u:HO},H b=some u->b∉ch:=fun{b u} e z=>by have:=(hch b z).1;rw[e]at this;cases this
 refine I.step (g':=s.gens) (d':=s.drawn) (ch:=ch) (fun b hb=>⟨(hch b hb).2.2.2.1,(hch b hb).2.1,(hch b hb).2.2.2.2.1,(hch b hb).2.2.2.2.2⟩) (fun b o hL _ hc e _=>k b o hL hc e) (fun b o hL _ hc e _=>⟨o.slots,k b o hL hc e⟩) (fun b o _ e n=>n) (fun b o hc e=>?_)
  (fun b xs e=>e) (fun b o u e=>e) (fun b ps e=>⟨#[],by rw[e];simp⟩) (fun m' hm'=>?_) (fun b u e=>?_) I.bare
 ·by_cases hL:b=X.env.locals
  ·obtain⟨m,_,o',_,_,e',_⟩:=hn;exact⟨o',by rw[hL];exact e'⟩
  ·exact⟨o,k b o hL hc e⟩
 ·obtain⟨m,h1,h2⟩:=hn;rw[hm'.eq_nsMap,<-h1.eq_nsMap];exact h2
 ·refine(I.hok b u e).stay (fun c v hc q=>k c v ?_ ?_ q) (fun c q=>q) fun c ys q=>q
  ·rcases hc with z|z
   ·rw[z];exact neL e
   ·exact neL z
  ·rcases hc with z|z
   ·rw[z];exact neC e
   ·exact neC z
theorem Inv.tookF{ch:List Addr}{a:Addr}{o:HO}{t':Nat}(I:Inv X pins σ H s)(ha:a∈ch)(hch:∀b∈ch,bv X pins H b)(k:∀b u,b≠X.env.locals->b∉ch->s.heap.get? b=some u->h'.get? b=some u)(hn:∃m,s.heap.Ns X.env.locals m/\h'.Ns X.env.locals m)(new:ObjOk X.prog X.w (upd H a o) h' a o):Inv X pins σ (upd H a o) { s with heap:=h',toks:=t' }:=by
 have fr:=(hch a ha).1;have ne:∀{b:Addr} {u:HO},H b=some u->b≠a:=fun{b u} e=>al e fr;have neL:∀{b:Addr} {u:HO},H b=some u->b≠X.env.locals:=fun{b u} e=>al e I.free;have neC:∀{b:Addr} {u:HO},H b=some u->b∉ch:=fun{b u} e z=>by have:=(hch b z).1;rw[e]at this;cases this
 refine I.step (g':=s.gens) (d':=s.drawn) (ch:=ch) (fun b hb=>⟨(hch b hb).2.2.2.1,(hch b hb).2.1,(hch b hb).2.2.2.2.1,(hch b hb).2.2.2.2.2⟩) (fun b o hL _ hc e _=>k b o hL hc e) (fun b o hL _ hc e _=>⟨o.slots,k b o hL hc e⟩) (fun b o hc e n=>by rw[ad (fun z:b=a=>hc (by rw[z];exact ha))];exact n) (fun b o hc e=>?_)
  (fun b xs e=>by rw[ad (ne e)];exact e) (fun b o u e=>by rw[ad (ne e)];exact e) (fun b ps e=>⟨#[],by rw[ad (ne e),e];simp⟩) (fun m' hm'=>?_) (fun b u e=>?_) I.bare
 ·by_cases hL:b=X.env.locals
  ·obtain⟨m,_,o',_,_,e',_⟩:=hn;exact⟨o',by rw[hL];exact e'⟩
  ·exact⟨o,k b o hL hc e⟩
 ·obtain⟨m,h1,h2⟩:=hn;rw[hm'.eq_nsMap,<-h1.eq_nsMap];exact h2
 ·by_cases hb:b=a
  ·subst hb;rw[af]at e;cases e;exact new
  ·rw[ad hb]at e;refine(I.hok b u e).stay (fun c v hc q=>k c v ?_ ?_ q) (fun c q=>by rw[ad (ne q)];exact q) fun c ys q=>by rw[ad (ne q)];exact q
   ·rcases hc with z|z
    ·rw[z];exact neL e
    ·exact neL z
   ·rcases hc with z|z
    ·rw[z];exact neC e
    ·exact neC z
def ge(base h:Heap)(L kS:Addr):List (Addr×Obj):=(nh base h L).filter fun p=>decide (p.1≠kS)
theorem gH{base h:Heap}{L kS:Addr}{o:Obj}(e:h.get? kS=some o)(hL:kS≠L)(hb:base.get? kS=none):News base L h ((kS,o)::ge base h L kS):=fun p hp=>by
 rcases Zs.mp hp with rfl|hp
 ·exact⟨e,hL,hb⟩
 ·exact hW base h L p (ZL.mp hp).1
theorem ja{base h:Heap}{L kS:Addr}:∀p∈ge base h L kS,p.1≠kS:=fun p hp=>ZJ (ZL.mp hp).2
theorem gG{base h h2:Heap}{L kS:Addr}{o':Obj}{m:Str->Option Value}(hbk:∀b o,base.get? b=some o->h.get? b=some o)(F:Fr base L h2 m)(N:News base L h2 ((kS,o')::ge base h L kS)):∀b u,b≠L->b∉[kS]->h.get? b=some u->h2.get? b=some u:=fun b u hL hk e=>by
 cases q:base.get? b with
 |none=>exact(N (b,u) (.tail _ (ZL.mpr ⟨cJ e hL q,decide_eq_true (fun z=>hk (Zo.mpr z))⟩))).1
 |some o =>have e':=hbk b o q;rw[e]at e';cases e';exact F.keep b u q
structure SK(X:Cx)(pins:List (Addr×Obj))(σ:St)(H1:Hp)(m:Str->Option Value)(kS D:Addr)(e1:Nat)(ks:List (List Int))(as:List Addr)(e:Nat)(H:Hp)(s:Shared):Prop where
 I:Inv X pins σ H s
 sm:Same H1 H
 fk:bv X pins H kS
 fd:bv X pins H D
 bk:X.base.get? kS=none
 bd:X.base.get? D=none
 hk:s.heap.get? kS=some (seqObj "list" (List.toArray (as.map Value.ref)) e)
 hd:s.heap.get? D=some (seqObj "list" #[] e1)
 ns:s.heap.Ns X.env.locals m
 keys:∀(i:Nat) (a:Addr) (k:List Int),as[i]?=some a->ks[i]?=some k->H a=some (.tup (k.map V.int))
end
open PySem PySem.Spec PyProof.Rows PySem.W
theorem yT:∀{a b:List Int},HT.lexLt a b=true->HT.lexLt b a=false
 | [],[],h=>by cases h
 | [],_::_,_=>rfl
 |_::_,[],h=>by cases h
 |x::a,y::b,h=>by
  rw[HT.lexLt_cons]at h ⊢;by_cases e:x=y
  ·subst e;rw[Jv rfl]at h ⊢;exact yT h
  ·rw[Ju e]at h;rw[Ju (fun z=>e z.symm)];have:=ZJ h;exact decide_eq_false (by omega)
theorem yV:∀{a b c:List Int},HT.lexLt b a=false->HT.lexLt c b=false->HT.lexLt c a=false
 | [],[],[],_,_=>rfl
 | [],[],_::_,_,_=>rfl
 | [],_::_,[],_,h=>by cases h
 | [],_::_,_::_,_,_=>rfl
 |_::_,[],_,h,_=>by cases h
 |_::_,_::_,[],_,h=>by cases h
 |x::a,y::b,z::c,h,k=>by
  rw[HT.lexLt_cons]at h k ⊢;by_cases e:y=x
  ·subst e;rw[Jv rfl]at h;by_cases e2:z=y
   ·rw[Jv e2]at k ⊢;exact yV h k
   ·rw[Ju e2]at k ⊢;exact k
  ·rw[Ju e]at h;have h':=YJ h;by_cases e2:z=y
   ·rw[Ju (by omega)];exact decide_eq_false (by omega)
   ·rw[Ju e2]at k;have k':=YJ k;rw[Ju (by omega)];exact decide_eq_false (by omega)
theorem yU(ks:List (List Int)):LtOk (fun i j=>HT.lexLt (ks.getD i []) (ks.getD j [])):=⟨yT,yV⟩
section
variable{X:Cx}{pins:List (Addr×Obj)}{σ:St}{H:Hp}{s:Shared}
def wX(X:Cx)(l:List Addr):Cx:={ X with ex:=l++X.ex }
structure ExOk(X:Cx)(b:Addr):Prop where
 old:b∈X.ex\/X.s₀.heap.get? b=none
 loc:b≠X.env.locals
 cel:∀x c,X.env.cells.lookup x=some c->c≠b
 bas:X.base.get? b=none
 fs:b∉X.fs
theorem Inv.widen{l:List Addr}(I:Inv X pins σ H s)(hl:∀b∈l,ExOk X b):Inv (wX X l) pins σ H s:=by
 have ok:(wX X l).Ok:=by
  have o:=I.ok;refine⟨o.mod,o.kind,o.glob,o.blt,o.above,o.inj,o.has,o.cab,o.hd,o.frames,o.stk,fun b hb=>?_,o.bs,o.bsz,fun b ob hb z=>?_,fun b hb=>?_,o.funs,o.frf⟩
  ·rcases Zt.mp hb with h|h
   ·exact⟨(hl b h).loc,(hl b h).cel⟩
   ·exact o.exf b h
  ·rcases Zt.mp z with h|h
   ·have hb':X.base.get? b=some ob:=hb;rw[(hl b h).bas]at hb';cases hb'
   ·exact o.noex b ob hb h
  ·rcases Zt.mp hb with h|h
   ·exact(hl b h).fs
   ·exact o.exfs b h
 have ne:∀{b:Addr},b∉l++X.ex->b∉X.ex:=fun h z=>h (ZD _ z);have u:=I.base;exact⟨ok,I.os,I.bare,⟨fun b o e n hb hx=>u.keep b o e n hb (ne hx),fun b o e n hb hx=>u.slot b o e n hb (ne hx),fun b o e n hx=>u.free b o e n (ne hx),fun b o e hx=>u.there b o e (ne hx),u.tups,u.frzs,u.tbls⟩,I.loc,I.cell,I.free,I.freeC,I.pin,I.hok,I.len⟩
theorem Inv.narrow{l:List Addr}(I:Inv (wX X l) pins σ H s)(ok:X.Ok)(hl:∀b∈l,b∈X.ex\/X.s₀.heap.get? b=none):Inv X pins σ H s:=by
 have ne:∀{b:Addr} {o:Obj},X.s₀.heap.get? b=some o->b∉X.ex->b∉l++X.ex:=fun{b o} e h z=>by
  rcases Zt.mp z with z|z
  ·rcases hl b z with y|y
   ·exact h y
   ·rw[y]at e;cases e
  ·exact h z
 have u:=I.base;exact⟨ok,I.os,I.bare,⟨fun b o e n hb hx=>u.keep b o e n hb (ne e hx),fun b o e n hb hx=>u.slot b o e n hb (ne e hx),fun b o e n hx=>u.free b o e n (ne e hx),fun b o e hx=>u.there b o e (ne e hx),u.tups,u.frzs,u.tbls⟩,I.loc,I.cell,I.free,I.freeC,I.pin,I.hok,I.len⟩
theorem Inv.exOk(I:Inv X pins σ H s){b:Addr}(hb:s.heap.get? b=none)(hL:b≠X.env.locals)(h0:X.base.get? b=none):ExOk X b:=by
 have old:b∈X.ex\/X.s₀.heap.get? b=none:=by
  by_cases hx:b∈X.ex
  ·exact .inl hx
  ·cases e:X.s₀.heap.get? b with
   |none=>exact .inr rfl
   |some o =>obtain⟨o',e'⟩:=I.base.there b o e hx;rw[hb]at e';cases e'
 refine⟨old,hL,fun x c e z=>?_,h0,fun z=>?_⟩
 ·obtain⟨v,o,ho,_⟩:=I.cell x c e;rw[z,hb]at ho;cases ho
 ·obtain⟨_,o,ho,_⟩:=I.ok.funs.mem z;rcases old with y|y
  ·exact I.ok.exfs b y z
  ·rw[y]at ho;cases ho
theorem Inv.fpW{l:List Addr}(I:Inv X pins σ H s){b:Addr}(hm:b∈l)(x:ExOk X b)(hb:s.heap.get? b=none):bv (wX X l) pins H b:=by refine⟨none_of I hb,x.loc,x.fs,.inl (Z5 _ hm),x.cel,fun p hp z=>?_⟩;have:=(I.pin p hp).1;rw[z,hb]at this;cases this
theorem sq{ks:List (List Int)}(I:Inv X pins σ H s)(hk:∀k∈ks,k≠[]):∀(as:List Addr) (n:Nat),n+as.length=ks.length->(∀(i:Nat) (a:Addr) (k:List Int),as[i]?=some a->ks[n+i]?=some k->H a=some (.tup (k.map V.int)))->∃fs:List Value,KatTups s.heap (as.map Value.ref) fs/\fs.length=as.length/\∀v∈fs,∃i t,v=.int i t
 | [],_,_,_=>⟨[],KatTups.nil,rfl,fun v h=>nomatch h⟩
 |a::as,n,hl,h=>by
  rw[Zm]at hl;have hkn:ks[n]?=some (ks[n]'(by omega)):=Zd (by omega);have hne:=hk _ (ZA (show n<ks.length by omega));generalize ks[n]'(by omega)=k at hkn hne;have ea:=h 0 a k rfl (by rw[Nat.add_zero];exact hkn);obtain⟨ia,ra,pa,za⟩:=I.tuple (SqT.of (K:=X.K) ea);obtain⟨oa,eo,ca,n1,da⟩:=id pa;obtain⟨x,t,ia',rfl⟩:∃x t r,ia=.int x t::r:=by
   cases cH ra with
   |nil=>exact absurd rfl hne
   |cons x t r=>exact⟨x,t,_,rfl⟩
  obtain⟨fs,f1,f2,f3⟩:=sq I hk as (n+1) (by omega) (fun i b k' h1 h2=>h (i+1) b k' h1 (by rw[show n+(i+1)=n+1+i by omega];exact h2));refine⟨.int x t::fs,KatTups.cons eo ca da rfl f1,by rw[Zm,Zm,f2],fun v hv=>?_⟩;rcases Zs.mp hv with rfl|hv
  ·exact⟨_,_,rfl⟩
  ·exact f3 v hv
end
open PySem PySem.Spec PyProof.Rows PySem.W
section
variable{X:Cx}{o i value:Expr}{pos pos':Pos}{td ty tv:TE}
theorem mZ:QE X (.Dict [] [] pos) Al:=⟨By⟩
theorem bU(hu:X.A.units+64<cLine)(ho:QE X o td)(hi:QE X i ty)(hs:AJ i:=by intro _ _;rfl):QE X (.Subscript o i pos) (CG td ty):=⟨DA (by omega) ho.h hi.h hs⟩
theorem Hi(hu:X.A.units+64<cLine)(hi:QE X i ty)(ho:QE X o td)(hm:behindInMarks .In o=false:=by with_unfolding_all rfl):QE X (.Compare i [.In] [o] pos) (Gn ty td):=⟨Fk (Fi (by omega) hi.h ho.h) hm⟩
theorem fi(hu:X.A.units+64<cLine)(hi:QE X i ty)(ho:QE X o td)(hm:behindInMarks .NotIn o=false:=by with_unfolding_all rfl):QT X (.Compare i [.NotIn] [o] pos) (tB (vV ty td)):=⟨FN (zt (by omega) hi.h ho.h) hm⟩
theorem jH(hu:X.A.units+64<cLine)(ho:QE X o td)(hi:QE X i ty)(hv:QE X value tv)(hs:swapsWith value (some (.Subscript o i pos')) pos.line X.env=pure false:=by rfl):QS X (.Assign [.Subscript o i pos'] value pos) (CB td ty tv):=⟨DK (by omega) ho.h hi.h hv.h hs⟩
end
open PySem PySem.Spec PyProof.Rows PySem.W
open PySem PySem.Spec PyProof.Rows PySem.W
open PySem PySem.Spec PyProof.Rows PySem.W
open Classical in
noncomputable def jp(h:Heap)(dx:PyData)(u:Value):Bool:=decide (∃d as,Reads h u d as/\PyData.canLay0 d=true/\PyData.eqv d dx=true)
open Classical in
theorem oG{h:Heap}{dx d:PyData}{u:Value}{as:List Addr}(r:Reads h u d as)(hl:d.canLay0=true):jp h dx u=PyData.eqv d dx:=by
 unfold jp;cases e:PyData.eqv d dx with
 |true=>exact decide_eq_true ⟨d,as,r,hl,e⟩
 |false =>refine decide_eq_false ?_;rintro⟨d',as',r',l',e'⟩;rw[SeqAt.Reads.unique d d' u as as' hl r r',e']at e;cases e
section
variable{P:Program}{w:World}{H:Hp}{h:Heap}
theorem iI(ok:HOk P w H h):∀{ds:List PyData} {xs:List V} {us:List Value},DtAll H ds xs->Vals xs us->PyData.canLayAll0 ds=true->∀dx:PyData,us.any (jp h dx)=ds.any (fun d=>PyData.eqv d dx)/\us.countP (jp h dx)=ds.countP (fun d=>PyData.eqv d dx)/\∀u∈us,∃d as,d∈ds/\Reads h u d as/\d.canLay0=true
 | [],xs,us,hd,r,_,dx=>by
  have e:xs=[]:=by simpa only[DtAll]using hd
  subst e;cases r;exact⟨rfl,rfl,fun u hu=>nomatch hu⟩
 |d::ds,xs,us,hd,r,hl,dx=>by
  have e:∃y ys,xs=y::ys/\Dt H d y/\DtAll H ds ys:=by simpa only[DtAll]using hd
  obtain⟨y,ys,rfl,h1,h2⟩:=e;cases r with
  |cons r1 r2 =>
   have hl':d.canLay0=true/\PyData.canLayAll0 ds=true:=by simpa[PyData.canLayAll0]using hl
   obtain⟨as,q1⟩:=Dt.reads ok d y _ h1 r1;obtain⟨i1,i2,i3⟩:=iI ok h2 r2 hl'.2 dx;refine⟨by rw[List.any_cons,List.any_cons,oG q1 hl'.1,i1],by rw[List.countP_cons,List.countP_cons,oG q1 hl'.1,i2],fun u hu=>?_⟩;rcases Zs.mp hu with rfl|hu
   ·exact⟨d,as,by simp,q1,hl'.1⟩
   ·obtain⟨d',as',m,z⟩:=i3 u hu;exact⟨d',as',by simp[m],z⟩
end
section
variable{X:Cx}
def BM(K:PySem.W.Frag)(neg:Bool):R2:=fun x y H Q=>∃(p:Addr) (xs:List V) (dx:PyData) (ds:List PyData),y=.ref p/\SqL K H p xs/\Dt H dx x/\DtAll H ds xs/\SeqAt.shaped dx=true/\PyData.canLayAll0 ds=true/\Q (.bl (if neg then !(ds.any fun d=>PyData.eqv d dx)else ds.any fun d=>PyData.eqv d dx)) H
theorem yq{pins:List (Addr×Obj)}{σ:St}{H:Hp}{s:Shared}{A:Around}{dx:PyData}{x:V}{v:Value}{ds:List PyData}{xs:List V}{us:List Value}(I:Inv X pins σ H s)(hu:A.units+64<cLine)(h1:Dt H dx x)(rx:RelV x v)(h2:DtAll H ds xs)(r:Vals xs us)(s1:SeqAt.shaped dx=true)(s2:PyData.canLayAll0 ds=true):∀u∈us,SeqAt.EqAt A s u v (jp s.heap dx u):=fun u hu'=>by obtain⟨_,_,z⟩:=iI I.hok h2 r s2 dx;obtain⟨d,as,_,q1,q2⟩:=z u hu';obtain⟨bs,q3⟩:=Dt.reads I.hok dx x v h1 rx;rw[oG q1 q2];refine SeqAt.eqAt_reads d dx A s u v as bs q1 q3 q2 (SeqAt.canLay_of_shaped s1) ?_;have d1:=SeqAt.depth_of_shaped s1;have d2:min d.depth dx.depth<=dx.depth:=Nat.min_le_right _ _;omega
theorem zp(hu:X.A.in1.units+64<cLine):OpR X (compareOp .NotIn) (BM X.K true):=by intro pins s σ H x y v u Q I rx ry h;obtain⟨p,xs,dx,ds,rfl,hq,h1,h2,s1,s2,q⟩:=h;cases ry;obtain⟨its,r,pl,hz⟩:=I.list hq;refine SeqAt.notIn_listAt (jp s.heap dx) pl.isList (fun w hw=>yq I hu h1 rx h2 r s1 s2 w (by simpa using hw)) ⟨.bl _,H,I,rfl,?_⟩;rw[show its.toArray.any (jp s.heap dx)=its.any (jp s.heap dx) by simp,(iI I.hok h2 r s2 dx).1];exact q
theorem Bk{k:Nat}(hr:Room k X.A):QOp X (compareOp .NotIn) (BM X.K true):=⟨zp (by have:=hr.un;show X.A.units+_+64<_;omega)⟩
end
open PySem PySem.Spec PyProof.Rows PySem.W
section
variable{X:Cx}
structure QPs(X:Cx)(pos:Pos)(keys:List (Option Expr))(values:List Expr)(trs:List (TE×TE)):Prop where
 h:PPs X pos keys values trs
end
open PySem PySem.Spec PyProof.Rows PySem.W
open PySem PySem.Spec PyProof.Rows PySem.W
structure MFn(P:Program)(w:World)(K:PySem.W.Frag)(mg:Str->Option Value)(base:Heap)(k:Nat)(C:Addr)(m:Str)(ps:List Str)(sp:Sp):Prop where
 cl:Cls K C
 ex:∃f fd,FnOk P w K mg base CX0 k f fd ps sp/\Meth K C m f/\Binds K fd ps []
structure MkFn(P:Program)(w:World)(K:PySem.W.Frag)(mg:Str->Option Value)(base:Heap)(k:Nat)(C:Addr)(x:Str)(ps:List Str)(sp:Sp):Prop where
 cl:Cls K C
 mgC:mg x=some (.ref C)
 ex:∃f fd,FnOk P w K mg base CX0 k f fd ps sp/\Mk K C f/\Binds K fd ps []
section
variable{X:Cx}{k:Nat}{C:Addr}{m x f:Str}{p pos pos' apos:Pos}{o e value:Expr}{es:List Expr}{ps:List Str}{sp:Sp}{t:TA}{ta tv:TE}
theorem dJ(he:QE X e ta)(hb:attributeBase e f X.env (eval e X.env)=eval e X.env:=by rfl):QE X (.Attribute e f pos) (BX X.K ta f):=⟨Fm he.h hb⟩
theorem CC(ha:QE X o ta)(hv:QE X value tv)(hs:swapsWith value (some (.Attribute o f pos')) pos.line X.env=pure false:=by rfl):QS X (.Assign [.Attribute o f pos'] value pos) (Gc X.K ta tv f):=⟨FJ ha.h hv.h hs⟩
theorem sU{pl:Sem Bool}(F:MFn X.prog X.w X.K X.mg X.base k C m ps sp)(hr:Room k X.A)(he:QE X o ta)(ha:QA X (e::es) t)(hs:(e::es).all aR=true:=by rfl)(ht:eval (.Call (.Attribute o m apos) (e::es) [] pos) X.env=(do
   let ov ←eval o X.env
   standAt apos.atName
   let(f,first) ←holding [ov] (getMethod ov m pl)
   callWith pos f first (backTo pos (starEach (e::es) X.env)) (backToKw pos (keywordEach [] X.env))):=by rfl) :
  QE X (.Call (.Attribute o m apos) (e::es) [] pos) (rn C m sp [] E0 ta t):=by
 obtain⟨f,fd,G,hm,b⟩:=F.ex;rw[List.all_cons,Zz]at hs;exact⟨DD (pl:=pl) he.h F.cl hm G hr b .nil rh ha.h (aU hs.1) (bz hs.2) ht⟩
theorem dX{pl:Sem Bool}(F:MFn X.prog X.w X.K X.mg X.base k C m ps sp)(hr:Room k X.A)(he:QE X o ta)(ht:eval (.Call (.Attribute o m apos) [] [] pos) X.env=(do
   let ov ←eval o X.env
   standAt apos.atName
   let(f,first) ←holding [ov] (getMethod ov m pl)
   callWith pos f first (backTo pos (starEach [] X.env)) (backToKw pos (keywordEach [] X.env))):=by rfl) :
  QE X (.Call (.Attribute o m apos) [] [] pos) (rn C m sp [] E0 ta im):=by
 obtain⟨f,fd,G,hm,b⟩:=F.ex;exact⟨BA (pl:=pl) he.h F.cl hm G hr b .nil rh ht⟩
theorem zE(F:MkFn X.prog X.w X.K X.mg X.base k C x ps sp)(hr:Room (k+1) X.A)(ha:QA X (e::es) t)(hg:Gl X x:=by rfl)(hs:(e::es).all aR=true:=by rfl)(hdb:(x==("__debug__":Str))=false:=by decide) :
  QE X (.Call (.Name x p) (e::es) [] pos) (CI C sp [] E0 t):=by
 obtain⟨f,fd,G,hm,b⟩:=F.ex;rw[List.all_cons,Zz]at hs;exact⟨DC hm G hr hg F.mgC b .nil rh ha.h hdb (aU hs.1) (bz hs.2)⟩
end
def DRaw(h:Heap)(d:Addr)(es:Array DictEntry)(ep:Nat):Prop:=∃o,h.get? d=some o/\o.ExactDict/\o.data=.dict es ep
theorem DRaw.type{s:Shared}{d:Addr}{es:Array DictEntry}{ep:Nat}(x:DRaw s.heap d es ep):s.TypeIs (.ref d) "dict":=let⟨o,ho,hc,_⟩:=x;⟨o,ho,hc.1⟩
theorem DRaw.at'{h h':Heap}{d:Addr}{es:Array DictEntry}{ep:Nat}(x:DRaw h d es ep)(e:∀o,h.get? d=some o->h'.get? d=some o):DRaw h' d es ep:=let⟨o,ho,r⟩:=x;⟨o,e o ho,r⟩
theorem DRaw.lt{h:Heap}{d:Addr}{es:Array DictEntry}{ep:Nat}(x:DRaw h d es ep):d<h.objs.size:=let⟨_,ho,_⟩:=x;Zn ho
section
variable{prog:Program}{w:World}{A:Around}{E:Value->Shared->Prop}{s:Shared}{d it:Addr}{es:Array DictEntry}{ep i:Nat}
theorem tm{Q:Value->Shared->Prop}(hd:(d==sysModules)=false)(hm:DRaw s.heap d es ep)(hQ:Q (.ref s.heap.objs.size) { s with heap:=s.heap.push { cls:=.type "dict_keyiterator",data:=.fields #[.ref d,.int 0 0,.int es.size 0,.int ep 0] } }) :
  wpAny (model prog w) A (pyIter (.ref d)) Q E s:=by
 obtain⟨o,ho,hc,hdat⟩:=id hm;refine wpAny_pyIter_slot hm.type PySem.F.slot_dict_iter (ZR PySem.F.slot_dict_iter hm.type PySem.F.entry_dict_iter ?_ (PySem.F.args_dict_iter_1 _));unfold Builtin.«dict.__iter__»;refine z6 ?_;unfold Builtin.Dict.dictSlotNone;refine z6 (wpAny_notOrdered_dict hm.type ?_);show wpAny _ _ (pure (Value.ref d)) _ _ s;refine Za ?_;show wpAny _ _ (Builtin.Dict.showsAll d >>= _) _ _ s;unfold Builtin.Dict.showsAll;rw[Ju (by rw[hd];exact Zr)];refine z6 (Za ?_);refine z6 (YR ho hdat ?_);refine z6 (wpAny_dictEpoch ho hdat ?_);refine z6 (ZQ (Za ⟨_,rfl,"dict_keyiterator",_,⟨_,Zk _ rfl,rfl⟩,Yw.lookup,?_⟩));simpa[rawInt]using hQ
theorem tj{Q:Option Value->Shared->Prop}(hit:s.heap.IsKeyIter it d i es.size ep)(hm:DRaw s.heap d es ep)(hx:i<es.size)(hQ:∀h',h'.IsKeyIter it d (i+1) es.size ep->Heap.SameBut it s.heap h'->Q (some es[i].key) { s with heap:=h' }):wpAny (model prog w) A (pyNext (.ref it)) Q E s:=by
 obtain⟨o,ho,hc,hd⟩:=id hit;obtain⟨od,hod,hcd,hdd⟩:=id hm;unfold pyNext;refine z6 (wpAny_attempt (ZS (name:=Str.ofString "__next__") hit.typeIs Yw
  (ZR Yw hit.typeIs PySem.F.entry_dict_keyiterator_next ?_ (PySem.F.args_dict_keyiterator_next_1 _))))
 refine z6 (Za ?_);refine z6 ?_;refine z6 ?_
 first|refine z6 (Xa hit.typeIs (Za ?_))|refine z6 (wpAny_typeNameOf_keyiter hit.typeIs (Za ?_))
 refine z6 (wpAny_fieldsOf ho hd ?_);have hown:Builtin.Dict_items.ownsTuple "dict_keyiterator" = false:=by decide
 simp only[hown,Yz,YY];show wpAny _ _ (if(Value.ref d==Value.none)=true then _ else _) _ _ s;rw[Ju (show¬((Value.ref d==Value.none)=true)from Zr)];refine z6 (Za ?_);refine z6 (YR hod hdd ?_);rw[Ju (by simp)];refine z6 (Za ?_);refine z6 (wpAny_dictEpoch hod hdd ?_);rw[Ju (by simp)];refine Za ?_;simp only[show¬((i:Int)<0)from by omega,YY,Z7,Array.getElem?_eq_getElem hx];refine z6 ?_
 first|refine z6 (Xa hit.typeIs (Za ?_))|refine z6 (wpAny_typeNameOf_keyiter hit.typeIs (Za ?_))
 refine z6 (wpAny_isOneOf_keyiter hit.typeIs ?_);show wpAny _ _ (setField (.ref it) 1 (rawInt ((i:Int)+1)) >>= _) _ _ s;refine z6 (YC ho hd (by simp) ?_);have hit':(s.heap.update it (Obj.mapFields (·.setIfInBounds 1 (rawInt ((i:Int)+1))))).IsKeyIter it d (i+1) es.size ep :=
  ⟨_,Yi _ ho (Y3 (Ye hd _)),(Obj.cls_mapFields ..).trans hc,by rw[Ye hd];simp[rawInt]⟩
 refine z6 (Z4 ?_);refine z6 (wpAny_isOneOf_keyiter (s:={ s with heap:=s.heap.update it (Obj.mapFields (·.setIfInBounds 1 (rawInt ((i:Int)+1)))) }) hit'.typeIs ?_);show wpAny _ _ (pure es[i].key) _ _ _;exact Za (Za ⟨_,rfl,Za (hQ _ hit' (ZK ..))⟩)
theorem vH{Q:Option Value->Shared->Prop}(hh:A.handled=none)(hit:s.heap.IsKeyIter it d es.size es.size ep)(hm:DRaw s.heap d es ep)(hQ:∀h',Heap.ExtBut it s.heap h'->Q none { s with heap:=h' }) :
  wpAny (model prog w) A (pyNext (.ref it)) Q E s:=by
 obtain⟨o,ho,hc,hd⟩:=id hit;obtain⟨od,hod,hcd,hdd⟩:=id hm;unfold pyNext;refine z6 (wpAny_attempt (ZS (name:=Str.ofString "__next__") hit.typeIs Yw
  (ZR Yw hit.typeIs PySem.F.entry_dict_keyiterator_next ?_ (PySem.F.args_dict_keyiterator_next_1 _))))
 refine z6 (Za ?_);refine z6 ?_;refine z6 ?_
 first|refine z6 (Xa hit.typeIs (Za ?_))|refine z6 (wpAny_typeNameOf_keyiter hit.typeIs (Za ?_))
 refine z6 (wpAny_fieldsOf ho hd ?_);have hown:Builtin.Dict_items.ownsTuple "dict_keyiterator" = false:=by decide
 simp only[hown,Yz,YY];show wpAny _ _ (if(Value.ref d==Value.none)=true then _ else _) _ _ s;rw[Ju (show¬((Value.ref d==Value.none)=true)from Zr)];refine z6 (Za ?_);refine z6 (YR hod hdd ?_);rw[Ju (by simp)];refine z6 (Za ?_);refine z6 (wpAny_dictEpoch hod hdd ?_);rw[Ju (by simp)];refine Za ?_;simp only[show¬((es.size:Int)<0)from by omega,YY,Z7,Array.getElem?_eq_none (Ze _)];refine z6 ?_
 first|refine z6 (Xa hit.typeIs (Za ?_))|refine z6 (wpAny_typeNameOf_keyiter hit.typeIs (Za ?_))
 show wpAny _ _ (setField (.ref it) 0 .none >>= _) _ _ s;refine z6 (YC ho hd (by simp) ?_);show wpAny _ _ (newExc (.type "StopIteration") [] >>= _) _ _ _;refine z6 ?_;simp only[newExc,newTuple];refine z6 (ZQ ?_ (by size_fits));refine z6 (m:=firstArgMember _ _) (wpAny_of_eq (a:=Value.none) (by first|rfl|(simp only[firstArgMember];rfl)) ?_);refine ZQ ?_ (by size_fits);simp only[raiseNew];refine z6 (wpAny_handled ?_);rw[show A.in1.handled=none from hh];refine z6 (Za (wpAny_throw ?_));refine z6 (wpAny_isInstance (T:="StopIteration") (b:=true) ⟨_,Zk _ rfl,rfl⟩ isSubtype_stop ?_);exact Za (hQ _ (((ZK ..).extBut.push _).push _))
theorem zK(hh:A.handled=none)(I d:Addr)(hne:d≠I)(es:Array DictEntry)(ep:Nat) :
  Walks prog w A I [I,d] [I] es.size (fun i v=>∃e,es[i]?=some e/\v=e.key) (fun i h=>h.IsKeyIter I d i es.size ep/\DRaw h d es ep) where
 sub:=fun b hb=>by simp at hb;simp[hb]
 frame:=fun _ _ _ st hk=>⟨st.1.at fun o e=>hk I (by simp) o e,st.2.at' fun o e=>hk d (by simp) o e⟩
 item:=fun i s Q E hi st hQ=>tj st.1 st.2 hi fun h' hit' hs'=>hQ _ h' s.toks ⟨es[i],by simp[hi],rfl⟩ ⟨hit',st.2.at' fun o e=>hs'.extBut d o hne e⟩ fun b o hb e=>hs'.extBut b o (fun h=>hb (by simp[h])) e
 done:=fun s Q E st hQ=>vH hh st.1 st.2 fun h' he'=>hQ h' s.toks fun b o hb e=>he' b o (fun h=>hb (by simp[h])) e
 self:=fun _ _ _ _ st hQ=>wpAny_pyIter_keyiter st.1 hQ
theorem DW(lo:(d==sysModules)=false):KdlSrc prog w "dict" d d es.size (fun i v=>∃e,es[i]?=some e/\v=e.key) (fun h=>DRaw h d es ep) where
 type:=fun _ hm=>hm.type
 there:=fun _ hm=>⟨hm.lt,hm.lt⟩
 keep:=fun _ _ hm hk=>hm.at' fun o e=>hk d (.inl rfl) o e
 notList:=by decide
 notTuple:=by decide
 hint:=fun _ _ _ _ hm hq=>kdl_hint_dict hm.type hq
 iter:=fun _ _ hh hm=>⟨_,_,(fun _ _ hq=>tm lo hm hq),zK hh _ d (Zv hm.lt) es ep,⟨⟨_,Zk _ rfl,rfl,rfl⟩,hm.at' fun o e=>z9 _ e⟩⟩
end
def jm(H:Hp)(kvs:List (List Key×V))(ks:List V):Prop:=Paired (fun(p:List Key×V) (v:V)=>∃b,v=V.ref b/\H b=some (.tup (p.1.map kV))) kvs ks
theorem wT{H:Hp}{kvs:List (List Key×V)}{xs:List (List Key×Addr×Value)}(r:KT H kvs xs):jm H kvs (xs.map fun(x:List Key×Addr×Value)=>V.ref x.2.1):=by
 unfold jm;induction r with
 |nil=>exact .nil
 |cons h _ ih=>exact .cons ⟨_,rfl,h.2.1⟩ ih
section
variable{X:Cx}
theorem wB(hc:X.calm=true):df X (.type "list") (fun xs H Q=>∃p kvs,xs=[.ref p]/\Rd H p (.dT kvs)/\∀l ks,H l=none->jm H kvs ks->Q (.ref l) (upd H l (.lst ks))):=by
 intro pins s σ H xs us Q I r h;obtain⟨p,kvs,rfl,hq,q⟩:=h;obtain⟨u,rfl,rx⟩:=ce r;cases rx;obtain⟨z,hd,xs,rel,o,es,ep,h1,h2,h3,h4,_,_⟩:=fS I.hok hq;have hsz:es.size=xs.length:=size_of_entries h4;have hkl:kvs.length=xs.length:=YL rel;refine kdl_call (DW (es:=es) (ep:=ep) hd) (I.ok.hd hc) ⟨o,h1,h2,h3⟩ (by omega) fun h' tk acc' c' kp e hacc=>?_;have ev:Vals (xs.map fun(x:List Key×Addr×Value)=>V.ref x.2.1) acc'.toList:=by
  have gen:∀(vs:List Value) (ys:List (List Key×Addr×Value)),vs.length=ys.length->(∀(j:Nat) (v:Value),vs[j]?=some v->∃x:List Key×Addr×Value,ys[j]?=some x/\v=Value.ref x.2.1)->Vals (ys.map fun(x:List Key×Addr×Value)=>V.ref x.2.1) vs:=by
   intro vs;induction vs with
   |nil =>
    intro ys hl _;cases ys with
    |nil=>exact .nil
    |cons _ _=>cases hl
   |cons v vs ih =>
    intro ys hl hv;cases ys with
    |nil=>cases hl
    |cons y ys =>obtain⟨x,e1,e2⟩:=hv 0 v rfl;cases e1;exact .cons e2 (ih ys (by simpa using hl) fun j v' e'=>hv (j+1) v' (by simpa using e'))
  refine gen _ _ (by rw[Zh,hacc.1,hsz]) fun j v e'=>?_;obtain⟨en,e1,e2⟩:=hacc.2 j v (by rw[<-Xj];exact e');rw[entry_at h4]at e1;obtain⟨x,e3,e4⟩:=Ys.mp e1;refine⟨x,e3,?_⟩;rw[e2,<-e4];rfl
 refine⟨.ref s.heap.objs.size,_,I.laid (t':=tk) kp (Ze _) (show ObjOk X.prog X.w _ h' _ (.lst (xs.map fun(x:List Key×Addr×Value)=>V.ref x.2.1))from⟨by rw[Zb];omega,acc'.toList,c',ev,by simpa using e⟩),rfl,q _ _ (I.hok.fresh (Ze _)) (wT rel)⟩
theorem CY(hc:X.calm=true):QCall X (.type "list") (fun xs H Q=>∃p kvs,xs=[.ref p]/\Rd H p (.dT kvs)/\∀l ks,H l=none->jm H kvs ks->Q (.ref l) (upd H l (.lst ks))):=⟨wB hc⟩
end
def Hq(t:TS):TS:=fun D σ H=>∃Pv:St->Hp->Prop,t { D with nx:=Pv } σ H/\∀σ' H',Pv σ' H'->D.nx σ' H'
theorem zQ{X:Cx}{st:Stmt}{t:TS}(h:QS X st t):QS X st (Hq t):=⟨fun pins s σ H D I ⟨Pv,h1,h2⟩=>thn (h.h pins s σ H _ I h1) fun fl s' q=>by
 cases fl with
 |next =>obtain⟨σ',H',I',q'⟩:=q;exact⟨σ',H',I',h2 _ _ q'⟩
 | _=>exact q⟩
open PySem PySem.Spec PyProof.Rows PySem.W
open PySem PySem.Spec PyProof.Rows PySem.W
section
variable{prog:Program}{w:World}{A:Around}{E:Value->Shared->Prop}{h:Heap}{g:Array GenState}{d:Drawn}{t:Nat}{os:OsState}
variable{nm q:Str}{C N:Addr}{bs bm bmB:List Value}{hdct:Bool}{sn:List Str}{sub:List Value}{ab:Bool}{col:Option Bool}{dd:Option Addr}{k0 k1 k2 k3 k5:Option Value}{B newId initId:String}
theorem nU(F:ExcBaseFacts B newId initId bmB)(T:OwnTail h bmB bm){mN:Str->Option Value}{rest:List Value}{fI:Addr}{oI:Obj}{Q:PySem.Fin->Shared->Prop}(hC:h.get? C=some (excClassObj nm q C N bs bm hdct sn sub ab col dd k0 k1 k2 k3 k5 newId))(hn:h.Ns N mN)(hi:mN "__init__" = some (.ref fI))(hfI:h.get? fI=some oI)(hfc:oI.cls=.type "function")(hq:∀h' e,Heap.MadeExcOf h h' e (.ref C) rest->wpAny (model prog w) A (call (.ref fI) (.ref e::rest)) (fun r s'=>r=.none/\Q (.done (.ret (.ref e))) s') E ⟨h',g,d,t,os⟩)(hrest:rest.length<=sizeLine) :
  wpAny (model prog w) A (Builtin.«type.__call__» ⟨.ref C::rest,[]⟩) Q E ⟨h,g,d,t,os⟩:=by
 repeat(first|with_reducible refine x5 hC ?_|with_reducible refine wpAny_madeBy_exc hC ?_|wp_step)
 refine codeAny_call_builtin_code (Code.quiet_builtin _ F.quiet) (wpAny_check_new_subT F T hC ?_);refine codeAny_exc_new_subT F T hC ?_ hrest;show wpAny _ _ _ _ _ _;have kp:∀b o,h.get? b=some o->((h.push { cls:=.type "tuple",data:=.seq rest.toArray }).push { cls:=.ref C,data:=.fields #[.ref h.objs.size,.none,.none,.none,.bool false,.none] }).get? b=some o :=
  fun b o e=>z9 _ (z9 _ e)
 have hn₁:((h.push { cls:=.type "tuple",data:=.seq rest.toArray }).push { cls:=.ref C,data:=.fields #[.ref h.objs.size,.none,.none,.none,.bool false,.none] }).Ns N mN:=hn.keeps kp;have hget:((h.push { cls:=.type "tuple",data:=.seq rest.toArray }).push { cls:=.ref C,data:=.fields #[.ref h.objs.size,.none,.none,.none,.bool false,.none] }).get? (h.objs.size+1) =
   some { cls:=.ref C,data:=.fields #[.ref h.objs.size,.none,.none,.none,.bool false,.none] }:=by heap_get
 have hcC:(Value.ref C::bm).contains (.ref C)=true:=by simp
 unfold isInstance
 repeat(first|with_reducible refine x5 hget ?_|(with_reducible refine wpAny_isSubtype_exc (kp _ _ hC) ?_;rw[hcC])|wp_step)
 show wpAny _ _ (typeLookup (.ref C) _) _ _ _;refine wpAny_typeLookup_tail (kp _ _ hC) hn₁ (T.keeps kp) F.mroIs F.init.lookup ?_;rw[hi];refine Z4 (z6 ?_);unfold bindSpecial;refine z6 (wpAny_typeOf (T:="function") ⟨_,kp _ _ hfI,hfc⟩ ?_);rw[Jv (by decide)];refine Za (z6 (ZX (hq _ (h.objs.size+1) ⟨kp,Y5 (Nat.le_succ _),h.objs.size,hget,Y5 (Ze _),?_⟩) (fun r s' hr=>?_) fun _ _ x=>x))
 ·exact z9 _ (Heap.get?_push_at rfl rfl)
 ·obtain⟨rfl,hQ⟩:=hr
  wp_walk
  exact hQ
theorem wA(F:ExcBaseFacts B newId initId bmB)(T:OwnTail h bmB bm){mN:Str->Option Value}{rest:List Value}{fI:Addr}{oI:Obj}{Q:Value->Shared->Prop}(hC:h.get? C=some (excClassObj nm q C N bs bm hdct sn sub ab col dd k0 k1 k2 k3 k5 newId))(hn:h.Ns N mN)(hi:mN "__init__" = some (.ref fI))(hfI:h.get? fI=some oI)(hfc:oI.cls=.type "function")(hq:∀h' e,Heap.MadeExcOf h h' e (.ref C) rest->wpAny (model prog w) (A.under (.builtin "type.__call__" ⟨.ref C::rest,[]⟩)) (call (.ref fI) (.ref e::rest)) (fun r s'=>r=.none/\Q (.ref e) s') E ⟨h',g,d,t,os⟩)(hrest:rest.length<=sizeLine) :
  wpAny (model prog w) A (call (.ref C) rest) Q E ⟨h,g,d,t,os⟩:=by
 have f1:=tc_lookup;have f2:=tc_bind (.ref C);have hT:(⟨h,g,d,t,os⟩:Shared).TypeIs (.ref C) "type":=⟨_,hC,rfl⟩
 refine wpAny_call (codeAny_of_tree ?_);show wpAny _ _ (callAny (.ref C) _) _ _ _
 repeat(any_goals(first|assumption|with_reducible refine x5 hC ?_|wp_step))
 refine⟨rfl,?_⟩;exact codeAny_call_builtin_at (Code.quiet_builtin _ (by decide +kernel)) entry_typeCall (wpAny_check_type_call_sub hC (nU F T hC hn hi hfI hfc (fun h' e hm=>hq h' e hm) hrest))
end
section
variable{M:Model}{A:Around}{E:Value->Shared->Prop}{env:Env}{K:PySem.W.Frag}
theorem zH{C:Addr}{bm:List Value}{s:Shared}{x:Sem Value}{Q:Flow->Shared->Prop}(hC:ExC K C bm)(hh:A.handled=none)(h:wpAny M A x (fun v s₁=>∃e oe,v=.ref e/\K.In s₁.heap/\s₁.heap.get? e=some oe/\oe.cls=.ref C/\(∃t,oe.data=.fields #[.ref t,.none,.none,.none,.bool false,.none])/\E (.ref e) s₁) E s):wpAny M A (raiseStmt env (some x) none) Q E s:=by
 have hcB:(Value.ref C::bm).contains (.type "BaseException")=true:=by rw[List.contains_cons,hC.exc,Bool.or_true]
 unfold raiseStmt;refine z6 (ZX h (fun v s₁ h₁=>?_) fun _ _ x=>x);obtain⟨e,oe,rfl,hk,he,hcl,⟨vs,hd⟩,hE⟩:=h₁;obtain⟨nm,q,N,bs,hdct,sn,sub,ab,col,dd,k0,k1,k2,k3,k5,ni,oC⟩:=hC.cls _ hk;obtain⟨hp,g,d,tk,os⟩:=s₁;obtain⟨oc,od,odt,osl⟩:=oe;cases hcl;cases hd
 repeat(first|with_reducible refine x5 he ?_|with_reducible refine x5 oC ?_|(with_reducible refine wpAny_isSubtype_exc oC ?_;rw[hcB])|wp_step)
 exact wpAny_raiseNew_none hh hE
end
open PySem PySem.Spec PyProof.Rows PySem.W PySem.Builtin PySem.Builtin.ObjectAttr
theorem zO(self:Value):refuseLoop self "__setattr__" VE=pure ():=by kernel_rfl
def mW:List Value->Bool
 |.ref _::r=>mW r
 |l=>l==VE
theorem lj(self:Value):∀{l:List Value},mW l=true->refuseLoop self "__setattr__" l=pure ()
 |.ref c::r,e=>by rw[refuseLoop_ref];exact lj self e
 | [],e=>nomatch e
 |.type n::r,e=>by rw[show(Value.type n::r)=VE from y4.mp e];exact zO self
 |.none::r,e=>by have:=(y4 (α:=List Value)).mp e;cases this
 |.bool b::r,e=>by have:=(y4 (α:=List Value)).mp e;cases this
 |.int b t::r,e=>by have:=(y4 (α:=List Value)).mp e;cases this
 |.str b t::r,e=>by have:=(y4 (α:=List Value)).mp e;cases this
 |.bytes b t::r,e=>by have:=(y4 (α:=List Value)).mp e;cases this
 |.float b t::r,e=>by have:=(y4 (α:=List Value)).mp e;cases this
 |.builtin b::r,e=>by have:=(y4 (α:=List Value)).mp e;cases this
 |.ellipsis::r,e=>by have:=(y4 (α:=List Value)).mp e;cases this
 |.notImplemented::r,e=>by have:=(y4 (α:=List Value)).mp e;cases this
structure ExS(K:PySem.W.Frag)(c:Addr):Prop where
 sa:findIn K (.ref c) "__setattr__" = some (some (.builtin "object.__setattr__"))
 ov:((clsIn K c).any fun cd=>mW cd.mro&&cd.hasDict)=true
 ob:mroIn K c (.type "object")=some true
section
variable{prog:Program}{w:World}{K:PySem.W.Frag}{A:Around}{R:Result->Shared->Prop}{s:Shared}{x C:Addr}
theorem Dr{ox:Obj}{od:Option Obj}{name:Str}{tk:Tok}{v:Value}(X:K.In s.heap)(I:InstAt s.heap x ox C od)(S:ExS K C)(hn:findIn K (.ref C) name=some none)(h:wpAny (model prog w) A.in1 (storeInOwnDict (.ref x) (.ref C) (.str name tk) name v false)
   (fun fin s'=>match fin with|.done f=>R (.ok f) s'|.again c'=>c'.quiet=true/\codeAny (model prog w) A c' R s') (fun e s'=>R (.error e) s') s) :
  codeAny (model prog w) A (.call (.builtin "object.__setattr__") ⟨[.ref x,.str name tk,v],[]⟩) R s:=by
 have SF:=PySem.F.store_object;obtain⟨cd,hc,ho⟩:=any_some S.ov;rw[Zz]at ho;have sub:Looks (model prog w) s.heap (isInstance (.ref x) (.type "object")) true:=I.type.andThen (looks_mroIn X S.ob);refine codeAny_call_builtin SF.slot.plain SF.entry (@check_slot (model prog w) _ _ s "object.__setattr__" "object" "__setattr__" (.ref x) [.str name tk,v] [] _ SF.kind SF.split sub (SF.args (.ref x) (.str name tk) v) ?_);have hm:Looks (model prog w) s.heap (mroOf (.ref C)) cd.mro:=(looks_clsIn X hc).andThen .now;rw[osa_eq,refuse_eq];refine z6 (z6 (I.type.here (z6 (hm.here ?_))));rw[lj _ ho.1];refine Za (z6 (I.type.here (z6 ((looks_findIn X hn).here (z6 (Looks.now.here ?_))))));exact h
end
def exN(ea c t:Addr)(dc:Option Addr):HO:=.ext fun h=>h.get? ea=some { cls:=.ref c,dict:=dc,data:=.fields #[.ref t,.none,.none,.none,.bool false,.none] }
theorem yw{P:Program}{w:World}{H:Hp}{h:Heap}{ea c t:Addr}{dc:Option Addr}(e:h.get? ea=some { cls:=.ref c,dict:=dc,data:=.fields #[.ref t,.none,.none,.none,.bool false,.none] }):ObjOk P w H h ea (exN ea c t dc) :=
 ⟨e,⟨_,e⟩,fun _ _ p k=>k _ p⟩
section
variable{X:Cx}{pins:List (Addr×Obj)}{σ:St}{H:Hp}{s:Shared}{a c t:Addr}{f:Str}{y:V}{u:Value}{A:Around}{E:Value->Shared->Prop}
theorem D9{Q:Unit->Shared->Prop}(I:Inv X pins σ H s)(e:H a=some (exN a c t none))(S:ExS X.K c)(n:NoAttr X.K c f)(ry:RelV y u)(h:∀d s',H d=none->Inv X pins σ (upd (upd H d (.xd [(f,y)])) a (exN a c t (some d))) s'->Q () s'):wpAny (model X.prog X.w) A (setAttr (.ref a) f u) Q E s:=by
 have hx:s.heap.get? a=some { cls:=.ref c,dict:=none,data:=.fields #[.ref t,.none,.none,.none,.bool false,.none] }:=(show ObjOk X.prog X.w H s.heap a (exN a c t none)from I.hok a _ e).1;have J:InstAt s.heap a { cls:=.ref c,dict:=none,data:=.fields #[.ref t,.none,.none,.none,.bool false,.none] } c none:=⟨hx,rfl,rfl,True.intro⟩
 obtain⟨cd,hc,ho⟩:=any_some S.ov;rw[Zz]at ho;refine PySem.W.set_plain I.kIn J S.sa (Dr (s:={ s with toks:=s.toks+1 }) I.kIn J S n ?_);refine z6 (Za (z6 (z6 (wpAny_loadPart hx (z6 (PySem.W.Looks.here (s:={ s with toks:=s.toks+1 }) (PySem.W.looks_clsIn I.kIn hc) ?_))))));rw[ho.2];have hxs:a≠s.heap.objs.size:=Zv (Zn hx);have hx1:(s.heap.push { cls:=.type "dict",data:=.dict #[] }).get? a=some { cls:=.ref c,dict:=none,data:=.fields #[.ref t,.none,.none,.none,.bool false,.none] }:=z9 _ hx;show wpAny _ _ (alloc { cls:=.type "dict",data:=.dict #[] } >>= fun d=>update a (fun o=>{ cls:=o.cls,dict:=some d,data:=o.data,slots:=o.slots }) >>= fun _=>dictMade (.ref c) a d) _ _ _;refine z6 (wpAny_alloc' ?_);refine z6 (wpAny_update' hx1 ?_);refine Za ?_;have hgd:((s.heap.push { cls:=.type "dict",data:=.dict #[] }).update a fun o=>{ cls:=o.cls,dict:=some s.heap.objs.size,data:=o.data,slots:=o.slots }).get? s.heap.objs.size=some { cls:=.type "dict",data:=.dict #[] } :=
  (Heap.get?_update_ne _ _ _ _ hxs.symm).trans (Heap.get?_push_at rfl rfl)
 have hnd:((s.heap.push { cls:=.type "dict",data:=.dict #[] }).update a fun o=>{ cls:=o.cls,dict:=some s.heap.objs.size,data:=o.data,slots:=o.slots }).Ns s.heap.objs.size (fun _=>none) :=
  ⟨_,#[],_,hgd,rfl,fun e he=>absurd he (by simp),fun _=>rfl⟩
 refine z6 (Za (z6 (wpAny_nsSet1 (Heap.Ns1.of_empty hnd) fun h' hn' hs=>?_)));obtain⟨oD,esD,epD,hoD,hdD,hcD⟩:=hn'.count (Within.cons f u Within.nil);refine z6 (wpAny_lookBehind hoD (by rw[hdD];exact pastItsLine_dict (ZZ hcD (by rw[Zm,List.length_nil,sizeLine_eq];omega))) ?_);have hx':h'.get? a=some { cls:=.ref c,dict:=some s.heap.objs.size,data:=.fields #[.ref t,.none,.none,.none,.bool false,.none] }:=(hs.2 a hxs).trans (Yi _ hx1 rfl);have kp:∀b o,b≠a->s.heap.get? b=some o->h'.get? b=some o:=fun b o hb q=>(hs.2 b (Zv (Zn q))).trans ((Heap.get?_update_ne _ _ _ _ hb).trans (z9 _ q));have hd0:H s.heap.objs.size=none:=I.hok.fresh (Ze _);have nd:∀b o,s.heap.get? b=some o->b≠s.heap.objs.size:=fun b o q=>Zv (Zn q);have ne1:∀b v,H b=some v->v≠exN a c t none->b≠a:=fun b v q hv z=>by rw[z,e]at q;exact hv (ZE q).symm
 have ne2:∀b v,H b=some v->b≠s.heap.objs.size:=fun b v q=>al q hd0;have un:Un X.fs [] H (upd (upd H s.heap.objs.size (.xd [(f,y)])) a (exN a c t (some s.heap.objs.size))) s.heap h':=by
  refine⟨fun b o q m _ _=>kp b o (fun z=>by rw[z,e]at m;cases m) q,fun b o q m _ _=>⟨o.slots,kp b o (fun z=>by rw[z,e]at m;cases m) q⟩,fun b o q m _=>?_,fun b o q _=>?_,fun b xs q=>?_,fun b o v q=>?_,fun b ps q=>⟨#[],?_⟩⟩
  ·rw[ad (fun z=>by rw[z,e]at m;cases m),ad (nd b o q)];exact m
  ·by_cases hb:b=a
   ·exact⟨_,hb▸hx'⟩
   ·exact⟨o,kp b o hb q⟩
  ·rw[ad (ne1 _ _ q (by intro z;cases z)),ad (ne2 _ _ q)];exact q
  ·rw[ad (ne1 _ _ q (by intro z;cases z)),ad (ne2 _ _ q)];exact q
  ·rw[ad (ne1 _ _ q (by intro z;cases z)),ad (ne2 _ _ q),q];simp
 have hok:HOk X.prog X.w (upd (upd H s.heap.objs.size (.xd [(f,y)])) a (exN a c t (some s.heap.objs.size))) h':=fun b v q=>by
  by_cases hb:b=a
  ·subst hb;rw[af]at q;cases q;exact yw hx'
  ·rw[ad hb]at q;by_cases hbd:b=s.heap.objs.size
   ·subst hbd;rw[af]at q;cases q;refine⟨_,hn',fun g=>?_⟩;by_cases hg:g=f
    ·subst hg;rw[Jv rfl];show RelO ([(g,y)].lookup g) (some u);rw[Z1,show(g==g)=true by simp];exact ry
    ·rw[Ju hg];show RelO ([(f,y)].lookup g) none;rw[Z1,show(g==f)=false by simpa using hg];exact True.intro
   ·rw[ad hbd]at q;refine(I.hok b v q).stay (fun b' v' hb' q'=>kp b' v' ?_ q') (fun b' q'=>?_) fun b' xs q'=>?_
    ·rcases hb' with rfl|z
     ·exact hb
     ·exact ne1 _ _ z (by intro z;cases z)
    ·rw[ad (ne1 _ _ q' (by intro z;cases z)),ad (ne2 _ _ q')];exact q'
    ·rw[ad (ne1 _ _ q' (by intro z;cases z)),ad (ne2 _ _ q')];exact q'
 exact Za (h _ _ hd0 (I.un un hok))
end
def Hm(K:PySem.W.Frag)(ta tv:TE)(f:Str):TS:=fun D σ H=>tv σ H fun y H1=>ta σ H1 fun x H2=>∃a c t,x=.ref a/\H2 a=some (exN a c t none)/\ExS K c/\NoAttr K c f/\∀d,H2 d=none ->
 D.nx σ (upd (upd H2 d (.xd [(f,y)])) a (exN a c t (some d)))
theorem Gf{X:Cx}{o value:Expr}{f:Str}{pos pos':Pos}{ta tv:TE}(ha:QE X o ta)(hv:QE X value tv)(hs:swapsWith value (some (.Attribute o f pos')) pos.line X.env=pure false:=by rfl):QS X (.Assign [.Attribute o f pos'] value pos) (Hm X.K ta tv f):=by refine⟨?_⟩;intro pins s σ H D I h;refine plainObj_wpAny_Assign_Attribute (thn (hv.h pins s σ H _ I h) fun u s1 ⟨y,H1,I1,ry,q⟩=>thn (ha.h pins s1 σ H1 _ I1 q) fun ov s2 hz9=>?_) hs;obtain⟨x,H2,I2,rx,a,c,t,ex,ea,S,n,q2⟩:=hz9;subst ex;obtain rfl:ov=Value.ref a:=rx;exact D9 I2 ea S n ry fun d s3 hd I3=>⟨σ,_,I3,q2 d hd⟩
open PySem PySem.Spec PyProof.Rows PySem.W
def del(H:Hp)(a:Addr):Hp:=fun b=>if b=a then none else H b
theorem A0{H:Hp}{a:Addr}:del H a a=none:=by unfold del;rw[Jv rfl]
theorem dZ{H:Hp}{a b:Addr}(h:b≠a):del H a b=H b:=by unfold del;rw[Ju h]
theorem ze{H:Hp}{a b:Addr}{u:HO}(h:del H a b=some u):b≠a/\H b=some u:=by
 by_cases c:b=a
 ·rw[c,A0]at h;cases h
 ·rw[dZ c]at h;exact⟨c,h⟩
open PySem PySem.Spec PyProof.Rows PySem.W
def rY(K:PySem.W.Frag)(C fI:Addr):Bool:=match K.lookup C with
 | some ⟨.type "type",_,.cls cd,sl⟩=>(match cd.mro,sl.toList with
  |.ref C'::bm,[_,_,_,_,some (.builtin n),_]=>C'==C&&n=="ValueError.__new__"&&!cd.hasDel&&tailIn K VE bm&&nsOkIn K cd.ns&&nsIn K cd.ns "__init__" == some (some (.ref fI))
  | _,_=>false)
 |_=>false
theorem xg{K:PySem.W.Frag}{h:Heap}{N:Addr}{m:Str->Option Value}{n:Str}{v:Value}(X:K.In h)(G:h.Ns N m)(e:nsIn K N n=some (some v)):m n=some v:=by
 obtain⟨o,es,ep,ho,hd,_,hf⟩:=G;unfold nsIn at e;split at e
 ·rename_i c d es' n' sl q;have:=X _ _ q;rw[ho]at this;cases this;cases hd;split at e
  ·rename_i en he;cases e;rw[<-hf];unfold nsFind findBy;rw[<-Array.find?_toList,he];rfl
  ·split at e<;>cases e
 ·cases e
structure ExcAtI(K:PySem.W.Frag)(C fI:Addr)(bm:List Value):Prop where
 isIn:rY K C fI=true
 mro:∃c d cd sl,K.lookup C=some ⟨c,d,.cls cd,sl⟩/\cd.mro=Value.ref C::bm
 exc:bm.contains (.type "BaseException")=true
 fn:∃oI,K.lookup fI=some oI/\oI.cls=.type "function"
theorem mE{K:PySem.W.Frag}{C fI:Addr}{bm:List Value}(q:ExcAtI K C fI bm){h:Heap}(X:K.In h) :
  ∃nm qn N bs hdct sn sub ab col dd k0 k1 k2 k3 k5 mN,h.get? C=some (excClassObj nm qn C N bs bm hdct sn sub ab col dd k0 k1 k2 k3 k5 "ValueError.__new__")/\h.Ns N mN/\mN "__init__" = some (.ref fI)/\OwnTail h VE bm:=by
 have q1:=q.isIn;obtain⟨c9,d9,cd9,sl9,l9,m9⟩:=q.mro;unfold rY at q1;split at q1
 ·rename_i dd cd sl ho;split at q1
  ·rename_i C' bm' k0 k1 k2 k3 n k5 hm hs;have q2:cd.mro=Value.ref C::bm:=by have z:=ho.symm.trans l9;cases z;exact m9
   rw[hm]at q2;injection q2 with z1 z2;injection z1 with z1;cases z1;cases z2;simp only[Zz,y4,Bool.not_eq_true']at q1;obtain⟨⟨⟨⟨⟨_,rfl⟩,nd⟩,ht⟩,ok⟩,ni⟩:=q1;have es:sl=#[k0,k1,k2,k3,some (.builtin "ValueError.__new__"),k5]:=by obtain⟨l⟩:=sl;simp only at hs;rw[hs]
   cases es;obtain⟨nm,bs,mro,ns,qn,hd,sn,sub,ab,col,del⟩:=cd;dsimp only at hm nd ok ni;cases hm;cases nd;have G:h.Ns ns _:=.of_isNs (isNs_of_in X ok);exact⟨nm,qn,ns,bs,hd,sn,sub,ab,col,dd,k0,k1,k2,k3,k5,_,X _ _ ho,G,xg X G ni,tail_of_in X ht⟩
  ·cases q1
 ·cases q1
theorem kh{K:PySem.W.Frag}{C fI:Addr}{bm:List Value}(q:ExcAtI K C fI bm):ExC K C bm where
 cls:=fun h X=>by obtain⟨nm,qn,N,bs,hdct,sn,sub,ab,col,dd,k0,k1,k2,k3,k5,mN,e,_⟩:=mE q X;exact⟨nm,qn,N,bs,hdct,sn,sub,ab,col,dd,k0,k1,k2,k3,k5,_,e⟩
 exc:=q.exc
structure ExI(P:Program)(w:World)(K:PySem.W.Frag)(mg:Str->Option Value)(base:Heap)(k:Nat)(C:Addr)(bm:List Value)(ps:List Str)(sp:Sp):Prop where
 ex:∃fI fd,ExcAtI K C fI bm/\FnOk P w K mg base CX0 k fI fd ps sp/\Binds K fd ps []
section
variable{X:Cx}{pins:List (Addr×Obj)}{σ:St}{H:Hp}{s:Shared}
theorem Inv.excMade{h':Heap}{e c t:Addr}(I:Inv X pins σ H s)(kp:∀b o,s.heap.get? b=some o->h'.get? b=some o)(hn:s.heap.get? e=none)(he:h'.get? e=some { cls:=.ref c,data:=.fields #[.ref t,.none,.none,.none,.bool false,.none] }) :
  H e=none/\Inv X pins σ (upd H e (exN e c t none)) { s with heap:=h' }:=by
 have h0:H e=none:=by
  cases q:H e with
  |none=>rfl
  |some u =>obtain⟨o,z⟩:=gC (I.hok e u q);rw[hn]at z;cases z
 have nb:∀b o,s.heap.get? b=some o->b≠e:=fun b o q z=>by rw[z,hn]at q;cases q
 refine⟨h0,I.un (t':=s.toks) ⟨fun b o q _ _ _=>kp b o q,fun b o q _ _ _=>⟨o.slots,kp b o q⟩,fun b o q m _=>by rw[ad (nb b o q)];exact m,fun b o q _=>⟨o,kp b o q⟩,fun b xs q=>by rw[ad (al q h0)];exact q,fun b o v q=>by rw[ad (al q h0)];exact q,fun b ps q=>⟨#[],by rw[ad (al q h0),q];simp⟩⟩ fun b u q=>?_⟩;by_cases hb:b=e
 ·subst hb;rw[af]at q;cases q;exact yw he
 ·rw[ad hb]at q;exact(I.hok b u q).stay (fun b' v _ q'=>kp b' v q') (fun b' z=>by rw[ad (al z h0)];exact z) fun b' xs z=>by rw[ad (al z h0)];exact z
end
section
variable{X:Cx}{EC:Value->Option Addr->Hp->Prop}{C:Addr}{bm:List Value}{k:Nat}{ps:List Str}{sp:Sp}{x:Str}{np cpos pos:Pos}{e:Expr}{es:List Expr}{ta:TA}
def Ee(sp:Sp)(C:Addr)(EC:Value->Option Addr->Hp->Prop)(ta:TA):TS:=fun _ σ H=>ta σ H fun vs H1=>vs.length<=sizeLine/\∀ea t,H1 ea=none->H1 t=none->t≠ea ->
 sp (.ref ea::vs) (upd H1 ea (exN ea C t none)) (fun v H2=>v=.non/\∃dc,H2 ea=some (exN ea C t dc)/\EC (.ref C) dc (del H2 ea)) E0
end
open PySem PySem.Spec PyProof.Rows PySem.W
structure MFnX(P:Program)(w:World)(K:PySem.W.Frag)(mg:Str->Option Value)(base:Heap)(k:Nat)(C:Addr)(m:Str)(ps:List Str)(sp:Sp):Prop where
 cl:Cls K C
 ex:∃f fd,FnOk P w K mg base (CXr P w) k f fd ps sp/\Meth K C m f/\Binds K fd ps []
section
variable{X:Cx}{k:Nat}{C:Addr}{m x:Str}{p pos apos:Pos}{o e:Expr}{es:List Expr}{ps:List Str}{sp:Sp}{t:TA}{ta:TE}{E:XK}
def Gq(C:Addr)(m:Str)(sp:Sp)(ta:TE)(t:TA):TX:=fun σ H Q E=>ta σ H fun x H1=>∃a dx fs,x=.ref a/\H1 a=some (.ins C dx fs)/\fs.lookup m=none/\t σ H1 fun vs H2=>sp (x::vs) H2 Q E
theorem Av{pl:Sem Bool}(F:MFnX X.prog X.w X.K X.mg X.base k C m ps sp)(hr:Room k X.A)(he:QE X.nox o ta)(ha:QA X.nox (e::es) t)(hs:(e::es).all aR=true:=by rfl)(ht:eval (.Call (.Attribute o m apos) (e::es) [] pos) X.env=(do
   let ov ←eval o X.env
   standAt apos.atName
   let(f,first) ←holding [ov] (getMethod ov m pl)
   callWith pos f first (backTo pos (starEach (e::es) X.env)) (backToKw pos (keywordEach [] X.env))):=by rfl) :
  QX X (.Call (.Attribute o m apos) (e::es) [] pos) (Gq C m sp ta t):=by
 refine⟨?_⟩;intro pins s σ H Q E I h;obtain⟨f,fd,G,hm,b⟩:=F.ex;rw[List.all_cons,Zz]at hs;refine PySem.W.methodCall_KW (pl:=pl) (ZX (he.h pins s σ H _ (I.wish _) h) (fun u s1 hz9=>?_) fun _ _ z=>False.elim z) ht;obtain⟨y,H1,I1,rx,a,dx,fs,ex,ea,l,q⟩:=hz9;subst ex;obtain rfl:u=Value.ref a:=rx;have I1':=I1.unwish;refine iP I1' ea F.cl hm l ?_;refine PySem.W.callWith_K (first:=[.ref a]) (h₀:=X.base) I.ok.mod.kin hm.kp (ZX (ha.h pos pins s1 σ H1 _ I1 q) (fun us s2 ⟨vs,H2,I2,r,q2⟩=>⟨I2.kIn,?_⟩) fun _ _ z=>False.elim z) (aU hs.1) (bz hs.2);have I3:=I2.unwish;have hb:=b s2 (.ref a::us) I3.kIn (by rw[Zx,<-G.len _ _ _ _ q2,Zm,Zm,r.length]);rw[Zx]at hb;refine wpAny_call (codeAny_mono (G.run X.A X.stack s2 H2 ⟨.ref a::us,[]⟩ (.ref a::us) (.ref a::vs) Q E hr I3.env0 hb (.cons rfl r) q2) fun r s' hq=>?_);cases r with
 |error e=>exact⟨s2,H2,I3,hq⟩
 |ok fl =>
  cases fl with
  |ret u=>exact I3.after hq
  |next=>exact False.elim hq
  |brk=>exact False.elim hq
  |cont=>exact False.elim hq
end
section
variable{X:Cx}
theorem GT:QH X [] (fun _ _ _ _ _=>False):=⟨fun _ _ _ _ _ _ _ _ _ _ _ _ _ _ _ _ h=>h.elim⟩
def Hr(K:PySem.W.Frag)(Ch:Addr)(ts:TS)(th:TH):TH:=fun D σ C dc H'=>∃c bm,C=.ref c/\ExC K c bm/\if(Value.ref c::bm).contains (.ref Ch)=true then ts D σ H' else th D σ C dc H'
theorem HV{x:Str}{Ch:Addr}{bmh:List Value}{b0:Stmt}{suite:List Stmt}{ts:TS}{np pos:Pos}{rest:List ExceptHandler}{th:TH}(cl:ExC X.K Ch bmh)(hm:X.mg x=some (.ref Ch))(hs:∀e,QB (X.exc e) (b0::suite) ts)(hrest:QH X rest th)(hg:Gl X x:=by rfl)(hdb:(x==("__debug__":Str))=false:=by decide):QH X (.ExceptHandler (some (.Name x np)) none (b0::suite) pos::rest) (Hr X.K Ch ts th):=by
 refine⟨?_⟩;rintro pins s0 H0 σ D ea t C B H' dc s' I0 F fly hd ⟨c,bm,rfl,ec,q⟩;have I:=F.inv I0;refine wpAny_handleBy_cons (codeAny_handlers_test ?_) (by intro z;cases z);refine gd (X:=X.exc (.ref ea)) (I.exc _) hg hm ?_ hdb;obtain⟨oe,he,hcl⟩:=fly.there;refine kW ec cl I.kIn he hcl ?_;cases hc:(Value.ref c::bm).contains (.ref Ch)with
 |true =>
  rw[hc,Jv rfl]at q;refine codeAny_handlers_suite ?_;obtain⟨f1,f2,f3,f4⟩:=fly;refine fT f1 f3 f4.at hd fun h6 k1 k2 k3 up6 hd6=>?_;have F6:=F.move (tk:=s'.toks) I0 k1 up6;refine ZX ((hs (.ref ea)).h pins _ _ _ _ ((F6.inv I0).exc _) q) (fun f s8 sp=>?_) (fun _ _ z=>False.elim z);cases f with
  |next =>obtain⟨σ2,H2,I8,q8⟩:=sp;exact⟨_,H2,I8.unexc I0.ok,q8⟩
  |brk =>obtain⟨σ2,H2,I8,q8⟩:=sp;exact⟨_,H2,I8.unexc I0.ok,q8⟩
  |cont =>obtain⟨σ2,H2,I8,q8⟩:=sp;exact⟨_,H2,I8.unexc I0.ok,q8⟩
  |ret u =>obtain⟨v,σ2,H2,I8,r8,q8⟩:=sp;exact⟨v,_,H2,I8.unexc I0.ok,r8,q8⟩
 |false =>rw[hc,Ju Zr]at q;exact hrest.h pins s0 H0 σ D ea t _ B H' dc _ I0 F fly hd q
end
def exD(ea c:Addr)(dc:Option Addr):HO:=.ext fun h=>∃oe,h.get? ea=some oe/\oe.cls=.ref c/\oe.dict=dc/\notCls oe=true
theorem Fl.trackD{X:Cx}{pins:List (Addr×Obj)}{σ:St}{H0 H':Hp}{s0 s':Shared}{B:Heap}{ea t c:Addr}{dc:Option Addr}(F:Fl X H0 H' s0 s' B)(I0:Inv X pins σ H0 s0)(fly:Heap.FlyingW B X.stack ea (.ref c) (.ref t) s'.heap)(hd:∃oe,s'.heap.get? ea=some oe/\oe.cls=.ref c/\oe.dict=dc/\notCls oe=true) :
  H' ea=none/\Inv X pins σ (upd H' ea (exD ea c dc)) s':=by
 have I:=F.inv I0;obtain⟨oe,vs,he,hc,hf,_⟩:=fly.first;have nfr:ea∉frs X.stack:=fun hm=>by obtain⟨_,o',ho',hd'⟩:=I.stack.mem hm;have e:s'.heap.get? ea=some o':=ho';rw[he]at e;cases e;exact hd' vs hf
 have hB:B.get? ea=none:=fly.2.1;have hn:H' ea=none:=by
  cases q:H' ea with
  |none=>rfl
  |some u =>have:=F.kb ea oe nfr (.inl ⟨u,q⟩) he;rw[hB]at this;cases this
 have h0:s0.heap.get? ea=none:=by
  cases q:s0.heap.get? ea with
  |none=>rfl
  |some o0 =>have:=F.kb ea oe nfr (.inr ⟨o0,q⟩) he;rw[hB]at this;cases this
 have ne0:∀b o,s0.heap.get? b=some o->b≠ea:=fun b o q z=>by rw[z,h0]at q;cases q
 have neH:∀b u,H' b=some u->b≠ea:=fun b u q z=>by rw[z,hn]at q;cases q
 refine⟨hn,⟨I.ok,I.os,I.bare,⟨I.base.keep,I.base.slot,fun b o q n hx=>?_,I.base.there,fun b xs q=>?_,fun b o u q=>?_,fun b ps q=>?_⟩,I.loc,I.cell,?_,fun x c' q=>?_,fun p hp=>?_,fun b u q=>?_,I.len⟩⟩
 ·obtain⟨o',q'⟩:=I0.base.there b o q hx;rw[ad (ne0 b o' q')];exact I.base.free b o q n hx
 ·have:=I.base.tups b xs q;rw[ad (neH _ _ this)];exact this
 ·have:=I.base.frzs b o u q;rw[ad (neH _ _ this)];exact this
 ·obtain⟨more,this⟩:=I.base.tbls b ps q;exact⟨more,by rw[ad (neH _ _ this)];exact this⟩
 ·obtain⟨m,⟨o,_,_,ho,_⟩,_⟩:=I0.loc;rw[ad (ne0 _ o ho)];exact I.free
 ·obtain⟨v,o,ho,_⟩:=I0.cell x c' q;rw[ad (ne0 _ o ho)];exact I.freeC x c' q
 ·obtain⟨e,n,ne,nf,d⟩:=I.pin p hp;refine⟨e,?_,ne,nf,d⟩;rw[ad (ne0 _ _ (I0.pin p hp).1)];exact n
 ·by_cases hb:b=ea
  ·subst hb;rw[af]at q;cases q;obtain⟨o1,a1,a2,a3,a4⟩:=hd;exact⟨⟨o1,a1,a2,a3,a4⟩,⟨o1,a1⟩,fun h1 h2 ⟨o2,b1,b2,b3,b4⟩ k=>⟨o2,k o2 b1,b2,b3,b4⟩⟩
  ·rw[ad hb]at q;refine(I.hok b u q).stay (fun _ _ _ z=>z) (fun d z=>?_) fun d xs z=>?_
   ·rw[ad (neH _ _ z)];exact z
   ·rw[ad (neH _ _ z)];exact z
def Ii(K:PySem.W.Frag)(i:Nat)(Ch:Addr)(ts:TS):TH:=fun D σ C dc H'=>∃c bm,C=.ref c/\ExC K c bm/\(Value.ref c::bm).contains (.ref Ch)=true/\∀ea,H' ea=none ->
 ts { nx:=fun σ2 H2=>D.nx (σ2.set i none) H2,rt:=D.rt,bk:=fun σ2 H2=>D.bk (σ2.set i none) H2,ct:=fun σ2 H2=>D.ct (σ2.set i none) H2 } (σ.set i (some (.ref ea))) (upd H' ea (exD ea c dc))
section
variable{X:Cx}
theorem GS{i:Nat}{x n:Str}{Ch:Addr}{bmh:List Value}{b0:Stmt}{suite:List Stmt}{ts:TS}{np pos:Pos}{rest:List ExceptHandler}(hN:X.N.Nodup)(cl:ExC X.K Ch bmh)(hm:X.mg x=some (.ref Ch))(hs:∀e,QB (X.exc e) (b0::suite) ts)(hi:X.N[i]?=some n:=by rfl)(hl:X.env.kindOf n=some .local:=by rfl)(hg:Gl X x:=by rfl)(hdb:(x==("__debug__":Str))=false:=by decide) :
  QH X (.ExceptHandler (some (.Name x np)) (some n) (b0::suite) pos::rest) (Ii X.K i Ch ts):=by
 refine⟨?_⟩;rintro pins s0 H0 σ D ea t C B H' dc s' I0 F fly hd ⟨c,bm,rfl,ec,hc,q⟩;have I:=F.inv I0;refine wpAny_handleBy_cons (codeAny_handlers_test ?_) (by intro z;cases z);refine gd (X:=X.exc (.ref ea)) (I.exc _) hg hm ?_ hdb;obtain⟨oe,he,hcl⟩:=fly.there;refine kW ec cl I.kIn he hcl ?_;rw[hc];refine codeAny_handlers_suite_as ?_;obtain⟨f1,f2,f3,f4⟩:=fly;refine fT f1 f3 f4.at hd fun h6 k1 k2 k3 up6 hd6=>?_;have fly6:Heap.FlyingW B X.stack ea (.ref c) (.ref t) h6:=⟨k1,f2,k2,k3⟩
 have F6:=F.move (tk:=s'.toks) I0 fly6.1 up6;have hx6:∃oe,h6.get? ea=some oe/\oe.cls=.ref c/\oe.dict=dc/\notCls oe=true:=by obtain⟨oe,vs,z1,z2,z3,_⟩:=fly6.first;obtain⟨o2,y1,y2⟩:=hd6;cases ZE (z1.symm.trans y1);exact⟨oe,z1,z2,y2,by unfold notCls;rw[z3]⟩
 obtain⟨hn,I6⟩:=F6.trackD I0 fly6 hx6;refine jh I6 hN hi (.inl hl) (v:=.ref ea) (u:=.ref ea) rfl (fun s7 I7=>?_) (.inr hl);refine ZX ((hs (.ref ea)).h pins s7 _ _ _ (I7.exc _) (q ea hn)) (fun f s8 sp=>?_) (fun _ _ z=>False.elim z);cases f with
 |next =>obtain⟨σ2,H2,I8,q8⟩:=sp;exact gW (I8.unexc I0.ok) hN hi hl fun s9 I9=>⟨_,H2,I9,q8⟩
 |brk =>obtain⟨σ2,H2,I8,q8⟩:=sp;exact gW (I8.unexc I0.ok) hN hi hl fun s9 I9=>⟨_,H2,I9,q8⟩
 |cont =>obtain⟨σ2,H2,I8,q8⟩:=sp;exact gW (I8.unexc I0.ok) hN hi hl fun s9 I9=>⟨_,H2,I9,q8⟩
 |ret u =>obtain⟨v,σ2,H2,I8,r8,q8⟩:=sp;exact gW (I8.unexc I0.ok) hN hi hl fun s9 I9=>⟨v,_,H2,I9,r8,q8⟩
end
open PySem PySem.Spec PyProof.Rows PySem.W
section
variable{K:PySem.W.Frag}{prog:Program}{w:World}{A:Around}{E:Value->Shared->Prop}{h:Heap}{g:Array GenState}{d:Drawn}{t:Nat}{os:OsState}{x D:Addr}{ox:Obj}{od:Option Obj}
theorem wH{M:Model}{nv:Value}{Q:Unit->Shared->Prop}(X:K.In h)(I:InstAt h x ox D od)(hb:mroIn K D (.type "BaseException")=some true)(hq:Q () ⟨h,g,d,t,os⟩) :
  wpAny M A (checkBuiltinCall "BaseException.__getattribute__" ⟨[.ref x,nv],[]⟩) Q E ⟨h,g,d,t,os⟩:=by
 have hk:builtinKind "BaseException.__getattribute__" = some .slot:=by decide +kernel
 have hs:splitId "BaseException.__getattribute__" = some ("BaseException","__getattribute__"):=by decide +kernel
 have ao:=F.args_bexc_ga (.ref x) nv;have L0:=I.type (M:=M);have L1:=looks_mroIn (M:=M) X hb;simp only[checkBuiltinCall,hk,hs];refine z6 ?_;unfold isInstance
 repeat(first|with_reducible refine L0.at ?_|with_reducible refine L1.at ?_|wp_step)
 exact hq
theorem yx{tk:Tok}{name:Str}{v:Value}{Q:PySem.Fin->Shared->Prop}(X:K.In h)(I:InstAt h x ox D od)(hf:findObj K D od name=some (.value v))(hq:Q (.done (.ret v)) ⟨h,g,d,t,os⟩):wpAny (model prog w) A (Builtin.«object.__getattribute__» ⟨[.ref x,.str name tk],[]⟩) Q E ⟨h,g,d,t,os⟩:=by have L0:=I.type (M:=model prog w);have L3:=looks_find (M:=model prog w) X I hf;refine z6 (Za (z6 (Za (z6 (L0.at (z6 (L3.at ?_)))))));exact Za hq
theorem A4{name:Str}{v:Value}{expr:Bool}{Q:Value->Shared->Prop}(X:K.In h)(I:InstAt h x ox D od)(hga:findIn K (.ref D) "__getattribute__" = some (some (.builtin "BaseException.__getattribute__")))(hgh:findIn K (.ref D) "__getattr__" = some none)(hb:mroIn K D (.type "BaseException")=some true)(hf:findObj K D od name=some (.value v))(hv:handedIn v=true)(hq:Q v ⟨h,g,d,t+1,os⟩) :
  wpAny (model prog w) A (getAttr (.ref x) name expr) Q E ⟨h,g,d,t,os⟩:=by
 have L0:=I.type (M:=model prog w);have L1:=looks_findIn (M:=model prog w) X hga;have L2:=looks_findIn (M:=model prog w) X hgh;have f3:=F.excAttr_ValueError.ga.bind (.ref x);have hx0:(expr&&onTheHeap (Value.builtin "BaseException.__getattribute__"))=false:=by cases expr<;>rfl
 have ne:(Value.builtin "BaseException.__getattribute__" == Value.builtin "object.__getattribute__")=false:=by decide +kernel
 have ne1:(onTheHeap (Value.ref D)&&Value.builtin "BaseException.__getattribute__" == Value.builtin "object.__getattribute__")=false:=by rw[ne];rfl
 have hh:=handedOut_of hv;unfold getAttr getAttrBy
 repeat(any_goals(first|assumption|with_reducible refine L0.at ?_|with_reducible refine L1.at ?_|with_reducible refine L2.at ?_|wp_step))
 refine codeAny_call_builtin F.excAttr_ValueError.ga.plain F.entry_bexc_ga (wH X I hb (yx X I hf ?_))
 repeat(any_goals(first|assumption|wp_step))
end
def HQ(H:Hp):Option Addr->Prop
 |none=>True
 |some d=>∃fs,H d=some (.xd fs)
section
variable{X:Cx}{pins:List (Addr×Obj)}{σ:St}{H:Hp}{s:Shared}
theorem yy{a c:Addr}{dc:Option Addr}(I:Inv X pins σ H s)(ha:H a=some (exD a c dc))(hd:HQ H dc):∃oe od,InstAt s.heap a oe c od/\∀d,dc=some d->∃o,od=some o/\s.heap.get? d=some o:=by
 obtain⟨⟨oe,h1,h2,h3,h4⟩,_⟩:=(show ObjOk X.prog X.w H s.heap a (exD a c dc)from I.hok a _ ha)
 cases dc with
 |none=>exact⟨oe,none,⟨h1,h2,h4,by rw[h3];exact True.intro⟩,fun d z=>nomatch z⟩
 |some d =>obtain⟨fs,hf⟩:=hd;obtain⟨o,ho⟩:=gC (I.hok d _ hf);exact⟨oe,some o,⟨h1,h2,h4,by rw[h3];exact ho⟩,fun d' z=>by cases z;exact⟨o,rfl,ho⟩⟩
def CH(K:PySem.W.Frag)(ta:TE)(f:Str):TE:=fun σ H Q=>ta σ H fun x H1=>∃a c d fs v,x=.ref a/\H1 a=some (exD a c (some d))/\H1 d=some (.xd fs)/\ExK K c/\hasDictIn K c=true/\NoAttr K c f/\fs.lookup f=some v/\Q v H1
theorem FT{e:Expr}{f:Str}{pos:Pos}{ta:TE}(he:QE X e ta)(hb:attributeBase e f X.env (eval e X.env)=eval e X.env:=by rfl):QE X (.Attribute e f pos) (CH X.K ta f):=by
 refine⟨?_⟩;intro pins s σ H Q I h;refine uU hb (thn (he.h pins s σ H _ I h) fun u s1 hz9=>?_);obtain⟨x,H1,I1,rx,a,c,d,fs,v,ex,ea,ed,k,hh,n,l,q⟩:=hz9;subst ex;obtain rfl:u=Value.ref a:=rx;obtain⟨oe,od,ia,hod⟩:=yy I1 ea ⟨fs,ed⟩;obtain⟨o,rfl,ho⟩:=hod d rfl;obtain⟨mA,hn,hr⟩:=(show ObjOk X.prog X.w H1 s1.heap d (.xd fs)from I1.hok d _ ed)
 obtain⟨o2,ho2,hl⟩:=qv hn;cases ZE (ho.symm.trans ho2);obtain⟨u',hu,ru⟩:=RelO.some_of (v:=v) (o:=mA f) (by rw[<-l];exact hr f);obtain⟨hp,g,dr,tk,os⟩:=s1;exact A4 I1.kIn ia k.hga k.hgh k.hb (findObj_own hh n rfl (by rw[hl,hu])) (qr ru) ⟨v,H1,I1.tok (tk+1),ru,q⟩
end
open PySem PySem.Spec PyProof.Rows PySem.W
def CW(X:Cx)(B:Heap)(ea:Addr)(C:Value)(t:Addr)(h:Heap):Prop :=
 (B.StaysIn h/\B.get? ea=none/\h.FunFrames B X.stack/\∃oe,h.get? ea=some oe/\oe.cls=C/\oe.data=.fields #[.ref t,.none,.none,.none,.bool false,.none]) \/
 Heap.FlyingW B X.stack ea C (.ref t) h\/Heap.HeldW B X.stack ea C (.ref t) X.env.locals h
def Cb(X:Cx)(E:XK)(ea:Addr)(s':Shared):Prop:=∃(pins:List (Addr×Obj)) (σ:St) (H0 H':Hp) (s0:Shared) (B:Heap) (t:Addr) (C:Value) (vs:List Value) (dc:Option Addr),
 Inv X pins σ H0 s0/\Fl X H0 H' s0 s' B/\CW X B ea C t s'.heap/\s'.heap.TupAt t vs/\B.get? t=none/\dY s'.heap ea dc/\E C dc H'
section
variable{X:Cx}{E:XK}{ea:Addr}{s':Shared}{EE:Value->Shared->Prop}
theorem wx{Q:Unit->Shared->Prop}(hst:X.stack=X.env::X.outer)(hfr:X.env.frame=some X.env.locals)(x:Cb X E ea s')(k:∀ h',(∃ (pins:List (Addr×Obj)) (σ:St) (H0 H':Hp) (s0:Shared) (B:Heap) (t:Addr) (C:Value) (vs:List Value) (dc:Option Addr),
   Inv X pins σ H0 s0/\Fl X H0 H' s0 { s' with heap:=h' } B/\Heap.HeldW B X.stack ea C (.ref t) X.env.locals h'/\h'.TupAt t vs/\B.get? t=none/\dY h' ea dc/\E C dc H')->Q () { s' with heap:=h' }) :
  wpAny (model X.prog X.w) X.A (noteFrame (.ref ea) X.env) Q EE s':=by
 obtain⟨pins,σ,H0,H',s0,B,t,C,vs,dc,I0,F,st,tup,hBt,dd,q⟩:=x;have fr:X.A.frames=some (X.env::X.outer):=by rw[<-hst];exact I0.ok.frames
 rcases st with⟨f1,f2,f3,oe,he,rfl,hd⟩|fly|held
 ·unfold noteFrame;simp only[hfr];refine z6 (Z2 he hd (show _=some Value.none from rfl) ?_);rw[Ju (by decide)];rw[hst]at f3;refine ld (a0:=.ref t) fr f3 hfr he f1 f2 hd (by simp) rfl fun h1 nt dd1=>?_;obtain⟨n1,n2,n3,n4⟩:=nt;rw[<-hst]at n2;obtain⟨o9,q9,d9⟩:=dd;cases ZE (he.symm.trans q9);rw[d9]at dd1;exact k h1 ⟨pins,σ,H0,H',s0,B,t,_,vs,dc,I0,F.move (tk:=s'.toks) I0 n1 n4,⟨n1,f2,n2,n3⟩,tup.of_slots n4,hBt,dd1,q⟩
 ·rw[hst]at fly;refine mO fr hfr fly dd fun h1 held up dd1=>?_;rw[<-hst]at held;exact k h1 ⟨pins,σ,H0,H',s0,B,t,C,vs,dc,I0,F.move (tk:=s'.toks) I0 held.1 up,held,tup.of_slots up,hBt,dd1,q⟩
 ·exact wpAny_noteFrame_againW hfr held.2.2.2 (k s'.heap ⟨pins,σ,H0,H',s0,B,t,C,vs,dc,I0,F,held,tup,hBt,dd,q⟩)
end
def uP(X:Cx)(E:XK):Prop:=∀ea s',Cb X E ea s'->X.xe (.ref ea) s'
section
variable{P:Program}{w:World}{K:PySem.W.Frag}{mg:Str->Option Value}{base:Heap}{N:List Str}{qual:Str}{scope:Scope}{f:Addr}{cd:Value}{A:Around}{outer:List Env}{s:Shared}{H:Hp}{E:XK}
theorem xA:uP (dO (CXr P w) P w K mg base N qual scope f cd A outer s H E) E:=by
 intro ea s' x;show wpAny (model P w) (A.deeper (envOfC qual scope s.heap.objs.size f cd)) (leaving (envOfC qual scope s.heap.objs.size f cd) (.ref ea)) _ _ _;unfold leaving;refine z6 (wx (X:=dO (CXr P w) P w K mg base N qual scope f cd A outer s H E) rfl rfl x ?_);rintro h1 ⟨pins,σ,H0,H',s0,B,t,C,vs,dc,I,F,held,tup,hBt,dd,q⟩;obtain⟨f1,f2,f3,f4⟩:=held;refine fT (s:={ s' with heap:=h1 }) f1 f3 f4 dd fun h2 k1 k2 k3 up dd2=>?_;have F2:=F.move (tk:=s'.toks) I k1 up;have I2:=F2.inv I;have hL:∀b o,s.heap.get? b=some o->b≠s.heap.objs.size:=fun b o q=>Zv (Zn q);have nfr:∀b,b∉frs outer->b≠s.heap.objs.size->b∉frs (envOfC qual scope s.heap.objs.size f cd::outer):=fun b h1 h2 hm=>by
  rcases Zs.mp (I.stkSub b hm)with z|z
  ·exact h2 z
  ·exact h1 z
 obtain⟨_,_,k2'⟩:=k2;refine⟨ea,t,C,vs,B,H',dc,rfl,I2.os,F2.bare,⟨fun b o q n hb _=>?_,fun b o q n hb _=>?_,fun b o q n _=>?_,fun b o q _=>?_,I2.base.tups,I2.base.frzs,I2.base.tbls⟩,F2.hok,⟨k1,f2,k2',k3⟩,tup.of_slots up,hBt,fun b o hb ho q=>?_,dd2,q⟩
 ·exact I2.base.keep b o q n hb (by intro z;cases z)
 ·exact I2.base.slot b o q n hb (by intro z;cases z)
 ·exact I2.base.free b o q n (by intro z;cases z)
 ·exact I2.base.there b o q (by intro z;cases z)
 ·refine F2.kb b o ?_ ?_ q
  ·rcases ho with⟨u,z⟩|⟨o0,z⟩
   ·exact F2.nf I z
   ·exact nfr b hb (hL b o0 z)
  ·rcases ho with⟨u,z⟩|⟨o0,z⟩
   ·exact .inl ⟨u,z⟩
   ·exact .inr (I.base.there b o0 z (by intro z;cases z))
end
section
variable{X:Cx}{E:XK}{C:Addr}{bm:List Value}{k:Nat}{ps:List Str}{sp:Sp}{x:Str}{np cpos pos:Pos}{e:Expr}{es:List Expr}{ta:TA}
theorem BS(hR:uP X E)(hc:X.calm=true)(F:ExI X.prog X.w X.K X.mg X.base k C bm ps sp)(hr:Room (k+1) X.A)(hm:X.mg x=some (.ref C))(ha:QA X (e::es) ta)(hg:Gl X x:=by rfl)(hs:(e::es).all aR=true:=by rfl)(hdb:(x==("__debug__":Str))=false:=by decide) :
  QS X (.Raise (some (.Call (.Name x np) (e::es) [] cpos)) none pos) (Ee sp C E ta):=by
 refine⟨?_⟩;intro pins s σ H D I h;obtain⟨fI,fd,xc,G,hb⟩:=F.ex;have hs1:aR e=true:=y6.mp hs e (by simp);have he:=aU (es:=es) (env:=X.env) hs1;have hpl:(backTo cpos (starEach es X.env)).any (·.1)=false:=bz (by
  rw[y6];intro y hy;exact y6.mp hs y (ZC _ hy))
 have hpl':(backTo cpos (starEach (e::es) X.env)).any (·.1)=false:=by rw[he];show(false ||(backTo cpos (starEach es X.env)).any (·.1))=false;rw[hpl];rfl
 rw[arm_exec_Raise];refine z6 (wpAny_standAt (zH (K:=X.K) (kh xc) (I.ok.hd hc) (z6 (ZX (wpAny_Call_ofName (gd I hg hm ?_ hdb)) (fun v s₃ h₃=>z6 (wpAny_standAt (Za h₃))) fun _ _ x=>x))));unfold callWith;have hA:=ha.h cpos pins s σ H _ I h;rw[he]at hA ⊢;refine z6 (Z4 (Calls.evalArgs_plain (thn hA fun us s1 ⟨vs,H1,I1,r1,hz,hE⟩=>z6 (wpAny_standAt ?_))));obtain⟨nm,q,N,bs,hdct,sn,sub,ab,col,dd,k0,k1,k2,k3,k5,mN,oC,hN,hi,T⟩:=mE xc I1.kIn;obtain⟨oI,lI,cI⟩:=xc.fn;obtain⟨hp,g,d,tk,os⟩:=s1;rw[<-he];simp only[hpl'];refine z6 (wpAny_keeperOf_exc oC ?_);refine z6 (wA PySem.F.excBase_ValueError T oC hN hi (I1.kIn _ _ lI) cI (fun h' ea mx=>?_) (show us.length<=sizeLine by rw[<-r1.length];exact hz));obtain⟨t,ht,tn,tt⟩:=mx.there;obtain⟨hea0,I2⟩:=I1.excMade mx.keeps mx.new ht;have nt:t≠ea:=fun z=>by rw[z,ht]at tt;cases tt
 have ht0:H1 t=none:=by
  cases q:H1 t with
  |none=>rfl
  |some u =>obtain⟨o,z⟩:=gC (I1.hok t u q);exact nomatch tn.symm.trans z
 have hq:=hE ea t hea0 ht0 nt;have hl:(Value.ref ea::us).length=ps.length:=by rw[<-G.len _ _ _ _ hq,Zm,Zm,r1.length]
 refine wpAny_call (codeAny_mono (G.run _ X.stack _ _ ⟨Value.ref ea::us,[]⟩ (Value.ref ea::us) (V.ref ea::vs) _ _ (hr.make C us []) (I2.env0.make C us []) (by have:=hb _ (Value.ref ea::us) I2.kIn (by rw[Zx];exact hl);rw[Zx]at this;exact this) (.cons rfl r1) hq) fun r s' hq'=>?_);cases r with
 |error e'=>exact False.elim hq'
 |ok fl =>
  cases fl with
  |next=>exact False.elim hq'
  |brk=>exact False.elim hq'
  |cont=>exact False.elim hq'
  |ret u =>
   obtain⟨v,H',os',bare,un,hok,r,rfl,dc,hd,hE'⟩:=hq';obtain rfl:u=Value.none:=r;have I3:Inv X pins σ H' s':=I2.call' os' un hok bare fun _ z=>nomatch z;have notin:∀b,hp.get? b=none->b∉frs X.stack:=fun b hb hm=>by obtain⟨_,o',ho',_⟩:=I1.stack.mem hm;exact nomatch hb.symm.trans ho'
   have hx:s'.heap.get? ea=some { cls:=.ref C,dict:=dc,data:=.fields #[.ref t,.none,.none,.none,.bool false,.none] }:=(show ObjOk X.prog X.w H' s'.heap ea (exN ea C t dc)from I3.hok ea _ hd).1;have ut:upd H1 ea (exN ea C t none) t=none:=by rw[ad nt];exact ht0
   have tt':=un.keep t _ tt ut (notin t tn) (by intro z;cases z);refine⟨rfl,z6 (Z4 (wpAny_point (Za ⟨ea,_,rfl,I3.kIn,hx,rfl,⟨t,rfl⟩,?_⟩)))⟩;have hy:s'.heap.get? ea=some { cls:=.ref C,dict:=dc,data:=.fields #[.ref t,.none,.none,.none,.bool false,.none] }:=hx;have ne:∀b v,H' b=some v->v≠exN ea C t dc->b≠ea:=fun b v q hv z=>by rw[z,hd]at q;exact hv (ZE q).symm
   have ft:=un.free t _ tt ut (by intro z;cases z);have tr2:∀b v,H' b=some v->b≠t:=fun b v q z=>by rw[z,ft]at q;cases q
   have tfr:∀b v,H' b=some v->b∉frs X.stack:=fun b v q hm=>by have:=I3.stkFree b hm;rw[q]at this;cases this
   have oe:∀b o,hp.get? b=some o->b≠ea:=fun b o q z=>by rw[z]at q;exact nomatch mx.new.symm.trans q
   have ot:∀b o,hp.get? b=some o->b≠t:=fun b o q z=>by rw[z]at q;exact nomatch tn.symm.trans q
   have un1:Un (frs X.stack) [] H1 (del H' ea) hp s'.heap:=by
    refine⟨fun b o q n hb hx'=>un.keep b o (mx.keeps b o q) (by rw[ad (oe b o q)];exact n) hb hx',fun b o q n hb hx'=>un.slot b o (mx.keeps b o q) (by rw[ad (oe b o q)];exact n) hb hx',fun b o q n hx'=>?_,fun b o q hx'=>un.there b o (mx.keeps b o q) hx',fun b xs q=>?_,fun b o v q=>?_,fun b ps' q=>?_⟩
    ·rw[dZ (oe b o q)];exact un.free b o (mx.keeps b o q) (by rw[ad (oe b o q)];exact n) hx'
    ·have:=un.tups b xs (by rw[ad (al q hea0)];exact q);rw[dZ (ne _ _ this (by intro z;cases z))];exact this
    ·have:=un.frzs b o v (by rw[ad (al q hea0)];exact q);rw[dZ (ne _ _ this (by intro z;cases z))];exact this
    ·obtain⟨more,this⟩:=un.tbls b ps' (by rw[ad (al q hea0)];exact q);exact⟨more,by rw[dZ (ne _ _ this (by intro z;cases z))];exact this⟩
   have hok1:HOk X.prog X.w (del H' ea) s'.heap:=fun b v q=>by obtain⟨hb,q⟩:=ze q;exact(I3.hok b v q).stay (fun _ _ _ z=>z) (fun b' z=>by rw[dZ (ne _ _ z (by intro z;cases z))];exact z) fun b' xs z=>by rw[dZ (ne _ _ z (by intro z;cases z))];exact z
   have hid:∀b o,s'.heap.get? b=some o->b≠ea->b≠t->b∉frs X.stack->(hideAll s'.heap (ea::t::frs X.stack)).get? b=some o:=fun b o q h1 h2 h3 =>
    hideAll_get _ q fun hm=>by
     rcases Zs.mp hm with z|hm
     ·exact h1 z
     rcases Zs.mp hm with z|hm
     ·exact h2 z
     ·exact h3 hm
   have Fx:Fl X H1 (del H' ea) ⟨hp,g,d,tk,os⟩ s' (hideAll s'.heap (ea::t::frs X.stack)):=⟨os',bare,un1,hok1,fun b o hb ho q=>by
    rcases ho with⟨v,z⟩|⟨o0,z⟩
    ·obtain⟨hb',z⟩:=ze z;exact hid b o q hb' (tr2 _ _ z) hb
    ·exact hid b o q (oe b o0 z) (ot b o0 z) hb⟩
   exact hR ea s' ⟨pins,σ,H1,del H' ea,_,_,t,.ref C,us,dc,I1,Fx,.inl ⟨fun b o q=>of_hideAll _ q,hideAll_none _ Z9,
    funFrames_hide I3.stack fun env he b hb=>ZC _ (ZC _ (List.mem_filterMap.mpr ⟨env,he,hb⟩)),_,hy,rfl,rfl⟩,⟨_,_,tt',rfl,rfl⟩,hideAll_none _ (ZC _ Z9),⟨_,hy,rfl⟩,hE'⟩
end
open PySem PySem.Spec PyProof.Rows PySem.W
open PySem PySem.Spec PyProof.Rows PySem.W
def rc(qual:Str)(params:Arguments)(body:Expr)(scope:Scope)(cl:List (Str×Addr))(pm:Value)(c:Addr)(ct:Value):FuncData:=kla_fn "<lambda>" qual params body scope cl pm (.ref c) ct
def iy(qual:Str)(params:Arguments)(body:Expr)(scope:Scope)(cl:List (Str×Addr))(pm:Value)(c:Addr)(ct:Value):Obj:={ cls:=.type "function",data:=.func (rc qual params body scope cl pm c ct) }
def fc(a:Addr)(o:Obj):HO:=.ext fun h=>h.get? a=some o
def ju(c:Addr)(qual:Str):HO:=.ext fun h=>h.CodeRec (.ref c) qual
theorem oQ{P:Program}{w:World}{H:Hp}{h:Heap}{a:Addr}{o:Obj}(e:h.get? a=some o):ObjOk P w H h a (fc a o):=⟨e,⟨o,e⟩,fun _ _ x k=>k _ x⟩
theorem C6{P:Program}{w:World}{H:Hp}{h:Heap}{c:Addr}{q:Str}(e:h.CodeRec (.ref c) q):ObjOk P w H h c (ju c q):=by obtain⟨c',oc,vs,t,e1,e2,e3,e4⟩:=id e;cases e1;refine⟨e,⟨oc,e2⟩,fun h1 h2 x k=>?_⟩;obtain⟨c',oc,vs,t,e1,e2,e3,e4⟩:=id x;cases e1;exact⟨c,oc,vs,t,rfl,k _ e2,e3,e4⟩
def Blt(h:Heap)(mg:Str->Option Value):Prop:=∃bm ob,mg "__builtins__" = some (.ref bm)/\bm≠builtinsNs/\h.get? bm=some ob/\ob.cls=.type "module"/\ob.dict=some builtinsNs/\ob.data=.plain
section
variable{X:Cx}{pins:List (Addr×Obj)}{σ:St}{H:Hp}{s:Shared}
theorem Inv.bltAt(I:Inv X pins σ H s)(B:Blt X.base X.mg){P:Addr}{ps:Array Value}(hP:H P=some (.tbl ps)):s.heap.BuiltinsAt X.mg P:=by
 obtain⟨bm,ob,b1,b2,b3,b4,b5,b6⟩:=B;refine⟨bm,ob,b1,b2,fun z=>?_,fun z=>?_,I.bk _ _ b3,b4,b5,b6⟩
 ·obtain⟨o,es,ep,e,d,_⟩:=I.ok.mod.glob;rw[<-z,b3]at e;cases e;rw[d]at b6;cases b6
 ·have:=(I.bs _ _ b3).2;rw[z,hP]at this;cases this
theorem Inv.grown{h':Heap}{P c f:Addr}{ps more:Array Value}{oc of':HO}{t':Nat}(I:Inv X pins σ H s)(hP:H P=some (.tbl ps))(k:∀b o,b≠P->s.heap.get? b=some o->h'.get? b=some o)(hc:s.heap.objs.size<=c)(hf:s.heap.objs.size<=f)(hcf:c≠f)(eP:h'.get? P=some { cls:=.none,data:=.fields (ps++more) })(nc:∀H',ObjOk X.prog X.w H' h' c oc)(nf:∀H',ObjOk X.prog X.w H' h' f of') :
  H c=none/\H f=none/\Inv X pins σ (upd (upd (upd H P (.tbl (ps++more))) c oc) f of') { s with heap:=h',toks:=t' }:=by
 have c0:=I.hok.fresh hc;have f0:=I.hok.fresh hf;have nP:∀{b:Addr} {u:HO},H b=some u->(∀qs,u≠.tbl qs)->b≠P:=fun{b u} e n z=>by rw[z,hP]at e;cases e;exact n _ rfl
 have up:∀{b:Addr},b≠P->b≠c->b≠f->upd (upd (upd H P (.tbl (ps++more))) c oc) f of' b=H b:=fun{b} n1 n2 n3=>by rw[ad n3,ad n2,ad n1]
 have old:∀{b:Addr} {o:Obj},s.heap.get? b=some o->b≠c/\b≠f:=fun{b o} e=>⟨Zv (Zw (Zn e) hc),Zv (Zw (Zn e) hf)⟩
 have pcf:P≠c/\P≠f:=by have:=I.hok P _ hP;exact old (show s.heap.get? P=some _ from this)
 refine⟨c0,f0,I.un (t':=t') ⟨fun b o e n _ _=>k b o (fun z=>by rw[z,hP]at n;cases n) e,fun b o e n _ _=>⟨o.slots,k b o (fun z=>by rw[z,hP]at n;cases n) e⟩,fun b o e n _=>?_,fun b o e _=>?_,fun b xs e=>?_,fun b o u e=>?_,fun b qs e=>?_⟩ fun b u e=>?_⟩
 ·rw[up (fun z=>by rw[z,hP]at n;cases n) (old e).1 (old e).2];exact n
 ·by_cases z:b=P
  ·exact⟨_,z▸eP⟩
  ·exact⟨o,k b o z e⟩
 ·rw[up (nP e fun _ z=>nomatch z) (al e c0) (al e f0)];exact e
 ·rw[up (nP e fun _ z=>nomatch z) (al e c0) (al e f0)];exact e
 ·by_cases z:b=P
  ·subst z;rw[hP]at e;cases e;exact⟨more,by rw[ad pcf.2,ad pcf.1,af]⟩
  ·exact⟨#[],by rw[up z (al e c0) (al e f0),e];simp⟩
 ·by_cases zf:b=f
  ·subst zf;rw[af]at e;cases e;exact nf _
  ·rw[ad zf]at e;by_cases zc:b=c
   ·subst zc;rw[af]at e;cases e;exact nc _
   ·rw[ad zc]at e;by_cases zP:b=P
    ·subst zP;rw[af]at e;cases e;exact eP
    ·rw[ad zP]at e;refine(I.hok b u e).stay (fun b' v hb' q=>k b' v (fun z=>?_) q) (fun b' z=>by rw[up (nP z fun _ z=>nomatch z) (al z c0) (al z f0)];exact z) fun b' xs z=>by rw[up (nP z fun _ z=>nomatch z) (al z c0) (al z f0)];exact z
     rcases hb' with rfl|hb'
     ·exact zP z
     ·rw[z,hP]at hb';cases hb'
end
theorem EZ{CX:CXT}{P:Program}{w:World}{K:PySem.W.Frag}{mg:Str->Option Value}{base:Heap}{k:Nat}{f c':Addr}{qual:Str}{params:Arguments}{body:Expr}{scope:Scope}{pm ct:Value}{N ps:List Str}{sp:Sp}(S:FnScope N ps scope)(len:∀ vs H Q E,sp vs H Q E->vs.length=ps.length)(hbody:∀ (A:Around) (outer:List Env) (s:Shared) (H:Hp) (vs:List V) (Q:VK) (E:XK),Room k (A.deeper (envOfC qual scope s.heap.objs.size f (.ref c')))->sp vs H Q E ->
   ∃ t,PE (dO CX P w K mg base N qual scope f (.ref c') A outer s H E) body t/\t (start N vs) H Q) :
  FnOk P w K mg base CX (k+1) f (rc qual params body scope [] pm c' ct) ps (fun vs H Q E=>H f=some (fc f (iy qual params body scope [] pm c' ct))/\H c'=some (ju c' qual)/\sp vs H Q E):=by
 refine⟨fun vs H Q E h=>len _ _ _ _ h.2.2,fun A outer s H args us vs Q E hr e0 hb r ⟨hf,hc,hsp⟩=>?_⟩;have hl:=len _ _ _ _ hsp;have lim:s.heap.NoLimit:=e0.mod.nolimit.keeps fun b o e=>(e0.bs b o e).1;have hkind:∀y∈ps.zip us,scope.names.lookup y.1=some .local\/(scope.names.lookup y.1=some .cell/\((cellsFrom (s.heap.objs.size+1) scope.names []).lookup y.1).isSome=true):=fun⟨n,v⟩ hy=>by
  rcases S.par n (List.of_mem_zip hy).1 with q|q
  ·exact .inl q
  ·exact .inr ⟨q,PySem.W.cellsFrom_some _ _ _ (.inl q)⟩
 have of1:=(e0.hok f _ hf).1;have oc1:=(e0.hok c' _ hc).1;refine kla_callFunE hr.depth of1 rfl S.co S.gen rfl oc1 (hb _ _ _ _ ?_);refine wpAny_newFunctionEnv_cells S.kind hkind fun env he s1 x=>?_;subst he;refine⟨lim.keeps x.toInCall.keep,kla_codeExpr ?_⟩;obtain⟨t,ht,hq⟩:=hbody A outer s H vs Q E (hr.deeper _) hsp;have I:Inv (dO CX P w K mg base N qual scope f (.ref c') A outer s H E) [] (start N vs) H s1:=qt S hr.hd e0 hl r x;refine ZX (ht [] s1 (start N vs) H _ I hq) (fun u s' hz9=>?_) fun e s' hs=>hs;obtain⟨v,H',J,rv,q⟩:=hz9;exact⟨v,H',J.os,J.bare,J.base,J.hok,rv,q⟩
def aI(q:Str)(P:Addr)(pos:Pos)(H:Hp):Prop:=∃ps:Array Value,H P=some (.tbl ps)/\TriplesOk ps.toList/\(codeAmong pos ps.toList=none\/∃c',codeAmong pos ps.toList=some (.ref c')/\H c'=some (ju c' q))
def SameT(P:Addr)(H H':Hp):Prop:=∀b o,H b=some o->b≠P->H' b=some o
theorem SameT.of{P:Addr}{H H':Hp}(s:Same H H'):SameT P H H':=fun b o e _=>s b o e
theorem SameT.trans{P:Addr}{H H' H2:Hp}(s:SameT P H H')(t:SameT P H' H2):SameT P H H2:=fun b o e n=>t b o (s b o e n) n
theorem jU{x y:Int}{c:Value}{a b:Tok}:∀l:List Value,TriplesOk l->TriplesOk (l++[.int x a,.int y b,c])
 | [],_=>trivial
 |.int _ _::.int _ _::_::rest,h=>jU rest h
structure LamOk(P:Program)(w:World)(K:PySem.W.Frag)(mg:Str->Option Value)(base:Heap)(k:Nat)(qual:Str)(body:Expr)(scope:Scope)(x:Str)(sp:Sp):Prop where
 ex:∃N:List Str,FnScope N [x] scope/\(∀vs H Q E,sp vs H Q E->vs.length=1)/\∀(f c':Addr) (A:Around) (outer:List Env) (s:Shared) (H:Hp) (vs:List V) (Q:VK) (E:XK),Room k (A.deeper (envOfC qual scope s.heap.objs.size f (.ref c')))->sp vs H Q E ->
  ∃t,QE (dO CX0 P w K mg base N qual scope f (.ref c') A outer s H E) body t/\t (start N vs) H Q
open PySem PySem.Spec PyProof.Rows PySem.W
def CO(a:Addr)(tabs:List (Addr×Addr))(H:Hp):Prop:=∀b,H b=none\/(b=a/\∃o xs,H b=some (.frz o (.lst xs)))\/((∃c,(c,b)∈tabs)/\H b=some (.tbl #[]))
theorem Be{P:Program}{w:World}{K:PySem.W.Frag}{mg mb:Str->Option Value}{k:Nat}{fa a:Addr}{fd:FuncData}{x:Str}{sp:Sp}{s:Shared}{vs:List Value}{ns:List Int}{tabs:List (Addr×Addr)}(kx:K.In s.heap)(gx:s.heap.Ns mainGlobals mg)(bx:s.heap.Ns builtinsNs mb)(bb:∀y:Str,y≠"__name__"->mb y=bootBuiltins y)(nl:s.heap.NoLimit)(gn:s.gens=#[])(bl:Blt s.heap mg)(tx:∀q∈tabs,CodeHd s.heap q.1 q.2/\s.heap.get? q.2=some (tabObj #[]))(nt:noTabs K=true)(sa:s.heap.get? a=some { cls:=.type "list",data:=.seq vs.toArray })(si:IntsAre vs ns)(sl:ns.length<=sizeLine)(hr:Room k callerA)(F:∀base:Heap,K.In base->base.Ns mainGlobals mg->Blt base mg->(∀q∈tabs,CodeHd base q.1 q.2)->FnOk P w K mg base CX0 k fa fd [x] sp)(bind:∀(s:Shared) (u:Value),BindsTo s fd ⟨[u],[]⟩ [(x,u)])(go:∀H:Hp,(∀q∈tabs,H q.2=some (.tbl #[]))->SqL K H a (ns.map V.int)->sp [.ref a] H (fun v _=>v=.bl true) fun _ _ _=>False) :
  codeAny (model P w) callerA (.call (.ref fa) ⟨[.ref a],[]⟩) (fun r s'=>r=.ok (.ret (.bool true))/\OldK s.heap s'.heap/\s'.os=s.os/\AllBare s'.gens) s:=by
 have tabNot:∀{b:Addr} {c:Addr},(c,b)∈tabs->K.lookup b=none:=fun{b c} hm=>by
  cases e:K.lookup b with
  |none=>rfl
  |some o =>have e1:=(kx b o e).symm.trans (tx _ hm).2;cases e1;have:=y6.mp nt _ (mem_of_lookupK e);cases this
 have aNot:∀{c:Addr},¬(c,a)∈tabs:=fun{c} hm=>by have:=(tx _ hm).2;rw[sa]at this;cases this
 have main:∀H:Hp,CO a tabs H->(∀q∈tabs,H q.2=some (.tbl #[]))->SqL K H a (ns.map V.int)->HOk P w H s.heap->(H a≠none->K.lookup a=none) ->
   codeAny (model P w) callerA (.call (.ref fa) ⟨[.ref a],[]⟩) (fun r s'=>r=.ok (.ret (.bool true))/\OldK s.heap s'.heap/\s'.os=s.os/\AllBare s'.gens) s:=by
  intro H ae ht hS ok ha;have free:∀{b:Addr} {o:Obj},s.heap.get? b=some o->(∀n m,o.data≠.seq n m)->(∀n,o.data≠.fields n)->H b=none:=fun{b o} e n1 n2=>by
   rcases ae b with z|⟨rfl,_⟩|⟨⟨c,hm⟩,_⟩
   ·exact z
   ·rw[sa]at e;cases e;exact absurd rfl (n1 _ _)
   ·rw[(tx _ hm).2]at e;cases e;exact absurd rfl (n2 _)
  have nsB:∀{b:Addr} {m:Str->Option Value},s.heap.Ns b m->(hM s.heap H).Ns b m:=fun{b m} ⟨o,es,ep,e,d,r⟩=>⟨o,es,ep,iR e (free e (fun _ _ z=>by rw[d]at z;cases z) fun _ z=>by rw[d]at z;cases z),d,r⟩
  have kB:K.In (hM s.heap H):=fun b o e=>iR (kx b o e) (by
   rcases ae b with z|⟨rfl,o',xs,z⟩|⟨⟨c,hm⟩,_⟩
   ·exact z
   ·rw[ha (by rw[z];simp)]at e;cases e
   ·rw[tabNot hm]at e;cases e)
  have bB:Blt (hM s.heap H) mg:=by obtain⟨bm,ob,b1,b2,b3,b4,b5,b6⟩:=bl;exact⟨bm,ob,b1,b2,iR b3 (free b3 (fun _ _ z=>by rw[b6]at z;cases z) fun _ z=>by rw[b6]at z;cases z),b4,b5,b6⟩
  have cB:∀q∈tabs,CodeHd (hM s.heap H) q.1 q.2:=fun q hq=>by
   obtain⟨o,ws,file,tf,fl,tg,inF,text,tt,c1,c2,c3,c4⟩:=(tx q hq).1;refine⟨o,ws,file,tf,fl,tg,inF,text,tt,iR c1 ?_,c2,c3,c4⟩;rcases ae q.1 with z|⟨z,_⟩|⟨⟨c,hm⟩,_⟩
   ·exact z
   ·rw[z,sa]at c1;cases c1;injection c2 with c2;exact absurd c2 (by decide)
   ·rw[(tx _ hm).2]at c1;cases c1;cases c2
  have mB:Mod K mg (hM s.heap H):=⟨kB,nsB gx,⟨mb,nsB bx,bb⟩,let⟨mc,n1,n2⟩:=nl;⟨mc,nsB n1,n2⟩⟩
  have env:Env0 P w K mg (hM s.heap H) callerA [] s H:=⟨rfl,mB,fun b o e=>Dh e,Nat.le_of_eq (yJ _ _),trivial,fun b hb=>absurd (show b∈([]:List Addr)from hb) (by simp),ok,.of_eq gn⟩
  refine codeAny_mono ((F _ kB (nsB gx) bB cB).run callerA [] s H ⟨[.ref a],[]⟩ [.ref a] [.ref a] _ _ hr env (bind s (.ref a)) (.cons rfl .nil) (go H ht hS)) fun r s' h=>?_;cases r with
  |error e=>exact False.elim h
  |ok fl =>
   cases fl with
   |next=>exact False.elim h
   |brk=>exact False.elim h
   |cont=>exact False.elim h
   |ret u =>
    obtain⟨v,H',os,bare,un,ok',rv,hv⟩:=h;obtain rfl:v=.bl true:=hv;obtain rfl:u=Value.bool true:=rv;have each:∀b o,s.heap.get? b=some o->asItWas s.heap s'.heap b o/\∃o',s'.heap.get? b=some o':=fun b o e=>by
     rcases ae b with z|⟨rfl,o',xs,z⟩|⟨⟨c,hm⟩,z⟩
     ·have:=un.keep b o e z (by intro q;exact absurd (show b∈([]:List Addr)from q) (by simp)) (by simp);exact⟨.inl this,_,this⟩
     ·obtain⟨e1,_⟩:=ok b _ z;obtain⟨e2,_⟩:=ok' b _ (un.frzs b o' _ z);rw[e]at e1;cases e1;exact⟨.inl e2,_,e2⟩
     ·obtain⟨more,z2⟩:=un.tbls b _ z;have e2:s'.heap.get? b=some { cls:=.none,data:=.fields (#[]++more) }:=ok' b _ z2;have e1:=(tx _ hm).2;rw[e]at e1;cases e1;exact⟨.inr (.inl ⟨(((tx _ hm).1).tab e).isCodeTable,rfl,#[],more,rfl,e2⟩),_,e2⟩
    exact⟨rfl,⟨fun b o e=>(each b o e).1,fun b o e=>(each b o e).2⟩,os,bare⟩
 have rv:=qI si;have lv:=si.length;have inT:∀b,Decidable (∃c,(c,b)∈tabs):=fun b=>Classical.propDecidable _;cases hk:K.lookup a with
 |some o =>
  have e:=kx a o hk;rw[sa]at e;cases e;refine main (fun b=>@ite _ (∃c,(c,b)∈tabs) (inT b) (some (.tbl #[])) none) (fun b=>?_) (fun q hq=>Jv ⟨q.1,hq⟩) (.inr ⟨_,vs.toArray,_,hk,rfl,rfl,rfl,by rw[Zj,lv];exact sl,by simpa using rv⟩) (fun b u z=>?_) (fun z=>absurd (Ju fun⟨c,hm⟩=>aNot hm) z)
  ·by_cases c:∃c,(c,b)∈tabs
   ·exact .inr (.inr ⟨c,Jv c⟩)
   ·exact .inl (Ju c)
  ·by_cases c:∃c,(c,b)∈tabs
   ·have z':=(Jv c).symm.trans z;cases z';obtain⟨c,hm⟩:=c;exact(tx _ hm).2
   ·have z':=(Ju c).symm.trans z;cases z'
 |none =>
  refine main (fun b=>@ite _ (∃c,(c,b)∈tabs) (inT b) (some (.tbl #[])) (if b=a then some (.frz { cls:=.type "list",data:=.seq vs.toArray } (.lst (ns.map V.int)))else none)) (fun b=>?_) (fun q hq=>Jv ⟨q.1,hq⟩) (.inl (.inr ⟨{ cls:=.type "list",data:=.seq vs.toArray },(Ju fun⟨c,hm⟩=>aNot hm).trans (Jv rfl)⟩)) (fun b u z=>?_) (fun _=>hk)
  ·by_cases c:∃c,(c,b)∈tabs
   ·exact .inr (.inr ⟨c,Jv c⟩)
   ·by_cases hb:b=a
    ·exact .inr (.inl ⟨hb,_,_,(Ju c).trans (Jv hb)⟩)
    ·exact .inl ((Ju c).trans (Ju hb))
  ·by_cases c:∃c,(c,b)∈tabs
   ·have z':=(Jv c).symm.trans z;cases z';obtain⟨c,hm⟩:=c;exact(tx _ hm).2
   ·have z':=(Ju c).symm.trans z;by_cases hb:b=a
    ·rw[Jv hb]at z';cases z';subst hb;exact⟨sa,by rw[Zb];exact sl,vs,_,rv,sa⟩
    ·rw[Ju hb]at z';cases z'
theorem Fun.okC{P:Program}{w:World}{K:PySem.W.Frag}{mg:Str->Option Value}{base:Heap}{x qual:Str}{st:Stmt}{f c:Addr}{fd:FuncData}{N ps:List Str}{k:Nat}{sp:Sp}(F:Fun K x qual st f fd)(hc:fd.code=.ref c)(S:FnScope N ps (aq st))(len:∀ vs H Q E,sp vs H Q E->vs.length=ps.length)(body:∀ (A:Around) (outer:List Env) (s:Shared) (H:Hp) (vs:List V) (Q:VK) (E:XK),Room k (A.deeper (envOfC qual (aq st) s.heap.objs.size f (.ref c)))->sp vs H Q E ->
   ∃ t,QB (dO CX0 P w K mg base N qual (aq st) f (.ref c) A outer s H E).nox (bt st) t/\t { nx:=fun _ H'=>Q .non H',rt:=Q } (start N vs) H):FnOk P w K mg base CX0 (k+1) f fd ps sp:=by
 obtain⟨oc,od,kV,doc,pm,an,cdv,ct,osl,rfl,lk,hcd⟩:=F.ex;obtain rfl:cdv=.ref c:=hc;refine wI lk hcd S len fun A outer s H vs Q E hr hs=>?_;obtain⟨t,h,q⟩:=body A outer s H vs Q E hr hs;exact⟨t,h.h.nox,q⟩
theorem B3{K:PySem.W.Frag}{x:Str}{f c P:Addr}{oc:Value}{od:Option Addr}{fd:FuncData}{sl:Array (Option Value)}(a:nsIn K mainGlobals x=some (some (.ref f)))(l:K.lookup f=some ⟨oc,od,.func fd,sl⟩)(t:tabIn K x=some (c,P)):fd.code=.ref c:=by
 unfold tabIn at t;rw[a]at t;dsimp only at t;rw[l]at t;dsimp only at t;split at t
 ·rename_i c' e;rw[e];split at t
  ·split at t
   ·cases t;rfl
   ·cases t
  ·cases t
 ·cases t
theorem At{l:PySem.W.OpenLaw}{n k:Nat}{q:Program}{loose:List Str}{XP:(Str->Option Value)->Heap->Prop}{YP:World->Heap->Prop}{d:DefRec}{K:Params->PySem.W.Frag}{tabs:Params->List (Str×Addr×Addr)}{sp:World->Sp}{x:Str}(hn:l.most=some n)(hn2:n<=sizeLine)(hdf:d.params.defaults=[])(hr:Room k callerA)(hY:∀ (w:World) (h:Heap),YP w h->(K w.params).In h)(ht:∀ (w:World),∀ t∈tabs w.params,tabIn (K w.params) t.1=some t.2/\∃ d',(recsOf q).find? (fun e=>e.name == t.1)=some d')(nt:∀ w:World,noTabs (K w.params)=true)(F:∀ (w:World) (mg:Str->Option Value) (fa:Addr) (h:Heap),(K w.params).In h->h.Ns mainGlobals mg->mg d.name=some (.ref fa) ->
   ∃fd:FuncData,(∀(s:Shared) (u:Value),BindsTo s fd ⟨[u],[]⟩ [(x,u)]) /\
    ∀ base:Heap,(K w.params).In base->base.Ns mainGlobals mg->Blt base mg->(∀ t∈tabs w.params,CodeHd base t.2.1 t.2.2)->FnOk l.prog w (K w.params) mg base CX0 k fa fd [x] (sp w))(go:∀ (w:World) (H:Hp) (a:Addr) (ns:List Int),ns.length<=n->(∀ t∈tabs w.params,H t.2.2=some (.tbl #[]))->SqL (K w.params) H a (ns.map V.int)->sp w [.ref a] H (fun v _=>v=.bl true) fun _ _ _=>False) :
  PySem.W.WalkO q loose XP YP l.row.toRowW d [] (fun f vs=>PySem.call f vs):=by
 refine Att.attach_call hn hdf fun w s₀ s₁ mg mb fa o pm cd doc a vs ns G Y ho hd hcd hmg hobj hints hlen hg=>?_;have kx:=hY w _ Y;obtain⟨fd,hb,hF⟩:=F w mg fa _ kx G.T.g hmg;refine Be (tabs:=(tabs w.params).map (·.2)) kx G.T.g G.T.b G.T.builtins G.T.nolimit hg G.T.bmain (fun r hr'=>?_) (nt w) hobj hints (ZZ hlen hn2) hr (fun base h1 h2 h3 h4=>hF base h1 h2 h3 fun t htm=>h4 _ (List.mem_map_of_mem htm)) hb fun H h1 h2=>go w H a ns hlen (fun t htm=>h1 _ (List.mem_map_of_mem htm)) h2;obtain⟨t,htm,rfl⟩:=Zi.mp hr';obtain⟨e1,d',e2⟩:=ht w t htm;exact tab_of G.T kx e2 (by rw[e1])
open PySem PySem.Spec PyProof.Rows PySem.W
inductive SKey where
 |i (n:Int)|s (t:Str)|bi (b:Bool)(n:Int)
def SKey.at(H:Hp):SKey->V->Prop
 |.i n,v=>v=.int n
 |.s t,v=>v=.str t
 |.bi b n,v=>∃a,v=.ref a/\H a=some (.tup [.bl b,.int n])
section
variable{X:Cx}{pins:List (Addr×Obj)}{σ:St}{H:Hp}{s:Shared}{h':Heap}
def wm(X:Cx)(pins:List (Addr×Obj))(σ:St)(f:Addr)(sp:Sp):Prop:=∀(s:Shared) (H:Hp) (u:Value) (v:V) (Q:VK),Inv X pins σ H s->RelV v u->sp [v] H Q E0->codeAny (model X.prog X.w) X.A.in1.in1 (.call (.ref f) ⟨[u],[]⟩) (CR CX0 X.stack X.prog X.w H s Q E0) s
theorem vJ{k:Nat}{f:Addr}{fd:FuncData}{x:Str}{sp:Sp}(F:FnOk X.prog X.w X.K X.mg X.base CX0 k f fd [x] sp)(hb:∀(s:Shared) (u:Value),X.K.In s.heap->BindsTo s fd ⟨[u],[]⟩ [(x,u)])(hr:Room k X.A.in1.in1):∀l,wm (wX X l) pins σ f sp:=fun l s H u v Q I ru hs=>by
 have env:Env0 X.prog X.w X.K X.mg X.base X.A.in1.in1 X.stack s H:=by have e0:=I.env0;exact⟨e0.frames,e0.mod,e0.bs,e0.bsz,e0.funs,e0.frf,e0.hok,e0.bare⟩
 exact F.run X.A.in1.in1 X.stack s H ⟨[u],[]⟩ [u] [v] Q E0 hr env (hb s u I.kIn) (.cons ru .nil) hs
structure SG(X:Cx)(pins:List (Addr×Obj))(σ:St)(H1:Hp)(m:Str->Option Value)(kS D:Addr)(e1:Nat)(ks:List SKey)(as:List V)(us:List Value)(e:Nat)(H:Hp)(s:Shared):Prop where
 I:Inv X pins σ H s
 sm:Same H1 H
 fk:bv X pins H kS
 fd:bv X pins H D
 bk:X.base.get? kS=none
 bd:X.base.get? D=none
 hk:s.heap.get? kS=some (seqObj "list" (List.toArray us) e)
 hd:s.heap.get? D=some (seqObj "list" #[] e1)
 ns:s.heap.Ns X.env.locals m
 vals:Vals as us
 keys:∀(i:Nat) (a:V) (k:SKey),as[i]?=some a->ks[i]?=some k->k.at H a
theorem uf(b:Bool){xs:List V}{us:List Value}(h:Vals xs us):Vals (katRev b xs) (katRev b us):=by
 cases b with
 |false=>exact h
 |true =>
  show Vals xs.reverse us.reverse;induction h with
  |nil=>exact .nil
  |cons r _ ih =>rw[List.reverse_cons,List.reverse_cons];exact ih.append (.cons r .nil)
theorem vB(n m:Int):HT.lexLt [n] [m]=decide (n<m):=by
 rw[HT.lexLt_cons,HT.lexLt_nil_nil];by_cases z:n=m
 ·rw[Jv z,decide_eq_false (by omega)]
 ·rw[Ju z]
end
open PySem PySem.Spec PyProof.Rows PySem.W
structure LamScope(x y:Str)(sc:Scope):Prop where
 kind:sc.kind=.function
 co:sc.isCoroutine=false
 gen:sc.isGenerator=false
 lx:sc.names.lookup x=some .local
 ly:sc.names.lookup y=some .free
 nc:∀z∈sc.names,z.2≠.cell
 nf:∀z∈sc.names,z.2=.free->z.1=y
 ne:x≠y
def cxX(CX:CXT)(P:Program)(w:World)(K:PySem.W.Frag)(mg:Str->Option Value)(base:Heap)(N:List Str)(qual:Str)(scope:Scope)(f:Addr)(cd:Value)(cl:List (Str×Addr))(A:Around)(outer:List Env)(s:Shared)(H:Hp)(E:XK):Cx where
 prog:=P
 w:=w
 K:=K
 mg:=mg
 base:=base
 A:=A.deeper (envX qual scope s.heap.objs.size f cd cl)
 N:=N
 s₀:=s
 H₀:=H
 env:=envX qual scope s.heap.objs.size f cd cl
 outer:=outer
 stack:=envX qual scope s.heap.objs.size f cd cl::outer
 ex:=[]
 calm:=true
 fn:=fun _=>false
 pn:=[]
 xe:=fun e s'=>wpAny (model P w) (A.deeper (envX qual scope s.heap.objs.size f cd cl)) (leaving (envX qual scope s.heap.objs.size f cd cl) e) (fun _ s''=>CX outer H s E e s'') (fun e' s''=>CX outer H s E e' s'') s'
open PySem PySem.Spec PyProof.Rows PySem.W
section
variable{X:Cx}{c P:Addr}{params:Arguments}{body:Expr}{scope:Scope}{pos:Pos}{cl:List (Str×Addr)}
def xP(cl:List (Str×Addr))(X:Cx)(P:Addr)(params:Arguments)(body:Expr)(scope:Scope)(pos:Pos):TE:=fun _ H Q=>∃ps:Array Value,H P=some (.tbl ps)/\TriplesOk ps.toList /\
 ((∃ c',codeAmong pos ps.toList=some (.ref c')/\H c'=some (ju c' (X.env.qual++"<lambda>"))/\∀ f ct,H f=none->Q (.ref f) (upd H f (fc f (iy (X.env.qual++"<lambda>") params body scope cl ((X.mg "__name__").getD .none) c' ct)))) \/
  (codeAmong pos ps.toList=none/\∀ f c' ct,H f=none->H c'=none->c'≠f->Q (.ref f) (upd (upd (upd H P (.tbl (ps++#[rawInt pos.line,rawInt pos.col,.ref c']))) c' (ju c' (X.env.qual++"<lambda>"))) f (fc f (iy (X.env.qual++"<lambda>") params body scope cl ((X.mg "__name__").getD .none) c' ct)))))
theorem DB(hcode:X.env.code=.ref c)(hge:X.env.globals=mainGlobals)(C:CodeHd X.base c P)(B:Blt X.base X.mg)(hdef:defaultsOf params X.env=([],[]))(hcl:closureFor scope X.env=pure cl):PE X (.Lambda params body scope pos) (xP cl X P params body scope pos):=by
 intro pins s σ H Q I h;obtain⟨ps,hP,ht,hh⟩:=h;have oP:s.heap.get? P=some (tabObj ps):=I.hok P _ hP;have hg:s.heap.Ns mainGlobals X.mg:=I.ok.mod.glob.keeps I.bk;have hb:=I.bltAt B hP;refine kla_eval hdef ?_;rcases hh with⟨c',hf,hc',q⟩|⟨hnf,q⟩
 ·refine kla_makeFunctionHit hcl hge hg hcode (C.keeps I.bk) oP ht hf hb fun ct h' tk kp hsz=>?_;have hn:=I.hok.fresh hsz;exact⟨.ref _,_,I.laid (t':=tk) (fun b o e=>z9 _ (kp b o e)) hsz (oQ (Zk _ rfl)),rfl,q _ ct hn⟩
 ·have hgP:mainGlobals≠P:=fun z=>by obtain⟨o,es,ep,e,d,_⟩:=hg;rw[z,oP]at e;cases e;cases d
  refine kla_makeFunction hcl hge hg hcode (C.keeps I.bk) oP ht hnf hgP hb fun c' ct h' tk hx hge' hlt hrec htb=>?_;have hnF:c'≠h'.objs.size:=Zv hlt;obtain⟨i1,i2,i3⟩:=I.grown (t':=tk) (c:=c') (f:=h'.objs.size) (h':=h'.push (iy (X.env.qual++"<lambda>") params body scope cl ((X.mg "__name__").getD .none) c' ct)) (oc:=ju c' (X.env.qual++"<lambda>")) (of':=fc h'.objs.size (iy (X.env.qual++"<lambda>") params body scope cl ((X.mg "__name__").getD .none) c' ct)) hP
   (fun b o hb' e=>z9 _ (hx b o hb' e)) hge' (ZZ hge' (Nat.le_of_lt hlt)) hnF (z9 _ htb) (fun _=>C6 (by
    obtain⟨c₂,oc,vs,t,e1,e2,e3,e4⟩:=hrec;exact⟨c₂,oc,vs,t,e1,z9 _ e2,e3,e4⟩)) (fun _=>oQ (Zk _ rfl))
  exact⟨.ref _,_,i3,rfl,q _ c' ct i2 i1 hnF⟩
structure LamOkX(P:Program)(w:World)(K:PySem.W.Frag)(mg:Str->Option Value)(base:Heap)(k:Nat)(qual:Str)(body:Expr)(scope:Scope)(x y:Str)(sp:V->Sp):Prop where
 sc:LamScope x y scope
 ex:∀(f c' c:Addr) (kv:V) (A:Around) (outer:List Env) (s:Shared) (H:Hp) (v:V) (Q:VK),Room k (A.deeper (envX qual scope s.heap.objs.size f (.ref c') [(y,c)]))->sp kv [v] H Q E0 ->
  ∃t,QE (cxX CX0 P w K mg base [x,y] qual scope f (.ref c') [(y,c)] A outer s H E0) body t/\t [some v,some kv] H Q
def uN(X:Cx)(P:Addr)(q:Str)(lpos:Pos)(params:Arguments)(body:Expr)(scope:Scope)(cl:List (Str×Addr))(H1:Hp)(f:Addr)(H2:Hp):Prop :=
 ∃(c':Addr) (ct:Value),SameT P H1 H2/\aI q P lpos H2/\H2 f=some (fc f (iy q params body scope cl ((X.mg "__name__").getD .none) c' ct))/\H2 c'=some (ju c' q)/\f≠P/\c'≠P
theorem Bd{H1:Hp}{lpos:Pos}{σ:St}{R:VK}(tab:aI (X.env.qual++"<lambda>") P lpos H1)(h:∀f H2,uN X P (X.env.qual++"<lambda>") lpos params body scope cl H1 f H2->R (.ref f) H2):xP cl X P params body scope lpos σ H1 R:=by
 obtain⟨ps,tP,t3,tc⟩:=tab;refine⟨ps,tP,t3,?_⟩;rcases tc with hno|⟨c',hy,hc'⟩
 ·refine .inr ⟨hno,fun f c' ct f0 c0 hcf=>h _ _ ?_⟩;have nPf:f≠P:=fun z=>by rw[z,tP]at f0;cases f0
  have nPc:c'≠P:=fun z=>by rw[z,tP]at c0;cases c0
  refine⟨c',ct,fun b o e hb=>?_,⟨_,by rw[ad (Yx nPf),ad (Yx nPc),af],?_,.inr ⟨c',?_,by rw[ad hcf,af]⟩⟩,af,by rw[ad hcf,af],nPf,nPc⟩
  ·rw[ad (al e f0),ad (al e c0),ad hb];exact e
  ·rw[ZM];exact jU _ t3
  ·rw[ZM];exact codeAmong_snoc _ t3 hno
 ·refine .inl ⟨c',hy,hc',fun f ct f0=>h _ _ ?_⟩;have nPf:f≠P:=fun z=>by rw[z,tP]at f0;cases f0
  have nPc:c'≠P:=fun z=>by rw[z,tP]at hc';cases hc'
  exact⟨c',ct,fun b o e hb=>by rw[ad (al e f0)];exact e,⟨ps,by rw[ad (Yx nPf)];exact tP,t3,.inr ⟨c',hy,by rw[ad (al hc' f0)];exact hc'⟩⟩,af,by rw[ad (al hc' f0)];exact hc',nPf,nPc⟩
end
open PySem PySem.Spec PyProof.Rows PySem.W
open PySem PyProof.Rows PySem.W
def fq:Bool->Keyed->Array Keyed->Nat->Nat->Nat->StateT SortSt Sem (Option Nat):=sortPriv%PySem.Builtin.gallop
def zLo:Array Keyed->Array Keyed->StateT SortSt Sem (Array Keyed):=sortPriv%PySem.Builtin.mergeLo
def zHi:Array Keyed->Array Keyed->StateT SortSt Sem (Array Keyed):=sortPriv%PySem.Builtin.mergeHi
def jX:Nat->StateT SortSt Sem Unit:=sortPriv%PySem.Builtin.setMinGallop
def jW(le:Bool)(ky:Keyed)(ar:Array Keyed)(ba i:Nat):StateT SortSt Sem (Option Bool):=do
 let it ←elem' ar (ba+i)
 if le then lt' it ky else do
  let o ←lt' ky it
  pure (o.map (!·))
theorem Ek(le:Bool)(ky:Keyed)(ar:Array Keyed)(ba n at0:Nat):fq le ky ar ba n at0=(do
 let mut las:=0;let mut ofs:=1;let mut lo:=0;let mut hi:=0
 let some rig ←jW le ky ar ba at0|return none
 if rig then
  for _ in[0:n]do
   if ofs>=n-at0 then break
   let some mo ←jW le ky ar ba (at0+ofs)|return none
   if !mo then break
   las:=ofs;ofs:=2*ofs+1
  lo:=at0+las+1;hi:=at0+min ofs (n-at0)
 else
  for _ in[0:n]do
   if ofs>=at0+1 then break
   let some fo ←jW le ky ar ba (at0-ofs)|return none
   if fo then break
   las:=ofs;ofs:=2*ofs+1
  lo:=at0+1-min ofs (at0+1);hi:=at0-las
 for _ in[0:n]do
  if lo>=hi then break
  let some mo ←jW le ky ar ba (lo+(hi-lo) / 2)|return none
  if mo then lo:=lo+(hi-lo) / 2+1 else hi:=lo+(hi-lo) / 2
 return some hi):=rfl
theorem GD(a b:Array Keyed):zLo a b=(do
 liftM (rule "list.sort.merge-lo");let e0 ←elem' b 0;let mut out:Array Keyed:=#[e0];let mut ia:=0;let mut ib:=1
 if ib==b.size then return out++a.extract ia a.size++b.extract ib b.size
 if ia+1==a.size then return out++b.extract ib b.size++a.extract ia a.size
 let mut mg:=gallopOf (←get)
 for _ in[0:a.size+b.size]do
  let mut ac:=0;let mut bc:=0
  for _ in[0:a.size+b.size]do
   let y ←elem' b ib;let x ←elem' a ia
   let some won ←lt' y x|return out++a.extract ia a.size++b.extract ib b.size
   if won then
    let y ←elem' b ib;out:=out.push y;ib:=ib+1;bc:=bc+1;ac:=0
    if ib==b.size then return out++a.extract ia a.size++b.extract ib b.size
    if bc>=mg then break
   else
    let x ←elem' a ia;out:=out.push x;ia:=ia+1;ac:=ac+1;bc:=0
    if ia+1==a.size then return out++b.extract ib b.size++a.extract ia a.size
    if ac>=mg then break
  liftM (rule "list.sort.gallop");mg:=mg+1
  for _ in[0:a.size+b.size]do
   if mg>1 then mg:=mg-1
   jX mg;let y ←elem' b ib
   let some k ←fq false y a ia (a.size-ia) 0|return out++a.extract ia a.size++b.extract ib b.size
   ac:=k
   if k>0 then
    out:=out++a.extract ia (ia+k);ia:=ia+k
    if ia+1==a.size then return out++b.extract ib b.size++a.extract ia a.size
    if ia==a.size then return out++a.extract ia a.size++b.extract ib b.size
   let y ←elem' b ib;out:=out.push y;ib:=ib+1
   if ib==b.size then return out++a.extract ia a.size++b.extract ib b.size
   let x ←elem' a ia
   let some k ←fq true x b ib (b.size-ib) 0|return out++a.extract ia a.size++b.extract ib b.size
   bc:=k
   if k>0 then
    out:=out++b.extract ib (ib+k);ib:=ib+k
    if ib==b.size then return out++a.extract ia a.size++b.extract ib b.size
   let x ←elem' a ia;out:=out.push x;ia:=ia+1
   if ia+1==a.size then return out++b.extract ib b.size++a.extract ia a.size
   if ac<7&&bc<7 then break
  mg:=mg+1;jX mg
 unsupported "internal:list.sort.merge-bound"):=rfl
theorem GC(a b:Array Keyed):zHi a b=(do
 liftM (rule "list.sort.merge-hi");let mut na:=a.size-1;let mut nb:=b.size;let e0 ←elem' a na;let mut out:Array Keyed:=#[e0]
 if na==0 then return a.extract 0 na++b.extract 0 nb++out.reverse
 if nb==1 then return b.extract 0 nb++a.extract 0 na++out.reverse
 let mut mg:=gallopOf (←get)
 for _ in[0:a.size+b.size]do
  let mut ac:=0;let mut bc:=0
  for _ in[0:a.size+b.size]do
   let y ←elem' b (nb-1);let x ←elem' a (na-1)
   let some won ←lt' y x|return a.extract 0 na++b.extract 0 nb++out.reverse
   if won then
    na:=na-1;let x ←elem' a na;out:=out.push x;ac:=ac+1;bc:=0
    if na==0 then return a.extract 0 na++b.extract 0 nb++out.reverse
    if ac>=mg then break
   else
    nb:=nb-1;let y ←elem' b nb;out:=out.push y;bc:=bc+1;ac:=0
    if nb==1 then return b.extract 0 nb++a.extract 0 na++out.reverse
    if bc>=mg then break
  liftM (rule "list.sort.gallop");mg:=mg+1
  for _ in[0:a.size+b.size]do
   if mg>1 then mg:=mg-1
   jX mg;let y ←elem' b (nb-1)
   let some k ←fq false y a 0 na (na-1)|return a.extract 0 na++b.extract 0 nb++out.reverse
   ac:=na-k
   if na-k>0 then
    out:=out++(a.extract k na).reverse;na:=k
    if na==0 then return a.extract 0 na++b.extract 0 nb++out.reverse
   nb:=nb-1;let y ←elem' b nb;out:=out.push y
   if nb==1 then return b.extract 0 nb++a.extract 0 na++out.reverse
   let x ←elem' a (na-1)
   let some k ←fq true x b 0 nb (nb-1)|return a.extract 0 na++b.extract 0 nb++out.reverse
   bc:=nb-k
   if nb-k>0 then
    out:=out++(b.extract k nb).reverse;nb:=k
    if nb==1 then return b.extract 0 nb++a.extract 0 na++out.reverse
    if nb==0 then return a.extract 0 na++b.extract 0 nb++out.reverse
   na:=na-1;let x ←elem' a na;out:=out.push x
   if na==0 then return a.extract 0 na++b.extract 0 nb++out.reverse
   if ac<7&&bc<7 then break
  mg:=mg+1;jX mg
 unsupported "internal:list.sort.merge-bound"):=rfl
def mm(ar:Array Keyed)(at0:Nat)(xs:Array Keyed):Array Keyed:=xs.toList.zipIdx.foldl (fun a (p,j)=>a.setIfInBounds (at0+j) p) ar
theorem GB(i:Nat):mergeAt' i=(do
 let st ←get
 let(some (sa,na,pw),some (sb,nb,_)):=((pendingOf st)[i]?,(pendingOf st)[i+1]?)|unsupported "internal:list.sort.pending"
 set (setPending st (((pendingOf st).setIfInBounds i (sa,na+nb,pw)).eraseIdxIfInBounds (i+1)))
 let y ←elem' (arrOf st) sb
 let some k ←fq false y (arrOf st) sa na 0|return false
 if na-k==0 then return true
 let x ←elem' (arrOf st) (sa+k+(na-k)-1)
 let some nc ←fq true x (arrOf st) sb nb (nb-1)|return false
 if nc==0 then return true
 let mer ←if na-k<=nc then zLo ((arrOf st).extract (sa+k) sb) ((arrOf st).extract sb (sb+nc))else zHi ((arrOf st).extract (sa+k) sb) ((arrOf st).extract sb (sb+nc))
 modify fun st=>setArr st (mm (arrOf st) (sa+k) mer)
 return (failedOf (←get)).isNone):=rfl
open PySem PyProof.Rows PySem.W
section
variable{prog:Program}{w:World}{A:Around}{E:Value->Shared->Prop}{s:Shared}{κ:SortKind}{it:Array Keyed}{lt:Nat->Nat->Bool}{N:Nat}{st:SortSt}
def Zc(prog:Program)(w:World)(A:Around)(s:Shared)(κ:SortKind)(it:Array Keyed)(lt:Nat->Nat->Bool)(N:Nat):Prop :=
 ∀i j (C:Bool->Shared->Prop),i<N->j<N->C (lt i j) s->kas_cmp prog w A κ it i j C s
theorem ul(Z:Zc prog w A s κ it lt N){i j:Nat}{Q:Option Bool->SortSt->Prop}(hk:kindOf st=κ)(hi:i<N)(hj:j<N)(h:Q (some (lt i j)) st):wpS (model prog w) A E s (lt' (kas_item it i) (kas_item it j)) Q st:=by rw[lt'_eq];refine Zl (wpS_get ?_);rw[hk];refine Zl (wpS_lift (wpAny_attempt (ZX (Z i j (fun c s'=>c=lt i j/\s'=s) hi hj ⟨rfl,rfl⟩) (fun c s' hc=>?_) fun _ _ hF=>hF.elim)));obtain⟨rfl,rfl⟩:=hc;exact⟨rfl,Zq h⟩
theorem GE{q:Array Nat}{i:Nat}(hi:i<q.size):elem' (q.map (kas_item it)) i=pure (kas_item it (gA q i)):=by
 rw[elem'_eq];have e:(q.map (kas_item it))[i]?=some (kas_item it (gA q i)):=by
  rw[Array.getElem?_map];have e1:gA q i=q[i]:=by unfold gA;simp[Array.getD,hi]
  rw[e1];simp[hi]
 rw[e]
def zB(lt:Nat->Nat->Bool)(le:Bool)(k x:Nat):Bool:=if le=true then lt x k else !lt k x
theorem Hy(Z:Zc prog w A s κ it lt N){le:Bool}{k ba i:Nat}{q:Array Nat}{Q:Option Bool->SortSt->Prop}(hk:kindOf st=κ)(hK:k<N)(hi:ba+i<q.size)(hq:gA q (ba+i)<N)(h:Q (some (zB lt le k (gA q (ba+i)))) st) :
  wpS (model prog w) A E s (jW le (kas_item it k) (q.map (kas_item it)) ba i) Q st:=by
 unfold jW;rw[GE hi];refine Zl (Zq ?_);cases le with
 |true =>simp only[if_true];exact ul Z hk hq hK h
 |false =>simp only[Yz,YY];exact Zl (ul Z hk hK hq (Zq h))
theorem GF{le:Bool}{ky:Keyed}{ar:Array Keyed}{ba n at0:Nat}{B:Nat->Bool}{Q:Option Nat->SortSt->Prop}(hb:∀i (Q:Option Bool->SortSt->Prop),i<n->Q (some (B i)) st->wpS (model prog w) A E s (jW le ky ar ba i) Q st)(h0:at0<n)(mono:∀i j,i<=j->j<n->B j=true->B i=true)(h:∀m,m<=n->(∀i,i<m->B i=true)->(∀i,m<=i->i<n->B i=false)->Q (some m) st):wpS (model prog w) A E s (fq le ky ar ba n at0) Q st:=by
 have fin:∀ lo hi,lo<=hi->hi<=n->(∀ i,i<lo->B i=true)->(∀ i,hi<=i->i<n->B i=false)->wpS (model prog w) A E s (do
   let mut lo:=lo;let mut hi:=hi
   for _ in[0:n]do
    if lo>=hi then break
    let some mo ←jW le ky ar ba (lo+(hi-lo) / 2)|return none
    if mo then lo:=lo+(hi-lo) / 2+1 else hi:=lo+(hi-lo) / 2
   return some hi) Q st:=fun lo hi h1 h2 h3 h4=>by
  refine Zl (Yt (Yh (I:=fun x c st'=>st'=st/\∃ lo hi,c=(none,lo,hi)/\lo<=hi/\hi<=n/\hi - lo<=n - x/\(∀ i,i<lo->B i=true)/\(∀ i,hi<=i->i<n->B i=false))
   (Q:=fun c st'=>st'=st/\∃ hi,c=(none,hi,hi)/\hi<=n/\(∀ i,i<hi->B i=true)/\(∀ i,hi<=i->i<n->B i=false)) ?step ?fin ⟨rfl,lo,hi,rfl,h1,h2,by omega,h3,h4⟩) ?post)
  case fin =>
   rintro c st' ⟨rfl,lo,hi,rfl,g1,g2,g3,g4,g5⟩;have e:lo=hi:=by omega
   subst e;exact⟨rfl,lo,rfl,g2,g4,g5⟩
  case post =>rintro c st' ⟨rfl,hi,rfl,g2,g4,g5⟩;exact Zq (h hi g2 g4 g5)
  case step =>
   rintro x c st' _ hx ⟨rfl,lo,hi,rfl,g1,g2,g3,g4,g5⟩;dsimp only;by_cases hge:lo>=hi
   ·rw[Jv hge];have e:lo=hi:=by omega
    subst e;exact Zq ⟨rfl,lo,rfl,g2,g4,g5⟩
   ·rw[Ju hge];refine Zl (hb _ _ (by omega) ?_);dsimp only;cases e:B (lo+(hi-lo) / 2)with
    |true =>rw[Jv rfl];exact Zq ⟨rfl,_,_,rfl,by omega,g2,by omega,fun i hi'=>mono i (lo+(hi-lo) / 2) (by omega) (by omega) e,g5⟩
    |false =>
     rw[Ju (by simp)];refine Zq ⟨rfl,_,_,rfl,by omega,by omega,by omega,g4,fun i hi1 hi2=>?_⟩;cases e':B i with
     |false=>rfl
     |true=>rw[mono _ i hi1 hi2 e']at e;cases e
 rw[Ek];refine Zl (hb at0 _ h0 ?_);dsimp only;cases e:B at0 with
 |true =>
  simp only[if_true];refine Zl (Yt (Yh (I:=fun x c st'=>st'=st/\∃ las ofs,c=(none,las,ofs)/\las<ofs/\x+1<=ofs/\las<n - at0/\B (at0+las)=true)
   (Q:=fun c st'=>st'=st/\∃ las ofs,c=(none,las,ofs)/\las<ofs/\las<n - at0/\B (at0+las)=true/\(ofs>=n - at0\/B (at0+ofs)=false)) ?step ?fin ⟨rfl,0,1,rfl,by omega,by omega,by omega,e⟩) ?post)
  case fin =>rintro c st' ⟨rfl,las,ofs,rfl,g1,g2,g3,g4⟩;exact⟨rfl,las,ofs,rfl,g1,g3,g4,.inl (by omega)⟩
  case post =>
   rintro c st' ⟨rfl,las,ofs,rfl,g1,g2,g3,g4⟩;refine fin (at0+las+1) (at0+min ofs (n-at0)) (by omega) (by omega) (fun i hi'=>mono i (at0+las) (by omega) (by omega) g3) fun i hi1 hi2=>?_;rcases g4 with g4|g4
   ·omega
   ·cases e':B i with
    |false=>rfl
    |true=>rw[mono _ i (by omega) hi2 e']at g4;cases g4
  case step =>
   rintro x c st' _ hx ⟨rfl,las,ofs,rfl,g1,g2,g3,g4⟩;dsimp only;by_cases hge:ofs>=n-at0
   ·rw[Jv hge];exact Zq ⟨rfl,las,ofs,rfl,g1,g3,g4,.inl hge⟩
   ·rw[Ju hge];refine Zl (hb _ _ (by omega) ?_);dsimp only;cases e:B (at0+ofs)with
    |true =>rw[Ju (by simp)];exact Zq ⟨rfl,ofs,_,rfl,by omega,by omega,by omega,e⟩
    |false =>rw[Jv (by simp)];exact Zq ⟨rfl,las,ofs,rfl,g1,g3,g4,.inr e⟩
 |false =>
  simp only[Yz,YY];refine Zl (Yt (Yh (I:=fun x c st'=>st'=st/\∃ las ofs,c=(none,las,ofs)/\las<ofs/\x+1<=ofs/\las<=at0/\B (at0 - las)=false)
   (Q:=fun c st'=>st'=st/\∃ las ofs,c=(none,las,ofs)/\las<ofs/\las<=at0/\B (at0 - las)=false/\(ofs>=at0+1\/B (at0 - ofs)=true)) ?step ?fin ⟨rfl,0,1,rfl,by omega,by omega,by omega,e⟩) ?post)
  case fin =>rintro c st' ⟨rfl,las,ofs,rfl,g1,g2,g3,g4⟩;exact⟨rfl,las,ofs,rfl,g1,g3,g4,.inl (by omega)⟩
  case post =>
   rintro c st' ⟨rfl,las,ofs,rfl,g1,g2,g3,g4⟩;refine fin (at0+1-min ofs (at0+1)) (at0-las) (by omega) (by omega) (fun i hi'=>?_) fun i hi1 hi2=>?_
   ·rcases g4 with g4|g4
    ·omega
    ·exact mono i (at0-ofs) (by omega) (by omega) g4
   ·cases e':B i with
    |false=>rfl
    |true=>rw[mono _ i hi1 hi2 e']at g3;cases g3
  case step =>
   rintro x c st' _ hx ⟨rfl,las,ofs,rfl,g1,g2,g3,g4⟩;dsimp only;by_cases hge:ofs>=at0+1
   ·rw[Jv hge];exact Zq ⟨rfl,las,ofs,rfl,g1,g3,g4,.inl hge⟩
   ·rw[Ju hge];refine Zl (hb _ _ (by omega) ?_);dsimp only;cases e:B (at0-ofs)with
    |true =>rw[Jv rfl];exact Zq ⟨rfl,las,ofs,rfl,g1,g3,g4,.inr e⟩
    |false =>rw[Ju (by simp)];exact Zq ⟨rfl,ofs,_,rfl,by omega,by omega,by omega,e⟩
theorem kP(Z:Zc prog w A s κ it lt N){le:Bool}{k ba n at0:Nat}{q:Array Nat}{Q:Option Nat->SortSt->Prop}(hk:kindOf st=κ)(hK:k<N)(hz:ba+n<=q.size)(hq:∀i,ba<=i->i<ba+n->gA q i<N)(h0:at0<n)(mono:∀i j,i<=j->j<n->zB lt le k (gA q (ba+j))=true->zB lt le k (gA q (ba+i))=true)(h:∀m,m<=n->(∀i,i<m->zB lt le k (gA q (ba+i))=true)->(∀i,m<=i->i<n->zB lt le k (gA q (ba+i))=false)->Q (some m) st):wpS (model prog w) A E s (fq le (kas_item it k) (q.map (kas_item it)) ba n at0) Q st :=
 GF (B:=fun i=>zB lt le k (gA q (ba+i))) (fun i _ hi hQ=>Hy Z hk hK (by omega) (hq _ (by omega) (by omega)) hQ) h0 mono h
end
open PySem PyProof.Rows PySem.W
section
variable{lt:Nat->Nat->Bool}
theorem aJ(p:Array Nat)(k:Nat):gA p k=p.toList.getD k 0:=by unfold gA;rw[ZU,Zf,Xj]
theorem kr{l:List Nat}{i x:Nat}(h:x∈l.drop i):∃j,i<=j/\j<l.length/\l.getD j 0=x:=by obtain⟨n,hn,e⟩:=ZG.mp h;rw[Ya]at hn;refine⟨i+n,by omega,by omega,?_⟩;rw[List.getElem_drop]at e;rw[Zf,Zd (by omega)];exact e
theorem ku{l:List Nat}{i x:Nat}(h:x∈l.take i):∃j,j<i/\j<l.length/\l.getD j 0=x:=by obtain⟨n,hn,e⟩:=ZG.mp h;rw[ZF]at hn;refine⟨n,by omega,by omega,?_⟩;rw[x6]at e;rw[Zf,Zd (by omega)];exact e
theorem yW{l:List Nat}{i k x:Nat}(h:x∈(l.drop i).take k):∃j,i<=j/\j<i+k/\j<l.length/\l.getD j 0=x:=by obtain⟨j,h1,h2,e⟩:=ku h;rw[Ya]at h2;refine⟨i+j,by omega,by omega,by omega,?_⟩;rw[<-e,Zf,Zf,List.getElem?_drop]
def Mg(lt:Nat->Nat->Bool)(T o A B:List Nat):Prop:=∀r:List Nat,r.Perm (A++B)->r.Pairwise (Lx lt)->(o++r).Pairwise (Lx lt)/\(o++r).Perm T
def Mh(lt:Nat->Nat->Bool)(T o A B:List Nat):Prop:=∀r:List Nat,r.Perm (A++B)->r.Pairwise (Lx lt)->(r++o).Pairwise (Lx lt)/\(r++o).Perm T
theorem Mg.step{T o A B c A' B':List Nat}(h:Mg lt T o A B)(hp:(c++(A'++B')).Perm (A++B))(hc:c.Pairwise (Lx lt))(hx:∀x∈c,∀y∈A'++B',Lx lt x y):Mg lt T (o++c) A' B':=fun r hr hs=>by rw[ZI];exact h (c++r) ((hr.append_left c).trans hp) (ZN.mpr ⟨hc,hs,fun x hx' y hy=>hx x hx' y (hr.mem_iff.mp hy)⟩)
theorem Mh.step{T o A B c A' B':List Nat}(h:Mh lt T o A B)(hp:((A'++B')++c).Perm (A++B))(hc:c.Pairwise (Lx lt))(hx:∀y∈A'++B',∀x∈c,Lx lt y x):Mh lt T (c++o) A' B':=fun r hr hs=>by rw[<-ZI];exact h (r++c) ((hr.append_right c).trans hp) (ZN.mpr ⟨hs,hc,fun y hy x hx'=>hx y (hr.mem_iff.mp hy) x hx'⟩)
structure MF(lt:Nat->Nat->Bool)(N:Nat)(a b:Array Nat):Prop where
 sa:∀i j,i<j->j<a.size->Lx lt (gA a i) (gA a j)
 sb:∀i j,i<j->j<b.size->Lx lt (gA b i) (gA b j)
 cr:∀i j,i<a.size->j<b.size->lt (gA b j) (gA a i)=false->Lx lt (gA a i) (gA b j)
 na:∀i,i<a.size->gA a i<N
 nb:∀i,i<b.size->gA b i<N
 a0:0<a.size
 b0:0<b.size
 fst:lt (gA b 0) (gA a 0)=true
 lst:∀j,j<b.size->lt (gA b j) (gA a (a.size-1))=true
theorem dI{p:Array Nat}(h:∀i j,i<j->j<p.size->Lx lt (gA p i) (gA p j)):p.toList.Pairwise (Lx lt):=by rw[Zu];intro i j hi hj hij;have:=h i j hij (by simpa using hj);rw[aJ,aJ,Zf,Zf,Zd hi,Zd hj]at this;exact this
theorem xl{p:Array Nat}(h:p.toList.Pairwise (Lx lt)):∀i j,i<j->j<p.size->Lx lt (gA p i) (gA p j):=fun i j hij hj=>by
 rw[Zu]at h;have hj':j<p.toList.length:=by simpa using hj
 have:=h i j (by omega) hj' hij;rw[aJ,aJ,Zf,Zf,Zd (show i<p.toList.length by omega),Zd hj'];exact this
variable{N:Nat}{a b:Array Nat}{f:Nat->Keyed}
theorem MF.leA(h:MF lt N a b)(O:LtOk lt){i j:Nat}(hij:i<=j)(hj:j<a.size){x:Nat}(hx:lt x (gA a i)=true):lt x (gA a j)=true:=by
 rcases Z6 i j with h1|h1
 ·exact O.lt_le hx (h.sa i j h1 hj).1
 ·have e:i=j:=by omega
  rw[<-e];exact hx
theorem MF.leB(h:MF lt N a b)(O:LtOk lt){i j:Nat}(hij:i<=j)(hj:j<b.size){x:Nat}(hx:lt (gA b j) x=true):lt (gA b i) x=true:=by
 rcases Z6 i j with h1|h1
 ·exact O.le_lt (h.sb i j h1 hj).1 hx
 ·have e:i=j:=by omega
  rw[e];exact hx
def Gd(lt:Nat->Nat->Bool)(f:Nat->Keyed)(a b:Array Nat)(r:Array Keyed):Prop:=∃q:Array Nat,r=q.map f/\q.toList.Pairwise (Lx lt)/\q.toList.Perm (a.toList++b.toList)
def LoM(lt:Nat->Nat->Bool)(f:Nat->Keyed)(a b:Array Nat)(out:Array Keyed)(ia ib:Nat):Prop:=∃o:Array Nat,out=o.map f/\Mg lt (a.toList++b.toList) o.toList (a.toList.drop ia) (b.toList.drop ib)
def HiM(lt:Nat->Nat->Bool)(f:Nat->Keyed)(a b:Array Nat)(out:Array Keyed)(na nb:Nat):Prop:=∃o:Array Nat,out=o.map f/\Mh lt (a.toList++b.toList) o.toList.reverse (a.toList.take na) (b.toList.take nb)
theorem bN(p:Array Nat)(i j:Nat):(p.map f).extract i j=(p.extract i j).map f:=by apply Array.toList_inj.mp;simp
theorem iL(p:Array Nat)(i k:Nat):(p.extract i (i+k)).toList=(p.toList.drop i).take k:=by rw[Array.toList_extract,List.extract_eq_take_drop,Yc]
theorem iK(p:Array Nat)(i:Nat):(p.extract i p.size).toList=p.toList.drop i:=by rw[Array.toList_extract,List.extract_eq_take_drop];exact y9 (by simp)
theorem iM(p:Array Nat)(i:Nat):(p.extract 0 i).toList=p.toList.take i:=by rw[Array.toList_extract,List.extract_eq_take_drop,List.drop_zero,Nat.sub_zero]
theorem LoM.chunkA(M:MF lt N a b)(O:LtOk lt){out:Array Keyed}{ia ib:Nat}(h:LoM lt f a b out ia ib)(k:Nat)(hk:ia+k<=a.size)(hb:ib<b.size)(hw:∀i,i<k->lt (gA b ib) (gA a (ia+i))=false):LoM lt f a b (out++(a.map f).extract ia (ia+k)) (ia+k) ib:=by
 obtain⟨o,rfl,h⟩:=h;refine⟨o++a.extract ia (ia+k),by rw[bN,Yu],?_⟩;rw[ZM,iL];have e:a.toList.drop ia=(a.toList.drop ia).take k++a.toList.drop (ia+k):=by rw[<-List.drop_drop,y3]
 have pa:(a.toList.drop ia).Pairwise (Lx lt):=(dI M.sa).sublist (YF _ _);refine h.step ?_ (pa.sublist (ZP _ _)) fun x hx y hy=>?_
 ·rw[<-ZI,<-e]
 ·rcases Zt.mp hy with hy|hy
  ·rw[e]at pa;exact(ZN.mp pa).2.2 x hx y hy
  ·obtain⟨i,h1,h2,h3,rfl⟩:=yW hx;obtain⟨j,g1,g2,rfl⟩:=kr hy;have h3':i<a.size:=by simpa using h3
   have g2':j<b.size:=by simpa using g2
   rw[<-aJ,<-aJ];have w:=hw (i-ia) (by omega);rw[show ia+(i-ia)=i by omega]at w;refine M.cr i j h3' g2' ?_;cases e':lt (gA b j) (gA a i)with
   |false=>rfl
   |true=>rw[M.leB O g1 g2' e']at w;cases w
theorem LoM.chunkB(M:MF lt N a b)(O:LtOk lt){out:Array Keyed}{ia ib:Nat}(h:LoM lt f a b out ia ib)(k:Nat)(hk:ib+k<=b.size)(hb:ia<a.size)(hw:∀i,i<k->lt (gA b (ib+i)) (gA a ia)=true):LoM lt f a b (out++(b.map f).extract ib (ib+k)) ia (ib+k):=by
 obtain⟨o,rfl,h⟩:=h;refine⟨o++b.extract ib (ib+k),by rw[bN,Yu],?_⟩;rw[ZM,iL];have e:b.toList.drop ib=(b.toList.drop ib).take k++b.toList.drop (ib+k):=by rw[<-List.drop_drop,y3]
 have pb:(b.toList.drop ib).Pairwise (Lx lt):=(dI M.sb).sublist (YF _ _);refine h.step ?_ (pb.sublist (ZP _ _)) fun x hx y hy=>?_
 ·refine(List.perm_append_comm_assoc _ _ _).trans ?_;rw[<-e]
 ·rcases Zt.mp hy with hy|hy
  ·obtain⟨i,h1,h2,h3,rfl⟩:=yW hx;obtain⟨j,g1,g2,rfl⟩:=kr hy;have g2':j<a.size:=by simpa using g2
   rw[<-aJ,<-aJ];have w:=hw (i-ib) (by omega);rw[show ib+(i-ib)=i by omega]at w;exact Lx.of_lt O (M.leA O g1 g2' w)
  ·rw[e]at pb;exact(ZN.mp pb).2.2 x hx y hy
theorem lW{out:Array Keyed}{p:Array Nat}{i:Nat}(hi:i<p.size):out.push (f (gA p i))=out++(p.map f).extract i (i+1):=by
 apply Array.toList_inj.mp;rw[Array.toList_push,ZM,bN,Array.toList_map,iL];have hi':i<p.toList.length:=by simpa using hi
 have e:(p.toList.drop i).take 1=[gA p i]:=by rw[List.drop_eq_getElem_cons hi',aJ,Zf,Zd hi'];rfl
 rw[e];rfl
theorem LoM.pushA(M:MF lt N a b)(O:LtOk lt){out:Array Keyed}{ia ib:Nat}(h:LoM lt f a b out ia ib)(ha:ia<a.size)(hb:ib<b.size)(hw:lt (gA b ib) (gA a ia)=false):LoM lt f a b (out.push (f (gA a ia))) (ia+1) ib:=by rw[lW ha];refine h.chunkA M O 1 (by omega) hb fun i hi=>?_;rw[show ia+i=ia by omega];exact hw
theorem LoM.pushB(M:MF lt N a b)(O:LtOk lt){out:Array Keyed}{ia ib:Nat}(h:LoM lt f a b out ia ib)(ha:ia<a.size)(hb:ib<b.size)(hw:lt (gA b ib) (gA a ia)=true):LoM lt f a b (out.push (f (gA b ib))) ia (ib+1):=by rw[lW hb];refine h.chunkB M O 1 (by omega) ha fun i hi=>?_;rw[show ib+i=ib by omega];exact hw
theorem LoM.done(M:MF lt N a b){out:Array Keyed}{ia ib:Nat}(h:LoM lt f a b out ia ib)(he:ia=a.size\/ib=b.size):Gd lt f a b (out++(a.map f).extract ia a.size++(b.map f).extract ib b.size):=by
 obtain⟨o,rfl,h⟩:=h;have pa:(a.toList.drop ia).Pairwise (Lx lt):=(dI M.sa).sublist (YF _ _);have pb:(b.toList.drop ib).Pairwise (Lx lt):=(dI M.sb).sublist (YF _ _);refine⟨o++a.extract ia a.size++b.extract ib b.size,by rw[bN,bN,Yu,Yu],?_⟩;rw[ZM,ZM,iK,iK,ZI];refine h _ (List.Perm.refl _) ?_;rcases he with rfl|rfl
 ·rw[Xe (by simp),Xi];exact pb
 ·rw[Xe (l:=b.toList) (by simp),Zx];exact pa
theorem LoM.last(M:MF lt N a b)(O:LtOk lt){out:Array Keyed}{ia ib:Nat}(h:LoM lt f a b out ia ib)(he:ia+1=a.size):Gd lt f a b (out++(b.map f).extract ib b.size++(a.map f).extract ia a.size):=by
 obtain⟨o,rfl,h⟩:=h;have pa:(a.toList.drop ia).Pairwise (Lx lt):=(dI M.sa).sublist (YF _ _);have pb:(b.toList.drop ib).Pairwise (Lx lt):=(dI M.sb).sublist (YF _ _);refine⟨o++b.extract ib b.size++a.extract ia a.size,by rw[bN,bN,Yu,Yu],?_⟩;rw[ZM,ZM,iK,iK,ZI];refine h _ List.perm_append_comm (ZN.mpr ⟨pb,pa,fun x hx y hy=>?_⟩);obtain⟨i,h1,h3,rfl⟩:=kr hx;obtain⟨j,g1,g2,rfl⟩:=kr hy;have g2':j<a.size:=by simpa using g2
 rw[<-aJ,<-aJ];have w:=M.lst i (by simpa using h3);rw[show j=a.size-1 by omega];exact Lx.of_lt O w
theorem LoM.start(M:MF lt N a b)(O:LtOk lt):LoM lt f a b #[f (gA b 0)] 0 1:=by
 have h:LoM lt f a b #[] 0 0:=⟨#[],by simp,fun r hr hs=>⟨hs,hr⟩⟩
 exact h.pushB M O M.a0 M.b0 M.fst
theorem vI{out:Array Keyed}(p:Array Nat)(i j:Nat)(o:Array Nat)(e:out=o.map f):out++((p.map f).extract i j).reverse=(o++(p.extract i j).reverse).map f:=by rw[e,bN,Yu,Array.map_reverse]
theorem oH(p:Array Nat)(i j:Nat):(p.extract i j).toList=(p.toList.take j).drop i:=by rw[Array.toList_extract,List.extract_eq_take_drop,List.drop_take]
theorem yX{l:List Nat}{i j x:Nat}(h:x∈(l.take j).drop i):∃k,i<=k/\k<j/\k<l.length/\l.getD k 0=x:=by obtain⟨k,h1,h2,e⟩:=kr h;rw[ZF]at h2;refine⟨k,h1,by omega,by omega,?_⟩;rw[<-e,Zf,Zf,List.getElem?_take,Jv (by omega)]
theorem HiM.chunkA(M:MF lt N a b)(O:LtOk lt){out:Array Keyed}{na nb:Nat}(h:HiM lt f a b out na nb)(k:Nat)(hk:k<=na)(ha:na<=a.size)(hb1:0<nb)(hb:nb<=b.size)(hw:∀i,k<=i->i<na->lt (gA b (nb-1)) (gA a i)=true):HiM lt f a b (out++((a.map f).extract k na).reverse) k nb:=by
 obtain⟨o,e0,h⟩:=h;refine⟨o++(a.extract k na).reverse,vI a k na o e0,?_⟩;rw[ZM,Array.toList_reverse,List.reverse_append,List.reverse_reverse,oH];have e:a.toList.take na=a.toList.take k++(a.toList.take na).drop k:=by have:=y3 k (a.toList.take na);rw[List.take_take,Y8 hk]at this;exact this.symm
 have pa:(a.toList.take na).Pairwise (Lx lt):=(dI M.sa).sublist (ZP _ _);refine h.step ?_ (pa.sublist (YF _ _)) fun y hy x hx=>?_
 ·rw[ZI];refine(List.perm_append_comm.append_left _).trans ?_;rw[<-ZI,<-e]
 ·rcases Zt.mp hy with hy|hy
  ·rw[e]at pa;exact(ZN.mp pa).2.2 y hy x hx
  ·obtain⟨i,h1,h2,h3,rfl⟩:=yX hx;obtain⟨j,g1,g2,rfl⟩:=ku hy;rw[<-aJ,<-aJ];exact Lx.of_lt O (M.leB O (show j<=nb-1 by omega) (by omega) (hw i h1 h2))
theorem HiM.chunkB(M:MF lt N a b)(O:LtOk lt){out:Array Keyed}{na nb:Nat}(h:HiM lt f a b out na nb)(k:Nat)(hk:k<=nb)(ha:na<=a.size)(ha1:0<na)(hb:nb<=b.size)(hw:∀i,k<=i->i<nb->lt (gA b i) (gA a (na-1))=false):HiM lt f a b (out++((b.map f).extract k nb).reverse) na k:=by
 obtain⟨o,e0,h⟩:=h;refine⟨o++(b.extract k nb).reverse,vI b k nb o e0,?_⟩;rw[ZM,Array.toList_reverse,List.reverse_append,List.reverse_reverse,oH];have e:b.toList.take nb=b.toList.take k++(b.toList.take nb).drop k:=by have:=y3 k (b.toList.take nb);rw[List.take_take,Y8 hk]at this;exact this.symm
 have pb:(b.toList.take nb).Pairwise (Lx lt):=(dI M.sb).sublist (ZP _ _);refine h.step ?_ (pb.sublist (YF _ _)) fun y hy x hx=>?_
 ·rw[ZI,<-e]
 ·rcases Zt.mp hy with hy|hy
  ·obtain⟨i,h1,h2,h3,rfl⟩:=yX hx;obtain⟨j,g1,g2,rfl⟩:=ku hy;have h3':i<b.size:=by simpa using h3
   have g2':j<a.size:=by simpa using g2
   rw[<-aJ,<-aJ];have w:=hw i h1 h2;refine M.cr j i g2' h3' ?_;cases e':lt (gA b i) (gA a j)with
   |false=>rfl
   |true=>rw[M.leA O (show j<=na-1 by omega) (by omega) e']at w;cases w
  ·rw[e]at pb;exact(ZN.mp pb).2.2 y hy x hx
theorem sP{out:Array Keyed}{p:Array Nat}{i:Nat}(hi:i<p.size):out.push (f (gA p i))=out++((p.map f).extract i (i+1)).reverse:=by
 have e:=lW (f:=f) (out:=#[]) hi;have e2:(p.map f).extract i (i+1)=#[f (gA p i)]:=by rw[<-Array.empty_append (xs:=(p.map f).extract i (i+1)),<-e];rfl
 rw[e2];rfl
theorem HiM.pushA(M:MF lt N a b)(O:LtOk lt){out:Array Keyed}{na nb:Nat}(h:HiM lt f a b out na nb)(ha1:0<na)(ha:na<=a.size)(hb1:0<nb)(hb:nb<=b.size)(hw:lt (gA b (nb-1)) (gA a (na-1))=true):HiM lt f a b (out.push (f (gA a (na-1)))) (na-1) nb:=by rw[sP (show na-1<a.size by omega),Nat.sub_add_cancel ha1];refine h.chunkA M O (na-1) (by omega) ha hb1 hb fun i h1 h2=>?_;rw[show i=na-1 by omega];exact hw
theorem HiM.pushB(M:MF lt N a b)(O:LtOk lt){out:Array Keyed}{na nb:Nat}(h:HiM lt f a b out na nb)(ha1:0<na)(ha:na<=a.size)(hb1:0<nb)(hb:nb<=b.size)(hw:lt (gA b (nb-1)) (gA a (na-1))=false):HiM lt f a b (out.push (f (gA b (nb-1)))) na (nb-1):=by rw[sP (show nb-1<b.size by omega),Nat.sub_add_cancel hb1];refine h.chunkB M O (nb-1) (by omega) ha ha1 hb fun i h1 h2=>?_;rw[show i=nb-1 by omega];exact hw
theorem HiM.done(M:MF lt N a b){out:Array Keyed}{na nb:Nat}(h:HiM lt f a b out na nb)(he:na=0\/nb=0):Gd lt f a b ((a.map f).extract 0 na++(b.map f).extract 0 nb++out.reverse):=by
 obtain⟨o,rfl,h⟩:=h;have pa:(a.toList.take na).Pairwise (Lx lt):=(dI M.sa).sublist (ZP _ _);have pb:(b.toList.take nb).Pairwise (Lx lt):=(dI M.sb).sublist (ZP _ _);refine⟨a.extract 0 na++b.extract 0 nb++o.reverse,by rw[bN,bN,Yu,Yu,Array.map_reverse],?_⟩;rw[ZM,ZM,iM,iM,Array.toList_reverse];refine h _ (List.Perm.refl _) ?_;rcases he with rfl|rfl
 ·exact pb
 ·rw[List.take_zero,Zx];exact pa
theorem HiM.first(M:MF lt N a b)(O:LtOk lt){out:Array Keyed}{na nb:Nat}(h:HiM lt f a b out na nb)(he:nb=1):Gd lt f a b ((b.map f).extract 0 nb++(a.map f).extract 0 na++out.reverse):=by
 obtain⟨o,rfl,h⟩:=h;have pa:(a.toList.take na).Pairwise (Lx lt):=(dI M.sa).sublist (ZP _ _);have pb:(b.toList.take nb).Pairwise (Lx lt):=(dI M.sb).sublist (ZP _ _);refine⟨b.extract 0 nb++a.extract 0 na++o.reverse,by rw[bN,bN,Yu,Yu,Array.map_reverse],?_⟩;rw[ZM,ZM,iM,iM,Array.toList_reverse];refine h _ List.perm_append_comm (ZN.mpr ⟨pb,pa,fun x hx y hy=>?_⟩);obtain⟨i,h1,h3,rfl⟩:=ku hx;obtain⟨j,g1,g2,rfl⟩:=ku hy;have g2':j<a.size:=by simpa using g2
 rw[<-aJ,<-aJ,show i=0 by omega];exact Lx.of_lt O (M.leA O (ZT _) g2' M.fst)
theorem HiM.start(M:MF lt N a b)(O:LtOk lt):HiM lt f a b #[f (gA a (a.size-1))] (a.size-1) b.size:=by
 have h:HiM lt f a b #[] a.size b.size:=⟨#[],by simp,fun r hr hs=>by
  rw[y9 (by simp),y9 (by simp)]at hr;have e:(#[]:Array Nat).toList.reverse=[]:=rfl;rw[e,Zx];exact⟨hs,hr⟩⟩
 exact h.pushA M O M.a0 (Ze _) M.b0 (Ze _) (M.lst _ (by have:=M.b0;omega))
end
open PySem PyProof.Rows PySem.W
abbrev LoC:=Option (Array Keyed)×Array Keyed×Nat×Nat×Nat×Nat×Nat
def iW(a b out:Array Keyed)(ia ib:Nat):Array Keyed:=out++a.extract ia a.size++b.extract ib b.size
def mM(a b out:Array Keyed)(ia ib:Nat):Array Keyed:=out++b.extract ib b.size++a.extract ia a.size
def wV(a b out:Array Keyed)(ia ib mg ac bc:Nat):StateT SortSt Sem (ForInStep LoC):=do
 let x ←elem' a ia
 if(ia+1+1==a.size)=true then pure (.done (some (mM a b (out.push x) (ia+1) ib),out.push x,ia+1,ib,mg,ac,bc))
 else if(decide (ac<7)&&decide (bc<7))=true then pure (.done (none,out.push x,ia+1,ib,mg,ac,bc))else pure (.yield (none,out.push x,ia+1,ib,mg,ac,bc))
def wU(a b out:Array Keyed)(ia ib mg ac bc:Nat):StateT SortSt Sem (ForInStep LoC):=do
 let y ←elem' b ib
 if(ib+1==b.size)=true then pure (.done (some (iW a b (out.push y) ia (ib+1)),out.push y,ia,ib+1,mg,ac,bc))
 else do
  let x ←elem' a ia
  let some k ←fq true x b (ib+1) (b.size-(ib+1)) 0|pure (.done (some (iW a b (out.push y) ia (ib+1)),out.push y,ia,ib+1,mg,ac,bc))
  if k>0 then
   if(ib+1+k==b.size)=true then pure (.done (some (iW a b (out.push y++b.extract (ib+1) (ib+1+k)) ia (ib+1+k)),out.push y++b.extract (ib+1) (ib+1+k),ia,ib+1+k,mg,ac,k))
   else wV a b (out.push y++b.extract (ib+1) (ib+1+k)) ia (ib+1+k) mg ac k
  else wV a b (out.push y) ia (ib+1) mg ac k
def E1(a b out:Array Keyed)(ia ib mg ac bc:Nat):StateT SortSt Sem (ForInStep LoC):=do
 jX mg
 let y ←elem' b ib
 let some k ←fq false y a ia (a.size-ia) 0|pure (.done (some (iW a b out ia ib),out,ia,ib,mg,ac,bc))
 if k>0 then
  if(ia+k+1==a.size)=true then pure (.done (some (mM a b (out++a.extract ia (ia+k)) (ia+k) ib),out++a.extract ia (ia+k),ia+k,ib,mg,k,bc))
  else if(ia+k==a.size)=true then pure (.done (some (iW a b (out++a.extract ia (ia+k)) (ia+k) ib),out++a.extract ia (ia+k),ia+k,ib,mg,k,bc))
  else wU a b (out++a.extract ia (ia+k)) (ia+k) ib mg k bc
 else wU a b out ia ib mg k bc
section
variable{prog:Program}{w:World}{A:Around}{E:Value->Shared->Prop}{s:Shared}{κ:SortKind}{it:Array Keyed}{lt:Nat->Nat->Bool}{N:Nat}{st:SortSt}{a b:Array Nat}
def mh(st:SortSt)(g:Nat):SortSt:=SortSt.mk' (kindOf st) (arrOf st) (pendingOf st) g (failedOf st)
def SG'(st st':SortSt):Prop:=∃g,st'=mh st g
theorem SG'.refl:SG' st st:=⟨gallopOf st,rfl⟩
theorem SG'.set{st':SortSt}(h:SG' st st')(g:Nat):SG' st (mh st' g):=by obtain⟨g',rfl⟩:=h;exact⟨g,rfl⟩
theorem SG'.kind{st':SortSt}(h:SG' st st')(hk:kindOf st=κ):kindOf st'=κ:=by obtain⟨g',rfl⟩:=h;exact hk
theorem rB{g:Nat}{Q:Unit->SortSt->Prop}(h:Q () (mh st g)):wpS (model prog w) A E s (jX g) Q st:=by have e:jX g=modify fun st=>mh st g:=rfl;rw[e];exact wpS_modify h
theorem bp{q:Array Nat}{i:Nat}{Q:Keyed->SortSt->Prop}(hi:i<q.size)(h:Q (kas_item it (gA q i)) st):wpS (model prog w) A E s (elem' (q.map (kas_item it)) i) Q st:=by rw[GE hi];exact Zq h
theorem aH{α:Type}{c:Prop}[Decidable c]{x y:StateT SortSt Sem α}{Q:α->SortSt->Prop}(h1:c->wpS (model prog w) A E s x Q st)(h2:¬c->wpS (model prog w) A E s y Q st):wpS (model prog w) A E s (if c then x else y) Q st:=by
 split
 ·exact h1 ‹_›
 ·exact h2 ‹_›
def LoI(lt:Nat->Nat->Bool)(f:Nat->Keyed)(a b:Array Nat)(n:Nat)(c:LoC):Prop:=∃out ia ib mg ac bc,c=(none,out,ia,ib,mg,ac,bc)/\LoM lt f a b out ia ib/\ia+1<a.size/\ib<b.size/\n<=ia+ib
def LoQ(lt:Nat->Nat->Bool)(f:Nat->Keyed)(a b:Array Nat)(st:SortSt)(n:Nat)(r:ForInStep LoC)(st':SortSt):Prop:=SG' st st'/\match r with
 |.done c=>(∃r d,c=(some r,d)/\Gd lt f a b r)\/LoI lt f a b n c
 |.yield c=>LoI lt f a b n c
theorem AC(O:LtOk lt)(M:MF lt N a b){out:Array Keyed}{ia ib mg ac bc n:Nat}{st0:SortSt}(g:SG' st0 st)(l:LoM lt (kas_item it) a b out ia ib)(h1:ia+1<a.size)(h2:ib<b.size)(hn:n<=ia+ib)(hw:lt (gA b ib) (gA a ia)=false) :
  wpS (model prog w) A E s (wV (a.map (kas_item it)) (b.map (kas_item it)) out ia ib mg ac bc) (LoQ lt (kas_item it) a b st0 n) st:=by
 unfold wV mM;rw[YQ,YQ];refine Zl (bp (by omega) ?_);have l3:=l.pushA M O (by omega) h2 hw;refine aH (fun e=>?_) fun e=>aH (fun _=>?_) fun _=>?_
 ·exact Zq ⟨g,.inl ⟨_,_,rfl,l3.last M O (by simpa using e)⟩⟩
 ·have e':ia+1+1≠a.size:=by simpa using e
  exact Zq ⟨g,.inr ⟨_,_,_,_,_,_,rfl,l3,by omega,h2,by omega⟩⟩
 ·have e':ia+1+1≠a.size:=by simpa using e
  exact Zq ⟨g,⟨_,_,_,_,_,_,rfl,l3,by omega,h2,by omega⟩⟩
theorem AB(Z:Zc prog w A s κ it lt N)(O:LtOk lt)(M:MF lt N a b){out:Array Keyed}{ia ib mg ac bc n:Nat}{st0:SortSt}(hk:kindOf st0=κ)(g:SG' st0 st)(l:LoM lt (kas_item it) a b out ia ib)(h1:ia+1<a.size)(h2:ib<b.size)(hn:n<=ia+ib)(hw:lt (gA b ib) (gA a ia)=true) :
  wpS (model prog w) A E s (wU (a.map (kas_item it)) (b.map (kas_item it)) out ia ib mg ac bc) (LoQ lt (kas_item it) a b st0 n) st:=by
 unfold wU iW;rw[YQ,YQ];refine Zl (bp h2 ?_);have l3:=l.pushB M O (by omega) h2 hw;refine aH (fun e=>?_) fun e=>?_
 ·exact Zq ⟨g,.inl ⟨_,_,rfl,l3.done M (.inr (by simpa using e))⟩⟩
 have e':ib+1≠b.size:=by simpa using e
 refine Zl (bp (by omega) (Zl (kP Z (g.kind hk) (M.na _ (by omega)) (by omega) (fun i _ _=>M.nb i (by omega)) (by omega) (fun i j h3 h4 h5=>?_) fun k hk1 hk2 hk3=>?_)))
 ·exact M.leB O (by omega) (by omega) h5
 refine aH (fun hp=>aH (fun e=>?_) fun e=>?_) fun hp=>?_
 ·have l4:=l3.chunkB M O k (by omega) (by omega) hk2;exact Zq ⟨g,.inl ⟨_,_,rfl,l4.done M (.inr (by simpa using e))⟩⟩
 ·have l4:=l3.chunkB M O k (by omega) (by omega) hk2;have e2:ib+1+k≠b.size:=by simpa using e
  exact AC O M g l4 h1 (by omega) (by omega) (hk3 k (Ze _) (by omega))
 ·have e3:k=0:=by omega
  subst e3;exact AC O M g l3 h1 (by omega) (by omega) (hk3 0 (Ze _) (by omega))
theorem AA(Z:Zc prog w A s κ it lt N)(O:LtOk lt)(M:MF lt N a b){out:Array Keyed}{ia ib mg ac bc n:Nat}{st0:SortSt}(hk:kindOf st0=κ)(g:SG' st0 st)(l:LoM lt (kas_item it) a b out ia ib)(h1:ia+1<a.size)(h2:ib<b.size)(hn:n<=ia+ib) :
  wpS (model prog w) A E s (E1 (a.map (kas_item it)) (b.map (kas_item it)) out ia ib mg ac bc) (LoQ lt (kas_item it) a b st0 n) st:=by
 unfold E1 iW mM;rw[YQ,YQ];have tf:∀{x y:Nat},zB lt false x y=true->lt x y=false:=fun{x y} z=>by have z':(!lt x y)=true:=z;simpa using z'
 have ft:∀{x y:Nat},zB lt false x y=false->lt x y=true:=fun{x y} z=>by have z':(!lt x y)=false:=z;simpa using z'
 refine Zl (rB (Zl (bp h2 (Zl (kP Z ((g.set _).kind hk) (M.nb _ h2) (by omega) (fun i _ _=>M.na i (by omega)) (by omega) (fun i j h3 h4 h5=>?_) fun k hk1 hk2 hk3=>?_)))))
 ·have z:=tf h5;show(!lt (gA b ib) (gA a (ia+i)))=true;cases e:lt (gA b ib) (gA a (ia+i))with
  |false=>rfl
  |true=>rw[M.leA O (show ia+i<=ia+j by omega) (by omega) e]at z;cases z
 refine aH (fun hp=>aH (fun e=>?_) fun e=>aH (fun e2=>?_) fun e2=>?_) fun hp=>?_
 ·have l4:=l.chunkA M O k (by omega) h2 fun i hi=>tf (hk2 i hi);exact Zq ⟨g.set _,.inl ⟨_,_,rfl,l4.last M O (by simpa using e)⟩⟩
 ·have l4:=l.chunkA M O k (by omega) h2 fun i hi=>tf (hk2 i hi);exact Zq ⟨g.set _,.inl ⟨_,_,rfl,l4.done M (.inl (by simpa using e2))⟩⟩
 ·have l4:=l.chunkA M O k (by omega) h2 fun i hi=>tf (hk2 i hi);have e':ia+k+1≠a.size:=by simpa using e
  have e2':ia+k≠a.size:=by simpa using e2
  exact AB Z O M hk (g.set _) l4 (by omega) h2 (by omega) (ft (hk3 k (Ze _) (by omega)))
 ·have e3:k=0:=by omega
  subst e3;exact AB Z O M hk (g.set _) l (by omega) h2 (by omega) (ft (hk3 0 (Ze _) (by omega)))
theorem Iu(Z:Zc prog w A s κ it lt N)(O:LtOk lt)(M:MF lt N a b){Q:Array Keyed->SortSt->Prop}(hk:kindOf st=κ)(h:∀r st',Gd lt (kas_item it) a b r->SG' st st'->Q r st'):wpS (model prog w) A E s (zLo (a.map (kas_item it)) (b.map (kas_item it))) Q st:=by
 have a0:=M.a0;have b0:=M.b0;have za:(a.map (kas_item it)).size=a.size:=YQ ..;have zb:(b.map (kas_item it)).size=b.size:=YQ ..;rw[GD];refine Zl (wpS_lift (YH ⟨rfl,?_⟩));refine Zl (bp b0 ?_);have l0:=LoM.start (f:=kas_item it) M O;have dn:∀{out ia ib},LoM lt (kas_item it) a b out ia ib->ia=a.size\/ib=b.size->Gd lt (kas_item it) a b (out++(a.map (kas_item it)).extract ia (a.map (kas_item it)).size++(b.map (kas_item it)).extract ib (b.map (kas_item it)).size):=fun h e=>by rw[za,zb];exact h.done M e
 have ls:∀{out ia ib},LoM lt (kas_item it) a b out ia ib->ia+1=a.size->Gd lt (kas_item it) a b (out++(b.map (kas_item it)).extract ib (b.map (kas_item it)).size++(a.map (kas_item it)).extract ia (a.map (kas_item it)).size):=fun h e=>by rw[za,zb];exact h.last M O e
 have hit:∀{α:Type} {c:Prop} [Decidable c] {x y:StateT SortSt Sem α} {Q:α->SortSt->Prop} {st:SortSt},(c->wpS (model prog w) A E s x Q st)->(¬c->wpS (model prog w) A E s y Q st)->wpS (model prog w) A E s (if c then x else y) Q st:=fun h1 h2=>by
  split
  ·exact h1 ‹_›
  ·exact h2 ‹_›
 refine hit (fun e1=>?_) fun e1=>hit (fun e2=>?_) fun e2=>?_
 ·exact Zq (h _ _ (dn l0 (.inr (by rw[<-zb];simpa using e1))) .refl)
 ·exact Zq (h _ _ (ls l0 (by rw[<-za];simpa using e2)) .refl)
 have e1':1≠b.size:=by rw[<-zb];simpa using e1
 have e2':1≠a.size:=by rw[<-za];simpa using e2
 refine Zl (wpS_get ?_);have J:∀{γ:Type} {m:StateT SortSt Sem γ} {Q R:γ->SortSt->Prop} {st:SortSt},wpS (model prog w) A E s m R st->(∀c st,R c st->Q c st)->wpS (model prog w) A E s m Q st:=fun h k=>Yt h k;refine Zl (Yt (Yh (I:=fun x c st'=>SG' st st'/\∃ out ia ib mg,c=(none,out,ia,ib,mg)/\LoM lt (kas_item it) a b out ia ib/\ia+1<a.size/\ib<b.size/\x+1<=ia+ib)
  (Q:=fun c st'=>SG' st st'/\∃ r d,c=(some r,d)/\Gd lt (kas_item it) a b r) ?step ?fin ⟨.refl,_,0,1,_,rfl,l0,by omega,by omega,by omega⟩) ?post)
 case fin =>rintro c st' ⟨_,out,ia,ib,mg,rfl,_,h1,h2,h3⟩;rw[za,zb]at h3;omega
 case post =>rintro c st' ⟨g,r,d,rfl,hr⟩;exact Zq (h r st' hr g)
 case step =>
  rintro x c st1 _ hx ⟨g,out,ia,ib,mg,rfl,l1,h1,h2,h3⟩;refine Zl (Yt (Yh (I:=fun y c st'=>st'=st1/\∃ out ia' ib' ac bc,c=(none,out,ia',ib',ac,bc)/\LoM lt (kas_item it) a b out ia' ib'/\ia'+1<a.size/\ib'<b.size/\ia+ib+y<=ia'+ib')
   (Q:=fun c st'=>st'=st1/\((∃ r d,c=(some r,d)/\Gd lt (kas_item it) a b r)\/∃ out ia' ib' ac bc,c=(none,out,ia',ib',ac,bc)/\LoM lt (kas_item it) a b out ia' ib'/\ia'+1<a.size/\ib'<b.size/\ia+ib+1<=ia'+ib')) ?step1 ?fin1 ⟨rfl,_,ia,ib,_,_,rfl,l1,h1,h2,by omega⟩) ?post1)
  case fin1 =>rintro c st' ⟨rfl,out,ia',ib',ac,bc,rfl,l2,g1,g2,g3⟩;exact⟨rfl,.inr ⟨out,ia',ib',ac,bc,rfl,l2,g1,g2,by rw[za,zb]at g3;omega⟩⟩
  case step1 =>
   rintro y c st' _ hy ⟨rfl,out,ia',ib',ac,bc,rfl,l2,g1,g2,g3⟩;dsimp only;refine Zl (bp g2 (Zl (bp (show ia'<a.size by omega) (Zl (ul Z (g.kind hk) (M.nb _ g2) (M.na _ (by omega)) ?_)))));cases ew:lt (gA b ib') (gA a ia')with
   |true =>
    refine hit (fun _=>?_) (fun z=>absurd rfl z);refine Zl (bp g2 ?_);have l3:=l2.pushB M O (by omega) g2 ew;refine hit (fun e=>?_) fun e=>hit (fun _=>?_) fun _=>?_
    ·exact Zq ⟨rfl,.inl ⟨_,_,rfl,dn l3 (.inr (by rw[<-zb];simpa using e))⟩⟩
    ·exact Zq ⟨rfl,.inr ⟨_,_,_,_,_,rfl,l3,g1,by have:ib'+1≠b.size:=(by rw[<-zb];simpa using e);omega,by omega⟩⟩
    ·exact Zq ⟨rfl,_,_,_,_,_,rfl,l3,g1,by have:ib'+1≠b.size:=(by rw[<-zb];simpa using e);omega,by omega⟩
   |false =>
    refine hit (fun z=>absurd z (by simp)) fun _=>?_;refine Zl (bp (show ia'<a.size by omega) ?_);have l3:=l2.pushA M O (by omega) g2 ew;refine hit (fun e=>?_) fun e=>hit (fun _=>?_) fun _=>?_
    ·exact Zq ⟨rfl,.inl ⟨_,_,rfl,ls l3 (by rw[<-za];simpa using e)⟩⟩
    ·exact Zq ⟨rfl,.inr ⟨_,_,_,_,_,rfl,l3,by have:ia'+1+1≠a.size:=(by rw[<-za];simpa using e);omega,g2,by omega⟩⟩
    ·exact Zq ⟨rfl,_,_,_,_,_,rfl,l3,by have:ia'+1+1≠a.size:=(by rw[<-za];simpa using e);omega,g2,by omega⟩
  case post1 =>
   rintro c st' ⟨rfl,⟨r,d,rfl,hr⟩|⟨out,ia',ib',ac,bc,rfl,l2,g1,g2,g3⟩⟩
   ·exact Zq ⟨g,r,_,rfl,hr⟩
   refine Zl (wpS_lift (YH ⟨rfl,?_⟩));refine Zl (Yt (Yh (I:=fun y c st'=>SG' st st'/\∃ out ia1 ib1 mg ac bc,c=(none,out,ia1,ib1,mg,ac,bc)/\LoM lt (kas_item it) a b out ia1 ib1/\ia1+1<a.size/\ib1<b.size/\ia'+ib'<=ia1+ib1)
    (Q:=fun c st'=>SG' st st'/\((∃ r d,c=(some r,d)/\Gd lt (kas_item it) a b r)\/∃ out ia1 ib1 mg ac bc,c=(none,out,ia1,ib1,mg,ac,bc)/\LoM lt (kas_item it) a b out ia1 ib1/\ia1+1<a.size/\ib1<b.size/\ia'+ib'<=ia1+ib1)) ?step2 ?fin2 ⟨g,_,_,_,_,_,_,rfl,l2,g1,g2,Ze _⟩) ?post2)
   case fin2 =>rintro c st2 ⟨gg,hh⟩;exact⟨gg,.inr hh⟩
   case post2 =>
    rintro c st2 ⟨gg,⟨r,d,rfl,hr⟩|⟨out,ia1,ib1,mg,ac,bc,rfl,l3,k1,k2,k3⟩⟩
    ·exact Zq ⟨gg,r,_,rfl,hr⟩
    ·exact Zl (rB (Zq ⟨gg.set _,out,ia1,ib1,_,rfl,l3,k1,k2,by omega⟩))
   case step2 =>
    rintro y c st2 _ hy ⟨gg,out,ia1,ib1,mg,ac,bc,rfl,l3,k1,k2,k3⟩;dsimp only;refine aH (fun _=>?_) fun _=>?_
    ·exact Yt (AA (n:=ia'+ib') (mg:=mg-1) (ac:=ac) (bc:=bc) Z O M hk gg l3 k1 k2 k3) fun r st3 hr=>by
      cases r with
      |done c=>exact hr
      |yield c=>exact hr
    ·exact Yt (AA (n:=ia'+ib') (mg:=mg) (ac:=ac) (bc:=bc) Z O M hk gg l3 k1 k2 k3) fun r st3 hr=>by
      cases r with
      |done c=>exact hr
      |yield c=>exact hr
end
open PySem PyProof.Rows PySem.W
def gS(a b out:Array Keyed)(na nb:Nat):Array Keyed:=a.extract 0 na++b.extract 0 nb++out.reverse
def wN(a b out:Array Keyed)(na nb:Nat):Array Keyed:=b.extract 0 nb++a.extract 0 na++out.reverse
abbrev HiC:=Option (Array Keyed)×Nat×Nat×Array Keyed×Nat×Nat×Nat
def wP(a b:Array Keyed)(na nb:Nat)(out:Array Keyed)(mg ac bc:Nat):StateT SortSt Sem (ForInStep HiC):=do
 let x ←elem' a (na-1)
 if(na-1==0)=true then pure (.done (some (gS a b (out.push x) (na-1) nb),na-1,nb,out.push x,mg,ac,bc))
 else if(decide (ac<7)&&decide (bc<7))=true then pure (.done (none,na-1,nb,out.push x,mg,ac,bc))else pure (.yield (none,na-1,nb,out.push x,mg,ac,bc))
def wO(a b:Array Keyed)(na nb:Nat)(out:Array Keyed)(mg ac bc:Nat):StateT SortSt Sem (ForInStep HiC):=do
 let y ←elem' b (nb-1)
 if(nb-1==1)=true then pure (.done (some (wN a b (out.push y) na (nb-1)),na,nb-1,out.push y,mg,ac,bc))
 else do
  let x ←elem' a (na-1)
  let some k ←fq true x b 0 (nb-1) (nb-1-1)|pure (.done (some (gS a b (out.push y) na (nb-1)),na,nb-1,out.push y,mg,ac,bc))
  if nb-1-k>0 then
   if(k==1)=true then pure (.done (some (wN a b (out.push y++(b.extract k (nb-1)).reverse) na k),na,k,out.push y++(b.extract k (nb-1)).reverse,mg,ac,nb-1-k))
   else if(k==0)=true then pure (.done (some (gS a b (out.push y++(b.extract k (nb-1)).reverse) na k),na,k,out.push y++(b.extract k (nb-1)).reverse,mg,ac,nb-1-k))
   else wP a b na k (out.push y++(b.extract k (nb-1)).reverse) mg ac (nb-1-k)
  else wP a b na (nb-1) (out.push y) mg ac (nb-1-k)
def EL(a b:Array Keyed)(na nb:Nat)(out:Array Keyed)(mg ac bc:Nat):StateT SortSt Sem (ForInStep HiC):=do
 jX mg
 let y ←elem' b (nb-1)
 let some k ←fq false y a 0 na (na-1)|pure (.done (some (gS a b out na nb),na,nb,out,mg,ac,bc))
 if na-k>0 then
  if(k==0)=true then pure (.done (some (gS a b (out++(a.extract k na).reverse) k nb),k,nb,out++(a.extract k na).reverse,mg,na-k,bc))
  else wO a b k nb (out++(a.extract k na).reverse) mg (na-k) bc
 else wO a b na nb out mg (na-k) bc
section
variable{prog:Program}{w:World}{A:Around}{E:Value->Shared->Prop}{s:Shared}{κ:SortKind}{it:Array Keyed}{lt:Nat->Nat->Bool}{N:Nat}{st:SortSt}{a b:Array Nat}
def HiI(lt:Nat->Nat->Bool)(f:Nat->Keyed)(a b:Array Nat)(n:Nat)(c:HiC):Prop:=∃na nb out mg ac bc,c=(none,na,nb,out,mg,ac,bc)/\HiM lt f a b out na nb/\1<=na/\na<=a.size/\2<=nb/\nb<=b.size/\na+nb<=n
def HiQ(lt:Nat->Nat->Bool)(f:Nat->Keyed)(a b:Array Nat)(st:SortSt)(n:Nat)(r:ForInStep HiC)(st':SortSt):Prop:=SG' st st'/\match r with
 |.done c=>(∃r d,c=(some r,d)/\Gd lt f a b r)\/HiI lt f a b n c
 |.yield c=>HiI lt f a b n c
theorem Az(O:LtOk lt)(M:MF lt N a b){out:Array Keyed}{na nb mg ac bc n:Nat}{st0:SortSt}(g:SG' st0 st)(l:HiM lt (kas_item it) a b out na nb)(h1:1<=na)(h1':na<=a.size)(h2:2<=nb)(h2':nb<=b.size)(hn:na+nb<=n)(hw:lt (gA b (nb-1)) (gA a (na-1))=true) :
  wpS (model prog w) A E s (wP (a.map (kas_item it)) (b.map (kas_item it)) na nb out mg ac bc) (HiQ lt (kas_item it) a b st0 n) st:=by
 unfold wP gS;refine Zl (bp (by omega) ?_);have l3:=l.pushA M O (by omega) h1' (by omega) h2' hw;refine aH (fun e=>?_) fun e=>aH (fun _=>?_) fun _=>?_
 ·exact Zq ⟨g,.inl ⟨_,_,rfl,l3.done M (.inl (by simpa using e))⟩⟩
 ·have e':na-1≠0:=by simpa using e
  exact Zq ⟨g,.inr ⟨_,_,_,_,_,_,rfl,l3,by omega,by omega,h2,h2',by omega⟩⟩
 ·have e':na-1≠0:=by simpa using e
  exact Zq ⟨g,⟨_,_,_,_,_,_,rfl,l3,by omega,by omega,h2,h2',by omega⟩⟩
theorem Ay(Z:Zc prog w A s κ it lt N)(O:LtOk lt)(M:MF lt N a b){out:Array Keyed}{na nb mg ac bc n:Nat}{st0:SortSt}(hk:kindOf st0=κ)(g:SG' st0 st)(l:HiM lt (kas_item it) a b out na nb)(h1:1<=na)(h1':na<=a.size)(h2:2<=nb)(h2':nb<=b.size)(hn:na+nb<=n)(hw:lt (gA b (nb-1)) (gA a (na-1))=false) :
  wpS (model prog w) A E s (wO (a.map (kas_item it)) (b.map (kas_item it)) na nb out mg ac bc) (HiQ lt (kas_item it) a b st0 n) st:=by
 unfold wO gS wN;refine Zl (bp (by omega) ?_);have l3:=l.pushB M O (by omega) h1' (by omega) h2' hw;refine aH (fun e=>?_) fun e=>?_
 ·exact Zq ⟨g,.inl ⟨_,_,rfl,l3.first M O (by simpa using e)⟩⟩
 have e':nb-1≠1:=by simpa using e
 have z0:∀i,0+i=i:=fun i=>by omega
 refine Zl (bp (by omega) (Zl (kP Z (g.kind hk) (M.na _ (by omega)) (by omega) (fun i _ _=>M.nb i (by omega)) (by omega) (fun i j h3 h4 h5=>?_) fun k hk1 hk2 hk3=>?_)))
 ·rw[z0]at h5 ⊢;exact M.leB O (by omega) (by omega) h5
 have hk3':∀i,k<=i->i<nb-1->lt (gA b i) (gA a (na-1))=false:=fun i x y=>by have:=hk3 i x y;rw[z0]at this;exact this
 have hk2':∀i,i<k->lt (gA b i) (gA a (na-1))=true:=fun i x=>by have:=hk2 i x;rw[z0]at this;exact this
 refine aH (fun hp=>aH (fun e=>?_) fun e=>aH (fun e2=>?_) fun e2=>?_) fun hp=>?_
 ·have l4:=l3.chunkB M O k (by omega) h1' (by omega) (by omega) hk3';exact Zq ⟨g,.inl ⟨_,_,rfl,l4.first M O (by simpa using e)⟩⟩
 ·have l4:=l3.chunkB M O k (by omega) h1' (by omega) (by omega) hk3';exact Zq ⟨g,.inl ⟨_,_,rfl,l4.done M (.inr (by simpa using e2))⟩⟩
 ·have l4:=l3.chunkB M O k (by omega) h1' (by omega) (by omega) hk3';have q1:k≠1:=by simpa using e
  have q2:k≠0:=by simpa using e2
  exact Az O M g l4 h1 h1' (by omega) (by omega) (by omega) (hk2' (k-1) (by omega))
 ·have e3:k=nb-1:=by omega
  exact Az O M g l3 h1 h1' (by omega) (by omega) (by omega) (hk2' (nb-1-1) (by omega))
theorem Ax(Z:Zc prog w A s κ it lt N)(O:LtOk lt)(M:MF lt N a b){out:Array Keyed}{na nb mg ac bc n:Nat}{st0:SortSt}(hk:kindOf st0=κ)(g:SG' st0 st)(l:HiM lt (kas_item it) a b out na nb)(h1:1<=na)(h1':na<=a.size)(h2:2<=nb)(h2':nb<=b.size)(hn:na+nb<=n) :
  wpS (model prog w) A E s (EL (a.map (kas_item it)) (b.map (kas_item it)) na nb out mg ac bc) (HiQ lt (kas_item it) a b st0 n) st:=by
 unfold EL gS;have z0:∀i,0+i=i:=fun i=>by omega
 have tf:∀{x y:Nat},zB lt false x y=true->lt x y=false:=fun{x y} z=>by have z':(!lt x y)=true:=z;simpa using z'
 have ft:∀{x y:Nat},zB lt false x y=false->lt x y=true:=fun{x y} z=>by have z':(!lt x y)=false:=z;simpa using z'
 refine Zl (rB (Zl (bp (by omega) (Zl (kP Z ((g.set _).kind hk) (M.nb _ (by omega)) (by omega) (fun i _ _=>M.na i (by omega)) (by omega) (fun i j h3 h4 h5=>?_) fun k hk1 hk2 hk3=>?_)))))
 ·rw[z0]at h5 ⊢;have z:=tf h5;show(!lt (gA b (nb-1)) (gA a i))=true;cases e:lt (gA b (nb-1)) (gA a i)with
  |false=>rfl
  |true=>rw[M.leA O h3 (by omega) e]at z;cases z
 have hk3':∀i,k<=i->i<na->lt (gA b (nb-1)) (gA a i)=true:=fun i x y=>by have:=ft (hk3 i x y);rw[z0]at this;exact this
 have hk2':∀i,i<k->lt (gA b (nb-1)) (gA a i)=false:=fun i x=>by have:=tf (hk2 i x);rw[z0]at this;exact this
 refine aH (fun hp=>aH (fun e=>?_) fun e=>?_) fun hp=>?_
 ·have l4:=l.chunkA M O k (by omega) h1' (by omega) h2' hk3';exact Zq ⟨g.set _,.inl ⟨_,_,rfl,l4.done M (.inl (by simpa using e))⟩⟩
 ·have l4:=l.chunkA M O k (by omega) h1' (by omega) h2' hk3';have q1:k≠0:=by simpa using e
  exact Ay Z O M hk (g.set _) l4 (by omega) (by omega) h2 h2' (by omega) (hk2' (k-1) (by omega))
 ·have e3:k=na:=by omega
  exact Ay Z O M hk (g.set _) l h1 h1' h2 h2' hn (hk2' (na-1) (by omega))
theorem Ir(Z:Zc prog w A s κ it lt N)(O:LtOk lt)(M:MF lt N a b){Q:Array Keyed->SortSt->Prop}(hk:kindOf st=κ)(h:∀r st',Gd lt (kas_item it) a b r->SG' st st'->Q r st'):wpS (model prog w) A E s (zHi (a.map (kas_item it)) (b.map (kas_item it))) Q st:=by
 have a0:=M.a0;have b0:=M.b0;have za:(a.map (kas_item it)).size=a.size:=YQ ..;have zb:(b.map (kas_item it)).size=b.size:=YQ ..;rw[GC];refine Zl (wpS_lift (YH ⟨rfl,?_⟩));rw[za,zb];refine Zl (bp (by omega) ?_);have l0:=HiM.start (f:=kas_item it) M O;refine aH (fun e1=>?_) fun e1=>aH (fun e2=>?_) fun e2=>?_
 ·exact Zq (h _ _ (l0.done M (.inl (by simpa using e1))) .refl)
 ·exact Zq (h _ _ (l0.first M O (by simpa using e2)) .refl)
 have e1':a.size-1≠0:=by simpa using e1
 have e2':b.size≠1:=by simpa using e2
 refine Zl (wpS_get ?_);refine Zl (Yt (Yh (I:=fun x c st'=>SG' st st'/\∃ na nb out mg,c=(none,na,nb,out,mg)/\HiM lt (kas_item it) a b out na nb/\1<=na/\na<=a.size/\2<=nb/\nb<=b.size/\na+nb+x<=a.size+b.size)
  (Q:=fun c st'=>SG' st st'/\∃ r d,c=(some r,d)/\Gd lt (kas_item it) a b r) ?step ?fin ⟨.refl,_,_,_,_,rfl,l0,by omega,by omega,by omega,by omega,by omega⟩) ?post)
 case fin =>rintro c st' ⟨_,na,nb,out,mg,rfl,_,h1,h1',h2,h2',h3⟩;omega
 case post =>rintro c st' ⟨g,r,d,rfl,hr⟩;exact Zq (h r st' hr g)
 case step =>
  rintro x c st1 _ hx ⟨g,na,nb,out,mg,rfl,l1,h1,h1',h2,h2',h3⟩;refine Zl (Yt (Yh (I:=fun y c st'=>st'=st1/\∃ na' nb' out ac bc,c=(none,na',nb',out,ac,bc)/\HiM lt (kas_item it) a b out na' nb'/\1<=na'/\na'<=a.size/\2<=nb'/\nb'<=b.size/\na'+nb'+y<=na+nb)
   (Q:=fun c st'=>st'=st1/\((∃ r d,c=(some r,d)/\Gd lt (kas_item it) a b r)\/∃ na' nb' out ac bc,c=(none,na',nb',out,ac,bc)/\HiM lt (kas_item it) a b out na' nb'/\1<=na'/\na'<=a.size/\2<=nb'/\nb'<=b.size/\na'+nb'+1<=na+nb)) ?step1 ?fin1 ⟨rfl,na,nb,out,0,0,rfl,l1,h1,h1',h2,h2',by omega⟩) ?post1)
  case fin1 =>rintro c st' ⟨rfl,na',nb',out,ac,bc,rfl,l2,g1,g1',g2,g2',g3⟩;exact⟨rfl,.inr ⟨na',nb',out,ac,bc,rfl,l2,g1,g1',g2,g2',by omega⟩⟩
  case step1 =>
   rintro y c st' _ hy ⟨rfl,na',nb',out,ac,bc,rfl,l2,g1,g1',g2,g2',g3⟩;dsimp only;refine Zl (bp (by omega) (Zl (bp (by omega) (Zl (ul Z (g.kind hk) (M.nb _ (by omega)) (M.na _ (by omega)) ?_)))));cases ew:lt (gA b (nb'-1)) (gA a (na'-1))with
   |true =>
    refine aH (fun _=>?_) (fun z=>absurd rfl z);refine Zl (bp (by omega) ?_);have l3:=l2.pushA M O (by omega) g1' (by omega) g2' ew;refine aH (fun e=>?_) fun e=>aH (fun _=>?_) fun _=>?_
    ·exact Zq ⟨rfl,.inl ⟨_,_,rfl,l3.done M (.inl (by simpa using e))⟩⟩
    ·have e':na'-1≠0:=by simpa using e
     exact Zq ⟨rfl,.inr ⟨_,_,_,_,_,rfl,l3,by omega,by omega,g2,g2',by omega⟩⟩
    ·have e':na'-1≠0:=by simpa using e
     exact Zq ⟨rfl,_,_,_,_,_,rfl,l3,by omega,by omega,g2,g2',by omega⟩
   |false =>
    refine aH (fun z=>absurd z (by simp)) fun _=>?_;refine Zl (bp (by omega) ?_);have l3:=l2.pushB M O (by omega) g1' (by omega) g2' ew;refine aH (fun e=>?_) fun e=>aH (fun _=>?_) fun _=>?_
    ·exact Zq ⟨rfl,.inl ⟨_,_,rfl,l3.first M O (by simpa using e)⟩⟩
    ·have e':nb'-1≠1:=by simpa using e
     exact Zq ⟨rfl,.inr ⟨_,_,_,_,_,rfl,l3,g1,g1',by omega,by omega,by omega⟩⟩
    ·have e':nb'-1≠1:=by simpa using e
     exact Zq ⟨rfl,_,_,_,_,_,rfl,l3,g1,g1',by omega,by omega,by omega⟩
  case post1 =>
   rintro c st' ⟨rfl,⟨r,d,rfl,hr⟩|⟨na',nb',out,ac,bc,rfl,l2,g1,g1',g2,g2',g3⟩⟩
   ·exact Zq ⟨g,r,_,rfl,hr⟩
   refine Zl (wpS_lift (YH ⟨rfl,?_⟩));refine Zl (Yt (Yh (I:=fun y c st'=>SG' st st'/\HiI lt (kas_item it) a b (na'+nb') c)
    (Q:=fun c st'=>SG' st st'/\((∃ r d,c=(some r,d)/\Gd lt (kas_item it) a b r)\/HiI lt (kas_item it) a b (na'+nb') c)) ?step2 ?fin2 ⟨g,_,_,_,_,_,_,rfl,l2,g1,g1',g2,g2',Ze _⟩) ?post2)
   case fin2 =>rintro c st2 ⟨gg,hh⟩;exact⟨gg,.inr hh⟩
   case post2 =>
    rintro c st2 ⟨gg,⟨r,d,rfl,hr⟩|⟨na1,nb1,out,mg,ac,bc,rfl,l3,k1,k1',k2,k2',k3⟩⟩
    ·exact Zq ⟨gg,r,_,rfl,hr⟩
    ·exact Zl (rB (Zq ⟨gg.set _,na1,nb1,out,_,rfl,l3,k1,k1',k2,k2',by omega⟩))
   case step2 =>
    rintro y c st2 _ hy ⟨gg,na1,nb1,out,mg,ac,bc,rfl,l3,k1,k1',k2,k2',k3⟩;dsimp only;refine aH (fun _=>?_) fun _=>?_
    ·exact Yt (Ax (n:=na'+nb') (mg:=mg-1) (ac:=ac) (bc:=bc) Z O M hk gg l3 k1 k1' k2 k2' k3) fun r st3 hr=>by
      cases r with
      |done c=>exact hr
      |yield c=>exact hr
    ·exact Yt (Ax (n:=na'+nb') (mg:=mg) (ac:=ac) (bc:=bc) Z O M hk gg l3 k1 k1' k2 k2' k3) fun r st3 hr=>by
      cases r with
      |done c=>exact hr
      |yield c=>exact hr
end
open PySem PyProof.Rows PySem.W
theorem vZ(at0:Nat):∀(l:List Keyed) (n:Nat) (ar:Array Keyed),at0+n+l.length<=ar.size->((l.zipIdx n).foldl (fun a (p,j)=>a.setIfInBounds (at0+j) p) ar).toList=ar.toList.take (at0+n)++(l++ar.toList.drop (at0+n+l.length))
 | [],n,ar,_=>by rw[Xi,List.length_nil,Nat.add_zero,y3];rfl
 |x::l,n,ar,h=>by
  rw[Zm]at h;rw[List.zipIdx_cons,List.foldl_cons];have hs:(ar.setIfInBounds (at0+n) x).size=ar.size:=Array.size_setIfInBounds;have ih:=vZ at0 l (n+1) (ar.setIfInBounds (at0+n) x) (by omega);rw[ih,Array.toList_setIfInBounds];have hl:at0+n<ar.toList.length:=by rw[Zh];omega
  have e1:(ar.toList.set (at0+n) x).take (at0+(n+1))=ar.toList.take (at0+n)++[x]:=by rw[show at0+(n+1)=at0+n+1 by omega,List.take_add_one,List.take_set_of_le (Ze _)];rw[List.getElem?_set_self hl];rfl
  have e2:(ar.toList.set (at0+n) x).drop (at0+(n+1)+l.length)=ar.toList.drop (at0+n+(x::l).length):=by rw[List.drop_set_of_lt (by omega),Zm];congr 1;omega
  rw[e1,e2,ZI];rfl
theorem El{f:Nat->Keyed}{p q:Array Nat}{at0:Nat}(h:at0+q.size<=p.size):∃p':Array Nat,mm (p.map f) at0 (q.map f)=p'.map f/\p'.toList=p.toList.take at0++(q.toList++p.toList.drop (at0+q.size)):=by refine⟨(p.toList.take at0++(q.toList++p.toList.drop (at0+q.size))).toArray,?_,by simp⟩;apply Array.toList_inj.mp;have e:=vZ at0 (q.map f).toList 0 (p.map f) (by simpa using h);unfold mm;rw[e];simp
section
variable{prog:Program}{w:World}{A:Around}{E:Value->Shared->Prop}{s:Shared}{κ:SortKind}{it:Array Keyed}{lt:Nat->Nat->Bool}{N:Nat}{st:SortSt}{a b:Array Nat}
theorem vh{l:List Nat}(h:l.Pairwise (Lx lt)){i j:Nat}(hij:i<j)(hj:j<l.length):Lx lt (l.getD i 0) (l.getD j 0):=by rw[Zu]at h;have:=h i j (by omega) hj hij;rw[Zf,Zf,Zd (show i<l.length by omega),Zd hj];exact this
theorem cX{l:List Nat}{i:Nat}(h:i<l.length):l.getD i 0∈l:=by rw[Zf,Zd h];exact ZA h
theorem sC{l:List Nat}{x:Nat}(h:x∈l):∃i,i<l.length/\l.getD i 0=x:=by obtain⟨i,hi,e⟩:=ZG.mp h;refine⟨i,hi,?_⟩;rw[Zf,Zd hi];exact e
theorem se(O:LtOk lt){l:List Nat}(h:l.Pairwise (Lx lt)){i j:Nat}(hij:i<=j)(hj:j<l.length){x:Nat}(hx:lt x (l.getD i 0)=true):lt x (l.getD j 0)=true:=by
 rcases Z6 i j with h1|h1
 ·exact O.lt_le hx (vh h h1 hj).1
 ·have e:i=j:=by omega
  rw[<-e];exact hx
theorem sf(O:LtOk lt){l:List Nat}(h:l.Pairwise (Lx lt)){i j:Nat}(hij:i<=j)(hj:j<l.length){x:Nat}(hx:lt (l.getD j 0) x=true):lt (l.getD i 0) x=true:=by
 rcases Z6 i j with h1|h1
 ·exact O.le_lt (vh h h1 hj).1 hx
 ·have e:i=j:=by omega
  rw[e];exact hx
theorem Iq(Z:Zc prog w A s κ it lt N)(O:LtOk lt){p:Array Nat}{pre X Y post:List Nat}{i pw pw2:Nat}{Q:Bool->SortSt->Prop}(hk:kindOf st=κ)(hf:failedOf st=none)(ha:arrOf st=p.map (kas_item it))(hp:p.toList=pre++(X++(Y++post)))(hX:X.Pairwise (Lx lt))(hY:Y.Pairwise (Lx lt))(hX0:0<X.length)(hY0:0<Y.length)(hXY:∀ x∈X,∀ y∈Y,x<y)(hN:∀ x∈p.toList,x<N)(h1:(pendingOf st)[i]? = some (pre.length,X.length,pw))(h2:(pendingOf st)[i+1]? = some (pre.length+X.length,Y.length,pw2))(h:∀ (st':SortSt) (p':Array Nat) (W:List Nat),kindOf st'=κ->failedOf st'=none->arrOf st'=p'.map (kas_item it)->p'.toList=pre++(W++post)->W.Pairwise (Lx lt)->W.Perm (X++Y) ->
   pendingOf st'=((pendingOf st).setIfInBounds i (pre.length,X.length+Y.length,pw)).eraseIdxIfInBounds (i+1)->Q true st'):wpS (model prog w) A E s (mergeAt' i) Q st:=by
 have psz:p.size=pre.length+(X.length+(Y.length+post.length)):=by rw[<-Zh,hp];simp
 have gX:∀i,i<X.length->gA p (pre.length+i)=X.getD i 0:=fun i hi=>by rw[aJ,hp,Zf,Zf,Z3 (by omega),Yc,Yv hi]
 have gY:∀i,i<Y.length->gA p (pre.length+X.length+i)=Y.getD i 0:=fun i hi=>by rw[aJ,hp,Zf,Zf,Z3 (by omega),show pre.length+X.length+i-pre.length=X.length+i by omega,Z3 (by omega),Yc,Yv hi]
 have nX:∀x∈X,x<N:=fun x hx=>hN x (by rw[hp];simp[hx]);have nY:∀x∈Y,x<N:=fun x hx=>hN x (by rw[hp];simp[hx]);have tf:∀{x y:Nat},zB lt false x y=true->lt x y=false:=fun{x y} z=>by have z':(!lt x y)=true:=z;simpa using z'
 have ft:∀{x y:Nat},zB lt false x y=false->lt x y=true:=fun{x y} z=>by have z':(!lt x y)=false:=z;simpa using z'
 rw[GB];refine Zl (wpS_get ?_);rw[h1,h2];have hset:∀{st2:SortSt} {Q:PUnit->SortSt->Prop},Q ⟨⟩ st2->wpS (model prog w) A E s (set st2:StateT SortSt Sem PUnit) Q st:=fun{st2 Q} hq=>by have e:(set st2:StateT SortSt Sem PUnit)=modify fun _=>st2:=rfl;rw[e];exact wpS_modify hq
 refine Zl (hset ?_);rw[ha];refine Zl (bp (by omega) ?_);have eY:gA p (pre.length+X.length)=Y.getD 0 0:=gY 0 hY0;rw[eY];refine Zl (kP Z hk (nY _ (cX hY0)) (by omega) (fun i h3 h4=>?_) hX0 (fun i j h3 h4 h5=>?_) fun k hk1 hk2 hk3=>?_)
 ·obtain⟨d,rfl⟩:∃d,i=pre.length+d:=⟨i-pre.length,by omega⟩
  rw[gX d (by omega)];exact nX _ (cX (by omega))
 ·rw[gX _ (by omega)]at h5 ⊢;have z:=tf h5;show(!lt (Y.getD 0 0) (X.getD i 0))=true;cases e:lt (Y.getD 0 0) (X.getD i 0)with
  |false=>rfl
  |true=>rw[se O hX h3 h4 e]at z;cases z
 have k2:∀i,i<k->lt (Y.getD 0 0) (X.getD i 0)=false:=fun i hi=>by have:=tf (hk2 i hi);rw[gX i (by omega)]at this;exact this
 have k3:∀i,k<=i->i<X.length->lt (Y.getD 0 0) (X.getD i 0)=true:=fun i hi hi2=>by have:=ft (hk3 i hi hi2);rw[gX i (by omega)]at this;exact this
 have low:∀x∈X.take k,∀y∈Y,Lx lt x y:=fun x hx y hy=>by
  have hm:=YA hx;obtain⟨i,i1,i2,rfl⟩:=ku hx;obtain⟨j,j1,rfl⟩:=sC hy;refine⟨?_,.inr (hXY _ hm _ hy)⟩;cases e:lt (Y.getD j 0) (X.getD i 0)with
  |false=>rfl
  |true=>rw[<-k2 i i1];exact(sf O hY (ZT j) j1 e).symm
 refine aH (fun e0=>?_) fun e0=>?_
 ·have e0':X.length-k=0:=by simpa using e0
  refine Zq (h _ p (X++Y) hk hf ha (by rw[hp,ZI]) (ZN.mpr ⟨hX,hY,fun x hx y hy=>?_⟩) (List.Perm.refl _) rfl);exact low x (by rw[y9 (by omega)];exact hx) y hy
 have e0':X.length-k≠0:=by simpa using e0
 refine Zl (bp (by omega) ?_);have eXl:gA p (pre.length+k+(X.length-k)-1)=X.getD (X.length-1) 0:=by rw[show pre.length+k+(X.length-k)-1=pre.length+(X.length-1) by omega];exact gX _ (by omega)
 rw[eXl];refine Zl (kP Z hk (nX _ (cX (by omega))) (by omega) (fun i h3 h4=>?_) (by omega) (fun i j h3 h4 h5=>?_) fun c hc1 hc2 hc3=>?_)
 ·obtain⟨d,rfl⟩:∃d,i=pre.length+X.length+d:=⟨i-(pre.length+X.length),by omega⟩
  rw[gY d (by omega)];exact nY _ (cX (by omega))
 ·rw[gY _ (by omega)]at h5 ⊢;exact sf O hY h3 h4 h5
 have c2:∀i,i<c->lt (Y.getD i 0) (X.getD (X.length-1) 0)=true:=fun i hi=>by have:=hc2 i hi;rw[gY i (by omega)]at this;exact this
 have c3:∀i,c<=i->i<Y.length->lt (Y.getD i 0) (X.getD (X.length-1) 0)=false:=fun i hi hi2=>by have:=hc3 i hi hi2;rw[gY i (by omega)]at this;exact this
 refine aH (fun e1=>?_) fun e1=>?_
 ·have e1':c=0:=by simpa using e1
  have z1:=c3 0 (by omega) hY0;rw[k3 (X.length-1) (by omega) (by omega)]at z1;cases z1
 have e1':c≠0:=by simpa using e1
 have la:(p.extract (pre.length+k) (pre.length+X.length)).toList=X.drop k:=by rw[oH,hp,List.take_append,y9 (by omega),Yc,List.take_left,List.drop_append,Xe (by omega),Xi,Yc]
 have lb:(p.extract (pre.length+X.length) (pre.length+X.length+c)).toList=Y.take c:=by rw[iL,hp,<-ZI,List.drop_append,Xe (by simp),Xi,Zg,Nat.sub_self,List.drop_zero,List.take_append,show c-Y.length=0 by omega,List.take_zero,Zx]
 have sza:(p.extract (pre.length+k) (pre.length+X.length)).size=X.length-k:=by rw[<-Zh,la,Ya]
 have szb:(p.extract (pre.length+X.length) (pre.length+X.length+c)).size=c:=by rw[<-Zh,lb,ZF];omega
 have ga:∀i,gA (p.extract (pre.length+k) (pre.length+X.length)) i=X.getD (k+i) 0:=fun i=>by rw[aJ,la,Zf,Zf,List.getElem?_drop]
 have gb:∀i,i<c->gA (p.extract (pre.length+X.length) (pre.length+X.length+c)) i=Y.getD i 0:=fun i hi=>by rw[aJ,lb,Zf,Zf,List.getElem?_take,Jv hi]
 have M:MF lt N (p.extract (pre.length+k) (pre.length+X.length)) (p.extract (pre.length+X.length) (pre.length+X.length+c)):=by
  refine⟨xl (by rw[la];exact hX.sublist (YF _ _)),xl (by rw[lb];exact hY.sublist (ZP _ _)),fun i j hi hj e=>?_,fun i hi=>?_,fun i hi=>?_,by omega,by omega,?_,fun j hj=>?_⟩
  ·rw[ga,gb j (by omega)]at e ⊢;exact⟨e,.inr (hXY _ (cX (by omega)) _ (cX (by omega)))⟩
  ·rw[ga];exact nX _ (cX (by omega))
  ·rw[gb i (by omega)];exact nY _ (cX (by omega))
  ·rw[ga,gb 0 (by omega)];exact k3 _ (by omega) (by omega)
  ·rw[ga,gb j (by omega),sza,show k+(X.length-k-1)=X.length-1 by omega];exact c2 j (by omega)
 have fin:∀(r:Array Keyed) (st2 st3:SortSt),Gd lt (kas_item it) (p.extract (pre.length+k) (pre.length+X.length)) (p.extract (pre.length+X.length) (pre.length+X.length+c)) r->kindOf st2=κ->failedOf st2=none->arrOf st2=p.map (kas_item it)->pendingOf st2=((pendingOf st).setIfInBounds i (pre.length,X.length+Y.length,pw)).eraseIdxIfInBounds (i+1)->SG' st2 st3 ->
   wpS (model prog w) A E s (do
    modify fun st=>setArr st (mm (arrOf st) (pre.length+k) r)
    return (failedOf (←get)).isNone) Q st3:=fun r st2 st3 ⟨q,eq,qs,qp⟩ j1 j2 j3 j4 ⟨g,eg⟩=>by
  subst eg;subst eq;rw[la,lb]at qp;have ql:q.size=X.length-k+c:=by have:=qp.length_eq;rw[Zg,Ya,ZF,Zh]at this;omega
  obtain⟨p',ep,lp⟩:=El (f:=kas_item it) (p:=p) (q:=q) (at0:=pre.length+k) (by omega);have lp':p'.toList=pre++((X.take k++(q.toList++Y.drop c))++post):=by rw[lp,hp,List.take_append,y9 (by omega),Yc,List.take_append,show k-X.length=0 by omega,List.take_zero,Zx];rw[ZI,ZI,ZI];congr 2;congr 1;rw[ql,show pre.length+k+(X.length-k+c)=pre.length+X.length+c by omega,<-ZI,List.drop_append,Xe (by simp),Xi,Zg,Yc,List.drop_append,show c-Y.length=0 by omega,List.drop_zero]
  refine Zl (wpS_modify (Zl (wpS_get ?_)));have hcr:∀x∈X,∀y∈Y.drop c,Lx lt x y:=fun x hx y hy=>by
   have hm:=List.mem_of_mem_drop hy;obtain⟨j,d1,d2,rfl⟩:=kr hy;obtain⟨i,i1,rfl⟩:=sC hx;refine⟨?_,.inr (hXY _ hx _ hm)⟩;cases e:lt (Y.getD j 0) (X.getD i 0)with
   |false=>rfl
   |true=>rw[<-c3 j d1 d2];exact(se O hX (show i<=X.length-1 by omega) (by omega) e).symm
  have sX:=ZN.mp (show(X.take k++X.drop k).Pairwise (Lx lt) by rw[y3];exact hX);have sY:=ZN.mp (show(Y.take c++Y.drop c).Pairwise (Lx lt) by rw[y3];exact hY);have pwW:(X.take k++(q.toList++Y.drop c)).Pairwise (Lx lt):=by
   refine ZN.mpr ⟨sX.1,ZN.mpr ⟨qs,sY.2.1,fun x hx y hy=>?_⟩,fun x hx y hy=>?_⟩
   ·rcases Zt.mp (qp.mem_iff.mp hx)with hx|hx
    ·exact hcr x (List.mem_of_mem_drop hx) y hy
    ·exact sY.2.2 x hx y hy
   ·rcases Zt.mp hy with hy|hy
    ·rcases Zt.mp (qp.mem_iff.mp hy)with hy|hy
     ·exact sX.2.2 x hx y hy
     ·exact low x hx y (YA hy)
    ·exact low x hx y (List.mem_of_mem_drop hy)
  have pmW:(X.take k++(q.toList++Y.drop c)).Perm (X++Y):=by refine((qp.append_right (Y.drop c)).append_left (X.take k)).trans ?_;rw[ZI,y3,<-ZI,y3]
  have ea:mm (arrOf (mh st2 g)) (pre.length+k) (q.map (kas_item it))=p'.map (kas_item it):=by show mm (arrOf st2) (pre.length+k) (q.map (kas_item it))=_;rw[j3];exact ep
  have eF:(failedOf (setArr (mh st2 g) (mm (arrOf (mh st2 g)) (pre.length+k) (q.map (kas_item it))))).isNone=true:=by show(failedOf st2).isNone=true;rw[j2];rfl
  rw[eF];exact Zq (h _ p' _ j1 j2 ea lp' pwW pmW j4)
 rw[bN,bN];refine aH (fun _=>?_) fun _=>?_
 ·exact Zl (Iu Z O M hk fun r st3 hr g=>fin r (setPending st (((pendingOf st).setIfInBounds i (pre.length,X.length+Y.length,pw)).eraseIdxIfInBounds (i+1))) st3 hr hk hf ha rfl g)
 ·exact Zl (Ir Z O M hk fun r st3 hr g=>fin r (setPending st (((pendingOf st).setIfInBounds i (pre.length,X.length+Y.length,pw)).eraseIdxIfInBounds (i+1))) st3 hr hk hf ha rfl g)
end
open PySem PyProof.Rows PySem.W
theorem KW.unbind{α β:Type}{lt:Nat->Nat->Bool}{Q:β->Prop}{f:α->KasT β}:∀{t:KasT α},KW lt Q (t.bind f)->KW lt (fun a=>KW lt Q (f a)) t
 |.ret _,h=>h
 |.ask i j k,h=>KW.unbind (t:=k (lt i j)) h
def pj(pre u:Array Nat):Array Nat:=pre++u.map (pre.size+·)
theorem kG(pre u:Array Nat):(pj pre u).size=pre.size+u.size:=by simp[pj]
theorem fJ(pre u:Array Nat)(k:Nat):(pj pre u)[k]?=if k<pre.size then pre[k]? else(u[k-pre.size]?).map (pre.size+·):=by
 unfold pj;rw[Array.getElem?_append];split
 ·rfl
 ·rw[Array.getElem?_map]
theorem Cu{pre u:Array Nat}{k:Nat}(hk:k<u.size):gA (pj pre u) (pre.size+k)=pre.size+gA u k:=by rw[gR,gR,fJ,Ju (by omega),Yc];simp[hk]
theorem FG{pre u:Array Nat}{i j:Nat}(hj:j<=u.size):kas_rev (pj pre u) (pre.size+i) (pre.size+j)=pj pre (kas_rev u i j):=by
 apply Array.ext_getElem?;intro k;unfold kas_rev;rw[getElem?_mirror_all (by rw[kG];omega),fJ,fJ,fJ,getElem?_mirror_all hj];by_cases h0:k<pre.size
 ·rw[Ju (by omega),Jv h0,Jv h0]
 ·rw[Ju h0,Ju h0];by_cases h1:i<=k-pre.size/\k-pre.size<j
  ·rw[Jv (by omega),Ju (by omega),Jv h1];congr 2;omega
  ·rw[Ju (by omega),Ju h1]
theorem FF{pre u:Array Nat}{k d:Nat}(hk:k<u.size)(hd:d<=k):bubble (pj pre u) (pre.size+k) d=pj pre (bubble u k d):=by
 apply Array.ext_getElem?;intro i;rw[getElem?_bubble (by rw[kG];omega) d (by omega),fJ,fJ,fJ,fJ,getElem?_bubble hk d hd];by_cases h0:i<pre.size
 ·rw[Ju (by omega),Ju (by omega),Jv h0,Jv h0]
 ·rw[Ju h0,Ju h0];by_cases h1:i-pre.size=k-d
  ·rw[Jv (by omega),Jv h1,Ju (by omega),Yc]
  ·rw[Ju (by omega),Ju h1];by_cases h2:k-d<i-pre.size/\i-pre.size<=k
   ·rw[Jv (by omega),Jv h2,Ju (by omega)];congr 2;omega
   ·rw[Ju (by omega),Ju h2]
section
variable{prog:Program}{w:World}{A:Around}{E:Value->Shared->Prop}{s:Shared}{κ:SortKind}{it:Array Keyed}{lt:Nat->Nat->Bool}{N:Nat}{st:SortSt}{pre u:Array Nat}
def stQ(it:Array Keyed)(st:SortSt)(q:Array Nat):SortSt:=setArr st (q.map (kas_item it))
structure Zp(prog:Program)(w:World)(A:Around)(s:Shared)(κ:SortKind)(it:Array Keyed)(lt:Nat->Nat->Bool)(N:Nat)(st:SortSt)(pre:Array Nat)(n:Nat):Prop where
 Z:Zc prog w A s κ it lt N
 hk:kindOf st=κ
 hN:pre.size+n=N
 n0:0<n
def ltS(lt:Nat->Nat->Bool)(lo:Nat):Nat->Nat->Bool:=fun i j=>lt (lo+i) (lo+j)
theorem nW{n:Nat}(P:Zp prog w A s κ it lt N st pre n)(hu:POk n u){i j:Nat}(hi:i<n)(hj:j<n){Q:Option Bool->SortSt->Prop}(h:Q (some (ltS lt pre.size (gA u i) (gA u j))) (stQ it st (pj pre u))):wpS (model prog w) A E s (ltAt' (pre.size+i) (pre.size+j)) Q (stQ it st (pj pre u)):=by
 have hz:u.size=n:=by have:=hu.size_eq;simpa using this
 have hN:=P.hN;rw[ltAt'_eq];refine Zl (wpS_get ?_);have ea:arrOf (stQ it st (pj pre u))=(pj pre u).map (kas_item it):=rfl;rw[ea];refine Zl (bp (by rw[kG];omega) (Zl (bp (by rw[kG];omega) ?_)));rw[Cu (by omega),Cu (by omega)];have b1:=hu.lt P.n0 i;have b2:=hu.lt P.n0 j;exact ul P.Z P.hk (by unfold gA;omega) (by unfold gA;omega) h
theorem rA{n:Nat}(hu:POk n u){i j:Nat}(hj:j<=n){Q:Unit->SortSt->Prop}(h:Q () (stQ it st (pj pre (kas_rev u i j)))):wpS (model prog w) A E s (reverseSlice' (pre.size+i) (pre.size+j)) Q (stQ it st (pj pre u)):=by
 have hz:u.size=n:=by have:=hu.size_eq;simpa using this
 rw[reverseSlice'_eq];refine wpS_modify ?_;have e1:mirror ((pj pre u).map (kas_item it)) (pre.size+i) (pre.size+j) ((pre.size+j-(pre.size+i)) / 2)=(kas_rev (pj pre u) (pre.size+i) (pre.size+j)).map (kas_item it):=kas_swaps_map (kas_item it) (fun k=>pre.size+i+k) (fun k=>pre.size+j-1-k) _ (pj pre u);have e2:setArr (stQ it st (pj pre u)) (mirror (arrOf (stQ it st (pj pre u))) (pre.size+i) (pre.size+j) ((pre.size+j-(pre.size+i)) / 2))=stQ it st (pj pre (kas_rev u i j)):=by show setArr st (mirror ((pj pre u).map (kas_item it)) (pre.size+i) (pre.size+j) ((pre.size+j-(pre.size+i)) / 2))=setArr st ((pj pre (kas_rev u i j)).map (kas_item it));rw[e1,FG (by omega)]
 rw[e2];exact h
theorem HN{n:Nat}(hu:POk n u){k l:Nat}(hk:k<n){Q:Unit->SortSt->Prop}(h:Q () (stQ it st (pj pre (bubble u k (k-l))))):wpS (model prog w) A E s (moveDown' (pre.size+k) (pre.size+l)) Q (stQ it st (pj pre u)):=by
 have hz:u.size=n:=by have:=hu.size_eq;simpa using this
 rw[moveDown'_eq];refine wpS_modify ?_;have e1:bubble ((pj pre u).map (kas_item it)) (pre.size+k) (pre.size+k-(pre.size+l))=(bubble (pj pre u) (pre.size+k) (pre.size+k-(pre.size+l))).map (kas_item it):=kas_swaps_map (kas_item it) (fun i=>pre.size+k-i) (fun i=>pre.size+k-i-1) _ (pj pre u);have e2:setArr (stQ it st (pj pre u)) (bubble (arrOf (stQ it st (pj pre u))) (pre.size+k) (pre.size+k-(pre.size+l)))=stQ it st (pj pre (bubble u k (k-l))):=by show setArr st (bubble ((pj pre u).map (kas_item it)) (pre.size+k) (pre.size+k-(pre.size+l)))=setArr st ((pj pre (bubble u k (k-l))).map (kas_item it));rw[e1,show pre.size+k-(pre.size+l)=k-l by omega,FF (by omega) (by omega)]
 rw[e2];exact h
def qX(lo m nr:Nat):StateT SortSt Sem (Option Nat):=do
 reverseSlice' lo (lo+m)
 let mut m:=m
 for _ in[m:nr]do
  let some sm ←ltAt' (lo+m) (lo+m-1)|return none
  if sm then break
  m:=m+1
 return some m
def Cc(lo m nr:Nat):StateT SortSt Sem (Option Nat):=do
 liftM (rule "list.sort.descending-run");let mut m:=m+1;let mut qe:=0
 for _ in[m:nr]do
  let some sm ←ltAt' (lo+m) (lo+m-1)|return none
  if sm then
   if qe>0 then reverseSlice' (lo+m-(qe+1)) (lo+m)
   qe:=0
  else
   let some la ←ltAt' (lo+m-1) (lo+m)|return none
   if la then break
   qe:=qe+1
  m:=m+1
 if qe>0 then do
  reverseSlice' (lo+m-(qe+1)) (lo+m)
  qX lo m nr
 else qX lo m nr
theorem CM{n:Nat}(P:Zp prog w A s κ it lt N st pre n)(hu:POk n u){m0:Nat}(h0:1<=m0)(hm:m0<=n){R:Nat->Prop}(hr:KW (ltS lt pre.size) R (kas_asc u (n - m0) m0)){f:Nat->Option (Option Nat)×Nat->StateT SortSt Sem (ForInStep (Option (Option Nat)×Nat))}(ef:∀ i m,f i (none,m)=(do
   let r ←ltAt' (pre.size+m) (pre.size+m-1)
   match r with
   |some sm=>if sm=true then pure (ForInStep.done (none,m))else pure (ForInStep.yield (none,m+1))
   | _=>pure (ForInStep.done (some none,m)))){Q:Option (Option Nat)×Nat->SortSt->Prop}(h:∀ m,m0<=m->m<=n->R m->Q (none,m) (stQ it st (pj pre u))) :
  wpS (model prog w) A E s (forIn [m0:n] ((none,m0):Option (Option Nat)×Nat) f) Q (stQ it st (pj pre u)):=by
 refine Yh (I:=fun i c st'=>c=(none,i)/\st'=stQ it st (pj pre u)/\i<=n/\KW (ltS lt pre.size) R (kas_asc u (n-i) i)) ?_ ?_ ⟨rfl,rfl,hm,hr⟩
 ·rintro i c st' hi1 hi2 ⟨rfl,rfl,hi3,hkw⟩;rw[ef];rw[show n-i=(n-(i+1))+1 by omega]at hkw;have hkw':KW (ltS lt pre.size) R (if ltS lt pre.size (gA u i) (gA u (i-1))=true then .ret i else kas_asc u (n-(i+1)) (i+1)):=hkw;rw[show pre.size+i-1=pre.size+(i-1) by omega];refine Zl (nW P hu hi2 (by omega) ?_);refine aH (fun e=>?_) fun e=>?_
  ·rw[Jv e]at hkw';exact Zq (h i hi1 hi3 hkw')
  ·rw[Ju e]at hkw';exact Zq ⟨rfl,rfl,by omega,hkw'⟩
 ·rintro c st' ⟨rfl,rfl,hi3,hkw⟩;rw[Nat.max_eq_right hm]at hkw ⊢;rw[Nat.sub_self]at hkw;exact h n hm (Ze _) hkw
theorem AD{n:Nat}(P:Zp prog w A s κ it lt N st pre n)(hu:POk n u){m0:Nat}(h0:1<=m0)(hm:m0<=n){G:Nat×Array Nat->Prop}{Q:Option Nat->SortSt->Prop}(hr:KW (ltS lt pre.size) G (kas_tail3 m0 n u))(h:∀m u',POk n u'->1<=m->m<=n->G (m,u')->Q (some m) (stQ it st (pj pre u'))) :
  wpS (model prog w) A E s (qX pre.size m0 n) Q (stQ it st (pj pre u)):=by
 unfold qX;have hr':=KW.unbind hr;have z:=rA (prog:=prog) (w:=w) (A:=A) (E:=E) (s:=s) (it:=it) (st:=st) (pre:=pre) (i:=0) (j:=m0) hu hm (Q:=fun _ st'=>st'=stQ it st (pj pre (kas_rev u 0 m0))) rfl;rw[Nat.add_zero]at z;refine Zl (Yt z fun _ st' e=>?_);subst e;refine Zl (CM P (hu.rev 0 m0) h0 hm hr' (fun i m=>rfl) fun m h1 h2 h3=>?_);exact Zq (h m _ (hu.rev 0 m0) (by omega) h2 h3)
end
open PySem PyProof.Rows PySem.W
section
variable{lt:Nat->Nat->Bool}(O:LtOk lt){N:Nat}
include O
theorem vy:∀(f:Nat) {p:Array Nat} {k:Nat},k+f<=N->1<=k->Fx N p k->LS lt p k->KW lt (fun p=>Fx N p (k+f)/\LS lt p (k+f)) (kas_bin f p k)
 |0,p,k,e,_,hf,hs=>⟨hf,hs⟩
 |f+1,p,k,e,h1,hf,hs=>by
  refine KW.bind (KW.mono (fun m hm=>?_) (iV O hs k 0 k (by omega) (Ze _) (fun i hi=>absurd hi (by omega)) (fun i h2 h3=>absurd h2 (by omega)) (ZT _)));obtain⟨m1,m2,m3⟩:=hm;have hk:k<p.size:=by rw[hf.sz];omega
  have gk:gA p k=k:=hf.hi k (Ze _) (by omega);have ekm:k-(k-m)=m:=by omega
  have gb:∀i,gA (bubble p k (k-m)) i=if i=m then gA p k else if m<i/\i<=k then gA p (i-1)else gA p i:=fun i=>by rw[yG hk (by omega),ekm]
  rw[show k+(f+1)=k+1+f by omega];refine vy f (by omega) (by omega) ⟨by rw[bubble_size];exact hf.sz,fun i h2 h3=>?_,fun i hi=>?_⟩ (fun i j hij hj=>?_)
  ·rw[gb,Ju (by omega),Ju (by omega)];exact hf.hi i (by omega) h3
  ·rw[gb];split
   ·rw[gk];omega
   ·split
    ·have:=hf.lo (i-1) (by omega);omega
    ·have:=hf.lo i (by omega);omega
  ·have lk:∀i,i<m->Lx lt (gA p i) (gA p k):=fun i hi=>⟨m2 i hi,.inr (by rw[gk];exact hf.lo i (by omega))⟩
   have gt:∀i,m<=i->i<k->Lx lt (gA p k) (gA p i):=fun i h2 h3=>Lx.of_lt O (m3 i h2 h3);rw[gb,gb];by_cases a1:i=m
   ·rw[Jv a1,Ju (by omega),Jv (by omega)];exact gt _ (by omega) (by omega)
   ·rw[Ju a1];by_cases a2:m<i/\i<=k
    ·rw[Jv a2,Ju (by omega),Jv (by omega)];exact hs _ _ (by omega) (by omega)
    ·rw[Ju a2];by_cases b1:j=m
     ·rw[Jv b1];exact lk i (by omega)
     ·rw[Ju b1];by_cases b2:m<j/\j<=k
      ·rw[Jv b2];exact hs _ _ (by omega) (by omega)
      ·rw[Ju b2];exact hs _ _ hij (by omega)
end
section
variable{prog:Program}{w:World}{A:Around}{E:Value->Shared->Prop}{s:Shared}{κ:SortKind}{it:Array Keyed}{lt:Nat->Nat->Bool}{N:Nat}{st:SortSt}{pre u:Array Nat}
theorem Aw{n:Nat}(P:Zp prog w A s κ it lt N st pre n)(hu:POk n u){m0:Nat}(h0:1<=m0)(hm:m0+1<=n){G:Nat×Array Nat->Prop}{Q:Option Nat->SortSt->Prop}(hr:KW (ltS lt pre.size) G (kas_descPart m0 n u))(h:∀m u',POk n u'->1<=m->m<=n->G (m,u')->Q (some m) (stQ it st (pj pre u'))) :
  wpS (model prog w) A E s (Cc pre.size m0 n) Q (stQ it st (pj pre u)):=by
 unfold Cc;have hr':=KW.unbind hr;refine Zl (wpS_lift (YH ⟨rfl,?_⟩));refine Zl (Yt (Yh (I:=fun i c st'=>∃ u' q,c=(none,i,q)/\st'=stQ it st (pj pre u')/\POk n u'/\i<=n/\q+1<=i/\KW (ltS lt pre.size) (fun r=>KW (ltS lt pre.size) G (if r.2.2>0 then kas_tail3 r.2.1 n (kas_rev r.1 (r.2.1 - (r.2.2+1)) r.2.1) else kas_tail3 r.2.1 n r.1)) (kas_desc (n - i) u' i q))
  (Q:=fun c st'=>∃ u' m q,c=(none,m,q)/\st'=stQ it st (pj pre u')/\POk n u'/\1<=m/\m<=n/\q+1<=m/\KW (ltS lt pre.size) G (if q>0 then kas_tail3 m n (kas_rev u' (m - (q+1)) m) else kas_tail3 m n u')) ?step ?fin ⟨u,0,rfl,rfl,hu,hm,by omega,hr'⟩) ?post)
 case fin =>rintro c st' ⟨u',q,rfl,rfl,hu',h1,h2,h3⟩;rw[Nat.max_eq_right hm]at h1 h2 h3 ⊢;rw[Nat.sub_self]at h3;exact⟨u',n,q,rfl,rfl,hu',by omega,Ze _,h2,h3⟩
 case post =>
  rintro c st' ⟨u',m,q,rfl,rfl,hu',h1,h2,h3,h4⟩;dsimp only;refine aH (fun hq=>?_) fun hq=>?_
  ·rw[Jv hq]at h4;rw[show pre.size+m-(q+1)=pre.size+(m-(q+1)) by omega];exact Zl (rA hu' h2 (AD P (hu'.rev _ _) h1 h2 h4 h))
  ·rw[Ju hq]at h4;exact AD P hu' h1 h2 h4 h
 case step =>
  rintro i c st' hi1 hi2 ⟨u',q,rfl,rfl,hu',h1,h2,h3⟩;dsimp only;rw[show n-i=(n-(i+1))+1 by omega]at h3;generalize hR:(fun r:Array Nat×Nat×Nat=>KW (ltS lt pre.size) G (if r.2.2>0 then kas_tail3 r.2.1 n (kas_rev r.1 (r.2.1-(r.2.2+1)) r.2.1)else kas_tail3 r.2.1 n r.1))=R at h3 ⊢;have h3':KW (ltS lt pre.size) R (if ltS lt pre.size (gA u' i) (gA u' (i - 1))=true then (if q>0 then kas_desc (n - (i+1)) (kas_rev u' (i - (q+1)) i) (i+1) 0 else kas_desc (n - (i+1)) u' (i+1) 0)
   else KasT.ask (gA u' (i - 1)) (gA u' i) fun d=>if d=true then .ret (u',i,q) else kas_desc (n - (i+1)) u' (i+1) (q+1)):=h3
  rw[show pre.size+i-1=pre.size+(i-1) by omega];refine Zl (nW P hu' hi2 (by omega) ?_);refine aH (fun e=>?_) fun e=>?_
  ·rw[Jv e]at h3';refine aH (fun hq=>?_) fun hq=>?_
   ·rw[Jv hq]at h3';rw[show pre.size+i-(q+1)=pre.size+(i-(q+1)) by omega];exact Zl (rA hu' h1 (Zq ⟨_,0,rfl,rfl,hu'.rev _ _,by omega,by omega,h3'⟩))
   ·rw[Ju hq]at h3';exact Zq ⟨_,0,rfl,rfl,hu',by omega,by omega,h3'⟩
  ·rw[Ju e]at h3';have h3'':KW (ltS lt pre.size) R (if ltS lt pre.size (gA u' (i-1)) (gA u' i)=true then .ret (u',i,q)else kas_desc (n-(i+1)) u' (i+1) (q+1)):=h3';refine Zl (nW P hu' (by omega) hi2 ?_);refine aH (fun e2=>?_) fun e2=>?_
   ·rw[Jv e2]at h3'';have h5:R (u',i,q):=h3'';rw[<-hR]at h5;exact Zq ⟨u',i,q,rfl,rfl,hu',by omega,h1,h2,h5⟩
   ·rw[Ju e2]at h3'';exact Zq ⟨_,q+1,rfl,rfl,hu',by omega,by omega,h3''⟩
theorem Em{n:Nat}(P:Zp prog w A s κ it lt N st pre n)(hu:POk n u){G:Nat×Array Nat->Prop}{Q:Option Nat->SortSt->Prop}(hr:KW (ltS lt pre.size) G (kas_count n u))(h:∀m u',POk n u'->1<=m->m<=n->G (m,u')->Q (some m) (stQ it st (pj pre u'))) :
  wpS (model prog w) A E s (countRun' pre.size n) Q (stQ it st (pj pre u)):=by
 have n0:=P.n0;have hr':=KW.unbind hr;rw[countRun'_eq];refine Zl (CM P hu (Ze 1) n0 hr' (fun i m=>rfl) fun m h1 h2 h3=>?_);dsimp only;refine aH (fun e=>?_) fun e=>?_
 ·rw[Jv e]at h3;exact Zq (h m u hu h1 h2 h3)
 ·rw[Ju e]at h3;have hlt:m+1<=n:=by
   have:m≠n:=by simpa using e
   omega
  refine aH (fun e2=>?_) fun e2=>?_
  ·rw[Jv e2]at h3;have h3':KW (ltS lt pre.size) G (if ltS lt pre.size (gA u 0) (gA u (m-1))=true then .ret (m,u)else kas_descPart m n (kas_rev u 0 m)):=h3;have z:=nW (E:=E) P hu (i:=0) (j:=m-1) n0 (by omega) (Q:=fun r st'=>r=some (ltS lt pre.size (gA u 0) (gA u (m-1)))/\st'=stQ it st (pj pre u)) ⟨rfl,rfl⟩;rw[Nat.add_zero]at z;rw[show pre.size+m-1=pre.size+(m-1) by omega];refine Zl (Yt z fun r st' hz=>?_);obtain⟨rfl,rfl⟩:=hz;refine aH (fun e3=>?_) fun e3=>?_
   ·rw[Jv e3]at h3';exact Zq (h m u hu h1 h2 h3')
   ·rw[Ju e3]at h3';have z:=rA (prog:=prog) (w:=w) (A:=A) (E:=E) (s:=s) (it:=it) (st:=st) (pre:=pre) (i:=0) (j:=m) hu h2 (Q:=fun _ st'=>st'=stQ it st (pj pre (kas_rev u 0 m))) rfl;rw[Nat.add_zero]at z;refine Zl (Yt z fun _ st' ez=>?_);subst ez;exact Aw P (hu.rev 0 m) h1 hlt h3' h
  ·rw[Ju e2]at h3;exact Aw P hu h1 hlt h3 h
theorem Hz{n nf ok:Nat}(P:Zp prog w A s κ it lt N st pre n)(hu:POk n u)(hn:nf<=n){G:Array Nat->Prop}{Q:Bool->SortSt->Prop}(hr:KW (ltS lt pre.size) G (kas_bin (nf-max ok 1) u (max ok 1)))(h:∀u',POk n u'->G u'->Q true (stQ it st (pj pre u'))) :
  wpS (model prog w) A E s (binarySort' pre.size nf ok) Q (stQ it st (pj pre u)):=by
 rw[binarySort'_eq];refine Zl (Yt (Yh (I:=fun k c st'=>∃ u',c=(none,())/\st'=stQ it st (pj pre u')/\POk n u'/\KW (ltS lt pre.size) G (kas_bin (nf - k) u' k))
  (Q:=fun c st'=>∃ u',c=(none,())/\st'=stQ it st (pj pre u')/\POk n u'/\G u') ?step ?fin ⟨u,rfl,rfl,hu,hr⟩) ?post)
 case fin =>rintro c st' ⟨u',rfl,rfl,hu',h1⟩;rw[show nf-max (max ok 1) nf=0 by omega]at h1;exact⟨u',rfl,rfl,hu',h1⟩
 case post =>rintro c st' ⟨u',rfl,rfl,hu',h1⟩;exact Zq (h u' hu' h1)
 case step =>
  rintro k c st' hk1 hk2 ⟨u',rfl,rfl,hu',h1⟩;dsimp only;rw[show nf-k=(nf-(k+1))+1 by omega]at h1;have h1':=KW.unbind (show KW (ltS lt pre.size) G ((kas_place u' k k 0 k).bind fun l=>kas_bin (nf-(k+1)) (bubble u' k (k-l)) (k+1))from h1);generalize hR:(fun l:Nat=>KW (ltS lt pre.size) G (kas_bin (nf-(k+1)) (bubble u' k (k-l)) (k+1)))=R at h1';refine Zl (Yt (Yh (I:=fun x c st'=>∃ l r,c=(none,l,r)/\st'=stQ it st (pj pre u')/\r<=k/\KW (ltS lt pre.size) R (kas_place u' k (k - x) l r))
   (Q:=fun c st'=>∃ l r,c=(none,l,r)/\st'=stQ it st (pj pre u')/\R l) ?istep ?ifin ⟨0,k,rfl,rfl,Ze _,h1'⟩) ?ipost)
  case ifin =>rintro c st' ⟨l,r,rfl,rfl,g1,g2⟩;rw[show k-max 0 k=0 by omega]at g2;exact⟨l,r,rfl,rfl,g2⟩
  case ipost =>rintro c st' ⟨l,r,rfl,rfl,g2⟩;rw[<-hR]at g2;exact Zl (HN hu' (by omega) (Zq ⟨_,rfl,rfl,hu'.bub _ _,g2⟩))
  case istep =>
   rintro x c st' _ hx ⟨l,r,rfl,rfl,g1,g2⟩;dsimp only;rw[show k-x=(k-(x+1))+1 by omega]at g2;have g2':KW (ltS lt pre.size) R (if l>=r then KasT.ret l else KasT.ask (gA u' k) (gA u' ((l+r) / 2)) fun c=>if c=true then kas_place u' k (k-(x+1)) l ((l+r) / 2)else kas_place u' k (k-(x+1)) ((l+r) / 2+1) r):=g2;refine aH (fun e=>?_) fun e=>?_
   ·rw[Jv e]at g2';exact Zq ⟨l,r,rfl,rfl,g2'⟩
   ·rw[Ju e]at g2';have g3:KW (ltS lt pre.size) R (if ltS lt pre.size (gA u' k) (gA u' ((l+r) / 2))=true then kas_place u' k (k-(x+1)) l ((l+r) / 2)else kas_place u' k (k-(x+1)) ((l+r) / 2+1) r):=g2';refine Zl (nW P hu' (by omega) (by omega) ?_);refine aH (fun e2=>?_) fun e2=>?_
    ·rw[Jv e2]at g3;exact Zq ⟨l,(l+r) / 2,rfl,rfl,by omega,g3⟩
    ·rw[Ju e2]at g3;exact Zq ⟨(l+r) / 2+1,r,rfl,rfl,by omega,g3⟩
end
open PySem PyProof.Rows PySem.W
section
variable{lt:Nat->Nat->Bool}
def RunsL(lt:Nat->Nat->Bool):Nat->List (List Nat)->List (Nat×Nat×Nat)->Prop
 |_,[],[]=>True
 |b,r::rs,t::ts=>t.1=b/\t.2.1=r.length/\0<r.length/\r.Pairwise (Lx lt)/\r.Perm (List.range' b r.length)/\RunsL lt (b+r.length) rs ts
 |_,_,_=>False
theorem RunsL.len:∀{b:Nat} {rs:List (List Nat)} {ts:List (Nat×Nat×Nat)},RunsL lt b rs ts->rs.length=ts.length/\rs.length<=rs.flatten.length
 |_,[],[],_=>⟨rfl,Ze _⟩
 |_,r::rs,t::ts,⟨_,_,h,_,_,k⟩=>by have:=RunsL.len k;rw[Zm,Zm,YD,Zg];omega
theorem RunsL.snoc{r:List Nat}{x:Nat}(h0:0<r.length)(h1:r.Pairwise (Lx lt)):∀{b:Nat} {rs:List (List Nat)} {ts:List (Nat×Nat×Nat)},RunsL lt b rs ts->r.Perm (List.range' (b+rs.flatten.length) r.length)->RunsL lt b (rs++[r]) (ts++[(b+rs.flatten.length,r.length,x)])
 |_,[],[],_,hp=>⟨rfl,rfl,h0,h1,hp,trivial⟩
 |b,q::rs,t::ts,⟨e1,e2,e3,e4,e5,k⟩,hp=>by rw[YD,Zg,<-Nat.add_assoc]at hp;have ih:=RunsL.snoc (x:=x) h0 h1 k hp;rw[YD,Zg,<-Nat.add_assoc];exact⟨e1,e2,e3,e4,e5,ih⟩
theorem RunsL.pow{g:Nat×Nat×Nat->Nat×Nat×Nat}(hg:∀t,(g t).1=t.1/\(g t).2.1=t.2.1):∀(i:Nat) {b:Nat} {rs:List (List Nat)} {ts:List (Nat×Nat×Nat)},RunsL lt b rs ts->RunsL lt b rs (ts.modify i g)
 |_,_,[],[],_=>by rw[List.modify_nil];trivial
 |0,_,r::rs,t::ts,⟨e1,e2,e3,e4,e5,k⟩=>by rw[List.modify_zero_cons];exact⟨(hg t).1.trans e1,(hg t).2.trans e2,e3,e4,e5,k⟩
 |i+1,_,r::rs,t::ts,⟨e1,e2,e3,e4,e5,k⟩=>by rw[List.modify_succ_cons];exact⟨e1,e2,e3,e4,e5,RunsL.pow hg i k⟩
theorem RunsL.two:∀(i:Nat) {b:Nat} {rs:List (List Nat)} {ts:List (Nat×Nat×Nat)},RunsL lt b rs ts->i+1<ts.length->∃rs1 X Y rs2 pw pw2,rs=rs1++X::Y::rs2/\0<X.length/\0<Y.length/\X.Pairwise (Lx lt)/\Y.Pairwise (Lx lt)/\(∀x∈X,∀y∈Y,x<y) /\
  ts[i]?=some (b+rs1.flatten.length,X.length,pw)/\ts[i+1]?=some (b+rs1.flatten.length+X.length,Y.length,pw2) /\
  ∀W:List Nat,W.Pairwise (Lx lt)->W.Perm (X++Y)->RunsL lt b (rs1++W::rs2) ((ts.set i (b+rs1.flatten.length,X.length+Y.length,pw)).eraseIdx (i+1))
 |_,_,[],[],_,h=>absurd h (by simp)
 |0,b,X::[],t::[],_,h=>absurd h (by simp)
 |0,b,X::[],t::t2::ts,⟨_,_,_,_,_,k⟩,h=>k.elim
 |0,b,X::Y::rs,t::[],⟨_,_,_,_,_,k⟩,h=>k.elim
 |0,b,X::Y::rs,t::t2::ts,⟨e1,e2,e3,e4,e5,f1,f2,f3,f4,f5,k⟩,h=>by
  refine⟨[],X,Y,rs,t.2.2,t2.2.2,rfl,e3,f3,e4,f4,fun x hx y hy=>?_,?_,?_,fun W hw hp=>?_⟩
  ·have a1:=e5.mem_iff.mp hx;have a2:=f5.mem_iff.mp hy;rw[List.mem_range'_1]at a1 a2;omega
  ·show some t=some (b,X.length,t.2.2);rw[<-e1,<-e2]
  ·show some t2=some (b+X.length,Y.length,t2.2.2);rw[<-f1,<-f2]
  ·have hl:W.length=X.length+Y.length:=by rw[hp.length_eq,Zg]
   refine⟨rfl,hl.symm,by omega,hw,?_,?_⟩
   ·refine hp.trans ((e5.append f5).trans ?_);have:=List.range'_append (s:=b) (m:=X.length) (n:=Y.length) (step:=1);rw[Nat.one_mul]at this;rw[this,hl]
   ·rw[hl,<-Nat.add_assoc];exact k
 |i+1,b,r::rs,t::ts,⟨e1,e2,e3,e4,e5,k⟩,h=>by
  obtain⟨rs1,X,Y,rs2,pw,pw2,rfl,g1,g2,g3,g4,g5,g6,g7,g8⟩:=RunsL.two i k (by simpa using h);have el:b+(r::rs1).flatten.length=b+r.length+rs1.flatten.length:=by rw[YD,Zg,Nat.add_assoc]
  refine⟨r::rs1,X,Y,rs2,pw,pw2,rfl,g1,g2,g3,g4,g5,?_,?_,fun W hw hp=>?_⟩
  ·rw[List.getElem?_cons_succ,el];exact g6
  ·rw[List.getElem?_cons_succ,el];exact g7
  ·rw[el,List.set_cons_succ,List.eraseIdx_cons_succ];exact⟨e1,e2,e3,e4,e5,g8 W hw hp⟩
variable{prog:Program}{w:World}{A:Around}{E:Value->Shared->Prop}{s:Shared}{κ:SortKind}{it:Array Keyed}{N:Nat}{st:SortSt}
structure RI(κ:SortKind)(it:Array Keyed)(lt:Nat->Nat->Bool)(N lo:Nat)(T:List Nat)(p:Array Nat)(rs:List (List Nat))(st:SortSt):Prop where
 hk:kindOf st=κ
 hf:failedOf st=none
 ha:arrOf st=p.map (kas_item it)
 hp:p.toList=rs.flatten++T
 pm:p.toList.Perm (List.range N)
 rl:RunsL lt 0 rs (pendingOf st).toList
 hl:rs.flatten.length=lo
theorem CN(Z:Zc prog w A s κ it lt N)(O:LtOk lt){lo i:Nat}{T:List Nat}{p:Array Nat}{rs:List (List Nat)}(R:RI κ it lt N lo T p rs st)(hi:i+1<(pendingOf st).size){Q:Bool->SortSt->Prop}(h:∀st' p' rs',RI κ it lt N lo T p' rs' st'->(pendingOf st').size+1=(pendingOf st).size->Q true st'):wpS (model prog w) A E s (mergeAt' i) Q st:=by
 obtain⟨rs1,X,Y,rs2,pw,pw2,e0,g1,g2,g3,g4,g5,g6,g7,g8⟩:=R.rl.two i (by rw[Zh];exact hi);rw[Nat.zero_add]at g6 g7 g8;rw[Xj]at g6 g7;refine Iq Z O (pre:=rs1.flatten) (X:=X) (Y:=Y) (post:=rs2.flatten++T) R.hk R.hf R.ha ?_ g3 g4 g1 g2 g5 (fun x hx=>ZV.mp (R.pm.mem_iff.mp hx)) g6 g7 fun st' p' W j1 j2 j3 j4 j5 j6 j7=>?_
 ·rw[R.hp,e0];simp
 ·refine h st' p' (rs1++W::rs2) ⟨j1,j2,j3,?_,?_,?_,?_⟩ ?_
  ·rw[j4];simp
  ·refine List.Perm.trans ?_ R.pm;rw[j4,R.hp,e0];have:(rs1.flatten++(W++(rs2.flatten++T))).Perm (rs1.flatten++((X++Y)++(rs2.flatten++T))):=(j6.append_right _).append_left _;refine this.trans (List.Perm.of_eq ?_);simp
  ·rw[j7];have:=g8 W j5 j6;rw[Array.eraseIdxIfInBounds,dif_pos (by rw[Array.size_setIfInBounds];exact hi),Array.toList_eraseIdx,Array.toList_setIfInBounds];exact this
  ·rw[<-R.hl,e0];have:=j6.length_eq;rw[Zg]at this;simp;omega
  ·rw[j7,Array.eraseIdxIfInBounds,dif_pos (by rw[Array.size_setIfInBounds];exact hi),Array.size_eraseIdx,Array.size_setIfInBounds];omega
theorem E2(O:LtOk lt)(lo:Nat):LtOk (ltS lt lo):=⟨fun h=>O.as h,fun h k=>O.tr h k⟩
theorem A8{n:Nat}(hn:1<=n):Fx n (List.toArray (List.range n)) 1:=by
 have g:∀k,k<n->gA (List.toArray (List.range n)) k=k:=fun k hk=>by rw[gR];simp[hk]
 refine⟨by simp,fun k _ hk=>g k hk,fun i hi=>?_⟩;have e:i=0:=by omega
 subst e;rw[g 0 (by omega)];decide
theorem Gb{n m lo:Nat}{u pre:Array Nat}(hpre:pre.size=lo)(hu:POk n u)(F:Fx n u m)(S:LS (ltS lt lo) u m)(hm:m<=n):∃r:List Nat,r.length=m/\r.Pairwise (Lx lt)/\r.Perm (List.range' lo m)/\(pj pre u).toList=pre.toList++(r++List.range' (lo+m) (n-m)):=by
 have hz:u.toList.length=n:=by rw[Zh];exact F.sz
 have ed:u.toList.drop m=List.range' m (n-m):=by
  apply List.ext_getElem
  ·rw[Ya,List.length_range',hz]
  ·intro i h1 h2;rw[Ya,hz]at h1;rw[List.getElem_drop,List.getElem_range'];have:=F.hi (m+i) (by omega) (by omega);rw[aJ,Zf,Zd (by omega)]at this;rw[Nat.one_mul];exact this
 have ep:u.toList.Perm (List.range n):=by have:=YW.mp hu;simpa using this
 have er:List.range n=List.range m++List.range' m (n-m):=by rw[List.range_eq_range',List.range_eq_range'];have:=List.range'_append (s:=0) (m:=m) (n:=n-m) (step:=1);rw[Nat.one_mul,Nat.zero_add]at this;rw[this];congr 1;omega
 have pt:(u.toList.take m).Perm (List.range m):=by have e:=y3 m u.toList;rw[ed]at e;rw[<-e,er]at ep;exact(List.perm_append_right_iff _).mp ep
 refine⟨(u.toList.take m).map (lo+·),by rw[Zb,ZF];omega,?_,?_,?_⟩
 ·rw[Z8];have hS:(u.toList.take m).Pairwise (Lx (ltS lt lo)):=by rw[Zu];intro i j hi hj hij;rw[ZF]at hi hj;have:=S i j hij (by omega);rw[aJ,aJ,Zf,Zf,Zd (by omega),Zd (by omega)]at this;rw[x6,x6];exact this
  refine hS.imp fun{a b} hab=>⟨hab.1,?_⟩
  rcases hab.2 with x|x
  ·exact .inl x
  ·exact .inr (by omega)
 ·rw[List.range'_eq_map_range];exact pt.map _
 ·unfold pj;rw[ZM,Array.toList_map,hpre];congr 1;have e:=y3 m u.toList;rw[ed]at e
  conv=>lhs;rw[<-e]
  rw[Zy];congr 1;rw[List.range'_eq_map_range,List.range'_eq_map_range,Yp];apply List.map_congr_left;intro x _;show lo+(m+x)=lo+m+x;omega
end
open PySem PyProof.Rows PySem.W
section
variable{lt:Nat->Nat->Bool}{prog:Program}{w:World}{A:Around}{E:Value->Shared->Prop}{s:Shared}{κ:SortKind}{it:Array Keyed}{N:Nat}{st:SortSt}
theorem GG(Z:Zc prog w A s κ it lt N)(O:LtOk lt){lo mr:Nat}{p:Array Nat}{rs:List (List Nat)}(R:RI κ it lt N lo (List.range' lo (N - lo)) p rs st)(hlo:lo<N){β:Type}{g:Nat->StateT SortSt Sem β}{Q:β->SortSt->Prop}(h:∀ (m:Nat) (r:List Nat) (p':Array Nat) (st':SortSt),1<=m->lo+m<=N->r.length=m->r.Pairwise (Lx lt)->r.Perm (List.range' lo m)->RI κ it lt N lo (r++List.range' (lo+m) (N - (lo+m))) p' rs st'->pendingOf st'=pendingOf st->wpS (model prog w) A E s (g m) Q st'){bad:StateT SortSt Sem β}{k:Option Nat->StateT SortSt Sem β}(hk:∀ m,k (some m)=(if m<mr then do
    liftM (rule "list.sort.binary-insertion")
    let ok ←binarySort' lo (min (N-lo) mr) m
    if(!ok)=true then bad else g (min (N-lo) mr)
   else g m)):wpS (model prog w) A E s (countRun' lo (N - lo) >>= k) Q st:=by
 have hl:=R.hl;have O':LtOk (ltS lt (List.toArray rs.flatten).size):=E2 O _;have n0:1<=N-lo:=by omega
 have hz:(List.toArray rs.flatten).size=lo:=by rw[Zj];exact hl
 have pu:POk (N-lo) (List.toArray (List.range (N-lo))):=Array.Perm.refl _;have P:Zp prog w A s κ it lt N st (List.toArray rs.flatten) (N-lo):=⟨Z,R.hk,by omega,by omega⟩
 have ep:p=pj (List.toArray rs.flatten) (List.toArray (List.range (N-lo))):=by apply Array.toList_inj.mp;rw[R.hp];unfold pj;rw[ZM,Array.toList_map,Xd,Xd,hz,List.range'_eq_map_range]
 have est:st=stQ it st (pj (List.toArray rs.flatten) (List.toArray (List.range (N-lo)))):=by unfold stQ;rw[<-ep,<-R.ha]
 have fin:∀(m:Nat) (u':Array Nat),POk (N-lo) u'->1<=m->m<=N-lo->Fx (N-lo) u' m->LS (ltS lt (List.toArray rs.flatten).size) u' m->wpS (model prog w) A E s (g m) Q (stQ it st (pj (List.toArray rs.flatten) u')):=fun m u' hu h1 h2 h3 h4=>by
  rw[hz]at h4;obtain⟨r,r1,r2,r3,r4⟩:=Gb hz hu h3 h4 h2;refine h m r (pj (List.toArray rs.flatten) u') _ h1 (by omega) r1 r2 r3 ⟨R.hk,R.hf,rfl,?_,?_,R.rl,hl⟩ rfl
  ·rw[r4,Xd,show N-(lo+m)=N-lo-m by omega]
  ·refine List.Perm.trans ?_ R.pm;rw[r4,R.hp,Xd];refine List.Perm.append_left _ ?_;refine(r3.append_right _).trans (List.Perm.of_eq ?_);have:=List.range'_append (s:=lo) (m:=m) (n:=N-lo-m) (step:=1);rw[Nat.one_mul]at this;rw[this];congr 1;omega
 have kc:=sA O' (N:=N-lo) (p:=List.toArray (List.range (N-lo))) n0 (A8 n0);rw[est];have zc:=Em (E:=E) (Q:=fun r st'=>wpS (model prog w) A E s (k r) Q st') P pu kc fun m u' hu h1 h2 hG=>by
  obtain⟨g1,g2,g3,g4⟩:=hG;rw[hk];refine aH (fun c=>?_) fun c=>?_
  ·refine Zl (wpS_lift (YH ⟨rfl,?_⟩));have em:max m 1=m:=by omega
   have kb:=vy O' (N:=N-lo) (min (N-lo) mr-max m 1) (p:=u') (k:=max m 1) (by omega) (by omega) (by rw[em];exact g3) (by rw[em];exact g4);have zb:=Hz (E:=E) (nf:=min (N-lo) mr) (ok:=m) (Q:=fun r st'=>wpS (model prog w) A E s (if(!r)=true then bad else g (min (N-lo) mr)) Q st') P hu (by omega) kb fun u2 hu2 hG2=>by
    rw[Ju (by simp)];have e2:max m 1+(min (N-lo) mr-max m 1)=min (N-lo) mr:=by omega
    rw[e2]at hG2;exact fin _ u2 hu2 (by omega) (by omega) hG2.1 hG2.2
   rw[hz]at zb;exact Zl zb
  ·exact fin m u' hu h1 h2 g3 g4
 rw[hz]at zc;exact Zl zc
def sD(N pw:Nat):StateT SortSt Sem (Option Unit×Unit):=forIn [0:N] ((none,()):Option Unit×Unit) fun _ _=>do
 let st ←get
 match(if(pendingOf st).size>1 then(pendingOf st)[(pendingOf st).size-2]? else none)with
 |some (_,_,old)=>if old<=pw then pure (.done (none,()))else do
  let ok ←mergeAt' ((pendingOf st).size-2)
  if(!ok)=true then pure (.done (some (),()))else pure (.yield (none,()))
 |_=>pure (.done (none,()))
def sI(N lo n:Nat):StateT SortSt Sem (ForInStep (Option Unit×Nat)):=do
 let st ←get
 match(pendingOf st).back? with
 |some (s1,n1,_)=>do
  let c ←sD N (power' N (2*s1+n1) (2*s1+n1+n1+n) N)
  match c.1 with
  |some r=>pure (.done (some r,lo))
  |none=>do
   modify fun st=>setPending st ((pendingOf st).modify ((pendingOf st).size-1) fun t=>(t.1,t.2.1,power' N (2*s1+n1) (2*s1+n1+n1+n) N))
   modify fun st=>setPending st ((pendingOf st).push (lo,n,0))
   pure (.yield (none,lo+n))
 |_=>do
  modify fun st=>setPending st ((pendingOf st).push (lo,n,0))
  pure (.yield (none,lo+n))
theorem HH(Z:Zc prog w A s κ it lt N)(O:LtOk lt){lo pw:Nat}{T:List Nat}{p:Array Nat}{rs:List (List Nat)}(R:RI κ it lt N lo T p rs st){Q:Option Unit×Unit->SortSt->Prop}(h:∀st' p' rs',RI κ it lt N lo T p' rs' st'->Q (none,()) st'):wpS (model prog w) A E s (sD N pw) Q st:=by
 unfold sD;refine Yh (I:=fun _ c st'=>c=(none,())/\∃p' rs',RI κ it lt N lo T p' rs' st') ?_ ?_ ⟨rfl,p,rs,R⟩
 ·rintro x c st' _ _ ⟨rfl,p',rs',R'⟩;refine Zl (wpS_get ?_);by_cases hs:(pendingOf st').size>1
  ·rw[Jv hs];have e:(pendingOf st')[(pendingOf st').size-2]?=some ((pendingOf st')[(pendingOf st').size-2]'(by omega)):=Array.getElem?_eq_getElem (by omega);rw[e];refine aH (fun _=>Zq (h st' p' rs' R')) fun _=>?_;refine Zl (CN Z O R' (by omega) fun st2 p2 rs2 R2 _=>?_);refine aH (fun z=>absurd z (by simp)) fun _=>Zq ⟨rfl,p2,rs2,R2⟩
  ·rw[Ju hs];exact Zq (h st' p' rs' R')
 ·rintro c st' ⟨rfl,p',rs',R'⟩;exact h st' p' rs' R'
theorem RI.push{lo m:Nat}{r:List Nat}{p:Array Nat}{rs:List (List Nat)}{T:List Nat}(R:RI κ it lt N lo (r++T) p rs st)(h1:1<=m)(hr:r.length=m)(hw:r.Pairwise (Lx lt))(hp:r.Perm (List.range' lo m)):RI κ it lt N (lo+m) T p (rs++[r]) (setPending st ((pendingOf st).push (lo,m,0))):=by
 have hl:=R.hl;refine⟨R.hk,R.hf,R.ha,?_,R.pm,?_,?_⟩
 ·rw[R.hp];simp
 ·show RunsL lt 0 (rs++[r]) ((pendingOf st).push (lo,m,0)).toList;rw[Array.toList_push];have:=R.rl.snoc (r:=r) (x:=0) (by omega) hw (by rw[Nat.zero_add,hl,hr];exact hp);rw[Nat.zero_add,hl,hr]at this;exact this
 ·simp;rw[<-List.length_flatten,hl,hr]
theorem HP(Z:Zc prog w A s κ it lt N)(O:LtOk lt){lo m:Nat}{r:List Nat}{p:Array Nat}{rs:List (List Nat)}{T:List Nat}(R:RI κ it lt N lo (r++T) p rs st)(h1:1<=m)(hr:r.length=m)(hw:r.Pairwise (Lx lt))(hp:r.Perm (List.range' lo m)){Q:ForInStep (Option Unit×Nat)->SortSt->Prop}(h:∀st' p' rs',RI κ it lt N (lo+m) T p' rs' st'->Q (.yield (none,lo+m)) st'):wpS (model prog w) A E s (sI N lo m) Q st:=by
 unfold sI;refine Zl (wpS_get ?_);cases hb:(pendingOf st).back? with
 |none=>exact Zl (wpS_modify (Zq (h _ _ _ (R.push h1 hr hw hp))))
 |some t =>obtain⟨s1,n1,o1⟩:=t;refine Zl (HH Z O R fun st' p' rs' R'=>?_);refine Zl (wpS_modify (Zl (wpS_modify (Zq (h _ p' (rs'++[r]) (RI.push (st:=setPending st' ((pendingOf st').modify ((pendingOf st').size-1) fun t=>(t.1,t.2.1,power' N (2*s1+n1) (2*s1+n1+n1+m) N))) ⟨R'.hk,R'.hf,R'.ha,R'.hp,R'.pm,?_,R'.hl⟩ h1 hr hw hp))))));show RunsL lt 0 rs' ((pendingOf st').modify ((pendingOf st').size-1) _).toList;rw[Array.toList_modify];exact R'.rl.pow (g:=fun t=>(t.1,t.2.1,power' N (2*s1+n1) (2*s1+n1+n1+m) N)) (fun t=>⟨rfl,rfl⟩) _
theorem GH(Z:Zc prog w A s κ it lt N)(O:LtOk lt)(h1:1<=N){Q:Unit->SortSt->Prop}(h:∀(p:Array Nat) (st':SortSt),POk N p->LS lt p N->p.size=N->arrOf st'=p.map (kas_item it)->failedOf st'=none->Q () st') :
  wpS (model prog w) A E s sortRuns' Q (SortSt.mk' κ ((List.toArray (List.range N)).map (kas_item it)) #[] 7 none):=by
 rw[sortRuns'_eq];refine Zl (wpS_get ?_);have esz:(arrOf (SortSt.mk' κ ((List.toArray (List.range N)).map (kas_item it)) #[] 7 none)).size=N:=by show((List.toArray (List.range N)).map (kas_item it)).size=N;simp
 rw[esz];have R0:RI κ it lt N 0 (List.range' 0 (N-0)) (List.toArray (List.range N)) [] (SortSt.mk' κ ((List.toArray (List.range N)).map (kas_item it)) #[] 7 none):=by refine⟨rfl,rfl,rfl,?_,List.Perm.refl _,trivial,rfl⟩;rw[Xd,List.range_eq_range',Nat.sub_zero];rfl
 refine Zl (Yt (Yh (I:=fun x c st'=>∃ lo p rs,c=(none,lo)/\RI κ it lt N lo (List.range' lo (N - lo)) p rs st'/\lo<=N/\x<=lo)
  (Q:=fun c st'=>c=(none,N)/\∃ p rs,RI κ it lt N N [] p rs st') ?step ?fin ⟨0,_,_,rfl,R0,by omega,Ze _⟩) ?post)
 case fin =>
  rintro c st' ⟨lo,p,rs,rfl,R,h2,h3⟩;have e:lo=N:=by omega
  subst e;refine⟨rfl,p,rs,?_⟩;rw[Nat.sub_self]at R;exact R
 case step =>
  rintro x c st' _ hx ⟨lo,p,rs,rfl,R,h2,h3⟩;dsimp -zeta only;refine aH (fun hge=>?_) fun hge=>?_
  ·have e:lo=N:=by omega
   subst e;rw[Nat.sub_self]at R;exact Zq ⟨rfl,p,rs,R⟩
  refine GG Z O R (by omega) (g:=sI N lo) (mr:=minRun' N N 0) (bad:=pure (ForInStep.done (some (),lo))) (fun m r p' st2 m1 m2 r1 r2 r3 R2 _=>?_) (fun m=>by kernel_rfl);exact HP Z O R2 m1 r1 r2 r3 fun st3 p3 rs3 R3=>⟨lo+m,p3,rs3,rfl,R3,m2,by omega⟩
 case post =>
  rintro c st' ⟨rfl,p,rs,R⟩;dsimp only;have hle:∀{c:Prop} [Decidable c] (x:Nat),(if c then x-1 else x)<=x:=fun x=>by split<;>omega
  have hsz:(pendingOf st').size<=N:=by obtain⟨q1,q2⟩:=R.rl.len;have q3:(pendingOf st').toList.length=(pendingOf st').size:=Zh;have q4:=R.hl;omega
  refine Zl (Yt (Yh (I:=fun x c st'=>c=(none,())/\(∃ p rs,RI κ it lt N N [] p rs st')/\((pendingOf st').size+x<=N\/(pendingOf st').size<=1))
   (Q:=fun c st'=>c=(none,())/\(∃ p rs,RI κ it lt N N [] p rs st')/\(pendingOf st').size<=1) ?step2 ?fin2 ⟨rfl,⟨p,rs,R⟩,.inl hsz⟩) ?post2)
  case fin2 =>rintro c st2 ⟨rfl,hR,h2⟩;exact⟨rfl,hR,by omega⟩
  case step2 =>
   rintro x c st2 _ hx ⟨rfl,⟨p2,rs2,R2⟩,h2⟩;refine Zl (wpS_get ?_);refine aH (fun hge=>Zq ⟨rfl,⟨p2,rs2,R2⟩,hge⟩) fun hge=>?_;refine Zl (CN Z O R2 ?_ fun st3 p3 rs3 R3 e3=>?_)
   ·exact Yn (Nat.add_le_add_right (hle _) 1) (by omega)
   ·refine aH (fun z=>absurd z (by simp)) fun _=>Zq ⟨rfl,⟨p3,rs3,R3⟩,by omega⟩
  case post2 =>
   rintro c st2 ⟨rfl,⟨p2,rs2,R2⟩,h2⟩;have ln:=R2.rl.len;rw[Zh]at ln;have hl:=R2.hl;have hp:=R2.hp;have rl:=R2.rl
   match rs2,hl,hp,rl,ln with
   | [],hl,_,_,_=>exact absurd hl (by simp;omega)
   |r::r2::rs3,_,_,_,ln=>exact absurd ln.1 (by simp;omega)
   | [r],hl,hp,rl,_ =>
    rw[Zx,List.flatten_singleton]at hp
    match hpl:(pendingOf st2).toList,rl with
    | [],rl=>exact rl.elim
    |t::ts,⟨_,_,_,pw,_,_⟩ =>
     have hz:p2.size=N:=by rw[<-Zh,R2.pm.length_eq,Y9]
     refine Zq (h p2 st2 (YW.mpr (by simpa using R2.pm)) (fun i j hij hj=>xl (by rw[hp];exact pw) i j hij (by omega)) hz R2.ha R2.hf)
end
open PySem PySem.Spec PyProof.Rows PySem.W
theorem eU{n:Nat}(h:n<=4096):n<=sizeLine:=by rw[sizeLine_eq];omega
section
variable{prog:Program}{w:World}{A:Around}{E:Value->Shared->Prop}{s:Shared}{h₀:Heap}{L a kS:Addr}{m:Str->Option Value}{news:List (Addr×Obj)}{vs ks:List Value}
theorem oy{Q:List Value->Shared->Prop}{r:Addr}{lo hi:Int}{t u v:Tok}{n:Nat}(hh:A.handled=none)(hr:IsRange s.heap r lo hi 1 t u v)(hsmall:Builtin.Range.small lo hi 1=true)(hn:Builtin.Range.rangeSize lo hi 1=n)(hlen:n<=2^24)(h:∀h' tk acc,(∀b o,s.heap.get? b=some o->h'.get? b=some o)->ItemsOf (fun i v=>∃t,v=.int (lo+i*1) t) acc n->Q acc.toList { s with heap:=h',toks:=tk }):wpAny (model prog w) A (collect (.ref r)) Q E s:=by
 unfold collect;refine z6 (wpAny_runValue (codeAny_builtin F.entry_proto_collect ?_));rw[Around.under_plainId F.plain_proto_collect _];show wpAny _ A.in1 (newList [] >>= fun q=>again (.builtin "list.__iadd__" ⟨[q,.ref r],[]⟩)) _ _ s;refine z6 (ZQ (Za ⟨plainId_quiet F.plain_list_iadd _,codeAny_builtin F.entry_list_iadd ?_⟩));rw[Around.under_plainId F.plain_list_iadd _];show wpAny _ A.in1 (Builtin.List.listExtendWith (.ref s.heap.objs.size) (.ref r) (.ref s.heap.objs.size)) _ _ _;refine wpAny_extend_range (A:=A) (R:=fun r s'=>match r with
  | .ok (.ret v)=>wpAny (model prog w) A (match v with
   |.ref a=>do
    let o ←load a
    match o.data with
    |.seq xs _=>pure xs.toList
    |_=>unsupported "internal:collect"
   | _=>unsupported "internal:collect") Q E s'
  |.ok _=>False
  | .error e=>E e s') (s:={ s with heap:=s.heap.push { cls:=.type "list",data:=.seq ([]:List Value).toArray } }) hh (z9 _ hr) hsmall hn hlen s.heap.objs.size _ 0 (Zk _ rfl) fun h' tk acc c hk hS hacc=>?_
 show wpAny _ A (load s.heap.objs.size >>= _) _ _ _;refine z6 (wpAny_load hS (Za ?_));exact h h' tk acc (fun b o e=>hk b o (Zv (Zn e)) (z9 _ e)) hacc
def ZGo(prog:Program)(w:World)(A:Around)(b:Bool)(ks vs:List Value)(F:List Value->Shared->Prop)(κ:SortKind)(s:Shared):Prop :=
 ∃lt:Nat->Nat->Bool,LtOk lt/\(∀i j (C:Bool->Shared->Prop),i<vs.length->j<vs.length->C (lt i j) s->kas_ask prog w A κ (katRev b ks) i j C s) /\
  ∀p:Array Nat,POk vs.length p->LS lt p vs.length->F (katRev b (p.toList.map fun i=>(katRev b vs).getD i Value.none)) s
def wn(prog:Program)(w:World)(A:Around)(b:Bool)(ks vs:List Value)(F:List Value->Shared->Prop)(s:Shared):Prop :=
 (2<=vs.length->wpAny (model prog w) A (keyKind' (List.toArray ks)) (ZGo prog w A b ks vs F) (fun _ _=>False) s)/\(vs.length<2->F (katRev b ((List.range vs.length).map fun i=>(katRev b vs).getD i Value.none)) s)
theorem wb{b:Bool}{st:SortSt}{e e1:Nat}{out:List Value}{P:PySem.Fin->Shared->Prop}(ho:(arrOf st).map (·.2)=List.toArray out)(hz:out.length<=4096)(hq:ks.length<=4096)(hf:failedOf st=none)(h:KatFin h₀ L m kS a ks e e1 (katRev b out) (fun s'=>P (.done (.ret .none)) s') s):wpAny (model prog w) A (ksk_tail a b e1 (.ref kS) st) P E s:=by
 obtain⟨nw,g,Fq,Nq,Uq,kq⟩:=h;obtain⟨l1,l2,e0,hg,x1,x2⟩:=Uq.split;rw[e0]at Nq;have ak:=Nq (kS,seqObj "list" (List.toArray ks) e) (ZD _ (.head _));have s1:=ZK s.heap kS (Obj.mapSeq fun _=>(#[]:Array Value));obtain⟨ck,hck⟩:∃z,(s.heap.update kS (Obj.mapSeq fun _=>(#[]:Array Value))).get? kS=some (seqObj "list" #[] z):=⟨_,get?_update_seq ak.1 fun _=>#[]⟩
 have K2:=kq _ ck (kas_fr Fq s1 ak.2.1 ak.2.2) (by rw[hg];exact news_set Nq x1 x2 s1 hck);obtain⟨nw2,g2,F2,N2,U2,k2⟩:=K2;obtain⟨m1,m2,e2,hg2,y1,y2⟩:=U2.split;rw[e2]at N2;have aa:=N2 (a,seqObj "list" #[] e1) (ZD _ (.head _));have s2:=ZK (s.heap.update kS (Obj.mapSeq fun _=>(#[]:Array Value))) a (Obj.mapSeq fun _=>List.toArray (katRev b out));have hsz:(List.toArray (katRev b out)).size=out.length:=by rw[Zj,kat_len]
 obtain⟨c2,hc2⟩:∃z,((s.heap.update kS (Obj.mapSeq fun _=>(#[]:Array Value))).update a (Obj.mapSeq fun _=>List.toArray (katRev b out))).get? a=some (seqObj "list" (List.toArray (katRev b out)) z):=⟨_,get?_update_seq aa.1 fun _=>List.toArray (katRev b out)⟩
 unfold ksk_tail;dsimp only;rw[ho,kat_outs];refine z6 (listUpdate_at ak.1 rfl (z6 (wpAny_letGo (z6 (seqEpoch_at aa.1 rfl (z6 (listUpdate_at aa.1 rfl ?_ (ZT _) (ZZ (Nat.le_of_eq hsz) (YS (eU hz))))))))) (by rw[Zj];exact eU hq) (ZT _));rw[hf];simp only[bne_self_eq_false,Yz,YY];refine Za (k2 _ c2 (kas_fr F2 s2 aa.2.1 aa.2.2) ?_);rw[hg2];exact news_set N2 y1 y2 s2 hc2
theorem GI{b:Bool}{e e1:Nat}{P:PySem.Fin->Shared->Prop}(hl:ks.length=vs.length)(hz:vs.length<=4096)(h:wn prog w A b ks vs (fun out=>KatFin h₀ L m kS a ks e e1 out (fun s3=>P (.done (.ret .none)) s3)) s) :
  wpAny (model prog w) A (ksk_end a b vs.toArray e1 (.ref kS) (List.toArray ks)) P E s:=by
 have lr:(katRev b ks).length=(katRev b vs).length:=by rw[kat_len,kat_len,hl]
 have lv:(katRev b vs).length=vs.length:=kat_len b vs;have step:∀t:Sem PySem.Fin,wpAny (model prog w) A t P E s->wpAny (model prog w) A (if b=true then(do let _ ←rule "list.sort.reverse";t)else t) P E s:=by
  intro t ht;split
  ·exact z6 (YH ht)
  ·exact ht
 unfold ksk_end;dsimp only;refine step _ ?_;have er:∀κ,SortSt.mk' κ ((List.toArray (katRev b ks)).zip (List.toArray (katRev b vs))) #[] 7 none=SortSt.mk' κ ((List.toArray (List.range vs.length)).map (kas_item ((List.toArray (katRev b ks)).zip (List.toArray (katRev b vs))))) #[] 7 none:=fun κ=>by have e:=kas_range ((List.toArray (katRev b ks)).zip (List.toArray (katRev b vs)));rw[show((List.toArray (katRev b ks)).zip (List.toArray (katRev b vs))).size=vs.length by simp[lr,lv]]at e;rw[e]
 rw[kat_pairs b hl];by_cases n2:vs.toArray.size<2
 ·rw[Jv n2,Jv n2];have n2':vs.length<2:=by simpa using n2
  refine z6 (Za ?_);rw[er,StateT.run_pure];refine z6 (Za ?_);dsimp only;exact wb (kat_snds lr (p:=List.toArray (List.range vs.length)) rfl) (by simpa using hz) (by omega) rfl (h.2 n2')
 rw[Ju n2,Ju n2];have n3:2<=vs.length:=by rw[Zj]at n2;omega
 refine z6 (ZX (h.1 n3) (fun κ s0 hg=>?_) fun _ _ x=>x.elim);obtain⟨lt,O,ask,fin⟩:=hg;have Z:Zc prog w A s0 κ ((List.toArray (katRev b ks)).zip (List.toArray (katRev b vs))) lt vs.length:=fun i j C hi hj hC=>by have:=ask i j C hi hj hC;rw[kat_ask_eq lr]at this;exact this
 rw[er];refine z6 (ZX (GH (E:=E) (Q:=fun _ st'=>∃p:Array Nat,POk vs.length p/\LS lt p vs.length/\p.size=vs.length/\arrOf st'=p.map (kas_item ((List.toArray (katRev b ks)).zip (List.toArray (katRev b vs))))/\failedOf st'=none) Z O (by omega) fun p st' a1 a2 a3 a4 a5=>⟨p,a1,a2,a3,a4,a5⟩) ?_ fun _ _ x=>x);rintro⟨⟨⟩,st'⟩ s' ⟨rfl,p,a1,a2,a3,a4,a5⟩;dsimp only;exact wb (kat_snds lr a4) (by rw[Zb,Zh,a3];exact hz) (by omega) a5 (fin p a1 a2)
theorem wa{f:Value}{Fin:List Value->Nat->Shared->Prop}{n:Nat}{body:Value->PUnit->Sem (ForInStep PUnit)}(hn:n<=4096)(hb:∀ x ks e (s:Shared) (C:Value->Nat->Shared->Prop),List.length ks<4096->wpAny (model prog w) A (call f [x]) (KatBack h₀ L m kS ks e C) (fun _ _=>False) s ->
   wpAny (model prog w) A (body x ⟨⟩) (fun r s'=>r=.yield ⟨⟩/\∃ k c,s'.heap.get? kS=some (seqObj "list" (List.toArray (ks++[k])) c)/\C k c s') E s):∀ (r qs:List Value) (e:Nat) (s:Shared),qs.length+r.length=n ->
   s.heap.get? kS=some (seqObj "list" (List.toArray qs) e)->KatKeys prog w A h₀ L m kS f Fin r qs e s ->
   wpAny (model prog w) A (forIn r PUnit.unit body) (fun _ s'=>∃qs e,s'.heap.get? kS=some (seqObj "list" (List.toArray qs) e)/\qs.length=n/\Fin qs e s') E s
 | [],qs,e,s,hl,hq,h=>by rw[List.forIn_nil];exact Za ⟨qs,e,hq,by simpa using hl,h⟩
 |x::r,qs,e,s,hl,hq,h=>by rw[Zm]at hl;rw[List.forIn_cons];refine z6 (ZX (hb x qs e s (fun k c s'=>KatKeys prog w A h₀ L m kS f Fin r (qs++[k]) c s') (by omega) h) (fun z s' hz=>?_) fun _ _ x=>x);obtain⟨rfl,k,c,hk',h2⟩:=hz;exact wa hn hb r (qs++[k]) c s' (by rw[Zg,ZW];omega) hk' h2
theorem Ep{b:Bool}{f:Value}{e1:Nat}{P:PySem.Fin->Shared->Prop}(hq:s.heap.get? kS=some (seqObj "list" #[] 0))(hz:vs.length<=4096)(h:KatKeys prog w A h₀ L m kS f (fun ks e s'=>wn prog w A b ks vs (fun out=>KatFin h₀ L m kS a ks e e1 out (fun s3=>P (.done (.ret .none)) s3)) s') vs [] 0 s) :
  wpAny (model prog w) A (ksk_rest a f b vs.toArray e1 (.ref kS)) P E s:=by
 unfold ksk_rest;refine z6 (YH ?_);rw[<-Array.forIn_toList];refine z6 (ZX (wa hz (fun x qs e s' C hzz hx=>?_) vs [] 0 s (by simp) hq h) (fun _ s' hd=>?_) fun _ _ x=>x)
 ·refine z6 (wpAny_attempt (ZX hx (fun k s2 hkk=>?_) fun _ _ hF=>hF.elim));obtain⟨nw,g,Fq,Nq,Uq,cq⟩:=hkk;obtain⟨l1,l2,e0,hg,x1,x2⟩:=Uq.split;rw[e0]at Nq;have ak:=Nq (kS,seqObj "list" (List.toArray qs) e) (ZD _ (.head _));have s1:=ZK s2.heap kS (Obj.mapSeq (·.push k));have ea:(List.toArray qs).push k=List.toArray (qs++[k]):=by simp
  obtain⟨c2,hc2⟩:∃z,(s2.heap.update kS (Obj.mapSeq (·.push k))).get? kS=some (seqObj "list" (List.toArray (qs++[k])) z):=⟨_,by rw[<-ea];exact get?_update_seq ak.1 (·.push k)⟩
  dsimp only;refine z6 (listUpdate_at ak.1 rfl (Za ⟨rfl,k,c2,hc2,cq _ c2 (kas_fr Fq s1 ak.2.1 ak.2.2) (by rw[hg];exact news_set Nq x1 x2 s1 hc2)⟩) (by rw[Zj];exact eU (by omega)) (ZZ (Nat.le_of_eq (Array.size_push ..)) (by rw[Zj];exact YS (eU (by omega)))))
 ·obtain⟨qs,e,hq',hl,fin⟩:=hd;exact z6 (listItems_at hq' rfl (GI hl hz fin))
theorem Ca{b:Bool}{f:Value}{n:Nat}{P:PySem.Fin->Shared->Prop}(F:Fr h₀ L s.heap m)(N:News h₀ L s.heap news)(ho:s.heap.get? a=some (seqObj "list" vs.toArray n))(haL:a≠L)(ha0:h₀.get? a=none)(hna:∀ p∈news,p.1≠a)(hz:vs.length<=4096)(h:∀ kS e1 h',Fr h₀ L h' m->News h₀ L h' ((kS,seqObj "list" #[] 0)::(a,seqObj "list" #[] e1)::news)->a<kS->(∀ q∈news,q.1<kS) ->
   KatKeys prog w A h₀ L m kS f (fun ks e s'=>wn prog w A b ks vs (fun out=>KatFin h₀ L m kS a ks e e1 out (fun s3=>P (.done (.ret .none)) s3)) s') vs [] 0 { s with heap:=h' }) :
  wpAny (model prog w) A (ksk_tree a f b) P E s:=by
 have la:a<s.heap.objs.size:=Zn ho;have s1:=ZK s.heap a (Obj.mapSeq fun _=>(#[]:Array Value));have F1:=kas_fr F s1 haL ha0;have N1:=kas_news N s1 hna;obtain⟨e1,ho1⟩:∃z,(s.heap.update a (Obj.mapSeq fun _=>(#[]:Array Value))).get? a=some (seqObj "list" #[] z):=⟨_,get?_update_seq ho fun _=>#[]⟩
 have zk:((s.heap.update a (Obj.mapSeq fun _=>(#[]:Array Value))).push (seqObj "tuple" vs.toArray 0)).objs.size=s.heap.objs.size+1:=by rw[size_push',Heap.size_update]
 have lk:L<((s.heap.update a (Obj.mapSeq fun _=>(#[]:Array Value))).push (seqObj "tuple" vs.toArray 0)).objs.size:=(F1.push _).ns.lt;unfold ksk_tree;refine z6 (listItems_at ho rfl (z6 (listUpdate_at ho rfl (z6 (seqEpoch_at ho1 rfl (z6 (wpAny_newTuple (z6 (wpAny_newList (Z4 ?_) (ZT _))) (eU hz))))) (by rw[Zj];exact eU hz) (ZT _))));refine Ep (s:={ s with heap:=((s.heap.update a (Obj.mapSeq fun _=>(#[]:Array Value))).push (seqObj "tuple" vs.toArray 0)).push (seqObj "list" #[] 0) }) (kS:=((s.heap.update a (Obj.mapSeq fun _=>(#[]:Array Value))).push (seqObj "tuple" vs.toArray 0)).objs.size)
  (Zk _ rfl) hz (h _ e1 _ ((F1.push _).push _) (fun p hp=>?_) (by rw[zk];exact Xl la) fun q hq=>by rw[zk];exact Xl (Zn (N q hq).1))
 rcases Zs.mp hp with rfl|hp
 ·exact⟨Zk _ rfl,Yg lk,Y5 (ZZ F.above (Nat.le_of_lt lk))⟩
 ·rcases Zs.mp hp with rfl|hp
  ·exact⟨z9 _ (z9 _ ho1),haL,ha0⟩
  ·exact⟨z9 _ (z9 _ (N1 p hp).1),(N1 p hp).2⟩
theorem Eo{b:Bool}{f:Value}{kw:List (Str×Value)}{Q:Value->Shared->Prop}(F:Fr h₀ L s.heap m)(N:News h₀ L s.heap news)(hz:vs.length<=4096)(ha2:∀ x,argsOk "list.sort" ⟨[.ref x],kw⟩)(ht:∀ x,Builtin.«list.sort» ⟨[.ref x],kw⟩=ksk_tree x f b)(h:∀ D kS e1 h',Fr h₀ L h' m->News h₀ L h' ((kS,seqObj "list" #[] 0)::(D,seqObj "list" #[] e1)::news)->D<kS->(∀ q∈news,q.1<D) ->
   KatKeys prog w A.in1 h₀ L m kS f (fun ks e s'=>wn prog w A.in1 b ks vs (fun out=>KatFin h₀ L m kS D ks e e1 out (fun s4=>Q (.ref D) s4)) s') vs [] 0 { s with heap:=h' }) :
  wpAny (model prog w) A (do let l ←newList vs;let _ ←holding [l] (call (.builtin "list.sort") [l] kw);ret l) (fun fin s'=>∃v,fin=.done (.ret v)/\Q v s') E s:=by
 have hL:L<s.heap.objs.size:=F.ns.lt;have hoL:(s.heap.push (seqObj "list" vs.toArray 0)).get? s.heap.objs.size=some (seqObj "list" vs.toArray 0):=Zk _ rfl;refine z6 (wpAny_newList ?_ (eU hz));refine z6 (Z4 (wpAny_call_entry_kw slot_list_sort ⟨_,hoL,rfl⟩ entry_list_sort ?body (ha2 _)))
 case body =>
  show wpAny (model prog w) A.in1 (Builtin.«list.sort» ⟨[.ref s.heap.objs.size],kw⟩) _ _ _;rw[ht];refine Ca (s:={ s with heap:=s.heap.push (seqObj "list" vs.toArray 0) }) (F.kept fun b o q=>z9 _ q) (N.grown fun b o q=>z9 _ q) hoL (Yg hL) (Y5 (ZZ F.above (Nat.le_of_lt hL))) (fun p hp=>Zv (Zn (N p hp).1)) hz fun kS e1 h' F' N' l0 l1=>?_;refine kat_keys_mono (h _ kS e1 h' F' N' l0 fun q hq=>Zn (N q hq).1) fun ks e s' _ hd=>⟨fun n2=>ZX (hd.1 n2) (fun κ s2 hk=>?_) fun _ _ x=>x,fun n2=>(hd.2 n2).mono fun s4 hq=>⟨_,rfl,Za ⟨_,rfl,hq⟩⟩⟩
  obtain⟨lt,O,ask,fin⟩:=hk;exact⟨lt,O,ask,fun p a1 a2=>(fin p a1 a2).mono fun s4 hq=>⟨_,rfl,Za ⟨_,rfl,hq⟩⟩⟩
end
open PySem PySem.Spec PyProof.Rows PySem.W
inductive ZKey where
 |i (n:Int)|t (ns:List Int)
def ZKey.nums:ZKey->List Int
 |.i n=>[n]
 |.t ns=>ns
def ZKey.at(H:Hp):ZKey->V->Prop
 |.i n,v=>v=.int n
 |.t ns,v=>∃a,v=.ref a/\H a=some (.tup (ns.map V.int))
theorem ZKey.at.same{H H':Hp}(sm:Same H H'):∀{k:ZKey} {v:V},k.at H v->k.at H' v
 |.i _,_,h=>h
 |.t _,_,⟨a,e,h⟩=>⟨a,e,sm _ _ h⟩
def xV(ks:List ZKey):Prop:=(∀k∈ks,∃n,k=.i n)\/∀k∈ks,∃ns,k=.t ns/\ns≠[]
section
variable{X:Cx}{pins:List (Addr×Obj)}{σ:St}{H:Hp}{s:Shared}{h':Heap}
def AL(X:Cx)(s:Shared)(l:Addr)(xs:List V):Prop:=∀Q:List Value->Shared->Prop,(∀h' tk its,(∀b o,s.heap.get? b=some o->h'.get? b=some o)->Vals xs its->Q its { s with heap:=h',toks:=tk })->wpAny (model X.prog X.w) X.A.in1 (collect (.ref l)) Q X.xe s
theorem Ai{l:Addr}{xs:List V}(I:Inv X pins σ H s)(hH:H l=some (.lst xs))(hz:xs.length<=4096):AL X s l xs:=fun Q h=>by obtain⟨z,its,n,rv,hlen,e⟩:=I.lstM hH;have li:its.length=xs.length:=hlen.symm;refine collect_list ⟨_,e,rfl,n,rfl⟩ (h _ s.toks its (fun b o g=>?_) rv) (eU (by omega));rw[Heap.get?_update_ne _ _ _ _ (Zv (Zn g))];exact z9 _ g
structure SGZ(X:Cx)(pins:List (Addr×Obj))(σ:St)(H1:Hp)(m:Str->Option Value)(kS D:Addr)(e1:Nat)(ks:List ZKey)(as:List V)(us:List Value)(e:Nat)(H:Hp)(s:Shared):Prop where
 I:Inv X pins σ H s
 sm:Same H1 H
 fk:bv X pins H kS
 fd:bv X pins H D
 bk:X.base.get? kS=none
 bd:X.base.get? D=none
 hk:s.heap.get? kS=some (seqObj "list" (List.toArray us) e)
 hd:s.heap.get? D=some (seqObj "list" #[] e1)
 ns:s.heap.Ns X.env.locals m
 vals:Vals as us
 keys:∀(i:Nat) (a:V) (k:ZKey),as[i]?=some a->ks[i]?=some k->k.at H a
theorem SGZ.fr{H1:Hp}{m:Str->Option Value}{kS D:Addr}{e1:Nat}{ks:List ZKey}{as:List V}{us:List Value}{e:Nat}(S:SGZ X pins σ H1 m kS D e1 ks as us e H s):Fr X.base X.env.locals s.heap m:=⟨S.ns,S.I.bk,ZZ S.I.ok.bsz S.I.ok.above⟩
theorem nI{H1:Hp}{m:Str->Option Value}{kS D:Addr}{e1:Nat}{ks:List ZKey}{xs:List V}{its:List Value}{f:Addr}{sp:Sp}{Fin:List Value->Nat->Shared->Prop}(hne:kS≠D)(rv:Vals xs its)(hl:ks.length=xs.length)(F:wm X pins σ f sp)(spec:∀(i:Nat) (v:V) (key:ZKey) (H':Hp),xs[i]?=some v->ks[i]?=some key->Same H1 H'->∀R:VK,(∀kv H'',Same H' H''->key.at H'' kv->R kv H'')->sp [v] H' R E0)(fin:∀(as:List V) (us:List Value) (e:Nat) (H:Hp) (s:Shared),SGZ X pins σ H1 m kS D e1 ks as us e H s->as.length=xs.length->Fin us e s) :
  ∀(r:List Value) (as:List V) (us:List Value) (e:Nat) (H:Hp) (s:Shared),SGZ X pins σ H1 m kS D e1 ks as us e H s->its=its.take as.length++r->as.length+r.length=xs.length ->
   KatKeys X.prog X.w X.A.in1.in1 X.base X.env.locals m kS (.ref f) Fin r us e s
 | [],as,us,e,H,s,S,_,hlen=>KatKeys.nil (fin as us e H s S (by simpa using hlen))
 |u::r,as,us,e,H,s,S,hits,hlen=>by
  have hi:as.length<xs.length:=by rw[Zm]at hlen;omega
  have hx:xs[as.length]?=some xs[as.length]:=Zd hi;obtain⟨u',gu,ru⟩:=rv.get hx;have hlt:as.length<its.length:=by rw[<-rv.length];exact hi
  have gu':its[as.length]?=some u:=by rw[hits,Z3 (by rw[ZF];omega),ZF,Y8 (by omega),Nat.sub_self];rfl
  rw[gu']at gu;cases gu;have hkey:ks[as.length]?=some (ks[as.length]'(by omega)):=Zd (by omega);generalize ks[as.length]'(by omega)=key at hkey;refine KatKeys.cons (wpAny_call (codeAny_mono (F s H u xs[as.length] (fun v H''=>Same H H''/\key.at H'' v) S.I ru (spec _ _ _ H hx hkey S.sm _ fun kv H'' s' q=>⟨s',q⟩)) fun res s' hq=>?_));cases res with
  |error e=>exact hq
  |ok fl =>
   cases fl with
   |next=>exact False.elim hq
   |brk=>exact False.elim hq
   |cont=>exact False.elim hq
   |ret uv =>
    obtain⟨v,H'',os,bare,un,hok,rvv,sm,ea⟩:=hq;obtain⟨hh,g,d,t,os'⟩:=s';obtain rfl:os'=s.os:=os;have I2:Inv X pins σ H'' { s with heap:=hh,gens:=g,drawn:=d,toks:=t }:=S.I.call (h':=hh) (g':=g) (d':=d) (t':=t) (ch:=[]) un hok bare (fun b z=>absurd z (by simp));have nstk:∀{b:Addr},bv X pins H b->b∉frs X.stack:=fun{b} fo z=>(Zs.mp (S.I.stkSub b z)).elim fo.2.1 fo.2.2.1;have hk2:hh.get? kS=some (seqObj "list" (List.toArray us) e):=un.keep kS _ S.hk S.fk.1 (nstk S.fk) (by simp);have hd2:hh.get? D=some (seqObj "list" #[] e1):=un.keep D _ S.hd S.fd.1 (nstk S.fd) (by simp);have ns2:hh.Ns X.env.locals m:=by obtain⟨o,es,ep,ho,rr⟩:=id S.ns;obtain⟨sl,hL⟩:=un.any ho S.I.free (by simp);exact⟨_,es,ep,hL,rr⟩
    have fk2:bv X pins H'' kS:=⟨un.free kS _ S.hk S.fk.1 (by simp),S.fk.2⟩
    have fd2:bv X pins H'' D:=⟨un.free D _ S.hd S.fd.1 (by simp),S.fd.2⟩
    have hkL:kS≠X.env.locals:=S.fk.2.1;refine KatBack.intro (news:=(kS,seqObj "list" (List.toArray us) e)::ge X.base hh X.env.locals kS) ⟨ns2,I2.bk,ZZ S.I.ok.bsz S.I.ok.above⟩ (gH hk2 hkL S.bk) (.head ja) fun h3 c F3 N3=>?_;have mv:=gG (fun b o q=>I2.bk b o q) F3 N3;have I3:Inv X pins σ H'' { s with heap:=h3,gens:=g,drawn:=d,toks:=t }:=Inv.movedF (ch:=[kS]) (t':=t) I2 (fun b hb=>by rw[Zo.mp hb];exact fk2) mv ⟨m,ns2,F3.ns⟩;refine nI hne rv hl F spec fin r (as++[v]) (us++[uv]) c H'' _ ⟨I3,S.sm.trans sm,fk2,fd2,S.bk,S.bd,(N3 _ (.head _)).1,mv D _ S.fd.2.1 (fun z=>hne (Zo.mp z).symm) hd2,F3.ns,S.vals.append (.cons rvv .nil),fun i b key' h1 h2=>?_⟩ ?_ ?_
    ·by_cases hi2:i<as.length
     ·rw[Yv hi2]at h1;exact(S.keys i b key' h1 h2).same sm
     ·have hi3:=(ZH.mp h1).1;rw[Zg,ZW]at hi3;have e3:i=as.length:=by omega
      subst e3;rw[Z3 (Ze _),Nat.sub_self]at h1;cases h1;rw[hkey]at h2;cases h2;exact ea
    ·rw[Zg,ZW,List.take_add_one,gu',Option.toList_some,ZI];exact hits
    ·rw[Zg,ZW,<-hlen,Zm];omega
theorem lq{b:Bool}{kw:List (Str×Value)}{ks:List ZKey}{xs:List V}{f l:Addr}{sp:Sp}{Q:VK}(I:Inv X pins σ H s)(src:AL X s l xs)(hz:xs.length<=4096)(hl:ks.length=xs.length)(hne:xV ks)(hs1:argsOk "sorted" ⟨[.ref l],kw⟩)(hs2:∀x,argsOk "list.sort" ⟨[.ref x],kw⟩)(hs3:∀x,Builtin.«list.sort» ⟨[.ref x],kw⟩=ksk_tree x (.ref f) b)(F:∀l,wm (wX X l) pins σ f sp)(spec:∀(i:Nat) (v:V) (key:ZKey) (H':Hp),xs[i]?=some v->ks[i]?=some key->Same H H'->∀R:VK,(∀kv H'',Same H' H''->key.at H'' kv->R kv H'')->sp [v] H' R E0)(q:∀(p:Array Nat) (H2:Hp) (D:Addr),POk xs.length p->LS (fun i j=>HT.lexLt ((katRev b (ks.map ZKey.nums)).getD i []) ((katRev b (ks.map ZKey.nums)).getD j [])) p xs.length->Same H H2->H2 D=none->Q (.ref D) (upd H2 D (.lst (katRev b (p.toList.map fun i=>(katRev b xs).getD i .non))))) :
  wpAny (model X.prog X.w) X.A (call (.builtin "sorted") [.ref l] kw) (EP X pins σ Q) X.xe s:=by
 refine call_function_entry_kw kind_sorted plain_sorted entry_sorted hs1 ?_;unfold Builtin.«sorted»;refine z6 (m:=checkCount "sorted" 1 1 _) (Za (z6 (src _ fun h0 tk its kp rv=>?_)));have I0:Inv X pins σ H { s with heap:=h0,toks:=tk }:=I.kept (t':=tk) kp;obtain⟨m,F0⟩:=I0.fr;have li:its.length=xs.length:=rv.length.symm;refine Eo (vs:=its) (b:=b) F0 (hW X.base h0 X.env.locals) (by omega) hs2 hs3 fun D kS e1 h1 F1 N1 hDk hD=>?_;have nD:=N1 (D,seqObj "list" #[] e1) (.tail _ (.head _));have nK:=N1 (kS,seqObj "list" #[] 0) (.head _);have hds:h0.get? D=none:=by
  cases g:h0.get? D with
  |none=>rfl
  |some o=>exact absurd (hD (D,o) (cJ g nD.2.1 nD.2.2)) (YM _)
 have hks:h0.get? kS=none:=by
  cases g:h0.get? kS with
  |none=>rfl
  |some o=>exact absurd (Nat.lt_trans hDk (hD (kS,o) (cJ g nK.2.1 nK.2.2))) (YM _)
 have xk:=I0.exOk hks nK.2.1 nK.2.2;have xd:=I0.exOk hds nD.2.1 nD.2.2;have hlx:∀b∈[kS,D],ExOk X b:=fun b' hb=>by
  simp only[Zs,ZY,YI]at hb;rcases hb with rfl|rfl
  ·exact xk
  ·exact xd
 have fpk:=I0.fpW (l:=[kS,D]) (by simp) xk hks;have fpd:=I0.fpW (l:=[kS,D]) (by simp) xd hds;have mv0:∀b u,b≠X.env.locals->b∉([]:List Addr)->h0.get? b=some u->h1.get? b=some u:=fun b u hL _ g=>by
  cases qb:X.base.get? b with
  |none=>exact(N1 (b,u) (.tail _ (.tail _ (cJ g hL qb)))).1
  |some o =>have e':=I0.bk b o qb;rw[g]at e';cases e';exact F1.keep b u qb
 have I1:Inv X pins σ H { s with heap:=h1,toks:=tk }:=Inv.movedF (ch:=[]) (s:={ s with heap:=h0,toks:=tk }) (t':=tk) I0 (fun b hb=>absurd hb (by simp)) mv0 ⟨m,F0.ns,F1.ns⟩;have I2:=I1.widen hlx;have hkd:kS≠D:=Yg hDk;refine nI (X:=wX X [kS,D]) (H1:=H) (D:=D) (e1:=e1) (ks:=ks) (xs:=xs) (its:=its) hkd rv hl (F _) spec (fun as us e2 H' s' S la=>?_) its [] [] 0 H { s with heap:=h1,toks:=tk } ⟨I2,Same.refl H,fpk,fpd,nK.2.2,nD.2.2,nK.1,nD.1,F1.ns,.nil,fun i a k h=>by simp at h⟩ (by simp) (by simpa using li);have hN:its.length=xs.length:=li;have lu:us.length=xs.length:=by rw[<-S.vals.length,la]
 have rvR:Vals (katRev b xs) (katRev b its):=uf b rv;have lR:(katRev b xs).length=xs.length:=kat_len b xs;have gk:∀i,i<xs.length->∃(v:V) (u:Value) (k:ZKey),RelV v u/\(katRev b us).getD i Value.none=u/\k∈ks/\(katRev b (ks.map ZKey.nums)).getD i []=k.nums/\k.at H' v:=fun i hi=>by
  obtain⟨j,hj,e1⟩:∃j,j<xs.length/\∀{α:Type} (l:List α),l.length=xs.length->(katRev b l)[i]?=l[j]?:=by
   cases b with
   |false=>exact⟨i,hi,fun l _=>rfl⟩
   | true=>exact⟨xs.length - 1 - i,by omega,fun l hl'=>by
     show l.reverse[i]?=_;rw[List.getElem?_reverse (by omega),hl']⟩
  have h1:as[j]?=some (as[j]'(by omega)):=Zd (by omega);have h2:ks[j]?=some (ks[j]'(by omega)):=Zd (by omega);obtain⟨u,gu,ru⟩:=S.vals.get h1;refine⟨_,u,_,ru,?_,ZA (show j<ks.length by omega),?_,S.keys j _ _ h1 h2⟩
  ·rw[Zf,e1 us lu,gu];rfl
  ·rw[Zf,e1 (ks.map ZKey.nums) (by rw[Zb,hl]),ZB,h2];rfl
 have fin:∀p:Array Nat,POk xs.length p->p.size=xs.length/\LS (fun i j=>HT.lexLt ((katRev b (ks.map ZKey.nums)).getD i []) ((katRev b (ks.map ZKey.nums)).getD j [])) p xs.length ->
   KatFin X.base X.env.locals m kS D us e2 e1 (katRev b (p.toList.map fun i=>(katRev b its).getD i Value.none)) (fun s4=>EP X pins σ Q (.ref D) s4) s':=fun p hp hs=>by
  refine KatFin.intro (news:=(kS,seqObj "list" (List.toArray us) e2)::ge X.base s'.heap X.env.locals kS) S.fr (gH S.hk S.fk.2.1 S.bk) (.head ja) fun h3 c F3 N3=>?_;have mv3:=gG (fun b' o qb=>S.I.bk b' o qb) F3 N3;have hd3:h3.get? D=some (seqObj "list" #[] e1):=mv3 D _ S.fd.2.1 (fun zz=>hkd (Zo.mp zz).symm) S.hd;refine KasFin.intro (news:=(D,seqObj "list" #[] e1)::ge X.base h3 X.env.locals D) (s:={ s' with heap:=h3 }) F3 (gH hd3 S.fd.2.1 S.bd) (.head ja) fun h4 c4 F4 N4=>?_;have mv4:=gG (fun b' o qb=>F3.keep b' o qb) F4 N4;have hch:∀b∈[kS,D],bv (wX X [kS,D]) pins H' b:=fun b' hb=>by
   simp only[Zs,ZY,YI]at hb;rcases hb with rfl|rfl
   ·exact S.fk
   ·exact S.fd
  have mv:∀b u,b≠X.env.locals->b∉[kS,D]->s'.heap.get? b=some u->h4.get? b=some u:=fun b' u hL hx g=>mv4 b' u hL (fun zz=>hx (by rw[Zo.mp zz];simp)) (mv3 b' u hL (fun zz=>hx (by rw[Zo.mp zz];simp)) g);have pl:∀i∈p.toList,i<xs.length:=fun i hi=>by have:=(hp.mem_iff).mp (Array.mem_toList_iff.mp hi);simpa using this
  have vals:∀(w:List Nat),(∀i∈w,i<xs.length)->Vals (w.map fun i=>(katRev b xs).getD i .non) (w.map fun i=>(katRev b its).getD i Value.none):=fun w=>by
   induction w with
   |nil=>intro _;exact .nil
   |cons i w ih =>intro hw;have hi:=hw i Z9;have hx:(katRev b xs)[i]?=some ((katRev b xs)[i]'(by omega)):=Zd (by omega);obtain⟨u,gu,ru⟩:=rvR.get hx;refine .cons ?_ (ih fun j hj=>hw j (ZC _ hj));show RelV ((katRev b xs).getD i V.non) ((katRev b its).getD i Value.none);rw[Zf,Zf,hx,gu];exact ru
  have lp:p.toList.length=xs.length:=by have:=hs.1;simpa using this
  have new:ObjOk X.prog X.w (upd H' D (.lst (katRev b (p.toList.map fun i=>(katRev b xs).getD i .non)))) h4 D (.lst (katRev b (p.toList.map fun i=>(katRev b xs).getD i .non))):=⟨by rw[kat_len,Zb,lp];exact eU (by omega),_,c4,uf b (vals _ pl),(N4 _ (.head _)).1⟩
  have I4:=Inv.tookF (X:=wX X [kS,D]) (ch:=[kS,D]) (a:=D) (o:=.lst (katRev b (p.toList.map fun i=>(katRev b xs).getD i .non))) (t':=s'.toks) S.I (by simp) hch mv ⟨m,S.ns,F4.ns⟩ new;exact⟨.ref D,_,I4.narrow I.ok (fun b' hb=>(hlx b' hb).old),rfl,q p H' D hp hs.2 S.sm S.fd.1⟩
 have go:∀κ:SortKind,(∀(i j:Nat) (C:Bool->Shared->Prop),i<xs.length->j<xs.length->C (HT.lexLt ((katRev b (ks.map ZKey.nums)).getD i []) ((katRev b (ks.map ZKey.nums)).getD j [])) s'->kas_ask X.prog X.w X.A.in1.in1 κ (katRev b us) i j C s') ->
   ZGo X.prog X.w X.A.in1.in1 b us its (fun out=>KatFin X.base X.env.locals m kS D us e2 e1 out (fun s4=>EP X pins σ Q (.ref D) s4)) κ s':=fun κ hask=>by
  refine⟨_,yU (katRev b (ks.map ZKey.nums)),?_,?_⟩
  ·rw[hN];exact hask
  ·rw[hN];exact fun p hp hs=>fin p hp ⟨by have:=hp.size_eq;simpa using this,hs⟩
 refine⟨fun n2=>?_,fun n2=>?_⟩
 rotate_left
 ·have:=fin (List.toArray (List.range its.length)) (by rw[hN];exact Array.Perm.refl _) ⟨by simpa using hN,fun i j h1 h2=>by omega⟩;rw[Xd]at this;exact this
 rcases hne with hI|hB
 ·refine kas_kind (T:=.type "int") (by omega) (fun u hu=>?_) rfl rfl (go _ fun i j C hi hj hC=>?_)
  ·obtain⟨j,hj,rfl⟩:=List.getElem_of_mem hu;have h1:as[j]?=some (as[j]'(by omega)):=Zd (by omega);have h2:ks[j]?=some (ks[j]'(by omega)):=Zd (by omega);obtain⟨u,gu,ru⟩:=S.vals.get h1;have ky:=S.keys j _ _ h1 h2;obtain⟨n',en⟩:=hI _ (ZA (show j<ks.length by omega));rw[en]at ky;rw[show as[j]'(by omega)=V.int n' from ky]at ru;obtain⟨t,rfl⟩:=ru;rw[Zd hj]at gu;rw[ZE gu];exact .now
  ·obtain⟨v,u,k1,ru,eu,m1,en,at1⟩:=gk i hi;obtain⟨v2,u2,k2,ru2,eu2,m2,en2,at2⟩:=gk j hj;obtain⟨n1,rfl⟩:=hI _ m1;obtain⟨n2,rfl⟩:=hI _ m2;rw[show v=V.int n1 from at1]at ru;rw[show v2=V.int n2 from at2]at ru2;obtain⟨t,rfl⟩:=ru;obtain⟨t2,rfl⟩:=ru2;unfold kas_ask;rw[eu,eu2];rw[en,en2]at hC;refine kat_lt_int ?_;have e1':HT.lexLt (ZKey.i n1).nums (ZKey.i n2).nums=decide (n1<n2):=vB n1 n2;rw[e1']at hC;exact hC
 ·have tups:∀(vs:List V) (ws:List Value) (n:Nat),Vals vs ws->n+vs.length=ks.length->(∀(i:Nat) (v:V) (k:ZKey),vs[i]?=some v->ks[n+i]?=some k->k.at H' v)->∃fs:List Value,KatTups s'.heap ws fs/\fs.length=ws.length/\∀v∈fs,∃i t,v=.int i t:=fun vs=>by
   induction vs with
   |nil =>intro ws n hv _ _;cases hv;exact⟨[],KatTups.nil,rfl,fun v h=>nomatch h⟩
   |cons v vs ih =>
    intro ws n hv hl' h;cases hv with
    |cons rv1 hv =>
     rw[Zm]at hl';have hkn:ks[n]?=some (ks[n]'(by omega)):=Zd (by omega);obtain⟨ns,en,ne⟩:=hB _ (ZA (show n<ks.length by omega));rw[en]at hkn;obtain⟨a,rfl,ea⟩:=h 0 v _ rfl (by rw[Nat.add_zero];exact hkn);cases rv1;obtain⟨ia,ra,pa,za⟩:=S.I.tuple (SqT.of (K:=X.K) ea);obtain⟨oa,eo,ca,n1,da⟩:=id pa;obtain⟨x,t,ia',rfl⟩:∃x t r,ia=.int x t::r:=by
      cases cH ra with
      |nil=>exact absurd rfl ne
      |cons x t r=>exact⟨x,t,_,rfl⟩
     obtain⟨fs,f1,f2,f3⟩:=ih _ (n+1) hv (by omega) (fun i w k' h1 h2=>h (i+1) w k' h1 (by rw[show n+(i+1)=n+1+i by omega];exact h2));refine⟨.int x t::fs,KatTups.cons eo ca da rfl f1,by rw[Zm,Zm,f2],fun v hv=>?_⟩;rcases Zs.mp hv with rfl|hv
     ·exact⟨_,_,rfl⟩
     ·exact f3 v hv
  obtain⟨fs,t1,t2,t3⟩:=tups as us 0 S.vals (by omega) (fun i v k h1 h2=>S.keys i v k h1 (by rw[Nat.zero_add]at h2;exact h2));refine kat_kind (T:=.type "int") t1 (by omega) (fun v hv=>?_) rfl (go _ fun i j C hi hj hC=>?_)
  ·obtain⟨i,t,rfl⟩:=t3 v hv;exact .now
  ·obtain⟨v,u,k1,ru,eu,m1,en,at1⟩:=gk i hi;obtain⟨v2,u2,k2,ru2,eu2,m2,en2,at2⟩:=gk j hj;obtain⟨n1,rfl,_⟩:=hB _ m1;obtain⟨n2,rfl,_⟩:=hB _ m2;obtain⟨a1,rfl,ha1⟩:=at1;obtain⟨a2,rfl,ha2⟩:=at2;cases ru;cases ru2;obtain⟨ia,ra,pa,za⟩:=S.I.tuple (SqT.of (K:=X.K) ha1);obtain⟨ib,rb,pb,zb⟩:=S.I.tuple (SqT.of (K:=X.K) ha2);obtain⟨oa,eoa,ca,q1,da⟩:=id pa;obtain⟨ob,eob,cb,q2,db⟩:=id pb;unfold kas_ask;rw[eu,eu2];rw[en,en2]at hC;exact kat_lt eoa da eob db (kX _ _ _ _ 0 (cH ra) (cH rb) (by rw[Zj,Zj,<-ra.length,<-rb.length,Zb,Zb]) hC)
end
open PySem PySem.Spec PyProof.Rows PySem.W
def Ih(j:Int)(t u v:Tok):Obj:={ cls:=.type "range",data:=.fields #[.int 0 t,.int j u,.int 1 v] }
def SrcH(H:Hp)(l:Addr)(xs:List V):Prop:=H l=some (.lst xs)\/∃(n:Nat) (t u v:Tok),n<=4096/\H l=some (fc l (Ih (n:Int) t u v))/\xs=(List.range n).map fun i:Nat=>V.int (i:Int)
section
variable{X:Cx}{pins:List (Addr×Obj)}{σ:St}{H:Hp}{s:Shared}
theorem vU{l:Addr}{xs:List V}(hc:X.calm=true)(I:Inv X pins σ H s)(h:SrcH H l xs)(hz:xs.length<=4096):AL X s l xs:=by
 rcases h with h|⟨n,t,u,v,hn,h,rfl⟩
 ·exact Ai I h hz
 ·intro Q hq;have hr:IsRange s.heap l 0 (n:Int) 1 t u v:=(I.hok l _ h).1;have hh:X.A.in1.handled=none:=I.ok.hd hc;have h1:Builtin.Range.rangeSize 0 (n:Int) 1=((n:Nat):Int):=by rw[rangeSize_one];split<;>omega
  refine oy hh hr (small_one (by omega) (by omega) (by omega) (by omega)) h1 (by omega) fun h' tk acc kp hI=>hq h' tk acc.toList kp ?_;have go:∀(its:List Value) (k:Nat),(∀(i:Nat) (v:Value),its[i]?=some v->∃t,v=.int ((k+i:Nat):Int) t)->Vals ((List.range' k its.length).map fun i:Nat=>V.int (i:Int)) its:=by
   intro its;induction its with
   |nil=>intro k _;exact .nil
   |cons x its ih =>
    intro k hx;obtain⟨t,rfl⟩:=hx 0 x rfl;rw[Zm,List.range'_succ,Z0];refine .cons ⟨t,?_⟩ (ih (k+1) fun i v hv=>?_)
    ·rfl
    ·obtain⟨t,e⟩:=hx (i+1) v hv;exact⟨t,by rw[e];congr 2;omega⟩
  have e:=go acc.toList 0 fun i v hv=>by obtain⟨t,e⟩:=hI.2 i v (by rw[<-hv,Xj]);refine⟨t,by rw[e];congr 1;omega⟩
  rw[Zh,hI.1]at e;rw[List.range_eq_range'];exact e
end
def Ao(sp:Hp->List V->Hp->VK->Prop)(sm:Hp->Hp->Prop)(end':Hp->Prop)(H:Hp)(xs:List V)(ks:List ZKey)(Q:VK):Prop :=
 xs.length<=4096/\ks.length=xs.length/\xV ks /\
 (∀(i:Nat) (v:V) (key:ZKey) (H':Hp),xs[i]?=some v->ks[i]?=some key->sm H H'->∀R:VK,(∀kv H'',Same H' H''->key.at H'' kv->R kv H'')->sp H' [v] H' R) /\
 ∀(p:Array Nat) (H2:Hp) (D:Addr),POk xs.length p->LS (fun i j=>HT.lexLt ((ks.map ZKey.nums).getD i []) ((ks.map ZKey.nums).getD j [])) p xs.length->sm H H2->end' H2->H2 D=none->Q (.ref D) (upd H2 D (.lst (p.toList.map fun i=>xs.getD i .non)))
def Ef(sp:Sp)(ta:TA):TE:=fun σ H0 Q=>ta σ H0 fun vs H=>∃(l:Addr) (xs:List V) (ks:List ZKey),vs=[.ref l]/\SrcH H l xs/\Ao (fun _ vs H Q=>sp vs H Q E0) Same (fun _=>True) H xs ks Q
def Eg(P:Addr)(q:Str)(lpos:Pos)(sp:Sp)(ta:TA):TE:=fun σ H0 Q=>ta σ H0 fun vs H=>∃(l:Addr) (xs:List V) (ks:List ZKey),vs=[.ref l]/\SrcH H l xs/\aI q P lpos H/\Ao (fun _ vs H Q=>sp vs H Q E0) (SameT P) (aI q P lpos) H xs ks Q
theorem SrcH.moved{P:Addr}{q:Str}{lpos:Pos}{H H2:Hp}{l:Addr}{xs:List V}(h:SrcH H l xs)(tab:aI q P lpos H)(s:SameT P H H2):SrcH H2 l xs:=by
 obtain⟨ps,tP,_⟩:=tab;rcases h with h|⟨n,t,u,v,hn,h,e⟩
 ·exact .inl (s _ _ h fun z=>by rw[z,tP]at h;cases h)
 ·have hne:l≠P:=fun z=>by rw[z,tP]at h;cases h
  exact .inr ⟨n,t,u,v,hn,s _ _ h hne,e⟩
section
variable{X:Cx}{c P:Addr}{pins:List (Addr×Obj)}{σ:St}
theorem BK{k:Nat}{fx x:Str}{sp:Sp}{e:Expr}{ta:TA}{p fp kpos pos:Pos}(hc:X.calm=true)(hm:X.mg "sorted" = none)(F:Fn X.prog X.w X.K X.mg X.base k fx [x] sp)(hr:Room (k+2) X.A)(ha:QA X [e] ta)(hg:Gl X "sorted":=by rfl)(hgf:Gl X fx:=by rfl)(hn:aR e=true:=by rfl)(hdb:(fx==("__debug__":Str))=false:=by decide):QE X (.Call (.Name "sorted" p) [e] [⟨some "key",.Name fx fp,kpos⟩] pos) (Ef sp ta):=by refine⟨?_⟩;intro pins s σ H0 Q I h;obtain⟨f,fd,F1,m1,kp,bn⟩:=F.ex;refine Xg (eG I hg hm PyProof.Rows.boot_sorted ?_);have h1:=aU (es:=[]) (env:=X.env) hn;refine PyProof.Rows.callWith_kw (thn (ha.h pos pins s σ H0 _ I h) fun us s1 hz9=>?_) (he:=by rw[h1];rfl) (hplain:=by rw[h1];rfl) (hall:=rfl) (hkw:=rfl);obtain⟨vs,H1,I1,r1,q1⟩:=hz9;obtain⟨l,xs,ks,rfl,hH,hz,hl,hne,spec,q⟩:=q1;obtain⟨u,rfl,ru⟩:=ce r1;cases ru;have hk:PK X [⟨some "key",.Name fx fp,kpos⟩] (fD (tC (.ref f)) im):=vF (pA hgf m1 rfl hdb) zC;refine thn (hk pos pins s1 σ H1 (fun zs H2=>zs=[.ref f]/\H2=H1) I1 ⟨rfl,rfl⟩) fun ws s2 hz9=>?_;obtain⟨zs,H2,I2,rz,e1,h2e⟩:=hz9;subst e1 h2e;obtain⟨u,rfl,ru⟩:=ce rz;cases ru;exact lq (b:=false) I2 (vU hc I2 hH hz) hz hl hne (ksk_s1 _ _) (fun x=>ksk_l1 _ _) (fun x=>ksk_t1 f x) (vJ F1 (fun s u kin=>bn s [u] kin rfl) (hr.mono (by omega) |>.in1 |>.in1)) spec fun p H3 D a1 a2 a3 a4=>q p H3 D a1 a2 a3 trivial a4
theorem BL{k:Nat}{x:Str}{sp:Sp}{e body:Expr}{params:Arguments}{scope:Scope}{ta:TA}{p lpos kpos pos:Pos}(hc:X.calm=true)(hm:X.mg "sorted" = none)(hcode:X.env.code=.ref c)(C:CodeHd X.base c P)(B:Blt X.base X.mg)(F:LamOk X.prog X.w X.K X.mg X.base k (X.env.qual++"<lambda>") body scope x sp)(hr:Room (k+3) X.A)(ha:QA X [e] ta)(hbd:∀(pm ct:Value) (c':Addr) (s:Shared) (u:Value),BindsTo s (rc (X.env.qual++"<lambda>") params body scope [] pm c' ct) ⟨[u],[]⟩ [(x,u)]:=by intros;exact .of_eq rfl)(hge:X.env.globals=mainGlobals:=by rfl)(hdef:defaultsOf params X.env=([],[]):=by rfl)(hcl:closureFor scope X.env=pure []:=by rfl)(hg:Gl X "sorted":=by rfl)(hn:aR e=true:=by rfl) :
  QE X (.Call (.Name "sorted" p) [e] [⟨some "key",.Lambda params body scope lpos,kpos⟩] pos) (Eg P (X.env.qual++"<lambda>") lpos sp ta):=by
 refine⟨?_⟩;intro pins s σ H0 Q I h;obtain⟨N,S,len,hbody⟩:=F.ex;refine Xg (eG I hg hm PyProof.Rows.boot_sorted ?_);have h1:=aU (es:=[]) (env:=X.env) hn;refine PyProof.Rows.callWith_kw (thn (ha.h pos pins s σ H0 _ I h) fun us s1 hz9=>?_) (he:=by rw[h1];rfl) (hplain:=by rw[h1];rfl) (hall:=rfl) (hkw:=rfl);obtain⟨vs,H1,I1,r1,q1⟩:=hz9;obtain⟨l,xs,ks,rfl,hH,tab,hz,hl,hne,spec,q⟩:=q1;obtain⟨u,rfl,ru⟩:=ce r1;cases ru;have hk:PK X [⟨some "key",.Lambda params body scope lpos,kpos⟩] (fD (xP [] X P params body scope lpos) im):=vF (DB hcode hge C B hdef hcl) zC;refine thn (hk pos pins s1 σ H1 (fun zs H2=>∃f,zs=[.ref f]/\uN X P (X.env.qual++"<lambda>") lpos params body scope [] H1 f H2) I1 (Bd tab fun f H2 mk=>⟨f,rfl,mk⟩)) fun ws s2 hz9=>?_;obtain⟨zs,H2,I2,rz,f,e1,mk⟩:=hz9;subst e1;obtain⟨u,rfl,ru⟩:=ce rz;cases ru;obtain⟨c',ct,sT,lt,hf,hc',nf,nc⟩:=mk;have F1:FnOk X.prog X.w X.K X.mg X.base CX0 (k+1) f (rc (X.env.qual++"<lambda>") params body scope [] ((X.mg "__name__").getD .none) c' ct) [x] _:=EZ (params:=params) (pm:=(X.mg "__name__").getD .none) (ct:=ct) (c':=c') S len fun A outer s H vs Q E hr' hs=>let⟨t,t1,t2⟩:=hbody f c' A outer s H vs Q E hr' hs;⟨t,t1.h,t2⟩
 refine lq (b:=false) I2 (vU hc I2 (hH.moved tab sT) hz) hz hl hne (ksk_s1 _ _) (fun x=>ksk_l1 _ _) (fun x=>ksk_t1 f x) (vJ F1 (fun s u _=>hbd _ _ _ s u) (hr.mono (by omega) |>.in1 |>.in1)) (fun i v key H' g1 g2 g3 R hR=>⟨g3 _ _ hf,g3 _ _ hc',spec i v key H' g1 g2 (sT.trans (.of g3)) R hR⟩) fun p H3 D a1 a2 a3 a4=>q p H3 D a1 a2 (sT.trans (.of a3)) ?_ a4;obtain⟨ps',e1,e2,e3⟩:=lt;exact⟨ps',a3 _ _ e1,e2,e3.imp id fun⟨c'',z1,z2⟩=>⟨c'',z1,a3 _ _ z2⟩⟩
end
open PySem PySem.Spec PyProof.Rows PySem.W
section
variable{prog:Program}{w:World}{A:Around}{E:Value->Shared->Prop}{s:Shared}{d it v:Addr}{es:Array DictEntry}{ep i:Nat}
theorem zJ{Q:Value->Shared->Prop}(hv:s.heap.IsValuesView v d)(hm:DRaw s.heap d es ep)(hQ:Q (.ref s.heap.objs.size) { s with heap:=s.heap.push { cls:=.type "dict_valueiterator",data:=.fields #[.ref d,.int 0 0,.int es.size 0,.int ep 0] } }):wpAny (model prog w) A (pyIter (.ref v)) Q E s:=by
 obtain⟨ov,e1,e2,e3⟩:=id hv;obtain⟨o,f1,f2,f3⟩:=id hm;refine wpAny_pyIter_slot hv.typeIs PySem.F.slot_dict_values_iter (ZR PySem.F.slot_dict_values_iter hv.typeIs PySem.F.entry_dict_values_iter ?_ (PySem.F.args_dict_values_iter_1 _));unfold Builtin.«dict_values.__iter__»;refine z6 (Za (z6 ?_));unfold Builtin.Dict_items.dictOf;refine z6 (Z2 e1 e3 (x:=.ref d) rfl (Za (z6 ?_)));unfold Builtin.Dict_items.newIterator;refine z6 (YR f1 f3 (z6 (wpAny_dictEpoch f1 f3 ?_)));have own:Builtin.Dict_items.ownsTuple "dict_valueiterator" = false:=by decide
 simp only[own,Yz,YY];refine ZQ (Za ⟨_,rfl,"dict_valueiterator",_,⟨_,Zk _ rfl,rfl⟩,Yq.lookup,?_⟩);simpa[rawInt]using hQ
theorem zI{Q:Option Value->Shared->Prop}(hit:s.heap.IsValIter it d i es.size ep)(hm:DRaw s.heap d es ep)(hx:i<es.size)(hQ:∀h',h'.IsValIter it d (i+1) es.size ep->Heap.SameBut it s.heap h'->Q (some es[i].val) { s with heap:=h' }):wpAny (model prog w) A (pyNext (.ref it)) Q E s:=by
 obtain⟨o,ho,hc,hd⟩:=id hit;obtain⟨od,hod,hcd,hdd⟩:=id hm;unfold pyNext;refine z6 (wpAny_attempt (ZS (name:=Str.ofString "__next__") hit.typeIs Yq
  (ZR Yq hit.typeIs PySem.F.entry_dict_valueiterator_next ?_ (PySem.F.args_dict_valueiterator_next_1 _))))
 refine z6 (Za ?_);refine z6 ?_;refine z6 ?_
 first|refine z6 (Xb hit.typeIs (Za ?_))|refine z6 (wpAny_typeNameOf_valiter hit.typeIs (Za ?_))
 refine z6 (wpAny_fieldsOf ho hd ?_);have hown:Builtin.Dict_items.ownsTuple "dict_valueiterator" = false:=by decide
 simp only[hown,Yz,YY];show wpAny _ _ (if(Value.ref d==Value.none)=true then _ else _) _ _ s;rw[Ju (show¬((Value.ref d==Value.none)=true)from Zr)];refine z6 (Za ?_);refine z6 (YR hod hdd ?_);rw[Ju (by simp)];refine z6 (Za ?_);refine z6 (wpAny_dictEpoch hod hdd ?_);rw[Ju (by simp)];refine Za ?_;simp only[show¬((i:Int)<0)from by omega,YY,Z7,Array.getElem?_eq_getElem hx];refine z6 ?_
 first|refine z6 (Xb hit.typeIs (Za ?_))|refine z6 (wpAny_typeNameOf_valiter hit.typeIs (Za ?_))
 refine z6 (wpAny_isOneOf_valiter hit.typeIs ?_);show wpAny _ _ (setField (.ref it) 1 (rawInt ((i:Int)+1)) >>= _) _ _ s;refine z6 (YC ho hd (by simp) ?_);have hit':(s.heap.update it (Obj.mapFields (·.setIfInBounds 1 (rawInt ((i:Int)+1))))).IsValIter it d (i+1) es.size ep :=
  ⟨_,Yi _ ho (Y3 (Ye hd _)),(Obj.cls_mapFields ..).trans hc,by rw[Ye hd];simp[rawInt]⟩
 refine z6 (Z4 ?_);refine z6 (wpAny_isOneOf_valiter (s:={ s with heap:=s.heap.update it (Obj.mapFields (·.setIfInBounds 1 (rawInt ((i:Int)+1)))) }) hit'.typeIs ?_);refine z6 (wpAny_isOneOf_valiter (s:={ s with heap:=s.heap.update it (Obj.mapFields (·.setIfInBounds 1 (rawInt ((i:Int)+1)))) }) hit'.typeIs ?_);show wpAny _ _ (pure es[i].val) _ _ _;exact Za (Za ⟨_,rfl,Za (hQ _ hit' (ZK ..))⟩)
theorem BP{Q:Option Value->Shared->Prop}(hh:A.handled=none)(hit:s.heap.IsValIter it d es.size es.size ep)(hm:DRaw s.heap d es ep)(hQ:∀h',Heap.ExtBut it s.heap h'->Q none { s with heap:=h' }) :
  wpAny (model prog w) A (pyNext (.ref it)) Q E s:=by
 obtain⟨o,ho,hc,hd⟩:=id hit;obtain⟨od,hod,hcd,hdd⟩:=id hm;unfold pyNext;refine z6 (wpAny_attempt (ZS (name:=Str.ofString "__next__") hit.typeIs Yq
  (ZR Yq hit.typeIs PySem.F.entry_dict_valueiterator_next ?_ (PySem.F.args_dict_valueiterator_next_1 _))))
 refine z6 (Za ?_);refine z6 ?_;refine z6 ?_
 first|refine z6 (Xb hit.typeIs (Za ?_))|refine z6 (wpAny_typeNameOf_valiter hit.typeIs (Za ?_))
 refine z6 (wpAny_fieldsOf ho hd ?_);have hown:Builtin.Dict_items.ownsTuple "dict_valueiterator" = false:=by decide
 simp only[hown,Yz,YY];show wpAny _ _ (if(Value.ref d==Value.none)=true then _ else _) _ _ s;rw[Ju (show¬((Value.ref d==Value.none)=true)from Zr)];refine z6 (Za ?_);refine z6 (YR hod hdd ?_);rw[Ju (by simp)];refine z6 (Za ?_);refine z6 (wpAny_dictEpoch hod hdd ?_);rw[Ju (by simp)];refine Za ?_;simp only[show¬((es.size:Int)<0)from by omega,YY,Z7,Array.getElem?_eq_none (Ze _)];refine z6 ?_
 first|refine z6 (Xb hit.typeIs (Za ?_))|refine z6 (wpAny_typeNameOf_valiter hit.typeIs (Za ?_))
 show wpAny _ _ (setField (.ref it) 0 .none >>= _) _ _ s;refine z6 (YC ho hd (by simp) ?_);show wpAny _ _ (newExc (.type "StopIteration") [] >>= _) _ _ _;refine z6 ?_;simp only[newExc,newTuple];refine z6 (ZQ ?_ (by size_fits));refine z6 (m:=firstArgMember _ _) (wpAny_of_eq (a:=Value.none) (by first|rfl|(simp only[firstArgMember];rfl)) ?_);refine ZQ ?_ (by size_fits);simp only[raiseNew];refine z6 (wpAny_handled ?_);rw[show A.in1.handled=none from hh];refine z6 (Za (wpAny_throw ?_));refine z6 (wpAny_isInstance (T:="StopIteration") (b:=true) ⟨_,Zk _ rfl,rfl⟩ isSubtype_stop ?_);exact Za (hQ _ (((ZK ..).extBut.push _).push _))
theorem xB(hh:A.handled=none)(I d:Addr)(hne:d≠I)(es:Array DictEntry)(ep:Nat) :
  Walks prog w A I [I,d] [I] es.size (fun i v=>∃e,es[i]?=some e/\v=e.val) (fun i h=>h.IsValIter I d i es.size ep/\DRaw h d es ep) where
 sub:=fun b hb=>by simp at hb;simp[hb]
 frame:=fun _ _ _ st hk=>⟨let⟨o,ho,r⟩:=st.1;⟨o,hk I (by simp) o ho,r⟩,st.2.at' fun o e=>hk d (by simp) o e⟩
 item:=fun i s Q E hi st hQ=>zI st.1 st.2 hi fun h' hit' hs'=>hQ _ h' s.toks ⟨es[i],by simp[hi],rfl⟩ ⟨hit',st.2.at' fun o e=>hs'.extBut d o hne e⟩ fun b o hb e=>hs'.extBut b o (fun h=>hb (by simp[h])) e
 done:=fun s Q E st hQ=>BP hh st.1 st.2 fun h' he'=>hQ h' s.toks fun b o hb e=>he' b o (fun h=>hb (by simp[h])) e
 self:=fun _ _ _ _ st hQ=>wpAny_pyIter_valiter st.1 hQ
theorem BQ:KdlSrc prog w "dict_values" v d es.size (fun i v=>∃e,es[i]?=some e/\v=e.val) (fun h=>h.IsValuesView v d/\DRaw h d es ep) where
 type:=fun _ hm=>hm.1.typeIs
 there:=fun _ hm=>⟨let⟨_,ho,_⟩:=hm.1;Zn ho,hm.2.lt⟩
 keep:=fun _ _ hm hk=>⟨let⟨o,ho,x⟩:=hm.1;⟨o,hk v (.inl rfl) o ho,x⟩,hm.2.at' fun o e=>hk d (.inr rfl) o e⟩
 notList:=by decide
 notTuple:=by decide
 hint:=fun _ _ _ _ hm hq=>kdl_hint_values hm.1.typeIs hq
 iter:=fun _ _ hh hm=>⟨_,_,(fun _ _ hq=>zJ hm.1 hm.2 hq),xB hh _ d (Zv hm.2.lt) es ep,⟨⟨_,Zk _ rfl,rfl,rfl⟩,hm.2.at' fun o e=>z9 _ e⟩⟩
end
open PySem PySem.Spec PyProof.Rows PySem.W
section
variable{prog:Program}{w:World}{A:Around}{E:Value->Shared->Prop}{s:Shared}
theorem mP{it l:Addr}{i:Nat}{items:Array Value}{x:Value}{Q:Value->Shared->Prop}(hit:s.heap.IsTupleIter it l i)(hl:s.heap.IsTuple l items)(hx:items[i]?=some x)(hQ:∀h',h'.IsTupleIter it l (i+1)->Heap.SameBut it s.heap h'->Q x { s with heap:=h' }):wpAny (model prog w) A (Builtin.SmallTypes.nextOf (.ref it)) Q E s:=by obtain⟨o,ho,hc,hd⟩:=id hit;obtain⟨ol,g1,_,nl,g2⟩:=hl;unfold Builtin.SmallTypes.nextOf;refine z6 (ZS (name:=Str.ofString "__next__") hit.typeIs YZ (ZR YZ hit.typeIs PySem.F.entry_tuple_iterator_next ?_ (PySem.F.args_tuple_iterator_next_1 _)));show wpAny _ _ (field (.ref it) 0 >>= _) _ _ s;refine z6 (Z2 ho hd (x:=.ref l) rfl ?_);show wpAny _ _ (if(Value.ref l==Value.none)=true then _ else _) _ _ s;rw[Ju (show¬((Value.ref l==Value.none)=true)from Zr)];show wpAny _ _ (field (.ref it) 1 >>= _) _ _ s;refine z6 (Z2 ho hd (x:=.int i 0) rfl ?_);show wpAny _ _ (seqItems? (.ref l) >>= _) _ _ s;refine z6 (Y2 g1 g2 ?_);simp only[Z7,hx];refine z6 (YC ho hd (by simp) (Za ⟨x,rfl,Za (hQ _ ⟨_,Yi _ ho (Y3 (Ye hd _)),(Obj.cls_mapFields ..).trans hc,by rw[Ye hd];simp[rawInt]⟩ (ZK ..))⟩))
theorem oW{it l:Addr}{i:Nat}{items:Array Value}{Q:Value->Shared->Prop}(hh:A.handled=none)(hit:s.heap.IsTupleIter it l i)(hl:s.heap.IsTuple l items)(hx:items[i]?=none)(hE:∀h' e,Heap.ExtBut it s.heap h'->(∃o,h'.get? e=some o/\o.cls=.type "StopIteration")->E (.ref e) { s with heap:=h' }):wpAny (model prog w) A (Builtin.SmallTypes.nextOf (.ref it)) Q E s:=by
 obtain⟨o,ho,hc,hd⟩:=id hit;obtain⟨ol,g1,_,nl,g2⟩:=hl;unfold Builtin.SmallTypes.nextOf;refine z6 (ZS (name:=Str.ofString "__next__") hit.typeIs YZ (ZR YZ hit.typeIs PySem.F.entry_tuple_iterator_next ?_ (PySem.F.args_tuple_iterator_next_1 _)));show wpAny _ _ (field (.ref it) 0 >>= _) _ _ s;refine z6 (Z2 ho hd (x:=.ref l) rfl ?_);show wpAny _ _ (if(Value.ref l==Value.none)=true then _ else _) _ _ s;rw[Ju (show¬((Value.ref l==Value.none)=true)from Zr)];show wpAny _ _ (field (.ref it) 1 >>= _) _ _ s;refine z6 (Z2 ho hd (x:=.int i 0) rfl ?_);show wpAny _ _ (seqItems? (.ref l) >>= _) _ _ s;refine z6 (Y2 g1 g2 ?_);simp only[Z7,hx];refine z6 (YH (z6 (YC ho hd (by simp) ?_)));show wpAny _ _ (newExc (.type "StopIteration") [] >>= _) _ _ _;refine z6 ?_;simp only[newExc,newTuple];refine z6 (ZQ ?_ (by size_fits));refine z6 (m:=firstArgMember _ _) (wpAny_of_eq (a:=Value.none) (by first|rfl|(simp only[firstArgMember];rfl)) ?_);refine ZQ ?_ (by size_fits);simp only[raiseNew];refine z6 (wpAny_handled ?_)
 first|rw[show A.in1.handled=none from hh]|rw[hh]
 refine z6 (Za (wpAny_throw ?_));exact hE _ _ (((ZK ..).extBut.push _).push _) ⟨_,Zk _ rfl,rfl⟩
theorem yt(hh:A.handled=none)(it l:Addr)(hne:l≠it)(items:Array Value):Draws prog w A it [it,l] items.size (fun i v=>items[i]?=some v) (fun i h=>h.IsTupleIter it l i/\h.IsTuple l items) where
 live:=fun _ _ st=>let⟨o,ho,_⟩:=st.1;⟨o,ho⟩
 frame:=fun _ _ _ st hk=>⟨let⟨o,ho,r⟩:=st.1;⟨o,hk it (by simp) o ho,r⟩,let⟨o,ho,r⟩:=st.2;⟨o,hk l (by simp) o ho,r⟩⟩
 item:=fun i s Q E hi st hQ=>mP st.1 st.2 (x:=items[i]) (by simp[hi]) fun h' hit' hs'=>hQ _ h' s.toks (by simp[hi]) ⟨hit',st.2.extBut hs'.extBut hne⟩ hs'
 done:=fun s Q E st hE=>oW hh st.1 st.2 (by simp) hE
open PySem.AutoSeq1 (wpAny_loadPart')in
theorem uw(l:Addr)(items:Array Value)(n:Nat)(dct:Option Addr)(sl:Array (Option Value)) :
  Meets (Builtin.«enumerate.__new__» ⟨[.type "enumerate",.ref l],[]⟩) (fun _ R s=>s.heap.get? l=some { cls:=.type "tuple",dict:=dct,data:=.seq items n,slots:=sl } /\
   R (.ok (.ret (.ref (s.heap.push { cls:=.type "tuple_iterator",data:=.fields #[.ref l,.int 0 0] }).objs.size)))
    { s with heap:=(s.heap.push { cls:=.type "tuple_iterator",data:=.fields #[.ref l,.int 0 0] }).push { cls:=.type "enumerate",data:=.fields #[.none,.bool false,.ref s.heap.objs.size,rawInt 0,.none,.none] } }) :=
 .of_wp fun prog w A R s h=>by
  obtain⟨hp,g,d,tk,os⟩:=s;obtain⟨hl,h⟩:=h;have hsub:=sub_enumerate;have hL:Heap.IsTuple (Shared.heap ⟨hp,g,d,tk,os⟩) l items:=⟨_,hl,rfl,n,rfl⟩
  wp_walk using wpAny_loadPart' hl
  refine wpAny_stack_any fun st=>Za ?_;split
  ·rename_i c _ _ _ _ _;cases(c==Value.type "enumerate")
   ·wp_walk using wpAny_loadPart' hl,Xf hL
    exact⟨_,rfl,h⟩
   ·wp_walk using wpAny_loadPart' hl,Xf hL
    exact⟨_,rfl,h⟩
  ·wp_walk using wpAny_loadPart' hl,Xf hL
   exact⟨_,rfl,h⟩
theorem wz{l:Addr}{items:Array Value}{Q:Value->Shared->Prop}(hL:IsTup s.heap l items)(h:∀h',IsEnum h' (s.heap.objs.size+1) s.heap.objs.size 0 .none->h'.IsTupleIter s.heap.objs.size l 0->h'.objs.size=s.heap.objs.size+2->(∀b o,s.heap.get? b=some o->h'.get? b=some o)->Q (.ref (s.heap.objs.size+1)) { s with heap:=h' }) :
  wpAny (model prog w) A (call (.type "enumerate") [.ref l]) Q E s:=by
 obtain⟨⟨c,dct,dt,sl⟩,hl,hc,n,hd⟩:=hL
 replace hc:c=.type "tuple":=hc
 replace hd:dt=.seq items n:=hd
 subst hc hd;refine callType_new PySem.F.called_enumerate (by decide) (PySem.F.typeCall_enumerate_1 _) (PySem.F.newCall_enumerate_1 _) (fun obj=>PySem.F.args_object_init_2 obj _) PySem.F.entry_enumerate_new (uw l items n dct sl) ⟨hl,?_⟩;have hz:(s.heap.push { cls:=.type "tuple_iterator",data:=.fields #[.ref l,.int 0 0] }).objs.size=s.heap.objs.size+1:=Y0 ..;show _/\_;rw[hz];have he:IsEnum ((s.heap.push { cls:=.type "tuple_iterator",data:=.fields #[.ref l,.int 0 0] }).push { cls:=.type "enumerate",data:=.fields #[.none,.bool false,.ref s.heap.objs.size,rawInt 0,.none,.none] }) (s.heap.objs.size+1) s.heap.objs.size 0 .none:=by have:=Zk (s.heap.push { cls:=.type "tuple_iterator",data:=.fields #[.ref l,.int 0 0] }) (o:={ cls:=.type "enumerate",data:=.fields #[.none,.bool false,.ref s.heap.objs.size,rawInt 0,.none,.none] }) rfl;rw[hz]at this;exact this
 refine⟨⟨_,he,rfl⟩,h _ he ⟨_,z9 _ (Zk _ rfl),rfl,rfl⟩ (by rw[Y0,hz]) fun b o x=>z9 _ (z9 _ x)⟩
end
def ItT(K:PySem.W.Frag)(a:Addr)(xs:List V):It :=
 ⟨fun i H=>i<xs.length/\SqT K H a xs,fun i H x H'=>∃T p,H T=none/\xs[i]?=some p/\x=.ref T/\H'=upd H T (.tup [.int i,p]),fun i H=>i=xs.length/\SqT K H a xs⟩
abbrev eTt(e it a:Addr):Nat->Heap->Prop:=fun i h=>(∃old,IsEnum h e it i old)/\h.IsTupleIter it a i
theorem xR{P:Program}{w:World}{K:PySem.W.Frag}{elts:List Expr}{kt:Nat}{tp:Pos}{e it a:Addr}{xs:List V}(ne:e≠it)(ha:e≠a/\it≠a) :
  Turn P w K (.Tuple elts kt tp) (ItT K a xs) [e,it] e (eTt e it a):=by
 refine⟨by simp,fun i h st c hc=>?_,fun i h h' st k=>?_,?_,?_,fun A i s Q E st h=>?_⟩
 ·obtain⟨⟨old,e1⟩,⟨o4,e4,_,d4⟩⟩:=st;simp only[Zs,ZY,YI]at hc;rcases hc with rfl|rfl
  ·exact⟨_,e1,fun v z=>nomatch z⟩
  ·exact⟨_,e4,fun v z=>by rw[d4]at z;cases z⟩
 ·obtain⟨⟨old,e1⟩,⟨o4,e4,r4⟩⟩:=st;exact⟨⟨old,k e (by simp) _ e1⟩,⟨o4,k it (by simp) _ e4,r4⟩⟩
 ·intro X hP hw hK hc i pins s σ H E I hf st hg;subst hP hw hK;obtain⟨⟨old,e1⟩,e4⟩:=st;obtain⟨hi,hx⟩:=hg;obtain⟨its,rx,px,zx⟩:=I.tuple hx;have lx:i<its.toArray.size:=by rw[Zj,<-rx.length];exact hi
  have hh:=I.ok.hd hc;refine wpAny_pyNext_enum_itemD (yt (A:=X.A.in1) hh it a ha.2.symm its.toArray) e1 ⟨e4,px⟩ lx ne (by simp[ne,ha.1]) fun x h' tk qx ho hs' hT hsz hk=>?_;refine⟨_,rfl,wpAny_letOwnedTupleGo_enum (s:={ s with heap:=h',toks:=tk+1 }) ho fun h2 he2 sb=>?_⟩;obtain⟨xv,ex⟩:∃xv,xs[i]?=some xv:=⟨xs[i],by simp[hi]⟩
  obtain⟨x',gx,rxv⟩:=rx.get ex;have qx':its[i]?=some x:=by simpa using qx
  rw[gx]at qx';cases qx';have lte:e<s.heap.objs.size:=Zn e1;have kp2:∀c o,c∉[e,it]->s.heap.get? c=some o->h2.get? c=some o:=fun c o hc q=>by simp only[Zs,ZY,YI,not_or]at hc;exact sb.extBut c o hc.1 (hk c o hc.1 hc.2 q)
  have tT:IsTup h2 s.heap.objs.size [.int i tk,x].toArray:=⟨_,sb.extBut _ _ (Yg lte) hT,rfl,_,rfl⟩
  refine⟨.ref s.heap.objs.size,upd H s.heap.objs.size (.tup [.int i,xv]),I.turnT (t':=tk+1) hf kp2 tT (.cons ⟨tk,rfl⟩ (.cons rxv .nil)) (sz rfl),rfl,⟨_,xv,I.hok.fresh (Ze _),ex,rfl,rfl⟩,?_,fun c hc=>?_⟩
  ·exact⟨⟨_,by simpa using he2⟩,hs'.1.extBut sb.extBut ne.symm⟩
  ·rw[ad]
   ·exact(hf c hc).1
   ·obtain⟨o,eo⟩:∃o,s.heap.get? c=some o:=by
     simp only[Zs,ZY,YI]at hc;rcases hc with rfl|rfl
     ·exact⟨_,e1⟩
     ·obtain⟨o,eo,_⟩:=e4;exact⟨o,eo⟩
    exact Zv (Zn eo)
 ·intro X hP hw hK hc i pins s σ H E I hf st hg;subst hP hw hK;obtain⟨⟨old,e1⟩,e4⟩:=st;obtain⟨rfl,hx⟩:=hg;obtain⟨its,rx,px,zx⟩:=I.tuple hx;have lx:its.toArray.size=xs.length:=by rw[Zj,<-rx.length]
  have hh:=I.ok.hd hc;refine wpAny_pyNext_enum_endD (yt (A:=X.A.in1) hh it a ha.2.symm its.toArray) e1 ⟨by rw[lx];exact e4,px⟩ fun h' kp=>⟨rfl,?_⟩
  exact I.turnM (t':=s.toks) hf fun c ob hc q=>by simp only[Zs,ZY,YI,not_or]at hc;exact kp c ob hc.2 q
 ·obtain⟨⟨old,e1⟩,_⟩:=st;exact wpAny_pyIter_enum e1 h
def yK(K:PySem.W.Frag)(ta:TA):TI:=fun σ H R=>ta σ H fun vs H1=>∃a xs,vs=[.ref a]/\H1 a=some (.tup xs)/\R (ItT K a xs) H1
section
variable{X:Cx}
theorem BD{e1:Expr}{ta:TA}{p pos tp:Pos}{elts:List Expr}{kt:Nat}(hg:Gl X "enumerate")(hm:X.mg "enumerate" = none)(ha:PA X [e1] ta)(n1:aR e1=true):PI X (.Tuple elts kt tp) (.Call (.Name "enumerate" p) [e1] [] pos) (yK X.K ta):=by
 intro pins s σ H R I h;refine Call_ (eG I hg hm boot_enumerate (YT (thn (ha pos pins s σ H _ I h) fun us s1 hz9=>?_) (aU n1) (bz (by simp))));obtain⟨vs,H1,I1,r1,q1⟩:=hz9;obtain⟨a,xs,e,hx,q⟩:=q1;subst e;obtain⟨ua,rfl,ra⟩:=ce r1;cases ra;obtain⟨its,rx,pa,zz⟩:=I1.tuple (SqT.of (K:=X.K) hx);obtain⟨oo,eo,_⟩:=id pa;have la:a<s1.heap.objs.size:=Zn eo;refine wz pa fun h' he hl hz hk=>wpAny_pyIter_enum he ?_;refine⟨s1.heap.objs.size+1,[s1.heap.objs.size+1,s1.heap.objs.size],eTt (s1.heap.objs.size+1) s1.heap.objs.size a,_,H1,rfl,I1.kept (t':=s1.toks) hk,xR (Nat.succ_ne_self _) ⟨Yg (Xl la),Yg la⟩,⟨⟨_,he⟩,hl⟩,fun c hc=>?_,q⟩;have hc':s1.heap.objs.size<=c:=by
  simp only[Zs,ZY,YI]at hc;rcases hc with rfl|rfl
  ·exact Nat.le_succ _
  ·exact Ze _
 exact I1.fpOk hc' (I1.hok.fresh hc')
theorem C4{e1:Expr}{ta:TA}{p pos tp:Pos}{elts:List Expr}{kt:Nat}(hm:X.mg "enumerate" = none)(ha:QA X [e1] ta)(hg:Gl X "enumerate":=by rfl)(n1:aR e1=true:=by rfl):QI X (.Tuple elts kt tp) (.Call (.Name "enumerate" p) [e1] [] pos) (yK X.K ta):=⟨BD hg hm ha.h n1⟩
end
theorem yC{K:PySem.W.Frag}{a:Addr}{xs:List V}{i j:Nat}{tb:TS}{D:Ends}{σ:St}{H:Hp}(Pv:Nat->St->Hp->Prop)(h0:Pv 0 σ H)(ha:∀i σ H,i<=xs.length->Pv i σ H->SqT K H a xs)(hs:∀k x σ H,xs[k]?=some x->Pv k σ H->∀T,H T=none->tb { D with nx:=Pv (k+1),ct:=Pv (k+1),bk:=D.nx } ((σ.set i (some (.int k))).set j (some x)) (upd H T (.tup [.int k,x])))(hd:∀σ H,Pv xs.length σ H->D.nx σ H) :
  ∃W:Nat->Nat->St->Hp->Prop,(∃m,W 0 m σ H)/\∀k m σ H,W k m σ H ->
   ((ItT K a xs).stop k H/\D.nx σ H)\/((ItT K a xs).go k H/\∃N:St->Hp->Prop,(∀σ' H',N σ' H'->∃m',m'<m/\W (k+1) m' σ' H')/\∀x H',(ItT K a xs).yld k H x H'->lK K 2 (fB (bw i) (fB (bw j) lJ)) x σ H' fun σ2 H2=>tb { D with nx:=N,ct:=N,bk:=D.nx } σ2 H2):=by
 refine⟨fun k m σ H=>m=xs.length-k/\k<=xs.length/\Pv k σ H,⟨xs.length,by simp,ZT _,h0⟩,?_⟩;rintro k m σ H ⟨rfl,hk,pv⟩;by_cases hlt:k<xs.length
 ·refine .inr ⟨⟨hlt,ha k σ H hk pv⟩,Pv (k+1),fun σ' H' z=>⟨xs.length-(k+1),by omega,rfl,hlt,z⟩,fun x H' y=>?_⟩;obtain⟨T,p,hT,hx,rfl,rfl⟩:=y;exact⟨T,[.int k,p],rfl,SqT.of af,rfl,.int k,[p],rfl,p,[],rfl,rfl,hs k p σ H hx pv T hT⟩
 ·have e:k=xs.length:=by omega
  subst e;exact .inl ⟨⟨rfl,ha _ σ H hk pv⟩,hd σ H pv⟩
def kN(d:Addr):Obj:={ cls:=.type "dict_values",data:=.fields #[.ref d] }
def Ht(td:TE):TE:=fun σ H Q=>td σ H fun x H1=>∃a kvs,x=.ref a/\H1 a=some (.dT kvs)/\∀v,H1 v=none->Q (.ref v) (upd H1 v (fc v (kN a)))
section
variable{X:Cx}{o:Expr}{td:TE}{apos cpos:Pos}
theorem zG(ho:QE X o td)(hbase:attributeBase o "values" X.env (eval o X.env)=eval o X.env:=by rfl)(hline:(apos.endLine==cpos.line)=true:=by rfl):QE X (.Call (.Attribute o "values" apos) [] [] cpos) (Ht td):=by refine⟨?_⟩;intro pins s σ H Q I h;refine wpAny_Call_method0_late hbase hline (thn (ho.h pins s σ H _ I h) fun v s1 hz9=>?_);obtain⟨x,H1,I1,r1,a,kvs,e,hd,q1⟩:=hz9;subst e;cases r1;obtain⟨t1,t2,_⟩:=yL I1 (.inr ⟨kvs,.inl hd⟩);obtain⟨z,ns,xs,rel,ob,es,ep,g1,g2,g3,_⟩:=fS I1.hok (.inl hd);refine⟨"dict","dict.values",PySem.F.plainAttrs_dict,PySem.F.slot_dict_values,PySem.F.type_dict_values,t1,t2,Calls.callWith_builtin rfl (PySem.evalArgs_none ?_)⟩;refine ZR PySem.F.slot_dict_values t1 PySem.F.entry_dict_values ?_ (PySem.F.args_dict_values_1 _);refine z6 ?_;unfold Builtin.Dict.noArgs;refine z6 (wpAny_notOrdered_dict t1 ?_);show wpAny _ _ (pure a) _ _ s1;refine Za ?_;show wpAny _ _ (Builtin.Dict.showsAll a >>= _) _ _ s1;unfold Builtin.Dict.showsAll;rw[Ju (by rw[ns];exact Zr)];refine z6 (Za (z6 (ZQ (Za ⟨_,rfl,?_⟩))));exact⟨.ref _,_,I1.laid (t':=s1.toks) (fun b o e=>z9 _ e) (Ze _) (oQ (Zk _ rfl)),rfl,q1 _ (I1.hok.fresh (Ze _))⟩
theorem wC(hc:X.calm=true):df X (.type "list") (fun xs H Q=>∃v a kvs,xs=[.ref v]/\H v=some (fc v (kN a))/\H a=some (.dT kvs)/\∀l,H l=none->Q (.ref l) (upd H l (.lst (kvs.map (·.2))))):=by
 intro pins s σ H xs us Q I r h;obtain⟨v,a,kvs,rfl,hv,hq,q⟩:=h;obtain⟨u,rfl,rx⟩:=ce r;cases rx;obtain⟨z,hd,xs,rel,o,es,ep,h1,h2,h3,h4,_,_⟩:=fS I.hok (.inl hq);have hsz:es.size=xs.length:=size_of_entries h4;have hkl:kvs.length=xs.length:=YL rel;have vv:s.heap.IsValuesView v a:=⟨_,(I.hok v _ hv).1,rfl,rfl⟩
 refine kdl_call (BQ (es:=es) (ep:=ep)) (I.ok.hd hc) ⟨vv,⟨o,h1,h2,h3⟩⟩ (by omega) fun h' tk acc' c' kp e hacc=>?_;have ev:Vals (kvs.map (·.2)) acc'.toList:=by
  have gen:∀(vs:List Value) (ys:List (List Key×Addr×Value)) (ks:List (List Key×V)),KT H ks ys->vs.length=ys.length->(∀(j:Nat) (v:Value),vs[j]?=some v->∃x:List Key×Addr×Value,ys[j]?=some x/\v=x.2.2)->Vals (ks.map (·.2)) vs:=by
   intro vs;induction vs with
   |nil =>
    intro ys ks rl hl _;cases ys with
    |nil=>cases rl;exact .nil
    |cons _ _=>cases hl
   |cons v vs ih =>
    intro ys ks rl hl hv;cases ys with
    |nil=>cases hl
    |cons y ys =>
     cases rl with
     |cons hy rl =>obtain⟨x,e1,e2⟩:=hv 0 v rfl;cases e1;rw[e2];exact .cons hy.2.2 (ih ys _ rl (by simpa using hl) fun j v' e'=>hv (j+1) v' (by simpa using e'))
  refine gen _ _ _ rel (by rw[Zh,hacc.1,hsz]) fun j v e'=>?_;obtain⟨en,e1,e2⟩:=hacc.2 j v (by rw[<-Xj];exact e');rw[entry_at h4]at e1;obtain⟨x,e3,e4⟩:=Ys.mp e1;refine⟨x,e3,?_⟩;rw[e2,<-e4];rfl
 exact⟨.ref s.heap.objs.size,_,I.laid (t':=tk) kp (Ze _) (show ObjOk X.prog X.w _ h' _ (.lst (kvs.map (·.2)))from⟨by rw[Zb];omega,acc'.toList,c',ev,by simpa using e⟩),rfl,q _ (I.hok.fresh (Ze _))⟩
theorem uW(hc:X.calm=true):QCall X (.type "list") (fun xs H Q=>∃v a kvs,xs=[.ref v]/\H v=some (fc v (kN a))/\H a=some (.dT kvs)/\∀l,H l=none->Q (.ref l) (upd H l (.lst (kvs.map (·.2))))):=⟨wC hc⟩
end
open PySem PySem.Spec PyProof.Rows PySem.W
section
variable{X:Cx}
def EJ(K:PySem.W.Frag)(n:Nat)(t:TGs):TG:=fun v σ H Q=>∃a xs,v=.ref a/\SqL K H a xs/\xs.length=n/\t xs σ H Q
theorem Fz{es:List Expr}{k:Nat}{t:TGs}{n:Nat}{pos:Pos}(hc:X.calm=true)(h:PGs X es t)(hn:(assignEach es X.env).length=n:=by rfl)(hst:(assignEach es X.env).findIdx? (·.1)=none:=by rfl):PG X (.Tuple es k pos) (EJ X.K n t):=by
 intro pins s σ H v u Q I r hw;obtain⟨a,xs,e1,hq,hl,hw⟩:=hw;subst e1;cases r;obtain⟨its,rv,⟨o,n',e,c1,c2,d1⟩,hz⟩:=I.list hq;have il:s.heap.IsList a its.toArray:=⟨o,e,c1,n',d1⟩
 rw[PyProof.Rows.assign_Tuple];refine z6 (wpAny_standAt ?_);unfold unpack;rw[show(assignEach es X.env).length=its.toArray.size by simp[hn,<-hl,rv.length],hst];refine z6 (Z4 (PySem.W.kun_itemsOf (I.ok.hd hc) il fun h' hx=>?_));have I1:Inv X pins σ H { s with heap:=h' }:=I.kept (t':=s.toks) fun b o e=>hx b o (Zv (Zn e)) e;exact h pins _ σ H xs _ Q I1 (by simpa using rv) hw
theorem GR{es:List Expr}{k n:Nat}{gs:TGs}{pos:Pos}(hc:X.calm=true)(h:QGs X es gs)(hn:(assignEach es X.env).length=n:=by rfl)(hst:(assignEach es X.env).findIdx? (·.1)=none:=by rfl):QG X (.Tuple es k pos) (EJ X.K n gs):=⟨Fz hc h.h hn hst⟩
end
end L2
set_option maxHeartbeats 4000000
namespace PySem
open Sem (wp)
section
variable{prog:Program}{w:World}{K:Type}[DecidableEq K]{knd:KeyKind prog w K}
structure PairAt(knd:KeyKind prog w K)(h:Heap)(p:Addr×List K×Addr×Value):Prop where
 tup:∃o n,h.get? p.1=some o/\o.cls=.type "tuple"/\o.data=.seq #[.ref p.2.2.1,p.2.2.2] n
 key:IsTupleKey knd h p.2.1 p.2.2.1
variable{A:Around}{R:Result->Shared->Prop}
end
end PySem
namespace L2
open PySem PySem.Spec PyProof.Rows PySem.W
open PySem PySem.Spec PyProof.Rows PySem.W
open PySem PySem.Spec PyProof.Rows PySem.W
def ItD(o:Obj)(a:Addr):It where
 go:=fun i H=>∃kvs,H a=some (.frz o (.dT kvs))/\i<kvs.length
 yld:=fun i H x H'=>H'=H/\∀kvs,H a=some (.frz o (.dT kvs))->∃p b,kvs[i]?=some p/\x=.ref b/\H b=some (.tup (p.1.map kV))
 stop:=fun i H=>∃kvs,H a=some (.frz o (.dT kvs))/\kvs.length<=i
theorem EX{H:Hp}{kvs:List (List Key×V)}{xs:List (List Key×Addr×Value)}(r:KT H kvs xs):∀{i:Nat} {x:List Key×Addr×Value},xs[i]?=some x->∃p,kvs[i]?=some p/\H x.2.1=some (.tup (p.1.map kV)):=by
 induction r with
 |nil=>intro i x h;simp at h
 |@cons p q _ _ h _ ih =>
  intro i x e;cases i with
  |zero=>cases e;exact⟨p,rfl,h.2.1⟩
  |succ i=>exact ih e
theorem yE{P:Program}{w:World}{H:Hp}{h:Heap}{a:Addr}{o:Obj}{kvs:List (List Key×V)}(ok:HOk P w H h)(e:H a=some (.frz o (.dT kvs))) :
  (a==sysModules)=false/\∃xs es ep,KT H kvs xs/\h.get? a=some o/\o.ExactDict/\o.data=.dict es ep/\es.toList=xs.map (entryOfKey (tupleKind (bO P w)))/\kvs.length=es.size:=by
 obtain⟨ho,z,y,xs,r,o',es,ep,h1,h2,h3,h4,h5⟩:=(show ObjOk P w H h a (.frz o (.dT kvs))from ok a _ e)
 rw[ho]at h1;cases h1;exact⟨y,xs,es,ep,r,ho,h2,h3,h4,(YL r).trans (size_of_entries h4).symm⟩
theorem Aq{P:Program}{w:World}{K:PySem.W.Frag}{tg:Expr}(o:Obj)(a it:Addr):Turn P w K tg (ItD o a) [it] it (fun i h=>∃es ep,o.data=.dict es ep/\i<=es.size/\h.IsKeyIter it a i es.size ep) where
 mem:=by simp
 obj:=fun i h st b hb=>by
  have e:b=it:=by simpa using hb
  subst e;obtain⟨es,ep,_,_,o,e,c,d⟩:=st;exact⟨o,e,fun v z=>by rw[d]at z;cases z⟩
 keep:=fun i h h' st k=>by obtain⟨es,ep,h1,h2,h3⟩:=st;exact⟨es,ep,h1,h2,h3.at fun o e=>k it (by simp) o e⟩
 item:=by
  intro X hP hw hK hc i pins s σ H E I hf st hg;subst hP hw hK;obtain⟨kvs,hq,hx⟩:=hg;obtain⟨es,ep,sd,sl,st⟩:=st;obtain⟨lo,xs,es',ep',r,ho,hx2,hd,h4,hl⟩:=yE I.hok hq;rw[sd]at hd;cases hd;obtain⟨f0,f1,f2,f3,f4,f5⟩:=hf it (by simp);have hi:i<es.size:=by omega
  refine tj st ⟨o,ho,hx2,sd⟩ hi fun h' st' sb=>?_;have I1:Inv X pins σ H { s with heap:=h' }:=I.turned (t':=s.toks) (fun b o hb e=>(sb.2 b hb).trans e) f0 f1 f3 f4 f5;obtain⟨oi,e,c,d⟩:=id st';have hxs:i<xs.length:=by rw[<-size_of_entries h4];exact hi
  have hk:es[i].key=Value.ref xs[i].2.1:=by have e1:=entry_at h4 (j:=i);rw[Zd hxs,Array.getElem?_eq_getElem hi]at e1;have e2:=ZE e1;rw[e2];rfl
  obtain⟨p,hp,hb⟩:=EX r (Zd hxs);refine⟨_,rfl,mF (s:={ s with heap:=h' }) e c d (by decide) ⟨.ref xs[i].2.1,H,I1,hk,⟨rfl,fun kvs' hy=>?_⟩,⟨es,ep,sd,by omega,st'⟩,fun b hb=>(hf b hb).1⟩⟩;rw[hq]at hy;cases hy;exact⟨p,xs[i].2.1,hp,rfl,hb⟩
 done:=by
  intro X hP hw hK hc i pins s σ H E I hf st hg;subst hP hw hK;obtain⟨kvs,hq,hx⟩:=hg;obtain⟨es,ep,sd,sl,st⟩:=st;obtain⟨lo,xs,es',ep',r,ho,hx2,hd,h4,hl⟩:=yE I.hok hq;rw[sd]at hd;cases hd;obtain⟨f0,f1,f2,f3,f4,f5⟩:=hf it (by simp);obtain rfl:i=es.size:=by omega
  exact vH (I.ok.hd hc) st ⟨o,ho,hx2,sd⟩ fun h' eb=>⟨rfl,I.turned (t':=s.toks) (fun b o hb e=>eb b o hb e) f0 f1 f3 f4 f5⟩
 self:=fun _ _ _ _ _ st h=>by obtain⟨es,ep,h1,h2,h3⟩:=st;exact wpAny_pyIter_keyiter h3 h
section
variable{X:Cx}{tg:Expr}
theorem Inv.freeze{pins:List (Addr×Obj)}{σ:St}{H:Hp}{s:Shared}{a:Addr}{o:Obj}{kvs:List (List Key×V)}(I:Inv X pins σ H s)(hq:H a=some (.dT kvs))(ho:s.heap.get? a=some o):Inv X pins σ (upd H a (.frz o (.dT kvs))) s :=
 I.write (x:=a) (e:=a) (h':=s.heap) (t':=s.toks) (by rw[hq];exact True.intro) (.inl rfl) (fun b u _ e=>e) ⟨o,ho⟩
  ⟨ho,ObjOk.stay (show ObjOk X.prog X.w H s.heap a (.dT kvs) from I.hok a _ hq) (fun b u _ e=>e) (fun b e=>by
   rw[ad fun z=>by rw[z,hq]at e;cases e];exact e) fun b xs e=>by
   rw[ad fun z=>by rw[z,hq]at e;cases e];exact e⟩
def EM(tl:TE):TI:=fun σ H R=>tl σ H fun x H1=>∃a kvs,x=.ref a/\H1 a=some (.dT kvs)/\∀o,R (ItD o a) (upd H1 a (.frz o (.dT kvs)))
theorem FC{l:Expr}{tl:TE}(hl:PE X l tl):PI X tg l (EM tl):=by
 intro pins s σ H R I h;refine thn (hl pins s σ H _ I h) fun v s1 hz9=>?_;obtain⟨x,H1,I1,r1,q1⟩:=hz9;obtain⟨a,kvs,e,hq,q⟩:=q1;subst e;cases r1;obtain⟨z,lo,xs,r,o,es,ep,h1,h2,h3,h4,h5⟩:=(show ObjOk X.prog X.w H1 s1.heap a (.dT kvs)from I1.hok a _ hq)
 refine tm lo ⟨o,h1,h2,h3⟩ ?_;have I2:=I1.freeze hq h1;refine⟨s1.heap.objs.size,[s1.heap.objs.size],_,_,_,rfl,I2.kept (t':=s1.toks) fun b o e=>z9 _ e,Aq o a _,⟨es,ep,h3,ZT _,_,Zk _ rfl,rfl,rfl⟩,fun b hb=>?_,q o⟩;have e:b=s1.heap.objs.size:=by simpa using hb
 subst e;exact I2.fpOk (Ze _) (I2.hok.fresh (Ze _))
theorem Inv.thaw{pins:List (Addr×Obj)}{σ:St}{H:Hp}{s:Shared}{a:Addr}{o:Obj}{u:HO}(I:Inv X pins σ H s)(hq:H a=some (.frz o u))(h0:∀o' u',X.H₀ a≠some (.frz o' u'))(ht:∀xs,X.H₀ a≠some (.tup xs))(hb:∀ps,X.H₀ a≠some (.tbl ps)) :
  Inv X pins σ (upd H a u) s:=by
 have hn:∀b,H b=none->upd H a u b=none:=fun b e=>by rw[ad fun z=>by rw[z,hq]at e;cases e];exact e
 refine⟨I.ok,I.os,I.bare,⟨I.base.keep,I.base.slot,fun b ob e1 e2 e3=>hn _ (I.base.free b ob e1 e2 e3),I.base.there,fun b xs e=>?_,fun b ob v e=>?_,fun b ps e=>?_⟩,I.loc,I.cell,hn _ I.free,fun x c e=>hn _ (I.freeC x c e),
  fun p hp=>?_,fun b v e=>?_,I.len⟩
 ·rw[ad fun(z:b=a)=>ht xs (by rw[<-z];exact e)];exact I.base.tups b xs e
 ·rw[ad fun(z:b=a)=>h0 ob v (by rw[<-z];exact e)];exact I.base.frzs b ob v e
 ·rw[ad fun(z:b=a)=>hb ps (by rw[<-z];exact e)];exact I.base.tbls b ps e
 ·obtain⟨p1,p2,p3⟩:=I.pin p hp;exact⟨p1,hn _ p2,p3⟩
 ·have st:∀ {c:Addr} {v:HO},ObjOk X.prog X.w H s.heap c v->ObjOk X.prog X.w (upd H a u) s.heap c v:=fun x=>ObjOk.stay x (fun b u _ e=>e) (fun b e=>by
   rw[ad fun z=>by rw[z,hq]at e;cases e];exact e) fun b xs e=>by
   rw[ad fun z=>by rw[z,hq]at e;cases e];exact e
  by_cases c:b=a
  ·subst c;rw[af]at e;cases e;exact st (show ObjOk X.prog X.w H s.heap b (.frz o _)from I.hok b _ hq).2
  ·rw[ad c]at e;exact st (I.hok b v e)
theorem gT{l:Expr}{te:TE}(hl:QE X l te):QI X tg l (EM te):=⟨FC hl.h⟩
def Loose(H:Hp)(a:Addr):Prop:=(∀o' u',H a≠some (.frz o' u'))/\(∀xs,H a≠some (.tup xs))/\∀ps,H a≠some (.tbl ps)
theorem Loose.dt{H:Hp}{a:Addr}{kvs:List (List Key×V)}(h:H a=some (.dT kvs)):Loose H a:=⟨fun _ _ z=>(by rw[h]at z;cases z),fun _ z=>(by rw[h]at z;cases z),fun _ z=>(by rw[h]at z;cases z)⟩
theorem Loose.non{H:Hp}{a:Addr}(h:H a=none):Loose H a:=⟨fun _ _ z=>(by rw[h]at z;cases z),fun _ z=>(by rw[h]at z;cases z),fun _ z=>(by rw[h]at z;cases z)⟩
def Hs(H0:Hp)(t:TE):TE:=fun σ H Q=>t σ H fun v H'=>∃a o u,H' a=some (.frz o u)/\Loose H0 a/\Q v (upd H' a u)
theorem sZ{e:Expr}{t:TE}(h:QE X e t):QE X e (Hs X.H₀ t):=⟨fun pins s σ H Q I q=>thn (h.h pins s σ H _ I q) fun v s1 ⟨x,H1,I1,r1,a,o,u,e1,l,q1⟩=>⟨x,_,I1.thaw e1 l.1 l.2.1 l.2.2,r1,q1⟩⟩
end
theorem lH{a:Addr}{o:Obj}{kvs:List (List Key×V)}{j:Nat}{tb:TS}{D:Ends}{σ:St}{H:Hp}(Pv:Nat->St->Hp->Prop)(h0:Pv 0 σ H)(hl:∀i σ H,i<=kvs.length->Pv i σ H->H a=some (.frz o (.dT kvs)))(hs:∀i p b σ H,kvs[i]?=some p->H b=some (.tup (p.1.map kV))->Pv i σ H->∀D':Ends,(∀σ' H',Pv (i+1) σ' H'->D'.nx σ' H')->D'.rt=D.rt->tb D' (σ.set j (some (.ref b))) H)(hd:∀σ H,Pv kvs.length σ H->D.nx σ H) :
  ∃W:Nat->Nat->St->Hp->Prop,(∃m,W 0 m σ H)/\∀i m σ H,W i m σ H ->
   ((ItD o a).stop i H/\D.nx σ H)\/((ItD o a).go i H/\∃N:St->Hp->Prop,(∀σ' H',N σ' H'->∃m',m'<m/\W (i+1) m' σ' H')/\∀x H',(ItD o a).yld i H x H'->bw j x σ H' fun σ2 H2=>tb { D with nx:=N,ct:=N,bk:=D.nx } σ2 H2):=by
 refine⟨fun i m σ H=>m=kvs.length-i/\i<=kvs.length/\Pv i σ H,⟨kvs.length,by simp,ZT _,h0⟩,?_⟩;rintro i m σ H ⟨rfl,hi,p⟩;have q:=hl i σ H hi p;by_cases hlt:i<kvs.length
 ·refine .inr ⟨⟨kvs,q,hlt⟩,Pv (i+1),fun σ' H' p'=>⟨kvs.length-(i+1),by omega,rfl,hlt,p'⟩,fun x H' y=>?_⟩;obtain⟨e,y⟩:=y;subst e;obtain⟨pr,b,e1,rfl,e2⟩:=y kvs q;exact hs i pr b σ _ e1 e2 p _ (fun _ _ z=>z) rfl
 ·have e:i=kvs.length:=by omega
  subst e;exact .inl ⟨⟨kvs,q,Ze _⟩,hd σ H p⟩
theorem gP{a:Addr}{o:Obj}{kvs:List (List Key×V)}{n:Nat}{cap:List Nat}{g:TG}{tc:TT}{te:TE}{σ:St}{H0:Hp}{Q:VK}(Pv:Nat->List V->Hp->Prop)(hz:kvs.length<=1000)(hn:∀i ys H,Pv i ys H->ys.length<=i)(h0:Pv 0 [] H0)(hl:∀i ys H,Pv i ys H->H a=some (.frz o (.dT kvs)))(ht:∀i ys H p b,kvs[i]?=some p->H b=some (.tup (p.1.map kV))->Pv i ys H->∀Y:List V->Hp->Prop,(∀zs H4,Pv (i+1) zs H4->Y zs H4)->g (.ref b) (be n cap σ) H fun σ2 H2=>tc σ2 H2 fun b H3=>if b=true then te σ2 H3 fun y H4=>Y (ys++[y]) H4 else Y ys H3)(hq:∀ys p H,Pv kvs.length ys H->H p=none->Q (.ref p) (upd H p (.lst ys))):bV n cap g tc te σ (ItD o a) H0 Q:=by
 refine⟨fun i m ys H=>m=kvs.length-i/\i<=kvs.length/\Pv i ys H,⟨kvs.length,by simp,ZT _,h0⟩,?_⟩;rintro i m ys H ⟨rfl,hi,pv⟩;have q:=hl i ys H pv;by_cases hlt:i<kvs.length
 ·refine .inr ⟨⟨kvs,q,hlt⟩,?_,fun x H' y=>?_⟩
  ·have:=hn i ys H pv;exact Yn (ZZ this (by omega)) (show 1000<sizeLine by decide)
  ·obtain⟨e,y⟩:=y;subst e;obtain⟨pr,b,e1,rfl,e2⟩:=y kvs q;exact ht i ys _ pr b e1 e2 pv (fun ys H4=>∃m',m'<kvs.length-i/\m'=kvs.length-(i+1)/\i+1<=kvs.length/\Pv (i+1) ys H4) fun zs H4 z=>⟨kvs.length-(i+1),by omega,rfl,hlt,z⟩
 ·have e:i=kvs.length:=by omega
  subst e;exact .inl ⟨⟨kvs,q,Ze _⟩,fun p hp=>hq ys p H pv hp⟩
open PySem PySem.Spec PyProof.Rows PySem.W
open PySem PySem.Spec PyProof.Rows PySem.W
section
variable{X:Cx}{pins:List (Addr×Obj)}{σ:St}{H:Hp}{s:Shared}
theorem mL{A:Around}{E:Value->Shared->Prop}{P:PySem.Fin->Shared->Prop}{a:Addr}{n:Nat}{vs:List Value}(h2:vs.length<2)(ho:s.heap.get? a=some (seqObj "list" vs.toArray n))(h:∀(h3:Heap) (c:Nat),(∀b u,b≠a->s.heap.get? b=some u->h3.get? b=some u)->h3.get? a=some (seqObj "list" vs.toArray c)->P (.done (.ret .none)) { s with heap:=h3 }) :
  wpAny (model X.prog X.w) A (Builtin.«list.sort» ⟨[.ref a],[]⟩) P E s:=by
 have zs:vs.toArray.size<=sizeLine:=by rw[Zj,sizeLine_eq];omega
 have s1:=ZK s.heap a (Obj.mapSeq fun _=>(#[]:Array Value));obtain⟨e1,ho1⟩:∃e1,(s.heap.update a (Obj.mapSeq fun _=>(#[]:Array Value))).get? a=some (seqObj "list" #[] e1):=⟨_,get?_update_seq ho fun _=>#[]⟩
 have ha3:(((s.heap.update a (Obj.mapSeq fun _=>(#[]:Array Value))).push (seqObj "tuple" vs.toArray 0)).push (seqObj "list" #[] 0)).get? a=some (seqObj "list" #[] e1):=z9 _ (z9 _ ho1);have kp:∀b u,b≠a->s.heap.get? b=some u->(((s.heap.update a (Obj.mapSeq fun _=>(#[]:Array Value))).push (seqObj "tuple" vs.toArray 0)).push (seqObj "list" #[] 0)).get? b=some u:=fun b u hb g=>z9 _ (z9 _ ((s1.2 b hb).trans g));rw[list_sort_plain];refine z6 (listItems_at ho rfl ?_);refine z6 (listUpdate_at ho rfl ?_ zs (ZT _));refine z6 (seqEpoch_at ho1 rfl ?_);refine z6 (wpAny_newTuple ?_ zs);refine z6 (wpAny_newList ?_ (ZT _));refine Z4 ?_;show wpAny (model X.prog X.w) A _ P E { s with heap:=((s.heap.update a (Obj.mapSeq fun _=>(#[]:Array Value))).push (seqObj "tuple" vs.toArray 0)).push (seqObj "list" #[] 0) };generalize((s.heap.update a (Obj.mapSeq fun _=>(#[]:Array Value))).push (seqObj "tuple" vs.toArray 0)).push (seqObj "list" #[] 0)=h1 at ha3 kp ⊢;dsimp only;have hn2:vs.toArray.size<2:=by rw[Zj];exact h2
 rw[Jv hn2,Jv hn2];refine z6 (Za ?_);rw[StateT.run_pure];refine z6 (Za ?_);dsimp only;have em:Array.map (fun x=>x.snd) (arrOf (SortSt.mk' general' (vs.toArray.zip vs.toArray) #[] 7 none))=vs.toArray:=by show Array.map (fun x:Value×Value=>x.2) (vs.toArray.zip vs.toArray)=_;apply Array.toList_inj.mp;rw[Array.toList_map,Array.toList_zip];exact List.map_snd_zip (Ze _)
 rw[em];have s2:=ZK h1 a (Obj.mapSeq fun _=>vs.toArray);obtain⟨c2,hc2⟩:∃c2,(h1.update a (Obj.mapSeq fun _=>vs.toArray)).get? a=some (seqObj "list" vs.toArray c2):=⟨_,get?_update_seq ha3 fun _=>vs.toArray⟩
 refine z6 (seqEpoch_at ha3 rfl ?_);refine z6 (listUpdate_at ha3 rfl ?_ (ZT _) (YS zs));simp only[bne_self_eq_false,Yz,YY];exact Za (h _ c2 (fun b u hb g=>(s2.2 b hb).trans (kp b u hb g)) hc2)
theorem tM{l:Addr}{xs:List V}{Q:VK}(I:Inv X pins σ H s)(hH:H l=some (.lst xs))(h2:xs.length<2)(q:∀D:Addr,H D=none->Q (.ref D) (upd H D (.lst xs))) :
  wpAny (model X.prog X.w) X.A (call (.builtin "sorted") [.ref l]) (EP X pins σ Q) X.xe s:=by
 obtain⟨z,its,n,rv,hlen,e⟩:=I.lstM hH;have li:its.length=xs.length:=hlen.symm;have zs:its.toArray.size<=sizeLine:=by rw[Zj,sizeLine_eq];omega
 refine Calls.call_function_entry kind_sorted plain_sorted entry_sorted (args_sorted1 _) ?_;unfold Builtin.«sorted»;refine z6 (m:=checkCount "sorted" 1 1 _) (Za (z6 (collect_list ⟨_,e,rfl,n,rfl⟩ (z6 (wpAny_newList ?_ zs)) zs)));have z1:((s.heap.push (seqObj "list" #[] 0)).update s.heap.objs.size (Obj.mapSeq (·++its.toArray))).objs.size=s.heap.objs.size+1:=by rw[Heap.size_update,size_push']
 have g1:(((s.heap.push (seqObj "list" #[] 0)).update s.heap.objs.size (Obj.mapSeq (·++its.toArray))).push (seqObj "list" its.toArray 0)).get? (s.heap.objs.size+1)=some (seqObj "list" its.toArray 0):=by rw[<-z1];exact Zk _ rfl
 have kp:∀b o,s.heap.get? b=some o->(((s.heap.push (seqObj "list" #[] 0)).update s.heap.objs.size (Obj.mapSeq (·++its.toArray))).push (seqObj "list" its.toArray 0)).get? b=some o:=fun b o g=>by have lt:=Zn g;rw[Heap.get?_push_ne _ _ _ (by rw[z1];exact Zv (Xl lt)),Heap.get?_update_ne _ _ _ _ (Zv lt),Heap.get?_push_ne _ _ _ (Zv lt)];exact g
 show wpAny _ _ _ _ _ { s with heap:=((s.heap.push (seqObj "list" #[] 0)).update s.heap.objs.size (Obj.mapSeq (·++its.toArray))).push (seqObj "list" its.toArray 0) };rw[z1];generalize(((s.heap.push (seqObj "list" #[] 0)).update s.heap.objs.size (Obj.mapSeq (·++its.toArray))).push (seqObj "list" its.toArray 0))=hA at g1 kp ⊢;refine z6 (Z4 (ZR slot_list_sort ⟨_,g1,rfl⟩ entry_list_sort ?body (args_list_sort _)))
 case body =>
  refine mL (X:=X) (s:={ s with heap:=hA }) (by omega) g1 fun h3 c k3 a3=>⟨_,rfl,Za ⟨_,rfl,?_⟩⟩
  have da:s.heap.get? (s.heap.objs.size+1)=none:=Y5 (Nat.le_succ _);exact⟨.ref _,_,I.laid (t':=s.toks) (o:=.lst xs) (fun b o g=>k3 b o (fun zz=>by rw[zz,da]at g;cases g) (kp b o g)) (Nat.le_succ _) ⟨z,its,c,rv,a3⟩,rfl,q _ (none_of I da)⟩
def Gv(H0:Hp)(t:TS):TS:=fun D σ H=>t { D with nx:=fun σ' H'=>∃a o u,H' a=some (.frz o u)/\Loose H0 a/\D.nx σ' (upd H' a u) } σ H
theorem jQ{st:Stmt}{t:TS}(h:QS X st t):QS X st (Gv X.H₀ t):=⟨fun pins s σ H D I q=>thn (h.h pins s σ H _ I q) fun f s1 z=>by
 cases f with
 |next =>obtain⟨σ',H',I1,a,o,u,e1,l,q1⟩:=z;exact⟨σ',_,I1.thaw e1 l.1 l.2.1 l.2.2,q1⟩
 |brk=>exact z
 |cont=>exact z
 | ret u=>exact z⟩
theorem qA{K:PySem.W.Frag}{k:Nat}(hK:X.K=K)(hr:Room k X.A):QOp X (compareOp .NotIn) (BM K true):=by subst hK;exact Bk hr
theorem FU{K:PySem.W.Frag}{e:Expr}{f:Str}{ta:TE}{pos:Pos}(hK:X.K=K)(he:QE X e ta)(hb:attributeBase e f X.env (eval e X.env)=eval e X.env:=by rfl):QE X (.Attribute e f pos) (BX K ta f):=by subst hK;exact dJ he hb
theorem uX:QCall X (.builtin "sorted") (fun xs H Q=>∃ (p:Addr) (as:List Addr) (ks:List (List Int)),xs=[.ref p]/\H p=some (.lst (as.map V.ref))/\as.length<64/\ks.length=as.length/\(∀ k∈ks,k≠[])/\(∀ (i:Nat) (a:Addr) (k:List Int),as[i]? = some a->ks[i]? = some k->H a=some (.tup (k.map V.int))) /\
  ∀ (pm:Array Nat) (D:Addr),POk as.length pm->LS (fun i j=>HT.lexLt (ks.getD i []) (ks.getD j [])) pm as.length->H D=none->Q (.ref D) (upd H D (.lst (pm.toList.map fun i=>(as.map V.ref).getD i .non)))):=by
 refine⟨?_⟩;intro pins s σ H xs us Q I r h;obtain⟨p,as,ks,rfl,hp,h64,hl,hne,hk,q⟩:=h;obtain⟨u,rfl,ru⟩:=ce r;cases ru;by_cases h2:as.length<2
 ·refine tM I hp (by rw[Zb];exact h2) fun D hD=>?_;have e:((List.range as.length).toArray.toList.map fun i=>(as.map V.ref).getD i V.non)=as.map V.ref:=by refine List.ext_getElem (by simp) fun i h1 h2=>?_;rw[Zb]at h2;simp[h2]
  have:=q (List.range as.length).toArray D (Array.Perm.refl _) (fun i j hij hj=>by omega) hD;rw[e]at this;exact this
 obtain⟨z,its,n,rv,hlen,e⟩:=I.lstM hp;rw[Zb]at hlen;have eits:its=as.map Value.ref:=by
  clear e z hlen hp hk q hl h2 h64;induction as generalizing its with
  |nil=>cases rv;rfl
  |cons a as ih =>
   cases rv with
   |cons r1 r2 =>cases r1;rw[ih _ r2];rfl
 subst eits;obtain⟨m,F0⟩:=I.fr;refine kat_sorted (vs:=as.map Value.ref) F0 (hW X.base s.heap X.env.locals) ⟨_,e,rfl,n,rfl⟩ (by rw[Zb];omega) (by rw[Zb];omega) fun D e1 h1 F1 N1 hD=>?_;have mv0:∀b u,b≠X.env.locals->b∉([]:List Addr)->s.heap.get? b=some u->h1.get? b=some u:=fun b u hL _ g=>by
  cases qb:X.base.get? b with
  |none=>exact(N1 (b,u) (.tail _ (cJ g hL qb))).1
  |some o =>have e':=I.bk b o qb;rw[g]at e';cases e';exact F1.keep b u qb
 have I1:Inv X pins σ H { s with heap:=h1 }:=Inv.movedF (ch:=[]) (t':=s.toks) I (fun b hb=>absurd hb (by simp)) mv0 ⟨m,F0.ns,F1.ns⟩;obtain⟨fs,t1,t2,t3⟩:=sq I1 hne as 0 (by omega) (fun i a k h1 h2=>hk i a k h1 (by rw[Nat.zero_add]at h2;exact h2));refine kat_kind (T:=.type "int") t1 (by omega) (fun v hv=>?_) rfl ?_
 ·obtain⟨i,t,rfl⟩:=t3 v hv;exact .now
 rw[Zb];refine vq (n:=as.length) (lt:=fun i j=>HT.lexLt (ks.getD i []) (ks.getD j [])) (fun i j C hi hj hC=>?_) (fun pm hpm hs=>?_) (Bb (by omega)) (Da (yU ks) (by omega))
 ·have ga:∀i,i<as.length->∃a:Addr,(as.map Value.ref).getD i Value.none=.ref a/\H a=some (.tup ((ks.getD i []).map V.int)):=fun i hi=>by
   have h1:as[i]?=some (as[i]'(by omega)):=Zd (by omega);have h2:ks[i]?=some (ks[i]'(by omega)):=Zd (by omega);refine⟨as[i]'(by omega),?_,?_⟩
   ·rw[Zf,ZB,h1];rfl
   ·have:=hk i _ _ h1 h2;rw[Zf,h2];exact this
  obtain⟨a,ea,ha⟩:=ga i hi;obtain⟨b,eb,hb'⟩:=ga j hj;obtain⟨ia,ra,pa,za⟩:=I1.tuple (SqT.of (K:=X.K) ha);obtain⟨ib,rb,pb,zb⟩:=I1.tuple (SqT.of (K:=X.K) hb');obtain⟨oa,eoa,ca,n1,da⟩:=id pa;obtain⟨ob,eob,cb,n2,db⟩:=id pb;unfold kas_ask;rw[ea,eb];exact kat_lt eoa da eob db (kX _ _ _ _ 0 (cH ra) (cH rb) (by rw[Zj,Zj,<-ra.length,<-rb.length,Zb,Zb]) hC)
 ·have hDL:D≠X.env.locals:=(N1 (D,seqObj "list" #[] e1) (.head _)).2.1;have hDs:s.heap.get? D=none:=by
   cases g:s.heap.get? D with
   |none=>rfl
   |some o=>exact absurd (hD (D,o) (cJ g hDL (N1 (D,seqObj "list" #[] e1) (.head _)).2.2)) (YM _)
  have pl:∀i∈pm.toList,i<as.length:=fun i hi=>by have:=(hpm.mem_iff).mp (Array.mem_toList_iff.mp hi);simpa using this
  have vals:∀(w:List Nat),(∀i∈w,i<as.length)->Vals (w.map fun i=>(as.map V.ref).getD i .non) (w.map fun i=>(as.map Value.ref).getD i Value.none):=fun w=>by
   induction w with
   |nil=>intro _;exact .nil
   |cons i w ih =>intro hw;have hi:=hw i Z9;refine .cons ?_ (ih fun j hj=>hw j (ZC _ hj));show RelV ((as.map V.ref).getD i V.non) ((as.map Value.ref).getD i Value.none);rw[Zf,Zf,ZB,ZB,Zd hi];rfl
  have lp:pm.toList.length=as.length:=by have:=hs.1;simpa using this
  refine KasFin.intro (news:=(D,seqObj "list" #[] e1)::nh X.base s.heap X.env.locals) F1 N1 (.head fun p hp=>Zv (hD p hp)) fun h2 c F2 N2=>?_;refine⟨.ref D,_,I.laidF (o:=.lst (pm.toList.map fun i=>(as.map V.ref).getD i .non)) (t':=s.toks) (fun b o hL g=>?_) ⟨m,F0.ns,F2.ns⟩ hDs ⟨by rw[Zb,lp];exact de (by omega),_,c,vals _ pl,(N2 (D,_) (.head _)).1⟩,rfl,q pm D hpm hs.2 (none_of I hDs)⟩;cases q:X.base.get? b with
  |none=>exact(N2 (b,o) (.tail _ (cJ g hL q))).1
  |some o' =>have e':=I.bk b o' q;rw[g]at e';cases e';exact F2.keep b o q
end
open PySem PySem.Spec PyProof.Rows PySem.W
section
variable{prog:Program}{w:World}{K:Type}[DecidableEq K]{knd:HeapKind prog w K}{A:Around}{E:Value->Shared->Prop}{s:Shared}
theorem nE{d a:Addr}{xs:List (K×Addr×Value)}{k:K}{v:Value}{Q:Value->Shared->Prop}(hu:knd.room A)(hkey:knd.is s.heap k a)(hm:s.heap.DictOfH knd d xs)(hold:∀p,atKey xs k=some p->Q p.2 { s with toks:=s.toks+knd.draws k })(hnew:atKey xs k=none->∀h',h'.DictOfH knd d (storedH xs k a v)->Heap.SameBut d s.heap h'->Q v { s with heap:=h',toks:=s.toks+knd.draws k })(hsz:xs.length<=sizeLine):wpAny (model prog w) A (dictSetDefault d (.ref a) v) Q E s:=by
 obtain⟨o,es,ep,ho,hc,hd,he,his,hn⟩:=hm;unfold dictSetDefault
 try with_reducible refine Z4 ?_
 refine z6 (knd.pyHash hu hkey ?_);refine z6 (wpAny_dictFind_heap (s:={ s with toks:=s.toks+knd.draws k }) hu hkey ho hd he his hn ?_ ?_)
 ·intro hno;have hnot:k∉xs.map (·.1):=not_mem_keys_of_get hno;refine z6 (YH (z6 (wpAny_updateDictKeys (hz:=by have e:=size_of_entries he;omega) (s:={ s with toks:=s.toks+knd.draws k }) ho hd (Za (hnew (atKey_none_of_get hno) _ ⟨_,_,ep+1,Yi _ ho (Obj.isFreed_of_dict (Obj.data_mapDictKeys hd _)),
   hc.mapDictKeys _,Obj.data_mapDictKeys hd _,?_,?_,?_⟩ (ZK ..))))))
  ·rw[storedH_new (atKey_none_of_get hno)];simp[he,entryOfKey]
  ·rw[storedH_new (atKey_none_of_get hno)];intro x hx;rcases Zt.mp hx with hx|hx
   ·exact knd.keeps (his x hx) ho hd (ZK ..)
   ·simp only[Zo]at hx;subst hx;exact knd.keeps hkey ho hd (ZK ..)
  ·rw[storedH_new (atKey_none_of_get hno)];rw[Zy,List.nodup_append];refine⟨hn,by simp,?_⟩;intro x hx y hy;simp only[Z0,List.map_nil,Zo]at hy;subst hy;exact fun e=>hnot (e▸hx)
 ·intro j p hj;refine z6 (YR (s:={ s with toks:=s.toks+knd.draws k }) ho hd ?_);rw[entry_at he j,hj];exact z6 (YH (Za (hold p (atKey_of_get hn hj))))
end
def Ho(td ty tx:TE):TE:=fun σ H Q=>td σ H fun x H1=>∃a,x=.ref a/\IsD H1 a/\ty σ H1 fun y H2=>tx σ H2 fun z H3=>∃kvs k b,H3 a=some (.dT kvs)/\y=.ref b/\H3 b=some (.tup (k.map kV))/\kvs.length<sizeLine /\
 (∀v,bo kvs k=some v->Q v H3)/\(bo kvs k=none->Q z (upd H3 a (.dT (cU kvs k z))))
section
variable{X:Cx}{o e f:Expr}{apos cpos:Pos}{td ty tx:TE}
theorem sW(hu:X.A.units+64<cLine)(ho:QE X o td)(he:QE X e ty)(hf:QE X f tx)(hs1:aR e=true:=by rfl)(hs2:aR f=true:=by rfl)(hbase:attributeBase o "setdefault" X.env (eval o X.env)=eval o X.env:=by rfl)(hline:(apos.endLine==cpos.line)=true:=by rfl) :
  QE X (.Call (.Attribute o "setdefault" apos) [e,f] [] cpos) (Ho td ty tx):=by
 refine⟨?_⟩;have h1:=aU (es:=[f]) (env:=X.env) hs1;have h2:=aU (es:=[]) (env:=X.env) hs2;have h3:starEach ([]:List Expr) X.env=[]:=rfl;intro pins s σ H Q I h;refine wpAny_Call_method hbase (by rw[h1,h2,h3];rfl) hline PySem.F.plainAttrs_dict PySem.F.slot_dict_setdefault PySem.F.type_dict_setdefault (thn (ho.h pins s σ H _ I h) fun u s1 hz9=>?_);obtain⟨x,H1,I1,rx,a,ex,d,q1⟩:=hz9;subst ex;obtain rfl:u=Value.ref a:=rx;obtain⟨t1,t2,_⟩:=yL I1 d;refine⟨t1,t2,?_⟩;have ht:backTo cpos (starEach [e,f] X.env)=[(false,eval e X.env),(false,eval f X.env)]:=by rw[h1,h2,h3];rfl
 rw[ht];refine Calls.callWith_builtin rfl (Calls.evalArgs_plain (Calls.spliced_cons (thn (he.h pins s1 σ H1 _ I1 q1) fun iv s2 ⟨y,H2,I2,ry,q2⟩ =>
  Calls.spliced_cons (thn (hf.h pins s2 σ H2 _ I2 q2) fun fv s3 ⟨z,H3,I3,rz,kvs,k,b,ea,ey,eb,l,qo,qn⟩=>Calls.spliced_nil ?_))))
 subst ey;cases(show iv=Value.ref b from ry);obtain⟨zz,hd,xs,rel,dd⟩:=Ce I3.hok ea;have hz:xs.length<=sizeLine:=by rw[<-YL rel];exact zz
 have hl:(cU kvs k z).length<=sizeLine:=by have:=hU kvs k z;omega
 refine ZR PySem.F.slot_dict_setdefault dd.typeIs PySem.F.entry_dict_setdefault ?_ (PySem.F.args_dict_setdefault_3 _ _ _);show wpAny _ _ (Builtin.«dict.setdefault» ⟨[.ref a,.ref b,fv],[]⟩) _ _ s3;unfold Builtin.«dict.setdefault»;refine z6 ?_;unfold Builtin.Dict.keyAndDefault;refine z6 (wpAny_notOrdered_dict dd.typeIs ?_);show wpAny _ _ (pure (a,Value.ref b,some fv)) _ _ s3;refine Za ?_;show wpAny _ _ (if(a==sysModules)=true then _ else(dictSetDefault a (.ref b) fv >>= _)) _ _ s3;rw[Ju (by rw[hd];exact Zr)];refine z6 (nE (tupleKind_room_in1 (by omega)) (iu I3.hok eb) dd (fun p hp=>Za ⟨p.2,rfl,?_⟩) (fun hn h' dd' hs=>Za ⟨fv,rfl,?_⟩) hz)
 ·have rl:=rel.val k;rw[hp]at rl;cases hv:bo kvs k with
  |none =>rw[hv]at rl;cases rl
  |some v =>rw[hv]at rl;exact⟨v,H3,I3.tok _,rl,qo v hv⟩
 ·have rl:=rel.val k;rw[hn]at rl;have hv:bo kvs k=none:=by
   cases hv:bo kvs k with
   |none=>rfl
   |some v =>rw[hv]at rl;cases rl
  obtain⟨q,es,ep,hq,g2,g3,g4,_,g5⟩:=dd';refine⟨z,upd H3 a (.dT (cU kvs k z)),oE I3 (by rw[ea];exact True.intro) hs ⟨q,hq⟩ ⟨hl,hd,_,(rel.put k eb rz).keeps fun c ys ec=>?_,q,es,ep,hq,g2,g3,g4,g5⟩,rz,qn hv⟩;rw[ad (Cp ec ea (fun z=>nomatch z))];exact ec
theorem DV{K:PySem.W.Frag}{e:Expr}{f:Str}{pos:Pos}{ta:TE}(hK:X.K=K)(he:QE X e ta)(hb:attributeBase e f X.env (eval e X.env)=eval e X.env:=by rfl):QE X (.Attribute e f pos) (CH K ta f):=by subst hK;exact FT he hb
end
end L2
set_option maxRecDepth 100000
set_option maxHeartbeats 4000000
namespace K21
open PySem L2
open PyProof.Rows (envOfC)
open PySem.W (envX CodeHd)
def top(i:Nat):Stmt:=PySem.Challenge.pw_limb_k21_twins_when_stores_meet.main.body.getD i (.Pass ⟨0,0,0,0⟩)
theorem cxK{CX:CXT}{N:List Str}{qual:Str}{scope:Scope}{f:Addr}{cd:Value}{A:Around}{outer:List Env}{s:Shared}{H:Hp}{E:XK}:(dO CX P w K mg base N qual scope f cd A outer s H E).nox.K=K:=rfl
theorem vix{K:PySem.W.Frag}{i:Nat}{n:Int}{σ:St}{H:Hp}{Q:VK}{a:Addr}{xs:List V}{v:V}(hv:σ[i]?=some (some (.ref a)))(hs:SqT K H a xs)(ha:atI xs n=some v)(q:Q v H):tOp (xz K) (mi i) (tC (.int n)) σ H Q:=⟨_,hv,a,_,_,_,rfl,rfl,hs,ha,q⟩
theorem yD{K:PySem.W.Frag}{a:Addr}{xs:List V}{g:TG}{tb:L2.TS}{D:Ends}{σ:St}{H:Hp}(Pv:Nat->St->Hp->Prop)(h0:Pv 0 σ H)(hl:∀i σ H,i<=xs.length->Pv i σ H->SqL K H a xs)(hs:∀i x σ H,xs[i]?=some x->Pv i σ H->∀D':Ends,(∀σ' H',Pv (i+1) σ' H'->D'.nx σ' H')->g x σ H fun σ2 H2=>tb D' σ2 H2)(hd:∀σ H,Pv xs.length σ H->D.nx σ H) :
  ∃W:Nat->Nat->St->Hp->Prop,(∃m,W 0 m σ H)/\∀i m σ H,W i m σ H ->
   ((Itl K a).stop i H/\D.nx σ H)\/((Itl K a).go i H/\∃N:St->Hp->Prop,(∀σ' H',N σ' H'->∃m',m'<m/\W (i+1) m' σ' H')/\∀x H',(Itl K a).yld i H x H'->g x σ H' fun σ2 H2=>tb { D with nx:=N,ct:=N,bk:=D.nx } σ2 H2) :=
 rZ Pv h0 hl (fun i x σ H a b=>hs i x σ H a b _ fun _ _ z=>z) hd
theorem jr{K:PySem.W.Frag}{a:Addr}{xs:List V}{j:Nat}{tb:L2.TS}{D:Ends}{σ:St}{H:Hp}(Pv:Nat->St->Hp->Prop)(h0:Pv 0 σ H)(hl:∀i σ H,i<=xs.length->Pv i σ H->SqL K H a xs)(hs:∀i x σ H,xs[i]?=some x->Pv i σ H->∀D':Ends,(∀σ' H',Pv (i+1) σ' H'->D'.nx σ' H')->tb D' (σ.set j (some x)) H)(hd:∀σ H,Pv xs.length σ H->D.nx σ H) :
  ∃W:Nat->Nat->St->Hp->Prop,(∃m,W 0 m σ H)/\∀i m σ H,W i m σ H ->
   ((Itl K a).stop i H/\D.nx σ H)\/((Itl K a).go i H/\∃N:St->Hp->Prop,(∀σ' H',N σ' H'->∃m',m'<m/\W (i+1) m' σ' H')/\∀x H',(Itl K a).yld i H x H'->bw j x σ H' fun σ2 H2=>tb { D with nx:=N,ct:=N,bk:=D.nx } σ2 H2) :=
 yD Pv h0 hl hs hd
theorem wK{lo:Int}{n:Nat}{g:TG}{tb:L2.TS}{D:Ends}{σ:St}{H:Hp}(Pv:Nat->St->Hp->Prop)(h0:Pv 0 σ H)(hs:∀i σ H,i<n->Pv i σ H->∀D':Ends,(∀σ' H',Pv (i+1) σ' H'->D'.nx σ' H')->g (.int (lo+i)) σ H fun σ2 H2=>tb D' σ2 H2)(hd:∀σ H,Pv n σ H->D.nx σ H) :
  ∃W:Nat->Nat->St->Hp->Prop,(∃m,W 0 m σ H)/\∀i m σ H,W i m σ H ->
   ((Itr lo n).stop i H/\D.nx σ H)\/((Itr lo n).go i H/\∃N:St->Hp->Prop,(∀σ' H',N σ' H'->∃m',m'<m/\W (i+1) m' σ' H')/\∀x H',(Itr lo n).yld i H x H'->g x σ H' fun σ2 H2=>tb { D with nx:=N,ct:=N,bk:=D.nx } σ2 H2) :=
 qq Pv h0 (fun i σ H a b=>hs i σ H a b _ fun _ _ z=>z) hd
theorem aN{t u:L2.TS}{D:Ends}{σ:St}{H:Hp}(h:∀R:Ends,(∀σ' H',u D σ' H'->R.nx σ' H')->t R σ H):BZ t u D σ H:=h { D with nx:=u D } fun _ _ z=>z
structure Dd where
 h:Nat
 ns:List Int
 w:Option (Int×Bool)
def D0:Dd:=⟨0,[],none⟩
def aB(d:Dd)(i:Nat):Int:=if i=d.h then ag d.ns i-1 else ag d.ns i
def nmZ(d:Dd):List Int:=[(d.h:Int),ag d.ns d.h]
def nmK(d:Dd):List Key:=[.inl (d.h:Int),.inl (ag d.ns d.h)]
def dv(d:Dd):List Nat:=(List.range d.ns.length).filter fun i=>decide (aB d i>0)
def kyZ(d:Dd):List Int:=[d.ns.sum,(d.h:Int)]
def kLt(d e:Dd):Prop:=d.ns.sum<e.ns.sum\/(d.ns.sum=e.ns.sum/\d.h<e.h)
def leC(a b:List Int):Prop:=∀i,i<a.length->ag a i<=ag b i
def cD(ns ms:List Int):Bool:=((List.range ns.length).map fun i=>decide (ag ns i<=ag ms i)).all id
theorem Au{a b:List Int}(h:leC a b):cD a b=true:=by unfold cD;rw[y6];intro x hx;obtain⟨i,hi,rfl⟩:=Zi.mp hx;exact decide_eq_true (h i (ZV.mp hi))
theorem Co(d e:Dd):HT.lexLt (kyZ d) (kyZ e)=true↔kLt d e:=by
 unfold kyZ kLt;rw[HT.lexLt_cons];by_cases c:d.ns.sum=e.ns.sum
 ·rw[Jv c,vB];constructor
  ·intro h;have:=ZJ h;exact .inr ⟨c,by omega⟩
  ·rintro(h|⟨_,h⟩)
   ·omega
   ·exact decide_eq_true (by omega)
 ·rw[Ju c];constructor
  ·intro h;exact .inl (ZJ h)
  ·rintro(h|⟨h,_⟩)
   ·exact decide_eq_true h
   ·exact absurd h c
theorem ee{α:Type}(L:List α)(z:α):(List.range L.length).map (fun i=>L.getD i z)=L:=by
 apply List.ext_getElem
 ·simp
 ·intro i h1 h2;simp[h2]
theorem xM{α:Type}{f:α->Dd}{L:List α}{z:α}{p:Array Nat}(g:(L.map f).Pairwise fun d e=>d.h=e.h->d.ns.sum≠e.ns.sum)(hp:POk L.length p)(hs:LS (fun i j=>HT.lexLt ((L.map fun x=>kyZ (f x)).getD i []) ((L.map fun x=>kyZ (f x)).getD j [])) p L.length) :
  ((p.toList.map fun i=>L.getD i z).map f).Pairwise kLt/\(p.toList.map fun i=>L.getD i z).Perm L:=by
 have ep:p.toList.Perm (List.range L.length):=by have:=YW.mp hp;simpa using this
 refine⟨?_,?_⟩
 ·rw[Yp,Z8];have hz:p.size=L.length:=by have:=hp.size_eq;simpa using this
  rw[Zu];intro i j hi hj hij;rw[Zh]at hi hj;have lx:=hs i j hij (by omega);have e1:gA p i=p.toList[i]'(by rw[Zh];exact hi):=by rw[aJ,Zf,Zd (by rw[Zh];exact hi)];rfl
  have e2:gA p j=p.toList[j]'(by rw[Zh];exact hj):=by rw[aJ,Zf,Zd (by rw[Zh];exact hj)];rfl
  have nd:(p.toList).Nodup:=ep.nodup_iff.mpr List.nodup_range;have ne:p.toList[i]'(by rw[Zh];exact hi)≠p.toList[j]'(by rw[Zh];exact hj):=by rw[Ym,Zu]at nd;exact nd i j _ _ hij
  have m1:p.toList[i]'(by rw[Zh];exact hi)<L.length:=ZV.mp (ep.mem_iff.mp (ZA _));have m2:p.toList[j]'(by rw[Zh];exact hj)<L.length:=ZV.mp (ep.mem_iff.mp (ZA _));rw[e1,e2]at lx;generalize p.toList[i]'(by rw[Zh];exact hi)=a at *;generalize p.toList[j]'(by rw[Zh];exact hj)=b at *;have ga:∀k,k<L.length->(L.map fun x=>kyZ (f x)).getD k []=kyZ (f (L.getD k z)):=fun k hk=>by simp[hk]
  have lx':HT.lexLt (kyZ (f (L.getD b z))) (kyZ (f (L.getD a z)))=false:=by have:=lx.1;dsimp only at this;rw[ga a m1,ga b m2]at this;exact this
  show kLt (f (L.getD a z)) (f (L.getD b z));have un:(f (L.getD a z)).h=(f (L.getD b z)).h->(f (L.getD a z)).ns.sum≠(f (L.getD b z)).ns.sum:=fun e=>by
   have u:=g;rw[Zu]at u;have ea:∀k (hk:k<L.length),(L.map f)[k]'(by simpa using hk)=f (L.getD k z):=fun k hk=>by simp[hk]
   rcases Z6 a b with c|c
   ·have:=u a b (by simpa using m1) (by simpa using m2) c;rw[ea a m1,ea b m2]at this;exact this e
   ·have:=u b a (by simpa using m2) (by simpa using m1) (by omega);rw[ea a m1,ea b m2]at this;exact(this e.symm).symm
  have nl:¬kLt (f (L.getD b z)) (f (L.getD a z)):=fun h=>by rw[(Co _ _).mpr h]at lx';cases lx'
  unfold kLt at nl ⊢;by_cases c:(f (L.getD a z)).ns.sum=(f (L.getD b z)).ns.sum
  ·by_cases c2:(f (L.getD a z)).h=(f (L.getD b z)).h
   ·exact absurd c (un c2)
   ·right;omega
  ·left;omega
 ·have:=ep.map fun i=>L.getD i z;rw[ee]at this;exact this
theorem uK{α:Type}{f:α->Dd}{L:List α}{z:α}{p:Array Nat}(hp:POk L.length p)(hs:LS (fun i j=>HT.lexLt ((L.map fun x=>kyZ (f x)).getD i []) ((L.map fun x=>kyZ (f x)).getD j [])) p L.length) :
  ((p.toList.map fun i=>L.getD i z).map f).Pairwise (fun d e=>¬kLt e d)/\(p.toList.map fun i=>L.getD i z).Perm L:=by
 have ep:p.toList.Perm (List.range L.length):=by have:=YW.mp hp;simpa using this
 refine⟨?_,?_⟩
 ·rw[Yp,Z8];have hz:p.size=L.length:=by have:=hp.size_eq;simpa using this
  rw[Zu];intro i j hi hj hij;rw[Zh]at hi hj;have lx:=hs i j hij (by omega);have e1:gA p i=p.toList[i]'(by rw[Zh];exact hi):=by rw[aJ,Zf,Zd (by rw[Zh];exact hi)];rfl
  have e2:gA p j=p.toList[j]'(by rw[Zh];exact hj):=by rw[aJ,Zf,Zd (by rw[Zh];exact hj)];rfl
  have nd:(p.toList).Nodup:=ep.nodup_iff.mpr List.nodup_range;have ne:p.toList[i]'(by rw[Zh];exact hi)≠p.toList[j]'(by rw[Zh];exact hj):=by rw[Ym,Zu]at nd;exact nd i j _ _ hij
  have m1:p.toList[i]'(by rw[Zh];exact hi)<L.length:=ZV.mp (ep.mem_iff.mp (ZA _));have m2:p.toList[j]'(by rw[Zh];exact hj)<L.length:=ZV.mp (ep.mem_iff.mp (ZA _));rw[e1,e2]at lx;generalize p.toList[i]'(by rw[Zh];exact hi)=a at *;generalize p.toList[j]'(by rw[Zh];exact hj)=b at *;have ga:∀k,k<L.length->(L.map fun x=>kyZ (f x)).getD k []=kyZ (f (L.getD k z)):=fun k hk=>by simp[hk]
  have lx':HT.lexLt (kyZ (f (L.getD b z))) (kyZ (f (L.getD a z)))=false:=by have:=lx.1;dsimp only at this;rw[ga a m1,ga b m2]at this;exact this
  show¬kLt (f (L.getD b z)) (f (L.getD a z));intro h;rw[(Co _ _).mpr h]at lx';cases lx'
 ·have:=ep.map fun i=>L.getD i z;rw[ee]at this;exact this
theorem oR{d e:Dd}(h:kLt d e)(k:kLt e d):False:=by unfold kLt at h k;omega
theorem zX{A B:List Dd}(ha:A.Pairwise kLt)(hb:B.Pairwise kLt)(p:A.Perm B):A=B:=List.Perm.eq_of_pairwise (fun _ _ _ _ h k=>(oR h k).elim) ha hb p
def ah(M:List (Addr×Dd)):List (List Key×V):=M.map fun x=>(nmK x.2,V.ref x.1)
theorem Dc{d e:Dd}(h:nmK d=nmK e):d.h=e.h/\ag d.ns d.h=ag e.ns e.h:=by unfold nmK at h;injection h with h1 h2;injection h2 with h3 _;injection h1 with h1;injection h3 with h3;exact⟨by omega,h3⟩
theorem leC.refl(a:List Int):leC a a:=fun _ _=>Int.le_refl _
theorem leC.trans{a b c:List Int}(h:leC a b)(k:leC b c)(e:a.length=b.length):leC a c:=fun i hi=>Int.le_trans (h i hi) (k i (by omega))
theorem ud:∀{a b:List Int},a.length=b.length->leC a b->a.sum<=b.sum
 | [],[],_,_=>Int.le_refl _
 |x::a,y::b,e,h=>by rw[YX,YX];have h0:x<=y:=h 0 (by simp);have:=ud (a:=a) (b:=b) (by simpa using e) fun i hi=>h (i+1) (by simpa using hi);omega
theorem iF{c:List Int}{k i:Nat}{v:Int}(hk:k<c.length):ag (c.set k v) i=if i=k then v else ag c i:=by
 unfold ag;rw[List.getElem?_set];by_cases e:i=k
 ·subst e;rw[Jv rfl,Jv rfl,Jv hk];rfl
 ·rw[Ju (fun z=>e z.symm),Ju e]
theorem Ak:∀{c:List Int} {k:Nat},k<c.length->(c.set k (ag c k+1)).sum=c.sum+1
 |x::c,0,_=>by show(((x::c).set 0 (x+1))).sum=_;rw[List.set_cons_zero,YX,YX];omega
 |x::c,k+1,h=>by show((x::c).set (k+1) (ag c k+1)).sum=_;rw[List.set_cons_succ,YX,YX,Ak (by simpa using h)];omega
def clk(cl:List (List Int))(g:Nat):List Int:=(cl[g]?).getD []
theorem cP{cl:List (List Int)}{k g:Nat}{c:List Int}(hk:k<cl.length):clk (cl.set k c) g=if g=k then c else clk cl g:=by
 unfold clk;rw[List.getElem?_set];by_cases e:g=k
 ·subst e;rw[Jv rfl,Jv rfl,Jv hk];rfl
 ·rw[Ju (fun z=>e z.symm),Ju e]
theorem kf{n g:Nat}(h:g<n):clk (List.replicate n (List.replicate n (0:Int))) g=List.replicate n 0:=by unfold clk;rw[List.getElem?_replicate,Jv h];rfl
theorem rP(n i:Nat):ag (List.replicate n (0:Int)) i=0:=by unfold ag;rw[List.getElem?_replicate];split<;>rfl
def mx(a b:List Int)(n:Nat):List Int:=(List.range n).map fun j=>if ag b j>ag a j then ag b j else ag a j
theorem kz{a b:List Int}{n i:Nat}(h:i<n):ag (mx a b n) i=if ag b i>ag a i then ag b i else ag a i:=by
 unfold mx
 conv=>lhs;unfold ag
 rw[ZB,List.getElem?_range h];rfl
theorem sE{a b:List Int}{n:Nat}:(mx a b n).length=n:=by unfold mx;simp
theorem fY{a b:List Int}:cD a b=true↔leC a b:=by refine⟨fun h i hi=>?_,Au⟩;unfold cD at h;rw[y6]at h;exact ZJ (h _ (Zi.mpr ⟨i,ZV.mpr hi,rfl⟩))
structure UN(n:Nat)(L:List Dd):Prop where
 len:∀d∈L,d.ns.length=n/\d.h<n
 own:∀d∈L,0<ag d.ns d.h
 uni:L.Pairwise fun d e=>nmK d≠nmK e
theorem UN.perm{n:Nat}{L M:List Dd}(g:UN n L)(p:L.Perm M):UN n M:=⟨fun d hd=>g.len d (p.mem_iff.mpr hd),fun d hd=>g.own d (p.mem_iff.mpr hd),g.uni.perm p fun{x y} h e=>h e.symm⟩
theorem UN.sub{n:Nat}{L M:List Dd}(g:UN n L)(p:M.Sublist L):UN n M:=⟨fun d hd=>g.len d (p.subset hd),fun d hd=>g.own d (p.subset hd),g.uni.sublist p⟩
theorem iB:∀{L:List Dd},(L.Pairwise fun d e=>nmK d≠nmK e)->∀{d e:Dd},d∈L->e∈L->nmK d=nmK e->d=e
 |x::L,u,d,e,hd,he,h=>by
  rw[List.pairwise_cons]at u;rcases Zs.mp hd with z1|hd'
  ·rcases Zs.mp he with z2|he'
   ·rw[z1,z2]
   ·exact absurd (z1▸h) (u.1 e he')
  ·rcases Zs.mp he with z2|he'
   ·exact absurd (z2▸h).symm (u.1 d hd')
   ·exact iB u.2 hd' he' h
def cW(R:List Dd)(d:Dd)(i:Nat):Bool:=match R.find? (fun e=>decide (nmK e=[.inl (i:Int),.inl (aB d i)]))with
 |some e=>cD e.ns d.ns
 |none=>false
def dq(R:List Dd)(d:Dd):Bool:=(dv d).all fun i=>cW R d i
def An(R:List Dd)(d:Dd)(i:Nat):Prop:=∃e∈R,e.h=i/\ag e.ns e.h=aB d i/\leC e.ns d.ns
theorem fG{e:Dd}{i:Nat}{z:Int}:nmK e=[.inl (i:Int),.inl z]↔e.h=i/\ag e.ns e.h=z:=by
 unfold nmK;constructor
 ·intro h;injection h with h1 h2;injection h2 with h3 _;injection h1 with h1;injection h3 with h3;exact⟨by omega,h3⟩
 ·rintro⟨rfl,rfl⟩;rfl
theorem uR{R:List Dd}(u:R.Pairwise fun d e=>nmK d≠nmK e){d:Dd}{i:Nat}:cW R d i=true↔An R d i:=by
 unfold cW;cases hf:R.find? (fun e=>decide (nmK e=[.inl (i:Int),.inl (aB d i)]))with
 |none =>
  constructor
  ·intro h;cases h
  ·rintro⟨e,he,e1,e2,_⟩;have:=Xh.mp hf e he;exact absurd (fG.mpr ⟨e1,e2⟩) (by simpa using this)
 |some x =>
  have hm:=Y4 hf;have hq:=List.find?_some hf;have hx:=fG.mp (ZJ hq);constructor
  ·intro h;exact⟨x,hm,hx.1,hx.2,fY.mp h⟩
  ·rintro⟨e,he,e1,e2,e3⟩;have:x=e:=iB u hm he ((fG.mpr hx).trans (fG.mpr ⟨e1,e2⟩).symm);rw[this];exact fY.mpr e3
theorem jY{n:Nat}{R:List Dd}(u:R.Pairwise fun d e=>nmK d≠nmK e){d:Dd}(hd:d.ns.length=n):dq R d=true↔∀i,i<n->aB d i>0->An R d i:=by
 unfold dq dv;rw[y6];constructor
 ·intro h i hi hl;exact(uR u).mp (h i (ZL.mpr ⟨ZV.mpr (by omega),decide_eq_true hl⟩))
 ·intro h i hi;obtain⟨h1,h2⟩:=ZL.mp hi;exact(uR u).mpr (h i (by have:=ZV.mp h1;omega) (ZJ h2))
def Ch(n:Nat)(R:List Dd):Prop:=∀k (hk:k<R.length),∀i,i<n->aB R[k] i>0->An (R.take k) R[k] i
def Sat(n:Nat)(L B:List Dd):Prop:=∀d∈L,(∀i,i<n->aB d i>0->An B d i)->d∈B
theorem Ch.snoc{n:Nat}{R:List Dd}{d:Dd}(c:Ch n R)(h:∀i,i<n->aB d i>0->An R d i):Ch n (R++[d]):=fun k hk i hi hl=>by
 rcases Z6 k R.length with c1|c1
 ·rw[List.getElem_append_left c1]at hl ⊢;rw[List.take_append_of_le_length (Nat.le_of_lt c1)];exact c k c1 i hi hl
 ·have e:k=R.length:=by rw[Zg,ZW]at hk;omega
  subst e;have ed:(R++[d])[R.length]=d:=by simp
  rw[ed]at hl ⊢;rw[List.take_left];exact h i hi hl
theorem nJ{n:Nat}{L A B:List Dd}(c:Ch n A)(hA:∀d∈A,d∈L)(s:Sat n L B):∀d∈A,d∈B:=by
 have go:∀k (hk:k<A.length),A[k]∈B:=by
  intro k;induction k using Nat.strongRecOn with
  |_ k ih =>intro hk;refine s _ (hA _ (ZA hk)) fun i hi hl=>?_;obtain⟨e,he,r⟩:=c k hk i hi hl;obtain⟨j,hj,rfl⟩:=ZG.mp he;rw[ZF]at hj;refine⟨_,?_,r⟩;rw[x6];exact ih j (by omega) (by omega)
 intro d hd;obtain⟨k,hk,rfl⟩:=ZG.mp hd;exact go k hk
theorem nO:∀{a b:List Int} {k:Nat},a.length=b.length->leC a b->k<a.length->ag a k<ag b k->a.sum<b.sum
 |x::a,y::b,0,e,h,_,hl=>by rw[YX,YX];have h0:x<y:=hl;have:=ud (a:=a) (b:=b) (by simpa using e) fun i hi=>h (i+1) (by simpa using hi);omega
 |x::a,y::b,k+1,e,h,hk,hl=>by rw[YX,YX];have h0:x<=y:=h 0 (by simp);have:=nO (a:=a) (b:=b) (k:=k) (by simpa using e) (fun i hi=>h (i+1) (by simpa using hi)) (by simpa using hk) hl;omega
theorem lP{a b:List Int}(e:a.length=b.length)(h:∀i,i<a.length->ag a i=ag b i):a=b:=by apply List.ext_getElem e;intro i h1 h2;have:=h i h1;unfold ag at this;rw[Zd h1,Zd h2]at this;exact this
theorem GZ{a b:List Int}(e:a.length=b.length)(h:leC a b):a=b\/a.sum<b.sum:=by
 by_cases c:∃k,k<a.length/\ag a k<ag b k
 ·obtain⟨k,hk,hl⟩:=c;exact .inr (nO e h hk hl)
 ·refine .inl (lP e fun i hi=>?_);have h1:=h i hi;have h2:¬ag a i<ag b i:=fun z=>c ⟨i,hi,z⟩;omega
theorem dW(d:Dd):aB d d.h=ag d.ns d.h-1:=by unfold aB;rw[Jv rfl]
theorem Db{d:Dd}{i:Nat}(h:i≠d.h):aB d i=ag d.ns i:=by unfold aB;rw[Ju h]
theorem yj{n:Nat}{R:List Dd}(c:Ch n R)(u:UN n R):∀(m:Nat) {d e:Dd},d∈R->e∈R->d.h=e.h->ag d.ns d.h+(m:Int)+1=ag e.ns e.h->d.ns.sum<e.ns.sum:=by
 intro m;induction m with
 |zero =>intro d e hd he eh em;obtain⟨k,hk,rfl⟩:=ZG.mp he;have h1:=u.own d hd;obtain⟨x,hx,x1,x2,x3⟩:=c k hk R[k].h (u.len _ he).2 (by rw[dW];omega);have hx':=YA hx;rw[dW]at x2;have:x=d:=iB u.uni hx' hd ((fG (i:=R[k].h) (z:=ag d.ns d.h)).mpr ⟨x1,by rw[x2];omega⟩ |>.trans (fG.mpr ⟨eh,rfl⟩).symm);subst this;refine nO (k:=x.h) (by rw[(u.len x hd).1,(u.len _ he).1]) x3 (by rw[(u.len x hd).1];exact(u.len x hd).2) ?_;rw[x2,x1];omega
 |succ m ih =>
  intro d e hd he eh em;obtain⟨k,hk,rfl⟩:=ZG.mp he;have h1:=u.own d hd;obtain⟨x,hx,x1,x2,x3⟩:=c k hk R[k].h (u.len _ he).2 (by rw[dW];omega);have hx':=YA hx;rw[dW]at x2;have s1:=ih hd hx' (eh.trans x1.symm) (by rw[x2];omega);have s2:x.ns.sum<R[k].ns.sum:=by refine nO (k:=x.h) (by rw[(u.len x hx').1,(u.len _ he).1]) x3 (by rw[(u.len x hx').1];exact(u.len x hx').2) ?_;rw[x2,x1];omega
  omega
theorem yk{n:Nat}{R:List Dd}(c:Ch n R)(u:UN n R):R.Pairwise fun d e=>d.h=e.h->d.ns.sum≠e.ns.sum:=by
 rw[Zu];intro i j hi hj hij eh es;have hd:=ZA hi;have he:=ZA hj;have ne:ag R[i].ns R[i].h≠ag R[j].ns R[j].h:=fun z=>by have un:=u.uni;rw[Zu]at un;exact un i j hi hj hij (by unfold nmK;rw[z,eh])
 rcases Int.lt_or_gt_of_ne ne with q|q
 ·have:=yj c u (ag R[j].ns R[j].h-ag R[i].ns R[i].h-1).toNat hd he eh (by omega);omega
 ·have:=yj c u (ag R[i].ns R[i].h-ag R[j].ns R[j].h-1).toNat he hd eh.symm (by omega);omega
abbrev LT:=List (Addr×Dd)
def vals(L:LT):List Dd:=L.map Prod.snd
def fX(R:LT)(x:Addr×Dd):LT:=if dq (vals R) x.2=true then R++[x]else R
def bh(S:LT)(k:Nat):LT:=(S.take k).foldl fX []
theorem dR{S:LT}{k:Nat}(hk:k<S.length):bh S (k+1)=fX (bh S k) S[k]:=by unfold bh;rw[List.take_add_one,Zd hk,Option.toList_some,List.foldl_append];rfl
theorem cF(S:LT):∀k,k<=S.length->(bh S k).Sublist (S.take k)
 |0,_=>by unfold bh;exact List.Sublist.refl _
 |k+1,h=>by
  have ih:=cF S k (by omega);rw[dR (by omega),List.take_add_one,Zd (by omega),Option.toList_some];unfold fX;split
  ·exact ih.append (List.Sublist.refl _)
  ·exact ih.trans (List.sublist_append_left _ _)
theorem dQ{A B:LT}(h:A.Sublist B):(vals A).Sublist (vals B):=h.map _
theorem oj{n:Nat}{S:LT}(u:UN n (vals S)):∀k,k<=S.length->Ch n (vals (bh S k))
 |0,_=>fun k hk=>absurd hk (by simp[bh,vals])
 |k+1,h=>by
  have ih:=oj u k (by omega);have us:=u.sub (dQ ((cF S k (by omega)).trans (ZP _ _)));rw[dR (by omega)];unfold fX;split
  ·rename_i c;unfold vals at ih us c ⊢;rw[Zy];exact ih.snoc ((jY us.uni (u.len _ (Zi.mpr ⟨S[k],ZA (by omega),rfl⟩)).1).mp c)
  ·exact ih
theorem rH(S:LT):∀{k j:Nat},k<=j->j<=S.length->∀x∈bh S k,x∈bh S j:=by
 intro k j hkj;induction hkj with
 |refl=>intro _ x hx;exact hx
 |step h ih =>
  intro hj x hx;rw[dR (by omega)];unfold fX;have:=ih (by omega) x hx;split
  ·exact Z5 _ this
  ·exact this
theorem yf{S:LT}(nd:S.Nodup){i:Nat}(hi:i<S.length):∀{j:Nat},i<j->j<=S.length->S[i]∈bh S j->S[i]∈bh S (i+1):=by
 intro j hij;induction hij with
 |refl=>intro _ h;exact h
 |step h ih =>
  intro hj hx;rename_i j;have hij':i+1<=j:=h;rw[dR (by omega)]at hx;unfold fX at hx;split at hx
  ·rcases Zt.mp hx with hx|hx
   ·exact ih (by omega) hx
   ·exfalso;have e:=Zo.mp hx;rw[Ym,Zu]at nd;exact nd i j hi (by omega) (by omega) e
  ·exact ih (by omega) hx
theorem gq{n:Nat}{S:LT}(u:UN n (vals S)):S.Nodup:=by have:=u.uni;unfold vals at this;rw[Z8]at this;exact this.imp fun{a b} h z=>h (by rw[z])
theorem AO{n:Nat}{S:LT}(u:UN n (vals S))(hs:(vals S).Pairwise fun d e=>¬kLt e d):Sat n (vals S) (vals (bh S S.length)):=fun d hd h=>by
 obtain⟨x,hx,rfl⟩:=Zi.mp hd;obtain⟨k,hk,rfl⟩:=ZG.mp hx;have nd:=gq u;have subM:=(cF S S.length (Ze _)).trans (ZP _ _);have uM:=u.sub (dQ subM);have cM:=oj u S.length (Ze _);by_cases c:∃i,i<n/\aB S[k].2 i>0/\∃e∈vals (bh S S.length),e.h=i/\ag e.ns e.h=aB S[k].2 i/\leC e.ns S[k].2.ns/\e.ns=S[k].2.ns
 ·obtain⟨i,hi,hl,e,he,e1,e2,e3,e4⟩:=c;have ne:i≠S[k].2.h:=fun z=>by rw[z,dW]at e2;rw[e4,e1,z]at e2;omega
  obtain⟨j,hj,rfl⟩:=ZG.mp he;have lh:aB (vals (bh S S.length))[j] S[k].2.h=ag S[k].2.ns S[k].2.h:=by rw[Db (by rw[e1];exact fun z=>ne z.symm),e4]
  obtain⟨x,hx,x1,x2,x3⟩:=cM j hj S[k].2.h (u.len _ hd).2 (by rw[lh];exact u.own _ hd);have hx':=YA hx;rw[lh]at x2;have:x=S[k].2:=iB u.uni ((dQ subM).subset hx') hd (by unfold nmK;rw[x2,x1]);rw[<-this];exact hx'
 ·have all:∀i,i<n->aB S[k].2 i>0->An (vals (bh S k)) S[k].2 i:=fun i hi hl=>by
   obtain⟨e,he,e1,e2,e3⟩:=h i hi hl;have heS:=(dQ subM).subset he;have sl:e.ns.sum<S[k].2.ns.sum:=by
    rcases GZ (by rw[(u.len e heS).1,(u.len _ hd).1]) e3 with z|z
    ·exact absurd ⟨i,hi,hl,e,he,e1,e2,e3,z⟩ c
    ·exact z
   obtain⟨y,hy,rfl⟩:=Zi.mp he;obtain⟨j,hj,rfl⟩:=ZG.mp (subM.subset hy);have hjk:j<k:=by
    rcases Z6 j k with q|q
    ·exact q
    ·exfalso;rcases Z6 k j with q2|q2
     ·rw[Zu]at hs;have:=hs k j (by unfold vals;rw[Zb];exact hk) (by unfold vals;rw[Zb];exact hj) q2;simp only[vals,List.getElem_map]at this;exact this (.inl sl)
     ·have:j=k:=by omega
      subst this;omega
   refine⟨S[j].2,Zi.mpr ⟨S[j],?_,rfl⟩,e1,e2,e3⟩;exact rH S (show j+1<=k by omega) (by omega) _ (yf nd hj (show j<S.length by omega) (Ze _) hy)
  have us:=u.sub (dQ ((cF S k (by omega)).trans (ZP _ _)));have ac:=(jY us.uni (u.len _ hd).1).mpr all;have:S[k]∈bh S (k+1):=by rw[dR hk];unfold fX;rw[Jv ac];exact ZD _ (Zo.mpr rfl)
  exact Zi.mpr ⟨S[k],rH S (show k+1<=S.length by omega) (Ze _) _ this,rfl⟩
theorem Aj{R:List Dd}(h:R.Pairwise fun d e=>¬kLt e d)(u:R.Pairwise fun d e=>d.h=e.h->d.ns.sum≠e.ns.sum):R.Pairwise kLt:=by
 refine(List.Pairwise.and h u).imp fun{d e} ⟨h1,h2⟩=>?_;unfold kLt at h1 ⊢;by_cases c:d.h=e.h
 ·have:=h2 c;omega
 ·omega
structure Good(n:Nat)(L:List Dd):Prop where
 len:∀d∈L,d.ns.length=n/\d.h<n
 uni:L.Pairwise fun d e=>d.h=e.h->ag d.ns d.h≠ag e.ns e.h/\d.ns.sum≠e.ns.sum
 ans:∀d∈L,∀i,i<n->aB d i>0->∃e∈L,e.h=i/\ag e.ns i=aB d i/\leC e.ns d.ns/\e.ns.sum<d.ns.sum
structure Gen(n:Nat)(cl:List (List Int))(L:List Dd):Prop where
 cn:cl.length=n
 cc:∀g,g<n->(clk cl g).length=n
 len:∀d∈L,d.ns.length=n/\d.h<n
 ca:∀g,g<n->∀i,i<n->ag (clk cl g) i>0->∃e∈L,e.h=i/\ag e.ns i=ag (clk cl g) i/\leC e.ns (clk cl g)
 low:∀d∈L,leC d.ns (clk cl d.h)
 uni:L.Pairwise fun d e=>d.h=e.h->ag d.ns d.h<ag e.ns e.h/\d.ns.sum<e.ns.sum
 ans:∀d∈L,∀i,i<n->aB d i>0->∃e∈L,e.h=i/\ag e.ns i=aB d i/\leC e.ns d.ns/\e.ns.sum<d.ns.sum
theorem Gen.good{n:Nat}{cl:List (List Int)}{L:List Dd}(g:Gen n cl L):Good n L:=⟨g.len,g.uni.imp fun{_ _} h e=>⟨Int.ne_of_lt (h e).1,Int.ne_of_lt (h e).2⟩,g.ans⟩
theorem Gen.start(n:Nat):Gen n (List.replicate n (List.replicate n (0:Int))) []:=by refine⟨Y1 ..,fun g hg=>by rw[kf hg,Y1],fun d hd=>absurd hd (by simp),fun g hg i hi h=>?_,fun d hd=>absurd hd (by simp),.nil,fun d hd=>absurd hd (by simp)⟩;rw[kf hg,rP]at h;omega
theorem Gen.met{n:Nat}{cl:List (List Int)}{L:List Dd}(g:Gen n cl L){h o:Nat}(hh:h<n)(ho:o<n):Gen n (cl.set h (mx (clk cl h) (clk cl o) n)) L:=by
 have hc:h<cl.length:=by rw[g.cn];exact hh
 have up1:leC (clk cl h) (mx (clk cl h) (clk cl o) n):=fun i hi=>by rw[g.cc h hh]at hi;rw[kz hi];split<;>omega
 have up2:leC (clk cl o) (mx (clk cl h) (clk cl o) n):=fun i hi=>by rw[g.cc o ho]at hi;rw[kz hi];split<;>omega
 refine⟨by rw[Yf];exact g.cn,fun q hq=>?_,g.len,fun q hq i hi h0=>?_,fun d hd=>?_,g.uni,g.ans⟩
 ·rw[cP hc];split
  ·exact sE
  ·exact g.cc q hq
 ·rw[cP hc]at h0 ⊢;by_cases e:q=h
  ·rw[Jv e]at h0 ⊢;rw[kz hi]at h0 ⊢;split at h0
   ·rename_i c;rw[Jv c];obtain⟨d,d1,d2,d3,d4⟩:=g.ca o ho i hi h0;exact⟨d,d1,d2,d3,d4.trans up2 (by rw[(g.len d d1).1,g.cc o ho])⟩
   ·rename_i c;rw[Ju c];obtain⟨d,d1,d2,d3,d4⟩:=g.ca h hh i hi h0;exact⟨d,d1,d2,d3,d4.trans up1 (by rw[(g.len d d1).1,g.cc h hh])⟩
  ·rw[Ju e]at h0 ⊢;exact g.ca q hq i hi h0
 ·rw[cP hc];split
  ·rename_i e;have:=g.low d hd;rw[e]at this;exact this.trans up1 (by rw[(g.len d hd).1,g.cc h hh])
  ·exact g.low d hd
theorem Gen.add{n:Nat}{cl:List (List Int)}{L:List Dd}(g:Gen n cl L){h:Nat}(hh:h<n)(w:Option (Int×Bool)):Gen n (cl.set h ((clk cl h).set h (ag (clk cl h) h+1))) (L++[⟨h,(clk cl h).set h (ag (clk cl h) h+1),w⟩]):=by
 have hc:h<cl.length:=by rw[g.cn];exact hh
 have hl:h<(clk cl h).length:=by rw[g.cc h hh];exact hh
 generalize hx:(clk cl h).set h (ag (clk cl h) h+1)=c';have cs:∀i,ag c' i=if i=h then ag (clk cl h) h+1 else ag (clk cl h) i:=fun i=>by rw[<-hx,iF hl]
 have lc:c'.length=n:=by rw[<-hx,Yf,g.cc h hh]
 have up:leC (clk cl h) c':=fun i _=>by
  rw[cs i];split
  ·rename_i e;rw[e];omega
  ·exact Int.le_refl _
 have sm:c'.sum=(clk cl h).sum+1:=by rw[<-hx];exact Ak hl
 have below:∀ e∈L,leC e.ns (clk cl h)->leC e.ns c'/\e.ns.sum<c'.sum:=fun e he hle=>⟨hle.trans up (by rw[(g.len e he).1,g.cc h hh]),by
  have:=ud (a:=e.ns) (b:=clk cl h) (by rw[(g.len e he).1,g.cc h hh]) hle;omega⟩
 refine⟨by rw[Yf];exact g.cn,fun q hq=>?_,fun d hd=>?_,fun q hq i hi h0=>?_,fun d hd=>?_,?_,fun d hd i hi h0=>?_⟩
 ·rw[cP hc];split
  ·exact lc
  ·exact g.cc q hq
 ·rcases Zt.mp hd with hd|hd
  ·exact g.len d hd
  ·rw[Zo.mp hd];exact⟨lc,hh⟩
 ·rw[cP hc]at h0 ⊢;by_cases e:q=h
  ·rw[Jv e]at h0 ⊢;by_cases ei:i=h
   ·subst ei;exact⟨_,ZD _ (Zo.mpr rfl),rfl,rfl,leC.refl _⟩
   ·rw[cs i,Ju ei]at h0 ⊢;obtain⟨d,d1,d2,d3,d4⟩:=g.ca h hh i hi h0;exact⟨d,Z5 _ d1,d2,d3,(below d d1 d4).1⟩
  ·rw[Ju e]at h0 ⊢;obtain⟨d,d1,r⟩:=g.ca q hq i hi h0;exact⟨d,Z5 _ d1,r⟩
 ·rw[cP hc];rcases Zt.mp hd with hd|hd
  ·split
   ·rename_i e;have:=g.low d hd;rw[e]at this;exact(below d hd this).1
   ·exact g.low d hd
  ·rw[Zo.mp hd,Jv rfl];exact leC.refl _
 ·refine ZN.mpr ⟨g.uni,List.pairwise_singleton _ _,fun d hd e he heq=>?_⟩;rw[Zo.mp he]at heq ⊢;have hd':d.h=h:=heq;have lo:=g.low d hd;rw[hd']at lo;refine⟨?_,(below d hd lo).2⟩;rw[cs h,Jv rfl,hd'];have:=lo h (by rw[(g.len d hd).1];exact hh);omega
 ·rcases Zt.mp hd with hd|hd
  ·obtain⟨e,e1,r⟩:=g.ans d hd i hi h0;exact⟨e,Z5 _ e1,r⟩
  ·rw[Zo.mp hd]at h0 ⊢;have e0:aB ⟨h,c',w⟩ i=ag (clk cl h) i:=by
    unfold aB;by_cases ei:i=h
    ·rw[Jv ei,cs i,Jv ei,ei];omega
    ·rw[Ju ei,cs i,Ju ei]
   rw[e0]at h0 ⊢;obtain⟨e,e1,e2,e3,e4⟩:=g.ca h hh i hi h0;exact⟨e,Z5 _ e1,e2,e3,(below e e1 e4).1,(below e e1 e4).2⟩
def tw(l:List Str):TV:=.tup (l.map V.str)
def DT:List (Str×TV):=[("put",tw ["up","place","text"]),("move",tw ["item","up","place"]),("write",tw ["item","text"]),("mark",tw ["item","truth"]),("due",tw ["item","whom"]),("fold",tw ["item","truth"]),("part",tw ["item","at","place"]),("join",tw ["item","item"]),("take",tw ["item"]),("back",tw ["item"]),("off",tw ["number"]),("on",tw ["number"]),("none",tw [])]
inductive Kd|u|p|t|i|b|w|a|n
deriving DecidableEq
def nm:Kd->Str
 |.u=>"up" |.p=>"place" |.t=>"text" |.i=>"item" |.b=>"truth" |.w=>"whom" |.a=>"at" |.n=>"number"
def bg:V->Int->Bool
 |.int i,lo=>decide (lo<=i)
 |_,_=>false
def ltB:V->Int->Bool
 |.int i,h=>decide (i<h)
 |_,_=>false
def re(h:Int):Option HO->Bool
 |some (.tup [x,y])=>bg x 0&&(ltB x h&&bg y 1)
 |_=>false
def kC(H:Hp)(h:Int):V->Bool
 |.ref a=>re h (H a)
 |_=>false
def rQ(h:Int):Option HO->Bool
 |some (.tup xs)=>decide ((xs.length:Int)=h)&&xs.all (fun x=>bg x 0)
 |_=>false
def jo(H:Hp)(h:Int):V->Bool
 |.ref a=>rQ h (H a)
 |_=>false
theorem bq{H:Hp}{a:Addr}{o:HO}{h:Int}(e:H a=some o):kC H h (.ref a)=re h (some o):=by show re h (H a)=_;rw[e]
theorem dU{H:Hp}{a:Addr}{o:HO}{h:Int}(e:H a=some o):jo H h (.ref a)=rQ h (some o):=by show rQ h (H a)=_;rw[e]
theorem yM{K:PySem.W.Frag}{H:Hp}{v:V}{n:String}{h:Int}(ty:TyOf K H v (.type n))(hT:isT H v=false):kC H h v=false/\jo H h v=false:=by
 cases ty with
 |lst z=>exact⟨bq z,dU z⟩
 |frz z=>exact⟨bq z,dU z⟩
 |tup z=>rw[bK z (b:=true) rfl]at hT;cases hT
 |dK z=>exact⟨bq z,dU z⟩
 |dT z=>exact⟨bq z,dU z⟩
 |_=>exact⟨rfl,rfl⟩
def mY:Option HO->Bool
 |some (.tup xs)=>decide (1<=xs.length)&&decide (xs.length<=64)&&xs.all eA
 |_=>false
def gE(H:Hp):V->Bool
 |.ref a=>mY (H a)
 |_=>false
theorem bf{H:Hp}{a:Addr}{o:HO}(e:H a=some o):gE H (.ref a)=mY (some o):=by show mY (H a)=_;rw[e]
theorem uF{K:PySem.W.Frag}{H H':Hp}{v:V}{n:String}(h:TyOf K H v (.type n))(e:Same H H'):gE H' v=gE H v:=by
 cases h with
 |lst q=>rw[bf (e _ _ q),bf q]
 |frz q=>rw[bf (e _ _ q),bf q]
 |tup q=>rw[bf (e _ _ q),bf q]
 |dK q=>rw[bf (e _ _ q),bf q]
 |dT q=>rw[bf (e _ _ q),bf q]
 |_=>rfl
def isS:V->Bool
 |.str _=>true
 |_=>false
theorem vw{K:PySem.W.Frag}{H:Hp}{v:V}{n:String}(h:TyOf K H v (.type n)):PySem.W.kitOne K (.type n) (.type "str")=some (isS v):=by
 cases h with
 |str x=>exact br (b:=true) (by decide +kernel) (fun z=>nomatch z)
 |non=>exact aD (b:=false) (by decide +kernel) (by decide +kernel) (by decide +kernel)
 |bl x=>exact aD (b:=false) (by decide +kernel) (by decide +kernel) (by decide +kernel)
 |int i=>exact aD (b:=false) (by decide +kernel) (by decide +kernel) (by decide +kernel)
 |flt x=>exact aD (b:=false) (by decide +kernel) (by decide +kernel) (by decide +kernel)
 |lst e=>exact aD (b:=false) (by decide +kernel) (by decide +kernel) (by decide +kernel)
 |frz e=>exact aD (b:=false) (by decide +kernel) (by decide +kernel) (by decide +kernel)
 |tup e=>exact aD (b:=false) (by decide +kernel) (by decide +kernel) (by decide +kernel)
 |dK e=>exact aD (b:=false) (by decide +kernel) (by decide +kernel) (by decide +kernel)
 |dT e=>exact aD (b:=false) (by decide +kernel) (by decide +kernel) (by decide +kernel)
theorem xb{K:PySem.W.Frag}{H H':Hp}{v:V}{n:String}{h:Int}(t:TyOf K H v (.type n))(e:Same H H'):kC H' h v=kC H h v:=by
 cases t with
 |lst q=>rw[bq (e _ _ q),bq q]
 |frz q=>rw[bq (e _ _ q),bq q]
 |tup q=>rw[bq (e _ _ q),bq q]
 |dK q=>rw[bq (e _ _ q),bq q]
 |dT q=>rw[bq (e _ _ q),bq q]
 |_=>rfl
theorem Ba{K:PySem.W.Frag}{H H':Hp}{v:V}{n:String}(t:TyOf K H v (.type n))(e:Same H H'):isT H' v=isT H v:=by
 cases t with
 |lst q=>rw[bK (e _ _ q) rfl,bK q rfl]
 |frz q=>rw[bK (e _ _ q) rfl,bK q rfl]
 |tup q=>rw[bK (e _ _ q) rfl,bK q rfl]
 |dK q=>rw[bK (e _ _ q) rfl,bK q rfl]
 |dT q=>rw[bK (e _ _ q) rfl,bK q rfl]
 |_=>rfl
def kM(c:Nat):Bool:=(decide ((32:Int)<=c)&&decide ((c:Int)<=126))&&!decide ((c:Int)=37)
def iD(x:Str):Bool:=x.cps.toList.all kM
def nmL(hd:Int)(ns:List Int):List Int:=[hd,ag ns hd.toNat]
def yR(hd:Int)(ns:List Int)(i j:Int):Bool:=(decide (0<=i)&&(decide (i<ns.length)&&decide (1<=j)))&&(decide (j<=ag ns i.toNat)&&!decide ([i,j]=nmL hd ns))
inductive ItemR(K:PySem.W.Frag)(H:Hp)(hd:Int)(ns:List Int):V->Bool->Prop
 |no {v:V} (a:Asked K H v) (e:kC H ns.length v=false):ItemR K H hd ns v false
 |is {a:Addr} {i j:Int} (e:H a=some (.tup [.int i,.int j])):ItemR K H hd ns (.ref a) (yR hd ns i j)
theorem ItemR.same{K:PySem.W.Frag}{H H':Hp}{hd:Int}{ns:List Int}{v:V}{b:Bool}(r:ItemR K H hd ns v b)(s:Same H H'):ItemR K H' hd ns v b:=by
 cases r with
 |no a e=>exact .no (a.same s) (by obtain⟨⟨n,t⟩,_⟩:=a;rw[xb t s];exact e)
 |is e=>exact .is (s _ _ e)
inductive PartR(K:PySem.W.Frag)(H:Hp)(hd:Int)(ns:List Int):Kd->V->Bool->Prop
 |it {v:V} {b:Bool} (r:ItemR K H hd ns v b):PartR K H hd ns .i v b
 |u0:PartR K H hd ns .u .non true
 |up {v:V} {b:Bool} (hv:v≠.non) (r:ItemR K H hd ns v b):PartR K H hd ns .u v b
 |pl {v:V} {b:Bool} (a:Asked K H v) (e:gE H v=b):PartR K H hd ns .p v b
 |tx {x:Str} {b:Bool} (hl:x.length<=1000) (ha:x.cps.all (·<128)=true) (e:(iD x&&decide (x.length<=60))=b):PartR K H hd ns .t (.str x) b
 |tn {v:V} {n:String} (ty:TyOf K H v (.type n)) (hs:isS v=false):PartR K H hd ns .t v false
 |bl {v:V} {n:String} {b:Bool} (ty:TyOf K H v (.type n)) (e:isB v=b):PartR K H hd ns .b v b
 |w0:PartR K H hd ns .w .non true
 |wh {v:V} {n:String} {b:Bool} (hv:v≠.non) (ty:TyOf K H v (.type n)) (e:(bg v 0&&ltB v ns.length)=b):PartR K H hd ns .w v b
 |at{v:V} {n:String} {b:Bool} (ty:TyOf K H v (.type n)) (e:bg v 0=b):PartR K H hd ns .a v b
 |nu {v:V} {n:String} {b:Bool} (ty:TyOf K H v (.type n)) (e:(bg v 1&&ltB v (ag ns hd.toNat))=b):PartR K H hd ns .n v b
theorem PartR.same{K:PySem.W.Frag}{H H':Hp}{hd:Int}{ns:List Int}{k:Kd}{v:V}{b:Bool}(r:PartR K H hd ns k v b)(s:Same H H'):PartR K H' hd ns k v b:=by
 cases r with
 |it r=>exact .it (r.same s)
 |u0=>exact .u0
 |up hv r=>exact .up hv (r.same s)
 |pl a e=>exact .pl (a.same s) (by obtain⟨⟨n,t⟩,_⟩:=a;rw[uF t s];exact e)
 |tx hl ha e=>exact .tx hl ha e
 |tn ty hs=>exact .tn (cC s ty) hs
 |bl ty e=>exact .bl (cC s ty) e
 |w0=>exact .w0
 |wh hv ty e=>exact .wh hv (cC s ty) e
 | «at» ty e=>exact .at (cC s ty) e
 |nu ty e=>exact .nu (cC s ty) e
def PartsR(K:PySem.W.Frag)(H:Hp)(hd:Int)(ns:List Int)(ks:List Kd)(ps:List V)(bs:List Bool):Prop:=ks.length=ps.length/\bs.length=ps.length/\∀(i:Nat) (k:Kd) (v:V) (b:Bool),ks[i]?=some k->ps[i]?=some v->bs[i]?=some b->PartR K H hd ns k v b
theorem PartsR.same{K:PySem.W.Frag}{H H':Hp}{hd:Int}{ns:List Int}{ks:List Kd}{ps:List V}{bs:List Bool}(p:PartsR K H hd ns ks ps bs)(s:Same H H'):PartsR K H' hd ns ks ps bs:=⟨p.1,p.2.1,fun i k v x h1 h2 h3=>(p.2.2 i k v x h1 h2 h3).same s⟩
inductive WhatR(K:PySem.W.Frag)(H:Hp)(hd:Int)(ns:List Int):V->Bool->Prop
 |flat {v:V} {n:String} (ty:TyOf K H v (.type n)) (hT:isT H v=false):WhatR K H hd ns v false
 |emp {a:Addr} (e:H a=some (.tup [])):WhatR K H hd ns (.ref a) false
 |noStr {a:Addr} {x:V} {n:String} {ps:List V} (e:H a=some (.tup (x::ps))) (ty:TyOf K H x (.type n)) (hs:isS x=false):WhatR K H hd ns (.ref a) false
 |noWord {a:Addr} {k:Str} {ps:List V} (e:H a=some (.tup (.str k::ps))) (hk:PyProof.Rows.KTD.datumAt k DT=none):WhatR K H hd ns (.ref a) false
 |len {a:Addr} {k:Str} {ps:List V} {ks:List Kd} (e:H a=some (.tup (.str k::ps))) (hk:PyProof.Rows.KTD.datumAt k DT=some (tw (ks.map nm))) (hl:ps.length≠ks.length):WhatR K H hd ns (.ref a) false
 |is {a:Addr} {k:Str} {ps:List V} {ks:List Kd} {bs:List Bool} {b:Bool} (e:H a=some (.tup (.str k::ps))) (hk:PyProof.Rows.KTD.datumAt k DT=some (tw (ks.map nm))) (l3:ks.length<=3) (p:PartsR K H hd ns ks ps bs) (hb:bs.all id=b):WhatR K H hd ns (.ref a) b
theorem WhatR.same{K:PySem.W.Frag}{H H':Hp}{hd:Int}{ns:List Int}{v:V}{b:Bool}(r:WhatR K H hd ns v b)(s:Same H H'):WhatR K H' hd ns v b:=by
 cases r with
 |flat ty hT=>exact .flat (cC s ty) (by rw[Ba ty s];exact hT)
 |emp e=>exact .emp (s _ _ e)
 |noStr e ty hs=>exact .noStr (s _ _ e) (cC s ty) hs
 |noWord e hk=>exact .noWord (s _ _ e) hk
 |len e hk hl=>exact .len (s _ _ e) hk hl
 |is e hk l3 p hb=>exact .is (s _ _ e) hk l3 (p.same s) hb
inductive DeedR(K:PySem.W.Frag)(H:Hp)(h:Int):V->Bool->Prop
 |flat {v:V} {n:String} (ty:TyOf K H v (.type n)) (hT:isT H v=false):DeedR K H h v false
 |len {a:Addr} {xs:List V} (e:H a=some (.tup xs)) (hl:xs.length≠3):DeedR K H h (.ref a) false
 |hand {a:Addr} {x y z:V} {n:String} (e:H a=some (.tup [x,y,z])) (ty:TyOf K H x (.type n)) (hx:(bg x 0&&ltB x h)=false):DeedR K H h (.ref a) false
 |clock {a:Addr} {i:Int} {y z:V} (e:H a=some (.tup [.int i,y,z])) (i0:0<=i) (i1:i<h) (ay:Asked K H y) (hc:jo H h y=false):DeedR K H h (.ref a) false
 |zero {a c:Addr} {i:Int} {ns:List Int} {z:V} (e:H a=some (.tup [.int i,.ref c,z])) (i0:0<=i) (i1:i<h) (ec:H c=some (.tup (ns.map V.int))) (hl:(ns.length:Int)=h) (hn:∀n∈ns,0<=n) (h8:h<=8) (h0:ag ns i.toNat<1):DeedR K H h (.ref a) false
 |is {a c:Addr} {i:Int} {ns:List Int} {z:V} {b:Bool} (e:H a=some (.tup [.int i,.ref c,z])) (i0:0<=i) (i1:i<h) (ec:H c=some (.tup (ns.map V.int))) (hl:(ns.length:Int)=h) (hn:∀n∈ns,0<=n) (h8:h<=8) (h1:1<=ag ns i.toNat) (w:WhatR K H i ns z b):DeedR K H h (.ref a) b
def pV(K:PySem.W.Frag):Sp:=fun vs H Q _=>∃v n,vs=[v]/\TyOf K H v (.type n)/\Q (.bl (eA v)) H
def iE(K:PySem.W.Frag):Sp:=fun vs H Q _=>∃v n lo,vs=[v,.int lo]/\TyOf K H v (.type n)/\Q (.bl (bg v lo)) H
def vQ(K:PySem.W.Frag):Sp:=fun vs H Q _=>∃v h,vs=[v,.int h]/\Asked K H v/\Q (.bl (kC H h v)) H
def qE(K:PySem.W.Frag):Sp:=fun vs H Q _=>∃v h,vs=[v,.int h]/\Asked K H v/\∀H',Same H H'->Q (.bl (jo H h v)) H'
def pW:Sp:=fun vs H Q _=>∃(a b:Addr) (xs:List V) (i j z:Int),vs=[.ref a,.ref b]/\H a=some (.tup xs)/\H b=some (.tup [.int i,.int j])/\atI xs i=some (.int z)/\Q (.bl (decide (j<=z))) H
def tV(K:PySem.W.Frag):Sp:=fun vs H Q _=>∃v n,vs=[v]/\TyOf K H v (.type n)/\(isS v=false->Q (.bl false) H)/\(∀k,v=.str k->Q (.bl (PyProof.Rows.KTD.datumAt k DT).isSome) H)
def vR(K:PySem.W.Frag):Sp:=fun vs H Q _=>∃(k:Str) (ws:List Str),vs=[.str k]/\PyProof.Rows.KTD.datumAt k DT=some (tw ws)/\∀t,(∀H',SqT K H' t (ws.map V.str))->Q (.ref t) H
def qF(K:PySem.W.Frag):Sp:=fun vs H Q _=>∃v,vs=[v]/\Asked K H v/\∀H',Same H H'->Q (.bl (gE H v)) H'
def Ae:Sp:=fun vs H Q _=>∃c:Nat,vs=[.str ⟨#[c]⟩]/\Q (.bl (kM c)) H
def tS(K:PySem.W.Frag):Sp:=fun vs H Q _=>∃v,vs=[v]/\((∃n,TyOf K H v (.type n)/\isS v=false/\Q (.bl false) H)\/∃x:Str,v=.str x/\x.length<=1000/\x.cps.all (·<128)=true/\∀H',Same H H'->Q (.bl (iD x)) H')
def tQ(K:PySem.W.Frag):Sp:=fun vs H Q _=>∃v n h,vs=[v,.int h]/\TyOf K H v (.type n)/\Q (.bl (bg v 0&&ltB v h)) H
def vP(K:PySem.W.Frag):Sp:=fun vs H Q _=>∃(v:V) (b:Bool) (c:Addr) (hd:Int) (ns:List Int),vs=[v,.int hd,.ref c]/\H c=some (.tup (ns.map V.int))/\0<=hd/\hd<ns.length/\ItemR K H hd ns v b/\∀H',Same H H'->Q (.bl b) H'
def tR(K:PySem.W.Frag):Sp:=fun vs H Q _=>∃(k:Kd) (v:V) (b:Bool) (c:Addr) (hd:Int) (ns:List Int),vs=[.str (nm k),v,.int hd,.ref c]/\H c=some (.tup (ns.map V.int))/\0<=hd/\hd<ns.length/\PartR K H hd ns k v b/\∀H',Same H H'->Q (.bl b) H'
def tU(K:PySem.W.Frag):Sp:=fun vs H Q _=>∃(v:V) (b:Bool) (c:Addr) (hd:Int) (ns:List Int),vs=[v,.int hd,.ref c]/\H c=some (.tup (ns.map V.int))/\0<=hd/\hd<ns.length/\WhatR K H hd ns v b/\∀H',Same H H'->Q (.bl b) H'
def tO(K:PySem.W.Frag):Sp:=fun vs H Q _=>∃(v:V) (b:Bool) (h:Int),vs=[v,.int h]/\DeedR K H h v b/\∀H',Same H H'->Q (.bl b) H'
def tx(b:Bool):Str:=match b with
 |true=>"unlike"
 |false=>"text"
def WR(H:Hp)(v:V):Option (Int×Bool)->Prop
 |none=>∃p,v=.ref p/\H p=some (.tup [.str "none"])
 |some m=>∃p q,v=.ref p/\H p=some (.tup [.str "put",.non,.ref q,.str (tx m.2)])/\H q=some (.tup ([m.1].map V.int))
def DR(H:Hp)(a:Addr)(d:Dd):Prop:=∃(c:Addr) (v:V),H a=some (.tup [.int (d.h:Int),.ref c,v])/\H c=some (.tup (d.ns.map V.int))/\WR H v d.w/\d.h<d.ns.length/\d.ns.length<=8
def aG(L:LT):List V:=L.map fun x=>V.ref x.1
theorem aW(L:LT):(aG L).length=L.length:=Zb ..
theorem fm(L:LT):(vals L).length=L.length:=Zb ..
def LR(H:Hp)(l:Addr)(L:LT):Prop:=H l=some (.lst (aG L))/\∀x∈L,DR H x.1 x.2
def TS(H H':Hp):Prop:=∀a zs,H a=some (.tup zs)->H' a=some (.tup zs)
theorem Same.ts{H H':Hp}(e:Same H H'):TS H H':=fun a zs h=>e a _ h
theorem TS.trans{H H' H2:Hp}(e:TS H H')(f:TS H' H2):TS H H2:=fun a zs h=>f a zs (e a zs h)
theorem me{T:Addr}{H H':Hp}(hT:∀zs,H T≠some (.tup zs))(s:SameT T H H'):TS H H':=fun a zs h=>s a _ h fun z=>hT zs (by rw[<-z];exact h)
theorem jV{H:Hp}{p:Addr}{o:HO}(hp:∀zs,H p≠some (.tup zs)):TS H (upd H p o):=fun a zs h=>by rw[ad (fun z=>hp zs (by rw[<-z];exact h))];exact h
theorem WR.ts{H H':Hp}{v:V}{w:Option (Int×Bool)}(x:WR H v w)(e:TS H H'):WR H' v w:=by
 cases w with
 |none =>obtain⟨p,h1,h2⟩:=x;exact⟨p,h1,e _ _ h2⟩
 |some w =>obtain⟨p,q,h1,h2,h3⟩:=x;exact⟨p,q,h1,e _ _ h2,e _ _ h3⟩
theorem DR.ts{H H':Hp}{a:Addr}{d:Dd}(x:DR H a d)(e:TS H H'):DR H' a d:=by obtain⟨c,v,h1,h2,h3,h4⟩:=x;exact⟨c,v,e _ _ h1,e _ _ h2,h3.ts e,h4⟩
theorem DR.same{H H':Hp}{a:Addr}{d:Dd}(x:DR H a d)(e:Same H H'):DR H' a d:=x.ts (Same.ts e)
theorem LR.same{H H':Hp}{l:Addr}{L:LT}(x:LR H l L)(e:Same H H'):LR H' l L:=⟨e _ _ x.1,fun y hy=>(x.2 y hy).same e⟩
theorem at0{x:V}{r:List V}:atI (x::r) 0=some x:=eZ (xs:=x::r) (j:=0) rfl
theorem at1{x y:V}{r:List V}:atI (x::y::r) 1=some y:=eZ (xs:=x::y::r) (j:=1) rfl
theorem cY{ns:List Int}{k:Nat}(h:k<ns.length):atI (ns.map V.int) (k:Int)=some (.int (ag ns k)):=by have:=cg (ns:=ns) (k:=(k:Int)) (by omega) (by omega);rw[show((k:Int)).toNat=k by omega]at this;exact this
theorem iY{L:LT}{k:Nat}{x:V}(h:(aG L)[k]?=some x):∃hk:k<L.length,x=.ref L[k].1:=by
 have hk:k<L.length:=by have:=(ZH.mp h).1;rw[aW]at this;exact this
 refine⟨hk,?_⟩;unfold aG at h;rw[ZB,Zd hk]at h;exact(ZE h).symm
def wD:Option (Int×Bool)->PyData
 |none=>.tuple [.str "none"]
 |some m=>.tuple [.str "put",.none,.tuple [.int m.1],.str (tx m.2)]
def dD(d:Dd):PyData:=.tuple [.int (d.h:Int),.tuple (d.ns.map .int),wD d.w]
theorem io{H:Hp}:∀ns:List Int,DtAll H (ns.map .int) (ns.map V.int)
 | []=>by simp[DtAll]
 |n::ns=>by show DtAll H (PyData.int n::ns.map .int) (V.int n::ns.map V.int);simp only[DtAll];exact⟨_,_,rfl,by simp only[Dt],io ns⟩
theorem WR.dt{H:Hp}{v:V}{w:Option (Int×Bool)}(x:WR H v w):Dt H (wD w) v:=by
 cases w with
 |none =>obtain⟨p,rfl,h2⟩:=x;unfold wD;simp only[Dt,DtAll];exact⟨p,_,rfl,.inl h2,_,_,rfl,rfl,rfl⟩
 |some w =>obtain⟨p,q,rfl,h2,h3⟩:=x;unfold wD;simp only[Dt,DtAll];exact⟨p,_,rfl,.inl h2,_,_,rfl,rfl,_,_,rfl,rfl,_,_,rfl,⟨q,_,rfl,.inl h3,_,_,rfl,rfl,rfl⟩,_,_,rfl,rfl,rfl⟩
theorem DR.dt{H:Hp}{a:Addr}{d:Dd}(x:DR H a d):Dt H (dD d) (.ref a):=by obtain⟨c,v,h1,h2,h3,_⟩:=x;have dw:=h3.dt;have dn:=io (H:=H) d.ns;unfold dD;simp only[Dt,DtAll];exact⟨a,_,rfl,.inl h1,_,_,rfl,rfl,_,_,rfl,⟨c,_,rfl,.inl h2,dn⟩,_,_,rfl,dw,rfl⟩
theorem rX{H:Hp}:∀{L:LT},(∀x∈L,DR H x.1 x.2)->DtAll H ((vals L).map dD) (aG L)
 | [],_=>by simp[DtAll,vals,aG]
 |x::L,h=>by show DtAll H (dD x.2::(vals L).map dD) (V.ref x.1::aG L);simp only[DtAll];exact⟨_,_,rfl,(h x (by simp)).dt,rX fun y hy=>h y (by simp[hy])⟩
theorem LR.dt{H:Hp}{l:Addr}{L:LT}(x:LR H l L):Dt H (.list ((vals L).map dD)) (.ref l):=by simp only[Dt];exact⟨l,_,rfl,.inl x.1,rX x.2⟩
def WOk(_:Option (Int×Bool)):Prop:=True
theorem WR.ok{H:Hp}{v:V}{w:Option (Int×Bool)}(_:WR H v w):WOk w:=trivial
theorem lO:∀ns:List Int,PyData.canLayAll0 (ns.map .int)=true/\PyData.depthAll (ns.map .int)<=1
 | []=>⟨rfl,by simp[PyData.depthAll]⟩
 |n::ns=>by obtain⟨h1,h2⟩:=lO ns;simp only[Z0,PyData.canLayAll0,PyData.depthAll,PyData.canLay0,PyData.depth,h1];exact⟨rfl,by omega⟩
theorem GY{w:Option (Int×Bool)}(h:WOk w):(wD w).canLay0=true/\(wD w).depth<=3:=by
 cases w with
 |none=>exact⟨by simp[wD,PyData.canLay0,PyData.canLayAll0];decide +kernel,by simp[wD,PyData.depth,PyData.depthAll]⟩
 |some w =>obtain⟨m,b⟩:=w;refine⟨?_,by simp[wD,PyData.depth,PyData.depthAll]⟩;simp[wD,PyData.canLay0,PyData.canLayAll0];cases b<;>decide +kernel
theorem ko{d:Dd}(h:WOk d.w):(dD d).canLay0=true/\(dD d).depth<=4:=by obtain⟨a1,a2⟩:=lO d.ns;obtain⟨b1,b2⟩:=GY h;unfold dD;simp only[PyData.canLay0,PyData.canLayAll0,PyData.depth,PyData.depthAll,a1,b1];exact⟨rfl,by omega⟩
theorem kn:∀{L:List Dd},(∀d∈L,WOk d.w)->PyData.canLayAll0 (L.map dD)=true/\PyData.depthAll (L.map dD)<=5
 | [],_=>⟨rfl,by simp[PyData.depthAll]⟩
 |x::L,h=>by obtain⟨h1,h2⟩:=kn (L:=L) fun r hr=>h r (by simp[hr]);obtain⟨h3,h4⟩:=ko (h x (by simp));simp only[Z0,PyData.canLayAll0,PyData.depthAll,h1,h3];exact⟨rfl,by omega⟩
theorem LR.ok{H:Hp}{l:Addr}{L:LT}(x:LR H l L):∀d∈vals L,WOk d.w:=fun r hr=>by obtain⟨y,hy,rfl⟩:=Zi.mp hr;obtain⟨_,_,_,_,h3,_⟩:=x.2 y hy;exact h3.ok
theorem nF{L:List Dd}(h:∀d∈L,WOk d.w):SeqAt.shaped (.list (L.map dD))=true:=by obtain⟨h1,h2⟩:=kn h;unfold SeqAt.shaped;rw[Zz];refine⟨by simpa[PyData.canLay0]using h1,decide_eq_true ?_⟩;simp only[PyData.depth];omega
theorem C2{L:List Dd}(h:∀d∈L,WOk d.w):PyData.eqv (.list (L.map dD)) (.list (L.map dD))=true:=SeqAt.eqv_refl _ (by simpa[PyData.canLay0]using(kn h).1)
def uc:Sp:=fun vs H Q _=>∃(a b:Addr) (ns ms:List Int),vs=[.ref a,.ref b]/\H a=some (.tup (ns.map V.int))/\H b=some (.tup (ms.map V.int))/\ns.length=ms.length/\ns.length<=8/\∀H',Same H H'->Q (.bl (cD ns ms)) H'
def eV:Sp:=fun vs H Q _=>∃(a:Addr) (d:Dd),vs=[.ref a]/\DR H a d/\∀p H',Same H H'->H' p=some (.tup ((nmZ d).map V.int))->Q (.ref p) H'
def NA(H:Hp)(d:Dd)(as:List Addr)(is:List Nat):Prop:=as.length=is.length/\∀(k:Nat) (b:Addr) (i:Nat),as[k]?=some b->is[k]?=some i->H b=some (.tup ([(i:Int),aB d i].map V.int))
def vL:Sp:=fun vs H Q _=>∃(a:Addr) (d:Dd),vs=[.ref a]/\DR H a d/\∀p H' as,Same H H'->H' p=some (.lst (as.map V.ref))->NA H' d as (dv d)->Q (.ref p) H'
def zY:Sp:=fun vs H Q _=>∃(a nm r:Addr) (d:Dd) (i:Nat) (R:LT) (n:Nat),vs=[.ref a,.ref nm,.ref r]/\DR H a d/\H nm=some (.tup ([(i:Int),aB d i].map V.int))/\H r=some (.dT (ah R))/\(∀x∈R,DR H x.1 x.2)/\(∀x∈R,x.2.ns.length=n)/\d.ns.length=n/\∀H',Same H H'->Q (.bl (cW (vals R) d i)) H'
theorem fj(R:LT)(k:List Key):bo (ah R) k=(R.find? fun x=>decide (nmK x.2=k)).map fun x=>V.ref x.1:=by unfold bo ah;rw[List.find?_map,Option.map_map];rfl
theorem yB(R:LT)(k:List Key):(vals R).find? (fun e=>decide (nmK e=k))=(R.find? fun x=>decide (nmK x.2=k)).map Prod.snd:=by unfold vals;rw[List.find?_map];rfl
def zZ(K:PySem.W.Frag):Sp:=fun vs H Q _=>∃(a:Addr) (ns:List Int) (k:Int),vs=[.ref a,.int k]/\SqL K H a (ns.map V.int)/\0<=k/\Q (.int (ag ns k.toNat)) H
def xN:Sp:=fun vs H Q _=>∃(a:Addr) (d:Dd),vs=[.ref a]/\DR H a d/\∀p H',Same H H'->H' p=some (.tup ((kyZ d).map V.int))->Q (.ref p) H'
section
variable{P:Program}{w:World}{K:PySem.W.Frag}{mg:Str->Option Value}{base:Heap}
abbrev ii:Stmt:=top 1
abbrev uq:List Str:=["thing"]
theorem tJ:FnScope uq ["thing"] (aq ii):=⟨rfl,rfl,rfl,by decide +kernel,rfl,by decide +kernel,by decide +kernel⟩
theorem sO{f:Addr}{fd:FuncData}(F:Fun K "is_number" "is_number" ii f fd)(a6:mg "isinstance" = none)(IJ:mg "int" = none)(v9:mg "bool" = none) :
  FnOk P w K mg base CX0 1 f fd ["thing"] (pV K):=by
 refine F.okQ tJ (fun vs H Q E h=>?_) (fun cdv A outer s H vs Q E hr h=>?_)
 ·obtain⟨v,n,rfl,_⟩:=h;rfl
 obtain⟨v,n,rfl,ty,q⟩:=h;refine⟨_,(b_1 (aw (cu (q_B fw a6 aX (q_a (q_v 0) (q_a (hV IJ rJ) aj))) (cw (Hj (q_B fw a6 aX (q_a (q_v 0) (q_a (hV v9 qh) aj)))))))),?_⟩
 try rw[cxK]
 refine⟨v,rfl,v,"int",.type n,isI v,rfl,ty,C8 ty,_,rfl,?_⟩;refine iT (fun c=>?_) (fun c=>?_)
 ·refine⟨v,rfl,v,"bool",.type n,isB v,rfl,ty,su ty,_,rfl,?_⟩;have e:(!isB v)=eA v:=by cases v<;>simp_all [isI,isB,eA]
  show Q (.bl (!isB v)) H;rw[e];exact q
 ·have e:eA v=false:=by cases v<;>simp_all [isI,eA]
  rw[e]at q;exact q
abbrev je:Stmt:=top 2
abbrev wg:List Str:=["thing","low"]
theorem uJ:FnScope wg ["thing","low"] (aq je):=⟨rfl,rfl,rfl,by decide +kernel,rfl,by decide +kernel,by decide +kernel⟩
theorem uD{f:Addr}{fd:FuncData}(F:Fun K "is_whole" "is_whole" je f fd)(g9:Fn P w K mg base 1 "is_number" ["thing"] (pV K)):FnOk P w K mg base CX0 2 f fd ["thing","low"] (iE K):=by
 refine F.okQ uJ (fun vs H Q E h=>?_) (fun cdv A outer s H vs Q E hr h=>?_)
 ·obtain⟨v,n,lo,rfl,_⟩:=h;rfl
 obtain⟨v,n,lo,rfl,ty,q⟩:=h;refine⟨_,(b_1 (aw (cu (aF g9 (hr.mono (by decide)) (q_a (q_v 0) aj)) (cw (bX Bj (q_v 0) (q_v 1)))))),?_⟩
 try rw[cxK]
 refine⟨v,rfl,v,n,rfl,ty,_,rfl,?_⟩;refine iT (fun c=>?_) (fun c=>?_)
 ·cases v with
  |int i=>exact⟨_,rfl,_,rfl,i,lo,rfl,rfl,q⟩
  |_=>cases c
 ·have e:bg v lo=false:=by
   cases v with
   |int i=>exact absurd rfl c
   |_=>rfl
  rw[e]at q;exact q
abbrev jK:Stmt:=top 3
abbrev xZ:List Str:=["thing","hands"]
theorem xG:FnScope xZ ["thing","hands"] (aq jK):=⟨rfl,rfl,rfl,by decide +kernel,rfl,by decide +kernel,by decide +kernel⟩
theorem xp{f:Addr}{fd:FuncData}(F:Fun K "is_name" "is_name" jK f fd)(a8:Fn P w K mg base 2 "is_whole" ["thing","low"] (iE K))(a6:mg "isinstance" = none)(b9:mg "tuple" = none)(a7:mg "len" = none) :
  FnOk P w K mg base CX0 3 f fd ["thing","hands"] (vQ K):=by
 refine F.okQ xG (fun vs H Q E h=>?_) (fun cdv A outer s H vs Q E hr h=>?_)
 ·obtain⟨v,h,rfl,_⟩:=h;rfl
 obtain⟨v,h,rfl,⟨⟨n,ty⟩,hx⟩,q⟩:=h;refine⟨_,(b_c (aZ (t_w (fR (bY (bJ (q_B fw a6 aX (q_a (q_v 0) (q_a (hV b9 di) aj))))) (eX (aS jC (q_B bG a7 ZO (q_a (q_v 0) aj)) am)))) (b_1 (aw bR)) b_0)
   (b_1 (aw (cu (aF a8 (hr.mono (by decide)) (q_a (aA aC (q_v 0) am) (q_a am aj))) (cu (bX oZ (aA aC (q_v 0) am) (q_v 1)) (cw (aF a8 (hr.mono (by decide)) (q_a (aA aC (q_v 0) am) (q_a am aj))))))))),?_⟩
 try rw[cxK]
 refine⟨v,rfl,v,"tuple",.type n,isT H v,rfl,ty,iw ty,_,rfl,?_⟩;cases hT:isT H v with
 |false =>refine aK (aK ?_);rw[(yM (h:=h) ty hT).1]at q;exact q
 |true =>
  obtain⟨a,xs,rfl,hH⟩:=oO hT;obtain⟨hl,hk⟩:=hx a xs rfl hH;rw[bq hH]at q;refine aE ?_;refine⟨_,rfl,a,xs,rfl,.inr (SqT.of hH),rfl,_,rfl,?_⟩;refine qZ (fun c=>?_) (fun c=>?_)
  ·have e:re h (some (.tup xs))=false:=by
    match xs,c with
    | [],_=>rfl
    | [_],_=>rfl
    | [_,_],c=>exact absurd rfl c
    |_::_::_::_,_=>rfl
   rw[e]at q;exact q
  ·obtain⟨x,y,rfl⟩:∃x y,xs=[x,y]:=by
    match xs,c with
    | [x,y],_=>exact⟨x,y,rfl⟩
    | [],c=>simp at c
    | [_],c=>simp at c
    |_::_::_::r,c=>simp at c;omega
   obtain⟨mx,tx⟩:=hk x (by simp);obtain⟨my,ty'⟩:=hk y (by simp);have q':Q (.bl (bg x 0&&(ltB x h&&bg y 1))) H:=q;refine⟨_,rfl,a,_,_,x,rfl,rfl,SqT.of hH,rfl,x,mx,0,rfl,tx,_,rfl,?_⟩;refine iT (fun c1=>?_) (fun c1=>?_)
   ·cases x with
    |int i =>
     rw[c1,x9]at q';refine⟨_,rfl,a,_,_,.int i,rfl,rfl,SqT.of hH,rfl,_,rfl,_,_,rfl,rfl,_,rfl,?_⟩;refine iT (fun c2=>?_) (fun c2=>?_)
     ·have q2:Q (.bl (decide (i<h)&&bg y 1)) H:=q';rw[c2,x9]at q2;exact⟨_,rfl,a,_,_,y,rfl,rfl,SqT.of hH,rfl,y,my,1,rfl,ty',q2⟩
     ·have q2:Q (.bl (decide (i<h)&&bg y 1)) H:=q';rw[y7.mpr c2,YO]at q2;exact q2
    |_=>cases c1
   ·rw[y7.mpr c1,YO]at q';exact q'
abbrev jc:Stmt:=top 4
abbrev wd:List Str:=["thing","hands"]
theorem uH:FnScope wd ["thing","hands"] (aq jc):=⟨rfl,rfl,rfl,by decide +kernel,rfl,by decide +kernel,by decide +kernel⟩
theorem uB{f:Addr}{fd:FuncData}(F:Fun K "is_clock" "is_clock" jc f fd)(a8:Fn P w K mg base 2 "is_whole" ["thing","low"] (iE K))(a6:mg "isinstance" = none)(b9:mg "tuple" = none)(a7:mg "len" = none)(d6:mg "all" = none) :
  FnOk P w K mg base CX0 3 f fd ["thing","hands"] (qE K):=by
 refine F.okQ uH (fun vs H Q E h=>?_) (fun cdv A outer s H vs Q E hr h=>?_)
 ·obtain⟨v,h,rfl,_⟩:=h;rfl
 obtain⟨v,h,rfl,⟨⟨n,ty⟩,hx⟩,q⟩:=h;refine⟨_,(b_c (aZ (t_w (fR (bY (bJ (q_B fw a6 aX (q_a (q_v 0) (q_a (hV b9 di) aj))))) (eX (aS jC (q_B bG a7 ZO (q_a (q_v 0) aj)) (q_v 1))))) (b_1 (aw bR)) b_0)
   (b_1 (aw (q_B (jZ rfl) d6 dS (q_a (bS (own:=["number"]) (⟨rfl,by decide +kernel,by decide +kernel,rfl,trivial⟩:CompOk _ _ [] []) rfl (Cl (q_v 0)) (fun _ _ _ _=>aL (i:=0) (show (["number"]:List Str).Nodup by decide +kernel)) (bj (by decide)) (fun _ _ _ _=>gj) (fun _ _ _ _=>(aF a8 (hr.mono (by decide)) (q_a (q_v 0) (q_a am aj))))) aj))))),?_⟩
 try rw[cxK]
 refine⟨v,rfl,v,"tuple",.type n,isT H v,rfl,ty,iw ty,_,rfl,?_⟩;cases hT:isT H v with
 |false =>refine aK (aK ?_);have q':=q H (Same.refl H);rw[(yM (h:=h) ty hT).2]at q';exact q'
 |true =>
  obtain⟨a,xs,rfl,hH⟩:=oO hT;obtain⟨hl,hk⟩:=hx a xs rfl hH;rw[dU hH]at q;have q:∀H',Same H H'->Q (.bl (decide ((xs.length:Int)=h)&&xs.all (fun x=>bg x 0))) H':=q;refine aE ?_;refine⟨_,rfl,a,xs,rfl,.inr (SqT.of hH),_,rfl,rfl,_,rfl,?_⟩;refine qZ (fun c=>?_) (fun c=>?_)
  ·have q':=q H (Same.refl H);rw[decide_eq_false c,YO]at q';exact q'
  ·refine⟨_,rfl,a,rfl,⟨xs,SqT.of hH⟩,?_⟩;refine rV (xs:=xs) (fun i=>.bl (bg ((xs[i]?).getD .non) 0)) hl (SqT.of hH) (fun i x H1 hi sm R k=>?_) (fun p H1 sm hp=>?_)
   ·obtain⟨m,tx⟩:=hk x (y8 hi);have k':=k H1 (Same.refl H1);rw[hi]at k';exact⟨x,rfl,x,m,0,rfl,cC sm tx,k'⟩
   ·refine⟨p,(List.range xs.length).map (fun i=>bg ((xs[i]?).getD .non) 0),rfl,SqL.of ?_,?_⟩
    ·rw[af,Yp];rfl
    ·rw[mw (fun x=>bg x 0)];have q':=q (upd H1 p (.lst ((List.range xs.length).map (fun i=>V.bl (bg ((xs[i]?).getD .non) 0))))) (sm.trans (ai hp _));rw[decide_eq_true c,x9]at q';exact q'
abbrev jd:Stmt:=top 19
abbrev wf:List Str:=["thing"]
theorem uI:FnScope wf ["thing"] (aq jd):=⟨rfl,rfl,rfl,by decide +kernel,rfl,by decide +kernel,by decide +kernel⟩
theorem uC{f:Addr}{fd:FuncData}{tk:Tok}(F:Fun K "is_place" "is_place" jd f fd)(g9:Fn P w K mg base 1 "is_number" ["thing"] (pV K))(a6:mg "isinstance" = none)(b9:mg "tuple" = none)(a7:mg "len" = none)(d6:mg "all" = none)(j0:mg "MOST_NUMBERS" = some (.int 64 tk)) :
  FnOk P w K mg base CX0 2 f fd ["thing"] (qF K):=by
 refine F.okQ uI (fun vs H Q E h=>?_) (fun cdv A outer s H vs Q E hr h=>?_)
 ·obtain⟨v,rfl,_⟩:=h;rfl
 obtain⟨v,rfl,⟨⟨n,ty⟩,hx⟩,q⟩:=h;refine⟨_,(b_c (aZ (t_w (fR (bY (bJ (q_B fw a6 aX (q_a (q_v 0) (q_a (hV b9 di) aj))))) (eX (bY (Eh oY oY am (q_B bG a7 ZO (q_a (q_v 0) aj)) (sR j0)))))) (b_1 (aw bR)) b_0)
   (b_1 (aw (q_B (jZ rfl) d6 dS (q_a (bS (own:=["number"]) (⟨rfl,by decide +kernel,by decide +kernel,rfl,trivial⟩:CompOk _ _ [] []) rfl (Cl (q_v 0)) (fun _ _ _ _=>aL (i:=0) (show (["number"]:List Str).Nodup by decide +kernel)) (bj (by decide)) (fun _ _ _ _=>gj) (fun _ _ _ _=>(aF g9 (hr.mono (by decide)) (q_a (q_v 0) aj)))) aj))))),?_⟩
 try rw[cxK]
 refine⟨v,rfl,v,"tuple",.type n,isT H v,rfl,ty,iw ty,_,rfl,?_⟩;cases hT:isT H v with
 |false =>
  refine aK (aK ?_);have e:gE H v=false:=by
   cases ty with
   |lst z=>exact bf z
   |frz z=>exact bf z
   |tup z=>rw[bK z (b:=true) rfl]at hT;cases hT
   |dK z=>exact bf z
   |dT z=>exact bf z
   |_=>rfl
  have q':=q H (Same.refl H);rw[e]at q';exact q'
 |true =>
  obtain⟨a,xs,rfl,hH⟩:=oO hT;obtain⟨hl,hk⟩:=hx a xs rfl hH;have eB:gE H (.ref a)=(decide (1<=xs.length)&&decide (xs.length<=64)&&xs.all eA):=bf hH;rw[eB]at q;refine aE ?_;refine⟨_,rfl,a,xs,rfl,.inr (SqT.of hH),_,_,rfl,rfl,_,rfl,?_⟩;refine iT (fun c=>?_) (fun c=>?_)
  ·have c1:1<=xs.length:=by have:=ZJ c;omega
   refine⟨_,_,rfl,rfl,_,rfl,?_⟩;by_cases c2:xs.length<=64
   ·have e2:decide ((xs.length:Int)<=64)=true:=decide_eq_true (by omega);rw[e2];refine aE ?_;refine⟨_,rfl,a,rfl,⟨xs,SqT.of hH⟩,?_⟩;refine rV (xs:=xs) (fun i=>.bl (eA ((xs[i]?).getD .non))) hl (SqT.of hH) (fun i x H1 hi sm R k=>?_) (fun p H1 sm hp=>?_)
    ·obtain⟨m,tx⟩:=hk x (y8 hi);refine⟨x,rfl,x,m,rfl,cC sm tx,?_⟩;have k':=k H1 (Same.refl H1);rw[hi]at k';exact k'
    ·refine⟨p,(List.range xs.length).map (fun i=>eA ((xs[i]?).getD .non)),rfl,SqL.of ?_,?_⟩
     ·rw[af,Yp];rfl
     ·rw[mw eA];have q':=q (upd H1 p (.lst ((List.range xs.length).map (fun i=>V.bl (eA ((xs[i]?).getD .non)))))) (sm.trans (ai hp _));rw[decide_eq_true c1,decide_eq_true c2,x9,x9]at q';exact q'
   ·have e2:decide ((xs.length:Int)<=64)=false:=decide_eq_false (by omega);rw[e2];refine aK ?_;have q':=q H (Same.refl H);rw[decide_eq_false c2,Bool.and_false,YO]at q';exact q'
  ·have c1:¬1<=xs.length:=by have:=YJ (y7.mpr c);omega
   refine⟨_,rfl,?_⟩;refine aK ?_;have q':=q H (Same.refl H);rw[decide_eq_false c1,YO,YO]at q';exact q'
abbrev pK:Stmt:=top 8
abbrev CV:List Str:=["clock","name"]
theorem BV:FnScope CV ["clock","name"] (aq pK):=⟨rfl,rfl,rfl,by decide +kernel,rfl,by decide +kernel,by decide +kernel⟩
theorem Bq{f:Addr}{fd:FuncData}(F:Fun K "tells" "tells" pK f fd):FnOk P w K mg base CX0 1 f fd ["clock","name"] pW:=by
 refine F.okQ BV (fun vs H Q E h=>?_) (fun cdv A outer s H vs Q E hr h=>?_)
 ·obtain⟨a,b,xs,i,j,z,rfl,_⟩:=h;rfl
 obtain⟨a,b,xs,i,j,z,rfl,hA,hB,hz,q⟩:=h;refine⟨_,(b_1 (aw (bX Bj (aA aC (q_v 0) (aA aC (q_v 1) am)) (aA aC (q_v 1) am)))),?_⟩
 try rw[cxK]
 exact⟨_,rfl,_,rfl,b,_,_,_,rfl,rfl,SqT.of hB,rfl,a,_,_,_,rfl,rfl,SqT.of hA,hz,_,rfl,b,_,_,_,rfl,rfl,SqT.of hB,rfl,_,_,rfl,rfl,q⟩
abbrev fe:Stmt:=top 11
abbrev nZ:List Str:=["thing"]
theorem nq:FnScope nZ ["thing"] (aq fe):=⟨rfl,rfl,rfl,by decide +kernel,rfl,by decide +kernel,by decide +kernel⟩
abbrev gL:Stmt:=top 12
abbrev rF:List Str:=["word"]
theorem qU:FnScope rF ["word"] (aq gL):=⟨rfl,rfl,rfl,by decide +kernel,rfl,by decide +kernel,by decide +kernel⟩
theorem mU{f:Addr}{fd:FuncData}(F:Fun K "is_deed_word" "is_deed_word" fe f fd){dd:Addr}(d8:mg "DEED_PARTS" = some (.ref dd))(T:Tab K dd DT)(a6:mg "isinstance" = none)(IK:mg "str" = none):FnOk P w K mg base CX0 1 f fd ["thing"] (tV K):=by
 refine F.okQ nq (fun vs H Q E h=>?_) (fun cdv A outer s H vs Q E hr h=>?_)
 ·obtain⟨v,n,rfl,_⟩:=h;rfl
 obtain⟨v,n,rfl,ty,q0,q⟩:=h;refine⟨_,(b_1 (aw (cu (q_B fw a6 aX (q_a (q_v 0) (q_a (hV IK rK) aj))) (cw (bX Dg (q_v 0) (FV d8)))))),?_⟩
 try rw[cxK]
 refine⟨_,rfl,v,"str",.type n,isS v,rfl,ty,vw ty,_,rfl,?_⟩;refine iT (fun c=>?_) (fun c=>?_)
 ·cases v with
  |str k=>exact⟨_,rfl,dd,k,DT,rfl,rfl,T,q k rfl⟩
  |_=>cases c
 ·exact q0 (y7.mpr c)
theorem qS{f:Addr}{fd:FuncData}(F:Fun K "deed_parts" "deed_parts" gL f fd){dd:Addr}(d8:mg "DEED_PARTS" = some (.ref dd))(T:Tab K dd DT):FnOk P w K mg base CX0 1 f fd ["word"] (vR K):=by
 refine F.okQ qU (fun vs H Q E h=>?_) (fun cdv A outer s H vs Q E hr h=>?_)
 ·obtain⟨k,ws,rfl,_⟩:=h;rfl
 obtain⟨k,ws,rfl,hk,q⟩:=h;refine⟨_,(b_1 (aw (aA Hx (FV d8) (q_v 0)))),?_⟩
 try rw[cxK]
 exact⟨_,rfl,dd,k,DT,tw ws,rfl,rfl,T,hk,q⟩
abbrev jM:Stmt:=top 25
abbrev yb:List Str:=["sign"]
theorem xI:FnScope yb ["sign"] (aq jM):=⟨rfl,rfl,rfl,by decide +kernel,rfl,by decide +kernel,by decide +kernel⟩
theorem xr{f:Addr}{fd:FuncData}{t1 t2 t3:Tok}(F:Fun K "is_sign" "is_sign" jM f fd)(Jl:mg "ord" = none)(t8:mg "FIRST_SIGN" = some (.int 32 t1))(v6:mg "LAST_SIGN" = some (.int 126 t2))(j8:mg "PERCENT_SIGN" = some (.int 37 t3)):FnOk P w K mg base CX0 1 f fd ["sign"] Ae:=by
 refine F.okQ xI (fun vs H Q E h=>?_) (fun cdv A outer s H vs Q E hr h=>?_)
 ·obtain⟨c,rfl,_⟩:=h;rfl
 obtain⟨c,rfl,q⟩:=h;refine⟨_,(b_1 (aw (cu (DU oY oY (sR t8) (q_B Cd Jl PyProof.Rows.bootS_ord (q_a (q_v 0) aj)) (sR v6)) (cw (bX jC (q_B Cd Jl PyProof.Rows.bootS_ord (q_a (q_v 0) aj)) (sR j8)))))),?_⟩
 try rw[cxK]
 refine⟨_,rfl,c,rfl,_,_,rfl,rfl,_,rfl,?_⟩;unfold kM at q;by_cases c1:(32:Int)<=c
 ·rw[decide_eq_true c1]at q ⊢;refine aK ⟨_,_,rfl,rfl,_,rfl,?_⟩;by_cases c2:(c:Int)<=126
  ·rw[decide_eq_true c2]at q ⊢;refine aK ⟨_,rfl,c,rfl,rfl,?_⟩;have e:decide (V.int (c:Int)=V.int 37)=decide ((c:Int)=37):=by
    by_cases z:(c:Int)=37
    ·rw[z,decide_eq_true rfl,decide_eq_true rfl]
    ·rw[decide_eq_false z,decide_eq_false (fun y=>z (V.int.inj y))]
   rw[e];exact q
  ·rw[decide_eq_false c2]at q ⊢;exact aE q
 ·rw[decide_eq_false c1]at q ⊢;exact aE ⟨_,rfl,aE q⟩
abbrev jN:Stmt:=top 24
abbrev yc:List Str:=["thing"]
theorem xJ:FnScope yc ["thing"] (aq jN):=⟨rfl,rfl,rfl,by decide +kernel,rfl,by decide +kernel,by decide +kernel⟩
theorem zW(x:Str):(((List.range x.cps.size).map fun i=>kM (x.cps.getD i 0)).all id)=iD x:=by
 unfold iD;rw[List.all_map,YG,y6,y6];constructor
 ·intro h c hc;obtain⟨i,hi,rfl⟩:=List.getElem_of_mem hc;have hi':i<x.cps.size:=by simpa using hi
  have:=h i (ZV.mpr hi');simpa[ZU,hi']using this
 ·intro h i hi;have hi':=ZV.mp hi;have:=h x.cps[i] (by simp);simpa[ZU,hi']using this
theorem xt{f:Addr}{fd:FuncData}(F:Fun K "is_text" "is_text" jN f fd)(IC:Fn P w K mg base 1 "is_sign" ["sign"] Ae)(a6:mg "isinstance" = none)(IK:mg "str" = none)(d6:mg "all" = none):FnOk P w K mg base CX0 2 f fd ["thing"] (tS K):=by
 refine F.okQ xJ (fun vs H Q E h=>?_) (fun cdv A outer s H vs Q E hr h=>?_)
 ·obtain⟨v,rfl,_⟩:=h;rfl
 obtain⟨v,rfl,h⟩:=h;refine⟨_,(b_1 (aw (cu (q_B fw a6 aX (q_a (q_v 0) (q_a (hV IK rK) aj))) (cw (q_B (jZ rfl) d6 dS (q_a (bS (own:=["sign"]) (⟨rfl,by decide +kernel,by decide +kernel,rfl,trivial⟩:CompOk _ _ [] []) rfl (GV (q_v 0)) (fun _ _ _ _=>aL (i:=0) (show(["sign"]:List Str).Nodup by decide +kernel)) (bj (by decide)) (fun _ _ _ _=>gj) (fun _ _ _ _=>(aF IC (hr.mono (by decide)) (q_a (q_v 0) aj)))) aj)))))),?_⟩
 try rw[cxK]
 rcases h with⟨n,ty,hs,q⟩|⟨x,rfl,hl,ha,q⟩
 ·refine⟨_,rfl,v,"str",.type n,isS v,rfl,ty,vw ty,_,rfl,?_⟩;rw[hs];exact aE q
 ·refine⟨_,rfl,.str x,"str",.type "str",true,rfl,.str _,br (b:=true) (by decide +kernel) (fun z=>nomatch z),_,rfl,aK ⟨_,rfl,x,rfl,ha,?_⟩⟩;refine AZ (x:=x) (fun i=>.bl (kM (x.cps.getD i 0))) hl (fun i c H1 hi sm R k=>?_) (fun p H1 sm hp=>?_)
  ·have e:x.cps.getD i 0=c:=by rw[ZU,hi];rfl
   rw[e]at k;exact⟨_,rfl,c,rfl,k H1 (Same.refl H1)⟩
  ·refine⟨p,(List.range x.cps.size).map (fun i=>kM (x.cps.getD i 0)),rfl,SqL.of (by rw[af,Yp];rfl),?_⟩;rw[zW];exact q _ (sm.trans (ai hp _))
abbrev jJ:Stmt:=top 30
abbrev xY:List Str:=["thing","hands"]
theorem xF:FnScope xY ["thing","hands"] (aq jJ):=⟨rfl,rfl,rfl,by decide +kernel,rfl,by decide +kernel,by decide +kernel⟩
theorem xo{f:Addr}{fd:FuncData}(F:Fun K "is_hand" "is_hand" jJ f fd)(a8:Fn P w K mg base 2 "is_whole" ["thing","low"] (iE K)):FnOk P w K mg base CX0 3 f fd ["thing","hands"] (tQ K):=by
 refine F.okQ xF (fun vs H Q E h=>?_) (fun cdv A outer s H vs Q E hr h=>?_)
 ·obtain⟨v,n,h,rfl,_⟩:=h;rfl
 obtain⟨v,n,h,rfl,ty,q⟩:=h;refine⟨_,(b_1 (aw (cu (aF a8 (hr.mono (by decide)) (q_a (q_v 0) (q_a am aj))) (cw (bX oZ (q_v 0) (q_v 1)))))),?_⟩
 try rw[cxK]
 refine⟨_,rfl,v,n,0,rfl,ty,_,rfl,?_⟩;refine iT (fun c=>?_) (fun c=>?_)
 ·cases v with
  |int i =>rw[c,x9]at q;exact⟨_,rfl,_,rfl,i,h,rfl,rfl,q⟩
  |_=>cases c
 ·rw[y7.mpr c,YO]at q;exact q
abbrev eR:Stmt:=top 33
abbrev mq:List Str:=["thing","hand","clock"]
theorem mf:FnScope mq ["thing","hand","clock"] (aq eR):=⟨rfl,rfl,rfl,by decide +kernel,rfl,by decide +kernel,by decide +kernel⟩
theorem lV{f:Addr}{fd:FuncData}(F:Fun K "is_known_item" "is_known_item" eR f fd)(ID:Fn P w K mg base 3 "is_name" ["thing","hands"] (vQ K))(r9:Fn P w K mg base 1 "tells" ["clock","name"] pW)(a7:mg "len" = none):FnOk P w K mg base CX0 4 f fd ["thing","hand","clock"] (vP K):=by
 refine F.okQ mf (fun vs H Q E h=>?_) (fun cdv A outer s H vs Q E hr h=>?_)
 ·obtain⟨v,b,c,hd,ns,rfl,_⟩:=h;rfl
 obtain⟨v,b,c,hd,ns,rfl,hC,d0,d1,r,q⟩:=h;refine⟨_,(b_1 (aw (cu (aF ID (hr.mono (by decide)) (q_a (q_v 0) (q_a (q_B bG a7 ZO (q_a (q_v 2) aj)) aj))) (cu (aF r9 (hr.mono (by decide)) (q_a (q_v 2) (q_a (q_v 0) aj))) (cw (bX (mT hr.units) (q_v 0) (bA (q_a (q_v 1) (q_a (aA aC (q_v 2) (q_v 1)) aj))))))))),?_⟩
 try rw[cxK]
 cases r with
 |no a e =>refine⟨_,rfl,_,rfl,c,_,rfl,.inr (SqT.of hC),v,_,rfl,a,_,rfl,?_⟩;rw[Zb,e];exact aE (q H (Same.refl H))
 |@is a i j e =>
  refine⟨_,rfl,_,rfl,c,_,rfl,.inr (SqT.of hC),.ref a,_,rfl,pZ e (Nat.le_of_ble_eq_true rfl) (fun x hx=>?_),_,rfl,?_⟩
  ·simp only[Zs,ZY,YI]at hx;rcases hx with rfl|rfl
   ·exact⟨_,.int _⟩
   ·exact⟨_,.int _⟩
  rw[Zb,bq e];have e':H a=some (.tup ([i,j].map V.int)):=e;unfold yR at q;show if(decide (0<=i)&&(decide (i<(ns.length:Int))&&decide (1<=j)))=true then _ else _
  by_cases c1:(decide (0<=i)&&(decide (i<(ns.length:Int))&&decide (1<=j)))=true
  ·rw[c1]at q ⊢;simp only[Zz,YE]at c1;obtain⟨i0,i1,j1⟩:=c1;refine aK ⟨_,rfl,_,rfl,c,a,_,i,j,_,rfl,hC,e,cg i0 i1,_,rfl,?_⟩;by_cases c2:j<=ag ns i.toNat
   ·rw[decide_eq_true c2]at q ⊢;refine aK ⟨_,rfl,_,rfl,_,rfl,_,rfl,c,_,_,_,rfl,rfl,SqT.of hC,cg d0 d1,sz rfl,fun p g=>?_⟩;have w1:=ai g (.tup [.int hd,.int (ag ns hd.toNat)]);exact⟨a,p,[i,j],nmL hd ns,rfl,rfl,w1 _ _ e',af,q _ w1⟩
   ·rw[decide_eq_false c2]at q ⊢;exact aE (q H (Same.refl H))
  ·rw[Bool.not_eq_true]at c1;rw[c1]at q ⊢;exact aE (q H (Same.refl H))
abbrev jL:Stmt:=top 32
abbrev ya:List Str:=["kind","part","hand","clock"]
theorem xH:FnScope ya ["kind","part","hand","clock"] (aq jL):=⟨rfl,rfl,rfl,by decide +kernel,rfl,by decide +kernel,by decide +kernel⟩
theorem xq{f:Addr}{fd:FuncData}{tk:Tok}(F:Fun K "is_part" "is_part" jL f fd)(i4:Fn P w K mg base 4 "is_known_item" ["thing","hand","clock"] (vP K))(Iw:Fn P w K mg base 2 "is_place" ["thing"] (qF K))(IE:Fn P w K mg base 2 "is_text" ["thing"] (tS K))(i5:Fn P w K mg base 3 "is_hand" ["thing","hands"] (tQ K))(a8:Fn P w K mg base 2 "is_whole" ["thing","low"] (iE K))(a6:mg "isinstance" = none)(v9:mg "bool" = none)(a7:mg "len" = none)(t9:mg "MOST_SIGNS" = some (.int 60 tk)):FnOk P w K mg base CX0 5 f fd ["kind","part","hand","clock"] (tR K):=by
 refine F.okQ xH (fun vs H Q E h=>?_) (fun cdv A outer s H vs Q E hr h=>?_)
 ·obtain⟨k,v,b,c,hd,ns,rfl,_⟩:=h;rfl
 obtain⟨k,v,b,c,hd,ns,rfl,hC,d0,d1,hp,q⟩:=h;refine⟨_,(b_c (aZ (aS eJ (q_v 0) dL) (b_1 (aw (aF i4 (hr.mono (by decide)) (q_a (q_v 1) (q_a (q_v 2) (q_a (q_v 3) aj)))))) b_0)
   (b_c (aZ (aS eJ (q_v 0) dL) (b_1 (aw (FW (bX Ct (q_v 1) ng) (cw (aF i4 (hr.mono (by decide)) (q_a (q_v 1) (q_a (q_v 2) (q_a (q_v 3) aj)))))))) b_0)
   (b_c (aZ (aS eJ (q_v 0) dL) (b_1 (aw (aF Iw (hr.mono (by decide)) (q_a (q_v 1) aj)))) b_0)
   (b_c (aZ (aS eJ (q_v 0) dL) (b_1 (aw (cu (aF IE (hr.mono (by decide)) (q_a (q_v 1) aj)) (cw (bX oY (q_B EA a7 ZO (q_a (q_v 1) aj)) (sR t9)))))) b_0)
   (b_c (aZ (aS eJ (q_v 0) dL) (b_1 (aw (q_B fw a6 aX (q_a (q_v 1) (q_a (hV v9 qh) aj))))) b_0)
   (b_c (aZ (aS eJ (q_v 0) dL) (b_1 (aw (FW (bX Ct (q_v 1) ng) (cw (aF i5 (hr.mono (by decide)) (q_a (q_v 1) (q_a (q_B bG a7 ZO (q_a (q_v 3) aj)) aj))))))) b_0)
   (b_c (aZ (aS eJ (q_v 0) dL) (b_1 (aw (aF a8 (hr.mono (by decide)) (q_a (q_v 1) (q_a am aj))))) b_0)
   (b_1 (aw (cu (aF a8 (hr.mono (by decide)) (q_a (q_v 1) (q_a am aj))) (cw (bX oZ (q_v 1) (aA aC (q_v 3) (q_v 2)))))))))))))),?_⟩
 try rw[cxK]
 have q0:=q H (Same.refl H);cases hp with
 |it r=>exact⟨_,rfl,rfl,_,rfl,hO ⟨_,rfl,_,rfl,_,rfl,v,b,c,hd,ns,rfl,hC,d0,d1,r,q⟩⟩
 |u0=>exact⟨_,rfl,rfl,_,rfl,aV (by decide +kernel) ⟨_,rfl,rfl,_,rfl,hO ⟨_,rfl,rfl,_,rfl,qY rfl q0⟩⟩⟩
 |up hv r=>exact⟨_,rfl,rfl,_,rfl,aV (by decide +kernel) ⟨_,rfl,rfl,_,rfl,hO ⟨_,rfl,rfl,_,rfl,Cn hv ⟨_,rfl,_,rfl,_,rfl,v,b,c,hd,ns,rfl,hC,d0,d1,r,q⟩⟩⟩⟩
 |pl a e =>subst e;exact⟨_,rfl,rfl,_,rfl,aV (by decide +kernel) ⟨_,rfl,rfl,_,rfl,aV (by decide +kernel) ⟨_,rfl,rfl,_,rfl,hO ⟨_,rfl,v,rfl,a,q⟩⟩⟩⟩
 |@tx x _ hl ha e =>
  refine⟨_,rfl,rfl,_,rfl,aV (by decide +kernel) ⟨_,rfl,rfl,_,rfl,aV (by decide +kernel) ⟨_,rfl,rfl,_,rfl,aV (by decide +kernel) ⟨_,rfl,rfl,_,rfl,hO ⟨_,rfl,.str x,rfl,.inr ⟨x,rfl,hl,ha,fun H1 s1=>⟨_,rfl,?_⟩⟩⟩⟩⟩⟩⟩;have q1:=q H1 s1;rw[<-e]at q1;by_cases c1:iD x=true
  ·rw[c1,x9]at q1;rw[c1];refine aK ⟨_,rfl,x,rfl,hl,_,_,rfl,rfl,?_⟩;have e2:decide ((x.length:Int)<=60)=decide (x.length<=60):=by
    by_cases z:x.length<=60
    ·rw[decide_eq_true z,decide_eq_true (by omega)]
    ·rw[decide_eq_false z,decide_eq_false (by omega)]
   rw[<-e2]at q1;exact q1
  ·rw[Bool.not_eq_true]at c1;rw[c1,YO]at q1;rw[c1];exact aE q1
 |@tn _ n ty hs=>exact⟨_,rfl,rfl,_,rfl,aV (by decide +kernel) ⟨_,rfl,rfl,_,rfl,aV (by decide +kernel) ⟨_,rfl,rfl,_,rfl,aV (by decide +kernel) ⟨_,rfl,rfl,_,rfl,hO ⟨_,rfl,v,rfl,.inl ⟨n,ty,hs,⟨_,rfl,aE q0⟩⟩⟩⟩⟩⟩⟩
 |@bl _ n _ ty e =>subst e;exact⟨_,rfl,rfl,_,rfl,aV (by decide +kernel) ⟨_,rfl,rfl,_,rfl,aV (by decide +kernel) ⟨_,rfl,rfl,_,rfl,aV (by decide +kernel) ⟨_,rfl,rfl,_,rfl,aV (by decide +kernel) ⟨_,rfl,rfl,_,rfl,hO ⟨_,rfl,v,"bool",.type n,isB v,rfl,ty,su ty,q0⟩⟩⟩⟩⟩⟩
 |w0=>exact⟨_,rfl,rfl,_,rfl,aV (by decide +kernel) ⟨_,rfl,rfl,_,rfl,aV (by decide +kernel) ⟨_,rfl,rfl,_,rfl,aV (by decide +kernel) ⟨_,rfl,rfl,_,rfl,aV (by decide +kernel) ⟨_,rfl,rfl,_,rfl,aV (by decide +kernel) ⟨_,rfl,rfl,_,rfl,hO ⟨_,rfl,rfl,_,rfl,qY rfl q0⟩⟩⟩⟩⟩⟩⟩
 |@wh _ n _ hv ty e =>subst e;refine⟨_,rfl,rfl,_,rfl,aV (by decide +kernel) ⟨_,rfl,rfl,_,rfl,aV (by decide +kernel) ⟨_,rfl,rfl,_,rfl,aV (by decide +kernel) ⟨_,rfl,rfl,_,rfl,aV (by decide +kernel) ⟨_,rfl,rfl,_,rfl,aV (by decide +kernel) ⟨_,rfl,rfl,_,rfl,hO ⟨_,rfl,rfl,_,rfl,Cn hv ⟨_,rfl,_,rfl,c,_,rfl,.inr (SqT.of hC),v,n,_,rfl,ty,?_⟩⟩⟩⟩⟩⟩⟩⟩;rw[Zb];exact q0
 |@«at» _ n _ ty e =>subst e;exact⟨_,rfl,rfl,_,rfl,aV (by decide +kernel) ⟨_,rfl,rfl,_,rfl,aV (by decide +kernel) ⟨_,rfl,rfl,_,rfl,aV (by decide +kernel) ⟨_,rfl,rfl,_,rfl,aV (by decide +kernel) ⟨_,rfl,rfl,_,rfl,aV (by decide +kernel) ⟨_,rfl,rfl,_,rfl,aV (by decide +kernel) ⟨_,rfl,rfl,_,rfl,hO ⟨_,rfl,v,n,0,rfl,ty,q0⟩⟩⟩⟩⟩⟩⟩⟩
 |@nu _ n _ ty e =>
  subst e;refine⟨_,rfl,rfl,_,rfl,aV (by decide +kernel) ⟨_,rfl,rfl,_,rfl,aV (by decide +kernel) ⟨_,rfl,rfl,_,rfl,aV (by decide +kernel) ⟨_,rfl,rfl,_,rfl,aV (by decide +kernel) ⟨_,rfl,rfl,_,rfl,aV (by decide +kernel) ⟨_,rfl,rfl,_,rfl,aV (by decide +kernel) ⟨_,rfl,rfl,_,rfl,aV (by decide +kernel) ⟨_,rfl,v,n,1,rfl,ty,_,rfl,?_⟩⟩⟩⟩⟩⟩⟩⟩;refine iT (fun c1=>?_) (fun c1=>?_)
  ·cases v with
   |int i =>rw[c1,x9]at q0;exact⟨_,rfl,_,rfl,_,rfl,c,_,_,_,rfl,rfl,SqT.of hC,cg d0 d1,_,_,rfl,rfl,q0⟩
   |_=>cases c1
  ·rw[y7.mpr c1,YO]at q0;exact q0
abbrev jO:Stmt:=top 31
abbrev yd:List Str:=["thing","hand","clock","kinds"]
theorem nA:FnScope yd ["thing","hand","clock"] (aq jO):=⟨rfl,rfl,rfl,by decide +kernel,rfl,by decide +kernel,by decide +kernel⟩
theorem xu{f:Addr}{fd:FuncData}(F:Fun K "is_what" "is_what" jO f fd)(j9:Fn P w K mg base 1 "is_deed_word" ["thing"] (tV K))(u3:Fn P w K mg base 1 "deed_parts" ["word"] (vR K))(IF:Fn P w K mg base 5 "is_part" ["kind","part","hand","clock"] (tR K))(a6:mg "isinstance" = none)(b9:mg "tuple" = none)(a7:mg "len" = none)(d6:mg "all" = none)(IL:mg "zip" = none):FnOk P w K mg base CX0 6 f fd ["thing","hand","clock"] (tU K):=by
 refine F.okQ nA (fun vs H Q E h=>?_) (fun cdv A outer s H vs Q E hr h=>?_)
 ·obtain⟨v,b,c,hd,ns,rfl,_⟩:=h;rfl
 obtain⟨v,b,c,hd,ns,rfl,hC,d0,d1,r,q⟩:=h;refine⟨_,(b_c (aZ (t_w (fR (bY (bJ (q_B fw a6 aX (q_a (q_v 0) (q_a (hV b9 di) aj))))) (fR (aS eJ (q_B bG a7 ZO (q_a (q_v 0) aj)) am) (eX (bY (bJ (aF j9 (hr.mono (by decide)) (q_a (aA aC (q_v 0) am) aj)))))))) (b_1 (aw bR)) b_0)
   (b_c (aM (i:=3) nA.nd (aF u3 (hr.mono (by decide)) (q_a (aA aC (q_v 0) am) aj)))
   (b_c (aZ (aS jC (q_B bG a7 ZO (q_a (q_v 0) aj)) (aP eI (q_B bG a7 ZO (q_a (q_v 3) aj)) am)) (b_1 (aw bR)) b_0)
   (b_1 (aw (q_B (jZ rfl) d6 dS (q_a (bS (own:=["kind","part"]) (⟨rfl,by decide +kernel,by decide +kernel,rfl,⟨rfl,rfl,⟨rfl,rfl,trivial⟩⟩⟩:CompOk _ _ [1,2] ["hand","clock"]) rfl (Cm IL (q_a (q_v 3) (q_a (pC jy (q_v 0) (lX am) sV) aj))) (fun _ _ _ _=>yH (K:=K) (n:=2) rfl rfl (hJ (aL (i:=0) (show (["kind","part","hand","clock"]:List Str).Nodup by decide +kernel)) (hJ (aL (i:=1) (show (["kind","part","hand","clock"]:List Str).Nodup by decide +kernel)) sh))) (yI (iQ (bj (by decide)) gc (iQ (bj (by decide)) gc vm ki) (sg gc ki))) (fun _ _ _ _=>gj) (fun _ _ _ _=>(aF IF (hr.mono (by decide)) (q_a (q_v 0) (q_a (q_v 1) (q_a (q_v 2) (q_a (q_v 3) aj))))))) aj))))))),?_⟩
 try rw[cxK]
 have q0:=q H (Same.refl H);have isT1:∀{t:Addr} {xs:List V},H t=some (.tup xs)->TyOf K H (.ref t) (.type "tuple"):=fun e=>.tup e;cases r with
 |@flat _ n ty hT =>refine⟨_,rfl,v,"tuple",.type n,isT H v,rfl,ty,iw ty,_,rfl,?_⟩;rw[hT];exact aK (aK q0)
 |@emp t e =>refine⟨_,rfl,.ref t,"tuple",.type "tuple",true,rfl,.tup e,br (b:=true) (by decide +kernel) (fun z=>nomatch z),_,rfl,aE ?_⟩;exact⟨_,rfl,t,_,rfl,.inr (SqT.of e),rfl,_,rfl,qY rfl q0⟩
 |@noStr t x n ps e ty hs =>refine⟨_,rfl,.ref t,"tuple",.type "tuple",true,rfl,.tup e,br (b:=true) (by decide +kernel) (fun z=>nomatch z),_,rfl,aE ?_⟩;refine⟨_,rfl,t,_,rfl,.inr (SqT.of e),rfl,_,rfl,aV (fun z=>by injection z with z;rw[Zm]at z;omega) ?_⟩;exact⟨_,rfl,t,_,_,_,rfl,rfl,SqT.of e,om,x,n,rfl,ty,fun _=>⟨_,rfl,aK q0⟩,fun k hk=>by subst hk;cases hs⟩
 |@noWord t k ps e hk =>refine⟨_,rfl,.ref t,"tuple",.type "tuple",true,rfl,.tup e,br (b:=true) (by decide +kernel) (fun z=>nomatch z),_,rfl,aE ?_⟩;refine⟨_,rfl,t,_,rfl,.inr (SqT.of e),rfl,_,rfl,aV (fun z=>by injection z with z;rw[Zm]at z;omega) ?_⟩;refine⟨_,rfl,t,_,_,_,rfl,rfl,SqT.of e,om,.str k,"str",rfl,.str k,(fun z=>nomatch z),fun k' hk'=>⟨_,rfl,?_⟩⟩;cases hk';rw[hk];exact aK q0
 |@len t k ps ks e hk hl =>refine⟨_,rfl,.ref t,"tuple",.type "tuple",true,rfl,.tup e,br (b:=true) (by decide +kernel) (fun z=>nomatch z),_,rfl,aE ?_⟩;refine⟨_,rfl,t,_,rfl,.inr (SqT.of e),rfl,_,rfl,aV (fun z=>by injection z with z;rw[Zm]at z;omega) ?_⟩;refine⟨_,rfl,t,_,_,_,rfl,rfl,SqT.of e,om,.str k,"str",rfl,.str k,(fun z=>nomatch z),fun k' hk'=>⟨_,rfl,?_⟩⟩;cases hk';rw[hk];refine aE ?_;refine⟨_,rfl,t,_,_,_,rfl,rfl,SqT.of e,om,k,ks.map nm,rfl,hk,fun y hy=>?_⟩;refine⟨_,rfl,t,_,rfl,.inr (SqT.of e),_,rfl,y,_,rfl,.inr (hy H),_,_,rfl,rfl,rfl,_,rfl,qZ (fun _=>q0) (fun z=>?_)⟩;rw[Zm,Zb,Zb]at z;exact absurd (by omega) hl
 |@is t k ps ks bs _ e hk l3 hp hb =>
  subst hb;obtain⟨lw,lb,hpp⟩:=id hp;refine⟨_,rfl,.ref t,"tuple",.type "tuple",true,rfl,.tup e,br (b:=true) (by decide +kernel) (fun z=>nomatch z),_,rfl,aE ?_⟩;refine⟨_,rfl,t,_,rfl,.inr (SqT.of e),rfl,_,rfl,aV (fun z=>by injection z with z;rw[Zm]at z;omega) ?_⟩;refine⟨_,rfl,t,_,_,_,rfl,rfl,SqT.of e,om,.str k,"str",rfl,.str k,(fun z=>nomatch z),fun k' hk'=>⟨_,rfl,?_⟩⟩;cases hk';rw[hk];refine aE ?_;refine⟨_,rfl,t,_,_,_,rfl,rfl,SqT.of e,om,k,ks.map nm,rfl,hk,fun y hy=>?_⟩;refine⟨_,rfl,t,_,rfl,.inr (SqT.of e),_,rfl,y,_,rfl,.inr (hy H),_,_,rfl,rfl,rfl,_,rfl,gU (by rw[Zm,Zb,Zb,lw];rfl) ?_⟩;have cv:cy (V.str k::ps) (some 1) none=ps:=by unfold cy;rw[HT.sIx_none,gI (by decide),Zm,show((1:Int).toNat)=1 from rfl,Y8 (by omega),List.drop_succ_cons,List.drop_zero,y9 (by omega)]
  refine⟨_,rfl,_,rfl,_,rfl,t,_,rfl,e,fun z H0 w1 ez=>?_⟩;rw[cv]at ez;refine⟨y,z,_,_,rfl,hy _,SqT.of ez,by rw[Zb,Zb,lw],?_⟩;refine rW (fun i=>.bl ((bs[i]?).getD true)) (by rw[Zb,Zb];omega) (hy _) (SqT.of ez) (by rw[Zb,Zb,lw]) (fun i x v H1 hx hv sm R kk=>?_) (fun p H1 sm hp1=>?_)
  ·obtain⟨kd,hkd,rfl⟩:∃kd,ks[i]?=some kd/\x=.str (nm kd):=by
    rw[ZB,ZB]at hx;cases e:ks[i]? with
    |none=>rw[e]at hx;cases hx
    |some kd=>rw[e]at hx;cases hx;exact⟨kd,rfl,rfl⟩
   have hi:i<bs.length:=by rw[lb];exact(ZH.mp hv).1
   have hb:bs[i]?=some bs[i]:=Zd hi;have pb:=(hpp i kd v bs[i] hkd hv hb).same (w1.trans sm);rw[hb]at kk;exact⟨_,rfl,_,rfl,_,rfl,_,rfl,kd,v,bs[i],c,hd,ns,rfl,sm _ _ (w1 _ _ hC),d0,d1,pb,fun H2 s2=>kk H2 s2⟩
  ·refine⟨p,(List.range ((ks.map nm).map V.str).length).map (fun i=>(bs[i]?).getD true),rfl,SqL.of (by rw[af];simp only[Yp];rfl),?_⟩;have e:((List.range ((ks.map nm).map V.str).length).map fun i=>(bs[i]?).getD true)=bs:=by rw[Zb,Zb,lw,<-lb];refine List.ext_getElem (by simp) fun i h1 h2=>?_;simp[h2]
   rw[e];exact q _ (w1.trans (sm.trans (ai hp1 _)))
abbrev jI:Stmt:=top 29
abbrev xX:List Str:=["thing","hands"]
theorem xE:FnScope xX ["thing","hands"] (aq jI):=⟨rfl,rfl,rfl,by decide +kernel,rfl,by decide +kernel,by decide +kernel⟩
theorem mG{H:Hp}{c:Addr}{ns:List Int}(e:H c=some (.tup (ns.map V.int)))(hl:ns.length<=1000):Asked K H (.ref c):=pZ e (by rw[Zb];exact hl) (fun x hx=>by
 obtain⟨n,_,rfl⟩:=Zi.mp hx;exact⟨_,.int n⟩)
theorem qi{H:Hp}{c:Addr}{ns:List Int}{h:Int}(e:H c=some (.tup (ns.map V.int)))(hl:(ns.length:Int)=h)(hn:∀n∈ns,0<=n):jo H h (.ref c)=true:=by rw[dU e];show(decide (((ns.map V.int).length:Int)=h)&&(ns.map V.int).all (fun x=>bg x 0))=true;rw[Zb,decide_eq_true hl,x9,y6];intro x hx;obtain⟨n,hm,rfl⟩:=Zi.mp hx;exact decide_eq_true (hn n hm)
theorem xn{f:Addr}{fd:FuncData}(F:Fun K "is_deed" "is_deed" jI f fd)(i5:Fn P w K mg base 3 "is_hand" ["thing","hands"] (tQ K))(Ix:Fn P w K mg base 3 "is_clock" ["thing","hands"] (qE K))(IG:Fn P w K mg base 6 "is_what" ["thing","hand","clock"] (tU K))(a6:mg "isinstance" = none)(b9:mg "tuple" = none)(a7:mg "len" = none):FnOk P w K mg base CX0 7 f fd ["thing","hands"] (tO K):=by
 refine F.okQ xE (fun vs H Q E h=>?_) (fun cdv A outer s H vs Q E hr h=>?_)
 ·obtain⟨v,b,h,rfl,_⟩:=h;rfl
 obtain⟨v,b,h,rfl,r,q⟩:=h;refine⟨_,(b_c (aZ (t_w (fR (bY (bJ (q_B fw a6 aX (q_a (q_v 0) (q_a (hV b9 di) aj))))) (eX (aS jC (q_B bG a7 ZO (q_a (q_v 0) aj)) am)))) (b_1 (aw bR)) b_0)
   (b_c (aZ (t_w (fR (bY (bJ (aF i5 (hr.mono (by decide)) (q_a (aA aC (q_v 0) am) (q_a (q_v 1) aj))))) (eX (bY (bJ (aF Ix (hr.mono (by decide)) (q_a (aA aC (q_v 0) am) (q_a (q_v 1) aj)))))))) (b_1 (aw bR)) b_0)
   (b_1 (aw (cu (bX Bj (aA aC (aA aC (q_v 0) am) (aA aC (q_v 0) am)) am) (cw (aF IG (hr.mono (by decide)) (q_a (aA aC (q_v 0) am) (q_a (aA aC (q_v 0) am) (q_a (aA aC (q_v 0) am) aj)))))))))),?_⟩
 try rw[cxK]
 have q0:=q H (Same.refl H);cases r with
 |@flat _ n ty hT =>refine⟨_,rfl,v,"tuple",.type n,isT H v,rfl,ty,iw ty,_,rfl,?_⟩;rw[hT];exact aK (aK q0)
 |@len a xs e hl =>refine⟨_,rfl,.ref a,"tuple",.type "tuple",true,rfl,.tup e,br (b:=true) (by decide +kernel) (fun z=>nomatch z),_,rfl,aE ?_⟩;refine⟨_,rfl,a,_,rfl,.inr (SqT.of e),rfl,_,rfl,qZ (fun _=>q0) (fun z=>absurd (by omega) hl)⟩
 |@hand a x y z n e ty hx =>refine⟨_,rfl,.ref a,"tuple",.type "tuple",true,rfl,.tup e,br (b:=true) (by decide +kernel) (fun z=>nomatch z),_,rfl,aE ?_⟩;refine⟨_,rfl,a,_,rfl,.inr (SqT.of e),rfl,_,rfl,gU rfl ?_⟩;refine⟨_,rfl,a,_,_,_,rfl,rfl,SqT.of e,rfl,_,rfl,x,n,h,rfl,ty,_,rfl,?_⟩;rw[hx];exact aK (aK q0)
 |@clock a i y z e i0 i1 ay hc =>refine⟨_,rfl,.ref a,"tuple",.type "tuple",true,rfl,.tup e,br (b:=true) (by decide +kernel) (fun z=>nomatch z),_,rfl,aE ?_⟩;refine⟨_,rfl,a,_,rfl,.inr (SqT.of e),rfl,_,rfl,gU rfl ?_⟩;refine⟨_,rfl,a,_,_,_,rfl,rfl,SqT.of e,rfl,_,rfl,.int i,"int",h,rfl,.int i,_,rfl,?_⟩;rw[show(bg (.int i) 0&&ltB (.int i) h)=true by show(decide (0<=i)&&decide (i<h))=true;rw[decide_eq_true i0,decide_eq_true i1];rfl];refine aE ?_;refine⟨_,rfl,a,_,_,_,rfl,rfl,SqT.of e,rfl,_,rfl,y,h,rfl,ay,fun H1 s1=>⟨_,rfl,?_⟩⟩;rw[hc];exact aK (q H1 s1)
 |@zero a c i ns z e i0 i1 ec hl hn h8 h0 =>refine⟨_,rfl,.ref a,"tuple",.type "tuple",true,rfl,.tup e,br (b:=true) (by decide +kernel) (fun z=>nomatch z),_,rfl,aE ?_⟩;refine⟨_,rfl,a,_,rfl,.inr (SqT.of e),rfl,_,rfl,gU rfl ?_⟩;refine⟨_,rfl,a,_,_,_,rfl,rfl,SqT.of e,rfl,_,rfl,.int i,"int",h,rfl,.int i,_,rfl,?_⟩;rw[show(bg (.int i) 0&&ltB (.int i) h)=true by show(decide (0<=i)&&decide (i<h))=true;rw[decide_eq_true i0,decide_eq_true i1];rfl];refine aE ?_;refine⟨_,rfl,a,_,_,_,rfl,rfl,SqT.of e,rfl,_,rfl,.ref c,h,rfl,mG ec (by omega),fun H1 s1=>⟨_,rfl,?_⟩⟩;rw[qi ec hl hn];refine aE ?_;have f1:=s1 _ _ e;refine⟨_,rfl,a,_,_,_,rfl,rfl,SqT.of f1,rfl,_,rfl,a,_,_,_,rfl,rfl,SqT.of f1,rfl,c,_,_,_,rfl,rfl,SqT.of (s1 _ _ ec),cg i0 (by omega),_,_,rfl,rfl,_,rfl,?_⟩;rw[decide_eq_false (by omega)];exact aE (q H1 s1)
 |@is a c i ns z _ e i0 i1 ec hl hn h8 h1 wr =>refine⟨_,rfl,.ref a,"tuple",.type "tuple",true,rfl,.tup e,br (b:=true) (by decide +kernel) (fun z=>nomatch z),_,rfl,aE ?_⟩;refine⟨_,rfl,a,_,rfl,.inr (SqT.of e),rfl,_,rfl,gU rfl ?_⟩;refine⟨_,rfl,a,_,_,_,rfl,rfl,SqT.of e,rfl,_,rfl,.int i,"int",h,rfl,.int i,_,rfl,?_⟩;rw[show(bg (.int i) 0&&ltB (.int i) h)=true by show(decide (0<=i)&&decide (i<h))=true;rw[decide_eq_true i0,decide_eq_true i1];rfl];refine aE ?_;refine⟨_,rfl,a,_,_,_,rfl,rfl,SqT.of e,rfl,_,rfl,.ref c,h,rfl,mG ec (by omega),fun H1 s1=>⟨_,rfl,?_⟩⟩;rw[qi ec hl hn];refine aE ?_;have f1:=s1 _ _ e;refine⟨_,rfl,a,_,_,_,rfl,rfl,SqT.of f1,rfl,_,rfl,a,_,_,_,rfl,rfl,SqT.of f1,rfl,c,_,_,_,rfl,rfl,SqT.of (s1 _ _ ec),cg i0 (by omega),_,_,rfl,rfl,_,rfl,?_⟩;rw[decide_eq_true h1];refine aK ⟨_,rfl,a,_,_,_,rfl,rfl,SqT.of f1,rfl,_,rfl,a,_,_,_,rfl,rfl,SqT.of f1,rfl,_,rfl,a,_,_,_,rfl,rfl,SqT.of f1,rfl,?_⟩;exact⟨z,_,c,i,ns,rfl,s1 _ _ ec,i0,by omega,wr.same s1,fun H2 s2=>q H2 (s1.trans s2)⟩
abbrev md:Stmt:=top 6
abbrev AI:List Str:=["one","other"]
theorem zU:FnScope AI ["one","other"] (aq md):=⟨rfl,rfl,rfl,by decide +kernel,rfl,by decide +kernel,by decide +kernel⟩
theorem zm{f:Addr}{fd:FuncData}(F:Fun K "within" "within" md f fd)(d6:mg "all" = none)(IL:mg "zip" = none):FnOk P w K mg base CX0 1 f fd ["one","other"] uc:=by
 refine F.okQ zU (fun vs H Q E h=>?_) (fun cdv A outer s H vs Q E hr h=>?_)
 ·obtain⟨a,b,ns,ms,rfl,_⟩:=h;rfl
 obtain⟨a,b,ns,ms,rfl,hA,hB,hl,h8,q⟩:=h;refine⟨_,(b_1 (aw (q_B (jZ rfl) d6 dS (q_a (bS (own:=["mine","yours"]) (⟨rfl,by decide +kernel,by decide +kernel,rfl,trivial⟩:CompOk _ _ [] []) rfl (Cm IL (q_a (q_v 0) (q_a (q_v 1) aj))) (fun _ _ _ _=>yH (K:=K) (n:=2) rfl rfl (hJ (aL (i:=0) (show(["mine","yours"]:List Str).Nodup by decide +kernel)) (hJ (aL (i:=1) (show(["mine","yours"]:List Str).Nodup by decide +kernel)) sh))) (yI (iQ (bj (by decide)) gc (iQ (bj (by decide)) gc vm ki) (sg gc ki))) (fun _ _ _ _=>gj) (fun _ _ _ _=>(bX oY (q_v 0) (q_v 1)))) aj)))),?_⟩
 try rw[cxK]
 refine⟨_,rfl,_,rfl,a,b,_,_,rfl,SqT.of hA,SqT.of hB,by rw[Zb,Zb,hl],?_⟩;refine rW (fun i=>.bl (decide (ag ns i<=ag ms i))) (by rw[Zb];omega) (SqT.of hA) (SqT.of hB) (by rw[Zb,Zb,hl]) (fun i x y H1 hx hy sm R k=>?_) (fun p H1 sm hp=>?_)
 ·obtain⟨rfl,_⟩:=iS hx;obtain⟨rfl,_⟩:=iS hy;exact⟨_,rfl,_,rfl,_,_,rfl,rfl,k H1 (Same.refl H1)⟩
 ·rw[Zb];refine⟨p,(List.range ns.length).map fun i=>decide (ag ns i<=ag ms i),rfl,SqL.of ?_,q _ (sm.trans (ai hp _))⟩;rw[af,Yp];rfl
abbrev jP:Stmt:=top 28
abbrev ye:List Str:=["deed"]
theorem xK:FnScope ye ["deed"] (aq jP):=⟨rfl,rfl,rfl,by decide +kernel,rfl,by decide +kernel,by decide +kernel⟩
theorem xw{f:Addr}{fd:FuncData}(F:Fun K "name_of" "name_of" jP f fd):FnOk P w K mg base CX0 1 f fd ["deed"] eV:=by
 refine F.okQ xK (fun vs H Q E h=>?_) (fun cdv A outer s H vs Q E hr h=>?_)
 ·obtain⟨a,d,rfl,_⟩:=h;rfl
 obtain⟨a,d,rfl,⟨c,v,e1,e2,e3,e4,_⟩,q⟩:=h;refine⟨_,(b_1 (aw (bA (q_a (aA aC (q_v 0) am) (q_a (aA aC (aA aC (q_v 0) am) (aA aC (q_v 0) am)) aj))))),?_⟩
 try rw[cxK]
 refine⟨_,rfl,a,_,_,_,rfl,rfl,SqT.of e1,rfl,_,rfl,a,_,_,_,rfl,rfl,SqT.of e1,rfl,_,rfl,a,_,_,_,rfl,rfl,SqT.of e1,rfl,c,_,_,_,rfl,rfl,SqT.of e2,cY e4,sz rfl,fun p g=>?_⟩;exact q p _ (ai g _) af
abbrev fP:Stmt:=top 37
abbrev qL:List Str:=["deed","name","ready"]
theorem pP:FnScope qL ["deed","name","ready"] (aq fP):=⟨rfl,rfl,rfl,by decide +kernel,rfl,by decide +kernel,by decide +kernel⟩
theorem ph{f:Addr}{fd:FuncData}(F:Fun K "is_answered" "is_answered" fP f fd)(IO:Fn P w K mg base 1 "within" ["one","other"] uc):FnOk P w K mg base CX0 2 f fd ["deed","name","ready"] zY:=by
 refine F.okQ pP (fun vs H Q E h=>?_) (fun cdv A outer s H vs Q E hr h=>?_)
 ·obtain⟨a,nm,r,d,i,R,n,rfl,_⟩:=h;rfl
 obtain⟨a,nm,r,d,i,R,n,rfl,hd,hn,hr',hR,hRn,hdn,q⟩:=h;have key:dN H r (.ref nm) (bo (ah R) [.inl (i:Int),.inl (aB d i)]):=.inr ⟨ah R,[.inl (i:Int),.inl (aB d i)],nm,.inl hr',rfl,hn,rfl⟩;obtain⟨c,v,d1,d2,d3,d4,d5⟩:=id hd;refine⟨_,(b_1 (aw (cu (Hi hr.units (q_v 1) (q_v 2)) (cw (aF IO (hr.mono (by decide)) (q_a (aA aC (bU hr.units (q_v 2) (q_v 1)) am) (q_a (aA aC (q_v 0) am) aj))))))),?_⟩
 try rw[cxK]
 rw[fj]at key;unfold cW at q;rw[yB]at q;cases hf:R.find? (fun x=>decide (nmK x.2=[.inl (i:Int),.inl (aB d i)]))with
 |none =>rw[hf]at key q;refine⟨_,rfl,_,rfl,r,_,rfl,key,false,rfl,aE ?_⟩;exact q H (Same.refl H)
 |some x =>rw[hf]at key q;have hm:=Y4 hf;obtain⟨c',v',f1,f2,f3,f4,f5⟩:=hR x hm;refine⟨_,rfl,_,rfl,r,_,rfl,key,true,rfl,aK ?_⟩;refine⟨_,rfl,_,rfl,r,_,rfl,key,x.1,_,_,_,rfl,rfl,SqT.of f1,at1,_,rfl,a,_,_,_,rfl,rfl,SqT.of d1,at1,c',c,x.2.ns,d.ns,rfl,f2,d2,by rw[hRn x hm,hdn],f5,fun H' s'=>?_⟩;exact q H' s'
abbrev jb:Stmt:=top 36
abbrev wc:List Str:=["deed","names","hand","number","last"]
theorem dF:FnScope wc ["deed"] (aq jb):=⟨rfl,rfl,rfl,by decide +kernel,rfl,by decide +kernel,by decide +kernel⟩
theorem qm(d:Dd)(k:Nat):(List.range (k+1)).filter (fun i=>decide (aB d i>0))=(List.range k).filter (fun i=>decide (aB d i>0))++if aB d k>0 then[k]else[]:=by
 rw[List.range_succ,Yo];congr 1;by_cases c:aB d k>0
 ·rw[Jv c,List.filter_cons,Jv (by simpa using c),List.filter_nil]
 ·rw[Ju c,List.filter_cons,Ju (by simpa using c),List.filter_nil]
theorem NA.snoc{H H':Hp}{d:Dd}{as:List Addr}{is:List Nat}{b:Addr}{i:Nat}(h:NA H d as is)(t:TS H H')(hb:H' b=some (.tup ([(i:Int),aB d i].map V.int))):NA H' d (as++[b]) (is++[i]):=by
 refine⟨by simp[h.1],fun k c j h1 h2=>?_⟩;rcases Z6 k as.length with c1|c1
 ·rw[Yv c1]at h1;rw[Yv (by rw[<-h.1];exact c1)]at h2;exact t _ _ (h.2 k c j h1 h2)
 ·rw[Z3 c1]at h1;rw[Z3 (by rw[<-h.1];exact c1),<-h.1]at h2;have e:k-as.length=0:=by have:=(ZH.mp h1).1;simp at this;omega
  rw[e]at h1 h2;cases h1;cases h2;exact hb
theorem NA.ts{H H':Hp}{d:Dd}{as:List Addr}{is:List Nat}(h:NA H d as is)(t:TS H H'):NA H' d as is:=⟨h.1,fun k c j h1 h2=>t _ _ (h.2 k c j h1 h2)⟩
theorem uA{f:Addr}{fd:FuncData}(F:Fun K "asked_by" "asked_by" jb f fd)(h9:mg "enumerate" = none):FnOk P w K mg base CX0 1 f fd ["deed"] vL:=by
 refine F.okQ dF (fun vs H Q E h=>?_) (fun cdv A outer s H vs Q E hr h=>?_)
 ·obtain⟨a,d,rfl,_⟩:=h;rfl
 obtain⟨a,d,rfl,hd,q⟩:=h;obtain⟨c,v,e1,e2,e3,e4,e5⟩:=id hd;refine⟨_,(b_c (aM (i:=1) dF.nd (kH aj))
   (b_c (eQ Yr rfl (C4 h9 (q_a (aA aC (q_v 0) am) aj)) (wL rfl (hJ (aL (i:=2) dF.nd) (hJ (aL (i:=3) dF.nd) sh))) (b_c (aM (i:=4) dF.nd (Ic (aS eJ (q_v 2) (aA aC (q_v 0) am)) (aP xj (q_v 3) am) (q_v 3)))
   (b_1 (aZ (aS xh (q_v 4) am) (b_1 (nj (Cv (q_v 1) (bA (q_a (q_v 2) (q_a (q_v 4) aj)))))) b_0))))
   (b_1 (aw (q_v 1))))),?_⟩
 try rw[cxK]
 refine⟨sz rfl,fun p g=>?_⟩;have s0:=ai g (.lst []);refine⟨_,rfl,a,_,_,_,rfl,rfl,SqT.of (s0 _ _ e1),at1,c,_,rfl,s0 _ _ e2,?_⟩;refine yC (i:=2) (j:=3) (fun k σ H'=>Same H H'/\(∃o2 o3 o4,σ=[some (.ref a),some (.ref p),o2,o3,o4])/\∃as,H' p=some (.lst (as.map V.ref))/\NA H' d as ((List.range k).filter fun i=>decide (aB d i>0))) ⟨s0,⟨none,none,none,rfl⟩,[],af,rfl,fun k b i h1=>by simp at h1⟩ (fun i σ H' _ ⟨sm,_⟩=>SqT.of (sm _ _ e2)) (fun k x σ H1 hx ⟨sm,⟨o2,o3,o4,eσ⟩,as,hp,na⟩ T hT=>?_) (fun σ H1 ⟨sm,⟨o2,o3,o4,eσ⟩,as,hp,na⟩=>?_)
 ·subst eσ;obtain⟨rfl,hk⟩:=iS hx;have sT:=ai hT (.tup [.int (k:Int),.int (ag d.ns k)]);have m1:=sT _ _ (sm _ _ e1);have pT:=sT _ _ hp;have go:∀(z:Int) (D:Ends),z=aB d k->(∀σ' H',(Same H H'/\(∃o2 o3 o4,σ'=[some (.ref a),some (.ref p),o2,o3,o4])/\∃as,H' p=some (.lst (as.map V.ref))/\NA H' d as ((List.range (k+1)).filter fun i=>decide (aB d i>0)))->D.nx σ' H') ->
    BY (nR (tOp (rI0 fun i j=>V.bl (decide (j<i))) (mi 4) (tC (V.int 0)))) (xO (tBM K "list" pD (mi 1) (fD (B0 (fD (mi 2) (fD (mi 4) im))) im))) xQ D [some (.ref a),some (.ref p),some (.int (k:Int)),some (.int (ag d.ns k)),some (.int z)] (upd H1 T (.tup [.int (k:Int),.int (ag d.ns k)])):=fun z D hz hD=>by
   refine⟨_,rfl,_,_,rfl,rfl,_,rfl,wR (fun hc=>?_) fun hc=>?_⟩
   ·refine⟨_,rfl,.inl ⟨rfl,_,SqL.of pT⟩,_,rfl,_,rfl,sz rfl,fun b gb=>?_⟩;have sB:=ai gb (.tup [.int (k:Int),.int z]);have pB:=sB _ _ pT;refine⟨p,_,_,rfl,rfl,pB,?_,?_⟩
    ·have:=na.1;have l1:((List.range k).filter fun i=>decide (aB d i>0)).length<=k:=by have:=y0 (fun i=>decide (aB d i>0)) (List.range k);rw[Y9]at this;exact this
     rw[Zb];exact de (by omega)
    ·refine hD _ _ ⟨?_,⟨_,_,_,rfl⟩,as++[b],?_,?_⟩
     ·exact fun b' o hb=>by rw[ad (al hb g)];exact sB _ _ (sT _ _ (sm _ _ hb))
     ·rw[af,Zy];rfl
     ·rw[qm,Jv (by omega)];refine na.snoc ?_ ?_
      ·exact(Same.ts sT).trans ((Same.ts sB).trans (jV fun zs e=>by rw[pB]at e;cases e))
      ·rw[ad (fun e=>by rw[<-e,af]at pB;cases pB),af,hz];rfl
   ·refine hD _ _ ⟨sm.trans sT,⟨_,_,_,rfl⟩,as,pT,?_⟩;rw[qm,Ju (by omega),Zx];exact na.ts (Same.ts sT)
  refine⟨_,rfl,_,rfl,a,_,_,_,rfl,rfl,SqT.of m1,at0,rfl,_,rfl,wS (fun ek=>?_) fun ek=>?_⟩
  ·refine⟨_,rfl,_,_,rfl,rfl,go _ _ ?_ fun σ' H' z=>z⟩;unfold aB;rw[Jv (by omega)]
  ·refine⟨_,rfl,go _ _ ?_ fun σ' H' z=>z⟩;unfold aB;rw[Ju (by omega)]
 ·subst eσ;exact⟨_,rfl,q p H1 as sm hp (by unfold dv;rw[Zb]at na;exact na)⟩
abbrev fW:Stmt:=top 35
abbrev wj:List Str:=["deeds","ready","deed"]
theorem ik:FnScope wj ["deeds"] (aq fW):=⟨rfl,rfl,rfl,by decide +kernel,rfl,by decide +kernel,by decide +kernel⟩
abbrev bL:Str:=(("ready_of":Str)++".<locals>.")++"<lambda>"
def GX:Stmt->Expr
 |.For _ it _ _ _=>it
 |.Assign _ e _=>e
 |_=>.Name "" ⟨0,0,0,0⟩
def Ia:Expr->Expr
 |.Call _ _ (k::_) _=>k.value
 |e=>e
def HZ:Expr->Expr
 |.Lambda _ b _ _=>b
 |e=>e
def Ib:Expr->Scope
 |.Lambda _ _ s _=>s
 |_=>default
def bQ:Expr->Pos
 |.Lambda _ _ _ p=>p
 |_=>⟨0,0,0,0⟩
abbrev bF:Expr:=Ia (GX ((bt fW).getD 1 (.Pass ⟨0,0,0,0⟩)))
theorem qO(v3:mg "sum" = none):LamOk P w K mg base 1 bL (HZ bF) (Ib bF) "each" xN:=by
 refine⟨["each"],⟨rfl,rfl,rfl,by decide +kernel,rfl,by decide +kernel,by decide +kernel⟩,fun vs H Q E h=>?_,fun f c' A outer s H vs Q E hr h=>?_⟩
 ·obtain⟨a,d,rfl,_⟩:=h;rfl
 obtain⟨a,d,rfl,⟨c,v,e1,e2,e3,e4,e5⟩,q⟩:=h;refine⟨_,(bA (q_a (q_B (yg (K:=K) rfl rfl) v3 PyProof.Rows.boot_sum (q_a (aA aC (q_v 0) am) aj)) (q_a (aA aC (q_v 0) am) aj))),?_⟩;refine⟨_,rfl,a,_,_,_,rfl,rfl,SqT.of e1,at1,c,d.ns,rfl,SqT.of e2,_,rfl,a,_,_,_,rfl,rfl,SqT.of e1,at0,sz rfl,fun p g=>?_⟩;exact q p _ (ai g _) af
def vS(T:Addr):Sp:=fun vs H Q _=>∃(l:Addr) (L:LT) (n:Nat),vs=[.ref l]/\LR H l L/\L.length<=63/\n<=8/\UN n (vals L)/\aI bL T (bQ bF) H /\
 ∀D H' (S:LT),S.Perm L->((vals S).Pairwise fun d e=>¬kLt e d)->SameT T H H'->aI bL T (bQ bF) H'->H' D=some (.lst (aG (bh S S.length)))->H D=none->Q (.ref D) H'
theorem ax{q:Str}{T:Addr}{pos:Pos}{H H':Hp}(h:aI q T pos H)(s:Same H H'):aI q T pos H':=by obtain⟨ps,e1,e2,e3⟩:=h;exact⟨ps,s _ _ e1,e2,e3.imp id fun⟨c,z1,z2⟩=>⟨c,z1,s _ _ z2⟩⟩
theorem eC{q:Str}{T r:Addr}{pos:Pos}{H H':Hp}(h:aI q T pos H)(s:SameT r H H')(hr:∀f,H r=some f->(∀ps,f≠.tbl ps)/\∀c,f≠ju c q):aI q T pos H':=by obtain⟨ps,e1,e2,e3⟩:=h;exact⟨ps,s _ _ e1 fun z=>(hr _ (by rw[<-z];exact e1)).1 ps rfl,e2,e3.imp id fun⟨c,z1,z2⟩=>⟨c,z1,s _ _ z2 fun z=>(hr _ (by rw[<-z];exact z2)).2 c rfl⟩⟩
theorem Gx{q:Str}{T:Addr}{pos:Pos}{H:Hp}(h:aI q T pos H):∀zs,H T≠some (.tup zs):=fun zs e=>by obtain⟨ps,e1,_⟩:=h;rw[e1]at e;cases e
theorem qB{L:LT}{is:List Nat}(h:∀i∈is,i<L.length):(is.map fun i=>(aG L).getD i .non)=aG (is.map fun i=>L.getD i (0,D0)):=by unfold aG;rw[Yp];apply List.map_congr_left;intro i hi;have hl:=h i hi;simp[hl]
theorem uE{f c0 T:Addr}{fd:FuncData}(F:Fun K "ready_of" "ready_of" fW f fd)(hcode:fd.code=.ref c0)(C:CodeHd base c0 T)(B:Blt base mg)(Iy:Fn P w K mg base 1 "asked_by" ["deed"] vL)(pi:Fn P w K mg base 2 "is_answered" ["deed","name","ready"] zY)(a9:Fn P w K mg base 1 "name_of" ["deed"] eV)(v3:mg "sum" = none)(c8:mg "sorted" = none)(d6:mg "all" = none)(i9:mg "list" = none):FnOk P w K mg base CX0 5 f fd ["deeds"] (vS T):=by
 refine F.okC hcode ik (fun vs H Q E h=>?_) (fun A outer s H vs Q E hr h=>?_)
 ·obtain⟨l,L,n,rfl,_⟩:=h;rfl
 obtain⟨l,L,n,rfl,hL,hz,hn,hg,tab,q⟩:=h;refine⟨_,(b_c (aM (i:=1) ik.nd mZ)
   (b_c (eQ Yr rfl (fE (BL rfl c8 rfl C B (qO v3) (hr.mono (by decide)) (q_a (q_v 0) aj))) (aL (i:=2) ik.nd) (b_1 (aZ (bJ (q_B (jZ rfl) d6 dS (q_a (bS (own:=["name"]) (⟨rfl,by decide +kernel,by decide +kernel,rfl,⟨rfl,rfl,⟨rfl,rfl,trivial⟩⟩⟩:CompOk _ _ [2,1] ["deed","ready"]) rfl (fE (aF Iy (hr.mono (by decide)) (q_a (q_v 2) aj))) (fun _ _ _ _=>aL (i:=0) (show (["name","deed","ready"]:List Str).Nodup by decide +kernel)) (bj (by decide)) (fun _ _ _ _=>gj) (fun _ _ _ _=>(aF pi (hr.mono (by decide)) (q_a (q_v 1) (q_a (q_v 0) (q_a (q_v 2) aj)))))) aj))) (b_1 (jH hr.units (q_v 1) (aF a9 (hr.mono (by decide)) (q_a (q_v 2) aj)) (q_v 2))) b_0)))
   (b_1 (aw (sQ (uW rfl) i9 jn (q_a (zG (q_v 1)) aj)))))),?_⟩
 try rw[cxK]
 intro r gr;have s0:=ai gr (.dT []);have er0:upd H r (.dT []) r=some (.dT []):=af;generalize upd H r (.dT [])=H0 at s0 er0 ⊢;have L0:=hL.same s0;have tab0:=ax tab s0;have nt0:=Gx tab0;have rT:r≠T:=fun z=>by obtain⟨ps,e1,_⟩:=tab;rw[z,e1]at gr;cases gr
 refine⟨_,rfl,l,aG L,L.map fun x=>ZKey.t (kyZ x.2),rfl,.inl L0.1,tab0,by rw[aW];omega,by rw[aW,Zb],.inr fun k hk=>?_,fun i v key H' hv hkey sT R kR=>?_,fun p H2 D hp hls sT tab2 gD=>?_⟩
 ·obtain⟨x,_,rfl⟩:=Zi.mp hk;exact⟨_,rfl,by simp[kyZ]⟩
 ·obtain⟨hi,rfl⟩:=iY hv;rw[ZB,Zd hi]at hkey;cases hkey;exact⟨_,_,rfl,(L0.2 _ (ZA hi)).ts (me nt0 sT),fun p' H'' s'' e''=>kR (.ref p') H'' s'' ⟨p',rfl,e''⟩⟩
 ·rw[aW]at hp hls;have pl:∀i∈p.toList,i<L.length:=fun i hi=>by have:=(hp.mem_iff).mp (Array.mem_toList_iff.mp hi);simpa using this
  rw[qB pl];have so:=uK (f:=Prod.snd) (z:=((0,D0):Addr×Dd)) hp (by rw[Yp]at hls;exact hls);generalize(p.toList.map fun i=>L.getD i (0,D0))=M at so ⊢;obtain⟨sM,pM⟩:=so;have gM:UN n (vals M):=hg.perm (pM.symm.map Prod.snd);have lM:M.length=L.length:=pM.length_eq;have er2:H2 r=some (.dT []):=sT _ _ er0 rT;have s3:=ai gD (.lst (aG M));have eD:upd H2 D (.lst (aG M)) D=some (.lst (aG M)):=af;have er3:=s3 _ _ er2;have nt2:=me nt0 sT;have M3:∀x∈M,DR (upd H2 D (.lst (aG M))) x.1 x.2:=fun x hx=>(L0.2 x (pM.mem_iff.mp hx)).ts (nt2.trans (Same.ts s3));have tab3:=ax tab2 s3;have all3:SameT T H (upd H2 D (.lst (aG M))):=fun b o e hb=>s3 _ _ (sT _ _ (s0 _ _ e) hb);have hD0:H D=none:=by
   cases e:H D with
   |none=>rfl
   |some o =>
    by_cases z:D=T
    ·obtain⟨ps,e1,_⟩:=tab2;rw[<-z,gD]at e1;cases e1
    ·have:=sT _ _ (s0 _ _ e) z;rw[gD]at this;cases this
  have nDr:D≠r:=fun z=>by rw[z,er2]at gD;cases gD
  generalize upd H2 D (.lst (aG M))=H3 at *;refine⟨D,rfl,⟨_,SqL.of eD⟩,rZ (fun k σ H'=>(∃o2,σ=[some (.ref l),some (.ref r),o2])/\SameT r H3 H'/\H' r=some (.dT (ah (bh M k)))) ⟨⟨none,rfl⟩,fun b o e _=>e,er3⟩ (fun i σ H' _ ⟨_,sr,_⟩=>SqL.of (sr _ _ eD nDr)) (fun k x σ H4 hx ⟨⟨o2,eσ⟩,sr,hr4⟩=>?_) (fun σ H4 ⟨⟨o2,eσ⟩,sr,hr4⟩=>?_)⟩
  ·subst eσ;obtain⟨hk,rfl⟩:=iY hx;have t4:TS H3 H4:=me (fun zs e=>by rw[er3]at e;cases e) sr;have M4:∀x∈M,DR H4 x.1 x.2:=fun x hx=>(M3 x hx).ts t4;have dk:=M4 _ (ZA hk);have mk:M[k].2∈vals M:=Zi.mpr ⟨M[k],ZA hk,rfl⟩;refine⟨_,rfl,M[k].1,M[k].2,rfl,dk,fun p1 H5 as s5 e5 na=>?_⟩;have la:as.length<=8:=by rw[na.1];unfold dv;have:=y0 (fun i=>decide (aB M[k].2 i>0)) (List.range M[k].2.ns.length);rw[Y9]at this;have l8:=(gM.len _ mk).1;omega
   have sub:=(cF M k (by omega)).trans (ZP k M);refine⟨p1,rfl,⟨_,SqL.of e5⟩,yn (fun j=>.bl (cW (vals (bh M k)) M[k].2 ((dv M[k].2).getD j 0))) (by rw[Zb];omega) (SqL.of e5) (fun j x H6 hx s6 R kR=>?_) (fun p2 H6 s6 g6=>?_)⟩
   ·rw[ZB]at hx;obtain⟨b,hb,rfl⟩:=Ys.mp hx;have hj:j<(dv M[k].2).length:=by rw[<-na.1];exact(ZH.mp hb).1
    have ej:(dv M[k].2).getD j 0=(dv M[k].2)[j]:=by simp[hj]
    have hbn:=s6 _ _ (na.2 j b _ hb (Zd hj));rw[<-ej]at hbn;have hr6:=s6 _ _ (s5 _ _ hr4);have t6:TS H4 H6:=(Same.ts s5).trans (Same.ts s6);exact⟨_,rfl,_,rfl,_,rfl,M[k].1,b,r,M[k].2,(dv M[k].2).getD j 0,bh M k,n,rfl,dk.ts t6,hbn,hr6,fun x hx=>(M4 x (sub.subset hx)).ts t6,fun x hx=>(gM.len _ (Zi.mpr ⟨x,sub.subset hx,rfl⟩)).1,(gM.len _ mk).1,fun H' s'=>kR H' s'⟩
   ·have S6:=s6.trans (ai g6 (.lst ((List.range (as.map V.ref).length).map fun j=>V.bl (cW (vals (bh M k)) M[k].2 ((dv M[k].2).getD j 0)))));refine⟨p2,(List.range (as.map V.ref).length).map fun j=>cW (vals (bh M k)) M[k].2 ((dv M[k].2).getD j 0),rfl,SqL.of (by rw[af,Yp];rfl),?_⟩;have ea:((List.range (as.map V.ref).length).map fun j=>cW (vals (bh M k)) M[k].2 ((dv M[k].2).getD j 0)).all id=dq (vals (bh M k)) M[k].2:=by unfold dq;rw[Zb,na.1,<-ee (dv M[k].2) 0,List.all_map,List.all_map,ee];rfl
    rw[ea];generalize upd H6 p2 (.lst ((List.range (as.map V.ref).length).map fun j=>V.bl (cW (vals (bh M k)) M[k].2 ((dv M[k].2).getD j 0))))=H7 at S6 ⊢;have S7:=s5.trans S6;have hr7:=S7 _ _ hr4;refine⟨_,rfl,?_⟩;have e1:bh M (k+1)=fX (bh M k) M[k]:=dR hk;unfold fX at e1;by_cases ac:dq (vals (bh M k)) M[k].2=true
    ·rw[Jv ac]at e1;rw[ac];refine aK ⟨_,rfl,_,rfl,_,rfl,M[k].1,M[k].2,rfl,dk.ts (Same.ts S7),fun p3 H8 s8 e8=>?_⟩;have hr8:=s8 _ _ hr7;have vn:bo (ah (bh M k)) (nmK M[k].2)=none:=by
      rw[fj];have:(bh M k).find? (fun x=>decide (nmK x.2=nmK M[k].2))=none:=by rw[Xh];intro y hy;obtain⟨j,hj,rfl⟩:=ZG.mp ((cF M k (by omega)).subset hy);rw[ZF]at hj;rw[x6];have u:=gM.uni;rw[Zu]at u;have:=u j k (by rw[fm];omega) (by rw[fm];exact hk) (by omega);simp only[vals,List.getElem_map]at this;simpa using this
      rw[this];rfl
     have lk:(ah (bh M k)).length<=63:=by unfold ah;rw[Zb];have:=sub.length_le;omega
     refine⟨r,_,rfl,.inr ⟨_,nmK M[k].2,p3,hr8,rfl,e8,Yn lk (by rw[x8];decide),rfl⟩,⟨_,rfl⟩,fun b o e hb=>?_,?_⟩
     ·rw[ad hb];exact s8 _ _ (S7 _ _ (sr _ _ e hb))
     ·rw[af,gF _ vn,e1];congr 2;unfold ah;rw[Zy];rfl
    ·rw[Ju ac]at e1;rw[y7.mpr ac];refine aE ⟨⟨_,rfl⟩,fun b o e hb=>S7 _ _ (sr _ _ e hb),?_⟩;rw[e1];exact hr7
  ·subst eσ;rw[aW]at hr4;refine⟨_,rfl,r,_,rfl,hr4,fun v gv=>?_⟩;have sv:=ai gv (fc v (kN r));refine⟨v,r,_,rfl,af,sv _ _ hr4,fun l2 g2=>?_⟩;have s2:=ai g2 (.lst ((ah (bh M M.length)).map (·.2)));have rb:SameT r H3 (upd (upd H4 v (fc v (kN r))) l2 (.lst ((ah (bh M M.length)).map (·.2)))):=fun b o e hb=>s2 _ _ (sv _ _ (sr _ _ e hb));have hl2:H l2=none:=by
    cases e:H l2 with
    |none=>rfl
    |some o =>
     have hb:l2≠r:=fun z=>by rw[z,gr]at e;cases e
     by_cases z:l2=T
     ·obtain⟨ps,e1,_⟩:=tab3;rw[<-z]at e1;have:=sv _ _ (sr _ _ e1 hb);rw[g2]at this;cases this
     ·have:=sv _ _ (sr _ _ (all3 _ _ e z) hb);rw[g2]at this;cases this
   refine q l2 _ M pM sM (fun b o e hb=>?_) (eC tab3 rb fun f' hf'=>?_) ?_ hl2
   ·refine rb _ _ (all3 _ _ e hb) fun z=>?_;rw[z,gr]at e;cases e
   ·rw[er3]at hf';cases hf';exact⟨fun ps e=>(by cases e),fun c e=>(by cases e)⟩
   ·rw[af];congr 2;unfold ah aG;rw[Yp];rfl
theorem ym{J:L2.It}{N n:Nat}{cap:List Nat}{g:TG}{tc:TT}{te:TE}{σ:St}{H0:Hp}{Q:VK}(Pv:Nat->List V->Hp->Prop)(hz:N<=1000)(hn:∀i ys H,Pv i ys H->ys.length<=i)(h0:Pv 0 [] H0)(hgo:∀i ys H,i<N->Pv i ys H->J.go i H)(hst:∀ys H,Pv N ys H->J.stop N H)(ht:∀i ys H x H',i<N->Pv i ys H->J.yld i H x H'->∀Y:List V->Hp->Prop,(∀zs H4,Pv (i+1) zs H4->Y zs H4)->g x (be n cap σ) H' fun σ2 H2=>tc σ2 H2 fun b H3=>if b=true then te σ2 H3 fun y H4=>Y (ys++[y]) H4 else Y ys H3)(hq:∀ys p H,Pv N ys H->H p=none->Q (.ref p) (upd H p (.lst ys))):bV n cap g tc te σ J H0 Q:=by
 refine⟨fun i m ys H=>m=N-i/\i<=N/\Pv i ys H,⟨N,by simp,ZT _,h0⟩,?_⟩;rintro i m ys H ⟨rfl,hi,pv⟩;by_cases hlt:i<N
 ·refine .inr ⟨hgo i ys H hlt pv,?_,fun x H' y=>?_⟩
  ·have:=hn i ys H pv;exact Yn (ZZ this (by omega)) (show 1000<sizeLine by decide)
  ·exact ht i ys H x H' hlt pv y (fun ys H4=>∃m',m'<N-i/\m'=N-(i+1)/\i+1<=N/\Pv (i+1) ys H4) fun zs H4 z=>⟨N-(i+1),by omega,rfl,hlt,z⟩
 ·have e:i=N:=by omega
  subst e;exact .inl ⟨hst ys H pv,fun p hp=>hq ys p H pv hp⟩
theorem iH{K:PySem.W.Frag}{a:Addr}{xs:List V}{n:Nat}{cap:List Nat}{g:TG}{tc:TT}{te:TE}{σ:St}{H0:Hp}{Q:VK}(Pv:Nat->List V->Hp->Prop)(hz:xs.length<=1000)(hn:∀i ys H,Pv i ys H->ys.length<=i)(h0:Pv 0 [] H0)(hl:∀i ys H,Pv i ys H->SqL K H a xs)(ht:∀i ys H x,xs[i]?=some x->Pv i ys H->∀Y:List V->Hp->Prop,(∀zs H4,Pv (i+1) zs H4->Y zs H4)->g x (be n cap σ) H fun σ2 H2=>tc σ2 H2 fun b H3=>if b=true then te σ2 H3 fun y H4=>Y (ys++[y]) H4 else Y ys H3)(hq:∀ys p H,Pv xs.length ys H->H p=none->Q (.ref p) (upd H p (.lst ys))):bV n cap g tc te σ (Itl K a) H0 Q:=by refine ym (N:=xs.length) Pv hz hn h0 (fun i ys H hi z=>⟨xs,xs[i],hl i ys H z,by simp[hi]⟩) (fun ys H z=>⟨xs,hl _ ys H z,Ze _⟩) (fun i ys H x H' hi z y Y hY=>?_) hq;obtain rfl:H'=H:=y.1;exact ht i ys H' x (y.2 xs (hl i ys H' z)) z Y hY
theorem wJ{lo:Int}{n j:Nat}{tb:L2.TS}{D:Ends}{σ:St}{H:Hp}(Pv:Nat->St->Hp->Prop)(h0:Pv 0 σ H)(hs:∀i σ H,i<n->Pv i σ H->∀D':Ends,(∀σ' H',Pv (i+1) σ' H'->D'.nx σ' H')->tb D' (σ.set j (some (.int (lo+i)))) H)(hd:∀σ H,Pv n σ H->D.nx σ H) :
  ∃W:Nat->Nat->St->Hp->Prop,(∃m,W 0 m σ H)/\∀i m σ H,W i m σ H ->
   ((Itr lo n).stop i H/\D.nx σ H)\/((Itr lo n).go i H/\∃N:St->Hp->Prop,(∀σ' H',N σ' H'->∃m',m'<m/\W (i+1) m' σ' H')/\∀x H',(Itr lo n).yld i H x H'->bw j x σ H' fun σ2 H2=>tb { D with nx:=N,ct:=N,bk:=D.nx } σ2 H2) :=
 wK Pv h0 hs hd
theorem GU:¬(("hands":Str)="deeds"):=by decide +kernel
def fL(n:Nat)(d:Addr):List (Str×V):=cS "deeds" (.ref d) (cS "hands" (.int (n:Int)) [])
theorem iN(n:Nat)(d:Addr):(fL n d).lookup ("hands":Str)=some (.int (n:Int)):=by unfold fL;rw[ci,Ju GU,ci,Jv rfl]
theorem bH(n:Nat)(d:Addr):(fL n d).lookup ("deeds":Str)=some (.ref d):=by unfold fL;rw[ci,Jv rfl]
structure StoreAt(C:Addr)(H:Hp)(p d:Addr)(n:Nat)(L:LT):Prop where
 ob:∃dx,H p=some (.ins C dx (fL n d))
 dc:H d=some (.dT (ah L))
 dr:∀x∈L,DR H x.1 x.2
 un:UN n (vals L)
 n1:1<=n
 n8:n<=8
 len:L.length<=63
structure Txt(K:PySem.W.Frag)(C:Addr):Prop where
 cl:Cls K C
 nH:NoAttr K C "hands"
 nD:NoAttr K C "deeds"
def KT(H H':Hp):Prop:=∀b o,H b=some o->(∀ps,o≠.tbl ps)->H' b=some o
theorem KT.of{H H':Hp}(s:Same H H'):KT H H':=fun b o e _=>s b o e
theorem KT.trans{H H' H2:Hp}(s:KT H H')(t:KT H' H2):KT H H2:=fun b o e n=>t b o (s b o e n) n
theorem KT.ts{H H':Hp}(s:KT H H'):TS H H':=fun a zs h=>s a _ h fun ps z=>by cases z
theorem KT.tab{q:Str}{T:Addr}{pos:Pos}{H H':Hp}(t:aI q T pos H)(s:SameT T H H'):KT H H':=fun b o e n=>s b o e fun z=>by obtain⟨ps,e1,_⟩:=t;rw[z,e1]at e;cases e;exact n ps rfl
theorem KT.lr{H H':Hp}{l:Addr}{L:LT}(s:KT H H')(x:LR H l L):LR H' l L:=⟨s _ _ x.1 (fun ps z=>by cases z),fun y hy=>(x.2 y hy).ts s.ts⟩
theorem StoreAt.kt{C:Addr}{H H':Hp}{p d:Addr}{n:Nat}{L:LT}(x:StoreAt C H p d n L)(s:KT H H'):StoreAt C H' p d n L:=by obtain⟨⟨dx,h1⟩,h2,h3,h4,h5,h6,h7⟩:=x;exact⟨⟨dx,s _ _ h1 fun ps z=>by cases z⟩,s _ _ h2 (fun ps z=>by cases z),fun y hy=>(h3 y hy).ts s.ts,h4,h5,h6,h7⟩
theorem StoreAt.same{C:Addr}{H H':Hp}{p d:Addr}{n:Nat}{L:LT}(x:StoreAt C H p d n L)(s:Same H H'):StoreAt C H' p d n L:=x.kt (.of s)
def RDY(L M:LT):Prop:=∃S:LT,S.Perm L/\((vals S).Pairwise fun d e=>¬kLt e d)/\M=bh S S.length
theorem RDY.sub{L M:LT}(h:RDY L M):∀x∈M,x∈L:=fun x hx=>by obtain⟨S,pS,_,rfl⟩:=h;exact pS.mem_iff.mp (((cF S S.length (Ze _)).trans (ZP _ _)).subset hx)
theorem RDY.len{L M:LT}(h:RDY L M):M.length<=L.length:=by obtain⟨S,pS,_,rfl⟩:=h;have:=((cF S S.length (Ze _)).trans (ZP _ _)).length_le;have e:=pS.length_eq;omega
def Ac(C:Addr):Sp:=fun vs H Q _=>∃(p dx:Addr) (n:Nat),vs=[.ref p,.int (n:Int)]/\H p=some (.ins C dx [])/\1<=n/\n<=8/\∀(d:Addr) (H':Hp),H d=none->StoreAt C H' p d n []->(∀b o,H b=some o->b≠p->H' b=some o)->Q .non H'
structure Fit(n:Nat)(d:Dd):Prop where
 len:d.ns.length=n
 hd:d.h<n
 nn:∀z∈d.ns,0<=z
 own:1<=ag d.ns d.h
def Ab(C:Addr):Sp:=fun vs H Q _=>∃(p d a:Addr) (n:Nat) (L:LT) (e:Dd),vs=[.ref p,.ref a]/\StoreAt C H p d n L/\DR H a e/\Fit n e /\
 ((L.length<63/\(∀x∈L,nmK x.2≠nmK e)/\∀H',SameT d H H'->StoreAt C H' p d n (L++[(a,e)])->Q (.bl true) H')\/((∃x∈L,x.2=e)/\∀H',Same H H'->Q (.bl false) H'))
def gO(C T:Addr):Sp:=fun vs H Q _=>∃(p d:Addr) (n:Nat) (L:LT),vs=[.ref p]/\StoreAt C H p d n L/\aI bL T (bQ bF) H /\
 ∀D H' (M:LT),RDY L M->SameT T H H'->aI bL T (bQ bF) H'->H' D=some (.lst (aG M))->H D=none->Q (.ref D) H'
abbrev gJ:Stmt:=fb (top 39) 0
abbrev rD:List Str:=["self","hands"]
theorem qT:FnScope rD ["self","hands"] (aq gJ):=⟨rfl,rfl,rfl,by decide +kernel,rfl,by decide +kernel,by decide +kernel⟩
theorem qQ{f C:Addr}{fd:FuncData}(F:Fun K "__init__" "Store.__init__" gJ f fd)(T:Txt K C):FnOk P w K mg base CX0 1 f fd ["self","hands"] (Ac C):=by
 refine F.okQ qT (fun vs H Q E h=>?_) (fun cdv A outer s H vs Q E hr h=>?_)
 ·obtain⟨p,dx,n,rfl,_⟩:=h;rfl
 obtain⟨p,dx,n,rfl,hp,n1,n8,k⟩:=h;refine⟨_,(b_c (CC (q_v 0) (q_v 1))
   (b_1 (CC (q_v 0) mZ))),?_⟩
 try rw[cxK]
 refine⟨_,rfl,_,rfl,p,C,dx,[],rfl,hp,T.cl,T.nH,(by show 0<1000;decide),?_⟩;intro d hd;have hd0:H d=none:=by
  cases e:H d with
  |none=>rfl
  |some o =>
   by_cases c:d=p
   ·subst c;rw[af]at hd;cases hd
   ·rw[ad c,e]at hd;cases hd
 have npd:p≠d:=al hp hd0;refine⟨_,rfl,p,C,dx,_,rfl,(by rw[ad npd,af]),T.cl,T.nD,(by show 1<1000;decide),?_⟩;refine k d _ hd0 ⟨⟨dx,af⟩,by rw[ad npd.symm,af];rfl,fun x hx=>(nomatch hx),⟨fun _ h=>(nomatch h),fun _ h=>(nomatch h),.nil⟩,n1,n8,ZT _⟩ fun b o e hb=>?_;rw[ad hb,ad (al e hd0),ad hb];exact e
theorem Ei(b:Bool):iD (tx b)=true:=by cases b<;>decide +kernel
theorem Il(b:Bool):(tx b).length<=1000:=by cases b<;>decide +kernel
theorem Im(b:Bool):((tx b).cps.all fun x=>decide (x<128))=true:=by cases b<;>decide +kernel
theorem Io(b:Bool):(true&&decide ((tx b).length<=60))=true:=by cases b<;>decide +kernel
theorem FQ:PyProof.Rows.KTD.datumAt ("put":Str) DT=some (tw ([Kd.u,.p,.t].map nm)):=by with_unfolding_all rfl
theorem De:PyProof.Rows.KTD.datumAt ("none":Str) DT=some (tw (([]:List Kd).map nm)):=by with_unfolding_all rfl
theorem Ej{H:Hp}{v:V}{w':Option (Int×Bool)}{hd:Int}{ns:List Int}(h:WR H v w'):WhatR K H hd ns v true:=by
 cases w' with
 |none =>obtain⟨p,rfl,e⟩:=h;exact .is (ks:=[]) (bs:=[]) e De (by decide) ⟨rfl,rfl,fun i k v b h _ _=>by simp at h⟩ rfl
 |some m =>
  obtain⟨p,q,rfl,e,e2⟩:=h;refine .is (ks:=[.u,.p,.t]) (bs:=[true,true,true]) e FQ (by decide) ⟨rfl,rfl,fun i k v b h1 h2 h3=>?_⟩ rfl
  match i with
  |0=>cases h1;cases h2;cases h3;exact .u0
  |1 =>
   cases h1;cases h2;cases h3;refine .pl ⟨⟨_,.tup e2⟩,fun a xs ha hx=>?_⟩ ?_
   ·cases ha;rw[e2]at hx;cases hx;refine⟨by simp,fun x hx=>?_⟩;rw[Zo.mp hx];exact⟨_,.int m.1⟩
   ·show mY (H q)=true;rw[e2];rfl
  |2 =>cases h1;cases h2;cases h3;obtain⟨m,b⟩:=m;exact .tx (Il b) (Im b) (by rw[Ei];exact Io b)
  |i+3=>simp at h1
theorem vc{H:Hp}{a:Addr}{d:Dd}{n:Nat}(h:DR H a d)(f:Fit n d)(n8:n<=8):DeedR K H (n:Int) (.ref a) true:=by obtain⟨c,v,h1,h2,h3,h4,h5⟩:=h;exact .is h1 (Int.natCast_nonneg _) (by have:=f.hd;omega) h2 (by rw[f.len]) f.nn (by omega) (by rw[Z7];exact f.own) (Ej h3)
theorem bD{n:Nat}{L:LT}(u:UN n (vals L)){x:Addr×Dd}(hx:x∈L):bo (ah L) (nmK x.2)=some (.ref x.1):=by
 rw[fj];have:L.find? (fun y=>decide (nmK y.2=nmK x.2))=some x:=by
  have hs:(L.find? fun y=>decide (nmK y.2=nmK x.2)).isSome=true:=by rw[List.find?_isSome];exact⟨x,hx,decide_eq_true rfl⟩
  obtain⟨y,hy⟩:=Option.isSome_iff_exists.mp hs;rw[hy];have my:=Y4 hy;have qy:nmK y.2=nmK x.2:=ZJ (p:=nmK y.2=nmK x.2) (List.find?_some (p:=fun y:Addr×Dd=>decide (nmK y.2=nmK x.2)) hy);have nd:=u.uni;unfold vals at nd;rw[Z8]at nd;obtain⟨i,hi,rfl⟩:=ZG.mp my;obtain⟨j,hj,rfl⟩:=ZG.mp hx;rw[Zu]at nd;rcases Nat.lt_trichotomy i j with c|c|c
  ·exact absurd qy (nd i j hi hj c)
  ·subst c;rfl
  ·exact absurd qy.symm (nd j i hj hi c)
 rw[this];rfl
theorem cK(d:Dd):SeqAt.shaped (dD d)=true:=by obtain⟨h1,h2⟩:=ko (d:=d) trivial;unfold SeqAt.shaped;rw[Zz];exact⟨h1,decide_eq_true (by omega)⟩
theorem sj{C p d a:Addr}{H H2:Hp}{n:Nat}{L:LT}{e:Dd}(S:StoreAt C H p d n L)(s12:Same H H2)(hd:DR H a e)(ft:Fit n e)(ll:L.length<63)(hn:∀x∈L,nmK x.2≠nmK e)(vn:bo (ah L) (nmK e)=none):StoreAt C (upd H2 d (.dT (cU (ah L) (nmK e) (.ref a)))) p d n (L++[(a,e)]):=by
 obtain⟨⟨dx,h1⟩,h2,h3,h4,h5,h6,h7⟩:=S;rw[gF _ vn];have tA:TS H2 (upd H2 d (.dT (ah L++[(nmK e,.ref a)]))):=jV fun zs z=>by rw[s12 _ _ h2]at z;cases z
 have npd:p≠d:=fun z=>by rw[z,h2]at h1;cases h1
 have ek:ah L++[(nmK e,V.ref a)]=ah (L++[(a,e)]):=by unfold ah;rw[Zy];rfl
 have ev:vals (L++[(a,e)])=vals L++[e]:=by unfold vals;rw[Zy];rfl
 refine⟨⟨dx,by rw[ad npd];exact s12 _ _ h1⟩,by rw[af,ek],fun x hx=>?_,?_,h5,h6,by rw[Zg];exact ll⟩
 ·rcases Zt.mp hx with hx|hx
  ·exact(h3 x hx).ts ((Same.ts s12).trans tA)
  ·rw[Zo.mp hx];exact hd.ts ((Same.ts s12).trans tA)
 ·rw[ev];refine⟨fun x hx=>?_,fun x hx=>?_,ZN.mpr ⟨h4.uni,List.pairwise_singleton _ _,fun x hx y hy=>?_⟩⟩
  ·rcases Zt.mp hx with hx|hx
   ·exact h4.len x hx
   ·rw[Zo.mp hx];exact⟨ft.len,ft.hd⟩
  ·rcases Zt.mp hx with hx|hx
   ·exact h4.own x hx
   ·rw[Zo.mp hx];have:=ft.own;omega
  ·rw[Zo.mp hy];obtain⟨z,hz,rfl⟩:=Zi.mp hx;exact hn z hz
abbrev eN:Stmt:=fb (top 39) 1
abbrev rC:List Str:=["self","deed","name"]
theorem dM:FnScope rC ["self","deed"] (aq eN):=⟨rfl,rfl,rfl,by decide +kernel,rfl,by decide +kernel,by decide +kernel⟩
theorem qP{f C:Addr}{fd:FuncData}(F:Fun K "hear" "Store.hear" eN f fd)(T:Txt K C)(i6:Fn P w K mg base 7 "is_deed" ["thing","hands"] (tO K))(a9:Fn P w K mg base 1 "name_of" ["deed"] eV):FnOk P w K mg base CX0 8 f fd ["self","deed"] (Ab C):=by
 refine F.okQ dM (fun vs H Q E h=>?_) (fun cdv A outer s H vs Q E hr h=>?_)
 ·obtain⟨p,d,a,n,L,e,rfl,_⟩:=h;rfl
 obtain⟨p,d,a,n,L,e,rfl,S,hd,ft,q⟩:=h;obtain⟨⟨dx,h1⟩,h2,h3,h4,h5,h6,h7⟩:=id S;refine⟨_,(b_c (aZ (bY (bJ (aF i6 (hr.mono (by decide)) (q_a (q_v 1) (q_a (dJ (q_v 0)) aj))))) (b_1 pH) b_0)
   (b_c (aM (i:=2) dM.nd (aF a9 (hr.mono (by decide)) (q_a (q_v 1) aj)))
   (b_c (aZ (fi hr.units (q_v 2) (dJ (q_v 0))) (b_c (jH hr.units (dJ (q_v 0)) (q_v 2) (q_v 1))
   (b_1 (aw bR))) b_0)
   (b_c (aZ (aS (xi hr.units) (bU hr.units (dJ (q_v 0)) (q_v 2)) (q_v 1)) (b_1 pH) b_0)
   (b_1 (aw bR)))))),?_⟩
 try rw[cxK]
 refine⟨_,rfl,_,rfl,p,C,dx,_,_,rfl,h1,T.cl,T.nH,iN _ _,_,true,(n:Int),rfl,vc hd ft h6,fun H1 s1=>?_⟩;refine⟨_,rfl,?_⟩;refine⟨_,rfl,a,e,rfl,hd.same s1,fun t H2 s2 et=>?_⟩;have s12:=s1.trans s2;refine⟨_,rfl,_,rfl,p,C,dx,_,_,rfl,s12 _ _ h1,T.cl,T.nD,bH _ _,d,_,rfl,.inr ⟨_,nmK e,t,.inl (s12 _ _ h2),rfl,et,rfl⟩,_,rfl,?_⟩;rcases q with⟨ll,hn,q⟩|⟨⟨x,hx,rfl⟩,q⟩
 ·have vn:bo (ah L) (nmK e)=none:=by
   rw[fj];have:L.find? (fun x=>decide (nmK x.2=nmK e))=none:=by rw[Xh];intro y hy;simpa using hn y hy
   rw[this];rfl
  rw[vn];refine aK ?_;have lk:(ah L).length<=63:=by unfold ah;rw[Zb];exact h7
  refine⟨_,rfl,_,rfl,p,C,dx,_,_,rfl,s12 _ _ h1,T.cl,T.nD,bH _ _,_,rfl,d,_,rfl,.inr ⟨_,nmK e,t,s12 _ _ h2,rfl,et,Yn lk (by rw[x8];decide),rfl⟩,?_⟩;exact q _ (fun b o eb hb=>by rw[ad hb];exact s12 _ _ eb) (sj S s12 hd ft ll hn vn)
 ·rw[bD h4 hx];refine aE ?_;have hx12:=(h3 x hx).same s12;have hd12:=hd.same s12;refine⟨_,rfl,p,C,dx,_,_,rfl,s12 _ _ h1,T.cl,T.nD,bH _ _,_,rfl,d,.ref x.1,rfl,.inr ⟨_,nmK x.2,t,.inl (s12 _ _ h2),rfl,et,(bD h4 hx).symm⟩,_,rfl,_,_,hx12.dt,hd12.dt,cK _,cK _,_,rfl,?_⟩;rw[SeqAt.eqv_refl _ (ko (d:=x.2) trivial).1];exact aE (q _ s12)
theorem Bc(L:LT):(ah L).map (·.2)=aG L:=by unfold ah aG;rw[Yp];rfl
abbrev fO:Stmt:=fb (top 39) 2
abbrev qK:List Str:=["self"]
theorem pO:FnScope qK ["self"] (aq fO):=⟨rfl,rfl,rfl,by decide +kernel,rfl,by decide +kernel,by decide +kernel⟩
theorem pf{f C T:Addr}{fd:FuncData}(F:Fun K "ready" "Store.ready" fO f fd)(X:Txt K C)(Iz:Fn P w K mg base 5 "ready_of" ["deeds"] (vS T))(i9:mg "list" = none):FnOk P w K mg base CX0 6 f fd ["self"] (gO C T):=by
 refine F.okQ pO (fun vs H Q E h=>?_) (fun cdv A outer s H vs Q E hr h=>?_)
 ·obtain⟨p,d,n,L,rfl,_⟩:=h;rfl
 obtain⟨p,d,n,L,rfl,S,tab,q⟩:=h;obtain⟨⟨dx,h1⟩,h2,h3,h4,h5,h6,h7⟩:=id S;refine⟨_,(b_1 (aw (aF Iz (hr.mono (by decide)) (q_a (sQ (uW rfl) i9 jn (q_a (zG (dJ (q_v 0))) aj)) aj)))),?_⟩
 try rw[cxK]
 refine⟨_,rfl,p,C,dx,_,_,rfl,h1,X.cl,X.nD,bH _ _,d,_,rfl,h2,fun v gv=>?_⟩;have sv:=ai gv (fc v (kN d));refine⟨v,d,_,rfl,af,sv _ _ h2,fun l2 g2=>?_⟩;rw[Bc];have s2:=sv.trans (ai g2 (.lst (aG L)));refine⟨l2,L,n,rfl,⟨af,fun x hx=>(h3 x hx).same s2⟩,h7,h6,h4,ax tab s2,fun D H' S' pS sS sT tab' eD nD=>?_⟩;exact q D H' _ ⟨S',pS,sS,rfl⟩ (fun b o e hb=>sT _ _ (s2 _ _ e) hb) tab' eD (s2.free nD)
def NmI(H:Hp)(v:V)(k:List Int):Prop:=∃b,v=.ref b/\H b=some (.tup (k.map V.int))
abbrev NsI(H:Hp)(vs:List V)(ks:List (List Int)):Prop:=Paired (NmI H) vs ks
theorem NmI.ts{H H':Hp}{v:V}{k:List Int}(x:NmI H v k)(s:TS H H'):NmI H' v k:=by obtain⟨b,h1,h2⟩:=x;exact⟨b,h1,s _ _ h2⟩
theorem NsI.ts{H H':Hp}{vs:List V}{ks:List (List Int)}(x:NsI H vs ks)(s:TS H H'):NsI H' vs ks:=Paired.mapP x fun _ _ z=>z.ts s
theorem mX{α β:Type}{R:α->β->Prop}{xs:List α}{ys:List β}(x:Paired R xs ys):∀{i:Nat} {a:α},xs[i]?=some a->∃b,ys[i]?=some b/\R a b:=by
 induction x with
 |nil=>intro i a h;simp at h
 |cons r _ ih =>
  intro i a h;cases i with
  |zero=>cases h;exact⟨_,rfl,r⟩
  |succ i=>exact ih h
theorem Cq{H:Hp}{vs:List V}{ks:List (List Int)}(x:NsI H vs ks):∃as:List Addr,vs=as.map V.ref/\ks.length=as.length/\∀(i:Nat) (a:Addr) (k:List Int),as[i]?=some a->ks[i]?=some k->H a=some (.tup (k.map V.int)):=by
 induction x with
 |nil=>exact⟨[],rfl,rfl,fun i a k h=>by simp at h⟩
 |cons r _ ih =>
  obtain⟨as,e1,e2,e3⟩:=ih;obtain⟨b,rfl,hb⟩:=r;refine⟨b::as,by rw[e1];rfl,by rw[Zm,Zm,e2],fun i a k h1 h2=>?_⟩;cases i with
  |zero=>cases h1;cases h2;exact hb
  |succ i=>exact e3 i a k h1 h2
theorem Cr{H:Hp}{vs:List V}{ks:List (List Int)}(x:NsI H vs ks):DtAll H (ks.map fun k=>PyData.tuple (k.map .int)) vs/\PyData.canLayAll0 (ks.map fun k=>PyData.tuple (k.map .int))=true/\PyData.depthAll (ks.map fun k=>PyData.tuple (k.map .int))<=2:=by
 induction x with
 |nil=>exact⟨by simp[DtAll],rfl,by simp[PyData.depthAll]⟩
 |@cons v k _ _ r _ ih =>
  obtain⟨b,rfl,hb⟩:=r;obtain⟨i1,i2,i3⟩:=ih;obtain⟨l1,l2⟩:=lO k;refine⟨?_,?_,?_⟩
  ·simp only[Z0,DtAll];exact⟨_,_,rfl,iq hb,i1⟩
  ·simp only[Z0,PyData.canLayAll0,i2,PyData.canLay0,l1];rfl
  ·simp only[Z0,PyData.depthAll,PyData.depth];omega
theorem E5(k:List Int)(ks:List (List Int)):((ks.map fun k=>PyData.tuple (k.map .int)).any fun d=>PyData.eqv d (.tuple (k.map .int)))=decide (k∈ks):=by
 induction ks with
 |nil=>rfl
 |cons m ks ih =>rw[Z0,List.any_cons,ih,iJ,YG,Bool.or_eq_true,YE,YE,YE,Zs,eq_comm (a:=m)]
theorem tL{H:Hp}{as:List Addr}{F:LT}{f:Dd->List Int}{pm:Array Nat}(hl:F.length=as.length)(hk:∀(i:Nat) (a:Addr) (k:List Int),as[i]?=some a->(F.map fun x=>f x.2)[i]?=some k->H a=some (.tup (k.map V.int)))(hp:POk as.length pm)(hs:LS (fun i j=>HT.lexLt ((F.map fun x=>f x.2).getD i []) ((F.map fun x=>f x.2).getD j [])) pm as.length) :
  ∃N:LT,N.Perm F/\NsI H (pm.toList.map fun i=>(as.map V.ref).getD i .non) (N.map fun x=>f x.2)/\N.Pairwise fun x y=>HT.lexLt (f y.2) (f x.2)=false:=by
 have ep:pm.toList.Perm (List.range F.length):=by have:=YW.mp hp;rw[hl];simpa using this
 have pl:∀i∈pm.toList,i<F.length:=fun i hi=>ZV.mp (ep.mem_iff.mp hi);refine⟨pm.toList.map fun i=>F.getD i (0,D0),?_,?_,?_⟩
 ·have:=ep.map fun i=>F.getD i ((0,D0):Addr×Dd);rw[ee]at this;exact this
 ·generalize pm.toList=ws at pl;induction ws with
  |nil=>exact .nil
  |cons i ws ih =>
   have hi:=pl i Z9;refine .cons ?_ (ih fun j hj=>pl j (ZC _ hj));have ha:as[i]?=some (as[i]'(by omega)):=Zd (by omega);refine⟨as[i]'(by omega),?_,?_⟩
   ·show(as.map V.ref).getD i V.non=_;rw[Zf,ZB,ha];rfl
   ·refine hk i _ _ ha ?_;show _=some (f (F.getD i (0,D0)).2);rw[ZB,Zf,Zd hi];rfl
 ·rw[Z8,Zu];intro i j hi hj hij;have hz:pm.size=as.length:=by have:=hp.size_eq;simpa using this
  rw[Zh]at hi hj;have lx:=(hs i j hij (by omega)).1;have e1:gA pm i=pm.toList[i]'(by rw[Zh];exact hi):=by rw[aJ,Zf,Zd (by rw[Zh];exact hi)];rfl
  have e2:gA pm j=pm.toList[j]'(by rw[Zh];exact hj):=by rw[aJ,Zf,Zd (by rw[Zh];exact hj)];rfl
  have m1:=pl _ (ZA (show i<pm.toList.length by rw[Zh];exact hi));have m2:=pl _ (ZA (show j<pm.toList.length by rw[Zh];exact hj));rw[e1,e2]at lx;generalize pm.toList[i]'(by rw[Zh];exact hi)=a at *;generalize pm.toList[j]'(by rw[Zh];exact hj)=b at *;have ga:∀k,k<F.length->((F.map fun x=>f x.2).getD k [])=f (F.getD k (0,D0)).2:=fun k hk=>by simp[hk]
  dsimp only at lx;rw[ga a m1,ga b m2]at lx;exact lx
def aY(M:LT):List (List Int):=M.map fun x=>nmZ x.2
def au(M:LT)(x:Addr×Dd):Bool:=!decide (nmZ x.2∈aY M)
def Wt(L M N:LT):Prop:=N.Perm (L.filter (au M))/\N.Pairwise fun x y=>HT.lexLt (nmZ y.2) (nmZ x.2)=false
theorem Wt.sub{L M N:LT}(h:Wt L M N):∀x∈N,x∈L:=fun x hx=>(ZL.mp (h.1.mem_iff.mp hx)).1
theorem Wt.len{L M N:LT}(h:Wt L M N):N.length<=L.length:=by rw[h.1.length_eq];exact y0 _ _
def tZ(C T:Addr):Sp:=fun vs H Q _=>∃(p d:Addr) (n:Nat) (L:LT),vs=[.ref p]/\StoreAt C H p d n L/\aI bL T (bQ bF) H /\
 ∀D H' (M N:LT) (ys:List V),RDY L M->Wt L M N->SameT T H H'->aI bL T (bQ bF) H'->H' D=some (.lst ys)->NsI H' ys (aY N)->H D=none->Q (.ref D) H'
theorem nk{T:Addr}{H H':Hp}{q:Str}{pos:Pos}(s:SameT T H H')(t:aI q T pos H'){D:Addr}(h:H' D=none):H D=none:=by
 cases e:H D with
 |none=>rfl
 |some o =>
  by_cases c:D=T
  ·obtain⟨ps,e1,_⟩:=t;rw[<-c,h]at e1;cases e1
  ·have:=s _ _ e c;rw[h]at this;cases this
theorem bW{α:Type}{l:List α}{i:Nat}{x:α}(h:l[i]?=some x):l.take (i+1)=l.take i++[x]:=by rw[List.take_succ,h];rfl
theorem gZ{L:LT}{k:Nat}{x:V}(h:(aG L)[k]?=some x):∃y,L[k]?=some y/\y∈L/\x=.ref y.1:=by obtain⟨hk,rfl⟩:=iY h;exact⟨L[k],Zd hk,ZA hk,rfl⟩
theorem ir(n:Nat)(d:Addr){m:Str}(h1:¬m="deeds")(h2:¬m="hands"):(fL n d).lookup m=none:=by
 unfold fL;rw[ci,Ju h1,ci,Ju h2]
 all_goals rfl
theorem iX(n:Nat)(d:Addr):(fL n d).lookup ("ready":Str)=none:=ir n d (by decide +kernel) (by decide +kernel)
theorem mR(n:Nat)(d:Addr):(fL n d).lookup ("waiting":Str)=none:=ir n d (by decide +kernel) (by decide +kernel)
abbrev eO:Stmt:=fb (top 39) 3
abbrev mn:List Str:=["self","ready"]
theorem gN:FnScope mn ["self"] (aq eO):=⟨rfl,rfl,rfl,by decide +kernel,rfl,by decide +kernel,by decide +kernel⟩
theorem lU{f C T:Addr}{fd:FuncData}(F:Fun K "waiting" "Store.waiting" eO f fd)(X:Txt K C)(d7:MFn P w K mg base 6 C "ready" ["self"] (gO C T))(a9:Fn P w K mg base 1 "name_of" ["deed"] eV)(c8:mg "sorted" = none):FnOk P w K mg base CX0 7 f fd ["self"] (tZ C T):=by
 refine F.okQ gN (fun vs H Q E h=>?_) (fun cdv A outer s H vs Q E hr h=>?_)
 ·obtain⟨p,d,n,L,rfl,_⟩:=h;rfl
 obtain⟨p,d,n,L,rfl,S,tab,q⟩:=h;obtain⟨⟨dx,h1⟩,h2,h3,h4,h5,h6,h7⟩:=id S;refine⟨_,(b_c (aM (i:=1) gN.nd (bS (own:=["deed"]) (⟨rfl,by decide +kernel,by decide +kernel,rfl,trivial⟩:CompOk _ _ [] []) rfl (fE (dX d7 (hr.mono (by decide)) (q_v 0))) (fun _ _ _ _=>aL (i:=0) (show (["deed"]:List Str).Nodup by decide +kernel)) (bj (by decide)) (fun _ _ _ _=>gj) (fun _ _ _ _=>(aF a9 (hr.mono (by decide)) (q_a (q_v 0) aj)))))
   (b_1 (aw (q_B uX c8 PyProof.Rows.boot_sorted (q_a (sZ (bS (own:=["name"]) (⟨rfl,by decide +kernel,by decide +kernel,rfl,⟨rfl,rfl,trivial⟩⟩:CompOk _ _ [1] ["ready"]) rfl (gT (dJ (q_v 0))) (fun _ _ _ _=>aL (i:=0) (show (["name","ready"]:List Str).Nodup by decide +kernel)) (bj (by decide)) (fun _ _ _ _=>(oJ (aS (qA (K:=K) (k:=1) rfl (hr.mono (by decide))) (q_v 0) (q_v 1)))) (fun _ _ _ _=>(q_v 0)))) aj))))),?_⟩
 try rw[cxK]
 refine aN fun R0 hR0=>?_;refine⟨_,rfl,p,dx,_,rfl,h1,iX _ _,p,d,n,L,rfl,S,tab,fun D H1 M rd sT tab1 eD nD=>?_⟩;have kt1:=KT.tab tab sT;have S1:=S.kt kt1;have lM:=rd.len;refine⟨D,rfl,⟨_,SqL.of eD⟩,?_⟩;refine iH (fun i zs H'=>Same H1 H'/\zs.length<=i/\NsI H' zs (aY (M.take i))) (by rw[aW];omega) (fun _ _ _ z=>z.2.1) ⟨Same.refl _,Ze _,.nil⟩ (fun i zs H' z=>SqL.of (z.1 _ _ eD)) ?_ ?_
 ·rintro i zs H' v hv ⟨sm,lz,pz⟩ Y hY;obtain⟨y,hy,my,rfl⟩:=gZ hv;refine⟨_,rfl,y.1,y.2,rfl,(S1.dr y (rd.sub y my)).same sm,fun t H2 s2 et=>hY _ _ ⟨sm.trans s2,by rw[Zg];exact YK lz,?_⟩⟩;rw[bW hy];unfold aY;rw[Zy];exact Paired.snoc (pz.ts (Same.ts s2)) ⟨t,rfl,et⟩
 rintro zs rl H2 ⟨sm,lz,pz⟩ grl;rw[aW,Yb]at pz;rw[aW]at lz;have wr:=ai grl (.lst zs);have erl:upd H2 rl (.lst zs) rl=some (.lst zs):=af;have S3:=(S1.same sm).same wr;have pz3:=pz.ts (Same.ts wr);have sT3:SameT T H (upd H2 rl (.lst zs)):=fun b o e hb=>wr _ _ (sm _ _ (sT _ _ e hb));have tab3:=ax (ax tab1 sm) wr;generalize upd H2 rl (.lst zs)=H3 at erl S3 pz3 sT3 tab3 ⊢;refine hR0 _ _ ?_;clear hR0 R0 pz wr sm tab1 S1 kt1;obtain⟨⟨dx3,g1⟩,g2,g3,_⟩:=id S3;refine⟨_,rfl,p,C,dx3,_,_,rfl,g1,X.cl,X.nD,bH _ _,d,ah L,rfl,g2,fun o=>?_⟩;have nrd:rl≠d:=fun z=>by rw[z,g2]at erl;cases erl
 have tF:TS H3 (upd H3 d (.frz o (.dT (ah L)))):=fun b zs e=>by rw[ad fun z=>by rw[z,g2]at e;cases e];exact e
 have kF:∀b u,H3 b=some u->b≠d->upd H3 d (.frz o (.dT (ah L))) b=some u:=fun b u e hb=>by rw[ad hb];exact e
 have eF:upd H3 d (.frz o (.dT (ah L))) d=some (.frz o (.dT (ah L))):=af;have er4:=kF _ _ erl nrd;have pz4:=pz3.ts tF;obtain⟨dA,dB,dC⟩:=Cr pz4;have lk:(ah L).length=L.length:=by unfold ah;rw[Zb]
 generalize hHF:upd H3 d (.frz o (.dT (ah L)))=HF at tF kF eF er4 pz4 dA ⊢;refine gP (a:=d) (o:=o) (kvs:=ah L) (fun i ys H'=>H'=HF/\ys.length<=i/\NsI HF ys (aY ((L.take i).filter (au M)))) (by omega) (fun _ _ _ z=>z.2.1) ⟨rfl,Ze _,.nil⟩ (fun i ys H' z=>by rw[z.1];exact eF) ?_ ?_
 ·rintro i ys H' kv b hkv hb ⟨rfl,ly,py⟩ Y hY;unfold ah at hkv;rw[ZB]at hkv;obtain⟨y,hy,rfl⟩:=Ys.mp hkv;have eb:H' b=some (.tup ((nmZ y.2).map V.int)):=hb;refine⟨_,rfl,_,rfl,rl,_,_,_,rfl,SqL.of er4,iq eb,dA,dG _,dB,_,rfl,?_⟩;rw[E5];have tk:aY ((L.take (i+1)).filter (au M))=aY ((L.take i).filter (au M))++if au M y=true then[nmZ y.2]else[]:=by
   rw[bW hy,Yo];unfold aY;rw[Zy];congr 1;by_cases c:au M y=true
   ·rw[Jv c,Yk c];rfl
   ·rw[Ju c,Yl c];rfl
  show if(!decide (nmZ y.2∈aY M))=true then _ else _
  cases c:au M y with
  |true =>have c':(!decide (nmZ y.2∈aY M))=true:=c;rw[c'];refine aK ⟨_,rfl,hY _ _ ⟨rfl,by rw[Zg];exact YK ly,?_⟩⟩;rw[tk,c,Jv rfl];exact Paired.snoc py ⟨b,rfl,eb⟩
  |false =>have c':(!decide (nmZ y.2∈aY M))=false:=c;rw[c'];refine aE (hY _ _ ⟨rfl,YS ly,?_⟩);rw[tk,c,Ju (by decide),Zx];exact py
 rintro ys l5 H' ⟨rfl,ly,py⟩ g5;rw[lk,Yb]at py;rw[lk]at ly;have w5:=ai g5 (.lst ys);have e5:upd H' l5 (.lst ys) l5=some (.lst ys):=af;have eF5:=w5 _ _ eF;have n5d:l5≠d:=fun z=>by rw[z,eF]at g5;cases g5
 refine⟨d,o,.dT (ah L),eF5,Loose.dt h2,?_⟩;have t5:TS H' (upd (upd H' l5 (.lst ys)) d (.dT (ah L))):=fun b zs e=>by rw[ad fun z=>by rw[z,eF]at e;cases e];exact w5 _ _ e
 have k5:Same H3 (upd (upd H' l5 (.lst ys)) d (.dT (ah L))):=fun b u e=>by
  by_cases c:b=d
  ·rw[c,af,<-g2,<-c,e]
  ·rw[ad c];exact w5 _ _ (kF _ _ e c)
 have e6:upd (upd H' l5 (.lst ys)) d (.dT (ah L)) l5=some (.lst ys):=by rw[ad n5d];exact e5
 have py6:=py.ts t5;generalize upd (upd H' l5 (.lst ys)) d (.dT (ah L))=H6 at t5 k5 e6 py6 ⊢;obtain⟨as,rfl,la,ha⟩:=Cq py6;have lf:(L.filter (au M)).length=as.length:=by rw[<-la];unfold aY;rw[Zb]
 have lf2:=y0 (au M) L;refine⟨l5,as,aY (L.filter (au M)),rfl,e6,by omega,la,fun k hk=>?_,ha,fun pm D2 hp hs gD2=>?_⟩
 ·obtain⟨x,_,rfl⟩:=Zi.mp hk;exact fun z=>by cases z
 obtain⟨N,pN,nN,sN⟩:=tL lf ha hp hs;have wD:=ai gD2 (.lst (pm.toList.map fun i=>(as.map V.ref).getD i .non));have s7:Same H3 (upd H6 D2 (.lst (pm.toList.map fun i=>(as.map V.ref).getD i .non))):=k5.trans wD;refine q D2 _ M N _ rd ⟨pN,sN⟩ (fun b o e hb=>s7 _ _ (sT3 _ _ e hb)) (ax tab3 s7) af (NsI.ts nN (Same.ts wD)) ?_;exact nk sT3 tab3 (k5.free gD2)
def bu(ns:List Int)(h:Nat):List Int:=ns.take h++[ag ns h+1]++ns.drop (h+1)
def vT:Sp:=fun vs H Q _=>∃(h:Int),vs=[.int h]/\1<=h/\h<=8/\∀p H',Same H H'->H' p=some (.tup ((List.replicate h.toNat (0:Int)).map V.int))->Q (.ref p) H'
def tX:Sp:=fun vs H Q _=>∃(a:Addr) (ns:List Int) (h:Int),vs=[.ref a,.int h]/\H a=some (.tup (ns.map V.int))/\0<=h/\h<ns.length/\ns.length<=8/\∀p H',Same H H'->H' p=some (.tup ((bu ns h.toNat).map V.int))->Q (.ref p) H'
abbrev fQ:Stmt:=top 5
abbrev qM:List Str:=["hands"]
theorem pR:FnScope qM ["hands"] (aq fQ):=⟨rfl,rfl,rfl,by decide +kernel,rfl,by decide +kernel,by decide +kernel⟩
theorem pk{f:Addr}{fd:FuncData}(F:Fun K "start_clock" "start_clock" fQ f fd):FnOk P w K mg base CX0 1 f fd ["hands"] vT:=by
 refine F.okQ pR (fun vs H Q E h=>?_) (fun cdv A outer s H vs Q E hr h=>?_)
 ·obtain⟨h,rfl,_⟩:=h;rfl
 obtain⟨h,rfl,h1,h8,q⟩:=h;refine⟨_,(b_1 (aw (aP E8 (bA (q_a am aj)) (q_v 0)))),?_⟩
 try rw[cxK]
 refine⟨sz rfl,fun p g=>?_⟩;refine⟨_,rfl,p,h,[.int 0],rfl,rfl,af,h1,by omega,(by simp),(de (by rw[ZW];omega)),fun p2 H2 s2 e2=>?_⟩;refine q p2 H2 ((ai g _).trans s2) ?_;rw[e2,List.flatten_replicate_singleton,List.map_replicate]
abbrev lZ:Stmt:=top 7
abbrev AG:List Str:=["clock","hand"]
theorem zT:FnScope AG ["clock","hand"] (aq lZ):=⟨rfl,rfl,rfl,by decide +kernel,rfl,by decide +kernel,by decide +kernel⟩
theorem zj{f:Addr}{fd:FuncData}(F:Fun K "raised" "raised" lZ f fd):FnOk P w K mg base CX0 1 f fd ["clock","hand"] tX:=by
 refine F.okQ zT (fun vs H Q E h=>?_) (fun cdv A outer s H vs Q E hr h=>?_)
 ·obtain⟨a,ns,h,rfl,_⟩:=h;rfl
 obtain⟨a,ns,h,rfl,hA,h0,h1,h8,q⟩:=h;have hk:h.toNat<ns.length:=by omega
 have c1:cy (ns.map V.int) none (some h)=(ns.take h.toNat).map V.int:=by unfold cy;rw[Zb,HT.sIx_none,gI h0,Y8 (by omega),List.drop_zero,Nat.sub_zero,List.map_take]
 have c2:cy (ns.map V.int) (some (h+1)) none=(ns.drop (h.toNat+1)).map V.int:=by unfold cy;rw[Zb,HT.sIx_none,gI (by omega),Y8 (by omega),<-List.map_drop,<-List.map_take];rw[show(h+1).toNat=h.toNat+1 by omega,y9 (by rw[Ya];exact Ze _)]
 refine⟨_,(b_1 (aw (aP mS (aP mS (pC jy (q_v 0) sV (lX (q_v 1))) (bA (q_a (aP eI (aA aC (q_v 0) (q_v 1)) am) aj))) (pC jy (q_v 0) (lX (aP eI (q_v 1) am)) sV)))),?_⟩
 try rw[cxK]
 refine⟨_,rfl,_,rfl,_,rfl,a,_,rfl,hA,fun p1 H1 s1 e1=>?_⟩;rw[c1]at e1;refine⟨_,rfl,_,rfl,a,_,_,_,rfl,rfl,SqT.of (s1 _ _ hA),cg h0 h1,_,_,rfl,rfl,sz rfl,fun p2 g2=>?_⟩;have s2:=ai g2 (.tup [.int (ag ns h.toNat+1)]);refine⟨p1,p2,_,_,rfl,rfl,s2 _ _ e1,af,(de (by rw[Zb,ZF,ZW];omega)),fun p3 H3 s3 e3=>?_⟩;refine⟨_,rfl,_,rfl,_,_,rfl,rfl,_,rfl,a,_,rfl,s3 _ _ (s2 _ _ (s1 _ _ hA)),fun p4 H4 s4 e4=>?_⟩;rw[c2]at e4;refine⟨p3,p4,_,_,rfl,rfl,s4 _ _ e3,e4,(de (by simp only[Zg,Zb,ZF,Ya,ZW];omega)),fun p5 H5 s5 e5=>?_⟩;refine q p5 H5 (s1.trans (s2.trans (s3.trans (s4.trans s5)))) ?_;rw[e5];unfold bu;rw[Zy,Zy];rfl
def lF(ds:List Dd)(g:Nat):Int:=((ds.countP fun d=>decide (d.h=g):Nat):Int)
def bP(n:Nat)(ds:List Dd):List Int:=(List.range n).map (lF ds)
theorem gi{n g:Nat}{ds:List Dd}(h:g<n):ag (bP n ds) g=lF ds g:=by unfold ag bP;rw[ZB,List.getElem?_range h];rfl
theorem cQ(n:Nat)(ds:List Dd):(bP n ds).length=n:=by unfold bP;rw[Zb,Y9]
theorem fV{ns:List Int}{h:Nat}(hh:h<ns.length):bu ns h=ns.set h (ag ns h+1):=by unfold bu;rw[List.set_eq_take_append_cons_drop,Jv hh,ZI];rfl
theorem EB{n:Nat}{ds:List Dd}{d:Dd}(h:d.h<n):bu (bP n ds) d.h=bP n (ds++[d]):=by
 have hl:d.h<(bP n ds).length:=by rw[cQ];exact h
 rw[fV hl];refine lP (by rw[Yf,cQ,cQ]) fun i hi=>?_;rw[Yf,cQ]at hi;rw[iF hl,gi h,gi hi,gi hi];unfold lF;rw[List.countP_append,Int.natCast_add];by_cases c:i=d.h
 ·rw[Jv c,List.countP_cons_of_pos (by rw[c];exact decide_eq_true rfl),c];rfl
 ·rw[Ju c,List.countP_cons_of_neg (by simpa using fun z=>c z.symm)];exact(Int.add_zero _).symm
def tN(C T:Addr):Sp:=fun vs H Q _=>∃(p d:Addr) (n:Nat) (L:LT),vs=[.ref p]/\StoreAt C H p d n L/\aI bL T (bQ bF) H /\
 ∀c H' (M:LT),RDY L M->SameT T H H'->aI bL T (bQ bF) H'->H' c=some (.tup ((bP n (vals M)).map V.int))->Q (.ref c) H'
theorem C0(n:Nat):bP n []=List.replicate n 0:=by refine lP (by rw[cQ,Y1]) fun i hi=>?_;rw[cQ]at hi;rw[gi hi,rP];rfl
abbrev fN:Stmt:=fb (top 39) 4
abbrev qJ:List Str:=["self","clock","deed"]
theorem dl:FnScope qJ ["self"] (aq fN):=⟨rfl,rfl,rfl,by decide +kernel,rfl,by decide +kernel,by decide +kernel⟩
theorem pd{f C T:Addr}{fd:FuncData}(F:Fun K "clock" "Store.clock" fN f fd)(X:Txt K C)(d7:MFn P w K mg base 6 C "ready" ["self"] (gO C T))(p6:Fn P w K mg base 1 "start_clock" ["hands"] vT)(IP:Fn P w K mg base 1 "raised" ["clock","hand"] tX):FnOk P w K mg base CX0 7 f fd ["self"] (tN C T):=by
 refine F.okQ dl (fun vs H Q E h=>?_) (fun cdv A outer s H vs Q E hr h=>?_)
 ·obtain⟨p,d,n,L,rfl,_⟩:=h;rfl
 obtain⟨p,d,n,L,rfl,S,tab,q⟩:=h;obtain⟨⟨dx,h1⟩,h2,h3,h4,h5,h6,h7⟩:=id S;refine⟨_,(b_c (aM (i:=1) dl.nd (aF p6 (hr.mono (by decide)) (q_a (dJ (q_v 0)) aj)))
   (b_c (eQ Yr rfl (fE (dX d7 (hr.mono (by decide)) (q_v 0))) (aL (i:=2) dl.nd) (b_1 (aM (i:=1) dl.nd (aF IP (hr.mono (by decide)) (q_a (q_v 1) (q_a (aA aC (q_v 2) am) aj))))))
   (b_1 (aw (q_v 1))))),?_⟩
 try rw[cxK]
 refine aN fun R0 hR0=>?_;refine⟨_,rfl,p,C,dx,_,_,rfl,h1,X.cl,X.nH,iN _ _,(n:Int),rfl,by omega,by omega,fun c0 H0 s0 e0=>hR0 _ _ ?_⟩;clear hR0 R0;rw[Z7,<-C0]at e0;refine aN fun R0 hR0=>?_;refine⟨_,rfl,p,dx,_,rfl,s0 _ _ h1,iX _ _,p,d,n,L,rfl,S.same s0,ax tab s0,fun D H1 M rd sT tab1 eD nD=>?_⟩;have kt1:=KT.tab (ax tab s0) sT;have S1:=(S.same s0).kt kt1;have lM:=rd.len;have e1:H1 c0=some (.tup ((bP n (vals [])).map V.int)):=kt1.ts _ _ e0;refine⟨D,rfl,⟨_,SqL.of eD⟩,?_⟩;refine jr (K:=K) (a:=D) (xs:=aG M) (fun i σ H'=>Same H1 H'/\∃(c:Addr) (o2:Option V),H' c=some (.tup ((bP n (vals (M.take i))).map V.int))/\σ=[some (.ref p),some (.ref c),o2]) ⟨Same.refl _,c0,none,e1,rfl⟩ (fun i σ H' _ z=>SqL.of (z.1 _ _ eD)) ?_ ?_
 ·rintro i v σ H' hv ⟨sm,c,o2,ec,rfl⟩ DL hDL;obtain⟨y,hy,my,rfl⟩:=gZ hv;obtain⟨cl,wv,d1,d2,d3,d4,d5⟩:=(S1.dr y (rd.sub y my)).same sm;have hy2:y.2∈vals L:=Zi.mpr ⟨y,rd.sub y my,rfl⟩;have lh:=(h4.len _ hy2)
  refine⟨_,rfl,vix rfl (SqT.of d1) at0 ⟨c,_,(y.2.h:Int),rfl,ec,by omega,by rw[cQ];omega,by rw[cQ];exact h6,fun c2 H2 s2 e2=>hDL _ _ ⟨sm.trans s2,c2,_,?_,rfl⟩⟩⟩;rw[e2,Z7,EB (by omega),bW hy];unfold vals;rw[Zy];rfl
 rintro σ H' ⟨sm,c,o2,ec,rfl⟩;refine hR0 _ _ ?_;rw[aW,Yb]at ec;exact⟨_,rfl,q c H' M rd (fun b o e hb=>sm _ _ (sT _ _ (s0 _ _ e) hb)) (ax tab1 sm) ec⟩
def bC(cs:List Int)(x:Addr×Dd):Bool:=decide (ag cs x.2.h<ag x.2.ns x.2.h)
def Ag(C T:Addr):Sp:=fun vs H Q _=>∃(p d c:Addr) (n:Nat) (L:LT) (cs:List Int),vs=[.ref p,.ref c]/\StoreAt C H p d n L/\aI bL T (bQ bF) H/\H c=some (.tup (cs.map V.int))/\cs.length=n /\
 ∀D H' (M M' N:LT),RDY L M->RDY L M'->Wt L M' N->SameT T H H'->aI bL T (bQ bF) H'->H' D=some (.lst (aG ((M++N).filter (bC cs))))->H D=none->Q (.ref D) H'
abbrev gK:Stmt:=fb (top 39) 5
abbrev rE:List Str:=["self","clock","deeds"]
theorem jk:FnScope rE ["self","clock"] (aq gK):=⟨rfl,rfl,rfl,by decide +kernel,rfl,by decide +kernel,by decide +kernel⟩
theorem qR{f C T:Addr}{fd:FuncData}(F:Fun K "told" "Store.told" gK f fd)(X:Txt K C)(d7:MFn P w K mg base 6 C "ready" ["self"] (gO C T))(i7:MFn P w K mg base 7 C "waiting" ["self"] (tZ C T))(a9:Fn P w K mg base 1 "name_of" ["deed"] eV)(r9:Fn P w K mg base 1 "tells" ["clock","name"] pW):FnOk P w K mg base CX0 8 f fd ["self","clock"] (Ag C T):=by
 refine F.okQ jk (fun vs H Q E h=>?_) (fun cdv A outer s H vs Q E hr h=>?_)
 ·obtain⟨p,d,c,n,L,cs,rfl,_⟩:=h;rfl
 obtain⟨p,d,c,n,L,cs,rfl,S,tab,hc,lc,q⟩:=h;obtain⟨⟨dx,h1⟩,h2,h3,h4,h5,h6,h7⟩:=id S;refine⟨_,(b_c (aM (i:=2) jk.nd (aP G0 (dX d7 (hr.mono (by decide)) (q_v 0)) (bS (own:=["name"]) (⟨rfl,by decide +kernel,by decide +kernel,rfl,⟨rfl,rfl,trivial⟩⟩:CompOk _ _ [0] ["self"]) rfl (fE (dX i7 (hr.mono (by decide)) (q_v 0))) (fun _ _ _ _=>aL (i:=0) (show (["name","self"]:List Str).Nodup by decide +kernel)) (bj (by decide)) (fun _ _ _ _=>gj) (fun _ _ _ _=>(bU hr.units (FU (K:=K) rfl (q_v 1)) (q_v 0))))))
   (b_1 (aw (bS (own:=["deed"]) (⟨rfl,by decide +kernel,by decide +kernel,rfl,⟨rfl,rfl,trivial⟩⟩:CompOk _ _ [1] ["clock"]) rfl (fE (q_v 2)) (fun _ _ _ _=>aL (i:=0) (show (["deed","clock"]:List Str).Nodup by decide +kernel)) (bj (by decide)) (fun _ _ _ _=>(oJ (bY (bJ (aF r9 (hr.mono (by decide)) (q_a (q_v 1) (q_a (aF a9 (hr.mono (by decide)) (q_a (q_v 0) aj)) aj))))))) (fun _ _ _ _=>(q_v 0)))))),?_⟩
 try rw[cxK]
 refine aN fun R0 hR0=>?_;refine⟨_,rfl,p,dx,_,rfl,h1,iX _ _,p,d,n,L,rfl,S,tab,fun D1 H1 M rd sT1 tab1 eD1 nD1=>?_⟩;have kt1:=KT.tab tab sT1;have S1:=S.kt kt1;obtain⟨⟨dx1,g1⟩,_⟩:=id S1;refine⟨_,rfl,p,dx1,_,rfl,g1,mR _ _,p,d,n,L,rfl,S1,tab1,fun D2 H2 M' N ys rd' wt sT2 tab2 eD2 nys nD2=>?_⟩;have kt2:=KT.tab tab1 sT2;have S2:=S1.kt kt2;have eD12:=kt2 _ _ eD1 (fun ps z=>by cases z);obtain⟨⟨dx2,f1⟩,f2,f3,_⟩:=id S2;have lN:=wt.len;have lM:=rd.len;have lys:ys.length=N.length:=by rw[YL nys];unfold aY;rw[Zb]
 refine⟨D2,rfl,⟨_,SqL.of eD2⟩,?_⟩;refine iH (K:=K) (a:=D2) (xs:=ys) (fun i zs H'=>H'=H2/\zs=aG (N.take i)) (by omega) (fun i zs H' z=>by rw[z.2,aW,ZF];omega) ⟨rfl,rfl⟩ (fun i zs H' z=>by rw[z.1];exact SqL.of eD2) ?_ ?_
 ·rintro i zs H' v hv ⟨rfl,rfl⟩ Y hY;obtain⟨k,hk,b,rfl,hb⟩:=mX nys hv;unfold aY at hk;rw[ZB]at hk;obtain⟨y,hy,rfl⟩:=Ys.mp hk;have my:=wt.sub y (y8 hy);refine⟨_,rfl,p,C,dx2,_,_,rfl,f1,X.cl,X.nD,bH _ _,_,rfl,d,.ref y.1,rfl,.inr ⟨_,nmK y.2,b,.inl f2,rfl,hb,(bD h4 my).symm⟩,hY _ _ ⟨rfl,?_⟩⟩;rw[bW hy];unfold aG;rw[Zy];rfl
 rintro zs l3 H' ⟨rfl,rfl⟩ g3;rw[lys,Yb];have w3:=ai g3 (.lst (aG N));have e3:upd H' l3 (.lst (aG N)) l3=some (.lst (aG N)):=af;refine⟨D1,l3,_,_,rfl,rfl,w3 _ _ eD12,e3,de (by rw[aW,aW];omega),fun l4 g4=>hR0 _ _ ?_⟩;clear hR0 R0;have eMN:aG M++aG N=aG (M++N):=by unfold aG;rw[Zy]
 rw[eMN];have w4:=w3.trans (ai g4 (.lst (aG (M++N))));have e4:upd (upd H' l3 (.lst (aG N))) l4 (.lst (aG (M++N))) l4=some (.lst (aG (M++N))):=af;generalize upd (upd H' l3 (.lst (aG N))) l4 (.lst (aG (M++N)))=H4 at w4 e4 ⊢;have sT4:SameT T H H4:=fun b o e hb=>w4 _ _ (sT2 _ _ (sT1 _ _ e hb) hb);have tab4:=ax tab2 w4;have hc4:=w4 _ _ (kt2.ts _ _ (kt1.ts _ _ hc));have dr4:∀x∈M++N,DR H4 x.1 x.2/\x.2.h<n:=fun x hx=>by
  have hL:x∈L:=by
   rcases Zt.mp hx with hx|hx
   ·exact rd.sub x hx
   ·exact wt.sub x hx
  exact⟨(f3 x hL).same w4,(h4.len _ (Zi.mpr ⟨x,hL,rfl⟩)).2⟩
 have lMN:(M++N).length<=126:=by rw[Zg];omega
 have q':=fun D H'=>q D H' M M' N rd rd' wt;clear q;generalize M++N=B at e4 dr4 lMN q' ⊢;refine⟨_,rfl,l4,rfl,⟨_,SqL.of e4⟩,?_⟩;refine iH (fun i zs H'=>Same H4 H'/\zs=aG ((B.take i).filter (bC cs))) (by rw[aW];omega) (fun i zs H' z=>by rw[z.2,aW];exact ZZ (y0 _ _) (by rw[ZF];omega)) ⟨Same.refl _,rfl⟩ (fun i zs H' z=>SqL.of (z.1 _ _ e4)) ?_ ?_
 ·rintro i zs H' v hv ⟨sm,rfl⟩ Y hY;obtain⟨y,hy,my,rfl⟩:=gZ hv;obtain⟨dy,ly⟩:=dr4 y my;refine⟨_,rfl,_,rfl,y.1,y.2,rfl,dy.same sm,fun t H5 s5 e5=>?_⟩;have ec5:atI (cs.map V.int) (y.2.h:Int)=some (.int (ag cs y.2.h)):=cY (by omega);refine⟨c,t,cs.map V.int,(y.2.h:Int),ag y.2.ns y.2.h,ag cs y.2.h,rfl,s5 _ _ (sm _ _ hc4),e5,ec5,_,rfl,?_⟩;have tk:aG ((B.take (i+1)).filter (bC cs))=aG ((B.take i).filter (bC cs))++if bC cs y=true then[.ref y.1]else[]:=by
   rw[bW hy,Yo];unfold aG;rw[Zy];congr 1;by_cases c:bC cs y=true
   ·rw[Jv c,Yk c];rfl
   ·rw[Ju c,Yl c];rfl
  have eb:(!decide (ag y.2.ns y.2.h<=ag cs y.2.h))=bC cs y:=by unfold bC;rw[YG];simp
  show if(!decide (ag y.2.ns y.2.h<=ag cs y.2.h))=true then _ else _
  rw[eb];cases c':bC cs y with
  |true =>refine aK ⟨_,rfl,hY _ _ ⟨sm.trans s5,?_⟩⟩;rw[tk,c',Jv rfl]
  |false =>refine aE (hY _ _ ⟨sm.trans s5,?_⟩);rw[tk,c',Ju (by decide),Zx]
 rintro zs D5 H' ⟨sm,rfl⟩ gD5;rw[aW,Yb];have w5:=sm.trans (ai gD5 (.lst (aG (B.filter (bC cs)))));exact q' D5 _ (fun b o e hb=>w5 _ _ (sT4 _ _ e hb)) (ax tab4 w5) af (nk sT4 tab4 (sm.free gD5))
theorem dj{d e:Dd}:nmZ d=nmZ e↔nmK d=nmK e:=by
 unfold nmZ nmK;constructor
 ·intro h;injection h with h1 h2;injection h2 with h2 _;rw[h1,h2]
 ·intro h;injection h with h1 h2;injection h2 with h2 _;injection h1 with h1;injection h2 with h2;rw[h1,h2]
theorem jB{n:Nat}{L:LT}(u:UN n (vals L)){x y:Addr×Dd}(hx:x∈L)(hy:y∈L)(h:nmK x.2=nmK y.2):x=y:=by have e1:=bD u hx;rw[h,bD u hy]at e1;injection e1 with e1;injection e1 with e1;exact Prod.ext e1.symm (iB u.uni (Zi.mpr ⟨x,hx,rfl⟩) (Zi.mpr ⟨y,hy,rfl⟩) h)
theorem A5{L:LT}(g:Addr×Dd->Bool):((L.filter fun x=>!g x)++L.filter g).Perm L:=by
 induction L with
 |nil=>exact .nil
 |cons x L ih =>
  cases c:g x with
  |true =>rw[Yl (by rw[c];decide),Yk c];exact List.perm_middle.trans (ih.cons x)
  |false =>rw[Yk (by rw[c];rfl),Yl (by rw[c];decide)];exact ih.cons x
theorem rf{α:Type}:∀{A B:List α},A.Nodup->(∀x∈A,x∈B)->A.length<=B.length
 | [],_,_,_=>ZT _
 |a::A,B,h,s=>by
  obtain⟨B1,B2,rfl⟩:=List.append_of_mem (s a Z9);rw[List.nodup_cons]at h;have:=rf (A:=A) (B:=B1++B2) h.2 fun x hx=>by
   have:=s x (ZC _ hx);rcases Zt.mp this with y|y
   ·exact Z5 _ y
   ·rcases Zs.mp y with rfl|y
    ·exact absurd hx h.1
    ·exact ZD _ y
  rw[Zg]at this;rw[Zm,Zg,Zm];omega
abbrev pq(x:Addr×Dd):Int:=ag x.2.ns x.2.h
def inB(S:LT)(x:Addr×Dd):Bool:=decide (nmZ x.2∈aY S)
theorem fH(S:LT)(x:Addr×Dd):au S x=!inB S x:=rfl
def gw(T:LT)(i:Nat):List Int:=(T.filter fun x=>decide (x.2.h=i)).map pq
theorem Df(T:LT)(i:Nat):((gw T i).length:Int)=lF (vals T) i:=by unfold gw lF vals;rw[Zb,List.countP_map,List.countP_eq_length_filter];rfl
theorem kD{T:LT}{i:Nat}{z:Int}:z∈gw T i↔∃x∈T,x.2.h=i/\pq x=z:=by
 unfold gw;rw[Zi];constructor
 ·rintro⟨x,hx,e⟩;obtain⟨h1,h2⟩:=ZL.mp hx;exact⟨x,h1,ZJ h2,e⟩
 ·rintro⟨x,h1,h2,e⟩;exact⟨x,ZL.mpr ⟨h1,decide_eq_true h2⟩,e⟩
theorem E6{n:Nat}{T:LT}(u:UN n (vals T))(i:Nat):(gw T i).Nodup:=by unfold gw;rw[Ym,Z8];have uu:=u.uni;unfold vals at uu;rw[Z8]at uu;have u2:=uu.sublist (List.filter_sublist (p:=fun x=>decide (x.2.h=i)));refine List.Pairwise.imp_of_mem (fun{a b} ha hb h e=>h ?_) u2;have h1:=ZJ (ZL.mp ha).2;have h2:=ZJ (ZL.mp hb).2;exact fG.mpr ⟨by rw[h1,h2],e⟩
theorem jE{n:Nat}{L M:LT}(u:UN n (vals L))(rd:RDY L M):UN n (vals M)/\Ch n (vals M)/\Sat n (vals L) (vals M)/\(vals M).Pairwise kLt:=by obtain⟨S,pS,hs,rfl⟩:=rd;have uS:UN n (vals S):=u.perm (pS.symm.map Prod.snd);have subM:=(cF S S.length (Ze _)).trans (ZP _ _);have uM:=uS.sub (dQ subM);have cM:=oj uS S.length (Ze _);refine⟨uM,cM,fun d hd h=>AO uS hs d ((pS.map Prod.snd).mem_iff.mpr hd) h,Aj (hs.sublist (dQ subM)) (yk cM uM)⟩
theorem sH{n:Nat}{M:LT}(u:UN n (vals M))(c:Ch n (vals M)){i:Nat}(hi:i<n):∀(m:Nat) {z:Int},z∈gw M i->1<=z-m->z-m∈gw M i
 |0,z,h,_=>by rw[show z-((0:Nat):Int)=z by omega];exact h
 |m+1,z,h,h1=>by
  have ih:=sH u c hi m h (by omega);obtain⟨x,hx,e1,e2⟩:=kD.mp ih;have hl:aB x.2 i=z-m-1:=by rw[<-e1,dW];have:pq x=ag x.2.ns x.2.h:=rfl;omega
  obtain⟨k,hk,ek⟩:=ZG.mp (show x.2∈vals M from Zi.mpr ⟨x,hx,rfl⟩);obtain⟨e,he,y1,y2,_⟩:=c k hk i hi (by rw[ek,hl];omega);obtain⟨y,hy,rfl⟩:=Zi.mp (YA he);refine kD.mpr ⟨y,hy,y1,?_⟩;have:pq y=ag y.2.ns y.2.h:=rfl;rw[this,y2,ek,hl];omega
theorem D7{n:Nat}{M:LT}(u:UN n (vals M))(c:Ch n (vals M)){i:Nat}(hi:i<n){j:Int}(j1:1<=j)(h:j<=lF (vals M) i):j∈gw M i:=by
 by_cases cc:j∈gw M i
 ·exact cc
 ·exfalso;have lt:∀z∈gw M i,z<j:=fun z hz=>by
   rcases Int.lt_or_le z j with h1|h1
   ·exact h1
   ·exfalso;have:=sH u c hi (z-j).toNat hz (by omega);rw[show z-((z-j).toNat:Int)=j by omega]at this;exact cc this
  have:=rf (E6 u i) (B:=(List.range (j-1).toNat).map fun k:Nat=>(k:Int)+1) fun z hz=>by have h1:=lt z hz;obtain⟨x,hx,_,rfl⟩:=kD.mp hz;have h2:0<pq x:=u.own _ (Zi.mpr ⟨x,hx,rfl⟩);exact Zi.mpr ⟨(pq x-1).toNat,ZV.mpr (by omega),by omega⟩
  rw[Zb,Y9]at this;rw[<-Df]at h;omega
theorem B5{n:Nat}{L M:LT}(u:UN n (vals L))(rd:RDY L M){x:Addr×Dd}(fx:Fit n x.2)(ho:au L x=true):bC (bP n (vals M)) x=true:=by
 obtain⟨uM,cM,_,_⟩:=jE u rd;unfold bC;rw[gi fx.hd];refine decide_eq_true ?_;rcases Int.lt_or_le (lF (vals M) x.2.h) (ag x.2.ns x.2.h)with h|h
 ·exact h
 ·exfalso;obtain⟨y,hy,y1,y2⟩:=kD.mp (D7 uM cM fx.hd fx.own h);have hin:inB L x=true:=decide_eq_true (Zi.mpr ⟨y,rd.sub y hy,dj.mpr (fG.mpr ⟨y1,y2⟩)⟩);rw[fH,hin]at ho;cases ho
theorem zL{n:Nat}{L M M':LT}(u:UN n (vals L))(rd:RDY L M)(rd':RDY L M'):M=M':=by
 obtain⟨uM,cM,sM,oM⟩:=jE u rd;obtain⟨uM',cM',sM',oM'⟩:=jE u rd';have subV:∀{A:LT},RDY L A->∀d∈vals A,d∈vals L:=fun{A} r d hd=>by obtain⟨x,hx,rfl⟩:=Zi.mp hd;exact Zi.mpr ⟨x,r.sub x hx,rfl⟩
 have ev:∀d,d∈vals M↔d∈vals M':=fun d=>⟨nJ cM (subV rd) sM' d,nJ cM' (subV rd') sM d⟩
 have em:∀x,x∈M↔x∈M':=fun x=>by
  constructor
  ·intro hx;obtain⟨y,hy,e⟩:=Zi.mp ((ev x.2).mp (Zi.mpr ⟨x,hx,rfl⟩));rw[<-jB u (rd'.sub y hy) (rd.sub x hx) (by rw[e])];exact hy
  ·intro hx;obtain⟨y,hy,e⟩:=Zi.mp ((ev x.2).mpr (Zi.mpr ⟨x,hx,rfl⟩));rw[<-jB u (rd.sub y hy) (rd'.sub x hx) (by rw[e])];exact hy
 have pm:M.Perm M':=(List.perm_ext_iff_of_nodup (gq uM) (gq uM')).mpr em;refine List.Perm.eq_of_pairwise (le:=fun a b:Addr×Dd=>kLt a.2 b.2) (fun _ _ _ _ h k=>(oR h k).elim) ?_ ?_ pm
 ·unfold vals at oM;rw[Z8]at oM;exact oM
 ·unfold vals at oM';rw[Z8]at oM';exact oM'
theorem AR{n:Nat}{L M M' N:LT}(uL:UN n (vals L))(rd:RDY L M)(rd':RDY L M')(wt:Wt L M' N):(M++N).Perm L:=by
 obtain rfl:=zL uL rd rd';have h1:=wt.1;have nM:M.Nodup:=gq (jE uL rd).1;have nL:=gq uL;have h2:M.Perm (L.filter fun x=>!au M x):=by
  rw[List.perm_ext_iff_of_nodup nM (nL.sublist List.filter_sublist)];intro x;rw[ZL];constructor
  ·intro hx;refine⟨rd.sub x hx,?_⟩;rw[fH,Bool.not_not];exact decide_eq_true (Zi.mpr ⟨x,hx,rfl⟩)
  ·rintro⟨hx,hi⟩;rw[fH,Bool.not_not]at hi;obtain⟨y,hy,e⟩:=Zi.mp (ZJ hi);rw[<-jB uL (rd.sub y hy) hx (dj.mp e)];exact hy
 exact(h2.append h1).trans (A5 _)
theorem Gy{b c:Bool}(h:tx b=tx c):b=c:=by
 cases b<;>cases c
 ·rfl
 ·exact absurd h (by decide +kernel)
 ·exact absurd h (by decide +kernel)
 ·rfl
theorem GQ{v w:Option (Int×Bool)}(h:PyData.eqv (wD v) (wD w)=true):v=w:=by
 rcases v with _|⟨m,b⟩<;>rcases w with _|⟨m',b'⟩
 ·rfl
 ·simp[wD,PyData.eqv,PyData.eqvAll]at h
 ·simp[wD,PyData.eqv,PyData.eqvAll]at h
 ·simp[wD,PyData.eqv,PyData.eqvAll]at h;obtain⟨h1,h2⟩:=h;rw[h1,Gy h2]
theorem yu(a b c x y z:PyData):PyData.eqv (.tuple [a,b,c]) (.tuple [x,y,z])=(PyData.eqv a x&&(PyData.eqv b y&&(PyData.eqv c z&&true))):=by simp[PyData.eqv,PyData.eqvAll]
theorem Cf{d e:Dd}(h:PyData.eqv (dD d) (dD e)=true):d=e:=by
 unfold dD at h;rw[yu,Zz,Zz,Zz,iJ]at h;obtain⟨h1,h2,h3,_⟩:=h;have g1:(d.h:Int)=(e.h:Int):=by simpa[PyData.eqv]using h1
 have g2:=ZJ h2;have g3:=GQ h3;obtain⟨dh,dn,dw⟩:=d;obtain⟨eh,en,ew⟩:=e;have:dh=eh:=Int.ofNat_inj.mp g1;subst this;cases g2;cases g3;rfl
theorem EG{d e:Dd}(h:d≠e):PyData.eqv (dD d) (dD e)=false:=by
 cases c:PyData.eqv (dD d) (dD e)with
 |false=>rfl
 |true=>exact absurd (Cf c) h
def Gi(cN:Addr):Sp:=fun vs H Q _=>∃(e t:Addr) (v:V),vs=[.ref e,v]/\H e=some (exN e cN t none)/\∀d,H d=none->Q .non (upd (upd H d (.xd [("name",v)])) e (exN e cN t (some d)))
abbrev ic:Stmt:=fb (top 16) 0
abbrev um:List Str:=["self","name"]
theorem tI:FnScope um ["self","name"] (aq ic):=⟨rfl,rfl,rfl,by decide +kernel,rfl,by decide +kernel,by decide +kernel⟩
theorem sJ{f cN:Addr}{fd:FuncData}(F:Fun K "__init__" "Twin.__init__" ic f fd)(S:ExS K cN)(n:NoAttr K cN "name"):FnOk P w K mg base CX0 1 f fd ["self","name"] (Gi cN):=by
 refine F.okQ tI (fun vs H Q E h=>?_) (fun cdv A outer s H vs Q E hr h=>?_)
 ·obtain⟨e,t,v,rfl,_⟩:=h;rfl
 obtain⟨e,t,v,rfl,he,q⟩:=h;refine⟨_,(b_1 (Gf (q_v 0) (q_v 1))),?_⟩
 try rw[cxK]
 exact⟨_,rfl,_,rfl,e,cN,t,rfl,he,S,n,q⟩
theorem AQ{H1:Hp}{ea t d cN:Addr}{v:V}(h1:H1 ea=none)(hd:upd H1 ea (exN ea cN t none) d=none) :
  Same H1 (del (upd (upd (upd H1 ea (exN ea cN t none)) d (.xd [("name",v)])) ea (exN ea cN t (some d))) ea)/\del (upd (upd (upd H1 ea (exN ea cN t none)) d (.xd [("name",v)])) ea (exN ea cN t (some d))) ea d=some (.xd [("name",v)]):=by
 have nde:d≠ea:=fun z=>by rw[z,af]at hd;cases hd
 refine⟨fun b o e=>?_,?_⟩
 ·have hb:b≠ea:=al e h1;have hbd:b≠d:=fun z=>by rw[<-z,ad hb,e]at hd;cases hd
  rw[dZ hb,ad hb,ad hbd,ad hb];exact e
 ·rw[dZ nde,ad nde,af]
def pU(C cT:Addr):Sp:=fun vs H Q E=>∃(p d a:Addr) (n:Nat) (L:LT) (e:Dd),vs=[.ref p,.ref a]/\StoreAt C H p d n L/\DR H a e/\Fit n e /\
 ((L.length<63/\(∀x∈L,nmK x.2≠nmK e)/\∀H',SameT d H H'->StoreAt C H' p d n (L++[(a,e)])->Q (.bl true) H')\/((∃x∈L,x.2=e)/\∀H',Same H H'->Q (.bl false) H')\/((∃x∈L,nmK x.2=nmK e/\x.2≠e)/\∀H' t dd,Same H H'->H' t=some (.tup ((nmZ e).map V.int))->H' dd=some (.xd [("name",.ref t)])->E (.ref cT) (some dd) H'))
theorem pe{f C cT:Addr}{fd:FuncData}{bm:List Value}(F:Fun K "hear" "Store.hear" eN f fd)(T:Txt K C)(i6:Fn P w K mg base 7 "is_deed" ["thing","hands"] (tO K))(a9:Fn P w K mg base 1 "name_of" ["deed"] eV)(Jb:ExI P w K mg base 1 cT bm ["self","name"] (Gi cT))(w9:mg "Twin" = some (.ref cT)):FnOk P w K mg base (CXr P w) 8 f fd ["self","deed"] (pU C cT):=by
 refine F.okX dM (fun vs H Q E h=>?_) (fun cdv A outer s H vs Q E hr h=>?_)
 ·obtain⟨p,d,a,n,L,e,rfl,_⟩:=h;rfl
 obtain⟨p,d,a,n,L,e,rfl,S,hd,ft,q⟩:=h;obtain⟨⟨dx,h1⟩,h2,h3,h4,h5,h6,h7⟩:=id S;refine⟨_,(b_c (aZ (bY (bJ (aF i6 (hr.mono (by decide)) (q_a (q_v 1) (q_a (dJ (q_v 0)) aj))))) (b_1 pH) b_0)
   (b_c (aM (i:=2) dM.nd (aF a9 (hr.mono (by decide)) (q_a (q_v 1) aj)))
   (b_c (aZ (fi hr.units (q_v 2) (dJ (q_v 0))) (b_c (jH hr.units (dJ (q_v 0)) (q_v 2) (q_v 1))
   (b_1 (aw bR))) b_0)
   (b_c (aZ (aS (xi hr.units) (bU hr.units (dJ (q_v 0)) (q_v 2)) (q_v 1)) (b_1 (BS xA rfl Jb (hr.mono (by decide)) w9 (q_a (q_v 2) aj))) b_0)
   (b_1 (aw bR)))))),?_⟩
 try rw[cxK]
 refine⟨_,rfl,_,rfl,p,C,dx,_,_,rfl,h1,T.cl,T.nH,iN _ _,_,true,(n:Int),rfl,vc hd ft h6,fun H1 s1=>?_⟩;refine⟨_,rfl,?_⟩;refine⟨_,rfl,a,e,rfl,hd.same s1,fun t H2 s2 et=>?_⟩;have s12:=s1.trans s2;refine⟨_,rfl,_,rfl,p,C,dx,_,_,rfl,s12 _ _ h1,T.cl,T.nD,bH _ _,d,_,rfl,.inr ⟨_,nmK e,t,.inl (s12 _ _ h2),rfl,et,rfl⟩,_,rfl,?_⟩;rcases q with⟨ll,hn,q⟩|⟨⟨x,hx,rfl⟩,q⟩|⟨⟨x,hx,hn,ne⟩,q⟩
 ·have vn:bo (ah L) (nmK e)=none:=by
   rw[fj];have:L.find? (fun x=>decide (nmK x.2=nmK e))=none:=by rw[Xh];intro y hy;simpa using hn y hy
   rw[this];rfl
  rw[vn];refine aK ?_;have lk:(ah L).length<=63:=by unfold ah;rw[Zb];exact h7
  refine⟨_,rfl,_,rfl,p,C,dx,_,_,rfl,s12 _ _ h1,T.cl,T.nD,bH _ _,_,rfl,d,_,rfl,.inr ⟨_,nmK e,t,s12 _ _ h2,rfl,et,Yn lk (by rw[x8];decide),rfl⟩,?_⟩;exact q _ (fun b o eb hb=>by rw[ad hb];exact s12 _ _ eb) (sj S s12 hd ft ll hn vn)
 ·rw[bD h4 hx];refine aE ?_;have hx12:=(h3 x hx).same s12;have hd12:=hd.same s12;refine⟨_,rfl,p,C,dx,_,_,rfl,s12 _ _ h1,T.cl,T.nD,bH _ _,_,rfl,d,.ref x.1,rfl,.inr ⟨_,nmK x.2,t,.inl (s12 _ _ h2),rfl,et,(bD h4 hx).symm⟩,_,rfl,_,_,hx12.dt,hd12.dt,cK _,cK _,_,rfl,?_⟩;rw[SeqAt.eqv_refl _ (ko (d:=x.2) trivial).1];exact aE (q _ s12)
 ·have vx:bo (ah L) (nmK e)=some (.ref x.1):=by rw[<-hn];exact bD h4 hx
  rw[vx];refine aE ?_;have hx12:=(h3 x hx).same s12;have hd12:=hd.same s12;refine⟨_,rfl,p,C,dx,_,_,rfl,s12 _ _ h1,T.cl,T.nD,bH _ _,_,rfl,d,.ref x.1,rfl,.inr ⟨_,nmK e,t,.inl (s12 _ _ h2),rfl,et,vx.symm⟩,_,rfl,_,_,hx12.dt,hd12.dt,cK _,cK _,_,rfl,?_⟩;rw[EG ne];refine aK ?_;refine⟨_,rfl,sz rfl,fun ea tt' e1 e2 nt=>⟨ea,tt',_,rfl,af,fun dd hdd=>⟨rfl,some dd,af,?_⟩⟩⟩;obtain⟨a1,a2⟩:=AQ (v:=V.ref t) e1 hdd;exact q _ t dd (s12.trans a1) (a1 _ _ et) a2
theorem oX(n:Nat)(d:Addr):(fL n d).lookup ("hear":Str)=none:=ir n d (by decide +kernel) (by decide +kernel)
theorem vC(n:Nat)(d:Addr):(fL n d).lookup ("told":Str)=none:=ir n d (by decide +kernel) (by decide +kernel)
theorem sF(n:Nat)(d:Addr):(fL n d).lookup ("clock":Str)=none:=ir n d (by decide +kernel) (by decide +kernel)
def Af(C:Addr):Sp:=fun vs H Q _=>∃(p d a:Addr) (n:Nat) (L:LT) (e:Dd),vs=[.ref p,.ref a]/\StoreAt C H p d n L/\DR H a e/\Fit n e /\
 ((L.length<63/\(∀x∈L,nmK x.2≠nmK e)/\∀H',SameT d H H'->StoreAt C H' p d n (L++[(a,e)])->Q (.bl true) H')\/((∃x∈L,nmK x.2=nmK e)/\∀H',Same H H'->Q (.bl false) H'))
abbrev fg:Stmt:=top 42
abbrev og:List Str:=["store","deed"]
theorem nC:FnScope og ["store","deed"] (aq fg):=⟨rfl,rfl,rfl,by decide +kernel,rfl,by decide +kernel,by decide +kernel⟩
theorem mV{f C cL cT:Addr}{bmh bT:List Value}{fd:FuncData}(F:Fun K "takes_as_new" "takes_as_new" fg f fd)(t0:MFnX P w K mg base 8 C "hear" ["self","deed"] (pU C cT))(Jm:ExC K cL bmh)(v7:mg "LimbError" = some (.ref cL))(eT:ExC K cT bT)(hT:(Value.ref cT::bT).contains (.ref cL)=true):FnOk P w K mg base CX0 9 f fd ["store","deed"] (Af C):=by
 refine F.okQ nC (fun vs H Q E h=>?_) (fun cdv A outer s H vs Q E hr h=>?_)
 ·obtain⟨p,d,a,n,L,e,rfl,_⟩:=h;rfl
 obtain⟨p,d,a,n,L,e,rfl,S,hd,ft,q⟩:=h;obtain⟨⟨dx,h1⟩,_⟩:=id S;refine⟨_,(b_1 (zS rfl rfl (Gj (Av t0 (hr.mono (by decide)) (q_v 0) (q_a (q_v 1) aj))) (HV Jm v7 (fun _=>(b_1 (aw bR))) GT))),?_⟩
 try rw[cxK]
 refine⟨_,rfl,p,dx,_,rfl,h1,oX _ _,_,rfl,p,d,a,n,L,e,rfl,S,hd,ft,?_⟩;rcases q with q|⟨⟨x,hx,hn⟩,q⟩
 ·exact .inl q
 ·by_cases c:x.2=e
  ·exact .inr (.inl ⟨⟨x,hx,c⟩,q⟩)
  ·refine .inr (.inr ⟨⟨x,hx,hn,c⟩,fun H' t dd s1 _ _=>⟨cT,bT,rfl,eT,?_⟩⟩);rw[hT];exact aK (q H' s1)
def vM(C:Addr):Sp:=fun vs H Q _=>∃(p d l:Addr) (n:Nat) (L B:LT),vs=[.ref p,.ref l]/\StoreAt C H p d n L/\LR H l B/\B.length<=126/\(B.Pairwise fun x y=>nmK x.2≠nmK y.2)/\(∀x∈B,Fit n x.2)/\(L++B.filter (au L)).length<=63 /\
 ∀H',SameT d H H'->StoreAt C H' p d n (L++B.filter (au L))->Q (.int ((B.filter (au L)).length:Int)) H'
theorem uV{d r:Addr}{H H':Hp}{xs:List V}{kvs:List (List Key×V)}(s:SameT d H H')(hd:H d=some (.dT kvs))(e:H r=some (.lst xs)):H' r=some (.lst xs):=s _ _ e fun z=>by rw[z,hd]at e;cases e
theorem rM{d:Addr}{H H':Hp}{kvs:List (List Key×V)}(s:SameT d H H')(hd:H d=some (.dT kvs)):TS H H':=fun b zs e=>s _ _ e fun z=>by rw[z,hd]at e;cases e
theorem Ez{d r:Addr}{H H':Hp}{L:LT}{kvs:List (List Key×V)}(s:SameT d H H')(hd:H d=some (.dT kvs))(x:LR H r L):LR H' r L:=⟨uV s hd x.1,fun y hy=>(x.2 y hy).ts (rM s hd)⟩
theorem cE{C d p d':Addr}{H H':Hp}{n:Nat}{L:LT}{kvs:List (List Key×V)}(s:SameT d H H')(hd:H d=some (.dT kvs))(x:StoreAt C H p d' n L)(ne:d'≠d):StoreAt C H' p d' n L:=by obtain⟨⟨dx,h1⟩,h2,h3,h4,h5,h6,h7⟩:=x;exact⟨⟨dx,s _ _ h1 fun z=>by rw[z,hd]at h1;cases h1⟩,s _ _ h2 ne,fun y hy=>(h3 y hy).ts (rM s hd),h4,h5,h6,h7⟩
theorem mj{C T:Addr}{H H':Hp}{p d:Addr}{n:Nat}{L:LT}(S:StoreAt C H p d n L)(t:aI bL T (bQ bF) H)(s:SameT d H H'):aI bL T (bQ bF) H':=eC (r:=d) t s fun f hf=>by rw[S.dc]at hf;cases hf;exact⟨fun ps e=>(by cases e),fun c e=>(by cases e)⟩
abbrev ie:Stmt:=top 41
abbrev uo:List Str:=["store","deeds","new","deed"]
theorem eS:FnScope uo ["store","deeds"] (aq ie):=⟨rfl,rfl,rfl,by decide +kernel,rfl,by decide +kernel,by decide +kernel⟩
theorem sL{f C:Addr}{fd:FuncData}(F:Fun K "count_new" "count_new" ie f fd)(k7:Fn P w K mg base 9 "takes_as_new" ["store","deed"] (Af C)):FnOk P w K mg base CX0 10 f fd ["store","deeds"] (vM C):=by
 refine F.okQ eS (fun vs H Q E h=>?_) (fun cdv A outer s H vs Q E hr h=>?_)
 ·obtain⟨p,d,l,n,L,B,rfl,_⟩:=h;rfl
 obtain⟨p,d,l,n,L,B,rfl,S,lr,lB,pw,ft,len,q⟩:=h;refine⟨_,(b_c (aM (i:=2) eS.nd am)
   (b_c (eQ Yr rfl (fE (q_v 1)) (aL (i:=3) eS.nd) (b_1 (aZ (bJ (aF k7 (hr.mono (by decide)) (q_a (q_v 0) (q_a (q_v 3) aj)))) (b_1 (Hn (i:=2) eS.nd am HX)) b_0)))
   (b_1 (aw (q_v 2))))),?_⟩
 try rw[cxK]
 refine aN fun R0 hR0=>?_;refine hR0 _ _ ?_;clear hR0 R0;refine aN fun R0 hR0=>?_;refine⟨_,rfl,l,rfl,⟨_,SqL.of lr.1⟩,?_⟩;refine jr (K:=K) (a:=l) (xs:=aG B) (fun i σ H'=>SameT d H H'/\StoreAt C H' p d n (L++(B.take i).filter (au L))/\∃o3,σ=[some (.ref p),some (.ref l),some (.int (((B.take i).filter (au L)).length:Int)),o3])
  ⟨fun b o e _=>e,by rw[List.take_zero,List.filter_nil,Zx];exact S,none,rfl⟩ (fun i σ H' _ z=>SqL.of (uV z.1 S.dc lr.1)) ?_ ?_
 ·rintro i v σ H' hv ⟨kp,S',o3,rfl⟩ DL hDL;obtain⟨z,hz,hm,rfl⟩:=gZ hv;have hi:i<B.length:=(ZH.mp hz).1;have dz:=(lr.2 z hm).ts (rM kp S.dc);have tk:(B.take (i+1)).filter (au L)=(B.take i).filter (au L)++if au L z=true then[z]else[]:=by
   rw[bW hz,Yo];congr 1;cases c:au L z with
   |true=>rw[Jv rfl,Yk c];rfl
   |false=>rw[Ju (by decide),Yl (by rw[c];decide)];rfl
  refine⟨_,rfl,_,rfl,p,d,z.1,n,_,z.2,rfl,S',dz,ft z hm,?_⟩;cases c:au L z with
  |true =>
   rw[c,Jv rfl]at tk;refine .inl ⟨?_,fun x hx=>?_,fun H6 s6 S6=>?_⟩
   ·have h1:((B.take (i+1)).filter (au L)).length<=(B.filter (au L)).length:=(List.Sublist.filter (au L) (ZP (i+1) B)).length_le;rw[tk,Zg,ZW]at h1;rw[Zg]at len ⊢;omega
   ·rcases Zt.mp hx with hx|hx
    ·intro e;have:nmZ z.2∈aY L:=Zi.mpr ⟨x,hx,dj.mpr e⟩;have c':(!decide (nmZ z.2∈aY L))=true:=c;rw[decide_eq_true this]at c';cases c'
    ·have hy:=(ZL.mp hx).1;obtain⟨j',hj',rfl⟩:=ZG.mp hy;rw[ZF]at hj';rw[x6];have:=Zu.mp pw j' i (by omega) hi (by omega);obtain⟨_,e⟩:=ZH.mp hz;rw[e]at this;exact this
   ·rw[ZI]at S6;refine⟨_,rfl,aK ?_⟩;refine⟨_,rfl,_,_,rfl,rfl,hDL _ _ ⟨fun b o e hb=>s6 _ _ (kp _ _ e hb) hb,by rw[tk];exact S6,some (.ref z.1),?_⟩⟩;rw[tk,Zg,Int.natCast_add];rfl
  |false =>
   rw[c,Ju (by decide),Zx]at tk;have hin:nmZ z.2∈aY L:=by have c':(!decide (nmZ z.2∈aY L))=false:=c;rw[Bool.not_eq_false']at c';exact ZJ c'
   obtain⟨y,hy,e⟩:=Zi.mp hin;refine .inr ⟨⟨y,Z5 _ hy,dj.mp e⟩,fun H6 s6=>⟨_,rfl,aE (hDL _ _ ⟨fun b o e hb=>s6 _ _ (kp _ _ e hb),by rw[tk];exact S'.same s6,some (.ref z.1),by rw[tk];rfl⟩)⟩⟩
 rintro σ H' ⟨kp,S',o3,rfl⟩;rw[aW,Yb]at S';refine hR0 _ _ ?_;rw[aW,Yb];exact⟨_,rfl,q H' kp S'⟩
def KD(d1 d2:Addr)(H H':Hp):Prop:=∀b o,H b=some o->(∀ps,o≠.tbl ps)->b≠d1->b≠d2->H' b=some o
theorem Bu(L:LT):L.filter (au L)=[]:=YV.mpr fun x hx h=>by have h':(!decide (nmZ x.2∈aY L))=true:=h;rw[decide_eq_true (show nmZ x.2∈aY L from Zi.mpr ⟨x,hx,rfl⟩)]at h';cases h'
def Ad(C T:Addr):Sp:=fun vs H Q _=>∃(p1 d1 p2 d2:Addr) (n:Nat) (L1 L2:LT),vs=[.ref p1,.ref p2]/\StoreAt C H p1 d1 n L1/\StoreAt C H p2 d2 n L2/\aI bL T (bQ bF) H/\d1≠d2/\(∀x∈L1,Fit n x.2)/\(∀x∈L2,Fit n x.2)/\(L1++L2.filter (au L1)).length<=63/\(L2++L1.filter (au L2)).length<=63 /\
 ∀t X1 X2 H',X1.Perm (L2.filter (au L1))->X2.Perm (L1.filter (au L2))->KD d1 d2 H H'->aI bL T (bQ bF) H'->StoreAt C H' p1 d1 n (L1++X1)->StoreAt C H' p2 d2 n (L2++X2)->H' t=some (.tup ([(X1.length:Int),(X2.length:Int)].map V.int))->Q (.ref t) H'
theorem ue{n:Nat}{L1 L2 M1 M2 M2' N2:LT}(u1:UN n (vals L1))(u2:UN n (vals L2))(f2:∀x∈L2,Fit n x.2)(r1:RDY L1 M1)(r2:RDY L2 M2)(r2':RDY L2 M2')(w2:Wt L2 M2' N2) :
  (((M2++N2).filter (bC (bP n (vals M1)))).filter (au L1)).Perm (L2.filter (au L1))/\((M2++N2).filter (bC (bP n (vals M1)))).Pairwise (fun x y=>nmK x.2≠nmK y.2)/\(∀x∈(M2++N2).filter (bC (bP n (vals M1))),x∈L2):=by
 have pa:=AR u2 r2 r2' w2;have sub:∀x∈(M2++N2).filter (bC (bP n (vals M1))),x∈L2:=fun x hx=>pa.mem_iff.mp (ZL.mp hx).1;refine⟨?_,?_,sub⟩
 ·rw[List.filter_filter];have e:(M2++N2).filter (fun x=>au L1 x&&bC (bP n (vals M1)) x)=(M2++N2).filter (au L1):=List.filter_congr fun x hx=>by
   cases c:au L1 x with
   |false=>rfl
   |true=>rw[B5 u1 r1 (f2 x (pa.mem_iff.mp hx)) c];rfl
  rw[e];exact pa.filter _
 ·have uu:=u2.uni;unfold vals at uu;rw[Z8]at uu;exact(uu.perm pa.symm fun{x y} h e=>h e.symm).sublist List.filter_sublist
abbrev tE:Stmt:=top 40
abbrev Eu:List Str:=["one","other","for_one","for_other"]
theorem pQ:FnScope Eu ["one","other"] (aq tE):=⟨rfl,rfl,rfl,by decide +kernel,rfl,by decide +kernel,by decide +kernel⟩
theorem Dj{f C T:Addr}{fd:FuncData}(F:Fun K "meet" "meet" tE f fd)(IM:MFn P w K mg base 7 C "clock" ["self"] (tN C T))(IX:MFn P w K mg base 8 C "told" ["self","clock"] (Ag C T))(n9:Fn P w K mg base 10 "count_new" ["store","deeds"] (vM C)):FnOk P w K mg base CX0 11 f fd ["one","other"] (Ad C T):=by
 refine F.okQ pQ (fun vs H Q E h=>?_) (fun cdv A outer s H vs Q E hr h=>?_)
 ·obtain⟨p1,d1,p2,d2,n,L1,L2,rfl,_⟩:=h;rfl
 obtain⟨p1,d1,p2,d2,n,L1,L2,rfl,S1,S2,tab,ne,ft1,ft2,len1,len2,q⟩:=h;refine⟨_,(b_c (aM (i:=2) pQ.nd (sU IX (hr.mono (by decide)) (q_v 1) (q_a (dX IM (hr.mono (by decide)) (q_v 0)) aj)))
   (b_c (aM (i:=3) pQ.nd (sU IX (hr.mono (by decide)) (q_v 0) (q_a (dX IM (hr.mono (by decide)) (q_v 1)) aj)))
   (b_1 (aw (bA (q_a (aF n9 (hr.mono (by decide)) (q_a (q_v 0) (q_a (q_v 2) aj))) (q_a (aF n9 (hr.mono (by decide)) (q_a (q_v 1) (q_a (q_v 3) aj))) aj))))))),?_⟩
 try rw[cxK]
 have n8:=S1.n8;refine aN fun R0 hR0=>?_;obtain⟨⟨dx2,h2⟩,_⟩:=id S2;obtain⟨⟨dx1,h1⟩,_⟩:=id S1;refine⟨_,rfl,p2,dx2,_,rfl,h2,vC _ _,_,rfl,p1,dx1,_,rfl,h1,sF _ _,p1,d1,n,L1,rfl,S1,tab,fun c1 H1 M1 r1 sT1 tab1 ec1=>?_⟩;have k1:=KT.tab tab sT1;refine⟨p2,d2,c1,n,L2,bP n (vals M1),rfl,S2.kt k1,tab1,ec1,cQ _ _,fun D1 H2 M2 M2' N2 r2 r2' w2 sT2 tab2 eD1 nD1=>hR0 _ _ ?_⟩;clear hR0 R0;have k2:=k1.trans (KT.tab tab1 sT2);have S12:=S1.kt k2;have S22:=S2.kt k2;obtain⟨⟨ex2,g2⟩,_⟩:=id S22;obtain⟨⟨ex1,g1⟩,_⟩:=id S12;refine aN fun R0 hR0=>?_;refine⟨_,rfl,p1,ex1,_,rfl,g1,vC _ _,_,rfl,p2,ex2,_,rfl,g2,sF _ _,p2,d2,n,L2,rfl,S22,tab2,fun c2 H3 M3 r3 sT3 tab3 ec2=>?_⟩;have k3:=KT.tab tab2 sT3;refine⟨p1,d1,c2,n,L1,bP n (vals M3),rfl,S12.kt k3,tab3,ec2,cQ _ _,fun D2 H4 M4 M4' N4 r4 r4' w4 sT4 tab4 eD2 nD2=>hR0 _ _ ?_⟩;clear hR0 R0;have k24:=k3.trans (KT.tab tab3 sT4);have k4:=k2.trans k24;have S14:=S1.kt k4;have S24:=S2.kt k4;obtain⟨b1,b2,b3⟩:=ue S1.un S2.un ft2 r1 r2 r2' w2;obtain⟨a1,a2,a3⟩:=ue S2.un S1.un ft1 r3 r4 r4' w4;have lB1:((M2++N2).filter (bC (bP n (vals M1)))).length<=126:=by have h:=y0 (bC (bP n (vals M1))) (M2++N2);have:=r2.len;have:=w2.len;have:=S2.len;rw[Zg]at h;omega
 have lB2:((M4++N4).filter (bC (bP n (vals M3)))).length<=126:=by have h:=y0 (bC (bP n (vals M3))) (M4++N4);have:=r4.len;have:=w4.len;have:=S1.len;rw[Zg]at h;omega
 generalize(M2++N2).filter (bC (bP n (vals M1)))=B1 at eD1 b1 b2 b3 lB1;generalize(M4++N4).filter (bC (bP n (vals M3)))=B2 at eD2 a1 a2 a3 lB2;have lr1:LR H4 D1 B1:=⟨k24 _ _ eD1 (fun ps z=>by cases z),fun x hx=>S24.dr x (b3 x hx)⟩
 have lr2:LR H4 D2 B2:=⟨eD2,fun x hx=>S14.dr x (a3 x hx)⟩
 have m1:=b1.length_eq;have m2:=a1.length_eq;rw[Zg]at len1 len2;clear eD1 eD2 nD1 nD2 sT1 sT2 sT3 sT4 tab1 tab2 tab3 ec1 ec2 k1 k2 k3 k24 S12 S22 g1 g2 r1 r2 r2' w2 r3 r4 r4' w4 h1 h2;refine⟨_,rfl,_,rfl,p1,d1,D1,n,L1,B1,rfl,S14,lr1,lB1,b2,fun x hx=>ft2 x (b3 x hx),by rw[Zg];omega,fun H5 s5 S15=>?_⟩;have tab5:=mj S14 tab4 s5;have lr25:=Ez s5 S14.dc lr2;have S25:=cE s5 S14.dc S24 (Yx ne);refine⟨_,rfl,_,rfl,p2,d2,D2,n,L2,B2,rfl,S25,lr25,lB2,a2,fun x hx=>ft1 x (a3 x hx),by rw[Zg];omega,fun H6 s6 S26=>?_⟩;have tab6:=mj S25 tab5 s6;have S16:=cE s6 S25.dc S15 ne;refine⟨sz rfl,fun t gt=>?_⟩;have wt:=ai gt (.tup [.int ((B1.filter (au L1)).length:Int),.int ((B2.filter (au L2)).length:Int)]);exact q t _ _ _ b1 a1 (fun b o e n1 n2 n3=>wt _ _ (s6 _ _ (s5 _ _ (k4 _ _ e n1) n2) n3)) (ax tab6 wt) (S16.same wt) (S26.same wt) af
def CK(H:Hp)(cA:Addr)(n:Nat)(as:List Addr)(cl:List (List Int)):Prop:=H cA=some (.lst (as.map V.ref))/\as.length=n/\as.Nodup/\∀(g:Nat) (hg:g<as.length),H as[g]=some (.lst ((clk cl g).map V.int))
theorem CK.same{H H':Hp}{cA:Addr}{n:Nat}{as:List Addr}{cl:List (List Int)}(x:CK H cA n as cl)(s:Same H H'):CK H' cA n as cl:=⟨s _ _ x.1,x.2.1,x.2.2.1,fun g hg=>s _ _ (x.2.2.2 g hg)⟩
theorem mC{as:List Addr}{k:Nat}(hk:k<as.length):atI (as.map V.ref) (k:Int)=some (.ref as[k]):=eZ (by rw[ZB,Zd hk];rfl)
theorem iA{H:Hp}{a b:Addr}{xs ys:List V}(h1:H a=some (.lst xs))(h2:H b=some (.lst ys))(h:xs≠ys):a≠b:=fun z=>by rw[z,h2]at h1;injection h1 with h1;injection h1 with h1;exact h h1.symm
theorem fF{ns:List Int}{as:List Addr}(h:0<ns.length):as.map V.ref≠ns.map V.int:=fun e=>by
 cases ns with
 |nil=>exact absurd h (by simp)
 |cons n ns =>
  cases as with
  |nil=>cases e
  |cons a as=>cases e
theorem tq:∀n:Nat,(List.replicate n [V.int 0]).flatten=(List.replicate n (0:Int)).map V.int
 |0=>rfl
 |n+1=>by rw[Xc,YD,tq n];rfl
theorem E3{as:List Addr}{k:Nat}{p:Addr}(h:as.Nodup)(hp:p∉as):(as.set k p).Nodup:=by
 rw[Ym,Zu]at h ⊢;intro i j hi hj hij;rw[Yf]at hi hj;rw[List.getElem_set,List.getElem_set];by_cases c1:k=i
 ·rw[Jv c1,Ju (by omega)];exact fun z=>hp (z▸ZA hj)
 ·rw[Ju c1];by_cases c2:k=j
  ·rw[Jv c2];exact fun z=>hp (z▸ZA hi)
  ·rw[Ju c2];exact h i j hi hj hij
structure GenF(n:Nat)(cl:List (List Int))(L:List Dd):Prop where
 g:Gen n cl L
 nn:∀g,g<n->∀z∈clk cl g,0<=z
 fit:∀d∈L,Fit n d
theorem ke{c:List Int}{i:Nat}(h:i<c.length):ag c i∈c:=by unfold ag;rw[Zd h];exact ZA h
theorem C5{c:List Int}{z:Int}(h:z∈c):∃i,i<c.length/\ag c i=z:=by obtain⟨i,hi,rfl⟩:=ZG.mp h;refine⟨i,hi,?_⟩;unfold ag;rw[Zd hi];rfl
theorem GenF.start(n:Nat):GenF n (List.replicate n (List.replicate n (0:Int))) []:=by refine⟨Gen.start n,fun g hg z hz=>?_,fun d hd=>nomatch hd⟩;rw[kf hg]at hz;rw[(List.mem_replicate.mp hz).2];exact Int.le_refl _
theorem GenF.met{n:Nat}{cl:List (List Int)}{L:List Dd}(g:GenF n cl L){h o:Nat}(hh:h<n)(ho:o<n):GenF n (cl.set h (mx (clk cl h) (clk cl o) n)) L:=by
 refine⟨g.g.met hh ho,fun q hq z hz=>?_,g.fit⟩;rw[cP (by rw[g.g.cn];exact hh)]at hz;by_cases e:q=h
 ·rw[Jv e]at hz;obtain⟨i,hi,rfl⟩:=C5 hz;rw[sE]at hi;have h1:=g.nn h hh _ (ke (by rw[g.g.cc h hh];exact hi));have h2:=g.nn o ho _ (ke (by rw[g.g.cc o ho];exact hi));rw[kz hi];split
  ·exact h2
  ·exact h1
 ·rw[Ju e]at hz;exact g.nn q hq z hz
theorem GenF.add{n:Nat}{cl:List (List Int)}{L:List Dd}(g:GenF n cl L){h:Nat}(hh:h<n)(w:Option (Int×Bool)):GenF n (cl.set h ((clk cl h).set h (ag (clk cl h) h+1))) (L++[⟨h,(clk cl h).set h (ag (clk cl h) h+1),w⟩]):=by
 have hl:h<(clk cl h).length:=by rw[g.g.cc h hh];exact hh
 have h0:=g.nn h hh _ (ke hl);have nz:∀z∈(clk cl h).set h (ag (clk cl h) h+1),0<=z:=fun z hz=>by
  rcases List.mem_or_eq_of_mem_set hz with hz|rfl
  ·exact g.nn h hh z hz
  ·omega
 refine⟨g.g.add hh w,fun q hq z hz=>?_,fun d hd=>?_⟩
 ·rw[cP (by rw[g.g.cn];exact hh)]at hz;by_cases e:q=h
  ·rw[Jv e]at hz;exact nz z hz
  ·rw[Ju e]at hz;exact g.nn q hq z hz
 ·rcases Zt.mp hd with hd|hd
  ·exact g.fit d hd
  ·rw[Zo.mp hd];refine⟨by rw[Yf,g.g.cc h hh],hh,nz,?_⟩;show 1<=ag ((clk cl h).set h (ag (clk cl h) h+1)) h;rw[iF hl,Jv rfl];omega
def RwAt(H:Hp)(v:V)(x:Addr×Dd):Prop:=∃(b:Addr) (m:Int),v=.ref b/\H b=some (.lst [.ref x.1,.int m])/\DR H x.1 x.2
theorem RwAt.same{H H':Hp}{v:V}{x:Addr×Dd}(r:RwAt H v x)(s:Same H H'):RwAt H' v x:=by obtain⟨b,m,h1,h2,h3⟩:=r;exact⟨b,m,h1,s _ _ h2,h3.same s⟩
def LW(H:Hp)(p:Addr)(vs:List V)(L:LT):Prop:=H p=some (.lst vs)/\Paired (RwAt H) vs L
theorem LW.same{H H':Hp}{p:Addr}{vs:List V}{L:LT}(x:LW H p vs L)(s:Same H H'):LW H' p vs L:=⟨s _ _ x.1,Paired.mapP x.2 fun _ _ (z:RwAt _ _ _)=>z.same s⟩
def mt(xs:List V):Prop:=∀r m,xs≠[.ref r,.int m]
theorem mQ(as:List Addr):mt (as.map V.ref):=fun r m e=>by rcases as with _|⟨a,_|⟨b,as⟩⟩<;>cases e
theorem xf(ns:List Int):mt (ns.map V.int):=fun r m e=>by rcases ns with _|⟨a,ns⟩<;>cases e
theorem qC{H:Hp}{vs:List V}{L:LT}(x:Paired (RwAt H) vs L):∃as:List Addr,vs=as.map V.ref:=by
 induction x with
 |nil=>exact⟨[],rfl⟩
 |cons r _ ih =>obtain⟨as,e⟩:=ih;obtain⟨b,m,rfl,_⟩:=r;exact⟨b::as,by rw[e];rfl⟩
theorem RwAt.upd{H:Hp}{a:Addr}{xs ys:List V}{v:V}{x:Addr×Dd}(r:RwAt H v x)(ha:H a=some (.lst xs))(hx:mt xs):RwAt (upd H a (.lst ys)) v x:=by obtain⟨b,m,h1,h2,h3⟩:=r;refine⟨b,m,h1,?_,h3.ts (jV fun zs z=>by rw[ha]at z;cases z)⟩;rw[ad (iA h2 ha (hx _ _).symm)];exact h2
theorem LW.upd{H:Hp}{p a:Addr}{xs ys vs:List V}{L:LT}(x:LW H p vs L)(ha:H a=some (.lst xs))(hp:p≠a)(hx:mt xs):LW (upd H a (.lst ys)) p vs L:=⟨by rw[ad hp];exact x.1,Paired.mapP x.2 fun _ _ (z:RwAt _ _ _)=>z.upd ha hx⟩
def vN:Sp:=fun vs H Q _=>∃(l:Addr) (cs:List Int) (h:Int),vs=[.ref l,.int h]/\H l=some (.lst (cs.map V.int))/\cs.length<=60/\1<=h/\h<=8/\∀p H' rv L,Same H H'->LW H' p rv L->UN h.toNat (vals L)->(∀d∈vals L,Fit h.toNat d)->L.length=cs.length->Q (.ref p) H'
theorem Hw{n:Nat}{L:LT}(g:Good n (vals L))(f:∀d∈vals L,Fit n d):UN n (vals L):=by refine⟨g.len,fun d hd=>by have:=(f d hd).own;omega,g.uni.imp fun{d e} h z=>?_⟩;obtain⟨z1,z2⟩:=Dc z;exact(h z1).1 z2
abbrev pF:Stmt:=top 47
abbrev CP:List Str:=["_law_cells","_law_hands","_law_clocks","_law_deeds_here","_law_k","_law_cell","_law_mixed","_law_hand","_law_other","_law_n","_law_what"]
theorem cj:FnScope CP ["_law_cells","_law_hands"] (aq pF):=⟨rfl,rfl,rfl,by decide +kernel,rfl,by decide +kernel,by decide +kernel⟩
theorem Bm{f:Addr}{fd:FuncData}(F:Fun K "_law_deeds" "_law_deeds" pF f fd)(h9:mg "enumerate" = none)(e9:mg "range" = none)(Jr:mg "max" = none)(b9:mg "tuple" = none):FnOk P w K mg base CX0 1 f fd ["_law_cells","_law_hands"] vN:=by
 refine F.okQ cj (fun vs H Q E h=>?_) (fun cdv A outer s H vs Q E hr h=>?_)
 ·obtain⟨l,cs,h,rfl,_⟩:=h;rfl
 obtain⟨l,cs,h,rfl,hl,hlen,h1,h8,q⟩:=h;refine⟨_,(b_c (aM (i:=2) cj.nd (bS (own:=["_law_k"]) (⟨rfl,by decide +kernel,by decide +kernel,rfl,⟨rfl,rfl,trivial⟩⟩:CompOk _ _ [1] ["_law_hands"]) rfl (jt e9 (q_a (q_v 1) aj)) (fun _ _ _ _=>aL (i:=0) (show (["_law_k","_law_hands"]:List Str).Nodup by decide +kernel)) (bj (by decide)) (fun _ _ _ _=>gj) (fun _ _ _ _=>(aP G2 (kH (q_a am aj)) (q_v 1)))))
   (b_c (aM (i:=3) cj.nd (kH aj))
   (b_c (eQ Yr rfl (EQ h9 (q_a (q_v 0) aj)) (wL rfl (hJ (aL (i:=4) cj.nd) (hJ (aL (i:=5) cj.nd) sh))) (b_c (aM (i:=6) cj.nd (aP cV (aP eI (aP rg (q_v 5) am) (aP rg (aP rg (q_v 4) (q_v 4)) am)) am))
   (b_c (aM (i:=7) cj.nd (aP cV (q_v 6) (q_v 1)))
   (b_c (aM (i:=8) cj.nd (aP cV (aP gB (q_v 6) (q_v 1)) (aP rg am (q_v 1))))
   (b_c (zQ (aZ (aS oZ (q_v 8) (q_v 1)) (b_1 (xC (bS (own:=["_law_j"]) (⟨rfl,by decide +kernel,by decide +kernel,rfl,⟨rfl,rfl,⟨rfl,rfl,⟨rfl,rfl,trivial⟩⟩⟩⟩:CompOk _ _ [2,7,8] ["_law_clocks","_law_hand","_law_other"]) rfl (jt e9 (q_a (q_v 1) aj)) (fun _ _ _ _=>aL (i:=0) (show (["_law_j","_law_clocks","_law_hand","_law_other"]:List Str).Nodup by decide +kernel)) (bj (by decide)) (fun _ _ _ _=>gj) (fun _ _ _ _=>(q_B (GN rfl) Jr AU (q_a (aA (kO (K:=K) rfl) (aA (kO (K:=K) rfl) (q_v 1) (q_v 2)) (q_v 0)) (q_a (aA (kO (K:=K) rfl) (aA (kO (K:=K) rfl) (q_v 1) (q_v 3)) (q_v 0)) aj))))) (Cg (q_v 2) (q_v 7) CD))) b_0))
   (b_c (xC (aP eI (aA dH (aA dH (q_v 2) (q_v 7)) (q_v 7)) am) (Cg (aA dH (q_v 2) (q_v 7)) (q_v 7) CD))
   (b_c (aM (i:=9) cj.nd (aP gB (q_v 6) am))
   (b_c (aM (i:=10) cj.nd (aA dH (kH (q_a (bA (q_a dL aj)) (q_a (bA (q_a dL (q_a ng (q_a (bA (q_a (aP cV (q_v 9) am) aj)) (q_a dL aj))))) aj))) (aP cV (aP gB (q_v 9) am) am)))
   (b_1 (nj (Cv (q_v 3) (kH (q_a (bA (q_a (q_v 7) (q_a (sQ GO b9 di (q_a (aA dH (q_v 2) (q_v 7)) aj)) (q_a (q_v 10) aj)))) (q_a (aP cV (q_v 9) am) aj))))))))))))))
   (b_1 (aw (q_v 3)))))),?_⟩
 try rw[cxK]
 obtain⟨n,hn⟩:∃n:Nat,n=h.toNat:=⟨_,rfl⟩
 have hn':(n:Int)=h:=by omega
 rw[<-hn]at q;have n1:1<=n:=by omega
 have n8:n<=8:=by omega
 refine⟨_,rfl,_,rfl,by omega,by omega,?_⟩;refine AY (N:=n) (fun i ys H'=>Same H H'/\∃as:List Addr,ys=as.map V.ref/\as.length=i/\as.Nodup/\∀b∈as,H b=none/\H' b=some (.lst ((List.replicate n (0:Int)).map V.int))) (by omega) (fun i ys H' ⟨_,as,e,la,_⟩=>by rw[e,Zb,la]) ⟨Same.refl H,[],rfl,rfl,.nil,fun b hb=>absurd hb (by simp)⟩ (fun i ys H' hi _=>?_) (fun ys H' _=>?_) (fun i ys H1 x H2 hi ⟨sm,as,e,la,nd,ha⟩ y A kA=>?_) (fun ys cA H1 ⟨sm,as,e,la,nd,ha⟩ gA=>?_)
 ·show i<h.toNat;omega
 ·show h.toNat<=n;omega
 ·obtain⟨rfl,rfl⟩:=y;refine⟨sz rfl,fun pz gz=>⟨_,rfl,pz,h,_,rfl,rfl,af,by omega,by omega,?_,fun pr gr=>kA _ _ ?_⟩⟩
  ·exact de (by rw[ZW];omega)
  ·have w1:=ai gz (.lst [V.int 0]);have w2:=w1.trans (ai gr (.lst (List.replicate h.toNat [V.int 0]).flatten));have fr:H pr=none:=by
    cases e':H pr with
    |none=>rfl
    |some o =>have:=w1 _ _ (sm _ _ e');rw[gr]at this;cases this
   refine⟨sm.trans w2,as++[pr],by rw[e,Zy];rfl,by rw[Zg,la];rfl,?_,fun b hb=>?_⟩
   ·refine List.nodup_append.mpr ⟨nd,by simp,fun b hb c hc=>?_⟩;rw[Zo.mp hc];intro z;have:=w1 _ _ (ha b hb).2;rw[z,gr]at this;cases this
   ·rcases Zt.mp hb with hb|hb
    ·exact⟨(ha b hb).1,w2 _ _ (ha b hb).2⟩
    ·rw[Zo.mp hb];refine⟨fr,?_⟩;rw[af,<-hn,tq]
 ·subst e;have w1:=ai gA (.lst (as.map V.ref));have fA:H cA=none:=by
   cases e':H cA with
   |none=>rfl
   |some o =>have:=sm _ _ e';rw[gA]at this;cases this
  have ck:CK (upd H1 cA (.lst (as.map V.ref))) cA n as (List.replicate n (List.replicate n (0:Int))):=⟨af,la,nd,fun g hg=>by rw[kf (by omega)];exact w1 _ _ (ha _ (ZA hg)).2⟩
  have S1:=sm.trans w1;have fas:∀b∈as,H b=none:=fun b hb=>(ha b hb).1;generalize upd H1 cA (.lst (as.map V.ref))=H2 at ck S1 ⊢;refine⟨sz rfl,fun p gp=>?_⟩;have w2:=ai gp (.lst []);have fp:H p=none:=by
   cases e':H p with
   |none=>rfl
   |some o =>have:=S1 _ _ e';rw[gp]at this;cases this
  have ncp:cA≠p:=fun z=>by have:=ck.1;rw[z,gp]at this;cases this
  refine⟨_,rfl,l,_,rfl,w2 _ _ (S1 _ _ hl),?_⟩;refine A6 (i:=4) (j:=5) (fun k σ H'=>Same H H'/\(∃o4 o5 o6 o7 o8 o9 o10,σ=[some (.ref l),some (.int h),some (.ref cA),some (.ref p),o4,o5,o6,o7,o8,o9,o10])/\∃as cl L rv,CK H' cA n as cl/\LW H' p rv L/\GenF n cl (vals L)/\L.length=k/\∀b∈as,H b=none)
   ⟨S1.trans w2,⟨none,none,none,none,none,none,none,rfl⟩,as,_,[],[],ck.same w2,⟨af,.nil⟩,GenF.start n,rfl,fas⟩ (fun i σ H' _ ⟨sm,_⟩=>SqL.of (sm _ _ hl)) (fun k x σ H3 hx ⟨S3,⟨o4,o5,o6,o7,o8,o9,o10,eσ⟩,as,cl,L,rv,ck,lr,gen,lL,fas⟩ T hT=>?_) (fun σ H3 ⟨S3,⟨o4,o5,o6,o7,o8,o9,o10,eσ⟩,as,cl,L,rv,ck,lr,gen,lL,fas⟩=>?_)
  ·subst eσ;obtain⟨rfl,hk⟩:=iS hx;have sT:=ai hT (.tup [.int (k:Int),.int (ag cs k)]);refine⟨_,rfl,_,_,rfl,rfl,.inr ⟨by decide,by decide⟩,_,rfl,_,rfl,_,_,rfl,rfl,.inl ⟨by omega,by omega⟩,_,_,rfl,rfl,.inr ⟨by decide,by decide⟩,_,_,rfl,rfl,_,_,rfl,rfl,(by show(0:Int)<2147483647;decide),?_⟩;have z0:=Xk (ag cs k*48271+(k:Int)*(k:Int)*69621) (show(2147483647:Int)≠0 by decide);dsimp only;generalize(ag cs k*48271+(k:Int)*(k:Int)*69621)%2147483647=mz at z0 ⊢;refine⟨_,rfl,_,rfl,_,_,rfl,rfl,(by show(0:Int)<h;omega),?_⟩;have d0:=Xk mz (show h≠0 by omega);have d1:=Int.emod_lt_of_pos mz (show(0:Int)<h by omega);dsimp only;generalize mz%h=hd at d0 d1 ⊢;obtain⟨hN,rfl⟩:∃hN:Nat,hd=(hN:Int):=⟨hd.toNat,by omega⟩
   have hNn:hN<n:=by omega
   refine⟨_,rfl,_,rfl,_,_,rfl,rfl,⟨by omega,by omega⟩,_,rfl,_,_,rfl,rfl,.inl ⟨by decide,by decide⟩,_,_,rfl,rfl,(by show(0:Int)<2*h;omega),?_⟩;have b0:=Xk (mz / h) (show 2*h≠0 by omega);dsimp only;generalize mz / h%(2*h)=ot at b0 ⊢;have S4:=S3.trans sT;have ck4:=ck.same sT;have lr4:=lr.same sT;generalize upd H3 T (.tup [.int (k:Int),.int (ag cs k)])=H4 at S4 ck4 lr4 ⊢;clear ck lr sT hT S3;refine⟨fun σ' H5=>Same H H5/\σ'=[some (.ref l),some (.int h),some (.ref cA),some (.ref p),some (.int (k:Int)),some (.int (ag cs k)),some (.int mz),some (.int (hN:Int)),some (.int ot),o9,o10]/\∃as cl,CK H5 cA n as cl/\LW H5 p rv L/\GenF n cl (vals L)/\∀b∈as,H b=none,?_,?_⟩
   ·refine⟨_,rfl,_,rfl,_,_,rfl,rfl,_,rfl,wR (fun hc=>?_) fun hc=>?_⟩
    ·obtain⟨oN,rfl⟩:∃oN:Nat,ot=(oN:Int):=⟨ot.toNat,by omega⟩
     have oNn:oN<n:=by omega
     have ha:hN<as.length:=by rw[ck4.2.1];exact hNn
     have oa:oN<as.length:=by rw[ck4.2.1];exact oNn
     refine⟨_,rfl,_,rfl,by omega,by omega,wF (N:=h.toNat) (lo:=0) (fun j=>.int (if ag (clk cl oN) (0+(j:Int)).toNat>ag (clk cl hN) (0+(j:Int)).toNat then ag (clk cl oN) (0+(j:Int)).toNat else ag (clk cl hN) (0+(j:Int)).toNat)) (by omega) (fun j H6 hj s6 R kR=>?_) (fun p1 H6 s6 g6=>?_)⟩
     ·have ck6:=ck4.same s6;have l1:((0+(j:Int)):Int)<((clk cl hN).length:Int):=by rw[gen.g.cc hN hNn];omega
      have l2:((0+(j:Int)):Int)<((clk cl oN).length:Int):=by rw[gen.g.cc oN oNn];omega
      exact⟨_,rfl,_,rfl,cA,_,_,_,rfl,rfl,SqL.of ck6.1,mC ha,_,rfl,as[hN],_,_,_,rfl,rfl,SqL.of (ck6.2.2.2 hN ha),cg (by omega) l1,_,rfl,_,rfl,cA,_,_,_,rfl,rfl,SqL.of ck6.1,mC oa,_,rfl,as[oN],_,_,_,rfl,rfl,SqL.of (ck6.2.2.2 oN oa),cg (by omega) l2,_,_,rfl,kR H6 (Same.refl H6)⟩
     ·have em:((List.range h.toNat).map fun(j:Nat)=>V.int (if ag (clk cl oN) (0+(j:Int)).toNat>ag (clk cl hN) (0+(j:Int)).toNat then ag (clk cl oN) (0+(j:Int)).toNat else ag (clk cl hN) (0+(j:Int)).toNat))=(mx (clk cl hN) (clk cl oN) n).map V.int:=by unfold mx;rw[Yp,<-hn];apply List.map_congr_left;intro j _;show V.int _=V.int _;rw[show(0+(j:Int)).toNat=j by omega]
      rw[em];have gm:=gen.met hNn oNn;have lm:(mx (clk cl hN) (clk cl oN) n).length=n:=sE;generalize mx (clk cl hN) (clk cl oN) n=cm at gm lm ⊢;have w6:=s6.trans (ai g6 (.lst (cm.map V.int)));have ck7:=ck4.same w6;have lr7:=lr4.same w6;have S7:=S4.trans w6;have e7:upd H6 p1 (.lst (cm.map V.int)) p1=some (.lst (cm.map V.int)):=af;have fp1:H p1=none:=by
       cases e':H p1 with
       |none=>rfl
       |some o =>have:=s6 _ _ (S4 _ _ e');rw[g6]at this;cases this
      have np1:p1∉as:=fun hm=>by obtain⟨i,hi,rfl⟩:=ZG.mp hm;have:=s6 _ _ (ck4.2.2.2 i hi);rw[g6]at this;cases this
      generalize upd H6 p1 (.lst (cm.map V.int))=H7 at ck7 lr7 S7 e7 ⊢;have las:as.length=n:=ck4.2.1;refine⟨_,rfl,_,rfl,cA,_,_,hN,rfl,rfl,ck7.1,?_,jg S7 fA,rfl,as.set hN p1,cl.set hN cm,⟨?_,?_,E3 ck7.2.2.1 np1,fun g hg=>?_⟩,lr7.upd ck7.1 ncp.symm (mQ _),gm,fun b hb=>?_⟩
      ·unfold ixN;rw[Zb,Jv (by omega),Jv (by omega)];rfl
      ·rw[af,List.map_set]
      ·rw[Yf];exact las
      ·rw[Yf]at hg;rw[List.getElem_set,cP (by rw[gen.g.cn];exact hNn)];by_cases c:hN=g
       ·rw[Jv c,Jv c.symm,ad (iA e7 ck7.1 (fun z=>fF (by omega) z.symm))];exact e7
       ·rw[Ju c,Ju (fun z=>c z.symm),ad (iA (ck7.2.2.2 g hg) ck7.1 (fun z=>fF (by rw[gen.g.cc g (by omega)];omega) z.symm))];exact ck7.2.2.2 g hg
      ·rcases List.mem_or_eq_of_mem_set hb with hb|rfl
       ·exact fas b hb
       ·exact fp1
    ·exact⟨S4,rfl,as,cl,ck4,lr4,gen,fas⟩
   ·rintro σ' H5 ⟨S5,rfl,as5,cl5,ck5,lr5,gen5,fas5⟩;have ha:hN<as5.length:=by rw[ck5.2.1];exact hNn
    have cN:=ck5.2.2.2 hN ha;have lc:=gen5.g.cc hN hNn;have fa:=fas5 _ (ZA ha);refine⟨_,rfl,_,rfl,cA,_,_,_,rfl,rfl,SqL.of ck5.1,mC ha,_,rfl,as5[hN],_,_,_,rfl,rfl,SqL.of cN,cY (by rw[lc];exact hNn),_,_,rfl,rfl,_,rfl,_,rfl,cA,_,_,_,rfl,rfl,SqL.of ck5.1,mC ha,_,rfl,as5[hN],_,_,hN,rfl,rfl,cN,?_,?_⟩
    ·unfold ixN;rw[Zb,lc,Jv (by omega),Jv (by omega)];rfl
    have ec:((clk cl5 hN).map V.int).set hN (.int (ag (clk cl5 hN) hN+1))=((clk cl5 hN).set hN (ag (clk cl5 hN) hN+1)).map V.int:=by rw[List.map_set]
    rw[ec];obtain⟨ra,era⟩:=qC lr5.2;have npa:p≠as5[hN]:=iA lr5.1 cN (by rw[era];exact fF (by rw[lc];omega));have nca:cA≠as5[hN]:=iA ck5.1 cN (fF (by rw[lc];omega));have S6:=jg (o:=.lst (((clk cl5 hN).set hN (ag (clk cl5 hN) hN+1)).map V.int)) S5 fa;have t6:TS H5 (upd H5 as5[hN] (.lst (((clk cl5 hN).set hN (ag (clk cl5 hN) hN+1)).map V.int))):=jV fun zs e'=>by rw[cN]at e';cases e'
    have lr6:=lr5.upd (ys:=((clk cl5 hN).set hN (ag (clk cl5 hN) hN+1)).map V.int) cN npa (xf _);have ck6:CK (upd H5 as5[hN] (.lst (((clk cl5 hN).set hN (ag (clk cl5 hN) hN+1)).map V.int))) cA n as5 (cl5.set hN ((clk cl5 hN).set hN (ag (clk cl5 hN) hN+1))):=by
     refine⟨by rw[ad nca];exact ck5.1,ck5.2.1,ck5.2.2.1,fun g hg=>?_⟩;rw[cP (by rw[gen5.g.cn];exact hNn)];by_cases c:g=hN
     ·subst c;rw[Jv rfl,af]
     ·rw[Ju c,ad]
      ·exact ck5.2.2.2 g hg
      ·have nd:=ck5.2.2.1;rw[Ym,Zu]at nd;rcases Z6 g hN with c1|c1
       ·exact nd g hN hg ha c1
       ·exact(nd hN g ha hg (by omega)).symm
    have ga:=fun w=>gen5.add hNn w;have lc':((clk cl5 hN).set hN (ag (clk cl5 hN) hN+1)).length=n:=by rw[Yf,lc]
    have c6:upd H5 as5[hN] (.lst (((clk cl5 hN).set hN (ag (clk cl5 hN) hN+1)).map V.int)) as5[hN]=some (.lst (((clk cl5 hN).set hN (ag (clk cl5 hN) hN+1)).map V.int)):=af;generalize upd H5 as5[hN] (.lst (((clk cl5 hN).set hN (ag (clk cl5 hN) hN+1)).map V.int))=H6 at S6 lr6 ck6 c6 ⊢;generalize(clk cl5 hN).set hN (ag (clk cl5 hN) hN+1)=nc at ck6 ga lc' c6;generalize cl5.set hN nc=cl6 at ck6 ga;clear ck5 lr5 gen5 t6 S5 cN ec lc npa nca;refine⟨_,rfl,_,_,rfl,rfl,⟨by decide,by decide⟩,?_⟩;dsimp only;generalize mz / 64=nz;refine⟨sz rfl,fun q1 f1=>?_⟩;have w1:=ai f1 (.tup [.str "none"]);refine⟨_,rfl,_,_,rfl,rfl,(by show(0:Int)<1009;decide),?_⟩;refine⟨sz rfl,fun q2 f2=>?_⟩;have w2:=w1.trans (ai f2 (.tup [.int (nz%1009)]));refine⟨sz rfl,fun q3 f3=>?_⟩;have w3:=w2.trans (ai f3 (.tup [.str "put",.non,.ref q2,.str "text"]));refine⟨sz rfl,fun q4 f4=>?_⟩;have w4:=w3.trans (ai f4 (.lst [.ref q1,.ref q3]));have k0:=Xk (nz / 3) (show(2:Int)≠0 by decide);have k1:=Int.emod_lt_of_pos (nz / 3) (show(0:Int)<2 by decide);have e1:upd H6 q1 (.tup [.str "none"]) q1=some (.tup [.str "none"]):=af;have e2:upd (upd H6 q1 (.tup [.str "none"])) q2 (.tup [.int (nz%1009)]) q2=some (.tup [.int (nz%1009)]):=af;have x1:=ai f4 (.lst [.ref q1,.ref q3]) _ _ (ai f3 (.tup [.str "put",.non,.ref q2,.str "text"]) _ _ (ai f2 (.tup [.int (nz%1009)]) _ _ e1));have x2:=ai f4 (.lst [.ref q1,.ref q3]) _ _ (ai f3 (.tup [.str "put",.non,.ref q2,.str "text"]) _ _ e2);have x3:=ai f4 (.lst [.ref q1,.ref q3]) q3 (.tup [.str "put",.non,.ref q2,.str "text"]) af;have x4:upd (upd (upd (upd H6 q1 (.tup [.str "none"])) q2 (.tup [.int (nz%1009)])) q3 (.tup [.str "put",.non,.ref q2,.str "text"])) q4 (.lst [.ref q1,.ref q3]) q4=some (.lst [.ref q1,.ref q3]):=af;generalize upd (upd (upd (upd H6 q1 (.tup [.str "none"])) q2 (.tup [.int (nz%1009)])) q3 (.tup [.str "put",.non,.ref q2,.str "text"])) q4 (.lst [.ref q1,.ref q3])=H7 at w4 x1 x2 x3 x4 ⊢;obtain⟨wv,ww,hw,hWR⟩:∃(wv:V) (ww:Option (Int×Bool)),atI [.ref q1,.ref q3] (nz / 3%2)=some wv/\WR H7 wv ww:=by
     rcases(show nz / 3%2=0\/nz / 3%2=1 by omega)with z|z
     ·rw[z];exact⟨_,none,at0,q1,rfl,x1⟩
     ·rw[z];exact⟨_,some (nz%1009,false),at1,q3,q2,rfl,x3,x2⟩
    refine⟨_,rfl,_,_,rfl,rfl,⟨by decide,by decide⟩,_,_,rfl,rfl,(by show(0:Int)<2;decide),q4,_,_,_,rfl,rfl,SqL.of x4,hw,?_⟩;have S7:=S6.trans w4;have lr7:=lr6.same w4;have ck7:=ck6.same w4;have c7:=w4 _ _ c6;clear w1 w2 w3 w4 x1 x2 x3 x4 e1 e2 S6 lr6 ck6 c6;refine⟨_,rfl,.inl ⟨rfl,_,SqL.of lr7.1⟩,_,rfl,_,rfl,_,rfl,cA,_,_,_,rfl,rfl,SqL.of ck7.1,mC ha,as5[hN],_,rfl,.inl ⟨SqL.of c7,fun q5 f5=>?_⟩⟩;have w5:=ai f5 (.tup (nc.map V.int));refine⟨_,rfl,sz rfl,fun q6 f6=>?_⟩;have w6:=w5.trans (ai f6 (.tup [.int (hN:Int),.ref q5,wv]));have dd:DR (upd (upd H7 q5 (.tup (nc.map V.int))) q6 (.tup [.int (hN:Int),.ref q5,wv])) q6 ⟨hN,nc,ww⟩:=⟨q5,wv,af,ai f6 (.tup [.int (hN:Int),.ref q5,wv]) _ _ af,hWR.ts (Same.ts w6),by show hN<nc.length;omega,by show nc.length<=8;omega⟩
    generalize upd (upd H7 q5 (.tup (nc.map V.int))) q6 (.tup [.int (hN:Int),.ref q5,wv])=H8 at w6 dd ⊢;refine⟨_,rfl,_,_,rfl,rfl,(by show(0:Int)<3;decide),sz rfl,fun q7 f7=>?_⟩;dsimp only;generalize nz%3=wy;have w7:=ai f7 (.lst [.ref q6,.int wy]);have rw7:RwAt (upd H8 q7 (.lst [.ref q6,.int wy])) (.ref q7) (q6,⟨hN,nc,ww⟩):=⟨q7,wy,rfl,af,dd.same w7⟩
    have lr8:=(lr7.same w6).same w7;have ck8:=(ck7.same w6).same w7;have S8:=(S7.trans w6).trans w7;generalize upd H8 q7 (.lst [.ref q6,.int wy])=H9 at rw7 lr8 ck8 S8 ⊢;obtain⟨ra8,era8⟩:=qC lr8.2;have lrv:rv.length=k:=by rw[YL lr8.2,lL]
    refine⟨p,_,_,rfl,rfl,lr8.1,fK (by omega),?_⟩;have nr:mt rv:=by rw[era8];exact mQ _
    refine⟨jg S8 fp,⟨_,_,_,_,_,_,_,rfl⟩,as5,cl6,L++[(q6,⟨hN,nc,ww⟩)],rv++[.ref q7],⟨?_,ck8.2.1,ck8.2.2.1,fun g hg=>?_⟩,⟨af,Paired.snoc (Paired.mapP lr8.2 fun _ _ (z:RwAt _ _ _)=>z.upd lr8.1 nr) (rw7.upd lr8.1 nr)⟩,?_,by rw[Zg,lL];rfl,fas5⟩
    ·rw[ad ncp];exact ck8.1
    ·have hgn:g<n:=by rw[<-ck8.2.1];exact hg
     have lg:(clk cl6 g).length=n:=(ga none).g.cc g hgn;rw[ad (fun z=>iA lr8.1 (ck8.2.2.2 g hg) (by rw[era8];exact fF (by rw[lg];omega)) z.symm)];exact ck8.2.2.2 g hg
    ·unfold vals;rw[Zy];exact ga ww
  ·subst eσ;exact⟨_,rfl,q p H3 rv L S3 lr (Hw gen.g.good gen.fit) gen.fit (by rw[lL,Zb])⟩
abbrev jG:Stmt:=top 44
abbrev xW:List Str:=["_law_script","_law_k"]
theorem xD:FnScope xW ["_law_script","_law_k"] (aq jG):=⟨rfl,rfl,rfl,by decide +kernel,rfl,by decide +kernel,by decide +kernel⟩
theorem xm{f:Addr}{fd:FuncData}(F:Fun K "_law_cell_at" "_law_cell_at" jG f fd)(a7:mg "len" = none):FnOk P w K mg base CX0 1 f fd ["_law_script","_law_k"] (zZ K):=by
 refine F.okQ xD (fun vs H Q E h=>?_) (fun cdv A outer s H vs Q E hr h=>?_)
 ·obtain⟨a,ns,k,rfl,_⟩:=h;rfl
 obtain⟨a,ns,k,rfl,hS,h0,q⟩:=h;refine⟨_,(b_c (aZ (aS oZ (q_v 1) (q_B bG a7 ZO (q_a (q_v 0) aj))) (b_1 (aw (aA dH (q_v 0) (q_v 1)))) b_0)
   (b_1 (aw am))),?_⟩
 try rw[cxK]
 refine⟨_,rfl,_,rfl,a,_,rfl,.inl hS,_,_,rfl,rfl,_,rfl,?_⟩;refine iT (fun c=>?_) (fun c=>?_)
 ·have c':k<((ns.map V.int).length:Int):=ZJ c;rw[Zb]at c';exact⟨_,rfl,_,rfl,a,_,_,_,rfl,rfl,hS,cg h0 c',q⟩
 ·have c':¬k<((ns.map V.int).length:Int):=YJ (y7.mpr c);rw[Zb]at c';rw[AX h0 c']at q;exact q
abbrev pI:Stmt:=top 46
abbrev CT:List Str:=["_law_deed"]
theorem BU:FnScope CT ["_law_deed"] (aq pI):=⟨rfl,rfl,rfl,by decide +kernel,rfl,by decide +kernel,by decide +kernel⟩
theorem Bo{f:Addr}{fd:FuncData}(F:Fun K "_law_order" "_law_order" pI f fd)(v3:mg "sum" = none):FnOk P w K mg base CX0 1 f fd ["_law_deed"] xN:=by
 refine F.okQ BU (fun vs H Q E h=>?_) (fun cdv A outer s H vs Q E hr h=>?_)
 ·obtain⟨a,d,rfl,_⟩:=h;rfl
 obtain⟨a,d,rfl,⟨c,v,e1,e2,e3,e4,e5⟩,q⟩:=h;refine⟨_,(b_1 (aw (bA (q_a (q_B (yg (K:=K) rfl rfl) v3 PyProof.Rows.boot_sum (q_a (aA aC (q_v 0) am) aj)) (q_a (aA aC (q_v 0) am) aj))))),?_⟩
 try rw[cxK]
 refine⟨_,rfl,a,_,_,_,rfl,rfl,SqT.of e1,at1,c,d.ns,rfl,SqT.of e2,_,rfl,a,_,_,_,rfl,rfl,SqT.of e1,at0,sz rfl,fun p g=>?_⟩;exact q p _ (ai g _) af
abbrev tG:Stmt:=top 45
abbrev Ev:List Str:=["_law_deed"]
theorem D6:FnScope Ev ["_law_deed"] (aq tG):=⟨rfl,rfl,rfl,by decide +kernel,rfl,by decide +kernel,by decide +kernel⟩
theorem Dk{f:Addr}{fd:FuncData}(F:Fun K "_law_name" "_law_name" tG f fd):FnOk P w K mg base CX0 1 f fd ["_law_deed"] eV:=by
 refine F.okQ D6 (fun vs H Q E h=>?_) (fun cdv A outer s H vs Q E hr h=>?_)
 ·obtain⟨a,d,rfl,_⟩:=h;rfl
 obtain⟨a,d,rfl,⟨c,v,e1,e2,e3,e4,e5⟩,q⟩:=h;refine⟨_,(b_1 (aw (bA (q_a (aA aC (q_v 0) am) (q_a (aA aC (aA aC (q_v 0) am) (aA aC (q_v 0) am)) aj))))),?_⟩
 try rw[cxK]
 refine vix rfl (SqT.of e1) at0 (vix rfl (SqT.of e1) at1 (vix rfl (SqT.of e1) at0 ⟨c,_,_,_,rfl,rfl,SqT.of e2,cY e4,sz rfl,fun p g=>?_⟩));exact q p _ (ai g _) af
def KC(H:Hp):List (List Key×V)->List Dd->Prop
 | [],[]=>True
 |kv::kvs,d::R=>kv.1=nmK d/\(∃c,kv.2=.ref c/\H c=some (.tup (d.ns.map V.int)))/\KC H kvs R
 |_,_=>False
theorem KC.ts{H H':Hp}(t:TS H H'):∀{kvs:List (List Key×V)} {R:List Dd},KC H kvs R->KC H' kvs R
 | [],[],_=>trivial
 |_::_,_::_,⟨h1,⟨c,h2,h3⟩,h4⟩=>⟨h1,⟨c,h2,t _ _ h3⟩,KC.ts t h4⟩
theorem KC.len{H:Hp}:∀{kvs:List (List Key×V)} {R:List Dd},KC H kvs R->kvs.length=R.length
 | [],[],_=>rfl
 |_::_,_::_,⟨_,_,h4⟩=>by rw[Zm,Zm,KC.len h4]
theorem KC.snoc{H:Hp}{d:Dd}{c:Addr}(hc:H c=some (.tup (d.ns.map V.int))):∀{kvs:List (List Key×V)} {R:List Dd},KC H kvs R->KC H (kvs++[(nmK d,.ref c)]) (R++[d])
 | [],[],_=>⟨rfl,⟨c,rfl,hc⟩,trivial⟩
 |_::_,_::_,⟨h1,h2,h4⟩=>⟨h1,h2,KC.snoc hc h4⟩
theorem KC.get{H:Hp}(k:List Key):∀{kvs:List (List Key×V)} {R:List Dd},KC H kvs R->(R.find? (fun e=>decide (nmK e=k))=none/\bo kvs k=none)\/∃e c,R.find? (fun e=>decide (nmK e=k))=some e/\bo kvs k=some (.ref c)/\H c=some (.tup (e.ns.map V.int))
 | [],[],_=>.inl ⟨rfl,rfl⟩
 |kv::kvs,d::R,⟨h1,⟨c,h2,h3⟩,h4⟩=>by
  by_cases e:nmK d=k
  ·refine .inr ⟨d,c,by rw[Y6,decide_eq_true e],?_,h3⟩;rw[jj (by rw[h1];exact e),h2]
  ·have ef:(d::R).find? (fun e=>decide (nmK e=k))=R.find? (fun e=>decide (nmK e=k)):=by rw[Y6,decide_eq_false e]
   rw[ef,ji (by rw[h1];exact e)];exact KC.get k h4
theorem Ds{ns ms:List Int}:decide ((0:Int)<((((List.range ns.length).filter fun i=>decide (ag ms i<ag ns i)).map fun(i:Nat)=>V.int (0+(i:Int))).length:Int))=!cD ns ms:=by
 rw[Zb];cases hw:cD ns ms with
 |true =>
  have hl:=fY.mp hw;have e:((List.range ns.length).filter fun i=>decide (ag ms i<ag ns i))=[]:=by rw[YV];intro i hi;have:=hl i (ZV.mp hi);simp only[YE];omega
  rw[e];rfl
 |false =>
  refine decide_eq_true ?_;have:((List.range ns.length).filter fun i=>decide (ag ms i<ag ns i))≠[]:=fun e=>by
   rw[YV]at e;have:cD ns ms=true:=fY.mpr fun i hi=>by have:=e i (ZV.mpr hi);simp only[YE]at this;omega
   rw[hw]at this;cases this
  have:=List.length_pos_iff.mpr this;omega
def Aa:Sp:=fun vs H Q _=>∃(a t:Addr) (d:Dd) (kvs:List (List Key×V)) (T:List Dd),vs=[.ref a,.ref t]/\DR H a d/\H t=some (.dT kvs)/\KC H kvs T/\(∀e∈T,e.ns.length=d.ns.length)/\∀H',Same H H'->Q (.bl (dq T d)) H'
theorem uQ{T:List Dd}{d:Dd}:dq T d=true↔∀i,i<d.ns.length->aB d i>0->cW T d i=true:=by
 unfold dq dv;rw[y6];constructor
 ·intro h i hi hl;exact h i (ZL.mpr ⟨ZV.mpr hi,decide_eq_true hl⟩)
 ·intro h i hi;obtain⟨h1,h2⟩:=ZL.mp hi;exact h i (ZV.mp h1) (ZJ h2)
abbrev tD:Stmt:=top 49
abbrev Et:List Str:=["_law_deed","_law_taken","_law_hand","_law_last","_law_ahead"]
theorem kJ:FnScope Et ["_law_deed","_law_taken"] (aq tD):=⟨rfl,rfl,rfl,by decide +kernel,rfl,by decide +kernel,by decide +kernel⟩
theorem Di{f:Addr}{fd:FuncData}(F:Fun K "_law_fits" "_law_fits" tD f fd)(a7:mg "len" = none)(e9:mg "range" = none)(IJ:mg "int" = none):FnOk P w K mg base CX0 1 f fd ["_law_deed","_law_taken"] Aa:=by
 refine F.okQ kJ (fun vs H Q E h=>?_) (fun cdv A outer s H vs Q E hr h=>?_)
 ·obtain⟨a,t,d,kvs,T,rfl,_⟩:=h;rfl
 obtain⟨a,t,d,kvs,T,rfl,hd,ht,kc,hl,q⟩:=h;obtain⟨c,v,d1,d2,d3,d4,d5⟩:=id hd;refine⟨_,(b_c (eQ Yr rfl (jt e9 (q_a (q_B bG a7 ZO (q_a (aA aC (q_v 0) am) aj)) aj)) (aL (i:=2) kJ.nd) (b_c (aM (i:=3) kJ.nd (aP xj (aA aC (aA aC (q_v 0) am) (q_v 2)) (sQ GL IJ rJ (q_a (bX eJ (q_v 2) (aA aC (q_v 0) am)) aj))))
   (b_1 (aZ (aS xh (q_v 3) am) (b_c (aZ (fi hr.units (bA (q_a (q_v 2) (q_a (q_v 3) aj))) (q_v 1)) (b_1 (aw bR)) b_0)
   (b_c (aM (i:=4) kJ.nd (bU hr.units (q_v 1) (bA (q_a (q_v 2) (q_a (q_v 3) aj)))))
   (b_1 (aZ (aS xh (q_B bG a7 ZO (q_a (bS (own:=["_law_k"]) (⟨rfl,by decide +kernel,by decide +kernel,rfl,⟨rfl,rfl,⟨rfl,rfl,trivial⟩⟩⟩:CompOk _ _ [4,0] ["_law_ahead","_law_deed"]) rfl (jt e9 (q_a (q_B bG a7 ZO (q_a (q_v 4) aj)) aj)) (fun _ _ _ _=>aL (i:=0) (show (["_law_k","_law_ahead","_law_deed"]:List Str).Nodup by decide +kernel)) (bj (by decide)) (fun _ _ _ _=>(oJ (aS xh (aA (uk (K:=K) rfl) (q_v 1) (q_v 0)) (aA (uk (K:=K) rfl) (aA (uk (K:=K) rfl) (q_v 2) am) (q_v 0))))) (fun _ _ _ _=>(q_v 0))) aj)) am) (b_1 (aw bR)) b_0)))) b_0))))
   (b_1 (aw bR))),?_⟩
 refine⟨_,rfl,a,_,_,_,rfl,rfl,SqT.of d1,at1,c,_,rfl,.inr (SqT.of d2),_,rfl,by omega,by rw[Zb];omega,?_⟩;rw[Zb];refine qq (lo:=0) (fun k σ H'=>Same H H'/\(∃o2 o3 o4,σ=[some (.ref a),some (.ref t),o2,o3,o4])/\∀i,i<k->aB d i>0->cW T d i=true) ⟨Same.refl H,⟨none,none,none,rfl⟩,fun i hi=>absurd hi (by omega)⟩ ?_ ?_
 ·rintro k σ H1 hk ⟨sm,⟨o2,o3,o4,rfl⟩,hall⟩;have hk':k<d.ns.length:=by omega
  have m1:=sm _ _ d1;have m2:=sm _ _ d2;have ec:atI (d.ns.map V.int) (0+(k:Int))=some (.int (ag d.ns k)):=by rw[Int.zero_add];exact cY hk'
  refine⟨_,rfl,a,_,_,_,rfl,rfl,SqT.of m1,at1,_,rfl,c,_,_,_,rfl,rfl,SqT.of m2,ec,_,rfl,_,rfl,a,_,_,_,rfl,rfl,SqT.of m1,at0,rfl,.inr ⟨_,rfl,_,_,rfl,rfl,?_⟩⟩;have el:ag d.ns k-(if decide (V.int (0+(k:Int))=V.int (d.h:Int))=true then 1 else 0)=aB d k:=by
   unfold aB;by_cases z:k=d.h
   ·rw[Jv z,Jv (by rw[Int.zero_add,z];exact decide_eq_true rfl)]
   ·rw[Ju z,Ju (by
     rw[decide_eq_true_iff];intro y;injection y with y;omega),Int.sub_zero]
  dsimp only;rw[el];refine⟨_,rfl,_,_,rfl,rfl,_,rfl,wR (fun hc=>?_) fun hc=>?_⟩
  ·have no:cW T d k=false->dq T d=false:=fun hb=>by
    cases ha:dq T d with
    |false=>rfl
    |true =>rw[uQ.mp ha k hk' hc]at hb;cases hb
   refine⟨_,rfl,_,rfl,sz rfl,fun p1 g1=>?_⟩;have w1:=ai g1 (.tup [.int (0+(k:Int)),.int (aB d k)]);have t1:=w1 _ _ (sm _ _ ht);have dg1:dN (upd H1 p1 (.tup [.int (0+(k:Int)),.int (aB d k)])) t (.ref p1) (bo kvs [.inl (k:Int),.inl (aB d k)]):=.inr ⟨kvs,[.inl (k:Int),.inl (aB d k)],p1,.inl t1,rfl,by rw[af,Int.zero_add];rfl,rfl⟩;have S1:=sm.trans w1;have kc1:=kc.ts (Same.ts S1);have hcell:=S1 _ _ d2;have hda:=S1 _ _ d1;generalize upd H1 p1 (.tup [.int (0+(k:Int)),.int (aB d k)])=H2 at dg1 t1 S1 kc1 hcell hda ⊢;refine⟨_,rfl,t,_,rfl,dg1,?_⟩;rcases kc1.get [.inl (k:Int),.inl (aB d k)]with⟨hf,hv⟩|⟨e,c',hf,hv,hc'⟩
   ·rw[hv];refine⟨_,rfl,aK ?_⟩;have hb:cW T d k=false:=by unfold cW;rw[hf]
    rw[no hb]at q;exact q H2 S1
   ·rw[hv];refine⟨_,rfl,aE ?_⟩;have he:=hl e (Y4 hf);refine⟨_,rfl,_,rfl,_,rfl,sz rfl,fun p2 g2=>?_⟩;have w2:=ai g2 (.tup [.int (0+(k:Int)),.int (aB d k)]);have dg2:dN (upd H2 p2 (.tup [.int (0+(k:Int)),.int (aB d k)])) t (.ref p2) (some (.ref c')):=.inr ⟨kvs,[.inl (k:Int),.inl (aB d k)],p2,.inl (w2 _ _ t1),rfl,by rw[af,Int.zero_add];rfl,hv.symm⟩;have S2:=S1.trans w2;have hc2:=w2 _ _ hc';have hcell2:=w2 _ _ hcell;have hda2:=w2 _ _ hda;generalize upd H2 p2 (.tup [.int (0+(k:Int)),.int (aB d k)])=H3 at dg2 S2 hc2 hcell2 hda2 ⊢;refine⟨t,_,rfl,dg2,?_⟩;refine⟨_,rfl,c',_,rfl,.inr (SqT.of hc2),_,rfl,by omega,by rw[Zb];omega,?_⟩;rw[Zb];refine rS (N:=e.ns.length) (lo:=0) (fun i=>decide (ag d.ns i<ag e.ns i)) (fun i=>.int (0+(i:Int))) (by omega) (fun i H4 hi s4 R kR=>?_) (fun i H4 hi s4 _ R kR=>⟨_,rfl,kR H4 (Same.refl H4)⟩) (fun p3 H4 s4 g4=>?_)
    ·have a1:atI (e.ns.map V.int) (0+(i:Int))=some (.int (ag e.ns i)):=by rw[Int.zero_add];exact cY hi
     have a2:atI (d.ns.map V.int) (0+(i:Int))=some (.int (ag d.ns i)):=by rw[Int.zero_add];exact cY (by omega)
     exact⟨_,rfl,_,rfl,c',_,_,_,rfl,rfl,SqT.of (s4 _ _ hc2),a1,_,rfl,a,_,_,_,rfl,rfl,SqT.of (s4 _ _ hda2),at1,_,rfl,c,_,_,_,rfl,rfl,SqT.of (s4 _ _ hcell2),a2,_,_,rfl,rfl,_,rfl,kR H4 (Same.refl H4)⟩
    ·have S4:=S2.trans (s4.trans (ai g4 (.lst (((List.range e.ns.length).filter fun i=>decide (ag d.ns i<ag e.ns i)).map fun(i:Nat)=>V.int (0+(i:Int))))));refine⟨p3,_,rfl,.inl (SqL.of af),_,_,rfl,rfl,_,rfl,?_⟩;rw[Ds];have hb:cW T d k=cD e.ns d.ns:=by unfold cW;rw[hf]
     cases hw:cD e.ns d.ns with
     |false =>rw[no (hb.trans hw)]at q;exact aK (q _ S4)
     |true =>
      refine aE ⟨S4,⟨_,_,_,rfl⟩,fun i hi hli=>?_⟩;by_cases z:i=k
      ·rw[z,hb,hw]
      ·exact hall i (by omega) hli
  ·refine⟨sm,⟨_,_,_,rfl⟩,fun i hi hli=>?_⟩;by_cases z:i=k
   ·rw[z]at hli;omega
   ·exact hall i (by omega) hli
 ·rintro σ H1 ⟨sm,⟨o2,o3,o4,rfl⟩,hall⟩;have ac:dq T d=true:=uQ.mpr fun i hi hl=>hall i (by omega) hl;rw[ac]at q;exact q H1 sm
def inT(T:List Dd)(d:Dd):Bool:=(T.find? fun e=>decide (nmK e=nmK d)).isSome
theorem vo{T:List Dd}{d x:Dd}:inT (T++[d]) x=(inT T x ||decide (nmK d=nmK x)):=by
 unfold inT;rw[List.find?_append];cases h:T.find? (fun e=>decide (nmK e=nmK x))with
 |some y=>rfl
 |none =>
  by_cases c:nmK d=nmK x
  ·simp[c]
  ·simp[c]
def iZ(L:LT)(T:List Dd):Nat:=((vals L).filter fun d=>!inT T d).length
theorem vd{p q:Dd->Bool}:∀{L:List Dd},(∀x∈L,q x=true->p x=true)->(∃x∈L,p x=true/\q x=false)->(L.filter q).length<(L.filter p).length
 | [],_,⟨x,hx,_⟩=>absurd hx (by simp)
 |y::L,h,⟨x,hx,h1,h2⟩=>by
  have le:(L.filter q).length<=(L.filter p).length:=by
   clear hx;have h':∀x∈L,q x=true->p x=true:=fun x hx=>h x (ZC _ hx);clear h;induction L with
   |nil=>exact Ze _
   |cons z L ih =>
    have ih':=ih fun x hx=>h' x (ZC _ hx);have hz:=h' z Z9;rw[List.filter_cons,List.filter_cons];by_cases c:q z=true
    ·rw[Jv c,Jv (hz c),Zm,Zm];omega
    ·rw[Ju c];split
     ·rw[Zm];omega
     ·exact ih'
  rw[List.filter_cons,List.filter_cons];rcases Zs.mp hx with rfl|hx
  ·rw[h1,h2,Jv rfl,Ju (by simp),Zm];omega
  ·have ih:=vd (L:=L) (fun x hx=>h x (ZC _ hx)) ⟨x,hx,h1,h2⟩;have hy:=h y Z9;by_cases c:q y=true
   ·rw[Jv c,Jv (hy c),Zm,Zm];omega
   ·rw[Ju c];split
    ·rw[Zm];omega
    ·exact ih
theorem DY{L:LT}{T:List Dd}{d:Dd}(hd:d∈vals L)(hn:inT T d=false):iZ L (T++[d])<iZ L T:=by
 refine vd (fun x hx h=>?_) ⟨d,hd,by rw[hn];rfl,?_⟩
 ·rw[vo]at h;cases e:inT T x with
  |false=>rfl
  |true =>rw[e]at h;cases h
 ·rw[vo,decide_eq_true rfl,Bool.or_true];rfl
def TI(n:Nat)(L:LT)(t:Addr)(F:LT)(H:Hp):Prop:=∃kvs,H t=some (.dT kvs)/\KC H kvs (vals F)/\Ch n (vals F)/\(∀x∈F,x∈L)/\((vals F).Pairwise fun d e=>nmK d≠nmK e)/\F.length<=L.length
theorem TI.keep{n:Nat}{L F:LT}{t:Addr}{H H':Hp}(x:TI n L t F H)(s:TS H H')(ht:∀kvs,H t=some (.dT kvs)->H' t=some (.dT kvs)):TI n L t F H':=by obtain⟨kvs,h1,h2,h3⟩:=x;exact⟨kvs,ht _ h1,h2.ts s,h3⟩
def tW:Sp:=fun vs H Q _=>∃(k:Addr) (L:LT) (n:Nat),vs=[.ref k]/\H k=some (.dT (ah L))/\(∀x∈L,DR H x.1 x.2)/\L.length<=63/\n<=8/\UN n (vals L) /\
 ∀p H' (F M:LT),Same H H'->Ch n (vals F)->M.Perm F->(∀x∈F,x∈L)->Sat n (vals L) (vals F)->(vals M).Pairwise kLt->H' p=some (.lst (aG M))->Q (.ref p) H'
theorem ix{L:LT}{i:Nat}{p:List Key×V}(h:(ah L)[i]?=some p):∃y,L[i]?=some y/\p=(nmK y.2,.ref y.1):=by unfold ah at h;rw[ZB]at h;obtain⟨y,hy,e⟩:=Ys.mp h;exact⟨y,hy,e.symm⟩
theorem KC.key{H:Hp}:∀{kvs:List (List Key×V)} {R:List Dd} {i:Nat} {p:List Key×V},KC H kvs R->kvs[i]?=some p->∃d,R[i]?=some d/\p.1=nmK d
 | [],[],_,_,_,h=>by simp at h
 |q::kvs,e::R,0,p,x,h=>by cases h;exact⟨e,rfl,x.1⟩
 |q::kvs,e::R,i+1,p,x,h=>KC.key (i:=i) x.2.2 h
abbrev pJ:Stmt:=top 50
abbrev CU:List Str:=["_law_kept","_law_taken","_law_more","_law_name_here"]
theorem fh:FnScope CU ["_law_kept"] (aq pJ):=⟨rfl,rfl,rfl,by decide +kernel,rfl,by decide +kernel,by decide +kernel⟩
theorem Bp{f:Addr}{fd:FuncData}(F:Fun K "_law_ready" "_law_ready" pJ f fd)(Jn:Fn P w K mg base 1 "_law_fits" ["_law_deed","_law_taken"] Aa)(Jc:Fn P w K mg base 1 "_law_order" ["_law_deed"] xN)(c8:mg "sorted" = none):FnOk P w K mg base CX0 4 f fd ["_law_kept"] tW:=by
 refine F.okQ fh (fun vs H Q E h=>?_) (fun cdv A outer s H vs Q E hr h=>?_)
 ·obtain⟨k,L,n,rfl,_⟩:=h;rfl
 obtain⟨k,L,n,rfl,hk,hL,hz,hn,un,q⟩:=h;refine⟨_,(b_c (aM (i:=1) fh.nd mZ)
   (b_c (aM (i:=2) fh.nd bR)
   (b_c (DZ Yr (bJ (q_v 2)) (b_c (aM (i:=2) fh.nd bR)
   (b_1 (jQ (eQ Yr rfl (gT (q_v 0)) (aL (i:=3) fh.nd) (b_1 (aZ (t_w (rq (fi hr.units (q_v 3) (q_v 1)) (nV (bJ (aF Jn (hr.mono (by decide)) (q_a (bU hr.units (q_v 0) (q_v 3)) (q_a (q_v 1) aj))))))) (b_c (jH hr.units (q_v 1) (q_v 3) (aA aC (bU hr.units (q_v 0) (q_v 3)) am))
   (b_1 (aM (i:=2) fh.nd bR))) b_0)))))))
   (b_1 (aw (BK rfl c8 Jc (hr.mono (by decide)) (q_a (sZ (bS (own:=["_law_name_here"]) (⟨rfl,by decide +kernel,by decide +kernel,rfl,⟨rfl,rfl,trivial⟩⟩:CompOk _ _ [0] ["_law_kept"]) rfl (gT (q_v 1)) (fun _ _ _ _=>aL (i:=0) (show (["_law_name_here","_law_kept"]:List Str).Nodup by decide +kernel)) (bj (by decide)) (fun _ _ _ _=>gj) (fun _ _ _ _=>(bU hr.units (q_v 1) (q_v 0))))) aj))))))),?_⟩
 try rw[cxK]
 intro t gt;have s0:=ai gt (.dT []);have nkt:k≠t:=al hk gt;refine⟨fun m σ H'=>∃(G:LT) (b:Bool) (o3:Option V),σ=[some (.ref k),some (.ref t),some (.bl b),o3]/\Same H H'/\TI n L t G H'/\m=2*iZ L (vals G)+(if b=true then 1 else 0)/\(b=false->Sat n (vals L) (vals G)),⟨_,[],true,none,rfl,s0,⟨[],af,trivial,fun k hk=>absurd hk (by simp[vals]),fun d hd=>absurd hd (by simp),.nil,by simp⟩,rfl,fun h=>nomatch h⟩,?_⟩;rintro m σ H1 ⟨G,b,o3,rfl,sm,ti,hm,hb⟩;refine⟨_,rfl,_,rfl,?_⟩;cases b with
 |true =>
  refine aK ⟨_,fun σ' H' z=>z,?_⟩;have hk1:=sm _ _ hk;refine⟨_,rfl,k,ah L,rfl,hk1,fun o=>?_⟩;have tF:TS H1 (upd H1 k (.frz o (.dT (ah L)))):=fun b zs e=>by rw[ad fun z=>by rw[z,hk1]at e;cases e];exact e
  have kF:SameT k H1 (upd H1 k (.frz o (.dT (ah L)))):=fun b u e hb=>by rw[ad hb];exact e
  have eF:upd H1 k (.frz o (.dT (ah L))) k=some (.frz o (.dT (ah L))):=af;have lk:(ah L).length=L.length:=by unfold ah;rw[Zb]
  have tiF:=ti.keep tF fun kvs e=>kF _ _ e nkt.symm;generalize upd H1 k (.frz o (.dT (ah L)))=HF at tF kF eF tiF ⊢;refine lH (a:=k) (o:=o) (kvs:=ah L) (fun j σ' H'=>∃(G':LT) (b':Bool) (o3:Option V),σ'=[some (.ref k),some (.ref t),some (.bl b'),o3]/\H' k=some (.frz o (.dT (ah L)))/\(∀b u,H1 b=some u->b≠k->b≠t->H' b=some u)/\TS H1 H'/\TI n L t G' H'/\(b'=true->iZ L (vals G')<iZ L (vals G))/\(b'=false->G'=G/\∀i y,i<j->L[i]?=some y->dq (vals G) y.2=true->y.2∈vals G))
   ⟨G,false,o3,rfl,eF,fun b u e hb _=>kF _ _ e hb,tF,tiF,(fun h=>nomatch h),fun _=>⟨rfl,fun i y hi=>absurd hi (Nat.not_lt_zero _)⟩⟩ (fun i σ H' _ z=>by obtain⟨_,_,_,_,e,_⟩:=z;exact e) ?_ ?_
  ·rintro j p bb σ H2 hj hbb ⟨G',b',o3',rfl,eF2,kp2,ts2,ti2,h1,h2⟩ DL hDL _;obtain⟨y,hy,rfl⟩:=ix hj;have my:=y8 hy;have mk:y.2∈vals L:=Zi.mpr ⟨y,my,rfl⟩;have dy:=(hL y my).ts ((Same.ts sm).trans ts2);obtain⟨c,v,d1,d2,d3,d4,d5⟩:=id dy;obtain⟨kvs,ht,kc,ch,sub,uni,lT⟩:=id ti2;have ebb:H2 bb=some (.tup ((nmK y.2).map kV)):=hbb;have dg:dN H2 t (.ref bb) (bo kvs (nmK y.2)):=.inr ⟨kvs,nmK y.2,bb,.inl ht,rfl,ebb,rfl⟩;have dk:dN H2 k (.ref bb) (some (.ref y.1)):=.inr ⟨ah L,nmK y.2,bb,.inr ⟨o,eF2⟩,rfl,ebb,(bD un my).symm⟩;have ext:∀{H4:Hp},Same H2 H4->(b'=false->dq (vals G) y.2=true->y.2∈vals G)->∃(G'':LT) (b'':Bool) (o3:Option V),[some (V.ref k),some (.ref t),some (.bl b'),some (.ref bb)]=[some (V.ref k),some (.ref t),some (.bl b''),o3]/\H4 k=some (.frz o (.dT (ah L)))/\(∀b u,H1 b=some u->b≠k->b≠t->H4 b=some u)/\TS H1 H4/\TI n L t G'' H4/\(b''=true->iZ L (vals G'')<iZ L (vals G))/\(b''=false->G''=G/\∀i y,i<j+1->L[i]?=some y->dq (vals G) y.2=true->y.2∈vals G):=fun{H4} s4 hx =>
    ⟨G',b',_,rfl,s4 _ _ eF2,fun b u e n1 n2=>s4 _ _ (kp2 b u e n1 n2),ts2.trans (Same.ts s4),ti2.keep (Same.ts s4) fun _ e=>s4 _ _ e,h1,fun hb=>⟨(h2 hb).1,fun i y' hi hy' ha=>by
     by_cases z:i=j
     ·rw[z,hy]at hy';cases hy';exact hx hb ha
     ·exact (h2 hb).2 i y' (by omega) hy' ha⟩⟩
   refine⟨_,rfl,_,rfl,t,_,rfl,dg,?_⟩;rcases kc.get (nmK y.2)with⟨hf,hv⟩|⟨e,c',hf,hv,hc'⟩
   ·refine⟨true,by rw[hv];rfl,aK ?_⟩;refine⟨_,rfl,_,rfl,k,.ref y.1,rfl,dk,_,rfl,y.1,t,y.2,kvs,vals G',rfl,dy,ht,kc,fun e he=>?_,fun H4 s4=>⟨_,rfl,?_⟩⟩
    ·obtain⟨x,hx,rfl⟩:=Zi.mp he;rw[(un.len x.2 (Zi.mpr ⟨x,sub x hx,rfl⟩)).1,(un.len _ mk).1]
    cases ha:dq (vals G') y.2 with
    |true =>
     have t4:=s4 _ _ ht;have lkv:kvs.length<=63:=by rw[kc.len,fm];omega
     have dk4:dN H4 k (.ref bb) (some (.ref y.1)):=.inr ⟨ah L,nmK y.2,bb,.inr ⟨o,s4 _ _ eF2⟩,rfl,s4 _ _ ebb,(bD un my).symm⟩;refine aK ⟨_,rfl,_,rfl,k,.ref y.1,rfl,dk4,y.1,_,_,_,rfl,rfl,SqT.of (s4 _ _ d1),at1,_,rfl,_,rfl,t,_,rfl,.inr ⟨kvs,nmK y.2,bb,t4,rfl,s4 _ _ ebb,Yn lkv (by rw[x8];decide),rfl⟩,?_⟩;have hin:inT (vals G') y.2=false:=by unfold inT;rw[hf];rfl
     have lt:=DY mk hin;have tt:TS H4 (upd H4 t (.dT (cU kvs (nmK y.2) (.ref c)))):=jV fun zs e'=>by rw[t4]at e';cases e'
     have ev:vals (G'++[y])=vals G'++[y.2]:=by unfold vals;rw[Zy];rfl
     have unG:(vals (G'++[y])).Pairwise fun d e=>nmK d≠nmK e:=by rw[ev];refine ZN.mpr ⟨uni,List.pairwise_singleton _ _,fun d hd e he z=>?_⟩;rw[Zo.mp he]at z;have:=Xh.mp hf d hd;simp[z]at this
     have subG:∀x∈G'++[y],x∈L:=fun x hx=>by
      rcases Zt.mp hx with hx|hx
      ·exact sub x hx
      ·rw[Zo.mp hx];exact my
     refine hDL _ _ ⟨G'++[y],true,_,rfl,by rw[ad nkt];exact s4 _ _ eF2,fun b u e n1 n2=>by rw[ad n2];exact s4 _ _ (kp2 b u e n1 n2),(ts2.trans (Same.ts s4)).trans tt,⟨kvs++[(nmK y.2,.ref c)],by rw[af,gF _ hv],?_,?_,subG,unG,?_⟩,fun _=>?_,(fun h=>nomatch h)⟩
     ·rw[ev];exact(KC.snoc (s4 _ _ d2) (kc.ts (Same.ts s4))).ts tt
     ·rw[ev];exact ch.snoc ((jY uni (un.len _ mk).1).mp ha)
     ·have nd:(vals (G'++[y])).Nodup:=unG.imp fun{a b} h z=>h (by rw[z]);have:=rf nd (B:=vals L) fun d hd=>by obtain⟨x,hx,rfl⟩:=Zi.mp hd;exact Zi.mpr ⟨x,subG x hx,rfl⟩
      rw[fm,fm]at this;exact this
     ·rw[ev];cases hb':b' with
      |true=>exact Nat.lt_trans lt (h1 hb')
      |false =>rw[(h2 hb').1]at lt ⊢;exact lt
    |false =>refine aE (hDL _ _ (ext s4 fun hb ht'=>?_));rw[(h2 hb).1]at ha;rw[ha]at ht';cases ht'
   ·refine⟨false,by rw[hv];rfl,aE (hDL _ _ (ext (Same.refl H2) fun hb _=>?_))⟩;have hm:=Y4 hf;have hq:=List.find?_some hf;obtain⟨x,hx,ex⟩:=Zi.mp hm;have:e=y.2:=iB un.uni (by rw[<-ex];exact Zi.mpr ⟨x,sub x hx,rfl⟩) mk (ZJ hq);rw[this,(h2 hb).1]at hm;exact hm
  ·rintro σ H2 ⟨G',b',o3',rfl,eF2,kp2,ts2,ti2,h1,h2⟩;refine⟨k,o,.dT (ah L),eF2,Loose.dt hk,?_⟩;have sm3:Same H (upd H2 k (.dT (ah L))):=fun b u e=>by
    by_cases c:b=k
    ·rw[c,af,<-hk,<-c,e]
    ·rw[ad c];exact kp2 _ _ (sm _ _ e) c (al e gt)
   have ts3:TS H2 (upd H2 k (.dT (ah L))):=fun b zs e=>by rw[ad fun z=>by rw[z,eF2]at e;cases e];exact e
   have ti3:=ti2.keep ts3 fun kvs e=>by rw[ad nkt.symm];exact e
   cases hb':b' with
   |true =>have:=h1 hb';exact⟨_,by rw[hm];show 2*iZ L (vals G')+1<_;simp;omega,G',true,o3',rfl,sm3,ti3,rfl,(fun h=>nomatch h)⟩
   |false =>obtain⟨rfl,hall⟩:=h2 hb';refine⟨2*iZ L (vals G')+0,by rw[hm];simp,G',false,o3',rfl,sm3,ti3,rfl,fun _ d hd h=>?_⟩;obtain⟨x,hx,rfl⟩:=Zi.mp hd;obtain⟨j,hj,rfl⟩:=ZG.mp hx;obtain⟨kvs,ht,kc,ch,sub,uni,lT⟩:=id ti2;exact hall j L[j] (by rw[lk];exact hj) (Zd hj) ((jY uni (un.len _ hd).1).mpr h)
 |false =>
  refine aE ?_;have sat:=hb rfl;obtain⟨kvs,ht,kc,ch,sub,uni,lG⟩:=ti;have lkv:kvs.length=G.length:=by rw[kc.len,fm]
  refine⟨_,rfl,t,kvs,rfl,ht,fun o=>?_⟩;have hk1:=sm _ _ hk;have tF:TS H1 (upd H1 t (.frz o (.dT kvs))):=fun b zs e=>by rw[ad fun z=>by rw[z,ht]at e;cases e];exact e
  have kF:SameT t H1 (upd H1 t (.frz o (.dT kvs))):=fun b u e hb=>by rw[ad hb];exact e
  have eF:upd H1 t (.frz o (.dT kvs)) t=some (.frz o (.dT kvs)):=af;have kcF:=kc.ts tF;generalize upd H1 t (.frz o (.dT kvs))=HF at tF kF eF kcF ⊢;refine gP (a:=t) (o:=o) (kvs:=kvs) (fun i ys H'=>H'=HF/\ys=aG (G.take i)/\ys.length<=i) (by omega) (fun _ _ _ z=>z.2.2) ⟨rfl,rfl,Ze _⟩ (fun i ys H' z=>by rw[z.1];exact eF) ?_ ?_
  ·rintro i ys H' kv b hkv hb ⟨rfl,rfl,ly⟩ Y hY;obtain⟨d,hd,ek⟩:=kcF.key hkv;have hd':(G.map Prod.snd)[i]?=some d:=hd;rw[ZB]at hd';obtain⟨y,hy,rfl⟩:=Ys.mp hd';have my:=sub y (y8 hy);rw[ek]at hb;refine⟨_,rfl,_,rfl,k,.ref y.1,rfl,.inr ⟨ah L,nmK y.2,b,.inl (kF _ _ hk1 nkt),rfl,hb,(bD un my).symm⟩,hY _ _ ⟨rfl,?_,?_⟩⟩
   ·rw[bW hy];unfold aG;rw[Zy];rfl
   ·rw[Zg];exact YK ly
  rintro ys l5 H' ⟨rfl,rfl,_⟩ g5;rw[lkv,Yb];have w5:=ai g5 (.lst (aG G));have n5t:l5≠t:=fun z=>by rw[z,eF]at g5;cases g5
  refine⟨t,o,.dT kvs,w5 _ _ eF,Loose.non gt,?_⟩;have sm6:Same H (upd (upd H' l5 (.lst (aG G))) t (.dT kvs)):=fun b u e=>by rw[ad (al e gt)];exact w5 _ _ (kF _ _ (sm _ _ e) (al e gt))
  have e6:upd (upd H' l5 (.lst (aG G))) t (.dT kvs) l5=some (.lst (aG G)):=by rw[ad n5t,af]
  generalize upd (upd H' l5 (.lst (aG G))) t (.dT kvs)=H6 at sm6 e6 ⊢;have drG:∀x∈G,DR H6 x.1 x.2:=fun x hx=>(hL x (sub x hx)).same sm6;refine⟨l5,aG G,G.map fun x=>ZKey.t (kyZ x.2),rfl,.inl e6,by rw[aW];omega,by rw[aW,Zb],.inr fun k hk=>?_,fun i v key H' hv hkey sm R kR=>?_,fun pm H7 D hp hls s7 _ gD=>?_⟩
  ·obtain⟨x,_,rfl⟩:=Zi.mp hk;exact⟨_,rfl,by simp[kyZ]⟩
  ·obtain⟨hi,rfl⟩:=iY hv;rw[ZB,Zd hi]at hkey;cases hkey;exact⟨_,_,rfl,(drG _ (ZA hi)).same sm,fun p' H'' s'' e''=>kR (.ref p') H'' s'' ⟨p',rfl,e''⟩⟩
  rw[aW]at hp hls;have pl:∀i∈pm.toList,i<G.length:=fun i hi=>by have:=(hp.mem_iff).mp (Array.mem_toList_iff.mp hi);simpa using this
  rw[qB pl];have uG:UN n (vals G):=⟨fun d hd=>by
   obtain⟨x,hx,rfl⟩:=Zi.mp hd;exact un.len _ (Zi.mpr ⟨x,sub x hx,rfl⟩),fun d hd=>by
   obtain⟨x,hx,rfl⟩:=Zi.mp hd;exact un.own _ (Zi.mpr ⟨x,sub x hx,rfl⟩),uni⟩
  have so:=xM (f:=Prod.snd) (z:=((0,D0):Addr×Dd)) (yk ch uG) hp (by rw[Yp]at hls;exact hls);generalize(pm.toList.map fun i=>G.getD i (0,D0))=E' at so ⊢;obtain⟨sE',pE⟩:=so;exact q D _ G E' (sm6.trans (s7.trans (ai gD (.lst (aG E'))))) ch pE sub sat sE' af
theorem Bf{a b c d:Int}(h1:HT.lexLt [a,b] [c,d]=false)(h2:HT.lexLt [c,d] [a,b]=false):[a,b]=[c,d]:=by
 rw[HT.lexLt_cons,HT.lexLt_cons,HT.lexLt_nil_nil]at h1 h2;by_cases e:a=c
 ·rw[Jv e]at h1;rw[Jv e.symm]at h2;by_cases e2:b=d
  ·rw[e,e2]
  ·rw[Ju e2]at h1;rw[Ju fun z=>e2 z.symm]at h2;have:=YJ h1;have:=YJ h2;omega
 ·rw[Ju e]at h1;rw[Ju fun z=>e z.symm]at h2;have:=YJ h1;have:=YJ h2;omega
def tY:Sp:=fun vs H Q _=>∃(a:Addr) (d:Dd) (c:Int) (n:Nat),vs=[.ref a,.int c]/\DR H a d/\Fit n d/\2<=n/\n<=8/\∀p H' e,Same H H'->DR H' p e->Fit n e->nmK e=nmK d->Q (.ref p) H'
theorem Br{g n r:Int}(g0:0<=g)(g1:g<n)(r0:0<=r)(r1:r<n-1):0<=(g+1+r)%n/\(g+1+r)%n<n/\(g+1+r)%n≠g:=by
 have o0:=Xk (g+1+r) (show n≠0 by omega);have o1:=Int.emod_lt_of_pos (g+1+r) (show(0:Int)<n by omega);refine⟨o0,o1,?_⟩;rcases Int.lt_or_le (g+1+r) n with c|c
 ·rw[Int.emod_eq_of_lt (by omega) c];omega
 ·have:(g+1+r)%n=g+1+r-n:=by rw[<-Int.sub_emod_right,Int.emod_eq_of_lt (by omega) (by omega)]
  omega
theorem EI{n k:Nat}{d:Dd}{w:Option (Int×Bool)}(f:Fit n d)(hk:k<n)(ne:k≠d.h):Fit n ⟨d.h,bu d.ns k,w⟩/\nmK ⟨d.h,bu d.ns k,w⟩=nmK d:=by
 have hl:k<d.ns.length:=by rw[f.len];exact hk
 have ec:ag (bu d.ns k) d.h=ag d.ns d.h:=by rw[fV hl,iF hl,Ju ne.symm]
 refine⟨⟨?_,f.hd,fun z hz=>?_,?_⟩,?_⟩
 ·show(bu d.ns k).length=n;rw[fV hl,Yf,f.len]
 ·have hz':z∈bu d.ns k:=hz;rw[fV hl]at hz';rcases List.mem_or_eq_of_mem_set hz' with h|rfl
  ·exact f.nn z h
  ·have:=f.nn _ (ke hl);omega
 ·show 1<=ag (bu d.ns k) d.h;rw[ec];exact f.own
 ·unfold nmK;rw[ec]
theorem at2{x y z:V}{r:List V}:atI (x::y::z::r) 2=some z:=eZ (xs:=x::y::z::r) (j:=2) rfl
abbrev ma:Stmt:=top 48
abbrev AH:List Str:=["_law_deed","_law_cell","_law_at","_law_clock"]
theorem jS:FnScope AH ["_law_deed","_law_cell"] (aq ma):=⟨rfl,rfl,rfl,by decide +kernel,rfl,by decide +kernel,by decide +kernel⟩
theorem zl{f:Addr}{fd:FuncData}(F:Fun K "_law_unlike" "_law_unlike" ma f fd)(a7:mg "len" = none):FnOk P w K mg base CX0 1 f fd ["_law_deed","_law_cell"] tY:=by
 refine F.okQ jS (fun vs H Q E h=>?_) (fun cdv A outer s H vs Q E hr h=>?_)
 ·obtain⟨a,d,c,n,rfl,_⟩:=h;rfl
 obtain⟨a,d,cz,n,rfl,hd,ft,n2,n8,q⟩:=h;obtain⟨c,v,d1,d2,d3,d4,d5⟩:=id hd;have ln:=ft.len;refine⟨_,(b_c (aZ (t_w (fR (aS eJ (aP cV (q_v 1) am) am) (eX (aS oZ (q_B bG a7 ZO (q_a (aA aC (q_v 0) am) aj)) am)))) (b_1 (aw (bA (q_a (aA aC (q_v 0) am) (q_a (aA aC (q_v 0) am) (q_a (bA (q_a dL (q_a ng (q_a (bA (q_a am aj)) (q_a dL aj))))) aj)))))) b_0)
   (b_c (aM (i:=2) jS.nd (aP cV (aP eI (aP eI (aA aC (q_v 0) am) am) (aP cV (aP gB (q_v 1) am) (aP xj (q_B bG a7 ZO (q_a (aA aC (q_v 0) am) aj)) am))) (q_B bG a7 ZO (q_a (aA aC (q_v 0) am) aj))))
   (b_c (aM (i:=3) jS.nd (aP mS (aP mS (pC jy (aA aC (q_v 0) am) sV (lX (q_v 2))) (bA (q_a (aP eI (aA aC (aA aC (q_v 0) am) (q_v 2)) am) aj))) (pC jy (aA aC (q_v 0) am) (lX (aP eI (q_v 2) am)) sV)))
   (b_1 (aw (bA (q_a (aA aC (q_v 0) am) (q_a (q_v 3) (q_a (aA aC (q_v 0) am) aj))))))))),?_⟩
 try rw[cxK]
 refine⟨_,rfl,_,_,rfl,rfl,(by show(0:Int)<2;decide),rfl,_,rfl,?_⟩;by_cases c0:V.int (cz%2)=V.int 0
 ·rw[decide_eq_true c0];refine aK ?_;refine⟨_,rfl,a,_,_,_,rfl,rfl,SqT.of d1,at0,_,rfl,a,_,_,_,rfl,rfl,SqT.of d1,at1,sz rfl,fun q1 g1=>?_⟩;have w1:=ai g1 (.tup [.int 7]);refine⟨sz rfl,fun q2 g2=>?_⟩;have w2:=ai g2 (.tup [.str "put",.non,.ref q1,.str "unlike"]);refine⟨sz rfl,fun t gt=>?_⟩;have w3:=ai gt (.tup [.int (d.h:Int),.ref c,.ref q2]);have s3:=w1.trans (w2.trans w3);refine q t _ ⟨d.h,d.ns,some (7,true)⟩ s3 ⟨c,.ref q2,af,s3 _ _ d2,⟨q2,q1,rfl,w3 _ _ af,w3 _ _ (w2 _ _ af)⟩,d4,d5⟩ ⟨ft.len,ft.hd,ft.nn,ft.own⟩ rfl
 ·rw[decide_eq_false c0];refine aE ?_;refine⟨_,rfl,a,_,_,_,rfl,rfl,SqT.of d1,at1,c,_,rfl,.inr (SqT.of d2),_,_,rfl,rfl,_,rfl,?_⟩;refine wR (fun hc=>?_) fun hc=>?_
  ·exfalso;rw[Zb]at hc;omega
  ·have lm:(d.ns.map V.int).length=n:=by rw[Zb,ln]
   refine⟨_,rfl,a,_,_,_,rfl,rfl,SqT.of d1,at0,_,_,rfl,rfl,_,rfl,_,_,rfl,rfl,⟨by decide,by decide⟩,_,rfl,a,_,_,_,rfl,rfl,SqT.of d1,at1,c,_,rfl,.inr (SqT.of d2),_,_,rfl,rfl,_,_,rfl,rfl,(by show(0:Int)<((d.ns.map V.int).length:Int)-1;omega),_,_,rfl,rfl,_,rfl,a,_,_,_,rfl,rfl,SqT.of d1,at1,c,_,rfl,.inr (SqT.of d2),_,_,rfl,rfl,(by show(0:Int)<((d.ns.map V.int).length:Int);omega),?_⟩;dsimp only;rw[lm];have hdn:=ft.hd;have r0:=Xk (cz / 2) (show(n:Int)-1≠0 by omega);have r1:=Int.emod_lt_of_pos (cz / 2) (show(0:Int)<(n:Int)-1 by omega);obtain⟨o0,o1,o2⟩:=Br (g:=(d.h:Int)) (n:=(n:Int)) (r:=cz / 2%((n:Int)-1)) (by omega) (by omega) r0 r1;generalize((d.h:Int)+1+cz / 2%((n:Int)-1))%(n:Int)=oz at o0 o1 o2 ⊢;obtain⟨k,rfl⟩:∃k:Nat,oz=(k:Int):=⟨oz.toNat,by omega⟩
   have hk:k<d.ns.length:=by omega
   have c1:cy (d.ns.map V.int) none (some (k:Int))=(d.ns.take k).map V.int:=by unfold cy;rw[Zb,HT.sIx_none,gI (by omega),Y8 (by omega),List.drop_zero,Nat.sub_zero,List.map_take,Z7]
   have c2:cy (d.ns.map V.int) (some ((k:Int)+1)) none=(d.ns.drop (k+1)).map V.int:=by unfold cy;rw[Zb,HT.sIx_none,gI (by omega),Y8 (by omega),<-List.map_drop,<-List.map_take];rw[show((k:Int)+1).toNat=k+1 by omega,y9 (by rw[Ya];exact Ze _)]
   refine⟨_,rfl,a,_,_,_,rfl,rfl,SqT.of d1,at1,_,rfl,_,rfl,c,_,rfl,d2,fun p1 H1 s1 e1=>?_⟩;rw[c1]at e1;refine⟨_,rfl,a,_,_,_,rfl,rfl,SqT.of (s1 _ _ d1),at1,_,rfl,c,_,_,_,rfl,rfl,SqT.of (s1 _ _ d2),cY hk,_,_,rfl,rfl,sz rfl,fun p2 g2=>?_⟩;have s2:=ai g2 (.tup [.int (ag d.ns k+1)]);refine⟨p1,p2,_,_,rfl,rfl,s2 _ _ e1,af,(de (by rw[Zb,ZF,ZW];omega)),fun p3 H3 s3 e3=>?_⟩;have s13:=s1.trans (s2.trans s3);refine⟨_,rfl,a,_,_,_,rfl,rfl,SqT.of (s13 _ _ d1),at1,_,rfl,_,_,rfl,rfl,_,rfl,c,_,rfl,s13 _ _ d2,fun p4 H4 s4 e4=>?_⟩;rw[c2]at e4;refine⟨p3,p4,_,_,rfl,rfl,s4 _ _ e3,e4,(de (by simp only[Zg,Zb,ZF,Ya,ZW];omega)),fun p5 H5 s5 e5=>?_⟩;have s15:=s13.trans (s4.trans s5);refine⟨_,rfl,a,_,_,_,rfl,rfl,SqT.of (s15 _ _ d1),at0,_,rfl,_,rfl,a,_,_,_,rfl,rfl,SqT.of (s15 _ _ d1),at2,sz rfl,fun t gt=>?_⟩;have w6:=ai gt (.tup [.int (d.h:Int),.ref p5,v]);obtain⟨f1,f2⟩:=EI (w:=d.w) ft (k:=k) (by omega) (by omega);refine q t _ ⟨d.h,bu d.ns k,d.w⟩ (s15.trans w6) ⟨p5,v,af,?_,d3.ts (Same.ts (s15.trans w6)),?_,?_⟩ f1 f2
   ·refine w6 _ _ (e5.trans ?_);unfold bu;rw[Zy,Zy];rfl
   ·have:=f1.hd;have e:=f1.len;show d.h<(bu d.ns k).length;have e':(bu d.ns k).length=n:=e;omega
   ·have e':(bu d.ns k).length=n:=f1.len;show(bu d.ns k).length<=8;omega
def vO(C:Addr):Sp:=fun vs H Q _=>∃(p d k a:Addr) (n:Nat) (L:LT) (e:Dd),vs=[.ref p,.ref k,.ref a]/\StoreAt C H p d n L/\H k=some (.dT (ah L))/\d≠k/\DR H a e/\Fit n e/\L.length<63/\(∀x∈L,nmK x.2≠nmK e) /\
 ∀H',(∀b o,H b=some o->b≠d->b≠k->H' b=some o)->(∀T,aI bL T (bQ bF) H->aI bL T (bQ bF) H')->StoreAt C H' p d n (L++[(a,e)])->H' k=some (.dT (ah (L++[(a,e)])))->Q (.bl true) H'
theorem C9{L:LT}{e:Dd}(hn:∀x∈L,nmK x.2≠nmK e):bo (ah L) (nmK e)=none:=by
 rw[fj];have:L.find? (fun x=>decide (nmK x.2=nmK e))=none:=by rw[Xh];intro y hy;simpa using hn y hy
 rw[this];rfl
theorem sw(L:LT)(a:Addr)(e:Dd):ah L++[(nmK e,V.ref a)]=ah (L++[(a,e)]):=by unfold ah;rw[Zy];rfl
theorem cR(L:LT):(ah L).length=L.length:=by unfold ah;rw[Zb]
abbrev pG:Stmt:=top 51
abbrev CQ:List Str:=["_law_store","_law_kept","_law_deed"]
theorem BT:FnScope CQ ["_law_store","_law_kept","_law_deed"] (aq pG):=⟨rfl,rfl,rfl,by decide +kernel,rfl,by decide +kernel,by decide +kernel⟩
theorem Bn{f C:Addr}{fd:FuncData}(F:Fun K "_law_heard" "_law_heard" pG f fd)(Iv:Fn P w K mg base 1 "_law_name" ["_law_deed"] eV)(Jo:MFn P w K mg base 8 C "hear" ["self","deed"] (Ab C)):FnOk P w K mg base CX0 9 f fd ["_law_store","_law_kept","_law_deed"] (vO C):=by
 refine F.okQ BT (fun vs H Q E h=>?_) (fun cdv A outer s H vs Q E hr h=>?_)
 ·obtain⟨p,d,k,a,n,L,e,rfl,_⟩:=h;rfl
 obtain⟨p,d,k,a,n,L,e,rfl,S,hk,ne,hd,ft,ll,hn,q⟩:=h;refine⟨_,(b_c (jH hr.units (q_v 1) (aF Iv (hr.mono (by decide)) (q_a (q_v 2) aj)) (q_v 2))
   (b_1 (aw (bX G1 (sU Jo (hr.mono (by decide)) (q_v 0) (q_a (q_v 2) aj)) bR)))),?_⟩
 try rw[cxK]
 have lk:(ah L).length<sizeLine:=by rw[cR,x8];exact Zw ll (by decide)
 refine⟨_,rfl,_,rfl,_,rfl,a,e,rfl,hd,fun t H1 s1 et=>⟨k,_,rfl,.inr ⟨ah L,nmK e,t,s1 _ _ hk,rfl,et,lk,rfl⟩,?_⟩⟩;rw[gF _ (C9 hn),sw];have k2:∀b o,H b=some o->b≠k->upd H1 k (.dT (ah (L++[(a,e)]))) b=some o:=fun b o eb hb=>by rw[ad hb];exact s1 _ _ eb
 have ts2:TS H (upd H1 k (.dT (ah (L++[(a,e)])))):=fun b zs eb=>k2 _ _ eb fun z=>by rw[z,hk]at eb;cases eb
 have tl2:∀T,aI bL T (bQ bF) H->aI bL T (bQ bF) (upd H1 k (.dT (ah (L++[(a,e)])))):=fun T tt=>eC (r:=k) (ax tt s1) (fun b o eb hb=>by rw[ad hb];exact eb) fun f hf=>by rw[s1 _ _ hk]at hf;cases hf;exact⟨fun ps e=>(by cases e),fun c e=>(by cases e)⟩
 have ek:upd H1 k (.dT (ah (L++[(a,e)]))) k=some (.dT (ah (L++[(a,e)]))):=af;generalize upd H1 k (.dT (ah (L++[(a,e)])))=H2 at k2 ts2 tl2 ek ⊢;have S2:StoreAt C H2 p d n L:=by obtain⟨⟨dx,h1⟩,h2,h3,h4,h5,h6,h7⟩:=S;exact⟨⟨dx,k2 _ _ h1 fun z=>by rw[z,hk]at h1;cases h1⟩,k2 _ _ h2 ne,fun y hy=>(h3 y hy).ts ts2,h4,h5,h6,h7⟩
 obtain⟨⟨dx,h1⟩,_⟩:=id S2;refine⟨_,rfl,p,dx,_,rfl,h1,oX _ _,_,rfl,p,d,a,n,L,e,rfl,S2,hd.ts ts2,ft,.inl ⟨ll,hn,fun H3 s3 S3=>⟨_,_,rfl,rfl,?_⟩⟩⟩;exact q H3 (fun b o eb n1 n2=>s3 _ _ (k2 _ _ eb n2) n1) (fun T tt=>mj S2 (tl2 T tt) s3) S3 (s3 _ _ ek fun z=>ne z.symm)
structure TwR(K:PySem.W.Frag)(cT:Addr)(bT:List Value):Prop where
 eT:ExC K cT bT
 kT:ExK K cT
 dT:PySem.W.hasDictIn K cT=true
 aT:NoAttr K cT "name"
theorem D8(c:Addr)(b:List Value):(Value.ref c::b).contains (.ref c)=true:=by simp
def Ah(C:Addr):Sp:=fun vs H Q _=>∃(p d a:Addr) (n:Nat) (L:LT) (e:Dd),vs=[.ref p,.ref a]/\StoreAt C H p d n L/\DR H a e/\Fit n e/\(∃x∈L,nmK x.2=nmK e/\x.2≠e)/\∀H',Same H H'->Q (.bl true) H'
abbrev tH:Stmt:=top 52
abbrev Ew:List Str:=["_law_store","_law_deed","_law_told","e"]
theorem kK:FnScope Ew ["_law_store","_law_deed"] (aq tH):=⟨rfl,rfl,rfl,by decide +kernel,rfl,by decide +kernel,by decide +kernel⟩
theorem Dl{f C cT:Addr}{fd:FuncData}{bT bn:List Value}(F:Fun K "_law_twin" "_law_twin" tH f fd)(t0:MFnX P w K mg base 8 C "hear" ["self","deed"] (pU C cT))(R:TwR K cT bT)(Js:ExC K cT bn)(w9:mg "Twin" = some (.ref cT))(Iv:Fn P w K mg base 1 "_law_name" ["_law_deed"] eV):FnOk P w K mg base CX0 9 f fd ["_law_store","_law_deed"] (Ah C):=by
 refine F.okQ kK (fun vs H Q E h=>?_) (fun cdv A outer s H vs Q E hr h=>?_)
 ·obtain⟨p,d,a,n,L,e,rfl,_⟩:=h;rfl
 obtain⟨p,d,a,n,L,e,rfl,S,hd,ft,hx,q⟩:=h;obtain⟨⟨dx,h1⟩,_⟩:=id S;refine⟨_,(b_c (aM (i:=2) kK.nd ng)
   (b_c (zS rfl rfl (Ed (Av t0 (hr.mono (by decide)) (q_v 0) (q_a (q_v 1) aj))) (GS (i:=3) kK.nd Js w9 (fun _=>(b_1 (aM (i:=2) kK.nd (DV (K:=K) rfl (q_v 3)))))))
   (b_1 (aw (bX (E7 hr.units) (q_v 2) (aF Iv (hr.mono (by decide)) (q_a (q_v 1) aj))))))),?_⟩
 try rw[cxK]
 refine⟨_,rfl,p,dx,_,rfl,h1,oX _ _,_,rfl,p,d,a,n,L,e,rfl,S,hd,ft,.inr (.inr ⟨hx,fun H1 t dd s1 et ed=>?_⟩)⟩;refine⟨cT,bT,rfl,R.eT,D8 _ _,fun ea he=>?_⟩;have we:=ai he (exD ea cT (some dd));refine⟨_,rfl,ea,cT,dd,_,.ref t,rfl,af,we _ _ ed,R.kT,R.dT,R.aT,rfl,?_⟩;have s2:=s1.trans we;refine⟨_,rfl,_,rfl,a,e,rfl,hd.same s2,fun t2 H3 s3 et2=>⟨t,t2,nmZ e,nmZ e,rfl,rfl,s3 _ _ (we _ _ et),et2,?_⟩⟩;rw[decide_eq_true (Eq.refl (nmZ e))];exact q H3 (s2.trans s3)
theorem DX{n:Nat}{L L' M G E':LT}(u:UN n (vals L))(pL:L'.Perm L)(rd:RDY L M)(cG:Ch n (vals G))(pE:E'.Perm G)(sG:∀x∈G,x∈L')(sat:Sat n (vals L') (vals G))(so:(vals E').Pairwise kLt):vals M=vals E':=by
 obtain⟨uM,cM,sM,oM⟩:=jE u rd;have eL:∀d,d∈vals L'↔d∈vals L:=fun d=>(pL.map Prod.snd).mem_iff;have sub1:∀ d∈vals M,d∈vals G:=nJ cM (fun d hd=>by
  obtain⟨x,hx,rfl⟩:=Zi.mp hd;exact (eL _).mpr (Zi.mpr ⟨x,rd.sub x hx,rfl⟩)) sat
 have sub2:∀ d∈vals G,d∈vals M:=nJ cG (fun d hd=>by
  obtain⟨x,hx,rfl⟩:=Zi.mp hd;exact (eL _).mp (Zi.mpr ⟨x,sG x hx,rfl⟩)) sM
 have nd1:(vals M).Nodup:=uM.uni.imp fun{a b} h e=>h (by rw[e]);have nd2:(vals E').Nodup:=so.imp fun{a b} h e=>by subst e;exact oR h h
 have eE:∀d,d∈vals E'↔d∈vals G:=fun d=>(pE.map Prod.snd).mem_iff;have pm:(vals M).Perm (vals E'):=(List.perm_ext_iff_of_nodup nd1 nd2).mpr fun d=>⟨fun h=>(eE d).mpr (sub1 d h),fun h=>sub2 d ((eE d).mp h)⟩
 exact zX oM so pm
def eM(E':LT)(x:Addr×Dd):Bool:=!(((vals E').map dD).any fun d=>PyData.eqv d (dD x.2))
theorem Bt{E':LT}{x:Addr×Dd}:eM E' x=false↔x.2∈vals E':=by
 unfold eM;rw[Bool.not_eq_false',List.any_eq_true];constructor
 ·rintro⟨z,hz,h⟩;obtain⟨d,hd,rfl⟩:=Zi.mp hz;rw[<-Cf h];exact hd
 ·intro h;exact⟨_,Zi.mpr ⟨x.2,h,rfl⟩,SeqAt.eqv_refl _ (ko (d:=x.2) trivial).1⟩
theorem Bs{n:Nat}{L M:LT}(u:UN n (vals L))(sub:∀x∈M,x∈L){x:Addr×Dd}(hx:x∈L):au M x=false↔x.2∈vals M:=by
 rw[fH,Bool.not_eq_false'];constructor
 ·intro h;obtain⟨y,hy,e⟩:=Zi.mp (ZJ h);rw[<-jB u (sub y hy) hx (dj.mp e)];exact Zi.mpr ⟨y,hy,rfl⟩
 ·intro h;obtain⟨y,hy,e⟩:=Zi.mp h;exact decide_eq_true (Zi.mpr ⟨y,hy,by rw[<-e]⟩)
theorem B8{n:Nat}{L L' M E' N B:LT}(u:UN n (vals L))(pL:L'.Perm L)(ev:vals M=vals E')(sub:∀x∈M,x∈L)(wt:Wt L M N)(pB:B.Perm (L'.filter (eM E')))(sB:B.Pairwise fun x y=>HT.lexLt (nmZ y.2) (nmZ x.2)=false):N=B:=by
 have e1:L.filter (au M)=L.filter (eM E'):=List.filter_congr fun x hx=>by
  have h1:=Bs u sub hx;have h2:=Bt (E':=E') (x:=x);rw[ev]at h1;cases c1:au M x<;>cases c2:eM E' x
  ·rfl
  ·rw[c1]at h1;rw[c2]at h2;exact absurd (h2.mpr (h1.mp rfl)) (by decide)
  ·rw[c1]at h1;rw[c2]at h2;exact absurd (h1.mpr (h2.mp rfl)) (by decide)
  ·rfl
 have pN:N.Perm B:=(wt.1.trans (by rw[e1];exact(pL.filter _).symm)).trans pB.symm;refine List.Perm.eq_of_pairwise (le:=fun x y:Addr×Dd=>HT.lexLt (nmZ y.2) (nmZ x.2)=false) (fun a b ha hb h k=>?_) wt.2 sB pN;have hbL:b∈L:=wt.sub b (pN.mem_iff.mpr hb);exact jB u (wt.sub a ha) hbL (dj.mp (Bf k h))
def vK(C T:Addr):Sp:=fun vs H Q _=>∃(p d k:Addr) (n:Nat) (L L':LT),vs=[.ref p,.ref k]/\StoreAt C H p d n L/\H k=some (.dT (ah L'))/\L'.Perm L/\aI bL T (bQ bF) H/\∀H',KT H H'->aI bL T (bQ bF) H'->Q (.bl true) H'
theorem qD{d:PyData}(h1:d.canLay0=true)(h2:d.depth<=10):SeqAt.shaped d=true:=by unfold SeqAt.shaped;rw[Zz];exact⟨h1,decide_eq_true (by omega)⟩
theorem vD{H:Hp}{l:Addr}{ys:List V}{ks:List (List Int)}(e:H l=some (.lst ys))(x:NsI H ys ks):Dt H (.list (ks.map fun k=>PyData.tuple (k.map .int))) (.ref l)/\PyData.canLay0 (.list (ks.map fun k=>PyData.tuple (k.map .int)))=true/\PyData.depth (.list (ks.map fun k=>PyData.tuple (k.map .int)))<=6:=by
 obtain⟨h1,h2,h3⟩:=Cr x;refine⟨?_,by simpa[PyData.canLay0]using h2,?_⟩
 ·simp only[Dt];exact⟨l,_,rfl,.inl e,h1⟩
 ·simp only[PyData.depth];omega
abbrev lY:Stmt:=top 53
abbrev AE:List Str:=["_law_store","_law_kept","_law_due","_law_left"]
theorem jR:FnScope AE ["_law_store","_law_kept"] (aq lY):=⟨rfl,rfl,rfl,by decide +kernel,rfl,by decide +kernel,by decide +kernel⟩
theorem zi{f C T:Addr}{fd:FuncData}(F:Fun K "_law_as_due" "_law_as_due" lY f fd)(Jd:Fn P w K mg base 4 "_law_ready" ["_law_kept"] tW)(d7:MFn P w K mg base 6 C "ready" ["self"] (gO C T))(i7:MFn P w K mg base 7 C "waiting" ["self"] (tZ C T))(c8:mg "sorted" = none):FnOk P w K mg base CX0 8 f fd ["_law_store","_law_kept"] (vK C T):=by
 refine F.okQ jR (fun vs H Q E h=>?_) (fun cdv A outer s H vs Q E hr h=>?_)
 ·obtain⟨p,d,k,n,L,L',rfl,_⟩:=h;rfl
 obtain⟨p,d,k,n,L,L',rfl,S,hk,pL,tab,q⟩:=h;have lL:L'.length=L.length:=pL.length_eq;have l63:=S.len;have uL':UN n (vals L'):=S.un.perm (pL.symm.map Prod.snd);have dr':∀x∈L',DR H x.1 x.2:=fun x hx=>S.dr x (pL.mem_iff.mp hx);refine⟨_,(b_c (aM (i:=2) jR.nd (aF Jd (hr.mono (by decide)) (q_a (q_v 1) aj)))
   (b_c (aM (i:=3) jR.nd (q_B uX c8 PyProof.Rows.boot_sorted (q_a (sZ (bS (own:=["_law_name_here"]) (⟨rfl,by decide +kernel,by decide +kernel,rfl,⟨rfl,rfl,⟨rfl,rfl,trivial⟩⟩⟩:CompOk _ _ [1,2] ["_law_kept","_law_due"]) rfl (gT (q_v 1)) (fun _ _ _ _=>aL (i:=0) (show (["_law_name_here","_law_kept","_law_due"]:List Str).Nodup by decide +kernel)) (bj (by decide)) (fun _ _ _ _=>(oJ (aS (qA (K:=K) (k:=1) rfl (hr.mono (by decide))) (bU hr.units (q_v 1) (q_v 0)) (q_v 2)))) (fun _ _ _ _=>(q_v 0)))) aj)))
   (b_1 (aw (cu (bX (Cs hr.units) (dX d7 (hr.mono (by decide)) (q_v 0)) (q_v 2)) (cw (bX (Cs hr.units) (dX i7 (hr.mono (by decide)) (q_v 0)) (q_v 3)))))))),?_⟩
 try rw[cxK]
 refine aN fun R0 hR0=>?_;refine⟨_,rfl,k,L',n,rfl,hk,dr',by omega,S.n8,uL',fun D H1 G E' s1 cG pE sG sat so eD=>hR0 _ _ ?_⟩;clear hR0 R0;have lE:LR H1 D E':=⟨eD,fun x hx=>(dr' x (sG x (pE.mem_iff.mp hx))).same s1⟩
 have hk1:=s1 _ _ hk;refine aN fun R0 hR0=>?_;refine⟨_,rfl,k,ah L',rfl,hk1,fun o=>?_⟩;have tF:TS H1 (upd H1 k (.frz o (.dT (ah L')))):=fun b zs e=>by rw[ad fun z=>by rw[z,hk1]at e;cases e];exact e
 have kF:SameT k H1 (upd H1 k (.frz o (.dT (ah L')))):=fun b u e hb=>by rw[ad hb];exact e
 have eF:upd H1 k (.frz o (.dT (ah L'))) k=some (.frz o (.dT (ah L'))):=af;have nDk:D≠k:=fun z=>by rw[z,hk1]at eD;cases eD
 have eDF:=kF _ _ eD nDk;have drF:∀x∈E',DR (upd H1 k (.frz o (.dT (ah L')))) x.1 x.2:=fun x hx=>(lE.2 x hx).ts tF;have drL:∀x∈L',DR (upd H1 k (.frz o (.dT (ah L')))) x.1 x.2:=fun x hx=>((dr' x hx).same s1).ts tF;generalize upd H1 k (.frz o (.dT (ah L')))=HF at tF kF eF eDF drF drL ⊢;refine gP (a:=k) (o:=o) (kvs:=ah L') (fun i ys H'=>H'=HF/\ys.length<=i/\NsI HF ys (aY ((L'.take i).filter (eM E')))) (by rw[cR];omega) (fun _ _ _ z=>z.2.1) ⟨rfl,Ze _,.nil⟩ (fun i ys H' z=>by rw[z.1];exact eF) ?_ ?_
 ·rintro i ys H' kv b hkv hb ⟨rfl,ly,py⟩ Y hY;obtain⟨y,hy,rfl⟩:=ix hkv;have my:=y8 hy;have eb:H' b=some (.tup ((nmZ y.2).map V.int)):=hb;refine⟨_,rfl,_,rfl,k,.ref y.1,rfl,.inr ⟨ah L',nmK y.2,b,.inr ⟨o,eF⟩,rfl,eb,(bD uL' my).symm⟩,_,rfl,D,_,_,_,rfl,SqL.of eDF,(drL y my).dt,rX drF,cK _,(kn fun d _=>trivial).1,_,rfl,?_⟩;have tk:aY ((L'.take (i+1)).filter (eM E'))=aY ((L'.take i).filter (eM E'))++if eM E' y=true then[nmZ y.2]else[]:=by
   rw[bW hy,Yo];unfold aY;rw[Zy];congr 1;by_cases c:eM E' y=true
   ·rw[Jv c,Yk c];rfl
   ·rw[Ju c,Yl c];rfl
  cases c:eM E' y with
  |true =>have c':(!(((vals E').map dD).any fun d=>PyData.eqv d (dD y.2)))=true:=c;rw[c'];refine aK ⟨_,rfl,hY _ _ ⟨rfl,by rw[Zg];exact YK ly,?_⟩⟩;rw[tk,c,Jv rfl];exact Paired.snoc py ⟨b,rfl,eb⟩
  |false =>have c':(!(((vals E').map dD).any fun d=>PyData.eqv d (dD y.2)))=false:=c;rw[c'];refine aE (hY _ _ ⟨rfl,YS ly,?_⟩);rw[tk,c,Ju (by decide),Zx];exact py
 rintro ys l5 H' ⟨rfl,ly,py⟩ g5;rw[cR,Yb]at py;rw[cR]at ly;have w5:=ai g5 (.lst ys);have n5k:l5≠k:=fun z=>by rw[z,eF]at g5;cases g5
 refine⟨k,o,.dT (ah L'),w5 _ _ eF,Loose.dt hk,?_⟩;have t5:TS H' (upd (upd H' l5 (.lst ys)) k (.dT (ah L'))):=fun b zs e=>by rw[ad fun z=>by rw[z,eF]at e;cases e];exact w5 _ _ e
 have k5:Same H1 (upd (upd H' l5 (.lst ys)) k (.dT (ah L'))):=fun b u e=>by
  by_cases c:b=k
  ·rw[c,af,<-hk1,<-c,e]
  ·rw[ad c];exact w5 _ _ (kF _ _ e c)
 have e6:upd (upd H' l5 (.lst ys)) k (.dT (ah L')) l5=some (.lst ys):=by rw[ad n5k,af]
 have py6:=py.ts t5;generalize upd (upd H' l5 (.lst ys)) k (.dT (ah L'))=H6 at t5 k5 e6 py6 ⊢;obtain⟨as,rfl,la,ha⟩:=Cq py6;have lf:(L'.filter (eM E')).length=as.length:=by rw[<-la];unfold aY;rw[Zb]
 have lf2:=y0 (eM E') L';refine⟨l5,as,aY (L'.filter (eM E')),rfl,e6,by omega,la,fun z hz=>?_,ha,fun pm D2 hp hs gD2=>hR0 _ _ ?_⟩
 ·obtain⟨x,_,rfl⟩:=Zi.mp hz;exact fun z=>by cases z
 clear hR0 R0;obtain⟨B,pB,nB,sB⟩:=tL lf ha hp hs;have wD:=ai gD2 (.lst (pm.toList.map fun i=>(as.map V.ref).getD i .non));have eD2:upd H6 D2 (.lst (pm.toList.map fun i=>(as.map V.ref).getD i .non)) D2=some (.lst (pm.toList.map fun i=>(as.map V.ref).getD i .non)):=af;have nB7:=NsI.ts nB (Same.ts wD);have s7:=s1.trans (k5.trans wD);have lE7:=lE.same (k5.trans wD);generalize upd H6 D2 (.lst (pm.toList.map fun i=>(as.map V.ref).getD i .non))=H7 at eD2 nB7 s7 lE7 ⊢;generalize(pm.toList.map fun i=>(as.map V.ref).getD i .non)=bs at eD2 nB7;have S7:=S.same s7;have tab7:=ax tab s7;obtain⟨⟨dx,h1⟩,_⟩:=id S7;refine⟨_,rfl,p,dx,_,rfl,h1,iX _ _,p,d,n,L,rfl,S7,tab7,fun D3 H8 M rd sT8 tab8 eD3 _=>?_⟩;have k8:=KT.tab tab7 sT8;have ev:=DX S.un pL rd cG pE sG sat so;have S8:=S7.kt k8;have lM8:LR H8 D3 M:=⟨eD3,fun x hx=>S8.dr x (rd.sub x hx)⟩
 have lE8:=k8.lr lE7;have dE:=lE8.dt;rw[<-ev]at dE;refine⟨_,rfl,_,_,lM8.dt,dE,nF lM8.ok,nF lM8.ok,_,rfl,?_⟩;rw[C2 lM8.ok];refine aK ?_;obtain⟨⟨dx8,h8⟩,_⟩:=id S8;refine⟨_,rfl,p,dx8,_,rfl,h8,mR _ _,p,d,n,L,rfl,S8,tab8,fun D4 H9 M' N zs rd' wt sT9 tab9 eD4 nz _=>?_⟩;have k9:=KT.tab tab8 sT9;obtain rfl:=zL S.un rd rd';obtain rfl:=B8 S.un pL ev rd.sub wt pB sB;obtain⟨a1,a2,a3⟩:=vD eD4 nz;obtain⟨b1,_,_⟩:=vD (ks:=aY N) ((k8.trans k9) _ _ eD2 (fun ps z=>by cases z)) (nB7.ts (k8.trans k9).ts);refine⟨_,rfl,_,_,a1,b1,qD a2 (by omega),qD a2 (by omega),?_⟩;rw[SeqAt.eqv_refl _ a2];exact q H9 ((KT.of s7).trans (k8.trans k9)) tab9
structure Two(C:Addr)(H:Hp)(o1 d1 o2 d2 k1 k2:Addr)(n:Nat)(L1 L2 K1 K2:LT):Prop where
 s1:StoreAt C H o1 d1 n L1
 s2:StoreAt C H o2 d2 n L2
 m1:H k1=some (.dT (ah K1))
 m2:H k2=some (.dT (ah K2))
 p1:K1.Perm L1
 p2:K2.Perm L2
 f1:∀x∈L1,Fit n x.2
 f2:∀x∈L2,Fit n x.2
theorem Two.kt{C:Addr}{H H':Hp}{o1 d1 o2 d2 k1 k2:Addr}{n:Nat}{L1 L2 K1 K2:LT}(x:Two C H o1 d1 o2 d2 k1 k2 n L1 L2 K1 K2)(s:KT H H'):Two C H' o1 d1 o2 d2 k1 k2 n L1 L2 K1 K2 :=
 ⟨x.s1.kt s,x.s2.kt s,s _ _ x.m1 (fun ps z=>by cases z),s _ _ x.m2 (fun ps z=>by cases z),x.p1,x.p2,x.f1,x.f2⟩
structure Ne4(d1 d2 k1 k2:Addr):Prop where
 dd:d1≠d2
 a1:d1≠k1
 a2:d1≠k2
 b1:d2≠k1
 b2:d2≠k2
 kk:k1≠k2
def KP2(d k:Addr)(H H':Hp):Prop:=∀b o,H b=some o->b≠d->b≠k->H' b=some o
theorem KP2.ts{d k:Addr}{H H':Hp}{r r':List (List Key×V)}(s:KP2 d k H H')(hd:H d=some (.dT r))(hk:H k=some (.dT r')):TS H H':=fun b zs e=>s _ _ e (fun z=>by rw[z,hd]at e;cases e) fun z=>by rw[z,hk]at e;cases e
theorem KP2.store{C d k p d':Addr}{H H':Hp}{n:Nat}{L:LT}{r r':List (List Key×V)}(s:KP2 d k H H')(hd:H d=some (.dT r))(hk:H k=some (.dT r'))(x:StoreAt C H p d' n L)(n1:d'≠d)(n2:d'≠k):StoreAt C H' p d' n L:=by obtain⟨⟨dx,h1⟩,h2,h3,h4,h5,h6,h7⟩:=x;exact⟨⟨dx,s _ _ h1 (fun z=>by rw[z,hd]at h1;cases h1) fun z=>by rw[z,hk]at h1;cases h1⟩,s _ _ h2 n1 n2,fun y hy=>(h3 y hy).ts (s.ts hd hk),h4,h5,h6,h7⟩
theorem KP2.lst{d k a:Addr}{H H':Hp}{xs:List V}{r r':List (List Key×V)}(s:KP2 d k H H')(hd:H d=some (.dT r))(hk:H k=some (.dT r'))(e:H a=some (.lst xs)):H' a=some (.lst xs):=s _ _ e (fun z=>by rw[z,hd]at e;cases e) fun z=>by rw[z,hk]at e;cases e
theorem KP2.rows{d k p:Addr}{H H':Hp}{vs:List V}{L:LT}{r r':List (List Key×V)}(s:KP2 d k H H')(hd:H d=some (.dT r))(hk:H k=some (.dT r'))(x:LW H p vs L):LW H' p vs L :=
 ⟨s.lst hd hk x.1,Paired.mapP x.2 fun _ _ (z:RwAt _ _ _)=>by
  obtain⟨b,m,h1,h2,h3⟩:=z;exact⟨b,m,h1,s.lst hd hk h2,h3.ts (s.ts hd hk)⟩⟩
theorem Two.add1{C:Addr}{H H':Hp}{o1 d1 o2 d2 k1 k2 a:Addr}{n:Nat}{L1 L2:LT}{e:Dd}(x:Two C H o1 d1 o2 d2 k1 k2 n L1 L2 L1 L2)(ne:Ne4 d1 d2 k1 k2)(s:KP2 d1 k1 H H')(S:StoreAt C H' o1 d1 n (L1++[(a,e)]))(m:H' k1=some (.dT (ah (L1++[(a,e)]))))(ft:Fit n e):Two C H' o1 d1 o2 d2 k1 k2 n (L1++[(a,e)]) L2 (L1++[(a,e)]) L2 :=
 ⟨S,s.store x.s1.dc x.m1 x.s2 ne.dd.symm ne.b1,m,s _ _ x.m2 ne.a2.symm ne.kk.symm,.refl _,.refl _,fun y hy=>by
  rcases Zt.mp hy with hy|hy
  ·exact x.f1 y hy
  ·rw[Zo.mp hy];exact ft,x.f2⟩
theorem Two.add2{C:Addr}{H H':Hp}{o1 d1 o2 d2 k1 k2 a:Addr}{n:Nat}{L1 L2:LT}{e:Dd}(x:Two C H o1 d1 o2 d2 k1 k2 n L1 L2 L1 L2)(ne:Ne4 d1 d2 k1 k2)(s:KP2 d2 k2 H H')(S:StoreAt C H' o2 d2 n (L2++[(a,e)]))(m:H' k2=some (.dT (ah (L2++[(a,e)]))))(ft:Fit n e):Two C H' o1 d1 o2 d2 k1 k2 n L1 (L2++[(a,e)]) L1 (L2++[(a,e)]) :=
 ⟨s.store x.s2.dc x.m2 x.s1 ne.dd ne.a2,S,s _ _ x.m1 ne.b1.symm ne.kk,m,.refl _,.refl _,x.f1,fun y hy=>by
  rcases Zt.mp hy with hy|hy
  ·exact x.f2 y hy
  ·rw[Zo.mp hy];exact ft⟩
def NmIn(A B:LT):Prop:=∀x∈A,∃y∈B,nmK y.2=nmK x.2
theorem NmIn.mono{A B:LT}{i:Nat}(h:NmIn A (B.take i)):NmIn A (B.take (i+1)):=fun x hx=>by obtain⟨y,hy,e⟩:=h x hx;exact⟨y,(List.take_sublist_take_left (Nat.le_succ i)).subset hy,e⟩
theorem NmIn.snoc{A B:LT}{i:Nat}{y:Addr×Dd}{a:Addr}{e:Dd}(h:NmIn A (B.take i))(hy:B[i]?=some y)(he:nmK e=nmK y.2):NmIn (A++[(a,e)]) (B.take (i+1)):=fun x hx=>by
 rcases Zt.mp hx with hx|hx
 ·exact h.mono x hx
 ·rw[Zo.mp hx];exact⟨y,by rw[bW hy];exact ZD _ (Zo.mpr rfl),he.symm⟩
theorem jA{n:Nat}{A B:LT}{i:Nat}{y:Addr×Dd}{e:Dd}(u:UN n (vals B))(h:NmIn A (B.take i))(hy:B[i]?=some y)(he:nmK e=nmK y.2):∀x∈A,nmK x.2≠nmK e:=fun x hx z=>by obtain⟨y',hy',e'⟩:=h x hx;obtain⟨j,hj,rfl⟩:=ZG.mp hy';obtain⟨hi,rfl⟩:=ZH.mp hy;rw[ZF]at hj;rw[x6]at e';have uu:=u.uni;unfold vals at uu;rw[Z8]at uu;exact Zu.mp uu j i (by omega) hi (by omega) (e'.trans (z.trans he))
theorem qz{n:Nat}{L:LT}(u:UN n (vals L)):(aY L).Nodup:=by have uu:=u.uni;unfold vals at uu;rw[Z8]at uu;unfold aY;rw[Ym,Z8];exact uu.imp fun{a b} h e=>h (dj.mp e)
theorem rL{n:Nat}{L1 L2 B:LT}(u1:UN n (vals L1))(u2:UN n (vals L2))(h1:NmIn L1 B)(h2:NmIn L2 B):(L1++L2.filter (au L1)).length<=B.length:=by
 have nd:(aY (L1++L2.filter (au L1))).Nodup:=by
  have e:aY (L1++L2.filter (au L1))=aY L1++aY (L2.filter (au L1)):=by unfold aY;rw[Zy]
  rw[e];refine List.nodup_append.mpr ⟨qz u1,(qz u2).sublist (List.filter_sublist.map _),fun a ha b hb z=>?_⟩;obtain⟨x,hx,rfl⟩:=Zi.mp hb;have:=(ZL.mp hx).2;have z':a=nmZ x.2:=z;unfold au at this;rw[show decide (nmZ x.2∈aY L1)=true from decide_eq_true (by rw[<-z'];exact ha)]at this;cases this
 have:=rf nd (B:=aY B) fun z hz=>by
  obtain⟨x,hx,rfl⟩:=Zi.mp hz;obtain⟨y,hy,e⟩:∃y∈B,nmK y.2=nmK x.2:=by
   rcases Zt.mp hx with hx|hx
   ·exact h1 x hx
   ·exact h2 x (ZL.mp hx).1
  exact Zi.mpr ⟨y,hy,dj.mpr e⟩
 unfold aY at this;rw[Zb,Zb]at this;exact this
theorem vE{A B:LT}(h:NmIn A B):A.filter (au B)=[]:=YV.mpr fun x hx c=>by obtain⟨y,hy,e⟩:=h x hx;rw[fH,show inB B x=true from decide_eq_true (Zi.mpr ⟨y,hy,dj.mpr e⟩)]at c;cases c
theorem GW{B:LT}{x:Addr×Dd}(h:au B x=false):∃y∈B,nmK y.2=nmK x.2:=by rw[fH,Bool.not_eq_false']at h;obtain⟨y,hy,e⟩:=Zi.mp (ZJ h);exact⟨y,hy,dj.mp e⟩
theorem qw{L1 L2 X1 X2:LT}(h1:X1.Perm (L2.filter (au L1)))(h2:X2.Perm (L1.filter (au L2))):NmIn (L2++X2) (L1++X1):=fun x hx=>by
 rcases Zt.mp hx with hx|hx
 ·cases c:au L1 x with
  |true=>exact⟨x,ZD _ (h1.mem_iff.mpr (ZL.mpr ⟨hx,c⟩)),rfl⟩
  |false =>obtain⟨y,hy,e⟩:=GW c;exact⟨y,Z5 _ hy,e⟩
 ·exact⟨x,Z5 _ (ZL.mp (h2.mem_iff.mp hx)).1,rfl⟩
theorem oU(S:LT)(y:Addr×Dd):(!(bo (ah S) (nmK y.2)).isSome)=au S y:=by
 rw[fj,Option.isSome_map];unfold au;congr 1;rw[YG,List.find?_isSome,YE];constructor
 ·rintro⟨x,hx,e⟩;exact Zi.mpr ⟨x,hx,dj.mpr (ZJ e)⟩
 ·intro h;obtain⟨x,hx,e⟩:=Zi.mp h;exact⟨x,hx,decide_eq_true (dj.mp e)⟩
theorem uh{a:Addr}{ob:Obj}{A S:LT}{n:Nat}{cap:List Nat}{g:TG}{tc:TT}{te:TE}{σ:St}{HF:Hp}{Q:VK}(la:A.length<=100)(ha:HF a=some (.frz ob (.dT (ah A))))(ht:∀(y:Addr×Dd) (b:Addr),HF b=some (.tup ((nmK y.2).map kV))->∀ys (Z:List V->Hp->Prop),(if au S y=true then Z (ys++[.ref b]) HF else Z ys HF)->g (.ref b) (be n cap σ) HF fun σ2 H2=>tc σ2 H2 fun b H3=>if b=true then te σ2 H3 fun y H4=>Z (ys++[y]) H4 else Z ys H3)(hq:∀ys p,ys.length=(A.filter (au S)).length->HF p=none->Q (.ref p) (upd HF p (.lst ys))):bV n cap g tc te σ (ItD ob a) HF Q:=by
 refine gP (a:=a) (o:=ob) (kvs:=ah A) (fun i ys H'=>H'=HF/\ys.length<=i/\ys.length=((A.take i).filter (au S)).length) (by rw[cR];omega) (fun _ _ _ z=>z.2.1) ⟨rfl,Ze _,rfl⟩ (fun i ys H' z=>by rw[z.1];exact ha) ?_ ?_
 ·rintro i ys H' kv b hkv hb ⟨rfl,ly,py⟩ Y hY;obtain⟨y,hy,rfl⟩:=ix hkv;refine ht y b hb ys Y ?_;have tk:((A.take (i+1)).filter (au S)).length=((A.take i).filter (au S)).length+if au S y=true then 1 else 0:=by
   rw[bW hy,Yo,Zg];congr 1;cases c:au S y with
   |true=>rw[Jv rfl,Yk c];rfl
   |false=>rw[Ju (by decide),Yl (by rw[c];decide)];rfl
  cases c:au S y with
  |true =>rw[Jv rfl];refine hY _ _ ⟨rfl,by rw[Zg];exact YK ly,?_⟩;rw[tk,c,Jv rfl,Zg,py];rfl
  |false =>rw[Ju (by decide)];refine hY _ _ ⟨rfl,YS ly,?_⟩;rw[tk,c,Ju (by decide),py];rfl
 ·rintro ys p H' ⟨rfl,ly,py⟩ gp;rw[cR,Yb]at py;exact hq ys p py gp
theorem iO{H:Hp}{a:Addr}{ob:Obj}{u:HO}(h:H a=some u):∀b o,H b=some o->b≠a->upd H a (.frz ob u) b=some o:=fun b o e hb=>by rw[ad hb];exact e
theorem vG{L Z:LT}{y:Addr×Dd}(hn:∀x∈Z,nmK x.2≠nmK y.2):(bo (ah (L++Z)) (nmK y.2)=none↔au L y=true)/\(au L y=true->cU (ah (L++Z)) (nmK y.2) (.ref y.1)=ah (L++(Z++[y]))):=by
 have e:au (L++Z) y=au L y:=by
  rw[fH,fH];unfold inB aY;rw[Zy];congr 1;rw[decide_eq_decide,Zt];constructor
  ·rintro(h|h)
   ·exact h
   ·obtain⟨x,hx,e⟩:=Zi.mp h;exact absurd (dj.mp e) (hn x hx)
  ·exact .inl
 have kv:=oU (L++Z) y;rw[e]at kv;have i:bo (ah (L++Z)) (nmK y.2)=none↔au L y=true:=by rw[<-kv];cases bo (ah (L++Z)) (nmK y.2)<;>simp
 refine⟨i,fun h=>?_⟩;rw[gF _ (i.mpr h),sw,ZI]
theorem A7{x q:Str}{st:Stmt}{f c T:Addr}{fd:FuncData}(a:PySem.W.nsIn K mainGlobals x=some (some (.ref f)))(F:Fun K x q st f fd)(t:PySem.W.tabIn K x=some (c,T)):fd.code=.ref c:=by obtain⟨oc,od,kV,dc,pm,an,cd,ct,sl,rfl,l0,c0⟩:=id F.ex;exact B3 a l0 t
theorem KT.seq{H H':Hp}{a:Addr}{xs:List V}(s:KT H H')(h:SqL K H a xs):SqL K H' a xs:=by
 rcases h with(h|⟨o,h⟩)|h
 ·exact .inl (.inl (s _ _ h fun ps z=>by cases z))
 ·exact .inl (.inr ⟨o,s _ _ h fun ps z=>by cases z⟩)
 ·exact .inr h
def rj(K:PySem.W.Frag)(T:Addr):Sp:=fun vs H Q _=>∃(a:Addr) (ns:List Int),vs=[.ref a]/\SqL K H a (ns.map V.int)/\ns.length<=63/\H T=some (.tbl #[])/\∀H',Q (.bl true) H'
theorem ED{ns:List Int}(h:ns.length<=63):∃cs:List Int,cy (ns.map V.int) (some 2) (some 62)=cs.map V.int/\cs.length<=60:=by
 refine⟨(ns.drop (HT.sIx (ns.map V.int).length 0 (some 2))).take (HT.sIx (ns.map V.int).length (ns.map V.int).length (some 62)-HT.sIx (ns.map V.int).length 0 (some 2)),?_,?_⟩
 ·unfold cy;rw[List.map_take,List.map_drop]
 ·rw[ZF,Ya,Zb,gI (by decide),gI (by decide)];have:(2:Int).toNat=2:=rfl;have:(62:Int).toNat=62:=rfl;omega
theorem jT{H HF HG:Hp}{a:Addr}{u:HO}(h:H a=some u)(e1:∀b o,H b=some o->b≠a->HF b=some o)(w:Same HF HG):Same H (upd HG a u):=fun b o e=>by
 by_cases c:b=a
 ·rw[c,af,<-h,<-c,e]
 ·rw[ad c];exact w _ _ (e1 _ _ e c)
theorem zr{α β:Type}{R:α->β->Prop}{xs:List α}{ys:List β}(x:Paired R xs ys):∀{i:Nat} {b:β},ys[i]?=some b->∃a,xs[i]?=some a/\R a b:=by
 induction x with
 |nil=>intro i a h;simp at h
 |cons r _ ih =>
  intro i a h;cases i with
  |zero=>cases h;exact⟨_,rfl,r⟩
  |succ i=>exact ih h
theorem vY{n:Nat}{A:LT}{i:Nat}{y:Addr×Dd}(u:UN n (vals A))(hy:A[i]?=some y):∀x∈A.take i,nmK x.2≠nmK y.2:=jA (A:=A.take i) (B:=A) u (fun x hx=>⟨x,hx,rfl⟩) hy rfl
theorem qk{A S:LT}{i:Nat}{y:Addr×Dd}(hy:A[i]?=some y):(A.take (i+1)).filter (au S)=(A.take i).filter (au S)++if au S y=true then[y]else[]:=by
 rw[bW hy,Yo];congr 1;cases c:au S y with
 |true=>rw[Jv rfl,Yk c];rfl
 |false=>rw[Ju (by decide),Yl (by rw[c];decide)];rfl
theorem KD.lst{d1 d2 a:Addr}{H H':Hp}{xs:List V}{r r':List (List Key×V)}(s:KD d1 d2 H H')(h1:H d1=some (.dT r))(h2:H d2=some (.dT r'))(e:H a=some (.lst xs)):H' a=some (.lst xs):=s _ _ e (fun ps z=>by cases z) (fun z=>by rw[z,h1]at e;cases e) fun z=>by rw[z,h2]at e;cases e
theorem ve{n:Nat}{L1 L2 X1:LT}(h:X1.Perm (L2.filter (au L1)))(f1:∀x∈L1,Fit n x.2)(f2:∀x∈L2,Fit n x.2):∀x∈L1++X1,Fit n x.2:=fun x hx=>by
 rcases Zt.mp hx with hx|hx
 ·exact f1 x hx
 ·exact f2 x (ZL.mp (h.mem_iff.mp hx)).1
theorem yA{L1 L2:LT}:(L2++L1.filter (au L2)).filter (au L1)=L2.filter (au L1):=by
 rw[Yo];have:(L1.filter (au L2)).filter (au L1)=[]:=by rw[List.filter_filter];refine YV.mpr fun x hx c=>?_;rw[Zz]at c;have:=Bu L1;rw[YV]at this;exact this x hx c.1
 rw[this,Zx]
abbrev kI:Stmt:=top 54
abbrev GJ:List Str:=["_law_script","_law_hands","_law_deeds_here","_law_one","_law_other","_law_mine","_law_theirs","_law_cell","_law_k","_law_deed","_law_way","_law_there","_law_lacks","_law_others","_law_name_here"]
theorem bE:FnScope GJ ["_law_script"] (aq kI):=⟨rfl,rfl,rfl,by decide +kernel,rfl,by decide +kernel,by decide +kernel⟩
theorem E9{f CS T:Addr}{fd:FuncData}(F:Fun K "law" "law" kI f fd)(v5:Fn P w K mg base 1 "_law_cell_at" ["_law_script","_law_k"] (zZ K))(Je:Fn P w K mg base 1 "_law_deeds" ["_law_cells","_law_hands"] vN)(IA:MkFn P w K mg base 1 CS "Store" ["self","hands"] (Ac CS))(IQ:Fn P w K mg base 1 "_law_unlike" ["_law_deed","_law_cell"] tY)(t7:Fn P w K mg base 9 "_law_heard" ["_law_store","_law_kept","_law_deed"] (vO CS))(IH:Fn P w K mg base 11 "meet" ["one","other"] (Ad CS T))(IY:Fn P w K mg base 9 "_law_twin" ["_law_store","_law_deed"] (Ah CS))(IB:Fn P w K mg base 8 "_law_as_due" ["_law_store","_law_kept"] (vK CS T))(e9:mg "range" = none)(a7:mg "len" = none)(i9:mg "list" = none):FnOk P w K mg base CX0 12 f fd ["_law_script"] (rj K T):=by
 refine F.okQ bE (fun vs H Q E h=>?_) (fun cdv A outer s H vs Q E hr h=>?_)
 ·obtain⟨a,ns,rfl,_⟩:=h;rfl
 obtain⟨a,sc,rfl,hS,hlen,hT,hq⟩:=h;refine⟨_,(b_c (aM (i:=1) bE.nd (aP eI am (aP cV (aF v5 (hr.mono (by decide)) (q_a (q_v 0) (q_a am aj))) am)))
   (b_c (aM (i:=2) bE.nd (aF Je (hr.mono (by decide)) (q_a (pC EY (q_v 0) (lX am) (lX am)) (q_a (q_v 1) aj))))
   (b_c (aM (i:=3) bE.nd (zE IA (hr.mono (by decide)) (q_a (q_v 1) aj)))
   (b_c (aM (i:=4) bE.nd (zE IA (hr.mono (by decide)) (q_a (q_v 1) aj)))
   (b_c (aM (i:=5) bE.nd mZ)
   (b_c (aM (i:=6) bE.nd mZ)
   (b_c (aM (i:=7) bE.nd (aF v5 (hr.mono (by decide)) (q_a (q_v 0) (q_a am aj))))
   (b_c (eQ Yr rfl (jt e9 (q_a (q_B bG a7 ZO (q_a (q_v 2) aj)) aj)) (aL (i:=8) bE.nd) (b_c (xC (aA dH (q_v 2) (q_v 8)) (GR rfl (hJ (aL (i:=9) bE.nd) (hJ (aL (i:=10) bE.nd) sh))))
   (b_1 (aZ (t_w (fR (aS eJ (q_v 8) (aP cV (aP gB (q_v 7) am) (q_B bG a7 ZO (q_a (q_v 2) aj)))) (eX (t_w (rq (aS eJ (q_v 8) (aP eI (aP cV (aP gB (q_v 7) am) am) am)) (nV (aS eJ (aP cV (q_v 7) am) am))))))) (b_c (aM (i:=11) bE.nd (kH (q_a (q_v 9) (q_a (aF IQ (hr.mono (by decide)) (q_a (q_v 9) (q_a (q_v 7) aj))) aj))))
   (b_c (zQ (aZ (aS jC (q_v 8) (aP cV (aP gB (q_v 7) am) (q_B bG a7 ZO (q_a (q_v 2) aj)))) (b_1 (aM (i:=11) bE.nd (Hk (q_v 11) (Id Hv am)))) b_0))
   (b_1 (aZ (t_w (fR (bY (bJ (aF t7 (hr.mono (by decide)) (q_a (q_v 3) (q_a (q_v 5) (q_a (aA dH (q_v 11) am) aj)))))) (eX (bY (bJ (aF t7 (hr.mono (by decide)) (q_a (q_v 4) (q_a (q_v 6) (q_a (aA dH (q_v 11) am) aj))))))))) (b_1 (aw bR)) b_0)))) (b_c (aZ (t_w (rq (aS jC (q_v 10) am) (nV (bY (bJ (aF t7 (hr.mono (by decide)) (q_a (q_v 3) (q_a (q_v 5) (q_a (q_v 9) aj))))))))) (b_1 (aw bR)) b_0)
   (b_1 (aZ (t_w (rq (aS jC (q_v 10) am) (nV (bY (bJ (aF t7 (hr.mono (by decide)) (q_a (q_v 4) (q_a (q_v 6) (q_a (q_v 9) aj))))))))) (b_1 (aw bR)) b_0)))))))
   (b_c (jQ (zR (j:=12) bE.nd (own:=["_law_name_here"]) (⟨rfl,by decide +kernel,by decide +kernel,rfl,⟨rfl,rfl,trivial⟩⟩:CompOk _ _ [5] ["_law_mine"]) rfl (gT (q_v 6)) (fun _ _ _ _=>aL (i:=0) (show (["_law_name_here","_law_mine"]:List Str).Nodup by decide +kernel)) (bj (by decide)) (fun _ _ _ _=>(oJ (fi hr.units (q_v 0) (q_v 1)))) (fun _ _ _ _=>(q_v 0))))
   (b_c (jQ (zR (j:=13) bE.nd (own:=["_law_name_here"]) (⟨rfl,by decide +kernel,by decide +kernel,rfl,⟨rfl,rfl,trivial⟩⟩:CompOk _ _ [6] ["_law_theirs"]) rfl (gT (q_v 5)) (fun _ _ _ _=>aL (i:=0) (show (["_law_name_here","_law_theirs"]:List Str).Nodup by decide +kernel)) (bj (by decide)) (fun _ _ _ _=>(oJ (fi hr.units (q_v 0) (q_v 1)))) (fun _ _ _ _=>(q_v 0))))
   (b_c (aZ (aS (mT hr.units) (aF IH (hr.mono (by decide)) (q_a (q_v 3) (q_a (q_v 4) aj))) (bA (q_a (q_B bG a7 ZO (q_a (q_v 12) aj)) (q_a (q_B bG a7 ZO (q_a (q_v 13) aj)) aj)))) (b_1 (aw bR)) b_0)
   (b_c (eQ Yr rfl (fE (sQ (CY rfl) i9 jn (q_a (q_v 5) aj))) (aL (i:=14) bE.nd) (b_1 (nj (sW hr.units (q_v 6) (q_v 14) (bU hr.units (q_v 5) (q_v 14))))))
   (b_c (jQ (eQ Yr rfl (gT (q_v 6)) (aL (i:=14) bE.nd) (b_1 (nj (sW hr.units (q_v 5) (q_v 14) (bU hr.units (q_v 6) (q_v 14)))))))
   (b_c (aZ (t_w (fR (aS (mT hr.units) (aF IH (hr.mono (by decide)) (q_a (q_v 3) (q_a (q_v 4) aj))) (bA (q_a am (q_a am aj)))) (eX (aS (mT hr.units) (aF IH (hr.mono (by decide)) (q_a (q_v 4) (q_a (q_v 3) aj))) (bA (q_a am (q_a am aj))))))) (b_1 (aw bR)) b_0)
   (b_c (jQ (eQ Yr rfl (gT (q_v 5)) (aL (i:=14) bE.nd) (b_1 (aZ (aS (xi hr.units) (bU hr.units (q_v 5) (q_v 14)) (bU hr.units (q_v 6) (q_v 14))) (b_1 (aZ (t_w (fR (bY (bJ (aF IY (hr.mono (by decide)) (q_a (q_v 3) (q_a (bU hr.units (q_v 6) (q_v 14)) aj))))) (eX (bY (bJ (aF IY (hr.mono (by decide)) (q_a (q_v 4) (q_a (bU hr.units (q_v 5) (q_v 14)) aj)))))))) (b_1 (aw bR)) b_0)) b_0))))
   (b_1 (aw (cu (aF IB (hr.mono (by decide)) (q_a (q_v 3) (q_a (q_v 5) aj))) (cw (aF IB (hr.mono (by decide)) (q_a (q_v 4) (q_a (q_v 6) aj)))))))))))))))))))))),?_⟩
 try rw[cxK]
 refine aN fun R0 hR0=>?_;refine⟨_,rfl,a,sc,0,rfl,hS,by decide,_,_,rfl,rfl,(by show(0:Int)<4;decide),_,_,rfl,rfl,hR0 _ _ ?_⟩;clear hR0 R0;have m0:=Xk (ag sc (0:Int).toNat) (show(4:Int)≠0 by decide);have m1:=Int.emod_lt_of_pos (ag sc (0:Int).toNat) (show(0:Int)<4 by decide);dsimp only;generalize ag sc (0:Int).toNat%4=h0 at m0 m1 ⊢;obtain⟨n,hn⟩:∃n:Nat,(n:Int)=2+h0:=⟨(2+h0).toNat,by omega⟩
 rw[<-hn];have n2:2<=n:=by omega
 have n5:n<=5:=by omega
 clear m0 m1 hn;have tab0:aI bL T (bQ bF) H:=⟨#[],hT,trivial,.inl rfl⟩
 obtain⟨cs,ecs,lcs⟩:=ED hlen;refine aN fun R0 hR0=>?_;refine⟨_,rfl,_,rfl,_,rfl,a,_,rfl,hS,fun p0 g0=>?_⟩;rw[ecs];have w0:=ai g0 (.lst (cs.map V.int));refine⟨_,rfl,p0,cs,(n:Int),rfl,af,lcs,by omega,by omega,fun p H1 rv Ls s1 lw un ft ll=>hR0 _ _ ?_⟩;clear hR0 R0;rw[Z7]at un ft;have s01:=w0.trans s1;have S1:=KT.seq (.of s01) hS;have tab1:=ax tab0 s01;clear w0 g0 s1 hS hT tab0 ecs;refine aN fun R0 hR0=>?_;refine⟨_,rfl,?_⟩;intro o1 dx1 nx1 ndx1 nex1;refine⟨o1,dx1,n,rfl,af,by omega,by omega,fun d1 H2 fd1 St1 kp1=>⟨rfl,hR0 _ _ ?_⟩⟩;clear hR0 R0;have s2:Same H1 H2:=fun b o e=>kp1 b o (by rw[ad (al e nx1),ad (al e ndx1)];exact e) (al e nx1);have lw2:=lw.same s2;have S2:=KT.seq (.of s2) S1;have tab2:=ax tab1 s2;have sH2:=s01.trans s2;clear kp1 fd1 nx1 ndx1 nex1 lw S1 tab1 s2 s01;refine aN fun R0 hR0=>?_;refine⟨_,rfl,?_⟩;intro o2 dx2 nx2 ndx2 nex2;refine⟨o2,dx2,n,rfl,af,by omega,by omega,fun d2 H3 fd2 St2 kp2=>⟨rfl,hR0 _ _ ?_⟩⟩;clear hR0 R0;have s3:Same H2 H3:=fun b o e=>kp2 b o (by rw[ad (al e nx2),ad (al e ndx2)];exact e) (al e nx2);have gd2:H2 d2=none:=by
  cases e:H2 d2 with
  |none=>rfl
  |some u =>rw[ad (al e nx2),ad (al e ndx2),e]at fd2;cases fd2
 have ndd:d1≠d2:=al St1.dc gd2;have St13:=St1.same s3;have lw3:=lw2.same s3;have S3:=KT.seq (.of s3) S2;have tab3:=ax tab2 s3;have sH3:=sH2.trans s3;clear kp2 fd2 nx2 ndx2 nex2 lw2 S2 tab2 s3 St1 gd2 sH2;refine aN fun R0 hR0=>?_;intro k1 gk1;refine hR0 _ _ ?_;clear hR0 R0;have s4:=ai gk1 (.dT []);have na1:d1≠k1:=al St13.dc gk1;have nb1:d2≠k1:=al St2.dc gk1;have em1:upd H3 k1 (.dT []) k1=some (.dT (ah [])):=af;have lw4:=lw3.same s4;have S4:=KT.seq (.of s4) S3;have tab4:=ax tab3 s4;have St14:=St13.same s4;have St24:=St2.same s4;have fk1:=sH3.free gk1;have sH4:=sH3.trans s4;generalize upd H3 k1 (.dT [])=H4 at em1 lw4 S4 tab4 St14 St24 sH4 gk1 ⊢;clear s4 sH3 lw3 S3 tab3 St13 St2 gk1;refine aN fun R0 hR0=>?_;intro k2 gk2;refine hR0 _ _ ?_;clear hR0 R0;have s5:=ai gk2 (.dT []);have ne4:Ne4 d1 d2 k1 k2:=⟨ndd,na1,al St14.dc gk2,nb1,al St24.dc gk2,al em1 gk2⟩
 have lw5:=lw4.same s5;have S5:=KT.seq (.of s5) S4;have tab5:=ax tab4 s5;have T5:Two CS (upd H4 k2 (.dT [])) o1 d1 o2 d2 k1 k2 n [] [] [] []:=⟨St14.same s5,St24.same s5,s5 _ _ em1,af,.nil,.nil,fun x hx=>(nomatch hx),fun x hx=>(nomatch hx)⟩
 have fk2:=sH4.free gk2;generalize upd H4 k2 (.dT [])=H5 at lw5 S5 tab5 T5 ⊢;clear s5 sH4 lw4 S4 tab4 St14 St24 em1 gk2 ndd na1 nb1;refine aN fun R0 hR0=>?_;refine⟨_,rfl,a,sc,1,rfl,S5,by decide,hR0 _ _ ?_⟩;clear hR0 R0 S5;generalize ag sc (1:Int).toNat=cz;have lrv:rv.length=Ls.length:=YL lw5.2;have lLs:Ls.length<=60:=by omega
 refine aN fun R0 hR0=>?_;refine⟨_,rfl,p,_,rfl,.inl (SqL.of lw5.1),_,rfl,by omega,by omega,?_⟩;refine wJ (lo:=0) (fun i σ H'=>(∃o8 o9 o10 o11,σ=[some (.ref a),some (.int (n:Int)),some (.ref p),some (.ref o1),some (.ref o2),some (.ref k1),some (.ref k2),some (.int cz),o8,o9,o10,o11,none,none,none])/\aI bL T (bQ bF) H'/\LW H' p rv Ls/\∃L1 L2,Two CS H' o1 d1 o2 d2 k1 k2 n L1 L2 L1 L2/\NmIn L1 (Ls.take i)/\NmIn L2 (Ls.take i)/\L1.length<=i/\L2.length<=i)
  ⟨⟨none,none,none,none,rfl⟩,tab5,lw5,[],[],T5,(fun x hx=>(nomatch hx)),(fun x hx=>(nomatch hx)),Ze _,Ze _⟩ ?_ ?_
 ·rintro i σ H' hi ⟨⟨o8,o9,o10,o11,rfl⟩,tb,lw,L1,L2,Tw,i1,i2,l1,l2⟩ DL hDL;have hi':i<rv.length:=by have:i<((rv.length:Nat):Int).toNat:=hi;omega
  obtain⟨y,hy,b,wy,eb0,hb,dy⟩:=mX lw.2 (Zd hi');have iz:(0:Int)+(i:Int)=(i:Int):=Int.zero_add _;have aty:atI rv (0+(i:Int))=some (.ref b):=by rw[iz];exact eZ (by rw[Zd hi',eb0])
  have my:=y8 hy;have fy:Fit n y.2:=ft y.2 (Zi.mpr ⟨y,my,rfl⟩);refine⟨_,rfl,_,rfl,p,_,_,_,rfl,rfl,SqL.of lw.1,aty,b,_,rfl,SqL.of hb,rfl,_,_,rfl,_,_,rfl,rfl,?_⟩;clear aty eb0;have lrp:(0:Int)<((rv.length:Nat):Int):=by omega
  refine⟨_,rfl,_,rfl,_,_,rfl,rfl,⟨by decide,by decide⟩,_,rfl,p,_,rfl,.inl (SqL.of lw.1),_,_,rfl,rfl,lrp,rfl,_,rfl,wS (fun c1=>?tA) fun c1=>?_⟩
  rotate_left
  refine⟨_,rfl,_,rfl,_,_,rfl,rfl,⟨by decide,by decide⟩,_,_,rfl,rfl,(by show(0:Int)<5;decide),_,_,rfl,rfl,rfl,_,rfl,wS (fun c2=>?_) fun c2=>?oA⟩;refine⟨_,rfl,_,_,rfl,rfl,(by show(0:Int)<3;decide),rfl,_,rfl,wS (fun c3=>?tB) fun c3=>?oB⟩
  case tA|tB =>
   first
    |refine aN fun R1 hR1=>?_
    |refine aK (aN fun R1 hR1=>?_)
   refine⟨_,rfl,_,rfl,_,rfl,y.1,y.2,cz,n,rfl,dy,fy,n2,by omega,fun pu H6 eu s6 du fu nu=>?_⟩;refine⟨sz rfl,fun tl gtl=>hR1 _ _ ?_⟩;clear hR1 R1;have w7:=s6.trans (ai gtl (.lst [.ref y.1,.ref pu]));have etl:upd H6 tl (.lst [.ref y.1,.ref pu]) tl=some (.lst [.ref y.1,.ref pu]):=af;have Tw7:=Tw.kt (.of w7);have lw7:=lw.same w7;have tb7:=ax tb w7;have dy7:=dy.same w7;have du7:=du.same (ai gtl (.lst [.ref y.1,.ref pu]));generalize upd H6 tl (.lst [.ref y.1,.ref pu])=H7 at etl Tw7 lw7 tb7 dy7 du7 ⊢;clear w7 s6 gtl du dy lw tb Tw hb;refine⟨fun σ' H8=>∃(th z0 z1:Addr) (e0 e1:Dd),σ'=[some (.ref a),some (.int (n:Int)),some (.ref p),some (.ref o1),some (.ref o2),some (.ref k1),some (.ref k2),some (.int cz),some (.int (0+(i:Int))),some (.ref y.1),some (.int wy),some (.ref th),none,none,none]/\Same H7 H8/\H8 th=some (.lst [.ref z0,.ref z1])/\DR H8 z0 e0/\DR H8 z1 e1/\Fit n e0/\Fit n e1/\nmK e0=nmK y.2/\nmK e1=nmK y.2,?_,?_⟩
   ·refine⟨_,rfl,_,rfl,_,_,rfl,rfl,⟨by decide,by decide⟩,_,rfl,p,_,rfl,.inl (SqL.of lw7.1),_,_,rfl,rfl,lrp,rfl,_,rfl,?_⟩;by_cases c4:V.int (0+(i:Int))=V.int (cz / 16%((rv.length:Nat):Int))
    ·refine gU c4 ?_;exact⟨tl,y.1,pu,y.2,eu,rfl,Same.refl _,etl,dy7,du7,fy,fu,rfl,nu⟩
    ·have hne:(!decide (V.int (0+(i:Int))=V.int (cz / 16%((rv.length:Nat):Int))))=true:=by rw[decide_eq_false c4];rfl
     rw[hne];refine aK ⟨_,rfl,_,rfl,rfl,tl,_,rfl,SqL.of etl,fun wr gwr=>?_⟩;have ww:=ai gwr (.lst [.ref pu,.ref y.1]);exact⟨wr,pu,y.1,eu,y.2,rfl,ww,af,du7.same ww,dy7.same ww,fu,fy,nu,rfl⟩
   rintro σ' H8 ⟨th,z0,z1,e0,e1,rfl,s8,eth,dz0,dz1,f0,f1,m0,m1⟩;have Tw8:=Tw7.kt (.of s8);have lw8:=lw7.same s8;have tb8:=ax tb7 s8;clear Tw7 lw7 tb7 dy7 du7 etl s8;refine⟨_,rfl,_,rfl,_,rfl,th,_,_,_,rfl,rfl,SqL.of eth,at0,o1,d1,k1,z0,n,L1,e0,rfl,Tw8.s1,Tw8.m1,ne4.a1,dz0,f0,by omega,jA un i1 hy m0,fun H9 kp9 tl9 S9 m9=>⟨_,rfl,aE ?_⟩⟩;have Tw9:=Tw8.add1 ne4 kp9 S9 m9 f0;have ts9:=KP2.ts kp9 Tw8.s1.dc Tw8.m1;have eth9:=KP2.lst kp9 Tw8.s1.dc Tw8.m1 eth;have lw9:=KP2.rows kp9 Tw8.s1.dc Tw8.m1 lw8;have tb9:=tl9 T tb8;refine⟨_,rfl,_,rfl,_,rfl,th,_,_,_,rfl,rfl,SqL.of eth9,at1,o2,d2,k2,z1,n,L2,e1,rfl,Tw9.s2,Tw9.m2,ne4.b2,dz1.ts ts9,f1,by omega,jA un i2 hy m1,fun HA kpA tlA SA mA=>⟨_,rfl,?_⟩⟩;have TwA:Two CS HA o1 d1 o2 d2 k1 k2 n (L1++[(z0,e0)]) (L2++[(z1,e1)]) (L1++[(z0,e0)]) (L2++[(z1,e1)]):=Two.add2 Tw9 ne4 kpA SA mA f1;have lwA:=KP2.rows kpA Tw9.s2.dc Tw9.m2 lw9;exact hDL _ _ ⟨⟨_,_,_,_,rfl⟩,tlA T tb9,lwA,_,_,TwA,i1.snoc hy m0,i2.snoc hy m1,by rw[Zg];exact YK l1,by rw[Zg];exact YK l2⟩
  case oA|oB =>
   first
    |refine aN fun R1 hR1=>?_
    |refine aE (aN fun R1 hR1=>?_)
   have go2:∀ (o11:Option V) (H6:Hp) (L1':LT),aI bL T (bQ bF) H6->LW H6 p rv Ls->Two CS H6 o1 d1 o2 d2 k1 k2 n L1' L2 L1' L2->NmIn L1' (Ls.take (i+1))->L1'.length<=i+1->DR H6 y.1 y.2->R1.nx [some (.ref a),some (.int (n:Int)),some (.ref p),some (.ref o1),some (.ref o2),some (.ref k1),some (.ref k2),some (.int cz),some (.int (0+(i:Int))),some (.ref y.1),some (.int wy),o11,none,none,none] H6:=fun o11 H6 L1' tb6 lw6 Tw6 j1 q1 dy6=>hR1 _ _ (by
    refine⟨_,rfl,rfl,_,rfl,?_⟩;by_cases c4:V.int wy=V.int 2
    ·refine gU c4 ?_;exact hDL _ _ ⟨⟨_,_,_,_,rfl⟩,tb6,lw6,L1',L2,Tw6,j1,i2.mono,q1,YS l2⟩
    ·have hne:(!decide (V.int wy=V.int 2))=true:=by rw[decide_eq_false c4];rfl
     rw[hne];refine aK ?_;refine⟨_,rfl,_,rfl,_,rfl,o2,d2,k2,y.1,n,L2,y.2,rfl,Tw6.s2,Tw6.m2,ne4.b2,dy6,fy,by omega,jA un i2 hy rfl,fun H9 kp9 tl9 S9 m9=>⟨_,rfl,?_⟩⟩;have Tw9:Two CS H9 o1 d1 o2 d2 k1 k2 n L1' (L2++[(y.1,y.2)]) L1' (L2++[(y.1,y.2)]):=Two.add2 Tw6 ne4 kp9 S9 m9 fy;exact hDL _ _ ⟨⟨_,_,_,_,rfl⟩,tl9 T tb6,KP2.rows kp9 Tw6.s2.dc Tw6.m2 lw6,_,_,Tw9,j1,i2.snoc hy rfl,q1,by rw[Zg];exact YK l2⟩)
   refine⟨_,rfl,rfl,_,rfl,?_⟩;by_cases c4:V.int wy=V.int 1
   ·refine gU c4 ?_;exact go2 _ _ L1 tb lw Tw i1.mono (YS l1) dy
   ·have hne:(!decide (V.int wy=V.int 1))=true:=by rw[decide_eq_false c4];rfl
    rw[hne];refine aK ?_;refine⟨_,rfl,_,rfl,_,rfl,o1,d1,k1,y.1,n,L1,y.2,rfl,Tw.s1,Tw.m1,ne4.a1,dy,fy,by omega,jA un i1 hy rfl,fun H9 kp9 tl9 S9 m9=>⟨_,rfl,?_⟩⟩;have Tw9:Two CS H9 o1 d1 o2 d2 k1 k2 n (L1++[(y.1,y.2)]) L2 (L1++[(y.1,y.2)]) L2:=Two.add1 Tw ne4 kp9 S9 m9 fy;exact go2 _ _ _ (tl9 T tb) (KP2.rows kp9 Tw.s1.dc Tw.m1 lw) Tw9 (i1.snoc hy rfl) (by rw[Zg];exact YK l1) (dy.ts (KP2.ts kp9 Tw.s1.dc Tw.m1))
 rintro σ H6 ⟨⟨o8,o9,o10,o11,rfl⟩,tab6,_,L1,L2,Tw,i1,i2,l1,l2⟩;refine hR0 _ _ ?_;clear hR0 R0 T5 tab5;have j1:NmIn L1 Ls:=fun x hx=>by obtain⟨y,hy,e⟩:=i1 x hx;exact⟨y,YA hy,e⟩
 have j2:NmIn L2 Ls:=fun x hx=>by obtain⟨y,hy,e⟩:=i2 x hx;exact⟨y,YA hy,e⟩
 have b1:=rL Tw.s1.un Tw.s2.un j1 j2;have b2:=rL Tw.s2.un Tw.s1.un j2 j1;have l1':L1.length<=60:=by have:L1.length<=((rv.length:Nat):Int).toNat:=l1;omega
 have l2':L2.length<=60:=by have:L2.length<=((rv.length:Nat):Int).toNat:=l2;omega
 clear i1 i2 j1 j2 l1 l2 lw5;refine aN fun R0 hR0=>?_;refine⟨_,rfl,k2,ah L2,rfl,Tw.m2,fun ob=>?_⟩;have e1:=iO (ob:=ob) Tw.m2;have eF:upd H6 k2 (.frz ob (.dT (ah L2))) k2=some (.frz ob (.dT (ah L2))):=af;have eg:=e1 _ _ Tw.m1 ne4.kk;generalize upd H6 k2 (.frz ob (.dT (ah L2)))=HF at e1 eF eg ⊢;refine uh (S:=L1) (by omega) eF ?_ ?_
 ·intro y b eb ys Z hZ;refine⟨_,rfl,_,rfl,k1,_,rfl,.inr ⟨_,nmK y.2,b,.inl eg,rfl,eb,rfl⟩,_,rfl,?_⟩;rw[oU];cases c:au L1 y with
  |true=>rw[c,Jv rfl]at hZ;exact aK ⟨_,rfl,hZ⟩
  |false=>rw[c,Ju (by decide)]at hZ;exact aE hZ
 intro ys q1 ny gq1;have w1:=ai gq1 (.lst ys);have nq1:q1≠k2:=fun z=>by rw[z,eF]at gq1;cases gq1
 refine⟨k2,ob,.dT (ah L2),w1 _ _ eF,Loose.non fk2,hR0 _ _ ?_⟩;clear hR0 R0;have s7:=jT Tw.m2 e1 w1;have eq1:upd (upd HF q1 (.lst ys)) k2 (.dT (ah L2)) q1=some (.lst ys):=by rw[ad nq1,af]
 have Tw7:=Tw.kt (.of s7);have tab7:=ax tab6 s7;generalize upd (upd HF q1 (.lst ys)) k2 (.dT (ah L2))=H7 at s7 eq1 Tw7 tab7 ⊢;clear e1 eF eg w1 nq1 gq1 s7 Tw tab6;refine aN fun R0 hR0=>?_;refine⟨_,rfl,k1,ah L1,rfl,Tw7.m1,fun ob2=>?_⟩;have e1:=iO (ob:=ob2) Tw7.m1;have eF:upd H7 k1 (.frz ob2 (.dT (ah L1))) k1=some (.frz ob2 (.dT (ah L1))):=af;have eg:=e1 _ _ Tw7.m2 ne4.kk.symm;generalize upd H7 k1 (.frz ob2 (.dT (ah L1)))=HF at e1 eF eg ⊢;refine uh (S:=L2) (by omega) eF ?_ ?_
 ·intro y b eb ys Z hZ;refine⟨_,rfl,_,rfl,k2,_,rfl,.inr ⟨_,nmK y.2,b,.inl eg,rfl,eb,rfl⟩,_,rfl,?_⟩;rw[oU];cases c:au L2 y with
  |true=>rw[c,Jv rfl]at hZ;exact aK ⟨_,rfl,hZ⟩
  |false=>rw[c,Ju (by decide)]at hZ;exact aE hZ
 intro zs q2 nz gq2;have w1:=ai gq2 (.lst zs);have nq2:q2≠k1:=fun z=>by rw[z,eF]at gq2;cases gq2
 refine⟨k1,ob2,.dT (ah L1),w1 _ _ eF,Loose.non fk1,hR0 _ _ ?_⟩;clear hR0 R0;have s8:=jT Tw7.m1 e1 w1;have eq2:upd (upd HF q2 (.lst zs)) k1 (.dT (ah L1)) q2=some (.lst zs):=by rw[ad nq2,af]
 have eq18:=s8 _ _ eq1;have Tw8:=Tw7.kt (.of s8);have tab8:=ax tab7 s8;generalize upd (upd HF q2 (.lst zs)) k1 (.dT (ah L1))=H8 at eq18 eq2 Tw8 tab8 ⊢;clear e1 eF eg w1 nq2 gq2 s8 Tw7 tab7 eq1;refine aN fun R0 hR0=>?_;refine⟨_,rfl,_,rfl,o1,d1,o2,d2,n,L1,L2,rfl,Tw8.s1,Tw8.s2,tab8,ne4.dd,Tw8.f1,Tw8.f2,by omega,by omega,fun t X1 X2 H9 x1 x2 kd tab9 St1 St2 et=>?_⟩;have m1:H9 k1=some (.dT (ah L1)):=kd _ _ Tw8.m1 (fun ps z=>by cases z) ne4.a1.symm ne4.b1.symm;have m2:H9 k2=some (.dT (ah L2)):=kd _ _ Tw8.m2 (fun ps z=>by cases z) ne4.a2.symm ne4.b2.symm;have eq19:=kd.lst Tw8.s1.dc Tw8.s2.dc eq18;have eq29:=kd.lst Tw8.s1.dc Tw8.s2.dc eq2;refine⟨_,rfl,q1,_,rfl,.inl (SqL.of eq19),_,rfl,q2,_,rfl,.inl (SqL.of eq29),sz rfl,fun u gu=>?_⟩;have wu:=ai gu (.tup [.int ((ys.length:Nat):Int),.int ((zs.length:Nat):Int)]);refine⟨t,u,_,[((ys.length:Nat):Int),((zs.length:Nat):Int)],rfl,rfl,wu _ _ et,af,_,rfl,?_⟩;rw[decide_eq_true (show[((X1.length:Nat):Int),((X2.length:Nat):Int)]=[((ys.length:Nat):Int),((zs.length:Nat):Int)] by rw[ny,nz,x1.length_eq,x2.length_eq])];refine aE (hR0 _ _ ?_);clear hR0 R0;have u1:=Tw8.s1.un;have u2:=Tw8.s2.un;have F1:=ve x1 Tw8.f1 Tw8.f2;have F2:=ve x2 Tw8.f2 Tw8.f1;have SA1:=St1.same wu;have SA2:=St2.same wu;have mA1:=wu _ _ m1;have mA2:=wu _ _ m2;have tabA:=ax tab9 wu;generalize upd H9 u (.tup [.int ((ys.length:Nat):Int),.int ((zs.length:Nat):Int)])=HA at SA1 SA2 mA1 mA2 tabA ⊢;clear wu gu et m1 m2 eq19 eq29 kd tab9 St1 St2 Tw8 tab8 eq18 eq2 ny nz;refine aN fun R0 hR0=>?_;refine⟨_,rfl,k1,ah L1,rfl,.inl mA1,fun l ks gl ka=>⟨l,rfl,⟨_,SqL.of af⟩,?_⟩⟩;have wl:=ai gl (.lst ks);have el:upd HA l (.lst ks) l=some (.lst ks):=af;have kaB:jm (upd HA l (.lst ks)) (ah L1) ks:=Paired.mapP ka fun p v (z:∃b,v=V.ref b/\HA b=some (.tup (p.1.map kV)))=>by obtain⟨b,h1,h2⟩:=z;exact⟨b,h1,wl _ _ h2⟩
 have SB1:=SA1.same wl;have SB2:=SA2.same wl;have mB1:=wl _ _ mA1;have mB2:=wl _ _ mA2;have tabB:=ax tabA wl;generalize upd HA l (.lst ks)=HB at el kaB SB1 SB2 mB1 mB2 tabB ⊢;clear wl gl ka SA1 SA2 mA1 mA2 tabA;have lks:ks.length=L1.length:=by rw[<-YL kaB,cR]
 have nlk:l≠k2:=fun z=>by rw[z,mB2]at el;cases el
 refine jr (K:=K) (a:=l) (xs:=ks) (fun i σ H'=>(∃o14,σ=[some (.ref a),some (.int (n:Int)),some (.ref p),some (.ref o1),some (.ref o2),some (.ref k1),some (.ref k2),some (.int cz),o8,o9,o10,o11,some (.ref q1),some (.ref q2),o14])/\SameT k2 HB H'/\H' k2=some (.dT (ah (L2++(L1.take i).filter (au L2)))))
  ⟨⟨none,rfl⟩,fun b o e _=>e,by rw[List.take_zero,List.filter_nil,Zx];exact mB2⟩ (fun i σ H' _ z=>SqL.of (z.2.1 _ _ el nlk)) ?_ ?_
 ·rintro i v σ H' hv ⟨⟨o14,rfl⟩,kp,e2⟩ DL hDL;obtain⟨pr,hpr,b,rfl,hb⟩:=zr kaB hv;obtain⟨y,hy,rfl⟩:=ix hpr;have my:=y8 hy;have hb':H' b=some (.tup ((nmK y.2).map kV)):=kp _ _ hb fun z=>by rw[z,mB2]at hb;cases hb
  obtain⟨iv,ip⟩:=vG (L:=L2) (Z:=(L1.take i).filter (au L2)) (y:=y) fun x hx=>vY u1 hy x (ZL.mp hx).1;have ll:(ah (L2++(L1.take i).filter (au L2))).length<sizeLine:=by rw[cR,Zg,x8];have h1:=y0 (au L2) (L1.take i);rw[ZF]at h1;exact Yn (show L2.length+_<=120 by omega) (by decide)
  have fn:=qk (S:=L2) hy;refine⟨_,rfl,k2,rfl,.inr ⟨_,.inl e2⟩,_,rfl,_,rfl,_,rfl,k1,.ref y.1,rfl,.inr ⟨_,nmK y.2,b,.inl (kp _ _ mB1 ne4.kk),rfl,hb',(bD u1 my).symm⟩,_,nmK y.2,b,e2,rfl,hb',ll,fun v hv=>?_,fun hv=>?_⟩
  ·have c:au L2 y=false:=by
    cases c:au L2 y with
    |false=>rfl
    |true =>rw[iv.mpr c]at hv;cases hv
   rw[c,Ju (by decide),Zx]at fn;exact hDL _ _ ⟨⟨_,rfl⟩,kp,by rw[fn];exact e2⟩
  ·have c:=iv.mp hv;rw[c,Jv rfl]at fn;exact hDL _ _ ⟨⟨_,rfl⟩,fun b o e nb=>by rw[ad nb];exact kp _ _ e nb,by rw[af,ip c,fn]⟩
 rintro σ HC ⟨⟨o14,rfl⟩,kpC,mC2⟩;refine hR0 _ _ ?_;clear hR0 R0;rw[lks,Yb]at mC2;have mC1:=kpC _ _ mB1 ne4.kk;have SC1:=cE kpC mB2 SB1 ne4.a2;have SC2:=cE kpC mB2 SB2 ne4.b2;have tabC:aI bL T (bQ bF) HC:=eC (r:=k2) tabB kpC fun f hf=>by rw[mB2]at hf;cases hf;exact⟨fun ps e=>(by cases e),fun c e=>(by cases e)⟩
 clear kpC kaB SB1 SB2 mB1 mB2 tabB lks nlk el;have un2:UN n (vals (L2++L1.filter (au L2))):=SC2.un.perm ((x2.symm.append_left L2).symm.symm.map Prod.snd).symm;have lT2:(L2++L1.filter (au L2)).length<=63:=by omega
 refine aN fun R0 hR0=>?_;refine⟨_,rfl,k2,_,rfl,mC2,fun ob=>?_⟩;have e1:=iO (ob:=ob) mC2;have eF:upd HC k2 (.frz ob (.dT (ah (L2++L1.filter (au L2))))) k2=some (.frz ob (.dT (ah (L2++L1.filter (au L2))))):=af;have eg:=e1 _ _ mC1 ne4.kk;generalize hT2:L2++L1.filter (au L2)=T2 at mC2 e1 eF eg un2 lT2 ⊢;generalize upd HC k2 (.frz ob (.dT (ah T2)))=HF at e1 eF eg ⊢;refine lH (a:=k2) (o:=ob) (kvs:=ah T2) (fun i σ H'=>(∃o14,σ=[some (.ref a),some (.int (n:Int)),some (.ref p),some (.ref o1),some (.ref o2),some (.ref k1),some (.ref k2),some (.int cz),o8,o9,o10,o11,some (.ref q1),some (.ref q2),o14])/\SameT k1 HF H'/\H' k1=some (.dT (ah (L1++(T2.take i).filter (au L1)))))
  ⟨⟨_,rfl⟩,fun b o e _=>e,by rw[List.take_zero,List.filter_nil,Zx];exact eg⟩ (fun i σ H' _ z=>z.2.1 _ _ eF ne4.kk.symm) ?_ ?_
 ·rintro i pr b σ H' hpr hb ⟨⟨o14,rfl⟩,kp,e2⟩ DL hDL _;obtain⟨y,hy,rfl⟩:=ix hpr;have my:=y8 hy;have hb':H' b=some (.tup ((nmK y.2).map kV)):=hb;obtain⟨iv,ip⟩:=vG (L:=L1) (Z:=(T2.take i).filter (au L1)) (y:=y) fun x hx=>vY un2 hy x (ZL.mp hx).1;have ll:(ah (L1++(T2.take i).filter (au L1))).length<sizeLine:=by rw[cR,Zg,x8];have h1:=y0 (au L1) (T2.take i);rw[ZF]at h1;exact Yn (show L1.length+_<=123 by omega) (by decide)
  have fn:=qk (S:=L1) hy;refine⟨_,rfl,k1,rfl,.inr ⟨_,.inl e2⟩,_,rfl,_,rfl,_,rfl,k2,.ref y.1,rfl,.inr ⟨_,nmK y.2,b,.inr ⟨ob,kp _ _ eF ne4.kk.symm⟩,rfl,hb',(bD un2 my).symm⟩,_,nmK y.2,b,e2,rfl,hb',ll,fun v hv=>?_,fun hv=>?_⟩
  ·have c:au L1 y=false:=by
    cases c:au L1 y with
    |false=>rfl
    |true =>rw[iv.mpr c]at hv;cases hv
   rw[c,Ju (by decide),Zx]at fn;exact hDL _ _ ⟨⟨_,rfl⟩,kp,by rw[fn];exact e2⟩
  ·have c:=iv.mp hv;rw[c,Jv rfl]at fn;exact hDL _ _ ⟨⟨_,rfl⟩,fun b o e nb=>by rw[ad nb];exact kp _ _ e nb,by rw[af,ip c,fn]⟩
 rintro σ HD ⟨⟨o14',rfl⟩,kpD,mD1⟩;rw[cR,Yb]at mD1;refine⟨k2,ob,.dT (ah T2),kpD _ _ eF ne4.kk.symm,Loose.non fk2,hR0 _ _ ?_⟩;clear hR0 R0;have kE:SameT k1 HC (upd HD k2 (.dT (ah T2))):=fun b o e nb=>by
  by_cases c:b=k2
  ·rw[c,af,<-mC2,<-c,e]
  ·rw[ad c];exact kpD _ _ (e1 _ _ e c) nb
 have mE1:upd HD k2 (.dT (ah T2)) k1=some (.dT (ah (L1++T2.filter (au L1)))):=by rw[ad ne4.kk];exact mD1
 have mE2:upd HD k2 (.dT (ah T2)) k2=some (.dT (ah T2)):=af;generalize upd HD k2 (.dT (ah T2))=HE at kE mE1 mE2 ⊢;have SE1:=cE kE mC1 SC1 ne4.a1;have SE2:=cE kE mC1 SC2 ne4.b1;have tabE:aI bL T (bQ bF) HE:=eC (r:=k1) tabC kE fun f hf=>by rw[mC1]at hf;cases hf;exact⟨fun ps e=>(by cases e),fun c e=>(by cases e)⟩
 subst hT2;rw[yA]at mE1;have TE:Two CS HE o1 d1 o2 d2 k1 k2 n (L1++X1) (L2++X2) (L1++L2.filter (au L1)) (L2++L1.filter (au L2)):=⟨SE1,SE2,mE1,mE2,x1.symm.append_left L1,x2.symm.append_left L2,F1,F2⟩
 have N1:=qw x1 x2;have N2:=qw x2 x1;generalize L1++X1=M1 at TE N1 N2;generalize L2++X2=M2 at TE N1 N2;generalize L1++L2.filter (au L1)=K1 at TE;generalize L2++L1.filter (au L2)=K2 at TE;clear kE mE1 mE2 SE1 SE2 SC1 SC2 tabC mC1 mC2 e1 eF eg kpD mD1 un2 lT2 F1 F2 x1 x2 u1 u2 b1 b2 l1' l2';have z1:=vE N1;have z2:=vE N2;refine aN fun R0 hR0=>?_;refine⟨_,rfl,_,rfl,o1,d1,o2,d2,n,M1,M2,rfl,TE.s1,TE.s2,tabE,ne4.dd,TE.f1,TE.f2,by rw[z1,Zx];exact TE.s1.len,by rw[z2,Zx];exact TE.s2.len,fun t X1 X2 H9 x1 x2 kd tab9 St1 St2 et=>?_⟩;rw[z1]at x1;rw[z2]at x2;have v1:=List.Perm.eq_nil x1;have v2:=List.Perm.eq_nil x2;subst v1 v2;rw[Zx]at St1 St2;have T9:Two CS H9 o1 d1 o2 d2 k1 k2 n M1 M2 K1 K2:=⟨St1,St2,kd _ _ TE.m1 (fun ps z=>by cases z) ne4.a1.symm ne4.b1.symm,kd _ _ TE.m2 (fun ps z=>by cases z) ne4.a2.symm ne4.b2.symm,TE.p1,TE.p2,TE.f1,TE.f2⟩
 refine⟨sz rfl,fun u gu=>?_⟩;have wu:=ai gu (.tup [.int 0,.int 0]);refine⟨t,u,_,[0,0],rfl,rfl,wu _ _ et,af,_,rfl,aE ?_⟩;have TG:=T9.kt (.of wu);have tabG:=ax tab9 wu;generalize upd H9 u (.tup [.int 0,.int 0])=HG at TG tabG ⊢;clear T9 wu gu et kd tab9 St1 St2 x1 x2 TE tabE;refine⟨_,rfl,_,rfl,o2,d2,o1,d1,n,M2,M1,rfl,TG.s2,TG.s1,tabG,ne4.dd.symm,TG.f2,TG.f1,by rw[z2,Zx];exact TG.s2.len,by rw[z1,Zx];exact TG.s1.len,fun t X2 X1 H9 x2 x1 kd tab9 St2 St1 et=>?_⟩;rw[z1]at x1;rw[z2]at x2;have v1:=List.Perm.eq_nil x1;have v2:=List.Perm.eq_nil x2;subst v1 v2;rw[Zx]at St1 St2;have T9:Two CS H9 o1 d1 o2 d2 k1 k2 n M1 M2 K1 K2:=⟨St1,St2,kd _ _ TG.m1 (fun ps z=>by cases z) ne4.b1.symm ne4.a1.symm,kd _ _ TG.m2 (fun ps z=>by cases z) ne4.b2.symm ne4.a2.symm,TG.p1,TG.p2,TG.f1,TG.f2⟩
 refine⟨sz rfl,fun u gu=>?_⟩;have wu:=ai gu (.tup [.int 0,.int 0]);refine⟨t,u,_,[0,0],rfl,rfl,wu _ _ et,af,_,rfl,hR0 _ _ ?_⟩;clear hR0 R0;have TI:=T9.kt (.of wu);have tabI:=ax tab9 wu;generalize upd H9 u (.tup [.int 0,.int 0])=HI at TI tabI ⊢;clear T9 wu gu et kd tab9 St1 St2 x1 x2 TG tabG z1 z2;have uK1:UN n (vals K1):=TI.s1.un.perm (TI.p1.symm.map Prod.snd);have uK2:UN n (vals K2):=TI.s2.un.perm (TI.p2.symm.map Prod.snd);refine aN fun R0 hR0=>?_;refine⟨_,rfl,k1,_,rfl,TI.m1,fun ob=>?_⟩;have e1:=iO (ob:=ob) TI.m1;have eF:upd HI k1 (.frz ob (.dT (ah K1))) k1=some (.frz ob (.dT (ah K1))):=af;have tF:TS HI (upd HI k1 (.frz ob (.dT (ah K1)))):=fun b zs e=>e1 _ _ e fun z=>by rw[z,TI.m1]at e;cases e
 have mF2:=e1 _ _ TI.m2 ne4.kk.symm;have SF1:StoreAt CS (upd HI k1 (.frz ob (.dT (ah K1)))) o1 d1 n M1:=cE e1 TI.m1 TI.s1 ne4.a1;have SF2:StoreAt CS (upd HI k1 (.frz ob (.dT (ah K1)))) o2 d2 n M2:=cE e1 TI.m1 TI.s2 ne4.b1;generalize upd HI k1 (.frz ob (.dT (ah K1)))=HF at e1 eF tF mF2 SF1 SF2 ⊢;refine lH (a:=k1) (o:=ob) (kvs:=ah K1) (fun i σ H'=>(∃o14,σ=[some (.ref a),some (.int (n:Int)),some (.ref p),some (.ref o1),some (.ref o2),some (.ref k1),some (.ref k2),some (.int cz),o8,o9,o10,o11,some (.ref q1),some (.ref q2),o14])/\Same HF H')
  ⟨⟨_,rfl⟩,Same.refl _⟩ (fun i σ H' _ z=>z.2 _ _ eF) ?_ ?_
 ·rintro i pr b σ H' hpr hb ⟨⟨o14,rfl⟩,sm⟩ DL hDL _;obtain⟨y,hy,rfl⟩:=ix hpr;have my:=y8 hy;have hb':H' b=some (.tup ((nmK y.2).map kV)):=hb;have myM:=TI.p1.mem_iff.mp my;obtain⟨z,hz,ez⟩:=N2 y myM;have hzK:=TI.p2.mem_iff.mpr hz;have g1:∀{H2:Hp},Same HF H2->H2 b=some (.tup ((nmK y.2).map kV))->dN H2 k1 (.ref b) (some (.ref y.1)):=fun s2 eb=>.inr ⟨_,nmK y.2,b,.inr ⟨ob,s2 _ _ eF⟩,rfl,eb,(bD uK1 my).symm⟩;have g2:∀{H2:Hp},Same HF H2->H2 b=some (.tup ((nmK y.2).map kV))->dN H2 k2 (.ref b) (some (.ref z.1)):=fun s2 eb=>.inr ⟨_,nmK y.2,b,.inl (s2 _ _ mF2),rfl,eb,by rw[<-ez];exact(bD uK2 hzK).symm⟩;have dy:=(SF1.dr y myM).same sm;have dz:=(SF2.dr z hz).same sm;refine⟨_,rfl,_,rfl,k1,.ref y.1,rfl,g1 sm hb',_,rfl,_,rfl,k2,.ref z.1,rfl,g2 sm hb',_,_,dy.dt,dz.dt,cK _,cK _,_,rfl,?_⟩;cases hq:PyData.eqv (dD y.2) (dD z.2)with
  |true=>exact aE (hDL _ _ ⟨⟨_,rfl⟩,sm⟩)
  |false =>
   have ne:y.2≠z.2:=fun e=>by rw[e,SeqAt.eqv_refl _ (ko (d:=z.2) trivial).1]at hq;cases hq
   refine aK ?_;refine⟨_,rfl,_,rfl,_,rfl,k2,.ref z.1,rfl,g2 sm hb',o1,d1,z.1,n,M1,z.2,rfl,SF1.same sm,dz,TI.f2 z hz,⟨y,myM,ez.symm,ne⟩,fun H2 s2=>⟨_,rfl,aE ?_⟩⟩;have sm2:=sm.trans s2;refine⟨_,rfl,_,rfl,_,rfl,k1,.ref y.1,rfl,g1 sm2 (s2 _ _ hb'),o2,d2,y.1,n,M2,y.2,rfl,SF2.same sm2,dy.same s2,TI.f1 y myM,⟨z,hz,ez,ne.symm⟩,fun H3 s3=>⟨_,rfl,?_⟩⟩;exact hDL _ _ ⟨⟨_,rfl⟩,sm2.trans s3⟩
 rintro σ HJ ⟨⟨o14'',rfl⟩,smJ⟩;refine⟨k1,ob,.dT (ah K1),smJ _ _ eF,Loose.non fk1,hR0 _ _ ?_⟩;clear hR0 R0;have sK:=jT TI.m1 e1 smJ;have TK:=TI.kt (.of sK);have tabK:=ax tabI sK;generalize upd HJ k1 (.dT (ah K1))=HK at TK tabK ⊢;refine⟨_,rfl,_,rfl,o1,d1,k1,n,M1,K1,rfl,TK.s1,TK.m1,TK.p1,tabK,fun HL kL tabL=>⟨_,rfl,aK ?_⟩⟩;have TL:=TK.kt kL;exact⟨_,rfl,_,rfl,o2,d2,k2,n,M2,K2,rfl,TL.s2,TL.m2,TL.p2,tabL,fun HM _ _=>hq HM⟩
end
def lC:Nat->(List Value->Prop)->Prop
 |0,p=>p []
 |n+1,p=>∀a,lC n fun us=>p (a::us)
theorem fZ:∀{n:Nat} {p:List Value->Prop},lC n p->∀us:List Value,us.length=n->p us
 |0,_,h,[],_=>h
 |_+1,_,h,a::us,e=>fZ (h a) us (Nat.succ.inj e)
section
variable{P:Program}{w:World}{K:PySem.W.Frag}{mg:Str->Option Value}{base h:Heap}{n m x q:Str}{st:Stmt}{C f:Addr}{k:Nat}{ps:List Str}{sp:Sp}{bm:List Value}
structure Bx(P:Program)(w:World)(K:PySem.W.Frag)(mg:Str->Option Value)(base h:Heap):Prop where
 X:K.In h
 G:h.Ns mainGlobals mg
def A1(K:PySem.W.Frag)(n:Str)(st:Stmt)(f:Addr):Prop:=PySem.W.nsIn K mainGlobals n=some (some (.ref f))/\∃fd,Fun K n n st f fd
def A2(K:PySem.W.Frag)(C:Addr)(m q:Str)(st:Stmt)(f:Addr):Prop:=PySem.W.findIn K (.ref C) m=some (some (.ref f))/\PySem.W.isFn K (.ref f)=true/\∃fd,Fun K m q st f fd
def AF(K:PySem.W.Frag):List (Str×Stmt×Addr)->Prop
 | []=>True
 |(n,st,f)::l=>A1 K n st f/\AF K l
def AM(K:PySem.W.Frag):List (Addr×Str×Str×Stmt×Addr)->Prop
 | []=>True
 |(C,m,q,st,f)::l=>A2 K C m q st f/\AM K l
def AN(p:Str->Prop):List Str->Prop
 | []=>True
 |n::l=>p n/\AN p l
theorem anI{p p':Str->Prop}(i:∀{n},p n->p' n):∀{l:List Str},AN p l->AN p' l
 | [],_=>True.intro
 |_::_,h=>⟨i h.1,anI i h.2⟩
theorem gf{l:List (Str×Stmt×Addr)}{oc kV dc pm cd ct:Value}{od an:Option Addr}{sl:Array (Option Value)}(a:PySem.W.nsIn K mainGlobals n=some (some (.ref f)))(b:K.lookup f=some ⟨oc,od,.func (PySem.W.fnOf n n (bZ st) (bt st) (aq st) .none kV dc pm an cd ct),sl⟩)(c:PySem.W.codeIn K cd n=true)(d:PySem.W.keepIn K (.ref f)=true)(r:AF K l):AF K ((n,st,f)::l):=⟨⟨a,_,yF b c d⟩,r⟩
theorem gm{l:List (Addr×Str×Str×Stmt×Addr)}{oc kV dc pm cd ct:Value}{od an:Option Addr}{sl:Array (Option Value)}(a:PySem.W.findIn K (.ref C) m=some (some (.ref f)))(i:PySem.W.isFn K (.ref f)=true)(b:K.lookup f=some ⟨oc,od,.func (PySem.W.fnOf m q (bZ st) (bt st) (aq st) .none kV dc pm an cd ct),sl⟩)(c:PySem.W.codeIn K cd q=true)(d:PySem.W.keepIn K (.ref f)=true)(r:AM K l):AM K ((C,m,q,st,f)::l):=⟨⟨a,i,_,yF b c d⟩,r⟩
theorem gn{l:List Str}(a:PySem.W.nsIn K mainGlobals n=some none)(r:AN (fun n=>PySem.W.nsIn K mainGlobals n=some none) l):AN (fun n=>PySem.W.nsIn K mainGlobals n=some none) (n::l):=⟨a,r⟩
theorem mkF(B:Bx P w K mg base h)(A:A1 K n st f)(ok:∀{fd},Fun K n n st f fd->FnOk P w K mg base CX0 k f fd ps sp)(hb:∀(kV doc pm:Value) (an:Option Addr) (cdv ct:Value),lC ps.length fun us=>bindArgs (PySem.W.fnOf n n (bZ st) (bt st) (aq st) .none kV doc pm an cdv ct) ⟨us,[]⟩=pure (ps.zip us):=by(repeat intro _);rfl):Fn P w K mg base k n ps sp:=by obtain⟨a,fd,F⟩:=A;exact⟨f,fd,ok F,YN B.X B.G a,F.kp,F.binds fun a b c d e g=>fZ (hb a b c d e g)⟩
theorem mkM(B:Bx P w K mg base h)(L:Cls K C)(A:A2 K C m q st f)(ok:∀{fd},Fun K m q st f fd->FnOk P w K mg base CX0 k f fd ps sp)(hb:∀(kV doc pm:Value) (an:Option Addr) (cdv ct:Value),lC ps.length fun us=>bindArgs (PySem.W.fnOf m q (bZ st) (bt st) (aq st) .none kV doc pm an cdv ct) ⟨us,[]⟩=pure (ps.zip us):=by(repeat intro _);rfl):MFn P w K mg base k C m ps sp:=by obtain⟨a,i,fd,F⟩:=A;exact⟨L,f,fd,ok F,⟨a,i,F.kp⟩,F.binds fun a b c d e g=>fZ (hb a b c d e g)⟩
theorem mkX(B:Bx P w K mg base h)(L:Cls K C)(A:A2 K C m q st f)(ok:∀{fd},Fun K m q st f fd->FnOk P w K mg base (CXr P w) k f fd ps sp)(hb:∀(kV doc pm:Value) (an:Option Addr) (cdv ct:Value),lC ps.length fun us=>bindArgs (PySem.W.fnOf m q (bZ st) (bt st) (aq st) .none kV doc pm an cdv ct) ⟨us,[]⟩=pure (ps.zip us):=by(repeat intro _);rfl):MFnX P w K mg base k C m ps sp:=by obtain⟨a,i,fd,F⟩:=A;exact⟨L,f,fd,ok F,⟨a,i,F.kp⟩,F.binds fun a b c d e g=>fZ (hb a b c d e g)⟩
theorem mkC(B:Bx P w K mg base h)(L:Cls K C)(g:mg x=some (.ref C))(mk:PySem.W.makesIn K C=true)(kc:PySem.W.keepIn K (.ref C)=true)(A:A2 K C "__init__" q st f)(ok:∀{fd},Fun K "__init__" q st f fd->FnOk P w K mg base CX0 k f fd ps sp)(hb:∀(kV doc pm:Value) (an:Option Addr) (cdv ct:Value),lC ps.length fun us=>bindArgs (PySem.W.fnOf "__init__" q (bZ st) (bt st) (aq st) .none kV doc pm an cdv ct) ⟨us,[]⟩=pure (ps.zip us):=by(repeat intro _);rfl):MkFn P w K mg base k C x ps sp:=by obtain⟨a,i,fd,F⟩:=A;exact⟨L,g,f,fd,ok F,⟨mk,a,i,kc⟩,F.binds fun a b c d e g=>fZ (hb a b c d e g)⟩
theorem mkE(B:Bx P w K mg base h)(e:ExcAtI K C f bm)(A:A2 K C m q st f)(ok:∀{fd},Fun K m q st f fd->FnOk P w K mg base CX0 k f fd ps sp)(hb:∀(kV doc pm:Value) (an:Option Addr) (cdv ct:Value),lC ps.length fun us=>bindArgs (PySem.W.fnOf m q (bZ st) (bt st) (aq st) .none kV doc pm an cdv ct) ⟨us,[]⟩=pure (ps.zip us):=by(repeat intro _);rfl):ExI P w K mg base k C bm ps sp:=by obtain⟨a,i,fd,F⟩:=A;exact⟨f,fd,e,ok F,F.binds fun a b c d e g=>fZ (hb a b c d e g)⟩
end
theorem Ey{l:PySem.W.OpenLaw}{w:World}{K:PySem.W.Frag}{h:Heap}{mg:Str->Option Value}{fa f1 f2 f3 f4 f5 f6 f7 f8 f9 f10 f11 f12 f13 f14 f15 f16 f17 f18 f19 f20 f21 f22 f23 f24 f25 f26 f27 f28 f29 f30 f31 f32 f33 f34 f35 f36 m1 m2 m3 m4 m5 m6 m7:Addr}{C_Store:Addr}(X:K.In h)(G:h.Ns mainGlobals mg)(hfa:mg "law" = some (.ref fa)){IZ:Tok}{Jj:Tok}{Jp:Tok}{Ja:Tok}{Jk:Tok}{p7:Addr}{c_Twin c_LimbError c0 T:Addr}(Jf:PySem.W.nsIn K mainGlobals "Store" = some (some (.ref C_Store)))(IR:PySem.W.plainGet K C_Store Str.empty=true)(IS:PySem.W.hasDictIn K C_Store=true)(IT:PySem.W.plainOver K C_Store=true)(IU:PySem.W.findIn K (.ref C_Store) "__setattr__" = some (some (.builtin "object.__setattr__")))(IV:PySem.W.makesIn K C_Store=true)(IW:PySem.W.keepIn K (.ref C_Store)=true)(p9:PySem.W.findIn K (.ref C_Store) "hands" = some none)(r6:PySem.W.findIn K (.ref C_Store) "deeds" = some none)(Jg:PySem.W.nsIn K mainGlobals "Twin" = some (some (.ref c_Twin)))(u4:PySem.W.nsIn K mainGlobals "LimbError" = some (some (.ref c_LimbError)))(zF:AF K (("is_number",ii,f1)::("is_whole",je,f2)::("is_name",jK,f3)::("is_clock",jc,f4)::("start_clock",fQ,f5)::("within",md,f6)::("raised",lZ,f7)::("tells",pK,f8)::("is_deed_word",fe,f9)::("deed_parts",gL,f10)::("is_place",jd,f11)::("is_sign",jM,f12)::("is_text",jN,f13)::("is_hand",jJ,f14)::("is_known_item",eR,f15)::("is_part",jL,f16)::("is_what",jO,f17)::("is_deed",jI,f18)::("name_of",jP,f19)::("asked_by",jb,f20)::("is_answered",fP,f21)::("ready_of",fW,f22)::("takes_as_new",fg,f23)::("count_new",ie,f24)::("meet",tE,f25)::("_law_cell_at",jG,f26)::("_law_order",pI,f27)::("_law_name",tG,f28)::("_law_deeds",pF,f29)::("_law_unlike",ma,f30)::("_law_fits",tD,f31)::("_law_ready",pJ,f32)::("_law_heard",pG,f33)::("_law_twin",tH,f34)::("_law_as_due",lY,f35)::("law",kI,f36)::[]))(zM:AM K ((c_Twin,"__init__","Twin.__init__",ic,m1)::(C_Store,"__init__","Store.__init__",gJ,m2)::(C_Store,"hear","Store.hear",eN,m3)::(C_Store,"ready","Store.ready",fO,m4)::(C_Store,"waiting","Store.waiting",eO,m5)::(C_Store,"clock","Store.clock",fN,m6)::(C_Store,"told","Store.told",gK,m7)::[]))(zN:AN (fun n=>PySem.W.nsIn K mainGlobals n=some none) ("len"::"max"::"range"::"list"::"isinstance"::"zip"::"enumerate"::"sorted"::"all"::"sum"::"int"::"tuple"::"bool"::"str"::"ord"::[]))(l7:PySem.W.nsIn K mainGlobals "MOST_NUMBERS" = some (some (.int 64 IZ)))(u5:PySem.W.nsIn K mainGlobals "FIRST_SIGN" = some (some (.int 32 Jj)))(v8:PySem.W.nsIn K mainGlobals "LAST_SIGN" = some (some (.int 126 Jp)))(m8:PySem.W.nsIn K mainGlobals "PERCENT_SIGN" = some (some (.int 37 Ja)))(u6:PySem.W.nsIn K mainGlobals "MOST_SIGNS" = some (some (.int 60 Jk)))(u7:PySem.W.nsIn K mainGlobals "DEED_PARTS" = some (some (.ref p7)))(t_DEED_PARTS:PyProof.Rows.KTD.tabLook (nS K) (fun b=>K.lookup b) p7 DT=true)(Jh:rY K c_Twin m1=true)(Ji:∃c d cd sl,K.lookup c_Twin=some ⟨c,d,.cls cd,sl⟩/\cd.mro=Value.ref c_Twin::Value.ref c_LimbError::VE)(if_Twin:∃oI,K.lookup m1=some oI/\oI.cls=.type "function")(u8:PySem.W.excIn K c_LimbError [.type "ValueError",.type "Exception",.type "BaseException",.type "object"] "ValueError.__new__" = true)(u9:∃c d cd sl,K.lookup c_LimbError=some ⟨c,d,.cls cd,sl⟩/\cd.mro=Value.ref c_LimbError::VE)(tb1:PySem.W.tabIn K "ready_of" = some (c0,T))(e1:(PySem.W.clsIn K c_Twin).isSome=true)(e2:PySem.W.findIn K (.ref c_Twin) "__getattribute__" = some (some (.builtin "BaseException.__getattribute__")))(e3:PySem.W.findIn K (.ref c_Twin) "__getattr__" = some none)(e4:PySem.W.findIn K (.ref c_Twin) "__class__" = some (some (.builtin "object.__class__")))(e5:PySem.W.mroIn K c_Twin (.type "BaseException")=some true)(e6:PySem.W.mroIn K c_Twin (.type "object")=some true)(dT:PySem.W.hasDictIn K c_Twin=true)(aT:PySem.W.findIn K (.ref c_Twin) "name" = some none)(s1:PySem.W.findIn K (.ref c_Twin) "__setattr__" = some (some (.builtin "object.__setattr__")))(s2:((PySem.W.clsIn K c_Twin).any fun cd=>mW cd.mro&&cd.hasDict)=true)
  :∃fd:FuncData,(∀(s:Shared) (v:Value),BindsTo s fd ⟨[v],[]⟩ [("_law_script",v)])/\∀base:Heap,K.In base->base.Ns mainGlobals mg->Blt base mg->PySem.W.CodeHd base c0 T->FnOk l.prog w K mg base CX0 12 fa fd ["_law_script"] (rj K T):=by
 obtain⟨Af1,Af2,Af3,Af4,Af5,Af6,Af7,Af8,Af9,Af10,Af11,Af12,Af13,Af14,Af15,Af16,Af17,Af18,Af19,Af20,Af21,Af22,Af23,Af24,Af25,Af26,Af27,Af28,Af29,Af30,Af31,Af32,Af33,Af34,Af35,⟨a0,_,F0⟩,_⟩:=zF;obtain⟨Am1,Am2,Am3,Am4,Am5,Am6,Am7,_⟩:=zM;obtain⟨a7,Jr,e9,i9,a6,IL,h9,c8,d6,v3,IJ,b9,v9,IK,Jl,_⟩:=anI (p':=fun n=>mg n=none) (fun z=>PySem.W.mg_none_of X G z) zN;have e:=hfa.symm.trans (YN X G a0);cases e;obtain⟨oc,od,kV,dc,pm,an,cd,ct,sl,rfl,l0,c0⟩:=id F0.ex;have j0:=YN X G l7;have t8:=YN X G u5;have v6:=YN X G v8;have j8:=YN X G m8;have t9:=YN X G u6;have d8:=YN X G u7;have Jt:=YN X G Jf;have i8:Cls K C_Store:=⟨IR,IS,IT,IU⟩
 have n6:Txt K C_Store:=⟨i8,p9,r6⟩
 have II:Tab K p7 DT:=⟨t_DEED_PARTS⟩
 have w9:=YN X G Jg;have IN:ExcAtI K c_Twin m1 (Value.ref c_LimbError::VE):=⟨Jh,Ji,by rw[List.contains_cons];rfl,if_Twin⟩
 have v7:=YN X G u4;have Jq:ExcAt K c_LimbError VE:=⟨u8,u9,rfl⟩
 have kT:ExK K c_Twin:=⟨e1,e2,e3,e4,e5,e6⟩
 have sN:ExS K c_Twin:=⟨s1,s2,e6⟩
 have tw:TwR K c_Twin (Value.ref c_LimbError::VE):=⟨kh IN,kT,dT,aT⟩
 refine⟨PySem.W.fnOf "law" "law" (bZ kI) (bt kI) (aq kI) .none kV dc pm an cd ct,fun s v=>.of_eq rfl,fun base _ _ Bl C=>?_⟩;have B:Bx l.prog w K mg base h:=⟨X,G⟩
 have g9:=mkF B Af1 fun F=>sO F a6 IJ v9;have a8:=mkF B Af2 fun F=>uD F g9;have ID:=mkF B Af3 fun F=>xp F a8 a6 b9 a7;have Ix:=mkF B Af4 fun F=>uB F a8 a6 b9 a7 d6;have p6:=mkF B Af5 fun F=>pk F;have IO:=mkF B Af6 fun F=>zm F d6 IL;have IP:=mkF B Af7 fun F=>zj F;have r9:=mkF B Af8 fun F=>Bq F;have j9:=mkF B Af9 fun F=>mU F d8 II a6 IK;have u3:=mkF B Af10 fun F=>qS F d8 II;have Iw:=mkF B Af11 fun F=>uC F g9 a6 b9 a7 d6 j0;have IC:=mkF B Af12 fun F=>xr F Jl t8 v6 j8;have IE:=mkF B Af13 fun F=>xt F IC a6 IK d6;have i5:=mkF B Af14 fun F=>xo F a8;have i4:=mkF B Af15 fun F=>lV F ID r9 a7;have IF:=mkF B Af16 fun F=>xq F i4 Iw IE i5 a8 a6 v9 a7 t9;have IG:=mkF B Af17 fun F=>xu F j9 u3 IF a6 b9 a7 d6 IL;have i6:=mkF B Af18 fun F=>xn F i5 Ix IG a6 b9 a7;have a9:=mkF B Af19 fun F=>xw F;have Iy:=mkF B Af20 fun F=>uA F h9;have pi:=mkF B Af21 fun F=>ph F IO;have Iz:=mkF B Af22 fun F=>uE F (A7 Af22.1 F tb1) C Bl Iy pi a9 v3 c8 d6 i9;have Jb:=mkE B IN Am1 fun F=>sJ F sN aT;have IA:=mkC B i8 Jt IV IW Am2 fun F=>qQ F n6;have t0:=mkX B i8 Am3 fun F=>pe F n6 i6 a9 Jb w9;have Jo:=mkM B i8 Am3 fun F=>qP F n6 i6 a9;have d7:=mkM B i8 Am4 fun F=>pf F n6 Iz i9;have i7:=mkM B i8 Am5 fun F=>lU F n6 d7 a9 c8;have IM:=mkM B i8 Am6 fun F=>pd F n6 d7 p6 IP;have IX:=mkM B i8 Am7 fun F=>qR F n6 d7 i7 a9 r9;have k7:=mkF B Af23 fun F=>mV F t0 (EH Jq) v7 (kh IN) (by simp);have n9:=mkF B Af24 fun F=>sL F k7;have IH:=mkF B Af25 fun F=>Dj F IM IX n9;have v5:=mkF B Af26 fun F=>xm F a7;have Jc:=mkF B Af27 fun F=>Bo F v3;have Iv:=mkF B Af28 fun F=>Dk F;have Je:=mkF B Af29 fun F=>Bm F h9 e9 Jr b9;have IQ:=mkF B Af30 fun F=>zl F a7;have Jn:=mkF B Af31 fun F=>Di F a7 e9 IJ;have Jd:=mkF B Af32 fun F=>Bp F Jn Jc c8;have t7:=mkF B Af33 fun F=>Bn F Iv Jo;have IY:=mkF B Af34 fun F=>Dl F t0 tw (kh IN) w9 Iv;have IB:=mkF B Af35 fun F=>zi F Jd d7 i7 c8;exact E9 F0 v5 Je IA IQ t7 IH IY IB e9 a7 i9
theorem Ip{l:PySem.W.OpenLaw}{q:Program}{loose:List Str}{XP:(Str->Option Value)->Heap->Prop}{YP:World->Heap->Prop}{d:DefRec}{K:Params->PySem.W.Frag}{c0 T:Addr}(hn:l.most=some 63)(hdf:d.params.defaults=[])(hY:∀ (w:World) (h:Heap),YP w h->(K w.params).In h)(ht:∀ w:World,PySem.W.tabIn (K w.params) "ready_of" = some (c0,T))(hd:∃ d',(PyProof.Rows.recsOf q).find? (fun e=>e.name == ("ready_of":Str))=some d')(nt:∀ w:World,PySem.W.noTabs (K w.params)=true)(F:∀ (w:World) (mg:Str->Option Value) (fa:Addr) (h:Heap),(K w.params).In h->h.Ns mainGlobals mg->mg d.name=some (.ref fa) ->
   ∃ fd:FuncData,(∀ (s:Shared) (u:Value),BindsTo s fd ⟨[u],[]⟩ [("_law_script",u)])/\∀ base:Heap,(K w.params).In base->base.Ns mainGlobals mg->Blt base mg->PySem.W.CodeHd base c0 T->FnOk l.prog w (K w.params) mg base CX0 12 fa fd ["_law_script"] (rj (K w.params) T)) :
  PySem.W.WalkO q loose XP YP l.row.toRowW d [] (fun f vs=>PySem.call f vs) :=
 L2.At (n:=63) (k:=12) (x:="_law_script") (tabs:=fun _=>[("ready_of",c0,T)]) (sp:=fun w=>rj (K w.params) T) hn (by decide) hdf ⟨rfl,by decide,by decide⟩ hY (fun w t htm=>by rw[Zo.mp htm];exact⟨ht w,hd⟩) nt
  (fun w mg fa h k g e=>let⟨fd,b,r⟩:=F w mg fa h k g e;⟨fd,b,fun base k2 g2 bl cs=>r base k2 g2 bl (cs _ (Zo.mpr rfl))⟩) (fun w H a ns hl hT hS=>⟨a,ns,rfl,hS,hl,hT _ (Zo.mpr rfl),fun _=>rfl⟩)
end K21
namespace PySem.W.Fast
def tw16418926787057393494:=()
def tw7072646151836333792:=()
def tw197440204266835141:=()
def tw18016491481309574365:=()
def tw13684171621923535909:=()
def tw6172005856945829292:=()
def tw407467562264392289:=()
def tw12667406288760536611:=()
def tw1347852374643885762:=()
def tw18102573678919066835:=()
def tw15364665715678392193:=()
def tw3645319533277826751:=()
def tw2031193681471184962:=()
def tw12150309974525859259:=()
def tw18158224988511205368:=()
def tw2145695590557500160:=()
def tw1096790546572921779:=()
def tw18083994717625811024:=()
def tw15245024580968860235:=()
def tw4182115467196926838:=()
def tw15109756125733294701:=()
def tw6330485353019551177:=()
end PySem.W.Fast
open PySem PySem.W PyProof.Rows
set_option maxRecDepth 100000 in
set_option maxHeartbeats 0 in
theorem PySem.Challenge.cw_limb_k21_twins_when_stores_meet_holds : PySem.Challenge.rw_limb_k21_twins_when_stores_meet.Holds := by
  w_on; o_law; k_head; (case hw => w_witness2)
  k_fill
  refine' K21.Ip (l := PySem.Challenge.rw_limb_k21_twins_when_stores_meet) rfl rfl (fun w h Y => PySem.W.km_in_of Y) ?ht ?hd ?nt ?F
  case ht => intro w; with_unfolding_all rfl
  case hd => exact ⟨_, rfl⟩
  case nt => intro w; kernel_rfl
  case F =>
    intro w mg fa h KX G hmg
    refine' K21.Ey KX G hmg ?Jf ?IR ?IS ?IT ?IU ?IV ?IW ?p9 ?r6 ?Jg ?u4 ?zF ?zM ?zN ?l7 ?u5 ?v8 ?m8 ?u6 ?u7 ?t_DEED_PARTS ?Jh ?Ji ?if_Twin ?u8 ?u9 ?tb1 ?e1 ?e2 ?e3 ?e4 ?e5 ?e6 ?dT ?aT ?s1 ?s2
    (case Jf => k_is)
    (case IR => k_is)
    (case IS => k_is)
    (case IT => k_is)
    (case IU => k_is)
    (case IV => k_is)
    (case IW => k_is)
    (case p9 => k_is)
    (case r6 => k_is)
    (case Jg => k_is)
    (case u4 => k_is)
    (case zF => (repeat refine K21.gf (by k_is) (by k_is) (by k_is) (by k_is) ?_); exact True.intro)
    (case zM => (repeat refine K21.gm (by k_is) (by k_is) (by k_is) (by k_is) (by k_is) ?_); exact True.intro)
    (case zN => (repeat refine K21.gn (by k_is) ?_); exact True.intro)
    (case l7 => k_is)
    (case u5 => k_is)
    (case v8 => k_is)
    (case m8 => k_is)
    (case u6 => k_is)
    (case u7 => k_is)
    (case t_DEED_PARTS => rfl)
    (case Jh => kernel_rfl)
    (case Ji => exact ⟨_, _, _, _, rfl, rfl⟩)
    (case if_Twin => exact ⟨_, rfl, rfl⟩)
    (case u8 => k_exc)
    (case u9 => exact ⟨_, _, _, _, rfl, rfl⟩)
    (case tb1 => with_unfolding_all rfl)
    (case e1 => rfl)
    (case e2 => k_is)
    (case e3 => k_is)
    (case e4 => k_is)
    (case e5 => k_is)
    (case e6 => k_is)
    (case dT => rfl)
    (case aT => k_is)
    (case s1 => k_is)
    (case s2 => rfl)
