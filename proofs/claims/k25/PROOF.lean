import PyProof.Rows.All
import Wide.All
import OpenK.AllK
import Wide.FinOn
import PyProof.EqAt
import PyProof.EqKinds
import PyProof.TupleCall
import Lean
import PySem.Challenge.RW_limb_k25_rows_in_order
def z6:=@PySem.wpAny_bind
def z9:=@PySem.wpAny_pure
def Za:=@PySem.Heap.get?_push_of_some
def Zb:=@List.getElem?_eq_getElem
def Zd:=@List.getD_eq_getElem?_getD
def Ze:=@Nat.le_refl
def Zf:=@List.size_toArray
def Zg:=@PyProof.Rows.wpS_bind
def Zh:=@List.mem_cons_of_mem
def Zi:=@List.length_map
def Zj:=@Bool.false_ne_true
def Zk:=@Array.length_toList
def Zl:=@PyProof.Rows.wpS_pure
def Zm:=@PySem.Heap.lt_size
def Zn:=@List.length_append
def Zo:=@PySem.Heap.get?_push_size
def Zq:=@List.mem_cons
def Zr:=@List.mem_cons_self
def Zs:=@Option.some.inj
def Zt:=@List.length_cons
def Zu:=@List.mem_singleton
def Zv:=@Nat.ne_of_lt
def Zw:=@Nat.lt_of_lt_of_le
def Zx:=@Nat.le_trans
def Zy:=@PySem.Paired.length
def Zz:=@List.map_cons
def ZA:=@List.mem_append
def ZB:=@Bool.and_eq_true
def ZC:=@List.getElem?_eq_some_iff
def ZD:=@Array.toList_append
def ZE:=@List.append_assoc
def ZF:=@List.mem_iff_getElem?
def ZG:=@List.getElem?_map
def ZH:=@List.mem_append_right
def ZI:=@List.lookup_cons
def ZJ:=@List.take_of_length_le
def ZK:=@List.mem_of_getElem?
def ZL:=@List.pairwise_append
def ZM:=@Ne.symm
def ZN:=@List.length_take
def ZO:=@Nat.zero_le
def ZP:=@List.mem_map
def ZQ:=@PySem.wpAny_mono
def ZR:=@PySem.Heap.SameBut.update
def ZS:=@beq_iff_eq
def ZT:=@List.nodup_cons
def ZU:=@PySem.wpAny_rule
def ZV:=@List.getElem?_append_right
def ZW:=@PySem.wpAny_field
def ZX:=@List.take_append_drop
def ZY:=@PySem.wpAny_callSpecial?_slot
def ZZ:=@Option.map_eq_some_iff
def Z0:=@PySem.wpAny_holding
def Z1:=@PySem.wpAny_call_entry
def Z2:=@Nat.add_sub_cancel_left
def Z3:=@List.append_nil
def Z4:=@List.map_append
def Z5:=@PySem.wpAny_dictEpoch
def Z6:=@List.not_mem_nil
def Z7:=@List.getElem_mem
def Z8:=@PyProof.Rows.wpS_forRange
def Z9:=@PySem.wpAny_newObj_type
def y0:=@of_decide_eq_true
def y3:=@PyProof.Rows.slot_tuple_getitem
def y4:=@PySem.boot_len
def y6:=@PyProof.Rows.wpS_mono
def y7:=@Array.map_append
def y8:=@List.pairwise_iff_getElem
def y9:=@PySem.mem_of_lookup
def Ya:=@List.take_sublist
def Yb:=@PySem.F.slot_dict_keyiterator_next
def Yc:=@PySem.W.mg_of
def Yd:=@Nat.lt_or_ge
def Ye:=@List.mem_filter
def Yf:=@PySem.W.kia_one
def Yg:=@PySem.Obj.data_mapFields
def Yh:=@Array.getD_eq_getD_getElem?
def Yi:=@Nat.lt_succ_self
def Yj:=@List.length_drop
def Yk:=@Nat.ne_of_gt
def Yl:=@PySem.Heap.get?_update_other
def Ym:=@List.drop_sublist
def Yn:=@List.getElem?_append_left
def Yo:=@Array.getElem?_eq_getElem
def Yp:=@PySem.Heap.get?_update_self
def Yq:=@Nat.lt_irrefl
def Yr:=@List.mem_range
def Ys:=@Array.size_map
def Yt:=@PySem.wpAny_dictEntries
def Yu:=@PyProof.Rows.callWith_type1
def Yv:=@PySem.PassesOwn.never
def Yw:=@beq_eq_false_iff_ne
def Yx:=@Array.getElem?_eq_some_iff
def Yy:=@congrArg
def Yz:=@PySem.wpAny_forIn_list
def YA:=@List.all_eq_true
def YB:=@List.mem_filterMap
def YC:=@List.length_singleton
def YD:=@Array.getElem?_toList
def YE:=@PySem.Heap.get?_none_of_le
def YF:=@Array.mem_toList_iff
def YG:=@Option.isSome_iff_exists
def YH:=@PySem.wpAny_typeNameOfWhole_keyiter
def YI:=@List.toList_toArray
def YJ:=@PySem.wpAny_setField
def YK:=@List.drop_of_length_le
def YL:=@Bool.false_eq_true
def YM:=@List.length_filter_le
def YN:=@List.nil_append
def YO:=@List.all_cons
def YQ:=@List.pairwise_map
set_option Elab.async false
set_option linter.all false
set_option maxRecDepth 100000
set_option maxHeartbeats 2000000
local macro_rules | `(tactic| omega) => `(tactic| first | with_reducible first | assumption | exact Nat.le_of_lt (by assumption) | exact Nat.le_refl _ | exact Nat.lt_add_one _ | exact Nat.le_trans (by assumption) (by decide) | exact Nat.lt_of_lt_of_le (by assumption) (by decide) | exact Nat.sub_lt_sub_left (by assumption) (Nat.lt_add_one _) | exact Nat.le_antisymm (by assumption) (Nat.le_of_not_lt (by assumption)) | lia)
namespace L2
open PySem PySem.Spec PyProof.Rows
abbrev Key:=Sum Int Str
def iO:Key->Value->Bool
 |.inl k,v=>Value.isInt k v
 |.inr x,v=>Value.isStrOf x v
def CT(w:World):Key->Int
 |.inl k=>hashInt k
 |.inr x=>hashStr w x
theorem bj:∀{k:Key} {v:Value},iO k v=true->(∃i t,k=Sum.inl i/\v=Value.int i t)\/(∃x t,k=Sum.inr x/\v=Value.str x t)
 |.inl i,v,h=>by obtain⟨t,e⟩:=Value.isInt_shape (k:=i) (v:=v) h;exact .inl ⟨i,t,rfl,e⟩
 |.inr x,v,h=>by obtain⟨t,e⟩:=Value.isStrOf_shape (x:=x) (v:=v) h;exact .inr ⟨x,t,rfl,e⟩
theorem tu(i:Int)(t:Tok):iO (.inl i) (.int i t)=true:=by simp[iO,Value.isInt]
theorem tz(x:Str)(t:Tok):iO (.inr x) (.str x t)=true:=by simp[iO,Value.isStrOf]
theorem Ar(a b:Int):decide ((Sum.inl a:Key)=Sum.inl b)=(a==b):=by
 by_cases e:a=b
 ·subst e;simp
 ·have h:¬(Sum.inl a:Key)=Sum.inl b:=fun q=>e (Sum.inl.inj q);rw[decide_eq_false h];exact(Yw.mpr e).symm
theorem Av(a b:Str):decide ((Sum.inr a:Key)=Sum.inr b)=decide (a=b):=by
 by_cases e:a=b
 ·subst e;simp
 ·have h:¬(Sum.inr a:Key)=Sum.inr b:=fun q=>e (Sum.inr.inj q);rw[decide_eq_false h,decide_eq_false e]
theorem At(a:Int)(b:Str):decide ((Sum.inl a:Key)=Sum.inr b)=false:=decide_eq_false (fun q=>nomatch q)
theorem Au(a:Str)(b:Int):decide ((Sum.inr a:Key)=Sum.inl b)=false:=decide_eq_false (fun q=>nomatch q)
def aK(prog:Program)(w:World):PySem.KeyKind prog w Key where
 is:=iO
 hash:=CT w
 inj:=fun v a b ha hb=>by
  rcases bj ha with⟨i,t,rfl,rfl⟩|⟨x,t,rfl,rfl⟩
  ·rcases bj hb with⟨j,u,rfl,e⟩|⟨y,u,rfl,e⟩
   ·injection e with e1 _;rw[e1]
   ·exact nomatch e
  ·rcases bj hb with⟨j,u,rfl,e⟩|⟨y,u,rfl,e⟩
   ·exact nomatch e
   ·injection e with e1 _;rw[e1]
 byValue:=fun k v h=>by rcases bj h with⟨i,t,rfl,rfl⟩|⟨x,t,rfl,rfl⟩<;>rfl
 pyHash:=fun hv h=>by
  rcases bj hv with⟨i,t,rfl,rfl⟩|⟨x,t,rfl,rfl⟩
  ·exact wpAny_pyHash_int h
  ·exact wpAny_pyHash_str h
 eqBool:=fun hu hv h=>by
  rcases bj hu with⟨i,t,rfl,rfl⟩|⟨x,t,rfl,rfl⟩
  ·rcases bj hv with⟨j,u,rfl,rfl⟩|⟨y,u,rfl,rfl⟩
   ·rw[Ar]at h;exact wpAny_eqBool_int h
   ·rw[At]at h;exact SeqAt.EqAt.int_str i t y u _ _ _ _ h
  ·rcases bj hv with⟨j,u,rfl,rfl⟩|⟨y,u,rfl,rfl⟩
   ·rw[Au]at h;exact SeqAt.EqAt.str_int x t j u _ _ _ _ h
   ·rw[Av]at h;exact wpAny_eqBool_str h
 «strs»:=fun k x t v h=>by
  rcases bj h with⟨i,u,rfl,e⟩|⟨y,u,rfl,e⟩
  ·exact nomatch e
  ·injection e with e1 _;subst e1;cases v<;>rfl
theorem pJ(prog:Program)(w:World)(i:Int)(t:Tok):(aK prog w).is (.inl i) (.int i t)=true:=tu i t
theorem pK(prog:Program)(w:World)(x:Str)(t:Tok):(aK prog w).is (.inr x) (.str x t)=true:=tz x t
open PySem PySem.Spec PyProof.Rows
inductive V where
 |non|bl (b:Bool)|int (i:Int)|str (x:Str)|byt (b:Array UInt8)|flt (b:UInt64)|ref (a:Addr)|ty (n:String)
 deriving DecidableEq
def RelV:V->Value->Prop
 |.non,u=>u=Value.none
 |.bl b,u=>u=Value.bool b
 |.int i,u=>∃t,u=Value.int i t
 |.str x,u=>∃t,u=Value.str x t
 |.byt b,u=>∃t,u=Value.bytes b t
 |.flt b,u=>∃t,u=Value.float b t
 |.ref a,u=>u=Value.ref a
 |.ty n,u=>u=Value.type n
abbrev Vals:List V->List Value->Prop:=Paired RelV
theorem Vals.length{xs:List V}{us:List Value}(r:Vals xs us):xs.length=us.length:=Zy r
theorem Vals.get:∀{xs:List V} {us:List Value} {i:Nat} {x:V},Vals xs us->xs[i]?=some x->∃u,us[i]?=some u/\RelV x u
 |_,_,_,_,.nil,e=>by simp at e
 |_,_,0,_,.cons r _,e=>by simp at e;subst e;exact⟨_,rfl,r⟩
 |_,_,i+1,x,.cons _ t,e=>by obtain⟨u,h1,h2⟩:=Vals.get (i:=i) (x:=x) t (by simpa using e);exact⟨u,by simpa using h1,h2⟩
theorem Vals.append:∀{xs ys:List V} {us ws:List Value},Vals xs us->Vals ys ws->Vals (xs++ys) (us++ws)
 |_,_,_,_,.nil,s=>s
 |_,_,_,_,.cons r t,s=>.cons r (Vals.append t s)
theorem Vals.take:∀{xs:List V} {us:List Value} (n:Nat),Vals xs us->Vals (xs.take n) (us.take n)
 |_,_,0,_=>.nil
 |_,_,_+1,.nil=>.nil
 |_,_,n+1,.cons r t=>.cons r (Vals.take n t)
theorem Vals.drop:∀{xs:List V} {us:List Value} (n:Nat),Vals xs us->Vals (xs.drop n) (us.drop n)
 |_,_,0,r=>r
 |_,_,_+1,.nil=>.nil
 |_,_,n+1,.cons _ t=>Vals.drop n t
def RelO:Option V->Option Value->Prop
 |some v,some u=>RelV v u
 |none,none=>True
 |_,_=>False
def KV{κ:Type}:List (κ×V)->List (κ×Value)->Prop:=Paired fun(p:κ×V) (q:κ×Value)=>p.1=q.1/\RelV p.2 q.2
def kV:Key->V
 |.inl i=>.int i
 |.inr x=>.str x
inductive HO where
 |lst (xs:List V)
 |tup (xs:List V)
 |dK (kvs:List (Key×V))|dT (kvs:List (List Key×V))
 |set (S:Int->Bool)(n:Nat)
 |ins (C dx:Addr)(fs:List (Str×V))
 |own (x:Addr)
 |xd (fs:List (Str×V))
 |met (f x:Addr)
 |rng (lo hi:Int)
 |frz (o:Obj)(u:HO)
 |tbl (ps:Array Value)
 |ext (φ:Heap->Prop)
abbrev Hp:=Addr->Option HO
def upd(H:Hp)(a:Addr)(o:HO):Hp:=fun b=>if b=a then some o else H b
theorem af{H:Hp}{a:Addr}{o:HO}:upd H a o a=some o:=by unfold upd;rw[if_pos rfl]
theorem ad{H:Hp}{a b:Addr}{o:HO}(h:b≠a):upd H a o b=H b:=by unfold upd;rw[if_neg h]
theorem fA{H:Hp}{a b:Addr}{o u:HO}(h:H a=some o)(h':H b=some u)(d:o≠u):a≠b:=by intro e;subst e;rw[h]at h';exact d (Zs h')
theorem ag{H:Hp}{a b:Addr}{o:HO}(h:H a=some o)(h':H b=none):a≠b:=by intro e;subst e;rw[h]at h';cases h'
section
variable(P:Program)(w:World)
def ObjOk(H:Hp)(h:Heap)(a:Addr):HO->Prop
 |.lst xs=>xs.length<=sizeLine/\∃(its:List Value) (n:Nat),Vals xs its/\h.get? a=some { cls:=.type "list",data:=.seq its.toArray n }
 |.tup xs=>xs.length<=sizeLine/\∃its:List Value,Vals xs its/\IsTup h a its.toArray
 |.dK kvs=>kvs.length<=sizeLine/\(a==sysModules)=false/\∃vs,KV kvs vs/\h.DictOf (aK P w) a vs
 |.dT kvs=>kvs.length<=sizeLine/\(a==sysModules)=false/\∃xs:List (List Key×Addr×Value),
   Paired (fun(p:List Key×V) (q:List Key×Addr×Value)=>p.1=q.1/\H q.2.1=some (.tup (p.1.map kV))/\RelV p.2 q.2.2) kvs xs /\
   ∃o es ep,h.get? a=some o/\o.ExactDict/\o.data=.dict es ep/\es.toList=xs.map (entryOfKey (tupleKind (aK P w)))/\(xs.map (·.1)).Nodup
 |.set S n=>h.SetOf (intKind P w) a S n
 |.ins C dx fs=>H dx=some (.own a)/\fs.length<=1000/\dx≠a/\h.get? a=some (PySem.W.instObj C dx) /\
   ∃mA,h.Ns1 dx mA/\(∀f,RelO (fs.lookup f) (mA f))/\PySem.Within mA (fs.map (·.1))
 |.own _=>∃o,h.get? a=some o
 |.xd fs=>∃mA,h.Ns1 a mA/\∀f,RelO (fs.lookup f) (mA f)
 |.rng lo hi=>∃t u v,h.get? a=some { cls:=.type "range",data:=.fields #[.int lo t,.int hi u,.int 1 v] }
 |.frz o u=>h.get? a=some o/\ObjOk H h a u
 |.tbl ps=>h.get? a=some { cls:=.none,data:=.fields ps }
 |.met f x=>h.get? a=some (PySem.W.methodObj (.ref f) (.ref x))
 |.ext φ=>φ h/\(∃o,h.get? a=some o)/\∀h1 h2:Heap,φ h1->(∀o,h1.get? a=some o->h2.get? a=some o)->φ h2
def HOk(H:Hp)(h:Heap):Prop:=∀a o,H a=some o->ObjOk P w H h a o
end
section
variable{P:Program}{w:World}{H H':Hp}{h h':Heap}{a:Addr}{o:HO}
theorem ObjOk.lt(x:ObjOk P w H h a o):a<h.objs.size:=by
 cases o with
 |lst xs=>obtain⟨_,_,_,_,e⟩:=x;exact Zm e
 |tup xs=>obtain⟨_,_,_,p⟩:=x;exact p.lt
 |dK kvs=>obtain⟨_,_,_,_,o,_,_,e,_⟩:=x;exact Zm e
 |dT kvs=>obtain⟨_,_,_,_,o,_,_,e,_⟩:=x;exact Zm e
 |set S n=>obtain⟨o,_,_,_,e,_⟩:=x;exact Zm e
 |ins C dx fs=>obtain⟨_,_,_,e,_⟩:=x;exact Zm e
 |own y=>obtain⟨_,e⟩:=x;exact Zm e
 |xd fs=>obtain⟨_,⟨_,_,_,e,_⟩,_⟩:=x;exact Zm e
 |rng lo hi=>obtain⟨_,_,_,e⟩:=x;exact Zm e
 |frz ob u=>obtain⟨e,_⟩:=x;exact Zm e
 |tbl ps=>exact Zm (show h.get? a=some _ from x)
 |met f y=>exact Zm (show h.get? a=some _ from x)
 |ext φ=>obtain⟨_,⟨_,e⟩,_⟩:=x;exact Zm e
theorem Paired.mapP{α β:Type}{F G:α->β->Prop}:∀{l₁:List α} {l₂:List β},Paired F l₁ l₂->(∀a b,F a b->G a b)->Paired G l₁ l₂
 |_,_,.nil,_=>.nil
 |_,_,.cons r t,f=>.cons (f _ _ r) (Paired.mapP t f)
theorem ObjOk.stay(x:ObjOk P w H h a o)(k:∀b u,(b=a\/H b=some (.own a))->h.get? b=some u->h'.get? b=some u)(ho:∀b,H b=some (.own a)->H' b=some (.own a))(ht:∀b xs,H b=some (.tup xs)->H' b=some (.tup xs)):ObjOk P w H' h' a o:=by
 induction o with
 |lst xs=>obtain⟨z,its,n,r,e⟩:=x;exact⟨z,its,n,r,k _ _ (.inl rfl) e⟩
 |tup xs=>obtain⟨z,its,r,ob,e,c⟩:=x;exact⟨z,its,r,ob,k _ _ (.inl rfl) e,c⟩
 |dK kvs=>obtain⟨z,y,vs,r,ob,es,ep,e,c⟩:=x;exact⟨z,y,vs,r,ob,es,ep,k _ _ (.inl rfl) e,c⟩
 |dT kvs =>obtain⟨z,y,xs,r,ob,es,ep,e,c⟩:=x;exact⟨z,y,xs,Paired.mapP r fun p q z=>⟨z.1,ht _ _ z.2.1,z.2.2⟩,ob,es,ep,k _ _ (.inl rfl) e,c⟩
 |set S n=>obtain⟨ob,es,ep,t,e,c⟩:=x;exact⟨ob,es,ep,t,k _ _ (.inl rfl) e,c⟩
 |ins C dx fs =>obtain⟨d,z,ne,e,mA,⟨od,es,ep,e2,c⟩,r⟩:=x;exact⟨ho _ d,z,ne,k _ _ (.inl rfl) e,mA,⟨od,es,ep,k _ _ (.inr d) e2,c⟩,r⟩
 |own y=>obtain⟨ob,e⟩:=x;exact⟨ob,k _ _ (.inl rfl) e⟩
 |xd fs=>obtain⟨mA,⟨od,es,ep,e,c⟩,r⟩:=x;exact⟨mA,⟨od,es,ep,k _ _ (.inl rfl) e,c⟩,r⟩
 |rng lo hi=>obtain⟨t,u,v,e⟩:=x;exact⟨t,u,v,k _ _ (.inl rfl) e⟩
 |frz ob u ih=>obtain⟨e,q⟩:=x;exact⟨k _ _ (.inl rfl) e,ih q⟩
 |tbl ps =>have e:h.get? a=some { cls:=.none,data:=.fields ps }:=x;show h'.get? a=some { cls:=.none,data:=.fields ps };exact k a _ (.inl rfl) e
 |met f y =>have e:h.get? a=some (PySem.W.methodObj (.ref f) (.ref y)):=x;show h'.get? a=some (PySem.W.methodObj (.ref f) (.ref y));exact k a _ (.inl rfl) e
 |ext φ=>obtain⟨p,⟨o,e⟩,st⟩:=x;exact⟨st _ _ p fun o q=>k _ _ (.inl rfl) q,⟨o,k _ _ (.inl rfl) e⟩,st⟩
theorem HOk.lt(x:HOk P w H h)(e:H a=some o):a<h.objs.size:=(x a o e).lt
theorem HOk.fresh(x:HOk P w H h)(e:h.objs.size<=a):H a=none:=by
 cases q:H a with
 |none=>rfl
 |some u=>exact absurd (Zw (x.lt q) e) (Yq _)
theorem HOk.kept(x:HOk P w H h)(k:∀b u,h.get? b=some u->h'.get? b=some u):HOk P w H h':=fun a o e =>
 (x a o e).stay (fun b u _ q=>k b u q) (fun _ q=>q) fun _ _ q=>q
theorem HOk.laid(x:HOk P w H h)(k:∀b u,h.get? b=some u->h'.get? b=some u)(hp:h.objs.size<=a)(new:ObjOk P w (upd H a o) h' a o):HOk P w (upd H a o) h':=fun b u e=>by
 have hn:=x.fresh hp;by_cases hb:b=a
 ·subst hb;rw[af]at e;cases e;exact new
 ·rw[ad hb]at e;exact(x b u e).stay (fun c v _ q=>k c v q) (fun c q=>by rw[ad (ag q hn)];exact q) fun c xs q=>by rw[ad (ag q hn)];exact q
end
def Rd(H:Hp)(a:Addr)(u:HO):Prop:=H a=some u\/∃o,H a=some (.frz o u)
theorem Rd.of{H:Hp}{a:Addr}{u:HO}(h:H a=some u):Rd H a u:=.inl h
theorem Rd.ok{P:Program}{w:World}{H:Hp}{h:Heap}{a:Addr}{u:HO}(r:Rd H a u)(x:HOk P w H h):ObjOk P w H h a u:=by
 rcases r with r|⟨o,r⟩
 ·exact x a u r
 ·obtain⟨_,q⟩:=x a _ r;exact q
def Mut:Option HO->Prop
 |some (.lst _)=>True
 |some (.dK _)=>True
 |some (.dT _)=>True
 |some (.set _ _)=>True
 |some (.ins _ _ _)=>True
 |some (.ext _)=>True
 |_=>False
section
variable{P:Program}{w:World}{H:Hp}{h h':Heap}{x e:Addr}{o':HO}
theorem HOk.write(ok:HOk P w H h)(mu:Mut (H x))(he:e=x\/H e=some (.own x))(k:∀b u,b≠e->h.get? b=some u->h'.get? b=some u)(heo:∃u,h'.get? e=some u)(new:ObjOk P w (upd H x o') h' x o'):HOk P w (upd H x o') h':=fun b u q=>by
 have nown:∀c y,H c=some (.own y)->c≠x:=fun c y r z=>by subst z;rw[r]at mu;exact mu
 have ntup:∀c xs,H c=some (.tup xs)->c≠x:=fun c xs r z=>by subst z;rw[r]at mu;exact mu
 by_cases hb:b=x
 ·subst hb;rw[af]at q;cases q;exact new
 ·rw[ad hb]at q;by_cases hbe:b=e
  ·have q':H b=some (.own x):=by
    rcases he with z|z
    ·exact absurd (hbe.trans z) hb
    ·rw[hbe];exact z
   rw[q]at q';cases q';obtain⟨v,hv⟩:=heo;exact⟨v,by rw[hbe];exact hv⟩
  ·refine(ok b u q).stay (fun c v hc r=>k c v ?_ r) (fun c r=>by rw[ad (nown c b r)];exact r) fun c xs r=>by rw[ad (ntup c xs r)];exact r
   rcases hc with rfl|hc
   ·exact hbe
   ·rintro rfl;rcases he with z|z
    ·exact nown c b hc z
    ·rw[hc]at z;cases z;exact hb rfl
end
structure Un(fs ex:List Addr)(H H':Hp)(h h':Heap):Prop where
 keep:∀b o,h.get? b=some o->H b=none->b∉fs->b∉ex->h'.get? b=some o
 slot:∀b o,h.get? b=some o->H b=none->b∈fs->b∉ex->∃sl,h'.get? b=some { o with slots:=sl }
 free:∀b o,h.get? b=some o->H b=none->b∉ex->H' b=none
 there:∀b o,h.get? b=some o->b∉ex->∃o',h'.get? b=some o'
 tups:∀b xs,H b=some (.tup xs)->H' b=some (.tup xs)
 frzs:∀b o u,H b=some (.frz o u)->H' b=some (.frz o u)
 tbls:∀b ps,H b=some (.tbl ps)->∃more,H' b=some (.tbl (ps++more))
section
variable{fs fs' ex ex':List Addr}{H H1 H2:Hp}{h h1 h2 h':Heap}{a x e:Addr}{o:HO}
theorem Un.any(u:Un fs ex H H1 h h1){b:Addr}{ob:Obj}(q:h.get? b=some ob)(n:H b=none)(hx:b∉ex):∃sl,h1.get? b=some { ob with slots:=sl }:=by
 by_cases hb:b∈fs
 ·exact u.slot b ob q n hb hx
 ·exact⟨ob.slots,u.keep b ob q n hb hx⟩
theorem Un.kept(k:∀b u,h.get? b=some u->h'.get? b=some u):Un fs ex H H h h' :=
 ⟨fun b ob q _ _ _=>k b ob q,fun b ob q _ _ _=>⟨ob.slots,k b ob q⟩,fun _ _ _ n _=>n,fun b ob q _=>⟨ob,k b ob q⟩,fun _ _ q=>q,fun _ _ _ q=>q,fun _ ps q=>⟨#[],by rw[q];simp⟩⟩
theorem Un.refl:Un fs ex H H h h:=Un.kept fun _ _ q=>q
theorem Un.laid(k:∀b u,h.get? b=some u->h'.get? b=some u)(hp:h.objs.size<=a)(hn:H a=none):Un fs ex H (upd H a o) h h' where
 keep:=fun b u q _ _ _=>k b u q
 slot:=fun b u q _ _ _=>⟨u.slots,k b u q⟩
 free:=fun b u q n _=>by rw[ad (Zv (Zw (Zm q) hp))];exact n
 there:=fun b u q _=>⟨u,k b u q⟩
 tups:=fun b xs q=>by rw[ad (ag q hn)];exact q
 frzs:=fun b u xs q=>by rw[ad (ag q hn)];exact q
 tbls:=fun b ps q=>⟨#[],by rw[ad (ag q hn),q];simp⟩
theorem Un.write(mu:Mut (H x))(he:e=x\/H e=some (.own x))(k:∀b u,b≠e->h.get? b=some u->h'.get? b=some u)(heo:∃u,h'.get? e=some u):Un fs ex H (upd H x o) h h':=by
 have hx:∀b,H b=none->b≠x:=fun b n z=>by subst z;rw[n]at mu;exact mu
 have hb:∀b,H b=none->b≠e:=fun b n z=>by
  subst z;rcases he with r|r
  ·exact hx b n r
  ·rw[n]at r;cases r
 have hm:∀b u,H b=some u->¬Mut (some u)->b≠x:=fun b u q nm z=>by subst z;rw[q]at mu;exact nm mu
 refine⟨fun b u q n _ _=>k b u (hb b n) q,fun b u q n _ _=>⟨u.slots,k b u (hb b n) q⟩,fun b u q n _=>by rw[ad (hx b n)];exact n,fun b u q _=>?_,
  fun b xs q=>by rw[ad (hm b _ q fun z=>z)];exact q,fun b u xs q=>by rw[ad (hm b _ q fun z=>z)];exact q,fun b ps q=>⟨#[],by rw[ad (hm b _ q fun z=>z),q];simp⟩⟩
 by_cases hbe:b=e
 ·subst hbe;exact heo
 ·exact⟨u,k b u hbe q⟩
end
def trk(h:Heap)(H:Hp):List Addr:=(List.range h.objs.size).filter fun a=>(H a).isSome
def fF(h:Heap)(H:Hp):Heap:=PySem.W.hideAll h (trk h H)
theorem tj(h:Heap)(H:Hp):(fF h H).objs.size=h.objs.size:=PySem.W.hideAll_size _ _
theorem gz{h:Heap}{H:Hp}{b:Addr}{o:Obj}(e:h.get? b=some o)(n:H b=none):(fF h H).get? b=some o :=
 PySem.W.hideAll_get _ e fun hm=>by have q:(H b).isSome=true:=(Ye.mp hm).2;rw[n]at q;simp at q
theorem yB{h:Heap}{H:Hp}{b:Addr}{o:Obj}(e:(fF h H).get? b=some o):h.get? b=some o/\H b=none:=by
 have e':h.get? b=some o:=PySem.W.of_hideAll (trk h H) e;refine⟨e',?_⟩;cases q:H b with
 |none=>rfl
 |some x =>have hm:b∈trk h H:=Ye.mpr ⟨Yr.mpr (Zm e'),by simp[q]⟩;have z:(fF h H).get? b=none:=PySem.W.hideAll_none (trk h H) hm;rw[z]at e;cases e
open PySem PySem.Spec PyProof.Rows
structure Mod(K:PySem.W.Frag)(mg:Str->Option Value)(base:Heap):Prop where
 kin:K.In base
 glob:base.Ns mainGlobals mg
 blt:∃mb,base.Ns builtinsNs mb/\∀x:Str,x≠"__name__"->mb x=bootBuiltins x
 nolimit:base.NoLimit
structure Cx where
 prog:Program
 w:World
 K:PySem.W.Frag
 mg:Str->Option Value
 base:Heap
 A:Around
 N:List Str
 s₀:Shared
 H₀:Hp
 env:Env
 outer:List Env
 stack:List Env
 ex:List Addr
 fn:Str->Bool
 calm:Bool
 pn:List (Addr×Obj)
 xe:Value->Shared->Prop
def frs(l:List Env):List Addr:=l.filterMap (·.frame)
abbrev Cx.fs(X:Cx):List Addr:=frs X.outer
def Vis(sc:Scope)(x:Str):Prop:=sc.names.lookup x=some .local\/sc.names.lookup x=some .cell\/sc.names.lookup x=some .free
def Loc(sc:Scope)(x:Str):Prop:=sc.names.lookup x=some .local\/sc.names.lookup x=some .cell
def CN(env:Env)(h:Heap)(m:Str->Option Value)(x:Str)(u:Value):Prop :=
 (env.kindOf x=some .local/\m x=some u)\/((env.kindOf x=some .cell\/env.kindOf x=some .free)/\∃c,env.cells.lookup x=some c/\h.IsCell c (some u))
structure Cx.Ok(X:Cx):Prop where
 mod:Mod X.K X.mg X.base
 kind:X.env.scope.kind=.function
 glob:X.env.globals=mainGlobals
 blt:X.env.builtins=builtinsNs
 above:X.s₀.heap.objs.size<=X.env.locals
 inj:∀x y c,X.env.cells.lookup x=some c->X.env.cells.lookup y=some c->x=y
 has:∀x,(X.env.kindOf x=some .cell\/X.env.kindOf x=some .free)->∃c,X.env.cells.lookup x=some c
 cab:∀x c,X.fn x=true->X.env.cells.lookup x=some c->X.s₀.heap.objs.size<=c
 hd:X.calm=true->X.A.handled=none
 frames:X.A.frames=some X.stack
 stk:X.stack=X.outer\/(X.stack=X.env::X.outer/\X.env.frame=some X.env.locals)
 exf:∀b∈X.ex,b≠X.env.locals/\∀x c,X.env.cells.lookup x=some c->c≠b
 bs:∀b o,X.base.get? b=some o->X.s₀.heap.get? b=some o/\X.H₀ b=none
 bsz:X.base.objs.size<=X.s₀.heap.objs.size
 noex:∀b o,X.base.get? b=some o->b∉X.ex
 exfs:∀b∈X.ex,b∉X.fs
 funs:X.s₀.heap.FunFrames X.base X.outer
 frf:∀b∈X.fs,X.H₀ b=none
structure Inv(X:Cx)(pins:List (Addr×Obj))(σ:List (Option V))(H:Hp)(s:Shared):Prop where
 ok:X.Ok
 os:s.os=X.s₀.os
 bare:AllBare s.gens
 base:Un X.fs X.ex X.H₀ H X.s₀.heap s.heap
 loc:∃m,s.heap.Ns X.env.locals m/\∀(i:Nat) (x:Str) (v:V),X.N[i]?=some x->σ[i]?=some (some v)->Vis X.env.scope x->∃u,RelV v u/\CN X.env s.heap m x u
 cell:∀x c,X.env.cells.lookup x=some c->∃v,s.heap.IsCell c v
 free:H X.env.locals=none
 freeC:∀x c,X.env.cells.lookup x=some c->H c=none
 pin:∀p∈X.pn++pins,s.heap.get? p.1=some p.2/\H p.1=none/\p.1≠X.env.locals/\p.1∉X.fs/\∀v,p.2.data≠.cell v
 hok:HOk X.prog X.w H s.heap
 len:σ.length=X.N.length
section
variable{X:Cx}{pins:List (Addr×Obj)}{σ:List (Option V)}{H H':Hp}{s:Shared}{h':Heap}
theorem Cx.Ok.nofr(ok:X.Ok){b:Addr}{o:Obj}(e:X.base.get? b=some o):b∉X.fs:=fun hb=>by have:=(ok.funs.mem hb).1;rw[e]at this;cases this
theorem Inv.bs(I:Inv X pins σ H s):∀b o,X.base.get? b=some o->s.heap.get? b=some o/\H b=none:=fun b o e =>
 ⟨I.base.keep b o (I.ok.bs b o e).1 (I.ok.bs b o e).2 (I.ok.nofr e) (I.ok.noex b o e),I.base.free b o (I.ok.bs b o e).1 (I.ok.bs b o e).2 (I.ok.noex b o e)⟩
theorem Inv.bk(I:Inv X pins σ H s):∀b o,X.base.get? b=some o->s.heap.get? b=some o:=fun b o e=>(I.bs b o e).1
theorem Inv.mod(I:Inv X pins σ H s):Mod X.K X.mg X.base:=I.ok.mod
theorem Inv.kIn(I:Inv X pins σ H s):X.K.In s.heap:=I.ok.mod.kin.keeps I.bk
theorem Inv.fr(I:Inv X pins σ H s):∃m,Fr X.base X.env.locals s.heap m :=
 let⟨m,hn,_⟩:=I.loc
 ⟨m,hn,I.bk,Zx I.ok.bsz I.ok.above⟩
theorem Inv.lt(I:Inv X pins σ H s):X.env.locals<s.heap.objs.size:=let⟨_,hn,_⟩:=I.loc;hn.lt
theorem Inv.sz(I:Inv X pins σ H s):X.s₀.heap.objs.size<=s.heap.objs.size:=Zx I.ok.above (Nat.le_of_lt I.lt)
theorem Inv.nofs(I:Inv X pins σ H s){a:Addr}(h:s.heap.objs.size<=a):a∉X.fs:=fun hb=>by obtain⟨_,o,ho,_⟩:=I.ok.funs.mem hb;exact absurd (Zw (Zm ho) (Zx I.sz h)) (Yq _)
theorem Inv.cne(I:Inv X pins σ H s):∀x c,X.env.cells.lookup x=some c->c≠X.env.locals:=fun x c e z=>by obtain⟨v,o,ho,hd⟩:=I.cell x c e;obtain⟨m,⟨o',es,ep,ho',hd',_⟩,_⟩:=I.loc;rw[z,ho']at ho;cases ho;rw[hd']at hd;cases hd
theorem Inv.funs(I:Inv X pins σ H s):s.heap.FunFrames X.base X.outer:=by
 have all:∀(l:List Env),(∀b∈frs l,b∈X.fs)->X.s₀.heap.FunFrames X.base l->s.heap.FunFrames X.base l:=by
  intro l;induction l with
  |nil=>intro _ _;trivial
  |cons env r ih =>intro hs hl;obtain⟨hk,⟨L,o,hf,hn,ho,hd⟩,hr⟩:=hl;have hL:L∈X.fs:=hs L (by unfold frs;rw[List.filterMap_cons,hf];exact Zr);obtain⟨sl,e⟩:=I.base.slot L o ho (I.ok.frf L hL) hL fun z=>I.ok.exfs L z hL;exact⟨hk,⟨L,_,hf,hn,e,hd⟩,ih (fun b hb=>hs b (by unfold frs;rw[List.filterMap_cons,hf];exact Zh _ hb)) hr⟩
 exact all X.outer (fun _ hb=>hb) I.ok.funs
theorem Inv.stack(I:Inv X pins σ H s):s.heap.FunFrames X.base X.stack:=by
 rcases I.ok.stk with e|⟨e,hf⟩
 ·rw[e];exact I.funs
 ·rw[e];obtain⟨m,hn,_⟩:=I.loc;refine .cons (by rw[I.ok.kind];decide) hf hn ?_ I.funs;exact YE (Zx I.ok.bsz I.ok.above)
theorem Inv.stkSub(I:Inv X pins σ H s):∀b∈frs X.stack,b∈X.env.locals::X.fs:=fun b hb=>by
 rcases I.ok.stk with e|⟨e,hf⟩
 ·rw[e]at hb;exact Zh _ hb
 ·rw[e]at hb;unfold frs at hb;rw[List.filterMap_cons,hf]at hb;exact hb
theorem Inv.stkFree(I:Inv X pins σ H s):∀b∈frs X.stack,H b=none:=fun b hb=>by
 rcases Zq.mp (I.stkSub b hb)with e|hb
 ·rw[e];exact I.free
 ·obtain⟨_,o,ho,_⟩:=I.ok.funs.mem hb;exact I.base.free b o ho (I.ok.frf b hb) fun z=>I.ok.exfs b z hb
theorem Inv.step{g':Array GenState}{t':Nat}{d':Drawn}{ch:List Addr}(I:Inv X pins σ H s)(hch:∀b∈ch,(b∈X.ex\/X.s₀.heap.objs.size<=b)/\b≠X.env.locals/\(∀x c,X.env.cells.lookup x=some c->c≠b)/\∀p∈X.pn++pins,p.1≠b)(keep:∀b o,b≠X.env.locals->b∉X.fs->b∉ch->s.heap.get? b=some o->H b=none->h'.get? b=some o)(slot:∀b o,b≠X.env.locals->b∈X.fs->b∉ch->s.heap.get? b=some o->H b=none->∃sl,h'.get? b=some { o with slots:=sl })(free:∀b o,b∉ch->s.heap.get? b=some o->H b=none->H' b=none)(there:∀b o,b∉ch->s.heap.get? b=some o->∃o',h'.get? b=some o')(tups:∀b xs,H b=some (.tup xs)->H' b=some (.tup xs))(frzs:∀b o u,H b=some (.frz o u)->H' b=some (.frz o u))(tbls:∀b ps,H b=some (.tbl ps)->∃more,H' b=some (.tbl (ps++more)))(ns:∀m,s.heap.Ns X.env.locals m->h'.Ns X.env.locals m)(hok:HOk X.prog X.w H' h')(hg:AllBare g') :
  Inv X pins σ H' { s with heap:=h',gens:=g',drawn:=d',toks:=t' }:=by
 have neL:∀b o,X.s₀.heap.get? b=some o->b≠X.env.locals:=fun b o e=>Zv (Zw (Zm e) I.ok.above);have neC:∀b o,X.s₀.heap.get? b=some o->b∉X.ex->b∉ch:=fun b o e hx hb=>by
  rcases(hch b hb).1 with z|z
  ·exact hx z
  ·exact absurd (Zw (Zm e) z) (Yq _)
 have cellK:∀x c,X.env.cells.lookup x=some c->∀v,s.heap.IsCell c v->h'.IsCell c v:=fun x c e v ⟨o,ho,hd⟩=>by
  have nch:c∉ch:=fun z=>(hch c z).2.2.1 x c e rfl;by_cases hc:c∈X.fs
  ·obtain⟨sl,q⟩:=slot c o (I.cne x c e) hc nch ho (I.freeC x c e);exact⟨_,q,hd⟩
  ·exact⟨o,keep c o (I.cne x c e) hc nch ho (I.freeC x c e),hd⟩
 refine⟨I.ok,I.os,hg,⟨fun b o e n hb hx=>?_,fun b o e n hb hx=>?_,fun b o e n hx=>?_,fun b o e hx=>?_,fun b xs e=>tups b xs (I.base.tups b xs e),fun b o xs e=>frzs b o xs (I.base.frzs b o xs e),fun b ps e=>?_⟩,?_,fun x c e=>?_,?_,fun x c e=>?_,fun p hp=>?_,hok,I.len⟩
 ·exact keep b o (neL b o e) hb (neC b o e hx) (I.base.keep b o e n hb hx) (I.base.free b o e n hx)
 ·obtain⟨sl,e1⟩:=I.base.slot b o e n hb hx;obtain⟨sl',e2⟩:=slot b _ (neL b o e) hb (neC b o e hx) e1 (I.base.free b o e n hx);exact⟨sl',e2⟩
 ·obtain⟨o',e1⟩:=I.base.there b o e hx;exact free b o' (neC b o e hx) e1 (I.base.free b o e n hx)
 ·obtain⟨o',e1⟩:=I.base.there b o e hx;exact there b o' (neC b o e hx) e1
 ·obtain⟨m1,e1⟩:=I.base.tbls b ps e;obtain⟨m2,e2⟩:=tbls b _ e1;exact⟨m1++m2,by rw[e2,Array.append_assoc]⟩
 ·obtain⟨m,hn,hl⟩:=I.loc;refine⟨m,ns m hn,fun i x v e1 e2 e3=>?_⟩;obtain⟨u,r,l⟩:=hl i x v e1 e2 e3;refine⟨u,r,?_⟩;rcases l with l|⟨k,c,e,z⟩
  ·exact .inl l
  ·exact .inr ⟨k,c,e,cellK x c e _ z⟩
 ·obtain⟨v,z⟩:=I.cell x c e;exact⟨v,cellK x c e v z⟩
 ·obtain⟨m,⟨o,_,_,ho,_⟩,_⟩:=I.loc;exact free _ o (fun z=>(hch _ z).2.1 rfl) ho I.free
 ·obtain⟨v,o,ho,hd⟩:=I.cell x c e;exact free c o (fun z=>(hch c z).2.2.1 x c e rfl) ho (I.freeC x c e)
 ·obtain⟨e,n,ne,nf,d⟩:=I.pin p hp;have nch:p.1∉ch:=fun z=>(hch p.1 z).2.2.2 p hp rfl;exact⟨keep p.1 p.2 ne nf nch e n,free p.1 p.2 nch e n,ne,nf,d⟩
theorem Inv.un{t':Nat}(I:Inv X pins σ H s)(u:Un X.fs [] H H' s.heap h')(hok:HOk X.prog X.w H' h'):Inv X pins σ H' { s with heap:=h',toks:=t' }:=by
 obtain⟨m,⟨o,es,ep,ho,r⟩,_⟩:=id I.loc;obtain⟨sl,hL⟩:=u.any ho I.free (by simp);exact I.step (g':=s.gens) (d':=s.drawn) (ch:=[]) (fun _ z=>nomatch z) (fun b o _ hb _ e n=>u.keep b o e n hb (by simp)) (fun b o _ hb _ e n=>u.slot b o e n hb (by simp)) (fun b o _ e n=>u.free b o e n (by simp)) (fun b o _ e=>u.there b o e (by simp)) u.tups u.frzs u.tbls (fun m' hm=>by
  obtain⟨o',es',ep',ho',r'⟩:=hm;rw[ho]at ho';cases ho';exact⟨_,es',ep',hL,r'⟩) hok I.bare
theorem Inv.call{g':Array GenState}{t':Nat}{d':Drawn}{ch:List Addr}(I:Inv X pins σ H s)(u:Un (frs X.stack) ch H H' s.heap h')(hok:HOk X.prog X.w H' h')(hg:AllBare g')(hch:∀b∈ch,(b∈X.ex\/X.s₀.heap.objs.size<=b)/\b≠X.env.locals/\(∀x c,X.env.cells.lookup x=some c->c≠b)/\∀p∈X.pn++pins,p.1≠b) :
  Inv X pins σ H' { s with heap:=h',gens:=g',drawn:=d',toks:=t' }:=by
 obtain⟨m,⟨o,es,ep,ho,r⟩,_⟩:=id I.loc;obtain⟨sl,hL⟩:=u.any ho I.free fun z=>(hch _ z).2.1 rfl;exact I.step (ch:=ch) hch (fun b o hL hb hc e n=>u.keep b o e n (fun z=>(Zq.mp (I.stkSub b z)).elim hL hb) hc) (fun b o _ _ hc e n=>u.any e n hc) (fun b o hc e n=>u.free b o e n hc) (fun b o hc e=>u.there b o e hc) u.tups u.frzs u.tbls (fun m' hm=>by
  obtain⟨o',es',ep',ho',r'⟩:=hm;rw[ho]at ho';cases ho';exact⟨_,es',ep',hL,r'⟩) hok hg
theorem Inv.turned{t':Nat}{it:Addr}(I:Inv X pins σ H s)(k:∀b o,b≠it->s.heap.get? b=some o->h'.get? b=some o)(hn:H it=none)(hL:it≠X.env.locals)(h1:it∈X.ex\/X.s₀.heap.objs.size<=it)(h2:∀x c,X.env.cells.lookup x=some c->c≠it)(h3:∀p∈X.pn++pins,p.1≠it):Inv X pins σ H { s with heap:=h',toks:=t' }:=by
 have nit:∀b u,H b=some u->b≠it:=fun b u e z=>by rw[z,hn]at e;cases e
 refine I.step (g':=s.gens) (d':=s.drawn) (ch:=[it]) (fun b hb=>?_) (fun b o _ _ hc e _=>k b o (fun z=>hc (by simp[z])) e) (fun b o _ _ hc e _=>⟨o.slots,k b o (fun z=>hc (by simp[z])) e⟩) (fun _ _ _ _ n=>n)
  (fun b o hc e=>⟨o,k b o (fun z=>hc (by simp[z])) e⟩) (fun _ _ e=>e) (fun _ _ _ e=>e) (fun b ps e=>⟨#[],by rw[e];simp⟩) (fun m hm=>?_) (fun b u e=>?_) I.bare
 ·have e:b=it:=by simpa using hb
  subst e;exact⟨h1,hL,h2,h3⟩
 ·obtain⟨o,es,ep,ho,r⟩:=hm;exact⟨o,es,ep,k _ o (ZM hL) ho,r⟩
 ·refine(I.hok b u e).stay (fun c v hc q=>k c v ?_ q) (fun _ q=>q) fun _ _ q=>q;rcases hc with z|z
  ·rw[z];exact nit b u e
  ·exact nit c _ z
theorem Inv.tok(I:Inv X pins σ H s)(t:Nat):Inv X pins σ H { s with toks:=t }:=I.un (h':=s.heap) (t':=t) Un.refl I.hok
theorem Inv.kept{t':Nat}(I:Inv X pins σ H s)(k:∀b u,s.heap.get? b=some u->h'.get? b=some u):Inv X pins σ H { s with heap:=h',toks:=t' }:=I.un (Un.kept k) (I.hok.kept k)
theorem Inv.laid{a:Addr}{o:HO}{t':Nat}(I:Inv X pins σ H s)(k:∀b u,s.heap.get? b=some u->h'.get? b=some u)(hp:s.heap.objs.size<=a)(new:ObjOk X.prog X.w (upd H a o) h' a o) :
  Inv X pins σ (upd H a o) { s with heap:=h',toks:=t' }:=I.un (Un.laid k hp (I.hok.fresh hp)) (I.hok.laid k hp new)
theorem Inv.write{x e:Addr}{o:HO}{t':Nat}(I:Inv X pins σ H s)(mu:Mut (H x))(he:e=x\/H e=some (.own x))(k:∀b u,b≠e->s.heap.get? b=some u->h'.get? b=some u)(heo:∃u,h'.get? e=some u)(new:ObjOk X.prog X.w (upd H x o) h' x o):Inv X pins σ (upd H x o) { s with heap:=h',toks:=t' }:=I.un (Un.write mu he k heo) (I.hok.write mu he k heo new)
theorem Inv.weak{σ':List (Option V)}(I:Inv X pins σ H s)(hl:σ'.length=σ.length)(w:∀(i:Nat) v,σ'[i]?=some (some v)->σ[i]?=some (some v)):Inv X pins σ' H s :=
 ⟨I.ok,I.os,I.bare,I.base,let⟨m,hn,hl'⟩:=I.loc;⟨m,hn,fun i x v e1 e2 e3=>hl' i x v e1 (w i v e2) e3⟩,I.cell,I.free,I.freeC,I.pin,I.hok,hl.trans I.len⟩
theorem Inv.pins_of{pins':List (Addr×Obj)}(I:Inv X pins σ H s)(h:∀p∈pins',s.heap.get? p.1=some p.2/\H p.1=none/\p.1≠X.env.locals/\p.1∉X.fs/\∀v,p.2.data≠.cell v):Inv X pins' σ H s :=
 ⟨I.ok,I.os,I.bare,I.base,I.loc,I.cell,I.free,I.freeC,fun p hp=>(ZA.mp hp).elim (fun z=>I.pin p (List.mem_append_left _ z)) (h p),I.hok,I.len⟩
theorem oM{N:List Str}(hN:N.Nodup){i j:Nat}{x:Str}(a:N[i]?=some x)(b:N[j]?=some x):i=j:=by obtain⟨h1,e1⟩:=ZC.mp a;obtain⟨h2,e2⟩:=ZC.mp b;exact(List.getElem_inj hN).mp (e1.trans e2.symm)
theorem mC{M:Model}{A:Around}{E:Value->Shared->Prop}{i:Nat}{x:Str}{v:V}{u:Value}{Q:Unit->Shared->Prop}(I:Inv X pins σ H s)(hN:X.N.Nodup)(hi:X.N[i]?=some x)(hx:Loc X.env.scope x)(r:RelV v u)(h:∀s',Inv X pins (σ.set i (some v)) H s'->(∃a,Heap.SameBut a s.heap s'.heap/\(a=X.env.locals\/X.env.cells.lookup x=some a))->Q () s')(hf:X.fn x=true\/X.env.scope.names.lookup x=some .local:=by first|exact .inl rfl|exact .inr rfl|assumption):wpAny M A (storeName X.env x u) Q E s:=by
 obtain⟨m,hn,hl⟩:=id I.loc;have hcls:(X.env.scope.kind == .class ||(X.env.scope.kind == .module&&X.env.locals != X.env.globals))=false:=by rw[I.ok.kind];rfl
 have hiσ:i<σ.length:=by rw[I.len];exact(ZC.mp hi).1
 have cne:=I.cne;have tracked:∀{a:Addr} {h':Heap},(∃o,s.heap.get? a=some o/\H a=none)->Heap.SameBut a s.heap h'->HOk X.prog X.w H h':=fun{a h'} ha hs b ob e=>by
  obtain⟨_,_,hfree⟩:=ha;refine(I.hok b ob e).stay (fun c w' hc q=>(hs.2 c ?_).trans q) (fun _ q=>q) fun _ _ q=>q;rintro rfl;rcases hc with rfl|hc
  ·rw[hfree]at e;cases e
  ·rw[hfree]at hc;cases hc
 rcases hx with hk|hk
 ·refine wpAny_storeName_local hk hn (fun h' hn' hs=>?_) hcls;obtain⟨oL,_,_,hoL,_⟩:=id hn;refine h _ ⟨I.ok,I.os,I.bare,⟨fun b o e n hb hx=>?_,fun b o e n hb hx=>?_,I.base.free,fun b o e hx=>?_,I.base.tups,I.base.frzs,I.base.tbls⟩,⟨_,hn',fun j y v' e1 e2 e3=>?_⟩,fun y c e=>?_,I.free,I.freeC,fun p hp=>?_,tracked ⟨oL,hoL,I.free⟩ hs,by simpa using I.len⟩ ⟨_,hs,.inl rfl⟩
  ·exact(hs.2 b (Zv (Zw (Zm e) I.ok.above))).trans (I.base.keep b o e n hb hx)
  ·obtain⟨sl,e1⟩:=I.base.slot b o e n hb hx;exact⟨sl,(hs.2 b (Zv (Zw (Zm e) I.ok.above))).trans e1⟩
  ·obtain⟨o',e1⟩:=I.base.there b o e hx;exact⟨o',(hs.2 b (Zv (Zw (Zm e) I.ok.above))).trans e1⟩
  ·by_cases hj:j=i
   ·subst hj;rw[hi]at e1;cases e1;rw[List.getElem?_set_self hiσ]at e2;cases e2;exact⟨u,r,.inl ⟨hk,by simp⟩⟩
   ·rw[List.getElem?_set_ne (ZM hj)]at e2;obtain⟨u',r',q⟩:=hl j y v' e1 e2 e3;refine⟨u',r',?_⟩;rcases q with⟨k,e⟩|⟨k,c,e,z⟩
    ·refine .inl ⟨k,?_⟩;have:y≠x:=fun e=>hj (oM hN e1 (e▸hi));simp[this,e]
    ·exact .inr ⟨k,c,e,z.sameBut hs (cne y c e)⟩
  ·obtain⟨w',z⟩:=I.cell y c e;exact⟨w',z.sameBut hs (cne y c e)⟩
  ·obtain⟨e,n,ne,nf,d⟩:=I.pin p hp;exact⟨(hs.2 p.1 ne).trans e,n,ne,nf,d⟩
 ·have hfn:X.fn x=true:=by
   rcases hf with z|z
   ·exact z
   ·rw[z]at hk;cases hk
  obtain⟨c,hc⟩:=I.ok.has x (.inl hk);obtain⟨w',z⟩:=I.cell x c hc;refine wpAny_storeName_cell I.ok.kind hk hc z (fun h' hc' hs=>?_);obtain⟨oc,hoc,hocd⟩:=id z;refine h { s with heap:=h' } ⟨I.ok,I.os,I.bare,⟨fun b o e n hb hx=>?_,fun b o e n hb hx=>?_,I.base.free,fun b o e hx=>?_,I.base.tups,I.base.frzs,I.base.tbls⟩,⟨m,hn.sameBut hs (ZM (cne x c hc)),fun j y v' e1 e2 e3=>?_⟩,fun y c' e=>?_,I.free,I.freeC,fun p hp=>?_,tracked ⟨oc,hoc,I.freeC x c hc⟩ hs,by simpa using I.len⟩ ⟨c,hs,.inr hc⟩
  ·exact(hs.2 b (Zv (Zw (Zm e) (I.ok.cab x c hfn hc)))).trans (I.base.keep b o e n hb hx)
  ·obtain⟨sl,e1⟩:=I.base.slot b o e n hb hx;exact⟨sl,(hs.2 b (Zv (Zw (Zm e) (I.ok.cab x c hfn hc)))).trans e1⟩
  ·obtain⟨o',e1⟩:=I.base.there b o e hx;exact⟨o',(hs.2 b (Zv (Zw (Zm e) (I.ok.cab x c hfn hc)))).trans e1⟩
  ·by_cases hj:j=i
   ·subst hj;rw[hi]at e1;cases e1;rw[List.getElem?_set_self hiσ]at e2;cases e2;exact⟨u,r,.inr ⟨.inl hk,c,hc,hc'⟩⟩
   ·rw[List.getElem?_set_ne (ZM hj)]at e2;obtain⟨u',r',q⟩:=hl j y v' e1 e2 e3;refine⟨u',r',?_⟩;rcases q with q|⟨k,c',e,z'⟩
    ·exact .inl q
    ·refine .inr ⟨k,c',e,z'.sameBut hs ?_⟩;rintro rfl;exact hj (oM hN e1 (I.ok.inj _ _ _ e hc▸hi))
  ·by_cases hcc:c'=c
   ·subst hcc;exact⟨_,hc'⟩
   ·obtain⟨w2,z2⟩:=I.cell y c' e;exact⟨w2,z2.sameBut hs hcc⟩
  ·obtain⟨e,n,ne,nf,d⟩:=I.pin p hp;refine⟨(hs.2 p.1 ?_).trans e,n,ne,nf,d⟩;intro q;rw[q,hoc]at e;have q':oc=p.2:=Zs e;exact d w' (by rw[<-q'];exact hocd)
theorem pC{M:Model}{A:Around}{E:Value->Shared->Prop}{i:Nat}{x:Str}{v:V}{u:Value}{Q:Unit->Shared->Prop}(I:Inv X pins σ H s)(hN:X.N.Nodup)(hi:X.N[i]?=some x)(hx:Loc X.env.scope x)(r:RelV v u)(h:∀s',Inv X pins (σ.set i (some v)) H s'->Q () s')(hf:X.fn x=true\/X.env.scope.names.lookup x=some .local:=by first|exact .inl rfl|exact .inr rfl|assumption):wpAny M A (storeName X.env x u) Q E s :=
 mC I hN hi hx r (fun s' I' _=>h s' I') hf
theorem Inv.call'{s':Shared}{ch:List Addr}(I:Inv X pins σ H s)(ho:s'.os=s.os)(u:Un (frs X.stack) ch H H' s.heap s'.heap)(hok:HOk X.prog X.w H' s'.heap)(hg:AllBare s'.gens)(hch:∀b∈ch,(b∈X.ex\/X.s₀.heap.objs.size<=b)/\b≠X.env.locals/\(∀x c,X.env.cells.lookup x=some c->c≠b)/\∀p∈X.pn++pins,p.1≠b):Inv X pins σ H' s':=by obtain⟨h',g',d',t',o'⟩:=s';have e:o'=s.os:=ho;subst e;exact I.call (g':=g') (t':=t') (d':=d') u hok hg hch
end
abbrev XK:=Value->Option Addr->Hp->Prop
abbrev St:=List (Option V)
abbrev VK:=V->Hp->Prop
abbrev TE:=St->Hp->VK->Prop
abbrev TT:=St->Hp->(Bool->Hp->Prop)->Prop
abbrev TA:=St->Hp->(List V->Hp->Prop)->Prop
structure Ends where
 nx:St->Hp->Prop
 rt:VK
 bk:St->Hp->Prop:=fun _ _=>False
 ct:St->Hp->Prop:=fun _ _=>False
abbrev TS:=Ends->St->Hp->Prop
def EP(X:Cx)(pins:List (Addr×Obj))(σ:St)(Q:VK)(u:Value)(s':Shared):Prop:=∃v H',Inv X pins σ H' s'/\RelV v u/\Q v H'
def TP(X:Cx)(pins:List (Addr×Obj))(σ:St)(Q:Bool->Hp->Prop)(b:Bool)(s':Shared):Prop:=∃H',Inv X pins σ H' s'/\Q b H'
def AP(X:Cx)(pins:List (Addr×Obj))(σ:St)(Q:List V->Hp->Prop)(us:List Value)(s':Shared):Prop:=∃vs H',Inv X pins σ H' s'/\Vals vs us/\Q vs H'
def SP(X:Cx)(pins:List (Addr×Obj))(D:Ends)(f:Flow)(s':Shared):Prop :=
 match f with
 |.next=>∃σ' H',Inv X pins σ' H' s'/\D.nx σ' H'
 |.brk=>∃σ' H',Inv X pins σ' H' s'/\D.bk σ' H'
 |.cont=>∃σ' H',Inv X pins σ' H' s'/\D.ct σ' H'
 |.ret u=>∃v σ' H',Inv X pins σ' H' s'/\RelV v u/\D.rt v H'
def PE(X:Cx)(e:Expr)(t:TE):Prop :=
 ∀(pins:List (Addr×Obj)) (s:Shared) (σ:St) (H:Hp) (Q:VK),Inv X pins σ H s->t σ H Q->wpAny (model X.prog X.w) X.A (eval e X.env) (EP X pins σ Q) X.xe s
def PT(X:Cx)(e:Expr)(t:TT):Prop :=
 ∀(pins:List (Addr×Obj)) (s:Shared) (σ:St) (H:Hp) (Q:Bool->Hp->Prop),Inv X pins σ H s->t σ H Q->wpAny (model X.prog X.w) X.A (isTrue e X.env (eval e X.env)) (TP X pins σ Q) X.xe s
def PW(X:Cx)(e:Expr)(t:TT):Prop :=
 ∀(whole:Sem Value) (pins:List (Addr×Obj)) (s:Shared) (σ:St) (H:Hp) (Q:Bool->Hp->Prop),Inv X pins σ H s->t σ H Q->wpAny (model X.prog X.w) X.A (isTrue e X.env whole) (TP X pins σ Q) X.xe s
theorem PW.pt{X:Cx}{e:Expr}{t:TT}(h:PW X e t):PT X e t:=h _
def PA(X:Cx)(es:List Expr)(t:TA):Prop :=
 ∀(pos:Pos) (pins:List (Addr×Obj)) (s:Shared) (σ:St) (H:Hp) (Q:List V->Hp->Prop),Inv X pins σ H s->t σ H Q->wpAny (model X.prog X.w) X.A (spliced (backTo pos (starEach es X.env))) (AP X pins σ Q) X.xe s
def PS(X:Cx)(st:Stmt)(t:TS):Prop :=
 ∀(pins:List (Addr×Obj)) (s:Shared) (σ:St) (H:Hp) (D:Ends),Inv X pins σ H s->t D σ H->wpAny (model X.prog X.w) X.A (exec st X.env) (SP X pins D) X.xe s
def PSs(X:Cx)(st:List Stmt)(t:TS):Prop :=
 ∀(pins:List (Addr×Obj)) (s:Shared) (σ:St) (H:Hp) (D:Ends),Inv X pins σ H s->t D σ H->wpAny (model X.prog X.w) X.A (execs st X.env) (SP X pins D) X.xe s
theorem thn{α:Type}{t:Sem α}{Q Q':α->Shared->Prop}{M:Model}{A:Around}{E:Value->Shared->Prop}{s:Shared}(h:wpAny M A t Q E s)(hQ:∀a s,Q a s->Q' a s):wpAny M A t Q' E s:=ZQ h hQ fun _ _ x=>x
open PySem PySem.Spec PyProof.Rows
section
variable{X:Cx}
def wN(i:Nat):TE:=fun σ H Q=>∃v,σ[i]?=some (some v)/\Q v H
def tC(v:V):TE:=fun _ H Q=>Q v H
theorem A7{i:Nat}{x:Str}{pos:Pos}(hN:X.N[i]?=some x)(hv:Vis X.env.scope x)(hd:(x==("__debug__":Str))=false:=by decide)(hcd:(x==("__classdict__":Str))=false:=by decide):PE X (.Name x pos) (wN i):=by
 intro pins s σ H Q I h;obtain⟨v,e,h⟩:=h;obtain⟨m,hn,hl⟩:=I.loc;obtain⟨u,r,l⟩:=hl i x v hN e hv;have fin:EP X pins σ Q u s:=⟨v,H,I,r,h⟩
 rcases l with⟨hk,hm⟩|⟨hk,c,hc,hcell⟩
 ·exact wpAny_Name (wpAny_loadName_local I.ok.kind hk hn hm fin) hd
 ·rcases hk with hk|hk
  ·exact wpAny_Name (wpAny_loadName_cell I.ok.kind hk hc hcell fin) hd
  ·exact wpAny_Name (wpAny_loadName_free I.ok.kind hk hc hcell fin hcd) hd
theorem AZ{i j pos}:PE X (.Constant (.int i) j pos) (tC (.int i)):=fun _ _ _ H _ I h=>wpAny_Constant_int ⟨.int i,H,I.tok _,⟨_,rfl⟩,h⟩
theorem Cm{b j pos}:PE X (.Constant (.bool b) j pos) (tC (.bl b)):=fun _ _ _ H _ I h=>Constant_bool ⟨.bl b,H,I,rfl,h⟩
theorem A3{j pos}:PE X (.Constant .none j pos) (tC .non):=fun _ _ _ H _ I h=>Constant_none ⟨.non,H,I,rfl,h⟩
theorem A5{x j pos}:PE X (.Constant (.str x) j pos) (tC (.str x)):=fun _ _ _ H _ I h=>Calls.Constant_str ⟨.str x,H,I.tok _,⟨_,rfl⟩,h⟩
def Gl(X:Cx)(x:Str):Prop:=X.env.kindOf x=some .globalImplicit
theorem fQ{E:Value->Shared->Prop}{pins:List (Addr×Obj)}{s:Shared}{σ:St}{H:Hp}{x:Str}{u:Value}{pos:Pos}{Q:Value->Shared->Prop}(I:Inv X pins σ H s)(hg:Gl X x)(hm:X.mg x=some u)(h:Q u s)(hd:(x==("__debug__":Str))=false:=by decide):wpAny (model X.prog X.w) X.A (eval (.Name x pos) X.env) Q E s :=
 Calls.Name_function_global I.ok.kind hg (Calls.loadGlobal_global (by rw[I.ok.glob];exact I.mod.glob.keeps I.bk) hm h) hd
theorem dJ{E:Value->Shared->Prop}{pins:List (Addr×Obj)}{s:Shared}{σ:St}{H:Hp}{x:Str}{u:Value}{pos:Pos}{Q:Value->Shared->Prop}(I:Inv X pins σ H s)(hg:Gl X x)(hm:X.mg x=none)(hv:bootBuiltins x=some u)(h:Q u s)(hn:x≠"__name__":=by decide)(hd:(x==("__debug__":Str))=false:=by decide):wpAny (model X.prog X.w) X.A (eval (.Name x pos) X.env) Q E s:=by obtain⟨mb,h1,h2⟩:=I.mod.blt;exact Calls.Name_function_global I.ok.kind hg (Calls.loadGlobal_builtin (by rw[I.ok.glob];exact I.mod.glob.keeps I.bk) hm (by rw[I.ok.blt];exact h1.keeps I.bk) ((h2 x hn).trans hv) h) hd
theorem qv{x:Str}{v:V}{u:Value}{pos:Pos}(hg:Gl X x)(hm:X.mg x=some u)(r:RelV v u)(hd:(x==("__debug__":Str))=false:=by decide):PE X (.Name x pos) (tC v) :=
 fun _ _ _ H _ I h=>fQ I hg hm ⟨v,H,I,r,h⟩ hd
theorem yL{x:Str}{v:V}{u:Value}{pos:Pos}(hg:Gl X x)(hm:X.mg x=none)(hv:bootBuiltins x=some u)(r:RelV v u)(hn:x≠"__name__":=by decide)(hd:(x==("__debug__":Str))=false:=by decide):PE X (.Name x pos) (tC v) :=
 fun _ _ _ H _ I h=>dJ I hg hm hv ⟨v,H,I,r,h⟩ hn hd
variable{a b:Expr}{ta tb:TE}{pos:Pos}
def PC(X:Cx)(op:CmpOp)(a b:Expr)(t:TE):Prop :=
 ∀(pins:List (Addr×Obj)) (s:Shared) (σ:St) (H:Hp) (Q:VK),Inv X pins σ H s->t σ H Q ->
  wpAny (model X.prog X.w) X.A (eval a X.env) (fun v s₁=>wpAny (model X.prog X.w) X.A (eval b X.env) (fun u s₂=>wpAny (model X.prog X.w) X.A (compareOp op v u) (EP X pins σ Q) X.xe s₂) X.xe s₁) X.xe s
def tB(t:TE):TT:=fun σ H Q=>t σ H fun x H1=>∃c,x=.bl c/\Q c H1
theorem uq{op:CmpOp}{t:TE}(h:PC X op a b t)(h1:behindInMarks op b=false:=by first|exact nobehind _ (by decide) (by decide)|rfl):PT X (.Compare a [op] [b] pos) (tB t):=by intro pins s σ H Q I hw;refine wpAny_isTrue_Compare1 (thn (h pins s σ H _ I hw) fun v s1 h1=>thn h1 fun u s2 h2=>thn h2 fun c s3 hz9=>?_) h1;obtain⟨x,H1,I1,r1,q1⟩:=hz9;obtain⟨d,rfl,q⟩:=q1;cases r1;exact wpAny_truthy_bool ⟨H1,I1,q⟩
theorem Bm{e:Expr}{t:TE}(h:PE X e t)(he:∀whole,isTrue e X.env whole=(do let v ←whole;standAt e.pos;holding [v] (truthy v)):=by intro _;rfl):PT X e (tB t):=by intro pins s σ H Q I hw;refine isTrue_plain (thn (h pins s σ H _ I hw) fun v s1 hz9=>?_) (he _);obtain⟨x,H1,I1,r1,q1⟩:=hz9;obtain⟨d,rfl,q⟩:=q1;cases r1;exact wpAny_truthy_bool ⟨H1,I1,q⟩
variable{tA tB':TT}{rest:List Expr}
def BJ(t u:TT):TT:=fun σ H Q=>t σ H fun c H1=>if c=true then u σ H1 Q else Q false H1
def tOr(t u:TT):TT:=fun σ H Q=>t σ H fun c H1=>if c=true then Q true H1 else u σ H1 Q
def BP(t:TT):TT:=fun σ H Q=>t σ H fun c H1=>Q (!c) H1
theorem zj(ha:PT X a tA):PW X (.BoolOp .And [a] pos) tA:=by
 intro wh pins s σ H Q I h;refine isTrue_and (thn (ha pins s σ H Q I h) fun c s1 e=>?_);cases c with
 |true=>exact isTrue_and_nil e
 |false=>exact e
theorem Bo(ha:PT X a tA):PW X (.BoolOp .Or [a] pos) tA:=by
 intro wh pins s σ H Q I h;refine isTrue_or (thn (ha pins s σ H Q I h) fun c s1 e=>?_);cases c with
 |false=>exact isTrue_or_nil e
 |true=>exact e
theorem Bn(ha:PT X a tA)(hb:PW X (.BoolOp .And (b::rest) pos) tB'):PW X (.BoolOp .And (a::b::rest) pos) (BJ tA tB'):=by
 intro wh pins s σ H Q I h;refine isTrue_and (thn (ha pins s σ H _ I h) fun c s1 ⟨H1,I1,q1⟩=>?_);cases c with
 |true=>exact hb wh pins s1 σ H1 Q I1 q1
 |false=>exact⟨H1,I1,q1⟩
theorem Cs(ha:PT X a tA)(hb:PW X (.BoolOp .Or (b::rest) pos) tB'):PW X (.BoolOp .Or (a::b::rest) pos) (tOr tA tB'):=by
 intro wh pins s σ H Q I h;refine isTrue_or (thn (ha pins s σ H _ I h) fun c s1 ⟨H1,I1,q1⟩=>?_);cases c with
 |true=>exact⟨H1,I1,q1⟩
 |false=>exact hb wh pins s1 σ H1 Q I1 q1
theorem Bk(ha:PT X a tA):PT X (.UnaryOp .Not a pos) (BP tA):=by intro pins s σ H Q I h;exact isTrue_not (ha pins s σ H (fun c H1=>Q (!c) H1) I h)
def xI(ta tb:TE):TE:=fun σ H Q=>ta σ H fun x H1=>∃c,x=.bl c/\if c=true then tb σ H1 Q else Q (.bl false) H1
theorem A4{op}{t:TE}(h:PE X a t):PE X (.BoolOp op [a] pos) t:=fun pins s σ H Q I hw=>BoolOp_one (h pins s σ H Q I hw)
theorem AW(ha:PE X a ta)(hb:PE X (.BoolOp .And (b::rest) pos) tb):PE X (.BoolOp .And (a::b::rest) pos) (xI ta tb):=by
 intro pins s σ H Q I h;refine BoolOp_and (thn (ha pins s σ H _ I h) fun v s1 hz9=>?_);obtain⟨x,H1,I1,r1,q1⟩:=hz9;obtain⟨c,rfl,q1⟩:=q1;cases r1;refine wpAny_truthy_bool ?_;cases c with
 |true=>exact hb pins s1 σ H1 Q I1 q1
 |false=>exact⟨.bl false,H1,I1,rfl,q1⟩
end
open PySem PySem.Spec PyProof.Rows
def SqL(K:PySem.W.Frag)(H:Hp)(a:Addr)(xs:List V):Prop :=
 Rd H a (.lst xs) \/
  ∃(o:Obj) (its:Array Value) (n:Nat),K.lookup a=some o/\o.cls=.type "list"/\o.dict=none/\o.data=.seq its n/\its.size<=sizeLine/\Vals xs its.toList
def SqT(K:PySem.W.Frag)(H:Hp)(a:Addr)(xs:List V):Prop :=
 Rd H a (.tup xs) \/
  ∃(o:Obj) (its:Array Value) (n:Nat),K.lookup a=some o/\o.cls=.type "tuple"/\o.data=.seq its n/\its.size<=sizeLine/\Vals xs its.toList
def CP:Value->Option V
 |.none=>some .non
 |.bool b=>some (.bl b)
 |.int i _=>some (.int i)
 |.str x _=>some (.str x)
 |.bytes b _=>some (.byt b)
 |.float b _=>some (.flt b)
 |.ref a=>some (.ref a)
 |.type n=>some (.ty n)
 |_=>none
theorem RelV.abs{x:V}{u:Value}(r:RelV x u):CP u=some x:=by
 cases x with
 |non=>cases r;rfl
 |bl _=>cases r;rfl
 |int _=>obtain⟨t,rfl⟩:=r;rfl
 |str _=>obtain⟨t,rfl⟩:=r;rfl
 |byt _=>obtain⟨t,rfl⟩:=r;rfl
 |flt _=>obtain⟨t,rfl⟩:=r;rfl
 |ref _=>cases r;rfl
 |ty _=>cases r;rfl
theorem RelV.inj{x y:V}{u:Value}(r:RelV x u)(q:RelV y u):x=y:=Zs (r.abs.symm.trans q.abs)
theorem Vals.inj:∀{xs ys:List V} {us:List Value},Vals xs us->Vals ys us->xs=ys
 |_,_,_,.nil,.nil=>rfl
 |_,_,_,.cons r t,.cons r' t'=>by rw[r.inj r',Vals.inj t t']
section
variable{X:Cx}{pins:List (Addr×Obj)}{σ:St}{H:Hp}{s:Shared}{a:Addr}{xs ys:List V}
theorem SqL.of{K:PySem.W.Frag}(h:H a=some (.lst xs)):SqL K H a xs:=.inl (.inl h)
theorem SqT.of{K:PySem.W.Frag}(h:H a=some (.tup xs)):SqT K H a xs:=.inl (.inl h)
theorem Inv.list(I:Inv X pins σ H s)(h:SqL X.K H a xs):∃its:List Value,Vals xs its/\PlainL s.heap a its.toArray/\xs.length<=sizeLine:=by
 rcases h with h|⟨o,its,n,hk,hc,hd,hs,hz,r⟩
 ·obtain⟨z,its,n,r,e⟩:=h.ok I.hok;exact⟨its,r,⟨_,n,e,rfl,rfl,rfl⟩,z⟩
 ·refine⟨its.toList,r,⟨o,n,I.kIn a o hk,hc,hd,by simpa using hs⟩,?_⟩;have e:=r.length;simp only[Zk]at e;omega
theorem Inv.tuple(I:Inv X pins σ H s)(h:SqT X.K H a xs):∃its:List Value,Vals xs its/\IsTup s.heap a its.toArray/\xs.length<=sizeLine:=by
 rcases h with h|⟨o,its,n,hk,hc,hs,hz,r⟩
 ·obtain⟨z,its,r,p⟩:=h.ok I.hok;exact⟨its,r,p,z⟩
 ·refine⟨its.toList,r,⟨o,I.kIn a o hk,hc,n,by simpa using hs⟩,?_⟩;have e:=r.length;simp only[Zk]at e;omega
theorem Inv.list_inj(I:Inv X pins σ H s)(h:SqL X.K H a xs)(h':SqL X.K H a ys):xs=ys:=by
 obtain⟨its,r,⟨o,n,e,_,_,d⟩,_⟩:=I.list h;obtain⟨its',r',⟨o',n',e',_,_,d'⟩,_⟩:=I.list h';rw[e]at e';cases e';rw[d]at d';injection d' with d1 _;have:its=its':=by simpa using Yy Array.toList d1
 subst this;exact r.inj r'
end
abbrev Cx.wish(X:Cx)(E:Value->Shared->Prop):Cx:={ X with xe:=E }
abbrev Cx.nox(X:Cx):Cx:=X.wish fun _ _=>False
theorem Cx.Ok.wish{X:Cx}(ok:X.Ok)(E:Value->Shared->Prop):(X.wish E).Ok :=
 ⟨ok.mod,ok.kind,ok.glob,ok.blt,ok.above,ok.inj,ok.has,ok.cab,ok.hd,ok.frames,ok.stk,ok.exf,ok.bs,ok.bsz,ok.noex,ok.exfs,ok.funs,ok.frf⟩
theorem Cx.Ok.unwish{X:Cx}{E:Value->Shared->Prop}(ok:(X.wish E).Ok):X.Ok :=
 ⟨ok.mod,ok.kind,ok.glob,ok.blt,ok.above,ok.inj,ok.has,ok.cab,ok.hd,ok.frames,ok.stk,ok.exf,ok.bs,ok.bsz,ok.noex,ok.exfs,ok.funs,ok.frf⟩
section
variable{X:Cx}{pins:List (Addr×Obj)}{σ:St}{H:Hp}{s:Shared}{E:Value->Shared->Prop}
theorem Inv.wish(I:Inv X pins σ H s)(E:Value->Shared->Prop):Inv (X.wish E) pins σ H s:=⟨I.ok.wish E,I.os,I.bare,I.base,I.loc,I.cell,I.free,I.freeC,I.pin,I.hok,I.len⟩
theorem Inv.unwish(I:Inv (X.wish E) pins σ H s):Inv X pins σ H s:=⟨I.ok.unwish,I.os,I.bare,I.base,I.loc,I.cell,I.free,I.freeC,I.pin,I.hok,I.len⟩
theorem SP.unwish{D:Ends}{f:Flow}{s':Shared}(h:SP (X.wish E) pins D f s'):SP X pins D f s':=by
 cases f with
 |next=>obtain⟨σ',H',I,q⟩:=h;exact⟨σ',H',I.unwish,q⟩
 |brk=>obtain⟨σ',H',I,q⟩:=h;exact⟨σ',H',I.unwish,q⟩
 |cont=>obtain⟨σ',H',I,q⟩:=h;exact⟨σ',H',I.unwish,q⟩
 |ret u=>obtain⟨v,σ',H',I,r,q⟩:=h;exact⟨v,σ',H',I.unwish,r,q⟩
theorem PSs.nox{st:List Stmt}{t:TS}(h:PSs X.nox st t):PSs X st t:=fun pins s σ H D I hw =>
 ZQ (h pins s σ H D (I.wish _) hw) (fun _ _ q=>q.unwish) fun _ _ z=>False.elim z
end
section
variable{X:Cx}{st:Stmt}{rest:List Stmt}{t u:TS}{e:Expr}{te:TE}{pos:Pos}
def xM:TS:=fun D σ H=>D.nx σ H
def BR(t u:TS):TS:=fun D σ H=>t { D with nx:=u D } σ H
theorem ze:PSs X [] xM:=fun _ _ σ H _ I h=>wpAny_execs_nil ⟨σ,H,I,h⟩
theorem wn(h1:PS X st t)(h2:PSs X rest u):PSs X (st::rest) (BR t u):=by
 intro pins s σ H D I h;refine wpAny_execs_cons (thn (h1 pins s σ H { D with nx:=u D } I h) fun f s1 q=>?_);cases f with
 |next =>obtain⟨σ',H',I',q⟩:=q;exact h2 pins s1 σ' H' D I' q
 |ret v=>exact q
 |brk=>exact q
 |cont=>exact q
theorem zh(h1:PS X st t):PSs X [st] t:=by
 intro pins s σ H D I h;refine wpAny_execs_cons (thn (h1 pins s σ H D I h) fun f s1 q=>?_);cases f with
 |next=>exact wpAny_execs_nil q
 |ret v=>exact q
 |brk=>exact q
 |cont=>exact q
theorem Inv.quiet{pins:List (Addr×Obj)}{σ:St}{H:Hp}{s:Shared}(I:Inv X pins σ H s):interactive X.env=false:=by simp[interactive,I.ok.kind]
def xK(te:TE):TS:=fun D σ H=>te σ H fun _ H1=>D.nx σ H1
theorem yZ(he:PE X e te)(hs:swapsWith e none pos.line X.env=pure false:=by rfl):PS X (.Expr e pos) (xK te):=by intro pins s σ H D I h;exact wpAny_Expr_any (thn (he pins s σ H _ I h) fun v s1 ⟨x,H1,I1,r1,q1⟩=>⟨σ,H1,I1,q1⟩) I.quiet hs
def BQ(te:TE):TS:=fun D σ H=>te σ H D.rt
theorem Bi(he:PE X e te):PS X (.Return (some e) pos) (BQ te):=by intro pins s σ H D I h;exact wpAny_Return_some (thn (he pins s σ H _ I h) fun v s1 ⟨x,H1,I1,r1,q1⟩=>⟨x,σ,H1,I1,r1,q1⟩)
def BN(c:TT)(t u:TS):TS:=fun D σ H=>c σ H fun b H1=>if b=true then t D σ H1 else u D σ H1
theorem Cr{c:Expr}{a b:List Stmt}{tc:TT}(hc:PT X c tc)(ha:PSs X a t)(hb:PSs X b u):PS X (.If c a b pos) (BN tc t u):=by
 intro pins s σ H D I h;refine wpAny_If (thn (hc pins s σ H _ I h) fun d s1 ⟨H1,I1,q1⟩=>?_);cases d with
 |true=>exact ha pins s1 σ H1 D I1 q1
 |false=>exact hb pins s1 σ H1 D I1 q1
end
abbrev TG:=V->St->Hp->(St->Hp->Prop)->Prop
abbrev TGs:=List V->St->Hp->(St->Hp->Prop)->Prop
def PG(X:Cx)(target:Expr)(t:TG):Prop :=
 ∀(pins:List (Addr×Obj)) (s:Shared) (σ:St) (H:Hp) (v:V) (u:Value) (Q:St->Hp->Prop),Inv X pins σ H s->RelV v u->t v σ H Q ->
  wpAny (model X.prog X.w) X.A (assign target X.env u) (fun _ s'=>∃σ' H',Inv X pins σ' H' s'/\Q σ' H') X.xe s
def PGs(X:Cx)(ts:List Expr)(t:TGs):Prop :=
 ∀(pins:List (Addr×Obj)) (s:Shared) (σ:St) (H:Hp) (vs:List V) (us:List Value) (Q:St->Hp->Prop),Inv X pins σ H s->Vals vs us->t vs σ H Q ->
  wpAny (model X.prog X.w) X.A (assignInOrder ((assignEach ts X.env).map (·.2)) us) (fun _ s'=>∃σ' H',Inv X pins σ' H' s'/\Q σ' H') X.xe s
abbrev zU:=V->V->V->Hp->(Hp->Prop)->Prop
def CO(X:Cx)(t:zU):Prop :=
 ∀(pins:List (Addr×Obj)) (s:Shared) (σ:St) (H:Hp) (o i v:V) (ov iv u:Value) (Q:Hp->Prop),Inv X pins σ H s->RelV o ov->RelV i iv->RelV v u->t o i v H Q ->
  wpAny (model X.prog X.w) X.A (setItem ov iv u) (fun _ s'=>∃H',Inv X pins σ H' s'/\Q H') X.xe s
abbrev TIp:=V->V->Hp->VK->Prop
def PIp(X:Cx)(op:Operator)(t:TIp):Prop :=
 ∀(pins:List (Addr×Obj)) (s:Shared) (σ:St) (H:Hp) (x y:V) (v u:Value) (Q:VK),Inv X pins σ H s->RelV x v->RelV y u->t x y H Q ->
  wpAny (model X.prog X.w) X.A (inplaceOp op v u) (EP X pins σ Q) X.xe s
section
variable{X:Cx}{pos:Pos}
def bN(i:Nat):TG:=fun v σ H Q=>Q (σ.set i (some v)) H
theorem yR{i:Nat}{x:Str}(hN:X.N.Nodup)(hi:X.N[i]?=some x)(hx:Loc X.env.scope x)(hf:X.fn x=true\/X.env.scope.names.lookup x=some .local:=by first|exact .inl rfl|exact .inr rfl|assumption):PG X (.Name x pos) (bN i):=by intro pins s σ H v u Q I r h;exact wpAny_assign_Name (pC I hN hi hx r (fun s' I'=>⟨_,H,I',h⟩) hf)
def og:TGs:=fun vs σ H Q=>vs=[]/\Q σ H
def fw(t:TG)(u:TGs):TGs:=fun vs σ H Q=>∃v r,vs=v::r/\t v σ H fun σ' H'=>u r σ' H' Q
theorem yS:PGs X [] og:=by intro pins s σ H vs us Q I r h;obtain⟨e,h⟩:=h;subst e;cases r;exact assignInOrder_nil ⟨σ,H,I,h⟩
theorem wc{e:Expr}{es:List Expr}{t:TG}{u:TGs}(h1:PG X e t)(h2:PGs X es u)(hs:(assignEach (e::es) X.env).map (·.2)=assign e X.env::(assignEach es X.env).map (·.2):=by rfl):PGs X (e::es) (fw t u):=by
 intro pins s σ H vs us Q I r h;obtain⟨v,vr,e1,h⟩:=h;subst e1;cases r with
 |cons r rr =>rw[hs];refine assignInOrder_cons (thn (h1 pins s σ H _ _ _ I r h) fun _ s1 ⟨σ1,H1,I1,q1⟩=>?_);exact h2 pins s1 σ1 H1 _ _ Q I1 rr q1
def oh(K:PySem.W.Frag)(n:Nat)(t:TGs):TG:=fun v σ H Q=>∃a xs,v=.ref a/\SqT K H a xs/\xs.length=n/\t xs σ H Q
theorem A8{es:List Expr}{k:Nat}{t:TGs}{n:Nat}(hc:X.calm=true)(h:PGs X es t)(hn:(assignEach es X.env).length=n:=by rfl)(hst:(assignEach es X.env).findIdx? (·.1)=none:=by rfl):PG X (.Tuple es k pos) (oh X.K n t):=by intro pins s σ H v u Q I r hw;obtain⟨a,xs,e1,hq,hl,hw⟩:=hw;subst e1;cases r;obtain⟨its,rv,ht,hz⟩:=I.tuple hq;refine assign_Tuple_tuple (I.ok.hd hc) ht (by simp[hn,<-hl,rv.length]) hst fun h' hx=>?_;have I1:Inv X pins σ H { s with heap:=h' }:=I.kept (t':=s.toks) fun b o e=>hx b o (Zv (Zm e)) e;exact h pins _ σ H xs _ Q I1 (by simpa using rv) hw
def lP(te:TE)(g:TG):TS:=fun D σ H=>te σ H fun x H1=>g x σ H1 D.nx
theorem Bf{tg e:Expr}{te:TE}{g:TG}(he:PE X e te)(hg:PG X tg g)(hs:swapsWithSole [tg] e pos.line X.env=pure false:=by rfl)(hw:swappedStores [tg] e X.env=pure none:=by rfl)(h1:(assignEach [tg] X.env).map (·.2)=[assign tg X.env]:=by rfl):PS X (.Assign [tg] e pos) (lP te g):=by intro pins s σ H D I h;refine wpAny_Assign_stores (thn (he pins s σ H _ I h) fun v s1 hz9=>?_) hs hw;obtain⟨x,H1,I1,r1,q1⟩:=hz9;rw[h1];exact thn (hg pins s1 σ H1 x v _ I1 r1 q1) fun _ s2 q=>q
theorem Bj{i:Nat}{x:Str}{e:Expr}{te:TE}{pos':Pos}(hN:X.N.Nodup)(hi:X.N[i]?=some x)(hx:Loc X.env.scope x)(he:PE X e te)(hs:swapsWith e (some (.Name x pos')) pos.line X.env=pure false:=by rfl)(hf:X.fn x=true\/X.env.scope.names.lookup x=some .local:=by first|exact .inl rfl|exact .inr rfl|assumption) :
  PS X (.Assign [.Name x pos'] e pos) (lP te (bN i)):=by
 intro pins s σ H D I h;refine wpAny_Assign_Name (thn (he pins s σ H _ I h) fun v s1 hz9=>?_) hs;obtain⟨y,H1,I1,r1,q1⟩:=hz9;exact pC I1 hN hi hx r1 (fun s2 I2=>⟨_,H1,I2,q1⟩) hf
end
section
variable{X:Cx}{pos:Pos}
def uM(c:TT)(tb:TS):TS:=fun D σ H=>∃W:Nat->St->Hp->Prop,(∃m,W m σ H)/\∀m σ H,W m σ H ->
 c σ H fun b H1=>if b=true then∃N:St->Hp->Prop,(∀σ' H',N σ' H'->∃m',m'<m/\W m' σ' H')/\tb { D with nx:=N,ct:=N,bk:=D.nx } σ H1 else D.nx σ H1
theorem wj{c:Expr}{body:List Stmt}{tc:TT}{tb:TS}(hp:PassesOwn (model X.prog X.w) X.A X.env X.xe)(hc:PT X c tc)(hb:PSs X body tb):PS X (.While c body [] pos) (uM tc tb):=by
 intro pins s σ H D I h;obtain⟨W,⟨m0,w0⟩,turn⟩:=h;refine wpAny_While (codeAny_whileLoop (fun n s'=>∃σ' H',Inv X pins σ' H' s'/\W n σ' H') ?_ m0 ⟨σ,H,I,w0⟩);rintro n s1 ⟨σ1,H1,I1,w1⟩;refine wpAny_passesOwn hp (thn (hc pins s1 σ1 H1 _ I1 (turn n σ1 H1 w1)) fun b s2 ⟨H2,I2,q2⟩=>?_);cases b with
 |true =>
  obtain⟨N,hN,q2⟩:=q2;rw[if_pos rfl];refine wpAny_passesOwn hp (thn (hb pins s2 σ1 H2 _ I2 q2) fun f s3 q3=>?_);cases f with
  |next =>obtain⟨σ3,H3,I3,n3⟩:=q3;obtain⟨m',hm,w3⟩:=hN σ3 H3 n3;exact⟨m',hm,σ3,H3,I3,w3⟩
  |cont =>obtain⟨σ3,H3,I3,n3⟩:=q3;obtain⟨m',hm,w3⟩:=hN σ3 H3 n3;exact⟨m',hm,σ3,H3,I3,w3⟩
  |brk=>exact q3
  |ret v=>exact q3
 |false =>rw[if_neg Zj];exact wpAny_execs_nil ⟨σ1,H2,I2,q2⟩
end
structure It where
 go:Nat->Hp->Prop
 yld:Nat->Hp->V->Hp->Prop
 stop:Nat->Hp->Prop
def aY(X:Cx)(pins:List (Addr×Obj))(H:Hp)(b:Addr):Prop :=
 H b=none/\b≠X.env.locals/\b∉X.fs/\(b∈X.ex\/X.s₀.heap.objs.size<=b)/\(∀x c,X.env.cells.lookup x=some c->c≠b)/\∀p∈X.pn++pins,p.1≠b
theorem Inv.fpOk{X:Cx}{pins:List (Addr×Obj)}{σ:St}{H H':Hp}{s:Shared}{b:Addr}(I:Inv X pins σ H s)(hb:s.heap.objs.size<=b)(hn:H' b=none):aY X pins H' b:=by
 refine⟨hn,Yk (Zw I.lt hb),I.nofs hb,.inr (Zx I.sz hb),fun x c e z=>?_,fun p hp z=>?_⟩
 ·obtain⟨v,q⟩:=I.cell x c e;exact absurd (Zw q.lt (by rw[z];exact hb)) (Yq _)
 ·exact absurd (Zw (Zm (I.pin p hp).1) (by rw[z];exact hb)) (Yq _)
structure Turn(P:Program)(w:World)(K:PySem.W.Frag)(tg:Expr)(J:It)(fp:List Addr)(it:Addr)(tn:Nat->Heap->Prop):Prop where
 mem:it∈fp
 obj:∀i h,tn i h->∀b∈fp,∃o,h.get? b=some o/\∀v,o.data≠.cell v
 keep:∀i h h',tn i h->(∀b∈fp,∀o,h.get? b=some o->h'.get? b=some o)->tn i h'
 item:∀(X:Cx),X.prog=P->X.w=w->X.K=K->X.calm=true->∀(i:Nat) (pins:List (Addr×Obj)) (s:Shared) (σ:St) (H:Hp) (E:Value->Shared->Prop),Inv X pins σ H s->(∀b∈fp,aY X pins H b)->tn i s.heap->J.go i H ->
  wpAny (model P w) X.A (pyNext (.ref it)) (fun r s1=>∃ u,r=some u /\
   wpAny (model P w) X.A (letOwnedTupleGo tg (.ref it) u) (fun _ s2=>∃ x H',Inv X pins σ H' s2/\RelV x u/\J.yld i H x H'/\tn (i+1) s2.heap/\∀ b∈fp,H' b=none) E s1) E s
 done:∀(X:Cx),X.prog=P->X.w=w->X.K=K->X.calm=true->∀(i:Nat) (pins:List (Addr×Obj)) (s:Shared) (σ:St) (H:Hp) (E:Value->Shared->Prop),Inv X pins σ H s->(∀b∈fp,aY X pins H b)->tn i s.heap->J.stop i H ->
  wpAny (model P w) X.A (pyNext (.ref it)) (fun r s1=>r=none/\Inv X pins σ H s1) E s
 self:∀(A:Around) (i:Nat) (s:Shared) (Q:Value->Shared->Prop) (E:Value->Shared->Prop),tn i s.heap->Q (.ref it) s->wpAny (model P w) A (pyIter (.ref it)) Q E s
abbrev TI:=St->Hp->(It->Hp->Prop)->Prop
def PIE(X:Cx)(pins:List (Addr×Obj))(σ:St)(tg:Expr)(R:It->Hp->Prop)(itv:Value)(s2:Shared):Prop :=
 ∃(it:Addr) (fp:List Addr) (tn:Nat->Heap->Prop) (J:It) (H':Hp),itv=.ref it/\Inv X pins σ H' s2/\Turn X.prog X.w X.K tg J fp it tn/\tn 0 s2.heap/\(∀b∈fp,aY X pins H' b)/\R J H'
def PI(X:Cx)(tg iter:Expr)(wi:TI):Prop :=
 ∀(pins:List (Addr×Obj)) (s:Shared) (σ:St) (H:Hp) (R:It->Hp->Prop),Inv X pins σ H s->wi σ H R ->
  wpAny (model X.prog X.w) X.A (eval iter X.env) (fun v s1=>wpAny (model X.prog X.w) X.A (pyIter v) (PIE X pins σ tg R) X.xe s1) X.xe s
theorem rF{M:Model}{A:Around}{E:Value->Shared->Prop}{s:Shared}{tg:Expr}{it:Addr}{u:Value}{o:Obj}{n:String}{vs:Array Value}{Q:Unit->Shared->Prop}(ho:s.heap.get? it=some o)(hc:o.cls=.type n)(hd:o.data=.fields vs)(hn:["enumerate","zip","dict_itemiterator","dict_reverseitemiterator","odict_iterator","itertools.zip_longest","itertools.pairwise"].contains n=false)(hQ:Q () s):wpAny M A (letOwnedTupleGo tg (.ref it) u) Q E s:=by
 unfold letOwnedTupleGo;cases tg<;>first
  |exact z9 hQ
  | (cases u<;>first
    |exact z9 hQ
    | (refine z6 (wpAny_load ho ?_)
       rw[hc,hd];show wpAny M A (if(["enumerate","zip","dict_itemiterator","dict_reverseitemiterator","odict_iterator","itertools.zip_longest","itertools.pairwise"].contains n&&vs[0]?==some (rawInt _))=true then _ else _) Q E s;rw[if_neg (by intro h;rw[hn,Bool.false_and]at h;cases h)];exact z9 hQ))
def Itl(K:PySem.W.Frag)(a:Addr):It :=
 ⟨fun i H=>∃xs x,SqL K H a xs/\xs[i]?=some x,fun i H x H'=>H'=H/\∀xs,SqL K H a xs->xs[i]?=some x,fun i H=>∃xs,SqL K H a xs/\xs.length<=i⟩
def Itr(lo:Int)(n:Nat):It:=⟨fun i _=>i<n,fun i H x H'=>H'=H/\x=.int (lo+i),fun i _=>n<=i⟩
theorem uP{P:Program}{w:World}{K:PySem.W.Frag}{tg:Expr}(a it:Addr):Turn P w K tg (Itl K a) [it] it (fun i h=>h.IsListIter it a i) where
 mem:=by simp
 obj:=fun i h st b hb=>by
  have e:b=it:=by simpa using hb
  subst e;obtain⟨o,e,c,d⟩:=st;exact⟨o,e,fun v z=>by rw[d]at z;cases z⟩
 keep:=fun i h h' st k=>st.at fun o e=>k it (by simp) o e
 item:=by intro X hP hw hK hc i pins s σ H E I hf st hg;subst hP hw hK;obtain⟨xs,x,hq,hx⟩:=hg;obtain⟨its,rv,p,hz⟩:=I.list hq;obtain⟨u,hu,ru⟩:=rv.get hx;obtain⟨f0,f1,f2,f3,f4,f5⟩:=hf it (by simp);refine wpAny_pyNext_list_item st p.isList (x:=u) (by simpa using hu) fun h' st' sb=>?_;have I1:Inv X pins σ H { s with heap:=h' }:=I.turned (t':=s.toks) (fun b o hb e=>(sb.2 b hb).trans e) f0 f1 f3 f4 f5;obtain⟨o,e,c,d⟩:=id st';exact⟨u,rfl,rF (s:={ s with heap:=h' }) e c d (by decide) ⟨x,H,I1,ru,⟨rfl,fun ys hy=>by rw[I.list_inj hy hq];exact hx⟩,st',fun b hb=>(hf b hb).1⟩⟩
 done:=by intro X hP hw hK hc i pins s σ H E I hf st hg;subst hP hw hK;obtain⟨xs,hq,hx⟩:=hg;obtain⟨its,rv,p,hz⟩:=I.list hq;obtain⟨f0,f1,f2,f3,f4,f5⟩:=hf it (by simp);have hl:=rv.length;exact wpAny_pyNext_list_end (I.ok.hd hc) st p.isList (by simp;omega) fun h' eb=>⟨rfl,I.turned (t':=s.toks) (fun b o hb e=>eb b o hb e) f0 f1 f3 f4 f5⟩
 self:=fun _ _ _ _ _ st h=>wpAny_pyIter_listiter st h
theorem sA{P:Program}{w:World}{K:PySem.W.Frag}{tg:Expr}(it:Addr)(lo:Int)(n:Nat):Turn P w K tg (Itr lo n) [it] it (fun i h=>IsRangeIter h it (lo+(i:Nat)*1) ((n:Int)-(i:Nat)) 1) where
 mem:=by simp
 obj:=fun i h st b hb=>by
  have e:b=it:=by simpa using hb
  subst e;exact⟨_,st,fun v z=>by
   have z':Data.fields _=Data.cell v:=z;cases z'⟩
 keep:=fun i h h' st k=>k it (by simp) _ st
 item:=by intro X hP hw hK hc i pins s σ H E I hf st hg;subst hP hw hK;obtain⟨f0,f1,f2,f3,f4,f5⟩:=hf it (by simp);have W:=Walks.range (prog:=X.prog) (w:=X.w) (I.ok.hd hc) it lo 1 n;refine W.item i s _ _ hg st fun v h' tk hv st' kk=>?_;obtain⟨t,rfl⟩:=hv;have I1:Inv X pins σ H { s with heap:=h',toks:=tk }:=I.turned (fun b o hb e=>kk b o (by simpa using hb) e) f0 f1 f3 f4 f5;refine⟨_,rfl,rF (s:={ s with heap:=h',toks:=tk }) (n:="range_iterator") st' rfl rfl (by decide) ⟨.int (lo+i),H,I1,⟨t,?_⟩,⟨rfl,rfl⟩,st',fun b hb=>(hf b hb).1⟩⟩;rw[Int.mul_one]
 done:=by intro X hP hw hK hc i pins s σ H E I hf st hg;subst hP hw hK;obtain⟨f0,f1,f2,f3,f4,f5⟩:=hf it (by simp);exact wpAny_pyNext_range_end (I.ok.hd hc) st (by have:n<=i:=hg;omega) fun h' eb=>⟨rfl,I.turned (t':=s.toks) (fun b o hb e=>eb b o hb e) f0 f1 f3 f4 f5⟩
 self:=fun _ _ _ _ _ st h=>wpAny_pyIter_rangeiter st h
open PySem PySem.Spec PyProof.Rows
section
variable{X:Cx}{tg:Expr}
def xj(K:PySem.W.Frag)(tl:TE):TI:=fun σ H R=>tl σ H fun x H1=>∃a,x=.ref a/\(∃xs,SqL K H1 a xs)/\R (Itl K a) H1
theorem yU{l:Expr}{tl:TE}(hl:PE X l tl):PI X tg l (xj X.K tl):=by
 intro pins s σ H R I h;refine thn (hl pins s σ H _ I h) fun v s1 hz9=>?_;obtain⟨x,H1,I1,r1,q1⟩:=hz9;obtain⟨a,e,⟨xs,hq⟩,q⟩:=q1;subst e;cases r1;obtain⟨its,rv,p,hz⟩:=I1.list hq;refine wpAny_pyIter_list p.isList ?_;refine⟨s1.heap.objs.size,[s1.heap.objs.size],_,_,H1,rfl,I1.kept (t':=s1.toks) fun b o e=>Za _ e,uP a _,⟨_,Zo _ rfl,rfl,rfl⟩,fun b hb=>?_,q⟩;have e:b=s1.heap.objs.size:=by simpa using hb
 subst e;exact I1.fpOk (Ze _) (I1.hok.fresh (Ze _))
theorem wB{pins:List (Addr×Obj)}{σ:St}{H:Hp}{s:Shared}{R:It->Hp->Prop}{E:Value->Shared->Prop}{lo hi:Int}{t u v:Tok}{tk:Nat}(I:Inv X pins σ H s)(h1:-(2^62)<=lo)(h2:lo<2^62)(h3:-(2^62)<=hi)(h4:hi<2^62)(q:R (Itr lo (hi-lo).toNat) H):wpAny (model X.prog X.w) X.A (pyIter (.ref s.heap.objs.size)) (PIE X pins σ tg R) E { s with heap:=s.heap.push { cls:=.type "range",data:=.fields #[.int lo t,.int hi u,.int 1 v] },toks:=tk }:=by
 refine wpAny_pyIter_range (IsRange.new ..) (small_one h1 h2 h3 h4) ?_;have I1:Inv X pins σ H { s with heap:=s.heap.push { cls:=.type "range",data:=.fields #[.int lo t,.int hi u,.int 1 v] },toks:=tk }:=I.kept fun b o e=>Za _ e;refine⟨(s.heap.push { cls:=.type "range",data:=.fields #[.int lo t,.int hi u,.int 1 v] }).objs.size,[(s.heap.push { cls:=.type "range",data:=.fields #[.int lo t,.int hi u,.int 1 v] }).objs.size],_,_,H,rfl,
  I1.kept (t':=tk) fun b o e=>Za _ e,sA _ lo (hi - lo).toNat,?_,fun b hb=>?_,q⟩
 ·have e1:lo+((0:Nat):Int)*1=lo:=by simp
  have e2:(((hi-lo).toNat:Nat):Int)-((0:Nat):Int)=Builtin.Range.rangeSize lo hi 1:=by rw[rangeSize_one];split<;>omega
  show IsRangeIter _ _ (lo+((0:Nat):Int)*1) ((((hi-lo).toNat:Nat):Int)-((0:Nat):Int)) 1;rw[e1,e2];exact Zo _ rfl
 ·have e:b=(s.heap.push { cls:=.type "range",data:=.fields #[.int lo t,.int hi u,.int 1 v] }).objs.size:=by simpa using hb
  subst e;exact I1.fpOk (Ze _) (I1.hok.fresh (Ze _))
def xl(ta:TA):TI:=fun σ H R=>ta σ H fun vs H1=>∃i j:Int,vs=[.int i,.int j]/\(-(2^62)<=i/\i<2^62/\-(2^62)<=j/\j<2^62)/\R (Itr i (j-i).toNat) H1
theorem ul{a b:Expr}{ta:TA}{p pos:Pos}(hg:Gl X "range")(hm:X.mg "range" = none)(ha:PA X [a,b] ta)(hs:starEach [a,b] X.env=[(false,eval a X.env),(false,eval b X.env)]:=by rfl)(hs2:starEach [b] X.env=[(false,eval b X.env)]:=by rfl) :
  PI X tg (.Call (.Name "range" p) [a,b] [] pos) (xl ta):=by
 intro pins s σ H R I h;refine Call_ (dJ I hg hm boot_range (Yu (thn (ha pos pins s σ H _ I h) fun us s1 hz9=>?_) (by rw[hs,hs2]) (by rw[hs2];rfl)));obtain⟨vs,H1,I1,r1,q1⟩:=hz9;obtain⟨i,j,e,⟨q1,q2,q3,q4⟩,q⟩:=q1;subst e;cases r1 with
 |cons r rr =>
  cases rr with
  |cons r' rr =>cases rr;obtain⟨t,rfl⟩:=r;obtain⟨t',rfl⟩:=r';exact call_range_2 (wB I1 q1 q2 q3 q4 q)
def BM(wi:TI)(g:TG)(tb:TS):TS:=fun D σ H=>wi σ H fun J H1=>∃W:Nat->Nat->St->Hp->Prop,(∃m,W 0 m σ H1)/\∀i m σ H,W i m σ H ->
 (J.stop i H/\D.nx σ H)\/(J.go i H/\∃N:St->Hp->Prop,(∀σ' H',N σ' H'->∃m',m'<m/\W (i+1) m' σ' H')/\∀x H',J.yld i H x H'->g x σ H' fun σ2 H2=>tb { D with nx:=N,ct:=N,bk:=D.nx } σ2 H2)
def iu(fp:List Addr)(h:Heap):List (Addr×Obj):=fp.filterMap fun b=>(h.get? b).map fun o=>(b,o)
theorem dX{fp:List Addr}{h:Heap}{b:Addr}{o:Obj}(hb:b∈fp)(e:h.get? b=some o):(b,o)∈iu fp h:=YB.mpr ⟨b,hb,by rw[e];rfl⟩
theorem tZ{fp:List Addr}{h:Heap}{p:Addr×Obj}(hp:p∈iu fp h):p.1∈fp/\h.get? p.1=some p.2:=by
 obtain⟨b,hb,e⟩:=YB.mp hp;cases q:h.get? b with
 |none=>rw[q]at e;cases e
 |some o =>rw[q]at e;have e':(b,o)=p:=Zs e;subst e';exact⟨hb,q⟩
theorem Inv.pinned{pins:List (Addr×Obj)}{σ:St}{H:Hp}{s:Shared}{fp:List Addr}(I:Inv X pins σ H s)(hf:∀b∈fp,aY X pins H b)(ho:∀b∈fp,∃o,s.heap.get? b=some o/\∀v,o.data≠.cell v):Inv X (pins++iu fp s.heap) σ H s :=
 I.pins_of fun p hp=>(ZA.mp hp).elim (fun z=>I.pin p (ZH _ z)) fun z=>by obtain⟨hb,e⟩:=tZ z;obtain⟨f0,f1,f2,_⟩:=hf p.1 hb;obtain⟨o,e',d⟩:=ho p.1 hb;rw[e]at e';cases e';exact⟨e,f0,f1,f2,d⟩
theorem Inv.unpinned{pins pl:List (Addr×Obj)}{σ:St}{H:Hp}{s:Shared}(I:Inv X (pins++pl) σ H s):Inv X pins σ H s:=I.pins_of fun p hp=>I.pin p (ZH _ (List.mem_append_left _ hp))
theorem Bh{iter:Expr}{body:List Stmt}{wi:TI}{g:TG}{tb:TS}{pos:Pos}(hp:PassesOwn (model X.prog X.w) X.A X.env X.xe)(hc:X.calm=true)(hi:PI X tg iter wi)(hg:PG X tg g)(hb:PSs X body tb)(hs:∀x,foldedSetIterable iter X.env x=pure x:=by intro _;rfl):PS X (.For tg iter body [] pos) (BM wi g tb):=by
 intro pins s σ H D I h;refine wpAny_For (thn (hi pins s σ H _ I h) fun v s1 h1=>thn h1 fun itv s2 h2=>?_) hs;obtain⟨it,fp,tn,J,H2,e,I2,T,st2,f2,W,⟨m0,w0⟩,turn⟩:=h2;subst e;have stat:∀{H':Hp},(∀b∈fp,H' b=none)->∀b∈fp,aY X pins H' b:=fun hn b hb=>⟨hn b hb,(f2 b hb).2⟩
 refine codeAny_forLoop_any (fun n s'=>∃i σ' H',Inv X pins σ' H' s'/\tn i s'.heap/\(∀b∈fp,H' b=none)/\W i n σ' H') ?_ m0 ⟨0,σ,H2,I2,st2,fun b hb=>(f2 b hb).1,w0⟩;rintro n s3 ⟨i,σ3,H3,I3,st3,fr3,w3⟩;rcases turn i n σ3 H3 w3 with⟨stop,qn⟩|⟨go,N,hN,step⟩
 ·refine wpAny_passesOwn hp (thn (T.done X rfl rfl rfl hc i pins s3 σ3 H3 X.xe I3 (stat fr3) st3 stop) fun r s4 ⟨hr,I4⟩=>?_);subst hr;exact wpAny_execs_nil ⟨σ3,H3,I4,qn⟩
 ·refine wpAny_passesOwn hp (thn (T.item X rfl rfl rfl hc i pins s3 σ3 H3 X.xe I3 (stat fr3) st3 go) fun r s4 ⟨u,hr,h4⟩=>?_);subst hr;refine wpAny_passesOwn hp (thn h4 fun _ s5 hz9=>?_);obtain⟨x,H5,I5,r5,y5,st5,fr5⟩:=hz9;have I5':=I5.pinned (stat fr5) (T.obj _ _ st5);refine wpAny_passesOwn hp (thn (hg _ s5 σ3 H5 x u _ I5' r5 (step x H5 y5)) fun _ s6 ⟨σ6,H6,I6,q6⟩=>?_);refine wpAny_passesOwn hp (thn (hb _ s6 σ6 H6 _ I6 q6) fun f s7 q7=>?_);have again:∀{σ7:St} {H7:Hp},Inv X (pins++iu fp s5.heap) σ7 H7 s7->N σ7 H7->∃m,m<n/\∃i σ' H',Inv X pins σ' H' s7/\tn i s7.heap/\(∀b∈fp,H' b=none)/\W i m σ' H':=fun{σ7 H7} I7 n7=>by obtain⟨m',hm,w7⟩:=hN σ7 H7 n7;refine⟨m',hm,i+1,σ7,H7,I7.unpinned,T.keep _ _ _ st5 fun b hb o e=>(I7.pin (b,o) (ZH _ (ZH _ (dX hb e)))).1,fun b hb=>?_,w7⟩;obtain⟨o,e,d⟩:=T.obj _ _ st5 b hb;exact(I7.pin (b,o) (ZH _ (ZH _ (dX hb e)))).2.1
  cases f with
  |next=>obtain⟨σ7,H7,I7,n7⟩:=q7;exact again I7 n7
  |cont=>obtain⟨σ7,H7,I7,n7⟩:=q7;exact again I7 n7
  |brk=>obtain⟨σ7,H7,I7,q7⟩:=q7;exact⟨σ7,H7,I7.unpinned,q7⟩
  |ret v=>obtain⟨x7,σ7,H7,I7,r7,q7⟩:=q7;exact⟨x7,σ7,H7,I7.unpinned,r7,q7⟩
end
theorem vD{K:PySem.W.Frag}{a:Addr}{xs:List V}{g:TG}{tb:TS}{D:Ends}{σ:St}{H:Hp}(Pv:Nat->St->Hp->Prop)(h0:Pv 0 σ H)(hl:∀i σ H,i<=xs.length->Pv i σ H->SqL K H a xs)(hs:∀i x σ H,xs[i]?=some x->Pv i σ H->g x σ H fun σ2 H2=>tb { D with nx:=Pv (i+1),ct:=Pv (i+1),bk:=D.nx } σ2 H2)(hd:∀σ H,Pv xs.length σ H->D.nx σ H) :
  ∃W:Nat->Nat->St->Hp->Prop,(∃m,W 0 m σ H)/\∀i m σ H,W i m σ H ->
   ((Itl K a).stop i H/\D.nx σ H)\/((Itl K a).go i H/\∃N:St->Hp->Prop,(∀σ' H',N σ' H'->∃m',m'<m/\W (i+1) m' σ' H')/\∀x H',(Itl K a).yld i H x H'->g x σ H' fun σ2 H2=>tb { D with nx:=N,ct:=N,bk:=D.nx } σ2 H2):=by
 refine⟨fun i m σ H=>m=xs.length-i/\i<=xs.length/\Pv i σ H,⟨xs.length,by simp,ZO _,h0⟩,?_⟩;rintro i m σ H ⟨rfl,hi,p⟩;have q:=hl i σ H hi p;by_cases hlt:i<xs.length
 ·refine .inr ⟨⟨xs,xs[i],q,by simp[hlt]⟩,Pv (i+1),fun σ' H' p'=>⟨xs.length-(i+1),by omega,rfl,hlt,p'⟩,fun x H' y=>?_⟩;obtain⟨e,y⟩:=y;subst e;exact hs i x σ _ (y xs q) p
 ·have e:i=xs.length:=by omega
  subst e;exact .inl ⟨⟨xs,q,Ze _⟩,hd σ H p⟩
theorem sU{lo:Int}{n:Nat}{g:TG}{tb:TS}{D:Ends}{σ:St}{H:Hp}(Pv:Nat->St->Hp->Prop)(h0:Pv 0 σ H)(hs:∀i σ H,i<n->Pv i σ H->g (.int (lo+i)) σ H fun σ2 H2=>tb { D with nx:=Pv (i+1),ct:=Pv (i+1),bk:=D.nx } σ2 H2)(hd:∀σ H,Pv n σ H->D.nx σ H) :
  ∃W:Nat->Nat->St->Hp->Prop,(∃m,W 0 m σ H)/\∀i m σ H,W i m σ H ->
   ((Itr lo n).stop i H/\D.nx σ H)\/((Itr lo n).go i H/\∃N:St->Hp->Prop,(∀σ' H',N σ' H'->∃m',m'<m/\W (i+1) m' σ' H')/\∀x H',(Itr lo n).yld i H x H'->g x σ H' fun σ2 H2=>tb { D with nx:=N,ct:=N,bk:=D.nx } σ2 H2):=by
 refine⟨fun i m σ H=>m=n-i/\i<=n/\Pv i σ H,⟨n,by simp,ZO _,h0⟩,?_⟩;rintro i m σ H ⟨rfl,hi,p⟩;by_cases hlt:i<n
 ·refine .inr ⟨hlt,Pv (i+1),fun σ' H' p'=>⟨n-(i+1),by omega,rfl,hlt,p'⟩,fun x H' y=>?_⟩;obtain⟨e,y⟩:=y;subst e y;exact hs i σ _ hlt p
 ·have e:i=n:=by omega
  subst e;exact .inl ⟨Ze _,hd σ H p⟩
open PySem PySem.Spec PyProof.Rows
abbrev R2:=V->V->Hp->VK->Prop
def OpR(X:Cx)(f:Value->Value->Sem Value)(r:R2):Prop :=
 ∀(pins:List (Addr×Obj)) (s:Shared) (σ:St) (H:Hp) (x y:V) (v u:Value) (Q:VK),Inv X pins σ H s->RelV x v->RelV y u->r x y H Q ->
  wpAny (model X.prog X.w) X.A (f v u) (EP X pins σ Q) X.xe s
def UnR(X:Cx)(f:Value->Sem Value)(r:V->Hp->VK->Prop):Prop :=
 ∀(pins:List (Addr×Obj)) (s:Shared) (σ:St) (H:Hp) (x:V) (v:Value) (Q:VK),Inv X pins σ H s->RelV x v->r x H Q ->
  wpAny (model X.prog X.w) X.A (f v) (EP X pins σ Q) X.xe s
def dW(X:Cx)(f:Value)(r:List V->Hp->VK->Prop):Prop :=
 ∀(pins:List (Addr×Obj)) (s:Shared) (σ:St) (H:Hp) (xs:List V) (us:List Value) (Q:VK),Inv X pins σ H s->Vals xs us->r xs H Q ->
  wpAny (model X.prog X.w) X.A (call f us) (EP X pins σ Q) X.xe s
def tOp(r:R2)(ta tb:TE):TE:=fun σ H Q=>ta σ H fun x H1=>tb σ H1 fun y H2=>r x y H2 Q
def tUn(r:V->Hp->VK->Prop)(ta:TE):TE:=fun σ H Q=>ta σ H fun x H1=>r x H1 Q
def rI(C:Int->Int->Prop)(g:Int->Int->V):R2:=fun x y H Q=>∃i j,x=.int i/\y=.int j/\C i j/\Q (g i j) H
def rI0(g:Int->Int->V):R2:=fun x y H Q=>∃i j,x=.int i/\y=.int j/\Q (g i j) H
def rU(g:Int->V):V->Hp->VK->Prop:=fun x H Q=>∃i,x=.int i/\Q (g i) H
section
variable{X:Cx}{a b c:Expr}{ta tb tc:TE}{pos:Pos}
theorem vn(ha:PE X a ta)(hb:PE X b tb){pins:List (Addr×Obj)}{s:Shared}{σ:St}{H:Hp}{R:V->V->Hp->Prop}(I:Inv X pins σ H s)(h:ta σ H fun x H1=>tb σ H1 fun y H2=>R x y H2){Q:Value->Shared->Prop}{f:Value->Value->Sem Value}(hf:∀v u s2 x y H2,Inv X pins σ H2 s2->RelV x v->RelV y u->R x y H2->wpAny (model X.prog X.w) X.A (f v u) Q X.xe s2) :
  wpAny (model X.prog X.w) X.A (eval a X.env) (fun v s₁=>wpAny (model X.prog X.w) X.A (eval b X.env) (fun u s₂=>wpAny (model X.prog X.w) X.A (f v u) Q X.xe s₂) X.xe s₁) X.xe s:=by
 refine thn (ha pins s σ H _ I h) fun v s1 hz9=>?_;obtain⟨x,H1,I1,r1,q1⟩:=hz9;refine thn (hb pins s1 σ H1 _ I1 q1) fun u s2 hz9=>?_;obtain⟨y,H2,I2,r2,q2⟩:=hz9;exact hf v u s2 x y H2 I2 r1 r2 q2
theorem Cp{op:Operator}{r:R2}(ho:OpR X (binaryOp op) r)(ha:PE X a ta)(hb:PE X b tb):PE X (.BinOp a op b pos) (tOp r ta tb):=by intro pins s σ H Q I h;exact wpAny_BinOp (vn ha hb I h fun v u s2 x y H2 I2 rx ry q=>ho pins s2 σ H2 x y v u Q I2 rx ry q)
theorem Cq{op:UnaryOp}{r:V->Hp->VK->Prop}(ho:UnR X (unaryOp op) r)(ha:PE X a ta):PE X (.UnaryOp op a pos) (tUn r ta):=by intro pins s σ H Q I h;exact UnaryOp_ (thn (ha pins s σ H _ I h) fun v s1 ⟨x,H1,I1,r1,q1⟩=>ho pins s1 σ H1 x v Q I1 r1 q1)
theorem opI{f:Value->Value->Sem Value}{C:Int->Int->Prop}{g:Int->Int->Int}(rule:∀(i j:Int) (t u:Tok) (s:Shared) (Q:Value->Shared->Prop) (E:Value->Shared->Prop),C i j->Q (.int (g i j) s.toks) { s with toks:=s.toks+1 }->wpAny (model X.prog X.w) X.A (f (.int i t) (.int j u)) Q E s) :
  OpR X f (rI C fun i j=>.int (g i j)):=by
 intro pins s σ H x y v u Q I rx ry h;obtain⟨i,j,rfl,rfl,hc,q⟩:=h;obtain⟨t,rfl⟩:=rx;obtain⟨t',rfl⟩:=ry;exact rule i j t t' s _ _ hc ⟨.int (g i j),H,I.tok _,⟨_,rfl⟩,q⟩
theorem AI{f:Value->Value->Sem Value}{g:Int->Int->Int}(rule:∀(i j:Int) (t u:Tok) (s:Shared) (Q:Value->Shared->Prop) (E:Value->Shared->Prop),Q (.int (g i j) s.toks) { s with toks:=s.toks+1 }->wpAny (model X.prog X.w) X.A (f (.int i t) (.int j u)) Q E s) :
  OpR X f (rI0 fun i j=>.int (g i j)):=by
 intro pins s σ H x y v u Q I rx ry h;obtain⟨i,j,rfl,rfl,q⟩:=h;obtain⟨t,rfl⟩:=rx;obtain⟨t',rfl⟩:=ry;exact rule i j t t' s _ _ ⟨.int (g i j),H,I.tok _,⟨_,rfl⟩,q⟩
theorem AH{f:Value->Value->Sem Value}{g:Int->Int->Bool}(rule:∀(i j:Int) (t u:Tok) (s:Shared) (Q:Value->Shared->Prop) (E:Value->Shared->Prop),Q (.bool (g i j)) s->wpAny (model X.prog X.w) X.A (f (.int i t) (.int j u)) Q E s) :
  OpR X f (rI0 fun i j=>.bl (g i j)):=by
 intro pins s σ H x y v u Q I rx ry h;obtain⟨i,j,rfl,rfl,q⟩:=h;obtain⟨t,rfl⟩:=rx;obtain⟨t',rfl⟩:=ry;exact rule i j t t' s _ _ ⟨.bl (g i j),H,I,rfl,q⟩
def zO(i j:Int):Prop:=0<j/\j<1073741824
def zQ(i j:Int):Prop:=0<=j/\j<=1000000/\i.natAbs<2^64
def CMul(i j:Int):Prop:=(-(2^64)<i/\i<2^64)\/(-(2^64)<j/\j<2^64)
theorem CMul.ok{i j:Int}(h:CMul i j):IntMulOk i j:=by
 rcases h with⟨h1,h2⟩|⟨h1,h2⟩
 ·exact .of_left (intBits_le_64 h1 h2)
 ·exact .of_right (intBits_le_64 h1 h2)
theorem AJ:OpR X (binaryOp .Add) (rI0 fun i j=>.int (i+j)):=AI fun _ _ _ _ _ _ _ q=>add_int q
theorem AT:OpR X (binaryOp .Sub) (rI0 fun i j=>.int (i-j)):=AI fun _ _ _ _ _ _ _ q=>sub_int q
theorem AQ:OpR X (binaryOp .Mult) (rI CMul fun i j=>.int (i*j)):=opI fun _ _ _ _ _ _ _ hc q=>mul_int q hc.ok
theorem yF:OpR X (binaryOp .FloorDiv) (rI zO fun i j=>.int (i / j)):=opI fun i j _ _ _ _ _ hc q=>by have h1:(0:Int)<j:=hc.1;have h2:j<1073741824:=hc.2;exact floordiv_int (by omega) (by rw[Int.fdiv_eq_ediv_of_nonneg i (by omega)];exact q) (.inl (PyProof.noPylong_small (by omega)))
theorem AO:OpR X (binaryOp .Mod) (rI (fun _ j=>0<j) fun i j=>.int (i%j)):=opI fun i j _ _ _ _ _ hc q=>by have h1:(0:Int)<j:=hc;exact mod_int' (by omega) (by rw[Int.fmod_eq_emod_of_nonneg i (by omega)];exact q)
theorem AR:OpR X (binaryOp .Pow) (rI zQ fun i j=>.int (i^j.toNat)):=opI fun _ _ _ _ _ _ _ hc q=>pow_int_small hc.1 hc.2.1 hc.2.2 q
theorem unI{f:Value->Sem Value}{g:Int->Int}(rule:∀(i:Int) (t:Tok) (s:Shared) (Q:Value->Shared->Prop) (E:Value->Shared->Prop),Q (.int (g i) s.toks) { s with toks:=s.toks+1 }->wpAny (model X.prog X.w) X.A (f (.int i t)) Q E s) :
  UnR X f (rU fun i=>.int (g i)):=by
 intro pins s σ H x v Q I rx h;obtain⟨i,rfl,q⟩:=h;obtain⟨t,rfl⟩:=rx;exact rule i t s _ _ ⟨.int (g i),H,I.tok _,⟨_,rfl⟩,q⟩
theorem BV:UnR X (unaryOp .USub) (rU fun i=>.int (-i)):=unI fun _ _ _ _ _ q=>neg_int q
end
def BE:V->V->Bool
 |.non,.non=>true|.non,.int _=>true|.int _,.non=>true|.non,.bl _=>true|.bl _,.non=>true|.non,.str _=>true|.str _,.non=>true
 |.int _,.int _=>true|.bl _,.bl _=>true|.str _,.str _=>true|.byt _,.byt _=>true
 |.int _,.str _=>true|.str _,.int _=>true|.bl _,.str _=>true|.str _,.bl _=>true
 |_,_=>false
def rEq:R2:=fun x y H Q=>BE x y=true/\Q (.bl (decide (x=y))) H
def rNe:R2:=fun x y H Q=>BE x y=true/\Q (.bl (!decide (x=y))) H
theorem pV{i j:Int}:decide (V.int i=V.int j)=(i==j):=by rw[Bool.eq_iff_iff];simp
theorem sL{i j:Bool}:decide (V.bl i=V.bl j)=(i==j):=by rw[Bool.eq_iff_iff];simp
theorem pX{i j:Str}:decide (V.str i=V.str j)=(i==j):=by rw[Bool.eq_iff_iff];simp
theorem pU{i j:Array UInt8}:decide (V.byt i=V.byt j)=(i.toList==j.toList):=by rw[Bool.eq_iff_iff];cases i;cases j;simp
section
variable{X:Cx}{a b c:Expr}{ta tb tc:TE}{pos:Pos}
theorem aB{pins:List (Addr×Obj)}{σ:St}{H:Hp}{s:Shared}{Q:VK}{k k':Bool}(I:Inv X pins σ H s)(q:Q (.bl k) H)(e:k=k'):EP X pins σ Q (.bool k') s:=by subst e;exact⟨.bl k,H,I,rfl,q⟩
theorem Ch:OpR X (compareOp .Eq) rEq:=by
 intro pins s σ H x y v u Q I rx ry h;obtain⟨hs,q⟩:=h;cases x with
 |non =>
  cases rx;cases y with
  |non=>cases ry;exact PySem.EqNone.eq_none_none (aB I q (by simp))
  |bl j=>cases ry;exact PySem.EqNone.eq_none_bool (aB I q (by simp))
  |int j=>obtain⟨t',rfl⟩:=ry;exact PySem.EqNone.eq_none_int (aB I q (by simp))
  |str j=>obtain⟨t',rfl⟩:=ry;exact PySem.EqNone.eq_none_str (aB I q (by simp))
  |_=>exact absurd (show false=true from hs) Zj
 |bl i =>
  cases rx;cases y with
  |non=>cases ry;exact PySem.EqNone.eq_bool_none (aB I q (by simp))
  |bl j=>cases ry;exact eq_bool (aB I q sL)
  |str j=>obtain⟨t',rfl⟩:=ry;exact PySem.EqMixed.eq_bool_str (aB I q (by simp))
  |_=>exact absurd (show false=true from hs) Zj
 |int i =>
  obtain⟨t,rfl⟩:=rx;cases y with
  |non=>cases ry;exact PySem.EqNone.eq_int_none (aB I q (by simp))
  |int j=>obtain⟨t',rfl⟩:=ry;exact eq_int (aB I q pV)
  |str j=>obtain⟨t',rfl⟩:=ry;exact PySem.EqMixed.eq_int_str (aB I q (by simp))
  |_=>exact absurd (show false=true from hs) Zj
 |str i =>
  obtain⟨t,rfl⟩:=rx;cases y with
  |non=>cases ry;exact PySem.EqNone.eq_str_none (aB I q (by simp))
  |bl j=>cases ry;exact PySem.EqMixed.eq_str_bool (aB I q (by simp))
  |int j=>obtain⟨t',rfl⟩:=ry;exact PySem.EqMixed.eq_str_int (aB I q (by simp))
  |str j=>obtain⟨t',rfl⟩:=ry;exact eq_str (aB I q pX)
  |_=>exact absurd (show false=true from hs) Zj
 |byt i =>
  obtain⟨t,rfl⟩:=rx;cases y with
  |byt j=>obtain⟨t',rfl⟩:=ry;exact PySem.W.eq_bytes (aB I q pU)
  |_=>exact absurd (show false=true from hs) Zj
 |_=>cases y<;>exact absurd (show false=true from hs) Zj
theorem Ck:OpR X (compareOp .NotEq) rNe:=by
 intro pins s σ H x y v u Q I rx ry h;obtain⟨hs,q⟩:=h;cases x with
 |non =>
  cases rx;cases y with
  |non=>cases ry;exact PySem.EqNone.ne_none_none (aB I q (by simp))
  |bl j=>cases ry;exact PySem.EqNone.ne_none_bool (aB I q (by simp))
  |int j=>obtain⟨t',rfl⟩:=ry;exact PySem.EqNone.ne_none_int (aB I q (by simp))
  |str j=>obtain⟨t',rfl⟩:=ry;exact PySem.EqNone.ne_none_str (aB I q (by simp))
  |_=>exact absurd (show false=true from hs) Zj
 |bl i =>
  cases rx;cases y with
  |non=>cases ry;exact PySem.EqNone.ne_bool_none (aB I q (by simp))
  |bl j=>cases ry;exact ne_bool (aB I q (Yy not sL))
  |str j=>obtain⟨t',rfl⟩:=ry;exact PySem.EqMixed.ne_bool_str (aB I q (by simp))
  |_=>exact absurd (show false=true from hs) Zj
 |int i =>
  obtain⟨t,rfl⟩:=rx;cases y with
  |non=>cases ry;exact PySem.EqNone.ne_int_none (aB I q (by simp))
  |int j=>obtain⟨t',rfl⟩:=ry;exact ne_int (aB I q (Yy not pV))
  |str j=>obtain⟨t',rfl⟩:=ry;exact PySem.EqMixed.ne_int_str (aB I q (by simp))
  |_=>exact absurd (show false=true from hs) Zj
 |str i =>
  obtain⟨t,rfl⟩:=rx;cases y with
  |non=>cases ry;exact PySem.EqNone.ne_str_none (aB I q (by simp))
  |bl j=>cases ry;exact PySem.EqMixed.ne_str_bool (aB I q (by simp))
  |int j=>obtain⟨t',rfl⟩:=ry;exact PySem.EqMixed.ne_str_int (aB I q (by simp))
  |str j=>obtain⟨t',rfl⟩:=ry;exact ne_str (aB I q (Yy not pX))
  |_=>exact absurd (show false=true from hs) Zj
 |byt i =>
  obtain⟨t,rfl⟩:=rx;cases y with
  |byt j=>obtain⟨t',rfl⟩:=ry;exact PySem.W.ne_bytes (aB I q (Yy not pU))
  |_=>exact absurd (show false=true from hs) Zj
 |_=>cases y<;>exact absurd (show false=true from hs) Zj
theorem Cj:OpR X (compareOp .Lt) (rI0 fun i j=>.bl (decide (i<j))):=AH fun _ _ _ _ _ _ _ q=>lt_int q
theorem Ci:OpR X (compareOp .Gt) (rI0 fun i j=>.bl (decide (j<i))):=AH fun _ _ _ _ _ _ _ q=>gt_int q
theorem AL:OpR X (compareOp .Is) (fun x y H Q=>y=.non/\Q (.bl (decide (x=.non))) H):=by
 intro pins s σ H x y v u Q I rx ry h;obtain⟨rfl,q⟩:=h;cases ry;refine is_none_gen (aB I q ?_);cases x<;>first
  |(cases rx;rfl)
  |(obtain⟨t,rfl⟩:=rx;rfl)
theorem yG:OpR X (compareOp .IsNot) (fun x y H Q=>y=.non/\Q (.bl (!decide (x=.non))) H):=by
 intro pins s σ H x y v u Q I rx ry h;obtain⟨rfl,q⟩:=h;cases ry;refine isnot_none_gen (aB I q ?_);cases x<;>first
  |(cases rx;rfl)
  |(obtain⟨t,rfl⟩:=rx;rfl)
theorem tQ(b:Expr){op:CmpOp}(h:op≠.In:=by decide)(h2:op≠.NotIn:=by decide):behindInMarks op b=false:=by
 have e1:(op==CmpOp.In)=false:=by cases op<;>first|rfl|exact absurd rfl h
 have e2:(op==CmpOp.NotIn)=false:=by cases op<;>first|rfl|exact absurd rfl h2
 cases b<;>simp[behindInMarks,e1,e2]
theorem yN{op:CmpOp}{r:R2}(ho:OpR X (compareOp op) r)(ha:PE X a ta)(hb:PE X b tb)(hm:behindInMarks op b=false):PE X (.Compare a [op] [b] pos) (tOp r ta tb):=by intro pins s σ H Q I h;exact wpAny_Compare1 (vn ha hb I h fun v u s2 x y H2 I2 rx ry q=>ho pins s2 σ H2 x y v u Q I2 rx ry q) hm
def xO(t:TE):TT:=fun σ H Q=>t σ H fun x H'=>∃k,x=.bl k/\Q k H'
theorem zi{op:CmpOp}{r:R2}(ho:OpR X (compareOp op) r)(ha:PE X a ta)(hb:PE X b tb)(hm:behindInMarks op b=false):PT X (.Compare a [op] [b] pos) (xO (tOp r ta tb)):=by
 intro pins s σ H Q I h;refine wpAny_isTrue_Compare1 (thn (ha pins s σ H _ I h) fun v s1 ⟨x,H1,I1,r1,q1⟩=>thn (hb pins s1 σ H1 _ I1 q1) fun u s2 ⟨y,H2,I2,r2,q2⟩ =>
  thn (ho pins s2 σ H2 x y v u _ I2 r1 r2 q2) fun c s3 ⟨z,H3,I3,r3,k,e,q3⟩=>?_) hm
 subst e;cases r3;exact wpAny_truthy_bool ⟨H3,I3,q3⟩
theorem oF:(sizeLine:Nat)<2^63:=by rw[sizeLine_eq];decide
theorem ee{x:V}{us:List Value}(r:Vals [x] us):∃u,us=[u]/\RelV x u:=by
 cases r with
 |cons r1 r2=>cases r2;exact⟨_,rfl,r1⟩
theorem hM{x y:V}{us:List Value}(r:Vals [x,y] us):∃u w',us=[u,w']/\RelV x u/\RelV y w':=by
 cases r with
 |cons r1 r2 =>
  cases r2 with
  |cons r3 r4=>cases r4;exact⟨_,_,rfl,r1,r3⟩
end
open PySem PySem.Spec PyProof.Rows
structure ObjM(h:Heap)(x dx C:Addr)(mA:Str->Option Value):Prop where
 obj:h.get? x=some (PySem.W.instObj C dx)
 ns:h.Ns1 dx mA
 ne:dx≠x
theorem tJ{h:Heap}{dx:Addr}{mA:Str->Option Value}(n:h.Ns1 dx mA):∃od,h.get? dx=some od/\∀name,PySem.W.lookIn name od=some (mA name):=by
 obtain⟨o,es,ep,ho,hd,hk,_,hm⟩:=n;refine⟨o,ho,fun name=>?_⟩;have e:=hm name;unfold nsFind findBy at e;rw[<-Array.find?_toList]at e;unfold PySem.W.lookIn;rw[hd];dsimp only;split
 ·rename_i y q;rw[q]at e;exact Yy some e
 ·rename_i q;rw[q]at e;have a:es.toList.any (·.refKey)=false:=by rw[List.any_eq_false];intro y hy;obtain⟨z,t,hkey⟩:=hk y (YF.mp hy);simp[DictEntry.refKey,hkey]
  have a':¬es.toList.any (·.refKey)=true:=by rw[a];exact Zj
  rw[if_neg a'];exact Yy some e
theorem ObjM.look{h:Heap}{x dx C:Addr}{mA:Str->Option Value}(I:ObjM h x dx C mA):∃od,PySem.W.InstAt h x (PySem.W.instObj C dx) C (some od)/\∀name,PySem.W.lookIn name od=some (mA name) :=
 let⟨od,ho,hl⟩:=tJ I.ns
 ⟨od,⟨I.obj,rfl,rfl,ho⟩,hl⟩
section
variable{prog:Program}{w:World}{A:Around}{E:Value->Shared->Prop}{s:Shared}{K:PySem.W.Frag}{x dx C f:Addr}{mA:Str->Option Value}{name:Str}{v:Value}
theorem yl{expr:Bool}{Q:Value->Shared->Prop}(X:K.In s.heap)(I:ObjM s.heap x dx C mA)(hg:PySem.W.plainGet K C name=true)(hh:PySem.W.hasDictIn K C=true)(ha:PySem.W.findIn K (.ref C) name=some none)(hv:mA name=some v)(hv':PySem.W.handedIn v=true)(h:Q v { s with toks:=s.toks+1 }) :
  wpAny (model prog w) A (getAttr (.ref x) name expr) Q E s:=by
 obtain⟨od,J,hl⟩:=I.look;exact PySem.W.get_value X J (PySem.W.plainGet_of hg).1 (PySem.W.findObj_own hh ha rfl (by rw[hl,hv])) hv' h
theorem vF{pl:Sem Bool}{Q:Value×List Value->Shared->Prop}(X:K.In s.heap)(I:ObjM s.heap x dx C mA)(hg:PySem.W.plainGet K C name=true)(hf:PySem.W.findIn K (.ref C) name=some (some (.ref f)))(ht:PySem.W.isFn K (.ref f)=true)(hv:mA name=none)(h:Q (.ref f,[.ref x]) s) :
  wpAny (model prog w) A (getMethod (.ref x) name pl) Q E s:=by
 obtain⟨od,J,hl⟩:=I.look;exact PySem.W.method_fn X J (PySem.W.plainGet_of hg).1 (PySem.W.plainGet_of hg).2 hf (ZS.mp ht) (by show(PySem.W.lookIn name od).map (·.isSome)=some false;rw[hl,hv];rfl) h
theorem zo{ns:List Str}{Q:Unit->Shared->Prop}(X:K.In s.heap)(I:ObjM s.heap x dx C mA)(hs:PySem.W.findIn K (.ref C) "__setattr__" = some (some (.builtin "object.__setattr__")))(hp:PySem.W.plainOver K C=true)(ht:PySem.W.takerIn K C name=some none)(hh:PySem.W.hasDictIn K C=true)(hw:PySem.Within mA ns)(hsz:ns.length<=sizeLine)(h:∀h',ObjM h' x dx C (fun y=>if y=name then some v else mA y)->Heap.SameBut dx s.heap h'->Q () { s with heap:=h',toks:=s.toks+2 }) :
  wpAny (model prog w) A (setAttr (.ref x) name v) Q E s:=by
 obtain⟨od,J,hl⟩:=I.look;refine PySem.W.set_plain X J hs (PySem.W.osa_open (s:={ s with toks:=s.toks+1 }) (r:=none) X J hp ht fun b=>?_);obtain⟨cd,hc,hd'⟩:=PySem.W.any_some hh;have hx:s.heap.get? x=some ⟨.ref C,some dx,.plain,#[]⟩:=I.obj;refine z6 (z9 (z6 (z6 (wpAny_loadPart hx (z6 (PySem.W.Looks.here (s:={ s with toks:=s.toks+1 }) (PySem.W.looks_clsIn X hc) ?_))))));rw[hd'];refine z9 (a:=some dx) (z6 (z9 (z6 ?_)));refine wpAny_nsSet1 (s:={ s with toks:=s.toks+1 }) I.ns fun h' hn2 hs2=>?_;obtain⟨oD,esD,epD,hoD,hdD,hcD⟩:=hn2.count (PySem.Within.cons name v hw);refine z6 (wpAny_lookBehind hoD (by rw[hdD];exact pastItsLine_dict (Zx hcD (by rw[Zt];omega))) ?_);exact z9 (h _ ⟨(hs2.2 _ (ZM I.ne)).trans I.obj,hn2,I.ne⟩ hs2)
theorem vP{R:Result->Shared->Prop}{vs:List Value}{kw:List (Str×Value)}(X:K.In s.heap)(hm:PySem.W.makesIn K C=true)(hi:PySem.W.findIn K (.ref C) "__init__" = some (some (.ref f)))(hf:PySem.W.typeIn K (.ref f)=some (.type "function"))(h:codeAny (model prog w) (A.under (.builtin "type.__call__" ⟨.ref C::vs,kw⟩)) (.call (.ref f) ⟨.ref (s.heap.objs.size+1)::vs,kw⟩) (PySem.W.InitBack (s.heap.objs.size+1) R)
   { s with heap:=(s.heap.push PySem.W.emptyDict).push (PySem.W.instObj C s.heap.objs.size) }) :
  codeAny (model prog w) A (.call (.ref C) ⟨vs,kw⟩) R s:=by
 obtain⟨hh,g,d,t,os⟩:=s;exact PySem.W.make_core (PySem.W.makes_of X hm) (PySem.W.looks_findIn X hi) (fun self=>PySem.W.bind_fn X self hf) (.inl rfl) h
end
def cg(f:Str)(v:V):List (Str×V)->List (Str×V)
 | []=>[(f,v)]
 |(g,x)::r=>if g=f then(g,v)::r else(g,x)::cg f v r
theorem bH(f g:Str)(v:V):∀fs:List (Str×V),(cg f v fs).lookup g=if g=f then some v else fs.lookup g
 | []=>by
  show List.lookup g [(f,v)]=_;by_cases h:g=f
  ·have hb:(g==f)=true:=ZS.mpr h;simp only[List.lookup,hb,if_pos h]
  ·have hb:(g==f)=false:=Yw.mpr h;simp only[List.lookup,hb,if_neg h]
 |(k,x)::r=>by
  have ih:=bH f g v r;rw[show cg f v ((k,x)::r)=(if k=f then(k,v)::r else(k,x)::cg f v r)from rfl];by_cases hk:k=f
  ·rw[if_pos hk];by_cases h:g=k
   ·have hb:(g==k)=true:=ZS.mpr h;simp only[List.lookup,hb,if_pos (h.trans hk)]
   ·have hb:(g==k)=false:=Yw.mpr h;simp only[List.lookup,hb,if_neg (fun e:g=f=>h (e.trans hk.symm))]
  ·rw[if_neg hk];by_cases h:g=k
   ·have hb:(g==k)=true:=ZS.mpr h;simp only[List.lookup,hb,if_neg (fun e:g=f=>hk (h.symm.trans e))]
   ·have hb:(g==k)=false:=Yw.mpr h;simp only[List.lookup,hb];exact ih
theorem im(f:Str)(v:V):∀fs:List (Str×V),f∈(cg f v fs).map (·.1)/\∀g,g∈fs.map (·.1)->g∈(cg f v fs).map (·.1)
 | []=>⟨by simp[cg],fun g h=>by simp at h⟩
 |(k,x)::r=>by
  obtain⟨i1,i2⟩:=im f v r;rw[show cg f v ((k,x)::r)=(if k=f then(k,v)::r else(k,x)::cg f v r)from rfl];by_cases hk:k=f
  ·rw[if_pos hk];subst hk;exact⟨by simp,fun g h=>by simpa using h⟩
  ·rw[if_neg hk];refine⟨?_,fun g h=>?_⟩
   ·rw[Zz];exact Zh _ i1
   ·rw[Zz]at h ⊢;rcases Zq.mp h with e|e
    ·exact Zq.mpr (.inl e)
    ·exact Zh _ (i2 g e)
theorem ji(f:Str)(v:V):∀fs:List (Str×V),(cg f v fs).length<=fs.length+1
 | []=>by simp[cg]
 |(k,x)::r=>by
  have ih:=ji f v r;rw[show cg f v ((k,x)::r)=(if k=f then(k,v)::r else(k,x)::cg f v r)from rfl];by_cases hk:k=f
  ·rw[if_pos hk,Zt,Zt];omega
  ·rw[if_neg hk,Zt,Zt];omega
theorem RelO.some_of{v:V}{o:Option Value}(r:RelO (some v) o):∃u,o=some u/\RelV v u:=by
 cases o with
 |none=>exact(show False from r).elim
 |some u=>exact⟨u,rfl,r⟩
theorem RelO.none_of{o:Option Value}(r:RelO none o):o=none:=by
 cases o with
 |none=>rfl
 |some u=>exact(show False from r).elim
theorem ti{v:V}{u:Value}(r:RelV v u):PySem.W.handedIn u=true:=by
 cases v with
 |non=>cases(show u=Value.none from r);rfl
 |bl b=>cases(show u=Value.bool b from r);rfl
 |int i=>obtain⟨t,e⟩:=(show∃t,u=Value.int i t from r);cases e;rfl
 |str x=>obtain⟨t,e⟩:=(show∃t,u=Value.str x t from r);cases e;rfl
 |byt b=>obtain⟨t,e⟩:=(show∃t,u=Value.bytes b t from r);cases e;rfl
 |flt b=>obtain⟨t,e⟩:=(show∃t,u=Value.float b t from r);cases e;rfl
 |ref a=>cases(show u=Value.ref a from r);rfl
 |ty n=>cases(show u=Value.type n from r);rfl
section
variable{P:Program}{w:World}{H H':Hp}{h h':Heap}{a C dx:Addr}{fs fs':List (Str×V)}
theorem iM(hok:HOk P w H h)(e:H a=some (.ins C dx fs)):∃mA,ObjM h a dx C mA/\(∀f,RelO (fs.lookup f) (mA f))/\PySem.Within mA (fs.map (·.1))/\fs.length<=1000/\H dx=some (.own a):=by
 obtain⟨d,z,ne,ob,mA,n,r,q⟩:=(show ObjOk P w H h a (.ins C dx fs)from hok a _ e)
 exact⟨mA,⟨ob,n,ne⟩,r,q,z,d⟩
end
structure Cls(K:PySem.W.Frag)(C:Addr):Prop where
 pg:PySem.W.plainGet K C Str.empty=true
 hd:PySem.W.hasDictIn K C=true
 po:PySem.W.plainOver K C=true
 sa:PySem.W.findIn K (.ref C) "__setattr__" = some (some (.builtin "object.__setattr__"))
theorem Cls.get{K:PySem.W.Frag}{C:Addr}(c:Cls K C)(f:Str):PySem.W.plainGet K C f=true:=c.pg
def NoAttr(K:PySem.W.Frag)(C:Addr)(f:Str):Prop:=PySem.W.findIn K (.ref C) f=some none
theorem NoAttr.taker{K:PySem.W.Frag}{C:Addr}{f:Str}(n:NoAttr K C f):PySem.W.takerIn K C f=some none:=by unfold PySem.W.takerIn;rw[show PySem.W.findIn K (.ref C) f=some none from n];rfl
structure Con(K:PySem.W.Frag)(C:Addr)(f:Str)(v:V)(u:Value):Prop where
 at_:PySem.W.findIn K (.ref C) f=some (some u)
 rel:RelV v u
 get:PySem.W.specialIn K u "__get__" = some none
 cp:PySem.W.copiedNames.contains f=false
structure Meth(K:PySem.W.Frag)(C:Addr)(m:Str)(f:Addr):Prop where
 at_:PySem.W.findIn K (.ref C) m=some (some (.ref f))
 fn:PySem.W.isFn K (.ref f)=true
 kp:PySem.W.keepIn K (.ref f)=true
section
variable{X:Cx}{pins:List (Addr×Obj)}{σ:St}{H:Hp}{s:Shared}{a C dx:Addr}{fs:List (Str×V)}{f:Str}{v:V}{A:Around}{E:Value->Shared->Prop}
theorem rE{b:Bool}{Q:Value->Shared->Prop}(I:Inv X pins σ H s)(e:H a=some (.ins C dx fs))(c:Cls X.K C)(n:NoAttr X.K C f)(l:fs.lookup f=some v)(h:∀u s',Inv X pins σ H s'->RelV v u->Q u s'):wpAny (model X.prog X.w) A (getAttr (.ref a) f b) Q E s:=by obtain⟨mA,O,r,_,_,_⟩:=iM I.hok e;obtain⟨u,hu,ru⟩:=RelO.some_of (v:=v) (o:=mA f) (by rw[<-l];exact r f);exact yl I.kIn O (c.get f) c.hd n hu (ti ru) (h u _ (I.tok _) ru)
theorem jR{m:Str}{g:Addr}{pl:Sem Bool}{Q:Value×List Value->Shared->Prop}(I:Inv X pins σ H s)(e:H a=some (.ins C dx fs))(c:Cls X.K C)(k:Meth X.K C m g)(l:fs.lookup m=none)(h:Q (.ref g,[.ref a]) s):wpAny (model X.prog X.w) A (getMethod (.ref a) m pl) Q E s:=by obtain⟨mA,O,r,_,_,_⟩:=iM I.hok e;have hn:mA m=none:=RelO.none_of (by rw[<-l];exact r m);exact vF I.kIn O (c.get m) k.at_ k.fn hn h
theorem ss{y:V}{u:Value}{Q:Unit->Shared->Prop}(I:Inv X pins σ H s)(e:H a=some (.ins C dx fs))(c:Cls X.K C)(n:NoAttr X.K C f)(hl:fs.length<1000)(ry:RelV y u)(h:∀s',Inv X pins σ (upd H a (.ins C dx (cg f y fs))) s'->Q () s'):wpAny (model X.prog X.w) A (setAttr (.ref a) f u) Q E s:=by
 obtain⟨mA,O,r,wi,_,ho⟩:=iM I.hok e;have hz:(fs.map (·.1)).length<=sizeLine:=by rw[Zi,sizeLine_eq];omega
 refine zo I.kIn O c.sa c.po n.taker c.hd wi hz fun h' O' sb=>h _ ?_;have hd:∃o,h'.get? dx=some o:=let⟨o,_,_,e',_⟩:=O'.ns;⟨o,e'⟩
 refine I.write (x:=a) (e:=dx) (by rw[e];exact True.intro) (.inr ho) (fun b q hb z=>(sb.2 b hb).trans z) hd ?_;refine⟨by rw[ad O.ne];exact ho,?_,O.ne,O'.obj,_,O'.ns,fun g=>?_,fun g hg=>?_⟩
 ·have:=ji f y fs;omega
 ·show RelO ((cg f y fs).lookup g) (if g=f then some u else mA g);rw[bH];by_cases q:g=f
  ·rw[if_pos q,if_pos q];exact ry
  ·rw[if_neg q,if_neg q];exact r g
 ·by_cases q:g=f
  ·rw[q];exact(im f y fs).1
  ·refine(im f y fs).2 g (wi g fun z=>hg ?_);show(if g=f then some u else mA g)=none;rw[if_neg q];exact z
theorem Inv.made(I:Inv X pins σ H s):Inv X pins σ (upd (upd H s.heap.objs.size (.own (s.heap.objs.size+1))) (s.heap.objs.size+1) (.ins C s.heap.objs.size []))
  { s with heap:=(s.heap.push PySem.W.emptyDict).push (PySem.W.instObj C s.heap.objs.size) }:=by
 have e1:(s.heap.push PySem.W.emptyDict).get? s.heap.objs.size=some PySem.W.emptyDict:=Zo s.heap rfl;have e2:((s.heap.push PySem.W.emptyDict).push (PySem.W.instObj C s.heap.objs.size)).get? (s.heap.objs.size+1)=some (PySem.W.instObj C s.heap.objs.size):=by
  have:=Zo (s.heap.push PySem.W.emptyDict) (o:=PySem.W.instObj C s.heap.objs.size) rfl
  rwa [Heap.size_push]at this
 have e3:(s.heap.push PySem.W.emptyDict).Ns s.heap.objs.size (fun _=>none):=⟨PySem.W.emptyDict,#[],_,e1,rfl,(fun e he=>absurd he (by simp)),fun _=>rfl⟩
 have I1:=I.laid (a:=s.heap.objs.size) (o:=.own (s.heap.objs.size+1)) (h':=s.heap.push PySem.W.emptyDict) (t':=s.toks) (fun b u q=>Za _ q) (Ze _) ⟨_,e1⟩;refine I1.laid (a:=s.heap.objs.size+1) (o:=.ins C s.heap.objs.size []) (t':=s.toks) (fun b u q=>Za _ q) (Nat.le_of_eq (Heap.size_push _ _)) ?_;have ne:s.heap.objs.size≠s.heap.objs.size+1:=Zv (Yi _);refine⟨by rw[ad ne,af],ZO _,ne,e2,fun _=>none,(Heap.Ns1.of_empty e3).at fun o q=>Za _ q,fun _=>True.intro,fun y hy=>absurd rfl hy⟩
theorem xZ{prog:Program}{w:World}{env:Env}{e:Expr}{f:Str}{pos:Pos}{s:Shared}{Q:Value->Shared->Prop}(hb:attributeBase e f env (eval e env)=eval e env)(h:wpAny (model prog w) A (eval e env) (fun o s₁=>wpAny (model prog w) A (getAttr o f true) Q E s₁) E s):wpAny (model prog w) A (eval (.Attribute e f pos) env) Q E s :=
 Attribute_any_ h (by rw[arm_eval_Attribute,hb])
end
def wM(K:PySem.W.Frag)(ta:TE)(f:Str):TE:=fun σ H Q=>ta σ H fun x H1=>∃a C dx fs v,x=.ref a/\H1 a=some (.ins C dx fs)/\Cls K C/\NoAttr K C f/\fs.lookup f=some v/\Q v H1
def BA(K:PySem.W.Frag)(ta tv:TE)(f:Str):TS:=fun D σ H=>tv σ H fun y H1=>ta σ H1 fun x H2=>∃a C dx fs,x=.ref a/\H2 a=some (.ins C dx fs)/\Cls K C/\NoAttr K C f/\fs.length<1000 /\
 D.nx σ (upd H2 a (.ins C dx (cg f y fs)))
section
variable{X:Cx}{o e value:Expr}{f:Str}{pos pos' tpos:Pos}{ta tv:TE}
theorem AY(he:PE X e ta)(hb:attributeBase e f X.env (eval e X.env)=eval e X.env):PE X (.Attribute e f pos) (wM X.K ta f):=by intro pins s σ H Q I h;refine xZ hb (thn (he pins s σ H _ I h) fun u s1 hz9=>?_);obtain⟨x,H1,I1,rx,a,C,dx,fs,v,ex,ea,c,n,l,q⟩:=hz9;subst ex;obtain rfl:u=Value.ref a:=rx;exact rE I1 ea c n l fun u' s2 I2 ru=>⟨v,H1,I2,ru,q⟩
theorem Bg(ha:PE X o ta)(hv:PE X value tv)(hs:swapsWith value (some (.Attribute o f pos')) pos.line X.env=pure false):PS X (.Assign [.Attribute o f pos'] value pos) (BA X.K ta tv f):=by intro pins s σ H D I h;refine plainObj_wpAny_Assign_Attribute (thn (hv pins s σ H _ I h) fun u s1 ⟨y,H1,I1,ry,q⟩=>thn (ha pins s1 σ H1 _ I1 q) fun ov s2 hz9=>?_) hs;obtain⟨x,H2,I2,rx,a,C,dx,fs,ex,ea,c,n,l,q2⟩:=hz9;subst ex;obtain rfl:ov=Value.ref a:=rx;exact ss I2 ea c n l ry fun s3 I3=>⟨σ,_,I3,q2⟩
end
section
variable{X:Cx}{pins:List (Addr×Obj)}{σ:St}{H:Hp}{s:Shared}{A:Around}{E:Value->Shared->Prop}{Q:Value->Shared->Prop}{c:Value}{b:Bool}
inductive TyOf(K:PySem.W.Frag)(H:Hp):V->Value->Prop where
 |non:TyOf K H .non (.type "NoneType")
 |bl (x:Bool):TyOf K H (.bl x) (.type "bool")
 |int (i:Int):TyOf K H (.int i) (.type "int")
 |str (x:Str):TyOf K H (.str x) (.type "str")
 |flt (x:UInt64):TyOf K H (.flt x) (.type "float")
 |lst {a:Addr} {xs:List V} (e:H a=some (.lst xs)):TyOf K H (.ref a) (.type "list")
 |frz {a:Addr} {o:Obj} {xs:List V} (e:H a=some (.frz o (.lst xs))):TyOf K H (.ref a) (.type "list")
 |tup {a:Addr} {xs:List V} (e:H a=some (.tup xs)):TyOf K H (.ref a) (.type "tuple")
 |dK {a:Addr} {kvs:List (Key×V)} (e:H a=some (.dK kvs)):TyOf K H (.ref a) (.type "dict")
 |dT {a:Addr} {kvs:List (List Key×V)} (e:H a=some (.dT kvs)):TyOf K H (.ref a) (.type "dict")
 |ins {a C dx:Addr} {fs:List (Str×V)} (e:H a=some (.ins C dx fs)) (cl:Cls K C) (ha:PySem.W.findIn K (.ref C) "__class__" = some (some (.builtin "object.__class__")))
   (hn:PySem.W.specialIn K (.builtin "object.__class__") "__get__" = some (some (.builtin "getset_descriptor.__get__"))) (htk:PySem.W.takesIn K (.builtin "object.__class__")=some true)
   (hm:PySem.W.mroIn K C (.type "object")=some true):TyOf K H (.ref a) (.ref C)
theorem tq{x:V}{u t:Value}(I:Inv X pins σ H s)(rx:RelV x u)(ty:TyOf X.K H x t)(e:PySem.W.kitOne X.K t c=some b)(h:∀tk,Q (.bool b) { s with toks:=tk }) :
  wpAny (model X.prog X.w) A (call (.builtin "isinstance") [u,c]) Q E s:=by
 cases ty with
 |non=>cases(show u=Value.none from rx);exact Yf PySem.W.kitx_none I.kIn True.intro e (fun z=>nomatch z) h
 |bl y=>cases(show u=Value.bool y from rx);exact Yf PySem.W.kitx_bool I.kIn True.intro e (fun z=>nomatch z) h
 |int i=>obtain⟨t,q⟩:=(show∃t,u=Value.int i t from rx);cases q;exact Yf PySem.W.kitx_int I.kIn True.intro e (fun z=>nomatch z) h
 |str y=>obtain⟨t,q⟩:=(show∃t,u=Value.str y t from rx);cases q;exact Yf PySem.W.kitx_str I.kIn True.intro e (fun z=>nomatch z) h
 |flt y=>obtain⟨t,q⟩:=(show∃t,u=Value.float y t from rx);cases q;exact Yf PySem.W.kitx_float I.kIn True.intro e (fun z=>nomatch z) h
 |@lst a xs ea =>
  cases(show u=Value.ref a from rx);obtain⟨_,_,n,_,h1⟩:=(show ObjOk X.prog X.w H s.heap a (.lst xs)from I.hok a _ ea)
  exact Yf PySem.W.kitx_list I.kIn ⟨_,h1,rfl⟩ e (fun z=>nomatch z) h
 |@frz a ob xs ea =>
  cases(show u=Value.ref a from rx);obtain⟨_,_,_,n,_,h1⟩:=(show ObjOk X.prog X.w H s.heap a (.frz ob (.lst xs))from I.hok a _ ea)
  exact Yf PySem.W.kitx_list I.kIn ⟨_,h1,rfl⟩ e (fun z=>nomatch z) h
 |@tup a xs ea =>
  cases(show u=Value.ref a from rx);obtain⟨_,_,_,p⟩:=(show ObjOk X.prog X.w H s.heap a (.tup xs)from I.hok a _ ea)
  obtain⟨o,h1,h2,_⟩:=p;exact Yf PySem.W.kitx_tuple I.kIn ⟨o,h1,h2⟩ e (fun z=>nomatch z) h
 |@dK a kvs ea =>
  cases(show u=Value.ref a from rx);obtain⟨_,_,vs,_,p⟩:=(show ObjOk X.prog X.w H s.heap a (.dK kvs)from I.hok a _ ea)
  obtain⟨o,es,ep,h1,h2,_⟩:=p;exact Yf PySem.W.kitx_dict I.kIn ⟨o,h1,h2.1⟩ e (fun z=>nomatch z) h
 |@dT a kvs ea =>
  cases(show u=Value.ref a from rx);obtain⟨_,_,xs,_,o,es,ep,h1,h2,_⟩:=(show ObjOk X.prog X.w H s.heap a (.dT kvs)from I.hok a _ ea)
  exact Yf PySem.W.kitx_dict I.kIn ⟨o,h1,h2.1⟩ e (fun z=>nomatch z) h
 |@ins a C dx fs ea cl ha hn htk hm =>cases(show u=Value.ref a from rx);obtain⟨mA,O,_⟩:=iM I.hok ea;obtain⟨od,J,_⟩:=O.look;exact Yf (PySem.W.kitx_own (cl.get _) cl.hd ha hn htk hm) I.kIn J e (fun z=>nomatch z) h
end
open PySem PySem.Spec PyProof.Rows
structure Room(k:Nat)(A:Around):Prop where
 hd:A.handled=none
 dp:A.depth+3*k+5<recursionLimit
 un:A.units+16*k+200<cLine
theorem Room.mono{j k:Nat}{A:Around}(r:Room k A)(h:j<=k):Room j A:=⟨r.hd,by have:=r.dp;omega,by have:=r.un;omega⟩
theorem Room.deeper{k:Nat}{A:Around}(r:Room (k+1) A)(env:Env):Room k (A.deeper env) :=
 ⟨r.hd,by have:=r.dp;show A.depth+1+3*k+5<_;omega,by have:=r.un;show A.units+3+16*k+200<_;omega⟩
theorem Room.in1{k:Nat}{A:Around}(r:Room (k+1) A):Room k A.in1 :=
 ⟨r.hd,by have:=r.dp;show A.depth+3*k+5<_;omega,by have:=r.un;show A.units+1+16*k+200<_;omega⟩
theorem rQ{A:Around}{C:Addr}{us:List Value}{kw:List (Str×Value)}:(A.under (.builtin "type.__call__" ⟨.ref C::us,kw⟩)).depth=A.depth+1:=by
 first|rfl|simp[Around.under,Code.weight,Code.isCreation,Code.isGuard,Code.isCaller,Code.frames,Code.isFrame,guardIds]
theorem rR{A:Around}{C:Addr}{us:List Value}{kw:List (Str×Value)}:(A.under (.builtin "type.__call__" ⟨.ref C::us,kw⟩)).units=A.units+1:=by
 first|rfl|simp[Around.under,Code.cUnits,Code.frames,Code.isFrame]
theorem Room.make{k:Nat}{A:Around}(r:Room (k+1) A)(C:Addr)(us:List Value)(kw:List (Str×Value)):Room k (A.under (.builtin "type.__call__" ⟨.ref C::us,kw⟩)) :=
 ⟨r.hd,by have:=r.dp;rw[rQ];omega,by have:=r.un;rw[rR];omega⟩
theorem Room.depth{k:Nat}{A:Around}(r:Room k A):A.depth<recursionLimit:=by have:=r.dp;omega
theorem Room.units{k:Nat}{A:Around}(r:Room k A):A.units+64<cLine:=by have:=r.un;omega
def fL:TA:=fun _ H Q=>Q [] H
def gZ(ta:TE)(tr:TA):TA:=fun σ H Q=>ta σ H fun x H1=>tr σ H1 fun xs H2=>Q (x::xs) H2
section
variable{X:Cx}{e:Expr}{es:List Expr}{te:TE}{t:TA}{pos:Pos}
theorem oQ:PA X [] fL:=fun _ _ _ _ H Q I h=>Calls.spliced_nil ⟨[],H,I,.nil,h⟩
theorem yJ(ha:PE X e te)(hr:PA X es t)(hs:starEach (e::es) X.env=(false,eval e X.env)::starEach es X.env:=by rfl):PA X (e::es) (gZ te t):=by intro pos pins s σ H Q I h;rw[hs];show wpAny _ _ (spliced ((false,eval e X.env)::backTo pos (starEach es X.env))) _ _ s;refine Calls.spliced_cons (thn (ha pins s σ H _ I h) fun u s1 hz9=>?_);obtain⟨x,H1,I1,r1,q1⟩:=hz9;exact thn (hr pos pins s1 σ H1 _ I1 q1) fun us s2 ⟨xs,H2,I2,r2,q2⟩=>⟨x::xs,H2,I2,.cons r1 r2,q2⟩
def BT(t:TA):TE:=fun σ H Q=>t σ H fun xs H1=>xs.length<=sizeLine/\∀p,H1 p=none->Q (.ref p) (upd H1 p (.tup xs))
def BO(t:TA):TE:=fun σ H Q=>t σ H fun xs H1=>xs.length<=sizeLine/\∀p,H1 p=none->Q (.ref p) (upd H1 p (.lst xs))
theorem A6{x1}(h:PA X es t):PE X (.Tuple es x1 pos) (BT t):=by intro pins s σ H Q I hq;refine wpAny_Tuple_spliced (thn (h pos pins s σ H _ I hq) fun us s1 ⟨xs,H1,I1,r,z,q⟩=>⟨by rw[<-r.length];exact z,?_⟩);have hf:H1 s1.heap.objs.size=none:=I1.hok.fresh (Ze _);refine⟨.ref s1.heap.objs.size,upd H1 s1.heap.objs.size (.tup xs),I1.laid (t':=s1.toks) (fun b u e=>Za _ e) (Ze _) ?_,rfl,q _ hf⟩;exact⟨z,us,r,⟨_,Zo _ rfl,rfl,_,rfl⟩⟩
theorem A0(h:PA X es t):PE X (.List es pos) (BO t):=by intro pins s σ H Q I hq;refine wpAny_List_spliced (thn (h pos pins s σ H _ I hq) fun us s1 ⟨xs,H1,I1,r,z,q⟩=>⟨by rw[<-r.length];exact z,?_⟩);have hf:H1 s1.heap.objs.size=none:=I1.hok.fresh (Ze _);refine⟨.ref s1.heap.objs.size,upd H1 s1.heap.objs.size (.lst xs),I1.laid (t':=s1.toks) (fun b u e=>Za _ e) (Ze _) ?_,rfl,q _ hf⟩;exact⟨z,us,0,r,Zo _ rfl⟩
end
abbrev Sp:=List V->Hp->VK->XK->Prop
abbrev CXT:=List Env->Hp->Shared->XK->Value->Shared->Prop
structure Env0(P:Program)(w:World)(K:PySem.W.Frag)(mg:Str->Option Value)(base:Heap)(A:Around)(outer:List Env)(s:Shared)(H:Hp):Prop where
 frames:A.frames=some outer
 mod:Mod K mg base
 bs:∀b o,base.get? b=some o->s.heap.get? b=some o/\H b=none
 bsz:base.objs.size<=s.heap.objs.size
 funs:s.heap.FunFrames base outer
 frf:∀b∈frs outer,H b=none
 hok:HOk P w H s.heap
 bare:AllBare s.gens
def CE(outer:List Env)(P:Program)(w:World)(H:Hp)(s:Shared)(Q:VK)(u:Value)(s':Shared):Prop :=
 ∃v H',s'.os=s.os/\AllBare s'.gens/\Un (frs outer) [] H H' s.heap s'.heap/\HOk P w H' s'.heap/\RelV v u/\Q v H'
def CR(CX:CXT)(outer:List Env)(P:Program)(w:World)(H:Hp)(s:Shared)(Q:VK)(E:XK)(r:Result)(s':Shared):Prop :=
 match r with
 |.ok (.ret u)=>CE outer P w H s Q u s'
 |.ok _=>False
 |.error e=>CX outer H s E e s'
structure FnOk(P:Program)(w:World)(K:PySem.W.Frag)(mg:Str->Option Value)(base:Heap)(CX:CXT)(k:Nat)(f:Addr)(fd:FuncData)(ps:List Str)(sp:Sp):Prop where
 len:∀vs H Q E,sp vs H Q E->vs.length=ps.length
 run:∀(A:Around) (outer:List Env) (s:Shared) (H:Hp) (args:Args) (us:List Value) (vs:List V) (Q:VK) (E:XK),Room k A->Env0 P w K mg base A outer s H->BindsTo s fd args (ps.zip us)->Vals vs us->sp vs H Q E ->
  codeAny (model P w) A (.call (.ref f) args) (CR CX outer P w H s Q E) s
theorem Env0.make{P:Program}{w:World}{K:PySem.W.Frag}{mg:Str->Option Value}{base:Heap}{A:Around}{outer:List Env}{s:Shared}{H:Hp}(e:Env0 P w K mg base A outer s H)(C:Addr)(us:List Value)(kw:List (Str×Value)) :
  Env0 P w K mg base (A.under (.builtin "type.__call__" ⟨.ref C::us,kw⟩)) outer s H:=⟨by first|exact e.frames|(simpa[Around.under,Code.envs,Code.isFrame,pushEnvs]using e.frames),e.mod,e.bs,e.bsz,e.funs,e.frf,e.hok,e.bare⟩
section
variable{X:Cx}{pins:List (Addr×Obj)}{σ:St}{H:Hp}{s s':Shared}
theorem Inv.env0(I:Inv X pins σ H s):Env0 X.prog X.w X.K X.mg X.base X.A X.stack s H :=
 ⟨I.ok.frames,I.ok.mod,I.bs,Zx I.ok.bsz I.sz,I.stack,I.stkFree,I.hok,I.bare⟩
theorem Inv.after{Q:VK}{u:Value}(I:Inv X pins σ H s)(h:CE X.stack X.prog X.w H s Q u s'):EP X pins σ Q u s':=by obtain⟨v,H',os,bare,un,hok,r,q⟩:=h;obtain⟨hh,g,d,t,os'⟩:=s';obtain rfl:os'=s.os:=os;exact⟨v,H',I.call (h':=hh) (g':=g) (d':=d) (t':=t) (ch:=[]) un hok bare (fun b z=>absurd z (by simp)),r,q⟩
end
def nh(sp:Sp)(dvs:List V)(E:XK)(t:TA):TE:=fun σ H Q=>t σ H fun vs H1=>sp (vs++dvs) H1 Q E
def kL(C:Addr)(m:Str)(sp:Sp)(dvs:List V)(E:XK)(ta:TE)(t:TA):TE:=fun σ H Q=>ta σ H fun x H1=>∃a dx fs,x=.ref a/\H1 a=some (.ins C dx fs)/\fs.lookup m=none /\
 t σ H1 fun vs H2=>sp (x::(vs++dvs)) H2 Q E
def xL(C:Addr)(sp:Sp)(dvs:List V)(E:XK)(t:TA):TE:=fun σ H Q=>t σ H fun vs H1=>∀x dx,H1 x=none->H1 dx=none->dx≠x ->
 sp (.ref x::(vs++dvs)) (upd (upd H1 dx (.own x)) x (.ins C dx [])) (fun v H2=>v=.non/\Q (.ref x) H2) E
def Binds(K:PySem.W.Frag)(fd:FuncData)(ps:List Str)(ds:List Value):Prop :=
 ∀(s:Shared) (us:List Value),K.In s.heap->(us++ds).length=ps.length->BindsTo s fd ⟨us,[]⟩ (ps.zip (us++ds))
theorem Binds.all{K:PySem.W.Frag}{fd:FuncData}{ps:List Str}(h:∀us:List Value,us.length=ps.length->bindArgs fd ⟨us,[]⟩=pure (ps.zip us)):Binds K fd ps []:=fun s us _ hl=>by rw[Z3]at hl ⊢;exact .of_eq (h us hl)
def cw(CX:CXT)(X:Cx)(E:XK):Prop:=∀(pins:List (Addr×Obj)) (σ:St) (H:Hp) (s:Shared) (e:Value) (s':Shared),Inv X pins σ H s->CX X.stack H s E e s'->X.xe e s'
section
variable{X:Cx}{CX:CXT}{k:Nat}{f C:Addr}{fd:FuncData}{ps:List Str}{sp:Sp}{dvs:List V}{ds:List Value}{E:XK}{x m:Str}{p pos apos:Pos}{e o:Expr}{es:List Expr}{ta:TE}{t:TA}
theorem oW{pins:List (Addr×Obj)}{σ:St}{H:Hp}{s:Shared}{Q:VK}{us:List Value}{vs:List V}(F:FnOk X.prog X.w X.K X.mg X.base CX k f fd ps sp)(hr:Room k X.A)(hb:Binds X.K fd ps ds)(hd:Vals dvs ds)(hx:cw CX X E)(I:Inv X pins σ H s)(r:Vals vs us)(h:sp (vs++dvs) H Q E):wpAny (model X.prog X.w) X.A (call (.ref f) us) (EP X pins σ Q) X.xe s:=by
 have r2:Vals (vs++dvs) (us++ds):=r.append hd;have hl:(us++ds).length=ps.length:=by rw[<-r2.length];exact F.len _ _ _ _ h
 refine wpAny_call (codeAny_mono (F.run X.A X.stack s H ⟨us,[]⟩ (us++ds) (vs++dvs) Q E hr I.env0 (hb s us I.kIn hl) r2 h) fun r s' hq=>?_);cases r with
 |error e=>exact hx pins σ H s e s' I hq
 |ok fl =>
  cases fl with
  |ret u=>exact I.after hq
  |next=>exact False.elim hq
  |brk=>exact False.elim hq
  |cont=>exact False.elim hq
theorem yM(F:FnOk X.prog X.w X.K X.mg X.base CX k f fd ps sp)(hr:Room k X.A)(hg:Gl X x)(hm:X.mg x=some (.ref f))(hk:PySem.W.keepIn X.K (.ref f)=true)(hb:Binds X.K fd ps ds)(hd:Vals dvs ds)(hx:cw CX X E)(ha:PA X (e::es) t)(hdb:(x==("__debug__":Str))=false:=by decide)(he:starEach (e::es) X.env=(false,eval e X.env)::starEach es X.env:=by rfl)(hpl:(backTo pos (starEach es X.env)).any (·.1)=false:=by rfl) :
  PE X (.Call (.Name x p) (e::es) [] pos) (nh sp dvs E t):=by
 intro pins s σ H Q I h;refine wpAny_Call_Name_kw (fQ I hg hm ?_ hdb);refine PySem.W.callWith_K (h₀:=X.base) I.ok.mod.kin hk (thn (ha pos pins s σ H _ I h) fun us s1 ⟨vs,H1,I1,r,q⟩=>⟨I1.kIn,?_⟩) he hpl;exact oW F hr hb hd hx I1 r q
theorem qw{pl:Sem Bool}(he:PE X o ta)(c:Cls X.K C)(hm:Meth X.K C m f)(F:FnOk X.prog X.w X.K X.mg X.base CX k f fd ps sp)(hr:Room k X.A)(hb:Binds X.K fd ps ds)(hd:Vals dvs ds)(hx:cw CX X E)(ha:PA X (e::es) t)(hst:starEach (e::es) X.env=(false,eval e X.env)::starEach es X.env:=by rfl)(hpl:(backTo pos (starEach es X.env)).any (·.1)=false:=by rfl)(ht:eval (.Call (.Attribute o m apos) (e::es) [] pos) X.env=(do
   let ov ←eval o X.env
   standAt apos.atName
   let(f,first) ←holding [ov] (getMethod ov m pl)
   callWith pos f first (backTo pos (starEach (e::es) X.env)) (backToKw pos (keywordEach [] X.env))):=by rfl) :
  PE X (.Call (.Attribute o m apos) (e::es) [] pos) (kL C m sp dvs E ta t):=by
 intro pins s σ H Q I h;refine PySem.W.methodCall_KW (pl:=pl) (thn (he pins s σ H _ I h) fun u s1 hz9=>?_) ht;obtain⟨x,H1,I1,rx,a,dx,fs,ex,ea,l,q⟩:=hz9;subst ex;obtain rfl:u=Value.ref a:=rx;refine jR I1 ea c hm l ?_;refine PySem.W.callWith_K (first:=[.ref a]) (h₀:=X.base) I.ok.mod.kin hm.kp (thn (ha pos pins s1 σ H1 _ I1 q) fun us s2 ⟨vs,H2,I2,r,q2⟩=>⟨I2.kIn,?_⟩) hst hpl;exact oW (us:=.ref a::us) (vs:=.ref a::vs) F hr hb hd hx I2 (.cons rfl r) q2
theorem vZ{pl:Sem Bool}(he:PE X o ta)(c:Cls X.K C)(hm:Meth X.K C m f)(F:FnOk X.prog X.w X.K X.mg X.base CX k f fd ps sp)(hr:Room k X.A)(hb:Binds X.K fd ps ds)(hd:Vals dvs ds)(hx:cw CX X E)(ht:eval (.Call (.Attribute o m apos) [] [] pos) X.env=(do
   let ov ←eval o X.env
   standAt apos.atName
   let(f,first) ←holding [ov] (getMethod ov m pl)
   callWith pos f first (backTo pos (starEach [] X.env)) (backToKw pos (keywordEach [] X.env))):=by rfl) :
  PE X (.Call (.Attribute o m apos) [] [] pos) (kL C m sp dvs E ta fL):=by
 intro pins s σ H Q I h;refine PySem.W.methodCall_KW (pl:=pl) (thn (he pins s σ H _ I h) fun u s1 hz9=>?_) ht;obtain⟨x,H1,I1,rx,a,dx,fs,ex,ea,l,q⟩:=hz9;subst ex;obtain rfl:u=Value.ref a:=rx;refine jR I1 ea c hm l ?_;exact PySem.W.callWith_K0 (first:=[.ref a]) I1.kIn hm.kp (oW (us:=[.ref a]) (vs:=[.ref a]) F hr hb hd hx I1 (.cons rfl .nil) q)
structure Mk(K:PySem.W.Frag)(C f:Addr):Prop where
 makes:PySem.W.makesIn K C=true
 init:PySem.W.findIn K (.ref C) "__init__" = some (some (.ref f))
 fn:PySem.W.isFn K (.ref f)=true
 kp:PySem.W.keepIn K (.ref C)=true
theorem wH{pins:List (Addr×Obj)}{σ:St}{H:Hp}{s:Shared}{Q:VK}{us:List Value}{vs:List V}(M:Mk X.K C f)(F:FnOk X.prog X.w X.K X.mg X.base CX k f fd ps sp)(hr:Room (k+1) X.A)(hb:Binds X.K fd ps ds)(hd:Vals dvs ds)(hx:cw CX X E)(I:Inv X pins σ H s)(r:Vals vs us)(h:∀x dx,H x=none->H dx=none->dx≠x->sp (.ref x::(vs++dvs)) (upd (upd H dx (.own x)) x (.ins C dx [])) (fun v H2=>v=.non/\Q (.ref x) H2) E) :
  wpAny (model X.prog X.w) X.A (call (.ref C) us) (EP X pins σ Q) X.xe s:=by
 have hq:=h (s.heap.objs.size+1) s.heap.objs.size (I.hok.fresh (Nat.le_succ _)) (I.hok.fresh (Ze _)) (Zv (Yi _));have I2:=Inv.made (C:=C) I;have r2:Vals (V.ref (s.heap.objs.size+1)::(vs++dvs)) (Value.ref (s.heap.objs.size+1)::(us++ds)):=.cons rfl (r.append hd);have hl:(Value.ref (s.heap.objs.size+1)::us++ds).length=ps.length:=by have e:=r2.length;rw[F.len _ _ _ _ hq]at e;exact e.symm
 refine wpAny_call (vP (f:=f) I.kIn M.makes M.init (ZS.mp M.fn) (codeAny_mono (F.run _ X.stack _ _ ⟨Value.ref (s.heap.objs.size+1)::us,[]⟩ (Value.ref (s.heap.objs.size+1)::(us++ds)) _ _ E (hr.make C us [])
  (I2.env0.make C us []) (hb _ (Value.ref (s.heap.objs.size+1)::us) I2.kIn hl) r2 hq) fun r s' hq'=>?_))
 cases r with
 |error e=>exact hx pins σ _ _ e s' I2 hq'
 |ok fl =>
  cases fl with
  |ret u =>obtain⟨v,H',I3,rv,ev,q3⟩:=I2.after hq';subst ev;exact⟨rv,⟨V.ref (s.heap.objs.size+1),H',I3,rfl,q3⟩⟩
  |next=>exact False.elim hq'
  |brk=>exact False.elim hq'
  |cont=>exact False.elim hq'
theorem vY(M:Mk X.K C f)(F:FnOk X.prog X.w X.K X.mg X.base CX k f fd ps sp)(hr:Room (k+1) X.A)(hg:Gl X x)(hm:X.mg x=some (.ref C))(hb:Binds X.K fd ps ds)(hd:Vals dvs ds)(hx:cw CX X E)(hdb:(x==("__debug__":Str))=false:=by decide):PE X (.Call (.Name x p) [] [] pos) (xL C sp dvs E fL):=by intro pins s σ H Q I h;refine wpAny_Call_Name_kw (fQ I hg hm ?_ hdb);exact PySem.W.callWith_K0 I.kIn M.kp (wH (us:=[]) M F hr hb hd hx I .nil h)
end
def PK(X:Cx)(kws:List Keyword)(t:TA):Prop :=
 ∀(pos:Pos) (pins:List (Addr×Obj)) (s:Shared) (σ:St) (H:Hp) (Q:List V->Hp->Prop),Inv X pins σ H s->t σ H Q->wpAny (model X.prog X.w) X.A (evalAll ((backToKw pos (keywordEach kws X.env)).map (·.2))) (AP X pins σ Q) X.xe s
section
variable{X:Cx}{CX:CXT}{k:Nat}{f C:Addr}{fd:FuncData}{ps ks:List Str}{sp:Sp}{E:XK}{x m:Str}{p pos apos kpos:Pos}{e o:Expr}{es:List Expr}{kws:List Keyword}{te ta:TE}{t tk:TA}{nm:Option Str}
theorem Be:PK X [] fL:=fun _ _ _ _ H Q I h=>wpAny_evalAll_nil ⟨[],H,I,.nil,h⟩
theorem yV(ha:PE X e te)(hr:PK X kws t):PK X (⟨nm,e,kpos⟩::kws) (gZ te t):=by intro pos pins s σ H Q I h;show wpAny _ _ (evalAll ((do let v ←eval e X.env;standAt pos;pure v)::(backToKw pos (keywordEach kws X.env)).map (·.2))) _ _ s;refine wpAny_evalAll_cons (z6 (thn (ha pins s σ H _ I h) fun u s1 ⟨x,H1,I1,r1,q1⟩=>z6 (wpAny_standAt (z9 ?_))));exact thn (hr pos pins s1 σ H1 _ I1 q1) fun us s2 ⟨xs,H2,I2,r2,q2⟩=>⟨x::xs,H2,I2,.cons r1 r2,q2⟩
structure KBinds(K:PySem.W.Frag)(fd:FuncData)(ps ks:List Str)(g:List Value->List Value->List Value)(gV:List V->List V->List V):Prop where
 to:∀(s:Shared) (us ws:List Value),K.In s.heap->(g us ws).length=ps.length->BindsTo s fd ⟨us,ks.zip ws⟩ (ps.zip (g us ws))
 rel:∀{vs:List V} {us:List Value} {zs:List V} {ws:List Value},Vals vs us->Vals zs ws->Vals (gV vs zs) (g us ws)
variable{g:List Value->List Value->List Value}{gV:List V->List V->List V}
end
structure FnScope(N P:List Str)(sc:Scope):Prop where
 kind:sc.kind=.function
 co:sc.isCoroutine=false
 gen:sc.isGenerator=false
 nd:N.Nodup
 pre:N.take P.length=P
 par:∀x∈P,sc.names.lookup x=some .local\/sc.names.lookup x=some .cell
 nofree:∀y∈sc.names,y.2≠.free
theorem lU{kindOf:Str->Option NameKind}{x:Str}:∀{binds:List (Str×Value)} {m:Str->Option Value},(∀v,(x,v)∉binds)->bindL kindOf binds m x=m x
 | [],_,_=>rfl
 |(n,v)::r,m,h=>by
  unfold bindL;rw[lU fun w hw=>h w (Zh _ hw)];split
  ·have:x≠n:=by rintro rfl;exact h v Zr
   simp[this]
  ·rfl
theorem lS{kindOf:Str->Option NameKind}{x:Str}:∀{binds:List (Str×Value)} {m:Str->Option Value},(∀v,(x,v)∉binds)->bindC kindOf binds m x=m x
 | [],_,_=>rfl
 |(n,v)::r,m,h=>by
  unfold bindC;rw[lS fun w hw=>h w (Zh _ hw)];split
  ·rfl
  ·have:x≠n:=by rintro rfl;exact h v Zr
   simp[this]
theorem lT{kindOf:Str->Option NameKind}{x:Str}{v:Value}:∀{P:List Str} {vs:List Value} {i:Nat} {m:Str->Option Value},P.Nodup->P[i]?=some x->vs[i]?=some v->kindOf x=some .local ->
  bindL kindOf (P.zip vs) m x=some v
 | [],_,_,_,_,h,_,_=>by simp at h
 |_::_,[],_,_,_,_,h,_=>by simp at h
 |p::P,w::vs,0,m,nd,h1,h2,hk=>by simp at h1 h2;subst h1;subst h2;show bindL kindOf ((p,w)::P.zip vs) m p=_;unfold bindL;rw[lU fun v hv=>(ZT.mp nd).1 (List.of_mem_zip hv).1,if_pos hk];simp
 |p::P,w::vs,i+1,m,nd,h1,h2,hk=>by show bindL kindOf ((p,w)::P.zip vs) m x=_;unfold bindL;exact lT (i:=i) (ZT.mp nd).2 (by simpa using h1) (by simpa using h2) hk
theorem lQ{kindOf:Str->Option NameKind}{x:Str}{v:Value}:∀{P:List Str} {vs:List Value} {i:Nat} {m:Str->Option Value},P.Nodup->P[i]?=some x->vs[i]?=some v->kindOf x≠some .local ->
  bindC kindOf (P.zip vs) m x=some v
 | [],_,_,_,_,h,_,_=>by simp at h
 |_::_,[],_,_,_,_,h,_=>by simp at h
 |p::P,w::vs,0,m,nd,h1,h2,hk=>by simp at h1 h2;subst h1;subst h2;show bindC kindOf ((p,w)::P.zip vs) m p=_;unfold bindC;rw[lS fun v hv=>(ZT.mp nd).1 (List.of_mem_zip hv).1,if_neg hk];simp
 |p::P,w::vs,i+1,m,nd,h1,h2,hk=>by show bindC kindOf ((p,w)::P.zip vs) m x=_;unfold bindC;exact lQ (i:=i) (ZT.mp nd).2 (by simpa using h1) (by simpa using h2) hk
def start(N:List Str)(vs:List V):St:=vs.map some++List.replicate (N.length-vs.length) none
def cJ(CX:CXT)(P:Program)(w:World)(K:PySem.W.Frag)(mg:Str->Option Value)(base:Heap)(N:List Str)(qual:Str)(scope:Scope)(f:Addr)(cd:Value)(A:Around)(outer:List Env)(s:Shared)(H:Hp)(E:XK):Cx where
 prog:=P
 w:=w
 K:=K
 mg:=mg
 base:=base
 A:=A.deeper (envOfC qual scope s.heap.objs.size f cd)
 N:=N
 s₀:=s
 H₀:=H
 env:=envOfC qual scope s.heap.objs.size f cd
 outer:=outer
 stack:=envOfC qual scope s.heap.objs.size f cd::outer
 ex:=[]
 calm:=true
 fn:=fun _=>true
 pn:=[]
 xe:=fun e s'=>wpAny (model P w) (A.deeper (envOfC qual scope s.heap.objs.size f cd)) (leaving (envOfC qual scope s.heap.objs.size f cd) e) (fun _ s''=>CX outer H s E e s'') (fun e' s''=>CX outer H s E e' s'') s'
theorem nQ{sc:Scope}{n:Nat}{x:Str}(h:sc.names.lookup x=some .cell):∃c,(cellsFrom n sc.names []).lookup x=some c:=by have q:=PySem.W.cellsFrom_some sc.names n [] (.inl h);exact YG.mp q
theorem tm{CX:CXT}{P:Program}{w:World}{K:PySem.W.Frag}{mg:Str->Option Value}{base:Heap}{N ps:List Str}{qual:Str}{scope:Scope}{f:Addr}{cd:Value}{A:Around}{outer:List Env}{s s1:Shared}{H:Hp}{E:XK}{us:List Value}{vs:List V}(S:FnScope N ps scope)(hd:A.handled=none)(e0:Env0 P w K mg base A outer s H)(hl:vs.length=ps.length)(r:Vals vs us)(x:InCallC s s.heap.objs.size (bindL (envOfC qual scope s.heap.objs.size f cd).kindOf (ps.zip us) fun _=>none) (cellsFrom (s.heap.objs.size+1) scope.names []) (bindC (envOfC qual scope s.heap.objs.size f cd).kindOf (ps.zip us) fun _=>none) s1) :
  Inv (cJ CX P w K mg base N qual scope f cd A outer s H E) [] (start N vs) H s1:=by
 have hpl:ps.length<=N.length:=by have:=Yy List.length S.pre;rw[ZN]at this;omega
 obtain⟨h1,tk,rfl,hk⟩:=x.done;have noA:∀b:Addr,b∉(cJ CX P w K mg base N qual scope f cd A outer s H E).ex:=fun b z=>absurd (show b∈([]:List Addr)from z) (by simp);refine⟨⟨e0.mod,S.kind,rfl,rfl,Ze _,fun y z c h1 h2=>?_,fun y hy=>?_,fun y c _ h=>?_,fun _=>hd,Around.frames_deeper e0.frames,.inr ⟨rfl,rfl⟩,fun b z=>absurd z (noA b),e0.bs,e0.bsz,fun b _ _=>noA b,fun b z=>absurd z (noA b),e0.funs,e0.frf⟩,
  rfl,e0.bare,Un.kept hk,⟨_,x.toInCall.ns,fun i y v h1 h2 h3=>?_⟩,fun y c h=>⟨_,x.cell y c h⟩,e0.hok.fresh (Ze _),fun y c h=>?_,fun p hp=>absurd (show p∈([]:List (Addr×Obj)) from hp) (by simp),e0.hok.kept hk,?_⟩
 ·exact name_of_addr x.apart (y9 h1) (y9 h2)
 ·have hy:scope.names.lookup y=some .cell\/scope.names.lookup y=some .free:=hy;rcases hy with hy|hy
  ·exact nQ hy
  ·exact absurd rfl (S.nofree _ (y9 hy))
 ·exact Nat.le_of_lt (x.above y c (y9 h))
 ·have hi:i<vs.length:=by
   unfold start at h2;by_cases hi:i<vs.length
   ·exact hi
   ·rw[ZV (by simpa using hi)]at h2;rw[List.getElem?_replicate]at h2;split at h2<;>cases h2
  have ha:vs[i]?=some v:=by
   unfold start at h2;rw[Yn (by simpa using hi),ZG]at h2;cases e:vs[i]? with
   |none=>rw[e]at h2;cases h2
   |some a=>rw[e]at h2;cases h2;rfl
  obtain⟨u,hu,rv⟩:=r.get ha;have hp:ps[i]?=some y:=by rw[<-S.pre,List.getElem?_take_of_lt (by omega)];exact h1
  have ndP:ps.Nodup:=by rw[<-S.pre];exact S.nd.sublist (Ya _ _)
  refine⟨u,rv,?_⟩;rcases S.par y (ZK hp)with k|k
  ·exact .inl ⟨k,lT ndP hp hu k⟩
  ·obtain⟨c,e⟩:=nQ (n:=s.heap.objs.size+1) k;refine .inr ⟨.inl k,c,e,?_⟩;have q:=x.cell y c e;rw[lQ ndP hp hu (by show scope.names.lookup y≠_;rw[k];decide)]at q;exact q
 ·exact e0.hok.fresh (Nat.le_of_lt (x.above y c (y9 h)))
 ·unfold start;show _=N.length;rw[Zn,Zi,List.length_replicate];omega
theorem rC{CX:CXT}{P:Program}{w:World}{K:PySem.W.Frag}{mg:Str->Option Value}{base:Heap}{k:Nat}{f:Addr}{name qual:Str}{params:Arguments}{body:List Stmt}{scope:Scope}{dV kV doc pm cdv ct oc:Value}{an od:Option Addr}{osl:Array (Option Value)}{N ps:List Str}{sp:Sp}(lk:K.lookup f=some ⟨oc,od,.func (PySem.W.fnOf name qual params body scope dV kV doc pm an cdv ct),osl⟩)(hcd:PySem.W.codeIn K cdv qual=true)(S:FnScope N ps scope)(len:∀ vs H Q E,sp vs H Q E->vs.length=ps.length)(hbody:∀ (A:Around) (outer:List Env) (s:Shared) (H:Hp) (vs:List V) (Q:VK) (E:XK),Room k (A.deeper (envOfC qual scope s.heap.objs.size f cdv))->sp vs H Q E ->
   ∃ t,PSs (cJ CX P w K mg base N qual scope f cdv A outer s H E) body t/\t { nx:=fun _ H'=>Q .non H',rt:=Q } (start N vs) H) :
  FnOk P w K mg base CX (k+1) f (PySem.W.fnOf name qual params body scope dV kV doc pm an cdv ct) ps sp:=by
 refine⟨len,fun A outer s H args us vs Q E hr e0 hb r hsp=>?_⟩;have hl:=len _ _ _ _ hsp;have KX:K.In s.heap:=e0.mod.kin.keeps fun b o e=>(e0.bs b o e).1;have lim:s.heap.NoLimit:=e0.mod.nolimit.keeps fun b o e=>(e0.bs b o e).1;have hkind:∀y∈ps.zip us,scope.names.lookup y.1=some .local\/(scope.names.lookup y.1=some .cell/\((cellsFrom (s.heap.objs.size+1) scope.names []).lookup y.1).isSome=true):=fun⟨n,v⟩ hy=>by
  rcases S.par n (List.of_mem_zip hy).1 with q|q
  ·exact .inl q
  ·exact .inr ⟨q,PySem.W.cellsFrom_some _ _ _ (.inl q)⟩
 refine codeAny_call_function hr.depth (KX _ _ lk) rfl S.co S.gen rfl (PySem.W.codeRec_of KX hcd) (hb _ _ _ _ ?_);refine wpAny_newFunctionEnv_cells S.kind hkind fun env he s1 x=>?_;subst he;refine⟨lim.keeps x.toInCall.keep,codeAny_func ?_⟩;obtain⟨t,ht,hq⟩:=hbody A outer s H vs Q E (hr.deeper _) hsp;have I:Inv (cJ CX P w K mg base N qual scope f cdv A outer s H E) [] (start N vs) H s1:=tm S hr.hd e0 hl r x;refine ZQ (ht [] s1 (start N vs) H _ I hq) (fun fl s' hs=>?_) fun e s' hs=>hs;have fin:∀{σ':St} {H':Hp} {v:V} {u:Value},Inv (cJ CX P w K mg base N qual scope f cdv A outer s H E) [] σ' H' s'->RelV v u->Q v H'->CE outer P w H s Q u s' :=
  fun{σ' H' v u} J rv q=>⟨v,H',J.os,J.bare,J.base,J.hok,rv,q⟩
 cases fl with
 |ret u =>obtain⟨v,σ',H',J,rv,q⟩:=hs;exact fin J rv q
 |next =>obtain⟨σ',H',J,q⟩:=hs;exact fin (v:=V.non) (u:=Value.none) J rfl q
 |brk =>obtain⟨_,_,_,q⟩:=hs;exact False.elim q
 |cont =>obtain⟨_,_,_,q⟩:=hs;exact False.elim q
open PySem PySem.Spec PyProof.Rows
section
variable{X:Cx}{x:Str}{p pos:Pos}{e:Expr}{es:List Expr}{t:TA}{id T:String}{r:List V->Hp->VK->Prop}
def tCB(r:List V->Hp->VK->Prop)(t:TA):TE:=fun σ H Q=>t σ H fun vs H1=>r vs H1 Q
theorem vW(hc:dW X (.builtin id) r)(hg:Gl X x)(hm:X.mg x=none)(hv:bootBuiltins x=some (.builtin id))(ha:PA X (e::es) t)(hn:x≠"__name__":=by decide)(hdb:(x==("__debug__":Str))=false:=by decide)(he:starEach (e::es) X.env=(false,eval e X.env)::starEach es X.env:=by rfl)(hpl:(backTo pos (starEach es X.env)).any (·.1)=false:=by rfl):PE X (.Call (.Name x p) (e::es) [] pos) (tCB r t):=by intro pins s σ H Q I h;refine wpAny_Call_Name_kw (dJ I hg hm hv ?_ hn hdb);exact PyProof.Rows.callWith_builtin1 (thn (ha pos pins s σ H _ I h) fun us s1 ⟨vs,H1,I1,r1,q1⟩=>hc pins s1 σ H1 vs us Q I1 r1 q1) he hpl
theorem uk(hc:dW X (.type T) r)(hg:Gl X x)(hm:X.mg x=none)(hv:bootBuiltins x=some (.type T))(ha:PA X (e::es) t)(hn:x≠"__name__":=by decide)(hdb:(x==("__debug__":Str))=false:=by decide)(he:starEach (e::es) X.env=(false,eval e X.env)::starEach es X.env:=by rfl)(hpl:(backTo pos (starEach es X.env)).any (·.1)=false:=by rfl):PE X (.Call (.Name x p) (e::es) [] pos) (tCB r t):=by intro pins s σ H Q I h;refine wpAny_Call_Name_kw (dJ I hg hm hv ?_ hn hdb);exact Yu (thn (ha pos pins s σ H _ I h) fun us s1 ⟨vs,H1,I1,r1,q1⟩=>hc pins s1 σ H1 vs us Q I1 r1 q1) he hpl
end
end L2
namespace HT
open PySem PyProof.Rows
def lexLt:List Int->List Int->Bool
 | [],[]=>false
 | [],_::_=>true
 |_::_,[]=>false
 |x::xs,y::ys=>if x=y then lexLt xs ys else decide (x<y)
theorem lexLt_cons(x y:Int)(xs ys:List Int):lexLt (x::xs) (y::ys)=if x=y then lexLt xs ys else decide (x<y):=rfl
theorem lexLt_nil_nil:lexLt [] []=false:=rfl
theorem lexLt_nil_cons(y:Int)(ys:List Int):lexLt [] (y::ys)=true:=rfl
theorem lq(x:Int)(xs:List Int):lexLt (x::xs) []=false:=rfl
theorem eqAt_int(A:Around)(s:Shared)(a:Int)(t:Tok)(c:Int)(u:Tok):∃e,SeqAt.EqAt A s (.int a t) (.int c u) e/\(e=true↔a=c) :=
 ⟨(a==c),SeqAt.EqAt.int_int a t c u,by simp⟩
theorem wF(A:Around)(s:Shared)(a:Int)(t:Tok)(c:Int)(u:Tok)(prog:Program)(w:World)(E:Value->Shared->Prop)(Q:Value->Shared->Prop)(h:Q (.bool (decide (a<c))) s) :
  wpAny (model prog w) A (richCompare .Lt (.int a t) (.int c u)) Q E s :=
 (PyProof.Rows.lt_int h:wpAny (model prog w) A (compareOp .Lt (.int a t) (.int c u)) Q E s)
section
open PySem.SeqAt
open PySem.AutoSeq1 (wpAny_loadPart')
open PySem.MeetsSeq PySem.MeetsSeq2 PySem.MeetsSeq3
theorem mT(l b:Addr)(items items2:Array Value)(n n2:Nat)(dd dd2:Option Addr)(sl sl2:Array (Option Value))(ns ms:List Int)(hi:IntsAre items.toList ns)(hj:IntsAre items2.toList ms) :
  Meets (Builtin.«tuple.__lt__» ⟨[.ref l,.ref b],[]⟩)
   (fun _ R s=>s.heap.get? l=some { cls:=.type "tuple",dict:=dd,data:=.seq items n,slots:=sl }/\s.heap.get? b=some { cls:=.type "tuple",dict:=dd2,data:=.seq items2 n2,slots:=sl2 } /\
    R (.ok (.ret (.bool (lexLt ns ms)))) s) :=
 .of_wp fun prog w A R s h=>by
  obtain⟨hp,g,d,tk,os⟩:=s;obtain⟨hl,hb,h⟩:=h;have f2:=AutoSeq1.sub_tuple_tuple;have z1:items.size=ns.length:=by rw[<-hi.length];simp
  have z2:items2.size=ms.length:=by rw[<-hj.length];simp
  wp_walk using wpAny_loadPart' hl,wpAny_loadPart' hb,Yz _ (fun rest b s'=>b.1=none/\s'=⟨hp,g,d,tk,os⟩/\∃ (vs ws:List Value) (ns' ms':List Int),rest=vs.zip ws /\
   IntsAre vs ns'/\IntsAre ws ms'/\ns'.length+items2.size=ms'.length+items.size/\R (.ok (.ret (.bool (lexLt ns' ms')))) ⟨hp,g,d,tk,os⟩) _
  case turn =>
   rintro⟨y,x⟩ rest b s' ⟨hb',rfl,vs,ws,ns',ms',hz,hvi,hwi,hlen,hR⟩;cases hvi with
   |nil=>rw[List.zip_nil_left]at hz;cases hz
   |cons a t hvi' =>
    cases hwi with
    |nil=>rw[List.zip_nil_right]at hz;cases hz
    |cons c u hwi' =>
     rw[List.zip_cons_cons]at hz;injection hz with hyx hrest;injection hyx with hy hx;subst hy hx;rw[lexLt_cons]at hR;simp only[Zt]at hlen;obtain⟨e,he,hiff⟩:=eqAt_int A.in1 ⟨hp,g,d,tk,os⟩ a t c u;refine z6 (he prog w _ _ ?_);cases e with
     |true =>
      rw[if_pos (hiff.mp rfl)]at hR
      wp_walk
      exact⟨rfl,rfl,_,_,_,_,hrest,hvi',hwi',by omega,hR⟩
     |false =>
      rw[if_neg (fun q=>absurd (hiff.mpr q) Zj)]at hR;have hri:=wF A.in1 ⟨hp,g,d,tk,os⟩ a t c u prog w
      wp_walk using hri
      exact⟨_,rfl,by simpa using hR⟩
  case fin =>
   rintro⟨b1,b2⟩ s' ⟨hb',rfl,vs,ws,ns',ms',hz,hvi,hwi,hlen,hR⟩;simp only at hb';subst hb';have hv:lexLt ns' ms'=decide (items.size<items2.size):=by
    cases hvi with
    |nil =>
     cases hwi with
     |nil =>simp only[List.length_nil]at hlen;rw[lexLt_nil_nil];exact(decide_eq_false (by omega)).symm
     |cons c u hw =>simp only[List.length_nil,Zt]at hlen;rw[lexLt_nil_cons];exact(decide_eq_true (by omega)).symm
    |cons a t hv =>
     cases hwi with
     |nil =>simp only[List.length_nil,Zt]at hlen;rw[lq];exact(decide_eq_false (by omega)).symm
     |cons c u hw =>rw[List.zip_cons_cons]at hz;cases hz
   rw[hv]at hR
   wp_walk
   exact⟨_,rfl,by simpa[Builtin.Tuple.tupleCompareSizes]using hR⟩
  case h =>exact⟨rfl,rfl,items.toList,items2.toList,ns,ms,rfl,hi,hj,by omega,h⟩
end
section
variable{prog:Program}{w:World}{A:Around}{E:Value->Shared->Prop}{s:Shared}
theorem lt_tupInts{l b:Addr}{items items2:Array Value}{ns ms:List Int}{Q:Value->Shared->Prop}(hl:IsTup s.heap l items)(hb:IsTup s.heap b items2)(hi:IntsAre items.toList ns)(hj:IntsAre items2.toList ms)(hu:A.units<cLine)(h:Q (.bool (lexLt ns ms)) s):wpAny (model prog w) A (compareOp .Lt (.ref l) (.ref b)) Q E s:=by
 obtain⟨⟨cls,dd,data,sl⟩,ho,hc,n,hd⟩:=id hl;obtain⟨⟨cls2,dd2,data2,sl2⟩,ho2,hc2,n2,hd2⟩:=id hb;simp only at hc hd hc2 hd2;subst hc hd hc2 hd2;exact richCompare_meets_room (op:=.Lt) ⟨_,ho,rfl⟩ ⟨_,ho2,rfl⟩ PySem.F.slot_tuple_lt PySem.F.entry_tuple_lt (PySem.F.args_tuple_lt_2 _ _) (mT l b items items2 n n2 dd dd2 sl sl2 ns ms hi hj)
  ⟨ho,ho2,show Value.bool (lexLt ns ms)≠Value.notImplemented/\Q (.bool (lexLt ns ms)) s from⟨(fun x=>nomatch x),h⟩⟩ hu
theorem cat_tup{t b:Addr}{vs ws:List Value}{Q:Value->Shared->Prop}(ht:IsTup s.heap t vs.toArray)(hb:IsTup s.heap b ws.toArray)(hv:vs≠[])(h1:ws=[]->Q (.ref t) s)(h2:ws≠[]->Q (.ref s.heap.objs.size) { s with heap:=s.heap.push { cls:=.type "tuple",data:=.seq (vs++ws).toArray } })(hsz:vs.length+ws.length<=sizeLine):wpAny (model prog w) A (binaryOp .Add (.ref t) (.ref b)) Q E s:=by
 obtain⟨⟨cls,dd,data,sl⟩,ho,hc,n,hd⟩:=id ht;obtain⟨⟨cls2,dd2,data2,sl2⟩,ho2,hc2,n2,hd2⟩:=id hb;simp only at hc hd hc2 hd2;subst hc hd hc2 hd2;have e:vs.toArray++ws.toArray=(vs++ws).toArray:=by simp
 by_cases hw:ws=[]
 ·exact concat_meets ⟨_,ho,rfl⟩ ⟨_,ho2,rfl⟩ noFill_tuple_add seq_tuple_add PySem.F.slot_tuple_add PySem.F.entry_tuple_add (PySem.F.args_tuple_add_2 _ _)
   (tuple_addW1 t b vs.toArray ws.toArray n n2 dd dd2 sl sl2 (by simpa using hv) (by simp[hw])) ⟨ho,ho2,h1 hw⟩
 ·refine concat_meets ⟨_,ho,rfl⟩ ⟨_,ho2,rfl⟩ noFill_tuple_add seq_tuple_add PySem.F.slot_tuple_add PySem.F.entry_tuple_add (PySem.F.args_tuple_add_2 _ _)
   (tuple_addW2 t b vs.toArray ws.toArray n n2 dd dd2 sl sl2 (by simpa using hv) (by simpa using hw) (by rw[Zf,Zf];exact hsz)) ⟨ho,ho2,?_⟩
  rw[e];exact h2 hw
def sIx(n d:Nat):Option Int->Nat
 |none=>d
 |some v=>if v<0 then(v+(n:Int)).toNat else min v.toNat n
theorem sIx_none(n d:Nat):sIx n d none=d:=rfl
theorem sIx_nat(n d k:Nat):sIx n d (some (k:Int))=min k n:=by show(if(k:Int)<0 then((k:Int)+(n:Int)).toNat else min (k:Int).toNat n)=min k n;rw[if_neg (by omega),Int.toNat_natCast]
theorem BB(n d:Nat)(hd:d<=n)(o:Option Int):sIx n d o<=n:=by
 cases o with
 |none=>exact hd
 |some v =>
  show(if v<0 then(v+(n:Int)).toNat else min v.toNat n)<=n;by_cases hv:v<0
  ·rw[if_pos hv];omega
  ·rw[if_neg hv];exact Nat.min_le_right _ _
theorem pT(v:Int)(n d:Nat):(if v<0 then max (v+(n:Int)) 0 else min v (n:Int))=((sIx n d (some v):Nat):Int):=by
 show(if v<0 then max (v+(n:Int)) 0 else min v (n:Int))=(((if v<0 then(v+(n:Int)).toNat else min v.toNat n):Nat):Int);by_cases hv:v<0
 ·simp only[if_pos hv];omega
 ·simp only[if_neg hv];omega
theorem ri(lo hi:Option Int)(n:Nat):Builtin.Slice.sliceAdjust lo hi 1 (n:Int)=(((sIx n 0 lo:Nat):Int),((sIx n n hi:Nat):Int)):=by
 have h1:¬((1:Int)<0):=by omega
 unfold Builtin.Slice.sliceAdjust;simp only[h1,if_false];refine Prod.ext ?_ ?_
 ·cases lo with
  |none=>rfl
  |some v=>exact pT v n 0
 ·cases hi with
  |none=>rfl
  |some v=>exact pT v n n
theorem sf(i j:Nat):Builtin.Slice.slicePlaces (i:Int) (j:Int) 1=j-i:=by
 unfold Builtin.Slice.slicePlaces;have h1:(1:Int)>0:=by omega
 simp only[h1,if_true,Int.ediv_one];split<;>omega
theorem kH{v:Value}{o:Option Int}{Q:Option Int->Shared->Prop}(p:IsPart v o)(h:Q o s):wpAny (model prog w) A (Builtin.Slice.slicePartIndex v) Q E s:=by
 cases p with
 |none=>exact slicePart_none h
 |int i t=>exact slicePart_int h
theorem sliceApplied_gen{sl:Addr}{vl vu:Value}{lo hi:Option Int}{n:Nat}{Q:Int×Int×Nat->Shared->Prop}(hs:s.heap.IsSliceOf sl vl vu .none)(pl:IsPart vl lo)(pu:IsPart vu hi)(h:Q (((sIx n 0 lo:Nat):Int),1,sIx n n hi-sIx n 0 lo) s):wpAny (model prog w) A (Builtin.Slice.sliceApplied (.ref sl) (pure (n:Int))) Q E s:=by obtain⟨os,hos,hcs,hds⟩:=id hs;unfold Builtin.Slice.sliceApplied Builtin.Slice.sliceFields;refine z6 (z6 (ZW hos hds (x:=vl) rfl (z6 (ZW hos hds (x:=vu) rfl (z6 (ZW hos hds (x:=.none) rfl (z9 ?_)))))));refine z6 (slicePart_none ?_);show wpAny _ _ (if((1:Int)==0)=true then _ else _) _ _ s;rw[if_neg (by decide)];refine z6 (kH pl (z6 (kH pu (z6 (z9 ?_)))));show wpAny _ _ (match Builtin.Slice.sliceAdjust lo hi 1 (n:Int)with|(lo,hi)=>pure (lo,(1:Int),Builtin.Slice.slicePlaces lo hi 1)) _ _ s;rw[ri lo hi n];show wpAny _ _ (pure (((sIx n 0 lo:Nat):Int),(1:Int),Builtin.Slice.slicePlaces ((sIx n 0 lo:Nat):Int) ((sIx n n hi:Nat):Int) 1)) _ _ s;rw[sf];exact z9 h
theorem we(xs:Array Value)(i k:Nat):((List.range k).filterMap fun(m:Nat)=>xs[((i:Int)+(m:Int)*1).toNat]?).toArray=((xs.toList.drop i).take k).toArray:=by
 have e:(fun(m:Nat)=>xs[((i:Int)+(m:Int)*1).toNat]?)=fun m=>xs[i+m]?:=by
  funext m;have:((i:Int)+(m:Int)*1).toNat=i+m:=by omega
  rw[this]
 rw[e];have:=pick_run xs i k;rw[List.filterMap_map]at this;have e2:((fun x=>xs[x]?)∘fun x=>i+x)=fun m=>xs[i+m]?:=rfl;rw[e2]at this;rw[this]
theorem getItem_tuple_cut{t sl:Addr}{items:Array Value}{vl vu:Value}{lo hi:Option Int}{Q:Value->Shared->Prop}(ht:IsTup s.heap t items)(hs:s.heap.IsSliceOf sl vl vu .none)(pl:IsPart vl lo)(pu:IsPart vu hi)(hw:¬(sIx items.size 0 lo=0/\sIx items.size items.size hi=items.size))(h:Q (.ref s.heap.objs.size) { s with heap:=s.heap.push { cls:=.type "tuple",data:=.seq ((items.toList.drop (sIx items.size 0 lo)).take (sIx items.size items.size hi-sIx items.size 0 lo)).toArray } })(hsz:items.size<=sizeLine):wpAny (model prog w) A (getItem (.ref t) (.ref sl)) Q E s:=by
 have htake:sizeOk (.seq ((items.toList.drop (sIx items.size 0 lo)).take (sIx items.size items.size hi-sIx items.size 0 lo)).toArray):=by show((items.toList.drop (sIx items.size 0 lo)).take (sIx items.size items.size hi-sIx items.size 0 lo)).toArray.size<=sizeLine;rw[Zf,ZN,Yj,Zk];omega
 have hj:sIx items.size items.size hi<=items.size:=BB _ _ (Ze _) hi;obtain⟨os,hos,hcs,hds⟩:=id hs;have hTs:s.TypeIs (.ref sl) "slice":=⟨os,hos,hcs⟩
 unfold getItem
 try with_reducible refine Z0 ?_
 first|refine z6 (z9 ?_)|skip
 refine z6 (wpAny_sequenceKey ht.typeIs (by decide) ?_);refine z6 (ZY (name:=Str.ofString "__getitem__") ht.typeIs y3
  (Z1 y3 ht.typeIs entry_tuple_getitem ?_ (args_tuple_getitem _ _)))
 show wpAny _ _ (Builtin.Tuple.tupleItemsOf (.ref t) >>= _) _ _ s;refine z6 (tupleItemsOf_ ht ?_);refine z6 (wpAny_typeOf hTs ?_);rw[if_pos (by decide)];refine z6 (sliceApplied_gen hs pl pu ?_);have hno:¬((((sIx items.size 0 lo:Nat):Int)==0&&(1:Int)==1&&(sIx items.size items.size hi-sIx items.size 0 lo)==items.size)=true):=by intro q;rw[ZB,ZB]at q;have q1:((sIx items.size 0 lo:Nat):Int)=0:=eq_of_beq q.1.1;have q2:sIx items.size items.size hi-sIx items.size 0 lo=items.size:=eq_of_beq q.2;exact hw ⟨by omega,by omega⟩
 show wpAny _ _ (if(((sIx items.size 0 lo:Nat):Int)==0&&(1:Int)==1&&(sIx items.size items.size hi-sIx items.size 0 lo)==items.size)=true then _ else _) _ _ s;rw[if_neg hno,we]
 first
  |exact z6 (m:=Builtin.Tuple.tupleExact _) (Z9 (z9 ⟨_,rfl,z9 h⟩) htake)
  |exact z6 (m:=Builtin.Tuple.tupleExact _) (Z9 (z6 (z9 (z9 ⟨_,rfl,z9 h⟩))) htake)
  |exact z6 (z6 (m:=Builtin.Tuple.tupleExact _) (Z9 (z9 (z9 ⟨_,rfl,z9 h⟩)) htake))
  |exact z6 (z6 (m:=Builtin.Tuple.tupleExact _) (Z9 (z9 ⟨_,rfl,z9 h⟩) htake))
end
end HT
namespace L2
open PySem PySem.Spec PyProof.Rows
abbrev TO:=St->Hp->(Option Int->Hp->Prop)->Prop
def PO(X:Cx)(e:Option Expr)(t:TO):Prop :=
 ∀(pins:List (Addr×Obj)) (s:Shared) (σ:St) (H:Hp) (Q:Option Int->Hp->Prop),Inv X pins σ H s->t σ H Q ->
  wpAny (model X.prog X.w) X.A (evalPart e X.env) (fun u s'=>∃o H',Inv X pins σ H' s'/\IsPart u o/\Q o H') X.xe s
def qU:TO:=fun _ H Q=>Q none H
def xN(t:TE):TO:=fun σ H Q=>t σ H fun x H1=>∃i,x=.int i/\Q (some i) H1
theorem aJ{ns:List Int}:∀{us:List Value},Vals (ns.map V.int) us->IntsAre us ns:=by
 induction ns with
 |nil=>intro us r;rw[List.map_nil]at r;cases r;exact .nil
 |cons n ns ih =>
  intro us r;rw[Zz]at r;cases r with
  |cons r1 r2 =>obtain⟨t,e⟩:=r1;subst e;exact .cons n t (ih r2)
section
variable{X:Cx}{e:Expr}{te:TE}{lo hi:Option Expr}{tl th:TO}{pos p2:Pos}
theorem yW:PO X none qU:=by intro pins s σ H Q I h;rw[evalPart_none];exact z9 ⟨none,H,I,.none,h⟩
theorem yX(h:PE X e te):PO X (some e) (xN te):=by intro pins s σ H Q I hw;rw[evalPart_some];refine thn (h pins s σ H _ I hw) fun u s1 hz9=>?_;obtain⟨x,H1,I1,r1,q1⟩:=hz9;obtain⟨i,rfl,q⟩:=q1;obtain⟨t,rfl⟩:=r1;exact⟨some i,H1,I1,.int i t,q⟩
def SlR(X:Cx)(r:V->Option Int->Option Int->Hp->VK->Prop):Prop :=
 ∀(pins:List (Addr×Obj)) (s:Shared) (σ:St) (H:Hp) (x:V) (v vl vu:Value) (lo hi:Option Int) (sl:Addr) (Q:VK),Inv X pins σ H s->RelV x v->s.heap.IsSliceOf sl vl vu .none->IsPart vl lo->IsPart vu hi->r x lo hi H Q ->
  ∃T id,typeLookup (.type T) "__getitem__" = pure (some (.builtin id))/\s.TypeIs v T/\wpAny (model X.prog X.w) X.A (getItem v (.ref sl)) (EP X pins σ Q) X.xe s
def tSl(r:V->Option Int->Option Int->Hp->VK->Prop)(te:TE)(tl th:TO):TE:=fun σ H Q=>te σ H fun x H1=>tl σ H1 fun l H2=>th σ H2 fun u H3=>r x l u H3 Q
theorem wb{r:V->Option Int->Option Int->Hp->VK->Prop}(hr:SlR X r)(he:PE X e te)(hl:PO X lo tl)(hu:PO X hi th):PE X (.Subscript e (.Slice lo hi none p2) pos) (tSl r te tl th):=by intro pins s σ H Q I h;refine Subscript_ (thn (he pins s σ H _ I h) fun v s1 hz9=>?_);obtain⟨x,H1,I1,r1,q1⟩:=hz9;refine wpAny_Slice (thn (hl pins s1 σ H1 _ I1 q1) fun vl s2 ⟨l,H2,I2,pl,q2⟩=>thn (hu pins s2 σ H2 _ I2 q2) fun vu s3 hz9=>?_);obtain⟨u,H3,I3,pu,q3⟩:=hz9;rw[evalPart_none];refine z9 ?_;have I4:Inv X pins σ H3 { s3 with heap:=s3.heap.push { cls:=.type "slice",data:=.fields #[vl,vu,.none] } }:=I3.kept (t':=s3.toks) fun b ob q=>Za _ q;obtain⟨T,id,hT,ht,hg⟩:=hr pins { s3 with heap:=s3.heap.push { cls:=.type "slice",data:=.fields #[vl,vu,.none] } } σ H3 x v vl vu l u s3.heap.objs.size Q I4 r1 (Heap.IsSliceOf.new ..) pl pu q3;show wpAny (model X.prog X.w) X.A (subscriptTail e (.Slice lo hi none p2) v (.ref s3.heap.objs.size)) (EP X pins σ Q) X.xe { s3 with heap:=s3.heap.push { cls:=.type "slice",data:=.fields #[vl,vu,.none] } };exact tail_any (ops:=[.ref s3.heap.objs.size,v]) ht hT hg (by with_unfolding_all rfl)
def bM(xs:List V)(lo hi:Option Int):List V:=(xs.drop (HT.sIx xs.length 0 lo)).take (HT.sIx xs.length xs.length hi-HT.sIx xs.length 0 lo)
theorem jd(xs:List V)(lo hi:Option Int):(bM xs lo hi).length<=xs.length:=by unfold bM;rw[ZN,Yj];omega
def C1(K:PySem.W.Frag):V->Option Int->Option Int->Hp->VK->Prop:=fun x lo hi H Q=>∃a xs,x=.ref a/\SqT K H a xs /\
 ¬(HT.sIx xs.length 0 lo=0/\HT.sIx xs.length xs.length hi=xs.length)/\∀p,H p=none->Q (.ref p) (upd H p (.tup (bM xs lo hi)))
theorem BF:SlR X (C1 X.K):=by
 intro pins s σ H x v vl vu lo hi sl Q I rx hs pl pu h;obtain⟨a,xs,rfl,hx,hw,q⟩:=h;cases rx;obtain⟨its,r,ht,hz⟩:=I.tuple hx;have hlen:its.toArray.size=xs.length:=by rw[Zf];exact r.length.symm
 refine⟨"tuple",_,y3.lookup,ht.typeIs,?_⟩;refine HT.getItem_tuple_cut ht hs pl pu (by rw[hlen];exact hw) ?_ (by rw[hlen];exact hz);rw[hlen];refine⟨.ref s.heap.objs.size,_,I.laid (t':=s.toks) (o:=.tup (bM xs lo hi)) (fun b ob q=>Za _ q) (Ze _) ?_,rfl,q _ (I.hok.fresh (Ze _))⟩;exact⟨Zx (jd xs lo hi) hz,_,(r.drop (HT.sIx xs.length 0 lo)).take (HT.sIx xs.length xs.length hi-HT.sIx xs.length 0 lo),IsTup.new _ _⟩
def Ct(K:PySem.W.Frag):R2:=fun x y H Q=>∃a b xs ys,x=.ref a/\y=.ref b/\SqT K H a xs/\SqT K H b ys/\xs≠[]/\xs.length+ys.length<=sizeLine /\
 (ys=[]->Q (.ref a) H)/\(ys≠[]->∀p,H p=none->Q (.ref p) (upd H p (.tup (xs++ys))))
theorem Vals.nil_iff{xs:List V}{us:List Value}(r:Vals xs us):us=[]↔xs=[]:=by
 cases r with
 |nil=>simp
 |cons _ _=>simp
theorem yE:OpR X (binaryOp .Add) (Ct X.K):=by intro pins s σ H x y v u Q I rx ry h;obtain⟨a,b,xs,ys,rfl,rfl,ha,hb,hx,hz,q1,q2⟩:=h;cases rx;cases ry;obtain⟨its,r1,p1,_⟩:=I.tuple ha;obtain⟨its2,r2,p2,_⟩:=I.tuple hb;refine HT.cat_tup p1 p2 (fun z=>hx (r1.nil_iff.mp z)) (fun z=>⟨.ref a,H,I,rfl,q1 (r2.nil_iff.mp z)⟩) (fun z=>?_) (by rw[<-r1.length,<-r2.length];exact hz);refine⟨.ref s.heap.objs.size,_,I.laid (t':=s.toks) (o:=.tup (xs++ys)) (fun b ob q=>Za _ q) (Ze _) ?_,rfl,q2 (fun w=>z (r2.nil_iff.mpr w)) _ (I.hok.fresh (Ze _))⟩;exact⟨by rw[Zn];exact hz,_,r1.append r2,IsTup.new _ _⟩
end
open PySem PySem.Spec PyProof.Rows
def ixN(n:Nat)(i:Int):Option Nat:=if 0<=i then(if i<n then some i.toNat else none)else if -(n:Int)<=i then some (i+n).toNat else none
def atI{α:Type}(xs:List α)(i:Int):Option α:=(ixN xs.length i).bind fun j=>xs[j]?
theorem yp{n:Nat}{i:Int}{j:Nat}(h:ixN n i=some j):seqIndex? i n=some j/\j<n/\-(n:Int)<=i/\i<n:=by
 unfold ixN at h;by_cases h0:0<=i
 ·rw[if_pos h0]at h;by_cases h1:i<n
  ·rw[if_pos h1]at h;have e:i.toNat=j:=Zs h;exact⟨by rw[seqIndex_of h0 h1,e],by omega,by omega,h1⟩
  ·rw[if_neg h1]at h;cases h
 ·rw[if_neg h0]at h;by_cases h1:-(n:Int)<=i
  ·rw[if_pos h1]at h;have e:(i+n).toNat=j:=Zs h;exact⟨by rw[seqIndex_neg (by omega) h1,e],by omega,h1,by omega⟩
  ·rw[if_neg h1]at h;cases h
theorem pR{α:Type}{xs:List α}{i:Int}{v:α}(h:atI xs i=some v):∃j,seqIndex? i xs.length=some j/\xs[j]?=some v/\j<xs.length/\-(xs.length:Int)<=i/\i<xs.length:=by
 unfold atI at h;cases e:ixN xs.length i with
 |none=>rw[e]at h;cases h
 |some j =>rw[e]at h;obtain⟨h1,h2,h3,h4⟩:=yp e;exact⟨j,h1,h,h2,h3,h4⟩
theorem bY{α:Type}{xs:List α}{j:Nat}{v:α}(h:xs[j]?=some v):atI xs (j:Int)=some v:=by
 have hj:j<xs.length:=(ZC.mp h).1;have e:ixN xs.length (j:Int)=some j:=by unfold ixN;rw[if_pos (by omega),if_pos (by omega)];simp
 unfold atI;rw[e];exact h
theorem vm{α:Type}(xs:List α)(v:α):atI (xs++[v]) (-1)=some v:=by
 have hl:(xs++[v]).length=xs.length+1:=by simp
 have e:ixN (xs++[v]).length (-1)=some xs.length:=by unfold ixN;rw[hl,if_neg (by decide),if_pos (by omega)];congr 1;omega
 unfold atI;rw[e];show(xs++[v])[xs.length]?=some v;simp
def pO(b:Expr):Prop:=∀o i,subscripted b false o i=operate [o,i] (getItem o i)
def IxR(X:Cx)(r:R2):Prop :=
 ∀(value slice:Expr) (pins:List (Addr×Obj)) (s:Shared) (σ:St) (H:Hp) (x y:V) (v u:Value) (Q:VK),Inv X pins σ H s->RelV x v->RelV y u->r x y H Q ->
  subscripted slice false v u=operate [v,u] (getItem v u)->wpAny (model X.prog X.w) X.A (subscriptTail value slice v u) (EP X pins σ Q) X.xe s
def MtR(X:Cx)(id:String)(r:V->List V->Hp->VK->Prop):Prop :=
 ∀(pins:List (Addr×Obj)) (s:Shared) (σ:St) (H:Hp) (x:V) (xs:List V) (v:Value) (us:List Value) (Q:VK),Inv X pins σ H s->RelV x v->Vals xs us->r x xs H Q ->
  wpAny (model X.prog X.w) X.A (call (.builtin id) (v::us)) (EP X pins σ Q) X.xe s
section
variable{X:Cx}{a b:Expr}{ta tb:TE}{pos:Pos}
theorem Co{r:R2}(hr:IxR X r)(ha:PE X a ta)(hb:PE X b tb)(hs:pO b):PE X (.Subscript a b pos) (tOp r ta tb):=by intro pins s σ H Q I h;exact Subscript_ (vn ha hb I h fun v u s2 x y H2 I2 rx ry q=>hr a b pins s2 σ H2 x y v u Q I2 rx ry q (hs _ _))
def Bt(K:PySem.W.Frag):R2:=fun x y H Q=>∃p xs i v,x=.ref p/\y=.int i/\SqL K H p xs/\atI xs i=some v/\Q v H
def sj(K:PySem.W.Frag):R2:=fun x y H Q=>∃p xs i v,x=.ref p/\y=.int i/\SqT K H p xs/\atI xs i=some v/\Q v H
theorem yq:IxR X (Bt X.K):=by
 intro value slice pins s σ H x y v u Q I rx ry h hs;obtain⟨p,xs,i,z,rfl,rfl,hq,he,q⟩:=h;cases rx;obtain⟨t,rfl⟩:=ry;obtain⟨its,r,pl,hz⟩:=I.list hq;obtain⟨j,h1,h2,h3,h4,h5⟩:=pR he;obtain⟨w,ew,rw'⟩:=r.get h2;have hl:=r.length;have hn:=oF;have fin:EP X pins σ Q w s:=⟨z,H,I,rw',q⟩
 by_cases h0:0<=i
 ·have hj:i.toNat=j:=by rw[seqIndex_of h0 h5]at h1;exact Zs h1
  exact item_listR pl.isList h0 (by omega) (by rw[hj];simpa using ew) fin hs
 ·have hj:(i+(its.toArray.size:Int)).toNat=j:=by rw[seqIndex_neg (by omega) h4]at h1;rw[Zf,<-hl];exact Zs h1
  exact subscriptTail_builtinR (x:=w) pl.isList.typeIs slot_list_getitem.lookup
   (wpAny_getItem_list_neg (Q:=fun r s'=>r=w/\EP X pins σ Q r s') pl.isList (by omega) (by rw[Zf]<;>omega) (by omega) (by rw[hj];simpa using ew) ⟨rfl,fin⟩) hs
theorem Aq:IxR X (sj X.K):=by
 intro value slice pins s σ H x y v u Q I rx ry h hs;obtain⟨p,xs,i,z,rfl,rfl,hq,he,q⟩:=h;cases rx;obtain⟨t,rfl⟩:=ry;obtain⟨its,r,pl,hz⟩:=I.tuple hq;obtain⟨j,h1,h2,h3,h4,h5⟩:=pR he;obtain⟨w,ew,rw'⟩:=r.get h2;have hl:=r.length;have hn:=oF;have fin:EP X pins σ Q w s:=⟨z,H,I,rw',q⟩
 exact subscriptTail_builtinR (x:=w) pl.typeIs slot_tuple_getitem.lookup
  (getItem_tuple (j:=j) (Q:=fun r s'=>r=w/\EP X pins σ Q r s') pl (by omega) (by omega) (by rw[Zf,<-hl];exact h1) (by simpa using ew) ⟨rfl,fin⟩) hs
theorem ph(lo hi:Option Int)(n:Nat):(sliceBounds lo hi none n).1=((HT.sIx n 0 lo:Nat):Int)/\(sliceBounds lo hi none n).2.1=((HT.sIx n n hi:Nat):Int)/\(sliceBounds lo hi none n).2.2=1:=by
 refine⟨?_,?_,rfl⟩
 ·cases lo with
  |none=>simp[sliceBounds,HT.sIx]
  |some i =>
   simp only[sliceBounds,HT.sIx,Option.getD_none,show(1:Int)>0 by decide,if_true];by_cases h:i<0
   ·simp only[h,if_true]<;>omega
   ·simp only[h,if_false]<;>omega
 ·cases hi with
  |none=>simp[sliceBounds,HT.sIx]
  |some i =>
   simp only[sliceBounds,HT.sIx,Option.getD_none,show(1:Int)>0 by decide,if_true];by_cases h:i<0
   ·simp only[h,if_true]<;>omega
   ·simp only[h,if_false]<;>omega
theorem mS(its:List Value)(lo hi:Option Int):slicePick its.toArray lo hi none=((its.drop (HT.sIx its.length 0 lo)).take (HT.sIx its.length its.length hi-HT.sIx its.length 0 lo)).toArray:=by obtain⟨h1,h2,h3⟩:=ph lo hi its.toArray.size;unfold slicePick;rw[h1,h2,h3];simp only[sliceRange_one,pick_run,Zf]<;>rfl
def By(K:PySem.W.Frag):V->Option Int->Option Int->Hp->VK->Prop:=fun x lo hi H Q=>∃a xs,x=.ref a/\SqL K H a xs/\∀p,H p=none->Q (.ref p) (upd H p (.lst (bM xs lo hi)))
theorem zp:SlR X (By X.K):=by intro pins s σ H x v vl vu lo hi sl Q I rx hs pl pu h;obtain⟨a,xs,rfl,hx,q⟩:=h;cases rx;obtain⟨its,r,ht,hz⟩:=I.list hx;have hlen:=r.length;refine⟨"list",_,slot_list_getitem.lookup,ht.isList.typeIs,?_⟩;refine wpAny_getItem_list_slice ht.isList hs pl pu .none (by simp) ?_ (by rw[Zf]<;>omega);rw[mS,<-hlen];refine⟨.ref s.heap.objs.size,_,I.laid (t':=s.toks) (o:=.lst (bM xs lo hi)) (fun b ob q=>Za _ q) (Ze _) ?_,rfl,q _ (I.hok.fresh (Ze _))⟩;exact⟨Zx (jd xs lo hi) hz,_,0,(r.drop (HT.sIx xs.length 0 lo)).take (HT.sIx xs.length xs.length hi-HT.sIx xs.length 0 lo),Zo _ rfl⟩
def fq:V->Bool
 |.non=>true
 |.bl _=>true
 |.int _=>true
 |.str _=>true
 |_=>false
def eqV:V->V->Bool
 |.non,.non=>true
 |.bl a,.bl b=>a==b
 |.bl a,.int b=>(if a then 1 else 0)==b
 |.int a,.bl b=>a==(if b then 1 else 0)
 |.int a,.int b=>a==b
 |.str a,.str b=>a==b
 |_,_=>false
theorem Af{A:Around}{s:Shared}{y x:V}{u v:Value}(ry:RelV y u)(rx:RelV x v)(fy:fq y=true)(fx:fq x=true):SeqAt.EqAt A s u v (eqV y x):=by
 cases y with
 |non =>
  cases ry;cases x with
  |non=>cases rx;exact SeqAt.EqAt.same _
  |bl b=>cases rx;exact SeqAt.EqAt.none_bool b
  |int b=>obtain⟨t,rfl⟩:=rx;exact SeqAt.EqAt.none_int b t
  |str b=>obtain⟨t,rfl⟩:=rx;exact SeqAt.EqAt.none_str b t
  |_=>exact absurd (show false=true from fx) Zj
 |bl a =>
  cases ry;cases x with
  |non=>cases rx;exact SeqAt.EqAt.bool_none a
  |bl b=>cases rx;exact SeqAt.EqAt.bool_bool a b
  |int b=>obtain⟨t,rfl⟩:=rx;exact SeqAt.EqAt.bool_int a b t
  |str b=>obtain⟨t,rfl⟩:=rx;exact SeqAt.EqAt.bool_str a b t
  |_=>exact absurd (show false=true from fx) Zj
 |int a =>
  obtain⟨t',rfl⟩:=ry;cases x with
  |non=>cases rx;exact SeqAt.EqAt.int_none a t'
  |bl b=>cases rx;exact SeqAt.EqAt.int_bool a t' b
  |int b=>obtain⟨t,rfl⟩:=rx;exact SeqAt.EqAt.int_int a t' b t
  |str b=>obtain⟨t,rfl⟩:=rx;exact SeqAt.EqAt.int_str a t' b t
  |_=>exact absurd (show false=true from fx) Zj
 |str a =>
  obtain⟨t',rfl⟩:=ry;cases x with
  |non=>cases rx;exact SeqAt.EqAt.str_none a t'
  |bl b=>cases rx;exact SeqAt.EqAt.str_bool a t' b
  |int b=>obtain⟨t,rfl⟩:=rx;exact SeqAt.EqAt.str_int a t' b t
  |str b=>obtain⟨t,rfl⟩:=rx;exact SeqAt.EqAt.str_str a t' b t
  |_=>exact absurd (show false=true from fx) Zj
 |_=>exact absurd (show false=true from fy) Zj
def eqU(x:V)(u:Value):Bool:=match u with
 |.none=>eqV .non x
 |.bool b=>eqV (.bl b) x
 |.int i _=>eqV (.int i) x
 |.str z _=>eqV (.str z) x
 |_=>false
theorem sO{x y:V}{u:Value}(r:RelV y u)(f:fq y=true):eqU x u=eqV y x:=by
 cases y with
 |non=>cases r;rfl
 |bl b=>cases r;rfl
 |int i=>obtain⟨t,rfl⟩:=r;rfl
 |str z=>obtain⟨t,rfl⟩:=r;rfl
 |_=>exact absurd (show false=true from f) Zj
theorem kT{x:V}:∀{xs:List V} {us:List Value},Vals xs us->xs.all fq=true->us.any (eqU x)=xs.any fun y=>eqV y x
 |_,_,.nil,_=>rfl
 |y::xs,u::us,.cons r t,f=>by rw[YO,ZB]at f;rw[List.any_cons,List.any_cons,sO r f.1,kT t f.2]
theorem jA{A:Around}{s:Shared}{x:V}{v:Value}(rx:RelV x v)(fx:fq x=true):∀{xs:List V} {us:List Value},Vals xs us->xs.all fq=true->∀u∈us,SeqAt.EqAt A s u v (eqU x u)
 |_,_,.nil,_=>fun u hu=>by cases hu
 |y::xs,u::us,.cons r t,f=>fun u' hu=>by
  rw[YO,ZB]at f;rcases Zq.mp hu with rfl|hu
  ·rw[sO r f.1];exact Af r rx f.1 fx
  ·exact jA rx fx t f.2 u' hu
def inV(x:V)(xs:List V):Bool:=xs.any fun y=>eqV y x
def rIn(K:PySem.W.Frag)(neg:Bool):R2:=fun x y H Q=>∃p xs,y=.ref p/\(SqL K H p xs\/SqT K H p xs)/\fq x=true/\xs.all fq=true/\Q (.bl (if neg then !inV x xs else inV x xs)) H
theorem uf:OpR X (compareOp .In) (rIn X.K false):=by
 intro pins s σ H x y v u Q I rx ry h;obtain⟨p,xs,rfl,hq,fx,fs,q⟩:=h;cases ry;rcases hq with hq|hq
 ·obtain⟨its,r,pl,hz⟩:=I.list hq;refine SeqAt.in_listAt (eqU x) pl.isList (fun w hw=>jA rx fx r fs w (by simpa using hw)) ⟨.bl _,H,I,rfl,?_⟩;rw[show its.toArray.any (eqU x)=its.any (eqU x) by simp,kT r fs];exact q
 ·obtain⟨its,r,pl,hz⟩:=I.tuple hq;refine SeqAt.in_tupleAt (eqU x) pl (fun w hw=>jA rx fx r fs w (by simpa using hw)) ⟨.bl _,H,I,rfl,?_⟩;rw[show its.toArray.any (eqU x)=its.any (eqU x) by simp,kT r fs];exact q
theorem nO:dW X (.builtin "len") (fun xs H Q=>∃p ys,xs=[.ref p]/\(SqL X.K H p ys\/SqT X.K H p ys)/\Q (.int ys.length) H):=by
 intro pins s σ H xs us Q I r h;obtain⟨p,ys,rfl,hq,q⟩:=h;obtain⟨u,rfl,rx⟩:=ee r;cases rx;have hn:=oF;rcases hq with hq|hq
 ·obtain⟨its,r',pl,hz⟩:=I.list hq;have hlen:=r'.length;exact Calls.call_len_list pl.isList (by simp only[Zf]<;>omega) ⟨.int ys.length,H,I.tok _,⟨s.toks+1,by rw[Zf,hlen]⟩,q⟩
 ·obtain⟨its,r',pl,hz⟩:=I.tuple hq;have hlen:=r'.length;exact len_tuple pl (by simp only[Zf]<;>omega) ⟨.int ys.length,H,I.tok _,⟨s.toks+1,by rw[Zf,hlen]⟩,q⟩
def tyV(K:PySem.W.Frag)(T:String)(x:V)(H:Hp):Prop:=match x with
 |.str _=>T="str"
 |.int _=>T="int"
 |.ref p=>(T="list"/\∃xs,SqL K H p xs)\/(T="tuple"/\∃o,K.lookup p=some o/\o.cls=.type "tuple"/\o.dict=none) \/
   (T="dict"/\((∃kvs,H p=some (.dK kvs))\/∃kvs,H p=some (.dT kvs)))\/(T="set"/\∃S n,H p=some (.set S n))
 |_=>False
theorem uQ{pins:List (Addr×Obj)}{σ:St}{H:Hp}{s:Shared}{T:String}{x:V}{v:Value}(I:Inv X pins σ H s)(r:RelV x v)(ty:tyV X.K T x H) :
  s.TypeIs v T/\∀a,v=.ref a->∃ob,s.heap.get? a=some ob/\ob.dict=none:=by
 cases x with
 |str z =>obtain⟨t,rfl⟩:=r;cases(show T="str" from ty);exact⟨typeIs_str s z t,fun _ e=>nomatch e⟩
 |int i =>obtain⟨t,rfl⟩:=r;cases(show T="int" from ty);exact⟨typeIs_int s i t,fun _ e=>nomatch e⟩
 |ref p =>
  cases r;rcases ty with⟨rfl,xs,hq⟩|⟨rfl,o,hk,hc,hd⟩|⟨rfl,hk⟩|⟨rfl,S,n,hk⟩
  ·obtain⟨its,_,pl,_⟩:=I.list hq;refine⟨pl.isList.typeIs,fun a e=>?_⟩;cases e;obtain⟨o,n,e,c,hd,_⟩:=pl;exact⟨o,e,hd⟩
  ·refine⟨⟨o,I.kIn p o hk,hc⟩,fun a e=>?_⟩;cases e;exact⟨o,I.kIn _ o hk,hd⟩
  ·have z:∃o,s.heap.get? p=some o/\o.ExactDict:=by
    rcases hk with⟨kvs,hk⟩|⟨kvs,hk⟩
    ·obtain⟨_,_,_,_,o,_,_,e,ex,_⟩:=I.hok p _ hk;exact⟨o,e,ex⟩
    ·obtain⟨_,_,_,_,o,_,_,e,ex,_⟩:=I.hok p _ hk;exact⟨o,e,ex⟩
   obtain⟨o,e,ex⟩:=z;refine⟨⟨o,e,ex.1⟩,fun a e2=>?_⟩;cases e2;exact⟨o,e,ex.2.1⟩
  ·obtain⟨o,_,_,_,e,ex,_⟩:=I.hok p _ hk;refine⟨⟨o,e,ex.1⟩,fun a e2=>?_⟩;cases e2;exact⟨o,e,ex.2.1⟩
 |_=>exact False.elim ty
def BK(K:PySem.W.Frag)(T:String)(r:V->List V->Hp->VK->Prop)(to:TE):TE:=fun σ H Q=>to σ H fun x H1=>tyV K T x H1/\r x [] H1 Q
def tBM(K:PySem.W.Frag)(T:String)(r:V->List V->Hp->VK->Prop)(to:TE)(t:TA):TE:=fun σ H Q=>to σ H fun x H1=>tyV K T x H1/\t σ H1 fun xs H2=>r x xs H2 Q
variable{o e:Expr}{es:List Expr}{to:TE}{t:TA}{name:Str}{apos cpos:Pos}{T id:String}{r:V->List V->Hp->VK->Prop}
theorem AX(pa:PlainAttrs T)(slot:Slot T name id)(hty:typeOf (.builtin id)=pure (.type "method_descriptor"))(hm:MtR X id r)(ho:PE X o to)(hbase:attributeBase o name X.env (eval o X.env)=eval o X.env:=by rfl)(hline:(apos.endLine==cpos.line)=true:=by rfl):PE X (.Call (.Attribute o name apos) [] [] cpos) (BK X.K T r to):=by intro pins s σ H Q I h;refine wpAny_Call_method0_late hbase hline (thn (ho pins s σ H _ I h) fun v s1 hz9=>?_);obtain⟨x,H1,I1,r1,ty,q1⟩:=hz9;obtain⟨h1,h2⟩:=uQ I1 r1 ty;exact⟨T,id,pa,slot,hty,h1,h2,Calls.callWith_builtin rfl (PySem.evalArgs_none (hm pins s1 σ H1 x [] v [] Q I1 r1 .nil q1))⟩
theorem xx(pa:PlainAttrs T)(slot:Slot T name id)(hty:typeOf (.builtin id)=pure (.type "method_descriptor"))(hm:MtR X id r)(ho:PE X o to)(ha:PA X (e::es) t)(hbase:attributeBase o name X.env (eval o X.env)=eval o X.env:=by rfl)(hfew:((backTo cpos (starEach (e::es) X.env)).all (fun x=>!x.1)&&(backToKw cpos (keywordEach [] X.env)).all (fun x=>x.1.isSome)
  &&decide ((e::es).length+([]:List Keyword).length+(if ([]:List Keyword).isEmpty then 0 else 1)<30))=true:=by rfl)(hline:(apos.endLine == cpos.line)=true:=by rfl)(hs:starEach (e::es) X.env=(false,eval e X.env)::starEach es X.env:=by rfl)(hplain:(backTo cpos (starEach es X.env)).any (·.1)=false:=by rfl) :
  PE X (.Call (.Attribute o name apos) (e::es) [] cpos) (tBM X.K T r to t):=by
 intro pins s σ H Q I h;refine wpAny_Call_method_late hbase hfew hline rfl (thn (ho pins s σ H _ I h) fun v s1 hz9=>?_);obtain⟨x,H1,I1,r1,ty,q1⟩:=hz9;obtain⟨h1,h2⟩:=uQ I1 r1 ty;refine⟨T,id,pa,slot,hty,h1,h2,?_⟩;have hA:=ha cpos pins s1 σ H1 _ I1 q1;rw[hs]at hA ⊢;refine Calls.callWith_builtin (by show(false ||(backTo cpos (starEach es X.env)).any (·.1))=false;rw[hplain]<;>rfl) (Calls.evalArgs_plain ?_);exact thn hA fun us s2 ⟨vs,H2,I2,r2,q2⟩=>hm pins s2 σ H2 x vs v us Q I2 r1 r2 q2
end
open PySem PySem.Spec PyProof.Rows
def MtM(X:Cx)(id:String)(r:V->List V->Hp->VK->Prop):Prop :=
 ∀(pins:List (Addr×Obj)) (s:Shared) (σ:St) (H:Hp) (x:V) (xs:List V) (v:Value) (us:List Value) (Q:VK),Inv X pins σ H s->RelV x v->Vals xs us->r x xs H Q ->
  wpAny (model X.prog X.w) X.A (call (.builtin id) (v::us)) (EP X pins σ Q) X.xe s
theorem Vals.one:∀{x:V} {us:List Value},Vals [x] us->∃u,us=[u]/\RelV x u
 |_,_,.cons r .nil=>⟨_,rfl,r⟩
theorem Vals.zero:∀{us:List Value},Vals [] us->us=[]
 |_,.nil=>rfl
theorem Vals.dropLast{xs:List V}{us:List Value}(h:Vals xs us):Vals xs.dropLast us.dropLast:=by
 induction h with
 |nil=>exact .nil
 |cons r t ih =>
  cases t with
  |nil=>exact .nil
  |cons q t'=>exact .cons r ih
theorem rA{α:Type}(l:List α):l.eraseIdx (l.length-1)=l.dropLast:=by
 induction l with
 |nil=>rfl
 |cons a r ih =>
  cases r with
  |nil=>rfl
  |cons b r =>
   have e:(a::b::r).length-1=((b::r).length-1)+1:=by have h1:(a::b::r).length=r.length+2:=rfl;have h2:(b::r).length=r.length+1:=rfl;omega
   rw[e,List.eraseIdx_cons_succ,ih]
   all_goals rfl
section
variable{X:Cx}{pins:List (Addr×Obj)}{σ:St}{H:Hp}{s:Shared}{l b:Addr}{xs ys zs:List V}
theorem Inv.lset{its its':List Value}{n:Nat}{f:Array Value->Array Value}{t':Nat}(I:Inv X pins σ H s)(hH:H l=some (.lst xs))(e:s.heap.get? l=some { cls:=.type "list",data:=.seq its.toArray n })(hf:f its.toArray=its'.toArray)(hv:Vals ys its')(hz:ys.length<=sizeLine) :
  Inv X pins σ (upd H l (.lst ys)) { s with heap:=s.heap.update l (Obj.mapSeq f),toks:=t' }:=by
 have q:=PySem.IsL.update e f;rw[hf]at q;refine I.write (x:=l) (e:=l) (by rw[hH];exact trivial) (.inl rfl) (fun b' u hb hu=>(Yl s.heap (Obj.mapSeq f) (ZM hb)).trans hu) ⟨_,q⟩ ?_;exact⟨hz,its',_,hv,q⟩
theorem Inv.lnew{its:List Value}{t':Nat}(I:Inv X pins σ H s)(hv:Vals ys its)(hz:ys.length<=sizeLine) :
  Inv X pins σ (upd H s.heap.objs.size (.lst ys)) { s with heap:=s.heap.push { cls:=.type "list",data:=.seq its.toArray },toks:=t' } :=
 I.laid (fun _ _ q=>Za _ q) (Ze _) ⟨hz,its,0,hv,Zo _ rfl⟩
theorem Inv.fresh(I:Inv X pins σ H s):H s.heap.objs.size=none:=I.hok.fresh (Ze _)
theorem Inv.lstM(I:Inv X pins σ H s)(hH:H l=some (.lst xs)):xs.length<=sizeLine/\∃(its:List Value) (n:Nat),Vals xs its/\xs.length=its.length/\s.heap.get? l=some { cls:=.type "list",data:=.seq its.toArray n }:=by obtain⟨z,its,n,r,e⟩:=I.hok l _ hH;exact⟨z,its,n,r,r.length,e⟩
theorem vQ{n:Nat}(h:n<=sizeLine):Builtin.List.listTooLong n=false:=by unfold Builtin.List.listTooLong;exact decide_eq_false (by omega)
end
section
variable{X:Cx}
def qz:V->List V->Hp->VK->Prop:=fun x vs H Q=>∃l xs y,x=.ref l/\vs=[y]/\H l=some (.lst xs)/\xs.length<sizeLine/\Q .non (upd H l (.lst (xs++[y])))
theorem tN:MtM X "list.append" qz:=by intro pins s σ H x vs v us Q I rx rv h;obtain⟨l,xs,y,rfl,rfl,hH,hz,q⟩:=h;cases rx;obtain⟨u,rfl,ru⟩:=rv.one;obtain⟨z,its,n,r,hl,e⟩:=I.lstM hH;refine call_meets F.slot_list_append ⟨_,e,rfl⟩ F.entry_list_append (F.args_list_append_2 _ _) (PySem.list_append l its.toArray n u (by rw[Zf];omega)) ⟨e,?_⟩;refine⟨.non,_,I.lset (its':=its++[u]) hH e (by simp) (r.append (.cons ru .nil)) ?_,rfl,q⟩;rw[Zn,YC];omega
def qA:V->List V->Hp->VK->Prop:=fun x vs H Q=>∃l b xs zs,x=.ref l/\vs=[.ref b]/\H l=some (.lst xs)/\H b=some (.lst zs)/\xs.length+zs.length<=sizeLine/\Q .non (upd H l (.lst (xs++zs)))
theorem tO:MtM X "list.extend" qA:=by
 intro pins s σ H x vs v us Q I rx rv h;obtain⟨l,b,xs,zs,rfl,rfl,hH,hB,hz,q⟩:=h;cases rx;obtain⟨u,rfl,ru⟩:=rv.one;cases ru;obtain⟨z,its,n,r,hl,e⟩:=I.lstM hH;obtain⟨z2,its2,n2,r2,hl2,e2⟩:=I.lstM hB;have hsz:its.toArray.size+its2.toArray.size<=sizeLine:=by rw[Zf,Zf];omega
 have hlong:¬(!its.toArray.isEmpty&&Builtin.List.listTooLong (its.toArray.size+its2.toArray.size))=true:=by rw[vQ hsz,Bool.and_false];exact Zj
 refine call_meets F.slot_list_extend ⟨_,e,rfl⟩ F.entry_list_extend (F.args_list_extend_2 _ _)
  (AutoSeq1.list_extend_list_list_0 l its.toArray n b its2.toArray n2 hlong (by rw[Zf];omega) (by omega)) ⟨e,e2,?_⟩
 refine⟨.non,_,I.lset (its':=its++its2) hH e (by simp) (r.append r2) ?_,rfl,q⟩;rw[Zn];omega
def Bw:V->List V->Hp->VK->Prop:=fun x vs H Q=>∃l xs y,x=.ref l/\vs=[]/\H l=some (.lst xs)/\xs[xs.length-1]?=some y/\Q y (upd H l (.lst xs.dropLast))
theorem Az:MtM X "list.pop" Bw:=by
 intro pins s σ H x vs v us Q I rx rv h;obtain⟨l,xs,y,rfl,rfl,hH,hy,q⟩:=h;cases rx;have hus:=rv.zero;subst hus;obtain⟨z,its,n,r,hl,e⟩:=I.lstM hH;obtain⟨u,hu,ru⟩:=r.get hy;have hy':its.toArray[its.toArray.size-1]?=some u:=by show its.toArray[its.length-1]?=some u;rw[<-YD,<-hl];exact hu
 refine call_meets F.slot_list_pop ⟨_,e,rfl⟩ F.entry_list_pop (F.args_list_pop_1 _) (MeetsSeq.list_pop_last l its.toArray n u hy' (by rw[Zf];omega)) ⟨e,?_⟩;refine⟨y,_,I.lset (its':=its.dropLast) hH e ?_ r.dropLast ?_,ru,q⟩
 ·show its.toArray.eraseIdxIfInBounds (its.toArray.size-1)=its.dropLast.toArray;rw[Zf,List.eraseIdxIfInBounds_toArray,rA]
 ·rw[List.length_dropLast];omega
def Br:R2:=fun x y H Q=>∃l b xs zs,x=.ref l/\y=.ref b/\H l=some (.lst xs)/\H b=some (.lst zs)/\xs.length+zs.length<=sizeLine/\∀p,H p=none->Q (.ref p) (upd H p (.lst (xs++zs)))
theorem AK:OpR X (binaryOp .Add) Br:=by
 intro pins s σ H x y v u Q I rx ry h;obtain⟨l,b,xs,zs,rfl,rfl,hH,hB,hz,q⟩:=h;cases rx;cases ry;obtain⟨z,its,n,r,hl,e⟩:=I.lstM hH;obtain⟨z2,its2,n2,r2,hl2,e2⟩:=I.lstM hB;refine PySem.P.add_list e e2 ?_ (by rw[Zf,Zf];omega);have ea:its.toArray++its2.toArray=(its++its2).toArray:=by simp
 rw[ea];exact⟨.ref _,_,I.lnew (t':=s.toks) (r.append r2) (by rw[Zn];omega),rfl,q _ I.fresh⟩
end
open PySem PySem.Spec PyProof.Rows
section
variable{κ:Type}[DecidableEq κ]
def bo(kvs:List (κ×V))(k:κ):Option V:=(kvs.find? fun kv=>decide (kv.1=k)).map (·.2)
def be(kvs:List (κ×V))(k:κ)(v:V):List (κ×V) :=
 if(kvs.any fun kv=>decide (kv.1=k))=true then kvs.map (fun kv=>if kv.1=k then(kv.1,v)else kv)else kvs++[(k,v)]
theorem hJ{p:κ×V}{r:List (κ×V)}{k:κ}(e:p.1=k):bo (p::r) k=some p.2:=by simp[bo,List.find?_cons,e]
theorem fh{p:κ×V}{r:List (κ×V)}{k:κ}(e:¬p.1=k):bo (p::r) k=bo r k:=by simp[bo,List.find?_cons,e]
theorem dF(k:κ):∀kvs:List (κ×V),(kvs.any fun kv=>decide (kv.1=k))=(bo kvs k).isSome
 | []=>rfl
 |p::r=>by
  rw[List.any_cons];by_cases e:p.1=k
  ·simp only[hJ e,decide_eq_true e,Bool.true_or,Option.isSome_some]
  ·rw[fh e,decide_eq_false e,Bool.false_or];exact dF k r
theorem jk(kvs:List (κ×V))(k:κ)(v:V):(be kvs k v).length<=kvs.length+1:=by
 unfold be;split
 ·rw[Zi];omega
 ·rw[Zn,Zt,List.length_nil];omega
theorem wo{kvs:List (κ×V)}{k:κ}(v:V)(h:bo kvs k=none):be kvs k v=kvs++[(k,v)]:=by unfold be;rw[dF,h];exact if_neg (by decide)
theorem RelO.isSome_eq{o:Option V}{u:Option Value}(r:RelO o u):o.isSome=u.isSome:=by
 cases o with
 |none=>cases u with
  |none=>rfl
  |some _=>exact(show False from r).elim
 |some _=>cases u with
  |none=>exact(show False from r).elim
  |some _=>rfl
theorem KV.val{kvs:List (κ×V)}{vs:List (κ×Value)}(r:KV kvs vs)(k:κ):RelO (bo kvs k) (valueAt vs k):=by
 unfold KV at r;induction r with
 |nil=>exact True.intro
 |@cons p q ps qs h t ih =>
  obtain⟨h1,h2⟩:=h;by_cases e:p.1=k
  ·have e':q.1=k:=h1.symm.trans e;have b:valueAt (q::qs) k=some q.2:=by simp[valueAt,List.find?_cons,e']
   rw[hJ e,b];exact h2
  ·have e':¬q.1=k:=fun z=>e (h1.trans z);have b:valueAt (q::qs) k=valueAt qs k:=by simp[valueAt,List.find?_cons,e']
   rw[fh e,b];exact ih
theorem KV.any{kvs:List (κ×V)}{vs:List (κ×Value)}(r:KV kvs vs)(k:κ):(kvs.any fun kv=>decide (kv.1=k))=vs.any fun kv=>decide (kv.1=k):=by
 unfold KV at r;induction r with
 |nil=>rfl
 |cons h t ih=>rw[List.any_cons,List.any_cons,ih,h.1]
theorem KV.repl{kvs:List (κ×V)}{vs:List (κ×Value)}(r:KV kvs vs)(k:κ){y:V}{u:Value}(ry:RelV y u) :
  KV (kvs.map fun kv=>if kv.1=k then(kv.1,y)else kv) (vs.map fun kv=>if kv.1=k then(kv.1,u)else kv):=by
 unfold KV at r ⊢;induction r with
 |nil=>exact .nil
 |@cons p q ps qs h t ih =>
  rw[Zz,Zz];refine .cons ?_ ih;obtain⟨h1,h2⟩:=h;by_cases e:p.1=k
  ·rw[if_pos e,if_pos (h1.symm.trans e)];exact⟨h1,ry⟩
  ·rw[if_neg e,if_neg (fun z=>e (h1.trans z))];exact⟨h1,h2⟩
theorem KV.put{kvs:List (κ×V)}{vs:List (κ×Value)}(r:KV kvs vs)(k:κ){y:V}{u:Value}(ry:RelV y u):KV (be kvs k y) (stored vs k u):=by
 unfold be stored;rw[r.any k];by_cases e:(vs.any fun kv=>decide (kv.1=k))=true
 ·rw[if_pos e,if_pos e];exact r.repl k ry
 ·rw[if_neg e,if_neg e];exact Paired.snoc r ⟨rfl,ry⟩
theorem KV.length{kvs:List (κ×V)}{vs:List (κ×Value)}(r:KV kvs vs):kvs.length=vs.length:=Zy r
end
theorem jU{P:Program}{w:World}{k:Key}{u:Value}(r:RelV (kV k) u):(aK P w).is k u=true:=by
 cases k with
 |inl i=>obtain⟨t,e⟩:=(show∃t,u=Value.int i t from r);subst e;exact pJ P w i t
 |inr x=>obtain⟨t,e⟩:=(show∃t,u=Value.str x t from r);subst e;exact pK P w x t
theorem ma{P:Program}{w:World}:∀{ks:List Key} {us:List Value},Vals (ks.map kV) us->ItemsAre (aK P w) ks us
 | [],_,r=>by rw[List.map_nil]at r;cases r;exact .nil
 |k::ks,_,r=>by
  rw[Zz]at r;cases r with
  |cons h t=>exact .cons (jU h) (ma t)
abbrev KT(H:Hp):List (List Key×V)->List (List Key×Addr×Value)->Prop:=Paired fun p q=>p.1=q.1/\H q.2.1=some (.tup (p.1.map kV))/\RelV p.2 q.2.2
theorem KT.val{H:Hp}{kvs:List (List Key×V)}{xs:List (List Key×Addr×Value)}(r:KT H kvs xs)(k:List Key):RelO (bo kvs k) ((atKey xs k).map (·.2)):=by
 induction r with
 |nil=>exact True.intro
 |@cons p q ps qs h t ih =>
  obtain⟨h1,_,h2⟩:=h;by_cases e:p.1=k
  ·have e':q.1=k:=h1.symm.trans e;have b:atKey (q::qs) k=some q.2:=by simp[atKey,List.find?_cons,e']
   rw[hJ e,b];exact h2
  ·have e':¬q.1=k:=fun z=>e (h1.trans z);have b:atKey (q::qs) k=atKey qs k:=by simp[atKey,List.find?_cons,e']
   rw[fh e,b];exact ih
theorem KT.repl{H:Hp}{kvs:List (List Key×V)}{xs:List (List Key×Addr×Value)}(r:KT H kvs xs)(k:List Key){y:V}{u:Value}(ry:RelV y u) :
  KT H (kvs.map fun kv=>if kv.1=k then(kv.1,y)else kv) (xs.map (putAt k u)):=by
 induction r with
 |nil=>exact .nil
 |@cons p q ps qs h t ih =>
  rw[Zz,Zz];refine .cons ?_ ih;obtain⟨h1,h2,h3⟩:=h;unfold putAt;by_cases e:p.1=k
  ·rw[if_pos e,if_pos (h1.symm.trans e)];exact⟨h1,h2,ry⟩
  ·rw[if_neg e,if_neg (fun z=>e (h1.trans z))];exact⟨h1,h2,h3⟩
theorem KT.put{H:Hp}{kvs:List (List Key×V)}{xs:List (List Key×Addr×Value)}(r:KT H kvs xs)(k:List Key){b:Addr}{y:V}{u:Value}(hb:H b=some (.tup (k.map kV)))(ry:RelV y u) :
  KT H (be kvs k y) (storedH xs k b u):=by
 have e:(kvs.any fun kv=>decide (kv.1=k))=(atKey xs k).isSome:=by rw[dF,(r.val k).isSome_eq,Option.isSome_map]
 unfold be storedH;rw[e];by_cases q:(atKey xs k).isSome=true
 ·rw[if_pos q,if_pos q];exact r.repl k ry
 ·rw[if_neg q,if_neg q];exact Paired.snoc r ⟨rfl,hb,ry⟩
theorem KT.keeps{H H':Hp}{kvs:List (List Key×V)}{xs:List (List Key×Addr×Value)}(r:KT H kvs xs)(ht:∀b ys,H b=some (.tup ys)->H' b=some (.tup ys)):KT H' kvs xs :=
 Paired.mapP r fun _ _ z=>⟨z.1,ht _ _ z.2.1,z.2.2⟩
section
variable{P:Program}{w:World}{H:Hp}{h:Heap}{a:Addr}
theorem xD{u:HO}(ok:HOk P w H h)(e:Rd H a u):ObjOk P w H h a u:=e.ok ok
theorem jP{kvs:List (Key×V)}(ok:HOk P w H h)(e:Rd H a (.dK kvs)):kvs.length<=sizeLine/\(a==sysModules)=false/\∃vs,KV kvs vs/\h.DictOf (aK P w) a vs :=
 show ObjOk P w H h a (.dK kvs)from xD ok e
theorem B6{kvs:List (Key×V)}(ok:HOk P w H h)(e:H a=some (.dK kvs)):kvs.length<=sizeLine/\(a==sysModules)=false/\∃vs,KV kvs vs/\h.DictOf (aK P w) a vs:=jP ok (.inl e)
theorem eI{ks:List Key}(ok:HOk P w H h)(e:H a=some (.tup (ks.map kV))):(tupleKind (aK P w)).is h ks a:=by
 obtain⟨_,its,r,o,h1,h2,n,h3⟩:=(show ObjOk P w H h a (.tup (ks.map kV))from ok a _ e)
 exact⟨o,its.toArray,n,h1,h2,h3,by simpa using ma r⟩
theorem fm{kvs:List (List Key×V)}(ok:HOk P w H h)(e:Rd H a (.dT kvs)):kvs.length<=sizeLine/\(a==sysModules)=false /\
  ∃xs,KT H kvs xs/\h.DictOfH (tupleKind (aK P w)) a xs:=by
 obtain⟨z,y,xs,r,o,es,ep,h1,h2,h3,h4,h5⟩:=(show ObjOk P w H h a (.dT kvs)from xD ok e)
 refine⟨z,y,xs,r,o,es,ep,h1,h2,h3,h4,fun x hx=>?_,h5⟩;have all:∀{l:List (List Key×V)} {m:List (List Key×Addr×Value)},KT H l m->∀x∈m,(tupleKind (aK P w)).is h x.1 x.2.1:=by
  intro l m q;induction q with
  |nil=>intro x hx;exact nomatch hx
  |@cons p q ps qs hq t ih =>
   intro x hx;rcases Zq.mp hx with e|hx
   ·subst e;exact eI ok (by rw[<-hq.1];exact hq.2.1)
   ·exact ih x hx
 exact all r x hx
theorem B7{kvs:List (List Key×V)}(ok:HOk P w H h)(e:H a=some (.dT kvs)):kvs.length<=sizeLine/\(a==sysModules)=false /\
  ∃xs,KT H kvs xs/\h.DictOfH (tupleKind (aK P w)) a xs:=fm ok (.inl e)
end
def DGet(H:Hp)(a:Addr)(y:V)(r:Option V):Prop :=
 (∃kvs k,Rd H a (.dK kvs)/\y=kV k/\r=bo kvs k)\/∃kvs k b,Rd H a (.dT kvs)/\y=.ref b/\H b=some (.tup (k.map kV))/\r=bo kvs k
def DPut(H:Hp)(a:Addr)(y v:V)(H':Hp):Prop :=
 (∃kvs k,H a=some (.dK kvs)/\y=kV k/\kvs.length<sizeLine/\H'=upd H a (.dK (be kvs k v))) \/
 ∃kvs k b,H a=some (.dT kvs)/\y=.ref b/\H b=some (.tup (k.map kV))/\kvs.length<sizeLine/\H'=upd H a (.dT (be kvs k v))
theorem DGet.t{H:Hp}{a b:Addr}{kvs:List (List Key×V)}{k:List Key}(e:H a=some (.dT kvs))(eb:H b=some (.tup (k.map kV))):DGet H a (.ref b) (bo kvs k):=.inr ⟨kvs,k,b,.inl e,rfl,eb,rfl⟩
theorem DPut.t{H:Hp}{a b:Addr}{kvs:List (List Key×V)}{k:List Key}{v:V}(e:H a=some (.dT kvs))(eb:H b=some (.tup (k.map kV)))(hl:kvs.length<sizeLine) :
  DPut H a (.ref b) v (upd H a (.dT (be kvs k v))):=.inr ⟨kvs,k,b,e,rfl,eb,hl,rfl⟩
section
variable{X:Cx}{pins:List (Addr×Obj)}{σ:St}{H:Hp}{s:Shared}{a:Addr}{y v:V}{u r:Value}{o:Option V}{A:Around}{E:Value->Shared->Prop}
theorem Inv.big(I:Inv X pins σ H s):sysModules<s.heap.objs.size:=by have h:mainGlobals<s.heap.objs.size:=(I.mod.glob.keeps I.bk).lt;exact Nat.lt_trans (by decide) h
theorem sJ{Q:Value->Shared->Prop}(hu:A.units+1<cLine)(I:Inv X pins σ H s)(g:DGet H a y (some v))(ry:RelV y u)(h:∀w' s',Inv X pins σ H s'->RelV v w'->Q w' s') :
  wpAny (model X.prog X.w) A (getItem (.ref a) u) Q E s:=by
 rcases g with⟨kvs,k,e,ey,l⟩|⟨kvs,k,b,e,ey,eb,l⟩
 ·subst ey;obtain⟨z,hd,vs,rel,dd⟩:=jP I.hok e;obtain⟨w',hw,rw'⟩:=RelO.some_of (v:=v) (o:=valueAt vs k) (by rw[l];exact rel.val k);exact wpAny_getItem_of (jU ry) dd.mapOf hw (h w' _ (I.tok _) rw')
 ·subst ey;cases(show u=Value.ref b from ry);obtain⟨z,hd,xs,rel,dd⟩:=fm I.hok e;obtain⟨w',hw,rw'⟩:=RelO.some_of (v:=v) (o:=(atKey xs k).map (·.2)) (by rw[l];exact rel.val k);obtain⟨p,hp,hp2⟩:=ZZ.mp hw;refine wpAny_getItem_heap (tupleKind_room_in1 hu) (eI I.hok eb) dd hp ?_;rw[hp2];exact h w' _ (I.tok _) rw'
theorem CQ{Q:Value->Shared->Prop}(hu:A.units+1<cLine)(I:Inv X pins σ H s)(g:DGet H a y o)(ry:RelV y u)(h:∀s',Inv X pins σ H s'->Q (.bool o.isSome) s') :
  wpAny (model X.prog X.w) A (compareOp .In u (.ref a)) Q E s:=by
 rcases g with⟨kvs,k,e,ey,l⟩|⟨kvs,k,b,e,ey,eb,l⟩
 ·subst ey;obtain⟨z,hd,vs,rel,dd⟩:=jP I.hok e;refine wpAny_in_of (jU ry) hd dd.mapOf ?_;rw[<-(rel.val k).isSome_eq,<-l];exact h _ (I.tok _)
 ·subst ey;cases(show u=Value.ref b from ry);obtain⟨z,hd,xs,rel,dd⟩:=fm I.hok e;refine wpAny_in_heap (tupleKind_room_in1 hu) (eI I.hok eb) hd dd ?_;have q:=(rel.val k).isSome_eq;rw[Option.isSome_map]at q;rw[<-q,<-l];exact h _ (I.tok _)
theorem yf{Q:Value->Shared->Prop}(hu:A.units+1<cLine)(I:Inv X pins σ H s)(g:DGet H a y o)(ry:RelV y u)(h:∀s',Inv X pins σ H s'->Q (.bool (!o.isSome)) s') :
  wpAny (model X.prog X.w) A (compareOp .NotIn u (.ref a)) Q E s:=by
 rcases g with⟨kvs,k,e,ey,l⟩|⟨kvs,k,b,e,ey,eb,l⟩
 ·subst ey;obtain⟨z,hd,vs,rel,dd⟩:=jP I.hok e;refine wpAny_notIn_of (jU ry) hd dd.mapOf ?_;rw[<-(rel.val k).isSome_eq,<-l];exact h _ (I.tok _)
 ·subst ey;cases(show u=Value.ref b from ry);obtain⟨z,hd,xs,rel,dd⟩:=fm I.hok e;refine wpAny_notIn_heap (tupleKind_room_in1 hu) (eI I.hok eb) hd dd ?_;have q:=(rel.val k).isSome_eq;rw[Option.isSome_map]at q;rw[<-q,<-l];exact h _ (I.tok _)
theorem kZ{h':Heap}{t':Nat}{ob:HO}(I:Inv X pins σ H s)(mu:Mut (H a))(hs:Heap.SameBut a s.heap h')(he:∃q,h'.get? a=some q)(new:ObjOk X.prog X.w (upd H a ob) h' a ob) :
  Inv X pins σ (upd H a ob) { s with heap:=h',toks:=t' } :=
 I.write (x:=a) (e:=a) mu (.inl rfl) (fun b q hb z=>(hs.2 b hb).trans z) he new
theorem Ae{P:Program}{w:World}{H':Hp}{h':Heap}{kvs:List (Key×V)}{vs:List (Key×Value)}(z:kvs.length<=sizeLine)(hd:(a==sysModules)=false)(rel:KV kvs vs)(dd:h'.DictOf (aK P w) a vs) :
  ObjOk P w H' h' a (.dK kvs):=⟨z,hd,vs,rel,dd⟩
theorem sK{H':Hp}{Q:Unit->Shared->Prop}(hu:A.units+1<cLine)(I:Inv X pins σ H s)(g:DPut H a y v H')(ry:RelV y u)(rv:RelV v r)(h:∀s',Inv X pins σ H' s'->Q () s') :
  wpAny (model X.prog X.w) A (setItem (.ref a) u r) Q E s:=by
 rcases g with⟨kvs,k,e,ey,l,eH⟩|⟨kvs,k,b,e,ey,eb,l,eH⟩
 ·subst ey eH;obtain⟨z,hd,vs,rel,dd⟩:=B6 I.hok e;have hz:vs.length<=sizeLine:=by rw[<-rel.length];exact z
  have hl:(be kvs k v).length<=sizeLine:=by have:=jk kvs k v;omega
  refine wpAny_setItem_pairs (hsz:=hz) (jU ry) dd fun h' dd' hs=>h _ ?_;have he:∃q,h'.get? a=some q:=let⟨q,_,_,hq,_⟩:=dd';⟨q,hq⟩
  exact kZ I (by rw[e];exact True.intro) hs he (Ae hl hd (rel.put k rv) dd')
 ·subst ey eH;cases(show u=Value.ref b from ry);obtain⟨z,hd,xs,rel,dd⟩:=B7 I.hok e;have hz:xs.length<=sizeLine:=by rw[<-Zy rel];exact z
  have hl:(be kvs k v).length<=sizeLine:=by have:=jk kvs k v;omega
  refine wpAny_setItem_heap (hsz:=hz) (tupleKind_room_in1 hu) (eI I.hok eb) dd fun h' dd' hs=>h _ ?_;obtain⟨q,es,ep,hq,h2,h3,h4,_,h5⟩:=dd';refine kZ I (by rw[e];exact True.intro) hs ⟨q,hq⟩ ⟨hl,hd,_,(rel.put k eb rv).keeps fun c ys ec=>?_,q,es,ep,hq,h2,h3,h4,h5⟩;rw[ad (fA ec e (fun z=>nomatch z))];exact ec
end
def ve(i:Expr):Prop:=∀ov iv,subscripted i false ov iv=operate [ov,iv] (getItem ov iv)
theorem zq{prog:Program}{w:World}{A:Around}{E:Value->Shared->Prop}{s:Shared}{env:Env}{value slice:Expr}{pos:Pos}{T id:String}{Q:Value->Shared->Prop}(hl:typeLookup (.type T) "__getitem__" = pure (some (.builtin id)))(hs:ve slice)(h:wpAny (model prog w) A (eval value env) (fun o s₁=>wpAny (model prog w) A (eval slice env) (fun i s₂=>s₂.TypeIs o T/\wpAny (model prog w) A (getItem o i) Q E s₂) E s₁) E s) :
  wpAny (model prog w) A (eval (.Subscript value slice pos) env) Q E s:=by
 refine Subscript_ (ZQ h (fun o s₁ h₁=>ZQ h₁ (fun i s₂ h₂=>?_) fun _ _ x=>x) fun _ _ x=>x);obtain⟨hT,h₂⟩:=h₂;unfold subscriptTail;refine z6 ?_;rw[getitemInPython_of_ne hT.not_modules];refine z6 (wpAny_specialOf hT hl ?_);have fin:wpAny (model prog w) A (subscripted slice false o i) (fun r s₃=>wpAny (model prog w) A (letTemporaryGo value o r >>= fun _=>pure r) Q E s₃) E s₂:=by rw[hs o i];exact wpAny_operating (ZQ h₂ (fun r s₃ h₃=>z6 (wpAny_letTemporaryGo (z9 h₃))) fun _ _ x=>x)
 first
  |exact z9 (z6 fin)
  |exact z6 (z9 (z6 fin))
  |exact z6 fin
theorem pH{X:Cx}{pins:List (Addr×Obj)}{σ:St}{H:Hp}{s:Shared}{a:Addr}{y:V}{o:Option V}(I:Inv X pins σ H s)(g:DGet H a y o):s.TypeIs (.ref a) "dict":=by
 rcases g with⟨kvs,k,e,_,_⟩|⟨kvs,k,b,e,_,_,_⟩
 ·obtain⟨_,_,vs,_,dd⟩:=jP I.hok e;exact dd.typeIs
 ·obtain⟨_,_,xs,_,dd⟩:=fm I.hok e;exact dd.typeIs
def xJ(td ty:TE):TE:=fun σ H Q=>td σ H fun x H1=>ty σ H1 fun y H2=>∃a v,x=.ref a/\DGet H2 a y (some v)/\Q v H2
def BL(ty td:TE):TE:=fun σ H Q=>ty σ H fun y H1=>td σ H1 fun x H2=>∃a o,x=.ref a/\DGet H2 a y o/\Q (.bl o.isSome) H2
def qS(ty td:TE):TE:=fun σ H Q=>ty σ H fun y H1=>td σ H1 fun x H2=>∃a o,x=.ref a/\DGet H2 a y o/\Q (.bl (!o.isSome)) H2
def xE(td ty tv:TE):TS:=fun D σ H=>tv σ H fun v H1=>td σ H1 fun x H2=>ty σ H2 fun y H3=>∃a H4,x=.ref a/\DPut H3 a y v H4/\D.nx σ H4
section
variable{X:Cx}{o i e value:Expr}{pos pos' tpos:Pos}{td ty tv:TE}
theorem yP(hu:X.A.units+1<cLine)(ho:PE X o td)(hi:PE X i ty)(hs:ve i):PE X (.Subscript o i pos) (xJ td ty):=by intro pins s σ H Q I h;refine zq PySem.F.slot_dict_getitem.lookup hs (thn (ho pins s σ H _ I h) fun u s1 ⟨x,H1,I1,rx,q1⟩=>thn (hi pins s1 σ H1 _ I1 q1) fun iv s2 hz9=>?_);obtain⟨y,H2,I2,ry,a,v,ex,g,q2⟩:=hz9;subst ex;obtain rfl:u=Value.ref a:=rx;exact⟨pH I2 g,sJ hu I2 g ry fun w' s3 I3 rw'=>⟨v,H2,I3,rw',q2⟩⟩
theorem AV(hu:X.A.units+1<cLine)(hi:PE X i ty)(ho:PE X o td):PC X .In i o (BL ty td):=by intro pins s σ H Q I h;refine thn (hi pins s σ H _ I h) fun iv s1 ⟨y,H1,I1,ry,q1⟩=>thn (ho pins s1 σ H1 _ I1 q1) fun u s2 hz9=>?_;obtain⟨x,H2,I2,rx,a,ov,ex,g,q2⟩:=hz9;subst ex;obtain rfl:u=Value.ref a:=rx;exact CQ hu I2 g ry fun s3 I3=>⟨.bl ov.isSome,H2,I3,rfl,q2⟩
theorem uh(hu:X.A.units+1<cLine)(hi:PE X i ty)(ho:PE X o td):PC X .NotIn i o (qS ty td):=by intro pins s σ H Q I h;refine thn (hi pins s σ H _ I h) fun iv s1 ⟨y,H1,I1,ry,q1⟩=>thn (ho pins s1 σ H1 _ I1 q1) fun u s2 hz9=>?_;obtain⟨x,H2,I2,rx,a,ov,ex,g,q2⟩:=hz9;subst ex;obtain rfl:u=Value.ref a:=rx;exact yf hu I2 g ry fun s3 I3=>⟨.bl (!ov.isSome),H2,I3,rfl,q2⟩
theorem yY(hu:X.A.units+1<cLine)(ho:PE X o td)(hi:PE X i ty)(hv:PE X value tv)(hs:swapsWith value (some (.Subscript o i pos')) pos.line X.env=pure false) :
  PS X (.Assign [.Subscript o i pos'] value pos) (xE td ty tv):=by
 intro pins s σ H D I h;refine wpAny_Assign_Subscript (thn (hv pins s σ H _ I h) fun r s1 ⟨v,H1,I1,rv,q1⟩=>thn (ho pins s1 σ H1 _ I1 q1) fun u s2 ⟨x,H2,I2,rx,q2⟩=>thn (hi pins s2 σ H2 _ I2 q2) fun iv s3 hz9=>?_) hs;obtain⟨y,H3,I3,ry,a,H4,ex,g,q3⟩:=hz9;subst ex;obtain rfl:u=Value.ref a:=rx;exact sK hu I3 g ry rv fun s4 I4=>⟨σ,H4,I4,q3⟩
end
theorem vB{P:Program}{w:World}{H:Hp}(h:Heap)(hb:sysModules<h.objs.size):ObjOk P w H (h.push { cls:=.type "dict",data:=.dict #[] }) h.objs.size (.dT []) :=
 ⟨ZO _,Yw.mpr (ZM (Zv hb)),[],.nil,_,#[],0,Zo _ rfl,⟨rfl,rfl,rfl⟩,rfl,rfl,List.nodup_nil⟩
def uK:TE:=fun _ H Q=>∀p,H p=none->Q (.ref p) (upd H p (.dT []))
section
variable{X:Cx}{pos:Pos}
theorem vX:PE X (.Dict [] [] pos) uK:=fun pins s σ H Q I h =>
 wpAny_Dict_empty ⟨.ref s.heap.objs.size,_,I.laid (a:=s.heap.objs.size) (o:=.dT []) (t':=s.toks) (fun _ _ q=>Za _ q) (Ze _) (vB s.heap I.big),rfl,h _ (I.hok.fresh (Ze _))⟩
end
def uL:List (TE×TE)->St->Hp->(List (V×V)->Hp->Prop)->Prop
 | [],_,H,Q=>Q [] H
 |(tk,tv)::r,σ,H,Q=>tk σ H fun x H1=>tv σ H1 fun y H2=>uL r σ H2 fun ps H3=>Q ((x,y)::ps) H3
abbrev VV:List (V×V)->List (Value×Value)->Prop:=Paired fun p q=>RelV p.1 q.1/\RelV p.2 q.2
def PPs(X:Cx)(pos:Pos)(keys:List (Option Expr))(values:List Expr)(trs:List (TE×TE)):Prop :=
 ∀(pins:List (Addr×Obj)) (s:Shared) (σ:St) (H:Hp) (Q:List (V×V)->Hp->Prop),Inv X pins σ H s->uL trs σ H Q ->
  wpAny (model X.prog X.w) X.A (evalPairs (pairTrees keys values X.env pos)) (fun vs s'=>∃ps H',Inv X pins σ H' s'/\VV ps vs/\Q ps H') X.xe s
structure M1(X:Cx)(o:Expr)(m:Str)(apos:Pos)(e:Expr)(cpos:Pos):Prop where
 base:attributeBase o m X.env (eval o X.env)=eval o X.env
 few:((backTo cpos (starEach [e] X.env)).all (fun x=>!x.1)&&(backToKw cpos (keywordEach [] X.env)).all (fun x=>x.1.isSome)
 &&decide (([e]:List Expr).length+([]:List Keyword).length+(if ([]:List Keyword).isEmpty then 0 else 1)<30))=true
 line:(apos.endLine==cpos.line)=true
 trees:backTo cpos (starEach [e] X.env)=[(false,eval e X.env)]
structure M2(X:Cx)(o:Expr)(m:Str)(apos:Pos)(e f:Expr)(cpos:Pos):Prop where
 base:attributeBase o m X.env (eval o X.env)=eval o X.env
 few:((backTo cpos (starEach [e,f] X.env)).all (fun x=>!x.1)&&(backToKw cpos (keywordEach [] X.env)).all (fun x=>x.1.isSome)
 &&decide (([e,f]:List Expr).length+([]:List Keyword).length+(if ([]:List Keyword).isEmpty then 0 else 1)<30))=true
 line:(apos.endLine==cpos.line)=true
 trees:backTo cpos (starEach [e,f] X.env)=[(false,eval e X.env),(false,eval f X.env)]
end L2
namespace Att
open PySem PySem.W PySem.Calls PyProof.Rows
theorem jT{P:Params}{h:Heap}:∀(ns:List Int) (vs:List Value),WellAll P h vs (ns.map WData.int)->IntsAre vs ns:=by
 intro ns;induction ns with
 |nil =>intro vs w;rw[List.map_nil]at w;cases w;exact .nil
 |cons n ns ih =>
  intro vs w;rw[Zz]at w;cases w with
  |cons a b =>cases a;exact .cons _ _ (ih _ b)
theorem uC{l:OpenLaw}{n:Nat}(hn:l.most=some n){P:Params}{h:Heap}{args:List WData}{vals:List Value}(hpre:l.row.toRowW.claim.pre args=true)(hwl:WellAll P h vals args) :
  ∃a vs ns,vals=[Value.ref a]/\args=[WData.list (ns.map WData.int)]/\h.get? a=some { cls:=.type "list",data:=.seq vs.toArray }/\IntsAre vs ns/\ns.length<=n:=by
 have hsh:WShape.hasAll [] args [.list .int]=true:=(pre_splitW hpre).1;have hc:l.pre.holds [] { args:=args }=true:=(pre_splitW hpre).2;obtain⟨d,r,rfl,h1,h2⟩:=hasAllW_cons hsh;obtain rfl:=hasAllW_nil h2;obtain⟨xs,rfl,h3⟩:=hasW_list h1;obtain⟨ns,rfl⟩:=items_int h3;have hlen:ns.length<=n:=by
  unfold OpenLaw.pre at hc;have h4:(WTm.not (.lt (.lit (.int (n:Int))) (.len (.arg 0)))).holds [] { args:=[.list (ns.map .int)] }=true:=by have h4:=(holds_andW hc).1;rw[hn]at h4;exact h4
  have h5:=condW_of h4 (w_not (w_lt w_lit (w_len_list (w_arg rfl))));rw[Zi]at h5;refine Nat.le_of_not_lt fun q=>?_;have q':(n:Int)<((ns.length:Nat):Int):=by omega
  first
   |(rw[decide_eq_true q']at h5;exact absurd h5 (by decide))
   |(simp at h5;omega)
 cases hwl with
 |cons w1 w2 =>
  cases w2;cases w1 with
  |list ho hall=>exact⟨_,_,ns,rfl,rfl,ho,jT ns _ hall,hlen⟩
theorem um(l:OpenLaw)(args:List WData):l.row.toRowW.claim.post args (.bool true) args=true :=
 postW_of (r:=l.row.toRowW) (X:=(true==true))
  (show WShape.has [] (.bool true) .bool=true by first|rfl|decide|simp[WShape.has,WShape.arms,WShape.armsAll])
  (show(WTm.eq .res (.lit (.bool true))).value [] { args:=args,res:=some (.bool true),after:=args }=some (.bool (true==true))from w_eq_bool (w_res rfl) w_lit) rfl
theorem attach_call{l:OpenLaw}{n:Nat}{q:Program}{loose:List Str}{XP:(Str->Option Value)->Heap->Prop}{YP:World->Heap->Prop}{d:DefRec}(hn:l.most=some n)(hdf:d.params.defaults=[])(call:∀ (w:World) (s₀ s₁:Shared) (mg mb:Str->Option Value) (fa:Addr) (o:Obj) (pm cd doc:Value) (a:Addr) (vs:List Value) (ns:List Int),
   Ground q loose [] XP w s₀ mg mb s₁.heap->YP w s₁.heap ->
   s₁.heap.get? fa=some o->o.data=.func (docDef d.name d.params d.body d.scope pm cd doc)->s₁.heap.CodeRec cd d.name->mg d.name=some (.ref fa) ->
   s₁.heap.get? a=some { cls:=.type "list",data:=.seq vs.toArray }->IntsAre vs ns->ns.length<=n->s₁.gens=#[] ->
   codeAny (model l.prog w) callerA (.call (.ref fa) ⟨[.ref a],[]⟩) (fun r s'=>r=.ok (.ret (.bool true))/\OldK s₁.heap s'.heap/\s'.os=s₁.os/\AllBare s'.gens) s₁) :
  WalkO q loose XP YP l.row.toRowW d [] (fun f vs=>PySem.call f vs):=by
 intro w s₀ s₁ mg mb G Y fa o pm cd doc dV kV ho hd hcd hD hmg hg args vals as hpre hlay hrd hwl hlo;obtain rfl:dV=.none:=Dflts.none hD hdf;obtain rfl:kV=.none:=Dflts.noKw hD;obtain⟨a,vs,ns,rfl,rfl,hobj,hints,hlen⟩:=uC hn hpre hwl;refine enter_call (codeAny_mono (call w s₀ s₁ mg mb fa o pm cd doc a vs ns G Y ho (fd_plain hd) hcd hmg hobj hints hlen hg) fun r s' hq=>?_);obtain⟨rfl,h2,h3,h4⟩:=hq;exact⟨.inl ⟨.bool true,.bool true,[],rfl,fun _=>rfl,.bool true,um l _,fun _=>⟨List.Pairwise.nil,fun _ hm=>(nomatch hm)⟩⟩,h2,h3,h4⟩
end Att
namespace L2
open PySem PySem.Spec PyProof.Rows
theorem mE:∀{vs:List Value} {ns:List Int},IntsAre vs ns->Vals (ns.map V.int) vs
 |_,_,.nil=>.nil
 |_,_,.cons n t h=>.cons ⟨t,rfl⟩ (mE h)
open PySem PySem.Spec PyProof.Rows
open PySem PySem.Spec PyProof.Rows
def aO(s:Stmt)(j:Nat):Stmt:=match s with
 |.ClassDef _ _ _ body _ _ _ _ _ _ _=>body.getD j (.Pass ⟨0,0,0,0⟩)
 |_=>.Pass ⟨0,0,0,0⟩
def bE(s:Stmt):Arguments:=match s with
 |.FunctionDef _ a _ _ _ _ _ _ _ _=>a
 |_=>{ posonlyargs:=[],args:=[],vararg:=none,kwonlyargs:=[],kw_defaults:=[],kwarg:=none,defaults:=[] }
def aT(s:Stmt):List Stmt:=match s with
 |.FunctionDef _ _ b _ _ _ _ _ _ _=>b
 |_=>[]
def ai(s:Stmt):Scope:=match s with
 |.FunctionDef _ _ _ _ _ _ sc _ _ _=>sc
 |_=>{ kind:=.function,names:=[],isGenerator:=false,isCoroutine:=false }
abbrev CX0:CXT:=fun _ _ _ _ _ _=>False
abbrev E0:XK:=fun _ _ _=>False
theorem iU{X:Cx}:cw CX0 X E0:=fun _ _ _ _ _ _ _ h=>h.elim
structure Fun(K:PySem.W.Frag)(x qual:Str)(st:Stmt)(f:Addr)(fd:FuncData):Prop where
 ex:∃(oc:Value) (od:Option Addr) (kV doc pm:Value) (an:Option Addr) (cdv ct:Value) (osl:Array (Option Value)),
  fd=PySem.W.fnOf x qual (bE st) (aT st) (ai st) .none kV doc pm an cdv ct/\K.lookup f=some ⟨oc,od,.func fd,osl⟩/\PySem.W.codeIn K cdv qual=true
 kp:PySem.W.keepIn K (.ref f)=true
section
variable{P:Program}{w:World}{K:PySem.W.Frag}{mg:Str->Option Value}{base:Heap}
theorem Fun.ok{x qual:Str}{st:Stmt}{f:Addr}{fd:FuncData}{N ps:List Str}{k:Nat}{sp:Sp}(F:Fun K x qual st f fd)(S:FnScope N ps (ai st))(len:∀ vs H Q E,sp vs H Q E->vs.length=ps.length)(hbody:∀ (cdv:Value) (A:Around) (outer:List Env) (s:Shared) (H:Hp) (vs:List V) (Q:VK) (E:XK),Room k (A.deeper (envOfC qual (ai st) s.heap.objs.size f cdv))->sp vs H Q E ->
   ∃ t,PSs (cJ CX0 P w K mg base N qual (ai st) f cdv A outer s H E).nox (aT st) t/\t { nx:=fun _ H'=>Q .non H',rt:=Q } (start N vs) H):FnOk P w K mg base CX0 (k+1) f fd ps sp:=by
 obtain⟨oc,od,kV,doc,pm,an,cdv,ct,osl,rfl,lk,hcd⟩:=F.ex;refine rC lk hcd S len fun A outer s H vs Q E hr hsp=>?_;obtain⟨t,h,q⟩:=hbody cdv A outer s H vs Q E hr hsp;exact⟨t,h.nox,q⟩
theorem Fun.binds{x qual:Str}{st:Stmt}{f:Addr}{fd:FuncData}{ps:List Str}(F:Fun K x qual st f fd)(h:∀(kV doc pm:Value) (an:Option Addr) (cdv ct:Value) (us:List Value),us.length=ps.length->bindArgs (PySem.W.fnOf x qual (bE st) (aT st) (ai st) .none kV doc pm an cdv ct) ⟨us,[]⟩=pure (ps.zip us)):Binds K fd ps []:=by obtain⟨oc,od,kV,doc,pm,an,cdv,ct,osl,rfl,lk,hcd⟩:=F.ex;exact .all (h kV doc pm an cdv ct)
theorem sW{x qual:Str}{st:Stmt}{f:Addr}{oc:Value}{od an:Option Addr}{osl:Array (Option Value)}{kV doc pm cdv ct:Value}(l:K.lookup f=some ⟨oc,od,.func (PySem.W.fnOf x qual (bE st) (aT st) (ai st) .none kV doc pm an cdv ct),osl⟩)(c:PySem.W.codeIn K cdv qual=true)(k:PySem.W.keepIn K (.ref f)=true):Fun K x qual st f (PySem.W.fnOf x qual (bE st) (aT st) (ai st) .none kV doc pm an cdv ct):=⟨⟨oc,od,kV,doc,pm,an,cdv,ct,osl,rfl,l,c⟩,k⟩
end
theorem cE{n:Nat}(h:n<=1000):n<sizeLine:=Nat.lt_of_le_of_lt h (by decide)
theorem aF{A B:Prop}(h:B):if false=true then A else B:=by rw[if_neg Zj];exact h
theorem ce{A B:Prop}(h:A):if true=true then A else B:=by rw[if_pos rfl];exact h
theorem cX{c A B:Prop}[Decidable c](hc:c)(h:B):if(!decide c)=true then A else B:=by rw[decide_eq_true hc];exact aF h
def Same(H H':Hp):Prop:=∀b o,H b=some o->H' b=some o
theorem Same.refl(H:Hp):Same H H:=fun _ _ h=>h
theorem Same.trans{H H1 H2:Hp}(a:Same H H1)(b:Same H1 H2):Same H H2:=fun c o h=>b c o (a c o h)
theorem Same.free{H H':Hp}(e:Same H H'){l:Addr}(h:H' l=Option.none):H l=Option.none:=by
 cases q:H l with
 |none=>rfl
 |some o =>rw[e l o q]at h;cases h
theorem Same.seq{K:PySem.W.Frag}{H H':Hp}{a:Addr}{xs:List V}(e:Same H H')(h:SqL K H a xs):SqL K H' a xs:=by
 rcases h with(h|⟨o,h⟩)|h
 ·exact .inl (.inl (e _ _ h))
 ·exact .inl (.inr ⟨o,e _ _ h⟩)
 ·exact .inr h
open PySem PySem.Spec PyProof.Rows
section
variable{κ:Type}[DecidableEq κ]
theorem wV{kvs:List (κ×V)}{k:κ}(h:bo kvs k=none):¬k∈kvs.map (·.1):=by intro m;obtain⟨p,hp,e⟩:=ZP.mp m;have q:(kvs.any fun kv=>decide (kv.1=k))=true:=List.any_eq_true.mpr ⟨p,hp,decide_eq_true e⟩;rw[dF,h]at q;exact absurd q (by simp)
theorem zD{kvs:List (κ×V)}{k:κ}{v:V}(h:bo kvs k=some v):k∈kvs.map (·.1):=by
 have q:(kvs.any fun kv=>decide (kv.1=k))=true:=by
  rw[dF,h]
  all_goals rfl
 obtain⟨p,hp,e⟩:=List.any_eq_true.mp q;exact ZP.mpr ⟨p,hp,y0 e⟩
end
open PySem PySem.Spec PyProof.Rows
theorem fU{env:Env}:∀{names:List (Str×NameKind)} {x:Str} {k:NameKind},
  (names.map fun(n,k)=>if(k==NameKind.free&&env.scope.kind == .function&&env.kindOf n==some .cell)then(n,NameKind.cell)else(n,k)).lookup x=some k ->
  ∃k',names.lookup x=some k'/\(k=k'\/(k'=.free/\k=.cell))
 | [],_,_,h=>by simp at h
 |(n,k0)::r,x,k,h=>by
  have ih:=@fU env r x k;rw[Zz]at h;by_cases hc:(k0==NameKind.free&&env.scope.kind == .function&&env.kindOf n==some .cell)=true
  ·have e:(if(k0==NameKind.free&&env.scope.kind == .function&&env.kindOf n==some .cell)=true then(n,NameKind.cell)else(n,k0))=(n,NameKind.cell):=if_pos hc;simp only[e]at h;cases hx:x==n with
   |true =>
    simp only[ZI,hx]at h ⊢;have hf:k0=.free:=by have:=hc;simp only[ZB,ZS]at this;exact this.1.1
    exact⟨k0,rfl,.inr ⟨hf,(Zs h).symm⟩⟩
   |false =>simp only[ZI,hx]at h ⊢;exact ih h
  ·have e:(if(k0==NameKind.free&&env.scope.kind == .function&&env.kindOf n==some .cell)=true then(n,NameKind.cell)else(n,k0))=(n,k0):=if_neg hc;simp only[e]at h;cases hx:x==n with
   |true =>simp only[ZI,hx]at h ⊢;exact⟨k0,rfl,.inl (Zs h).symm⟩
   |false =>simp only[ZI,hx]at h ⊢;exact ih h
theorem iA{env:Env}:∀{names:List (Str×NameKind)} {x:Str},names.lookup x=some .free ->
  (names.map fun(n,k)=>if(k==NameKind.free&&env.scope.kind == .function&&env.kindOf n==some .cell)then(n,NameKind.cell)else(n,k)).lookup x=some .cell \/
  (names.map fun(n,k)=>if(k==NameKind.free&&env.scope.kind == .function&&env.kindOf n==some .cell)then(n,NameKind.cell)else(n,k)).lookup x=some .free
 | [],_,h=>by simp at h
 |(n,k0)::r,x,h=>by
  have ih:=@iA env r x;rw[Zz];by_cases hc:(k0==NameKind.free&&env.scope.kind == .function&&env.kindOf n==some .cell)=true
  ·have e:(if(k0==NameKind.free&&env.scope.kind == .function&&env.kindOf n==some .cell)=true then(n,NameKind.cell)else(n,k0))=(n,NameKind.cell):=if_pos hc;simp only[e];cases hx:x==n with
   |true =>
    simp only[ZI,hx]at h ⊢
    first|exact .inl rfl|exact .inl trivial
   |false =>simp only[ZI,hx]at h ⊢;exact ih h
  ·have e:(if(k0==NameKind.free&&env.scope.kind == .function&&env.kindOf n==some .cell)=true then(n,NameKind.cell)else(n,k0))=(n,k0):=if_neg hc;simp only[e];cases hx:x==n with
   |true =>simp only[ZI,hx]at h ⊢;exact .inr h
   |false =>simp only[ZI,hx]at h ⊢;exact ih h
def bp(env:Env):List (Str×NameKind)->List (Str×Addr)->List (Str×Addr)
 | [],acc=>acc
 |y::r,acc=>if(y.2==NameKind.free)=true then bp env r ((y.1,(env.cells.lookup y.1).getD 0)::acc)else bp env r acc
theorem kX{env:Env}:∀{names:List (Str×NameKind)} {acc:List (Str×Addr)},(∀y∈names,y.2=.free->∃c,env.cells.lookup y.1=some c) ->
  (forIn names acc fun(x:Str×NameKind) (cs:List (Str×Addr))=>if(x.2==NameKind.free)=true then do let c ←cellOf env x.1;pure (ForInStep.yield ((x.1,c)::cs))else pure (ForInStep.yield cs):Sem (List (Str×Addr)))=pure (bp env names acc)
 | [],_,_=>rfl
 |y::r,acc,h=>by
  rw[List.forIn_cons];by_cases hy:(y.2==NameKind.free)=true
  ·obtain⟨c,hc⟩:=h y Zr (by simpa using hy);have e:cellOf env y.1=pure c:=by unfold cellOf;rw[hc]
   rw[if_pos hy,e,pure_bind,pure_bind];show(forIn r ((y.1,c)::acc) _:Sem (List (Str×Addr)))=_;rw[kX fun z hz=>h z (Zh _ hz)];show _=pure (if(y.2==NameKind.free)=true then bp env r ((y.1,(env.cells.lookup y.1).getD 0)::acc)else bp env r acc);rw[if_pos hy,hc];rfl
  ·rw[if_neg hy,pure_bind];show(forIn r acc _:Sem (List (Str×Addr)))=_;rw[kX fun z hz=>h z (Zh _ hz)];show _=pure (if(y.2==NameKind.free)=true then bp env r ((y.1,(env.cells.lookup y.1).getD 0)::acc)else bp env r acc);rw[if_neg hy]
theorem yc{scope:Scope}{env:Env}(h:∀y∈scope.names,y.2=.free->∃c,env.cells.lookup y.1=some c):closureFor scope env=pure (bp env scope.names []):=by have q:=kX (env:=env) (names:=scope.names) (acc:=[]) h;unfold closureFor;exact(by first|(simp only[bind_pure];exact q)|(rw[bind_pure];exact q)|exact q)
theorem kY{env:Env}:∀{names:List (Str×NameKind)} {acc:List (Str×Addr)},(∀y∈names,y.2=.free->∃c,env.cells.lookup y.1=some c)->(∀x c,acc.lookup x=some c->env.cells.lookup x=some c) ->
  ∀x c,(bp env names acc).lookup x=some c->env.cells.lookup x=some c
 | [],_,_,ha=>ha
 |y::r,acc,h,ha=>by
  have hr:∀z∈r,z.2=.free->∃c,env.cells.lookup z.1=some c:=fun z hz=>h z (Zh _ hz);intro x c e;unfold bp at e;by_cases hy:(y.2==NameKind.free)=true
  ·rw[if_pos hy]at e;refine kY hr (fun x' c' e'=>?_) x c e;obtain⟨d,hd⟩:=h y Zr (by simpa using hy);rw[hd,Option.getD_some]at e';cases hx:x'==y.1 with
   |true =>simp only[ZI,hx]at e';have e1:x'=y.1:=eq_of_beq hx;rw[e1,hd];exact e'
   |false =>simp only[ZI,hx]at e';exact ha x' c' e'
  ·rw[if_neg hy]at e;exact kY hr ha x c e
theorem jt{env:Env}:∀{names:List (Str×NameKind)} {acc:List (Str×Addr)} {x:Str},(∃c,acc.lookup x=some c)->∃c,(bp env names acc).lookup x=some c
 | [],_,_,h=>h
 |y::r,acc,x,h=>by
  unfold bp;by_cases hy:(y.2==NameKind.free)=true
  ·rw[if_pos hy];refine jt ?_;cases hx:x==y.1 with
   |true=>exact⟨(env.cells.lookup y.1).getD 0,by simp only[ZI,hx]⟩
   |false =>obtain⟨c,e⟩:=h;exact⟨c,by simp only[ZI,hx];exact e⟩
  ·rw[if_neg hy];exact jt h
theorem kW{env:Env}:∀{names:List (Str×NameKind)} {acc:List (Str×Addr)} {x:Str},names.lookup x=some .free->∃c,(bp env names acc).lookup x=some c
 | [],_,_,h=>by simp at h
 |(n,k)::r,acc,x,h=>by
  unfold bp;cases hx:x==n with
  |true =>
   simp only[ZI,hx]at h;have hy:(k==NameKind.free)=true:=by rw[Zs h];rfl
   rw[if_pos hy];exact jt ⟨(env.cells.lookup n).getD 0,by simp only[ZI,hx]⟩
  |false =>
   simp only[ZI,hx]at h;by_cases hy:(k==NameKind.free)=true
   ·rw[if_pos hy];exact kW h
   ·rw[if_neg hy];exact kW h
abbrev aE(X:Cx)(scope:Scope)(N':List Str)(C:Addr)(s0:Shared)(H0:Hp)(ex:List Addr):Cx where
 prog:=X.prog
 w:=X.w
 K:=X.K
 mg:=X.mg
 base:=X.base
 A:=X.A
 N:=N'
 s₀:=s0
 H₀:=H0
 env:=compEnvC scope (bp X.env scope.names []) C X.env
 outer:=X.stack
 stack:=X.stack
 ex:=ex
 fn:=fun _=>false
 calm:=X.calm
 pn:=[]
 xe:=fun _ _=>False
def CapOk(X:Cx)(sc:Scope):List Nat->List Str->Prop
 | [],[]=>True
 |j::js,x::xs=>X.N[j]?=some x/\sc.names.lookup x=some .free/\CapOk X sc js xs
 |_,_=>False
theorem CapOk.get{X:Cx}{sc:Scope}:∀{js:List Nat} {xs:List Str} {i:Nat} {x:Str},CapOk X sc js xs->xs[i]?=some x ->
  ∃j,js[i]?=some j/\X.N[j]?=some x/\sc.names.lookup x=some .free
 | [],[],_,_,_,e=>by simp at e
 |j::js,y::xs,0,x,h,e=>by
  obtain⟨h1,h2,_⟩:=h;have e':y=x:=by simpa using e
  subst e';exact⟨j,rfl,h1,h2⟩
 |j::js,y::xs,i+1,x,h,e=>by obtain⟨_,_,h6⟩:=h;obtain⟨j',q⟩:=CapOk.get (i:=i) (x:=x) h6 (by simpa using e);exact⟨j',by simpa using q.1,q.2⟩
 | [],_::_,_,_,h,_=>h.elim
 |_::_,[],_,_,h,_=>h.elim
theorem CapOk.len{X:Cx}{sc:Scope}:∀{js:List Nat} {xs:List Str},CapOk X sc js xs->js.length=xs.length
 | [],[],_=>rfl
 |j::js,y::xs,h=>by obtain⟨_,_,h6⟩:=h;simp[CapOk.len h6]
 | [],_::_,h=>h.elim
 |_::_,[],h=>h.elim
structure CompOk(X:Cx)(scope:Scope)(cap:List Nat)(capN:List Str):Prop where
 kind:scope.kind=.function
 names:∀x∈scope.names,x.2=.local->scope.names.lookup x.1=some .local
 nocell:∀y∈scope.names,y.2≠.cell
 frees:(scope.names.all fun y=>!(y.2==NameKind.free) ||(X.env.kindOf y.1==some .cell ||X.env.kindOf y.1==some .free))=true
 cap:CapOk X scope cap capN
section
variable{X:Cx}{scope:Scope}{cap:List Nat}{capN:List Str}
theorem CompOk.around(O:CompOk X scope cap capN){y:Str×NameKind}(hy:y∈scope.names)(hf:y.2=.free):X.env.kindOf y.1=some .cell\/X.env.kindOf y.1=some .free:=by have q:=YA.mp O.frees y hy;rw[hf]at q;simpa using q
theorem CompOk.cells(O:CompOk X scope cap capN)(ok:X.Ok):∀y∈scope.names,y.2=.free->∃c,X.env.cells.lookup y.1=some c:=fun y hy hf=>ok.has _ (O.around hy hf)
theorem CompOk.clos(O:CompOk X scope cap capN)(ok:X.Ok):closureFor scope X.env=pure (bp X.env scope.names []):=yc (O.cells ok)
theorem CompOk.sub(O:CompOk X scope cap capN)(ok:X.Ok):∀x c,(bp X.env scope.names []).lookup x=some c->X.env.cells.lookup x=some c:=kY (O.cells ok) fun x c e=>by simp at e
theorem CompOk.has(_O:CompOk X scope cap capN){x:Str}(h:scope.names.lookup x=some .free):∃c,(bp X.env scope.names []).lookup x=some c:=kW h
end
def bT(n:Nat)(cap:List Nat)(σ:St):St:=List.replicate n none++cap.map (fun j=>(σ[j]?).join)
theorem rn{n:Nat}{cap:List Nat}{σ:St}:(bT n cap σ).length=n+cap.length:=by unfold bT;rw[Zn,List.length_replicate,Zi]
theorem jO{n:Nat}{cap:List Nat}{σ:St}{i:Nat}{v:V}(h:(bT n cap σ)[i]?=some (some v)):n<=i/\∃j,cap[i-n]?=some j/\σ[j]?=some (some v):=by
 unfold bT at h;by_cases hi:i<n
 ·rw[Yn (by simpa using hi),List.getElem?_replicate]at h;rw[if_pos hi]at h;cases h
 ·have hi':n<=i:=Nat.le_of_not_lt hi;rw[ZV (by simpa using hi'),List.length_replicate,ZG]at h;refine⟨hi',?_⟩;cases e:cap[i-n]? with
  |none=>rw[e]at h;cases h
  |some j =>
   rw[e]at h;refine⟨j,rfl,?_⟩;have h':(σ[j]?).join=some v:=by simpa using h
   cases q:σ[j]? with
   |none=>rw[q]at h';cases h'
   |some o =>rw[q]at h';have:o=some v:=h';rw[this]
section
variable{X:Cx}{pins:List (Addr×Obj)}{σ:St}{H:Hp}{s:Shared}{scope:Scope}{cap:List Nat}{capN N':List Str}{C:Addr}{ex:List Addr}
theorem sI(I:Inv X pins σ H s)(O:CompOk X scope cap capN)(hC:s.heap.objs.size<=C)(hex:∀b∈ex,aY X pins H b/\b<s.heap.objs.size):(aE X scope N' C s H ex).Ok where
 mod:=I.ok.mod
 kind:=O.kind
 glob:=I.ok.glob
 blt:=I.ok.blt
 above:=hC
 inj:=fun x y c h1 h2=>I.ok.inj x y c (O.sub I.ok x c h1) (O.sub I.ok y c h2)
 has:=fun x hx=>by
  have hx':(relabel scope X.env).names.lookup x=some .cell\/(relabel scope X.env).names.lookup x=some .free:=hx;have key:∀k,(relabel scope X.env).names.lookup x=some k->(k=.cell\/k=.free)->scope.names.lookup x=some .free:=fun k e hk=>by
   obtain⟨k',e',q⟩:=fU (env:=X.env) e;rcases q with q|⟨q,_⟩
   ·subst q;rcases hk with z|z
    ·subst z;exact absurd rfl (O.nocell _ (y9 e'))
    ·subst z;exact e'
   ·subst q;exact e'
  rcases hx' with e|e
  ·exact O.has (key _ e (.inl rfl))
  ·exact O.has (key _ e (.inr rfl))
 cab:=fun x c h _=>by cases h
 hd:=I.ok.hd
 frames:=I.ok.frames
 stk:=.inl rfl
 exf:=fun b hb=>by obtain⟨⟨f0,f1,f2,f3,f4,f5⟩,lt⟩:=hex b hb;exact⟨Zv (Zw lt hC),fun x c e=>f4 x c (O.sub I.ok x c e)⟩
 bs:=I.bs
 bsz:=Zx I.ok.bsz I.sz
 noex:=fun b o e hb=>by
  obtain⟨⟨f0,f1,f2,f3,f4,f5⟩,lt⟩:=hex b hb;rcases f3 with z|z
  ·exact I.ok.noex b o e z
  ·exact absurd (Zw (Zm e) (Zx I.ok.bsz z)) (Yq _)
 exfs:=fun b hb z=>by
  obtain⟨⟨f0,f1,f2,f3,f4,f5⟩,lt⟩:=hex b hb;rcases Zq.mp (I.stkSub b z)with e|e
  ·exact f1 e
  ·exact f2 e
 funs:=I.stack
 frf:=I.stkFree
theorem tR(I:Inv X pins σ H s){b:Addr}(hb:s.heap.objs.size<=b):b∉frs X.stack:=fun z=>by
 rcases Zq.mp (I.stkSub b z)with e|e
 ·exact absurd (Zw I.lt hb) (by rw[e];exact Yq _)
 ·exact I.nofs hb e
theorem vR(I:Inv X pins σ H s){b:Addr}(hb:s.heap.objs.size<=b):∀x c,X.env.cells.lookup x=some c->c≠b:=fun x c e z=>by obtain⟨v,q⟩:=I.cell x c e;exact absurd (Zw q.lt (by rw[z];exact hb)) (Yq _)
theorem ro{n:Nat}{h1:Heap}{m1:Str->Option Value}{tk:Nat}(I:Inv X pins σ H s)(O:CompOk X scope cap capN)(hN:N'.length=n+capN.length)(hN2:∀i x,n<=i->N'[i]?=some x->capN[i-n]?=some x)(hC:s.heap.objs.size<=C)(hex:∀b∈ex,aY X pins H b/\b<s.heap.objs.size)(hk:∀b o,s.heap.get? b=some o->h1.get? b=some o)(hn:h1.Ns C m1):Inv (aE X scope N' C s H ex) [] (bT n cap σ) H { s with heap:=h1,toks:=tk }:=by
 refine⟨sI I O hC hex,rfl,I.bare,Un.kept hk,⟨m1,hn,fun i x v e1 e2 e3=>?_⟩,fun x c e=>?_,I.hok.fresh hC,fun x c e=>I.freeC x c (O.sub I.ok x c e),fun p hp=>absurd (show p∈([]:List (Addr×Obj))from hp) (by simp),I.hok.kept hk,?_⟩
 ·obtain⟨hi,j,ej,es⟩:=jO e2;obtain⟨j',q1,q2,qf⟩:=O.cap.get (hN2 i x hi e1);have q3:=O.around (y9 qf) rfl;have q4:=iA (env:=X.env) qf;obtain⟨c,q5⟩:=O.has qf;have q6:=O.sub I.ok x c q5;rw[q1]at ej;cases ej;obtain⟨m0,hn0,hl0⟩:=I.loc;obtain⟨u,r,l⟩:=hl0 _ x v q2 es (by
   rcases q3 with z|z
   ·exact .inr (.inl z)
   ·exact .inr (.inr z))
  refine⟨u,r,.inr ⟨q4,c,q5,?_⟩⟩;rcases l with⟨k,_⟩|⟨_,c',e',z⟩
  ·rcases q3 with z|z
   ·have z':X.env.kindOf x=some .cell:=z;rw[z']at k;cases k
   ·have z':X.env.kindOf x=some .free:=z;rw[z']at k;cases k
  ·rw[q6]at e';cases e';obtain⟨o,ho,hd⟩:=z;exact⟨o,hk _ _ ho,hd⟩
 ·obtain⟨v,o,ho,hd⟩:=I.cell x c (O.sub I.ok x c e);exact⟨v,o,hk _ _ ho,hd⟩
 ·rw[rn,O.cap.len];exact hN.symm
end
def kQ(X:Cx)(ifs:List Expr)(t:TT):Prop :=
 ∀(pins:List (Addr×Obj)) (s:Shared) (σ:St) (H:Hp) (Q:Bool->Hp->Prop),Inv X pins σ H s->t σ H Q ->
  wpAny (model X.prog X.w) X.A (forIn ifs true fun c r=>if r=true then do let ok ←isTrue c X.env (eval c X.env);pure (ForInStep.yield ok)else pure (ForInStep.yield r)) (TP X pins σ Q) X.xe s
def kM:TT:=fun _ H Q=>Q true H
theorem wf{X:Cx}:kQ X [] kM:=fun _ _ _ H _ I h=>wpAny_tests_nil ⟨H,I,h⟩
theorem wg{X:Cx}{c:Expr}{t:TT}(h:PT X c t):kQ X [c] t:=fun pins s σ H Q I hw=>wpAny_tests_one (h pins s σ H Q I hw)
def GK(n:Nat)(g:TG):Prop:=∀x σ H Q,g x σ H Q->g x σ H (fun σ2 H2=>(σ2.length=σ.length/\∀i,n<=i->σ2[i]?=σ[i]?)/\Q σ2 H2)
theorem iL{n i:Nat}(hi:i<n):GK n (bN i):=fun x σ H Q h=>⟨⟨List.length_set,fun j hj=>List.getElem?_set_ne (by omega)⟩,h⟩
def iE(n:Nat)(cap:List Nat)(g:TG)(tc:TT)(te:TE)(σ:St)(J:It)(H1:Hp)(Q:VK):Prop :=
 ∃W:Nat->Nat->List V->Hp->Prop,(∃m,W 0 m [] H1)/\∀i m ys H,W i m ys H ->
  (J.stop i H/\∀p,H p=none->Q (.ref p) (upd H p (.lst ys))) \/
  (J.go i H/\ys.length<sizeLine/\∀ x H',J.yld i H x H'->g x (bT n cap σ) H' fun σ2 H2=>tc σ2 H2 fun b H3 =>
   if b=true then te σ2 H3 fun y H4=>∃ m',m'<m/\W (i+1) m' (ys++[y]) H4 else ∃ m',m'<m/\W (i+1) m' ys H3)
def nj(n:Nat)(cap:List Nat)(wi:TI)(g:TG)(tc:TT)(te:TE):TE:=fun σ H Q=>wi σ H fun J H1=>iE n cap g tc te σ J H1 Q
theorem gh{prog:Program}{w:World}{A:Around}{R:Result->Shared->Prop}{s:Shared}{elt target iter:Expr}{ifs:List Expr}{scope:Scope}{pos:Pos}{it acc:Value}{env:Env}(I:Nat->Shared->Prop)(turn:∀ n s,I n s->wpAny (model prog w) A (pyNext it) (fun r s₁=>match r with
   |none=>R (.ok .next) s₁
   | some v=>wpAny (model prog w) A (letOwnedTupleGo target it v) (fun _ s₁'=>wpAny (model prog w) A (assign target env v) (fun _ s₂ =>
     wpAny (model prog w) A (forIn ifs true fun c r=>if r=true then do let ok ←isTrue c env (eval c env);pure (ForInStep.yield ok) else pure (ForInStep.yield r)) (fun ok s₃ =>
      if ok=true then wpAny (model prog w) A (eval elt env) (fun x s₄ =>
       wpAny (model prog w) A (call (.builtin "list.append") [acc,x]) (fun _ s₅=>∃ m,m<n/\I m s₅) (fun _ _=>False) s₄) (fun _ _=>False) s₃
      else ∃ m,m<n/\I m s₃) (fun _ _=>False) s₂) (fun _ _=>False) s₁') (fun _ _=>False) s₁) (fun _ _=>False) s)(n:Nat)(h:I n s) :
  codeAny (model prog w) A (.compLoop (.ListComp elt [⟨target,iter,ifs,0⟩] scope pos) 0 it acc env) R s:=by
 refine codeAny_loop rfl I (fun n s hI=>?_) n h;show wpAny _ A ((compTurn (.ListComp elt [⟨target,iter,ifs,0⟩] scope pos) 0 it acc env).onRaise (fun x=>do noteFrame x env;theTreesLotGoes x)) _ _ s;refine wpAny_noted (wpAny_noRaise ?_);rw[compTurn_list];refine z6 (wpAny_standAt (z6 (ZQ (turn n s hI) (fun r s₁ h₁=>?_) fun _ _ h'=>h')));cases r with
 |none=>exact z9 h₁
 |some v =>
  refine z6 (ZQ h₁ (fun _ s₁' h₁'=>?_) fun _ _ h'=>h');refine z6 (ZQ h₁' (fun _ s₂ h₂=>z6 (ZQ h₂ (fun ok s₃ h₃=>?_) fun _ _ h'=>h')) fun _ _ h'=>h');cases ok with
  |false=>exact z9 ⟨rfl,h₃⟩
  |true =>exact z6 (z6 (ZQ h₃ (fun x s₄ h₄=>z6 (ZQ h₄ (fun _ s₅ h₅=>z9 (z9 ⟨rfl,h₅⟩)) fun _ _ h'=>h')) fun _ _ h'=>h'))
theorem yI{own capN:List Str}:∀(i:Nat) (x:Str),own.length<=i->(own++capN)[i]?=some x->capN[i-own.length]?=some x:=fun i x hi e=>by rw[ZV hi]at e;exact e
section
variable{X:Cx}{pins:List (Addr×Obj)}{σ:St}{H2:Hp}{s2:Shared}{scope:Scope}{cap:List Nat}{capN own:List Str}
variable{elt tg iter:Expr}{ifs:List Expr}{pos:Pos}{g:TG}{tc:TT}{te:TE}{Q:VK}
abbrev dO(its:List Value)(nn:Nat):Obj:={ cls:=.type "list",data:=.seq its.toArray nn }
theorem lW{J:It}{fp:List Addr}{it:Addr}{tn:Nat->Heap->Prop}{E:Value->Shared->Prop}{RR:Value->Addr->Result->Shared->Prop}(O:CompOk X scope cap capN)(hc:X.calm=true)(hg:∀C s0 H0 ex,PG (aE X scope (own++capN) C s0 H0 ex) tg g)(gk:GK own.length g)(ht:∀C s0 H0 ex,kQ (aE X scope (own++capN) C s0 H0 ex) ifs tc)(he:∀C s0 H0 ex,PE (aE X scope (own++capN) C s0 H0 ex) elt te)(I2:Inv X pins σ H2 s2)(T:Turn X.prog X.w X.K tg J fp it tn)(st2:tn 0 s2.heap)(f2:∀b∈fp,aY X pins H2 b)(hq:iE own.length cap g tc te σ J H2 Q)(fin:∀(D C:Addr) (s4:Shared) (H4:Hp) (ys:List V),Inv X pins σ (upd H4 D (.lst ys)) s4->(∃m,s4.heap.Ns C m)->aY X pins (upd H4 D (.lst ys)) C->Q (.ref D) (upd H4 D (.lst ys))->RR (.ref D) C (.ok .next) s4) :
  wpAny (model X.prog X.w) X.A (newList []) (fun acc s₃=>wpAny (model X.prog X.w) X.A (newFunctionEnv scope X.env.globals (bp X.env scope.names []) [] X.env.qual none .none (some X.env)) (fun cenv s₄ =>
   codeAny (model X.prog X.w) X.A (.compStart (.ListComp elt [⟨tg,iter,ifs,0⟩] scope pos) 0 (.ref it) acc { cenv with scope:=relabel scope X.env }) (RR acc cenv.locals) s₄) E s₃) E s2:=by
 obtain⟨W,⟨m0,w0⟩,turn⟩:=hq;refine Z9 (wpAny_newFunctionEnv O.nocell (by intro y hy;simp at hy) (fun h₁ hns₁ hsb₁=>?_) O.kind);dsimp only at hns₁ hsb₁ ⊢;generalize hHp:s2.heap.push { cls:=.type "list",dict:=none,data:=.seq ([]:List Value).toArray }=Hp2 at hns₁ hsb₁ ⊢;have hC:Hp2.objs.size=s2.heap.objs.size+1:=by rw[<-hHp,Heap.size_push]
 have hDC:s2.heap.objs.size≠Hp2.objs.size:=by rw[hC];exact Zv (Yi _)
 have hCle:s2.heap.objs.size<=Hp2.objs.size:=by rw[hC];exact Nat.le_succ _
 have below:∀b,b<s2.heap.objs.size->b≠Hp2.objs.size/\b≠s2.heap.objs.size:=fun b hb=>⟨by rw[hC];exact Zv (Nat.lt_succ_of_lt hb),Zv hb⟩
 have old:∀b o,s2.heap.get? b=some o->h₁.get? b=some o:=fun b o e=>hsb₁.extBut b o (below b (Zm e)).1 (Za _ (hHp▸Za _ e));have hacc:h₁.get? s2.heap.objs.size=some (dO [] 0):=hsb₁.extBut _ _ hDC (Za _ (hHp▸Zo _ rfl));generalize hDe:s2.heap.objs.size=D at *;generalize hCe:Hp2.objs.size=C at *;have hfpl:∀b∈fp,b<s2.heap.objs.size:=fun b hb=>by obtain⟨o,e,_⟩:=T.obj _ _ st2 b hb;exact Zm e
 have hex:∀b∈fp,aY X pins H2 b/\b<s2.heap.objs.size:=fun b hb=>⟨f2 b hb,hfpl b hb⟩
 have hCle':s2.heap.objs.size<=C:=by rw[hDe];exact hCle
 have hDle:s2.heap.objs.size<=D:=by rw[hDe];exact Ze _
 have hDfp:∀b∈fp,D≠b:=fun b hb z=>by have:=hfpl b hb;rw[<-z]at this;exact absurd this (Nat.not_lt.mpr hDle)
 have I0:∀tk,Inv (aE X scope (own++capN) C s2 H2 fp) [] (bT own.length cap σ) H2 { s2 with heap:=h₁,toks:=tk }:=fun tk=>ro I2 O (by simp) yI hCle' hex old hns₁;have Dst:D∉frs X.stack:=tR I2 hDle;have Dcell:∀x c,(aE X scope (own++capN) C s2 H2 fp).env.cells.lookup x=some c->c≠D:=fun x c e=>vR I2 hDle x c (O.sub I2.ok x c e);have pinD:∀{σ':St} {H':Hp} {s':Shared} {its:List Value} {nn:Nat},Inv (aE X scope (own++capN) C s2 H2 fp) [] σ' H' s'->s'.heap.get? D=some (dO its nn)->H' D=none->Inv (aE X scope (own++capN) C s2 H2 fp) [(D,dO its nn)] σ' H' s':=fun{σ' H' s' its nn} I e hn =>
  I.pins_of fun p hp=>by
   have z:p=(D,dO its nn):=by simpa using hp
   subst z;exact⟨e,hn,hDC,Dst,fun v q=>by cases q⟩
 have loop:∀s₃:Shared,s₃={ s2 with heap:=h₁,toks:=s2.toks+([]:List (Str×Value)).length } ->
   codeAny (model X.prog X.w) X.A (.compLoop (.ListComp elt [⟨tg,iter,ifs,0⟩] scope pos) 0 (.ref it) (.ref D) (compEnvC scope (bp X.env scope.names []) C X.env)) (RR (.ref D) C) s₃:=by
  rintro s₃ rfl;refine gh (fun k s'=>∃(i:Nat) (ys:List V) (its:List Value) (nn:Nat) (H':Hp),Inv (aE X scope (own++capN) C s2 H2 fp) [(D,dO its nn)] (bT own.length cap σ) H' s'/\tn i s'.heap/\(∀b∈fp,H' b=none)/\Vals ys its/\ys.length<=sizeLine/\W i k ys H') ?_ m0
   ⟨0,[],[],0,H2,pinD (I0 _) hacc (I2.hok.fresh hDle),T.keep _ _ _ st2 (fun b hb o e=>old b o e),fun b hb=>(f2 b hb).1,.nil,ZO _,w0⟩
  rintro k s3 ⟨i,ys,its,nn,H3,I3,st3,fr3,rv,hz,w3⟩;have oD3:s3.heap.get? D=some (dO its nn):=(I3.pin (D,dO its nn) (by simp)).1;have fpY:∀{H':Hp},(∀b∈fp,H' b=none)->∀b∈fp,aY (aE X scope (own++capN) C s2 H2 fp) [(D,dO its nn)] H' b:=fun{H'} hn b hb=>by
   obtain⟨f0,f1,g2,f3,f4,f5⟩:=f2 b hb;refine⟨hn b hb,Zv (Zw (hfpl b hb) hCle'),fun z=>?_,.inl hb,fun x c e=>f4 x c (O.sub I2.ok x c e),fun p hp=>?_⟩
   ·rcases Zq.mp (I2.stkSub b z)with e|e
    ·exact f1 e
    ·exact g2 e
   ·have z:p=(D,dO its nn):=by simpa[aE]using hp
    subst z;exact hDfp b hb
  rcases turn i k ys H3 w3 with⟨stop,qn⟩|⟨go,hlt,step⟩
  ·refine thn (T.done (aE X scope (own++capN) C s2 H2 fp) rfl rfl rfl hc i _ s3 _ H3 _ I3 (fpY fr3) st3 stop) fun r s4 ⟨hr,I4⟩=>?_;subst hr;obtain⟨oD,nD,_⟩:=I4.pin (D,dO its nn) (by simp);have neD:∀{b:Addr} {u:HO},H3 b=some u->b≠D:=fun{b u} e=>ag e nD;have JX:Inv X pins σ (upd H3 D (.lst ys)) s4:=by
    refine I2.call' (ch:=fp) I4.os ⟨I4.base.keep,I4.base.slot,fun b o e nb hx=>?_,I4.base.there,fun b xs e=>?_,fun b o u e=>?_,fun b ps e=>?_⟩ (fun b u e=>?_) I4.bare (fun b hb=>?_)
    ·rw[ad (by rw[<-hDe];exact Zv (Zm e))];exact I4.base.free b o e nb hx
    ·have q:=I4.base.tups b xs e;rw[ad (neD q)];exact q
    ·have q:=I4.base.frzs b o u e;rw[ad (neD q)];exact q
    ·obtain⟨more,q⟩:=I4.base.tbls b ps e;exact⟨more,by rw[ad (neD q)];exact q⟩
    ·by_cases hb:b=D
     ·subst hb;rw[af]at e;cases e;exact⟨hz,its,nn,rv,oD⟩
     ·rw[ad hb]at e;exact(I4.hok b u e).stay (fun _ _ _ q=>q) (fun c q=>by rw[ad (neD q)];exact q) fun c xs q=>by rw[ad (neD q)];exact q
    ·obtain⟨f0,f1,g2,f3,f4,f5⟩:=f2 b hb;exact⟨f3,f1,f4,f5⟩
   obtain⟨m4,hn4,_⟩:=I4.loc;refine fin D C s4 H3 ys JX ⟨m4,hn4⟩ ?_ (qn D nD);refine I2.fpOk (b:=C) hCle' ?_;rw[ad (ZM hDC)];exact I4.free
  ·refine thn (T.item (aE X scope (own++capN) C s2 H2 fp) rfl rfl rfl hc i _ s3 _ H3 _ I3 (fpY fr3) st3 go) fun r s4 ⟨u,hr,h4⟩=>?_;subst hr;refine thn h4 fun _ s5 hz9=>?_;obtain⟨x,H5,I5,r5,y5,st5,fr5⟩:=hz9;have I5':=I5.pinned (fpY fr5) (T.obj _ _ st5);refine thn (hg C s2 H2 fp _ s5 _ H5 x u _ I5' r5 (gk _ _ _ _ (step x H5 y5))) fun _ s6 hz9=>?_;obtain⟨σ6,H6,I6,⟨l6,k6⟩,q6⟩:=hz9;refine thn (ht C s2 H2 fp _ s6 σ6 H6 _ I6 q6) fun ok s7 ⟨H7,I7,q7⟩=>?_;have wk:∀{H8:Hp} {s8:Shared} {pl:List (Addr×Obj)},Inv (aE X scope (own++capN) C s2 H2 fp) pl σ6 H8 s8->Inv (aE X scope (own++capN) C s2 H2 fp) pl (bT own.length cap σ) H8 s8:=fun I=>I.weak l6.symm fun j v e=>by obtain⟨hj,_⟩:=jO e;rw[k6 j hj];exact e
   have tn8:∀{σ8:St} {H8:Hp} {s8:Shared},Inv (aE X scope (own++capN) C s2 H2 fp) ([(D,dO its nn)]++iu fp s5.heap) σ8 H8 s8->(∀b∈fp,∀o,s5.heap.get? b=some o->s8.heap.get? b=some o)/\∀b∈fp,H8 b=none:=fun{σ8 H8 s8} I=>by refine⟨fun b hb o e=>(I.pin (b,o) (ZH _ (ZH _ (dX hb e)))).1,fun b hb=>?_⟩;obtain⟨o,e,d⟩:=T.obj _ _ st5 b hb;exact(I.pin (b,o) (ZH _ (ZH _ (dX hb e)))).2.1
   cases ok with
   |false =>rw[if_neg Zj]at q7 ⊢;obtain⟨m',hm,w7⟩:=q7;obtain⟨t1,t2⟩:=tn8 I7;exact⟨m',hm,i+1,ys,its,nn,H7,wk I7.unpinned,T.keep _ _ _ st5 t1,t2,rv,hz,w7⟩
   |true =>
    rw[if_pos rfl]at q7 ⊢;refine thn (he C s2 H2 fp _ s7 σ6 H7 _ I7 q7) fun y s8 hz9=>?_;obtain⟨yv,H8,I8,r8,m',hm,w8⟩:=hz9;obtain⟨t1,t2⟩:=tn8 I8;obtain⟨oD,nD,_⟩:=I8.pin (D,dO its nn) (by simp);have hil:=rv.length;refine call_meets F.slot_list_append ⟨_,oD,rfl⟩ F.entry_list_append (F.args_list_append_2 _ _) (PySem.list_append D its.toArray nn y (by rw[Zf];omega)) ⟨oD,?_⟩;have q:=PySem.IsL.update oD (fun x_1=>x_1.push y);have hf:its.toArray.push y=(its++[y]).toArray:=by simp
    rw[hf]at q;have keepO:∀b o,b≠D->s8.heap.get? b=some o->(s8.heap.update D (Obj.mapSeq fun x_1=>x_1.push y)).get? b=some o:=fun b o hb e=>(Yl s8.heap (Obj.mapSeq fun x_1=>x_1.push y) (ZM hb)).trans e;have I9:Inv (aE X scope (own++capN) C s2 H2 fp) [] σ6 H8 { s8 with heap:=s8.heap.update D (Obj.mapSeq fun x_1=>x_1.push y),toks:=s8.toks } :=
     (I8.pins_of (pins':=[]) fun p hp=>absurd hp (by simp)).turned (it:=D) keepO nD hDC (.inr hDle) Dcell (fun p hp=>absurd (show p∈([]:List (Addr×Obj))from hp) (by simp))
    refine⟨m',hm,i+1,ys++[yv],its++[y],_,H8,wk (pinD I9 q nD),T.keep _ _ _ st5 (fun b hb o e=>keepO b o (ZM (hDfp b hb)) (t1 b hb o e)),t2,rv.append (.cons r8 .nil),?_,w8⟩;rw[Zn,YC];omega
 exact codeAny_compStart_list (loop _ rfl) (T.self _ 0 _ _ _ (T.keep _ _ _ st2 (fun b hb o e=>old b o e)) (loop _ rfl))
theorem yO{wi:TI}(O:CompOk X scope cap capN)(hc:X.calm=true)(hi:PI X tg iter wi)(hg:∀C s0 H0 ex,PG (aE X scope (own++capN) C s0 H0 ex) tg g)(gk:GK own.length g)(ht:∀C s0 H0 ex,kQ (aE X scope (own++capN) C s0 H0 ex) ifs tc)(he:∀C s0 H0 ex,PE (aE X scope (own++capN) C s0 H0 ex) elt te)(hs:∀x,foldedSetIterable iter X.env x=pure x:=by intro _;rfl):PE X (.ListComp elt [⟨tg,iter,ifs,0⟩] scope pos) (nj own.length cap wi g tc te):=by intro pins s σ H Q I h;rw[eval_ListComp];refine wpAny_comprehension_free (use:=none) rfl hs (O.clos I.ok) O.kind O.names (thn (hi pins s σ H _ I h) fun v s1 h1=>thn h1 fun itv s2 h2=>?_);obtain⟨it,fp,tn,J,H2,e,I2,T,st2,f2,hq⟩:=h2;subst e;refine lW (RR:=fun acc C=>compPost (model X.prog X.w) X.A X.xe none (EP X pins σ Q) acc C) O hc hg gk ht he I2 T st2 f2 hq fun D C s4 H4 ys J4 hn4 fC q4=>?_;obtain⟨m,hn⟩:=hn4;obtain⟨f0,f1,g2,f3,f4,f5⟩:=fC;exact⟨m,hn,fun h' sb=>⟨.ref D,_,J4.turned (t':=s4.toks) (fun b o hb e=>(sb.2 b hb).trans e) f0 f1 f3 f4 f5,rfl,q4⟩⟩
theorem zd{wi:TI}{j:Nat}{y:Str}{py spos:Pos}(hN0:X.N.Nodup)(hj:X.N[j]?=some y)(hy:Loc X.env.scope y)(O:CompOk X scope cap capN)(hc:X.calm=true)(hi:PI X tg iter wi)(hg:∀C s0 H0 ex,PG (aE X scope (own++capN) C s0 H0 ex) tg g)(gk:GK own.length g)(ht:∀C s0 H0 ex,kQ (aE X scope (own++capN) C s0 H0 ex) ifs tc)(he:∀C s0 H0 ex,PE (aE X scope (own++capN) C s0 H0 ex) elt te)(hsw:swapsWith (.ListComp elt [⟨tg,iter,ifs,0⟩] scope pos) (some (.Name y py)) spos.line X.env=pure true:=by rfl)(hs:∀x,foldedSetIterable iter X.env x=pure x:=by intro _;rfl)(hf:X.fn y=true\/X.env.scope.names.lookup y=some .local:=by first|exact .inl rfl|exact .inr rfl|assumption) :
  PS X (.Assign [.Name y py] (.ListComp elt [⟨tg,iter,ifs,0⟩] scope pos) spos) (lP (nj own.length cap wi g tc te) (bN j)):=by
 intro pins s σ H D0 I h;rw[exec_Assign_Name_used _ _ _ _ hsw];refine z6 (wpAny_standAt (z6 ?_));show wpAny _ X.A (do let _ ←comprehension (.ListComp elt [⟨tg,iter,ifs,0⟩] scope pos) scope X.env _ (newList []) false (eval iter X.env) (some (assign (.Name y py) X.env))) _ _ s;refine z6 (ZQ (wpAny_comprehension_free (use:=some (assign (.Name y py) X.env)) (Q:=fun _ s'=>SP X pins D0 .next s') rfl hs (O.clos I.ok) O.kind O.names (thn (hi pins s σ H _ I h) fun v s1 h1=>thn h1 fun itv s2 h2=>?_)) (fun _ s' hq=>z9 (z9 hq)) fun _ _ e=>e);obtain⟨it,fp,tn,J,H2,e,I2,T,st2,f2,hq⟩:=h2;subst e;refine lW (RR:=fun acc C=>compPost (model X.prog X.w) X.A X.xe (some (assign (.Name y py) X.env)) (fun _ s'=>SP X pins D0 .next s') acc C) O hc hg gk ht he I2 T st2 f2 hq fun D C s4 H4 ys J4 hn4 fC q4=>?_;obtain⟨m,hn⟩:=hn4;obtain⟨f0,f1,g2,f3,f4,f5⟩:=fC;show wpAny _ X.A (assign (.Name y py) X.env (.ref D)) _ _ _;refine wpAny_assign_Name (mC J4 hN0 hj hy (v:=.ref D) rfl (fun s5 I5 ⟨a,sba,ha⟩=>?_) hf);have hCa:C≠a:=by
  rcases ha with z|z
  ·rw[z];exact f1
  ·exact ZM (f4 _ _ z)
 refine⟨m,hn.sameBut sba hCa,fun h' sb=>?_⟩;exact⟨_,_,I5.turned (t':=s5.toks) (fun b o hb e=>(sb.2 b hb).trans e) f0 f1 f3 f4 f5,q4⟩
end
open PySem PySem.Spec PyProof.Rows
structure Fn(P:Program)(w:World)(K:PySem.W.Frag)(mg:Str->Option Value)(base:Heap)(k:Nat)(x:Str)(ps:List Str)(sp:Sp):Prop where
 ex:∃f fd,FnOk P w K mg base CX0 k f fd ps sp/\mg x=some (.ref f)/\PySem.W.keepIn K (.ref f)=true/\Binds K fd ps []
section
variable{X:Cx}{k:Nat}{x:Str}{p pos:Pos}{e:Expr}{es:List Expr}{ps:List Str}{sp:Sp}{t:TA}
theorem Cn(F:Fn X.prog X.w X.K X.mg X.base k x ps sp)(hr:Room k X.A)(ha:PA X (e::es) t)(hg:Gl X x:=by rfl)(hdb:(x==("__debug__":Str))=false:=by decide)(he:starEach (e::es) X.env=(false,eval e X.env)::starEach es X.env:=by rfl)(hpl:(backTo pos (starEach es X.env)).any (·.1)=false:=by rfl) :
  PE X (.Call (.Name x p) (e::es) [] pos) (nh sp [] E0 t):=by
 obtain⟨f,fd,G,m,kp,b⟩:=F.ex;exact yM G hr hg m kp b .nil iU ha hdb he hpl
end
theorem cm:bootBuiltins "isinstance" = some (.builtin "isinstance"):=by decide +kernel
theorem lV:bootBuiltins "bool" = some (.type "bool"):=by decide +kernel
theorem rj:bootBuiltins "tuple" = some (.type "tuple"):=by decide +kernel
theorem fj:bootBuiltins "list" = some (.type "list"):=by decide +kernel
section
variable{X:Cx}
theorem vp:dW X (.builtin "isinstance") (fun xs H Q=>∃x T t b,xs=[x,.ty T]/\TyOf X.K H x t/\PySem.W.kitOne X.K t (.type T)=some b/\Q (.bl b) H):=by intro pins s σ H xs us Q I r h;obtain⟨x,T,t,b,rfl,ty,e,q⟩:=h;obtain⟨u,w',rfl,rx,ry⟩:=hM r;cases(show w'=Value.type T from ry);exact tq I rx ty e fun tk=>⟨.bl b,H,I.tok tk,rfl,q⟩
end
def isB:V->Bool
 |.bl _=>true
 |_=>false
def vH:Option HO->Bool
 |some (.tup _)=>true
 |_=>false
def isT(H:Hp):V->Bool
 |.ref a=>vH (H a)
 |_=>false
theorem fO{H:Hp}{a:Addr}{o:HO}{b:Bool}(e:H a=some o)(h:vH (some o)=b):isT H (.ref a)=b:=by show vH (H a)=b;rw[e];exact h
theorem jw{K:PySem.W.Frag}{t T:String}{b:Bool}(h1:(Value.type t==Value.type T)=b)(h2:b=false->PySem.W.kitMeta T=true/\(PySem.fastBuiltinMro t).map (·.contains (Value.type T))=some false):PySem.W.kitOne K (.type t) (.type T)=some b:=by
 unfold PySem.W.kitOne;rw[h1];cases b with
 |true=>exact if_pos rfl
 |false =>rw[if_neg Zj];obtain⟨m,q⟩:=h2 rfl;show(if PySem.W.kitMeta T=true then PySem.W.subIn K (.type t) (.type T)else none)=_;rw[if_pos m];exact q
theorem aP{K:PySem.W.Frag}{t T:String}{b:Bool}(h1:(Value.type t==Value.type T)=false)(h2:PySem.W.kitMeta T=true)(h3:(PySem.fastBuiltinMro t).map (·.contains (Value.type T))=some b):PySem.W.kitOne K (.type t) (.type T)=some b:=by unfold PySem.W.kitOne;rw[h1,if_neg Zj];show(if PySem.W.kitMeta T=true then PySem.W.subIn K (.type t) (.type T)else none)=_;rw[if_pos h2];exact h3
theorem oy{K:PySem.W.Frag}{H:Hp}{v:V}{n:String}(h:TyOf K H v (.type n)):PySem.W.kitOne K (.type n) (.type "bool")=some (isB v):=by
 cases h with
 |non=>exact aP (b:=false) (by decide +kernel) (by decide +kernel) (by decide +kernel)
 |bl x=>exact jw (b:=true) (by decide +kernel) (fun z=>nomatch z)
 |int i=>exact aP (b:=false) (by decide +kernel) (by decide +kernel) (by decide +kernel)
 |str x=>exact aP (b:=false) (by decide +kernel) (by decide +kernel) (by decide +kernel)
 |flt x=>exact aP (b:=false) (by decide +kernel) (by decide +kernel) (by decide +kernel)
 |lst e=>exact aP (b:=false) (by decide +kernel) (by decide +kernel) (by decide +kernel)
 |frz e=>exact aP (b:=false) (by decide +kernel) (by decide +kernel) (by decide +kernel)
 |tup e=>exact aP (b:=false) (by decide +kernel) (by decide +kernel) (by decide +kernel)
 |dK e=>exact aP (b:=false) (by decide +kernel) (by decide +kernel) (by decide +kernel)
 |dT e=>exact aP (b:=false) (by decide +kernel) (by decide +kernel) (by decide +kernel)
theorem yr{K:PySem.W.Frag}{H:Hp}{v:V}{n:String}(h:TyOf K H v (.type n)):PySem.W.kitOne K (.type n) (.type "tuple")=some (isT H v):=by
 cases h with
 |non=>exact aP (b:=false) (by decide +kernel) (by decide +kernel) (by decide +kernel)
 |bl x=>exact aP (b:=false) (by decide +kernel) (by decide +kernel) (by decide +kernel)
 |int i=>exact aP (b:=false) (by decide +kernel) (by decide +kernel) (by decide +kernel)
 |str x=>exact aP (b:=false) (by decide +kernel) (by decide +kernel) (by decide +kernel)
 |flt x=>exact aP (b:=false) (by decide +kernel) (by decide +kernel) (by decide +kernel)
 |lst e =>rw[fO e (b:=false) rfl];exact aP (b:=false) (by decide +kernel) (by decide +kernel) (by decide +kernel)
 |frz e =>rw[fO e (b:=false) rfl];exact aP (b:=false) (by decide +kernel) (by decide +kernel) (by decide +kernel)
 |tup e =>rw[fO e (b:=true) rfl];exact jw (b:=true) (by decide +kernel) (fun z=>nomatch z)
 |dK e =>rw[fO e (b:=false) rfl];exact aP (b:=false) (by decide +kernel) (by decide +kernel) (by decide +kernel)
 |dT e =>rw[fO e (b:=false) rfl];exact aP (b:=false) (by decide +kernel) (by decide +kernel) (by decide +kernel)
theorem aj{H:Hp}{p:Addr}(h:H p=none)(o:HO):Same H (upd H p o):=fun b u q=>by rw[ad (ag q h)];exact q
theorem bG{n:Nat}(h:n<=1000):n<=sizeLine:=Nat.le_of_lt (cE h)
theorem sz{n:Nat}(h:Nat.ble n 1000=true):n<=sizeLine:=bG (Nat.le_of_ble_eq_true h)
open PySem PySem.Spec PyProof.Rows
def ax:Expr->Bool
 |.Starred _ _=>false
 |_=>true
theorem aw{e:Expr}{es:List Expr}{env:Env}(h:ax e=true):starEach (e::es) env=(false,eval e env)::starEach es env:=by cases e<;>first|rfl|cases h
theorem aZ{env:Env}{pos:Pos}:∀{es:List Expr},es.all ax=true->(backTo pos (starEach es env)).any (·.1)=false
 | [],_=>rfl
 |e::es,h=>by rw[YO,ZB]at h;rw[aw h.1];show(false ||(backTo pos (starEach es env)).any (·.1))=false;rw[Bool.false_or];exact aZ h.2
section
variable{X:Cx}{x:Str}{p pos:Pos}{e:Expr}{es:List Expr}{te:TE}{t:TA}{id T:String}{r:List V->Hp->VK->Prop}{k:Nat}{ps:List Str}{sp:Sp}
theorem pa(ha:PE X e te)(hr:PA X es t)(hs:ax e=true:=by rfl):PA X (e::es) (gZ te t):=yJ ha hr (aw hs)
theorem pB(hc:dW X (.builtin id) r)(hm:X.mg x=none)(hv:bootBuiltins x=some (.builtin id))(ha:PA X (e::es) t)(hg:Gl X x:=by rfl)(hs:(e::es).all ax=true:=by rfl)(hn:x≠"__name__":=by decide)(hdb:(x==("__debug__":Str))=false:=by decide) :
  PE X (.Call (.Name x p) (e::es) [] pos) (tCB r t):=by
 rw[YO,ZB]at hs;exact vW hc hg hm hv ha hn hdb (aw hs.1) (aZ hs.2)
theorem pTy(hc:dW X (.type T) r)(hm:X.mg x=none)(hv:bootBuiltins x=some (.type T))(ha:PA X (e::es) t)(hg:Gl X x:=by rfl)(hs:(e::es).all ax=true:=by rfl)(hn:x≠"__name__":=by decide)(hdb:(x==("__debug__":Str))=false:=by decide) :
  PE X (.Call (.Name x p) (e::es) [] pos) (tCB r t):=by
 rw[YO,ZB]at hs;exact uk hc hg hm hv ha hn hdb (aw hs.1) (aZ hs.2)
theorem pfn(F:Fn X.prog X.w X.K X.mg X.base k x ps sp)(hr:Room k X.A)(ha:PA X (e::es) t)(hg:Gl X x:=by rfl)(hs:(e::es).all ax=true:=by rfl)(hdb:(x==("__debug__":Str))=false:=by decide) :
  PE X (.Call (.Name x p) (e::es) [] pos) (nh sp [] E0 t):=by
 rw[YO,ZB]at hs;exact Cn F hr ha hg hdb (aw hs.1) (aZ hs.2)
end
open PySem PySem.Spec PyProof.Rows
structure QE(X:Cx)(e:Expr)(t:TE):Prop where
 h:PE X e t
structure QT(X:Cx)(e:Expr)(t:TT):Prop where
 h:PT X e t
structure QW(X:Cx)(e:Expr)(t:TT):Prop where
 h:PW X e t
structure QA(X:Cx)(es:List Expr)(t:TA):Prop where
 h:PA X es t
structure QS(X:Cx)(st:Stmt)(t:TS):Prop where
 h:PS X st t
structure QB(X:Cx)(st:List Stmt)(t:TS):Prop where
 h:PSs X st t
structure QG(X:Cx)(tg:Expr)(g:TG):Prop where
 h:PG X tg g
structure QGs(X:Cx)(ts:List Expr)(g:TGs):Prop where
 h:PGs X ts g
structure QI(X:Cx)(tg iter:Expr)(wi:TI):Prop where
 h:PI X tg iter wi
structure QIf(X:Cx)(ifs:List Expr)(t:TT):Prop where
 h:kQ X ifs t
structure QO(X:Cx)(e:Option Expr)(t:TO):Prop where
 h:PO X e t
structure QOp(X:Cx)(f:Value->Value->Sem Value)(r:R2):Prop where
 h:OpR X f r
structure QCall(X:Cx)(f:Value)(r:List V->Hp->VK->Prop):Prop where
 h:dW X f r
structure QIx(X:Cx)(r:R2):Prop where
 h:IxR X r
structure QSl(X:Cx)(r:V->Option Int->Option Int->Hp->VK->Prop):Prop where
 h:SlR X r
structure QSet(X:Cx)(t:zU):Prop where
 h:CO X t
structure QUn(X:Cx)(f:Value->Sem Value)(r:V->Hp->VK->Prop):Prop where
 h:UnR X f r
structure QIp(X:Cx)(op:Operator)(t:TIp):Prop where
 h:PIp X op t
section
variable{X:Cx}{pos p:Pos}{e a b c o:Expr}{es rest:List Expr}{te ta tb tc:TE}{t:TA}{tA tB':TT}{x:Str}
theorem q_v(i:Nat){x:Str}{pos:Pos}(hN:X.N[i]?=some x:=by rfl)(hv:Vis X.env.scope x:=by first|exact Or.inl rfl|exact Or.inr (Or.inl rfl)|exact Or.inr (Or.inr rfl))(hd:(x==("__debug__":Str))=false:=by decide)(hcd:(x==("__classdict__":Str))=false:=by decide):QE X (.Name x pos) (wN i):=⟨A7 hN hv hd hcd⟩
theorem ah{i:Int}{j:Nat}:QE X (.Constant (.int i) j pos) (tC (.int i)):=⟨AZ⟩
theorem cQ{i:Bool}{j:Nat}:QE X (.Constant (.bool i) j pos) (tC (.bl i)):=⟨Cm⟩
theorem br{j:Nat}:QE X (.Constant .none j pos) (tC .non):=⟨A3⟩
theorem bC{i:Str}{j:Nat}:QE X (.Constant (.str i) j pos) (tC (.str i)):=⟨A5⟩
theorem sg{T:String}(hm:X.mg x=none)(hv:bootBuiltins x=some (.type T))(hg:Gl X x:=by rfl)(hn:x≠"__name__":=by decide)(hd:(x==("__debug__":Str))=false:=by decide):QE X (.Name x pos) (tC (.ty T)):=⟨yL hg hm hv rfl hn hd⟩
theorem iw{i:Int}{tk:Tok}(hm:X.mg x=some (.int i tk))(hg:Gl X x:=by rfl)(hd:(x==("__debug__":Str))=false:=by decide):QE X (.Name x pos) (tC (.int i)):=⟨qv hg hm ⟨_,rfl⟩ hd⟩
theorem ay{op:Operator}{r:R2}(ho:QOp X (binaryOp op) r)(ha:QE X a ta)(hb:QE X b tb):QE X (.BinOp a op b pos) (tOp r ta tb):=⟨Cp ho.h ha.h hb.h⟩
theorem CY{op:UnaryOp}{r:V->Hp->VK->Prop}(ho:QUn X (unaryOp op) r)(ha:QE X a ta):QE X (.UnaryOp op a pos) (tUn r ta):=⟨Cq ho.h ha.h⟩
theorem xB{op}(h:QE X a ta):QE X (.BoolOp op [a] pos) ta:=⟨A4 h.h⟩
theorem xz(ha:QE X a ta)(hb:QE X (.BoolOp .And (b::rest) pos) tb):QE X (.BoolOp .And (a::b::rest) pos) (xI ta tb):=⟨AW ha.h hb.h⟩
theorem kC{op:CmpOp}{r:R2}(ho:QOp X (compareOp op) r)(ha:QE X a ta)(hb:QE X b tb)(hm:behindInMarks op b=false:=by first|exact tQ _|with_unfolding_all rfl):QE X (.Compare a [op] [b] pos) (tOp r ta tb):=⟨yN ho.h ha.h hb.h hm⟩
theorem cP(h:QA X es t):QE X (.List es pos) (BO t):=⟨A0 h.h⟩
theorem bO{x1}(h:QA X es t):QE X (.Tuple es x1 pos) (BT t):=⟨A6 h.h⟩
theorem au{r:R2}(hr:QIx X r)(ha:QE X a ta)(hb:QE X b tb)(hs:pO b:=by intro _ _;rfl):QE X (.Subscript a b pos) (tOp r ta tb):=⟨Co hr.h ha.h hb.h hs⟩
theorem dQ{r:V->Option Int->Option Int->Hp->VK->Prop}{lo hi:Option Expr}{tl th:TO}{p2:Pos}(hr:QSl X r)(he:QE X e te)(hl:QO X lo tl)(hu:QO X hi th):QE X (.Subscript e (.Slice lo hi none p2) pos) (tSl r te tl th):=⟨wb hr.h he.h hl.h hu.h⟩
theorem eQ:QO X none qU:=⟨yW⟩
theorem dC(h:QE X e te):QO X (some e) (xN te):=⟨yX h.h⟩
theorem am:QA X [] fL:=⟨oQ⟩
theorem q_a(ha:QE X e te)(hr:QA X es t)(hs:ax e=true:=by rfl):QA X (e::es) (gZ te t):=⟨pa ha.h hr.h hs⟩
theorem q_B{id:String}{r:List V->Hp->VK->Prop}(hc:QCall X (.builtin id) r)(hm:X.mg x=none)(hv:bootBuiltins x=some (.builtin id))(ha:QA X (e::es) t)(hg:Gl X x:=by rfl)(hs:(e::es).all ax=true:=by rfl)(hn:x≠"__name__":=by decide)(hdb:(x==("__debug__":Str))=false:=by decide) :
  QE X (.Call (.Name x p) (e::es) [] pos) (tCB r t):=⟨pB hc.h hm hv ha.h hg hs hn hdb⟩
theorem wx{T:String}{r:List V->Hp->VK->Prop}(hc:QCall X (.type T) r)(hm:X.mg x=none)(hv:bootBuiltins x=some (.type T))(ha:QA X (e::es) t)(hg:Gl X x:=by rfl)(hs:(e::es).all ax=true:=by rfl)(hn:x≠"__name__":=by decide)(hdb:(x==("__debug__":Str))=false:=by decide) :
  QE X (.Call (.Name x p) (e::es) [] pos) (tCB r t):=⟨pTy hc.h hm hv ha.h hg hs hn hdb⟩
theorem gM{k:Nat}{ps:List Str}{sp:Sp}(F:Fn X.prog X.w X.K X.mg X.base k x ps sp)(hr:Room k X.A)(ha:QA X (e::es) t)(hg:Gl X x:=by rfl)(hs:(e::es).all ax=true:=by rfl)(hdb:(x==("__debug__":Str))=false:=by decide) :
  QE X (.Call (.Name x p) (e::es) [] pos) (nh sp [] E0 t):=⟨pfn F hr ha.h hg hs hdb⟩
theorem aq{op:CmpOp}{r:R2}(ho:QOp X (compareOp op) r)(ha:QE X a ta)(hb:QE X b tb)(hm:behindInMarks op b=false:=by first|exact tQ _|with_unfolding_all rfl):QT X (.Compare a [op] [b] pos) (xO (tOp r ta tb)):=⟨zi ho.h ha.h hb.h hm⟩
theorem iY(ha:QT X a tA):QT X (.UnaryOp .Not a pos) (BP tA):=⟨Bk ha.h⟩
theorem dZ(h:QE X e te)(he:∀whole,isTrue e X.env whole=(do let v ←whole;standAt e.pos;holding [v] (truthy v)):=by intro _;rfl):QT X e (tB te):=⟨Bm h.h he⟩
theorem cM(ha:QT X a tA):QW X (.BoolOp .And [a] pos) tA:=⟨zj ha.h⟩
theorem fD(ha:QT X a tA):QW X (.BoolOp .Or [a] pos) tA:=⟨Bo ha.h⟩
theorem dr(ha:QT X a tA)(hb:QW X (.BoolOp .And (b::rest) pos) tB'):QW X (.BoolOp .And (a::b::rest) pos) (BJ tA tB'):=⟨Bn ha.h hb.h⟩
theorem dv(ha:QT X a tA)(hb:QW X (.BoolOp .Or (b::rest) pos) tB'):QW X (.BoolOp .Or (a::b::rest) pos) (tOr tA tB'):=⟨Cs ha.h hb.h⟩
theorem t_w(h:QW X e tA):QT X e tA:=⟨h.h.pt⟩
end
section
variable{X:Cx}{pos:Pos}{tg iter elt:Expr}{ifs:List Expr}{g:TG}{gs:TGs}{tc:TT}{te:TE}{scope:Scope}{cap:List Nat}{capN own:List Str}{wi:TI}
theorem aU{i:Nat}{x:Str}(hN:X.N.Nodup)(hi:X.N[i]?=some x:=by rfl)(hx:Loc X.env.scope x:=by first|exact Or.inl rfl|exact Or.inr rfl)(hf:X.fn x=true\/X.env.scope.names.lookup x=some .local:=by first|exact .inl rfl|exact .inr rfl):QG X (.Name x pos) (bN i):=⟨yR hN hi hx hf⟩
theorem rG:QGs X [] og:=⟨yS⟩
theorem dN{e:Expr}{es:List Expr}(h1:QG X e g)(h2:QGs X es gs)(hs:(assignEach (e::es) X.env).map (·.2)=assign e X.env::(assignEach es X.env).map (·.2):=by rfl):QGs X (e::es) (fw g gs):=⟨wc h1.h h2.h hs⟩
theorem mY{es:List Expr}{k n:Nat}(hc:X.calm=true)(h:QGs X es gs)(hn:(assignEach es X.env).length=n:=by rfl)(hst:(assignEach es X.env).findIdx? (·.1)=none:=by rfl):QG X (.Tuple es k pos) (oh X.K n gs):=⟨A8 hc h.h hn hst⟩
theorem ik{l:Expr}(hl:QE X l te):QI X tg l (xj X.K te):=⟨yU hl.h⟩
theorem An{a b:Expr}{ta:TA}{p:Pos}(hm:X.mg "range" = none)(ha:QA X [a,b] ta)(hg:Gl X "range":=by rfl)(hs:ax a=true:=by rfl)(hs2:ax b=true:=by rfl):QI X tg (.Call (.Name "range" p) [a,b] [] pos) (xl ta) :=
 ⟨ul hg hm ha.h (by rw[aw hs,aw hs2];rfl) (aw hs2)⟩
theorem vG:QIf X [] kM:=⟨wf⟩
theorem CS{c:Expr}{t:TT}(h:QT X c t):QIf X [c] t:=⟨wg h.h⟩
theorem oU(O:CompOk X scope cap capN)(hc:X.calm=true)(hi:QI X tg iter wi)(hg:∀C s0 H0 ex,QG (aE X scope (own++capN) C s0 H0 ex) tg g)(gk:GK own.length g)(ht:∀C s0 H0 ex,QIf (aE X scope (own++capN) C s0 H0 ex) ifs tc)(he:∀C s0 H0 ex,QE (aE X scope (own++capN) C s0 H0 ex) elt te)(hs:∀x,foldedSetIterable iter X.env x=pure x:=by intro _;rfl):QE X (.ListComp elt [⟨tg,iter,ifs,0⟩] scope pos) (nj own.length cap wi g tc te) :=
 ⟨yO O hc hi.h (fun C s0 H0 ex=>(hg C s0 H0 ex).h) gk (fun C s0 H0 ex=>(ht C s0 H0 ex).h) (fun C s0 H0 ex=>(he C s0 H0 ex).h) hs⟩
variable{st:Stmt}{rest:List Stmt}{t u:TS}{e c:Expr}
theorem b_0:QB X [] xM:=⟨ze⟩
theorem b_1(h:QS X st t):QB X [st] t:=⟨zh h.h⟩
theorem b_c(h1:QS X st t)(h2:QB X rest u):QB X (st::rest) (BR t u):=⟨wn h1.h h2.h⟩
theorem aG(h:QE X e te):QS X (.Return (some e) pos) (BQ te):=⟨Bi h.h⟩
theorem bV(h:QE X e te)(hs:swapsWith e none pos.line X.env=pure false:=by rfl):QS X (.Expr e pos) (xK te):=⟨yZ h.h hs⟩
theorem bf{body els:List Stmt}(hc:QT X c tc)(ht:QB X body t)(hu:QB X els u):QS X (.If c body els pos) (BN tc t u):=⟨Cr hc.h ht.h hu.h⟩
theorem aD{i:Nat}{x:Str}{pos':Pos}(hN:X.N.Nodup)(he:QE X e te)(hi:X.N[i]?=some x:=by rfl)(hx:Loc X.env.scope x:=by first|exact Or.inl rfl|exact Or.inr rfl)(hs:swapsWith e (some (.Name x pos')) pos.line X.env=pure false:=by rfl)(hf:X.fn x=true\/X.env.scope.names.lookup x=some .local:=by first|exact .inl rfl|exact .inr rfl):QS X (.Assign [.Name x pos'] e pos) (lP te (bN i)):=⟨Bj hN hi hx he.h hs hf⟩
theorem BD{j:Nat}{y:Str}{py spos:Pos}(hN0:X.N.Nodup)(O:CompOk X scope cap capN)(hc:X.calm=true)(hi:QI X tg iter wi)(hg:∀C s0 H0 ex,QG (aE X scope (own++capN) C s0 H0 ex) tg g)(gk:GK own.length g)(ht:∀C s0 H0 ex,QIf (aE X scope (own++capN) C s0 H0 ex) ifs tc)(he:∀C s0 H0 ex,QE (aE X scope (own++capN) C s0 H0 ex) elt te)(hj:X.N[j]?=some y:=by rfl)(hy:Loc X.env.scope y:=by first|exact Or.inl rfl|exact Or.inr rfl)(hsw:swapsWith (.ListComp elt [⟨tg,iter,ifs,0⟩] scope pos) (some (.Name y py)) spos.line X.env=pure true:=by rfl)(hs:∀x,foldedSetIterable iter X.env x=pure x:=by intro _;rfl)(hf:X.fn y=true\/X.env.scope.names.lookup y=some .local:=by first|exact .inl rfl|exact .inr rfl) :
  QS X (.Assign [.Name y py] (.ListComp elt [⟨tg,iter,ifs,0⟩] scope pos) spos) (lP (nj own.length cap wi g tc te) (bN j)) :=
 ⟨zd hN0 hj hy O hc hi.h (fun C s0 H0 ex=>(hg C s0 H0 ex).h) gk (fun C s0 H0 ex=>(ht C s0 H0 ex).h) (fun C s0 H0 ex=>(he C s0 H0 ex).h) hsw hs hf⟩
theorem Cy(he:QE X e te)(hg:QG X tg g)(hs:swapsWithSole [tg] e pos.line X.env=pure false:=by rfl)(hw:swappedStores [tg] e X.env=pure none:=by rfl)(h1:(assignEach [tg] X.env).map (·.2)=[assign tg X.env]:=by rfl):QS X (.Assign [tg] e pos) (lP te g):=⟨Bf he.h hg.h hs hw h1⟩
theorem gP{body:List Stmt}(hp:PassesOwn (model X.prog X.w) X.A X.env X.xe)(hc:X.calm=true)(hi:QI X tg iter wi)(hg:QG X tg g)(hb:QB X body t)(hs:∀x,foldedSetIterable iter X.env x=pure x:=by intro _;rfl):QS X (.For tg iter body [] pos) (BM wi g t):=⟨Bh hp hc hi.h hg.h hb.h hs⟩
theorem iX{body:List Stmt}(hp:PassesOwn (model X.prog X.w) X.A X.env X.xe)(hc:QT X c tc)(hb:QB X body t):QS X (.While c body [] pos) (uM tc t):=⟨wj hp hc.h hb.h⟩
end
theorem Fun.okQ{P:Program}{w:World}{K:PySem.W.Frag}{mg:Str->Option Value}{base:Heap}{x qual:Str}{st:Stmt}{f:Addr}{fd:FuncData}{N ps:List Str}{k:Nat}{sp:Sp}(F:Fun K x qual st f fd)(S:FnScope N ps (ai st))(len:∀ vs H Q E,sp vs H Q E->vs.length=ps.length)(hbody:∀ (cdv:Value) (A:Around) (outer:List Env) (s:Shared) (H:Hp) (vs:List V) (Q:VK) (E:XK),Room k (A.deeper (envOfC qual (ai st) s.heap.objs.size f cdv))->sp vs H Q E ->
   ∃ t,QB (cJ CX0 P w K mg base N qual (ai st) f cdv A outer s H E).nox (aT st) t/\t { nx:=fun _ H'=>Q .non H',rt:=Q } (start N vs) H):FnOk P w K mg base CX0 (k+1) f fd ps sp :=
 F.ok S len fun cdv A outer s H vs Q E hr hsp=>let⟨t,h,q⟩:=hbody cdv A outer s H vs Q E hr hsp;⟨t,h.h,q⟩
section
variable{X:Cx}
theorem kj:QOp X (binaryOp .Add) (rI0 fun i j=>.int (i+j)):=⟨AJ⟩
theorem iT:QOp X (binaryOp .Sub) (rI0 fun i j=>.int (i-j)):=⟨AT⟩
theorem xr:QOp X (binaryOp .Mult) (rI CMul fun i j=>.int (i*j)):=⟨AQ⟩
theorem bK:QOp X (binaryOp .FloorDiv) (rI zO fun i j=>.int (i / j)):=⟨yF⟩
theorem bF:QOp X (binaryOp .Mod) (rI (fun _ j=>0<j) fun i j=>.int (i%j)):=⟨AO⟩
theorem Cf:QOp X (binaryOp .Pow) (rI zQ fun i j=>.int (i^j.toNat)):=⟨AR⟩
theorem Cc:QOp X (binaryOp .Add) Br:=⟨AK⟩
theorem eN:QOp X (compareOp .Eq) rEq:=⟨Ch⟩
theorem rV:QOp X (compareOp .NotEq) rNe:=⟨Ck⟩
theorem vT:QOp X (compareOp .Lt) (rI0 fun i j=>.bl (decide (i<j))):=⟨Cj⟩
theorem oO:QOp X (compareOp .Gt) (rI0 fun i j=>.bl (decide (j<i))):=⟨Ci⟩
theorem Ce:QOp X (compareOp .Is) (fun x y H Q=>y=.non/\Q (.bl (decide (x=.non))) H):=⟨AL⟩
theorem de:QOp X (compareOp .IsNot) (fun x y H Q=>y=.non/\Q (.bl (!decide (x=.non))) H):=⟨yG⟩
theorem CG:QUn X (unaryOp .USub) (rU fun i=>.int (-i)):=⟨BV⟩
theorem cG:QIx X (Bt X.K):=⟨yq⟩
theorem aC:QIx X (sj X.K):=⟨Aq⟩
theorem tG:QSl X (By X.K):=⟨zp⟩
theorem cV:QCall X (.builtin "len") (fun xs H Q=>∃p ys,xs=[.ref p]/\(SqL X.K H p ys\/SqT X.K H p ys)/\Q (.int ys.length) H):=⟨nO⟩
theorem mX:QCall X (.builtin "isinstance") (fun xs H Q=>∃x T t b,xs=[x,.ty T]/\TyOf X.K H x t/\PySem.W.kitOne X.K t (.type T)=some b/\Q (.bl b) H):=⟨vp⟩
end
open PySem PySem.Spec PyProof.Rows
mutual
def Dt(H:Hp):PyData->V->Prop
 |.none,v=>v=.non
 |.bool b,v=>v=.bl b
 |.int i,v=>v=.int i
 |.str x,v=>v=.str x
 |.list ds,v=>∃a xs,v=.ref a/\Rd H a (.lst xs)/\DtAll H ds xs
 |.tuple ds,v=>∃a xs,v=.ref a/\Rd H a (.tup xs)/\DtAll H ds xs
 |.dict _,_=>False
def DtAll(H:Hp):List PyData->List V->Prop
 | [],xs=>xs=[]
 |d::ds,xs=>∃y ys,xs=y::ys/\Dt H d y/\DtAll H ds ys
end
section
variable{P:Program}{w:World}{H:Hp}{h:Heap}
mutual
theorem Dt.reads(ok:HOk P w H h):∀(d:PyData) (x:V) (v:Value),Dt H d x->RelV x v->∃as,Reads h v d as
 |.none,x,v,e,r=>by
  have e':x=.non:=by simpa only[Dt]using e
  subst e';cases r;exact⟨_,.none⟩
 |.bool b,x,v,e,r=>by
  have e':x=.bl b:=by simpa only[Dt]using e
  subst e';cases r;exact⟨_,.bool b⟩
 |.int i,x,v,e,r=>by
  have e':x=.int i:=by simpa only[Dt]using e
  subst e';obtain⟨t,rfl⟩:=r;exact⟨_,.int i t⟩
 |.str z,x,v,e,r=>by
  have e':x=.str z:=by simpa only[Dt]using e
  subst e';obtain⟨t,rfl⟩:=r;exact⟨_,.str z t⟩
 |.list ds,x,v,e,r=>by
  have e':∃a xs,x=.ref a/\Rd H a (.lst xs)/\DtAll H ds xs:=by simpa only[Dt]using e
  obtain⟨a,xs,rfl,hr,hd⟩:=e';cases r;obtain⟨_,its,n,rv,eo⟩:=hr.ok ok;obtain⟨as,q⟩:=DtAll.reads ok ds xs its hd rv;exact⟨_,.list eo rfl rfl (by simpa using q)⟩
 |.tuple ds,x,v,e,r=>by
  have e':∃a xs,x=.ref a/\Rd H a (.tup xs)/\DtAll H ds xs:=by simpa only[Dt]using e
  obtain⟨a,xs,rfl,hr,hd⟩:=e';cases r;obtain⟨_,its,rv,o,eo,hc,n,hs⟩:=hr.ok ok;obtain⟨as,q⟩:=DtAll.reads ok ds xs its hd rv;exact⟨_,.tuple eo hc hs (by simpa using q)⟩
 |.dict kvs,x,v,e,r=>by
  have e':False:=by simpa only[Dt]using e
  exact e'.elim
theorem DtAll.reads(ok:HOk P w H h):∀(ds:List PyData) (xs:List V) (vs:List Value),DtAll H ds xs->Vals xs vs->∃as,ReadsAll h vs ds as
 | [],xs,vs,e,r=>by
  have e':xs=[]:=by simpa only[DtAll]using e
  subst e';cases r;exact⟨_,.nil⟩
 |d::ds,xs,vs,e,r=>by
  have e':∃y ys,xs=y::ys/\Dt H d y/\DtAll H ds ys:=by simpa only[DtAll]using e
  obtain⟨y,ys,rfl,h1,h2⟩:=e';cases r with
  |cons r1 r2 =>obtain⟨as,q1⟩:=Dt.reads ok d y _ h1 r1;obtain⟨bs,q2⟩:=DtAll.reads ok ds ys _ h2 r2;exact⟨_,.cons q1 q2⟩
end
end
theorem pY{H:Hp}:∀(ns:List Int),DtAll H (ns.map PyData.int) (ns.map V.int)
 | []=>by simp only[List.map_nil,DtAll]
 |n::ns=>by simp only[Zz,DtAll];exact⟨_,_,rfl,by simp only[Dt],pY ns⟩
section
variable{X:Cx}
def Bs:R2:=fun x y H Q=>∃dx dy,Dt H dx x/\Dt H dy y/\SeqAt.shaped dx=true/\SeqAt.shaped dy=true/\Q (.bl (PyData.eqv dx dy)) H
def Bv:R2:=fun x y H Q=>∃dx dy,Dt H dx x/\Dt H dy y/\SeqAt.shaped dx=true/\SeqAt.shaped dy=true/\Q (.bl (!PyData.eqv dx dy)) H
theorem ue(hu:X.A.units+64<cLine):OpR X (compareOp .Eq) Bs:=by intro pins s σ H x y v u Q I rx ry h;obtain⟨dx,dy,h1,h2,s1,s2,q⟩:=h;obtain⟨as,r1⟩:=Dt.reads I.hok dx x v h1 rx;obtain⟨bs,r2⟩:=Dt.reads I.hok dy y u h2 ry;exact eq_dataH r1 r2 s1 s2 hu ⟨.bl _,H,I,rfl,q⟩
theorem ug(hu:X.A.units+64<cLine):OpR X (compareOp .NotEq) Bv:=by intro pins s σ H x y v u Q I rx ry h;obtain⟨dx,dy,h1,h2,s1,s2,q⟩:=h;obtain⟨as,r1⟩:=Dt.reads I.hok dx x v h1 rx;obtain⟨bs,r2⟩:=Dt.reads I.hok dy y u h2 ry;exact ne_dataH r1 r2 s1 s2 hu ⟨.bl _,H,I,rfl,q⟩
theorem ng(hu:X.A.units+64<cLine):QOp X (compareOp .Eq) Bs:=⟨ue hu⟩
theorem kl(hu:X.A.units+64<cLine):QOp X (compareOp .NotEq) Bv:=⟨ug hu⟩
end
section
variable{X:Cx}
variable{o e:Expr}{to te:TE}{apos cpos:Pos}
theorem kz(ho:QE X o to)(he:QE X e te)(hs:ax e=true:=by rfl)(hbase:attributeBase o "append" X.env (eval o X.env)=eval o X.env:=by rfl)(hline:(apos.endLine==cpos.line)=true:=by rfl) :
  QE X (.Call (.Attribute o "append" apos) [e] [] cpos) (tBM X.K "list" qz to (gZ te fL)):=by
 have h1:=aw (es:=[]) (env:=X.env) hs;have h2:starEach ([]:List Expr) X.env=[]:=rfl;refine⟨xx PySem.F.plainAttrs_list PySem.F.slot_list_append PySem.F.type_list_append tN ho.h (pa he.h oQ hs) hbase ?_ hline h1 (by rw[h2];rfl)⟩;rw[h1,h2];rfl
end
open PySem PySem.Spec PyProof.Rows
theorem gU{H H':Hp}{p:Addr}{o:HO}(e:Same H H')(h:H p=none):Same H (upd H' p o):=fun b u q=>by rw[ad (ag q h)];exact e _ _ q
def ge(ns:List Int)(k:Nat):Int:=(ns[k]?).getD 0
theorem vk{ns:List Int}{k:Int}(h0:0<=k)(h1:k<ns.length):atI (ns.map V.int) k=some (.int (ge ns k.toNat)):=by
 have hk:k.toNat<ns.length:=by omega
 have ek:k=((k.toNat:Nat):Int):=by omega
 have q:atI (ns.map V.int) ((k.toNat:Nat):Int)=some (.int ns[k.toNat]):=bY (by rw[ZG,Zb hk]<;>rfl);rw[<-ek]at q;rw[q];unfold ge;rw[Zb hk];rfl
theorem vq{ns:List Int}{k:Int}(h0:0<=k)(h1:¬k<ns.length):ge ns k.toNat=0:=by unfold ge;rw[List.getElem?_eq_none (by omega)];rfl
open PySem PySem.Spec PyProof.Rows
section
variable{prog:Program}{w:World}{A:Around}
theorem dH(calm:A.handled=none)(it t:Addr)(apart:t≠it)(xs:Array Value) :
  Draws prog w A it [it,t] xs.size (fun i v=>xs[i]?=some v) (fun i h=>h.IsTupleIter it t i/\h.IsTuple t xs) where
 live:=fun _ _ q=>let⟨o,eo,_⟩:=q.1;⟨o,eo⟩
 frame:=fun _ _ _ q kp=>⟨let⟨o,eo,r⟩:=q.1;⟨o,kp it (by simp) o eo,r⟩,let⟨o,eo,r⟩:=q.2;⟨o,kp t (by simp) o eo,r⟩⟩
 item:=fun i s Q E lt q cont=>by
  have ei:xs[i]?=some xs[i]:=by simp[lt]
  obtain⟨o,eo,ec,ed⟩:=id q.1;obtain⟨p,ep,_,np,edp⟩:=id q.2;have ty:=q.1.typeIs;unfold Builtin.SmallTypes.nextOf;refine z6 (ZY (name:=Str.ofString "__next__") ty F.slot_tuple_iterator_next (Z1 F.slot_tuple_iterator_next ty F.entry_tuple_iterator_next ?_ (F.args_tuple_iterator_next_1 _)));show wpAny _ _ (field (.ref it) 0 >>= _) _ _ s;refine z6 (ZW eo ed (x:=.ref t) rfl ?_);show wpAny _ _ (if(Value.ref t==Value.none)=true then _ else _) _ _ s;rw[if_neg (show¬((Value.ref t==Value.none)=true)from Zj)];show wpAny _ _ (field (.ref it) 1 >>= _) _ _ s;refine z6 (ZW eo ed (x:=.int i 0) rfl ?_);show wpAny _ _ (seqItems? (.ref t) >>= _) _ _ s;refine z6 (wpAny_seqItems ep edp ?_);simp only[Int.toNat_natCast,ei];have sb:=ZR s.heap it (fun ob=>ob.mapFields fun fs=>fs.setIfInBounds 1 (rawInt (i+1)));refine z6 (YJ eo ed (by simp) (z9 ⟨xs[i],rfl,z9 (cont _ _ s.toks ei ⟨?_,?_⟩ (ZR ..))⟩))
  ·exact⟨_,Yp _ eo (Obj.isFreed_of_fields (Yg ed _)),(Obj.cls_mapFields ..).trans ec,by rw[Yg ed];simp[rawInt]⟩
  ·exact q.2.extBut (ZR ..).extBut apart
 done:=fun s Q E q cont=>by
  have ei:xs[xs.size]?=none:=by simp
  obtain⟨o,eo,ec,ed⟩:=id q.1;obtain⟨p,ep,_,np,edp⟩:=id q.2;have ty:=q.1.typeIs;unfold Builtin.SmallTypes.nextOf;refine z6 (ZY (name:=Str.ofString "__next__") ty F.slot_tuple_iterator_next (Z1 F.slot_tuple_iterator_next ty F.entry_tuple_iterator_next ?_ (F.args_tuple_iterator_next_1 _)));show wpAny _ _ (field (.ref it) 0 >>= _) _ _ s;refine z6 (ZW eo ed (x:=.ref t) rfl ?_);show wpAny _ _ (if(Value.ref t==Value.none)=true then _ else _) _ _ s;rw[if_neg (show¬((Value.ref t==Value.none)=true)from Zj)];show wpAny _ _ (field (.ref it) 1 >>= _) _ _ s;refine z6 (ZW eo ed (x:=.int xs.size 0) rfl ?_);show wpAny _ _ (seqItems? (.ref t) >>= _) _ _ s;refine z6 (wpAny_seqItems ep edp ?_);simp only[Int.toNat_natCast,ei];refine z6 (ZU (z6 (YJ eo ed (by simp) ?_)));show wpAny _ _ (newExc (.type "StopIteration") [] >>= _) _ _ _;refine z6 ?_;simp only[newExc,newTuple];refine z6 (Z9 ?_ (by size_fits));refine z6 (m:=firstArgMember _ _) (wpAny_of_eq (a:=Value.none) (by first|rfl|(simp only[firstArgMember];rfl)) (Z9 ?_ (by size_fits)));simp only[raiseNew];refine z6 (wpAny_handled ?_)
  first|rw[show A.in1.handled=none from calm]|rw[calm]
  exact z6 (z9 (wpAny_throw (cont _ _ (((ZR ..).extBut.push _).push _) ⟨_,Zo _ rfl,rfl⟩)))
end
structure ZAp(z u v i j:Addr)(f g:List Addr):Prop where
 uz:u≠z
 vz:v≠z
 uv:u≠v
 ui:u≠i
 uj:u≠j
 vi:v≠i
 vj:v≠j
 iz:i≠z
 jz:j≠z
 ij:i≠j
 zf:z∉f
 zg:z∉g
 vf:v∉f
 vg:v∉g
 jf:j∉f
 ig:i∉g
section
variable{prog:Program}{w:World}{A:Around}{E:Value->Shared->Prop}{s:Shared}{z u v i j:Addr}{f g:List Addr}{n m k:Nat}{P1 P2:Nat->Value->Prop}{S1 S2:Nat->Heap->Prop}{a b:Value}
def rh(z v i j:Addr)(h h':Heap):Prop:=∀c o,c≠z->c≠v->c≠i->c≠j->h.get? c=some o->h'.get? c=some o
theorem cA{c:Addr}{f:List Addr}{d:Addr}(hc:c∈f)(hd:d∉f):c≠d:=fun e=>hd (e▸hc)
theorem wZ(d1:Draws prog w A i f n P1 S1)(d2:Draws prog w A j g m P2 S2)(ap:ZAp z u v i j f g)(hz:IsZip s.heap z u v .none)(hu:IsPair s.heap u (.ref i) (.ref j))(hv:IsPair s.heap v a b)(h1:S1 k s.heap)(h2:S2 k s.heap)(l1:k<n)(l2:k<m){Q:Value->Shared->Prop}(cont:∀h' tk x y,P1 k x->P2 k y->IsZip h' z u v (rawInt s.heap.objs.size)->IsPair h' v x y->S1 (k+1) h'->S2 (k+1) h'->IsPair h' s.heap.objs.size x y->rh z v i j s.heap h'->Q (.ref s.heap.objs.size) { s with heap:=h',toks:=tk }) :
  wpAny (model prog w) A (Builtin.«zip.__next__» ⟨[.ref z],[]⟩) (fun fin s'=>∃r,fin=.done (.ret r)/\Q r s') E s:=by
 show wpAny _ _ (field (.ref z) 2 >>= _) _ _ _;refine z6 (ZW hz rfl (x:=.bool false) rfl ?_);show wpAny _ _ (field (.ref z) 3 >>= _) _ _ _;refine z6 (ZW hz rfl (x:=.ref u) rfl (z6 (wpAny_seqItems hu rfl ?_)));show wpAny _ _ (Builtin.SmallTypes.ownedTupleIsFree (.ref z) >>= _) _ _ _;refine z6 ?_;unfold Builtin.SmallTypes.ownedTupleIsFree;refine z6 (ZW hz rfl (x:=.none) rfl (z9 ?_));simp only[if_true];refine z6 (ZU (z6 (ZW hz rfl (x:=.ref v) rfl ?_)));refine z6 (wpAny_setField_rec hz (by simp) fun q1 z1 b1=>?_)
 replace z1:IsZip q1 z u v .ellipsis:=z1
 refine z6 ?_;simp only[List.zipIdx_cons,List.zipIdx_nil,List.forIn_cons,List.forIn_nil];refine z6 (z6 (wpAny_onRaise ?_));show wpAny _ _ (Builtin.SmallTypes.nextOf (.ref i) >>= _) _ _ _;refine z6 (d1.item k { s with heap:=q1 } _ _ l1 (d1.frame _ _ _ h1 fun c hc o e=>b1.extBut c o (cA hc ap.zf) e) fun x q2 t2 px s2 b2=>z9 ?_);have v2:IsPair q2 v a b:=b2.extBut _ _ ap.vi (b1.extBut _ _ ap.vz hv);refine z6 (wpAny_seqItems v2 rfl (z6 (wpAny_updateSeq_pair v2 fun q3 w3 b3=>?_)))
 replace w3:IsPair q3 v x b:=w3
 refine z6 (wpAny_letGo (z9 ?_));refine z6 (z6 (wpAny_onRaise ?_));show wpAny _ _ (Builtin.SmallTypes.nextOf (.ref j) >>= _) _ _ _;refine z6 (d2.item k { s with heap:=q3,toks:=t2 } _ _ l2 (d2.frame _ _ _ h2 fun c hc o e=>b3.extBut c o (cA hc ap.vg) (b2.extBut c o (cA hc ap.ig) (b1.extBut c o (cA hc ap.zg) e))) fun y q4 t4 py s4 b4=>z9 ?_);have v4:IsPair q4 v x b:=b4.extBut _ _ ap.vj w3;refine z6 (wpAny_seqItems v4 rfl (z6 (wpAny_updateSeq_pair v4 fun q5 w5 b5=>?_)))
 replace w5:IsPair q5 v x y:=w5
 refine z6 (wpAny_letGo (z9 (z9 (z6 (wpAny_seqItems w5 rfl (z6 (wpAny_newTuple ?_)))))));have sz:q5.objs.size=s.heap.objs.size:=by rw[b5.1,b4.1,b3.1,b2.1,b1.1]
 have z5:IsZip q5 z u v .ellipsis:=b5.extBut _ _ ap.vz.symm (b4.extBut _ _ ap.jz.symm (b3.extBut _ _ ap.vz.symm (b2.extBut _ _ ap.iz.symm z1)));have k5:rh z v i j s.heap q5:=fun c o c1 c2 c3 c4 e=>b5.extBut _ _ c2 (b4.extBut _ _ c4 (b3.extBut _ _ c2 (b2.extBut _ _ c3 (b1.extBut _ _ c1 e))));have s5:S1 (k+1) q5:=d1.frame _ _ _ s2 fun c hc o e=>b5.extBut c o (cA hc ap.vf) (b4.extBut c o (cA hc ap.jf) (b3.extBut c o (cA hc ap.vf) e));have r5:S2 (k+1) q5:=d2.frame _ _ _ s4 fun c hc o e=>b5.extBut c o (cA hc ap.vg) e;have zlt:z<q5.objs.size:=Zm z5;show wpAny _ _ (Builtin.SmallTypes.ownedTupleHandOut (.ref z) (.ref q5.objs.size) >>= _) _ _ _;refine z6 ?_;unfold Builtin.SmallTypes.ownedTupleHandOut;refine z6 (wpAny_setField_rec (show IsZip (q5.push { cls:=.type "tuple",data:=.seq #[x,y] }) z u v .ellipsis from Za _ z5) (by simp) fun q7 z7 b7=>?_)
 replace z7:IsZip q7 z u v (rawInt q5.objs.size):=z7
 refine wpAny_setField_rec z7 (by simp) fun q8 z8 b8=>?_
 replace z8:IsZip q8 z u v (rawInt q5.objs.size):=z8
 have up:∀c o,c≠z->q5.get? c=some o->q8.get? c=some o:=fun c o c1 e=>b8.extBut _ _ c1 (b7.extBut _ _ c1 (Za _ e));have p8:IsPair q8 q5.objs.size x y:=b8.extBut _ _ (Yk zlt) (b7.extBut _ _ (Yk zlt) (Zo _ rfl));rw[sz]at z8 p8;refine z9 ⟨_,rfl,?_⟩;show Q (.ref q5.objs.size) _;rw[sz];exact cont q8 _ x y px py z8 (up _ _ ap.vz w5) (d1.frame _ _ _ s5 fun c hc o e=>up c o (cA hc ap.zf) e) (d2.frame _ _ _ r5 fun c hc o e=>up c o (cA hc ap.zg) e) p8 fun c o c1 c2 c3 c4 e=>up c o c1 (k5 c o c1 c2 c3 c4 e)
theorem zI(d1:Draws prog w A i f n P1 S1)(d2:Draws prog w A j g m P2 S2)(ap:ZAp z u v i j f g)(hz:IsZip s.heap z u v .none)(hu:IsPair s.heap u (.ref i) (.ref j))(hv:IsPair s.heap v a b)(h1:S1 n s.heap){Q:Fin->Shared->Prop}(cont:∀h' e,rh z v i j s.heap h'->(∃o,h'.get? e=some o/\o.cls=.type "StopIteration")->E (.ref e) { s with heap:=h' }):wpAny (model prog w) A (Builtin.«zip.__next__» ⟨[.ref z],[]⟩) Q E s:=by
 show wpAny _ _ (field (.ref z) 2 >>= _) _ _ _;refine z6 (ZW hz rfl (x:=.bool false) rfl ?_);show wpAny _ _ (field (.ref z) 3 >>= _) _ _ _;refine z6 (ZW hz rfl (x:=.ref u) rfl (z6 (wpAny_seqItems hu rfl ?_)));show wpAny _ _ (Builtin.SmallTypes.ownedTupleIsFree (.ref z) >>= _) _ _ _;refine z6 ?_;unfold Builtin.SmallTypes.ownedTupleIsFree;refine z6 (ZW hz rfl (x:=.none) rfl (z9 ?_));simp only[if_true];refine z6 (ZU (z6 (ZW hz rfl (x:=.ref v) rfl ?_)));refine z6 (wpAny_setField_rec hz (by simp) fun q1 z1 b1=>?_)
 replace z1:IsZip q1 z u v .ellipsis:=z1
 refine z6 ?_;simp only[List.zipIdx_cons,List.zipIdx_nil,List.forIn_cons,List.forIn_nil];refine z6 (z6 (wpAny_onRaise ?_));show wpAny _ _ (Builtin.SmallTypes.nextOf (.ref i) >>= _) _ _ _;refine z6 (d1.done { s with heap:=q1 } _ _ (d1.frame _ _ _ h1 fun c hc o e=>b1.extBut c o (cA hc ap.zf) e) fun q2 e b2 he=>?_);obtain⟨oe,hoe,hce⟩:=he;have z2:IsZip q2 z u v .ellipsis:=b2 _ _ ap.iz.symm z1;have ez:e≠z:=fun x=>by subst x;rw[z2]at hoe;cases hoe;simp at hce
 exact wpAny_setField_rec z2 (by simp) fun q3 _ b3=>cont q3 e (fun c o c1 _ c3 _ x=>b3.extBut _ _ c1 (b2 _ _ c3 (b1.extBut _ _ c1 x))) ⟨oe,b3.extBut _ _ ez hoe,hce⟩
end
section
variable{X:Cx}{pins:List (Addr×Obj)}{σ:St}{H:Hp}{s:Shared}{h':Heap}{ch:List Addr}{t':Nat}
theorem Inv.turnH{H':Hp}(I:Inv X pins σ H s)(hch:∀b∈ch,aY X pins H b)(kp:∀b o,b∉ch->s.heap.get? b=some o->h'.get? b=some o)(up:∀b u,H b=some u->H' b=some u)(dn:∀b o,s.heap.get? b=some o->H b=none->H' b=none)(hok:HOk X.prog X.w H' h') :
  Inv X pins σ H' { s with heap:=h',toks:=t' }:=by
 refine I.step (g':=s.gens) (d':=s.drawn) (ch:=ch) (fun b hb=>?_) (fun b o _ _ hc e _=>kp b o hc e) (fun b o _ _ hc e _=>⟨o.slots,kp b o hc e⟩) (fun b o _ e n=>dn b o e n) (fun b o hc e=>⟨o,kp b o hc e⟩) (fun b xs e=>up _ _ e) (fun b o u e=>up _ _ e) (fun b ps e=>⟨#[],by rw[up _ _ e];simp⟩) (fun m hm=>?_) hok I.bare
 ·obtain⟨f0,f1,f2,f3,f4,f5⟩:=hch b hb;exact⟨f3,f1,f4,f5⟩
 ·obtain⟨o,es,ep,ho,r⟩:=hm;exact⟨o,es,ep,kp _ o (fun z=>(hch _ z).2.1 rfl) ho,r⟩
theorem om(I:Inv X pins σ H s)(hch:∀b∈ch,aY X pins H b)(kp:∀b o,b∉ch->s.heap.get? b=some o->h'.get? b=some o):HOk X.prog X.w H h':=fun b u e=>by
 have nin:∀{c:Addr} {q:HO},H c=some q->c∉ch:=fun{c q} e z=>by rw[(hch c z).1]at e;cases e
 refine(I.hok b u e).stay (fun c v hc q=>kp c v ?_ q) (fun _ q=>q) fun _ _ q=>q;rcases hc with z|z
 ·rw[z];exact nin e
 ·exact nin z
theorem Inv.turnM(I:Inv X pins σ H s)(hch:∀b∈ch,aY X pins H b)(kp:∀b o,b∉ch->s.heap.get? b=some o->h'.get? b=some o):Inv X pins σ H { s with heap:=h',toks:=t' } :=
 I.turnH hch kp (fun _ _ e=>e) (fun _ _ _ n=>n) (om I hch kp)
theorem Inv.turnT{xs:List V}{its:List Value}(I:Inv X pins σ H s)(hch:∀b∈ch,aY X pins H b)(kp:∀b o,b∉ch->s.heap.get? b=some o->h'.get? b=some o)(hp:IsTup h' s.heap.objs.size its.toArray)(rv:Vals xs its)(hz:xs.length<=sizeLine) :
  Inv X pins σ (upd H s.heap.objs.size (.tup xs)) { s with heap:=h',toks:=t' }:=by
 have fr:=I.hok.fresh (Ze s.heap.objs.size);have ne:∀{b:Addr} {u:HO},H b=some u->b≠s.heap.objs.size:=fun{b u} e=>ag e fr;have hk:=om I hch kp;refine I.turnH hch kp (fun b u e=>by rw[ad (ne e)];exact e) (fun b o e n=>by rw[ad (Zv (Zm e))];exact n) fun b u e=>?_;by_cases hb:b=s.heap.objs.size
 ·subst hb;rw[af]at e;cases e;exact⟨hz,its,rv,hp⟩
 ·rw[ad hb]at e;exact(hk b u e).stay (fun _ _ _ q=>q) (fun c q=>by rw[ad (ne q)];exact q) fun c ys q=>by rw[ad (ne q)];exact q
end
def Itz(K:PySem.W.Frag)(a b:Addr)(xs ys:List V):It :=
 ⟨fun i H=>i<xs.length/\SqT K H a xs/\SqT K H b ys,fun i H x H'=>∃T p q,H T=none/\xs[i]?=some p/\ys[i]?=some q/\x=.ref T/\H'=upd H T (.tup [p,q]),fun i H=>i=xs.length/\SqT K H a xs/\SqT K H b ys⟩
abbrev zTn(z u v i1 i2 a b:Addr):Nat->Heap->Prop:=fun i h=>IsZip h z u v .none/\IsPair h u (.ref i1) (.ref i2)/\(∃p q,IsPair h v p q)/\h.IsTupleIter i1 a i/\h.IsTupleIter i2 b i
theorem wS{P:Program}{w:World}{K:PySem.W.Frag}{elts:List Expr}{kt:Nat}{tp:Pos}{z u v i1 i2 a b:Addr}{xs ys:List V}(hl:xs.length=ys.length)(D:[z,u,v,i1,i2].Nodup)(ha:∀c∈[z,u,v,i1,i2],c≠a/\c≠b) :
  Turn P w K (.Tuple elts kt tp) (Itz K a b xs ys) [z,u,v,i1,i2] z (zTn z u v i1 i2 a b):=by
 have nd:(z≠u/\z≠v/\z≠i1/\z≠i2)/\(u≠v/\u≠i1/\u≠i2)/\(v≠i1/\v≠i2)/\i1≠i2:=by simpa using D
 obtain⟨⟨zu,zv,z1,z2⟩,⟨uv,u1,u2⟩,⟨v1,v2⟩,i12⟩:=nd;have az:=ha z (by simp);have av:=ha v (by simp);have a1:=ha i1 (by simp);have a2:=ha i2 (by simp);have ap:ZAp z u v i1 i2 [i1,a] [i2,b]:=⟨zu.symm,zv.symm,uv,u1,u2,v1,v2,z1.symm,z2.symm,i12,by simp[z1,az.1],by simp[z2,az.2],by simp[v1,av.1],by simp[v2,av.2],by simp[i12.symm,a2.1],by simp[i12,a1.2]⟩
 refine⟨by simp,fun i h st c hc=>?_,fun i h h' st k=>?_,?_,?_,fun A i s Q E st h=>wpAny_pyIter_zip st.1 h⟩
 ·obtain⟨e1,e2,⟨p,q,e3⟩,⟨o4,e4,_,d4⟩,⟨o5,e5,_,d5⟩⟩:=st;simp only[Zq,Z6,or_false]at hc;rcases hc with rfl|rfl|rfl|rfl|rfl
  ·exact⟨_,e1,fun v z=>nomatch z⟩
  ·exact⟨_,e2,fun v z=>nomatch z⟩
  ·exact⟨_,e3,fun v z=>nomatch z⟩
  ·exact⟨_,e4,fun v z=>by rw[d4]at z;cases z⟩
  ·exact⟨_,e5,fun v z=>by rw[d5]at z;cases z⟩
 ·obtain⟨e1,e2,⟨p,q,e3⟩,⟨o4,e4,r4⟩,⟨o5,e5,r5⟩⟩:=st;exact⟨k z (by simp) _ e1,k u (by simp) _ e2,⟨p,q,k v (by simp) _ e3⟩,⟨o4,k i1 (by simp) _ e4,r4⟩,⟨o5,k i2 (by simp) _ e5,r5⟩⟩
 ·intro X hP hw hK hc i pins s σ H E I hf st hg;subst hP hw hK;obtain⟨e1,e2,⟨p,q,e3⟩,e4,e5⟩:=st;obtain⟨hi,hx,hy⟩:=hg;obtain⟨its,rx,px,zx⟩:=I.tuple hx;obtain⟨jts,ry,py,zy⟩:=I.tuple hy;have lx:i<its.toArray.size:=by rw[Zf,<-rx.length];exact hi
  have ly:i<jts.toArray.size:=by rw[Zf,<-ry.length,<-hl];exact hi
  have hh:=I.ok.hd hc;have hT:s.TypeIs (.ref z) "zip":=⟨_,e1,rfl⟩
  unfold pyNext;refine z6 (wpAny_attempt (ZY (name:=Str.ofString "__next__") hT F.slot_zip_next (Z1 F.slot_zip_next hT F.entry_zip_next
   (wZ (dH (A:=X.A.in1) hh i1 a a1.1.symm its.toArray) (dH (A:=X.A.in1) hh i2 b a2.2.symm jts.toArray) ap e1 e2 e3 ⟨e4,px⟩ ⟨e5,py⟩ lx ly fun h' tk x y qx qy zz vv s1 s2 pp kp=>z9 ?_) (F.args_zip_next_1 _))))
  refine⟨_,rfl,wpAny_letOwnedTupleGo_zip (s:={ s with heap:=h',toks:=tk }) zz fun h2 z2' sb=>?_⟩;obtain⟨xv,ex⟩:∃xv,xs[i]?=some xv:=⟨xs[i],by simp[hi]⟩
  obtain⟨yv,ey⟩:∃yv,ys[i]?=some yv:=⟨ys[i]'(by omega),by simp[show i<ys.length by omega]⟩
  obtain⟨x',gx,rxv⟩:=rx.get ex;obtain⟨y',gy,ryv⟩:=ry.get ey;have qx':its[i]?=some x:=by simpa using qx
  have qy':jts[i]?=some y:=by simpa using qy
  rw[gx]at qx';rw[gy]at qy';cases qx';cases qy';have ltz:z<s.heap.objs.size:=Zm e1;have kp2:∀c o,c∉[z,u,v,i1,i2]->s.heap.get? c=some o->h2.get? c=some o:=fun c o hc e=>by simp only[Zq,Z6,or_false,not_or]at hc;exact sb.extBut c o hc.1 (kp c o hc.1 hc.2.2.1 hc.2.2.2.1 hc.2.2.2.2 e)
  have tT:IsTup h2 s.heap.objs.size [x,y].toArray:=⟨_,sb.extBut _ _ (Yk ltz) pp,rfl,_,rfl⟩
  refine⟨.ref s.heap.objs.size,upd H s.heap.objs.size (.tup [xv,yv]),I.turnT (t':=tk) hf kp2 tT (.cons rxv (.cons ryv .nil)) (sz rfl),rfl,⟨_,xv,yv,I.hok.fresh (Ze _),ex,ey,rfl,rfl⟩,?_,fun c hc=>?_⟩
  ·exact⟨z2',sb.extBut _ _ zu.symm (kp _ _ zu.symm uv u1 u2 e2),⟨_,_,sb.extBut _ _ zv.symm vv⟩,s1.1.extBut sb.extBut z1.symm,s2.1.extBut sb.extBut z2.symm⟩
  ·rw[ad]
   ·exact(hf c hc).1
   ·obtain⟨o,eo,_⟩:∃o,s.heap.get? c=some o/\True:=by
     simp only[Zq,Z6,or_false]at hc;rcases hc with rfl|rfl|rfl|rfl|rfl
     ·exact⟨_,e1,trivial⟩
     ·exact⟨_,e2,trivial⟩
     ·exact⟨_,e3,trivial⟩
     ·obtain⟨o,eo,_⟩:=e4;exact⟨o,eo,trivial⟩
     ·obtain⟨o,eo,_⟩:=e5;exact⟨o,eo,trivial⟩
    exact Zv (Zm eo)
 ·intro X hP hw hK hc i pins s σ H E I hf st hg;subst hP hw hK;obtain⟨e1,e2,⟨p,q,e3⟩,e4,e5⟩:=st;obtain⟨rfl,hx,hy⟩:=hg;obtain⟨its,rx,px,zx⟩:=I.tuple hx;obtain⟨jts,ry,py,zy⟩:=I.tuple hy;have lx:its.toArray.size=xs.length:=by rw[Zf,<-rx.length]
  have hh:=I.ok.hd hc;have hT:s.TypeIs (.ref z) "zip":=⟨_,e1,rfl⟩
  unfold pyNext;refine z6 (wpAny_attempt (ZY (name:=Str.ofString "__next__") hT F.slot_zip_next (Z1 F.slot_zip_next hT F.entry_zip_next
   (zI (dH (A:=X.A.in1) hh i1 a a1.1.symm its.toArray) (dH (A:=X.A.in1) hh i2 b a2.2.symm jts.toArray) ap e1 e2 e3 ⟨by rw[lx];exact e4,px⟩ fun h' e kp he=>?_) (F.args_zip_next_1 _))))
  obtain⟨o,ho,hco⟩:=he;refine z6 (wpAny_isInstance (T:="StopIteration") (b:=true) ⟨o,ho,hco⟩ isSubtype_stop (z9 ⟨rfl,?_⟩));exact I.turnM (t':=s.toks) hf fun c ob hc e=>by simp only[Zq,Z6,or_false,not_or]at hc;exact kp c ob hc.1 hc.2.2.1 hc.2.2.2.1 hc.2.2.2.2 e
theorem rS(l1 l2:Addr)(xs ys:Array Value) :
  Meets (Builtin.«zip.__new__» ⟨[.type "zip",.ref l1,.ref l2],[]⟩) (fun _ R s=>s.heap.IsTuple l1 xs/\s.heap.IsTuple l2 ys /\
   R (.ok (.ret (.ref ((((s.heap.push { cls:=.type "tuple_iterator",data:=.fields #[.ref l1,.int 0 0] }).push { cls:=.type "tuple_iterator",data:=.fields #[.ref l2,.int 0 0] }).push { cls:=.type "tuple",data:=.seq #[.ref s.heap.objs.size,.ref (s.heap.push { cls:=.type "tuple_iterator",data:=.fields #[.ref l1,.int 0 0] }).objs.size] }).push { cls:=.type "tuple",data:=.seq #[.none,.none] }).objs.size)))
    { s with heap:=((((s.heap.push { cls:=.type "tuple_iterator",data:=.fields #[.ref l1,.int 0 0] }).push { cls:=.type "tuple_iterator",data:=.fields #[.ref l2,.int 0 0] }).push { cls:=.type "tuple",data:=.seq #[.ref s.heap.objs.size,.ref (s.heap.push { cls:=.type "tuple_iterator",data:=.fields #[.ref l1,.int 0 0] }).objs.size] }).push { cls:=.type "tuple",data:=.seq #[.none,.none] }).push { cls:=.type "zip",data:=.fields #[.none,.bool false,.bool false,.ref ((s.heap.push { cls:=.type "tuple_iterator",data:=.fields #[.ref l1,.int 0 0] }).push { cls:=.type "tuple_iterator",data:=.fields #[.ref l2,.int 0 0] }).objs.size,.ref (((s.heap.push { cls:=.type "tuple_iterator",data:=.fields #[.ref l1,.int 0 0] }).push { cls:=.type "tuple_iterator",data:=.fields #[.ref l2,.int 0 0] }).push { cls:=.type "tuple",data:=.seq #[.ref s.heap.objs.size,.ref (s.heap.push { cls:=.type "tuple_iterator",data:=.fields #[.ref l1,.int 0 0] }).objs.size] }).objs.size] } }) :=
 .of_wp fun prog w A R s h=>by
  obtain⟨hp,g,d,tk,os⟩:=s;obtain⟨t1,t2,h⟩:=h;have hsub:=sub_zip;have T1:Heap.IsTuple (Shared.heap ⟨hp,g,d,tk,os⟩) l1 xs:=t1;have T2:Heap.IsTuple (Shared.heap ⟨hp.push { cls:=.type "tuple_iterator",data:=.fields #[.ref l1,.int 0 0] },g,d,tk,os⟩) l2 ys:=Heap.IsTuple.push t2 _
  wp_walk using wpAny_pyIter_tuple T1,wpAny_pyIter_tuple T2
  exact⟨_,rfl,h⟩
theorem AC(n:Nat):[n+4,n+2,n+3,n,n+1].Nodup:=by simp
def Ak(K:PySem.W.Frag)(ta:TA):TI:=fun σ H R=>ta σ H fun vs H1=>∃a b xs ys,vs=[.ref a,.ref b]/\SqT K H1 a xs/\SqT K H1 b ys/\xs.length=ys.length/\R (Itz K a b xs ys) H1
section
variable{X:Cx}
theorem Ba{e1 e2:Expr}{ta:TA}{p pos tp:Pos}{elts:List Expr}{kt:Nat}(hg:Gl X "zip")(hm:X.mg "zip" = none)(ha:PA X [e1,e2] ta)(n1:ax e1=true)(n2:ax e2=true):PI X (.Tuple elts kt tp) (.Call (.Name "zip" p) [e1,e2] [] pos) (Ak X.K ta):=by
 intro pins s σ H R I h;refine Call_ (dJ I hg hm boot_zip (Yu (thn (ha pos pins s σ H _ I h) fun us s1 hz9=>?_) (aw n1) (aZ (by simp[n2]))));obtain⟨vs,H1,I1,r1,q1⟩:=hz9;obtain⟨a,b,xs,ys,e,hx,hy,hl,q⟩:=q1;subst e;obtain⟨ua,ub,rfl,ra,rb⟩:=hM r1;cases ra;cases rb;obtain⟨its,rx,px,zx⟩:=I1.tuple hx;obtain⟨jts,ry,py,zy⟩:=I1.tuple hy;refine callType_new F.called_zip (by decide) (F.typeCall_zip_2 _ _) (F.newCall_zip_2 _ _) (fun obj=>F.args_object_init_3 obj _ _) F.entry_zip_new (rS a b its.toArray jts.toArray) ⟨px,py,?_⟩;generalize ea:({ cls:=.type "tuple_iterator",data:=.fields #[.ref a,.int 0 0] }:Obj)=oa;generalize eb:({ cls:=.type "tuple_iterator",data:=.fields #[.ref b,.int 0 0] }:Obj)=ob;have z1:(s1.heap.push oa).objs.size=s1.heap.objs.size+1:=Heap.size_push ..;have z2:((s1.heap.push oa).push ob).objs.size=s1.heap.objs.size+2:=by rw[Heap.size_push,z1]
 rw[z2,z1];generalize eu:({ cls:=.type "tuple",data:=.seq #[.ref s1.heap.objs.size,.ref (s1.heap.objs.size+1)] }:Obj)=ou;have z3:(((s1.heap.push oa).push ob).push ou).objs.size=s1.heap.objs.size+3:=by rw[Heap.size_push,z2]
 generalize ev:({ cls:=.type "tuple",data:=.seq #[.none,.none] }:Obj)=ov;have z4:((((s1.heap.push oa).push ob).push ou).push ov).objs.size=s1.heap.objs.size+4:=by rw[Heap.size_push,z3]
 rw[z4,z3];generalize ez:({ cls:=.type "zip",data:=.fields #[.none,.bool false,.bool false,.ref (s1.heap.objs.size+2),.ref (s1.heap.objs.size+3)] }:Obj)=oz;have g5:(((((s1.heap.push oa).push ob).push ou).push ov).push oz).get? (s1.heap.objs.size+4)=some oz:=by rw[<-z4];exact Zo _ (by rw[<-ez];rfl)
 have g4:(((((s1.heap.push oa).push ob).push ou).push ov).push oz).get? (s1.heap.objs.size+3)=some ov:=by rw[<-z3];exact Za _ (Zo _ (by rw[<-ev];rfl))
 have g3:(((((s1.heap.push oa).push ob).push ou).push ov).push oz).get? (s1.heap.objs.size+2)=some ou:=by rw[<-z2];exact Za _ (Za _ (Zo _ (by rw[<-eu];rfl)))
 have g2:(((((s1.heap.push oa).push ob).push ou).push ov).push oz).get? (s1.heap.objs.size+1)=some ob:=by rw[<-z1];exact Za _ (Za _ (Za _ (Zo _ (by rw[<-eb];rfl))))
 have g1:(((((s1.heap.push oa).push ob).push ou).push ov).push oz).get? s1.heap.objs.size=some oa:=Za _ (Za _ (Za _ (Za _ (Zo _ (by rw[<-ea];rfl)))));have kp:∀c o,s1.heap.get? c=some o->(((((s1.heap.push oa).push ob).push ou).push ov).push oz).get? c=some o:=fun c o e=>Za _ (Za _ (Za _ (Za _ (Za _ e))));generalize((((s1.heap.push oa).push ob).push ou).push ov).push oz=hN at g1 g2 g3 g4 g5 kp ⊢;have I2:Inv X pins σ H1 { s1 with heap:=hN }:=I1.kept (t':=s1.toks) kp;have la:a<s1.heap.objs.size:=px.lt;have lb:b<s1.heap.objs.size:=py.lt;subst ea eb eu ev ez;have base:∀c∈[s1.heap.objs.size+4,s1.heap.objs.size+2,s1.heap.objs.size+3,s1.heap.objs.size,s1.heap.objs.size+1],s1.heap.objs.size<=c:=fun c hc=>by simp only[Zq,Z6,or_false]at hc;omega
 refine⟨⟨_,g5,rfl⟩,?_⟩;show wpAny (model X.prog X.w) X.A (pyIter (.ref (s1.heap.objs.size+4))) (PIE X pins σ (.Tuple elts kt tp) R) X.xe { s1 with heap:=hN };refine wpAny_pyIter_zip g5 ?_;refine⟨s1.heap.objs.size+4,[s1.heap.objs.size+4,s1.heap.objs.size+2,s1.heap.objs.size+3,s1.heap.objs.size,s1.heap.objs.size+1],zTn (s1.heap.objs.size+4) (s1.heap.objs.size+2) (s1.heap.objs.size+3) s1.heap.objs.size (s1.heap.objs.size+1) a b,_,H1,rfl,I2,
  wS hl ?_ (fun c hc=>⟨Yk (Zw la (base c hc)),Yk (Zw lb (base c hc))⟩),⟨g5,g3,⟨_,_,g4⟩,⟨_,g1,rfl,rfl⟩,⟨_,g2,rfl,rfl⟩⟩,fun c hc=>?_,q⟩
 ·exact AC s1.heap.objs.size
 ·exact I1.fpOk (base c hc) (I1.hok.fresh (base c hc))
theorem xn{e1 e2:Expr}{ta:TA}{p pos tp:Pos}{elts:List Expr}{kt:Nat}(hm:X.mg "zip" = none)(ha:QA X [e1,e2] ta)(hg:Gl X "zip":=by rfl)(n1:ax e1=true:=by rfl)(n2:ax e2=true:=by rfl):QI X (.Tuple elts kt tp) (.Call (.Name "zip" p) [e1,e2] [] pos) (Ak X.K ta):=⟨Ba hg hm ha.h n1 n2⟩
end
open PySem PySem.Spec PyProof.Rows
theorem vt{J:It}{N n:Nat}{cap:List Nat}{g:TG}{tc:TT}{te:TE}{σ:St}{H0:Hp}{Q:VK}(keep:Nat->Bool)(f:Nat->V)(hz:N<=1000)(hgo:∀ i H,i<N->Same H0 H->J.go i H)(hst:∀ H,Same H0 H->J.stop N H)(ht:∀ i H x H',i<N->Same H0 H->J.yld i H x H'->∀ (A:VK) (B:Hp->Prop),(keep i=true->∀ H4,Same H H4->A (f i) H4)->(keep i=false->∀ H4,Same H H4->B H4) ->
   g x (bT n cap σ) H' fun σ2 H2=>tc σ2 H2 fun b H3=>if b=true then te σ2 H3 A else B H3)(hq:∀ p H,Same H0 H->H p=none->Q (.ref p) (upd H p (.lst (((List.range N).filter keep).map f)))):iE n cap g tc te σ J H0 Q:=by
 refine⟨fun i m ys H=>m=N-i/\i<=N/\Same H0 H/\ys=((List.range i).filter keep).map f,⟨N,by simp,ZO _,Same.refl _,rfl⟩,?_⟩;rintro i m ys H ⟨rfl,hi,sm,rfl⟩;by_cases hlt:i<N
 ·refine .inr ⟨hgo i H hlt sm,?_,fun x H' y=>?_⟩
  ·rw[Zi];have:=YM keep (List.range i);rw[List.length_range]at this;exact cE (by omega)
  ·refine ht i H x H' hlt sm y _ _ (fun k H4 s4=>⟨N-(i+1),by omega,rfl,hlt,sm.trans s4,?_⟩) (fun k H4 s4=>⟨N-(i+1),by omega,rfl,hlt,sm.trans s4,?_⟩)
   ·rw[List.range_succ,List.filter_append,Z4];simp[k]
   ·rw[List.range_succ,List.filter_append,Z4];simp[k]
 ·have e:i=N:=by omega
  subst e;exact .inl ⟨hst H sm,fun p hp=>hq p H sm hp⟩
def xC:R2:=fun x y H Q=>∃a b xs ys,x=.ref a/\y=.ref b/\H a=some (.tup xs)/\H b=some (.tup ys)/\xs.length+ys.length<=sizeLine/\∀p H',Same H H'->H' p=some (.tup (xs++ys))->Q (.ref p) H'
section
variable{X:Cx}
theorem yD:OpR X (binaryOp .Add) xC:=by
 intro pins s σ H x y v u Q I rx ry h;obtain⟨a,b,xs,ys,rfl,rfl,ha,hb,hz,q⟩:=h;by_cases hx:xs=[]
 ·cases rx;cases ry;obtain⟨its,r1,p1,_⟩:=I.tuple (SqT.of (K:=X.K) ha);obtain⟨its2,r2,p2,_⟩:=I.tuple (SqT.of (K:=X.K) hb);obtain⟨⟨cls,dd,data,sl⟩,ho,hc,n,hd⟩:=id p1;obtain⟨⟨cls2,dd2,data2,sl2⟩,ho2,hc2,n2,hd2⟩:=id p2;simp only at hc hd hc2 hd2;subst hc hd hc2 hd2;have e:its=[]:=r1.nil_iff.mpr hx;subst e;refine PySem.concat_meets ⟨_,ho,rfl⟩ ⟨_,ho2,rfl⟩ noFill_tuple_add seq_tuple_add PySem.F.slot_tuple_add PySem.F.entry_tuple_add (PySem.F.args_tuple_add_2 _ _)
   (tuple_addW0 a b _ its2.toArray n n2 dd dd2 sl sl2 (by simp)) ⟨ho,ho2,⟨.ref b,H,I,rfl,q b H (Same.refl H) ?_⟩⟩
  rw[hx];exact hb
 ·exact yE pins s σ H _ _ v u Q I rx ry ⟨a,b,xs,ys,rfl,rfl,SqT.of ha,SqT.of hb,hx,hz,fun e=>q a H (Same.refl H) (by rw[e,Z3];exact ha),fun _ p hp=>q p _ (aj hp _) af⟩
theorem ir:QOp X (binaryOp .Add) xC:=⟨yD⟩
theorem oX{n d:Nat}{h:Int}(h0:0<=h):HT.sIx n d (some h)=min h.toNat n:=by have e:=HT.sIx_nat n d h.toNat;rw[show((h.toNat:Nat):Int)=h by omega]at e;exact e
variable{K:PySem.W.Frag}(hK:X.K=K)
include hK
theorem pF:QIx X (sj K):=by subst hK;exact aC
omit hK
end
open PySem PySem.Spec PyProof.Rows PySem.W
section
variable{X:Cx}
theorem qI{st:Stmt}:QS X st (fun _ _ _=>False):=⟨fun _ _ _ _ _ _ h=>h.elim⟩
theorem tW:QOp X (compareOp .IsNot) (fun x y H Q=>∃b c,x=.bl b/\y=.bl c/\Q (.bl (!decide (b=c))) H):=by refine⟨?_⟩;intro pins s σ H x y v u Q I rx ry h;obtain⟨b,c,rfl,rfl,q⟩:=h;cases rx;cases ry;cases b<;>cases c<;>exact z9 ⟨.bl _,H,I,rfl,q⟩
variable{o e d:Expr}{to te td:TE}{apos cpos:Pos}
theorem hZ{prog:Program}{w:World}{A:Around}{E:Value->Shared->Prop}{s:Shared}{t sl:Addr}{items:Array Value}{vl vu:Value}{lo hi:Option Int}{Q:Value->Shared->Prop}(ht:IsTup s.heap t items)(hs:s.heap.IsSliceOf sl vl vu .none)(pl:IsPart vl lo)(pu:IsPart vu hi)(hw:HT.sIx items.size 0 lo=0/\HT.sIx items.size items.size hi=items.size)(h:Q (.ref t) s):wpAny (model prog w) A (getItem (.ref t) (.ref sl)) Q E s:=by
 obtain⟨os,hos,hcs,hds⟩:=id hs;have hTs:s.TypeIs (.ref sl) "slice":=⟨os,hos,hcs⟩
 unfold getItem
 try with_reducible refine Z0 ?_
 first|refine z6 (z9 ?_)|skip
 refine z6 (wpAny_sequenceKey ht.typeIs (by decide) ?_);refine z6 (ZY (name:=Str.ofString "__getitem__") ht.typeIs y3
  (Z1 y3 ht.typeIs entry_tuple_getitem ?_ (args_tuple_getitem _ _)))
 show wpAny _ _ (Builtin.Tuple.tupleItemsOf (.ref t) >>= _) _ _ s;refine z6 (tupleItemsOf_ ht ?_);refine z6 (wpAny_typeOf hTs ?_);rw[if_pos (by decide)];refine z6 (HT.sliceApplied_gen hs pl pu ?_);show wpAny _ _ (if(((HT.sIx items.size 0 lo:Nat):Int)==0&&(1:Int)==1&&(HT.sIx items.size items.size hi-HT.sIx items.size 0 lo)==items.size)=true then _ else _) _ _ s;rw[if_pos (by rw[hw.1,hw.2];simp)];refine z6 (m:=Builtin.Tuple.tupleIsExact _) ?_;unfold Builtin.Tuple.tupleIsExact;refine z6 (wpAny_typeOf ht.typeIs (z9 ?_));rw[if_pos (by decide)];exact z6 (ZU (z9 ⟨_,rfl,z9 h⟩))
def CZ:V->Option Int->Option Int->Hp->VK->Prop:=fun x lo hi H Q=>∃a xs,x=.ref a/\H a=some (.tup xs)/\∀p H',Same H H'->H' p=some (.tup (bM xs lo hi))->Q (.ref p) H'
theorem cZ:QSl X CZ:=by
 refine⟨?_⟩;intro pins s σ H x v vl vu lo hi sl Q I rx hs pl pu h;obtain⟨a,xs,rfl,hx,q⟩:=h;by_cases hw:HT.sIx xs.length 0 lo=0/\HT.sIx xs.length xs.length hi=xs.length
 ·cases rx;obtain⟨its,r,ht,hz⟩:=I.tuple (SqT.of (K:=X.K) hx);have hlen:its.toArray.size=xs.length:=by rw[Zf];exact r.length.symm
  refine⟨"tuple",_,y3.lookup,ht.typeIs,hZ ht hs pl pu (by rw[hlen];exact hw) ⟨.ref a,H,I,rfl,q a H (Same.refl H) ?_⟩⟩;unfold bM;rw[hw.1,hw.2,List.drop_zero,Nat.sub_zero,List.take_length];exact hx
 ·exact BF pins s σ H _ v vl vu lo hi sl Q I rx hs pl pu ⟨a,xs,rfl,SqT.of hx,hw,fun p hp=>q p _ (aj hp _) af⟩
end
section
variable{prog:Program}{w:World}{A:Around}{s:Shared}{fin:Bool}{Q:Bool->Shared->Prop}
theorem jg(ns:List Int):∀(ms:List Int) (vs ws:List Value) (i:Nat),IntsAre vs ns->IntsAre ws ms->fin=decide (ns.length<ms.length)->Q (HT.lexLt ns ms) s->KatLex prog w A true fin Q (vs.zip ws) i s:=by
 induction ns with
 |nil =>
  intro ms vs ws i a b hf q;subst hf;cases a;cases b with
  |nil=>exact kat_nil q
  |cons _ _ _=>exact kat_nil (by rw[decide_eq_true (by simp)];exact q)
 |cons x ns ih =>
  intro ms vs ws i a b hf q;cases a with
  |cons _ t h1 =>
  cases b with
  |nil =>subst hf;exact kat_nil q
  |cons y u h2 =>
  obtain⟨e,he,iff⟩:=HT.eqAt_int A s x t y u;rw[HT.lexLt_cons]at q;refine kat_cons (he _ _ _ _ (kat_go (fun et=>?_) (fun ef=>?_)))
  ·rw[if_pos (iff.mp et)]at q;exact kat_yes (ih _ _ _ (i+1) h1 h2 (by rw[hf];simp) q)
  ·have hne:x≠y:=fun z=>by rw[iff.mpr z]at ef;cases ef
   rw[if_neg hne]at q;refine kat_no ?_;cases i with
   |zero=>exact oneLt_int q
   |succ i=>exact kat_one _ _ (PyProof.Rows.lt_int q)
end
section
variable{X:Cx}{pins:List (Addr×Obj)}{σ:St}{H:Hp}{s:Shared}{h':Heap}
theorem eO{P:Program}{w:World}{H:Hp}{h:Heap}{a:Addr}{o:HO}(x:ObjOk P w H h a o):∃ob,h.get? a=some ob:=by
 cases o with
 |lst xs =>obtain⟨_,_,_,_,e⟩:=x;exact⟨_,e⟩
 |tup xs =>obtain⟨_,_,_,ob,e,_⟩:=x;exact⟨ob,e⟩
 |dK kvs =>obtain⟨_,_,_,_,ob,_,_,e,_⟩:=x;exact⟨ob,e⟩
 |dT kvs =>obtain⟨_,_,_,_,ob,_,_,e,_⟩:=x;exact⟨ob,e⟩
 |set S n =>obtain⟨ob,_,_,_,e,_⟩:=x;exact⟨ob,e⟩
 |ins C dx fs =>obtain⟨_,_,_,e,_⟩:=x;exact⟨_,e⟩
 |own y=>exact x
 |xd fs =>obtain⟨_,⟨ob,_,_,e,_⟩,_⟩:=x;exact⟨ob,e⟩
 |rng lo hi =>obtain⟨_,_,_,e⟩:=x;exact⟨_,e⟩
 |frz ob u=>exact⟨ob,x.1⟩
 |tbl ps=>exact⟨_,x⟩
 |met f y=>exact⟨_,x⟩
 |ext φ=>exact x.2.1
theorem none_of(I:Inv X pins σ H s){a:Addr}(hg:s.heap.get? a=none):H a=none:=by
 cases q:H a with
 |none=>rfl
 |some u =>obtain⟨ob,e⟩:=eO (I.hok a u q);rw[hg]at e;cases e
theorem Inv.laidF{a:Addr}{o:HO}{t':Nat}(I:Inv X pins σ H s)(k:∀b u,b≠X.env.locals->s.heap.get? b=some u->h'.get? b=some u)(hn:∃m,s.heap.Ns X.env.locals m/\h'.Ns X.env.locals m)(hg:s.heap.get? a=none)(new:ObjOk X.prog X.w (upd H a o) h' a o):Inv X pins σ (upd H a o) { s with heap:=h',toks:=t' }:=by
 have fr:=none_of I hg;have ne:∀{b:Addr} {u:HO},H b=some u->b≠a:=fun{b u} e=>ag e fr;have lt:∀{b:Addr} {u:Obj},s.heap.get? b=some u->b≠a:=fun{b u} e z=>by rw[z,hg]at e;cases e
 have neL:∀{b:Addr} {u:HO},H b=some u->b≠X.env.locals:=fun{b u} e=>ag e I.free;refine I.step (g':=s.gens) (d':=s.drawn) (ch:=[]) (fun b hb=>by simp at hb) (fun b o hL _ _ e _=>k b o hL e) (fun b o hL _ _ e _=>⟨o.slots,k b o hL e⟩) (fun b o _ e n=>by rw[ad (lt e)];exact n) (fun b o _ e=>?_)
  (fun b xs e=>by rw[ad (ne e)];exact e) (fun b o u e=>by rw[ad (ne e)];exact e) (fun b ps e=>⟨#[],by rw[ad (ne e),e];simp⟩) (fun m' hm'=>?_) (fun b u e=>?_) I.bare
 ·by_cases hL:b=X.env.locals
  ·obtain⟨m,_,o',_,_,e',_⟩:=hn;exact⟨o',by rw[hL];exact e'⟩
  ·exact⟨o,k b o hL e⟩
 ·obtain⟨m,h1,h2⟩:=hn;rw[hm'.eq_nsMap,<-h1.eq_nsMap];exact h2
 ·by_cases hb:b=a
  ·subst hb;rw[af]at e;cases e;exact new
  ·rw[ad hb]at e;refine(I.hok b u e).stay (fun c v hc q=>k c v ?_ q) (fun c q=>by rw[ad (ne q)];exact q) fun c ys q=>by rw[ad (ne q)];exact q
   rcases hc with z|z
   ·rw[z];exact neL e
   ·exact neL z
def kE(base h:Heap)(L:Addr):List (Addr×Obj):=(List.range h.objs.size).filterMap fun b=>if b=L\/(base.get? b).isSome=true then none else(h.get? b).map fun o=>(b,o)
theorem fK(base h:Heap)(L:Addr):News base L h (kE base h L):=fun p hp=>by
 obtain⟨b,_,e⟩:=YB.mp hp;by_cases c:b=L\/(base.get? b).isSome=true
 ·rw[if_pos c]at e;cases e
 ·rw[if_neg c]at e;cases q:h.get? b with
  |none=>rw[q]at e;cases e
  |some o =>
   rw[q]at e;cases e;refine⟨q,fun z=>c (.inl z),?_⟩;cases z:base.get? b with
   |none=>rfl
   |some u=>exact absurd (.inr (by rw[z];rfl)) c
theorem bQ{base h:Heap}{L b:Addr}{o:Obj}(e:h.get? b=some o)(hL:b≠L)(hb:base.get? b=none):(b,o)∈kE base h L:=by refine YB.mpr ⟨b,Yr.mpr (Zm e),?_⟩;rw[if_neg (by rintro(z|z);exact hL z;rw[hb]at z;cases z),e];rfl
end
theorem cc(ns:List Int):SeqAt.shaped (.tuple (ns.map .int))=true:=by
 unfold SeqAt.shaped;rw[ZB];refine⟨?_,?_⟩
 ·simp only[PyData.canLay0];exact PyProof.Rows.canLayAll_ints ns
 ·refine decide_eq_true ?_;simp only[PyData.depth];rw[PyProof.Rows.depthAll_ints ns];decide
theorem je:∀(ns ms:List Int),PyData.eqvAll (ns.map .int) (ms.map .int)=decide (ns=ms)
 | [],[]=>by simp[PyData.eqvAll]
 | [],_::_=>by simp[PyData.eqvAll]
 |_::_,[]=>by simp[PyData.eqvAll]
 |x::ns,y::ms=>by simp only[Zz,PyData.eqvAll,PyData.eqv];rw[je ns ms,Bool.eq_iff_iff];simp
theorem gi(ns ms:List Int):PyData.eqv (.tuple (ns.map .int)) (.tuple (ms.map .int))=decide (ns=ms):=by simp only[PyData.eqv];exact je ns ms
theorem eG{H:Hp}{a:Addr}{ns:List Int}(h:H a=some (.tup (ns.map V.int))):Dt H (.tuple (ns.map .int)) (.ref a):=by simp only[Dt];exact⟨a,_,rfl,Rd.of h,pY ns⟩
section
variable{X:Cx}
theorem AD(hu:X.A.units+64<cLine):QOp X (compareOp .Eq) (fun x y H Q=>∃(a b:Addr) (ns ms:List Int),x=.ref a/\y=.ref b/\H a=some (.tup (ns.map V.int))/\H b=some (.tup (ms.map V.int))/\Q (.bl (decide (ns=ms))) H):=by refine⟨?_⟩;intro pins s σ H x y v u Q I rx ry h;obtain⟨a,b,ns,ms,rfl,rfl,ha,hb,q⟩:=h;exact ue hu pins s σ H _ _ v u Q I rx ry ⟨_,_,eG ha,eG hb,cc ns,cc ms,by rw[gi];exact q⟩
theorem tV(hu:X.A.units+64<cLine):QOp X (compareOp .NotEq) (fun x y H Q=>∃(a b:Addr) (ns ms:List Int),x=.ref a/\y=.ref b/\H a=some (.tup (ns.map V.int))/\H b=some (.tup (ms.map V.int))/\Q (.bl (!decide (ns=ms))) H):=by refine⟨?_⟩;intro pins s σ H x y v u Q I rx ry h;obtain⟨a,b,ns,ms,rfl,rfl,ha,hb,q⟩:=h;exact ug hu pins s σ H _ _ v u Q I rx ry ⟨_,_,eG ha,eG hb,cc ns,cc ms,by rw[gi];exact q⟩
end
theorem gC{x:V}{A B:Prop}(h:x≠.non)(hA:A):if(!decide (x=.non))=true then A else B:=by rw[decide_eq_false h];exact ce hA
theorem Ca{x:V}{A B:Prop}(h:x≠.non)(hB:B):if decide (x=.non)=true then A else B:=by rw[decide_eq_false h];exact aF hB
theorem Cb{c A B:Prop}[Decidable c](h:c)(hA:A):if decide c=true then A else B:=by rw[decide_eq_true h];exact ce hA
theorem il{c A B:Prop}[Decidable c](h1:c->A)(h2:¬c->B):if decide c=true then A else B:=by
 by_cases h:c
 ·exact Cb h (h1 h)
 ·rw[decide_eq_false h];exact aF (h2 h)
open PySem PySem.Spec PyProof.Rows
structure CompOk1(X:Cx)(scope:Scope)(cx:Str)(cap:List Nat)(capN:List Str):Prop where
 kind:scope.kind=.function
 names:∀x∈scope.names,x.2=.local->scope.names.lookup x.1=some .local
 onecell:∀y∈scope.names,y.2=.cell->y.1=cx
 own:scope.names.lookup cx=some .cell
 cf:∀(n:Nat) (acc:List (Str×Addr)),cellsFrom n scope.names acc=(cx,n)::acc
 pc:∀h:Heap,pushCells h scope.names=h.push { cls:=.type "cell",data:=.cell none }
 frees:(scope.names.all fun y=>!(y.2==NameKind.free) ||(X.env.kindOf y.1==some .cell ||X.env.kindOf y.1==some .free))=true
 cap:CapOk X scope cap capN
open PySem PySem.Spec PyProof.Rows PySem.W
def cv(h:Heap)(e:Addr)(dc:Option Addr):Prop:=∃o,h.get? e=some o/\o.dict=dc
theorem lc(f:Array Value->Array Value)(o:Obj):(Obj.mapFields f o).dict=o.dict:=by unfold Obj.mapFields;split<;>rfl
section
variable{M:Model}{A:Around}{E:Value->Shared->Prop}{s:Shared}{base:Heap}{env:Env}{outer l:List Env}{L e:Addr}
theorem jl{oe:Obj}{vs:Array Value}{hd0 a0:Value}{nx:Bool}{Q:Unit->Shared->Prop}(fr:A.frames=some (env::outer))(ff:s.heap.FunFrames base (env::outer))(ef:env.frame=some L)(he:s.heap.get? e=some oe)(kb:base.StaysIn s.heap)(en:base.get? e=none)(dt:oe.data=.fields vs)(sz:1<vs.size)(v0:vs[0]?=some a0)(k:∀h',Heap.NotedW base (env::outer) e oe.cls a0 (rawInt L) s.heap h'->cv h' e oe.dict->Q () { s with heap:=h' }) :
  wpAny M A (do let a ←frameOf env;let pl ←entryPlaceOf L nx;let b ←EntryCells.newEntry hd0 a .none (rawInt L) .none pl;setField (.ref e) 1 b) Q E s:=by
 have nf:e∉(env::outer).filterMap (·.frame):=fun hm=>by obtain⟨_,o,ho,hn⟩:=ff.mem hm;cases Zs (he.symm.trans ho);exact hn vs dt
 refine z6 (wpAny_frameOf_fun fr ff ef fun h1 k1=>z6 (wpAny_entryPlaceOf fun pl hpl=>?_));unfold EntryCells.newEntry newFields;refine z6 (Z9 ?_ (hpl.sizeOk5 _ _ _ _ _));have t3:([hd0,.ref L,.none,rawInt L,.none]++(if pl.isEmpty then List.replicate 6 Value.none else pl)).toArray[3]?=some (rawInt L):=by simp
 generalize([hd0,.ref L,.none,rawInt L,.none]++(if pl.isEmpty then List.replicate 6 Value.none else pl)).toArray=ts at t3 ⊢;have g1:h1.get? e=some oe:=(k1.2.1 e nf).trans he;have st1:base.StaysIn h1:=fun b o hb=>(k1.2.1 b fun hm=>nomatch(hb.symm.trans (ff.mem hm).1)).trans (kb b o hb);have gp:(h1.push { cls:=.type "traceback",data:=.fields ts }).get? e=some oe:=Za _ g1;have ne:h1.objs.size≠e:=Yk (Zm g1);have dm:=Yg dt (·.setIfInBounds 1 (Value.ref h1.objs.size));have self:=Yp (Obj.mapFields (·.setIfInBounds 1 (Value.ref h1.objs.size))) gp (Obj.isFreed_of_fields dm);have atT:=(Yl (h1.push { cls:=.type "traceback",data:=.fields ts }) (Obj.mapFields (·.setIfInBounds 1 (Value.ref h1.objs.size))) (ZM ne)).trans (Zo h1 rfl);have oth:∀b o,b≠e->h1.get? b=some o->((h1.push { cls:=.type "traceback",data:=.fields ts }).update e (Obj.mapFields (·.setIfInBounds 1 (Value.ref h1.objs.size)))).get? b=some o:=fun b o n q=>(Yl _ _ (ZM n)).trans (Za _ q);have nrec:∀b o,s.heap.get? b=some o->(∀ws,o.data≠.fields ws)->b≠e:=fun b o q hn z=>by subst z;cases Zs (he.symm.trans q);exact hn vs dt
 refine YJ gp dt sz (k _ ⟨fun b o q=>oth b o (fun z=>nomatch((z▸q).symm.trans en)) (st1 b o q),ff.of_keeps fun b o q hn=>?_,?_,fun b o q hn=>?_⟩ ⟨_,self,lc _ _⟩)
 ·obtain⟨sl,hs⟩:=k1.2.2 b o q;exact⟨_,oth b _ (nrec b o q hn) hs,rfl⟩
 ·exact⟨_,_,h1.objs.size,_,ts,self,⟨Obj.cls_mapFields _ _,by rw[Array.getElem?_setIfInBounds_ne (by decide)];exact v0⟩,dm,by simp[sz],st1.fresh,ne,atT,rfl,t3⟩
 ·obtain⟨sl,hs⟩:=k1.2.2 b o q;exact⟨sl,oth b _ (nrec b o q hn) hs⟩
theorem rB{cls a0 fl:Value}{dc:Option Addr}{Q:Unit->Shared->Prop}(kb:base.StaysIn s.heap)(ff:s.heap.FunFrames base l)(tr:s.heap.TracedAtW base e cls a0 fl)(dd:cv s.heap e dc)(k:∀h',base.StaysIn h'->h'.FunFrames base l->h'.TracedW base e cls a0->s.heap.UpToSlots h'->cv h' e dc->Q () { s with heap:=h' }):wpAny M A (setFlight (.ref e) none) Q E s:=by
 obtain⟨oe,vs,T,oT,ts,he,hc,dt,v1,nT,ne,hT,dT,t3⟩:=tr;have z3:3<ts.size:=(Yx.mp t3).1;have oth:∀b,b≠T->(s.heap.update T (Obj.mapFields (·.setIfInBounds 3 ((none:Option Addr).elim Value.none fun f=>rawInt f)))).get? b=s.heap.get? b:=fun b n=>Yl _ _ (ZM n);have nrec:∀b o,s.heap.get? b=some o->(∀ws,o.data≠.fields ws)->b≠T:=fun b o q hn z=>by subst z;cases Zs (hT.symm.trans q);exact hn ts dT
 unfold setFlight;refine z6 (ZW he dt v1 ?_);rw[if_pos (by simp:(Value.ref T != Value.none)=true)];refine YJ hT dT z3 (k _ (fun b o q=>(oth b fun z=>nomatch((z▸q).symm.trans nT)).trans (kb b o q)) (ff.of_keeps fun b o q hn=>⟨o,(oth b (nrec b o q hn)).trans q,rfl⟩) ?_ (fun b o q hn=>⟨o.slots,(oth b (nrec b o q hn)).trans q⟩) ?_)
 ·exact⟨oe,vs,T,_,_,(oth e (ZM ne)).trans he,hc,dt,v1,nT,ne,Yp _ hT (Obj.isFreed_of_fields (Yg dT _)),Yg dT _,by simp[z3]⟩
 ·obtain⟨o,q,d⟩:=dd;exact⟨o,(oth e (ZM ne)).trans q,d⟩
theorem rP{cls a0:Value}{dc:Option Addr}{Q:Unit->Shared->Prop}(fr:A.frames=some (env::outer))(ef:env.frame=some L)(fl:Heap.FlyingW base (env::outer) e cls a0 s.heap)(dd:cv s.heap e dc)(k:∀h',Heap.HeldW base (env::outer) e cls a0 L h'->s.heap.UpToSlots h'->cv h' e dc->Q () { s with heap:=h' }):wpAny M A (noteFrame (.ref e) env) Q E s:=by
 obtain⟨f1,f2,f3,oe,vs,T,oT,ts,he,hc,dt,v1,nT,ne,hT,dT,t3⟩:=fl;obtain⟨o2,q2,d2⟩:=dd;cases Zs (he.symm.trans q2);have z3:3<ts.size:=(Yx.mp t3).1;unfold noteFrame;simp only[ef];refine z6 (ZW he dt v1 ?_);rw[if_pos (by simp:(Value.ref T != Value.none)=true)];refine z6 (ZW hT dT t3 ?_);rw[if_neg (by simp[rawInt]:¬(Value.none==rawInt L)=true)];refine z6 (YJ hT dT z3 ?_);have oth:∀b,b≠T->(s.heap.update T (Obj.mapFields (·.setIfInBounds 3 Value.none))).get? b=s.heap.get? b:=fun b n=>Yl _ _ (ZM n);have nrec:∀b o,s.heap.get? b=some o->(∀ws,o.data≠.fields ws)->b≠T:=fun b o q hn z=>by subst z;cases Zs (hT.symm.trans q);exact hn ts dT
 have sz:1<vs.size:=(Yx.mp v1).1;refine jl (s:={ s with heap:=s.heap.update T (Obj.mapFields (·.setIfInBounds 3 Value.none)) }) fr (f3.of_keeps fun b o q hn=>⟨o,(oth b (nrec b o q hn)).trans q,rfl⟩) ef ((oth e (ZM ne)).trans he) (fun b o q=>(oth b fun z=>nomatch((z▸q).symm.trans nT)).trans (f1 b o q)) f2 dt sz hc.2 fun h' nt dd=>?_;obtain⟨n1,n2,n3,n4⟩:=nt;rw[hc.1]at n3;rw[d2]at dd;exact k h' ⟨n1,f2,n2,n3⟩ (fun b o q hn=>n4 b o ((oth b (nrec b o q hn)).trans q) hn) dd
end
open PySem PySem.Spec PyProof.Rows PySem.W
section
variable{X:Cx}
theorem zX:QCall X (.builtin "len") (fun xs H Q=>∃x:Str,xs=[.str x]/\x.length<=1000/\Q (.int (x.length:Int)) H):=by refine⟨?_⟩;intro pins s σ H xs us Q I r h;obtain⟨x,rfl,hz,q⟩:=h;obtain⟨u,rfl,rx⟩:=ee r;obtain⟨t,rfl⟩:=rx;exact PyProof.Rows.len_str (by omega) ⟨.int x.length,H,I.tok _,⟨_,rfl⟩,q⟩
end
theorem vI{v:V}{A B:Prop}(hA:A):if decide (v=v)=true then A else B:=by rw[decide_eq_true rfl];exact ce hA
theorem fG{v u:V}{A B:Prop}(h:v≠u)(hB:B):if decide (v=u)=true then A else B:=by rw[decide_eq_false h];exact aF hB
theorem nZ{P:Program}{w:World}{K:PySem.W.Frag}{mg:Str->Option Value}{base:Heap}{k:Nat}{f:Addr}{fd:FuncData}{ps:List Str}:FnOk P w K mg base CX0 k f fd ps (fun _ _ _ _=>False):=⟨fun _ _ _ _ h=>h.elim,fun _ _ _ _ _ _ _ _ _ _ _ _ _ h=>h.elim⟩
inductive TV where
 |flat (v:V)
 |tup (xs:List V)
def nq:V->Value->Bool
 |.non,.none=>true
 |.bl b,.bool c=>b==c
 |.int i,.int j _=>i==j
 |.str x,.str y _=>x==y
 |_,_=>false
theorem mD:∀{v:V} {u:Value},nq v u=true->RelV v u:=by
 intro v u h;unfold nq at h;split at h
 ·exact rfl
 ·obtain rfl:=ZS.mp h;exact rfl
 ·obtain rfl:=ZS.mp h;exact⟨_,rfl⟩
 ·obtain rfl:=ZS.mp h;exact⟨_,rfl⟩
 ·cases h
def pE:List V->List Value->Bool
 | [],[]=>true
 |v::vs,u::us=>nq v u&&pE vs us
 |_,_=>false
theorem jp:∀{vs:List V} {us:List Value},pE vs us=true->Vals vs us
 | [],[],_=>.nil
 |_::_,_::_,h=>by have h:=(ZB _ _).mp h;exact .cons (mD h.1) (jp h.2)
 | [],_::_,h=>nomatch h
 |_::_,[],h=>nomatch h
def iH(K:PySem.W.Frag):TV->Value->Bool
 |.flat v,u=>nq v u
 | .tup xs,.ref a=>(match K.lookup a with
  |some o=>o.cls == .type "tuple"&&(match o.data with|.seq its _=>decide (its.size<=1000)&&pE xs its.toList|_=>false)
  | none=>false)
 |_,_=>false
def zV(K:PySem.W.Frag):TV->Value->Prop
 |.flat v,u=>RelV v u
 |.tup xs,u=>∃a,u=.ref a/\∀H,SqT K H a xs
theorem CF{K:PySem.W.Frag}(d:TV)(u:Value)(h:iH K d u=true):zV K d u:=by
 unfold iH at h;split at h
 ·exact mD h
 ·rename_i xs a;split at h
  ·rename_i o ho;obtain⟨e1,e2⟩:=(ZB _ _).mp h;split at e2
   ·rename_i its n hd;obtain⟨e3,e4⟩:=(ZB _ _).mp e2;exact⟨a,rfl,fun H=>.inr ⟨o,its,n,ho,ZS.mp e1,hd,bG (y0 e3),jp e4⟩⟩
   ·cases e2
  ·cases h
 ·cases h
structure Tab(K:PySem.W.Frag)(a:Addr)(D:List (Str×TV)):Prop where
 look:KTD.tabLook (iH K) (fun b=>K.lookup b) a D=true
theorem Tab.at{K:PySem.W.Frag}{a:Addr}{D:List (Str×TV)}(T:Tab K a D){h:Heap}(X:K.In h):KTD.TabOf (zV K) h a D:=KTD.tab_of_look CF (fun b o e=>X b o e) T.look
section
variable{prog:Program}{w:World}{A:Around}{E:Value->Shared->Prop}{s:Shared}{d:Addr}{o:Obj}{es:Array DictEntry}{ep:Nat}{x:Str}{tx:Tok}
theorem zw{Q:Option Value->Shared->Prop}(ho:s.heap.get? d=some o)(hd:o.data=.dict es ep)(hall:(es.all fun e=>isExactStrKey e.key)=true)(h:Q ((es.toList.find? fun e=>e.key.isStr x).map (·.val)) { s with toks:=s.toks+1 }) :
  wpAny (model prog w) A (dictGet d (.str x tx)) Q E s:=by
 unfold dictGet;(try with_reducible (refine Z0 ?_))
 refine z6 (wpAny_pyHash_str (z6 (KTD.kt_dictFind_strs (s:={ s with toks:=s.toks+1 }) ho hd hall ?_)));have hq:Q (findBy (fun y v=>v.isStr y) es x) { s with toks:=s.toks+1 }:=by
  have hf:findBy (fun y v=>v.isStr y) es x=(es.toList.find? fun e=>e.key.isStr x).map (·.val):=by obtain⟨l⟩:=es;simp[findBy]
  rw[hf];exact h
 rw[findBy_of_findIdx?]at hq;cases hi:es.findIdx? fun e=>e.key.isStr x<;>rw[hi]at hq
 ·exact z9 hq
 ·exact z6 (Yt (s:={ s with toks:=s.toks+1 }) ho hd (z9 hq))
theorem wO{Q:Value->Shared->Prop}{v:Value}(ex:o.ExactDict)(ho:s.heap.get? d=some o)(hd:o.data=.dict es ep)(hall:(es.all fun e=>isExactStrKey e.key)=true)(hv:(es.toList.find? fun e=>e.key.isStr x).map (·.val)=some v)(h:Q v { s with toks:=s.toks+1 }):wpAny (model prog w) A (getItem (.ref d) (.str x tx)) Q E s:=by
 have T:s.TypeIs (.ref d) "dict":=⟨o,ho,ex.1⟩
 unfold getItem;(try with_reducible (refine Z0 ?_))
 refine z6 (wpAny_sequenceKey T (by decide) (z6 (ZY (name:=Str.ofString "__getitem__") T slot_dict_getitem (Z1 slot_dict_getitem T entry_dict_getitem ?_ (args_dict_getitem _ _)))));show wpAny _ _ (dictGet d (.str x tx) >>= _) _ _ _;refine z6 (zw ho hd hall ?_);rw[hv];exact z9 ⟨v,rfl,z9 h⟩
end
section
variable{X:Cx}
def Bu(K:PySem.W.Frag):R2:=fun x y H Q=>∃a k D d,x=.ref a/\y=.str k/\Tab K a D/\KTD.datumAt k D=some d/\(match d with|.flat v=>Q v H|.tup xs=>∀t,(∀H',SqT K H' t xs)->Q (.ref t) H)
theorem xQ:QIx X (Bu X.K):=by
 refine⟨?_⟩;intro value slice pins s σ H x y v u Q I rx ry h hs;obtain⟨a,k,D,d,rfl,rfl,T,hk,q⟩:=h;obtain⟨t,rfl⟩:=ry;cases rx;obtain⟨sy,o,es,ep,ho,ex,hd,hr⟩:=T.at I.kIn;obtain⟨v,hv,ok⟩:=hr.find_some hk;have fin:EP X pins σ Q v { s with toks:=s.toks+1 }:=by
  cases d with
  |flat z=>exact⟨z,H,I.tok _,ok,q⟩
  |tup xs =>obtain⟨t,rfl,e⟩:=ok;exact⟨.ref t,H,I.tok _,rfl,q t e⟩
 exact subscriptTail_builtinR (x:=v) (⟨o,ho,ex.1⟩:s.TypeIs (.ref a) "dict") slot_dict_getitem.lookup (wO (Q:=fun r s'=>r=v/\EP X pins σ Q r s') ex ho hd (by obtain⟨l⟩:=es;simpa using hr.exact) hv ⟨rfl,fin⟩) hs
theorem Bp{x:Str}{a:Addr}{pos:Pos}(hm:X.mg x=some (.ref a))(hg:Gl X x:=by rfl)(hd:(x==("__debug__":Str))=false:=by decide):QE X (.Name x pos) (tC (.ref a)):=⟨qv hg hm rfl hd⟩
end
open PySem PySem.Spec PyProof.Rows PySem.W
def CXr(P:Program)(w:World):CXT:=fun outer H s E e s' =>
 ∃(ea t:Addr) (C:Value) (vs:List Value) (B:Heap) (H':Hp) (dc:Option Addr),e=.ref ea/\s'.os=s.os/\AllBare s'.gens/\Un (frs outer) [] H H' s.heap s'.heap/\HOk P w H' s'.heap /\
  Heap.FlyingW B outer ea C (.ref t) s'.heap/\s'.heap.TupAt t vs/\B.get? t=none/\(∀b o,b∉frs outer->((∃u,H' b=some u)\/∃o0,s.heap.get? b=some o0)->s'.heap.get? b=some o->B.get? b=some o)/\cv s'.heap ea dc/\E C dc H'
structure ExCls(K:PySem.W.Frag)(C:Addr):Prop where
 cls:∀h,K.In h->∃nm q N bs bm hdct sn sub ab col dd k0 k1 k2 k3 k5 mN,h.get? C=some (excClassObj nm q C N bs bm hdct sn sub ab col dd k0 k1 k2 k3 k5 "ValueError.__new__")/\h.Ns N mN/\mN "__init__" = none/\bm.contains (.type "BaseException")=true /\
  OwnTail h [.type "ValueError",.type "Exception",.type "BaseException",.type "object"] bm
def sF(X:Cx)(EC:Value->Hp->Prop):Prop:=∀(pins:List (Addr×Obj)) (σ:St) (H1:Hp) (s1:Shared) (h2:Heap) (e:Addr) (C:Value) (vs:List Value),Inv X pins σ H1 s1->Heap.MadeExcOf s1.heap h2 e C vs->EC C H1->X.xe (.ref e) { s1 with heap:=h2 }
section
variable{X:Cx}{EC:Value->Hp->Prop}{C:Addr}{x:Str}{np cpos pos:Pos}{e:Expr}{es:List Expr}{ta:TA}
theorem iW(hR:sF X EC)(hc:X.calm=true)(cl:ExCls X.K C)(hm:X.mg x=some (.ref C))(ha:QA X (e::es) ta)(hg:Gl X x:=by rfl)(hs:(e::es).all ax=true:=by rfl)(hdb:(x==("__debug__":Str))=false:=by decide) :
  QS X (.Raise (some (.Call (.Name x np) (e::es) [] cpos)) none pos) (fun _ σ H=>ta σ H fun vs H1=>vs.length<=sizeLine/\EC (.ref C) H1):=by
 refine⟨?_⟩;intro pins s σ H D I h;obtain⟨nm,q,N,bs,bm,hdct,sn,sub,ab,col,dd,k0,k1,k2,k3,k5,mN,hC,hN,hni,hb,T⟩:=cl.cls X.base I.ok.mod.kin;have hs1:ax e=true:=by have:=YA.mp hs e (by simp);exact this
 have he:=aw (es:=es) (env:=X.env) hs1;have hpl:(backTo cpos (starEach es X.env)).any (·.1)=false:=aZ (by
  rw[YA];intro y hy;exact YA.mp hs y (Zh _ hy))
 refine wpAny_Raise_call_subT (nm:=nm) (q:=q) (C:=C) (N:=N) (bs:=bs) (hdct:=hdct) (sn:=sn) (sub:=sub) (ab:=ab) (col:=col) (dd:=dd) (k0:=k0) (k1:=k1) (k2:=k2) (k3:=k3) (k5:=k5) PySem.F.excBase_ValueError hb (I.ok.hd hc) ?_ hni (fQ I hg hm ⟨rfl,?_⟩ hdb)
 ·rw[he];show(false ||(backTo cpos (starEach es X.env)).any (·.1))=false;rw[hpl];rfl
 ·have hA:=ha.h cpos pins s σ H _ I h;rw[he]at hA ⊢;refine Calls.evalArgs_plain (thn hA fun us s1 ⟨vs,H1,I1,r1,hz,hE⟩=>⟨rfl,by rw[<-r1.length];exact hz,I1.bk _ _ hC,hN.keeps I1.bk,T.keeps I1.bk,fun h' ea hm=>hR pins σ H1 s1 h' ea _ _ I1 hm hE⟩)
end
open PySem PySem.Spec PyProof.Rows PySem.W
theorem Fun.okX{P:Program}{w:World}{K:PySem.W.Frag}{mg:Str->Option Value}{base:Heap}{x qual:Str}{st:Stmt}{f:Addr}{fd:FuncData}{N ps:List Str}{k:Nat}{sp:Sp}(F:Fun K x qual st f fd)(S:FnScope N ps (ai st))(len:∀ vs H Q E,sp vs H Q E->vs.length=ps.length)(hb:∀ (cdv:Value) (A:Around) (outer:List Env) (s:Shared) (H:Hp) (vs:List V) (Q:VK) (E:XK),Room k (A.deeper (envOfC qual (ai st) s.heap.objs.size f cdv))->sp vs H Q E ->
   ∃ t,QB (cJ (CXr P w) P w K mg base N qual (ai st) f cdv A outer s H E) (aT st) t/\t { nx:=fun _ H'=>Q .non H',rt:=Q } (start N vs) H):FnOk P w K mg base (CXr P w) (k+1) f fd ps sp:=by
 obtain⟨oc,od,kV,doc,pm,an,cdv,ct,osl,rfl,lk,hcd⟩:=F.ex;exact rC lk hcd S len fun A outer s H vs Q E hr hsp=>let⟨t,h,q⟩:=hb cdv A outer s H vs Q E hr hsp;⟨t,h.h,q⟩
structure FnX(P:Program)(w:World)(K:PySem.W.Frag)(mg:Str->Option Value)(base:Heap)(k:Nat)(x:Str)(ps:List Str)(sp:Sp):Prop where
 ex:∃f fd,FnOk P w K mg base (CXr P w) k f fd ps sp/\mg x=some (.ref f)/\PySem.W.keepIn K (.ref f)=true/\Binds K fd ps []
def XP(X:Cx)(pins:List (Addr×Obj))(σ:St)(E:XK)(e:Value)(s':Shared):Prop:=∃s0 H0,Inv X pins σ H0 s0/\CXr X.prog X.w X.stack H0 s0 E e s'
abbrev TX:=St->Hp->VK->XK->Prop
structure QX(X:Cx)(e:Expr)(t:TX):Prop where
 h:∀(pins:List (Addr×Obj)) (s:Shared) (σ:St) (H:Hp) (Q:VK) (E:XK),Inv X pins σ H s->t σ H Q E->wpAny (model X.prog X.w) X.A (eval e X.env) (EP X pins σ Q) (XP X pins σ E) s
abbrev TSX:=Ends->St->Hp->XK->Prop
structure QSX(X:Cx)(st:Stmt)(t:TSX):Prop where
 h:∀(pins:List (Addr×Obj)) (s:Shared) (σ:St) (H:Hp) (D:Ends) (E:XK),Inv X pins σ H s->t D σ H E->wpAny (model X.prog X.w) X.A (exec st X.env) (SP X pins D) (XP X pins σ E) s
structure Fl(X:Cx)(H0 H':Hp)(s0 s':Shared)(B:Heap):Prop where
 os:s'.os=s0.os
 bare:AllBare s'.gens
 un:Un (frs X.stack) [] H0 H' s0.heap s'.heap
 hok:HOk X.prog X.w H' s'.heap
 kb:∀b o,b∉frs X.stack->((∃u,H' b=some u)\/∃o0,s0.heap.get? b=some o0)->s'.heap.get? b=some o->B.get? b=some o
section
variable{X:Cx}{pins:List (Addr×Obj)}{σ:St}{H0 H':Hp}{s0 s':Shared}{B h':Heap}
theorem Fl.inv(F:Fl X H0 H' s0 s' B)(I:Inv X pins σ H0 s0):Inv X pins σ H' s':=I.call' F.os F.un F.hok F.bare fun _ z=>nomatch z
theorem Fl.nf(F:Fl X H0 H' s0 s' B)(I:Inv X pins σ H0 s0){b:Addr}{u:HO}(h:H' b=some u):b∉frs X.stack:=fun hm=>by have:=(F.inv I).stkFree b hm;rw[h]at this;cases this
theorem Fl.move{tk:Nat}(F:Fl X H0 H' s0 s' B)(I:Inv X pins σ H0 s0)(st:B.StaysIn h')(up:s'.heap.UpToSlots h'):Fl X H0 H' s0 { s' with heap:=h',toks:=tk } B:=by
 have kp:∀b o,b∉frs X.stack->((∃u,H' b=some u)\/∃o0,s0.heap.get? b=some o0)->s'.heap.get? b=some o->h'.get? b=some o:=fun b o h1 h2 h3=>st b o (F.kb b o h1 h2 h3);have sl:∀b o,b∈frs X.stack->s'.heap.get? b=some o->∃sl,h'.get? b=some { o with slots:=sl }:=fun b o hm q=>by obtain⟨_,o',ho',hd⟩:=(F.inv I).stack.mem hm;have e:s'.heap.get? b=some o':=ho';rw[q]at e;cases e;exact up b o q hd
 refine⟨F.os,F.bare,⟨fun b o q n hb hx=>kp b o hb (.inr ⟨o,q⟩) (F.un.keep b o q n hb hx),fun b o q n hb hx=>?_,F.un.free,fun b o q hx=>?_,F.un.tups,F.un.frzs,F.un.tbls⟩,fun b u q=>?_,fun b o hb ho q=>?_⟩
 ·obtain⟨s1,e1⟩:=F.un.slot b o q n hb hx;obtain⟨s2,e2⟩:=sl b _ hb e1;exact⟨s2,e2⟩
 ·obtain⟨o',e1⟩:=F.un.there b o q hx;by_cases hb:b∈frs X.stack
  ·obtain⟨s2,e2⟩:=sl b o' hb e1;exact⟨_,e2⟩
  ·exact⟨o',kp b o' hb (.inr ⟨o,q⟩) e1⟩
 ·refine(F.hok b u q).stay (fun c v hc z=>kp c v ?_ ?_ z) (fun _ z=>z) fun _ _ z=>z
  ·rcases hc with z'|z'
   ·rw[z'];exact F.nf I q
   ·exact F.nf I z'
  ·rcases hc with z'|z'
   ·rw[z'];exact .inl ⟨u,q⟩
   ·exact .inl ⟨_,z'⟩
 ·obtain⟨o1,q1⟩:∃o1,s'.heap.get? b=some o1:=by
   rcases ho with⟨u,z⟩|⟨o0,z⟩
   ·exact eO (F.hok b u z)
   ·exact F.un.there b o0 z (by simp)
  have q2:=kp b o1 hb ho q1;have q':h'.get? b=some o:=q;rw[q']at q2;cases q2;exact F.kb b o hb ho q1
end
structure ExC(K:PySem.W.Frag)(C:Addr)(bm:List Value):Prop where
 cls:∀h,K.In h->∃nm q N bs hdct sn sub ab col dd k0 k1 k2 k3 k5 ni,h.get? C=some (excClassObj nm q C N bs bm hdct sn sub ab col dd k0 k1 k2 k3 k5 ni)
 exc:bm.contains (.type "BaseException")=true
abbrev TH:=Ends->St->Value->Option Addr->Hp->Prop
structure QH(X:Cx)(hs:List ExceptHandler)(th:TH):Prop where
 h:∀(pins:List (Addr×Obj)) (s0:Shared) (H0:Hp) (σ:St) (D:Ends) (ea t:Addr) (C:Value) (B:Heap) (H':Hp) (dc:Option Addr) (s':Shared),Inv X pins σ H0 s0->Fl X H0 H' s0 s' B->Heap.FlyingW B X.stack ea C (.ref t) s'.heap->cv s'.heap ea dc->th D σ C dc H' ->
  wpAny (model X.prog X.w) X.A (handleBy (.ref ea) X.env hs) (SP X pins D) X.xe s'
open PySem PySem.Spec PyProof.Rows PySem.W
abbrev VE:List Value:=[.type "ValueError",.type "Exception",.type "BaseException",.type "object"]
structure ExcAt(K:PySem.W.Frag)(C:Addr)(bm:List Value):Prop where
 isIn:excIn K C VE "ValueError.__new__" = true
 mro:∃c d cd sl,K.lookup C=some ⟨c,d,.cls cd,sl⟩/\cd.mro=Value.ref C::bm
 exc:bm.contains (.type "BaseException")=true
theorem lY{K:PySem.W.Frag}{C:Addr}{bm:List Value}(q:ExcAt K C bm){h:Heap}(X:K.In h) :
  ∃nm qn N bs hdct sn sub ab col dd k0 k1 k2 k3 k5 mN,h.get? C=some (excClassObj nm qn C N bs bm hdct sn sub ab col dd k0 k1 k2 k3 k5 "ValueError.__new__")/\h.Ns N mN/\mN "__init__" = none/\OwnTail h VE bm:=by
 have q1:=q.isIn;obtain⟨c9,d9,cd9,sl9,l9,m9⟩:=q.mro;unfold excIn at q1;split at q1
 ·rename_i dd cd sl ho;split at q1
  ·rename_i C' bm' k0 k1 k2 k3 n k5 hm hs;have q2:cd.mro=Value.ref C::bm:=by have z:=ho.symm.trans l9;cases z;exact m9
   rw[hm]at q2;injection q2 with z1 z2;injection z1 with z1;cases z1;cases z2;simp only[ZB,ZS,Bool.not_eq_true']at q1;obtain⟨⟨⟨⟨⟨_,rfl⟩,nd⟩,ht⟩,ok⟩,ni⟩:=q1;have es:sl=#[k0,k1,k2,k3,some (.builtin "ValueError.__new__"),k5]:=by obtain⟨l⟩:=sl;simp only at hs;rw[hs]
   cases es;obtain⟨nm,bs,mro,ns,qn,hd,sn,sub,ab,col,del⟩:=cd;dsimp only at hm nd ok ni;cases hm;cases nd;exact⟨nm,qn,ns,bs,hd,sn,sub,ab,col,dd,k0,k1,k2,k3,k5,_,X _ _ ho,.of_isNs (isNs_of_in X ok),nsMap_none_of_in X ok ni,tail_of_in X ht⟩
  ·cases q1
 ·cases q1
theorem Ag{K:PySem.W.Frag}{C:Addr}{bm:List Value}(q:ExcAt K C bm):ExC K C bm where
 cls:=fun h X=>by obtain⟨nm,qn,N,bs,hdct,sn,sub,ab,col,dd,k0,k1,k2,k3,k5,mN,e,_⟩:=lY q X;exact⟨nm,qn,N,bs,hdct,sn,sub,ab,col,dd,k0,k1,k2,k3,k5,_,e⟩
 exc:=q.exc
theorem ju{K:PySem.W.Frag}{C:Addr}{bm:List Value}(q:ExcAt K C bm):ExCls K C where
 cls:=fun h X=>by obtain⟨nm,qn,N,bs,hdct,sn,sub,ab,col,dd,k0,k1,k2,k3,k5,mN,e,e2,e3,e4⟩:=lY q X;exact⟨nm,qn,N,bs,bm,hdct,sn,sub,ab,col,dd,k0,k1,k2,k3,k5,mN,e,e2,e3,(Ag q).exc,e4⟩
structure ExK(K:PySem.W.Frag)(c:Addr):Prop where
 hc:(clsIn K c).isSome=true
 hga:findIn K (.ref c) "__getattribute__" = some (some (.builtin "BaseException.__getattribute__"))
 hgh:findIn K (.ref c) "__getattr__" = some none
 ha:findIn K (.ref c) "__class__" = some (some (.builtin "object.__class__"))
 hb:mroIn K c (.type "BaseException")=some true
 hm:mroIn K c (.type "object")=some true
open PySem PySem.Spec PyProof.Rows PySem.W
theorem pZ{K:PySem.W.Frag}{a b:Addr}{xs ys:List V}{i j:Nat}{tb:TS}{D:Ends}{σ:St}{H:Hp}(Pv:Nat->St->Hp->Prop)(h0:Pv 0 σ H)(ha:∀i σ H,i<=xs.length->Pv i σ H->SqT K H a xs)(hb:∀i σ H,i<=xs.length->Pv i σ H->SqT K H b ys)(hl:xs.length=ys.length)(hs:∀k x y σ H,xs[k]?=some x->ys[k]?=some y->Pv k σ H->∀T,H T=none->tb { D with nx:=Pv (k+1),ct:=Pv (k+1),bk:=D.nx } ((σ.set i (some x)).set j (some y)) (upd H T (.tup [x,y])))(hd:∀σ H,Pv xs.length σ H->D.nx σ H) :
  ∃W:Nat->Nat->St->Hp->Prop,(∃m,W 0 m σ H)/\∀k m σ H,W k m σ H ->
   ((Itz K a b xs ys).stop k H/\D.nx σ H)\/((Itz K a b xs ys).go k H/\∃N:St->Hp->Prop,(∀σ' H',N σ' H'->∃m',m'<m/\W (k+1) m' σ' H')/\∀x H',(Itz K a b xs ys).yld k H x H'->oh K 2 (fw (bN i) (fw (bN j) og)) x σ H' fun σ2 H2=>tb { D with nx:=N,ct:=N,bk:=D.nx } σ2 H2):=by
 refine⟨fun k m σ H=>m=xs.length-k/\k<=xs.length/\Pv k σ H,⟨xs.length,by simp,ZO _,h0⟩,?_⟩;rintro k m σ H ⟨rfl,hk,pv⟩;by_cases hlt:k<xs.length
 ·refine .inr ⟨⟨hlt,ha k σ H hk pv,hb k σ H hk pv⟩,Pv (k+1),fun σ' H' z=>⟨xs.length-(k+1),by omega,rfl,hlt,z⟩,fun x H' y=>?_⟩;obtain⟨T,p,q,hT,hx,hy,rfl,rfl⟩:=y;exact⟨T,[p,q],rfl,SqT.of af,rfl,p,[q],rfl,q,[],rfl,rfl,hs k p q σ H hx hy pv T hT⟩
 ·have e:k=xs.length:=by omega
  subst e;exact .inl ⟨⟨rfl,ha _ σ H hk pv,hb _ σ H hk pv⟩,hd σ H pv⟩
theorem nS{J:It}{N n:Nat}{cap:List Nat}{g:TG}{te:TE}{σ:St}{H0:Hp}{Q:VK}(Pv:Nat->List V->Hp->Prop)(hz:N<=1000)(hn:∀i ys H,Pv i ys H->ys.length=i)(h0:Pv 0 [] H0)(hgo:∀i ys H,i<N->Pv i ys H->J.go i H)(hst:∀ys H,Pv N ys H->J.stop N H)(ht:∀i ys H x H',i<N->Pv i ys H->J.yld i H x H'->∀A:VK,(∀v H4,Pv (i+1) (ys++[v]) H4->A v H4)->g x (bT n cap σ) H' fun σ2 H2=>te σ2 H2 A)(hq:∀ys p H,Pv N ys H->H p=none->Q (.ref p) (upd H p (.lst ys))):iE n cap g kM te σ J H0 Q:=by
 refine⟨fun i m ys H=>m=N-i/\i<=N/\Pv i ys H,⟨N,by simp,ZO _,h0⟩,?_⟩;rintro i m ys H ⟨rfl,hi,pv⟩;by_cases hlt:i<N
 ·refine .inr ⟨hgo i ys H hlt pv,by rw[hn i ys H pv];exact cE (by omega),fun x H' y=>?_⟩;have k:=ht i ys H x H' hlt pv y (fun v H4=>∃m',m'<N-i/\m'=N-(i+1)/\i+1<=N/\Pv (i+1) (ys++[v]) H4) (fun v H4 z=>⟨N-(i+1),by omega,rfl,hlt,z⟩);unfold kM;simpa using k
 ·have e:i=N:=by omega
  subst e;exact .inl ⟨hst ys H pv,fun p hp=>hq ys p H pv hp⟩
open PySem PySem.Spec PyProof.Rows PySem.W
def fE(z:Str)(lo hi:Option Int):Str:=if(Builtin.Str.strSliceIndices lo hi 1 z.length).length=z.length then z else⟨((Builtin.Str.strSliceIndices lo hi 1 z.length).filterMap (z.cps[·]?)).toArray⟩
theorem vw(z:Str)(lo hi:Option Int):(fE z lo hi).length<=z.length:=by
 unfold fE;split
 ·exact Ze _
 ·show(List.filterMap _ _).toArray.size<=_;rw[Zf];exact Zx (List.length_filterMap_le _ _) (indices_len_le _ _ _)
section
variable{X:Cx}{K:PySem.W.Frag}
theorem Aw:QSl X (fun x lo hi H Q=>∃z:Str,x=.str z/\z.length<=1000/\Q (.str (fE z lo hi)) H):=by
 refine⟨?_⟩;intro pins s σ H x v vl vu lo hi sl Q I rx hs pl pu h;obtain⟨z,rfl,hz,q⟩:=h;obtain⟨t,rfl⟩:=rx;have pt:∀{v:Value} {o:Option Int},IsPart v o->∃p:Option (Int×Tok),v=partValue p/\p.map (·.1)=o:=fun{v o} p=>by
  cases p with
  |none=>exact⟨none,rfl,rfl⟩
  |int i t=>exact⟨some (i,t),rfl,rfl⟩
 obtain⟨l,rfl,hl⟩:=pt pl;obtain⟨u,rfl,hu⟩:=pt pu;have e:slicePicked z l u none=Builtin.Str.strSliceIndices lo hi 1 z.length:=by unfold slicePicked;rw[hl,hu];rfl
 refine⟨"str",_,F.slot_str_getitem.lookup,typeIs_str _ _ _,wpAny_getItem_str_slice (l:=l) (u:=u) (st:=none) hs rfl ?_⟩;have hy:=vw z lo hi;unfold sliceMade;unfold fE at q hy;rw[e];split
 ·rename_i hc;have hc':(Builtin.Str.strSliceIndices lo hi 1 z.length).length=z.length:=by simpa using hc
  rw[if_pos hc']at q;exact⟨.str z,H,I,⟨_,rfl⟩,q⟩
 ·rename_i hc;have hc':¬(Builtin.Str.strSliceIndices lo hi 1 z.length).length=z.length:=by simpa using hc
  rw[if_neg hc']at q hy;exact⟨bG (Zx hy hz),.str _,H,I.tok _,⟨_,rfl⟩,q⟩
end
open PySem PySem.Spec PyProof.Rows PySem.W
open PySem PySem.Spec PyProof.Rows PySem.W
def KIn{α:Type}(n:Nat)(P:α->Prop):KasT α->Prop
 |.ret a=>P a
 |.ask i j k=>i<n/\j<n/\∀b,KIn n P (k b)
theorem KIn.bind{α β:Type}{n:Nat}{P:α->Prop}{R:β->Prop}{f:α->KasT β}:∀{t:KasT α},KIn n P t->(∀a,P a->KIn n R (f a))->KIn n R (t.bind f)
 |.ret _,h,k=>k _ h
 |.ask _ _ _,⟨h1,h2,h3⟩,k=>⟨h1,h2,fun b=>KIn.bind (h3 b) k⟩
def POk(n:Nat)(p:Array Nat):Prop:=p.Perm (List.range n).toArray
theorem POk.lt{n:Nat}{p:Array Nat}(h:POk n p)(hn:0<n)(k:Nat):p.getD k 0<n:=by
 rw[Yh];cases e:p[k]? with
 |none=>exact hn
 |some x =>have hm:x∈p:=Array.mem_of_getElem? e;have:=(h.mem_iff).mp hm;simpa using this
theorem POk.rev{n:Nat}{p:Array Nat}(h:POk n p)(i j:Nat):POk n (kas_rev p i j):=(mirror_perm p i j _).trans h
theorem POk.bub{n:Nat}{p:Array Nat}(h:POk n p)(i j:Nat):POk n (bubble p i j):=(bubble_perm p i j).trans h
theorem ll{n:Nat}(hn:0<n){p:Array Nat}(h:POk n p):∀f k,KIn n (fun _=>True) (kas_asc p f k)
 |0,_=>trivial
 | f+1,k=>⟨h.lt hn _,h.lt hn _,fun c=>by
  cases c with
  |true=>exact trivial
  | false=>exact ll hn h f (k+1)⟩
theorem gE{n:Nat}(hn:0<n):∀(f:Nat) {p:Array Nat},POk n p->∀k q,KIn n (fun r=>POk n r.1) (kas_desc f p k q)
 |0,_,h,_,_=>h
 |f+1,p,h,k,q=>by
  refine⟨h.lt hn _,h.lt hn _,fun c=>?_⟩;cases c with
  |true =>
   show KIn n _ (if q>0 then _ else _);split
   ·exact gE hn f (h.rev _ _) _ _
   ·exact gE hn f h _ _
  |false =>
   refine⟨h.lt hn _,h.lt hn _,fun d=>?_⟩;cases d with
   |true=>exact h
   |false=>exact gE hn f h _ _
theorem ow{n:Nat}(hn:0<n){p:Array Nat}(h:POk n p)(k r:Nat):KIn n (fun r=>POk n r.2) (kas_tail3 k r p):=KIn.bind (ll hn (h.rev 0 k) _ _) fun _ _=>h.rev 0 k
theorem io{n:Nat}(hn:0<n){p:Array Nat}(h:POk n p)(k r:Nat):KIn n (fun r=>POk n r.2) (kas_descPart k r p):=KIn.bind (gE hn _ h _ _) fun x hx=>by
 show KIn n _ (if x.2.2>0 then _ else _);split
 ·exact ow hn (hx.rev _ _) _ _
 ·exact ow hn hx _ _
theorem tD{n:Nat}(hn:0<n){p:Array Nat}(h:POk n p)(r:Nat):KIn n (fun r=>POk n r.2) (kas_count r p):=KIn.bind (ll hn h _ _) fun k _=>by
 show KIn n _ (if(k==r)=true then _ else if k>1 then _ else _);split
 ·exact h
 ·split
  ·refine⟨h.lt hn _,h.lt hn _,fun c=>?_⟩;cases c with
   |true=>exact h
   |false=>exact io hn (h.rev _ _) _ _
  ·exact io hn h _ _
theorem ip{n:Nat}(hn:0<n){p:Array Nat}(h:POk n p)(k:Nat):∀f l r,KIn n (fun _=>True) (kas_place p k f l r)
 |0,_,_=>trivial
 |f+1,l,r=>by
  show KIn n _ (if l>=r then _ else _);split
  ·exact trivial
  ·refine⟨h.lt hn _,h.lt hn _,fun c=>?_⟩;cases c with
   |true=>exact ip hn h k f _ _
   |false=>exact ip hn h k f _ _
theorem qg{n:Nat}(hn:0<n):∀(f:Nat) {p:Array Nat},POk n p->∀k,KIn n (POk n) (kas_bin f p k)
 |0,_,h,_=>h
 |f+1,_,h,k=>KIn.bind (ip hn h k _ _ _) fun _ _=>qg hn f (h.bub _ _) (k+1)
theorem vJ{n:Nat}(hn:0<n):KIn n (POk n) (kas_sort n):=KIn.bind (tD hn (Array.Perm.refl _) _) fun r hr=>by
 show KIn n _ (if r.1<n then _ else _);split
 ·exact qg hn _ hr _
 ·exact hr
section
variable{X:Cx}
theorem Cd{K:PySem.W.Frag}(hK:X.K=K):QOp X (compareOp .In) (rIn K false):=by subst hK;exact⟨uf⟩
end
open PySem PySem.Spec PyProof.Rows PySem.W
def KW{α:Type}(lt:Nat->Nat->Bool)(Q:α->Prop):KasT α->Prop
 |.ret a=>Q a
 |.ask i j k=>KW lt Q (k (lt i j))
theorem KW.bind{α β:Type}{lt:Nat->Nat->Bool}{Q:β->Prop}{f:α->KasT β}:∀{t:KasT α},KW lt (fun a=>KW lt Q (f a)) t->KW lt Q (t.bind f)
 |.ret _,h=>h
 |.ask i j k,h=>KW.bind (t:=k (lt i j)) h
theorem KW.mono{α:Type}{lt:Nat->Nat->Bool}{Q R:α->Prop}(k:∀a,Q a->R a):∀{t:KasT α},KW lt Q t->KW lt R t
 |.ret _,h=>k _ h
 |.ask i j c,h=>KW.mono k (t:=c (lt i j)) h
structure LtOk(lt:Nat->Nat->Bool):Prop where
 as:∀{a b},lt a b=true->lt b a=false
 tr:∀{a b c},lt b a=false->lt c b=false->lt c a=false
def gA(p:Array Nat)(k:Nat):Nat:=p.getD k 0
def Lx(lt:Nat->Nat->Bool)(a b:Nat):Prop:=lt b a=false/\(lt a b=true\/a<b)
section
variable{lt:Nat->Nat->Bool}(O:LtOk lt)
include O
theorem LtOk.lt_le{a b c:Nat}(h:lt a b=true)(h2:lt c b=false):lt a c=true:=by
 cases e:lt a c with
 |true=>rfl
 |false=>rw[O.tr h2 e]at h;cases h
theorem LtOk.le_lt{a b c:Nat}(h:lt b a=false)(h2:lt b c=true):lt a c=true:=by
 cases e:lt a c with
 |true=>rfl
 |false=>rw[O.tr e h]at h2;cases h2
theorem Lx.trans{a b c:Nat}(h:Lx lt a b)(k:Lx lt b c):Lx lt a c:=by
 refine⟨O.tr h.1 k.1,?_⟩;rcases h.2 with x|x
 ·exact .inl (O.lt_le x k.1)
 ·rcases k.2 with y|y
  ·exact .inl (O.le_lt h.1 y)
  ·exact .inr (Nat.lt_trans x y)
theorem Lx.of_lt{a b:Nat}(h:lt a b=true):Lx lt a b:=⟨O.as h,.inl h⟩
end
structure Fx(N:Nat)(p:Array Nat)(m:Nat):Prop where
 sz:p.size=N
 hi:∀k,m<=k->k<N->gA p k=k
 lo:∀i,i<m->gA p i<m
def LS(lt:Nat->Nat->Bool)(p:Array Nat)(m:Nat):Prop:=∀i j,i<j->j<m->Lx lt (gA p i) (gA p j)
def AS(lt:Nat->Nat->Bool)(p:Array Nat)(m:Nat):Prop:=∀i j,i<j->j<m->Lx lt (gA p j) (gA p i)
theorem Fx.succ{N:Nat}{p:Array Nat}{m:Nat}(h:Fx N p m)(hm:m<N):Fx N p (m+1):=⟨h.sz,fun k h1 h2=>h.hi k (by omega) h2,fun i hi=>by
 rcases Yd i m with h1|h1
 ·have:=h.lo i h1;omega
 ·have e:i=m:=by omega
  subst e;rw[h.hi i (Ze _) hm];omega⟩
theorem bU{p:Array Nat}{i j k:Nat}(hj:j<=p.size):gA (kas_rev p i j) k=if i<=k/\k<j then gA p (i+j-1-k)else gA p k:=by
 unfold gA kas_rev;rw[Yh,getElem?_mirror_all hj];split
 ·rw[Yh]
 ·rw[Yh]
theorem fu(p:Array Nat)(k:Nat):gA p k=(p[k]?).getD 0:=by unfold gA;rw[Yh]
theorem sZ{p:Array Nat}{k d i:Nat}(hk:k<p.size)(hd:d<=k):gA (bubble p k d) i=if i=k-d then gA p k else if k-d<i/\i<=k then gA p (i-1)else gA p i:=by
 rw[fu,getElem?_bubble hk d hd];split
 ·rw[fu]
 ·split
  ·rw[fu]
  ·rw[fu]
theorem Fx.rev{N:Nat}{p:Array Nat}{m i j:Nat}(h:Fx N p m)(hj:j<=m)(hm:m<=N):Fx N (kas_rev p i j) m:=by
 have hs:j<=p.size:=by rw[h.sz];omega
 refine⟨by rw[kas_rev_size];exact h.sz,fun k h1 h2=>?_,fun k hk=>?_⟩
 ·rw[bU hs,if_neg (by omega)];exact h.hi k h1 h2
 ·rw[bU hs];split
  ·exact h.lo _ (by omega)
  ·exact h.lo _ hk
section
variable{lt:Nat->Nat->Bool}(O:LtOk lt){N:Nat}
include O
theorem LS.step{p:Array Nat}{n:Nat}(h:LS lt p n)(hx:Lx lt (gA p (n-1)) (gA p n))(h1:1<=n):LS lt p (n+1):=fun i j hij hj=>by
 rcases Yd j n with h2|h2
 ·exact h i j hij h2
 ·have e:j=n:=by omega
  subst e;rcases Yd i (j-1)with h3|h3
  ·exact(h i (j-1) h3 (by omega)).trans O hx
  ·have e:i=j-1:=by omega
   subst e;exact hx
theorem oA{p:Array Nat}:∀(f n:Nat),1<=n->n+f<=N->Fx N p n->LS lt p n->KW lt (fun m=>n<=m/\m<=n+f/\Fx N p m/\LS lt p m/\(m<n+f->lt (gA p m) (gA p (m-1))=true)) (kas_asc p f n)
 |0,n,_,_,hf,hs=>⟨Ze _,Ze _,hf,hs,fun h=>absurd h (by omega)⟩
 |f+1,n,h1,hN,hf,hs=>by
  show KW lt _ (if lt (gA p n) (gA p (n-1))=true then .ret n else kas_asc p f (n+1));by_cases c:lt (gA p n) (gA p (n-1))=true
  ·rw[if_pos c];exact⟨Ze _,by omega,hf,hs,fun _=>c⟩
  ·rw[if_neg c];have c':=Bool.eq_false_iff.mpr c;have hx:Lx lt (gA p (n-1)) (gA p n):=⟨c',.inr (by rw[hf.hi n (Ze _) (by omega)];exact hf.lo _ (by omega))⟩
   refine KW.mono (fun m hm=>?_) (oA f (n+1) (by omega) (by omega) (hf.succ (by omega)) (hs.step O hx h1));exact⟨by omega,by omega,hm.2.2.1,hm.2.2.2.1,fun z=>hm.2.2.2.2 (by omega)⟩
theorem AS.rev{p:Array Nat}{n:Nat}(h:AS lt p n)(hn:n<=p.size):LS lt (kas_rev p 0 n) n:=fun i j hij hj=>by rw[bU hn,bU hn,if_pos (by omega),if_pos (by omega)];exact h _ _ (by omega) (by omega)
theorem qj{p:Array Nat}{n:Nat}(h1:1<=n)(hN:n<=N)(hf:Fx N p n)(ha:AS lt p n):KW lt (fun r=>r.1<=N/\1<=r.1/\Fx N r.2 r.1/\LS lt r.2 r.1) (kas_tail3 n N p):=by refine KW.bind (KW.mono (fun m hm=>?_) (oA O (N:=N) (N-n) n h1 (by omega) (hf.rev (Ze _) hN) (ha.rev O (by rw[hf.sz];exact hN))));exact⟨by omega,by omega,hm.2.2.1,hm.2.2.2.1⟩
structure Dn(lt:Nat->Nat->Bool)(p:Array Nat)(n q:Nat):Prop where
 hq:q+1<=n
 up:∀i j,i<j->j<n-(q+1)->Lx lt (gA p j) (gA p i)
 cr:∀i j,i<n-(q+1)->n-(q+1)<=j->j<n->lt (gA p j) (gA p i)=true
 eq:∀i j,n-(q+1)<=i->i<j->j<n->lt (gA p i) (gA p j)=false/\lt (gA p j) (gA p i)=false/\gA p i<gA p j
theorem Dn.rev{p:Array Nat}{n q:Nat}(h:Dn lt p n q)(hn:n<=p.size):AS lt (kas_rev p (n-(q+1)) n) n:=fun i j hij hj=>by
 have hq:=h.hq;rw[bU hn,bU hn];by_cases c1:n-(q+1)<=i
 ·rw[if_pos (by omega),if_pos (by omega)];obtain⟨e1,e2,e3⟩:=h.eq (n-(q+1)+n-1-j) (n-(q+1)+n-1-i) (by omega) (by omega) (by omega);exact⟨e2,.inr e3⟩
 ·rw[if_neg (show¬(n-(q+1)<=i/\i<n) by omega)];by_cases c2:n-(q+1)<=j
  ·rw[if_pos (by omega)];exact Lx.of_lt O (h.cr _ _ (by omega) (by omega) (by omega))
  ·rw[if_neg (by omega)];exact h.up _ _ hij (by omega)
theorem Dn.zero{p:Array Nat}{n:Nat}(h:Dn lt p n 0):AS lt p n:=fun i j hij hj=>by
 rcases Yd j (n-1)with c|c
 ·exact h.up i j hij c
 ·exact Lx.of_lt O (h.cr i j (by omega) (by omega) hj)
theorem Dn.start{p:Array Nat}{n:Nat}(h:AS lt p n)(h1:1<=n)(hl:lt (gA p n) (gA p (n-1))=true):Dn lt p (n+1) 0:=by
 refine⟨by omega,fun i j hij hj=>h i j hij (by omega),fun i j hi h2 h3=>?_,fun i j h2 h3 h4=>absurd h3 (by omega)⟩;have e:j=n:=by omega
 subst e;rcases Yd i (j-1)with h3|h3
 ·exact O.lt_le hl (h i (j-1) h3 (by omega)).1
 ·have e:i=j-1:=by omega
  subst e;exact hl
theorem iP:∀(f:Nat) {p:Array Nat} {n q:Nat},n+f<=N->Fx N p n->Dn lt p n q->KW lt (fun r=>n<=r.2.1/\r.2.1<=n+f/\Fx N r.1 r.2.1/\Dn lt r.1 r.2.1 r.2.2) (kas_desc f p n q)
 |0,_,n,_,_,hf,hd=>⟨Ze _,Ze _,hf,hd⟩
 |f+1,p,n,q,hN,hf,hd=>by
  have hs:n<=p.size:=by rw[hf.sz];omega
  have hq:=hd.hq;show KW lt _ (if lt (gA p n) (gA p (n-1))=true then(if q>0 then kas_desc f (kas_rev p (n-(q+1)) n) (n+1) 0 else kas_desc f p (n+1) 0)else KasT.ask (gA p (n-1)) (gA p n) fun d=>if d=true then .ret (p,n,q)else kas_desc f p (n+1) (q+1));by_cases c:lt (gA p n) (gA p (n-1))=true
  ·rw[if_pos c];have wk:∀{r:Array Nat×Nat×Nat},(n+1<=r.2.1/\r.2.1<=n+1+f/\Fx N r.1 r.2.1/\Dn lt r.1 r.2.1 r.2.2)->n<=r.2.1/\r.2.1<=n+(f+1)/\Fx N r.1 r.2.1/\Dn lt r.1 r.2.1 r.2.2:=fun h=>⟨by omega,by omega,h.2.2.1,h.2.2.2⟩
   by_cases cq:q>0
   ·rw[if_pos cq];have fr:=hf.rev (i:=n-(q+1)) (Ze n) (by omega);have e1:gA (kas_rev p (n-(q+1)) n) n=gA p n:=by rw[bU hs,if_neg (by omega)]
    have e2:gA (kas_rev p (n-(q+1)) n) (n-1)=gA p (n-(q+1)):=by rw[bU hs,if_pos (by omega)];congr 1;omega
    have l2:lt (gA p n) (gA p (n-(q+1)))=true:=O.lt_le c (hd.eq (n-(q+1)) (n-1) (Ze _) (by omega) (by omega)).1;refine KW.mono (fun r h=>wk h) (iP f (by omega) (fr.succ (by omega)) (Dn.start O (hd.rev O hs) (by omega) (by rw[e1,e2];exact l2)))
   ·rw[if_neg cq];have e:q=0:=by omega
    subst e;exact KW.mono (fun r h=>wk h) (iP f (by omega) (hf.succ (by omega)) (Dn.start O (hd.zero O) (by omega) c))
  ·rw[if_neg c];have c':=Bool.eq_false_iff.mpr c;show KW lt _ (if lt (gA p (n-1)) (gA p n)=true then _ else _);by_cases d:lt (gA p (n-1)) (gA p n)=true
   ·rw[if_pos d];exact⟨Ze _,Nat.le_add_right _ _,hf,hd⟩
   ·rw[if_neg d];have d':=Bool.eq_false_iff.mpr d;have gn:gA p n=n:=hf.hi n (Ze _) (by omega);have same:∀i,n-(q+1)<=i->i<n->lt (gA p i) (gA p n)=false/\lt (gA p n) (gA p i)=false:=fun i h1 h2=>by
     rcases Yd i (n-1)with h3|h3
     ·obtain⟨a1,a2,_⟩:=hd.eq i (n-1) h1 h3 (by omega);exact⟨O.tr d' a1,O.tr a2 c'⟩
     ·have e:i=n-1:=by omega
      subst e;exact⟨d',c'⟩
    refine KW.mono (fun r h=>⟨by omega,by omega,h.2.2.1,h.2.2.2⟩) (iP f (n:=n+1) (q:=q+1) (by omega) (hf.succ (by omega)) ⟨by omega,fun i j hij hj=>hd.up i j hij (by omega),fun i j hi h2 h3=>?_,fun i j h1 h2 h3=>?_⟩)
    ·rcases Yd j n with h4|h4
     ·exact hd.cr i j (by omega) (by omega) h4
     ·have e:j=n:=by omega
      subst e;exact O.le_lt d' (hd.cr i (j-1) (by omega) (by omega) (by omega))
    ·rcases Yd j n with h4|h4
     ·exact hd.eq i j (by omega) h2 h4
     ·have e:j=n:=by omega
      subst e;obtain⟨a1,a2⟩:=same i (by omega) h2;exact⟨a1,a2,by rw[gn];exact hf.lo _ h2⟩
theorem jh{p:Array Nat}{n:Nat}(h1:1<=n)(hN:n<N)(hf:Fx N p n)(ha:AS lt p n)(hl:lt (gA p n) (gA p (n-1))=true):KW lt (fun r=>r.1<=N/\1<=r.1/\Fx N r.2 r.1/\LS lt r.2 r.1) (kas_descPart n N p):=by
 refine KW.bind (KW.mono (fun r hr=>?_) (iP O (N:=N) (N-(n+1)) (by omega) (hf.succ hN) (Dn.start O ha h1 hl)));obtain⟨r1,r2,r3,r4⟩:=hr;show KW lt _ (if r.2.2>0 then _ else _);by_cases c:r.2.2>0
 ·rw[if_pos c];exact qj O (by omega) (by omega) (r3.rev (Ze _) (by omega)) (r4.rev O (by rw[r3.sz];omega))
 ·rw[if_neg c];have e:r.2.2=0:=by omega
  rw[e]at r4;exact qj O (by omega) (by omega) r3 (r4.zero O)
theorem oB{p:Array Nat}(hN:1<=N)(hf:Fx N p 1):KW lt (fun r=>r.1<=N/\1<=r.1/\Fx N r.2 r.1/\LS lt r.2 r.1) (kas_count N p):=by
 refine KW.bind (KW.mono (fun n hn=>?_) (oA O (N:=N) (N-1) 1 (Ze _) (by omega) hf (fun i j h1 h2=>absurd h1 (by omega))));obtain⟨n1,n2,nf,ns,nl⟩:=hn;show KW lt _ (if(n==N)=true then KasT.ret (n,p)else if n>1 then KasT.ask (gA p 0) (gA p (n-1)) (fun c=>if c=true then .ret (n,p)else kas_descPart n N (kas_rev p 0 n))else kas_descPart n N p);by_cases c:(n==N)=true
 ·rw[if_pos c];exact⟨by omega,n1,nf,ns⟩
 ·rw[if_neg c];have nN:n<N:=by have:n≠N:=fun z=>c (ZS.mpr z);omega
  have hl:=nl (by omega);by_cases c2:n>1
  ·rw[if_pos c2];show KW lt _ (if lt (gA p 0) (gA p (n-1))=true then _ else _);by_cases c3:lt (gA p 0) (gA p (n-1))=true
   ·rw[if_pos c3];exact⟨by omega,n1,nf,ns⟩
   ·rw[if_neg c3];have c3':=Bool.eq_false_iff.mpr c3;have hs:n<=p.size:=by rw[nf.sz];omega
    have le0:∀i,i<n->lt (gA p i) (gA p 0)=false:=fun i hi=>by
     rcases Nat.eq_zero_or_pos i with z|z
     ·subst z;cases e:lt (gA p 0) (gA p 0)with
      |false=>rfl
      |true=>rw[O.as e]at e;cases e
     ·exact(ns 0 i z hi).1
    have leN:∀i,i<n->lt (gA p (n-1)) (gA p i)=false:=fun i hi=>by
     rcases Yd i (n-1)with z|z
     ·exact(ns i (n-1) z (by omega)).1
     ·have e:i=n-1:=by omega
      subst e;cases e:lt (gA p (n-1)) (gA p (n-1))with
      |false=>rfl
      |true=>rw[O.as e]at e;cases e
    have all:∀i j,i<n->j<n->lt (gA p i) (gA p j)=false:=fun i j hi hj=>O.tr (leN j hj) (O.tr c3' (le0 i hi));refine jh O n1 nN (nf.rev (Ze _) (by omega)) (fun i j hij hj=>?_) ?_
    ·rw[bU hs,bU hs,if_pos (by omega),if_pos (by omega)];have z:=ns (0+n-1-j) (0+n-1-i) (by omega) (by omega);refine⟨all _ _ (by omega) (by omega),?_⟩;rcases z.2 with y|y
     ·rw[all _ _ (by omega) (by omega)]at y;cases y
     ·exact .inr y
    ·rw[bU hs,bU hs,if_neg (by omega),if_pos (by omega)];exact O.lt_le hl (all _ _ (by omega) (by omega))
  ·rw[if_neg c2];have e:n=1:=by omega
   subst e;exact jh O n1 nN nf (fun i j h1 h2=>absurd h1 (by omega)) hl
theorem gG{p:Array Nat}{k:Nat}(hs:LS lt p k):∀(f l r:Nat),r-l<=f->r<=k->(∀i,i<l->i<k->lt (gA p k) (gA p i)=false)->(∀i,r<=i->i<k->lt (gA p k) (gA p i)=true)->l<=r ->
  KW lt (fun m=>m<=k/\(∀i,i<m->lt (gA p k) (gA p i)=false)/\∀i,m<=i->i<k->lt (gA p k) (gA p i)=true) (kas_place p k f l r)
 |0,l,r,h1,h2,h3,h4,h5=>⟨by omega,fun i hi=>h3 i hi (by omega),fun i hi=>h4 i (by omega)⟩
 |f+1,l,r,h1,h2,h3,h4,h5=>by
  show KW lt _ (if l>=r then KasT.ret l else KasT.ask (gA p k) (gA p ((l+r) / 2)) fun c=>if c=true then kas_place p k f l ((l+r) / 2)else kas_place p k f ((l+r) / 2+1) r);by_cases c:l>=r
  ·rw[if_pos c];exact⟨by omega,fun i hi=>h3 i hi (by omega),fun i hi=>h4 i (by omega)⟩
  ·rw[if_neg c];show KW lt _ (if lt (gA p k) (gA p ((l+r) / 2))=true then _ else _);by_cases d:lt (gA p k) (gA p ((l+r) / 2))=true
   ·rw[if_pos d];refine gG hs f l ((l+r) / 2) (by omega) (by omega) h3 (fun i hi hk=>?_) (by omega);rcases Nat.eq_or_lt_of_le hi with e|e
    ·rw[<-e];exact d
    ·exact O.lt_le d (hs _ _ e hk).1
   ·rw[if_neg d];have d':=Bool.eq_false_iff.mpr d;refine gG hs f ((l+r) / 2+1) r (by omega) h2 (fun i hi hk=>?_) h4 (by omega);rcases Yd i ((l+r) / 2)with e|e
    ·exact O.tr (hs _ _ e (by omega)).1 d'
    ·have e:i=(l+r) / 2:=by omega
     rw[e];exact d'
theorem tF:∀(f:Nat) {p:Array Nat} {k:Nat},k+f=N->1<=k->Fx N p k->LS lt p k->KW lt (fun p=>p.size=N/\LS lt p N) (kas_bin f p k)
 |0,p,k,e,_,hf,hs=>by
  have:k=N:=by omega
  subst this;exact⟨hf.sz,hs⟩
 |f+1,p,k,e,h1,hf,hs=>by
  refine KW.bind (KW.mono (fun m hm=>?_) (gG O hs k 0 k (by omega) (Ze _) (fun i hi=>absurd hi (by omega)) (fun i h2 h3=>absurd h2 (by omega)) (ZO _)));obtain⟨m1,m2,m3⟩:=hm;have hk:k<p.size:=by rw[hf.sz];omega
  have gk:gA p k=k:=hf.hi k (Ze _) (by omega);have ekm:k-(k-m)=m:=by omega
  have gb:∀i,gA (bubble p k (k-m)) i=if i=m then gA p k else if m<i/\i<=k then gA p (i-1)else gA p i:=fun i=>by rw[sZ hk (by omega),ekm]
  refine tF f (by omega) (by omega) ⟨by rw[bubble_size];exact hf.sz,fun i h2 h3=>?_,fun i hi=>?_⟩ (fun i j hij hj=>?_)
  ·rw[gb,if_neg (by omega),if_neg (by omega)];exact hf.hi i (by omega) h3
  ·rw[gb];split
   ·rw[gk];omega
   ·split
    ·have:=hf.lo (i-1) (by omega);omega
    ·have:=hf.lo i (by omega);omega
  ·have lk:∀i,i<m->Lx lt (gA p i) (gA p k):=fun i hi=>⟨m2 i hi,.inr (by rw[gk];exact hf.lo i (by omega))⟩
   have gt:∀i,m<=i->i<k->Lx lt (gA p k) (gA p i):=fun i h2 h3=>Lx.of_lt O (m3 i h2 h3);rw[gb,gb];by_cases a1:i=m
   ·rw[if_pos a1,if_neg (by omega),if_pos (by omega)];exact gt _ (by omega) (by omega)
   ·rw[if_neg a1];by_cases a2:m<i/\i<=k
    ·rw[if_pos a2,if_neg (by omega),if_pos (by omega)];exact hs _ _ (by omega) (by omega)
    ·rw[if_neg a2];by_cases b1:j=m
     ·rw[if_pos b1];exact lk i (by omega)
     ·rw[if_neg b1];by_cases b2:m<j/\j<=k
      ·rw[if_pos b2];exact hs _ _ (by omega) (by omega)
      ·rw[if_neg b2];exact hs _ _ hij (by omega)
theorem yt(hN:1<=N):KW lt (fun p=>p.size=N/\LS lt p N) (kas_sort N):=by
 have f0:Fx N (List.toArray (List.range N)) 1:=by
  have g:∀k,k<N->gA (List.toArray (List.range N)) k=k:=fun k hk=>by rw[fu];simp[hk]
  refine⟨by simp,fun k _ hk=>g k hk,fun i hi=>?_⟩;have e:i=0:=by omega
  subst e;rw[g 0 (by omega)];decide
 refine KW.bind (KW.mono (fun r hr=>?_) (oB O hN f0));obtain⟨r1,r2,r3,r4⟩:=hr;show KW lt _ (if r.1<N then kas_bin (N-max r.1 1) r.2 (max r.1 1)else .ret r.2);have e:max r.1 1=r.1:=by omega
 rw[e];by_cases c:r.1<N
 ·rw[if_pos c];exact tF O _ (by omega) r2 r3 r4
 ·rw[if_neg c];have e:r.1=N:=by omega
  rw[e]at r3 r4;exact⟨r3.sz,r4⟩
end
open PySem PySem.Spec PyProof.Rows PySem.W
def Ite(K:PySem.W.Frag)(a:Addr)(xs:List V):It :=
 ⟨fun i H=>i<xs.length/\SqL K H a xs,fun i H x H'=>∃T p,H T=none/\xs[i]?=some p/\x=.ref T/\H'=upd H T (.tup [.int i,p]),fun i H=>i=xs.length/\SqL K H a xs⟩
abbrev eTn(e it a:Addr):Nat->Heap->Prop:=fun i h=>(∃old,IsEnum h e it i old)/\h.IsListIter it a i
theorem uO{P:Program}{w:World}{K:PySem.W.Frag}{elts:List Expr}{kt:Nat}{tp:Pos}{e it a:Addr}{xs:List V}(ne:e≠it)(ha:e≠a/\it≠a) :
  Turn P w K (.Tuple elts kt tp) (Ite K a xs) [e,it] e (eTn e it a):=by
 refine⟨by simp,fun i h st c hc=>?_,fun i h h' st k=>?_,?_,?_,fun A i s Q E st h=>?_⟩
 ·obtain⟨⟨old,e1⟩,⟨o4,e4,_,d4⟩⟩:=st;simp only[Zq,Z6,or_false]at hc;rcases hc with rfl|rfl
  ·exact⟨_,e1,fun v z=>nomatch z⟩
  ·exact⟨_,e4,fun v z=>by rw[d4]at z;cases z⟩
 ·obtain⟨⟨old,e1⟩,⟨o4,e4,r4⟩⟩:=st;exact⟨⟨old,k e (by simp) _ e1⟩,⟨o4,k it (by simp) _ e4,r4⟩⟩
 ·intro X hP hw hK hc i pins s σ H E I hf st hg;subst hP hw hK;obtain⟨⟨old,e1⟩,e4⟩:=st;obtain⟨hi,hx⟩:=hg;obtain⟨its,rx,px,zx⟩:=I.list hx;have lx:i<its.toArray.size:=by rw[Zf,<-rx.length];exact hi
  have hh:=I.ok.hd hc;refine wpAny_pyNext_enum_itemD (Draws.list (A:=X.A.in1) hh it a ha.2.symm its.toArray) e1 ⟨e4,px.isList⟩ lx ne (by simp[ne,ha.1]) fun x h' tk qx ho hs' hT hsz hk=>?_;refine⟨_,rfl,wpAny_letOwnedTupleGo_enum (s:={ s with heap:=h',toks:=tk+1 }) ho fun h2 he2 sb=>?_⟩;obtain⟨xv,ex⟩:∃xv,xs[i]?=some xv:=⟨xs[i],by simp[hi]⟩
  obtain⟨x',gx,rxv⟩:=rx.get ex;have qx':its[i]?=some x:=by simpa using qx
  rw[gx]at qx';cases qx';have lte:e<s.heap.objs.size:=Zm e1;have kp2:∀c o,c∉[e,it]->s.heap.get? c=some o->h2.get? c=some o:=fun c o hc q=>by simp only[Zq,Z6,or_false,not_or]at hc;exact sb.extBut c o hc.1 (hk c o hc.1 hc.2 q)
  have tT:IsTup h2 s.heap.objs.size [.int i tk,x].toArray:=⟨_,sb.extBut _ _ (Yk lte) hT,rfl,_,rfl⟩
  refine⟨.ref s.heap.objs.size,upd H s.heap.objs.size (.tup [.int i,xv]),I.turnT (t':=tk+1) hf kp2 tT (.cons ⟨tk,rfl⟩ (.cons rxv .nil)) (sz rfl),rfl,⟨_,xv,I.hok.fresh (Ze _),ex,rfl,rfl⟩,?_,fun c hc=>?_⟩
  ·exact⟨⟨_,by simpa using he2⟩,hs'.1.extBut sb.extBut ne.symm⟩
  ·rw[ad]
   ·exact(hf c hc).1
   ·obtain⟨o,eo⟩:∃o,s.heap.get? c=some o:=by
     simp only[Zq,Z6,or_false]at hc;rcases hc with rfl|rfl
     ·exact⟨_,e1⟩
     ·obtain⟨o,eo,_⟩:=e4;exact⟨o,eo⟩
    exact Zv (Zm eo)
 ·intro X hP hw hK hc i pins s σ H E I hf st hg;subst hP hw hK;obtain⟨⟨old,e1⟩,e4⟩:=st;obtain⟨rfl,hx⟩:=hg;obtain⟨its,rx,px,zx⟩:=I.list hx;have lx:its.toArray.size=xs.length:=by rw[Zf,<-rx.length]
  have hh:=I.ok.hd hc;refine wpAny_pyNext_enum_endD (Draws.list (A:=X.A.in1) hh it a ha.2.symm its.toArray) e1 ⟨by rw[lx];exact e4,px.isList⟩ fun h' kp=>⟨rfl,?_⟩
  exact I.turnM (t':=s.toks) hf fun c ob hc q=>by simp only[Zq,Z6,or_false,not_or]at hc;exact kp c ob hc.2 q
 ·obtain⟨⟨old,e1⟩,_⟩:=st;exact wpAny_pyIter_enum e1 h
def xi(K:PySem.W.Frag)(ta:TA):TI:=fun σ H R=>ta σ H fun vs H1=>∃a xs,vs=[.ref a]/\H1 a=some (.lst xs)/\R (Ite K a xs) H1
section
variable{X:Cx}
theorem yT{e1:Expr}{ta:TA}{p pos tp:Pos}{elts:List Expr}{kt:Nat}(hg:Gl X "enumerate")(hm:X.mg "enumerate" = none)(ha:PA X [e1] ta)(n1:ax e1=true):PI X (.Tuple elts kt tp) (.Call (.Name "enumerate" p) [e1] [] pos) (xi X.K ta):=by
 intro pins s σ H R I h;refine Call_ (dJ I hg hm boot_enumerate (Yu (thn (ha pos pins s σ H _ I h) fun us s1 hz9=>?_) (aw n1) (aZ (by simp))));obtain⟨vs,H1,I1,r1,q1⟩:=hz9;obtain⟨a,xs,e,hx,q⟩:=q1;subst e;obtain⟨ua,rfl,ra⟩:=ee r1;cases ra;obtain⟨z,its,n,rx,hl',eo⟩:=I1.lstM hx;have la:a<s1.heap.objs.size:=Zm eo;refine call_enumerate_1 eo fun h' he hl hz hk=>wpAny_pyIter_enum he ?_;refine⟨s1.heap.objs.size+1,[s1.heap.objs.size+1,s1.heap.objs.size],eTn (s1.heap.objs.size+1) s1.heap.objs.size a,_,H1,rfl,I1.kept (t':=s1.toks) hk,uO (Nat.succ_ne_self _) ⟨Yk (Nat.lt_succ_of_lt la),Yk la⟩,⟨⟨_,he⟩,hl⟩,fun c hc=>?_,q⟩;have hc':s1.heap.objs.size<=c:=by
  simp only[Zq,Z6,or_false]at hc;rcases hc with rfl|rfl
  ·exact Nat.le_succ _
  ·exact Ze _
 exact I1.fpOk hc' (I1.hok.fresh hc')
theorem Al{e1:Expr}{ta:TA}{p pos tp:Pos}{elts:List Expr}{kt:Nat}(hm:X.mg "enumerate" = none)(ha:QA X [e1] ta)(hg:Gl X "enumerate":=by rfl)(n1:ax e1=true:=by rfl):QI X (.Tuple elts kt tp) (.Call (.Name "enumerate" p) [e1] [] pos) (xi X.K ta):=⟨yT hg hm ha.h n1⟩
end
theorem vC{K:PySem.W.Frag}{a:Addr}{xs:List V}{i j:Nat}{tb:TS}{D:Ends}{σ:St}{H:Hp}(Pv:Nat->St->Hp->Prop)(h0:Pv 0 σ H)(ha:∀i σ H,i<=xs.length->Pv i σ H->SqL K H a xs)(hs:∀k x σ H,xs[k]?=some x->Pv k σ H->∀T,H T=none->tb { D with nx:=Pv (k+1),ct:=Pv (k+1),bk:=D.nx } ((σ.set i (some (.int k))).set j (some x)) (upd H T (.tup [.int k,x])))(hd:∀σ H,Pv xs.length σ H->D.nx σ H) :
  ∃W:Nat->Nat->St->Hp->Prop,(∃m,W 0 m σ H)/\∀k m σ H,W k m σ H ->
   ((Ite K a xs).stop k H/\D.nx σ H)\/((Ite K a xs).go k H/\∃N:St->Hp->Prop,(∀σ' H',N σ' H'->∃m',m'<m/\W (k+1) m' σ' H')/\∀x H',(Ite K a xs).yld k H x H'->oh K 2 (fw (bN i) (fw (bN j) og)) x σ H' fun σ2 H2=>tb { D with nx:=N,ct:=N,bk:=D.nx } σ2 H2):=by
 refine⟨fun k m σ H=>m=xs.length-k/\k<=xs.length/\Pv k σ H,⟨xs.length,by simp,ZO _,h0⟩,?_⟩;rintro k m σ H ⟨rfl,hk,pv⟩;by_cases hlt:k<xs.length
 ·refine .inr ⟨⟨hlt,ha k σ H hk pv⟩,Pv (k+1),fun σ' H' z=>⟨xs.length-(k+1),by omega,rfl,hlt,z⟩,fun x H' y=>?_⟩;obtain⟨T,p,hT,hx,rfl,rfl⟩:=y;exact⟨T,[.int k,p],rfl,SqT.of af,rfl,.int k,[p],rfl,p,[],rfl,rfl,hs k p σ H hx pv T hT⟩
 ·have e:k=xs.length:=by omega
  subst e;exact .inl ⟨⟨rfl,ha _ σ H hk pv⟩,hd σ H pv⟩
open PySem PySem.Spec PyProof.Rows PySem.W
theorem qd{α:Type}{n:Nat}{lt:Nat->Nat->Bool}{P R:α->Prop}{cmp:Nat->Nat->(Bool->Shared->Prop)->Shared->Prop}{Q:α->Shared->Prop}{s:Shared}(hc:∀i j C,i<n->j<n->C (lt i j) s->cmp i j C s)(hq:∀a,P a->R a->Q a s):∀{t:KasT α},KIn n P t->KW lt R t->t.kasWp cmp Q s
 |.ret _,h,k=>hq _ h k
 |.ask i j c,⟨h1,h2,h3⟩,k=>hc _ _ _ h1 h2 (qd hc hq (t:=c (lt i j)) (h3 _) k)
section
variable{X:Cx}{pins:List (Addr×Obj)}{σ:St}{H:Hp}{s:Shared}{h':Heap}
theorem Inv.movedF{ch:List Addr}{t':Nat}(I:Inv X pins σ H s)(hch:∀b∈ch,aY X pins H b)(k:∀b u,b≠X.env.locals->b∉ch->s.heap.get? b=some u->h'.get? b=some u)(hn:∃m,s.heap.Ns X.env.locals m/\h'.Ns X.env.locals m):Inv X pins σ H { s with heap:=h',toks:=t' }:=by
 have neL:∀{b:Addr} {u:HO},H b=some u->b≠X.env.locals:=fun{b u} e=>ag e I.free;have neC:∀{b:Addr} {u:HO},H b=some u->b∉ch:=fun{b u} e z=>by have:=(hch b z).1;rw[e]at this;cases this
 refine I.step (g':=s.gens) (d':=s.drawn) (ch:=ch) (fun b hb=>⟨(hch b hb).2.2.2.1,(hch b hb).2.1,(hch b hb).2.2.2.2.1,(hch b hb).2.2.2.2.2⟩) (fun b o hL _ hc e _=>k b o hL hc e) (fun b o hL _ hc e _=>⟨o.slots,k b o hL hc e⟩) (fun b o _ e n=>n) (fun b o hc e=>?_)
  (fun b xs e=>e) (fun b o u e=>e) (fun b ps e=>⟨#[],by rw[e];simp⟩) (fun m' hm'=>?_) (fun b u e=>?_) I.bare
 ·by_cases hL:b=X.env.locals
  ·obtain⟨m,_,o',_,_,e',_⟩:=hn;exact⟨o',by rw[hL];exact e'⟩
  ·exact⟨o,k b o hL hc e⟩
 ·obtain⟨m,h1,h2⟩:=hn;rw[hm'.eq_nsMap,<-h1.eq_nsMap];exact h2
 ·refine(I.hok b u e).stay (fun c v hc q=>k c v ?_ ?_ q) (fun c q=>q) fun c ys q=>q
  ·rcases hc with z|z
   ·rw[z];exact neL e
   ·exact neL z
  ·rcases hc with z|z
   ·rw[z];exact neC e
   ·exact neC z
theorem Inv.tookF{ch:List Addr}{a:Addr}{o:HO}{t':Nat}(I:Inv X pins σ H s)(ha:a∈ch)(hch:∀b∈ch,aY X pins H b)(k:∀b u,b≠X.env.locals->b∉ch->s.heap.get? b=some u->h'.get? b=some u)(hn:∃m,s.heap.Ns X.env.locals m/\h'.Ns X.env.locals m)(new:ObjOk X.prog X.w (upd H a o) h' a o):Inv X pins σ (upd H a o) { s with heap:=h',toks:=t' }:=by
 have fr:=(hch a ha).1;have ne:∀{b:Addr} {u:HO},H b=some u->b≠a:=fun{b u} e=>ag e fr;have neL:∀{b:Addr} {u:HO},H b=some u->b≠X.env.locals:=fun{b u} e=>ag e I.free;have neC:∀{b:Addr} {u:HO},H b=some u->b∉ch:=fun{b u} e z=>by have:=(hch b z).1;rw[e]at this;cases this
 refine I.step (g':=s.gens) (d':=s.drawn) (ch:=ch) (fun b hb=>⟨(hch b hb).2.2.2.1,(hch b hb).2.1,(hch b hb).2.2.2.2.1,(hch b hb).2.2.2.2.2⟩) (fun b o hL _ hc e _=>k b o hL hc e) (fun b o hL _ hc e _=>⟨o.slots,k b o hL hc e⟩) (fun b o hc e n=>by rw[ad (fun z:b=a=>hc (by rw[z];exact ha))];exact n) (fun b o hc e=>?_)
  (fun b xs e=>by rw[ad (ne e)];exact e) (fun b o u e=>by rw[ad (ne e)];exact e) (fun b ps e=>⟨#[],by rw[ad (ne e),e];simp⟩) (fun m' hm'=>?_) (fun b u e=>?_) I.bare
 ·by_cases hL:b=X.env.locals
  ·obtain⟨m,_,o',_,_,e',_⟩:=hn;exact⟨o',by rw[hL];exact e'⟩
  ·exact⟨o,k b o hL hc e⟩
 ·obtain⟨m,h1,h2⟩:=hn;rw[hm'.eq_nsMap,<-h1.eq_nsMap];exact h2
 ·by_cases hb:b=a
  ·subst hb;rw[af]at e;cases e;exact new
  ·rw[ad hb]at e;refine(I.hok b u e).stay (fun c v hc q=>k c v ?_ ?_ q) (fun c q=>by rw[ad (ne q)];exact q) fun c ys q=>by rw[ad (ne q)];exact q
   ·rcases hc with z|z
    ·rw[z];exact neL e
    ·exact neL z
   ·rcases hc with z|z
    ·rw[z];exact neC e
    ·exact neC z
def eE(base h:Heap)(L kS:Addr):List (Addr×Obj):=(kE base h L).filter fun p=>decide (p.1≠kS)
theorem eT{base h:Heap}{L kS:Addr}{o:Obj}(e:h.get? kS=some o)(hL:kS≠L)(hb:base.get? kS=none):News base L h ((kS,o)::eE base h L kS):=fun p hp=>by
 rcases Zq.mp hp with rfl|hp
 ·exact⟨e,hL,hb⟩
 ·exact fK base h L p (Ye.mp hp).1
theorem gN{base h:Heap}{L kS:Addr}:∀p∈eE base h L kS,p.1≠kS:=fun p hp=>y0 (Ye.mp hp).2
theorem eS{base h h2:Heap}{L kS:Addr}{o':Obj}{m:Str->Option Value}(hbk:∀b o,base.get? b=some o->h.get? b=some o)(F:Fr base L h2 m)(N:News base L h2 ((kS,o')::eE base h L kS)):∀b u,b≠L->b∉[kS]->h.get? b=some u->h2.get? b=some u:=fun b u hL hk e=>by
 cases q:base.get? b with
 |none=>exact(N (b,u) (.tail _ (Ye.mpr ⟨bQ e hL q,decide_eq_true (fun z=>hk (Zu.mpr z))⟩))).1
 |some o =>have e':=hbk b o q;rw[e]at e';cases e';exact F.keep b u q
structure SK(X:Cx)(pins:List (Addr×Obj))(σ:St)(H1:Hp)(m:Str->Option Value)(kS D:Addr)(e1:Nat)(ks:List (List Int))(as:List Addr)(e:Nat)(H:Hp)(s:Shared):Prop where
 I:Inv X pins σ H s
 sm:Same H1 H
 fk:aY X pins H kS
 fd:aY X pins H D
 bk:X.base.get? kS=none
 bd:X.base.get? D=none
 hk:s.heap.get? kS=some (seqObj "list" (List.toArray (as.map Value.ref)) e)
 hd:s.heap.get? D=some (seqObj "list" #[] e1)
 ns:s.heap.Ns X.env.locals m
 keys:∀(i:Nat) (a:Addr) (k:List Int),as[i]?=some a->ks[i]?=some k->H a=some (.tup (k.map V.int))
end
open PySem PySem.Spec PyProof.Rows PySem.W
theorem jW:∀{a b:List Int},HT.lexLt a b=true->HT.lexLt b a=false
 | [],[],h=>by cases h
 | [],_::_,_=>rfl
 |_::_,[],h=>by cases h
 |x::a,y::b,h=>by
  rw[HT.lexLt_cons]at h ⊢;by_cases e:x=y
  ·subst e;rw[if_pos rfl]at h ⊢;exact jW h
  ·rw[if_neg e]at h;rw[if_neg (fun z=>e z.symm)];have:=y0 h;exact decide_eq_false (by omega)
theorem tI:∀{a b c:List Int},HT.lexLt b a=false->HT.lexLt c b=false->HT.lexLt c a=false
 | [],[],[],_,_=>rfl
 | [],[],_::_,_,_=>rfl
 | [],_::_,[],_,h=>by cases h
 | [],_::_,_::_,_,_=>rfl
 |_::_,[],_,h,_=>by cases h
 |_::_,_::_,[],_,h=>by cases h
 |x::a,y::b,z::c,h,k=>by
  rw[HT.lexLt_cons]at h k ⊢;by_cases e:y=x
  ·subst e;rw[if_pos rfl]at h;by_cases e2:z=y
   ·rw[if_pos e2]at k ⊢;exact tI h k
   ·rw[if_neg e2]at k ⊢;exact k
  ·rw[if_neg e]at h;have h':=of_decide_eq_false h;by_cases e2:z=y
   ·rw[if_neg (by omega)];exact decide_eq_false (by omega)
   ·rw[if_neg e2]at k;have k':=of_decide_eq_false k;rw[if_neg (by omega)];exact decide_eq_false (by omega)
theorem tH(ks:List (List Int)):LtOk (fun i j=>HT.lexLt (ks.getD i []) (ks.getD j [])):=⟨jW,tI⟩
section
variable{X:Cx}{pins:List (Addr×Obj)}{σ:St}{H:Hp}{s:Shared}
def wX(X:Cx)(l:List Addr):Cx:={ X with ex:=l++X.ex }
structure ExOk(X:Cx)(b:Addr):Prop where
 old:b∈X.ex\/X.s₀.heap.get? b=none
 loc:b≠X.env.locals
 cel:∀x c,X.env.cells.lookup x=some c->c≠b
 bas:X.base.get? b=none
 fs:b∉X.fs
theorem Inv.widen{l:List Addr}(I:Inv X pins σ H s)(hl:∀b∈l,ExOk X b):Inv (wX X l) pins σ H s:=by
 have ok:(wX X l).Ok:=by
  have o:=I.ok;refine⟨o.mod,o.kind,o.glob,o.blt,o.above,o.inj,o.has,o.cab,o.hd,o.frames,o.stk,fun b hb=>?_,o.bs,o.bsz,fun b ob hb z=>?_,fun b hb=>?_,o.funs,o.frf⟩
  ·rcases ZA.mp hb with h|h
   ·exact⟨(hl b h).loc,(hl b h).cel⟩
   ·exact o.exf b h
  ·rcases ZA.mp z with h|h
   ·have hb':X.base.get? b=some ob:=hb;rw[(hl b h).bas]at hb';cases hb'
   ·exact o.noex b ob hb h
  ·rcases ZA.mp hb with h|h
   ·exact(hl b h).fs
   ·exact o.exfs b h
 have ne:∀{b:Addr},b∉l++X.ex->b∉X.ex:=fun h z=>h (ZH _ z);have u:=I.base;exact⟨ok,I.os,I.bare,⟨fun b o e n hb hx=>u.keep b o e n hb (ne hx),fun b o e n hb hx=>u.slot b o e n hb (ne hx),fun b o e n hx=>u.free b o e n (ne hx),fun b o e hx=>u.there b o e (ne hx),u.tups,u.frzs,u.tbls⟩,I.loc,I.cell,I.free,I.freeC,I.pin,I.hok,I.len⟩
theorem Inv.narrow{l:List Addr}(I:Inv (wX X l) pins σ H s)(ok:X.Ok)(hl:∀b∈l,b∈X.ex\/X.s₀.heap.get? b=none):Inv X pins σ H s:=by
 have ne:∀{b:Addr} {o:Obj},X.s₀.heap.get? b=some o->b∉X.ex->b∉l++X.ex:=fun{b o} e h z=>by
  rcases ZA.mp z with z|z
  ·rcases hl b z with y|y
   ·exact h y
   ·rw[y]at e;cases e
  ·exact h z
 have u:=I.base;exact⟨ok,I.os,I.bare,⟨fun b o e n hb hx=>u.keep b o e n hb (ne e hx),fun b o e n hb hx=>u.slot b o e n hb (ne e hx),fun b o e n hx=>u.free b o e n (ne e hx),fun b o e hx=>u.there b o e (ne e hx),u.tups,u.frzs,u.tbls⟩,I.loc,I.cell,I.free,I.freeC,I.pin,I.hok,I.len⟩
theorem Inv.exOk(I:Inv X pins σ H s){b:Addr}(hb:s.heap.get? b=none)(hL:b≠X.env.locals)(h0:X.base.get? b=none):ExOk X b:=by
 have old:b∈X.ex\/X.s₀.heap.get? b=none:=by
  by_cases hx:b∈X.ex
  ·exact .inl hx
  ·cases e:X.s₀.heap.get? b with
   |none=>exact .inr rfl
   |some o =>obtain⟨o',e'⟩:=I.base.there b o e hx;rw[hb]at e';cases e'
 refine⟨old,hL,fun x c e z=>?_,h0,fun z=>?_⟩
 ·obtain⟨v,o,ho,_⟩:=I.cell x c e;rw[z,hb]at ho;cases ho
 ·obtain⟨_,o,ho,_⟩:=I.ok.funs.mem z;rcases old with y|y
  ·exact I.ok.exfs b y z
  ·rw[y]at ho;cases ho
theorem Inv.fpW{l:List Addr}(I:Inv X pins σ H s){b:Addr}(hm:b∈l)(x:ExOk X b)(hb:s.heap.get? b=none):aY (wX X l) pins H b:=by refine⟨none_of I hb,x.loc,x.fs,.inl (List.mem_append_left _ hm),x.cel,fun p hp z=>?_⟩;have:=(I.pin p hp).1;rw[z,hb]at this;cases this
theorem oq{ks:List (List Int)}(I:Inv X pins σ H s)(hk:∀k∈ks,k≠[]):∀(as:List Addr) (n:Nat),n+as.length=ks.length->(∀(i:Nat) (a:Addr) (k:List Int),as[i]?=some a->ks[n+i]?=some k->H a=some (.tup (k.map V.int)))->∃fs:List Value,KatTups s.heap (as.map Value.ref) fs/\fs.length=as.length/\∀v∈fs,∃i t,v=.int i t
 | [],_,_,_=>⟨[],KatTups.nil,rfl,fun v h=>nomatch h⟩
 |a::as,n,hl,h=>by
  rw[Zt]at hl;have hkn:ks[n]?=some (ks[n]'(by omega)):=Zb (by omega);have hne:=hk _ (Z7 (show n<ks.length by omega));generalize ks[n]'(by omega)=k at hkn hne;have ea:=h 0 a k rfl (by rw[Nat.add_zero];exact hkn);obtain⟨ia,ra,pa,za⟩:=I.tuple (SqT.of (K:=X.K) ea);obtain⟨oa,eo,ca,n1,da⟩:=id pa;obtain⟨x,t,ia',rfl⟩:∃x t r,ia=.int x t::r:=by
   cases aJ ra with
   |nil=>exact absurd rfl hne
   |cons x t r=>exact⟨x,t,_,rfl⟩
  obtain⟨fs,f1,f2,f3⟩:=oq I hk as (n+1) (by omega) (fun i b k' h1 h2=>h (i+1) b k' h1 (by rw[show n+(i+1)=n+1+i by omega];exact h2));refine⟨.int x t::fs,KatTups.cons eo ca da rfl f1,by rw[Zt,Zt,f2],fun v hv=>?_⟩;rcases Zq.mp hv with rfl|hv
  ·exact⟨_,_,rfl⟩
  ·exact f3 v hv
end
open PySem PySem.Spec PyProof.Rows PySem.W
section
variable{X:Cx}{o i value:Expr}{pos pos':Pos}{td ty tv:TE}
theorem sh:QE X (.Dict [] [] pos) uK:=⟨vX⟩
theorem bn(hu:X.A.units+64<cLine)(ho:QE X o td)(hi:QE X i ty)(hs:ve i:=by intro _ _;rfl):QE X (.Subscript o i pos) (xJ td ty):=⟨yP (by omega) ho.h hi.h hs⟩
theorem CD(hu:X.A.units+64<cLine)(hi:QE X i ty)(ho:QE X o td)(hm:behindInMarks .In o=false:=by with_unfolding_all rfl):QT X (.Compare i [.In] [o] pos) (tB (BL ty td)):=⟨uq (AV (by omega) hi.h ho.h) hm⟩
theorem fe(hu:X.A.units+64<cLine)(hi:QE X i ty)(ho:QE X o td)(hm:behindInMarks .NotIn o=false:=by with_unfolding_all rfl):QT X (.Compare i [.NotIn] [o] pos) (tB (qS ty td)):=⟨uq (uh (by omega) hi.h ho.h) hm⟩
theorem kF(hu:X.A.units+64<cLine)(ho:QE X o td)(hi:QE X i ty)(hv:QE X value tv)(hs:swapsWith value (some (.Subscript o i pos')) pos.line X.env=pure false:=by rfl):QS X (.Assign [.Subscript o i pos'] value pos) (xE td ty tv):=⟨yY (by omega) ho.h hi.h hv.h hs⟩
end
open PySem PySem.Spec PyProof.Rows PySem.W
open PySem PySem.Spec PyProof.Rows PySem.W
def Itv(K:PySem.W.Frag)(a:Addr)(xs:List V):It:=⟨fun i H=>i<xs.length/\SqL K H a xs,fun i H x H'=>H'=H/\xs.reverse[i]?=some x,fun i H=>i=xs.length/\SqL K H a xs⟩
theorem wQ{P:Program}{w:World}{K:PySem.W.Frag}{tg:Expr}{xs:List V}(a it:Addr):Turn P w K tg (Itv K a xs) [it] it (fun i h=>h.IsRevIter it a ((xs.length:Int)-1-(i:Nat))) where
 mem:=Zu.mpr rfl
 obj:=fun i h st b hb=>by obtain rfl:b=it:=Zu.mp hb;obtain⟨o,e,c,d⟩:=st;exact⟨o,e,fun v z=>by rw[d]at z;cases z⟩
 keep:=fun i h h' st k=>st.at fun o e=>k it (Zu.mpr rfl) o e
 item:=by
  intro X hP hw hK hc i pins s σ H E I hf st hg;subst hP hw hK;obtain⟨hi,hq⟩:=hg;obtain⟨its,rv,p,hz⟩:=I.list hq;have hl:=rv.length;have hx:xs[xs.length-1-i]?=some xs[xs.length-1-i]:=Zb (by omega);obtain⟨u,hu,ru⟩:=rv.get hx;obtain⟨f0,f1,f2,f3,f4,f5⟩:=hf it (Zu.mpr rfl);have st1:s.heap.IsRevIter it a ((xs.length-1-i:Nat):Int):=by rw[show((xs.length-1-i:Nat):Int)=(xs.length:Int)-1-(i:Nat) by omega];exact st
  refine wpAny_pyNext_rev_item st1 p.isList (x:=u) (by simpa using hu) fun h' st' sb=>?_;have I1:Inv X pins σ H { s with heap:=h' }:=I.turned (t':=s.toks) (fun b o hb e=>(sb.2 b hb).trans e) f0 f1 f3 f4 f5;obtain⟨o,e,c,d⟩:=id st';rw[show((xs.length-1-i:Nat):Int)-1=(xs.length:Int)-1-((i+1:Nat):Int) by omega]at st';exact⟨u,rfl,rF (s:={ s with heap:=h' }) e c d (by decide) ⟨_,H,I1,ru,⟨rfl,by rw[List.getElem?_reverse hi];exact hx⟩,st',fun b hb=>(hf b hb).1⟩⟩
 done:=by intro X hP hw hK hc i pins s σ H E I hf st hg;subst hP hw hK;obtain⟨rfl,hq⟩:=hg;obtain⟨f0,f1,f2,f3,f4,f5⟩:=hf it (Zu.mpr rfl);rw[show(xs.length:Int)-1-((xs.length:Nat):Int)=-1 by omega]at st;exact wpAny_pyNext_rev_end (I.ok.hd hc) st fun h' eb=>⟨rfl,I.turned (t':=s.toks) (fun b o hb e=>eb b o hb e) f0 f1 f3 f4 f5⟩
 self:=fun _ _ _ _ _ st h=>wpAny_pyIter_revIter st h
def Aj(K:PySem.W.Frag)(ta:TA):TI:=fun σ H R=>ta σ H fun vs H1=>∃a xs,vs=[.ref a]/\SqL K H1 a xs/\R (Itv K a xs) H1
section
variable{X:Cx}
theorem vo:bootBuiltins "reversed" = some (.type "reversed"):=by decide +kernel
theorem A9{tg e1:Expr}{ta:TA}{p pos:Pos}(hg:Gl X "reversed")(hm:X.mg "reversed" = none)(ha:PA X [e1] ta)(n1:ax e1=true):PI X tg (.Call (.Name "reversed" p) [e1] [] pos) (Aj X.K ta):=by
 intro pins s σ H R I h;refine Call_ (dJ I hg hm vo (Yu (thn (ha pos pins s σ H _ I h) fun us s1 hz9=>?_) (aw n1) (aZ (by simp))));obtain⟨vs,H1,I1,r1,q1⟩:=hz9;obtain⟨a,xs,e,hx,q⟩:=q1;subst e;obtain⟨ua,rfl,ra⟩:=ee r1;cases ra;obtain⟨its,rv,pl,hz⟩:=I1.list hx;have hl:=rv.length;refine call_reversed_list pl.isList (wpAny_pyIter_revIter ⟨_,Zo _ rfl,rfl,rfl⟩ ?_);refine⟨s1.heap.objs.size,[s1.heap.objs.size],_,_,H1,rfl,I1.kept (t':=s1.toks) fun b o e=>Za _ e,wQ (xs:=xs) a _,⟨_,Zo _ rfl,rfl,?_⟩,fun b hb=>?_,q⟩
 ·show Data.fields #[.ref a,rawInt ((its.toArray.size:Int)-1)]=_;rw[Zf,<-hl];simp
 ·obtain rfl:=Zu.mp hb;exact I1.fpOk (Ze _) (I1.hok.fresh (Ze _))
theorem xm{tg e1:Expr}{ta:TA}{p pos:Pos}(hm:X.mg "reversed" = none)(ha:QA X [e1] ta)(hg:Gl X "reversed":=by rfl)(n1:ax e1=true:=by rfl):QI X tg (.Call (.Name "reversed" p) [e1] [] pos) (Aj X.K ta):=⟨A9 hg hm ha.h n1⟩
end
open PySem PySem.Spec PyProof.Rows PySem.W
open PySem PySem.Spec PyProof.Rows PySem.W
section
variable{X:Cx}
structure QPs(X:Cx)(pos:Pos)(keys:List (Option Expr))(values:List Expr)(trs:List (TE×TE)):Prop where
 h:PPs X pos keys values trs
end
open PySem PySem.Spec PyProof.Rows PySem.W
open PySem PySem.Spec PyProof.Rows PySem.W
structure MFn(P:Program)(w:World)(K:PySem.W.Frag)(mg:Str->Option Value)(base:Heap)(k:Nat)(C:Addr)(m:Str)(ps:List Str)(sp:Sp):Prop where
 cl:Cls K C
 ex:∃f fd,FnOk P w K mg base CX0 k f fd ps sp/\Meth K C m f/\Binds K fd ps []
structure MkFn(P:Program)(w:World)(K:PySem.W.Frag)(mg:Str->Option Value)(base:Heap)(k:Nat)(C:Addr)(x:Str)(ps:List Str)(sp:Sp):Prop where
 cl:Cls K C
 mgC:mg x=some (.ref C)
 ex:∃f fd,FnOk P w K mg base CX0 k f fd ps sp/\Mk K C f/\Binds K fd ps []
section
variable{X:Cx}{k:Nat}{C:Addr}{m x f:Str}{p pos pos' apos:Pos}{o e value:Expr}{es:List Expr}{ps:List Str}{sp:Sp}{t:TA}{ta tv:TE}
theorem bA(he:QE X e ta)(hb:attributeBase e f X.env (eval e X.env)=eval e X.env:=by rfl):QE X (.Attribute e f pos) (wM X.K ta f):=⟨AY he.h hb⟩
theorem xF(ha:QE X o ta)(hv:QE X value tv)(hs:swapsWith value (some (.Attribute o f pos')) pos.line X.env=pure false:=by rfl):QS X (.Assign [.Attribute o f pos'] value pos) (BA X.K ta tv f):=⟨Bg ha.h hv.h hs⟩
theorem cC{pl:Sem Bool}(F:MFn X.prog X.w X.K X.mg X.base k C m ps sp)(hr:Room k X.A)(he:QE X o ta)(ha:QA X (e::es) t)(hs:(e::es).all ax=true:=by rfl)(ht:eval (.Call (.Attribute o m apos) (e::es) [] pos) X.env=(do
   let ov ←eval o X.env
   standAt apos.atName
   let(f,first) ←holding [ov] (getMethod ov m pl)
   callWith pos f first (backTo pos (starEach (e::es) X.env)) (backToKw pos (keywordEach [] X.env))):=by rfl) :
  QE X (.Call (.Attribute o m apos) (e::es) [] pos) (kL C m sp [] E0 ta t):=by
 obtain⟨f,fd,G,hm,b⟩:=F.ex;rw[YO,ZB]at hs;exact⟨qw (pl:=pl) he.h F.cl hm G hr b .nil iU ha.h (aw hs.1) (aZ hs.2) ht⟩
theorem eC{pl:Sem Bool}(F:MFn X.prog X.w X.K X.mg X.base k C m ps sp)(hr:Room k X.A)(he:QE X o ta)(ht:eval (.Call (.Attribute o m apos) [] [] pos) X.env=(do
   let ov ←eval o X.env
   standAt apos.atName
   let(f,first) ←holding [ov] (getMethod ov m pl)
   callWith pos f first (backTo pos (starEach [] X.env)) (backToKw pos (keywordEach [] X.env))):=by rfl) :
  QE X (.Call (.Attribute o m apos) [] [] pos) (kL C m sp [] E0 ta fL):=by
 obtain⟨f,fd,G,hm,b⟩:=F.ex;exact⟨vZ (pl:=pl) he.h F.cl hm G hr b .nil iU ht⟩
theorem zl(F:MkFn X.prog X.w X.K X.mg X.base k C x ps sp)(hr:Room (k+1) X.A)(hg:Gl X x:=by rfl)(hdb:(x==("__debug__":Str))=false:=by decide):QE X (.Call (.Name x p) [] [] pos) (xL C sp [] E0 fL):=by obtain⟨f,fd,G,hm,b⟩:=F.ex;exact⟨vY hm G hr hg F.mgC b .nil iU hdb⟩
end
def DRaw(h:Heap)(d:Addr)(es:Array DictEntry)(ep:Nat):Prop:=∃o,h.get? d=some o/\o.ExactDict/\o.data=.dict es ep
theorem DRaw.type{s:Shared}{d:Addr}{es:Array DictEntry}{ep:Nat}(x:DRaw s.heap d es ep):s.TypeIs (.ref d) "dict":=let⟨o,ho,hc,_⟩:=x;⟨o,ho,hc.1⟩
theorem DRaw.at'{h h':Heap}{d:Addr}{es:Array DictEntry}{ep:Nat}(x:DRaw h d es ep)(e:∀o,h.get? d=some o->h'.get? d=some o):DRaw h' d es ep:=let⟨o,ho,r⟩:=x;⟨o,e o ho,r⟩
theorem DRaw.lt{h:Heap}{d:Addr}{es:Array DictEntry}{ep:Nat}(x:DRaw h d es ep):d<h.objs.size:=let⟨_,ho,_⟩:=x;Zm ho
section
variable{prog:Program}{w:World}{A:Around}{E:Value->Shared->Prop}{s:Shared}{d it:Addr}{es:Array DictEntry}{ep i:Nat}
theorem wE{Q:Value->Shared->Prop}(hd:(d==sysModules)=false)(hm:DRaw s.heap d es ep)(hQ:Q (.ref s.heap.objs.size) { s with heap:=s.heap.push { cls:=.type "dict_keyiterator",data:=.fields #[.ref d,.int 0 0,.int es.size 0,.int ep 0] } }) :
  wpAny (model prog w) A (pyIter (.ref d)) Q E s:=by
 obtain⟨o,ho,hc,hdat⟩:=id hm;refine wpAny_pyIter_slot hm.type PySem.F.slot_dict_iter (Z1 PySem.F.slot_dict_iter hm.type PySem.F.entry_dict_iter ?_ (PySem.F.args_dict_iter_1 _));unfold Builtin.«dict.__iter__»;refine z6 ?_;unfold Builtin.Dict.dictSlotNone;refine z6 (wpAny_notOrdered_dict hm.type ?_);show wpAny _ _ (pure (Value.ref d)) _ _ s;refine z9 ?_;show wpAny _ _ (Builtin.Dict.showsAll d >>= _) _ _ s;unfold Builtin.Dict.showsAll;rw[if_neg (by rw[hd];exact Zj)];refine z6 (z9 ?_);refine z6 (Yt ho hdat ?_);refine z6 (Z5 ho hdat ?_);refine z6 (Z9 (z9 ⟨_,rfl,"dict_keyiterator",_,⟨_,Zo _ rfl,rfl⟩,Yb.lookup,?_⟩));simpa[rawInt]using hQ
theorem wC{Q:Option Value->Shared->Prop}(hit:s.heap.IsKeyIter it d i es.size ep)(hm:DRaw s.heap d es ep)(hx:i<es.size)(hQ:∀h',h'.IsKeyIter it d (i+1) es.size ep->Heap.SameBut it s.heap h'->Q (some es[i].key) { s with heap:=h' }):wpAny (model prog w) A (pyNext (.ref it)) Q E s:=by
 obtain⟨o,ho,hc,hd⟩:=id hit;obtain⟨od,hod,hcd,hdd⟩:=id hm;unfold pyNext;refine z6 (wpAny_attempt (ZY (name:=Str.ofString "__next__") hit.typeIs Yb
  (Z1 Yb hit.typeIs PySem.F.entry_dict_keyiterator_next ?_ (PySem.F.args_dict_keyiterator_next_1 _))))
 refine z6 (z9 ?_);refine z6 ?_;refine z6 ?_
 first|refine z6 (YH hit.typeIs (z9 ?_))|refine z6 (wpAny_typeNameOf_keyiter hit.typeIs (z9 ?_))
 refine z6 (wpAny_fieldsOf ho hd ?_);have hown:Builtin.Dict_items.ownsTuple "dict_keyiterator" = false:=by decide
 simp only[hown,YL,if_false];show wpAny _ _ (if(Value.ref d==Value.none)=true then _ else _) _ _ s;rw[if_neg (show¬((Value.ref d==Value.none)=true)from Zj)];refine z6 (z9 ?_);refine z6 (Yt hod hdd ?_);rw[if_neg (by simp)];refine z6 (z9 ?_);refine z6 (Z5 hod hdd ?_);rw[if_neg (by simp)];refine z9 ?_;simp only[show¬((i:Int)<0)from by omega,if_false,Int.toNat_natCast,Yo hx];refine z6 ?_
 first|refine z6 (YH hit.typeIs (z9 ?_))|refine z6 (wpAny_typeNameOf_keyiter hit.typeIs (z9 ?_))
 refine z6 (wpAny_isOneOf_keyiter hit.typeIs ?_);show wpAny _ _ (setField (.ref it) 1 (rawInt ((i:Int)+1)) >>= _) _ _ s;refine z6 (YJ ho hd (by simp) ?_);have hit':(s.heap.update it (Obj.mapFields (·.setIfInBounds 1 (rawInt ((i:Int)+1))))).IsKeyIter it d (i+1) es.size ep :=
  ⟨_,Yp _ ho (Obj.isFreed_of_fields (Yg hd _)),(Obj.cls_mapFields ..).trans hc,by rw[Yg hd];simp[rawInt]⟩
 refine z6 (Z0 ?_);refine z6 (wpAny_isOneOf_keyiter (s:={ s with heap:=s.heap.update it (Obj.mapFields (·.setIfInBounds 1 (rawInt ((i:Int)+1)))) }) hit'.typeIs ?_);show wpAny _ _ (pure es[i].key) _ _ _;exact z9 (z9 ⟨_,rfl,z9 (hQ _ hit' (ZR ..))⟩)
theorem zm{Q:Option Value->Shared->Prop}(hh:A.handled=none)(hit:s.heap.IsKeyIter it d es.size es.size ep)(hm:DRaw s.heap d es ep)(hQ:∀h',Heap.ExtBut it s.heap h'->Q none { s with heap:=h' }) :
  wpAny (model prog w) A (pyNext (.ref it)) Q E s:=by
 obtain⟨o,ho,hc,hd⟩:=id hit;obtain⟨od,hod,hcd,hdd⟩:=id hm;unfold pyNext;refine z6 (wpAny_attempt (ZY (name:=Str.ofString "__next__") hit.typeIs Yb
  (Z1 Yb hit.typeIs PySem.F.entry_dict_keyiterator_next ?_ (PySem.F.args_dict_keyiterator_next_1 _))))
 refine z6 (z9 ?_);refine z6 ?_;refine z6 ?_
 first|refine z6 (YH hit.typeIs (z9 ?_))|refine z6 (wpAny_typeNameOf_keyiter hit.typeIs (z9 ?_))
 refine z6 (wpAny_fieldsOf ho hd ?_);have hown:Builtin.Dict_items.ownsTuple "dict_keyiterator" = false:=by decide
 simp only[hown,YL,if_false];show wpAny _ _ (if(Value.ref d==Value.none)=true then _ else _) _ _ s;rw[if_neg (show¬((Value.ref d==Value.none)=true)from Zj)];refine z6 (z9 ?_);refine z6 (Yt hod hdd ?_);rw[if_neg (by simp)];refine z6 (z9 ?_);refine z6 (Z5 hod hdd ?_);rw[if_neg (by simp)];refine z9 ?_;simp only[show¬((es.size:Int)<0)from by omega,if_false,Int.toNat_natCast,Array.getElem?_eq_none (Ze _)];refine z6 ?_
 first|refine z6 (YH hit.typeIs (z9 ?_))|refine z6 (wpAny_typeNameOf_keyiter hit.typeIs (z9 ?_))
 show wpAny _ _ (setField (.ref it) 0 .none >>= _) _ _ s;refine z6 (YJ ho hd (by simp) ?_);show wpAny _ _ (newExc (.type "StopIteration") [] >>= _) _ _ _;refine z6 ?_;simp only[newExc,newTuple];refine z6 (Z9 ?_ (by size_fits));refine z6 (m:=firstArgMember _ _) (wpAny_of_eq (a:=Value.none) (by first|rfl|(simp only[firstArgMember];rfl)) ?_);refine Z9 ?_ (by size_fits);simp only[raiseNew];refine z6 (wpAny_handled ?_);rw[show A.in1.handled=none from hh];refine z6 (z9 (wpAny_throw ?_));refine z6 (wpAny_isInstance (T:="StopIteration") (b:=true) ⟨_,Zo _ rfl,rfl⟩ isSubtype_stop ?_);exact z9 (hQ _ (((ZR ..).extBut.push _).push _))
theorem ux(hh:A.handled=none)(I d:Addr)(hne:d≠I)(es:Array DictEntry)(ep:Nat) :
  Walks prog w A I [I,d] [I] es.size (fun i v=>∃e,es[i]?=some e/\v=e.key) (fun i h=>h.IsKeyIter I d i es.size ep/\DRaw h d es ep) where
 sub:=fun b hb=>by simp at hb;simp[hb]
 frame:=fun _ _ _ st hk=>⟨st.1.at fun o e=>hk I (by simp) o e,st.2.at' fun o e=>hk d (by simp) o e⟩
 item:=fun i s Q E hi st hQ=>wC st.1 st.2 hi fun h' hit' hs'=>hQ _ h' s.toks ⟨es[i],by simp[hi],rfl⟩ ⟨hit',st.2.at' fun o e=>hs'.extBut d o hne e⟩ fun b o hb e=>hs'.extBut b o (fun h=>hb (by simp[h])) e
 done:=fun s Q E st hQ=>zm hh st.1 st.2 fun h' he'=>hQ h' s.toks fun b o hb e=>he' b o (fun h=>hb (by simp[h])) e
 self:=fun _ _ _ _ st hQ=>wpAny_pyIter_keyiter st.1 hQ
theorem qC(lo:(d==sysModules)=false):KdlSrc prog w "dict" d d es.size (fun i v=>∃e,es[i]?=some e/\v=e.key) (fun h=>DRaw h d es ep) where
 type:=fun _ hm=>hm.type
 there:=fun _ hm=>⟨hm.lt,hm.lt⟩
 keep:=fun _ _ hm hk=>hm.at' fun o e=>hk d (.inl rfl) o e
 notList:=by decide
 notTuple:=by decide
 hint:=fun _ _ _ _ hm hq=>kdl_hint_dict hm.type hq
 iter:=fun _ _ hh hm=>⟨_,_,(fun _ _ hq=>wE lo hm hq),ux hh _ d (Zv hm.lt) es ep,⟨⟨_,Zo _ rfl,rfl,rfl⟩,hm.at' fun o e=>Za _ e⟩⟩
end
def dI(H:Hp)(kvs:List (List Key×V))(ks:List V):Prop:=Paired (fun(p:List Key×V) (v:V)=>∃b,v=V.ref b/\H b=some (.tup (p.1.map kV))) kvs ks
theorem jV{H:Hp}{kvs:List (List Key×V)}{xs:List (List Key×Addr×Value)}(r:KT H kvs xs):dI H kvs (xs.map fun(x:List Key×Addr×Value)=>V.ref x.2.1):=by
 unfold dI;induction r with
 |nil=>exact .nil
 |cons h _ ih=>exact .cons ⟨_,rfl,h.2.1⟩ ih
section
variable{X:Cx}
theorem rm(hc:X.calm=true):dW X (.type "list") (fun xs H Q=>∃p kvs,xs=[.ref p]/\Rd H p (.dT kvs)/\∀l ks,H l=none->dI H kvs ks->Q (.ref l) (upd H l (.lst ks))):=by
 intro pins s σ H xs us Q I r h;obtain⟨p,kvs,rfl,hq,q⟩:=h;obtain⟨u,rfl,rx⟩:=ee r;cases rx;obtain⟨z,hd,xs,rel,o,es,ep,h1,h2,h3,h4,_,_⟩:=fm I.hok hq;have hsz:es.size=xs.length:=size_of_entries h4;have hkl:kvs.length=xs.length:=Zy rel;refine kdl_call (qC (es:=es) (ep:=ep) hd) (I.ok.hd hc) ⟨o,h1,h2,h3⟩ (by omega) fun h' tk acc' c' kp e hacc=>?_;have ev:Vals (xs.map fun(x:List Key×Addr×Value)=>V.ref x.2.1) acc'.toList:=by
  have gen:∀(vs:List Value) (ys:List (List Key×Addr×Value)),vs.length=ys.length->(∀(j:Nat) (v:Value),vs[j]?=some v->∃x:List Key×Addr×Value,ys[j]?=some x/\v=Value.ref x.2.1)->Vals (ys.map fun(x:List Key×Addr×Value)=>V.ref x.2.1) vs:=by
   intro vs;induction vs with
   |nil =>
    intro ys hl _;cases ys with
    |nil=>exact .nil
    |cons _ _=>cases hl
   |cons v vs ih =>
    intro ys hl hv;cases ys with
    |nil=>cases hl
    |cons y ys =>obtain⟨x,e1,e2⟩:=hv 0 v rfl;cases e1;exact .cons e2 (ih ys (by simpa using hl) fun j v' e'=>hv (j+1) v' (by simpa using e'))
  refine gen _ _ (by rw[Zk,hacc.1,hsz]) fun j v e'=>?_;obtain⟨en,e1,e2⟩:=hacc.2 j v (by rw[<-YD];exact e');rw[entry_at h4]at e1;obtain⟨x,e3,e4⟩:=ZZ.mp e1;refine⟨x,e3,?_⟩;rw[e2,<-e4];rfl
 refine⟨.ref s.heap.objs.size,_,I.laid (t':=tk) kp (Ze _) (show ObjOk X.prog X.w _ h' _ (.lst (xs.map fun(x:List Key×Addr×Value)=>V.ref x.2.1))from⟨by rw[Zi];omega,acc'.toList,c',ev,by simpa using e⟩),rfl,q _ _ (I.hok.fresh (Ze _)) (jV rel)⟩
theorem kU(hc:X.calm=true):QCall X (.type "list") (fun xs H Q=>∃p kvs,xs=[.ref p]/\Rd H p (.dT kvs)/\∀l ks,H l=none->dI H kvs ks->Q (.ref l) (upd H l (.lst ks))):=⟨rm hc⟩
end
def Cz(t:TS):TS:=fun D σ H=>∃Pv:St->Hp->Prop,t { D with nx:=Pv } σ H/\∀σ' H',Pv σ' H'->D.nx σ' H'
theorem kG{X:Cx}{st:Stmt}{t:TS}(h:QS X st t):QS X st (Cz t):=⟨fun pins s σ H D I ⟨Pv,h1,h2⟩=>thn (h.h pins s σ H _ I h1) fun fl s' q=>by
 cases fl with
 |next =>obtain⟨σ',H',I',q'⟩:=q;exact⟨σ',H',I',h2 _ _ q'⟩
 | _=>exact q⟩
open PySem PySem.Spec PyProof.Rows PySem.W
open PySem PySem.Spec PyProof.Rows PySem.W
section
variable{prog:Program}{w:World}{A:Around}{E:Value->Shared->Prop}{h:Heap}{g:Array GenState}{d:Drawn}{t:Nat}{os:OsState}
variable{nm q:Str}{C N:Addr}{bs bm bmB:List Value}{hdct:Bool}{sn:List Str}{sub:List Value}{ab:Bool}{col:Option Bool}{dd:Option Addr}{k0 k1 k2 k3 k5:Option Value}{B newId initId:String}
theorem kN(F:ExcBaseFacts B newId initId bmB)(T:OwnTail h bmB bm){mN:Str->Option Value}{rest:List Value}{fI:Addr}{oI:Obj}{Q:PySem.Fin->Shared->Prop}(hC:h.get? C=some (excClassObj nm q C N bs bm hdct sn sub ab col dd k0 k1 k2 k3 k5 newId))(hn:h.Ns N mN)(hi:mN "__init__" = some (.ref fI))(hfI:h.get? fI=some oI)(hfc:oI.cls=.type "function")(hq:∀h' e,Heap.MadeExcOf h h' e (.ref C) rest->wpAny (model prog w) A (call (.ref fI) (.ref e::rest)) (fun r s'=>r=.none/\Q (.done (.ret (.ref e))) s') E ⟨h',g,d,t,os⟩)(hrest:rest.length<=sizeLine) :
  wpAny (model prog w) A (Builtin.«type.__call__» ⟨.ref C::rest,[]⟩) Q E ⟨h,g,d,t,os⟩:=by
 repeat(first|with_reducible refine wpAny_loadPart_at hC ?_|with_reducible refine wpAny_madeBy_exc hC ?_|wp_step)
 refine codeAny_call_builtin_code (Code.quiet_builtin _ F.quiet) (wpAny_check_new_subT F T hC ?_);refine codeAny_exc_new_subT F T hC ?_ hrest;show wpAny _ _ _ _ _ _;have kp:∀b o,h.get? b=some o->((h.push { cls:=.type "tuple",data:=.seq rest.toArray }).push { cls:=.ref C,data:=.fields #[.ref h.objs.size,.none,.none,.none,.bool false,.none] }).get? b=some o :=
  fun b o e=>Za _ (Za _ e)
 have hn₁:((h.push { cls:=.type "tuple",data:=.seq rest.toArray }).push { cls:=.ref C,data:=.fields #[.ref h.objs.size,.none,.none,.none,.bool false,.none] }).Ns N mN:=hn.keeps kp;have hget:((h.push { cls:=.type "tuple",data:=.seq rest.toArray }).push { cls:=.ref C,data:=.fields #[.ref h.objs.size,.none,.none,.none,.bool false,.none] }).get? (h.objs.size+1) =
   some { cls:=.ref C,data:=.fields #[.ref h.objs.size,.none,.none,.none,.bool false,.none] }:=by heap_get
 have hcC:(Value.ref C::bm).contains (.ref C)=true:=by simp
 unfold isInstance
 repeat(first|with_reducible refine wpAny_loadPart_at hget ?_|(with_reducible refine wpAny_isSubtype_exc (kp _ _ hC) ?_;rw[hcC])|wp_step)
 show wpAny _ _ (typeLookup (.ref C) _) _ _ _;refine wpAny_typeLookup_tail (kp _ _ hC) hn₁ (T.keeps kp) F.mroIs F.init.lookup ?_;rw[hi];refine Z0 (z6 ?_);unfold bindSpecial;refine z6 (wpAny_typeOf (T:="function") ⟨_,kp _ _ hfI,hfc⟩ ?_);rw[if_pos (by decide)];refine z9 (z6 (ZQ (hq _ (h.objs.size+1) ⟨kp,YE (Nat.le_succ _),h.objs.size,hget,YE (Ze _),?_⟩) (fun r s' hr=>?_) fun _ _ x=>x))
 ·exact Za _ (Heap.get?_push_at rfl rfl)
 ·obtain⟨rfl,hQ⟩:=hr
  wp_walk
  exact hQ
theorem rk(F:ExcBaseFacts B newId initId bmB)(T:OwnTail h bmB bm){mN:Str->Option Value}{rest:List Value}{fI:Addr}{oI:Obj}{Q:Value->Shared->Prop}(hC:h.get? C=some (excClassObj nm q C N bs bm hdct sn sub ab col dd k0 k1 k2 k3 k5 newId))(hn:h.Ns N mN)(hi:mN "__init__" = some (.ref fI))(hfI:h.get? fI=some oI)(hfc:oI.cls=.type "function")(hq:∀h' e,Heap.MadeExcOf h h' e (.ref C) rest->wpAny (model prog w) (A.under (.builtin "type.__call__" ⟨.ref C::rest,[]⟩)) (call (.ref fI) (.ref e::rest)) (fun r s'=>r=.none/\Q (.ref e) s') E ⟨h',g,d,t,os⟩)(hrest:rest.length<=sizeLine) :
  wpAny (model prog w) A (call (.ref C) rest) Q E ⟨h,g,d,t,os⟩:=by
 have f1:=tc_lookup;have f2:=tc_bind (.ref C);have hT:(⟨h,g,d,t,os⟩:Shared).TypeIs (.ref C) "type":=⟨_,hC,rfl⟩
 refine wpAny_call (codeAny_of_tree ?_);show wpAny _ _ (callAny (.ref C) _) _ _ _
 repeat(any_goals(first|assumption|with_reducible refine wpAny_loadPart_at hC ?_|wp_step))
 refine⟨rfl,?_⟩;exact codeAny_call_builtin_at (Code.quiet_builtin _ (by decide +kernel)) entry_typeCall (wpAny_check_type_call_sub hC (kN F T hC hn hi hfI hfc (fun h' e hm=>hq h' e hm) hrest))
end
section
variable{M:Model}{A:Around}{E:Value->Shared->Prop}{env:Env}{K:PySem.W.Frag}
theorem uu{C:Addr}{bm:List Value}{s:Shared}{x:Sem Value}{Q:Flow->Shared->Prop}(hC:ExC K C bm)(hh:A.handled=none)(h:wpAny M A x (fun v s₁=>∃e oe,v=.ref e/\K.In s₁.heap/\s₁.heap.get? e=some oe/\oe.cls=.ref C/\(∃t,oe.data=.fields #[.ref t,.none,.none,.none,.bool false,.none])/\E (.ref e) s₁) E s):wpAny M A (raiseStmt env (some x) none) Q E s:=by
 have hcB:(Value.ref C::bm).contains (.type "BaseException")=true:=by rw[List.contains_cons,hC.exc,Bool.or_true]
 unfold raiseStmt;refine z6 (ZQ h (fun v s₁ h₁=>?_) fun _ _ x=>x);obtain⟨e,oe,rfl,hk,he,hcl,⟨vs,hd⟩,hE⟩:=h₁;obtain⟨nm,q,N,bs,hdct,sn,sub,ab,col,dd,k0,k1,k2,k3,k5,ni,oC⟩:=hC.cls _ hk;obtain⟨hp,g,d,tk,os⟩:=s₁;obtain⟨oc,od,odt,osl⟩:=oe;cases hcl;cases hd
 repeat(first|with_reducible refine wpAny_loadPart_at he ?_|with_reducible refine wpAny_loadPart_at oC ?_|(with_reducible refine wpAny_isSubtype_exc oC ?_;rw[hcB])|wp_step)
 exact wpAny_raiseNew_none hh hE
end
open PySem PySem.Spec PyProof.Rows PySem.W PySem.Builtin PySem.Builtin.ObjectAttr
theorem uy(self:Value):refuseLoop self "__setattr__" VE=pure ():=by kernel_rfl
def kn:List Value->Bool
 |.ref _::r=>kn r
 |l=>l==VE
theorem jn(self:Value):∀{l:List Value},kn l=true->refuseLoop self "__setattr__" l=pure ()
 |.ref c::r,e=>by rw[refuseLoop_ref];exact jn self e
 | [],e=>nomatch e
 |.type n::r,e=>by rw[show(Value.type n::r)=VE from ZS.mp e];exact uy self
 |.none::r,e=>by have:=(ZS (α:=List Value)).mp e;cases this
 |.bool b::r,e=>by have:=(ZS (α:=List Value)).mp e;cases this
 |.int b t::r,e=>by have:=(ZS (α:=List Value)).mp e;cases this
 |.str b t::r,e=>by have:=(ZS (α:=List Value)).mp e;cases this
 |.bytes b t::r,e=>by have:=(ZS (α:=List Value)).mp e;cases this
 |.float b t::r,e=>by have:=(ZS (α:=List Value)).mp e;cases this
 |.builtin b::r,e=>by have:=(ZS (α:=List Value)).mp e;cases this
 |.ellipsis::r,e=>by have:=(ZS (α:=List Value)).mp e;cases this
 |.notImplemented::r,e=>by have:=(ZS (α:=List Value)).mp e;cases this
structure ExS(K:PySem.W.Frag)(c:Addr):Prop where
 sa:findIn K (.ref c) "__setattr__" = some (some (.builtin "object.__setattr__"))
 ov:((clsIn K c).any fun cd=>kn cd.mro&&cd.hasDict)=true
 ob:mroIn K c (.type "object")=some true
section
variable{prog:Program}{w:World}{K:PySem.W.Frag}{A:Around}{R:Result->Shared->Prop}{s:Shared}{x C:Addr}
theorem yH{ox:Obj}{od:Option Obj}{name:Str}{tk:Tok}{v:Value}(X:K.In s.heap)(I:InstAt s.heap x ox C od)(S:ExS K C)(hn:findIn K (.ref C) name=some none)(h:wpAny (model prog w) A.in1 (storeInOwnDict (.ref x) (.ref C) (.str name tk) name v false)
   (fun fin s'=>match fin with|.done f=>R (.ok f) s'|.again c'=>c'.quiet=true/\codeAny (model prog w) A c' R s') (fun e s'=>R (.error e) s') s) :
  codeAny (model prog w) A (.call (.builtin "object.__setattr__") ⟨[.ref x,.str name tk,v],[]⟩) R s:=by
 have SF:=PySem.F.store_object;obtain⟨cd,hc,ho⟩:=any_some S.ov;rw[ZB]at ho;have sub:Looks (model prog w) s.heap (isInstance (.ref x) (.type "object")) true:=I.type.andThen (looks_mroIn X S.ob);refine codeAny_call_builtin SF.slot.plain SF.entry (@check_slot (model prog w) _ _ s "object.__setattr__" "object" "__setattr__" (.ref x) [.str name tk,v] [] _ SF.kind SF.split sub (SF.args (.ref x) (.str name tk) v) ?_);have hm:Looks (model prog w) s.heap (mroOf (.ref C)) cd.mro:=(looks_clsIn X hc).andThen .now;rw[osa_eq,refuse_eq];refine z6 (z6 (I.type.here (z6 (hm.here ?_))));rw[jn _ ho.1];refine z9 (z6 (I.type.here (z6 ((looks_findIn X hn).here (z6 (Looks.now.here ?_))))));exact h
end
def exN(ea c t:Addr)(dc:Option Addr):HO:=.ext fun h=>h.get? ea=some { cls:=.ref c,dict:=dc,data:=.fields #[.ref t,.none,.none,.none,.bool false,.none] }
theorem sP{P:Program}{w:World}{H:Hp}{h:Heap}{ea c t:Addr}{dc:Option Addr}(e:h.get? ea=some { cls:=.ref c,dict:=dc,data:=.fields #[.ref t,.none,.none,.none,.bool false,.none] }):ObjOk P w H h ea (exN ea c t dc) :=
 ⟨e,⟨_,e⟩,fun _ _ p k=>k _ p⟩
section
variable{X:Cx}{pins:List (Addr×Obj)}{σ:St}{H:Hp}{s:Shared}{a c t:Addr}{f:Str}{y:V}{u:Value}{A:Around}{E:Value->Shared->Prop}
theorem zn{Q:Unit->Shared->Prop}(I:Inv X pins σ H s)(e:H a=some (exN a c t none))(S:ExS X.K c)(n:NoAttr X.K c f)(ry:RelV y u)(h:∀d s',H d=none->Inv X pins σ (upd (upd H d (.xd [(f,y)])) a (exN a c t (some d))) s'->Q () s'):wpAny (model X.prog X.w) A (setAttr (.ref a) f u) Q E s:=by
 have hx:s.heap.get? a=some { cls:=.ref c,dict:=none,data:=.fields #[.ref t,.none,.none,.none,.bool false,.none] }:=(show ObjOk X.prog X.w H s.heap a (exN a c t none)from I.hok a _ e).1;have J:InstAt s.heap a { cls:=.ref c,dict:=none,data:=.fields #[.ref t,.none,.none,.none,.bool false,.none] } c none:=⟨hx,rfl,rfl,True.intro⟩
 obtain⟨cd,hc,ho⟩:=any_some S.ov;rw[ZB]at ho;refine PySem.W.set_plain I.kIn J S.sa (yH (s:={ s with toks:=s.toks+1 }) I.kIn J S n ?_);refine z6 (z9 (z6 (z6 (wpAny_loadPart hx (z6 (PySem.W.Looks.here (s:={ s with toks:=s.toks+1 }) (PySem.W.looks_clsIn I.kIn hc) ?_))))));rw[ho.2];have hxs:a≠s.heap.objs.size:=Zv (Zm hx);have hx1:(s.heap.push { cls:=.type "dict",data:=.dict #[] }).get? a=some { cls:=.ref c,dict:=none,data:=.fields #[.ref t,.none,.none,.none,.bool false,.none] }:=Za _ hx;show wpAny _ _ (alloc { cls:=.type "dict",data:=.dict #[] } >>= fun d=>update a (fun o=>{ cls:=o.cls,dict:=some d,data:=o.data,slots:=o.slots }) >>= fun _=>dictMade (.ref c) a d) _ _ _;refine z6 (wpAny_alloc' ?_);refine z6 (wpAny_update' hx1 ?_);refine z9 ?_;have hgd:((s.heap.push { cls:=.type "dict",data:=.dict #[] }).update a fun o=>{ cls:=o.cls,dict:=some s.heap.objs.size,data:=o.data,slots:=o.slots }).get? s.heap.objs.size=some { cls:=.type "dict",data:=.dict #[] } :=
  (Heap.get?_update_ne _ _ _ _ hxs.symm).trans (Heap.get?_push_at rfl rfl)
 have hnd:((s.heap.push { cls:=.type "dict",data:=.dict #[] }).update a fun o=>{ cls:=o.cls,dict:=some s.heap.objs.size,data:=o.data,slots:=o.slots }).Ns s.heap.objs.size (fun _=>none) :=
  ⟨_,#[],_,hgd,rfl,fun e he=>absurd he (by simp),fun _=>rfl⟩
 refine z6 (z9 (z6 (wpAny_nsSet1 (Heap.Ns1.of_empty hnd) fun h' hn' hs=>?_)));obtain⟨oD,esD,epD,hoD,hdD,hcD⟩:=hn'.count (Within.cons f u Within.nil);refine z6 (wpAny_lookBehind hoD (by rw[hdD];exact pastItsLine_dict (Zx hcD (by rw[Zt,List.length_nil,sizeLine_eq];omega))) ?_);have hx':h'.get? a=some { cls:=.ref c,dict:=some s.heap.objs.size,data:=.fields #[.ref t,.none,.none,.none,.bool false,.none] }:=(hs.2 a hxs).trans (Yp _ hx1 rfl);have kp:∀b o,b≠a->s.heap.get? b=some o->h'.get? b=some o:=fun b o hb q=>(hs.2 b (Zv (Zm q))).trans ((Heap.get?_update_ne _ _ _ _ hb).trans (Za _ q));have hd0:H s.heap.objs.size=none:=I.hok.fresh (Ze _);have nd:∀b o,s.heap.get? b=some o->b≠s.heap.objs.size:=fun b o q=>Zv (Zm q);have ne1:∀b v,H b=some v->v≠exN a c t none->b≠a:=fun b v q hv z=>by rw[z,e]at q;exact hv (Zs q).symm
 have ne2:∀b v,H b=some v->b≠s.heap.objs.size:=fun b v q=>ag q hd0;have un:Un X.fs [] H (upd (upd H s.heap.objs.size (.xd [(f,y)])) a (exN a c t (some s.heap.objs.size))) s.heap h':=by
  refine⟨fun b o q m _ _=>kp b o (fun z=>by rw[z,e]at m;cases m) q,fun b o q m _ _=>⟨o.slots,kp b o (fun z=>by rw[z,e]at m;cases m) q⟩,fun b o q m _=>?_,fun b o q _=>?_,fun b xs q=>?_,fun b o v q=>?_,fun b ps q=>⟨#[],?_⟩⟩
  ·rw[ad (fun z=>by rw[z,e]at m;cases m),ad (nd b o q)];exact m
  ·by_cases hb:b=a
   ·exact⟨_,hb▸hx'⟩
   ·exact⟨o,kp b o hb q⟩
  ·rw[ad (ne1 _ _ q (by intro z;cases z)),ad (ne2 _ _ q)];exact q
  ·rw[ad (ne1 _ _ q (by intro z;cases z)),ad (ne2 _ _ q)];exact q
  ·rw[ad (ne1 _ _ q (by intro z;cases z)),ad (ne2 _ _ q),q];simp
 have hok:HOk X.prog X.w (upd (upd H s.heap.objs.size (.xd [(f,y)])) a (exN a c t (some s.heap.objs.size))) h':=fun b v q=>by
  by_cases hb:b=a
  ·subst hb;rw[af]at q;cases q;exact sP hx'
  ·rw[ad hb]at q;by_cases hbd:b=s.heap.objs.size
   ·subst hbd;rw[af]at q;cases q;refine⟨_,hn',fun g=>?_⟩;by_cases hg:g=f
    ·subst hg;rw[if_pos rfl];show RelO ([(g,y)].lookup g) (some u);rw[ZI,show(g==g)=true by simp];exact ry
    ·rw[if_neg hg];show RelO ([(f,y)].lookup g) none;rw[ZI,show(g==f)=false by simpa using hg];exact True.intro
   ·rw[ad hbd]at q;refine(I.hok b v q).stay (fun b' v' hb' q'=>kp b' v' ?_ q') (fun b' q'=>?_) fun b' xs q'=>?_
    ·rcases hb' with rfl|z
     ·exact hb
     ·exact ne1 _ _ z (by intro z;cases z)
    ·rw[ad (ne1 _ _ q' (by intro z;cases z)),ad (ne2 _ _ q')];exact q'
    ·rw[ad (ne1 _ _ q' (by intro z;cases z)),ad (ne2 _ _ q')];exact q'
 exact z9 (h _ _ hd0 (I.un un hok))
end
def Cw(K:PySem.W.Frag)(ta tv:TE)(f:Str):TS:=fun D σ H=>tv σ H fun y H1=>ta σ H1 fun x H2=>∃a c t,x=.ref a/\H2 a=some (exN a c t none)/\ExS K c/\NoAttr K c f/\∀d,H2 d=none ->
 D.nx σ (upd (upd H2 d (.xd [(f,y)])) a (exN a c t (some d)))
theorem BC{X:Cx}{o value:Expr}{f:Str}{pos pos':Pos}{ta tv:TE}(ha:QE X o ta)(hv:QE X value tv)(hs:swapsWith value (some (.Attribute o f pos')) pos.line X.env=pure false:=by rfl):QS X (.Assign [.Attribute o f pos'] value pos) (Cw X.K ta tv f):=by refine⟨?_⟩;intro pins s σ H D I h;refine plainObj_wpAny_Assign_Attribute (thn (hv.h pins s σ H _ I h) fun u s1 ⟨y,H1,I1,ry,q⟩=>thn (ha.h pins s1 σ H1 _ I1 q) fun ov s2 hz9=>?_) hs;obtain⟨x,H2,I2,rx,a,c,t,ex,ea,S,n,q2⟩:=hz9;subst ex;obtain rfl:ov=Value.ref a:=rx;exact zn I2 ea S n ry fun d s3 hd I3=>⟨σ,_,I3,q2 d hd⟩
open PySem PySem.Spec PyProof.Rows PySem.W
def del(H:Hp)(a:Addr):Hp:=fun b=>if b=a then none else H b
theorem vx{H:Hp}{a:Addr}:del H a a=none:=by unfold del;rw[if_pos rfl]
theorem cW{H:Hp}{a b:Addr}(h:b≠a):del H a b=H b:=by unfold del;rw[if_neg h]
theorem tY{H:Hp}{a b:Addr}{u:HO}(h:del H a b=some u):b≠a/\H b=some u:=by
 by_cases c:b=a
 ·rw[c,vx]at h;cases h
 ·rw[cW c]at h;exact⟨c,h⟩
open PySem PySem.Spec PyProof.Rows PySem.W
def nV(K:PySem.W.Frag)(C fI:Addr):Bool:=match K.lookup C with
 | some ⟨.type "type",_,.cls cd,sl⟩=>(match cd.mro,sl.toList with
  |.ref C'::bm,[_,_,_,_,some (.builtin n),_]=>C'==C&&n=="ValueError.__new__"&&!cd.hasDel&&tailIn K VE bm&&nsOkIn K cd.ns&&nsIn K cd.ns "__init__" == some (some (.ref fI))
  | _,_=>false)
 |_=>false
theorem rT{K:PySem.W.Frag}{h:Heap}{N:Addr}{m:Str->Option Value}{n:Str}{v:Value}(X:K.In h)(G:h.Ns N m)(e:nsIn K N n=some (some v)):m n=some v:=by
 obtain⟨o,es,ep,ho,hd,_,hf⟩:=G;unfold nsIn at e;split at e
 ·rename_i c d es' n' sl q;have:=X _ _ q;rw[ho]at this;cases this;cases hd;split at e
  ·rename_i en he;cases e;rw[<-hf];unfold nsFind findBy;rw[<-Array.find?_toList,he];rfl
  ·split at e<;>cases e
 ·cases e
structure ExcAtI(K:PySem.W.Frag)(C fI:Addr)(bm:List Value):Prop where
 isIn:nV K C fI=true
 mro:∃c d cd sl,K.lookup C=some ⟨c,d,.cls cd,sl⟩/\cd.mro=Value.ref C::bm
 exc:bm.contains (.type "BaseException")=true
 fn:∃oI,K.lookup fI=some oI/\oI.cls=.type "function"
theorem jQ{K:PySem.W.Frag}{C fI:Addr}{bm:List Value}(q:ExcAtI K C fI bm){h:Heap}(X:K.In h) :
  ∃nm qn N bs hdct sn sub ab col dd k0 k1 k2 k3 k5 mN,h.get? C=some (excClassObj nm qn C N bs bm hdct sn sub ab col dd k0 k1 k2 k3 k5 "ValueError.__new__")/\h.Ns N mN/\mN "__init__" = some (.ref fI)/\OwnTail h VE bm:=by
 have q1:=q.isIn;obtain⟨c9,d9,cd9,sl9,l9,m9⟩:=q.mro;unfold nV at q1;split at q1
 ·rename_i dd cd sl ho;split at q1
  ·rename_i C' bm' k0 k1 k2 k3 n k5 hm hs;have q2:cd.mro=Value.ref C::bm:=by have z:=ho.symm.trans l9;cases z;exact m9
   rw[hm]at q2;injection q2 with z1 z2;injection z1 with z1;cases z1;cases z2;simp only[ZB,ZS,Bool.not_eq_true']at q1;obtain⟨⟨⟨⟨⟨_,rfl⟩,nd⟩,ht⟩,ok⟩,ni⟩:=q1;have es:sl=#[k0,k1,k2,k3,some (.builtin "ValueError.__new__"),k5]:=by obtain⟨l⟩:=sl;simp only at hs;rw[hs]
   cases es;obtain⟨nm,bs,mro,ns,qn,hd,sn,sub,ab,col,del⟩:=cd;dsimp only at hm nd ok ni;cases hm;cases nd;have G:h.Ns ns _:=.of_isNs (isNs_of_in X ok);exact⟨nm,qn,ns,bs,hd,sn,sub,ab,col,dd,k0,k1,k2,k3,k5,_,X _ _ ho,G,rT X G ni,tail_of_in X ht⟩
  ·cases q1
 ·cases q1
theorem yk{K:PySem.W.Frag}{C fI:Addr}{bm:List Value}(q:ExcAtI K C fI bm):ExC K C bm where
 cls:=fun h X=>by obtain⟨nm,qn,N,bs,hdct,sn,sub,ab,col,dd,k0,k1,k2,k3,k5,mN,e,_⟩:=jQ q X;exact⟨nm,qn,N,bs,hdct,sn,sub,ab,col,dd,k0,k1,k2,k3,k5,_,e⟩
 exc:=q.exc
structure ExI(P:Program)(w:World)(K:PySem.W.Frag)(mg:Str->Option Value)(base:Heap)(k:Nat)(C:Addr)(bm:List Value)(ps:List Str)(sp:Sp):Prop where
 ex:∃fI fd,ExcAtI K C fI bm/\FnOk P w K mg base CX0 k fI fd ps sp/\Binds K fd ps []
section
variable{X:Cx}{pins:List (Addr×Obj)}{σ:St}{H:Hp}{s:Shared}
theorem Inv.excMade{h':Heap}{e c t:Addr}(I:Inv X pins σ H s)(kp:∀b o,s.heap.get? b=some o->h'.get? b=some o)(hn:s.heap.get? e=none)(he:h'.get? e=some { cls:=.ref c,data:=.fields #[.ref t,.none,.none,.none,.bool false,.none] }) :
  H e=none/\Inv X pins σ (upd H e (exN e c t none)) { s with heap:=h' }:=by
 have h0:H e=none:=by
  cases q:H e with
  |none=>rfl
  |some u =>obtain⟨o,z⟩:=eO (I.hok e u q);rw[hn]at z;cases z
 have nb:∀b o,s.heap.get? b=some o->b≠e:=fun b o q z=>by rw[z,hn]at q;cases q
 refine⟨h0,I.un (t':=s.toks) ⟨fun b o q _ _ _=>kp b o q,fun b o q _ _ _=>⟨o.slots,kp b o q⟩,fun b o q m _=>by rw[ad (nb b o q)];exact m,fun b o q _=>⟨o,kp b o q⟩,fun b xs q=>by rw[ad (ag q h0)];exact q,fun b o v q=>by rw[ad (ag q h0)];exact q,fun b ps q=>⟨#[],by rw[ad (ag q h0),q];simp⟩⟩ fun b u q=>?_⟩;by_cases hb:b=e
 ·subst hb;rw[af]at q;cases q;exact sP he
 ·rw[ad hb]at q;exact(I.hok b u q).stay (fun b' v _ q'=>kp b' v q') (fun b' z=>by rw[ad (ag z h0)];exact z) fun b' xs z=>by rw[ad (ag z h0)];exact z
end
section
variable{X:Cx}{EC:Value->Option Addr->Hp->Prop}{C:Addr}{bm:List Value}{k:Nat}{ps:List Str}{sp:Sp}{x:Str}{np cpos pos:Pos}{e:Expr}{es:List Expr}{ta:TA}
def zr(sp:Sp)(C:Addr)(EC:Value->Option Addr->Hp->Prop)(ta:TA):TS:=fun _ σ H=>ta σ H fun vs H1=>vs.length<=sizeLine/\∀ea t,H1 ea=none->H1 t=none->t≠ea ->
 sp (.ref ea::vs) (upd H1 ea (exN ea C t none)) (fun v H2=>v=.non/\∃dc,H2 ea=some (exN ea C t dc)/\EC (.ref C) dc (del H2 ea)) E0
end
open PySem PySem.Spec PyProof.Rows PySem.W
structure MFnX(P:Program)(w:World)(K:PySem.W.Frag)(mg:Str->Option Value)(base:Heap)(k:Nat)(C:Addr)(m:Str)(ps:List Str)(sp:Sp):Prop where
 cl:Cls K C
 ex:∃f fd,FnOk P w K mg base (CXr P w) k f fd ps sp/\Meth K C m f/\Binds K fd ps []
section
variable{X:Cx}{k:Nat}{C:Addr}{m x:Str}{p pos apos:Pos}{o e:Expr}{es:List Expr}{ps:List Str}{sp:Sp}{t:TA}{ta:TE}{E:XK}
theorem lD{pl:Sem Bool}(F:MFnX X.prog X.w X.K X.mg X.base k C m ps sp)(hx:cw (CXr X.prog X.w) X E)(hr:Room k X.A)(he:QE X o ta)(ha:QA X (e::es) t)(hs:(e::es).all ax=true:=by rfl)(ht:eval (.Call (.Attribute o m apos) (e::es) [] pos) X.env=(do
   let ov ←eval o X.env
   standAt apos.atName
   let(f,first) ←holding [ov] (getMethod ov m pl)
   callWith pos f first (backTo pos (starEach (e::es) X.env)) (backToKw pos (keywordEach [] X.env))):=by rfl) :
  QE X (.Call (.Attribute o m apos) (e::es) [] pos) (kL C m sp [] E ta t):=by
 obtain⟨f,fd,G,hm,b⟩:=F.ex;rw[YO,ZB]at hs;exact⟨qw (pl:=pl) he.h F.cl hm G hr b .nil hx ha.h (aw hs.1) (aZ hs.2) ht⟩
end
open PySem PySem.Spec PyProof.Rows PySem.W
open PySem PySem.Spec PyProof.Rows PySem.W
def xW(X:Cx)(B:Heap)(ea:Addr)(C:Value)(t:Addr)(h:Heap):Prop :=
 (B.StaysIn h/\B.get? ea=none/\h.FunFrames B X.stack/\∃oe,h.get? ea=some oe/\oe.cls=C/\oe.data=.fields #[.ref t,.none,.none,.none,.bool false,.none]) \/
 Heap.FlyingW B X.stack ea C (.ref t) h\/Heap.HeldW B X.stack ea C (.ref t) X.env.locals h
def rc(X:Cx)(E:XK)(ea:Addr)(s':Shared):Prop:=∃(pins:List (Addr×Obj)) (σ:St) (H0 H':Hp) (s0:Shared) (B:Heap) (t:Addr) (C:Value) (vs:List Value) (dc:Option Addr),
 Inv X pins σ H0 s0/\Fl X H0 H' s0 s' B/\xW X B ea C t s'.heap/\s'.heap.TupAt t vs/\B.get? t=none/\cv s'.heap ea dc/\E C dc H'
section
variable{M:Model}{A:Around}{E:Value->Shared->Prop}{s:Shared}{base:Heap}{l:List Env}{L e:Addr}
theorem sQ{cls a0 fl:Value}{dc:Option Addr}{Q:Unit->Shared->Prop}(kb:base.StaysIn s.heap)(ff:s.heap.FunFrames base l)(tr:s.heap.TracedAtW base e cls a0 fl)(dd:cv s.heap e dc)(k:∀h',base.StaysIn h'->h'.FunFrames base l->h'.TracedAtW base e cls a0 (rawInt L)->s.heap.UpToSlots h'->cv h' e dc->Q () { s with heap:=h' }):wpAny M A (setFlight (.ref e) (some L)) Q E s:=by
 obtain⟨oe,vs,T,oT,ts,he,hc,dt,v1,nT,ne,hT,dT,t3⟩:=tr;have z3:3<ts.size:=(Yx.mp t3).1;have oth:∀b,b≠T->(s.heap.update T (Obj.mapFields (·.setIfInBounds 3 ((some L:Option Addr).elim Value.none fun f=>rawInt f)))).get? b=s.heap.get? b:=fun b n=>Yl _ _ (ZM n);have nrec:∀b o,s.heap.get? b=some o->(∀ws,o.data≠.fields ws)->b≠T:=fun b o q hn z=>by subst z;cases Zs (hT.symm.trans q);exact hn ts dT
 unfold setFlight;refine z6 (ZW he dt v1 ?_);rw[if_pos (by simp:(Value.ref T != Value.none)=true)];refine YJ hT dT z3 (k _ (fun b o q=>(oth b fun z=>nomatch((z▸q).symm.trans nT)).trans (kb b o q)) (ff.of_keeps fun b o q hn=>⟨o,(oth b (nrec b o q hn)).trans q,rfl⟩) ?_ (fun b o q hn=>⟨o.slots,(oth b (nrec b o q hn)).trans q⟩) ?_)
 ·exact⟨oe,vs,T,_,_,(oth e (ZM ne)).trans he,hc,dt,v1,nT,ne,Yp _ hT (Obj.isFreed_of_fields (Yg dT _)),Yg dT _,by simp[z3]⟩
 ·obtain⟨o,q,d⟩:=dd;exact⟨o,(oth e (ZM ne)).trans q,d⟩
end
section
variable{X:Cx}{E:XK}{ea:Addr}{s':Shared}{EE:Value->Shared->Prop}
theorem jN{Q:Unit->Shared->Prop}(hst:X.stack=X.env::X.outer)(hfr:X.env.frame=some X.env.locals)(x:rc X E ea s')(k:∀ h',(∃ (pins:List (Addr×Obj)) (σ:St) (H0 H':Hp) (s0:Shared) (B:Heap) (t:Addr) (C:Value) (vs:List Value) (dc:Option Addr),
   Inv X pins σ H0 s0/\Fl X H0 H' s0 { s' with heap:=h' } B/\Heap.HeldW B X.stack ea C (.ref t) X.env.locals h'/\h'.TupAt t vs/\B.get? t=none/\cv h' ea dc/\E C dc H')->Q () { s' with heap:=h' }) :
  wpAny (model X.prog X.w) X.A (noteFrame (.ref ea) X.env) Q EE s':=by
 obtain⟨pins,σ,H0,H',s0,B,t,C,vs,dc,I0,F,st,tup,hBt,dd,q⟩:=x;have fr:X.A.frames=some (X.env::X.outer):=by rw[<-hst];exact I0.ok.frames
 rcases st with⟨f1,f2,f3,oe,he,rfl,hd⟩|fly|held
 ·unfold noteFrame;simp only[hfr];refine z6 (ZW he hd (show _=some Value.none from rfl) ?_);rw[if_neg (by decide)];rw[hst]at f3;refine jl (a0:=.ref t) fr f3 hfr he f1 f2 hd (by simp) rfl fun h1 nt dd1=>?_;obtain⟨n1,n2,n3,n4⟩:=nt;rw[<-hst]at n2;obtain⟨o9,q9,d9⟩:=dd;cases Zs (he.symm.trans q9);rw[d9]at dd1;exact k h1 ⟨pins,σ,H0,H',s0,B,t,_,vs,dc,I0,F.move (tk:=s'.toks) I0 n1 n4,⟨n1,f2,n2,n3⟩,tup.of_slots n4,hBt,dd1,q⟩
 ·rw[hst]at fly;refine rP fr hfr fly dd fun h1 held up dd1=>?_;rw[<-hst]at held;exact k h1 ⟨pins,σ,H0,H',s0,B,t,C,vs,dc,I0,F.move (tk:=s'.toks) I0 held.1 up,held,tup.of_slots up,hBt,dd1,q⟩
 ·exact wpAny_noteFrame_againW hfr held.2.2.2 (k s'.heap ⟨pins,σ,H0,H',s0,B,t,C,vs,dc,I0,F,held,tup,hBt,dd,q⟩)
def Mid(X:Cx)(E:XK):Value->Shared->Prop:=fun e s'=>∃ea,e=.ref ea/\rc X E ea s'
theorem ko(hst:X.stack=X.env::X.outer)(hfr:X.env.frame=some X.env.locals):PassesOwn (model X.prog X.w) X.A X.env (Mid X E):=by rintro e s' ⟨ea,rfl,x⟩;refine jN hst hfr x ?_;rintro h1 ⟨pins,σ,H0,H',s0,B,t,C,vs,dc,I0,F,held,tup,hBt,dd,q⟩;obtain⟨f1,f2,f3,f4⟩:=held;obtain⟨oe,us,T,oT,ts,he,hc,dt,v1,nT,ne,hT,dT,t3⟩:=id f4;unfold cameBackBy;refine z6 (ZW he dt v1 ?_);rw[if_neg (by simp)];rw[hfr];refine sQ (s:={ s' with heap:=h1 }) f1 f3 f4 dd fun h2 k1 k2 k3 up dd2=>?_;exact⟨ea,rfl,pins,σ,H0,H',s0,B,t,C,vs,dc,I0,F.move (tk:=s'.toks) I0 k1 up,.inr (.inr ⟨k1,f2,k2,k3⟩),tup.of_slots up,hBt,dd2,q⟩
end
def eh(X:Cx)(E:XK):Prop:=∀ea s',rc X E ea s'->X.xe (.ref ea) s'
theorem jm{X:Cx}{E:XK}:eh (X.wish (Mid X E)) E:=by rintro ea s' ⟨pins,σ,H0,H',s0,B,t,C,vs,dc,I0,F,st,r⟩;exact⟨ea,rfl,pins,σ,H0,H',s0,B,t,C,vs,dc,I0.unwish,⟨F.os,F.bare,F.un,F.hok,F.kb⟩,st,r⟩
section
variable{P:Program}{w:World}{K:PySem.W.Frag}{mg:Str->Option Value}{base:Heap}{N:List Str}{qual:Str}{scope:Scope}{f:Addr}{cd:Value}{A:Around}{outer:List Env}{s:Shared}{H:Hp}{E:XK}
theorem bP:eh (cJ (CXr P w) P w K mg base N qual scope f cd A outer s H E) E:=by
 intro ea s' x;show wpAny (model P w) (A.deeper (envOfC qual scope s.heap.objs.size f cd)) (leaving (envOfC qual scope s.heap.objs.size f cd) (.ref ea)) _ _ _;unfold leaving;refine z6 (jN (X:=cJ (CXr P w) P w K mg base N qual scope f cd A outer s H E) rfl rfl x ?_);rintro h1 ⟨pins,σ,H0,H',s0,B,t,C,vs,dc,I,F,held,tup,hBt,dd,q⟩;obtain⟨f1,f2,f3,f4⟩:=held;refine rB (s:={ s' with heap:=h1 }) f1 f3 f4 dd fun h2 k1 k2 k3 up dd2=>?_;have F2:=F.move (tk:=s'.toks) I k1 up;have I2:=F2.inv I;have hL:∀b o,s.heap.get? b=some o->b≠s.heap.objs.size:=fun b o q=>Zv (Zm q);have nfr:∀b,b∉frs outer->b≠s.heap.objs.size->b∉frs (envOfC qual scope s.heap.objs.size f cd::outer):=fun b h1 h2 hm=>by
  rcases Zq.mp (I.stkSub b hm)with z|z
  ·exact h2 z
  ·exact h1 z
 obtain⟨_,_,k2'⟩:=k2;refine⟨ea,t,C,vs,B,H',dc,rfl,I2.os,F2.bare,⟨fun b o q n hb _=>?_,fun b o q n hb _=>?_,fun b o q n _=>?_,fun b o q _=>?_,I2.base.tups,I2.base.frzs,I2.base.tbls⟩,F2.hok,⟨k1,f2,k2',k3⟩,tup.of_slots up,hBt,fun b o hb ho q=>?_,dd2,q⟩
 ·exact I2.base.keep b o q n hb (by intro z;cases z)
 ·exact I2.base.slot b o q n hb (by intro z;cases z)
 ·exact I2.base.free b o q n (by intro z;cases z)
 ·exact I2.base.there b o q (by intro z;cases z)
 ·refine F2.kb b o ?_ ?_ q
  ·rcases ho with⟨u,z⟩|⟨o0,z⟩
   ·exact F2.nf I z
   ·exact nfr b hb (hL b o0 z)
  ·rcases ho with⟨u,z⟩|⟨o0,z⟩
   ·exact .inl ⟨u,z⟩
   ·exact .inr (I.base.there b o0 z (by intro z;cases z))
end
section
variable{X:Cx}{E:XK}
theorem xu(hR:eh X E):cw (CXr X.prog X.w) X E:=fun pins σ H s e s' I x=>by obtain⟨ea,t,C,vs,B,H',dc,rfl,os,bare,un,hok,fly,tup,hBt,kb,dd,q⟩:=x;exact hR ea s' ⟨pins,σ,H,H',s,B,t,C,vs,dc,I,⟨os,bare,un,hok,kb⟩,.inr (.inl fly),tup,hBt,dd,q⟩
theorem dg(hR:eh X E):sF X (fun C H1=>E C none H1):=fun pins σ H1 s1 h2 e C vs I hx hE=>by
 obtain⟨t,he,tn,tt⟩:=hx.there;have fr0:∀b,b∈frs X.stack->∃o,s1.heap.get? b=some o:=fun b hm=>by obtain⟨_,o',ho',_⟩:=I.stack.mem hm;exact⟨o',ho'⟩
 have hid:∀b o,s1.heap.get? b=some o->b∉frs X.stack->(hideAll s1.heap (frs X.stack)).get? b=some o:=fun b o q hb=>hideAll_get _ q hb;have none_of:∀b,s1.heap.get? b=none->(hideAll s1.heap (frs X.stack)).get? b=none:=fun b hb=>by
  cases q:(hideAll s1.heap (frs X.stack)).get? b with
  |none=>rfl
  |some o=>exact nomatch hb.symm.trans (of_hideAll _ q)
 have tr:∀b u,H1 b=some u->b∉frs X.stack:=fun b u q hm=>by have:=I.stkFree b hm;rw[q]at this;cases this
 have F:Fl X H1 H1 s1 { s1 with heap:=h2 } (hideAll s1.heap (frs X.stack)):=⟨rfl,I.bare,Un.kept hx.keeps,I.hok.kept hx.keeps,fun b o hb ho q=>by
  obtain⟨o1,q1⟩:∃o1,s1.heap.get? b=some o1:=by
   rcases ho with⟨u,z⟩|⟨o0,z⟩
   ·exact eO (I.hok b u z)
   ·exact⟨o0,z⟩
  have q2:=hx.keeps _ _ q1;have q':h2.get? b=some o:=q;rw[q']at q2;cases q2;exact hid b o q1 hb⟩
 have ff:h2.FunFrames (hideAll s1.heap (frs X.stack)) X.stack:=(funFrames_hide I.stack fun env he b hb=>YB.mpr ⟨env,he,hb⟩).of_keeps fun b o q _=>⟨o,hx.keeps b o q,rfl⟩
 exact hR e _ ⟨pins,σ,H1,H1,s1,_,t,C,vs,none,I,F,.inl ⟨fun b o q=>hx.keeps b o (of_hideAll _ q),none_of e hx.new,ff,_,he,rfl,rfl⟩,⟨_,_,tt,rfl,rfl⟩,none_of t tn,⟨_,he,rfl⟩,hE⟩
end
section
variable{X:Cx}{E:XK}{st:Stmt}{t:TS}
theorem xG(hR:eh X E)(h:QS (X.wish (Mid X E)) st t):QS X st t:=⟨fun pins s σ H D I q=>ZQ (h.h pins s σ H D (I.wish _) q) (fun _ _ z=>z.unwish) fun _ _ ⟨ea,e,x⟩=>by rw[e];exact hR ea _ x⟩
end
section
variable{X:Cx}{E:XK}{C:Addr}{bm:List Value}{k:Nat}{ps:List Str}{sp:Sp}{x:Str}{np cpos pos:Pos}{e:Expr}{es:List Expr}{ta:TA}
theorem wI(hR:eh X E)(hc:X.calm=true)(F:ExI X.prog X.w X.K X.mg X.base k C bm ps sp)(hr:Room (k+1) X.A)(hm:X.mg x=some (.ref C))(ha:QA X (e::es) ta)(hg:Gl X x:=by rfl)(hs:(e::es).all ax=true:=by rfl)(hdb:(x==("__debug__":Str))=false:=by decide) :
  QS X (.Raise (some (.Call (.Name x np) (e::es) [] cpos)) none pos) (zr sp C E ta):=by
 refine⟨?_⟩;intro pins s σ H D I h;obtain⟨fI,fd,xc,G,hb⟩:=F.ex;have hs1:ax e=true:=YA.mp hs e (by simp);have he:=aw (es:=es) (env:=X.env) hs1;have hpl:(backTo cpos (starEach es X.env)).any (·.1)=false:=aZ (by
  rw[YA];intro y hy;exact YA.mp hs y (Zh _ hy))
 have hpl':(backTo cpos (starEach (e::es) X.env)).any (·.1)=false:=by rw[he];show(false ||(backTo cpos (starEach es X.env)).any (·.1))=false;rw[hpl];rfl
 rw[arm_exec_Raise];refine z6 (wpAny_standAt (uu (K:=X.K) (yk xc) (I.ok.hd hc) (z6 (ZQ (wpAny_Call_ofName (fQ I hg hm ?_ hdb)) (fun v s₃ h₃=>z6 (wpAny_standAt (z9 h₃))) fun _ _ x=>x))));unfold callWith;have hA:=ha.h cpos pins s σ H _ I h;rw[he]at hA ⊢;refine z6 (Z0 (Calls.evalArgs_plain (thn hA fun us s1 ⟨vs,H1,I1,r1,hz,hE⟩=>z6 (wpAny_standAt ?_))));obtain⟨nm,q,N,bs,hdct,sn,sub,ab,col,dd,k0,k1,k2,k3,k5,mN,oC,hN,hi,T⟩:=jQ xc I1.kIn;obtain⟨oI,lI,cI⟩:=xc.fn;obtain⟨hp,g,d,tk,os⟩:=s1;rw[<-he];simp only[hpl'];refine z6 (wpAny_keeperOf_exc oC ?_);refine z6 (rk PySem.F.excBase_ValueError T oC hN hi (I1.kIn _ _ lI) cI (fun h' ea mx=>?_) (show us.length<=sizeLine by rw[<-r1.length];exact hz));obtain⟨t,ht,tn,tt⟩:=mx.there;obtain⟨hea0,I2⟩:=I1.excMade mx.keeps mx.new ht;have nt:t≠ea:=fun z=>by rw[z,ht]at tt;cases tt
 have ht0:H1 t=none:=by
  cases q:H1 t with
  |none=>rfl
  |some u =>obtain⟨o,z⟩:=eO (I1.hok t u q);exact nomatch tn.symm.trans z
 have hq:=hE ea t hea0 ht0 nt;have hl:(Value.ref ea::us).length=ps.length:=by rw[<-G.len _ _ _ _ hq,Zt,Zt,r1.length]
 refine wpAny_call (codeAny_mono (G.run _ X.stack _ _ ⟨Value.ref ea::us,[]⟩ (Value.ref ea::us) (V.ref ea::vs) _ _ (hr.make C us []) (I2.env0.make C us []) (by have:=hb _ (Value.ref ea::us) I2.kIn (by rw[Z3];exact hl);rw[Z3]at this;exact this) (.cons rfl r1) hq) fun r s' hq'=>?_);cases r with
 |error e'=>exact False.elim hq'
 |ok fl =>
  cases fl with
  |next=>exact False.elim hq'
  |brk=>exact False.elim hq'
  |cont=>exact False.elim hq'
  |ret u =>
   obtain⟨v,H',os',bare,un,hok,r,rfl,dc,hd,hE'⟩:=hq';obtain rfl:u=Value.none:=r;have I3:Inv X pins σ H' s':=I2.call' os' un hok bare fun _ z=>nomatch z;have notin:∀b,hp.get? b=none->b∉frs X.stack:=fun b hb hm=>by obtain⟨_,o',ho',_⟩:=I1.stack.mem hm;exact nomatch hb.symm.trans ho'
   have hx:s'.heap.get? ea=some { cls:=.ref C,dict:=dc,data:=.fields #[.ref t,.none,.none,.none,.bool false,.none] }:=(show ObjOk X.prog X.w H' s'.heap ea (exN ea C t dc)from I3.hok ea _ hd).1;have ut:upd H1 ea (exN ea C t none) t=none:=by rw[ad nt];exact ht0
   have tt':=un.keep t _ tt ut (notin t tn) (by intro z;cases z);refine⟨rfl,z6 (Z0 (wpAny_point (z9 ⟨ea,_,rfl,I3.kIn,hx,rfl,⟨t,rfl⟩,?_⟩)))⟩;have hy:s'.heap.get? ea=some { cls:=.ref C,dict:=dc,data:=.fields #[.ref t,.none,.none,.none,.bool false,.none] }:=hx;have ne:∀b v,H' b=some v->v≠exN ea C t dc->b≠ea:=fun b v q hv z=>by rw[z,hd]at q;exact hv (Zs q).symm
   have ft:=un.free t _ tt ut (by intro z;cases z);have tr2:∀b v,H' b=some v->b≠t:=fun b v q z=>by rw[z,ft]at q;cases q
   have tfr:∀b v,H' b=some v->b∉frs X.stack:=fun b v q hm=>by have:=I3.stkFree b hm;rw[q]at this;cases this
   have oe:∀b o,hp.get? b=some o->b≠ea:=fun b o q z=>by rw[z]at q;exact nomatch mx.new.symm.trans q
   have ot:∀b o,hp.get? b=some o->b≠t:=fun b o q z=>by rw[z]at q;exact nomatch tn.symm.trans q
   have un1:Un (frs X.stack) [] H1 (del H' ea) hp s'.heap:=by
    refine⟨fun b o q n hb hx'=>un.keep b o (mx.keeps b o q) (by rw[ad (oe b o q)];exact n) hb hx',fun b o q n hb hx'=>un.slot b o (mx.keeps b o q) (by rw[ad (oe b o q)];exact n) hb hx',fun b o q n hx'=>?_,fun b o q hx'=>un.there b o (mx.keeps b o q) hx',fun b xs q=>?_,fun b o v q=>?_,fun b ps' q=>?_⟩
    ·rw[cW (oe b o q)];exact un.free b o (mx.keeps b o q) (by rw[ad (oe b o q)];exact n) hx'
    ·have:=un.tups b xs (by rw[ad (ag q hea0)];exact q);rw[cW (ne _ _ this (by intro z;cases z))];exact this
    ·have:=un.frzs b o v (by rw[ad (ag q hea0)];exact q);rw[cW (ne _ _ this (by intro z;cases z))];exact this
    ·obtain⟨more,this⟩:=un.tbls b ps' (by rw[ad (ag q hea0)];exact q);exact⟨more,by rw[cW (ne _ _ this (by intro z;cases z))];exact this⟩
   have hok1:HOk X.prog X.w (del H' ea) s'.heap:=fun b v q=>by obtain⟨hb,q⟩:=tY q;exact(I3.hok b v q).stay (fun _ _ _ z=>z) (fun b' z=>by rw[cW (ne _ _ z (by intro z;cases z))];exact z) fun b' xs z=>by rw[cW (ne _ _ z (by intro z;cases z))];exact z
   have hid:∀b o,s'.heap.get? b=some o->b≠ea->b≠t->b∉frs X.stack->(hideAll s'.heap (ea::t::frs X.stack)).get? b=some o:=fun b o q h1 h2 h3 =>
    hideAll_get _ q fun hm=>by
     rcases Zq.mp hm with z|hm
     ·exact h1 z
     rcases Zq.mp hm with z|hm
     ·exact h2 z
     ·exact h3 hm
   have Fx:Fl X H1 (del H' ea) ⟨hp,g,d,tk,os⟩ s' (hideAll s'.heap (ea::t::frs X.stack)):=⟨os',bare,un1,hok1,fun b o hb ho q=>by
    rcases ho with⟨v,z⟩|⟨o0,z⟩
    ·obtain⟨hb',z⟩:=tY z;exact hid b o q hb' (tr2 _ _ z) hb
    ·exact hid b o q (oe b o0 z) (ot b o0 z) hb⟩
   exact hR ea s' ⟨pins,σ,H1,del H' ea,_,_,t,.ref C,us,dc,I1,Fx,.inl ⟨fun b o q=>of_hideAll _ q,hideAll_none _ Zr,
    funFrames_hide I3.stack fun env he b hb=>Zh _ (Zh _ (YB.mpr ⟨env,he,hb⟩)),_,hy,rfl,rfl⟩,⟨_,_,tt',rfl,rfl⟩,hideAll_none _ (Zh _ Zr),⟨_,hy,rfl⟩,hE'⟩
end
open PySem PySem.Spec PyProof.Rows PySem.W
open PySem PySem.Spec PyProof.Rows PySem.W
def rM(qual:Str)(params:Arguments)(body:Expr)(scope:Scope)(cl:List (Str×Addr))(pm:Value)(c:Addr)(ct:Value):FuncData:=kla_fn "<lambda>" qual params body scope cl pm (.ref c) ct
def fP(qual:Str)(params:Arguments)(body:Expr)(scope:Scope)(cl:List (Str×Addr))(pm:Value)(c:Addr)(ct:Value):Obj:={ cls:=.type "function",data:=.func (rM qual params body scope cl pm c ct) }
def lj(a:Addr)(o:Obj):HO:=.ext fun h=>h.get? a=some o
def gB(c:Addr)(qual:Str):HO:=.ext fun h=>h.CodeRec (.ref c) qual
theorem qc{P:Program}{w:World}{H:Hp}{h:Heap}{a:Addr}{o:Obj}(e:h.get? a=some o):ObjOk P w H h a (lj a o):=⟨e,⟨o,e⟩,fun _ _ x k=>k _ x⟩
theorem yo{P:Program}{w:World}{H:Hp}{h:Heap}{c:Addr}{q:Str}(e:h.CodeRec (.ref c) q):ObjOk P w H h c (gB c q):=by obtain⟨c',oc,vs,t,e1,e2,e3,e4⟩:=id e;cases e1;refine⟨e,⟨oc,e2⟩,fun h1 h2 x k=>?_⟩;obtain⟨c',oc,vs,t,e1,e2,e3,e4⟩:=id x;cases e1;exact⟨c,oc,vs,t,rfl,k _ e2,e3,e4⟩
def Blt(h:Heap)(mg:Str->Option Value):Prop:=∃bm ob,mg "__builtins__" = some (.ref bm)/\bm≠builtinsNs/\h.get? bm=some ob/\ob.cls=.type "module"/\ob.dict=some builtinsNs/\ob.data=.plain
section
variable{X:Cx}{pins:List (Addr×Obj)}{σ:St}{H:Hp}{s:Shared}
theorem Inv.bltAt(I:Inv X pins σ H s)(B:Blt X.base X.mg){P:Addr}{ps:Array Value}(hP:H P=some (.tbl ps)):s.heap.BuiltinsAt X.mg P:=by
 obtain⟨bm,ob,b1,b2,b3,b4,b5,b6⟩:=B;refine⟨bm,ob,b1,b2,fun z=>?_,fun z=>?_,I.bk _ _ b3,b4,b5,b6⟩
 ·obtain⟨o,es,ep,e,d,_⟩:=I.ok.mod.glob;rw[<-z,b3]at e;cases e;rw[d]at b6;cases b6
 ·have:=(I.bs _ _ b3).2;rw[z,hP]at this;cases this
theorem Inv.grown{h':Heap}{P c f:Addr}{ps more:Array Value}{oc of':HO}{t':Nat}(I:Inv X pins σ H s)(hP:H P=some (.tbl ps))(k:∀b o,b≠P->s.heap.get? b=some o->h'.get? b=some o)(hc:s.heap.objs.size<=c)(hf:s.heap.objs.size<=f)(hcf:c≠f)(eP:h'.get? P=some { cls:=.none,data:=.fields (ps++more) })(nc:∀H',ObjOk X.prog X.w H' h' c oc)(nf:∀H',ObjOk X.prog X.w H' h' f of') :
  H c=none/\H f=none/\Inv X pins σ (upd (upd (upd H P (.tbl (ps++more))) c oc) f of') { s with heap:=h',toks:=t' }:=by
 have c0:=I.hok.fresh hc;have f0:=I.hok.fresh hf;have nP:∀{b:Addr} {u:HO},H b=some u->(∀qs,u≠.tbl qs)->b≠P:=fun{b u} e n z=>by rw[z,hP]at e;cases e;exact n _ rfl
 have up:∀{b:Addr},b≠P->b≠c->b≠f->upd (upd (upd H P (.tbl (ps++more))) c oc) f of' b=H b:=fun{b} n1 n2 n3=>by rw[ad n3,ad n2,ad n1]
 have old:∀{b:Addr} {o:Obj},s.heap.get? b=some o->b≠c/\b≠f:=fun{b o} e=>⟨Zv (Zw (Zm e) hc),Zv (Zw (Zm e) hf)⟩
 have pcf:P≠c/\P≠f:=by have:=I.hok P _ hP;exact old (show s.heap.get? P=some _ from this)
 refine⟨c0,f0,I.un (t':=t') ⟨fun b o e n _ _=>k b o (fun z=>by rw[z,hP]at n;cases n) e,fun b o e n _ _=>⟨o.slots,k b o (fun z=>by rw[z,hP]at n;cases n) e⟩,fun b o e n _=>?_,fun b o e _=>?_,fun b xs e=>?_,fun b o u e=>?_,fun b qs e=>?_⟩ fun b u e=>?_⟩
 ·rw[up (fun z=>by rw[z,hP]at n;cases n) (old e).1 (old e).2];exact n
 ·by_cases z:b=P
  ·exact⟨_,z▸eP⟩
  ·exact⟨o,k b o z e⟩
 ·rw[up (nP e fun _ z=>nomatch z) (ag e c0) (ag e f0)];exact e
 ·rw[up (nP e fun _ z=>nomatch z) (ag e c0) (ag e f0)];exact e
 ·by_cases z:b=P
  ·subst z;rw[hP]at e;cases e;exact⟨more,by rw[ad pcf.2,ad pcf.1,af]⟩
  ·exact⟨#[],by rw[up z (ag e c0) (ag e f0),e];simp⟩
 ·by_cases zf:b=f
  ·subst zf;rw[af]at e;cases e;exact nf _
  ·rw[ad zf]at e;by_cases zc:b=c
   ·subst zc;rw[af]at e;cases e;exact nc _
   ·rw[ad zc]at e;by_cases zP:b=P
    ·subst zP;rw[af]at e;cases e;exact eP
    ·rw[ad zP]at e;refine(I.hok b u e).stay (fun b' v hb' q=>k b' v (fun z=>?_) q) (fun b' z=>by rw[up (nP z fun _ z=>nomatch z) (ag z c0) (ag z f0)];exact z) fun b' xs z=>by rw[up (nP z fun _ z=>nomatch z) (ag z c0) (ag z f0)];exact z
     rcases hb' with rfl|hb'
     ·exact zP z
     ·rw[z,hP]at hb';cases hb'
end
def aQ(q:Str)(P:Addr)(pos:Pos)(H:Hp):Prop:=∃ps:Array Value,H P=some (.tbl ps)/\TriplesOk ps.toList/\(codeAmong pos ps.toList=none\/∃c',codeAmong pos ps.toList=some (.ref c')/\H c'=some (gB c' q))
def SameT(P:Addr)(H H':Hp):Prop:=∀b o,H b=some o->b≠P->H' b=some o
theorem SameT.of{P:Addr}{H H':Hp}(s:Same H H'):SameT P H H':=fun b o e _=>s b o e
theorem SameT.trans{P:Addr}{H H' H2:Hp}(s:SameT P H H')(t:SameT P H' H2):SameT P H H2:=fun b o e n=>t b o (s b o e n) n
theorem iG{x y:Int}{c:Value}{a b:Tok}:∀l:List Value,TriplesOk l->TriplesOk (l++[.int x a,.int y b,c])
 | [],_=>trivial
 |.int _ _::.int _ _::_::rest,h=>iG rest h
structure LamOk(P:Program)(w:World)(K:PySem.W.Frag)(mg:Str->Option Value)(base:Heap)(k:Nat)(qual:Str)(body:Expr)(scope:Scope)(x:Str)(sp:Sp):Prop where
 ex:∃N:List Str,FnScope N [x] scope/\(∀vs H Q E,sp vs H Q E->vs.length=1)/\∀(f c':Addr) (A:Around) (outer:List Env) (s:Shared) (H:Hp) (vs:List V) (Q:VK) (E:XK),Room k (A.deeper (envOfC qual scope s.heap.objs.size f (.ref c')))->sp vs H Q E ->
  ∃t,QE (cJ CX0 P w K mg base N qual scope f (.ref c') A outer s H E) body t/\t (start N vs) H Q
open PySem PySem.Spec PyProof.Rows PySem.W
def xT(a:Addr)(tabs:List (Addr×Addr))(H:Hp):Prop:=∀b,H b=none\/(b=a/\∃o xs,H b=some (.frz o (.lst xs)))\/((∃c,(c,b)∈tabs)/\H b=some (.tbl #[]))
theorem vM{P:Program}{w:World}{K:PySem.W.Frag}{mg mb:Str->Option Value}{k:Nat}{fa a:Addr}{fd:FuncData}{x:Str}{sp:Sp}{s:Shared}{vs:List Value}{ns:List Int}{tabs:List (Addr×Addr)}(kx:K.In s.heap)(gx:s.heap.Ns mainGlobals mg)(bx:s.heap.Ns builtinsNs mb)(bb:∀y:Str,y≠"__name__"->mb y=bootBuiltins y)(nl:s.heap.NoLimit)(gn:s.gens=#[])(bl:Blt s.heap mg)(tx:∀q∈tabs,CodeHd s.heap q.1 q.2/\s.heap.get? q.2=some (tabObj #[]))(nt:noTabs K=true)(sa:s.heap.get? a=some { cls:=.type "list",data:=.seq vs.toArray })(si:IntsAre vs ns)(sl:ns.length<=sizeLine)(hr:Room k callerA)(F:∀base:Heap,K.In base->base.Ns mainGlobals mg->Blt base mg->(∀q∈tabs,CodeHd base q.1 q.2)->FnOk P w K mg base CX0 k fa fd [x] sp)(bind:∀(s:Shared) (u:Value),BindsTo s fd ⟨[u],[]⟩ [(x,u)])(go:∀H:Hp,(∀q∈tabs,H q.2=some (.tbl #[]))->SqL K H a (ns.map V.int)->sp [.ref a] H (fun v _=>v=.bl true) fun _ _ _=>False) :
  codeAny (model P w) callerA (.call (.ref fa) ⟨[.ref a],[]⟩) (fun r s'=>r=.ok (.ret (.bool true))/\OldK s.heap s'.heap/\s'.os=s.os/\AllBare s'.gens) s:=by
 have tabNot:∀{b:Addr} {c:Addr},(c,b)∈tabs->K.lookup b=none:=fun{b c} hm=>by
  cases e:K.lookup b with
  |none=>rfl
  |some o =>have e1:=(kx b o e).symm.trans (tx _ hm).2;cases e1;have:=YA.mp nt _ (mem_of_lookupK e);cases this
 have aNot:∀{c:Addr},¬(c,a)∈tabs:=fun{c} hm=>by have:=(tx _ hm).2;rw[sa]at this;cases this
 have main:∀H:Hp,xT a tabs H->(∀q∈tabs,H q.2=some (.tbl #[]))->SqL K H a (ns.map V.int)->HOk P w H s.heap->(H a≠none->K.lookup a=none) ->
   codeAny (model P w) callerA (.call (.ref fa) ⟨[.ref a],[]⟩) (fun r s'=>r=.ok (.ret (.bool true))/\OldK s.heap s'.heap/\s'.os=s.os/\AllBare s'.gens) s:=by
  intro H ae ht hS ok ha;have free:∀{b:Addr} {o:Obj},s.heap.get? b=some o->(∀n m,o.data≠.seq n m)->(∀n,o.data≠.fields n)->H b=none:=fun{b o} e n1 n2=>by
   rcases ae b with z|⟨rfl,_⟩|⟨⟨c,hm⟩,_⟩
   ·exact z
   ·rw[sa]at e;cases e;exact absurd rfl (n1 _ _)
   ·rw[(tx _ hm).2]at e;cases e;exact absurd rfl (n2 _)
  have nsB:∀{b:Addr} {m:Str->Option Value},s.heap.Ns b m->(fF s.heap H).Ns b m:=fun{b m} ⟨o,es,ep,e,d,r⟩=>⟨o,es,ep,gz e (free e (fun _ _ z=>by rw[d]at z;cases z) fun _ z=>by rw[d]at z;cases z),d,r⟩
  have kB:K.In (fF s.heap H):=fun b o e=>gz (kx b o e) (by
   rcases ae b with z|⟨rfl,o',xs,z⟩|⟨⟨c,hm⟩,_⟩
   ·exact z
   ·rw[ha (by rw[z];simp)]at e;cases e
   ·rw[tabNot hm]at e;cases e)
  have bB:Blt (fF s.heap H) mg:=by obtain⟨bm,ob,b1,b2,b3,b4,b5,b6⟩:=bl;exact⟨bm,ob,b1,b2,gz b3 (free b3 (fun _ _ z=>by rw[b6]at z;cases z) fun _ z=>by rw[b6]at z;cases z),b4,b5,b6⟩
  have cB:∀q∈tabs,CodeHd (fF s.heap H) q.1 q.2:=fun q hq=>by
   obtain⟨o,ws,file,tf,fl,tg,inF,text,tt,c1,c2,c3,c4⟩:=(tx q hq).1;refine⟨o,ws,file,tf,fl,tg,inF,text,tt,gz c1 ?_,c2,c3,c4⟩;rcases ae q.1 with z|⟨z,_⟩|⟨⟨c,hm⟩,_⟩
   ·exact z
   ·rw[z,sa]at c1;cases c1;injection c2 with c2;exact absurd c2 (by decide)
   ·rw[(tx _ hm).2]at c1;cases c1;cases c2
  have mB:Mod K mg (fF s.heap H):=⟨kB,nsB gx,⟨mb,nsB bx,bb⟩,let⟨mc,n1,n2⟩:=nl;⟨mc,nsB n1,n2⟩⟩
  have env:Env0 P w K mg (fF s.heap H) callerA [] s H:=⟨rfl,mB,fun b o e=>yB e,Nat.le_of_eq (tj _ _),trivial,fun b hb=>absurd (show b∈([]:List Addr)from hb) (by simp),ok,.of_eq gn⟩
  refine codeAny_mono ((F _ kB (nsB gx) bB cB).run callerA [] s H ⟨[.ref a],[]⟩ [.ref a] [.ref a] _ _ hr env (bind s (.ref a)) (.cons rfl .nil) (go H ht hS)) fun r s' h=>?_;cases r with
  |error e=>exact False.elim h
  |ok fl =>
   cases fl with
   |next=>exact False.elim h
   |brk=>exact False.elim h
   |cont=>exact False.elim h
   |ret u =>
    obtain⟨v,H',os,bare,un,ok',rv,hv⟩:=h;obtain rfl:v=.bl true:=hv;obtain rfl:u=Value.bool true:=rv;have each:∀b o,s.heap.get? b=some o->asItWas s.heap s'.heap b o/\∃o',s'.heap.get? b=some o':=fun b o e=>by
     rcases ae b with z|⟨rfl,o',xs,z⟩|⟨⟨c,hm⟩,z⟩
     ·have:=un.keep b o e z (by intro q;exact absurd (show b∈([]:List Addr)from q) (by simp)) (by simp);exact⟨.inl this,_,this⟩
     ·obtain⟨e1,_⟩:=ok b _ z;obtain⟨e2,_⟩:=ok' b _ (un.frzs b o' _ z);rw[e]at e1;cases e1;exact⟨.inl e2,_,e2⟩
     ·obtain⟨more,z2⟩:=un.tbls b _ z;have e2:s'.heap.get? b=some { cls:=.none,data:=.fields (#[]++more) }:=ok' b _ z2;have e1:=(tx _ hm).2;rw[e]at e1;cases e1;exact⟨.inr (.inl ⟨(((tx _ hm).1).tab e).isCodeTable,rfl,#[],more,rfl,e2⟩),_,e2⟩
    exact⟨rfl,⟨fun b o e=>(each b o e).1,fun b o e=>(each b o e).2⟩,os,bare⟩
 have rv:=mE si;have lv:=si.length;have inT:∀b,Decidable (∃c,(c,b)∈tabs):=fun b=>Classical.propDecidable _;cases hk:K.lookup a with
 |some o =>
  have e:=kx a o hk;rw[sa]at e;cases e;refine main (fun b=>@ite _ (∃c,(c,b)∈tabs) (inT b) (some (.tbl #[])) none) (fun b=>?_) (fun q hq=>if_pos ⟨q.1,hq⟩) (.inr ⟨_,vs.toArray,_,hk,rfl,rfl,rfl,by rw[Zf,lv];exact sl,by simpa using rv⟩) (fun b u z=>?_) (fun z=>absurd (if_neg fun⟨c,hm⟩=>aNot hm) z)
  ·by_cases c:∃c,(c,b)∈tabs
   ·exact .inr (.inr ⟨c,if_pos c⟩)
   ·exact .inl (if_neg c)
  ·by_cases c:∃c,(c,b)∈tabs
   ·have z':=(if_pos c).symm.trans z;cases z';obtain⟨c,hm⟩:=c;exact(tx _ hm).2
   ·have z':=(if_neg c).symm.trans z;cases z'
 |none =>
  refine main (fun b=>@ite _ (∃c,(c,b)∈tabs) (inT b) (some (.tbl #[])) (if b=a then some (.frz { cls:=.type "list",data:=.seq vs.toArray } (.lst (ns.map V.int)))else none)) (fun b=>?_) (fun q hq=>if_pos ⟨q.1,hq⟩) (.inl (.inr ⟨{ cls:=.type "list",data:=.seq vs.toArray },(if_neg fun⟨c,hm⟩=>aNot hm).trans (if_pos rfl)⟩)) (fun b u z=>?_) (fun _=>hk)
  ·by_cases c:∃c,(c,b)∈tabs
   ·exact .inr (.inr ⟨c,if_pos c⟩)
   ·by_cases hb:b=a
    ·exact .inr (.inl ⟨hb,_,_,(if_neg c).trans (if_pos hb)⟩)
    ·exact .inl ((if_neg c).trans (if_neg hb))
  ·by_cases c:∃c,(c,b)∈tabs
   ·have z':=(if_pos c).symm.trans z;cases z';obtain⟨c,hm⟩:=c;exact(tx _ hm).2
   ·have z':=(if_neg c).symm.trans z;by_cases hb:b=a
    ·rw[if_pos hb]at z';cases z';subst hb;exact⟨sa,by rw[Zi];exact sl,vs,_,rv,sa⟩
    ·rw[if_neg hb]at z';cases z'
theorem Fun.okC{P:Program}{w:World}{K:PySem.W.Frag}{mg:Str->Option Value}{base:Heap}{x qual:Str}{st:Stmt}{f c:Addr}{fd:FuncData}{N ps:List Str}{k:Nat}{sp:Sp}(F:Fun K x qual st f fd)(hc:fd.code=.ref c)(S:FnScope N ps (ai st))(len:∀ vs H Q E,sp vs H Q E->vs.length=ps.length)(body:∀ (A:Around) (outer:List Env) (s:Shared) (H:Hp) (vs:List V) (Q:VK) (E:XK),Room k (A.deeper (envOfC qual (ai st) s.heap.objs.size f (.ref c)))->sp vs H Q E ->
   ∃ t,QB (cJ CX0 P w K mg base N qual (ai st) f (.ref c) A outer s H E).nox (aT st) t/\t { nx:=fun _ H'=>Q .non H',rt:=Q } (start N vs) H):FnOk P w K mg base CX0 (k+1) f fd ps sp:=by
 obtain⟨oc,od,kV,doc,pm,an,cdv,ct,osl,rfl,lk,hcd⟩:=F.ex;obtain rfl:cdv=.ref c:=hc;refine rC lk hcd S len fun A outer s H vs Q E hr hs=>?_;obtain⟨t,h,q⟩:=body A outer s H vs Q E hr hs;exact⟨t,h.h.nox,q⟩
open PySem PySem.Spec PyProof.Rows PySem.W
inductive SKey where
 |i (n:Int)|s (t:Str)|bi (b:Bool)(n:Int)
def SKey.at(H:Hp):SKey->V->Prop
 |.i n,v=>v=.int n
 |.s t,v=>v=.str t
 |.bi b n,v=>∃a,v=.ref a/\H a=some (.tup [.bl b,.int n])
section
variable{X:Cx}{pins:List (Addr×Obj)}{σ:St}{H:Hp}{s:Shared}{h':Heap}
def rf(X:Cx)(pins:List (Addr×Obj))(σ:St)(f:Addr)(sp:Sp):Prop:=∀(s:Shared) (H:Hp) (u:Value) (v:V) (Q:VK),Inv X pins σ H s->RelV v u->sp [v] H Q E0->codeAny (model X.prog X.w) X.A.in1.in1 (.call (.ref f) ⟨[u],[]⟩) (CR CX0 X.stack X.prog X.w H s Q E0) s
structure SG(X:Cx)(pins:List (Addr×Obj))(σ:St)(H1:Hp)(m:Str->Option Value)(kS D:Addr)(e1:Nat)(ks:List SKey)(as:List V)(us:List Value)(e:Nat)(H:Hp)(s:Shared):Prop where
 I:Inv X pins σ H s
 sm:Same H1 H
 fk:aY X pins H kS
 fd:aY X pins H D
 bk:X.base.get? kS=none
 bd:X.base.get? D=none
 hk:s.heap.get? kS=some (seqObj "list" (List.toArray us) e)
 hd:s.heap.get? D=some (seqObj "list" #[] e1)
 ns:s.heap.Ns X.env.locals m
 vals:Vals as us
 keys:∀(i:Nat) (a:V) (k:SKey),as[i]?=some a->ks[i]?=some k->k.at H a
theorem pD(b:Bool){xs:List V}{us:List Value}(h:Vals xs us):Vals (katRev b xs) (katRev b us):=by
 cases b with
 |false=>exact h
 |true =>
  show Vals xs.reverse us.reverse;induction h with
  |nil=>exact .nil
  |cons r _ ih =>rw[List.reverse_cons,List.reverse_cons];exact ih.append (.cons r .nil)
theorem yw(n m:Int):HT.lexLt [n] [m]=decide (n<m):=by
 rw[HT.lexLt_cons,HT.lexLt_nil_nil];by_cases z:n=m
 ·rw[if_pos z,decide_eq_false (by omega)]
 ·rw[if_neg z]
end
open PySem PySem.Spec PyProof.Rows PySem.W
structure LamScope(x y:Str)(sc:Scope):Prop where
 kind:sc.kind=.function
 co:sc.isCoroutine=false
 gen:sc.isGenerator=false
 lx:sc.names.lookup x=some .local
 ly:sc.names.lookup y=some .free
 nc:∀z∈sc.names,z.2≠.cell
 nf:∀z∈sc.names,z.2=.free->z.1=y
 ne:x≠y
def cxX(CX:CXT)(P:Program)(w:World)(K:PySem.W.Frag)(mg:Str->Option Value)(base:Heap)(N:List Str)(qual:Str)(scope:Scope)(f:Addr)(cd:Value)(cl:List (Str×Addr))(A:Around)(outer:List Env)(s:Shared)(H:Hp)(E:XK):Cx where
 prog:=P
 w:=w
 K:=K
 mg:=mg
 base:=base
 A:=A.deeper (envX qual scope s.heap.objs.size f cd cl)
 N:=N
 s₀:=s
 H₀:=H
 env:=envX qual scope s.heap.objs.size f cd cl
 outer:=outer
 stack:=envX qual scope s.heap.objs.size f cd cl::outer
 ex:=[]
 calm:=true
 fn:=fun _=>false
 pn:=[]
 xe:=fun e s'=>wpAny (model P w) (A.deeper (envX qual scope s.heap.objs.size f cd cl)) (leaving (envX qual scope s.heap.objs.size f cd cl) e) (fun _ s''=>CX outer H s E e s'') (fun e' s''=>CX outer H s E e' s'') s'
theorem rL{CX:CXT}{P:Program}{w:World}{K:PySem.W.Frag}{mg:Str->Option Value}{base:Heap}{x y:Str}{qual:Str}{scope:Scope}{f c:Addr}{cd:Value}{A:Around}{outer:List Env}{s:Shared}{H:Hp}{E:XK}{u ku:Value}{v kv:V}{h1:Heap}{tk:Nat}(S:LamScope x y scope)(hd:A.handled=none)(e0:Env0 P w K mg base A outer s H)(r:RelV v u)(kr:RelV kv ku)(hc:s.heap.IsCell c (some ku))(fc:H c=none)(hns:h1.Ns s.heap.objs.size fun z=>[(x,u)].reverse.lookup z)(hk:∀b o,s.heap.get? b=some o->h1.get? b=some o) :
  Inv (cxX CX P w K mg base [x,y] qual scope f cd [(y,c)] A outer s H E) [] [some v,some kv] H { s with heap:=h1,toks:=tk }:=by
 have noA:∀b:Addr,b∉(cxX CX P w K mg base [x,y] qual scope f cd [(y,c)] A outer s H E).ex:=fun b z=>absurd (show b∈([]:List Addr)from z) (by simp);have lk:∀{z:Str} {d:Addr},([(y,c)]:List (Str×Addr)).lookup z=some d->z=y/\d=c:=fun{z d} h=>by
  rw[ZI]at h;split at h
  ·rename_i e;cases h;exact⟨by simpa using e,rfl⟩
  ·cases h
 have ly:([(y,c)]:List (Str×Addr)).lookup y=some c:=by simp
 have cell1:h1.IsCell c (some ku):=by obtain⟨o,a1,a2⟩:=hc;exact⟨o,hk _ _ a1,a2⟩
 refine⟨⟨e0.mod,S.kind,rfl,rfl,Ze _,fun z z' d q1 q2=>?_,fun z hz=>?_,fun z d q _=>(nomatch q),fun _=>hd,Around.frames_deeper e0.frames,.inr ⟨rfl,rfl⟩,fun b z=>absurd z (noA b),e0.bs,e0.bsz,fun b _ _=>noA b,fun b z=>absurd z (noA b),e0.funs,e0.frf⟩,
  rfl,e0.bare,Un.kept hk,⟨_,hns,fun i z v' q1 q2 q3=>?_⟩,fun z d q=>⟨some ku,by rw[(lk q).2];exact cell1⟩,e0.hok.fresh (Ze _),fun z d q=>by rw[(lk q).2];exact fc,fun p hp=>absurd (show p∈([]:List (Addr×Obj)) from hp) (by simp),e0.hok.kept hk,rfl⟩
 ·exact(lk q1).1.trans (lk q2).1.symm
 ·have hz:scope.names.lookup z=some .cell\/scope.names.lookup z=some .free:=hz;rcases hz with hz|hz
  ·exact absurd rfl (S.nc _ (y9 hz))
  ·exact⟨c,by rw[show z=y from S.nf _ (y9 hz) rfl];exact ly⟩
 ·match i,q1,q2 with
  |0,q1,q2 =>cases q1;cases q2;exact⟨u,r,.inl ⟨S.lx,by simp⟩⟩
  |1,q1,q2 =>cases q1;cases q2;exact⟨ku,kr,.inr ⟨.inr S.ly,c,ly,cell1⟩⟩
  |i+2,q1,_=>simp[cxX]at q1
section
variable{X:Cx}{pins:List (Addr×Obj)}{σ:St}
theorem vL{k j:Nat}{x y qual:Str}{params:Arguments}{body:Expr}{scope:Scope}{f c c':Addr}{pm ct:Value}{kv:V}{sp:Sp}(S:LamScope x y scope)(hi:X.N[j]? = some y)(hσ:σ[j]? = some (some kv))(hyc:X.env.scope.names.lookup y=some .cell)(hcy:X.env.cells.lookup y=some c)(hr:Room (k+1) X.A.in1.in1)(hbd:∀ (s:Shared) (u:Value),BindsTo s (rM qual params body scope [(y,c)] pm c' ct) ⟨[u],[]⟩ [(x,u)])(hbody:∀ (A:Around) (outer:List Env) (s:Shared) (H:Hp) (v:V) (Q:VK),Room k (A.deeper (envX qual scope s.heap.objs.size f (.ref c') [(y,c)]))->sp [v] H Q E0 ->
   ∃ t,PE (cxX CX0 X.prog X.w X.K X.mg X.base [x,y] qual scope f (.ref c') [(y,c)] A outer s H E0) body t/\t [some v,some kv] H Q) :
  ∀l,rf (wX X l) pins σ f (fun vs H Q E=>H f=some (lj f (fP qual params body scope [(y,c)] pm c' ct))/\H c'=some (gB c' qual)/\sp vs H Q E):=by
 intro l s H u v Q I ru ⟨hf,hc,hsp⟩;have e0:Env0 X.prog X.w X.K X.mg X.base X.A.in1.in1 X.stack s H:=by have e0:=I.env0;exact⟨e0.frames,e0.mod,e0.bs,e0.bsz,e0.funs,e0.frf,e0.hok,e0.bare⟩
 have lim:s.heap.NoLimit:=e0.mod.nolimit.keeps fun b o e=>(e0.bs b o e).1;have of1:=(e0.hok f _ hf).1;have oc1:=(e0.hok c' _ hc).1;obtain⟨m,_,look⟩:=I.loc;obtain⟨ku,kr,lk⟩:=look j y kv hi hσ (.inr (.inl hyc));have cell:s.heap.IsCell c (some ku):=by
  rcases lk with⟨z,_⟩|⟨_,d,e1,e2⟩
  ·have z':X.env.scope.names.lookup y=some .local:=z;rw[hyc]at z';cases z'
  ·have e1':X.env.cells.lookup y=some d:=e1;rw[hcy]at e1';cases e1';exact e2
 have fc:H c=none:=I.freeC y c hcy;refine kla_callFunE hr.depth of1 rfl S.co S.gen rfl oc1 (hbd s u _ _ _ _ ?_);refine wpAny_newFunctionEnv S.nc (fun z hz=>?_) (fun h1 hns hsb=>⟨lim.keeps ?_,kla_codeExpr ?_⟩) S.kind
 ·rw[Zu.mp hz];exact S.lx
 all_goals have hk:∀b o,s.heap.get? b=some o->h1.get? b=some o:=fun b o e=>hsb.extBut b o (Zv (Zm e)) (Za _ e)
 ·exact hk
 ·obtain⟨t,ht,hq⟩:=hbody X.A.in1.in1 X.stack s H v Q (hr.deeper _) hsp;have I2:=rL (CX:=CX0) (qual:=qual) (f:=f) (cd:=.ref c') (E:=E0) (tk:=s.toks+1) S hr.hd e0 ru kr cell fc hns hk;refine ZQ (ht [] _ _ H _ I2 hq) (fun u s' hz9=>?_) fun e s' hs=>hs;obtain⟨v,H',J,rv,q⟩:=hz9;exact⟨v,H',J.os,J.bare,J.base,J.hok,rv,q⟩
end
open PySem PySem.Spec PyProof.Rows PySem.W
section
variable{X:Cx}{c P:Addr}{params:Arguments}{body:Expr}{scope:Scope}{pos:Pos}{cl:List (Str×Addr)}
def sw(cl:List (Str×Addr))(X:Cx)(P:Addr)(params:Arguments)(body:Expr)(scope:Scope)(pos:Pos):TE:=fun _ H Q=>∃ps:Array Value,H P=some (.tbl ps)/\TriplesOk ps.toList /\
 ((∃ c',codeAmong pos ps.toList=some (.ref c')/\H c'=some (gB c' (X.env.qual++"<lambda>"))/\∀ f ct,H f=none->Q (.ref f) (upd H f (lj f (fP (X.env.qual++"<lambda>") params body scope cl ((X.mg "__name__").getD .none) c' ct)))) \/
  (codeAmong pos ps.toList=none/\∀ f c' ct,H f=none->H c'=none->c'≠f->Q (.ref f) (upd (upd (upd H P (.tbl (ps++#[rawInt pos.line,rawInt pos.col,.ref c']))) c' (gB c' (X.env.qual++"<lambda>"))) f (lj f (fP (X.env.qual++"<lambda>") params body scope cl ((X.mg "__name__").getD .none) c' ct)))))
theorem yQ(hcode:X.env.code=.ref c)(hge:X.env.globals=mainGlobals)(C:CodeHd X.base c P)(B:Blt X.base X.mg)(hdef:defaultsOf params X.env=([],[]))(hcl:closureFor scope X.env=pure cl):PE X (.Lambda params body scope pos) (sw cl X P params body scope pos):=by
 intro pins s σ H Q I h;obtain⟨ps,hP,ht,hh⟩:=h;have oP:s.heap.get? P=some (tabObj ps):=I.hok P _ hP;have hg:s.heap.Ns mainGlobals X.mg:=I.ok.mod.glob.keeps I.bk;have hb:=I.bltAt B hP;refine kla_eval hdef ?_;rcases hh with⟨c',hf,hc',q⟩|⟨hnf,q⟩
 ·refine kla_makeFunctionHit hcl hge hg hcode (C.keeps I.bk) oP ht hf hb fun ct h' tk kp hsz=>?_;have hn:=I.hok.fresh hsz;exact⟨.ref _,_,I.laid (t':=tk) (fun b o e=>Za _ (kp b o e)) hsz (qc (Zo _ rfl)),rfl,q _ ct hn⟩
 ·have hgP:mainGlobals≠P:=fun z=>by obtain⟨o,es,ep,e,d,_⟩:=hg;rw[z,oP]at e;cases e;cases d
  refine kla_makeFunction hcl hge hg hcode (C.keeps I.bk) oP ht hnf hgP hb fun c' ct h' tk hx hge' hlt hrec htb=>?_;have hnF:c'≠h'.objs.size:=Zv hlt;obtain⟨i1,i2,i3⟩:=I.grown (t':=tk) (c:=c') (f:=h'.objs.size) (h':=h'.push (fP (X.env.qual++"<lambda>") params body scope cl ((X.mg "__name__").getD .none) c' ct)) (oc:=gB c' (X.env.qual++"<lambda>")) (of':=lj h'.objs.size (fP (X.env.qual++"<lambda>") params body scope cl ((X.mg "__name__").getD .none) c' ct)) hP
   (fun b o hb' e=>Za _ (hx b o hb' e)) hge' (Zx hge' (Nat.le_of_lt hlt)) hnF (Za _ htb) (fun _=>yo (by
    obtain⟨c₂,oc,vs,t,e1,e2,e3,e4⟩:=hrec;exact⟨c₂,oc,vs,t,e1,Za _ e2,e3,e4⟩)) (fun _=>qc (Zo _ rfl))
  exact⟨.ref _,_,i3,rfl,q _ c' ct i2 i1 hnF⟩
structure LamOkX(P:Program)(w:World)(K:PySem.W.Frag)(mg:Str->Option Value)(base:Heap)(k:Nat)(qual:Str)(body:Expr)(scope:Scope)(x y:Str)(sp:V->Sp):Prop where
 sc:LamScope x y scope
 ex:∀(f c' c:Addr) (kv:V) (A:Around) (outer:List Env) (s:Shared) (H:Hp) (v:V) (Q:VK),Room k (A.deeper (envX qual scope s.heap.objs.size f (.ref c') [(y,c)]))->sp kv [v] H Q E0 ->
  ∃t,QE (cxX CX0 P w K mg base [x,y] qual scope f (.ref c') [(y,c)] A outer s H E0) body t/\t [some v,some kv] H Q
def pN(X:Cx)(P:Addr)(q:Str)(lpos:Pos)(params:Arguments)(body:Expr)(scope:Scope)(cl:List (Str×Addr))(H1:Hp)(f:Addr)(H2:Hp):Prop :=
 ∃(c':Addr) (ct:Value),SameT P H1 H2/\aQ q P lpos H2/\H2 f=some (lj f (fP q params body scope cl ((X.mg "__name__").getD .none) c' ct))/\H2 c'=some (gB c' q)/\f≠P/\c'≠P
theorem vK{H1:Hp}{lpos:Pos}{σ:St}{R:VK}(tab:aQ (X.env.qual++"<lambda>") P lpos H1)(h:∀f H2,pN X P (X.env.qual++"<lambda>") lpos params body scope cl H1 f H2->R (.ref f) H2):sw cl X P params body scope lpos σ H1 R:=by
 obtain⟨ps,tP,t3,tc⟩:=tab;refine⟨ps,tP,t3,?_⟩;rcases tc with hno|⟨c',hy,hc'⟩
 ·refine .inr ⟨hno,fun f c' ct f0 c0 hcf=>h _ _ ?_⟩;have nPf:f≠P:=fun z=>by rw[z,tP]at f0;cases f0
  have nPc:c'≠P:=fun z=>by rw[z,tP]at c0;cases c0
  refine⟨c',ct,fun b o e hb=>?_,⟨_,by rw[ad (ZM nPf),ad (ZM nPc),af],?_,.inr ⟨c',?_,by rw[ad hcf,af]⟩⟩,af,by rw[ad hcf,af],nPf,nPc⟩
  ·rw[ad (ag e f0),ad (ag e c0),ad hb];exact e
  ·rw[ZD];exact iG _ t3
  ·rw[ZD];exact codeAmong_snoc _ t3 hno
 ·refine .inl ⟨c',hy,hc',fun f ct f0=>h _ _ ?_⟩;have nPf:f≠P:=fun z=>by rw[z,tP]at f0;cases f0
  have nPc:c'≠P:=fun z=>by rw[z,tP]at hc';cases hc'
  exact⟨c',ct,fun b o e hb=>by rw[ad (ag e f0)];exact e,⟨ps,by rw[ad (ZM nPf)];exact tP,t3,.inr ⟨c',hy,by rw[ad (ag hc' f0)];exact hc'⟩⟩,af,by rw[ad (ag hc' f0)];exact hc',nPf,nPc⟩
end
open PySem PySem.Spec PyProof.Rows PySem.W
open PySem PyProof.Rows PySem.W
def dG:Bool->Keyed->Array Keyed->Nat->Nat->Nat->StateT SortSt Sem (Option Nat):=sortPriv%PySem.Builtin.gallop
def zLo:Array Keyed->Array Keyed->StateT SortSt Sem (Array Keyed):=sortPriv%PySem.Builtin.mergeLo
def zHi:Array Keyed->Array Keyed->StateT SortSt Sem (Array Keyed):=sortPriv%PySem.Builtin.mergeHi
def iJ:Nat->StateT SortSt Sem Unit:=sortPriv%PySem.Builtin.setMinGallop
def iI(le:Bool)(ky:Keyed)(ar:Array Keyed)(ba i:Nat):StateT SortSt Sem (Option Bool):=do
 let it ←elem' ar (ba+i)
 if le then lt' it ky else do
  let o ←lt' ky it
  pure (o.map (!·))
theorem zE(le:Bool)(ky:Keyed)(ar:Array Keyed)(ba n at0:Nat):dG le ky ar ba n at0=(do
 let mut las:=0;let mut ofs:=1;let mut lo:=0;let mut hi:=0
 let some rig ←iI le ky ar ba at0|return none
 if rig then
  for _ in[0:n]do
   if ofs>=n-at0 then break
   let some mo ←iI le ky ar ba (at0+ofs)|return none
   if !mo then break
   las:=ofs;ofs:=2*ofs+1
  lo:=at0+las+1;hi:=at0+min ofs (n-at0)
 else
  for _ in[0:n]do
   if ofs>=at0+1 then break
   let some fo ←iI le ky ar ba (at0-ofs)|return none
   if fo then break
   las:=ofs;ofs:=2*ofs+1
  lo:=at0+1-min ofs (at0+1);hi:=at0-las
 for _ in[0:n]do
  if lo>=hi then break
  let some mo ←iI le ky ar ba (lo+(hi-lo) / 2)|return none
  if mo then lo:=lo+(hi-lo) / 2+1 else hi:=lo+(hi-lo) / 2
 return some hi):=rfl
theorem BY(a b:Array Keyed):zLo a b=(do
 liftM (rule "list.sort.merge-lo");let e0 ←elem' b 0;let mut out:Array Keyed:=#[e0];let mut ia:=0;let mut ib:=1
 if ib==b.size then return out++a.extract ia a.size++b.extract ib b.size
 if ia+1==a.size then return out++b.extract ib b.size++a.extract ia a.size
 let mut mg:=gallopOf (←get)
 for _ in[0:a.size+b.size]do
  let mut ac:=0;let mut bc:=0
  for _ in[0:a.size+b.size]do
   let y ←elem' b ib;let x ←elem' a ia
   let some won ←lt' y x|return out++a.extract ia a.size++b.extract ib b.size
   if won then
    let y ←elem' b ib;out:=out.push y;ib:=ib+1;bc:=bc+1;ac:=0
    if ib==b.size then return out++a.extract ia a.size++b.extract ib b.size
    if bc>=mg then break
   else
    let x ←elem' a ia;out:=out.push x;ia:=ia+1;ac:=ac+1;bc:=0
    if ia+1==a.size then return out++b.extract ib b.size++a.extract ia a.size
    if ac>=mg then break
  liftM (rule "list.sort.gallop");mg:=mg+1
  for _ in[0:a.size+b.size]do
   if mg>1 then mg:=mg-1
   iJ mg;let y ←elem' b ib
   let some k ←dG false y a ia (a.size-ia) 0|return out++a.extract ia a.size++b.extract ib b.size
   ac:=k
   if k>0 then
    out:=out++a.extract ia (ia+k);ia:=ia+k
    if ia+1==a.size then return out++b.extract ib b.size++a.extract ia a.size
    if ia==a.size then return out++a.extract ia a.size++b.extract ib b.size
   let y ←elem' b ib;out:=out.push y;ib:=ib+1
   if ib==b.size then return out++a.extract ia a.size++b.extract ib b.size
   let x ←elem' a ia
   let some k ←dG true x b ib (b.size-ib) 0|return out++a.extract ia a.size++b.extract ib b.size
   bc:=k
   if k>0 then
    out:=out++b.extract ib (ib+k);ib:=ib+k
    if ib==b.size then return out++a.extract ia a.size++b.extract ib b.size
   let x ←elem' a ia;out:=out.push x;ia:=ia+1
   if ia+1==a.size then return out++b.extract ib b.size++a.extract ia a.size
   if ac<7&&bc<7 then break
  mg:=mg+1;iJ mg
 unsupported "internal:list.sort.merge-bound"):=rfl
theorem BX(a b:Array Keyed):zHi a b=(do
 liftM (rule "list.sort.merge-hi");let mut na:=a.size-1;let mut nb:=b.size;let e0 ←elem' a na;let mut out:Array Keyed:=#[e0]
 if na==0 then return a.extract 0 na++b.extract 0 nb++out.reverse
 if nb==1 then return b.extract 0 nb++a.extract 0 na++out.reverse
 let mut mg:=gallopOf (←get)
 for _ in[0:a.size+b.size]do
  let mut ac:=0;let mut bc:=0
  for _ in[0:a.size+b.size]do
   let y ←elem' b (nb-1);let x ←elem' a (na-1)
   let some won ←lt' y x|return a.extract 0 na++b.extract 0 nb++out.reverse
   if won then
    na:=na-1;let x ←elem' a na;out:=out.push x;ac:=ac+1;bc:=0
    if na==0 then return a.extract 0 na++b.extract 0 nb++out.reverse
    if ac>=mg then break
   else
    nb:=nb-1;let y ←elem' b nb;out:=out.push y;bc:=bc+1;ac:=0
    if nb==1 then return b.extract 0 nb++a.extract 0 na++out.reverse
    if bc>=mg then break
  liftM (rule "list.sort.gallop");mg:=mg+1
  for _ in[0:a.size+b.size]do
   if mg>1 then mg:=mg-1
   iJ mg;let y ←elem' b (nb-1)
   let some k ←dG false y a 0 na (na-1)|return a.extract 0 na++b.extract 0 nb++out.reverse
   ac:=na-k
   if na-k>0 then
    out:=out++(a.extract k na).reverse;na:=k
    if na==0 then return a.extract 0 na++b.extract 0 nb++out.reverse
   nb:=nb-1;let y ←elem' b nb;out:=out.push y
   if nb==1 then return b.extract 0 nb++a.extract 0 na++out.reverse
   let x ←elem' a (na-1)
   let some k ←dG true x b 0 nb (nb-1)|return a.extract 0 na++b.extract 0 nb++out.reverse
   bc:=nb-k
   if nb-k>0 then
    out:=out++(b.extract k nb).reverse;nb:=k
    if nb==1 then return b.extract 0 nb++a.extract 0 na++out.reverse
    if nb==0 then return a.extract 0 na++b.extract 0 nb++out.reverse
   na:=na-1;let x ←elem' a na;out:=out.push x
   if na==0 then return a.extract 0 na++b.extract 0 nb++out.reverse
   if ac<7&&bc<7 then break
  mg:=mg+1;iJ mg
 unsupported "internal:list.sort.merge-bound"):=rfl
def jK(ar:Array Keyed)(at0:Nat)(xs:Array Keyed):Array Keyed:=xs.toList.zipIdx.foldl (fun a (p,j)=>a.setIfInBounds (at0+j) p) ar
theorem BW(i:Nat):mergeAt' i=(do
 let st ←get
 let(some (sa,na,pw),some (sb,nb,_)):=((pendingOf st)[i]?,(pendingOf st)[i+1]?)|unsupported "internal:list.sort.pending"
 set (setPending st (((pendingOf st).setIfInBounds i (sa,na+nb,pw)).eraseIdxIfInBounds (i+1)))
 let y ←elem' (arrOf st) sb
 let some k ←dG false y (arrOf st) sa na 0|return false
 if na-k==0 then return true
 let x ←elem' (arrOf st) (sa+k+(na-k)-1)
 let some nc ←dG true x (arrOf st) sb nb (nb-1)|return false
 if nc==0 then return true
 let mer ←if na-k<=nc then zLo ((arrOf st).extract (sa+k) sb) ((arrOf st).extract sb (sb+nc))else zHi ((arrOf st).extract (sa+k) sb) ((arrOf st).extract sb (sb+nc))
 modify fun st=>setArr st (jK (arrOf st) (sa+k) mer)
 return (failedOf (←get)).isNone):=rfl
open PySem PyProof.Rows PySem.W
section
variable{prog:Program}{w:World}{A:Around}{E:Value->Shared->Prop}{s:Shared}{κ:SortKind}{it:Array Keyed}{lt:Nat->Nat->Bool}{N:Nat}{st:SortSt}
def Zc(prog:Program)(w:World)(A:Around)(s:Shared)(κ:SortKind)(it:Array Keyed)(lt:Nat->Nat->Bool)(N:Nat):Prop :=
 ∀i j (C:Bool->Shared->Prop),i<N->j<N->C (lt i j) s->kas_cmp prog w A κ it i j C s
theorem pG(Z:Zc prog w A s κ it lt N){i j:Nat}{Q:Option Bool->SortSt->Prop}(hk:kindOf st=κ)(hi:i<N)(hj:j<N)(h:Q (some (lt i j)) st):wpS (model prog w) A E s (lt' (kas_item it i) (kas_item it j)) Q st:=by rw[lt'_eq];refine Zg (wpS_get ?_);rw[hk];refine Zg (wpS_lift (wpAny_attempt (ZQ (Z i j (fun c s'=>c=lt i j/\s'=s) hi hj ⟨rfl,rfl⟩) (fun c s' hc=>?_) fun _ _ hF=>hF.elim)));obtain⟨rfl,rfl⟩:=hc;exact⟨rfl,Zl h⟩
theorem BZ{q:Array Nat}{i:Nat}(hi:i<q.size):elem' (q.map (kas_item it)) i=pure (kas_item it (gA q i)):=by
 rw[elem'_eq];have e:(q.map (kas_item it))[i]?=some (kas_item it (gA q i)):=by
  rw[Array.getElem?_map];have e1:gA q i=q[i]:=by unfold gA;simp[Array.getD,hi]
  rw[e1];simp[hi]
 rw[e]
def zB(lt:Nat->Nat->Bool)(le:Bool)(k x:Nat):Bool:=if le=true then lt x k else !lt k x
theorem CI(Z:Zc prog w A s κ it lt N){le:Bool}{k ba i:Nat}{q:Array Nat}{Q:Option Bool->SortSt->Prop}(hk:kindOf st=κ)(hK:k<N)(hi:ba+i<q.size)(hq:gA q (ba+i)<N)(h:Q (some (zB lt le k (gA q (ba+i)))) st) :
  wpS (model prog w) A E s (iI le (kas_item it k) (q.map (kas_item it)) ba i) Q st:=by
 unfold iI;rw[BZ hi];refine Zg (Zl ?_);cases le with
 |true =>simp only[if_true];exact pG Z hk hq hK h
 |false =>simp only[YL,if_false];exact Zg (pG Z hk hK hq (Zl h))
theorem B0{le:Bool}{ky:Keyed}{ar:Array Keyed}{ba n at0:Nat}{B:Nat->Bool}{Q:Option Nat->SortSt->Prop}(hb:∀i (Q:Option Bool->SortSt->Prop),i<n->Q (some (B i)) st->wpS (model prog w) A E s (iI le ky ar ba i) Q st)(h0:at0<n)(mono:∀i j,i<=j->j<n->B j=true->B i=true)(h:∀m,m<=n->(∀i,i<m->B i=true)->(∀i,m<=i->i<n->B i=false)->Q (some m) st):wpS (model prog w) A E s (dG le ky ar ba n at0) Q st:=by
 have fin:∀ lo hi,lo<=hi->hi<=n->(∀ i,i<lo->B i=true)->(∀ i,hi<=i->i<n->B i=false)->wpS (model prog w) A E s (do
   let mut lo:=lo;let mut hi:=hi
   for _ in[0:n]do
    if lo>=hi then break
    let some mo ←iI le ky ar ba (lo+(hi-lo) / 2)|return none
    if mo then lo:=lo+(hi-lo) / 2+1 else hi:=lo+(hi-lo) / 2
   return some hi) Q st:=fun lo hi h1 h2 h3 h4=>by
  refine Zg (y6 (Z8 (I:=fun x c st'=>st'=st/\∃ lo hi,c=(none,lo,hi)/\lo<=hi/\hi<=n/\hi - lo<=n - x/\(∀ i,i<lo->B i=true)/\(∀ i,hi<=i->i<n->B i=false))
   (Q:=fun c st'=>st'=st/\∃ hi,c=(none,hi,hi)/\hi<=n/\(∀ i,i<hi->B i=true)/\(∀ i,hi<=i->i<n->B i=false)) ?step ?fin ⟨rfl,lo,hi,rfl,h1,h2,by omega,h3,h4⟩) ?post)
  case fin =>
   rintro c st' ⟨rfl,lo,hi,rfl,g1,g2,g3,g4,g5⟩;have e:lo=hi:=by omega
   subst e;exact⟨rfl,lo,rfl,g2,g4,g5⟩
  case post =>rintro c st' ⟨rfl,hi,rfl,g2,g4,g5⟩;exact Zl (h hi g2 g4 g5)
  case step =>
   rintro x c st' _ hx ⟨rfl,lo,hi,rfl,g1,g2,g3,g4,g5⟩;dsimp only;by_cases hge:lo>=hi
   ·rw[if_pos hge];have e:lo=hi:=by omega
    subst e;exact Zl ⟨rfl,lo,rfl,g2,g4,g5⟩
   ·rw[if_neg hge];refine Zg (hb _ _ (by omega) ?_);dsimp only;cases e:B (lo+(hi-lo) / 2)with
    |true =>rw[if_pos rfl];exact Zl ⟨rfl,_,_,rfl,by omega,g2,by omega,fun i hi'=>mono i (lo+(hi-lo) / 2) (by omega) (by omega) e,g5⟩
    |false =>
     rw[if_neg (by simp)];refine Zl ⟨rfl,_,_,rfl,by omega,by omega,by omega,g4,fun i hi1 hi2=>?_⟩;cases e':B i with
     |false=>rfl
     |true=>rw[mono _ i hi1 hi2 e']at e;cases e
 rw[zE];refine Zg (hb at0 _ h0 ?_);dsimp only;cases e:B at0 with
 |true =>
  simp only[if_true];refine Zg (y6 (Z8 (I:=fun x c st'=>st'=st/\∃ las ofs,c=(none,las,ofs)/\las<ofs/\x+1<=ofs/\las<n - at0/\B (at0+las)=true)
   (Q:=fun c st'=>st'=st/\∃ las ofs,c=(none,las,ofs)/\las<ofs/\las<n - at0/\B (at0+las)=true/\(ofs>=n - at0\/B (at0+ofs)=false)) ?step ?fin ⟨rfl,0,1,rfl,by omega,by omega,by omega,e⟩) ?post)
  case fin =>rintro c st' ⟨rfl,las,ofs,rfl,g1,g2,g3,g4⟩;exact⟨rfl,las,ofs,rfl,g1,g3,g4,.inl (by omega)⟩
  case post =>
   rintro c st' ⟨rfl,las,ofs,rfl,g1,g2,g3,g4⟩;refine fin (at0+las+1) (at0+min ofs (n-at0)) (by omega) (by omega) (fun i hi'=>mono i (at0+las) (by omega) (by omega) g3) fun i hi1 hi2=>?_;rcases g4 with g4|g4
   ·omega
   ·cases e':B i with
    |false=>rfl
    |true=>rw[mono _ i (by omega) hi2 e']at g4;cases g4
  case step =>
   rintro x c st' _ hx ⟨rfl,las,ofs,rfl,g1,g2,g3,g4⟩;dsimp only;by_cases hge:ofs>=n-at0
   ·rw[if_pos hge];exact Zl ⟨rfl,las,ofs,rfl,g1,g3,g4,.inl hge⟩
   ·rw[if_neg hge];refine Zg (hb _ _ (by omega) ?_);dsimp only;cases e:B (at0+ofs)with
    |true =>rw[if_neg (by simp)];exact Zl ⟨rfl,ofs,_,rfl,by omega,by omega,by omega,e⟩
    |false =>rw[if_pos (by simp)];exact Zl ⟨rfl,las,ofs,rfl,g1,g3,g4,.inr e⟩
 |false =>
  simp only[YL,if_false];refine Zg (y6 (Z8 (I:=fun x c st'=>st'=st/\∃ las ofs,c=(none,las,ofs)/\las<ofs/\x+1<=ofs/\las<=at0/\B (at0 - las)=false)
   (Q:=fun c st'=>st'=st/\∃ las ofs,c=(none,las,ofs)/\las<ofs/\las<=at0/\B (at0 - las)=false/\(ofs>=at0+1\/B (at0 - ofs)=true)) ?step ?fin ⟨rfl,0,1,rfl,by omega,by omega,by omega,e⟩) ?post)
  case fin =>rintro c st' ⟨rfl,las,ofs,rfl,g1,g2,g3,g4⟩;exact⟨rfl,las,ofs,rfl,g1,g3,g4,.inl (by omega)⟩
  case post =>
   rintro c st' ⟨rfl,las,ofs,rfl,g1,g2,g3,g4⟩;refine fin (at0+1-min ofs (at0+1)) (at0-las) (by omega) (by omega) (fun i hi'=>?_) fun i hi1 hi2=>?_
   ·rcases g4 with g4|g4
    ·omega
    ·exact mono i (at0-ofs) (by omega) (by omega) g4
   ·cases e':B i with
    |false=>rfl
    |true=>rw[mono _ i hi1 hi2 e']at g3;cases g3
  case step =>
   rintro x c st' _ hx ⟨rfl,las,ofs,rfl,g1,g2,g3,g4⟩;dsimp only;by_cases hge:ofs>=at0+1
   ·rw[if_pos hge];exact Zl ⟨rfl,las,ofs,rfl,g1,g3,g4,.inl hge⟩
   ·rw[if_neg hge];refine Zg (hb _ _ (by omega) ?_);dsimp only;cases e:B (at0-ofs)with
    |true =>rw[if_pos rfl];exact Zl ⟨rfl,las,ofs,rfl,g1,g3,g4,.inr e⟩
    |false =>rw[if_neg (by simp)];exact Zl ⟨rfl,ofs,_,rfl,by omega,by omega,by omega,e⟩
theorem iZ(Z:Zc prog w A s κ it lt N){le:Bool}{k ba n at0:Nat}{q:Array Nat}{Q:Option Nat->SortSt->Prop}(hk:kindOf st=κ)(hK:k<N)(hz:ba+n<=q.size)(hq:∀i,ba<=i->i<ba+n->gA q i<N)(h0:at0<n)(mono:∀i j,i<=j->j<n->zB lt le k (gA q (ba+j))=true->zB lt le k (gA q (ba+i))=true)(h:∀m,m<=n->(∀i,i<m->zB lt le k (gA q (ba+i))=true)->(∀i,m<=i->i<n->zB lt le k (gA q (ba+i))=false)->Q (some m) st):wpS (model prog w) A E s (dG le (kas_item it k) (q.map (kas_item it)) ba n at0) Q st :=
 B0 (B:=fun i=>zB lt le k (gA q (ba+i))) (fun i _ hi hQ=>CI Z hk hK (by omega) (hq _ (by omega) (by omega)) hQ) h0 mono h
end
open PySem PyProof.Rows PySem.W
section
variable{lt:Nat->Nat->Bool}
theorem aA(p:Array Nat)(k:Nat):gA p k=p.toList.getD k 0:=by unfold gA;rw[Yh,Zd,YD]
theorem iR{l:List Nat}{i x:Nat}(h:x∈l.drop i):∃j,i<=j/\j<l.length/\l.getD j 0=x:=by obtain⟨n,hn,e⟩:=List.mem_iff_getElem.mp h;rw[Yj]at hn;refine⟨i+n,by omega,by omega,?_⟩;rw[List.getElem_drop]at e;rw[Zd,Zb (by omega)];exact e
theorem iS{l:List Nat}{i x:Nat}(h:x∈l.take i):∃j,j<i/\j<l.length/\l.getD j 0=x:=by obtain⟨n,hn,e⟩:=List.mem_iff_getElem.mp h;rw[ZN]at hn;refine⟨n,by omega,by omega,?_⟩;rw[List.getElem_take]at e;rw[Zd,Zb (by omega)];exact e
theorem tL{l:List Nat}{i k x:Nat}(h:x∈(l.drop i).take k):∃j,i<=j/\j<i+k/\j<l.length/\l.getD j 0=x:=by obtain⟨j,h1,h2,e⟩:=iS h;rw[Yj]at h2;refine⟨i+j,by omega,by omega,by omega,?_⟩;rw[<-e,Zd,Zd,List.getElem?_drop]
def Mg(lt:Nat->Nat->Bool)(T o A B:List Nat):Prop:=∀r:List Nat,r.Perm (A++B)->r.Pairwise (Lx lt)->(o++r).Pairwise (Lx lt)/\(o++r).Perm T
def Mh(lt:Nat->Nat->Bool)(T o A B:List Nat):Prop:=∀r:List Nat,r.Perm (A++B)->r.Pairwise (Lx lt)->(r++o).Pairwise (Lx lt)/\(r++o).Perm T
theorem Mg.step{T o A B c A' B':List Nat}(h:Mg lt T o A B)(hp:(c++(A'++B')).Perm (A++B))(hc:c.Pairwise (Lx lt))(hx:∀x∈c,∀y∈A'++B',Lx lt x y):Mg lt T (o++c) A' B':=fun r hr hs=>by rw[ZE];exact h (c++r) ((hr.append_left c).trans hp) (ZL.mpr ⟨hc,hs,fun x hx' y hy=>hx x hx' y (hr.mem_iff.mp hy)⟩)
theorem Mh.step{T o A B c A' B':List Nat}(h:Mh lt T o A B)(hp:((A'++B')++c).Perm (A++B))(hc:c.Pairwise (Lx lt))(hx:∀y∈A'++B',∀x∈c,Lx lt y x):Mh lt T (c++o) A' B':=fun r hr hs=>by rw[<-ZE];exact h (r++c) ((hr.append_right c).trans hp) (ZL.mpr ⟨hs,hc,fun y hy x hx'=>hx y (hr.mem_iff.mp hy) x hx'⟩)
structure MF(lt:Nat->Nat->Bool)(N:Nat)(a b:Array Nat):Prop where
 sa:∀i j,i<j->j<a.size->Lx lt (gA a i) (gA a j)
 sb:∀i j,i<j->j<b.size->Lx lt (gA b i) (gA b j)
 cr:∀i j,i<a.size->j<b.size->lt (gA b j) (gA a i)=false->Lx lt (gA a i) (gA b j)
 na:∀i,i<a.size->gA a i<N
 nb:∀i,i<b.size->gA b i<N
 a0:0<a.size
 b0:0<b.size
 fst:lt (gA b 0) (gA a 0)=true
 lst:∀j,j<b.size->lt (gA b j) (gA a (a.size-1))=true
theorem cO{p:Array Nat}(h:∀i j,i<j->j<p.size->Lx lt (gA p i) (gA p j)):p.toList.Pairwise (Lx lt):=by rw[y8];intro i j hi hj hij;have:=h i j hij (by simpa using hj);rw[aA,aA,Zd,Zd,Zb hi,Zb hj]at this;exact this
theorem rY{p:Array Nat}(h:p.toList.Pairwise (Lx lt)):∀i j,i<j->j<p.size->Lx lt (gA p i) (gA p j):=fun i j hij hj=>by
 rw[y8]at h;have hj':j<p.toList.length:=by simpa using hj
 have:=h i j (by omega) hj' hij;rw[aA,aA,Zd,Zd,Zb (show i<p.toList.length by omega),Zb hj'];exact this
variable{N:Nat}{a b:Array Nat}{f:Nat->Keyed}
theorem MF.leA(h:MF lt N a b)(O:LtOk lt){i j:Nat}(hij:i<=j)(hj:j<a.size){x:Nat}(hx:lt x (gA a i)=true):lt x (gA a j)=true:=by
 rcases Yd i j with h1|h1
 ·exact O.lt_le hx (h.sa i j h1 hj).1
 ·have e:i=j:=by omega
  rw[<-e];exact hx
theorem MF.leB(h:MF lt N a b)(O:LtOk lt){i j:Nat}(hij:i<=j)(hj:j<b.size){x:Nat}(hx:lt (gA b j) x=true):lt (gA b i) x=true:=by
 rcases Yd i j with h1|h1
 ·exact O.le_lt (h.sb i j h1 hj).1 hx
 ·have e:i=j:=by omega
  rw[e];exact hx
def Gd(lt:Nat->Nat->Bool)(f:Nat->Keyed)(a b:Array Nat)(r:Array Keyed):Prop:=∃q:Array Nat,r=q.map f/\q.toList.Pairwise (Lx lt)/\q.toList.Perm (a.toList++b.toList)
def LoM(lt:Nat->Nat->Bool)(f:Nat->Keyed)(a b:Array Nat)(out:Array Keyed)(ia ib:Nat):Prop:=∃o:Array Nat,out=o.map f/\Mg lt (a.toList++b.toList) o.toList (a.toList.drop ia) (b.toList.drop ib)
def HiM(lt:Nat->Nat->Bool)(f:Nat->Keyed)(a b:Array Nat)(out:Array Keyed)(na nb:Nat):Prop:=∃o:Array Nat,out=o.map f/\Mh lt (a.toList++b.toList) o.toList.reverse (a.toList.take na) (b.toList.take nb)
theorem bq(p:Array Nat)(i j:Nat):(p.map f).extract i j=(p.extract i j).map f:=by apply Array.toList_inj.mp;simp
theorem gq(p:Array Nat)(i k:Nat):(p.extract i (i+k)).toList=(p.toList.drop i).take k:=by rw[Array.toList_extract,List.extract_eq_take_drop,Z2]
theorem gj(p:Array Nat)(i:Nat):(p.extract i p.size).toList=p.toList.drop i:=by rw[Array.toList_extract,List.extract_eq_take_drop];exact ZJ (by simp)
theorem gv(p:Array Nat)(i:Nat):(p.extract 0 i).toList=p.toList.take i:=by rw[Array.toList_extract,List.extract_eq_take_drop,List.drop_zero,Nat.sub_zero]
theorem LoM.chunkA(M:MF lt N a b)(O:LtOk lt){out:Array Keyed}{ia ib:Nat}(h:LoM lt f a b out ia ib)(k:Nat)(hk:ia+k<=a.size)(hb:ib<b.size)(hw:∀i,i<k->lt (gA b ib) (gA a (ia+i))=false):LoM lt f a b (out++(a.map f).extract ia (ia+k)) (ia+k) ib:=by
 obtain⟨o,rfl,h⟩:=h;refine⟨o++a.extract ia (ia+k),by rw[bq,y7],?_⟩;rw[ZD,gq];have e:a.toList.drop ia=(a.toList.drop ia).take k++a.toList.drop (ia+k):=by rw[<-List.drop_drop,ZX]
 have pa:(a.toList.drop ia).Pairwise (Lx lt):=(cO M.sa).sublist (Ym _ _);refine h.step ?_ (pa.sublist (Ya _ _)) fun x hx y hy=>?_
 ·rw[<-ZE,<-e]
 ·rcases ZA.mp hy with hy|hy
  ·rw[e]at pa;exact(ZL.mp pa).2.2 x hx y hy
  ·obtain⟨i,h1,h2,h3,rfl⟩:=tL hx;obtain⟨j,g1,g2,rfl⟩:=iR hy;have h3':i<a.size:=by simpa using h3
   have g2':j<b.size:=by simpa using g2
   rw[<-aA,<-aA];have w:=hw (i-ia) (by omega);rw[show ia+(i-ia)=i by omega]at w;refine M.cr i j h3' g2' ?_;cases e':lt (gA b j) (gA a i)with
   |false=>rfl
   |true=>rw[M.leB O g1 g2' e']at w;cases w
theorem LoM.chunkB(M:MF lt N a b)(O:LtOk lt){out:Array Keyed}{ia ib:Nat}(h:LoM lt f a b out ia ib)(k:Nat)(hk:ib+k<=b.size)(hb:ia<a.size)(hw:∀i,i<k->lt (gA b (ib+i)) (gA a ia)=true):LoM lt f a b (out++(b.map f).extract ib (ib+k)) ia (ib+k):=by
 obtain⟨o,rfl,h⟩:=h;refine⟨o++b.extract ib (ib+k),by rw[bq,y7],?_⟩;rw[ZD,gq];have e:b.toList.drop ib=(b.toList.drop ib).take k++b.toList.drop (ib+k):=by rw[<-List.drop_drop,ZX]
 have pb:(b.toList.drop ib).Pairwise (Lx lt):=(cO M.sb).sublist (Ym _ _);refine h.step ?_ (pb.sublist (Ya _ _)) fun x hx y hy=>?_
 ·refine(List.perm_append_comm_assoc _ _ _).trans ?_;rw[<-e]
 ·rcases ZA.mp hy with hy|hy
  ·obtain⟨i,h1,h2,h3,rfl⟩:=tL hx;obtain⟨j,g1,g2,rfl⟩:=iR hy;have g2':j<a.size:=by simpa using g2
   rw[<-aA,<-aA];have w:=hw (i-ib) (by omega);rw[show ib+(i-ib)=i by omega]at w;exact Lx.of_lt O (M.leA O g1 g2' w)
  ·rw[e]at pb;exact(ZL.mp pb).2.2 x hx y hy
theorem jE{out:Array Keyed}{p:Array Nat}{i:Nat}(hi:i<p.size):out.push (f (gA p i))=out++(p.map f).extract i (i+1):=by
 apply Array.toList_inj.mp;rw[Array.toList_push,ZD,bq,Array.toList_map,gq];have hi':i<p.toList.length:=by simpa using hi
 have e:(p.toList.drop i).take 1=[gA p i]:=by rw[List.drop_eq_getElem_cons hi',aA,Zd,Zb hi'];rfl
 rw[e];rfl
theorem LoM.pushA(M:MF lt N a b)(O:LtOk lt){out:Array Keyed}{ia ib:Nat}(h:LoM lt f a b out ia ib)(ha:ia<a.size)(hb:ib<b.size)(hw:lt (gA b ib) (gA a ia)=false):LoM lt f a b (out.push (f (gA a ia))) (ia+1) ib:=by rw[jE ha];refine h.chunkA M O 1 (by omega) hb fun i hi=>?_;rw[show ia+i=ia by omega];exact hw
theorem LoM.pushB(M:MF lt N a b)(O:LtOk lt){out:Array Keyed}{ia ib:Nat}(h:LoM lt f a b out ia ib)(ha:ia<a.size)(hb:ib<b.size)(hw:lt (gA b ib) (gA a ia)=true):LoM lt f a b (out.push (f (gA b ib))) ia (ib+1):=by rw[jE hb];refine h.chunkB M O 1 (by omega) ha fun i hi=>?_;rw[show ib+i=ib by omega];exact hw
theorem LoM.done(M:MF lt N a b){out:Array Keyed}{ia ib:Nat}(h:LoM lt f a b out ia ib)(he:ia=a.size\/ib=b.size):Gd lt f a b (out++(a.map f).extract ia a.size++(b.map f).extract ib b.size):=by
 obtain⟨o,rfl,h⟩:=h;have pa:(a.toList.drop ia).Pairwise (Lx lt):=(cO M.sa).sublist (Ym _ _);have pb:(b.toList.drop ib).Pairwise (Lx lt):=(cO M.sb).sublist (Ym _ _);refine⟨o++a.extract ia a.size++b.extract ib b.size,by rw[bq,bq,y7,y7],?_⟩;rw[ZD,ZD,gj,gj,ZE];refine h _ (List.Perm.refl _) ?_;rcases he with rfl|rfl
 ·rw[YK (by simp),YN];exact pb
 ·rw[YK (l:=b.toList) (by simp),Z3];exact pa
theorem LoM.last(M:MF lt N a b)(O:LtOk lt){out:Array Keyed}{ia ib:Nat}(h:LoM lt f a b out ia ib)(he:ia+1=a.size):Gd lt f a b (out++(b.map f).extract ib b.size++(a.map f).extract ia a.size):=by
 obtain⟨o,rfl,h⟩:=h;have pa:(a.toList.drop ia).Pairwise (Lx lt):=(cO M.sa).sublist (Ym _ _);have pb:(b.toList.drop ib).Pairwise (Lx lt):=(cO M.sb).sublist (Ym _ _);refine⟨o++b.extract ib b.size++a.extract ia a.size,by rw[bq,bq,y7,y7],?_⟩;rw[ZD,ZD,gj,gj,ZE];refine h _ List.perm_append_comm (ZL.mpr ⟨pb,pa,fun x hx y hy=>?_⟩);obtain⟨i,h1,h3,rfl⟩:=iR hx;obtain⟨j,g1,g2,rfl⟩:=iR hy;have g2':j<a.size:=by simpa using g2
 rw[<-aA,<-aA];have w:=M.lst i (by simpa using h3);rw[show j=a.size-1 by omega];exact Lx.of_lt O w
theorem LoM.start(M:MF lt N a b)(O:LtOk lt):LoM lt f a b #[f (gA b 0)] 0 1:=by
 have h:LoM lt f a b #[] 0 0:=⟨#[],by simp,fun r hr hs=>⟨hs,hr⟩⟩
 exact h.pushB M O M.a0 M.b0 M.fst
theorem qE{out:Array Keyed}(p:Array Nat)(i j:Nat)(o:Array Nat)(e:out=o.map f):out++((p.map f).extract i j).reverse=(o++(p.extract i j).reverse).map f:=by rw[e,bq,y7,Array.map_reverse]
theorem lh(p:Array Nat)(i j:Nat):(p.extract i j).toList=(p.toList.take j).drop i:=by rw[Array.toList_extract,List.extract_eq_take_drop,List.drop_take]
theorem tM{l:List Nat}{i j x:Nat}(h:x∈(l.take j).drop i):∃k,i<=k/\k<j/\k<l.length/\l.getD k 0=x:=by obtain⟨k,h1,h2,e⟩:=iR h;rw[ZN]at h2;refine⟨k,h1,by omega,by omega,?_⟩;rw[<-e,Zd,Zd,List.getElem?_take,if_pos (by omega)]
theorem HiM.chunkA(M:MF lt N a b)(O:LtOk lt){out:Array Keyed}{na nb:Nat}(h:HiM lt f a b out na nb)(k:Nat)(hk:k<=na)(ha:na<=a.size)(hb1:0<nb)(hb:nb<=b.size)(hw:∀i,k<=i->i<na->lt (gA b (nb-1)) (gA a i)=true):HiM lt f a b (out++((a.map f).extract k na).reverse) k nb:=by
 obtain⟨o,e0,h⟩:=h;refine⟨o++(a.extract k na).reverse,qE a k na o e0,?_⟩;rw[ZD,Array.toList_reverse,List.reverse_append,List.reverse_reverse,lh];have e:a.toList.take na=a.toList.take k++(a.toList.take na).drop k:=by have:=ZX k (a.toList.take na);rw[List.take_take,Nat.min_eq_left hk]at this;exact this.symm
 have pa:(a.toList.take na).Pairwise (Lx lt):=(cO M.sa).sublist (Ya _ _);refine h.step ?_ (pa.sublist (Ym _ _)) fun y hy x hx=>?_
 ·rw[ZE];refine(List.perm_append_comm.append_left _).trans ?_;rw[<-ZE,<-e]
 ·rcases ZA.mp hy with hy|hy
  ·rw[e]at pa;exact(ZL.mp pa).2.2 y hy x hx
  ·obtain⟨i,h1,h2,h3,rfl⟩:=tM hx;obtain⟨j,g1,g2,rfl⟩:=iS hy;rw[<-aA,<-aA];exact Lx.of_lt O (M.leB O (show j<=nb-1 by omega) (by omega) (hw i h1 h2))
theorem HiM.chunkB(M:MF lt N a b)(O:LtOk lt){out:Array Keyed}{na nb:Nat}(h:HiM lt f a b out na nb)(k:Nat)(hk:k<=nb)(ha:na<=a.size)(ha1:0<na)(hb:nb<=b.size)(hw:∀i,k<=i->i<nb->lt (gA b i) (gA a (na-1))=false):HiM lt f a b (out++((b.map f).extract k nb).reverse) na k:=by
 obtain⟨o,e0,h⟩:=h;refine⟨o++(b.extract k nb).reverse,qE b k nb o e0,?_⟩;rw[ZD,Array.toList_reverse,List.reverse_append,List.reverse_reverse,lh];have e:b.toList.take nb=b.toList.take k++(b.toList.take nb).drop k:=by have:=ZX k (b.toList.take nb);rw[List.take_take,Nat.min_eq_left hk]at this;exact this.symm
 have pb:(b.toList.take nb).Pairwise (Lx lt):=(cO M.sb).sublist (Ya _ _);refine h.step ?_ (pb.sublist (Ym _ _)) fun y hy x hx=>?_
 ·rw[ZE,<-e]
 ·rcases ZA.mp hy with hy|hy
  ·obtain⟨i,h1,h2,h3,rfl⟩:=tM hx;obtain⟨j,g1,g2,rfl⟩:=iS hy;have h3':i<b.size:=by simpa using h3
   have g2':j<a.size:=by simpa using g2
   rw[<-aA,<-aA];have w:=hw i h1 h2;refine M.cr j i g2' h3' ?_;cases e':lt (gA b i) (gA a j)with
   |false=>rfl
   |true=>rw[M.leA O (show j<=na-1 by omega) (by omega) e']at w;cases w
  ·rw[e]at pb;exact(ZL.mp pb).2.2 y hy x hx
theorem oS{out:Array Keyed}{p:Array Nat}{i:Nat}(hi:i<p.size):out.push (f (gA p i))=out++((p.map f).extract i (i+1)).reverse:=by
 have e:=jE (f:=f) (out:=#[]) hi;have e2:(p.map f).extract i (i+1)=#[f (gA p i)]:=by rw[<-Array.empty_append (xs:=(p.map f).extract i (i+1)),<-e];rfl
 rw[e2];rfl
theorem HiM.pushA(M:MF lt N a b)(O:LtOk lt){out:Array Keyed}{na nb:Nat}(h:HiM lt f a b out na nb)(ha1:0<na)(ha:na<=a.size)(hb1:0<nb)(hb:nb<=b.size)(hw:lt (gA b (nb-1)) (gA a (na-1))=true):HiM lt f a b (out.push (f (gA a (na-1)))) (na-1) nb:=by rw[oS (show na-1<a.size by omega),Nat.sub_add_cancel ha1];refine h.chunkA M O (na-1) (by omega) ha hb1 hb fun i h1 h2=>?_;rw[show i=na-1 by omega];exact hw
theorem HiM.pushB(M:MF lt N a b)(O:LtOk lt){out:Array Keyed}{na nb:Nat}(h:HiM lt f a b out na nb)(ha1:0<na)(ha:na<=a.size)(hb1:0<nb)(hb:nb<=b.size)(hw:lt (gA b (nb-1)) (gA a (na-1))=false):HiM lt f a b (out.push (f (gA b (nb-1)))) na (nb-1):=by rw[oS (show nb-1<b.size by omega),Nat.sub_add_cancel hb1];refine h.chunkB M O (nb-1) (by omega) ha ha1 hb fun i h1 h2=>?_;rw[show i=nb-1 by omega];exact hw
theorem HiM.done(M:MF lt N a b){out:Array Keyed}{na nb:Nat}(h:HiM lt f a b out na nb)(he:na=0\/nb=0):Gd lt f a b ((a.map f).extract 0 na++(b.map f).extract 0 nb++out.reverse):=by
 obtain⟨o,rfl,h⟩:=h;have pa:(a.toList.take na).Pairwise (Lx lt):=(cO M.sa).sublist (Ya _ _);have pb:(b.toList.take nb).Pairwise (Lx lt):=(cO M.sb).sublist (Ya _ _);refine⟨a.extract 0 na++b.extract 0 nb++o.reverse,by rw[bq,bq,y7,y7,Array.map_reverse],?_⟩;rw[ZD,ZD,gv,gv,Array.toList_reverse];refine h _ (List.Perm.refl _) ?_;rcases he with rfl|rfl
 ·exact pb
 ·rw[List.take_zero,Z3];exact pa
theorem HiM.first(M:MF lt N a b)(O:LtOk lt){out:Array Keyed}{na nb:Nat}(h:HiM lt f a b out na nb)(he:nb=1):Gd lt f a b ((b.map f).extract 0 nb++(a.map f).extract 0 na++out.reverse):=by
 obtain⟨o,rfl,h⟩:=h;have pa:(a.toList.take na).Pairwise (Lx lt):=(cO M.sa).sublist (Ya _ _);have pb:(b.toList.take nb).Pairwise (Lx lt):=(cO M.sb).sublist (Ya _ _);refine⟨b.extract 0 nb++a.extract 0 na++o.reverse,by rw[bq,bq,y7,y7,Array.map_reverse],?_⟩;rw[ZD,ZD,gv,gv,Array.toList_reverse];refine h _ List.perm_append_comm (ZL.mpr ⟨pb,pa,fun x hx y hy=>?_⟩);obtain⟨i,h1,h3,rfl⟩:=iS hx;obtain⟨j,g1,g2,rfl⟩:=iS hy;have g2':j<a.size:=by simpa using g2
 rw[<-aA,<-aA,show i=0 by omega];exact Lx.of_lt O (M.leA O (ZO _) g2' M.fst)
theorem HiM.start(M:MF lt N a b)(O:LtOk lt):HiM lt f a b #[f (gA a (a.size-1))] (a.size-1) b.size:=by
 have h:HiM lt f a b #[] a.size b.size:=⟨#[],by simp,fun r hr hs=>by
  rw[ZJ (by simp),ZJ (by simp)]at hr;have e:(#[]:Array Nat).toList.reverse=[]:=rfl;rw[e,Z3];exact⟨hs,hr⟩⟩
 exact h.pushA M O M.a0 (Ze _) M.b0 (Ze _) (M.lst _ (by have:=M.b0;omega))
end
open PySem PyProof.Rows PySem.W
abbrev LoC:=Option (Array Keyed)×Array Keyed×Nat×Nat×Nat×Nat×Nat
def gH(a b out:Array Keyed)(ia ib:Nat):Array Keyed:=out++a.extract ia a.size++b.extract ib b.size
def jY(a b out:Array Keyed)(ia ib:Nat):Array Keyed:=out++b.extract ib b.size++a.extract ia a.size
def rO(a b out:Array Keyed)(ia ib mg ac bc:Nat):StateT SortSt Sem (ForInStep LoC):=do
 let x ←elem' a ia
 if(ia+1+1==a.size)=true then pure (.done (some (jY a b (out.push x) (ia+1) ib),out.push x,ia+1,ib,mg,ac,bc))
 else if(decide (ac<7)&&decide (bc<7))=true then pure (.done (none,out.push x,ia+1,ib,mg,ac,bc))else pure (.yield (none,out.push x,ia+1,ib,mg,ac,bc))
def rN(a b out:Array Keyed)(ia ib mg ac bc:Nat):StateT SortSt Sem (ForInStep LoC):=do
 let y ←elem' b ib
 if(ib+1==b.size)=true then pure (.done (some (gH a b (out.push y) ia (ib+1)),out.push y,ia,ib+1,mg,ac,bc))
 else do
  let x ←elem' a ia
  let some k ←dG true x b (ib+1) (b.size-(ib+1)) 0|pure (.done (some (gH a b (out.push y) ia (ib+1)),out.push y,ia,ib+1,mg,ac,bc))
  if k>0 then
   if(ib+1+k==b.size)=true then pure (.done (some (gH a b (out.push y++b.extract (ib+1) (ib+1+k)) ia (ib+1+k)),out.push y++b.extract (ib+1) (ib+1+k),ia,ib+1+k,mg,ac,k))
   else rO a b (out.push y++b.extract (ib+1) (ib+1+k)) ia (ib+1+k) mg ac k
  else rO a b (out.push y) ia (ib+1) mg ac k
def Ax(a b out:Array Keyed)(ia ib mg ac bc:Nat):StateT SortSt Sem (ForInStep LoC):=do
 iJ mg
 let y ←elem' b ib
 let some k ←dG false y a ia (a.size-ia) 0|pure (.done (some (gH a b out ia ib),out,ia,ib,mg,ac,bc))
 if k>0 then
  if(ia+k+1==a.size)=true then pure (.done (some (jY a b (out++a.extract ia (ia+k)) (ia+k) ib),out++a.extract ia (ia+k),ia+k,ib,mg,k,bc))
  else if(ia+k==a.size)=true then pure (.done (some (gH a b (out++a.extract ia (ia+k)) (ia+k) ib),out++a.extract ia (ia+k),ia+k,ib,mg,k,bc))
  else rN a b (out++a.extract ia (ia+k)) (ia+k) ib mg k bc
 else rN a b out ia ib mg k bc
section
variable{prog:Program}{w:World}{A:Around}{E:Value->Shared->Prop}{s:Shared}{κ:SortKind}{it:Array Keyed}{lt:Nat->Nat->Bool}{N:Nat}{st:SortSt}{a b:Array Nat}
def jI(st:SortSt)(g:Nat):SortSt:=SortSt.mk' (kindOf st) (arrOf st) (pendingOf st) g (failedOf st)
def SG'(st st':SortSt):Prop:=∃g,st'=jI st g
theorem SG'.refl:SG' st st:=⟨gallopOf st,rfl⟩
theorem SG'.set{st':SortSt}(h:SG' st st')(g:Nat):SG' st (jI st' g):=by obtain⟨g',rfl⟩:=h;exact⟨g,rfl⟩
theorem SG'.kind{st':SortSt}(h:SG' st st')(hk:kindOf st=κ):kindOf st'=κ:=by obtain⟨g',rfl⟩:=h;exact hk
theorem nz{g:Nat}{Q:Unit->SortSt->Prop}(h:Q () (jI st g)):wpS (model prog w) A E s (iJ g) Q st:=by have e:iJ g=modify fun st=>jI st g:=rfl;rw[e];exact wpS_modify h
theorem aM{q:Array Nat}{i:Nat}{Q:Keyed->SortSt->Prop}(hi:i<q.size)(h:Q (kas_item it (gA q i)) st):wpS (model prog w) A E s (elem' (q.map (kas_item it)) i) Q st:=by rw[BZ hi];exact Zl h
theorem ao{α:Type}{c:Prop}[Decidable c]{x y:StateT SortSt Sem α}{Q:α->SortSt->Prop}(h1:c->wpS (model prog w) A E s x Q st)(h2:¬c->wpS (model prog w) A E s y Q st):wpS (model prog w) A E s (if c then x else y) Q st:=by
 split
 ·exact h1 ‹_›
 ·exact h2 ‹_›
def LoI(lt:Nat->Nat->Bool)(f:Nat->Keyed)(a b:Array Nat)(n:Nat)(c:LoC):Prop:=∃out ia ib mg ac bc,c=(none,out,ia,ib,mg,ac,bc)/\LoM lt f a b out ia ib/\ia+1<a.size/\ib<b.size/\n<=ia+ib
def LoQ(lt:Nat->Nat->Bool)(f:Nat->Keyed)(a b:Array Nat)(st:SortSt)(n:Nat)(r:ForInStep LoC)(st':SortSt):Prop:=SG' st st'/\match r with
 |.done c=>(∃r d,c=(some r,d)/\Gd lt f a b r)\/LoI lt f a b n c
 |.yield c=>LoI lt f a b n c
theorem uY(O:LtOk lt)(M:MF lt N a b){out:Array Keyed}{ia ib mg ac bc n:Nat}{st0:SortSt}(g:SG' st0 st)(l:LoM lt (kas_item it) a b out ia ib)(h1:ia+1<a.size)(h2:ib<b.size)(hn:n<=ia+ib)(hw:lt (gA b ib) (gA a ia)=false) :
  wpS (model prog w) A E s (rO (a.map (kas_item it)) (b.map (kas_item it)) out ia ib mg ac bc) (LoQ lt (kas_item it) a b st0 n) st:=by
 unfold rO jY;rw[Ys,Ys];refine Zg (aM (by omega) ?_);have l3:=l.pushA M O (by omega) h2 hw;refine ao (fun e=>?_) fun e=>ao (fun _=>?_) fun _=>?_
 ·exact Zl ⟨g,.inl ⟨_,_,rfl,l3.last M O (by simpa using e)⟩⟩
 ·have e':ia+1+1≠a.size:=by simpa using e
  exact Zl ⟨g,.inr ⟨_,_,_,_,_,_,rfl,l3,by omega,h2,by omega⟩⟩
 ·have e':ia+1+1≠a.size:=by simpa using e
  exact Zl ⟨g,⟨_,_,_,_,_,_,rfl,l3,by omega,h2,by omega⟩⟩
theorem uX(Z:Zc prog w A s κ it lt N)(O:LtOk lt)(M:MF lt N a b){out:Array Keyed}{ia ib mg ac bc n:Nat}{st0:SortSt}(hk:kindOf st0=κ)(g:SG' st0 st)(l:LoM lt (kas_item it) a b out ia ib)(h1:ia+1<a.size)(h2:ib<b.size)(hn:n<=ia+ib)(hw:lt (gA b ib) (gA a ia)=true) :
  wpS (model prog w) A E s (rN (a.map (kas_item it)) (b.map (kas_item it)) out ia ib mg ac bc) (LoQ lt (kas_item it) a b st0 n) st:=by
 unfold rN gH;rw[Ys,Ys];refine Zg (aM h2 ?_);have l3:=l.pushB M O (by omega) h2 hw;refine ao (fun e=>?_) fun e=>?_
 ·exact Zl ⟨g,.inl ⟨_,_,rfl,l3.done M (.inr (by simpa using e))⟩⟩
 have e':ib+1≠b.size:=by simpa using e
 refine Zg (aM (by omega) (Zg (iZ Z (g.kind hk) (M.na _ (by omega)) (by omega) (fun i _ _=>M.nb i (by omega)) (by omega) (fun i j h3 h4 h5=>?_) fun k hk1 hk2 hk3=>?_)))
 ·exact M.leB O (by omega) (by omega) h5
 refine ao (fun hp=>ao (fun e=>?_) fun e=>?_) fun hp=>?_
 ·have l4:=l3.chunkB M O k (by omega) (by omega) hk2;exact Zl ⟨g,.inl ⟨_,_,rfl,l4.done M (.inr (by simpa using e))⟩⟩
 ·have l4:=l3.chunkB M O k (by omega) (by omega) hk2;have e2:ib+1+k≠b.size:=by simpa using e
  exact uY O M g l4 h1 (by omega) (by omega) (hk3 k (Ze _) (by omega))
 ·have e3:k=0:=by omega
  subst e3;exact uY O M g l3 h1 (by omega) (by omega) (hk3 0 (Ze _) (by omega))
theorem uW(Z:Zc prog w A s κ it lt N)(O:LtOk lt)(M:MF lt N a b){out:Array Keyed}{ia ib mg ac bc n:Nat}{st0:SortSt}(hk:kindOf st0=κ)(g:SG' st0 st)(l:LoM lt (kas_item it) a b out ia ib)(h1:ia+1<a.size)(h2:ib<b.size)(hn:n<=ia+ib) :
  wpS (model prog w) A E s (Ax (a.map (kas_item it)) (b.map (kas_item it)) out ia ib mg ac bc) (LoQ lt (kas_item it) a b st0 n) st:=by
 unfold Ax gH jY;rw[Ys,Ys];have tf:∀{x y:Nat},zB lt false x y=true->lt x y=false:=fun{x y} z=>by have z':(!lt x y)=true:=z;simpa using z'
 have ft:∀{x y:Nat},zB lt false x y=false->lt x y=true:=fun{x y} z=>by have z':(!lt x y)=false:=z;simpa using z'
 refine Zg (nz (Zg (aM h2 (Zg (iZ Z ((g.set _).kind hk) (M.nb _ h2) (by omega) (fun i _ _=>M.na i (by omega)) (by omega) (fun i j h3 h4 h5=>?_) fun k hk1 hk2 hk3=>?_)))))
 ·have z:=tf h5;show(!lt (gA b ib) (gA a (ia+i)))=true;cases e:lt (gA b ib) (gA a (ia+i))with
  |false=>rfl
  |true=>rw[M.leA O (show ia+i<=ia+j by omega) (by omega) e]at z;cases z
 refine ao (fun hp=>ao (fun e=>?_) fun e=>ao (fun e2=>?_) fun e2=>?_) fun hp=>?_
 ·have l4:=l.chunkA M O k (by omega) h2 fun i hi=>tf (hk2 i hi);exact Zl ⟨g.set _,.inl ⟨_,_,rfl,l4.last M O (by simpa using e)⟩⟩
 ·have l4:=l.chunkA M O k (by omega) h2 fun i hi=>tf (hk2 i hi);exact Zl ⟨g.set _,.inl ⟨_,_,rfl,l4.done M (.inl (by simpa using e2))⟩⟩
 ·have l4:=l.chunkA M O k (by omega) h2 fun i hi=>tf (hk2 i hi);have e':ia+k+1≠a.size:=by simpa using e
  have e2':ia+k≠a.size:=by simpa using e2
  exact uX Z O M hk (g.set _) l4 (by omega) h2 (by omega) (ft (hk3 k (Ze _) (by omega)))
 ·have e3:k=0:=by omega
  subst e3;exact uX Z O M hk (g.set _) l (by omega) h2 (by omega) (ft (hk3 0 (Ze _) (by omega)))
theorem C6(Z:Zc prog w A s κ it lt N)(O:LtOk lt)(M:MF lt N a b){Q:Array Keyed->SortSt->Prop}(hk:kindOf st=κ)(h:∀r st',Gd lt (kas_item it) a b r->SG' st st'->Q r st'):wpS (model prog w) A E s (zLo (a.map (kas_item it)) (b.map (kas_item it))) Q st:=by
 have a0:=M.a0;have b0:=M.b0;have za:(a.map (kas_item it)).size=a.size:=Ys ..;have zb:(b.map (kas_item it)).size=b.size:=Ys ..;rw[BY];refine Zg (wpS_lift (ZU ⟨rfl,?_⟩));refine Zg (aM b0 ?_);have l0:=LoM.start (f:=kas_item it) M O;have dn:∀{out ia ib},LoM lt (kas_item it) a b out ia ib->ia=a.size\/ib=b.size->Gd lt (kas_item it) a b (out++(a.map (kas_item it)).extract ia (a.map (kas_item it)).size++(b.map (kas_item it)).extract ib (b.map (kas_item it)).size):=fun h e=>by rw[za,zb];exact h.done M e
 have ls:∀{out ia ib},LoM lt (kas_item it) a b out ia ib->ia+1=a.size->Gd lt (kas_item it) a b (out++(b.map (kas_item it)).extract ib (b.map (kas_item it)).size++(a.map (kas_item it)).extract ia (a.map (kas_item it)).size):=fun h e=>by rw[za,zb];exact h.last M O e
 have hit:∀{α:Type} {c:Prop} [Decidable c] {x y:StateT SortSt Sem α} {Q:α->SortSt->Prop} {st:SortSt},(c->wpS (model prog w) A E s x Q st)->(¬c->wpS (model prog w) A E s y Q st)->wpS (model prog w) A E s (if c then x else y) Q st:=fun h1 h2=>by
  split
  ·exact h1 ‹_›
  ·exact h2 ‹_›
 refine hit (fun e1=>?_) fun e1=>hit (fun e2=>?_) fun e2=>?_
 ·exact Zl (h _ _ (dn l0 (.inr (by rw[<-zb];simpa using e1))) .refl)
 ·exact Zl (h _ _ (ls l0 (by rw[<-za];simpa using e2)) .refl)
 have e1':1≠b.size:=by rw[<-zb];simpa using e1
 have e2':1≠a.size:=by rw[<-za];simpa using e2
 refine Zg (wpS_get ?_);have J:∀{γ:Type} {m:StateT SortSt Sem γ} {Q R:γ->SortSt->Prop} {st:SortSt},wpS (model prog w) A E s m R st->(∀c st,R c st->Q c st)->wpS (model prog w) A E s m Q st:=fun h k=>y6 h k;refine Zg (y6 (Z8 (I:=fun x c st'=>SG' st st'/\∃ out ia ib mg,c=(none,out,ia,ib,mg)/\LoM lt (kas_item it) a b out ia ib/\ia+1<a.size/\ib<b.size/\x+1<=ia+ib)
  (Q:=fun c st'=>SG' st st'/\∃ r d,c=(some r,d)/\Gd lt (kas_item it) a b r) ?step ?fin ⟨.refl,_,0,1,_,rfl,l0,by omega,by omega,by omega⟩) ?post)
 case fin =>rintro c st' ⟨_,out,ia,ib,mg,rfl,_,h1,h2,h3⟩;rw[za,zb]at h3;omega
 case post =>rintro c st' ⟨g,r,d,rfl,hr⟩;exact Zl (h r st' hr g)
 case step =>
  rintro x c st1 _ hx ⟨g,out,ia,ib,mg,rfl,l1,h1,h2,h3⟩;refine Zg (y6 (Z8 (I:=fun y c st'=>st'=st1/\∃ out ia' ib' ac bc,c=(none,out,ia',ib',ac,bc)/\LoM lt (kas_item it) a b out ia' ib'/\ia'+1<a.size/\ib'<b.size/\ia+ib+y<=ia'+ib')
   (Q:=fun c st'=>st'=st1/\((∃ r d,c=(some r,d)/\Gd lt (kas_item it) a b r)\/∃ out ia' ib' ac bc,c=(none,out,ia',ib',ac,bc)/\LoM lt (kas_item it) a b out ia' ib'/\ia'+1<a.size/\ib'<b.size/\ia+ib+1<=ia'+ib')) ?step1 ?fin1 ⟨rfl,_,ia,ib,_,_,rfl,l1,h1,h2,by omega⟩) ?post1)
  case fin1 =>rintro c st' ⟨rfl,out,ia',ib',ac,bc,rfl,l2,g1,g2,g3⟩;exact⟨rfl,.inr ⟨out,ia',ib',ac,bc,rfl,l2,g1,g2,by rw[za,zb]at g3;omega⟩⟩
  case step1 =>
   rintro y c st' _ hy ⟨rfl,out,ia',ib',ac,bc,rfl,l2,g1,g2,g3⟩;dsimp only;refine Zg (aM g2 (Zg (aM (show ia'<a.size by omega) (Zg (pG Z (g.kind hk) (M.nb _ g2) (M.na _ (by omega)) ?_)))));cases ew:lt (gA b ib') (gA a ia')with
   |true =>
    refine hit (fun _=>?_) (fun z=>absurd rfl z);refine Zg (aM g2 ?_);have l3:=l2.pushB M O (by omega) g2 ew;refine hit (fun e=>?_) fun e=>hit (fun _=>?_) fun _=>?_
    ·exact Zl ⟨rfl,.inl ⟨_,_,rfl,dn l3 (.inr (by rw[<-zb];simpa using e))⟩⟩
    ·exact Zl ⟨rfl,.inr ⟨_,_,_,_,_,rfl,l3,g1,by have:ib'+1≠b.size:=(by rw[<-zb];simpa using e);omega,by omega⟩⟩
    ·exact Zl ⟨rfl,_,_,_,_,_,rfl,l3,g1,by have:ib'+1≠b.size:=(by rw[<-zb];simpa using e);omega,by omega⟩
   |false =>
    refine hit (fun z=>absurd z (by simp)) fun _=>?_;refine Zg (aM (show ia'<a.size by omega) ?_);have l3:=l2.pushA M O (by omega) g2 ew;refine hit (fun e=>?_) fun e=>hit (fun _=>?_) fun _=>?_
    ·exact Zl ⟨rfl,.inl ⟨_,_,rfl,ls l3 (by rw[<-za];simpa using e)⟩⟩
    ·exact Zl ⟨rfl,.inr ⟨_,_,_,_,_,rfl,l3,by have:ia'+1+1≠a.size:=(by rw[<-za];simpa using e);omega,g2,by omega⟩⟩
    ·exact Zl ⟨rfl,_,_,_,_,_,rfl,l3,by have:ia'+1+1≠a.size:=(by rw[<-za];simpa using e);omega,g2,by omega⟩
  case post1 =>
   rintro c st' ⟨rfl,⟨r,d,rfl,hr⟩|⟨out,ia',ib',ac,bc,rfl,l2,g1,g2,g3⟩⟩
   ·exact Zl ⟨g,r,_,rfl,hr⟩
   refine Zg (wpS_lift (ZU ⟨rfl,?_⟩));refine Zg (y6 (Z8 (I:=fun y c st'=>SG' st st'/\∃ out ia1 ib1 mg ac bc,c=(none,out,ia1,ib1,mg,ac,bc)/\LoM lt (kas_item it) a b out ia1 ib1/\ia1+1<a.size/\ib1<b.size/\ia'+ib'<=ia1+ib1)
    (Q:=fun c st'=>SG' st st'/\((∃ r d,c=(some r,d)/\Gd lt (kas_item it) a b r)\/∃ out ia1 ib1 mg ac bc,c=(none,out,ia1,ib1,mg,ac,bc)/\LoM lt (kas_item it) a b out ia1 ib1/\ia1+1<a.size/\ib1<b.size/\ia'+ib'<=ia1+ib1)) ?step2 ?fin2 ⟨g,_,_,_,_,_,_,rfl,l2,g1,g2,Ze _⟩) ?post2)
   case fin2 =>rintro c st2 ⟨gg,hh⟩;exact⟨gg,.inr hh⟩
   case post2 =>
    rintro c st2 ⟨gg,⟨r,d,rfl,hr⟩|⟨out,ia1,ib1,mg,ac,bc,rfl,l3,k1,k2,k3⟩⟩
    ·exact Zl ⟨gg,r,_,rfl,hr⟩
    ·exact Zg (nz (Zl ⟨gg.set _,out,ia1,ib1,_,rfl,l3,k1,k2,by omega⟩))
   case step2 =>
    rintro y c st2 _ hy ⟨gg,out,ia1,ib1,mg,ac,bc,rfl,l3,k1,k2,k3⟩;dsimp only;refine ao (fun _=>?_) fun _=>?_
    ·exact y6 (uW (n:=ia'+ib') (mg:=mg-1) (ac:=ac) (bc:=bc) Z O M hk gg l3 k1 k2 k3) fun r st3 hr=>by
      cases r with
      |done c=>exact hr
      |yield c=>exact hr
    ·exact y6 (uW (n:=ia'+ib') (mg:=mg) (ac:=ac) (bc:=bc) Z O M hk gg l3 k1 k2 k3) fun r st3 hr=>by
      cases r with
      |done c=>exact hr
      |yield c=>exact hr
end
open PySem PyProof.Rows PySem.W
def fz(a b out:Array Keyed)(na nb:Nat):Array Keyed:=a.extract 0 na++b.extract 0 nb++out.reverse
def rH(a b out:Array Keyed)(na nb:Nat):Array Keyed:=b.extract 0 nb++a.extract 0 na++out.reverse
abbrev HiC:=Option (Array Keyed)×Nat×Nat×Array Keyed×Nat×Nat×Nat
def rK(a b:Array Keyed)(na nb:Nat)(out:Array Keyed)(mg ac bc:Nat):StateT SortSt Sem (ForInStep HiC):=do
 let x ←elem' a (na-1)
 if(na-1==0)=true then pure (.done (some (fz a b (out.push x) (na-1) nb),na-1,nb,out.push x,mg,ac,bc))
 else if(decide (ac<7)&&decide (bc<7))=true then pure (.done (none,na-1,nb,out.push x,mg,ac,bc))else pure (.yield (none,na-1,nb,out.push x,mg,ac,bc))
def rJ(a b:Array Keyed)(na nb:Nat)(out:Array Keyed)(mg ac bc:Nat):StateT SortSt Sem (ForInStep HiC):=do
 let y ←elem' b (nb-1)
 if(nb-1==1)=true then pure (.done (some (rH a b (out.push y) na (nb-1)),na,nb-1,out.push y,mg,ac,bc))
 else do
  let x ←elem' a (na-1)
  let some k ←dG true x b 0 (nb-1) (nb-1-1)|pure (.done (some (fz a b (out.push y) na (nb-1)),na,nb-1,out.push y,mg,ac,bc))
  if nb-1-k>0 then
   if(k==1)=true then pure (.done (some (rH a b (out.push y++(b.extract k (nb-1)).reverse) na k),na,k,out.push y++(b.extract k (nb-1)).reverse,mg,ac,nb-1-k))
   else if(k==0)=true then pure (.done (some (fz a b (out.push y++(b.extract k (nb-1)).reverse) na k),na,k,out.push y++(b.extract k (nb-1)).reverse,mg,ac,nb-1-k))
   else rK a b na k (out.push y++(b.extract k (nb-1)).reverse) mg ac (nb-1-k)
  else rK a b na (nb-1) (out.push y) mg ac (nb-1-k)
def Ai(a b:Array Keyed)(na nb:Nat)(out:Array Keyed)(mg ac bc:Nat):StateT SortSt Sem (ForInStep HiC):=do
 iJ mg
 let y ←elem' b (nb-1)
 let some k ←dG false y a 0 na (na-1)|pure (.done (some (fz a b out na nb),na,nb,out,mg,ac,bc))
 if na-k>0 then
  if(k==0)=true then pure (.done (some (fz a b (out++(a.extract k na).reverse) k nb),k,nb,out++(a.extract k na).reverse,mg,na-k,bc))
  else rJ a b k nb (out++(a.extract k na).reverse) mg (na-k) bc
 else rJ a b na nb out mg (na-k) bc
section
variable{prog:Program}{w:World}{A:Around}{E:Value->Shared->Prop}{s:Shared}{κ:SortKind}{it:Array Keyed}{lt:Nat->Nat->Bool}{N:Nat}{st:SortSt}{a b:Array Nat}
def HiI(lt:Nat->Nat->Bool)(f:Nat->Keyed)(a b:Array Nat)(n:Nat)(c:HiC):Prop:=∃na nb out mg ac bc,c=(none,na,nb,out,mg,ac,bc)/\HiM lt f a b out na nb/\1<=na/\na<=a.size/\2<=nb/\nb<=b.size/\na+nb<=n
def HiQ(lt:Nat->Nat->Bool)(f:Nat->Keyed)(a b:Array Nat)(st:SortSt)(n:Nat)(r:ForInStep HiC)(st':SortSt):Prop:=SG' st st'/\match r with
 |.done c=>(∃r d,c=(some r,d)/\Gd lt f a b r)\/HiI lt f a b n c
 |.yield c=>HiI lt f a b n c
theorem uV(O:LtOk lt)(M:MF lt N a b){out:Array Keyed}{na nb mg ac bc n:Nat}{st0:SortSt}(g:SG' st0 st)(l:HiM lt (kas_item it) a b out na nb)(h1:1<=na)(h1':na<=a.size)(h2:2<=nb)(h2':nb<=b.size)(hn:na+nb<=n)(hw:lt (gA b (nb-1)) (gA a (na-1))=true) :
  wpS (model prog w) A E s (rK (a.map (kas_item it)) (b.map (kas_item it)) na nb out mg ac bc) (HiQ lt (kas_item it) a b st0 n) st:=by
 unfold rK fz;refine Zg (aM (by omega) ?_);have l3:=l.pushA M O (by omega) h1' (by omega) h2' hw;refine ao (fun e=>?_) fun e=>ao (fun _=>?_) fun _=>?_
 ·exact Zl ⟨g,.inl ⟨_,_,rfl,l3.done M (.inl (by simpa using e))⟩⟩
 ·have e':na-1≠0:=by simpa using e
  exact Zl ⟨g,.inr ⟨_,_,_,_,_,_,rfl,l3,by omega,by omega,h2,h2',by omega⟩⟩
 ·have e':na-1≠0:=by simpa using e
  exact Zl ⟨g,⟨_,_,_,_,_,_,rfl,l3,by omega,by omega,h2,h2',by omega⟩⟩
theorem uU(Z:Zc prog w A s κ it lt N)(O:LtOk lt)(M:MF lt N a b){out:Array Keyed}{na nb mg ac bc n:Nat}{st0:SortSt}(hk:kindOf st0=κ)(g:SG' st0 st)(l:HiM lt (kas_item it) a b out na nb)(h1:1<=na)(h1':na<=a.size)(h2:2<=nb)(h2':nb<=b.size)(hn:na+nb<=n)(hw:lt (gA b (nb-1)) (gA a (na-1))=false) :
  wpS (model prog w) A E s (rJ (a.map (kas_item it)) (b.map (kas_item it)) na nb out mg ac bc) (HiQ lt (kas_item it) a b st0 n) st:=by
 unfold rJ fz rH;refine Zg (aM (by omega) ?_);have l3:=l.pushB M O (by omega) h1' (by omega) h2' hw;refine ao (fun e=>?_) fun e=>?_
 ·exact Zl ⟨g,.inl ⟨_,_,rfl,l3.first M O (by simpa using e)⟩⟩
 have e':nb-1≠1:=by simpa using e
 have z0:∀i,0+i=i:=fun i=>by omega
 refine Zg (aM (by omega) (Zg (iZ Z (g.kind hk) (M.na _ (by omega)) (by omega) (fun i _ _=>M.nb i (by omega)) (by omega) (fun i j h3 h4 h5=>?_) fun k hk1 hk2 hk3=>?_)))
 ·rw[z0]at h5 ⊢;exact M.leB O (by omega) (by omega) h5
 have hk3':∀i,k<=i->i<nb-1->lt (gA b i) (gA a (na-1))=false:=fun i x y=>by have:=hk3 i x y;rw[z0]at this;exact this
 have hk2':∀i,i<k->lt (gA b i) (gA a (na-1))=true:=fun i x=>by have:=hk2 i x;rw[z0]at this;exact this
 refine ao (fun hp=>ao (fun e=>?_) fun e=>ao (fun e2=>?_) fun e2=>?_) fun hp=>?_
 ·have l4:=l3.chunkB M O k (by omega) h1' (by omega) (by omega) hk3';exact Zl ⟨g,.inl ⟨_,_,rfl,l4.first M O (by simpa using e)⟩⟩
 ·have l4:=l3.chunkB M O k (by omega) h1' (by omega) (by omega) hk3';exact Zl ⟨g,.inl ⟨_,_,rfl,l4.done M (.inr (by simpa using e2))⟩⟩
 ·have l4:=l3.chunkB M O k (by omega) h1' (by omega) (by omega) hk3';have q1:k≠1:=by simpa using e
  have q2:k≠0:=by simpa using e2
  exact uV O M g l4 h1 h1' (by omega) (by omega) (by omega) (hk2' (k-1) (by omega))
 ·have e3:k=nb-1:=by omega
  exact uV O M g l3 h1 h1' (by omega) (by omega) (by omega) (hk2' (nb-1-1) (by omega))
theorem uT(Z:Zc prog w A s κ it lt N)(O:LtOk lt)(M:MF lt N a b){out:Array Keyed}{na nb mg ac bc n:Nat}{st0:SortSt}(hk:kindOf st0=κ)(g:SG' st0 st)(l:HiM lt (kas_item it) a b out na nb)(h1:1<=na)(h1':na<=a.size)(h2:2<=nb)(h2':nb<=b.size)(hn:na+nb<=n) :
  wpS (model prog w) A E s (Ai (a.map (kas_item it)) (b.map (kas_item it)) na nb out mg ac bc) (HiQ lt (kas_item it) a b st0 n) st:=by
 unfold Ai fz;have z0:∀i,0+i=i:=fun i=>by omega
 have tf:∀{x y:Nat},zB lt false x y=true->lt x y=false:=fun{x y} z=>by have z':(!lt x y)=true:=z;simpa using z'
 have ft:∀{x y:Nat},zB lt false x y=false->lt x y=true:=fun{x y} z=>by have z':(!lt x y)=false:=z;simpa using z'
 refine Zg (nz (Zg (aM (by omega) (Zg (iZ Z ((g.set _).kind hk) (M.nb _ (by omega)) (by omega) (fun i _ _=>M.na i (by omega)) (by omega) (fun i j h3 h4 h5=>?_) fun k hk1 hk2 hk3=>?_)))))
 ·rw[z0]at h5 ⊢;have z:=tf h5;show(!lt (gA b (nb-1)) (gA a i))=true;cases e:lt (gA b (nb-1)) (gA a i)with
  |false=>rfl
  |true=>rw[M.leA O h3 (by omega) e]at z;cases z
 have hk3':∀i,k<=i->i<na->lt (gA b (nb-1)) (gA a i)=true:=fun i x y=>by have:=ft (hk3 i x y);rw[z0]at this;exact this
 have hk2':∀i,i<k->lt (gA b (nb-1)) (gA a i)=false:=fun i x=>by have:=tf (hk2 i x);rw[z0]at this;exact this
 refine ao (fun hp=>ao (fun e=>?_) fun e=>?_) fun hp=>?_
 ·have l4:=l.chunkA M O k (by omega) h1' (by omega) h2' hk3';exact Zl ⟨g.set _,.inl ⟨_,_,rfl,l4.done M (.inl (by simpa using e))⟩⟩
 ·have l4:=l.chunkA M O k (by omega) h1' (by omega) h2' hk3';have q1:k≠0:=by simpa using e
  exact uU Z O M hk (g.set _) l4 (by omega) (by omega) h2 h2' (by omega) (hk2' (k-1) (by omega))
 ·have e3:k=na:=by omega
  exact uU Z O M hk (g.set _) l h1 h1' h2 h2' hn (hk2' (na-1) (by omega))
theorem C5(Z:Zc prog w A s κ it lt N)(O:LtOk lt)(M:MF lt N a b){Q:Array Keyed->SortSt->Prop}(hk:kindOf st=κ)(h:∀r st',Gd lt (kas_item it) a b r->SG' st st'->Q r st'):wpS (model prog w) A E s (zHi (a.map (kas_item it)) (b.map (kas_item it))) Q st:=by
 have a0:=M.a0;have b0:=M.b0;have za:(a.map (kas_item it)).size=a.size:=Ys ..;have zb:(b.map (kas_item it)).size=b.size:=Ys ..;rw[BX];refine Zg (wpS_lift (ZU ⟨rfl,?_⟩));rw[za,zb];refine Zg (aM (by omega) ?_);have l0:=HiM.start (f:=kas_item it) M O;refine ao (fun e1=>?_) fun e1=>ao (fun e2=>?_) fun e2=>?_
 ·exact Zl (h _ _ (l0.done M (.inl (by simpa using e1))) .refl)
 ·exact Zl (h _ _ (l0.first M O (by simpa using e2)) .refl)
 have e1':a.size-1≠0:=by simpa using e1
 have e2':b.size≠1:=by simpa using e2
 refine Zg (wpS_get ?_);refine Zg (y6 (Z8 (I:=fun x c st'=>SG' st st'/\∃ na nb out mg,c=(none,na,nb,out,mg)/\HiM lt (kas_item it) a b out na nb/\1<=na/\na<=a.size/\2<=nb/\nb<=b.size/\na+nb+x<=a.size+b.size)
  (Q:=fun c st'=>SG' st st'/\∃ r d,c=(some r,d)/\Gd lt (kas_item it) a b r) ?step ?fin ⟨.refl,_,_,_,_,rfl,l0,by omega,by omega,by omega,by omega,by omega⟩) ?post)
 case fin =>rintro c st' ⟨_,na,nb,out,mg,rfl,_,h1,h1',h2,h2',h3⟩;omega
 case post =>rintro c st' ⟨g,r,d,rfl,hr⟩;exact Zl (h r st' hr g)
 case step =>
  rintro x c st1 _ hx ⟨g,na,nb,out,mg,rfl,l1,h1,h1',h2,h2',h3⟩;refine Zg (y6 (Z8 (I:=fun y c st'=>st'=st1/\∃ na' nb' out ac bc,c=(none,na',nb',out,ac,bc)/\HiM lt (kas_item it) a b out na' nb'/\1<=na'/\na'<=a.size/\2<=nb'/\nb'<=b.size/\na'+nb'+y<=na+nb)
   (Q:=fun c st'=>st'=st1/\((∃ r d,c=(some r,d)/\Gd lt (kas_item it) a b r)\/∃ na' nb' out ac bc,c=(none,na',nb',out,ac,bc)/\HiM lt (kas_item it) a b out na' nb'/\1<=na'/\na'<=a.size/\2<=nb'/\nb'<=b.size/\na'+nb'+1<=na+nb)) ?step1 ?fin1 ⟨rfl,na,nb,out,0,0,rfl,l1,h1,h1',h2,h2',by omega⟩) ?post1)
  case fin1 =>rintro c st' ⟨rfl,na',nb',out,ac,bc,rfl,l2,g1,g1',g2,g2',g3⟩;exact⟨rfl,.inr ⟨na',nb',out,ac,bc,rfl,l2,g1,g1',g2,g2',by omega⟩⟩
  case step1 =>
   rintro y c st' _ hy ⟨rfl,na',nb',out,ac,bc,rfl,l2,g1,g1',g2,g2',g3⟩;dsimp only;refine Zg (aM (by omega) (Zg (aM (by omega) (Zg (pG Z (g.kind hk) (M.nb _ (by omega)) (M.na _ (by omega)) ?_)))));cases ew:lt (gA b (nb'-1)) (gA a (na'-1))with
   |true =>
    refine ao (fun _=>?_) (fun z=>absurd rfl z);refine Zg (aM (by omega) ?_);have l3:=l2.pushA M O (by omega) g1' (by omega) g2' ew;refine ao (fun e=>?_) fun e=>ao (fun _=>?_) fun _=>?_
    ·exact Zl ⟨rfl,.inl ⟨_,_,rfl,l3.done M (.inl (by simpa using e))⟩⟩
    ·have e':na'-1≠0:=by simpa using e
     exact Zl ⟨rfl,.inr ⟨_,_,_,_,_,rfl,l3,by omega,by omega,g2,g2',by omega⟩⟩
    ·have e':na'-1≠0:=by simpa using e
     exact Zl ⟨rfl,_,_,_,_,_,rfl,l3,by omega,by omega,g2,g2',by omega⟩
   |false =>
    refine ao (fun z=>absurd z (by simp)) fun _=>?_;refine Zg (aM (by omega) ?_);have l3:=l2.pushB M O (by omega) g1' (by omega) g2' ew;refine ao (fun e=>?_) fun e=>ao (fun _=>?_) fun _=>?_
    ·exact Zl ⟨rfl,.inl ⟨_,_,rfl,l3.first M O (by simpa using e)⟩⟩
    ·have e':nb'-1≠1:=by simpa using e
     exact Zl ⟨rfl,.inr ⟨_,_,_,_,_,rfl,l3,g1,g1',by omega,by omega,by omega⟩⟩
    ·have e':nb'-1≠1:=by simpa using e
     exact Zl ⟨rfl,_,_,_,_,_,rfl,l3,g1,g1',by omega,by omega,by omega⟩
  case post1 =>
   rintro c st' ⟨rfl,⟨r,d,rfl,hr⟩|⟨na',nb',out,ac,bc,rfl,l2,g1,g1',g2,g2',g3⟩⟩
   ·exact Zl ⟨g,r,_,rfl,hr⟩
   refine Zg (wpS_lift (ZU ⟨rfl,?_⟩));refine Zg (y6 (Z8 (I:=fun y c st'=>SG' st st'/\HiI lt (kas_item it) a b (na'+nb') c)
    (Q:=fun c st'=>SG' st st'/\((∃ r d,c=(some r,d)/\Gd lt (kas_item it) a b r)\/HiI lt (kas_item it) a b (na'+nb') c)) ?step2 ?fin2 ⟨g,_,_,_,_,_,_,rfl,l2,g1,g1',g2,g2',Ze _⟩) ?post2)
   case fin2 =>rintro c st2 ⟨gg,hh⟩;exact⟨gg,.inr hh⟩
   case post2 =>
    rintro c st2 ⟨gg,⟨r,d,rfl,hr⟩|⟨na1,nb1,out,mg,ac,bc,rfl,l3,k1,k1',k2,k2',k3⟩⟩
    ·exact Zl ⟨gg,r,_,rfl,hr⟩
    ·exact Zg (nz (Zl ⟨gg.set _,na1,nb1,out,_,rfl,l3,k1,k1',k2,k2',by omega⟩))
   case step2 =>
    rintro y c st2 _ hy ⟨gg,na1,nb1,out,mg,ac,bc,rfl,l3,k1,k1',k2,k2',k3⟩;dsimp only;refine ao (fun _=>?_) fun _=>?_
    ·exact y6 (uT (n:=na'+nb') (mg:=mg-1) (ac:=ac) (bc:=bc) Z O M hk gg l3 k1 k1' k2 k2' k3) fun r st3 hr=>by
      cases r with
      |done c=>exact hr
      |yield c=>exact hr
    ·exact y6 (uT (n:=na'+nb') (mg:=mg) (ac:=ac) (bc:=bc) Z O M hk gg l3 k1 k1' k2 k2' k3) fun r st3 hr=>by
      cases r with
      |done c=>exact hr
      |yield c=>exact hr
end
open PySem PyProof.Rows PySem.W
theorem qX(at0:Nat):∀(l:List Keyed) (n:Nat) (ar:Array Keyed),at0+n+l.length<=ar.size->((l.zipIdx n).foldl (fun a (p,j)=>a.setIfInBounds (at0+j) p) ar).toList=ar.toList.take (at0+n)++(l++ar.toList.drop (at0+n+l.length))
 | [],n,ar,_=>by rw[YN,List.length_nil,Nat.add_zero,ZX];rfl
 |x::l,n,ar,h=>by
  rw[Zt]at h;rw[List.zipIdx_cons,List.foldl_cons];have hs:(ar.setIfInBounds (at0+n) x).size=ar.size:=Array.size_setIfInBounds;have ih:=qX at0 l (n+1) (ar.setIfInBounds (at0+n) x) (by omega);rw[ih,Array.toList_setIfInBounds];have hl:at0+n<ar.toList.length:=by rw[Zk];omega
  have e1:(ar.toList.set (at0+n) x).take (at0+(n+1))=ar.toList.take (at0+n)++[x]:=by rw[show at0+(n+1)=at0+n+1 by omega,List.take_add_one,List.take_set_of_le (Ze _)];rw[List.getElem?_set_self hl];rfl
  have e2:(ar.toList.set (at0+n) x).drop (at0+(n+1)+l.length)=ar.toList.drop (at0+n+(x::l).length):=by rw[List.drop_set_of_lt (by omega),Zt];congr 1;omega
  rw[e1,e2,ZE];rfl
theorem zG{f:Nat->Keyed}{p q:Array Nat}{at0:Nat}(h:at0+q.size<=p.size):∃p':Array Nat,jK (p.map f) at0 (q.map f)=p'.map f/\p'.toList=p.toList.take at0++(q.toList++p.toList.drop (at0+q.size)):=by refine⟨(p.toList.take at0++(q.toList++p.toList.drop (at0+q.size))).toArray,?_,by simp⟩;apply Array.toList_inj.mp;have e:=qX at0 (q.map f).toList 0 (p.map f) (by simpa using h);unfold jK;rw[e];simp
section
variable{prog:Program}{w:World}{A:Around}{E:Value->Shared->Prop}{s:Shared}{κ:SortKind}{it:Array Keyed}{lt:Nat->Nat->Bool}{N:Nat}{st:SortSt}{a b:Array Nat}
theorem qa{l:List Nat}(h:l.Pairwise (Lx lt)){i j:Nat}(hij:i<j)(hj:j<l.length):Lx lt (l.getD i 0) (l.getD j 0):=by rw[y8]at h;have:=h i j (by omega) hj hij;rw[Zd,Zd,Zb (show i<l.length by omega),Zb hj];exact this
theorem cz{l:List Nat}{i:Nat}(h:i<l.length):l.getD i 0∈l:=by rw[Zd,Zb h];exact Z7 h
theorem oG{l:List Nat}{x:Nat}(h:x∈l):∃i,i<l.length/\l.getD i 0=x:=by obtain⟨i,hi,e⟩:=List.mem_iff_getElem.mp h;refine⟨i,hi,?_⟩;rw[Zd,Zb hi];exact e
theorem oi(O:LtOk lt){l:List Nat}(h:l.Pairwise (Lx lt)){i j:Nat}(hij:i<=j)(hj:j<l.length){x:Nat}(hx:lt x (l.getD i 0)=true):lt x (l.getD j 0)=true:=by
 rcases Yd i j with h1|h1
 ·exact O.lt_le hx (qa h h1 hj).1
 ·have e:i=j:=by omega
  rw[<-e];exact hx
theorem oj(O:LtOk lt){l:List Nat}(h:l.Pairwise (Lx lt)){i j:Nat}(hij:i<=j)(hj:j<l.length){x:Nat}(hx:lt (l.getD j 0) x=true):lt (l.getD i 0) x=true:=by
 rcases Yd i j with h1|h1
 ·exact O.le_lt (qa h h1 hj).1 hx
 ·have e:i=j:=by omega
  rw[e];exact hx
theorem C4(Z:Zc prog w A s κ it lt N)(O:LtOk lt){p:Array Nat}{pre X Y post:List Nat}{i pw pw2:Nat}{Q:Bool->SortSt->Prop}(hk:kindOf st=κ)(hf:failedOf st=none)(ha:arrOf st=p.map (kas_item it))(hp:p.toList=pre++(X++(Y++post)))(hX:X.Pairwise (Lx lt))(hY:Y.Pairwise (Lx lt))(hX0:0<X.length)(hY0:0<Y.length)(hXY:∀ x∈X,∀ y∈Y,x<y)(hN:∀ x∈p.toList,x<N)(h1:(pendingOf st)[i]? = some (pre.length,X.length,pw))(h2:(pendingOf st)[i+1]? = some (pre.length+X.length,Y.length,pw2))(h:∀ (st':SortSt) (p':Array Nat) (W:List Nat),kindOf st'=κ->failedOf st'=none->arrOf st'=p'.map (kas_item it)->p'.toList=pre++(W++post)->W.Pairwise (Lx lt)->W.Perm (X++Y) ->
   pendingOf st'=((pendingOf st).setIfInBounds i (pre.length,X.length+Y.length,pw)).eraseIdxIfInBounds (i+1)->Q true st'):wpS (model prog w) A E s (mergeAt' i) Q st:=by
 have psz:p.size=pre.length+(X.length+(Y.length+post.length)):=by rw[<-Zk,hp];simp
 have gX:∀i,i<X.length->gA p (pre.length+i)=X.getD i 0:=fun i hi=>by rw[aA,hp,Zd,Zd,ZV (by omega),Z2,Yn hi]
 have gY:∀i,i<Y.length->gA p (pre.length+X.length+i)=Y.getD i 0:=fun i hi=>by rw[aA,hp,Zd,Zd,ZV (by omega),show pre.length+X.length+i-pre.length=X.length+i by omega,ZV (by omega),Z2,Yn hi]
 have nX:∀x∈X,x<N:=fun x hx=>hN x (by rw[hp];simp[hx]);have nY:∀x∈Y,x<N:=fun x hx=>hN x (by rw[hp];simp[hx]);have tf:∀{x y:Nat},zB lt false x y=true->lt x y=false:=fun{x y} z=>by have z':(!lt x y)=true:=z;simpa using z'
 have ft:∀{x y:Nat},zB lt false x y=false->lt x y=true:=fun{x y} z=>by have z':(!lt x y)=false:=z;simpa using z'
 rw[BW];refine Zg (wpS_get ?_);rw[h1,h2];have hset:∀{st2:SortSt} {Q:PUnit->SortSt->Prop},Q ⟨⟩ st2->wpS (model prog w) A E s (set st2:StateT SortSt Sem PUnit) Q st:=fun{st2 Q} hq=>by have e:(set st2:StateT SortSt Sem PUnit)=modify fun _=>st2:=rfl;rw[e];exact wpS_modify hq
 refine Zg (hset ?_);rw[ha];refine Zg (aM (by omega) ?_);have eY:gA p (pre.length+X.length)=Y.getD 0 0:=gY 0 hY0;rw[eY];refine Zg (iZ Z hk (nY _ (cz hY0)) (by omega) (fun i h3 h4=>?_) hX0 (fun i j h3 h4 h5=>?_) fun k hk1 hk2 hk3=>?_)
 ·obtain⟨d,rfl⟩:∃d,i=pre.length+d:=⟨i-pre.length,by omega⟩
  rw[gX d (by omega)];exact nX _ (cz (by omega))
 ·rw[gX _ (by omega)]at h5 ⊢;have z:=tf h5;show(!lt (Y.getD 0 0) (X.getD i 0))=true;cases e:lt (Y.getD 0 0) (X.getD i 0)with
  |false=>rfl
  |true=>rw[oi O hX h3 h4 e]at z;cases z
 have k2:∀i,i<k->lt (Y.getD 0 0) (X.getD i 0)=false:=fun i hi=>by have:=tf (hk2 i hi);rw[gX i (by omega)]at this;exact this
 have k3:∀i,k<=i->i<X.length->lt (Y.getD 0 0) (X.getD i 0)=true:=fun i hi hi2=>by have:=ft (hk3 i hi hi2);rw[gX i (by omega)]at this;exact this
 have low:∀x∈X.take k,∀y∈Y,Lx lt x y:=fun x hx y hy=>by
  have hm:=List.mem_of_mem_take hx;obtain⟨i,i1,i2,rfl⟩:=iS hx;obtain⟨j,j1,rfl⟩:=oG hy;refine⟨?_,.inr (hXY _ hm _ hy)⟩;cases e:lt (Y.getD j 0) (X.getD i 0)with
  |false=>rfl
  |true=>rw[<-k2 i i1];exact(oj O hY (ZO j) j1 e).symm
 refine ao (fun e0=>?_) fun e0=>?_
 ·have e0':X.length-k=0:=by simpa using e0
  refine Zl (h _ p (X++Y) hk hf ha (by rw[hp,ZE]) (ZL.mpr ⟨hX,hY,fun x hx y hy=>?_⟩) (List.Perm.refl _) rfl);exact low x (by rw[ZJ (by omega)];exact hx) y hy
 have e0':X.length-k≠0:=by simpa using e0
 refine Zg (aM (by omega) ?_);have eXl:gA p (pre.length+k+(X.length-k)-1)=X.getD (X.length-1) 0:=by rw[show pre.length+k+(X.length-k)-1=pre.length+(X.length-1) by omega];exact gX _ (by omega)
 rw[eXl];refine Zg (iZ Z hk (nX _ (cz (by omega))) (by omega) (fun i h3 h4=>?_) (by omega) (fun i j h3 h4 h5=>?_) fun c hc1 hc2 hc3=>?_)
 ·obtain⟨d,rfl⟩:∃d,i=pre.length+X.length+d:=⟨i-(pre.length+X.length),by omega⟩
  rw[gY d (by omega)];exact nY _ (cz (by omega))
 ·rw[gY _ (by omega)]at h5 ⊢;exact oj O hY h3 h4 h5
 have c2:∀i,i<c->lt (Y.getD i 0) (X.getD (X.length-1) 0)=true:=fun i hi=>by have:=hc2 i hi;rw[gY i (by omega)]at this;exact this
 have c3:∀i,c<=i->i<Y.length->lt (Y.getD i 0) (X.getD (X.length-1) 0)=false:=fun i hi hi2=>by have:=hc3 i hi hi2;rw[gY i (by omega)]at this;exact this
 refine ao (fun e1=>?_) fun e1=>?_
 ·have e1':c=0:=by simpa using e1
  have z1:=c3 0 (by omega) hY0;rw[k3 (X.length-1) (by omega) (by omega)]at z1;cases z1
 have e1':c≠0:=by simpa using e1
 have la:(p.extract (pre.length+k) (pre.length+X.length)).toList=X.drop k:=by rw[lh,hp,List.take_append,ZJ (by omega),Z2,List.take_left,List.drop_append,YK (by omega),YN,Z2]
 have lb:(p.extract (pre.length+X.length) (pre.length+X.length+c)).toList=Y.take c:=by rw[gq,hp,<-ZE,List.drop_append,YK (by simp),YN,Zn,Nat.sub_self,List.drop_zero,List.take_append,show c-Y.length=0 by omega,List.take_zero,Z3]
 have sza:(p.extract (pre.length+k) (pre.length+X.length)).size=X.length-k:=by rw[<-Zk,la,Yj]
 have szb:(p.extract (pre.length+X.length) (pre.length+X.length+c)).size=c:=by rw[<-Zk,lb,ZN];omega
 have ga:∀i,gA (p.extract (pre.length+k) (pre.length+X.length)) i=X.getD (k+i) 0:=fun i=>by rw[aA,la,Zd,Zd,List.getElem?_drop]
 have gb:∀i,i<c->gA (p.extract (pre.length+X.length) (pre.length+X.length+c)) i=Y.getD i 0:=fun i hi=>by rw[aA,lb,Zd,Zd,List.getElem?_take,if_pos hi]
 have M:MF lt N (p.extract (pre.length+k) (pre.length+X.length)) (p.extract (pre.length+X.length) (pre.length+X.length+c)):=by
  refine⟨rY (by rw[la];exact hX.sublist (Ym _ _)),rY (by rw[lb];exact hY.sublist (Ya _ _)),fun i j hi hj e=>?_,fun i hi=>?_,fun i hi=>?_,by omega,by omega,?_,fun j hj=>?_⟩
  ·rw[ga,gb j (by omega)]at e ⊢;exact⟨e,.inr (hXY _ (cz (by omega)) _ (cz (by omega)))⟩
  ·rw[ga];exact nX _ (cz (by omega))
  ·rw[gb i (by omega)];exact nY _ (cz (by omega))
  ·rw[ga,gb 0 (by omega)];exact k3 _ (by omega) (by omega)
  ·rw[ga,gb j (by omega),sza,show k+(X.length-k-1)=X.length-1 by omega];exact c2 j (by omega)
 have fin:∀(r:Array Keyed) (st2 st3:SortSt),Gd lt (kas_item it) (p.extract (pre.length+k) (pre.length+X.length)) (p.extract (pre.length+X.length) (pre.length+X.length+c)) r->kindOf st2=κ->failedOf st2=none->arrOf st2=p.map (kas_item it)->pendingOf st2=((pendingOf st).setIfInBounds i (pre.length,X.length+Y.length,pw)).eraseIdxIfInBounds (i+1)->SG' st2 st3 ->
   wpS (model prog w) A E s (do
    modify fun st=>setArr st (jK (arrOf st) (pre.length+k) r)
    return (failedOf (←get)).isNone) Q st3:=fun r st2 st3 ⟨q,eq,qs,qp⟩ j1 j2 j3 j4 ⟨g,eg⟩=>by
  subst eg;subst eq;rw[la,lb]at qp;have ql:q.size=X.length-k+c:=by have:=qp.length_eq;rw[Zn,Yj,ZN,Zk]at this;omega
  obtain⟨p',ep,lp⟩:=zG (f:=kas_item it) (p:=p) (q:=q) (at0:=pre.length+k) (by omega);have lp':p'.toList=pre++((X.take k++(q.toList++Y.drop c))++post):=by rw[lp,hp,List.take_append,ZJ (by omega),Z2,List.take_append,show k-X.length=0 by omega,List.take_zero,Z3];rw[ZE,ZE,ZE];congr 2;congr 1;rw[ql,show pre.length+k+(X.length-k+c)=pre.length+X.length+c by omega,<-ZE,List.drop_append,YK (by simp),YN,Zn,Z2,List.drop_append,show c-Y.length=0 by omega,List.drop_zero]
  refine Zg (wpS_modify (Zg (wpS_get ?_)));have hcr:∀x∈X,∀y∈Y.drop c,Lx lt x y:=fun x hx y hy=>by
   have hm:=List.mem_of_mem_drop hy;obtain⟨j,d1,d2,rfl⟩:=iR hy;obtain⟨i,i1,rfl⟩:=oG hx;refine⟨?_,.inr (hXY _ hx _ hm)⟩;cases e:lt (Y.getD j 0) (X.getD i 0)with
   |false=>rfl
   |true=>rw[<-c3 j d1 d2];exact(oi O hX (show i<=X.length-1 by omega) (by omega) e).symm
  have sX:=ZL.mp (show(X.take k++X.drop k).Pairwise (Lx lt) by rw[ZX];exact hX);have sY:=ZL.mp (show(Y.take c++Y.drop c).Pairwise (Lx lt) by rw[ZX];exact hY);have pwW:(X.take k++(q.toList++Y.drop c)).Pairwise (Lx lt):=by
   refine ZL.mpr ⟨sX.1,ZL.mpr ⟨qs,sY.2.1,fun x hx y hy=>?_⟩,fun x hx y hy=>?_⟩
   ·rcases ZA.mp (qp.mem_iff.mp hx)with hx|hx
    ·exact hcr x (List.mem_of_mem_drop hx) y hy
    ·exact sY.2.2 x hx y hy
   ·rcases ZA.mp hy with hy|hy
    ·rcases ZA.mp (qp.mem_iff.mp hy)with hy|hy
     ·exact sX.2.2 x hx y hy
     ·exact low x hx y (List.mem_of_mem_take hy)
    ·exact low x hx y (List.mem_of_mem_drop hy)
  have pmW:(X.take k++(q.toList++Y.drop c)).Perm (X++Y):=by refine((qp.append_right (Y.drop c)).append_left (X.take k)).trans ?_;rw[ZE,ZX,<-ZE,ZX]
  have ea:jK (arrOf (jI st2 g)) (pre.length+k) (q.map (kas_item it))=p'.map (kas_item it):=by show jK (arrOf st2) (pre.length+k) (q.map (kas_item it))=_;rw[j3];exact ep
  have eF:(failedOf (setArr (jI st2 g) (jK (arrOf (jI st2 g)) (pre.length+k) (q.map (kas_item it))))).isNone=true:=by show(failedOf st2).isNone=true;rw[j2];rfl
  rw[eF];exact Zl (h _ p' _ j1 j2 ea lp' pwW pmW j4)
 rw[bq,bq];refine ao (fun _=>?_) fun _=>?_
 ·exact Zg (C6 Z O M hk fun r st3 hr g=>fin r (setPending st (((pendingOf st).setIfInBounds i (pre.length,X.length+Y.length,pw)).eraseIdxIfInBounds (i+1))) st3 hr hk hf ha rfl g)
 ·exact Zg (C5 Z O M hk fun r st3 hr g=>fin r (setPending st (((pendingOf st).setIfInBounds i (pre.length,X.length+Y.length,pw)).eraseIdxIfInBounds (i+1))) st3 hr hk hf ha rfl g)
end
open PySem PyProof.Rows PySem.W
theorem KW.unbind{α β:Type}{lt:Nat->Nat->Bool}{Q:β->Prop}{f:α->KasT β}:∀{t:KasT α},KW lt Q (t.bind f)->KW lt (fun a=>KW lt Q (f a)) t
 |.ret _,h=>h
 |.ask i j k,h=>KW.unbind (t:=k (lt i j)) h
def pj(pre u:Array Nat):Array Nat:=pre++u.map (pre.size+·)
theorem iV(pre u:Array Nat):(pj pre u).size=pre.size+u.size:=by simp[pj]
theorem dM(pre u:Array Nat)(k:Nat):(pj pre u)[k]?=if k<pre.size then pre[k]? else(u[k-pre.size]?).map (pre.size+·):=by
 unfold pj;rw[Array.getElem?_append];split
 ·rfl
 ·rw[Array.getElem?_map]
theorem xy{pre u:Array Nat}{k:Nat}(hk:k<u.size):gA (pj pre u) (pre.size+k)=pre.size+gA u k:=by rw[fu,fu,dM,if_neg (by omega),Z2];simp[hk]
theorem Bc{pre u:Array Nat}{i j:Nat}(hj:j<=u.size):kas_rev (pj pre u) (pre.size+i) (pre.size+j)=pj pre (kas_rev u i j):=by
 apply Array.ext_getElem?;intro k;unfold kas_rev;rw[getElem?_mirror_all (by rw[iV];omega),dM,dM,dM,getElem?_mirror_all hj];by_cases h0:k<pre.size
 ·rw[if_neg (by omega),if_pos h0,if_pos h0]
 ·rw[if_neg h0,if_neg h0];by_cases h1:i<=k-pre.size/\k-pre.size<j
  ·rw[if_pos (by omega),if_neg (by omega),if_pos h1];congr 2;omega
  ·rw[if_neg (by omega),if_neg h1]
theorem Bb{pre u:Array Nat}{k d:Nat}(hk:k<u.size)(hd:d<=k):bubble (pj pre u) (pre.size+k) d=pj pre (bubble u k d):=by
 apply Array.ext_getElem?;intro i;rw[getElem?_bubble (by rw[iV];omega) d (by omega),dM,dM,dM,dM,getElem?_bubble hk d hd];by_cases h0:i<pre.size
 ·rw[if_neg (by omega),if_neg (by omega),if_pos h0,if_pos h0]
 ·rw[if_neg h0,if_neg h0];by_cases h1:i-pre.size=k-d
  ·rw[if_pos (by omega),if_pos h1,if_neg (by omega),Z2]
  ·rw[if_neg (by omega),if_neg h1];by_cases h2:k-d<i-pre.size/\i-pre.size<=k
   ·rw[if_pos (by omega),if_pos h2,if_neg (by omega)];congr 2;omega
   ·rw[if_neg (by omega),if_neg h2]
section
variable{prog:Program}{w:World}{A:Around}{E:Value->Shared->Prop}{s:Shared}{κ:SortKind}{it:Array Keyed}{lt:Nat->Nat->Bool}{N:Nat}{st:SortSt}{pre u:Array Nat}
def stQ(it:Array Keyed)(st:SortSt)(q:Array Nat):SortSt:=setArr st (q.map (kas_item it))
structure Zp(prog:Program)(w:World)(A:Around)(s:Shared)(κ:SortKind)(it:Array Keyed)(lt:Nat->Nat->Bool)(N:Nat)(st:SortSt)(pre:Array Nat)(n:Nat):Prop where
 Z:Zc prog w A s κ it lt N
 hk:kindOf st=κ
 hN:pre.size+n=N
 n0:0<n
def ltS(lt:Nat->Nat->Bool)(lo:Nat):Nat->Nat->Bool:=fun i j=>lt (lo+i) (lo+j)
theorem kO{n:Nat}(P:Zp prog w A s κ it lt N st pre n)(hu:POk n u){i j:Nat}(hi:i<n)(hj:j<n){Q:Option Bool->SortSt->Prop}(h:Q (some (ltS lt pre.size (gA u i) (gA u j))) (stQ it st (pj pre u))):wpS (model prog w) A E s (ltAt' (pre.size+i) (pre.size+j)) Q (stQ it st (pj pre u)):=by
 have hz:u.size=n:=by have:=hu.size_eq;simpa using this
 have hN:=P.hN;rw[ltAt'_eq];refine Zg (wpS_get ?_);have ea:arrOf (stQ it st (pj pre u))=(pj pre u).map (kas_item it):=rfl;rw[ea];refine Zg (aM (by rw[iV];omega) (Zg (aM (by rw[iV];omega) ?_)));rw[xy (by omega),xy (by omega)];have b1:=hu.lt P.n0 i;have b2:=hu.lt P.n0 j;exact pG P.Z P.hk (by unfold gA;omega) (by unfold gA;omega) h
theorem ny{n:Nat}(hu:POk n u){i j:Nat}(hj:j<=n){Q:Unit->SortSt->Prop}(h:Q () (stQ it st (pj pre (kas_rev u i j)))):wpS (model prog w) A E s (reverseSlice' (pre.size+i) (pre.size+j)) Q (stQ it st (pj pre u)):=by
 have hz:u.size=n:=by have:=hu.size_eq;simpa using this
 rw[reverseSlice'_eq];refine wpS_modify ?_;have e1:mirror ((pj pre u).map (kas_item it)) (pre.size+i) (pre.size+j) ((pre.size+j-(pre.size+i)) / 2)=(kas_rev (pj pre u) (pre.size+i) (pre.size+j)).map (kas_item it):=kas_swaps_map (kas_item it) (fun k=>pre.size+i+k) (fun k=>pre.size+j-1-k) _ (pj pre u);have e2:setArr (stQ it st (pj pre u)) (mirror (arrOf (stQ it st (pj pre u))) (pre.size+i) (pre.size+j) ((pre.size+j-(pre.size+i)) / 2))=stQ it st (pj pre (kas_rev u i j)):=by show setArr st (mirror ((pj pre u).map (kas_item it)) (pre.size+i) (pre.size+j) ((pre.size+j-(pre.size+i)) / 2))=setArr st ((pj pre (kas_rev u i j)).map (kas_item it));rw[e1,Bc (by omega)]
 rw[e2];exact h
theorem CL{n:Nat}(hu:POk n u){k l:Nat}(hk:k<n){Q:Unit->SortSt->Prop}(h:Q () (stQ it st (pj pre (bubble u k (k-l))))):wpS (model prog w) A E s (moveDown' (pre.size+k) (pre.size+l)) Q (stQ it st (pj pre u)):=by
 have hz:u.size=n:=by have:=hu.size_eq;simpa using this
 rw[moveDown'_eq];refine wpS_modify ?_;have e1:bubble ((pj pre u).map (kas_item it)) (pre.size+k) (pre.size+k-(pre.size+l))=(bubble (pj pre u) (pre.size+k) (pre.size+k-(pre.size+l))).map (kas_item it):=kas_swaps_map (kas_item it) (fun i=>pre.size+k-i) (fun i=>pre.size+k-i-1) _ (pj pre u);have e2:setArr (stQ it st (pj pre u)) (bubble (arrOf (stQ it st (pj pre u))) (pre.size+k) (pre.size+k-(pre.size+l)))=stQ it st (pj pre (bubble u k (k-l))):=by show setArr st (bubble ((pj pre u).map (kas_item it)) (pre.size+k) (pre.size+k-(pre.size+l)))=setArr st ((pj pre (bubble u k (k-l))).map (kas_item it));rw[e1,show pre.size+k-(pre.size+l)=k-l by omega,Bb (by omega) (by omega)]
 rw[e2];exact h
def mW(lo m nr:Nat):StateT SortSt Sem (Option Nat):=do
 reverseSlice' lo (lo+m)
 let mut m:=m
 for _ in[m:nr]do
  let some sm ←ltAt' (lo+m) (lo+m-1)|return none
  if sm then break
  m:=m+1
 return some m
def xg(lo m nr:Nat):StateT SortSt Sem (Option Nat):=do
 liftM (rule "list.sort.descending-run");let mut m:=m+1;let mut qe:=0
 for _ in[m:nr]do
  let some sm ←ltAt' (lo+m) (lo+m-1)|return none
  if sm then
   if qe>0 then reverseSlice' (lo+m-(qe+1)) (lo+m)
   qe:=0
  else
   let some la ←ltAt' (lo+m-1) (lo+m)|return none
   if la then break
   qe:=qe+1
  m:=m+1
 if qe>0 then do
  reverseSlice' (lo+m-(qe+1)) (lo+m)
  mW lo m nr
 else mW lo m nr
theorem xR{n:Nat}(P:Zp prog w A s κ it lt N st pre n)(hu:POk n u){m0:Nat}(h0:1<=m0)(hm:m0<=n){R:Nat->Prop}(hr:KW (ltS lt pre.size) R (kas_asc u (n - m0) m0)){f:Nat->Option (Option Nat)×Nat->StateT SortSt Sem (ForInStep (Option (Option Nat)×Nat))}(ef:∀ i m,f i (none,m)=(do
   let r ←ltAt' (pre.size+m) (pre.size+m-1)
   match r with
   |some sm=>if sm=true then pure (ForInStep.done (none,m))else pure (ForInStep.yield (none,m+1))
   | _=>pure (ForInStep.done (some none,m)))){Q:Option (Option Nat)×Nat->SortSt->Prop}(h:∀ m,m0<=m->m<=n->R m->Q (none,m) (stQ it st (pj pre u))) :
  wpS (model prog w) A E s (forIn [m0:n] ((none,m0):Option (Option Nat)×Nat) f) Q (stQ it st (pj pre u)):=by
 refine Z8 (I:=fun i c st'=>c=(none,i)/\st'=stQ it st (pj pre u)/\i<=n/\KW (ltS lt pre.size) R (kas_asc u (n-i) i)) ?_ ?_ ⟨rfl,rfl,hm,hr⟩
 ·rintro i c st' hi1 hi2 ⟨rfl,rfl,hi3,hkw⟩;rw[ef];rw[show n-i=(n-(i+1))+1 by omega]at hkw;have hkw':KW (ltS lt pre.size) R (if ltS lt pre.size (gA u i) (gA u (i-1))=true then .ret i else kas_asc u (n-(i+1)) (i+1)):=hkw;rw[show pre.size+i-1=pre.size+(i-1) by omega];refine Zg (kO P hu hi2 (by omega) ?_);refine ao (fun e=>?_) fun e=>?_
  ·rw[if_pos e]at hkw';exact Zl (h i hi1 hi3 hkw')
  ·rw[if_neg e]at hkw';exact Zl ⟨rfl,rfl,by omega,hkw'⟩
 ·rintro c st' ⟨rfl,rfl,hi3,hkw⟩;rw[Nat.max_eq_right hm]at hkw ⊢;rw[Nat.sub_self]at hkw;exact h n hm (Ze _) hkw
theorem uZ{n:Nat}(P:Zp prog w A s κ it lt N st pre n)(hu:POk n u){m0:Nat}(h0:1<=m0)(hm:m0<=n){G:Nat×Array Nat->Prop}{Q:Option Nat->SortSt->Prop}(hr:KW (ltS lt pre.size) G (kas_tail3 m0 n u))(h:∀m u',POk n u'->1<=m->m<=n->G (m,u')->Q (some m) (stQ it st (pj pre u'))) :
  wpS (model prog w) A E s (mW pre.size m0 n) Q (stQ it st (pj pre u)):=by
 unfold mW;have hr':=KW.unbind hr;have z:=ny (prog:=prog) (w:=w) (A:=A) (E:=E) (s:=s) (it:=it) (st:=st) (pre:=pre) (i:=0) (j:=m0) hu hm (Q:=fun _ st'=>st'=stQ it st (pj pre (kas_rev u 0 m0))) rfl;rw[Nat.add_zero]at z;refine Zg (y6 z fun _ st' e=>?_);subst e;refine Zg (xR P (hu.rev 0 m0) h0 hm hr' (fun i m=>rfl) fun m h1 h2 h3=>?_);exact Zl (h m _ (hu.rev 0 m0) (by omega) h2 h3)
end
open PySem PyProof.Rows PySem.W
section
variable{lt:Nat->Nat->Bool}(O:LtOk lt){N:Nat}
include O
theorem qi:∀(f:Nat) {p:Array Nat} {k:Nat},k+f<=N->1<=k->Fx N p k->LS lt p k->KW lt (fun p=>Fx N p (k+f)/\LS lt p (k+f)) (kas_bin f p k)
 |0,p,k,e,_,hf,hs=>⟨hf,hs⟩
 |f+1,p,k,e,h1,hf,hs=>by
  refine KW.bind (KW.mono (fun m hm=>?_) (gG O hs k 0 k (by omega) (Ze _) (fun i hi=>absurd hi (by omega)) (fun i h2 h3=>absurd h2 (by omega)) (ZO _)));obtain⟨m1,m2,m3⟩:=hm;have hk:k<p.size:=by rw[hf.sz];omega
  have gk:gA p k=k:=hf.hi k (Ze _) (by omega);have ekm:k-(k-m)=m:=by omega
  have gb:∀i,gA (bubble p k (k-m)) i=if i=m then gA p k else if m<i/\i<=k then gA p (i-1)else gA p i:=fun i=>by rw[sZ hk (by omega),ekm]
  rw[show k+(f+1)=k+1+f by omega];refine qi f (by omega) (by omega) ⟨by rw[bubble_size];exact hf.sz,fun i h2 h3=>?_,fun i hi=>?_⟩ (fun i j hij hj=>?_)
  ·rw[gb,if_neg (by omega),if_neg (by omega)];exact hf.hi i (by omega) h3
  ·rw[gb];split
   ·rw[gk];omega
   ·split
    ·have:=hf.lo (i-1) (by omega);omega
    ·have:=hf.lo i (by omega);omega
  ·have lk:∀i,i<m->Lx lt (gA p i) (gA p k):=fun i hi=>⟨m2 i hi,.inr (by rw[gk];exact hf.lo i (by omega))⟩
   have gt:∀i,m<=i->i<k->Lx lt (gA p k) (gA p i):=fun i h2 h3=>Lx.of_lt O (m3 i h2 h3);rw[gb,gb];by_cases a1:i=m
   ·rw[if_pos a1,if_neg (by omega),if_pos (by omega)];exact gt _ (by omega) (by omega)
   ·rw[if_neg a1];by_cases a2:m<i/\i<=k
    ·rw[if_pos a2,if_neg (by omega),if_pos (by omega)];exact hs _ _ (by omega) (by omega)
    ·rw[if_neg a2];by_cases b1:j=m
     ·rw[if_pos b1];exact lk i (by omega)
     ·rw[if_neg b1];by_cases b2:m<j/\j<=k
      ·rw[if_pos b2];exact hs _ _ (by omega) (by omega)
      ·rw[if_neg b2];exact hs _ _ hij (by omega)
end
section
variable{prog:Program}{w:World}{A:Around}{E:Value->Shared->Prop}{s:Shared}{κ:SortKind}{it:Array Keyed}{lt:Nat->Nat->Bool}{N:Nat}{st:SortSt}{pre u:Array Nat}
theorem uS{n:Nat}(P:Zp prog w A s κ it lt N st pre n)(hu:POk n u){m0:Nat}(h0:1<=m0)(hm:m0+1<=n){G:Nat×Array Nat->Prop}{Q:Option Nat->SortSt->Prop}(hr:KW (ltS lt pre.size) G (kas_descPart m0 n u))(h:∀m u',POk n u'->1<=m->m<=n->G (m,u')->Q (some m) (stQ it st (pj pre u'))) :
  wpS (model prog w) A E s (xg pre.size m0 n) Q (stQ it st (pj pre u)):=by
 unfold xg;have hr':=KW.unbind hr;refine Zg (wpS_lift (ZU ⟨rfl,?_⟩));refine Zg (y6 (Z8 (I:=fun i c st'=>∃ u' q,c=(none,i,q)/\st'=stQ it st (pj pre u')/\POk n u'/\i<=n/\q+1<=i/\KW (ltS lt pre.size) (fun r=>KW (ltS lt pre.size) G (if r.2.2>0 then kas_tail3 r.2.1 n (kas_rev r.1 (r.2.1 - (r.2.2+1)) r.2.1) else kas_tail3 r.2.1 n r.1)) (kas_desc (n - i) u' i q))
  (Q:=fun c st'=>∃ u' m q,c=(none,m,q)/\st'=stQ it st (pj pre u')/\POk n u'/\1<=m/\m<=n/\q+1<=m/\KW (ltS lt pre.size) G (if q>0 then kas_tail3 m n (kas_rev u' (m - (q+1)) m) else kas_tail3 m n u')) ?step ?fin ⟨u,0,rfl,rfl,hu,hm,by omega,hr'⟩) ?post)
 case fin =>rintro c st' ⟨u',q,rfl,rfl,hu',h1,h2,h3⟩;rw[Nat.max_eq_right hm]at h1 h2 h3 ⊢;rw[Nat.sub_self]at h3;exact⟨u',n,q,rfl,rfl,hu',by omega,Ze _,h2,h3⟩
 case post =>
  rintro c st' ⟨u',m,q,rfl,rfl,hu',h1,h2,h3,h4⟩;dsimp only;refine ao (fun hq=>?_) fun hq=>?_
  ·rw[if_pos hq]at h4;rw[show pre.size+m-(q+1)=pre.size+(m-(q+1)) by omega];exact Zg (ny hu' h2 (uZ P (hu'.rev _ _) h1 h2 h4 h))
  ·rw[if_neg hq]at h4;exact uZ P hu' h1 h2 h4 h
 case step =>
  rintro i c st' hi1 hi2 ⟨u',q,rfl,rfl,hu',h1,h2,h3⟩;dsimp only;rw[show n-i=(n-(i+1))+1 by omega]at h3;generalize hR:(fun r:Array Nat×Nat×Nat=>KW (ltS lt pre.size) G (if r.2.2>0 then kas_tail3 r.2.1 n (kas_rev r.1 (r.2.1-(r.2.2+1)) r.2.1)else kas_tail3 r.2.1 n r.1))=R at h3 ⊢;have h3':KW (ltS lt pre.size) R (if ltS lt pre.size (gA u' i) (gA u' (i - 1))=true then (if q>0 then kas_desc (n - (i+1)) (kas_rev u' (i - (q+1)) i) (i+1) 0 else kas_desc (n - (i+1)) u' (i+1) 0)
   else KasT.ask (gA u' (i - 1)) (gA u' i) fun d=>if d=true then .ret (u',i,q) else kas_desc (n - (i+1)) u' (i+1) (q+1)):=h3
  rw[show pre.size+i-1=pre.size+(i-1) by omega];refine Zg (kO P hu' hi2 (by omega) ?_);refine ao (fun e=>?_) fun e=>?_
  ·rw[if_pos e]at h3';refine ao (fun hq=>?_) fun hq=>?_
   ·rw[if_pos hq]at h3';rw[show pre.size+i-(q+1)=pre.size+(i-(q+1)) by omega];exact Zg (ny hu' h1 (Zl ⟨_,0,rfl,rfl,hu'.rev _ _,by omega,by omega,h3'⟩))
   ·rw[if_neg hq]at h3';exact Zl ⟨_,0,rfl,rfl,hu',by omega,by omega,h3'⟩
  ·rw[if_neg e]at h3';have h3'':KW (ltS lt pre.size) R (if ltS lt pre.size (gA u' (i-1)) (gA u' i)=true then .ret (u',i,q)else kas_desc (n-(i+1)) u' (i+1) (q+1)):=h3';refine Zg (kO P hu' (by omega) hi2 ?_);refine ao (fun e2=>?_) fun e2=>?_
   ·rw[if_pos e2]at h3'';have h5:R (u',i,q):=h3'';rw[<-hR]at h5;exact Zl ⟨u',i,q,rfl,rfl,hu',by omega,h1,h2,h5⟩
   ·rw[if_neg e2]at h3'';exact Zl ⟨_,q+1,rfl,rfl,hu',by omega,by omega,h3''⟩
theorem zH{n:Nat}(P:Zp prog w A s κ it lt N st pre n)(hu:POk n u){G:Nat×Array Nat->Prop}{Q:Option Nat->SortSt->Prop}(hr:KW (ltS lt pre.size) G (kas_count n u))(h:∀m u',POk n u'->1<=m->m<=n->G (m,u')->Q (some m) (stQ it st (pj pre u'))) :
  wpS (model prog w) A E s (countRun' pre.size n) Q (stQ it st (pj pre u)):=by
 have n0:=P.n0;have hr':=KW.unbind hr;rw[countRun'_eq];refine Zg (xR P hu (Ze 1) n0 hr' (fun i m=>rfl) fun m h1 h2 h3=>?_);dsimp only;refine ao (fun e=>?_) fun e=>?_
 ·rw[if_pos e]at h3;exact Zl (h m u hu h1 h2 h3)
 ·rw[if_neg e]at h3;have hlt:m+1<=n:=by
   have:m≠n:=by simpa using e
   omega
  refine ao (fun e2=>?_) fun e2=>?_
  ·rw[if_pos e2]at h3;have h3':KW (ltS lt pre.size) G (if ltS lt pre.size (gA u 0) (gA u (m-1))=true then .ret (m,u)else kas_descPart m n (kas_rev u 0 m)):=h3;have z:=kO (E:=E) P hu (i:=0) (j:=m-1) n0 (by omega) (Q:=fun r st'=>r=some (ltS lt pre.size (gA u 0) (gA u (m-1)))/\st'=stQ it st (pj pre u)) ⟨rfl,rfl⟩;rw[Nat.add_zero]at z;rw[show pre.size+m-1=pre.size+(m-1) by omega];refine Zg (y6 z fun r st' hz=>?_);obtain⟨rfl,rfl⟩:=hz;refine ao (fun e3=>?_) fun e3=>?_
   ·rw[if_pos e3]at h3';exact Zl (h m u hu h1 h2 h3')
   ·rw[if_neg e3]at h3';have z:=ny (prog:=prog) (w:=w) (A:=A) (E:=E) (s:=s) (it:=it) (st:=st) (pre:=pre) (i:=0) (j:=m) hu h2 (Q:=fun _ st'=>st'=stQ it st (pj pre (kas_rev u 0 m))) rfl;rw[Nat.add_zero]at z;refine Zg (y6 z fun _ st' ez=>?_);subst ez;exact uS P (hu.rev 0 m) h1 hlt h3' h
  ·rw[if_neg e2]at h3;exact uS P hu h1 hlt h3 h
theorem CJ{n nf ok:Nat}(P:Zp prog w A s κ it lt N st pre n)(hu:POk n u)(hn:nf<=n){G:Array Nat->Prop}{Q:Bool->SortSt->Prop}(hr:KW (ltS lt pre.size) G (kas_bin (nf-max ok 1) u (max ok 1)))(h:∀u',POk n u'->G u'->Q true (stQ it st (pj pre u'))) :
  wpS (model prog w) A E s (binarySort' pre.size nf ok) Q (stQ it st (pj pre u)):=by
 rw[binarySort'_eq];refine Zg (y6 (Z8 (I:=fun k c st'=>∃ u',c=(none,())/\st'=stQ it st (pj pre u')/\POk n u'/\KW (ltS lt pre.size) G (kas_bin (nf - k) u' k))
  (Q:=fun c st'=>∃ u',c=(none,())/\st'=stQ it st (pj pre u')/\POk n u'/\G u') ?step ?fin ⟨u,rfl,rfl,hu,hr⟩) ?post)
 case fin =>rintro c st' ⟨u',rfl,rfl,hu',h1⟩;rw[show nf-max (max ok 1) nf=0 by omega]at h1;exact⟨u',rfl,rfl,hu',h1⟩
 case post =>rintro c st' ⟨u',rfl,rfl,hu',h1⟩;exact Zl (h u' hu' h1)
 case step =>
  rintro k c st' hk1 hk2 ⟨u',rfl,rfl,hu',h1⟩;dsimp only;rw[show nf-k=(nf-(k+1))+1 by omega]at h1;have h1':=KW.unbind (show KW (ltS lt pre.size) G ((kas_place u' k k 0 k).bind fun l=>kas_bin (nf-(k+1)) (bubble u' k (k-l)) (k+1))from h1);generalize hR:(fun l:Nat=>KW (ltS lt pre.size) G (kas_bin (nf-(k+1)) (bubble u' k (k-l)) (k+1)))=R at h1';refine Zg (y6 (Z8 (I:=fun x c st'=>∃ l r,c=(none,l,r)/\st'=stQ it st (pj pre u')/\r<=k/\KW (ltS lt pre.size) R (kas_place u' k (k - x) l r))
   (Q:=fun c st'=>∃ l r,c=(none,l,r)/\st'=stQ it st (pj pre u')/\R l) ?istep ?ifin ⟨0,k,rfl,rfl,Ze _,h1'⟩) ?ipost)
  case ifin =>rintro c st' ⟨l,r,rfl,rfl,g1,g2⟩;rw[show k-max 0 k=0 by omega]at g2;exact⟨l,r,rfl,rfl,g2⟩
  case ipost =>rintro c st' ⟨l,r,rfl,rfl,g2⟩;rw[<-hR]at g2;exact Zg (CL hu' (by omega) (Zl ⟨_,rfl,rfl,hu'.bub _ _,g2⟩))
  case istep =>
   rintro x c st' _ hx ⟨l,r,rfl,rfl,g1,g2⟩;dsimp only;rw[show k-x=(k-(x+1))+1 by omega]at g2;have g2':KW (ltS lt pre.size) R (if l>=r then KasT.ret l else KasT.ask (gA u' k) (gA u' ((l+r) / 2)) fun c=>if c=true then kas_place u' k (k-(x+1)) l ((l+r) / 2)else kas_place u' k (k-(x+1)) ((l+r) / 2+1) r):=g2;refine ao (fun e=>?_) fun e=>?_
   ·rw[if_pos e]at g2';exact Zl ⟨l,r,rfl,rfl,g2'⟩
   ·rw[if_neg e]at g2';have g3:KW (ltS lt pre.size) R (if ltS lt pre.size (gA u' k) (gA u' ((l+r) / 2))=true then kas_place u' k (k-(x+1)) l ((l+r) / 2)else kas_place u' k (k-(x+1)) ((l+r) / 2+1) r):=g2';refine Zg (kO P hu' (by omega) (by omega) ?_);refine ao (fun e2=>?_) fun e2=>?_
    ·rw[if_pos e2]at g3;exact Zl ⟨l,(l+r) / 2,rfl,rfl,by omega,g3⟩
    ·rw[if_neg e2]at g3;exact Zl ⟨(l+r) / 2+1,r,rfl,rfl,by omega,g3⟩
end
open PySem PyProof.Rows PySem.W
section
variable{lt:Nat->Nat->Bool}
def RunsL(lt:Nat->Nat->Bool):Nat->List (List Nat)->List (Nat×Nat×Nat)->Prop
 |_,[],[]=>True
 |b,r::rs,t::ts=>t.1=b/\t.2.1=r.length/\0<r.length/\r.Pairwise (Lx lt)/\r.Perm (List.range' b r.length)/\RunsL lt (b+r.length) rs ts
 |_,_,_=>False
theorem RunsL.len:∀{b:Nat} {rs:List (List Nat)} {ts:List (Nat×Nat×Nat)},RunsL lt b rs ts->rs.length=ts.length/\rs.length<=rs.flatten.length
 |_,[],[],_=>⟨rfl,Ze _⟩
 |_,r::rs,t::ts,⟨_,_,h,_,_,k⟩=>by have:=RunsL.len k;rw[Zt,Zt,List.flatten_cons,Zn];omega
theorem RunsL.snoc{r:List Nat}{x:Nat}(h0:0<r.length)(h1:r.Pairwise (Lx lt)):∀{b:Nat} {rs:List (List Nat)} {ts:List (Nat×Nat×Nat)},RunsL lt b rs ts->r.Perm (List.range' (b+rs.flatten.length) r.length)->RunsL lt b (rs++[r]) (ts++[(b+rs.flatten.length,r.length,x)])
 |_,[],[],_,hp=>⟨rfl,rfl,h0,h1,hp,trivial⟩
 |b,q::rs,t::ts,⟨e1,e2,e3,e4,e5,k⟩,hp=>by rw[List.flatten_cons,Zn,<-Nat.add_assoc]at hp;have ih:=RunsL.snoc (x:=x) h0 h1 k hp;rw[List.flatten_cons,Zn,<-Nat.add_assoc];exact⟨e1,e2,e3,e4,e5,ih⟩
theorem RunsL.pow{g:Nat×Nat×Nat->Nat×Nat×Nat}(hg:∀t,(g t).1=t.1/\(g t).2.1=t.2.1):∀(i:Nat) {b:Nat} {rs:List (List Nat)} {ts:List (Nat×Nat×Nat)},RunsL lt b rs ts->RunsL lt b rs (ts.modify i g)
 |_,_,[],[],_=>by rw[List.modify_nil];trivial
 |0,_,r::rs,t::ts,⟨e1,e2,e3,e4,e5,k⟩=>by rw[List.modify_zero_cons];exact⟨(hg t).1.trans e1,(hg t).2.trans e2,e3,e4,e5,k⟩
 |i+1,_,r::rs,t::ts,⟨e1,e2,e3,e4,e5,k⟩=>by rw[List.modify_succ_cons];exact⟨e1,e2,e3,e4,e5,RunsL.pow hg i k⟩
theorem RunsL.two:∀(i:Nat) {b:Nat} {rs:List (List Nat)} {ts:List (Nat×Nat×Nat)},RunsL lt b rs ts->i+1<ts.length->∃rs1 X Y rs2 pw pw2,rs=rs1++X::Y::rs2/\0<X.length/\0<Y.length/\X.Pairwise (Lx lt)/\Y.Pairwise (Lx lt)/\(∀x∈X,∀y∈Y,x<y) /\
  ts[i]?=some (b+rs1.flatten.length,X.length,pw)/\ts[i+1]?=some (b+rs1.flatten.length+X.length,Y.length,pw2) /\
  ∀W:List Nat,W.Pairwise (Lx lt)->W.Perm (X++Y)->RunsL lt b (rs1++W::rs2) ((ts.set i (b+rs1.flatten.length,X.length+Y.length,pw)).eraseIdx (i+1))
 |_,_,[],[],_,h=>absurd h (by simp)
 |0,b,X::[],t::[],_,h=>absurd h (by simp)
 |0,b,X::[],t::t2::ts,⟨_,_,_,_,_,k⟩,h=>k.elim
 |0,b,X::Y::rs,t::[],⟨_,_,_,_,_,k⟩,h=>k.elim
 |0,b,X::Y::rs,t::t2::ts,⟨e1,e2,e3,e4,e5,f1,f2,f3,f4,f5,k⟩,h=>by
  refine⟨[],X,Y,rs,t.2.2,t2.2.2,rfl,e3,f3,e4,f4,fun x hx y hy=>?_,?_,?_,fun W hw hp=>?_⟩
  ·have a1:=e5.mem_iff.mp hx;have a2:=f5.mem_iff.mp hy;rw[List.mem_range'_1]at a1 a2;omega
  ·show some t=some (b,X.length,t.2.2);rw[<-e1,<-e2]
  ·show some t2=some (b+X.length,Y.length,t2.2.2);rw[<-f1,<-f2]
  ·have hl:W.length=X.length+Y.length:=by rw[hp.length_eq,Zn]
   refine⟨rfl,hl.symm,by omega,hw,?_,?_⟩
   ·refine hp.trans ((e5.append f5).trans ?_);have:=List.range'_append (s:=b) (m:=X.length) (n:=Y.length) (step:=1);rw[Nat.one_mul]at this;rw[this,hl]
   ·rw[hl,<-Nat.add_assoc];exact k
 |i+1,b,r::rs,t::ts,⟨e1,e2,e3,e4,e5,k⟩,h=>by
  obtain⟨rs1,X,Y,rs2,pw,pw2,rfl,g1,g2,g3,g4,g5,g6,g7,g8⟩:=RunsL.two i k (by simpa using h);have el:b+(r::rs1).flatten.length=b+r.length+rs1.flatten.length:=by rw[List.flatten_cons,Zn,Nat.add_assoc]
  refine⟨r::rs1,X,Y,rs2,pw,pw2,rfl,g1,g2,g3,g4,g5,?_,?_,fun W hw hp=>?_⟩
  ·rw[List.getElem?_cons_succ,el];exact g6
  ·rw[List.getElem?_cons_succ,el];exact g7
  ·rw[el,List.set_cons_succ,List.eraseIdx_cons_succ];exact⟨e1,e2,e3,e4,e5,g8 W hw hp⟩
variable{prog:Program}{w:World}{A:Around}{E:Value->Shared->Prop}{s:Shared}{κ:SortKind}{it:Array Keyed}{N:Nat}{st:SortSt}
structure RI(κ:SortKind)(it:Array Keyed)(lt:Nat->Nat->Bool)(N lo:Nat)(T:List Nat)(p:Array Nat)(rs:List (List Nat))(st:SortSt):Prop where
 hk:kindOf st=κ
 hf:failedOf st=none
 ha:arrOf st=p.map (kas_item it)
 hp:p.toList=rs.flatten++T
 pm:p.toList.Perm (List.range N)
 rl:RunsL lt 0 rs (pendingOf st).toList
 hl:rs.flatten.length=lo
theorem xS(Z:Zc prog w A s κ it lt N)(O:LtOk lt){lo i:Nat}{T:List Nat}{p:Array Nat}{rs:List (List Nat)}(R:RI κ it lt N lo T p rs st)(hi:i+1<(pendingOf st).size){Q:Bool->SortSt->Prop}(h:∀st' p' rs',RI κ it lt N lo T p' rs' st'->(pendingOf st').size+1=(pendingOf st).size->Q true st'):wpS (model prog w) A E s (mergeAt' i) Q st:=by
 obtain⟨rs1,X,Y,rs2,pw,pw2,e0,g1,g2,g3,g4,g5,g6,g7,g8⟩:=R.rl.two i (by rw[Zk];exact hi);rw[Nat.zero_add]at g6 g7 g8;rw[YD]at g6 g7;refine C4 Z O (pre:=rs1.flatten) (X:=X) (Y:=Y) (post:=rs2.flatten++T) R.hk R.hf R.ha ?_ g3 g4 g1 g2 g5 (fun x hx=>Yr.mp (R.pm.mem_iff.mp hx)) g6 g7 fun st' p' W j1 j2 j3 j4 j5 j6 j7=>?_
 ·rw[R.hp,e0];simp
 ·refine h st' p' (rs1++W::rs2) ⟨j1,j2,j3,?_,?_,?_,?_⟩ ?_
  ·rw[j4];simp
  ·refine List.Perm.trans ?_ R.pm;rw[j4,R.hp,e0];have:(rs1.flatten++(W++(rs2.flatten++T))).Perm (rs1.flatten++((X++Y)++(rs2.flatten++T))):=(j6.append_right _).append_left _;refine this.trans (List.Perm.of_eq ?_);simp
  ·rw[j7];have:=g8 W j5 j6;rw[Array.eraseIdxIfInBounds,dif_pos (by rw[Array.size_setIfInBounds];exact hi),Array.toList_eraseIdx,Array.toList_setIfInBounds];exact this
  ·rw[<-R.hl,e0];have:=j6.length_eq;rw[Zn]at this;simp;omega
  ·rw[j7,Array.eraseIdxIfInBounds,dif_pos (by rw[Array.size_setIfInBounds];exact hi),Array.size_eraseIdx,Array.size_setIfInBounds];omega
theorem Ay(O:LtOk lt)(lo:Nat):LtOk (ltS lt lo):=⟨fun h=>O.as h,fun h k=>O.tr h k⟩
theorem vE{n:Nat}(hn:1<=n):Fx n (List.toArray (List.range n)) 1:=by
 have g:∀k,k<n->gA (List.toArray (List.range n)) k=k:=fun k hk=>by rw[fu];simp[hk]
 refine⟨by simp,fun k _ hk=>g k hk,fun i hi=>?_⟩;have e:i=0:=by omega
 subst e;rw[g 0 (by omega)];decide
theorem Bz{n m lo:Nat}{u pre:Array Nat}(hpre:pre.size=lo)(hu:POk n u)(F:Fx n u m)(S:LS (ltS lt lo) u m)(hm:m<=n):∃r:List Nat,r.length=m/\r.Pairwise (Lx lt)/\r.Perm (List.range' lo m)/\(pj pre u).toList=pre.toList++(r++List.range' (lo+m) (n-m)):=by
 have hz:u.toList.length=n:=by rw[Zk];exact F.sz
 have ed:u.toList.drop m=List.range' m (n-m):=by
  apply List.ext_getElem
  ·rw[Yj,List.length_range',hz]
  ·intro i h1 h2;rw[Yj,hz]at h1;rw[List.getElem_drop,List.getElem_range'];have:=F.hi (m+i) (by omega) (by omega);rw[aA,Zd,Zb (by omega)]at this;rw[Nat.one_mul];exact this
 have ep:u.toList.Perm (List.range n):=by have:=Array.perm_iff_toList_perm.mp hu;simpa using this
 have er:List.range n=List.range m++List.range' m (n-m):=by rw[List.range_eq_range',List.range_eq_range'];have:=List.range'_append (s:=0) (m:=m) (n:=n-m) (step:=1);rw[Nat.one_mul,Nat.zero_add]at this;rw[this];congr 1;omega
 have pt:(u.toList.take m).Perm (List.range m):=by have e:=ZX m u.toList;rw[ed]at e;rw[<-e,er]at ep;exact(List.perm_append_right_iff _).mp ep
 refine⟨(u.toList.take m).map (lo+·),by rw[Zi,ZN];omega,?_,?_,?_⟩
 ·rw[YQ];have hS:(u.toList.take m).Pairwise (Lx (ltS lt lo)):=by rw[y8];intro i j hi hj hij;rw[ZN]at hi hj;have:=S i j hij (by omega);rw[aA,aA,Zd,Zd,Zb (by omega),Zb (by omega)]at this;rw[List.getElem_take,List.getElem_take];exact this
  refine hS.imp fun{a b} hab=>⟨hab.1,?_⟩
  rcases hab.2 with x|x
  ·exact .inl x
  ·exact .inr (by omega)
 ·rw[List.range'_eq_map_range];exact pt.map _
 ·unfold pj;rw[ZD,Array.toList_map,hpre];congr 1;have e:=ZX m u.toList;rw[ed]at e
  conv=>lhs;rw[<-e]
  rw[Z4];congr 1;rw[List.range'_eq_map_range,List.range'_eq_map_range,List.map_map];apply List.map_congr_left;intro x _;show lo+(m+x)=lo+m+x;omega
end
open PySem PyProof.Rows PySem.W
section
variable{lt:Nat->Nat->Bool}{prog:Program}{w:World}{A:Around}{E:Value->Shared->Prop}{s:Shared}{κ:SortKind}{it:Array Keyed}{N:Nat}{st:SortSt}
theorem B1(Z:Zc prog w A s κ it lt N)(O:LtOk lt){lo mr:Nat}{p:Array Nat}{rs:List (List Nat)}(R:RI κ it lt N lo (List.range' lo (N - lo)) p rs st)(hlo:lo<N){β:Type}{g:Nat->StateT SortSt Sem β}{Q:β->SortSt->Prop}(h:∀ (m:Nat) (r:List Nat) (p':Array Nat) (st':SortSt),1<=m->lo+m<=N->r.length=m->r.Pairwise (Lx lt)->r.Perm (List.range' lo m)->RI κ it lt N lo (r++List.range' (lo+m) (N - (lo+m))) p' rs st'->pendingOf st'=pendingOf st->wpS (model prog w) A E s (g m) Q st'){bad:StateT SortSt Sem β}{k:Option Nat->StateT SortSt Sem β}(hk:∀ m,k (some m)=(if m<mr then do
    liftM (rule "list.sort.binary-insertion")
    let ok ←binarySort' lo (min (N-lo) mr) m
    if(!ok)=true then bad else g (min (N-lo) mr)
   else g m)):wpS (model prog w) A E s (countRun' lo (N - lo) >>= k) Q st:=by
 have hl:=R.hl;have O':LtOk (ltS lt (List.toArray rs.flatten).size):=Ay O _;have n0:1<=N-lo:=by omega
 have hz:(List.toArray rs.flatten).size=lo:=by rw[Zf];exact hl
 have pu:POk (N-lo) (List.toArray (List.range (N-lo))):=Array.Perm.refl _;have P:Zp prog w A s κ it lt N st (List.toArray rs.flatten) (N-lo):=⟨Z,R.hk,by omega,by omega⟩
 have ep:p=pj (List.toArray rs.flatten) (List.toArray (List.range (N-lo))):=by apply Array.toList_inj.mp;rw[R.hp];unfold pj;rw[ZD,Array.toList_map,YI,YI,hz,List.range'_eq_map_range]
 have est:st=stQ it st (pj (List.toArray rs.flatten) (List.toArray (List.range (N-lo)))):=by unfold stQ;rw[<-ep,<-R.ha]
 have fin:∀(m:Nat) (u':Array Nat),POk (N-lo) u'->1<=m->m<=N-lo->Fx (N-lo) u' m->LS (ltS lt (List.toArray rs.flatten).size) u' m->wpS (model prog w) A E s (g m) Q (stQ it st (pj (List.toArray rs.flatten) u')):=fun m u' hu h1 h2 h3 h4=>by
  rw[hz]at h4;obtain⟨r,r1,r2,r3,r4⟩:=Bz hz hu h3 h4 h2;refine h m r (pj (List.toArray rs.flatten) u') _ h1 (by omega) r1 r2 r3 ⟨R.hk,R.hf,rfl,?_,?_,R.rl,hl⟩ rfl
  ·rw[r4,YI,show N-(lo+m)=N-lo-m by omega]
  ·refine List.Perm.trans ?_ R.pm;rw[r4,R.hp,YI];refine List.Perm.append_left _ ?_;refine(r3.append_right _).trans (List.Perm.of_eq ?_);have:=List.range'_append (s:=lo) (m:=m) (n:=N-lo-m) (step:=1);rw[Nat.one_mul]at this;rw[this];congr 1;omega
 have kc:=oB O' (N:=N-lo) (p:=List.toArray (List.range (N-lo))) n0 (vE n0);rw[est];have zc:=zH (E:=E) (Q:=fun r st'=>wpS (model prog w) A E s (k r) Q st') P pu kc fun m u' hu h1 h2 hG=>by
  obtain⟨g1,g2,g3,g4⟩:=hG;rw[hk];refine ao (fun c=>?_) fun c=>?_
  ·refine Zg (wpS_lift (ZU ⟨rfl,?_⟩));have em:max m 1=m:=by omega
   have kb:=qi O' (N:=N-lo) (min (N-lo) mr-max m 1) (p:=u') (k:=max m 1) (by omega) (by omega) (by rw[em];exact g3) (by rw[em];exact g4);have zb:=CJ (E:=E) (nf:=min (N-lo) mr) (ok:=m) (Q:=fun r st'=>wpS (model prog w) A E s (if(!r)=true then bad else g (min (N-lo) mr)) Q st') P hu (by omega) kb fun u2 hu2 hG2=>by
    rw[if_neg (by simp)];have e2:max m 1+(min (N-lo) mr-max m 1)=min (N-lo) mr:=by omega
    rw[e2]at hG2;exact fin _ u2 hu2 (by omega) (by omega) hG2.1 hG2.2
   rw[hz]at zb;exact Zg zb
  ·exact fin m u' hu h1 h2 g3 g4
 rw[hz]at zc;exact Zg zc
def oH(N pw:Nat):StateT SortSt Sem (Option Unit×Unit):=forIn [0:N] ((none,()):Option Unit×Unit) fun _ _=>do
 let st ←get
 match(if(pendingOf st).size>1 then(pendingOf st)[(pendingOf st).size-2]? else none)with
 |some (_,_,old)=>if old<=pw then pure (.done (none,()))else do
  let ok ←mergeAt' ((pendingOf st).size-2)
  if(!ok)=true then pure (.done (some (),()))else pure (.yield (none,()))
 |_=>pure (.done (none,()))
def oN(N lo n:Nat):StateT SortSt Sem (ForInStep (Option Unit×Nat)):=do
 let st ←get
 match(pendingOf st).back? with
 |some (s1,n1,_)=>do
  let c ←oH N (power' N (2*s1+n1) (2*s1+n1+n1+n) N)
  match c.1 with
  |some r=>pure (.done (some r,lo))
  |none=>do
   modify fun st=>setPending st ((pendingOf st).modify ((pendingOf st).size-1) fun t=>(t.1,t.2.1,power' N (2*s1+n1) (2*s1+n1+n1+n) N))
   modify fun st=>setPending st ((pendingOf st).push (lo,n,0))
   pure (.yield (none,lo+n))
 |_=>do
  modify fun st=>setPending st ((pendingOf st).push (lo,n,0))
  pure (.yield (none,lo+n))
theorem CK(Z:Zc prog w A s κ it lt N)(O:LtOk lt){lo pw:Nat}{T:List Nat}{p:Array Nat}{rs:List (List Nat)}(R:RI κ it lt N lo T p rs st){Q:Option Unit×Unit->SortSt->Prop}(h:∀st' p' rs',RI κ it lt N lo T p' rs' st'->Q (none,()) st'):wpS (model prog w) A E s (oH N pw) Q st:=by
 unfold oH;refine Z8 (I:=fun _ c st'=>c=(none,())/\∃p' rs',RI κ it lt N lo T p' rs' st') ?_ ?_ ⟨rfl,p,rs,R⟩
 ·rintro x c st' _ _ ⟨rfl,p',rs',R'⟩;refine Zg (wpS_get ?_);by_cases hs:(pendingOf st').size>1
  ·rw[if_pos hs];have e:(pendingOf st')[(pendingOf st').size-2]?=some ((pendingOf st')[(pendingOf st').size-2]'(by omega)):=Yo (by omega);rw[e];refine ao (fun _=>Zl (h st' p' rs' R')) fun _=>?_;refine Zg (xS Z O R' (by omega) fun st2 p2 rs2 R2 _=>?_);refine ao (fun z=>absurd z (by simp)) fun _=>Zl ⟨rfl,p2,rs2,R2⟩
  ·rw[if_neg hs];exact Zl (h st' p' rs' R')
 ·rintro c st' ⟨rfl,p',rs',R'⟩;exact h st' p' rs' R'
theorem RI.push{lo m:Nat}{r:List Nat}{p:Array Nat}{rs:List (List Nat)}{T:List Nat}(R:RI κ it lt N lo (r++T) p rs st)(h1:1<=m)(hr:r.length=m)(hw:r.Pairwise (Lx lt))(hp:r.Perm (List.range' lo m)):RI κ it lt N (lo+m) T p (rs++[r]) (setPending st ((pendingOf st).push (lo,m,0))):=by
 have hl:=R.hl;refine⟨R.hk,R.hf,R.ha,?_,R.pm,?_,?_⟩
 ·rw[R.hp];simp
 ·show RunsL lt 0 (rs++[r]) ((pendingOf st).push (lo,m,0)).toList;rw[Array.toList_push];have:=R.rl.snoc (r:=r) (x:=0) (by omega) hw (by rw[Nat.zero_add,hl,hr];exact hp);rw[Nat.zero_add,hl,hr]at this;exact this
 ·simp;rw[<-List.length_flatten,hl,hr]
theorem CM(Z:Zc prog w A s κ it lt N)(O:LtOk lt){lo m:Nat}{r:List Nat}{p:Array Nat}{rs:List (List Nat)}{T:List Nat}(R:RI κ it lt N lo (r++T) p rs st)(h1:1<=m)(hr:r.length=m)(hw:r.Pairwise (Lx lt))(hp:r.Perm (List.range' lo m)){Q:ForInStep (Option Unit×Nat)->SortSt->Prop}(h:∀st' p' rs',RI κ it lt N (lo+m) T p' rs' st'->Q (.yield (none,lo+m)) st'):wpS (model prog w) A E s (oN N lo m) Q st:=by
 unfold oN;refine Zg (wpS_get ?_);cases hb:(pendingOf st).back? with
 |none=>exact Zg (wpS_modify (Zl (h _ _ _ (R.push h1 hr hw hp))))
 |some t =>obtain⟨s1,n1,o1⟩:=t;refine Zg (CK Z O R fun st' p' rs' R'=>?_);refine Zg (wpS_modify (Zg (wpS_modify (Zl (h _ p' (rs'++[r]) (RI.push (st:=setPending st' ((pendingOf st').modify ((pendingOf st').size-1) fun t=>(t.1,t.2.1,power' N (2*s1+n1) (2*s1+n1+n1+m) N))) ⟨R'.hk,R'.hf,R'.ha,R'.hp,R'.pm,?_,R'.hl⟩ h1 hr hw hp))))));show RunsL lt 0 rs' ((pendingOf st').modify ((pendingOf st').size-1) _).toList;rw[Array.toList_modify];exact R'.rl.pow (g:=fun t=>(t.1,t.2.1,power' N (2*s1+n1) (2*s1+n1+n1+m) N)) (fun t=>⟨rfl,rfl⟩) _
theorem B2(Z:Zc prog w A s κ it lt N)(O:LtOk lt)(h1:1<=N){Q:Unit->SortSt->Prop}(h:∀(p:Array Nat) (st':SortSt),POk N p->LS lt p N->p.size=N->arrOf st'=p.map (kas_item it)->failedOf st'=none->Q () st') :
  wpS (model prog w) A E s sortRuns' Q (SortSt.mk' κ ((List.toArray (List.range N)).map (kas_item it)) #[] 7 none):=by
 rw[sortRuns'_eq];refine Zg (wpS_get ?_);have esz:(arrOf (SortSt.mk' κ ((List.toArray (List.range N)).map (kas_item it)) #[] 7 none)).size=N:=by show((List.toArray (List.range N)).map (kas_item it)).size=N;simp
 rw[esz];have R0:RI κ it lt N 0 (List.range' 0 (N-0)) (List.toArray (List.range N)) [] (SortSt.mk' κ ((List.toArray (List.range N)).map (kas_item it)) #[] 7 none):=by refine⟨rfl,rfl,rfl,?_,List.Perm.refl _,trivial,rfl⟩;rw[YI,List.range_eq_range',Nat.sub_zero];rfl
 refine Zg (y6 (Z8 (I:=fun x c st'=>∃ lo p rs,c=(none,lo)/\RI κ it lt N lo (List.range' lo (N - lo)) p rs st'/\lo<=N/\x<=lo)
  (Q:=fun c st'=>c=(none,N)/\∃ p rs,RI κ it lt N N [] p rs st') ?step ?fin ⟨0,_,_,rfl,R0,by omega,Ze _⟩) ?post)
 case fin =>
  rintro c st' ⟨lo,p,rs,rfl,R,h2,h3⟩;have e:lo=N:=by omega
  subst e;refine⟨rfl,p,rs,?_⟩;rw[Nat.sub_self]at R;exact R
 case step =>
  rintro x c st' _ hx ⟨lo,p,rs,rfl,R,h2,h3⟩;dsimp -zeta only;refine ao (fun hge=>?_) fun hge=>?_
  ·have e:lo=N:=by omega
   subst e;rw[Nat.sub_self]at R;exact Zl ⟨rfl,p,rs,R⟩
  refine B1 Z O R (by omega) (g:=oN N lo) (mr:=minRun' N N 0) (bad:=pure (ForInStep.done (some (),lo))) (fun m r p' st2 m1 m2 r1 r2 r3 R2 _=>?_) (fun m=>by kernel_rfl);exact CM Z O R2 m1 r1 r2 r3 fun st3 p3 rs3 R3=>⟨lo+m,p3,rs3,rfl,R3,m2,by omega⟩
 case post =>
  rintro c st' ⟨rfl,p,rs,R⟩;dsimp only;have hle:∀{c:Prop} [Decidable c] (x:Nat),(if c then x-1 else x)<=x:=fun x=>by split<;>omega
  have hsz:(pendingOf st').size<=N:=by obtain⟨q1,q2⟩:=R.rl.len;have q3:(pendingOf st').toList.length=(pendingOf st').size:=Zk;have q4:=R.hl;omega
  refine Zg (y6 (Z8 (I:=fun x c st'=>c=(none,())/\(∃ p rs,RI κ it lt N N [] p rs st')/\((pendingOf st').size+x<=N\/(pendingOf st').size<=1))
   (Q:=fun c st'=>c=(none,())/\(∃ p rs,RI κ it lt N N [] p rs st')/\(pendingOf st').size<=1) ?step2 ?fin2 ⟨rfl,⟨p,rs,R⟩,.inl hsz⟩) ?post2)
  case fin2 =>rintro c st2 ⟨rfl,hR,h2⟩;exact⟨rfl,hR,by omega⟩
  case step2 =>
   rintro x c st2 _ hx ⟨rfl,⟨p2,rs2,R2⟩,h2⟩;refine Zg (wpS_get ?_);refine ao (fun hge=>Zl ⟨rfl,⟨p2,rs2,R2⟩,hge⟩) fun hge=>?_;refine Zg (xS Z O R2 ?_ fun st3 p3 rs3 R3 e3=>?_)
   ·exact Nat.lt_of_le_of_lt (Nat.add_le_add_right (hle _) 1) (by omega)
   ·refine ao (fun z=>absurd z (by simp)) fun _=>Zl ⟨rfl,⟨p3,rs3,R3⟩,by omega⟩
  case post2 =>
   rintro c st2 ⟨rfl,⟨p2,rs2,R2⟩,h2⟩;have ln:=R2.rl.len;rw[Zk]at ln;have hl:=R2.hl;have hp:=R2.hp;have rl:=R2.rl
   match rs2,hl,hp,rl,ln with
   | [],hl,_,_,_=>exact absurd hl (by simp;omega)
   |r::r2::rs3,_,_,_,ln=>exact absurd ln.1 (by simp;omega)
   | [r],hl,hp,rl,_ =>
    rw[Z3,List.flatten_singleton]at hp
    match hpl:(pendingOf st2).toList,rl with
    | [],rl=>exact rl.elim
    |t::ts,⟨_,_,_,pw,_,_⟩ =>
     have hz:p2.size=N:=by rw[<-Zk,R2.pm.length_eq,List.length_range]
     refine Zl (h p2 st2 (Array.perm_iff_toList_perm.mpr (by simpa using R2.pm)) (fun i j hij hj=>rY (by rw[hp];exact pw) i j hij (by omega)) hz R2.ha R2.hf)
end
open PySem PySem.Spec PyProof.Rows PySem.W
theorem dj{n:Nat}(h:n<=4096):n<=sizeLine:=by rw[sizeLine_eq];omega
section
variable{prog:Program}{w:World}{A:Around}{E:Value->Shared->Prop}{s:Shared}{h₀:Heap}{L a kS:Addr}{m:Str->Option Value}{news:List (Addr×Obj)}{vs ks:List Value}
def ZGo(prog:Program)(w:World)(A:Around)(b:Bool)(ks vs:List Value)(F:List Value->Shared->Prop)(κ:SortKind)(s:Shared):Prop :=
 ∃lt:Nat->Nat->Bool,LtOk lt/\(∀i j (C:Bool->Shared->Prop),i<vs.length->j<vs.length->C (lt i j) s->kas_ask prog w A κ (katRev b ks) i j C s) /\
  ∀p:Array Nat,POk vs.length p->LS lt p vs.length->F (katRev b (p.toList.map fun i=>(katRev b vs).getD i Value.none)) s
def rg(prog:Program)(w:World)(A:Around)(b:Bool)(ks vs:List Value)(F:List Value->Shared->Prop)(s:Shared):Prop :=
 (2<=vs.length->wpAny (model prog w) A (keyKind' (List.toArray ks)) (ZGo prog w A b ks vs F) (fun _ _=>False) s)/\(vs.length<2->F (katRev b ((List.range vs.length).map fun i=>(katRev b vs).getD i Value.none)) s)
theorem qZ{b:Bool}{st:SortSt}{e e1:Nat}{out:List Value}{P:PySem.Fin->Shared->Prop}(ho:(arrOf st).map (·.2)=List.toArray out)(hz:out.length<=4096)(hq:ks.length<=4096)(hf:failedOf st=none)(h:KatFin h₀ L m kS a ks e e1 (katRev b out) (fun s'=>P (.done (.ret .none)) s') s):wpAny (model prog w) A (ksk_tail a b e1 (.ref kS) st) P E s:=by
 obtain⟨nw,g,Fq,Nq,Uq,kq⟩:=h;obtain⟨l1,l2,e0,hg,x1,x2⟩:=Uq.split;rw[e0]at Nq;have ak:=Nq (kS,seqObj "list" (List.toArray ks) e) (ZH _ (.head _));have s1:=ZR s.heap kS (Obj.mapSeq fun _=>(#[]:Array Value));obtain⟨ck,hck⟩:∃z,(s.heap.update kS (Obj.mapSeq fun _=>(#[]:Array Value))).get? kS=some (seqObj "list" #[] z):=⟨_,get?_update_seq ak.1 fun _=>#[]⟩
 have K2:=kq _ ck (kas_fr Fq s1 ak.2.1 ak.2.2) (by rw[hg];exact news_set Nq x1 x2 s1 hck);obtain⟨nw2,g2,F2,N2,U2,k2⟩:=K2;obtain⟨m1,m2,e2,hg2,y1,y2⟩:=U2.split;rw[e2]at N2;have aa:=N2 (a,seqObj "list" #[] e1) (ZH _ (.head _));have s2:=ZR (s.heap.update kS (Obj.mapSeq fun _=>(#[]:Array Value))) a (Obj.mapSeq fun _=>List.toArray (katRev b out));have hsz:(List.toArray (katRev b out)).size=out.length:=by rw[Zf,kat_len]
 obtain⟨c2,hc2⟩:∃z,((s.heap.update kS (Obj.mapSeq fun _=>(#[]:Array Value))).update a (Obj.mapSeq fun _=>List.toArray (katRev b out))).get? a=some (seqObj "list" (List.toArray (katRev b out)) z):=⟨_,get?_update_seq aa.1 fun _=>List.toArray (katRev b out)⟩
 unfold ksk_tail;dsimp only;rw[ho,kat_outs];refine z6 (listUpdate_at ak.1 rfl (z6 (wpAny_letGo (z6 (seqEpoch_at aa.1 rfl (z6 (listUpdate_at aa.1 rfl ?_ (ZO _) (Zx (Nat.le_of_eq hsz) (Nat.le_succ_of_le (dj hz))))))))) (by rw[Zf];exact dj hq) (ZO _));rw[hf];simp only[bne_self_eq_false,YL,if_false];refine z9 (k2 _ c2 (kas_fr F2 s2 aa.2.1 aa.2.2) ?_);rw[hg2];exact news_set N2 y1 y2 s2 hc2
theorem B3{b:Bool}{e e1:Nat}{P:PySem.Fin->Shared->Prop}(hl:ks.length=vs.length)(hz:vs.length<=4096)(h:rg prog w A b ks vs (fun out=>KatFin h₀ L m kS a ks e e1 out (fun s3=>P (.done (.ret .none)) s3)) s) :
  wpAny (model prog w) A (ksk_end a b vs.toArray e1 (.ref kS) (List.toArray ks)) P E s:=by
 have lr:(katRev b ks).length=(katRev b vs).length:=by rw[kat_len,kat_len,hl]
 have lv:(katRev b vs).length=vs.length:=kat_len b vs;have step:∀t:Sem PySem.Fin,wpAny (model prog w) A t P E s->wpAny (model prog w) A (if b=true then(do let _ ←rule "list.sort.reverse";t)else t) P E s:=by
  intro t ht;split
  ·exact z6 (ZU ht)
  ·exact ht
 unfold ksk_end;dsimp only;refine step _ ?_;have er:∀κ,SortSt.mk' κ ((List.toArray (katRev b ks)).zip (List.toArray (katRev b vs))) #[] 7 none=SortSt.mk' κ ((List.toArray (List.range vs.length)).map (kas_item ((List.toArray (katRev b ks)).zip (List.toArray (katRev b vs))))) #[] 7 none:=fun κ=>by have e:=kas_range ((List.toArray (katRev b ks)).zip (List.toArray (katRev b vs)));rw[show((List.toArray (katRev b ks)).zip (List.toArray (katRev b vs))).size=vs.length by simp[lr,lv]]at e;rw[e]
 rw[kat_pairs b hl];by_cases n2:vs.toArray.size<2
 ·rw[if_pos n2,if_pos n2];have n2':vs.length<2:=by simpa using n2
  refine z6 (z9 ?_);rw[er,StateT.run_pure];refine z6 (z9 ?_);dsimp only;exact qZ (kat_snds lr (p:=List.toArray (List.range vs.length)) rfl) (by simpa using hz) (by omega) rfl (h.2 n2')
 rw[if_neg n2,if_neg n2];have n3:2<=vs.length:=by rw[Zf]at n2;omega
 refine z6 (ZQ (h.1 n3) (fun κ s0 hg=>?_) fun _ _ x=>x.elim);obtain⟨lt,O,ask,fin⟩:=hg;have Z:Zc prog w A s0 κ ((List.toArray (katRev b ks)).zip (List.toArray (katRev b vs))) lt vs.length:=fun i j C hi hj hC=>by have:=ask i j C hi hj hC;rw[kat_ask_eq lr]at this;exact this
 rw[er];refine z6 (ZQ (B2 (E:=E) (Q:=fun _ st'=>∃p:Array Nat,POk vs.length p/\LS lt p vs.length/\p.size=vs.length/\arrOf st'=p.map (kas_item ((List.toArray (katRev b ks)).zip (List.toArray (katRev b vs))))/\failedOf st'=none) Z O (by omega) fun p st' a1 a2 a3 a4 a5=>⟨p,a1,a2,a3,a4,a5⟩) ?_ fun _ _ x=>x);rintro⟨⟨⟩,st'⟩ s' ⟨rfl,p,a1,a2,a3,a4,a5⟩;dsimp only;exact qZ (kat_snds lr a4) (by rw[Zi,Zk,a3];exact hz) (by omega) a5 (fin p a1 a2)
theorem qY{f:Value}{Fin:List Value->Nat->Shared->Prop}{n:Nat}{body:Value->PUnit->Sem (ForInStep PUnit)}(hn:n<=4096)(hb:∀ x ks e (s:Shared) (C:Value->Nat->Shared->Prop),List.length ks<4096->wpAny (model prog w) A (call f [x]) (KatBack h₀ L m kS ks e C) (fun _ _=>False) s ->
   wpAny (model prog w) A (body x ⟨⟩) (fun r s'=>r=.yield ⟨⟩/\∃ k c,s'.heap.get? kS=some (seqObj "list" (List.toArray (ks++[k])) c)/\C k c s') E s):∀ (r qs:List Value) (e:Nat) (s:Shared),qs.length+r.length=n ->
   s.heap.get? kS=some (seqObj "list" (List.toArray qs) e)->KatKeys prog w A h₀ L m kS f Fin r qs e s ->
   wpAny (model prog w) A (forIn r PUnit.unit body) (fun _ s'=>∃qs e,s'.heap.get? kS=some (seqObj "list" (List.toArray qs) e)/\qs.length=n/\Fin qs e s') E s
 | [],qs,e,s,hl,hq,h=>by rw[List.forIn_nil];exact z9 ⟨qs,e,hq,by simpa using hl,h⟩
 |x::r,qs,e,s,hl,hq,h=>by rw[Zt]at hl;rw[List.forIn_cons];refine z6 (ZQ (hb x qs e s (fun k c s'=>KatKeys prog w A h₀ L m kS f Fin r (qs++[k]) c s') (by omega) h) (fun z s' hz=>?_) fun _ _ x=>x);obtain⟨rfl,k,c,hk',h2⟩:=hz;exact qY hn hb r (qs++[k]) c s' (by rw[Zn,YC];omega) hk' h2
theorem zK{b:Bool}{f:Value}{e1:Nat}{P:PySem.Fin->Shared->Prop}(hq:s.heap.get? kS=some (seqObj "list" #[] 0))(hz:vs.length<=4096)(h:KatKeys prog w A h₀ L m kS f (fun ks e s'=>rg prog w A b ks vs (fun out=>KatFin h₀ L m kS a ks e e1 out (fun s3=>P (.done (.ret .none)) s3)) s') vs [] 0 s) :
  wpAny (model prog w) A (ksk_rest a f b vs.toArray e1 (.ref kS)) P E s:=by
 unfold ksk_rest;refine z6 (ZU ?_);rw[<-Array.forIn_toList];refine z6 (ZQ (qY hz (fun x qs e s' C hzz hx=>?_) vs [] 0 s (by simp) hq h) (fun _ s' hd=>?_) fun _ _ x=>x)
 ·refine z6 (wpAny_attempt (ZQ hx (fun k s2 hkk=>?_) fun _ _ hF=>hF.elim));obtain⟨nw,g,Fq,Nq,Uq,cq⟩:=hkk;obtain⟨l1,l2,e0,hg,x1,x2⟩:=Uq.split;rw[e0]at Nq;have ak:=Nq (kS,seqObj "list" (List.toArray qs) e) (ZH _ (.head _));have s1:=ZR s2.heap kS (Obj.mapSeq (·.push k));have ea:(List.toArray qs).push k=List.toArray (qs++[k]):=by simp
  obtain⟨c2,hc2⟩:∃z,(s2.heap.update kS (Obj.mapSeq (·.push k))).get? kS=some (seqObj "list" (List.toArray (qs++[k])) z):=⟨_,by rw[<-ea];exact get?_update_seq ak.1 (·.push k)⟩
  dsimp only;refine z6 (listUpdate_at ak.1 rfl (z9 ⟨rfl,k,c2,hc2,cq _ c2 (kas_fr Fq s1 ak.2.1 ak.2.2) (by rw[hg];exact news_set Nq x1 x2 s1 hc2)⟩) (by rw[Zf];exact dj (by omega)) (Zx (Nat.le_of_eq (Array.size_push ..)) (by rw[Zf];exact Nat.le_succ_of_le (dj (by omega)))))
 ·obtain⟨qs,e,hq',hl,fin⟩:=hd;exact z6 (listItems_at hq' rfl (B3 hl hz fin))
theorem xa{b:Bool}{f:Value}{n:Nat}{P:PySem.Fin->Shared->Prop}(F:Fr h₀ L s.heap m)(N:News h₀ L s.heap news)(ho:s.heap.get? a=some (seqObj "list" vs.toArray n))(haL:a≠L)(ha0:h₀.get? a=none)(hna:∀ p∈news,p.1≠a)(hz:vs.length<=4096)(h:∀ kS e1 h',Fr h₀ L h' m->News h₀ L h' ((kS,seqObj "list" #[] 0)::(a,seqObj "list" #[] e1)::news)->a<kS->(∀ q∈news,q.1<kS) ->
   KatKeys prog w A h₀ L m kS f (fun ks e s'=>rg prog w A b ks vs (fun out=>KatFin h₀ L m kS a ks e e1 out (fun s3=>P (.done (.ret .none)) s3)) s') vs [] 0 { s with heap:=h' }) :
  wpAny (model prog w) A (ksk_tree a f b) P E s:=by
 have la:a<s.heap.objs.size:=Zm ho;have s1:=ZR s.heap a (Obj.mapSeq fun _=>(#[]:Array Value));have F1:=kas_fr F s1 haL ha0;have N1:=kas_news N s1 hna;obtain⟨e1,ho1⟩:∃z,(s.heap.update a (Obj.mapSeq fun _=>(#[]:Array Value))).get? a=some (seqObj "list" #[] z):=⟨_,get?_update_seq ho fun _=>#[]⟩
 have zk:((s.heap.update a (Obj.mapSeq fun _=>(#[]:Array Value))).push (seqObj "tuple" vs.toArray 0)).objs.size=s.heap.objs.size+1:=by rw[size_push',Heap.size_update]
 have lk:L<((s.heap.update a (Obj.mapSeq fun _=>(#[]:Array Value))).push (seqObj "tuple" vs.toArray 0)).objs.size:=(F1.push _).ns.lt;unfold ksk_tree;refine z6 (listItems_at ho rfl (z6 (listUpdate_at ho rfl (z6 (seqEpoch_at ho1 rfl (z6 (wpAny_newTuple (z6 (wpAny_newList (Z0 ?_) (ZO _))) (dj hz))))) (by rw[Zf];exact dj hz) (ZO _))));refine zK (s:={ s with heap:=((s.heap.update a (Obj.mapSeq fun _=>(#[]:Array Value))).push (seqObj "tuple" vs.toArray 0)).push (seqObj "list" #[] 0) }) (kS:=((s.heap.update a (Obj.mapSeq fun _=>(#[]:Array Value))).push (seqObj "tuple" vs.toArray 0)).objs.size)
  (Zo _ rfl) hz (h _ e1 _ ((F1.push _).push _) (fun p hp=>?_) (by rw[zk];exact Nat.lt_succ_of_lt la) fun q hq=>by rw[zk];exact Nat.lt_succ_of_lt (Zm (N q hq).1))
 rcases Zq.mp hp with rfl|hp
 ·exact⟨Zo _ rfl,Yk lk,YE (Zx F.above (Nat.le_of_lt lk))⟩
 ·rcases Zq.mp hp with rfl|hp
  ·exact⟨Za _ (Za _ ho1),haL,ha0⟩
  ·exact⟨Za _ (Za _ (N1 p hp).1),(N1 p hp).2⟩
theorem zJ{b:Bool}{f:Value}{kw:List (Str×Value)}{Q:Value->Shared->Prop}(F:Fr h₀ L s.heap m)(N:News h₀ L s.heap news)(hz:vs.length<=4096)(ha2:∀ x,argsOk "list.sort" ⟨[.ref x],kw⟩)(ht:∀ x,Builtin.«list.sort» ⟨[.ref x],kw⟩=ksk_tree x f b)(h:∀ D kS e1 h',Fr h₀ L h' m->News h₀ L h' ((kS,seqObj "list" #[] 0)::(D,seqObj "list" #[] e1)::news)->D<kS->(∀ q∈news,q.1<D) ->
   KatKeys prog w A.in1 h₀ L m kS f (fun ks e s'=>rg prog w A.in1 b ks vs (fun out=>KatFin h₀ L m kS D ks e e1 out (fun s4=>Q (.ref D) s4)) s') vs [] 0 { s with heap:=h' }) :
  wpAny (model prog w) A (do let l ←newList vs;let _ ←holding [l] (call (.builtin "list.sort") [l] kw);ret l) (fun fin s'=>∃v,fin=.done (.ret v)/\Q v s') E s:=by
 have hL:L<s.heap.objs.size:=F.ns.lt;have hoL:(s.heap.push (seqObj "list" vs.toArray 0)).get? s.heap.objs.size=some (seqObj "list" vs.toArray 0):=Zo _ rfl;refine z6 (wpAny_newList ?_ (dj hz));refine z6 (Z0 (wpAny_call_entry_kw slot_list_sort ⟨_,hoL,rfl⟩ entry_list_sort ?body (ha2 _)))
 case body =>
  show wpAny (model prog w) A.in1 (Builtin.«list.sort» ⟨[.ref s.heap.objs.size],kw⟩) _ _ _;rw[ht];refine xa (s:={ s with heap:=s.heap.push (seqObj "list" vs.toArray 0) }) (F.kept fun b o q=>Za _ q) (N.grown fun b o q=>Za _ q) hoL (Yk hL) (YE (Zx F.above (Nat.le_of_lt hL))) (fun p hp=>Zv (Zm (N p hp).1)) hz fun kS e1 h' F' N' l0 l1=>?_;refine kat_keys_mono (h _ kS e1 h' F' N' l0 fun q hq=>Zm (N q hq).1) fun ks e s' _ hd=>⟨fun n2=>ZQ (hd.1 n2) (fun κ s2 hk=>?_) fun _ _ x=>x,fun n2=>(hd.2 n2).mono fun s4 hq=>⟨_,rfl,z9 ⟨_,rfl,hq⟩⟩⟩
  obtain⟨lt,O,ask,fin⟩:=hk;exact⟨lt,O,ask,fun p a1 a2=>(fin p a1 a2).mono fun s4 hq=>⟨_,rfl,z9 ⟨_,rfl,hq⟩⟩⟩
end
open PySem PySem.Spec PyProof.Rows PySem.W
def aR:List Int->List Int->List Int
 | [],ns=>0::ns
 |p::ps,ns=>1::p::aR ps ns
theorem lf:∀(ps ns qs ms:List Int),HT.lexLt (aR ps ns) (aR qs ms)=if ps=qs then HT.lexLt ns ms else HT.lexLt ps qs
 | [],ns,[],ms=>by rw[aR,aR,HT.lexLt_cons,if_pos rfl,if_pos rfl]
 | [],ns,q::qs,ms=>by rw[aR,aR,HT.lexLt_cons,if_neg (by decide),if_neg (by simp)];rfl
 |p::ps,ns,[],ms=>by rw[aR,aR,HT.lexLt_cons,if_neg (by decide),if_neg (by simp)];rfl
 |p::ps,ns,q::qs,ms=>by
  rw[aR,aR,HT.lexLt_cons,if_pos rfl,HT.lexLt_cons,lf ps ns qs ms,HT.lexLt_cons];by_cases h:p=q
  ·subst h;rw[if_pos rfl,if_pos rfl];by_cases h2:ps=qs
   ·rw[if_pos h2,if_pos (by rw[h2])]
   ·rw[if_neg h2,if_neg (fun z=>h2 (by injection z))]
  ·rw[if_neg h,if_neg (fun z=>h (by injection z)),if_neg h]
inductive ZKey where
 |i (n:Int)|t (ns:List Int)|p (ps ns:List Int)
def ZKey.nums:ZKey->List Int
 |.i n=>[n]
 |.t ns=>ns
 |.p ps ns=>aR ps ns
def ZKey.at(H:Hp):ZKey->V->Prop
 |.i n,v=>v=.int n
 |.t ns,v=>∃a,v=.ref a/\H a=some (.tup (ns.map V.int))
 |.p ps ns,v=>∃a b c,v=.ref a/\H a=some (.tup [.ref b,.ref c])/\H b=some (.tup (ps.map V.int))/\H c=some (.tup (ns.map V.int))
theorem ZKey.at.same{H H':Hp}(sm:Same H H'):∀{k:ZKey} {v:V},k.at H v->k.at H' v
 |.i _,_,h=>h
 |.t _,_,⟨a,e,h⟩=>⟨a,e,sm _ _ h⟩
 |.p _ _,_,⟨a,b,c,e,h1,h2,h3⟩=>⟨a,b,c,e,sm _ _ h1,sm _ _ h2,sm _ _ h3⟩
def sD(ks:List ZKey):Prop:=∀k∈ks,∃ps ns,k=.p ps ns
theorem iK{X:Cx}{pins:List (Addr×Obj)}{σ:St}{H:Hp}{s:Shared}{A:Around}{a b:Addr}{ns ms:List Int}(I:Inv X pins σ H s)(hu:A.units+64<cLine)(ha:H a=some (.tup (ns.map V.int)))(hb:H b=some (.tup (ms.map V.int))):SeqAt.EqAt A s (.ref a) (.ref b) (decide (ns=ms)):=by obtain⟨as,r1⟩:=Dt.reads I.hok _ (.ref a) (.ref a) (eG ha) rfl;obtain⟨bs,r2⟩:=Dt.reads I.hok _ (.ref b) (.ref b) (eG hb) rfl;rw[<-gi];have s1:=cc ns;have s2:=cc ms;refine SeqAt.eqAt_reads _ _ A s _ _ as bs r1 r2 (SeqAt.canLay_of_shaped s1) (SeqAt.canLay_of_shaped s2) ?_;have d1:=SeqAt.depth_of_shaped s1;have d2:=Nat.min_le_left (PyData.tuple (ns.map .int)).depth (PyData.tuple (ms.map .int)).depth;omega
theorem pI{prog:Program}{w:World}{A:Around}{s:Shared}{fin:Bool}{Q:Bool->Shared->Prop}{b c b' c':Addr}{ps ns qs ms:List Int}(e1:SeqAt.EqAt A s (.ref b) (.ref b') (decide (ps=qs)))(e2:SeqAt.EqAt A s (.ref c) (.ref c') (decide (ns=ms)))(l1:∀R:Value->Shared->Prop,R (.bool (HT.lexLt ps qs)) s->wpAny (model prog w) A (compareOp .Lt (.ref b) (.ref b')) R (fun _ _=>False) s)(l2:∀R:Value->Shared->Prop,R (.bool (HT.lexLt ns ms)) s->wpAny (model prog w) A (compareOp .Lt (.ref c) (.ref c')) R (fun _ _=>False) s)(hf:fin=false)(q:Q (HT.lexLt (aR ps ns) (aR qs ms)) s):KatLex prog w A false fin Q ([Value.ref b,.ref c].zip [Value.ref b',.ref c']) 0 s:=by
 subst hf;rw[lf]at q;refine kat_cons (e1 _ _ _ _ (kat_go (fun et=>?_) (fun ef=>?_)))
 ·rw[if_pos (y0 et)]at q;refine kat_yes (kat_cons (e2 _ _ _ _ (kat_go (fun et2=>?_) (fun ef2=>?_))))
  ·have z:=y0 et2;subst z;have e:HT.lexLt ns ns=false:=by
    cases h:HT.lexLt ns ns with
    |false=>rfl
    |true=>rw[jW h]at h;cases h
   rw[e]at q;exact kat_yes (kat_nil q)
  ·exact kat_no (kat_one _ _ (l2 _ q))
 ·rw[if_neg (of_decide_eq_false ef)]at q;exact kat_no (kat_one _ _ (l1 _ q))
def zL(ks:List ZKey):Prop:=(∀k∈ks,∃n,k=.i n)\/∀k∈ks,∃ns,k=.t ns/\ns≠[]
section
variable{X:Cx}{pins:List (Addr×Obj)}{σ:St}{H:Hp}{s:Shared}{h':Heap}
def zS(X:Cx)(s:Shared)(l:Addr)(xs:List V):Prop:=∀Q:List Value->Shared->Prop,(∀h' tk its,(∀b o,s.heap.get? b=some o->h'.get? b=some o)->Vals xs its->Q its { s with heap:=h',toks:=tk })->wpAny (model X.prog X.w) X.A.in1 (collect (.ref l)) Q X.xe s
structure SGZ(X:Cx)(pins:List (Addr×Obj))(σ:St)(H1:Hp)(m:Str->Option Value)(kS D:Addr)(e1:Nat)(ks:List ZKey)(as:List V)(us:List Value)(e:Nat)(H:Hp)(s:Shared):Prop where
 I:Inv X pins σ H s
 sm:Same H1 H
 fk:aY X pins H kS
 fd:aY X pins H D
 bk:X.base.get? kS=none
 bd:X.base.get? D=none
 hk:s.heap.get? kS=some (seqObj "list" (List.toArray us) e)
 hd:s.heap.get? D=some (seqObj "list" #[] e1)
 ns:s.heap.Ns X.env.locals m
 vals:Vals as us
 keys:∀(i:Nat) (a:V) (k:ZKey),as[i]?=some a->ks[i]?=some k->k.at H a
theorem SGZ.fr{H1:Hp}{m:Str->Option Value}{kS D:Addr}{e1:Nat}{ks:List ZKey}{as:List V}{us:List Value}{e:Nat}(S:SGZ X pins σ H1 m kS D e1 ks as us e H s):Fr X.base X.env.locals s.heap m:=⟨S.ns,S.I.bk,Zx S.I.ok.bsz S.I.ok.above⟩
theorem kI{H1:Hp}{m:Str->Option Value}{kS D:Addr}{e1:Nat}{ks:List ZKey}{xs:List V}{its:List Value}{f:Addr}{sp:Sp}{Fin:List Value->Nat->Shared->Prop}(hne:kS≠D)(rv:Vals xs its)(hl:ks.length=xs.length)(F:rf X pins σ f sp)(spec:∀(i:Nat) (v:V) (key:ZKey) (H':Hp),xs[i]?=some v->ks[i]?=some key->Same H1 H'->∀R:VK,(∀kv H'',Same H' H''->key.at H'' kv->R kv H'')->sp [v] H' R E0)(fin:∀(as:List V) (us:List Value) (e:Nat) (H:Hp) (s:Shared),SGZ X pins σ H1 m kS D e1 ks as us e H s->as.length=xs.length->Fin us e s) :
  ∀(r:List Value) (as:List V) (us:List Value) (e:Nat) (H:Hp) (s:Shared),SGZ X pins σ H1 m kS D e1 ks as us e H s->its=its.take as.length++r->as.length+r.length=xs.length ->
   KatKeys X.prog X.w X.A.in1.in1 X.base X.env.locals m kS (.ref f) Fin r us e s
 | [],as,us,e,H,s,S,_,hlen=>KatKeys.nil (fin as us e H s S (by simpa using hlen))
 |u::r,as,us,e,H,s,S,hits,hlen=>by
  have hi:as.length<xs.length:=by rw[Zt]at hlen;omega
  have hx:xs[as.length]?=some xs[as.length]:=Zb hi;obtain⟨u',gu,ru⟩:=rv.get hx;have hlt:as.length<its.length:=by rw[<-rv.length];exact hi
  have gu':its[as.length]?=some u:=by rw[hits,ZV (by rw[ZN];omega),ZN,Nat.min_eq_left (by omega),Nat.sub_self];rfl
  rw[gu']at gu;cases gu;have hkey:ks[as.length]?=some (ks[as.length]'(by omega)):=Zb (by omega);generalize ks[as.length]'(by omega)=key at hkey;refine KatKeys.cons (wpAny_call (codeAny_mono (F s H u xs[as.length] (fun v H''=>Same H H''/\key.at H'' v) S.I ru (spec _ _ _ H hx hkey S.sm _ fun kv H'' s' q=>⟨s',q⟩)) fun res s' hq=>?_));cases res with
  |error e=>exact hq
  |ok fl =>
   cases fl with
   |next=>exact False.elim hq
   |brk=>exact False.elim hq
   |cont=>exact False.elim hq
   |ret uv =>
    obtain⟨v,H'',os,bare,un,hok,rvv,sm,ea⟩:=hq;obtain⟨hh,g,d,t,os'⟩:=s';obtain rfl:os'=s.os:=os;have I2:Inv X pins σ H'' { s with heap:=hh,gens:=g,drawn:=d,toks:=t }:=S.I.call (h':=hh) (g':=g) (d':=d) (t':=t) (ch:=[]) un hok bare (fun b z=>absurd z (by simp));have nstk:∀{b:Addr},aY X pins H b->b∉frs X.stack:=fun{b} fo z=>(Zq.mp (S.I.stkSub b z)).elim fo.2.1 fo.2.2.1;have hk2:hh.get? kS=some (seqObj "list" (List.toArray us) e):=un.keep kS _ S.hk S.fk.1 (nstk S.fk) (by simp);have hd2:hh.get? D=some (seqObj "list" #[] e1):=un.keep D _ S.hd S.fd.1 (nstk S.fd) (by simp);have ns2:hh.Ns X.env.locals m:=by obtain⟨o,es,ep,ho,rr⟩:=id S.ns;obtain⟨sl,hL⟩:=un.any ho S.I.free (by simp);exact⟨_,es,ep,hL,rr⟩
    have fk2:aY X pins H'' kS:=⟨un.free kS _ S.hk S.fk.1 (by simp),S.fk.2⟩
    have fd2:aY X pins H'' D:=⟨un.free D _ S.hd S.fd.1 (by simp),S.fd.2⟩
    have hkL:kS≠X.env.locals:=S.fk.2.1;refine KatBack.intro (news:=(kS,seqObj "list" (List.toArray us) e)::eE X.base hh X.env.locals kS) ⟨ns2,I2.bk,Zx S.I.ok.bsz S.I.ok.above⟩ (eT hk2 hkL S.bk) (.head gN) fun h3 c F3 N3=>?_;have mv:=eS (fun b o q=>I2.bk b o q) F3 N3;have I3:Inv X pins σ H'' { s with heap:=h3,gens:=g,drawn:=d,toks:=t }:=Inv.movedF (ch:=[kS]) (t':=t) I2 (fun b hb=>by rw[Zu.mp hb];exact fk2) mv ⟨m,ns2,F3.ns⟩;refine kI hne rv hl F spec fin r (as++[v]) (us++[uv]) c H'' _ ⟨I3,S.sm.trans sm,fk2,fd2,S.bk,S.bd,(N3 _ (.head _)).1,mv D _ S.fd.2.1 (fun z=>hne (Zu.mp z).symm) hd2,F3.ns,S.vals.append (.cons rvv .nil),fun i b key' h1 h2=>?_⟩ ?_ ?_
    ·by_cases hi2:i<as.length
     ·rw[Yn hi2]at h1;exact(S.keys i b key' h1 h2).same sm
     ·have hi3:=(ZC.mp h1).1;rw[Zn,YC]at hi3;have e3:i=as.length:=by omega
      subst e3;rw[ZV (Ze _),Nat.sub_self]at h1;cases h1;rw[hkey]at h2;cases h2;exact ea
    ·rw[Zn,YC,List.take_add_one,gu',Option.toList_some,ZE];exact hits
    ·rw[Zn,YC,<-hlen,Zt];omega
theorem pM{b:Bool}{kw:List (Str×Value)}{ks:List ZKey}{xs:List V}{f l:Addr}{sp:Sp}{Q:VK}(I:Inv X pins σ H s)(src:zS X s l xs)(hz:xs.length<=4096)(hl:ks.length=xs.length)(hne:zL ks\/(sD ks/\X.A.in1.in1.units+64<cLine))(hs1:argsOk "sorted" ⟨[.ref l],kw⟩)(hs2:∀x,argsOk "list.sort" ⟨[.ref x],kw⟩)(hs3:∀x,Builtin.«list.sort» ⟨[.ref x],kw⟩=ksk_tree x (.ref f) b)(F:∀l,rf (wX X l) pins σ f sp)(spec:∀(i:Nat) (v:V) (key:ZKey) (H':Hp),xs[i]?=some v->ks[i]?=some key->Same H H'->∀R:VK,(∀kv H'',Same H' H''->key.at H'' kv->R kv H'')->sp [v] H' R E0)(q:∀(p:Array Nat) (H2:Hp) (D:Addr),POk xs.length p->LS (fun i j=>HT.lexLt ((katRev b (ks.map ZKey.nums)).getD i []) ((katRev b (ks.map ZKey.nums)).getD j [])) p xs.length->Same H H2->H2 D=none->Q (.ref D) (upd H2 D (.lst (katRev b (p.toList.map fun i=>(katRev b xs).getD i .non))))) :
  wpAny (model X.prog X.w) X.A (call (.builtin "sorted") [.ref l] kw) (EP X pins σ Q) X.xe s:=by
 refine call_function_entry_kw kind_sorted plain_sorted entry_sorted hs1 ?_;unfold Builtin.«sorted»;refine z6 (m:=checkCount "sorted" 1 1 _) (z9 (z6 (src _ fun h0 tk its kp rv=>?_)));have I0:Inv X pins σ H { s with heap:=h0,toks:=tk }:=I.kept (t':=tk) kp;obtain⟨m,F0⟩:=I0.fr;have li:its.length=xs.length:=rv.length.symm;refine zJ (vs:=its) (b:=b) F0 (fK X.base h0 X.env.locals) (by omega) hs2 hs3 fun D kS e1 h1 F1 N1 hDk hD=>?_;have nD:=N1 (D,seqObj "list" #[] e1) (.tail _ (.head _));have nK:=N1 (kS,seqObj "list" #[] 0) (.head _);have hds:h0.get? D=none:=by
  cases g:h0.get? D with
  |none=>rfl
  |some o=>exact absurd (hD (D,o) (bQ g nD.2.1 nD.2.2)) (Yq _)
 have hks:h0.get? kS=none:=by
  cases g:h0.get? kS with
  |none=>rfl
  |some o=>exact absurd (Nat.lt_trans hDk (hD (kS,o) (bQ g nK.2.1 nK.2.2))) (Yq _)
 have xk:=I0.exOk hks nK.2.1 nK.2.2;have xd:=I0.exOk hds nD.2.1 nD.2.2;have hlx:∀b∈[kS,D],ExOk X b:=fun b' hb=>by
  simp only[Zq,Z6,or_false]at hb;rcases hb with rfl|rfl
  ·exact xk
  ·exact xd
 have fpk:=I0.fpW (l:=[kS,D]) (by simp) xk hks;have fpd:=I0.fpW (l:=[kS,D]) (by simp) xd hds;have mv0:∀b u,b≠X.env.locals->b∉([]:List Addr)->h0.get? b=some u->h1.get? b=some u:=fun b u hL _ g=>by
  cases qb:X.base.get? b with
  |none=>exact(N1 (b,u) (.tail _ (.tail _ (bQ g hL qb)))).1
  |some o =>have e':=I0.bk b o qb;rw[g]at e';cases e';exact F1.keep b u qb
 have I1:Inv X pins σ H { s with heap:=h1,toks:=tk }:=Inv.movedF (ch:=[]) (s:={ s with heap:=h0,toks:=tk }) (t':=tk) I0 (fun b hb=>absurd hb (by simp)) mv0 ⟨m,F0.ns,F1.ns⟩;have I2:=I1.widen hlx;have hkd:kS≠D:=Yk hDk;refine kI (X:=wX X [kS,D]) (H1:=H) (D:=D) (e1:=e1) (ks:=ks) (xs:=xs) (its:=its) hkd rv hl (F _) spec (fun as us e2 H' s' S la=>?_) its [] [] 0 H { s with heap:=h1,toks:=tk } ⟨I2,Same.refl H,fpk,fpd,nK.2.2,nD.2.2,nK.1,nD.1,F1.ns,.nil,fun i a k h=>by simp at h⟩ (by simp) (by simpa using li);have hN:its.length=xs.length:=li;have lu:us.length=xs.length:=by rw[<-S.vals.length,la]
 have rvR:Vals (katRev b xs) (katRev b its):=pD b rv;have lR:(katRev b xs).length=xs.length:=kat_len b xs;have gk:∀i,i<xs.length->∃(v:V) (u:Value) (k:ZKey),RelV v u/\(katRev b us).getD i Value.none=u/\k∈ks/\(katRev b (ks.map ZKey.nums)).getD i []=k.nums/\k.at H' v:=fun i hi=>by
  obtain⟨j,hj,e1⟩:∃j,j<xs.length/\∀{α:Type} (l:List α),l.length=xs.length->(katRev b l)[i]?=l[j]?:=by
   cases b with
   |false=>exact⟨i,hi,fun l _=>rfl⟩
   | true=>exact⟨xs.length - 1 - i,by omega,fun l hl'=>by
     show l.reverse[i]?=_;rw[List.getElem?_reverse (by omega),hl']⟩
  have h1:as[j]?=some (as[j]'(by omega)):=Zb (by omega);have h2:ks[j]?=some (ks[j]'(by omega)):=Zb (by omega);obtain⟨u,gu,ru⟩:=S.vals.get h1;refine⟨_,u,_,ru,?_,Z7 (show j<ks.length by omega),?_,S.keys j _ _ h1 h2⟩
  ·rw[Zd,e1 us lu,gu];rfl
  ·rw[Zd,e1 (ks.map ZKey.nums) (by rw[Zi,hl]),ZG,h2];rfl
 have fin:∀p:Array Nat,POk xs.length p->p.size=xs.length/\LS (fun i j=>HT.lexLt ((katRev b (ks.map ZKey.nums)).getD i []) ((katRev b (ks.map ZKey.nums)).getD j [])) p xs.length ->
   KatFin X.base X.env.locals m kS D us e2 e1 (katRev b (p.toList.map fun i=>(katRev b its).getD i Value.none)) (fun s4=>EP X pins σ Q (.ref D) s4) s':=fun p hp hs=>by
  refine KatFin.intro (news:=(kS,seqObj "list" (List.toArray us) e2)::eE X.base s'.heap X.env.locals kS) S.fr (eT S.hk S.fk.2.1 S.bk) (.head gN) fun h3 c F3 N3=>?_;have mv3:=eS (fun b' o qb=>S.I.bk b' o qb) F3 N3;have hd3:h3.get? D=some (seqObj "list" #[] e1):=mv3 D _ S.fd.2.1 (fun zz=>hkd (Zu.mp zz).symm) S.hd;refine KasFin.intro (news:=(D,seqObj "list" #[] e1)::eE X.base h3 X.env.locals D) (s:={ s' with heap:=h3 }) F3 (eT hd3 S.fd.2.1 S.bd) (.head gN) fun h4 c4 F4 N4=>?_;have mv4:=eS (fun b' o qb=>F3.keep b' o qb) F4 N4;have hch:∀b∈[kS,D],aY (wX X [kS,D]) pins H' b:=fun b' hb=>by
   simp only[Zq,Z6,or_false]at hb;rcases hb with rfl|rfl
   ·exact S.fk
   ·exact S.fd
  have mv:∀b u,b≠X.env.locals->b∉[kS,D]->s'.heap.get? b=some u->h4.get? b=some u:=fun b' u hL hx g=>mv4 b' u hL (fun zz=>hx (by rw[Zu.mp zz];simp)) (mv3 b' u hL (fun zz=>hx (by rw[Zu.mp zz];simp)) g);have pl:∀i∈p.toList,i<xs.length:=fun i hi=>by have:=(hp.mem_iff).mp (YF.mp hi);simpa using this
  have vals:∀(w:List Nat),(∀i∈w,i<xs.length)->Vals (w.map fun i=>(katRev b xs).getD i .non) (w.map fun i=>(katRev b its).getD i Value.none):=fun w=>by
   induction w with
   |nil=>intro _;exact .nil
   |cons i w ih =>intro hw;have hi:=hw i Zr;have hx:(katRev b xs)[i]?=some ((katRev b xs)[i]'(by omega)):=Zb (by omega);obtain⟨u,gu,ru⟩:=rvR.get hx;refine .cons ?_ (ih fun j hj=>hw j (Zh _ hj));show RelV ((katRev b xs).getD i V.non) ((katRev b its).getD i Value.none);rw[Zd,Zd,hx,gu];exact ru
  have lp:p.toList.length=xs.length:=by have:=hs.1;simpa using this
  have new:ObjOk X.prog X.w (upd H' D (.lst (katRev b (p.toList.map fun i=>(katRev b xs).getD i .non)))) h4 D (.lst (katRev b (p.toList.map fun i=>(katRev b xs).getD i .non))):=⟨by rw[kat_len,Zi,lp];exact dj (by omega),_,c4,pD b (vals _ pl),(N4 _ (.head _)).1⟩
  have I4:=Inv.tookF (X:=wX X [kS,D]) (ch:=[kS,D]) (a:=D) (o:=.lst (katRev b (p.toList.map fun i=>(katRev b xs).getD i .non))) (t':=s'.toks) S.I (by simp) hch mv ⟨m,S.ns,F4.ns⟩ new;exact⟨.ref D,_,I4.narrow I.ok (fun b' hb=>(hlx b' hb).old),rfl,q p H' D hp hs.2 S.sm S.fd.1⟩
 have go:∀κ:SortKind,(∀(i j:Nat) (C:Bool->Shared->Prop),i<xs.length->j<xs.length->C (HT.lexLt ((katRev b (ks.map ZKey.nums)).getD i []) ((katRev b (ks.map ZKey.nums)).getD j [])) s'->kas_ask X.prog X.w X.A.in1.in1 κ (katRev b us) i j C s') ->
   ZGo X.prog X.w X.A.in1.in1 b us its (fun out=>KatFin X.base X.env.locals m kS D us e2 e1 out (fun s4=>EP X pins σ Q (.ref D) s4)) κ s':=fun κ hask=>by
  refine⟨_,tH (katRev b (ks.map ZKey.nums)),?_,?_⟩
  ·rw[hN];exact hask
  ·rw[hN];exact fun p hp hs=>fin p hp ⟨by have:=hp.size_eq;simpa using this,hs⟩
 refine⟨fun n2=>?_,fun n2=>?_⟩
 rotate_left
 ·have:=fin (List.toArray (List.range its.length)) (by rw[hN];exact Array.Perm.refl _) ⟨by simpa using hN,fun i j h1 h2=>by omega⟩;rw[YI]at this;exact this
 rcases hne with(hI|hB)|⟨hP,hun⟩
 ·refine kas_kind (T:=.type "int") (by omega) (fun u hu=>?_) rfl rfl (go _ fun i j C hi hj hC=>?_)
  ·obtain⟨j,hj,rfl⟩:=List.getElem_of_mem hu;have h1:as[j]?=some (as[j]'(by omega)):=Zb (by omega);have h2:ks[j]?=some (ks[j]'(by omega)):=Zb (by omega);obtain⟨u,gu,ru⟩:=S.vals.get h1;have ky:=S.keys j _ _ h1 h2;obtain⟨n',en⟩:=hI _ (Z7 (show j<ks.length by omega));rw[en]at ky;rw[show as[j]'(by omega)=V.int n' from ky]at ru;obtain⟨t,rfl⟩:=ru;rw[Zb hj]at gu;rw[Zs gu];exact .now
  ·obtain⟨v,u,k1,ru,eu,m1,en,at1⟩:=gk i hi;obtain⟨v2,u2,k2,ru2,eu2,m2,en2,at2⟩:=gk j hj;obtain⟨n1,rfl⟩:=hI _ m1;obtain⟨n2,rfl⟩:=hI _ m2;rw[show v=V.int n1 from at1]at ru;rw[show v2=V.int n2 from at2]at ru2;obtain⟨t,rfl⟩:=ru;obtain⟨t2,rfl⟩:=ru2;unfold kas_ask;rw[eu,eu2];rw[en,en2]at hC;refine kat_lt_int ?_;have e1':HT.lexLt (ZKey.i n1).nums (ZKey.i n2).nums=decide (n1<n2):=yw n1 n2;rw[e1']at hC;exact hC
 ·have tups:∀(vs:List V) (ws:List Value) (n:Nat),Vals vs ws->n+vs.length=ks.length->(∀(i:Nat) (v:V) (k:ZKey),vs[i]?=some v->ks[n+i]?=some k->k.at H' v)->∃fs:List Value,KatTups s'.heap ws fs/\fs.length=ws.length/\∀v∈fs,∃i t,v=.int i t:=fun vs=>by
   induction vs with
   |nil =>intro ws n hv _ _;cases hv;exact⟨[],KatTups.nil,rfl,fun v h=>nomatch h⟩
   |cons v vs ih =>
    intro ws n hv hl' h;cases hv with
    |cons rv1 hv =>
     rw[Zt]at hl';have hkn:ks[n]?=some (ks[n]'(by omega)):=Zb (by omega);obtain⟨ns,en,ne⟩:=hB _ (Z7 (show n<ks.length by omega));rw[en]at hkn;obtain⟨a,rfl,ea⟩:=h 0 v _ rfl (by rw[Nat.add_zero];exact hkn);cases rv1;obtain⟨ia,ra,pa,za⟩:=S.I.tuple (SqT.of (K:=X.K) ea);obtain⟨oa,eo,ca,n1,da⟩:=id pa;obtain⟨x,t,ia',rfl⟩:∃x t r,ia=.int x t::r:=by
      cases aJ ra with
      |nil=>exact absurd rfl ne
      |cons x t r=>exact⟨x,t,_,rfl⟩
     obtain⟨fs,f1,f2,f3⟩:=ih _ (n+1) hv (by omega) (fun i w k' h1 h2=>h (i+1) w k' h1 (by rw[show n+(i+1)=n+1+i by omega];exact h2));refine⟨.int x t::fs,KatTups.cons eo ca da rfl f1,by rw[Zt,Zt,f2],fun v hv=>?_⟩;rcases Zq.mp hv with rfl|hv
     ·exact⟨_,_,rfl⟩
     ·exact f3 v hv
  obtain⟨fs,t1,t2,t3⟩:=tups as us 0 S.vals (by omega) (fun i v k h1 h2=>S.keys i v k h1 (by rw[Nat.zero_add]at h2;exact h2));refine kat_kind (T:=.type "int") t1 (by omega) (fun v hv=>?_) rfl (go _ fun i j C hi hj hC=>?_)
  ·obtain⟨i,t,rfl⟩:=t3 v hv;exact .now
  ·obtain⟨v,u,k1,ru,eu,m1,en,at1⟩:=gk i hi;obtain⟨v2,u2,k2,ru2,eu2,m2,en2,at2⟩:=gk j hj;obtain⟨n1,rfl,_⟩:=hB _ m1;obtain⟨n2,rfl,_⟩:=hB _ m2;obtain⟨a1,rfl,ha1⟩:=at1;obtain⟨a2,rfl,ha2⟩:=at2;cases ru;cases ru2;obtain⟨ia,ra,pa,za⟩:=S.I.tuple (SqT.of (K:=X.K) ha1);obtain⟨ib,rb,pb,zb⟩:=S.I.tuple (SqT.of (K:=X.K) ha2);obtain⟨oa,eoa,ca,q1,da⟩:=id pa;obtain⟨ob,eob,cb,q2,db⟩:=id pb;unfold kas_ask;rw[eu,eu2];rw[en,en2]at hC;exact kat_lt eoa da eob db (jg _ _ _ _ 0 (aJ ra) (aJ rb) (by rw[Zf,Zf,<-ra.length,<-rb.length,Zi,Zi]) hC)
 ·have tups:∀(vs:List V) (ws:List Value) (n:Nat),Vals vs ws->n+vs.length=ks.length->(∀(i:Nat) (v:V) (k:ZKey),vs[i]?=some v->ks[n+i]?=some k->k.at H' v)->∃fs:List Value,KatTups s'.heap ws fs/\fs.length=ws.length/\∀v∈fs,∃(a:Addr) (o:Obj),v=.ref a/\s'.heap.get? a=some o/\o.cls=.type "tuple":=fun vs=>by
   induction vs with
   |nil =>intro ws n hv _ _;cases hv;exact⟨[],KatTups.nil,rfl,fun v h=>nomatch h⟩
   |cons v vs ih =>
    intro ws n hv hl' h;cases hv with
    |cons rv1 hv =>
     rw[Zt]at hl';have hkn:ks[n]?=some (ks[n]'(by omega)):=Zb (by omega);obtain⟨ps,ns,en⟩:=hP _ (Z7 (show n<ks.length by omega));rw[en]at hkn;obtain⟨a,b,c,rfl,ea,eb,ec⟩:=h 0 v _ rfl (by rw[Nat.add_zero];exact hkn);cases rv1;obtain⟨ia,ra,pa,za⟩:=S.I.tuple (SqT.of (K:=X.K) ea);obtain⟨oa,eo,ca,n1,da⟩:=id pa;obtain⟨ib,rb,pb,zb⟩:=S.I.tuple (SqT.of (K:=X.K) eb);obtain⟨ob,eob,cb,n2,db⟩:=id pb;obtain⟨u1,u2,rfl,r1,r2⟩:=hM ra;cases r1;obtain⟨fs,f1,f2,f3⟩:=ih _ (n+1) hv (by omega) (fun i w k' h1 h2=>h (i+1) w k' h1 (by rw[show n+(i+1)=n+1+i by omega];exact h2));refine⟨.ref b::fs,KatTups.cons eo ca da rfl f1,by rw[Zt,Zt,f2],fun v hv=>?_⟩;rcases Zq.mp hv with rfl|hv
     ·exact⟨b,ob,rfl,eob,cb⟩
     ·exact f3 v hv
  obtain⟨fs,t1,t2,t3⟩:=tups as us 0 S.vals (by omega) (fun i v k h1 h2=>S.keys i v k h1 (by rw[Nat.zero_add]at h2;exact h2));refine kat_kind (T:=.type "tuple") t1 (by omega) (fun v hv=>?_) rfl (go _ fun i j C hi hj hC=>?_)
  ·obtain⟨a,o,rfl,ho,hc'⟩:=t3 v hv;rw[<-hc'];exact(Looks.ld ho).andThen .now
  ·obtain⟨v,u,k1,ru,eu,m1,en,at1⟩:=gk i hi;obtain⟨v2,u2,k2,ru2,eu2,m2,en2,at2⟩:=gk j hj;obtain⟨p1,n1,rfl⟩:=hP _ m1;obtain⟨p2,n2,rfl⟩:=hP _ m2;obtain⟨a1,b1,c1,rfl,ha1,hb1,hc1⟩:=at1;obtain⟨a2,b2,c2,rfl,ha2,hb2,hc2⟩:=at2;cases ru;cases ru2;obtain⟨ia,ra,pa,za⟩:=S.I.tuple (SqT.of (K:=X.K) ha1);obtain⟨ib,rb,pb,zb⟩:=S.I.tuple (SqT.of (K:=X.K) ha2);obtain⟨oa,eoa,ca,q1,da⟩:=id pa;obtain⟨ob,eob,cb,q2,db⟩:=id pb;obtain⟨u1,u2,rfl,r1,r2⟩:=hM ra;cases r1;cases r2;obtain⟨u1,u2,rfl,r1,r2⟩:=hM rb;cases r1;cases r2;obtain⟨ix,rx,px,zx⟩:=S.I.tuple (SqT.of (K:=X.K) hb1);obtain⟨iy,ry,py,zy⟩:=S.I.tuple (SqT.of (K:=X.K) hb2);obtain⟨jx,sx,qx,yx⟩:=S.I.tuple (SqT.of (K:=X.K) hc1);obtain⟨jy,sy,qy,yy⟩:=S.I.tuple (SqT.of (K:=X.K) hc2);unfold kas_ask;rw[eu,eu2];rw[en,en2]at hC;have hu0:X.A.in1.in1.units<cLine:=by omega
   exact kat_lt eoa da eob db (pI (iK S.I hun hb1 hb2) (iK S.I hun hc1 hc2) (fun R hR=>HT.lt_tupInts px py (aJ rx) (aJ ry) hu0 hR) (fun R hR=>HT.lt_tupInts qx qy (aJ sx) (aJ sy) hu0 hR) rfl hC)
end
open PySem PySem.Spec PyProof.Rows PySem.W
open PySem PySem.Spec PyProof.Rows PySem.W
open PySem PySem.Spec PyProof.Rows PySem.W
open PySem PySem.Spec PyProof.Rows PySem.W
end L2
set_option maxHeartbeats 4000000
namespace PySem
open Sem (wp)
section
variable{prog:Program}{w:World}{K:Type}[DecidableEq K]{knd:KeyKind prog w K}
structure PairAt(knd:KeyKind prog w K)(h:Heap)(p:Addr×List K×Addr×Value):Prop where
 tup:∃o n,h.get? p.1=some o/\o.cls=.type "tuple"/\o.data=.seq #[.ref p.2.2.1,p.2.2.2] n
 key:IsTupleKey knd h p.2.1 p.2.2.1
variable{A:Around}{R:Result->Shared->Prop}
end
end PySem
namespace L2
open PySem PySem.Spec PyProof.Rows PySem.W
open PySem PySem.Spec PyProof.Rows PySem.W
open PySem PySem.Spec PyProof.Rows PySem.W
open PySem PySem.Spec PyProof.Rows PySem.W
theorem mI{prog:Program}{w:World}{d:Addr}(hd:(d==sysModules)=false)(es:Array DictEntry)(ep:Nat) :
  MeetsIn prog w (Builtin.«dict.__len__» ⟨[.ref d],[]⟩) (fun _ R s=>DRaw s.heap d es ep/\R (.ok (.ret (.int es.size s.toks))) { s with toks:=s.toks+1 }) :=
 .of_wp fun A R s ⟨hm,h⟩=>by obtain⟨o,ho,hc,hdat⟩:=hm;show wpAny _ _ (dictSize d >>= _) _ _ s;unfold dictSize;refine z6 (z6 (Yt ho hdat (z9 ?_)));show wpAny _ _ (Builtin.Dict.pendingCount d >>= _) _ _ s;refine z6 (wpAny_pendingCount_other hd ?_);refine wpAny_ret_mkInt ?_;rw[Nat.add_zero];exact h
theorem nM{prog:Program}{w:World}{A:Around}{E:Value->Shared->Prop}{s:Shared}{d:Addr}{es:Array DictEntry}{ep:Nat}{Q:Value->Shared->Prop}(hd:(d==sysModules)=false)(hm:DRaw s.heap d es ep)(hfit:(es.size:Int)<2^63)(h:Q (.int es.size (s.toks+1)) { s with toks:=s.toks+1+1 }):wpAny (model prog w) A (call (.builtin "len") [.ref d]) Q E s:=by
 refine Calls.call_function_entry kind_len plain_len entry_len (args_len1 _) ?_;unfold Builtin.«len»;refine z6 (m:=oneArg "len" _) (z9 ?_);refine z6 (m:=callSpecial? (.ref d) (Str.ofString "__len__")) (ZY (name:=Str.ofString "__len__") hm.type F.slot_dict_len
  (call_meetsIn F.slot_dict_len hm.type F.entry_dict_len (F.args_dict_len_1 _) (mI hd es ep) ⟨hm,?_⟩))
 show wpAny _ _ _ _ _ { s with toks:=s.toks+1 };refine z6 (Z0 (z9 ?_));refine z6 (wpAny_letGo ?_);show wpAny _ _ (if((es.size:Nat):Int)<0 then _ else _) _ _ _;rw[if_neg (by omega)];show wpAny _ _ (if((es.size:Nat):Int)>=2^63 then _ else _) _ _ _;rw[if_neg (by omega)];exact z6 (wpAny_mkInt (z9 ⟨_,rfl,h⟩))
section
variable{X:Cx}
theorem sG:dW X (.builtin "len") (fun xs H Q=>∃a kvs,xs=[V.ref a]/\Rd H a (.dT kvs)/\Q (.int kvs.length) H):=by intro pins s σ H xs us Q I r h;obtain⟨a,kvs,rfl,ha,q⟩:=h;obtain⟨u,rfl,ru⟩:=ee r;cases ru;obtain⟨z,hd,ys,rel,o,es,ep,h1,h2,h3,h4,_,_⟩:=fm I.hok ha;have e:es.size=kvs.length:=(size_of_entries h4).trans (Zy rel).symm;refine nM hd ⟨o,h1,h2,h3⟩ (by rw[e];rw[sizeLine_eq]at z;omega) ?_;rw[e];exact⟨.int kvs.length,H,I.tok _,⟨_,rfl⟩,q⟩
theorem zY:QCall X (.builtin "len") (fun xs H Q=>∃a kvs,xs=[V.ref a]/\Rd H a (.dT kvs)/\Q (.int kvs.length) H):=⟨sG⟩
end
open PySem PySem.Spec PyProof.Rows PySem.W
section
variable{X:Cx}{pins:List (Addr×Obj)}{σ:St}{H:Hp}{s:Shared}
theorem jX{A:Around}{E:Value->Shared->Prop}{P:PySem.Fin->Shared->Prop}{a:Addr}{n:Nat}{vs:List Value}(h2:vs.length<2)(ho:s.heap.get? a=some (seqObj "list" vs.toArray n))(h:∀(h3:Heap) (c:Nat),(∀b u,b≠a->s.heap.get? b=some u->h3.get? b=some u)->h3.get? a=some (seqObj "list" vs.toArray c)->P (.done (.ret .none)) { s with heap:=h3 }) :
  wpAny (model X.prog X.w) A (Builtin.«list.sort» ⟨[.ref a],[]⟩) P E s:=by
 have zs:vs.toArray.size<=sizeLine:=by rw[Zf,sizeLine_eq];omega
 have s1:=ZR s.heap a (Obj.mapSeq fun _=>(#[]:Array Value));obtain⟨e1,ho1⟩:∃e1,(s.heap.update a (Obj.mapSeq fun _=>(#[]:Array Value))).get? a=some (seqObj "list" #[] e1):=⟨_,get?_update_seq ho fun _=>#[]⟩
 have ha3:(((s.heap.update a (Obj.mapSeq fun _=>(#[]:Array Value))).push (seqObj "tuple" vs.toArray 0)).push (seqObj "list" #[] 0)).get? a=some (seqObj "list" #[] e1):=Za _ (Za _ ho1);have kp:∀b u,b≠a->s.heap.get? b=some u->(((s.heap.update a (Obj.mapSeq fun _=>(#[]:Array Value))).push (seqObj "tuple" vs.toArray 0)).push (seqObj "list" #[] 0)).get? b=some u:=fun b u hb g=>Za _ (Za _ ((s1.2 b hb).trans g));rw[list_sort_plain];refine z6 (listItems_at ho rfl ?_);refine z6 (listUpdate_at ho rfl ?_ zs (ZO _));refine z6 (seqEpoch_at ho1 rfl ?_);refine z6 (wpAny_newTuple ?_ zs);refine z6 (wpAny_newList ?_ (ZO _));refine Z0 ?_;show wpAny (model X.prog X.w) A _ P E { s with heap:=((s.heap.update a (Obj.mapSeq fun _=>(#[]:Array Value))).push (seqObj "tuple" vs.toArray 0)).push (seqObj "list" #[] 0) };generalize((s.heap.update a (Obj.mapSeq fun _=>(#[]:Array Value))).push (seqObj "tuple" vs.toArray 0)).push (seqObj "list" #[] 0)=h1 at ha3 kp ⊢;dsimp only;have hn2:vs.toArray.size<2:=by rw[Zf];exact h2
 rw[if_pos hn2,if_pos hn2];refine z6 (z9 ?_);rw[StateT.run_pure];refine z6 (z9 ?_);dsimp only;have em:Array.map (fun x=>x.snd) (arrOf (SortSt.mk' general' (vs.toArray.zip vs.toArray) #[] 7 none))=vs.toArray:=by show Array.map (fun x:Value×Value=>x.2) (vs.toArray.zip vs.toArray)=_;apply Array.toList_inj.mp;rw[Array.toList_map,Array.toList_zip];exact List.map_snd_zip (Ze _)
 rw[em];have s2:=ZR h1 a (Obj.mapSeq fun _=>vs.toArray);obtain⟨c2,hc2⟩:∃c2,(h1.update a (Obj.mapSeq fun _=>vs.toArray)).get? a=some (seqObj "list" vs.toArray c2):=⟨_,get?_update_seq ha3 fun _=>vs.toArray⟩
 refine z6 (seqEpoch_at ha3 rfl ?_);refine z6 (listUpdate_at ha3 rfl ?_ (ZO _) (Nat.le_succ_of_le zs));simp only[bne_self_eq_false,YL,if_false];exact z9 (h _ c2 (fun b u hb g=>(s2.2 b hb).trans (kp b u hb g)) hc2)
theorem pk{l:Addr}{xs:List V}{Q:VK}(I:Inv X pins σ H s)(hH:H l=some (.lst xs))(h2:xs.length<2)(q:∀D:Addr,H D=none->Q (.ref D) (upd H D (.lst xs))) :
  wpAny (model X.prog X.w) X.A (call (.builtin "sorted") [.ref l]) (EP X pins σ Q) X.xe s:=by
 obtain⟨z,its,n,rv,hlen,e⟩:=I.lstM hH;have li:its.length=xs.length:=hlen.symm;have zs:its.toArray.size<=sizeLine:=by rw[Zf,sizeLine_eq];omega
 refine Calls.call_function_entry kind_sorted plain_sorted entry_sorted (args_sorted1 _) ?_;unfold Builtin.«sorted»;refine z6 (m:=checkCount "sorted" 1 1 _) (z9 (z6 (collect_list ⟨_,e,rfl,n,rfl⟩ (z6 (wpAny_newList ?_ zs)) zs)));have z1:((s.heap.push (seqObj "list" #[] 0)).update s.heap.objs.size (Obj.mapSeq (·++its.toArray))).objs.size=s.heap.objs.size+1:=by rw[Heap.size_update,size_push']
 have g1:(((s.heap.push (seqObj "list" #[] 0)).update s.heap.objs.size (Obj.mapSeq (·++its.toArray))).push (seqObj "list" its.toArray 0)).get? (s.heap.objs.size+1)=some (seqObj "list" its.toArray 0):=by rw[<-z1];exact Zo _ rfl
 have kp:∀b o,s.heap.get? b=some o->(((s.heap.push (seqObj "list" #[] 0)).update s.heap.objs.size (Obj.mapSeq (·++its.toArray))).push (seqObj "list" its.toArray 0)).get? b=some o:=fun b o g=>by have lt:=Zm g;rw[Heap.get?_push_ne _ _ _ (by rw[z1];exact Zv (Nat.lt_succ_of_lt lt)),Heap.get?_update_ne _ _ _ _ (Zv lt),Heap.get?_push_ne _ _ _ (Zv lt)];exact g
 show wpAny _ _ _ _ _ { s with heap:=((s.heap.push (seqObj "list" #[] 0)).update s.heap.objs.size (Obj.mapSeq (·++its.toArray))).push (seqObj "list" its.toArray 0) };rw[z1];generalize(((s.heap.push (seqObj "list" #[] 0)).update s.heap.objs.size (Obj.mapSeq (·++its.toArray))).push (seqObj "list" its.toArray 0))=hA at g1 kp ⊢;refine z6 (Z0 (Z1 slot_list_sort ⟨_,g1,rfl⟩ entry_list_sort ?body (args_list_sort _)))
 case body =>
  refine jX (X:=X) (s:={ s with heap:=hA }) (by omega) g1 fun h3 c k3 a3=>⟨_,rfl,z9 ⟨_,rfl,?_⟩⟩
  have da:s.heap.get? (s.heap.objs.size+1)=none:=YE (Nat.le_succ _);exact⟨.ref _,_,I.laid (t':=s.toks) (o:=.lst xs) (fun b o g=>k3 b o (fun zz=>by rw[zz,da]at g;cases g) (kp b o g)) (Nat.le_succ _) ⟨z,its,c,rv,a3⟩,rfl,q _ (none_of I da)⟩
theorem ur{K:PySem.W.Frag}{e:Expr}{f:Str}{ta:TE}{pos:Pos}(hK:X.K=K)(he:QE X e ta)(hb:attributeBase e f X.env (eval e X.env)=eval e X.env:=by rfl):QE X (.Attribute e f pos) (wM K ta f):=by subst hK;exact bA he hb
theorem pS:QCall X (.builtin "sorted") (fun xs H Q=>∃ (p:Addr) (as:List Addr) (ks:List (List Int)),xs=[.ref p]/\H p=some (.lst (as.map V.ref))/\as.length<64/\ks.length=as.length/\(∀ k∈ks,k≠[])/\(∀ (i:Nat) (a:Addr) (k:List Int),as[i]? = some a->ks[i]? = some k->H a=some (.tup (k.map V.int))) /\
  ∀ (pm:Array Nat) (D:Addr),POk as.length pm->LS (fun i j=>HT.lexLt (ks.getD i []) (ks.getD j [])) pm as.length->H D=none->Q (.ref D) (upd H D (.lst (pm.toList.map fun i=>(as.map V.ref).getD i .non)))):=by
 refine⟨?_⟩;intro pins s σ H xs us Q I r h;obtain⟨p,as,ks,rfl,hp,h64,hl,hne,hk,q⟩:=h;obtain⟨u,rfl,ru⟩:=ee r;cases ru;by_cases h2:as.length<2
 ·refine pk I hp (by rw[Zi];exact h2) fun D hD=>?_;have e:((List.range as.length).toArray.toList.map fun i=>(as.map V.ref).getD i V.non)=as.map V.ref:=by refine List.ext_getElem (by simp) fun i h1 h2=>?_;rw[Zi]at h2;simp[h2]
  have:=q (List.range as.length).toArray D (Array.Perm.refl _) (fun i j hij hj=>by omega) hD;rw[e]at this;exact this
 obtain⟨z,its,n,rv,hlen,e⟩:=I.lstM hp;rw[Zi]at hlen;have eits:its=as.map Value.ref:=by
  clear e z hlen hp hk q hl h2 h64;induction as generalizing its with
  |nil=>cases rv;rfl
  |cons a as ih =>
   cases rv with
   |cons r1 r2 =>cases r1;rw[ih _ r2];rfl
 subst eits;obtain⟨m,F0⟩:=I.fr;refine kat_sorted (vs:=as.map Value.ref) F0 (fK X.base s.heap X.env.locals) ⟨_,e,rfl,n,rfl⟩ (by rw[Zi];omega) (by rw[Zi];omega) fun D e1 h1 F1 N1 hD=>?_;have mv0:∀b u,b≠X.env.locals->b∉([]:List Addr)->s.heap.get? b=some u->h1.get? b=some u:=fun b u hL _ g=>by
  cases qb:X.base.get? b with
  |none=>exact(N1 (b,u) (.tail _ (bQ g hL qb))).1
  |some o =>have e':=I.bk b o qb;rw[g]at e';cases e';exact F1.keep b u qb
 have I1:Inv X pins σ H { s with heap:=h1 }:=Inv.movedF (ch:=[]) (t':=s.toks) I (fun b hb=>absurd hb (by simp)) mv0 ⟨m,F0.ns,F1.ns⟩;obtain⟨fs,t1,t2,t3⟩:=oq I1 hne as 0 (by omega) (fun i a k h1 h2=>hk i a k h1 (by rw[Nat.zero_add]at h2;exact h2));refine kat_kind (T:=.type "int") t1 (by omega) (fun v hv=>?_) rfl ?_
 ·obtain⟨i,t,rfl⟩:=t3 v hv;exact .now
 rw[Zi];refine qd (n:=as.length) (lt:=fun i j=>HT.lexLt (ks.getD i []) (ks.getD j [])) (fun i j C hi hj hC=>?_) (fun pm hpm hs=>?_) (vJ (by omega)) (yt (tH ks) (by omega))
 ·have ga:∀i,i<as.length->∃a:Addr,(as.map Value.ref).getD i Value.none=.ref a/\H a=some (.tup ((ks.getD i []).map V.int)):=fun i hi=>by
   have h1:as[i]?=some (as[i]'(by omega)):=Zb (by omega);have h2:ks[i]?=some (ks[i]'(by omega)):=Zb (by omega);refine⟨as[i]'(by omega),?_,?_⟩
   ·rw[Zd,ZG,h1];rfl
   ·have:=hk i _ _ h1 h2;rw[Zd,h2];exact this
  obtain⟨a,ea,ha⟩:=ga i hi;obtain⟨b,eb,hb'⟩:=ga j hj;obtain⟨ia,ra,pa,za⟩:=I1.tuple (SqT.of (K:=X.K) ha);obtain⟨ib,rb,pb,zb⟩:=I1.tuple (SqT.of (K:=X.K) hb');obtain⟨oa,eoa,ca,n1,da⟩:=id pa;obtain⟨ob,eob,cb,n2,db⟩:=id pb;unfold kas_ask;rw[ea,eb];exact kat_lt eoa da eob db (jg _ _ _ _ 0 (aJ ra) (aJ rb) (by rw[Zf,Zf,<-ra.length,<-rb.length,Zi,Zi]) hC)
 ·have hDL:D≠X.env.locals:=(N1 (D,seqObj "list" #[] e1) (.head _)).2.1;have hDs:s.heap.get? D=none:=by
   cases g:s.heap.get? D with
   |none=>rfl
   |some o=>exact absurd (hD (D,o) (bQ g hDL (N1 (D,seqObj "list" #[] e1) (.head _)).2.2)) (Yq _)
  have pl:∀i∈pm.toList,i<as.length:=fun i hi=>by have:=(hpm.mem_iff).mp (YF.mp hi);simpa using this
  have vals:∀(w:List Nat),(∀i∈w,i<as.length)->Vals (w.map fun i=>(as.map V.ref).getD i .non) (w.map fun i=>(as.map Value.ref).getD i Value.none):=fun w=>by
   induction w with
   |nil=>intro _;exact .nil
   |cons i w ih =>intro hw;have hi:=hw i Zr;refine .cons ?_ (ih fun j hj=>hw j (Zh _ hj));show RelV ((as.map V.ref).getD i V.non) ((as.map Value.ref).getD i Value.none);rw[Zd,Zd,ZG,ZG,Zb hi];rfl
  have lp:pm.toList.length=as.length:=by have:=hs.1;simpa using this
  refine KasFin.intro (news:=(D,seqObj "list" #[] e1)::kE X.base s.heap X.env.locals) F1 N1 (.head fun p hp=>Zv (hD p hp)) fun h2 c F2 N2=>?_;refine⟨.ref D,_,I.laidF (o:=.lst (pm.toList.map fun i=>(as.map V.ref).getD i .non)) (t':=s.toks) (fun b o hL g=>?_) ⟨m,F0.ns,F2.ns⟩ hDs ⟨by rw[Zi,lp];exact bG (by omega),_,c,vals _ pl,(N2 (D,_) (.head _)).1⟩,rfl,q pm D hpm hs.2 (none_of I hDs)⟩;cases q:X.base.get? b with
  |none=>exact(N2 (b,o) (.tail _ (bQ g hL q))).1
  |some o' =>have e':=I.bk b o' q;rw[g]at e';cases e';exact F2.keep b o q
end
open PySem PySem.Spec PyProof.Rows PySem.W
open PySem PySem.Spec PyProof.Rows PySem.W
open PySem PySem.Spec PyProof.Rows PySem.W
open PySem PySem.Spec PyProof.Rows PySem.W
open PySem PySem.Spec PyProof.Rows PySem.W
open PySem PySem.Spec PyProof.Rows PySem.W
open PySem PySem.Spec PyProof.Rows PySem.W
open PySem PySem.Spec PyProof.Rows PySem.W
open PySem PySem.Spec PyProof.Rows PySem.W
section
variable{X:Cx}{pins:List (Addr×Obj)}{σ:St}{H:Hp}{s:Shared}
theorem uJ{p:Addr}{kvs:List (List Key×V)}(hc:X.calm=true)(I:Inv X pins σ H s)(hq:Rd H p (.dT kvs)):∃ks,dI H kvs ks/\zS X s p ks:=by
 obtain⟨z,hd,xs,rel,o,es,ep,h1,h2,h3,h4,_,_⟩:=fm I.hok hq;have hsz:es.size=xs.length:=size_of_entries h4;have hkl:kvs.length=xs.length:=Zy rel;refine⟨_,jV rel,fun Q h=>?_⟩;refine kdu_collect (qC (es:=es) (ep:=ep) hd) (I.ok.hd hc) ⟨o,h1,h2,h3⟩ (by omega) fun h' tk acc' kp hacc=>h h' tk _ kp ?_;have gen:∀(vs:List Value) (ys:List (List Key×Addr×Value)),vs.length=ys.length->(∀(j:Nat) (v:Value),vs[j]?=some v->∃x:List Key×Addr×Value,ys[j]?=some x/\v=Value.ref x.2.1)->Vals (ys.map fun(x:List Key×Addr×Value)=>V.ref x.2.1) vs:=by
  intro vs;induction vs with
  |nil =>
   intro ys hl _;cases ys with
   |nil=>exact .nil
   |cons _ _=>cases hl
  |cons v vs ih =>
   intro ys hl hv;cases ys with
   |nil=>cases hl
   |cons y ys =>obtain⟨x,e1,e2⟩:=hv 0 v rfl;cases e1;exact .cons e2 (ih ys (by simpa using hl) fun j v' e'=>hv (j+1) v' (by simpa using e'))
 refine gen _ _ (by rw[Zk,hacc.1,hsz]) fun j v e'=>?_;obtain⟨en,e1,e2⟩:=hacc.2 j v (by rw[<-YD];exact e');rw[entry_at h4]at e1;obtain⟨x,e3,e4⟩:=ZZ.mp e1;refine⟨x,e3,?_⟩;rw[e2,<-e4];rfl
end
def BS(sp:Sp)(H:Hp)(xs:List V)(Q:VK):Prop :=
 xs.length<=4096/\∃ks:List ZKey,ks.length=xs.length/\sD ks /\
 (∀(i:Nat) (v:V) (key:ZKey) (H':Hp),xs[i]?=some v->ks[i]?=some key->Same H H'->∀R:VK,(∀kv H'',Same H' H''->key.at H'' kv->R kv H'')->sp [v] H' R E0) /\
 ∀(p:Array Nat) (H2:Hp) (D:Addr),POk xs.length p->LS (fun i j=>HT.lexLt ((ks.map ZKey.nums).getD i []) ((ks.map ZKey.nums).getD j [])) p xs.length->Same H H2->H2 D=none->Q (.ref D) (upd H2 D (.lst (p.toList.map fun i=>xs.getD i .non)))
def zt(P:Addr)(q:Str)(lpos:Pos)(j:Nat)(sp:V->Sp)(ta:TA):TE:=fun σ H0 Q=>ta σ H0 fun vs H=>∃(l:Addr) (kvs:List (List Key×V)) (kv:V),vs=[.ref l]/\σ[j]?=some (some kv)/\H l=some (.dT kvs)/\aQ q P lpos H/\∀ks H2,SameT P H H2->aQ q P lpos H2->dI H2 kvs ks->BS (sp kv) H2 ks Q
section
variable{X:Cx}{c P:Addr}{pins:List (Addr×Obj)}{σ:St}
theorem wz{k j:Nat}{x y:Str}{cy:Addr}{sp:V->Sp}{e body:Expr}{params:Arguments}{scope:Scope}{ta:TA}{p lpos kpos pos:Pos}(hc:X.calm=true)(hm:X.mg "sorted" = none)(hcode:X.env.code=.ref c)(C:CodeHd X.base c P)(B:Blt X.base X.mg)(F:LamOkX X.prog X.w X.K X.mg X.base k (X.env.qual++"<lambda>") body scope x y sp)(hr:Room (k+3) X.A)(ha:QA X [e] ta)(hj:X.N[j]?=some y)(hyc:X.env.scope.names.lookup y=some .cell)(hcy:X.env.cells.lookup y=some cy)(hcl:closureFor scope X.env=pure [(y,cy)])(hbd:∀(pm ct:Value) (c':Addr) (s:Shared) (u:Value),BindsTo s (rM (X.env.qual++"<lambda>") params body scope [(y,cy)] pm c' ct) ⟨[u],[]⟩ [(x,u)]:=by intros;exact .of_eq rfl)(hge:X.env.globals=mainGlobals:=by rfl)(hdef:defaultsOf params X.env=([],[]):=by rfl)(hg:Gl X "sorted":=by rfl)(hn:ax e=true:=by rfl) :
  QE X (.Call (.Name "sorted" p) [e] [⟨some "key",.Lambda params body scope lpos,kpos⟩] pos) (zt P (X.env.qual++"<lambda>") lpos j sp ta):=by
 refine⟨?_⟩;intro pins s σ H0 Q I h;refine wpAny_Call_Name_kw (dJ I hg hm PyProof.Rows.boot_sorted ?_);have h1:=aw (es:=[]) (env:=X.env) hn;refine PyProof.Rows.callWith_kw (thn (ha.h pos pins s σ H0 _ I h) fun us s1 hz9=>?_) (he:=by rw[h1];rfl) (hplain:=by rw[h1];rfl) (hall:=rfl) (hkw:=rfl);obtain⟨vs,H1,I1,r1,q1⟩:=hz9;obtain⟨l,kvs,kv,rfl,hσ,hH,tab,q⟩:=q1;obtain⟨u,rfl,ru⟩:=ee r1;cases ru;have hk:PK X [⟨some "key",.Lambda params body scope lpos,kpos⟩] (gZ (sw [(y,cy)] X P params body scope lpos) fL):=yV (yQ hcode hge C B hdef hcl) Be;refine thn (hk pos pins s1 σ H1 (fun zs H2=>∃f,zs=[.ref f]/\pN X P (X.env.qual++"<lambda>") lpos params body scope [(y,cy)] H1 f H2) I1 (vK tab fun f H2 mk=>⟨f,rfl,mk⟩)) fun ws s2 hz9=>?_;obtain⟨zs,H2,I2,rz,f,e1,mk⟩:=hz9;subst e1;obtain⟨u,rfl,ru⟩:=ee rz;cases ru;obtain⟨c',ct,sT,lt,hf,hc',nf,nc⟩:=mk;have hr2:Room (k+1) X.A.in1.in1:=(hr.mono (by omega) |>.in1 |>.in1)
 have F1:=vL (X:=X) (pins:=pins) (σ:=σ) (sp:=sp kv) (params:=params) (f:=f) (c:=cy) (c':=c') (pm:=(X.mg "__name__").getD .none) (ct:=ct) F.sc hj hσ hyc hcy hr2 (hbd _ _ _) fun A outer s H v Q hr' hs=>let⟨t,t1,t2⟩:=F.ex f c' cy kv A outer s H v Q hr' hs;⟨t,t1.h,t2⟩
 obtain⟨ps0,tP,_⟩:=id tab;have hlP:l≠P:=fun z=>by rw[z,tP]at hH;cases hH
 have hH2:=sT _ _ hH hlP;obtain⟨ks,kat,src⟩:=uJ hc I2 (Rd.of hH2);obtain⟨hz,zs,hl,hal,spec,q⟩:=q ks H2 sT lt kat;exact pM (b:=false) I2 src hz hl (.inr ⟨hal,hr2.units⟩) (ksk_s1 _ _) (fun x=>ksk_l1 _ _) (fun x=>ksk_t1 f x) F1 (fun i v key H' g1 g2 g3 R hR=>⟨g3 _ _ hf,g3 _ _ hc',spec i v key H' g1 g2 g3 R hR⟩) q
end
open PySem PySem.Spec PyProof.Rows PySem.W
section
variable{prog:Program}{w:World}{A:Around}{E:Value->Shared->Prop}{s:Shared}
theorem sC{α:Type}{M:Model}{c:Prop}[Decidable c]{x y:Sem α}{Q:α->Shared->Prop}(h1:c->wpAny M A x Q E s)(h2:¬c->wpAny M A y Q E s):wpAny M A (if c then x else y) Q E s:=by
 by_cases h:c
 ·rw[if_pos h];exact h1 h
 ·rw[if_neg h];exact h2 h
def bz(prog:Program)(w:World):Option (List Key)->Int
 |none=>0xFCA86420
 |some k=>(tupleKind (aK prog w)).hash k
def OIs(prog:Program)(w:World)(h:Heap):Option (List Key)->Value->Prop
 |none,v=>v=.none
 |some k,v=>∃a,v=.ref a/\(tupleKind (aK prog w)).is h k a
theorem mf{k:Option (List Key)}{v:Value}{Q:Int->Shared->Prop}(hu2:A.units<cLine)(h:OIs prog w s.heap k v)(q:∀tk,Q (bz prog w k) { s with toks:=tk }):wpAny (model prog w) A (pyHash v) Q E s:=by
 cases k with
 |none =>rw[show v=.none from h];exact pyHash_slot (T:="NoneType") rfl F.slot_NoneType_hash F.entry_NoneType_hash (F.args_NoneType_hash_1 _) (beq_builtin_none _) (.inr hu2) (z6 (z9 (z6 (wpAny_mkInt (z9 ⟨_,_,rfl,q _⟩)))))
 |some k =>obtain⟨a,rfl,h⟩:=h;exact(tupleKind (aK prog w)).pyHash hu2 h (q _)
theorem OIs.tup{k:List Key}{a:Addr}{h:Heap}(x:(tupleKind (aK prog w)).is h k a):∃vs,h.IsTuple a vs:=by obtain⟨o,items,n,h1,h2,h3,_⟩:=x;exact⟨items,o,h1,h2,n,h3⟩
theorem fR{x y:Option (List Key)}{u v:Value}{Q:Bool->Shared->Prop}(hu2:A.units<cLine)(h1:OIs prog w s.heap x u)(h2:OIs prog w s.heap y v)(q:Q (decide (x=y)) s):wpAny (model prog w) A (eqBool u v) Q E s:=by
 cases x with
 |none =>
  rw[show u=.none from h1];cases y with
  |none =>rw[show v=.none from h2];exact SeqAt.EqAt.same _ _ _ _ _ q
  |some k =>obtain⟨b,rfl,h2⟩:=h2;obtain⟨vs,ht⟩:=OIs.tup h2;exact SeqAt.EqAt.none_tuple ht hu2 _ _ _ _ q
 |some k =>
  obtain⟨a,rfl,h1⟩:=h1;cases y with
  |none =>rw[show v=.none from h2];obtain⟨vs,ht⟩:=OIs.tup h1;exact SeqAt.EqAt.tuple_none ht hu2 _ _ _ _ q
  |some l =>obtain⟨b,rfl,h2⟩:=h2;refine(tupleKind (aK prog w)).eqBool hu2 h1 h2 ?_;rw[show decide (k=l)=decide (some k=some l) by rw[decide_eq_decide];simp];exact q
theorem OIs.inj{h:Heap}{x y:Option (List Key)}{a:Addr}(h1:OIs prog w h x (.ref a))(h2:OIs prog w h y (.ref a)):x=y:=by
 cases x with
 |none=>cases h1
 |some k =>
  cases y with
  |none=>cases h2
  |some l =>obtain⟨b,e,h1⟩:=h1;cases e;obtain⟨b,e,h2⟩:=h2;cases e;rw[(tupleKind (aK prog w)).inj h1 h2]
theorem tS{k:Option (List Key)}{v:Value}{Q:Bool->Shared->Prop}(h:OIs prog w s.heap k v)(q:Q true s):wpAny (model prog w) A (eqIsQuiet 8 v) Q E s:=by
 cases k with
 |none =>rw[show v=.none from h];exact z9 q
 |some k =>obtain⟨a,rfl,h⟩:=h;exact(tupleKind (aK prog w)).quiet h q
theorem tU{key:Value}{k:Option (List Key)}{stored:List Value}{Q:Bool->Shared->Prop}(hkey:OIs prog w s.heap k key)(hst:∀v∈stored,∃k',OIs prog w s.heap k' v)(q:Q false s):wpAny (model prog w) A (tableMayTell key stored) Q E s:=by
 unfold tableMayTell;by_cases he:stored.isEmpty=true
 ·rw[if_pos he];exact z9 q
 ·rw[if_neg he];refine z6 (tS hkey ?_);rw[if_neg (by simp)];refine z6 (Yz _ (fun rest b s'=>s'=s/\b=(none,())/\∀v∈rest,∃k',OIs prog w s.heap k' v) _ (fun x rest b s' h=>?_) (fun b s' h=>?_) _ _ ⟨rfl,rfl,hst⟩)
  ·obtain⟨rfl,rfl,hr⟩:=h;obtain⟨k',hk'⟩:=hr x Zr;refine z6 (tS hk' ?_);rw[if_neg (by simp)];exact z9 ⟨rfl,rfl,fun v hv=>hr v (Zh _ hv)⟩
  ·obtain⟨rfl,rfl,_⟩:=h;exact z9 q
abbrev bg:=Option (List Key)×Value×Value
def cK(prog:Program)(w:World)(x:bg):DictEntry:=⟨bz prog w x.1,x.2.1,x.2.2⟩
structure ODict(prog:Program)(w:World)(h:Heap)(d:Addr)(o:Obj)(es:Array DictEntry)(ep:Nat)(xs:List bg):Prop where
 ho:h.get? d=some o
 hd:o.data=.dict es ep
 he:es.toList=xs.map (cK prog w)
 his:∀x∈xs,OIs prog w h x.1 x.2.1
 hn:(xs.map (·.1)).Nodup
theorem ODict.at{d:Addr}{o:Obj}{es:Array DictEntry}{ep:Nat}{xs:List bg}{h:Heap}(D:ODict prog w h d o es ep xs)(j:Nat):es[j]?=(xs[j]?).map (cK prog w):=by rw[<-YD,D.he,ZG]
theorem ODict.one{d:Addr}{o:Obj}{es:Array DictEntry}{ep:Nat}{xs:List bg}{h:Heap}(D:ODict prog w h d o es ep xs){i j:Nat}{x y:bg}(hx:xs[i]?=some x)(hy:xs[j]?=some y)(e:x.1=y.1):i=j:=by
 have h1:(xs.map (·.1))[i]?=some x.1:=by rw[ZG,hx];rfl
 have h2:(xs.map (·.1))[j]?=some x.1:=by rw[ZG,hy,e];rfl
 exact(List.getElem?_inj (ZC.mp h1).1 D.hn).mp (h1.trans h2.symm)
def oPl(es:Array DictEntry)(h:Int):List Nat:=placesWithHash es.size (fun i=>es[i]?.map (·.hash)) h
theorem kh(es:Array DictEntry)(h:Int):(oPl es h).Nodup:=List.Pairwise.filter _ List.nodup_range
theorem ODict.pl{d:Addr}{o:Obj}{es:Array DictEntry}{ep:Nat}{xs:List bg}{h:Heap}(D:ODict prog w h d o es ep xs){k:Option (List Key)}{j:Nat}{x:bg}(hx:xs[j]?=some x)(e:x.1=k):j∈oPl es (bz prog w k):=by
 have hj:es[j]?=some (cK prog w x):=by rw[D.at,hx];rfl
 refine Ye.mpr ⟨Yr.mpr (Yx.mp hj).1,?_⟩;dsimp only;rw[hj];simp[cK,e]
theorem ODict.of_pl{d:Addr}{o:Obj}{es:Array DictEntry}{ep:Nat}{xs:List bg}{h:Heap}(D:ODict prog w h d o es ep xs){z:Int}{j:Nat}(hj:j∈oPl es z):∃x,xs[j]?=some x/\es[j]?=some (cK prog w x)/\bz prog w x.1=z:=by
 obtain⟨h1,h2⟩:=Ye.mp hj;have hl:=Yr.mp h1;have e:=D.at j;rw[Yo hl]at e;obtain⟨x,hx,hx2⟩:=ZZ.mp e.symm;have e2:es[j]?=some (cK prog w x):=by rw[Yo hl,hx2]
 refine⟨x,hx,e2,?_⟩;dsimp only at h2;rw[e2]at h2;simpa[cK]using h2
theorem nW{d:Addr}{o:Obj}{es:Array DictEntry}{ep:Nat}{xs:List bg}{k:Option (List Key)}{key:Value}{Q:Option Nat->Shared->Prop}(hu:A.units<cLine)(hkey:OIs prog w s.heap k key)(D:ODict prog w s.heap d o es ep xs)(hnone:(∀(j:Nat) (x:bg),xs[j]?=some x->x.1≠k)->Q none s)(hsome:∀(j:Nat) (x:bg),xs[j]?=some x->x.1=k->Q (some j) s):wpAny (model prog w) A (dictFind d key (bz prog w k)) Q E s:=by
 have hst:∀v∈(oPl es (bz prog w k)).filterMap (fun i=>es[i]?.map (·.key)),∃k',OIs prog w s.heap k' v:=fun v hv=>by obtain⟨i,hi,e⟩:=YB.mp hv;obtain⟨x,h1,h2,_⟩:=D.of_pl hi;rw[h2]at e;cases e;exact⟨x.1,D.his x (ZK h1)⟩
 have plain:wpAny (model prog w) A (dictWalkPlain d key (bz prog w k) es (oPl es (bz prog w k))) Q E s:=by
  unfold dictWalkPlain;refine z6 (Yz _ (fun rest b s'=>s'=s/\b=(none,())/\(∀i∈rest,i∈oPl es (bz prog w k))/\∀(j:Nat) (x:bg),xs[j]?=some x->x.1=k->j∈rest) _ (fun i rest b s' h=>?_) (fun b s' h=>?_) _ _ ⟨rfl,rfl,fun _ z=>z,fun j x h1 h2=>D.pl h1 h2⟩)
  ·obtain⟨rfl,rfl,sub,all⟩:=h;obtain⟨x,h1,h2,h3⟩:=D.of_pl (sub i Zr);rw[h2];dsimp only;rw[if_pos (by simp[cK,h3])];refine z6 (Z5 D.ho D.hd (z6 (fR hu (D.his x (ZK h1)) hkey (z6 (Z5 D.ho D.hd ?_)))));rw[if_neg (by simp)];by_cases e:x.1=k
   ·rw[decide_eq_true e,if_pos rfl];exact z6 (ZU (z9 (z9 (hsome i x h1 e))))
   ·rw[decide_eq_false e,if_neg (by simp)];refine z6 (ZU (z9 ⟨rfl,rfl,fun i hi=>sub i (Zh _ hi),fun j y g1 g2=>(Zq.mp (all j y g1 g2)).resolve_left fun z=>e ?_⟩));subst z;rw[h1]at g1;cases g1;exact g2
  ·obtain⟨rfl,rfl,sub,all⟩:=h;refine z9 (hnone fun j x h1 h2=>?_);exact absurd (all j x h1 h2) (by simp)
 unfold dictFind;refine Z0 ?_;refine z6 (Yt D.ho D.hd ?_);have shape:key=.none\/∃a,key=.ref a:=by
  cases k with
  |none=>exact .inl hkey
  |some kk=>obtain⟨a,e,_⟩:=hkey;exact .inr ⟨a,e⟩
 rcases shape with rfl|⟨a,rfl⟩
 ·dsimp only;refine sC (fun _=>?_) (fun _=>?_)
  ·exact plain
  ·refine sC (fun _=>?_) (fun _=>?_)
   ·refine z6 (z9 ?_);rw[if_neg (by simp)];refine z6 (Yz _ (fun rest b s'=>s'=s/\rest.Nodup/\(∀i∈rest,i∈oPl es (bz prog w k))/\∃hit,b=(none,hit)/\((hit=none/\∀(j:Nat) (x:bg),xs[j]?=some x->x.1=k->j∈rest)\/∃(j:Nat) (x:bg),hit=some j/\xs[j]?=some x/\x.1=k/\j∉rest)) _ (fun i rest b s' h=>?_) (fun b s' h=>?_) _ _ ⟨rfl,kh _ _,fun _ z=>z,none,rfl,.inl ⟨rfl,fun j x h1 h2=>D.pl h1 h2⟩⟩)
    ·obtain⟨rfl,nd,sub,hit,rfl,hh⟩:=h;obtain⟨x,h1,h2,h3⟩:=D.of_pl (sub i Zr);have nd':=(ZT.mp nd).2;have ni:=(ZT.mp nd).1;have sub':∀i∈rest,i∈oPl es (bz prog w k):=fun i hi=>sub i (Zh _ hi);rw[h2];dsimp only;rw[if_pos (by simp[cK,h3])];refine z6 (Z5 D.ho D.hd (z6 (fR hu (D.his x (ZK h1)) hkey (z6 (Z5 D.ho D.hd ?_)))));rw[if_neg (by simp)];by_cases e:x.1=k
     ·rw[decide_eq_true e,if_pos rfl];rcases hh with⟨rfl,all⟩|⟨j,y,rfl,g1,g2,g3⟩
      ·rw[if_neg (by simp)];refine z6 (ZU ?_);split
       ·exact z9 (z9 (hsome i x h1 e))
       ·exact z9 ⟨rfl,nd',sub',some i,rfl,.inr ⟨i,x,rfl,h1,e,ni⟩⟩
      ·exact absurd (D.one g1 h1 (g2.trans e.symm)) fun z=>g3 (by rw[z];exact Zr)
     ·rw[decide_eq_false e,if_neg (by simp)];refine z6 (ZU ?_);rw[if_neg (by simp)];refine z9 ⟨rfl,nd',sub',hit,rfl,?_⟩;rcases hh with⟨rfl,all⟩|⟨j,y,rfl,g1,g2,g3⟩
      ·refine .inl ⟨rfl,fun j y g1 g2=>(Zq.mp (all j y g1 g2)).resolve_left fun z=>e ?_⟩;subst z;rw[h1]at g1;cases g1;exact g2
      ·exact .inr ⟨j,y,rfl,g1,g2,fun z=>g3 (Zh _ z)⟩
    ·obtain⟨rfl,_,_,hit,rfl,hh⟩:=h;rcases hh with⟨rfl,all⟩|⟨j,y,rfl,g1,g2,_⟩
     ·exact z9 (hnone fun j x h1 h2=>absurd (all j x h1 h2) (by simp))
     ·exact z9 (hsome j y g1 g2)
   ·refine z6 (tU hkey hst ?_);rw[if_neg (by simp)];refine z6 (Yz _ (fun rest b s'=>s'=s/\rest.Nodup/\(∀i∈rest,i∈oPl es (bz prog w k))/\∃hit,b=(none,hit)/\((hit=none/\∀(j:Nat) (x:bg),xs[j]?=some x->x.1=k->j∈rest)\/∃(j:Nat) (x:bg),hit=some j/\xs[j]?=some x/\x.1=k/\j∉rest)) _ (fun i rest b s' h=>?_) (fun b s' h=>?_) _ _ ⟨rfl,kh _ _,fun _ z=>z,none,rfl,.inl ⟨rfl,fun j x h1 h2=>D.pl h1 h2⟩⟩)
    ·obtain⟨rfl,nd,sub,hit,rfl,hh⟩:=h;obtain⟨x,h1,h2,h3⟩:=D.of_pl (sub i Zr);have nd':=(ZT.mp nd).2;have ni:=(ZT.mp nd).1;have sub':∀i∈rest,i∈oPl es (bz prog w k):=fun i hi=>sub i (Zh _ hi);rw[h2];dsimp only;rw[if_pos (by simp[cK,h3])];refine z6 (Z5 D.ho D.hd (z6 (fR hu (D.his x (ZK h1)) hkey (z6 (Z5 D.ho D.hd ?_)))));rw[if_neg (by simp)];by_cases e:x.1=k
     ·rw[decide_eq_true e,if_pos rfl];rcases hh with⟨rfl,all⟩|⟨j,y,rfl,g1,g2,g3⟩
      ·rw[if_neg (by simp)];refine z6 (ZU ?_);split
       ·exact z9 (z9 (hsome i x h1 e))
       ·exact z9 ⟨rfl,nd',sub',some i,rfl,.inr ⟨i,x,rfl,h1,e,ni⟩⟩
      ·exact absurd (D.one g1 h1 (g2.trans e.symm)) fun z=>g3 (by rw[z];exact Zr)
     ·rw[decide_eq_false e,if_neg (by simp)];refine z6 (ZU ?_);rw[if_neg (by simp)];refine z9 ⟨rfl,nd',sub',hit,rfl,?_⟩;rcases hh with⟨rfl,all⟩|⟨j,y,rfl,g1,g2,g3⟩
      ·refine .inl ⟨rfl,fun j y g1 g2=>(Zq.mp (all j y g1 g2)).resolve_left fun z=>e ?_⟩;subst z;rw[h1]at g1;cases g1;exact g2
      ·exact .inr ⟨j,y,rfl,g1,g2,fun z=>g3 (Zh _ z)⟩
    ·obtain⟨rfl,_,_,hit,rfl,hh⟩:=h;rcases hh with⟨rfl,all⟩|⟨j,y,rfl,g1,g2,_⟩
     ·exact z9 (hnone fun j x h1 h2=>absurd (all j x h1 h2) (by simp))
     ·exact z9 (hsome j y g1 g2)
 ·dsimp only;rw[if_neg (by simp[carriedByValue]),if_neg (fun z=>?_)]
  ·refine sC (fun _=>?_) (fun _=>?_)
   ·refine z6 (z9 ?_);rw[if_neg (by simp)];refine z6 (Yz _ (fun rest b s'=>s'=s/\rest.Nodup/\(∀i∈rest,i∈oPl es (bz prog w k))/\∃hit,b=(none,hit)/\((hit=none/\∀(j:Nat) (x:bg),xs[j]?=some x->x.1=k->j∈rest)\/∃(j:Nat) (x:bg),hit=some j/\xs[j]?=some x/\x.1=k/\j∉rest)) _ (fun i rest b s' h=>?_) (fun b s' h=>?_) _ _ ⟨rfl,kh _ _,fun _ z=>z,none,rfl,.inl ⟨rfl,fun j x h1 h2=>D.pl h1 h2⟩⟩)
    ·obtain⟨rfl,nd,sub,hit,rfl,hh⟩:=h;obtain⟨x,h1,h2,h3⟩:=D.of_pl (sub i Zr);have nd':=(ZT.mp nd).2;have ni:=(ZT.mp nd).1;have sub':∀i∈rest,i∈oPl es (bz prog w k):=fun i hi=>sub i (Zh _ hi);rw[h2];dsimp only;rw[if_pos (by simp[cK,h3])];refine z6 (Z5 D.ho D.hd (z6 (fR hu (D.his x (ZK h1)) hkey (z6 (Z5 D.ho D.hd ?_)))));rw[if_neg (by simp)];by_cases e:x.1=k
     ·rw[decide_eq_true e,if_pos rfl];rcases hh with⟨rfl,all⟩|⟨j,y,rfl,g1,g2,g3⟩
      ·rw[if_neg (by simp)];refine z6 (ZU ?_);split
       ·exact z9 (z9 (hsome i x h1 e))
       ·exact z9 ⟨rfl,nd',sub',some i,rfl,.inr ⟨i,x,rfl,h1,e,ni⟩⟩
      ·exact absurd (D.one g1 h1 (g2.trans e.symm)) fun z=>g3 (by rw[z];exact Zr)
     ·rw[decide_eq_false e,if_neg (by simp)];refine z6 (ZU ?_);rw[if_neg (by simp)];refine z9 ⟨rfl,nd',sub',hit,rfl,?_⟩;rcases hh with⟨rfl,all⟩|⟨j,y,rfl,g1,g2,g3⟩
      ·refine .inl ⟨rfl,fun j y g1 g2=>(Zq.mp (all j y g1 g2)).resolve_left fun z=>e ?_⟩;subst z;rw[h1]at g1;cases g1;exact g2
      ·exact .inr ⟨j,y,rfl,g1,g2,fun z=>g3 (Zh _ z)⟩
    ·obtain⟨rfl,_,_,hit,rfl,hh⟩:=h;rcases hh with⟨rfl,all⟩|⟨j,y,rfl,g1,g2,_⟩
     ·exact z9 (hnone fun j x h1 h2=>absurd (all j x h1 h2) (by simp))
     ·exact z9 (hsome j y g1 g2)
   ·refine z6 (tU hkey hst ?_);rw[if_neg (by simp)];refine z6 (Yz _ (fun rest b s'=>s'=s/\rest.Nodup/\(∀i∈rest,i∈oPl es (bz prog w k))/\∃hit,b=(none,hit)/\((hit=none/\∀(j:Nat) (x:bg),xs[j]?=some x->x.1=k->j∈rest)\/∃(j:Nat) (x:bg),hit=some j/\xs[j]?=some x/\x.1=k/\j∉rest)) _ (fun i rest b s' h=>?_) (fun b s' h=>?_) _ _ ⟨rfl,kh _ _,fun _ z=>z,none,rfl,.inl ⟨rfl,fun j x h1 h2=>D.pl h1 h2⟩⟩)
    ·obtain⟨rfl,nd,sub,hit,rfl,hh⟩:=h;obtain⟨x,h1,h2,h3⟩:=D.of_pl (sub i Zr);have nd':=(ZT.mp nd).2;have ni:=(ZT.mp nd).1;have sub':∀i∈rest,i∈oPl es (bz prog w k):=fun i hi=>sub i (Zh _ hi);rw[h2];dsimp only;rw[if_pos (by simp[cK,h3])];refine z6 (Z5 D.ho D.hd (z6 (fR hu (D.his x (ZK h1)) hkey (z6 (Z5 D.ho D.hd ?_)))));rw[if_neg (by simp)];by_cases e:x.1=k
     ·rw[decide_eq_true e,if_pos rfl];rcases hh with⟨rfl,all⟩|⟨j,y,rfl,g1,g2,g3⟩
      ·rw[if_neg (by simp)];refine z6 (ZU ?_);split
       ·exact z9 (z9 (hsome i x h1 e))
       ·exact z9 ⟨rfl,nd',sub',some i,rfl,.inr ⟨i,x,rfl,h1,e,ni⟩⟩
      ·exact absurd (D.one g1 h1 (g2.trans e.symm)) fun z=>g3 (by rw[z];exact Zr)
     ·rw[decide_eq_false e,if_neg (by simp)];refine z6 (ZU ?_);rw[if_neg (by simp)];refine z9 ⟨rfl,nd',sub',hit,rfl,?_⟩;rcases hh with⟨rfl,all⟩|⟨j,y,rfl,g1,g2,g3⟩
      ·refine .inl ⟨rfl,fun j y g1 g2=>(Zq.mp (all j y g1 g2)).resolve_left fun z=>e ?_⟩;subst z;rw[h1]at g1;cases g1;exact g2
      ·exact .inr ⟨j,y,rfl,g1,g2,fun z=>g3 (Zh _ z)⟩
    ·obtain⟨rfl,_,_,hit,rfl,hh⟩:=h;rcases hh with⟨rfl,all⟩|⟨j,y,rfl,g1,g2,_⟩
     ·exact z9 (hnone fun j x h1 h2=>absurd (all j x h1 h2) (by simp))
     ·exact z9 (hsome j y g1 g2)
  ·rw[<-Array.any_toList,List.any_eq_true]at z;obtain⟨e,he,hc⟩:=z;rw[D.he]at he;obtain⟨x,hx,rfl⟩:=ZP.mp he;simp only[cK,ZB,ZS,bne_iff_ne,ne_eq]at hc;have h1:=D.his x hx;rw[hc.1]at h1;exact hc.2 (by rw[OIs.inj h1 hkey])
end
open PySem PySem.Spec PyProof.Rows PySem.W
section
variable{prog:Program}{w:World}{A:Around}{E:Value->Shared->Prop}{s:Shared}
theorem su{d:Addr}{o:Obj}{es:Array DictEntry}{ep:Nat}{xs:List bg}{k:Option (List Key)}{key v:Value}{Q:Value->Shared->Prop}(hu:A.units<cLine)(hkey:OIs prog w s.heap k key)(D:ODict prog w s.heap d o es ep xs)(hc:o.ExactDict)(hz:es.size<=sizeLine)(hold:∀(j:Nat) (x:bg) (tk:Nat),xs[j]?=some x->x.1=k->Q x.2.2 { s with toks:=tk })(hnew:(∀(j:Nat) (x:bg),xs[j]?=some x->x.1≠k)->∀(h':Heap) (tk:Nat) (o':Obj) (es':Array DictEntry) (ep':Nat),h'.get? d=some o'->o'.ExactDict->o'.data=.dict es' ep'->es'.toList=es.toList++[⟨bz prog w k,key,v⟩]->Heap.SameBut d s.heap h'->Q v { s with heap:=h',toks:=tk }) :
  wpAny (model prog w) A (dictSetDefault d key v) Q E s:=by
 unfold dictSetDefault;refine Z0 ?_;refine z6 (mf hu hkey fun tk=>?_);have D':ODict prog w ({ s with toks:=tk }:Shared).heap d o es ep xs:=D;refine z6 (nW (s:={ s with toks:=tk }) hu hkey D' (fun hno=>?_) (fun j x h1 h2=>?_))
 ·refine z6 (ZU (z6 (wpAny_updateDictKeys (hz:=hz) (s:={ s with toks:=tk }) D.ho D.hd (z9 (hnew hno _ tk _ _ (ep+1) (Yp _ D.ho (Obj.isFreed_of_dict (Obj.data_mapDictKeys D.hd _))) (hc.mapDictKeys _) (Obj.data_mapDictKeys D.hd _) ?_ (ZR ..))))));simp
 ·refine z6 (Yt (s:={ s with toks:=tk }) D.ho D.hd ?_);rw[D.at j,h1];exact z6 (ZU (z9 (hold j x tk h1 h2)))
theorem yn{d:Addr}{o:Obj}{es:Array DictEntry}{ep:Nat}{xs:List bg}{k:Option (List Key)}{key:Value}{Q:Option Value->Shared->Prop}(hu:A.units<cLine)(hkey:OIs prog w s.heap k key)(D:ODict prog w s.heap d o es ep xs)(hold:∀(j:Nat) (x:bg) (tk:Nat),xs[j]?=some x->x.1=k->Q (some x.2.2) { s with toks:=tk })(hnew:(∀(j:Nat) (x:bg),xs[j]?=some x->x.1≠k)->∀tk:Nat,Q none { s with toks:=tk }) :
  wpAny (model prog w) A (dictGet d key) Q E s:=by
 unfold dictGet;refine Z0 ?_;refine z6 (mf hu hkey fun tk=>?_);have D':ODict prog w ({ s with toks:=tk }:Shared).heap d o es ep xs:=D;refine z6 (nW (s:={ s with toks:=tk }) hu hkey D' (fun hno=>z9 (hnew hno tk)) (fun j x h1 h2=>?_));refine z6 (Yt (s:={ s with toks:=tk }) D.ho D.hd ?_);rw[D.at j,h1];exact z9 (hold j x tk h1 h2)
end
abbrev OK1:=Option (List Key×Addr)
def okD:OK1->Option (List Key)
 |none=>none
 |some p=>some p.1
def okV:OK1->Value
 |none=>.none
 |some p=>.ref p.2
def oE(e:OK1×Addr):bg:=(okD e.1,okV e.1,.ref e.2)
def odO(P:Program)(w:World)(d:Addr)(kls:List (OK1×Addr)):HO:=.ext fun h=>(d==sysModules)=false/\∃(o:Obj) (es:Array DictEntry) (ep:Nat),h.get? d=some o/\o.ExactDict/\o.data=.dict es ep/\es.toList=(kls.map oE).map (cK P w)
theorem tX{P:Program}{w:World}{H:Hp}{h:Heap}{d:Addr}{kls:List (OK1×Addr)}{o:Obj}{es:Array DictEntry}{ep:Nat}(hd:(d==sysModules)=false)(h1:h.get? d=some o)(h2:o.ExactDict)(h3:o.data=.dict es ep)(h4:es.toList=(kls.map oE).map (cK P w)):ObjOk P w H h d (odO P w d kls) :=
 ⟨⟨hd,o,es,ep,h1,h2,h3,h4⟩,⟨o,h1⟩,fun _ _ ⟨a,o,es,ep,b,c⟩ k=>⟨a,o,es,ep,k _ b,c⟩⟩
def ic(H:Hp)(y:V):OK1->Prop
 |none=>y=.non
 |some p=>y=.ref p.2/\H p.2=some (.tup (p.1.map kV))
def aW(kls:List (OK1×Addr))(k:Option (List Key)):Option Addr:=(kls.find? fun e=>decide (okD e.1=k)).map (·.2)
structure OdAt(P:Program)(w:World)(H:Hp)(d:Addr)(kls:List (OK1×Addr)):Prop where
 ob:H d=some (odO P w d kls)
 ks:∀e∈kls,∀p,e.1=some p->H p.2=some (.tup (p.1.map kV))
 nd:(kls.map fun e=>okD e.1).Nodup
theorem mh{kls:List (OK1×Addr)}(nd:(kls.map fun e=>okD e.1).Nodup){j:Nat}{e:OK1×Addr}(h:kls[j]?=some e):aW kls (okD e.1)=some e.2:=by
 unfold aW;induction kls generalizing j with
 |nil=>simp at h
 |cons x r ih =>
  rw[Zz,ZT]at nd;cases j with
  |zero =>cases h;rw[List.find?_cons_of_pos (by simp)];rfl
  |succ j =>
   have h:r[j]?=some e:=h;rw[List.find?_cons_of_neg (by
    simp only[decide_eq_true_eq];intro z;exact nd.1 (z▸List.mem_map_of_mem (ZK h)))]
   exact ih nd.2 h
theorem kf{kls:List (OK1×Addr)}{k:Option (List Key)}(h:∀e∈kls,okD e.1≠k):aW kls k=none:=by unfold aW;rw[List.find?_eq_none.mpr (fun e he=>by simp only[decide_eq_true_eq];exact h e he)];rfl
section
variable{X:Cx}{pins:List (Addr×Obj)}{σ:St}{H:Hp}{s:Shared}
theorem qt{y:V}{e:OK1}{u:Value}(I:Inv X pins σ H s)(h:ic H y e)(r:RelV y u):OIs X.prog X.w s.heap (okD e) u/\u=okV e:=by
 cases e with
 |none =>rw[show y=.non from h]at r;cases(show u=Value.none from r);exact⟨rfl,rfl⟩
 |some p =>obtain⟨rfl,h⟩:=h;cases(show u=Value.ref p.2 from r);exact⟨⟨p.2,rfl,eI I.hok h⟩,rfl⟩
theorem xt{d:Addr}{kls:List (OK1×Addr)}(I:Inv X pins σ H s)(h:OdAt X.prog X.w H d kls):(d==sysModules)=false/\∃(o:Obj) (es:Array DictEntry) (ep:Nat),o.ExactDict/\ODict X.prog X.w s.heap d o es ep (kls.map oE):=by
 obtain⟨hd,o,es,ep,h1,h2,h3,h4⟩:=(I.hok d _ h.ob).1;refine⟨hd,o,es,ep,h2,h1,h3,h4,fun x hx=>?_,?_⟩
 ·obtain⟨e,he,rfl⟩:=ZP.mp hx;cases ek:e.1 with
  |none =>show OIs _ _ _ (okD e.1) (okV e.1);rw[ek];exact rfl
  |some p =>show OIs _ _ _ (okD e.1) (okV e.1);rw[ek];exact⟨p.2,rfl,eI I.hok (h.ks e he p ek)⟩
 ·rw[List.map_map];exact h.nd
end
def vc(P:Program)(w:World)(H:Hp)(a:Addr):Prop:=∃kls,H a=some (odO P w a kls)
def CB(P:Program)(w:World):TE:=fun _ H Q=>∀p,H p=none->Q (.ref p) (upd H p (odO P w p []))
def CC(P:Program)(w:World)(td ty tx:TE):TE:=fun σ H Q=>td σ H fun x H1=>∃a,x=.ref a/\vc P w H1 a/\ty σ H1 fun y H2=>tx σ H2 fun z H3=>∃kls e l0,OdAt P w H3 a kls/\ic H3 y e/\z=.ref l0/\kls.length<4096 /\
 (∀l,aW kls (okD e)=some l->Q (.ref l) H3)/\(aW kls (okD e)=none->Q (.ref l0) (upd H3 a (odO P w a (kls++[(e,l0)]))))
def CA(P:Program)(w:World)(td ty tx:TE):TE:=fun σ H Q=>td σ H fun x H1=>∃a,x=.ref a/\vc P w H1 a/\ty σ H1 fun y H2=>tx σ H2 fun z H3=>∃kls e,OdAt P w H3 a kls/\ic H3 y e/\kls.length<4096 /\
 (∀l,aW kls (okD e)=some l->Q (.ref l) H3)/\(aW kls (okD e)=none->Q z H3)
section
variable{X:Cx}{o e f:Expr}{apos cpos:Pos}{td ty tx:TE}
theorem xA{pos:Pos}:QE X (.Dict [] [] pos) (CB X.prog X.w):=⟨fun pins s σ H Q I h =>
 wpAny_Dict_empty ⟨.ref s.heap.objs.size,_,I.laid (a:=s.heap.objs.size) (o:=odO X.prog X.w s.heap.objs.size []) (t':=s.toks) (fun _ _ q=>Za _ q) (Ze _) (tX (ep:=0) (Yw.mpr (ZM (Zv I.big))) (Zo _ rfl) ⟨rfl,rfl,rfl⟩ rfl rfl),rfl,h _ (I.hok.fresh (Ze _))⟩⟩
theorem iN{pins:List (Addr×Obj)}{σ:St}{H:Hp}{s:Shared}{a:Addr}(I:Inv X pins σ H s)(d:vc X.prog X.w H a):s.TypeIs (.ref a) "dict"/\(∀b,Value.ref a=.ref b->∃ob,s.heap.get? b=some ob/\ob.dict=none):=by obtain⟨kls,h⟩:=d;obtain⟨_,o,es,ep,h1,h2,_⟩:=(I.hok a _ h).1;refine⟨⟨o,h1,h2.1⟩,fun b q=>?_⟩;cases q;exact⟨o,h1,h2.2.1⟩
theorem mq(hu:X.A.units+64<cLine)(ho:QE X o td)(he:QE X e ty)(hf:QE X f tx)(hs1:ax e=true:=by rfl)(hs2:ax f=true:=by rfl)(hbase:attributeBase o "setdefault" X.env (eval o X.env)=eval o X.env:=by rfl)(hline:(apos.endLine==cpos.line)=true:=by rfl) :
  QE X (.Call (.Attribute o "setdefault" apos) [e,f] [] cpos) (CC X.prog X.w td ty tx):=by
 refine⟨?_⟩;have h1:=aw (es:=[f]) (env:=X.env) hs1;have h2:=aw (es:=[]) (env:=X.env) hs2;have h3:starEach ([]:List Expr) X.env=[]:=rfl;intro pins s σ H Q I h;refine wpAny_Call_method hbase (by rw[h1,h2,h3];rfl) hline PySem.F.plainAttrs_dict PySem.F.slot_dict_setdefault PySem.F.type_dict_setdefault (thn (ho.h pins s σ H _ I h) fun u s1 hz9=>?_);obtain⟨x,H1,I1,rx,a,ex,d,q1⟩:=hz9;subst ex;obtain rfl:u=Value.ref a:=rx;obtain⟨t1,t2⟩:=iN I1 d;refine⟨t1,t2,?_⟩;have ht:backTo cpos (starEach [e,f] X.env)=[(false,eval e X.env),(false,eval f X.env)]:=by rw[h1,h2,h3];rfl
 rw[ht];refine Calls.callWith_builtin rfl (Calls.evalArgs_plain (Calls.spliced_cons (thn (he.h pins s1 σ H1 _ I1 q1) fun iv s2 ⟨y,H2,I2,ry,q2⟩ =>
  Calls.spliced_cons (thn (hf.h pins s2 σ H2 _ I2 q2) fun fv s3 ⟨z,H3,I3,rz,kls,ke,l0,oa,ok,ez,l,qo,qn⟩=>Calls.spliced_nil ?_))))
 subst ez;obtain rfl:fv=Value.ref l0:=rz;obtain⟨ki,kv⟩:=qt I3 ok ry;obtain⟨hd,ob,es,ep,hc,D⟩:=xt I3 oa;have hz:es.size<=sizeLine:=by rw[<-Zk,D.he,Zi,Zi];exact dj (by omega)
 have ty':=(iN I3 ⟨kls,oa.ob⟩).1;refine Z1 PySem.F.slot_dict_setdefault ty' PySem.F.entry_dict_setdefault ?_ (PySem.F.args_dict_setdefault_3 _ _ _);show wpAny _ _ (Builtin.«dict.setdefault» ⟨[.ref a,iv,.ref l0],[]⟩) _ _ s3;unfold Builtin.«dict.setdefault»;refine z6 ?_;unfold Builtin.Dict.keyAndDefault;refine z6 (wpAny_notOrdered_dict ty' ?_);show wpAny _ _ (pure (a,iv,some (Value.ref l0))) _ _ s3;refine z9 ?_;show wpAny _ _ (if(a==sysModules)=true then _ else(dictSetDefault a iv (.ref l0) >>= _)) _ _ s3;rw[if_neg (by rw[hd];exact Zj)];refine z6 (su (by show X.A.in1.units<cLine;simp only[Around.in1_units];omega) ki D hc hz (fun j x tk g1 g2=>z9 ⟨_,rfl,?_⟩) (fun hno h' tk o' es' ep' g1 g2 g3 g4 g5=>z9 ⟨_,rfl,?_⟩))
 ·rw[ZG]at g1;obtain⟨en,g3,rfl⟩:=ZZ.mp g1;have:=mh oa.nd g3;rw[show okD en.1=okD ke from g2]at this;exact⟨.ref en.2,H3,I3.tok _,rfl,qo _ this⟩
 ·have hn:aW kls (okD ke)=none:=kf fun en hen=>by obtain⟨j,hj⟩:=ZF.mp hen;exact hno j (oE en) (by rw[ZG,hj];rfl)
  refine⟨.ref l0,_,kZ (a:=a) (t':=tk) I3 (by rw[oa.ob];exact True.intro) g5 ⟨o',g1⟩ (tX (kls:=kls++[(ke,l0)]) hd g1 g2 g3 ?_),rfl,qn hn⟩;rw[g4,D.he,Z4,Z4,kv];rfl
end
open PySem PySem.Spec PyProof.Rows PySem.W
section
variable{X:Cx}{o e f:Expr}{apos cpos:Pos}{td ty tx to te:TE}
theorem oV(hu:X.A.units+64<cLine)(ho:QE X o td)(he:QE X e ty)(hf:QE X f tx)(hs1:ax e=true:=by rfl)(hs2:ax f=true:=by rfl)(hbase:attributeBase o "get" X.env (eval o X.env)=eval o X.env:=by rfl)(hline:(apos.endLine==cpos.line)=true:=by rfl) :
  QE X (.Call (.Attribute o "get" apos) [e,f] [] cpos) (CA X.prog X.w td ty tx):=by
 refine⟨?_⟩;have h1:=aw (es:=[f]) (env:=X.env) hs1;have h2:=aw (es:=[]) (env:=X.env) hs2;have h3:starEach ([]:List Expr) X.env=[]:=rfl;intro pins s σ H Q I h;refine wpAny_Call_method hbase (by rw[h1,h2,h3];rfl) hline PySem.F.plainAttrs_dict PySem.F.slot_dict_get PySem.F.type_dict_get (thn (ho.h pins s σ H _ I h) fun u s1 hz9=>?_);obtain⟨x,H1,I1,rx,a,ex,d,q1⟩:=hz9;subst ex;obtain rfl:u=Value.ref a:=rx;obtain⟨t1,t2⟩:=iN I1 d;refine⟨t1,t2,?_⟩;have ht:backTo cpos (starEach [e,f] X.env)=[(false,eval e X.env),(false,eval f X.env)]:=by rw[h1,h2,h3];rfl
 rw[ht];refine Calls.callWith_builtin rfl (Calls.evalArgs_plain (Calls.spliced_cons (thn (he.h pins s1 σ H1 _ I1 q1) fun iv s2 ⟨y,H2,I2,ry,q2⟩ =>
  Calls.spliced_cons (thn (hf.h pins s2 σ H2 _ I2 q2) fun fv s3 ⟨z,H3,I3,rz,kls,ke,oa,ok,l,qo,qn⟩=>Calls.spliced_nil ?_))))
 obtain⟨ki,kv⟩:=qt I3 ok ry;obtain⟨hd,ob,es,ep,hc,D⟩:=xt I3 oa;have ty':=(iN I3 ⟨kls,oa.ob⟩).1;refine Z1 PySem.F.slot_dict_get ty' PySem.F.entry_dict_get ?_ (PySem.F.args_dict_get_3 _ _ _);show wpAny _ _ (Builtin.«dict.get» ⟨[.ref a,iv,fv],[]⟩) _ _ s3;unfold Builtin.«dict.get»;refine z6 ?_;unfold Builtin.Dict.keyAndDefault;refine z6 (wpAny_notOrdered_dict ty' ?_);show wpAny _ _ (pure (a,iv,some fv)) _ _ s3;refine z9 ?_;dsimp only;refine z6 (yn (by show X.A.in1.units<cLine;simp only[Around.in1_units];omega) ki D (fun j x tk g1 g2=>?_) (fun hno tk=>?_))
 ·rw[ZG]at g1;obtain⟨en,g3,rfl⟩:=ZZ.mp g1;have:=mh oa.nd g3;rw[show okD en.1=okD ke from g2]at this;exact z9 ⟨_,rfl,.ref en.2,H3,I3.tok _,rfl,qo _ this⟩
 ·have hn:aW kls (okD ke)=none:=kf fun en hen=>by obtain⟨j,hj⟩:=ZF.mp hen;exact hno j (oE en) (by rw[ZG,hj];rfl)
  dsimp only;unfold Builtin.Dict.missed;rw[if_neg (by rw[hd];exact Zj)];exact z6 (z9 (z9 ⟨_,rfl,z,H3,I3.tok _,rz,qn hn⟩))
theorem Bq(ho:QE X o to)(hbase:attributeBase o "pop" X.env (eval o X.env)=eval o X.env:=by rfl)(hline:(apos.endLine==cpos.line)=true:=by rfl):QE X (.Call (.Attribute o "pop" apos) [] [] cpos) (BK X.K "list" Bw to) :=
 ⟨AX PySem.F.plainAttrs_list PySem.F.slot_list_pop PySem.F.type_list_pop Az ho.h hbase hline⟩
theorem wy(ho:QE X o to)(he:QE X e te)(hs:ax e=true:=by rfl)(hbase:attributeBase o "extend" X.env (eval o X.env)=eval o X.env:=by rfl)(hline:(apos.endLine==cpos.line)=true:=by rfl) :
  QE X (.Call (.Attribute o "extend" apos) [e] [] cpos) (tBM X.K "list" qA to (gZ te fL)):=by
 have h1:=aw (es:=[]) (env:=X.env) hs;have h2:starEach ([]:List Expr) X.env=[]:=rfl;refine⟨xx PySem.F.plainAttrs_list PySem.F.slot_list_extend PySem.F.type_list_extend tO ho.h (pa he.h oQ hs) hbase ?_ hline h1 (by rw[h2];rfl)⟩;rw[h1,h2];rfl
end
open PySem PySem.Spec PyProof.Rows PySem.W
section
open PySem.SeqAt
open PySem.AutoSeq1 (wpAny_loadPart')
open PySem.MeetsSeq PySem.MeetsSeq2 PySem.MeetsSeq3
theorem mU(l b:Addr)(x1 x2 y1 y2:Value)(n n2:Nat)(dd dd2:Option Addr)(sl sl2:Array (Option Value))(e1 e2 r1 r2:Bool) :
  Meets (Builtin.«tuple.__lt__» ⟨[.ref l,.ref b],[]⟩)
   (fun A R s=>s.heap.get? l=some { cls:=.type "tuple",dict:=dd,data:=.seq #[x1,x2] n,slots:=sl }/\s.heap.get? b=some { cls:=.type "tuple",dict:=dd2,data:=.seq #[y1,y2] n2,slots:=sl2 } /\
    EqAt A.in1 s x1 y1 e1/\EqAt A.in1 s x2 y2 e2/\(∀prog w E Q,Q (.bool r1) s->wpAny (model prog w) A.in1 (richCompare .Lt x1 y1) Q E s)/\(∀prog w E Q,Q (.bool r2) s->wpAny (model prog w) A.in1 (richCompare .Lt x2 y2) Q E s) /\
    R (.ok (.ret (.bool (if e1 then (if e2 then false else r2) else r1)))) s) :=
 .of_wp fun prog w A R s h=>by
  obtain⟨hp,g,d,tk,os⟩:=s;obtain⟨hl,hb,q1,q2,c1,c2,h⟩:=h;have f2:=AutoSeq1.sub_tuple_tuple
  wp_walk using wpAny_loadPart' hl,wpAny_loadPart' hb,Yz _ (fun rest b s'=>b.1=none/\s'=⟨hp,g,d,tk,os⟩/\(rest=[(x1,y1),(x2,y2)]\/(rest=[(x2,y2)]/\e1=true)\/(rest=[]/\e1=true/\e2=true))) _
  case turn =>
   rintro⟨y,x⟩ rest b s' ⟨hb',rfl,hz⟩;rcases hz with hz|⟨hz,he⟩|⟨hz,_⟩
   ·injection hz with hyx hrest;injection hyx with hy hx;subst hy hx hrest;refine z6 (q1 prog w _ _ ?_);cases e1 with
    |true =>
     wp_walk
     exact⟨rfl,rfl,.inr (.inl ⟨rfl,rfl⟩)⟩
    |false =>
     have hri:=c1 prog w
     wp_walk using hri
     exact⟨_,rfl,by simpa using h⟩
   ·injection hz with hyx hrest;injection hyx with hy hx;subst hy hx hrest he;refine z6 (q2 prog w _ _ ?_);cases e2 with
    |true =>
     wp_walk
     exact⟨rfl,rfl,.inr (.inr ⟨rfl,rfl,rfl⟩)⟩
    |false =>
     have hri:=c2 prog w
     wp_walk using hri
     exact⟨_,rfl,by simpa using h⟩
   ·cases hz
  case fin =>
   rintro⟨b1,b2⟩ s' ⟨hb',rfl,hz⟩;simp only at hb';subst hb';rcases hz with hz|⟨hz,_⟩|⟨_,he,he2⟩
   ·cases hz
   ·cases hz
   ·subst he he2
    wp_walk
    exact⟨_,rfl,by simpa[Builtin.Tuple.tupleCompareSizes]using h⟩
  case h =>exact⟨rfl,rfl,.inl rfl⟩
end
section
variable{X:Cx}
def Cu:R2:=fun x y H Q=>∃(a a' b c b' c':Addr) (ps ns qs ms:List Int),x=.ref a/\y=.ref a'/\H a=some (.tup [.ref b,.ref c])/\H a'=some (.tup [.ref b',.ref c'])/\H b=some (.tup (ps.map V.int))/\H c=some (.tup (ns.map V.int))/\H b'=some (.tup (qs.map V.int))/\H c'=some (.tup (ms.map V.int))/\Q (.bl (HT.lexLt (aR ps ns) (aR qs ms))) H
theorem AE{k:Nat}(hr:Room k X.A):QOp X (compareOp .Lt) Cu:=by
 refine⟨?_⟩;intro pins s σ H x y v u Q I rx ry h;obtain⟨a,a',b,c,b',c',ps,ns,qs,ms,rfl,rfl,ha,ha',hb,hc,hb',hc',q⟩:=h;cases rx;cases ry;obtain⟨ia,ra,pa,za⟩:=I.tuple (SqT.of (K:=X.K) ha);obtain⟨ib,rb,pb,zb⟩:=I.tuple (SqT.of (K:=X.K) ha');obtain⟨u1,u2,rfl,r1,r2⟩:=hM ra;cases r1;cases r2;obtain⟨u1,u2,rfl,r1,r2⟩:=hM rb;cases r1;cases r2;obtain⟨⟨cls,dd,data,sl⟩,ho,hcl,n,hd⟩:=id pa;obtain⟨⟨cls2,dd2,data2,sl2⟩,ho2,hcl2,n2,hd2⟩:=id pb;simp only at hcl hd hcl2 hd2;subst hcl hd hcl2 hd2;obtain⟨ix,rx,px,zx⟩:=I.tuple (SqT.of (K:=X.K) hb);obtain⟨iy,ry,py,zy⟩:=I.tuple (SqT.of (K:=X.K) hb');obtain⟨jx,sx,qx,yx⟩:=I.tuple (SqT.of (K:=X.K) hc);obtain⟨jy,sy,qy,yy⟩:=I.tuple (SqT.of (K:=X.K) hc');have un:=hr.un;have e:(if decide (ps=qs)then(if decide (ns=ms)then false else HT.lexLt ns ms)else HT.lexLt ps qs)=HT.lexLt (aR ps ns) (aR qs ms):=by
  rw[lf];by_cases h1:ps=qs
  ·rw[if_pos h1,decide_eq_true h1,if_pos rfl];by_cases h2:ns=ms
   ·rw[decide_eq_true h2,if_pos rfl,h2];cases h:HT.lexLt ms ms with
    |false=>rfl
    |true=>rw[jW h]at h;cases h
   ·rw[decide_eq_false h2,if_neg Zj]
  ·rw[if_neg h1,decide_eq_false h1,if_neg Zj]
 refine richCompare_meets_room (op:=.Lt) ⟨_,ho,rfl⟩ ⟨_,ho2,rfl⟩ PySem.F.slot_tuple_lt PySem.F.entry_tuple_lt (PySem.F.args_tuple_lt_2 _ _) (mU a a' (.ref b) (.ref c) (.ref b') (.ref c') n n2 dd dd2 sl sl2 (decide (ps=qs)) (decide (ns=ms)) (HT.lexLt ps qs) (HT.lexLt ns ms))
  ⟨ho,ho2,iK I ?_ hb hb',iK I ?_ hc hc',fun _ _ _ _ z=>HT.lt_tupInts px py (aJ rx) (aJ ry) ?_ z,fun _ _ _ _ z=>HT.lt_tupInts qx qy (aJ sx) (aJ sy) ?_ z,?_⟩ (by omega)
 ·show X.A.units+1+64<cLine;omega
 ·show X.A.units+1+64<cLine;omega
 ·show X.A.units+1<cLine;omega
 ·show X.A.units+1<cLine;omega
 ·rw[e];exact⟨(fun x=>nomatch x),.bl _,H,I,rfl,q⟩
end
open PySem PySem.Spec PyProof.Rows PySem.W
theorem sB{l:PySem.W.OpenLaw}{n k:Nat}{q:Program}{loose:List Str}{XP:(Str->Option Value)->Heap->Prop}{YP:World->Heap->Prop}{d:DefRec}{K:Params->PySem.W.Frag}{tabs:Params->List (Addr×Addr)}{sp:World->Sp}{x:Str}(hn:l.most=some n)(hn2:n<=sizeLine)(hdf:d.params.defaults=[])(hr:Room k callerA)(hY:∀ (w:World) (h:Heap),YP w h->(K w.params).In h)(ht:∀ (w:World) (h:Heap),YP w h->∀ t∈tabs w.params,CodeHd h t.1 t.2/\h.get? t.2=some (tabObj #[]))(nt:∀ w:World,noTabs (K w.params)=true)(F:∀ (w:World) (mg:Str->Option Value) (fa:Addr) (h:Heap),(K w.params).In h->h.Ns mainGlobals mg->mg d.name=some (.ref fa) ->
   ∃fd:FuncData,(∀(s:Shared) (u:Value),BindsTo s fd ⟨[u],[]⟩ [(x,u)]) /\
    ∀ base:Heap,(K w.params).In base->base.Ns mainGlobals mg->Blt base mg->(∀ t∈tabs w.params,CodeHd base t.1 t.2)->FnOk l.prog w (K w.params) mg base CX0 k fa fd [x] (sp w))(go:∀ (w:World) (H:Hp) (a:Addr) (ns:List Int),ns.length<=n->(∀ t∈tabs w.params,H t.2=some (.tbl #[]))->SqL (K w.params) H a (ns.map V.int)->sp w [.ref a] H (fun v _=>v=.bl true) fun _ _ _=>False) :
  PySem.W.WalkO q loose XP YP l.row.toRowW d [] (fun f vs=>PySem.call f vs):=by
 refine Att.attach_call hn hdf fun w s₀ s₁ mg mb fa o pm cd doc a vs ns G Y ho hd hcd hmg hobj hints hlen hg=>?_;have kx:=hY w _ Y;obtain⟨fd,hb,hF⟩:=F w mg fa _ kx G.T.g hmg;exact vM (tabs:=tabs w.params) kx G.T.g G.T.b G.T.builtins G.T.nolimit hg G.T.bmain (fun r hr'=>ht w _ Y r hr') (nt w) hobj hints (Zx hlen hn2) hr (fun base h1 h2 h3 h4=>hF base h1 h2 h3 h4) hb fun H h1 h2=>go w H a ns hlen h1 h2
def iF(K:Frag)(x m:Str):Option (Addr×Addr):=match nsIn K mainGlobals x with
 | some (some (.ref C))=>(match findIn K (.ref C) m with
  | some (some (.ref f))=>(match K.lookup f with
   | some ⟨_,_,.func fd,_⟩=>(match fd.code with
    | .ref c=>(match K.lookup c with
     | some ⟨_,_,.fields vs,_⟩=>(match (vs[11]?:Option Value) with
      |some (.ref P)=>some (c,P)
      | _=>none)
     | _=>none)
    | _=>none)
   | _=>none)
  | _=>none)
 |_=>none
theorem uN{K:Frag}{x m:Str}{C f c P:Addr}{oc:Value}{od:Option Addr}{fd:FuncData}{sl:Array (Option Value)}(g:nsIn K mainGlobals x=some (some (.ref C)))(a:findIn K (.ref C) m=some (some (.ref f)))(l:K.lookup f=some ⟨oc,od,.func fd,sl⟩)(t:iF K x m=some (c,P)):fd.code=.ref c:=by
 unfold iF at t;rw[g]at t;dsimp only at t;rw[a]at t;dsimp only at t;rw[l]at t;dsimp only at t;split at t
 ·rename_i c' e;rw[e];split at t
  ·split at t
   ·cases t;rfl
   ·cases t
  ·cases t
 ·cases t
theorem sV{K:Frag}{x m q:Str}{st:Stmt}{C f c P:Addr}{fd:FuncData}(g:nsIn K mainGlobals x=some (some (.ref C)))(a:findIn K (.ref C) m=some (some (.ref f)))(F:Fun K m q st f fd)(t:iF K x m=some (c,P)):fd.code=.ref c:=by obtain⟨oc,od,kV,dc,pm,an,cd,ct,sl,rfl,l,c0⟩:=id F.ex;exact uN g a l t
end L2
set_option maxRecDepth 100000
set_option maxHeartbeats 4000000
namespace K25
open PySem L2
open PyProof.Rows (envOfC)
open PySem.W (envX CodeHd)
def top(i:Nat):Stmt:=PySem.Challenge.pw_limb_k25_rows_in_order.main.body.getD i (.Pass ⟨0,0,0,0⟩)
def tw(l:List Str):TV:=.tup (l.map V.str)
theorem cxK{CX:CXT}{N:List Str}{qual:Str}{scope:Scope}{f:Addr}{cd:Value}{A:Around}{outer:List Env}{s:Shared}{H:Hp}{E:XK}:(cJ CX P w K mg base N qual scope f cd A outer s H E).nox.K=K:=rfl
theorem vix{K:PySem.W.Frag}{i:Nat}{n:Int}{σ:St}{H:Hp}{Q:VK}{a:Addr}{xs:List V}{v:V}(hv:σ[i]?=some (some (.ref a)))(hs:SqT K H a xs)(ha:atI xs n=some v)(q:Q v H):tOp (sj K) (wN i) (tC (.int n)) σ H Q:=⟨_,hv,a,_,_,_,rfl,rfl,hs,ha,q⟩
theorem sS{K:PySem.W.Frag}{a:Addr}{xs:List V}{g:TG}{tb:L2.TS}{D:Ends}{σ:St}{H:Hp}(Pv:Nat->St->Hp->Prop)(h0:Pv 0 σ H)(hl:∀i σ H,i<=xs.length->Pv i σ H->SqL K H a xs)(hs:∀i x σ H,xs[i]?=some x->Pv i σ H->∀D':Ends,(∀σ' H',Pv (i+1) σ' H'->D'.nx σ' H')->g x σ H fun σ2 H2=>tb D' σ2 H2)(hd:∀σ H,Pv xs.length σ H->D.nx σ H) :
  ∃W:Nat->Nat->St->Hp->Prop,(∃m,W 0 m σ H)/\∀i m σ H,W i m σ H ->
   ((Itl K a).stop i H/\D.nx σ H)\/((Itl K a).go i H/\∃N:St->Hp->Prop,(∀σ' H',N σ' H'->∃m',m'<m/\W (i+1) m' σ' H')/\∀x H',(Itl K a).yld i H x H'->g x σ H' fun σ2 H2=>tb { D with nx:=N,ct:=N,bk:=D.nx } σ2 H2) :=
 vD Pv h0 hl (fun i x σ H a b=>hs i x σ H a b _ fun _ _ z=>z) hd
theorem ii{K:PySem.W.Frag}{a:Addr}{xs:List V}{j:Nat}{tb:L2.TS}{D:Ends}{σ:St}{H:Hp}(Pv:Nat->St->Hp->Prop)(h0:Pv 0 σ H)(hl:∀i σ H,i<=xs.length->Pv i σ H->SqL K H a xs)(hs:∀i x σ H,xs[i]?=some x->Pv i σ H->∀D':Ends,(∀σ' H',Pv (i+1) σ' H'->D'.nx σ' H')->tb D' (σ.set j (some x)) H)(hd:∀σ H,Pv xs.length σ H->D.nx σ H) :
  ∃W:Nat->Nat->St->Hp->Prop,(∃m,W 0 m σ H)/\∀i m σ H,W i m σ H ->
   ((Itl K a).stop i H/\D.nx σ H)\/((Itl K a).go i H/\∃N:St->Hp->Prop,(∀σ' H',N σ' H'->∃m',m'<m/\W (i+1) m' σ' H')/\∀x H',(Itl K a).yld i H x H'->bN j x σ H' fun σ2 H2=>tb { D with nx:=N,ct:=N,bk:=D.nx } σ2 H2) :=
 sS Pv h0 hl hs hd
theorem rD{lo:Int}{n:Nat}{g:TG}{tb:L2.TS}{D:Ends}{σ:St}{H:Hp}(Pv:Nat->St->Hp->Prop)(h0:Pv 0 σ H)(hs:∀i σ H,i<n->Pv i σ H->∀D':Ends,(∀σ' H',Pv (i+1) σ' H'->D'.nx σ' H')->g (.int (lo+i)) σ H fun σ2 H2=>tb D' σ2 H2)(hd:∀σ H,Pv n σ H->D.nx σ H) :
  ∃W:Nat->Nat->St->Hp->Prop,(∃m,W 0 m σ H)/\∀i m σ H,W i m σ H ->
   ((Itr lo n).stop i H/\D.nx σ H)\/((Itr lo n).go i H/\∃N:St->Hp->Prop,(∀σ' H',N σ' H'->∃m',m'<m/\W (i+1) m' σ' H')/\∀x H',(Itr lo n).yld i H x H'->g x σ H' fun σ2 H2=>tb { D with nx:=N,ct:=N,bk:=D.nx } σ2 H2) :=
 sU Pv h0 (fun i σ H a b=>hs i σ H a b _ fun _ _ z=>z) hd
theorem sR{K:PySem.W.Frag}{a:Addr}{xs:List V}{i j:Nat}{tb:L2.TS}{D:Ends}{σ:St}{H:Hp}(Pv:Nat->St->Hp->Prop)(h0:Pv 0 σ H)(ha:∀i σ H,i<=xs.length->Pv i σ H->SqL K H a xs)(hs:∀k x σ H,xs[k]?=some x->Pv k σ H->∀D':Ends,(∀σ' H',Pv (k+1) σ' H'->D'.nx σ' H')->∀T,H T=none->tb D' ((σ.set i (some (.int k))).set j (some x)) (upd H T (.tup [.int k,x])))(hd:∀σ H,Pv xs.length σ H->D.nx σ H) :
  ∃W:Nat->Nat->St->Hp->Prop,(∃m,W 0 m σ H)/\∀k m σ H,W k m σ H ->
   ((Ite K a xs).stop k H/\D.nx σ H)\/((Ite K a xs).go k H/\∃N:St->Hp->Prop,(∀σ' H',N σ' H'->∃m',m'<m/\W (k+1) m' σ' H')/\∀x H',(Ite K a xs).yld k H x H'->oh K 2 (fw (bN i) (fw (bN j) og)) x σ H' fun σ2 H2=>tb { D with nx:=N,ct:=N,bk:=D.nx } σ2 H2) :=
 vC Pv h0 ha (fun k x σ H a b T c=>hs k x σ H a b _ (fun _ _ z=>z) T c) hd
def ST:List (Str×TV):=[("put",tw ["new","up","place","text"]),("move",tw ["item","up","place"]),("write",tw ["item","text"]),("mark",tw ["item","truth"]),("due",tw ["item","whom"]),("fold",tw ["item","truth"]),("part",tw ["item","at","new","place"]),("join",tw ["item","item"]),("gone",tw ["item"])]
def FC:List (Str×TV):=[("move",.flat (.int 0)),("write",.flat (.int 2)),("mark",.flat (.int 3)),("due",.flat (.int 4)),("fold",.flat (.int 5))]
theorem at0{x:V}{r:List V}:atI (x::r) 0=some x:=bY (xs:=x::r) (j:=0) rfl
theorem at1{x y:V}{r:List V}:atI (x::y::r) 1=some y:=bY (xs:=x::y::r) (j:=1) rfl
theorem at2{x y z:V}{r:List V}:atI (x::y::z::r) 2=some z:=bY (xs:=x::y::z::r) (j:=2) rfl
theorem at3{x y z u:V}{r:List V}:atI (x::y::z::u::r) 3=some u:=bY (xs:=x::y::z::u::r) (j:=3) rfl
theorem at4{x y z u v:V}{r:List V}:atI (x::y::z::u::v::r) 4=some v:=bY (xs:=x::y::z::u::v::r) (j:=4) rfl
theorem xp{c A B:Prop}[Decidable c](h:¬c)(hB:B):if decide c=true then A else B:=by rw[decide_eq_false h];exact aF hB
theorem B8:¬(("held":Str)="away"):=by decide +kernel
def ie(h a:Addr):List (Str×V):=cg "away" (.ref a) (cg "held" (.ref h) [])
theorem aI(h a:Addr):(ie h a).lookup ("held":Str)=some (.ref h):=by unfold ie;rw[bH,if_neg B8,bH,if_pos rfl]
theorem lZ(h a:Addr):(ie h a).lookup ("away":Str)=some (.ref a):=by unfold ie;rw[bH,if_pos rfl]
theorem cH(h a:Addr){m:Str}(h1:¬m="away")(h2:¬m="held"):(ie h a).lookup m=none:=by
 unfold ie;rw[bH,if_neg h1,bH,if_neg h2]
 all_goals rfl
structure PlainAt(C:Addr)(H:Hp)(p d g:Addr)(kvs gvs:List (List Key×V)):Prop where
 ob:∃dx,H p=some (.ins C dx (ie d g))
 dc:H d=some (.dT kvs)
 gc:H g=some (.dT gvs)
 ne:d≠g
theorem PlainAt.same{C:Addr}{H H':Hp}{p d g:Addr}{kvs gvs:List (List Key×V)}(x:PlainAt C H p d g kvs gvs)(s:Same H H'):PlainAt C H' p d g kvs gvs:=by obtain⟨⟨dx,h1⟩,h2,h3,h4⟩:=x;exact⟨⟨dx,s _ _ h1⟩,s _ _ h2,s _ _ h3,h4⟩
theorem PlainAt.put{C:Addr}{H:Hp}{p d g:Addr}{kvs gvs kvs':List (List Key×V)}(x:PlainAt C H p d g kvs gvs):PlainAt C (upd H d (.dT kvs')) p d g kvs' gvs:=by obtain⟨⟨dx,h1⟩,h2,h3,h4⟩:=x;exact⟨⟨dx,by rw[ad (fA h1 h2 (by intro z;cases z))];exact h1⟩,af,by rw[ad (ZM h4)];exact h3,h4⟩
def But(d:Addr)(H H':Hp):Prop:=∀b o,H b=some o->b≠d->H' b=some o
def NameIs(H:Hp)(v:V)(k:List Key):Prop:=∃b,v=.ref b/\H b=some (.tup (k.map kV))
theorem NameIs.same{H H':Hp}{v:V}{k:List Key}(x:NameIs H v k)(s:Same H H'):NameIs H' v k:=by obtain⟨b,h1,h2⟩:=x;exact⟨b,h1,s _ _ h2⟩
def qO(K:PySem.W.Frag):Sp:=fun vs H Q _=>∃(k:Str) (ws:List Str),vs=[.str k]/\PyProof.Rows.KTD.datumAt k ST=some (tw ws)/\∀t,(∀H',SqT K H' t (ws.map V.str))->Q (.ref t) H
def uG(C:Addr):Sp:=fun vs H Q _=>∃(p dx:Addr),vs=[.ref p]/\H p=some (.ins C dx [])/\∀(d g:Addr) (H':Hp),H d=none->H g=none->PlainAt C H' p d g [] []->(∀b o,H b=some o->b≠p->H' b=some o)->Q .non H'
def qK(C:Addr):Sp:=fun vs H Q _=>∃(p d g:Addr) (kvs gvs:List (List Key×V)) (nm up pl tx:V) (k:List Key),vs=[.ref p,nm,up,pl,tx]/\PlainAt C H p d g kvs gvs/\NameIs H nm k/\kvs.length<=500 /\
 ∀(t:Addr) (H':Hp),Same H H'->H' t=some (.tup [up,pl,tx,.bl false,.non,.bl false])->Q .non (upd H' d (.dT (be kvs k (.ref t))))
def pq(C:Addr):Sp:=fun vs H Q _=>∃(p d g it va:Addr) (kvs gvs:List (List Key×V)) (nm:V) (k:List Key) (i:Nat) (xs ys:List V),vs=[.ref p,nm,.int (i:Int),.ref va]/\PlainAt C H p d g kvs gvs/\NameIs H nm k/\kvs.length<=500 /\
 bo kvs k=some (.ref it)/\H it=some (.tup xs)/\H va=some (.tup ys)/\i+ys.length<=xs.length/\xs.length<=100 /\
 ∀(t:Addr) (H':Hp),Same H H'->H' t=some (.tup (xs.take i++ys++xs.drop (i+ys.length)))->Q .non (upd H' d (.dT (be kvs k (.ref t))))
def uH(C:Addr):Sp:=fun vs H Q _=>∃(p d g:Addr) (kvs gvs:List (List Key×V)) (nm v:V) (k:List Key),vs=[.ref p,nm]/\PlainAt C H p d g kvs gvs/\NameIs H nm k/\bo kvs k=some v/\Q v H
def qM(C:Addr):Sp:=fun vs H Q _=>∃(p d g:Addr) (kvs gvs:List (List Key×V)),vs=[.ref p]/\PlainAt C H p d g kvs gvs/\∀l ks,H l=none->dI H kvs ks->Q (.ref l) (upd H l (.lst ks))
def uE(K:PySem.W.Frag):Sp:=fun vs H Q _=>∃(a:Addr) (ns:List Int) (k:Int),vs=[.ref a,.int k]/\SqL K H a (ns.map V.int)/\0<=k/\Q (.int (ge ns k.toNat)) H
structure Txt(K:PySem.W.Frag)(C:Addr):Prop where
 cl:Cls K C
 nH:NoAttr K C "held"
 nA:NoAttr K C "away"
section
variable{P:Program}{w:World}{K:PySem.W.Frag}{mg:Str->Option Value}{base:Heap}
abbrev fb:Stmt:=top 9
abbrev nJ:List Str:=["word"]
theorem mR:FnScope nJ ["word"] (ai fb):=⟨rfl,rfl,rfl,by decide +kernel,rfl,by decide +kernel,by decide +kernel⟩
theorem mO{f:Addr}{fd:FuncData}(F:Fun K "step_parts" "step_parts" fb f fd){dd:Addr}(g_STEP_PARTS:mg "STEP_PARTS" = some (.ref dd))(T:Tab K dd ST):FnOk P w K mg base CX0 1 f fd ["word"] (qO K):=by
 refine F.okQ mR (fun vs H Q E h=>?_) (fun cdv A outer s H vs Q E hr h=>?_)
 ·obtain⟨k,ws,rfl,_⟩:=h;rfl
 obtain⟨k,ws,rfl,hk,q⟩:=h;refine⟨_,(b_1 (aG (au xQ (Bp g_STEP_PARTS) (q_v 0)))),?_⟩
 try rw[cxK]
 exact⟨_,rfl,dd,k,ST,tw ws,rfl,rfl,T,hk,q⟩
abbrev eU:Stmt:=aO (top 15) 0
abbrev nB:List Str:=["self"]
theorem mP:FnScope nB ["self"] (ai eU):=⟨rfl,rfl,rfl,by decide +kernel,rfl,by decide +kernel,by decide +kernel⟩
theorem mJ{f C:Addr}{fd:FuncData}(F:Fun K "__init__" "Plain.__init__" eU f fd)(T:Txt K C):FnOk P w K mg base CX0 1 f fd ["self"] (uG C):=by
 refine F.okQ mP (fun vs H Q E h=>?_) (fun cdv A outer s H vs Q E hr h=>?_)
 ·obtain⟨p,dx,rfl,_⟩:=h;rfl
 obtain⟨p,dx,rfl,hp,k⟩:=h;refine⟨_,(b_c (xF (q_v 0) sh)
   (b_1 (xF (q_v 0) sh))),?_⟩
 try rw[cxK]
 intro d hd;have npd:p≠d:=ag hp hd;refine⟨_,rfl,p,C,dx,[],rfl,(by rw[ad npd];exact hp),T.cl,T.nH,(by show 0<1000;decide),?_⟩;intro g hg;have hg0:H g=none:=by
  cases e:H g with
  |none=>rfl
  |some o =>
   have:g≠d:=ag e hd;by_cases c:g=p
   ·subst c;rw[af]at hg;cases hg
   ·rw[ad c,ad this,e]at hg;cases hg
 have ngp:g≠p:=fun z=>by rw[z,hp]at hg0;cases hg0
 have ngd:g≠d:=fun z=>by rw[z,ad npd.symm,af]at hg;cases hg
 refine⟨_,rfl,p,C,dx,_,rfl,(by rw[ad ngp.symm,af]),T.cl,T.nA,(by show 1<1000;decide),?_⟩;refine k d g _ hd hg0 ⟨⟨dx,af⟩,by rw[ad npd.symm,ad ngd.symm,ad npd.symm,af],by rw[ad ngp,af],ngd.symm⟩ fun b o e hb=>?_;rw[ad hb,ad (ag e hg0),ad hb,ad (ag e hd)];exact e
abbrev eV:Stmt:=aO (top 15) 10
abbrev nC:List Str:=["self","name"]
theorem mQ:FnScope nC ["self","name"] (ai eV):=⟨rfl,rfl,rfl,by decide +kernel,rfl,by decide +kernel,by decide +kernel⟩
theorem mK{f C:Addr}{fd:FuncData}(F:Fun K "item" "Plain.item" eV f fd)(T:Txt K C):FnOk P w K mg base CX0 1 f fd ["self","name"] (uH C):=by
 refine F.okQ mQ (fun vs H Q E h=>?_) (fun cdv A outer s H vs Q E hr h=>?_)
 ·obtain⟨p,d,g,kvs,gvs,nm,v,k,rfl,_⟩:=h;rfl
 obtain⟨p,d,g,kvs,gvs,nm,v,k,rfl,S,⟨b,rfl,hb⟩,hv,q⟩:=h;obtain⟨⟨dx,h1⟩,h2,h3,h4⟩:=id S;refine⟨_,(b_c (bf (fe hr.units (q_v 1) (bA (q_v 0))) (b_1 qI) b_0)
   (b_1 (aG (bn hr.units (bA (q_v 0)) (q_v 1))))),?_⟩
 try rw[cxK]
 refine⟨_,rfl,_,rfl,p,C,dx,_,_,rfl,h1,T.cl,T.nH,aI _ _,d,_,rfl,DGet.t h2 hb,_,rfl,?_⟩;rw[hv];refine aF ?_;exact⟨_,rfl,p,C,dx,_,_,rfl,h1,T.cl,T.nH,aI _ _,_,rfl,d,v,rfl,hv▸DGet.t h2 hb,q⟩
abbrev cR:Stmt:=aO (top 15) 4
abbrev jq:List Str:=["self","name","up","place","text"]
theorem jc:FnScope jq ["self","name","up","place","text"] (ai cR):=⟨rfl,rfl,rfl,by decide +kernel,rfl,by decide +kernel,by decide +kernel⟩
theorem ja{f C:Addr}{fd:FuncData}(F:Fun K "bring_in" "Plain.bring_in" cR f fd)(T:Txt K C):FnOk P w K mg base CX0 1 f fd ["self","name","up","place","text"] (qK C):=by
 refine F.okQ jc (fun vs H Q E h=>?_) (fun cdv A outer s H vs Q E hr h=>?_)
 ·obtain⟨p,d,g,kvs,gvs,nm,up,pl,tx,k,rfl,_⟩:=h;rfl
 obtain⟨p,d,g,kvs,gvs,nm,up,pl,tx,k,rfl,S,hn,hl,q⟩:=h;obtain⟨⟨dx,h1⟩,h2,h3,h4⟩:=id S;refine⟨_,(b_1 (kF hr.units (bA (q_v 0)) (q_v 1) (bO (q_a (q_v 2) (q_a (q_v 3) (q_a (q_v 4) (q_a cQ (q_a br (q_a cQ am))))))))),?_⟩
 try rw[cxK]
 refine⟨_,rfl,_,rfl,_,rfl,sz rfl,fun t ht=>?_⟩;have sm:=aj ht (.tup [up,pl,tx,.bl false,.non,.bl false]);obtain⟨b,rfl,hb⟩:=hn;exact⟨_,rfl,p,C,dx,_,_,rfl,sm _ _ h1,T.cl,T.nH,aI _ _,_,rfl,d,_,rfl,DPut.t (sm _ _ h2) (sm _ _ hb) (cE (by omega)),q t _ sm af⟩
abbrev dD:Stmt:=aO (top 15) 5
abbrev kP:List Str:=["self","name","first","values","item"]
theorem fB:FnScope kP ["self","name","first","values"] (ai dD):=⟨rfl,rfl,rfl,by decide +kernel,rfl,by decide +kernel,by decide +kernel⟩
theorem km{f C:Addr}{fd:FuncData}(F:Fun K "change" "Plain.change" dD f fd)(T:Txt K C)(z_len:mg "len" = none):FnOk P w K mg base CX0 1 f fd ["self","name","first","values"] (pq C):=by
 refine F.okQ fB (fun vs H Q E h=>?_) (fun cdv A outer s H vs Q E hr h=>?_)
 ·obtain⟨p,d,g,it,va,kvs,gvs,nm,k,i,xs,ys,rfl,_⟩:=h;rfl
 obtain⟨p,d,g,it,va,kvs,gvs,nm,k,i,xs,ys,rfl,S,hn,hl,hv,hit,hva,hi,hx,q⟩:=h;obtain⟨⟨dx,h1⟩,h2,h3,h4⟩:=id S;obtain⟨b,rfl,hb⟩:=hn;refine⟨_,(b_c (aD (i:=4) fB.nd (bn hr.units (bA (q_v 0)) (q_v 1)))
   (b_1 (kF hr.units (bA (q_v 0)) (q_v 1) (ay ir (ay ir (dQ cZ (q_v 4) eQ (dC (q_v 2))) (q_v 3)) (dQ cZ (q_v 4) (dC (ay kj (q_v 2) (q_B cV z_len y4 (q_a (q_v 3) am)))) eQ))))),?_⟩
 try rw[cxK]
 refine⟨_,rfl,p,C,dx,_,_,rfl,h1,T.cl,T.nH,aI _ _,_,rfl,d,_,rfl,hv▸DGet.t h2 hb,?_⟩;refine⟨_,rfl,_,rfl,_,rfl,it,xs,rfl,hit,fun t1 H1 s1 e1=>?_⟩;have c1:bM xs none (some (i:Int))=xs.take i:=by unfold bM;rw[HT.sIx_none,HT.sIx_nat,List.drop_zero,Nat.sub_zero,Nat.min_eq_left (by omega)]
 rw[c1]at e1;refine⟨_,rfl,t1,va,_,_,rfl,rfl,e1,s1 _ _ hva,bG (by rw[ZN];omega),fun t2 H2 s2 e2=>?_⟩;refine⟨_,rfl,_,rfl,_,rfl,va,ys,rfl,.inr (SqT.of (s2 _ _ (s1 _ _ hva))),_,_,rfl,rfl,_,rfl,it,xs,rfl,s2 _ _ (s1 _ _ hit),fun t3 H3 s3 e3=>?_⟩;have c2:bM xs (some ((i:Int)+(ys.length:Int))) none=xs.drop (i+ys.length):=by unfold bM;rw[HT.sIx_none,show(i:Int)+(ys.length:Int)=((i+ys.length:Nat):Int) by omega,HT.sIx_nat,Nat.min_eq_left hi,ZJ (by rw[Yj];omega)]
 rw[c2]at e3;refine⟨t2,t3,_,_,rfl,rfl,s3 _ _ e2,e3,bG (by rw[Zn,ZN,Yj];omega),fun t4 H4 s4 e4=>?_⟩;have sm:Same H H4:=s1.trans (s2.trans (s3.trans s4));exact⟨_,rfl,p,C,dx,_,_,rfl,sm _ _ h1,T.cl,T.nH,aI _ _,_,rfl,d,_,rfl,DPut.t (sm _ _ h2) (sm _ _ hb) (cE (by omega)),q t4 _ sm e4⟩
theorem B9(w:Str):inV (.str w) [.str "item",.str "up"]=decide (w="item"\/w="up"):=by
 unfold inV eqV;by_cases h1:w="item"
 ·subst h1;simp
 ·by_cases h2:w="up"
  ·subst h2;simp
  ·simp[h1,h2,ZM h1,ZM h2]
abbrev ci:Stmt:=aO (top 15) 2
abbrev hV:List Str:=["self","step","kinds","kind","name"]
theorem aL:FnScope hV ["self","step"] (ai ci):=⟨rfl,rfl,rfl,by decide +kernel,rfl,by decide +kernel,by decide +kernel⟩
def BH(cN:Addr):Sp:=fun vs H Q _=>∃(e t:Addr) (v:V),vs=[.ref e,v]/\H e=some (exN e cN t none)/\∀d,H d=none->Q .non (upd (upd H d (.xd [("name",v)])) e (exN e cN t (some d)))
abbrev dR:Stmt:=aO (top 4) 0
abbrev mF:List Str:=["self","name"]
theorem lK:FnScope mF ["self","name"] (ai dR):=⟨rfl,rfl,rfl,by decide +kernel,rfl,by decide +kernel,by decide +kernel⟩
theorem lz{f cN:Addr}{fd:FuncData}(F:Fun K "__init__" "NoItem.__init__" dR f fd)(S:ExS K cN)(n:NoAttr K cN "name"):FnOk P w K mg base CX0 1 f fd ["self","name"] (BH cN):=by
 refine F.okQ lK (fun vs H Q E h=>?_) (fun cdv A outer s H vs Q E hr h=>?_)
 ·obtain⟨e,t,v,rfl,_⟩:=h;rfl
 obtain⟨e,t,v,rfl,he,q⟩:=h;refine⟨_,(b_1 (BC (q_v 0) (q_v 1))),?_⟩
 try rw[cxK]
 exact⟨_,rfl,_,rfl,e,cN,t,rfl,he,S,n,q⟩
theorem vh{H1:Hp}{ea t d cN:Addr}{v:V}(h1:H1 ea=none)(hd:upd H1 ea (exN ea cN t none) d=none) :
  Same H1 (del (upd (upd (upd H1 ea (exN ea cN t none)) d (.xd [("name",v)])) ea (exN ea cN t (some d))) ea)/\del (upd (upd (upd H1 ea (exN ea cN t none)) d (.xd [("name",v)])) ea (exN ea cN t (some d))) ea d=some (.xd [("name",v)]):=by
 have nde:d≠ea:=fun z=>by rw[z,af]at hd;cases hd
 refine⟨fun b o e=>?_,?_⟩
 ·have hb:b≠ea:=ag e h1;have hbd:b≠d:=fun z=>by rw[<-z,ad hb,e]at hd;cases hd
  rw[cW hb,ad hb,ad hbd,ad hb];exact e
 ·rw[cW nde,ad nde,af]
def PartB(H:Hp)(kvs:List (List Key×V))(w:Str)(v:V)(b:Bool):Prop :=
 (w="new"->∃k,NameIs H v k/\b=!(bo kvs k).isSome)/\((w="item"\/w="up")->(v=.non/\b=true)\/∃k,NameIs H v k/\b=(bo kvs k).isSome)
theorem PartB.same{H H':Hp}{kvs:List (List Key×V)}{w:Str}{v:V}{b:Bool}(x:PartB H kvs w v b)(s:Same H H'):PartB H' kvs w v b :=
 ⟨fun e=>let⟨k,a,c⟩:=x.1 e;⟨k,a.same s,c⟩,fun e=>(x.2 e).imp id fun⟨k,a,c⟩=>⟨k,a.same s,c⟩⟩
def isI(w:Str):Prop:=w="item"\/w="up"
def pr(C cT cN:Addr):Sp:=fun vs H Q E=>∃(p d g st:Addr) (kvs gvs:List (List Key×V)) (w:Str) (ws:List Str) (ps:List V) (bs:List Bool),vs=[.ref p,.ref st]/\PlainAt C H p d g kvs gvs/\H st=some (.tup (.str w::ps)) /\
 PyProof.Rows.KTD.datumAt w ST=some (tw ws)/\ws.length=ps.length/\bs.length=ps.length/\(∀(i:Nat) (w:Str) (v:V) (b:Bool),ws[i]?=some w->ps[i]?=some v->bs[i]?=some b->PartB H kvs w v b) /\
 ((∃i:Nat,ws[i]?=some "new"/\bs[i]?=some false)->∀H',Same H H'->E (.ref cT) none H') /\
 ((∀ i:Nat,ws[i]? = some "new"->bs[i]? = some true)->((∀ (i:Nat) (w:Str),ws[i]? = some w->isI w->bs[i]? = some true)->∀ H',Same H H'->Q .non H') /\
  ∀ (i:Nat) (w:Str) (v:V),ws[i]? = some w->ps[i]? = some v->isI w->bs[i]? = some false->(∀ (j:Nat) (w':Str),j<i->ws[j]? = some w'->isI w'->bs[j]? = some true)->∀ H' dd,Same H H'->H' dd=some (.xd [("name",v)])->E (.ref cN) (some dd) H')
theorem fS{f C cT cN:Addr}{fd:FuncData}{bm:List Value}(F:Fun K "check_names" "Plain.check_names" ci f fd)(T:Txt K C)(F_step_parts:Fn P w K mg base 1 "step_parts" ["word"] (qO K))(z_zip:mg "zip" = none)(x_Taken:ExCls K cT)(g_Taken:mg "Taken" = some (.ref cT))(xi_NoItem:ExI P w K mg base 1 cN bm ["self","name"] (BH cN))(g_NoItem:mg "NoItem" = some (.ref cN)):FnOk P w K mg base (CXr P w) 3 f fd ["self","step"] (pr C cT cN):=by
 refine F.okX aL (fun vs H Q E h=>?_) (fun cdv A outer s H vs Q E hr h=>?_)
 ·obtain⟨p,d,g,st,kvs,gvs,wd,ws,ps,bs,rfl,_⟩:=h;rfl
 obtain⟨p,d,g,st,kvs,gvs,wd,ws,ps,bs,rfl,S,hst,hk,l1,l2,ok,qT,qN⟩:=h;obtain⟨⟨dx,h1⟩,h2,h3,h4⟩:=id S;refine⟨_,(b_c (aD (i:=2) aL.nd (gM F_step_parts (hr.mono (by decide)) (q_a (au aC (q_v 1) ah) am)))
   (b_c (xG bP (gP (ko rfl rfl) rfl (xn z_zip (q_a (q_v 2) (q_a (dQ cZ (q_v 1) (dC ah) eQ) am))) (mY rfl (dN (aU (i:=3) aL.nd) (dN (aU (i:=4) aL.nd) rG))) (b_1 (bf (t_w (dr (aq eN (q_v 3) bC) (cM (CD hr.units (q_v 4) (bA (q_v 0)))))) (b_1 (iW (dg jm) rfl x_Taken g_Taken (q_a bC am))) b_0))))
   (b_1 (xG bP (gP (ko rfl rfl) rfl (xn z_zip (q_a (q_v 2) (q_a (dQ cZ (q_v 1) (dC ah) eQ) am))) (mY rfl (dN (aU (i:=3) aL.nd) (dN (aU (i:=4) aL.nd) rG))) (b_1 (bf (t_w (dr (aq (Cd (K:=K) rfl) (q_v 3) (bO (q_a bC (q_a bC am)))) (dr (aq de (q_v 4) br) (cM (fe hr.units (q_v 4) (bA (q_v 0))))))) (b_1 (wI jm rfl xi_NoItem (hr.mono (by decide)) g_NoItem (q_a (q_v 4) am))) b_0))))))),?_⟩
 try rw[cxK]
 refine(vix rfl (SqT.of hst) at0 ⟨wd,ws,rfl,hk,fun t ht=>?_⟩);have c1:bM (V.str wd::ps) (some 1) none=ps:=by unfold bM;rw[HT.sIx_none,show(1:Int)=((1:Nat):Int)from rfl,HT.sIx_nat];simp
 have lw:(ws.map V.str).length=ps.length:=by rw[Zi];exact l1
 have item:∀{i:Nat} {x:V},(ws.map V.str)[i]?=some x->∃w',ws[i]?=some w'/\x=.str w':=fun{i x} hx=>by rw[ZG]at hx;obtain⟨w',e1,e2⟩:=ZZ.mp hx;exact⟨w',e1,e2.symm⟩
 have bat:∀{i:Nat} {v:V},ps[i]?=some v->∃b,bs[i]?=some b:=fun{i v} hv=>by
  have hi:i<bs.length:=by rw[l2];exact(ZC.mp hv).1
  exact⟨_,Zb hi⟩
 refine⟨_,rfl,_,rfl,_,rfl,st,_,rfl,hst,fun z H1 s1 e1=>?_⟩;rw[c1]at e1;refine⟨t,z,_,_,rfl,ht _,SqT.of e1,lw,?_⟩;refine pZ (i:=3) (j:=4) (fun i σ H'=>Same H H'/\H' z=some (.tup ps)/\(∀j:Nat,j<i->ws[j]?=some "new"->bs[j]?=some true)/\∃o3 o4,σ=[some (.ref p),some (.ref st),some (.ref t),o3,o4]) ⟨s1,e1,(fun j hj=>by omega),none,none,rfl⟩ (fun _ _ _ _ _=>ht _) (fun _ _ _ _ v=>SqT.of v.2.1) lw ?_ ?_
 ·rintro i x v σ H' hx hv ⟨sm,ez,pre,o3,o4,rfl⟩ T' gT;have wT:=aj gT (.tup [x,v]);obtain⟨w',hw,rfl⟩:=item hx;obtain⟨b,hb⟩:=bat hv;have sm':=sm.trans wT;have pb:=(ok i w' v b hw hv hb).same sm';refine⟨_,rfl,rfl,_,rfl,il (fun c=>?_) (fun c=>?_)⟩
  ·injection c with c;subst c;obtain⟨k,⟨nb,rfl,hnb⟩,hbv⟩:=pb.1 rfl;refine⟨_,rfl,_,rfl,p,C,dx,_,_,rfl,sm' _ _ h1,T.cl,T.nH,aI _ _,d,_,rfl,DGet.t (sm' _ _ h2) hnb,_,rfl,?_⟩;cases hs:(bo kvs k).isSome with
   |true =>rw[hs]at hbv;subst hbv;refine ce ?_;exact⟨sz rfl,qT ⟨i,hw,hb⟩ _ sm'⟩
   |false =>
    rw[hs]at hbv;subst hbv;refine aF ⟨sm',wT _ _ ez,fun j hj hw'=>?_,_,_,rfl⟩;by_cases c2:j=i
    ·rw[c2];exact hb
    ·exact pre j (by omega) hw'
  ·refine aF ⟨sm',wT _ _ ez,fun j hj hw'=>?_,_,_,rfl⟩;by_cases c2:j=i
   ·rw[c2,hw]at hw';exact absurd (Yy V.str (Zs hw')) c
   ·exact pre j (by omega) hw'
 ·rintro σ H' ⟨sm,ez,pre,o3,o4,rfl⟩;have all:∀i:Nat,ws[i]?=some "new"->bs[i]?=some true:=fun i hi=>pre i (by rw[Zi];exact(ZC.mp hi).1) hi;obtain⟨qok,qni⟩:=qN all;refine⟨_,rfl,_,rfl,_,rfl,st,_,rfl,sm _ _ hst,fun z' H2 s2 e2=>?_⟩;rw[c1]at e2;refine⟨t,z',_,_,rfl,ht _,SqT.of e2,lw,?_⟩;refine pZ (i:=3) (j:=4) (fun i σ H'=>Same H H'/\H' z'=some (.tup ps)/\(∀(j:Nat) (w':Str),j<i->ws[j]?=some w'->isI w'->bs[j]?=some true)/\∃o3 o4,σ=[some (.ref p),some (.ref st),some (.ref t),o3,o4]) ⟨sm.trans s2,e2,(fun j _ hj=>by omega),o3,o4,rfl⟩ (fun _ _ _ _ _=>ht _) (fun _ _ _ _ v=>SqT.of v.2.1) lw ?_ ?_
  ·rintro i x v σ H' hx hv ⟨sm,ez,pre2,o3,o4,rfl⟩ T' gT;have wT:=aj gT (.tup [x,v]);obtain⟨w',hw,rfl⟩:=item hx;obtain⟨b,hb⟩:=bat hv;have sm':=sm.trans wT;refine⟨_,rfl,sz rfl,fun u gu=>?_⟩;have wu:=aj gu (.tup [.str "item",.str "up"]);have sm2:=sm'.trans wu;have pb:=(ok i w' v b hw hv hb).same sm2;refine⟨u,_,rfl,.inr (SqT.of af),rfl,rfl,_,rfl,?_⟩;have ei:(if false=true then !inV (V.str w') [.str "item",.str "up"]else inV (V.str w') [.str "item",.str "up"])=decide (w'="item"\/w'="up"):=B9 w';have step:bs[i]?=some true->∀(j:Nat) (w'':Str),j<i+1->ws[j]?=some w''->isI w''->bs[j]?=some true:=fun hbt j w'' hj hw'' hi=>by
    by_cases c2:j=i
    ·rw[c2];exact hbt
    ·exact pre2 j w'' (by omega) hw'' hi
   rw[ei];refine il (fun c=>?_) (fun c=>?_)
   ·rcases pb.2 c with⟨rfl,rfl⟩|⟨k,⟨nb,rfl,hnb⟩,hbv⟩
    ·refine⟨_,rfl,rfl,_,rfl,cX rfl ?_⟩;exact aF ⟨sm2,wu _ _ (wT _ _ ez),step hb,_,_,rfl⟩
    ·refine⟨_,rfl,rfl,_,rfl,gC (by intro z;cases z) ?_⟩;refine⟨_,rfl,_,rfl,p,C,dx,_,_,rfl,sm2 _ _ h1,T.cl,T.nH,aI _ _,d,_,rfl,DGet.t (sm2 _ _ h2) hnb,_,rfl,?_⟩;cases hs:(bo kvs k).isSome with
     |true =>rw[hs]at hbv;subst hbv;exact aF ⟨sm2,wu _ _ (wT _ _ ez),step hb,_,_,rfl⟩
     |false =>rw[hs]at hbv;subst hbv;refine ce ?_;refine⟨_,rfl,sz rfl,fun ea tt' e1 e2 nt=>⟨ea,tt',_,rfl,af,fun dd hdd=>⟨rfl,some dd,af,?_⟩⟩⟩;obtain⟨a1,a2⟩:=vh (v:=V.ref nb) e1 hdd;exact qni i w' _ hw hv c hb pre2 _ dd (sm2.trans a1) a2
   ·refine aF ⟨sm2,wu _ _ (wT _ _ ez),fun j w'' hj hw'' hi=>?_,_,_,rfl⟩;by_cases c2:j=i
    ·rw[c2,hw]at hw'';cases hw'';exact absurd hi c
    ·exact pre2 j w'' (by omega) hw'' hi
  ·rintro σ H' ⟨sm,ez,pre2,o3,o4,rfl⟩;exact qok (fun i w' hw hi=>pre2 i w' (by rw[Zi];exact(ZC.mp hw).1) hw hi) H' sm
abbrev bL:Stmt:=aO (top 15) 12
abbrev fM:List Str:=["self","one","other"]
theorem cL:FnScope fM ["self","one","other"] (ai bL):=⟨rfl,rfl,rfl,by decide +kernel,rfl,by decide +kernel,by decide +kernel⟩
abbrev bR:Stmt:=aO (top 15) 3
abbrev fZ:List Str:=["self","step"]
theorem fV:FnScope fZ ["self","step"] (ai bR):=⟨rfl,rfl,rfl,by decide +kernel,rfl,by decide +kernel,by decide +kernel⟩
theorem gI(h a:Addr){m:Str}(h1:¬m="away":=by decide +kernel)(h2:¬m="held":=by decide +kernel):(ie h a).lookup m=none:=cH h a h1 h2
def TS(H H':Hp):Prop:=∀a zs,H a=some (.tup zs)->H' a=some (.tup zs)
theorem Same.ts{H H':Hp}(e:Same H H'):TS H H':=fun a zs h=>e a _ h
theorem BU{H:Hp}{d:Addr}{kvs kvs':List (List Key×V)}(h:H d=some (.dT kvs)):TS H (upd H d (.dT kvs')):=fun a zs e=>by rw[ad (fA e h (by intro z;cases z))];exact e
theorem cD{d:PyData}(h1:d.canLay0=true)(h2:d.depth<=10):SeqAt.shaped d=true:=by unfold SeqAt.shaped;rw[ZB];exact⟨h1,decide_eq_true (by omega)⟩
theorem sv{l:List (List Key×V)}{k:List Key}(h:k∈l.map (·.1)):(bo l k).isSome=true:=by
 cases e:bo l k with
 |none=>exact absurd h (wV e)
 |some v=>rfl
theorem wq{l:List (List Key×V)}{k:List Key}(v:V)(h:k∈l.map (·.1)):be l k v=l.map (fun kv=>if kv.1=k then(kv.1,v)else kv):=by unfold be;rw[if_pos];rw[dF];exact sv h
abbrev Nm:=Int×Int
structure It where
 up:Option Nm
 pl:List Int
 tx:Str
 dn:Bool
 wh:Option Int
 fo:Bool
abbrev Ol:=List (Nm×It)
def nk(n:Nm):List Key:=[.inl n.1,.inl n.2]
theorem kd{n m:Nm}(h:nk n=nk m):n=m:=by unfold nk at h;injection h with h1 h2;injection h2 with h2 _;injection h1 with h1;injection h2 with h2;exact Prod.ext h1 h2
abbrev As(β:Type):=List (Nm×β)
def look{β:Type}:As β->Nm->Option β
 | [],_=>none
 |p::l,n=>if p.1=n then some p.2 else look l n
def bh{β:Type}(l:As β)(n:Nm)(i:β):As β:=if(look l n).isSome=true then l.map (fun p=>if p.1=n then(p.1,i)else p)else l++[(n,i)]
def UpAt(H:Hp)(v:V):Option Nm->Prop
 |none=>v=.non
 |some n=>NameIs H v (nk n)
def PlAt(H:Hp)(v:V)(ns:List Int):Prop:=∃b,v=.ref b/\H b=some (.tup (ns.map V.int))
def whV:Option Int->V
 |none=>.non
 |some i=>.int i
def ItAt(H:Hp)(v:V)(it:It):Prop:=∃(a:Addr) (uv pv:V),v=.ref a/\H a=some (.tup [uv,pv,.str it.tx,.bl it.dn,whV it.wh,.bl it.fo])/\UpAt H uv it.up/\PlAt H pv it.pl
theorem NameIs.ts'{H H':Hp}{v:V}{k:List Key}(x:NameIs H v k)(s:TS H H'):NameIs H' v k:=by obtain⟨b,h1,h2⟩:=x;exact⟨b,h1,s _ _ h2⟩
theorem UpAt.ts{H H':Hp}{v:V}{u:Option Nm}(x:UpAt H v u)(s:TS H H'):UpAt H' v u:=by
 cases u with
 |none=>exact x
 |some n=>exact NameIs.ts' x s
theorem PlAt.ts{H H':Hp}{v:V}{ns:List Int}(x:PlAt H v ns)(s:TS H H'):PlAt H' v ns:=by obtain⟨b,h1,h2⟩:=x;exact⟨b,h1,s _ _ h2⟩
theorem ItAt.ts{H H':Hp}{v:V}{it:It}(x:ItAt H v it)(s:TS H H'):ItAt H' v it:=by obtain⟨a,uv,pv,h1,h2,h3,h4⟩:=x;exact⟨a,uv,pv,h1,s _ _ h2,h3.ts s,h4.ts s⟩
abbrev Rws{β:Type}(R:V->β->Prop)(kvs:List (List Key×V))(ol:As β):Prop:=Paired (fun p q=>p.1=nk q.1/\R p.2 q.2) kvs ol
abbrev Rows(H:Hp)(kvs:List (List Key×V))(ol:Ol):Prop:=Rws (ItAt H) kvs ol
theorem Rows.ts{H H':Hp}{kvs:List (List Key×V)}{ol:Ol}(x:Rows H kvs ol)(s:TS H H'):Rows H' kvs ol:=Paired.mapP x fun _ _ z=>⟨z.1,z.2.ts s⟩
section
variable{β:Type}{R:V->β->Prop}{kvs:List (List Key×V)}{ol:As β}{n:Nm}{it:β}{v:V}
theorem mt(x:Rws R kvs ol)(h:look ol n=none):bo kvs (nk n)=none:=by
 induction x with
 |nil=>rfl
 |@cons p q _ _ r _ ih =>
  unfold look at h;by_cases c:q.1=n
  ·rw[if_pos c]at h;cases h
  ·rw[if_neg c]at h;rw[fh fun z=>c (kd (r.1.symm.trans z))];exact ih h
theorem aH(x:Rws R kvs ol)(h:look ol n=some it):∃v,bo kvs (nk n)=some v/\R v it:=by
 induction x with
 |nil=>cases h
 |@cons p q _ _ r _ ih =>
  unfold look at h;by_cases c:q.1=n
  ·rw[if_pos c]at h;cases h;exact⟨p.2,hJ (r.1.trans (Yy nk c)),r.2⟩
  ·rw[if_neg c]at h;rw[fh fun z=>c (kd (r.1.symm.trans z))];exact ih h
theorem lF(x:Rws R kvs ol):(bo kvs (nk n)).isSome=(look ol n).isSome:=by
 cases e:look ol n with
 |none=>rw[mt x e];rfl
 |some it =>obtain⟨v,h,_⟩:=aH x e;rw[h];rfl
theorem jF(x:Rws R kvs ol)(hv:R v it):Rws R (be kvs (nk n) v) (bh ol n it):=by
 unfold bh;cases e:look ol n with
 |none =>rw[wo _ (mt x e),if_neg (by simp)];exact Paired.snoc x ⟨rfl,hv⟩
 |some it0 =>
  obtain⟨v0,h0,_⟩:=aH x e;rw[wq _ (zD h0),if_pos (show(some it0).isSome=true from rfl)];clear e h0;induction x with
  |nil=>exact .nil
  |@cons p q _ _ r _ ih =>
   rw[Zz,Zz];refine .cons ?_ ih;by_cases c:p.1=nk n
   ·rw[if_pos c,if_pos (kd (r.1.symm.trans c))];exact⟨r.1,hv⟩
   ·rw[if_neg c,if_neg fun z=>c (r.1.trans (Yy nk z))];exact r
theorem gO(x:Rws R kvs ol):kvs.length=ol.length:=Zy x
end
def OlAt(C:Addr)(H:Hp)(p d g:Addr)(ol:Ol):Prop:=∃kvs,PlainAt C H p d g kvs []/\Rows H kvs ol
theorem OlAt.same{C:Addr}{H H':Hp}{p d g:Addr}{ol:Ol}(x:OlAt C H p d g ol)(s:Same H H'):OlAt C H' p d g ol:=by obtain⟨kvs,h1,h2⟩:=x;exact⟨kvs,h1.same s,h2.ts (Same.ts s)⟩
theorem But.put{d:Addr}{H H':Hp}(s:Same H H')(o:HO):But d H (upd H' d o):=fun b u h n=>by rw[ad n];exact s _ _ h
theorem ud{C:Addr}{H H':Hp}{p d g t:Addr}{kvs:List (List Key×V)}{ol:Ol}{n:Nm}{it:It}(S:PlainAt C H p d g kvs [])(R:Rows H kvs ol)(s:Same H H')(hi:ItAt H' (.ref t) it):OlAt C (upd H' d (.dT (be kvs (nk n) (.ref t)))) p d g (bh ol n it):=by have td:TS H' (upd H' d (.dT (be kvs (nk n) (.ref t)))):=BU (s _ _ S.dc);exact⟨_,(S.same s).put,Rows.ts (jF (Rows.ts R (Same.ts s)) hi) td⟩
inductive Und(ol:Ol)(o:Nm):Nat->Option Nm->Bool->Prop
 |none:Und ol o 0 none false
 |self:Und ol o 0 (some o) true
 |up {k:Nat} {n:Nm} {it:It} {b:Bool}:n≠o->look ol n=some it->Und ol o k it.up b->Und ol o (k+1) (some n) b
def lO(C:Addr):Sp:=fun vs H Q _=>∃(p d g:Addr) (ol:Ol) (u v:V) (one:Option Nm) (o:Nm) (k:Nat) (b:Bool),vs=[.ref p,u,v]/\OlAt C H p d g ol/\UpAt H u one/\NameIs H v (nk o)/\Und ol o k one b/\Q (.bl b) H
theorem fH{f C:Addr}{fd:FuncData}(F:Fun K "at_or_beneath" "Plain.at_or_beneath" bL f fd)(T:Txt K C){tk:Tok}(g_UP:mg "UP" = some (.int 0 tk)):FnOk P w K mg base CX0 1 f fd ["self","one","other"] (lO C):=by
 refine F.okQ cL (fun vs H Q E h=>?_) (fun cdv A outer s H vs Q E hr h=>?_)
 ·obtain⟨p,d,g,ol,u,v,one,o,k,b,rfl,_⟩:=h;rfl
 obtain⟨p,d,g,ol,u,v,one,o,k,b,rfl,⟨kvs,S,R⟩,hu,hv,un,q⟩:=h;obtain⟨⟨dx,h1⟩,h2,h3,h4⟩:=id S;obtain⟨vb,rfl,hvb⟩:=id hv;refine⟨_,(b_c (iX Yv (t_w (dr (aq de (q_v 1) br) (cM (aq (tV hr.units) (q_v 1) (q_v 2))))) (b_1 (aD (i:=1) cL.nd (au aC (bn hr.units (bA (q_v 0)) (q_v 1)) (iw g_UP)))))
   (b_1 (aG (kC de (q_v 1) br)))),?_⟩
 try rw[cxK]
 refine⟨fun m σ H'=>H'=H/\∃(u:V) (one:Option Nm),UpAt H u one/\Und ol o m one b/\σ=[some (.ref p),some u,some (.ref vb)],⟨k,rfl,u,one,hu,un,rfl⟩,?_⟩;rintro m σ H' ⟨rfl,u,one,hu,un,rfl⟩;cases un with
 |none =>obtain rfl:u=.non:=hu;refine⟨_,rfl,rfl,_,rfl,cX rfl (aF ?_)⟩;exact⟨_,rfl,rfl,q⟩
 |self =>obtain⟨ub,rfl,hub⟩:=id hu;refine⟨_,rfl,rfl,_,rfl,gC (by intro z;cases z) ?_⟩;refine⟨_,rfl,_,rfl,ub,vb,[o.1,o.2],[o.1,o.2],rfl,rfl,hub,hvb,_,rfl,?_⟩;rw[decide_eq_true rfl];refine aF ?_;exact⟨_,rfl,rfl,q⟩
 |@up m n it _ hn hl un =>
  obtain⟨ub,rfl,hub⟩:=id hu;obtain⟨iv,e1,ia,uv,pv,rfl,e2,e3,e4⟩:=aH R hl;refine⟨_,rfl,rfl,_,rfl,gC (by intro z;cases z) ?_⟩;refine⟨_,rfl,_,rfl,ub,vb,[n.1,n.2],[o.1,o.2],rfl,rfl,hub,hvb,_,rfl,?_⟩;have:¬ ([n.1,n.2]=[o.1,o.2]):=fun z=>hn (by
   injection z with z1 z2;injection z2 with z2 _;exact Prod.ext z1 z2)
  rw[decide_eq_false this];refine ce ?_;refine⟨fun σ H2=>H2=H'/\σ=[some (.ref p),some uv,some (.ref vb)],?_,?_⟩
  ·rintro σ' H2 ⟨rfl,rfl⟩;exact⟨m,Yi m,rfl,uv,it.up,e3,un,rfl⟩
  ·refine⟨_,rfl,p,C,dx,_,_,rfl,h1,T.cl,T.nH,aI _ _,_,rfl,d,.ref ia,rfl,e1▸DGet.t (k:=nk n) h2 hub,?_⟩;exact⟨ia,_,_,_,rfl,rfl,SqT.of e2,at0,rfl,rfl⟩
inductive Sd
 |put (n:Nm)(u:Option Nm)(pl:List Int)(tx:Str)
 |move (n:Nm)(u:Option Nm)(pl:List Int)
def StAt(H:Hp)(st:Addr):Sd->Prop
 |.put n u pl tx=>∃nv uv pv,H st=some (.tup [.str "put",nv,uv,pv,.str tx])/\NameIs H nv (nk n)/\UpAt H uv u/\PlAt H pv pl
 |.move n u pl=>∃nv uv pv,H st=some (.tup [.str "move",nv,uv,pv])/\NameIs H nv (nk n)/\UpAt H uv u/\PlAt H pv pl
theorem StAt.ts{H H':Hp}{st:Addr}{s:Sd}(x:StAt H st s)(t:TS H H'):StAt H' st s:=by
 cases s with
 |put=>obtain⟨nv,uv,pv,h1,h2,h3,h4⟩:=x;exact⟨nv,uv,pv,t _ _ h1,h2.ts' t,h3.ts t,h4.ts t⟩
 |move=>obtain⟨nv,uv,pv,h1,h2,h3,h4⟩:=x;exact⟨nv,uv,pv,t _ _ h1,h2.ts' t,h3.ts t,h4.ts t⟩
def Sd.items:Sd->List Nm
 |.put _ u _ _=>u.toList
 |.move n u _=>n::u.toList
def Sd.news:Sd->List Nm
 |.put n _ _ _=>[n]
 |_=>[]
inductive Bd(ol:Ol):Sd->Option Bool->Prop
 |put {n u pl tx}:Bd ol (.put n u pl tx) none
 |move {n u pl k b}:Und ol n k u b->Bd ol (.move n u pl) (if b=true then some true else none)
inductive Ap(ol:Ol):Sd->Ol->Prop
 |put {n u pl tx}:Ap ol (.put n u pl tx) (bh ol n ⟨u,pl,tx,false,none,false⟩)
 |move {n u pl it}:look ol n=some it->Ap ol (.move n u pl) (bh ol n { it with up:=u,pl:=pl })
theorem yb{H:Hp}{st:Addr}{ol:Ol}{s:Sd}{r:Option Bool}(hs:StAt H st s)(hb:Bd ol s r) :
  (r=none/\∃wd ps,H st=some (.tup (.str wd::ps))/\V.str wd≠V.str "move"/\V.str wd≠V.str "join"/\V.str wd≠V.str "part") \/
  ∃n u k b nv uv pv,H st=some (.tup [.str "move",nv,uv,pv])/\NameIs H nv (nk n)/\UpAt H uv u/\Und ol n k u b/\r=if b=true then some true else none:=by
 cases hb with
 |put=>obtain⟨nv,uv,pv,h1,_⟩:=hs;exact .inl ⟨rfl,_,_,h1,by decide +kernel,by decide +kernel,by decide +kernel⟩
 |move un=>obtain⟨nv,uv,pv,h1,h2,h3,_⟩:=hs;exact .inr ⟨_,_,_,_,nv,uv,pv,h1,h2,h3,un,rfl⟩
def my(C cB cF:Addr):Sp:=fun vs H Q E=>∃(p d g st:Addr) (ol:Ol) (s:Sd) (r:Option Bool),vs=[.ref p,.ref st]/\OlAt C H p d g ol/\StAt H st s/\Bd ol s r/\(∀n it,look ol n=some it->it.tx.length<=400)/\(r=some true->E (.ref cB) none H)/\(r=some false->E (.ref cF) none H)/\(r=none->Q .non H)
theorem fJ{f C cB cF:Addr}{fd:FuncData}(F:Fun K "check_bounds" "Plain.check_bounds" bR f fd)(T:Txt K C)(M_at_or_beneath:MFn P w K mg base 1 C "at_or_beneath" ["self","one","other"] (lO C)){tk:Tok}(g_TEXT:mg "TEXT" = some (.int 2 tk))(z_len:mg "len" = none)(x_Beneath:ExCls K cB)(g_Beneath:mg "Beneath" = some (.ref cB))(x_Far:ExCls K cF)(g_Far:mg "Far" = some (.ref cF)):FnOk P w K mg base (CXr P w) 2 f fd ["self","step"] (my C cB cF):=by
 refine F.okX fV (fun vs H Q E h=>?_) (fun cdv A outer s H vs Q E hr h=>?_)
 ·obtain⟨p,d,g,st,ol,sd,r,rfl,_⟩:=h;rfl
 obtain⟨p,d,g,st,ol,sd,r,rfl,O,hs,hb,htx,q1,q2,q3⟩:=h;obtain⟨kvs,S,R⟩:=id O;obtain⟨⟨dx,h1⟩,h2,h3,h4⟩:=id S;refine⟨_,(b_c (bf (t_w (dr (aq eN (au aC (q_v 1) ah) bC) (cM (dZ (cC M_at_or_beneath (hr.mono (by decide)) (q_v 0) (q_a (au aC (q_v 1) ah) (q_a (au aC (q_v 1) ah) am))))))) (b_1 (iW (dg bP) rfl x_Beneath g_Beneath (q_a bC am))) b_0)
   (b_c (bf (t_w (dr (aq eN (au aC (q_v 1) ah) bC) (cM (dZ (cC M_at_or_beneath (hr.mono (by decide)) (q_v 0) (q_a (au aC (q_v 1) ah) (q_a (au aC (q_v 1) ah) am))))))) (b_1 (iW (dg bP) rfl x_Beneath g_Beneath (q_a bC am))) b_0)
   (b_1 (bf (t_w (dr (aq eN (au aC (q_v 1) ah) bC) (cM (aq oO (au aC (q_v 1) ah) (q_B zX z_len y4 (q_a (au aC (bn hr.units (bA (q_v 0)) (au aC (q_v 1) ah)) (iw g_TEXT)) am)))))) (b_1 (iW (dg bP) rfl x_Far g_Far (q_a bC am))) b_0)))),?_⟩
 try rw[cxK]
 rcases yb hs hb with⟨hr',wd,ps,hst,n1,n2,n3⟩|⟨n,u,k,b,nv,uv,pv,hst,hn,hu,un,hr'⟩
 ·refine(vix rfl (SqT.of hst) at0 ⟨rfl,_,rfl,fG n1 (aF ?_)⟩);refine(vix rfl (SqT.of hst) at0 ⟨rfl,_,rfl,fG n2 (aF ?_)⟩);exact(vix rfl (SqT.of hst) at0 ⟨rfl,_,rfl,fG n3 (aF (q3 hr'))⟩)
 ·refine(vix rfl (SqT.of hst) at0 ⟨rfl,_,rfl,vI ?_⟩);refine⟨_,rfl,p,dx,_,rfl,h1,gI _ _,vix rfl (SqT.of hst) at2 (vix rfl (SqT.of hst) at1 ⟨p,d,g,ol,uv,nv,u,n,k,b,rfl,O,hu,hn,un,_,rfl,?_⟩)⟩;cases b with
  |true=>exact ce ⟨sz rfl,q1 hr'⟩
  |false =>refine aF ?_;refine(vix rfl (SqT.of hst) at0 ⟨rfl,_,rfl,fG (by decide +kernel) (aF ?_)⟩);exact(vix rfl (SqT.of hst) at0 ⟨rfl,_,rfl,fG (by decide +kernel) (aF (q3 hr'))⟩)
theorem wJ{β:Type}(l:As β)(n:Nm)(i:β):(bh l n i).length<=l.length+1:=by
 unfold bh;split
 ·rw[Zi];omega
 ·rw[Zn];exact Ze _
abbrev jb:Stmt:=aO (top 15) 6
def dk:Option Nm->PyData
 |none=>.none
 |some n=>.tuple [.int n.1,.int n.2]
theorem fX{H:Hp}{v:V}{u:Option Nm}(h:UpAt H v u):Dt H (dk u) v/\(dk u).canLay0=true/\(dk u).depth<=1:=by
 cases u with
 |none =>obtain rfl:v=.non:=h;exact⟨by simp only[dk,Dt],rfl,by decide⟩
 |some n =>obtain⟨b,rfl,e⟩:=h;refine⟨?_,by simp[dk,PyData.canLay0,PyData.canLayAll0],by simp[dk,PyData.depth,PyData.depthAll]⟩;simp only[dk,Dt,DtAll];exact⟨b,_,rfl,.inl e,_,_,rfl,rfl,_,_,rfl,rfl,rfl⟩
theorem uR(u v:Option Nm):PyData.eqv (dk u) (dk v)=decide (u=v):=by
 cases u with
 |none=>cases v<;>rfl
 |some n =>
  cases v with
  |none=>rfl
  |some m =>
   have:=gi [n.1,n.2] [m.1,m.2];show PyData.eqv (.tuple ([n.1,n.2].map PyData.int)) (.tuple ([m.1,m.2].map PyData.int))=_;rw[this,decide_eq_decide];constructor
   ·intro z;injection z with z1 z2;injection z2 with z2 _;exact Yy some (Prod.ext z1 z2)
   ·intro z;rw[Zs z]
theorem vO{β:Type}{l:As β}{n m:Nm}{i:β}:(look (l.map fun p=>if p.1=n then(p.1,i)else p) m)=if m=n then(look l m).map (fun _=>i)else look l m:=by
 induction l with
 |nil=>split<;>rfl
 |cons p l ih =>
  rw[Zz];unfold look;by_cases c:p.1=n
  ·rw[if_pos c];by_cases c2:p.1=m
   ·rw[if_pos c2,if_pos c2,if_pos (c2▸c)];rfl
   ·rw[if_neg c2,if_neg c2,ih]
  ·rw[if_neg c];by_cases c2:p.1=m
   ·rw[if_pos c2,if_pos c2,if_neg (fun z=>c (c2.trans z))]
   ·rw[if_neg c2,if_neg c2,ih]
theorem vN{β:Type}{l:As β}{n m:Nm}{i:β}(h:look l n=none):look (l++[(n,i)]) m=if m=n then some i else look l m:=by
 induction l with
 |nil =>
  show(if n=m then some i else none)=_;by_cases c:n=m
  ·rw[if_pos c,if_pos c.symm]
  ·rw[if_neg c,if_neg fun z=>c z.symm];rfl
 |cons p l ih =>
  rw[List.cons_append];unfold look at h ⊢;by_cases c:p.1=n
  ·rw[if_pos c]at h;cases h
  ·rw[if_neg c]at h;by_cases c2:p.1=m
   ·rw[if_pos c2,if_pos c2,if_neg fun z=>c (c2.trans z)]
   ·rw[if_neg c2,if_neg c2];exact ih h
theorem bu{β:Type}{l:As β}{n m:Nm}{i:β}:look (bh l n i) m=if m=n then some i else look l m:=by
 unfold bh;cases e:look l n with
 |none =>rw[if_neg (by simp)];exact vN e
 |some j =>
  rw[if_pos (show(some j).isSome=true from rfl),vO];by_cases c:m=n
  ·rw[if_pos c,if_pos c,c,e];rfl
  ·rw[if_neg c,if_neg c]
theorem uD{β:Type}{l:As β}{n:Nm}{i j:β}(h:look l n=some j):(bh l n i).length=l.length:=by unfold bh;rw[h,if_pos (show(some j).isSome=true from rfl),Zi]
abbrev iB:Stmt:=aO (top 15) 7
def All3(H:Hp)(kvs:List (List Key×V))(ws:List Str)(ps:List V)(bs:List Bool):Prop:=∀(i:Nat) (w:Str) (v:V) (b:Bool),ws[i]?=some w->ps[i]?=some v->bs[i]?=some b->PartB H kvs w v b
theorem All3.nil{H:Hp}{kvs:List (List Key×V)}:All3 H kvs [] [] []:=fun i w v b h=>by simp at h
theorem All3.cons{H:Hp}{kvs:List (List Key×V)}{ws:List Str}{ps:List V}{bs:List Bool}{w:Str}{v:V}{b:Bool}(h:PartB H kvs w v b)(t:All3 H kvs ws ps bs):All3 H kvs (w::ws) (v::ps) (b::bs):=fun i w' v' b' h1 h2 h3=>by
 cases i with
 |zero=>cases h1;cases h2;cases h3;exact h
 |succ i=>exact t i _ _ _ h1 h2 h3
def rd(ws:List Str)(bs:List Bool):Prop:=∀(i:Nat) (w:Str),ws[i]?=some w->isI w->bs[i]?=some true
def mV(ws:List Str)(bs:List Bool):Prop:=∀i:Nat,ws[i]?=some "new"->bs[i]?=some true
theorem oo:rd [] []↔True:=⟨fun _=>trivial,fun _ i w h=>by simp at h⟩
theorem md{w:Str}{b:Bool}{ws:List Str}{bs:List Bool}:rd (w::ws) (b::bs)↔(isI w->b=true)/\rd ws bs:=by
 constructor
 ·intro h;exact⟨fun z=>Zs (h 0 w rfl z),fun i w' e z=>h (i+1) w' e z⟩
 ·rintro⟨h1,h2⟩ i w' e z;cases i with
  |zero=>cases e;exact Yy some (h1 z)
  |succ i=>exact h2 i w' e z
theorem me:mV [] []↔True:=⟨fun _=>trivial,fun _ i h=>by simp at h⟩
theorem jZ{w:Str}{b:Bool}{ws:List Str}{bs:List Bool}:mV (w::ws) (b::bs)↔(w="new"->b=true)/\mV ws bs:=by
 constructor
 ·intro h;exact⟨fun z=>Zs (h 0 (Yy some z)),fun i e=>h (i+1) e⟩
 ·rintro⟨h1,h2⟩ i e;cases i with
  |zero=>exact Yy some (h1 (Zs e))
  |succ i=>exact h2 i e
def upB(ol:Ol):Option Nm->Bool
 |none=>true
 |some n=>(look ol n).isSome
section
variable{H:Hp}{kvs:List (List Key×V)}{ol:Ol}{v:V}{n:Nm}{u:Option Nm}
theorem AU(R:Rows H kvs ol)(h:NameIs H v (nk n)):PartB H kvs "new" v (!(look ol n).isSome):=⟨fun _=>⟨nk n,h,by rw[lF R]⟩,fun z=>absurd z (by decide +kernel)⟩
theorem yK(R:Rows H kvs ol)(h:NameIs H v (nk n)):PartB H kvs "item" v (look ol n).isSome:=⟨fun z=>absurd z (by decide +kernel),fun _=>.inr ⟨nk n,h,by rw[lF R]⟩⟩
theorem xw(R:Rows H kvs ol)(h:UpAt H v u):PartB H kvs "up" v (upB ol u):=⟨fun z=>absurd z (by decide +kernel),fun _=>by
 cases u with
 |none=>exact .inl ⟨h,rfl⟩
 | some n=>exact .inr ⟨nk n,h,by rw[lF R];rfl⟩⟩
theorem oR{w:Str}(h1:w≠"new")(h2:¬isI w):PartB H kvs w v true:=⟨fun z=>absurd z h1,fun z=>absurd z h2⟩
end
theorem Am:isI "item":=.inl rfl
theorem Ao:isI "up":=.inr rfl
theorem fY{w:Str}(h:w="place"\/w="text"\/w="truth"\/w="whom"\/w="at"):w≠"new"/\¬isI w:=by rcases h with rfl|rfl|rfl|rfl|rfl<;>exact⟨by decide +kernel,by unfold isI;decide +kernel⟩
theorem CH:¬isI "new":=by unfold isI;decide +kernel
theorem wY:¬(("item":Str)="new")/\¬(("up":Str)="new"):=by decide +kernel
theorem wL{H:Hp}{kvs:List (List Key×V)}{ol:Ol}{st:Addr}{s:Sd}(R:Rows H kvs ol)(h:StAt H st s):∃(wd:Str) (ws:List Str) (ps:List V) (bs:List Bool),H st=some (.tup (.str wd::ps))/\PyProof.Rows.KTD.datumAt wd ST=some (tw ws)/\ws.length=ps.length/\bs.length=ps.length/\All3 H kvs ws ps bs /\
  ((∀n∈s.news,look ol n=none)->mV ws bs)/\((∀n∈s.items,(look ol n).isSome=true)↔rd ws bs):=by
 have wp:=fY (w:="place") (.inl rfl);have wt:=fY (w:="text") (.inr (.inl rfl));have wr:=fY (w:="truth") (.inr (.inr (.inl rfl)));have ww:=fY (w:="whom") (.inr (.inr (.inr (.inl rfl))));have wa:=fY (w:="at") (.inr (.inr (.inr (.inr rfl))));cases s with
 |put n u pl tx =>
  obtain⟨nv,uv,pv,h1,h2,h3,h4⟩:=h;refine⟨_,_,_,[!(look ol n).isSome,upB ol u,true,true],h1,rfl,rfl,rfl,.cons (AU R h2) (.cons (xw R h3) (.cons (oR wp.1 wp.2) (.cons (oR wt.1 wt.2) .nil))),?_,?_⟩
  ·intro z;simp[jZ,me,wY.2,wp.1,wt.1,z n (by simp[Sd.news])]
  ·cases u<;>simp[md,oo,Ao,CH,wp.2,wt.2,Sd.items,upB]
 |move n u pl =>
  obtain⟨nv,uv,pv,h1,h2,h3,h4⟩:=h;refine⟨_,_,_,[(look ol n).isSome,upB ol u,true],h1,rfl,rfl,rfl,.cons (yK R h2) (.cons (xw R h3) (.cons (oR wp.1 wp.2) .nil)),?_,?_⟩
  ·intro _;simp[jZ,me,wY.1,wY.2,wp.1]
  ·cases u<;>simp[md,oo,Am,Ao,wp.2,Sd.items,upB]
def qQ(C cN cB cF:Addr):Sp:=fun vs H Q E=>∃(p d g st:Addr) (ol:Ol) (s:Sd),vs=[.ref p,.ref st]/\OlAt C H p d g ol/\ol.length<=300/\StAt H st s/\(∀n∈s.news,look ol n=none)/\(∀n it,look ol n=some it->it.tx.length<=400) /\
 ((¬ (∀ n∈s.items,(look ol n).isSome=true)/\∀ H' dd,Same H H'->E (.ref cN) (some dd) H') \/
  ((∀ n∈s.items,(look ol n).isSome=true)/\∃ r,Bd ol s r/\(r=some true->∀ H',Same H H'->E (.ref cB) none H')/\(r=some false->∀ H',Same H H'->E (.ref cF) none H')/\(r=none->∀ H' ol',But d H H'->OlAt C H' p d g ol'->Ap ol s ol'->Q .non H')))
abbrev eX:Stmt:=aO (top 15) 1
abbrev nF:List Str:=["self","step","word"]
theorem hU:FnScope nF ["self","step"] (ai eX):=⟨rfl,rfl,rfl,by decide +kernel,rfl,by decide +kernel,by decide +kernel⟩
theorem lC{f C cT cN cB cF:Addr}{fd:FuncData}(F:Fun K "step" "Plain.step" eX f fd)(MX_check_names:MFnX P w K mg base 3 C "check_names" ["self","step"] (pr C cT cN))(MX_check_bounds:MFnX P w K mg base 2 C "check_bounds" ["self","step"] (my C cB cF))(M_bring_in:MFn P w K mg base 1 C "bring_in" ["self","name","up","place","text"] (qK C))(M_part_item:MFn P w K mg base 1 C "part_item" ["self","name","at","new","place"] (fun _ _ _ _=>False))(M_join_items:MFn P w K mg base 1 C "join_items" ["self","name","other"] (fun _ _ _ _=>False))(M_change:MFn P w K mg base 1 C "change" ["self","name","first","values"] (pq C)){dd:Addr}(g_FIRST_CHANGED:mg "FIRST_CHANGED" = some (.ref dd))(TF:Tab K dd FC):FnOk P w K mg base (CXr P w) 4 f fd ["self","step"] (qQ C cN cB cF):=by
 refine F.okX hU (fun vs H Q E h=>?_) (fun cdv A outer s H vs Q E hr h=>?_)
 ·obtain⟨p,d,g,st,ol,sd,rfl,_⟩:=h;rfl
 obtain⟨p,d,g,st,ol,sd,rfl,O,l3,hs,hnew,htx,h⟩:=h;obtain⟨kvs,S,R⟩:=id O;obtain⟨⟨dx,h1⟩,h2,h3,h4⟩:=id S;have lk:=gO R;obtain⟨wd,ws,ps,bs,hst,dat,l1,l2,a3,nok,iff⟩:=wL R hs;refine⟨_,(b_c (bV (lD MX_check_names (xu bP) (hr.mono (by decide)) (q_v 0) (q_a (q_v 1) am)))
   (b_c (bV (lD MX_check_bounds (xu bP) (hr.mono (by decide)) (q_v 0) (q_a (q_v 1) am)))
   (b_c (aD (i:=2) hU.nd (au aC (q_v 1) ah))
   (b_1 (bf (aq eN (q_v 2) bC) (b_1 (bV (cC M_bring_in (hr.mono (by decide)) (q_v 0) (q_a (au aC (q_v 1) ah) (q_a (au aC (q_v 1) ah) (q_a (au aC (q_v 1) ah) (q_a (au aC (q_v 1) ah) am))))))) (b_1 (bf (aq eN (q_v 2) bC) (b_1 (bV (cC M_part_item (hr.mono (by decide)) (q_v 0) (q_a (au aC (q_v 1) ah) (q_a (au aC (q_v 1) ah) (q_a (au aC (q_v 1) ah) (q_a (au aC (q_v 1) ah) am))))))) (b_1 (bf (aq eN (q_v 2) bC) (b_1 (bV (cC M_join_items (hr.mono (by decide)) (q_v 0) (q_a (au aC (q_v 1) ah) (q_a (au aC (q_v 1) ah) am))))) (b_1 (bf (aq eN (q_v 2) bC) (b_1 qI) (b_1 (bV (cC M_change (hr.mono (by decide)) (q_v 0) (q_a (au aC (q_v 1) ah) (q_a (au xQ (Bp g_FIRST_CHANGED) (q_v 2)) (q_a (dQ cZ (q_v 1) (dC ah) eQ) am))))))))))))))))),?_⟩
 try rw[cxK]
 refine⟨_,rfl,p,dx,_,rfl,h1,gI _ _,_,rfl,p,d,g,st,kvs,[],wd,ws,ps,bs,rfl,S,hst,dat,l1,l2,a3,fun⟨i,e1,e2⟩=>?_,fun _=>⟨fun all H1 s1=>?_,fun i w' v e1 e2 hi e3 pre H' dd sm hd=>?_⟩⟩
 ·rw[nok hnew i e1]at e2;cases e2
 ·rcases h with⟨hm,q⟩|⟨hall,r,hb,qB,qF,q⟩
  ·exact absurd (iff.mpr all) hm
  have hs1:=hs.ts (Same.ts s1);refine⟨_,rfl,p,dx,_,rfl,s1 _ _ h1,gI _ _,_,rfl,p,d,g,st,ol,sd,r,rfl,O.same s1,hs1,hb,htx,fun e=>qB e H1 s1,fun e=>qF e H1 s1,fun e=>?_⟩;have q':=q e;have S1:=S.same s1;have R1:=R.ts (Same.ts s1);have y1:=s1 _ _ h1;have ch:∀{n:Nm} {it:It} {ia:Addr} {xs:List V},look ol n=some it->∃ia uv pv,bo kvs (nk n)=some (.ref ia)/\H1 ia=some (.tup [uv,pv,.str it.tx,.bl it.dn,whV it.wh,.bl it.fo])/\UpAt H1 uv it.up/\PlAt H1 pv it.pl:=fun{n it _ _} hl=>by obtain⟨iv,e1,ia,uv,pv,rfl,e2,e3,e4⟩:=aH R1 hl;exact⟨ia,uv,pv,e1,e2,e3,e4⟩
  cases sd with
  |put n u pl tx =>obtain⟨nv,uv,pv,hst,hn,hu,hp⟩:=hs1;have e1:=SqT.of (K:=K) hst;refine(vix rfl e1 at0 ?_);refine⟨_,rfl,rfl,_,rfl,vI ?_⟩;exact⟨_,rfl,p,dx,_,rfl,y1,gI _ _,vix rfl e1 at1 (vix rfl e1 at2 (vix rfl e1 at3 (vix rfl e1 at4 ⟨p,d,g,kvs,[],nv,uv,pv,.str tx,nk n,rfl,S1,hn,by omega,fun t H2 s2 e2=>q' _ _ (But.put (s1.trans s2) _) (ud S1 R1 s2 ⟨t,uv,pv,rfl,e2,hu.ts (Same.ts s2),hp.ts (Same.ts s2)⟩) .put⟩)))⟩
  |move n u pl =>obtain⟨nv,uv,pv,hst,hn,hu,hp⟩:=hs1;have e1:=SqT.of (K:=K) hst;obtain⟨it,hl⟩:=YG.mp (hall n (by simp[Sd.items]));obtain⟨ia,uw,pw,c1,c2,c3,c4⟩:=ch (ia:=st) (xs:=[]) hl;refine(vix rfl e1 at0 ?_);refine⟨_,rfl,rfl,_,rfl,fG (by decide +kernel) ?_⟩;refine⟨_,rfl,rfl,_,rfl,fG (by decide +kernel) ?_⟩;refine⟨_,rfl,rfl,_,rfl,fG (by decide +kernel) ?_⟩;refine⟨_,rfl,rfl,_,rfl,fG (by decide +kernel) ?_⟩;refine⟨_,rfl,p,dx,_,rfl,y1,gI _ _,vix rfl e1 at1 ⟨_,rfl,dd,"move",FC,_,rfl,rfl,TF,rfl,?_⟩⟩;refine⟨_,rfl,_,rfl,st,_,rfl,hst,fun va H2 s2 e2=>?_⟩;exact⟨p,d,g,ia,va,kvs,[],nv,nk n,0,_,[uv,pv],rfl,S1.same s2,hn.same s2,by omega,c1,s2 _ _ c2,e2,show 0+2<=6 by decide,show 6<=100 by decide,fun t H3 s3 e3=>q' _ _ (But.put (s1.trans (s2.trans s3)) _) (ud (it:={ it with up:=u,pl:=pl }) S1 R1 (s2.trans s3) ⟨t,uv,pv,rfl,e3,hu.ts (Same.ts (s2.trans s3)),hp.ts (Same.ts (s2.trans s3))⟩) (.move hl)⟩
 ·rcases h with⟨hm,q⟩|⟨hall,_⟩
  ·exact q H' dd sm
  ·rw[iff.mp hall i w' e1 hi]at e3;cases e3
abbrev dP:Str:=(("Plain.sorted_names":Str)++".<locals>.")++"<lambda>"
def C2:Stmt->Expr
 |.Return (some e) _=>e
 |_=>.Name "" ⟨0,0,0,0⟩
def CV:Expr->Expr
 |.Call _ _ (k::_) _=>k.value
 |e=>e
def CU:Expr->Expr
 |.Lambda _ b _ _=>b
 |e=>e
def CW:Expr->Scope
 |.Lambda _ _ s _=>s
 |_=>default
def eK:Expr->Pos
 |.Lambda _ _ _ p=>p
 |_=>⟨0,0,0,0⟩
abbrev bw:Stmt:=aO (top 15) 15
abbrev gd:List Str:=["self"]
theorem fW:FnScope gd ["self"] (ai bw):=⟨rfl,rfl,rfl,by decide +kernel,rfl,by decide +kernel,by decide +kernel⟩
abbrev dA:Expr:=CV (C2 ((aT bw).getD 0 (.Pass ⟨0,0,0,0⟩)))
def kyP(x:Nm×It):ZKey:=.p x.2.pl [x.1.1,x.1.2]
def BG(C:Addr)(kv:V):Sp:=fun vs H Q _=>∃(p d g:Addr) (ol:Ol) (v:V) (n:Nm) (it:It),kv=.ref p/\vs=[v]/\OlAt C H p d g ol/\NameIs H v (nk n)/\look ol n=some it/\∀kv' H',Same H H'->(kyP (n,it)).at H' kv'->Q kv' H'
theorem bD{C:Addr}{tk:Tok}(T:Txt K C)(g_PLACE:mg "PLACE" = some (.int 1 tk)):LamOkX P w K mg base 1 dP (CU dA) (CW dA) "name" "self" (BG C):=by refine⟨⟨rfl,rfl,rfl,rfl,rfl,by decide +kernel,by decide +kernel,by decide⟩,fun f c' c kv A outer s H v Q hr h=>?_⟩;obtain⟨p,d,g,ol,v',n,it,rfl,e,⟨kvs,S,R⟩,hn,hl,q⟩:=h;cases e;obtain⟨⟨dx,h1⟩,h2,h3,h4⟩:=id S;obtain⟨nb,rfl,hnb⟩:=id hn;obtain⟨iv,e1,ia,uv,pv,rfl,e2,e3,⟨pb,rfl,e4⟩⟩:=aH R hl;refine⟨_,(bO (q_a (au (pF (K:=K) rfl) (bn hr.units (ur (K:=K) rfl (q_v 1)) (q_v 0)) (iw g_PLACE)) (q_a (q_v 0) am))),?_⟩;refine⟨_,rfl,p,C,dx,_,_,rfl,h1,T.cl,T.nH,aI _ _,_,rfl,d,.ref ia,rfl,e1▸DGet.t (k:=nk n) h2 hnb,?_⟩;refine⟨ia,_,_,_,rfl,rfl,SqT.of e2,at1,_,rfl,sz rfl,fun t gt=>?_⟩;have wt:=aj gt (.tup [.ref pb,.ref nb]);exact q _ _ wt ⟨t,pb,nb,rfl,af,wt _ _ e4,wt _ _ hnb⟩
def I0:Nm×It:=((0,0),⟨none,[],"",false,none,false⟩)
def leP(x y:Nm×It):Prop:=HT.lexLt (kyP y).nums (kyP x).nums=false
theorem wK{ol:Ol}{p:Array Nat}(hp:POk ol.length p)(hs:LS (fun i j=>HT.lexLt (((ol.map kyP).map ZKey.nums).getD i []) (((ol.map kyP).map ZKey.nums).getD j [])) p ol.length):(p.toList.map fun i=>ol.getD i I0).Pairwise leP/\(p.toList.map fun i=>ol.getD i I0).Perm ol:=by
 have ep:p.toList.Perm (List.range ol.length):=by have:=Array.perm_iff_toList_perm.mp hp;simpa using this
 refine⟨?_,?_⟩
 ·rw[YQ];have hz:p.size=ol.length:=by have:=hp.size_eq;simpa using this
  rw[y8];intro i j hi hj hij;rw[Zk]at hi hj;have lx:=(hs i j hij (by omega)).1;have e1:gA p i=p.toList[i]'(by rw[Zk];exact hi):=by rw[aA,Zd,Zb (by rw[Zk];exact hi)];rfl
  have e2:gA p j=p.toList[j]'(by rw[Zk];exact hj):=by rw[aA,Zd,Zb (by rw[Zk];exact hj)];rfl
  have m1:p.toList[i]'(by rw[Zk];exact hi)<ol.length:=Yr.mp (ep.mem_iff.mp (Z7 _));have m2:p.toList[j]'(by rw[Zk];exact hj)<ol.length:=Yr.mp (ep.mem_iff.mp (Z7 _));dsimp only at lx;rw[e1,e2]at lx;generalize p.toList[i]'(by rw[Zk];exact hi)=a at *;generalize p.toList[j]'(by rw[Zk];exact hj)=b at *;have ga:∀k,k<ol.length->((ol.map kyP).map ZKey.nums).getD k []=(kyP (ol.getD k I0)).nums:=fun k hk=>by simp[hk]
  rw[ga a m1,ga b m2]at lx;exact lx
 ·have:=ep.map fun i=>ol.getD i I0;have e:((List.range ol.length).map fun i=>ol.getD i I0)=ol:=by refine List.ext_getElem (by simp) fun i h1 h2=>?_;simp[h2]
  rw[e]at this;exact this
abbrev KsAt(H:Hp)(M:Ol)(ks:List V):Prop:=Paired (fun x v=>NameIs H v (nk x.1)) M ks
theorem KsAt.ts{H H':Hp}{M:Ol}{ks:List V}(x:KsAt H M ks)(s:TS H H'):KsAt H' M ks:=Paired.mapP x fun _ _ z=>z.ts' s
theorem mZ{H H':Hp}{kvs:List (List Key×V)}{ol:Ol}{ks:List V}(x:dI H kvs ks)(r:Rows H' kvs ol):KsAt H ol ks:=by
 induction x generalizing ol with
 |nil=>cases r;exact .nil
 |cons h _ ih =>
  cases r with
  |cons a b =>obtain⟨c,rfl,hc⟩:=h;exact .cons ⟨c,rfl,by rw[<-a.1];exact hc⟩ (ih b)
theorem cY{H:Hp}{M:Ol}{ks:List V}(x:KsAt H M ks):∀(i:Nat) (v:V),ks[i]?=some v->∃m,M[i]?=some m/\NameIs H v (nk m.1):=by
 induction x with
 |nil=>intro i v h;simp at h
 |cons h _ ih =>
  intro i v hv;cases i with
  |zero=>cases hv;exact⟨_,rfl,h⟩
  |succ i=>exact ih i v hv
theorem qh{H:Hp}{M:Ol}{ks:List V}(x:KsAt H M ks):∀(l:List Nat),(∀i∈l,i<M.length)->KsAt H (l.map fun i=>M.getD i I0) (l.map fun i=>ks.getD i .non):=fun l=>by
 induction l with
 |nil=>intro _;exact .nil
 |cons i l ih =>
  intro h;have hi:=h i Zr;have hk:i<ks.length:=by rw[<-Zy x];exact hi
  obtain⟨m,hm,hn⟩:=cY x i _ (Zb hk);refine .cons ?_ (ih fun j hj=>h j (Zh _ hj));dsimp only;rw[Zd,Zd,hm,Zb hk];exact hn
theorem dY{T:Addr}{H H':Hp}{q:Str}{pos:Pos}(s:SameT T H H')(tab:aQ q T pos H):TS H H':=fun a zs e=>s _ _ e fun z=>by obtain⟨ps,e1,_⟩:=tab;rw[z,e1]at e;cases e
theorem PlainAt.sameT{C T:Addr}{H H':Hp}{p d g:Addr}{kvs gvs:List (List Key×V)}{q:Str}{pos:Pos}(x:PlainAt C H p d g kvs gvs)(s:SameT T H H')(tab:aQ q T pos H):PlainAt C H' p d g kvs gvs:=by
 obtain⟨⟨dx,h1⟩,h2,h3,h4⟩:=x;obtain⟨ps,e1,_⟩:=tab;refine⟨⟨dx,s _ _ h1 fun z=>?_⟩,s _ _ h2 fun z=>?_,s _ _ h3 fun z=>?_,h4⟩
 ·rw[z,e1]at h1;cases h1
 ·rw[z,e1]at h2;cases h2
 ·rw[z,e1]at h3;cases h3
theorem OlAt.sameT{C T:Addr}{H H':Hp}{p d g:Addr}{ol:Ol}{q:Str}{pos:Pos}(x:OlAt C H p d g ol)(s:SameT T H H')(tab:aQ q T pos H):OlAt C H' p d g ol:=by obtain⟨kvs,a,b⟩:=x;exact⟨kvs,a.sameT s tab,b.ts (dY s tab)⟩
theorem aS{β:Type}{l:As β}(nd:(l.map (·.1)).Nodup){i:Nat}{x:Nm×β}(h:l[i]?=some x):look l x.1=some x.2:=by
 induction l generalizing i with
 |nil=>simp at h
 |cons y r ih =>
  rw[Zz,ZT]at nd;unfold look;cases i with
  |zero=>cases h;rw[if_pos rfl]
  |succ i =>have h:r[i]?=some x:=h;rw[if_neg fun(z:y.1=x.1)=>nd.1 (by rw[z];exact List.mem_map_of_mem (ZK h))];exact ih nd.2 h
def jJ(C T:Addr):Sp:=fun vs H Q _=>∃(p d g:Addr) (ol:Ol),vs=[.ref p]/\OlAt C H p d g ol/\ol.length<=300/\(ol.map (·.1)).Nodup/\aQ dP T (eK dA) H /\
 ∀(D:Addr) (H':Hp) (M:Ol) (ks:List V),M.Perm ol->M.Pairwise leP->SameT T H H'->aQ dP T (eK dA) H'->H D=none->H' D=some (.lst ks)->KsAt H' M ks->Q (.ref D) H'
theorem iq{H H':Hp}{D:Addr}{T:Addr}(s:SameT T H H')(h:H' D=none)(hT:∃o,H' T=some o):H D=none:=by
 cases e:H D with
 |none=>rfl
 |some o =>
  by_cases z:D=T
  ·obtain⟨o',ho⟩:=hT;rw[z,ho]at h;cases h
  ·rw[s _ _ e z]at h;cases h
theorem aX{q:Str}{T:Addr}{pos:Pos}{H H':Hp}(h:aQ q T pos H)(s:Same H H'):aQ q T pos H':=by obtain⟨ps,e1,e2,e3⟩:=h;exact⟨ps,s _ _ e1,e2,e3.imp id fun⟨c,z1,z2⟩=>⟨c,z1,s _ _ z2⟩⟩
theorem fT{f C0 c0 T:Addr}{fd:FuncData}{tk:Tok}(F:Fun K "sorted_names" "Plain.sorted_names" bw f fd)(hcode:fd.code=.ref c0)(C:CodeHd base c0 T)(B:Blt base mg)(X_Plain:Txt K C0)(g_PLACE:mg "PLACE" = some (.int 1 tk))(z_sorted:mg "sorted" = none):FnOk P w K mg base CX0 5 f fd ["self"] (jJ C0 T):=by
 have bD:=bD (P:=P) (w:=w) (K:=K) (mg:=mg) (base:=base) X_Plain g_PLACE;refine F.okC hcode fW (fun vs H Q E h=>?_) (fun A outer s H vs Q E hr h=>?_)
 ·obtain⟨p,d,g,ol,rfl,_⟩:=h;rfl
 obtain⟨p,d,g,ol,rfl,hO,hl,nd,tab,q⟩:=h;obtain⟨kvs,S,R⟩:=id hO;obtain⟨⟨dx,h1⟩,h2,h3,h4⟩:=id S;refine⟨_,(b_1 (aG (wz (j:=0) rfl z_sorted rfl C B (bD) (hr.mono (by decide)) (q_a (bA (q_v 0)) am) rfl rfl rfl rfl))),?_⟩;refine⟨_,rfl,p,C0,dx,_,_,rfl,h1,X_Plain.cl,X_Plain.nH,aI _ _,d,kvs,.ref p,rfl,rfl,h2,tab,fun ks H2 sT tab2 kat=>?_⟩;have O2:=hO.sameT sT tab;have ka:=mZ kat R;have lk:ks.length=ol.length:=(Zy ka).symm;refine⟨by omega,ol.map kyP,by rw[Zi,lk],fun k hk=>?_,fun i v key H' hv hk sm R' kR=>?_,fun pp H3 D hp hs sm gD=>?_⟩
 ·obtain⟨x,_,rfl⟩:=ZP.mp hk;exact⟨_,_,rfl⟩
 ·obtain⟨m,hm,hn⟩:=cY ka i v hv;rw[ZG,hm]at hk;cases hk;exact⟨p,d,g,ol,v,m.1,m.2,rfl,rfl,O2.same sm,hn.ts' (fun a zs e=>sm _ _ e),aS nd hm,fun kv' H'' s' a=>kR kv' H'' s' a⟩
 ·rw[lk]at hp hs;obtain⟨so,pe⟩:=wK hp hs;have pl:∀i∈pp.toList,i<ol.length:=fun i hi=>by have:=(hp.mem_iff).mp (YF.mp hi);simpa using this
  have wD:=aj gD (.lst (pp.toList.map fun i=>ks.getD i .non));have tab3:=aX tab2 sm;have s03:SameT T H H3:=sT.trans (.of sm);refine q D _ _ _ pe so (s03.trans (.of wD)) (aX tab3 wD) (iq s03 gD ?_) af ((qh (ka.ts fun a zs e=>sm _ _ e) _ pl).ts fun a zs e=>wD _ _ e);obtain⟨ps,e1,_⟩:=tab3;exact⟨_,e1⟩
def grp(M:Ol)(u:Option Nm):Ol:=M.filter fun x=>decide (x.2.up=u)
def upK(u:Option Nm):Option (List Key):=u.map nk
theorem qW{u v:Option Nm}(h:upK u=upK v):u=v:=by
 cases u with
 |none=>cases v with
  |none=>rfl
  |some n=>cases h
 |some m=>cases v with
  |none=>cases h
  |some n=>rw[kd (Zs h)]
structure LowAt(P:Program)(w:World)(H:Hp)(D:Addr)(M:Ol)(kls:List (OK1×Addr)):Prop where
 od:OdAt P w H D kls
 gr:∀e∈kls,∃(u:Option Nm) (ks:List V),okD e.1=upK u/\H e.2=some (.lst ks)/\KsAt H (grp M u) ks
 al:∀m∈M,(aW kls (upK m.2.up)).isSome=true
structure LowI(P:Program)(w:World)(H2 H:Hp)(D:Addr)(M:Ol)(kls:List (OK1×Addr)):Prop where
 lo:LowAt P w H D M kls
 nl:∀e∈kls,H2 e.2=none
 nd:(kls.map (·.2)).Nodup
 le:kls.length<=M.length
theorem UpAt.key{H:Hp}{v:V}{u:Option Nm}(h:UpAt H v u):∃e:OK1,ic H v e/\okD e=upK u:=by
 cases u with
 |none=>exact⟨none,h,rfl⟩
 |some n =>obtain⟨b,rfl,hb⟩:=h;exact⟨some (nk n,b),⟨rfl,hb⟩,rfl⟩
theorem gJ{kls:List (OK1×Addr)}{k:Option (List Key)}{l:Addr}(h:aW kls k=some l):∃e∈kls,okD e.1=k/\e.2=l:=by unfold aW at h;obtain⟨e,he,rfl⟩:=ZZ.mp h;have:=List.find?_some he;exact⟨e,List.mem_of_find?_eq_some he,y0 this,rfl⟩
theorem kg{kls:List (OK1×Addr)}{k:Option (List Key)}{e:OK1}{l:Addr}(h:(aW kls k).isSome=true\/okD e=k):(aW (kls++[(e,l)]) k).isSome=true:=by
 unfold aW at *;rw[List.find?_append];rcases h with h|h
 ·obtain⟨x,hx⟩:=YG.mp h;obtain⟨y,hy,_⟩:=ZZ.mp hx;rw[hy];rfl
 ·cases hf:kls.find? (fun e=>decide (okD e.1=k))with
  |some y=>rfl
  |none=>simp[h]
theorem gw(M:Ol)(m:Nm×It)(u:Option Nm):grp (M++[m]) u=if m.2.up=u then grp M u++[m]else grp M u:=by
 unfold grp;rw[List.filter_append];by_cases h:m.2.up=u
 ·rw[if_pos h,List.filter_cons_of_pos (by simp[h])];rfl
 ·rw[if_neg h,List.filter_cons_of_neg (by simp[h])];simp
theorem KsAt.snoc{H:Hp}{M:Ol}{ks:List V}{m:Nm×It}{v:V}(x:KsAt H M ks)(h:NameIs H v (nk m.1)):KsAt H (M++[m]) (ks++[v]):=by
 induction x with
 |nil=>exact .cons h .nil
 |cons a _ ih=>exact .cons a ih
theorem rX{P:Program}{w:World}{H H':Hp}{D:Addr}{kls:List (OK1×Addr)}(x:OdAt P w H D kls)(h:H' D=H D)(s:TS H H'):OdAt P w H' D kls:=⟨h.trans x.ob,fun e he p hp=>s _ _ (x.ks e he p hp),x.nd⟩
theorem oK{α β:Type}{f:α->β}{l:List α}(nd:(l.map f).Nodup){a b:α}(ha:a∈l)(hb:b∈l)(h:f a=f b):a=b:=by
 induction l with
 |nil=>cases ha
 |cons x r ih =>
  rw[Zz,ZT]at nd;rcases Zq.mp ha with rfl|ha'
  ·rcases Zq.mp hb with rfl|hb'
   ·rfl
   ·exact absurd (by rw[h];exact List.mem_map_of_mem hb') nd.1
  ·rcases Zq.mp hb with rfl|hb'
   ·exact absurd (by rw[<-h];exact List.mem_map_of_mem ha') nd.1
   ·exact ih nd.2 ha' hb'
theorem vS{kls:List (OK1×Addr)}{k:Option (List Key)}(h:aW kls k=none):∀e∈kls,okD e.1≠k:=fun e he z=>by unfold aW at h;rw[Option.map_eq_none_iff,List.find?_eq_none]at h;exact h e he (by simp[z])
theorem LowAt.same{H H':Hp}{D:Addr}{M:Ol}{kls:List (OK1×Addr)}(x:LowAt P w H D M kls)(s:Same H H'):LowAt P w H' D M kls :=
 ⟨⟨s _ _ x.od.ob,fun e he p hp=>s _ _ (x.od.ks e he p hp),x.od.nd⟩,fun e he=>by
  obtain⟨u,ks,h1,h2,h3⟩:=x.gr e he;exact⟨u,ks,h1,s _ _ h2,h3.ts (Same.ts s)⟩,x.al⟩
theorem LowI.same{H2 H H':Hp}{D:Addr}{M:Ol}{kls:List (OK1×Addr)}(x:LowI P w H2 H D M kls)(s:Same H H'):LowI P w H2 H' D M kls:=⟨x.lo.same s,x.nl,x.nd,x.le⟩
theorem rW{P:Program}{w:World}{H:Hp}{D l:Addr}{kls:List (OK1×Addr)}{ks:List V}(h:H D=some (odO P w D kls))(h2:H l=some (.lst ks)):D≠l:=fun z=>by rw[z,h2]at h;unfold odO at h;cases h
theorem dq{H:Hp}{l:Addr}{ks ks':List V}(h:H l=some (.lst ks)):TS H (upd H l (.lst ks')):=fun a zs e=>by rw[ad (fA e h (by intro z;cases z))];exact e
theorem LowI.old{H2 H:Hp}{D l:Addr}{M:Ol}{kls:List (OK1×Addr)}{m:Nm×It}{v:V}(x:LowI P w H2 H D M kls)(hl:aW kls (upK m.2.up)=some l)(hv:NameIs H v (nk m.1)) :
  ∃ks,H l=some (.lst ks)/\ks.length<=M.length/\H2 l=none/\LowI P w H2 (upd H l (.lst (ks++[v]))) D (M++[m]) kls:=by
 obtain⟨e,he,hk,rfl⟩:=gJ hl;obtain⟨u,ks,h1,h2,h3⟩:=x.lo.gr e he;have hu:u=m.2.up:=qW (h1.symm.trans hk);subst hu;have ts:=dq (ks':=ks++[v]) h2;refine⟨ks,h2,by rw[<-Zy h3];exact YM _ _,x.nl e he,⟨rX x.lo.od (ad (rW x.lo.od.ob h2)) ts,fun e' he'=>?_,fun y hy=>?_⟩,x.nl,x.nd,by rw[Zn];exact Zx x.le (Nat.le_add_right _ _)⟩
 ·by_cases z:e'.2=e.2
  ·have:=oK x.nd he' he z;subst this;refine⟨m.2.up,ks++[v],h1,af,?_⟩;rw[gw,if_pos rfl];exact(h3.ts ts).snoc (hv.ts' ts)
  ·obtain⟨u',ks',g1,g2,g3⟩:=x.lo.gr e' he';refine⟨u',ks',g1,by rw[ad z];exact g2,?_⟩;rw[gw,if_neg fun y=>z ?_]
   ·exact g3.ts ts
   ·have:okD e'.1=okD e.1:=by rw[g1,h1,y]
    rw[oK (f:=fun e=>okD e.1) x.lo.od.nd he' he this]
 ·rcases ZA.mp hy with hy|hy
  ·exact x.lo.al y hy
  ·rw[Zu]at hy;subst hy;rw[hl];rfl
theorem LowI.new{H2 H:Hp}{D l0:Addr}{M:Ol}{kls:List (OK1×Addr)}{m:Nm×It}{v uv:V}{e:OK1}(x:LowI P w H2 H D M kls)(hl:aW kls (upK m.2.up)=none)(hv:NameIs H v (nk m.1))(hk:ic H uv e)(he:okD e=upK m.2.up)(g0:H l0=none)(b:But D H2 H) :
  H2 l0=none/\l0≠D/\LowI P w H2 (upd (upd (upd H l0 (.lst [])) D (odO P w D (kls++[(e,l0)]))) l0 (.lst [v])) D (M++[m]) (kls++[(e,l0)]):=by
 have nD:l0≠D:=fun z=>by rw[z,x.lo.od.ob]at g0;cases g0
 have n2:H2 l0=none:=by
  cases z:H2 l0 with
  |none=>rfl
  |some o=>rw[b _ _ z nD]at g0;cases g0
 have keep:∀a o,H a=some o->a≠D->upd (upd (upd H l0 (.lst [])) D (odO P w D (kls++[(e,l0)]))) l0 (.lst [v]) a=some o:=fun a o ea ha=>by
  have nl:a≠l0:=fun z=>by rw[z,g0]at ea;cases ea
  rw[ad nl,ad ha,ad nl];exact ea
 have ts:TS H (upd (upd (upd H l0 (.lst [])) D (odO P w D (kls++[(e,l0)]))) l0 (.lst [v])):=fun a zs ea=>keep a _ ea fun z=>by have:=x.lo.od.ob;rw[z,this]at ea;unfold odO at ea;cases ea
 have no:=vS hl;refine⟨n2,nD,⟨⟨by rw[ad (ZM nD)];exact af,fun e' he' p hp=>?_,?_⟩,fun e' he'=>?_,fun y hy=>?_⟩,fun e' he'=>?_,?_,?_⟩
 ·rcases ZA.mp he' with he'|he'
  ·exact ts _ _ (x.lo.od.ks e' he' p hp)
  ·rw[Zu]at he';subst he';obtain rfl:e=some p:=hp;exact ts _ _ hk.2
 ·rw[Z4,List.nodup_append];refine⟨x.lo.od.nd,by simp,fun a ha c hc z=>?_⟩;simp only[Zz,List.map_nil,Zu]at hc;obtain⟨e',he',rfl⟩:=ZP.mp ha;exact no e' he' (by rw[<-he,<-hc];exact z)
 ·rcases ZA.mp he' with he'|he'
  ·obtain⟨u',ks',g1,g2,g3⟩:=x.lo.gr e' he';refine⟨u',ks',g1,keep _ _ g2 (ZM (rW x.lo.od.ob g2)),?_⟩;rw[gw,if_neg fun z=>no e' he' (by rw[g1,z])];exact g3.ts ts
  ·rw[Zu]at he';subst he';refine⟨m.2.up,[v],he,af,?_⟩;have em:grp M m.2.up=[]:=by unfold grp;rw[List.filter_eq_nil_iff];intro y hy z;have:=x.lo.al y hy;rw[y0 z,hl]at this;cases this
   rw[gw,if_pos rfl,em];exact .cons (hv.ts' ts) .nil
 ·rcases ZA.mp hy with hy|hy
  ·exact kg (.inl (x.lo.al y hy))
  ·rw[Zu]at hy;subst hy;exact kg (.inr he)
 ·rcases ZA.mp he' with he'|he'
  ·exact x.nl e' he'
  ·rw[Zu]at he';subst he';exact n2
 ·rw[Z4,List.nodup_append];refine⟨x.nd,by simp,fun a ha c hc z=>?_⟩;simp only[Zz,List.map_nil,Zu]at hc;obtain⟨e',he',rfl⟩:=ZP.mp ha;obtain⟨_,_,_,g2,_⟩:=x.lo.gr e' he';rw[z,hc,g0]at g2;cases g2
 ·rw[Zn,Zn];exact Nat.add_le_add x.le (Ze _)
def qL(P:Program)(w:World)(C T:Addr):Sp:=fun vs H Q _=>∃(p d g:Addr) (ol:Ol),vs=[.ref p]/\OlAt C H p d g ol/\ol.length<=300/\(ol.map (·.1)).Nodup/\aQ dP T (eK dA) H /\
 ∀(D:Addr) (H':Hp) (M:Ol) (kls:List (OK1×Addr)),M.Perm ol->M.Pairwise leP->SameT T H H'->aQ dP T (eK dA) H'->H D=none->kls.length<=300->LowAt P w H' D M kls->Q (.ref D) H'
def lE(n:Nat)(o:Obj):Heap:=⟨Array.replicate n o,{}⟩
theorem wG{n:Nat}{o:Obj}(hf:∀c d s,o≠⟨c,d,.freed,s⟩){a:Addr}{o':Obj}(h:(lE n o).get? a=some o'):o'=o:=by
 unfold lE Heap.get? at h;dsimp only at h;by_cases ha:a<n
 ·rw[Yo (by simpa using ha),Array.getElem_replicate]at h;split at h
  ·cases h
  ·exact(Zs h).symm
 ·rw[Array.getElem?_eq_none (by simpa using ha)]at h;cases h
theorem qD{n:Nat}{o:Obj}(hf:∀c d s,o≠⟨c,d,.freed,s⟩){a:Addr}(ha:a<n):(lE n o).get? a=some o:=by
 unfold lE Heap.get?;dsimp only;rw[Yo (by simpa using ha),Array.getElem_replicate];split
 ·rename_i z;exact absurd (Zs z) (hf _ _ _)
 ·rfl
theorem Cg{D c:Addr}{q:Str}{kls:List (OK1×Addr)}:odO P w D kls≠gB c q:=fun z=>by
 unfold odO gB at z;injection z with z;by_cases hs:(D==sysModules)=false
 ·have e:=congrFun z (lE (D+1) { cls:=.type "dict",data:=.dict (((kls.map oE).map (cK P w)).toArray) 0 });have:=e.mp ⟨hs,_,_,_,qD (by intro _ _ _ y;cases y) (Yi D),⟨rfl,rfl,rfl⟩,rfl,by simp⟩;obtain⟨c',o,vs,t,e1,e2,e3,e4⟩:=this;have:=wG (by intro _ _ _ y;cases y) e2;rw[this]at e3;cases e3
 ·have e:=congrFun z (lE (c+1) { cls:=.none,data:=.fields #[.none,.str q 0] });have:=e.mpr ⟨c,_,_,_,rfl,qD (by intro _ _ _ y;cases y) (Yi c),rfl,rfl⟩;exact hs this.1
theorem rp{CX:CXT}{N:List Str}{qual:Str}{scope:Scope}{f:Addr}{cd:Value}{A:Around}{outer:List Env}{s:Shared}{H:Hp}{E:XK}:(cJ CX P w K mg base N qual scope f cd A outer s H E).nox.prog=P:=rfl
theorem rq{CX:CXT}{N:List Str}{qual:Str}{scope:Scope}{f:Addr}{cd:Value}{A:Around}{outer:List Env}{s:Shared}{H:Hp}{E:XK}:(cJ CX P w K mg base N qual scope f cd A outer s H E).nox.w=w:=rfl
abbrev cj:Stmt:=aO (top 15) 17
abbrev hW:List Str:=["self","lower","name"]
theorem bS:FnScope hW ["self"] (ai cj):=⟨rfl,rfl,rfl,by decide +kernel,rfl,by decide +kernel,by decide +kernel⟩
theorem gK{f C T:Addr}{fd:FuncData}{tk:Tok}(F:Fun K "lower_names" "Plain.lower_names" cj f fd)(X_Plain:Txt K C)(M_sorted_names:MFn P w K mg base 5 C "sorted_names" ["self"] (jJ C T))(g_UP:mg "UP" = some (.int 0 tk)):FnOk P w K mg base CX0 6 f fd ["self"] (qL P w C T):=by
 refine F.okQ bS (fun vs H Q E h=>?_) (fun cdv A outer s H vs Q E hr h=>?_)
 ·obtain⟨p,d,g,ol,rfl,_⟩:=h;rfl
 obtain⟨p,d,g,ol,rfl,hO,hl,nd,tab,q⟩:=h;refine⟨_,(b_c (aD (i:=1) bS.nd xA)
   (b_c (gP Yv rfl (ik (eC M_sorted_names (hr.mono (by decide)) (q_v 0))) (aU (i:=2) bS.nd) (b_1 (bf (fe hr.units (q_v 2) (bA (q_v 0))) (b_1 (bV (kz (mq hr.units (q_v 1) (au aC (bn hr.units (bA (q_v 0)) (q_v 2)) (iw g_UP)) (cP am)) (q_v 2)))) b_0)))
   (b_1 (aG (q_v 1))))),?_⟩
 try rw[cxK]
 rw[rp,rq];intro D gD;have wD:=aj gD (odO P w D []);have eD:upd H D (odO P w D []) D=some (odO P w D []):=af;generalize upd H D (odO P w D [])=H1 at wD eD ⊢;have O1:=hO.same wD;have tab1:=aX tab wD;obtain⟨kvs1,S1,R1⟩:=id O1;obtain⟨⟨dx,h1⟩,h2,h3,h4⟩:=id S1;refine⟨_,rfl,p,dx,_,rfl,h1,cH _ _ (by decide +kernel) (by decide +kernel),p,d,g,ol,rfl,O1,hl,nd,tab1,fun L H2 M ks pe so s12 tab2 gL eL ka=>?_⟩;refine⟨L,rfl,⟨ks,SqL.of eL⟩,?_⟩;have O2:=O1.sameT s12 tab1;have nDT:D≠T:=fun z=>by obtain⟨ps,e1,_⟩:=tab1;rw[z,e1]at eD;cases eD
 have eD2:=s12 _ _ eD nDT;have nLD:L≠D:=fun z=>by rw[z,eD]at gL;cases gL
 have lM:M.length<=300:=by rw[pe.length_eq];exact hl
 have lks:=Zy ka;refine ii (xs:=ks) (fun i σ H'=>But D H2 H'/\∃(kls:List (OK1×Addr)) (o:Option V),LowI P w H2 H' D (M.take i) kls/\σ=[some (.ref p),some (.ref D),o]) ⟨fun _ _ z _=>z,[],none,⟨⟨⟨eD2,(fun e he=>by cases he),.nil⟩,(fun e he=>by cases he),(fun m hm=>by simp at hm)⟩,(fun e he=>by cases he),.nil,ZO _⟩,rfl⟩ (fun i σ H' _ hP=>SqL.of (hP.1 _ _ eL nLD)) (fun i v σ H' hv hP D' kD=>?_) (fun σ H' hP=>?_)
 ·obtain⟨bt,kls,o,lo,rfl⟩:=hP;obtain⟨m,hm,hn⟩:=cY ka i v hv;obtain⟨kvs,S,R⟩:=id O2;have ts2:TS H2 H':=fun a zs e=>bt _ _ e fun z=>by rw[z,eD2]at e;unfold odO at e;cases e
  have nd':∀{a:Addr} {o:HO},H2 a=some o->o≠odO P w D []->H' a=some o:=fun e ne=>bt _ _ e fun z=>ne (by rw[z,eD2]at e;exact(Zs e).symm);obtain⟨⟨dx',k1⟩,k2,k3,k4⟩:=id S;have k1':=nd' k1 (by unfold odO;intro z;cases z);have k2':=nd' k2 (by unfold odO;intro z;cases z);have k3':=nd' k3 (by unfold odO;intro z;cases z);have hmo:m∈ol:=pe.mem_iff.mp (ZK hm);obtain⟨jj,hj⟩:=ZF.mp hmo;obtain⟨iv,e1,ia,uv,pv,rfl,e2,e3,e4⟩:=aH R (aS nd hj);have hn':=hn.ts' ts2;obtain⟨nb,rfl,hnb⟩:=id hn';refine⟨_,rfl,_,rfl,p,C,dx',_,_,rfl,k1',X_Plain.cl,X_Plain.nA,lZ _ _,g,none,rfl,DGet.t (k:=nk m.1) (kvs:=[]) k3' hnb,_,rfl,ce ?_⟩;obtain⟨ke,hk,hke⟩:=(e3.ts ts2).key;refine⟨_,rfl,D,rfl,⟨kls,lo.lo.od.ob⟩,?_⟩;refine⟨_,rfl,p,C,dx',_,_,rfl,k1',X_Plain.cl,X_Plain.nH,aI _ _,_,rfl,d,.ref ia,rfl,e1▸DGet.t (k:=nk m.1) k2' hnb,?_⟩;refine⟨ia,_,_,_,rfl,rfl,SqT.of (ts2 _ _ e2),at0,sz rfl,fun l0 g0=>?_⟩;have w0:=aj g0 (.lst []);have lo0:=lo.same w0;have lt:(M.take i).length<=300:=Zx (List.length_take_le' _ _) lM;have hi:i<M.length:=(ZC.mp hm).1;have et:M.take (i+1)=M.take i++[m]:=by rw[List.take_succ,hm];rfl
  have hk0:ic (upd H' l0 (.lst [])) uv ke:=by
   cases ke with
   |none=>exact hk
   |some q=>exact⟨hk.1,w0 _ _ hk.2⟩
  refine⟨kls,ke,l0,lo0.lo.od,hk0,rfl,(by have:=lo.le;omega),fun l hl'=>?_,fun hl'=>?_⟩
  ·rw[hke]at hl';obtain⟨ks',f1,f2,f3,f4⟩:=lo0.old hl' (hn'.ts' (Same.ts w0));refine⟨.inl ⟨rfl,_,SqL.of f1⟩,_,rfl,l,_,_,rfl,rfl,f1,bG (by omega),kD _ _ ⟨fun b ob eb hb=>?_,kls,_,by rw[et];exact f4,rfl⟩⟩;have hbl:b≠l:=fun z=>by rw[z,f3]at eb;cases eb
   rw[ad hbl];exact w0 _ _ (bt _ _ eb hb)
  ·rw[hke]at hl';obtain⟨n2,nD0,f4⟩:=lo.new hl' hn' hk hke g0 bt;refine⟨.inl ⟨rfl,[],SqL.of (by rw[ad nD0];exact af)⟩,_,rfl,l0,[],_,rfl,rfl,by rw[ad nD0];exact af,sz rfl,kD _ _ ⟨fun b ob eb hb=>?_,_,_,by rw[et];exact f4,rfl⟩⟩;have hbl:b≠l0:=fun z=>by rw[z,n2]at eb;cases eb
   rw[ad hbl,ad hb,ad hbl];exact bt _ _ eb hb
 ·obtain⟨bt,kls,o,lo,rfl⟩:=hP;have ml:M.take ks.length=M:=ZJ (by omega);rw[ml]at lo;have nTD:T≠D:=ZM nDT;have tab3:aQ dP T (eK dA) H':=by obtain⟨ps,t1,t2,t3⟩:=tab2;refine⟨ps,bt _ _ t1 nTD,t2,t3.imp id fun⟨c,z1,z2⟩=>⟨c,z1,bt _ _ z2 fun z=>?_⟩⟩;rw[z,eD2]at z2;exact Cg (Zs z2)
  exact⟨_,rfl,q D H' M kls pe so (fun b ob eb hb=>bt _ _ (s12 _ _ (wD _ _ eb) hb) fun z=>by rw[z,gD]at eb;cases eb) tab3 gD (Zx lo.le lM) lo.lo⟩
abbrev DI:=Int×(Nm×It)
inductive Dfs(M:Ol):List DI->List DI->Nat->Prop
 |nil:Dfs M [] [] 0
 |cons {d:Int} {m:Nm×It} {rest out:List DI} {k:Nat} (h:Dfs M ((grp M (some m.1)).map (fun x=>(d+1,x))++rest) out k):Dfs M ((d,m)::rest) ((d,m)::out) (k+1)
theorem Dfs.le{M:Ol}{st out:List DI}{k:Nat}(h:Dfs M st out k):st.length<=k:=by
 induction h with
 |nil=>exact Ze _
 |cons _ ih =>rw[Zn]at ih;rw[Zt];omega
theorem Dfs.len{M:Ol}{st out:List DI}{k:Nat}(h:Dfs M st out k):out.length=k:=by
 induction h with
 |nil=>rfl
 |cons _ ih=>rw[Zt,ih]
def SkAt(H:Hp)(v:V)(x:DI):Prop:=∃(a:Addr) (nv:V),v=.ref a/\H a=some (.tup [.int x.1,nv])/\NameIs H nv (nk x.2.1)
def RwAt(H:Hp)(v:V)(x:DI):Prop:=∃(a:Addr) (nv:V),v=.ref a/\H a=some (.tup [.int x.1,nv,.str x.2.2.tx,.bl x.2.2.dn,whV x.2.2.wh,.bl x.2.2.fo])/\NameIs H nv (nk x.2.1)
abbrev SksAt(H:Hp)(xs:List DI)(vs:List V):Prop:=Paired (fun x v=>SkAt H v x) xs vs
abbrev RwsAt(H:Hp)(xs:List DI)(vs:List V):Prop:=Paired (fun x v=>RwAt H v x) xs vs
theorem SkAt.ts{H H':Hp}{v:V}{x:DI}(h:SkAt H v x)(s:TS H H'):SkAt H' v x:=by obtain⟨a,nv,h1,h2,h3⟩:=h;exact⟨a,nv,h1,s _ _ h2,h3.ts' s⟩
theorem RwAt.ts{H H':Hp}{v:V}{x:DI}(h:RwAt H v x)(s:TS H H'):RwAt H' v x:=by obtain⟨a,nv,h1,h2,h3⟩:=h;exact⟨a,nv,h1,s _ _ h2,h3.ts' s⟩
theorem SksAt.ts{H H':Hp}{xs:List DI}{vs:List V}(x:SksAt H xs vs)(s:TS H H'):SksAt H' xs vs:=Paired.mapP x fun _ _ z=>z.ts s
theorem RwsAt.ts{H H':Hp}{xs:List DI}{vs:List V}(x:RwsAt H xs vs)(s:TS H H'):RwsAt H' xs vs:=Paired.mapP x fun _ _ z=>z.ts s
theorem dB{α β:Type}{R:α->β->Prop}{a c:List α}{b d:List β}(x:Paired R a b)(y:Paired R c d):Paired R (a++c) (b++d):=by
 induction x with
 |nil=>exact y
 |cons h _ ih=>exact .cons h ih
theorem mi{α β:Type}{R:α->β->Prop}:∀{a:List α} {x:α} {b:List β},Paired R (a++[x]) b->∃(b0:List β) (y:β),b=b0++[y]/\Paired R a b0/\R x y
 | [],x,b,h=>by
  cases h with
  |cons h1 h2 =>cases h2;exact⟨[],_,rfl,.nil,h1⟩
 |z::a,x,b,h=>by
  cases h with
  |cons h1 h2 =>obtain⟨b0,y,rfl,h3,h4⟩:=mi h2;exact⟨_::b0,y,rfl,.cons h1 h3,h4⟩
theorem LowAt.get{H:Hp}{D:Addr}{M:Ol}{kls:List (OK1×Addr)}(x:LowAt P w H D M kls)(u:Option Nm):(∀l,aW kls (upK u)=some l->∃ks,H l=some (.lst ks)/\KsAt H (grp M u) ks)/\(aW kls (upK u)=none->grp M u=[]):=by
 refine⟨fun l hl=>?_,fun hl=>?_⟩
 ·obtain⟨e,he,hk,rfl⟩:=gJ hl;obtain⟨u',ks,h1,h2,h3⟩:=x.gr e he;rw[<-qW (h1.symm.trans hk)];exact⟨ks,h2,h3⟩
 ·unfold grp;rw[List.filter_eq_nil_iff];intro y hy z;have:=x.al y hy;rw[y0 z,hl]at this;cases this
theorem lX{n:Nat}{cap:List Nat}{te:TE}{σ:St}{H0:Hp}{Q:VK}{l:Addr}{M:Ol}{ks:List V}{d:Int}(hl:H0 l=some (.lst ks))(hk:KsAt H0 M ks)(hz:M.length<=300)(he:∀(v:V) (H:Hp),Same H0 H->∀R:VK,(∀t,H t=none->R (.ref t) (upd H t (.tup [.int d,v])))->te ((bT n cap σ).set 0 (some v)) H R)(hq:∀(ws:List V) (p:Addr) (H:Hp),Same H0 H->SksAt H (M.map fun x=>(d,x)).reverse ws->H p=none->Q (.ref p) (upd H p (.lst ws))):iE n cap (bN 0) kM te σ (Itv K l ks) H0 Q:=by
 have lk:=Zy hk;refine nS (N:=ks.length) (fun i ys H=>Same H0 H/\ys.length=i/\SksAt H ((M.map fun x=>(d,x)).reverse.take i) ys) (by omega) (fun _ _ _ p=>p.2.1) ⟨Same.refl _,rfl,.nil⟩ (fun i ys H hi hP=>⟨hi,SqL.of (hP.1 _ _ hl)⟩) (fun ys H hP=>⟨rfl,SqL.of (hP.1 _ _ hl)⟩) ?_ ?_
 ·rintro i ys H x H2 hi ⟨sm,ly,pa⟩ ⟨rfl,hx⟩ R kR;refine he x _ sm _ fun t gt=>kR _ _ ?_;have wt:=aj gt (.tup [.int d,x]);refine⟨sm.trans wt,by rw[Zn,ly];rfl,?_⟩;rw[List.getElem?_reverse (by simpa using hi)]at hx;obtain⟨m,hm,hn⟩:=cY hk _ x hx;have e:(M.map fun x=>(d,x)).reverse[i]?=some (d,m):=by rw[List.getElem?_reverse (by rw[Zi];omega),Zi,ZG,lk,hm];rfl
  rw[List.take_succ,e];exact dB (pa.ts (Same.ts wt)) (.cons ⟨t,x,rfl,af,(hn.ts' (Same.ts sm)).ts' (Same.ts wt)⟩ .nil)
 ·rintro ys p H ⟨sm,ly,pa⟩ gp;refine hq ys p H sm ?_ gp;rw[ZJ (by rw[List.length_reverse,Zi];omega)]at pa;exact pa
theorem jv{G:Addr->Prop}{Hc:Hp}{D l0:Addr}{M:Ol}{kls:List (OK1×Addr)}{u:Option Nm}(x:LowAt P w Hc D M kls)(e0:Hc l0=some (.lst []))(h:∀(l:Addr) (ks:List V),Hc l=some (.lst ks)->KsAt Hc (grp M u) ks->G l) :
  (∀l,aW kls (upK u)=some l->G l)/\(aW kls (upK u)=none->G l0):=by
 obtain⟨a,b⟩:=x.get u;refine⟨fun l hl=>?_,fun hl=>?_⟩
 ·obtain⟨ks,h1,h2⟩:=a l hl;exact h l ks h1 h2
 ·exact h l0 [] e0 (by rw[b hl];exact .nil)
abbrev fg(M:Ol):List DI:=(grp M none).map fun x=>(0,x)
def uI(C T:Addr):Sp:=fun vs H Q _=>∃(p d g:Addr) (ol:Ol),vs=[.ref p]/\OlAt C H p d g ol/\ol.length<=300/\(ol.map (·.1)).Nodup/\aQ dP T (eK dA) H/\(∀M:Ol,M.Perm ol->∃out k,Dfs M (fg M) out k/\k<=300) /\
 ∀(R:Addr) (H':Hp) (M:Ol) (out:List DI) (k:Nat) (rs:List V),M.Perm ol->M.Pairwise leP->Dfs M (fg M) out k->SameT T H H'->aQ dP T (eK dA) H'->H R=none->H' R=some (.lst rs)->RwsAt H' out rs->Q (.ref R) H'
theorem Dfs.mem{M:Ol}{st out:List DI}{k:Nat}(h:Dfs M st out k):(∀x∈st,x.2∈M)->∀x∈out,x.2∈M:=by
 induction h with
 |nil=>intro _ x hx;cases hx
 |@cons d m rest out k _ ih =>
  intro hs x hx;rcases Zq.mp hx with rfl|hx
  ·exact hs _ Zr
  ·refine ih (fun y hy=>?_) x hx;rcases ZA.mp hy with hy|hy
   ·obtain⟨z,hz,rfl⟩:=ZP.mp hy;exact(Ye.mp hz).1
   ·exact hs y (Zh _ hy)
theorem B4{a b c d e f:V}:bM [a,b,c,d,e,f] (some 2) none=[c,d,e,f]:=rfl
abbrev eW:Stmt:=aO (top 15) 16
abbrev nE:List Str:=["self","lower","rows","ahead","following","depth","name"]
theorem bv:FnScope nE ["self"] (ai eW):=⟨rfl,rfl,rfl,by decide +kernel,rfl,by decide +kernel,by decide +kernel⟩
theorem mL{f C T:Addr}{fd:FuncData}{tk:Tok}(F:Fun K "rows" "Plain.rows" eW f fd)(X_Plain:Txt K C)(M_lower_names:MFn P w K mg base 6 C "lower_names" ["self"] (qL P w C T))(g_TEXT:mg "TEXT" = some (.int 2 tk))(z_reversed:mg "reversed" = none)(z_len:mg "len" = none):FnOk P w K mg base CX0 7 f fd ["self"] (uI C T):=by
 refine F.okQ bv (fun vs H Q E h=>?_) (fun cdv A outer s H vs Q E hr h=>?_)
 ·obtain⟨p,d,g,ol,rfl,_⟩:=h;rfl
 obtain⟨p,d,g,ol,rfl,hO,hl,nd,tab,ex,q⟩:=h;obtain⟨kvs0,S0,R0⟩:=id hO;obtain⟨⟨dx,h1⟩,h2,h3,h4⟩:=id S0;refine⟨_,(b_c (aD (i:=1) bv.nd (eC M_lower_names (hr.mono (by decide)) (q_v 0)))
   (b_c (aD (i:=2) bv.nd (cP am))
   (b_c (BD (j:=3) bv.nd (own:=["each"]) (⟨rfl,by decide +kernel,by decide +kernel,rfl,trivial⟩:CompOk _ _ [] []) rfl (xm z_reversed (q_a (oV hr.units (q_v 1) br (cP am)) am)) (fun _ _ _ _=>aU (i:=0) (show (["each"]:List Str).Nodup by decide +kernel)) (iL (by decide)) (fun _ _ _ _=>vG) (fun _ _ _ _=>(bO (q_a ah (q_a (q_v 0) am)))))
   (b_c (iX Yv (aq oO (q_B cV z_len y4 (q_a (q_v 3) am)) ah) (b_c (aD (i:=4) bv.nd (Bq (q_v 3)))
   (b_c (aD (i:=5) bv.nd (au aC (q_v 4) ah))
   (b_c (aD (i:=6) bv.nd (au aC (q_v 4) ah))
   (b_c (bV (kz (q_v 2) (ay ir (bO (q_a (q_v 5) (q_a (q_v 6) am))) (dQ cZ (bn hr.units (bA (q_v 0)) (q_v 6)) (dC (iw g_TEXT)) eQ))))
   (b_1 (bV (wy (q_v 3) (oU (own:=["each"]) (⟨rfl,by decide +kernel,by decide +kernel,rfl,⟨rfl,rfl,trivial⟩⟩:CompOk _ _ [5] ["depth"]) rfl (xm z_reversed (q_a (oV hr.units (q_v 1) (q_v 6) (cP am)) am)) (fun _ _ _ _=>aU (i:=0) (show (["each","depth"]:List Str).Nodup by decide +kernel)) (iL (by decide)) (fun _ _ _ _=>vG) (fun _ _ _ _=>(bO (q_a (ay kj (q_v 1) ah) (q_a (q_v 0) am)))))))))))))
   (b_1 (aG (q_v 2))))))),?_⟩
 try rw[cxK]
 rw[rp,rq];refine⟨_,rfl,p,dx,_,rfl,h1,cH _ _ (by decide +kernel) (by decide +kernel),p,d,g,ol,rfl,hO,hl,nd,tab,fun D H3 M kls pe so s03 tab3 gD lk lo=>?_⟩;obtain⟨out,k,df,k300⟩:=ex M pe;have O3:=hO.sameT s03 tab;obtain⟨kvs,S,R3⟩:=id O3;obtain⟨⟨dx',k1⟩,k2,k3,k4⟩:=id S;have lM:M.length<=300:=by rw[pe.length_eq];exact hl
 refine⟨sz rfl,fun R gR=>?_⟩;have wR:=aj gR (.lst []);have eR:upd H3 R (.lst []) R=some (.lst []):=af;generalize upd H3 R (.lst [])=H4 at wR eR ⊢;refine⟨_,rfl,D,rfl,⟨kls,wR _ _ lo.od.ob⟩,sz rfl,fun l0 g0=>?_⟩;have w0:=aj g0 (.lst []);have e0:upd H4 l0 (.lst []) l0=some (.lst []):=af;generalize upd H4 l0 (.lst [])=H5 at w0 e0 ⊢;have lo5:=lo.same (wR.trans w0);refine⟨kls,none,lo5.od,rfl,by omega,jv (u:=none) lo5 e0 fun l ks el hk=>?_⟩;refine⟨l,ks,rfl,SqL.of el,lX (d:=0) el hk (Zx (YM _ _) lM) (fun v Hx sx Rx kx=>⟨_,rfl,sz rfl,fun t gt=>kx t gt⟩) (fun ws Aa H6 s6 pa gA=>?_)⟩;have wA:=aj gA (.lst ws);have eA:upd H6 Aa (.lst ws) Aa=some (.lst ws):=af;have s36:Same H3 (upd H6 Aa (.lst ws)):=(wR.trans (w0.trans s6)).trans wA;have eR6:upd H6 Aa (.lst ws) R=some (.lst []):=wA _ _ (s6 _ _ (w0 _ _ eR));have pa6:=pa.ts (Same.ts wA);have nRA:R≠Aa:=fun z=>by rw[<-z,s6 _ _ (w0 _ _ eR)]at gA;cases gA
 have g3A:H3 Aa=none:=by
  cases z:H3 Aa with
  |none=>rfl
  |some o=>rw[s6 _ _ (w0 _ _ (wR _ _ z))]at gA;cases gA
 generalize upd H6 Aa (.lst ws)=H7 at eA s36 eR6 pa6 ⊢;refine⟨fun m σ H'=>Same H3 H'/\∃(stk outd rst:List DI) (rs as:List V) (o4 o5 o6:Option V),Dfs M stk rst m/\outd++rst=out/\H' R=some (.lst rs)/\RwsAt H' outd rs/\H' Aa=some (.lst as)/\SksAt H' stk.reverse as/\σ=[some (.ref p),some (.ref D),some (.ref R),some (.ref Aa),o4,o5,o6],⟨k,s36,fg M,[],out,[],ws,none,none,none,df,rfl,eR6,.nil,eA,pa6,rfl⟩,?_⟩;rintro m σ H' ⟨sm,stk,outd,rst,rs,as,o4,o5,o6,df',eo,eR',ra,eA',sa,rfl⟩;have las:=Zy sa;rw[List.length_reverse]at las;refine⟨_,rfl,Aa,as,rfl,.inl (SqL.of eA'),_,_,rfl,rfl,_,rfl,?_⟩;have lo300:outd.length+m<=300:=by have h1:=Yy List.length eo;rw[Zn,df'.len,df.len]at h1;omega
 cases df' with
 |nil =>have:as.length=0:=las.symm;rw[show(decide ((0:Int)<(as.length:Int)))=false by rw[this];rfl];refine aF ⟨_,rfl,?_⟩;rw[Z3]at eo;subst eo;refine q R H' M outd k rs pe so df (s03.trans (.of sm)) (aX tab3 sm) (iq s03 gR ?_) eR' ra;obtain⟨ps,t1,_⟩:=tab3;exact⟨_,t1⟩
 |@cons d0 mm rest rst' m' df' =>
  have:0<as.length:=by rw[<-las];exact Nat.succ_pos _
  rw[show(decide ((0:Int)<(as.length:Int)))=true by rw[decide_eq_true];omega];refine ce ?_;rw[List.reverse_cons]at sa;obtain⟨as0,y,rfl,sa0,⟨ya,nv,rfl,ey,hn⟩⟩:=mi sa;obtain⟨nb,rfl,hnb⟩:=id hn;have hmem:mm∈M:=df.mem (fun x hx=>by
   obtain⟨z,hz,rfl⟩:=ZP.mp hx;exact (Ye.mp hz).1) (d0,mm) (by rw[<-eo];simp)
  obtain⟨jj,hj⟩:=ZF.mp (pe.mem_iff.mp hmem);obtain⟨iv,e1,ia,uv,pv,rfl,e2,e3,e4⟩:=aH R3 (aS nd hj);refine⟨fun σ' H''=>Same H3 H''/\∃(stk outd rst:List DI) (rs as:List V) (o4 o5 o6:Option V),Dfs M stk rst m'/\outd++rst=out/\H'' R=some (.lst rs)/\RwsAt H'' outd rs/\H'' Aa=some (.lst as)/\SksAt H'' stk.reverse as/\σ'=[some (.ref p),some (.ref D),some (.ref R),some (.ref Aa),o4,o5,o6],fun σ' H'' h=>⟨m',Yi _,h⟩,?_⟩;refine⟨_,rfl,.inl ⟨rfl,_,SqL.of eA'⟩,Aa,_,.ref ya,rfl,rfl,eA',by simp,?_⟩;rw[List.dropLast_concat];have t8:=dq (ks':=as0) eA';have s38:Same H3 (upd H' Aa (.lst as0)):=gU sm g3A;have eA8:upd H' Aa (.lst as0) Aa=some (.lst as0):=af;have eR8:upd H' Aa (.lst as0) R=some (.lst rs):=by rw[ad nRA];exact eR'
  have ey8:=t8 _ _ ey;have hn8:=t8 _ _ hnb;have ra8:=ra.ts t8;have sa8:=SksAt.ts sa0 t8;generalize upd H' Aa (.lst as0)=H8 at s38 eA8 eR8 ey8 hn8 ra8 sa8 ⊢;refine⟨_,rfl,ya,_,_,_,rfl,rfl,SqT.of ey8,at0,?_⟩;refine⟨_,rfl,ya,_,_,_,rfl,rfl,SqT.of ey8,at1,?_⟩;refine⟨_,rfl,.inl ⟨rfl,_,SqL.of eR8⟩,_,rfl,_,rfl,sz rfl,fun t1 g1=>?_⟩;have w1:=aj g1 (.tup [.int d0,.ref nb]);have s1':=s38.trans w1;refine⟨_,rfl,p,C,dx',_,_,rfl,s1' _ _ k1,X_Plain.cl,X_Plain.nH,aI _ _,_,rfl,d,.ref ia,rfl,e1▸DGet.t (k:=nk mm.1) (s1' _ _ k2) (w1 _ _ hn8),_,rfl,?_⟩;refine⟨ia,_,rfl,s1' _ _ e2,fun t2 H9 s9 e9=>?_⟩;rw[B4]at e9;refine⟨t1,t2,_,_,rfl,rfl,s9 _ _ af,e9,sz rfl,fun t3 H10 s10 e10=>?_⟩;have w8:Same H8 H10:=w1.trans (s9.trans s10);have lra:=Zy ra;refine⟨R,rs,.ref t3,rfl,rfl,w8 _ _ eR8,bG (by omega),?_⟩;have t11:=dq (ks':=rs++[.ref t3]) (w8 _ _ eR8);have g3R:H3 R=none:=gR;have s311:Same H3 (upd H10 R (.lst (rs++[.ref t3]))):=gU (s38.trans w8) g3R;have eR11:upd H10 R (.lst (rs++[.ref t3])) R=some (.lst (rs++[.ref t3])):=af;have eA11:upd H10 R (.lst (rs++[.ref t3])) Aa=some (.lst as0):=by rw[ad (ZM nRA)];exact w8 _ _ eA8
  have hn11:=t11 _ _ (w8 _ _ hn8);have ra11:RwsAt (upd H10 R (.lst (rs++[.ref t3]))) (outd++[(d0,mm)]) (rs++[.ref t3]):=dB ((ra8.ts (Same.ts w8)).ts t11) (.cons ⟨t3,.ref nb,rfl,t11 _ _ e10,nb,rfl,hn11⟩ .nil);have sa11:=(sa8.ts (Same.ts w8)).ts t11;generalize upd H10 R (.lst (rs++[.ref t3]))=H11 at s311 eR11 eA11 hn11 ra11 sa11 ⊢;refine⟨_,rfl,.inl ⟨rfl,_,SqL.of eA11⟩,?_⟩;refine⟨_,rfl,D,rfl,⟨kls,s311 _ _ lo.od.ob⟩,_,rfl,sz rfl,fun l1 gl1=>?_⟩;have wl:=aj gl1 (.lst []);have el1:upd H11 l1 (.lst []) l1=some (.lst []):=af;generalize upd H11 l1 (.lst [])=H12 at wl el1 ⊢;have lo12:=lo.same (s311.trans wl);refine⟨kls,some (nk mm.1,nb),lo12.od,⟨rfl,wl _ _ hn11⟩,by omega,jv (u:=some mm.1) lo12 el1 fun l ks el hk=>?_⟩;refine⟨l,ks,rfl,SqL.of el,lX (d:=d0+1) el hk (Zx (YM _ _) lM) (fun v Hx sx Rx kx=>⟨_,rfl,_,_,rfl,rfl,_,rfl,sz rfl,fun t gt=>kx t gt⟩) (fun ws' pW H13 s13 pa' gW=>?_)⟩;have wW:=aj gW (.lst ws');have w1113:Same H11 (upd H13 pW (.lst ws')):=wl.trans (s13.trans wW);have lw:=Zy pa';have lsa:=Zy sa8;have dl:=df'.le;rw[Zn]at dl;rw[List.length_reverse]at lw lsa;refine⟨Aa,pW,as0,ws',rfl,rfl,w1113 _ _ eA11,af,bG (by omega),?_⟩;have t14:=dq (ks':=as0++ws') (w1113 _ _ eA11);refine⟨gU (s311.trans w1113) g3A,(grp M (some mm.1)).map (fun x=>(d0+1,x))++rest,outd++[(d0,mm)],rst',rs++[.ref t3],as0++ws',_,_,_,df',by rw[<-eo];simp,by rw[ad nRA];exact w1113 _ _ eR11,(ra11.ts (Same.ts w1113)).ts t14,af,?_,rfl⟩;rw[List.reverse_append];exact dB ((sa11.ts (Same.ts w1113)).ts t14) ((pa'.ts (Same.ts wW)).ts t14)
inductive Chn(ol:Ol):Nat->Option Nm->Prop
 |none:Chn ol 0 none
 |up {k:Nat} {n:Nm} {it:It} (h:look ol n=some it) (c:Chn ol k it.up):Chn ol (k+1) (some n)
def uF(C:Addr):Sp:=fun vs H Q _=>∃(p d g:Addr) (ol:Ol) (v:V) (n:Nm) (k:Nat),vs=[.ref p,v]/\OlAt C H p d g ol/\NameIs H v (nk n)/\Chn ol k (some n)/\Q (.bl false) H
abbrev di:Stmt:=aO (top 15) 13
abbrev jM:List Str:=["self","name","above"]
theorem cS:FnScope jM ["self","name"] (ai di):=⟨rfl,rfl,rfl,by decide +kernel,rfl,by decide +kernel,by decide +kernel⟩
theorem jC{f C:Addr}{fd:FuncData}{tk:Tok}(F:Fun K "is_gone" "Plain.is_gone" di f fd)(T:Txt K C)(g_UP:mg "UP" = some (.int 0 tk)):FnOk P w K mg base CX0 1 f fd ["self","name"] (uF C):=by
 refine F.okQ cS (fun vs H Q E h=>?_) (fun cdv A outer s H vs Q E hr h=>?_)
 ·obtain⟨p,d,g,ol,v,n,k,rfl,_⟩:=h;rfl
 obtain⟨p,d,g,ol,v,n,k,rfl,⟨kvs,S,R⟩,hn,ch,q⟩:=h;obtain⟨⟨dx,h1⟩,h2,h3,h4⟩:=id S;refine⟨_,(b_c (aD (i:=2) cS.nd (q_v 1))
   (b_c (iX Yv (t_w (dr (aq de (q_v 2) br) (cM (fe hr.units (q_v 2) (bA (q_v 0)))))) (b_1 (aD (i:=2) cS.nd (au aC (bn hr.units (bA (q_v 0)) (q_v 2)) (iw g_UP)))))
   (b_1 (aG (kC de (q_v 2) br))))),?_⟩
 try rw[cxK]
 refine⟨_,rfl,?_⟩;refine⟨fun m σ H'=>H'=H/\∃(u:V) (one:Option Nm),UpAt H u one/\Chn ol m one/\σ=[some (.ref p),some v,some u],⟨k,rfl,v,some n,hn,ch,rfl⟩,?_⟩;rintro m σ H' ⟨rfl,u,one,hu,ch,rfl⟩;cases ch with
 |none =>obtain rfl:u=.non:=hu;refine⟨_,rfl,rfl,_,rfl,cX rfl (aF ?_)⟩;exact⟨_,rfl,rfl,q⟩
 |@up m n it hl ch =>
  obtain⟨ub,rfl,hub⟩:=id hu;obtain⟨iv,e1,ia,uv,pv,rfl,e2,e3,e4⟩:=aH R hl;refine⟨_,rfl,rfl,_,rfl,gC (by intro z;cases z) ?_⟩;refine⟨_,rfl,_,rfl,p,C,dx,_,_,rfl,h1,T.cl,T.nA,lZ _ _,g,none,rfl,DGet.t (k:=nk n) (kvs:=[]) h3 hub,_,rfl,ce ?_⟩;refine⟨fun σ H2=>H2=H'/\σ=[some (.ref p),some v,some uv],?_,?_⟩
  ·rintro σ' H2 ⟨rfl,rfl⟩;exact⟨m,Yi m,rfl,uv,it.up,e3,ch,rfl⟩
  ·refine⟨_,rfl,p,C,dx,_,_,rfl,h1,T.cl,T.nH,aI _ _,_,rfl,d,.ref ia,rfl,e1▸DGet.t (k:=nk n) h2 hub,?_⟩;exact⟨ia,_,_,_,rfl,rfl,SqT.of e2,at0,rfl,rfl⟩
def mw(C:Addr):Sp:=fun vs H Q _=>∃(p d g:Addr) (ol:Ol) (u v:V) (n o:Nm) (it:It) (k:Nat) (b:Bool),vs=[.ref p,u,v]/\OlAt C H p d g ol/\NameIs H u (nk n)/\look ol n=some it/\NameIs H v (nk o)/\Und ol o k it.up b/\Q (.bl b) H
abbrev dh:Stmt:=aO (top 15) 11
abbrev jL:List Str:=["self","one","other"]
theorem jH:FnScope jL ["self","one","other"] (ai dh):=⟨rfl,rfl,rfl,by decide +kernel,rfl,by decide +kernel,by decide +kernel⟩
theorem jB{f C:Addr}{fd:FuncData}{tk:Tok}(F:Fun K "beneath" "Plain.beneath" dh f fd)(T:Txt K C)(M_at_or_beneath:MFn P w K mg base 1 C "at_or_beneath" ["self","one","other"] (lO C))(g_UP:mg "UP" = some (.int 0 tk)):FnOk P w K mg base CX0 2 f fd ["self","one","other"] (mw C):=by
 refine F.okQ jH (fun vs H Q E h=>?_) (fun cdv A outer s H vs Q E hr h=>?_)
 ·obtain⟨p,d,g,ol,u,v,n,o,it,k,b,rfl,_⟩:=h;rfl
 obtain⟨p,d,g,ol,u,v,n,o,it,k,b,rfl,hO,hu,hl,hv,un,q⟩:=h;obtain⟨kvs,S,R⟩:=id hO;obtain⟨⟨dx,h1⟩,h2,h3,h4⟩:=id S;obtain⟨ub,rfl,hub⟩:=id hu;obtain⟨iv,e1,ia,uv,pv,rfl,e2,e3,e4⟩:=aH R hl;refine⟨_,(b_1 (aG (cC M_at_or_beneath (hr.mono (by decide)) (q_v 0) (q_a (au aC (bn hr.units (bA (q_v 0)) (q_v 1)) (iw g_UP)) (q_a (q_v 2) am))))),?_⟩
 try rw[cxK]
 refine⟨_,rfl,p,dx,_,rfl,h1,cH _ _ (by decide +kernel) (by decide +kernel),?_⟩;refine⟨_,rfl,p,C,dx,_,_,rfl,h1,T.cl,T.nH,aI _ _,_,rfl,d,.ref ia,rfl,e1▸DGet.t (k:=nk n) h2 hub,?_⟩;exact⟨ia,_,_,_,rfl,rfl,SqT.of e2,at0,_,rfl,p,d,g,ol,uv,v,it.up,o,k,b,rfl,hO,e3,hv,un,q⟩
theorem tE{H:Hp}{M:Ol}{ks:List V}(x:KsAt H M ks)(f:Nm×It->Bool):KsAt H (M.filter f) (((List.range ks.length).filter fun i=>f (M.getD i I0)).map fun i=>ks.getD i .non):=by
 have:=qh x ((List.range ks.length).filter fun i=>f (M.getD i I0)) (fun i hi=>by
  have:=Yr.mp (Ye.mp hi).1;rw[Zy x];exact this)
 have e:(((List.range ks.length).filter fun i=>f (M.getD i I0)).map fun i=>M.getD i I0)=M.filter f:=by
  have e2:M=(List.range ks.length).map fun i=>M.getD i I0:=by refine List.ext_getElem (by simp[Zy x]) fun i h1 h2=>?_;simp[h1]
  conv=>rhs;rw[e2,List.filter_map]
  rfl
 rw[e]at this;exact this
def qJ(C T:Addr):Sp:=fun vs H Q _=>∃(p d g:Addr) (ol:Ol) (uv:V) (u:Option Nm),vs=[.ref p,uv]/\OlAt C H p d g ol/\UpAt H uv u/\ol.length<=300/\(ol.map (·.1)).Nodup/\aQ dP T (eK dA) H/\(∀n it,look ol n=some it->∃k,Chn ol k (some n)) /\
 ∀(D:Addr) (H':Hp) (M:Ol) (ks:List V),M.Perm ol->M.Pairwise leP->SameT T H H'->aQ dP T (eK dA) H'->H D=none->H' D=some (.lst ks)->KsAt H' (grp M u) ks->Q (.ref D) H'
abbrev dS:Stmt:=aO (top 15) 14
abbrev mG:List Str:=["self","up"]
theorem lL:FnScope mG ["self","up"] (ai dS):=⟨rfl,rfl,rfl,by decide +kernel,rfl,by decide +kernel,by decide +kernel⟩
theorem lA{f C T:Addr}{fd:FuncData}{tk:Tok}(F:Fun K "below" "Plain.below" dS f fd)(X_Plain:Txt K C)(M_sorted_names:MFn P w K mg base 5 C "sorted_names" ["self"] (jJ C T))(M_is_gone:MFn P w K mg base 1 C "is_gone" ["self","name"] (uF C))(g_UP:mg "UP" = some (.int 0 tk)):FnOk P w K mg base CX0 6 f fd ["self","up"] (qJ C T):=by
 refine F.okQ lL (fun vs H Q E h=>?_) (fun cdv A outer s H vs Q E hr h=>?_)
 ·obtain⟨p,d,g,ol,uv,u,rfl,_⟩:=h;rfl
 obtain⟨p,d,g,ol,uv,u,rfl,hO,hu,hl,nd,tab,tr,q⟩:=h;obtain⟨kvs0,S0,R0⟩:=id hO;obtain⟨⟨dx0,h1⟩,_,_,_⟩:=id S0;refine⟨_,(b_1 (aG (oU (own:=["name"]) (⟨rfl,by decide +kernel,by decide +kernel,rfl,⟨rfl,rfl,⟨rfl,rfl,trivial⟩⟩⟩:CompOk _ _ [0,1] ["self","up"]) rfl (ik (eC M_sorted_names (hr.mono (by decide)) (q_v 0))) (fun _ _ _ _=>aU (i:=0) (show(["name","self","up"]:List Str).Nodup by decide +kernel)) (iL (by decide)) (fun _ _ _ _=>(CS (t_w (dr (aq (ng hr.units) (au (pF (K:=K) rfl) (bn hr.units (ur (K:=K) rfl (q_v 1)) (q_v 0)) (iw g_UP)) (q_v 2)) (cM (iY (dZ (cC M_is_gone (hr.mono (by decide)) (q_v 1) (q_a (q_v 0) am))))))))) (fun _ _ _ _=>(q_v 0))))),?_⟩
 try rw[cxK]
 refine⟨_,rfl,p,dx0,_,rfl,h1,cH _ _ (by decide +kernel) (by decide +kernel),p,d,g,ol,rfl,hO,hl,nd,tab,fun L H2 M ks pe so s12 tab2 gL eL ka=>?_⟩;refine⟨L,rfl,⟨ks,SqL.of eL⟩,?_⟩;have O2:=hO.sameT s12 tab;have hu2:=hu.ts (dY s12 tab);have lM:M.length<=300:=by rw[pe.length_eq];exact hl
 have lks:=Zy ka;refine vt (N:=ks.length) (fun i=>decide ((M.getD i I0).2.up=u)) (fun i=>ks.getD i .non) (by omega) (fun i H' hi sm=>⟨ks,ks[i],SqL.of (sm _ _ eL),by simp[hi]⟩) (fun H' sm=>⟨ks,SqL.of (sm _ _ eL),Ze _⟩) (fun i H' x H'' hi sm y A B kA kB=>?_) (fun D H' sm gD=>?_)
 ·obtain⟨rfl,y⟩:=y;have hx:ks[i]?=some x:=y ks (SqL.of (sm _ _ eL));obtain⟨m,hm,hn⟩:=cY ka i x hx;have em:M.getD i I0=m:=by rw[Zd,hm];rfl
  have ex:ks.getD i .non=x:=by rw[Zd,hx];rfl
  have O':=O2.same sm;obtain⟨kvs,S,R⟩:=id O';obtain⟨⟨dx,k1⟩,k2,k3,k4⟩:=id S;obtain⟨jj,hj⟩:=ZF.mp (pe.mem_iff.mp (ZK hm));have lm:=aS nd hj;obtain⟨iv,e1,ia,uv',pv,rfl,e2,e3,e4⟩:=aH R lm;have hn':=hn.ts' (Same.ts sm);obtain⟨nb,rfl,hnb⟩:=id hn';obtain⟨a1,a2,a3⟩:=fX e3;obtain⟨b1,b2,b3⟩:=fX (hu2.ts (Same.ts sm));refine⟨_,rfl,p,C,dx,_,_,rfl,k1,X_Plain.cl,X_Plain.nH,aI _ _,_,rfl,d,.ref ia,rfl,e1▸DGet.t (k:=nk m.1) k2 hnb,?_⟩;refine⟨ia,_,_,_,rfl,rfl,SqT.of e2,at0,_,rfl,dk m.2.up,dk u,a1,b1,cD a2 (by omega),cD b2 (by omega),_,rfl,?_⟩;rw[uR];obtain⟨k,ch⟩:=tr _ _ lm;cases hc:decide (m.2.up=u)with
  |false=>exact aF (kB (show decide ((M.getD i I0).2.up=u)=false by rw[em];exact hc) _ (Same.refl _))
  |true =>have kA':=kA (show decide ((M.getD i I0).2.up=u)=true by rw[em];exact hc) _ (Same.refl _);rw[ex]at kA';exact ce ⟨_,rfl,p,dx,_,rfl,k1,cH _ _ (by decide +kernel) (by decide +kernel),_,rfl,p,d,g,ol,.ref nb,m.1,k,rfl,O',hn',ch,_,rfl,⟨_,rfl,kA'⟩⟩
 ·have wD:=aj gD (.lst (((List.range ks.length).filter fun i=>decide ((M.getD i I0).2.up=u)).map fun i=>ks.getD i .non));have s02:SameT T H H':=s12.trans (.of sm);refine q D _ M _ pe so (s02.trans (.of wD)) (aX (aX tab2 sm) wD) (iq s02 gD ?_) af ?_
  ·obtain⟨ps,t1,_⟩:=aX tab2 sm;exact⟨_,t1⟩
  ·exact(tE (ka.ts (Same.ts sm)) _).ts (Same.ts wD)
theorem Dfs.app{M:Ol}{s1 o1 s2 o2:List DI}{k1 k2:Nat}(h:Dfs M s1 o1 k1)(g:Dfs M s2 o2 k2):Dfs M (s1++s2) (o1++o2) (k1+k2):=by
 induction h with
 |nil=>rw[Nat.zero_add];exact g
 |@cons d m rest out k _ ih =>rw[Nat.add_right_comm];refine .cons ?_;show Dfs M (_++(rest++s2)) (out++o2) _;rw[<-ZE];exact ih
theorem Chn.one{ol:Ol}{u:Option Nm}{a b:Nat}(h:Chn ol a u)(g:Chn ol b u):a=b:=by
 induction h generalizing b with
 |none=>cases g;rfl
 |up h _ ih =>
  cases g with
  |up h' c' =>rw[h]at h';cases h';rw[ih c']
theorem cU{M:Ol}{u:Option Nm}{x:Nm×It}:x∈grp M u↔x∈M/\x.2.up=u:=by unfold grp;rw[Ye];simp
def nL(ol:Ol)(B:Nat):Prop:=∀x∈ol,∃k,k<=B/\Chn ol k (some x.1)
theorem yi{ol M:Ol}{B:Nat}(pe:M.Perm ol)(nd:(ol.map (·.1)).Nodup)(tb:nL ol B):∀(f:Nat) (x:Nm×It) (j:Nat) (d:Int),x∈M->Chn ol j (some x.1)->B<j+f->∃out k,Dfs M [(d,x)] out k:=by
 intro f;induction f with
 |zero =>intro x j d hx ch hB;obtain⟨k,hk,ch'⟩:=tb x (pe.mem_iff.mp hx);have:=ch.one ch';omega
 |succ f ih =>
  intro x j d hx ch hB;have kids:∀(l:Ol),(∀y∈l,y∈grp M (some x.1))->∃out k,Dfs M (l.map fun y=>(d+1,y)) out k:=by
   intro l;induction l with
   |nil=>intro _;exact⟨[],0,.nil⟩
   |cons y l ihl =>intro hl;obtain⟨ym,yu⟩:=cU.mp (hl y Zr);obtain⟨i,hi⟩:=ZF.mp (pe.mem_iff.mp ym);have cy:Chn ol (j+1) (some y.1):=.up (aS nd hi) (by rw[yu];exact ch);obtain⟨o1,k1,h1⟩:=ih y (j+1) (d+1) ym cy (by omega);obtain⟨o2,k2,h2⟩:=ihl fun z hz=>hl z (Zh _ hz);exact⟨_,_,h1.app h2⟩
  obtain⟨out,k,h⟩:=kids (grp M (some x.1)) fun _ z=>z;exact⟨_,_,.cons (rest:=[]) (by rw[Z3];exact h)⟩
theorem Ac{ol M:Ol}{B:Nat}(pe:M.Perm ol)(nd:(ol.map (·.1)).Nodup)(tb:nL ol B):∃out k,Dfs M (fg M) out k:=by
 have go:∀(l:Ol),(∀y∈l,y∈M)->∃out k,Dfs M (l.map fun y=>((0:Int),y)) out k:=by
  intro l;induction l with
  |nil=>intro _;exact⟨[],0,.nil⟩
  |cons y l ihl =>intro hl;obtain⟨j,_,ch⟩:=tb y (pe.mem_iff.mp (hl y Zr));obtain⟨o1,k1,h1⟩:=yi pe nd tb (B+1) y j 0 (hl y Zr) ch (by omega);obtain⟨o2,k2,h2⟩:=ihl fun z hz=>hl z (Zh _ hz);exact⟨_,_,h1.app h2⟩
 exact go (grp M none) fun y hy=>(cU.mp hy).1
def cnt(n:Nm)(l:List DI):Nat:=l.countP fun x=>decide (x.2.1=n)
theorem yd(n:Nm)(a b:List DI):cnt n (a++b)=cnt n a+cnt n b:=List.countP_append
theorem dw(n:Nm)(x:DI)(l:List DI):cnt n (x::l)=(if x.2.1=n then 1 else 0)+cnt n l:=by unfold cnt;rw[List.countP_cons,Nat.add_comm];simp
def jS(M:Ol)(n:Nm)(u:Option Nm):Nat :=
 match look M n with
 |some it=>if it.up=u then 1 else 0
 |none=>0
theorem yz{l:Ol}{n:Nm}(h:n∉l.map (·.1)):look l n=none:=by
 induction l with
 |nil=>rfl
 |cons y l ih =>rw[Zz,Zq,not_or]at h;unfold look;rw[if_neg (ZM h.1)];exact ih h.2
theorem nR{M:Ol}{d:Int}{n:Nm}{u:Option Nm}(nd:(M.map (·.1)).Nodup):cnt n ((grp M u).map fun x=>(d,x))=jS M n u:=by
 unfold cnt grp jS;rw[List.countP_map];induction M with
 |nil=>rfl
 |cons y l ih =>
  rw[Zz,ZT]at nd;have ih:=ih nd.2;unfold look;by_cases hn:y.1=n
  ·rw[if_pos hn];rw[yz (by rw[<-hn];exact nd.1)]at ih;by_cases hu:y.2.up=u
   ·rw[List.filter_cons_of_pos (by simp[hu]),List.countP_cons,ih];simp[hn,hu]
   ·rw[List.filter_cons_of_neg (by simp[hu]),ih];simp[hu]
  ·rw[if_neg hn,<-ih];by_cases hu:y.2.up=u
   ·rw[List.filter_cons_of_pos (by simp[hu]),List.countP_cons];simp[hn]
   ·rw[List.filter_cons_of_neg (by simp[hu])]
theorem Dfs.cnt{M:Ol}{st out:List DI}{k:Nat}(nd:(M.map (·.1)).Nodup)(n:Nm)(h:Dfs M st out k) :
  K25.cnt n out=K25.cnt n st+(match look M n with|some it=>(match it.up with|some p=>K25.cnt p out|none=>0)|none=>0):=by
 induction h with
 |nil =>
  cases look M n with
  |none=>rfl
  |some it=>cases hu:it.up<;>simp[hu,K25.cnt]
 |@cons d m rest out k _ ih =>
  rw[dw,dw,ih,yd,nR nd];unfold jS;cases hl:look M n with
  |none=>simp
  |some it =>
   cases hu:it.up with
   |none=>simp[hu]
   |some p =>
    dsimp only;rw[hu];dsimp only;rw[dw p];have e:(if(some p:Option Nm)=some m.1 then 1 else 0)=(if m.1=p then 1 else 0:Nat):=by
     by_cases hp:m.1=p
     ·rw[if_pos (by rw[hp]),if_pos hp]
     ·rw[if_neg (fun z=>hp (Zs z).symm),if_neg hp]
    rw[e];omega
theorem ye{M:Ol}{n:Nm}(nd:(M.map (·.1)).Nodup):K25.cnt n (fg M)=jS M n none:=nR nd
theorem vA{ol M:Ol}{out:List DI}{k:Nat}(nd:(M.map (·.1)).Nodup)(h:Dfs M (fg M) out k)(lk:∀n,look ol n=look M n):∀{j:Nat} {u:Option Nm},Chn ol j u->∀n,u=some n->K25.cnt n out=1:=by
 intro j u ch;induction ch with
 |none=>intro n z;cases z
 |@up j n' it hl c ih =>
  intro n z;cases z;rw[h.cnt nd n',ye nd];unfold jS;rw[<-lk,hl];dsimp only;cases hu:it.up with
  |none=>simp
  |some p =>dsimp only;rw[ih p hu];simp
theorem bI{l:Ol}{n:Nm}{it:It}(h:look l n=some it):(n,it)∈l:=by
 induction l with
 |nil=>cases h
 |cons y l ih =>
  unfold look at h;by_cases c:y.1=n
  ·rw[if_pos c]at h;cases h;rw[<-c];exact Zr
  ·rw[if_neg c]at h;exact Zh _ (ih h)
theorem tK{M ol:Ol}(pe:M.Perm ol)(nd:(ol.map (·.1)).Nodup)(n:Nm):look ol n=look M n:=by
 have ndM:(M.map (·.1)).Nodup:=(pe.map _).nodup_iff.mpr nd;cases h:look ol n with
 |some it =>obtain⟨i,hi⟩:=ZF.mp (pe.mem_iff.mpr (bI h));exact(aS ndM hi).symm
 |none =>
  cases g:look M n with
  |none=>rfl
  |some it =>obtain⟨i,hi⟩:=ZF.mp (pe.mem_iff.mp (bI g));have e:look ol n=some it:=aS nd hi;rw[h]at e;exact e
theorem dz(a b:Ol)(u:Option Nm):grp (a++b) u=grp a u++grp b u:=List.filter_append _ _
theorem fN(M:Ol)(u v:Option Nm):grp (grp M u) v=if u=v then grp M u else[]:=by
 unfold grp;rw[List.filter_filter];by_cases h:u=v
 ·subst h;rw[if_pos rfl];congr 1;funext x;simp
 ·rw[if_neg h,List.filter_eq_nil_iff];intro x _ z;simp at z;exact h (z.2.symm.trans z.1)
theorem eJ(M:Ol)(d:Int):(M.map fun x=>((d,x):DI)).map Prod.snd=M:=by rw[List.map_map];exact List.map_id _
theorem nU{M:Ol}{st out:List DI}{k:Nat}(h:Dfs M st out k)(u:Option Nm):(∀n,u=some n->K25.cnt n out=0)->grp (out.map Prod.snd) u=grp (st.map Prod.snd) u:=by
 induction h with
 |nil=>intro _;rfl
 |@cons d m rest out k _ ih =>
  intro hc;have hm:some m.1≠u:=fun z=>by have:=hc m.1 z.symm;rw[dw,if_pos rfl]at this;omega
  have ih:=ih fun n hn=>by have:=hc n hn;rw[dw]at this;omega
  rw[Z4,dz,eJ,fN,if_neg hm,YN]at ih;show grp ([m]++out.map Prod.snd) u=grp ([m]++rest.map Prod.snd) u;rw[dz,dz,ih]
theorem vy{M:Ol}{st out:List DI}{k:Nat}(h:Dfs M st out k)(n:Nm):K25.cnt n out=1->grp (st.map Prod.snd) (some n)=[]->grp (out.map Prod.snd) (some n)=grp M (some n):=by
 induction h with
 |nil=>intro hc;cases hc
 |@cons d m rest out k h ih =>
  intro hc hs;have e1:grp ([m]++rest.map Prod.snd) (some n)=[]:=hs;rw[dz]at e1;have e2:=List.append_eq_nil_iff.mp e1;show grp ([m]++out.map Prod.snd) (some n)=_;rw[dz,e2.1,YN];rw[dw]at hc;by_cases hm:m.1=n
  ·rw[if_pos hm]at hc;rw[nU h (some n) (fun n' hn=>by cases hn;omega),Z4,dz,eJ,fN,if_pos (by rw[hm]),e2.2,Z3,hm]
  ·rw[if_neg hm]at hc;refine ih (by omega) ?_;rw[Z4,dz,eJ,fN,if_neg (fun z=>hm (Zs z)),e2.2];rfl
theorem yh{M:Ol}{out:List DI}{k:Nat}(h:Dfs M (fg M) out k)(h1:∀n it,look M n=some it->K25.cnt n out=1)(h2:∀x∈M,∀p,x.2.up=some p->(look M p).isSome=true)(u:Option Nm):grp (out.map Prod.snd) u=grp M u:=by
 cases u with
 |none=>rw[nU h none (fun n z=>by cases z),eJ,fN,if_pos rfl]
 |some n =>
  cases hl:look M n with
  |some it=>exact vy h n (h1 n it hl) (by rw[eJ,fN,if_neg (by intro z;cases z)])
  |none =>
   have no:∀l:Ol,(∀x∈l,x∈M)->grp l (some n)=[]:=fun l hs=>by unfold grp;rw[List.filter_eq_nil_iff];intro x hx z;have:=h2 x (hs x hx) n (y0 z);rw[hl]at this;cases this
   rw[no M fun _ z=>z,no];intro x hx;obtain⟨y,hy,rfl⟩:=ZP.mp hx;exact h.mem (fun z hz=>by
    obtain⟨w',hw,rfl⟩:=ZP.mp hz;exact (cU.mp hw).1) y hy
theorem sM{M:Ol}{out:List DI}{k:Nat}(nd:(M.map (·.1)).Nodup)(h:Dfs M (fg M) out k)(h1:∀n it,look M n=some it->K25.cnt n out=1):(out.map fun x=>x.2.1).Perm (M.map (·.1)):=by
 rw[List.perm_iff_count];intro n;have e:(out.map fun x=>x.2.1).count n=K25.cnt n out:=by
  unfold K25.cnt;rw[List.count,List.countP_map];congr 1;funext x;show(x.2.1==n)=decide (x.2.1=n);by_cases z:x.2.1=n
  ·rw[decide_eq_true z,z];exact beq_self_eq_true n
  ·rw[decide_eq_false z];exact Yw.mpr z
 rw[e];cases hl:look M n with
 |some it =>rw[h1 n it hl];have hm:n∈M.map (·.1):=List.mem_map_of_mem (f:=(·.1)) (bI hl);exact(Nat.le_antisymm (List.nodup_iff_count.mp nd n) (List.count_pos_iff.mpr hm)).symm
 |none =>
  have hm:n∉M.map (·.1):=fun z=>by obtain⟨x,hx,rfl⟩:=ZP.mp z;obtain⟨i,hi⟩:=ZF.mp hx;rw[aS nd hi]at hl;cases hl
  rw[List.count_eq_zero_of_not_mem hm];unfold K25.cnt;rw[List.countP_eq_zero];intro x hx z;have:=h.mem (fun z hz=>by
   obtain⟨w',hw,rfl⟩:=ZP.mp hz;exact (cU.mp hw).1) x hx
  exact hm (ZP.mpr ⟨x.2,this,y0 z⟩)
def Lv(ab:List Nm)(st:List DI):Prop:=(∀x∈st,0<=x.1/\x.1.toNat<=ab.length/\x.2.2.up=if x.1=0 then none else ab[x.1.toNat-1]?)/\st.Pairwise fun x y=>y.1<=x.1
inductive Wk:List Nm->List DI->Prop
 |nil {ab:List Nm}:Wk ab []
 |cons {ab:List Nm} {d:Int} {m:Nm×It} {out:List DI} (h0:0<=d) (h1:d.toNat<=ab.length) (hu:m.2.up=if d=0 then none else ab[d.toNat-1]?) (h:Wk (ab.take d.toNat++[m.1]) out):Wk ab ((d,m)::out)
theorem Lv.top(M:Ol):Lv [] (fg M):=by
 refine⟨fun x hx=>?_,?_⟩
 ·obtain⟨y,hy,rfl⟩:=ZP.mp hx;exact⟨Int.le_refl _,Ze _,(cU.mp hy).2⟩
 ·rw[YQ];exact List.pairwise_of_forall fun _ _=>Int.le_refl _
theorem Lv.step{ab:List Nm}{d:Int}{m:Nm×It}{rest:List DI}{M:Ol}(h:Lv ab ((d,m)::rest)):Lv (ab.take d.toNat++[m.1]) ((grp M (some m.1)).map (fun x=>(d+1,x))++rest):=by
 obtain⟨h1,h2⟩:=h;obtain⟨d0,dl,du⟩:=h1 _ Zr;have d0:0<=d:=d0;have dl:d.toNat<=ab.length:=dl;obtain⟨p1,p2⟩:=List.pairwise_cons.mp h2;have lt:(ab.take d.toNat).length=d.toNat:=by rw[ZN];omega
 refine⟨fun x hx=>?_,?_⟩
 ·rcases ZA.mp hx with hx|hx
  ·obtain⟨y,hy,rfl⟩:=ZP.mp hx;refine⟨by show 0<=d+1;omega,by rw[Zn,lt];show(d+1).toNat<=d.toNat+1;omega,?_⟩;show y.2.up=if d+1=0 then none else(ab.take d.toNat++[m.1])[(d+1).toNat-1]?
   rw[if_neg (by omega),(cU.mp hy).2,ZV (by rw[lt];omega),lt,show(d+1).toNat-1-d.toNat=0 by omega];rfl
  ·obtain⟨g0,gl,gu⟩:=h1 x (Zh _ hx);have le:x.1<=d:=p1 x hx;refine⟨g0,by rw[Zn,lt];omega,?_⟩;rw[gu];by_cases z:x.1=0
   ·rw[if_pos z,if_pos z]
   ·rw[if_neg z,if_neg z,Yn (by rw[lt];omega),List.getElem?_take_of_lt (by omega)]
 ·rw[ZL];refine⟨?_,p2,fun x hx y hy=>?_⟩
  ·rw[YQ];exact List.pairwise_of_forall fun _ _=>Int.le_refl _
  ·obtain⟨z,_,rfl⟩:=ZP.mp hx;have:=p1 y hy;show y.1<=d+1;have:y.1<=d:=this;omega
theorem Ad{M:Ol}{st out:List DI}{k:Nat}(h:Dfs M st out k):∀{ab:List Nm},Lv ab st->Wk ab out:=by
 induction h with
 |nil=>intro _ _;exact .nil
 |@cons d m rest out k _ ih =>intro ab hL;obtain⟨g0,gl,gu⟩:=hL.1 _ Zr;exact .cons g0 gl gu (ih hL.step)
theorem yj{p q n m:List Int}(h:aR p n=aR q m):p=q/\n=m:=by
 induction p generalizing q with
 |nil =>
  cases q with
  |nil =>rw[aR,aR]at h;exact⟨rfl,(List.cons.inj h).2⟩
  |cons b q =>rw[aR,aR]at h;exact absurd (List.cons.inj h).1 (by decide)
 |cons a p ih =>
  cases q with
  |nil =>rw[aR,aR]at h;exact absurd (List.cons.inj h).1 (by decide)
  |cons b q =>rw[aR,aR]at h;obtain⟨h1,h2⟩:=List.cons.inj (List.cons.inj h).2;obtain⟨h3,h4⟩:=ih h2;exact⟨by rw[h1,h3],h4⟩
theorem iQ:∀{a b:List Int},HT.lexLt a b=false->HT.lexLt b a=false->a=b
 | [],[],_,_=>rfl
 | [],_::_,h,_=>by rw[HT.lexLt_nil_cons]at h;cases h
 |_::_,[],_,h=>by rw[HT.lexLt_nil_cons]at h;cases h
 |x::a,y::b,h,g=>by
  rw[HT.lexLt_cons]at h g;by_cases z:x=y
  ·subst z;rw[if_pos rfl]at h g;rw[iQ h g]
  ·rw[if_neg z]at h;rw[if_neg (ZM z)]at g;have h:=of_decide_eq_false h;have g:=of_decide_eq_false g;omega
theorem qk{x y:Nm×It}(h:(kyP x).nums=(kyP y).nums):x.1=y.1:=by have h:aR x.2.pl [x.1.1,x.1.2]=aR y.2.pl [y.1.1,y.1.2]:=h;obtain⟨_,h⟩:=yj h;injection h with h1 h2;injection h2 with h2 _;exact Prod.ext h1 h2
theorem AB{ol:Ol}(nd:(ol.map (·.1)).Nodup){x y:Nm×It}(hx:x∈ol)(hy:y∈ol)(h:x.1=y.1):x=y:=oK nd hx hy h
theorem kJ{ol M M':Ol}(nd:(ol.map (·.1)).Nodup)(p:M.Perm ol)(p':M'.Perm ol)(s:M.Pairwise leP)(s':M'.Pairwise leP):M=M':=by refine List.Perm.eq_of_pairwise (le:=leP) (fun a b ha hb h1 h2=>?_) s s' (p.trans p'.symm);exact AB nd (p.mem_iff.mp ha) (p'.mem_iff.mp hb) (qk (iQ h2 h1))
theorem le_lt{ol:Ol}(nd:(ol.map (·.1)).Nodup){x y:Nm×It}(hx:x∈ol)(hy:y∈ol)(ne:x.1≠y.1)(h:leP x y):HT.lexLt (kyP x).nums (kyP y).nums=true:=by
 cases g:HT.lexLt (kyP x).nums (kyP y).nums with
 |true=>rfl
 |false=>exact absurd (qk (iQ g h)) ne
abbrev iC:Stmt:=top 17
abbrev sE:List Str:=["_law_script","_law_k"]
theorem sq:FnScope sE ["_law_script","_law_k"] (ai iC):=⟨rfl,rfl,rfl,by decide +kernel,rfl,by decide +kernel,by decide +kernel⟩
theorem rZ{f:Addr}{fd:FuncData}(F:Fun K "_law_cell_at" "_law_cell_at" iC f fd)(z_len:mg "len" = none):FnOk P w K mg base CX0 1 f fd ["_law_script","_law_k"] (uE K):=by
 refine F.okQ sq (fun vs H Q E h=>?_) (fun cdv A outer s H vs Q E hr h=>?_)
 ·obtain⟨a,ns,k,rfl,_⟩:=h;rfl
 obtain⟨a,ns,k,rfl,hS,hk,q⟩:=h;refine⟨_,(b_c (bf (aq vT (q_v 1) (q_B cV z_len y4 (q_a (q_v 0) am))) (b_1 (aG (au cG (q_v 0) (q_v 1)))) b_0)
   (b_1 (aG ah))),?_⟩
 have hl:((ns.map V.int).length:Int)=(ns.length:Int):=by rw[Zi]
 refine⟨_,rfl,_,rfl,a,_,rfl,.inl hS,_,_,rfl,rfl,_,rfl,il (fun c=>?_) (fun c=>?_)⟩
 ·refine⟨_,rfl,_,rfl,a,_,_,_,rfl,rfl,hS,vk hk (by omega),q⟩
 ·rw[show ge ns k.toNat=0 from vq hk (by omega)]at q;exact q
def qP:Sp:=fun vs H Q _=>∃n:Int,vs=[.int n]/\∀(v:V) (ps:List Int) (H':Hp),Same H H'->PlAt H' v ps->Q v H'
abbrev lJ:Stmt:=top 18
abbrev xV:List Str:=["_law_number","_law_one"]
theorem pf:FnScope xV ["_law_number"] (ai lJ):=⟨rfl,rfl,rfl,by decide +kernel,rfl,by decide +kernel,by decide +kernel⟩
theorem vV{f:Addr}{fd:FuncData}(F:Fun K "_law_place" "_law_place" lJ f fd):FnOk P w K mg base CX0 1 f fd ["_law_number"] qP:=by
 refine F.okQ pf (fun vs H Q E h=>?_) (fun cdv A outer s H vs Q E hr h=>?_)
 ·obtain⟨n,rfl,_⟩:=h;rfl
 obtain⟨n,rfl,q⟩:=h;refine⟨_,(b_c (aD (i:=1) pf.nd (ay iT (ay bF (q_v 0) ah) ah))
   (b_c (bf (aq eN (ay bF (ay bK (q_v 0) ah) ah) ah) (b_1 (aG (bO (q_a (q_v 1) am)))) b_0)
   (b_c (bf (aq eN (ay bF (ay bK (q_v 0) ah) ah) ah) (b_1 (aG (bO (q_a (q_v 1) (q_a (ay iT (ay bF (ay bK (q_v 0) ah) ah) ah) am))))) b_0)
   (b_1 (aG (bO (q_a (ay kj (ay xr (q_v 1) (ay Cf ah ah)) (ay bF (ay bK (q_v 0) ah) ah)) (q_a (ay bF (ay bK (q_v 0) ah) ah) (q_a (ay iT ah (q_v 0)) am))))))))),?_⟩
 refine⟨_,rfl,_,_,rfl,rfl,(by show(0:Int)<3;decide),_,_,rfl,rfl,?_⟩;refine⟨_,rfl,_,_,rfl,rfl,⟨by decide,by decide⟩,_,_,rfl,rfl,(by show(0:Int)<3;decide),rfl,_,rfl,il (fun _=>?_) (fun _=>?_)⟩
 ·refine⟨_,rfl,sz rfl,fun t gt=>?_⟩;exact q _ [_] _ (aj gt _) ⟨t,rfl,af⟩
 refine⟨_,rfl,_,_,rfl,rfl,⟨by decide,by decide⟩,_,_,rfl,rfl,(by show(0:Int)<3;decide),rfl,_,rfl,il (fun _=>?_) (fun _=>?_)⟩
 ·refine⟨_,rfl,_,rfl,_,_,rfl,rfl,⟨by decide,by decide⟩,_,_,rfl,rfl,(by show(0:Int)<3;decide),_,_,rfl,rfl,sz rfl,fun t gt=>?_⟩;exact q _ [_,_] _ (aj gt _) ⟨t,rfl,af⟩
 have h0:=Int.emod_nonneg n (show(3:Int)≠0 by decide);have h1:=Int.emod_lt_of_pos n (show(0:Int)<3 by decide);refine⟨_,rfl,_,_,rfl,rfl,⟨by decide,by decide,by decide⟩,_,_,rfl,rfl,?_,_,rfl,_,_,rfl,rfl,⟨by decide,by decide⟩,_,_,rfl,rfl,(by show(0:Int)<2;decide),_,_,rfl,rfl,?_⟩
 ·exact .inl ⟨by omega,by omega⟩
 refine⟨_,rfl,_,_,rfl,rfl,⟨by decide,by decide⟩,_,_,rfl,rfl,(by show(0:Int)<5;decide),_,rfl,_,_,rfl,rfl,sz rfl,fun t gt=>?_⟩;exact q _ [_,_,_] _ (aj gt _) ⟨t,rfl,af⟩
def pA:Sp:=fun vs H Q _=>∃(mn:Addr) (mvs:List (List Key×V)) (ol:Ol) (u v:V) (one:Option Nm) (o:Nm) (k:Nat) (b:Bool),vs=[u,v,.ref mn]/\H mn=some (.dT mvs)/\Rows H mvs ol/\UpAt H u one/\NameIs H v (nk o)/\Und ol o k one b/\Q (.bl b) H
abbrev lH:Stmt:=top 19
abbrev xU:List Str:=["_law_one","_law_other","_law_mine"]
theorem oZ:FnScope xU ["_law_one","_law_other","_law_mine"] (ai lH):=⟨rfl,rfl,rfl,by decide +kernel,rfl,by decide +kernel,by decide +kernel⟩
theorem vU{f:Addr}{fd:FuncData}(F:Fun K "_law_is_in" "_law_is_in" lH f fd):FnOk P w K mg base CX0 1 f fd ["_law_one","_law_other","_law_mine"] pA:=by
 refine F.okQ oZ (fun vs H Q E h=>?_) (fun cdv A outer s H vs Q E hr h=>?_)
 ·obtain⟨mn,mvs,ol,u,v,one,o,k,b,rfl,_⟩:=h;rfl
 obtain⟨mn,mvs,ol,u,v,one,o,k,b,rfl,hm,R,hu,hv,un,q⟩:=h;obtain⟨vb,rfl,hvb⟩:=id hv;refine⟨_,(b_c (iX Yv (aq de (q_v 0) br) (b_c (bf (aq (AD hr.units) (q_v 0) (q_v 1)) (b_1 (aG cQ)) b_0)
   (b_1 (aD (i:=0) oZ.nd (au aC (bn hr.units (q_v 2) (q_v 0)) ah)))))
   (b_1 (aG cQ))),?_⟩
 try rw[cxK]
 refine⟨fun m σ H'=>H'=H/\∃(u:V) (one:Option Nm),UpAt H u one/\Und ol o m one b/\σ=[some u,some (.ref vb),some (.ref mn)],⟨k,rfl,u,one,hu,un,rfl⟩,?_⟩;rintro m σ H' ⟨rfl,u,one,hu,un,rfl⟩;cases un with
 |none =>obtain rfl:u=.non:=hu;exact⟨_,rfl,rfl,_,rfl,cX rfl q⟩
 |self =>obtain⟨ub,rfl,hub⟩:=id hu;refine⟨_,rfl,rfl,_,rfl,gC (by intro z;cases z) ⟨fun _ _=>False,fun _ _ z=>z.elim,?_⟩⟩;refine⟨_,rfl,_,rfl,ub,vb,[o.1,o.2],[o.1,o.2],rfl,rfl,hub,hvb,_,rfl,?_⟩;rw[decide_eq_true rfl];exact ce q
 |@up m n it _ hn hl un =>
  obtain⟨ub,rfl,hub⟩:=id hu;obtain⟨iv,e1,ia,uv,pv,rfl,e2,e3,e4⟩:=aH R hl;refine⟨_,rfl,rfl,_,rfl,gC (by intro z;cases z) ?_⟩;refine⟨fun σ H2=>H2=H'/\σ=[some uv,some (.ref vb),some (.ref mn)],?_,?_⟩
  ·rintro σ' H2 ⟨rfl,rfl⟩;exact⟨m,Yi m,rfl,uv,it.up,e3,un,rfl⟩
  refine⟨_,rfl,_,rfl,ub,vb,[n.1,n.2],[o.1,o.2],rfl,rfl,hub,hvb,_,rfl,?_⟩;have:¬ ([n.1,n.2]=[o.1,o.2]):=fun z=>hn (by
   injection z with z1 z2;injection z2 with z2 _;exact Prod.ext z1 z2)
  rw[decide_eq_false this];refine aF ?_;refine⟨_,rfl,_,rfl,mn,.ref ia,rfl,e1▸DGet.t (k:=nk n) hm hub,?_⟩;exact⟨ia,_,_,_,rfl,rfl,SqT.of e2,at0,rfl,rfl⟩
def mz:Sp:=fun vs H Q _=>∃(a mn:Addr) (mvs:List (List Key×V)) (ol G:Ol) (ks:List V),vs=[.ref a,.ref mn]/\H a=some (.lst ks)/\H mn=some (.dT mvs)/\Rows H mvs ol/\(ol.map (·.1)).Nodup/\KsAt H G ks/\(∀x∈G,x∈ol)/\G.length<=300/\G.Pairwise (fun x y=>HT.lexLt (kyP x).nums (kyP y).nums=true)/\∀H',Same H H'->Q (.bl true) H'
theorem qu{H:Hp}{G:Ol}{ks:List V}(x:KsAt H G ks){i:Nat}(hi:i<G.length):∃v,ks[i]?=some v/\NameIs H v (nk (G[i]).1):=by
 have hk:i<ks.length:=by rw[<-Zy x];exact hi
 obtain⟨m,hm,hn⟩:=cY x i _ (Zb hk);rw[Zb hi]at hm;cases hm;exact⟨_,Zb hk,hn⟩
abbrev gQ:Stmt:=top 21
abbrev re:List Str:=["_law_some","_law_mine","_law_k"]
theorem jo:FnScope re ["_law_some","_law_mine"] (ai gQ):=⟨rfl,rfl,rfl,by decide +kernel,rfl,by decide +kernel,by decide +kernel⟩
theorem pL{f:Addr}{fd:FuncData}(F:Fun K "_law_in_order" "_law_in_order" gQ f fd)(z_range:mg "range" = none)(z_len:mg "len" = none):FnOk P w K mg base CX0 1 f fd ["_law_some","_law_mine"] mz:=by
 refine F.okQ jo (fun vs H Q E h=>?_) (fun cdv A outer s H vs Q E hr h=>?_)
 ·obtain⟨a,mn,mvs,ol,G,ks,rfl,_⟩:=h;rfl
 obtain⟨a,mn,mvs,ol,G,ks,rfl,ha,hm,R,nd,kk,sub,lG,so,q⟩:=h;refine⟨_,(b_c (gP Yv rfl (An z_range (q_a ah (q_a (q_B cV z_len y4 (q_a (q_v 0) am)) am))) (aU (i:=2) jo.nd) (b_1 (bf (iY (aq (AE hr) (bO (q_a (au aC (bn hr.units (q_v 1) (au cG (q_v 0) (ay iT (q_v 2) ah))) ah) (q_a (au cG (q_v 0) (ay iT (q_v 2) ah)) am))) (bO (q_a (au aC (bn hr.units (q_v 1) (au cG (q_v 0) (q_v 2))) ah) (q_a (au cG (q_v 0) (q_v 2)) am))))) (b_1 (aG cQ)) b_0)))
   (b_1 (aG cQ))),?_⟩
 try rw[cxK]
 have lk:=Zy kk;refine⟨_,rfl,a,_,rfl,.inl (SqL.of ha),_,_,rfl,⟨by decide,by decide,by omega,by omega⟩,?_⟩;refine rD (lo:=1) (fun i σ H'=>Same H H'/\∃o:Option V,σ=[some (.ref a),some (.ref mn),o]) ⟨Same.refl _,none,rfl⟩ (fun i σ H' hi hP D' kD=>?_) (fun σ H' hP=>?_)
 ·obtain⟨sm,o,rfl⟩:=hP;have h1:i<G.length:=by omega
  have h2:i+1<G.length:=by omega
  obtain⟨v1,g1,n1⟩:=qu kk h1;obtain⟨v2,g2,n2⟩:=qu kk h2;have lt:=(y8.mp so) i (i+1) h1 h2 (Yi i);have m1:=sub _ (Z7 h1);have m2:=sub _ (Z7 h2);generalize G[i]=x1 at *;generalize G[i+1]=x2 at *;obtain⟨j1,hj1⟩:=ZF.mp m1;obtain⟨j2,hj2⟩:=ZF.mp m2;have ts:=Same.ts sm;have R':=R.ts ts;obtain⟨w1,e1,ia1,uv1,pv1,rfl,f1,_,⟨pb1,rfl,f3⟩⟩:=aH R' (aS nd hj1);obtain⟨w2,e2,ia2,uv2,pv2,rfl,f2,_,⟨pb2,rfl,f4⟩⟩:=aH R' (aS nd hj2);obtain⟨nb1,rfl,hn1⟩:=n1.ts' ts;obtain⟨nb2,rfl,hn2⟩:=n2.ts' ts;have ha':=sm _ _ ha;have hm':=sm _ _ hm;have at1':atI ks (1+(i:Int)-1)=some (.ref nb1):=by rw[show(1:Int)+(i:Int)-1=(i:Int) by omega];exact bY g1
  have at2':atI ks (1+(i:Int))=some (.ref nb2):=by rw[show(1:Int)+(i:Int)=((i+1:Nat):Int) by omega];exact bY g2
  refine⟨_,rfl,_,rfl,_,rfl,_,_,rfl,rfl,a,_,_,_,rfl,rfl,SqL.of ha',at1',mn,.ref ia1,rfl,e1▸DGet.t (k:=nk x1.1) hm' hn1,ia1,_,_,_,rfl,rfl,SqT.of f1,at1,?_⟩;refine⟨_,rfl,_,rfl,_,_,rfl,rfl,a,_,_,_,rfl,rfl,SqL.of ha',at1',sz rfl,fun t1 gt1=>?_⟩;have v1':=aj gt1 (.tup [.ref pb1,.ref nb1]);refine⟨_,rfl,_,rfl,_,rfl,a,_,_,_,rfl,rfl,SqL.of (v1' _ _ ha'),at2',mn,.ref ia2,rfl,e2▸DGet.t (k:=nk x2.1) (v1' _ _ hm') (v1' _ _ hn2),ia2,_,_,_,rfl,rfl,SqT.of (v1' _ _ f2),at1,?_⟩;refine⟨_,rfl,_,rfl,a,_,_,_,rfl,rfl,SqL.of (v1' _ _ ha'),at2',sz rfl,fun t2 gt2=>?_⟩;have v2':=aj gt2 (.tup [.ref pb2,.ref nb2]);have vv:=v1'.trans v2';refine⟨t1,t2,pb1,nb1,pb2,nb2,x1.2.pl,[x1.1.1,x1.1.2],x2.2.pl,[x2.1.1,x2.1.2],rfl,rfl,v2' _ _ af,af,vv _ _ f3,vv _ _ hn1,vv _ _ f4,vv _ _ hn2,_,rfl,?_⟩;rw[show HT.lexLt (aR x1.2.pl [x1.1.1,x1.1.2]) (aR x2.2.pl [x2.1.1,x2.1.2])=true from lt];exact aF (kD _ _ ⟨sm.trans vv,_,rfl⟩)
 ·obtain⟨sm,o,rfl⟩:=hP;exact q _ sm
theorem zZ{xs:List V}{k:Int}(h0:0<=k):bM xs none (some k)=xs.take k.toNat:=by
 unfold bM;rw[HT.sIx_none,oX h0,List.drop_zero,Nat.sub_zero];rcases Nat.le_total k.toNat xs.length with h|h
 ·rw[Nat.min_eq_left h]
 ·rw[Nat.min_eq_right h,ZJ (Ze _),ZJ h]
theorem xY{xs:List V}{v:V}(h:xs.getLast?=some v):atI xs (-1)=some v:=by obtain⟨ys,rfl⟩:=List.getLast?_eq_some_iff.mp h;exact vm ys v
theorem LowI.other{H2 H:Hp}{D p:Addr}{M:Ol}{kls:List (OK1×Addr)}{ks ks':List V}(x:LowI P w H2 H D M kls)(hp:H p=some (.lst ks))(ne:∀e∈kls,e.2≠p):LowI P w H2 (upd H p (.lst ks')) D M kls:=by have ts:=dq (ks':=ks') hp;refine⟨⟨rX x.lo.od (ad (rW x.lo.od.ob hp)) ts,fun e he=>?_,x.lo.al⟩,x.nl,x.nd,x.le⟩;obtain⟨u,ks0,h1,h2,h3⟩:=x.lo.gr e he;exact⟨u,ks0,h1,by rw[ad (ne e he)];exact h2,h3.ts ts⟩
def Fr(it:It):Prop:=it.dn=false/\it.wh=none/\it.fo=false
def pz(P:Program)(w:World):Sp:=fun vs H Q _=>∃(a mn:Addr) (mvs:List (List Key×V)) (ol:Ol) (out:List DI) (rs:List V),vs=[.ref a,.ref mn]/\H a=some (.lst rs)/\RwsAt H out rs/\H mn=some (.dT mvs)/\Rows H mvs ol/\(ol.map (·.1)).Nodup/\(∀x∈out,x.2∈ol)/\(∀x∈ol,Fr x.2)/\out.length<=300/\Wk [] out /\
 ∀(D:Addr) (H':Hp) (kls:List (OK1×Addr)),Same H H'->H D=none->kls.length<=300->LowAt P w H' D (out.map Prod.snd) kls->Q (.ref D) H'
theorem uA{H:Hp}{out:List DI}{rs:List V}(x:RwsAt H out rs):∀(i:Nat) (v:V),rs[i]?=some v->∃m,out[i]?=some m/\RwAt H v m:=by
 induction x with
 |nil=>intro i v h;simp at h
 |cons h _ ih =>
  intro i v hv;cases i with
  |zero=>cases hv;exact⟨_,rfl,h⟩
  |succ i=>exact ih i v hv
abbrev AbAt(H:Hp)(ab:List Nm)(vs:List V):Prop:=Paired (fun n v=>NameIs H v (nk n)) ab vs
theorem AbAt.ts{H H':Hp}{ab:List Nm}{vs:List V}(x:AbAt H ab vs)(s:TS H H'):AbAt H' ab vs:=Paired.mapP x fun _ _ z=>z.ts' s
theorem mj{α β:Type}{R:α->β->Prop}:∀{a:List α} {b:List β} (n:Nat),Paired R a b->Paired R (a.take n) (b.take n)
 |_,_,0,_=>.nil
 |_,_,_+1,.nil=>.nil
 |_,_,n+1,.cons h t=>.cons h (mj n t)
theorem jD{α β:Type}{R:α->β->Prop}:∀{a:List α} {b:List β} {i:Nat} {x:α},Paired R a b->a[i]?=some x->∃y,b[i]?=some y/\R x y
 |_,_,0,_,.cons h _,e=>by cases e;exact⟨_,rfl,h⟩
 |_,_,i+1,_,.cons _ t,e=>jD (i:=i) t e
abbrev jG:Stmt:=top 22
abbrev vd:List Str:=["_law_rows","_law_mine","_law_above","_law_groups_here","_law_row","_law_depth","_law_name","_law_text","_law_done","_law_whom","_law_folded","_law_up"]
theorem aV:FnScope vd ["_law_rows","_law_mine"] (ai jG):=⟨rfl,rfl,rfl,by decide +kernel,rfl,by decide +kernel,by decide +kernel⟩
theorem uc{f:Addr}{fd:FuncData}(F:Fun K "_law_groups" "_law_groups" jG f fd)(z_isinstance:mg "isinstance" = none)(z_tuple:mg "tuple" = none)(z_bool:mg "bool" = none)(z_len:mg "len" = none):FnOk P w K mg base CX0 1 f fd ["_law_rows","_law_mine"] (pz P w):=by
 refine F.okQ aV (fun vs H Q E h=>?_) (fun cdv A outer s H vs Q E hr h=>?_)
 ·obtain⟨a,mn,mvs,ol,out,rs,rfl,_⟩:=h;rfl
 obtain⟨a,mn,mvs,ol,out,rs,rfl,ha,rw',hm,R,nd,sub,fr,l3,wk,q⟩:=h;refine⟨_,(b_c (aD (i:=2) aV.nd (cP am))
   (b_c (aD (i:=3) aV.nd xA)
   (b_c (gP Yv rfl (ik (q_v 0)) (aU (i:=4) aV.nd) (b_c (bf (t_w (dv (iY (dZ (q_B mX z_isinstance cm (q_a (q_v 4) (q_a (sg z_tuple rj) am))))) (dv (aq rV (q_B cV z_len y4 (q_a (q_v 4) am)) ah) (fD (fe hr.units (au aC (q_v 4) ah) (q_v 1)))))) (b_1 (aG br)) b_0)
   (b_c (Cy (q_v 4) (mY rfl (dN (aU (i:=5) aV.nd) (dN (aU (i:=6) aV.nd) (dN (aU (i:=7) aV.nd) (dN (aU (i:=8) aV.nd) (dN (aU (i:=9) aV.nd) (dN (aU (i:=10) aV.nd) rG))))))))
   (b_c (bf (t_w (dv (dZ (q_B mX z_isinstance cm (q_a (q_v 5) (q_a (sg z_bool lV) am)))) (dv (aq vT (q_v 5) ah) (fD (aq oO (q_v 5) (q_B cV z_len y4 (q_a (q_v 2) am))))))) (b_1 (aG br)) b_0)
   (b_c (aD (i:=2) aV.nd (dQ tG (q_v 2) eQ (dC (q_v 5))))
   (b_c (aD (i:=11) aV.nd br)
   (b_c (kG (bf (aq oO (q_v 5) ah) (b_1 (aD (i:=11) aV.nd (au cG (q_v 2) (CY CG ah)))) b_0))
   (b_c (bf (t_w (dv (aq (kl hr.units) (au aC (bn hr.units (q_v 1) (q_v 6)) ah) (q_v 11)) (dv (aq rV (q_v 7) (au aC (bn hr.units (q_v 1) (q_v 6)) ah)) (dv (aq tW (q_v 8) cQ) (dv (aq de (q_v 9) br) (fD (aq tW (q_v 10) cQ))))))) (b_1 (aG br)) b_0)
   (b_c (bV (kz (mq hr.units (q_v 3) (q_v 11) (cP am)) (q_v 6)))
   (b_1 (bV (kz (q_v 2) (q_v 6)))))))))))))
   (b_1 (aG (q_v 3)))))),?_⟩
 try rw[cxK]
 rw[rp,rq];refine⟨sz rfl,fun Ab0 gAb=>?_⟩;have wA:=aj gAb (.lst []);have eA:upd H Ab0 (.lst []) Ab0=some (.lst []):=af;generalize upd H Ab0 (.lst [])=H1 at wA eA ⊢;intro D gD;have wD:=aj gD (odO P w D []);have eD:upd H1 D (odO P w D []) D=some (odO P w D []):=af;generalize upd H1 D (odO P w D [])=H2 at wD eD ⊢;have w02:=wA.trans wD;have gD0:H D=none:=by
  cases z:H D with
  |none=>rfl
  |some o=>rw[wA _ _ z]at gD;cases gD
 refine⟨_,rfl,a,rfl,⟨rs,SqL.of (w02 _ _ ha)⟩,?_⟩;have nDa:∀{b:Addr} {o:HO},H b=some o->b≠D:=fun e z=>by rw[z,gD0]at e;cases e
 refine ii (xs:=rs) (fun i σ H'=>But D H2 H'/\∃(kls:List (OK1×Addr)) (Ab:Addr) (ab:List Nm) (avs:List V) (o4 o5 o6 o7 o8 o9 o10 o11:Option V),LowI P w H2 H' D ((out.take i).map Prod.snd) kls/\H' Ab=some (.lst avs)/\AbAt H' ab avs/\ab.length<=i/\Wk ab (out.drop i)/\σ=[some (.ref a),some (.ref mn),some (.ref Ab),some (.ref D),o4,o5,o6,o7,o8,o9,o10,o11]) ⟨fun _ _ z _=>z,[],Ab0,[],[],none,none,none,none,none,none,none,none,⟨⟨⟨eD,(fun e he=>by cases he),.nil⟩,(fun e he=>by cases he),(fun m hm=>by simp at hm)⟩,(fun e he=>by cases he),.nil,ZO _⟩,wD _ _ eA,.nil,ZO _,wk,rfl⟩ (fun i σ H' _ hP=>SqL.of (hP.1 _ _ (w02 _ _ ha) (nDa ha))) (fun i v σ H' hv hP D' kD=>?_) (fun σ H' hP=>?_)
 ·obtain⟨bt,kls,Ab,ab,avs,o4,o5,o6,o7,o8,o9,o10,o11,lo,eAb,aa,lab,wk',rfl⟩:=hP;have sH:Same H H':=fun b o e=>bt _ _ (w02 _ _ e) (nDa e);obtain⟨x,hx,⟨ra,nv,rfl,er,hn⟩⟩:=uA rw' i v hv;have er:=sH _ _ er;have hn:=hn.ts' (Same.ts sH);obtain⟨nb,rfl,hnb⟩:=id hn;obtain⟨d,m⟩:=x;have ed:out.drop i=(d,m)::out.drop (i+1):=by have:=ZC.mp hx;rw[List.drop_eq_getElem_cons this.1,this.2]
  rw[ed]at wk';cases wk' with
  |cons d0 dl du wk' =>
  have mo:m∈ol:=sub (d,m) (ZK hx);obtain⟨fr1,fr2,fr3⟩:=fr m mo;obtain⟨jj,hj⟩:=ZF.mp mo;have R':=R.ts (Same.ts sH);obtain⟨iv,e1,ia,uv,pv,rfl,e2,e3,e4⟩:=aH R' (aS nd hj);rw[fr1,fr2,fr3]at er e2;have hm':=sH _ _ hm;have lav:=Zy aa;refine⟨_,rfl,.ref ra,"tuple",.type "tuple",true,rfl,.tup er,(yr (.tup er)).trans (by rw[fO er (b:=true) rfl]),_,rfl,aF ?_⟩;refine⟨_,rfl,ra,_,rfl,.inr (SqT.of er),rfl,_,rfl,cX rfl ?_⟩;refine⟨_,rfl,ra,_,_,_,rfl,rfl,SqT.of er,at1,_,rfl,mn,some (.ref ia),rfl,e1▸DGet.t (k:=nk m.1) hm' hnb,_,rfl,aF ?_⟩;refine⟨_,rfl,ra,_,rfl,SqT.of er,rfl,_,_,rfl,_,_,rfl,_,_,rfl,_,_,rfl,_,_,rfl,_,_,rfl,rfl,?_⟩;refine⟨_,rfl,.int d,"bool",.type "int",false,rfl,.int d,oy (H:=H') (.int d),_,rfl,aF ?_⟩;refine⟨_,rfl,_,_,rfl,rfl,_,rfl,xp (by omega) ?_⟩;refine⟨_,rfl,_,rfl,Ab,avs,rfl,.inl (SqL.of eAb),_,_,rfl,rfl,_,rfl,xp (by omega) ?_⟩;refine⟨_,rfl,_,rfl,_,rfl,Ab,avs,rfl,SqL.of eAb,fun p gp=>?_⟩;rw[zZ d0];have wp:=aj gp (.lst (avs.take d.toNat));have ep:upd H' p (.lst (avs.take d.toNat)) p=some (.lst (avs.take d.toNat)):=af;have np2:H2 p=none:=by
   cases z:H2 p with
   |none=>rfl
   |some o =>
    by_cases y:p=D
    ·rw[y,lo.lo.od.ob]at gp;cases gp
    ·rw[bt _ _ z y]at gp;cases gp
  have npk:∀e∈kls,e.2≠p:=fun e he z=>by obtain⟨_,_,_,g2,_⟩:=lo.lo.gr e he;rw[z,gp]at g2;cases g2
  have npD:p≠D:=fun z=>by rw[z,lo.lo.od.ob]at gp;cases gp
  have bt1:But D H2 (upd H' p (.lst (avs.take d.toNat))):=fun b o e hb=>wp _ _ (bt _ _ e hb);have lo1:=lo.same wp;have aa1:=AbAt.ts (mj d.toNat aa) (Same.ts wp);have er1:=wp _ _ er;have hm1:=wp _ _ hm';have hnb1:=wp _ _ hnb;have e21:=wp _ _ e2;have e31:=e3.ts (Same.ts wp);generalize upd H' p (.lst (avs.take d.toNat))=H3 at ep bt1 lo1 aa1 er1 hm1 hnb1 e21 e31 ⊢;have lt:(ab.take d.toNat).length=d.toNat:=by rw[ZN];omega
  have lv:=Zy aa1;refine⟨fun σ' H''=>H''=H3/\∃uv':V,UpAt H3 uv' m.2.up/\σ'=[some (.ref a),some (.ref mn),some (.ref p),some (.ref D),some (.ref ra),some (.int d),some (.ref nb),some (.str m.2.tx),some (.bl false),some .non,some (.bl false),some uv'],?_,?_⟩
  ·refine⟨_,rfl,_,_,rfl,rfl,_,rfl,il (fun c=>?_) (fun c=>?_)⟩
   ·have hd:d≠0:=by omega
    rw[if_neg hd]at du;have hlt:d.toNat-1<ab.length:=by omega
    rw[Zb hlt]at du;have eab:(ab.take d.toNat)[d.toNat-1]?=some ab[d.toNat-1]:=by rw[List.getElem?_take_of_lt (by omega),Zb hlt]
    obtain⟨y,hy,hny⟩:=jD aa1 eab;refine⟨_,rfl,_,rfl,p,_,_,_,rfl,rfl,SqL.of ep,(show atI (avs.take d.toNat) (-1)=some y from ?_),rfl,y,?_,rfl⟩
    ·refine xY ?_;rw[List.getLast?_eq_getElem?,<-lv,lt];exact hy
    ·rw[du];exact hny
   ·have hd:d=0:=by omega
    rw[if_pos hd]at du;refine⟨rfl,.non,?_,rfl⟩;rw[du];rfl
  rintro σ' H'' ⟨rfl,uv',hu',rfl⟩;obtain⟨a1,a2,a3⟩:=fX e31;obtain⟨b1,b2,b3⟩:=fX hu';refine⟨_,rfl,_,rfl,mn,.ref ia,rfl,e1▸DGet.t (k:=nk m.1) hm1 hnb1,ia,_,_,_,rfl,rfl,SqT.of e21,at0,_,rfl,dk m.2.up,dk m.2.up,a1,b1,cD a2 (by omega),cD b2 (by omega),_,rfl,?_⟩;rw[uR,decide_eq_true rfl];refine aF ?_;refine⟨_,rfl,_,rfl,_,rfl,mn,.ref ia,rfl,e1▸DGet.t (k:=nk m.1) hm1 hnb1,ia,_,_,_,rfl,rfl,SqT.of e21,at2,rfl,_,rfl,cX rfl ?_⟩;refine⟨_,rfl,false,false,rfl,rfl,_,rfl,aF ?_⟩;refine⟨_,rfl,rfl,_,rfl,cX rfl ?_⟩;refine⟨_,rfl,false,false,rfl,rfl,_,rfl,aF ?_⟩;obtain⟨ke,hk,hke⟩:=hu'.key;refine⟨_,rfl,D,rfl,⟨kls,lo1.lo.od.ob⟩,_,rfl,sz rfl,fun l0 g0=>?_⟩;have hk0:ic (upd H'' l0 (.lst [])) uv' ke:=by
   cases ke with
   |none=>exact hk
   |some q=>exact⟨hk.1,aj g0 (.lst []) _ _ hk.2⟩
  have w0:=aj g0 (.lst []);have lo0:=lo1.same w0;have ltk:((out.take i).map Prod.snd).length<=300:=by rw[Zi];exact Zx (List.length_take_le' _ _) l3
  have et:(out.take (i+1)).map Prod.snd=(out.take i).map Prod.snd++[m]:=by rw[List.take_succ,hx,Z4];rfl
  have nl0p:p≠l0:=fun z=>by rw[z,g0]at ep;cases ep
  have ldab:(ab.take d.toNat++[m.1]).length<=i+1:=by rw[Zn,lt];show d.toNat+1<=i+1;omega
  have lav':(avs.take d.toNat).length<=300:=by rw[<-lv,lt];have:=ZC.mp hx;omega
  refine⟨kls,ke,l0,lo0.lo.od,hk0,rfl,(by have:=lo1.le;omega),fun l hl'=>?_,fun hl'=>?_⟩
  ·rw[hke]at hl';obtain⟨ks',f1,f2,f3,f4⟩:=lo0.old hl' ⟨nb,rfl,w0 _ _ hnb1⟩;obtain⟨e',he',_,hle⟩:=gJ hl';have npl:p≠l:=fun z=>npk e' he' (hle.trans z.symm);have e5p:upd (upd H'' l0 (.lst [])) l (.lst (ks'++[.ref nb])) p=some (.lst (avs.take d.toNat)):=by rw[ad npl];exact w0 _ _ ep
   have t5:TS H'' (upd (upd H'' l0 (.lst [])) l (.lst (ks'++[.ref nb]))):=fun b zs e=>dq f1 _ _ (w0 _ _ e);have t6:=dq (ks':=avs.take d.toNat++[.ref nb]) e5p;refine⟨.inl ⟨rfl,_,SqL.of f1⟩,_,rfl,l,_,_,rfl,rfl,f1,bG (by omega),?_⟩;refine⟨_,rfl,.inl ⟨rfl,_,SqL.of e5p⟩,_,rfl,p,_,_,rfl,rfl,e5p,bG (by omega),kD _ _ ⟨fun b ob eb hb=>?_,kls,p,ab.take d.toNat++[m.1],_,_,_,_,_,_,_,_,_,by rw[et];exact f4.other e5p npk,af,?_,ldab,wk',rfl⟩⟩
   ·have hbl:b≠l:=fun z=>by rw[z,f3]at eb;cases eb
    have hbp:b≠p:=fun z=>by rw[z,np2]at eb;cases eb
    rw[ad hbp,ad hbl];exact w0 _ _ (bt1 _ _ eb hb)
   ·exact dB (AbAt.ts (AbAt.ts aa1 t5) t6) (.cons ⟨nb,rfl,t6 _ _ (t5 _ _ hnb1)⟩ .nil)
  ·rw[hke]at hl';obtain⟨n2,nD0,f4⟩:=lo1.new hl' ⟨nb,rfl,hnb1⟩ hk hke g0 bt1;have e5p:upd (upd (upd H'' l0 (.lst [])) D (odO P w D (kls++[(ke,l0)]))) l0 (.lst [.ref nb]) p=some (.lst (avs.take d.toNat)):=by rw[ad nl0p,ad npD,ad nl0p];exact ep
   have t5:TS H'' (upd (upd (upd H'' l0 (.lst [])) D (odO P w D (kls++[(ke,l0)]))) l0 (.lst [.ref nb])):=fun b zs e=>by
    have h1:b≠l0:=fun z=>by rw[z,g0]at e;cases e
    have h2:b≠D:=fun z=>by rw[z,lo1.lo.od.ob]at e;unfold odO at e;cases e
    rw[ad h1,ad h2,ad h1];exact e
   have t6:=dq (ks':=avs.take d.toNat++[.ref nb]) e5p;have npk2:∀e∈kls++[(ke,l0)],e.2≠p:=fun e he=>by
    rcases ZA.mp he with he|he
    ·exact npk e he
    ·rw[Zu]at he;subst he;exact ZM nl0p
   refine⟨.inl ⟨rfl,[],SqL.of (by rw[ad nD0];exact af)⟩,_,rfl,l0,[],_,rfl,rfl,by rw[ad nD0];exact af,sz rfl,?_⟩;refine⟨_,rfl,.inl ⟨rfl,_,SqL.of e5p⟩,_,rfl,p,_,_,rfl,rfl,e5p,bG (by omega),kD _ _ ⟨fun b ob eb hb=>?_,kls++[(ke,l0)],p,ab.take d.toNat++[m.1],_,_,_,_,_,_,_,_,_,by rw[et];exact f4.other e5p npk2,af,?_,ldab,wk',rfl⟩⟩
   ·have hbl:b≠l0:=fun z=>by rw[z,n2]at eb;cases eb
    have hbp:b≠p:=fun z=>by rw[z,np2]at eb;cases eb
    rw[ad hbp,ad hbl,ad hb,ad hbl];exact bt1 _ _ eb hb
   ·exact dB (AbAt.ts (AbAt.ts aa1 t5) t6) (.cons ⟨nb,rfl,t6 _ _ (t5 _ _ hnb1)⟩ .nil)
 ·obtain⟨bt,kls,Ab,ab,avs,o4,o5,o6,o7,o8,o9,o10,o11,lo,eAb,aa,lab,wk',rfl⟩:=hP;have lrs:=Zy rw';rw[ZJ (by omega)]at lo;have le:=lo.le;rw[Zi]at le;exact⟨_,rfl,q D H' kls (fun b o e=>bt _ _ (w02 _ _ e) (nDa e)) gD0 (Zx le l3) lo.lo⟩
def nmD(n:Nm):PyData:=.tuple [.int n.1,.int n.2]
def bJ(ns:List Nm):PyData:=.list (ns.map nmD)
theorem xq{H:Hp}{v:V}{n:Nm}(h:NameIs H v (nk n)):Dt H (nmD n) v:=(fX (u:=some n) h).1
theorem qm{H:Hp}:∀{ns:List Nm} {ks:List V},AbAt H ns ks->DtAll H (ns.map nmD) ks
 |_,_,.nil=>by simp[DtAll]
 |_,_,.cons h t=>by rw[Zz];simp only[DtAll];exact⟨_,_,rfl,xq h,qm t⟩
theorem qq:∀ns:List Nm,PyData.canLayAll0 (ns.map nmD)=true/\PyData.depthAll (ns.map nmD)<=2
 | []=>⟨rfl,by simp[PyData.depthAll]⟩
 |n::ns=>by obtain⟨h1,h2⟩:=qq ns;rw[Zz];refine⟨by simp[PyData.canLayAll0,h1,nmD,PyData.canLay0],?_⟩;simp only[PyData.depthAll,nmD,PyData.depth];omega
theorem dL{H:Hp}{l:Addr}{ns:List Nm}{ks:List V}(hl:H l=some (.lst ks))(h:AbAt H ns ks):Dt H (bJ ns) (.ref l)/\SeqAt.shaped (bJ ns)=true/\PyData.eqv (bJ ns) (bJ ns)=true:=by
 obtain⟨h1,h2⟩:=qq ns;have hc:(bJ ns).canLay0=true:=by simpa[bJ,PyData.canLay0]using h1
 refine⟨?_,cD hc (by simp only[bJ,PyData.depth];omega),SeqAt.eqv_refl _ hc⟩;simp only[bJ,Dt];exact⟨l,_,rfl,.inl hl,qm h⟩
theorem qr(ns:List Nm):PyData.eqv (bJ ns) (bJ [])=decide (ns=[]):=by
 cases ns with
 |nil=>rfl
 |cons n ns=>rfl
theorem gF{H:Hp}{M:Ol}{ks:List V}(h:KsAt H M ks):AbAt H (M.map (·.1)) ks:=by
 induction h with
 |nil=>exact .nil
 |cons a _ ih=>exact .cons a ih
def rwD(x:DI):PyData:=.tuple [.int x.1,nmD x.2.1,.str x.2.2.tx,.bool x.2.2.dn,(match x.2.2.wh with|none=>.none|some i=>.int i),.bool x.2.2.fo]
theorem xP{H:Hp}(o:Option Int):Dt H (match o with|none=>.none|some i=>.int i) (whV o):=by
 cases o with
 |none=>simp only[whV,Dt]
 |some i=>simp only[whV,Dt]
theorem Cv{H:Hp}{v:V}{x:DI}(h:RwAt H v x):Dt H (rwD x) v:=by obtain⟨a,nv,rfl,h1,h2⟩:=h;have w:=xP (H:=H) x.2.2.wh;have n:=xq h2;simp only[rwD,Dt,DtAll];exact⟨a,_,rfl,.inl h1,_,_,rfl,rfl,_,_,rfl,n,_,_,rfl,rfl,_,_,rfl,rfl,_,_,rfl,w,_,_,rfl,rfl,rfl⟩
theorem qG{H:Hp}:∀{out:List DI} {rs:List V},RwsAt H out rs->DtAll H (out.map rwD) rs
 |_,_,.nil=>by simp[DtAll]
 |_,_,.cons h t=>by rw[Zz];simp only[DtAll];exact⟨_,_,rfl,Cv h,qG t⟩
theorem qH:∀out:List DI,(∀x∈out,PyData.strOk x.2.2.tx=true)->PyData.canLayAll0 (out.map rwD)=true/\PyData.depthAll (out.map rwD)<=3
 | [],_=>⟨rfl,by simp[PyData.depthAll]⟩
 |x::out,h=>by
  obtain⟨h1,h2⟩:=qH out fun y hy=>h y (Zh _ hy);have hx:=h x Zr;rw[Zz];refine⟨?_,?_⟩
  ·cases hw:x.2.2.wh<;>simp[PyData.canLayAll0,h1,rwD,nmD,PyData.canLay0,hx,hw]
  ·simp only[PyData.depthAll,rwD,nmD,PyData.depth];cases hw:x.2.2.wh<;>simp only[PyData.depth]<;>omega
theorem uB{H:Hp}{l:Addr}{out:List DI}{rs:List V}(hl:H l=some (.lst rs))(h:RwsAt H out rs)(hs:∀x∈out,PyData.strOk x.2.2.tx=true):Dt H (.list (out.map rwD)) (.ref l)/\SeqAt.shaped (.list (out.map rwD))=true/\PyData.eqv (.list (out.map rwD)) (.list (out.map rwD))=true:=by
 obtain⟨h1,h2⟩:=qH out hs;have hc:(PyData.list (out.map rwD)).canLay0=true:=by simpa[PyData.canLay0]using h1
 refine⟨?_,cD hc (by simp only[PyData.depth];omega),SeqAt.eqv_refl _ hc⟩;simp only[Dt];exact⟨l,_,rfl,.inl hl,qG h⟩
theorem xH{α:Type}{key:α->List Int}{z:α}{l:List α}{p:Array Nat}(hp:POk l.length p)(hs:LS (fun i j=>HT.lexLt ((l.map key).getD i []) ((l.map key).getD j [])) p l.length):(p.toList.map fun i=>l.getD i z).Pairwise (fun x y=>HT.lexLt (key y) (key x)=false)/\(p.toList.map fun i=>l.getD i z).Perm l:=by
 have ep:p.toList.Perm (List.range l.length):=by have:=Array.perm_iff_toList_perm.mp hp;simpa using this
 refine⟨?_,?_⟩
 ·rw[YQ];have hz:p.size=l.length:=by have:=hp.size_eq;simpa using this
  rw[y8];intro i j hi hj hij;rw[Zk]at hi hj;have lx:=(hs i j hij (by omega)).1;have e1:gA p i=p.toList[i]'(by rw[Zk];exact hi):=by rw[aA,Zd,Zb (by rw[Zk];exact hi)];rfl
  have e2:gA p j=p.toList[j]'(by rw[Zk];exact hj):=by rw[aA,Zd,Zb (by rw[Zk];exact hj)];rfl
  have m1:p.toList[i]'(by rw[Zk];exact hi)<l.length:=Yr.mp (ep.mem_iff.mp (Z7 _));have m2:p.toList[j]'(by rw[Zk];exact hj)<l.length:=Yr.mp (ep.mem_iff.mp (Z7 _));dsimp only at lx;rw[e1,e2]at lx;generalize p.toList[i]'(by rw[Zk];exact hi)=a at *;generalize p.toList[j]'(by rw[Zk];exact hj)=b at *;have ga:∀k,k<l.length->(l.map key).getD k []=key (l.getD k z):=fun k hk=>by simp[hk]
  rw[ga a m1,ga b m2]at lx;exact lx
 ·have:=ep.map fun i=>l.getD i z;have e:((List.range l.length).map fun i=>l.getD i z)=l:=by refine List.ext_getElem (by simp) fun i h1 h2=>?_;simp[h2]
  rw[e]at this;exact this
def nI(n:Nm):List Int:=[n.1,n.2]
theorem AA{n m:Nm}(h:nI n=nI m):n=m:=by injection h with h1 h2;injection h2 with h2 _;exact Prod.ext h1 h2
theorem pQ{H:Hp}{ns:List Nm}{vs:List V}(h:AbAt H ns vs):∃as:List Addr,vs=as.map V.ref/\as.length=ns.length/\∀(i:Nat) (a:Addr) (k:List Int),as[i]?=some a->(ns.map nI)[i]?=some k->H a=some (.tup (k.map V.int)):=by
 induction h with
 |nil=>exact⟨[],rfl,rfl,fun i a k e=>by simp at e⟩
 |cons h _ ih =>
  obtain⟨as,e1,e2,e3⟩:=ih;obtain⟨b,rfl,hb⟩:=h;refine⟨b::as,by rw[e1];rfl,by rw[Zt,Zt,e2],fun i a k g1 g2=>?_⟩;cases i with
  |zero =>cases g1;cases g2;exact hb
  |succ i=>exact e3 i a k g1 g2
theorem pP{H:Hp}{ns:List Nm}{vs:List V}(x:AbAt H ns vs):∀(l:List Nat),(∀i∈l,i<ns.length)->AbAt H (l.map fun i=>ns.getD i (0,0)) (l.map fun i=>vs.getD i .non):=fun l=>by
 induction l with
 |nil=>intro _;exact .nil
 |cons i l ih =>intro h;have hi:=h i Zr;obtain⟨y,hy,hn⟩:=jD x (Zb hi);refine .cons ?_ (ih fun j hj=>h j (Zh _ hj));dsimp only;rw[Zd,Zd,hy,Zb hi];exact hn
theorem yA{a b:List Nm}(p:a.Perm b)(s:a.Pairwise (fun x y=>HT.lexLt (nI y) (nI x)=false))(s':b.Pairwise (fun x y=>HT.lexLt (nI y) (nI x)=false)):a=b :=
 List.Perm.eq_of_pairwise (le:=fun x y=>HT.lexLt (nI y) (nI x)=false) (fun _ _ _ _ h1 h2=>AA (iQ h2 h1)) s s' p
theorem LowAt.sameT{T:Addr}{H H':Hp}{D:Addr}{M:Ol}{kls:List (OK1×Addr)}{q:Str}{pos:Pos}(x:LowAt P w H D M kls)(s:SameT T H H')(tab:aQ q T pos H):LowAt P w H' D M kls:=by
 have ts:=dY s tab;obtain⟨ps,t1,_⟩:=id tab;refine⟨rX x.od ?_ ts,fun e he=>?_,x.al⟩
 ·rw[x.od.ob];refine s _ _ x.od.ob fun z=>?_;have:=x.od.ob;rw[z,t1]at this;unfold odO at this;cases this
 ·obtain⟨u,ks,h1,h2,h3⟩:=x.gr e he;refine⟨u,ks,h1,s _ _ h2 fun z=>?_,h3.ts ts⟩;rw[z,t1]at h2;cases h2
theorem yg{M:Ol}{st o1 o2:List DI}{k1 k2:Nat}(h:Dfs M st o1 k1)(g:Dfs M st o2 k2):o1=o2:=by
 induction h generalizing o2 k2 with
 |nil=>cases g;rfl
 |cons _ ih =>
  cases g with
  |cons g=>rw[ih g]
theorem Ah{ol M:Ol}(nd:(ol.map (·.1)).Nodup)(pe:M.Perm ol)(so:M.Pairwise leP)(u:Option Nm):(grp M u).Pairwise (fun x y=>HT.lexLt (kyP x).nums (kyP y).nums=true):=by have ndM:(M.map (·.1)).Nodup:=(pe.map _).nodup_iff.mpr nd;have ne:M.Pairwise fun x y=>x.1≠y.1:=YQ.mp ndM;have both:=so.and ne;refine List.Pairwise.filter _ (both.imp_of_mem fun{a b} ha hb h=>?_);exact le_lt nd (pe.mem_iff.mp ha) (pe.mem_iff.mp hb) h.2 h.1
def BI(C T:Addr):Sp:=fun vs H Q _=>∃(p d g mn:Addr) (mvs:List (List Key×V)) (ol:Ol) (B:Nat),vs=[.ref p,.ref mn]/\OlAt C H p d g ol/\H mn=some (.dT mvs)/\Rows H mvs ol/\ol.length<=60/\(ol.map (·.1)).Nodup/\(∀x∈ol,Fr x.2)/\(∀x∈ol,PyData.strOk x.2.tx=true)/\nL ol B/\(∀x∈ol,∀q,x.2.up=some q->(look ol q).isSome=true)/\aQ dP T (eK dA) H/\∀H',Q (.bl true) H'
abbrev eZ:Stmt:=top 23
abbrev nG:List Str:=["_law_plain","_law_mine","_law_rows","_law_groups_here","_law_up","_law_some"]
theorem bX:FnScope nG ["_law_plain","_law_mine"] (ai eZ):=⟨rfl,rfl,rfl,by decide +kernel,rfl,by decide +kernel,by decide +kernel⟩
theorem mM{f C T:Addr}{fd:FuncData}(F:Fun K "_law_rows_right" "_law_rows_right" eZ f fd)(M_rows:MFn P w K mg base 7 C "rows" ["self"] (uI C T))(M_below:MFn P w K mg base 6 C "below" ["self","up"] (qJ C T))(F_groups:Fn P w K mg base 1 "_law_groups" ["_law_rows","_law_mine"] (pz P w))(F_in_order:Fn P w K mg base 1 "_law_in_order" ["_law_some","_law_mine"] mz)(z_isinstance:mg "isinstance" = none)(z_list:mg "list" = none)(z_len:mg "len" = none)(z_sorted:mg "sorted" = none):FnOk P w K mg base CX0 8 f fd ["_law_plain","_law_mine"] (BI C T):=by
 refine F.okQ bX (fun vs H Q E h=>?_) (fun cdv A outer s H vs Q E hr h=>?_)
 ·obtain⟨p,d,g,mn,mvs,ol,B,rfl,_⟩:=h;rfl
 obtain⟨p,d,g,mn,mvs,ol,B,rfl,hO,hm,Rm,l60,nd,fr,sk,tb,ku,tab,q⟩:=h;obtain⟨kvs0,S0,R0⟩:=id hO;obtain⟨⟨dx,h1⟩,_,_,_⟩:=id S0;refine⟨_,(b_c (aD (i:=2) bX.nd (eC M_rows (hr.mono (by decide)) (q_v 0)))
   (b_c (bf (t_w (dv (iY (dZ (q_B mX z_isinstance cm (q_a (q_v 2) (q_a (sg z_list fj) am))))) (fD (aq rV (q_B cV z_len y4 (q_a (q_v 2) am)) (q_B zY z_len y4 (q_a (q_v 1) am)))))) (b_1 (aG cQ)) b_0)
   (b_c (aD (i:=3) bX.nd (gM F_groups (hr.mono (by decide)) (q_a (q_v 2) (q_a (q_v 1) am))))
   (b_c (bf (t_w (dv (aq Ce (q_v 3) br) (fD (aq (kl hr.units) (q_B pS z_sorted PyProof.Rows.boot_sorted (q_a (oU (own:=["_law_row"]) (⟨rfl,by decide +kernel,by decide +kernel,rfl,trivial⟩:CompOk _ _ [] []) rfl (ik (q_v 2)) (fun _ _ _ _=>aU (i:=0) (show (["_law_row"]:List Str).Nodup by decide +kernel)) (iL (by decide)) (fun _ _ _ _=>vG) (fun _ _ _ _=>(au (pF (K:=K) rfl) (q_v 0) ah))) am)) (q_B pS z_sorted PyProof.Rows.boot_sorted (q_a (wx (kU rfl) z_list fj (q_a (q_v 1) am)) am)))))) (b_1 (aG cQ)) b_0)
   (b_c (gP Yv rfl (ik (ay Cc (cP (q_a br am)) (wx (kU rfl) z_list fj (q_a (q_v 1) am)))) (aU (i:=4) bX.nd) (b_c (aD (i:=5) bX.nd (oV hr.units (q_v 3) (q_v 4) (cP am)))
   (b_1 (bf (t_w (dv (iY (dZ (gM F_in_order (hr.mono (by decide)) (q_a (q_v 5) (q_a (q_v 1) am))))) (fD (aq (kl hr.units) (cC M_below (hr.mono (by decide)) (q_v 0) (q_a (q_v 4) am)) (q_v 5))))) (b_1 (aG cQ)) b_0))))
   (b_1 (aG (kC (ng hr.units) (eC M_rows (hr.mono (by decide)) (q_v 0)) (q_v 2))))))))),?_⟩
 try rw[cxK]
 rw[rp,rq];have facts:∀(M:Ol) (out:List DI) (k:Nat),M.Perm ol->Dfs M (fg M) out k->(∀n it,look M n=some it->K25.cnt n out=1)/\(out.map fun x=>x.2.1).Perm (ol.map (·.1))/\(∀x∈out,x.2∈ol)/\(∀u,grp (out.map Prod.snd) u=grp M u)/\k=ol.length/\out.length=ol.length:=fun M out k pe df=>by
  have ndM:(M.map (·.1)).Nodup:=(pe.map _).nodup_iff.mpr nd;have lp:=tK pe nd;have on:∀n it,look M n=some it->K25.cnt n out=1:=fun n it hl=>by obtain⟨j,_,ch⟩:=tb (n,it) (pe.mem_iff.mp (bI hl));exact vA ndM df lp ch n rfl
  have pn:=sM ndM df on;have ln:out.length=ol.length:=by have:=pn.length_eq;rw[Zi,Zi,pe.length_eq]at this;exact this
  refine⟨on,pn.trans (pe.map _),fun x hx=>pe.mem_iff.mp (df.mem (fun z hz=>by
   obtain⟨w',hw,rfl⟩:=ZP.mp hz;exact (cU.mp hw).1) x hx),yh df on (fun x hx q hq=>?_),df.len.symm.trans ln,ln⟩
  rw[<-lp];exact ku x (pe.mem_iff.mp hx) q hq
 have ex:∀M:Ol,M.Perm ol->∃out k,Dfs M (fg M) out k/\k<=300:=fun M pe=>by obtain⟨out,k,df⟩:=Ac pe nd tb;refine⟨out,k,df,?_⟩;have:=(facts M out k pe df).2.2.2.2.1;omega
 refine⟨_,rfl,p,dx,_,rfl,h1,cH _ _ (by decide +kernel) (by decide +kernel),p,d,g,ol,rfl,hO,by omega,nd,tab,ex,fun R H1 M out k rs pe so df s01 tab1 gR eR ra=>?_⟩;obtain⟨on,pn,sub,gg,_,lo⟩:=facts M out k pe df;have nT:∀{b:Addr} {o:HO},H b=some o->(∀ps,o≠.tbl ps)->H1 b=some o:=fun e ne=>s01 _ _ e fun z=>by obtain⟨ps,t1,_⟩:=tab;rw[z,t1]at e;exact ne ps (Zs e).symm
 have hm1:=nT hm (fun ps z=>by cases z);have Rm1:=Rm.ts (dY s01 tab);have O1:=hO.sameT s01 tab;have lrs:=Zy ra;have lmv:=gO Rm;refine⟨_,rfl,.ref R,"list",.type "list",true,rfl,.lst eR,jw (b:=true) (by decide +kernel) (fun z=>nomatch z),_,rfl,aF ?_⟩;refine⟨_,rfl,R,_,rfl,.inl (SqL.of eR),_,rfl,mn,mvs,rfl,Rd.of hm1,rfl,_,rfl,cX (by rw[<-lrs,lo,lmv]) ?_⟩;refine⟨_,rfl,_,rfl,R,mn,mvs,ol,out,rs,rfl,eR,ra,hm1,Rm1,nd,sub,fr,by omega,Ad df (Lv.top M),fun D H2 kls s12 gD lk low=>?_⟩;refine⟨_,rfl,rfl,_,rfl,Ca (by intro z;cases z) ?_⟩;refine⟨_,rfl,R,rfl,⟨rs,SqL.of (s12 _ _ eR)⟩,?_⟩;refine nS (N:=rs.length) (fun i ys H'=>Same H2 H'/\ys.length=i/\AbAt H' ((out.take i).map fun x=>x.2.1) ys) (by omega) (fun _ _ _ x=>x.2.1) ⟨Same.refl _,rfl,.nil⟩ (fun i ys H' hi hP=>⟨rs,rs[i],SqL.of (hP.1 _ _ (s12 _ _ eR)),by simp[hi]⟩) (fun ys H' hP=>⟨rs,SqL.of (hP.1 _ _ (s12 _ _ eR)),Ze _⟩) ?_ ?_
 ·rintro i ys H' x H'' hi ⟨sm,ly,pa⟩ ⟨rfl,y⟩ A' kA;have hx:rs[i]?=some x:=y rs (SqL.of (sm _ _ (s12 _ _ eR)));obtain⟨m,hm',⟨ta,nv,rfl,er,hn⟩⟩:=uA ra i x hx;refine⟨_,rfl,ta,_,_,_,rfl,rfl,SqT.of (sm _ _ (s12 _ _ er)),at1,kA _ _ ⟨sm,by rw[Zn,ly];rfl,?_⟩⟩;rw[List.take_succ,hm',Z4];exact dB pa (.cons ((hn.ts' (Same.ts s12)).ts' (Same.ts sm)) .nil)
 rintro ys L1 H3 ⟨s23,ly,pa⟩ gL1;have w4:=aj gL1 (.lst ys);have e4:upd H3 L1 (.lst ys) L1=some (.lst ys):=af;have pa4:=AbAt.ts pa (Same.ts w4);generalize upd H3 L1 (.lst ys)=H4 at w4 e4 pa4 ⊢;rw[ZJ (by omega)]at pa4;have s14:=s12.trans (s23.trans w4);obtain⟨as1,rfl,la1,ha1⟩:=pQ pa4;have hne:∀(l:List Nm),∀k∈l.map nI,k≠[]:=fun l k hk=>by obtain⟨n,_,rfl⟩:=ZP.mp hk;exact List.cons_ne_nil _ _
 have lon:(out.map fun x=>x.2.1).length=out.length:=Zi _;refine⟨L1,as1,(out.map fun x=>x.2.1).map nI,rfl,e4,by omega,by rw[Zi,la1],hne _,ha1,fun pm1 D1 hpm1 hs1 gD1=>?_⟩;rw[la1]at hpm1 hs1;obtain⟨so1,pe1⟩:=xH (z:=((0,0):Nm)) hpm1 hs1;have ab1:=pP pa4 _ (fun i hi=>by
  have:=(hpm1.mem_iff).mp (YF.mp hi);simpa using this:∀ i∈pm1.toList,i<(out.map fun x=>x.2.1).length)
 generalize hn1:(pm1.toList.map fun i=>(out.map fun x=>x.2.1).getD i ((0,0):Nm))=ns1 at so1 pe1 ab1;generalize(pm1.toList.map fun i=>(as1.map V.ref).getD i .non)=ws1 at ab1 ⊢;have w5:=aj gD1 (.lst ws1);have e5:upd H4 D1 (.lst ws1) D1=some (.lst ws1):=af;have ab5:=AbAt.ts ab1 (Same.ts w5);generalize upd H4 D1 (.lst ws1)=H5 at w5 e5 ab5 ⊢;have s15:=s14.trans w5;refine⟨_,rfl,mn,mvs,rfl,Rd.of (s15 _ _ hm1),fun L2 ks2 gL2 kat=>?_⟩;have ab2:=gF (mZ kat (Rm1.ts (Same.ts s15)));have w6:=aj gL2 (.lst ks2);have e6:upd H5 L2 (.lst ks2) L2=some (.lst ks2):=af;have ab6:=AbAt.ts ab2 (Same.ts w6);generalize upd H5 L2 (.lst ks2)=H6 at w6 e6 ab6 ⊢;obtain⟨as2,rfl,la2,ha2⟩:=pQ ab6;have lol:(ol.map (·.1)).length=ol.length:=Zi _;refine⟨L2,as2,(ol.map (·.1)).map nI,rfl,e6,by omega,by rw[Zi,la2],hne _,ha2,fun pm2 D2 hpm2 hs2 gD2=>?_⟩;rw[la2]at hpm2 hs2;obtain⟨so2,pe2⟩:=xH (z:=((0,0):Nm)) hpm2 hs2;have ab7:=pP ab6 _ (fun i hi=>by
  have:=(hpm2.mem_iff).mp (YF.mp hi);simpa using this:∀ i∈pm2.toList,i<(ol.map (·.1)).length)
 generalize hn2:(pm2.toList.map fun i=>(ol.map (·.1)).getD i ((0,0):Nm))=ns2 at so2 pe2 ab7;generalize(pm2.toList.map fun i=>(as2.map V.ref).getD i .non)=ws2 at ab7 ⊢;have w7:=aj gD2 (.lst ws2);have e7:upd H6 D2 (.lst ws2) D2=some (.lst ws2):=af;have ab8:=AbAt.ts ab7 (Same.ts w7);generalize upd H6 D2 (.lst ws2)=H7 at w7 e7 ab8 ⊢;have w57:=w6.trans w7;have eq12:ns1=ns2:=yA ((pe1.trans pn).trans pe2.symm) so1 so2;subst eq12;obtain⟨d1,sh1,eqv1⟩:=dL (w57 _ _ e5) (AbAt.ts ab5 (Same.ts w57));obtain⟨d2,sh2,_⟩:=dL e7 ab8;refine⟨bJ ns1,bJ ns1,d1,d2,sh1,sh2,_,rfl,?_⟩;rw[eqv1];refine aF ?_;have s17:=s15.trans w57;refine⟨sz rfl,fun Ln gLn=>?_⟩;have w8:=aj gLn (.lst [.non]);have e8:upd H7 Ln (.lst [.non]) Ln=some (.lst [.non]):=af;generalize upd H7 Ln (.lst [.non])=H8 at w8 e8 ⊢;have s18:=s17.trans w8;refine⟨_,rfl,mn,mvs,rfl,Rd.of (s18 _ _ hm1),fun L3 ks3 gL3 kat3=>?_⟩;have ka3:=mZ kat3 (Rm1.ts (Same.ts s18));have w9:=aj gL3 (.lst ks3);have lk3:=Zy ka3;refine⟨Ln,L3,_,_,rfl,rfl,w9 _ _ e8,af,bG (by show 1+ks3.length<=1000;omega),fun Lc gLc=>?_⟩;have w10:=aj gLc (.lst ([.non]++ks3));have e10:upd (upd H8 L3 (.lst ks3)) Lc (.lst ([.non]++ks3)) Lc=some (.lst ([.non]++ks3)):=af;have w8':=w9.trans w10;have ups:∀z∈[V.non]++ks3,∃u,UpAt (upd (upd H8 L3 (.lst ks3)) Lc (.lst ([.non]++ks3))) z u:=fun z hz=>by
  rcases ZA.mp hz with hz|hz
  ·rw[Zu]at hz;exact⟨none,hz⟩
  ·obtain⟨i,hi⟩:=ZF.mp hz;obtain⟨m,_,hn⟩:=cY ka3 i z hi;exact⟨some m.1,hn.ts' (Same.ts w8')⟩
 generalize upd (upd H8 L3 (.lst ks3)) Lc (.lst ([.non]++ks3))=H10 at w8' e10 ups ⊢;generalize[V.non]++ks3=zs at e10 ups ⊢;have s110:=s18.trans w8';have tab10:=aX tab1 s110;have O10:=O1.same s110;have hm10:=s110 _ _ hm1;have Rm10:=Rm1.ts (Same.ts s110);have eR10:=s110 _ _ eR;have ra10:=RwsAt.ts ra (Same.ts s110);have s210:Same H2 H10:=s23.trans (w4.trans (w5.trans (w57.trans (w8.trans w8'))));have low10:=low.same s210;have nT10:∀{H':Hp} {b:Addr} {o:HO},SameT T H10 H'->H10 b=some o->(∀ps,o≠.tbl ps)->H' b=some o:=fun sT e ne=>sT _ _ e fun z=>by obtain⟨ps,t1,_⟩:=id tab10;rw[z,t1]at e;exact ne ps (Zs e).symm
 have tr:∀n it,look ol n=some it->∃k,Chn ol k (some n):=fun n it hl=>by obtain⟨k,_,ch⟩:=tb (n,it) (bI hl);exact⟨k,ch⟩
 have lM:M.length<=60:=by rw[pe.length_eq];exact l60
 refine⟨Lc,rfl,⟨zs,SqL.of e10⟩,?_⟩;refine ii (xs:=zs) (fun i σ H'=>SameT T H10 H'/\aQ dP T (eK dA) H'/\∃o4 o5:Option V,σ=[some (.ref p),some (.ref mn),some (.ref R),some (.ref D),o4,o5]) ⟨.of (Same.refl _),tab10,none,none,rfl⟩ (fun i σ H' _ hP=>SqL.of (nT10 hP.1 e10 (fun ps z=>by cases z))) (fun i z σ H' hz hP D' kD=>?_) (fun σ H' hP=>?_)
 ·obtain⟨sT,tab',o4,o5,rfl⟩:=hP;obtain⟨u,hu⟩:=ups z (ZK hz);have ts:=dY sT tab10;have hu':=hu.ts ts;obtain⟨ke,hk,hke⟩:=hu'.key;have low':=low10.sameT sT tab10;refine⟨_,rfl,D,rfl,⟨kls,low'.od.ob⟩,_,rfl,sz rfl,fun l0 g0=>?_⟩;have w0:=aj g0 (.lst []);have e0:upd H' l0 (.lst []) l0=some (.lst []):=af;have hk0:ic (upd H' l0 (.lst [])) z ke:=by
   cases ke with
   |none=>exact hk
   |some q=>exact⟨hk.1,w0 _ _ hk.2⟩
  generalize upd H' l0 (.lst [])=Hc at w0 e0 hk0 ⊢;have lowc:=low'.same w0;refine⟨kls,ke,lowc.od,hk0,by omega,?_⟩;rw[hke];refine jv (u:=u) lowc e0 fun l ks el hks=>?_;rw[gg]at hks;have sc:SameT T H10 Hc:=sT.trans (.of w0);have tabc:=aX tab' w0;have Oc:=O10.sameT sc tab10;have lg:(grp M u).length<=300:=Zx (YM _ _) (by omega);refine⟨_,rfl,_,rfl,l,mn,mvs,ol,grp M u,ks,rfl,el,nT10 sc hm10 (fun ps z=>by cases z),Rm10.ts (dY sc tab10),nd,hks,(fun x hx=>pe.mem_iff.mp (cU.mp hx).1),lg,Ah nd pe so u,fun Hd sd=>⟨_,rfl,aF ?_⟩⟩;have Od:=Oc.same sd;obtain⟨kvsd,Sd',Rd'⟩:=id Od;obtain⟨⟨dxd,hd1⟩,_,_,_⟩:=id Sd';have hud:=(hu'.ts (Same.ts w0)).ts (Same.ts sd);have tabd:=aX tabc sd;refine⟨_,rfl,p,dxd,_,rfl,hd1,cH _ _ (by decide +kernel) (by decide +kernel),_,rfl,p,d,g,ol,z,u,rfl,Od,hud,by omega,nd,tabd,tr,fun D3 He M' ks' pe' so' se tabe gD3 eD3 ka'=>?_⟩;have eM:=kJ nd pe' pe so' so;subst eM;have ele:He l=some (.lst ks):=se _ _ (sd _ _ el) fun zz=>by obtain⟨ps,t1,_⟩:=id tabd;rw[<-zz,sd _ _ el]at t1;cases t1
  obtain⟨d1',sh1',eqv1'⟩:=dL eD3 (gF ka');obtain⟨d2',sh2',_⟩:=dL ele (gF ((hks.ts (Same.ts sd)).ts (dY se tabd)));refine⟨_,rfl,bJ _,bJ _,d1',d2',sh1',sh2',_,rfl,?_⟩;rw[eqv1'];exact aF (kD _ _ ⟨sc.trans ((SameT.of sd).trans se),tabe,_,_,rfl⟩)
 ·obtain⟨sT,tab',o4,o5,rfl⟩:=hP;have O':=O10.sameT sT tab10;obtain⟨kvsd,Sd',Rd'⟩:=id O';obtain⟨⟨dxd,hd1⟩,_,_,_⟩:=id Sd';refine⟨_,rfl,p,dxd,_,rfl,hd1,cH _ _ (by decide +kernel) (by decide +kernel),p,d,g,ol,rfl,O',by omega,nd,tab',ex,fun R2 He M' out' k' rs' pe' so' df' se tabe gR2 eR2 ra'=>?_⟩;have eM:=kJ nd pe' pe so' so;subst eM;have eo:=yg df' df;subst eo;have sks:∀x∈out',PyData.strOk x.2.2.tx=true:=fun x hx=>sk _ (sub x hx);have eRe:He R=some (.lst rs):=se _ _ (nT10 sT eR10 (fun ps z=>by cases z)) fun zz=>by obtain⟨ps,t1,_⟩:=id tab';rw[<-zz,nT10 sT eR10 (fun ps z=>by cases z)]at t1;cases t1
  obtain⟨d1',sh1',eqv1'⟩:=uB eR2 ra' sks;obtain⟨d2',sh2',_⟩:=uB eRe (RwsAt.ts (RwsAt.ts ra10 (dY sT tab10)) (dY se tab')) sks;refine⟨_,rfl,_,_,d1',d2',sh1',sh2',?_⟩;rw[eqv1'];exact q _
def fi(ol:Ol)(u:Option Nm):Prop:=∀m,u=some m->(look ol m).isSome=true
def zT(ol:Ol)(k:Nat):Sd->Prop
 |.put n u _ tx=>(n.2=1+(k:Int)\/n.2=201-(k:Int))/\fi ol u/\PyData.strOk tx=true/\tx.length<=10
 |.move n u _=>(look ol n).isSome=true/\fi ol u/\∃j,Und ol n j u false
def qR:Sp:=fun vs H Q _=>∃(c:Int) (k:Nat) (nl mn:Addr) (mvs:List (List Key×V)) (ol:Ol) (ks:List V) (B:Nat),vs=[.int c,.int (k:Int),.ref nl,.ref mn]/\H nl=some (.lst ks)/\KsAt H ol ks/\H mn=some (.dT mvs)/\Rows H mvs ol/\ol.length<=60/\(ol.map (·.1)).Nodup/\nL ol B /\
 ∀(st:Addr) (s:Sd) (H':Hp),Same H H'->StAt H' st s->zT ol k s->Q (.ref st) H'
theorem Chn.und{ol:Ol}{k:Nat}{u:Option Nm}(h:Chn ol k u)(o:Nm):∃j b,Und ol o j u b:=by
 induction h with
 |none=>exact⟨0,false,.none⟩
 |@up k n it hl _ ih =>
  by_cases c:n=o
  ·subst c;exact⟨0,true,.self⟩
  ·obtain⟨j,b,un⟩:=ih;exact⟨j+1,b,.up c hl un⟩
theorem xX:∀j:Fin 10,PyData.strOk (fE "abcdefghij" (some (j.val:Int)) none)=true/\(fE "abcdefghij" (some (j.val:Int)) none).length<=10:=by decide +kernel
abbrev oY:Stmt:=top 20
abbrev zR:List Str:=["_law_cell","_law_k","_law_names","_law_mine","_law_number","_law_up","_law_spot","_law_name"]
theorem dE:FnScope zR ["_law_cell","_law_k","_law_names","_law_mine"] (ai oY):=⟨rfl,rfl,rfl,by decide +kernel,rfl,by decide +kernel,by decide +kernel⟩
theorem yC{f:Addr}{fd:FuncData}(F:Fun K "_law_step" "_law_step" oY f fd)(F_place:Fn P w K mg base 1 "_law_place" ["_law_number"] qP)(F_is_in:Fn P w K mg base 1 "_law_is_in" ["_law_one","_law_other","_law_mine"] pA)(z_len:mg "len" = none):FnOk P w K mg base CX0 2 f fd ["_law_cell","_law_k","_law_names","_law_mine"] qR:=by
 refine F.okQ dE (fun vs H Q E h=>?_) (fun cdv A outer s H vs Q E hr h=>?_)
 ·obtain⟨c,k,nl,mn,mvs,ol,ks,B,rfl,_⟩:=h;rfl
 obtain⟨c,k,nl,mn,mvs,ol,ks,B,rfl,hn,ka,hm,R,l60,nd,tb,q⟩:=h;refine⟨_,(b_c (aD (i:=4) dE.nd (ay bF (ay xr (ay bF (q_v 0) ah) ah) ah))
   (b_c (aD (i:=5) dE.nd br)
   (b_c (kG (bf (t_w (dr (aq (kl hr.units) (q_v 2) (cP am)) (cM (aq oO (ay bF (q_v 4) ah) ah)))) (b_1 (aD (i:=5) dE.nd (au cG (q_v 2) (ay bF (ay bK (q_v 4) ah) (q_B cV z_len y4 (q_a (q_v 2) am)))))) b_0))
   (b_c (aD (i:=6) dE.nd (gM F_place (hr.mono (by decide)) (q_a (ay bK (q_v 4) ah) am)))
   (b_c (bf (t_w (dv (aq (ng hr.units) (q_v 2) (cP am)) (fD (aq vT (ay bF (q_v 0) ah) ah)))) (b_1 (aG (bO (q_a bC (q_a (bO (q_a (ay bF (ay bK (q_v 0) ah) ah) (q_a (ay kj ah (au cG (cP (q_a (q_v 1) (q_a (ay iT ah (q_v 1)) am))) (ay bF (ay bK (q_v 0) ah) ah))) am))) (q_a (q_v 5) (q_a (q_v 6) (q_a (dQ Aw bC (dC (ay bF (ay bK (q_v 0) ah) ah)) eQ) am)))))))) b_0)
   (b_c (aD (i:=7) dE.nd (au cG (q_v 2) (ay bF (ay bK (q_v 0) ah) (q_B cV z_len y4 (q_a (q_v 2) am)))))
   (b_c (kG (bf (t_w (dr (aq de (q_v 5) br) (cM (dZ (gM F_is_in (hr.mono (by decide)) (q_a (q_v 5) (q_a (q_v 7) (q_a (q_v 3) am)))))))) (b_1 (aD (i:=5) dE.nd br)) b_0))
   (b_1 (aG (bO (q_a bC (q_a (q_v 7) (q_a (q_v 5) (q_a (q_v 6) am)))))))))))))),?_⟩
 try rw[cxK]
 have lks:=Zy ka;refine⟨_,rfl,_,_,rfl,rfl,(by show(0:Int)<1000003;decide),_,_,rfl,rfl,.inr ⟨by decide,by decide⟩,_,_,rfl,rfl,(by show(0:Int)<2147483647;decide),?_⟩;dsimp only;generalize c%1000003*48271%2147483647=nu;have nmD0:∀{H':Hp} {e:Addr},Same H H'->H' e=some (.lst [])->Dt H' (bJ (ol.map (·.1))) (.ref nl)/\Dt H' (bJ []) (.ref e)/\SeqAt.shaped (bJ (ol.map (·.1)))=true/\SeqAt.shaped (bJ [])=true:=fun sm he=>by obtain⟨d1,s1,_⟩:=dL (sm _ _ hn) (gF (ka.ts (Same.ts sm)));obtain⟨d2,s2,_⟩:=dL (ns:=[]) he .nil;exact⟨d1,d2,s1,s2⟩
 have pick:∀{H':Hp} (x:Int),Same H H'->ol≠[]->∃(m:Nm×It) (v:V),atI ks (x%(ks.length:Int))=some v/\m∈ol/\NameIs H' v (nk m.1)/\look ol m.1=some m.2:=fun x sm ne=>by
  have lp:0<ks.length:=by rw[<-lks];exact List.length_pos_iff.mpr ne
  have h0:=Int.emod_nonneg x (show(ks.length:Int)≠0 by omega);have h1:=Int.emod_lt_of_pos x (show(0:Int)<(ks.length:Int) by omega);obtain⟨j,hj⟩:=Int.eq_ofNat_of_zero_le h0;rw[hj]at h1 ⊢;have hjl:j<ks.length:=by omega
  obtain⟨m,hm',hnm⟩:=cY ka j _ (Zb hjl);exact⟨m,_,bY (Zb hjl),ZK hm',hnm.ts' (Same.ts sm),aS nd hm'⟩
 refine⟨fun σ' H'=>Same H H'/\∃(uv:V) (u:Option Nm),UpAt H' uv u/\fi ol u/\σ'=[some (.int c),some (.int (k:Int)),some (.ref nl),some (.ref mn),some (.int nu),some uv,none,none],?_,?_⟩
 ·refine⟨_,rfl,sz rfl,fun e1 g1=>?_⟩;have w1:=aj g1 (.lst []);obtain⟨d1,d2,sh1,sh2⟩:=nmD0 w1 af;refine⟨_,_,d1,d2,sh1,sh2,_,rfl,?_⟩;rw[qr];cases hc:decide (ol.map (·.1)=[])with
  |true=>exact aF (aF ⟨w1,.non,none,rfl,(fun m z=>by cases z),rfl⟩)
  |false =>
   have ne:ol≠[]:=fun z=>by rw[z]at hc;cases hc
   refine ce ⟨_,rfl,_,_,rfl,rfl,(by show(0:Int)<4;decide),_,_,rfl,rfl,_,rfl,il (fun _=>?_) (fun _=>?_)⟩
   ·obtain⟨m,v,h1,h2,h3,h4⟩:=pick (nu / 4) w1 ne;have lp:0<ks.length:=by rw[<-lks];exact List.length_pos_iff.mpr ne
    refine⟨_,rfl,_,rfl,_,_,rfl,rfl,⟨by decide,by decide⟩,_,rfl,nl,_,rfl,.inl (SqL.of (w1 _ _ hn)),_,_,rfl,rfl,(by show(0:Int)<(ks.length:Int);omega),nl,_,_,_,rfl,rfl,SqL.of (w1 _ _ hn),h1,?_⟩;exact⟨w1,v,some m.1,h3,(fun m' z=>by cases z;rw[h4];rfl),rfl⟩
   ·exact⟨w1,.non,none,rfl,(fun m z=>by cases z),rfl⟩
 ·rintro σ' H' ⟨sm,uv,u,hu,uo,rfl⟩;refine⟨_,rfl,_,_,rfl,rfl,⟨by decide,by decide⟩,nu / 11,rfl,fun pv ps H2 s2 pl=>?_⟩;refine⟨_,rfl,sz rfl,fun e2 g2=>?_⟩;have w2:=aj g2 (.lst []);have s02:=sm.trans (s2.trans w2);obtain⟨d1,d2,sh1,sh2⟩:=nmD0 s02 af;refine⟨_,_,d1,d2,sh1,sh2,_,rfl,?_⟩;have hu2:=hu.ts (Same.ts (s2.trans w2));have pl2:=pl.ts (Same.ts w2);have e2':upd H2 e2 (.lst []) e2=some (.lst []):=af;generalize upd H2 e2 (.lst [])=H3 at s02 hu2 pl2;rw[qr];refine dite (ol=[]) (fun ne=>?pos) (fun ne=>?neg)
  case' pos =>rw[decide_eq_true (show ol.map (·.1)=[] by rw[ne];rfl)];refine ce (ce ?tA)
  case' neg =>rw[decide_eq_false (show¬ol.map (·.1)=[]from fun z=>ne (List.map_eq_nil_iff.mp z))];refine aF ⟨_,rfl,_,_,rfl,rfl,(by show(0:Int)<3;decide),_,_,rfl,rfl,_,rfl,il (fun _=>?tB) (fun _=>?mv)⟩
  case mv =>
   obtain⟨m,v,p1,p2,p3,p4⟩:=pick (H':=H3) (c / 3) s02 ne;have lp:0<ks.length:=by rw[<-lks];exact List.length_pos_iff.mpr ne
   refine⟨_,rfl,_,rfl,_,_,rfl,rfl,⟨by decide,by decide⟩,_,rfl,nl,_,rfl,.inl (SqL.of (s02 _ _ hn)),_,_,rfl,rfl,(by show(0:Int)<(ks.length:Int);omega),nl,_,_,_,rfl,rfl,SqL.of (s02 _ _ hn),p1,?_⟩;have chU:∃j b,Und ol m.1 j u b:=by
    cases u with
    |none=>exact⟨0,false,.none⟩
    |some x =>obtain⟨it,hit⟩:=YG.mp (uo x rfl);obtain⟨j,_,ch⟩:=tb (x,it) (bI hit);exact ch.und m.1
   obtain⟨j,b,un⟩:=chU;refine⟨fun σ' H'=>H'=H3/\∃(uv':V) (u':Option Nm),UpAt H3 uv' u'/\fi ol u'/\(∃j,Und ol m.1 j u' false)/\σ'=[some (.int c),some (.int (k:Int)),some (.ref nl),some (.ref mn),some (.int nu),some uv',some pv,some v],?_,?_⟩
   ·refine⟨_,rfl,rfl,_,rfl,?_⟩;cases u with
    |none =>obtain rfl:uv=.non:=hu2;exact cX rfl (aF ⟨rfl,.non,none,rfl,uo,⟨0,.none⟩,rfl⟩)
    |some x =>
     obtain⟨ub,rfl,hub⟩:=id hu2;refine gC (by intro z;cases z) ?_;refine⟨_,rfl,_,rfl,_,rfl,mn,mvs,ol,.ref ub,v,some x,m.1,j,b,rfl,s02 _ _ hm,R.ts (Same.ts s02),hu2,p3,un,_,rfl,?_⟩;cases b with
     |true=>exact ce ⟨rfl,.non,none,rfl,(fun m z=>by cases z),⟨0,.none⟩,rfl⟩
     |false=>exact aF ⟨rfl,.ref ub,some x,hu2,uo,⟨j,un⟩,rfl⟩
   ·rintro σ' H4 ⟨rfl,uv',u',hu',uo',un',rfl⟩;refine⟨_,rfl,_,rfl,_,rfl,sz rfl,fun t gt=>?_⟩;have wt:=aj gt (.tup [.str "move",v,uv',pv]);exact q t (.move m.1 u' ps) _ (s02.trans wt) ⟨v,uv',pv,af,p3.ts' (Same.ts wt),hu'.ts (Same.ts wt),pl2.ts (Same.ts wt)⟩ ⟨by rw[p4];rfl,uo',un'⟩
  case pos|tB =>
   refine⟨_,rfl,_,_,rfl,rfl,⟨by decide,by decide⟩,_,_,rfl,rfl,(by show(0:Int)<8;decide),?_⟩;refine⟨_,rfl,_,rfl,_,_,rfl,rfl,sz rfl,fun lx glx=>?_⟩;refine⟨_,rfl,_,_,rfl,rfl,⟨by decide,by decide⟩,_,_,rfl,rfl,(by show(0:Int)<2;decide),?_⟩;have b0:=Int.emod_nonneg (c / 24) (show(2:Int)≠0 by decide);have b1:=Int.emod_lt_of_pos (c / 24) (show(0:Int)<2 by decide);obtain⟨z,hz,hz2⟩:∃z:Int,atI [V.int (k:Int),V.int (200-(k:Int))] (c / 24%2)=some (.int z)/\(z=(k:Int)\/z=200-(k:Int)):=by
    rcases(show c / 24%2=0\/c / 24%2=1 by omega)with h|h
    ·rw[h];exact⟨_,at0,.inl rfl⟩
    ·rw[h];exact⟨_,at1,.inr rfl⟩
   have wl:=aj glx (.lst [.int (k:Int),.int (200-(k:Int))]);refine⟨lx,_,_,_,rfl,rfl,SqL.of af,hz,_,_,rfl,rfl,sz rfl,fun t1 g1=>?_⟩;refine⟨_,rfl,_,rfl,_,rfl,_,_,rfl,rfl,⟨by decide,by decide⟩,_,_,rfl,rfl,(by show(0:Int)<10;decide),_,rfl,"abcdefghij",rfl,by decide +kernel,sz rfl,fun t2 g2=>?_⟩;have c0:=Int.emod_nonneg (c / 5) (show(10:Int)≠0 by decide);have c1:=Int.emod_lt_of_pos (c / 5) (show(0:Int)<10 by decide);obtain⟨j,hj⟩:=Int.eq_ofNat_of_zero_le c0;obtain⟨x1,x2⟩:=xX ⟨j,by omega⟩;have x1:PyData.strOk (fE "abcdefghij" (some (j:Int)) none)=true:=x1;have x2:(fE "abcdefghij" (some (j:Int)) none).length<=10:=x2;rw[<-hj]at x1 x2;have v1:=aj g1 (.tup [.int (c / 3%8),.int (1+z)]);have v2:=aj g2 (.tup [.str "put",.ref t1,uv,pv,.str (fE "abcdefghij" (some (c / 5%10)) none)]);have vv:=wl.trans (v1.trans v2);exact q t2 (.put (c / 3%8,1+z) u ps (fE "abcdefghij" (some (c / 5%10)) none)) _ (s02.trans vv) ⟨.ref t1,uv,pv,af,⟨t1,rfl,v2 _ _ af⟩,hu2.ts (Same.ts vv),pl2.ts (Same.ts vv)⟩ ⟨by show 1+z=1+(k:Int)\/1+z=201-(k:Int);omega,uo,x1,x2⟩
def Ter(ol:Ol):Prop:=∀n it,look ol n=some it->∃k,Chn ol k (some n)
theorem qV{ol:Ol}(nd:(ol.map (·.1)).Nodup)(t:Ter ol):∃B,nL ol B:=by
 have go:∀l:Ol,(∀x∈l,x∈ol)->∃B,∀x∈l,∃k,k<=B/\Chn ol k (some x.1):=fun l=>by
  induction l with
  |nil=>intro _;exact⟨0,fun x hx=>by cases hx⟩
  |cons y l ih =>
   intro hl;obtain⟨B,hB⟩:=ih fun x hx=>hl x (Zh _ hx);obtain⟨i,hi⟩:=ZF.mp (hl y Zr);obtain⟨k,ck⟩:=t _ _ (aS nd hi);refine⟨B+k,fun x hx=>?_⟩;rcases Zq.mp hx with rfl|hx
   ·exact⟨k,Nat.le_add_left _ _,ck⟩
   ·obtain⟨k',h1,h2⟩:=hB x hx;exact⟨k',Zx h1 (Nat.le_add_right _ _),h2⟩
 exact go ol fun _ z=>z
theorem zA{ol:Ol}{n:Nm}{it:It}(t:Ter ol)(hn:look ol n=none)(uo:fi ol it.up):Ter (bh ol n it):=by
 have lift:∀{k:Nat} {v:Option Nm},Chn ol k v->Chn (bh ol n it) k v:=fun h=>by
  induction h with
  |none=>exact .none
  |@up k m x hl _ ih =>refine .up ?_ ih;rw[bu,if_neg (fun z=>by rw[z,hn]at hl;cases hl)];exact hl
 intro m x hm;rw[bu]at hm;by_cases c:m=n
 ·rw[if_pos c]at hm;cases hm;have hl:look (bh ol n it) m=some it:=by rw[bu,if_pos c]
  cases hu:it.up with
  |none=>exact⟨1,.up hl (by rw[hu];exact .none)⟩
  |some p =>obtain⟨y,hy⟩:=YG.mp (uo p hu);obtain⟨k,ck⟩:=t p y hy;exact⟨k+1,.up hl (by rw[hu];exact lift ck)⟩
 ·rw[if_neg c]at hm;obtain⟨k,ck⟩:=t m x hm;exact⟨k,lift ck⟩
theorem wP{ol:Ol}{n:Nm}{it:It}{j:Nat}(t:Ter ol)(un:Und ol n j it.up false):Ter (bh ol n it):=by
 have cu:∀{j:Nat} {v:Option Nm} {b:Bool},Und ol n j v b->b=false->Chn (bh ol n it) j v:=fun h=>by
  induction h with
  |none=>intro _;exact .none
  |self=>intro z;cases z
  |@up k m x b hne hl _ ih =>intro z;refine .up ?_ (ih z);rw[bu,if_neg hne];exact hl
 have cn:∀y,look (bh ol n it) n=some y->Chn (bh ol n it) (j+1) (some n):=fun y hy=>by rw[bu,if_pos rfl]at hy;cases hy;exact .up (by rw[bu,if_pos rfl]) (cu un rfl)
 have lift:∀{k:Nat} {v:Option Nm},Chn ol k v->∃k',Chn (bh ol n it) k' v:=fun h=>by
  induction h with
  |none=>exact⟨0,.none⟩
  |@up k m x hl _ ih =>
   by_cases c:m=n
   ·subst c;exact⟨_,cn it (by rw[bu,if_pos rfl])⟩
   ·obtain⟨k',ck⟩:=ih;exact⟨k'+1,.up (by rw[bu,if_neg c];exact hl) ck⟩
 intro m x hm;by_cases c:m=n
 ·subst c;exact⟨_,cn x hm⟩
 ·rw[bu,if_neg c]at hm;obtain⟨k,ck⟩:=t m x hm;exact lift ck
abbrev dU:Stmt:=aO (top 15) 8
abbrev mH:List Str:=["self"]
theorem lN:FnScope mH ["self"] (ai dU):=⟨rfl,rfl,rfl,by decide +kernel,rfl,by decide +kernel,by decide +kernel⟩
theorem lB{f C:Addr}{fd:FuncData}(F:Fun K "names" "Plain.names" dU f fd)(T:Txt K C)(z_list:mg "list" = none):FnOk P w K mg base CX0 1 f fd ["self"] (qM C):=by
 refine F.okQ lN (fun vs H Q E h=>?_) (fun cdv A outer s H vs Q E hr h=>?_)
 ·obtain⟨p,d,g,kvs,gvs,rfl,_⟩:=h;rfl
 obtain⟨p,d,g,kvs,gvs,rfl,S,q⟩:=h;obtain⟨⟨dx,h1⟩,h2,h3,h4⟩:=id S;refine⟨_,(b_1 (aG (wx (kU rfl) z_list fj (q_a (bA (q_v 0)) am)))),?_⟩;exact⟨_,rfl,p,C,dx,_,_,rfl,h1,T.cl,T.nH,aI _ _,d,kvs,rfl,.inl h2,fun l ks hl hk=>q l ks hl hk⟩
def kK(K:PySem.W.Frag)(T:Addr):Sp:=fun vs H Q _=>∃(a:Addr) (ns:List Int),vs=[.ref a]/\SqL K H a (ns.map V.int)/\ns.length<=63/\H T=some (.tbl #[])/\∀H',Q (.bl true) H'
structure Ok25(ol:Ol)(k:Nat):Prop where
 nd:(ol.map (·.1)).Nodup
 fr:∀x∈ol,Fr x.2
 sk:∀x∈ol,PyData.strOk x.2.tx=true
 tx:∀x∈ol,x.2.tx.length<=10
 te:Ter ol
 up:∀x∈ol,fi ol x.2.up
 nm:∀x∈ol,∃j:Nat,j<k/\(x.1.2=1+(j:Int)\/x.1.2=201-(j:Int))
 le:ol.length<=k
theorem bZ{ol:Ol}{n:Nm}{it:It}{x:Nm×It}(h:x∈bh ol n it):x∈ol\/x=(n,it):=by
 unfold bh at h;by_cases c:(look ol n).isSome=true
 ·rw[if_pos c]at h;obtain⟨y,hy,rfl⟩:=ZP.mp h;by_cases d:y.1=n
  ·rw[if_pos d,d];exact .inr rfl
  ·rw[if_neg d];exact .inl hy
 ·rw[if_neg c]at h;rcases ZA.mp h with h|h
  ·exact .inl h
  ·rw[Zu]at h;exact .inr h
theorem iD{ol:Ol}{n:Nm}{it:It}:((bh ol n it).map (·.1))=if(look ol n).isSome=true then ol.map (·.1)else ol.map (·.1)++[n]:=by
 unfold bh;by_cases c:(look ol n).isSome=true
 ·rw[if_pos c,if_pos c,List.map_map];apply List.map_congr_left;intro x _;show(if x.1=n then(x.1,it)else x).1=x.1;by_cases d:x.1=n
  ·rw[if_pos d]
  ·rw[if_neg d]
 ·rw[if_neg c,if_neg c,Z4];rfl
theorem Ok25.step{ol ol':Ol}{k:Nat}{s:Sd}(h:Ok25 ol k)(hk:k<=60)(so:zT ol k s)(ap:Ap ol s ol'):Ok25 ol' (k+1):=by
 have upS:∀{n:Nm} {it:It} {u:Option Nm},fi ol u->fi (bh ol n it) u:=fun{n it u} hu m z=>by
  rw[bu];by_cases c:m=n
  ·rw[if_pos c];rfl
  ·rw[if_neg c];exact hu m z
 cases ap with
 |@put n u pl tx =>
  obtain⟨h1,h2,h3,h4⟩:=so;have no:look ol n=none:=by
   cases z:look ol n with
   |none=>rfl
   |some it =>obtain⟨j,hj,e⟩:=h.nm _ (bI z);have e:n.2=1+(j:Int)\/n.2=201-(j:Int):=e;omega
  have nn:((bh ol n ⟨u,pl,tx,false,none,false⟩).map (·.1))=ol.map (·.1)++[n]:=by rw[iD,if_neg (by rw[no];exact Zj)]
  refine⟨?_,fun x hx=>?_,fun x hx=>?_,fun x hx=>?_,zA h.te no h2,fun x hx=>?_,fun x hx=>?_,?_⟩
  ·rw[nn,List.nodup_append];refine⟨h.nd,by simp,fun a ha b hb z=>?_⟩;rw[Zu]at hb;obtain⟨x,hx,rfl⟩:=ZP.mp ha;obtain⟨i,hi⟩:=ZF.mp hx;have:=aS h.nd hi;rw[z,hb,no]at this;cases this
  ·rcases bZ hx with hx|rfl
   ·exact h.fr x hx
   ·exact⟨rfl,rfl,rfl⟩
  ·rcases bZ hx with hx|rfl
   ·exact h.sk x hx
   ·exact h3
  ·rcases bZ hx with hx|rfl
   ·exact h.tx x hx
   ·exact h4
  ·rcases bZ hx with hx|rfl
   ·exact upS (h.up x hx)
   ·exact upS h2
  ·rcases bZ hx with hx|rfl
   ·obtain⟨j,hj,e⟩:=h.nm x hx;exact⟨j,by omega,e⟩
   ·exact⟨k,by omega,h1⟩
  ·have:=wJ ol n (⟨u,pl,tx,false,none,false⟩:It);have:=h.le;omega
 |@move n u pl it hl =>
  obtain⟨h1,h2,j,un⟩:=so;have hmem:=bI hl;refine⟨?_,fun x hx=>?_,fun x hx=>?_,fun x hx=>?_,wP h.te un,fun x hx=>?_,fun x hx=>?_,?_⟩
  ·rw[iD,if_pos h1];exact h.nd
  ·rcases bZ hx with hx|rfl
   ·exact h.fr x hx
   ·exact h.fr (n,it) hmem
  ·rcases bZ hx with hx|rfl
   ·exact h.sk x hx
   ·exact h.sk (n,it) hmem
  ·rcases bZ hx with hx|rfl
   ·exact h.tx x hx
   ·exact h.tx (n,it) hmem
  ·rcases bZ hx with hx|rfl
   ·exact upS (h.up x hx)
   ·exact upS h2
  ·rcases bZ hx with hx|rfl
   ·obtain⟨j,hj,e⟩:=h.nm x hx;exact⟨j,by omega,e⟩
   ·obtain⟨j,hj,e⟩:=h.nm _ hmem;exact⟨j,by omega,e⟩
  ·rw[uD hl];have:=h.le;omega
theorem zC{ol:Ol}{o:Nm}{j:Nat}{v:Option Nm}{b:Bool}(h:Und ol o j v b):b=true->∀{k:Nat},Chn ol k v->∃k',k'<=k/\Chn ol k' (some o):=by
 induction h with
 |none=>intro z;cases z
 |self=>intro _ k c;exact⟨k,Ze _,c⟩
 |@up j n it b hne hl _ ih =>
  intro z k c;cases c with
  |up hl' c =>rw[hl]at hl';cases hl';obtain⟨k',h1,h2⟩:=ih z c;exact⟨k',by omega,h2⟩
theorem wU{ol:Ol}{n:Nm}{it:It}{j k:Nat}{b:Bool}(hl:look ol n=some it)(c:Chn ol k it.up)(h:Und ol n j it.up b):b=false:=by
 cases b with
 |false=>rfl
 |true =>obtain⟨k',h1,h2⟩:=zC h rfl c;have:=Chn.one h2 (.up hl c);omega
def itD(it:It):PyData:=.tuple [dk it.up,.tuple (it.pl.map .int),.str it.tx,.bool it.dn,(match it.wh with|none=>.none|some i=>.int i),.bool it.fo]
theorem xo{H:Hp}{v:V}{it:It}(h:ItAt H v it)(hs:PyData.strOk it.tx=true):Dt H (itD it) v/\SeqAt.shaped (itD it)=true/\PyData.eqv (itD it) (itD it)=true:=by
 obtain⟨a,uv,pv,rfl,h1,h2,pb,rfl,h3⟩:=h;obtain⟨u1,u2,u3⟩:=fX h2;have w:=xP (H:=H) it.wh;have p:=eG h3;have pc:=PyProof.Rows.canLayAll_ints it.pl;have pd:=PyProof.Rows.depthAll_ints it.pl;have hc:(itD it).canLay0=true:=by unfold itD;cases hw:it.wh<;>simp[PyData.canLay0,PyData.canLayAll0,u2,hs,pc]
 refine⟨?_,cD hc ?_,SeqAt.eqv_refl _ hc⟩
 ·simp only[itD,Dt,DtAll];refine⟨a,_,rfl,.inl h1,_,_,rfl,u1,_,_,rfl,?_,_,_,rfl,rfl,_,_,rfl,rfl,_,_,rfl,w,_,_,rfl,rfl,rfl⟩;simpa only[Dt]using p
 ·unfold itD;simp only[PyData.depth,PyData.depthAll];rw[pd];cases hw:it.wh<;>simp only[PyData.depth]<;>omega
theorem Cl{X:Cx}:cw (CXr X.prog X.w) X E0:=fun _ _ _ _ _ _ _ x=>by obtain⟨_,_,_,_,_,_,_,_,_,_,_,_,_,_,_,_,_,q⟩:=x;exact q.elim
theorem oJ{H:Hp}{v:V}{a b:Nm}(h1:NameIs H v (nk a))(h2:NameIs H v (nk b)):a=b:=by obtain⟨x,rfl,e1⟩:=h1;obtain⟨y,e,e2⟩:=h2;cases e;rw[e1]at e2;injection e2 with e2;injection e2 with e2;injection e2 with e3 e4;injection e4 with e4 _;injection e3 with e3;injection e4 with e4;exact Prod.ext e3 e4
theorem xh{H:Hp}{m:Addr}{kvs kvs':List (List Key×V)}(h:H m=some (.dT kvs)):TS H (upd H m (.dT kvs')):=fun a zs e=>by rw[ad (fA e h (by intro z;cases z))];exact e
theorem xf{H:Hp}:∀{M:Ol} {ks:List V},AbAt H (M.map (·.1)) ks->KsAt H M ks
 | [],_,.nil=>.nil
 |_::_,_,.cons h t=>.cons h (xf t)
structure S25(C:Addr)(H:Hp)(x d g mm ln:Addr)(ol:Ol):Prop where
 O:OlAt C H x d g ol
 mv:∃mvs,H mm=some (.dT mvs)/\Rows H mvs ol
 nm:∃ks,H ln=some (.lst ks)/\KsAt H ol ks
theorem S25.same{C:Addr}{H H':Hp}{x d g mm ln:Addr}{ol:Ol}(h:S25 C H x d g mm ln ol)(s:Same H H'):S25 C H' x d g mm ln ol:=by obtain⟨O,⟨mvs,m1,m2⟩,⟨ks,n1,n2⟩⟩:=h;exact⟨O.same s,⟨mvs,s _ _ m1,m2.ts (Same.ts s)⟩,⟨ks,s _ _ n1,n2.ts (Same.ts s)⟩⟩
def K3(d mm ln:Addr)(H H':Hp):Prop:=∀b o,H b=some o->b≠d->b≠mm->b≠ln->H' b=some o
theorem B5{ns:List Int}(h:ns.length<=63):∃cs:List Int,bM (ns.map V.int) (some 1) (some 51)=cs.map V.int/\cs.length<=50:=by
 refine⟨(ns.drop (HT.sIx (ns.map V.int).length 0 (some 1))).take (HT.sIx (ns.map V.int).length (ns.map V.int).length (some 51)-HT.sIx (ns.map V.int).length 0 (some 1)),?_,?_⟩
 ·unfold bM;rw[List.map_take,List.map_drop]
 ·rw[ZN,oX (by decide),oX (by decide)];have:(51:Int).toNat=51:=rfl;have:(1:Int).toNat=1:=rfl;omega
abbrev gS:Stmt:=top 24
abbrev xb:List Str:=["_law_script","_law_plain","_law_mine","_law_names","_law_k","_law_cell","_law_step_here","_law_name","_law_one","_law_other","_law_due","_law_found"]
theorem bW:FnScope xb ["_law_script"] (ai gS):=⟨rfl,rfl,rfl,by decide +kernel,rfl,by decide +kernel,by decide +kernel⟩
theorem AG{f C T cN cB cF:Addr}{fd:FuncData}(F:Fun K "law" "law" gS f fd)(F_cell_at:Fn P w K mg base 1 "_law_cell_at" ["_law_script","_law_k"] (uE K))(F_step:Fn P w K mg base 2 "_law_step" ["_law_cell","_law_k","_law_names","_law_mine"] qR)(F_is_in:Fn P w K mg base 1 "_law_is_in" ["_law_one","_law_other","_law_mine"] pA)(F_rows_right:Fn P w K mg base 8 "_law_rows_right" ["_law_plain","_law_mine"] (BI C T))(Mk_Plain:MkFn P w K mg base 1 C "Plain" ["self"] (uG C))(MX_step:MFnX P w K mg base 4 C "step" ["self","step"] (qQ C cN cB cF))(M_item:MFn P w K mg base 1 C "item" ["self","name"] (uH C))(M_beneath:MFn P w K mg base 2 C "beneath" ["self","one","other"] (mw C))(M_names:MFn P w K mg base 1 C "names" ["self"] (qM C))(z_enumerate:mg "enumerate" = none)(z_len:mg "len" = none)(z_isinstance:mg "isinstance" = none)(z_bool:mg "bool" = none):FnOk P w K mg base CX0 9 f fd ["_law_script"] (kK K T):=by
 refine F.okQ bW (fun vs H Q E h=>?_) (fun cdv A outer s H vs Q E hr h=>?_)
 ·obtain⟨a,ns,rfl,_⟩:=h;rfl
 obtain⟨a,sc,rfl,hS,hlen,hT,hq⟩:=h;have iU:cw (CXr P w) (cJ CX0 P w K mg base xb "law" (ai gS) f cdv A outer s H E).nox E0:=Cl;refine⟨_,(b_c (aD (i:=1) bW.nd (zl Mk_Plain (hr.mono (by decide))))
   (b_c (aD (i:=2) bW.nd sh)
   (b_c (aD (i:=3) bW.nd (cP am))
   (b_c (gP Yv rfl (Al z_enumerate (q_a (dQ tG (q_v 0) (dC ah) (dC ah)) am)) (mY rfl (dN (aU (i:=4) bW.nd) (dN (aU (i:=5) bW.nd) rG))) (b_c (aD (i:=6) bW.nd (gM F_step (hr.mono (by decide)) (q_a (q_v 5) (q_a (q_v 4) (q_a (q_v 3) (q_a (q_v 2) am))))))
   (b_c (bf (aq de (lD MX_step iU (hr.mono (by decide)) (q_v 1) (q_a (q_v 6) am)) br) (b_1 (aG cQ)) b_0)
   (b_c (aD (i:=7) bW.nd (au aC (q_v 6) ah))
   (b_c (kG (bf (aq eN (au aC (q_v 6) ah) bC) (b_c (kF hr.units (q_v 2) (q_v 7) (ay ir (dQ cZ (q_v 6) (dC ah) eQ) (bO (q_a cQ (q_a br (q_a cQ am))))))
   (b_1 (bV (kz (q_v 3) (q_v 7))))) (b_1 (kF hr.units (q_v 2) (q_v 7) (ay ir (dQ cZ (q_v 6) (dC ah) eQ) (dQ cZ (bn hr.units (q_v 2) (q_v 7)) (dC ah) eQ))))))
   (b_c (aD (i:=8) bW.nd (au cG (q_v 3) (ay bF (ay bK (q_v 5) ah) (q_B cV z_len y4 (q_a (q_v 3) am)))))
   (b_c (aD (i:=9) bW.nd (au cG (q_v 3) (ay bF (ay bK (gM F_cell_at (hr.mono (by decide)) (q_a (q_v 0) (q_a ah am))) (ay kj (q_v 4) ah)) (q_B cV z_len y4 (q_a (q_v 3) am)))))
   (b_c (aD (i:=10) bW.nd (xz (kC (tV hr.units) (q_v 8) (q_v 9)) (xB (gM F_is_in (hr.mono (by decide)) (q_a (q_v 8) (q_a (q_v 9) (q_a (q_v 2) am)))))))
   (b_c (aD (i:=11) bW.nd (cC M_beneath (hr.mono (by decide)) (q_v 1) (q_a (q_v 8) (q_a (q_v 9) am))))
   (b_1 (bf (t_w (dv (aq (kl hr.units) (cC M_item (hr.mono (by decide)) (q_v 1) (q_a (q_v 7) am)) (bn hr.units (q_v 2) (q_v 7))) (dv (iY (dZ (q_B mX z_isinstance cm (q_a (q_v 11) (q_a (sg z_bool lV) am))))) (fD (aq rV (q_v 11) (q_v 10)))))) (b_1 (aG cQ)) b_0)))))))))))
   (b_1 (aG (xz (kC (ng hr.units) (eC M_names (hr.mono (by decide)) (q_v 1)) (q_v 3)) (xB (gM F_rows_right (hr.mono (by decide)) (q_a (q_v 1) (q_a (q_v 2) am))))))))))),?_⟩
 try rw[cxK]
 intro x dx nx ndx nex;refine⟨x,dx,rfl,af,fun d g H1 fd0 fg0 S1 kp1=>⟨rfl,?_⟩⟩;have s00:Same H (upd (upd H dx (.own x)) x (.ins C dx [])):=fun b o e=>by rw[ad (ag e nx),ad (ag e ndx)];exact e
 have hd0:H d=none:=s00.free fd0;have s01:Same H H1:=fun b o e=>kp1 b o (by rw[ad (ag e nx),ad (ag e ndx)];exact e) (ag e nx);intro mm gmm;have w1:=aj gmm (.dT []);have emm:upd H1 mm (.dT []) mm=some (.dT []):=af;have S2:=S1.same w1;have s02:=s01.trans w1;have hmm0:H mm=none:=s01.free gmm;have ndm:d≠mm:=fun z=>by have:=S1.dc;rw[z,gmm]at this;cases this
 have ngm:g≠mm:=fun z=>by have:=S1.gc;rw[z,gmm]at this;cases this
 generalize upd H1 mm (.dT [])=H2 at emm S2 s02 w1 ⊢;refine⟨sz rfl,fun ln gln=>?_⟩;have wl:=aj gln (.lst []);have eln:upd H2 ln (.lst []) ln=some (.lst []):=af;have S3:=S2.same wl;have s03:=s02.trans wl;have hln0:H ln=none:=s02.free gln;have emm3:=wl _ _ emm;have ndl:d≠ln:=fun z=>by have:=S2.dc;rw[z,gln]at this;cases this
 have nml:mm≠ln:=fun z=>by rw[z,gln]at emm;cases emm
 have ngl:g≠ln:=fun z=>by have:=S2.gc;rw[z,gln]at this;cases this
 generalize upd H2 ln (.lst [])=H3 at eln S3 s03 emm3 ⊢;have hS3:=s03.seq hS;refine⟨_,rfl,_,rfl,_,rfl,a,_,rfl,hS3,fun L gL=>?_⟩;obtain⟨cs,ecs,lcs⟩:=B5 hlen;rw[ecs];have w4:=aj gL (.lst (cs.map V.int));have eL:upd H3 L (.lst (cs.map V.int)) L=some (.lst (cs.map V.int)):=af;have s34:=w4;generalize upd H3 L (.lst (cs.map V.int))=H4 at w4 eL s34 ⊢;have s04:=s03.trans w4;have O4:OlAt C H4 x d g []:=⟨[],S3.same w4,.nil⟩
 have st4:S25 C H4 x d g mm ln []:=⟨O4,⟨[],w4 _ _ emm3,.nil⟩,⟨[],w4 _ _ eln,.nil⟩⟩
 have nLd:L≠d:=fun z=>by have:=S3.dc;rw[<-z,gL]at this;cases this
 have nLm:L≠mm:=fun z=>by rw[z,emm3]at gL;cases gL
 have nLl:L≠ln:=fun z=>by rw[z,eln]at gL;cases gL
 have hS4:=s04.seq hS;have ne3:∀{b:Addr} {o:HO},H b=some o->b≠d/\b≠mm/\b≠ln:=fun e=>⟨ag e hd0,ag e hmm0,ag e hln0⟩
 have ok0:Ok25 [] 0:=⟨.nil,(fun x h=>by cases h),(fun x h=>by cases h),(fun x h=>by cases h),(fun n it h=>by cases h),(fun x h=>by cases h),(fun x h=>by cases h),Ze _⟩
 refine⟨L,cs.map V.int,rfl,eL,?_⟩;refine sR (i:=4) (j:=5) (fun i σ H'=>K3 d mm ln H4 H'/\∃(ol:Ol) (o4 o5 o6 o7 o8 o9 o10 o11:Option V),Ok25 ol i/\S25 C H' x d g mm ln ol/\σ=[some (.ref a),some (.ref x),some (.ref mm),some (.ref ln),o4,o5,o6,o7,o8,o9,o10,o11]) ⟨fun _ _ z _ _ _=>z,[],none,none,none,none,none,none,none,none,ok0,st4,rfl⟩ (fun i σ H' _ hP=>SqL.of (hP.1 _ _ eL nLd nLm nLl)) (fun i v σ H' hv hP D' kD Tt gTt=>?_) (fun σ H' hP=>?_)
 ·obtain⟨k3,ol,o4,o5,o6,o7,o8,o9,o10,o11,ok,st,rfl⟩:=hP;have hi:i<50:=by have:=(ZC.mp hv).1;rw[Zi]at this;omega
  obtain⟨c,rfl⟩:∃c,v=.int c:=by rw[ZG]at hv;obtain⟨c,_,rfl⟩:=ZZ.mp hv;exact⟨c,rfl⟩
  have wT:=aj gTt (.tup [.int (i:Int),.int c]);have st1:=st.same wT;have k31:K3 d mm ln H4 (upd H' Tt (.tup [.int (i:Int),.int c])):=fun b o e a1 a2 a3=>wT _ _ (k3 b o e a1 a2 a3);generalize upd H' Tt (.tup [.int (i:Int),.int c])=Ha at st1 k31 ⊢;obtain⟨O1',⟨mvs,m1,m2⟩,⟨ks,n1,n2⟩⟩:=id st1;obtain⟨B,tb⟩:=qV ok.nd ok.te;have le:=ok.le;refine⟨_,rfl,_,rfl,_,rfl,_,rfl,c,i,ln,mm,mvs,ol,ks,B,rfl,n1,n2,m1,m2,by omega,ok.nd,tb,fun sr sd Hb sb sa so=>?_⟩;have st2:=st1.same sb;obtain⟨kvs2,P2,R2⟩:=id st2.O;obtain⟨⟨dx2,hx2⟩,_,_,_⟩:=id P2;have news:∀n∈sd.news,look ol n=none:=fun n hn=>by
   cases sd with
   |put n' u pl tx =>
    obtain rfl:n=n':=by simpa[Sd.news]using hn
    cases z:look ol n with
    |none=>rfl
    |some it =>obtain⟨j,hj,e⟩:=ok.nm _ (bI z);have e:n.2=1+(j:Int)\/n.2=201-(j:Int):=e;have:=so.1;omega
   |move n' u pl=>simp[Sd.news]at hn
  have items:∀n∈sd.items,(look ol n).isSome=true:=fun n hn=>by
   cases sd with
   |put n' u pl tx =>
    have hu:=so.2.1;cases u with
    |none=>simp[Sd.items]at hn
    |some y=>exact hu n (by simp[Sd.items]at hn;rw[hn])
   |move n' u pl =>
    have hu:=so.2.1;cases u with
    |none =>
     obtain rfl:n=n':=by simpa[Sd.items]using hn
     exact so.1
    |some y =>
     simp[Sd.items]at hn;rcases hn with rfl|rfl
     ·exact so.1
     ·exact hu _ rfl
  have bd:Bd ol sd none:=by
   cases sd with
   |put n' u pl tx=>exact .put
   |move n' u pl =>obtain⟨j,un⟩:=so.2.2;exact(Bd.move un:Bd ol _ (if false=true then some true else none))
  have txs:∀n it,look ol n=some it->it.tx.length<=400:=fun n it hl=>Zx (ok.tx _ (bI hl)) (by decide);refine⟨_,rfl,x,dx2,_,rfl,hx2,gI _ _,_,rfl,x,d,g,sr,ol,sd,rfl,st2.O,by omega,sa,news,txs,.inr ⟨items,none,bd,(fun z=>by cases z),(fun z=>by cases z),fun _ Hc ol' bc Oc ap=>?_⟩⟩;refine⟨rfl,_,rfl,cX rfl ?_⟩;have ok':=ok.step (by omega) so ap;have tsc:TS Hb Hc:=fun b zs e=>bc _ _ e fun z=>by have:=P2.dc;rw[<-z,e]at this;cases this
  have sac:=sa.ts tsc;have m1c:=bc _ _ (sb _ _ m1) (ZM ndm);have m2c:=(m2.ts (Same.ts sb)).ts tsc;have n1c:=bc _ _ (sb _ _ n1) (ZM ndl);have n2c:=(n2.ts (Same.ts sb)).ts tsc;have k3c:K3 d mm ln H4 Hc:=fun b o e a1 a2 a3=>bc _ _ (sb _ _ (k31 b o e a1 a2 a3)) a1;obtain⟨nn,nv,wd,rest,est,hnv⟩:∃(nn:Nm) (nv:V) (wd:Str) (rest:List V),Hc sr=some (.tup (.str wd::nv::rest))/\NameIs Hc nv (nk nn):=by
   cases sd with
   |put n u pl tx =>obtain⟨nv,uv,pv,h1,h2,_⟩:=sac;exact⟨n,nv,_,_,h1,h2⟩
   |move n u pl =>obtain⟨nv,uv,pv,h1,h2,_⟩:=sac;exact⟨n,nv,_,_,h1,h2⟩
  refine⟨_,rfl,sr,_,_,_,rfl,rfl,SqT.of est,at1,?_⟩;refine⟨fun σ' Hd=>K3 d mm ln H4 Hd/\S25 C Hd x d g mm ln ol'/\NameIs Hd nv (nk nn)/\∃it,look ol' nn=some it/\σ'=[some (.ref a),some (.ref x),some (.ref mm),some (.ref ln),some (.int (i:Int)),some (.int c),some (.ref sr),some nv,o8,o9,o10,o11],?_,?_⟩
  ·cases ap with
   |@put n u pl tx =>
    obtain⟨nv',uv,pv,h1,h2,h3,h4⟩:=sac;rw[h1]at est;cases est;have en:=oJ hnv h2;subst en;obtain⟨nb,rfl,hnb⟩:=id hnv;refine⟨_,rfl,sr,_,_,_,rfl,rfl,SqT.of h1,at0,rfl,_,rfl,vI ?_⟩;refine⟨_,rfl,_,rfl,sr,_,rfl,h1,fun t1 H5 s5 e5=>?_⟩;refine⟨sz rfl,fun t2 g2=>?_⟩;have w2:=aj g2 (.tup [.bl false,.non,.bl false]);refine⟨t1,t2,_,_,rfl,rfl,w2 _ _ e5,af,sz rfl,fun t3 H6 s6 e6=>?_⟩;have sc6:Same Hc H6:=s5.trans (w2.trans s6);refine⟨_,rfl,_,rfl,mm,_,rfl,DPut.t (k:=nk nn) (sc6 _ _ m1c) (sc6 _ _ hnb) (cE (by have:=gO m2;omega)),?_⟩;have t7:=xh (kvs':=be mvs (nk nn) (.ref t3)) (sc6 _ _ m1c);have e7m:upd H6 mm (.dT (be mvs (nk nn) (.ref t3))) mm=some (.dT (be mvs (nk nn) (.ref t3))):=af;have n7:upd H6 mm (.dT (be mvs (nk nn) (.ref t3))) ln=some (.lst ks):=by rw[ad (ZM nml)];exact sc6 _ _ n1c
    have up7:∀b o,H6 b=some o->b≠mm->upd H6 mm (.dT (be mvs (nk nn) (.ref t3))) b=some o:=fun b o e hb=>by rw[ad hb];exact e
    generalize upd H6 mm (.dT (be mvs (nk nn) (.ref t3)))=H7 at t7 e7m n7 up7 ⊢;refine⟨_,rfl,.inl ⟨rfl,_,SqL.of n7⟩,_,rfl,ln,_,_,rfl,rfl,n7,bG (by have:=Zy n2;omega),?_⟩;have t8:=dq (ks':=ks++[.ref nb]) n7;have up8:∀b o,H6 b=some o->b≠mm->b≠ln->upd H7 ln (.lst (ks++[.ref nb])) b=some o:=fun b o e hb hc=>by rw[ad hc];exact up7 b o e hb
    have tall:TS Hc (upd H7 ln (.lst (ks++[.ref nb]))):=fun b zs e=>t8 _ _ (t7 _ _ (sc6 _ _ e));have no:look ol nn=none:=news nn (by simp[Sd.news]);have es:bh ol nn (⟨u,pl,tx,false,none,false⟩:It)=ol++[(nn,⟨u,pl,tx,false,none,false⟩)]:=by unfold bh;rw[if_neg (by rw[no];exact Zj)]
    obtain⟨kvs',⟨⟨dxx,q1⟩,q2,q3,q4⟩,q5⟩:=Oc;have q1:=sc6 _ _ q1;have q2:=sc6 _ _ q2;have q3:=sc6 _ _ q3;have m6:=sc6 _ _ m1c;have n6:=sc6 _ _ n1c;refine⟨fun b o e a1 a2 a3=>up8 _ _ (sc6 _ _ (k3c b o e a1 a2 a3)) a2 a3,⟨⟨kvs',⟨⟨dxx,up8 _ _ q1 (fA q1 m6 (by intro z;cases z)) (fA q1 n6 (by intro z;cases z))⟩,up8 _ _ q2 ndm ndl,up8 _ _ q3 ngm ngl,q4⟩,q5.ts tall⟩,⟨_,by rw[ad nml];exact e7m,jF (m2c.ts tall) ?_⟩,⟨_,af,?_⟩⟩,hnv.ts' tall,_,by rw[bu,if_pos rfl],rfl⟩
    ·exact⟨t3,uv,pv,rfl,t8 _ _ (t7 _ _ e6),h3.ts tall,h4.ts tall⟩
    ·rw[es];exact(n2c.ts tall).snoc (hnv.ts' tall)
   |@move n u pl it0 hl0 =>
    obtain⟨nv',uv,pv,h1,h2,h3,h4⟩:=sac;rw[h1]at est;cases est;have en:=oJ hnv h2;subst en;obtain⟨nb,rfl,hnb⟩:=id hnv;obtain⟨iv,f1,ia,uv0,pv0,rfl,f2,_,_⟩:=aH m2c hl0;refine⟨_,rfl,sr,_,_,_,rfl,rfl,SqT.of h1,at0,rfl,_,rfl,fG (by decide +kernel) ?_⟩;refine⟨_,rfl,_,rfl,sr,_,rfl,h1,fun t1 H5 s5 e5=>?_⟩;refine⟨_,rfl,_,rfl,mm,.ref ia,rfl,f1▸DGet.t (k:=nk nn) (s5 _ _ m1c) (s5 _ _ hnb),_,rfl,ia,_,rfl,s5 _ _ f2,fun t2 H5' s5' e5'=>?_⟩;refine⟨t1,t2,_,_,rfl,rfl,s5' _ _ e5,e5',sz rfl,fun t3 H6 s6 e6=>?_⟩;have sc6:Same Hc H6:=s5.trans (s5'.trans s6);refine⟨_,rfl,_,rfl,mm,_,rfl,DPut.t (k:=nk nn) (sc6 _ _ m1c) (sc6 _ _ hnb) (cE (by have:=gO m2;omega)),?_⟩;have t7:=xh (kvs':=be mvs (nk nn) (.ref t3)) (sc6 _ _ m1c);have up7:∀b o,H6 b=some o->b≠mm->upd H6 mm (.dT (be mvs (nk nn) (.ref t3))) b=some o:=fun b o e hb=>by rw[ad hb];exact e
    have tall:TS Hc (upd H6 mm (.dT (be mvs (nk nn) (.ref t3)))):=fun b zs e=>t7 _ _ (sc6 _ _ e);obtain⟨kvs',⟨⟨dxx,q1⟩,q2,q3,q4⟩,q5⟩:=Oc;have q1:=sc6 _ _ q1;have q2:=sc6 _ _ q2;have q3:=sc6 _ _ q3;have m6:=sc6 _ _ m1c;refine⟨fun b o e a1 a2 a3=>up7 _ _ (sc6 _ _ (k3c b o e a1 a2 a3)) a2,⟨⟨kvs',⟨⟨dxx,up7 _ _ q1 (fA q1 m6 (by intro z;cases z))⟩,up7 _ _ q2 ndm,up7 _ _ q3 ngm,q4⟩,q5.ts tall⟩,⟨_,af,jF (m2c.ts tall) ?_⟩,⟨ks,up7 _ _ (sc6 _ _ n1c) (ZM nml),?_⟩⟩,hnv.ts' tall,_,by rw[bu,if_pos rfl],rfl⟩
    ·exact⟨t3,uv,pv,rfl,t7 _ _ e6,h3.ts tall,h4.ts tall⟩
    ·refine xf ?_;rw[iD,if_pos (by rw[hl0];rfl)];exact gF (n2c.ts tall)
  ·rintro σ' Hd ⟨k3d,st5,hnd,it,hit,rfl⟩;obtain⟨kvs5,P5,R5⟩:=id st5.O;obtain⟨⟨dx5,hx5⟩,_,_,_⟩:=id P5;obtain⟨mvs5,mm5,Rm5⟩:=id st5.mv;obtain⟨ks5,ln5,ka5⟩:=id st5.nm;have lks:=Zy ka5;have hne:ol'≠[]:=fun z=>by rw[z]at hit;cases hit
   have lp:0<ks5.length:=by rw[<-lks];exact List.length_pos_iff.mpr hne
   have pick:∀(y:Int),∃(m:Nm×It) (v:V),atI ks5 (y%(ks5.length:Int))=some v/\NameIs Hd v (nk m.1)/\look ol' m.1=some m.2:=fun y=>by
    have h0:=Int.emod_nonneg y (show(ks5.length:Int)≠0 by omega);have h1:=Int.emod_lt_of_pos y (show(0:Int)<(ks5.length:Int) by omega);obtain⟨j,hj⟩:=Int.eq_ofNat_of_zero_le h0;rw[hj]at h1 ⊢;have hjl:j<ks5.length:=by omega
    obtain⟨m,hm',hnm⟩:=cY ka5 j _ (Zb hjl);exact⟨m,_,bY (Zb hjl),hnm,aS ok'.nd hm'⟩
   have sHd:Same H Hd:=fun b o e=>k3d _ _ (s04 _ _ e) (ne3 e).1 (ne3 e).2.1 (ne3 e).2.2;have hSd:SqL K Hd a (sc.map V.int):=sHd.seq hS;obtain⟨m1',v1,at1',nv1,l1⟩:=pick (c / 7);obtain⟨m2',v2,at2',nv2,l2⟩:=pick (ge sc (0:Int).toNat / ((i:Int)+1));refine⟨_,rfl,_,rfl,_,_,rfl,rfl,⟨by decide,by decide⟩,_,rfl,ln,_,rfl,.inl (SqL.of ln5),_,_,rfl,rfl,(by show(0:Int)<(ks5.length:Int);omega),ln,_,_,_,rfl,rfl,SqL.of ln5,at1',?_⟩;refine⟨_,rfl,_,rfl,a,sc,0,rfl,hSd,by decide,_,rfl,_,_,rfl,rfl,_,_,rfl,rfl,⟨by show(0:Int)<(i:Int)+1;omega,by show(i:Int)+1<1073741824;omega⟩,_,rfl,ln,_,rfl,.inl (SqL.of ln5),_,_,rfl,rfl,(by show(0:Int)<(ks5.length:Int);omega),ln,_,_,_,rfl,rfl,SqL.of ln5,at2',?_⟩;obtain⟨b1,rfl,hb1⟩:=id nv1;obtain⟨b2,rfl,hb2⟩:=id nv2;obtain⟨k1,ch1⟩:=ok'.te _ _ l1;have ch0:∃k0,Chn ol' k0 m1'.2.up:=by
    cases ch1 with
    |up hl c =>rw[l1]at hl;cases hl;exact⟨_,c⟩
   obtain⟨k0,ch0⟩:=ch0;obtain⟨j0,b',un⟩:=ch0.und m2'.1;obtain⟨wv,g1,iv5⟩:=aH R5 hit;obtain⟨wm,g2,im5⟩:=aH Rm5 hit;have skit:=ok'.sk _ (bI hit);obtain⟨nb,rfl,hnb⟩:=id hnd;obtain⟨d1,sh1,eq1⟩:=xo iv5 skit;obtain⟨d2,sh2,_⟩:=xo im5 skit;have nI2:∀{p q:Nm},[p.1,p.2]=[q.1,q.2]->p=q:=fun h=>by injection h with h1 h2;injection h2 with h2 _;exact Prod.ext h1 h2
   refine⟨_,rfl,_,rfl,b1,b2,[m1'.1.1,m1'.1.2],[m2'.1.1,m2'.1.2],rfl,rfl,hb1,hb2,_,rfl,?_⟩;refine dite (m1'.1=m2'.1) (fun e=>?pos) (fun e=>?neg)
   case' pos =>
    have hb:b'=false:=by rw[<-e]at un;exact wU l1 ch0 un
    rw[decide_eq_true (show[m1'.1.1,m1'.1.2]=[m2'.1.1,m2'.1.2] by rw[e])];refine aF ?_
   case' neg =>have hb:b'=b':=rfl;rw[decide_eq_false (show¬[m1'.1.1,m1'.1.2]=[m2'.1.1,m2'.1.2]from fun z=>e (nI2 z))];refine ce ⟨_,rfl,_,rfl,_,rfl,mm,mvs5,ol',.ref b1,.ref b2,some m1'.1,m2'.1,j0+1,b',rfl,mm5,Rm5,nv1,nv2,.up e l1 un,?_⟩
   case pos|neg =>refine⟨_,rfl,x,dx5,_,rfl,hx5,gI _ _,_,rfl,_,rfl,x,d,g,ol',.ref b1,.ref b2,m1'.1,m2'.1,m1'.2,j0,b',rfl,st5.O,nv1,l1,nv2,un,?_⟩;refine⟨_,rfl,x,dx5,_,rfl,hx5,gI _ _,_,rfl,x,d,g,kvs5,[],.ref nb,wv,nk nn,rfl,P5,hnd,g1,?_⟩;refine⟨_,rfl,_,rfl,mm,wm,rfl,g2▸DGet.t (k:=nk nn) mm5 hnb,itD it,itD it,d1,d2,sh1,sh2,_,rfl,?_⟩;rw[eq1];refine aF ?_;refine⟨_,rfl,.bl b',"bool",.type "bool",true,rfl,.bl b',oy (H:=Hd) (.bl b'),_,rfl,aF ?_⟩;refine⟨_,rfl,_,rfl,rfl,_,rfl,cX (by rw[hb]) ?_⟩;exact kD _ _ ⟨k3d,ol',_,_,_,_,_,_,_,_,ok',st5,rfl⟩
 ·obtain⟨k3,ol,o4,o5,o6,o7,o8,o9,o10,o11,ok,st,rfl⟩:=hP;obtain⟨kvs,Pp,Rr⟩:=id st.O;obtain⟨⟨dx',hx'⟩,_,_,_⟩:=id Pp;obtain⟨ks,ln',ka⟩:=id st.nm;have sH:Same H H':=fun b o e=>k3 _ _ (s04 _ _ e) (ne3 e).1 (ne3 e).2.1 (ne3 e).2.2;obtain⟨B,tb⟩:=qV ok.nd ok.te;have le:=ok.le;rw[Zi]at le;refine⟨_,rfl,x,dx',_,rfl,hx',gI _ _,x,d,g,kvs,[],rfl,Pp,fun l ks0 gl kat=>?_⟩;have wl':=aj gl (.lst ks0);have el:upd H' l (.lst ks0) l=some (.lst ks0):=af;have ka0:=(mZ kat Rr).ts (Same.ts wl');have stl:=st.same wl';have sHl:=sH.trans wl';have lnl:=wl' _ _ ln';have kal:=ka.ts (Same.ts wl');generalize upd H' l (.lst ks0)=Hl at el ka0 stl sHl lnl kal ⊢;obtain⟨d1,sh1,eq1⟩:=dL el (gF ka0);obtain⟨d2,sh2,_⟩:=dL lnl (gF kal);refine⟨_,rfl,bJ _,bJ _,d1,d2,sh1,sh2,_,rfl,?_⟩;rw[eq1];refine ce ?_;obtain⟨mvs,mml,Rml⟩:=id stl.mv;exact⟨_,rfl,_,rfl,x,d,g,mm,mvs,ol,B,rfl,stl.O,mml,Rml,by omega,ok.nd,ok.fr,ok.sk,tb,(fun y hy q hq'=>ok.up y hy q hq'),⟨#[],sHl _ _ hT,trivial,.inl rfl⟩,fun H''=>hq H''⟩
end
def jr:Nat->(List Value->Prop)->Prop
 |0,p=>p []
 |n+1,p=>∀a,jr n fun us=>p (a::us)
theorem eB:∀{n:Nat} {p:List Value->Prop},jr n p->∀us:List Value,us.length=n->p us
 |0,_,h,[],_=>h
 |_+1,_,h,a::us,e=>eB (h a) us (Nat.succ.inj e)
section
variable{P:Program}{w:World}{K:PySem.W.Frag}{mg:Str->Option Value}{base h:Heap}{n m x q:Str}{st:Stmt}{C f:Addr}{k:Nat}{ps:List Str}{sp:Sp}{bm:List Value}
structure Bx(P:Program)(w:World)(K:PySem.W.Frag)(mg:Str->Option Value)(base h:Heap):Prop where
 X:K.In h
 G:h.Ns mainGlobals mg
def A1(K:PySem.W.Frag)(n:Str)(st:Stmt)(f:Addr):Prop:=PySem.W.nsIn K mainGlobals n=some (some (.ref f))/\∃fd,Fun K n n st f fd
def A2(K:PySem.W.Frag)(C:Addr)(m q:Str)(st:Stmt)(f:Addr):Prop:=PySem.W.findIn K (.ref C) m=some (some (.ref f))/\PySem.W.isFn K (.ref f)=true/\∃fd,Fun K m q st f fd
def AF(K:PySem.W.Frag):List (Str×Stmt×Addr)->Prop
 | []=>True
 |(n,st,f)::l=>A1 K n st f/\AF K l
def AM(K:PySem.W.Frag):List (Addr×Str×Str×Stmt×Addr)->Prop
 | []=>True
 |(C,m,q,st,f)::l=>A2 K C m q st f/\AM K l
def AN(p:Str->Prop):List Str->Prop
 | []=>True
 |n::l=>p n/\AN p l
theorem anI{p p':Str->Prop}(i:∀{n},p n->p' n):∀{l:List Str},AN p l->AN p' l
 | [],_=>True.intro
 |_::_,h=>⟨i h.1,anI i h.2⟩
theorem gf{l:List (Str×Stmt×Addr)}{oc kV dc pm cd ct:Value}{od an:Option Addr}{sl:Array (Option Value)}(a:PySem.W.nsIn K mainGlobals n=some (some (.ref f)))(b:K.lookup f=some ⟨oc,od,.func (PySem.W.fnOf n n (bE st) (aT st) (ai st) .none kV dc pm an cd ct),sl⟩)(c:PySem.W.codeIn K cd n=true)(d:PySem.W.keepIn K (.ref f)=true)(r:AF K l):AF K ((n,st,f)::l):=⟨⟨a,_,sW b c d⟩,r⟩
theorem gm{l:List (Addr×Str×Str×Stmt×Addr)}{oc kV dc pm cd ct:Value}{od an:Option Addr}{sl:Array (Option Value)}(a:PySem.W.findIn K (.ref C) m=some (some (.ref f)))(i:PySem.W.isFn K (.ref f)=true)(b:K.lookup f=some ⟨oc,od,.func (PySem.W.fnOf m q (bE st) (aT st) (ai st) .none kV dc pm an cd ct),sl⟩)(c:PySem.W.codeIn K cd q=true)(d:PySem.W.keepIn K (.ref f)=true)(r:AM K l):AM K ((C,m,q,st,f)::l):=⟨⟨a,i,_,sW b c d⟩,r⟩
theorem gn{l:List Str}(a:PySem.W.nsIn K mainGlobals n=some none)(r:AN (fun n=>PySem.W.nsIn K mainGlobals n=some none) l):AN (fun n=>PySem.W.nsIn K mainGlobals n=some none) (n::l):=⟨a,r⟩
theorem mkF(B:Bx P w K mg base h)(A:A1 K n st f)(ok:∀{fd},Fun K n n st f fd->FnOk P w K mg base CX0 k f fd ps sp)(hb:∀(kV doc pm:Value) (an:Option Addr) (cdv ct:Value),jr ps.length fun us=>bindArgs (PySem.W.fnOf n n (bE st) (aT st) (ai st) .none kV doc pm an cdv ct) ⟨us,[]⟩=pure (ps.zip us):=by(repeat intro _);rfl):Fn P w K mg base k n ps sp:=by obtain⟨a,fd,F⟩:=A;exact⟨f,fd,ok F,Yc B.X B.G a,F.kp,F.binds fun a b c d e g=>eB (hb a b c d e g)⟩
theorem mkM(B:Bx P w K mg base h)(L:Cls K C)(A:A2 K C m q st f)(ok:∀{fd},Fun K m q st f fd->FnOk P w K mg base CX0 k f fd ps sp)(hb:∀(kV doc pm:Value) (an:Option Addr) (cdv ct:Value),jr ps.length fun us=>bindArgs (PySem.W.fnOf m q (bE st) (aT st) (ai st) .none kV doc pm an cdv ct) ⟨us,[]⟩=pure (ps.zip us):=by(repeat intro _);rfl):MFn P w K mg base k C m ps sp:=by obtain⟨a,i,fd,F⟩:=A;exact⟨L,f,fd,ok F,⟨a,i,F.kp⟩,F.binds fun a b c d e g=>eB (hb a b c d e g)⟩
theorem mkX(B:Bx P w K mg base h)(L:Cls K C)(A:A2 K C m q st f)(ok:∀{fd},Fun K m q st f fd->FnOk P w K mg base (CXr P w) k f fd ps sp)(hb:∀(kV doc pm:Value) (an:Option Addr) (cdv ct:Value),jr ps.length fun us=>bindArgs (PySem.W.fnOf m q (bE st) (aT st) (ai st) .none kV doc pm an cdv ct) ⟨us,[]⟩=pure (ps.zip us):=by(repeat intro _);rfl):MFnX P w K mg base k C m ps sp:=by obtain⟨a,i,fd,F⟩:=A;exact⟨L,f,fd,ok F,⟨a,i,F.kp⟩,F.binds fun a b c d e g=>eB (hb a b c d e g)⟩
theorem mkC(B:Bx P w K mg base h)(L:Cls K C)(g:mg x=some (.ref C))(mk:PySem.W.makesIn K C=true)(kc:PySem.W.keepIn K (.ref C)=true)(A:A2 K C "__init__" q st f)(ok:∀{fd},Fun K "__init__" q st f fd->FnOk P w K mg base CX0 k f fd ps sp)(hb:∀(kV doc pm:Value) (an:Option Addr) (cdv ct:Value),jr ps.length fun us=>bindArgs (PySem.W.fnOf "__init__" q (bE st) (aT st) (ai st) .none kV doc pm an cdv ct) ⟨us,[]⟩=pure (ps.zip us):=by(repeat intro _);rfl):MkFn P w K mg base k C x ps sp:=by obtain⟨a,i,fd,F⟩:=A;exact⟨L,g,f,fd,ok F,⟨mk,a,i,kc⟩,F.binds fun a b c d e g=>eB (hb a b c d e g)⟩
theorem mkE(B:Bx P w K mg base h)(e:ExcAtI K C f bm)(A:A2 K C m q st f)(ok:∀{fd},Fun K m q st f fd->FnOk P w K mg base CX0 k f fd ps sp)(hb:∀(kV doc pm:Value) (an:Option Addr) (cdv ct:Value),jr ps.length fun us=>bindArgs (PySem.W.fnOf m q (bE st) (aT st) (ai st) .none kV doc pm an cdv ct) ⟨us,[]⟩=pure (ps.zip us):=by(repeat intro _);rfl):ExI P w K mg base k C bm ps sp:=by obtain⟨a,i,fd,F⟩:=A;exact⟨f,fd,e,ok F,F.binds fun a b c d e g=>eB (hb a b c d e g)⟩
end
theorem zW{l:PySem.W.OpenLaw}{w:World}{K:PySem.W.Frag}{h:Heap}{mg:Str->Option Value}{fa f1 f2 f3 f4 f5 f6 f7 f8 f9 m1 m2 m3 m4 m5 m6 m7 m8 m9 m10 m11 m12 m13 m14 m15 m16 m17 m18:Addr}{C_Plain:Addr}(X:K.In h)(G:h.Ns mainGlobals mg)(hfa:mg "law" = some (.ref fa)){tk_TEXT:Tok}{tk_UP:Tok}{tk_PLACE:Tok}{ad_STEP_PARTS:Addr}{ad_FIRST_CHANGED:Addr}{c_NoItem c_LimbError c_Taken c_Beneath c_Far c0 T:Addr}(h_Plain:PySem.W.nsIn K mainGlobals "Plain" = some (some (.ref C_Plain)))(pg_Plain:PySem.W.plainGet K C_Plain Str.empty=true)(hd_Plain:PySem.W.hasDictIn K C_Plain=true)(po_Plain:PySem.W.plainOver K C_Plain=true)(sa_Plain:PySem.W.findIn K (.ref C_Plain) "__setattr__" = some (some (.builtin "object.__setattr__")))(mk_Plain:PySem.W.makesIn K C_Plain=true)(kc_Plain:PySem.W.keepIn K (.ref C_Plain)=true)(n_Plain_held:PySem.W.findIn K (.ref C_Plain) "held" = some none)(n_Plain_away:PySem.W.findIn K (.ref C_Plain) "away" = some none)(hc_NoItem:PySem.W.nsIn K mainGlobals "NoItem" = some (some (.ref c_NoItem)))(hc_Taken:PySem.W.nsIn K mainGlobals "Taken" = some (some (.ref c_Taken)))(hc_Beneath:PySem.W.nsIn K mainGlobals "Beneath" = some (some (.ref c_Beneath)))(hc_Far:PySem.W.nsIn K mainGlobals "Far" = some (some (.ref c_Far)))(hc_LimbError:PySem.W.nsIn K mainGlobals "LimbError" = some (some (.ref c_LimbError)))(zF:AF K (("step_parts",fb,f1)::("_law_cell_at",iC,f2)::("_law_place",lJ,f3)::("_law_is_in",lH,f4)::("_law_step",oY,f5)::("_law_in_order",gQ,f6)::("_law_groups",jG,f7)::("_law_rows_right",eZ,f8)::("law",gS,f9)::[]))(zM:AM K ((c_NoItem,"__init__","NoItem.__init__",dR,m1)::(C_Plain,"__init__","Plain.__init__",eU,m2)::(C_Plain,"item","Plain.item",eV,m3)::(C_Plain,"bring_in","Plain.bring_in",cR,m4)::(C_Plain,"change","Plain.change",dD,m5)::(C_Plain,"check_names","Plain.check_names",ci,m6)::(C_Plain,"at_or_beneath","Plain.at_or_beneath",bL,m7)::(C_Plain,"check_bounds","Plain.check_bounds",bR,m8)::(C_Plain,"part_item","Plain.part_item",jb,m9)::(C_Plain,"join_items","Plain.join_items",iB,m10)::(C_Plain,"step","Plain.step",eX,m11)::(C_Plain,"names","Plain.names",dU,m12)::(C_Plain,"sorted_names","Plain.sorted_names",bw,m13)::(C_Plain,"lower_names","Plain.lower_names",cj,m14)::(C_Plain,"rows","Plain.rows",eW,m15)::(C_Plain,"is_gone","Plain.is_gone",di,m16)::(C_Plain,"beneath","Plain.beneath",dh,m17)::(C_Plain,"below","Plain.below",dS,m18)::[]))(zN:AN (fun n=>PySem.W.nsIn K mainGlobals n=some none) ("len"::"list"::"zip"::"range"::"enumerate"::"tuple"::"sorted"::"reversed"::"isinstance"::"bool"::[]))(h_TEXT:PySem.W.nsIn K mainGlobals "TEXT" = some (some (.int 2 tk_TEXT)))(h_UP:PySem.W.nsIn K mainGlobals "UP" = some (some (.int 0 tk_UP)))(h_PLACE:PySem.W.nsIn K mainGlobals "PLACE" = some (some (.int 1 tk_PLACE)))(h_STEP_PARTS:PySem.W.nsIn K mainGlobals "STEP_PARTS" = some (some (.ref ad_STEP_PARTS)))(t_STEP_PARTS:PyProof.Rows.KTD.tabLook (iH K) (fun b=>K.lookup b) ad_STEP_PARTS ST=true)(h_FIRST_CHANGED:PySem.W.nsIn K mainGlobals "FIRST_CHANGED" = some (some (.ref ad_FIRST_CHANGED)))(t_FIRST_CHANGED:PyProof.Rows.KTD.tabLook (iH K) (fun b=>K.lookup b) ad_FIRST_CHANGED FC=true)(ii_NoItem:nV K c_NoItem m1=true)(im_NoItem:∃c d cd sl,K.lookup c_NoItem=some ⟨c,d,.cls cd,sl⟩/\cd.mro=Value.ref c_NoItem::Value.ref c_LimbError::VE)(if_NoItem:∃oI,K.lookup m1=some oI/\oI.cls=.type "function")(xx_Taken:PySem.W.excIn K c_Taken [.type "ValueError",.type "Exception",.type "BaseException",.type "object"] "ValueError.__new__" = true)(xm_Taken:∃c d cd sl,K.lookup c_Taken=some ⟨c,d,.cls cd,sl⟩/\cd.mro=Value.ref c_Taken::(Value.ref c_LimbError::VE))(xx_Beneath:PySem.W.excIn K c_Beneath [.type "ValueError",.type "Exception",.type "BaseException",.type "object"] "ValueError.__new__" = true)(xm_Beneath:∃c d cd sl,K.lookup c_Beneath=some ⟨c,d,.cls cd,sl⟩/\cd.mro=Value.ref c_Beneath::(Value.ref c_LimbError::VE))(xx_Far:PySem.W.excIn K c_Far [.type "ValueError",.type "Exception",.type "BaseException",.type "object"] "ValueError.__new__" = true)(xm_Far:∃c d cd sl,K.lookup c_Far=some ⟨c,d,.cls cd,sl⟩/\cd.mro=Value.ref c_Far::(Value.ref c_LimbError::VE))(e6:PySem.W.mroIn K c_NoItem (.type "object")=some true)(aN:PySem.W.findIn K (.ref c_NoItem) "name" = some none)(s1:PySem.W.findIn K (.ref c_NoItem) "__setattr__" = some (some (.builtin "object.__setattr__")))(s2:((PySem.W.clsIn K c_NoItem).any fun cd=>kn cd.mro&&cd.hasDict)=true)(tb1:L2.iF K "Plain" "sorted_names" = some (c0,T))
  :∃fd:FuncData,(∀(s:Shared) (v:Value),BindsTo s fd ⟨[v],[]⟩ [("_law_script",v)])/\∀base:Heap,K.In base->base.Ns mainGlobals mg->Blt base mg->PySem.W.CodeHd base c0 T->FnOk l.prog w K mg base CX0 9 fa fd ["_law_script"] (kK K T):=by
 obtain⟨Af1,Af2,Af3,Af4,Af5,Af6,Af7,Af8,⟨a0,_,F0⟩,_⟩:=zF;obtain⟨Am1,Am2,Am3,Am4,Am5,Am6,Am7,Am8,Am9,Am10,Am11,Am12,Am13,Am14,Am15,Am16,Am17,Am18,_⟩:=zM;obtain⟨z_len,z_list,z_zip,z_range,z_enumerate,z_tuple,z_sorted,z_reversed,z_isinstance,z_bool,_⟩:=anI (p':=fun n=>mg n=none) (fun z=>PySem.W.mg_none_of X G z) zN;have e:=hfa.symm.trans (Yc X G a0);cases e;obtain⟨oc,od,kV,dc,pm,an,cd,ct,sl,rfl,l0,c0⟩:=id F0.ex;have g_TEXT:=Yc X G h_TEXT;have g_UP:=Yc X G h_UP;have g_PLACE:=Yc X G h_PLACE;have g_STEP_PARTS:=Yc X G h_STEP_PARTS;have g_FIRST_CHANGED:=Yc X G h_FIRST_CHANGED;have g_Plain:=Yc X G h_Plain;have L_Plain:Cls K C_Plain:=⟨pg_Plain,hd_Plain,po_Plain,sa_Plain⟩
 have X_Plain:Txt K C_Plain:=⟨L_Plain,n_Plain_held,n_Plain_away⟩
 have T_STEP_PARTS:Tab K ad_STEP_PARTS ST:=⟨t_STEP_PARTS⟩
 have T_FIRST_CHANGED:Tab K ad_FIRST_CHANGED FC:=⟨t_FIRST_CHANGED⟩
 have g_NoItem:=Yc X G hc_NoItem;have xo_NoItem:ExcAtI K c_NoItem m1 (Value.ref c_LimbError::VE):=⟨ii_NoItem,im_NoItem,by rw[List.contains_cons];rfl,if_NoItem⟩
 have g_Taken:=Yc X G hc_Taken;have g_Beneath:=Yc X G hc_Beneath;have g_Far:=Yc X G hc_Far;have g_LimbError:=Yc X G hc_LimbError;have xo_Taken:ExcAt K c_Taken (Value.ref c_LimbError::VE):=⟨xx_Taken,xm_Taken,by rw[List.contains_cons];rfl⟩
 have xo_Beneath:ExcAt K c_Beneath (Value.ref c_LimbError::VE):=⟨xx_Beneath,xm_Beneath,by rw[List.contains_cons];rfl⟩
 have xo_Far:ExcAt K c_Far (Value.ref c_LimbError::VE):=⟨xx_Far,xm_Far,by rw[List.contains_cons];rfl⟩
 have sN:ExS K c_NoItem:=⟨s1,s2,e6⟩
 refine⟨PySem.W.fnOf "law" "law" (bE gS) (aT gS) (ai gS) .none kV dc pm an cd ct,fun s v=>.of_eq rfl,fun base _ _ Bl C=>?_⟩;have B:Bx l.prog w K mg base h:=⟨X,G⟩
 have F_step_parts:=mkF B Af1 fun F=>mO F g_STEP_PARTS T_STEP_PARTS;have xi_NoItem:=mkE B xo_NoItem Am1 fun F=>lz F sN aN;have Mk_Plain:=mkC B L_Plain g_Plain mk_Plain kc_Plain Am2 fun F=>mJ F X_Plain;have M_item:=mkM B L_Plain Am3 fun F=>mK F X_Plain;have M_bring_in:=mkM B L_Plain Am4 fun F=>ja F X_Plain;have M_change:=mkM B L_Plain Am5 fun F=>km F X_Plain z_len;have MX_check_names:=mkX B L_Plain Am6 fun F=>fS F X_Plain F_step_parts z_zip (ju xo_Taken) g_Taken xi_NoItem g_NoItem;have M_at_or_beneath:=mkM B L_Plain Am7 fun F=>fH F X_Plain g_UP;have MX_check_bounds:=mkX B L_Plain Am8 fun F=>fJ F X_Plain M_at_or_beneath g_TEXT z_len (ju xo_Beneath) g_Beneath (ju xo_Far) g_Far;have M_part_item:=mkM (k:=1) (ps:=["self","name","at","new","place"]) B L_Plain Am9 fun _=>nZ;have M_join_items:=mkM (k:=1) (ps:=["self","name","other"]) B L_Plain Am10 fun _=>nZ;have MX_step:=mkX B L_Plain Am11 fun F=>lC F MX_check_names MX_check_bounds M_bring_in M_part_item M_join_items M_change g_FIRST_CHANGED T_FIRST_CHANGED;have M_names:=mkM B L_Plain Am12 fun F=>lB F X_Plain z_list;have M_sorted_names:=mkM B L_Plain Am13 fun F=>fT F (sV h_Plain Am13.1 F tb1) C Bl X_Plain g_PLACE z_sorted;have M_lower_names:=mkM B L_Plain Am14 fun F=>gK F X_Plain M_sorted_names g_UP;have M_rows:=mkM B L_Plain Am15 fun F=>mL F X_Plain M_lower_names g_TEXT z_reversed z_len;have M_is_gone:=mkM B L_Plain Am16 fun F=>jC F X_Plain g_UP;have M_beneath:=mkM B L_Plain Am17 fun F=>jB F X_Plain M_at_or_beneath g_UP;have M_below:=mkM B L_Plain Am18 fun F=>lA F X_Plain M_sorted_names M_is_gone g_UP;have F_cell_at:=mkF B Af2 fun F=>rZ F z_len;have F_place:=mkF B Af3 fun F=>vV F;have F_is_in:=mkF B Af4 fun F=>vU F;have F_step:=mkF B Af5 fun F=>yC F F_place F_is_in z_len;have F_in_order:=mkF B Af6 fun F=>pL F z_range z_len;have F_groups:=mkF B Af7 fun F=>uc F z_isinstance z_tuple z_bool z_len;have F_rows_right:=mkF B Af8 fun F=>mM F M_rows M_below F_groups F_in_order z_isinstance z_list z_len z_sorted;exact AG F0 F_cell_at F_step F_is_in F_rows_right Mk_Plain MX_step M_item M_beneath M_names z_enumerate z_len z_isinstance z_bool
theorem C3{l:PySem.W.OpenLaw}{q:Program}{loose:List Str}{XP:(Str->Option Value)->Heap->Prop}{YP:World->Heap->Prop}{d:DefRec}{K:Params->PySem.W.Frag}{c0 T:Addr}(hn:l.most=some 63)(hdf:d.params.defaults=[])(hY:∀ (w:World) (h:Heap),YP w h->(K w.params).In h)(tb:∀ w:World,L2.iF (K w.params) "Plain" "sorted_names" = some (c0,T))(ht:∀ (w:World) (h:Heap),YP w h->PySem.W.CodeHd h c0 T/\h.get? T=some (PySem.W.tabObj #[]))(nt:∀ w:World,PySem.W.noTabs (K w.params)=true)(F:∀ (w:World) (mg:Str->Option Value) (fa:Addr) (h:Heap),(K w.params).In h->h.Ns mainGlobals mg->mg d.name=some (.ref fa) ->
   ∃ fd:FuncData,(∀ (s:Shared) (u:Value),BindsTo s fd ⟨[u],[]⟩ [("_law_script",u)])/\∀ base:Heap,(K w.params).In base->base.Ns mainGlobals mg->Blt base mg->PySem.W.CodeHd base c0 T->FnOk l.prog w (K w.params) mg base CX0 9 fa fd ["_law_script"] (kK (K w.params) T)) :
  PySem.W.WalkO q loose XP YP l.row.toRowW d [] (fun f vs=>PySem.call f vs) :=
 L2.sB (n:=63) (k:=9) (x:="_law_script") (tabs:=fun _=>[(c0,T)]) (sp:=fun w=>kK (K w.params) T) hn (by decide) hdf ⟨rfl,by decide,by decide⟩ hY (fun w h y t htm=>by rw[Zu.mp htm];exact ht w h y) nt
  (fun w mg fa h k g e=>let⟨fd,b,r⟩:=F w mg fa h k g e;⟨fd,b,fun base k2 g2 bl cs=>r base k2 g2 bl (cs _ (Zu.mpr rfl))⟩) (fun w H a ns hl hT hS=>⟨a,ns,rfl,hS,hl,hT _ (Zu.mpr rfl),fun _=>rfl⟩)
end K25
namespace PySem.W.Fast
def tw11375680453897898227:=()
def tw1454279273024139291:=()
def tw18350335743346229140:=()
def tw1435859209899385910:=()
def tw8456877050824215233:=()
def tw4367151615723797369:=()
def tw17748531016201254998:=()
def tw16219148610169776191:=()
def tw2419809432680561944:=()
def tw5361473537348557427:=()
def tw10488024009656827448:=()
def tw16236125383058932836:=()
def tw17271813773594126974:=()
def tw8883886983505613830:=()
def tw289340178896811128:=()
def tw5589989623789814244:=()
def tw10545842173453213556:=()
def tw7629861816236727238:=()
def tw6160985666135692066:=()
def tw14270734954229612888:=()
def tw6599392206750212361:=()
def tw7274589262908805865:=()
def tw9679567887526802791:=()
def tw5203926783490227152:=()
def tw8778347864517469106:=()
def tw1675668240995838569:=()
def tw15979946843541776989:=()
def tw7904716292644767321:=()
def tw7074136389991893490:=()
def tw16954021734979016870:=()
def tw4005023269815096296:=()
def tw10404722290360892519:=()
def tw8882872568634580400:=()
def tw5946963641304996200:=()
def tw16115721193137943656:=()
def tw13381673505033008520:=()
def tw10453703300883469686:=()
def tw16428192735882174630:=()
def tw6392642695974301620:=()
def tw15173136528012231720:=()
def tw12706529964587258220:=()
def tw690601621416572506:=()
def tw633211952026095655:=()
end PySem.W.Fast
open PySem PySem.W PyProof.Rows
set_option maxRecDepth 100000 in
set_option maxHeartbeats 0 in
theorem PySem.Challenge.cw_limb_k25_rows_in_order_holds : PySem.Challenge.rw_limb_k25_rows_in_order.Holds := by
  w_on; o_law; k_head; (case hw => w_witness2)
  k_fill
  refine' K25.C3 (l := PySem.Challenge.rw_limb_k25_rows_in_order) rfl rfl (fun w h Y => PySem.W.km_in_of Y) ?tb ?ht ?nt ?F
  case tb => intro w; with_unfolding_all rfl
  case ht => intro w h Y; exact ⟨codeHd_of_K (km_in_of Y) (by kernel_rfl), km_tabs_of Y _ (by k_mem)⟩
  case nt => intro w; kernel_rfl
  case F =>
    intro w mg fa h KX G hmg
    refine' K25.zW KX G hmg ?h_Plain ?pg_Plain ?hd_Plain ?po_Plain ?sa_Plain ?mk_Plain ?kc_Plain ?n_Plain_held ?n_Plain_away ?hc_NoItem ?hc_Taken ?hc_Beneath ?hc_Far ?hc_LimbError ?zF ?zM ?zN ?h_TEXT ?h_UP ?h_PLACE ?h_STEP_PARTS ?t_STEP_PARTS ?h_FIRST_CHANGED ?t_FIRST_CHANGED ?ii_NoItem ?im_NoItem ?if_NoItem ?xx_Taken ?xm_Taken ?xx_Beneath ?xm_Beneath ?xx_Far ?xm_Far ?e6 ?aN ?s1 ?s2 ?tb1
    (case h_Plain => k_is)
    (case pg_Plain => k_is)
    (case hd_Plain => k_is)
    (case po_Plain => k_is)
    (case sa_Plain => k_is)
    (case mk_Plain => k_is)
    (case kc_Plain => k_is)
    (case n_Plain_held => k_is)
    (case n_Plain_away => k_is)
    (case hc_NoItem => k_is)
    (case hc_Taken => k_is)
    (case hc_Beneath => k_is)
    (case hc_Far => k_is)
    (case hc_LimbError => k_is)
    (case zF => (repeat refine K25.gf (by k_is) (by k_is) (by k_is) (by k_is) ?_); exact True.intro)
    (case zM => (repeat refine K25.gm (by k_is) (by k_is) (by k_is) (by k_is) (by k_is) ?_); exact True.intro)
    (case zN => (repeat refine K25.gn (by k_is) ?_); exact True.intro)
    (case h_TEXT => k_is)
    (case h_UP => k_is)
    (case h_PLACE => k_is)
    (case h_STEP_PARTS => k_is)
    (case t_STEP_PARTS => rfl)
    (case h_FIRST_CHANGED => k_is)
    (case t_FIRST_CHANGED => rfl)
    (case ii_NoItem => kernel_rfl)
    (case im_NoItem => exact ⟨_, _, _, _, rfl, rfl⟩)
    (case if_NoItem => exact ⟨_, rfl, rfl⟩)
    (case xx_Taken => k_exc)
    (case xm_Taken => exact ⟨_, _, _, _, rfl, rfl⟩)
    (case xx_Beneath => k_exc)
    (case xm_Beneath => exact ⟨_, _, _, _, rfl, rfl⟩)
    (case xx_Far => k_exc)
    (case xm_Far => exact ⟨_, _, _, _, rfl, rfl⟩)
    (case e6 => k_is)
    (case aN => k_is)
    (case s1 => k_is)
    (case s2 => rfl)
    (case tb1 => with_unfolding_all rfl)
