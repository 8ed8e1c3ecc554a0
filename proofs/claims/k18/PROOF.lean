import PyProof.Rows.All
import Wide.All
import OpenK.AllK
import Wide.FinOn
import PyProof.EqAt
import PyProof.EqKinds
import PyProof.TupleCall
import Lean
import PySem.Challenge.RW_limb_k18_heard_once
def HK:=@if_pos
def HH:=@if_neg
def z6:=@PySem.wpAny_bind
def z9:=@PySem.Heap.get?_push_of_some
def Za:=@PySem.wpAny_pure
def Zb:=@Nat.le_refl
def Zd:=@List.length_map
def Ze:=@List.getElem?_eq_getElem
def Zf:=@List.getD_eq_getElem?_getD
def Zg:=@List.size_toArray
def Zh:=@PySem.Heap.get?_push_size
def Zi:=@PyProof.Rows.wpS_bind
def Zj:=@List.length_append
def Zk:=@PySem.Heap.lt_size
def Zl:=@Array.length_toList
def Zm:=@PyProof.Rows.wpS_pure
def Zn:=@Nat.lt_of_lt_of_le
def Zo:=@Bool.false_ne_true
def Zq:=@List.length_cons
def Zr:=@List.mem_singleton
def Zs:=@List.mem_cons
def Zt:=@Nat.ne_of_lt
def Zu:=@List.mem_map
def Zv:=@List.mem_append_right
def Zw:=@Option.some.inj
def Zx:=@Bool.and_eq_true
def Zy:=@List.length_singleton
def Zz:=@Array.toList_append
def ZA:=@List.mem_cons_of_mem
def ZB:=@List.getElem?_map
def ZC:=@List.append_assoc
def ZD:=@List.lookup_cons
def ZE:=@List.map_append
def ZF:=@List.getElem?_eq_some_iff
def ZG:=@List.pairwise_iff_getElem
def ZH:=@PySem.wpAny_newObj_type
def ZI:=@List.getElem_mem
def ZJ:=@PySem.Heap.SameBut.update
def ZK:=@List.mem_append
def ZL:=@PySem.wpAny_mono
def ZM:=@PySem.wpAny_callSpecial?_slot
def ZN:=@Array.getD_eq_getD_getElem?
def ZO:=@List.take_sublist
def ZP:=@Int.toNat_natCast
def ZQ:=@Nat.le_trans
def ZR:=@PySem.wpAny_call_entry
def ZS:=@List.mem_iff_getElem
def ZT:=@List.pairwise_append
def ZU:=@List.all_eq_true
def ZV:=@Nat.zero_le
def ZW:=@PySem.wpAny_field
def ZX:=@List.map_cons
def ZY:=@List.getElem?_append_right
def ZZ:=@PySem.W.mg_of
def Z0:=@List.length_take
def Z1:=@List.not_mem_nil
def Z2:=@beq_iff_eq
def Z3:=@of_decide_eq_true
def Z4:=@Bool.eq_false_iff
def Z5:=@List.take_append_drop
def Z6:=@List.append_nil
def Z7:=@PySem.wpAny_holding
def Z8:=@Nat.lt_or_ge
def Z9:=@Nat.add_sub_cancel_left
def Ya:=@PySem.wpAny_truthy_bool
def Yb:=@List.map_map
def Yc:=@PySem.Obj.data_mapFields
def Yd:=@List.take_of_length_le
def Ye:=@List.mem_range
def Yf:=@PySem.boot_len
def Yg:=@PyProof.Rows.wpS_forRange
def Yh:=@Nat.le_succ_of_le
def Yi:=@PyProof.Rows.slot_tuple_getitem
def Yj:=@Nat.lt_irrefl
def Yk:=@Ne.symm
def Yl:=@List.mem_cons_self
def Ym:=@PySem.W.kia_one
def Yn:=@PySem.F.slot_dict_valueiterator_next
def Yo:=@List.length_drop
def Yp:=@PySem.Heap.get?_update_other
def Yq:=@PyProof.Rows.wpS_mono
def Yr:=@Array.map_append
def Ys:=@List.getElem?_append_left
def Yt:=@PySem.mem_of_lookup
def Yu:=@List.flatten_cons
def Yv:=@PySem.F.slot_dict_keyiterator_next
def Yw:=@Nat.ne_of_gt
def Yx:=@PySem.Heap.get?_update_self
def Yy:=@Bool.false_eq_true
def Yz:=@Bool.false_and
def YA:=@PySem.Heap.size_push
def YB:=@PySem.wpAny_setField
def YC:=@List.drop_sublist
def YD:=@List.replicate_succ
def YE:=@List.take_length
def YF:=@of_decide_eq_false
def YG:=@List.mem_of_getElem?
def YH:=@Array.size_map
def YI:=@List.length_range
def YJ:=@Bool.eq_iff_iff
def YK:=@Option.map_eq_some_iff
def YL:=@PySem.wpAny_rule
def YM:=@if_false
def YN:=@or_false
def YO:=@PySem.F.slot_tuple_iterator_next
def YQ:=@PySem.wpAny_seqItems
def YR:=@PySem.Obj.isFreed_of_fields
def YS:=@List.length_filter_le
def YT:=@Nat.le_of_lt
def YU:=@PySem.Heap.get?_none_of_le
def YV:=@PySem.AutoSeq1.wpAny_loadPart'
def YW:=@decide_eq_true_eq
def YX:=@PySem.wpAny_dictEntries
def YY:=@PySem.wpAny_loadPart_at
def YZ:=@List.pairwise_map
def Y0:=@Bool.true_and
def Y1:=@PySem.wpAny_typeNameOfWhole_keyiter
def Y2:=@PySem.wpAny_typeNameOfWhole_valiter
def Y3:=@List.toList_toArray
def Y4:=@PySem.SeqAt.eqv_refl
def Y5:=@Nat.succ_le_succ
def Y6:=@List.drop_of_length_le
def Y7:=@PySem.wpAny_pyIter_tuple
def Y8:=@PyProof.Rows.callWith_type1
def Y9:=@List.mem_filterMap
def x4:=@Nat.lt_of_le_of_lt
def x5:=@List.filter_append
def x6:=@List.mem_filter
def x8:=@Int.emod_nonneg
set_option Elab.async false
set_option linter.all false
set_option maxRecDepth 100000
set_option maxHeartbeats 2000000
local macro_rules | `(tactic| omega) => `(tactic| first | with_reducible first | assumption | exact Nat.le_of_lt (by assumption) | exact Nat.le_refl _ | exact Nat.lt_add_one _ | exact Nat.le_trans (by assumption) (by decide) | exact Nat.lt_of_lt_of_le (by assumption) (by decide) | exact Nat.sub_lt_sub_left (by assumption) (Nat.lt_add_one _) | exact Nat.le_antisymm (by assumption) (Nat.le_of_not_lt (by assumption)) | lia)
namespace L2
open PySem PySem.Spec PyProof.Rows
abbrev Key:=Sum Int Str
def jP:Key->Value->Bool
 |.inl k,v=>Value.isInt k v
 |.inr x,v=>Value.isStrOf x v
def FV(w:World):Key->Int
 |.inl k=>hashInt k
 |.inr x=>hashStr w x
theorem bF:∀{k:Key} {v:Value},jP k v=true->(∃i t,k=Sum.inl i/\v=Value.int i t)\/(∃x t,k=Sum.inr x/\v=Value.str x t)
 |.inl i,v,h=>by obtain⟨t,e⟩:=Value.isInt_shape (k:=i) (v:=v) h;exact .inl ⟨i,t,rfl,e⟩
 |.inr x,v,h=>by obtain⟨t,e⟩:=Value.isStrOf_shape (x:=x) (v:=v) h;exact .inr ⟨x,t,rfl,e⟩
theorem xH(i:Int)(t:Tok):jP (.inl i) (.int i t)=true:=by simp[jP,Value.isInt]
theorem xI(x:Str)(t:Tok):jP (.inr x) (.str x t)=true:=by simp[jP,Value.isStrOf]
theorem Dk(a b:Int):decide ((Sum.inl a:Key)=Sum.inl b)=(a==b):=by
 by_cases e:a=b
 ·subst e;simp
 ·have h:¬(Sum.inl a:Key)=Sum.inl b:=fun q=>e (Sum.inl.inj q);rw[decide_eq_false h];exact(beq_eq_false_iff_ne.mpr e).symm
theorem Do(a b:Str):decide ((Sum.inr a:Key)=Sum.inr b)=decide (a=b):=by
 by_cases e:a=b
 ·subst e;simp
 ·have h:¬(Sum.inr a:Key)=Sum.inr b:=fun q=>e (Sum.inr.inj q);rw[decide_eq_false h,decide_eq_false e]
theorem Dl(a:Int)(b:Str):decide ((Sum.inl a:Key)=Sum.inr b)=false:=decide_eq_false (fun q=>nomatch q)
theorem Dm(a:Str)(b:Int):decide ((Sum.inr a:Key)=Sum.inl b)=false:=decide_eq_false (fun q=>nomatch q)
def bI(prog:Program)(w:World):PySem.KeyKind prog w Key where
 is:=jP
 hash:=FV w
 inj:=fun v a b ha hb=>by
  rcases bF ha with⟨i,t,rfl,rfl⟩|⟨x,t,rfl,rfl⟩
  ·rcases bF hb with⟨j,u,rfl,e⟩|⟨y,u,rfl,e⟩
   ·injection e with e1 _;rw[e1]
   ·exact nomatch e
  ·rcases bF hb with⟨j,u,rfl,e⟩|⟨y,u,rfl,e⟩
   ·exact nomatch e
   ·injection e with e1 _;rw[e1]
 byValue:=fun k v h=>by rcases bF h with⟨i,t,rfl,rfl⟩|⟨x,t,rfl,rfl⟩<;>rfl
 pyHash:=fun hv h=>by
  rcases bF hv with⟨i,t,rfl,rfl⟩|⟨x,t,rfl,rfl⟩
  ·exact wpAny_pyHash_int h
  ·exact wpAny_pyHash_str h
 eqBool:=fun hu hv h=>by
  rcases bF hu with⟨i,t,rfl,rfl⟩|⟨x,t,rfl,rfl⟩
  ·rcases bF hv with⟨j,u,rfl,rfl⟩|⟨y,u,rfl,rfl⟩
   ·rw[Dk]at h;exact wpAny_eqBool_int h
   ·rw[Dl]at h;exact SeqAt.EqAt.int_str i t y u _ _ _ _ h
  ·rcases bF hv with⟨j,u,rfl,rfl⟩|⟨y,u,rfl,rfl⟩
   ·rw[Dm]at h;exact SeqAt.EqAt.str_int x t j u _ _ _ _ h
   ·rw[Do]at h;exact wpAny_eqBool_str h
 «strs»:=fun k x t v h=>by
  rcases bF h with⟨i,u,rfl,e⟩|⟨y,u,rfl,e⟩
  ·exact nomatch e
  ·injection e with e1 _;subst e1;cases v<;>rfl
theorem su(prog:Program)(w:World)(i:Int)(t:Tok):(bI prog w).is (.inl i) (.int i t)=true:=xH i t
theorem sw(prog:Program)(w:World)(x:Str)(t:Tok):(bI prog w).is (.inr x) (.str x t)=true:=xI x t
open PySem PySem.Spec PyProof.Rows
inductive V where
 |non|bl (b:Bool)|int (i:Int)|str (x:Str)|byt (b:Array UInt8)|flt (b:UInt64)|ref (a:Addr)|ty (n:String)
 deriving DecidableEq
def RelV:V->Value->Prop
 |.non,u=>u=Value.none
 |.bl b,u=>u=Value.bool b
 |.int i,u=>∃t,u=Value.int i t
 |.str x,u=>∃t,u=Value.str x t
 |.byt b,u=>∃t,u=Value.bytes b t
 |.flt b,u=>∃t,u=Value.float b t
 |.ref a,u=>u=Value.ref a
 |.ty n,u=>u=Value.type n
abbrev Vals:List V->List Value->Prop:=Paired RelV
theorem Vals.length{xs:List V}{us:List Value}(r:Vals xs us):xs.length=us.length:=Paired.length r
theorem Vals.get:∀{xs:List V} {us:List Value} {i:Nat} {x:V},Vals xs us->xs[i]?=some x->∃u,us[i]?=some u/\RelV x u
 |_,_,_,_,.nil,e=>by simp at e
 |_,_,0,_,.cons r _,e=>by simp at e;subst e;exact⟨_,rfl,r⟩
 |_,_,i+1,x,.cons _ t,e=>by obtain⟨u,h1,h2⟩:=Vals.get (i:=i) (x:=x) t (by simpa using e);exact⟨u,by simpa using h1,h2⟩
theorem Vals.set{x:V}{u:Value}(r:RelV x u):∀{xs:List V} {us:List Value} (i:Nat),Vals xs us->Vals (xs.set i x) (us.set i u)
 |_,_,_,.nil=>.nil
 |_,_,0,.cons _ t=>.cons r t
 |_,_,i+1,.cons q t=>.cons q (Vals.set r i t)
theorem Vals.append:∀{xs ys:List V} {us ws:List Value},Vals xs us->Vals ys ws->Vals (xs++ys) (us++ws)
 |_,_,_,_,.nil,s=>s
 |_,_,_,_,.cons r t,s=>.cons r (Vals.append t s)
theorem Vals.take:∀{xs:List V} {us:List Value} (n:Nat),Vals xs us->Vals (xs.take n) (us.take n)
 |_,_,0,_=>.nil
 |_,_,_+1,.nil=>.nil
 |_,_,n+1,.cons r t=>.cons r (Vals.take n t)
theorem Vals.drop:∀{xs:List V} {us:List Value} (n:Nat),Vals xs us->Vals (xs.drop n) (us.drop n)
 |_,_,0,r=>r
 |_,_,_+1,.nil=>.nil
 |_,_,n+1,.cons _ t=>Vals.drop n t
def RelO:Option V->Option Value->Prop
 |some v,some u=>RelV v u
 |none,none=>True
 |_,_=>False
def KV{κ:Type}:List (κ×V)->List (κ×Value)->Prop:=Paired fun(p:κ×V) (q:κ×Value)=>p.1=q.1/\RelV p.2 q.2
def kV:Key->V
 |.inl i=>.int i
 |.inr x=>.str x
inductive HO where
 |lst (xs:List V)
 |tup (xs:List V)
 |dK (kvs:List (Key×V))|dT (kvs:List (List Key×V))
 |set (S:Int->Bool)(n:Nat)
 |ins (C dx:Addr)(fs:List (Str×V))
 |own (x:Addr)
 |xd (fs:List (Str×V))
 |met (f x:Addr)
 |rng (lo hi:Int)
 |frz (o:Obj)(u:HO)
 |tbl (ps:Array Value)
 |ext (φ:Heap->Prop)
abbrev Hp:=Addr->Option HO
def upd(H:Hp)(a:Addr)(o:HO):Hp:=fun b=>if b=a then some o else H b
theorem ad{H:Hp}{a:Addr}{o:HO}:upd H a o a=some o:=by unfold upd;rw[HK rfl]
theorem af{H:Hp}{a b:Addr}{o:HO}(h:b≠a):upd H a o b=H b:=by unfold upd;rw[HH h]
theorem Ff{H:Hp}{a b:Addr}{o u:HO}(h:H a=some o)(h':H b=some u)(d:o≠u):a≠b:=by intro e;subst e;rw[h]at h';exact d (Zw h')
theorem aj{H:Hp}{a b:Addr}{o:HO}(h:H a=some o)(h':H b=none):a≠b:=by intro e;subst e;rw[h]at h';cases h'
section
variable(P:Program)(w:World)
def ObjOk(H:Hp)(h:Heap)(a:Addr):HO->Prop
 |.lst xs=>xs.length<=sizeLine/\∃(its:List Value) (n:Nat),Vals xs its/\h.get? a=some { cls:=.type "list",data:=.seq its.toArray n }
 |.tup xs=>xs.length<=sizeLine/\∃its:List Value,Vals xs its/\IsTup h a its.toArray
 |.dK kvs=>kvs.length<=sizeLine/\(a==sysModules)=false/\∃vs,KV kvs vs/\h.DictOf (bI P w) a vs
 |.dT kvs=>kvs.length<=sizeLine/\(a==sysModules)=false/\∃xs:List (List Key×Addr×Value),
   Paired (fun(p:List Key×V) (q:List Key×Addr×Value)=>p.1=q.1/\H q.2.1=some (.tup (p.1.map kV))/\RelV p.2 q.2.2) kvs xs /\
   ∃o es ep,h.get? a=some o/\o.ExactDict/\o.data=.dict es ep/\es.toList=xs.map (entryOfKey (tupleKind (bI P w)))/\(xs.map (·.1)).Nodup
 |.set S n=>h.SetOf (intKind P w) a S n
 |.ins C dx fs=>H dx=some (.own a)/\fs.length<=1000/\dx≠a/\h.get? a=some (PySem.W.instObj C dx) /\
   ∃mA,h.Ns1 dx mA/\(∀f,RelO (fs.lookup f) (mA f))/\PySem.Within mA (fs.map (·.1))
 |.own _=>∃o,h.get? a=some o
 |.xd fs=>∃mA,h.Ns1 a mA/\∀f,RelO (fs.lookup f) (mA f)
 |.rng lo hi=>∃t u v,h.get? a=some { cls:=.type "range",data:=.fields #[.int lo t,.int hi u,.int 1 v] }
 |.frz o u=>h.get? a=some o/\ObjOk H h a u
 |.tbl ps=>h.get? a=some { cls:=.none,data:=.fields ps }
 |.met f x=>h.get? a=some (PySem.W.methodObj (.ref f) (.ref x))
 |.ext φ=>φ h/\(∃o,h.get? a=some o)/\∀h1 h2:Heap,φ h1->(∀o,h1.get? a=some o->h2.get? a=some o)->φ h2
def HOk(H:Hp)(h:Heap):Prop:=∀a o,H a=some o->ObjOk P w H h a o
end
section
variable{P:Program}{w:World}{H H':Hp}{h h':Heap}{a:Addr}{o:HO}
theorem ObjOk.lt(x:ObjOk P w H h a o):a<h.objs.size:=by
 cases o with
 |lst xs=>obtain⟨_,_,_,_,e⟩:=x;exact Zk e
 |tup xs=>obtain⟨_,_,_,p⟩:=x;exact p.lt
 |dK kvs=>obtain⟨_,_,_,_,o,_,_,e,_⟩:=x;exact Zk e
 |dT kvs=>obtain⟨_,_,_,_,o,_,_,e,_⟩:=x;exact Zk e
 |set S n=>obtain⟨o,_,_,_,e,_⟩:=x;exact Zk e
 |ins C dx fs=>obtain⟨_,_,_,e,_⟩:=x;exact Zk e
 |own y=>obtain⟨_,e⟩:=x;exact Zk e
 |xd fs=>obtain⟨_,⟨_,_,_,e,_⟩,_⟩:=x;exact Zk e
 |rng lo hi=>obtain⟨_,_,_,e⟩:=x;exact Zk e
 |frz ob u=>obtain⟨e,_⟩:=x;exact Zk e
 |tbl ps=>exact Zk (show h.get? a=some _ from x)
 |met f y=>exact Zk (show h.get? a=some _ from x)
 |ext φ=>obtain⟨_,⟨_,e⟩,_⟩:=x;exact Zk e
theorem Paired.mapP{α β:Type}{F G:α->β->Prop}:∀{l₁:List α} {l₂:List β},Paired F l₁ l₂->(∀a b,F a b->G a b)->Paired G l₁ l₂
 |_,_,.nil,_=>.nil
 |_,_,.cons r t,f=>.cons (f _ _ r) (Paired.mapP t f)
theorem ObjOk.stay(x:ObjOk P w H h a o)(k:∀b u,(b=a\/H b=some (.own a))->h.get? b=some u->h'.get? b=some u)(ho:∀b,H b=some (.own a)->H' b=some (.own a))(ht:∀b xs,H b=some (.tup xs)->H' b=some (.tup xs)):ObjOk P w H' h' a o:=by
 induction o with
 |lst xs=>obtain⟨z,its,n,r,e⟩:=x;exact⟨z,its,n,r,k _ _ (.inl rfl) e⟩
 |tup xs=>obtain⟨z,its,r,ob,e,c⟩:=x;exact⟨z,its,r,ob,k _ _ (.inl rfl) e,c⟩
 |dK kvs=>obtain⟨z,y,vs,r,ob,es,ep,e,c⟩:=x;exact⟨z,y,vs,r,ob,es,ep,k _ _ (.inl rfl) e,c⟩
 |dT kvs =>obtain⟨z,y,xs,r,ob,es,ep,e,c⟩:=x;exact⟨z,y,xs,Paired.mapP r fun p q z=>⟨z.1,ht _ _ z.2.1,z.2.2⟩,ob,es,ep,k _ _ (.inl rfl) e,c⟩
 |set S n=>obtain⟨ob,es,ep,t,e,c⟩:=x;exact⟨ob,es,ep,t,k _ _ (.inl rfl) e,c⟩
 |ins C dx fs =>obtain⟨d,z,ne,e,mA,⟨od,es,ep,e2,c⟩,r⟩:=x;exact⟨ho _ d,z,ne,k _ _ (.inl rfl) e,mA,⟨od,es,ep,k _ _ (.inr d) e2,c⟩,r⟩
 |own y=>obtain⟨ob,e⟩:=x;exact⟨ob,k _ _ (.inl rfl) e⟩
 |xd fs=>obtain⟨mA,⟨od,es,ep,e,c⟩,r⟩:=x;exact⟨mA,⟨od,es,ep,k _ _ (.inl rfl) e,c⟩,r⟩
 |rng lo hi=>obtain⟨t,u,v,e⟩:=x;exact⟨t,u,v,k _ _ (.inl rfl) e⟩
 |frz ob u ih=>obtain⟨e,q⟩:=x;exact⟨k _ _ (.inl rfl) e,ih q⟩
 |tbl ps =>have e:h.get? a=some { cls:=.none,data:=.fields ps }:=x;show h'.get? a=some { cls:=.none,data:=.fields ps };exact k a _ (.inl rfl) e
 |met f y =>have e:h.get? a=some (PySem.W.methodObj (.ref f) (.ref y)):=x;show h'.get? a=some (PySem.W.methodObj (.ref f) (.ref y));exact k a _ (.inl rfl) e
 |ext φ=>obtain⟨p,⟨o,e⟩,st⟩:=x;exact⟨st _ _ p fun o q=>k _ _ (.inl rfl) q,⟨o,k _ _ (.inl rfl) e⟩,st⟩
theorem HOk.lt(x:HOk P w H h)(e:H a=some o):a<h.objs.size:=(x a o e).lt
theorem HOk.fresh(x:HOk P w H h)(e:h.objs.size<=a):H a=none:=by
 cases q:H a with
 |none=>rfl
 |some u=>exact absurd (Zn (x.lt q) e) (Yj _)
theorem HOk.kept(x:HOk P w H h)(k:∀b u,h.get? b=some u->h'.get? b=some u):HOk P w H h':=fun a o e =>
 (x a o e).stay (fun b u _ q=>k b u q) (fun _ q=>q) fun _ _ q=>q
theorem HOk.laid(x:HOk P w H h)(k:∀b u,h.get? b=some u->h'.get? b=some u)(hp:h.objs.size<=a)(new:ObjOk P w (upd H a o) h' a o):HOk P w (upd H a o) h':=fun b u e=>by
 have hn:=x.fresh hp;by_cases hb:b=a
 ·subst hb;rw[ad]at e;cases e;exact new
 ·rw[af hb]at e;exact(x b u e).stay (fun c v _ q=>k c v q) (fun c q=>by rw[af (aj q hn)];exact q) fun c xs q=>by rw[af (aj q hn)];exact q
end
def Rd(H:Hp)(a:Addr)(u:HO):Prop:=H a=some u\/∃o,H a=some (.frz o u)
theorem Rd.of{H:Hp}{a:Addr}{u:HO}(h:H a=some u):Rd H a u:=.inl h
theorem Rd.ok{P:Program}{w:World}{H:Hp}{h:Heap}{a:Addr}{u:HO}(r:Rd H a u)(x:HOk P w H h):ObjOk P w H h a u:=by
 rcases r with r|⟨o,r⟩
 ·exact x a u r
 ·obtain⟨_,q⟩:=x a _ r;exact q
def Mut:Option HO->Prop
 |some (.lst _)=>True
 |some (.dK _)=>True
 |some (.dT _)=>True
 |some (.set _ _)=>True
 |some (.ins _ _ _)=>True
 |some (.ext _)=>True
 |_=>False
section
variable{P:Program}{w:World}{H:Hp}{h h':Heap}{x e:Addr}{o':HO}
theorem HOk.write(ok:HOk P w H h)(mu:Mut (H x))(he:e=x\/H e=some (.own x))(k:∀b u,b≠e->h.get? b=some u->h'.get? b=some u)(heo:∃u,h'.get? e=some u)(new:ObjOk P w (upd H x o') h' x o'):HOk P w (upd H x o') h':=fun b u q=>by
 have nown:∀c y,H c=some (.own y)->c≠x:=fun c y r z=>by subst z;rw[r]at mu;exact mu
 have ntup:∀c xs,H c=some (.tup xs)->c≠x:=fun c xs r z=>by subst z;rw[r]at mu;exact mu
 by_cases hb:b=x
 ·subst hb;rw[ad]at q;cases q;exact new
 ·rw[af hb]at q;by_cases hbe:b=e
  ·have q':H b=some (.own x):=by
    rcases he with z|z
    ·exact absurd (hbe.trans z) hb
    ·rw[hbe];exact z
   rw[q]at q';cases q';obtain⟨v,hv⟩:=heo;exact⟨v,by rw[hbe];exact hv⟩
  ·refine(ok b u q).stay (fun c v hc r=>k c v ?_ r) (fun c r=>by rw[af (nown c b r)];exact r) fun c xs r=>by rw[af (ntup c xs r)];exact r
   rcases hc with rfl|hc
   ·exact hbe
   ·rintro rfl;rcases he with z|z
    ·exact nown c b hc z
    ·rw[hc]at z;cases z;exact hb rfl
end
structure Un(fs ex:List Addr)(H H':Hp)(h h':Heap):Prop where
 keep:∀b o,h.get? b=some o->H b=none->b∉fs->b∉ex->h'.get? b=some o
 slot:∀b o,h.get? b=some o->H b=none->b∈fs->b∉ex->∃sl,h'.get? b=some { o with slots:=sl }
 free:∀b o,h.get? b=some o->H b=none->b∉ex->H' b=none
 there:∀b o,h.get? b=some o->b∉ex->∃o',h'.get? b=some o'
 tups:∀b xs,H b=some (.tup xs)->H' b=some (.tup xs)
 frzs:∀b o u,H b=some (.frz o u)->H' b=some (.frz o u)
 tbls:∀b ps,H b=some (.tbl ps)->∃more,H' b=some (.tbl (ps++more))
section
variable{fs fs' ex ex':List Addr}{H H1 H2:Hp}{h h1 h2 h':Heap}{a x e:Addr}{o:HO}
theorem Un.any(u:Un fs ex H H1 h h1){b:Addr}{ob:Obj}(q:h.get? b=some ob)(n:H b=none)(hx:b∉ex):∃sl,h1.get? b=some { ob with slots:=sl }:=by
 by_cases hb:b∈fs
 ·exact u.slot b ob q n hb hx
 ·exact⟨ob.slots,u.keep b ob q n hb hx⟩
theorem Un.kept(k:∀b u,h.get? b=some u->h'.get? b=some u):Un fs ex H H h h' :=
 ⟨fun b ob q _ _ _=>k b ob q,fun b ob q _ _ _=>⟨ob.slots,k b ob q⟩,fun _ _ _ n _=>n,fun b ob q _=>⟨ob,k b ob q⟩,fun _ _ q=>q,fun _ _ _ q=>q,fun _ ps q=>⟨#[],by rw[q];simp⟩⟩
theorem Un.refl:Un fs ex H H h h:=Un.kept fun _ _ q=>q
theorem Un.laid(k:∀b u,h.get? b=some u->h'.get? b=some u)(hp:h.objs.size<=a)(hn:H a=none):Un fs ex H (upd H a o) h h' where
 keep:=fun b u q _ _ _=>k b u q
 slot:=fun b u q _ _ _=>⟨u.slots,k b u q⟩
 free:=fun b u q n _=>by rw[af (Zt (Zn (Zk q) hp))];exact n
 there:=fun b u q _=>⟨u,k b u q⟩
 tups:=fun b xs q=>by rw[af (aj q hn)];exact q
 frzs:=fun b u xs q=>by rw[af (aj q hn)];exact q
 tbls:=fun b ps q=>⟨#[],by rw[af (aj q hn),q];simp⟩
theorem Un.write(mu:Mut (H x))(he:e=x\/H e=some (.own x))(k:∀b u,b≠e->h.get? b=some u->h'.get? b=some u)(heo:∃u,h'.get? e=some u):Un fs ex H (upd H x o) h h':=by
 have hx:∀b,H b=none->b≠x:=fun b n z=>by subst z;rw[n]at mu;exact mu
 have hb:∀b,H b=none->b≠e:=fun b n z=>by
  subst z;rcases he with r|r
  ·exact hx b n r
  ·rw[n]at r;cases r
 have hm:∀b u,H b=some u->¬Mut (some u)->b≠x:=fun b u q nm z=>by subst z;rw[q]at mu;exact nm mu
 refine⟨fun b u q n _ _=>k b u (hb b n) q,fun b u q n _ _=>⟨u.slots,k b u (hb b n) q⟩,fun b u q n _=>by rw[af (hx b n)];exact n,fun b u q _=>?_,
  fun b xs q=>by rw[af (hm b _ q fun z=>z)];exact q,fun b u xs q=>by rw[af (hm b _ q fun z=>z)];exact q,fun b ps q=>⟨#[],by rw[af (hm b _ q fun z=>z),q];simp⟩⟩
 by_cases hbe:b=e
 ·subst hbe;exact heo
 ·exact⟨u,k b u hbe q⟩
end
def trk(h:Heap)(H:Hp):List Addr:=(List.range h.objs.size).filter fun a=>(H a).isSome
def gN(h:Heap)(H:Hp):Heap:=PySem.W.hideAll h (trk h H)
theorem xD(h:Heap)(H:Hp):(gN h H).objs.size=h.objs.size:=PySem.W.hideAll_size _ _
theorem ix{h:Heap}{H:Hp}{b:Addr}{o:Obj}(e:h.get? b=some o)(n:H b=none):(gN h H).get? b=some o :=
 PySem.W.hideAll_get _ e fun hm=>by have q:(H b).isSome=true:=(x6.mp hm).2;rw[n]at q;simp at q
theorem BU{h:Heap}{H:Hp}{b:Addr}{o:Obj}(e:(gN h H).get? b=some o):h.get? b=some o/\H b=none:=by
 have e':h.get? b=some o:=PySem.W.of_hideAll (trk h H) e;refine⟨e',?_⟩;cases q:H b with
 |none=>rfl
 |some x =>have hm:b∈trk h H:=x6.mpr ⟨Ye.mpr (Zk e'),by simp[q]⟩;have z:(gN h H).get? b=none:=PySem.W.hideAll_none (trk h H) hm;rw[z]at e;cases e
open PySem PySem.Spec PyProof.Rows
structure Mod(K:PySem.W.Frag)(mg:Str->Option Value)(base:Heap):Prop where
 kin:K.In base
 glob:base.Ns mainGlobals mg
 blt:∃mb,base.Ns builtinsNs mb/\∀x:Str,x≠"__name__"->mb x=bootBuiltins x
 nolimit:base.NoLimit
structure Cx where
 prog:Program
 w:World
 K:PySem.W.Frag
 mg:Str->Option Value
 base:Heap
 A:Around
 N:List Str
 s₀:Shared
 H₀:Hp
 env:Env
 outer:List Env
 stack:List Env
 ex:List Addr
 fn:Str->Bool
 calm:Bool
 pn:List (Addr×Obj)
 xe:Value->Shared->Prop
def frs(l:List Env):List Addr:=l.filterMap (·.frame)
abbrev Cx.fs(X:Cx):List Addr:=frs X.outer
def Vis(sc:Scope)(x:Str):Prop:=sc.names.lookup x=some .local\/sc.names.lookup x=some .cell\/sc.names.lookup x=some .free
def Loc(sc:Scope)(x:Str):Prop:=sc.names.lookup x=some .local\/sc.names.lookup x=some .cell
def FR(env:Env)(h:Heap)(m:Str->Option Value)(x:Str)(u:Value):Prop :=
 (env.kindOf x=some .local/\m x=some u)\/((env.kindOf x=some .cell\/env.kindOf x=some .free)/\∃c,env.cells.lookup x=some c/\h.IsCell c (some u))
structure Cx.Ok(X:Cx):Prop where
 mod:Mod X.K X.mg X.base
 kind:X.env.scope.kind=.function
 glob:X.env.globals=mainGlobals
 blt:X.env.builtins=builtinsNs
 above:X.s₀.heap.objs.size<=X.env.locals
 inj:∀x y c,X.env.cells.lookup x=some c->X.env.cells.lookup y=some c->x=y
 has:∀x,(X.env.kindOf x=some .cell\/X.env.kindOf x=some .free)->∃c,X.env.cells.lookup x=some c
 cab:∀x c,X.fn x=true->X.env.cells.lookup x=some c->X.s₀.heap.objs.size<=c
 hd:X.calm=true->X.A.handled=none
 frames:X.A.frames=some X.stack
 stk:X.stack=X.outer\/(X.stack=X.env::X.outer/\X.env.frame=some X.env.locals)
 exf:∀b∈X.ex,b≠X.env.locals/\∀x c,X.env.cells.lookup x=some c->c≠b
 bs:∀b o,X.base.get? b=some o->X.s₀.heap.get? b=some o/\X.H₀ b=none
 bsz:X.base.objs.size<=X.s₀.heap.objs.size
 noex:∀b o,X.base.get? b=some o->b∉X.ex
 exfs:∀b∈X.ex,b∉X.fs
 funs:X.s₀.heap.FunFrames X.base X.outer
 frf:∀b∈X.fs,X.H₀ b=none
structure Inv(X:Cx)(pins:List (Addr×Obj))(σ:List (Option V))(H:Hp)(s:Shared):Prop where
 ok:X.Ok
 os:s.os=X.s₀.os
 bare:AllBare s.gens
 base:Un X.fs X.ex X.H₀ H X.s₀.heap s.heap
 loc:∃m,s.heap.Ns X.env.locals m/\∀(i:Nat) (x:Str) (v:V),X.N[i]?=some x->σ[i]?=some (some v)->Vis X.env.scope x->∃u,RelV v u/\FR X.env s.heap m x u
 cell:∀x c,X.env.cells.lookup x=some c->∃v,s.heap.IsCell c v
 free:H X.env.locals=none
 freeC:∀x c,X.env.cells.lookup x=some c->H c=none
 pin:∀p∈X.pn++pins,s.heap.get? p.1=some p.2/\H p.1=none/\p.1≠X.env.locals/\p.1∉X.fs/\∀v,p.2.data≠.cell v
 hok:HOk X.prog X.w H s.heap
 len:σ.length=X.N.length
section
variable{X:Cx}{pins:List (Addr×Obj)}{σ:List (Option V)}{H H':Hp}{s:Shared}{h':Heap}
theorem Cx.Ok.nofr(ok:X.Ok){b:Addr}{o:Obj}(e:X.base.get? b=some o):b∉X.fs:=fun hb=>by have:=(ok.funs.mem hb).1;rw[e]at this;cases this
theorem Inv.bs(I:Inv X pins σ H s):∀b o,X.base.get? b=some o->s.heap.get? b=some o/\H b=none:=fun b o e =>
 ⟨I.base.keep b o (I.ok.bs b o e).1 (I.ok.bs b o e).2 (I.ok.nofr e) (I.ok.noex b o e),I.base.free b o (I.ok.bs b o e).1 (I.ok.bs b o e).2 (I.ok.noex b o e)⟩
theorem Inv.bk(I:Inv X pins σ H s):∀b o,X.base.get? b=some o->s.heap.get? b=some o:=fun b o e=>(I.bs b o e).1
theorem Inv.mod(I:Inv X pins σ H s):Mod X.K X.mg X.base:=I.ok.mod
theorem Inv.kIn(I:Inv X pins σ H s):X.K.In s.heap:=I.ok.mod.kin.keeps I.bk
theorem Inv.fr(I:Inv X pins σ H s):∃m,Fr X.base X.env.locals s.heap m :=
 let⟨m,hn,_⟩:=I.loc
 ⟨m,hn,I.bk,ZQ I.ok.bsz I.ok.above⟩
theorem Inv.lt(I:Inv X pins σ H s):X.env.locals<s.heap.objs.size:=let⟨_,hn,_⟩:=I.loc;hn.lt
theorem Inv.sz(I:Inv X pins σ H s):X.s₀.heap.objs.size<=s.heap.objs.size:=ZQ I.ok.above (YT I.lt)
theorem Inv.nofs(I:Inv X pins σ H s){a:Addr}(h:s.heap.objs.size<=a):a∉X.fs:=fun hb=>by obtain⟨_,o,ho,_⟩:=I.ok.funs.mem hb;exact absurd (Zn (Zk ho) (ZQ I.sz h)) (Yj _)
theorem Inv.cne(I:Inv X pins σ H s):∀x c,X.env.cells.lookup x=some c->c≠X.env.locals:=fun x c e z=>by obtain⟨v,o,ho,hd⟩:=I.cell x c e;obtain⟨m,⟨o',es,ep,ho',hd',_⟩,_⟩:=I.loc;rw[z,ho']at ho;cases ho;rw[hd']at hd;cases hd
theorem Inv.funs(I:Inv X pins σ H s):s.heap.FunFrames X.base X.outer:=by
 have all:∀(l:List Env),(∀b∈frs l,b∈X.fs)->X.s₀.heap.FunFrames X.base l->s.heap.FunFrames X.base l:=by
  intro l;induction l with
  |nil=>intro _ _;trivial
  |cons env r ih =>intro hs hl;obtain⟨hk,⟨L,o,hf,hn,ho,hd⟩,hr⟩:=hl;have hL:L∈X.fs:=hs L (by unfold frs;rw[List.filterMap_cons,hf];exact Yl);obtain⟨sl,e⟩:=I.base.slot L o ho (I.ok.frf L hL) hL fun z=>I.ok.exfs L z hL;exact⟨hk,⟨L,_,hf,hn,e,hd⟩,ih (fun b hb=>hs b (by unfold frs;rw[List.filterMap_cons,hf];exact ZA _ hb)) hr⟩
 exact all X.outer (fun _ hb=>hb) I.ok.funs
theorem Inv.stack(I:Inv X pins σ H s):s.heap.FunFrames X.base X.stack:=by
 rcases I.ok.stk with e|⟨e,hf⟩
 ·rw[e];exact I.funs
 ·rw[e];obtain⟨m,hn,_⟩:=I.loc;refine .cons (by rw[I.ok.kind];decide) hf hn ?_ I.funs;exact YU (ZQ I.ok.bsz I.ok.above)
theorem Inv.stkSub(I:Inv X pins σ H s):∀b∈frs X.stack,b∈X.env.locals::X.fs:=fun b hb=>by
 rcases I.ok.stk with e|⟨e,hf⟩
 ·rw[e]at hb;exact ZA _ hb
 ·rw[e]at hb;unfold frs at hb;rw[List.filterMap_cons,hf]at hb;exact hb
theorem Inv.stkFree(I:Inv X pins σ H s):∀b∈frs X.stack,H b=none:=fun b hb=>by
 rcases Zs.mp (I.stkSub b hb)with e|hb
 ·rw[e];exact I.free
 ·obtain⟨_,o,ho,_⟩:=I.ok.funs.mem hb;exact I.base.free b o ho (I.ok.frf b hb) fun z=>I.ok.exfs b z hb
theorem Inv.step{g':Array GenState}{t':Nat}{d':Drawn}{ch:List Addr}(I:Inv X pins σ H s)(hch:∀b∈ch,(b∈X.ex\/X.s₀.heap.objs.size<=b)/\b≠X.env.locals/\(∀x c,X.env.cells.lookup x=some c->c≠b)/\∀p∈X.pn++pins,p.1≠b)(keep:∀b o,b≠X.env.locals->b∉X.fs->b∉ch->s.heap.get? b=some o->H b=none->h'.get? b=some o)(slot:∀b o,b≠X.env.locals->b∈X.fs->b∉ch->s.heap.get? b=some o->H b=none->∃sl,h'.get? b=some { o with slots:=sl })(free:∀b o,b∉ch->s.heap.get? b=some o->H b=none->H' b=none)(there:∀b o,b∉ch->s.heap.get? b=some o->∃o',h'.get? b=some o')(tups:∀b xs,H b=some (.tup xs)->H' b=some (.tup xs))(frzs:∀b o u,H b=some (.frz o u)->H' b=some (.frz o u))(tbls:∀b ps,H b=some (.tbl ps)->∃more,H' b=some (.tbl (ps++more)))(ns:∀m,s.heap.Ns X.env.locals m->h'.Ns X.env.locals m)(hok:HOk X.prog X.w H' h')(hg:AllBare g') :
  Inv X pins σ H' { s with heap:=h',gens:=g',drawn:=d',toks:=t' }:=by
 have neL:∀b o,X.s₀.heap.get? b=some o->b≠X.env.locals:=fun b o e=>Zt (Zn (Zk e) I.ok.above);have neC:∀b o,X.s₀.heap.get? b=some o->b∉X.ex->b∉ch:=fun b o e hx hb=>by
  rcases(hch b hb).1 with z|z
  ·exact hx z
  ·exact absurd (Zn (Zk e) z) (Yj _)
 have cellK:∀x c,X.env.cells.lookup x=some c->∀v,s.heap.IsCell c v->h'.IsCell c v:=fun x c e v ⟨o,ho,hd⟩=>by
  have nch:c∉ch:=fun z=>(hch c z).2.2.1 x c e rfl;by_cases hc:c∈X.fs
  ·obtain⟨sl,q⟩:=slot c o (I.cne x c e) hc nch ho (I.freeC x c e);exact⟨_,q,hd⟩
  ·exact⟨o,keep c o (I.cne x c e) hc nch ho (I.freeC x c e),hd⟩
 refine⟨I.ok,I.os,hg,⟨fun b o e n hb hx=>?_,fun b o e n hb hx=>?_,fun b o e n hx=>?_,fun b o e hx=>?_,fun b xs e=>tups b xs (I.base.tups b xs e),fun b o xs e=>frzs b o xs (I.base.frzs b o xs e),fun b ps e=>?_⟩,?_,fun x c e=>?_,?_,fun x c e=>?_,fun p hp=>?_,hok,I.len⟩
 ·exact keep b o (neL b o e) hb (neC b o e hx) (I.base.keep b o e n hb hx) (I.base.free b o e n hx)
 ·obtain⟨sl,e1⟩:=I.base.slot b o e n hb hx;obtain⟨sl',e2⟩:=slot b _ (neL b o e) hb (neC b o e hx) e1 (I.base.free b o e n hx);exact⟨sl',e2⟩
 ·obtain⟨o',e1⟩:=I.base.there b o e hx;exact free b o' (neC b o e hx) e1 (I.base.free b o e n hx)
 ·obtain⟨o',e1⟩:=I.base.there b o e hx;exact there b o' (neC b o e hx) e1
 ·obtain⟨m1,e1⟩:=I.base.tbls b ps e;obtain⟨m2,e2⟩:=tbls b _ e1;exact⟨m1++m2,by rw[e2,Array.append_assoc]⟩
 ·obtain⟨m,hn,hl⟩:=I.loc;refine⟨m,ns m hn,fun i x v e1 e2 e3=>?_⟩;obtain⟨u,r,l⟩:=hl i x v e1 e2 e3;refine⟨u,r,?_⟩;rcases l with l|⟨k,c,e,z⟩
  ·exact .inl l
  ·exact .inr ⟨k,c,e,cellK x c e _ z⟩
 ·obtain⟨v,z⟩:=I.cell x c e;exact⟨v,cellK x c e v z⟩
 ·obtain⟨m,⟨o,_,_,ho,_⟩,_⟩:=I.loc;exact free _ o (fun z=>(hch _ z).2.1 rfl) ho I.free
 ·obtain⟨v,o,ho,hd⟩:=I.cell x c e;exact free c o (fun z=>(hch c z).2.2.1 x c e rfl) ho (I.freeC x c e)
 ·obtain⟨e,n,ne,nf,d⟩:=I.pin p hp;have nch:p.1∉ch:=fun z=>(hch p.1 z).2.2.2 p hp rfl;exact⟨keep p.1 p.2 ne nf nch e n,free p.1 p.2 nch e n,ne,nf,d⟩
theorem Inv.un{t':Nat}(I:Inv X pins σ H s)(u:Un X.fs [] H H' s.heap h')(hok:HOk X.prog X.w H' h'):Inv X pins σ H' { s with heap:=h',toks:=t' }:=by
 obtain⟨m,⟨o,es,ep,ho,r⟩,_⟩:=id I.loc;obtain⟨sl,hL⟩:=u.any ho I.free (by simp);exact I.step (g':=s.gens) (d':=s.drawn) (ch:=[]) (fun _ z=>nomatch z) (fun b o _ hb _ e n=>u.keep b o e n hb (by simp)) (fun b o _ hb _ e n=>u.slot b o e n hb (by simp)) (fun b o _ e n=>u.free b o e n (by simp)) (fun b o _ e=>u.there b o e (by simp)) u.tups u.frzs u.tbls (fun m' hm=>by
  obtain⟨o',es',ep',ho',r'⟩:=hm;rw[ho]at ho';cases ho';exact⟨_,es',ep',hL,r'⟩) hok I.bare
theorem Inv.call{g':Array GenState}{t':Nat}{d':Drawn}{ch:List Addr}(I:Inv X pins σ H s)(u:Un (frs X.stack) ch H H' s.heap h')(hok:HOk X.prog X.w H' h')(hg:AllBare g')(hch:∀b∈ch,(b∈X.ex\/X.s₀.heap.objs.size<=b)/\b≠X.env.locals/\(∀x c,X.env.cells.lookup x=some c->c≠b)/\∀p∈X.pn++pins,p.1≠b) :
  Inv X pins σ H' { s with heap:=h',gens:=g',drawn:=d',toks:=t' }:=by
 obtain⟨m,⟨o,es,ep,ho,r⟩,_⟩:=id I.loc;obtain⟨sl,hL⟩:=u.any ho I.free fun z=>(hch _ z).2.1 rfl;exact I.step (ch:=ch) hch (fun b o hL hb hc e n=>u.keep b o e n (fun z=>(Zs.mp (I.stkSub b z)).elim hL hb) hc) (fun b o _ _ hc e n=>u.any e n hc) (fun b o hc e n=>u.free b o e n hc) (fun b o hc e=>u.there b o e hc) u.tups u.frzs u.tbls (fun m' hm=>by
  obtain⟨o',es',ep',ho',r'⟩:=hm;rw[ho]at ho';cases ho';exact⟨_,es',ep',hL,r'⟩) hok hg
theorem Inv.turned{t':Nat}{it:Addr}(I:Inv X pins σ H s)(k:∀b o,b≠it->s.heap.get? b=some o->h'.get? b=some o)(hn:H it=none)(hL:it≠X.env.locals)(h1:it∈X.ex\/X.s₀.heap.objs.size<=it)(h2:∀x c,X.env.cells.lookup x=some c->c≠it)(h3:∀p∈X.pn++pins,p.1≠it):Inv X pins σ H { s with heap:=h',toks:=t' }:=by
 have nit:∀b u,H b=some u->b≠it:=fun b u e z=>by rw[z,hn]at e;cases e
 refine I.step (g':=s.gens) (d':=s.drawn) (ch:=[it]) (fun b hb=>?_) (fun b o _ _ hc e _=>k b o (fun z=>hc (by simp[z])) e) (fun b o _ _ hc e _=>⟨o.slots,k b o (fun z=>hc (by simp[z])) e⟩) (fun _ _ _ _ n=>n)
  (fun b o hc e=>⟨o,k b o (fun z=>hc (by simp[z])) e⟩) (fun _ _ e=>e) (fun _ _ _ e=>e) (fun b ps e=>⟨#[],by rw[e];simp⟩) (fun m hm=>?_) (fun b u e=>?_) I.bare
 ·have e:b=it:=by simpa using hb
  subst e;exact⟨h1,hL,h2,h3⟩
 ·obtain⟨o,es,ep,ho,r⟩:=hm;exact⟨o,es,ep,k _ o (Yk hL) ho,r⟩
 ·refine(I.hok b u e).stay (fun c v hc q=>k c v ?_ q) (fun _ q=>q) fun _ _ q=>q;rcases hc with z|z
  ·rw[z];exact nit b u e
  ·exact nit c _ z
theorem Inv.tok(I:Inv X pins σ H s)(t:Nat):Inv X pins σ H { s with toks:=t }:=I.un (h':=s.heap) (t':=t) Un.refl I.hok
theorem Inv.kept{t':Nat}(I:Inv X pins σ H s)(k:∀b u,s.heap.get? b=some u->h'.get? b=some u):Inv X pins σ H { s with heap:=h',toks:=t' }:=I.un (Un.kept k) (I.hok.kept k)
theorem Inv.laid{a:Addr}{o:HO}{t':Nat}(I:Inv X pins σ H s)(k:∀b u,s.heap.get? b=some u->h'.get? b=some u)(hp:s.heap.objs.size<=a)(new:ObjOk X.prog X.w (upd H a o) h' a o) :
  Inv X pins σ (upd H a o) { s with heap:=h',toks:=t' }:=I.un (Un.laid k hp (I.hok.fresh hp)) (I.hok.laid k hp new)
theorem Inv.write{x e:Addr}{o:HO}{t':Nat}(I:Inv X pins σ H s)(mu:Mut (H x))(he:e=x\/H e=some (.own x))(k:∀b u,b≠e->s.heap.get? b=some u->h'.get? b=some u)(heo:∃u,h'.get? e=some u)(new:ObjOk X.prog X.w (upd H x o) h' x o):Inv X pins σ (upd H x o) { s with heap:=h',toks:=t' }:=I.un (Un.write mu he k heo) (I.hok.write mu he k heo new)
theorem Inv.weak{σ':List (Option V)}(I:Inv X pins σ H s)(hl:σ'.length=σ.length)(w:∀(i:Nat) v,σ'[i]?=some (some v)->σ[i]?=some (some v)):Inv X pins σ' H s :=
 ⟨I.ok,I.os,I.bare,I.base,let⟨m,hn,hl'⟩:=I.loc;⟨m,hn,fun i x v e1 e2 e3=>hl' i x v e1 (w i v e2) e3⟩,I.cell,I.free,I.freeC,I.pin,I.hok,hl.trans I.len⟩
theorem Inv.pins_of{pins':List (Addr×Obj)}(I:Inv X pins σ H s)(h:∀p∈pins',s.heap.get? p.1=some p.2/\H p.1=none/\p.1≠X.env.locals/\p.1∉X.fs/\∀v,p.2.data≠.cell v):Inv X pins' σ H s :=
 ⟨I.ok,I.os,I.bare,I.base,I.loc,I.cell,I.free,I.freeC,fun p hp=>(ZK.mp hp).elim (fun z=>I.pin p (List.mem_append_left _ z)) (h p),I.hok,I.len⟩
theorem kQ{N:List Str}(hN:N.Nodup){i j:Nat}{x:Str}(a:N[i]?=some x)(b:N[j]?=some x):i=j:=by obtain⟨h1,e1⟩:=ZF.mp a;obtain⟨h2,e2⟩:=ZF.mp b;exact(List.getElem_inj hN).mp (e1.trans e2.symm)
theorem pC{M:Model}{A:Around}{E:Value->Shared->Prop}{i:Nat}{x:Str}{v:V}{u:Value}{Q:Unit->Shared->Prop}(I:Inv X pins σ H s)(hN:X.N.Nodup)(hi:X.N[i]?=some x)(hx:Loc X.env.scope x)(r:RelV v u)(h:∀s',Inv X pins (σ.set i (some v)) H s'->(∃a,Heap.SameBut a s.heap s'.heap/\(a=X.env.locals\/X.env.cells.lookup x=some a))->Q () s')(hf:X.fn x=true\/X.env.scope.names.lookup x=some .local:=by first|exact .inl rfl|exact .inr rfl|assumption):wpAny M A (storeName X.env x u) Q E s:=by
 obtain⟨m,hn,hl⟩:=id I.loc;have hcls:(X.env.scope.kind == .class ||(X.env.scope.kind == .module&&X.env.locals != X.env.globals))=false:=by rw[I.ok.kind];rfl
 have hiσ:i<σ.length:=by rw[I.len];exact(ZF.mp hi).1
 have cne:=I.cne;have tracked:∀{a:Addr} {h':Heap},(∃o,s.heap.get? a=some o/\H a=none)->Heap.SameBut a s.heap h'->HOk X.prog X.w H h':=fun{a h'} ha hs b ob e=>by
  obtain⟨_,_,hfree⟩:=ha;refine(I.hok b ob e).stay (fun c w' hc q=>(hs.2 c ?_).trans q) (fun _ q=>q) fun _ _ q=>q;rintro rfl;rcases hc with rfl|hc
  ·rw[hfree]at e;cases e
  ·rw[hfree]at hc;cases hc
 rcases hx with hk|hk
 ·refine wpAny_storeName_local hk hn (fun h' hn' hs=>?_) hcls;obtain⟨oL,_,_,hoL,_⟩:=id hn;refine h _ ⟨I.ok,I.os,I.bare,⟨fun b o e n hb hx=>?_,fun b o e n hb hx=>?_,I.base.free,fun b o e hx=>?_,I.base.tups,I.base.frzs,I.base.tbls⟩,⟨_,hn',fun j y v' e1 e2 e3=>?_⟩,fun y c e=>?_,I.free,I.freeC,fun p hp=>?_,tracked ⟨oL,hoL,I.free⟩ hs,by simpa using I.len⟩ ⟨_,hs,.inl rfl⟩
  ·exact(hs.2 b (Zt (Zn (Zk e) I.ok.above))).trans (I.base.keep b o e n hb hx)
  ·obtain⟨sl,e1⟩:=I.base.slot b o e n hb hx;exact⟨sl,(hs.2 b (Zt (Zn (Zk e) I.ok.above))).trans e1⟩
  ·obtain⟨o',e1⟩:=I.base.there b o e hx;exact⟨o',(hs.2 b (Zt (Zn (Zk e) I.ok.above))).trans e1⟩
  ·by_cases hj:j=i
   ·subst hj;rw[hi]at e1;cases e1;rw[List.getElem?_set_self hiσ]at e2;cases e2;exact⟨u,r,.inl ⟨hk,by simp⟩⟩
   ·rw[List.getElem?_set_ne (Yk hj)]at e2;obtain⟨u',r',q⟩:=hl j y v' e1 e2 e3;refine⟨u',r',?_⟩;rcases q with⟨k,e⟩|⟨k,c,e,z⟩
    ·refine .inl ⟨k,?_⟩;have:y≠x:=fun e=>hj (kQ hN e1 (e▸hi));simp[this,e]
    ·exact .inr ⟨k,c,e,z.sameBut hs (cne y c e)⟩
  ·obtain⟨w',z⟩:=I.cell y c e;exact⟨w',z.sameBut hs (cne y c e)⟩
  ·obtain⟨e,n,ne,nf,d⟩:=I.pin p hp;exact⟨(hs.2 p.1 ne).trans e,n,ne,nf,d⟩
 ·have hfn:X.fn x=true:=by
   rcases hf with z|z
   ·exact z
   ·rw[z]at hk;cases hk
  obtain⟨c,hc⟩:=I.ok.has x (.inl hk);obtain⟨w',z⟩:=I.cell x c hc;refine wpAny_storeName_cell I.ok.kind hk hc z (fun h' hc' hs=>?_);obtain⟨oc,hoc,hocd⟩:=id z;refine h { s with heap:=h' } ⟨I.ok,I.os,I.bare,⟨fun b o e n hb hx=>?_,fun b o e n hb hx=>?_,I.base.free,fun b o e hx=>?_,I.base.tups,I.base.frzs,I.base.tbls⟩,⟨m,hn.sameBut hs (Yk (cne x c hc)),fun j y v' e1 e2 e3=>?_⟩,fun y c' e=>?_,I.free,I.freeC,fun p hp=>?_,tracked ⟨oc,hoc,I.freeC x c hc⟩ hs,by simpa using I.len⟩ ⟨c,hs,.inr hc⟩
  ·exact(hs.2 b (Zt (Zn (Zk e) (I.ok.cab x c hfn hc)))).trans (I.base.keep b o e n hb hx)
  ·obtain⟨sl,e1⟩:=I.base.slot b o e n hb hx;exact⟨sl,(hs.2 b (Zt (Zn (Zk e) (I.ok.cab x c hfn hc)))).trans e1⟩
  ·obtain⟨o',e1⟩:=I.base.there b o e hx;exact⟨o',(hs.2 b (Zt (Zn (Zk e) (I.ok.cab x c hfn hc)))).trans e1⟩
  ·by_cases hj:j=i
   ·subst hj;rw[hi]at e1;cases e1;rw[List.getElem?_set_self hiσ]at e2;cases e2;exact⟨u,r,.inr ⟨.inl hk,c,hc,hc'⟩⟩
   ·rw[List.getElem?_set_ne (Yk hj)]at e2;obtain⟨u',r',q⟩:=hl j y v' e1 e2 e3;refine⟨u',r',?_⟩;rcases q with q|⟨k,c',e,z'⟩
    ·exact .inl q
    ·refine .inr ⟨k,c',e,z'.sameBut hs ?_⟩;rintro rfl;exact hj (kQ hN e1 (I.ok.inj _ _ _ e hc▸hi))
  ·by_cases hcc:c'=c
   ·subst hcc;exact⟨_,hc'⟩
   ·obtain⟨w2,z2⟩:=I.cell y c' e;exact⟨w2,z2.sameBut hs hcc⟩
  ·obtain⟨e,n,ne,nf,d⟩:=I.pin p hp;refine⟨(hs.2 p.1 ?_).trans e,n,ne,nf,d⟩;intro q;rw[q,hoc]at e;have q':oc=p.2:=Zw e;exact d w' (by rw[<-q'];exact hocd)
theorem iR{M:Model}{A:Around}{E:Value->Shared->Prop}{i:Nat}{x:Str}{v:V}{u:Value}{Q:Unit->Shared->Prop}(I:Inv X pins σ H s)(hN:X.N.Nodup)(hi:X.N[i]?=some x)(hx:Loc X.env.scope x)(r:RelV v u)(h:∀s',Inv X pins (σ.set i (some v)) H s'->Q () s')(hf:X.fn x=true\/X.env.scope.names.lookup x=some .local:=by first|exact .inl rfl|exact .inr rfl|assumption):wpAny M A (storeName X.env x u) Q E s :=
 pC I hN hi hx r (fun s' I' _=>h s' I') hf
theorem Inv.call'{s':Shared}{ch:List Addr}(I:Inv X pins σ H s)(ho:s'.os=s.os)(u:Un (frs X.stack) ch H H' s.heap s'.heap)(hok:HOk X.prog X.w H' s'.heap)(hg:AllBare s'.gens)(hch:∀b∈ch,(b∈X.ex\/X.s₀.heap.objs.size<=b)/\b≠X.env.locals/\(∀x c,X.env.cells.lookup x=some c->c≠b)/\∀p∈X.pn++pins,p.1≠b):Inv X pins σ H' s':=by obtain⟨h',g',d',t',o'⟩:=s';have e:o'=s.os:=ho;subst e;exact I.call (g':=g') (t':=t') (d':=d') u hok hg hch
end
abbrev XK:=Value->Option Addr->Hp->Prop
abbrev St:=List (Option V)
abbrev VK:=V->Hp->Prop
abbrev TE:=St->Hp->VK->Prop
abbrev TT:=St->Hp->(Bool->Hp->Prop)->Prop
abbrev TA:=St->Hp->(List V->Hp->Prop)->Prop
structure Ends where
 nx:St->Hp->Prop
 rt:VK
 bk:St->Hp->Prop:=fun _ _=>False
 ct:St->Hp->Prop:=fun _ _=>False
abbrev TS:=Ends->St->Hp->Prop
def EP(X:Cx)(pins:List (Addr×Obj))(σ:St)(Q:VK)(u:Value)(s':Shared):Prop:=∃v H',Inv X pins σ H' s'/\RelV v u/\Q v H'
def TP(X:Cx)(pins:List (Addr×Obj))(σ:St)(Q:Bool->Hp->Prop)(b:Bool)(s':Shared):Prop:=∃H',Inv X pins σ H' s'/\Q b H'
def AP(X:Cx)(pins:List (Addr×Obj))(σ:St)(Q:List V->Hp->Prop)(us:List Value)(s':Shared):Prop:=∃vs H',Inv X pins σ H' s'/\Vals vs us/\Q vs H'
def SP(X:Cx)(pins:List (Addr×Obj))(D:Ends)(f:Flow)(s':Shared):Prop :=
 match f with
 |.next=>∃σ' H',Inv X pins σ' H' s'/\D.nx σ' H'
 |.brk=>∃σ' H',Inv X pins σ' H' s'/\D.bk σ' H'
 |.cont=>∃σ' H',Inv X pins σ' H' s'/\D.ct σ' H'
 |.ret u=>∃v σ' H',Inv X pins σ' H' s'/\RelV v u/\D.rt v H'
def PE(X:Cx)(e:Expr)(t:TE):Prop :=
 ∀(pins:List (Addr×Obj)) (s:Shared) (σ:St) (H:Hp) (Q:VK),Inv X pins σ H s->t σ H Q->wpAny (model X.prog X.w) X.A (eval e X.env) (EP X pins σ Q) X.xe s
def PT(X:Cx)(e:Expr)(t:TT):Prop :=
 ∀(pins:List (Addr×Obj)) (s:Shared) (σ:St) (H:Hp) (Q:Bool->Hp->Prop),Inv X pins σ H s->t σ H Q->wpAny (model X.prog X.w) X.A (isTrue e X.env (eval e X.env)) (TP X pins σ Q) X.xe s
def PW(X:Cx)(e:Expr)(t:TT):Prop :=
 ∀(whole:Sem Value) (pins:List (Addr×Obj)) (s:Shared) (σ:St) (H:Hp) (Q:Bool->Hp->Prop),Inv X pins σ H s->t σ H Q->wpAny (model X.prog X.w) X.A (isTrue e X.env whole) (TP X pins σ Q) X.xe s
theorem PW.pt{X:Cx}{e:Expr}{t:TT}(h:PW X e t):PT X e t:=h _
def PA(X:Cx)(es:List Expr)(t:TA):Prop :=
 ∀(pos:Pos) (pins:List (Addr×Obj)) (s:Shared) (σ:St) (H:Hp) (Q:List V->Hp->Prop),Inv X pins σ H s->t σ H Q->wpAny (model X.prog X.w) X.A (spliced (backTo pos (starEach es X.env))) (AP X pins σ Q) X.xe s
def PS(X:Cx)(st:Stmt)(t:TS):Prop :=
 ∀(pins:List (Addr×Obj)) (s:Shared) (σ:St) (H:Hp) (D:Ends),Inv X pins σ H s->t D σ H->wpAny (model X.prog X.w) X.A (exec st X.env) (SP X pins D) X.xe s
def PSs(X:Cx)(st:List Stmt)(t:TS):Prop :=
 ∀(pins:List (Addr×Obj)) (s:Shared) (σ:St) (H:Hp) (D:Ends),Inv X pins σ H s->t D σ H->wpAny (model X.prog X.w) X.A (execs st X.env) (SP X pins D) X.xe s
theorem thn{α:Type}{t:Sem α}{Q Q':α->Shared->Prop}{M:Model}{A:Around}{E:Value->Shared->Prop}{s:Shared}(h:wpAny M A t Q E s)(hQ:∀a s,Q a s->Q' a s):wpAny M A t Q' E s:=ZL h hQ fun _ _ x=>x
open PySem PySem.Spec PyProof.Rows
section
variable{X:Cx}
def lB(i:Nat):TE:=fun σ H Q=>∃v,σ[i]?=some (some v)/\Q v H
def tC(v:V):TE:=fun _ H Q=>Q v H
theorem DU{i:Nat}{x:Str}{pos:Pos}(hN:X.N[i]?=some x)(hv:Vis X.env.scope x)(hd:(x==("__debug__":Str))=false:=by decide)(hcd:(x==("__classdict__":Str))=false:=by decide):PE X (.Name x pos) (lB i):=by
 intro pins s σ H Q I h;obtain⟨v,e,h⟩:=h;obtain⟨m,hn,hl⟩:=I.loc;obtain⟨u,r,l⟩:=hl i x v hN e hv;have fin:EP X pins σ Q u s:=⟨v,H,I,r,h⟩
 rcases l with⟨hk,hm⟩|⟨hk,c,hc,hcell⟩
 ·exact wpAny_Name (wpAny_loadName_local I.ok.kind hk hn hm fin) hd
 ·rcases hk with hk|hk
  ·exact wpAny_Name (wpAny_loadName_cell I.ok.kind hk hc hcell fin) hd
  ·exact wpAny_Name (wpAny_loadName_free I.ok.kind hk hc hcell fin hcd) hd
theorem DK{i j pos}:PE X (.Constant (.int i) j pos) (tC (.int i)):=fun _ _ _ H _ I h=>wpAny_Constant_int ⟨.int i,H,I.tok _,⟨_,rfl⟩,h⟩
theorem Fp{b j pos}:PE X (.Constant (.bool b) j pos) (tC (.bl b)):=fun _ _ _ H _ I h=>Constant_bool ⟨.bl b,H,I,rfl,h⟩
theorem DN{j pos}:PE X (.Constant .none j pos) (tC .non):=fun _ _ _ H _ I h=>Constant_none ⟨.non,H,I,rfl,h⟩
theorem DQ{x j pos}:PE X (.Constant (.str x) j pos) (tC (.str x)):=fun _ _ _ H _ I h=>Calls.Constant_str ⟨.str x,H,I.tok _,⟨_,rfl⟩,h⟩
def Gl(X:Cx)(x:Str):Prop:=X.env.kindOf x=some .globalImplicit
theorem dI{E:Value->Shared->Prop}{pins:List (Addr×Obj)}{s:Shared}{σ:St}{H:Hp}{x:Str}{u:Value}{pos:Pos}{Q:Value->Shared->Prop}(I:Inv X pins σ H s)(hg:Gl X x)(hm:X.mg x=some u)(h:Q u s)(hd:(x==("__debug__":Str))=false:=by decide):wpAny (model X.prog X.w) X.A (eval (.Name x pos) X.env) Q E s :=
 Calls.Name_function_global I.ok.kind hg (Calls.loadGlobal_global (by rw[I.ok.glob];exact I.mod.glob.keeps I.bk) hm h) hd
theorem fY{E:Value->Shared->Prop}{pins:List (Addr×Obj)}{s:Shared}{σ:St}{H:Hp}{x:Str}{u:Value}{pos:Pos}{Q:Value->Shared->Prop}(I:Inv X pins σ H s)(hg:Gl X x)(hm:X.mg x=none)(hv:bootBuiltins x=some u)(h:Q u s)(hn:x≠"__name__":=by decide)(hd:(x==("__debug__":Str))=false:=by decide):wpAny (model X.prog X.w) X.A (eval (.Name x pos) X.env) Q E s:=by obtain⟨mb,h1,h2⟩:=I.mod.blt;exact Calls.Name_function_global I.ok.kind hg (Calls.loadGlobal_builtin (by rw[I.ok.glob];exact I.mod.glob.keeps I.bk) hm (by rw[I.ok.blt];exact h1.keeps I.bk) ((h2 x hn).trans hv) h) hd
theorem uc{x:Str}{v:V}{u:Value}{pos:Pos}(hg:Gl X x)(hm:X.mg x=some u)(r:RelV v u)(hd:(x==("__debug__":Str))=false:=by decide):PE X (.Name x pos) (tC v) :=
 fun _ _ _ H _ I h=>dI I hg hm ⟨v,H,I,r,h⟩ hd
theorem B6{x:Str}{v:V}{u:Value}{pos:Pos}(hg:Gl X x)(hm:X.mg x=none)(hv:bootBuiltins x=some u)(r:RelV v u)(hn:x≠"__name__":=by decide)(hd:(x==("__debug__":Str))=false:=by decide):PE X (.Name x pos) (tC v) :=
 fun _ _ _ H _ I h=>fY I hg hm hv ⟨v,H,I,r,h⟩ hn hd
variable{a b:Expr}{ta tb:TE}{pos:Pos}
def PC(X:Cx)(op:CmpOp)(a b:Expr)(t:TE):Prop :=
 ∀(pins:List (Addr×Obj)) (s:Shared) (σ:St) (H:Hp) (Q:VK),Inv X pins σ H s->t σ H Q ->
  wpAny (model X.prog X.w) X.A (eval a X.env) (fun v s₁=>wpAny (model X.prog X.w) X.A (eval b X.env) (fun u s₂=>wpAny (model X.prog X.w) X.A (compareOp op v u) (EP X pins σ Q) X.xe s₂) X.xe s₁) X.xe s
def tB(t:TE):TT:=fun σ H Q=>t σ H fun x H1=>∃c,x=.bl c/\Q c H1
theorem yh{op:CmpOp}{t:TE}(h:PC X op a b t)(h1:behindInMarks op b=false:=by first|exact nobehind _ (by decide) (by decide)|rfl):PE X (.Compare a [op] [b] pos) t:=fun pins s σ H Q I hw=>wpAny_Compare1 (h pins s σ H Q I hw) h1
theorem yk{op:CmpOp}{t:TE}(h:PC X op a b t)(h1:behindInMarks op b=false:=by first|exact nobehind _ (by decide) (by decide)|rfl):PT X (.Compare a [op] [b] pos) (tB t):=by intro pins s σ H Q I hw;refine wpAny_isTrue_Compare1 (thn (h pins s σ H _ I hw) fun v s1 h1=>thn h1 fun u s2 h2=>thn h2 fun c s3 hz9=>?_) h1;obtain⟨x,H1,I1,r1,q1⟩:=hz9;obtain⟨d,rfl,q⟩:=q1;cases r1;exact Ya ⟨H1,I1,q⟩
theorem Eg{e:Expr}{t:TE}(h:PE X e t)(he:∀whole,isTrue e X.env whole=(do let v ←whole;standAt e.pos;holding [v] (truthy v)):=by intro _;rfl):PT X e (tB t):=by intro pins s σ H Q I hw;refine isTrue_plain (thn (h pins s σ H _ I hw) fun v s1 hz9=>?_) (he _);obtain⟨x,H1,I1,r1,q1⟩:=hz9;obtain⟨d,rfl,q⟩:=q1;cases r1;exact Ya ⟨H1,I1,q⟩
variable{tA tB':TT}{rest:List Expr}
def ED(t u:TT):TT:=fun σ H Q=>t σ H fun c H1=>if c=true then u σ H1 Q else Q false H1
def tOr(t u:TT):TT:=fun σ H Q=>t σ H fun c H1=>if c=true then Q true H1 else u σ H1 Q
def EJ(t:TT):TT:=fun σ H Q=>t σ H fun c H1=>Q (!c) H1
theorem Cq(ha:PT X a tA):PW X (.BoolOp .And [a] pos) tA:=by
 intro wh pins s σ H Q I h;refine isTrue_and (thn (ha pins s σ H Q I h) fun c s1 e=>?_);cases c with
 |true=>exact isTrue_and_nil e
 |false=>exact e
theorem Ei(ha:PT X a tA):PW X (.BoolOp .Or [a] pos) tA:=by
 intro wh pins s σ H Q I h;refine isTrue_or (thn (ha pins s σ H Q I h) fun c s1 e=>?_);cases c with
 |false=>exact isTrue_or_nil e
 |true=>exact e
theorem Eh(ha:PT X a tA)(hb:PW X (.BoolOp .And (b::rest) pos) tB'):PW X (.BoolOp .And (a::b::rest) pos) (ED tA tB'):=by
 intro wh pins s σ H Q I h;refine isTrue_and (thn (ha pins s σ H _ I h) fun c s1 ⟨H1,I1,q1⟩=>?_);cases c with
 |true=>exact hb wh pins s1 σ H1 Q I1 q1
 |false=>exact⟨H1,I1,q1⟩
theorem Fz(ha:PT X a tA)(hb:PW X (.BoolOp .Or (b::rest) pos) tB'):PW X (.BoolOp .Or (a::b::rest) pos) (tOr tA tB'):=by
 intro wh pins s σ H Q I h;refine isTrue_or (thn (ha pins s σ H _ I h) fun c s1 ⟨H1,I1,q1⟩=>?_);cases c with
 |true=>exact⟨H1,I1,q1⟩
 |false=>exact hb wh pins s1 σ H1 Q I1 q1
theorem Ef(ha:PT X a tA):PT X (.UnaryOp .Not a pos) (EJ tA):=by intro pins s σ H Q I h;exact isTrue_not (ha pins s σ H (fun c H1=>Q (!c) H1) I h)
def Br(ta tb:TE):TE:=fun σ H Q=>ta σ H fun x H1=>∃c,x=.bl c/\if c=true then tb σ H1 Q else Q (.bl false) H1
def EK(ta tb:TE):TE:=fun σ H Q=>ta σ H fun x H1=>∃c,x=.bl c/\if c=true then Q (.bl true) H1 else tb σ H1 Q
def Bw(ta:TE):TE:=fun σ H Q=>ta σ H fun x H1=>∃c,x=.bl c/\Q (.bl (!c)) H1
theorem DP{op}{t:TE}(h:PE X a t):PE X (.BoolOp op [a] pos) t:=fun pins s σ H Q I hw=>BoolOp_one (h pins s σ H Q I hw)
theorem DI(ha:PE X a ta)(hb:PE X (.BoolOp .And (b::rest) pos) tb):PE X (.BoolOp .And (a::b::rest) pos) (Br ta tb):=by
 intro pins s σ H Q I h;refine BoolOp_and (thn (ha pins s σ H _ I h) fun v s1 hz9=>?_);obtain⟨x,H1,I1,r1,q1⟩:=hz9;obtain⟨c,rfl,q1⟩:=q1;cases r1;refine Ya ?_;cases c with
 |true=>exact hb pins s1 σ H1 Q I1 q1
 |false=>exact⟨.bl false,H1,I1,rfl,q1⟩
theorem Fw(ha:PE X a ta)(hb:PE X (.BoolOp .Or (b::rest) pos) tb):PE X (.BoolOp .Or (a::b::rest) pos) (EK ta tb):=by
 intro pins s σ H Q I h;refine BoolOp_or (thn (ha pins s σ H _ I h) fun v s1 hz9=>?_);obtain⟨x,H1,I1,r1,q1⟩:=hz9;obtain⟨c,rfl,q1⟩:=q1;cases r1;refine Ya ?_;cases c with
 |false=>exact hb pins s1 σ H1 Q I1 q1
 |true=>exact⟨.bl true,H1,I1,rfl,q1⟩
theorem DO(ha:PE X a ta):PE X (.UnaryOp .Not a pos) (Bw ta):=by intro pins s σ H Q I h;refine UnaryOp_ (thn (ha pins s σ H _ I h) fun v s1 hz9=>?_);obtain⟨x,H1,I1,r1,q1⟩:=hz9;obtain⟨c,rfl,q1⟩:=q1;cases r1;exact not_of (Ya ⟨.bl (!c),H1,I1,rfl,q1⟩)
def tIf(t:TT)(ta tb:TE):TE:=fun σ H Q=>t σ H fun c H1=>if c=true then ta σ H1 Q else tb σ H1 Q
theorem Ar{c:Expr}(hc:PT X c tA)(ha:PE X a ta)(hb:PE X b tb):PE X (.IfExp c a b pos) (tIf tA ta tb):=by
 intro pins s σ H Q I h;refine wpAny_IfExp (thn (hc pins s σ H _ I h) fun d s1 ⟨H1,I1,q1⟩=>?_);cases d with
 |true=>exact ha pins s1 σ H1 Q I1 q1
 |false=>exact hb pins s1 σ H1 Q I1 q1
end
open PySem PySem.Spec PyProof.Rows
def SqL(K:PySem.W.Frag)(H:Hp)(a:Addr)(xs:List V):Prop :=
 Rd H a (.lst xs) \/
  ∃(o:Obj) (its:Array Value) (n:Nat),K.lookup a=some o/\o.cls=.type "list"/\o.dict=none/\o.data=.seq its n/\its.size<=sizeLine/\Vals xs its.toList
def SqT(K:PySem.W.Frag)(H:Hp)(a:Addr)(xs:List V):Prop :=
 Rd H a (.tup xs) \/
  ∃(o:Obj) (its:Array Value) (n:Nat),K.lookup a=some o/\o.cls=.type "tuple"/\o.data=.seq its n/\its.size<=sizeLine/\Vals xs its.toList
def FS:Value->Option V
 |.none=>some .non
 |.bool b=>some (.bl b)
 |.int i _=>some (.int i)
 |.str x _=>some (.str x)
 |.bytes b _=>some (.byt b)
 |.float b _=>some (.flt b)
 |.ref a=>some (.ref a)
 |.type n=>some (.ty n)
 |_=>none
theorem RelV.abs{x:V}{u:Value}(r:RelV x u):FS u=some x:=by
 cases x with
 |non=>cases r;rfl
 |bl _=>cases r;rfl
 |int _=>obtain⟨t,rfl⟩:=r;rfl
 |str _=>obtain⟨t,rfl⟩:=r;rfl
 |byt _=>obtain⟨t,rfl⟩:=r;rfl
 |flt _=>obtain⟨t,rfl⟩:=r;rfl
 |ref _=>cases r;rfl
 |ty _=>cases r;rfl
theorem RelV.inj{x y:V}{u:Value}(r:RelV x u)(q:RelV y u):x=y:=Zw (r.abs.symm.trans q.abs)
theorem Vals.inj:∀{xs ys:List V} {us:List Value},Vals xs us->Vals ys us->xs=ys
 |_,_,_,.nil,.nil=>rfl
 |_,_,_,.cons r t,.cons r' t'=>by rw[r.inj r',Vals.inj t t']
section
variable{X:Cx}{pins:List (Addr×Obj)}{σ:St}{H:Hp}{s:Shared}{a:Addr}{xs ys:List V}
theorem SqL.of{K:PySem.W.Frag}(h:H a=some (.lst xs)):SqL K H a xs:=.inl (.inl h)
theorem SqT.of{K:PySem.W.Frag}(h:H a=some (.tup xs)):SqT K H a xs:=.inl (.inl h)
theorem Inv.list(I:Inv X pins σ H s)(h:SqL X.K H a xs):∃its:List Value,Vals xs its/\PlainL s.heap a its.toArray/\xs.length<=sizeLine:=by
 rcases h with h|⟨o,its,n,hk,hc,hd,hs,hz,r⟩
 ·obtain⟨z,its,n,r,e⟩:=h.ok I.hok;exact⟨its,r,⟨_,n,e,rfl,rfl,rfl⟩,z⟩
 ·refine⟨its.toList,r,⟨o,n,I.kIn a o hk,hc,hd,by simpa using hs⟩,?_⟩;have e:=r.length;simp only[Zl]at e;omega
theorem Inv.tuple(I:Inv X pins σ H s)(h:SqT X.K H a xs):∃its:List Value,Vals xs its/\IsTup s.heap a its.toArray/\xs.length<=sizeLine:=by
 rcases h with h|⟨o,its,n,hk,hc,hs,hz,r⟩
 ·obtain⟨z,its,r,p⟩:=h.ok I.hok;exact⟨its,r,p,z⟩
 ·refine⟨its.toList,r,⟨o,I.kIn a o hk,hc,n,by simpa using hs⟩,?_⟩;have e:=r.length;simp only[Zl]at e;omega
theorem Inv.list_inj(I:Inv X pins σ H s)(h:SqL X.K H a xs)(h':SqL X.K H a ys):xs=ys:=by
 obtain⟨its,r,⟨o,n,e,_,_,d⟩,_⟩:=I.list h;obtain⟨its',r',⟨o',n',e',_,_,d'⟩,_⟩:=I.list h';rw[e]at e';cases e';rw[d]at d';injection d' with d1 _;have:its=its':=by simpa using congrArg Array.toList d1
 subst this;exact r.inj r'
theorem Inv.tuple_inj(I:Inv X pins σ H s)(h:SqT X.K H a xs)(h':SqT X.K H a ys):xs=ys:=by
 obtain⟨its,r,⟨o,e,_,n,d⟩,_⟩:=I.tuple h;obtain⟨its',r',⟨o',e',_,n',d'⟩,_⟩:=I.tuple h';rw[e]at e';cases e';rw[d]at d';injection d' with d1 _;have:its=its':=by simpa using congrArg Array.toList d1
 subst this;exact r.inj r'
end
abbrev Cx.wish(X:Cx)(E:Value->Shared->Prop):Cx:={ X with xe:=E }
abbrev Cx.nox(X:Cx):Cx:=X.wish fun _ _=>False
theorem Cx.Ok.wish{X:Cx}(ok:X.Ok)(E:Value->Shared->Prop):(X.wish E).Ok :=
 ⟨ok.mod,ok.kind,ok.glob,ok.blt,ok.above,ok.inj,ok.has,ok.cab,ok.hd,ok.frames,ok.stk,ok.exf,ok.bs,ok.bsz,ok.noex,ok.exfs,ok.funs,ok.frf⟩
theorem Cx.Ok.unwish{X:Cx}{E:Value->Shared->Prop}(ok:(X.wish E).Ok):X.Ok :=
 ⟨ok.mod,ok.kind,ok.glob,ok.blt,ok.above,ok.inj,ok.has,ok.cab,ok.hd,ok.frames,ok.stk,ok.exf,ok.bs,ok.bsz,ok.noex,ok.exfs,ok.funs,ok.frf⟩
section
variable{X:Cx}{pins:List (Addr×Obj)}{σ:St}{H:Hp}{s:Shared}{E:Value->Shared->Prop}
theorem Inv.wish(I:Inv X pins σ H s)(E:Value->Shared->Prop):Inv (X.wish E) pins σ H s:=⟨I.ok.wish E,I.os,I.bare,I.base,I.loc,I.cell,I.free,I.freeC,I.pin,I.hok,I.len⟩
theorem Inv.unwish(I:Inv (X.wish E) pins σ H s):Inv X pins σ H s:=⟨I.ok.unwish,I.os,I.bare,I.base,I.loc,I.cell,I.free,I.freeC,I.pin,I.hok,I.len⟩
theorem SP.unwish{D:Ends}{f:Flow}{s':Shared}(h:SP (X.wish E) pins D f s'):SP X pins D f s':=by
 cases f with
 |next=>obtain⟨σ',H',I,q⟩:=h;exact⟨σ',H',I.unwish,q⟩
 |brk=>obtain⟨σ',H',I,q⟩:=h;exact⟨σ',H',I.unwish,q⟩
 |cont=>obtain⟨σ',H',I,q⟩:=h;exact⟨σ',H',I.unwish,q⟩
 |ret u=>obtain⟨v,σ',H',I,r,q⟩:=h;exact⟨v,σ',H',I.unwish,r,q⟩
theorem PSs.nox{st:List Stmt}{t:TS}(h:PSs X.nox st t):PSs X st t:=fun pins s σ H D I hw =>
 ZL (h pins s σ H D (I.wish _) hw) (fun _ _ q=>q.unwish) fun _ _ z=>False.elim z
end
section
variable{X:Cx}{st:Stmt}{rest:List Stmt}{t u:TS}{e:Expr}{te:TE}{pos:Pos}
def wH:TS:=fun D σ H=>D.nx σ H
def AU(t u:TS):TS:=fun D σ H=>t { D with nx:=u D } σ H
theorem Cn:PSs X [] wH:=fun _ _ σ H _ I h=>wpAny_execs_nil ⟨σ,H,I,h⟩
theorem Az(h1:PS X st t)(h2:PSs X rest u):PSs X (st::rest) (AU t u):=by
 intro pins s σ H D I h;refine wpAny_execs_cons (thn (h1 pins s σ H { D with nx:=u D } I h) fun f s1 q=>?_);cases f with
 |next =>obtain⟨σ',H',I',q⟩:=q;exact h2 pins s1 σ' H' D I' q
 |ret v=>exact q
 |brk=>exact q
 |cont=>exact q
theorem Co(h1:PS X st t):PSs X [st] t:=by
 intro pins s σ H D I h;refine wpAny_execs_cons (thn (h1 pins s σ H D I h) fun f s1 q=>?_);cases f with
 |next=>exact wpAny_execs_nil q
 |ret v=>exact q
 |brk=>exact q
 |cont=>exact q
theorem Inv.quiet{pins:List (Addr×Obj)}{σ:St}{H:Hp}{s:Shared}(I:Inv X pins σ H s):interactive X.env=false:=by simp[interactive,I.ok.kind]
def wF(te:TE):TS:=fun D σ H=>te σ H fun _ H1=>D.nx σ H1
theorem Cl(he:PE X e te)(hs:swapsWith e none pos.line X.env=pure false:=by rfl):PS X (.Expr e pos) (wF te):=by intro pins s σ H D I h;exact wpAny_Expr_any (thn (he pins s σ H _ I h) fun v s1 ⟨x,H1,I1,r1,q1⟩=>⟨σ,H1,I1,q1⟩) I.quiet hs
def EL(te:TE):TS:=fun D σ H=>te σ H D.rt
theorem Ed(he:PE X e te):PS X (.Return (some e) pos) (EL te):=by intro pins s σ H D I h;exact wpAny_Return_some (thn (he pins s σ H _ I h) fun v s1 ⟨x,H1,I1,r1,q1⟩=>⟨x,σ,H1,I1,r1,q1⟩)
def AT(c:TT)(t u:TS):TS:=fun D σ H=>c σ H fun b H1=>if b=true then t D σ H1 else u D σ H1
theorem Fy{c:Expr}{a b:List Stmt}{tc:TT}(hc:PT X c tc)(ha:PSs X a t)(hb:PSs X b u):PS X (.If c a b pos) (AT tc t u):=by
 intro pins s σ H D I h;refine wpAny_If (thn (hc pins s σ H _ I h) fun d s1 ⟨H1,I1,q1⟩=>?_);cases d with
 |true=>exact ha pins s1 σ H1 D I1 q1
 |false=>exact hb pins s1 σ H1 D I1 q1
end
abbrev TG:=V->St->Hp->(St->Hp->Prop)->Prop
abbrev TGs:=List V->St->Hp->(St->Hp->Prop)->Prop
def PG(X:Cx)(target:Expr)(t:TG):Prop :=
 ∀(pins:List (Addr×Obj)) (s:Shared) (σ:St) (H:Hp) (v:V) (u:Value) (Q:St->Hp->Prop),Inv X pins σ H s->RelV v u->t v σ H Q ->
  wpAny (model X.prog X.w) X.A (assign target X.env u) (fun _ s'=>∃σ' H',Inv X pins σ' H' s'/\Q σ' H') X.xe s
def PGs(X:Cx)(ts:List Expr)(t:TGs):Prop :=
 ∀(pins:List (Addr×Obj)) (s:Shared) (σ:St) (H:Hp) (vs:List V) (us:List Value) (Q:St->Hp->Prop),Inv X pins σ H s->Vals vs us->t vs σ H Q ->
  wpAny (model X.prog X.w) X.A (assignInOrder ((assignEach ts X.env).map (·.2)) us) (fun _ s'=>∃σ' H',Inv X pins σ' H' s'/\Q σ' H') X.xe s
abbrev qv:=V->V->V->Hp->(Hp->Prop)->Prop
def zo(X:Cx)(t:qv):Prop :=
 ∀(pins:List (Addr×Obj)) (s:Shared) (σ:St) (H:Hp) (o i v:V) (ov iv u:Value) (Q:Hp->Prop),Inv X pins σ H s->RelV o ov->RelV i iv->RelV v u->t o i v H Q ->
  wpAny (model X.prog X.w) X.A (setItem ov iv u) (fun _ s'=>∃H',Inv X pins σ H' s'/\Q H') X.xe s
abbrev TIp:=V->V->Hp->VK->Prop
def PIp(X:Cx)(op:Operator)(t:TIp):Prop :=
 ∀(pins:List (Addr×Obj)) (s:Shared) (σ:St) (H:Hp) (x y:V) (v u:Value) (Q:VK),Inv X pins σ H s->RelV x v->RelV y u->t x y H Q ->
  wpAny (model X.prog X.w) X.A (inplaceOp op v u) (EP X pins σ Q) X.xe s
section
variable{X:Cx}{pos:Pos}
def bN(i:Nat):TG:=fun v σ H Q=>Q (σ.set i (some v)) H
theorem Cd{i:Nat}{x:Str}(hN:X.N.Nodup)(hi:X.N[i]?=some x)(hx:Loc X.env.scope x)(hf:X.fn x=true\/X.env.scope.names.lookup x=some .local:=by first|exact .inl rfl|exact .inr rfl|assumption):PG X (.Name x pos) (bN i):=by intro pins s σ H v u Q I r h;exact wpAny_assign_Name (iR I hN hi hx r (fun s' I'=>⟨_,H,I',h⟩) hf)
def nA:TGs:=fun vs σ H Q=>vs=[]/\Q σ H
def gH(t:TG)(u:TGs):TGs:=fun vs σ H Q=>∃v r,vs=v::r/\t v σ H fun σ' H'=>u r σ' H' Q
theorem Ce:PGs X [] nA:=by intro pins s σ H vs us Q I r h;obtain⟨e,h⟩:=h;subst e;cases r;exact assignInOrder_nil ⟨σ,H,I,h⟩
theorem Au{e:Expr}{es:List Expr}{t:TG}{u:TGs}(h1:PG X e t)(h2:PGs X es u)(hs:(assignEach (e::es) X.env).map (·.2)=assign e X.env::(assignEach es X.env).map (·.2):=by rfl):PGs X (e::es) (gH t u):=by
 intro pins s σ H vs us Q I r h;obtain⟨v,vr,e1,h⟩:=h;subst e1;cases r with
 |cons r rr =>rw[hs];refine assignInOrder_cons (thn (h1 pins s σ H _ _ _ I r h) fun _ s1 ⟨σ1,H1,I1,q1⟩=>?_);exact h2 pins s1 σ1 H1 _ _ Q I1 rr q1
def nC(K:PySem.W.Frag)(n:Nat)(t:TGs):TG:=fun v σ H Q=>∃a xs,v=.ref a/\SqT K H a xs/\xs.length=n/\t xs σ H Q
theorem DW{es:List Expr}{k:Nat}{t:TGs}{n:Nat}(hc:X.calm=true)(h:PGs X es t)(hn:(assignEach es X.env).length=n:=by rfl)(hst:(assignEach es X.env).findIdx? (·.1)=none:=by rfl):PG X (.Tuple es k pos) (nC X.K n t):=by intro pins s σ H v u Q I r hw;obtain⟨a,xs,e1,hq,hl,hw⟩:=hw;subst e1;cases r;obtain⟨its,rv,ht,hz⟩:=I.tuple hq;refine assign_Tuple_tuple (I.ok.hd hc) ht (by simp[hn,<-hl,rv.length]) hst fun h' hx=>?_;have I1:Inv X pins σ H { s with heap:=h' }:=I.kept (t':=s.toks) fun b o e=>hx b o (Zt (Zk e)) e;exact h pins _ σ H xs _ Q I1 (by simpa using rv) hw
def Da(to ti:TE)(t:qv):TG:=fun v σ H Q=>to σ H fun o H1=>ti σ H1 fun i H2=>t o i v H2 fun H3=>Q σ H3
theorem DV{o i:Expr}{to ti:TE}{t:qv}(ho:PE X o to)(hi:PE X i ti)(hs:zo X t)(ha:∀ v,assign (.Subscript o i pos) X.env v=(do
   let ov ←holding [v] (eval o X.env)
   let iv ←holding [v,ov] (eval i X.env)
   standAt pos
   holding [v,ov,iv] (setItem ov iv v)
   release [v,ov,iv] []):=by intro _;rfl):PG X (.Subscript o i pos) (Da to ti t):=by
 intro pins s σ H v u Q I r h;rw[ha];refine z6 (Z7 (thn (ho pins s σ H _ I h) fun ov s1 hz9=>?_));obtain⟨x,H1,I1,r1,q1⟩:=hz9;refine z6 (Z7 (thn (hi pins s1 σ H1 _ I1 q1) fun iv s2 hz9=>?_));obtain⟨y,H2,I2,r2,q2⟩:=hz9;refine z6 (wpAny_standAt (z6 (Z7 (thn (hs pins s2 σ H2 x y v ov iv u _ I2 r1 r2 r q2) fun _ s3 ⟨H3,I3,q3⟩=>?_))));exact wpAny_release ⟨σ,H3,I3,q3⟩
def oE(te:TE)(g:TG):TS:=fun D σ H=>te σ H fun x H1=>g x σ H1 D.nx
theorem Ea{tg e:Expr}{te:TE}{g:TG}(he:PE X e te)(hg:PG X tg g)(hs:swapsWithSole [tg] e pos.line X.env=pure false:=by rfl)(hw:swappedStores [tg] e X.env=pure none:=by rfl)(h1:(assignEach [tg] X.env).map (·.2)=[assign tg X.env]:=by rfl):PS X (.Assign [tg] e pos) (oE te g):=by intro pins s σ H D I h;refine wpAny_Assign_stores (thn (he pins s σ H _ I h) fun v s1 hz9=>?_) hs hw;obtain⟨x,H1,I1,r1,q1⟩:=hz9;rw[h1];exact thn (hg pins s1 σ H1 x v _ I1 r1 q1) fun _ s2 q=>q
theorem Ee{i:Nat}{x:Str}{e:Expr}{te:TE}{pos':Pos}(hN:X.N.Nodup)(hi:X.N[i]?=some x)(hx:Loc X.env.scope x)(he:PE X e te)(hs:swapsWith e (some (.Name x pos')) pos.line X.env=pure false:=by rfl)(hf:X.fn x=true\/X.env.scope.names.lookup x=some .local:=by first|exact .inl rfl|exact .inr rfl|assumption) :
  PS X (.Assign [.Name x pos'] e pos) (oE te (bN i)):=by
 intro pins s σ H D I h;refine wpAny_Assign_Name (thn (he pins s σ H _ I h) fun v s1 hz9=>?_) hs;obtain⟨y,H1,I1,r1,q1⟩:=hz9;exact iR I1 hN hi hx r1 (fun s2 I2=>⟨_,H1,I2,q1⟩) hf
end
structure It where
 go:Nat->Hp->Prop
 yld:Nat->Hp->V->Hp->Prop
 stop:Nat->Hp->Prop
def bh(X:Cx)(pins:List (Addr×Obj))(H:Hp)(b:Addr):Prop :=
 H b=none/\b≠X.env.locals/\b∉X.fs/\(b∈X.ex\/X.s₀.heap.objs.size<=b)/\(∀x c,X.env.cells.lookup x=some c->c≠b)/\∀p∈X.pn++pins,p.1≠b
theorem Inv.fpOk{X:Cx}{pins:List (Addr×Obj)}{σ:St}{H H':Hp}{s:Shared}{b:Addr}(I:Inv X pins σ H s)(hb:s.heap.objs.size<=b)(hn:H' b=none):bh X pins H' b:=by
 refine⟨hn,Yw (Zn I.lt hb),I.nofs hb,.inr (ZQ I.sz hb),fun x c e z=>?_,fun p hp z=>?_⟩
 ·obtain⟨v,q⟩:=I.cell x c e;exact absurd (Zn q.lt (by rw[z];exact hb)) (Yj _)
 ·exact absurd (Zn (Zk (I.pin p hp).1) (by rw[z];exact hb)) (Yj _)
structure Turn(P:Program)(w:World)(K:PySem.W.Frag)(tg:Expr)(J:It)(fp:List Addr)(it:Addr)(tn:Nat->Heap->Prop):Prop where
 mem:it∈fp
 obj:∀i h,tn i h->∀b∈fp,∃o,h.get? b=some o/\∀v,o.data≠.cell v
 keep:∀i h h',tn i h->(∀b∈fp,∀o,h.get? b=some o->h'.get? b=some o)->tn i h'
 item:∀(X:Cx),X.prog=P->X.w=w->X.K=K->X.calm=true->∀(i:Nat) (pins:List (Addr×Obj)) (s:Shared) (σ:St) (H:Hp) (E:Value->Shared->Prop),Inv X pins σ H s->(∀b∈fp,bh X pins H b)->tn i s.heap->J.go i H ->
  wpAny (model P w) X.A (pyNext (.ref it)) (fun r s1=>∃ u,r=some u /\
   wpAny (model P w) X.A (letOwnedTupleGo tg (.ref it) u) (fun _ s2=>∃ x H',Inv X pins σ H' s2/\RelV x u/\J.yld i H x H'/\tn (i+1) s2.heap/\∀ b∈fp,H' b=none) E s1) E s
 done:∀(X:Cx),X.prog=P->X.w=w->X.K=K->X.calm=true->∀(i:Nat) (pins:List (Addr×Obj)) (s:Shared) (σ:St) (H:Hp) (E:Value->Shared->Prop),Inv X pins σ H s->(∀b∈fp,bh X pins H b)->tn i s.heap->J.stop i H ->
  wpAny (model P w) X.A (pyNext (.ref it)) (fun r s1=>r=none/\Inv X pins σ H s1) E s
 self:∀(A:Around) (i:Nat) (s:Shared) (Q:Value->Shared->Prop) (E:Value->Shared->Prop),tn i s.heap->Q (.ref it) s->wpAny (model P w) A (pyIter (.ref it)) Q E s
abbrev TI:=St->Hp->(It->Hp->Prop)->Prop
def PIE(X:Cx)(pins:List (Addr×Obj))(σ:St)(tg:Expr)(R:It->Hp->Prop)(itv:Value)(s2:Shared):Prop :=
 ∃(it:Addr) (fp:List Addr) (tn:Nat->Heap->Prop) (J:It) (H':Hp),itv=.ref it/\Inv X pins σ H' s2/\Turn X.prog X.w X.K tg J fp it tn/\tn 0 s2.heap/\(∀b∈fp,bh X pins H' b)/\R J H'
def PI(X:Cx)(tg iter:Expr)(wi:TI):Prop :=
 ∀(pins:List (Addr×Obj)) (s:Shared) (σ:St) (H:Hp) (R:It->Hp->Prop),Inv X pins σ H s->wi σ H R ->
  wpAny (model X.prog X.w) X.A (eval iter X.env) (fun v s1=>wpAny (model X.prog X.w) X.A (pyIter v) (PIE X pins σ tg R) X.xe s1) X.xe s
theorem lV{M:Model}{A:Around}{E:Value->Shared->Prop}{s:Shared}{tg:Expr}{it:Addr}{u:Value}{o:Obj}{n:String}{vs:Array Value}{Q:Unit->Shared->Prop}(ho:s.heap.get? it=some o)(hc:o.cls=.type n)(hd:o.data=.fields vs)(hn:["enumerate","zip","dict_itemiterator","dict_reverseitemiterator","odict_iterator","itertools.zip_longest","itertools.pairwise"].contains n=false)(hQ:Q () s):wpAny M A (letOwnedTupleGo tg (.ref it) u) Q E s:=by
 unfold letOwnedTupleGo;cases tg<;>first
  |exact Za hQ
  | (cases u<;>first
    |exact Za hQ
    | (refine z6 (wpAny_load ho ?_)
       rw[hc,hd];show wpAny M A (if(["enumerate","zip","dict_itemiterator","dict_reverseitemiterator","odict_iterator","itertools.zip_longest","itertools.pairwise"].contains n&&vs[0]?==some (rawInt _))=true then _ else _) Q E s;rw[HH (by intro h;rw[hn,Yz]at h;cases h)];exact Za hQ))
def Itl(K:PySem.W.Frag)(a:Addr):It :=
 ⟨fun i H=>∃xs x,SqL K H a xs/\xs[i]?=some x,fun i H x H'=>H'=H/\∀xs,SqL K H a xs->xs[i]?=some x,fun i H=>∃xs,SqL K H a xs/\xs.length<=i⟩
def Itt(K:PySem.W.Frag)(a:Addr):It :=
 ⟨fun i H=>∃xs x,SqT K H a xs/\xs[i]?=some x,fun i H x H'=>H'=H/\∀xs,SqT K H a xs->xs[i]?=some x,fun i H=>∃xs,SqT K H a xs/\xs.length<=i⟩
def Itr(lo:Int)(n:Nat):It:=⟨fun i _=>i<n,fun i H x H'=>H'=H/\x=.int (lo+i),fun i _=>n<=i⟩
theorem yR{P:Program}{w:World}{K:PySem.W.Frag}{tg:Expr}(a it:Addr):Turn P w K tg (Itl K a) [it] it (fun i h=>h.IsListIter it a i) where
 mem:=by simp
 obj:=fun i h st b hb=>by
  have e:b=it:=by simpa using hb
  subst e;obtain⟨o,e,c,d⟩:=st;exact⟨o,e,fun v z=>by rw[d]at z;cases z⟩
 keep:=fun i h h' st k=>st.at fun o e=>k it (by simp) o e
 item:=by intro X hP hw hK hc i pins s σ H E I hf st hg;subst hP hw hK;obtain⟨xs,x,hq,hx⟩:=hg;obtain⟨its,rv,p,hz⟩:=I.list hq;obtain⟨u,hu,ru⟩:=rv.get hx;obtain⟨f0,f1,f2,f3,f4,f5⟩:=hf it (by simp);refine wpAny_pyNext_list_item st p.isList (x:=u) (by simpa using hu) fun h' st' sb=>?_;have I1:Inv X pins σ H { s with heap:=h' }:=I.turned (t':=s.toks) (fun b o hb e=>(sb.2 b hb).trans e) f0 f1 f3 f4 f5;obtain⟨o,e,c,d⟩:=id st';exact⟨u,rfl,lV (s:={ s with heap:=h' }) e c d (by decide) ⟨x,H,I1,ru,⟨rfl,fun ys hy=>by rw[I.list_inj hy hq];exact hx⟩,st',fun b hb=>(hf b hb).1⟩⟩
 done:=by intro X hP hw hK hc i pins s σ H E I hf st hg;subst hP hw hK;obtain⟨xs,hq,hx⟩:=hg;obtain⟨its,rv,p,hz⟩:=I.list hq;obtain⟨f0,f1,f2,f3,f4,f5⟩:=hf it (by simp);have hl:=rv.length;exact wpAny_pyNext_list_end (I.ok.hd hc) st p.isList (by simp;omega) fun h' eb=>⟨rfl,I.turned (t':=s.toks) (fun b o hb e=>eb b o hb e) f0 f1 f3 f4 f5⟩
 self:=fun _ _ _ _ _ st h=>wpAny_pyIter_listiter st h
theorem wK{P:Program}{w:World}{K:PySem.W.Frag}{tg:Expr}(a it:Addr):Turn P w K tg (Itt K a) [it] it (fun i h=>h.IsTupleIter it a i) where
 mem:=by simp
 obj:=fun i h st b hb=>by
  have e:b=it:=by simpa using hb
  subst e;obtain⟨o,e,c,d⟩:=st;exact⟨o,e,fun v z=>by rw[d]at z;cases z⟩
 keep:=fun i h h' st k=>st.at fun o e=>k it (by simp) o e
 item:=by intro X hP hw hK hc i pins s σ H E I hf st hg;subst hP hw hK;obtain⟨xs,x,hq,hx⟩:=hg;obtain⟨its,rv,p,hz⟩:=I.tuple hq;obtain⟨u,hu,ru⟩:=rv.get hx;obtain⟨f0,f1,f2,f3,f4,f5⟩:=hf it (by simp);refine wpAny_pyNext_tuple_item st (show s.heap.IsTuple a its.toArray from p) (x:=u) (by simpa using hu) fun h' st' sb=>?_;have I1:Inv X pins σ H { s with heap:=h' }:=I.turned (t':=s.toks) (fun b o hb e=>(sb.2 b hb).trans e) f0 f1 f3 f4 f5;obtain⟨o,e,c,d⟩:=id st';exact⟨u,rfl,lV (s:={ s with heap:=h' }) e c d (by decide) ⟨x,H,I1,ru,⟨rfl,fun ys hy=>by rw[I.tuple_inj hy hq];exact hx⟩,st',fun b hb=>(hf b hb).1⟩⟩
 done:=by intro X hP hw hK hc i pins s σ H E I hf st hg;subst hP hw hK;obtain⟨xs,hq,hx⟩:=hg;obtain⟨its,rv,p,hz⟩:=I.tuple hq;obtain⟨f0,f1,f2,f3,f4,f5⟩:=hf it (by simp);have hl:=rv.length;exact wpAny_pyNext_tuple_end (I.ok.hd hc) st (show s.heap.IsTuple a its.toArray from p) (by simp;omega) fun h' eb=>⟨rfl,I.turned (t':=s.toks) (fun b o hb e=>eb b o hb e) f0 f1 f3 f4 f5⟩
 self:=fun _ _ _ _ _ st h=>wpAny_pyIter_tupleiter st h
theorem wJ{P:Program}{w:World}{K:PySem.W.Frag}{tg:Expr}(it:Addr)(lo:Int)(n:Nat):Turn P w K tg (Itr lo n) [it] it (fun i h=>IsRangeIter h it (lo+(i:Nat)*1) ((n:Int)-(i:Nat)) 1) where
 mem:=by simp
 obj:=fun i h st b hb=>by
  have e:b=it:=by simpa using hb
  subst e;exact⟨_,st,fun v z=>by
   have z':Data.fields _=Data.cell v:=z;cases z'⟩
 keep:=fun i h h' st k=>k it (by simp) _ st
 item:=by intro X hP hw hK hc i pins s σ H E I hf st hg;subst hP hw hK;obtain⟨f0,f1,f2,f3,f4,f5⟩:=hf it (by simp);have W:=Walks.range (prog:=X.prog) (w:=X.w) (I.ok.hd hc) it lo 1 n;refine W.item i s _ _ hg st fun v h' tk hv st' kk=>?_;obtain⟨t,rfl⟩:=hv;have I1:Inv X pins σ H { s with heap:=h',toks:=tk }:=I.turned (fun b o hb e=>kk b o (by simpa using hb) e) f0 f1 f3 f4 f5;refine⟨_,rfl,lV (s:={ s with heap:=h',toks:=tk }) (n:="range_iterator") st' rfl rfl (by decide) ⟨.int (lo+i),H,I1,⟨t,?_⟩,⟨rfl,rfl⟩,st',fun b hb=>(hf b hb).1⟩⟩;rw[Int.mul_one]
 done:=by intro X hP hw hK hc i pins s σ H E I hf st hg;subst hP hw hK;obtain⟨f0,f1,f2,f3,f4,f5⟩:=hf it (by simp);exact wpAny_pyNext_range_end (I.ok.hd hc) st (by have:n<=i:=hg;omega) fun h' eb=>⟨rfl,I.turned (t':=s.toks) (fun b o hb e=>eb b o hb e) f0 f1 f3 f4 f5⟩
 self:=fun _ _ _ _ _ st h=>wpAny_pyIter_rangeiter st h
open PySem PySem.Spec PyProof.Rows
section
variable{X:Cx}{tg:Expr}
def ve(K:PySem.W.Frag)(tl:TE):TI:=fun σ H R=>tl σ H fun x H1=>∃a,x=.ref a/\(∃xs,SqL K H1 a xs)/\R (Itl K a) H1
def Df(K:PySem.W.Frag)(tl:TE):TI:=fun σ H R=>tl σ H fun x H1=>∃a,x=.ref a/\(∃xs,SqT K H1 a xs)/\R (Itt K a) H1
theorem Cf{l:Expr}{tl:TE}(hl:PE X l tl):PI X tg l (ve X.K tl):=by
 intro pins s σ H R I h;refine thn (hl pins s σ H _ I h) fun v s1 hz9=>?_;obtain⟨x,H1,I1,r1,q1⟩:=hz9;obtain⟨a,e,⟨xs,hq⟩,q⟩:=q1;subst e;cases r1;obtain⟨its,rv,p,hz⟩:=I1.list hq;refine wpAny_pyIter_list p.isList ?_;refine⟨s1.heap.objs.size,[s1.heap.objs.size],_,_,H1,rfl,I1.kept (t':=s1.toks) fun b o e=>z9 _ e,yR a _,⟨_,Zh _ rfl,rfl,rfl⟩,fun b hb=>?_,q⟩;have e:b=s1.heap.objs.size:=by simpa using hb
 subst e;exact I1.fpOk (Zb _) (I1.hok.fresh (Zb _))
theorem DY{l:Expr}{tl:TE}(hl:PE X l tl):PI X tg l (Df X.K tl):=by
 intro pins s σ H R I h;refine thn (hl pins s σ H _ I h) fun v s1 hz9=>?_;obtain⟨x,H1,I1,r1,q1⟩:=hz9;obtain⟨a,e,⟨xs,hq⟩,q⟩:=q1;subst e;cases r1;obtain⟨its,rv,p,hz⟩:=I1.tuple hq;refine Y7 (show s1.heap.IsTuple a its.toArray from p) ?_;refine⟨s1.heap.objs.size,[s1.heap.objs.size],_,_,H1,rfl,I1.kept (t':=s1.toks) fun b o e=>z9 _ e,wK a _,⟨_,Zh _ rfl,rfl,rfl⟩,fun b hb=>?_,q⟩;have e:b=s1.heap.objs.size:=by simpa using hb
 subst e;exact I1.fpOk (Zb _) (I1.hok.fresh (Zb _))
theorem AG{pins:List (Addr×Obj)}{σ:St}{H:Hp}{s:Shared}{R:It->Hp->Prop}{E:Value->Shared->Prop}{lo hi:Int}{t u v:Tok}{tk:Nat}(I:Inv X pins σ H s)(h1:-(2^62)<=lo)(h2:lo<2^62)(h3:-(2^62)<=hi)(h4:hi<2^62)(q:R (Itr lo (hi-lo).toNat) H):wpAny (model X.prog X.w) X.A (pyIter (.ref s.heap.objs.size)) (PIE X pins σ tg R) E { s with heap:=s.heap.push { cls:=.type "range",data:=.fields #[.int lo t,.int hi u,.int 1 v] },toks:=tk }:=by
 refine wpAny_pyIter_range (IsRange.new ..) (small_one h1 h2 h3 h4) ?_;have I1:Inv X pins σ H { s with heap:=s.heap.push { cls:=.type "range",data:=.fields #[.int lo t,.int hi u,.int 1 v] },toks:=tk }:=I.kept fun b o e=>z9 _ e;refine⟨(s.heap.push { cls:=.type "range",data:=.fields #[.int lo t,.int hi u,.int 1 v] }).objs.size,[(s.heap.push { cls:=.type "range",data:=.fields #[.int lo t,.int hi u,.int 1 v] }).objs.size],_,_,H,rfl,
  I1.kept (t':=tk) fun b o e=>z9 _ e,wJ _ lo (hi - lo).toNat,?_,fun b hb=>?_,q⟩
 ·have e1:lo+((0:Nat):Int)*1=lo:=by simp
  have e2:(((hi-lo).toNat:Nat):Int)-((0:Nat):Int)=Builtin.Range.rangeSize lo hi 1:=by rw[rangeSize_one];split<;>omega
  show IsRangeIter _ _ (lo+((0:Nat):Int)*1) ((((hi-lo).toNat:Nat):Int)-((0:Nat):Int)) 1;rw[e1,e2];exact Zh _ rfl
 ·have e:b=(s.heap.push { cls:=.type "range",data:=.fields #[.int lo t,.int hi u,.int 1 v] }).objs.size:=by simpa using hb
  subst e;exact I1.fpOk (Zb _) (I1.hok.fresh (Zb _))
def Ba(ta:TA):TI:=fun σ H R=>ta σ H fun vs H1=>∃j:Int,vs=[.int j]/\-(2^62)<=j/\j<2^62/\R (Itr 0 j.toNat) H1
theorem yi{a:Expr}{ta:TA}{p pos:Pos}(hg:Gl X "range")(hm:X.mg "range" = none)(ha:PA X [a] ta)(hs:starEach [a] X.env=[(false,eval a X.env)]:=by rfl):PI X tg (.Call (.Name "range" p) [a] [] pos) (Ba ta):=by
 intro pins s σ H R I h;refine Call_ (fY I hg hm boot_range (Y8 (thn (ha pos pins s σ H _ I h) fun us s1 hz9=>?_) hs rfl));obtain⟨vs,H1,I1,r1,q1⟩:=hz9;obtain⟨j,e,q1,q2,q⟩:=q1;subst e;cases r1 with
 |cons r rr =>cases rr;obtain⟨t,rfl⟩:=r;exact call_range_1 (AG I1 (by omega) (by omega) q1 q2 (by simpa using q))
def EG(wi:TI)(g:TG)(tb:TS):TS:=fun D σ H=>wi σ H fun J H1=>∃W:Nat->Nat->St->Hp->Prop,(∃m,W 0 m σ H1)/\∀i m σ H,W i m σ H ->
 (J.stop i H/\D.nx σ H)\/(J.go i H/\∃N:St->Hp->Prop,(∀σ' H',N σ' H'->∃m',m'<m/\W (i+1) m' σ' H')/\∀x H',J.yld i H x H'->g x σ H' fun σ2 H2=>tb { D with nx:=N,ct:=N,bk:=D.nx } σ2 H2)
def hO(fp:List Addr)(h:Heap):List (Addr×Obj):=fp.filterMap fun b=>(h.get? b).map fun o=>(b,o)
theorem cR{fp:List Addr}{h:Heap}{b:Addr}{o:Obj}(hb:b∈fp)(e:h.get? b=some o):(b,o)∈hO fp h:=Y9.mpr ⟨b,hb,by rw[e];rfl⟩
theorem xX{fp:List Addr}{h:Heap}{p:Addr×Obj}(hp:p∈hO fp h):p.1∈fp/\h.get? p.1=some p.2:=by
 obtain⟨b,hb,e⟩:=Y9.mp hp;cases q:h.get? b with
 |none=>rw[q]at e;cases e
 |some o =>rw[q]at e;have e':(b,o)=p:=Zw e;subst e';exact⟨hb,q⟩
theorem Inv.pinned{pins:List (Addr×Obj)}{σ:St}{H:Hp}{s:Shared}{fp:List Addr}(I:Inv X pins σ H s)(hf:∀b∈fp,bh X pins H b)(ho:∀b∈fp,∃o,s.heap.get? b=some o/\∀v,o.data≠.cell v):Inv X (pins++hO fp s.heap) σ H s :=
 I.pins_of fun p hp=>(ZK.mp hp).elim (fun z=>I.pin p (Zv _ z)) fun z=>by obtain⟨hb,e⟩:=xX z;obtain⟨f0,f1,f2,_⟩:=hf p.1 hb;obtain⟨o,e',d⟩:=ho p.1 hb;rw[e]at e';cases e';exact⟨e,f0,f1,f2,d⟩
theorem Inv.unpinned{pins pl:List (Addr×Obj)}{σ:St}{H:Hp}{s:Shared}(I:Inv X (pins++pl) σ H s):Inv X pins σ H s:=I.pins_of fun p hp=>I.pin p (Zv _ (List.mem_append_left _ hp))
theorem Ec{iter:Expr}{body:List Stmt}{wi:TI}{g:TG}{tb:TS}{pos:Pos}(hp:PassesOwn (model X.prog X.w) X.A X.env X.xe)(hc:X.calm=true)(hi:PI X tg iter wi)(hg:PG X tg g)(hb:PSs X body tb)(hs:∀x,foldedSetIterable iter X.env x=pure x:=by intro _;rfl):PS X (.For tg iter body [] pos) (EG wi g tb):=by
 intro pins s σ H D I h;refine wpAny_For (thn (hi pins s σ H _ I h) fun v s1 h1=>thn h1 fun itv s2 h2=>?_) hs;obtain⟨it,fp,tn,J,H2,e,I2,T,st2,f2,W,⟨m0,w0⟩,turn⟩:=h2;subst e;have stat:∀{H':Hp},(∀b∈fp,H' b=none)->∀b∈fp,bh X pins H' b:=fun hn b hb=>⟨hn b hb,(f2 b hb).2⟩
 refine codeAny_forLoop_any (fun n s'=>∃i σ' H',Inv X pins σ' H' s'/\tn i s'.heap/\(∀b∈fp,H' b=none)/\W i n σ' H') ?_ m0 ⟨0,σ,H2,I2,st2,fun b hb=>(f2 b hb).1,w0⟩;rintro n s3 ⟨i,σ3,H3,I3,st3,fr3,w3⟩;rcases turn i n σ3 H3 w3 with⟨stop,qn⟩|⟨go,N,hN,step⟩
 ·refine wpAny_passesOwn hp (thn (T.done X rfl rfl rfl hc i pins s3 σ3 H3 X.xe I3 (stat fr3) st3 stop) fun r s4 ⟨hr,I4⟩=>?_);subst hr;exact wpAny_execs_nil ⟨σ3,H3,I4,qn⟩
 ·refine wpAny_passesOwn hp (thn (T.item X rfl rfl rfl hc i pins s3 σ3 H3 X.xe I3 (stat fr3) st3 go) fun r s4 ⟨u,hr,h4⟩=>?_);subst hr;refine wpAny_passesOwn hp (thn h4 fun _ s5 hz9=>?_);obtain⟨x,H5,I5,r5,y5,st5,fr5⟩:=hz9;have I5':=I5.pinned (stat fr5) (T.obj _ _ st5);refine wpAny_passesOwn hp (thn (hg _ s5 σ3 H5 x u _ I5' r5 (step x H5 y5)) fun _ s6 ⟨σ6,H6,I6,q6⟩=>?_);refine wpAny_passesOwn hp (thn (hb _ s6 σ6 H6 _ I6 q6) fun f s7 q7=>?_);have again:∀{σ7:St} {H7:Hp},Inv X (pins++hO fp s5.heap) σ7 H7 s7->N σ7 H7->∃m,m<n/\∃i σ' H',Inv X pins σ' H' s7/\tn i s7.heap/\(∀b∈fp,H' b=none)/\W i m σ' H':=fun{σ7 H7} I7 n7=>by obtain⟨m',hm,w7⟩:=hN σ7 H7 n7;refine⟨m',hm,i+1,σ7,H7,I7.unpinned,T.keep _ _ _ st5 fun b hb o e=>(I7.pin (b,o) (Zv _ (Zv _ (cR hb e)))).1,fun b hb=>?_,w7⟩;obtain⟨o,e,d⟩:=T.obj _ _ st5 b hb;exact(I7.pin (b,o) (Zv _ (Zv _ (cR hb e)))).2.1
  cases f with
  |next=>obtain⟨σ7,H7,I7,n7⟩:=q7;exact again I7 n7
  |cont=>obtain⟨σ7,H7,I7,n7⟩:=q7;exact again I7 n7
  |brk=>obtain⟨σ7,H7,I7,q7⟩:=q7;exact⟨σ7,H7,I7.unpinned,q7⟩
  |ret v=>obtain⟨x7,σ7,H7,I7,r7,q7⟩:=q7;exact⟨x7,σ7,H7,I7.unpinned,r7,q7⟩
end
theorem qI{K:PySem.W.Frag}{a:Addr}{xs:List V}{g:TG}{tb:TS}{D:Ends}{σ:St}{H:Hp}(Pv:Nat->St->Hp->Prop)(h0:Pv 0 σ H)(hl:∀i σ H,i<=xs.length->Pv i σ H->SqL K H a xs)(hs:∀i x σ H,xs[i]?=some x->Pv i σ H->g x σ H fun σ2 H2=>tb { D with nx:=Pv (i+1),ct:=Pv (i+1),bk:=D.nx } σ2 H2)(hd:∀σ H,Pv xs.length σ H->D.nx σ H) :
  ∃W:Nat->Nat->St->Hp->Prop,(∃m,W 0 m σ H)/\∀i m σ H,W i m σ H ->
   ((Itl K a).stop i H/\D.nx σ H)\/((Itl K a).go i H/\∃N:St->Hp->Prop,(∀σ' H',N σ' H'->∃m',m'<m/\W (i+1) m' σ' H')/\∀x H',(Itl K a).yld i H x H'->g x σ H' fun σ2 H2=>tb { D with nx:=N,ct:=N,bk:=D.nx } σ2 H2):=by
 refine⟨fun i m σ H=>m=xs.length-i/\i<=xs.length/\Pv i σ H,⟨xs.length,by simp,ZV _,h0⟩,?_⟩;rintro i m σ H ⟨rfl,hi,p⟩;have q:=hl i σ H hi p;by_cases hlt:i<xs.length
 ·refine .inr ⟨⟨xs,xs[i],q,by simp[hlt]⟩,Pv (i+1),fun σ' H' p'=>⟨xs.length-(i+1),by omega,rfl,hlt,p'⟩,fun x H' y=>?_⟩;obtain⟨e,y⟩:=y;subst e;exact hs i x σ _ (y xs q) p
 ·have e:i=xs.length:=by omega
  subst e;exact .inl ⟨⟨xs,q,Zb _⟩,hd σ H p⟩
open PySem PySem.Spec PyProof.Rows
abbrev R2:=V->V->Hp->VK->Prop
def OpR(X:Cx)(f:Value->Value->Sem Value)(r:R2):Prop :=
 ∀(pins:List (Addr×Obj)) (s:Shared) (σ:St) (H:Hp) (x y:V) (v u:Value) (Q:VK),Inv X pins σ H s->RelV x v->RelV y u->r x y H Q ->
  wpAny (model X.prog X.w) X.A (f v u) (EP X pins σ Q) X.xe s
def UnR(X:Cx)(f:Value->Sem Value)(r:V->Hp->VK->Prop):Prop :=
 ∀(pins:List (Addr×Obj)) (s:Shared) (σ:St) (H:Hp) (x:V) (v:Value) (Q:VK),Inv X pins σ H s->RelV x v->r x H Q ->
  wpAny (model X.prog X.w) X.A (f v) (EP X pins σ Q) X.xe s
def cY(X:Cx)(f:Value)(r:List V->Hp->VK->Prop):Prop :=
 ∀(pins:List (Addr×Obj)) (s:Shared) (σ:St) (H:Hp) (xs:List V) (us:List Value) (Q:VK),Inv X pins σ H s->Vals xs us->r xs H Q ->
  wpAny (model X.prog X.w) X.A (call f us) (EP X pins σ Q) X.xe s
def tOp(r:R2)(ta tb:TE):TE:=fun σ H Q=>ta σ H fun x H1=>tb σ H1 fun y H2=>r x y H2 Q
def rI(C:Int->Int->Prop)(g:Int->Int->V):R2:=fun x y H Q=>∃i j,x=.int i/\y=.int j/\C i j/\Q (g i j) H
def rI0(g:Int->Int->V):R2:=fun x y H Q=>∃i j,x=.int i/\y=.int j/\Q (g i j) H
section
variable{X:Cx}{a b c:Expr}{ta tb tc:TE}{pos:Pos}
theorem zt(ha:PE X a ta)(hb:PE X b tb){pins:List (Addr×Obj)}{s:Shared}{σ:St}{H:Hp}{R:V->V->Hp->Prop}(I:Inv X pins σ H s)(h:ta σ H fun x H1=>tb σ H1 fun y H2=>R x y H2){Q:Value->Shared->Prop}{f:Value->Value->Sem Value}(hf:∀v u s2 x y H2,Inv X pins σ H2 s2->RelV x v->RelV y u->R x y H2->wpAny (model X.prog X.w) X.A (f v u) Q X.xe s2) :
  wpAny (model X.prog X.w) X.A (eval a X.env) (fun v s₁=>wpAny (model X.prog X.w) X.A (eval b X.env) (fun u s₂=>wpAny (model X.prog X.w) X.A (f v u) Q X.xe s₂) X.xe s₁) X.xe s:=by
 refine thn (ha pins s σ H _ I h) fun v s1 hz9=>?_;obtain⟨x,H1,I1,r1,q1⟩:=hz9;refine thn (hb pins s1 σ H1 _ I1 q1) fun u s2 hz9=>?_;obtain⟨y,H2,I2,r2,q2⟩:=hz9;exact hf v u s2 x y H2 I2 r1 r2 q2
theorem Fv{op:Operator}{r:R2}(ho:OpR X (binaryOp op) r)(ha:PE X a ta)(hb:PE X b tb):PE X (.BinOp a op b pos) (tOp r ta tb):=by intro pins s σ H Q I h;exact wpAny_BinOp (zt ha hb I h fun v u s2 x y H2 I2 rx ry q=>ho pins s2 σ H2 x y v u Q I2 rx ry q)
theorem opI{f:Value->Value->Sem Value}{C:Int->Int->Prop}{g:Int->Int->Int}(rule:∀(i j:Int) (t u:Tok) (s:Shared) (Q:Value->Shared->Prop) (E:Value->Shared->Prop),C i j->Q (.int (g i j) s.toks) { s with toks:=s.toks+1 }->wpAny (model X.prog X.w) X.A (f (.int i t) (.int j u)) Q E s) :
  OpR X f (rI C fun i j=>.int (g i j)):=by
 intro pins s σ H x y v u Q I rx ry h;obtain⟨i,j,rfl,rfl,hc,q⟩:=h;obtain⟨t,rfl⟩:=rx;obtain⟨t',rfl⟩:=ry;exact rule i j t t' s _ _ hc ⟨.int (g i j),H,I.tok _,⟨_,rfl⟩,q⟩
theorem DA{f:Value->Value->Sem Value}{g:Int->Int->Int}(rule:∀(i j:Int) (t u:Tok) (s:Shared) (Q:Value->Shared->Prop) (E:Value->Shared->Prop),Q (.int (g i j) s.toks) { s with toks:=s.toks+1 }->wpAny (model X.prog X.w) X.A (f (.int i t) (.int j u)) Q E s) :
  OpR X f (rI0 fun i j=>.int (g i j)):=by
 intro pins s σ H x y v u Q I rx ry h;obtain⟨i,j,rfl,rfl,q⟩:=h;obtain⟨t,rfl⟩:=rx;obtain⟨t',rfl⟩:=ry;exact rule i j t t' s _ _ ⟨.int (g i j),H,I.tok _,⟨_,rfl⟩,q⟩
theorem vU{f:Value->Value->Sem Value}{g:Int->Int->Bool}(rule:∀(i j:Int) (t u:Tok) (s:Shared) (Q:Value->Shared->Prop) (E:Value->Shared->Prop),Q (.bool (g i j)) s->wpAny (model X.prog X.w) X.A (f (.int i t) (.int j u)) Q E s) :
  OpR X f (rI0 fun i j=>.bl (g i j)):=by
 intro pins s σ H x y v u Q I rx ry h;obtain⟨i,j,rfl,rfl,q⟩:=h;obtain⟨t,rfl⟩:=rx;obtain⟨t',rfl⟩:=ry;exact rule i j t t' s _ _ ⟨.bl (g i j),H,I,rfl,q⟩
def CQ(i j:Int):Prop:=0<j/\j<1073741824
def CMul(i j:Int):Prop:=(-(2^64)<i/\i<2^64)\/(-(2^64)<j/\j<2^64)
theorem CMul.ok{i j:Int}(h:CMul i j):IntMulOk i j:=by
 rcases h with⟨h1,h2⟩|⟨h1,h2⟩
 ·exact .of_left (intBits_le_64 h1 h2)
 ·exact .of_right (intBits_le_64 h1 h2)
theorem DB:OpR X (binaryOp .Add) (rI0 fun i j=>.int (i+j)):=DA fun _ _ _ _ _ _ _ q=>add_int q
theorem DH:OpR X (binaryOp .Sub) (rI0 fun i j=>.int (i-j)):=DA fun _ _ _ _ _ _ _ q=>sub_int q
theorem DG:OpR X (binaryOp .Mult) (rI CMul fun i j=>.int (i*j)):=opI fun _ _ _ _ _ _ _ hc q=>mul_int q hc.ok
theorem B1:OpR X (binaryOp .FloorDiv) (rI CQ fun i j=>.int (i / j)):=opI fun i j _ _ _ _ _ hc q=>by have h1:(0:Int)<j:=hc.1;have h2:j<1073741824:=hc.2;exact floordiv_int (by omega) (by rw[Int.fdiv_eq_ediv_of_nonneg i (by omega)];exact q) (.inl (PyProof.noPylong_small (by omega)))
theorem DF:OpR X (binaryOp .Mod) (rI (fun _ j=>0<j) fun i j=>.int (i%j)):=opI fun i j _ _ _ _ _ hc q=>by have h1:(0:Int)<j:=hc;exact mod_int' (by omega) (by rw[Int.fmod_eq_emod_of_nonneg i (by omega)];exact q)
end
def Ez:V->V->Bool
 |.non,.non=>true|.non,.int _=>true|.int _,.non=>true|.non,.bl _=>true|.bl _,.non=>true|.non,.str _=>true|.str _,.non=>true
 |.int _,.int _=>true|.bl _,.bl _=>true|.str _,.str _=>true|.byt _,.byt _=>true
 |.int _,.str _=>true|.str _,.int _=>true|.bl _,.str _=>true|.str _,.bl _=>true
 |_,_=>false
def rEq:R2:=fun x y H Q=>Ez x y=true/\Q (.bl (decide (x=y))) H
def rNe:R2:=fun x y H Q=>Ez x y=true/\Q (.bl (!decide (x=y))) H
theorem tI{i j:Int}:decide (V.int i=V.int j)=(i==j):=by rw[YJ];simp
theorem xn{i j:Bool}:decide (V.bl i=V.bl j)=(i==j):=by rw[YJ];simp
theorem tJ{i j:Str}:decide (V.str i=V.str j)=(i==j):=by rw[YJ];simp
theorem tH{i j:Array UInt8}:decide (V.byt i=V.byt j)=(i.toList==j.toList):=by rw[YJ];cases i;cases j;simp
section
variable{X:Cx}{a b c:Expr}{ta tb tc:TE}{pos:Pos}
theorem aM{pins:List (Addr×Obj)}{σ:St}{H:Hp}{s:Shared}{Q:VK}{k k':Bool}(I:Inv X pins σ H s)(q:Q (.bl k) H)(e:k=k'):EP X pins σ Q (.bool k') s:=by subst e;exact⟨.bl k,H,I,rfl,q⟩
theorem Fh:OpR X (compareOp .Eq) rEq:=by
 intro pins s σ H x y v u Q I rx ry h;obtain⟨hs,q⟩:=h;cases x with
 |non =>
  cases rx;cases y with
  |non=>cases ry;exact PySem.EqNone.eq_none_none (aM I q (by simp))
  |bl j=>cases ry;exact PySem.EqNone.eq_none_bool (aM I q (by simp))
  |int j=>obtain⟨t',rfl⟩:=ry;exact PySem.EqNone.eq_none_int (aM I q (by simp))
  |str j=>obtain⟨t',rfl⟩:=ry;exact PySem.EqNone.eq_none_str (aM I q (by simp))
  |_=>exact absurd (show false=true from hs) Zo
 |bl i =>
  cases rx;cases y with
  |non=>cases ry;exact PySem.EqNone.eq_bool_none (aM I q (by simp))
  |bl j=>cases ry;exact eq_bool (aM I q xn)
  |str j=>obtain⟨t',rfl⟩:=ry;exact PySem.EqMixed.eq_bool_str (aM I q (by simp))
  |_=>exact absurd (show false=true from hs) Zo
 |int i =>
  obtain⟨t,rfl⟩:=rx;cases y with
  |non=>cases ry;exact PySem.EqNone.eq_int_none (aM I q (by simp))
  |int j=>obtain⟨t',rfl⟩:=ry;exact eq_int (aM I q tI)
  |str j=>obtain⟨t',rfl⟩:=ry;exact PySem.EqMixed.eq_int_str (aM I q (by simp))
  |_=>exact absurd (show false=true from hs) Zo
 |str i =>
  obtain⟨t,rfl⟩:=rx;cases y with
  |non=>cases ry;exact PySem.EqNone.eq_str_none (aM I q (by simp))
  |bl j=>cases ry;exact PySem.EqMixed.eq_str_bool (aM I q (by simp))
  |int j=>obtain⟨t',rfl⟩:=ry;exact PySem.EqMixed.eq_str_int (aM I q (by simp))
  |str j=>obtain⟨t',rfl⟩:=ry;exact eq_str (aM I q tJ)
  |_=>exact absurd (show false=true from hs) Zo
 |byt i =>
  obtain⟨t,rfl⟩:=rx;cases y with
  |byt j=>obtain⟨t',rfl⟩:=ry;exact PySem.W.eq_bytes (aM I q tH)
  |_=>exact absurd (show false=true from hs) Zo
 |_=>cases y<;>exact absurd (show false=true from hs) Zo
theorem Fo:OpR X (compareOp .NotEq) rNe:=by
 intro pins s σ H x y v u Q I rx ry h;obtain⟨hs,q⟩:=h;cases x with
 |non =>
  cases rx;cases y with
  |non=>cases ry;exact PySem.EqNone.ne_none_none (aM I q (by simp))
  |bl j=>cases ry;exact PySem.EqNone.ne_none_bool (aM I q (by simp))
  |int j=>obtain⟨t',rfl⟩:=ry;exact PySem.EqNone.ne_none_int (aM I q (by simp))
  |str j=>obtain⟨t',rfl⟩:=ry;exact PySem.EqNone.ne_none_str (aM I q (by simp))
  |_=>exact absurd (show false=true from hs) Zo
 |bl i =>
  cases rx;cases y with
  |non=>cases ry;exact PySem.EqNone.ne_bool_none (aM I q (by simp))
  |bl j=>cases ry;exact ne_bool (aM I q (congrArg not xn))
  |str j=>obtain⟨t',rfl⟩:=ry;exact PySem.EqMixed.ne_bool_str (aM I q (by simp))
  |_=>exact absurd (show false=true from hs) Zo
 |int i =>
  obtain⟨t,rfl⟩:=rx;cases y with
  |non=>cases ry;exact PySem.EqNone.ne_int_none (aM I q (by simp))
  |int j=>obtain⟨t',rfl⟩:=ry;exact ne_int (aM I q (congrArg not tI))
  |str j=>obtain⟨t',rfl⟩:=ry;exact PySem.EqMixed.ne_int_str (aM I q (by simp))
  |_=>exact absurd (show false=true from hs) Zo
 |str i =>
  obtain⟨t,rfl⟩:=rx;cases y with
  |non=>cases ry;exact PySem.EqNone.ne_str_none (aM I q (by simp))
  |bl j=>cases ry;exact PySem.EqMixed.ne_str_bool (aM I q (by simp))
  |int j=>obtain⟨t',rfl⟩:=ry;exact PySem.EqMixed.ne_str_int (aM I q (by simp))
  |str j=>obtain⟨t',rfl⟩:=ry;exact ne_str (aM I q (congrArg not tJ))
  |_=>exact absurd (show false=true from hs) Zo
 |byt i =>
  obtain⟨t,rfl⟩:=rx;cases y with
  |byt j=>obtain⟨t',rfl⟩:=ry;exact PySem.W.ne_bytes (aM I q (congrArg not tH))
  |_=>exact absurd (show false=true from hs) Zo
 |_=>cases y<;>exact absurd (show false=true from hs) Zo
theorem Fm:OpR X (compareOp .Lt) (rI0 fun i j=>.bl (decide (i<j))):=vU fun _ _ _ _ _ _ _ q=>lt_int q
theorem Fk:OpR X (compareOp .LtE) (rI0 fun i j=>.bl (decide (i<=j))):=vU fun _ _ _ _ _ _ _ q=>le_int q
theorem Fj:OpR X (compareOp .Gt) (rI0 fun i j=>.bl (decide (j<i))):=vU fun _ _ _ _ _ _ _ q=>gt_int q
theorem Fi:OpR X (compareOp .GtE) (rI0 fun i j=>.bl (decide (j<=i))):=vU fun _ _ _ _ _ _ _ q=>ge_int q
theorem DE:OpR X (compareOp .Is) (fun x y H Q=>y=.non/\Q (.bl (decide (x=.non))) H):=by
 intro pins s σ H x y v u Q I rx ry h;obtain⟨rfl,q⟩:=h;cases ry;refine is_none_gen (aM I q ?_);cases x<;>first
  |(cases rx;rfl)
  |(obtain⟨t,rfl⟩:=rx;rfl)
theorem xT(b:Expr){op:CmpOp}(h:op≠.In:=by decide)(h2:op≠.NotIn:=by decide):behindInMarks op b=false:=by
 have e1:(op==CmpOp.In)=false:=by cases op<;>first|rfl|exact absurd rfl h
 have e2:(op==CmpOp.NotIn)=false:=by cases op<;>first|rfl|exact absurd rfl h2
 cases b<;>simp[behindInMarks,e1,e2]
theorem B8{op:CmpOp}{r:R2}(ho:OpR X (compareOp op) r)(ha:PE X a ta)(hb:PE X b tb)(hm:behindInMarks op b=false):PE X (.Compare a [op] [b] pos) (tOp r ta tb):=by intro pins s σ H Q I h;exact wpAny_Compare1 (zt ha hb I h fun v u s2 x y H2 I2 rx ry q=>ho pins s2 σ H2 x y v u Q I2 rx ry q) hm
def mO(t:TE):TT:=fun σ H Q=>t σ H fun x H'=>∃k,x=.bl k/\Q k H'
theorem Cp{op:CmpOp}{r:R2}(ho:OpR X (compareOp op) r)(ha:PE X a ta)(hb:PE X b tb)(hm:behindInMarks op b=false):PT X (.Compare a [op] [b] pos) (mO (tOp r ta tb)):=by
 intro pins s σ H Q I h;refine wpAny_isTrue_Compare1 (thn (ha pins s σ H _ I h) fun v s1 ⟨x,H1,I1,r1,q1⟩=>thn (hb pins s1 σ H1 _ I1 q1) fun u s2 ⟨y,H2,I2,r2,q2⟩ =>
  thn (ho pins s2 σ H2 x y v u _ I2 r1 r2 q2) fun c s3 ⟨z,H3,I3,r3,k,e,q3⟩=>?_) hm
 subst e;cases r3;exact Ya ⟨H3,I3,q3⟩
def mM(r r':R2)(ta tb tc:TE):TE:=fun σ H Q=>ta σ H fun x H1=>tb σ H1 fun y H2=>r x y H2 fun z H3=>∃k,z=.bl k /\
 (if k=true then tc σ H3 fun w' H4=>r' y w' H4 Q else Q (.bl false) H3)
theorem Ao{op op':CmpOp}{r r':R2}(ho:OpR X (compareOp op) r)(ho':OpR X (compareOp op') r')(ha:PE X a ta)(hb:PE X b tb)(hc:PE X c tc)(hm:lastMarks [op,op'] [b,c]=false:=by with_unfolding_all rfl):PE X (.Compare a [op,op'] [b,c] pos) (mM r r' ta tb tc):=by
 intro pins s σ H Q I h;refine Compare_chain (thn (ha pins s σ H _ I h) fun v s1 ⟨x,H1,I1,r1,q1⟩=>chain_link (thn (hb pins s1 σ H1 _ I1 q1) fun u s2 ⟨y,H2,I2,r2,q2⟩ =>
  thn (ho pins s2 σ H2 x y v u _ I2 r1 r2 q2) fun d s3 ⟨z,H3,I3,r3,k,e,q3⟩=>?_)) hm
 subst e;cases r3;refine Ya ?_;cases k with
 |false=>exact ite_ff ⟨.bl false,H3,I3,rfl,q3⟩
 |true=>exact ite_tt (chain_last (thn (hc pins s3 σ H3 _ I3 q3) fun w' s4 ⟨z',H4,I4,r4,q4⟩=>ho' pins s4 σ H4 y z' u w' Q I4 r2 r4 q4))
theorem AA{op op':CmpOp}{r r':R2}(ho:OpR X (compareOp op) r)(ho':OpR X (compareOp op') r')(ha:PE X a ta)(hb:PE X b tb)(hc:PE X c tc)(hm:lastMarks [op,op'] [b,c]=false:=by with_unfolding_all rfl):PT X (.Compare a [op,op'] [b,c] pos) (mO (mM r r' ta tb tc)):=by
 intro pins s σ H Q I h;refine isTrue_chain (thn (ha pins s σ H _ I h) fun v s1 ⟨x,H1,I1,r1,q1⟩=>test_link (thn (hb pins s1 σ H1 _ I1 q1) fun u s2 ⟨y,H2,I2,r2,q2⟩ =>
  thn (ho pins s2 σ H2 x y v u _ I2 r1 r2 q2) fun d s3 ⟨z,H3,I3,r3,k,e,q3⟩=>?_)) hm
 subst e;cases r3;refine Ya ?_;cases k with
 |false =>obtain⟨k',e',q'⟩:=q3;cases e';exact ite_ff ⟨H3,I3,q'⟩
 |true =>refine ite_tt (test_last (thn (hc pins s3 σ H3 _ I3 q3) fun w' s4 ⟨z',H4,I4,r4,q4⟩=>thn (ho' pins s4 σ H4 y z' u w' _ I4 r2 r4 q4) fun d' s5 hz9=>?_));obtain⟨z2,H5,I5,r5,k2,e2,q5⟩:=hz9;subst e2;cases r5;exact Ya ⟨H5,I5,q5⟩
theorem me:(sizeLine:Nat)<2^63:=by rw[sizeLine_eq];decide
theorem df{x:V}{us:List Value}(r:Vals [x] us):∃u,us=[u]/\RelV x u:=by
 cases r with
 |cons r1 r2=>cases r2;exact⟨_,rfl,r1⟩
theorem mS{x y:V}{us:List Value}(r:Vals [x,y] us):∃u w',us=[u,w']/\RelV x u/\RelV y w':=by
 cases r with
 |cons r1 r2 =>
  cases r2 with
  |cons r3 r4=>cases r4;exact⟨_,_,rfl,r1,r3⟩
theorem xb(hc:X.calm=true):cY X (.builtin "max") (fun xs H Q=>∃i j,xs=[.int i,.int j]/\Q (.int (if j>i then j else i)) H):=by
 intro pins s σ H xs us Q I r h;obtain⟨i,j,rfl,q⟩:=h;obtain⟨u,w',rfl,⟨t,rfl⟩,⟨t',rfl⟩⟩:=mS r;refine max_two_ints (I.ok.hd hc) fun h' tk k=>⟨_,H,I.kept k,?_,q⟩
 by_cases hj:j>i
 ·rw[HK hj,HK hj];exact⟨_,rfl⟩
 ·rw[HH hj,HH hj];exact⟨_,rfl⟩
end
open PySem PySem.Spec PyProof.Rows
structure ObjM(h:Heap)(x dx C:Addr)(mA:Str->Option Value):Prop where
 obj:h.get? x=some (PySem.W.instObj C dx)
 ns:h.Ns1 dx mA
 ne:dx≠x
theorem pe{h:Heap}{dx:Addr}{mA:Str->Option Value}(n:h.Ns1 dx mA):∃od,h.get? dx=some od/\∀name,PySem.W.lookIn name od=some (mA name):=by
 obtain⟨o,es,ep,ho,hd,hk,_,hm⟩:=n;refine⟨o,ho,fun name=>?_⟩;have e:=hm name;unfold nsFind findBy at e;rw[<-Array.find?_toList]at e;unfold PySem.W.lookIn;rw[hd];dsimp only;split
 ·rename_i y q;rw[q]at e;exact congrArg some e
 ·rename_i q;rw[q]at e;have a:es.toList.any (·.refKey)=false:=by rw[List.any_eq_false];intro y hy;obtain⟨z,t,hkey⟩:=hk y (Array.mem_toList_iff.mp hy);simp[DictEntry.refKey,hkey]
  have a':¬es.toList.any (·.refKey)=true:=by rw[a];exact Zo
  rw[HH a'];exact congrArg some e
theorem ObjM.look{h:Heap}{x dx C:Addr}{mA:Str->Option Value}(I:ObjM h x dx C mA):∃od,PySem.W.InstAt h x (PySem.W.instObj C dx) C (some od)/\∀name,PySem.W.lookIn name od=some (mA name) :=
 let⟨od,ho,hl⟩:=pe I.ns
 ⟨od,⟨I.obj,rfl,rfl,ho⟩,hl⟩
section
variable{prog:Program}{w:World}{A:Around}{E:Value->Shared->Prop}{s:Shared}{K:PySem.W.Frag}{x dx C f:Addr}{mA:Str->Option Value}{name:Str}{v:Value}
theorem BJ{expr:Bool}{Q:Value->Shared->Prop}(X:K.In s.heap)(I:ObjM s.heap x dx C mA)(hg:PySem.W.plainGet K C name=true)(hh:PySem.W.hasDictIn K C=true)(ha:PySem.W.findIn K (.ref C) name=some none)(hv:mA name=some v)(hv':PySem.W.handedIn v=true)(h:Q v { s with toks:=s.toks+1 }) :
  wpAny (model prog w) A (getAttr (.ref x) name expr) Q E s:=by
 obtain⟨od,J,hl⟩:=I.look;exact PySem.W.get_value X J (PySem.W.plainGet_of hg).1 (PySem.W.findObj_own hh ha rfl (by rw[hl,hv])) hv' h
theorem zT{pl:Sem Bool}{Q:Value×List Value->Shared->Prop}(X:K.In s.heap)(I:ObjM s.heap x dx C mA)(hg:PySem.W.plainGet K C name=true)(hf:PySem.W.findIn K (.ref C) name=some (some (.ref f)))(ht:PySem.W.isFn K (.ref f)=true)(hv:mA name=none)(h:Q (.ref f,[.ref x]) s) :
  wpAny (model prog w) A (getMethod (.ref x) name pl) Q E s:=by
 obtain⟨od,J,hl⟩:=I.look;exact PySem.W.method_fn X J (PySem.W.plainGet_of hg).1 (PySem.W.plainGet_of hg).2 hf (Z2.mp ht) (by show(PySem.W.lookIn name od).map (·.isSome)=some false;rw[hl,hv];rfl) h
theorem Cy{ns:List Str}{Q:Unit->Shared->Prop}(X:K.In s.heap)(I:ObjM s.heap x dx C mA)(hs:PySem.W.findIn K (.ref C) "__setattr__" = some (some (.builtin "object.__setattr__")))(hp:PySem.W.plainOver K C=true)(ht:PySem.W.takerIn K C name=some none)(hh:PySem.W.hasDictIn K C=true)(hw:PySem.Within mA ns)(hsz:ns.length<=sizeLine)(h:∀h',ObjM h' x dx C (fun y=>if y=name then some v else mA y)->Heap.SameBut dx s.heap h'->Q () { s with heap:=h',toks:=s.toks+2 }) :
  wpAny (model prog w) A (setAttr (.ref x) name v) Q E s:=by
 obtain⟨od,J,hl⟩:=I.look;refine PySem.W.set_plain X J hs (PySem.W.osa_open (s:={ s with toks:=s.toks+1 }) (r:=none) X J hp ht fun b=>?_);obtain⟨cd,hc,hd'⟩:=PySem.W.any_some hh;have hx:s.heap.get? x=some ⟨.ref C,some dx,.plain,#[]⟩:=I.obj;refine z6 (Za (z6 (z6 (wpAny_loadPart hx (z6 (PySem.W.Looks.here (s:={ s with toks:=s.toks+1 }) (PySem.W.looks_clsIn X hc) ?_))))));rw[hd'];refine Za (a:=some dx) (z6 (Za (z6 ?_)));refine wpAny_nsSet1 (s:={ s with toks:=s.toks+1 }) I.ns fun h' hn2 hs2=>?_;obtain⟨oD,esD,epD,hoD,hdD,hcD⟩:=hn2.count (PySem.Within.cons name v hw);refine z6 (wpAny_lookBehind hoD (by rw[hdD];exact pastItsLine_dict (ZQ hcD (by rw[Zq];omega))) ?_);exact Za (h _ ⟨(hs2.2 _ (Yk I.ne)).trans I.obj,hn2,I.ne⟩ hs2)
theorem Ad{R:Result->Shared->Prop}{vs:List Value}{kw:List (Str×Value)}(X:K.In s.heap)(hm:PySem.W.makesIn K C=true)(hi:PySem.W.findIn K (.ref C) "__init__" = some (some (.ref f)))(hf:PySem.W.typeIn K (.ref f)=some (.type "function"))(h:codeAny (model prog w) (A.under (.builtin "type.__call__" ⟨.ref C::vs,kw⟩)) (.call (.ref f) ⟨.ref (s.heap.objs.size+1)::vs,kw⟩) (PySem.W.InitBack (s.heap.objs.size+1) R)
   { s with heap:=(s.heap.push PySem.W.emptyDict).push (PySem.W.instObj C s.heap.objs.size) }) :
  codeAny (model prog w) A (.call (.ref C) ⟨vs,kw⟩) R s:=by
 obtain⟨hh,g,d,t,os⟩:=s;exact PySem.W.make_core (PySem.W.makes_of X hm) (PySem.W.looks_findIn X hi) (fun self=>PySem.W.bind_fn X self hf) (.inl rfl) h
end
def cE(f:Str)(v:V):List (Str×V)->List (Str×V)
 | []=>[(f,v)]
 |(g,x)::r=>if g=f then(g,v)::r else(g,x)::cE f v r
theorem bW(f g:Str)(v:V):∀fs:List (Str×V),(cE f v fs).lookup g=if g=f then some v else fs.lookup g
 | []=>by
  show List.lookup g [(f,v)]=_;by_cases h:g=f
  ·have hb:(g==f)=true:=Z2.mpr h;simp only[List.lookup,hb,HK h]
  ·have hb:(g==f)=false:=beq_eq_false_iff_ne.mpr h;simp only[List.lookup,hb,HH h]
 |(k,x)::r=>by
  have ih:=bW f g v r;rw[show cE f v ((k,x)::r)=(if k=f then(k,v)::r else(k,x)::cE f v r)from rfl];by_cases hk:k=f
  ·rw[HK hk];by_cases h:g=k
   ·have hb:(g==k)=true:=Z2.mpr h;simp only[List.lookup,hb,HK (h.trans hk)]
   ·have hb:(g==k)=false:=beq_eq_false_iff_ne.mpr h;simp only[List.lookup,hb,HH (fun e:g=f=>h (e.trans hk.symm))]
  ·rw[HH hk];by_cases h:g=k
   ·have hb:(g==k)=true:=Z2.mpr h;simp only[List.lookup,hb,HH (fun e:g=f=>hk (h.symm.trans e))]
   ·have hb:(g==k)=false:=beq_eq_false_iff_ne.mpr h;simp only[List.lookup,hb];exact ih
theorem jh(f:Str)(v:V):∀fs:List (Str×V),f∈(cE f v fs).map (·.1)/\∀g,g∈fs.map (·.1)->g∈(cE f v fs).map (·.1)
 | []=>⟨by simp[cE],fun g h=>by simp at h⟩
 |(k,x)::r=>by
  obtain⟨i1,i2⟩:=jh f v r;rw[show cE f v ((k,x)::r)=(if k=f then(k,v)::r else(k,x)::cE f v r)from rfl];by_cases hk:k=f
  ·rw[HK hk];subst hk;exact⟨by simp,fun g h=>by simpa using h⟩
  ·rw[HH hk];refine⟨?_,fun g h=>?_⟩
   ·rw[ZX];exact ZA _ i1
   ·rw[ZX]at h ⊢;rcases Zs.mp h with e|e
    ·exact Zs.mpr (.inl e)
    ·exact ZA _ (i2 g e)
theorem kn(f:Str)(v:V):∀fs:List (Str×V),(cE f v fs).length<=fs.length+1
 | []=>by simp[cE]
 |(k,x)::r=>by
  have ih:=kn f v r;rw[show cE f v ((k,x)::r)=(if k=f then(k,v)::r else(k,x)::cE f v r)from rfl];by_cases hk:k=f
  ·rw[HK hk,Zq,Zq];omega
  ·rw[HH hk,Zq,Zq];omega
theorem RelO.some_of{v:V}{o:Option Value}(r:RelO (some v) o):∃u,o=some u/\RelV v u:=by
 cases o with
 |none=>exact(show False from r).elim
 |some u=>exact⟨u,rfl,r⟩
theorem RelO.none_of{o:Option Value}(r:RelO none o):o=none:=by
 cases o with
 |none=>rfl
 |some u=>exact(show False from r).elim
theorem oW{v:V}{u:Value}(r:RelV v u):PySem.W.handedIn u=true:=by
 cases v with
 |non=>cases(show u=Value.none from r);rfl
 |bl b=>cases(show u=Value.bool b from r);rfl
 |int i=>obtain⟨t,e⟩:=(show∃t,u=Value.int i t from r);cases e;rfl
 |str x=>obtain⟨t,e⟩:=(show∃t,u=Value.str x t from r);cases e;rfl
 |byt b=>obtain⟨t,e⟩:=(show∃t,u=Value.bytes b t from r);cases e;rfl
 |flt b=>obtain⟨t,e⟩:=(show∃t,u=Value.float b t from r);cases e;rfl
 |ref a=>cases(show u=Value.ref a from r);rfl
 |ty n=>cases(show u=Value.type n from r);rfl
section
variable{P:Program}{w:World}{H H':Hp}{h h':Heap}{a C dx:Addr}{fs fs':List (Str×V)}
theorem jO(hok:HOk P w H h)(e:H a=some (.ins C dx fs)):∃mA,ObjM h a dx C mA/\(∀f,RelO (fs.lookup f) (mA f))/\PySem.Within mA (fs.map (·.1))/\fs.length<=1000/\H dx=some (.own a):=by
 obtain⟨d,z,ne,ob,mA,n,r,q⟩:=(show ObjOk P w H h a (.ins C dx fs)from hok a _ e)
 exact⟨mA,⟨ob,n,ne⟩,r,q,z,d⟩
end
structure Cls(K:PySem.W.Frag)(C:Addr):Prop where
 pg:PySem.W.plainGet K C Str.empty=true
 hd:PySem.W.hasDictIn K C=true
 po:PySem.W.plainOver K C=true
 sa:PySem.W.findIn K (.ref C) "__setattr__" = some (some (.builtin "object.__setattr__"))
theorem Cls.get{K:PySem.W.Frag}{C:Addr}(c:Cls K C)(f:Str):PySem.W.plainGet K C f=true:=c.pg
def NoAttr(K:PySem.W.Frag)(C:Addr)(f:Str):Prop:=PySem.W.findIn K (.ref C) f=some none
theorem NoAttr.taker{K:PySem.W.Frag}{C:Addr}{f:Str}(n:NoAttr K C f):PySem.W.takerIn K C f=some none:=by unfold PySem.W.takerIn;rw[show PySem.W.findIn K (.ref C) f=some none from n];rfl
structure Con(K:PySem.W.Frag)(C:Addr)(f:Str)(v:V)(u:Value):Prop where
 at_:PySem.W.findIn K (.ref C) f=some (some u)
 rel:RelV v u
 get:PySem.W.specialIn K u "__get__" = some none
 cp:PySem.W.copiedNames.contains f=false
structure Meth(K:PySem.W.Frag)(C:Addr)(m:Str)(f:Addr):Prop where
 at_:PySem.W.findIn K (.ref C) m=some (some (.ref f))
 fn:PySem.W.isFn K (.ref f)=true
 kp:PySem.W.keepIn K (.ref f)=true
section
variable{X:Cx}{pins:List (Addr×Obj)}{σ:St}{H:Hp}{s:Shared}{a C dx:Addr}{fs:List (Str×V)}{f:Str}{v:V}{A:Around}{E:Value->Shared->Prop}
theorem uZ{b:Bool}{Q:Value->Shared->Prop}(I:Inv X pins σ H s)(e:H a=some (.ins C dx fs))(c:Cls X.K C)(n:NoAttr X.K C f)(l:fs.lookup f=some v)(h:∀u s',Inv X pins σ H s'->RelV v u->Q u s'):wpAny (model X.prog X.w) A (getAttr (.ref a) f b) Q E s:=by obtain⟨mA,O,r,_,_,_⟩:=jO I.hok e;obtain⟨u,hu,ru⟩:=RelO.some_of (v:=v) (o:=mA f) (by rw[<-l];exact r f);exact BJ I.kIn O (c.get f) c.hd n hu (oW ru) (h u _ (I.tok _) ru)
theorem lU{m:Str}{g:Addr}{pl:Sem Bool}{Q:Value×List Value->Shared->Prop}(I:Inv X pins σ H s)(e:H a=some (.ins C dx fs))(c:Cls X.K C)(k:Meth X.K C m g)(l:fs.lookup m=none)(h:Q (.ref g,[.ref a]) s):wpAny (model X.prog X.w) A (getMethod (.ref a) m pl) Q E s:=by obtain⟨mA,O,r,_,_,_⟩:=jO I.hok e;have hn:mA m=none:=RelO.none_of (by rw[<-l];exact r m);exact zT I.kIn O (c.get m) k.at_ k.fn hn h
theorem wE{y:V}{u:Value}{Q:Unit->Shared->Prop}(I:Inv X pins σ H s)(e:H a=some (.ins C dx fs))(c:Cls X.K C)(n:NoAttr X.K C f)(hl:fs.length<1000)(ry:RelV y u)(h:∀s',Inv X pins σ (upd H a (.ins C dx (cE f y fs))) s'->Q () s'):wpAny (model X.prog X.w) A (setAttr (.ref a) f u) Q E s:=by
 obtain⟨mA,O,r,wi,_,ho⟩:=jO I.hok e;have hz:(fs.map (·.1)).length<=sizeLine:=by rw[Zd,sizeLine_eq];omega
 refine Cy I.kIn O c.sa c.po n.taker c.hd wi hz fun h' O' sb=>h _ ?_;have hd:∃o,h'.get? dx=some o:=let⟨o,_,_,e',_⟩:=O'.ns;⟨o,e'⟩
 refine I.write (x:=a) (e:=dx) (by rw[e];exact True.intro) (.inr ho) (fun b q hb z=>(sb.2 b hb).trans z) hd ?_;refine⟨by rw[af O.ne];exact ho,?_,O.ne,O'.obj,_,O'.ns,fun g=>?_,fun g hg=>?_⟩
 ·have:=kn f y fs;omega
 ·show RelO ((cE f y fs).lookup g) (if g=f then some u else mA g);rw[bW];by_cases q:g=f
  ·rw[HK q,HK q];exact ry
  ·rw[HH q,HH q];exact r g
 ·by_cases q:g=f
  ·rw[q];exact(jh f y fs).1
  ·refine(jh f y fs).2 g (wi g fun z=>hg ?_);show(if g=f then some u else mA g)=none;rw[HH q];exact z
theorem Inv.made(I:Inv X pins σ H s):Inv X pins σ (upd (upd H s.heap.objs.size (.own (s.heap.objs.size+1))) (s.heap.objs.size+1) (.ins C s.heap.objs.size []))
  { s with heap:=(s.heap.push PySem.W.emptyDict).push (PySem.W.instObj C s.heap.objs.size) }:=by
 have e1:(s.heap.push PySem.W.emptyDict).get? s.heap.objs.size=some PySem.W.emptyDict:=Zh s.heap rfl;have e2:((s.heap.push PySem.W.emptyDict).push (PySem.W.instObj C s.heap.objs.size)).get? (s.heap.objs.size+1)=some (PySem.W.instObj C s.heap.objs.size):=by
  have:=Zh (s.heap.push PySem.W.emptyDict) (o:=PySem.W.instObj C s.heap.objs.size) rfl
  rwa [YA]at this
 have e3:(s.heap.push PySem.W.emptyDict).Ns s.heap.objs.size (fun _=>none):=⟨PySem.W.emptyDict,#[],_,e1,rfl,(fun e he=>absurd he (by simp)),fun _=>rfl⟩
 have I1:=I.laid (a:=s.heap.objs.size) (o:=.own (s.heap.objs.size+1)) (h':=s.heap.push PySem.W.emptyDict) (t':=s.toks) (fun b u q=>z9 _ q) (Zb _) ⟨_,e1⟩;refine I1.laid (a:=s.heap.objs.size+1) (o:=.ins C s.heap.objs.size []) (t':=s.toks) (fun b u q=>z9 _ q) (Nat.le_of_eq (YA _ _)) ?_;have ne:s.heap.objs.size≠s.heap.objs.size+1:=Zt (Nat.lt_succ_self _);refine⟨by rw[af ne,ad],ZV _,ne,e2,fun _=>none,(Heap.Ns1.of_empty e3).at fun o q=>z9 _ q,fun _=>True.intro,fun y hy=>absurd rfl hy⟩
theorem tm{prog:Program}{w:World}{env:Env}{e:Expr}{f:Str}{pos:Pos}{s:Shared}{Q:Value->Shared->Prop}(hb:attributeBase e f env (eval e env)=eval e env)(h:wpAny (model prog w) A (eval e env) (fun o s₁=>wpAny (model prog w) A (getAttr o f true) Q E s₁) E s):wpAny (model prog w) A (eval (.Attribute e f pos) env) Q E s :=
 Attribute_any_ h (by rw[arm_eval_Attribute,hb])
end
def EF(K:PySem.W.Frag)(ta:TE)(f:Str):TE:=fun σ H Q=>ta σ H fun x H1=>∃a C dx fs v,x=.ref a/\H1 a=some (.ins C dx fs)/\Cls K C/\NoAttr K C f/\fs.lookup f=some v/\Q v H1
def Ev(K:PySem.W.Frag)(ta tv:TE)(f:Str):TS:=fun D σ H=>tv σ H fun y H1=>ta σ H1 fun x H2=>∃a C dx fs,x=.ref a/\H2 a=some (.ins C dx fs)/\Cls K C/\NoAttr K C f/\fs.length<1000 /\
 D.nx σ (upd H2 a (.ins C dx (cE f y fs)))
section
variable{X:Cx}{o e value:Expr}{f:Str}{pos pos' tpos:Pos}{ta tv:TE}
theorem DJ(he:PE X e ta)(hb:attributeBase e f X.env (eval e X.env)=eval e X.env):PE X (.Attribute e f pos) (EF X.K ta f):=by intro pins s σ H Q I h;refine tm hb (thn (he pins s σ H _ I h) fun u s1 hz9=>?_);obtain⟨x,H1,I1,rx,a,C,dx,fs,v,ex,ea,c,n,l,q⟩:=hz9;subst ex;obtain rfl:u=Value.ref a:=rx;exact uZ I1 ea c n l fun u' s2 I2 ru=>⟨v,H1,I2,ru,q⟩
theorem Eb(ha:PE X o ta)(hv:PE X value tv)(hs:swapsWith value (some (.Attribute o f pos')) pos.line X.env=pure false):PS X (.Assign [.Attribute o f pos'] value pos) (Ev X.K ta tv f):=by intro pins s σ H D I h;refine plainObj_wpAny_Assign_Attribute (thn (hv pins s σ H _ I h) fun u s1 ⟨y,H1,I1,ry,q⟩=>thn (ha pins s1 σ H1 _ I1 q) fun ov s2 hz9=>?_) hs;obtain⟨x,H2,I2,rx,a,C,dx,fs,ex,ea,c,n,l,q2⟩:=hz9;subst ex;obtain rfl:ov=Value.ref a:=rx;exact wE I2 ea c n l ry fun s3 I3=>⟨σ,_,I3,q2⟩
end
section
variable{X:Cx}{pins:List (Addr×Obj)}{σ:St}{H:Hp}{s:Shared}{A:Around}{E:Value->Shared->Prop}{Q:Value->Shared->Prop}{c:Value}{b:Bool}
inductive TyOf(K:PySem.W.Frag)(H:Hp):V->Value->Prop where
 |non:TyOf K H .non (.type "NoneType")
 |bl (x:Bool):TyOf K H (.bl x) (.type "bool")
 |int (i:Int):TyOf K H (.int i) (.type "int")
 |str (x:Str):TyOf K H (.str x) (.type "str")
 |flt (x:UInt64):TyOf K H (.flt x) (.type "float")
 |lst {a:Addr} {xs:List V} (e:H a=some (.lst xs)):TyOf K H (.ref a) (.type "list")
 |frz {a:Addr} {o:Obj} {xs:List V} (e:H a=some (.frz o (.lst xs))):TyOf K H (.ref a) (.type "list")
 |tup {a:Addr} {xs:List V} (e:H a=some (.tup xs)):TyOf K H (.ref a) (.type "tuple")
 |dK {a:Addr} {kvs:List (Key×V)} (e:H a=some (.dK kvs)):TyOf K H (.ref a) (.type "dict")
 |dT {a:Addr} {kvs:List (List Key×V)} (e:H a=some (.dT kvs)):TyOf K H (.ref a) (.type "dict")
 |ins {a C dx:Addr} {fs:List (Str×V)} (e:H a=some (.ins C dx fs)) (cl:Cls K C) (ha:PySem.W.findIn K (.ref C) "__class__" = some (some (.builtin "object.__class__")))
   (hn:PySem.W.specialIn K (.builtin "object.__class__") "__get__" = some (some (.builtin "getset_descriptor.__get__"))) (htk:PySem.W.takesIn K (.builtin "object.__class__")=some true)
   (hm:PySem.W.mroIn K C (.type "object")=some true):TyOf K H (.ref a) (.ref C)
theorem oY{x:V}{u t:Value}(I:Inv X pins σ H s)(rx:RelV x u)(ty:TyOf X.K H x t)(e:PySem.W.kitOne X.K t c=some b)(h:∀tk,Q (.bool b) { s with toks:=tk }) :
  wpAny (model X.prog X.w) A (call (.builtin "isinstance") [u,c]) Q E s:=by
 cases ty with
 |non=>cases(show u=Value.none from rx);exact Ym PySem.W.kitx_none I.kIn True.intro e (fun z=>nomatch z) h
 |bl y=>cases(show u=Value.bool y from rx);exact Ym PySem.W.kitx_bool I.kIn True.intro e (fun z=>nomatch z) h
 |int i=>obtain⟨t,q⟩:=(show∃t,u=Value.int i t from rx);cases q;exact Ym PySem.W.kitx_int I.kIn True.intro e (fun z=>nomatch z) h
 |str y=>obtain⟨t,q⟩:=(show∃t,u=Value.str y t from rx);cases q;exact Ym PySem.W.kitx_str I.kIn True.intro e (fun z=>nomatch z) h
 |flt y=>obtain⟨t,q⟩:=(show∃t,u=Value.float y t from rx);cases q;exact Ym PySem.W.kitx_float I.kIn True.intro e (fun z=>nomatch z) h
 |@lst a xs ea =>
  cases(show u=Value.ref a from rx);obtain⟨_,_,n,_,h1⟩:=(show ObjOk X.prog X.w H s.heap a (.lst xs)from I.hok a _ ea)
  exact Ym PySem.W.kitx_list I.kIn ⟨_,h1,rfl⟩ e (fun z=>nomatch z) h
 |@frz a ob xs ea =>
  cases(show u=Value.ref a from rx);obtain⟨_,_,_,n,_,h1⟩:=(show ObjOk X.prog X.w H s.heap a (.frz ob (.lst xs))from I.hok a _ ea)
  exact Ym PySem.W.kitx_list I.kIn ⟨_,h1,rfl⟩ e (fun z=>nomatch z) h
 |@tup a xs ea =>
  cases(show u=Value.ref a from rx);obtain⟨_,_,_,p⟩:=(show ObjOk X.prog X.w H s.heap a (.tup xs)from I.hok a _ ea)
  obtain⟨o,h1,h2,_⟩:=p;exact Ym PySem.W.kitx_tuple I.kIn ⟨o,h1,h2⟩ e (fun z=>nomatch z) h
 |@dK a kvs ea =>
  cases(show u=Value.ref a from rx);obtain⟨_,_,vs,_,p⟩:=(show ObjOk X.prog X.w H s.heap a (.dK kvs)from I.hok a _ ea)
  obtain⟨o,es,ep,h1,h2,_⟩:=p;exact Ym PySem.W.kitx_dict I.kIn ⟨o,h1,h2.1⟩ e (fun z=>nomatch z) h
 |@dT a kvs ea =>
  cases(show u=Value.ref a from rx);obtain⟨_,_,xs,_,o,es,ep,h1,h2,_⟩:=(show ObjOk X.prog X.w H s.heap a (.dT kvs)from I.hok a _ ea)
  exact Ym PySem.W.kitx_dict I.kIn ⟨o,h1,h2.1⟩ e (fun z=>nomatch z) h
 |@ins a C dx fs ea cl ha hn htk hm =>cases(show u=Value.ref a from rx);obtain⟨mA,O,_⟩:=jO I.hok ea;obtain⟨od,J,_⟩:=O.look;exact Ym (PySem.W.kitx_own (cl.get _) cl.hd ha hn htk hm) I.kIn J e (fun z=>nomatch z) h
end
open PySem PySem.Spec PyProof.Rows
structure Room(k:Nat)(A:Around):Prop where
 hd:A.handled=none
 dp:A.depth+3*k+5<recursionLimit
 un:A.units+16*k+200<cLine
theorem Room.mono{j k:Nat}{A:Around}(r:Room k A)(h:j<=k):Room j A:=⟨r.hd,by have:=r.dp;omega,by have:=r.un;omega⟩
theorem Room.deeper{k:Nat}{A:Around}(r:Room (k+1) A)(env:Env):Room k (A.deeper env) :=
 ⟨r.hd,by have:=r.dp;show A.depth+1+3*k+5<_;omega,by have:=r.un;show A.units+3+16*k+200<_;omega⟩
theorem Room.in1{k:Nat}{A:Around}(r:Room (k+1) A):Room k A.in1 :=
 ⟨r.hd,by have:=r.dp;show A.depth+3*k+5<_;omega,by have:=r.un;show A.units+1+16*k+200<_;omega⟩
theorem vp{A:Around}{C:Addr}{us:List Value}{kw:List (Str×Value)}:(A.under (.builtin "type.__call__" ⟨.ref C::us,kw⟩)).depth=A.depth+1:=by
 first|rfl|simp[Around.under,Code.weight,Code.isCreation,Code.isGuard,Code.isCaller,Code.frames,Code.isFrame,guardIds]
theorem vq{A:Around}{C:Addr}{us:List Value}{kw:List (Str×Value)}:(A.under (.builtin "type.__call__" ⟨.ref C::us,kw⟩)).units=A.units+1:=by
 first|rfl|simp[Around.under,Code.cUnits,Code.frames,Code.isFrame]
theorem Room.make{k:Nat}{A:Around}(r:Room (k+1) A)(C:Addr)(us:List Value)(kw:List (Str×Value)):Room k (A.under (.builtin "type.__call__" ⟨.ref C::us,kw⟩)) :=
 ⟨r.hd,by have:=r.dp;rw[vp];omega,by have:=r.un;rw[vq];omega⟩
theorem Room.depth{k:Nat}{A:Around}(r:Room k A):A.depth<recursionLimit:=by have:=r.dp;omega
theorem Room.units{k:Nat}{A:Around}(r:Room k A):A.units+64<cLine:=by have:=r.un;omega
def fx:TA:=fun _ H Q=>Q [] H
def fK(ta:TE)(tr:TA):TA:=fun σ H Q=>ta σ H fun x H1=>tr σ H1 fun xs H2=>Q (x::xs) H2
section
variable{X:Cx}{e:Expr}{es:List Expr}{te:TE}{t:TA}{pos:Pos}
theorem ye:PA X [] fx:=fun _ _ _ _ H Q I h=>Calls.spliced_nil ⟨[],H,I,.nil,h⟩
theorem B5(ha:PE X e te)(hr:PA X es t)(hs:starEach (e::es) X.env=(false,eval e X.env)::starEach es X.env:=by rfl):PA X (e::es) (fK te t):=by intro pos pins s σ H Q I h;rw[hs];show wpAny _ _ (spliced ((false,eval e X.env)::backTo pos (starEach es X.env))) _ _ s;refine Calls.spliced_cons (thn (ha pins s σ H _ I h) fun u s1 hz9=>?_);obtain⟨x,H1,I1,r1,q1⟩:=hz9;exact thn (hr pos pins s1 σ H1 _ I1 q1) fun us s2 ⟨xs,H2,I2,r2,q2⟩=>⟨x::xs,H2,I2,.cons r1 r2,q2⟩
def AV(t:TA):TE:=fun σ H Q=>t σ H fun xs H1=>xs.length<=sizeLine/\∀p,H1 p=none->Q (.ref p) (upd H1 p (.tup xs))
def EH(t:TA):TE:=fun σ H Q=>t σ H fun xs H1=>xs.length<=sizeLine/\∀p,H1 p=none->Q (.ref p) (upd H1 p (.lst xs))
theorem DS{x1}(h:PA X es t):PE X (.Tuple es x1 pos) (AV t):=by intro pins s σ H Q I hq;refine wpAny_Tuple_spliced (thn (h pos pins s σ H _ I hq) fun us s1 ⟨xs,H1,I1,r,z,q⟩=>⟨by rw[<-r.length];exact z,?_⟩);have hf:H1 s1.heap.objs.size=none:=I1.hok.fresh (Zb _);refine⟨.ref s1.heap.objs.size,upd H1 s1.heap.objs.size (.tup xs),I1.laid (t':=s1.toks) (fun b u e=>z9 _ e) (Zb _) ?_,rfl,q _ hf⟩;exact⟨z,us,r,⟨_,Zh _ rfl,rfl,_,rfl⟩⟩
theorem DM(h:PA X es t):PE X (.List es pos) (EH t):=by intro pins s σ H Q I hq;refine wpAny_List_spliced (thn (h pos pins s σ H _ I hq) fun us s1 ⟨xs,H1,I1,r,z,q⟩=>⟨by rw[<-r.length];exact z,?_⟩);have hf:H1 s1.heap.objs.size=none:=I1.hok.fresh (Zb _);refine⟨.ref s1.heap.objs.size,upd H1 s1.heap.objs.size (.lst xs),I1.laid (t':=s1.toks) (fun b u e=>z9 _ e) (Zb _) ?_,rfl,q _ hf⟩;exact⟨z,us,0,r,Zh _ rfl⟩
end
abbrev Sp:=List V->Hp->VK->XK->Prop
abbrev CXT:=List Env->Hp->Shared->XK->Value->Shared->Prop
structure Env0(P:Program)(w:World)(K:PySem.W.Frag)(mg:Str->Option Value)(base:Heap)(A:Around)(outer:List Env)(s:Shared)(H:Hp):Prop where
 frames:A.frames=some outer
 mod:Mod K mg base
 bs:∀b o,base.get? b=some o->s.heap.get? b=some o/\H b=none
 bsz:base.objs.size<=s.heap.objs.size
 funs:s.heap.FunFrames base outer
 frf:∀b∈frs outer,H b=none
 hok:HOk P w H s.heap
 bare:AllBare s.gens
def CE(outer:List Env)(P:Program)(w:World)(H:Hp)(s:Shared)(Q:VK)(u:Value)(s':Shared):Prop :=
 ∃v H',s'.os=s.os/\AllBare s'.gens/\Un (frs outer) [] H H' s.heap s'.heap/\HOk P w H' s'.heap/\RelV v u/\Q v H'
def CR(CX:CXT)(outer:List Env)(P:Program)(w:World)(H:Hp)(s:Shared)(Q:VK)(E:XK)(r:Result)(s':Shared):Prop :=
 match r with
 |.ok (.ret u)=>CE outer P w H s Q u s'
 |.ok _=>False
 |.error e=>CX outer H s E e s'
structure FnOk(P:Program)(w:World)(K:PySem.W.Frag)(mg:Str->Option Value)(base:Heap)(CX:CXT)(k:Nat)(f:Addr)(fd:FuncData)(ps:List Str)(sp:Sp):Prop where
 len:∀vs H Q E,sp vs H Q E->vs.length=ps.length
 run:∀(A:Around) (outer:List Env) (s:Shared) (H:Hp) (args:Args) (us:List Value) (vs:List V) (Q:VK) (E:XK),Room k A->Env0 P w K mg base A outer s H->BindsTo s fd args (ps.zip us)->Vals vs us->sp vs H Q E ->
  codeAny (model P w) A (.call (.ref f) args) (CR CX outer P w H s Q E) s
theorem Env0.make{P:Program}{w:World}{K:PySem.W.Frag}{mg:Str->Option Value}{base:Heap}{A:Around}{outer:List Env}{s:Shared}{H:Hp}(e:Env0 P w K mg base A outer s H)(C:Addr)(us:List Value)(kw:List (Str×Value)) :
  Env0 P w K mg base (A.under (.builtin "type.__call__" ⟨.ref C::us,kw⟩)) outer s H:=⟨by first|exact e.frames|(simpa[Around.under,Code.envs,Code.isFrame,pushEnvs]using e.frames),e.mod,e.bs,e.bsz,e.funs,e.frf,e.hok,e.bare⟩
section
variable{X:Cx}{pins:List (Addr×Obj)}{σ:St}{H:Hp}{s s':Shared}
theorem Inv.env0(I:Inv X pins σ H s):Env0 X.prog X.w X.K X.mg X.base X.A X.stack s H :=
 ⟨I.ok.frames,I.ok.mod,I.bs,ZQ I.ok.bsz I.sz,I.stack,I.stkFree,I.hok,I.bare⟩
theorem Inv.after{Q:VK}{u:Value}(I:Inv X pins σ H s)(h:CE X.stack X.prog X.w H s Q u s'):EP X pins σ Q u s':=by obtain⟨v,H',os,bare,un,hok,r,q⟩:=h;obtain⟨hh,g,d,t,os'⟩:=s';obtain rfl:os'=s.os:=os;exact⟨v,H',I.call (h':=hh) (g':=g) (d':=d) (t':=t) (ch:=[]) un hok bare (fun b z=>absurd z (by simp)),r,q⟩
end
def qj(sp:Sp)(dvs:List V)(E:XK)(t:TA):TE:=fun σ H Q=>t σ H fun vs H1=>sp (vs++dvs) H1 Q E
def Bv(C:Addr)(m:Str)(sp:Sp)(dvs:List V)(E:XK)(ta:TE)(t:TA):TE:=fun σ H Q=>ta σ H fun x H1=>∃a dx fs,x=.ref a/\H1 a=some (.ins C dx fs)/\fs.lookup m=none /\
 t σ H1 fun vs H2=>sp (x::(vs++dvs)) H2 Q E
def Bu(C:Addr)(sp:Sp)(dvs:List V)(E:XK)(t:TA):TE:=fun σ H Q=>t σ H fun vs H1=>∀x dx,H1 x=none->H1 dx=none->dx≠x ->
 sp (.ref x::(vs++dvs)) (upd (upd H1 dx (.own x)) x (.ins C dx [])) (fun v H2=>v=.non/\Q (.ref x) H2) E
def Binds(K:PySem.W.Frag)(fd:FuncData)(ps:List Str)(ds:List Value):Prop :=
 ∀(s:Shared) (us:List Value),K.In s.heap->(us++ds).length=ps.length->BindsTo s fd ⟨us,[]⟩ (ps.zip (us++ds))
theorem Binds.all{K:PySem.W.Frag}{fd:FuncData}{ps:List Str}(h:∀us:List Value,us.length=ps.length->bindArgs fd ⟨us,[]⟩=pure (ps.zip us)):Binds K fd ps []:=fun s us _ hl=>by rw[Z6]at hl ⊢;exact .of_eq (h us hl)
def gT(CX:CXT)(X:Cx)(E:XK):Prop:=∀(pins:List (Addr×Obj)) (σ:St) (H:Hp) (s:Shared) (e:Value) (s':Shared),Inv X pins σ H s->CX X.stack H s E e s'->X.xe e s'
section
variable{X:Cx}{CX:CXT}{k:Nat}{f C:Addr}{fd:FuncData}{ps:List Str}{sp:Sp}{dvs:List V}{ds:List Value}{E:XK}{x m:Str}{p pos apos:Pos}{e o:Expr}{es:List Expr}{ta:TE}{t:TA}
theorem yt{pins:List (Addr×Obj)}{σ:St}{H:Hp}{s:Shared}{Q:VK}{us:List Value}{vs:List V}(F:FnOk X.prog X.w X.K X.mg X.base CX k f fd ps sp)(hr:Room k X.A)(hb:Binds X.K fd ps ds)(hd:Vals dvs ds)(hx:gT CX X E)(I:Inv X pins σ H s)(r:Vals vs us)(h:sp (vs++dvs) H Q E):wpAny (model X.prog X.w) X.A (call (.ref f) us) (EP X pins σ Q) X.xe s:=by
 have r2:Vals (vs++dvs) (us++ds):=r.append hd;have hl:(us++ds).length=ps.length:=by rw[<-r2.length];exact F.len _ _ _ _ h
 refine wpAny_call (codeAny_mono (F.run X.A X.stack s H ⟨us,[]⟩ (us++ds) (vs++dvs) Q E hr I.env0 (hb s us I.kIn hl) r2 h) fun r s' hq=>?_);cases r with
 |error e=>exact hx pins σ H s e s' I hq
 |ok fl =>
  cases fl with
  |ret u=>exact I.after hq
  |next=>exact False.elim hq
  |brk=>exact False.elim hq
  |cont=>exact False.elim hq
theorem B7(F:FnOk X.prog X.w X.K X.mg X.base CX k f fd ps sp)(hr:Room k X.A)(hg:Gl X x)(hm:X.mg x=some (.ref f))(hk:PySem.W.keepIn X.K (.ref f)=true)(hb:Binds X.K fd ps ds)(hd:Vals dvs ds)(hx:gT CX X E)(ha:PA X (e::es) t)(hdb:(x==("__debug__":Str))=false:=by decide)(he:starEach (e::es) X.env=(false,eval e X.env)::starEach es X.env:=by rfl)(hpl:(backTo pos (starEach es X.env)).any (·.1)=false:=by rfl) :
  PE X (.Call (.Name x p) (e::es) [] pos) (qj sp dvs E t):=by
 intro pins s σ H Q I h;refine wpAny_Call_Name_kw (dI I hg hm ?_ hdb);refine PySem.W.callWith_K (h₀:=X.base) I.ok.mod.kin hk (thn (ha pos pins s σ H _ I h) fun us s1 ⟨vs,H1,I1,r,q⟩=>⟨I1.kIn,?_⟩) he hpl;exact yt F hr hb hd hx I1 r q
theorem As{pl:Sem Bool}(he:PE X o ta)(c:Cls X.K C)(hm:Meth X.K C m f)(F:FnOk X.prog X.w X.K X.mg X.base CX k f fd ps sp)(hr:Room k X.A)(hb:Binds X.K fd ps ds)(hd:Vals dvs ds)(hx:gT CX X E)(ht:eval (.Call (.Attribute o m apos) [] [] pos) X.env=(do
   let ov ←eval o X.env
   standAt apos.atName
   let(f,first) ←holding [ov] (getMethod ov m pl)
   callWith pos f first (backTo pos (starEach [] X.env)) (backToKw pos (keywordEach [] X.env))):=by rfl) :
  PE X (.Call (.Attribute o m apos) [] [] pos) (Bv C m sp dvs E ta fx):=by
 intro pins s σ H Q I h;refine PySem.W.methodCall_KW (pl:=pl) (thn (he pins s σ H _ I h) fun u s1 hz9=>?_) ht;obtain⟨x,H1,I1,rx,a,dx,fs,ex,ea,l,q⟩:=hz9;subst ex;obtain rfl:u=Value.ref a:=rx;refine lU I1 ea c hm l ?_;exact PySem.W.callWith_K0 (first:=[.ref a]) I1.kIn hm.kp (yt (us:=[.ref a]) (vs:=[.ref a]) F hr hb hd hx I1 (.cons rfl .nil) q)
structure Mk(K:PySem.W.Frag)(C f:Addr):Prop where
 makes:PySem.W.makesIn K C=true
 init:PySem.W.findIn K (.ref C) "__init__" = some (some (.ref f))
 fn:PySem.W.isFn K (.ref f)=true
 kp:PySem.W.keepIn K (.ref C)=true
theorem AL{pins:List (Addr×Obj)}{σ:St}{H:Hp}{s:Shared}{Q:VK}{us:List Value}{vs:List V}(M:Mk X.K C f)(F:FnOk X.prog X.w X.K X.mg X.base CX k f fd ps sp)(hr:Room (k+1) X.A)(hb:Binds X.K fd ps ds)(hd:Vals dvs ds)(hx:gT CX X E)(I:Inv X pins σ H s)(r:Vals vs us)(h:∀x dx,H x=none->H dx=none->dx≠x->sp (.ref x::(vs++dvs)) (upd (upd H dx (.own x)) x (.ins C dx [])) (fun v H2=>v=.non/\Q (.ref x) H2) E) :
  wpAny (model X.prog X.w) X.A (call (.ref C) us) (EP X pins σ Q) X.xe s:=by
 have hq:=h (s.heap.objs.size+1) s.heap.objs.size (I.hok.fresh (Nat.le_succ _)) (I.hok.fresh (Zb _)) (Zt (Nat.lt_succ_self _));have I2:=Inv.made (C:=C) I;have r2:Vals (V.ref (s.heap.objs.size+1)::(vs++dvs)) (Value.ref (s.heap.objs.size+1)::(us++ds)):=.cons rfl (r.append hd);have hl:(Value.ref (s.heap.objs.size+1)::us++ds).length=ps.length:=by have e:=r2.length;rw[F.len _ _ _ _ hq]at e;exact e.symm
 refine wpAny_call (Ad (f:=f) I.kIn M.makes M.init (Z2.mp M.fn) (codeAny_mono (F.run _ X.stack _ _ ⟨Value.ref (s.heap.objs.size+1)::us,[]⟩ (Value.ref (s.heap.objs.size+1)::(us++ds)) _ _ E (hr.make C us [])
  (I2.env0.make C us []) (hb _ (Value.ref (s.heap.objs.size+1)::us) I2.kIn hl) r2 hq) fun r s' hq'=>?_))
 cases r with
 |error e=>exact hx pins σ _ _ e s' I2 hq'
 |ok fl =>
  cases fl with
  |ret u =>obtain⟨v,H',I3,rv,ev,q3⟩:=I2.after hq';subst ev;exact⟨rv,⟨V.ref (s.heap.objs.size+1),H',I3,rfl,q3⟩⟩
  |next=>exact False.elim hq'
  |brk=>exact False.elim hq'
  |cont=>exact False.elim hq'
theorem Cc(M:Mk X.K C f)(F:FnOk X.prog X.w X.K X.mg X.base CX k f fd ps sp)(hr:Room (k+1) X.A)(hg:Gl X x)(hm:X.mg x=some (.ref C))(hb:Binds X.K fd ps ds)(hd:Vals dvs ds)(hx:gT CX X E)(ha:PA X (e::es) t)(hdb:(x==("__debug__":Str))=false:=by decide)(he:starEach (e::es) X.env=(false,eval e X.env)::starEach es X.env:=by rfl)(hpl:(backTo pos (starEach es X.env)).any (·.1)=false:=by rfl) :
  PE X (.Call (.Name x p) (e::es) [] pos) (Bu C sp dvs E t):=by
 intro pins s σ H Q I h;refine wpAny_Call_Name_kw (dI I hg hm ?_ hdb);refine PySem.W.callWith_K (h₀:=X.base) I.ok.mod.kin M.kp (thn (ha pos pins s σ H _ I h) fun us s1 ⟨vs,H1,I1,r,q⟩=>⟨I1.kIn,?_⟩) he hpl;exact AL M F hr hb hd hx I1 r q
end
def PK(X:Cx)(kws:List Keyword)(t:TA):Prop :=
 ∀(pos:Pos) (pins:List (Addr×Obj)) (s:Shared) (σ:St) (H:Hp) (Q:List V->Hp->Prop),Inv X pins σ H s->t σ H Q->wpAny (model X.prog X.w) X.A (evalAll ((backToKw pos (keywordEach kws X.env)).map (·.2))) (AP X pins σ Q) X.xe s
section
variable{X:Cx}{CX:CXT}{k:Nat}{f C:Addr}{fd:FuncData}{ps ks:List Str}{sp:Sp}{E:XK}{x m:Str}{p pos apos kpos:Pos}{e o:Expr}{es:List Expr}{kws:List Keyword}{te ta:TE}{t tk:TA}{nm:Option Str}
theorem D9:PK X [] fx:=fun _ _ _ _ H Q I h=>wpAny_evalAll_nil ⟨[],H,I,.nil,h⟩
theorem Cg(ha:PE X e te)(hr:PK X kws t):PK X (⟨nm,e,kpos⟩::kws) (fK te t):=by intro pos pins s σ H Q I h;show wpAny _ _ (evalAll ((do let v ←eval e X.env;standAt pos;pure v)::(backToKw pos (keywordEach kws X.env)).map (·.2))) _ _ s;refine wpAny_evalAll_cons (z6 (thn (ha pins s σ H _ I h) fun u s1 ⟨x,H1,I1,r1,q1⟩=>z6 (wpAny_standAt (Za ?_))));exact thn (hr pos pins s1 σ H1 _ I1 q1) fun us s2 ⟨xs,H2,I2,r2,q2⟩=>⟨x::xs,H2,I2,.cons r1 r2,q2⟩
structure KBinds(K:PySem.W.Frag)(fd:FuncData)(ps ks:List Str)(g:List Value->List Value->List Value)(gV:List V->List V->List V):Prop where
 to:∀(s:Shared) (us ws:List Value),K.In s.heap->(g us ws).length=ps.length->BindsTo s fd ⟨us,ks.zip ws⟩ (ps.zip (g us ws))
 rel:∀{vs:List V} {us:List Value} {zs:List V} {ws:List Value},Vals vs us->Vals zs ws->Vals (gV vs zs) (g us ws)
variable{g:List Value->List Value->List Value}{gV:List V->List V->List V}
end
structure FnScope(N P:List Str)(sc:Scope):Prop where
 kind:sc.kind=.function
 co:sc.isCoroutine=false
 gen:sc.isGenerator=false
 nd:N.Nodup
 pre:N.take P.length=P
 par:∀x∈P,sc.names.lookup x=some .local\/sc.names.lookup x=some .cell
 nofree:∀y∈sc.names,y.2≠.free
theorem oO{kindOf:Str->Option NameKind}{x:Str}:∀{binds:List (Str×Value)} {m:Str->Option Value},(∀v,(x,v)∉binds)->bindL kindOf binds m x=m x
 | [],_,_=>rfl
 |(n,v)::r,m,h=>by
  unfold bindL;rw[oO fun w hw=>h w (ZA _ hw)];split
  ·have:x≠n:=by rintro rfl;exact h v Yl
   simp[this]
  ·rfl
theorem oK{kindOf:Str->Option NameKind}{x:Str}:∀{binds:List (Str×Value)} {m:Str->Option Value},(∀v,(x,v)∉binds)->bindC kindOf binds m x=m x
 | [],_,_=>rfl
 |(n,v)::r,m,h=>by
  unfold bindC;rw[oK fun w hw=>h w (ZA _ hw)];split
  ·rfl
  ·have:x≠n:=by rintro rfl;exact h v Yl
   simp[this]
theorem oN{kindOf:Str->Option NameKind}{x:Str}{v:Value}:∀{P:List Str} {vs:List Value} {i:Nat} {m:Str->Option Value},P.Nodup->P[i]?=some x->vs[i]?=some v->kindOf x=some .local ->
  bindL kindOf (P.zip vs) m x=some v
 | [],_,_,_,_,h,_,_=>by simp at h
 |_::_,[],_,_,_,_,h,_=>by simp at h
 |p::P,w::vs,0,m,nd,h1,h2,hk=>by simp at h1 h2;subst h1;subst h2;show bindL kindOf ((p,w)::P.zip vs) m p=_;unfold bindL;rw[oO fun v hv=>(List.nodup_cons.mp nd).1 (List.of_mem_zip hv).1,HK hk];simp
 |p::P,w::vs,i+1,m,nd,h1,h2,hk=>by show bindL kindOf ((p,w)::P.zip vs) m x=_;unfold bindL;exact oN (i:=i) (List.nodup_cons.mp nd).2 (by simpa using h1) (by simpa using h2) hk
theorem oJ{kindOf:Str->Option NameKind}{x:Str}{v:Value}:∀{P:List Str} {vs:List Value} {i:Nat} {m:Str->Option Value},P.Nodup->P[i]?=some x->vs[i]?=some v->kindOf x≠some .local ->
  bindC kindOf (P.zip vs) m x=some v
 | [],_,_,_,_,h,_,_=>by simp at h
 |_::_,[],_,_,_,_,h,_=>by simp at h
 |p::P,w::vs,0,m,nd,h1,h2,hk=>by simp at h1 h2;subst h1;subst h2;show bindC kindOf ((p,w)::P.zip vs) m p=_;unfold bindC;rw[oK fun v hv=>(List.nodup_cons.mp nd).1 (List.of_mem_zip hv).1,HH hk];simp
 |p::P,w::vs,i+1,m,nd,h1,h2,hk=>by show bindC kindOf ((p,w)::P.zip vs) m x=_;unfold bindC;exact oJ (i:=i) (List.nodup_cons.mp nd).2 (by simpa using h1) (by simpa using h2) hk
def start(N:List Str)(vs:List V):St:=vs.map some++List.replicate (N.length-vs.length) none
def dq(CX:CXT)(P:Program)(w:World)(K:PySem.W.Frag)(mg:Str->Option Value)(base:Heap)(N:List Str)(qual:Str)(scope:Scope)(f:Addr)(cd:Value)(A:Around)(outer:List Env)(s:Shared)(H:Hp)(E:XK):Cx where
 prog:=P
 w:=w
 K:=K
 mg:=mg
 base:=base
 A:=A.deeper (envOfC qual scope s.heap.objs.size f cd)
 N:=N
 s₀:=s
 H₀:=H
 env:=envOfC qual scope s.heap.objs.size f cd
 outer:=outer
 stack:=envOfC qual scope s.heap.objs.size f cd::outer
 ex:=[]
 calm:=true
 fn:=fun _=>true
 pn:=[]
 xe:=fun e s'=>wpAny (model P w) (A.deeper (envOfC qual scope s.heap.objs.size f cd)) (leaving (envOfC qual scope s.heap.objs.size f cd) e) (fun _ s''=>CX outer H s E e s'') (fun e' s''=>CX outer H s E e' s'') s'
theorem qC{sc:Scope}{n:Nat}{x:Str}(h:sc.names.lookup x=some .cell):∃c,(cellsFrom n sc.names []).lookup x=some c:=by have q:=PySem.W.cellsFrom_some sc.names n [] (.inl h);exact Option.isSome_iff_exists.mp q
theorem oX{CX:CXT}{P:Program}{w:World}{K:PySem.W.Frag}{mg:Str->Option Value}{base:Heap}{N ps:List Str}{qual:Str}{scope:Scope}{f:Addr}{cd:Value}{A:Around}{outer:List Env}{s s1:Shared}{H:Hp}{E:XK}{us:List Value}{vs:List V}(S:FnScope N ps scope)(hd:A.handled=none)(e0:Env0 P w K mg base A outer s H)(hl:vs.length=ps.length)(r:Vals vs us)(x:InCallC s s.heap.objs.size (bindL (envOfC qual scope s.heap.objs.size f cd).kindOf (ps.zip us) fun _=>none) (cellsFrom (s.heap.objs.size+1) scope.names []) (bindC (envOfC qual scope s.heap.objs.size f cd).kindOf (ps.zip us) fun _=>none) s1) :
  Inv (dq CX P w K mg base N qual scope f cd A outer s H E) [] (start N vs) H s1:=by
 have hpl:ps.length<=N.length:=by have:=congrArg List.length S.pre;rw[Z0]at this;omega
 obtain⟨h1,tk,rfl,hk⟩:=x.done;have noA:∀b:Addr,b∉(dq CX P w K mg base N qual scope f cd A outer s H E).ex:=fun b z=>absurd (show b∈([]:List Addr)from z) (by simp);refine⟨⟨e0.mod,S.kind,rfl,rfl,Zb _,fun y z c h1 h2=>?_,fun y hy=>?_,fun y c _ h=>?_,fun _=>hd,Around.frames_deeper e0.frames,.inr ⟨rfl,rfl⟩,fun b z=>absurd z (noA b),e0.bs,e0.bsz,fun b _ _=>noA b,fun b z=>absurd z (noA b),e0.funs,e0.frf⟩,
  rfl,e0.bare,Un.kept hk,⟨_,x.toInCall.ns,fun i y v h1 h2 h3=>?_⟩,fun y c h=>⟨_,x.cell y c h⟩,e0.hok.fresh (Zb _),fun y c h=>?_,fun p hp=>absurd (show p∈([]:List (Addr×Obj)) from hp) (by simp),e0.hok.kept hk,?_⟩
 ·exact name_of_addr x.apart (Yt h1) (Yt h2)
 ·have hy:scope.names.lookup y=some .cell\/scope.names.lookup y=some .free:=hy;rcases hy with hy|hy
  ·exact qC hy
  ·exact absurd rfl (S.nofree _ (Yt hy))
 ·exact YT (x.above y c (Yt h))
 ·have hi:i<vs.length:=by
   unfold start at h2;by_cases hi:i<vs.length
   ·exact hi
   ·rw[ZY (by simpa using hi)]at h2;rw[List.getElem?_replicate]at h2;split at h2<;>cases h2
  have ha:vs[i]?=some v:=by
   unfold start at h2;rw[Ys (by simpa using hi),ZB]at h2;cases e:vs[i]? with
   |none=>rw[e]at h2;cases h2
   |some a=>rw[e]at h2;cases h2;rfl
  obtain⟨u,hu,rv⟩:=r.get ha;have hp:ps[i]?=some y:=by rw[<-S.pre,List.getElem?_take_of_lt (by omega)];exact h1
  have ndP:ps.Nodup:=by rw[<-S.pre];exact S.nd.sublist (ZO _ _)
  refine⟨u,rv,?_⟩;rcases S.par y (YG hp)with k|k
  ·exact .inl ⟨k,oN ndP hp hu k⟩
  ·obtain⟨c,e⟩:=qC (n:=s.heap.objs.size+1) k;refine .inr ⟨.inl k,c,e,?_⟩;have q:=x.cell y c e;rw[oJ ndP hp hu (by show scope.names.lookup y≠_;rw[k];decide)]at q;exact q
 ·exact e0.hok.fresh (YT (x.above y c (Yt h)))
 ·unfold start;show _=N.length;rw[Zj,Zd,List.length_replicate];omega
theorem uY{CX:CXT}{P:Program}{w:World}{K:PySem.W.Frag}{mg:Str->Option Value}{base:Heap}{k:Nat}{f:Addr}{name qual:Str}{params:Arguments}{body:List Stmt}{scope:Scope}{dV kV doc pm cdv ct oc:Value}{an od:Option Addr}{osl:Array (Option Value)}{N ps:List Str}{sp:Sp}(lk:K.lookup f=some ⟨oc,od,.func (PySem.W.fnOf name qual params body scope dV kV doc pm an cdv ct),osl⟩)(hcd:PySem.W.codeIn K cdv qual=true)(S:FnScope N ps scope)(len:∀ vs H Q E,sp vs H Q E->vs.length=ps.length)(hbody:∀ (A:Around) (outer:List Env) (s:Shared) (H:Hp) (vs:List V) (Q:VK) (E:XK),Room k (A.deeper (envOfC qual scope s.heap.objs.size f cdv))->sp vs H Q E ->
   ∃ t,PSs (dq CX P w K mg base N qual scope f cdv A outer s H E) body t/\t { nx:=fun _ H'=>Q .non H',rt:=Q } (start N vs) H) :
  FnOk P w K mg base CX (k+1) f (PySem.W.fnOf name qual params body scope dV kV doc pm an cdv ct) ps sp:=by
 refine⟨len,fun A outer s H args us vs Q E hr e0 hb r hsp=>?_⟩;have hl:=len _ _ _ _ hsp;have KX:K.In s.heap:=e0.mod.kin.keeps fun b o e=>(e0.bs b o e).1;have lim:s.heap.NoLimit:=e0.mod.nolimit.keeps fun b o e=>(e0.bs b o e).1;have hkind:∀y∈ps.zip us,scope.names.lookup y.1=some .local\/(scope.names.lookup y.1=some .cell/\((cellsFrom (s.heap.objs.size+1) scope.names []).lookup y.1).isSome=true):=fun⟨n,v⟩ hy=>by
  rcases S.par n (List.of_mem_zip hy).1 with q|q
  ·exact .inl q
  ·exact .inr ⟨q,PySem.W.cellsFrom_some _ _ _ (.inl q)⟩
 refine codeAny_call_function hr.depth (KX _ _ lk) rfl S.co S.gen rfl (PySem.W.codeRec_of KX hcd) (hb _ _ _ _ ?_);refine wpAny_newFunctionEnv_cells S.kind hkind fun env he s1 x=>?_;subst he;refine⟨lim.keeps x.toInCall.keep,codeAny_func ?_⟩;obtain⟨t,ht,hq⟩:=hbody A outer s H vs Q E (hr.deeper _) hsp;have I:Inv (dq CX P w K mg base N qual scope f cdv A outer s H E) [] (start N vs) H s1:=oX S hr.hd e0 hl r x;refine ZL (ht [] s1 (start N vs) H _ I hq) (fun fl s' hs=>?_) fun e s' hs=>hs;have fin:∀{σ':St} {H':Hp} {v:V} {u:Value},Inv (dq CX P w K mg base N qual scope f cdv A outer s H E) [] σ' H' s'->RelV v u->Q v H'->CE outer P w H s Q u s' :=
  fun{σ' H' v u} J rv q=>⟨v,H',J.os,J.bare,J.base,J.hok,rv,q⟩
 cases fl with
 |ret u =>obtain⟨v,σ',H',J,rv,q⟩:=hs;exact fin J rv q
 |next =>obtain⟨σ',H',J,q⟩:=hs;exact fin (v:=V.non) (u:=Value.none) J rfl q
 |brk =>obtain⟨_,_,_,q⟩:=hs;exact False.elim q
 |cont =>obtain⟨_,_,_,q⟩:=hs;exact False.elim q
open PySem PySem.Spec PyProof.Rows
section
variable{X:Cx}{x:Str}{p pos:Pos}{e:Expr}{es:List Expr}{t:TA}{id T:String}{r:List V->Hp->VK->Prop}
def tCB(r:List V->Hp->VK->Prop)(t:TA):TE:=fun σ H Q=>t σ H fun vs H1=>r vs H1 Q
theorem Am(hc:cY X (.builtin id) r)(hg:Gl X x)(hm:X.mg x=none)(hv:bootBuiltins x=some (.builtin id))(ha:PA X (e::es) t)(hn:x≠"__name__":=by decide)(hdb:(x==("__debug__":Str))=false:=by decide)(he:starEach (e::es) X.env=(false,eval e X.env)::starEach es X.env:=by rfl)(hpl:(backTo pos (starEach es X.env)).any (·.1)=false:=by rfl):PE X (.Call (.Name x p) (e::es) [] pos) (tCB r t):=by intro pins s σ H Q I h;refine wpAny_Call_Name_kw (fY I hg hm hv ?_ hn hdb);exact PyProof.Rows.callWith_builtin1 (thn (ha pos pins s σ H _ I h) fun us s1 ⟨vs,H1,I1,r1,q1⟩=>hc pins s1 σ H1 vs us Q I1 r1 q1) he hpl
theorem yg(hc:cY X (.type T) r)(hg:Gl X x)(hm:X.mg x=none)(hv:bootBuiltins x=some (.type T))(ha:PA X (e::es) t)(hn:x≠"__name__":=by decide)(hdb:(x==("__debug__":Str))=false:=by decide)(he:starEach (e::es) X.env=(false,eval e X.env)::starEach es X.env:=by rfl)(hpl:(backTo pos (starEach es X.env)).any (·.1)=false:=by rfl):PE X (.Call (.Name x p) (e::es) [] pos) (tCB r t):=by intro pins s σ H Q I h;refine wpAny_Call_Name_kw (fY I hg hm hv ?_ hn hdb);exact Y8 (thn (ha pos pins s σ H _ I h) fun us s1 ⟨vs,H1,I1,r1,q1⟩=>hc pins s1 σ H1 vs us Q I1 r1 q1) he hpl
end
end L2
namespace HT
open PySem PyProof.Rows
def lexLt:List Int->List Int->Bool
 | [],[]=>false
 | [],_::_=>true
 |_::_,[]=>false
 |x::xs,y::ys=>if x=y then lexLt xs ys else decide (x<y)
theorem lexLt_cons(x y:Int)(xs ys:List Int):lexLt (x::xs) (y::ys)=if x=y then lexLt xs ys else decide (x<y):=rfl
theorem lexLt_nil_nil:lexLt [] []=false:=rfl
theorem eqAt_int(A:Around)(s:Shared)(a:Int)(t:Tok)(c:Int)(u:Tok):∃e,SeqAt.EqAt A s (.int a t) (.int c u) e/\(e=true↔a=c) :=
 ⟨(a==c),SeqAt.EqAt.int_int a t c u,by simp⟩
section
variable{prog:Program}{w:World}{A:Around}{E:Value->Shared->Prop}{s:Shared}
theorem cat_tup{t b:Addr}{vs ws:List Value}{Q:Value->Shared->Prop}(ht:IsTup s.heap t vs.toArray)(hb:IsTup s.heap b ws.toArray)(hv:vs≠[])(h1:ws=[]->Q (.ref t) s)(h2:ws≠[]->Q (.ref s.heap.objs.size) { s with heap:=s.heap.push { cls:=.type "tuple",data:=.seq (vs++ws).toArray } })(hsz:vs.length+ws.length<=sizeLine):wpAny (model prog w) A (binaryOp .Add (.ref t) (.ref b)) Q E s:=by
 obtain⟨⟨cls,dd,data,sl⟩,ho,hc,n,hd⟩:=id ht;obtain⟨⟨cls2,dd2,data2,sl2⟩,ho2,hc2,n2,hd2⟩:=id hb;simp only at hc hd hc2 hd2;subst hc hd hc2 hd2;have e:vs.toArray++ws.toArray=(vs++ws).toArray:=by simp
 by_cases hw:ws=[]
 ·exact concat_meets ⟨_,ho,rfl⟩ ⟨_,ho2,rfl⟩ noFill_tuple_add seq_tuple_add PySem.F.slot_tuple_add PySem.F.entry_tuple_add (PySem.F.args_tuple_add_2 _ _)
   (tuple_addW1 t b vs.toArray ws.toArray n n2 dd dd2 sl sl2 (by simpa using hv) (by simp[hw])) ⟨ho,ho2,h1 hw⟩
 ·refine concat_meets ⟨_,ho,rfl⟩ ⟨_,ho2,rfl⟩ noFill_tuple_add seq_tuple_add PySem.F.slot_tuple_add PySem.F.entry_tuple_add (PySem.F.args_tuple_add_2 _ _)
   (tuple_addW2 t b vs.toArray ws.toArray n n2 dd dd2 sl sl2 (by simpa using hv) (by simpa using hw) (by rw[Zg,Zg];exact hsz)) ⟨ho,ho2,?_⟩
  rw[e];exact h2 hw
def sIx(n d:Nat):Option Int->Nat
 |none=>d
 |some v=>if v<0 then(v+(n:Int)).toNat else min v.toNat n
theorem sIx_none(n d:Nat):sIx n d none=d:=rfl
theorem sIx_nat(n d k:Nat):sIx n d (some (k:Int))=min k n:=by show(if(k:Int)<0 then((k:Int)+(n:Int)).toNat else min (k:Int).toNat n)=min k n;rw[HH (by omega),ZP]
theorem Ew(n d:Nat)(hd:d<=n)(o:Option Int):sIx n d o<=n:=by
 cases o with
 |none=>exact hd
 |some v =>
  show(if v<0 then(v+(n:Int)).toNat else min v.toNat n)<=n;by_cases hv:v<0
  ·rw[HK hv];omega
  ·rw[HH hv];exact Nat.min_le_right _ _
theorem tD(v:Int)(n d:Nat):(if v<0 then max (v+(n:Int)) 0 else min v (n:Int))=((sIx n d (some v):Nat):Int):=by
 show(if v<0 then max (v+(n:Int)) 0 else min v (n:Int))=(((if v<0 then(v+(n:Int)).toNat else min v.toNat n):Nat):Int);by_cases hv:v<0
 ·simp only[HK hv];omega
 ·simp only[HH hv];omega
theorem uJ(lo hi:Option Int)(n:Nat):Builtin.Slice.sliceAdjust lo hi 1 (n:Int)=(((sIx n 0 lo:Nat):Int),((sIx n n hi:Nat):Int)):=by
 have h1:¬((1:Int)<0):=by omega
 unfold Builtin.Slice.sliceAdjust;simp only[h1,YM];refine Prod.ext ?_ ?_
 ·cases lo with
  |none=>rfl
  |some v=>exact tD v n 0
 ·cases hi with
  |none=>rfl
  |some v=>exact tD v n n
theorem vW(i j:Nat):Builtin.Slice.slicePlaces (i:Int) (j:Int) 1=j-i:=by
 unfold Builtin.Slice.slicePlaces;have h1:(1:Int)>0:=by omega
 simp only[h1,if_true,Int.ediv_one];split<;>omega
theorem mH{v:Value}{o:Option Int}{Q:Option Int->Shared->Prop}(p:IsPart v o)(h:Q o s):wpAny (model prog w) A (Builtin.Slice.slicePartIndex v) Q E s:=by
 cases p with
 |none=>exact slicePart_none h
 |int i t=>exact slicePart_int h
theorem sliceApplied_gen{sl:Addr}{vl vu:Value}{lo hi:Option Int}{n:Nat}{Q:Int×Int×Nat->Shared->Prop}(hs:s.heap.IsSliceOf sl vl vu .none)(pl:IsPart vl lo)(pu:IsPart vu hi)(h:Q (((sIx n 0 lo:Nat):Int),1,sIx n n hi-sIx n 0 lo) s):wpAny (model prog w) A (Builtin.Slice.sliceApplied (.ref sl) (pure (n:Int))) Q E s:=by obtain⟨os,hos,hcs,hds⟩:=id hs;unfold Builtin.Slice.sliceApplied Builtin.Slice.sliceFields;refine z6 (z6 (ZW hos hds (x:=vl) rfl (z6 (ZW hos hds (x:=vu) rfl (z6 (ZW hos hds (x:=.none) rfl (Za ?_)))))));refine z6 (slicePart_none ?_);show wpAny _ _ (if((1:Int)==0)=true then _ else _) _ _ s;rw[HH (by decide)];refine z6 (mH pl (z6 (mH pu (z6 (Za ?_)))));show wpAny _ _ (match Builtin.Slice.sliceAdjust lo hi 1 (n:Int)with|(lo,hi)=>pure (lo,(1:Int),Builtin.Slice.slicePlaces lo hi 1)) _ _ s;rw[uJ lo hi n];show wpAny _ _ (pure (((sIx n 0 lo:Nat):Int),(1:Int),Builtin.Slice.slicePlaces ((sIx n 0 lo:Nat):Int) ((sIx n n hi:Nat):Int) 1)) _ _ s;rw[vW];exact Za h
theorem Aw(xs:Array Value)(i k:Nat):((List.range k).filterMap fun(m:Nat)=>xs[((i:Int)+(m:Int)*1).toNat]?).toArray=((xs.toList.drop i).take k).toArray:=by
 have e:(fun(m:Nat)=>xs[((i:Int)+(m:Int)*1).toNat]?)=fun m=>xs[i+m]?:=by
  funext m;have:((i:Int)+(m:Int)*1).toNat=i+m:=by omega
  rw[this]
 rw[e];have:=pick_run xs i k;rw[List.filterMap_map]at this;have e2:((fun x=>xs[x]?)∘fun x=>i+x)=fun m=>xs[i+m]?:=rfl;rw[e2]at this;rw[this]
theorem getItem_tuple_cut{t sl:Addr}{items:Array Value}{vl vu:Value}{lo hi:Option Int}{Q:Value->Shared->Prop}(ht:IsTup s.heap t items)(hs:s.heap.IsSliceOf sl vl vu .none)(pl:IsPart vl lo)(pu:IsPart vu hi)(hw:¬(sIx items.size 0 lo=0/\sIx items.size items.size hi=items.size))(h:Q (.ref s.heap.objs.size) { s with heap:=s.heap.push { cls:=.type "tuple",data:=.seq ((items.toList.drop (sIx items.size 0 lo)).take (sIx items.size items.size hi-sIx items.size 0 lo)).toArray } })(hsz:items.size<=sizeLine):wpAny (model prog w) A (getItem (.ref t) (.ref sl)) Q E s:=by
 have htake:sizeOk (.seq ((items.toList.drop (sIx items.size 0 lo)).take (sIx items.size items.size hi-sIx items.size 0 lo)).toArray):=by show((items.toList.drop (sIx items.size 0 lo)).take (sIx items.size items.size hi-sIx items.size 0 lo)).toArray.size<=sizeLine;rw[Zg,Z0,Yo,Zl];omega
 have hj:sIx items.size items.size hi<=items.size:=Ew _ _ (Zb _) hi;obtain⟨os,hos,hcs,hds⟩:=id hs;have hTs:s.TypeIs (.ref sl) "slice":=⟨os,hos,hcs⟩
 unfold getItem
 try with_reducible refine Z7 ?_
 first|refine z6 (Za ?_)|skip
 refine z6 (wpAny_sequenceKey ht.typeIs (by decide) ?_);refine z6 (ZM (name:=Str.ofString "__getitem__") ht.typeIs Yi
  (ZR Yi ht.typeIs entry_tuple_getitem ?_ (args_tuple_getitem _ _)))
 show wpAny _ _ (Builtin.Tuple.tupleItemsOf (.ref t) >>= _) _ _ s;refine z6 (tupleItemsOf_ ht ?_);refine z6 (wpAny_typeOf hTs ?_);rw[HK (by decide)];refine z6 (sliceApplied_gen hs pl pu ?_);have hno:¬((((sIx items.size 0 lo:Nat):Int)==0&&(1:Int)==1&&(sIx items.size items.size hi-sIx items.size 0 lo)==items.size)=true):=by intro q;rw[Zx,Zx]at q;have q1:((sIx items.size 0 lo:Nat):Int)=0:=eq_of_beq q.1.1;have q2:sIx items.size items.size hi-sIx items.size 0 lo=items.size:=eq_of_beq q.2;exact hw ⟨by omega,by omega⟩
 show wpAny _ _ (if(((sIx items.size 0 lo:Nat):Int)==0&&(1:Int)==1&&(sIx items.size items.size hi-sIx items.size 0 lo)==items.size)=true then _ else _) _ _ s;rw[HH hno,Aw]
 first
  |exact z6 (m:=Builtin.Tuple.tupleExact _) (ZH (Za ⟨_,rfl,Za h⟩) htake)
  |exact z6 (m:=Builtin.Tuple.tupleExact _) (ZH (z6 (Za (Za ⟨_,rfl,Za h⟩))) htake)
  |exact z6 (z6 (m:=Builtin.Tuple.tupleExact _) (ZH (Za (Za ⟨_,rfl,Za h⟩)) htake))
  |exact z6 (z6 (m:=Builtin.Tuple.tupleExact _) (ZH (Za ⟨_,rfl,Za h⟩) htake))
end
end HT
namespace L2
open PySem PySem.Spec PyProof.Rows
abbrev TO:=St->Hp->(Option Int->Hp->Prop)->Prop
def PO(X:Cx)(e:Option Expr)(t:TO):Prop :=
 ∀(pins:List (Addr×Obj)) (s:Shared) (σ:St) (H:Hp) (Q:Option Int->Hp->Prop),Inv X pins σ H s->t σ H Q ->
  wpAny (model X.prog X.w) X.A (evalPart e X.env) (fun u s'=>∃o H',Inv X pins σ H' s'/\IsPart u o/\Q o H') X.xe s
def uu:TO:=fun _ H Q=>Q none H
def By(t:TE):TO:=fun σ H Q=>t σ H fun x H1=>∃i,x=.int i/\Q (some i) H1
theorem cm{ns:List Int}:∀{us:List Value},Vals (ns.map V.int) us->IntsAre us ns:=by
 induction ns with
 |nil=>intro us r;rw[List.map_nil]at r;cases r;exact .nil
 |cons n ns ih =>
  intro us r;rw[ZX]at r;cases r with
  |cons r1 r2 =>obtain⟨t,e⟩:=r1;subst e;exact .cons n t (ih r2)
section
variable{X:Cx}{e:Expr}{te:TE}{lo hi:Option Expr}{tl th:TO}{pos p2:Pos}
theorem Ci:PO X none uu:=by intro pins s σ H Q I h;rw[evalPart_none];exact Za ⟨none,H,I,.none,h⟩
theorem Cj(h:PE X e te):PO X (some e) (By te):=by intro pins s σ H Q I hw;rw[evalPart_some];refine thn (h pins s σ H _ I hw) fun u s1 hz9=>?_;obtain⟨x,H1,I1,r1,q1⟩:=hz9;obtain⟨i,rfl,q⟩:=q1;obtain⟨t,rfl⟩:=r1;exact⟨some i,H1,I1,.int i t,q⟩
def SlR(X:Cx)(r:V->Option Int->Option Int->Hp->VK->Prop):Prop :=
 ∀(pins:List (Addr×Obj)) (s:Shared) (σ:St) (H:Hp) (x:V) (v vl vu:Value) (lo hi:Option Int) (sl:Addr) (Q:VK),Inv X pins σ H s->RelV x v->s.heap.IsSliceOf sl vl vu .none->IsPart vl lo->IsPart vu hi->r x lo hi H Q ->
  ∃T id,typeLookup (.type T) "__getitem__" = pure (some (.builtin id))/\s.TypeIs v T/\wpAny (model X.prog X.w) X.A (getItem v (.ref sl)) (EP X pins σ Q) X.xe s
def tSl(r:V->Option Int->Option Int->Hp->VK->Prop)(te:TE)(tl th:TO):TE:=fun σ H Q=>te σ H fun x H1=>tl σ H1 fun l H2=>th σ H2 fun u H3=>r x l u H3 Q
theorem At{r:V->Option Int->Option Int->Hp->VK->Prop}(hr:SlR X r)(he:PE X e te)(hl:PO X lo tl)(hu:PO X hi th):PE X (.Subscript e (.Slice lo hi none p2) pos) (tSl r te tl th):=by intro pins s σ H Q I h;refine Subscript_ (thn (he pins s σ H _ I h) fun v s1 hz9=>?_);obtain⟨x,H1,I1,r1,q1⟩:=hz9;refine wpAny_Slice (thn (hl pins s1 σ H1 _ I1 q1) fun vl s2 ⟨l,H2,I2,pl,q2⟩=>thn (hu pins s2 σ H2 _ I2 q2) fun vu s3 hz9=>?_);obtain⟨u,H3,I3,pu,q3⟩:=hz9;rw[evalPart_none];refine Za ?_;have I4:Inv X pins σ H3 { s3 with heap:=s3.heap.push { cls:=.type "slice",data:=.fields #[vl,vu,.none] } }:=I3.kept (t':=s3.toks) fun b ob q=>z9 _ q;obtain⟨T,id,hT,ht,hg⟩:=hr pins { s3 with heap:=s3.heap.push { cls:=.type "slice",data:=.fields #[vl,vu,.none] } } σ H3 x v vl vu l u s3.heap.objs.size Q I4 r1 (Heap.IsSliceOf.new ..) pl pu q3;show wpAny (model X.prog X.w) X.A (subscriptTail e (.Slice lo hi none p2) v (.ref s3.heap.objs.size)) (EP X pins σ Q) X.xe { s3 with heap:=s3.heap.push { cls:=.type "slice",data:=.fields #[vl,vu,.none] } };exact tail_any (ops:=[.ref s3.heap.objs.size,v]) ht hT hg (by with_unfolding_all rfl)
def cV(xs:List V)(lo hi:Option Int):List V:=(xs.drop (HT.sIx xs.length 0 lo)).take (HT.sIx xs.length xs.length hi-HT.sIx xs.length 0 lo)
theorem ki(xs:List V)(lo hi:Option Int):(cV xs lo hi).length<=xs.length:=by unfold cV;rw[Z0,Yo];omega
def F8(K:PySem.W.Frag):V->Option Int->Option Int->Hp->VK->Prop:=fun x lo hi H Q=>∃a xs,x=.ref a/\SqT K H a xs /\
 ¬(HT.sIx xs.length 0 lo=0/\HT.sIx xs.length xs.length hi=xs.length)/\∀p,H p=none->Q (.ref p) (upd H p (.tup (cV xs lo hi)))
theorem EA:SlR X (F8 X.K):=by
 intro pins s σ H x v vl vu lo hi sl Q I rx hs pl pu h;obtain⟨a,xs,rfl,hx,hw,q⟩:=h;cases rx;obtain⟨its,r,ht,hz⟩:=I.tuple hx;have hlen:its.toArray.size=xs.length:=by rw[Zg];exact r.length.symm
 refine⟨"tuple",_,Yi.lookup,ht.typeIs,?_⟩;refine HT.getItem_tuple_cut ht hs pl pu (by rw[hlen];exact hw) ?_ (by rw[hlen];exact hz);rw[hlen];refine⟨.ref s.heap.objs.size,_,I.laid (t':=s.toks) (o:=.tup (cV xs lo hi)) (fun b ob q=>z9 _ q) (Zb _) ?_,rfl,q _ (I.hok.fresh (Zb _))⟩;exact⟨ZQ (ki xs lo hi) hz,_,(r.drop (HT.sIx xs.length 0 lo)).take (HT.sIx xs.length xs.length hi-HT.sIx xs.length 0 lo),IsTup.new _ _⟩
def FB(K:PySem.W.Frag):R2:=fun x y H Q=>∃a b xs ys,x=.ref a/\y=.ref b/\SqT K H a xs/\SqT K H b ys/\xs≠[]/\xs.length+ys.length<=sizeLine /\
 (ys=[]->Q (.ref a) H)/\(ys≠[]->∀p,H p=none->Q (.ref p) (upd H p (.tup (xs++ys))))
theorem Vals.nil_iff{xs:List V}{us:List Value}(r:Vals xs us):us=[]↔xs=[]:=by
 cases r with
 |nil=>simp
 |cons _ _=>simp
theorem B0:OpR X (binaryOp .Add) (FB X.K):=by intro pins s σ H x y v u Q I rx ry h;obtain⟨a,b,xs,ys,rfl,rfl,ha,hb,hx,hz,q1,q2⟩:=h;cases rx;cases ry;obtain⟨its,r1,p1,_⟩:=I.tuple ha;obtain⟨its2,r2,p2,_⟩:=I.tuple hb;refine HT.cat_tup p1 p2 (fun z=>hx (r1.nil_iff.mp z)) (fun z=>⟨.ref a,H,I,rfl,q1 (r2.nil_iff.mp z)⟩) (fun z=>?_) (by rw[<-r1.length,<-r2.length];exact hz);refine⟨.ref s.heap.objs.size,_,I.laid (t':=s.toks) (o:=.tup (xs++ys)) (fun b ob q=>z9 _ q) (Zb _) ?_,rfl,q2 (fun w=>z (r2.nil_iff.mpr w)) _ (I.hok.fresh (Zb _))⟩;exact⟨by rw[Zj];exact hz,_,r1.append r2,IsTup.new _ _⟩
end
open PySem PySem.Spec PyProof.Rows
def ixN(n:Nat)(i:Int):Option Nat:=if 0<=i then(if i<n then some i.toNat else none)else if -(n:Int)<=i then some (i+n).toNat else none
def atI{α:Type}(xs:List α)(i:Int):Option α:=(ixN xs.length i).bind fun j=>xs[j]?
theorem tN{n:Nat}{i:Int}{j:Nat}(h:ixN n i=some j):seqIndex? i n=some j/\j<n/\-(n:Int)<=i/\i<n:=by
 unfold ixN at h;by_cases h0:0<=i
 ·rw[HK h0]at h;by_cases h1:i<n
  ·rw[HK h1]at h;have e:i.toNat=j:=Zw h;exact⟨by rw[seqIndex_of h0 h1,e],by omega,by omega,h1⟩
  ·rw[HH h1]at h;cases h
 ·rw[HH h0]at h;by_cases h1:-(n:Int)<=i
  ·rw[HK h1]at h;have e:(i+n).toNat=j:=Zw h;exact⟨by rw[seqIndex_neg (by omega) h1,e],by omega,h1,by omega⟩
  ·rw[HH h1]at h;cases h
theorem tj{α:Type}{xs:List α}{i:Int}{v:α}(h:atI xs i=some v):∃j,seqIndex? i xs.length=some j/\xs[j]?=some v/\j<xs.length/\-(xs.length:Int)<=i/\i<xs.length:=by
 unfold atI at h;cases e:ixN xs.length i with
 |none=>rw[e]at h;cases h
 |some j =>rw[e]at h;obtain⟨h1,h2,h3,h4⟩:=tN e;exact⟨j,h1,h,h2,h3,h4⟩
theorem fN{α:Type}{xs:List α}{j:Nat}{v:α}(h:xs[j]?=some v):atI xs (j:Int)=some v:=by
 have hj:j<xs.length:=(ZF.mp h).1;have e:ixN xs.length (j:Int)=some j:=by unfold ixN;rw[HK (by omega),HK (by omega)];simp
 unfold atI;rw[e];exact h
def sU(b:Expr):Prop:=∀o i,subscripted b false o i=operate [o,i] (getItem o i)
def IxR(X:Cx)(r:R2):Prop :=
 ∀(value slice:Expr) (pins:List (Addr×Obj)) (s:Shared) (σ:St) (H:Hp) (x y:V) (v u:Value) (Q:VK),Inv X pins σ H s->RelV x v->RelV y u->r x y H Q ->
  subscripted slice false v u=operate [v,u] (getItem v u)->wpAny (model X.prog X.w) X.A (subscriptTail value slice v u) (EP X pins σ Q) X.xe s
def MtR(X:Cx)(id:String)(r:V->List V->Hp->VK->Prop):Prop :=
 ∀(pins:List (Addr×Obj)) (s:Shared) (σ:St) (H:Hp) (x:V) (xs:List V) (v:Value) (us:List Value) (Q:VK),Inv X pins σ H s->RelV x v->Vals xs us->r x xs H Q ->
  wpAny (model X.prog X.w) X.A (call (.builtin id) (v::us)) (EP X pins σ Q) X.xe s
section
variable{X:Cx}{a b:Expr}{ta tb:TE}{pos:Pos}
theorem Fu{r:R2}(hr:IxR X r)(ha:PE X a ta)(hb:PE X b tb)(hs:sU b):PE X (.Subscript a b pos) (tOp r ta tb):=by intro pins s σ H Q I h;exact Subscript_ (zt ha hb I h fun v u s2 x y H2 I2 rx ry q=>hr a b pins s2 σ H2 x y v u Q I2 rx ry q (hs _ _))
def Ep(K:PySem.W.Frag):R2:=fun x y H Q=>∃p xs i v,x=.ref p/\y=.int i/\SqL K H p xs/\atI xs i=some v/\Q v H
def vY(K:PySem.W.Frag):R2:=fun x y H Q=>∃p xs i v,x=.ref p/\y=.int i/\SqT K H p xs/\atI xs i=some v/\Q v H
theorem BN:IxR X (Ep X.K):=by
 intro value slice pins s σ H x y v u Q I rx ry h hs;obtain⟨p,xs,i,z,rfl,rfl,hq,he,q⟩:=h;cases rx;obtain⟨t,rfl⟩:=ry;obtain⟨its,r,pl,hz⟩:=I.list hq;obtain⟨j,h1,h2,h3,h4,h5⟩:=tj he;obtain⟨w,ew,rw'⟩:=r.get h2;have hl:=r.length;have hn:=me;have fin:EP X pins σ Q w s:=⟨z,H,I,rw',q⟩
 by_cases h0:0<=i
 ·have hj:i.toNat=j:=by rw[seqIndex_of h0 h5]at h1;exact Zw h1
  exact item_listR pl.isList h0 (by omega) (by rw[hj];simpa using ew) fin hs
 ·have hj:(i+(its.toArray.size:Int)).toNat=j:=by rw[seqIndex_neg (by omega) h4]at h1;rw[Zg,<-hl];exact Zw h1
  exact subscriptTail_builtinR (x:=w) pl.isList.typeIs slot_list_getitem.lookup
   (wpAny_getItem_list_neg (Q:=fun r s'=>r=w/\EP X pins σ Q r s') pl.isList (by omega) (by rw[Zg]<;>omega) (by omega) (by rw[hj];simpa using ew) ⟨rfl,fin⟩) hs
theorem Dj:IxR X (vY X.K):=by
 intro value slice pins s σ H x y v u Q I rx ry h hs;obtain⟨p,xs,i,z,rfl,rfl,hq,he,q⟩:=h;cases rx;obtain⟨t,rfl⟩:=ry;obtain⟨its,r,pl,hz⟩:=I.tuple hq;obtain⟨j,h1,h2,h3,h4,h5⟩:=tj he;obtain⟨w,ew,rw'⟩:=r.get h2;have hl:=r.length;have hn:=me;have fin:EP X pins σ Q w s:=⟨z,H,I,rw',q⟩
 exact subscriptTail_builtinR (x:=w) pl.typeIs slot_tuple_getitem.lookup
  (getItem_tuple (j:=j) (Q:=fun r s'=>r=w/\EP X pins σ Q r s') pl (by omega) (by omega) (by rw[Zg,<-hl];exact h1) (by simpa using ew) ⟨rfl,fin⟩) hs
theorem vt(its:List Value)(n j:Nat)(u:Value):Obj.mapSeq (·.setIfInBounds j u) { cls:=.type "list",data:=.seq its.toArray n }={ cls:=.type "list",data:=.seq (its.set j u).toArray n }:=by simp[Obj.mapSeq]
theorem Inv.lst{pins:List (Addr×Obj)}{σ:St}{H:Hp}{s:Shared}{p:Addr}{xs:List V}(I:Inv X pins σ H s)(h:H p=some (.lst xs)) :
  ∃(its:List Value) (n:Nat),Vals xs its/\s.heap.get? p=some { cls:=.type "list",data:=.seq its.toArray n }/\xs.length<=sizeLine:=by
 obtain⟨z,its,n,r,e⟩:=I.hok p _ h;exact⟨its,n,r,e,z⟩
theorem Inv.lstUpd{pins:List (Addr×Obj)}{σ:St}{H:Hp}{s:Shared}{p:Addr}{xs ys:List V}{its its':List Value}{n n':Nat}{f:Obj->Obj}(I:Inv X pins σ H s)(h:H p=some (.lst xs))(ho:s.heap.get? p=some { cls:=.type "list",data:=.seq its.toArray n })(hf:f { cls:=.type "list",data:=.seq its.toArray n }={ cls:=.type "list",data:=.seq its'.toArray n' })(r:Vals ys its')(hz:ys.length<=sizeLine)(t:Nat) :
  Inv X pins σ (upd H p (.lst ys)) { s with heap:=s.heap.update p f,toks:=t }:=by
 have e:(s.heap.update p f).get? p=some { cls:=.type "list",data:=.seq its'.toArray n' }:=by rw[Yx f ho (by rw[hf]<;>rfl),hf]
 refine I.write (x:=p) (e:=p) (by rw[h];trivial) (.inl rfl) (fun b u hb q=>(Yp _ _ (Yk hb)).trans q) ⟨_,e⟩ ?_;exact⟨hz,its',n',r,e⟩
def Bk:V->V->V->Hp->(Hp->Prop)->Prop:=fun o i v H Q=>∃p xs k j,o=.ref p/\i=.int k/\H p=some (.lst xs)/\ixN xs.length k=some j/\Q (upd H p (.lst (xs.set j v)))
theorem AQ:zo X Bk:=by
 intro pins s σ H o i v ov iv u Q I ro ri rv h;obtain⟨p,xs,k,j,rfl,rfl,hp,hj,q⟩:=h;cases ro;obtain⟨t,rfl⟩:=ri;obtain⟨its,n,r,ho,hz⟩:=I.lst hp;obtain⟨h1,h2,h3,h4⟩:=tN hj;have hl:=r.length;have hn:=me;have I':Inv X pins σ (upd H p (.lst (xs.set j v))) { s with heap:=s.heap.update p (Obj.mapSeq (·.setIfInBounds j u)) } :=
  I.lstUpd hp ho (vt its n j u) (r.set rv j) (by rw[List.length_set];exact hz) s.toks
 by_cases h0:0<=k
 ·have hk:k.toNat=j:=by rw[seqIndex_of h0 h4]at h1;exact Zw h1
  exact PySem.W.ki_setAt ho h0 (by omega) (by rw[Zg,<-hl];exact h4) (by rw[hk];exact⟨_,I',q⟩)
 ·have hk:(k+(its.toArray.size:Int)).toNat=j:=by rw[seqIndex_neg (by omega) h3]at h1;rw[Zg,<-hl];exact Zw h1
  exact PySem.W.ki_setBack ho (by omega) (by rw[Zg,<-hl];exact h3) (by omega) (by rw[hk];exact⟨_,I',q⟩)
theorem rJ(lo hi:Option Int)(n:Nat):(sliceBounds lo hi none n).1=((HT.sIx n 0 lo:Nat):Int)/\(sliceBounds lo hi none n).2.1=((HT.sIx n n hi:Nat):Int)/\(sliceBounds lo hi none n).2.2=1:=by
 refine⟨?_,?_,rfl⟩
 ·cases lo with
  |none=>simp[sliceBounds,HT.sIx]
  |some i =>
   simp only[sliceBounds,HT.sIx,Option.getD_none,show(1:Int)>0 by decide,if_true];by_cases h:i<0
   ·simp only[h,if_true]<;>omega
   ·simp only[h,YM]<;>omega
 ·cases hi with
  |none=>simp[sliceBounds,HT.sIx]
  |some i =>
   simp only[sliceBounds,HT.sIx,Option.getD_none,show(1:Int)>0 by decide,if_true];by_cases h:i<0
   ·simp only[h,if_true]<;>omega
   ·simp only[h,YM]<;>omega
theorem pV(its:List Value)(lo hi:Option Int):slicePick its.toArray lo hi none=((its.drop (HT.sIx its.length 0 lo)).take (HT.sIx its.length its.length hi-HT.sIx its.length 0 lo)).toArray:=by obtain⟨h1,h2,h3⟩:=rJ lo hi its.toArray.size;unfold slicePick;rw[h1,h2,h3];simp only[sliceRange_one,pick_run,Zg]<;>rfl
def Et(K:PySem.W.Frag):V->Option Int->Option Int->Hp->VK->Prop:=fun x lo hi H Q=>∃a xs,x=.ref a/\SqL K H a xs/\∀p,H p=none->Q (.ref p) (upd H p (.lst (cV xs lo hi)))
theorem Cz:SlR X (Et X.K):=by intro pins s σ H x v vl vu lo hi sl Q I rx hs pl pu h;obtain⟨a,xs,rfl,hx,q⟩:=h;cases rx;obtain⟨its,r,ht,hz⟩:=I.list hx;have hlen:=r.length;refine⟨"list",_,slot_list_getitem.lookup,ht.isList.typeIs,?_⟩;refine wpAny_getItem_list_slice ht.isList hs pl pu .none (by simp) ?_ (by rw[Zg]<;>omega);rw[pV,<-hlen];refine⟨.ref s.heap.objs.size,_,I.laid (t':=s.toks) (o:=.lst (cV xs lo hi)) (fun b ob q=>z9 _ q) (Zb _) ?_,rfl,q _ (I.hok.fresh (Zb _))⟩;exact⟨ZQ (ki xs lo hi) hz,_,0,(r.drop (HT.sIx xs.length 0 lo)).take (HT.sIx xs.length xs.length hi-HT.sIx xs.length 0 lo),Zh _ rfl⟩
theorem qA:cY X (.builtin "len") (fun xs H Q=>∃p ys,xs=[.ref p]/\(SqL X.K H p ys\/SqT X.K H p ys)/\Q (.int ys.length) H):=by
 intro pins s σ H xs us Q I r h;obtain⟨p,ys,rfl,hq,q⟩:=h;obtain⟨u,rfl,rx⟩:=df r;cases rx;have hn:=me;rcases hq with hq|hq
 ·obtain⟨its,r',pl,hz⟩:=I.list hq;have hlen:=r'.length;exact Calls.call_len_list pl.isList (by simp only[Zg]<;>omega) ⟨.int ys.length,H,I.tok _,⟨s.toks+1,by rw[Zg,hlen]⟩,q⟩
 ·obtain⟨its,r',pl,hz⟩:=I.tuple hq;have hlen:=r'.length;exact len_tuple pl (by simp only[Zg]<;>omega) ⟨.int ys.length,H,I.tok _,⟨s.toks+1,by rw[Zg,hlen]⟩,q⟩
theorem qB:cY X (.type "list") (fun xs H Q=>∃p ys,xs=[.ref p]/\(SqL X.K H p ys\/SqT X.K H p ys)/\∀l,H l=none->Q (.ref l) (upd H l (.lst ys))):=by
 intro pins s σ H xs us Q I r h;obtain⟨p,ys,rfl,hq,q⟩:=h;obtain⟨u,rfl,rx⟩:=df r;cases rx;have fin:∀(its:List Value),Vals ys its->ys.length<=sizeLine->∀(h':Heap) (c':Nat),(∀b o',s.heap.get? b=some o'->h'.get? b=some o') ->
   h'.get? s.heap.objs.size=some { cls:=.type "list",dict:=none,data:=.seq its.toArray c',slots:=#[] }->EP X pins σ Q (.ref s.heap.objs.size) { s with heap:=h' }:=fun its r' hz h' c' kp e =>
  ⟨.ref s.heap.objs.size,_,I.laid (t':=s.toks) kp (Zb _) (show ObjOk X.prog X.w _ h' _ (.lst ys)from⟨hz,its,c',r',e⟩),rfl,q _ (I.hok.fresh (Zb _))⟩
 rcases hq with hq|hq
 ·obtain⟨its,r',pl,hz⟩:=I.list hq;have hlen:=r'.length;obtain⟨o,ho,hc,n,hd⟩:=pl.isList;exact call_list_seq p (.inl rfl) ho hc hd (fun h' c' kp e=>fin its r' hz h' c' kp e) (by simp only[Zg]<;>omega)
 ·obtain⟨its,r',pl,hz⟩:=I.tuple hq;have hlen:=r'.length;obtain⟨o,ho,hc,n,hd⟩:=pl;exact call_list_seq p (.inr rfl) ho hc hd (fun h' c' kp e=>fin its r' hz h' c' kp e) (by simp only[Zg]<;>omega)
theorem pL:cY X (.type "tuple") (fun xs H Q=>∃p ys,xs=[.ref p]/\((SqL X.K H p ys/\∀l,H l=none->Q (.ref l) (upd H l (.tup ys)))\/(SqT X.K H p ys/\Q (.ref p) H))):=by
 intro pins s σ H xs us Q I r h;obtain⟨p,ys,rfl,h⟩:=h;obtain⟨u,rfl,rx⟩:=df r;cases rx;rcases h with⟨hq,q⟩|⟨hq,q⟩
 ·obtain⟨its,r',pl,hz⟩:=I.list hq;have hlen:=r'.length;refine call_tuple_list pl.isList (fun h' kp=>?_) (by simp only[Zg]<;>omega);have I1:Inv X pins σ H { s with heap:=h' }:=I.kept (t':=s.toks) kp;have I2:Inv X pins σ (upd H h'.objs.size (.tup ys)) { s with heap:=h'.push { cls:=.type "tuple",data:=.seq its.toArray } } :=
   I1.laid (t':=s.toks) (fun b o e=>z9 _ e) (Zb _) (show ObjOk X.prog X.w _ _ _ (.tup ys)from⟨hz,its,r',IsTup.new _ _⟩)
  exact⟨.ref h'.objs.size,_,I2,rfl,q _ (I1.hok.fresh (Zb _))⟩
 ·obtain⟨its,r',pl,hz⟩:=I.tuple hq;exact call_tuple_same pl ⟨.ref p,H,I,rfl,q⟩
def tyV(K:PySem.W.Frag)(T:String)(x:V)(H:Hp):Prop:=match x with
 |.str _=>T="str"
 |.int _=>T="int"
 |.ref p=>(T="list"/\∃xs,SqL K H p xs)\/(T="tuple"/\∃o,K.lookup p=some o/\o.cls=.type "tuple"/\o.dict=none) \/
   (T="dict"/\((∃kvs,H p=some (.dK kvs))\/∃kvs,H p=some (.dT kvs)))\/(T="set"/\∃S n,H p=some (.set S n))
 |_=>False
theorem EQ{pins:List (Addr×Obj)}{σ:St}{H:Hp}{s:Shared}{T:String}{x:V}{v:Value}(I:Inv X pins σ H s)(r:RelV x v)(ty:tyV X.K T x H) :
  s.TypeIs v T/\∀a,v=.ref a->∃ob,s.heap.get? a=some ob/\ob.dict=none:=by
 cases x with
 |str z =>obtain⟨t,rfl⟩:=r;cases(show T="str" from ty);exact⟨typeIs_str s z t,fun _ e=>nomatch e⟩
 |int i =>obtain⟨t,rfl⟩:=r;cases(show T="int" from ty);exact⟨typeIs_int s i t,fun _ e=>nomatch e⟩
 |ref p =>
  cases r;rcases ty with⟨rfl,xs,hq⟩|⟨rfl,o,hk,hc,hd⟩|⟨rfl,hk⟩|⟨rfl,S,n,hk⟩
  ·obtain⟨its,_,pl,_⟩:=I.list hq;refine⟨pl.isList.typeIs,fun a e=>?_⟩;cases e;obtain⟨o,n,e,c,hd,_⟩:=pl;exact⟨o,e,hd⟩
  ·refine⟨⟨o,I.kIn p o hk,hc⟩,fun a e=>?_⟩;cases e;exact⟨o,I.kIn _ o hk,hd⟩
  ·have z:∃o,s.heap.get? p=some o/\o.ExactDict:=by
    rcases hk with⟨kvs,hk⟩|⟨kvs,hk⟩
    ·obtain⟨_,_,_,_,o,_,_,e,ex,_⟩:=I.hok p _ hk;exact⟨o,e,ex⟩
    ·obtain⟨_,_,_,_,o,_,_,e,ex,_⟩:=I.hok p _ hk;exact⟨o,e,ex⟩
   obtain⟨o,e,ex⟩:=z;refine⟨⟨o,e,ex.1⟩,fun a e2=>?_⟩;cases e2;exact⟨o,e,ex.2.1⟩
  ·obtain⟨o,_,_,_,e,ex,_⟩:=I.hok p _ hk;refine⟨⟨o,e,ex.1⟩,fun a e2=>?_⟩;cases e2;exact⟨o,e,ex.2.1⟩
 |_=>exact False.elim ty
def tBM(K:PySem.W.Frag)(T:String)(r:V->List V->Hp->VK->Prop)(to:TE)(t:TA):TE:=fun σ H Q=>to σ H fun x H1=>tyV K T x H1/\t σ H1 fun xs H2=>r x xs H2 Q
variable{o e:Expr}{es:List Expr}{to:TE}{t:TA}{name:Str}{apos cpos:Pos}{T id:String}{r:V->List V->Hp->VK->Prop}
theorem Fs(pa:PlainAttrs T)(slot:Slot T name id)(hty:typeOf (.builtin id)=pure (.type "method_descriptor"))(hm:MtR X id r)(ho:PE X o to)(ha:PA X (e::es) t)(hbase:attributeBase o name X.env (eval o X.env)=eval o X.env:=by rfl)(hfew:((backTo cpos (starEach (e::es) X.env)).all (fun x=>!x.1)&&(backToKw cpos (keywordEach [] X.env)).all (fun x=>x.1.isSome)
  &&decide ((e::es).length+([]:List Keyword).length+(if ([]:List Keyword).isEmpty then 0 else 1)<30))=true:=by rfl)(hline:(apos.endLine == cpos.line)=true:=by rfl)(hs:starEach (e::es) X.env=(false,eval e X.env)::starEach es X.env:=by rfl)(hplain:(backTo cpos (starEach es X.env)).any (·.1)=false:=by rfl) :
  PE X (.Call (.Attribute o name apos) (e::es) [] cpos) (tBM X.K T r to t):=by
 intro pins s σ H Q I h;refine wpAny_Call_method_late hbase hfew hline rfl (thn (ho pins s σ H _ I h) fun v s1 hz9=>?_);obtain⟨x,H1,I1,r1,ty,q1⟩:=hz9;obtain⟨h1,h2⟩:=EQ I1 r1 ty;refine⟨T,id,pa,slot,hty,h1,h2,?_⟩;have hA:=ha cpos pins s1 σ H1 _ I1 q1;rw[hs]at hA ⊢;refine Calls.callWith_builtin (by show(false ||(backTo cpos (starEach es X.env)).any (·.1))=false;rw[hplain]<;>rfl) (Calls.evalArgs_plain ?_);exact thn hA fun us s2 ⟨vs,H2,I2,r2,q2⟩=>hm pins s2 σ H2 x vs v us Q I2 r1 r2 q2
end
open PySem PySem.Spec PyProof.Rows
def MtM(X:Cx)(id:String)(r:V->List V->Hp->VK->Prop):Prop :=
 ∀(pins:List (Addr×Obj)) (s:Shared) (σ:St) (H:Hp) (x:V) (xs:List V) (v:Value) (us:List Value) (Q:VK),Inv X pins σ H s->RelV x v->Vals xs us->r x xs H Q ->
  wpAny (model X.prog X.w) X.A (call (.builtin id) (v::us)) (EP X pins σ Q) X.xe s
theorem Vals.one:∀{x:V} {us:List Value},Vals [x] us->∃u,us=[u]/\RelV x u
 |_,_,.cons r .nil=>⟨_,rfl,r⟩
theorem Vals.rep{xs:List V}{us:List Value}(h:Vals xs us):∀k:Nat,Vals (List.replicate k xs).flatten (List.replicate k us).flatten
 |0=>.nil
 |k+1=>by rw[YD,YD,Yu,Yu];exact Vals.append h (Vals.rep h k)
theorem oV(its:List Value):∀(k:Nat) (acc:List Value),
  List.foldl (fun x1 x2=>x1++x2) acc.toArray (List.replicate k its.toArray)=(acc++(List.replicate k its).flatten).toArray
 |0,acc=>by simp
 |k+1,acc=>by
  have e:acc.toArray++its.toArray=(acc++its).toArray:=by simp
  have e2:(acc++its)++(List.replicate k its).flatten=acc++(List.replicate (k+1) its).flatten:=by rw[YD,Yu,ZC]
  rw[<-e2,<-oV its k (acc++its),<-e,YD,List.foldl_cons]
section
variable{X:Cx}{pins:List (Addr×Obj)}{σ:St}{H:Hp}{s:Shared}{l b:Addr}{xs ys zs:List V}
theorem Inv.lset{its its':List Value}{n:Nat}{f:Array Value->Array Value}{t':Nat}(I:Inv X pins σ H s)(hH:H l=some (.lst xs))(e:s.heap.get? l=some { cls:=.type "list",data:=.seq its.toArray n })(hf:f its.toArray=its'.toArray)(hv:Vals ys its')(hz:ys.length<=sizeLine) :
  Inv X pins σ (upd H l (.lst ys)) { s with heap:=s.heap.update l (Obj.mapSeq f),toks:=t' }:=by
 have q:=PySem.IsL.update e f;rw[hf]at q;refine I.write (x:=l) (e:=l) (by rw[hH];exact trivial) (.inl rfl) (fun b' u hb hu=>(Yp s.heap (Obj.mapSeq f) (Yk hb)).trans hu) ⟨_,q⟩ ?_;exact⟨hz,its',_,hv,q⟩
theorem Inv.lnew{its:List Value}{t':Nat}(I:Inv X pins σ H s)(hv:Vals ys its)(hz:ys.length<=sizeLine) :
  Inv X pins σ (upd H s.heap.objs.size (.lst ys)) { s with heap:=s.heap.push { cls:=.type "list",data:=.seq its.toArray },toks:=t' } :=
 I.laid (fun _ _ q=>z9 _ q) (Zb _) ⟨hz,its,0,hv,Zh _ rfl⟩
theorem Inv.fresh(I:Inv X pins σ H s):H s.heap.objs.size=none:=I.hok.fresh (Zb _)
theorem Inv.lstM(I:Inv X pins σ H s)(hH:H l=some (.lst xs)):xs.length<=sizeLine/\∃(its:List Value) (n:Nat),Vals xs its/\xs.length=its.length/\s.heap.get? l=some { cls:=.type "list",data:=.seq its.toArray n }:=by obtain⟨z,its,n,r,e⟩:=I.hok l _ hH;exact⟨z,its,n,r,r.length,e⟩
end
section
variable{X:Cx}
def oh:V->List V->Hp->VK->Prop:=fun x vs H Q=>∃l xs y,x=.ref l/\vs=[y]/\H l=some (.lst xs)/\xs.length<sizeLine/\Q .non (upd H l (.lst (xs++[y])))
theorem xS:MtM X "list.append" oh:=by intro pins s σ H x vs v us Q I rx rv h;obtain⟨l,xs,y,rfl,rfl,hH,hz,q⟩:=h;cases rx;obtain⟨u,rfl,ru⟩:=rv.one;obtain⟨z,its,n,r,hl,e⟩:=I.lstM hH;refine call_meets F.slot_list_append ⟨_,e,rfl⟩ F.entry_list_append (F.args_list_append_2 _ _) (PySem.list_append l its.toArray n u (by rw[Zg];omega)) ⟨e,?_⟩;refine⟨.non,_,I.lset (its':=its++[u]) hH e (by simp) (r.append (.cons ru .nil)) ?_,rfl,q⟩;rw[Zj,Zy];omega
def Em:R2:=fun x y H Q=>∃l b xs zs,x=.ref l/\y=.ref b/\H l=some (.lst xs)/\H b=some (.lst zs)/\xs.length+zs.length<=sizeLine/\∀p,H p=none->Q (.ref p) (upd H p (.lst (xs++zs)))
theorem DC:OpR X (binaryOp .Add) Em:=by
 intro pins s σ H x y v u Q I rx ry h;obtain⟨l,b,xs,zs,rfl,rfl,hH,hB,hz,q⟩:=h;cases rx;cases ry;obtain⟨z,its,n,r,hl,e⟩:=I.lstM hH;obtain⟨z2,its2,n2,r2,hl2,e2⟩:=I.lstM hB;refine PySem.P.add_list e e2 ?_ (by rw[Zg,Zg];omega);have ea:its.toArray++its2.toArray=(its++its2).toArray:=by simp
 rw[ea];exact⟨.ref _,_,I.lnew (t':=s.toks) (r.append r2) (by rw[Zj];omega),rfl,q _ I.fresh⟩
theorem tV{α:Type}(xs:List α)(k:Nat):(List.replicate k xs).flatten.length=k*xs.length:=by
 induction k with
 |zero=>simp
 |succ k ih=>rw[YD,Yu,Zj,ih,Nat.succ_mul,Nat.add_comm]
end
open PySem PySem.Spec PyProof.Rows
section
variable{κ:Type}[DecidableEq κ]
def bE(kvs:List (κ×V))(k:κ):Option V:=(kvs.find? fun kv=>decide (kv.1=k)).map (·.2)
def cW(kvs:List (κ×V))(k:κ)(v:V):List (κ×V) :=
 if(kvs.any fun kv=>decide (kv.1=k))=true then kvs.map (fun kv=>if kv.1=k then(kv.1,v)else kv)else kvs++[(k,v)]
theorem lD{p:κ×V}{r:List (κ×V)}{k:κ}(e:p.1=k):bE (p::r) k=some p.2:=by simp[bE,List.find?_cons,e]
theorem lC{p:κ×V}{r:List (κ×V)}{k:κ}(e:¬p.1=k):bE (p::r) k=bE r k:=by simp[bE,List.find?_cons,e]
theorem iS(k:κ):∀kvs:List (κ×V),(kvs.any fun kv=>decide (kv.1=k))=(bE kvs k).isSome
 | []=>rfl
 |p::r=>by
  rw[List.any_cons];by_cases e:p.1=k
  ·simp only[lD e,decide_eq_true e,Bool.true_or,Option.isSome_some]
  ·rw[lC e,decide_eq_false e,Bool.false_or];exact iS k r
theorem ko(kvs:List (κ×V))(k:κ)(v:V):(cW kvs k v).length<=kvs.length+1:=by
 unfold cW;split
 ·rw[Zd];omega
 ·rw[Zj,Zq,List.length_nil];omega
theorem kZ{kvs:List (κ×V)}{k:κ}(v:V)(h:bE kvs k=none):cW kvs k v=kvs++[(k,v)]:=by unfold cW;rw[iS,h];exact HH (by decide)
theorem RelO.isSome_eq{o:Option V}{u:Option Value}(r:RelO o u):o.isSome=u.isSome:=by
 cases o with
 |none=>cases u with
  |none=>rfl
  |some _=>exact(show False from r).elim
 |some _=>cases u with
  |none=>exact(show False from r).elim
  |some _=>rfl
theorem KV.val{kvs:List (κ×V)}{vs:List (κ×Value)}(r:KV kvs vs)(k:κ):RelO (bE kvs k) (valueAt vs k):=by
 unfold KV at r;induction r with
 |nil=>exact True.intro
 |@cons p q ps qs h t ih =>
  obtain⟨h1,h2⟩:=h;by_cases e:p.1=k
  ·have e':q.1=k:=h1.symm.trans e;have b:valueAt (q::qs) k=some q.2:=by simp[valueAt,List.find?_cons,e']
   rw[lD e,b];exact h2
  ·have e':¬q.1=k:=fun z=>e (h1.trans z);have b:valueAt (q::qs) k=valueAt qs k:=by simp[valueAt,List.find?_cons,e']
   rw[lC e,b];exact ih
theorem KV.any{kvs:List (κ×V)}{vs:List (κ×Value)}(r:KV kvs vs)(k:κ):(kvs.any fun kv=>decide (kv.1=k))=vs.any fun kv=>decide (kv.1=k):=by
 unfold KV at r;induction r with
 |nil=>rfl
 |cons h t ih=>rw[List.any_cons,List.any_cons,ih,h.1]
theorem KV.repl{kvs:List (κ×V)}{vs:List (κ×Value)}(r:KV kvs vs)(k:κ){y:V}{u:Value}(ry:RelV y u) :
  KV (kvs.map fun kv=>if kv.1=k then(kv.1,y)else kv) (vs.map fun kv=>if kv.1=k then(kv.1,u)else kv):=by
 unfold KV at r ⊢;induction r with
 |nil=>exact .nil
 |@cons p q ps qs h t ih =>
  rw[ZX,ZX];refine .cons ?_ ih;obtain⟨h1,h2⟩:=h;by_cases e:p.1=k
  ·rw[HK e,HK (h1.symm.trans e)];exact⟨h1,ry⟩
  ·rw[HH e,HH (fun z=>e (h1.trans z))];exact⟨h1,h2⟩
theorem KV.put{kvs:List (κ×V)}{vs:List (κ×Value)}(r:KV kvs vs)(k:κ){y:V}{u:Value}(ry:RelV y u):KV (cW kvs k y) (stored vs k u):=by
 unfold cW stored;rw[r.any k];by_cases e:(vs.any fun kv=>decide (kv.1=k))=true
 ·rw[HK e,HK e];exact r.repl k ry
 ·rw[HH e,HH e];exact Paired.snoc r ⟨rfl,ry⟩
theorem KV.length{kvs:List (κ×V)}{vs:List (κ×Value)}(r:KV kvs vs):kvs.length=vs.length:=Paired.length r
end
theorem lZ{P:Program}{w:World}{k:Key}{u:Value}(r:RelV (kV k) u):(bI P w).is k u=true:=by
 cases k with
 |inl i=>obtain⟨t,e⟩:=(show∃t,u=Value.int i t from r);subst e;exact su P w i t
 |inr x=>obtain⟨t,e⟩:=(show∃t,u=Value.str x t from r);subst e;exact sw P w x t
theorem oZ{P:Program}{w:World}:∀{ks:List Key} {us:List Value},Vals (ks.map kV) us->ItemsAre (bI P w) ks us
 | [],_,r=>by rw[List.map_nil]at r;cases r;exact .nil
 |k::ks,_,r=>by
  rw[ZX]at r;cases r with
  |cons h t=>exact .cons (lZ h) (oZ t)
abbrev KT(H:Hp):List (List Key×V)->List (List Key×Addr×Value)->Prop:=Paired fun p q=>p.1=q.1/\H q.2.1=some (.tup (p.1.map kV))/\RelV p.2 q.2.2
theorem KT.val{H:Hp}{kvs:List (List Key×V)}{xs:List (List Key×Addr×Value)}(r:KT H kvs xs)(k:List Key):RelO (bE kvs k) ((atKey xs k).map (·.2)):=by
 induction r with
 |nil=>exact True.intro
 |@cons p q ps qs h t ih =>
  obtain⟨h1,_,h2⟩:=h;by_cases e:p.1=k
  ·have e':q.1=k:=h1.symm.trans e;have b:atKey (q::qs) k=some q.2:=by simp[atKey,List.find?_cons,e']
   rw[lD e,b];exact h2
  ·have e':¬q.1=k:=fun z=>e (h1.trans z);have b:atKey (q::qs) k=atKey qs k:=by simp[atKey,List.find?_cons,e']
   rw[lC e,b];exact ih
theorem KT.repl{H:Hp}{kvs:List (List Key×V)}{xs:List (List Key×Addr×Value)}(r:KT H kvs xs)(k:List Key){y:V}{u:Value}(ry:RelV y u) :
  KT H (kvs.map fun kv=>if kv.1=k then(kv.1,y)else kv) (xs.map (putAt k u)):=by
 induction r with
 |nil=>exact .nil
 |@cons p q ps qs h t ih =>
  rw[ZX,ZX];refine .cons ?_ ih;obtain⟨h1,h2,h3⟩:=h;unfold putAt;by_cases e:p.1=k
  ·rw[HK e,HK (h1.symm.trans e)];exact⟨h1,h2,ry⟩
  ·rw[HH e,HH (fun z=>e (h1.trans z))];exact⟨h1,h2,h3⟩
theorem KT.put{H:Hp}{kvs:List (List Key×V)}{xs:List (List Key×Addr×Value)}(r:KT H kvs xs)(k:List Key){b:Addr}{y:V}{u:Value}(hb:H b=some (.tup (k.map kV)))(ry:RelV y u) :
  KT H (cW kvs k y) (storedH xs k b u):=by
 have e:(kvs.any fun kv=>decide (kv.1=k))=(atKey xs k).isSome:=by rw[iS,(r.val k).isSome_eq,Option.isSome_map]
 unfold cW storedH;rw[e];by_cases q:(atKey xs k).isSome=true
 ·rw[HK q,HK q];exact r.repl k ry
 ·rw[HH q,HH q];exact Paired.snoc r ⟨rfl,hb,ry⟩
theorem KT.keeps{H H':Hp}{kvs:List (List Key×V)}{xs:List (List Key×Addr×Value)}(r:KT H kvs xs)(ht:∀b ys,H b=some (.tup ys)->H' b=some (.tup ys)):KT H' kvs xs :=
 Paired.mapP r fun _ _ z=>⟨z.1,ht _ _ z.2.1,z.2.2⟩
section
variable{P:Program}{w:World}{H:Hp}{h:Heap}{a:Addr}
theorem Bm{u:HO}(ok:HOk P w H h)(e:Rd H a u):ObjOk P w H h a u:=e.ok ok
theorem jK{kvs:List (Key×V)}(ok:HOk P w H h)(e:Rd H a (.dK kvs)):kvs.length<=sizeLine/\(a==sysModules)=false/\∃vs,KV kvs vs/\h.DictOf (bI P w) a vs :=
 show ObjOk P w H h a (.dK kvs)from Bm ok e
theorem E4{kvs:List (Key×V)}(ok:HOk P w H h)(e:H a=some (.dK kvs)):kvs.length<=sizeLine/\(a==sysModules)=false/\∃vs,KV kvs vs/\h.DictOf (bI P w) a vs:=jK ok (.inl e)
theorem jg{ks:List Key}(ok:HOk P w H h)(e:H a=some (.tup (ks.map kV))):(tupleKind (bI P w)).is h ks a:=by
 obtain⟨_,its,r,o,h1,h2,n,h3⟩:=(show ObjOk P w H h a (.tup (ks.map kV))from ok a _ e)
 exact⟨o,its.toArray,n,h1,h2,h3,by simpa using oZ r⟩
theorem gF{kvs:List (List Key×V)}(ok:HOk P w H h)(e:Rd H a (.dT kvs)):kvs.length<=sizeLine/\(a==sysModules)=false /\
  ∃xs,KT H kvs xs/\h.DictOfH (tupleKind (bI P w)) a xs:=by
 obtain⟨z,y,xs,r,o,es,ep,h1,h2,h3,h4,h5⟩:=(show ObjOk P w H h a (.dT kvs)from Bm ok e)
 refine⟨z,y,xs,r,o,es,ep,h1,h2,h3,h4,fun x hx=>?_,h5⟩;have all:∀{l:List (List Key×V)} {m:List (List Key×Addr×Value)},KT H l m->∀x∈m,(tupleKind (bI P w)).is h x.1 x.2.1:=by
  intro l m q;induction q with
  |nil=>intro x hx;exact nomatch hx
  |@cons p q ps qs hq t ih =>
   intro x hx;rcases Zs.mp hx with e|hx
   ·subst e;exact jg ok (by rw[<-hq.1];exact hq.2.1)
   ·exact ih x hx
 exact all r x hx
theorem E5{kvs:List (List Key×V)}(ok:HOk P w H h)(e:H a=some (.dT kvs)):kvs.length<=sizeLine/\(a==sysModules)=false /\
  ∃xs,KT H kvs xs/\h.DictOfH (tupleKind (bI P w)) a xs:=gF ok (.inl e)
end
def ik(H:Hp)(a:Addr)(y:V)(r:Option V):Prop :=
 (∃kvs k,Rd H a (.dK kvs)/\y=kV k/\r=bE kvs k)\/∃kvs k b,Rd H a (.dT kvs)/\y=.ref b/\H b=some (.tup (k.map kV))/\r=bE kvs k
def CT(H:Hp)(a:Addr)(y v:V)(H':Hp):Prop :=
 (∃kvs k,H a=some (.dK kvs)/\y=kV k/\kvs.length<sizeLine/\H'=upd H a (.dK (cW kvs k v))) \/
 ∃kvs k b,H a=some (.dT kvs)/\y=.ref b/\H b=some (.tup (k.map kV))/\kvs.length<sizeLine/\H'=upd H a (.dT (cW kvs k v))
section
variable{X:Cx}{pins:List (Addr×Obj)}{σ:St}{H:Hp}{s:Shared}{a:Addr}{y v:V}{u r:Value}{o:Option V}{A:Around}{E:Value->Shared->Prop}
theorem Inv.big(I:Inv X pins σ H s):sysModules<s.heap.objs.size:=by have h:mainGlobals<s.heap.objs.size:=(I.mod.glob.keeps I.bk).lt;exact Nat.lt_trans (by decide) h
theorem xj{Q:Value->Shared->Prop}(hu:A.units+1<cLine)(I:Inv X pins σ H s)(g:ik H a y (some v))(ry:RelV y u)(h:∀w' s',Inv X pins σ H s'->RelV v w'->Q w' s') :
  wpAny (model X.prog X.w) A (getItem (.ref a) u) Q E s:=by
 rcases g with⟨kvs,k,e,ey,l⟩|⟨kvs,k,b,e,ey,eb,l⟩
 ·subst ey;obtain⟨z,hd,vs,rel,dd⟩:=jK I.hok e;obtain⟨w',hw,rw'⟩:=RelO.some_of (v:=v) (o:=valueAt vs k) (by rw[l];exact rel.val k);exact wpAny_getItem_of (lZ ry) dd.mapOf hw (h w' _ (I.tok _) rw')
 ·subst ey;cases(show u=Value.ref b from ry);obtain⟨z,hd,xs,rel,dd⟩:=gF I.hok e;obtain⟨w',hw,rw'⟩:=RelO.some_of (v:=v) (o:=(atKey xs k).map (·.2)) (by rw[l];exact rel.val k);obtain⟨p,hp,hp2⟩:=YK.mp hw;refine wpAny_getItem_heap (tupleKind_room_in1 hu) (jg I.hok eb) dd hp ?_;rw[hp2];exact h w' _ (I.tok _) rw'
theorem FT{Q:Value->Shared->Prop}(hu:A.units+1<cLine)(I:Inv X pins σ H s)(g:ik H a y o)(ry:RelV y u)(h:∀s',Inv X pins σ H s'->Q (.bool o.isSome) s') :
  wpAny (model X.prog X.w) A (compareOp .In u (.ref a)) Q E s:=by
 rcases g with⟨kvs,k,e,ey,l⟩|⟨kvs,k,b,e,ey,eb,l⟩
 ·subst ey;obtain⟨z,hd,vs,rel,dd⟩:=jK I.hok e;refine wpAny_in_of (lZ ry) hd dd.mapOf ?_;rw[<-(rel.val k).isSome_eq,<-l];exact h _ (I.tok _)
 ·subst ey;cases(show u=Value.ref b from ry);obtain⟨z,hd,xs,rel,dd⟩:=gF I.hok e;refine wpAny_in_heap (tupleKind_room_in1 hu) (jg I.hok eb) hd dd ?_;have q:=(rel.val k).isSome_eq;rw[Option.isSome_map]at q;rw[<-q,<-l];exact h _ (I.tok _)
theorem BG{Q:Value->Shared->Prop}(hu:A.units+1<cLine)(I:Inv X pins σ H s)(g:ik H a y o)(ry:RelV y u)(h:∀s',Inv X pins σ H s'->Q (.bool (!o.isSome)) s') :
  wpAny (model X.prog X.w) A (compareOp .NotIn u (.ref a)) Q E s:=by
 rcases g with⟨kvs,k,e,ey,l⟩|⟨kvs,k,b,e,ey,eb,l⟩
 ·subst ey;obtain⟨z,hd,vs,rel,dd⟩:=jK I.hok e;refine wpAny_notIn_of (lZ ry) hd dd.mapOf ?_;rw[<-(rel.val k).isSome_eq,<-l];exact h _ (I.tok _)
 ·subst ey;cases(show u=Value.ref b from ry);obtain⟨z,hd,xs,rel,dd⟩:=gF I.hok e;refine wpAny_notIn_heap (tupleKind_room_in1 hu) (jg I.hok eb) hd dd ?_;have q:=(rel.val k).isSome_eq;rw[Option.isSome_map]at q;rw[<-q,<-l];exact h _ (I.tok _)
theorem tG{h':Heap}{t':Nat}{ob:HO}(I:Inv X pins σ H s)(mu:Mut (H a))(hs:Heap.SameBut a s.heap h')(he:∃q,h'.get? a=some q)(new:ObjOk X.prog X.w (upd H a ob) h' a ob) :
  Inv X pins σ (upd H a ob) { s with heap:=h',toks:=t' } :=
 I.write (x:=a) (e:=a) mu (.inl rfl) (fun b q hb z=>(hs.2 b hb).trans z) he new
theorem C8{P:Program}{w:World}{H':Hp}{h':Heap}{kvs:List (Key×V)}{vs:List (Key×Value)}(z:kvs.length<=sizeLine)(hd:(a==sysModules)=false)(rel:KV kvs vs)(dd:h'.DictOf (bI P w) a vs) :
  ObjOk P w H' h' a (.dK kvs):=⟨z,hd,vs,rel,dd⟩
theorem xl{H':Hp}{Q:Unit->Shared->Prop}(hu:A.units+1<cLine)(I:Inv X pins σ H s)(g:CT H a y v H')(ry:RelV y u)(rv:RelV v r)(h:∀s',Inv X pins σ H' s'->Q () s') :
  wpAny (model X.prog X.w) A (setItem (.ref a) u r) Q E s:=by
 rcases g with⟨kvs,k,e,ey,l,eH⟩|⟨kvs,k,b,e,ey,eb,l,eH⟩
 ·subst ey eH;obtain⟨z,hd,vs,rel,dd⟩:=E4 I.hok e;have hz:vs.length<=sizeLine:=by rw[<-rel.length];exact z
  have hl:(cW kvs k v).length<=sizeLine:=by have:=ko kvs k v;omega
  refine wpAny_setItem_pairs (hsz:=hz) (lZ ry) dd fun h' dd' hs=>h _ ?_;have he:∃q,h'.get? a=some q:=let⟨q,_,_,hq,_⟩:=dd';⟨q,hq⟩
  exact tG I (by rw[e];exact True.intro) hs he (C8 hl hd (rel.put k rv) dd')
 ·subst ey eH;cases(show u=Value.ref b from ry);obtain⟨z,hd,xs,rel,dd⟩:=E5 I.hok e;have hz:xs.length<=sizeLine:=by rw[<-Paired.length rel];exact z
  have hl:(cW kvs k v).length<=sizeLine:=by have:=ko kvs k v;omega
  refine wpAny_setItem_heap (hsz:=hz) (tupleKind_room_in1 hu) (jg I.hok eb) dd fun h' dd' hs=>h _ ?_;obtain⟨q,es,ep,hq,h2,h3,h4,_,h5⟩:=dd';refine tG I (by rw[e];exact True.intro) hs ⟨q,hq⟩ ⟨hl,hd,_,(rel.put k eb rv).keeps fun c ys ec=>?_,q,es,ep,hq,h2,h3,h4,h5⟩;rw[af (Ff ec e (fun z=>nomatch z))];exact ec
end
def zn(i:Expr):Prop:=∀ov iv,subscripted i false ov iv=operate [ov,iv] (getItem ov iv)
theorem CB{prog:Program}{w:World}{A:Around}{E:Value->Shared->Prop}{s:Shared}{env:Env}{value slice:Expr}{pos:Pos}{T id:String}{Q:Value->Shared->Prop}(hl:typeLookup (.type T) "__getitem__" = pure (some (.builtin id)))(hs:zn slice)(h:wpAny (model prog w) A (eval value env) (fun o s₁=>wpAny (model prog w) A (eval slice env) (fun i s₂=>s₂.TypeIs o T/\wpAny (model prog w) A (getItem o i) Q E s₂) E s₁) E s) :
  wpAny (model prog w) A (eval (.Subscript value slice pos) env) Q E s:=by
 refine Subscript_ (ZL h (fun o s₁ h₁=>ZL h₁ (fun i s₂ h₂=>?_) fun _ _ x=>x) fun _ _ x=>x);obtain⟨hT,h₂⟩:=h₂;unfold subscriptTail;refine z6 ?_;rw[getitemInPython_of_ne hT.not_modules];refine z6 (wpAny_specialOf hT hl ?_);have fin:wpAny (model prog w) A (subscripted slice false o i) (fun r s₃=>wpAny (model prog w) A (letTemporaryGo value o r >>= fun _=>pure r) Q E s₃) E s₂:=by rw[hs o i];exact wpAny_operating (ZL h₂ (fun r s₃ h₃=>z6 (wpAny_letTemporaryGo (Za h₃))) fun _ _ x=>x)
 first
  |exact Za (z6 fin)
  |exact z6 (Za (z6 fin))
  |exact z6 fin
theorem sq{X:Cx}{pins:List (Addr×Obj)}{σ:St}{H:Hp}{s:Shared}{a:Addr}{y:V}{o:Option V}(I:Inv X pins σ H s)(g:ik H a y o):s.TypeIs (.ref a) "dict":=by
 rcases g with⟨kvs,k,e,_,_⟩|⟨kvs,k,b,e,_,_,_⟩
 ·obtain⟨_,_,vs,_,dd⟩:=jK I.hok e;exact dd.typeIs
 ·obtain⟨_,_,xs,_,dd⟩:=gF I.hok e;exact dd.typeIs
def Bs(td ty:TE):TE:=fun σ H Q=>td σ H fun x H1=>ty σ H1 fun y H2=>∃a v,x=.ref a/\ik H2 a y (some v)/\Q v H2
def AR(ty td:TE):TE:=fun σ H Q=>ty σ H fun y H1=>td σ H1 fun x H2=>∃a o,x=.ref a/\ik H2 a y o/\Q (.bl o.isSome) H2
def oF(ty td:TE):TE:=fun σ H Q=>ty σ H fun y H1=>td σ H1 fun x H2=>∃a o,x=.ref a/\ik H2 a y o/\Q (.bl (!o.isSome)) H2
def Bn(td ty tv:TE):TS:=fun D σ H=>tv σ H fun v H1=>td σ H1 fun x H2=>ty σ H2 fun y H3=>∃a H4,x=.ref a/\CT H3 a y v H4/\D.nx σ H4
section
variable{X:Cx}{o i e value:Expr}{pos pos' tpos:Pos}{td ty tv:TE}
theorem Ca(hu:X.A.units+1<cLine)(ho:PE X o td)(hi:PE X i ty)(hs:zn i):PE X (.Subscript o i pos) (Bs td ty):=by intro pins s σ H Q I h;refine CB PySem.F.slot_dict_getitem.lookup hs (thn (ho pins s σ H _ I h) fun u s1 ⟨x,H1,I1,rx,q1⟩=>thn (hi pins s1 σ H1 _ I1 q1) fun iv s2 hz9=>?_);obtain⟨y,H2,I2,ry,a,v,ex,g,q2⟩:=hz9;subst ex;obtain rfl:u=Value.ref a:=rx;exact⟨sq I2 g,xj hu I2 g ry fun w' s3 I3 rw'=>⟨v,H2,I3,rw',q2⟩⟩
theorem yf(hu:X.A.units+1<cLine)(hi:PE X i ty)(ho:PE X o td):PC X .In i o (AR ty td):=by intro pins s σ H Q I h;refine thn (hi pins s σ H _ I h) fun iv s1 ⟨y,H1,I1,ry,q1⟩=>thn (ho pins s1 σ H1 _ I1 q1) fun u s2 hz9=>?_;obtain⟨x,H2,I2,rx,a,ov,ex,g,q2⟩:=hz9;subst ex;obtain rfl:u=Value.ref a:=rx;exact FT hu I2 g ry fun s3 I3=>⟨.bl ov.isSome,H2,I3,rfl,q2⟩
theorem pk(hu:X.A.units+1<cLine)(hi:PE X i ty)(ho:PE X o td):PC X .NotIn i o (oF ty td):=by intro pins s σ H Q I h;refine thn (hi pins s σ H _ I h) fun iv s1 ⟨y,H1,I1,ry,q1⟩=>thn (ho pins s1 σ H1 _ I1 q1) fun u s2 hz9=>?_;obtain⟨x,H2,I2,rx,a,ov,ex,g,q2⟩:=hz9;subst ex;obtain rfl:u=Value.ref a:=rx;exact BG hu I2 g ry fun s3 I3=>⟨.bl (!ov.isSome),H2,I3,rfl,q2⟩
theorem Ck(hu:X.A.units+1<cLine)(ho:PE X o td)(hi:PE X i ty)(hv:PE X value tv)(hs:swapsWith value (some (.Subscript o i pos')) pos.line X.env=pure false) :
  PS X (.Assign [.Subscript o i pos'] value pos) (Bn td ty tv):=by
 intro pins s σ H D I h;refine wpAny_Assign_Subscript (thn (hv pins s σ H _ I h) fun r s1 ⟨v,H1,I1,rv,q1⟩=>thn (ho pins s1 σ H1 _ I1 q1) fun u s2 ⟨x,H2,I2,rx,q2⟩=>thn (hi pins s2 σ H2 _ I2 q2) fun iv s3 hz9=>?_) hs;obtain⟨y,H3,I3,ry,a,H4,ex,g,q3⟩:=hz9;subst ex;obtain rfl:u=Value.ref a:=rx;exact xl hu I3 g ry rv fun s4 I4=>⟨σ,H4,I4,q3⟩
end
theorem zL{P:Program}{w:World}{H:Hp}(h:Heap)(hb:sysModules<h.objs.size):ObjOk P w H (h.push { cls:=.type "dict",data:=.dict #[] }) h.objs.size (.dT []) :=
 ⟨ZV _,beq_eq_false_iff_ne.mpr (Yk (Zt hb)),[],.nil,_,#[],0,Zh _ rfl,⟨rfl,rfl,rfl⟩,rfl,rfl,List.nodup_nil⟩
def yO:TE:=fun _ H Q=>∀p,H p=none->Q (.ref p) (upd H p (.dT []))
section
variable{X:Cx}{pos:Pos}
theorem Aq:PE X (.Dict [] [] pos) yO:=fun pins s σ H Q I h =>
 wpAny_Dict_empty ⟨.ref s.heap.objs.size,_,I.laid (a:=s.heap.objs.size) (o:=.dT []) (t':=s.toks) (fun _ _ q=>z9 _ q) (Zb _) (zL s.heap I.big),rfl,h _ (I.hok.fresh (Zb _))⟩
end
def yP:List (TE×TE)->St->Hp->(List (V×V)->Hp->Prop)->Prop
 | [],_,H,Q=>Q [] H
 |(tk,tv)::r,σ,H,Q=>tk σ H fun x H1=>tv σ H1 fun y H2=>yP r σ H2 fun ps H3=>Q ((x,y)::ps) H3
abbrev VV:List (V×V)->List (Value×Value)->Prop:=Paired fun p q=>RelV p.1 q.1/\RelV p.2 q.2
def PPs(X:Cx)(pos:Pos)(keys:List (Option Expr))(values:List Expr)(trs:List (TE×TE)):Prop :=
 ∀(pins:List (Addr×Obj)) (s:Shared) (σ:St) (H:Hp) (Q:List (V×V)->Hp->Prop),Inv X pins σ H s->yP trs σ H Q ->
  wpAny (model X.prog X.w) X.A (evalPairs (pairTrees keys values X.env pos)) (fun vs s'=>∃ps H',Inv X pins σ H' s'/\VV ps vs/\Q ps H') X.xe s
structure M1(X:Cx)(o:Expr)(m:Str)(apos:Pos)(e:Expr)(cpos:Pos):Prop where
 base:attributeBase o m X.env (eval o X.env)=eval o X.env
 few:((backTo cpos (starEach [e] X.env)).all (fun x=>!x.1)&&(backToKw cpos (keywordEach [] X.env)).all (fun x=>x.1.isSome)
 &&decide (([e]:List Expr).length+([]:List Keyword).length+(if ([]:List Keyword).isEmpty then 0 else 1)<30))=true
 line:(apos.endLine==cpos.line)=true
 trees:backTo cpos (starEach [e] X.env)=[(false,eval e X.env)]
structure M2(X:Cx)(o:Expr)(m:Str)(apos:Pos)(e f:Expr)(cpos:Pos):Prop where
 base:attributeBase o m X.env (eval o X.env)=eval o X.env
 few:((backTo cpos (starEach [e,f] X.env)).all (fun x=>!x.1)&&(backToKw cpos (keywordEach [] X.env)).all (fun x=>x.1.isSome)
 &&decide (([e,f]:List Expr).length+([]:List Keyword).length+(if ([]:List Keyword).isEmpty then 0 else 1)<30))=true
 line:(apos.endLine==cpos.line)=true
 trees:backTo cpos (starEach [e,f] X.env)=[(false,eval e X.env),(false,eval f X.env)]
def IsD(H:Hp)(a:Addr):Prop:=(∃kvs,Rd H a (.dK kvs))\/∃kvs,Rd H a (.dT kvs)
theorem Dh{X:Cx}{pins:List (Addr×Obj)}{σ:St}{H:Hp}{s:Shared}{a:Addr}(I:Inv X pins σ H s)(d:IsD H a) :
  s.TypeIs (.ref a) "dict"/\(∀b,Value.ref a=.ref b->∃ob,s.heap.get? b=some ob/\ob.dict=none)/\(a==sysModules)=false:=by
 rcases d with⟨kvs,e⟩|⟨kvs,e⟩
 ·obtain⟨_,hd,vs,_,dd⟩:=jK I.hok e;refine⟨dd.typeIs,fun b q=>?_,hd⟩;cases q;obtain⟨ob,_,_,h1,h2,_⟩:=dd;exact⟨ob,h1,h2.2.1⟩
 ·obtain⟨_,hd,xs,_,dd⟩:=gF I.hok e;refine⟨dd.typeIs,fun b q=>?_,hd⟩;cases q;obtain⟨ob,_,_,h1,h2,_⟩:=dd;exact⟨ob,h1,h2.2.1⟩
end L2
namespace Att
open PySem PySem.W PySem.Calls PyProof.Rows
theorem lY{P:Params}{h:Heap}:∀(ns:List Int) (vs:List Value),WellAll P h vs (ns.map WData.int)->IntsAre vs ns:=by
 intro ns;induction ns with
 |nil =>intro vs w;rw[List.map_nil]at w;cases w;exact .nil
 |cons n ns ih =>
  intro vs w;rw[ZX]at w;cases w with
  |cons a b =>cases a;exact .cons _ _ (ih _ b)
theorem yx{l:OpenLaw}{n:Nat}(hn:l.most=some n){P:Params}{h:Heap}{args:List WData}{vals:List Value}(hpre:l.row.toRowW.claim.pre args=true)(hwl:WellAll P h vals args) :
  ∃a vs ns,vals=[Value.ref a]/\args=[WData.list (ns.map WData.int)]/\h.get? a=some { cls:=.type "list",data:=.seq vs.toArray }/\IntsAre vs ns/\ns.length<=n:=by
 have hsh:WShape.hasAll [] args [.list .int]=true:=(pre_splitW hpre).1;have hc:l.pre.holds [] { args:=args }=true:=(pre_splitW hpre).2;obtain⟨d,r,rfl,h1,h2⟩:=hasAllW_cons hsh;obtain rfl:=hasAllW_nil h2;obtain⟨xs,rfl,h3⟩:=hasW_list h1;obtain⟨ns,rfl⟩:=items_int h3;have hlen:ns.length<=n:=by
  unfold OpenLaw.pre at hc;have h4:(WTm.not (.lt (.lit (.int (n:Int))) (.len (.arg 0)))).holds [] { args:=[.list (ns.map .int)] }=true:=by have h4:=(holds_andW hc).1;rw[hn]at h4;exact h4
  have h5:=condW_of h4 (w_not (w_lt w_lit (w_len_list (w_arg rfl))));rw[Zd]at h5;refine Nat.le_of_not_lt fun q=>?_;have q':(n:Int)<((ns.length:Nat):Int):=by omega
  first
   |(rw[decide_eq_true q']at h5;exact absurd h5 (by decide))
   |(simp at h5;omega)
 cases hwl with
 |cons w1 w2 =>
  cases w2;cases w1 with
  |list ho hall=>exact⟨_,_,ns,rfl,rfl,ho,lY ns _ hall,hlen⟩
theorem yj(l:OpenLaw)(args:List WData):l.row.toRowW.claim.post args (.bool true) args=true :=
 postW_of (r:=l.row.toRowW) (X:=(true==true))
  (show WShape.has [] (.bool true) .bool=true by first|rfl|decide|simp[WShape.has,WShape.arms,WShape.armsAll])
  (show(WTm.eq .res (.lit (.bool true))).value [] { args:=args,res:=some (.bool true),after:=args }=some (.bool (true==true))from w_eq_bool (w_res rfl) w_lit) rfl
theorem attach_call{l:OpenLaw}{n:Nat}{q:Program}{loose:List Str}{XP:(Str->Option Value)->Heap->Prop}{YP:World->Heap->Prop}{d:DefRec}(hn:l.most=some n)(hdf:d.params.defaults=[])(call:∀ (w:World) (s₀ s₁:Shared) (mg mb:Str->Option Value) (fa:Addr) (o:Obj) (pm cd doc:Value) (a:Addr) (vs:List Value) (ns:List Int),
   Ground q loose [] XP w s₀ mg mb s₁.heap->YP w s₁.heap ->
   s₁.heap.get? fa=some o->o.data=.func (docDef d.name d.params d.body d.scope pm cd doc)->s₁.heap.CodeRec cd d.name->mg d.name=some (.ref fa) ->
   s₁.heap.get? a=some { cls:=.type "list",data:=.seq vs.toArray }->IntsAre vs ns->ns.length<=n->s₁.gens=#[] ->
   codeAny (model l.prog w) callerA (.call (.ref fa) ⟨[.ref a],[]⟩) (fun r s'=>r=.ok (.ret (.bool true))/\OldK s₁.heap s'.heap/\s'.os=s₁.os/\AllBare s'.gens) s₁) :
  WalkO q loose XP YP l.row.toRowW d [] (fun f vs=>PySem.call f vs):=by
 intro w s₀ s₁ mg mb G Y fa o pm cd doc dV kV ho hd hcd hD hmg hg args vals as hpre hlay hrd hwl hlo;obtain rfl:dV=.none:=Dflts.none hD hdf;obtain rfl:kV=.none:=Dflts.noKw hD;obtain⟨a,vs,ns,rfl,rfl,hobj,hints,hlen⟩:=yx hn hpre hwl;refine enter_call (codeAny_mono (call w s₀ s₁ mg mb fa o pm cd doc a vs ns G Y ho (fd_plain hd) hcd hmg hobj hints hlen hg) fun r s' hq=>?_);obtain⟨rfl,h2,h3,h4⟩:=hq;exact⟨.inl ⟨.bool true,.bool true,[],rfl,fun _=>rfl,.bool true,yj l _,fun _=>⟨List.Pairwise.nil,fun _ hm=>(nomatch hm)⟩⟩,h2,h3,h4⟩
end Att
namespace L2
open PySem PySem.Spec PyProof.Rows
theorem pF:∀{vs:List Value} {ns:List Int},IntsAre vs ns->Vals (ns.map V.int) vs
 |_,_,.nil=>.nil
 |_,_,.cons n t h=>.cons ⟨t,rfl⟩ (pF h)
open PySem PySem.Spec PyProof.Rows
open PySem PySem.Spec PyProof.Rows
def fQ(s:Stmt)(j:Nat):Stmt:=match s with
 |.ClassDef _ _ _ body _ _ _ _ _ _ _=>body.getD j (.Pass ⟨0,0,0,0⟩)
 |_=>.Pass ⟨0,0,0,0⟩
def bP(s:Stmt):Arguments:=match s with
 |.FunctionDef _ a _ _ _ _ _ _ _ _=>a
 |_=>{ posonlyargs:=[],args:=[],vararg:=none,kwonlyargs:=[],kw_defaults:=[],kwarg:=none,defaults:=[] }
def bw(s:Stmt):List Stmt:=match s with
 |.FunctionDef _ _ b _ _ _ _ _ _ _=>b
 |_=>[]
def am(s:Stmt):Scope:=match s with
 |.FunctionDef _ _ _ _ _ _ sc _ _ _=>sc
 |_=>{ kind:=.function,names:=[],isGenerator:=false,isCoroutine:=false }
abbrev CX0:CXT:=fun _ _ _ _ _ _=>False
abbrev E0:XK:=fun _ _ _=>False
theorem vV{X:Cx}:gT CX0 X E0:=fun _ _ _ _ _ _ _ h=>h.elim
structure Fun(K:PySem.W.Frag)(x qual:Str)(st:Stmt)(f:Addr)(fd:FuncData):Prop where
 ex:∃(oc:Value) (od:Option Addr) (kV doc pm:Value) (an:Option Addr) (cdv ct:Value) (osl:Array (Option Value)),
  fd=PySem.W.fnOf x qual (bP st) (bw st) (am st) .none kV doc pm an cdv ct/\K.lookup f=some ⟨oc,od,.func fd,osl⟩/\PySem.W.codeIn K cdv qual=true
 kp:PySem.W.keepIn K (.ref f)=true
section
variable{P:Program}{w:World}{K:PySem.W.Frag}{mg:Str->Option Value}{base:Heap}
theorem Fun.ok{x qual:Str}{st:Stmt}{f:Addr}{fd:FuncData}{N ps:List Str}{k:Nat}{sp:Sp}(F:Fun K x qual st f fd)(S:FnScope N ps (am st))(len:∀ vs H Q E,sp vs H Q E->vs.length=ps.length)(hbody:∀ (cdv:Value) (A:Around) (outer:List Env) (s:Shared) (H:Hp) (vs:List V) (Q:VK) (E:XK),Room k (A.deeper (envOfC qual (am st) s.heap.objs.size f cdv))->sp vs H Q E ->
   ∃ t,PSs (dq CX0 P w K mg base N qual (am st) f cdv A outer s H E).nox (bw st) t/\t { nx:=fun _ H'=>Q .non H',rt:=Q } (start N vs) H):FnOk P w K mg base CX0 (k+1) f fd ps sp:=by
 obtain⟨oc,od,kV,doc,pm,an,cdv,ct,osl,rfl,lk,hcd⟩:=F.ex;refine uY lk hcd S len fun A outer s H vs Q E hr hsp=>?_;obtain⟨t,h,q⟩:=hbody cdv A outer s H vs Q E hr hsp;exact⟨t,h.nox,q⟩
theorem Fun.binds{x qual:Str}{st:Stmt}{f:Addr}{fd:FuncData}{ps:List Str}(F:Fun K x qual st f fd)(h:∀(kV doc pm:Value) (an:Option Addr) (cdv ct:Value) (us:List Value),us.length=ps.length->bindArgs (PySem.W.fnOf x qual (bP st) (bw st) (am st) .none kV doc pm an cdv ct) ⟨us,[]⟩=pure (ps.zip us)):Binds K fd ps []:=by obtain⟨oc,od,kV,doc,pm,an,cdv,ct,osl,rfl,lk,hcd⟩:=F.ex;exact .all (h kV doc pm an cdv ct)
theorem xz{x qual:Str}{st:Stmt}{f:Addr}{oc:Value}{od an:Option Addr}{osl:Array (Option Value)}{kV doc pm cdv ct:Value}(l:K.lookup f=some ⟨oc,od,.func (PySem.W.fnOf x qual (bP st) (bw st) (am st) .none kV doc pm an cdv ct),osl⟩)(c:PySem.W.codeIn K cdv qual=true)(k:PySem.W.keepIn K (.ref f)=true):Fun K x qual st f (PySem.W.fnOf x qual (bP st) (bw st) (am st) .none kV doc pm an cdv ct):=⟨⟨oc,od,kV,doc,pm,an,cdv,ct,osl,rfl,l,c⟩,k⟩
end
theorem dM{n:Nat}(h:n<=1000):n<sizeLine:=x4 h (by decide)
theorem aF{A B:Prop}(h:B):if false=true then A else B:=by rw[HH Zo];exact h
theorem aP{A B:Prop}(h:A):if true=true then A else B:=by rw[HK rfl];exact h
theorem iA{c A B:Prop}[Decidable c](h1:c->A)(h2:¬c->B):if c then A else B:=by
 by_cases h:c
 ·rw[HK h];exact h1 h
 ·rw[HH h];exact h2 h
theorem dU{c A B:Prop}[Decidable c](hc:c)(h:B):if(!decide c)=true then A else B:=by rw[decide_eq_true hc];exact aF h
def Same(H H':Hp):Prop:=∀b o,H b=some o->H' b=some o
theorem Same.refl(H:Hp):Same H H:=fun _ _ h=>h
theorem Same.trans{H H1 H2:Hp}(a:Same H H1)(b:Same H1 H2):Same H H2:=fun c o h=>b c o (a c o h)
theorem Same.free{H H':Hp}(e:Same H H'){l:Addr}(h:H' l=Option.none):H l=Option.none:=by
 cases q:H l with
 |none=>rfl
 |some o =>rw[e l o q]at h;cases h
theorem Same.seq{K:PySem.W.Frag}{H H':Hp}{a:Addr}{xs:List V}(e:Same H H')(h:SqL K H a xs):SqL K H' a xs:=by
 rcases h with(h|⟨o,h⟩)|h
 ·exact .inl (.inl (e _ _ h))
 ·exact .inl (.inr ⟨o,e _ _ h⟩)
 ·exact .inr h
open PySem PySem.Spec PyProof.Rows
open PySem PySem.Spec PyProof.Rows
theorem eM{env:Env}:∀{names:List (Str×NameKind)} {x:Str} {k:NameKind},
  (names.map fun(n,k)=>if(k==NameKind.free&&env.scope.kind == .function&&env.kindOf n==some .cell)then(n,NameKind.cell)else(n,k)).lookup x=some k ->
  ∃k',names.lookup x=some k'/\(k=k'\/(k'=.free/\k=.cell))
 | [],_,_,h=>by simp at h
 |(n,k0)::r,x,k,h=>by
  have ih:=@eM env r x k;rw[ZX]at h;by_cases hc:(k0==NameKind.free&&env.scope.kind == .function&&env.kindOf n==some .cell)=true
  ·have e:(if(k0==NameKind.free&&env.scope.kind == .function&&env.kindOf n==some .cell)=true then(n,NameKind.cell)else(n,k0))=(n,NameKind.cell):=HK hc;simp only[e]at h;cases hx:x==n with
   |true =>
    simp only[ZD,hx]at h ⊢;have hf:k0=.free:=by have:=hc;simp only[Zx,Z2]at this;exact this.1.1
    exact⟨k0,rfl,.inr ⟨hf,(Zw h).symm⟩⟩
   |false =>simp only[ZD,hx]at h ⊢;exact ih h
  ·have e:(if(k0==NameKind.free&&env.scope.kind == .function&&env.kindOf n==some .cell)=true then(n,NameKind.cell)else(n,k0))=(n,k0):=HH hc;simp only[e]at h;cases hx:x==n with
   |true =>simp only[ZD,hx]at h ⊢;exact⟨k0,rfl,.inl (Zw h).symm⟩
   |false =>simp only[ZD,hx]at h ⊢;exact ih h
theorem ge{env:Env}:∀{names:List (Str×NameKind)} {x:Str},names.lookup x=some .free ->
  (names.map fun(n,k)=>if(k==NameKind.free&&env.scope.kind == .function&&env.kindOf n==some .cell)then(n,NameKind.cell)else(n,k)).lookup x=some .cell \/
  (names.map fun(n,k)=>if(k==NameKind.free&&env.scope.kind == .function&&env.kindOf n==some .cell)then(n,NameKind.cell)else(n,k)).lookup x=some .free
 | [],_,h=>by simp at h
 |(n,k0)::r,x,h=>by
  have ih:=@ge env r x;rw[ZX];by_cases hc:(k0==NameKind.free&&env.scope.kind == .function&&env.kindOf n==some .cell)=true
  ·have e:(if(k0==NameKind.free&&env.scope.kind == .function&&env.kindOf n==some .cell)=true then(n,NameKind.cell)else(n,k0))=(n,NameKind.cell):=HK hc;simp only[e];cases hx:x==n with
   |true =>
    simp only[ZD,hx]at h ⊢
    first|exact .inl rfl|exact .inl trivial
   |false =>simp only[ZD,hx]at h ⊢;exact ih h
  ·have e:(if(k0==NameKind.free&&env.scope.kind == .function&&env.kindOf n==some .cell)=true then(n,NameKind.cell)else(n,k0))=(n,k0):=HH hc;simp only[e];cases hx:x==n with
   |true =>simp only[ZD,hx]at h ⊢;exact .inr h
   |false =>simp only[ZD,hx]at h ⊢;exact ih h
def bg(env:Env):List (Str×NameKind)->List (Str×Addr)->List (Str×Addr)
 | [],acc=>acc
 |y::r,acc=>if(y.2==NameKind.free)=true then bg env r ((y.1,(env.cells.lookup y.1).getD 0)::acc)else bg env r acc
theorem ng{env:Env}:∀{names:List (Str×NameKind)} {acc:List (Str×Addr)},(∀y∈names,y.2=.free->∃c,env.cells.lookup y.1=some c) ->
  (forIn names acc fun(x:Str×NameKind) (cs:List (Str×Addr))=>if(x.2==NameKind.free)=true then do let c ←cellOf env x.1;pure (ForInStep.yield ((x.1,c)::cs))else pure (ForInStep.yield cs):Sem (List (Str×Addr)))=pure (bg env names acc)
 | [],_,_=>rfl
 |y::r,acc,h=>by
  rw[List.forIn_cons];by_cases hy:(y.2==NameKind.free)=true
  ·obtain⟨c,hc⟩:=h y Yl (by simpa using hy);have e:cellOf env y.1=pure c:=by unfold cellOf;rw[hc]
   rw[HK hy,e,pure_bind,pure_bind];show(forIn r ((y.1,c)::acc) _:Sem (List (Str×Addr)))=_;rw[ng fun z hz=>h z (ZA _ hz)];show _=pure (if(y.2==NameKind.free)=true then bg env r ((y.1,(env.cells.lookup y.1).getD 0)::acc)else bg env r acc);rw[HK hy,hc];rfl
  ·rw[HH hy,pure_bind];show(forIn r acc _:Sem (List (Str×Addr)))=_;rw[ng fun z hz=>h z (ZA _ hz)];show _=pure (if(y.2==NameKind.free)=true then bg env r ((y.1,(env.cells.lookup y.1).getD 0)::acc)else bg env r acc);rw[HH hy]
theorem tE{scope:Scope}{env:Env}(h:∀y∈scope.names,y.2=.free->∃c,env.cells.lookup y.1=some c):closureFor scope env=pure (bg env scope.names []):=by have q:=ng (env:=env) (names:=scope.names) (acc:=[]) h;unfold closureFor;exact(by first|(simp only[bind_pure];exact q)|(rw[bind_pure];exact q)|exact q)
theorem jJ{env:Env}:∀{names:List (Str×NameKind)} {acc:List (Str×Addr)},(∀y∈names,y.2=.free->∃c,env.cells.lookup y.1=some c)->(∀x c,acc.lookup x=some c->env.cells.lookup x=some c) ->
  ∀x c,(bg env names acc).lookup x=some c->env.cells.lookup x=some c
 | [],_,_,ha=>ha
 |y::r,acc,h,ha=>by
  have hr:∀z∈r,z.2=.free->∃c,env.cells.lookup z.1=some c:=fun z hz=>h z (ZA _ hz);intro x c e;unfold bg at e;by_cases hy:(y.2==NameKind.free)=true
  ·rw[HK hy]at e;refine jJ hr (fun x' c' e'=>?_) x c e;obtain⟨d,hd⟩:=h y Yl (by simpa using hy);rw[hd,Option.getD_some]at e';cases hx:x'==y.1 with
   |true =>simp only[ZD,hx]at e';have e1:x'=y.1:=eq_of_beq hx;rw[e1,hd];exact e'
   |false =>simp only[ZD,hx]at e';exact ha x' c' e'
  ·rw[HH hy]at e;exact jJ hr ha x c e
theorem kH{env:Env}:∀{names:List (Str×NameKind)} {acc:List (Str×Addr)} {x:Str},(∃c,acc.lookup x=some c)->∃c,(bg env names acc).lookup x=some c
 | [],_,_,h=>h
 |y::r,acc,x,h=>by
  unfold bg;by_cases hy:(y.2==NameKind.free)=true
  ·rw[HK hy];refine kH ?_;cases hx:x==y.1 with
   |true=>exact⟨(env.cells.lookup y.1).getD 0,by simp only[ZD,hx]⟩
   |false =>obtain⟨c,e⟩:=h;exact⟨c,by simp only[ZD,hx];exact e⟩
  ·rw[HH hy];exact kH h
theorem jI{env:Env}:∀{names:List (Str×NameKind)} {acc:List (Str×Addr)} {x:Str},names.lookup x=some .free->∃c,(bg env names acc).lookup x=some c
 | [],_,_,h=>by simp at h
 |(n,k)::r,acc,x,h=>by
  unfold bg;cases hx:x==n with
  |true =>
   simp only[ZD,hx]at h;have hy:(k==NameKind.free)=true:=by rw[Zw h];rfl
   rw[HK hy];exact kH ⟨(env.cells.lookup n).getD 0,by simp only[ZD,hx]⟩
  |false =>
   simp only[ZD,hx]at h;by_cases hy:(k==NameKind.free)=true
   ·rw[HK hy];exact jI h
   ·rw[HH hy];exact jI h
abbrev aL(X:Cx)(scope:Scope)(N':List Str)(C:Addr)(s0:Shared)(H0:Hp)(ex:List Addr):Cx where
 prog:=X.prog
 w:=X.w
 K:=X.K
 mg:=X.mg
 base:=X.base
 A:=X.A
 N:=N'
 s₀:=s0
 H₀:=H0
 env:=compEnvC scope (bg X.env scope.names []) C X.env
 outer:=X.stack
 stack:=X.stack
 ex:=ex
 fn:=fun _=>false
 calm:=X.calm
 pn:=[]
 xe:=fun _ _=>False
def CapOk(X:Cx)(sc:Scope):List Nat->List Str->Prop
 | [],[]=>True
 |j::js,x::xs=>X.N[j]?=some x/\sc.names.lookup x=some .free/\CapOk X sc js xs
 |_,_=>False
theorem CapOk.get{X:Cx}{sc:Scope}:∀{js:List Nat} {xs:List Str} {i:Nat} {x:Str},CapOk X sc js xs->xs[i]?=some x ->
  ∃j,js[i]?=some j/\X.N[j]?=some x/\sc.names.lookup x=some .free
 | [],[],_,_,_,e=>by simp at e
 |j::js,y::xs,0,x,h,e=>by
  obtain⟨h1,h2,_⟩:=h;have e':y=x:=by simpa using e
  subst e';exact⟨j,rfl,h1,h2⟩
 |j::js,y::xs,i+1,x,h,e=>by obtain⟨_,_,h6⟩:=h;obtain⟨j',q⟩:=CapOk.get (i:=i) (x:=x) h6 (by simpa using e);exact⟨j',by simpa using q.1,q.2⟩
 | [],_::_,_,_,h,_=>h.elim
 |_::_,[],_,_,h,_=>h.elim
theorem CapOk.len{X:Cx}{sc:Scope}:∀{js:List Nat} {xs:List Str},CapOk X sc js xs->js.length=xs.length
 | [],[],_=>rfl
 |j::js,y::xs,h=>by obtain⟨_,_,h6⟩:=h;simp[CapOk.len h6]
 | [],_::_,h=>h.elim
 |_::_,[],h=>h.elim
structure CompOk(X:Cx)(scope:Scope)(cap:List Nat)(capN:List Str):Prop where
 kind:scope.kind=.function
 names:∀x∈scope.names,x.2=.local->scope.names.lookup x.1=some .local
 nocell:∀y∈scope.names,y.2≠.cell
 frees:(scope.names.all fun y=>!(y.2==NameKind.free) ||(X.env.kindOf y.1==some .cell ||X.env.kindOf y.1==some .free))=true
 cap:CapOk X scope cap capN
section
variable{X:Cx}{scope:Scope}{cap:List Nat}{capN:List Str}
theorem CompOk.around(O:CompOk X scope cap capN){y:Str×NameKind}(hy:y∈scope.names)(hf:y.2=.free):X.env.kindOf y.1=some .cell\/X.env.kindOf y.1=some .free:=by have q:=ZU.mp O.frees y hy;rw[hf]at q;simpa using q
theorem CompOk.cells(O:CompOk X scope cap capN)(ok:X.Ok):∀y∈scope.names,y.2=.free->∃c,X.env.cells.lookup y.1=some c:=fun y hy hf=>ok.has _ (O.around hy hf)
theorem CompOk.clos(O:CompOk X scope cap capN)(ok:X.Ok):closureFor scope X.env=pure (bg X.env scope.names []):=tE (O.cells ok)
theorem CompOk.sub(O:CompOk X scope cap capN)(ok:X.Ok):∀x c,(bg X.env scope.names []).lookup x=some c->X.env.cells.lookup x=some c:=jJ (O.cells ok) fun x c e=>by simp at e
theorem CompOk.has(_O:CompOk X scope cap capN){x:Str}(h:scope.names.lookup x=some .free):∃c,(bg X.env scope.names []).lookup x=some c:=jI h
end
def be(n:Nat)(cap:List Nat)(σ:St):St:=List.replicate n none++cap.map (fun j=>(σ[j]?).join)
theorem lP{n:Nat}{cap:List Nat}{σ:St}:(be n cap σ).length=n+cap.length:=by unfold be;rw[Zj,List.length_replicate,Zd]
theorem fz{n:Nat}{cap:List Nat}{σ:St}{i:Nat}{v:V}(h:(be n cap σ)[i]?=some (some v)):n<=i/\∃j,cap[i-n]?=some j/\σ[j]?=some (some v):=by
 unfold be at h;by_cases hi:i<n
 ·rw[Ys (by simpa using hi),List.getElem?_replicate]at h;rw[HK hi]at h;cases h
 ·have hi':n<=i:=Nat.le_of_not_lt hi;rw[ZY (by simpa using hi'),List.length_replicate,ZB]at h;refine⟨hi',?_⟩;cases e:cap[i-n]? with
  |none=>rw[e]at h;cases h
  |some j =>
   rw[e]at h;refine⟨j,rfl,?_⟩;have h':(σ[j]?).join=some v:=by simpa using h
   cases q:σ[j]? with
   |none=>rw[q]at h';cases h'
   |some o =>rw[q]at h';have:o=some v:=h';rw[this]
section
variable{X:Cx}{pins:List (Addr×Obj)}{σ:St}{H:Hp}{s:Shared}{scope:Scope}{cap:List Nat}{capN N':List Str}{C:Addr}{ex:List Addr}
theorem xg(I:Inv X pins σ H s)(O:CompOk X scope cap capN)(hC:s.heap.objs.size<=C)(hex:∀b∈ex,bh X pins H b/\b<s.heap.objs.size):(aL X scope N' C s H ex).Ok where
 mod:=I.ok.mod
 kind:=O.kind
 glob:=I.ok.glob
 blt:=I.ok.blt
 above:=hC
 inj:=fun x y c h1 h2=>I.ok.inj x y c (O.sub I.ok x c h1) (O.sub I.ok y c h2)
 has:=fun x hx=>by
  have hx':(relabel scope X.env).names.lookup x=some .cell\/(relabel scope X.env).names.lookup x=some .free:=hx;have key:∀k,(relabel scope X.env).names.lookup x=some k->(k=.cell\/k=.free)->scope.names.lookup x=some .free:=fun k e hk=>by
   obtain⟨k',e',q⟩:=eM (env:=X.env) e;rcases q with q|⟨q,_⟩
   ·subst q;rcases hk with z|z
    ·subst z;exact absurd rfl (O.nocell _ (Yt e'))
    ·subst z;exact e'
   ·subst q;exact e'
  rcases hx' with e|e
  ·exact O.has (key _ e (.inl rfl))
  ·exact O.has (key _ e (.inr rfl))
 cab:=fun x c h _=>by cases h
 hd:=I.ok.hd
 frames:=I.ok.frames
 stk:=.inl rfl
 exf:=fun b hb=>by obtain⟨⟨f0,f1,f2,f3,f4,f5⟩,lt⟩:=hex b hb;exact⟨Zt (Zn lt hC),fun x c e=>f4 x c (O.sub I.ok x c e)⟩
 bs:=I.bs
 bsz:=ZQ I.ok.bsz I.sz
 noex:=fun b o e hb=>by
  obtain⟨⟨f0,f1,f2,f3,f4,f5⟩,lt⟩:=hex b hb;rcases f3 with z|z
  ·exact I.ok.noex b o e z
  ·exact absurd (Zn (Zk e) (ZQ I.ok.bsz z)) (Yj _)
 exfs:=fun b hb z=>by
  obtain⟨⟨f0,f1,f2,f3,f4,f5⟩,lt⟩:=hex b hb;rcases Zs.mp (I.stkSub b z)with e|e
  ·exact f1 e
  ·exact f2 e
 funs:=I.stack
 frf:=I.stkFree
theorem pf(I:Inv X pins σ H s){b:Addr}(hb:s.heap.objs.size<=b):b∉frs X.stack:=fun z=>by
 rcases Zs.mp (I.stkSub b z)with e|e
 ·exact absurd (Zn I.lt hb) (by rw[e];exact Yj _)
 ·exact I.nofs hb e
theorem qV(I:Inv X pins σ H s){b:Addr}(hb:s.heap.objs.size<=b):∀x c,X.env.cells.lookup x=some c->c≠b:=fun x c e z=>by obtain⟨v,q⟩:=I.cell x c e;exact absurd (Zn q.lt (by rw[z];exact hb)) (Yj _)
theorem uV{n:Nat}{h1:Heap}{m1:Str->Option Value}{tk:Nat}(I:Inv X pins σ H s)(O:CompOk X scope cap capN)(hN:N'.length=n+capN.length)(hN2:∀i x,n<=i->N'[i]?=some x->capN[i-n]?=some x)(hC:s.heap.objs.size<=C)(hex:∀b∈ex,bh X pins H b/\b<s.heap.objs.size)(hk:∀b o,s.heap.get? b=some o->h1.get? b=some o)(hn:h1.Ns C m1):Inv (aL X scope N' C s H ex) [] (be n cap σ) H { s with heap:=h1,toks:=tk }:=by
 refine⟨xg I O hC hex,rfl,I.bare,Un.kept hk,⟨m1,hn,fun i x v e1 e2 e3=>?_⟩,fun x c e=>?_,I.hok.fresh hC,fun x c e=>I.freeC x c (O.sub I.ok x c e),fun p hp=>absurd (show p∈([]:List (Addr×Obj))from hp) (by simp),I.hok.kept hk,?_⟩
 ·obtain⟨hi,j,ej,es⟩:=fz e2;obtain⟨j',q1,q2,qf⟩:=O.cap.get (hN2 i x hi e1);have q3:=O.around (Yt qf) rfl;have q4:=ge (env:=X.env) qf;obtain⟨c,q5⟩:=O.has qf;have q6:=O.sub I.ok x c q5;rw[q1]at ej;cases ej;obtain⟨m0,hn0,hl0⟩:=I.loc;obtain⟨u,r,l⟩:=hl0 _ x v q2 es (by
   rcases q3 with z|z
   ·exact .inr (.inl z)
   ·exact .inr (.inr z))
  refine⟨u,r,.inr ⟨q4,c,q5,?_⟩⟩;rcases l with⟨k,_⟩|⟨_,c',e',z⟩
  ·rcases q3 with z|z
   ·have z':X.env.kindOf x=some .cell:=z;rw[z']at k;cases k
   ·have z':X.env.kindOf x=some .free:=z;rw[z']at k;cases k
  ·rw[q6]at e';cases e';obtain⟨o,ho,hd⟩:=z;exact⟨o,hk _ _ ho,hd⟩
 ·obtain⟨v,o,ho,hd⟩:=I.cell x c (O.sub I.ok x c e);exact⟨v,o,hk _ _ ho,hd⟩
 ·rw[lP,O.cap.len];exact hN.symm
end
def iV(X:Cx)(ifs:List Expr)(t:TT):Prop :=
 ∀(pins:List (Addr×Obj)) (s:Shared) (σ:St) (H:Hp) (Q:Bool->Hp->Prop),Inv X pins σ H s->t σ H Q ->
  wpAny (model X.prog X.w) X.A (forIn ifs true fun c r=>if r=true then do let ok ←isTrue c X.env (eval c X.env);pure (ForInStep.yield ok)else pure (ForInStep.yield r)) (TP X pins σ Q) X.xe s
def eE:TT:=fun _ H Q=>Q true H
theorem Ax{X:Cx}:iV X [] eE:=fun _ _ _ H _ I h=>wpAny_tests_nil ⟨H,I,h⟩
theorem Ay{X:Cx}{c:Expr}{t:TT}(h:PT X c t):iV X [c] t:=fun pins s σ H Q I hw=>wpAny_tests_one (h pins s σ H Q I hw)
def GK(n:Nat)(g:TG):Prop:=∀x σ H Q,g x σ H Q->g x σ H (fun σ2 H2=>(σ2.length=σ.length/\∀i,n<=i->σ2[i]?=σ[i]?)/\Q σ2 H2)
theorem bz{n i:Nat}(hi:i<n):GK n (bN i):=fun x σ H Q h=>⟨⟨List.length_set,fun j hj=>List.getElem?_set_ne (by omega)⟩,h⟩
def GKs(n:Nat)(g:TGs):Prop:=∀xs σ H Q,g xs σ H Q->g xs σ H (fun σ2 H2=>(σ2.length=σ.length/\∀i,n<=i->σ2[i]?=σ[i]?)/\Q σ2 H2)
theorem tM{n:Nat}:GKs n nA:=fun xs σ H Q h=>⟨h.1,⟨rfl,fun _ _=>rfl⟩,h.2⟩
def GM(g:TG):Prop:=∀x σ H Q Q',(∀σ2 H2,Q σ2 H2->Q' σ2 H2)->g x σ H Q->g x σ H Q'
def GMs(g:TGs):Prop:=∀xs σ H Q Q',(∀σ2 H2,Q σ2 H2->Q' σ2 H2)->g xs σ H Q->g xs σ H Q'
theorem fP{i:Nat}:GM (bN i):=fun _ _ _ _ _ f h=>f _ _ h
theorem jN:GMs nA:=fun _ _ _ _ _ f h=>⟨h.1,f _ _ h.2⟩
theorem qL{t:TG}{u:TGs}(a:GM t)(b:GMs u):GMs (gH t u):=fun xs σ H Q Q' f h=>by obtain⟨v,r,e,h⟩:=h;exact⟨v,r,e,a _ _ _ _ _ (fun σ2 H2 z=>b _ _ _ _ _ f z) h⟩
theorem iw{n:Nat}{t:TG}{u:TGs}(a:GK n t)(m:GM t)(b:GKs n u)(mb:GMs u):GKs n (gH t u):=fun xs σ H Q h=>by obtain⟨v,r,e,h⟩:=h;refine⟨v,r,e,m _ _ _ _ _ (fun σ2 H2 z=>?_) (a _ _ _ _ h)⟩;obtain⟨⟨l1,k1⟩,z⟩:=z;refine mb _ _ _ _ _ (fun σ3 H3 w=>?_) (b _ _ _ _ z);obtain⟨⟨l2,k2⟩,w⟩:=w;exact⟨⟨l2.trans l1,fun i hi=>(k2 i hi).trans (k1 i hi)⟩,w⟩
theorem xC{n m:Nat}{K:PySem.W.Frag}{t:TGs}(a:GKs n t):GK n (nC K m t):=fun x σ H Q h=>by obtain⟨b,xs,e,h1,h2,h3⟩:=h;exact⟨b,xs,e,h1,h2,a _ _ _ _ h3⟩
def bS(n:Nat)(cap:List Nat)(g:TG)(tc:TT)(te:TE)(σ:St)(J:It)(H1:Hp)(Q:VK):Prop :=
 ∃W:Nat->Nat->List V->Hp->Prop,(∃m,W 0 m [] H1)/\∀i m ys H,W i m ys H ->
  (J.stop i H/\∀p,H p=none->Q (.ref p) (upd H p (.lst ys))) \/
  (J.go i H/\ys.length<sizeLine/\∀ x H',J.yld i H x H'->g x (be n cap σ) H' fun σ2 H2=>tc σ2 H2 fun b H3 =>
   if b=true then te σ2 H3 fun y H4=>∃ m',m'<m/\W (i+1) m' (ys++[y]) H4 else ∃ m',m'<m/\W (i+1) m' ys H3)
def kf(n:Nat)(cap:List Nat)(wi:TI)(g:TG)(tc:TT)(te:TE):TE:=fun σ H Q=>wi σ H fun J H1=>bS n cap g tc te σ J H1 Q
theorem dP{prog:Program}{w:World}{A:Around}{R:Result->Shared->Prop}{s:Shared}{elt target iter:Expr}{ifs:List Expr}{scope:Scope}{pos:Pos}{it acc:Value}{env:Env}(I:Nat->Shared->Prop)(turn:∀ n s,I n s->wpAny (model prog w) A (pyNext it) (fun r s₁=>match r with
   |none=>R (.ok .next) s₁
   | some v=>wpAny (model prog w) A (letOwnedTupleGo target it v) (fun _ s₁'=>wpAny (model prog w) A (assign target env v) (fun _ s₂ =>
     wpAny (model prog w) A (forIn ifs true fun c r=>if r=true then do let ok ←isTrue c env (eval c env);pure (ForInStep.yield ok) else pure (ForInStep.yield r)) (fun ok s₃ =>
      if ok=true then wpAny (model prog w) A (eval elt env) (fun x s₄ =>
       wpAny (model prog w) A (call (.builtin "list.append") [acc,x]) (fun _ s₅=>∃ m,m<n/\I m s₅) (fun _ _=>False) s₄) (fun _ _=>False) s₃
      else ∃ m,m<n/\I m s₃) (fun _ _=>False) s₂) (fun _ _=>False) s₁') (fun _ _=>False) s₁) (fun _ _=>False) s)(n:Nat)(h:I n s) :
  codeAny (model prog w) A (.compLoop (.ListComp elt [⟨target,iter,ifs,0⟩] scope pos) 0 it acc env) R s:=by
 refine codeAny_loop rfl I (fun n s hI=>?_) n h;show wpAny _ A ((compTurn (.ListComp elt [⟨target,iter,ifs,0⟩] scope pos) 0 it acc env).onRaise (fun x=>do noteFrame x env;theTreesLotGoes x)) _ _ s;refine wpAny_noted (wpAny_noRaise ?_);rw[compTurn_list];refine z6 (wpAny_standAt (z6 (ZL (turn n s hI) (fun r s₁ h₁=>?_) fun _ _ h'=>h')));cases r with
 |none=>exact Za h₁
 |some v =>
  refine z6 (ZL h₁ (fun _ s₁' h₁'=>?_) fun _ _ h'=>h');refine z6 (ZL h₁' (fun _ s₂ h₂=>z6 (ZL h₂ (fun ok s₃ h₃=>?_) fun _ _ h'=>h')) fun _ _ h'=>h');cases ok with
  |false=>exact Za ⟨rfl,h₃⟩
  |true =>exact z6 (z6 (ZL h₃ (fun x s₄ h₄=>z6 (ZL h₄ (fun _ s₅ h₅=>Za (Za ⟨rfl,h₅⟩)) fun _ _ h'=>h')) fun _ _ h'=>h'))
theorem tZ{own capN:List Str}:∀(i:Nat) (x:Str),own.length<=i->(own++capN)[i]?=some x->capN[i-own.length]?=some x:=fun i x hi e=>by rw[ZY hi]at e;exact e
section
variable{X:Cx}{pins:List (Addr×Obj)}{σ:St}{H2:Hp}{s2:Shared}{scope:Scope}{cap:List Nat}{capN own:List Str}
variable{elt tg iter:Expr}{ifs:List Expr}{pos:Pos}{g:TG}{tc:TT}{te:TE}{Q:VK}
abbrev bK(its:List Value)(nn:Nat):Obj:={ cls:=.type "list",data:=.seq its.toArray nn }
theorem oR{J:It}{fp:List Addr}{it:Addr}{tn:Nat->Heap->Prop}{E:Value->Shared->Prop}{RR:Value->Addr->Result->Shared->Prop}(O:CompOk X scope cap capN)(hc:X.calm=true)(hg:∀C s0 H0 ex,PG (aL X scope (own++capN) C s0 H0 ex) tg g)(gk:GK own.length g)(ht:∀C s0 H0 ex,iV (aL X scope (own++capN) C s0 H0 ex) ifs tc)(he:∀C s0 H0 ex,PE (aL X scope (own++capN) C s0 H0 ex) elt te)(I2:Inv X pins σ H2 s2)(T:Turn X.prog X.w X.K tg J fp it tn)(st2:tn 0 s2.heap)(f2:∀b∈fp,bh X pins H2 b)(hq:bS own.length cap g tc te σ J H2 Q)(fin:∀(D C:Addr) (s4:Shared) (H4:Hp) (ys:List V),Inv X pins σ (upd H4 D (.lst ys)) s4->(∃m,s4.heap.Ns C m)->bh X pins (upd H4 D (.lst ys)) C->Q (.ref D) (upd H4 D (.lst ys))->RR (.ref D) C (.ok .next) s4) :
  wpAny (model X.prog X.w) X.A (newList []) (fun acc s₃=>wpAny (model X.prog X.w) X.A (newFunctionEnv scope X.env.globals (bg X.env scope.names []) [] X.env.qual none .none (some X.env)) (fun cenv s₄ =>
   codeAny (model X.prog X.w) X.A (.compStart (.ListComp elt [⟨tg,iter,ifs,0⟩] scope pos) 0 (.ref it) acc { cenv with scope:=relabel scope X.env }) (RR acc cenv.locals) s₄) E s₃) E s2:=by
 obtain⟨W,⟨m0,w0⟩,turn⟩:=hq;refine ZH (wpAny_newFunctionEnv O.nocell (by intro y hy;simp at hy) (fun h₁ hns₁ hsb₁=>?_) O.kind);dsimp only at hns₁ hsb₁ ⊢;generalize hHp:s2.heap.push { cls:=.type "list",dict:=none,data:=.seq ([]:List Value).toArray }=Hp2 at hns₁ hsb₁ ⊢;have hC:Hp2.objs.size=s2.heap.objs.size+1:=by rw[<-hHp,YA]
 have hDC:s2.heap.objs.size≠Hp2.objs.size:=by rw[hC];exact Zt (Nat.lt_succ_self _)
 have hCle:s2.heap.objs.size<=Hp2.objs.size:=by rw[hC];exact Nat.le_succ _
 have below:∀b,b<s2.heap.objs.size->b≠Hp2.objs.size/\b≠s2.heap.objs.size:=fun b hb=>⟨by rw[hC];exact Zt (Nat.lt_succ_of_lt hb),Zt hb⟩
 have old:∀b o,s2.heap.get? b=some o->h₁.get? b=some o:=fun b o e=>hsb₁.extBut b o (below b (Zk e)).1 (z9 _ (hHp▸z9 _ e));have hacc:h₁.get? s2.heap.objs.size=some (bK [] 0):=hsb₁.extBut _ _ hDC (z9 _ (hHp▸Zh _ rfl));generalize hDe:s2.heap.objs.size=D at *;generalize hCe:Hp2.objs.size=C at *;have hfpl:∀b∈fp,b<s2.heap.objs.size:=fun b hb=>by obtain⟨o,e,_⟩:=T.obj _ _ st2 b hb;exact Zk e
 have hex:∀b∈fp,bh X pins H2 b/\b<s2.heap.objs.size:=fun b hb=>⟨f2 b hb,hfpl b hb⟩
 have hCle':s2.heap.objs.size<=C:=by rw[hDe];exact hCle
 have hDle:s2.heap.objs.size<=D:=by rw[hDe];exact Zb _
 have hDfp:∀b∈fp,D≠b:=fun b hb z=>by have:=hfpl b hb;rw[<-z]at this;exact absurd this (Nat.not_lt.mpr hDle)
 have I0:∀tk,Inv (aL X scope (own++capN) C s2 H2 fp) [] (be own.length cap σ) H2 { s2 with heap:=h₁,toks:=tk }:=fun tk=>uV I2 O (by simp) tZ hCle' hex old hns₁;have Dst:D∉frs X.stack:=pf I2 hDle;have Dcell:∀x c,(aL X scope (own++capN) C s2 H2 fp).env.cells.lookup x=some c->c≠D:=fun x c e=>qV I2 hDle x c (O.sub I2.ok x c e);have pinD:∀{σ':St} {H':Hp} {s':Shared} {its:List Value} {nn:Nat},Inv (aL X scope (own++capN) C s2 H2 fp) [] σ' H' s'->s'.heap.get? D=some (bK its nn)->H' D=none->Inv (aL X scope (own++capN) C s2 H2 fp) [(D,bK its nn)] σ' H' s':=fun{σ' H' s' its nn} I e hn =>
  I.pins_of fun p hp=>by
   have z:p=(D,bK its nn):=by simpa using hp
   subst z;exact⟨e,hn,hDC,Dst,fun v q=>by cases q⟩
 have loop:∀s₃:Shared,s₃={ s2 with heap:=h₁,toks:=s2.toks+([]:List (Str×Value)).length } ->
   codeAny (model X.prog X.w) X.A (.compLoop (.ListComp elt [⟨tg,iter,ifs,0⟩] scope pos) 0 (.ref it) (.ref D) (compEnvC scope (bg X.env scope.names []) C X.env)) (RR (.ref D) C) s₃:=by
  rintro s₃ rfl;refine dP (fun k s'=>∃(i:Nat) (ys:List V) (its:List Value) (nn:Nat) (H':Hp),Inv (aL X scope (own++capN) C s2 H2 fp) [(D,bK its nn)] (be own.length cap σ) H' s'/\tn i s'.heap/\(∀b∈fp,H' b=none)/\Vals ys its/\ys.length<=sizeLine/\W i k ys H') ?_ m0
   ⟨0,[],[],0,H2,pinD (I0 _) hacc (I2.hok.fresh hDle),T.keep _ _ _ st2 (fun b hb o e=>old b o e),fun b hb=>(f2 b hb).1,.nil,ZV _,w0⟩
  rintro k s3 ⟨i,ys,its,nn,H3,I3,st3,fr3,rv,hz,w3⟩;have oD3:s3.heap.get? D=some (bK its nn):=(I3.pin (D,bK its nn) (by simp)).1;have fpY:∀{H':Hp},(∀b∈fp,H' b=none)->∀b∈fp,bh (aL X scope (own++capN) C s2 H2 fp) [(D,bK its nn)] H' b:=fun{H'} hn b hb=>by
   obtain⟨f0,f1,g2,f3,f4,f5⟩:=f2 b hb;refine⟨hn b hb,Zt (Zn (hfpl b hb) hCle'),fun z=>?_,.inl hb,fun x c e=>f4 x c (O.sub I2.ok x c e),fun p hp=>?_⟩
   ·rcases Zs.mp (I2.stkSub b z)with e|e
    ·exact f1 e
    ·exact g2 e
   ·have z:p=(D,bK its nn):=by simpa[aL]using hp
    subst z;exact hDfp b hb
  rcases turn i k ys H3 w3 with⟨stop,qn⟩|⟨go,hlt,step⟩
  ·refine thn (T.done (aL X scope (own++capN) C s2 H2 fp) rfl rfl rfl hc i _ s3 _ H3 _ I3 (fpY fr3) st3 stop) fun r s4 ⟨hr,I4⟩=>?_;subst hr;obtain⟨oD,nD,_⟩:=I4.pin (D,bK its nn) (by simp);have neD:∀{b:Addr} {u:HO},H3 b=some u->b≠D:=fun{b u} e=>aj e nD;have JX:Inv X pins σ (upd H3 D (.lst ys)) s4:=by
    refine I2.call' (ch:=fp) I4.os ⟨I4.base.keep,I4.base.slot,fun b o e nb hx=>?_,I4.base.there,fun b xs e=>?_,fun b o u e=>?_,fun b ps e=>?_⟩ (fun b u e=>?_) I4.bare (fun b hb=>?_)
    ·rw[af (by rw[<-hDe];exact Zt (Zk e))];exact I4.base.free b o e nb hx
    ·have q:=I4.base.tups b xs e;rw[af (neD q)];exact q
    ·have q:=I4.base.frzs b o u e;rw[af (neD q)];exact q
    ·obtain⟨more,q⟩:=I4.base.tbls b ps e;exact⟨more,by rw[af (neD q)];exact q⟩
    ·by_cases hb:b=D
     ·subst hb;rw[ad]at e;cases e;exact⟨hz,its,nn,rv,oD⟩
     ·rw[af hb]at e;exact(I4.hok b u e).stay (fun _ _ _ q=>q) (fun c q=>by rw[af (neD q)];exact q) fun c xs q=>by rw[af (neD q)];exact q
    ·obtain⟨f0,f1,g2,f3,f4,f5⟩:=f2 b hb;exact⟨f3,f1,f4,f5⟩
   obtain⟨m4,hn4,_⟩:=I4.loc;refine fin D C s4 H3 ys JX ⟨m4,hn4⟩ ?_ (qn D nD);refine I2.fpOk (b:=C) hCle' ?_;rw[af (Yk hDC)];exact I4.free
  ·refine thn (T.item (aL X scope (own++capN) C s2 H2 fp) rfl rfl rfl hc i _ s3 _ H3 _ I3 (fpY fr3) st3 go) fun r s4 ⟨u,hr,h4⟩=>?_;subst hr;refine thn h4 fun _ s5 hz9=>?_;obtain⟨x,H5,I5,r5,y5,st5,fr5⟩:=hz9;have I5':=I5.pinned (fpY fr5) (T.obj _ _ st5);refine thn (hg C s2 H2 fp _ s5 _ H5 x u _ I5' r5 (gk _ _ _ _ (step x H5 y5))) fun _ s6 hz9=>?_;obtain⟨σ6,H6,I6,⟨l6,k6⟩,q6⟩:=hz9;refine thn (ht C s2 H2 fp _ s6 σ6 H6 _ I6 q6) fun ok s7 ⟨H7,I7,q7⟩=>?_;have wk:∀{H8:Hp} {s8:Shared} {pl:List (Addr×Obj)},Inv (aL X scope (own++capN) C s2 H2 fp) pl σ6 H8 s8->Inv (aL X scope (own++capN) C s2 H2 fp) pl (be own.length cap σ) H8 s8:=fun I=>I.weak l6.symm fun j v e=>by obtain⟨hj,_⟩:=fz e;rw[k6 j hj];exact e
   have tn8:∀{σ8:St} {H8:Hp} {s8:Shared},Inv (aL X scope (own++capN) C s2 H2 fp) ([(D,bK its nn)]++hO fp s5.heap) σ8 H8 s8->(∀b∈fp,∀o,s5.heap.get? b=some o->s8.heap.get? b=some o)/\∀b∈fp,H8 b=none:=fun{σ8 H8 s8} I=>by refine⟨fun b hb o e=>(I.pin (b,o) (Zv _ (Zv _ (cR hb e)))).1,fun b hb=>?_⟩;obtain⟨o,e,d⟩:=T.obj _ _ st5 b hb;exact(I.pin (b,o) (Zv _ (Zv _ (cR hb e)))).2.1
   cases ok with
   |false =>rw[HH Zo]at q7 ⊢;obtain⟨m',hm,w7⟩:=q7;obtain⟨t1,t2⟩:=tn8 I7;exact⟨m',hm,i+1,ys,its,nn,H7,wk I7.unpinned,T.keep _ _ _ st5 t1,t2,rv,hz,w7⟩
   |true =>
    rw[HK rfl]at q7 ⊢;refine thn (he C s2 H2 fp _ s7 σ6 H7 _ I7 q7) fun y s8 hz9=>?_;obtain⟨yv,H8,I8,r8,m',hm,w8⟩:=hz9;obtain⟨t1,t2⟩:=tn8 I8;obtain⟨oD,nD,_⟩:=I8.pin (D,bK its nn) (by simp);have hil:=rv.length;refine call_meets F.slot_list_append ⟨_,oD,rfl⟩ F.entry_list_append (F.args_list_append_2 _ _) (PySem.list_append D its.toArray nn y (by rw[Zg];omega)) ⟨oD,?_⟩;have q:=PySem.IsL.update oD (fun x_1=>x_1.push y);have hf:its.toArray.push y=(its++[y]).toArray:=by simp
    rw[hf]at q;have keepO:∀b o,b≠D->s8.heap.get? b=some o->(s8.heap.update D (Obj.mapSeq fun x_1=>x_1.push y)).get? b=some o:=fun b o hb e=>(Yp s8.heap (Obj.mapSeq fun x_1=>x_1.push y) (Yk hb)).trans e;have I9:Inv (aL X scope (own++capN) C s2 H2 fp) [] σ6 H8 { s8 with heap:=s8.heap.update D (Obj.mapSeq fun x_1=>x_1.push y),toks:=s8.toks } :=
     (I8.pins_of (pins':=[]) fun p hp=>absurd hp (by simp)).turned (it:=D) keepO nD hDC (.inr hDle) Dcell (fun p hp=>absurd (show p∈([]:List (Addr×Obj))from hp) (by simp))
    refine⟨m',hm,i+1,ys++[yv],its++[y],_,H8,wk (pinD I9 q nD),T.keep _ _ _ st5 (fun b hb o e=>keepO b o (Yk (hDfp b hb)) (t1 b hb o e)),t2,rv.append (.cons r8 .nil),?_,w8⟩;rw[Zj,Zy];omega
 exact codeAny_compStart_list (loop _ rfl) (T.self _ 0 _ _ _ (T.keep _ _ _ st2 (fun b hb o e=>old b o e)) (loop _ rfl))
theorem B9{wi:TI}(O:CompOk X scope cap capN)(hc:X.calm=true)(hi:PI X tg iter wi)(hg:∀C s0 H0 ex,PG (aL X scope (own++capN) C s0 H0 ex) tg g)(gk:GK own.length g)(ht:∀C s0 H0 ex,iV (aL X scope (own++capN) C s0 H0 ex) ifs tc)(he:∀C s0 H0 ex,PE (aL X scope (own++capN) C s0 H0 ex) elt te)(hs:∀x,foldedSetIterable iter X.env x=pure x:=by intro _;rfl):PE X (.ListComp elt [⟨tg,iter,ifs,0⟩] scope pos) (kf own.length cap wi g tc te):=by intro pins s σ H Q I h;rw[eval_ListComp];refine wpAny_comprehension_free (use:=none) rfl hs (O.clos I.ok) O.kind O.names (thn (hi pins s σ H _ I h) fun v s1 h1=>thn h1 fun itv s2 h2=>?_);obtain⟨it,fp,tn,J,H2,e,I2,T,st2,f2,hq⟩:=h2;subst e;refine oR (RR:=fun acc C=>compPost (model X.prog X.w) X.A X.xe none (EP X pins σ Q) acc C) O hc hg gk ht he I2 T st2 f2 hq fun D C s4 H4 ys J4 hn4 fC q4=>?_;obtain⟨m,hn⟩:=hn4;obtain⟨f0,f1,g2,f3,f4,f5⟩:=fC;exact⟨m,hn,fun h' sb=>⟨.ref D,_,J4.turned (t':=s4.toks) (fun b o hb e=>(sb.2 b hb).trans e) f0 f1 f3 f4 f5,rfl,q4⟩⟩
theorem Cm{wi:TI}{j:Nat}{y:Str}{py spos:Pos}(hN0:X.N.Nodup)(hj:X.N[j]?=some y)(hy:Loc X.env.scope y)(O:CompOk X scope cap capN)(hc:X.calm=true)(hi:PI X tg iter wi)(hg:∀C s0 H0 ex,PG (aL X scope (own++capN) C s0 H0 ex) tg g)(gk:GK own.length g)(ht:∀C s0 H0 ex,iV (aL X scope (own++capN) C s0 H0 ex) ifs tc)(he:∀C s0 H0 ex,PE (aL X scope (own++capN) C s0 H0 ex) elt te)(hsw:swapsWith (.ListComp elt [⟨tg,iter,ifs,0⟩] scope pos) (some (.Name y py)) spos.line X.env=pure true:=by rfl)(hs:∀x,foldedSetIterable iter X.env x=pure x:=by intro _;rfl)(hf:X.fn y=true\/X.env.scope.names.lookup y=some .local:=by first|exact .inl rfl|exact .inr rfl|assumption) :
  PS X (.Assign [.Name y py] (.ListComp elt [⟨tg,iter,ifs,0⟩] scope pos) spos) (oE (kf own.length cap wi g tc te) (bN j)):=by
 intro pins s σ H D0 I h;rw[exec_Assign_Name_used _ _ _ _ hsw];refine z6 (wpAny_standAt (z6 ?_));show wpAny _ X.A (do let _ ←comprehension (.ListComp elt [⟨tg,iter,ifs,0⟩] scope pos) scope X.env _ (newList []) false (eval iter X.env) (some (assign (.Name y py) X.env))) _ _ s;refine z6 (ZL (wpAny_comprehension_free (use:=some (assign (.Name y py) X.env)) (Q:=fun _ s'=>SP X pins D0 .next s') rfl hs (O.clos I.ok) O.kind O.names (thn (hi pins s σ H _ I h) fun v s1 h1=>thn h1 fun itv s2 h2=>?_)) (fun _ s' hq=>Za (Za hq)) fun _ _ e=>e);obtain⟨it,fp,tn,J,H2,e,I2,T,st2,f2,hq⟩:=h2;subst e;refine oR (RR:=fun acc C=>compPost (model X.prog X.w) X.A X.xe (some (assign (.Name y py) X.env)) (fun _ s'=>SP X pins D0 .next s') acc C) O hc hg gk ht he I2 T st2 f2 hq fun D C s4 H4 ys J4 hn4 fC q4=>?_;obtain⟨m,hn⟩:=hn4;obtain⟨f0,f1,g2,f3,f4,f5⟩:=fC;show wpAny _ X.A (assign (.Name y py) X.env (.ref D)) _ _ _;refine wpAny_assign_Name (pC J4 hN0 hj hy (v:=.ref D) rfl (fun s5 I5 ⟨a,sba,ha⟩=>?_) hf);have hCa:C≠a:=by
  rcases ha with z|z
  ·rw[z];exact f1
  ·exact Yk (f4 _ _ z)
 refine⟨m,hn.sameBut sba hCa,fun h' sb=>?_⟩;exact⟨_,_,I5.turned (t':=s5.toks) (fun b o hb e=>(sb.2 b hb).trans e) f0 f1 f3 f4 f5,q4⟩
end
open PySem PySem.Spec PyProof.Rows
structure Fn(P:Program)(w:World)(K:PySem.W.Frag)(mg:Str->Option Value)(base:Heap)(k:Nat)(x:Str)(ps:List Str)(sp:Sp):Prop where
 ex:∃f fd,FnOk P w K mg base CX0 k f fd ps sp/\mg x=some (.ref f)/\PySem.W.keepIn K (.ref f)=true/\Binds K fd ps []
section
variable{X:Cx}{k:Nat}{x:Str}{p pos:Pos}{e:Expr}{es:List Expr}{ps:List Str}{sp:Sp}{t:TA}
theorem Ft(F:Fn X.prog X.w X.K X.mg X.base k x ps sp)(hr:Room k X.A)(ha:PA X (e::es) t)(hg:Gl X x:=by rfl)(hdb:(x==("__debug__":Str))=false:=by decide)(he:starEach (e::es) X.env=(false,eval e X.env)::starEach es X.env:=by rfl)(hpl:(backTo pos (starEach es X.env)).any (·.1)=false:=by rfl) :
  PE X (.Call (.Name x p) (e::es) [] pos) (qj sp [] E0 t):=by
 obtain⟨f,fd,G,m,kp,b⟩:=F.ex;exact B7 G hr hg m kp b .nil vV ha hdb he hpl
end
theorem aE:bootBuiltins "isinstance" = some (.builtin "isinstance"):=by decide +kernel
theorem zA:bootBuiltins "max" = some (.builtin "max"):=by decide +kernel
theorem zw:bootBuiltins "int" = some (.type "int"):=by decide +kernel
theorem iW:bootBuiltins "bool" = some (.type "bool"):=by decide +kernel
theorem ci:bootBuiltins "tuple" = some (.type "tuple"):=by decide +kernel
theorem gC:bootBuiltins "list" = some (.type "list"):=by decide +kernel
theorem dG:bootBuiltins "all" = some (.builtin "all"):=by decide +kernel
section
variable{X:Cx}
theorem zC(hc:X.calm=true):cY X (.builtin "all") (fun xs H Q=>∃(p:Addr) (bs:List Bool),xs=[.ref p]/\SqL X.K H p (bs.map V.bl)/\Q (.bl (bs.all id)) H):=by
 intro pins s σ H xs us Q I r h;obtain⟨p,bs,rfl,hq,q⟩:=h;obtain⟨u,rfl,rx⟩:=df r;cases rx;obtain⟨its,rv,pl,hz⟩:=I.list hq;have hl:=pl.isList;have hlt:p<s.heap.objs.size:=by obtain⟨_,e,_⟩:=hl;exact Zk e
 have hh:=I.ok.hd hc;have hlen:bs.length=its.length:=by rw[<-rv.length,Zd]
 refine call_all_walk (wpAny_pyIter_list hl ?_);refine⟨s.heap.objs.size,[s.heap.objs.size,p],[s.heap.objs.size],its.toArray.size,_,_,fun i=>(bs[i]?).getD true,rfl,Walks.list (A:=X.A.in1) hh _ p (Zt hlt) its.toArray,
  ⟨⟨_,Zh _ rfl,rfl,rfl⟩,hl.push _⟩,fun i v s' Q' E' hP hQ=>?_,fun h' tk hk=>?_⟩
 ·have hv:its[i]?=some v:=by simpa using hP
  have hi:i<bs.length:=by rw[hlen];exact(ZF.mp hv).1
  obtain⟨u,hu,ru⟩:=rv.get (i:=i) (x:=.bl bs[i]) (by rw[ZB,Ze hi];rfl);rw[hv]at hu;cases hu;cases ru;have hQ':Q' ((bs[i]?).getD true) s':=hQ;rw[Ze hi]at hQ';exact Ya hQ'
 ·have e:((List.range its.toArray.size).all fun i=>(bs[i]?).getD true)=bs.all id:=by rw[Zg,<-hlen];exact LSm.range_all bs
  rw[e];exact⟨.bl _,H,I.kept (t':=tk) (LSm.kept_iter hk),rfl,q⟩
theorem zD:cY X (.builtin "isinstance") (fun xs H Q=>∃x T t b,xs=[x,.ty T]/\TyOf X.K H x t/\PySem.W.kitOne X.K t (.type T)=some b/\Q (.bl b) H):=by intro pins s σ H xs us Q I r h;obtain⟨x,T,t,b,rfl,ty,e,q⟩:=h;obtain⟨u,w',rfl,rx,ry⟩:=mS r;cases(show w'=Value.type T from ry);exact oY I rx ty e fun tk=>⟨.bl b,H,I.tok tk,rfl,q⟩
end
def isI:V->Bool
 |.int _=>true
 |.bl _=>true
 |_=>false
def isB:V->Bool
 |.bl _=>true
 |_=>false
def dS:V->Bool
 |.int _=>true
 |_=>false
def vk:Option HO->Bool
 |some (.tup _)=>true
 |_=>false
def isT(H:Hp):V->Bool
 |.ref a=>vk (H a)
 |_=>false
theorem bA{H:Hp}{a:Addr}{o:HO}{b:Bool}(e:H a=some o)(h:vk (some o)=b):isT H (.ref a)=b:=by show vk (H a)=b;rw[e];exact h
theorem bv{K:PySem.W.Frag}{t T:String}{b:Bool}(h1:(Value.type t==Value.type T)=b)(h2:b=false->PySem.W.kitMeta T=true/\(PySem.fastBuiltinMro t).map (·.contains (Value.type T))=some false):PySem.W.kitOne K (.type t) (.type T)=some b:=by
 unfold PySem.W.kitOne;rw[h1];cases b with
 |true=>exact HK rfl
 |false =>rw[HH Zo];obtain⟨m,q⟩:=h2 rfl;show(if PySem.W.kitMeta T=true then PySem.W.subIn K (.type t) (.type T)else none)=_;rw[HK m];exact q
theorem aB{K:PySem.W.Frag}{t T:String}{b:Bool}(h1:(Value.type t==Value.type T)=false)(h2:PySem.W.kitMeta T=true)(h3:(PySem.fastBuiltinMro t).map (·.contains (Value.type T))=some b):PySem.W.kitOne K (.type t) (.type T)=some b:=by unfold PySem.W.kitOne;rw[h1,HH Zo];show(if PySem.W.kitMeta T=true then PySem.W.subIn K (.type t) (.type T)else none)=_;rw[HK h2];exact h3
theorem BP{K:PySem.W.Frag}{H:Hp}{v:V}{n:String}(h:TyOf K H v (.type n)):PySem.W.kitOne K (.type n) (.type "int")=some (isI v):=by
 cases h with
 |non=>exact aB (b:=false) (by decide +kernel) (by decide +kernel) (by decide +kernel)
 |bl x=>exact aB (b:=true) (by decide +kernel) (by decide +kernel) (by decide +kernel)
 |int i=>exact bv (b:=true) (by decide +kernel) (fun z=>nomatch z)
 |str x=>exact aB (b:=false) (by decide +kernel) (by decide +kernel) (by decide +kernel)
 |flt x=>exact aB (b:=false) (by decide +kernel) (by decide +kernel) (by decide +kernel)
 |lst e=>exact aB (b:=false) (by decide +kernel) (by decide +kernel) (by decide +kernel)
 |frz e=>exact aB (b:=false) (by decide +kernel) (by decide +kernel) (by decide +kernel)
 |tup e=>exact aB (b:=false) (by decide +kernel) (by decide +kernel) (by decide +kernel)
 |dK e=>exact aB (b:=false) (by decide +kernel) (by decide +kernel) (by decide +kernel)
 |dT e=>exact aB (b:=false) (by decide +kernel) (by decide +kernel) (by decide +kernel)
theorem kM{K:PySem.W.Frag}{H:Hp}{v:V}{n:String}(h:TyOf K H v (.type n)):PySem.W.kitOne K (.type n) (.type "bool")=some (isB v):=by
 cases h with
 |non=>exact aB (b:=false) (by decide +kernel) (by decide +kernel) (by decide +kernel)
 |bl x=>exact bv (b:=true) (by decide +kernel) (fun z=>nomatch z)
 |int i=>exact aB (b:=false) (by decide +kernel) (by decide +kernel) (by decide +kernel)
 |str x=>exact aB (b:=false) (by decide +kernel) (by decide +kernel) (by decide +kernel)
 |flt x=>exact aB (b:=false) (by decide +kernel) (by decide +kernel) (by decide +kernel)
 |lst e=>exact aB (b:=false) (by decide +kernel) (by decide +kernel) (by decide +kernel)
 |frz e=>exact aB (b:=false) (by decide +kernel) (by decide +kernel) (by decide +kernel)
 |tup e=>exact aB (b:=false) (by decide +kernel) (by decide +kernel) (by decide +kernel)
 |dK e=>exact aB (b:=false) (by decide +kernel) (by decide +kernel) (by decide +kernel)
 |dT e=>exact aB (b:=false) (by decide +kernel) (by decide +kernel) (by decide +kernel)
theorem gU{K:PySem.W.Frag}{H:Hp}{v:V}{n:String}(h:TyOf K H v (.type n)):PySem.W.kitOne K (.type n) (.type "tuple")=some (isT H v):=by
 cases h with
 |non=>exact aB (b:=false) (by decide +kernel) (by decide +kernel) (by decide +kernel)
 |bl x=>exact aB (b:=false) (by decide +kernel) (by decide +kernel) (by decide +kernel)
 |int i=>exact aB (b:=false) (by decide +kernel) (by decide +kernel) (by decide +kernel)
 |str x=>exact aB (b:=false) (by decide +kernel) (by decide +kernel) (by decide +kernel)
 |flt x=>exact aB (b:=false) (by decide +kernel) (by decide +kernel) (by decide +kernel)
 |lst e =>rw[bA e (b:=false) rfl];exact aB (b:=false) (by decide +kernel) (by decide +kernel) (by decide +kernel)
 |frz e =>rw[bA e (b:=false) rfl];exact aB (b:=false) (by decide +kernel) (by decide +kernel) (by decide +kernel)
 |tup e =>rw[bA e (b:=true) rfl];exact bv (b:=true) (by decide +kernel) (fun z=>nomatch z)
 |dK e =>rw[bA e (b:=false) rfl];exact aB (b:=false) (by decide +kernel) (by decide +kernel) (by decide +kernel)
 |dT e =>rw[bA e (b:=false) rfl];exact aB (b:=false) (by decide +kernel) (by decide +kernel) (by decide +kernel)
theorem ag{H:Hp}{p:Addr}(h:H p=none)(o:HO):Same H (upd H p o):=fun b u q=>by rw[af (aj q h)];exact q
theorem du{K:PySem.W.Frag}{H H':Hp}{a:Addr}{xs:List V}(e:Same H H')(h:SqT K H a xs):SqT K H' a xs:=by
 rcases h with(h|⟨o,h⟩)|h
 ·exact .inl (.inl (e _ _ h))
 ·exact .inl (.inr ⟨o,e _ _ h⟩)
 ·exact .inr h
theorem bL{K:PySem.W.Frag}{H H':Hp}{v:V}{n:Value}(e:Same H H')(h:TyOf K H v n):TyOf K H' v n:=by
 cases h with
 |non=>exact .non
 |bl x=>exact .bl x
 |int i=>exact .int i
 |str x=>exact .str x
 |flt x=>exact .flt x
 |lst q=>exact .lst (e _ _ q)
 |frz q=>exact .frz (e _ _ q)
 |tup q=>exact .tup (e _ _ q)
 |dK q=>exact .dK (e _ _ q)
 |dT q=>exact .dT (e _ _ q)
 |ins q cl ha hn htk hm=>exact .ins (e _ _ q) cl ha hn htk hm
theorem cK{n:Nat}(h:n<=1000):n<=sizeLine:=YT (dM h)
theorem sz{n:Nat}(h:Nat.ble n 1000=true):n<=sizeLine:=cK (Nat.le_of_ble_eq_true h)
theorem gE{J:It}{N n:Nat}{cap:List Nat}{te:TE}{σ:St}{H0:Hp}{Q:VK}(x0 f:Nat->V)(hz:N<=1000)(hgo:∀i H,i<N->Same H0 H->J.go i H)(hst:∀H,Same H0 H->J.stop N H)(hy:∀i H x H',i<N->Same H0 H->J.yld i H x H'->H'=H/\x=x0 i)(he:∀i H,i<N->Same H0 H->∀R:VK,(∀H',Same H H'->R (f i) H')->te ((be n cap σ).set 0 (some (x0 i))) H R)(hq:∀p H,Same H0 H->H p=none->Q (.ref p) (upd H p (.lst ((List.range N).map f)))):bS n cap (bN 0) eE te σ J H0 Q:=by
 refine⟨fun i m ys H=>m=N-i/\i<=N/\Same H0 H/\ys=(List.range i).map f,⟨N,by simp,ZV _,Same.refl _,rfl⟩,?_⟩;rintro i m ys H ⟨rfl,hi,sm,rfl⟩;by_cases hlt:i<N
 ·refine .inr ⟨hgo i H hlt sm,?_,fun x H' y=>?_⟩
  ·rw[Zd,YI];exact dM (by omega)
  ·obtain⟨e1,e2⟩:=hy i H x H' hlt sm y;subst e1 e2;refine he i H' hlt sm _ fun H4 sm4=>⟨N-(i+1),by omega,rfl,hlt,sm.trans sm4,?_⟩
   rw[List.range_succ,ZE];rfl
 ·have e:i=N:=by omega
  subst e;exact .inl ⟨hst H sm,fun p hp=>hq p H sm hp⟩
theorem xi{K:PySem.W.Frag}{a:Addr}{xs:List V}{n:Nat}{cap:List Nat}{te:TE}{σ:St}{H0:Hp}{Q:VK}(f:Nat->V)(hz:xs.length<=1000)(hl:SqL K H0 a xs)(he:∀i x H,xs[i]?=some x->Same H0 H->∀R:VK,(∀H',Same H H'->R (f i) H')->te ((be n cap σ).set 0 (some x)) H R)(hq:∀p H,Same H0 H->H p=none->Q (.ref p) (upd H p (.lst ((List.range xs.length).map f)))):bS n cap (bN 0) eE te σ (Itl K a) H0 Q:=by
 refine gE (N:=xs.length) (fun i=>(xs[i]?).getD .non) f hz (fun i H hi sm=>⟨xs,xs[i],sm.seq hl,by simp[hi]⟩) (fun H sm=>⟨xs,sm.seq hl,Zb _⟩) (fun i H x H' hi sm y=>⟨y.1,?_⟩) (fun i H hi sm R k=>?_) hq
 ·rw[y.2 xs (sm.seq hl)];rfl
 ·have e:xs[i]?=some xs[i]:=by simp[hi]
  rw[e];exact he i xs[i] H e sm R k
theorem qF{K:PySem.W.Frag}{a:Addr}{xs:List V}{n:Nat}{cap:List Nat}{te:TE}{σ:St}{H0:Hp}{Q:VK}(f:Nat->V)(hz:xs.length<=1000)(hl:SqT K H0 a xs)(he:∀i x H,xs[i]?=some x->Same H0 H->∀R:VK,(∀H',Same H H'->R (f i) H')->te ((be n cap σ).set 0 (some x)) H R)(hq:∀p H,Same H0 H->H p=none->Q (.ref p) (upd H p (.lst ((List.range xs.length).map f)))):bS n cap (bN 0) eE te σ (Itt K a) H0 Q:=by
 refine gE (N:=xs.length) (fun i=>(xs[i]?).getD .non) f hz (fun i H hi sm=>⟨xs,xs[i],du sm hl,by simp[hi]⟩) (fun H sm=>⟨xs,du sm hl,Zb _⟩) (fun i H x H' hi sm y=>⟨y.1,?_⟩) (fun i H hi sm R k=>?_) hq
 ·rw[y.2 xs (du sm hl)];rfl
 ·have e:xs[i]?=some xs[i]:=by simp[hi]
  rw[e];exact he i xs[i] H e sm R k
theorem uU{N n:Nat}{lo:Int}{cap:List Nat}{te:TE}{σ:St}{H0:Hp}{Q:VK}(f:Nat->V)(hz:N<=1000)(he:∀i H,i<N->Same H0 H->∀R:VK,(∀H',Same H H'->R (f i) H')->te ((be n cap σ).set 0 (some (.int (lo+i)))) H R)(hq:∀p H,Same H0 H->H p=none->Q (.ref p) (upd H p (.lst ((List.range N).map f)))):bS n cap (bN 0) eE te σ (Itr lo N) H0 Q :=
 gE (N:=N) (fun i=>.int (lo+i)) f hz (fun _ _ hi _=>hi) (fun _ _=>Zb N) (fun _ _ _ _ _ _ y=>y) he hq
open PySem PySem.Spec PyProof.Rows
def aW:Expr->Bool
 |.Starred _ _=>false
 |_=>true
theorem aZ{e:Expr}{es:List Expr}{env:Env}(h:aW e=true):starEach (e::es) env=(false,eval e env)::starEach es env:=by cases e<;>first|rfl|cases h
theorem bG{env:Env}{pos:Pos}:∀{es:List Expr},es.all aW=true->(backTo pos (starEach es env)).any (·.1)=false
 | [],_=>rfl
 |e::es,h=>by rw[List.all_cons,Zx]at h;rw[aZ h.1];show(false ||(backTo pos (starEach es env)).any (·.1))=false;rw[Bool.false_or];exact bG h.2
section
variable{X:Cx}{x:Str}{p pos:Pos}{e:Expr}{es:List Expr}{te:TE}{t:TA}{id T:String}{r:List V->Hp->VK->Prop}{k:Nat}{ps:List Str}{sp:Sp}
theorem pa(ha:PE X e te)(hr:PA X es t)(hs:aW e=true:=by rfl):PA X (e::es) (fK te t):=B5 ha hr (aZ hs)
theorem pB(hc:cY X (.builtin id) r)(hm:X.mg x=none)(hv:bootBuiltins x=some (.builtin id))(ha:PA X (e::es) t)(hg:Gl X x:=by rfl)(hs:(e::es).all aW=true:=by rfl)(hn:x≠"__name__":=by decide)(hdb:(x==("__debug__":Str))=false:=by decide) :
  PE X (.Call (.Name x p) (e::es) [] pos) (tCB r t):=by
 rw[List.all_cons,Zx]at hs;exact Am hc hg hm hv ha hn hdb (aZ hs.1) (bG hs.2)
theorem pTy(hc:cY X (.type T) r)(hm:X.mg x=none)(hv:bootBuiltins x=some (.type T))(ha:PA X (e::es) t)(hg:Gl X x:=by rfl)(hs:(e::es).all aW=true:=by rfl)(hn:x≠"__name__":=by decide)(hdb:(x==("__debug__":Str))=false:=by decide) :
  PE X (.Call (.Name x p) (e::es) [] pos) (tCB r t):=by
 rw[List.all_cons,Zx]at hs;exact yg hc hg hm hv ha hn hdb (aZ hs.1) (bG hs.2)
theorem pfn(F:Fn X.prog X.w X.K X.mg X.base k x ps sp)(hr:Room k X.A)(ha:PA X (e::es) t)(hg:Gl X x:=by rfl)(hs:(e::es).all aW=true:=by rfl)(hdb:(x==("__debug__":Str))=false:=by decide) :
  PE X (.Call (.Name x p) (e::es) [] pos) (qj sp [] E0 t):=by
 rw[List.all_cons,Zx]at hs;exact Ft F hr ha hg hdb (aZ hs.1) (bG hs.2)
end
open PySem PySem.Spec PyProof.Rows
structure QE(X:Cx)(e:Expr)(t:TE):Prop where
 h:PE X e t
structure QT(X:Cx)(e:Expr)(t:TT):Prop where
 h:PT X e t
structure QW(X:Cx)(e:Expr)(t:TT):Prop where
 h:PW X e t
structure QA(X:Cx)(es:List Expr)(t:TA):Prop where
 h:PA X es t
structure QS(X:Cx)(st:Stmt)(t:TS):Prop where
 h:PS X st t
structure QB(X:Cx)(st:List Stmt)(t:TS):Prop where
 h:PSs X st t
structure QG(X:Cx)(tg:Expr)(g:TG):Prop where
 h:PG X tg g
structure QGs(X:Cx)(ts:List Expr)(g:TGs):Prop where
 h:PGs X ts g
structure QI(X:Cx)(tg iter:Expr)(wi:TI):Prop where
 h:PI X tg iter wi
structure QIf(X:Cx)(ifs:List Expr)(t:TT):Prop where
 h:iV X ifs t
structure QO(X:Cx)(e:Option Expr)(t:TO):Prop where
 h:PO X e t
structure QOp(X:Cx)(f:Value->Value->Sem Value)(r:R2):Prop where
 h:OpR X f r
structure QCall(X:Cx)(f:Value)(r:List V->Hp->VK->Prop):Prop where
 h:cY X f r
structure QIx(X:Cx)(r:R2):Prop where
 h:IxR X r
structure QSl(X:Cx)(r:V->Option Int->Option Int->Hp->VK->Prop):Prop where
 h:SlR X r
structure QSet(X:Cx)(t:qv):Prop where
 h:zo X t
structure QUn(X:Cx)(f:Value->Sem Value)(r:V->Hp->VK->Prop):Prop where
 h:UnR X f r
structure QIp(X:Cx)(op:Operator)(t:TIp):Prop where
 h:PIp X op t
section
variable{X:Cx}{pos p:Pos}{e a b c o:Expr}{es rest:List Expr}{te ta tb tc:TE}{t:TA}{tA tB':TT}{x:Str}
theorem q_v(i:Nat){x:Str}{pos:Pos}(hN:X.N[i]?=some x:=by rfl)(hv:Vis X.env.scope x:=by first|exact Or.inl rfl|exact Or.inr (Or.inl rfl)|exact Or.inr (Or.inr rfl))(hd:(x==("__debug__":Str))=false:=by decide)(hcd:(x==("__classdict__":Str))=false:=by decide):QE X (.Name x pos) (lB i):=⟨DU hN hv hd hcd⟩
theorem al{i:Int}{j:Nat}:QE X (.Constant (.int i) j pos) (tC (.int i)):=⟨DK⟩
theorem cJ{i:Bool}{j:Nat}:QE X (.Constant (.bool i) j pos) (tC (.bl i)):=⟨Fp⟩
theorem fE{j:Nat}:QE X (.Constant .none j pos) (tC .non):=⟨DN⟩
theorem aR{i:Str}{j:Nat}:QE X (.Constant (.str i) j pos) (tC (.str i)):=⟨DQ⟩
theorem fj{T:String}(hm:X.mg x=none)(hv:bootBuiltins x=some (.type T))(hg:Gl X x:=by rfl)(hn:x≠"__name__":=by decide)(hd:(x==("__debug__":Str))=false:=by decide):QE X (.Name x pos) (tC (.ty T)):=⟨B6 hg hm hv rfl hn hd⟩
theorem rg{i:Int}{tk:Tok}(hm:X.mg x=some (.int i tk))(hg:Gl X x:=by rfl)(hd:(x==("__debug__":Str))=false:=by decide):QE X (.Name x pos) (tC (.int i)):=⟨uc hg hm ⟨_,rfl⟩ hd⟩
theorem bt{op:Operator}{r:R2}(ho:QOp X (binaryOp op) r)(ha:QE X a ta)(hb:QE X b tb):QE X (.BinOp a op b pos) (tOp r ta tb):=⟨Fv ho.h ha.h hb.h⟩
theorem bR{op}(h:QE X a ta):QE X (.BoolOp op [a] pos) ta:=⟨DP h.h⟩
theorem bQ(ha:QE X a ta)(hb:QE X (.BoolOp .And (b::rest) pos) tb):QE X (.BoolOp .And (a::b::rest) pos) (Br ta tb):=⟨DI ha.h hb.h⟩
theorem El(ha:QE X a ta)(hb:QE X (.BoolOp .Or (b::rest) pos) tb):QE X (.BoolOp .Or (a::b::rest) pos) (EK ta tb):=⟨Fw ha.h hb.h⟩
theorem Bh(ha:QE X a ta):QE X (.UnaryOp .Not a pos) (Bw ta):=⟨DO ha.h⟩
theorem bO{op:CmpOp}{r:R2}(ho:QOp X (compareOp op) r)(ha:QE X a ta)(hb:QE X b tb)(hm:behindInMarks op b=false:=by first|exact xT _|with_unfolding_all rfl):QE X (.Compare a [op] [b] pos) (tOp r ta tb):=⟨B8 ho.h ha.h hb.h hm⟩
theorem Cr{op op':CmpOp}{r r':R2}(ho:QOp X (compareOp op) r)(ho':QOp X (compareOp op') r')(ha:QE X a ta)(hb:QE X b tb)(hc:QE X c tc)(hm:lastMarks [op,op'] [b,c]=false:=by with_unfolding_all rfl) :
  QE X (.Compare a [op,op'] [b,c] pos) (mM r r' ta tb tc):=⟨Ao ho.h ho'.h ha.h hb.h hc.h hm⟩
theorem FZ(hc:QT X c tA)(ha:QE X a ta)(hb:QE X b tb):QE X (.IfExp c a b pos) (tIf tA ta tb):=⟨Ar hc.h ha.h hb.h⟩
theorem iI(h:QA X es t):QE X (.List es pos) (EH t):=⟨DM h.h⟩
theorem aG{x1}(h:QA X es t):QE X (.Tuple es x1 pos) (AV t):=⟨DS h.h⟩
theorem ax{r:R2}(hr:QIx X r)(ha:QE X a ta)(hb:QE X b tb)(hs:sU b:=by intro _ _;rfl):QE X (.Subscript a b pos) (tOp r ta tb):=⟨Fu hr.h ha.h hb.h hs⟩
theorem rk{r:V->Option Int->Option Int->Hp->VK->Prop}{lo hi:Option Expr}{tl th:TO}{p2:Pos}(hr:QSl X r)(he:QE X e te)(hl:QO X lo tl)(hu:QO X hi th):QE X (.Subscript e (.Slice lo hi none p2) pos) (tSl r te tl th):=⟨At hr.h he.h hl.h hu.h⟩
theorem rh:QO X none uu:=⟨Ci⟩
theorem rj(h:QE X e te):QO X (some e) (By te):=⟨Cj h.h⟩
theorem ah:QA X [] fx:=⟨ye⟩
theorem q_a(ha:QE X e te)(hr:QA X es t)(hs:aW e=true:=by rfl):QA X (e::es) (fK te t):=⟨pa ha.h hr.h hs⟩
theorem q_B{id:String}{r:List V->Hp->VK->Prop}(hc:QCall X (.builtin id) r)(hm:X.mg x=none)(hv:bootBuiltins x=some (.builtin id))(ha:QA X (e::es) t)(hg:Gl X x:=by rfl)(hs:(e::es).all aW=true:=by rfl)(hn:x≠"__name__":=by decide)(hdb:(x==("__debug__":Str))=false:=by decide) :
  QE X (.Call (.Name x p) (e::es) [] pos) (tCB r t):=⟨pB hc.h hm hv ha.h hg hs hn hdb⟩
theorem og{T:String}{r:List V->Hp->VK->Prop}(hc:QCall X (.type T) r)(hm:X.mg x=none)(hv:bootBuiltins x=some (.type T))(ha:QA X (e::es) t)(hg:Gl X x:=by rfl)(hs:(e::es).all aW=true:=by rfl)(hn:x≠"__name__":=by decide)(hdb:(x==("__debug__":Str))=false:=by decide) :
  QE X (.Call (.Name x p) (e::es) [] pos) (tCB r t):=⟨pTy hc.h hm hv ha.h hg hs hn hdb⟩
theorem aO{k:Nat}{ps:List Str}{sp:Sp}(F:Fn X.prog X.w X.K X.mg X.base k x ps sp)(hr:Room k X.A)(ha:QA X (e::es) t)(hg:Gl X x:=by rfl)(hs:(e::es).all aW=true:=by rfl)(hdb:(x==("__debug__":Str))=false:=by decide) :
  QE X (.Call (.Name x p) (e::es) [] pos) (qj sp [] E0 t):=⟨pfn F hr ha.h hg hs hdb⟩
theorem aY{op:CmpOp}{r:R2}(ho:QOp X (compareOp op) r)(ha:QE X a ta)(hb:QE X b tb)(hm:behindInMarks op b=false:=by first|exact xT _|with_unfolding_all rfl):QT X (.Compare a [op] [b] pos) (mO (tOp r ta tb)):=⟨Cp ho.h ha.h hb.h hm⟩
theorem CG{op op':CmpOp}{r r':R2}(ho:QOp X (compareOp op) r)(ho':QOp X (compareOp op') r')(ha:QE X a ta)(hb:QE X b tb)(hc:QE X c tc)(hm:lastMarks [op,op'] [b,c]=false:=by with_unfolding_all rfl) :
  QT X (.Compare a [op,op'] [b,c] pos) (mO (mM r r' ta tb tc)):=⟨AA ho.h ho'.h ha.h hb.h hc.h hm⟩
theorem cw(ha:QT X a tA):QT X (.UnaryOp .Not a pos) (EJ tA):=⟨Ef ha.h⟩
theorem bU(h:QE X e te)(he:∀whole,isTrue e X.env whole=(do let v ←whole;standAt e.pos;holding [v] (truthy v)):=by intro _;rfl):QT X e (tB te):=⟨Eg h.h he⟩
theorem ER(ha:QT X a tA):QW X (.BoolOp .And [a] pos) tA:=⟨Cq ha.h⟩
theorem fL(ha:QT X a tA):QW X (.BoolOp .Or [a] pos) tA:=⟨Ei ha.h⟩
theorem FK(ha:QT X a tA)(hb:QW X (.BoolOp .And (b::rest) pos) tB'):QW X (.BoolOp .And (a::b::rest) pos) (ED tA tB'):=⟨Eh ha.h hb.h⟩
theorem fy(ha:QT X a tA)(hb:QW X (.BoolOp .Or (b::rest) pos) tB'):QW X (.BoolOp .Or (a::b::rest) pos) (tOr tA tB'):=⟨Fz ha.h hb.h⟩
theorem t_w(h:QW X e tA):QT X e tA:=⟨h.h.pt⟩
end
section
variable{X:Cx}{pos:Pos}{tg iter elt:Expr}{ifs:List Expr}{g:TG}{gs:TGs}{tc:TT}{te:TE}{scope:Scope}{cap:List Nat}{capN own:List Str}{wi:TI}
theorem bj{i:Nat}{x:Str}(hN:X.N.Nodup)(hi:X.N[i]?=some x:=by rfl)(hx:Loc X.env.scope x:=by first|exact Or.inl rfl|exact Or.inr rfl)(hf:X.fn x=true\/X.env.scope.names.lookup x=some .local:=by first|exact .inl rfl|exact .inr rfl):QG X (.Name x pos) (bN i):=⟨Cd hN hi hx hf⟩
theorem zU:QGs X [] nA:=⟨Ce⟩
theorem nE{e:Expr}{es:List Expr}(h1:QG X e g)(h2:QGs X es gs)(hs:(assignEach (e::es) X.env).map (·.2)=assign e X.env::(assignEach es X.env).map (·.2):=by rfl):QGs X (e::es) (gH g gs):=⟨Au h1.h h2.h hs⟩
theorem A9{es:List Expr}{k n:Nat}(hc:X.calm=true)(h:QGs X es gs)(hn:(assignEach es X.env).length=n:=by rfl)(hst:(assignEach es X.env).findIdx? (·.1)=none:=by rfl):QG X (.Tuple es k pos) (nC X.K n gs):=⟨DW hc h.h hn hst⟩
theorem A8{o i:Expr}{to ti:TE}{t:qv}(ho:QE X o to)(hi:QE X i ti)(hs:QSet X t)(ha:∀ v,assign (.Subscript o i pos) X.env v=(do
   let ov ←holding [v] (eval o X.env)
   let iv ←holding [v,ov] (eval i X.env)
   standAt pos
   holding [v,ov,iv] (setItem ov iv v)
   release [v,ov,iv] []):=by intro _;rfl):QG X (.Subscript o i pos) (Da to ti t):=⟨DV ho.h hi.h hs.h ha⟩
theorem dR{l:Expr}(hl:QE X l te):QI X tg l (ve X.K te):=⟨Cf hl.h⟩
theorem Bb{l:Expr}(hl:QE X l te):QI X tg l (Df X.K te):=⟨DY hl.h⟩
theorem xF{a:Expr}{ta:TA}{p:Pos}(hm:X.mg "range" = none)(ha:QA X [a] ta)(hg:Gl X "range":=by rfl)(hs:aW a=true:=by rfl):QI X tg (.Call (.Name "range" p) [a] [] pos) (Ba ta):=⟨yi hg hm ha.h (aZ hs)⟩
theorem fh:QIf X [] eE:=⟨Ax⟩
theorem zW{c:Expr}{t:TT}(h:QT X c t):QIf X [c] t:=⟨Ay h.h⟩
theorem bY(O:CompOk X scope cap capN)(hc:X.calm=true)(hi:QI X tg iter wi)(hg:∀C s0 H0 ex,QG (aL X scope (own++capN) C s0 H0 ex) tg g)(gk:GK own.length g)(ht:∀C s0 H0 ex,QIf (aL X scope (own++capN) C s0 H0 ex) ifs tc)(he:∀C s0 H0 ex,QE (aL X scope (own++capN) C s0 H0 ex) elt te)(hs:∀x,foldedSetIterable iter X.env x=pure x:=by intro _;rfl):QE X (.ListComp elt [⟨tg,iter,ifs,0⟩] scope pos) (kf own.length cap wi g tc te) :=
 ⟨B9 O hc hi.h (fun C s0 H0 ex=>(hg C s0 H0 ex).h) gk (fun C s0 H0 ex=>(ht C s0 H0 ex).h) (fun C s0 H0 ex=>(he C s0 H0 ex).h) hs⟩
variable{st:Stmt}{rest:List Stmt}{t u:TS}{e c:Expr}
theorem b_0:QB X [] wH:=⟨Cn⟩
theorem b_1(h:QS X st t):QB X [st] t:=⟨Co h.h⟩
theorem b_c(h1:QS X st t)(h2:QB X rest u):QB X (st::rest) (AU t u):=⟨Az h1.h h2.h⟩
theorem au(h:QE X e te):QS X (.Return (some e) pos) (EL te):=⟨Ed h.h⟩
theorem rA(h:QE X e te)(hs:swapsWith e none pos.line X.env=pure false:=by rfl):QS X (.Expr e pos) (wF te):=⟨Cl h.h hs⟩
theorem bo{body els:List Stmt}(hc:QT X c tc)(ht:QB X body t)(hu:QB X els u):QS X (.If c body els pos) (AT tc t u):=⟨Fy hc.h ht.h hu.h⟩
theorem aH{i:Nat}{x:Str}{pos':Pos}(hN:X.N.Nodup)(he:QE X e te)(hi:X.N[i]?=some x:=by rfl)(hx:Loc X.env.scope x:=by first|exact Or.inl rfl|exact Or.inr rfl)(hs:swapsWith e (some (.Name x pos')) pos.line X.env=pure false:=by rfl)(hf:X.fn x=true\/X.env.scope.names.lookup x=some .local:=by first|exact .inl rfl|exact .inr rfl):QS X (.Assign [.Name x pos'] e pos) (oE te (bN i)):=⟨Ee hN hi hx he.h hs hf⟩
theorem Ey{j:Nat}{y:Str}{py spos:Pos}(hN0:X.N.Nodup)(O:CompOk X scope cap capN)(hc:X.calm=true)(hi:QI X tg iter wi)(hg:∀C s0 H0 ex,QG (aL X scope (own++capN) C s0 H0 ex) tg g)(gk:GK own.length g)(ht:∀C s0 H0 ex,QIf (aL X scope (own++capN) C s0 H0 ex) ifs tc)(he:∀C s0 H0 ex,QE (aL X scope (own++capN) C s0 H0 ex) elt te)(hj:X.N[j]?=some y:=by rfl)(hy:Loc X.env.scope y:=by first|exact Or.inl rfl|exact Or.inr rfl)(hsw:swapsWith (.ListComp elt [⟨tg,iter,ifs,0⟩] scope pos) (some (.Name y py)) spos.line X.env=pure true:=by rfl)(hs:∀x,foldedSetIterable iter X.env x=pure x:=by intro _;rfl)(hf:X.fn y=true\/X.env.scope.names.lookup y=some .local:=by first|exact .inl rfl|exact .inr rfl) :
  QS X (.Assign [.Name y py] (.ListComp elt [⟨tg,iter,ifs,0⟩] scope pos) spos) (oE (kf own.length cap wi g tc te) (bN j)) :=
 ⟨Cm hN0 hj hy O hc hi.h (fun C s0 H0 ex=>(hg C s0 H0 ex).h) gk (fun C s0 H0 ex=>(ht C s0 H0 ex).h) (fun C s0 H0 ex=>(he C s0 H0 ex).h) hsw hs hf⟩
theorem Bo(he:QE X e te)(hg:QG X tg g)(hs:swapsWithSole [tg] e pos.line X.env=pure false:=by rfl)(hw:swappedStores [tg] e X.env=pure none:=by rfl)(h1:(assignEach [tg] X.env).map (·.2)=[assign tg X.env]:=by rfl):QS X (.Assign [tg] e pos) (oE te g):=⟨Ea he.h hg.h hs hw h1⟩
theorem mE{body:List Stmt}(hp:PassesOwn (model X.prog X.w) X.A X.env X.xe)(hc:X.calm=true)(hi:QI X tg iter wi)(hg:QG X tg g)(hb:QB X body t)(hs:∀x,foldedSetIterable iter X.env x=pure x:=by intro _;rfl):QS X (.For tg iter body [] pos) (EG wi g t):=⟨Ec hp hc hi.h hg.h hb.h hs⟩
end
theorem Fun.okQ{P:Program}{w:World}{K:PySem.W.Frag}{mg:Str->Option Value}{base:Heap}{x qual:Str}{st:Stmt}{f:Addr}{fd:FuncData}{N ps:List Str}{k:Nat}{sp:Sp}(F:Fun K x qual st f fd)(S:FnScope N ps (am st))(len:∀ vs H Q E,sp vs H Q E->vs.length=ps.length)(hbody:∀ (cdv:Value) (A:Around) (outer:List Env) (s:Shared) (H:Hp) (vs:List V) (Q:VK) (E:XK),Room k (A.deeper (envOfC qual (am st) s.heap.objs.size f cdv))->sp vs H Q E ->
   ∃ t,QB (dq CX0 P w K mg base N qual (am st) f cdv A outer s H E).nox (bw st) t/\t { nx:=fun _ H'=>Q .non H',rt:=Q } (start N vs) H):FnOk P w K mg base CX0 (k+1) f fd ps sp :=
 F.ok S len fun cdv A outer s H vs Q E hr hsp=>let⟨t,h,q⟩:=hbody cdv A outer s H vs Q E hr hsp;⟨t,h.h,q⟩
section
variable{X:Cx}
theorem jV:QOp X (binaryOp .Add) (rI0 fun i j=>.int (i+j)):=⟨DB⟩
theorem vH:QOp X (binaryOp .Sub) (rI0 fun i j=>.int (i-j)):=⟨DH⟩
theorem Fg:QOp X (binaryOp .Mult) (rI CMul fun i j=>.int (i*j)):=⟨DG⟩
theorem jl:QOp X (binaryOp .FloorDiv) (rI CQ fun i j=>.int (i / j)):=⟨B1⟩
theorem eV:QOp X (binaryOp .Mod) (rI (fun _ j=>0<j) fun i j=>.int (i%j)):=⟨DF⟩
theorem Bf:QOp X (binaryOp .Add) Em:=⟨DC⟩
theorem dW:QOp X (compareOp .Eq) rEq:=⟨Fh⟩
theorem jm:QOp X (compareOp .NotEq) rNe:=⟨Fo⟩
theorem vG:QOp X (compareOp .Lt) (rI0 fun i j=>.bl (decide (i<j))):=⟨Fm⟩
theorem nR:QOp X (compareOp .LtE) (rI0 fun i j=>.bl (decide (i<=j))):=⟨Fk⟩
theorem Dw:QOp X (compareOp .Gt) (rI0 fun i j=>.bl (decide (j<i))):=⟨Fj⟩
theorem Ag:QOp X (compareOp .GtE) (rI0 fun i j=>.bl (decide (j<=i))):=⟨Fi⟩
theorem vF:QOp X (compareOp .Is) (fun x y H Q=>y=.non/\Q (.bl (decide (x=.non))) H):=⟨DE⟩
theorem jE:QIx X (Ep X.K):=⟨BN⟩
theorem aw:QIx X (vY X.K):=⟨Dj⟩
theorem Dq:QSl X (Et X.K):=⟨Cz⟩
theorem Bq:QSet X Bk:=⟨AQ⟩
theorem cP:QCall X (.builtin "len") (fun xs H Q=>∃p ys,xs=[.ref p]/\(SqL X.K H p ys\/SqT X.K H p ys)/\Q (.int ys.length) H):=⟨qA⟩
theorem dO:QCall X (.builtin "isinstance") (fun xs H Q=>∃x T t b,xs=[x,.ty T]/\TyOf X.K H x t/\PySem.W.kitOne X.K t (.type T)=some b/\Q (.bl b) H):=⟨zD⟩
theorem jH(hc:X.calm=true):QCall X (.builtin "all") (fun xs H Q=>∃(p:Addr) (bs:List Bool),xs=[.ref p]/\SqL X.K H p (bs.map V.bl)/\Q (.bl (bs.all id)) H):=⟨zC hc⟩
theorem E3(hc:X.calm=true):QCall X (.builtin "max") (fun xs H Q=>∃i j,xs=[.int i,.int j]/\Q (.int (if j>i then j else i)) H):=⟨xb hc⟩
theorem A7:QCall X (.type "tuple") (fun xs H Q=>∃p ys,xs=[.ref p]/\((SqL X.K H p ys/\∀l,H l=none->Q (.ref l) (upd H l (.tup ys)))\/(SqT X.K H p ys/\Q (.ref p) H))):=⟨pL⟩
theorem xa:QCall X (.type "list") (fun xs H Q=>∃p ys,xs=[.ref p]/\(SqL X.K H p ys\/SqT X.K H p ys)/\∀l,H l=none->Q (.ref l) (upd H l (.lst ys))):=⟨qB⟩
end
open PySem PySem.Spec PyProof.Rows
mutual
def Dt(H:Hp):PyData->V->Prop
 |.none,v=>v=.non
 |.bool b,v=>v=.bl b
 |.int i,v=>v=.int i
 |.str x,v=>v=.str x
 |.list ds,v=>∃a xs,v=.ref a/\Rd H a (.lst xs)/\DtAll H ds xs
 |.tuple ds,v=>∃a xs,v=.ref a/\Rd H a (.tup xs)/\DtAll H ds xs
 |.dict _,_=>False
def DtAll(H:Hp):List PyData->List V->Prop
 | [],xs=>xs=[]
 |d::ds,xs=>∃y ys,xs=y::ys/\Dt H d y/\DtAll H ds ys
end
section
variable{P:Program}{w:World}{H:Hp}{h:Heap}
mutual
theorem Dt.reads(ok:HOk P w H h):∀(d:PyData) (x:V) (v:Value),Dt H d x->RelV x v->∃as,Reads h v d as
 |.none,x,v,e,r=>by
  have e':x=.non:=by simpa only[Dt]using e
  subst e';cases r;exact⟨_,.none⟩
 |.bool b,x,v,e,r=>by
  have e':x=.bl b:=by simpa only[Dt]using e
  subst e';cases r;exact⟨_,.bool b⟩
 |.int i,x,v,e,r=>by
  have e':x=.int i:=by simpa only[Dt]using e
  subst e';obtain⟨t,rfl⟩:=r;exact⟨_,.int i t⟩
 |.str z,x,v,e,r=>by
  have e':x=.str z:=by simpa only[Dt]using e
  subst e';obtain⟨t,rfl⟩:=r;exact⟨_,.str z t⟩
 |.list ds,x,v,e,r=>by
  have e':∃a xs,x=.ref a/\Rd H a (.lst xs)/\DtAll H ds xs:=by simpa only[Dt]using e
  obtain⟨a,xs,rfl,hr,hd⟩:=e';cases r;obtain⟨_,its,n,rv,eo⟩:=hr.ok ok;obtain⟨as,q⟩:=DtAll.reads ok ds xs its hd rv;exact⟨_,.list eo rfl rfl (by simpa using q)⟩
 |.tuple ds,x,v,e,r=>by
  have e':∃a xs,x=.ref a/\Rd H a (.tup xs)/\DtAll H ds xs:=by simpa only[Dt]using e
  obtain⟨a,xs,rfl,hr,hd⟩:=e';cases r;obtain⟨_,its,rv,o,eo,hc,n,hs⟩:=hr.ok ok;obtain⟨as,q⟩:=DtAll.reads ok ds xs its hd rv;exact⟨_,.tuple eo hc hs (by simpa using q)⟩
 |.dict kvs,x,v,e,r=>by
  have e':False:=by simpa only[Dt]using e
  exact e'.elim
theorem DtAll.reads(ok:HOk P w H h):∀(ds:List PyData) (xs:List V) (vs:List Value),DtAll H ds xs->Vals xs vs->∃as,ReadsAll h vs ds as
 | [],xs,vs,e,r=>by
  have e':xs=[]:=by simpa only[DtAll]using e
  subst e';cases r;exact⟨_,.nil⟩
 |d::ds,xs,vs,e,r=>by
  have e':∃y ys,xs=y::ys/\Dt H d y/\DtAll H ds ys:=by simpa only[DtAll]using e
  obtain⟨y,ys,rfl,h1,h2⟩:=e';cases r with
  |cons r1 r2 =>obtain⟨as,q1⟩:=Dt.reads ok d y _ h1 r1;obtain⟨bs,q2⟩:=DtAll.reads ok ds ys _ h2 r2;exact⟨_,.cons q1 q2⟩
end
end
theorem fO{H:Hp}:∀(ns:List Int),DtAll H (ns.map PyData.int) (ns.map V.int)
 | []=>by simp only[List.map_nil,DtAll]
 |n::ns=>by simp only[ZX,DtAll];exact⟨_,_,rfl,by simp only[Dt],fO ns⟩
section
variable{X:Cx}
def En:R2:=fun x y H Q=>∃dx dy,Dt H dx x/\Dt H dy y/\SeqAt.shaped dx=true/\SeqAt.shaped dy=true/\Q (.bl (PyData.eqv dx dy)) H
def Es:R2:=fun x y H Q=>∃dx dy,Dt H dx x/\Dt H dy y/\SeqAt.shaped dx=true/\SeqAt.shaped dy=true/\Q (.bl (!PyData.eqv dx dy)) H
theorem DD(hu:X.A.units+64<cLine):OpR X (compareOp .Eq) En:=by intro pins s σ H x y v u Q I rx ry h;obtain⟨dx,dy,h1,h2,s1,s2,q⟩:=h;obtain⟨as,r1⟩:=Dt.reads I.hok dx x v h1 rx;obtain⟨bs,r2⟩:=Dt.reads I.hok dy y u h2 ry;exact eq_dataH r1 r2 s1 s2 hu ⟨.bl _,H,I,rfl,q⟩
theorem yc(hu:X.A.units+64<cLine):OpR X (compareOp .NotEq) Es:=by intro pins s σ H x y v u Q I rx ry h;obtain⟨dx,dy,h1,h2,s1,s2,q⟩:=h;obtain⟨as,r1⟩:=Dt.reads I.hok dx x v h1 rx;obtain⟨bs,r2⟩:=Dt.reads I.hok dy y u h2 ry;exact ne_dataH r1 r2 s1 s2 hu ⟨.bl _,H,I,rfl,q⟩
theorem vE(hu:X.A.units+64<cLine):QOp X (compareOp .Eq) En:=⟨DD hu⟩
theorem ml(hu:X.A.units+64<cLine):QOp X (compareOp .NotEq) Es:=⟨yc hu⟩
end
section
variable{X:Cx}
variable{o e:Expr}{to te:TE}{apos cpos:Pos}
theorem vX(ho:QE X o to)(he:QE X e te)(hs:aW e=true:=by rfl)(hbase:attributeBase o "append" X.env (eval o X.env)=eval o X.env:=by rfl)(hline:(apos.endLine==cpos.line)=true:=by rfl) :
  QE X (.Call (.Attribute o "append" apos) [e] [] cpos) (tBM X.K "list" oh to (fK te fx)):=by
 have h1:=aZ (es:=[]) (env:=X.env) hs;have h2:starEach ([]:List Expr) X.env=[]:=rfl;refine⟨Fs PySem.F.plainAttrs_list PySem.F.slot_list_append PySem.F.type_list_append xS ho.h (pa he.h ye hs) hbase ?_ hline h1 (by rw[h2];rfl)⟩;rw[h1,h2];rfl
end
open PySem PySem.Spec PyProof.Rows
theorem zX{i j:Int}{A B:Prop}(h1:i=j->A)(h2:i≠j->B):if decide (V.int i=V.int j)=true then A else B:=by
 by_cases h:i=j
 ·rw[HK (decide_eq_true (by rw[h]))];exact h1 h
 ·rw[HH (by rw[decide_eq_false (fun z=>h (by injection z))];exact Zo)];exact h2 h
theorem pZ{i j:Int}{A B:Prop}(h1:i≠j->A)(h2:i=j->B):if(!decide (V.int i=V.int j))=true then A else B:=by
 by_cases h:i=j
 ·rw[HH (by rw[decide_eq_true (by rw[h])];decide)];exact h2 h
 ·rw[HK (by rw[decide_eq_false (fun z=>h (by injection z))];rfl)];exact h1 h
theorem iP{H H':Hp}{p:Addr}{o:HO}(e:Same H H')(h:H p=none):Same H (upd H' p o):=fun b u q=>by rw[af (aj q h)];exact e _ _ q
theorem nG{H:Hp}{v:V}(h:isT H v=true):∃a xs,v=.ref a/\H a=some (.tup xs):=by
 cases v with
 |ref a =>
  have h':vk (H a)=true:=h;cases e:H a with
  |none=>rw[e]at h';cases h'
  |some o =>
   cases o with
   |tup xs=>exact⟨a,xs,rfl,e⟩
   |_=>rw[e]at h';cases h'
 |_=>cases h
theorem lH(f:V->Bool)(xs:List V):(((List.range xs.length).map fun i=>f ((xs[i]?).getD .non)).all id)=xs.all f:=by
 rw[List.all_map];have e:((List.range xs.length).all (id∘fun i=>f ((xs[i]?).getD .non)))=xs.all f:=by
  rw[YJ,ZU,ZU];constructor
  ·intro h x hx;obtain⟨i,hi,rfl⟩:=List.getElem_of_mem hx;have:=h i (Ye.mpr hi);simpa[hi]using this
  ·intro h i hi;have hi':=Ye.mp hi;have:=h _ (ZI hi');simpa[hi']using this
 exact e
def ai(ns:List Int)(k:Nat):Int:=(ns[k]?).getD 0
theorem cF{ns:List Int}{k:Int}(h0:0<=k)(h1:k<ns.length):atI (ns.map V.int) k=some (.int (ai ns k.toNat)):=by
 have hk:k.toNat<ns.length:=by omega
 have ek:k=((k.toNat:Nat):Int):=by omega
 have q:atI (ns.map V.int) ((k.toNat:Nat):Int)=some (.int ns[k.toNat]):=fN (by rw[ZB,Ze hk]<;>rfl);rw[<-ek]at q;rw[q];unfold ai;rw[Ze hk];rfl
theorem zE{ns:List Int}{k:Int}(h0:0<=k)(h1:¬k<ns.length):ai ns k.toNat=0:=by unfold ai;rw[List.getElem?_eq_none (by omega)];rfl
def Asked(K:PySem.W.Frag)(H:Hp)(v:V):Prop :=
 (∃n,TyOf K H v (.type n))/\∀a xs,v=.ref a->H a=some (.tup xs)->xs.length<=1000/\∀x∈xs,∃m,TyOf K H x (.type m)
theorem Asked.same{K:PySem.W.Frag}{H H':Hp}{v:V}(h:Asked K H v)(e:Same H H'):Asked K H' v:=by
 obtain⟨⟨n,ty⟩,h2⟩:=h;refine⟨⟨n,bL e ty⟩,fun a xs hv hx=>?_⟩;subst hv;have q:H a=some (.tup xs):=by
  cases ty with
  |lst q=>rw[e _ _ q]at hx;cases hx
  |frz q=>rw[e _ _ q]at hx;cases hx
  |tup q=>rw[e _ _ q]at hx;cases hx;exact q
  |dK q=>rw[e _ _ q]at hx;cases hx
  |dT q=>rw[e _ _ q]at hx;cases hx
 obtain⟨l,k⟩:=h2 a xs rfl q;exact⟨l,fun x hm=>let⟨m,t⟩:=k x hm;⟨m,bL e t⟩⟩
theorem oH{K:PySem.W.Frag}{H:Hp}{a:Addr}{xs:List V}(h:H a=some (.tup xs))(hl:xs.length<=1000)(hx:∀ x∈xs,∃ m,TyOf K H x (.type m)):Asked K H (.ref a):=⟨⟨_,.tup h⟩,fun b ys e z=>by
 cases e;rw[h]at z;cases z;exact⟨hl,hx⟩⟩
open PySem PySem.Spec PyProof.Rows
section
variable{prog:Program}{w:World}{A:Around}
theorem eU(calm:A.handled=none)(it t:Addr)(apart:t≠it)(xs:Array Value) :
  Draws prog w A it [it,t] xs.size (fun i v=>xs[i]?=some v) (fun i h=>h.IsTupleIter it t i/\h.IsTuple t xs) where
 live:=fun _ _ q=>let⟨o,eo,_⟩:=q.1;⟨o,eo⟩
 frame:=fun _ _ _ q kp=>⟨let⟨o,eo,r⟩:=q.1;⟨o,kp it (by simp) o eo,r⟩,let⟨o,eo,r⟩:=q.2;⟨o,kp t (by simp) o eo,r⟩⟩
 item:=fun i s Q E lt q cont=>by
  have ei:xs[i]?=some xs[i]:=by simp[lt]
  obtain⟨o,eo,ec,ed⟩:=id q.1;obtain⟨p,ep,_,np,edp⟩:=id q.2;have ty:=q.1.typeIs;unfold Builtin.SmallTypes.nextOf;refine z6 (ZM (name:=Str.ofString "__next__") ty F.slot_tuple_iterator_next (ZR F.slot_tuple_iterator_next ty F.entry_tuple_iterator_next ?_ (F.args_tuple_iterator_next_1 _)));show wpAny _ _ (field (.ref it) 0 >>= _) _ _ s;refine z6 (ZW eo ed (x:=.ref t) rfl ?_);show wpAny _ _ (if(Value.ref t==Value.none)=true then _ else _) _ _ s;rw[HH (show¬((Value.ref t==Value.none)=true)from Zo)];show wpAny _ _ (field (.ref it) 1 >>= _) _ _ s;refine z6 (ZW eo ed (x:=.int i 0) rfl ?_);show wpAny _ _ (seqItems? (.ref t) >>= _) _ _ s;refine z6 (YQ ep edp ?_);simp only[ZP,ei];have sb:=ZJ s.heap it (fun ob=>ob.mapFields fun fs=>fs.setIfInBounds 1 (rawInt (i+1)));refine z6 (YB eo ed (by simp) (Za ⟨xs[i],rfl,Za (cont _ _ s.toks ei ⟨?_,?_⟩ (ZJ ..))⟩))
  ·exact⟨_,Yx _ eo (YR (Yc ed _)),(Obj.cls_mapFields ..).trans ec,by rw[Yc ed];simp[rawInt]⟩
  ·exact q.2.extBut (ZJ ..).extBut apart
 done:=fun s Q E q cont=>by
  have ei:xs[xs.size]?=none:=by simp
  obtain⟨o,eo,ec,ed⟩:=id q.1;obtain⟨p,ep,_,np,edp⟩:=id q.2;have ty:=q.1.typeIs;unfold Builtin.SmallTypes.nextOf;refine z6 (ZM (name:=Str.ofString "__next__") ty F.slot_tuple_iterator_next (ZR F.slot_tuple_iterator_next ty F.entry_tuple_iterator_next ?_ (F.args_tuple_iterator_next_1 _)));show wpAny _ _ (field (.ref it) 0 >>= _) _ _ s;refine z6 (ZW eo ed (x:=.ref t) rfl ?_);show wpAny _ _ (if(Value.ref t==Value.none)=true then _ else _) _ _ s;rw[HH (show¬((Value.ref t==Value.none)=true)from Zo)];show wpAny _ _ (field (.ref it) 1 >>= _) _ _ s;refine z6 (ZW eo ed (x:=.int xs.size 0) rfl ?_);show wpAny _ _ (seqItems? (.ref t) >>= _) _ _ s;refine z6 (YQ ep edp ?_);simp only[ZP,ei];refine z6 (YL (z6 (YB eo ed (by simp) ?_)));show wpAny _ _ (newExc (.type "StopIteration") [] >>= _) _ _ _;refine z6 ?_;simp only[newExc,newTuple];refine z6 (ZH ?_ (by size_fits));refine z6 (m:=firstArgMember _ _) (wpAny_of_eq (a:=Value.none) (by first|rfl|(simp only[firstArgMember];rfl)) (ZH ?_ (by size_fits)));simp only[raiseNew];refine z6 (wpAny_handled ?_)
  first|rw[show A.in1.handled=none from calm]|rw[calm]
  exact z6 (Za (wpAny_throw (cont _ _ (((ZJ ..).extBut.push _).push _) ⟨_,Zh _ rfl,rfl⟩)))
end
structure ZAp(z u v i j:Addr)(f g:List Addr):Prop where
 uz:u≠z
 vz:v≠z
 uv:u≠v
 ui:u≠i
 uj:u≠j
 vi:v≠i
 vj:v≠j
 iz:i≠z
 jz:j≠z
 ij:i≠j
 zf:z∉f
 zg:z∉g
 vf:v∉f
 vg:v∉g
 jf:j∉f
 ig:i∉g
section
variable{prog:Program}{w:World}{A:Around}{E:Value->Shared->Prop}{s:Shared}{z u v i j:Addr}{f g:List Addr}{n m k:Nat}{P1 P2:Nat->Value->Prop}{S1 S2:Nat->Heap->Prop}{a b:Value}
def uI(z v i j:Addr)(h h':Heap):Prop:=∀c o,c≠z->c≠v->c≠i->c≠j->h.get? c=some o->h'.get? c=some o
theorem cH{c:Addr}{f:List Addr}{d:Addr}(hc:c∈f)(hd:d∉f):c≠d:=fun e=>hd (e▸hc)
theorem A0(d1:Draws prog w A i f n P1 S1)(d2:Draws prog w A j g m P2 S2)(ap:ZAp z u v i j f g)(hz:IsZip s.heap z u v .none)(hu:IsPair s.heap u (.ref i) (.ref j))(hv:IsPair s.heap v a b)(h1:S1 k s.heap)(h2:S2 k s.heap)(l1:k<n)(l2:k<m){Q:Value->Shared->Prop}(cont:∀h' tk x y,P1 k x->P2 k y->IsZip h' z u v (rawInt s.heap.objs.size)->IsPair h' v x y->S1 (k+1) h'->S2 (k+1) h'->IsPair h' s.heap.objs.size x y->uI z v i j s.heap h'->Q (.ref s.heap.objs.size) { s with heap:=h',toks:=tk }) :
  wpAny (model prog w) A (Builtin.«zip.__next__» ⟨[.ref z],[]⟩) (fun fin s'=>∃r,fin=.done (.ret r)/\Q r s') E s:=by
 show wpAny _ _ (field (.ref z) 2 >>= _) _ _ _;refine z6 (ZW hz rfl (x:=.bool false) rfl ?_);show wpAny _ _ (field (.ref z) 3 >>= _) _ _ _;refine z6 (ZW hz rfl (x:=.ref u) rfl (z6 (YQ hu rfl ?_)));show wpAny _ _ (Builtin.SmallTypes.ownedTupleIsFree (.ref z) >>= _) _ _ _;refine z6 ?_;unfold Builtin.SmallTypes.ownedTupleIsFree;refine z6 (ZW hz rfl (x:=.none) rfl (Za ?_));simp only[if_true];refine z6 (YL (z6 (ZW hz rfl (x:=.ref v) rfl ?_)));refine z6 (wpAny_setField_rec hz (by simp) fun q1 z1 b1=>?_)
 replace z1:IsZip q1 z u v .ellipsis:=z1
 refine z6 ?_;simp only[List.zipIdx_cons,List.zipIdx_nil,List.forIn_cons,List.forIn_nil];refine z6 (z6 (wpAny_onRaise ?_));show wpAny _ _ (Builtin.SmallTypes.nextOf (.ref i) >>= _) _ _ _;refine z6 (d1.item k { s with heap:=q1 } _ _ l1 (d1.frame _ _ _ h1 fun c hc o e=>b1.extBut c o (cH hc ap.zf) e) fun x q2 t2 px s2 b2=>Za ?_);have v2:IsPair q2 v a b:=b2.extBut _ _ ap.vi (b1.extBut _ _ ap.vz hv);refine z6 (YQ v2 rfl (z6 (wpAny_updateSeq_pair v2 fun q3 w3 b3=>?_)))
 replace w3:IsPair q3 v x b:=w3
 refine z6 (wpAny_letGo (Za ?_));refine z6 (z6 (wpAny_onRaise ?_));show wpAny _ _ (Builtin.SmallTypes.nextOf (.ref j) >>= _) _ _ _;refine z6 (d2.item k { s with heap:=q3,toks:=t2 } _ _ l2 (d2.frame _ _ _ h2 fun c hc o e=>b3.extBut c o (cH hc ap.vg) (b2.extBut c o (cH hc ap.ig) (b1.extBut c o (cH hc ap.zg) e))) fun y q4 t4 py s4 b4=>Za ?_);have v4:IsPair q4 v x b:=b4.extBut _ _ ap.vj w3;refine z6 (YQ v4 rfl (z6 (wpAny_updateSeq_pair v4 fun q5 w5 b5=>?_)))
 replace w5:IsPair q5 v x y:=w5
 refine z6 (wpAny_letGo (Za (Za (z6 (YQ w5 rfl (z6 (wpAny_newTuple ?_)))))));have sz:q5.objs.size=s.heap.objs.size:=by rw[b5.1,b4.1,b3.1,b2.1,b1.1]
 have z5:IsZip q5 z u v .ellipsis:=b5.extBut _ _ ap.vz.symm (b4.extBut _ _ ap.jz.symm (b3.extBut _ _ ap.vz.symm (b2.extBut _ _ ap.iz.symm z1)));have k5:uI z v i j s.heap q5:=fun c o c1 c2 c3 c4 e=>b5.extBut _ _ c2 (b4.extBut _ _ c4 (b3.extBut _ _ c2 (b2.extBut _ _ c3 (b1.extBut _ _ c1 e))));have s5:S1 (k+1) q5:=d1.frame _ _ _ s2 fun c hc o e=>b5.extBut c o (cH hc ap.vf) (b4.extBut c o (cH hc ap.jf) (b3.extBut c o (cH hc ap.vf) e));have r5:S2 (k+1) q5:=d2.frame _ _ _ s4 fun c hc o e=>b5.extBut c o (cH hc ap.vg) e;have zlt:z<q5.objs.size:=Zk z5;show wpAny _ _ (Builtin.SmallTypes.ownedTupleHandOut (.ref z) (.ref q5.objs.size) >>= _) _ _ _;refine z6 ?_;unfold Builtin.SmallTypes.ownedTupleHandOut;refine z6 (wpAny_setField_rec (show IsZip (q5.push { cls:=.type "tuple",data:=.seq #[x,y] }) z u v .ellipsis from z9 _ z5) (by simp) fun q7 z7 b7=>?_)
 replace z7:IsZip q7 z u v (rawInt q5.objs.size):=z7
 refine wpAny_setField_rec z7 (by simp) fun q8 z8 b8=>?_
 replace z8:IsZip q8 z u v (rawInt q5.objs.size):=z8
 have up:∀c o,c≠z->q5.get? c=some o->q8.get? c=some o:=fun c o c1 e=>b8.extBut _ _ c1 (b7.extBut _ _ c1 (z9 _ e));have p8:IsPair q8 q5.objs.size x y:=b8.extBut _ _ (Yw zlt) (b7.extBut _ _ (Yw zlt) (Zh _ rfl));rw[sz]at z8 p8;refine Za ⟨_,rfl,?_⟩;show Q (.ref q5.objs.size) _;rw[sz];exact cont q8 _ x y px py z8 (up _ _ ap.vz w5) (d1.frame _ _ _ s5 fun c hc o e=>up c o (cH hc ap.zf) e) (d2.frame _ _ _ r5 fun c hc o e=>up c o (cH hc ap.zg) e) p8 fun c o c1 c2 c3 c4 e=>up c o c1 (k5 c o c1 c2 c3 c4 e)
theorem CN(d1:Draws prog w A i f n P1 S1)(d2:Draws prog w A j g m P2 S2)(ap:ZAp z u v i j f g)(hz:IsZip s.heap z u v .none)(hu:IsPair s.heap u (.ref i) (.ref j))(hv:IsPair s.heap v a b)(h1:S1 n s.heap){Q:Fin->Shared->Prop}(cont:∀h' e,uI z v i j s.heap h'->(∃o,h'.get? e=some o/\o.cls=.type "StopIteration")->E (.ref e) { s with heap:=h' }):wpAny (model prog w) A (Builtin.«zip.__next__» ⟨[.ref z],[]⟩) Q E s:=by
 show wpAny _ _ (field (.ref z) 2 >>= _) _ _ _;refine z6 (ZW hz rfl (x:=.bool false) rfl ?_);show wpAny _ _ (field (.ref z) 3 >>= _) _ _ _;refine z6 (ZW hz rfl (x:=.ref u) rfl (z6 (YQ hu rfl ?_)));show wpAny _ _ (Builtin.SmallTypes.ownedTupleIsFree (.ref z) >>= _) _ _ _;refine z6 ?_;unfold Builtin.SmallTypes.ownedTupleIsFree;refine z6 (ZW hz rfl (x:=.none) rfl (Za ?_));simp only[if_true];refine z6 (YL (z6 (ZW hz rfl (x:=.ref v) rfl ?_)));refine z6 (wpAny_setField_rec hz (by simp) fun q1 z1 b1=>?_)
 replace z1:IsZip q1 z u v .ellipsis:=z1
 refine z6 ?_;simp only[List.zipIdx_cons,List.zipIdx_nil,List.forIn_cons,List.forIn_nil];refine z6 (z6 (wpAny_onRaise ?_));show wpAny _ _ (Builtin.SmallTypes.nextOf (.ref i) >>= _) _ _ _;refine z6 (d1.done { s with heap:=q1 } _ _ (d1.frame _ _ _ h1 fun c hc o e=>b1.extBut c o (cH hc ap.zf) e) fun q2 e b2 he=>?_);obtain⟨oe,hoe,hce⟩:=he;have z2:IsZip q2 z u v .ellipsis:=b2 _ _ ap.iz.symm z1;have ez:e≠z:=fun x=>by subst x;rw[z2]at hoe;cases hoe;simp at hce
 exact wpAny_setField_rec z2 (by simp) fun q3 _ b3=>cont q3 e (fun c o c1 _ c3 _ x=>b3.extBut _ _ c1 (b2 _ _ c3 (b1.extBut _ _ c1 x))) ⟨oe,b3.extBut _ _ ez hoe,hce⟩
end
section
variable{X:Cx}{pins:List (Addr×Obj)}{σ:St}{H:Hp}{s:Shared}{h':Heap}{ch:List Addr}{t':Nat}
theorem Inv.turnH{H':Hp}(I:Inv X pins σ H s)(hch:∀b∈ch,bh X pins H b)(kp:∀b o,b∉ch->s.heap.get? b=some o->h'.get? b=some o)(up:∀b u,H b=some u->H' b=some u)(dn:∀b o,s.heap.get? b=some o->H b=none->H' b=none)(hok:HOk X.prog X.w H' h') :
  Inv X pins σ H' { s with heap:=h',toks:=t' }:=by
 refine I.step (g':=s.gens) (d':=s.drawn) (ch:=ch) (fun b hb=>?_) (fun b o _ _ hc e _=>kp b o hc e) (fun b o _ _ hc e _=>⟨o.slots,kp b o hc e⟩) (fun b o _ e n=>dn b o e n) (fun b o hc e=>⟨o,kp b o hc e⟩) (fun b xs e=>up _ _ e) (fun b o u e=>up _ _ e) (fun b ps e=>⟨#[],by rw[up _ _ e];simp⟩) (fun m hm=>?_) hok I.bare
 ·obtain⟨f0,f1,f2,f3,f4,f5⟩:=hch b hb;exact⟨f3,f1,f4,f5⟩
 ·obtain⟨o,es,ep,ho,r⟩:=hm;exact⟨o,es,ep,kp _ o (fun z=>(hch _ z).2.1 rfl) ho,r⟩
theorem qM(I:Inv X pins σ H s)(hch:∀b∈ch,bh X pins H b)(kp:∀b o,b∉ch->s.heap.get? b=some o->h'.get? b=some o):HOk X.prog X.w H h':=fun b u e=>by
 have nin:∀{c:Addr} {q:HO},H c=some q->c∉ch:=fun{c q} e z=>by rw[(hch c z).1]at e;cases e
 refine(I.hok b u e).stay (fun c v hc q=>kp c v ?_ q) (fun _ q=>q) fun _ _ q=>q;rcases hc with z|z
 ·rw[z];exact nin e
 ·exact nin z
theorem Inv.turnM(I:Inv X pins σ H s)(hch:∀b∈ch,bh X pins H b)(kp:∀b o,b∉ch->s.heap.get? b=some o->h'.get? b=some o):Inv X pins σ H { s with heap:=h',toks:=t' } :=
 I.turnH hch kp (fun _ _ e=>e) (fun _ _ _ n=>n) (qM I hch kp)
theorem Inv.turnT{xs:List V}{its:List Value}(I:Inv X pins σ H s)(hch:∀b∈ch,bh X pins H b)(kp:∀b o,b∉ch->s.heap.get? b=some o->h'.get? b=some o)(hp:IsTup h' s.heap.objs.size its.toArray)(rv:Vals xs its)(hz:xs.length<=sizeLine) :
  Inv X pins σ (upd H s.heap.objs.size (.tup xs)) { s with heap:=h',toks:=t' }:=by
 have fr:=I.hok.fresh (Zb s.heap.objs.size);have ne:∀{b:Addr} {u:HO},H b=some u->b≠s.heap.objs.size:=fun{b u} e=>aj e fr;have hk:=qM I hch kp;refine I.turnH hch kp (fun b u e=>by rw[af (ne e)];exact e) (fun b o e n=>by rw[af (Zt (Zk e))];exact n) fun b u e=>?_;by_cases hb:b=s.heap.objs.size
 ·subst hb;rw[ad]at e;cases e;exact⟨hz,its,rv,hp⟩
 ·rw[af hb]at e;exact(hk b u e).stay (fun _ _ _ q=>q) (fun c q=>by rw[af (ne q)];exact q) fun c ys q=>by rw[af (ne q)];exact q
end
def Itz(K:PySem.W.Frag)(a b:Addr)(xs ys:List V):It :=
 ⟨fun i H=>i<xs.length/\SqT K H a xs/\SqT K H b ys,fun i H x H'=>∃T p q,H T=none/\xs[i]?=some p/\ys[i]?=some q/\x=.ref T/\H'=upd H T (.tup [p,q]),fun i H=>i=xs.length/\SqT K H a xs/\SqT K H b ys⟩
abbrev zTn(z u v i1 i2 a b:Addr):Nat->Heap->Prop:=fun i h=>IsZip h z u v .none/\IsPair h u (.ref i1) (.ref i2)/\(∃p q,IsPair h v p q)/\h.IsTupleIter i1 a i/\h.IsTupleIter i2 b i
theorem AZ{P:Program}{w:World}{K:PySem.W.Frag}{elts:List Expr}{kt:Nat}{tp:Pos}{z u v i1 i2 a b:Addr}{xs ys:List V}(hl:xs.length=ys.length)(D:[z,u,v,i1,i2].Nodup)(ha:∀c∈[z,u,v,i1,i2],c≠a/\c≠b) :
  Turn P w K (.Tuple elts kt tp) (Itz K a b xs ys) [z,u,v,i1,i2] z (zTn z u v i1 i2 a b):=by
 have nd:(z≠u/\z≠v/\z≠i1/\z≠i2)/\(u≠v/\u≠i1/\u≠i2)/\(v≠i1/\v≠i2)/\i1≠i2:=by simpa using D
 obtain⟨⟨zu,zv,z1,z2⟩,⟨uv,u1,u2⟩,⟨v1,v2⟩,i12⟩:=nd;have az:=ha z (by simp);have av:=ha v (by simp);have a1:=ha i1 (by simp);have a2:=ha i2 (by simp);have ap:ZAp z u v i1 i2 [i1,a] [i2,b]:=⟨zu.symm,zv.symm,uv,u1,u2,v1,v2,z1.symm,z2.symm,i12,by simp[z1,az.1],by simp[z2,az.2],by simp[v1,av.1],by simp[v2,av.2],by simp[i12.symm,a2.1],by simp[i12,a1.2]⟩
 refine⟨by simp,fun i h st c hc=>?_,fun i h h' st k=>?_,?_,?_,fun A i s Q E st h=>wpAny_pyIter_zip st.1 h⟩
 ·obtain⟨e1,e2,⟨p,q,e3⟩,⟨o4,e4,_,d4⟩,⟨o5,e5,_,d5⟩⟩:=st;simp only[Zs,Z1,YN]at hc;rcases hc with rfl|rfl|rfl|rfl|rfl
  ·exact⟨_,e1,fun v z=>nomatch z⟩
  ·exact⟨_,e2,fun v z=>nomatch z⟩
  ·exact⟨_,e3,fun v z=>nomatch z⟩
  ·exact⟨_,e4,fun v z=>by rw[d4]at z;cases z⟩
  ·exact⟨_,e5,fun v z=>by rw[d5]at z;cases z⟩
 ·obtain⟨e1,e2,⟨p,q,e3⟩,⟨o4,e4,r4⟩,⟨o5,e5,r5⟩⟩:=st;exact⟨k z (by simp) _ e1,k u (by simp) _ e2,⟨p,q,k v (by simp) _ e3⟩,⟨o4,k i1 (by simp) _ e4,r4⟩,⟨o5,k i2 (by simp) _ e5,r5⟩⟩
 ·intro X hP hw hK hc i pins s σ H E I hf st hg;subst hP hw hK;obtain⟨e1,e2,⟨p,q,e3⟩,e4,e5⟩:=st;obtain⟨hi,hx,hy⟩:=hg;obtain⟨its,rx,px,zx⟩:=I.tuple hx;obtain⟨jts,ry,py,zy⟩:=I.tuple hy;have lx:i<its.toArray.size:=by rw[Zg,<-rx.length];exact hi
  have ly:i<jts.toArray.size:=by rw[Zg,<-ry.length,<-hl];exact hi
  have hh:=I.ok.hd hc;have hT:s.TypeIs (.ref z) "zip":=⟨_,e1,rfl⟩
  unfold pyNext;refine z6 (wpAny_attempt (ZM (name:=Str.ofString "__next__") hT F.slot_zip_next (ZR F.slot_zip_next hT F.entry_zip_next
   (A0 (eU (A:=X.A.in1) hh i1 a a1.1.symm its.toArray) (eU (A:=X.A.in1) hh i2 b a2.2.symm jts.toArray) ap e1 e2 e3 ⟨e4,px⟩ ⟨e5,py⟩ lx ly fun h' tk x y qx qy zz vv s1 s2 pp kp=>Za ?_) (F.args_zip_next_1 _))))
  refine⟨_,rfl,wpAny_letOwnedTupleGo_zip (s:={ s with heap:=h',toks:=tk }) zz fun h2 z2' sb=>?_⟩;obtain⟨xv,ex⟩:∃xv,xs[i]?=some xv:=⟨xs[i],by simp[hi]⟩
  obtain⟨yv,ey⟩:∃yv,ys[i]?=some yv:=⟨ys[i]'(by omega),by simp[show i<ys.length by omega]⟩
  obtain⟨x',gx,rxv⟩:=rx.get ex;obtain⟨y',gy,ryv⟩:=ry.get ey;have qx':its[i]?=some x:=by simpa using qx
  have qy':jts[i]?=some y:=by simpa using qy
  rw[gx]at qx';rw[gy]at qy';cases qx';cases qy';have ltz:z<s.heap.objs.size:=Zk e1;have kp2:∀c o,c∉[z,u,v,i1,i2]->s.heap.get? c=some o->h2.get? c=some o:=fun c o hc e=>by simp only[Zs,Z1,YN,not_or]at hc;exact sb.extBut c o hc.1 (kp c o hc.1 hc.2.2.1 hc.2.2.2.1 hc.2.2.2.2 e)
  have tT:IsTup h2 s.heap.objs.size [x,y].toArray:=⟨_,sb.extBut _ _ (Yw ltz) pp,rfl,_,rfl⟩
  refine⟨.ref s.heap.objs.size,upd H s.heap.objs.size (.tup [xv,yv]),I.turnT (t':=tk) hf kp2 tT (.cons rxv (.cons ryv .nil)) (sz rfl),rfl,⟨_,xv,yv,I.hok.fresh (Zb _),ex,ey,rfl,rfl⟩,?_,fun c hc=>?_⟩
  ·exact⟨z2',sb.extBut _ _ zu.symm (kp _ _ zu.symm uv u1 u2 e2),⟨_,_,sb.extBut _ _ zv.symm vv⟩,s1.1.extBut sb.extBut z1.symm,s2.1.extBut sb.extBut z2.symm⟩
  ·rw[af]
   ·exact(hf c hc).1
   ·obtain⟨o,eo,_⟩:∃o,s.heap.get? c=some o/\True:=by
     simp only[Zs,Z1,YN]at hc;rcases hc with rfl|rfl|rfl|rfl|rfl
     ·exact⟨_,e1,trivial⟩
     ·exact⟨_,e2,trivial⟩
     ·exact⟨_,e3,trivial⟩
     ·obtain⟨o,eo,_⟩:=e4;exact⟨o,eo,trivial⟩
     ·obtain⟨o,eo,_⟩:=e5;exact⟨o,eo,trivial⟩
    exact Zt (Zk eo)
 ·intro X hP hw hK hc i pins s σ H E I hf st hg;subst hP hw hK;obtain⟨e1,e2,⟨p,q,e3⟩,e4,e5⟩:=st;obtain⟨rfl,hx,hy⟩:=hg;obtain⟨its,rx,px,zx⟩:=I.tuple hx;obtain⟨jts,ry,py,zy⟩:=I.tuple hy;have lx:its.toArray.size=xs.length:=by rw[Zg,<-rx.length]
  have hh:=I.ok.hd hc;have hT:s.TypeIs (.ref z) "zip":=⟨_,e1,rfl⟩
  unfold pyNext;refine z6 (wpAny_attempt (ZM (name:=Str.ofString "__next__") hT F.slot_zip_next (ZR F.slot_zip_next hT F.entry_zip_next
   (CN (eU (A:=X.A.in1) hh i1 a a1.1.symm its.toArray) (eU (A:=X.A.in1) hh i2 b a2.2.symm jts.toArray) ap e1 e2 e3 ⟨by rw[lx];exact e4,px⟩ fun h' e kp he=>?_) (F.args_zip_next_1 _))))
  obtain⟨o,ho,hco⟩:=he;refine z6 (wpAny_isInstance (T:="StopIteration") (b:=true) ⟨o,ho,hco⟩ isSubtype_stop (Za ⟨rfl,?_⟩));exact I.turnM (t':=s.toks) hf fun c ob hc e=>by simp only[Zs,Z1,YN,not_or]at hc;exact kp c ob hc.1 hc.2.2.1 hc.2.2.2.1 hc.2.2.2.2 e
theorem vw(l1 l2:Addr)(xs ys:Array Value) :
  Meets (Builtin.«zip.__new__» ⟨[.type "zip",.ref l1,.ref l2],[]⟩) (fun _ R s=>s.heap.IsTuple l1 xs/\s.heap.IsTuple l2 ys /\
   R (.ok (.ret (.ref ((((s.heap.push { cls:=.type "tuple_iterator",data:=.fields #[.ref l1,.int 0 0] }).push { cls:=.type "tuple_iterator",data:=.fields #[.ref l2,.int 0 0] }).push { cls:=.type "tuple",data:=.seq #[.ref s.heap.objs.size,.ref (s.heap.push { cls:=.type "tuple_iterator",data:=.fields #[.ref l1,.int 0 0] }).objs.size] }).push { cls:=.type "tuple",data:=.seq #[.none,.none] }).objs.size)))
    { s with heap:=((((s.heap.push { cls:=.type "tuple_iterator",data:=.fields #[.ref l1,.int 0 0] }).push { cls:=.type "tuple_iterator",data:=.fields #[.ref l2,.int 0 0] }).push { cls:=.type "tuple",data:=.seq #[.ref s.heap.objs.size,.ref (s.heap.push { cls:=.type "tuple_iterator",data:=.fields #[.ref l1,.int 0 0] }).objs.size] }).push { cls:=.type "tuple",data:=.seq #[.none,.none] }).push { cls:=.type "zip",data:=.fields #[.none,.bool false,.bool false,.ref ((s.heap.push { cls:=.type "tuple_iterator",data:=.fields #[.ref l1,.int 0 0] }).push { cls:=.type "tuple_iterator",data:=.fields #[.ref l2,.int 0 0] }).objs.size,.ref (((s.heap.push { cls:=.type "tuple_iterator",data:=.fields #[.ref l1,.int 0 0] }).push { cls:=.type "tuple_iterator",data:=.fields #[.ref l2,.int 0 0] }).push { cls:=.type "tuple",data:=.seq #[.ref s.heap.objs.size,.ref (s.heap.push { cls:=.type "tuple_iterator",data:=.fields #[.ref l1,.int 0 0] }).objs.size] }).objs.size] } }) :=
 .of_wp fun prog w A R s h=>by
  obtain⟨hp,g,d,tk,os⟩:=s;obtain⟨t1,t2,h⟩:=h;have hsub:=sub_zip;have T1:Heap.IsTuple (Shared.heap ⟨hp,g,d,tk,os⟩) l1 xs:=t1;have T2:Heap.IsTuple (Shared.heap ⟨hp.push { cls:=.type "tuple_iterator",data:=.fields #[.ref l1,.int 0 0] },g,d,tk,os⟩) l2 ys:=Heap.IsTuple.push t2 _
  wp_walk using Y7 T1,Y7 T2
  exact⟨_,rfl,h⟩
theorem Dv(n:Nat):[n+4,n+2,n+3,n,n+1].Nodup:=by simp
def Dg(K:PySem.W.Frag)(ta:TA):TI:=fun σ H R=>ta σ H fun vs H1=>∃a b xs ys,vs=[.ref a,.ref b]/\SqT K H1 a xs/\SqT K H1 b ys/\xs.length=ys.length/\R (Itz K a b xs ys) H1
section
variable{X:Cx}
theorem DZ{e1 e2:Expr}{ta:TA}{p pos tp:Pos}{elts:List Expr}{kt:Nat}(hg:Gl X "zip")(hm:X.mg "zip" = none)(ha:PA X [e1,e2] ta)(n1:aW e1=true)(n2:aW e2=true):PI X (.Tuple elts kt tp) (.Call (.Name "zip" p) [e1,e2] [] pos) (Dg X.K ta):=by
 intro pins s σ H R I h;refine Call_ (fY I hg hm boot_zip (Y8 (thn (ha pos pins s σ H _ I h) fun us s1 hz9=>?_) (aZ n1) (bG (by simp[n2]))));obtain⟨vs,H1,I1,r1,q1⟩:=hz9;obtain⟨a,b,xs,ys,e,hx,hy,hl,q⟩:=q1;subst e;obtain⟨ua,ub,rfl,ra,rb⟩:=mS r1;cases ra;cases rb;obtain⟨its,rx,px,zx⟩:=I1.tuple hx;obtain⟨jts,ry,py,zy⟩:=I1.tuple hy;refine callType_new F.called_zip (by decide) (F.typeCall_zip_2 _ _) (F.newCall_zip_2 _ _) (fun obj=>F.args_object_init_3 obj _ _) F.entry_zip_new (vw a b its.toArray jts.toArray) ⟨px,py,?_⟩;generalize ea:({ cls:=.type "tuple_iterator",data:=.fields #[.ref a,.int 0 0] }:Obj)=oa;generalize eb:({ cls:=.type "tuple_iterator",data:=.fields #[.ref b,.int 0 0] }:Obj)=ob;have z1:(s1.heap.push oa).objs.size=s1.heap.objs.size+1:=YA ..;have z2:((s1.heap.push oa).push ob).objs.size=s1.heap.objs.size+2:=by rw[YA,z1]
 rw[z2,z1];generalize eu:({ cls:=.type "tuple",data:=.seq #[.ref s1.heap.objs.size,.ref (s1.heap.objs.size+1)] }:Obj)=ou;have z3:(((s1.heap.push oa).push ob).push ou).objs.size=s1.heap.objs.size+3:=by rw[YA,z2]
 generalize ev:({ cls:=.type "tuple",data:=.seq #[.none,.none] }:Obj)=ov;have z4:((((s1.heap.push oa).push ob).push ou).push ov).objs.size=s1.heap.objs.size+4:=by rw[YA,z3]
 rw[z4,z3];generalize ez:({ cls:=.type "zip",data:=.fields #[.none,.bool false,.bool false,.ref (s1.heap.objs.size+2),.ref (s1.heap.objs.size+3)] }:Obj)=oz;have g5:(((((s1.heap.push oa).push ob).push ou).push ov).push oz).get? (s1.heap.objs.size+4)=some oz:=by rw[<-z4];exact Zh _ (by rw[<-ez];rfl)
 have g4:(((((s1.heap.push oa).push ob).push ou).push ov).push oz).get? (s1.heap.objs.size+3)=some ov:=by rw[<-z3];exact z9 _ (Zh _ (by rw[<-ev];rfl))
 have g3:(((((s1.heap.push oa).push ob).push ou).push ov).push oz).get? (s1.heap.objs.size+2)=some ou:=by rw[<-z2];exact z9 _ (z9 _ (Zh _ (by rw[<-eu];rfl)))
 have g2:(((((s1.heap.push oa).push ob).push ou).push ov).push oz).get? (s1.heap.objs.size+1)=some ob:=by rw[<-z1];exact z9 _ (z9 _ (z9 _ (Zh _ (by rw[<-eb];rfl))))
 have g1:(((((s1.heap.push oa).push ob).push ou).push ov).push oz).get? s1.heap.objs.size=some oa:=z9 _ (z9 _ (z9 _ (z9 _ (Zh _ (by rw[<-ea];rfl)))));have kp:∀c o,s1.heap.get? c=some o->(((((s1.heap.push oa).push ob).push ou).push ov).push oz).get? c=some o:=fun c o e=>z9 _ (z9 _ (z9 _ (z9 _ (z9 _ e))));generalize((((s1.heap.push oa).push ob).push ou).push ov).push oz=hN at g1 g2 g3 g4 g5 kp ⊢;have I2:Inv X pins σ H1 { s1 with heap:=hN }:=I1.kept (t':=s1.toks) kp;have la:a<s1.heap.objs.size:=px.lt;have lb:b<s1.heap.objs.size:=py.lt;subst ea eb eu ev ez;have base:∀c∈[s1.heap.objs.size+4,s1.heap.objs.size+2,s1.heap.objs.size+3,s1.heap.objs.size,s1.heap.objs.size+1],s1.heap.objs.size<=c:=fun c hc=>by simp only[Zs,Z1,YN]at hc;omega
 refine⟨⟨_,g5,rfl⟩,?_⟩;show wpAny (model X.prog X.w) X.A (pyIter (.ref (s1.heap.objs.size+4))) (PIE X pins σ (.Tuple elts kt tp) R) X.xe { s1 with heap:=hN };refine wpAny_pyIter_zip g5 ?_;refine⟨s1.heap.objs.size+4,[s1.heap.objs.size+4,s1.heap.objs.size+2,s1.heap.objs.size+3,s1.heap.objs.size,s1.heap.objs.size+1],zTn (s1.heap.objs.size+4) (s1.heap.objs.size+2) (s1.heap.objs.size+3) s1.heap.objs.size (s1.heap.objs.size+1) a b,_,H1,rfl,I2,
  AZ hl ?_ (fun c hc=>⟨Yw (Zn la (base c hc)),Yw (Zn lb (base c hc))⟩),⟨g5,g3,⟨_,_,g4⟩,⟨_,g1,rfl,rfl⟩,⟨_,g2,rfl,rfl⟩⟩,fun c hc=>?_,q⟩
 ·exact Dv s1.heap.objs.size
 ·exact I1.fpOk (base c hc) (I1.hok.fresh (base c hc))
theorem Bc{e1 e2:Expr}{ta:TA}{p pos tp:Pos}{elts:List Expr}{kt:Nat}(hm:X.mg "zip" = none)(ha:QA X [e1,e2] ta)(hg:Gl X "zip":=by rfl)(n1:aW e1=true:=by rfl)(n2:aW e2=true:=by rfl):QI X (.Tuple elts kt tp) (.Call (.Name "zip" p) [e1,e2] [] pos) (Dg X.K ta):=⟨DZ hg hm ha.h n1 n2⟩
end
open PySem PySem.Spec PyProof.Rows
theorem zH{J:It}{N n:Nat}{cap:List Nat}{g:TG}{tc:TT}{te:TE}{σ:St}{H0:Hp}{Q:VK}(keep:Nat->Bool)(f:Nat->V)(hz:N<=1000)(hgo:∀ i H,i<N->Same H0 H->J.go i H)(hst:∀ H,Same H0 H->J.stop N H)(ht:∀ i H x H',i<N->Same H0 H->J.yld i H x H'->∀ (A:VK) (B:Hp->Prop),(keep i=true->∀ H4,Same H H4->A (f i) H4)->(keep i=false->∀ H4,Same H H4->B H4) ->
   g x (be n cap σ) H' fun σ2 H2=>tc σ2 H2 fun b H3=>if b=true then te σ2 H3 A else B H3)(hq:∀ p H,Same H0 H->H p=none->Q (.ref p) (upd H p (.lst (((List.range N).filter keep).map f)))):bS n cap g tc te σ J H0 Q:=by
 refine⟨fun i m ys H=>m=N-i/\i<=N/\Same H0 H/\ys=((List.range i).filter keep).map f,⟨N,by simp,ZV _,Same.refl _,rfl⟩,?_⟩;rintro i m ys H ⟨rfl,hi,sm,rfl⟩;by_cases hlt:i<N
 ·refine .inr ⟨hgo i H hlt sm,?_,fun x H' y=>?_⟩
  ·rw[Zd];have:=YS keep (List.range i);rw[YI]at this;exact dM (by omega)
  ·refine ht i H x H' hlt sm y _ _ (fun k H4 s4=>⟨N-(i+1),by omega,rfl,hlt,sm.trans s4,?_⟩) (fun k H4 s4=>⟨N-(i+1),by omega,rfl,hlt,sm.trans s4,?_⟩)
   ·rw[List.range_succ,x5,ZE];simp[k]
   ·rw[List.range_succ,x5,ZE];simp[k]
 ·have e:i=N:=by omega
  subst e;exact .inl ⟨hst H sm,fun p hp=>hq p H sm hp⟩
theorem qG{K:PySem.W.Frag}{a b:Addr}{xs ys:List V}{n:Nat}{cap:List Nat}{te:TE}{σ:St}{H0:Hp}{Q:VK}(f:Nat->V)(hz:xs.length<=1000)(ha:SqT K H0 a xs)(hb:SqT K H0 b ys)(hl:xs.length=ys.length)(he:∀i x y H,xs[i]?=some x->ys[i]?=some y->Same H0 H->∀R:VK,(∀H',Same H H'->R (f i) H')->te (((be n cap σ).set 0 (some x)).set 1 (some y)) H R)(hq:∀p H,Same H0 H->H p=none->Q (.ref p) (upd H p (.lst ((List.range xs.length).map f)))):bS n cap (nC K 2 (gH (bN 0) (gH (bN 1) nA))) eE te σ (Itz K a b xs ys) H0 Q:=by
 refine zH (N:=xs.length) (fun _=>true) f hz (fun i H hi sm=>⟨hi,du sm ha,du sm hb⟩) (fun H sm=>⟨rfl,du sm ha,du sm hb⟩) (fun i H x H' hi sm y A B kA kB=>?_) (fun p H sm hp=>?_)
 ·obtain⟨T,p,q,hT,hx,hy,rfl,rfl⟩:=y;have s1:=ag hT (.tup [p,q]);refine⟨T,[p,q],rfl,SqT.of ad,rfl,p,[q],rfl,q,[],rfl,rfl,?_⟩;unfold eE;refine aP ?_;exact he i p q _ hx hy (sm.trans s1) _ fun H4 s4=>kA rfl H4 (s1.trans s4)
 ·have:=hq p H sm hp;rw[List.filter_eq_self.mpr (fun _ _=>rfl)];exact this
def Bi:R2:=fun x y H Q=>∃a b xs ys,x=.ref a/\y=.ref b/\H a=some (.tup xs)/\H b=some (.tup ys)/\xs.length+ys.length<=sizeLine/\∀p H',Same H H'->H' p=some (.tup (xs++ys))->Q (.ref p) H'
section
variable{X:Cx}
theorem BZ:OpR X (binaryOp .Add) Bi:=by
 intro pins s σ H x y v u Q I rx ry h;obtain⟨a,b,xs,ys,rfl,rfl,ha,hb,hz,q⟩:=h;by_cases hx:xs=[]
 ·cases rx;cases ry;obtain⟨its,r1,p1,_⟩:=I.tuple (SqT.of (K:=X.K) ha);obtain⟨its2,r2,p2,_⟩:=I.tuple (SqT.of (K:=X.K) hb);obtain⟨⟨cls,dd,data,sl⟩,ho,hc,n,hd⟩:=id p1;obtain⟨⟨cls2,dd2,data2,sl2⟩,ho2,hc2,n2,hd2⟩:=id p2;simp only at hc hd hc2 hd2;subst hc hd hc2 hd2;have e:its=[]:=r1.nil_iff.mpr hx;subst e;refine PySem.concat_meets ⟨_,ho,rfl⟩ ⟨_,ho2,rfl⟩ noFill_tuple_add seq_tuple_add PySem.F.slot_tuple_add PySem.F.entry_tuple_add (PySem.F.args_tuple_add_2 _ _)
   (tuple_addW0 a b _ its2.toArray n n2 dd dd2 sl sl2 (by simp)) ⟨ho,ho2,⟨.ref b,H,I,rfl,q b H (Same.refl H) ?_⟩⟩
  rw[hx];exact hb
 ·exact B0 pins s σ H _ _ v u Q I rx ry ⟨a,b,xs,ys,rfl,rfl,SqT.of ha,SqT.of hb,hx,hz,fun e=>q a H (Same.refl H) (by rw[e,Z6];exact ha),fun _ p hp=>q p _ (ag hp _) ad⟩
theorem qX:QOp X (binaryOp .Add) Bi:=⟨BZ⟩
theorem kP:fillsNumberSlot (.type "tuple") "mul" = pure false :=
 PySem.fillsNumberSlot_seq (id:="tuple.__mul__") (r:=some (.builtin "tuple.__rmul__")) F.slot_tuple_mul.lookup (by decide +kernel) F.slot_tuple_rmul.lookup (by decide +kernel)
theorem rn:seqRepeat? (.type "tuple")=pure (some (.builtin "tuple.__mul__")):=by unfold seqRepeat?;rw[PySem.seqSlot_of (T:="tuple") (name:="__mul__") (id:="tuple.__mul__") F.slot_tuple_mul.lookup (by decide +kernel),PySem.seqSlot_of (T:="tuple") (name:="__rmul__") (id:="tuple.__rmul__") F.slot_tuple_rmul.lookup (by decide +kernel)];rfl
theorem nF(a:Int)(t:Tok)(l:Addr)(items:Array Value)(n:Nat)(dd:Option Addr)(sl:Array (Option Value)) :
  Meets (Builtin.«int.__rmul__» ⟨[.int a t,.ref l],[]⟩) (fun _ R s=>s.heap.get? l=some { cls:=.type "tuple",dict:=dd,data:=.seq items n,slots:=sl }/\R (.ok (.ret Value.notImplemented)) s) :=
 .of_wp fun prog w A R s h=>by obtain⟨hp,g,d,tk,os⟩:=s;obtain⟨hl,h⟩:=h;wp_walk using YV hl;exact⟨_,rfl,h⟩
theorem pW(l:Addr)(items:Array Value)(n:Nat)(dd:Option Addr)(sl:Array (Option Value))(u:Tok) :
  Meets (Builtin.«tuple.__mul__» ⟨[.ref l,.int 1 u],[]⟩) (fun _ R s=>s.heap.get? l=some { cls:=.type "tuple",dict:=dd,data:=.seq items n,slots:=sl }/\R (.ok (.ret (.ref l))) s) :=
 .of_wp fun prog w A R s h=>by obtain⟨hp,g,d,tk,os⟩:=s;obtain⟨hl,h⟩:=h;have f1:=AutoSeq1.idx_int;wp_walk using YV hl;exact⟨_,rfl,h⟩
theorem oG(l:Addr)(items:Array Value)(n:Nat)(dd:Option Addr)(sl:Array (Option Value))(k:Int)(u:Tok)(c1:¬(k < -(2^63) ||k>=2^63)=true)(c2:¬(items.isEmpty ||k==1)=true)(c3:¬(decide (k<=0) ||items.isEmpty)=true)(c4:¬items.size*k>(2^63-1) / 8)(c5:¬Builtin.Tuple.tupleTooMany (items.size*k)=true)(c6:(List.foldl (fun x1 x2=>x1++x2) #[] (List.replicate k.toNat items)).size<=sizeLine) :
  Meets (Builtin.«tuple.__mul__» ⟨[.ref l,.int k u],[]⟩) (fun _ R s=>s.heap.get? l=some { cls:=.type "tuple",dict:=dd,data:=.seq items n,slots:=sl } /\
   R (.ok (.ret (.ref s.heap.objs.size))) { s with heap:=s.heap.push { cls:=.type "tuple",data:=.seq (List.foldl (fun x1 x2=>x1++x2) #[] (List.replicate k.toNat items)) } }) :=
 .of_wp fun prog w A R s h=>by obtain⟨hp,g,d,tk,os⟩:=s;obtain⟨hl,h⟩:=h;have f1:=AutoSeq1.idx_int;wp_walk using YV hl;rw[HH c1];wp_walk using YV hl;rw[HH c4];wp_walk using YV hl;exact⟨_,rfl,h⟩
def Bj:R2:=fun x y H Q=>∃a k xs,x=.ref a/\y=.int k/\H a=some (.tup xs)/\1<=k/\k<=1000/\xs≠[]/\xs.length*k.toNat<=sizeLine/\∀p H',Same H H'->H' p=some (.tup (List.replicate k.toNat xs).flatten)->Q (.ref p) H'
theorem B2:OpR X (binaryOp .Mult) Bj:=by
 intro pins s σ H x y v u Q I rx ry h;obtain⟨a,k,xs,rfl,rfl,ha,k1,k2,hx,hz,q⟩:=h;cases rx;obtain⟨t,rfl⟩:=ry;obtain⟨its,r1,p1,_⟩:=I.tuple (SqT.of (K:=X.K) ha);obtain⟨⟨cls,dd,data,sl⟩,ho,hc,n,hd⟩:=id p1;simp only at hc hd;subst hc hd;have hne:its≠[]:=fun z=>hx (r1.nil_iff.mp z);refine wpAny_binaryOp_repeat_ref (T:="tuple") (U:="int") (by decide) ⟨_,ho,rfl⟩ (fun s'=>typeIs_int s' k t) kP F.fills_int_mul F.slot_int_rmul rn F.slot_int_index.lookup
  (call_meets F.slot_int_rmul (typeIs_int s k t) F.entry_int_rmul (F.args_int_rmul_2 _ _) (nF k t a its.toArray n dd sl) ⟨ho,rfl,⟨_,ho,rfl⟩,?_⟩)
 by_cases hk:k=1
 ·subst hk;refine call_meets F.slot_tuple_mul ⟨_,ho,rfl⟩ F.entry_tuple_mul (F.args_tuple_mul_2 _ _) (pW a its.toArray n dd sl t) ⟨ho,⟨.ref a,H,I,rfl,q a H (Same.refl H) ?_⟩⟩;have e:(List.replicate (1:Int).toNat xs).flatten=xs:=by simp
  rw[e];exact ha
 ·have hl:its.length=xs.length:=r1.length.symm;have hnew:List.foldl (fun x1 x2=>x1++x2) #[] (List.replicate k.toNat its.toArray)=(List.replicate k.toNat its).flatten.toArray:=by have:=oV its k.toNat [];rw[List.nil_append]at this;exact this
  have hlen:(List.replicate k.toNat its).flatten.length<=sizeLine:=by rw[tV,hl,Nat.mul_comm];exact hz
  have hzk:((its.toArray.size:Int)*k)<=(sizeLine:Int):=by
   have e:((its.toArray.size:Int)*k)=((xs.length*k.toNat:Nat):Int):=by rw[Zg,hl,Int.natCast_mul];congr 1;omega
   rw[e];exact Int.ofNat_le.mpr hz
  have hcap:(sizeLine:Int)<=(2^63-1) / 8:=by decide
  have hemp:its.toArray.isEmpty=false:=by
   cases its with
   |nil=>exact absurd rfl hne
   |cons _ _=>rfl
  refine call_meets F.slot_tuple_mul ⟨_,ho,rfl⟩ F.entry_tuple_mul (F.args_tuple_mul_2 _ _) (oG a its.toArray n dd sl k t ?_ ?_ ?_ (by omega) ?_ (by rw[hnew,Zg];exact hlen)) ⟨ho,?_⟩
  ·simp only[Bool.or_eq_true,YW,not_or];omega
  ·simp[hemp,hk]
  ·have h1:¬k<=0:=by omega
   simp[hemp,h1]
  ·unfold Builtin.Tuple.tupleTooMany;simp only[YW];omega
  ·rw[hnew];refine⟨.ref s.heap.objs.size,_,I.laid (t':=s.toks) (o:=.tup (List.replicate k.toNat xs).flatten) (fun b ob q=>z9 _ q) (Zb _) ?_,rfl,q _ _ (ag (I.hok.fresh (Zb _)) _) ad⟩;exact⟨by rw[tV,Nat.mul_comm];exact hz,_,r1.rep k.toNat,IsTup.new _ _⟩
theorem iy{ns:List Int}{i:Nat}{x:V}(h:(ns.map V.int)[i]?=some x):x=.int (ai ns i)/\i<ns.length:=by
 rw[ZB]at h;unfold ai;cases e:ns[i]? with
 |none=>rw[e]at h;cases h
 |some z =>rw[e]at h;cases h;exact⟨rfl,(ZF.mp e).1⟩
theorem mC{n d:Nat}{h:Int}(h0:0<=h):HT.sIx n d (some h)=min h.toNat n:=by have e:=HT.sIx_nat n d h.toNat;rw[show((h.toNat:Nat):Int)=h by omega]at e;exact e
variable{K:PySem.W.Frag}(hK:X.K=K)
include hK
theorem gB:QIx X (vY K):=by subst hK;exact aw
theorem C1:QCall X (.builtin "len") (fun xs H Q=>∃p ys,xs=[.ref p]/\(SqL K H p ys\/SqT K H p ys)/\Q (.int ys.length) H):=by subst hK;exact cP
theorem xB{es:List Expr}{k n:Nat}{gs:TGs}{pos:Pos}(hc:X.calm=true)(h:QGs X es gs)(hn:(assignEach es X.env).length=n:=by rfl)(hst:(assignEach es X.env).findIdx? (·.1)=none:=by rfl):QG X (.Tuple es k pos) (nC K n gs):=by subst hK;exact A9 hc h hn hst
theorem BK{tg l:Expr}{te:TE}(hl:QE X l te):QI X tg l (ve K te):=by subst hK;exact dR hl
omit hK
theorem Dy:QOp X (binaryOp .Mult) Bj:=⟨B2⟩
end
open PySem PySem.Spec PyProof.Rows PySem.W
section
variable{X:Cx}
variable{o e d:Expr}{to te td:TE}{apos cpos:Pos}
theorem iU{prog:Program}{w:World}{A:Around}{E:Value->Shared->Prop}{s:Shared}{t sl:Addr}{items:Array Value}{vl vu:Value}{lo hi:Option Int}{Q:Value->Shared->Prop}(ht:IsTup s.heap t items)(hs:s.heap.IsSliceOf sl vl vu .none)(pl:IsPart vl lo)(pu:IsPart vu hi)(hw:HT.sIx items.size 0 lo=0/\HT.sIx items.size items.size hi=items.size)(h:Q (.ref t) s):wpAny (model prog w) A (getItem (.ref t) (.ref sl)) Q E s:=by
 obtain⟨os,hos,hcs,hds⟩:=id hs;have hTs:s.TypeIs (.ref sl) "slice":=⟨os,hos,hcs⟩
 unfold getItem
 try with_reducible refine Z7 ?_
 first|refine z6 (Za ?_)|skip
 refine z6 (wpAny_sequenceKey ht.typeIs (by decide) ?_);refine z6 (ZM (name:=Str.ofString "__getitem__") ht.typeIs Yi
  (ZR Yi ht.typeIs entry_tuple_getitem ?_ (args_tuple_getitem _ _)))
 show wpAny _ _ (Builtin.Tuple.tupleItemsOf (.ref t) >>= _) _ _ s;refine z6 (tupleItemsOf_ ht ?_);refine z6 (wpAny_typeOf hTs ?_);rw[HK (by decide)];refine z6 (HT.sliceApplied_gen hs pl pu ?_);show wpAny _ _ (if(((HT.sIx items.size 0 lo:Nat):Int)==0&&(1:Int)==1&&(HT.sIx items.size items.size hi-HT.sIx items.size 0 lo)==items.size)=true then _ else _) _ _ s;rw[HK (by rw[hw.1,hw.2];simp)];refine z6 (m:=Builtin.Tuple.tupleIsExact _) ?_;unfold Builtin.Tuple.tupleIsExact;refine z6 (wpAny_typeOf ht.typeIs (Za ?_));rw[HK (by decide)];exact z6 (YL (Za ⟨_,rfl,Za h⟩))
def F7:V->Option Int->Option Int->Hp->VK->Prop:=fun x lo hi H Q=>∃a xs,x=.ref a/\H a=some (.tup xs)/\∀p H',Same H H'->H' p=some (.tup (cV xs lo hi))->Q (.ref p) H'
theorem ma:QSl X F7:=by
 refine⟨?_⟩;intro pins s σ H x v vl vu lo hi sl Q I rx hs pl pu h;obtain⟨a,xs,rfl,hx,q⟩:=h;by_cases hw:HT.sIx xs.length 0 lo=0/\HT.sIx xs.length xs.length hi=xs.length
 ·cases rx;obtain⟨its,r,ht,hz⟩:=I.tuple (SqT.of (K:=X.K) hx);have hlen:its.toArray.size=xs.length:=by rw[Zg];exact r.length.symm
  refine⟨"tuple",_,Yi.lookup,ht.typeIs,iU ht hs pl pu (by rw[hlen];exact hw) ⟨.ref a,H,I,rfl,q a H (Same.refl H) ?_⟩⟩;unfold cV;rw[hw.1,hw.2,List.drop_zero,Nat.sub_zero,YE];exact hx
 ·exact EA pins s σ H _ v vl vu lo hi sl Q I rx hs pl pu ⟨a,xs,rfl,SqT.of hx,hw,fun p hp=>q p _ (ag hp _) ad⟩
end
section
variable{prog:Program}{w:World}{A:Around}{s:Shared}{fin:Bool}{Q:Bool->Shared->Prop}
theorem kl(ns:List Int):∀(ms:List Int) (vs ws:List Value) (i:Nat),IntsAre vs ns->IntsAre ws ms->fin=decide (ns.length<ms.length)->Q (HT.lexLt ns ms) s->KatLex prog w A true fin Q (vs.zip ws) i s:=by
 induction ns with
 |nil =>
  intro ms vs ws i a b hf q;subst hf;cases a;cases b with
  |nil=>exact kat_nil q
  |cons _ _ _=>exact kat_nil (by rw[decide_eq_true (by simp)];exact q)
 |cons x ns ih =>
  intro ms vs ws i a b hf q;cases a with
  |cons _ t h1 =>
  cases b with
  |nil =>subst hf;exact kat_nil q
  |cons y u h2 =>
  obtain⟨e,he,iff⟩:=HT.eqAt_int A s x t y u;rw[HT.lexLt_cons]at q;refine kat_cons (he _ _ _ _ (kat_go (fun et=>?_) (fun ef=>?_)))
  ·rw[HK (iff.mp et)]at q;exact kat_yes (ih _ _ _ (i+1) h1 h2 (by rw[hf];simp) q)
  ·have hne:x≠y:=fun z=>by rw[iff.mpr z]at ef;cases ef
   rw[HH hne]at q;refine kat_no ?_;cases i with
   |zero=>exact oneLt_int q
   |succ i=>exact kat_one _ _ (PyProof.Rows.lt_int q)
end
section
variable{X:Cx}{pins:List (Addr×Obj)}{σ:St}{H:Hp}{s:Shared}{h':Heap}
theorem eL{P:Program}{w:World}{H:Hp}{h:Heap}{a:Addr}{o:HO}(x:ObjOk P w H h a o):∃ob,h.get? a=some ob:=by
 cases o with
 |lst xs =>obtain⟨_,_,_,_,e⟩:=x;exact⟨_,e⟩
 |tup xs =>obtain⟨_,_,_,ob,e,_⟩:=x;exact⟨ob,e⟩
 |dK kvs =>obtain⟨_,_,_,_,ob,_,_,e,_⟩:=x;exact⟨ob,e⟩
 |dT kvs =>obtain⟨_,_,_,_,ob,_,_,e,_⟩:=x;exact⟨ob,e⟩
 |set S n =>obtain⟨ob,_,_,_,e,_⟩:=x;exact⟨ob,e⟩
 |ins C dx fs =>obtain⟨_,_,_,e,_⟩:=x;exact⟨_,e⟩
 |own y=>exact x
 |xd fs =>obtain⟨_,⟨ob,_,_,e,_⟩,_⟩:=x;exact⟨ob,e⟩
 |rng lo hi =>obtain⟨_,_,_,e⟩:=x;exact⟨_,e⟩
 |frz ob u=>exact⟨ob,x.1⟩
 |tbl ps=>exact⟨_,x⟩
 |met f y=>exact⟨_,x⟩
 |ext φ=>exact x.2.1
theorem none_of(I:Inv X pins σ H s){a:Addr}(hg:s.heap.get? a=none):H a=none:=by
 cases q:H a with
 |none=>rfl
 |some u =>obtain⟨ob,e⟩:=eL (I.hok a u q);rw[hg]at e;cases e
theorem Inv.laidF{a:Addr}{o:HO}{t':Nat}(I:Inv X pins σ H s)(k:∀b u,b≠X.env.locals->s.heap.get? b=some u->h'.get? b=some u)(hn:∃m,s.heap.Ns X.env.locals m/\h'.Ns X.env.locals m)(hg:s.heap.get? a=none)(new:ObjOk X.prog X.w (upd H a o) h' a o):Inv X pins σ (upd H a o) { s with heap:=h',toks:=t' }:=by
 have fr:=none_of I hg;have ne:∀{b:Addr} {u:HO},H b=some u->b≠a:=fun{b u} e=>aj e fr;have lt:∀{b:Addr} {u:Obj},s.heap.get? b=some u->b≠a:=fun{b u} e z=>by rw[z,hg]at e;cases e
 have neL:∀{b:Addr} {u:HO},H b=some u->b≠X.env.locals:=fun{b u} e=>aj e I.free;refine I.step (g':=s.gens) (d':=s.drawn) (ch:=[]) (fun b hb=>by simp at hb) (fun b o hL _ _ e _=>k b o hL e) (fun b o hL _ _ e _=>⟨o.slots,k b o hL e⟩) (fun b o _ e n=>by rw[af (lt e)];exact n) (fun b o _ e=>?_)
  (fun b xs e=>by rw[af (ne e)];exact e) (fun b o u e=>by rw[af (ne e)];exact e) (fun b ps e=>⟨#[],by rw[af (ne e),e];simp⟩) (fun m' hm'=>?_) (fun b u e=>?_) I.bare
 ·by_cases hL:b=X.env.locals
  ·obtain⟨m,_,o',_,_,e',_⟩:=hn;exact⟨o',by rw[hL];exact e'⟩
  ·exact⟨o,k b o hL e⟩
 ·obtain⟨m,h1,h2⟩:=hn;rw[hm'.eq_nsMap,<-h1.eq_nsMap];exact h2
 ·by_cases hb:b=a
  ·subst hb;rw[ad]at e;cases e;exact new
  ·rw[af hb]at e;refine(I.hok b u e).stay (fun c v hc q=>k c v ?_ q) (fun c q=>by rw[af (ne q)];exact q) fun c ys q=>by rw[af (ne q)];exact q
   rcases hc with z|z
   ·rw[z];exact neL e
   ·exact neL z
def mw(base h:Heap)(L:Addr):List (Addr×Obj):=(List.range h.objs.size).filterMap fun b=>if b=L\/(base.get? b).isSome=true then none else(h.get? b).map fun o=>(b,o)
theorem gP(base h:Heap)(L:Addr):News base L h (mw base h L):=fun p hp=>by
 obtain⟨b,_,e⟩:=Y9.mp hp;by_cases c:b=L\/(base.get? b).isSome=true
 ·rw[HK c]at e;cases e
 ·rw[HH c]at e;cases q:h.get? b with
  |none=>rw[q]at e;cases e
  |some o =>
   rw[q]at e;cases e;refine⟨q,fun z=>c (.inl z),?_⟩;cases z:base.get? b with
   |none=>rfl
   |some u=>exact absurd (.inr (by rw[z];rfl)) c
theorem cu{base h:Heap}{L b:Addr}{o:Obj}(e:h.get? b=some o)(hL:b≠L)(hb:base.get? b=none):(b,o)∈mw base h L:=by refine Y9.mpr ⟨b,Ye.mpr (Zk e),?_⟩;rw[HH (by rintro(z|z);exact hL z;rw[hb]at z;cases z),e];rfl
end
theorem eW(ns:List Int):SeqAt.shaped (.tuple (ns.map .int))=true:=by
 unfold SeqAt.shaped;rw[Zx];refine⟨?_,?_⟩
 ·simp only[PyData.canLay0];exact PyProof.Rows.canLayAll_ints ns
 ·refine decide_eq_true ?_;simp only[PyData.depth];rw[PyProof.Rows.depthAll_ints ns];decide
theorem kj:∀(ns ms:List Int),PyData.eqvAll (ns.map .int) (ms.map .int)=decide (ns=ms)
 | [],[]=>by simp[PyData.eqvAll]
 | [],_::_=>by simp[PyData.eqvAll]
 |_::_,[]=>by simp[PyData.eqvAll]
 |x::ns,y::ms=>by simp only[ZX,PyData.eqvAll,PyData.eqv];rw[kj ns ms,YJ];simp
theorem kK(ns ms:List Int):PyData.eqv (.tuple (ns.map .int)) (.tuple (ms.map .int))=decide (ns=ms):=by simp only[PyData.eqv];exact kj ns ms
theorem iY{H:Hp}{a:Addr}{ns:List Int}(h:H a=some (.tup (ns.map V.int))):Dt H (.tuple (ns.map .int)) (.ref a):=by simp only[Dt];exact⟨a,_,rfl,Rd.of h,fO ns⟩
section
variable{X:Cx}
theorem xV(hu:X.A.units+64<cLine):QOp X (compareOp .NotEq) (fun x y H Q=>∃(a b:Addr) (ns ms:List Int),x=.ref a/\y=.ref b/\H a=some (.tup (ns.map V.int))/\H b=some (.tup (ms.map V.int))/\Q (.bl (!decide (ns=ms))) H):=by refine⟨?_⟩;intro pins s σ H x y v u Q I rx ry h;obtain⟨a,b,ns,ms,rfl,rfl,ha,hb,q⟩:=h;exact yc hu pins s σ H _ _ v u Q I rx ry ⟨_,_,iY ha,iY hb,eW ns,eW ms,by rw[kK];exact q⟩
end
theorem Bd{x:V}{A B:Prop}(h:x≠.non)(hB:B):if decide (x=.non)=true then A else B:=by rw[decide_eq_false h];exact aF hB
theorem pY{c A B:Prop}[Decidable c](h:c)(hA:A):if decide c=true then A else B:=by rw[decide_eq_true h];exact aP hA
theorem Di{c A B:Prop}[Decidable c](h1:c->A)(h2:¬c->B):if decide c=true then A else B:=by
 by_cases h:c
 ·exact pY h (h1 h)
 ·rw[decide_eq_false h];exact aF (h2 h)
open PySem PySem.Spec PyProof.Rows
abbrev aV(X:Cx)(scope:Scope)(cx:Str)(N':List Str)(C:Addr)(s0:Shared)(H0:Hp)(ex:List Addr):Cx where
 prog:=X.prog
 w:=X.w
 K:=X.K
 mg:=X.mg
 base:=X.base
 A:=X.A
 N:=N'
 s₀:=s0
 H₀:=H0
 env:=compEnvC scope ((cx,C+1)::bg X.env scope.names []) C X.env
 outer:=X.stack
 stack:=X.stack
 ex:=ex
 fn:=fun y=>y==cx
 calm:=X.calm
 pn:=[]
 xe:=fun _ _=>False
structure CompOk1(X:Cx)(scope:Scope)(cx:Str)(cap:List Nat)(capN:List Str):Prop where
 kind:scope.kind=.function
 names:∀x∈scope.names,x.2=.local->scope.names.lookup x.1=some .local
 onecell:∀y∈scope.names,y.2=.cell->y.1=cx
 own:scope.names.lookup cx=some .cell
 cf:∀(n:Nat) (acc:List (Str×Addr)),cellsFrom n scope.names acc=(cx,n)::acc
 pc:∀h:Heap,pushCells h scope.names=h.push { cls:=.type "cell",data:=.cell none }
 frees:(scope.names.all fun y=>!(y.2==NameKind.free) ||(X.env.kindOf y.1==some .cell ||X.env.kindOf y.1==some .free))=true
 cap:CapOk X scope cap capN
section
variable{X:Cx}{scope:Scope}{cx:Str}{cap:List Nat}{capN:List Str}
theorem CompOk1.around(O:CompOk1 X scope cx cap capN){y:Str×NameKind}(hy:y∈scope.names)(hf:y.2=.free):X.env.kindOf y.1=some .cell\/X.env.kindOf y.1=some .free:=by have q:=ZU.mp O.frees y hy;rw[hf]at q;simpa using q
theorem CompOk1.cells(O:CompOk1 X scope cx cap capN)(ok:X.Ok):∀y∈scope.names,y.2=.free->∃c,X.env.cells.lookup y.1=some c:=fun y hy hf=>ok.has _ (O.around hy hf)
theorem CompOk1.clos(O:CompOk1 X scope cx cap capN)(ok:X.Ok):closureFor scope X.env=pure (bg X.env scope.names []):=tE (O.cells ok)
theorem CompOk1.sub(O:CompOk1 X scope cx cap capN)(ok:X.Ok):∀x c,(bg X.env scope.names []).lookup x=some c->X.env.cells.lookup x=some c:=jJ (O.cells ok) fun x c e=>by simp at e
theorem CompOk1.has(_O:CompOk1 X scope cx cap capN){x:Str}(h:scope.names.lookup x=some .free):∃c,(bg X.env scope.names []).lookup x=some c:=jI h
theorem CompOk1.ne(O:CompOk1 X scope cx cap capN){x:Str}(h:scope.names.lookup x=some .free):x≠cx:=fun z=>by rw[z,O.own]at h;cases h
end
theorem Ak{cx x:Str}{n c:Addr}{cl:List (Str×Addr)}(h:((cx,n)::cl).lookup x=some c):(x=cx/\c=n)\/(x≠cx/\cl.lookup x=some c):=by
 cases hx:x==cx with
 |true =>simp only[ZD,hx]at h;exact .inl ⟨eq_of_beq hx,(Zw h).symm⟩
 |false =>simp only[ZD,hx]at h;exact .inr ⟨fun z=>by rw[z]at hx;simp at hx,h⟩
theorem jn{cx x:Str}{n:Addr}{cl:List (Str×Addr)}(h:x≠cx):((cx,n)::cl).lookup x=cl.lookup x:=by
 have hx:(x==cx)=false:=by simpa using h
 simp only[ZD,hx]
theorem Al{cx:Str}{n:Addr}{cl:List (Str×Addr)}:((cx,n)::cl).lookup cx=some n:=by simp only[ZD,beq_self_eq_true]
section
variable{M:Model}{A:Around}{E:Value->Shared->Prop}{s:Shared}
theorem qU{X:Cx}{scope:Scope}{cx:Str}{cap:List Nat}{capN:List Str}{globals:Addr}{closure:List (Str×Addr)}{qual:Str}{outer:Env}{Q:Env->Shared->Prop}(O:CompOk1 X scope cx cap capN)(hQ:∀ h',h'.Ns s.heap.objs.size (fun _=>none)->h'.IsCell (s.heap.objs.size+1) none->(∀ b o,s.heap.get? b=some o->h'.get? b=some o) ->
   Q (newEnv scope s.heap.objs.size globals ((cx,s.heap.objs.size+1)::closure) qual none .none (some outer) builtinsNs) { s with heap:=h' }) :
  wpAny M A (newFunctionEnv scope globals closure [] qual none .none (some outer)) Q E s:=by
 simp only[newFunctionEnv,Option.isSome_some,if_true];refine z6 (wpAny_alloc ?_);refine z6 (wpAny_layCells _ (fun name kind cells=>by cases hkc:kind==NameKind.cell<;>simp[hkc]) _ _ _ _ ?_);have hz:({ s with heap:=s.heap.push { cls:=.type "dict",data:=.dict #[] } }:Shared).heap.objs.size=s.heap.objs.size+1:=YA ..;rw[hz,O.cf,O.pc];refine z6 ?_;rw[List.forIn_nil];refine Za (Za (hQ _ ?_ ?_ fun b o e=>z9 _ (z9 _ e)))
 ·exact(Heap.Ns.new s.heap (.type "dict")).keeps fun b o e=>z9 _ e
 ·refine⟨{ cls:=.type "cell",data:=.cell none },?_,rfl⟩;rw[<-hz];exact Zh _ rfl
end
theorem cj{X:Cx}{pins:List (Addr×Obj)}{σ:St}{H:Hp}{s:Shared}{scope:Scope}{cx:Str}{cap:List Nat}{capN:List Str}{C:Addr}(I:Inv X pins σ H s)(O:CompOk1 X scope cx cap capN)(hC:s.heap.objs.size<=C){x:Str}{c:Addr}(e:((cx,C+1)::bg X.env scope.names []).lookup x=some c):(x=cx/\c=C+1)\/(x≠cx/\X.env.cells.lookup x=some c/\c<s.heap.objs.size):=by
 rcases Ak e with z|⟨z,q⟩
 ·exact .inl z
 ·have q':=O.sub I.ok x c q;obtain⟨v,ic⟩:=I.cell x c q';exact .inr ⟨z,q',ic.lt⟩
theorem il{X:Cx}{pins:List (Addr×Obj)}{σ:St}{H:Hp}{s:Shared}{scope:Scope}{cx:Str}{cap:List Nat}{capN:List Str}{C b:Addr}(I:Inv X pins σ H s)(O:CompOk1 X scope cx cap capN)(hC:s.heap.objs.size<=C)(hb:b<=C)(h:∀x c,X.env.cells.lookup x=some c->c≠b){x:Str}{c:Addr}(e:((cx,C+1)::bg X.env scope.names []).lookup x=some c):c≠b:=by
 rcases cj I O hC e with⟨_,z⟩|⟨_,q,_⟩
 ·rw[z];exact Yw (Nat.lt_succ_of_le hb)
 ·exact h x c q
section
variable{X:Cx}{pins:List (Addr×Obj)}{σ:St}{H:Hp}{s:Shared}{scope:Scope}{cx:Str}{cap:List Nat}{capN N':List Str}{C:Addr}{ex:List Addr}
theorem uR(I:Inv X pins σ H s)(O:CompOk1 X scope cx cap capN)(hC:s.heap.objs.size<=C)(hex:∀b∈ex,bh X pins H b/\b<s.heap.objs.size):(aV X scope cx N' C s H ex).Ok where
 mod:=I.ok.mod
 kind:=O.kind
 glob:=I.ok.glob
 blt:=I.ok.blt
 above:=hC
 inj:=fun x y c h1 h2=>by
  rcases cj I O hC h1 with⟨z1,z2⟩|⟨z1,q1,l1⟩
  ·rcases cj I O hC h2 with⟨w1,w2⟩|⟨w1,q2,l2⟩
   ·rw[z1,w1]
   ·rw[z2]at l2;exact absurd (Zn l2 (Yh hC)) (Yj _)
  ·rcases cj I O hC h2 with⟨w1,w2⟩|⟨w1,q2,l2⟩
   ·rw[w2]at l1;exact absurd (Zn l1 (Yh hC)) (Yj _)
   ·exact I.ok.inj x y c q1 q2
 has:=fun x hx=>by
  by_cases hxc:x=cx
  ·exact⟨C+1,by rw[hxc];exact Al⟩
  have hx':(relabel scope X.env).names.lookup x=some .cell\/(relabel scope X.env).names.lookup x=some .free:=hx;have key:∀k,(relabel scope X.env).names.lookup x=some k->(k=.cell\/k=.free)->scope.names.lookup x=some .free:=fun k e hk=>by
   obtain⟨k',e',q⟩:=eM (env:=X.env) e;rcases q with q|⟨q,_⟩
   ·subst q;rcases hk with z|z
    ·subst z;exact absurd (O.onecell _ (Yt e') rfl) hxc
    ·subst z;exact e'
   ·subst q;exact e'
  rcases hx' with e|e
  ·obtain⟨c,q⟩:=O.has (key _ e (.inl rfl));exact⟨c,(jn hxc).trans q⟩
  ·obtain⟨c,q⟩:=O.has (key _ e (.inr rfl));exact⟨c,(jn hxc).trans q⟩
 cab:=fun x c h e=>by
  have z:x=cx:=by have h':(x==cx)=true:=h;exact eq_of_beq h'
  rcases cj I O hC e with⟨_,w⟩|⟨w,_⟩
  ·rw[w];exact Yh hC
  ·exact absurd z w
 hd:=I.ok.hd
 frames:=I.ok.frames
 stk:=.inl rfl
 exf:=fun b hb=>by obtain⟨⟨f0,f1,f2,f3,f4,f5⟩,lt⟩:=hex b hb;exact⟨Zt (Zn lt hC),fun x c e=>il I O hC (YT (Zn lt hC)) f4 e⟩
 bs:=I.bs
 bsz:=ZQ I.ok.bsz I.sz
 noex:=fun b o e hb=>by
  obtain⟨⟨f0,f1,f2,f3,f4,f5⟩,lt⟩:=hex b hb;rcases f3 with z|z
  ·exact I.ok.noex b o e z
  ·exact absurd (Zn (Zk e) (ZQ I.ok.bsz z)) (Yj _)
 exfs:=fun b hb z=>by
  obtain⟨⟨f0,f1,f2,f3,f4,f5⟩,lt⟩:=hex b hb;rcases Zs.mp (I.stkSub b z)with e|e
  ·exact f1 e
  ·exact f2 e
 funs:=I.stack
 frf:=I.stkFree
theorem sk{n:Nat}{h1:Heap}{m1:Str->Option Value}{tk:Nat}(I:Inv X pins σ H s)(O:CompOk1 X scope cx cap capN)(hN:N'.length=n+capN.length)(hN2:∀i x,n<=i->N'[i]?=some x->capN[i-n]?=some x)(hC:s.heap.objs.size<=C)(hex:∀b∈ex,bh X pins H b/\b<s.heap.objs.size)(hk:∀b o,s.heap.get? b=some o->h1.get? b=some o)(hn:h1.Ns C m1)(hcell:h1.IsCell (C+1) none):Inv (aV X scope cx N' C s H ex) [] (be n cap σ) H { s with heap:=h1,toks:=tk }:=by
 refine⟨uR I O hC hex,rfl,I.bare,Un.kept hk,⟨m1,hn,fun i x v e1 e2 e3=>?_⟩,fun x c e=>?_,I.hok.fresh hC,fun x c e=>?_,fun p hp=>absurd (show p∈([]:List (Addr×Obj))from hp) (by simp),I.hok.kept hk,?_⟩
 ·obtain⟨hi,j,ej,es⟩:=fz e2;obtain⟨j',q1,q2,qf⟩:=O.cap.get (hN2 i x hi e1);have q3:=O.around (Yt qf) rfl;have q4:=ge (env:=X.env) qf;obtain⟨c,q5⟩:=O.has qf;have q6:=O.sub I.ok x c q5;rw[q1]at ej;cases ej;obtain⟨m0,hn0,hl0⟩:=I.loc;obtain⟨u,r,l⟩:=hl0 _ x v q2 es (by
   rcases q3 with z|z
   ·exact .inr (.inl z)
   ·exact .inr (.inr z))
  refine⟨u,r,.inr ⟨q4,c,(jn (O.ne qf)).trans q5,?_⟩⟩;rcases l with⟨k,_⟩|⟨_,c',e',z⟩
  ·rcases q3 with z|z
   ·have z':X.env.kindOf x=some .cell:=z;rw[z']at k;cases k
   ·have z':X.env.kindOf x=some .free:=z;rw[z']at k;cases k
  ·rw[q6]at e';cases e';obtain⟨o,ho,hd⟩:=z;exact⟨o,hk _ _ ho,hd⟩
 ·rcases cj I O hC e with⟨_,z⟩|⟨_,q,_⟩
  ·rw[z];exact⟨none,hcell⟩
  ·obtain⟨v,o,ho,hd⟩:=I.cell x c q;exact⟨v,o,hk _ _ ho,hd⟩
 ·rcases cj I O hC e with⟨_,z⟩|⟨_,q,_⟩
  ·rw[z];exact I.hok.fresh (Yh hC)
  ·exact I.freeC x c q
 ·rw[lP,O.cap.len];exact hN.symm
end
section
variable{X:Cx}{pins:List (Addr×Obj)}{σ:St}{H2:Hp}{s2:Shared}{scope:Scope}{cx:Str}{cap:List Nat}{capN own:List Str}
variable{elt tg iter:Expr}{ifs:List Expr}{pos:Pos}{g:TG}{tc:TT}{te:TE}{Q:VK}
theorem uT{J:It}{fp:List Addr}{it:Addr}{tn:Nat->Heap->Prop}{E:Value->Shared->Prop}{RR:Value->Addr->Result->Shared->Prop}(O:CompOk1 X scope cx cap capN)(hc:X.calm=true)(hg:∀C s0 H0 ex,PG (aV X scope cx (own++capN) C s0 H0 ex) tg g)(gk:GK own.length g)(ht:∀C s0 H0 ex,iV (aV X scope cx (own++capN) C s0 H0 ex) ifs tc)(he:∀C s0 H0 ex,PE (aV X scope cx (own++capN) C s0 H0 ex) elt te)(I2:Inv X pins σ H2 s2)(T:Turn X.prog X.w X.K tg J fp it tn)(st2:tn 0 s2.heap)(f2:∀b∈fp,bh X pins H2 b)(hq:bS own.length cap g tc te σ J H2 Q)(fin:∀(D C:Addr) (s4:Shared) (H4:Hp) (ys:List V),Inv X pins σ (upd H4 D (.lst ys)) s4->(∃m,s4.heap.Ns C m)->bh X pins (upd H4 D (.lst ys)) C->Q (.ref D) (upd H4 D (.lst ys))->RR (.ref D) C (.ok .next) s4) :
  wpAny (model X.prog X.w) X.A (newList []) (fun acc s₃=>wpAny (model X.prog X.w) X.A (newFunctionEnv scope X.env.globals (bg X.env scope.names []) [] X.env.qual none .none (some X.env)) (fun cenv s₄ =>
   codeAny (model X.prog X.w) X.A (.compStart (.ListComp elt [⟨tg,iter,ifs,0⟩] scope pos) 0 (.ref it) acc { cenv with scope:=relabel scope X.env }) (RR acc cenv.locals) s₄) E s₃) E s2:=by
 obtain⟨W,⟨m0,w0⟩,turn⟩:=hq;refine ZH (qU O (fun h₁ hns₁ hcell₁ old₁=>?_));dsimp only at hns₁ hcell₁ old₁ ⊢;generalize hHp:s2.heap.push { cls:=.type "list",dict:=none,data:=.seq ([]:List Value).toArray }=Hp2 at hns₁ hcell₁ old₁ ⊢;have hC:Hp2.objs.size=s2.heap.objs.size+1:=by rw[<-hHp,YA]
 have hDC:s2.heap.objs.size≠Hp2.objs.size:=by rw[hC];exact Zt (Nat.lt_succ_self _)
 have hCle:s2.heap.objs.size<=Hp2.objs.size:=by rw[hC];exact Nat.le_succ _
 have old:∀b o,s2.heap.get? b=some o->h₁.get? b=some o:=fun b o e=>old₁ b o (hHp▸z9 _ e);have hacc:h₁.get? s2.heap.objs.size=some (bK [] 0):=old₁ _ _ (hHp▸Zh _ rfl);generalize hDe:s2.heap.objs.size=D at *;generalize hCe:Hp2.objs.size=C at *;have hfpl:∀b∈fp,b<s2.heap.objs.size:=fun b hb=>by obtain⟨o,e,_⟩:=T.obj _ _ st2 b hb;exact Zk e
 have hex:∀b∈fp,bh X pins H2 b/\b<s2.heap.objs.size:=fun b hb=>⟨f2 b hb,hfpl b hb⟩
 have hCle':s2.heap.objs.size<=C:=by rw[hDe];exact hCle
 have hDle:s2.heap.objs.size<=D:=by rw[hDe];exact Zb _
 have hDfp:∀b∈fp,D≠b:=fun b hb z=>by have:=hfpl b hb;rw[<-z]at this;exact absurd this (Nat.not_lt.mpr hDle)
 have I0:∀tk,Inv (aV X scope cx (own++capN) C s2 H2 fp) [] (be own.length cap σ) H2 { s2 with heap:=h₁,toks:=tk }:=fun tk=>sk I2 O (by simp) tZ hCle' hex old hns₁ hcell₁;have Dst:D∉frs X.stack:=pf I2 hDle;have Dcell:∀x c,(aV X scope cx (own++capN) C s2 H2 fp).env.cells.lookup x=some c->c≠D:=fun x c e=>il I2 O hCle' hCle (qV I2 hDle) e;have pinD:∀{σ':St} {H':Hp} {s':Shared} {its:List Value} {nn:Nat},Inv (aV X scope cx (own++capN) C s2 H2 fp) [] σ' H' s'->s'.heap.get? D=some (bK its nn)->H' D=none->Inv (aV X scope cx (own++capN) C s2 H2 fp) [(D,bK its nn)] σ' H' s':=fun{σ' H' s' its nn} I e hn =>
  I.pins_of fun p hp=>by
   have z:p=(D,bK its nn):=by simpa using hp
   subst z;exact⟨e,hn,hDC,Dst,fun v q=>by cases q⟩
 have loop:∀s₃:Shared,s₃={ s2 with heap:=h₁ } ->
   codeAny (model X.prog X.w) X.A (.compLoop (.ListComp elt [⟨tg,iter,ifs,0⟩] scope pos) 0 (.ref it) (.ref D) (compEnvC scope ((cx,C+1)::bg X.env scope.names []) C X.env)) (RR (.ref D) C) s₃:=by
  rintro s₃ rfl;refine dP (fun k s'=>∃(i:Nat) (ys:List V) (its:List Value) (nn:Nat) (H':Hp),Inv (aV X scope cx (own++capN) C s2 H2 fp) [(D,bK its nn)] (be own.length cap σ) H' s'/\tn i s'.heap/\(∀b∈fp,H' b=none)/\Vals ys its/\ys.length<=sizeLine/\W i k ys H') ?_ m0
   ⟨0,[],[],0,H2,pinD (I0 s2.toks) hacc (I2.hok.fresh hDle),T.keep _ _ _ st2 (fun b hb o e=>old b o e),fun b hb=>(f2 b hb).1,.nil,ZV _,w0⟩
  rintro k s3 ⟨i,ys,its,nn,H3,I3,st3,fr3,rv,hz,w3⟩;have oD3:s3.heap.get? D=some (bK its nn):=(I3.pin (D,bK its nn) (by simp)).1;have fpY:∀{H':Hp},(∀b∈fp,H' b=none)->∀b∈fp,bh (aV X scope cx (own++capN) C s2 H2 fp) [(D,bK its nn)] H' b:=fun{H'} hn b hb=>by
   obtain⟨f0,f1,g2,f3,f4,f5⟩:=f2 b hb;refine⟨hn b hb,Zt (Zn (hfpl b hb) hCle'),fun z=>?_,.inl hb,fun x c e=>il I2 O hCle' (YT (Zn (hfpl b hb) hCle')) f4 e,fun p hp=>?_⟩
   ·rcases Zs.mp (I2.stkSub b z)with e|e
    ·exact f1 e
    ·exact g2 e
   ·have z:p=(D,bK its nn):=by simpa[aL]using hp
    subst z;exact hDfp b hb
  rcases turn i k ys H3 w3 with⟨stop,qn⟩|⟨go,hlt,step⟩
  ·refine thn (T.done (aV X scope cx (own++capN) C s2 H2 fp) rfl rfl rfl hc i _ s3 _ H3 _ I3 (fpY fr3) st3 stop) fun r s4 ⟨hr,I4⟩=>?_;subst hr;obtain⟨oD,nD,_⟩:=I4.pin (D,bK its nn) (by simp);have neD:∀{b:Addr} {u:HO},H3 b=some u->b≠D:=fun{b u} e=>aj e nD;have JX:Inv X pins σ (upd H3 D (.lst ys)) s4:=by
    refine I2.call' (ch:=fp) I4.os ⟨I4.base.keep,I4.base.slot,fun b o e nb hx=>?_,I4.base.there,fun b xs e=>?_,fun b o u e=>?_,fun b ps e=>?_⟩ (fun b u e=>?_) I4.bare (fun b hb=>?_)
    ·rw[af (by rw[<-hDe];exact Zt (Zk e))];exact I4.base.free b o e nb hx
    ·have q:=I4.base.tups b xs e;rw[af (neD q)];exact q
    ·have q:=I4.base.frzs b o u e;rw[af (neD q)];exact q
    ·obtain⟨more,q⟩:=I4.base.tbls b ps e;exact⟨more,by rw[af (neD q)];exact q⟩
    ·by_cases hb:b=D
     ·subst hb;rw[ad]at e;cases e;exact⟨hz,its,nn,rv,oD⟩
     ·rw[af hb]at e;exact(I4.hok b u e).stay (fun _ _ _ q=>q) (fun c q=>by rw[af (neD q)];exact q) fun c xs q=>by rw[af (neD q)];exact q
    ·obtain⟨f0,f1,g2,f3,f4,f5⟩:=f2 b hb;exact⟨f3,f1,f4,f5⟩
   obtain⟨m4,hn4,_⟩:=I4.loc;refine fin D C s4 H3 ys JX ⟨m4,hn4⟩ ?_ (qn D nD);refine I2.fpOk (b:=C) hCle' ?_;rw[af (Yk hDC)];exact I4.free
  ·refine thn (T.item (aV X scope cx (own++capN) C s2 H2 fp) rfl rfl rfl hc i _ s3 _ H3 _ I3 (fpY fr3) st3 go) fun r s4 ⟨u,hr,h4⟩=>?_;subst hr;refine thn h4 fun _ s5 hz9=>?_;obtain⟨x,H5,I5,r5,y5,st5,fr5⟩:=hz9;have I5':=I5.pinned (fpY fr5) (T.obj _ _ st5);refine thn (hg C s2 H2 fp _ s5 _ H5 x u _ I5' r5 (gk _ _ _ _ (step x H5 y5))) fun _ s6 hz9=>?_;obtain⟨σ6,H6,I6,⟨l6,k6⟩,q6⟩:=hz9;refine thn (ht C s2 H2 fp _ s6 σ6 H6 _ I6 q6) fun ok s7 ⟨H7,I7,q7⟩=>?_;have wk:∀{H8:Hp} {s8:Shared} {pl:List (Addr×Obj)},Inv (aV X scope cx (own++capN) C s2 H2 fp) pl σ6 H8 s8->Inv (aV X scope cx (own++capN) C s2 H2 fp) pl (be own.length cap σ) H8 s8:=fun I=>I.weak l6.symm fun j v e=>by obtain⟨hj,_⟩:=fz e;rw[k6 j hj];exact e
   have tn8:∀{σ8:St} {H8:Hp} {s8:Shared},Inv (aV X scope cx (own++capN) C s2 H2 fp) ([(D,bK its nn)]++hO fp s5.heap) σ8 H8 s8->(∀b∈fp,∀o,s5.heap.get? b=some o->s8.heap.get? b=some o)/\∀b∈fp,H8 b=none:=fun{σ8 H8 s8} I=>by refine⟨fun b hb o e=>(I.pin (b,o) (Zv _ (Zv _ (cR hb e)))).1,fun b hb=>?_⟩;obtain⟨o,e,d⟩:=T.obj _ _ st5 b hb;exact(I.pin (b,o) (Zv _ (Zv _ (cR hb e)))).2.1
   cases ok with
   |false =>rw[HH Zo]at q7 ⊢;obtain⟨m',hm,w7⟩:=q7;obtain⟨t1,t2⟩:=tn8 I7;exact⟨m',hm,i+1,ys,its,nn,H7,wk I7.unpinned,T.keep _ _ _ st5 t1,t2,rv,hz,w7⟩
   |true =>
    rw[HK rfl]at q7 ⊢;refine thn (he C s2 H2 fp _ s7 σ6 H7 _ I7 q7) fun y s8 hz9=>?_;obtain⟨yv,H8,I8,r8,m',hm,w8⟩:=hz9;obtain⟨t1,t2⟩:=tn8 I8;obtain⟨oD,nD,_⟩:=I8.pin (D,bK its nn) (by simp);have hil:=rv.length;refine call_meets F.slot_list_append ⟨_,oD,rfl⟩ F.entry_list_append (F.args_list_append_2 _ _) (PySem.list_append D its.toArray nn y (by rw[Zg];omega)) ⟨oD,?_⟩;have q:=PySem.IsL.update oD (fun x_1=>x_1.push y);have hf:its.toArray.push y=(its++[y]).toArray:=by simp
    rw[hf]at q;have keepO:∀b o,b≠D->s8.heap.get? b=some o->(s8.heap.update D (Obj.mapSeq fun x_1=>x_1.push y)).get? b=some o:=fun b o hb e=>(Yp s8.heap (Obj.mapSeq fun x_1=>x_1.push y) (Yk hb)).trans e;have I9:Inv (aV X scope cx (own++capN) C s2 H2 fp) [] σ6 H8 { s8 with heap:=s8.heap.update D (Obj.mapSeq fun x_1=>x_1.push y),toks:=s8.toks } :=
     (I8.pins_of (pins':=[]) fun p hp=>absurd hp (by simp)).turned (it:=D) keepO nD hDC (.inr hDle) Dcell (fun p hp=>absurd (show p∈([]:List (Addr×Obj))from hp) (by simp))
    refine⟨m',hm,i+1,ys++[yv],its++[y],_,H8,wk (pinD I9 q nD),T.keep _ _ _ st5 (fun b hb o e=>keepO b o (Yk (hDfp b hb)) (t1 b hb o e)),t2,rv.append (.cons r8 .nil),?_,w8⟩;rw[Zj,Zy];omega
 exact codeAny_compStart_list (loop _ rfl) (T.self _ 0 _ _ _ (T.keep _ _ _ st2 (fun b hb o e=>old b o e)) (loop _ rfl))
theorem Ap{wi:TI}(O:CompOk1 X scope cx cap capN)(hc:X.calm=true)(hi:PI X tg iter wi)(hg:∀C s0 H0 ex,PG (aV X scope cx (own++capN) C s0 H0 ex) tg g)(gk:GK own.length g)(ht:∀C s0 H0 ex,iV (aV X scope cx (own++capN) C s0 H0 ex) ifs tc)(he:∀C s0 H0 ex,PE (aV X scope cx (own++capN) C s0 H0 ex) elt te)(hs:∀x,foldedSetIterable iter X.env x=pure x:=by intro _;rfl):PE X (.ListComp elt [⟨tg,iter,ifs,0⟩] scope pos) (kf own.length cap wi g tc te):=by intro pins s σ H Q I h;rw[eval_ListComp];refine wpAny_comprehension_free (use:=none) rfl hs (O.clos I.ok) O.kind O.names (thn (hi pins s σ H _ I h) fun v s1 h1=>thn h1 fun itv s2 h2=>?_);obtain⟨it,fp,tn,J,H2,e,I2,T,st2,f2,hq⟩:=h2;subst e;refine uT (RR:=fun acc C=>compPost (model X.prog X.w) X.A X.xe none (EP X pins σ Q) acc C) O hc hg gk ht he I2 T st2 f2 hq fun D C s4 H4 ys J4 hn4 fC q4=>?_;obtain⟨m,hn⟩:=hn4;obtain⟨f0,f1,g2,f3,f4,f5⟩:=fC;exact⟨m,hn,fun h' sb=>⟨.ref D,_,J4.turned (t':=s4.toks) (fun b o hb e=>(sb.2 b hb).trans e) f0 f1 f3 f4 f5,rfl,q4⟩⟩
theorem Cs{wi:TI}(O:CompOk1 X scope cx cap capN)(hc:X.calm=true)(hi:QI X tg iter wi)(hg:∀C s0 H0 ex,QG (aV X scope cx (own++capN) C s0 H0 ex) tg g)(gk:GK own.length g)(ht:∀C s0 H0 ex,QIf (aV X scope cx (own++capN) C s0 H0 ex) ifs tc)(he:∀C s0 H0 ex,QE (aV X scope cx (own++capN) C s0 H0 ex) elt te)(hs:∀x,foldedSetIterable iter X.env x=pure x:=by intro _;rfl):QE X (.ListComp elt [⟨tg,iter,ifs,0⟩] scope pos) (kf own.length cap wi g tc te) :=
 ⟨Ap O hc hi.h (fun C s0 H0 ex=>(hg C s0 H0 ex).h) gk (fun C s0 H0 ex=>(ht C s0 H0 ex).h) (fun C s0 H0 ex=>(he C s0 H0 ex).h) hs⟩
end
theorem lX:∀{vs:List Value} {ns:List Int},IntsAre vs ns->∃xs:List (Int×Tok),vs=xs.map (fun p=>.int p.1 p.2)/\ns=xs.map (·.1)
 |_,_,.nil=>⟨[],rfl,rfl⟩
 |_,_,.cons n t h=>by obtain⟨xs,e1,e2⟩:=lX h;exact⟨(n,t)::xs,by rw[e1];rfl,by rw[e2];rfl⟩
open PySem PySem.Spec PyProof.Rows PySem.W
def dN(h:Heap)(e:Addr)(dc:Option Addr):Prop:=∃o,h.get? e=some o/\o.dict=dc
theorem nj(f:Array Value->Array Value)(o:Obj):(Obj.mapFields f o).dict=o.dict:=by unfold Obj.mapFields;split<;>rfl
section
variable{M:Model}{A:Around}{E:Value->Shared->Prop}{s:Shared}{base:Heap}{env:Env}{outer l:List Env}{L e:Addr}
theorem kr{oe:Obj}{vs:Array Value}{hd0 a0:Value}{nx:Bool}{Q:Unit->Shared->Prop}(fr:A.frames=some (env::outer))(ff:s.heap.FunFrames base (env::outer))(ef:env.frame=some L)(he:s.heap.get? e=some oe)(kb:base.StaysIn s.heap)(en:base.get? e=none)(dt:oe.data=.fields vs)(sz:1<vs.size)(v0:vs[0]?=some a0)(k:∀h',Heap.NotedW base (env::outer) e oe.cls a0 (rawInt L) s.heap h'->dN h' e oe.dict->Q () { s with heap:=h' }) :
  wpAny M A (do let a ←frameOf env;let pl ←entryPlaceOf L nx;let b ←EntryCells.newEntry hd0 a .none (rawInt L) .none pl;setField (.ref e) 1 b) Q E s:=by
 have nf:e∉(env::outer).filterMap (·.frame):=fun hm=>by obtain⟨_,o,ho,hn⟩:=ff.mem hm;cases Zw (he.symm.trans ho);exact hn vs dt
 refine z6 (wpAny_frameOf_fun fr ff ef fun h1 k1=>z6 (wpAny_entryPlaceOf fun pl hpl=>?_));unfold EntryCells.newEntry newFields;refine z6 (ZH ?_ (hpl.sizeOk5 _ _ _ _ _));have t3:([hd0,.ref L,.none,rawInt L,.none]++(if pl.isEmpty then List.replicate 6 Value.none else pl)).toArray[3]?=some (rawInt L):=by simp
 generalize([hd0,.ref L,.none,rawInt L,.none]++(if pl.isEmpty then List.replicate 6 Value.none else pl)).toArray=ts at t3 ⊢;have g1:h1.get? e=some oe:=(k1.2.1 e nf).trans he;have st1:base.StaysIn h1:=fun b o hb=>(k1.2.1 b fun hm=>nomatch(hb.symm.trans (ff.mem hm).1)).trans (kb b o hb);have gp:(h1.push { cls:=.type "traceback",data:=.fields ts }).get? e=some oe:=z9 _ g1;have ne:h1.objs.size≠e:=Yw (Zk g1);have dm:=Yc dt (·.setIfInBounds 1 (Value.ref h1.objs.size));have self:=Yx (Obj.mapFields (·.setIfInBounds 1 (Value.ref h1.objs.size))) gp (YR dm);have atT:=(Yp (h1.push { cls:=.type "traceback",data:=.fields ts }) (Obj.mapFields (·.setIfInBounds 1 (Value.ref h1.objs.size))) (Yk ne)).trans (Zh h1 rfl);have oth:∀b o,b≠e->h1.get? b=some o->((h1.push { cls:=.type "traceback",data:=.fields ts }).update e (Obj.mapFields (·.setIfInBounds 1 (Value.ref h1.objs.size)))).get? b=some o:=fun b o n q=>(Yp _ _ (Yk n)).trans (z9 _ q);have nrec:∀b o,s.heap.get? b=some o->(∀ws,o.data≠.fields ws)->b≠e:=fun b o q hn z=>by subst z;cases Zw (he.symm.trans q);exact hn vs dt
 refine YB gp dt sz (k _ ⟨fun b o q=>oth b o (fun z=>nomatch((z▸q).symm.trans en)) (st1 b o q),ff.of_keeps fun b o q hn=>?_,?_,fun b o q hn=>?_⟩ ⟨_,self,nj _ _⟩)
 ·obtain⟨sl,hs⟩:=k1.2.2 b o q;exact⟨_,oth b _ (nrec b o q hn) hs,rfl⟩
 ·exact⟨_,_,h1.objs.size,_,ts,self,⟨Obj.cls_mapFields _ _,by rw[Array.getElem?_setIfInBounds_ne (by decide)];exact v0⟩,dm,by simp[sz],st1.fresh,ne,atT,rfl,t3⟩
 ·obtain⟨sl,hs⟩:=k1.2.2 b o q;exact⟨sl,oth b _ (nrec b o q hn) hs⟩
theorem fB{cls a0 fl:Value}{dc:Option Addr}{Q:Unit->Shared->Prop}(kb:base.StaysIn s.heap)(ff:s.heap.FunFrames base l)(tr:s.heap.TracedAtW base e cls a0 fl)(dd:dN s.heap e dc)(k:∀h',base.StaysIn h'->h'.FunFrames base l->h'.TracedW base e cls a0->s.heap.UpToSlots h'->dN h' e dc->Q () { s with heap:=h' }):wpAny M A (setFlight (.ref e) none) Q E s:=by
 obtain⟨oe,vs,T,oT,ts,he,hc,dt,v1,nT,ne,hT,dT,t3⟩:=tr;have z3:3<ts.size:=(Array.getElem?_eq_some_iff.mp t3).1;have oth:∀b,b≠T->(s.heap.update T (Obj.mapFields (·.setIfInBounds 3 ((none:Option Addr).elim Value.none fun f=>rawInt f)))).get? b=s.heap.get? b:=fun b n=>Yp _ _ (Yk n);have nrec:∀b o,s.heap.get? b=some o->(∀ws,o.data≠.fields ws)->b≠T:=fun b o q hn z=>by subst z;cases Zw (hT.symm.trans q);exact hn ts dT
 unfold setFlight;refine z6 (ZW he dt v1 ?_);rw[HK (by simp:(Value.ref T != Value.none)=true)];refine YB hT dT z3 (k _ (fun b o q=>(oth b fun z=>nomatch((z▸q).symm.trans nT)).trans (kb b o q)) (ff.of_keeps fun b o q hn=>⟨o,(oth b (nrec b o q hn)).trans q,rfl⟩) ?_ (fun b o q hn=>⟨o.slots,(oth b (nrec b o q hn)).trans q⟩) ?_)
 ·exact⟨oe,vs,T,_,_,(oth e (Yk ne)).trans he,hc,dt,v1,nT,ne,Yx _ hT (YR (Yc dT _)),Yc dT _,by simp[z3]⟩
 ·obtain⟨o,q,d⟩:=dd;exact⟨o,(oth e (Yk ne)).trans q,d⟩
theorem mi{cls a0:Value}{dc:Option Addr}{Q:Unit->Shared->Prop}(fr:A.frames=some (env::outer))(ef:env.frame=some L)(fl:Heap.FlyingW base (env::outer) e cls a0 s.heap)(dd:dN s.heap e dc)(k:∀h',Heap.HeldW base (env::outer) e cls a0 L h'->s.heap.UpToSlots h'->dN h' e dc->Q () { s with heap:=h' }):wpAny M A (noteFrame (.ref e) env) Q E s:=by
 obtain⟨f1,f2,f3,oe,vs,T,oT,ts,he,hc,dt,v1,nT,ne,hT,dT,t3⟩:=fl;obtain⟨o2,q2,d2⟩:=dd;cases Zw (he.symm.trans q2);have z3:3<ts.size:=(Array.getElem?_eq_some_iff.mp t3).1;unfold noteFrame;simp only[ef];refine z6 (ZW he dt v1 ?_);rw[HK (by simp:(Value.ref T != Value.none)=true)];refine z6 (ZW hT dT t3 ?_);rw[HH (by simp[rawInt]:¬(Value.none==rawInt L)=true)];refine z6 (YB hT dT z3 ?_);have oth:∀b,b≠T->(s.heap.update T (Obj.mapFields (·.setIfInBounds 3 Value.none))).get? b=s.heap.get? b:=fun b n=>Yp _ _ (Yk n);have nrec:∀b o,s.heap.get? b=some o->(∀ws,o.data≠.fields ws)->b≠T:=fun b o q hn z=>by subst z;cases Zw (hT.symm.trans q);exact hn ts dT
 have sz:1<vs.size:=(Array.getElem?_eq_some_iff.mp v1).1;refine kr (s:={ s with heap:=s.heap.update T (Obj.mapFields (·.setIfInBounds 3 Value.none)) }) fr (f3.of_keeps fun b o q hn=>⟨o,(oth b (nrec b o q hn)).trans q,rfl⟩) ef ((oth e (Yk ne)).trans he) (fun b o q=>(oth b fun z=>nomatch((z▸q).symm.trans nT)).trans (f1 b o q)) f2 dt sz hc.2 fun h' nt dd=>?_;obtain⟨n1,n2,n3,n4⟩:=nt;rw[hc.1]at n3;rw[d2]at dd;exact k h' ⟨n1,f2,n2,n3⟩ (fun b o q hn=>n4 b o ((oth b (nrec b o q hn)).trans q) hn) dd
end
open PySem PySem.Spec PyProof.Rows PySem.W
def Its(x:Str):It:=⟨fun i _=>i<x.cps.size,fun i H v H'=>H'=H/\∃c,x.cps[i]?=some c/\v=.str ⟨#[c]⟩,fun i _=>x.cps.size<=i⟩
theorem AY{P:Program}{w:World}{K:PySem.W.Frag}{tg:Expr}(it:Addr)(x:Str)(t:Tok):Turn P w K tg (Its x) [it] it (fun i h=>h.IsStrIter it "str_ascii_iterator" x t i) where
 mem:=Zr.mpr rfl
 obj:=fun i h st b hb=>by cases Zr.mp hb;obtain⟨o,e,c,d⟩:=st;exact⟨o,e,fun v z=>nomatch d.symm.trans z⟩
 keep:=fun i h h' st k=>by obtain⟨o,ho,r⟩:=st;exact⟨o,k it (Zr.mpr rfl) o ho,r⟩
 item:=by intro X eP ew eK hc i pins s σ H E I hf st hg;cases eP;cases ew;cases eK;have hi:i<x.cps.size:=hg;have fo:=hf it (Zr.mpr rfl);refine(Walks.strAscii (prog:=X.prog) (w:=X.w) (I.ok.hd hc) it x t).item i s _ _ hi st fun v h' tk hv st' kk=>?_;obtain⟨c,u,hc',rfl⟩:=hv;have I1:Inv X pins σ H { s with heap:=h',toks:=tk }:=I.turned (fun b o hb e=>kk b o (fun z=>hb (Zr.mp z)) e) fo.1 fo.2.1 fo.2.2.2.1 fo.2.2.2.2.1 fo.2.2.2.2.2;obtain⟨o,e,c1,d1⟩:=id st';exact⟨_,rfl,lV (s:={ s with heap:=h',toks:=tk }) e c1 d1 (by decide) ⟨.str ⟨#[c]⟩,H,I1,⟨u,rfl⟩,⟨rfl,c,hc',rfl⟩,st',fun b hb=>(hf b hb).1⟩⟩
 done:=by intro X eP ew eK hc i pins s σ H E I hf st hg;cases eP;cases ew;cases eK;have hi:x.cps.size<=i:=hg;have fo:=hf it (Zr.mpr rfl);exact wpAny_pyNext_ascii_end (I.ok.hd hc) st (by simp;omega) fun h' eb=>⟨rfl,I.turned (t':=s.toks) (fun b o hb e=>eb b o hb e) fo.1 fo.2.1 fo.2.2.2.1 fo.2.2.2.2.1 fo.2.2.2.2.2⟩
 self:=fun _ _ _ _ _ st h=>wpAny_pyIter_striter_ascii st h
def FU(tl:TE):TI:=fun σ H R=>tl σ H fun v H1=>∃x,v=.str x/\x.cps.all (·<128)=true/\R (Its x) H1
section
variable{X:Cx}{tg l:Expr}{tl:TE}
theorem Fa(hl:QE X l tl):QI X tg l (FU tl):=by refine⟨?_⟩;intro pins s σ H R I h;refine thn (hl.h pins s σ H _ I h) fun v s1 hz9=>?_;obtain⟨y,H1,I1,r1,q1⟩:=hz9;obtain⟨x,rfl,ha,q⟩:=q1;obtain⟨t,rfl⟩:=r1;refine wpAny_pyIter_ascii ha ⟨s1.heap.objs.size,[s1.heap.objs.size],_,_,H1,rfl,I1.kept (t':=s1.toks) (fun b o e=>z9 _ e),AY _ x t,⟨_,Zh _ rfl,rfl,rfl⟩,fun b hb=>?_,q⟩;cases Zr.mp hb;exact I1.fpOk (Zb _) (I1.hok.fresh (Zb _))
end
theorem zJ{x:Str}{n:Nat}{cap:List Nat}{te:TE}{σ:St}{H0:Hp}{Q:VK}(f:Nat->V)(hz:x.cps.size<=1000)(he:∀i c H,x.cps[i]?=some c->Same H0 H->∀R:VK,(∀H',Same H H'->R (f i) H')->te ((be n cap σ).set 0 (some (.str ⟨#[c]⟩))) H R)(hq:∀p H,Same H0 H->H p=none->Q (.ref p) (upd H p (.lst ((List.range x.cps.size).map f)))):bS n cap (bN 0) eE te σ (Its x) H0 Q:=by
 refine gE (N:=x.cps.size) (fun i=>.str ⟨#[x.cps.getD i 0]⟩) f hz (fun i H hi sm=>hi) (fun H sm=>Zb _) (fun i H v H' hi sm y=>?_) (fun i H hi sm R k=>?_) hq
 ·obtain⟨y1,c,hc,rfl⟩:=y;refine⟨y1,?_⟩;simp[ZN,hc]
 ·have e:x.cps[i]?=some x.cps[i]:=by simp[hi]
  have:=he i _ H e sm R k;simpa[ZN,e]using this
section
variable{X:Cx}
theorem A6:QCall X (.builtin "ord") (fun xs H Q=>∃c:Nat,xs=[.str ⟨#[c]⟩]/\Q (.int (c:Int)) H):=by refine⟨?_⟩;intro pins s σ H xs us Q I r h;obtain⟨c,rfl,q⟩:=h;obtain⟨u,rfl,rx⟩:=df r;obtain⟨t,rfl⟩:=rx;exact PySem.P.ord_of_char ⟨.int c,H,I.tok _,⟨_,rfl⟩,q⟩
end
section
variable{X:Cx}
theorem C3:QCall X (.builtin "len") (fun xs H Q=>∃x:Str,xs=[.str x]/\x.length<=1000/\Q (.int (x.length:Int)) H):=by refine⟨?_⟩;intro pins s σ H xs us Q I r h;obtain⟨x,rfl,hz,q⟩:=h;obtain⟨u,rfl,rx⟩:=df r;obtain⟨t,rfl⟩:=rx;exact PyProof.Rows.len_str (by omega) ⟨.int x.length,H,I.tok _,⟨_,rfl⟩,q⟩
end
theorem fi{v:V}{A B:Prop}(hA:A):if decide (v=v)=true then A else B:=by rw[decide_eq_true rfl];exact aP hA
theorem aN{v u:V}{A B:Prop}(h:v≠u)(hB:B):if decide (v=u)=true then A else B:=by rw[decide_eq_false h];exact aF hB
theorem mZ{x:V}{xs:List V}:atI (x::xs) 0=some x:=fN (j:=0) rfl
theorem qz:bootBuiltins "str" = some (.type "str"):=by decide +kernel
inductive TV where
 |flat (v:V)
 |tup (xs:List V)
def qk:V->Value->Bool
 |.non,.none=>true
 |.bl b,.bool c=>b==c
 |.int i,.int j _=>i==j
 |.str x,.str y _=>x==y
 |_,_=>false
theorem pE:∀{v:V} {u:Value},qk v u=true->RelV v u:=by
 intro v u h;unfold qk at h;split at h
 ·exact rfl
 ·obtain rfl:=Z2.mp h;exact rfl
 ·obtain rfl:=Z2.mp h;exact⟨_,rfl⟩
 ·obtain rfl:=Z2.mp h;exact⟨_,rfl⟩
 ·cases h
def rZ:List V->List Value->Bool
 | [],[]=>true
 |v::vs,u::us=>qk v u&&rZ vs us
 |_,_=>false
theorem kz:∀{vs:List V} {us:List Value},rZ vs us=true->Vals vs us
 | [],[],_=>.nil
 |_::_,_::_,h=>by have h:=(Zx _ _).mp h;exact .cons (pE h.1) (kz h.2)
 | [],_::_,h=>nomatch h
 |_::_,[],h=>nomatch h
def mQ(K:PySem.W.Frag):TV->Value->Bool
 |.flat v,u=>qk v u
 | .tup xs,.ref a=>(match K.lookup a with
  |some o=>o.cls == .type "tuple"&&(match o.data with|.seq its _=>decide (its.size<=1000)&&rZ xs its.toList|_=>false)
  | none=>false)
 |_,_=>false
def CZ(K:PySem.W.Frag):TV->Value->Prop
 |.flat v,u=>RelV v u
 |.tup xs,u=>∃a,u=.ref a/\∀H,SqT K H a xs
theorem FJ{K:PySem.W.Frag}(d:TV)(u:Value)(h:mQ K d u=true):CZ K d u:=by
 unfold mQ at h;split at h
 ·exact pE h
 ·rename_i xs a;split at h
  ·rename_i o ho;obtain⟨e1,e2⟩:=(Zx _ _).mp h;split at e2
   ·rename_i its n hd;obtain⟨e3,e4⟩:=(Zx _ _).mp e2;exact⟨a,rfl,fun H=>.inr ⟨o,its,n,ho,Z2.mp e1,hd,cK (Z3 e3),kz e4⟩⟩
   ·cases e2
  ·cases h
 ·cases h
structure Tab(K:PySem.W.Frag)(a:Addr)(D:List (Str×TV)):Prop where
 look:KTD.tabLook (mQ K) (fun b=>K.lookup b) a D=true
theorem Tab.at{K:PySem.W.Frag}{a:Addr}{D:List (Str×TV)}(T:Tab K a D){h:Heap}(X:K.In h):KTD.TabOf (CZ K) h a D:=KTD.tab_of_look FJ (fun b o e=>X b o e) T.look
section
variable{prog:Program}{w:World}{A:Around}{E:Value->Shared->Prop}{s:Shared}{d:Addr}{o:Obj}{es:Array DictEntry}{ep:Nat}{x:Str}{tx:Tok}
theorem uw{Q:Option Value->Shared->Prop}(ho:s.heap.get? d=some o)(hd:o.data=.dict es ep)(hall:(es.all fun e=>isExactStrKey e.key)=true)(h:Q ((es.toList.find? fun e=>e.key.isStr x).map (·.val)) { s with toks:=s.toks+1 }) :
  wpAny (model prog w) A (dictGet d (.str x tx)) Q E s:=by
 unfold dictGet;(try with_reducible (refine Z7 ?_))
 refine z6 (wpAny_pyHash_str (z6 (KTD.kt_dictFind_strs (s:={ s with toks:=s.toks+1 }) ho hd hall ?_)));have hq:Q (findBy (fun y v=>v.isStr y) es x) { s with toks:=s.toks+1 }:=by
  have hf:findBy (fun y v=>v.isStr y) es x=(es.toList.find? fun e=>e.key.isStr x).map (·.val):=by obtain⟨l⟩:=es;simp[findBy]
  rw[hf];exact h
 rw[findBy_of_findIdx?]at hq;cases hi:es.findIdx? fun e=>e.key.isStr x<;>rw[hi]at hq
 ·exact Za hq
 ·exact z6 (YX (s:={ s with toks:=s.toks+1 }) ho hd (Za hq))
theorem EN{Q:Value->Shared->Prop}(sy:(d==sysModules)=false)(ex:o.ExactDict)(ho:s.heap.get? d=some o)(hd:o.data=.dict es ep)(hall:(es.all fun e=>isExactStrKey e.key)=true)(h:Q (.bool ((es.toList.find? fun e=>e.key.isStr x).map (·.val)).isSome) { s with toks:=s.toks+1 }):wpAny (model prog w) A (compareOp .In (.str x tx) (.ref d)) Q E s:=by
 have T:s.TypeIs (.ref d) "dict":=⟨o,ho,ex.1⟩
 show wpAny _ _ (do return .bool (←contains (.ref d) (.str x tx))) Q E s;refine z6 ?_;unfold contains;(try with_reducible (refine Z7 ?_))
 refine z6 (wpAny_specialOf T slot_dict_contains.lookup ?_);show wpAny _ _ (if(some (Value.builtin "dict.__contains__")==some Value.none)=true then _ else _) _ _ _;rw[HH (by rw[beq_builtin_none];decide)];refine z6 (wpAny_callSpecialUnlessNone?_slot (name:=Str.ofString "__contains__") T slot_dict_contains (ZR slot_dict_contains T entry_dict_contains ?_ (args_dict_contains _ _)));show wpAny _ _ (dictGet d (.str x tx) >>= _) _ _ _;refine z6 (uw ho hd hall ?_);cases hv:(es.toList.find? fun e=>e.key.isStr x).map (·.val)with
 |some v =>rw[hv]at h;show wpAny _ _ (ret (.bool true)) _ _ _;exact Za ⟨_,rfl,Ya (Za h)⟩
 |none =>rw[hv]at h;show wpAny _ _ (Builtin.Dict.pendingKey? d (.str x tx) >>= _) _ _ _;exact z6 (wpAny_pendingKey_other sy (Za ⟨_,rfl,Ya (Za h)⟩))
theorem AX{Q:Value->Shared->Prop}{v:Value}(ex:o.ExactDict)(ho:s.heap.get? d=some o)(hd:o.data=.dict es ep)(hall:(es.all fun e=>isExactStrKey e.key)=true)(hv:(es.toList.find? fun e=>e.key.isStr x).map (·.val)=some v)(h:Q v { s with toks:=s.toks+1 }):wpAny (model prog w) A (getItem (.ref d) (.str x tx)) Q E s:=by
 have T:s.TypeIs (.ref d) "dict":=⟨o,ho,ex.1⟩
 unfold getItem;(try with_reducible (refine Z7 ?_))
 refine z6 (wpAny_sequenceKey T (by decide) (z6 (ZM (name:=Str.ofString "__getitem__") T slot_dict_getitem (ZR slot_dict_getitem T entry_dict_getitem ?_ (args_dict_getitem _ _)))));show wpAny _ _ (dictGet d (.str x tx) >>= _) _ _ _;refine z6 (uw ho hd hall ?_);rw[hv];exact Za ⟨v,rfl,Za h⟩
end
section
variable{X:Cx}
def Eo(K:PySem.W.Frag):R2:=fun x y H Q=>∃a k D,x=.str k/\y=.ref a/\Tab K a D/\Q (.bl (KTD.datumAt k D).isSome) H
theorem BT:QOp X (compareOp .In) (Eo X.K):=by
 refine⟨?_⟩;intro pins s σ H x y v u Q I rx ry h;obtain⟨a,k,D,rfl,rfl,T,q⟩:=h;obtain⟨t,rfl⟩:=rx;cases ry;obtain⟨sy,o,es,ep,ho,ex,hd,hr⟩:=T.at I.kIn;refine EN sy ex ho hd (by obtain⟨l⟩:=es;simpa using hr.exact) ⟨.bl (KTD.datumAt k D).isSome,H,I.tok _,?_,q⟩;cases e:KTD.datumAt k D with
 |none=>rw[hr.find_none e];rfl
 |some d=>obtain⟨v,hv,_⟩:=hr.find_some e;rw[hv];rfl
def Er(K:PySem.W.Frag):R2:=fun x y H Q=>∃a k D d,x=.ref a/\y=.str k/\Tab K a D/\KTD.datumAt k D=some d/\(match d with|.flat v=>Q v H|.tup xs=>∀t,(∀H',SqT K H' t xs)->Q (.ref t) H)
theorem FL:QIx X (Er X.K):=by
 refine⟨?_⟩;intro value slice pins s σ H x y v u Q I rx ry h hs;obtain⟨a,k,D,d,rfl,rfl,T,hk,q⟩:=h;obtain⟨t,rfl⟩:=ry;cases rx;obtain⟨sy,o,es,ep,ho,ex,hd,hr⟩:=T.at I.kIn;obtain⟨v,hv,ok⟩:=hr.find_some hk;have fin:EP X pins σ Q v { s with toks:=s.toks+1 }:=by
  cases d with
  |flat z=>exact⟨z,H,I.tok _,ok,q⟩
  |tup xs =>obtain⟨t,rfl,e⟩:=ok;exact⟨.ref t,H,I.tok _,rfl,q t e⟩
 exact subscriptTail_builtinR (x:=v) (⟨o,ho,ex.1⟩:s.TypeIs (.ref a) "dict") slot_dict_getitem.lookup (AX (Q:=fun r s'=>r=v/\EP X pins σ Q r s') ex ho hd (by obtain⟨l⟩:=es;simpa using hr.exact) hv ⟨rfl,fin⟩) hs
theorem gO{x:Str}{a:Addr}{pos:Pos}(hm:X.mg x=some (.ref a))(hg:Gl X x:=by rfl)(hd:(x==("__debug__":Str))=false:=by decide):QE X (.Name x pos) (tC (.ref a)):=⟨uc hg hm rfl hd⟩
end
open PySem PySem.Spec PyProof.Rows PySem.W
def CXr(P:Program)(w:World):CXT:=fun outer H s E e s' =>
 ∃(ea t:Addr) (C:Value) (vs:List Value) (B:Heap) (H':Hp) (dc:Option Addr),e=.ref ea/\s'.os=s.os/\AllBare s'.gens/\Un (frs outer) [] H H' s.heap s'.heap/\HOk P w H' s'.heap /\
  Heap.FlyingW B outer ea C (.ref t) s'.heap/\s'.heap.TupAt t vs/\B.get? t=none/\(∀b o,b∉frs outer->((∃u,H' b=some u)\/∃o0,s.heap.get? b=some o0)->s'.heap.get? b=some o->B.get? b=some o)/\dN s'.heap ea dc/\E C dc H'
structure ExCls(K:PySem.W.Frag)(C:Addr):Prop where
 cls:∀h,K.In h->∃nm q N bs bm hdct sn sub ab col dd k0 k1 k2 k3 k5 mN,h.get? C=some (excClassObj nm q C N bs bm hdct sn sub ab col dd k0 k1 k2 k3 k5 "ValueError.__new__")/\h.Ns N mN/\mN "__init__" = none/\bm.contains (.type "BaseException")=true /\
  OwnTail h [.type "ValueError",.type "Exception",.type "BaseException",.type "object"] bm
def wW(X:Cx)(EC:Value->Hp->Prop):Prop:=∀(pins:List (Addr×Obj)) (σ:St) (H1:Hp) (s1:Shared) (h2:Heap) (e:Addr) (C:Value) (vs:List Value),Inv X pins σ H1 s1->Heap.MadeExcOf s1.heap h2 e C vs->EC C H1->X.xe (.ref e) { s1 with heap:=h2 }
section
variable{X:Cx}{EC:Value->Hp->Prop}{C:Addr}{x:Str}{np cpos pos:Pos}{e:Expr}{es:List Expr}{ta:TA}
theorem uf(hR:wW X EC)(hc:X.calm=true)(cl:ExCls X.K C)(hm:X.mg x=some (.ref C))(ha:QA X (e::es) ta)(hg:Gl X x:=by rfl)(hs:(e::es).all aW=true:=by rfl)(hdb:(x==("__debug__":Str))=false:=by decide) :
  QS X (.Raise (some (.Call (.Name x np) (e::es) [] cpos)) none pos) (fun _ σ H=>ta σ H fun vs H1=>vs.length<=sizeLine/\EC (.ref C) H1):=by
 refine⟨?_⟩;intro pins s σ H D I h;obtain⟨nm,q,N,bs,bm,hdct,sn,sub,ab,col,dd,k0,k1,k2,k3,k5,mN,hC,hN,hni,hb,T⟩:=cl.cls X.base I.ok.mod.kin;have hs1:aW e=true:=by have:=ZU.mp hs e (by simp);exact this
 have he:=aZ (es:=es) (env:=X.env) hs1;have hpl:(backTo cpos (starEach es X.env)).any (·.1)=false:=bG (by
  rw[ZU];intro y hy;exact ZU.mp hs y (ZA _ hy))
 refine wpAny_Raise_call_subT (nm:=nm) (q:=q) (C:=C) (N:=N) (bs:=bs) (hdct:=hdct) (sn:=sn) (sub:=sub) (ab:=ab) (col:=col) (dd:=dd) (k0:=k0) (k1:=k1) (k2:=k2) (k3:=k3) (k5:=k5) PySem.F.excBase_ValueError hb (I.ok.hd hc) ?_ hni (dI I hg hm ⟨rfl,?_⟩ hdb)
 ·rw[he];show(false ||(backTo cpos (starEach es X.env)).any (·.1))=false;rw[hpl];rfl
 ·have hA:=ha.h cpos pins s σ H _ I h;rw[he]at hA ⊢;refine Calls.evalArgs_plain (thn hA fun us s1 ⟨vs,H1,I1,r1,hz,hE⟩=>⟨rfl,by rw[<-r1.length];exact hz,I1.bk _ _ hC,hN.keeps I1.bk,T.keeps I1.bk,fun h' ea hm=>hR pins σ H1 s1 h' ea _ _ I1 hm hE⟩)
end
open PySem PySem.Spec PyProof.Rows PySem.W
theorem Fun.okX{P:Program}{w:World}{K:PySem.W.Frag}{mg:Str->Option Value}{base:Heap}{x qual:Str}{st:Stmt}{f:Addr}{fd:FuncData}{N ps:List Str}{k:Nat}{sp:Sp}(F:Fun K x qual st f fd)(S:FnScope N ps (am st))(len:∀ vs H Q E,sp vs H Q E->vs.length=ps.length)(hb:∀ (cdv:Value) (A:Around) (outer:List Env) (s:Shared) (H:Hp) (vs:List V) (Q:VK) (E:XK),Room k (A.deeper (envOfC qual (am st) s.heap.objs.size f cdv))->sp vs H Q E ->
   ∃ t,QB (dq (CXr P w) P w K mg base N qual (am st) f cdv A outer s H E) (bw st) t/\t { nx:=fun _ H'=>Q .non H',rt:=Q } (start N vs) H):FnOk P w K mg base (CXr P w) (k+1) f fd ps sp:=by
 obtain⟨oc,od,kV,doc,pm,an,cdv,ct,osl,rfl,lk,hcd⟩:=F.ex;exact uY lk hcd S len fun A outer s H vs Q E hr hsp=>let⟨t,h,q⟩:=hb cdv A outer s H vs Q E hr hsp;⟨t,h.h,q⟩
structure FnX(P:Program)(w:World)(K:PySem.W.Frag)(mg:Str->Option Value)(base:Heap)(k:Nat)(x:Str)(ps:List Str)(sp:Sp):Prop where
 ex:∃f fd,FnOk P w K mg base (CXr P w) k f fd ps sp/\mg x=some (.ref f)/\PySem.W.keepIn K (.ref f)=true/\Binds K fd ps []
def XP(X:Cx)(pins:List (Addr×Obj))(σ:St)(E:XK)(e:Value)(s':Shared):Prop:=∃s0 H0,Inv X pins σ H0 s0/\CXr X.prog X.w X.stack H0 s0 E e s'
abbrev TX:=St->Hp->VK->XK->Prop
structure QX(X:Cx)(e:Expr)(t:TX):Prop where
 h:∀(pins:List (Addr×Obj)) (s:Shared) (σ:St) (H:Hp) (Q:VK) (E:XK),Inv X pins σ H s->t σ H Q E->wpAny (model X.prog X.w) X.A (eval e X.env) (EP X pins σ Q) (XP X pins σ E) s
abbrev TSX:=Ends->St->Hp->XK->Prop
structure QSX(X:Cx)(st:Stmt)(t:TSX):Prop where
 h:∀(pins:List (Addr×Obj)) (s:Shared) (σ:St) (H:Hp) (D:Ends) (E:XK),Inv X pins σ H s->t D σ H E->wpAny (model X.prog X.w) X.A (exec st X.env) (SP X pins D) (XP X pins σ E) s
section
variable{X:Cx}{e:Expr}{tx:TX}{pos pos':Pos}{x:Str}
theorem yN{i:Nat}(hN:X.N.Nodup)(he:QX X e tx)(hi:X.N[i]?=some x:=by rfl)(hx:Loc X.env.scope x:=by first|exact Or.inl rfl|exact Or.inr rfl)(hs:swapsWith e (some (.Name x pos')) pos.line X.env=pure false:=by rfl)(hf:X.fn x=true\/X.env.scope.names.lookup x=some .local:=by first|exact .inl rfl|exact .inr rfl):QSX X (.Assign [.Name x pos'] e pos) (fun D σ H E=>tx σ H (fun v H1=>D.nx (σ.set i (some v)) H1) E):=by refine⟨?_⟩;intro pins s σ H D E I h;exact wpAny_Assign_Name (thn (he.h pins s σ H _ E I h) fun v s1 ⟨y,H1,I1,r1,q1⟩=>iR I1 hN hi hx r1 (fun s2 I2=>⟨_,H1,I2,q1⟩) hf) hs
theorem CC(he:QX X e tx)(hs:swapsWith e none pos.line X.env=pure false:=by rfl):QSX X (.Expr e pos) (fun D σ H E=>tx σ H (fun _ H1=>D.nx σ H1) E):=by refine⟨?_⟩;intro pins s σ H D E I h;exact wpAny_Expr_any (thn (he.h pins s σ H _ E I h) fun v s1 ⟨y,H1,I1,r1,q1⟩=>⟨σ,H1,I1,q1⟩) I.quiet hs
end
structure Fl(X:Cx)(H0 H':Hp)(s0 s':Shared)(B:Heap):Prop where
 os:s'.os=s0.os
 bare:AllBare s'.gens
 un:Un (frs X.stack) [] H0 H' s0.heap s'.heap
 hok:HOk X.prog X.w H' s'.heap
 kb:∀b o,b∉frs X.stack->((∃u,H' b=some u)\/∃o0,s0.heap.get? b=some o0)->s'.heap.get? b=some o->B.get? b=some o
section
variable{X:Cx}{pins:List (Addr×Obj)}{σ:St}{H0 H':Hp}{s0 s':Shared}{B h':Heap}
theorem Fl.inv(F:Fl X H0 H' s0 s' B)(I:Inv X pins σ H0 s0):Inv X pins σ H' s':=I.call' F.os F.un F.hok F.bare fun _ z=>nomatch z
theorem Fl.nf(F:Fl X H0 H' s0 s' B)(I:Inv X pins σ H0 s0){b:Addr}{u:HO}(h:H' b=some u):b∉frs X.stack:=fun hm=>by have:=(F.inv I).stkFree b hm;rw[h]at this;cases this
theorem Fl.move{tk:Nat}(F:Fl X H0 H' s0 s' B)(I:Inv X pins σ H0 s0)(st:B.StaysIn h')(up:s'.heap.UpToSlots h'):Fl X H0 H' s0 { s' with heap:=h',toks:=tk } B:=by
 have kp:∀b o,b∉frs X.stack->((∃u,H' b=some u)\/∃o0,s0.heap.get? b=some o0)->s'.heap.get? b=some o->h'.get? b=some o:=fun b o h1 h2 h3=>st b o (F.kb b o h1 h2 h3);have sl:∀b o,b∈frs X.stack->s'.heap.get? b=some o->∃sl,h'.get? b=some { o with slots:=sl }:=fun b o hm q=>by obtain⟨_,o',ho',hd⟩:=(F.inv I).stack.mem hm;have e:s'.heap.get? b=some o':=ho';rw[q]at e;cases e;exact up b o q hd
 refine⟨F.os,F.bare,⟨fun b o q n hb hx=>kp b o hb (.inr ⟨o,q⟩) (F.un.keep b o q n hb hx),fun b o q n hb hx=>?_,F.un.free,fun b o q hx=>?_,F.un.tups,F.un.frzs,F.un.tbls⟩,fun b u q=>?_,fun b o hb ho q=>?_⟩
 ·obtain⟨s1,e1⟩:=F.un.slot b o q n hb hx;obtain⟨s2,e2⟩:=sl b _ hb e1;exact⟨s2,e2⟩
 ·obtain⟨o',e1⟩:=F.un.there b o q hx;by_cases hb:b∈frs X.stack
  ·obtain⟨s2,e2⟩:=sl b o' hb e1;exact⟨_,e2⟩
  ·exact⟨o',kp b o' hb (.inr ⟨o,q⟩) e1⟩
 ·refine(F.hok b u q).stay (fun c v hc z=>kp c v ?_ ?_ z) (fun _ z=>z) fun _ _ z=>z
  ·rcases hc with z'|z'
   ·rw[z'];exact F.nf I q
   ·exact F.nf I z'
  ·rcases hc with z'|z'
   ·rw[z'];exact .inl ⟨u,q⟩
   ·exact .inl ⟨_,z'⟩
 ·obtain⟨o1,q1⟩:∃o1,s'.heap.get? b=some o1:=by
   rcases ho with⟨u,z⟩|⟨o0,z⟩
   ·exact eL (F.hok b u z)
   ·exact F.un.there b o0 z (by simp)
  have q2:=kp b o1 hb ho q1;have q':h'.get? b=some o:=q;rw[q']at q2;cases q2;exact F.kb b o hb ho q1
end
structure ExC(K:PySem.W.Frag)(C:Addr)(bm:List Value):Prop where
 cls:∀h,K.In h->∃nm q N bs hdct sn sub ab col dd k0 k1 k2 k3 k5 ni,h.get? C=some (excClassObj nm q C N bs bm hdct sn sub ab col dd k0 k1 k2 k3 k5 ni)
 exc:bm.contains (.type "BaseException")=true
theorem gL{M:Model}{A:Around}{E:Value->Shared->Prop}{s:Shared}{e C T:Addr}{oe:Obj}{bmC bmT:List Value}{K:PySem.W.Frag}{Q:Bool->Shared->Prop}(hC:ExC K C bmC)(hT:ExC K T bmT)(hk:K.In s.heap)(he:s.heap.get? e=some oe)(hcls:oe.cls=.ref C)(hq:Q ((Value.ref C::bmC).contains (.ref T)) s):wpAny M A (excMatches (.ref e) (.ref T)) Q E s:=by
 obtain⟨nm,q,N,bs,hdct,sn,sub,ab,col,dd,k0,k1,k2,k3,k5,ni,oC⟩:=hC.cls _ hk;obtain⟨nm',q',N',bs',hdct',sn',sub',ab',col',dd',k0',k1',k2',k3',k5',ni',oT⟩:=hT.cls _ hk;obtain⟨hp,g,d,tk,os⟩:=s;have hcB:(Value.ref T::bmT).contains (.type "BaseException")=true:=by rw[List.contains_cons,hT.exc,Bool.or_true]
 have f:=tc_notTuple;unfold excMatches;generalize hr:(Value.ref C::bmC).contains (Value.ref T)=r at hq
 repeat(first|(with_reducible refine YY he ?_;rw[hcls])|with_reducible refine YY oT ?_|(with_reducible refine wpAny_isSubtype_exc oT ?_;rw[hcB])|(with_reducible refine wpAny_isSubtype_exc oC ?_;rw[hr])|wp_step)
 cases r<;>(first|exact hq|(wp_walk;exact hq))
theorem gJ{X:Cx}{pins:List (Addr×Obj)}{σ:St}{H:Hp}{s:Shared}{M:Model}{A:Around}{E:Value->Shared->Prop}{i:Nat}{n:Str}{pos:Pos}{Q:Unit->Shared->Prop}(I:Inv X pins σ H s)(hN:X.N.Nodup)(hi:X.N[i]?=some n)(hl:X.env.kindOf n=some .local)(h:∀s',Inv X pins (σ.set i none) H s'->Q () s'):wpAny M A (do bindName X.env n .none;unbindBehindTheSuite X.env n pos) Q E s:=by
 obtain⟨m,hn,hv⟩:=id I.loc;refine wpAny_nameGoes_keeps hl hn (by rw[I.ok.kind];rfl) fun h' v hn' hs=>h _ ?_;obtain⟨oL,_,_,hoL,_⟩:=id hn;have cne:=I.cne;have lt:∀b o,X.s₀.heap.get? b=some o->b≠X.env.locals:=fun b o q=>Zt (Zn (Zk q) I.ok.above);refine⟨I.ok,I.os,I.bare,⟨fun b o e n hb hx=>(hs.2 b (lt b o e)).trans (I.base.keep b o e n hb hx),fun b o e n hb hx=>?_,I.base.free,fun b o e hx=>?_,I.base.tups,I.base.frzs,I.base.tbls⟩,⟨_,hn',fun j y v' e1 e2 e3=>?_⟩,fun y c e=>?_,I.free,I.freeC,fun p hp=>?_,fun b u q=>?_,by simpa using I.len⟩
 ·obtain⟨sl,e1⟩:=I.base.slot b o e n hb hx;exact⟨sl,(hs.2 b (lt b o e)).trans e1⟩
 ·obtain⟨o',e1⟩:=I.base.there b o e hx;exact⟨o',(hs.2 b (lt b o e)).trans e1⟩
 ·have hj:j≠i:=fun z=>by
   subst z;have hz:j<σ.length:=by have:=(ZF.mp e2).1;simpa using this
   rw[List.getElem?_set_self hz]at e2;cases e2
  rw[List.getElem?_set_ne (Yk hj)]at e2;obtain⟨u',r',q⟩:=hv j y v' e1 e2 e3;refine⟨u',r',?_⟩;rcases q with⟨k,e⟩|⟨k,c,e,z⟩
  ·refine .inl ⟨k,?_⟩;have:y≠n:=fun e=>hj (kQ hN e1 (e▸hi));simp[this,e]
  ·exact .inr ⟨k,c,e,z.sameBut hs (cne y c e)⟩
 ·obtain⟨w',z⟩:=I.cell y c e;exact⟨w',z.sameBut hs (cne y c e)⟩
 ·obtain⟨e,n,ne,nf,d⟩:=I.pin p hp;exact⟨(hs.2 p.1 ne).trans e,n,ne,nf,d⟩
 ·refine(I.hok b u q).stay (fun c w' hc z=>(hs.2 c ?_).trans z) (fun _ z=>z) fun _ _ z=>z;rintro rfl;rcases hc with z'|z'
  ·rw[<-z',I.free]at q;cases q
  ·rw[I.free]at z';cases z'
def Cx.exc(X:Cx)(e:Value):Cx:={ X with A:=X.A.mark (some e),calm:=false,xe:=fun _ _=>False }
section
variable{X:Cx}{pins:List (Addr×Obj)}{σ:St}{H:Hp}{s:Shared}{e:Value}
theorem Inv.exc(I:Inv X pins σ H s)(e:Value):Inv (X.exc e) pins σ H s :=
 ⟨⟨I.ok.mod,I.ok.kind,I.ok.glob,I.ok.blt,I.ok.above,I.ok.inj,I.ok.has,I.ok.cab,fun z=>(nomatch z),I.ok.frames,I.ok.stk,I.ok.exf,I.ok.bs,I.ok.bsz,I.ok.noex,I.ok.exfs,I.ok.funs,I.ok.frf⟩,I.os,I.bare,I.base,I.loc,I.cell,I.free,I.freeC,I.pin,I.hok,I.len⟩
theorem Inv.unexc(ok:X.Ok)(I:Inv (X.exc e) pins σ H s):Inv X pins σ H s:=⟨ok,I.os,I.bare,I.base,I.loc,I.cell,I.free,I.freeC,I.pin,I.hok,I.len⟩
end
abbrev TH:=Ends->St->Value->Option Addr->Hp->Prop
structure QH(X:Cx)(hs:List ExceptHandler)(th:TH):Prop where
 h:∀(pins:List (Addr×Obj)) (s0:Shared) (H0:Hp) (σ:St) (D:Ends) (ea t:Addr) (C:Value) (B:Heap) (H':Hp) (dc:Option Addr) (s':Shared),Inv X pins σ H0 s0->Fl X H0 H' s0 s' B->Heap.FlyingW B X.stack ea C (.ref t) s'.heap->dN s'.heap ea dc->th D σ C dc H' ->
  wpAny (model X.prog X.w) X.A (handleBy (.ref ea) X.env hs) (SP X pins D) X.xe s'
section
variable{X:Cx}
def Gc(tb:TSX)(th:TH):TS:=fun D σ H=>tb D σ H fun C dc H1=>th D σ C dc H1
theorem rF{st:Stmt}{tb:TSX}{th:TH}{h0:ExceptHandler}{hs:List ExceptHandler}{pos:Pos}(hst:X.stack=X.env::X.outer)(hfr:X.env.frame=some X.env.locals)(hb:QSX X st tb)(hh:QH X (h0::hs) th) :
  QS X (.Try [st] (h0::hs) [] [] pos) (Gc tb th):=by
 refine⟨?_⟩;intro pins s σ H D I h;refine wpAny_Try_except (wpAny_execs_cons (ZL (hb.h pins s σ H D _ I h) (fun f s1 q=>?_) (fun e s1 x=>?_)))
 ·cases f with
  |next=>exact wpAny_execs_nil (wpAny_execs_nil q)
  |brk=>exact q
  |cont=>exact q
  |ret v=>exact q
 ·obtain⟨s0,H0,I0,ea,t,C,vs,B,H',dc,rfl,os,bare,un,hok,fly,tup,hBt,kb,dd,q⟩:=x;have F:Fl X H0 H' s0 s1 B:=⟨os,bare,un,hok,kb⟩
  have fr:X.A.frames=some (X.env::X.outer):=by rw[<-hst];exact I.ok.frames
  rw[hst]at fly;refine mi fr hfr fly dd fun h4 held up4 dd4=>?_;obtain⟨f1,f2,f3,f4⟩:=held;refine fB f1 f3 f4 dd4 fun h5 k1 k2 k3 up5 dd5=>?_;have F5:=(F.move (tk:=s1.toks) I0 k1 (up4.trans up5))
  rw[<-hst]at k2;exact hh.h pins s0 H0 σ D ea t C B H' dc _ I0 F5 ⟨k1,f2,k2,k3⟩ dd5 q
end
open PySem PySem.Spec PyProof.Rows PySem.W
abbrev VE:List Value:=[.type "ValueError",.type "Exception",.type "BaseException",.type "object"]
structure ExcAt(K:PySem.W.Frag)(C:Addr)(bm:List Value):Prop where
 isIn:excIn K C VE "ValueError.__new__" = true
 mro:∃c d cd sl,K.lookup C=some ⟨c,d,.cls cd,sl⟩/\cd.mro=Value.ref C::bm
 exc:bm.contains (.type "BaseException")=true
theorem oS{K:PySem.W.Frag}{C:Addr}{bm:List Value}(q:ExcAt K C bm){h:Heap}(X:K.In h) :
  ∃nm qn N bs hdct sn sub ab col dd k0 k1 k2 k3 k5 mN,h.get? C=some (excClassObj nm qn C N bs bm hdct sn sub ab col dd k0 k1 k2 k3 k5 "ValueError.__new__")/\h.Ns N mN/\mN "__init__" = none/\OwnTail h VE bm:=by
 have q1:=q.isIn;obtain⟨c9,d9,cd9,sl9,l9,m9⟩:=q.mro;unfold excIn at q1;split at q1
 ·rename_i dd cd sl ho;split at q1
  ·rename_i C' bm' k0 k1 k2 k3 n k5 hm hs;have q2:cd.mro=Value.ref C::bm:=by have z:=ho.symm.trans l9;cases z;exact m9
   rw[hm]at q2;injection q2 with z1 z2;injection z1 with z1;cases z1;cases z2;simp only[Zx,Z2,Bool.not_eq_true']at q1;obtain⟨⟨⟨⟨⟨_,rfl⟩,nd⟩,ht⟩,ok⟩,ni⟩:=q1;have es:sl=#[k0,k1,k2,k3,some (.builtin "ValueError.__new__"),k5]:=by obtain⟨l⟩:=sl;simp only at hs;rw[hs]
   cases es;obtain⟨nm,bs,mro,ns,qn,hd,sn,sub,ab,col,del⟩:=cd;dsimp only at hm nd ok ni;cases hm;cases nd;exact⟨nm,qn,ns,bs,hd,sn,sub,ab,col,dd,k0,k1,k2,k3,k5,_,X _ _ ho,.of_isNs (isNs_of_in X ok),nsMap_none_of_in X ok ni,tail_of_in X ht⟩
  ·cases q1
 ·cases q1
theorem ja{K:PySem.W.Frag}{C:Addr}{bm:List Value}(q:ExcAt K C bm):ExC K C bm where
 cls:=fun h X=>by obtain⟨nm,qn,N,bs,hdct,sn,sub,ab,col,dd,k0,k1,k2,k3,k5,mN,e,_⟩:=oS q X;exact⟨nm,qn,N,bs,hdct,sn,sub,ab,col,dd,k0,k1,k2,k3,k5,_,e⟩
 exc:=q.exc
theorem zO{K:PySem.W.Frag}{C:Addr}{bm:List Value}(q:ExcAt K C bm):ExCls K C where
 cls:=fun h X=>by obtain⟨nm,qn,N,bs,hdct,sn,sub,ab,col,dd,k0,k1,k2,k3,k5,mN,e,e2,e3,e4⟩:=oS q X;exact⟨nm,qn,N,bs,bm,hdct,sn,sub,ab,col,dd,k0,k1,k2,k3,k5,mN,e,e2,e3,(ja q).exc,e4⟩
theorem lJ:bootBuiltins "ValueError" = some (.type "ValueError"):=by decide +kernel
structure ExK(K:PySem.W.Frag)(c:Addr):Prop where
 hc:(clsIn K c).isSome=true
 hga:findIn K (.ref c) "__getattribute__" = some (some (.builtin "BaseException.__getattribute__"))
 hgh:findIn K (.ref c) "__getattr__" = some none
 ha:findIn K (.ref c) "__class__" = some (some (.builtin "object.__class__"))
 hb:mroIn K c (.type "BaseException")=some true
 hm:mroIn K c (.type "object")=some true
open PySem PySem.Spec PyProof.Rows PySem.W
theorem zI{J:It}{N n:Nat}{cap:List Nat}{g:TG}{te:TE}{σ:St}{H0:Hp}{Q:VK}(Pv:Nat->List V->Hp->Prop)(hz:N<=1000)(hn:∀i ys H,Pv i ys H->ys.length=i)(h0:Pv 0 [] H0)(hgo:∀i ys H,i<N->Pv i ys H->J.go i H)(hst:∀ys H,Pv N ys H->J.stop N H)(ht:∀i ys H x H',i<N->Pv i ys H->J.yld i H x H'->∀A:VK,(∀v H4,Pv (i+1) (ys++[v]) H4->A v H4)->g x (be n cap σ) H' fun σ2 H2=>te σ2 H2 A)(hq:∀ys p H,Pv N ys H->H p=none->Q (.ref p) (upd H p (.lst ys))):bS n cap g eE te σ J H0 Q:=by
 refine⟨fun i m ys H=>m=N-i/\i<=N/\Pv i ys H,⟨N,by simp,ZV _,h0⟩,?_⟩;rintro i m ys H ⟨rfl,hi,pv⟩;by_cases hlt:i<N
 ·refine .inr ⟨hgo i ys H hlt pv,by rw[hn i ys H pv];exact dM (by omega),fun x H' y=>?_⟩;have k:=ht i ys H x H' hlt pv y (fun v H4=>∃m',m'<N-i/\m'=N-(i+1)/\i+1<=N/\Pv (i+1) (ys++[v]) H4) (fun v H4 z=>⟨N-(i+1),by omega,rfl,hlt,z⟩);unfold eE;simpa using k
 ·have e:i=N:=by omega
  subst e;exact .inl ⟨hst ys H pv,fun p hp=>hq ys p H pv hp⟩
open PySem PySem.Spec PyProof.Rows PySem.W
section
variable{X:Cx}{K:PySem.W.Frag}
theorem Dx:QOp X (binaryOp .Mult) (fun x y H Q=>∃(z:Str) (n:Int),x=.str z/\y=.int n/\z.length=1/\1<=n/\n<=1000/\∀y:Str,y.length=n.toNat->(∀c∈y.cps.toList,c∈z.cps.toList)->Q (.str y) H):=by
 refine⟨?_⟩;intro pins s σ H x y v u Q I rx ry h;obtain⟨z,n,rfl,rfl,hz,n1,n2,q⟩:=h;obtain⟨t,rfl⟩:=rx;obtain⟨t',rfl⟩:=ry;have fl:∀(k:Nat) (acc:Array Nat),((List.replicate k z.cps).foldl (·++·) acc)=acc++(List.replicate k z.cps.toList).flatten.toArray:=fun k=>by
  induction k with
  |zero=>intro acc;simp
  |succ k ih =>intro acc;rw[YD,List.foldl_cons,ih,YD,Yu,Array.append_assoc];congr 1;apply Array.toList_inj.mp;rw[Zz]
 have ln:∀k:Nat,((List.replicate k z.cps.toList).flatten).length=k:=fun k=>by
  have e:z.cps.toList.length=1:=hz;induction k with
  |zero=>rfl
  |succ k ih =>rw[YD,Yu,Zj,ih,e];omega
 refine PySem.P.mul_str ?_ (fun _ _=>?_) (fun _ _=>?_) ?_
 ·have h1:¬n < -(2^63:Int):=by omega
  have h2:¬n>=2^63:=by omega
  rw[decide_eq_false h1,decide_eq_false h2];rfl
 ·rw[hz];have:(1:Int)<=(2^63-1) / n:=by rw[Int.le_ediv_iff_mul_le (by omega)];omega
  omega
 ·rw[hz];unfold Builtin.Str.tooLong;have:=cK (show 1*n.toNat<=1000 by omega);simp only[decide_eq_false_iff_not];omega
 ·rw[HH (by omega)];split
  ·rename_i hc;rw[hz]at hc;have:n=1:=by simpa using hc
   subst this;exact⟨.str z,H,I,⟨_,rfl⟩,q z hz (fun c hc=>hc)⟩
  ·rw[fl];have e:((#[]:Array Nat)++(List.replicate n.toNat z.cps.toList).flatten.toArray)=(List.replicate n.toNat z.cps.toList).flatten.toArray:=by simp
   rw[e];refine⟨cK (by show(List.flatten _).toArray.size<=1000;rw[Zg,ln];omega),.str _,H,I.tok _,⟨_,rfl⟩,q _ (by show(List.flatten _).toArray.size=_;rw[Zg,ln]) (fun c hc=>?_)⟩;have hc':c∈(List.replicate n.toNat z.cps.toList).flatten:=hc;obtain⟨l,hl,hm⟩:=List.mem_flatten.mp hc';rw[(List.mem_replicate.mp hl).2]at hm;exact hm
end
open PySem PySem.Spec PyProof.Rows PySem.W
open PySem PySem.Spec PyProof.Rows PySem.W
def KIn{α:Type}(n:Nat)(P:α->Prop):KasT α->Prop
 |.ret a=>P a
 |.ask i j k=>i<n/\j<n/\∀b,KIn n P (k b)
theorem KIn.bind{α β:Type}{n:Nat}{P:α->Prop}{R:β->Prop}{f:α->KasT β}:∀{t:KasT α},KIn n P t->(∀a,P a->KIn n R (f a))->KIn n R (t.bind f)
 |.ret _,h,k=>k _ h
 |.ask _ _ _,⟨h1,h2,h3⟩,k=>⟨h1,h2,fun b=>KIn.bind (h3 b) k⟩
def POk(n:Nat)(p:Array Nat):Prop:=p.Perm (List.range n).toArray
theorem POk.lt{n:Nat}{p:Array Nat}(h:POk n p)(hn:0<n)(k:Nat):p.getD k 0<n:=by
 rw[ZN];cases e:p[k]? with
 |none=>exact hn
 |some x =>have hm:x∈p:=Array.mem_of_getElem? e;have:=(h.mem_iff).mp hm;simpa using this
theorem POk.rev{n:Nat}{p:Array Nat}(h:POk n p)(i j:Nat):POk n (kas_rev p i j):=(mirror_perm p i j _).trans h
theorem POk.bub{n:Nat}{p:Array Nat}(h:POk n p)(i j:Nat):POk n (bubble p i j):=(bubble_perm p i j).trans h
theorem nJ{n:Nat}(hn:0<n){p:Array Nat}(h:POk n p):∀f k,KIn n (fun _=>True) (kas_asc p f k)
 |0,_=>trivial
 | f+1,k=>⟨h.lt hn _,h.lt hn _,fun c=>by
  cases c with
  |true=>exact trivial
  | false=>exact nJ hn h f (k+1)⟩
theorem iB{n:Nat}(hn:0<n):∀(f:Nat) {p:Array Nat},POk n p->∀k q,KIn n (fun r=>POk n r.1) (kas_desc f p k q)
 |0,_,h,_,_=>h
 |f+1,p,h,k,q=>by
  refine⟨h.lt hn _,h.lt hn _,fun c=>?_⟩;cases c with
  |true =>
   show KIn n _ (if q>0 then _ else _);split
   ·exact iB hn f (h.rev _ _) _ _
   ·exact iB hn f h _ _
  |false =>
   refine⟨h.lt hn _,h.lt hn _,fun d=>?_⟩;cases d with
   |true=>exact h
   |false=>exact iB hn f h _ _
theorem qP{n:Nat}(hn:0<n){p:Array Nat}(h:POk n p)(k r:Nat):KIn n (fun r=>POk n r.2) (kas_tail3 k r p):=KIn.bind (nJ hn (h.rev 0 k) _ _) fun _ _=>h.rev 0 k
theorem ji{n:Nat}(hn:0<n){p:Array Nat}(h:POk n p)(k r:Nat):KIn n (fun r=>POk n r.2) (kas_descPart k r p):=KIn.bind (iB hn _ h _ _) fun x hx=>by
 show KIn n _ (if x.2.2>0 then _ else _);split
 ·exact qP hn (hx.rev _ _) _ _
 ·exact qP hn hx _ _
theorem xJ{n:Nat}(hn:0<n){p:Array Nat}(h:POk n p)(r:Nat):KIn n (fun r=>POk n r.2) (kas_count r p):=KIn.bind (nJ hn h _ _) fun k _=>by
 show KIn n _ (if(k==r)=true then _ else if k>1 then _ else _);split
 ·exact h
 ·split
  ·refine⟨h.lt hn _,h.lt hn _,fun c=>?_⟩;cases c with
   |true=>exact h
   |false=>exact ji hn (h.rev _ _) _ _
  ·exact ji hn h _ _
theorem jj{n:Nat}(hn:0<n){p:Array Nat}(h:POk n p)(k:Nat):∀f l r,KIn n (fun _=>True) (kas_place p k f l r)
 |0,_,_=>trivial
 |f+1,l,r=>by
  show KIn n _ (if l>=r then _ else _);split
  ·exact trivial
  ·refine⟨h.lt hn _,h.lt hn _,fun c=>?_⟩;cases c with
   |true=>exact jj hn h k f _ _
   |false=>exact jj hn h k f _ _
theorem tQ{n:Nat}(hn:0<n):∀(f:Nat) {p:Array Nat},POk n p->∀k,KIn n (POk n) (kas_bin f p k)
 |0,_,h,_=>h
 |f+1,_,h,k=>KIn.bind (jj hn h k _ _ _) fun _ _=>tQ hn f (h.bub _ _) (k+1)
theorem zY{n:Nat}(hn:0<n):KIn n (POk n) (kas_sort n):=KIn.bind (xJ hn (Array.Perm.refl _) _) fun r hr=>by
 show KIn n _ (if r.1<n then _ else _);split
 ·exact tQ hn _ hr _
 ·exact hr
section
variable{X:Cx}
theorem C4{K:PySem.W.Frag}(hK:X.K=K)(hc:X.calm=true):QCall X (.builtin "sum") (fun xs H Q=>∃(p:Addr) (ns:List Int),xs=[.ref p]/\SqT K H p (ns.map V.int)/\Q (.int ns.sum) H):=by
 subst hK;refine⟨?_⟩;intro pins s σ H xs us Q I r h;obtain⟨p,ns,rfl,hS,q⟩:=h;obtain⟨u,rfl,ru⟩:=df r;cases ru;obtain⟨its,rv,pl,hz⟩:=I.tuple hS;obtain⟨ys,e1,e2⟩:=lX (cm rv);have hl:s.heap.IsTuple p (intItems ys.toArray):=by obtain⟨o,ho,hc',n,hd⟩:=pl;rw[e1]at hd;exact⟨o,ho,hc',n,by simpa[intItems]using hd⟩
 refine ktm_sumG (I.ok.hd hc) hl fun h' tk t' hk=>⟨.int ns.sum,H,I.kept (t':=tk) hk,⟨t',?_⟩,q⟩
 have e:preSum (numAt ys.toArray) ys.toArray.size=ns.sum:=by rw[preSum_eq,Yd (by simp),e2]
 rw[e]
end
open PySem PySem.Spec PyProof.Rows PySem.W
def KW{α:Type}(lt:Nat->Nat->Bool)(Q:α->Prop):KasT α->Prop
 |.ret a=>Q a
 |.ask i j k=>KW lt Q (k (lt i j))
theorem KW.bind{α β:Type}{lt:Nat->Nat->Bool}{Q:β->Prop}{f:α->KasT β}:∀{t:KasT α},KW lt (fun a=>KW lt Q (f a)) t->KW lt Q (t.bind f)
 |.ret _,h=>h
 |.ask i j k,h=>KW.bind (t:=k (lt i j)) h
theorem KW.mono{α:Type}{lt:Nat->Nat->Bool}{Q R:α->Prop}(k:∀a,Q a->R a):∀{t:KasT α},KW lt Q t->KW lt R t
 |.ret _,h=>k _ h
 |.ask i j c,h=>KW.mono k (t:=c (lt i j)) h
structure LtOk(lt:Nat->Nat->Bool):Prop where
 as:∀{a b},lt a b=true->lt b a=false
 tr:∀{a b c},lt b a=false->lt c b=false->lt c a=false
def gA(p:Array Nat)(k:Nat):Nat:=p.getD k 0
def Lx(lt:Nat->Nat->Bool)(a b:Nat):Prop:=lt b a=false/\(lt a b=true\/a<b)
section
variable{lt:Nat->Nat->Bool}(O:LtOk lt)
include O
theorem LtOk.lt_le{a b c:Nat}(h:lt a b=true)(h2:lt c b=false):lt a c=true:=by
 cases e:lt a c with
 |true=>rfl
 |false=>rw[O.tr h2 e]at h;cases h
theorem LtOk.le_lt{a b c:Nat}(h:lt b a=false)(h2:lt b c=true):lt a c=true:=by
 cases e:lt a c with
 |true=>rfl
 |false=>rw[O.tr e h]at h2;cases h2
theorem Lx.trans{a b c:Nat}(h:Lx lt a b)(k:Lx lt b c):Lx lt a c:=by
 refine⟨O.tr h.1 k.1,?_⟩;rcases h.2 with x|x
 ·exact .inl (O.lt_le x k.1)
 ·rcases k.2 with y|y
  ·exact .inl (O.le_lt h.1 y)
  ·exact .inr (Nat.lt_trans x y)
theorem Lx.of_lt{a b:Nat}(h:lt a b=true):Lx lt a b:=⟨O.as h,.inl h⟩
end
structure Fx(N:Nat)(p:Array Nat)(m:Nat):Prop where
 sz:p.size=N
 hi:∀k,m<=k->k<N->gA p k=k
 lo:∀i,i<m->gA p i<m
def LS(lt:Nat->Nat->Bool)(p:Array Nat)(m:Nat):Prop:=∀i j,i<j->j<m->Lx lt (gA p i) (gA p j)
def AS(lt:Nat->Nat->Bool)(p:Array Nat)(m:Nat):Prop:=∀i j,i<j->j<m->Lx lt (gA p j) (gA p i)
theorem Fx.succ{N:Nat}{p:Array Nat}{m:Nat}(h:Fx N p m)(hm:m<N):Fx N p (m+1):=⟨h.sz,fun k h1 h2=>h.hi k (by omega) h2,fun i hi=>by
 rcases Z8 i m with h1|h1
 ·have:=h.lo i h1;omega
 ·have e:i=m:=by omega
  subst e;rw[h.hi i (Zb _) hm];omega⟩
theorem cC{p:Array Nat}{i j k:Nat}(hj:j<=p.size):gA (kas_rev p i j) k=if i<=k/\k<j then gA p (i+j-1-k)else gA p k:=by
 unfold gA kas_rev;rw[ZN,getElem?_mirror_all hj];split
 ·rw[ZN]
 ·rw[ZN]
theorem gG(p:Array Nat)(k:Nat):gA p k=(p[k]?).getD 0:=by unfold gA;rw[ZN]
theorem xA{p:Array Nat}{k d i:Nat}(hk:k<p.size)(hd:d<=k):gA (bubble p k d) i=if i=k-d then gA p k else if k-d<i/\i<=k then gA p (i-1)else gA p i:=by
 rw[gG,getElem?_bubble hk d hd];split
 ·rw[gG]
 ·split
  ·rw[gG]
  ·rw[gG]
theorem Fx.rev{N:Nat}{p:Array Nat}{m i j:Nat}(h:Fx N p m)(hj:j<=m)(hm:m<=N):Fx N (kas_rev p i j) m:=by
 have hs:j<=p.size:=by rw[h.sz];omega
 refine⟨by rw[kas_rev_size];exact h.sz,fun k h1 h2=>?_,fun k hk=>?_⟩
 ·rw[cC hs,HH (by omega)];exact h.hi k h1 h2
 ·rw[cC hs];split
  ·exact h.lo _ (by omega)
  ·exact h.lo _ hk
section
variable{lt:Nat->Nat->Bool}(O:LtOk lt){N:Nat}
include O
theorem LS.step{p:Array Nat}{n:Nat}(h:LS lt p n)(hx:Lx lt (gA p (n-1)) (gA p n))(h1:1<=n):LS lt p (n+1):=fun i j hij hj=>by
 rcases Z8 j n with h2|h2
 ·exact h i j hij h2
 ·have e:j=n:=by omega
  subst e;rcases Z8 i (j-1)with h3|h3
  ·exact(h i (j-1) h3 (by omega)).trans O hx
  ·have e:i=j-1:=by omega
   subst e;exact hx
theorem qQ{p:Array Nat}:∀(f n:Nat),1<=n->n+f<=N->Fx N p n->LS lt p n->KW lt (fun m=>n<=m/\m<=n+f/\Fx N p m/\LS lt p m/\(m<n+f->lt (gA p m) (gA p (m-1))=true)) (kas_asc p f n)
 |0,n,_,_,hf,hs=>⟨Zb _,Zb _,hf,hs,fun h=>absurd h (by omega)⟩
 |f+1,n,h1,hN,hf,hs=>by
  show KW lt _ (if lt (gA p n) (gA p (n-1))=true then .ret n else kas_asc p f (n+1));by_cases c:lt (gA p n) (gA p (n-1))=true
  ·rw[HK c];exact⟨Zb _,by omega,hf,hs,fun _=>c⟩
  ·rw[HH c];have c':=Z4.mpr c;have hx:Lx lt (gA p (n-1)) (gA p n):=⟨c',.inr (by rw[hf.hi n (Zb _) (by omega)];exact hf.lo _ (by omega))⟩
   refine KW.mono (fun m hm=>?_) (qQ f (n+1) (by omega) (by omega) (hf.succ (by omega)) (hs.step O hx h1));exact⟨by omega,by omega,hm.2.2.1,hm.2.2.2.1,fun z=>hm.2.2.2.2 (by omega)⟩
theorem AS.rev{p:Array Nat}{n:Nat}(h:AS lt p n)(hn:n<=p.size):LS lt (kas_rev p 0 n) n:=fun i j hij hj=>by rw[cC hn,cC hn,HK (by omega),HK (by omega)];exact h _ _ (by omega) (by omega)
theorem tU{p:Array Nat}{n:Nat}(h1:1<=n)(hN:n<=N)(hf:Fx N p n)(ha:AS lt p n):KW lt (fun r=>r.1<=N/\1<=r.1/\Fx N r.2 r.1/\LS lt r.2 r.1) (kas_tail3 n N p):=by refine KW.bind (KW.mono (fun m hm=>?_) (qQ O (N:=N) (N-n) n h1 (by omega) (hf.rev (Zb _) hN) (ha.rev O (by rw[hf.sz];exact hN))));exact⟨by omega,by omega,hm.2.2.1,hm.2.2.2.1⟩
structure Dn(lt:Nat->Nat->Bool)(p:Array Nat)(n q:Nat):Prop where
 hq:q+1<=n
 up:∀i j,i<j->j<n-(q+1)->Lx lt (gA p j) (gA p i)
 cr:∀i j,i<n-(q+1)->n-(q+1)<=j->j<n->lt (gA p j) (gA p i)=true
 eq:∀i j,n-(q+1)<=i->i<j->j<n->lt (gA p i) (gA p j)=false/\lt (gA p j) (gA p i)=false/\gA p i<gA p j
theorem Dn.rev{p:Array Nat}{n q:Nat}(h:Dn lt p n q)(hn:n<=p.size):AS lt (kas_rev p (n-(q+1)) n) n:=fun i j hij hj=>by
 have hq:=h.hq;rw[cC hn,cC hn];by_cases c1:n-(q+1)<=i
 ·rw[HK (by omega),HK (by omega)];obtain⟨e1,e2,e3⟩:=h.eq (n-(q+1)+n-1-j) (n-(q+1)+n-1-i) (by omega) (by omega) (by omega);exact⟨e2,.inr e3⟩
 ·rw[HH (show¬(n-(q+1)<=i/\i<n) by omega)];by_cases c2:n-(q+1)<=j
  ·rw[HK (by omega)];exact Lx.of_lt O (h.cr _ _ (by omega) (by omega) (by omega))
  ·rw[HH (by omega)];exact h.up _ _ hij (by omega)
theorem Dn.zero{p:Array Nat}{n:Nat}(h:Dn lt p n 0):AS lt p n:=fun i j hij hj=>by
 rcases Z8 j (n-1)with c|c
 ·exact h.up i j hij c
 ·exact Lx.of_lt O (h.cr i j (by omega) (by omega) hj)
theorem Dn.start{p:Array Nat}{n:Nat}(h:AS lt p n)(h1:1<=n)(hl:lt (gA p n) (gA p (n-1))=true):Dn lt p (n+1) 0:=by
 refine⟨by omega,fun i j hij hj=>h i j hij (by omega),fun i j hi h2 h3=>?_,fun i j h2 h3 h4=>absurd h3 (by omega)⟩;have e:j=n:=by omega
 subst e;rcases Z8 i (j-1)with h3|h3
 ·exact O.lt_le hl (h i (j-1) h3 (by omega)).1
 ·have e:i=j-1:=by omega
  subst e;exact hl
theorem jQ:∀(f:Nat) {p:Array Nat} {n q:Nat},n+f<=N->Fx N p n->Dn lt p n q->KW lt (fun r=>n<=r.2.1/\r.2.1<=n+f/\Fx N r.1 r.2.1/\Dn lt r.1 r.2.1 r.2.2) (kas_desc f p n q)
 |0,_,n,_,_,hf,hd=>⟨Zb _,Zb _,hf,hd⟩
 |f+1,p,n,q,hN,hf,hd=>by
  have hs:n<=p.size:=by rw[hf.sz];omega
  have hq:=hd.hq;show KW lt _ (if lt (gA p n) (gA p (n-1))=true then(if q>0 then kas_desc f (kas_rev p (n-(q+1)) n) (n+1) 0 else kas_desc f p (n+1) 0)else KasT.ask (gA p (n-1)) (gA p n) fun d=>if d=true then .ret (p,n,q)else kas_desc f p (n+1) (q+1));by_cases c:lt (gA p n) (gA p (n-1))=true
  ·rw[HK c];have wk:∀{r:Array Nat×Nat×Nat},(n+1<=r.2.1/\r.2.1<=n+1+f/\Fx N r.1 r.2.1/\Dn lt r.1 r.2.1 r.2.2)->n<=r.2.1/\r.2.1<=n+(f+1)/\Fx N r.1 r.2.1/\Dn lt r.1 r.2.1 r.2.2:=fun h=>⟨by omega,by omega,h.2.2.1,h.2.2.2⟩
   by_cases cq:q>0
   ·rw[HK cq];have fr:=hf.rev (i:=n-(q+1)) (Zb n) (by omega);have e1:gA (kas_rev p (n-(q+1)) n) n=gA p n:=by rw[cC hs,HH (by omega)]
    have e2:gA (kas_rev p (n-(q+1)) n) (n-1)=gA p (n-(q+1)):=by rw[cC hs,HK (by omega)];congr 1;omega
    have l2:lt (gA p n) (gA p (n-(q+1)))=true:=O.lt_le c (hd.eq (n-(q+1)) (n-1) (Zb _) (by omega) (by omega)).1;refine KW.mono (fun r h=>wk h) (jQ f (by omega) (fr.succ (by omega)) (Dn.start O (hd.rev O hs) (by omega) (by rw[e1,e2];exact l2)))
   ·rw[HH cq];have e:q=0:=by omega
    subst e;exact KW.mono (fun r h=>wk h) (jQ f (by omega) (hf.succ (by omega)) (Dn.start O (hd.zero O) (by omega) c))
  ·rw[HH c];have c':=Z4.mpr c;show KW lt _ (if lt (gA p (n-1)) (gA p n)=true then _ else _);by_cases d:lt (gA p (n-1)) (gA p n)=true
   ·rw[HK d];exact⟨Zb _,Nat.le_add_right _ _,hf,hd⟩
   ·rw[HH d];have d':=Z4.mpr d;have gn:gA p n=n:=hf.hi n (Zb _) (by omega);have same:∀i,n-(q+1)<=i->i<n->lt (gA p i) (gA p n)=false/\lt (gA p n) (gA p i)=false:=fun i h1 h2=>by
     rcases Z8 i (n-1)with h3|h3
     ·obtain⟨a1,a2,_⟩:=hd.eq i (n-1) h1 h3 (by omega);exact⟨O.tr d' a1,O.tr a2 c'⟩
     ·have e:i=n-1:=by omega
      subst e;exact⟨d',c'⟩
    refine KW.mono (fun r h=>⟨by omega,by omega,h.2.2.1,h.2.2.2⟩) (jQ f (n:=n+1) (q:=q+1) (by omega) (hf.succ (by omega)) ⟨by omega,fun i j hij hj=>hd.up i j hij (by omega),fun i j hi h2 h3=>?_,fun i j h1 h2 h3=>?_⟩)
    ·rcases Z8 j n with h4|h4
     ·exact hd.cr i j (by omega) (by omega) h4
     ·have e:j=n:=by omega
      subst e;exact O.le_lt d' (hd.cr i (j-1) (by omega) (by omega) (by omega))
    ·rcases Z8 j n with h4|h4
     ·exact hd.eq i j (by omega) h2 h4
     ·have e:j=n:=by omega
      subst e;obtain⟨a1,a2⟩:=same i (by omega) h2;exact⟨a1,a2,by rw[gn];exact hf.lo _ h2⟩
theorem km{p:Array Nat}{n:Nat}(h1:1<=n)(hN:n<N)(hf:Fx N p n)(ha:AS lt p n)(hl:lt (gA p n) (gA p (n-1))=true):KW lt (fun r=>r.1<=N/\1<=r.1/\Fx N r.2 r.1/\LS lt r.2 r.1) (kas_descPart n N p):=by
 refine KW.bind (KW.mono (fun r hr=>?_) (jQ O (N:=N) (N-(n+1)) (by omega) (hf.succ hN) (Dn.start O ha h1 hl)));obtain⟨r1,r2,r3,r4⟩:=hr;show KW lt _ (if r.2.2>0 then _ else _);by_cases c:r.2.2>0
 ·rw[HK c];exact tU O (by omega) (by omega) (r3.rev (Zb _) (by omega)) (r4.rev O (by rw[r3.sz];omega))
 ·rw[HH c];have e:r.2.2=0:=by omega
  rw[e]at r4;exact tU O (by omega) (by omega) r3 (r4.zero O)
theorem qR{p:Array Nat}(hN:1<=N)(hf:Fx N p 1):KW lt (fun r=>r.1<=N/\1<=r.1/\Fx N r.2 r.1/\LS lt r.2 r.1) (kas_count N p):=by
 refine KW.bind (KW.mono (fun n hn=>?_) (qQ O (N:=N) (N-1) 1 (Zb _) (by omega) hf (fun i j h1 h2=>absurd h1 (by omega))));obtain⟨n1,n2,nf,ns,nl⟩:=hn;show KW lt _ (if(n==N)=true then KasT.ret (n,p)else if n>1 then KasT.ask (gA p 0) (gA p (n-1)) (fun c=>if c=true then .ret (n,p)else kas_descPart n N (kas_rev p 0 n))else kas_descPart n N p);by_cases c:(n==N)=true
 ·rw[HK c];exact⟨by omega,n1,nf,ns⟩
 ·rw[HH c];have nN:n<N:=by have:n≠N:=fun z=>c (Z2.mpr z);omega
  have hl:=nl (by omega);by_cases c2:n>1
  ·rw[HK c2];show KW lt _ (if lt (gA p 0) (gA p (n-1))=true then _ else _);by_cases c3:lt (gA p 0) (gA p (n-1))=true
   ·rw[HK c3];exact⟨by omega,n1,nf,ns⟩
   ·rw[HH c3];have c3':=Z4.mpr c3;have hs:n<=p.size:=by rw[nf.sz];omega
    have le0:∀i,i<n->lt (gA p i) (gA p 0)=false:=fun i hi=>by
     rcases Nat.eq_zero_or_pos i with z|z
     ·subst z;cases e:lt (gA p 0) (gA p 0)with
      |false=>rfl
      |true=>rw[O.as e]at e;cases e
     ·exact(ns 0 i z hi).1
    have leN:∀i,i<n->lt (gA p (n-1)) (gA p i)=false:=fun i hi=>by
     rcases Z8 i (n-1)with z|z
     ·exact(ns i (n-1) z (by omega)).1
     ·have e:i=n-1:=by omega
      subst e;cases e:lt (gA p (n-1)) (gA p (n-1))with
      |false=>rfl
      |true=>rw[O.as e]at e;cases e
    have all:∀i j,i<n->j<n->lt (gA p i) (gA p j)=false:=fun i j hi hj=>O.tr (leN j hj) (O.tr c3' (le0 i hi));refine km O n1 nN (nf.rev (Zb _) (by omega)) (fun i j hij hj=>?_) ?_
    ·rw[cC hs,cC hs,HK (by omega),HK (by omega)];have z:=ns (0+n-1-j) (0+n-1-i) (by omega) (by omega);refine⟨all _ _ (by omega) (by omega),?_⟩;rcases z.2 with y|y
     ·rw[all _ _ (by omega) (by omega)]at y;cases y
     ·exact .inr y
    ·rw[cC hs,cC hs,HH (by omega),HK (by omega)];exact O.lt_le hl (all _ _ (by omega) (by omega))
  ·rw[HH c2];have e:n=1:=by omega
   subst e;exact km O n1 nN nf (fun i j h1 h2=>absurd h1 (by omega)) hl
theorem iC{p:Array Nat}{k:Nat}(hs:LS lt p k):∀(f l r:Nat),r-l<=f->r<=k->(∀i,i<l->i<k->lt (gA p k) (gA p i)=false)->(∀i,r<=i->i<k->lt (gA p k) (gA p i)=true)->l<=r ->
  KW lt (fun m=>m<=k/\(∀i,i<m->lt (gA p k) (gA p i)=false)/\∀i,m<=i->i<k->lt (gA p k) (gA p i)=true) (kas_place p k f l r)
 |0,l,r,h1,h2,h3,h4,h5=>⟨by omega,fun i hi=>h3 i hi (by omega),fun i hi=>h4 i (by omega)⟩
 |f+1,l,r,h1,h2,h3,h4,h5=>by
  show KW lt _ (if l>=r then KasT.ret l else KasT.ask (gA p k) (gA p ((l+r) / 2)) fun c=>if c=true then kas_place p k f l ((l+r) / 2)else kas_place p k f ((l+r) / 2+1) r);by_cases c:l>=r
  ·rw[HK c];exact⟨by omega,fun i hi=>h3 i hi (by omega),fun i hi=>h4 i (by omega)⟩
  ·rw[HH c];show KW lt _ (if lt (gA p k) (gA p ((l+r) / 2))=true then _ else _);by_cases d:lt (gA p k) (gA p ((l+r) / 2))=true
   ·rw[HK d];refine iC hs f l ((l+r) / 2) (by omega) (by omega) h3 (fun i hi hk=>?_) (by omega);rcases Nat.eq_or_lt_of_le hi with e|e
    ·rw[<-e];exact d
    ·exact O.lt_le d (hs _ _ e hk).1
   ·rw[HH d];have d':=Z4.mpr d;refine iC hs f ((l+r) / 2+1) r (by omega) h2 (fun i hi hk=>?_) h4 (by omega);rcases Z8 i ((l+r) / 2)with e|e
    ·exact O.tr (hs _ _ e (by omega)).1 d'
    ·have e:i=(l+r) / 2:=by omega
     rw[e];exact d'
theorem xL:∀(f:Nat) {p:Array Nat} {k:Nat},k+f=N->1<=k->Fx N p k->LS lt p k->KW lt (fun p=>p.size=N/\LS lt p N) (kas_bin f p k)
 |0,p,k,e,_,hf,hs=>by
  have:k=N:=by omega
  subst this;exact⟨hf.sz,hs⟩
 |f+1,p,k,e,h1,hf,hs=>by
  refine KW.bind (KW.mono (fun m hm=>?_) (iC O hs k 0 k (by omega) (Zb _) (fun i hi=>absurd hi (by omega)) (fun i h2 h3=>absurd h2 (by omega)) (ZV _)));obtain⟨m1,m2,m3⟩:=hm;have hk:k<p.size:=by rw[hf.sz];omega
  have gk:gA p k=k:=hf.hi k (Zb _) (by omega);have ekm:k-(k-m)=m:=by omega
  have gb:∀i,gA (bubble p k (k-m)) i=if i=m then gA p k else if m<i/\i<=k then gA p (i-1)else gA p i:=fun i=>by rw[xA hk (by omega),ekm]
  refine xL f (by omega) (by omega) ⟨by rw[bubble_size];exact hf.sz,fun i h2 h3=>?_,fun i hi=>?_⟩ (fun i j hij hj=>?_)
  ·rw[gb,HH (by omega),HH (by omega)];exact hf.hi i (by omega) h3
  ·rw[gb];split
   ·rw[gk];omega
   ·split
    ·have:=hf.lo (i-1) (by omega);omega
    ·have:=hf.lo i (by omega);omega
  ·have lk:∀i,i<m->Lx lt (gA p i) (gA p k):=fun i hi=>⟨m2 i hi,.inr (by rw[gk];exact hf.lo i (by omega))⟩
   have gt:∀i,m<=i->i<k->Lx lt (gA p k) (gA p i):=fun i h2 h3=>Lx.of_lt O (m3 i h2 h3);rw[gb,gb];by_cases a1:i=m
   ·rw[HK a1,HH (by omega),HK (by omega)];exact gt _ (by omega) (by omega)
   ·rw[HH a1];by_cases a2:m<i/\i<=k
    ·rw[HK a2,HH (by omega),HK (by omega)];exact hs _ _ (by omega) (by omega)
    ·rw[HH a2];by_cases b1:j=m
     ·rw[HK b1];exact lk i (by omega)
     ·rw[HH b1];by_cases b2:m<j/\j<=k
      ·rw[HK b2];exact hs _ _ (by omega) (by omega)
      ·rw[HH b2];exact hs _ _ hij (by omega)
theorem BQ(hN:1<=N):KW lt (fun p=>p.size=N/\LS lt p N) (kas_sort N):=by
 have f0:Fx N (List.toArray (List.range N)) 1:=by
  have g:∀k,k<N->gA (List.toArray (List.range N)) k=k:=fun k hk=>by rw[gG];simp[hk]
  refine⟨by simp,fun k _ hk=>g k hk,fun i hi=>?_⟩;have e:i=0:=by omega
  subst e;rw[g 0 (by omega)];decide
 refine KW.bind (KW.mono (fun r hr=>?_) (qR O hN f0));obtain⟨r1,r2,r3,r4⟩:=hr;show KW lt _ (if r.1<N then kas_bin (N-max r.1 1) r.2 (max r.1 1)else .ret r.2);have e:max r.1 1=r.1:=by omega
 rw[e];by_cases c:r.1<N
 ·rw[HK c];exact xL O _ (by omega) r2 r3 r4
 ·rw[HH c];have e:r.1=N:=by omega
  rw[e]at r3 r4;exact⟨r3.sz,r4⟩
end
open PySem PySem.Spec PyProof.Rows PySem.W
open PySem PySem.Spec PyProof.Rows PySem.W
theorem tO{α:Type}{n:Nat}{lt:Nat->Nat->Bool}{P R:α->Prop}{cmp:Nat->Nat->(Bool->Shared->Prop)->Shared->Prop}{Q:α->Shared->Prop}{s:Shared}(hc:∀i j C,i<n->j<n->C (lt i j) s->cmp i j C s)(hq:∀a,P a->R a->Q a s):∀{t:KasT α},KIn n P t->KW lt R t->t.kasWp cmp Q s
 |.ret _,h,k=>hq _ h k
 |.ask i j c,⟨h1,h2,h3⟩,k=>hc _ _ _ h1 h2 (tO hc hq (t:=c (lt i j)) (h3 _) k)
section
variable{X:Cx}{pins:List (Addr×Obj)}{σ:St}{H:Hp}{s:Shared}{h':Heap}
theorem Inv.movedF{ch:List Addr}{t':Nat}(I:Inv X pins σ H s)(hch:∀b∈ch,bh X pins H b)(k:∀b u,b≠X.env.locals->b∉ch->s.heap.get? b=some u->h'.get? b=some u)(hn:∃m,s.heap.Ns X.env.locals m/\h'.Ns X.env.locals m):Inv X pins σ H { s with heap:=h',toks:=t' }:=by
 have neL:∀{b:Addr} {u:HO},H b=some u->b≠X.env.locals:=fun{b u} e=>aj e I.free;have neC:∀{b:Addr} {u:HO},H b=some u->b∉ch:=fun{b u} e z=>by have:=(hch b z).1;rw[e]at this;cases this
 refine I.step (g':=s.gens) (d':=s.drawn) (ch:=ch) (fun b hb=>⟨(hch b hb).2.2.2.1,(hch b hb).2.1,(hch b hb).2.2.2.2.1,(hch b hb).2.2.2.2.2⟩) (fun b o hL _ hc e _=>k b o hL hc e) (fun b o hL _ hc e _=>⟨o.slots,k b o hL hc e⟩) (fun b o _ e n=>n) (fun b o hc e=>?_)
  (fun b xs e=>e) (fun b o u e=>e) (fun b ps e=>⟨#[],by rw[e];simp⟩) (fun m' hm'=>?_) (fun b u e=>?_) I.bare
 ·by_cases hL:b=X.env.locals
  ·obtain⟨m,_,o',_,_,e',_⟩:=hn;exact⟨o',by rw[hL];exact e'⟩
  ·exact⟨o,k b o hL hc e⟩
 ·obtain⟨m,h1,h2⟩:=hn;rw[hm'.eq_nsMap,<-h1.eq_nsMap];exact h2
 ·refine(I.hok b u e).stay (fun c v hc q=>k c v ?_ ?_ q) (fun c q=>q) fun c ys q=>q
  ·rcases hc with z|z
   ·rw[z];exact neL e
   ·exact neL z
  ·rcases hc with z|z
   ·rw[z];exact neC e
   ·exact neC z
theorem Inv.tookF{ch:List Addr}{a:Addr}{o:HO}{t':Nat}(I:Inv X pins σ H s)(ha:a∈ch)(hch:∀b∈ch,bh X pins H b)(k:∀b u,b≠X.env.locals->b∉ch->s.heap.get? b=some u->h'.get? b=some u)(hn:∃m,s.heap.Ns X.env.locals m/\h'.Ns X.env.locals m)(new:ObjOk X.prog X.w (upd H a o) h' a o):Inv X pins σ (upd H a o) { s with heap:=h',toks:=t' }:=by
 have fr:=(hch a ha).1;have ne:∀{b:Addr} {u:HO},H b=some u->b≠a:=fun{b u} e=>aj e fr;have neL:∀{b:Addr} {u:HO},H b=some u->b≠X.env.locals:=fun{b u} e=>aj e I.free;have neC:∀{b:Addr} {u:HO},H b=some u->b∉ch:=fun{b u} e z=>by have:=(hch b z).1;rw[e]at this;cases this
 refine I.step (g':=s.gens) (d':=s.drawn) (ch:=ch) (fun b hb=>⟨(hch b hb).2.2.2.1,(hch b hb).2.1,(hch b hb).2.2.2.2.1,(hch b hb).2.2.2.2.2⟩) (fun b o hL _ hc e _=>k b o hL hc e) (fun b o hL _ hc e _=>⟨o.slots,k b o hL hc e⟩) (fun b o hc e n=>by rw[af (fun z:b=a=>hc (by rw[z];exact ha))];exact n) (fun b o hc e=>?_)
  (fun b xs e=>by rw[af (ne e)];exact e) (fun b o u e=>by rw[af (ne e)];exact e) (fun b ps e=>⟨#[],by rw[af (ne e),e];simp⟩) (fun m' hm'=>?_) (fun b u e=>?_) I.bare
 ·by_cases hL:b=X.env.locals
  ·obtain⟨m,_,o',_,_,e',_⟩:=hn;exact⟨o',by rw[hL];exact e'⟩
  ·exact⟨o,k b o hL hc e⟩
 ·obtain⟨m,h1,h2⟩:=hn;rw[hm'.eq_nsMap,<-h1.eq_nsMap];exact h2
 ·by_cases hb:b=a
  ·subst hb;rw[ad]at e;cases e;exact new
  ·rw[af hb]at e;refine(I.hok b u e).stay (fun c v hc q=>k c v ?_ ?_ q) (fun c q=>by rw[af (ne q)];exact q) fun c ys q=>by rw[af (ne q)];exact q
   ·rcases hc with z|z
    ·rw[z];exact neL e
    ·exact neL z
   ·rcases hc with z|z
    ·rw[z];exact neC e
    ·exact neC z
def fS(base h:Heap)(L kS:Addr):List (Addr×Obj):=(mw base h L).filter fun p=>decide (p.1≠kS)
theorem gi{base h:Heap}{L kS:Addr}{o:Obj}(e:h.get? kS=some o)(hL:kS≠L)(hb:base.get? kS=none):News base L h ((kS,o)::fS base h L kS):=fun p hp=>by
 rcases Zs.mp hp with rfl|hp
 ·exact⟨e,hL,hb⟩
 ·exact gP base h L p (x6.mp hp).1
theorem iK{base h:Heap}{L kS:Addr}:∀p∈fS base h L kS,p.1≠kS:=fun p hp=>Z3 (x6.mp hp).2
theorem gh{base h h2:Heap}{L kS:Addr}{o':Obj}{m:Str->Option Value}(hbk:∀b o,base.get? b=some o->h.get? b=some o)(F:Fr base L h2 m)(N:News base L h2 ((kS,o')::fS base h L kS)):∀b u,b≠L->b∉[kS]->h.get? b=some u->h2.get? b=some u:=fun b u hL hk e=>by
 cases q:base.get? b with
 |none=>exact(N (b,u) (.tail _ (x6.mpr ⟨cu e hL q,decide_eq_true (fun z=>hk (Zr.mpr z))⟩))).1
 |some o =>have e':=hbk b o q;rw[e]at e';cases e';exact F.keep b u q
structure SK(X:Cx)(pins:List (Addr×Obj))(σ:St)(H1:Hp)(m:Str->Option Value)(kS D:Addr)(e1:Nat)(ks:List (List Int))(as:List Addr)(e:Nat)(H:Hp)(s:Shared):Prop where
 I:Inv X pins σ H s
 sm:Same H1 H
 fk:bh X pins H kS
 fd:bh X pins H D
 bk:X.base.get? kS=none
 bd:X.base.get? D=none
 hk:s.heap.get? kS=some (seqObj "list" (List.toArray (as.map Value.ref)) e)
 hd:s.heap.get? D=some (seqObj "list" #[] e1)
 ns:s.heap.Ns X.env.locals m
 keys:∀(i:Nat) (a:Addr) (k:List Int),as[i]?=some a->ks[i]?=some k->H a=some (.tup (k.map V.int))
end
open PySem PySem.Spec PyProof.Rows PySem.W
theorem xM:∀{a b:List Int},HT.lexLt a b=true->HT.lexLt b a=false
 | [],[],h=>by cases h
 | [],_::_,_=>rfl
 |_::_,[],h=>by cases h
 |x::a,y::b,h=>by
  rw[HT.lexLt_cons]at h ⊢;by_cases e:x=y
  ·subst e;rw[HK rfl]at h ⊢;exact xM h
  ·rw[HH e]at h;rw[HH (fun z=>e z.symm)];have:=Z3 h;exact decide_eq_false (by omega)
theorem xO:∀{a b c:List Int},HT.lexLt b a=false->HT.lexLt c b=false->HT.lexLt c a=false
 | [],[],[],_,_=>rfl
 | [],[],_::_,_,_=>rfl
 | [],_::_,[],_,h=>by cases h
 | [],_::_,_::_,_,_=>rfl
 |_::_,[],_,h,_=>by cases h
 |_::_,_::_,[],_,h=>by cases h
 |x::a,y::b,z::c,h,k=>by
  rw[HT.lexLt_cons]at h k ⊢;by_cases e:y=x
  ·subst e;rw[HK rfl]at h;by_cases e2:z=y
   ·rw[HK e2]at k ⊢;exact xO h k
   ·rw[HH e2]at k ⊢;exact k
  ·rw[HH e]at h;have h':=YF h;by_cases e2:z=y
   ·rw[HH (by omega)];exact decide_eq_false (by omega)
   ·rw[HH e2]at k;have k':=YF k;rw[HH (by omega)];exact decide_eq_false (by omega)
theorem xN(ks:List (List Int)):LtOk (fun i j=>HT.lexLt (ks.getD i []) (ks.getD j [])):=⟨xM,xO⟩
section
variable{X:Cx}{pins:List (Addr×Obj)}{σ:St}{H:Hp}{s:Shared}
def wX(X:Cx)(l:List Addr):Cx:={ X with ex:=l++X.ex }
structure ExOk(X:Cx)(b:Addr):Prop where
 old:b∈X.ex\/X.s₀.heap.get? b=none
 loc:b≠X.env.locals
 cel:∀x c,X.env.cells.lookup x=some c->c≠b
 bas:X.base.get? b=none
 fs:b∉X.fs
theorem Inv.widen{l:List Addr}(I:Inv X pins σ H s)(hl:∀b∈l,ExOk X b):Inv (wX X l) pins σ H s:=by
 have ok:(wX X l).Ok:=by
  have o:=I.ok;refine⟨o.mod,o.kind,o.glob,o.blt,o.above,o.inj,o.has,o.cab,o.hd,o.frames,o.stk,fun b hb=>?_,o.bs,o.bsz,fun b ob hb z=>?_,fun b hb=>?_,o.funs,o.frf⟩
  ·rcases ZK.mp hb with h|h
   ·exact⟨(hl b h).loc,(hl b h).cel⟩
   ·exact o.exf b h
  ·rcases ZK.mp z with h|h
   ·have hb':X.base.get? b=some ob:=hb;rw[(hl b h).bas]at hb';cases hb'
   ·exact o.noex b ob hb h
  ·rcases ZK.mp hb with h|h
   ·exact(hl b h).fs
   ·exact o.exfs b h
 have ne:∀{b:Addr},b∉l++X.ex->b∉X.ex:=fun h z=>h (Zv _ z);have u:=I.base;exact⟨ok,I.os,I.bare,⟨fun b o e n hb hx=>u.keep b o e n hb (ne hx),fun b o e n hb hx=>u.slot b o e n hb (ne hx),fun b o e n hx=>u.free b o e n (ne hx),fun b o e hx=>u.there b o e (ne hx),u.tups,u.frzs,u.tbls⟩,I.loc,I.cell,I.free,I.freeC,I.pin,I.hok,I.len⟩
theorem Inv.narrow{l:List Addr}(I:Inv (wX X l) pins σ H s)(ok:X.Ok)(hl:∀b∈l,b∈X.ex\/X.s₀.heap.get? b=none):Inv X pins σ H s:=by
 have ne:∀{b:Addr} {o:Obj},X.s₀.heap.get? b=some o->b∉X.ex->b∉l++X.ex:=fun{b o} e h z=>by
  rcases ZK.mp z with z|z
  ·rcases hl b z with y|y
   ·exact h y
   ·rw[y]at e;cases e
  ·exact h z
 have u:=I.base;exact⟨ok,I.os,I.bare,⟨fun b o e n hb hx=>u.keep b o e n hb (ne e hx),fun b o e n hb hx=>u.slot b o e n hb (ne e hx),fun b o e n hx=>u.free b o e n (ne e hx),fun b o e hx=>u.there b o e (ne e hx),u.tups,u.frzs,u.tbls⟩,I.loc,I.cell,I.free,I.freeC,I.pin,I.hok,I.len⟩
theorem Inv.exOk(I:Inv X pins σ H s){b:Addr}(hb:s.heap.get? b=none)(hL:b≠X.env.locals)(h0:X.base.get? b=none):ExOk X b:=by
 have old:b∈X.ex\/X.s₀.heap.get? b=none:=by
  by_cases hx:b∈X.ex
  ·exact .inl hx
  ·cases e:X.s₀.heap.get? b with
   |none=>exact .inr rfl
   |some o =>obtain⟨o',e'⟩:=I.base.there b o e hx;rw[hb]at e';cases e'
 refine⟨old,hL,fun x c e z=>?_,h0,fun z=>?_⟩
 ·obtain⟨v,o,ho,_⟩:=I.cell x c e;rw[z,hb]at ho;cases ho
 ·obtain⟨_,o,ho,_⟩:=I.ok.funs.mem z;rcases old with y|y
  ·exact I.ok.exfs b y z
  ·rw[y]at ho;cases ho
theorem Inv.fpW{l:List Addr}(I:Inv X pins σ H s){b:Addr}(hm:b∈l)(x:ExOk X b)(hb:s.heap.get? b=none):bh (wX X l) pins H b:=by refine⟨none_of I hb,x.loc,x.fs,.inl (List.mem_append_left _ hm),x.cel,fun p hp z=>?_⟩;have:=(I.pin p hp).1;rw[z,hb]at this;cases this
theorem qO{ks:List (List Int)}(I:Inv X pins σ H s)(hk:∀k∈ks,k≠[]):∀(as:List Addr) (n:Nat),n+as.length=ks.length->(∀(i:Nat) (a:Addr) (k:List Int),as[i]?=some a->ks[n+i]?=some k->H a=some (.tup (k.map V.int)))->∃fs:List Value,KatTups s.heap (as.map Value.ref) fs/\fs.length=as.length/\∀v∈fs,∃i t,v=.int i t
 | [],_,_,_=>⟨[],KatTups.nil,rfl,fun v h=>nomatch h⟩
 |a::as,n,hl,h=>by
  rw[Zq]at hl;have hkn:ks[n]?=some (ks[n]'(by omega)):=Ze (by omega);have hne:=hk _ (ZI (show n<ks.length by omega));generalize ks[n]'(by omega)=k at hkn hne;have ea:=h 0 a k rfl (by rw[Nat.add_zero];exact hkn);obtain⟨ia,ra,pa,za⟩:=I.tuple (SqT.of (K:=X.K) ea);obtain⟨oa,eo,ca,n1,da⟩:=id pa;obtain⟨x,t,ia',rfl⟩:∃x t r,ia=.int x t::r:=by
   cases cm ra with
   |nil=>exact absurd rfl hne
   |cons x t r=>exact⟨x,t,_,rfl⟩
  obtain⟨fs,f1,f2,f3⟩:=qO I hk as (n+1) (by omega) (fun i b k' h1 h2=>h (i+1) b k' h1 (by rw[show n+(i+1)=n+1+i by omega];exact h2));refine⟨.int x t::fs,KatTups.cons eo ca da rfl f1,by rw[Zq,Zq,f2],fun v hv=>?_⟩;rcases Zs.mp hv with rfl|hv
  ·exact⟨_,_,rfl⟩
  ·exact f3 v hv
end
open PySem PySem.Spec PyProof.Rows PySem.W
section
variable{X:Cx}{o i value:Expr}{pos pos':Pos}{td ty tv:TE}
theorem qh:QE X (.Dict [] [] pos) yO:=⟨Aq⟩
theorem jo(hu:X.A.units+64<cLine)(ho:QE X o td)(hi:QE X i ty)(hs:zn i:=by intro _ _;rfl):QE X (.Subscript o i pos) (Bs td ty):=⟨Ca (by omega) ho.h hi.h hs⟩
theorem FA(hu:X.A.units+64<cLine)(hi:QE X i ty)(ho:QE X o td)(hm:behindInMarks .In o=false:=by with_unfolding_all rfl):QE X (.Compare i [.In] [o] pos) (AR ty td):=⟨yh (yf (by omega) hi.h ho.h) hm⟩
theorem AC(hu:X.A.units+64<cLine)(hi:QE X i ty)(ho:QE X o td)(hm:behindInMarks .NotIn o=false:=by with_unfolding_all rfl):QE X (.Compare i [.NotIn] [o] pos) (oF ty td):=⟨yh (pk (by omega) hi.h ho.h) hm⟩
theorem FI(hu:X.A.units+64<cLine)(hi:QE X i ty)(ho:QE X o td)(hm:behindInMarks .In o=false:=by with_unfolding_all rfl):QT X (.Compare i [.In] [o] pos) (tB (AR ty td)):=⟨yk (yf (by omega) hi.h ho.h) hm⟩
theorem rW(hu:X.A.units+64<cLine)(hi:QE X i ty)(ho:QE X o td)(hm:behindInMarks .NotIn o=false:=by with_unfolding_all rfl):QT X (.Compare i [.NotIn] [o] pos) (tB (oF ty td)):=⟨yk (pk (by omega) hi.h ho.h) hm⟩
theorem mD(hu:X.A.units+64<cLine)(ho:QE X o td)(hi:QE X i ty)(hv:QE X value tv)(hs:swapsWith value (some (.Subscript o i pos')) pos.line X.env=pure false:=by rfl):QS X (.Assign [.Subscript o i pos'] value pos) (Bn td ty tv):=⟨Ck (by omega) ho.h hi.h hv.h hs⟩
end
open PySem PySem.Spec PyProof.Rows PySem.W
open PySem PySem.Spec PyProof.Rows PySem.W
open PySem PySem.Spec PyProof.Rows PySem.W
open Classical in
noncomputable def iZ(h:Heap)(dx:PyData)(u:Value):Bool:=decide (∃d as,Reads h u d as/\PyData.canLay0 d=true/\PyData.eqv d dx=true)
open Classical in
theorem nk{h:Heap}{dx d:PyData}{u:Value}{as:List Addr}(r:Reads h u d as)(hl:d.canLay0=true):iZ h dx u=PyData.eqv d dx:=by
 unfold iZ;cases e:PyData.eqv d dx with
 |true=>exact decide_eq_true ⟨d,as,r,hl,e⟩
 |false =>refine decide_eq_false ?_;rintro⟨d',as',r',l',e'⟩;rw[SeqAt.Reads.unique d d' u as as' hl r r',e']at e;cases e
section
variable{P:Program}{w:World}{H:Hp}{h:Heap}
theorem io(ok:HOk P w H h):∀{ds:List PyData} {xs:List V} {us:List Value},DtAll H ds xs->Vals xs us->PyData.canLayAll0 ds=true->∀dx:PyData,us.any (iZ h dx)=ds.any (fun d=>PyData.eqv d dx)/\us.countP (iZ h dx)=ds.countP (fun d=>PyData.eqv d dx)/\∀u∈us,∃d as,d∈ds/\Reads h u d as/\d.canLay0=true
 | [],xs,us,hd,r,_,dx=>by
  have e:xs=[]:=by simpa only[DtAll]using hd
  subst e;cases r;exact⟨rfl,rfl,fun u hu=>nomatch hu⟩
 |d::ds,xs,us,hd,r,hl,dx=>by
  have e:∃y ys,xs=y::ys/\Dt H d y/\DtAll H ds ys:=by simpa only[DtAll]using hd
  obtain⟨y,ys,rfl,h1,h2⟩:=e;cases r with
  |cons r1 r2 =>
   have hl':d.canLay0=true/\PyData.canLayAll0 ds=true:=by simpa[PyData.canLayAll0]using hl
   obtain⟨as,q1⟩:=Dt.reads ok d y _ h1 r1;obtain⟨i1,i2,i3⟩:=io ok h2 r2 hl'.2 dx;refine⟨by rw[List.any_cons,List.any_cons,nk q1 hl'.1,i1],by rw[List.countP_cons,List.countP_cons,nk q1 hl'.1,i2],fun u hu=>?_⟩;rcases Zs.mp hu with rfl|hu
   ·exact⟨d,as,by simp,q1,hl'.1⟩
   ·obtain⟨d',as',m,z⟩:=i3 u hu;exact⟨d',as',by simp[m],z⟩
end
section
variable{X:Cx}
def AE(K:PySem.W.Frag)(neg:Bool):R2:=fun x y H Q=>∃(p:Addr) (xs:List V) (dx:PyData) (ds:List PyData),y=.ref p/\SqL K H p xs/\Dt H dx x/\DtAll H ds xs/\SeqAt.shaped dx=true/\PyData.canLayAll0 ds=true/\Q (.bl (if neg then !(ds.any fun d=>PyData.eqv d dx)else ds.any fun d=>PyData.eqv d dx)) H
theorem xm{pins:List (Addr×Obj)}{σ:St}{H:Hp}{s:Shared}{A:Around}{dx:PyData}{x:V}{v:Value}{ds:List PyData}{xs:List V}{us:List Value}(I:Inv X pins σ H s)(hu:A.units+64<cLine)(h1:Dt H dx x)(rx:RelV x v)(h2:DtAll H ds xs)(r:Vals xs us)(s1:SeqAt.shaped dx=true)(s2:PyData.canLayAll0 ds=true):∀u∈us,SeqAt.EqAt A s u v (iZ s.heap dx u):=fun u hu'=>by obtain⟨_,_,z⟩:=io I.hok h2 r s2 dx;obtain⟨d,as,_,q1,q2⟩:=z u hu';obtain⟨bs,q3⟩:=Dt.reads I.hok dx x v h1 rx;rw[nk q1 q2];refine SeqAt.eqAt_reads d dx A s u v as bs q1 q3 q2 (SeqAt.canLay_of_shaped s1) ?_;have d1:=SeqAt.depth_of_shaped s1;have d2:min d.depth dx.depth<=dx.depth:=Nat.min_le_right _ _;omega
theorem yd(hu:X.A.in1.units+64<cLine):OpR X (compareOp .NotIn) (AE X.K true):=by intro pins s σ H x y v u Q I rx ry h;obtain⟨p,xs,dx,ds,rfl,hq,h1,h2,s1,s2,q⟩:=h;cases ry;obtain⟨its,r,pl,hz⟩:=I.list hq;refine SeqAt.notIn_listAt (iZ s.heap dx) pl.isList (fun w hw=>xm I hu h1 rx h2 r s1 s2 w (by simpa using hw)) ⟨.bl _,H,I,rfl,?_⟩;rw[show its.toArray.any (iZ s.heap dx)=its.any (iZ s.heap dx) by simp,(io I.hok h2 r s2 dx).1];exact q
theorem Ah{k:Nat}(hr:Room k X.A):QOp X (compareOp .NotIn) (AE X.K true):=⟨yd (by have:=hr.un;show X.A.units+_+64<_;omega)⟩
end
open PySem PySem.Spec PyProof.Rows PySem.W
section
variable{X:Cx}
structure QPs(X:Cx)(pos:Pos)(keys:List (Option Expr))(values:List Expr)(trs:List (TE×TE)):Prop where
 h:PPs X pos keys values trs
end
open PySem PySem.Spec PyProof.Rows PySem.W
open PySem PySem.Spec PyProof.Rows PySem.W
structure MFn(P:Program)(w:World)(K:PySem.W.Frag)(mg:Str->Option Value)(base:Heap)(k:Nat)(C:Addr)(m:Str)(ps:List Str)(sp:Sp):Prop where
 cl:Cls K C
 ex:∃f fd,FnOk P w K mg base CX0 k f fd ps sp/\Meth K C m f/\Binds K fd ps []
structure MkFn(P:Program)(w:World)(K:PySem.W.Frag)(mg:Str->Option Value)(base:Heap)(k:Nat)(C:Addr)(x:Str)(ps:List Str)(sp:Sp):Prop where
 cl:Cls K C
 mgC:mg x=some (.ref C)
 ex:∃f fd,FnOk P w K mg base CX0 k f fd ps sp/\Mk K C f/\Binds K fd ps []
section
variable{X:Cx}{k:Nat}{C:Addr}{m x f:Str}{p pos pos' apos:Pos}{o e value:Expr}{es:List Expr}{ps:List Str}{sp:Sp}{t:TA}{ta tv:TE}
theorem dX(he:QE X e ta)(hb:attributeBase e f X.env (eval e X.env)=eval e X.env:=by rfl):QE X (.Attribute e f pos) (EF X.K ta f):=⟨DJ he.h hb⟩
theorem Bp(ha:QE X o ta)(hv:QE X value tv)(hs:swapsWith value (some (.Attribute o f pos')) pos.line X.env=pure false:=by rfl):QS X (.Assign [.Attribute o f pos'] value pos) (Ev X.K ta tv f):=⟨Eb ha.h hv.h hs⟩
theorem cS{pl:Sem Bool}(F:MFn X.prog X.w X.K X.mg X.base k C m ps sp)(hr:Room k X.A)(he:QE X o ta)(ht:eval (.Call (.Attribute o m apos) [] [] pos) X.env=(do
   let ov ←eval o X.env
   standAt apos.atName
   let(f,first) ←holding [ov] (getMethod ov m pl)
   callWith pos f first (backTo pos (starEach [] X.env)) (backToKw pos (keywordEach [] X.env))):=by rfl) :
  QE X (.Call (.Attribute o m apos) [] [] pos) (Bv C m sp [] E0 ta fx):=by
 obtain⟨f,fd,G,hm,b⟩:=F.ex;exact⟨As (pl:=pl) he.h F.cl hm G hr b .nil vV ht⟩
theorem Ek(F:MkFn X.prog X.w X.K X.mg X.base k C x ps sp)(hr:Room (k+1) X.A)(ha:QA X (e::es) t)(hg:Gl X x:=by rfl)(hs:(e::es).all aW=true:=by rfl)(hdb:(x==("__debug__":Str))=false:=by decide) :
  QE X (.Call (.Name x p) (e::es) [] pos) (Bu C sp [] E0 t):=by
 obtain⟨f,fd,G,hm,b⟩:=F.ex;rw[List.all_cons,Zx]at hs;exact⟨Cc hm G hr hg F.mgC b .nil vV ha.h hdb (aZ hs.1) (bG hs.2)⟩
end
def DRaw(h:Heap)(d:Addr)(es:Array DictEntry)(ep:Nat):Prop:=∃o,h.get? d=some o/\o.ExactDict/\o.data=.dict es ep
theorem DRaw.type{s:Shared}{d:Addr}{es:Array DictEntry}{ep:Nat}(x:DRaw s.heap d es ep):s.TypeIs (.ref d) "dict":=let⟨o,ho,hc,_⟩:=x;⟨o,ho,hc.1⟩
theorem DRaw.at'{h h':Heap}{d:Addr}{es:Array DictEntry}{ep:Nat}(x:DRaw h d es ep)(e:∀o,h.get? d=some o->h'.get? d=some o):DRaw h' d es ep:=let⟨o,ho,r⟩:=x;⟨o,e o ho,r⟩
theorem DRaw.lt{h:Heap}{d:Addr}{es:Array DictEntry}{ep:Nat}(x:DRaw h d es ep):d<h.objs.size:=let⟨_,ho,_⟩:=x;Zk ho
section
variable{prog:Program}{w:World}{A:Around}{E:Value->Shared->Prop}{s:Shared}{d it:Addr}{es:Array DictEntry}{ep i:Nat}
theorem AI{Q:Value->Shared->Prop}(hd:(d==sysModules)=false)(hm:DRaw s.heap d es ep)(hQ:Q (.ref s.heap.objs.size) { s with heap:=s.heap.push { cls:=.type "dict_keyiterator",data:=.fields #[.ref d,.int 0 0,.int es.size 0,.int ep 0] } }) :
  wpAny (model prog w) A (pyIter (.ref d)) Q E s:=by
 obtain⟨o,ho,hc,hdat⟩:=id hm;refine wpAny_pyIter_slot hm.type PySem.F.slot_dict_iter (ZR PySem.F.slot_dict_iter hm.type PySem.F.entry_dict_iter ?_ (PySem.F.args_dict_iter_1 _));unfold Builtin.«dict.__iter__»;refine z6 ?_;unfold Builtin.Dict.dictSlotNone;refine z6 (wpAny_notOrdered_dict hm.type ?_);show wpAny _ _ (pure (Value.ref d)) _ _ s;refine Za ?_;show wpAny _ _ (Builtin.Dict.showsAll d >>= _) _ _ s;unfold Builtin.Dict.showsAll;rw[HH (by rw[hd];exact Zo)];refine z6 (Za ?_);refine z6 (YX ho hdat ?_);refine z6 (wpAny_dictEpoch ho hdat ?_);refine z6 (ZH (Za ⟨_,rfl,"dict_keyiterator",_,⟨_,Zh _ rfl,rfl⟩,Yv.lookup,?_⟩));simpa[rawInt]using hQ
theorem AH{Q:Option Value->Shared->Prop}(hit:s.heap.IsKeyIter it d i es.size ep)(hm:DRaw s.heap d es ep)(hx:i<es.size)(hQ:∀h',h'.IsKeyIter it d (i+1) es.size ep->Heap.SameBut it s.heap h'->Q (some es[i].key) { s with heap:=h' }):wpAny (model prog w) A (pyNext (.ref it)) Q E s:=by
 obtain⟨o,ho,hc,hd⟩:=id hit;obtain⟨od,hod,hcd,hdd⟩:=id hm;unfold pyNext;refine z6 (wpAny_attempt (ZM (name:=Str.ofString "__next__") hit.typeIs Yv
  (ZR Yv hit.typeIs PySem.F.entry_dict_keyiterator_next ?_ (PySem.F.args_dict_keyiterator_next_1 _))))
 refine z6 (Za ?_);refine z6 ?_;refine z6 ?_
 first|refine z6 (Y1 hit.typeIs (Za ?_))|refine z6 (wpAny_typeNameOf_keyiter hit.typeIs (Za ?_))
 refine z6 (wpAny_fieldsOf ho hd ?_);have hown:Builtin.Dict_items.ownsTuple "dict_keyiterator" = false:=by decide
 simp only[hown,Yy,YM];show wpAny _ _ (if(Value.ref d==Value.none)=true then _ else _) _ _ s;rw[HH (show¬((Value.ref d==Value.none)=true)from Zo)];refine z6 (Za ?_);refine z6 (YX hod hdd ?_);rw[HH (by simp)];refine z6 (Za ?_);refine z6 (wpAny_dictEpoch hod hdd ?_);rw[HH (by simp)];refine Za ?_;simp only[show¬((i:Int)<0)from by omega,YM,ZP,Array.getElem?_eq_getElem hx];refine z6 ?_
 first|refine z6 (Y1 hit.typeIs (Za ?_))|refine z6 (wpAny_typeNameOf_keyiter hit.typeIs (Za ?_))
 refine z6 (wpAny_isOneOf_keyiter hit.typeIs ?_);show wpAny _ _ (setField (.ref it) 1 (rawInt ((i:Int)+1)) >>= _) _ _ s;refine z6 (YB ho hd (by simp) ?_);have hit':(s.heap.update it (Obj.mapFields (·.setIfInBounds 1 (rawInt ((i:Int)+1))))).IsKeyIter it d (i+1) es.size ep :=
  ⟨_,Yx _ ho (YR (Yc hd _)),(Obj.cls_mapFields ..).trans hc,by rw[Yc hd];simp[rawInt]⟩
 refine z6 (Z7 ?_);refine z6 (wpAny_isOneOf_keyiter (s:={ s with heap:=s.heap.update it (Obj.mapFields (·.setIfInBounds 1 (rawInt ((i:Int)+1)))) }) hit'.typeIs ?_);show wpAny _ _ (pure es[i].key) _ _ _;exact Za (Za ⟨_,rfl,Za (hQ _ hit' (ZJ ..))⟩)
theorem Ct{Q:Option Value->Shared->Prop}(hh:A.handled=none)(hit:s.heap.IsKeyIter it d es.size es.size ep)(hm:DRaw s.heap d es ep)(hQ:∀h',Heap.ExtBut it s.heap h'->Q none { s with heap:=h' }) :
  wpAny (model prog w) A (pyNext (.ref it)) Q E s:=by
 obtain⟨o,ho,hc,hd⟩:=id hit;obtain⟨od,hod,hcd,hdd⟩:=id hm;unfold pyNext;refine z6 (wpAny_attempt (ZM (name:=Str.ofString "__next__") hit.typeIs Yv
  (ZR Yv hit.typeIs PySem.F.entry_dict_keyiterator_next ?_ (PySem.F.args_dict_keyiterator_next_1 _))))
 refine z6 (Za ?_);refine z6 ?_;refine z6 ?_
 first|refine z6 (Y1 hit.typeIs (Za ?_))|refine z6 (wpAny_typeNameOf_keyiter hit.typeIs (Za ?_))
 refine z6 (wpAny_fieldsOf ho hd ?_);have hown:Builtin.Dict_items.ownsTuple "dict_keyiterator" = false:=by decide
 simp only[hown,Yy,YM];show wpAny _ _ (if(Value.ref d==Value.none)=true then _ else _) _ _ s;rw[HH (show¬((Value.ref d==Value.none)=true)from Zo)];refine z6 (Za ?_);refine z6 (YX hod hdd ?_);rw[HH (by simp)];refine z6 (Za ?_);refine z6 (wpAny_dictEpoch hod hdd ?_);rw[HH (by simp)];refine Za ?_;simp only[show¬((es.size:Int)<0)from by omega,YM,ZP,Array.getElem?_eq_none (Zb _)];refine z6 ?_
 first|refine z6 (Y1 hit.typeIs (Za ?_))|refine z6 (wpAny_typeNameOf_keyiter hit.typeIs (Za ?_))
 show wpAny _ _ (setField (.ref it) 0 .none >>= _) _ _ s;refine z6 (YB ho hd (by simp) ?_);show wpAny _ _ (newExc (.type "StopIteration") [] >>= _) _ _ _;refine z6 ?_;simp only[newExc,newTuple];refine z6 (ZH ?_ (by size_fits));refine z6 (m:=firstArgMember _ _) (wpAny_of_eq (a:=Value.none) (by first|rfl|(simp only[firstArgMember];rfl)) ?_);refine ZH ?_ (by size_fits);simp only[raiseNew];refine z6 (wpAny_handled ?_);rw[show A.in1.handled=none from hh];refine z6 (Za (wpAny_throw ?_));refine z6 (wpAny_isInstance (T:="StopIteration") (b:=true) ⟨_,Zh _ rfl,rfl⟩ isSubtype_stop ?_);exact Za (hQ _ (((ZJ ..).extBut.push _).push _))
end
open PySem PySem.Spec PyProof.Rows PySem.W
open PySem PySem.Spec PyProof.Rows PySem.W
section
variable{prog:Program}{w:World}{A:Around}{E:Value->Shared->Prop}{h:Heap}{g:Array GenState}{d:Drawn}{t:Nat}{os:OsState}
variable{nm q:Str}{C N:Addr}{bs bm bmB:List Value}{hdct:Bool}{sn:List Str}{sub:List Value}{ab:Bool}{col:Option Bool}{dd:Option Addr}{k0 k1 k2 k3 k5:Option Value}{B newId initId:String}
theorem mR(F:ExcBaseFacts B newId initId bmB)(T:OwnTail h bmB bm){mN:Str->Option Value}{rest:List Value}{fI:Addr}{oI:Obj}{Q:PySem.Fin->Shared->Prop}(hC:h.get? C=some (excClassObj nm q C N bs bm hdct sn sub ab col dd k0 k1 k2 k3 k5 newId))(hn:h.Ns N mN)(hi:mN "__init__" = some (.ref fI))(hfI:h.get? fI=some oI)(hfc:oI.cls=.type "function")(hq:∀h' e,Heap.MadeExcOf h h' e (.ref C) rest->wpAny (model prog w) A (call (.ref fI) (.ref e::rest)) (fun r s'=>r=.none/\Q (.done (.ret (.ref e))) s') E ⟨h',g,d,t,os⟩)(hrest:rest.length<=sizeLine) :
  wpAny (model prog w) A (Builtin.«type.__call__» ⟨.ref C::rest,[]⟩) Q E ⟨h,g,d,t,os⟩:=by
 repeat(first|with_reducible refine YY hC ?_|with_reducible refine wpAny_madeBy_exc hC ?_|wp_step)
 refine codeAny_call_builtin_code (Code.quiet_builtin _ F.quiet) (wpAny_check_new_subT F T hC ?_);refine codeAny_exc_new_subT F T hC ?_ hrest;show wpAny _ _ _ _ _ _;have kp:∀b o,h.get? b=some o->((h.push { cls:=.type "tuple",data:=.seq rest.toArray }).push { cls:=.ref C,data:=.fields #[.ref h.objs.size,.none,.none,.none,.bool false,.none] }).get? b=some o :=
  fun b o e=>z9 _ (z9 _ e)
 have hn₁:((h.push { cls:=.type "tuple",data:=.seq rest.toArray }).push { cls:=.ref C,data:=.fields #[.ref h.objs.size,.none,.none,.none,.bool false,.none] }).Ns N mN:=hn.keeps kp;have hget:((h.push { cls:=.type "tuple",data:=.seq rest.toArray }).push { cls:=.ref C,data:=.fields #[.ref h.objs.size,.none,.none,.none,.bool false,.none] }).get? (h.objs.size+1) =
   some { cls:=.ref C,data:=.fields #[.ref h.objs.size,.none,.none,.none,.bool false,.none] }:=by heap_get
 have hcC:(Value.ref C::bm).contains (.ref C)=true:=by simp
 unfold isInstance
 repeat(first|with_reducible refine YY hget ?_|(with_reducible refine wpAny_isSubtype_exc (kp _ _ hC) ?_;rw[hcC])|wp_step)
 show wpAny _ _ (typeLookup (.ref C) _) _ _ _;refine wpAny_typeLookup_tail (kp _ _ hC) hn₁ (T.keeps kp) F.mroIs F.init.lookup ?_;rw[hi];refine Z7 (z6 ?_);unfold bindSpecial;refine z6 (wpAny_typeOf (T:="function") ⟨_,kp _ _ hfI,hfc⟩ ?_);rw[HK (by decide)];refine Za (z6 (ZL (hq _ (h.objs.size+1) ⟨kp,YU (Nat.le_succ _),h.objs.size,hget,YU (Zb _),?_⟩) (fun r s' hr=>?_) fun _ _ x=>x))
 ·exact z9 _ (Heap.get?_push_at rfl rfl)
 ·obtain⟨rfl,hQ⟩:=hr
  wp_walk
  exact hQ
theorem uO(F:ExcBaseFacts B newId initId bmB)(T:OwnTail h bmB bm){mN:Str->Option Value}{rest:List Value}{fI:Addr}{oI:Obj}{Q:Value->Shared->Prop}(hC:h.get? C=some (excClassObj nm q C N bs bm hdct sn sub ab col dd k0 k1 k2 k3 k5 newId))(hn:h.Ns N mN)(hi:mN "__init__" = some (.ref fI))(hfI:h.get? fI=some oI)(hfc:oI.cls=.type "function")(hq:∀h' e,Heap.MadeExcOf h h' e (.ref C) rest->wpAny (model prog w) (A.under (.builtin "type.__call__" ⟨.ref C::rest,[]⟩)) (call (.ref fI) (.ref e::rest)) (fun r s'=>r=.none/\Q (.ref e) s') E ⟨h',g,d,t,os⟩)(hrest:rest.length<=sizeLine) :
  wpAny (model prog w) A (call (.ref C) rest) Q E ⟨h,g,d,t,os⟩:=by
 have f1:=tc_lookup;have f2:=tc_bind (.ref C);have hT:(⟨h,g,d,t,os⟩:Shared).TypeIs (.ref C) "type":=⟨_,hC,rfl⟩
 refine wpAny_call (codeAny_of_tree ?_);show wpAny _ _ (callAny (.ref C) _) _ _ _
 repeat(any_goals(first|assumption|with_reducible refine YY hC ?_|wp_step))
 refine⟨rfl,?_⟩;exact codeAny_call_builtin_at (Code.quiet_builtin _ (by decide +kernel)) entry_typeCall (wpAny_check_type_call_sub hC (mR F T hC hn hi hfI hfc (fun h' e hm=>hq h' e hm) hrest))
end
section
variable{M:Model}{A:Around}{E:Value->Shared->Prop}{env:Env}{K:PySem.W.Frag}
theorem ym{C:Addr}{bm:List Value}{s:Shared}{x:Sem Value}{Q:Flow->Shared->Prop}(hC:ExC K C bm)(hh:A.handled=none)(h:wpAny M A x (fun v s₁=>∃e oe,v=.ref e/\K.In s₁.heap/\s₁.heap.get? e=some oe/\oe.cls=.ref C/\(∃t,oe.data=.fields #[.ref t,.none,.none,.none,.bool false,.none])/\E (.ref e) s₁) E s):wpAny M A (raiseStmt env (some x) none) Q E s:=by
 have hcB:(Value.ref C::bm).contains (.type "BaseException")=true:=by rw[List.contains_cons,hC.exc,Bool.or_true]
 unfold raiseStmt;refine z6 (ZL h (fun v s₁ h₁=>?_) fun _ _ x=>x);obtain⟨e,oe,rfl,hk,he,hcl,⟨vs,hd⟩,hE⟩:=h₁;obtain⟨nm,q,N,bs,hdct,sn,sub,ab,col,dd,k0,k1,k2,k3,k5,ni,oC⟩:=hC.cls _ hk;obtain⟨hp,g,d,tk,os⟩:=s₁;obtain⟨oc,od,odt,osl⟩:=oe;cases hcl;cases hd
 repeat(first|with_reducible refine YY he ?_|with_reducible refine YY oC ?_|(with_reducible refine wpAny_isSubtype_exc oC ?_;rw[hcB])|wp_step)
 exact wpAny_raiseNew_none hh hE
end
open PySem PySem.Spec PyProof.Rows PySem.W PySem.Builtin PySem.Builtin.ObjectAttr
theorem yr(self:Value):refuseLoop self "__setattr__" VE=pure ():=by kernel_rfl
def mn:List Value->Bool
 |.ref _::r=>mn r
 |l=>l==VE
theorem ku(self:Value):∀{l:List Value},mn l=true->refuseLoop self "__setattr__" l=pure ()
 |.ref c::r,e=>by rw[refuseLoop_ref];exact ku self e
 | [],e=>nomatch e
 |.type n::r,e=>by rw[show(Value.type n::r)=VE from Z2.mp e];exact yr self
 |.none::r,e=>by have:=(Z2 (α:=List Value)).mp e;cases this
 |.bool b::r,e=>by have:=(Z2 (α:=List Value)).mp e;cases this
 |.int b t::r,e=>by have:=(Z2 (α:=List Value)).mp e;cases this
 |.str b t::r,e=>by have:=(Z2 (α:=List Value)).mp e;cases this
 |.bytes b t::r,e=>by have:=(Z2 (α:=List Value)).mp e;cases this
 |.float b t::r,e=>by have:=(Z2 (α:=List Value)).mp e;cases this
 |.builtin b::r,e=>by have:=(Z2 (α:=List Value)).mp e;cases this
 |.ellipsis::r,e=>by have:=(Z2 (α:=List Value)).mp e;cases this
 |.notImplemented::r,e=>by have:=(Z2 (α:=List Value)).mp e;cases this
structure ExS(K:PySem.W.Frag)(c:Addr):Prop where
 sa:findIn K (.ref c) "__setattr__" = some (some (.builtin "object.__setattr__"))
 ov:((clsIn K c).any fun cd=>mn cd.mro&&cd.hasDict)=true
 ob:mroIn K c (.type "object")=some true
section
variable{prog:Program}{w:World}{K:PySem.W.Frag}{A:Around}{R:Result->Shared->Prop}{s:Shared}{x C:Addr}
theorem B3{ox:Obj}{od:Option Obj}{name:Str}{tk:Tok}{v:Value}(X:K.In s.heap)(I:InstAt s.heap x ox C od)(S:ExS K C)(hn:findIn K (.ref C) name=some none)(h:wpAny (model prog w) A.in1 (storeInOwnDict (.ref x) (.ref C) (.str name tk) name v false)
   (fun fin s'=>match fin with|.done f=>R (.ok f) s'|.again c'=>c'.quiet=true/\codeAny (model prog w) A c' R s') (fun e s'=>R (.error e) s') s) :
  codeAny (model prog w) A (.call (.builtin "object.__setattr__") ⟨[.ref x,.str name tk,v],[]⟩) R s:=by
 have SF:=PySem.F.store_object;obtain⟨cd,hc,ho⟩:=any_some S.ov;rw[Zx]at ho;have sub:Looks (model prog w) s.heap (isInstance (.ref x) (.type "object")) true:=I.type.andThen (looks_mroIn X S.ob);refine codeAny_call_builtin SF.slot.plain SF.entry (@check_slot (model prog w) _ _ s "object.__setattr__" "object" "__setattr__" (.ref x) [.str name tk,v] [] _ SF.kind SF.split sub (SF.args (.ref x) (.str name tk) v) ?_);have hm:Looks (model prog w) s.heap (mroOf (.ref C)) cd.mro:=(looks_clsIn X hc).andThen .now;rw[osa_eq,refuse_eq];refine z6 (z6 (I.type.here (z6 (hm.here ?_))));rw[ku _ ho.1];refine Za (z6 (I.type.here (z6 ((looks_findIn X hn).here (z6 (Looks.now.here ?_))))));exact h
end
def exN(ea c t:Addr)(dc:Option Addr):HO:=.ext fun h=>h.get? ea=some { cls:=.ref c,dict:=dc,data:=.fields #[.ref t,.none,.none,.none,.bool false,.none] }
theorem xr{P:Program}{w:World}{H:Hp}{h:Heap}{ea c t:Addr}{dc:Option Addr}(e:h.get? ea=some { cls:=.ref c,dict:=dc,data:=.fields #[.ref t,.none,.none,.none,.bool false,.none] }):ObjOk P w H h ea (exN ea c t dc) :=
 ⟨e,⟨_,e⟩,fun _ _ p k=>k _ p⟩
section
variable{X:Cx}{pins:List (Addr×Obj)}{σ:St}{H:Hp}{s:Shared}{a c t:Addr}{f:Str}{y:V}{u:Value}{A:Around}{E:Value->Shared->Prop}
theorem Cw{Q:Unit->Shared->Prop}(I:Inv X pins σ H s)(e:H a=some (exN a c t none))(S:ExS X.K c)(n:NoAttr X.K c f)(ry:RelV y u)(h:∀d s',H d=none->Inv X pins σ (upd (upd H d (.xd [(f,y)])) a (exN a c t (some d))) s'->Q () s'):wpAny (model X.prog X.w) A (setAttr (.ref a) f u) Q E s:=by
 have hx:s.heap.get? a=some { cls:=.ref c,dict:=none,data:=.fields #[.ref t,.none,.none,.none,.bool false,.none] }:=(show ObjOk X.prog X.w H s.heap a (exN a c t none)from I.hok a _ e).1;have J:InstAt s.heap a { cls:=.ref c,dict:=none,data:=.fields #[.ref t,.none,.none,.none,.bool false,.none] } c none:=⟨hx,rfl,rfl,True.intro⟩
 obtain⟨cd,hc,ho⟩:=any_some S.ov;rw[Zx]at ho;refine PySem.W.set_plain I.kIn J S.sa (B3 (s:={ s with toks:=s.toks+1 }) I.kIn J S n ?_);refine z6 (Za (z6 (z6 (wpAny_loadPart hx (z6 (PySem.W.Looks.here (s:={ s with toks:=s.toks+1 }) (PySem.W.looks_clsIn I.kIn hc) ?_))))));rw[ho.2];have hxs:a≠s.heap.objs.size:=Zt (Zk hx);have hx1:(s.heap.push { cls:=.type "dict",data:=.dict #[] }).get? a=some { cls:=.ref c,dict:=none,data:=.fields #[.ref t,.none,.none,.none,.bool false,.none] }:=z9 _ hx;show wpAny _ _ (alloc { cls:=.type "dict",data:=.dict #[] } >>= fun d=>update a (fun o=>{ cls:=o.cls,dict:=some d,data:=o.data,slots:=o.slots }) >>= fun _=>dictMade (.ref c) a d) _ _ _;refine z6 (wpAny_alloc' ?_);refine z6 (wpAny_update' hx1 ?_);refine Za ?_;have hgd:((s.heap.push { cls:=.type "dict",data:=.dict #[] }).update a fun o=>{ cls:=o.cls,dict:=some s.heap.objs.size,data:=o.data,slots:=o.slots }).get? s.heap.objs.size=some { cls:=.type "dict",data:=.dict #[] } :=
  (Heap.get?_update_ne _ _ _ _ hxs.symm).trans (Heap.get?_push_at rfl rfl)
 have hnd:((s.heap.push { cls:=.type "dict",data:=.dict #[] }).update a fun o=>{ cls:=o.cls,dict:=some s.heap.objs.size,data:=o.data,slots:=o.slots }).Ns s.heap.objs.size (fun _=>none) :=
  ⟨_,#[],_,hgd,rfl,fun e he=>absurd he (by simp),fun _=>rfl⟩
 refine z6 (Za (z6 (wpAny_nsSet1 (Heap.Ns1.of_empty hnd) fun h' hn' hs=>?_)));obtain⟨oD,esD,epD,hoD,hdD,hcD⟩:=hn'.count (Within.cons f u Within.nil);refine z6 (wpAny_lookBehind hoD (by rw[hdD];exact pastItsLine_dict (ZQ hcD (by rw[Zq,List.length_nil,sizeLine_eq];omega))) ?_);have hx':h'.get? a=some { cls:=.ref c,dict:=some s.heap.objs.size,data:=.fields #[.ref t,.none,.none,.none,.bool false,.none] }:=(hs.2 a hxs).trans (Yx _ hx1 rfl);have kp:∀b o,b≠a->s.heap.get? b=some o->h'.get? b=some o:=fun b o hb q=>(hs.2 b (Zt (Zk q))).trans ((Heap.get?_update_ne _ _ _ _ hb).trans (z9 _ q));have hd0:H s.heap.objs.size=none:=I.hok.fresh (Zb _);have nd:∀b o,s.heap.get? b=some o->b≠s.heap.objs.size:=fun b o q=>Zt (Zk q);have ne1:∀b v,H b=some v->v≠exN a c t none->b≠a:=fun b v q hv z=>by rw[z,e]at q;exact hv (Zw q).symm
 have ne2:∀b v,H b=some v->b≠s.heap.objs.size:=fun b v q=>aj q hd0;have un:Un X.fs [] H (upd (upd H s.heap.objs.size (.xd [(f,y)])) a (exN a c t (some s.heap.objs.size))) s.heap h':=by
  refine⟨fun b o q m _ _=>kp b o (fun z=>by rw[z,e]at m;cases m) q,fun b o q m _ _=>⟨o.slots,kp b o (fun z=>by rw[z,e]at m;cases m) q⟩,fun b o q m _=>?_,fun b o q _=>?_,fun b xs q=>?_,fun b o v q=>?_,fun b ps q=>⟨#[],?_⟩⟩
  ·rw[af (fun z=>by rw[z,e]at m;cases m),af (nd b o q)];exact m
  ·by_cases hb:b=a
   ·exact⟨_,hb▸hx'⟩
   ·exact⟨o,kp b o hb q⟩
  ·rw[af (ne1 _ _ q (by intro z;cases z)),af (ne2 _ _ q)];exact q
  ·rw[af (ne1 _ _ q (by intro z;cases z)),af (ne2 _ _ q)];exact q
  ·rw[af (ne1 _ _ q (by intro z;cases z)),af (ne2 _ _ q),q];simp
 have hok:HOk X.prog X.w (upd (upd H s.heap.objs.size (.xd [(f,y)])) a (exN a c t (some s.heap.objs.size))) h':=fun b v q=>by
  by_cases hb:b=a
  ·subst hb;rw[ad]at q;cases q;exact xr hx'
  ·rw[af hb]at q;by_cases hbd:b=s.heap.objs.size
   ·subst hbd;rw[ad]at q;cases q;refine⟨_,hn',fun g=>?_⟩;by_cases hg:g=f
    ·subst hg;rw[HK rfl];show RelO ([(g,y)].lookup g) (some u);rw[ZD,show(g==g)=true by simp];exact ry
    ·rw[HH hg];show RelO ([(f,y)].lookup g) none;rw[ZD,show(g==f)=false by simpa using hg];exact True.intro
   ·rw[af hbd]at q;refine(I.hok b v q).stay (fun b' v' hb' q'=>kp b' v' ?_ q') (fun b' q'=>?_) fun b' xs q'=>?_
    ·rcases hb' with rfl|z
     ·exact hb
     ·exact ne1 _ _ z (by intro z;cases z)
    ·rw[af (ne1 _ _ q' (by intro z;cases z)),af (ne2 _ _ q')];exact q'
    ·rw[af (ne1 _ _ q' (by intro z;cases z)),af (ne2 _ _ q')];exact q'
 exact Za (h _ _ hd0 (I.un un hok))
end
def FC(K:PySem.W.Frag)(ta tv:TE)(f:Str):TS:=fun D σ H=>tv σ H fun y H1=>ta σ H1 fun x H2=>∃a c t,x=.ref a/\H2 a=some (exN a c t none)/\ExS K c/\NoAttr K c f/\∀d,H2 d=none ->
 D.nx σ (upd (upd H2 d (.xd [(f,y)])) a (exN a c t (some d)))
theorem Ex{X:Cx}{o value:Expr}{f:Str}{pos pos':Pos}{ta tv:TE}(ha:QE X o ta)(hv:QE X value tv)(hs:swapsWith value (some (.Attribute o f pos')) pos.line X.env=pure false:=by rfl):QS X (.Assign [.Attribute o f pos'] value pos) (FC X.K ta tv f):=by refine⟨?_⟩;intro pins s σ H D I h;refine plainObj_wpAny_Assign_Attribute (thn (hv.h pins s σ H _ I h) fun u s1 ⟨y,H1,I1,ry,q⟩=>thn (ha.h pins s1 σ H1 _ I1 q) fun ov s2 hz9=>?_) hs;obtain⟨x,H2,I2,rx,a,c,t,ex,ea,S,n,q2⟩:=hz9;subst ex;obtain rfl:ov=Value.ref a:=rx;exact Cw I2 ea S n ry fun d s3 hd I3=>⟨σ,_,I3,q2 d hd⟩
open PySem PySem.Spec PyProof.Rows PySem.W
def del(H:Hp)(a:Addr):Hp:=fun b=>if b=a then none else H b
theorem zK{H:Hp}{a:Addr}:del H a a=none:=by unfold del;rw[HK rfl]
theorem dQ{H:Hp}{a b:Addr}(h:b≠a):del H a b=H b:=by unfold del;rw[HH h]
theorem xW{H:Hp}{a b:Addr}{u:HO}(h:del H a b=some u):b≠a/\H b=some u:=by
 by_cases c:b=a
 ·rw[c,zK]at h;cases h
 ·rw[dQ c]at h;exact⟨c,h⟩
open PySem PySem.Spec PyProof.Rows PySem.W
def qH(K:PySem.W.Frag)(C fI:Addr):Bool:=match K.lookup C with
 | some ⟨.type "type",_,.cls cd,sl⟩=>(match cd.mro,sl.toList with
  |.ref C'::bm,[_,_,_,_,some (.builtin n),_]=>C'==C&&n=="ValueError.__new__"&&!cd.hasDel&&tailIn K VE bm&&nsOkIn K cd.ns&&nsIn K cd.ns "__init__" == some (some (.ref fI))
  | _,_=>false)
 |_=>false
theorem vD{K:PySem.W.Frag}{h:Heap}{N:Addr}{m:Str->Option Value}{n:Str}{v:Value}(X:K.In h)(G:h.Ns N m)(e:nsIn K N n=some (some v)):m n=some v:=by
 obtain⟨o,es,ep,ho,hd,_,hf⟩:=G;unfold nsIn at e;split at e
 ·rename_i c d es' n' sl q;have:=X _ _ q;rw[ho]at this;cases this;cases hd;split at e
  ·rename_i en he;cases e;rw[<-hf];unfold nsFind findBy;rw[<-Array.find?_toList,he];rfl
  ·split at e<;>cases e
 ·cases e
structure ExcAtI(K:PySem.W.Frag)(C fI:Addr)(bm:List Value):Prop where
 isIn:qH K C fI=true
 mro:∃c d cd sl,K.lookup C=some ⟨c,d,.cls cd,sl⟩/\cd.mro=Value.ref C::bm
 exc:bm.contains (.type "BaseException")=true
 fn:∃oI,K.lookup fI=some oI/\oI.cls=.type "function"
theorem lT{K:PySem.W.Frag}{C fI:Addr}{bm:List Value}(q:ExcAtI K C fI bm){h:Heap}(X:K.In h) :
  ∃nm qn N bs hdct sn sub ab col dd k0 k1 k2 k3 k5 mN,h.get? C=some (excClassObj nm qn C N bs bm hdct sn sub ab col dd k0 k1 k2 k3 k5 "ValueError.__new__")/\h.Ns N mN/\mN "__init__" = some (.ref fI)/\OwnTail h VE bm:=by
 have q1:=q.isIn;obtain⟨c9,d9,cd9,sl9,l9,m9⟩:=q.mro;unfold qH at q1;split at q1
 ·rename_i dd cd sl ho;split at q1
  ·rename_i C' bm' k0 k1 k2 k3 n k5 hm hs;have q2:cd.mro=Value.ref C::bm:=by have z:=ho.symm.trans l9;cases z;exact m9
   rw[hm]at q2;injection q2 with z1 z2;injection z1 with z1;cases z1;cases z2;simp only[Zx,Z2,Bool.not_eq_true']at q1;obtain⟨⟨⟨⟨⟨_,rfl⟩,nd⟩,ht⟩,ok⟩,ni⟩:=q1;have es:sl=#[k0,k1,k2,k3,some (.builtin "ValueError.__new__"),k5]:=by obtain⟨l⟩:=sl;simp only at hs;rw[hs]
   cases es;obtain⟨nm,bs,mro,ns,qn,hd,sn,sub,ab,col,del⟩:=cd;dsimp only at hm nd ok ni;cases hm;cases nd;have G:h.Ns ns _:=.of_isNs (isNs_of_in X ok);exact⟨nm,qn,ns,bs,hd,sn,sub,ab,col,dd,k0,k1,k2,k3,k5,_,X _ _ ho,G,vD X G ni,tail_of_in X ht⟩
  ·cases q1
 ·cases q1
theorem jL{K:PySem.W.Frag}{C fI:Addr}{bm:List Value}(q:ExcAtI K C fI bm):ExC K C bm where
 cls:=fun h X=>by obtain⟨nm,qn,N,bs,hdct,sn,sub,ab,col,dd,k0,k1,k2,k3,k5,mN,e,_⟩:=lT q X;exact⟨nm,qn,N,bs,hdct,sn,sub,ab,col,dd,k0,k1,k2,k3,k5,_,e⟩
 exc:=q.exc
structure ExI(P:Program)(w:World)(K:PySem.W.Frag)(mg:Str->Option Value)(base:Heap)(k:Nat)(C:Addr)(bm:List Value)(ps:List Str)(sp:Sp):Prop where
 ex:∃fI fd,ExcAtI K C fI bm/\FnOk P w K mg base CX0 k fI fd ps sp/\Binds K fd ps []
section
variable{X:Cx}{pins:List (Addr×Obj)}{σ:St}{H:Hp}{s:Shared}
theorem Inv.excMade{h':Heap}{e c t:Addr}(I:Inv X pins σ H s)(kp:∀b o,s.heap.get? b=some o->h'.get? b=some o)(hn:s.heap.get? e=none)(he:h'.get? e=some { cls:=.ref c,data:=.fields #[.ref t,.none,.none,.none,.bool false,.none] }) :
  H e=none/\Inv X pins σ (upd H e (exN e c t none)) { s with heap:=h' }:=by
 have h0:H e=none:=by
  cases q:H e with
  |none=>rfl
  |some u =>obtain⟨o,z⟩:=eL (I.hok e u q);rw[hn]at z;cases z
 have nb:∀b o,s.heap.get? b=some o->b≠e:=fun b o q z=>by rw[z,hn]at q;cases q
 refine⟨h0,I.un (t':=s.toks) ⟨fun b o q _ _ _=>kp b o q,fun b o q _ _ _=>⟨o.slots,kp b o q⟩,fun b o q m _=>by rw[af (nb b o q)];exact m,fun b o q _=>⟨o,kp b o q⟩,fun b xs q=>by rw[af (aj q h0)];exact q,fun b o v q=>by rw[af (aj q h0)];exact q,fun b ps q=>⟨#[],by rw[af (aj q h0),q];simp⟩⟩ fun b u q=>?_⟩;by_cases hb:b=e
 ·subst hb;rw[ad]at q;cases q;exact xr he
 ·rw[af hb]at q;exact(I.hok b u q).stay (fun b' v _ q'=>kp b' v q') (fun b' z=>by rw[af (aj z h0)];exact z) fun b' xs z=>by rw[af (aj z h0)];exact z
end
section
variable{X:Cx}{EC:Value->Option Addr->Hp->Prop}{C:Addr}{bm:List Value}{k:Nat}{ps:List Str}{sp:Sp}{x:Str}{np cpos pos:Pos}{e:Expr}{es:List Expr}{ta:TA}
def CD(sp:Sp)(C:Addr)(EC:Value->Option Addr->Hp->Prop)(ta:TA):TS:=fun _ σ H=>ta σ H fun vs H1=>vs.length<=sizeLine/\∀ea t,H1 ea=none->H1 t=none->t≠ea ->
 sp (.ref ea::vs) (upd H1 ea (exN ea C t none)) (fun v H2=>v=.non/\∃dc,H2 ea=some (exN ea C t dc)/\EC (.ref C) dc (del H2 ea)) E0
end
open PySem PySem.Spec PyProof.Rows PySem.W
structure MFnX(P:Program)(w:World)(K:PySem.W.Frag)(mg:Str->Option Value)(base:Heap)(k:Nat)(C:Addr)(m:Str)(ps:List Str)(sp:Sp):Prop where
 cl:Cls K C
 ex:∃f fd,FnOk P w K mg base (CXr P w) k f fd ps sp/\Meth K C m f/\Binds K fd ps []
section
variable{X:Cx}{k:Nat}{C:Addr}{m x:Str}{p pos apos:Pos}{o e:Expr}{es:List Expr}{ps:List Str}{sp:Sp}{t:TA}{ta:TE}{E:XK}
def EI(C:Addr)(m:Str)(sp:Sp)(ta:TE)(t:TA):TX:=fun σ H Q E=>ta σ H fun x H1=>∃a dx fs,x=.ref a/\H1 a=some (.ins C dx fs)/\fs.lookup m=none/\t σ H1 fun vs H2=>sp (x::vs) H2 Q E
theorem se{pl:Sem Bool}(F:MFnX X.prog X.w X.K X.mg X.base k C m ps sp)(hr:Room k X.A)(he:QE X.nox o ta)(ha:QA X.nox (e::es) t)(hs:(e::es).all aW=true:=by rfl)(ht:eval (.Call (.Attribute o m apos) (e::es) [] pos) X.env=(do
   let ov ←eval o X.env
   standAt apos.atName
   let(f,first) ←holding [ov] (getMethod ov m pl)
   callWith pos f first (backTo pos (starEach (e::es) X.env)) (backToKw pos (keywordEach [] X.env))):=by rfl) :
  QX X (.Call (.Attribute o m apos) (e::es) [] pos) (EI C m sp ta t):=by
 refine⟨?_⟩;intro pins s σ H Q E I h;obtain⟨f,fd,G,hm,b⟩:=F.ex;rw[List.all_cons,Zx]at hs;refine PySem.W.methodCall_KW (pl:=pl) (ZL (he.h pins s σ H _ (I.wish _) h) (fun u s1 hz9=>?_) fun _ _ z=>False.elim z) ht;obtain⟨y,H1,I1,rx,a,dx,fs,ex,ea,l,q⟩:=hz9;subst ex;obtain rfl:u=Value.ref a:=rx;have I1':=I1.unwish;refine lU I1' ea F.cl hm l ?_;refine PySem.W.callWith_K (first:=[.ref a]) (h₀:=X.base) I.ok.mod.kin hm.kp (ZL (ha.h pos pins s1 σ H1 _ I1 q) (fun us s2 ⟨vs,H2,I2,r,q2⟩=>⟨I2.kIn,?_⟩) fun _ _ z=>False.elim z) (aZ hs.1) (bG hs.2);have I3:=I2.unwish;have hb:=b s2 (.ref a::us) I3.kIn (by rw[Z6,<-G.len _ _ _ _ q2,Zq,Zq,r.length]);rw[Z6]at hb;refine wpAny_call (codeAny_mono (G.run X.A X.stack s2 H2 ⟨.ref a::us,[]⟩ (.ref a::us) (.ref a::vs) Q E hr I3.env0 hb (.cons rfl r) q2) fun r s' hq=>?_);cases r with
 |error e=>exact⟨s2,H2,I3,hq⟩
 |ok fl =>
  cases fl with
  |ret u=>exact I3.after hq
  |next=>exact False.elim hq
  |brk=>exact False.elim hq
  |cont=>exact False.elim hq
end
section
variable{X:Cx}
theorem E8:QH X [] (fun _ _ _ _ _=>False):=⟨fun _ _ _ _ _ _ _ _ _ _ _ _ _ _ _ _ h=>h.elim⟩
def FE(K:PySem.W.Frag)(Ch:Addr)(ts:TS)(th:TH):TH:=fun D σ C dc H'=>∃c bm,C=.ref c/\ExC K c bm/\if(Value.ref c::bm).contains (.ref Ch)=true then ts D σ H' else th D σ C dc H'
theorem Db{x:Str}{Ch:Addr}{bmh:List Value}{b0:Stmt}{suite:List Stmt}{ts:TS}{np pos:Pos}{rest:List ExceptHandler}{th:TH}(cl:ExC X.K Ch bmh)(hm:X.mg x=some (.ref Ch))(hs:∀e,QB (X.exc e) (b0::suite) ts)(hrest:QH X rest th)(hg:Gl X x:=by rfl)(hdb:(x==("__debug__":Str))=false:=by decide):QH X (.ExceptHandler (some (.Name x np)) none (b0::suite) pos::rest) (FE X.K Ch ts th):=by
 refine⟨?_⟩;rintro pins s0 H0 σ D ea t C B H' dc s' I0 F fly hd ⟨c,bm,rfl,ec,q⟩;have I:=F.inv I0;refine wpAny_handleBy_cons (codeAny_handlers_test ?_) (by intro z;cases z);refine dI (X:=X.exc (.ref ea)) (I.exc _) hg hm ?_ hdb;obtain⟨oe,he,hcl⟩:=fly.there;refine gL ec cl I.kIn he hcl ?_;cases hc:(Value.ref c::bm).contains (.ref Ch)with
 |true =>
  rw[hc,HK rfl]at q;refine codeAny_handlers_suite ?_;obtain⟨f1,f2,f3,f4⟩:=fly;refine fB f1 f3 f4.at hd fun h6 k1 k2 k3 up6 hd6=>?_;have F6:=F.move (tk:=s'.toks) I0 k1 up6;refine ZL ((hs (.ref ea)).h pins _ _ _ _ ((F6.inv I0).exc _) q) (fun f s8 sp=>?_) (fun _ _ z=>False.elim z);cases f with
  |next =>obtain⟨σ2,H2,I8,q8⟩:=sp;exact⟨_,H2,I8.unexc I0.ok,q8⟩
  |brk =>obtain⟨σ2,H2,I8,q8⟩:=sp;exact⟨_,H2,I8.unexc I0.ok,q8⟩
  |cont =>obtain⟨σ2,H2,I8,q8⟩:=sp;exact⟨_,H2,I8.unexc I0.ok,q8⟩
  |ret u =>obtain⟨v,σ2,H2,I8,r8,q8⟩:=sp;exact⟨v,_,H2,I8.unexc I0.ok,r8,q8⟩
 |false =>rw[hc,HH Zo]at q;exact hrest.h pins s0 H0 σ D ea t _ B H' dc _ I0 F fly hd q
end
def exD(ea c:Addr)(dc:Option Addr):HO:=.ext fun h=>∃oe,h.get? ea=some oe/\oe.cls=.ref c/\oe.dict=dc/\notCls oe=true
theorem Fl.trackD{X:Cx}{pins:List (Addr×Obj)}{σ:St}{H0 H':Hp}{s0 s':Shared}{B:Heap}{ea t c:Addr}{dc:Option Addr}(F:Fl X H0 H' s0 s' B)(I0:Inv X pins σ H0 s0)(fly:Heap.FlyingW B X.stack ea (.ref c) (.ref t) s'.heap)(hd:∃oe,s'.heap.get? ea=some oe/\oe.cls=.ref c/\oe.dict=dc/\notCls oe=true) :
  H' ea=none/\Inv X pins σ (upd H' ea (exD ea c dc)) s':=by
 have I:=F.inv I0;obtain⟨oe,vs,he,hc,hf,_⟩:=fly.first;have nfr:ea∉frs X.stack:=fun hm=>by obtain⟨_,o',ho',hd'⟩:=I.stack.mem hm;have e:s'.heap.get? ea=some o':=ho';rw[he]at e;cases e;exact hd' vs hf
 have hB:B.get? ea=none:=fly.2.1;have hn:H' ea=none:=by
  cases q:H' ea with
  |none=>rfl
  |some u =>have:=F.kb ea oe nfr (.inl ⟨u,q⟩) he;rw[hB]at this;cases this
 have h0:s0.heap.get? ea=none:=by
  cases q:s0.heap.get? ea with
  |none=>rfl
  |some o0 =>have:=F.kb ea oe nfr (.inr ⟨o0,q⟩) he;rw[hB]at this;cases this
 have ne0:∀b o,s0.heap.get? b=some o->b≠ea:=fun b o q z=>by rw[z,h0]at q;cases q
 have neH:∀b u,H' b=some u->b≠ea:=fun b u q z=>by rw[z,hn]at q;cases q
 refine⟨hn,⟨I.ok,I.os,I.bare,⟨I.base.keep,I.base.slot,fun b o q n hx=>?_,I.base.there,fun b xs q=>?_,fun b o u q=>?_,fun b ps q=>?_⟩,I.loc,I.cell,?_,fun x c' q=>?_,fun p hp=>?_,fun b u q=>?_,I.len⟩⟩
 ·obtain⟨o',q'⟩:=I0.base.there b o q hx;rw[af (ne0 b o' q')];exact I.base.free b o q n hx
 ·have:=I.base.tups b xs q;rw[af (neH _ _ this)];exact this
 ·have:=I.base.frzs b o u q;rw[af (neH _ _ this)];exact this
 ·obtain⟨more,this⟩:=I.base.tbls b ps q;exact⟨more,by rw[af (neH _ _ this)];exact this⟩
 ·obtain⟨m,⟨o,_,_,ho,_⟩,_⟩:=I0.loc;rw[af (ne0 _ o ho)];exact I.free
 ·obtain⟨v,o,ho,_⟩:=I0.cell x c' q;rw[af (ne0 _ o ho)];exact I.freeC x c' q
 ·obtain⟨e,n,ne,nf,d⟩:=I.pin p hp;refine⟨e,?_,ne,nf,d⟩;rw[af (ne0 _ _ (I0.pin p hp).1)];exact n
 ·by_cases hb:b=ea
  ·subst hb;rw[ad]at q;cases q;obtain⟨o1,a1,a2,a3,a4⟩:=hd;exact⟨⟨o1,a1,a2,a3,a4⟩,⟨o1,a1⟩,fun h1 h2 ⟨o2,b1,b2,b3,b4⟩ k=>⟨o2,k o2 b1,b2,b3,b4⟩⟩
  ·rw[af hb]at q;refine(I.hok b u q).stay (fun _ _ _ z=>z) (fun d z=>?_) fun d xs z=>?_
   ·rw[af (neH _ _ z)];exact z
   ·rw[af (neH _ _ z)];exact z
def Ga(K:PySem.W.Frag)(i:Nat)(Ch:Addr)(ts:TS):TH:=fun D σ C dc H'=>∃c bm,C=.ref c/\ExC K c bm/\(Value.ref c::bm).contains (.ref Ch)=true/\∀ea,H' ea=none ->
 ts { nx:=fun σ2 H2=>D.nx (σ2.set i none) H2,rt:=D.rt,bk:=fun σ2 H2=>D.bk (σ2.set i none) H2,ct:=fun σ2 H2=>D.ct (σ2.set i none) H2 } (σ.set i (some (.ref ea))) (upd H' ea (exD ea c dc))
section
variable{X:Cx}
theorem va{i:Nat}{x n:Str}{Ch:Addr}{bmh:List Value}{b0:Stmt}{suite:List Stmt}{ts:TS}{np pos:Pos}{rest:List ExceptHandler}(hN:X.N.Nodup)(cl:ExC X.K Ch bmh)(hm:X.mg x=some (.ref Ch))(hs:∀e,QB (X.exc e) (b0::suite) ts)(hi:X.N[i]?=some n:=by rfl)(hl:X.env.kindOf n=some .local:=by rfl)(hg:Gl X x:=by rfl)(hdb:(x==("__debug__":Str))=false:=by decide) :
  QH X (.ExceptHandler (some (.Name x np)) (some n) (b0::suite) pos::rest) (Ga X.K i Ch ts):=by
 refine⟨?_⟩;rintro pins s0 H0 σ D ea t C B H' dc s' I0 F fly hd ⟨c,bm,rfl,ec,hc,q⟩;have I:=F.inv I0;refine wpAny_handleBy_cons (codeAny_handlers_test ?_) (by intro z;cases z);refine dI (X:=X.exc (.ref ea)) (I.exc _) hg hm ?_ hdb;obtain⟨oe,he,hcl⟩:=fly.there;refine gL ec cl I.kIn he hcl ?_;rw[hc];refine codeAny_handlers_suite_as ?_;obtain⟨f1,f2,f3,f4⟩:=fly;refine fB f1 f3 f4.at hd fun h6 k1 k2 k3 up6 hd6=>?_;have fly6:Heap.FlyingW B X.stack ea (.ref c) (.ref t) h6:=⟨k1,f2,k2,k3⟩
 have F6:=F.move (tk:=s'.toks) I0 fly6.1 up6;have hx6:∃oe,h6.get? ea=some oe/\oe.cls=.ref c/\oe.dict=dc/\notCls oe=true:=by obtain⟨oe,vs,z1,z2,z3,_⟩:=fly6.first;obtain⟨o2,y1,y2⟩:=hd6;cases Zw (z1.symm.trans y1);exact⟨oe,z1,z2,y2,by unfold notCls;rw[z3]⟩
 obtain⟨hn,I6⟩:=F6.trackD I0 fly6 hx6;refine iR I6 hN hi (.inl hl) (v:=.ref ea) (u:=.ref ea) rfl (fun s7 I7=>?_) (.inr hl);refine ZL ((hs (.ref ea)).h pins s7 _ _ _ (I7.exc _) (q ea hn)) (fun f s8 sp=>?_) (fun _ _ z=>False.elim z);cases f with
 |next =>obtain⟨σ2,H2,I8,q8⟩:=sp;exact gJ (I8.unexc I0.ok) hN hi hl fun s9 I9=>⟨_,H2,I9,q8⟩
 |brk =>obtain⟨σ2,H2,I8,q8⟩:=sp;exact gJ (I8.unexc I0.ok) hN hi hl fun s9 I9=>⟨_,H2,I9,q8⟩
 |cont =>obtain⟨σ2,H2,I8,q8⟩:=sp;exact gJ (I8.unexc I0.ok) hN hi hl fun s9 I9=>⟨_,H2,I9,q8⟩
 |ret u =>obtain⟨v,σ2,H2,I8,r8,q8⟩:=sp;exact gJ (I8.unexc I0.ok) hN hi hl fun s9 I9=>⟨v,_,H2,I9,r8,q8⟩
end
open PySem PySem.Spec PyProof.Rows PySem.W
section
variable{K:PySem.W.Frag}{prog:Program}{w:World}{A:Around}{E:Value->Shared->Prop}{h:Heap}{g:Array GenState}{d:Drawn}{t:Nat}{os:OsState}{x D:Addr}{ox:Obj}{od:Option Obj}
theorem lS{tk:Tok}{Q:PySem.Fin->Shared->Prop}(X:K.In h)(I:InstAt h x ox D od)(ha:findIn K (.ref D) "__class__" = some (some (.builtin "object.__class__")))(hm:mroIn K D (.type "object")=some true)(hq:Q (.done (.ret (.ref D))) ⟨h,g,d,t,os⟩):wpAny (model prog w) A (Builtin.«object.__getattribute__» ⟨[.ref x,.str "__class__" tk],[]⟩) Q E ⟨h,g,d,t,os⟩:=by
 have hT5:(⟨h,g,d,t,os⟩:Shared).TypeIs (.builtin "object.__class__") "getset_descriptor":=F.typeOf_object_class;have L0:=I.type (M:=model prog w);have L3:=looks_findIn (M:=model prog w) X ha;have f5:=F.typeOf_object_class;have f6:=F.slot_gs_get.lookup;have f7:=F.slot_gs_set.lookup
 repeat(any_goals(first|assumption|with_reducible refine L0.at ?_|with_reducible refine L3.at ?_|wp_step))
 refine class_get (s:=⟨h,g,d,t,os⟩) X I hm ?_
 repeat(any_goals(first|assumption|wp_step))
theorem lQ{M:Model}{nv:Value}{Q:Unit->Shared->Prop}(X:K.In h)(I:InstAt h x ox D od)(hb:mroIn K D (.type "BaseException")=some true)(hq:Q () ⟨h,g,d,t,os⟩) :
  wpAny M A (checkBuiltinCall "BaseException.__getattribute__" ⟨[.ref x,nv],[]⟩) Q E ⟨h,g,d,t,os⟩:=by
 have hk:builtinKind "BaseException.__getattribute__" = some .slot:=by decide +kernel
 have hs:splitId "BaseException.__getattribute__" = some ("BaseException","__getattribute__"):=by decide +kernel
 have ao:=F.args_bexc_ga (.ref x) nv;have L0:=I.type (M:=M);have L1:=looks_mroIn (M:=M) X hb;simp only[checkBuiltinCall,hk,hs];refine z6 ?_;unfold isInstance
 repeat(first|with_reducible refine L0.at ?_|with_reducible refine L1.at ?_|wp_step)
 exact hq
theorem uX{Q:Option Value->Shared->Prop}(X:K.In h)(I:InstAt h x ox D od)(hga:findIn K (.ref D) "__getattribute__" = some (some (.builtin "BaseException.__getattribute__")))(hgh:findIn K (.ref D) "__getattr__" = some none)(ha:findIn K (.ref D) "__class__" = some (some (.builtin "object.__class__")))(hb:mroIn K D (.type "BaseException")=some true)(hm:mroIn K D (.type "object")=some true)(hq:Q (some (.ref D)) ⟨h,g,d,t+1,os⟩) :
  wpAny (model prog w) A (getAttr? (.ref x) "__class__") Q E ⟨h,g,d,t,os⟩:=by
 have L0:=I.type (M:=model prog w);have L1:=looks_findIn (M:=model prog w) X hga;have L2:=looks_findIn (M:=model prog w) X hgh;have f3:=F.excAttr_ValueError.ga.bind (.ref x);have ne:(Value.builtin "BaseException.__getattribute__" == Value.builtin "object.__getattribute__")=false:=by decide +kernel
 have ne1:(onTheHeap (Value.ref D)&&Value.builtin "BaseException.__getattribute__" == Value.builtin "object.__getattribute__")=false:=by rw[ne];rfl
 have ne2:(false&&onTheHeap (Value.builtin "BaseException.__getattribute__"))=false:=rfl;unfold getAttr? getAttrBy?
 repeat(any_goals(first|assumption|with_reducible refine L0.at ?_|with_reducible refine L1.at ?_|with_reducible refine L2.at ?_|wp_step))
 refine codeAny_call_builtin F.excAttr_ValueError.ga.plain F.entry_bexc_ga (lQ X I hb (lS X I ha hm ?_))
 repeat(any_goals(first|assumption|wp_step))
theorem xt{tk:Tok}{name:Str}{v:Value}{Q:PySem.Fin->Shared->Prop}(X:K.In h)(I:InstAt h x ox D od)(hf:findObj K D od name=some (.value v))(hq:Q (.done (.ret v)) ⟨h,g,d,t,os⟩):wpAny (model prog w) A (Builtin.«object.__getattribute__» ⟨[.ref x,.str name tk],[]⟩) Q E ⟨h,g,d,t,os⟩:=by have L0:=I.type (M:=model prog w);have L3:=looks_find (M:=model prog w) X I hf;refine z6 (Za (z6 (Za (z6 (L0.at (z6 (L3.at ?_)))))));exact Za hq
theorem zQ{name:Str}{v:Value}{expr:Bool}{Q:Value->Shared->Prop}(X:K.In h)(I:InstAt h x ox D od)(hga:findIn K (.ref D) "__getattribute__" = some (some (.builtin "BaseException.__getattribute__")))(hgh:findIn K (.ref D) "__getattr__" = some none)(hb:mroIn K D (.type "BaseException")=some true)(hf:findObj K D od name=some (.value v))(hv:handedIn v=true)(hq:Q v ⟨h,g,d,t+1,os⟩) :
  wpAny (model prog w) A (getAttr (.ref x) name expr) Q E ⟨h,g,d,t,os⟩:=by
 have L0:=I.type (M:=model prog w);have L1:=looks_findIn (M:=model prog w) X hga;have L2:=looks_findIn (M:=model prog w) X hgh;have f3:=F.excAttr_ValueError.ga.bind (.ref x);have hx0:(expr&&onTheHeap (Value.builtin "BaseException.__getattribute__"))=false:=by cases expr<;>rfl
 have ne:(Value.builtin "BaseException.__getattribute__" == Value.builtin "object.__getattribute__")=false:=by decide +kernel
 have ne1:(onTheHeap (Value.ref D)&&Value.builtin "BaseException.__getattribute__" == Value.builtin "object.__getattribute__")=false:=by rw[ne];rfl
 have hh:=handedOut_of hv;unfold getAttr getAttrBy
 repeat(any_goals(first|assumption|with_reducible refine L0.at ?_|with_reducible refine L1.at ?_|with_reducible refine L2.at ?_|wp_step))
 refine codeAny_call_builtin F.excAttr_ValueError.ga.plain F.entry_bexc_ga (lQ X I hb (xt X I hf ?_))
 repeat(any_goals(first|assumption|wp_step))
end
theorem pd{K:PySem.W.Frag}{x c:Addr}{ox:Obj}{od:Option Obj}(k:ExK K c):KitX K (.ref x) (.ref c) (fun h=>InstAt h x ox c od) where
 ty:=fun _ _ _ I=>I.type
 it:=fun _ _ X _=>by
  obtain⟨cd,hc⟩:=Option.isSome_iff_exists.mp k.hc;unfold clsIn at hc;split at hc
  ·rename_i ho;intro A' Q' E' s' kp q;unfold isType loadHead;exact z6 (wpAny_loadPart (kp _ _ (X _ _ ho)) (Za q))
  ·cases hc
 ne:=fun h tp dd its n sl X htp=>by
  obtain⟨cd,hc⟩:=Option.isSome_iff_exists.mp k.hc;refine Z4.mpr fun q=>?_;have e:c=tp:=Value.ref.inj (Z2.mp q);cases e;unfold clsIn at hc;split at hc
  ·rename_i ho;exact nomatch((X _ _ ho).symm.trans htp)
  ·cases hc
 ca:=fun{_ _ _ _ _ s} X I kq=>by obtain⟨hp,g,d,tt,os⟩:=s;exact uX X I k.hga k.hgh k.ha k.hb k.hm kq
def zi(H:Hp):Option Addr->Prop
 |none=>True
 |some d=>∃fs,H d=some (.xd fs)
section
variable{X:Cx}{pins:List (Addr×Obj)}{σ:St}{H:Hp}{s:Shared}
theorem jb{a c:Addr}{dc:Option Addr}(I:Inv X pins σ H s)(ha:H a=some (exD a c dc))(hd:zi H dc):∃oe od,InstAt s.heap a oe c od/\∀d,dc=some d->∃o,od=some o/\s.heap.get? d=some o:=by
 obtain⟨⟨oe,h1,h2,h3,h4⟩,_⟩:=(show ObjOk X.prog X.w H s.heap a (exD a c dc)from I.hok a _ ha)
 cases dc with
 |none=>exact⟨oe,none,⟨h1,h2,h4,by rw[h3];exact True.intro⟩,fun d z=>nomatch z⟩
 |some d =>obtain⟨fs,hf⟩:=hd;obtain⟨o,ho⟩:=eL (I.hok d _ hf);exact⟨oe,some o,⟨h1,h2,h4,by rw[h3];exact ho⟩,fun d' z=>by cases z;exact⟨o,rfl,ho⟩⟩
def Bt(K:PySem.W.Frag)(ta:TE)(f:Str):TE:=fun σ H Q=>ta σ H fun x H1=>∃a c d fs v,x=.ref a/\H1 a=some (exD a c (some d))/\H1 d=some (.xd fs)/\ExK K c/\hasDictIn K c=true/\NoAttr K c f/\fs.lookup f=some v/\Q v H1
theorem Ej{e:Expr}{f:Str}{pos:Pos}{ta:TE}(he:QE X e ta)(hb:attributeBase e f X.env (eval e X.env)=eval e X.env:=by rfl):QE X (.Attribute e f pos) (Bt X.K ta f):=by
 refine⟨?_⟩;intro pins s σ H Q I h;refine tm hb (thn (he.h pins s σ H _ I h) fun u s1 hz9=>?_);obtain⟨x,H1,I1,rx,a,c,d,fs,v,ex,ea,ed,k,hh,n,l,q⟩:=hz9;subst ex;obtain rfl:u=Value.ref a:=rx;obtain⟨oe,od,ia,hod⟩:=jb I1 ea ⟨fs,ed⟩;obtain⟨o,rfl,ho⟩:=hod d rfl;obtain⟨mA,hn,hr⟩:=(show ObjOk X.prog X.w H1 s1.heap d (.xd fs)from I1.hok d _ ed)
 obtain⟨o2,ho2,hl⟩:=pe hn;cases Zw (ho.symm.trans ho2);obtain⟨u',hu,ru⟩:=RelO.some_of (v:=v) (o:=mA f) (by rw[<-l];exact hr f);obtain⟨hp,g,dr,tk,os⟩:=s1;exact zQ I1.kIn ia k.hga k.hgh k.hb (findObj_own hh n rfl (by rw[hl,hu])) (oW ru) ⟨v,H1,I1.tok (tk+1),ru,q⟩
end
open PySem PySem.Spec PyProof.Rows PySem.W
def BE(X:Cx)(B:Heap)(ea:Addr)(C:Value)(t:Addr)(h:Heap):Prop :=
 (B.StaysIn h/\B.get? ea=none/\h.FunFrames B X.stack/\∃oe,h.get? ea=some oe/\oe.cls=C/\oe.data=.fields #[.ref t,.none,.none,.none,.bool false,.none]) \/
 Heap.FlyingW B X.stack ea C (.ref t) h\/Heap.HeldW B X.stack ea C (.ref t) X.env.locals h
def A4(X:Cx)(E:XK)(ea:Addr)(s':Shared):Prop:=∃(pins:List (Addr×Obj)) (σ:St) (H0 H':Hp) (s0:Shared) (B:Heap) (t:Addr) (C:Value) (vs:List Value) (dc:Option Addr),
 Inv X pins σ H0 s0/\Fl X H0 H' s0 s' B/\BE X B ea C t s'.heap/\s'.heap.TupAt t vs/\B.get? t=none/\dN s'.heap ea dc/\E C dc H'
section
variable{X:Cx}{E:XK}{ea:Addr}{s':Shared}{EE:Value->Shared->Prop}
theorem uL{Q:Unit->Shared->Prop}(hst:X.stack=X.env::X.outer)(hfr:X.env.frame=some X.env.locals)(x:A4 X E ea s')(k:∀ h',(∃ (pins:List (Addr×Obj)) (σ:St) (H0 H':Hp) (s0:Shared) (B:Heap) (t:Addr) (C:Value) (vs:List Value) (dc:Option Addr),
   Inv X pins σ H0 s0/\Fl X H0 H' s0 { s' with heap:=h' } B/\Heap.HeldW B X.stack ea C (.ref t) X.env.locals h'/\h'.TupAt t vs/\B.get? t=none/\dN h' ea dc/\E C dc H')->Q () { s' with heap:=h' }) :
  wpAny (model X.prog X.w) X.A (noteFrame (.ref ea) X.env) Q EE s':=by
 obtain⟨pins,σ,H0,H',s0,B,t,C,vs,dc,I0,F,st,tup,hBt,dd,q⟩:=x;have fr:X.A.frames=some (X.env::X.outer):=by rw[<-hst];exact I0.ok.frames
 rcases st with⟨f1,f2,f3,oe,he,rfl,hd⟩|fly|held
 ·unfold noteFrame;simp only[hfr];refine z6 (ZW he hd (show _=some Value.none from rfl) ?_);rw[HH (by decide)];rw[hst]at f3;refine kr (a0:=.ref t) fr f3 hfr he f1 f2 hd (by simp) rfl fun h1 nt dd1=>?_;obtain⟨n1,n2,n3,n4⟩:=nt;rw[<-hst]at n2;obtain⟨o9,q9,d9⟩:=dd;cases Zw (he.symm.trans q9);rw[d9]at dd1;exact k h1 ⟨pins,σ,H0,H',s0,B,t,_,vs,dc,I0,F.move (tk:=s'.toks) I0 n1 n4,⟨n1,f2,n2,n3⟩,tup.of_slots n4,hBt,dd1,q⟩
 ·rw[hst]at fly;refine mi fr hfr fly dd fun h1 held up dd1=>?_;rw[<-hst]at held;exact k h1 ⟨pins,σ,H0,H',s0,B,t,C,vs,dc,I0,F.move (tk:=s'.toks) I0 held.1 up,held,tup.of_slots up,hBt,dd1,q⟩
 ·exact wpAny_noteFrame_againW hfr held.2.2.2 (k s'.heap ⟨pins,σ,H0,H',s0,B,t,C,vs,dc,I0,F,held,tup,hBt,dd,q⟩)
end
def mW(X:Cx)(E:XK):Prop:=∀ea s',A4 X E ea s'->X.xe (.ref ea) s'
section
variable{P:Program}{w:World}{K:PySem.W.Frag}{mg:Str->Option Value}{base:Heap}{N:List Str}{qual:Str}{scope:Scope}{f:Addr}{cd:Value}{A:Around}{outer:List Env}{s:Shared}{H:Hp}{E:XK}
theorem fF:mW (dq (CXr P w) P w K mg base N qual scope f cd A outer s H E) E:=by
 intro ea s' x;show wpAny (model P w) (A.deeper (envOfC qual scope s.heap.objs.size f cd)) (leaving (envOfC qual scope s.heap.objs.size f cd) (.ref ea)) _ _ _;unfold leaving;refine z6 (uL (X:=dq (CXr P w) P w K mg base N qual scope f cd A outer s H E) rfl rfl x ?_);rintro h1 ⟨pins,σ,H0,H',s0,B,t,C,vs,dc,I,F,held,tup,hBt,dd,q⟩;obtain⟨f1,f2,f3,f4⟩:=held;refine fB (s:={ s' with heap:=h1 }) f1 f3 f4 dd fun h2 k1 k2 k3 up dd2=>?_;have F2:=F.move (tk:=s'.toks) I k1 up;have I2:=F2.inv I;have hL:∀b o,s.heap.get? b=some o->b≠s.heap.objs.size:=fun b o q=>Zt (Zk q);have nfr:∀b,b∉frs outer->b≠s.heap.objs.size->b∉frs (envOfC qual scope s.heap.objs.size f cd::outer):=fun b h1 h2 hm=>by
  rcases Zs.mp (I.stkSub b hm)with z|z
  ·exact h2 z
  ·exact h1 z
 obtain⟨_,_,k2'⟩:=k2;refine⟨ea,t,C,vs,B,H',dc,rfl,I2.os,F2.bare,⟨fun b o q n hb _=>?_,fun b o q n hb _=>?_,fun b o q n _=>?_,fun b o q _=>?_,I2.base.tups,I2.base.frzs,I2.base.tbls⟩,F2.hok,⟨k1,f2,k2',k3⟩,tup.of_slots up,hBt,fun b o hb ho q=>?_,dd2,q⟩
 ·exact I2.base.keep b o q n hb (by intro z;cases z)
 ·exact I2.base.slot b o q n hb (by intro z;cases z)
 ·exact I2.base.free b o q n (by intro z;cases z)
 ·exact I2.base.there b o q (by intro z;cases z)
 ·refine F2.kb b o ?_ ?_ q
  ·rcases ho with⟨u,z⟩|⟨o0,z⟩
   ·exact F2.nf I z
   ·exact nfr b hb (hL b o0 z)
  ·rcases ho with⟨u,z⟩|⟨o0,z⟩
   ·exact .inl ⟨u,z⟩
   ·exact .inr (I.base.there b o0 z (by intro z;cases z))
end
section
variable{X:Cx}{E:XK}
theorem jp(hR:mW X E):wW X (fun C H1=>E C none H1):=fun pins σ H1 s1 h2 e C vs I hx hE=>by
 obtain⟨t,he,tn,tt⟩:=hx.there;have fr0:∀b,b∈frs X.stack->∃o,s1.heap.get? b=some o:=fun b hm=>by obtain⟨_,o',ho',_⟩:=I.stack.mem hm;exact⟨o',ho'⟩
 have hid:∀b o,s1.heap.get? b=some o->b∉frs X.stack->(hideAll s1.heap (frs X.stack)).get? b=some o:=fun b o q hb=>hideAll_get _ q hb;have none_of:∀b,s1.heap.get? b=none->(hideAll s1.heap (frs X.stack)).get? b=none:=fun b hb=>by
  cases q:(hideAll s1.heap (frs X.stack)).get? b with
  |none=>rfl
  |some o=>exact nomatch hb.symm.trans (of_hideAll _ q)
 have tr:∀b u,H1 b=some u->b∉frs X.stack:=fun b u q hm=>by have:=I.stkFree b hm;rw[q]at this;cases this
 have F:Fl X H1 H1 s1 { s1 with heap:=h2 } (hideAll s1.heap (frs X.stack)):=⟨rfl,I.bare,Un.kept hx.keeps,I.hok.kept hx.keeps,fun b o hb ho q=>by
  obtain⟨o1,q1⟩:∃o1,s1.heap.get? b=some o1:=by
   rcases ho with⟨u,z⟩|⟨o0,z⟩
   ·exact eL (I.hok b u z)
   ·exact⟨o0,z⟩
  have q2:=hx.keeps _ _ q1;have q':h2.get? b=some o:=q;rw[q']at q2;cases q2;exact hid b o q1 hb⟩
 have ff:h2.FunFrames (hideAll s1.heap (frs X.stack)) X.stack:=(funFrames_hide I.stack fun env he b hb=>Y9.mpr ⟨env,he,hb⟩).of_keeps fun b o q _=>⟨o,hx.keeps b o q,rfl⟩
 exact hR e _ ⟨pins,σ,H1,H1,s1,_,t,C,vs,none,I,F,.inl ⟨fun b o q=>hx.keeps b o (of_hideAll _ q),none_of e hx.new,ff,_,he,rfl,rfl⟩,⟨_,_,tt,rfl,rfl⟩,none_of t tn,⟨_,he,rfl⟩,hE⟩
end
section
variable{X:Cx}{E:XK}{C:Addr}{bm:List Value}{k:Nat}{ps:List Str}{sp:Sp}{x:Str}{np cpos pos:Pos}{e:Expr}{es:List Expr}{ta:TA}
theorem rB(hR:mW X E)(hc:X.calm=true)(F:ExI X.prog X.w X.K X.mg X.base k C bm ps sp)(hr:Room (k+1) X.A)(hm:X.mg x=some (.ref C))(ha:QA X (e::es) ta)(hg:Gl X x:=by rfl)(hs:(e::es).all aW=true:=by rfl)(hdb:(x==("__debug__":Str))=false:=by decide) :
  QS X (.Raise (some (.Call (.Name x np) (e::es) [] cpos)) none pos) (CD sp C E ta):=by
 refine⟨?_⟩;intro pins s σ H D I h;obtain⟨fI,fd,xc,G,hb⟩:=F.ex;have hs1:aW e=true:=ZU.mp hs e (by simp);have he:=aZ (es:=es) (env:=X.env) hs1;have hpl:(backTo cpos (starEach es X.env)).any (·.1)=false:=bG (by
  rw[ZU];intro y hy;exact ZU.mp hs y (ZA _ hy))
 have hpl':(backTo cpos (starEach (e::es) X.env)).any (·.1)=false:=by rw[he];show(false ||(backTo cpos (starEach es X.env)).any (·.1))=false;rw[hpl];rfl
 rw[arm_exec_Raise];refine z6 (wpAny_standAt (ym (K:=X.K) (jL xc) (I.ok.hd hc) (z6 (ZL (wpAny_Call_ofName (dI I hg hm ?_ hdb)) (fun v s₃ h₃=>z6 (wpAny_standAt (Za h₃))) fun _ _ x=>x))));unfold callWith;have hA:=ha.h cpos pins s σ H _ I h;rw[he]at hA ⊢;refine z6 (Z7 (Calls.evalArgs_plain (thn hA fun us s1 ⟨vs,H1,I1,r1,hz,hE⟩=>z6 (wpAny_standAt ?_))));obtain⟨nm,q,N,bs,hdct,sn,sub,ab,col,dd,k0,k1,k2,k3,k5,mN,oC,hN,hi,T⟩:=lT xc I1.kIn;obtain⟨oI,lI,cI⟩:=xc.fn;obtain⟨hp,g,d,tk,os⟩:=s1;rw[<-he];simp only[hpl'];refine z6 (wpAny_keeperOf_exc oC ?_);refine z6 (uO PySem.F.excBase_ValueError T oC hN hi (I1.kIn _ _ lI) cI (fun h' ea mx=>?_) (show us.length<=sizeLine by rw[<-r1.length];exact hz));obtain⟨t,ht,tn,tt⟩:=mx.there;obtain⟨hea0,I2⟩:=I1.excMade mx.keeps mx.new ht;have nt:t≠ea:=fun z=>by rw[z,ht]at tt;cases tt
 have ht0:H1 t=none:=by
  cases q:H1 t with
  |none=>rfl
  |some u =>obtain⟨o,z⟩:=eL (I1.hok t u q);exact nomatch tn.symm.trans z
 have hq:=hE ea t hea0 ht0 nt;have hl:(Value.ref ea::us).length=ps.length:=by rw[<-G.len _ _ _ _ hq,Zq,Zq,r1.length]
 refine wpAny_call (codeAny_mono (G.run _ X.stack _ _ ⟨Value.ref ea::us,[]⟩ (Value.ref ea::us) (V.ref ea::vs) _ _ (hr.make C us []) (I2.env0.make C us []) (by have:=hb _ (Value.ref ea::us) I2.kIn (by rw[Z6];exact hl);rw[Z6]at this;exact this) (.cons rfl r1) hq) fun r s' hq'=>?_);cases r with
 |error e'=>exact False.elim hq'
 |ok fl =>
  cases fl with
  |next=>exact False.elim hq'
  |brk=>exact False.elim hq'
  |cont=>exact False.elim hq'
  |ret u =>
   obtain⟨v,H',os',bare,un,hok,r,rfl,dc,hd,hE'⟩:=hq';obtain rfl:u=Value.none:=r;have I3:Inv X pins σ H' s':=I2.call' os' un hok bare fun _ z=>nomatch z;have notin:∀b,hp.get? b=none->b∉frs X.stack:=fun b hb hm=>by obtain⟨_,o',ho',_⟩:=I1.stack.mem hm;exact nomatch hb.symm.trans ho'
   have hx:s'.heap.get? ea=some { cls:=.ref C,dict:=dc,data:=.fields #[.ref t,.none,.none,.none,.bool false,.none] }:=(show ObjOk X.prog X.w H' s'.heap ea (exN ea C t dc)from I3.hok ea _ hd).1;have ut:upd H1 ea (exN ea C t none) t=none:=by rw[af nt];exact ht0
   have tt':=un.keep t _ tt ut (notin t tn) (by intro z;cases z);refine⟨rfl,z6 (Z7 (wpAny_point (Za ⟨ea,_,rfl,I3.kIn,hx,rfl,⟨t,rfl⟩,?_⟩)))⟩;have hy:s'.heap.get? ea=some { cls:=.ref C,dict:=dc,data:=.fields #[.ref t,.none,.none,.none,.bool false,.none] }:=hx;have ne:∀b v,H' b=some v->v≠exN ea C t dc->b≠ea:=fun b v q hv z=>by rw[z,hd]at q;exact hv (Zw q).symm
   have ft:=un.free t _ tt ut (by intro z;cases z);have tr2:∀b v,H' b=some v->b≠t:=fun b v q z=>by rw[z,ft]at q;cases q
   have tfr:∀b v,H' b=some v->b∉frs X.stack:=fun b v q hm=>by have:=I3.stkFree b hm;rw[q]at this;cases this
   have oe:∀b o,hp.get? b=some o->b≠ea:=fun b o q z=>by rw[z]at q;exact nomatch mx.new.symm.trans q
   have ot:∀b o,hp.get? b=some o->b≠t:=fun b o q z=>by rw[z]at q;exact nomatch tn.symm.trans q
   have un1:Un (frs X.stack) [] H1 (del H' ea) hp s'.heap:=by
    refine⟨fun b o q n hb hx'=>un.keep b o (mx.keeps b o q) (by rw[af (oe b o q)];exact n) hb hx',fun b o q n hb hx'=>un.slot b o (mx.keeps b o q) (by rw[af (oe b o q)];exact n) hb hx',fun b o q n hx'=>?_,fun b o q hx'=>un.there b o (mx.keeps b o q) hx',fun b xs q=>?_,fun b o v q=>?_,fun b ps' q=>?_⟩
    ·rw[dQ (oe b o q)];exact un.free b o (mx.keeps b o q) (by rw[af (oe b o q)];exact n) hx'
    ·have:=un.tups b xs (by rw[af (aj q hea0)];exact q);rw[dQ (ne _ _ this (by intro z;cases z))];exact this
    ·have:=un.frzs b o v (by rw[af (aj q hea0)];exact q);rw[dQ (ne _ _ this (by intro z;cases z))];exact this
    ·obtain⟨more,this⟩:=un.tbls b ps' (by rw[af (aj q hea0)];exact q);exact⟨more,by rw[dQ (ne _ _ this (by intro z;cases z))];exact this⟩
   have hok1:HOk X.prog X.w (del H' ea) s'.heap:=fun b v q=>by obtain⟨hb,q⟩:=xW q;exact(I3.hok b v q).stay (fun _ _ _ z=>z) (fun b' z=>by rw[dQ (ne _ _ z (by intro z;cases z))];exact z) fun b' xs z=>by rw[dQ (ne _ _ z (by intro z;cases z))];exact z
   have hid:∀b o,s'.heap.get? b=some o->b≠ea->b≠t->b∉frs X.stack->(hideAll s'.heap (ea::t::frs X.stack)).get? b=some o:=fun b o q h1 h2 h3 =>
    hideAll_get _ q fun hm=>by
     rcases Zs.mp hm with z|hm
     ·exact h1 z
     rcases Zs.mp hm with z|hm
     ·exact h2 z
     ·exact h3 hm
   have Fx:Fl X H1 (del H' ea) ⟨hp,g,d,tk,os⟩ s' (hideAll s'.heap (ea::t::frs X.stack)):=⟨os',bare,un1,hok1,fun b o hb ho q=>by
    rcases ho with⟨v,z⟩|⟨o0,z⟩
    ·obtain⟨hb',z⟩:=xW z;exact hid b o q hb' (tr2 _ _ z) hb
    ·exact hid b o q (oe b o0 z) (ot b o0 z) hb⟩
   exact hR ea s' ⟨pins,σ,H1,del H' ea,_,_,t,.ref C,us,dc,I1,Fx,.inl ⟨fun b o q=>of_hideAll _ q,hideAll_none _ Yl,
    funFrames_hide I3.stack fun env he b hb=>ZA _ (ZA _ (Y9.mpr ⟨env,he,hb⟩)),_,hy,rfl,rfl⟩,⟨_,_,tt',rfl,rfl⟩,hideAll_none _ (ZA _ Yl),⟨_,hy,rfl⟩,hE'⟩
end
open PySem PySem.Spec PyProof.Rows PySem.W
theorem C2{X:Cx}:QCall X (.builtin "isinstance") (fun xs H Q=>∃ (x T:V) (u:Value) (b:Bool),xs=[x,T]/\(∀ v,RelV T v->v=u) /\
  ((∃ t,TyOf X.K H x t/\PySem.W.kitOne X.K t u=some b)\/∃ (a c:Addr) (dc:Option Addr),x=.ref a/\H a=some (exD a c dc)/\zi H dc/\ExK X.K c/\PySem.W.kitOne X.K (.ref c) u=some b)/\Q (.bl b) H):=by
 refine⟨?_⟩;intro pins s σ H xs us Q I r h;obtain⟨x,T,u,b,rfl,ht,hh,q⟩:=h;obtain⟨v,w',rfl,rx,ry⟩:=mS r;cases ht w' ry;rcases hh with⟨t,ty,e⟩|⟨a,c,dc,rfl,ha,hd,k,e⟩
 ·exact oY I rx ty e fun tk=>⟨.bl b,H,I.tok tk,rfl,q⟩
 ·cases rx;obtain⟨oe,od,ia,_⟩:=jb I ha hd;exact Ym (pd k) I.kIn ia e (fun z=>nomatch z) fun tk=>⟨.bl b,H,I.tok tk,rfl,q⟩
open PySem PySem.Spec PyProof.Rows PySem.W
def qa(qual:Str)(params:Arguments)(body:Expr)(scope:Scope)(cl:List (Str×Addr))(pm:Value)(c:Addr)(ct:Value):FuncData:=kla_fn "<lambda>" qual params body scope cl pm (.ref c) ct
def gZ(qual:Str)(params:Arguments)(body:Expr)(scope:Scope)(cl:List (Str×Addr))(pm:Value)(c:Addr)(ct:Value):Obj:={ cls:=.type "function",data:=.func (qa qual params body scope cl pm c ct) }
def eI(a:Addr)(o:Obj):HO:=.ext fun h=>h.get? a=some o
def je(c:Addr)(qual:Str):HO:=.ext fun h=>h.CodeRec (.ref c) qual
theorem nI{P:Program}{w:World}{H:Hp}{h:Heap}{a:Addr}{o:Obj}(e:h.get? a=some o):ObjOk P w H h a (eI a o):=⟨e,⟨o,e⟩,fun _ _ x k=>k _ x⟩
theorem BM{P:Program}{w:World}{H:Hp}{h:Heap}{c:Addr}{q:Str}(e:h.CodeRec (.ref c) q):ObjOk P w H h c (je c q):=by obtain⟨c',oc,vs,t,e1,e2,e3,e4⟩:=id e;cases e1;refine⟨e,⟨oc,e2⟩,fun h1 h2 x k=>?_⟩;obtain⟨c',oc,vs,t,e1,e2,e3,e4⟩:=id x;cases e1;exact⟨c,oc,vs,t,rfl,k _ e2,e3,e4⟩
def Blt(h:Heap)(mg:Str->Option Value):Prop:=∃bm ob,mg "__builtins__" = some (.ref bm)/\bm≠builtinsNs/\h.get? bm=some ob/\ob.cls=.type "module"/\ob.dict=some builtinsNs/\ob.data=.plain
section
variable{X:Cx}{pins:List (Addr×Obj)}{σ:St}{H:Hp}{s:Shared}
theorem Inv.bltAt(I:Inv X pins σ H s)(B:Blt X.base X.mg){P:Addr}{ps:Array Value}(hP:H P=some (.tbl ps)):s.heap.BuiltinsAt X.mg P:=by
 obtain⟨bm,ob,b1,b2,b3,b4,b5,b6⟩:=B;refine⟨bm,ob,b1,b2,fun z=>?_,fun z=>?_,I.bk _ _ b3,b4,b5,b6⟩
 ·obtain⟨o,es,ep,e,d,_⟩:=I.ok.mod.glob;rw[<-z,b3]at e;cases e;rw[d]at b6;cases b6
 ·have:=(I.bs _ _ b3).2;rw[z,hP]at this;cases this
theorem Inv.grown{h':Heap}{P c f:Addr}{ps more:Array Value}{oc of':HO}{t':Nat}(I:Inv X pins σ H s)(hP:H P=some (.tbl ps))(k:∀b o,b≠P->s.heap.get? b=some o->h'.get? b=some o)(hc:s.heap.objs.size<=c)(hf:s.heap.objs.size<=f)(hcf:c≠f)(eP:h'.get? P=some { cls:=.none,data:=.fields (ps++more) })(nc:∀H',ObjOk X.prog X.w H' h' c oc)(nf:∀H',ObjOk X.prog X.w H' h' f of') :
  H c=none/\H f=none/\Inv X pins σ (upd (upd (upd H P (.tbl (ps++more))) c oc) f of') { s with heap:=h',toks:=t' }:=by
 have c0:=I.hok.fresh hc;have f0:=I.hok.fresh hf;have nP:∀{b:Addr} {u:HO},H b=some u->(∀qs,u≠.tbl qs)->b≠P:=fun{b u} e n z=>by rw[z,hP]at e;cases e;exact n _ rfl
 have up:∀{b:Addr},b≠P->b≠c->b≠f->upd (upd (upd H P (.tbl (ps++more))) c oc) f of' b=H b:=fun{b} n1 n2 n3=>by rw[af n3,af n2,af n1]
 have old:∀{b:Addr} {o:Obj},s.heap.get? b=some o->b≠c/\b≠f:=fun{b o} e=>⟨Zt (Zn (Zk e) hc),Zt (Zn (Zk e) hf)⟩
 have pcf:P≠c/\P≠f:=by have:=I.hok P _ hP;exact old (show s.heap.get? P=some _ from this)
 refine⟨c0,f0,I.un (t':=t') ⟨fun b o e n _ _=>k b o (fun z=>by rw[z,hP]at n;cases n) e,fun b o e n _ _=>⟨o.slots,k b o (fun z=>by rw[z,hP]at n;cases n) e⟩,fun b o e n _=>?_,fun b o e _=>?_,fun b xs e=>?_,fun b o u e=>?_,fun b qs e=>?_⟩ fun b u e=>?_⟩
 ·rw[up (fun z=>by rw[z,hP]at n;cases n) (old e).1 (old e).2];exact n
 ·by_cases z:b=P
  ·exact⟨_,z▸eP⟩
  ·exact⟨o,k b o z e⟩
 ·rw[up (nP e fun _ z=>nomatch z) (aj e c0) (aj e f0)];exact e
 ·rw[up (nP e fun _ z=>nomatch z) (aj e c0) (aj e f0)];exact e
 ·by_cases z:b=P
  ·subst z;rw[hP]at e;cases e;exact⟨more,by rw[af pcf.2,af pcf.1,ad]⟩
  ·exact⟨#[],by rw[up z (aj e c0) (aj e f0),e];simp⟩
 ·by_cases zf:b=f
  ·subst zf;rw[ad]at e;cases e;exact nf _
  ·rw[af zf]at e;by_cases zc:b=c
   ·subst zc;rw[ad]at e;cases e;exact nc _
   ·rw[af zc]at e;by_cases zP:b=P
    ·subst zP;rw[ad]at e;cases e;exact eP
    ·rw[af zP]at e;refine(I.hok b u e).stay (fun b' v hb' q=>k b' v (fun z=>?_) q) (fun b' z=>by rw[up (nP z fun _ z=>nomatch z) (aj z c0) (aj z f0)];exact z) fun b' xs z=>by rw[up (nP z fun _ z=>nomatch z) (aj z c0) (aj z f0)];exact z
     rcases hb' with rfl|hb'
     ·exact zP z
     ·rw[z,hP]at hb';cases hb'
end
theorem Dr{CX:CXT}{P:Program}{w:World}{K:PySem.W.Frag}{mg:Str->Option Value}{base:Heap}{k:Nat}{f c':Addr}{qual:Str}{params:Arguments}{body:Expr}{scope:Scope}{pm ct:Value}{N ps:List Str}{sp:Sp}(S:FnScope N ps scope)(len:∀ vs H Q E,sp vs H Q E->vs.length=ps.length)(hbody:∀ (A:Around) (outer:List Env) (s:Shared) (H:Hp) (vs:List V) (Q:VK) (E:XK),Room k (A.deeper (envOfC qual scope s.heap.objs.size f (.ref c')))->sp vs H Q E ->
   ∃ t,PE (dq CX P w K mg base N qual scope f (.ref c') A outer s H E) body t/\t (start N vs) H Q) :
  FnOk P w K mg base CX (k+1) f (qa qual params body scope [] pm c' ct) ps (fun vs H Q E=>H f=some (eI f (gZ qual params body scope [] pm c' ct))/\H c'=some (je c' qual)/\sp vs H Q E):=by
 refine⟨fun vs H Q E h=>len _ _ _ _ h.2.2,fun A outer s H args us vs Q E hr e0 hb r ⟨hf,hc,hsp⟩=>?_⟩;have hl:=len _ _ _ _ hsp;have lim:s.heap.NoLimit:=e0.mod.nolimit.keeps fun b o e=>(e0.bs b o e).1;have hkind:∀y∈ps.zip us,scope.names.lookup y.1=some .local\/(scope.names.lookup y.1=some .cell/\((cellsFrom (s.heap.objs.size+1) scope.names []).lookup y.1).isSome=true):=fun⟨n,v⟩ hy=>by
  rcases S.par n (List.of_mem_zip hy).1 with q|q
  ·exact .inl q
  ·exact .inr ⟨q,PySem.W.cellsFrom_some _ _ _ (.inl q)⟩
 have of1:=(e0.hok f _ hf).1;have oc1:=(e0.hok c' _ hc).1;refine kla_callFunE hr.depth of1 rfl S.co S.gen rfl oc1 (hb _ _ _ _ ?_);refine wpAny_newFunctionEnv_cells S.kind hkind fun env he s1 x=>?_;subst he;refine⟨lim.keeps x.toInCall.keep,kla_codeExpr ?_⟩;obtain⟨t,ht,hq⟩:=hbody A outer s H vs Q E (hr.deeper _) hsp;have I:Inv (dq CX P w K mg base N qual scope f (.ref c') A outer s H E) [] (start N vs) H s1:=oX S hr.hd e0 hl r x;refine ZL (ht [] s1 (start N vs) H _ I hq) (fun u s' hz9=>?_) fun e s' hs=>hs;obtain⟨v,H',J,rv,q⟩:=hz9;exact⟨v,H',J.os,J.bare,J.base,J.hok,rv,q⟩
def aK(q:Str)(P:Addr)(pos:Pos)(H:Hp):Prop:=∃ps:Array Value,H P=some (.tbl ps)/\TriplesOk ps.toList/\(codeAmong pos ps.toList=none\/∃c',codeAmong pos ps.toList=some (.ref c')/\H c'=some (je c' q))
def SameT(P:Addr)(H H':Hp):Prop:=∀b o,H b=some o->b≠P->H' b=some o
theorem SameT.of{P:Addr}{H H':Hp}(s:Same H H'):SameT P H H':=fun b o e _=>s b o e
theorem SameT.trans{P:Addr}{H H' H2:Hp}(s:SameT P H H')(t:SameT P H' H2):SameT P H H2:=fun b o e n=>t b o (s b o e n) n
theorem jD{x y:Int}{c:Value}{a b:Tok}:∀l:List Value,TriplesOk l->TriplesOk (l++[.int x a,.int y b,c])
 | [],_=>trivial
 |.int _ _::.int _ _::_::rest,h=>jD rest h
structure LamOk(P:Program)(w:World)(K:PySem.W.Frag)(mg:Str->Option Value)(base:Heap)(k:Nat)(qual:Str)(body:Expr)(scope:Scope)(x:Str)(sp:Sp):Prop where
 ex:∃N:List Str,FnScope N [x] scope/\(∀vs H Q E,sp vs H Q E->vs.length=1)/\∀(f c':Addr) (A:Around) (outer:List Env) (s:Shared) (H:Hp) (vs:List V) (Q:VK) (E:XK),Room k (A.deeper (envOfC qual scope s.heap.objs.size f (.ref c')))->sp vs H Q E ->
  ∃t,QE (dq CX0 P w K mg base N qual scope f (.ref c') A outer s H E) body t/\t (start N vs) H Q
open PySem PySem.Spec PyProof.Rows PySem.W
def BB(a:Addr)(tabs:List (Addr×Addr))(H:Hp):Prop:=∀b,H b=none\/(b=a/\∃o xs,H b=some (.frz o (.lst xs)))\/((∃c,(c,b)∈tabs)/\H b=some (.tbl #[]))
theorem Ab{P:Program}{w:World}{K:PySem.W.Frag}{mg mb:Str->Option Value}{k:Nat}{fa a:Addr}{fd:FuncData}{x:Str}{sp:Sp}{s:Shared}{vs:List Value}{ns:List Int}{tabs:List (Addr×Addr)}(kx:K.In s.heap)(gx:s.heap.Ns mainGlobals mg)(bx:s.heap.Ns builtinsNs mb)(bb:∀y:Str,y≠"__name__"->mb y=bootBuiltins y)(nl:s.heap.NoLimit)(gn:s.gens=#[])(bl:Blt s.heap mg)(tx:∀q∈tabs,CodeHd s.heap q.1 q.2/\s.heap.get? q.2=some (tabObj #[]))(nt:noTabs K=true)(sa:s.heap.get? a=some { cls:=.type "list",data:=.seq vs.toArray })(si:IntsAre vs ns)(sl:ns.length<=sizeLine)(hr:Room k callerA)(F:∀base:Heap,K.In base->base.Ns mainGlobals mg->Blt base mg->(∀q∈tabs,CodeHd base q.1 q.2)->FnOk P w K mg base CX0 k fa fd [x] sp)(bind:∀(s:Shared) (u:Value),BindsTo s fd ⟨[u],[]⟩ [(x,u)])(go:∀H:Hp,(∀q∈tabs,H q.2=some (.tbl #[]))->SqL K H a (ns.map V.int)->sp [.ref a] H (fun v _=>v=.bl true) fun _ _ _=>False) :
  codeAny (model P w) callerA (.call (.ref fa) ⟨[.ref a],[]⟩) (fun r s'=>r=.ok (.ret (.bool true))/\OldK s.heap s'.heap/\s'.os=s.os/\AllBare s'.gens) s:=by
 have tabNot:∀{b:Addr} {c:Addr},(c,b)∈tabs->K.lookup b=none:=fun{b c} hm=>by
  cases e:K.lookup b with
  |none=>rfl
  |some o =>have e1:=(kx b o e).symm.trans (tx _ hm).2;cases e1;have:=ZU.mp nt _ (mem_of_lookupK e);cases this
 have aNot:∀{c:Addr},¬(c,a)∈tabs:=fun{c} hm=>by have:=(tx _ hm).2;rw[sa]at this;cases this
 have main:∀H:Hp,BB a tabs H->(∀q∈tabs,H q.2=some (.tbl #[]))->SqL K H a (ns.map V.int)->HOk P w H s.heap->(H a≠none->K.lookup a=none) ->
   codeAny (model P w) callerA (.call (.ref fa) ⟨[.ref a],[]⟩) (fun r s'=>r=.ok (.ret (.bool true))/\OldK s.heap s'.heap/\s'.os=s.os/\AllBare s'.gens) s:=by
  intro H ae ht hS ok ha;have free:∀{b:Addr} {o:Obj},s.heap.get? b=some o->(∀n m,o.data≠.seq n m)->(∀n,o.data≠.fields n)->H b=none:=fun{b o} e n1 n2=>by
   rcases ae b with z|⟨rfl,_⟩|⟨⟨c,hm⟩,_⟩
   ·exact z
   ·rw[sa]at e;cases e;exact absurd rfl (n1 _ _)
   ·rw[(tx _ hm).2]at e;cases e;exact absurd rfl (n2 _)
  have nsB:∀{b:Addr} {m:Str->Option Value},s.heap.Ns b m->(gN s.heap H).Ns b m:=fun{b m} ⟨o,es,ep,e,d,r⟩=>⟨o,es,ep,ix e (free e (fun _ _ z=>by rw[d]at z;cases z) fun _ z=>by rw[d]at z;cases z),d,r⟩
  have kB:K.In (gN s.heap H):=fun b o e=>ix (kx b o e) (by
   rcases ae b with z|⟨rfl,o',xs,z⟩|⟨⟨c,hm⟩,_⟩
   ·exact z
   ·rw[ha (by rw[z];simp)]at e;cases e
   ·rw[tabNot hm]at e;cases e)
  have bB:Blt (gN s.heap H) mg:=by obtain⟨bm,ob,b1,b2,b3,b4,b5,b6⟩:=bl;exact⟨bm,ob,b1,b2,ix b3 (free b3 (fun _ _ z=>by rw[b6]at z;cases z) fun _ z=>by rw[b6]at z;cases z),b4,b5,b6⟩
  have cB:∀q∈tabs,CodeHd (gN s.heap H) q.1 q.2:=fun q hq=>by
   obtain⟨o,ws,file,tf,fl,tg,inF,text,tt,c1,c2,c3,c4⟩:=(tx q hq).1;refine⟨o,ws,file,tf,fl,tg,inF,text,tt,ix c1 ?_,c2,c3,c4⟩;rcases ae q.1 with z|⟨z,_⟩|⟨⟨c,hm⟩,_⟩
   ·exact z
   ·rw[z,sa]at c1;cases c1;injection c2 with c2;exact absurd c2 (by decide)
   ·rw[(tx _ hm).2]at c1;cases c1;cases c2
  have mB:Mod K mg (gN s.heap H):=⟨kB,nsB gx,⟨mb,nsB bx,bb⟩,let⟨mc,n1,n2⟩:=nl;⟨mc,nsB n1,n2⟩⟩
  have env:Env0 P w K mg (gN s.heap H) callerA [] s H:=⟨rfl,mB,fun b o e=>BU e,Nat.le_of_eq (xD _ _),trivial,fun b hb=>absurd (show b∈([]:List Addr)from hb) (by simp),ok,.of_eq gn⟩
  refine codeAny_mono ((F _ kB (nsB gx) bB cB).run callerA [] s H ⟨[.ref a],[]⟩ [.ref a] [.ref a] _ _ hr env (bind s (.ref a)) (.cons rfl .nil) (go H ht hS)) fun r s' h=>?_;cases r with
  |error e=>exact False.elim h
  |ok fl =>
   cases fl with
   |next=>exact False.elim h
   |brk=>exact False.elim h
   |cont=>exact False.elim h
   |ret u =>
    obtain⟨v,H',os,bare,un,ok',rv,hv⟩:=h;obtain rfl:v=.bl true:=hv;obtain rfl:u=Value.bool true:=rv;have each:∀b o,s.heap.get? b=some o->asItWas s.heap s'.heap b o/\∃o',s'.heap.get? b=some o':=fun b o e=>by
     rcases ae b with z|⟨rfl,o',xs,z⟩|⟨⟨c,hm⟩,z⟩
     ·have:=un.keep b o e z (by intro q;exact absurd (show b∈([]:List Addr)from q) (by simp)) (by simp);exact⟨.inl this,_,this⟩
     ·obtain⟨e1,_⟩:=ok b _ z;obtain⟨e2,_⟩:=ok' b _ (un.frzs b o' _ z);rw[e]at e1;cases e1;exact⟨.inl e2,_,e2⟩
     ·obtain⟨more,z2⟩:=un.tbls b _ z;have e2:s'.heap.get? b=some { cls:=.none,data:=.fields (#[]++more) }:=ok' b _ z2;have e1:=(tx _ hm).2;rw[e]at e1;cases e1;exact⟨.inr (.inl ⟨(((tx _ hm).1).tab e).isCodeTable,rfl,#[],more,rfl,e2⟩),_,e2⟩
    exact⟨rfl,⟨fun b o e=>(each b o e).1,fun b o e=>(each b o e).2⟩,os,bare⟩
 have rv:=pF si;have lv:=si.length;have inT:∀b,Decidable (∃c,(c,b)∈tabs):=fun b=>Classical.propDecidable _;cases hk:K.lookup a with
 |some o =>
  have e:=kx a o hk;rw[sa]at e;cases e;refine main (fun b=>@ite _ (∃c,(c,b)∈tabs) (inT b) (some (.tbl #[])) none) (fun b=>?_) (fun q hq=>HK ⟨q.1,hq⟩) (.inr ⟨_,vs.toArray,_,hk,rfl,rfl,rfl,by rw[Zg,lv];exact sl,by simpa using rv⟩) (fun b u z=>?_) (fun z=>absurd (HH fun⟨c,hm⟩=>aNot hm) z)
  ·by_cases c:∃c,(c,b)∈tabs
   ·exact .inr (.inr ⟨c,HK c⟩)
   ·exact .inl (HH c)
  ·by_cases c:∃c,(c,b)∈tabs
   ·have z':=(HK c).symm.trans z;cases z';obtain⟨c,hm⟩:=c;exact(tx _ hm).2
   ·have z':=(HH c).symm.trans z;cases z'
 |none =>
  refine main (fun b=>@ite _ (∃c,(c,b)∈tabs) (inT b) (some (.tbl #[])) (if b=a then some (.frz { cls:=.type "list",data:=.seq vs.toArray } (.lst (ns.map V.int)))else none)) (fun b=>?_) (fun q hq=>HK ⟨q.1,hq⟩) (.inl (.inr ⟨{ cls:=.type "list",data:=.seq vs.toArray },(HH fun⟨c,hm⟩=>aNot hm).trans (HK rfl)⟩)) (fun b u z=>?_) (fun _=>hk)
  ·by_cases c:∃c,(c,b)∈tabs
   ·exact .inr (.inr ⟨c,HK c⟩)
   ·by_cases hb:b=a
    ·exact .inr (.inl ⟨hb,_,_,(HH c).trans (HK hb)⟩)
    ·exact .inl ((HH c).trans (HH hb))
  ·by_cases c:∃c,(c,b)∈tabs
   ·have z':=(HK c).symm.trans z;cases z';obtain⟨c,hm⟩:=c;exact(tx _ hm).2
   ·have z':=(HH c).symm.trans z;by_cases hb:b=a
    ·rw[HK hb]at z';cases z';subst hb;exact⟨sa,by rw[Zd];exact sl,vs,_,rv,sa⟩
    ·rw[HH hb]at z';cases z'
theorem Fun.okC{P:Program}{w:World}{K:PySem.W.Frag}{mg:Str->Option Value}{base:Heap}{x qual:Str}{st:Stmt}{f c:Addr}{fd:FuncData}{N ps:List Str}{k:Nat}{sp:Sp}(F:Fun K x qual st f fd)(hc:fd.code=.ref c)(S:FnScope N ps (am st))(len:∀ vs H Q E,sp vs H Q E->vs.length=ps.length)(body:∀ (A:Around) (outer:List Env) (s:Shared) (H:Hp) (vs:List V) (Q:VK) (E:XK),Room k (A.deeper (envOfC qual (am st) s.heap.objs.size f (.ref c)))->sp vs H Q E ->
   ∃ t,QB (dq CX0 P w K mg base N qual (am st) f (.ref c) A outer s H E).nox (bw st) t/\t { nx:=fun _ H'=>Q .non H',rt:=Q } (start N vs) H):FnOk P w K mg base CX0 (k+1) f fd ps sp:=by
 obtain⟨oc,od,kV,doc,pm,an,cdv,ct,osl,rfl,lk,hcd⟩:=F.ex;obtain rfl:cdv=.ref c:=hc;refine uY lk hcd S len fun A outer s H vs Q E hr hs=>?_;obtain⟨t,h,q⟩:=body A outer s H vs Q E hr hs;exact⟨t,h.h.nox,q⟩
theorem AW{K:PySem.W.Frag}{x:Str}{f c P:Addr}{oc:Value}{od:Option Addr}{fd:FuncData}{sl:Array (Option Value)}(a:nsIn K mainGlobals x=some (some (.ref f)))(l:K.lookup f=some ⟨oc,od,.func fd,sl⟩)(t:tabIn K x=some (c,P)):fd.code=.ref c:=by
 unfold tabIn at t;rw[a]at t;dsimp only at t;rw[l]at t;dsimp only at t;split at t
 ·rename_i c' e;rw[e];split at t
  ·split at t
   ·cases t;rfl
   ·cases t
  ·cases t
 ·cases t
theorem yS{l:PySem.W.OpenLaw}{n k:Nat}{q:Program}{loose:List Str}{XP:(Str->Option Value)->Heap->Prop}{YP:World->Heap->Prop}{d:DefRec}{K:Params->PySem.W.Frag}{tabs:Params->List (Str×Addr×Addr)}{sp:World->Sp}{x:Str}(hn:l.most=some n)(hn2:n<=sizeLine)(hdf:d.params.defaults=[])(hr:Room k callerA)(hY:∀ (w:World) (h:Heap),YP w h->(K w.params).In h)(ht:∀ (w:World),∀ t∈tabs w.params,tabIn (K w.params) t.1=some t.2/\∃ d',(recsOf q).find? (fun e=>e.name == t.1)=some d')(nt:∀ w:World,noTabs (K w.params)=true)(F:∀ (w:World) (mg:Str->Option Value) (fa:Addr) (h:Heap),(K w.params).In h->h.Ns mainGlobals mg->mg d.name=some (.ref fa) ->
   ∃fd:FuncData,(∀(s:Shared) (u:Value),BindsTo s fd ⟨[u],[]⟩ [(x,u)]) /\
    ∀ base:Heap,(K w.params).In base->base.Ns mainGlobals mg->Blt base mg->(∀ t∈tabs w.params,CodeHd base t.2.1 t.2.2)->FnOk l.prog w (K w.params) mg base CX0 k fa fd [x] (sp w))(go:∀ (w:World) (H:Hp) (a:Addr) (ns:List Int),ns.length<=n->(∀ t∈tabs w.params,H t.2.2=some (.tbl #[]))->SqL (K w.params) H a (ns.map V.int)->sp w [.ref a] H (fun v _=>v=.bl true) fun _ _ _=>False) :
  PySem.W.WalkO q loose XP YP l.row.toRowW d [] (fun f vs=>PySem.call f vs):=by
 refine Att.attach_call hn hdf fun w s₀ s₁ mg mb fa o pm cd doc a vs ns G Y ho hd hcd hmg hobj hints hlen hg=>?_;have kx:=hY w _ Y;obtain⟨fd,hb,hF⟩:=F w mg fa _ kx G.T.g hmg;refine Ab (tabs:=(tabs w.params).map (·.2)) kx G.T.g G.T.b G.T.builtins G.T.nolimit hg G.T.bmain (fun r hr'=>?_) (nt w) hobj hints (ZQ hlen hn2) hr (fun base h1 h2 h3 h4=>hF base h1 h2 h3 fun t htm=>h4 _ (List.mem_map_of_mem htm)) hb fun H h1 h2=>go w H a ns hlen (fun t htm=>h1 _ (List.mem_map_of_mem htm)) h2;obtain⟨t,htm,rfl⟩:=Zu.mp hr';obtain⟨e1,d',e2⟩:=ht w t htm;exact tab_of G.T kx e2 (by rw[e1])
open PySem PySem.Spec PyProof.Rows PySem.W
inductive SKey where
 |i (n:Int)|s (t:Str)|bi (b:Bool)(n:Int)
def SKey.at(H:Hp):SKey->V->Prop
 |.i n,v=>v=.int n
 |.s t,v=>v=.str t
 |.bi b n,v=>∃a,v=.ref a/\H a=some (.tup [.bl b,.int n])
section
variable{X:Cx}{pins:List (Addr×Obj)}{σ:St}{H:Hp}{s:Shared}{h':Heap}
def uG(X:Cx)(pins:List (Addr×Obj))(σ:St)(f:Addr)(sp:Sp):Prop:=∀(s:Shared) (H:Hp) (u:Value) (v:V) (Q:VK),Inv X pins σ H s->RelV v u->sp [v] H Q E0->codeAny (model X.prog X.w) X.A.in1.in1 (.call (.ref f) ⟨[u],[]⟩) (CR CX0 X.stack X.prog X.w H s Q E0) s
theorem Cu{k:Nat}{f:Addr}{fd:FuncData}{x:Str}{sp:Sp}(F:FnOk X.prog X.w X.K X.mg X.base CX0 k f fd [x] sp)(hb:∀(s:Shared) (u:Value),X.K.In s.heap->BindsTo s fd ⟨[u],[]⟩ [(x,u)])(hr:Room k X.A.in1.in1):∀l,uG (wX X l) pins σ f sp:=fun l s H u v Q I ru hs=>by
 have env:Env0 X.prog X.w X.K X.mg X.base X.A.in1.in1 X.stack s H:=by have e0:=I.env0;exact⟨e0.frames,e0.mod,e0.bs,e0.bsz,e0.funs,e0.frf,e0.hok,e0.bare⟩
 exact F.run X.A.in1.in1 X.stack s H ⟨[u],[]⟩ [u] [v] Q E0 hr env (hb s u I.kIn) (.cons ru .nil) hs
structure SG(X:Cx)(pins:List (Addr×Obj))(σ:St)(H1:Hp)(m:Str->Option Value)(kS D:Addr)(e1:Nat)(ks:List SKey)(as:List V)(us:List Value)(e:Nat)(H:Hp)(s:Shared):Prop where
 I:Inv X pins σ H s
 sm:Same H1 H
 fk:bh X pins H kS
 fd:bh X pins H D
 bk:X.base.get? kS=none
 bd:X.base.get? D=none
 hk:s.heap.get? kS=some (seqObj "list" (List.toArray us) e)
 hd:s.heap.get? D=some (seqObj "list" #[] e1)
 ns:s.heap.Ns X.env.locals m
 vals:Vals as us
 keys:∀(i:Nat) (a:V) (k:SKey),as[i]?=some a->ks[i]?=some k->k.at H a
theorem rY(b:Bool){xs:List V}{us:List Value}(h:Vals xs us):Vals (katRev b xs) (katRev b us):=by
 cases b with
 |false=>exact h
 |true =>
  show Vals xs.reverse us.reverse;induction h with
  |nil=>exact .nil
  |cons r _ ih =>rw[List.reverse_cons,List.reverse_cons];exact ih.append (.cons r .nil)
theorem tX(n m:Int):HT.lexLt [n] [m]=decide (n<m):=by
 rw[HT.lexLt_cons,HT.lexLt_nil_nil];by_cases z:n=m
 ·rw[HK z,decide_eq_false (by omega)]
 ·rw[HH z]
end
open PySem PySem.Spec PyProof.Rows PySem.W
structure LamScope(x y:Str)(sc:Scope):Prop where
 kind:sc.kind=.function
 co:sc.isCoroutine=false
 gen:sc.isGenerator=false
 lx:sc.names.lookup x=some .local
 ly:sc.names.lookup y=some .free
 nc:∀z∈sc.names,z.2≠.cell
 nf:∀z∈sc.names,z.2=.free->z.1=y
 ne:x≠y
def cxX(CX:CXT)(P:Program)(w:World)(K:PySem.W.Frag)(mg:Str->Option Value)(base:Heap)(N:List Str)(qual:Str)(scope:Scope)(f:Addr)(cd:Value)(cl:List (Str×Addr))(A:Around)(outer:List Env)(s:Shared)(H:Hp)(E:XK):Cx where
 prog:=P
 w:=w
 K:=K
 mg:=mg
 base:=base
 A:=A.deeper (envX qual scope s.heap.objs.size f cd cl)
 N:=N
 s₀:=s
 H₀:=H
 env:=envX qual scope s.heap.objs.size f cd cl
 outer:=outer
 stack:=envX qual scope s.heap.objs.size f cd cl::outer
 ex:=[]
 calm:=true
 fn:=fun _=>false
 pn:=[]
 xe:=fun e s'=>wpAny (model P w) (A.deeper (envX qual scope s.heap.objs.size f cd cl)) (leaving (envX qual scope s.heap.objs.size f cd cl) e) (fun _ s''=>CX outer H s E e s'') (fun e' s''=>CX outer H s E e' s'') s'
open PySem PySem.Spec PyProof.Rows PySem.W
section
variable{X:Cx}{c P:Addr}{params:Arguments}{body:Expr}{scope:Scope}{pos:Pos}{cl:List (Str×Addr)}
def wG(cl:List (Str×Addr))(X:Cx)(P:Addr)(params:Arguments)(body:Expr)(scope:Scope)(pos:Pos):TE:=fun _ H Q=>∃ps:Array Value,H P=some (.tbl ps)/\TriplesOk ps.toList /\
 ((∃ c',codeAmong pos ps.toList=some (.ref c')/\H c'=some (je c' (X.env.qual++"<lambda>"))/\∀ f ct,H f=none->Q (.ref f) (upd H f (eI f (gZ (X.env.qual++"<lambda>") params body scope cl ((X.mg "__name__").getD .none) c' ct)))) \/
  (codeAmong pos ps.toList=none/\∀ f c' ct,H f=none->H c'=none->c'≠f->Q (.ref f) (upd (upd (upd H P (.tbl (ps++#[rawInt pos.line,rawInt pos.col,.ref c']))) c' (je c' (X.env.qual++"<lambda>"))) f (eI f (gZ (X.env.qual++"<lambda>") params body scope cl ((X.mg "__name__").getD .none) c' ct)))))
theorem Cb(hcode:X.env.code=.ref c)(hge:X.env.globals=mainGlobals)(C:CodeHd X.base c P)(B:Blt X.base X.mg)(hdef:defaultsOf params X.env=([],[]))(hcl:closureFor scope X.env=pure cl):PE X (.Lambda params body scope pos) (wG cl X P params body scope pos):=by
 intro pins s σ H Q I h;obtain⟨ps,hP,ht,hh⟩:=h;have oP:s.heap.get? P=some (tabObj ps):=I.hok P _ hP;have hg:s.heap.Ns mainGlobals X.mg:=I.ok.mod.glob.keeps I.bk;have hb:=I.bltAt B hP;refine kla_eval hdef ?_;rcases hh with⟨c',hf,hc',q⟩|⟨hnf,q⟩
 ·refine kla_makeFunctionHit hcl hge hg hcode (C.keeps I.bk) oP ht hf hb fun ct h' tk kp hsz=>?_;have hn:=I.hok.fresh hsz;exact⟨.ref _,_,I.laid (t':=tk) (fun b o e=>z9 _ (kp b o e)) hsz (nI (Zh _ rfl)),rfl,q _ ct hn⟩
 ·have hgP:mainGlobals≠P:=fun z=>by obtain⟨o,es,ep,e,d,_⟩:=hg;rw[z,oP]at e;cases e;cases d
  refine kla_makeFunction hcl hge hg hcode (C.keeps I.bk) oP ht hnf hgP hb fun c' ct h' tk hx hge' hlt hrec htb=>?_;have hnF:c'≠h'.objs.size:=Zt hlt;obtain⟨i1,i2,i3⟩:=I.grown (t':=tk) (c:=c') (f:=h'.objs.size) (h':=h'.push (gZ (X.env.qual++"<lambda>") params body scope cl ((X.mg "__name__").getD .none) c' ct)) (oc:=je c' (X.env.qual++"<lambda>")) (of':=eI h'.objs.size (gZ (X.env.qual++"<lambda>") params body scope cl ((X.mg "__name__").getD .none) c' ct)) hP
   (fun b o hb' e=>z9 _ (hx b o hb' e)) hge' (ZQ hge' (YT hlt)) hnF (z9 _ htb) (fun _=>BM (by
    obtain⟨c₂,oc,vs,t,e1,e2,e3,e4⟩:=hrec;exact⟨c₂,oc,vs,t,e1,z9 _ e2,e3,e4⟩)) (fun _=>nI (Zh _ rfl))
  exact⟨.ref _,_,i3,rfl,q _ c' ct i2 i1 hnF⟩
structure LamOkX(P:Program)(w:World)(K:PySem.W.Frag)(mg:Str->Option Value)(base:Heap)(k:Nat)(qual:Str)(body:Expr)(scope:Scope)(x y:Str)(sp:V->Sp):Prop where
 sc:LamScope x y scope
 ex:∀(f c' c:Addr) (kv:V) (A:Around) (outer:List Env) (s:Shared) (H:Hp) (v:V) (Q:VK),Room k (A.deeper (envX qual scope s.heap.objs.size f (.ref c') [(y,c)]))->sp kv [v] H Q E0 ->
  ∃t,QE (cxX CX0 P w K mg base [x,y] qual scope f (.ref c') [(y,c)] A outer s H E0) body t/\t [some v,some kv] H Q
def sR(X:Cx)(P:Addr)(q:Str)(lpos:Pos)(params:Arguments)(body:Expr)(scope:Scope)(cl:List (Str×Addr))(H1:Hp)(f:Addr)(H2:Hp):Prop :=
 ∃(c':Addr) (ct:Value),SameT P H1 H2/\aK q P lpos H2/\H2 f=some (eI f (gZ q params body scope cl ((X.mg "__name__").getD .none) c' ct))/\H2 c'=some (je c' q)/\f≠P/\c'≠P
theorem Aa{H1:Hp}{lpos:Pos}{σ:St}{R:VK}(tab:aK (X.env.qual++"<lambda>") P lpos H1)(h:∀f H2,sR X P (X.env.qual++"<lambda>") lpos params body scope cl H1 f H2->R (.ref f) H2):wG cl X P params body scope lpos σ H1 R:=by
 obtain⟨ps,tP,t3,tc⟩:=tab;refine⟨ps,tP,t3,?_⟩;rcases tc with hno|⟨c',hy,hc'⟩
 ·refine .inr ⟨hno,fun f c' ct f0 c0 hcf=>h _ _ ?_⟩;have nPf:f≠P:=fun z=>by rw[z,tP]at f0;cases f0
  have nPc:c'≠P:=fun z=>by rw[z,tP]at c0;cases c0
  refine⟨c',ct,fun b o e hb=>?_,⟨_,by rw[af (Yk nPf),af (Yk nPc),ad],?_,.inr ⟨c',?_,by rw[af hcf,ad]⟩⟩,ad,by rw[af hcf,ad],nPf,nPc⟩
  ·rw[af (aj e f0),af (aj e c0),af hb];exact e
  ·rw[Zz];exact jD _ t3
  ·rw[Zz];exact codeAmong_snoc _ t3 hno
 ·refine .inl ⟨c',hy,hc',fun f ct f0=>h _ _ ?_⟩;have nPf:f≠P:=fun z=>by rw[z,tP]at f0;cases f0
  have nPc:c'≠P:=fun z=>by rw[z,tP]at hc';cases hc'
  exact⟨c',ct,fun b o e hb=>by rw[af (aj e f0)];exact e,⟨ps,by rw[af (Yk nPf)];exact tP,t3,.inr ⟨c',hy,by rw[af (aj hc' f0)];exact hc'⟩⟩,ad,by rw[af (aj hc' f0)];exact hc',nPf,nPc⟩
end
open PySem PySem.Spec PyProof.Rows PySem.W
open PySem PyProof.Rows PySem.W
def eS:Bool->Keyed->Array Keyed->Nat->Nat->Nat->StateT SortSt Sem (Option Nat):=sortPriv%PySem.Builtin.gallop
def zLo:Array Keyed->Array Keyed->StateT SortSt Sem (Array Keyed):=sortPriv%PySem.Builtin.mergeLo
def zHi:Array Keyed->Array Keyed->StateT SortSt Sem (Array Keyed):=sortPriv%PySem.Builtin.mergeHi
def jG:Nat->StateT SortSt Sem Unit:=sortPriv%PySem.Builtin.setMinGallop
def jF(le:Bool)(ky:Keyed)(ar:Array Keyed)(ba i:Nat):StateT SortSt Sem (Option Bool):=do
 let it ←elem' ar (ba+i)
 if le then lt' it ky else do
  let o ←lt' ky it
  pure (o.map (!·))
theorem CK(le:Bool)(ky:Keyed)(ar:Array Keyed)(ba n at0:Nat):eS le ky ar ba n at0=(do
 let mut las:=0;let mut ofs:=1;let mut lo:=0;let mut hi:=0
 let some rig ←jF le ky ar ba at0|return none
 if rig then
  for _ in[0:n]do
   if ofs>=n-at0 then break
   let some mo ←jF le ky ar ba (at0+ofs)|return none
   if !mo then break
   las:=ofs;ofs:=2*ofs+1
  lo:=at0+las+1;hi:=at0+min ofs (n-at0)
 else
  for _ in[0:n]do
   if ofs>=at0+1 then break
   let some fo ←jF le ky ar ba (at0-ofs)|return none
   if fo then break
   las:=ofs;ofs:=2*ofs+1
  lo:=at0+1-min ofs (at0+1);hi:=at0-las
 for _ in[0:n]do
  if lo>=hi then break
  let some mo ←jF le ky ar ba (lo+(hi-lo) / 2)|return none
  if mo then lo:=lo+(hi-lo) / 2+1 else hi:=lo+(hi-lo) / 2
 return some hi):=rfl
theorem EU(a b:Array Keyed):zLo a b=(do
 liftM (rule "list.sort.merge-lo");let e0 ←elem' b 0;let mut out:Array Keyed:=#[e0];let mut ia:=0;let mut ib:=1
 if ib==b.size then return out++a.extract ia a.size++b.extract ib b.size
 if ia+1==a.size then return out++b.extract ib b.size++a.extract ia a.size
 let mut mg:=gallopOf (←get)
 for _ in[0:a.size+b.size]do
  let mut ac:=0;let mut bc:=0
  for _ in[0:a.size+b.size]do
   let y ←elem' b ib;let x ←elem' a ia
   let some won ←lt' y x|return out++a.extract ia a.size++b.extract ib b.size
   if won then
    let y ←elem' b ib;out:=out.push y;ib:=ib+1;bc:=bc+1;ac:=0
    if ib==b.size then return out++a.extract ia a.size++b.extract ib b.size
    if bc>=mg then break
   else
    let x ←elem' a ia;out:=out.push x;ia:=ia+1;ac:=ac+1;bc:=0
    if ia+1==a.size then return out++b.extract ib b.size++a.extract ia a.size
    if ac>=mg then break
  liftM (rule "list.sort.gallop");mg:=mg+1
  for _ in[0:a.size+b.size]do
   if mg>1 then mg:=mg-1
   jG mg;let y ←elem' b ib
   let some k ←eS false y a ia (a.size-ia) 0|return out++a.extract ia a.size++b.extract ib b.size
   ac:=k
   if k>0 then
    out:=out++a.extract ia (ia+k);ia:=ia+k
    if ia+1==a.size then return out++b.extract ib b.size++a.extract ia a.size
    if ia==a.size then return out++a.extract ia a.size++b.extract ib b.size
   let y ←elem' b ib;out:=out.push y;ib:=ib+1
   if ib==b.size then return out++a.extract ia a.size++b.extract ib b.size
   let x ←elem' a ia
   let some k ←eS true x b ib (b.size-ib) 0|return out++a.extract ia a.size++b.extract ib b.size
   bc:=k
   if k>0 then
    out:=out++b.extract ib (ib+k);ib:=ib+k
    if ib==b.size then return out++a.extract ia a.size++b.extract ib b.size
   let x ←elem' a ia;out:=out.push x;ia:=ia+1
   if ia+1==a.size then return out++b.extract ib b.size++a.extract ia a.size
   if ac<7&&bc<7 then break
  mg:=mg+1;jG mg
 unsupported "internal:list.sort.merge-bound"):=rfl
theorem ET(a b:Array Keyed):zHi a b=(do
 liftM (rule "list.sort.merge-hi");let mut na:=a.size-1;let mut nb:=b.size;let e0 ←elem' a na;let mut out:Array Keyed:=#[e0]
 if na==0 then return a.extract 0 na++b.extract 0 nb++out.reverse
 if nb==1 then return b.extract 0 nb++a.extract 0 na++out.reverse
 let mut mg:=gallopOf (←get)
 for _ in[0:a.size+b.size]do
  let mut ac:=0;let mut bc:=0
  for _ in[0:a.size+b.size]do
   let y ←elem' b (nb-1);let x ←elem' a (na-1)
   let some won ←lt' y x|return a.extract 0 na++b.extract 0 nb++out.reverse
   if won then
    na:=na-1;let x ←elem' a na;out:=out.push x;ac:=ac+1;bc:=0
    if na==0 then return a.extract 0 na++b.extract 0 nb++out.reverse
    if ac>=mg then break
   else
    nb:=nb-1;let y ←elem' b nb;out:=out.push y;bc:=bc+1;ac:=0
    if nb==1 then return b.extract 0 nb++a.extract 0 na++out.reverse
    if bc>=mg then break
  liftM (rule "list.sort.gallop");mg:=mg+1
  for _ in[0:a.size+b.size]do
   if mg>1 then mg:=mg-1
   jG mg;let y ←elem' b (nb-1)
   let some k ←eS false y a 0 na (na-1)|return a.extract 0 na++b.extract 0 nb++out.reverse
   ac:=na-k
   if na-k>0 then
    out:=out++(a.extract k na).reverse;na:=k
    if na==0 then return a.extract 0 na++b.extract 0 nb++out.reverse
   nb:=nb-1;let y ←elem' b nb;out:=out.push y
   if nb==1 then return b.extract 0 nb++a.extract 0 na++out.reverse
   let x ←elem' a (na-1)
   let some k ←eS true x b 0 nb (nb-1)|return a.extract 0 na++b.extract 0 nb++out.reverse
   bc:=nb-k
   if nb-k>0 then
    out:=out++(b.extract k nb).reverse;nb:=k
    if nb==1 then return b.extract 0 nb++a.extract 0 na++out.reverse
    if nb==0 then return a.extract 0 na++b.extract 0 nb++out.reverse
   na:=na-1;let x ←elem' a na;out:=out.push x
   if na==0 then return a.extract 0 na++b.extract 0 nb++out.reverse
   if ac<7&&bc<7 then break
  mg:=mg+1;jG mg
 unsupported "internal:list.sort.merge-bound"):=rfl
def lE(ar:Array Keyed)(at0:Nat)(xs:Array Keyed):Array Keyed:=xs.toList.zipIdx.foldl (fun a (p,j)=>a.setIfInBounds (at0+j) p) ar
theorem ES(i:Nat):mergeAt' i=(do
 let st ←get
 let(some (sa,na,pw),some (sb,nb,_)):=((pendingOf st)[i]?,(pendingOf st)[i+1]?)|unsupported "internal:list.sort.pending"
 set (setPending st (((pendingOf st).setIfInBounds i (sa,na+nb,pw)).eraseIdxIfInBounds (i+1)))
 let y ←elem' (arrOf st) sb
 let some k ←eS false y (arrOf st) sa na 0|return false
 if na-k==0 then return true
 let x ←elem' (arrOf st) (sa+k+(na-k)-1)
 let some nc ←eS true x (arrOf st) sb nb (nb-1)|return false
 if nc==0 then return true
 let mer ←if na-k<=nc then zLo ((arrOf st).extract (sa+k) sb) ((arrOf st).extract sb (sb+nc))else zHi ((arrOf st).extract (sa+k) sb) ((arrOf st).extract sb (sb+nc))
 modify fun st=>setArr st (lE (arrOf st) (sa+k) mer)
 return (failedOf (←get)).isNone):=rfl
open PySem PyProof.Rows PySem.W
section
variable{prog:Program}{w:World}{A:Around}{E:Value->Shared->Prop}{s:Shared}{κ:SortKind}{it:Array Keyed}{lt:Nat->Nat->Bool}{N:Nat}{st:SortSt}
def Zc(prog:Program)(w:World)(A:Around)(s:Shared)(κ:SortKind)(it:Array Keyed)(lt:Nat->Nat->Bool)(N:Nat):Prop :=
 ∀i j (C:Bool->Shared->Prop),i<N->j<N->C (lt i j) s->kas_cmp prog w A κ it i j C s
theorem sf(Z:Zc prog w A s κ it lt N){i j:Nat}{Q:Option Bool->SortSt->Prop}(hk:kindOf st=κ)(hi:i<N)(hj:j<N)(h:Q (some (lt i j)) st):wpS (model prog w) A E s (lt' (kas_item it i) (kas_item it j)) Q st:=by rw[lt'_eq];refine Zi (wpS_get ?_);rw[hk];refine Zi (wpS_lift (wpAny_attempt (ZL (Z i j (fun c s'=>c=lt i j/\s'=s) hi hj ⟨rfl,rfl⟩) (fun c s' hc=>?_) fun _ _ hF=>hF.elim)));obtain⟨rfl,rfl⟩:=hc;exact⟨rfl,Zm h⟩
theorem EV{q:Array Nat}{i:Nat}(hi:i<q.size):elem' (q.map (kas_item it)) i=pure (kas_item it (gA q i)):=by
 rw[elem'_eq];have e:(q.map (kas_item it))[i]?=some (kas_item it (gA q i)):=by
  rw[Array.getElem?_map];have e1:gA q i=q[i]:=by unfold gA;simp[Array.getD,hi]
  rw[e1];simp[hi]
 rw[e]
def zB(lt:Nat->Nat->Bool)(le:Bool)(k x:Nat):Bool:=if le=true then lt x k else !lt k x
theorem FM(Z:Zc prog w A s κ it lt N){le:Bool}{k ba i:Nat}{q:Array Nat}{Q:Option Bool->SortSt->Prop}(hk:kindOf st=κ)(hK:k<N)(hi:ba+i<q.size)(hq:gA q (ba+i)<N)(h:Q (some (zB lt le k (gA q (ba+i)))) st) :
  wpS (model prog w) A E s (jF le (kas_item it k) (q.map (kas_item it)) ba i) Q st:=by
 unfold jF;rw[EV hi];refine Zi (Zm ?_);cases le with
 |true =>simp only[if_true];exact sf Z hk hq hK h
 |false =>simp only[Yy,YM];exact Zi (sf Z hk hK hq (Zm h))
theorem EW{le:Bool}{ky:Keyed}{ar:Array Keyed}{ba n at0:Nat}{B:Nat->Bool}{Q:Option Nat->SortSt->Prop}(hb:∀i (Q:Option Bool->SortSt->Prop),i<n->Q (some (B i)) st->wpS (model prog w) A E s (jF le ky ar ba i) Q st)(h0:at0<n)(mono:∀i j,i<=j->j<n->B j=true->B i=true)(h:∀m,m<=n->(∀i,i<m->B i=true)->(∀i,m<=i->i<n->B i=false)->Q (some m) st):wpS (model prog w) A E s (eS le ky ar ba n at0) Q st:=by
 have fin:∀ lo hi,lo<=hi->hi<=n->(∀ i,i<lo->B i=true)->(∀ i,hi<=i->i<n->B i=false)->wpS (model prog w) A E s (do
   let mut lo:=lo;let mut hi:=hi
   for _ in[0:n]do
    if lo>=hi then break
    let some mo ←jF le ky ar ba (lo+(hi-lo) / 2)|return none
    if mo then lo:=lo+(hi-lo) / 2+1 else hi:=lo+(hi-lo) / 2
   return some hi) Q st:=fun lo hi h1 h2 h3 h4=>by
  refine Zi (Yq (Yg (I:=fun x c st'=>st'=st/\∃ lo hi,c=(none,lo,hi)/\lo<=hi/\hi<=n/\hi - lo<=n - x/\(∀ i,i<lo->B i=true)/\(∀ i,hi<=i->i<n->B i=false))
   (Q:=fun c st'=>st'=st/\∃ hi,c=(none,hi,hi)/\hi<=n/\(∀ i,i<hi->B i=true)/\(∀ i,hi<=i->i<n->B i=false)) ?step ?fin ⟨rfl,lo,hi,rfl,h1,h2,by omega,h3,h4⟩) ?post)
  case fin =>
   rintro c st' ⟨rfl,lo,hi,rfl,g1,g2,g3,g4,g5⟩;have e:lo=hi:=by omega
   subst e;exact⟨rfl,lo,rfl,g2,g4,g5⟩
  case post =>rintro c st' ⟨rfl,hi,rfl,g2,g4,g5⟩;exact Zm (h hi g2 g4 g5)
  case step =>
   rintro x c st' _ hx ⟨rfl,lo,hi,rfl,g1,g2,g3,g4,g5⟩;dsimp only;by_cases hge:lo>=hi
   ·rw[HK hge];have e:lo=hi:=by omega
    subst e;exact Zm ⟨rfl,lo,rfl,g2,g4,g5⟩
   ·rw[HH hge];refine Zi (hb _ _ (by omega) ?_);dsimp only;cases e:B (lo+(hi-lo) / 2)with
    |true =>rw[HK rfl];exact Zm ⟨rfl,_,_,rfl,by omega,g2,by omega,fun i hi'=>mono i (lo+(hi-lo) / 2) (by omega) (by omega) e,g5⟩
    |false =>
     rw[HH (by simp)];refine Zm ⟨rfl,_,_,rfl,by omega,by omega,by omega,g4,fun i hi1 hi2=>?_⟩;cases e':B i with
     |false=>rfl
     |true=>rw[mono _ i hi1 hi2 e']at e;cases e
 rw[CK];refine Zi (hb at0 _ h0 ?_);dsimp only;cases e:B at0 with
 |true =>
  simp only[if_true];refine Zi (Yq (Yg (I:=fun x c st'=>st'=st/\∃ las ofs,c=(none,las,ofs)/\las<ofs/\x+1<=ofs/\las<n - at0/\B (at0+las)=true)
   (Q:=fun c st'=>st'=st/\∃ las ofs,c=(none,las,ofs)/\las<ofs/\las<n - at0/\B (at0+las)=true/\(ofs>=n - at0\/B (at0+ofs)=false)) ?step ?fin ⟨rfl,0,1,rfl,by omega,by omega,by omega,e⟩) ?post)
  case fin =>rintro c st' ⟨rfl,las,ofs,rfl,g1,g2,g3,g4⟩;exact⟨rfl,las,ofs,rfl,g1,g3,g4,.inl (by omega)⟩
  case post =>
   rintro c st' ⟨rfl,las,ofs,rfl,g1,g2,g3,g4⟩;refine fin (at0+las+1) (at0+min ofs (n-at0)) (by omega) (by omega) (fun i hi'=>mono i (at0+las) (by omega) (by omega) g3) fun i hi1 hi2=>?_;rcases g4 with g4|g4
   ·omega
   ·cases e':B i with
    |false=>rfl
    |true=>rw[mono _ i (by omega) hi2 e']at g4;cases g4
  case step =>
   rintro x c st' _ hx ⟨rfl,las,ofs,rfl,g1,g2,g3,g4⟩;dsimp only;by_cases hge:ofs>=n-at0
   ·rw[HK hge];exact Zm ⟨rfl,las,ofs,rfl,g1,g3,g4,.inl hge⟩
   ·rw[HH hge];refine Zi (hb _ _ (by omega) ?_);dsimp only;cases e:B (at0+ofs)with
    |true =>rw[HH (by simp)];exact Zm ⟨rfl,ofs,_,rfl,by omega,by omega,by omega,e⟩
    |false =>rw[HK (by simp)];exact Zm ⟨rfl,las,ofs,rfl,g1,g3,g4,.inr e⟩
 |false =>
  simp only[Yy,YM];refine Zi (Yq (Yg (I:=fun x c st'=>st'=st/\∃ las ofs,c=(none,las,ofs)/\las<ofs/\x+1<=ofs/\las<=at0/\B (at0 - las)=false)
   (Q:=fun c st'=>st'=st/\∃ las ofs,c=(none,las,ofs)/\las<ofs/\las<=at0/\B (at0 - las)=false/\(ofs>=at0+1\/B (at0 - ofs)=true)) ?step ?fin ⟨rfl,0,1,rfl,by omega,by omega,by omega,e⟩) ?post)
  case fin =>rintro c st' ⟨rfl,las,ofs,rfl,g1,g2,g3,g4⟩;exact⟨rfl,las,ofs,rfl,g1,g3,g4,.inl (by omega)⟩
  case post =>
   rintro c st' ⟨rfl,las,ofs,rfl,g1,g2,g3,g4⟩;refine fin (at0+1-min ofs (at0+1)) (at0-las) (by omega) (by omega) (fun i hi'=>?_) fun i hi1 hi2=>?_
   ·rcases g4 with g4|g4
    ·omega
    ·exact mono i (at0-ofs) (by omega) (by omega) g4
   ·cases e':B i with
    |false=>rfl
    |true=>rw[mono _ i hi1 hi2 e']at g3;cases g3
  case step =>
   rintro x c st' _ hx ⟨rfl,las,ofs,rfl,g1,g2,g3,g4⟩;dsimp only;by_cases hge:ofs>=at0+1
   ·rw[HK hge];exact Zm ⟨rfl,las,ofs,rfl,g1,g3,g4,.inl hge⟩
   ·rw[HH hge];refine Zi (hb _ _ (by omega) ?_);dsimp only;cases e:B (at0-ofs)with
    |true =>rw[HK rfl];exact Zm ⟨rfl,las,ofs,rfl,g1,g3,g4,.inr e⟩
    |false =>rw[HH (by simp)];exact Zm ⟨rfl,ofs,_,rfl,by omega,by omega,by omega,e⟩
theorem kh(Z:Zc prog w A s κ it lt N){le:Bool}{k ba n at0:Nat}{q:Array Nat}{Q:Option Nat->SortSt->Prop}(hk:kindOf st=κ)(hK:k<N)(hz:ba+n<=q.size)(hq:∀i,ba<=i->i<ba+n->gA q i<N)(h0:at0<n)(mono:∀i j,i<=j->j<n->zB lt le k (gA q (ba+j))=true->zB lt le k (gA q (ba+i))=true)(h:∀m,m<=n->(∀i,i<m->zB lt le k (gA q (ba+i))=true)->(∀i,m<=i->i<n->zB lt le k (gA q (ba+i))=false)->Q (some m) st):wpS (model prog w) A E s (eS le (kas_item it k) (q.map (kas_item it)) ba n at0) Q st :=
 EW (B:=fun i=>zB lt le k (gA q (ba+i))) (fun i _ hi hQ=>FM Z hk hK (by omega) (hq _ (by omega) (by omega)) hQ) h0 mono h
end
open PySem PyProof.Rows PySem.W
section
variable{lt:Nat->Nat->Bool}
theorem aI(p:Array Nat)(k:Nat):gA p k=p.toList.getD k 0:=by unfold gA;rw[ZN,Zf,Array.getElem?_toList]
theorem jR{l:List Nat}{i x:Nat}(h:x∈l.drop i):∃j,i<=j/\j<l.length/\l.getD j 0=x:=by obtain⟨n,hn,e⟩:=ZS.mp h;rw[Yo]at hn;refine⟨i+n,by omega,by omega,?_⟩;rw[List.getElem_drop]at e;rw[Zf,Ze (by omega)];exact e
theorem jS{l:List Nat}{i x:Nat}(h:x∈l.take i):∃j,j<i/\j<l.length/\l.getD j 0=x:=by obtain⟨n,hn,e⟩:=ZS.mp h;rw[Z0]at hn;refine⟨n,by omega,by omega,?_⟩;rw[List.getElem_take]at e;rw[Zf,Ze (by omega)];exact e
theorem xQ{l:List Nat}{i k x:Nat}(h:x∈(l.drop i).take k):∃j,i<=j/\j<i+k/\j<l.length/\l.getD j 0=x:=by obtain⟨j,h1,h2,e⟩:=jS h;rw[Yo]at h2;refine⟨i+j,by omega,by omega,by omega,?_⟩;rw[<-e,Zf,Zf,List.getElem?_drop]
def Mg(lt:Nat->Nat->Bool)(T o A B:List Nat):Prop:=∀r:List Nat,r.Perm (A++B)->r.Pairwise (Lx lt)->(o++r).Pairwise (Lx lt)/\(o++r).Perm T
def Mh(lt:Nat->Nat->Bool)(T o A B:List Nat):Prop:=∀r:List Nat,r.Perm (A++B)->r.Pairwise (Lx lt)->(r++o).Pairwise (Lx lt)/\(r++o).Perm T
theorem Mg.step{T o A B c A' B':List Nat}(h:Mg lt T o A B)(hp:(c++(A'++B')).Perm (A++B))(hc:c.Pairwise (Lx lt))(hx:∀x∈c,∀y∈A'++B',Lx lt x y):Mg lt T (o++c) A' B':=fun r hr hs=>by rw[ZC];exact h (c++r) ((hr.append_left c).trans hp) (ZT.mpr ⟨hc,hs,fun x hx' y hy=>hx x hx' y (hr.mem_iff.mp hy)⟩)
theorem Mh.step{T o A B c A' B':List Nat}(h:Mh lt T o A B)(hp:((A'++B')++c).Perm (A++B))(hc:c.Pairwise (Lx lt))(hx:∀y∈A'++B',∀x∈c,Lx lt y x):Mh lt T (c++o) A' B':=fun r hr hs=>by rw[<-ZC];exact h (r++c) ((hr.append_right c).trans hp) (ZT.mpr ⟨hs,hc,fun y hy x hx'=>hx y (hr.mem_iff.mp hy) x hx'⟩)
structure MF(lt:Nat->Nat->Bool)(N:Nat)(a b:Array Nat):Prop where
 sa:∀i j,i<j->j<a.size->Lx lt (gA a i) (gA a j)
 sb:∀i j,i<j->j<b.size->Lx lt (gA b i) (gA b j)
 cr:∀i j,i<a.size->j<b.size->lt (gA b j) (gA a i)=false->Lx lt (gA a i) (gA b j)
 na:∀i,i<a.size->gA a i<N
 nb:∀i,i<b.size->gA b i<N
 a0:0<a.size
 b0:0<b.size
 fst:lt (gA b 0) (gA a 0)=true
 lst:∀j,j<b.size->lt (gA b j) (gA a (a.size-1))=true
theorem cZ{p:Array Nat}(h:∀i j,i<j->j<p.size->Lx lt (gA p i) (gA p j)):p.toList.Pairwise (Lx lt):=by rw[ZG];intro i j hi hj hij;have:=h i j hij (by simpa using hj);rw[aI,aI,Zf,Zf,Ze hi,Ze hj]at this;exact this
theorem vI{p:Array Nat}(h:p.toList.Pairwise (Lx lt)):∀i j,i<j->j<p.size->Lx lt (gA p i) (gA p j):=fun i j hij hj=>by
 rw[ZG]at h;have hj':j<p.toList.length:=by simpa using hj
 have:=h i j (by omega) hj' hij;rw[aI,aI,Zf,Zf,Ze (show i<p.toList.length by omega),Ze hj'];exact this
variable{N:Nat}{a b:Array Nat}{f:Nat->Keyed}
theorem MF.leA(h:MF lt N a b)(O:LtOk lt){i j:Nat}(hij:i<=j)(hj:j<a.size){x:Nat}(hx:lt x (gA a i)=true):lt x (gA a j)=true:=by
 rcases Z8 i j with h1|h1
 ·exact O.lt_le hx (h.sa i j h1 hj).1
 ·have e:i=j:=by omega
  rw[<-e];exact hx
theorem MF.leB(h:MF lt N a b)(O:LtOk lt){i j:Nat}(hij:i<=j)(hj:j<b.size){x:Nat}(hx:lt (gA b j) x=true):lt (gA b i) x=true:=by
 rcases Z8 i j with h1|h1
 ·exact O.le_lt (h.sb i j h1 hj).1 hx
 ·have e:i=j:=by omega
  rw[e];exact hx
def Gd(lt:Nat->Nat->Bool)(f:Nat->Keyed)(a b:Array Nat)(r:Array Keyed):Prop:=∃q:Array Nat,r=q.map f/\q.toList.Pairwise (Lx lt)/\q.toList.Perm (a.toList++b.toList)
def LoM(lt:Nat->Nat->Bool)(f:Nat->Keyed)(a b:Array Nat)(out:Array Keyed)(ia ib:Nat):Prop:=∃o:Array Nat,out=o.map f/\Mg lt (a.toList++b.toList) o.toList (a.toList.drop ia) (b.toList.drop ib)
def HiM(lt:Nat->Nat->Bool)(f:Nat->Keyed)(a b:Array Nat)(out:Array Keyed)(na nb:Nat):Prop:=∃o:Array Nat,out=o.map f/\Mh lt (a.toList++b.toList) o.toList.reverse (a.toList.take na) (b.toList.take nb)
theorem bH(p:Array Nat)(i j:Nat):(p.map f).extract i j=(p.extract i j).map f:=by apply Array.toList_inj.mp;simp
theorem iq(p:Array Nat)(i k:Nat):(p.extract i (i+k)).toList=(p.toList.drop i).take k:=by rw[Array.toList_extract,List.extract_eq_take_drop,Z9]
theorem ip(p:Array Nat)(i:Nat):(p.extract i p.size).toList=p.toList.drop i:=by rw[Array.toList_extract,List.extract_eq_take_drop];exact Yd (by simp)
theorem ir(p:Array Nat)(i:Nat):(p.extract 0 i).toList=p.toList.take i:=by rw[Array.toList_extract,List.extract_eq_take_drop,List.drop_zero,Nat.sub_zero]
theorem LoM.chunkA(M:MF lt N a b)(O:LtOk lt){out:Array Keyed}{ia ib:Nat}(h:LoM lt f a b out ia ib)(k:Nat)(hk:ia+k<=a.size)(hb:ib<b.size)(hw:∀i,i<k->lt (gA b ib) (gA a (ia+i))=false):LoM lt f a b (out++(a.map f).extract ia (ia+k)) (ia+k) ib:=by
 obtain⟨o,rfl,h⟩:=h;refine⟨o++a.extract ia (ia+k),by rw[bH,Yr],?_⟩;rw[Zz,iq];have e:a.toList.drop ia=(a.toList.drop ia).take k++a.toList.drop (ia+k):=by rw[<-List.drop_drop,Z5]
 have pa:(a.toList.drop ia).Pairwise (Lx lt):=(cZ M.sa).sublist (YC _ _);refine h.step ?_ (pa.sublist (ZO _ _)) fun x hx y hy=>?_
 ·rw[<-ZC,<-e]
 ·rcases ZK.mp hy with hy|hy
  ·rw[e]at pa;exact(ZT.mp pa).2.2 x hx y hy
  ·obtain⟨i,h1,h2,h3,rfl⟩:=xQ hx;obtain⟨j,g1,g2,rfl⟩:=jR hy;have h3':i<a.size:=by simpa using h3
   have g2':j<b.size:=by simpa using g2
   rw[<-aI,<-aI];have w:=hw (i-ia) (by omega);rw[show ia+(i-ia)=i by omega]at w;refine M.cr i j h3' g2' ?_;cases e':lt (gA b j) (gA a i)with
   |false=>rfl
   |true=>rw[M.leB O g1 g2' e']at w;cases w
theorem LoM.chunkB(M:MF lt N a b)(O:LtOk lt){out:Array Keyed}{ia ib:Nat}(h:LoM lt f a b out ia ib)(k:Nat)(hk:ib+k<=b.size)(hb:ia<a.size)(hw:∀i,i<k->lt (gA b (ib+i)) (gA a ia)=true):LoM lt f a b (out++(b.map f).extract ib (ib+k)) ia (ib+k):=by
 obtain⟨o,rfl,h⟩:=h;refine⟨o++b.extract ib (ib+k),by rw[bH,Yr],?_⟩;rw[Zz,iq];have e:b.toList.drop ib=(b.toList.drop ib).take k++b.toList.drop (ib+k):=by rw[<-List.drop_drop,Z5]
 have pb:(b.toList.drop ib).Pairwise (Lx lt):=(cZ M.sb).sublist (YC _ _);refine h.step ?_ (pb.sublist (ZO _ _)) fun x hx y hy=>?_
 ·refine(List.perm_append_comm_assoc _ _ _).trans ?_;rw[<-e]
 ·rcases ZK.mp hy with hy|hy
  ·obtain⟨i,h1,h2,h3,rfl⟩:=xQ hx;obtain⟨j,g1,g2,rfl⟩:=jR hy;have g2':j<a.size:=by simpa using g2
   rw[<-aI,<-aI];have w:=hw (i-ib) (by omega);rw[show ib+(i-ib)=i by omega]at w;exact Lx.of_lt O (M.leA O g1 g2' w)
  ·rw[e]at pb;exact(ZT.mp pb).2.2 x hx y hy
theorem kY{out:Array Keyed}{p:Array Nat}{i:Nat}(hi:i<p.size):out.push (f (gA p i))=out++(p.map f).extract i (i+1):=by
 apply Array.toList_inj.mp;rw[Array.toList_push,Zz,bH,Array.toList_map,iq];have hi':i<p.toList.length:=by simpa using hi
 have e:(p.toList.drop i).take 1=[gA p i]:=by rw[List.drop_eq_getElem_cons hi',aI,Zf,Ze hi'];rfl
 rw[e];rfl
theorem LoM.pushA(M:MF lt N a b)(O:LtOk lt){out:Array Keyed}{ia ib:Nat}(h:LoM lt f a b out ia ib)(ha:ia<a.size)(hb:ib<b.size)(hw:lt (gA b ib) (gA a ia)=false):LoM lt f a b (out.push (f (gA a ia))) (ia+1) ib:=by rw[kY ha];refine h.chunkA M O 1 (by omega) hb fun i hi=>?_;rw[show ia+i=ia by omega];exact hw
theorem LoM.pushB(M:MF lt N a b)(O:LtOk lt){out:Array Keyed}{ia ib:Nat}(h:LoM lt f a b out ia ib)(ha:ia<a.size)(hb:ib<b.size)(hw:lt (gA b ib) (gA a ia)=true):LoM lt f a b (out.push (f (gA b ib))) ia (ib+1):=by rw[kY hb];refine h.chunkB M O 1 (by omega) ha fun i hi=>?_;rw[show ib+i=ib by omega];exact hw
theorem LoM.done(M:MF lt N a b){out:Array Keyed}{ia ib:Nat}(h:LoM lt f a b out ia ib)(he:ia=a.size\/ib=b.size):Gd lt f a b (out++(a.map f).extract ia a.size++(b.map f).extract ib b.size):=by
 obtain⟨o,rfl,h⟩:=h;have pa:(a.toList.drop ia).Pairwise (Lx lt):=(cZ M.sa).sublist (YC _ _);have pb:(b.toList.drop ib).Pairwise (Lx lt):=(cZ M.sb).sublist (YC _ _);refine⟨o++a.extract ia a.size++b.extract ib b.size,by rw[bH,bH,Yr,Yr],?_⟩;rw[Zz,Zz,ip,ip,ZC];refine h _ (List.Perm.refl _) ?_;rcases he with rfl|rfl
 ·rw[Y6 (by simp),List.nil_append];exact pb
 ·rw[Y6 (l:=b.toList) (by simp),Z6];exact pa
theorem LoM.last(M:MF lt N a b)(O:LtOk lt){out:Array Keyed}{ia ib:Nat}(h:LoM lt f a b out ia ib)(he:ia+1=a.size):Gd lt f a b (out++(b.map f).extract ib b.size++(a.map f).extract ia a.size):=by
 obtain⟨o,rfl,h⟩:=h;have pa:(a.toList.drop ia).Pairwise (Lx lt):=(cZ M.sa).sublist (YC _ _);have pb:(b.toList.drop ib).Pairwise (Lx lt):=(cZ M.sb).sublist (YC _ _);refine⟨o++b.extract ib b.size++a.extract ia a.size,by rw[bH,bH,Yr,Yr],?_⟩;rw[Zz,Zz,ip,ip,ZC];refine h _ List.perm_append_comm (ZT.mpr ⟨pb,pa,fun x hx y hy=>?_⟩);obtain⟨i,h1,h3,rfl⟩:=jR hx;obtain⟨j,g1,g2,rfl⟩:=jR hy;have g2':j<a.size:=by simpa using g2
 rw[<-aI,<-aI];have w:=M.lst i (by simpa using h3);rw[show j=a.size-1 by omega];exact Lx.of_lt O w
theorem LoM.start(M:MF lt N a b)(O:LtOk lt):LoM lt f a b #[f (gA b 0)] 0 1:=by
 have h:LoM lt f a b #[] 0 0:=⟨#[],by simp,fun r hr hs=>⟨hs,hr⟩⟩
 exact h.pushB M O M.a0 M.b0 M.fst
theorem ue{out:Array Keyed}(p:Array Nat)(i j:Nat)(o:Array Nat)(e:out=o.map f):out++((p.map f).extract i j).reverse=(o++(p.extract i j).reverse).map f:=by rw[e,bH,Yr,Array.map_reverse]
theorem ny(p:Array Nat)(i j:Nat):(p.extract i j).toList=(p.toList.take j).drop i:=by rw[Array.toList_extract,List.extract_eq_take_drop,List.drop_take]
theorem xR{l:List Nat}{i j x:Nat}(h:x∈(l.take j).drop i):∃k,i<=k/\k<j/\k<l.length/\l.getD k 0=x:=by obtain⟨k,h1,h2,e⟩:=jR h;rw[Z0]at h2;refine⟨k,h1,by omega,by omega,?_⟩;rw[<-e,Zf,Zf,List.getElem?_take,HK (by omega)]
theorem HiM.chunkA(M:MF lt N a b)(O:LtOk lt){out:Array Keyed}{na nb:Nat}(h:HiM lt f a b out na nb)(k:Nat)(hk:k<=na)(ha:na<=a.size)(hb1:0<nb)(hb:nb<=b.size)(hw:∀i,k<=i->i<na->lt (gA b (nb-1)) (gA a i)=true):HiM lt f a b (out++((a.map f).extract k na).reverse) k nb:=by
 obtain⟨o,e0,h⟩:=h;refine⟨o++(a.extract k na).reverse,ue a k na o e0,?_⟩;rw[Zz,Array.toList_reverse,List.reverse_append,List.reverse_reverse,ny];have e:a.toList.take na=a.toList.take k++(a.toList.take na).drop k:=by have:=Z5 k (a.toList.take na);rw[List.take_take,Nat.min_eq_left hk]at this;exact this.symm
 have pa:(a.toList.take na).Pairwise (Lx lt):=(cZ M.sa).sublist (ZO _ _);refine h.step ?_ (pa.sublist (YC _ _)) fun y hy x hx=>?_
 ·rw[ZC];refine(List.perm_append_comm.append_left _).trans ?_;rw[<-ZC,<-e]
 ·rcases ZK.mp hy with hy|hy
  ·rw[e]at pa;exact(ZT.mp pa).2.2 y hy x hx
  ·obtain⟨i,h1,h2,h3,rfl⟩:=xR hx;obtain⟨j,g1,g2,rfl⟩:=jS hy;rw[<-aI,<-aI];exact Lx.of_lt O (M.leB O (show j<=nb-1 by omega) (by omega) (hw i h1 h2))
theorem HiM.chunkB(M:MF lt N a b)(O:LtOk lt){out:Array Keyed}{na nb:Nat}(h:HiM lt f a b out na nb)(k:Nat)(hk:k<=nb)(ha:na<=a.size)(ha1:0<na)(hb:nb<=b.size)(hw:∀i,k<=i->i<nb->lt (gA b i) (gA a (na-1))=false):HiM lt f a b (out++((b.map f).extract k nb).reverse) na k:=by
 obtain⟨o,e0,h⟩:=h;refine⟨o++(b.extract k nb).reverse,ue b k nb o e0,?_⟩;rw[Zz,Array.toList_reverse,List.reverse_append,List.reverse_reverse,ny];have e:b.toList.take nb=b.toList.take k++(b.toList.take nb).drop k:=by have:=Z5 k (b.toList.take nb);rw[List.take_take,Nat.min_eq_left hk]at this;exact this.symm
 have pb:(b.toList.take nb).Pairwise (Lx lt):=(cZ M.sb).sublist (ZO _ _);refine h.step ?_ (pb.sublist (YC _ _)) fun y hy x hx=>?_
 ·rw[ZC,<-e]
 ·rcases ZK.mp hy with hy|hy
  ·obtain⟨i,h1,h2,h3,rfl⟩:=xR hx;obtain⟨j,g1,g2,rfl⟩:=jS hy;have h3':i<b.size:=by simpa using h3
   have g2':j<a.size:=by simpa using g2
   rw[<-aI,<-aI];have w:=hw i h1 h2;refine M.cr j i g2' h3' ?_;cases e':lt (gA b i) (gA a j)with
   |false=>rfl
   |true=>rw[M.leA O (show j<=na-1 by omega) (by omega) e']at w;cases w
  ·rw[e]at pb;exact(ZT.mp pb).2.2 y hy x hx
theorem re{out:Array Keyed}{p:Array Nat}{i:Nat}(hi:i<p.size):out.push (f (gA p i))=out++((p.map f).extract i (i+1)).reverse:=by
 have e:=kY (f:=f) (out:=#[]) hi;have e2:(p.map f).extract i (i+1)=#[f (gA p i)]:=by rw[<-Array.empty_append (xs:=(p.map f).extract i (i+1)),<-e];rfl
 rw[e2];rfl
theorem HiM.pushA(M:MF lt N a b)(O:LtOk lt){out:Array Keyed}{na nb:Nat}(h:HiM lt f a b out na nb)(ha1:0<na)(ha:na<=a.size)(hb1:0<nb)(hb:nb<=b.size)(hw:lt (gA b (nb-1)) (gA a (na-1))=true):HiM lt f a b (out.push (f (gA a (na-1)))) (na-1) nb:=by rw[re (show na-1<a.size by omega),Nat.sub_add_cancel ha1];refine h.chunkA M O (na-1) (by omega) ha hb1 hb fun i h1 h2=>?_;rw[show i=na-1 by omega];exact hw
theorem HiM.pushB(M:MF lt N a b)(O:LtOk lt){out:Array Keyed}{na nb:Nat}(h:HiM lt f a b out na nb)(ha1:0<na)(ha:na<=a.size)(hb1:0<nb)(hb:nb<=b.size)(hw:lt (gA b (nb-1)) (gA a (na-1))=false):HiM lt f a b (out.push (f (gA b (nb-1)))) na (nb-1):=by rw[re (show nb-1<b.size by omega),Nat.sub_add_cancel hb1];refine h.chunkB M O (nb-1) (by omega) ha ha1 hb fun i h1 h2=>?_;rw[show i=nb-1 by omega];exact hw
theorem HiM.done(M:MF lt N a b){out:Array Keyed}{na nb:Nat}(h:HiM lt f a b out na nb)(he:na=0\/nb=0):Gd lt f a b ((a.map f).extract 0 na++(b.map f).extract 0 nb++out.reverse):=by
 obtain⟨o,rfl,h⟩:=h;have pa:(a.toList.take na).Pairwise (Lx lt):=(cZ M.sa).sublist (ZO _ _);have pb:(b.toList.take nb).Pairwise (Lx lt):=(cZ M.sb).sublist (ZO _ _);refine⟨a.extract 0 na++b.extract 0 nb++o.reverse,by rw[bH,bH,Yr,Yr,Array.map_reverse],?_⟩;rw[Zz,Zz,ir,ir,Array.toList_reverse];refine h _ (List.Perm.refl _) ?_;rcases he with rfl|rfl
 ·exact pb
 ·rw[List.take_zero,Z6];exact pa
theorem HiM.first(M:MF lt N a b)(O:LtOk lt){out:Array Keyed}{na nb:Nat}(h:HiM lt f a b out na nb)(he:nb=1):Gd lt f a b ((b.map f).extract 0 nb++(a.map f).extract 0 na++out.reverse):=by
 obtain⟨o,rfl,h⟩:=h;have pa:(a.toList.take na).Pairwise (Lx lt):=(cZ M.sa).sublist (ZO _ _);have pb:(b.toList.take nb).Pairwise (Lx lt):=(cZ M.sb).sublist (ZO _ _);refine⟨b.extract 0 nb++a.extract 0 na++o.reverse,by rw[bH,bH,Yr,Yr,Array.map_reverse],?_⟩;rw[Zz,Zz,ir,ir,Array.toList_reverse];refine h _ List.perm_append_comm (ZT.mpr ⟨pb,pa,fun x hx y hy=>?_⟩);obtain⟨i,h1,h3,rfl⟩:=jS hx;obtain⟨j,g1,g2,rfl⟩:=jS hy;have g2':j<a.size:=by simpa using g2
 rw[<-aI,<-aI,show i=0 by omega];exact Lx.of_lt O (M.leA O (ZV _) g2' M.fst)
theorem HiM.start(M:MF lt N a b)(O:LtOk lt):HiM lt f a b #[f (gA a (a.size-1))] (a.size-1) b.size:=by
 have h:HiM lt f a b #[] a.size b.size:=⟨#[],by simp,fun r hr hs=>by
  rw[Yd (by simp),Yd (by simp)]at hr;have e:(#[]:Array Nat).toList.reverse=[]:=rfl;rw[e,Z6];exact⟨hs,hr⟩⟩
 exact h.pushA M O M.a0 (Zb _) M.b0 (Zb _) (M.lst _ (by have:=M.b0;omega))
end
open PySem PyProof.Rows PySem.W
abbrev LoC:=Option (Array Keyed)×Array Keyed×Nat×Nat×Nat×Nat×Nat
def iF(a b out:Array Keyed)(ia ib:Nat):Array Keyed:=out++a.extract ia a.size++b.extract ib b.size
def mh(a b out:Array Keyed)(ia ib:Nat):Array Keyed:=out++b.extract ib b.size++a.extract ia a.size
def vo(a b out:Array Keyed)(ia ib mg ac bc:Nat):StateT SortSt Sem (ForInStep LoC):=do
 let x ←elem' a ia
 if(ia+1+1==a.size)=true then pure (.done (some (mh a b (out.push x) (ia+1) ib),out.push x,ia+1,ib,mg,ac,bc))
 else if(decide (ac<7)&&decide (bc<7))=true then pure (.done (none,out.push x,ia+1,ib,mg,ac,bc))else pure (.yield (none,out.push x,ia+1,ib,mg,ac,bc))
def vm(a b out:Array Keyed)(ia ib mg ac bc:Nat):StateT SortSt Sem (ForInStep LoC):=do
 let y ←elem' b ib
 if(ib+1==b.size)=true then pure (.done (some (iF a b (out.push y) ia (ib+1)),out.push y,ia,ib+1,mg,ac,bc))
 else do
  let x ←elem' a ia
  let some k ←eS true x b (ib+1) (b.size-(ib+1)) 0|pure (.done (some (iF a b (out.push y) ia (ib+1)),out.push y,ia,ib+1,mg,ac,bc))
  if k>0 then
   if(ib+1+k==b.size)=true then pure (.done (some (iF a b (out.push y++b.extract (ib+1) (ib+1+k)) ia (ib+1+k)),out.push y++b.extract (ib+1) (ib+1+k),ia,ib+1+k,mg,ac,k))
   else vo a b (out.push y++b.extract (ib+1) (ib+1+k)) ia (ib+1+k) mg ac k
  else vo a b (out.push y) ia (ib+1) mg ac k
def Ds(a b out:Array Keyed)(ia ib mg ac bc:Nat):StateT SortSt Sem (ForInStep LoC):=do
 jG mg
 let y ←elem' b ib
 let some k ←eS false y a ia (a.size-ia) 0|pure (.done (some (iF a b out ia ib),out,ia,ib,mg,ac,bc))
 if k>0 then
  if(ia+k+1==a.size)=true then pure (.done (some (mh a b (out++a.extract ia (ia+k)) (ia+k) ib),out++a.extract ia (ia+k),ia+k,ib,mg,k,bc))
  else if(ia+k==a.size)=true then pure (.done (some (iF a b (out++a.extract ia (ia+k)) (ia+k) ib),out++a.extract ia (ia+k),ia+k,ib,mg,k,bc))
  else vm a b (out++a.extract ia (ia+k)) (ia+k) ib mg k bc
 else vm a b out ia ib mg k bc
section
variable{prog:Program}{w:World}{A:Around}{E:Value->Shared->Prop}{s:Shared}{κ:SortKind}{it:Array Keyed}{lt:Nat->Nat->Bool}{N:Nat}{st:SortSt}{a b:Array Nat}
def lA(st:SortSt)(g:Nat):SortSt:=SortSt.mk' (kindOf st) (arrOf st) (pendingOf st) g (failedOf st)
def SG'(st st':SortSt):Prop:=∃g,st'=lA st g
theorem SG'.refl:SG' st st:=⟨gallopOf st,rfl⟩
theorem SG'.set{st':SortSt}(h:SG' st st')(g:Nat):SG' st (lA st' g):=by obtain⟨g',rfl⟩:=h;exact⟨g,rfl⟩
theorem SG'.kind{st':SortSt}(h:SG' st st')(hk:kindOf st=κ):kindOf st'=κ:=by obtain⟨g',rfl⟩:=h;exact hk
theorem qo{g:Nat}{Q:Unit->SortSt->Prop}(h:Q () (lA st g)):wpS (model prog w) A E s (jG g) Q st:=by have e:jG g=modify fun st=>lA st g:=rfl;rw[e];exact wpS_modify h
theorem bq{q:Array Nat}{i:Nat}{Q:Keyed->SortSt->Prop}(hi:i<q.size)(h:Q (kas_item it (gA q i)) st):wpS (model prog w) A E s (elem' (q.map (kas_item it)) i) Q st:=by rw[EV hi];exact Zm h
theorem aD{α:Type}{c:Prop}[Decidable c]{x y:StateT SortSt Sem α}{Q:α->SortSt->Prop}(h1:c->wpS (model prog w) A E s x Q st)(h2:¬c->wpS (model prog w) A E s y Q st):wpS (model prog w) A E s (if c then x else y) Q st:=by
 split
 ·exact h1 ‹_›
 ·exact h2 ‹_›
def LoI(lt:Nat->Nat->Bool)(f:Nat->Keyed)(a b:Array Nat)(n:Nat)(c:LoC):Prop:=∃out ia ib mg ac bc,c=(none,out,ia,ib,mg,ac,bc)/\LoM lt f a b out ia ib/\ia+1<a.size/\ib<b.size/\n<=ia+ib
def LoQ(lt:Nat->Nat->Bool)(f:Nat->Keyed)(a b:Array Nat)(st:SortSt)(n:Nat)(r:ForInStep LoC)(st':SortSt):Prop:=SG' st st'/\match r with
 |.done c=>(∃r d,c=(some r,d)/\Gd lt f a b r)\/LoI lt f a b n c
 |.yield c=>LoI lt f a b n c
theorem ze(O:LtOk lt)(M:MF lt N a b){out:Array Keyed}{ia ib mg ac bc n:Nat}{st0:SortSt}(g:SG' st0 st)(l:LoM lt (kas_item it) a b out ia ib)(h1:ia+1<a.size)(h2:ib<b.size)(hn:n<=ia+ib)(hw:lt (gA b ib) (gA a ia)=false) :
  wpS (model prog w) A E s (vo (a.map (kas_item it)) (b.map (kas_item it)) out ia ib mg ac bc) (LoQ lt (kas_item it) a b st0 n) st:=by
 unfold vo mh;rw[YH,YH];refine Zi (bq (by omega) ?_);have l3:=l.pushA M O (by omega) h2 hw;refine aD (fun e=>?_) fun e=>aD (fun _=>?_) fun _=>?_
 ·exact Zm ⟨g,.inl ⟨_,_,rfl,l3.last M O (by simpa using e)⟩⟩
 ·have e':ia+1+1≠a.size:=by simpa using e
  exact Zm ⟨g,.inr ⟨_,_,_,_,_,_,rfl,l3,by omega,h2,by omega⟩⟩
 ·have e':ia+1+1≠a.size:=by simpa using e
  exact Zm ⟨g,⟨_,_,_,_,_,_,rfl,l3,by omega,h2,by omega⟩⟩
theorem zd(Z:Zc prog w A s κ it lt N)(O:LtOk lt)(M:MF lt N a b){out:Array Keyed}{ia ib mg ac bc n:Nat}{st0:SortSt}(hk:kindOf st0=κ)(g:SG' st0 st)(l:LoM lt (kas_item it) a b out ia ib)(h1:ia+1<a.size)(h2:ib<b.size)(hn:n<=ia+ib)(hw:lt (gA b ib) (gA a ia)=true) :
  wpS (model prog w) A E s (vm (a.map (kas_item it)) (b.map (kas_item it)) out ia ib mg ac bc) (LoQ lt (kas_item it) a b st0 n) st:=by
 unfold vm iF;rw[YH,YH];refine Zi (bq h2 ?_);have l3:=l.pushB M O (by omega) h2 hw;refine aD (fun e=>?_) fun e=>?_
 ·exact Zm ⟨g,.inl ⟨_,_,rfl,l3.done M (.inr (by simpa using e))⟩⟩
 have e':ib+1≠b.size:=by simpa using e
 refine Zi (bq (by omega) (Zi (kh Z (g.kind hk) (M.na _ (by omega)) (by omega) (fun i _ _=>M.nb i (by omega)) (by omega) (fun i j h3 h4 h5=>?_) fun k hk1 hk2 hk3=>?_)))
 ·exact M.leB O (by omega) (by omega) h5
 refine aD (fun hp=>aD (fun e=>?_) fun e=>?_) fun hp=>?_
 ·have l4:=l3.chunkB M O k (by omega) (by omega) hk2;exact Zm ⟨g,.inl ⟨_,_,rfl,l4.done M (.inr (by simpa using e))⟩⟩
 ·have l4:=l3.chunkB M O k (by omega) (by omega) hk2;have e2:ib+1+k≠b.size:=by simpa using e
  exact ze O M g l4 h1 (by omega) (by omega) (hk3 k (Zb _) (by omega))
 ·have e3:k=0:=by omega
  subst e3;exact ze O M g l3 h1 (by omega) (by omega) (hk3 0 (Zb _) (by omega))
theorem yZ(Z:Zc prog w A s κ it lt N)(O:LtOk lt)(M:MF lt N a b){out:Array Keyed}{ia ib mg ac bc n:Nat}{st0:SortSt}(hk:kindOf st0=κ)(g:SG' st0 st)(l:LoM lt (kas_item it) a b out ia ib)(h1:ia+1<a.size)(h2:ib<b.size)(hn:n<=ia+ib) :
  wpS (model prog w) A E s (Ds (a.map (kas_item it)) (b.map (kas_item it)) out ia ib mg ac bc) (LoQ lt (kas_item it) a b st0 n) st:=by
 unfold Ds iF mh;rw[YH,YH];have tf:∀{x y:Nat},zB lt false x y=true->lt x y=false:=fun{x y} z=>by have z':(!lt x y)=true:=z;simpa using z'
 have ft:∀{x y:Nat},zB lt false x y=false->lt x y=true:=fun{x y} z=>by have z':(!lt x y)=false:=z;simpa using z'
 refine Zi (qo (Zi (bq h2 (Zi (kh Z ((g.set _).kind hk) (M.nb _ h2) (by omega) (fun i _ _=>M.na i (by omega)) (by omega) (fun i j h3 h4 h5=>?_) fun k hk1 hk2 hk3=>?_)))))
 ·have z:=tf h5;show(!lt (gA b ib) (gA a (ia+i)))=true;cases e:lt (gA b ib) (gA a (ia+i))with
  |false=>rfl
  |true=>rw[M.leA O (show ia+i<=ia+j by omega) (by omega) e]at z;cases z
 refine aD (fun hp=>aD (fun e=>?_) fun e=>aD (fun e2=>?_) fun e2=>?_) fun hp=>?_
 ·have l4:=l.chunkA M O k (by omega) h2 fun i hi=>tf (hk2 i hi);exact Zm ⟨g.set _,.inl ⟨_,_,rfl,l4.last M O (by simpa using e)⟩⟩
 ·have l4:=l.chunkA M O k (by omega) h2 fun i hi=>tf (hk2 i hi);exact Zm ⟨g.set _,.inl ⟨_,_,rfl,l4.done M (.inl (by simpa using e2))⟩⟩
 ·have l4:=l.chunkA M O k (by omega) h2 fun i hi=>tf (hk2 i hi);have e':ia+k+1≠a.size:=by simpa using e
  have e2':ia+k≠a.size:=by simpa using e2
  exact zd Z O M hk (g.set _) l4 (by omega) h2 (by omega) (ft (hk3 k (Zb _) (by omega)))
 ·have e3:k=0:=by omega
  subst e3;exact zd Z O M hk (g.set _) l (by omega) h2 (by omega) (ft (hk3 0 (Zb _) (by omega)))
theorem Gh(Z:Zc prog w A s κ it lt N)(O:LtOk lt)(M:MF lt N a b){Q:Array Keyed->SortSt->Prop}(hk:kindOf st=κ)(h:∀r st',Gd lt (kas_item it) a b r->SG' st st'->Q r st'):wpS (model prog w) A E s (zLo (a.map (kas_item it)) (b.map (kas_item it))) Q st:=by
 have a0:=M.a0;have b0:=M.b0;have za:(a.map (kas_item it)).size=a.size:=YH ..;have zb:(b.map (kas_item it)).size=b.size:=YH ..;rw[EU];refine Zi (wpS_lift (YL ⟨rfl,?_⟩));refine Zi (bq b0 ?_);have l0:=LoM.start (f:=kas_item it) M O;have dn:∀{out ia ib},LoM lt (kas_item it) a b out ia ib->ia=a.size\/ib=b.size->Gd lt (kas_item it) a b (out++(a.map (kas_item it)).extract ia (a.map (kas_item it)).size++(b.map (kas_item it)).extract ib (b.map (kas_item it)).size):=fun h e=>by rw[za,zb];exact h.done M e
 have ls:∀{out ia ib},LoM lt (kas_item it) a b out ia ib->ia+1=a.size->Gd lt (kas_item it) a b (out++(b.map (kas_item it)).extract ib (b.map (kas_item it)).size++(a.map (kas_item it)).extract ia (a.map (kas_item it)).size):=fun h e=>by rw[za,zb];exact h.last M O e
 have hit:∀{α:Type} {c:Prop} [Decidable c] {x y:StateT SortSt Sem α} {Q:α->SortSt->Prop} {st:SortSt},(c->wpS (model prog w) A E s x Q st)->(¬c->wpS (model prog w) A E s y Q st)->wpS (model prog w) A E s (if c then x else y) Q st:=fun h1 h2=>by
  split
  ·exact h1 ‹_›
  ·exact h2 ‹_›
 refine hit (fun e1=>?_) fun e1=>hit (fun e2=>?_) fun e2=>?_
 ·exact Zm (h _ _ (dn l0 (.inr (by rw[<-zb];simpa using e1))) .refl)
 ·exact Zm (h _ _ (ls l0 (by rw[<-za];simpa using e2)) .refl)
 have e1':1≠b.size:=by rw[<-zb];simpa using e1
 have e2':1≠a.size:=by rw[<-za];simpa using e2
 refine Zi (wpS_get ?_);have J:∀{γ:Type} {m:StateT SortSt Sem γ} {Q R:γ->SortSt->Prop} {st:SortSt},wpS (model prog w) A E s m R st->(∀c st,R c st->Q c st)->wpS (model prog w) A E s m Q st:=fun h k=>Yq h k;refine Zi (Yq (Yg (I:=fun x c st'=>SG' st st'/\∃ out ia ib mg,c=(none,out,ia,ib,mg)/\LoM lt (kas_item it) a b out ia ib/\ia+1<a.size/\ib<b.size/\x+1<=ia+ib)
  (Q:=fun c st'=>SG' st st'/\∃ r d,c=(some r,d)/\Gd lt (kas_item it) a b r) ?step ?fin ⟨.refl,_,0,1,_,rfl,l0,by omega,by omega,by omega⟩) ?post)
 case fin =>rintro c st' ⟨_,out,ia,ib,mg,rfl,_,h1,h2,h3⟩;rw[za,zb]at h3;omega
 case post =>rintro c st' ⟨g,r,d,rfl,hr⟩;exact Zm (h r st' hr g)
 case step =>
  rintro x c st1 _ hx ⟨g,out,ia,ib,mg,rfl,l1,h1,h2,h3⟩;refine Zi (Yq (Yg (I:=fun y c st'=>st'=st1/\∃ out ia' ib' ac bc,c=(none,out,ia',ib',ac,bc)/\LoM lt (kas_item it) a b out ia' ib'/\ia'+1<a.size/\ib'<b.size/\ia+ib+y<=ia'+ib')
   (Q:=fun c st'=>st'=st1/\((∃ r d,c=(some r,d)/\Gd lt (kas_item it) a b r)\/∃ out ia' ib' ac bc,c=(none,out,ia',ib',ac,bc)/\LoM lt (kas_item it) a b out ia' ib'/\ia'+1<a.size/\ib'<b.size/\ia+ib+1<=ia'+ib')) ?step1 ?fin1 ⟨rfl,_,ia,ib,_,_,rfl,l1,h1,h2,by omega⟩) ?post1)
  case fin1 =>rintro c st' ⟨rfl,out,ia',ib',ac,bc,rfl,l2,g1,g2,g3⟩;exact⟨rfl,.inr ⟨out,ia',ib',ac,bc,rfl,l2,g1,g2,by rw[za,zb]at g3;omega⟩⟩
  case step1 =>
   rintro y c st' _ hy ⟨rfl,out,ia',ib',ac,bc,rfl,l2,g1,g2,g3⟩;dsimp only;refine Zi (bq g2 (Zi (bq (show ia'<a.size by omega) (Zi (sf Z (g.kind hk) (M.nb _ g2) (M.na _ (by omega)) ?_)))));cases ew:lt (gA b ib') (gA a ia')with
   |true =>
    refine hit (fun _=>?_) (fun z=>absurd rfl z);refine Zi (bq g2 ?_);have l3:=l2.pushB M O (by omega) g2 ew;refine hit (fun e=>?_) fun e=>hit (fun _=>?_) fun _=>?_
    ·exact Zm ⟨rfl,.inl ⟨_,_,rfl,dn l3 (.inr (by rw[<-zb];simpa using e))⟩⟩
    ·exact Zm ⟨rfl,.inr ⟨_,_,_,_,_,rfl,l3,g1,by have:ib'+1≠b.size:=(by rw[<-zb];simpa using e);omega,by omega⟩⟩
    ·exact Zm ⟨rfl,_,_,_,_,_,rfl,l3,g1,by have:ib'+1≠b.size:=(by rw[<-zb];simpa using e);omega,by omega⟩
   |false =>
    refine hit (fun z=>absurd z (by simp)) fun _=>?_;refine Zi (bq (show ia'<a.size by omega) ?_);have l3:=l2.pushA M O (by omega) g2 ew;refine hit (fun e=>?_) fun e=>hit (fun _=>?_) fun _=>?_
    ·exact Zm ⟨rfl,.inl ⟨_,_,rfl,ls l3 (by rw[<-za];simpa using e)⟩⟩
    ·exact Zm ⟨rfl,.inr ⟨_,_,_,_,_,rfl,l3,by have:ia'+1+1≠a.size:=(by rw[<-za];simpa using e);omega,g2,by omega⟩⟩
    ·exact Zm ⟨rfl,_,_,_,_,_,rfl,l3,by have:ia'+1+1≠a.size:=(by rw[<-za];simpa using e);omega,g2,by omega⟩
  case post1 =>
   rintro c st' ⟨rfl,⟨r,d,rfl,hr⟩|⟨out,ia',ib',ac,bc,rfl,l2,g1,g2,g3⟩⟩
   ·exact Zm ⟨g,r,_,rfl,hr⟩
   refine Zi (wpS_lift (YL ⟨rfl,?_⟩));refine Zi (Yq (Yg (I:=fun y c st'=>SG' st st'/\∃ out ia1 ib1 mg ac bc,c=(none,out,ia1,ib1,mg,ac,bc)/\LoM lt (kas_item it) a b out ia1 ib1/\ia1+1<a.size/\ib1<b.size/\ia'+ib'<=ia1+ib1)
    (Q:=fun c st'=>SG' st st'/\((∃ r d,c=(some r,d)/\Gd lt (kas_item it) a b r)\/∃ out ia1 ib1 mg ac bc,c=(none,out,ia1,ib1,mg,ac,bc)/\LoM lt (kas_item it) a b out ia1 ib1/\ia1+1<a.size/\ib1<b.size/\ia'+ib'<=ia1+ib1)) ?step2 ?fin2 ⟨g,_,_,_,_,_,_,rfl,l2,g1,g2,Zb _⟩) ?post2)
   case fin2 =>rintro c st2 ⟨gg,hh⟩;exact⟨gg,.inr hh⟩
   case post2 =>
    rintro c st2 ⟨gg,⟨r,d,rfl,hr⟩|⟨out,ia1,ib1,mg,ac,bc,rfl,l3,k1,k2,k3⟩⟩
    ·exact Zm ⟨gg,r,_,rfl,hr⟩
    ·exact Zi (qo (Zm ⟨gg.set _,out,ia1,ib1,_,rfl,l3,k1,k2,by omega⟩))
   case step2 =>
    rintro y c st2 _ hy ⟨gg,out,ia1,ib1,mg,ac,bc,rfl,l3,k1,k2,k3⟩;dsimp only;refine aD (fun _=>?_) fun _=>?_
    ·exact Yq (yZ (n:=ia'+ib') (mg:=mg-1) (ac:=ac) (bc:=bc) Z O M hk gg l3 k1 k2 k3) fun r st3 hr=>by
      cases r with
      |done c=>exact hr
      |yield c=>exact hr
    ·exact Yq (yZ (n:=ia'+ib') (mg:=mg) (ac:=ac) (bc:=bc) Z O M hk gg l3 k1 k2 k3) fun r st3 hr=>by
      cases r with
      |done c=>exact hr
      |yield c=>exact hr
end
open PySem PyProof.Rows PySem.W
def gI(a b out:Array Keyed)(na nb:Nat):Array Keyed:=a.extract 0 na++b.extract 0 nb++out.reverse
def vb(a b out:Array Keyed)(na nb:Nat):Array Keyed:=b.extract 0 nb++a.extract 0 na++out.reverse
abbrev HiC:=Option (Array Keyed)×Nat×Nat×Array Keyed×Nat×Nat×Nat
def vd(a b:Array Keyed)(na nb:Nat)(out:Array Keyed)(mg ac bc:Nat):StateT SortSt Sem (ForInStep HiC):=do
 let x ←elem' a (na-1)
 if(na-1==0)=true then pure (.done (some (gI a b (out.push x) (na-1) nb),na-1,nb,out.push x,mg,ac,bc))
 else if(decide (ac<7)&&decide (bc<7))=true then pure (.done (none,na-1,nb,out.push x,mg,ac,bc))else pure (.yield (none,na-1,nb,out.push x,mg,ac,bc))
def vc(a b:Array Keyed)(na nb:Nat)(out:Array Keyed)(mg ac bc:Nat):StateT SortSt Sem (ForInStep HiC):=do
 let y ←elem' b (nb-1)
 if(nb-1==1)=true then pure (.done (some (vb a b (out.push y) na (nb-1)),na,nb-1,out.push y,mg,ac,bc))
 else do
  let x ←elem' a (na-1)
  let some k ←eS true x b 0 (nb-1) (nb-1-1)|pure (.done (some (gI a b (out.push y) na (nb-1)),na,nb-1,out.push y,mg,ac,bc))
  if nb-1-k>0 then
   if(k==1)=true then pure (.done (some (vb a b (out.push y++(b.extract k (nb-1)).reverse) na k),na,k,out.push y++(b.extract k (nb-1)).reverse,mg,ac,nb-1-k))
   else if(k==0)=true then pure (.done (some (gI a b (out.push y++(b.extract k (nb-1)).reverse) na k),na,k,out.push y++(b.extract k (nb-1)).reverse,mg,ac,nb-1-k))
   else vd a b na k (out.push y++(b.extract k (nb-1)).reverse) mg ac (nb-1-k)
  else vd a b na (nb-1) (out.push y) mg ac (nb-1-k)
def Dc(a b:Array Keyed)(na nb:Nat)(out:Array Keyed)(mg ac bc:Nat):StateT SortSt Sem (ForInStep HiC):=do
 jG mg
 let y ←elem' b (nb-1)
 let some k ←eS false y a 0 na (na-1)|pure (.done (some (gI a b out na nb),na,nb,out,mg,ac,bc))
 if na-k>0 then
  if(k==0)=true then pure (.done (some (gI a b (out++(a.extract k na).reverse) k nb),k,nb,out++(a.extract k na).reverse,mg,na-k,bc))
  else vc a b k nb (out++(a.extract k na).reverse) mg (na-k) bc
 else vc a b na nb out mg (na-k) bc
section
variable{prog:Program}{w:World}{A:Around}{E:Value->Shared->Prop}{s:Shared}{κ:SortKind}{it:Array Keyed}{lt:Nat->Nat->Bool}{N:Nat}{st:SortSt}{a b:Array Nat}
def HiI(lt:Nat->Nat->Bool)(f:Nat->Keyed)(a b:Array Nat)(n:Nat)(c:HiC):Prop:=∃na nb out mg ac bc,c=(none,na,nb,out,mg,ac,bc)/\HiM lt f a b out na nb/\1<=na/\na<=a.size/\2<=nb/\nb<=b.size/\na+nb<=n
def HiQ(lt:Nat->Nat->Bool)(f:Nat->Keyed)(a b:Array Nat)(st:SortSt)(n:Nat)(r:ForInStep HiC)(st':SortSt):Prop:=SG' st st'/\match r with
 |.done c=>(∃r d,c=(some r,d)/\Gd lt f a b r)\/HiI lt f a b n c
 |.yield c=>HiI lt f a b n c
theorem yY(O:LtOk lt)(M:MF lt N a b){out:Array Keyed}{na nb mg ac bc n:Nat}{st0:SortSt}(g:SG' st0 st)(l:HiM lt (kas_item it) a b out na nb)(h1:1<=na)(h1':na<=a.size)(h2:2<=nb)(h2':nb<=b.size)(hn:na+nb<=n)(hw:lt (gA b (nb-1)) (gA a (na-1))=true) :
  wpS (model prog w) A E s (vd (a.map (kas_item it)) (b.map (kas_item it)) na nb out mg ac bc) (HiQ lt (kas_item it) a b st0 n) st:=by
 unfold vd gI;refine Zi (bq (by omega) ?_);have l3:=l.pushA M O (by omega) h1' (by omega) h2' hw;refine aD (fun e=>?_) fun e=>aD (fun _=>?_) fun _=>?_
 ·exact Zm ⟨g,.inl ⟨_,_,rfl,l3.done M (.inl (by simpa using e))⟩⟩
 ·have e':na-1≠0:=by simpa using e
  exact Zm ⟨g,.inr ⟨_,_,_,_,_,_,rfl,l3,by omega,by omega,h2,h2',by omega⟩⟩
 ·have e':na-1≠0:=by simpa using e
  exact Zm ⟨g,⟨_,_,_,_,_,_,rfl,l3,by omega,by omega,h2,h2',by omega⟩⟩
theorem yX(Z:Zc prog w A s κ it lt N)(O:LtOk lt)(M:MF lt N a b){out:Array Keyed}{na nb mg ac bc n:Nat}{st0:SortSt}(hk:kindOf st0=κ)(g:SG' st0 st)(l:HiM lt (kas_item it) a b out na nb)(h1:1<=na)(h1':na<=a.size)(h2:2<=nb)(h2':nb<=b.size)(hn:na+nb<=n)(hw:lt (gA b (nb-1)) (gA a (na-1))=false) :
  wpS (model prog w) A E s (vc (a.map (kas_item it)) (b.map (kas_item it)) na nb out mg ac bc) (HiQ lt (kas_item it) a b st0 n) st:=by
 unfold vc gI vb;refine Zi (bq (by omega) ?_);have l3:=l.pushB M O (by omega) h1' (by omega) h2' hw;refine aD (fun e=>?_) fun e=>?_
 ·exact Zm ⟨g,.inl ⟨_,_,rfl,l3.first M O (by simpa using e)⟩⟩
 have e':nb-1≠1:=by simpa using e
 have z0:∀i,0+i=i:=fun i=>by omega
 refine Zi (bq (by omega) (Zi (kh Z (g.kind hk) (M.na _ (by omega)) (by omega) (fun i _ _=>M.nb i (by omega)) (by omega) (fun i j h3 h4 h5=>?_) fun k hk1 hk2 hk3=>?_)))
 ·rw[z0]at h5 ⊢;exact M.leB O (by omega) (by omega) h5
 have hk3':∀i,k<=i->i<nb-1->lt (gA b i) (gA a (na-1))=false:=fun i x y=>by have:=hk3 i x y;rw[z0]at this;exact this
 have hk2':∀i,i<k->lt (gA b i) (gA a (na-1))=true:=fun i x=>by have:=hk2 i x;rw[z0]at this;exact this
 refine aD (fun hp=>aD (fun e=>?_) fun e=>aD (fun e2=>?_) fun e2=>?_) fun hp=>?_
 ·have l4:=l3.chunkB M O k (by omega) h1' (by omega) (by omega) hk3';exact Zm ⟨g,.inl ⟨_,_,rfl,l4.first M O (by simpa using e)⟩⟩
 ·have l4:=l3.chunkB M O k (by omega) h1' (by omega) (by omega) hk3';exact Zm ⟨g,.inl ⟨_,_,rfl,l4.done M (.inr (by simpa using e2))⟩⟩
 ·have l4:=l3.chunkB M O k (by omega) h1' (by omega) (by omega) hk3';have q1:k≠1:=by simpa using e
  have q2:k≠0:=by simpa using e2
  exact yY O M g l4 h1 h1' (by omega) (by omega) (by omega) (hk2' (k-1) (by omega))
 ·have e3:k=nb-1:=by omega
  exact yY O M g l3 h1 h1' (by omega) (by omega) (by omega) (hk2' (nb-1-1) (by omega))
theorem yW(Z:Zc prog w A s κ it lt N)(O:LtOk lt)(M:MF lt N a b){out:Array Keyed}{na nb mg ac bc n:Nat}{st0:SortSt}(hk:kindOf st0=κ)(g:SG' st0 st)(l:HiM lt (kas_item it) a b out na nb)(h1:1<=na)(h1':na<=a.size)(h2:2<=nb)(h2':nb<=b.size)(hn:na+nb<=n) :
  wpS (model prog w) A E s (Dc (a.map (kas_item it)) (b.map (kas_item it)) na nb out mg ac bc) (HiQ lt (kas_item it) a b st0 n) st:=by
 unfold Dc gI;have z0:∀i,0+i=i:=fun i=>by omega
 have tf:∀{x y:Nat},zB lt false x y=true->lt x y=false:=fun{x y} z=>by have z':(!lt x y)=true:=z;simpa using z'
 have ft:∀{x y:Nat},zB lt false x y=false->lt x y=true:=fun{x y} z=>by have z':(!lt x y)=false:=z;simpa using z'
 refine Zi (qo (Zi (bq (by omega) (Zi (kh Z ((g.set _).kind hk) (M.nb _ (by omega)) (by omega) (fun i _ _=>M.na i (by omega)) (by omega) (fun i j h3 h4 h5=>?_) fun k hk1 hk2 hk3=>?_)))))
 ·rw[z0]at h5 ⊢;have z:=tf h5;show(!lt (gA b (nb-1)) (gA a i))=true;cases e:lt (gA b (nb-1)) (gA a i)with
  |false=>rfl
  |true=>rw[M.leA O h3 (by omega) e]at z;cases z
 have hk3':∀i,k<=i->i<na->lt (gA b (nb-1)) (gA a i)=true:=fun i x y=>by have:=ft (hk3 i x y);rw[z0]at this;exact this
 have hk2':∀i,i<k->lt (gA b (nb-1)) (gA a i)=false:=fun i x=>by have:=tf (hk2 i x);rw[z0]at this;exact this
 refine aD (fun hp=>aD (fun e=>?_) fun e=>?_) fun hp=>?_
 ·have l4:=l.chunkA M O k (by omega) h1' (by omega) h2' hk3';exact Zm ⟨g.set _,.inl ⟨_,_,rfl,l4.done M (.inl (by simpa using e))⟩⟩
 ·have l4:=l.chunkA M O k (by omega) h1' (by omega) h2' hk3';have q1:k≠0:=by simpa using e
  exact yX Z O M hk (g.set _) l4 (by omega) (by omega) h2 h2' (by omega) (hk2' (k-1) (by omega))
 ·have e3:k=na:=by omega
  exact yX Z O M hk (g.set _) l h1 h1' h2 h2' hn (hk2' (na-1) (by omega))
theorem Gg(Z:Zc prog w A s κ it lt N)(O:LtOk lt)(M:MF lt N a b){Q:Array Keyed->SortSt->Prop}(hk:kindOf st=κ)(h:∀r st',Gd lt (kas_item it) a b r->SG' st st'->Q r st'):wpS (model prog w) A E s (zHi (a.map (kas_item it)) (b.map (kas_item it))) Q st:=by
 have a0:=M.a0;have b0:=M.b0;have za:(a.map (kas_item it)).size=a.size:=YH ..;have zb:(b.map (kas_item it)).size=b.size:=YH ..;rw[ET];refine Zi (wpS_lift (YL ⟨rfl,?_⟩));rw[za,zb];refine Zi (bq (by omega) ?_);have l0:=HiM.start (f:=kas_item it) M O;refine aD (fun e1=>?_) fun e1=>aD (fun e2=>?_) fun e2=>?_
 ·exact Zm (h _ _ (l0.done M (.inl (by simpa using e1))) .refl)
 ·exact Zm (h _ _ (l0.first M O (by simpa using e2)) .refl)
 have e1':a.size-1≠0:=by simpa using e1
 have e2':b.size≠1:=by simpa using e2
 refine Zi (wpS_get ?_);refine Zi (Yq (Yg (I:=fun x c st'=>SG' st st'/\∃ na nb out mg,c=(none,na,nb,out,mg)/\HiM lt (kas_item it) a b out na nb/\1<=na/\na<=a.size/\2<=nb/\nb<=b.size/\na+nb+x<=a.size+b.size)
  (Q:=fun c st'=>SG' st st'/\∃ r d,c=(some r,d)/\Gd lt (kas_item it) a b r) ?step ?fin ⟨.refl,_,_,_,_,rfl,l0,by omega,by omega,by omega,by omega,by omega⟩) ?post)
 case fin =>rintro c st' ⟨_,na,nb,out,mg,rfl,_,h1,h1',h2,h2',h3⟩;omega
 case post =>rintro c st' ⟨g,r,d,rfl,hr⟩;exact Zm (h r st' hr g)
 case step =>
  rintro x c st1 _ hx ⟨g,na,nb,out,mg,rfl,l1,h1,h1',h2,h2',h3⟩;refine Zi (Yq (Yg (I:=fun y c st'=>st'=st1/\∃ na' nb' out ac bc,c=(none,na',nb',out,ac,bc)/\HiM lt (kas_item it) a b out na' nb'/\1<=na'/\na'<=a.size/\2<=nb'/\nb'<=b.size/\na'+nb'+y<=na+nb)
   (Q:=fun c st'=>st'=st1/\((∃ r d,c=(some r,d)/\Gd lt (kas_item it) a b r)\/∃ na' nb' out ac bc,c=(none,na',nb',out,ac,bc)/\HiM lt (kas_item it) a b out na' nb'/\1<=na'/\na'<=a.size/\2<=nb'/\nb'<=b.size/\na'+nb'+1<=na+nb)) ?step1 ?fin1 ⟨rfl,na,nb,out,0,0,rfl,l1,h1,h1',h2,h2',by omega⟩) ?post1)
  case fin1 =>rintro c st' ⟨rfl,na',nb',out,ac,bc,rfl,l2,g1,g1',g2,g2',g3⟩;exact⟨rfl,.inr ⟨na',nb',out,ac,bc,rfl,l2,g1,g1',g2,g2',by omega⟩⟩
  case step1 =>
   rintro y c st' _ hy ⟨rfl,na',nb',out,ac,bc,rfl,l2,g1,g1',g2,g2',g3⟩;dsimp only;refine Zi (bq (by omega) (Zi (bq (by omega) (Zi (sf Z (g.kind hk) (M.nb _ (by omega)) (M.na _ (by omega)) ?_)))));cases ew:lt (gA b (nb'-1)) (gA a (na'-1))with
   |true =>
    refine aD (fun _=>?_) (fun z=>absurd rfl z);refine Zi (bq (by omega) ?_);have l3:=l2.pushA M O (by omega) g1' (by omega) g2' ew;refine aD (fun e=>?_) fun e=>aD (fun _=>?_) fun _=>?_
    ·exact Zm ⟨rfl,.inl ⟨_,_,rfl,l3.done M (.inl (by simpa using e))⟩⟩
    ·have e':na'-1≠0:=by simpa using e
     exact Zm ⟨rfl,.inr ⟨_,_,_,_,_,rfl,l3,by omega,by omega,g2,g2',by omega⟩⟩
    ·have e':na'-1≠0:=by simpa using e
     exact Zm ⟨rfl,_,_,_,_,_,rfl,l3,by omega,by omega,g2,g2',by omega⟩
   |false =>
    refine aD (fun z=>absurd z (by simp)) fun _=>?_;refine Zi (bq (by omega) ?_);have l3:=l2.pushB M O (by omega) g1' (by omega) g2' ew;refine aD (fun e=>?_) fun e=>aD (fun _=>?_) fun _=>?_
    ·exact Zm ⟨rfl,.inl ⟨_,_,rfl,l3.first M O (by simpa using e)⟩⟩
    ·have e':nb'-1≠1:=by simpa using e
     exact Zm ⟨rfl,.inr ⟨_,_,_,_,_,rfl,l3,g1,g1',by omega,by omega,by omega⟩⟩
    ·have e':nb'-1≠1:=by simpa using e
     exact Zm ⟨rfl,_,_,_,_,_,rfl,l3,g1,g1',by omega,by omega,by omega⟩
  case post1 =>
   rintro c st' ⟨rfl,⟨r,d,rfl,hr⟩|⟨na',nb',out,ac,bc,rfl,l2,g1,g1',g2,g2',g3⟩⟩
   ·exact Zm ⟨g,r,_,rfl,hr⟩
   refine Zi (wpS_lift (YL ⟨rfl,?_⟩));refine Zi (Yq (Yg (I:=fun y c st'=>SG' st st'/\HiI lt (kas_item it) a b (na'+nb') c)
    (Q:=fun c st'=>SG' st st'/\((∃ r d,c=(some r,d)/\Gd lt (kas_item it) a b r)\/HiI lt (kas_item it) a b (na'+nb') c)) ?step2 ?fin2 ⟨g,_,_,_,_,_,_,rfl,l2,g1,g1',g2,g2',Zb _⟩) ?post2)
   case fin2 =>rintro c st2 ⟨gg,hh⟩;exact⟨gg,.inr hh⟩
   case post2 =>
    rintro c st2 ⟨gg,⟨r,d,rfl,hr⟩|⟨na1,nb1,out,mg,ac,bc,rfl,l3,k1,k1',k2,k2',k3⟩⟩
    ·exact Zm ⟨gg,r,_,rfl,hr⟩
    ·exact Zi (qo (Zm ⟨gg.set _,na1,nb1,out,_,rfl,l3,k1,k1',k2,k2',by omega⟩))
   case step2 =>
    rintro y c st2 _ hy ⟨gg,na1,nb1,out,mg,ac,bc,rfl,l3,k1,k1',k2,k2',k3⟩;dsimp only;refine aD (fun _=>?_) fun _=>?_
    ·exact Yq (yW (n:=na'+nb') (mg:=mg-1) (ac:=ac) (bc:=bc) Z O M hk gg l3 k1 k1' k2 k2' k3) fun r st3 hr=>by
      cases r with
      |done c=>exact hr
      |yield c=>exact hr
    ·exact Yq (yW (n:=na'+nb') (mg:=mg) (ac:=ac) (bc:=bc) Z O M hk gg l3 k1 k1' k2 k2' k3) fun r st3 hr=>by
      cases r with
      |done c=>exact hr
      |yield c=>exact hr
end
open PySem PyProof.Rows PySem.W
theorem ux(at0:Nat):∀(l:List Keyed) (n:Nat) (ar:Array Keyed),at0+n+l.length<=ar.size->((l.zipIdx n).foldl (fun a (p,j)=>a.setIfInBounds (at0+j) p) ar).toList=ar.toList.take (at0+n)++(l++ar.toList.drop (at0+n+l.length))
 | [],n,ar,_=>by rw[List.nil_append,List.length_nil,Nat.add_zero,Z5];rfl
 |x::l,n,ar,h=>by
  rw[Zq]at h;rw[List.zipIdx_cons,List.foldl_cons];have hs:(ar.setIfInBounds (at0+n) x).size=ar.size:=Array.size_setIfInBounds;have ih:=ux at0 l (n+1) (ar.setIfInBounds (at0+n) x) (by omega);rw[ih,Array.toList_setIfInBounds];have hl:at0+n<ar.toList.length:=by rw[Zl];omega
  have e1:(ar.toList.set (at0+n) x).take (at0+(n+1))=ar.toList.take (at0+n)++[x]:=by rw[show at0+(n+1)=at0+n+1 by omega,List.take_add_one,List.take_set_of_le (Zb _)];rw[List.getElem?_set_self hl];rfl
  have e2:(ar.toList.set (at0+n) x).drop (at0+(n+1)+l.length)=ar.toList.drop (at0+n+(x::l).length):=by rw[List.drop_set_of_lt (by omega),Zq];congr 1;omega
  rw[e1,e2,ZC];rfl
theorem CL{f:Nat->Keyed}{p q:Array Nat}{at0:Nat}(h:at0+q.size<=p.size):∃p':Array Nat,lE (p.map f) at0 (q.map f)=p'.map f/\p'.toList=p.toList.take at0++(q.toList++p.toList.drop (at0+q.size)):=by refine⟨(p.toList.take at0++(q.toList++p.toList.drop (at0+q.size))).toArray,?_,by simp⟩;apply Array.toList_inj.mp;have e:=ux at0 (q.map f).toList 0 (p.map f) (by simpa using h);unfold lE;rw[e];simp
section
variable{prog:Program}{w:World}{A:Around}{E:Value->Shared->Prop}{s:Shared}{κ:SortKind}{it:Array Keyed}{lt:Nat->Nat->Bool}{N:Nat}{st:SortSt}{a b:Array Nat}
theorem tL{l:List Nat}(h:l.Pairwise (Lx lt)){i j:Nat}(hij:i<j)(hj:j<l.length):Lx lt (l.getD i 0) (l.getD j 0):=by rw[ZG]at h;have:=h i j (by omega) hj hij;rw[Zf,Zf,Ze (show i<l.length by omega),Ze hj];exact this
theorem cG{l:List Nat}{i:Nat}(h:i<l.length):l.getD i 0∈l:=by rw[Zf,Ze h];exact ZI h
theorem qS{l:List Nat}{x:Nat}(h:x∈l):∃i,i<l.length/\l.getD i 0=x:=by obtain⟨i,hi,e⟩:=ZS.mp h;refine⟨i,hi,?_⟩;rw[Zf,Ze hi];exact e
theorem qJ(O:LtOk lt){l:List Nat}(h:l.Pairwise (Lx lt)){i j:Nat}(hij:i<=j)(hj:j<l.length){x:Nat}(hx:lt x (l.getD i 0)=true):lt x (l.getD j 0)=true:=by
 rcases Z8 i j with h1|h1
 ·exact O.lt_le hx (tL h h1 hj).1
 ·have e:i=j:=by omega
  rw[<-e];exact hx
theorem qK(O:LtOk lt){l:List Nat}(h:l.Pairwise (Lx lt)){i j:Nat}(hij:i<=j)(hj:j<l.length){x:Nat}(hx:lt (l.getD j 0) x=true):lt (l.getD i 0) x=true:=by
 rcases Z8 i j with h1|h1
 ·exact O.le_lt (tL h h1 hj).1 hx
 ·have e:i=j:=by omega
  rw[e];exact hx
theorem Gf(Z:Zc prog w A s κ it lt N)(O:LtOk lt){p:Array Nat}{pre X Y post:List Nat}{i pw pw2:Nat}{Q:Bool->SortSt->Prop}(hk:kindOf st=κ)(hf:failedOf st=none)(ha:arrOf st=p.map (kas_item it))(hp:p.toList=pre++(X++(Y++post)))(hX:X.Pairwise (Lx lt))(hY:Y.Pairwise (Lx lt))(hX0:0<X.length)(hY0:0<Y.length)(hXY:∀ x∈X,∀ y∈Y,x<y)(hN:∀ x∈p.toList,x<N)(h1:(pendingOf st)[i]? = some (pre.length,X.length,pw))(h2:(pendingOf st)[i+1]? = some (pre.length+X.length,Y.length,pw2))(h:∀ (st':SortSt) (p':Array Nat) (W:List Nat),kindOf st'=κ->failedOf st'=none->arrOf st'=p'.map (kas_item it)->p'.toList=pre++(W++post)->W.Pairwise (Lx lt)->W.Perm (X++Y) ->
   pendingOf st'=((pendingOf st).setIfInBounds i (pre.length,X.length+Y.length,pw)).eraseIdxIfInBounds (i+1)->Q true st'):wpS (model prog w) A E s (mergeAt' i) Q st:=by
 have psz:p.size=pre.length+(X.length+(Y.length+post.length)):=by rw[<-Zl,hp];simp
 have gX:∀i,i<X.length->gA p (pre.length+i)=X.getD i 0:=fun i hi=>by rw[aI,hp,Zf,Zf,ZY (by omega),Z9,Ys hi]
 have gY:∀i,i<Y.length->gA p (pre.length+X.length+i)=Y.getD i 0:=fun i hi=>by rw[aI,hp,Zf,Zf,ZY (by omega),show pre.length+X.length+i-pre.length=X.length+i by omega,ZY (by omega),Z9,Ys hi]
 have nX:∀x∈X,x<N:=fun x hx=>hN x (by rw[hp];simp[hx]);have nY:∀x∈Y,x<N:=fun x hx=>hN x (by rw[hp];simp[hx]);have tf:∀{x y:Nat},zB lt false x y=true->lt x y=false:=fun{x y} z=>by have z':(!lt x y)=true:=z;simpa using z'
 have ft:∀{x y:Nat},zB lt false x y=false->lt x y=true:=fun{x y} z=>by have z':(!lt x y)=false:=z;simpa using z'
 rw[ES];refine Zi (wpS_get ?_);rw[h1,h2];have hset:∀{st2:SortSt} {Q:PUnit->SortSt->Prop},Q ⟨⟩ st2->wpS (model prog w) A E s (set st2:StateT SortSt Sem PUnit) Q st:=fun{st2 Q} hq=>by have e:(set st2:StateT SortSt Sem PUnit)=modify fun _=>st2:=rfl;rw[e];exact wpS_modify hq
 refine Zi (hset ?_);rw[ha];refine Zi (bq (by omega) ?_);have eY:gA p (pre.length+X.length)=Y.getD 0 0:=gY 0 hY0;rw[eY];refine Zi (kh Z hk (nY _ (cG hY0)) (by omega) (fun i h3 h4=>?_) hX0 (fun i j h3 h4 h5=>?_) fun k hk1 hk2 hk3=>?_)
 ·obtain⟨d,rfl⟩:∃d,i=pre.length+d:=⟨i-pre.length,by omega⟩
  rw[gX d (by omega)];exact nX _ (cG (by omega))
 ·rw[gX _ (by omega)]at h5 ⊢;have z:=tf h5;show(!lt (Y.getD 0 0) (X.getD i 0))=true;cases e:lt (Y.getD 0 0) (X.getD i 0)with
  |false=>rfl
  |true=>rw[qJ O hX h3 h4 e]at z;cases z
 have k2:∀i,i<k->lt (Y.getD 0 0) (X.getD i 0)=false:=fun i hi=>by have:=tf (hk2 i hi);rw[gX i (by omega)]at this;exact this
 have k3:∀i,k<=i->i<X.length->lt (Y.getD 0 0) (X.getD i 0)=true:=fun i hi hi2=>by have:=ft (hk3 i hi hi2);rw[gX i (by omega)]at this;exact this
 have low:∀x∈X.take k,∀y∈Y,Lx lt x y:=fun x hx y hy=>by
  have hm:=List.mem_of_mem_take hx;obtain⟨i,i1,i2,rfl⟩:=jS hx;obtain⟨j,j1,rfl⟩:=qS hy;refine⟨?_,.inr (hXY _ hm _ hy)⟩;cases e:lt (Y.getD j 0) (X.getD i 0)with
  |false=>rfl
  |true=>rw[<-k2 i i1];exact(qK O hY (ZV j) j1 e).symm
 refine aD (fun e0=>?_) fun e0=>?_
 ·have e0':X.length-k=0:=by simpa using e0
  refine Zm (h _ p (X++Y) hk hf ha (by rw[hp,ZC]) (ZT.mpr ⟨hX,hY,fun x hx y hy=>?_⟩) (List.Perm.refl _) rfl);exact low x (by rw[Yd (by omega)];exact hx) y hy
 have e0':X.length-k≠0:=by simpa using e0
 refine Zi (bq (by omega) ?_);have eXl:gA p (pre.length+k+(X.length-k)-1)=X.getD (X.length-1) 0:=by rw[show pre.length+k+(X.length-k)-1=pre.length+(X.length-1) by omega];exact gX _ (by omega)
 rw[eXl];refine Zi (kh Z hk (nX _ (cG (by omega))) (by omega) (fun i h3 h4=>?_) (by omega) (fun i j h3 h4 h5=>?_) fun c hc1 hc2 hc3=>?_)
 ·obtain⟨d,rfl⟩:∃d,i=pre.length+X.length+d:=⟨i-(pre.length+X.length),by omega⟩
  rw[gY d (by omega)];exact nY _ (cG (by omega))
 ·rw[gY _ (by omega)]at h5 ⊢;exact qK O hY h3 h4 h5
 have c2:∀i,i<c->lt (Y.getD i 0) (X.getD (X.length-1) 0)=true:=fun i hi=>by have:=hc2 i hi;rw[gY i (by omega)]at this;exact this
 have c3:∀i,c<=i->i<Y.length->lt (Y.getD i 0) (X.getD (X.length-1) 0)=false:=fun i hi hi2=>by have:=hc3 i hi hi2;rw[gY i (by omega)]at this;exact this
 refine aD (fun e1=>?_) fun e1=>?_
 ·have e1':c=0:=by simpa using e1
  have z1:=c3 0 (by omega) hY0;rw[k3 (X.length-1) (by omega) (by omega)]at z1;cases z1
 have e1':c≠0:=by simpa using e1
 have la:(p.extract (pre.length+k) (pre.length+X.length)).toList=X.drop k:=by rw[ny,hp,List.take_append,Yd (by omega),Z9,List.take_left,List.drop_append,Y6 (by omega),List.nil_append,Z9]
 have lb:(p.extract (pre.length+X.length) (pre.length+X.length+c)).toList=Y.take c:=by rw[iq,hp,<-ZC,List.drop_append,Y6 (by simp),List.nil_append,Zj,Nat.sub_self,List.drop_zero,List.take_append,show c-Y.length=0 by omega,List.take_zero,Z6]
 have sza:(p.extract (pre.length+k) (pre.length+X.length)).size=X.length-k:=by rw[<-Zl,la,Yo]
 have szb:(p.extract (pre.length+X.length) (pre.length+X.length+c)).size=c:=by rw[<-Zl,lb,Z0];omega
 have ga:∀i,gA (p.extract (pre.length+k) (pre.length+X.length)) i=X.getD (k+i) 0:=fun i=>by rw[aI,la,Zf,Zf,List.getElem?_drop]
 have gb:∀i,i<c->gA (p.extract (pre.length+X.length) (pre.length+X.length+c)) i=Y.getD i 0:=fun i hi=>by rw[aI,lb,Zf,Zf,List.getElem?_take,HK hi]
 have M:MF lt N (p.extract (pre.length+k) (pre.length+X.length)) (p.extract (pre.length+X.length) (pre.length+X.length+c)):=by
  refine⟨vI (by rw[la];exact hX.sublist (YC _ _)),vI (by rw[lb];exact hY.sublist (ZO _ _)),fun i j hi hj e=>?_,fun i hi=>?_,fun i hi=>?_,by omega,by omega,?_,fun j hj=>?_⟩
  ·rw[ga,gb j (by omega)]at e ⊢;exact⟨e,.inr (hXY _ (cG (by omega)) _ (cG (by omega)))⟩
  ·rw[ga];exact nX _ (cG (by omega))
  ·rw[gb i (by omega)];exact nY _ (cG (by omega))
  ·rw[ga,gb 0 (by omega)];exact k3 _ (by omega) (by omega)
  ·rw[ga,gb j (by omega),sza,show k+(X.length-k-1)=X.length-1 by omega];exact c2 j (by omega)
 have fin:∀(r:Array Keyed) (st2 st3:SortSt),Gd lt (kas_item it) (p.extract (pre.length+k) (pre.length+X.length)) (p.extract (pre.length+X.length) (pre.length+X.length+c)) r->kindOf st2=κ->failedOf st2=none->arrOf st2=p.map (kas_item it)->pendingOf st2=((pendingOf st).setIfInBounds i (pre.length,X.length+Y.length,pw)).eraseIdxIfInBounds (i+1)->SG' st2 st3 ->
   wpS (model prog w) A E s (do
    modify fun st=>setArr st (lE (arrOf st) (pre.length+k) r)
    return (failedOf (←get)).isNone) Q st3:=fun r st2 st3 ⟨q,eq,qs,qp⟩ j1 j2 j3 j4 ⟨g,eg⟩=>by
  subst eg;subst eq;rw[la,lb]at qp;have ql:q.size=X.length-k+c:=by have:=qp.length_eq;rw[Zj,Yo,Z0,Zl]at this;omega
  obtain⟨p',ep,lp⟩:=CL (f:=kas_item it) (p:=p) (q:=q) (at0:=pre.length+k) (by omega);have lp':p'.toList=pre++((X.take k++(q.toList++Y.drop c))++post):=by rw[lp,hp,List.take_append,Yd (by omega),Z9,List.take_append,show k-X.length=0 by omega,List.take_zero,Z6];rw[ZC,ZC,ZC];congr 2;congr 1;rw[ql,show pre.length+k+(X.length-k+c)=pre.length+X.length+c by omega,<-ZC,List.drop_append,Y6 (by simp),List.nil_append,Zj,Z9,List.drop_append,show c-Y.length=0 by omega,List.drop_zero]
  refine Zi (wpS_modify (Zi (wpS_get ?_)));have hcr:∀x∈X,∀y∈Y.drop c,Lx lt x y:=fun x hx y hy=>by
   have hm:=List.mem_of_mem_drop hy;obtain⟨j,d1,d2,rfl⟩:=jR hy;obtain⟨i,i1,rfl⟩:=qS hx;refine⟨?_,.inr (hXY _ hx _ hm)⟩;cases e:lt (Y.getD j 0) (X.getD i 0)with
   |false=>rfl
   |true=>rw[<-c3 j d1 d2];exact(qJ O hX (show i<=X.length-1 by omega) (by omega) e).symm
  have sX:=ZT.mp (show(X.take k++X.drop k).Pairwise (Lx lt) by rw[Z5];exact hX);have sY:=ZT.mp (show(Y.take c++Y.drop c).Pairwise (Lx lt) by rw[Z5];exact hY);have pwW:(X.take k++(q.toList++Y.drop c)).Pairwise (Lx lt):=by
   refine ZT.mpr ⟨sX.1,ZT.mpr ⟨qs,sY.2.1,fun x hx y hy=>?_⟩,fun x hx y hy=>?_⟩
   ·rcases ZK.mp (qp.mem_iff.mp hx)with hx|hx
    ·exact hcr x (List.mem_of_mem_drop hx) y hy
    ·exact sY.2.2 x hx y hy
   ·rcases ZK.mp hy with hy|hy
    ·rcases ZK.mp (qp.mem_iff.mp hy)with hy|hy
     ·exact sX.2.2 x hx y hy
     ·exact low x hx y (List.mem_of_mem_take hy)
    ·exact low x hx y (List.mem_of_mem_drop hy)
  have pmW:(X.take k++(q.toList++Y.drop c)).Perm (X++Y):=by refine((qp.append_right (Y.drop c)).append_left (X.take k)).trans ?_;rw[ZC,Z5,<-ZC,Z5]
  have ea:lE (arrOf (lA st2 g)) (pre.length+k) (q.map (kas_item it))=p'.map (kas_item it):=by show lE (arrOf st2) (pre.length+k) (q.map (kas_item it))=_;rw[j3];exact ep
  have eF:(failedOf (setArr (lA st2 g) (lE (arrOf (lA st2 g)) (pre.length+k) (q.map (kas_item it))))).isNone=true:=by show(failedOf st2).isNone=true;rw[j2];rfl
  rw[eF];exact Zm (h _ p' _ j1 j2 ea lp' pwW pmW j4)
 rw[bH,bH];refine aD (fun _=>?_) fun _=>?_
 ·exact Zi (Gh Z O M hk fun r st3 hr g=>fin r (setPending st (((pendingOf st).setIfInBounds i (pre.length,X.length+Y.length,pw)).eraseIdxIfInBounds (i+1))) st3 hr hk hf ha rfl g)
 ·exact Zi (Gg Z O M hk fun r st3 hr g=>fin r (setPending st (((pendingOf st).setIfInBounds i (pre.length,X.length+Y.length,pw)).eraseIdxIfInBounds (i+1))) st3 hr hk hf ha rfl g)
end
open PySem PyProof.Rows PySem.W
theorem KW.unbind{α β:Type}{lt:Nat->Nat->Bool}{Q:β->Prop}{f:α->KasT β}:∀{t:KasT α},KW lt Q (t.bind f)->KW lt (fun a=>KW lt Q (f a)) t
 |.ret _,h=>h
 |.ask i j k,h=>KW.unbind (t:=k (lt i j)) h
def pj(pre u:Array Nat):Array Nat:=pre++u.map (pre.size+·)
theorem jW(pre u:Array Nat):(pj pre u).size=pre.size+u.size:=by simp[pj]
theorem fb(pre u:Array Nat)(k:Nat):(pj pre u)[k]?=if k<pre.size then pre[k]? else(u[k-pre.size]?).map (pre.size+·):=by
 unfold pj;rw[Array.getElem?_append];split
 ·rfl
 ·rw[Array.getElem?_map]
theorem Bg{pre u:Array Nat}{k:Nat}(hk:k<u.size):gA (pj pre u) (pre.size+k)=pre.size+gA u k:=by rw[gG,gG,fb,HH (by omega),Z9];simp[hk]
theorem D8{pre u:Array Nat}{i j:Nat}(hj:j<=u.size):kas_rev (pj pre u) (pre.size+i) (pre.size+j)=pj pre (kas_rev u i j):=by
 apply Array.ext_getElem?;intro k;unfold kas_rev;rw[getElem?_mirror_all (by rw[jW];omega),fb,fb,fb,getElem?_mirror_all hj];by_cases h0:k<pre.size
 ·rw[HH (by omega),HK h0,HK h0]
 ·rw[HH h0,HH h0];by_cases h1:i<=k-pre.size/\k-pre.size<j
  ·rw[HK (by omega),HH (by omega),HK h1];congr 2;omega
  ·rw[HH (by omega),HH h1]
theorem D7{pre u:Array Nat}{k d:Nat}(hk:k<u.size)(hd:d<=k):bubble (pj pre u) (pre.size+k) d=pj pre (bubble u k d):=by
 apply Array.ext_getElem?;intro i;rw[getElem?_bubble (by rw[jW];omega) d (by omega),fb,fb,fb,fb,getElem?_bubble hk d hd];by_cases h0:i<pre.size
 ·rw[HH (by omega),HH (by omega),HK h0,HK h0]
 ·rw[HH h0,HH h0];by_cases h1:i-pre.size=k-d
  ·rw[HK (by omega),HK h1,HH (by omega),Z9]
  ·rw[HH (by omega),HH h1];by_cases h2:k-d<i-pre.size/\i-pre.size<=k
   ·rw[HK (by omega),HK h2,HH (by omega)];congr 2;omega
   ·rw[HH (by omega),HH h2]
section
variable{prog:Program}{w:World}{A:Around}{E:Value->Shared->Prop}{s:Shared}{κ:SortKind}{it:Array Keyed}{lt:Nat->Nat->Bool}{N:Nat}{st:SortSt}{pre u:Array Nat}
def stQ(it:Array Keyed)(st:SortSt)(q:Array Nat):SortSt:=setArr st (q.map (kas_item it))
structure Zp(prog:Program)(w:World)(A:Around)(s:Shared)(κ:SortKind)(it:Array Keyed)(lt:Nat->Nat->Bool)(N:Nat)(st:SortSt)(pre:Array Nat)(n:Nat):Prop where
 Z:Zc prog w A s κ it lt N
 hk:kindOf st=κ
 hN:pre.size+n=N
 n0:0<n
def ltS(lt:Nat->Nat->Bool)(lo:Nat):Nat->Nat->Bool:=fun i j=>lt (lo+i) (lo+j)
theorem mU{n:Nat}(P:Zp prog w A s κ it lt N st pre n)(hu:POk n u){i j:Nat}(hi:i<n)(hj:j<n){Q:Option Bool->SortSt->Prop}(h:Q (some (ltS lt pre.size (gA u i) (gA u j))) (stQ it st (pj pre u))):wpS (model prog w) A E s (ltAt' (pre.size+i) (pre.size+j)) Q (stQ it st (pj pre u)):=by
 have hz:u.size=n:=by have:=hu.size_eq;simpa using this
 have hN:=P.hN;rw[ltAt'_eq];refine Zi (wpS_get ?_);have ea:arrOf (stQ it st (pj pre u))=(pj pre u).map (kas_item it):=rfl;rw[ea];refine Zi (bq (by rw[jW];omega) (Zi (bq (by rw[jW];omega) ?_)));rw[Bg (by omega),Bg (by omega)];have b1:=hu.lt P.n0 i;have b2:=hu.lt P.n0 j;exact sf P.Z P.hk (by unfold gA;omega) (by unfold gA;omega) h
theorem qm{n:Nat}(hu:POk n u){i j:Nat}(hj:j<=n){Q:Unit->SortSt->Prop}(h:Q () (stQ it st (pj pre (kas_rev u i j)))):wpS (model prog w) A E s (reverseSlice' (pre.size+i) (pre.size+j)) Q (stQ it st (pj pre u)):=by
 have hz:u.size=n:=by have:=hu.size_eq;simpa using this
 rw[reverseSlice'_eq];refine wpS_modify ?_;have e1:mirror ((pj pre u).map (kas_item it)) (pre.size+i) (pre.size+j) ((pre.size+j-(pre.size+i)) / 2)=(kas_rev (pj pre u) (pre.size+i) (pre.size+j)).map (kas_item it):=kas_swaps_map (kas_item it) (fun k=>pre.size+i+k) (fun k=>pre.size+j-1-k) _ (pj pre u);have e2:setArr (stQ it st (pj pre u)) (mirror (arrOf (stQ it st (pj pre u))) (pre.size+i) (pre.size+j) ((pre.size+j-(pre.size+i)) / 2))=stQ it st (pj pre (kas_rev u i j)):=by show setArr st (mirror ((pj pre u).map (kas_item it)) (pre.size+i) (pre.size+j) ((pre.size+j-(pre.size+i)) / 2))=setArr st ((pj pre (kas_rev u i j)).map (kas_item it));rw[e1,D8 (by omega)]
 rw[e2];exact h
theorem FP{n:Nat}(hu:POk n u){k l:Nat}(hk:k<n){Q:Unit->SortSt->Prop}(h:Q () (stQ it st (pj pre (bubble u k (k-l))))):wpS (model prog w) A E s (moveDown' (pre.size+k) (pre.size+l)) Q (stQ it st (pj pre u)):=by
 have hz:u.size=n:=by have:=hu.size_eq;simpa using this
 rw[moveDown'_eq];refine wpS_modify ?_;have e1:bubble ((pj pre u).map (kas_item it)) (pre.size+k) (pre.size+k-(pre.size+l))=(bubble (pj pre u) (pre.size+k) (pre.size+k-(pre.size+l))).map (kas_item it):=kas_swaps_map (kas_item it) (fun i=>pre.size+k-i) (fun i=>pre.size+k-i-1) _ (pj pre u);have e2:setArr (stQ it st (pj pre u)) (bubble (arrOf (stQ it st (pj pre u))) (pre.size+k) (pre.size+k-(pre.size+l)))=stQ it st (pj pre (bubble u k (k-l))):=by show setArr st (bubble ((pj pre u).map (kas_item it)) (pre.size+k) (pre.size+k-(pre.size+l)))=setArr st ((pj pre (bubble u k (k-l))).map (kas_item it));rw[e1,show pre.size+k-(pre.size+l)=k-l by omega,D7 (by omega) (by omega)]
 rw[e2];exact h
def pX(lo m nr:Nat):StateT SortSt Sem (Option Nat):=do
 reverseSlice' lo (lo+m)
 let mut m:=m
 for _ in[m:nr]do
  let some sm ←ltAt' (lo+m) (lo+m-1)|return none
  if sm then break
  m:=m+1
 return some m
def A5(lo m nr:Nat):StateT SortSt Sem (Option Nat):=do
 liftM (rule "list.sort.descending-run");let mut m:=m+1;let mut qe:=0
 for _ in[m:nr]do
  let some sm ←ltAt' (lo+m) (lo+m-1)|return none
  if sm then
   if qe>0 then reverseSlice' (lo+m-(qe+1)) (lo+m)
   qe:=0
  else
   let some la ←ltAt' (lo+m-1) (lo+m)|return none
   if la then break
   qe:=qe+1
  m:=m+1
 if qe>0 then do
  reverseSlice' (lo+m-(qe+1)) (lo+m)
  pX lo m nr
 else pX lo m nr
theorem Bz{n:Nat}(P:Zp prog w A s κ it lt N st pre n)(hu:POk n u){m0:Nat}(h0:1<=m0)(hm:m0<=n){R:Nat->Prop}(hr:KW (ltS lt pre.size) R (kas_asc u (n - m0) m0)){f:Nat->Option (Option Nat)×Nat->StateT SortSt Sem (ForInStep (Option (Option Nat)×Nat))}(ef:∀ i m,f i (none,m)=(do
   let r ←ltAt' (pre.size+m) (pre.size+m-1)
   match r with
   |some sm=>if sm=true then pure (ForInStep.done (none,m))else pure (ForInStep.yield (none,m+1))
   | _=>pure (ForInStep.done (some none,m)))){Q:Option (Option Nat)×Nat->SortSt->Prop}(h:∀ m,m0<=m->m<=n->R m->Q (none,m) (stQ it st (pj pre u))) :
  wpS (model prog w) A E s (forIn [m0:n] ((none,m0):Option (Option Nat)×Nat) f) Q (stQ it st (pj pre u)):=by
 refine Yg (I:=fun i c st'=>c=(none,i)/\st'=stQ it st (pj pre u)/\i<=n/\KW (ltS lt pre.size) R (kas_asc u (n-i) i)) ?_ ?_ ⟨rfl,rfl,hm,hr⟩
 ·rintro i c st' hi1 hi2 ⟨rfl,rfl,hi3,hkw⟩;rw[ef];rw[show n-i=(n-(i+1))+1 by omega]at hkw;have hkw':KW (ltS lt pre.size) R (if ltS lt pre.size (gA u i) (gA u (i-1))=true then .ret i else kas_asc u (n-(i+1)) (i+1)):=hkw;rw[show pre.size+i-1=pre.size+(i-1) by omega];refine Zi (mU P hu hi2 (by omega) ?_);refine aD (fun e=>?_) fun e=>?_
  ·rw[HK e]at hkw';exact Zm (h i hi1 hi3 hkw')
  ·rw[HH e]at hkw';exact Zm ⟨rfl,rfl,by omega,hkw'⟩
 ·rintro c st' ⟨rfl,rfl,hi3,hkw⟩;rw[Nat.max_eq_right hm]at hkw ⊢;rw[Nat.sub_self]at hkw;exact h n hm (Zb _) hkw
theorem zh{n:Nat}(P:Zp prog w A s κ it lt N st pre n)(hu:POk n u){m0:Nat}(h0:1<=m0)(hm:m0<=n){G:Nat×Array Nat->Prop}{Q:Option Nat->SortSt->Prop}(hr:KW (ltS lt pre.size) G (kas_tail3 m0 n u))(h:∀m u',POk n u'->1<=m->m<=n->G (m,u')->Q (some m) (stQ it st (pj pre u'))) :
  wpS (model prog w) A E s (pX pre.size m0 n) Q (stQ it st (pj pre u)):=by
 unfold pX;have hr':=KW.unbind hr;have z:=qm (prog:=prog) (w:=w) (A:=A) (E:=E) (s:=s) (it:=it) (st:=st) (pre:=pre) (i:=0) (j:=m0) hu hm (Q:=fun _ st'=>st'=stQ it st (pj pre (kas_rev u 0 m0))) rfl;rw[Nat.add_zero]at z;refine Zi (Yq z fun _ st' e=>?_);subst e;refine Zi (Bz P (hu.rev 0 m0) h0 hm hr' (fun i m=>rfl) fun m h1 h2 h3=>?_);exact Zm (h m _ (hu.rev 0 m0) (by omega) h2 h3)
end
open PySem PyProof.Rows PySem.W
section
variable{lt:Nat->Nat->Bool}(O:LtOk lt){N:Nat}
include O
theorem tS:∀(f:Nat) {p:Array Nat} {k:Nat},k+f<=N->1<=k->Fx N p k->LS lt p k->KW lt (fun p=>Fx N p (k+f)/\LS lt p (k+f)) (kas_bin f p k)
 |0,p,k,e,_,hf,hs=>⟨hf,hs⟩
 |f+1,p,k,e,h1,hf,hs=>by
  refine KW.bind (KW.mono (fun m hm=>?_) (iC O hs k 0 k (by omega) (Zb _) (fun i hi=>absurd hi (by omega)) (fun i h2 h3=>absurd h2 (by omega)) (ZV _)));obtain⟨m1,m2,m3⟩:=hm;have hk:k<p.size:=by rw[hf.sz];omega
  have gk:gA p k=k:=hf.hi k (Zb _) (by omega);have ekm:k-(k-m)=m:=by omega
  have gb:∀i,gA (bubble p k (k-m)) i=if i=m then gA p k else if m<i/\i<=k then gA p (i-1)else gA p i:=fun i=>by rw[xA hk (by omega),ekm]
  rw[show k+(f+1)=k+1+f by omega];refine tS f (by omega) (by omega) ⟨by rw[bubble_size];exact hf.sz,fun i h2 h3=>?_,fun i hi=>?_⟩ (fun i j hij hj=>?_)
  ·rw[gb,HH (by omega),HH (by omega)];exact hf.hi i (by omega) h3
  ·rw[gb];split
   ·rw[gk];omega
   ·split
    ·have:=hf.lo (i-1) (by omega);omega
    ·have:=hf.lo i (by omega);omega
  ·have lk:∀i,i<m->Lx lt (gA p i) (gA p k):=fun i hi=>⟨m2 i hi,.inr (by rw[gk];exact hf.lo i (by omega))⟩
   have gt:∀i,m<=i->i<k->Lx lt (gA p k) (gA p i):=fun i h2 h3=>Lx.of_lt O (m3 i h2 h3);rw[gb,gb];by_cases a1:i=m
   ·rw[HK a1,HH (by omega),HK (by omega)];exact gt _ (by omega) (by omega)
   ·rw[HH a1];by_cases a2:m<i/\i<=k
    ·rw[HK a2,HH (by omega),HK (by omega)];exact hs _ _ (by omega) (by omega)
    ·rw[HH a2];by_cases b1:j=m
     ·rw[HK b1];exact lk i (by omega)
     ·rw[HH b1];by_cases b2:m<j/\j<=k
      ·rw[HK b2];exact hs _ _ (by omega) (by omega)
      ·rw[HH b2];exact hs _ _ hij (by omega)
end
section
variable{prog:Program}{w:World}{A:Around}{E:Value->Shared->Prop}{s:Shared}{κ:SortKind}{it:Array Keyed}{lt:Nat->Nat->Bool}{N:Nat}{st:SortSt}{pre u:Array Nat}
theorem yV{n:Nat}(P:Zp prog w A s κ it lt N st pre n)(hu:POk n u){m0:Nat}(h0:1<=m0)(hm:m0+1<=n){G:Nat×Array Nat->Prop}{Q:Option Nat->SortSt->Prop}(hr:KW (ltS lt pre.size) G (kas_descPart m0 n u))(h:∀m u',POk n u'->1<=m->m<=n->G (m,u')->Q (some m) (stQ it st (pj pre u'))) :
  wpS (model prog w) A E s (A5 pre.size m0 n) Q (stQ it st (pj pre u)):=by
 unfold A5;have hr':=KW.unbind hr;refine Zi (wpS_lift (YL ⟨rfl,?_⟩));refine Zi (Yq (Yg (I:=fun i c st'=>∃ u' q,c=(none,i,q)/\st'=stQ it st (pj pre u')/\POk n u'/\i<=n/\q+1<=i/\KW (ltS lt pre.size) (fun r=>KW (ltS lt pre.size) G (if r.2.2>0 then kas_tail3 r.2.1 n (kas_rev r.1 (r.2.1 - (r.2.2+1)) r.2.1) else kas_tail3 r.2.1 n r.1)) (kas_desc (n - i) u' i q))
  (Q:=fun c st'=>∃ u' m q,c=(none,m,q)/\st'=stQ it st (pj pre u')/\POk n u'/\1<=m/\m<=n/\q+1<=m/\KW (ltS lt pre.size) G (if q>0 then kas_tail3 m n (kas_rev u' (m - (q+1)) m) else kas_tail3 m n u')) ?step ?fin ⟨u,0,rfl,rfl,hu,hm,by omega,hr'⟩) ?post)
 case fin =>rintro c st' ⟨u',q,rfl,rfl,hu',h1,h2,h3⟩;rw[Nat.max_eq_right hm]at h1 h2 h3 ⊢;rw[Nat.sub_self]at h3;exact⟨u',n,q,rfl,rfl,hu',by omega,Zb _,h2,h3⟩
 case post =>
  rintro c st' ⟨u',m,q,rfl,rfl,hu',h1,h2,h3,h4⟩;dsimp only;refine aD (fun hq=>?_) fun hq=>?_
  ·rw[HK hq]at h4;rw[show pre.size+m-(q+1)=pre.size+(m-(q+1)) by omega];exact Zi (qm hu' h2 (zh P (hu'.rev _ _) h1 h2 h4 h))
  ·rw[HH hq]at h4;exact zh P hu' h1 h2 h4 h
 case step =>
  rintro i c st' hi1 hi2 ⟨u',q,rfl,rfl,hu',h1,h2,h3⟩;dsimp only;rw[show n-i=(n-(i+1))+1 by omega]at h3;generalize hR:(fun r:Array Nat×Nat×Nat=>KW (ltS lt pre.size) G (if r.2.2>0 then kas_tail3 r.2.1 n (kas_rev r.1 (r.2.1-(r.2.2+1)) r.2.1)else kas_tail3 r.2.1 n r.1))=R at h3 ⊢;have h3':KW (ltS lt pre.size) R (if ltS lt pre.size (gA u' i) (gA u' (i - 1))=true then (if q>0 then kas_desc (n - (i+1)) (kas_rev u' (i - (q+1)) i) (i+1) 0 else kas_desc (n - (i+1)) u' (i+1) 0)
   else KasT.ask (gA u' (i - 1)) (gA u' i) fun d=>if d=true then .ret (u',i,q) else kas_desc (n - (i+1)) u' (i+1) (q+1)):=h3
  rw[show pre.size+i-1=pre.size+(i-1) by omega];refine Zi (mU P hu' hi2 (by omega) ?_);refine aD (fun e=>?_) fun e=>?_
  ·rw[HK e]at h3';refine aD (fun hq=>?_) fun hq=>?_
   ·rw[HK hq]at h3';rw[show pre.size+i-(q+1)=pre.size+(i-(q+1)) by omega];exact Zi (qm hu' h1 (Zm ⟨_,0,rfl,rfl,hu'.rev _ _,by omega,by omega,h3'⟩))
   ·rw[HH hq]at h3';exact Zm ⟨_,0,rfl,rfl,hu',by omega,by omega,h3'⟩
  ·rw[HH e]at h3';have h3'':KW (ltS lt pre.size) R (if ltS lt pre.size (gA u' (i-1)) (gA u' i)=true then .ret (u',i,q)else kas_desc (n-(i+1)) u' (i+1) (q+1)):=h3';refine Zi (mU P hu' (by omega) hi2 ?_);refine aD (fun e2=>?_) fun e2=>?_
   ·rw[HK e2]at h3'';have h5:R (u',i,q):=h3'';rw[<-hR]at h5;exact Zm ⟨u',i,q,rfl,rfl,hu',by omega,h1,h2,h5⟩
   ·rw[HH e2]at h3'';exact Zm ⟨_,q+1,rfl,rfl,hu',by omega,by omega,h3''⟩
theorem CM{n:Nat}(P:Zp prog w A s κ it lt N st pre n)(hu:POk n u){G:Nat×Array Nat->Prop}{Q:Option Nat->SortSt->Prop}(hr:KW (ltS lt pre.size) G (kas_count n u))(h:∀m u',POk n u'->1<=m->m<=n->G (m,u')->Q (some m) (stQ it st (pj pre u'))) :
  wpS (model prog w) A E s (countRun' pre.size n) Q (stQ it st (pj pre u)):=by
 have n0:=P.n0;have hr':=KW.unbind hr;rw[countRun'_eq];refine Zi (Bz P hu (Zb 1) n0 hr' (fun i m=>rfl) fun m h1 h2 h3=>?_);dsimp only;refine aD (fun e=>?_) fun e=>?_
 ·rw[HK e]at h3;exact Zm (h m u hu h1 h2 h3)
 ·rw[HH e]at h3;have hlt:m+1<=n:=by
   have:m≠n:=by simpa using e
   omega
  refine aD (fun e2=>?_) fun e2=>?_
  ·rw[HK e2]at h3;have h3':KW (ltS lt pre.size) G (if ltS lt pre.size (gA u 0) (gA u (m-1))=true then .ret (m,u)else kas_descPart m n (kas_rev u 0 m)):=h3;have z:=mU (E:=E) P hu (i:=0) (j:=m-1) n0 (by omega) (Q:=fun r st'=>r=some (ltS lt pre.size (gA u 0) (gA u (m-1)))/\st'=stQ it st (pj pre u)) ⟨rfl,rfl⟩;rw[Nat.add_zero]at z;rw[show pre.size+m-1=pre.size+(m-1) by omega];refine Zi (Yq z fun r st' hz=>?_);obtain⟨rfl,rfl⟩:=hz;refine aD (fun e3=>?_) fun e3=>?_
   ·rw[HK e3]at h3';exact Zm (h m u hu h1 h2 h3')
   ·rw[HH e3]at h3';have z:=qm (prog:=prog) (w:=w) (A:=A) (E:=E) (s:=s) (it:=it) (st:=st) (pre:=pre) (i:=0) (j:=m) hu h2 (Q:=fun _ st'=>st'=stQ it st (pj pre (kas_rev u 0 m))) rfl;rw[Nat.add_zero]at z;refine Zi (Yq z fun _ st' ez=>?_);subst ez;exact yV P (hu.rev 0 m) h1 hlt h3' h
  ·rw[HH e2]at h3;exact yV P hu h1 hlt h3 h
theorem FN{n nf ok:Nat}(P:Zp prog w A s κ it lt N st pre n)(hu:POk n u)(hn:nf<=n){G:Array Nat->Prop}{Q:Bool->SortSt->Prop}(hr:KW (ltS lt pre.size) G (kas_bin (nf-max ok 1) u (max ok 1)))(h:∀u',POk n u'->G u'->Q true (stQ it st (pj pre u'))) :
  wpS (model prog w) A E s (binarySort' pre.size nf ok) Q (stQ it st (pj pre u)):=by
 rw[binarySort'_eq];refine Zi (Yq (Yg (I:=fun k c st'=>∃ u',c=(none,())/\st'=stQ it st (pj pre u')/\POk n u'/\KW (ltS lt pre.size) G (kas_bin (nf - k) u' k))
  (Q:=fun c st'=>∃ u',c=(none,())/\st'=stQ it st (pj pre u')/\POk n u'/\G u') ?step ?fin ⟨u,rfl,rfl,hu,hr⟩) ?post)
 case fin =>rintro c st' ⟨u',rfl,rfl,hu',h1⟩;rw[show nf-max (max ok 1) nf=0 by omega]at h1;exact⟨u',rfl,rfl,hu',h1⟩
 case post =>rintro c st' ⟨u',rfl,rfl,hu',h1⟩;exact Zm (h u' hu' h1)
 case step =>
  rintro k c st' hk1 hk2 ⟨u',rfl,rfl,hu',h1⟩;dsimp only;rw[show nf-k=(nf-(k+1))+1 by omega]at h1;have h1':=KW.unbind (show KW (ltS lt pre.size) G ((kas_place u' k k 0 k).bind fun l=>kas_bin (nf-(k+1)) (bubble u' k (k-l)) (k+1))from h1);generalize hR:(fun l:Nat=>KW (ltS lt pre.size) G (kas_bin (nf-(k+1)) (bubble u' k (k-l)) (k+1)))=R at h1';refine Zi (Yq (Yg (I:=fun x c st'=>∃ l r,c=(none,l,r)/\st'=stQ it st (pj pre u')/\r<=k/\KW (ltS lt pre.size) R (kas_place u' k (k - x) l r))
   (Q:=fun c st'=>∃ l r,c=(none,l,r)/\st'=stQ it st (pj pre u')/\R l) ?istep ?ifin ⟨0,k,rfl,rfl,Zb _,h1'⟩) ?ipost)
  case ifin =>rintro c st' ⟨l,r,rfl,rfl,g1,g2⟩;rw[show k-max 0 k=0 by omega]at g2;exact⟨l,r,rfl,rfl,g2⟩
  case ipost =>rintro c st' ⟨l,r,rfl,rfl,g2⟩;rw[<-hR]at g2;exact Zi (FP hu' (by omega) (Zm ⟨_,rfl,rfl,hu'.bub _ _,g2⟩))
  case istep =>
   rintro x c st' _ hx ⟨l,r,rfl,rfl,g1,g2⟩;dsimp only;rw[show k-x=(k-(x+1))+1 by omega]at g2;have g2':KW (ltS lt pre.size) R (if l>=r then KasT.ret l else KasT.ask (gA u' k) (gA u' ((l+r) / 2)) fun c=>if c=true then kas_place u' k (k-(x+1)) l ((l+r) / 2)else kas_place u' k (k-(x+1)) ((l+r) / 2+1) r):=g2;refine aD (fun e=>?_) fun e=>?_
   ·rw[HK e]at g2';exact Zm ⟨l,r,rfl,rfl,g2'⟩
   ·rw[HH e]at g2';have g3:KW (ltS lt pre.size) R (if ltS lt pre.size (gA u' k) (gA u' ((l+r) / 2))=true then kas_place u' k (k-(x+1)) l ((l+r) / 2)else kas_place u' k (k-(x+1)) ((l+r) / 2+1) r):=g2';refine Zi (mU P hu' (by omega) (by omega) ?_);refine aD (fun e2=>?_) fun e2=>?_
    ·rw[HK e2]at g3;exact Zm ⟨l,(l+r) / 2,rfl,rfl,by omega,g3⟩
    ·rw[HH e2]at g3;exact Zm ⟨(l+r) / 2+1,r,rfl,rfl,by omega,g3⟩
end
open PySem PyProof.Rows PySem.W
section
variable{lt:Nat->Nat->Bool}
def RunsL(lt:Nat->Nat->Bool):Nat->List (List Nat)->List (Nat×Nat×Nat)->Prop
 |_,[],[]=>True
 |b,r::rs,t::ts=>t.1=b/\t.2.1=r.length/\0<r.length/\r.Pairwise (Lx lt)/\r.Perm (List.range' b r.length)/\RunsL lt (b+r.length) rs ts
 |_,_,_=>False
theorem RunsL.len:∀{b:Nat} {rs:List (List Nat)} {ts:List (Nat×Nat×Nat)},RunsL lt b rs ts->rs.length=ts.length/\rs.length<=rs.flatten.length
 |_,[],[],_=>⟨rfl,Zb _⟩
 |_,r::rs,t::ts,⟨_,_,h,_,_,k⟩=>by have:=RunsL.len k;rw[Zq,Zq,Yu,Zj];omega
theorem RunsL.snoc{r:List Nat}{x:Nat}(h0:0<r.length)(h1:r.Pairwise (Lx lt)):∀{b:Nat} {rs:List (List Nat)} {ts:List (Nat×Nat×Nat)},RunsL lt b rs ts->r.Perm (List.range' (b+rs.flatten.length) r.length)->RunsL lt b (rs++[r]) (ts++[(b+rs.flatten.length,r.length,x)])
 |_,[],[],_,hp=>⟨rfl,rfl,h0,h1,hp,trivial⟩
 |b,q::rs,t::ts,⟨e1,e2,e3,e4,e5,k⟩,hp=>by rw[Yu,Zj,<-Nat.add_assoc]at hp;have ih:=RunsL.snoc (x:=x) h0 h1 k hp;rw[Yu,Zj,<-Nat.add_assoc];exact⟨e1,e2,e3,e4,e5,ih⟩
theorem RunsL.pow{g:Nat×Nat×Nat->Nat×Nat×Nat}(hg:∀t,(g t).1=t.1/\(g t).2.1=t.2.1):∀(i:Nat) {b:Nat} {rs:List (List Nat)} {ts:List (Nat×Nat×Nat)},RunsL lt b rs ts->RunsL lt b rs (ts.modify i g)
 |_,_,[],[],_=>by rw[List.modify_nil];trivial
 |0,_,r::rs,t::ts,⟨e1,e2,e3,e4,e5,k⟩=>by rw[List.modify_zero_cons];exact⟨(hg t).1.trans e1,(hg t).2.trans e2,e3,e4,e5,k⟩
 |i+1,_,r::rs,t::ts,⟨e1,e2,e3,e4,e5,k⟩=>by rw[List.modify_succ_cons];exact⟨e1,e2,e3,e4,e5,RunsL.pow hg i k⟩
theorem RunsL.two:∀(i:Nat) {b:Nat} {rs:List (List Nat)} {ts:List (Nat×Nat×Nat)},RunsL lt b rs ts->i+1<ts.length->∃rs1 X Y rs2 pw pw2,rs=rs1++X::Y::rs2/\0<X.length/\0<Y.length/\X.Pairwise (Lx lt)/\Y.Pairwise (Lx lt)/\(∀x∈X,∀y∈Y,x<y) /\
  ts[i]?=some (b+rs1.flatten.length,X.length,pw)/\ts[i+1]?=some (b+rs1.flatten.length+X.length,Y.length,pw2) /\
  ∀W:List Nat,W.Pairwise (Lx lt)->W.Perm (X++Y)->RunsL lt b (rs1++W::rs2) ((ts.set i (b+rs1.flatten.length,X.length+Y.length,pw)).eraseIdx (i+1))
 |_,_,[],[],_,h=>absurd h (by simp)
 |0,b,X::[],t::[],_,h=>absurd h (by simp)
 |0,b,X::[],t::t2::ts,⟨_,_,_,_,_,k⟩,h=>k.elim
 |0,b,X::Y::rs,t::[],⟨_,_,_,_,_,k⟩,h=>k.elim
 |0,b,X::Y::rs,t::t2::ts,⟨e1,e2,e3,e4,e5,f1,f2,f3,f4,f5,k⟩,h=>by
  refine⟨[],X,Y,rs,t.2.2,t2.2.2,rfl,e3,f3,e4,f4,fun x hx y hy=>?_,?_,?_,fun W hw hp=>?_⟩
  ·have a1:=e5.mem_iff.mp hx;have a2:=f5.mem_iff.mp hy;rw[List.mem_range'_1]at a1 a2;omega
  ·show some t=some (b,X.length,t.2.2);rw[<-e1,<-e2]
  ·show some t2=some (b+X.length,Y.length,t2.2.2);rw[<-f1,<-f2]
  ·have hl:W.length=X.length+Y.length:=by rw[hp.length_eq,Zj]
   refine⟨rfl,hl.symm,by omega,hw,?_,?_⟩
   ·refine hp.trans ((e5.append f5).trans ?_);have:=List.range'_append (s:=b) (m:=X.length) (n:=Y.length) (step:=1);rw[Nat.one_mul]at this;rw[this,hl]
   ·rw[hl,<-Nat.add_assoc];exact k
 |i+1,b,r::rs,t::ts,⟨e1,e2,e3,e4,e5,k⟩,h=>by
  obtain⟨rs1,X,Y,rs2,pw,pw2,rfl,g1,g2,g3,g4,g5,g6,g7,g8⟩:=RunsL.two i k (by simpa using h);have el:b+(r::rs1).flatten.length=b+r.length+rs1.flatten.length:=by rw[Yu,Zj,Nat.add_assoc]
  refine⟨r::rs1,X,Y,rs2,pw,pw2,rfl,g1,g2,g3,g4,g5,?_,?_,fun W hw hp=>?_⟩
  ·rw[List.getElem?_cons_succ,el];exact g6
  ·rw[List.getElem?_cons_succ,el];exact g7
  ·rw[el,List.set_cons_succ,List.eraseIdx_cons_succ];exact⟨e1,e2,e3,e4,e5,g8 W hw hp⟩
variable{prog:Program}{w:World}{A:Around}{E:Value->Shared->Prop}{s:Shared}{κ:SortKind}{it:Array Keyed}{N:Nat}{st:SortSt}
structure RI(κ:SortKind)(it:Array Keyed)(lt:Nat->Nat->Bool)(N lo:Nat)(T:List Nat)(p:Array Nat)(rs:List (List Nat))(st:SortSt):Prop where
 hk:kindOf st=κ
 hf:failedOf st=none
 ha:arrOf st=p.map (kas_item it)
 hp:p.toList=rs.flatten++T
 pm:p.toList.Perm (List.range N)
 rl:RunsL lt 0 rs (pendingOf st).toList
 hl:rs.flatten.length=lo
theorem BA(Z:Zc prog w A s κ it lt N)(O:LtOk lt){lo i:Nat}{T:List Nat}{p:Array Nat}{rs:List (List Nat)}(R:RI κ it lt N lo T p rs st)(hi:i+1<(pendingOf st).size){Q:Bool->SortSt->Prop}(h:∀st' p' rs',RI κ it lt N lo T p' rs' st'->(pendingOf st').size+1=(pendingOf st).size->Q true st'):wpS (model prog w) A E s (mergeAt' i) Q st:=by
 obtain⟨rs1,X,Y,rs2,pw,pw2,e0,g1,g2,g3,g4,g5,g6,g7,g8⟩:=R.rl.two i (by rw[Zl];exact hi);rw[Nat.zero_add]at g6 g7 g8;rw[Array.getElem?_toList]at g6 g7;refine Gf Z O (pre:=rs1.flatten) (X:=X) (Y:=Y) (post:=rs2.flatten++T) R.hk R.hf R.ha ?_ g3 g4 g1 g2 g5 (fun x hx=>Ye.mp (R.pm.mem_iff.mp hx)) g6 g7 fun st' p' W j1 j2 j3 j4 j5 j6 j7=>?_
 ·rw[R.hp,e0];simp
 ·refine h st' p' (rs1++W::rs2) ⟨j1,j2,j3,?_,?_,?_,?_⟩ ?_
  ·rw[j4];simp
  ·refine List.Perm.trans ?_ R.pm;rw[j4,R.hp,e0];have:(rs1.flatten++(W++(rs2.flatten++T))).Perm (rs1.flatten++((X++Y)++(rs2.flatten++T))):=(j6.append_right _).append_left _;refine this.trans (List.Perm.of_eq ?_);simp
  ·rw[j7];have:=g8 W j5 j6;rw[Array.eraseIdxIfInBounds,dif_pos (by rw[Array.size_setIfInBounds];exact hi),Array.toList_eraseIdx,Array.toList_setIfInBounds];exact this
  ·rw[<-R.hl,e0];have:=j6.length_eq;rw[Zj]at this;simp;omega
  ·rw[j7,Array.eraseIdxIfInBounds,dif_pos (by rw[Array.size_setIfInBounds];exact hi),Array.size_eraseIdx,Array.size_setIfInBounds];omega
theorem Du(O:LtOk lt)(lo:Nat):LtOk (ltS lt lo):=⟨fun h=>O.as h,fun h k=>O.tr h k⟩
theorem zS{n:Nat}(hn:1<=n):Fx n (List.toArray (List.range n)) 1:=by
 have g:∀k,k<n->gA (List.toArray (List.range n)) k=k:=fun k hk=>by rw[gG];simp[hk]
 refine⟨by simp,fun k _ hk=>g k hk,fun i hi=>?_⟩;have e:i=0:=by omega
 subst e;rw[g 0 (by omega)];decide
theorem Eu{n m lo:Nat}{u pre:Array Nat}(hpre:pre.size=lo)(hu:POk n u)(F:Fx n u m)(S:LS (ltS lt lo) u m)(hm:m<=n):∃r:List Nat,r.length=m/\r.Pairwise (Lx lt)/\r.Perm (List.range' lo m)/\(pj pre u).toList=pre.toList++(r++List.range' (lo+m) (n-m)):=by
 have hz:u.toList.length=n:=by rw[Zl];exact F.sz
 have ed:u.toList.drop m=List.range' m (n-m):=by
  apply List.ext_getElem
  ·rw[Yo,List.length_range',hz]
  ·intro i h1 h2;rw[Yo,hz]at h1;rw[List.getElem_drop,List.getElem_range'];have:=F.hi (m+i) (by omega) (by omega);rw[aI,Zf,Ze (by omega)]at this;rw[Nat.one_mul];exact this
 have ep:u.toList.Perm (List.range n):=by have:=Array.perm_iff_toList_perm.mp hu;simpa using this
 have er:List.range n=List.range m++List.range' m (n-m):=by rw[List.range_eq_range',List.range_eq_range'];have:=List.range'_append (s:=0) (m:=m) (n:=n-m) (step:=1);rw[Nat.one_mul,Nat.zero_add]at this;rw[this];congr 1;omega
 have pt:(u.toList.take m).Perm (List.range m):=by have e:=Z5 m u.toList;rw[ed]at e;rw[<-e,er]at ep;exact(List.perm_append_right_iff _).mp ep
 refine⟨(u.toList.take m).map (lo+·),by rw[Zd,Z0];omega,?_,?_,?_⟩
 ·rw[YZ];have hS:(u.toList.take m).Pairwise (Lx (ltS lt lo)):=by rw[ZG];intro i j hi hj hij;rw[Z0]at hi hj;have:=S i j hij (by omega);rw[aI,aI,Zf,Zf,Ze (by omega),Ze (by omega)]at this;rw[List.getElem_take,List.getElem_take];exact this
  refine hS.imp fun{a b} hab=>⟨hab.1,?_⟩
  rcases hab.2 with x|x
  ·exact .inl x
  ·exact .inr (by omega)
 ·rw[List.range'_eq_map_range];exact pt.map _
 ·unfold pj;rw[Zz,Array.toList_map,hpre];congr 1;have e:=Z5 m u.toList;rw[ed]at e
  conv=>lhs;rw[<-e]
  rw[ZE];congr 1;rw[List.range'_eq_map_range,List.range'_eq_map_range,Yb];apply List.map_congr_left;intro x _;show lo+(m+x)=lo+m+x;omega
end
open PySem PyProof.Rows PySem.W
section
variable{lt:Nat->Nat->Bool}{prog:Program}{w:World}{A:Around}{E:Value->Shared->Prop}{s:Shared}{κ:SortKind}{it:Array Keyed}{N:Nat}{st:SortSt}
theorem EX(Z:Zc prog w A s κ it lt N)(O:LtOk lt){lo mr:Nat}{p:Array Nat}{rs:List (List Nat)}(R:RI κ it lt N lo (List.range' lo (N - lo)) p rs st)(hlo:lo<N){β:Type}{g:Nat->StateT SortSt Sem β}{Q:β->SortSt->Prop}(h:∀ (m:Nat) (r:List Nat) (p':Array Nat) (st':SortSt),1<=m->lo+m<=N->r.length=m->r.Pairwise (Lx lt)->r.Perm (List.range' lo m)->RI κ it lt N lo (r++List.range' (lo+m) (N - (lo+m))) p' rs st'->pendingOf st'=pendingOf st->wpS (model prog w) A E s (g m) Q st'){bad:StateT SortSt Sem β}{k:Option Nat->StateT SortSt Sem β}(hk:∀ m,k (some m)=(if m<mr then do
    liftM (rule "list.sort.binary-insertion")
    let ok ←binarySort' lo (min (N-lo) mr) m
    if(!ok)=true then bad else g (min (N-lo) mr)
   else g m)):wpS (model prog w) A E s (countRun' lo (N - lo) >>= k) Q st:=by
 have hl:=R.hl;have O':LtOk (ltS lt (List.toArray rs.flatten).size):=Du O _;have n0:1<=N-lo:=by omega
 have hz:(List.toArray rs.flatten).size=lo:=by rw[Zg];exact hl
 have pu:POk (N-lo) (List.toArray (List.range (N-lo))):=Array.Perm.refl _;have P:Zp prog w A s κ it lt N st (List.toArray rs.flatten) (N-lo):=⟨Z,R.hk,by omega,by omega⟩
 have ep:p=pj (List.toArray rs.flatten) (List.toArray (List.range (N-lo))):=by apply Array.toList_inj.mp;rw[R.hp];unfold pj;rw[Zz,Array.toList_map,Y3,Y3,hz,List.range'_eq_map_range]
 have est:st=stQ it st (pj (List.toArray rs.flatten) (List.toArray (List.range (N-lo)))):=by unfold stQ;rw[<-ep,<-R.ha]
 have fin:∀(m:Nat) (u':Array Nat),POk (N-lo) u'->1<=m->m<=N-lo->Fx (N-lo) u' m->LS (ltS lt (List.toArray rs.flatten).size) u' m->wpS (model prog w) A E s (g m) Q (stQ it st (pj (List.toArray rs.flatten) u')):=fun m u' hu h1 h2 h3 h4=>by
  rw[hz]at h4;obtain⟨r,r1,r2,r3,r4⟩:=Eu hz hu h3 h4 h2;refine h m r (pj (List.toArray rs.flatten) u') _ h1 (by omega) r1 r2 r3 ⟨R.hk,R.hf,rfl,?_,?_,R.rl,hl⟩ rfl
  ·rw[r4,Y3,show N-(lo+m)=N-lo-m by omega]
  ·refine List.Perm.trans ?_ R.pm;rw[r4,R.hp,Y3];refine List.Perm.append_left _ ?_;refine(r3.append_right _).trans (List.Perm.of_eq ?_);have:=List.range'_append (s:=lo) (m:=m) (n:=N-lo-m) (step:=1);rw[Nat.one_mul]at this;rw[this];congr 1;omega
 have kc:=qR O' (N:=N-lo) (p:=List.toArray (List.range (N-lo))) n0 (zS n0);rw[est];have zc:=CM (E:=E) (Q:=fun r st'=>wpS (model prog w) A E s (k r) Q st') P pu kc fun m u' hu h1 h2 hG=>by
  obtain⟨g1,g2,g3,g4⟩:=hG;rw[hk];refine aD (fun c=>?_) fun c=>?_
  ·refine Zi (wpS_lift (YL ⟨rfl,?_⟩));have em:max m 1=m:=by omega
   have kb:=tS O' (N:=N-lo) (min (N-lo) mr-max m 1) (p:=u') (k:=max m 1) (by omega) (by omega) (by rw[em];exact g3) (by rw[em];exact g4);have zb:=FN (E:=E) (nf:=min (N-lo) mr) (ok:=m) (Q:=fun r st'=>wpS (model prog w) A E s (if(!r)=true then bad else g (min (N-lo) mr)) Q st') P hu (by omega) kb fun u2 hu2 hG2=>by
    rw[HH (by simp)];have e2:max m 1+(min (N-lo) mr-max m 1)=min (N-lo) mr:=by omega
    rw[e2]at hG2;exact fin _ u2 hu2 (by omega) (by omega) hG2.1 hG2.2
   rw[hz]at zb;exact Zi zb
  ·exact fin m u' hu h1 h2 g3 g4
 rw[hz]at zc;exact Zi zc
def qT(N pw:Nat):StateT SortSt Sem (Option Unit×Unit):=forIn [0:N] ((none,()):Option Unit×Unit) fun _ _=>do
 let st ←get
 match(if(pendingOf st).size>1 then(pendingOf st)[(pendingOf st).size-2]? else none)with
 |some (_,_,old)=>if old<=pw then pure (.done (none,()))else do
  let ok ←mergeAt' ((pendingOf st).size-2)
  if(!ok)=true then pure (.done (some (),()))else pure (.yield (none,()))
 |_=>pure (.done (none,()))
def qW(N lo n:Nat):StateT SortSt Sem (ForInStep (Option Unit×Nat)):=do
 let st ←get
 match(pendingOf st).back? with
 |some (s1,n1,_)=>do
  let c ←qT N (power' N (2*s1+n1) (2*s1+n1+n1+n) N)
  match c.1 with
  |some r=>pure (.done (some r,lo))
  |none=>do
   modify fun st=>setPending st ((pendingOf st).modify ((pendingOf st).size-1) fun t=>(t.1,t.2.1,power' N (2*s1+n1) (2*s1+n1+n1+n) N))
   modify fun st=>setPending st ((pendingOf st).push (lo,n,0))
   pure (.yield (none,lo+n))
 |_=>do
  modify fun st=>setPending st ((pendingOf st).push (lo,n,0))
  pure (.yield (none,lo+n))
theorem FO(Z:Zc prog w A s κ it lt N)(O:LtOk lt){lo pw:Nat}{T:List Nat}{p:Array Nat}{rs:List (List Nat)}(R:RI κ it lt N lo T p rs st){Q:Option Unit×Unit->SortSt->Prop}(h:∀st' p' rs',RI κ it lt N lo T p' rs' st'->Q (none,()) st'):wpS (model prog w) A E s (qT N pw) Q st:=by
 unfold qT;refine Yg (I:=fun _ c st'=>c=(none,())/\∃p' rs',RI κ it lt N lo T p' rs' st') ?_ ?_ ⟨rfl,p,rs,R⟩
 ·rintro x c st' _ _ ⟨rfl,p',rs',R'⟩;refine Zi (wpS_get ?_);by_cases hs:(pendingOf st').size>1
  ·rw[HK hs];have e:(pendingOf st')[(pendingOf st').size-2]?=some ((pendingOf st')[(pendingOf st').size-2]'(by omega)):=Array.getElem?_eq_getElem (by omega);rw[e];refine aD (fun _=>Zm (h st' p' rs' R')) fun _=>?_;refine Zi (BA Z O R' (by omega) fun st2 p2 rs2 R2 _=>?_);refine aD (fun z=>absurd z (by simp)) fun _=>Zm ⟨rfl,p2,rs2,R2⟩
  ·rw[HH hs];exact Zm (h st' p' rs' R')
 ·rintro c st' ⟨rfl,p',rs',R'⟩;exact h st' p' rs' R'
theorem RI.push{lo m:Nat}{r:List Nat}{p:Array Nat}{rs:List (List Nat)}{T:List Nat}(R:RI κ it lt N lo (r++T) p rs st)(h1:1<=m)(hr:r.length=m)(hw:r.Pairwise (Lx lt))(hp:r.Perm (List.range' lo m)):RI κ it lt N (lo+m) T p (rs++[r]) (setPending st ((pendingOf st).push (lo,m,0))):=by
 have hl:=R.hl;refine⟨R.hk,R.hf,R.ha,?_,R.pm,?_,?_⟩
 ·rw[R.hp];simp
 ·show RunsL lt 0 (rs++[r]) ((pendingOf st).push (lo,m,0)).toList;rw[Array.toList_push];have:=R.rl.snoc (r:=r) (x:=0) (by omega) hw (by rw[Nat.zero_add,hl,hr];exact hp);rw[Nat.zero_add,hl,hr]at this;exact this
 ·simp;rw[<-List.length_flatten,hl,hr]
theorem FQ(Z:Zc prog w A s κ it lt N)(O:LtOk lt){lo m:Nat}{r:List Nat}{p:Array Nat}{rs:List (List Nat)}{T:List Nat}(R:RI κ it lt N lo (r++T) p rs st)(h1:1<=m)(hr:r.length=m)(hw:r.Pairwise (Lx lt))(hp:r.Perm (List.range' lo m)){Q:ForInStep (Option Unit×Nat)->SortSt->Prop}(h:∀st' p' rs',RI κ it lt N (lo+m) T p' rs' st'->Q (.yield (none,lo+m)) st'):wpS (model prog w) A E s (qW N lo m) Q st:=by
 unfold qW;refine Zi (wpS_get ?_);cases hb:(pendingOf st).back? with
 |none=>exact Zi (wpS_modify (Zm (h _ _ _ (R.push h1 hr hw hp))))
 |some t =>obtain⟨s1,n1,o1⟩:=t;refine Zi (FO Z O R fun st' p' rs' R'=>?_);refine Zi (wpS_modify (Zi (wpS_modify (Zm (h _ p' (rs'++[r]) (RI.push (st:=setPending st' ((pendingOf st').modify ((pendingOf st').size-1) fun t=>(t.1,t.2.1,power' N (2*s1+n1) (2*s1+n1+n1+m) N))) ⟨R'.hk,R'.hf,R'.ha,R'.hp,R'.pm,?_,R'.hl⟩ h1 hr hw hp))))));show RunsL lt 0 rs' ((pendingOf st').modify ((pendingOf st').size-1) _).toList;rw[Array.toList_modify];exact R'.rl.pow (g:=fun t=>(t.1,t.2.1,power' N (2*s1+n1) (2*s1+n1+n1+m) N)) (fun t=>⟨rfl,rfl⟩) _
theorem EY(Z:Zc prog w A s κ it lt N)(O:LtOk lt)(h1:1<=N){Q:Unit->SortSt->Prop}(h:∀(p:Array Nat) (st':SortSt),POk N p->LS lt p N->p.size=N->arrOf st'=p.map (kas_item it)->failedOf st'=none->Q () st') :
  wpS (model prog w) A E s sortRuns' Q (SortSt.mk' κ ((List.toArray (List.range N)).map (kas_item it)) #[] 7 none):=by
 rw[sortRuns'_eq];refine Zi (wpS_get ?_);have esz:(arrOf (SortSt.mk' κ ((List.toArray (List.range N)).map (kas_item it)) #[] 7 none)).size=N:=by show((List.toArray (List.range N)).map (kas_item it)).size=N;simp
 rw[esz];have R0:RI κ it lt N 0 (List.range' 0 (N-0)) (List.toArray (List.range N)) [] (SortSt.mk' κ ((List.toArray (List.range N)).map (kas_item it)) #[] 7 none):=by refine⟨rfl,rfl,rfl,?_,List.Perm.refl _,trivial,rfl⟩;rw[Y3,List.range_eq_range',Nat.sub_zero];rfl
 refine Zi (Yq (Yg (I:=fun x c st'=>∃ lo p rs,c=(none,lo)/\RI κ it lt N lo (List.range' lo (N - lo)) p rs st'/\lo<=N/\x<=lo)
  (Q:=fun c st'=>c=(none,N)/\∃ p rs,RI κ it lt N N [] p rs st') ?step ?fin ⟨0,_,_,rfl,R0,by omega,Zb _⟩) ?post)
 case fin =>
  rintro c st' ⟨lo,p,rs,rfl,R,h2,h3⟩;have e:lo=N:=by omega
  subst e;refine⟨rfl,p,rs,?_⟩;rw[Nat.sub_self]at R;exact R
 case step =>
  rintro x c st' _ hx ⟨lo,p,rs,rfl,R,h2,h3⟩;dsimp -zeta only;refine aD (fun hge=>?_) fun hge=>?_
  ·have e:lo=N:=by omega
   subst e;rw[Nat.sub_self]at R;exact Zm ⟨rfl,p,rs,R⟩
  refine EX Z O R (by omega) (g:=qW N lo) (mr:=minRun' N N 0) (bad:=pure (ForInStep.done (some (),lo))) (fun m r p' st2 m1 m2 r1 r2 r3 R2 _=>?_) (fun m=>by kernel_rfl);exact FQ Z O R2 m1 r1 r2 r3 fun st3 p3 rs3 R3=>⟨lo+m,p3,rs3,rfl,R3,m2,by omega⟩
 case post =>
  rintro c st' ⟨rfl,p,rs,R⟩;dsimp only;have hle:∀{c:Prop} [Decidable c] (x:Nat),(if c then x-1 else x)<=x:=fun x=>by split<;>omega
  have hsz:(pendingOf st').size<=N:=by obtain⟨q1,q2⟩:=R.rl.len;have q3:(pendingOf st').toList.length=(pendingOf st').size:=Zl;have q4:=R.hl;omega
  refine Zi (Yq (Yg (I:=fun x c st'=>c=(none,())/\(∃ p rs,RI κ it lt N N [] p rs st')/\((pendingOf st').size+x<=N\/(pendingOf st').size<=1))
   (Q:=fun c st'=>c=(none,())/\(∃ p rs,RI κ it lt N N [] p rs st')/\(pendingOf st').size<=1) ?step2 ?fin2 ⟨rfl,⟨p,rs,R⟩,.inl hsz⟩) ?post2)
  case fin2 =>rintro c st2 ⟨rfl,hR,h2⟩;exact⟨rfl,hR,by omega⟩
  case step2 =>
   rintro x c st2 _ hx ⟨rfl,⟨p2,rs2,R2⟩,h2⟩;refine Zi (wpS_get ?_);refine aD (fun hge=>Zm ⟨rfl,⟨p2,rs2,R2⟩,hge⟩) fun hge=>?_;refine Zi (BA Z O R2 ?_ fun st3 p3 rs3 R3 e3=>?_)
   ·exact x4 (Nat.add_le_add_right (hle _) 1) (by omega)
   ·refine aD (fun z=>absurd z (by simp)) fun _=>Zm ⟨rfl,⟨p3,rs3,R3⟩,by omega⟩
  case post2 =>
   rintro c st2 ⟨rfl,⟨p2,rs2,R2⟩,h2⟩;have ln:=R2.rl.len;rw[Zl]at ln;have hl:=R2.hl;have hp:=R2.hp;have rl:=R2.rl
   match rs2,hl,hp,rl,ln with
   | [],hl,_,_,_=>exact absurd hl (by simp;omega)
   |r::r2::rs3,_,_,_,ln=>exact absurd ln.1 (by simp;omega)
   | [r],hl,hp,rl,_ =>
    rw[Z6,List.flatten_singleton]at hp
    match hpl:(pendingOf st2).toList,rl with
    | [],rl=>exact rl.elim
    |t::ts,⟨_,_,_,pw,_,_⟩ =>
     have hz:p2.size=N:=by rw[<-Zl,R2.pm.length_eq,YI]
     refine Zm (h p2 st2 (Array.perm_iff_toList_perm.mpr (by simpa using R2.pm)) (fun i j hij hj=>vI (by rw[hp];exact pw) i j hij (by omega)) hz R2.ha R2.hf)
end
open PySem PySem.Spec PyProof.Rows PySem.W
theorem eC{n:Nat}(h:n<=4096):n<=sizeLine:=by rw[sizeLine_eq];omega
section
variable{prog:Program}{w:World}{A:Around}{E:Value->Shared->Prop}{s:Shared}{h₀:Heap}{L a kS:Addr}{m:Str->Option Value}{news:List (Addr×Obj)}{vs ks:List Value}
theorem nh{Q:List Value->Shared->Prop}{r:Addr}{lo hi:Int}{t u v:Tok}{n:Nat}(hh:A.handled=none)(hr:IsRange s.heap r lo hi 1 t u v)(hsmall:Builtin.Range.small lo hi 1=true)(hn:Builtin.Range.rangeSize lo hi 1=n)(hlen:n<=2^24)(h:∀h' tk acc,(∀b o,s.heap.get? b=some o->h'.get? b=some o)->ItemsOf (fun i v=>∃t,v=.int (lo+i*1) t) acc n->Q acc.toList { s with heap:=h',toks:=tk }):wpAny (model prog w) A (collect (.ref r)) Q E s:=by
 unfold collect;refine z6 (wpAny_runValue (codeAny_builtin F.entry_proto_collect ?_));rw[Around.under_plainId F.plain_proto_collect _];show wpAny _ A.in1 (newList [] >>= fun q=>again (.builtin "list.__iadd__" ⟨[q,.ref r],[]⟩)) _ _ s;refine z6 (ZH (Za ⟨plainId_quiet F.plain_list_iadd _,codeAny_builtin F.entry_list_iadd ?_⟩));rw[Around.under_plainId F.plain_list_iadd _];show wpAny _ A.in1 (Builtin.List.listExtendWith (.ref s.heap.objs.size) (.ref r) (.ref s.heap.objs.size)) _ _ _;refine wpAny_extend_range (A:=A) (R:=fun r s'=>match r with
  | .ok (.ret v)=>wpAny (model prog w) A (match v with
   |.ref a=>do
    let o ←load a
    match o.data with
    |.seq xs _=>pure xs.toList
    |_=>unsupported "internal:collect"
   | _=>unsupported "internal:collect") Q E s'
  |.ok _=>False
  | .error e=>E e s') (s:={ s with heap:=s.heap.push { cls:=.type "list",data:=.seq ([]:List Value).toArray } }) hh (z9 _ hr) hsmall hn hlen s.heap.objs.size _ 0 (Zh _ rfl) fun h' tk acc c hk hS hacc=>?_
 show wpAny _ A (load s.heap.objs.size >>= _) _ _ _;refine z6 (wpAny_load hS (Za ?_));exact h h' tk acc (fun b o e=>hk b o (Zt (Zk e)) (z9 _ e)) hacc
def ZGo(prog:Program)(w:World)(A:Around)(b:Bool)(ks vs:List Value)(F:List Value->Shared->Prop)(κ:SortKind)(s:Shared):Prop :=
 ∃lt:Nat->Nat->Bool,LtOk lt/\(∀i j (C:Bool->Shared->Prop),i<vs.length->j<vs.length->C (lt i j) s->kas_ask prog w A κ (katRev b ks) i j C s) /\
  ∀p:Array Nat,POk vs.length p->LS lt p vs.length->F (katRev b (p.toList.map fun i=>(katRev b vs).getD i Value.none)) s
def uH(prog:Program)(w:World)(A:Around)(b:Bool)(ks vs:List Value)(F:List Value->Shared->Prop)(s:Shared):Prop :=
 (2<=vs.length->wpAny (model prog w) A (keyKind' (List.toArray ks)) (ZGo prog w A b ks vs F) (fun _ _=>False) s)/\(vs.length<2->F (katRev b ((List.range vs.length).map fun i=>(katRev b vs).getD i Value.none)) s)
theorem uA{b:Bool}{st:SortSt}{e e1:Nat}{out:List Value}{P:PySem.Fin->Shared->Prop}(ho:(arrOf st).map (·.2)=List.toArray out)(hz:out.length<=4096)(hq:ks.length<=4096)(hf:failedOf st=none)(h:KatFin h₀ L m kS a ks e e1 (katRev b out) (fun s'=>P (.done (.ret .none)) s') s):wpAny (model prog w) A (ksk_tail a b e1 (.ref kS) st) P E s:=by
 obtain⟨nw,g,Fq,Nq,Uq,kq⟩:=h;obtain⟨l1,l2,e0,hg,x1,x2⟩:=Uq.split;rw[e0]at Nq;have ak:=Nq (kS,seqObj "list" (List.toArray ks) e) (Zv _ (.head _));have s1:=ZJ s.heap kS (Obj.mapSeq fun _=>(#[]:Array Value));obtain⟨ck,hck⟩:∃z,(s.heap.update kS (Obj.mapSeq fun _=>(#[]:Array Value))).get? kS=some (seqObj "list" #[] z):=⟨_,get?_update_seq ak.1 fun _=>#[]⟩
 have K2:=kq _ ck (kas_fr Fq s1 ak.2.1 ak.2.2) (by rw[hg];exact news_set Nq x1 x2 s1 hck);obtain⟨nw2,g2,F2,N2,U2,k2⟩:=K2;obtain⟨m1,m2,e2,hg2,y1,y2⟩:=U2.split;rw[e2]at N2;have aa:=N2 (a,seqObj "list" #[] e1) (Zv _ (.head _));have s2:=ZJ (s.heap.update kS (Obj.mapSeq fun _=>(#[]:Array Value))) a (Obj.mapSeq fun _=>List.toArray (katRev b out));have hsz:(List.toArray (katRev b out)).size=out.length:=by rw[Zg,kat_len]
 obtain⟨c2,hc2⟩:∃z,((s.heap.update kS (Obj.mapSeq fun _=>(#[]:Array Value))).update a (Obj.mapSeq fun _=>List.toArray (katRev b out))).get? a=some (seqObj "list" (List.toArray (katRev b out)) z):=⟨_,get?_update_seq aa.1 fun _=>List.toArray (katRev b out)⟩
 unfold ksk_tail;dsimp only;rw[ho,kat_outs];refine z6 (listUpdate_at ak.1 rfl (z6 (wpAny_letGo (z6 (seqEpoch_at aa.1 rfl (z6 (listUpdate_at aa.1 rfl ?_ (ZV _) (ZQ (Nat.le_of_eq hsz) (Yh (eC hz))))))))) (by rw[Zg];exact eC hq) (ZV _));rw[hf];simp only[bne_self_eq_false,Yy,YM];refine Za (k2 _ c2 (kas_fr F2 s2 aa.2.1 aa.2.2) ?_);rw[hg2];exact news_set N2 y1 y2 s2 hc2
theorem EZ{b:Bool}{e e1:Nat}{P:PySem.Fin->Shared->Prop}(hl:ks.length=vs.length)(hz:vs.length<=4096)(h:uH prog w A b ks vs (fun out=>KatFin h₀ L m kS a ks e e1 out (fun s3=>P (.done (.ret .none)) s3)) s) :
  wpAny (model prog w) A (ksk_end a b vs.toArray e1 (.ref kS) (List.toArray ks)) P E s:=by
 have lr:(katRev b ks).length=(katRev b vs).length:=by rw[kat_len,kat_len,hl]
 have lv:(katRev b vs).length=vs.length:=kat_len b vs;have step:∀t:Sem PySem.Fin,wpAny (model prog w) A t P E s->wpAny (model prog w) A (if b=true then(do let _ ←rule "list.sort.reverse";t)else t) P E s:=by
  intro t ht;split
  ·exact z6 (YL ht)
  ·exact ht
 unfold ksk_end;dsimp only;refine step _ ?_;have er:∀κ,SortSt.mk' κ ((List.toArray (katRev b ks)).zip (List.toArray (katRev b vs))) #[] 7 none=SortSt.mk' κ ((List.toArray (List.range vs.length)).map (kas_item ((List.toArray (katRev b ks)).zip (List.toArray (katRev b vs))))) #[] 7 none:=fun κ=>by have e:=kas_range ((List.toArray (katRev b ks)).zip (List.toArray (katRev b vs)));rw[show((List.toArray (katRev b ks)).zip (List.toArray (katRev b vs))).size=vs.length by simp[lr,lv]]at e;rw[e]
 rw[kat_pairs b hl];by_cases n2:vs.toArray.size<2
 ·rw[HK n2,HK n2];have n2':vs.length<2:=by simpa using n2
  refine z6 (Za ?_);rw[er,StateT.run_pure];refine z6 (Za ?_);dsimp only;exact uA (kat_snds lr (p:=List.toArray (List.range vs.length)) rfl) (by simpa using hz) (by omega) rfl (h.2 n2')
 rw[HH n2,HH n2];have n3:2<=vs.length:=by rw[Zg]at n2;omega
 refine z6 (ZL (h.1 n3) (fun κ s0 hg=>?_) fun _ _ x=>x.elim);obtain⟨lt,O,ask,fin⟩:=hg;have Z:Zc prog w A s0 κ ((List.toArray (katRev b ks)).zip (List.toArray (katRev b vs))) lt vs.length:=fun i j C hi hj hC=>by have:=ask i j C hi hj hC;rw[kat_ask_eq lr]at this;exact this
 rw[er];refine z6 (ZL (EY (E:=E) (Q:=fun _ st'=>∃p:Array Nat,POk vs.length p/\LS lt p vs.length/\p.size=vs.length/\arrOf st'=p.map (kas_item ((List.toArray (katRev b ks)).zip (List.toArray (katRev b vs))))/\failedOf st'=none) Z O (by omega) fun p st' a1 a2 a3 a4 a5=>⟨p,a1,a2,a3,a4,a5⟩) ?_ fun _ _ x=>x);rintro⟨⟨⟩,st'⟩ s' ⟨rfl,p,a1,a2,a3,a4,a5⟩;dsimp only;exact uA (kat_snds lr a4) (by rw[Zd,Zl,a3];exact hz) (by omega) a5 (fin p a1 a2)
theorem uy{f:Value}{Fin:List Value->Nat->Shared->Prop}{n:Nat}{body:Value->PUnit->Sem (ForInStep PUnit)}(hn:n<=4096)(hb:∀ x ks e (s:Shared) (C:Value->Nat->Shared->Prop),List.length ks<4096->wpAny (model prog w) A (call f [x]) (KatBack h₀ L m kS ks e C) (fun _ _=>False) s ->
   wpAny (model prog w) A (body x ⟨⟩) (fun r s'=>r=.yield ⟨⟩/\∃ k c,s'.heap.get? kS=some (seqObj "list" (List.toArray (ks++[k])) c)/\C k c s') E s):∀ (r qs:List Value) (e:Nat) (s:Shared),qs.length+r.length=n ->
   s.heap.get? kS=some (seqObj "list" (List.toArray qs) e)->KatKeys prog w A h₀ L m kS f Fin r qs e s ->
   wpAny (model prog w) A (forIn r PUnit.unit body) (fun _ s'=>∃qs e,s'.heap.get? kS=some (seqObj "list" (List.toArray qs) e)/\qs.length=n/\Fin qs e s') E s
 | [],qs,e,s,hl,hq,h=>by rw[List.forIn_nil];exact Za ⟨qs,e,hq,by simpa using hl,h⟩
 |x::r,qs,e,s,hl,hq,h=>by rw[Zq]at hl;rw[List.forIn_cons];refine z6 (ZL (hb x qs e s (fun k c s'=>KatKeys prog w A h₀ L m kS f Fin r (qs++[k]) c s') (by omega) h) (fun z s' hz=>?_) fun _ _ x=>x);obtain⟨rfl,k,c,hk',h2⟩:=hz;exact uy hn hb r (qs++[k]) c s' (by rw[Zj,Zy];omega) hk' h2
theorem CP{b:Bool}{f:Value}{e1:Nat}{P:PySem.Fin->Shared->Prop}(hq:s.heap.get? kS=some (seqObj "list" #[] 0))(hz:vs.length<=4096)(h:KatKeys prog w A h₀ L m kS f (fun ks e s'=>uH prog w A b ks vs (fun out=>KatFin h₀ L m kS a ks e e1 out (fun s3=>P (.done (.ret .none)) s3)) s') vs [] 0 s) :
  wpAny (model prog w) A (ksk_rest a f b vs.toArray e1 (.ref kS)) P E s:=by
 unfold ksk_rest;refine z6 (YL ?_);rw[<-Array.forIn_toList];refine z6 (ZL (uy hz (fun x qs e s' C hzz hx=>?_) vs [] 0 s (by simp) hq h) (fun _ s' hd=>?_) fun _ _ x=>x)
 ·refine z6 (wpAny_attempt (ZL hx (fun k s2 hkk=>?_) fun _ _ hF=>hF.elim));obtain⟨nw,g,Fq,Nq,Uq,cq⟩:=hkk;obtain⟨l1,l2,e0,hg,x1,x2⟩:=Uq.split;rw[e0]at Nq;have ak:=Nq (kS,seqObj "list" (List.toArray qs) e) (Zv _ (.head _));have s1:=ZJ s2.heap kS (Obj.mapSeq (·.push k));have ea:(List.toArray qs).push k=List.toArray (qs++[k]):=by simp
  obtain⟨c2,hc2⟩:∃z,(s2.heap.update kS (Obj.mapSeq (·.push k))).get? kS=some (seqObj "list" (List.toArray (qs++[k])) z):=⟨_,by rw[<-ea];exact get?_update_seq ak.1 (·.push k)⟩
  dsimp only;refine z6 (listUpdate_at ak.1 rfl (Za ⟨rfl,k,c2,hc2,cq _ c2 (kas_fr Fq s1 ak.2.1 ak.2.2) (by rw[hg];exact news_set Nq x1 x2 s1 hc2)⟩) (by rw[Zg];exact eC (by omega)) (ZQ (Nat.le_of_eq (Array.size_push ..)) (by rw[Zg];exact Yh (eC (by omega)))))
 ·obtain⟨qs,e,hq',hl,fin⟩:=hd;exact z6 (listItems_at hq' rfl (EZ hl hz fin))
theorem A3{b:Bool}{f:Value}{n:Nat}{P:PySem.Fin->Shared->Prop}(F:Fr h₀ L s.heap m)(N:News h₀ L s.heap news)(ho:s.heap.get? a=some (seqObj "list" vs.toArray n))(haL:a≠L)(ha0:h₀.get? a=none)(hna:∀ p∈news,p.1≠a)(hz:vs.length<=4096)(h:∀ kS e1 h',Fr h₀ L h' m->News h₀ L h' ((kS,seqObj "list" #[] 0)::(a,seqObj "list" #[] e1)::news)->a<kS->(∀ q∈news,q.1<kS) ->
   KatKeys prog w A h₀ L m kS f (fun ks e s'=>uH prog w A b ks vs (fun out=>KatFin h₀ L m kS a ks e e1 out (fun s3=>P (.done (.ret .none)) s3)) s') vs [] 0 { s with heap:=h' }) :
  wpAny (model prog w) A (ksk_tree a f b) P E s:=by
 have la:a<s.heap.objs.size:=Zk ho;have s1:=ZJ s.heap a (Obj.mapSeq fun _=>(#[]:Array Value));have F1:=kas_fr F s1 haL ha0;have N1:=kas_news N s1 hna;obtain⟨e1,ho1⟩:∃z,(s.heap.update a (Obj.mapSeq fun _=>(#[]:Array Value))).get? a=some (seqObj "list" #[] z):=⟨_,get?_update_seq ho fun _=>#[]⟩
 have zk:((s.heap.update a (Obj.mapSeq fun _=>(#[]:Array Value))).push (seqObj "tuple" vs.toArray 0)).objs.size=s.heap.objs.size+1:=by rw[size_push',Heap.size_update]
 have lk:L<((s.heap.update a (Obj.mapSeq fun _=>(#[]:Array Value))).push (seqObj "tuple" vs.toArray 0)).objs.size:=(F1.push _).ns.lt;unfold ksk_tree;refine z6 (listItems_at ho rfl (z6 (listUpdate_at ho rfl (z6 (seqEpoch_at ho1 rfl (z6 (wpAny_newTuple (z6 (wpAny_newList (Z7 ?_) (ZV _))) (eC hz))))) (by rw[Zg];exact eC hz) (ZV _))));refine CP (s:={ s with heap:=((s.heap.update a (Obj.mapSeq fun _=>(#[]:Array Value))).push (seqObj "tuple" vs.toArray 0)).push (seqObj "list" #[] 0) }) (kS:=((s.heap.update a (Obj.mapSeq fun _=>(#[]:Array Value))).push (seqObj "tuple" vs.toArray 0)).objs.size)
  (Zh _ rfl) hz (h _ e1 _ ((F1.push _).push _) (fun p hp=>?_) (by rw[zk];exact Nat.lt_succ_of_lt la) fun q hq=>by rw[zk];exact Nat.lt_succ_of_lt (Zk (N q hq).1))
 rcases Zs.mp hp with rfl|hp
 ·exact⟨Zh _ rfl,Yw lk,YU (ZQ F.above (YT lk))⟩
 ·rcases Zs.mp hp with rfl|hp
  ·exact⟨z9 _ (z9 _ ho1),haL,ha0⟩
  ·exact⟨z9 _ (z9 _ (N1 p hp).1),(N1 p hp).2⟩
theorem CO{b:Bool}{f:Value}{kw:List (Str×Value)}{Q:Value->Shared->Prop}(F:Fr h₀ L s.heap m)(N:News h₀ L s.heap news)(hz:vs.length<=4096)(ha2:∀ x,argsOk "list.sort" ⟨[.ref x],kw⟩)(ht:∀ x,Builtin.«list.sort» ⟨[.ref x],kw⟩=ksk_tree x f b)(h:∀ D kS e1 h',Fr h₀ L h' m->News h₀ L h' ((kS,seqObj "list" #[] 0)::(D,seqObj "list" #[] e1)::news)->D<kS->(∀ q∈news,q.1<D) ->
   KatKeys prog w A.in1 h₀ L m kS f (fun ks e s'=>uH prog w A.in1 b ks vs (fun out=>KatFin h₀ L m kS D ks e e1 out (fun s4=>Q (.ref D) s4)) s') vs [] 0 { s with heap:=h' }) :
  wpAny (model prog w) A (do let l ←newList vs;let _ ←holding [l] (call (.builtin "list.sort") [l] kw);ret l) (fun fin s'=>∃v,fin=.done (.ret v)/\Q v s') E s:=by
 have hL:L<s.heap.objs.size:=F.ns.lt;have hoL:(s.heap.push (seqObj "list" vs.toArray 0)).get? s.heap.objs.size=some (seqObj "list" vs.toArray 0):=Zh _ rfl;refine z6 (wpAny_newList ?_ (eC hz));refine z6 (Z7 (wpAny_call_entry_kw slot_list_sort ⟨_,hoL,rfl⟩ entry_list_sort ?body (ha2 _)))
 case body =>
  show wpAny (model prog w) A.in1 (Builtin.«list.sort» ⟨[.ref s.heap.objs.size],kw⟩) _ _ _;rw[ht];refine A3 (s:={ s with heap:=s.heap.push (seqObj "list" vs.toArray 0) }) (F.kept fun b o q=>z9 _ q) (N.grown fun b o q=>z9 _ q) hoL (Yw hL) (YU (ZQ F.above (YT hL))) (fun p hp=>Zt (Zk (N p hp).1)) hz fun kS e1 h' F' N' l0 l1=>?_;refine kat_keys_mono (h _ kS e1 h' F' N' l0 fun q hq=>Zk (N q hq).1) fun ks e s' _ hd=>⟨fun n2=>ZL (hd.1 n2) (fun κ s2 hk=>?_) fun _ _ x=>x,fun n2=>(hd.2 n2).mono fun s4 hq=>⟨_,rfl,Za ⟨_,rfl,hq⟩⟩⟩
  obtain⟨lt,O,ask,fin⟩:=hk;exact⟨lt,O,ask,fun p a1 a2=>(fin p a1 a2).mono fun s4 hq=>⟨_,rfl,Za ⟨_,rfl,hq⟩⟩⟩
end
open PySem PySem.Spec PyProof.Rows PySem.W
inductive ZKey where
 |i (n:Int)|t (ns:List Int)
def ZKey.nums:ZKey->List Int
 |.i n=>[n]
 |.t ns=>ns
def ZKey.at(H:Hp):ZKey->V->Prop
 |.i n,v=>v=.int n
 |.t ns,v=>∃a,v=.ref a/\H a=some (.tup (ns.map V.int))
theorem ZKey.at.same{H H':Hp}(sm:Same H H'):∀{k:ZKey} {v:V},k.at H v->k.at H' v
 |.i _,_,h=>h
 |.t _,_,⟨a,e,h⟩=>⟨a,e,sm _ _ h⟩
def wL(ks:List ZKey):Prop:=(∀k∈ks,∃n,k=.i n)\/∀k∈ks,∃ns,k=.t ns/\ns≠[]
section
variable{X:Cx}{pins:List (Addr×Obj)}{σ:St}{H:Hp}{s:Shared}{h':Heap}
def zp(X:Cx)(s:Shared)(l:Addr)(xs:List V):Prop:=∀Q:List Value->Shared->Prop,(∀h' tk its,(∀b o,s.heap.get? b=some o->h'.get? b=some o)->Vals xs its->Q its { s with heap:=h',toks:=tk })->wpAny (model X.prog X.w) X.A.in1 (collect (.ref l)) Q X.xe s
theorem yJ{l:Addr}{xs:List V}(I:Inv X pins σ H s)(hH:H l=some (.lst xs))(hz:xs.length<=4096):zp X s l xs:=fun Q h=>by obtain⟨z,its,n,rv,hlen,e⟩:=I.lstM hH;have li:its.length=xs.length:=hlen.symm;refine collect_list ⟨_,e,rfl,n,rfl⟩ (h _ s.toks its (fun b o g=>?_) rv) (eC (by omega));rw[Heap.get?_update_ne _ _ _ _ (Zt (Zk g))];exact z9 _ g
structure SGZ(X:Cx)(pins:List (Addr×Obj))(σ:St)(H1:Hp)(m:Str->Option Value)(kS D:Addr)(e1:Nat)(ks:List ZKey)(as:List V)(us:List Value)(e:Nat)(H:Hp)(s:Shared):Prop where
 I:Inv X pins σ H s
 sm:Same H1 H
 fk:bh X pins H kS
 fd:bh X pins H D
 bk:X.base.get? kS=none
 bd:X.base.get? D=none
 hk:s.heap.get? kS=some (seqObj "list" (List.toArray us) e)
 hd:s.heap.get? D=some (seqObj "list" #[] e1)
 ns:s.heap.Ns X.env.locals m
 vals:Vals as us
 keys:∀(i:Nat) (a:V) (k:ZKey),as[i]?=some a->ks[i]?=some k->k.at H a
theorem SGZ.fr{H1:Hp}{m:Str->Option Value}{kS D:Addr}{e1:Nat}{ks:List ZKey}{as:List V}{us:List Value}{e:Nat}(S:SGZ X pins σ H1 m kS D e1 ks as us e H s):Fr X.base X.env.locals s.heap m:=⟨S.ns,S.I.bk,ZQ S.I.ok.bsz S.I.ok.above⟩
theorem mI{H1:Hp}{m:Str->Option Value}{kS D:Addr}{e1:Nat}{ks:List ZKey}{xs:List V}{its:List Value}{f:Addr}{sp:Sp}{Fin:List Value->Nat->Shared->Prop}(hne:kS≠D)(rv:Vals xs its)(hl:ks.length=xs.length)(F:uG X pins σ f sp)(spec:∀(i:Nat) (v:V) (key:ZKey) (H':Hp),xs[i]?=some v->ks[i]?=some key->Same H1 H'->∀R:VK,(∀kv H'',Same H' H''->key.at H'' kv->R kv H'')->sp [v] H' R E0)(fin:∀(as:List V) (us:List Value) (e:Nat) (H:Hp) (s:Shared),SGZ X pins σ H1 m kS D e1 ks as us e H s->as.length=xs.length->Fin us e s) :
  ∀(r:List Value) (as:List V) (us:List Value) (e:Nat) (H:Hp) (s:Shared),SGZ X pins σ H1 m kS D e1 ks as us e H s->its=its.take as.length++r->as.length+r.length=xs.length ->
   KatKeys X.prog X.w X.A.in1.in1 X.base X.env.locals m kS (.ref f) Fin r us e s
 | [],as,us,e,H,s,S,_,hlen=>KatKeys.nil (fin as us e H s S (by simpa using hlen))
 |u::r,as,us,e,H,s,S,hits,hlen=>by
  have hi:as.length<xs.length:=by rw[Zq]at hlen;omega
  have hx:xs[as.length]?=some xs[as.length]:=Ze hi;obtain⟨u',gu,ru⟩:=rv.get hx;have hlt:as.length<its.length:=by rw[<-rv.length];exact hi
  have gu':its[as.length]?=some u:=by rw[hits,ZY (by rw[Z0];omega),Z0,Nat.min_eq_left (by omega),Nat.sub_self];rfl
  rw[gu']at gu;cases gu;have hkey:ks[as.length]?=some (ks[as.length]'(by omega)):=Ze (by omega);generalize ks[as.length]'(by omega)=key at hkey;refine KatKeys.cons (wpAny_call (codeAny_mono (F s H u xs[as.length] (fun v H''=>Same H H''/\key.at H'' v) S.I ru (spec _ _ _ H hx hkey S.sm _ fun kv H'' s' q=>⟨s',q⟩)) fun res s' hq=>?_));cases res with
  |error e=>exact hq
  |ok fl =>
   cases fl with
   |next=>exact False.elim hq
   |brk=>exact False.elim hq
   |cont=>exact False.elim hq
   |ret uv =>
    obtain⟨v,H'',os,bare,un,hok,rvv,sm,ea⟩:=hq;obtain⟨hh,g,d,t,os'⟩:=s';obtain rfl:os'=s.os:=os;have I2:Inv X pins σ H'' { s with heap:=hh,gens:=g,drawn:=d,toks:=t }:=S.I.call (h':=hh) (g':=g) (d':=d) (t':=t) (ch:=[]) un hok bare (fun b z=>absurd z (by simp));have nstk:∀{b:Addr},bh X pins H b->b∉frs X.stack:=fun{b} fo z=>(Zs.mp (S.I.stkSub b z)).elim fo.2.1 fo.2.2.1;have hk2:hh.get? kS=some (seqObj "list" (List.toArray us) e):=un.keep kS _ S.hk S.fk.1 (nstk S.fk) (by simp);have hd2:hh.get? D=some (seqObj "list" #[] e1):=un.keep D _ S.hd S.fd.1 (nstk S.fd) (by simp);have ns2:hh.Ns X.env.locals m:=by obtain⟨o,es,ep,ho,rr⟩:=id S.ns;obtain⟨sl,hL⟩:=un.any ho S.I.free (by simp);exact⟨_,es,ep,hL,rr⟩
    have fk2:bh X pins H'' kS:=⟨un.free kS _ S.hk S.fk.1 (by simp),S.fk.2⟩
    have fd2:bh X pins H'' D:=⟨un.free D _ S.hd S.fd.1 (by simp),S.fd.2⟩
    have hkL:kS≠X.env.locals:=S.fk.2.1;refine KatBack.intro (news:=(kS,seqObj "list" (List.toArray us) e)::fS X.base hh X.env.locals kS) ⟨ns2,I2.bk,ZQ S.I.ok.bsz S.I.ok.above⟩ (gi hk2 hkL S.bk) (.head iK) fun h3 c F3 N3=>?_;have mv:=gh (fun b o q=>I2.bk b o q) F3 N3;have I3:Inv X pins σ H'' { s with heap:=h3,gens:=g,drawn:=d,toks:=t }:=Inv.movedF (ch:=[kS]) (t':=t) I2 (fun b hb=>by rw[Zr.mp hb];exact fk2) mv ⟨m,ns2,F3.ns⟩;refine mI hne rv hl F spec fin r (as++[v]) (us++[uv]) c H'' _ ⟨I3,S.sm.trans sm,fk2,fd2,S.bk,S.bd,(N3 _ (.head _)).1,mv D _ S.fd.2.1 (fun z=>hne (Zr.mp z).symm) hd2,F3.ns,S.vals.append (.cons rvv .nil),fun i b key' h1 h2=>?_⟩ ?_ ?_
    ·by_cases hi2:i<as.length
     ·rw[Ys hi2]at h1;exact(S.keys i b key' h1 h2).same sm
     ·have hi3:=(ZF.mp h1).1;rw[Zj,Zy]at hi3;have e3:i=as.length:=by omega
      subst e3;rw[ZY (Zb _),Nat.sub_self]at h1;cases h1;rw[hkey]at h2;cases h2;exact ea
    ·rw[Zj,Zy,List.take_add_one,gu',Option.toList_some,ZC];exact hits
    ·rw[Zj,Zy,<-hlen,Zq];omega
theorem sP{b:Bool}{kw:List (Str×Value)}{ks:List ZKey}{xs:List V}{f l:Addr}{sp:Sp}{Q:VK}(I:Inv X pins σ H s)(src:zp X s l xs)(hz:xs.length<=4096)(hl:ks.length=xs.length)(hne:wL ks)(hs1:argsOk "sorted" ⟨[.ref l],kw⟩)(hs2:∀x,argsOk "list.sort" ⟨[.ref x],kw⟩)(hs3:∀x,Builtin.«list.sort» ⟨[.ref x],kw⟩=ksk_tree x (.ref f) b)(F:∀l,uG (wX X l) pins σ f sp)(spec:∀(i:Nat) (v:V) (key:ZKey) (H':Hp),xs[i]?=some v->ks[i]?=some key->Same H H'->∀R:VK,(∀kv H'',Same H' H''->key.at H'' kv->R kv H'')->sp [v] H' R E0)(q:∀(p:Array Nat) (H2:Hp) (D:Addr),POk xs.length p->LS (fun i j=>HT.lexLt ((katRev b (ks.map ZKey.nums)).getD i []) ((katRev b (ks.map ZKey.nums)).getD j [])) p xs.length->Same H H2->H2 D=none->Q (.ref D) (upd H2 D (.lst (katRev b (p.toList.map fun i=>(katRev b xs).getD i .non))))) :
  wpAny (model X.prog X.w) X.A (call (.builtin "sorted") [.ref l] kw) (EP X pins σ Q) X.xe s:=by
 refine call_function_entry_kw kind_sorted plain_sorted entry_sorted hs1 ?_;unfold Builtin.«sorted»;refine z6 (m:=checkCount "sorted" 1 1 _) (Za (z6 (src _ fun h0 tk its kp rv=>?_)));have I0:Inv X pins σ H { s with heap:=h0,toks:=tk }:=I.kept (t':=tk) kp;obtain⟨m,F0⟩:=I0.fr;have li:its.length=xs.length:=rv.length.symm;refine CO (vs:=its) (b:=b) F0 (gP X.base h0 X.env.locals) (by omega) hs2 hs3 fun D kS e1 h1 F1 N1 hDk hD=>?_;have nD:=N1 (D,seqObj "list" #[] e1) (.tail _ (.head _));have nK:=N1 (kS,seqObj "list" #[] 0) (.head _);have hds:h0.get? D=none:=by
  cases g:h0.get? D with
  |none=>rfl
  |some o=>exact absurd (hD (D,o) (cu g nD.2.1 nD.2.2)) (Yj _)
 have hks:h0.get? kS=none:=by
  cases g:h0.get? kS with
  |none=>rfl
  |some o=>exact absurd (Nat.lt_trans hDk (hD (kS,o) (cu g nK.2.1 nK.2.2))) (Yj _)
 have xk:=I0.exOk hks nK.2.1 nK.2.2;have xd:=I0.exOk hds nD.2.1 nD.2.2;have hlx:∀b∈[kS,D],ExOk X b:=fun b' hb=>by
  simp only[Zs,Z1,YN]at hb;rcases hb with rfl|rfl
  ·exact xk
  ·exact xd
 have fpk:=I0.fpW (l:=[kS,D]) (by simp) xk hks;have fpd:=I0.fpW (l:=[kS,D]) (by simp) xd hds;have mv0:∀b u,b≠X.env.locals->b∉([]:List Addr)->h0.get? b=some u->h1.get? b=some u:=fun b u hL _ g=>by
  cases qb:X.base.get? b with
  |none=>exact(N1 (b,u) (.tail _ (.tail _ (cu g hL qb)))).1
  |some o =>have e':=I0.bk b o qb;rw[g]at e';cases e';exact F1.keep b u qb
 have I1:Inv X pins σ H { s with heap:=h1,toks:=tk }:=Inv.movedF (ch:=[]) (s:={ s with heap:=h0,toks:=tk }) (t':=tk) I0 (fun b hb=>absurd hb (by simp)) mv0 ⟨m,F0.ns,F1.ns⟩;have I2:=I1.widen hlx;have hkd:kS≠D:=Yw hDk;refine mI (X:=wX X [kS,D]) (H1:=H) (D:=D) (e1:=e1) (ks:=ks) (xs:=xs) (its:=its) hkd rv hl (F _) spec (fun as us e2 H' s' S la=>?_) its [] [] 0 H { s with heap:=h1,toks:=tk } ⟨I2,Same.refl H,fpk,fpd,nK.2.2,nD.2.2,nK.1,nD.1,F1.ns,.nil,fun i a k h=>by simp at h⟩ (by simp) (by simpa using li);have hN:its.length=xs.length:=li;have lu:us.length=xs.length:=by rw[<-S.vals.length,la]
 have rvR:Vals (katRev b xs) (katRev b its):=rY b rv;have lR:(katRev b xs).length=xs.length:=kat_len b xs;have gk:∀i,i<xs.length->∃(v:V) (u:Value) (k:ZKey),RelV v u/\(katRev b us).getD i Value.none=u/\k∈ks/\(katRev b (ks.map ZKey.nums)).getD i []=k.nums/\k.at H' v:=fun i hi=>by
  obtain⟨j,hj,e1⟩:∃j,j<xs.length/\∀{α:Type} (l:List α),l.length=xs.length->(katRev b l)[i]?=l[j]?:=by
   cases b with
   |false=>exact⟨i,hi,fun l _=>rfl⟩
   | true=>exact⟨xs.length - 1 - i,by omega,fun l hl'=>by
     show l.reverse[i]?=_;rw[List.getElem?_reverse (by omega),hl']⟩
  have h1:as[j]?=some (as[j]'(by omega)):=Ze (by omega);have h2:ks[j]?=some (ks[j]'(by omega)):=Ze (by omega);obtain⟨u,gu,ru⟩:=S.vals.get h1;refine⟨_,u,_,ru,?_,ZI (show j<ks.length by omega),?_,S.keys j _ _ h1 h2⟩
  ·rw[Zf,e1 us lu,gu];rfl
  ·rw[Zf,e1 (ks.map ZKey.nums) (by rw[Zd,hl]),ZB,h2];rfl
 have fin:∀p:Array Nat,POk xs.length p->p.size=xs.length/\LS (fun i j=>HT.lexLt ((katRev b (ks.map ZKey.nums)).getD i []) ((katRev b (ks.map ZKey.nums)).getD j [])) p xs.length ->
   KatFin X.base X.env.locals m kS D us e2 e1 (katRev b (p.toList.map fun i=>(katRev b its).getD i Value.none)) (fun s4=>EP X pins σ Q (.ref D) s4) s':=fun p hp hs=>by
  refine KatFin.intro (news:=(kS,seqObj "list" (List.toArray us) e2)::fS X.base s'.heap X.env.locals kS) S.fr (gi S.hk S.fk.2.1 S.bk) (.head iK) fun h3 c F3 N3=>?_;have mv3:=gh (fun b' o qb=>S.I.bk b' o qb) F3 N3;have hd3:h3.get? D=some (seqObj "list" #[] e1):=mv3 D _ S.fd.2.1 (fun zz=>hkd (Zr.mp zz).symm) S.hd;refine KasFin.intro (news:=(D,seqObj "list" #[] e1)::fS X.base h3 X.env.locals D) (s:={ s' with heap:=h3 }) F3 (gi hd3 S.fd.2.1 S.bd) (.head iK) fun h4 c4 F4 N4=>?_;have mv4:=gh (fun b' o qb=>F3.keep b' o qb) F4 N4;have hch:∀b∈[kS,D],bh (wX X [kS,D]) pins H' b:=fun b' hb=>by
   simp only[Zs,Z1,YN]at hb;rcases hb with rfl|rfl
   ·exact S.fk
   ·exact S.fd
  have mv:∀b u,b≠X.env.locals->b∉[kS,D]->s'.heap.get? b=some u->h4.get? b=some u:=fun b' u hL hx g=>mv4 b' u hL (fun zz=>hx (by rw[Zr.mp zz];simp)) (mv3 b' u hL (fun zz=>hx (by rw[Zr.mp zz];simp)) g);have pl:∀i∈p.toList,i<xs.length:=fun i hi=>by have:=(hp.mem_iff).mp (Array.mem_toList_iff.mp hi);simpa using this
  have vals:∀(w:List Nat),(∀i∈w,i<xs.length)->Vals (w.map fun i=>(katRev b xs).getD i .non) (w.map fun i=>(katRev b its).getD i Value.none):=fun w=>by
   induction w with
   |nil=>intro _;exact .nil
   |cons i w ih =>intro hw;have hi:=hw i Yl;have hx:(katRev b xs)[i]?=some ((katRev b xs)[i]'(by omega)):=Ze (by omega);obtain⟨u,gu,ru⟩:=rvR.get hx;refine .cons ?_ (ih fun j hj=>hw j (ZA _ hj));show RelV ((katRev b xs).getD i V.non) ((katRev b its).getD i Value.none);rw[Zf,Zf,hx,gu];exact ru
  have lp:p.toList.length=xs.length:=by have:=hs.1;simpa using this
  have new:ObjOk X.prog X.w (upd H' D (.lst (katRev b (p.toList.map fun i=>(katRev b xs).getD i .non)))) h4 D (.lst (katRev b (p.toList.map fun i=>(katRev b xs).getD i .non))):=⟨by rw[kat_len,Zd,lp];exact eC (by omega),_,c4,rY b (vals _ pl),(N4 _ (.head _)).1⟩
  have I4:=Inv.tookF (X:=wX X [kS,D]) (ch:=[kS,D]) (a:=D) (o:=.lst (katRev b (p.toList.map fun i=>(katRev b xs).getD i .non))) (t':=s'.toks) S.I (by simp) hch mv ⟨m,S.ns,F4.ns⟩ new;exact⟨.ref D,_,I4.narrow I.ok (fun b' hb=>(hlx b' hb).old),rfl,q p H' D hp hs.2 S.sm S.fd.1⟩
 have go:∀κ:SortKind,(∀(i j:Nat) (C:Bool->Shared->Prop),i<xs.length->j<xs.length->C (HT.lexLt ((katRev b (ks.map ZKey.nums)).getD i []) ((katRev b (ks.map ZKey.nums)).getD j [])) s'->kas_ask X.prog X.w X.A.in1.in1 κ (katRev b us) i j C s') ->
   ZGo X.prog X.w X.A.in1.in1 b us its (fun out=>KatFin X.base X.env.locals m kS D us e2 e1 out (fun s4=>EP X pins σ Q (.ref D) s4)) κ s':=fun κ hask=>by
  refine⟨_,xN (katRev b (ks.map ZKey.nums)),?_,?_⟩
  ·rw[hN];exact hask
  ·rw[hN];exact fun p hp hs=>fin p hp ⟨by have:=hp.size_eq;simpa using this,hs⟩
 refine⟨fun n2=>?_,fun n2=>?_⟩
 rotate_left
 ·have:=fin (List.toArray (List.range its.length)) (by rw[hN];exact Array.Perm.refl _) ⟨by simpa using hN,fun i j h1 h2=>by omega⟩;rw[Y3]at this;exact this
 rcases hne with hI|hB
 ·refine kas_kind (T:=.type "int") (by omega) (fun u hu=>?_) rfl rfl (go _ fun i j C hi hj hC=>?_)
  ·obtain⟨j,hj,rfl⟩:=List.getElem_of_mem hu;have h1:as[j]?=some (as[j]'(by omega)):=Ze (by omega);have h2:ks[j]?=some (ks[j]'(by omega)):=Ze (by omega);obtain⟨u,gu,ru⟩:=S.vals.get h1;have ky:=S.keys j _ _ h1 h2;obtain⟨n',en⟩:=hI _ (ZI (show j<ks.length by omega));rw[en]at ky;rw[show as[j]'(by omega)=V.int n' from ky]at ru;obtain⟨t,rfl⟩:=ru;rw[Ze hj]at gu;rw[Zw gu];exact .now
  ·obtain⟨v,u,k1,ru,eu,m1,en,at1⟩:=gk i hi;obtain⟨v2,u2,k2,ru2,eu2,m2,en2,at2⟩:=gk j hj;obtain⟨n1,rfl⟩:=hI _ m1;obtain⟨n2,rfl⟩:=hI _ m2;rw[show v=V.int n1 from at1]at ru;rw[show v2=V.int n2 from at2]at ru2;obtain⟨t,rfl⟩:=ru;obtain⟨t2,rfl⟩:=ru2;unfold kas_ask;rw[eu,eu2];rw[en,en2]at hC;refine kat_lt_int ?_;have e1':HT.lexLt (ZKey.i n1).nums (ZKey.i n2).nums=decide (n1<n2):=tX n1 n2;rw[e1']at hC;exact hC
 ·have tups:∀(vs:List V) (ws:List Value) (n:Nat),Vals vs ws->n+vs.length=ks.length->(∀(i:Nat) (v:V) (k:ZKey),vs[i]?=some v->ks[n+i]?=some k->k.at H' v)->∃fs:List Value,KatTups s'.heap ws fs/\fs.length=ws.length/\∀v∈fs,∃i t,v=.int i t:=fun vs=>by
   induction vs with
   |nil =>intro ws n hv _ _;cases hv;exact⟨[],KatTups.nil,rfl,fun v h=>nomatch h⟩
   |cons v vs ih =>
    intro ws n hv hl' h;cases hv with
    |cons rv1 hv =>
     rw[Zq]at hl';have hkn:ks[n]?=some (ks[n]'(by omega)):=Ze (by omega);obtain⟨ns,en,ne⟩:=hB _ (ZI (show n<ks.length by omega));rw[en]at hkn;obtain⟨a,rfl,ea⟩:=h 0 v _ rfl (by rw[Nat.add_zero];exact hkn);cases rv1;obtain⟨ia,ra,pa,za⟩:=S.I.tuple (SqT.of (K:=X.K) ea);obtain⟨oa,eo,ca,n1,da⟩:=id pa;obtain⟨x,t,ia',rfl⟩:∃x t r,ia=.int x t::r:=by
      cases cm ra with
      |nil=>exact absurd rfl ne
      |cons x t r=>exact⟨x,t,_,rfl⟩
     obtain⟨fs,f1,f2,f3⟩:=ih _ (n+1) hv (by omega) (fun i w k' h1 h2=>h (i+1) w k' h1 (by rw[show n+(i+1)=n+1+i by omega];exact h2));refine⟨.int x t::fs,KatTups.cons eo ca da rfl f1,by rw[Zq,Zq,f2],fun v hv=>?_⟩;rcases Zs.mp hv with rfl|hv
     ·exact⟨_,_,rfl⟩
     ·exact f3 v hv
  obtain⟨fs,t1,t2,t3⟩:=tups as us 0 S.vals (by omega) (fun i v k h1 h2=>S.keys i v k h1 (by rw[Nat.zero_add]at h2;exact h2));refine kat_kind (T:=.type "int") t1 (by omega) (fun v hv=>?_) rfl (go _ fun i j C hi hj hC=>?_)
  ·obtain⟨i,t,rfl⟩:=t3 v hv;exact .now
  ·obtain⟨v,u,k1,ru,eu,m1,en,at1⟩:=gk i hi;obtain⟨v2,u2,k2,ru2,eu2,m2,en2,at2⟩:=gk j hj;obtain⟨n1,rfl,_⟩:=hB _ m1;obtain⟨n2,rfl,_⟩:=hB _ m2;obtain⟨a1,rfl,ha1⟩:=at1;obtain⟨a2,rfl,ha2⟩:=at2;cases ru;cases ru2;obtain⟨ia,ra,pa,za⟩:=S.I.tuple (SqT.of (K:=X.K) ha1);obtain⟨ib,rb,pb,zb⟩:=S.I.tuple (SqT.of (K:=X.K) ha2);obtain⟨oa,eoa,ca,q1,da⟩:=id pa;obtain⟨ob,eob,cb,q2,db⟩:=id pb;unfold kas_ask;rw[eu,eu2];rw[en,en2]at hC;exact kat_lt eoa da eob db (kl _ _ _ _ 0 (cm ra) (cm rb) (by rw[Zg,Zg,<-ra.length,<-rb.length,Zd,Zd]) hC)
end
open PySem PySem.Spec PyProof.Rows PySem.W
def F9(j:Int)(t u v:Tok):Obj:={ cls:=.type "range",data:=.fields #[.int 0 t,.int j u,.int 1 v] }
def SrcH(H:Hp)(l:Addr)(xs:List V):Prop:=H l=some (.lst xs)\/∃(n:Nat) (t u v:Tok),n<=4096/\H l=some (eI l (F9 (n:Int) t u v))/\xs=(List.range n).map fun i:Nat=>V.int (i:Int)
section
variable{X:Cx}{pins:List (Addr×Obj)}{σ:St}{H:Hp}{s:Shared}
theorem CA{l:Addr}{xs:List V}(hc:X.calm=true)(I:Inv X pins σ H s)(h:SrcH H l xs)(hz:xs.length<=4096):zp X s l xs:=by
 rcases h with h|⟨n,t,u,v,hn,h,rfl⟩
 ·exact yJ I h hz
 ·intro Q hq;have hr:IsRange s.heap l 0 (n:Int) 1 t u v:=(I.hok l _ h).1;have hh:X.A.in1.handled=none:=I.ok.hd hc;have h1:Builtin.Range.rangeSize 0 (n:Int) 1=((n:Nat):Int):=by rw[rangeSize_one];split<;>omega
  refine nh hh hr (small_one (by omega) (by omega) (by omega) (by omega)) h1 (by omega) fun h' tk acc kp hI=>hq h' tk acc.toList kp ?_;have go:∀(its:List Value) (k:Nat),(∀(i:Nat) (v:Value),its[i]?=some v->∃t,v=.int ((k+i:Nat):Int) t)->Vals ((List.range' k its.length).map fun i:Nat=>V.int (i:Int)) its:=by
   intro its;induction its with
   |nil=>intro k _;exact .nil
   |cons x its ih =>
    intro k hx;obtain⟨t,rfl⟩:=hx 0 x rfl;rw[Zq,List.range'_succ,ZX];refine .cons ⟨t,?_⟩ (ih (k+1) fun i v hv=>?_)
    ·rfl
    ·obtain⟨t,e⟩:=hx (i+1) v hv;exact⟨t,by rw[e];congr 2;omega⟩
  have e:=go acc.toList 0 fun i v hv=>by obtain⟨t,e⟩:=hI.2 i v (by rw[<-hv,Array.getElem?_toList]);refine⟨t,by rw[e];congr 1;omega⟩
  rw[Zl,hI.1]at e;rw[List.range_eq_range'];exact e
end
def EM(sp:Hp->List V->Hp->VK->Prop)(sm:Hp->Hp->Prop)(end':Hp->Prop)(H:Hp)(xs:List V)(ks:List ZKey)(Q:VK):Prop :=
 xs.length<=4096/\ks.length=xs.length/\wL ks /\
 (∀(i:Nat) (v:V) (key:ZKey) (H':Hp),xs[i]?=some v->ks[i]?=some key->sm H H'->∀R:VK,(∀kv H'',Same H' H''->key.at H'' kv->R kv H'')->sp H' [v] H' R) /\
 ∀(p:Array Nat) (H2:Hp) (D:Addr),POk xs.length p->LS (fun i j=>HT.lexLt ((ks.map ZKey.nums).getD i []) ((ks.map ZKey.nums).getD j [])) p xs.length->sm H H2->end' H2->H2 D=none->Q (.ref D) (upd H2 D (.lst (p.toList.map fun i=>xs.getD i .non)))
def CF(P:Addr)(q:Str)(lpos:Pos)(sp:Sp)(ta:TA):TE:=fun σ H0 Q=>ta σ H0 fun vs H=>∃(l:Addr) (xs:List V) (ks:List ZKey),vs=[.ref l]/\SrcH H l xs/\aK q P lpos H/\EM (fun _ vs H Q=>sp vs H Q E0) (SameT P) (aK q P lpos) H xs ks Q
theorem SrcH.moved{P:Addr}{q:Str}{lpos:Pos}{H H2:Hp}{l:Addr}{xs:List V}(h:SrcH H l xs)(tab:aK q P lpos H)(s:SameT P H H2):SrcH H2 l xs:=by
 obtain⟨ps,tP,_⟩:=tab;rcases h with h|⟨n,t,u,v,hn,h,e⟩
 ·exact .inl (s _ _ h fun z=>by rw[z,tP]at h;cases h)
 ·have hne:l≠P:=fun z=>by rw[z,tP]at h;cases h
  exact .inr ⟨n,t,u,v,hn,s _ _ h hne,e⟩
section
variable{X:Cx}{c P:Addr}{pins:List (Addr×Obj)}{σ:St}
theorem AD{k:Nat}{x:Str}{sp:Sp}{e body:Expr}{params:Arguments}{scope:Scope}{ta:TA}{p lpos kpos pos:Pos}(hc:X.calm=true)(hm:X.mg "sorted" = none)(hcode:X.env.code=.ref c)(C:CodeHd X.base c P)(B:Blt X.base X.mg)(F:LamOk X.prog X.w X.K X.mg X.base k (X.env.qual++"<lambda>") body scope x sp)(hr:Room (k+3) X.A)(ha:QA X [e] ta)(hbd:∀(pm ct:Value) (c':Addr) (s:Shared) (u:Value),BindsTo s (qa (X.env.qual++"<lambda>") params body scope [] pm c' ct) ⟨[u],[]⟩ [(x,u)]:=by intros;exact .of_eq rfl)(hge:X.env.globals=mainGlobals:=by rfl)(hdef:defaultsOf params X.env=([],[]):=by rfl)(hcl:closureFor scope X.env=pure []:=by rfl)(hg:Gl X "sorted":=by rfl)(hn:aW e=true:=by rfl) :
  QE X (.Call (.Name "sorted" p) [e] [⟨some "key",.Lambda params body scope lpos,kpos⟩] pos) (CF P (X.env.qual++"<lambda>") lpos sp ta):=by
 refine⟨?_⟩;intro pins s σ H0 Q I h;obtain⟨N,S,len,hbody⟩:=F.ex;refine wpAny_Call_Name_kw (fY I hg hm PyProof.Rows.boot_sorted ?_);have h1:=aZ (es:=[]) (env:=X.env) hn;refine PyProof.Rows.callWith_kw (thn (ha.h pos pins s σ H0 _ I h) fun us s1 hz9=>?_) (he:=by rw[h1];rfl) (hplain:=by rw[h1];rfl) (hall:=rfl) (hkw:=rfl);obtain⟨vs,H1,I1,r1,q1⟩:=hz9;obtain⟨l,xs,ks,rfl,hH,tab,hz,hl,hne,spec,q⟩:=q1;obtain⟨u,rfl,ru⟩:=df r1;cases ru;have hk:PK X [⟨some "key",.Lambda params body scope lpos,kpos⟩] (fK (wG [] X P params body scope lpos) fx):=Cg (Cb hcode hge C B hdef hcl) D9;refine thn (hk pos pins s1 σ H1 (fun zs H2=>∃f,zs=[.ref f]/\sR X P (X.env.qual++"<lambda>") lpos params body scope [] H1 f H2) I1 (Aa tab fun f H2 mk=>⟨f,rfl,mk⟩)) fun ws s2 hz9=>?_;obtain⟨zs,H2,I2,rz,f,e1,mk⟩:=hz9;subst e1;obtain⟨u,rfl,ru⟩:=df rz;cases ru;obtain⟨c',ct,sT,lt,hf,hc',nf,nc⟩:=mk;have F1:FnOk X.prog X.w X.K X.mg X.base CX0 (k+1) f (qa (X.env.qual++"<lambda>") params body scope [] ((X.mg "__name__").getD .none) c' ct) [x] _:=Dr (params:=params) (pm:=(X.mg "__name__").getD .none) (ct:=ct) (c':=c') S len fun A outer s H vs Q E hr' hs=>let⟨t,t1,t2⟩:=hbody f c' A outer s H vs Q E hr' hs;⟨t,t1.h,t2⟩
 refine sP (b:=false) I2 (CA hc I2 (hH.moved tab sT) hz) hz hl hne (ksk_s1 _ _) (fun x=>ksk_l1 _ _) (fun x=>ksk_t1 f x) (Cu F1 (fun s u _=>hbd _ _ _ s u) (hr.mono (by omega) |>.in1 |>.in1)) (fun i v key H' g1 g2 g3 R hR=>⟨g3 _ _ hf,g3 _ _ hc',spec i v key H' g1 g2 (sT.trans (.of g3)) R hR⟩) fun p H3 D a1 a2 a3 a4=>q p H3 D a1 a2 (sT.trans (.of a3)) ?_ a4;obtain⟨ps',e1,e2,e3⟩:=lt;exact⟨ps',a3 _ _ e1,e2,e3.imp id fun⟨c'',z1,z2⟩=>⟨c'',z1,a3 _ _ z2⟩⟩
end
open PySem PySem.Spec PyProof.Rows PySem.W
section
variable{prog:Program}{w:World}{A:Around}{E:Value->Shared->Prop}{s:Shared}{d it v:Addr}{es:Array DictEntry}{ep i:Nat}
theorem yo{Q:Value->Shared->Prop}(hv:s.heap.IsValuesView v d)(hm:DRaw s.heap d es ep)(hQ:Q (.ref s.heap.objs.size) { s with heap:=s.heap.push { cls:=.type "dict_valueiterator",data:=.fields #[.ref d,.int 0 0,.int es.size 0,.int ep 0] } }):wpAny (model prog w) A (pyIter (.ref v)) Q E s:=by
 obtain⟨ov,e1,e2,e3⟩:=id hv;obtain⟨o,f1,f2,f3⟩:=id hm;refine wpAny_pyIter_slot hv.typeIs PySem.F.slot_dict_values_iter (ZR PySem.F.slot_dict_values_iter hv.typeIs PySem.F.entry_dict_values_iter ?_ (PySem.F.args_dict_values_iter_1 _));unfold Builtin.«dict_values.__iter__»;refine z6 (Za (z6 ?_));unfold Builtin.Dict_items.dictOf;refine z6 (ZW e1 e3 (x:=.ref d) rfl (Za (z6 ?_)));unfold Builtin.Dict_items.newIterator;refine z6 (YX f1 f3 (z6 (wpAny_dictEpoch f1 f3 ?_)));have own:Builtin.Dict_items.ownsTuple "dict_valueiterator" = false:=by decide
 simp only[own,Yy,YM];refine ZH (Za ⟨_,rfl,"dict_valueiterator",_,⟨_,Zh _ rfl,rfl⟩,Yn.lookup,?_⟩);simpa[rawInt]using hQ
theorem yn{Q:Option Value->Shared->Prop}(hit:s.heap.IsValIter it d i es.size ep)(hm:DRaw s.heap d es ep)(hx:i<es.size)(hQ:∀h',h'.IsValIter it d (i+1) es.size ep->Heap.SameBut it s.heap h'->Q (some es[i].val) { s with heap:=h' }):wpAny (model prog w) A (pyNext (.ref it)) Q E s:=by
 obtain⟨o,ho,hc,hd⟩:=id hit;obtain⟨od,hod,hcd,hdd⟩:=id hm;unfold pyNext;refine z6 (wpAny_attempt (ZM (name:=Str.ofString "__next__") hit.typeIs Yn
  (ZR Yn hit.typeIs PySem.F.entry_dict_valueiterator_next ?_ (PySem.F.args_dict_valueiterator_next_1 _))))
 refine z6 (Za ?_);refine z6 ?_;refine z6 ?_
 first|refine z6 (Y2 hit.typeIs (Za ?_))|refine z6 (wpAny_typeNameOf_valiter hit.typeIs (Za ?_))
 refine z6 (wpAny_fieldsOf ho hd ?_);have hown:Builtin.Dict_items.ownsTuple "dict_valueiterator" = false:=by decide
 simp only[hown,Yy,YM];show wpAny _ _ (if(Value.ref d==Value.none)=true then _ else _) _ _ s;rw[HH (show¬((Value.ref d==Value.none)=true)from Zo)];refine z6 (Za ?_);refine z6 (YX hod hdd ?_);rw[HH (by simp)];refine z6 (Za ?_);refine z6 (wpAny_dictEpoch hod hdd ?_);rw[HH (by simp)];refine Za ?_;simp only[show¬((i:Int)<0)from by omega,YM,ZP,Array.getElem?_eq_getElem hx];refine z6 ?_
 first|refine z6 (Y2 hit.typeIs (Za ?_))|refine z6 (wpAny_typeNameOf_valiter hit.typeIs (Za ?_))
 refine z6 (wpAny_isOneOf_valiter hit.typeIs ?_);show wpAny _ _ (setField (.ref it) 1 (rawInt ((i:Int)+1)) >>= _) _ _ s;refine z6 (YB ho hd (by simp) ?_);have hit':(s.heap.update it (Obj.mapFields (·.setIfInBounds 1 (rawInt ((i:Int)+1))))).IsValIter it d (i+1) es.size ep :=
  ⟨_,Yx _ ho (YR (Yc hd _)),(Obj.cls_mapFields ..).trans hc,by rw[Yc hd];simp[rawInt]⟩
 refine z6 (Z7 ?_);refine z6 (wpAny_isOneOf_valiter (s:={ s with heap:=s.heap.update it (Obj.mapFields (·.setIfInBounds 1 (rawInt ((i:Int)+1)))) }) hit'.typeIs ?_);refine z6 (wpAny_isOneOf_valiter (s:={ s with heap:=s.heap.update it (Obj.mapFields (·.setIfInBounds 1 (rawInt ((i:Int)+1)))) }) hit'.typeIs ?_);show wpAny _ _ (pure es[i].val) _ _ _;exact Za (Za ⟨_,rfl,Za (hQ _ hit' (ZJ ..))⟩)
theorem AJ{Q:Option Value->Shared->Prop}(hh:A.handled=none)(hit:s.heap.IsValIter it d es.size es.size ep)(hm:DRaw s.heap d es ep)(hQ:∀h',Heap.ExtBut it s.heap h'->Q none { s with heap:=h' }) :
  wpAny (model prog w) A (pyNext (.ref it)) Q E s:=by
 obtain⟨o,ho,hc,hd⟩:=id hit;obtain⟨od,hod,hcd,hdd⟩:=id hm;unfold pyNext;refine z6 (wpAny_attempt (ZM (name:=Str.ofString "__next__") hit.typeIs Yn
  (ZR Yn hit.typeIs PySem.F.entry_dict_valueiterator_next ?_ (PySem.F.args_dict_valueiterator_next_1 _))))
 refine z6 (Za ?_);refine z6 ?_;refine z6 ?_
 first|refine z6 (Y2 hit.typeIs (Za ?_))|refine z6 (wpAny_typeNameOf_valiter hit.typeIs (Za ?_))
 refine z6 (wpAny_fieldsOf ho hd ?_);have hown:Builtin.Dict_items.ownsTuple "dict_valueiterator" = false:=by decide
 simp only[hown,Yy,YM];show wpAny _ _ (if(Value.ref d==Value.none)=true then _ else _) _ _ s;rw[HH (show¬((Value.ref d==Value.none)=true)from Zo)];refine z6 (Za ?_);refine z6 (YX hod hdd ?_);rw[HH (by simp)];refine z6 (Za ?_);refine z6 (wpAny_dictEpoch hod hdd ?_);rw[HH (by simp)];refine Za ?_;simp only[show¬((es.size:Int)<0)from by omega,YM,ZP,Array.getElem?_eq_none (Zb _)];refine z6 ?_
 first|refine z6 (Y2 hit.typeIs (Za ?_))|refine z6 (wpAny_typeNameOf_valiter hit.typeIs (Za ?_))
 show wpAny _ _ (setField (.ref it) 0 .none >>= _) _ _ s;refine z6 (YB ho hd (by simp) ?_);show wpAny _ _ (newExc (.type "StopIteration") [] >>= _) _ _ _;refine z6 ?_;simp only[newExc,newTuple];refine z6 (ZH ?_ (by size_fits));refine z6 (m:=firstArgMember _ _) (wpAny_of_eq (a:=Value.none) (by first|rfl|(simp only[firstArgMember];rfl)) ?_);refine ZH ?_ (by size_fits);simp only[raiseNew];refine z6 (wpAny_handled ?_);rw[show A.in1.handled=none from hh];refine z6 (Za (wpAny_throw ?_));refine z6 (wpAny_isInstance (T:="StopIteration") (b:=true) ⟨_,Zh _ rfl,rfl⟩ isSubtype_stop ?_);exact Za (hQ _ (((ZJ ..).extBut.push _).push _))
theorem wa(hh:A.handled=none)(I d:Addr)(hne:d≠I)(es:Array DictEntry)(ep:Nat) :
  Walks prog w A I [I,d] [I] es.size (fun i v=>∃e,es[i]?=some e/\v=e.val) (fun i h=>h.IsValIter I d i es.size ep/\DRaw h d es ep) where
 sub:=fun b hb=>by simp at hb;simp[hb]
 frame:=fun _ _ _ st hk=>⟨let⟨o,ho,r⟩:=st.1;⟨o,hk I (by simp) o ho,r⟩,st.2.at' fun o e=>hk d (by simp) o e⟩
 item:=fun i s Q E hi st hQ=>yn st.1 st.2 hi fun h' hit' hs'=>hQ _ h' s.toks ⟨es[i],by simp[hi],rfl⟩ ⟨hit',st.2.at' fun o e=>hs'.extBut d o hne e⟩ fun b o hb e=>hs'.extBut b o (fun h=>hb (by simp[h])) e
 done:=fun s Q E st hQ=>AJ hh st.1 st.2 fun h' he'=>hQ h' s.toks fun b o hb e=>he' b o (fun h=>hb (by simp[h])) e
 self:=fun _ _ _ _ st hQ=>wpAny_pyIter_valiter st.1 hQ
theorem AK:KdlSrc prog w "dict_values" v d es.size (fun i v=>∃e,es[i]?=some e/\v=e.val) (fun h=>h.IsValuesView v d/\DRaw h d es ep) where
 type:=fun _ hm=>hm.1.typeIs
 there:=fun _ hm=>⟨let⟨_,ho,_⟩:=hm.1;Zk ho,hm.2.lt⟩
 keep:=fun _ _ hm hk=>⟨let⟨o,ho,x⟩:=hm.1;⟨o,hk v (.inl rfl) o ho,x⟩,hm.2.at' fun o e=>hk d (.inr rfl) o e⟩
 notList:=by decide
 notTuple:=by decide
 hint:=fun _ _ _ _ hm hq=>kdl_hint_values hm.1.typeIs hq
 iter:=fun _ _ hh hm=>⟨_,_,(fun _ _ hq=>yo hm.1 hm.2 hq),wa hh _ d (Zt hm.2.lt) es ep,⟨⟨_,Zh _ rfl,rfl,rfl⟩,hm.2.at' fun o e=>z9 _ e⟩⟩
end
open PySem PySem.Spec PyProof.Rows PySem.W
section
variable{prog:Program}{w:World}{A:Around}{E:Value->Shared->Prop}{s:Shared}
theorem mj{it l:Addr}{i:Nat}{items:Array Value}{x:Value}{Q:Value->Shared->Prop}(hit:s.heap.IsTupleIter it l i)(hl:s.heap.IsTuple l items)(hx:items[i]?=some x)(hQ:∀h',h'.IsTupleIter it l (i+1)->Heap.SameBut it s.heap h'->Q x { s with heap:=h' }):wpAny (model prog w) A (Builtin.SmallTypes.nextOf (.ref it)) Q E s:=by obtain⟨o,ho,hc,hd⟩:=id hit;obtain⟨ol,g1,_,nl,g2⟩:=hl;unfold Builtin.SmallTypes.nextOf;refine z6 (ZM (name:=Str.ofString "__next__") hit.typeIs YO (ZR YO hit.typeIs PySem.F.entry_tuple_iterator_next ?_ (PySem.F.args_tuple_iterator_next_1 _)));show wpAny _ _ (field (.ref it) 0 >>= _) _ _ s;refine z6 (ZW ho hd (x:=.ref l) rfl ?_);show wpAny _ _ (if(Value.ref l==Value.none)=true then _ else _) _ _ s;rw[HH (show¬((Value.ref l==Value.none)=true)from Zo)];show wpAny _ _ (field (.ref it) 1 >>= _) _ _ s;refine z6 (ZW ho hd (x:=.int i 0) rfl ?_);show wpAny _ _ (seqItems? (.ref l) >>= _) _ _ s;refine z6 (YQ g1 g2 ?_);simp only[ZP,hx];refine z6 (YB ho hd (by simp) (Za ⟨x,rfl,Za (hQ _ ⟨_,Yx _ ho (YR (Yc hd _)),(Obj.cls_mapFields ..).trans hc,by rw[Yc hd];simp[rawInt]⟩ (ZJ ..))⟩))
theorem nO{it l:Addr}{i:Nat}{items:Array Value}{Q:Value->Shared->Prop}(hh:A.handled=none)(hit:s.heap.IsTupleIter it l i)(hl:s.heap.IsTuple l items)(hx:items[i]?=none)(hE:∀h' e,Heap.ExtBut it s.heap h'->(∃o,h'.get? e=some o/\o.cls=.type "StopIteration")->E (.ref e) { s with heap:=h' }):wpAny (model prog w) A (Builtin.SmallTypes.nextOf (.ref it)) Q E s:=by
 obtain⟨o,ho,hc,hd⟩:=id hit;obtain⟨ol,g1,_,nl,g2⟩:=hl;unfold Builtin.SmallTypes.nextOf;refine z6 (ZM (name:=Str.ofString "__next__") hit.typeIs YO (ZR YO hit.typeIs PySem.F.entry_tuple_iterator_next ?_ (PySem.F.args_tuple_iterator_next_1 _)));show wpAny _ _ (field (.ref it) 0 >>= _) _ _ s;refine z6 (ZW ho hd (x:=.ref l) rfl ?_);show wpAny _ _ (if(Value.ref l==Value.none)=true then _ else _) _ _ s;rw[HH (show¬((Value.ref l==Value.none)=true)from Zo)];show wpAny _ _ (field (.ref it) 1 >>= _) _ _ s;refine z6 (ZW ho hd (x:=.int i 0) rfl ?_);show wpAny _ _ (seqItems? (.ref l) >>= _) _ _ s;refine z6 (YQ g1 g2 ?_);simp only[ZP,hx];refine z6 (YL (z6 (YB ho hd (by simp) ?_)));show wpAny _ _ (newExc (.type "StopIteration") [] >>= _) _ _ _;refine z6 ?_;simp only[newExc,newTuple];refine z6 (ZH ?_ (by size_fits));refine z6 (m:=firstArgMember _ _) (wpAny_of_eq (a:=Value.none) (by first|rfl|(simp only[firstArgMember];rfl)) ?_);refine ZH ?_ (by size_fits);simp only[raiseNew];refine z6 (wpAny_handled ?_)
 first|rw[show A.in1.handled=none from hh]|rw[hh]
 refine z6 (Za (wpAny_throw ?_));exact hE _ _ (((ZJ ..).extBut.push _).push _) ⟨_,Zh _ rfl,rfl⟩
theorem xo(hh:A.handled=none)(it l:Addr)(hne:l≠it)(items:Array Value):Draws prog w A it [it,l] items.size (fun i v=>items[i]?=some v) (fun i h=>h.IsTupleIter it l i/\h.IsTuple l items) where
 live:=fun _ _ st=>let⟨o,ho,_⟩:=st.1;⟨o,ho⟩
 frame:=fun _ _ _ st hk=>⟨let⟨o,ho,r⟩:=st.1;⟨o,hk it (by simp) o ho,r⟩,let⟨o,ho,r⟩:=st.2;⟨o,hk l (by simp) o ho,r⟩⟩
 item:=fun i s Q E hi st hQ=>mj st.1 st.2 (x:=items[i]) (by simp[hi]) fun h' hit' hs'=>hQ _ h' s.toks (by simp[hi]) ⟨hit',st.2.extBut hs'.extBut hne⟩ hs'
 done:=fun s Q E st hE=>nO hh st.1 st.2 (by simp) hE
open PySem.AutoSeq1 (wpAny_loadPart')in
theorem ss(l:Addr)(items:Array Value)(n:Nat)(dct:Option Addr)(sl:Array (Option Value)) :
  Meets (Builtin.«enumerate.__new__» ⟨[.type "enumerate",.ref l],[]⟩) (fun _ R s=>s.heap.get? l=some { cls:=.type "tuple",dict:=dct,data:=.seq items n,slots:=sl } /\
   R (.ok (.ret (.ref (s.heap.push { cls:=.type "tuple_iterator",data:=.fields #[.ref l,.int 0 0] }).objs.size)))
    { s with heap:=(s.heap.push { cls:=.type "tuple_iterator",data:=.fields #[.ref l,.int 0 0] }).push { cls:=.type "enumerate",data:=.fields #[.none,.bool false,.ref s.heap.objs.size,rawInt 0,.none,.none] } }) :=
 .of_wp fun prog w A R s h=>by
  obtain⟨hp,g,d,tk,os⟩:=s;obtain⟨hl,h⟩:=h;have hsub:=sub_enumerate;have hL:Heap.IsTuple (Shared.heap ⟨hp,g,d,tk,os⟩) l items:=⟨_,hl,rfl,n,rfl⟩
  wp_walk using wpAny_loadPart' hl
  refine wpAny_stack_any fun st=>Za ?_;split
  ·rename_i c _ _ _ _ _;cases(c==Value.type "enumerate")
   ·wp_walk using wpAny_loadPart' hl,Y7 hL
    exact⟨_,rfl,h⟩
   ·wp_walk using wpAny_loadPart' hl,Y7 hL
    exact⟨_,rfl,h⟩
  ·wp_walk using wpAny_loadPart' hl,Y7 hL
   exact⟨_,rfl,h⟩
theorem uN{l:Addr}{items:Array Value}{Q:Value->Shared->Prop}(hL:IsTup s.heap l items)(h:∀h',IsEnum h' (s.heap.objs.size+1) s.heap.objs.size 0 .none->h'.IsTupleIter s.heap.objs.size l 0->h'.objs.size=s.heap.objs.size+2->(∀b o,s.heap.get? b=some o->h'.get? b=some o)->Q (.ref (s.heap.objs.size+1)) { s with heap:=h' }) :
  wpAny (model prog w) A (call (.type "enumerate") [.ref l]) Q E s:=by
 obtain⟨⟨c,dct,dt,sl⟩,hl,hc,n,hd⟩:=hL
 replace hc:c=.type "tuple":=hc
 replace hd:dt=.seq items n:=hd
 subst hc hd;refine callType_new PySem.F.called_enumerate (by decide) (PySem.F.typeCall_enumerate_1 _) (PySem.F.newCall_enumerate_1 _) (fun obj=>PySem.F.args_object_init_2 obj _) PySem.F.entry_enumerate_new (ss l items n dct sl) ⟨hl,?_⟩;have hz:(s.heap.push { cls:=.type "tuple_iterator",data:=.fields #[.ref l,.int 0 0] }).objs.size=s.heap.objs.size+1:=YA ..;show _/\_;rw[hz];have he:IsEnum ((s.heap.push { cls:=.type "tuple_iterator",data:=.fields #[.ref l,.int 0 0] }).push { cls:=.type "enumerate",data:=.fields #[.none,.bool false,.ref s.heap.objs.size,rawInt 0,.none,.none] }) (s.heap.objs.size+1) s.heap.objs.size 0 .none:=by have:=Zh (s.heap.push { cls:=.type "tuple_iterator",data:=.fields #[.ref l,.int 0 0] }) (o:={ cls:=.type "enumerate",data:=.fields #[.none,.bool false,.ref s.heap.objs.size,rawInt 0,.none,.none] }) rfl;rw[hz]at this;exact this
 refine⟨⟨_,he,rfl⟩,h _ he ⟨_,z9 _ (Zh _ rfl),rfl,rfl⟩ (by rw[YA,hz]) fun b o x=>z9 _ (z9 _ x)⟩
end
def ItT(K:PySem.W.Frag)(a:Addr)(xs:List V):It :=
 ⟨fun i H=>i<xs.length/\SqT K H a xs,fun i H x H'=>∃T p,H T=none/\xs[i]?=some p/\x=.ref T/\H'=upd H T (.tup [.int i,p]),fun i H=>i=xs.length/\SqT K H a xs⟩
abbrev eTt(e it a:Addr):Nat->Heap->Prop:=fun i h=>(∃old,IsEnum h e it i old)/\h.IsTupleIter it a i
theorem wI{P:Program}{w:World}{K:PySem.W.Frag}{elts:List Expr}{kt:Nat}{tp:Pos}{e it a:Addr}{xs:List V}(ne:e≠it)(ha:e≠a/\it≠a) :
  Turn P w K (.Tuple elts kt tp) (ItT K a xs) [e,it] e (eTt e it a):=by
 refine⟨by simp,fun i h st c hc=>?_,fun i h h' st k=>?_,?_,?_,fun A i s Q E st h=>?_⟩
 ·obtain⟨⟨old,e1⟩,⟨o4,e4,_,d4⟩⟩:=st;simp only[Zs,Z1,YN]at hc;rcases hc with rfl|rfl
  ·exact⟨_,e1,fun v z=>nomatch z⟩
  ·exact⟨_,e4,fun v z=>by rw[d4]at z;cases z⟩
 ·obtain⟨⟨old,e1⟩,⟨o4,e4,r4⟩⟩:=st;exact⟨⟨old,k e (by simp) _ e1⟩,⟨o4,k it (by simp) _ e4,r4⟩⟩
 ·intro X hP hw hK hc i pins s σ H E I hf st hg;subst hP hw hK;obtain⟨⟨old,e1⟩,e4⟩:=st;obtain⟨hi,hx⟩:=hg;obtain⟨its,rx,px,zx⟩:=I.tuple hx;have lx:i<its.toArray.size:=by rw[Zg,<-rx.length];exact hi
  have hh:=I.ok.hd hc;refine wpAny_pyNext_enum_itemD (xo (A:=X.A.in1) hh it a ha.2.symm its.toArray) e1 ⟨e4,px⟩ lx ne (by simp[ne,ha.1]) fun x h' tk qx ho hs' hT hsz hk=>?_;refine⟨_,rfl,wpAny_letOwnedTupleGo_enum (s:={ s with heap:=h',toks:=tk+1 }) ho fun h2 he2 sb=>?_⟩;obtain⟨xv,ex⟩:∃xv,xs[i]?=some xv:=⟨xs[i],by simp[hi]⟩
  obtain⟨x',gx,rxv⟩:=rx.get ex;have qx':its[i]?=some x:=by simpa using qx
  rw[gx]at qx';cases qx';have lte:e<s.heap.objs.size:=Zk e1;have kp2:∀c o,c∉[e,it]->s.heap.get? c=some o->h2.get? c=some o:=fun c o hc q=>by simp only[Zs,Z1,YN,not_or]at hc;exact sb.extBut c o hc.1 (hk c o hc.1 hc.2 q)
  have tT:IsTup h2 s.heap.objs.size [.int i tk,x].toArray:=⟨_,sb.extBut _ _ (Yw lte) hT,rfl,_,rfl⟩
  refine⟨.ref s.heap.objs.size,upd H s.heap.objs.size (.tup [.int i,xv]),I.turnT (t':=tk+1) hf kp2 tT (.cons ⟨tk,rfl⟩ (.cons rxv .nil)) (sz rfl),rfl,⟨_,xv,I.hok.fresh (Zb _),ex,rfl,rfl⟩,?_,fun c hc=>?_⟩
  ·exact⟨⟨_,by simpa using he2⟩,hs'.1.extBut sb.extBut ne.symm⟩
  ·rw[af]
   ·exact(hf c hc).1
   ·obtain⟨o,eo⟩:∃o,s.heap.get? c=some o:=by
     simp only[Zs,Z1,YN]at hc;rcases hc with rfl|rfl
     ·exact⟨_,e1⟩
     ·obtain⟨o,eo,_⟩:=e4;exact⟨o,eo⟩
    exact Zt (Zk eo)
 ·intro X hP hw hK hc i pins s σ H E I hf st hg;subst hP hw hK;obtain⟨⟨old,e1⟩,e4⟩:=st;obtain⟨rfl,hx⟩:=hg;obtain⟨its,rx,px,zx⟩:=I.tuple hx;have lx:its.toArray.size=xs.length:=by rw[Zg,<-rx.length]
  have hh:=I.ok.hd hc;refine wpAny_pyNext_enum_endD (xo (A:=X.A.in1) hh it a ha.2.symm its.toArray) e1 ⟨by rw[lx];exact e4,px⟩ fun h' kp=>⟨rfl,?_⟩
  exact I.turnM (t':=s.toks) hf fun c ob hc q=>by simp only[Zs,Z1,YN,not_or]at hc;exact kp c ob hc.2 q
 ·obtain⟨⟨old,e1⟩,_⟩:=st;exact wpAny_pyIter_enum e1 h
def xE(K:PySem.W.Frag)(ta:TA):TI:=fun σ H R=>ta σ H fun vs H1=>∃a xs,vs=[.ref a]/\H1 a=some (.tup xs)/\R (ItT K a xs) H1
section
variable{X:Cx}
theorem Av{e1:Expr}{ta:TA}{p pos tp:Pos}{elts:List Expr}{kt:Nat}(hg:Gl X "enumerate")(hm:X.mg "enumerate" = none)(ha:PA X [e1] ta)(n1:aW e1=true):PI X (.Tuple elts kt tp) (.Call (.Name "enumerate" p) [e1] [] pos) (xE X.K ta):=by
 intro pins s σ H R I h;refine Call_ (fY I hg hm boot_enumerate (Y8 (thn (ha pos pins s σ H _ I h) fun us s1 hz9=>?_) (aZ n1) (bG (by simp))));obtain⟨vs,H1,I1,r1,q1⟩:=hz9;obtain⟨a,xs,e,hx,q⟩:=q1;subst e;obtain⟨ua,rfl,ra⟩:=df r1;cases ra;obtain⟨its,rx,pa,zz⟩:=I1.tuple (SqT.of (K:=X.K) hx);obtain⟨oo,eo,_⟩:=id pa;have la:a<s1.heap.objs.size:=Zk eo;refine uN pa fun h' he hl hz hk=>wpAny_pyIter_enum he ?_;refine⟨s1.heap.objs.size+1,[s1.heap.objs.size+1,s1.heap.objs.size],eTt (s1.heap.objs.size+1) s1.heap.objs.size a,_,H1,rfl,I1.kept (t':=s1.toks) hk,wI (Nat.succ_ne_self _) ⟨Yw (Nat.lt_succ_of_lt la),Yw la⟩,⟨⟨_,he⟩,hl⟩,fun c hc=>?_,q⟩;have hc':s1.heap.objs.size<=c:=by
  simp only[Zs,Z1,YN]at hc;rcases hc with rfl|rfl
  ·exact Nat.le_succ _
  ·exact Zb _
 exact I1.fpOk hc' (I1.hok.fresh hc')
theorem BL{e1:Expr}{ta:TA}{p pos tp:Pos}{elts:List Expr}{kt:Nat}(hm:X.mg "enumerate" = none)(ha:QA X [e1] ta)(hg:Gl X "enumerate":=by rfl)(n1:aW e1=true:=by rfl):QI X (.Tuple elts kt tp) (.Call (.Name "enumerate" p) [e1] [] pos) (xE X.K ta):=⟨Av hg hm ha.h n1⟩
end
theorem xw{K:PySem.W.Frag}{a:Addr}{xs:List V}{i j:Nat}{tb:TS}{D:Ends}{σ:St}{H:Hp}(Pv:Nat->St->Hp->Prop)(h0:Pv 0 σ H)(ha:∀i σ H,i<=xs.length->Pv i σ H->SqT K H a xs)(hs:∀k x σ H,xs[k]?=some x->Pv k σ H->∀T,H T=none->tb { D with nx:=Pv (k+1),ct:=Pv (k+1),bk:=D.nx } ((σ.set i (some (.int k))).set j (some x)) (upd H T (.tup [.int k,x])))(hd:∀σ H,Pv xs.length σ H->D.nx σ H) :
  ∃W:Nat->Nat->St->Hp->Prop,(∃m,W 0 m σ H)/\∀k m σ H,W k m σ H ->
   ((ItT K a xs).stop k H/\D.nx σ H)\/((ItT K a xs).go k H/\∃N:St->Hp->Prop,(∀σ' H',N σ' H'->∃m',m'<m/\W (k+1) m' σ' H')/\∀x H',(ItT K a xs).yld k H x H'->nC K 2 (gH (bN i) (gH (bN j) nA)) x σ H' fun σ2 H2=>tb { D with nx:=N,ct:=N,bk:=D.nx } σ2 H2):=by
 refine⟨fun k m σ H=>m=xs.length-k/\k<=xs.length/\Pv k σ H,⟨xs.length,by simp,ZV _,h0⟩,?_⟩;rintro k m σ H ⟨rfl,hk,pv⟩;by_cases hlt:k<xs.length
 ·refine .inr ⟨⟨hlt,ha k σ H hk pv⟩,Pv (k+1),fun σ' H' z=>⟨xs.length-(k+1),by omega,rfl,hlt,z⟩,fun x H' y=>?_⟩;obtain⟨T,p,hT,hx,rfl,rfl⟩:=y;exact⟨T,[.int k,p],rfl,SqT.of ad,rfl,.int k,[p],rfl,p,[],rfl,rfl,hs k p σ H hx pv T hT⟩
 ·have e:k=xs.length:=by omega
  subst e;exact .inl ⟨⟨rfl,ha _ σ H hk pv⟩,hd σ H pv⟩
def kg(d:Addr):Obj:={ cls:=.type "dict_values",data:=.fields #[.ref d] }
def FH(td:TE):TE:=fun σ H Q=>td σ H fun x H1=>∃a kvs,x=.ref a/\H1 a=some (.dT kvs)/\∀v,H1 v=none->Q (.ref v) (upd H1 v (eI v (kg a)))
section
variable{X:Cx}{o:Expr}{td:TE}{apos cpos:Pos}
theorem yl(ho:QE X o td)(hbase:attributeBase o "values" X.env (eval o X.env)=eval o X.env:=by rfl)(hline:(apos.endLine==cpos.line)=true:=by rfl):QE X (.Call (.Attribute o "values" apos) [] [] cpos) (FH td):=by refine⟨?_⟩;intro pins s σ H Q I h;refine wpAny_Call_method0_late hbase hline (thn (ho.h pins s σ H _ I h) fun v s1 hz9=>?_);obtain⟨x,H1,I1,r1,a,kvs,e,hd,q1⟩:=hz9;subst e;cases r1;obtain⟨t1,t2,_⟩:=Dh I1 (.inr ⟨kvs,.inl hd⟩);obtain⟨z,ns,xs,rel,ob,es,ep,g1,g2,g3,_⟩:=gF I1.hok (.inl hd);refine⟨"dict","dict.values",PySem.F.plainAttrs_dict,PySem.F.slot_dict_values,PySem.F.type_dict_values,t1,t2,Calls.callWith_builtin rfl (PySem.evalArgs_none ?_)⟩;refine ZR PySem.F.slot_dict_values t1 PySem.F.entry_dict_values ?_ (PySem.F.args_dict_values_1 _);refine z6 ?_;unfold Builtin.Dict.noArgs;refine z6 (wpAny_notOrdered_dict t1 ?_);show wpAny _ _ (pure a) _ _ s1;refine Za ?_;show wpAny _ _ (Builtin.Dict.showsAll a >>= _) _ _ s1;unfold Builtin.Dict.showsAll;rw[HH (by rw[ns];exact Zo)];refine z6 (Za (z6 (ZH (Za ⟨_,rfl,?_⟩))));exact⟨.ref _,_,I1.laid (t':=s1.toks) (fun b o e=>z9 _ e) (Zb _) (nI (Zh _ rfl)),rfl,q1 _ (I1.hok.fresh (Zb _))⟩
theorem uP(hc:X.calm=true):cY X (.type "list") (fun xs H Q=>∃v a kvs,xs=[.ref v]/\H v=some (eI v (kg a))/\H a=some (.dT kvs)/\∀l,H l=none->Q (.ref l) (upd H l (.lst (kvs.map (·.2))))):=by
 intro pins s σ H xs us Q I r h;obtain⟨v,a,kvs,rfl,hv,hq,q⟩:=h;obtain⟨u,rfl,rx⟩:=df r;cases rx;obtain⟨z,hd,xs,rel,o,es,ep,h1,h2,h3,h4,_,_⟩:=gF I.hok (.inl hq);have hsz:es.size=xs.length:=size_of_entries h4;have hkl:kvs.length=xs.length:=Paired.length rel;have vv:s.heap.IsValuesView v a:=⟨_,(I.hok v _ hv).1,rfl,rfl⟩
 refine kdl_call (AK (es:=es) (ep:=ep)) (I.ok.hd hc) ⟨vv,⟨o,h1,h2,h3⟩⟩ (by omega) fun h' tk acc' c' kp e hacc=>?_;have ev:Vals (kvs.map (·.2)) acc'.toList:=by
  have gen:∀(vs:List Value) (ys:List (List Key×Addr×Value)) (ks:List (List Key×V)),KT H ks ys->vs.length=ys.length->(∀(j:Nat) (v:Value),vs[j]?=some v->∃x:List Key×Addr×Value,ys[j]?=some x/\v=x.2.2)->Vals (ks.map (·.2)) vs:=by
   intro vs;induction vs with
   |nil =>
    intro ys ks rl hl _;cases ys with
    |nil=>cases rl;exact .nil
    |cons _ _=>cases hl
   |cons v vs ih =>
    intro ys ks rl hl hv;cases ys with
    |nil=>cases hl
    |cons y ys =>
     cases rl with
     |cons hy rl =>obtain⟨x,e1,e2⟩:=hv 0 v rfl;cases e1;rw[e2];exact .cons hy.2.2 (ih ys _ rl (by simpa using hl) fun j v' e'=>hv (j+1) v' (by simpa using e'))
  refine gen _ _ _ rel (by rw[Zl,hacc.1,hsz]) fun j v e'=>?_;obtain⟨en,e1,e2⟩:=hacc.2 j v (by rw[<-Array.getElem?_toList];exact e');rw[entry_at h4]at e1;obtain⟨x,e3,e4⟩:=YK.mp e1;refine⟨x,e3,?_⟩;rw[e2,<-e4];rfl
 exact⟨.ref s.heap.objs.size,_,I.laid (t':=tk) kp (Zb _) (show ObjOk X.prog X.w _ h' _ (.lst (kvs.map (·.2)))from⟨by rw[Zd];omega,acc'.toList,c',ev,by simpa using e⟩),rfl,q _ (I.hok.fresh (Zb _))⟩
theorem tu(hc:X.calm=true):QCall X (.type "list") (fun xs H Q=>∃v a kvs,xs=[.ref v]/\H v=some (eI v (kg a))/\H a=some (.dT kvs)/\∀l,H l=none->Q (.ref l) (upd H l (.lst (kvs.map (·.2))))):=⟨uP hc⟩
end
open PySem PySem.Spec PyProof.Rows PySem.W
end L2
set_option maxHeartbeats 4000000
namespace PySem
open Sem (wp)
section
variable{prog:Program}{w:World}{K:Type}[DecidableEq K]{knd:KeyKind prog w K}
structure PairAt(knd:KeyKind prog w K)(h:Heap)(p:Addr×List K×Addr×Value):Prop where
 tup:∃o n,h.get? p.1=some o/\o.cls=.type "tuple"/\o.data=.seq #[.ref p.2.2.1,p.2.2.2] n
 key:IsTupleKey knd h p.2.1 p.2.2.1
variable{A:Around}{R:Result->Shared->Prop}
end
end PySem
namespace L2
open PySem PySem.Spec PyProof.Rows PySem.W
open PySem PySem.Spec PyProof.Rows PySem.W
open PySem PySem.Spec PyProof.Rows PySem.W
def ItD(o:Obj)(a:Addr):It where
 go:=fun i H=>∃kvs,H a=some (.frz o (.dT kvs))/\i<kvs.length
 yld:=fun i H x H'=>H'=H/\∀kvs,H a=some (.frz o (.dT kvs))->∃p b,kvs[i]?=some p/\x=.ref b/\H b=some (.tup (p.1.map kV))
 stop:=fun i H=>∃kvs,H a=some (.frz o (.dT kvs))/\kvs.length<=i
theorem Dp{H:Hp}{kvs:List (List Key×V)}{xs:List (List Key×Addr×Value)}(r:KT H kvs xs):∀{i:Nat} {x:List Key×Addr×Value},xs[i]?=some x->∃p,kvs[i]?=some p/\H x.2.1=some (.tup (p.1.map kV)):=by
 induction r with
 |nil=>intro i x h;simp at h
 |@cons p q _ _ h _ ih =>
  intro i x e;cases i with
  |zero=>cases e;exact⟨p,rfl,h.2.1⟩
  |succ i=>exact ih e
theorem xy{P:Program}{w:World}{H:Hp}{h:Heap}{a:Addr}{o:Obj}{kvs:List (List Key×V)}(ok:HOk P w H h)(e:H a=some (.frz o (.dT kvs))) :
  (a==sysModules)=false/\∃xs es ep,KT H kvs xs/\h.get? a=some o/\o.ExactDict/\o.data=.dict es ep/\es.toList=xs.map (entryOfKey (tupleKind (bI P w)))/\kvs.length=es.size:=by
 obtain⟨ho,z,y,xs,r,o',es,ep,h1,h2,h3,h4,h5⟩:=(show ObjOk P w H h a (.frz o (.dT kvs))from ok a _ e)
 rw[ho]at h1;cases h1;exact⟨y,xs,es,ep,r,ho,h2,h3,h4,(Paired.length r).trans (size_of_entries h4).symm⟩
theorem yQ{P:Program}{w:World}{K:PySem.W.Frag}{tg:Expr}(o:Obj)(a it:Addr):Turn P w K tg (ItD o a) [it] it (fun i h=>∃es ep,o.data=.dict es ep/\i<=es.size/\h.IsKeyIter it a i es.size ep) where
 mem:=by simp
 obj:=fun i h st b hb=>by
  have e:b=it:=by simpa using hb
  subst e;obtain⟨es,ep,_,_,o,e,c,d⟩:=st;exact⟨o,e,fun v z=>by rw[d]at z;cases z⟩
 keep:=fun i h h' st k=>by obtain⟨es,ep,h1,h2,h3⟩:=st;exact⟨es,ep,h1,h2,h3.at fun o e=>k it (by simp) o e⟩
 item:=by
  intro X hP hw hK hc i pins s σ H E I hf st hg;subst hP hw hK;obtain⟨kvs,hq,hx⟩:=hg;obtain⟨es,ep,sd,sl,st⟩:=st;obtain⟨lo,xs,es',ep',r,ho,hx2,hd,h4,hl⟩:=xy I.hok hq;rw[sd]at hd;cases hd;obtain⟨f0,f1,f2,f3,f4,f5⟩:=hf it (by simp);have hi:i<es.size:=by omega
  refine AH st ⟨o,ho,hx2,sd⟩ hi fun h' st' sb=>?_;have I1:Inv X pins σ H { s with heap:=h' }:=I.turned (t':=s.toks) (fun b o hb e=>(sb.2 b hb).trans e) f0 f1 f3 f4 f5;obtain⟨oi,e,c,d⟩:=id st';have hxs:i<xs.length:=by rw[<-size_of_entries h4];exact hi
  have hk:es[i].key=Value.ref xs[i].2.1:=by have e1:=entry_at h4 (j:=i);rw[Ze hxs,Array.getElem?_eq_getElem hi]at e1;have e2:=Zw e1;rw[e2];rfl
  obtain⟨p,hp,hb⟩:=Dp r (Ze hxs);refine⟨_,rfl,lV (s:={ s with heap:=h' }) e c d (by decide) ⟨.ref xs[i].2.1,H,I1,hk,⟨rfl,fun kvs' hy=>?_⟩,⟨es,ep,sd,by omega,st'⟩,fun b hb=>(hf b hb).1⟩⟩;rw[hq]at hy;cases hy;exact⟨p,xs[i].2.1,hp,rfl,hb⟩
 done:=by
  intro X hP hw hK hc i pins s σ H E I hf st hg;subst hP hw hK;obtain⟨kvs,hq,hx⟩:=hg;obtain⟨es,ep,sd,sl,st⟩:=st;obtain⟨lo,xs,es',ep',r,ho,hx2,hd,h4,hl⟩:=xy I.hok hq;rw[sd]at hd;cases hd;obtain⟨f0,f1,f2,f3,f4,f5⟩:=hf it (by simp);obtain rfl:i=es.size:=by omega
  exact Ct (I.ok.hd hc) st ⟨o,ho,hx2,sd⟩ fun h' eb=>⟨rfl,I.turned (t':=s.toks) (fun b o hb e=>eb b o hb e) f0 f1 f3 f4 f5⟩
 self:=fun _ _ _ _ _ st h=>by obtain⟨es,ep,h1,h2,h3⟩:=st;exact wpAny_pyIter_keyiter h3 h
section
variable{X:Cx}{tg:Expr}
theorem Inv.freeze{pins:List (Addr×Obj)}{σ:St}{H:Hp}{s:Shared}{a:Addr}{o:Obj}{kvs:List (List Key×V)}(I:Inv X pins σ H s)(hq:H a=some (.dT kvs))(ho:s.heap.get? a=some o):Inv X pins σ (upd H a (.frz o (.dT kvs))) s :=
 I.write (x:=a) (e:=a) (h':=s.heap) (t':=s.toks) (by rw[hq];exact True.intro) (.inl rfl) (fun b u _ e=>e) ⟨o,ho⟩
  ⟨ho,ObjOk.stay (show ObjOk X.prog X.w H s.heap a (.dT kvs) from I.hok a _ hq) (fun b u _ e=>e) (fun b e=>by
   rw[af fun z=>by rw[z,hq]at e;cases e];exact e) fun b xs e=>by
   rw[af fun z=>by rw[z,hq]at e;cases e];exact e⟩
def De(tl:TE):TI:=fun σ H R=>tl σ H fun x H1=>∃a kvs,x=.ref a/\H1 a=some (.dT kvs)/\∀o,R (ItD o a) (upd H1 a (.frz o (.dT kvs)))
theorem DX{l:Expr}{tl:TE}(hl:PE X l tl):PI X tg l (De tl):=by
 intro pins s σ H R I h;refine thn (hl pins s σ H _ I h) fun v s1 hz9=>?_;obtain⟨x,H1,I1,r1,q1⟩:=hz9;obtain⟨a,kvs,e,hq,q⟩:=q1;subst e;cases r1;obtain⟨z,lo,xs,r,o,es,ep,h1,h2,h3,h4,h5⟩:=(show ObjOk X.prog X.w H1 s1.heap a (.dT kvs)from I1.hok a _ hq)
 refine AI lo ⟨o,h1,h2,h3⟩ ?_;have I2:=I1.freeze hq h1;refine⟨s1.heap.objs.size,[s1.heap.objs.size],_,_,_,rfl,I2.kept (t':=s1.toks) fun b o e=>z9 _ e,yQ o a _,⟨es,ep,h3,ZV _,_,Zh _ rfl,rfl,rfl⟩,fun b hb=>?_,q o⟩;have e:b=s1.heap.objs.size:=by simpa using hb
 subst e;exact I2.fpOk (Zb _) (I2.hok.fresh (Zb _))
theorem Inv.thaw{pins:List (Addr×Obj)}{σ:St}{H:Hp}{s:Shared}{a:Addr}{o:Obj}{u:HO}(I:Inv X pins σ H s)(hq:H a=some (.frz o u))(h0:∀o' u',X.H₀ a≠some (.frz o' u'))(ht:∀xs,X.H₀ a≠some (.tup xs))(hb:∀ps,X.H₀ a≠some (.tbl ps)) :
  Inv X pins σ (upd H a u) s:=by
 have hn:∀b,H b=none->upd H a u b=none:=fun b e=>by rw[af fun z=>by rw[z,hq]at e;cases e];exact e
 refine⟨I.ok,I.os,I.bare,⟨I.base.keep,I.base.slot,fun b ob e1 e2 e3=>hn _ (I.base.free b ob e1 e2 e3),I.base.there,fun b xs e=>?_,fun b ob v e=>?_,fun b ps e=>?_⟩,I.loc,I.cell,hn _ I.free,fun x c e=>hn _ (I.freeC x c e),
  fun p hp=>?_,fun b v e=>?_,I.len⟩
 ·rw[af fun(z:b=a)=>ht xs (by rw[<-z];exact e)];exact I.base.tups b xs e
 ·rw[af fun(z:b=a)=>h0 ob v (by rw[<-z];exact e)];exact I.base.frzs b ob v e
 ·rw[af fun(z:b=a)=>hb ps (by rw[<-z];exact e)];exact I.base.tbls b ps e
 ·obtain⟨p1,p2,p3⟩:=I.pin p hp;exact⟨p1,hn _ p2,p3⟩
 ·have st:∀ {c:Addr} {v:HO},ObjOk X.prog X.w H s.heap c v->ObjOk X.prog X.w (upd H a u) s.heap c v:=fun x=>ObjOk.stay x (fun b u _ e=>e) (fun b e=>by
   rw[af fun z=>by rw[z,hq]at e;cases e];exact e) fun b xs e=>by
   rw[af fun z=>by rw[z,hq]at e;cases e];exact e
  by_cases c:b=a
  ·subst c;rw[ad]at e;cases e;exact st (show ObjOk X.prog X.w H s.heap b (.frz o _)from I.hok b _ hq).2
  ·rw[af c]at e;exact st (I.hok b v e)
theorem vh{l:Expr}{te:TE}(hl:QE X l te):QI X tg l (De te):=⟨DX hl.h⟩
def Loose(H:Hp)(a:Addr):Prop:=(∀o' u',H a≠some (.frz o' u'))/\(∀xs,H a≠some (.tup xs))/\∀ps,H a≠some (.tbl ps)
theorem Loose.dt{H:Hp}{a:Addr}{kvs:List (List Key×V)}(h:H a=some (.dT kvs)):Loose H a:=⟨fun _ _ z=>(by rw[h]at z;cases z),fun _ z=>(by rw[h]at z;cases z),fun _ z=>(by rw[h]at z;cases z)⟩
theorem Loose.non{H:Hp}{a:Addr}(h:H a=none):Loose H a:=⟨fun _ _ z=>(by rw[h]at z;cases z),fun _ z=>(by rw[h]at z;cases z),fun _ z=>(by rw[h]at z;cases z)⟩
def FF(H0:Hp)(t:TE):TE:=fun σ H Q=>t σ H fun v H'=>∃a o u,H' a=some (.frz o u)/\Loose H0 a/\Q v (upd H' a u)
theorem rm{e:Expr}{t:TE}(h:QE X e t):QE X e (FF X.H₀ t):=⟨fun pins s σ H Q I q=>thn (h.h pins s σ H _ I q) fun v s1 ⟨x,H1,I1,r1,a,o,u,e1,l,q1⟩=>⟨x,_,I1.thaw e1 l.1 l.2.1 l.2.2,r1,q1⟩⟩
end
theorem iX{a:Addr}{o:Obj}{kvs:List (List Key×V)}{n:Nat}{cap:List Nat}{g:TG}{tc:TT}{te:TE}{σ:St}{H0:Hp}{Q:VK}(Pv:Nat->List V->Hp->Prop)(hz:kvs.length<=1000)(hn:∀i ys H,Pv i ys H->ys.length<=i)(h0:Pv 0 [] H0)(hl:∀i ys H,Pv i ys H->H a=some (.frz o (.dT kvs)))(ht:∀i ys H p b,kvs[i]?=some p->H b=some (.tup (p.1.map kV))->Pv i ys H->∀Y:List V->Hp->Prop,(∀zs H4,Pv (i+1) zs H4->Y zs H4)->g (.ref b) (be n cap σ) H fun σ2 H2=>tc σ2 H2 fun b H3=>if b=true then te σ2 H3 fun y H4=>Y (ys++[y]) H4 else Y ys H3)(hq:∀ys p H,Pv kvs.length ys H->H p=none->Q (.ref p) (upd H p (.lst ys))):bS n cap g tc te σ (ItD o a) H0 Q:=by
 refine⟨fun i m ys H=>m=kvs.length-i/\i<=kvs.length/\Pv i ys H,⟨kvs.length,by simp,ZV _,h0⟩,?_⟩;rintro i m ys H ⟨rfl,hi,pv⟩;have q:=hl i ys H pv;by_cases hlt:i<kvs.length
 ·refine .inr ⟨⟨kvs,q,hlt⟩,?_,fun x H' y=>?_⟩
  ·have:=hn i ys H pv;exact x4 (ZQ this (by omega)) (show 1000<sizeLine by decide)
  ·obtain⟨e,y⟩:=y;subst e;obtain⟨pr,b,e1,rfl,e2⟩:=y kvs q;exact ht i ys _ pr b e1 e2 pv (fun ys H4=>∃m',m'<kvs.length-i/\m'=kvs.length-(i+1)/\i+1<=kvs.length/\Pv (i+1) ys H4) fun zs H4 z=>⟨kvs.length-(i+1),by omega,rfl,hlt,z⟩
 ·have e:i=kvs.length:=by omega
  subst e;exact .inl ⟨⟨kvs,q,Zb _⟩,fun p hp=>hq ys p H pv hp⟩
open PySem PySem.Spec PyProof.Rows PySem.W
open PySem PySem.Spec PyProof.Rows PySem.W
section
variable{X:Cx}{pins:List (Addr×Obj)}{σ:St}{H:Hp}{s:Shared}
theorem mf{A:Around}{E:Value->Shared->Prop}{P:PySem.Fin->Shared->Prop}{a:Addr}{n:Nat}{vs:List Value}(h2:vs.length<2)(ho:s.heap.get? a=some (seqObj "list" vs.toArray n))(h:∀(h3:Heap) (c:Nat),(∀b u,b≠a->s.heap.get? b=some u->h3.get? b=some u)->h3.get? a=some (seqObj "list" vs.toArray c)->P (.done (.ret .none)) { s with heap:=h3 }) :
  wpAny (model X.prog X.w) A (Builtin.«list.sort» ⟨[.ref a],[]⟩) P E s:=by
 have zs:vs.toArray.size<=sizeLine:=by rw[Zg,sizeLine_eq];omega
 have s1:=ZJ s.heap a (Obj.mapSeq fun _=>(#[]:Array Value));obtain⟨e1,ho1⟩:∃e1,(s.heap.update a (Obj.mapSeq fun _=>(#[]:Array Value))).get? a=some (seqObj "list" #[] e1):=⟨_,get?_update_seq ho fun _=>#[]⟩
 have ha3:(((s.heap.update a (Obj.mapSeq fun _=>(#[]:Array Value))).push (seqObj "tuple" vs.toArray 0)).push (seqObj "list" #[] 0)).get? a=some (seqObj "list" #[] e1):=z9 _ (z9 _ ho1);have kp:∀b u,b≠a->s.heap.get? b=some u->(((s.heap.update a (Obj.mapSeq fun _=>(#[]:Array Value))).push (seqObj "tuple" vs.toArray 0)).push (seqObj "list" #[] 0)).get? b=some u:=fun b u hb g=>z9 _ (z9 _ ((s1.2 b hb).trans g));rw[list_sort_plain];refine z6 (listItems_at ho rfl ?_);refine z6 (listUpdate_at ho rfl ?_ zs (ZV _));refine z6 (seqEpoch_at ho1 rfl ?_);refine z6 (wpAny_newTuple ?_ zs);refine z6 (wpAny_newList ?_ (ZV _));refine Z7 ?_;show wpAny (model X.prog X.w) A _ P E { s with heap:=((s.heap.update a (Obj.mapSeq fun _=>(#[]:Array Value))).push (seqObj "tuple" vs.toArray 0)).push (seqObj "list" #[] 0) };generalize((s.heap.update a (Obj.mapSeq fun _=>(#[]:Array Value))).push (seqObj "tuple" vs.toArray 0)).push (seqObj "list" #[] 0)=h1 at ha3 kp ⊢;dsimp only;have hn2:vs.toArray.size<2:=by rw[Zg];exact h2
 rw[HK hn2,HK hn2];refine z6 (Za ?_);rw[StateT.run_pure];refine z6 (Za ?_);dsimp only;have em:Array.map (fun x=>x.snd) (arrOf (SortSt.mk' general' (vs.toArray.zip vs.toArray) #[] 7 none))=vs.toArray:=by show Array.map (fun x:Value×Value=>x.2) (vs.toArray.zip vs.toArray)=_;apply Array.toList_inj.mp;rw[Array.toList_map,Array.toList_zip];exact List.map_snd_zip (Zb _)
 rw[em];have s2:=ZJ h1 a (Obj.mapSeq fun _=>vs.toArray);obtain⟨c2,hc2⟩:∃c2,(h1.update a (Obj.mapSeq fun _=>vs.toArray)).get? a=some (seqObj "list" vs.toArray c2):=⟨_,get?_update_seq ha3 fun _=>vs.toArray⟩
 refine z6 (seqEpoch_at ha3 rfl ?_);refine z6 (listUpdate_at ha3 rfl ?_ (ZV _) (Yh zs));simp only[bne_self_eq_false,Yy,YM];exact Za (h _ c2 (fun b u hb g=>(s2.2 b hb).trans (kp b u hb g)) hc2)
theorem rL{l:Addr}{xs:List V}{Q:VK}(I:Inv X pins σ H s)(hH:H l=some (.lst xs))(h2:xs.length<2)(q:∀D:Addr,H D=none->Q (.ref D) (upd H D (.lst xs))) :
  wpAny (model X.prog X.w) X.A (call (.builtin "sorted") [.ref l]) (EP X pins σ Q) X.xe s:=by
 obtain⟨z,its,n,rv,hlen,e⟩:=I.lstM hH;have li:its.length=xs.length:=hlen.symm;have zs:its.toArray.size<=sizeLine:=by rw[Zg,sizeLine_eq];omega
 refine Calls.call_function_entry kind_sorted plain_sorted entry_sorted (args_sorted1 _) ?_;unfold Builtin.«sorted»;refine z6 (m:=checkCount "sorted" 1 1 _) (Za (z6 (collect_list ⟨_,e,rfl,n,rfl⟩ (z6 (wpAny_newList ?_ zs)) zs)));have z1:((s.heap.push (seqObj "list" #[] 0)).update s.heap.objs.size (Obj.mapSeq (·++its.toArray))).objs.size=s.heap.objs.size+1:=by rw[Heap.size_update,size_push']
 have g1:(((s.heap.push (seqObj "list" #[] 0)).update s.heap.objs.size (Obj.mapSeq (·++its.toArray))).push (seqObj "list" its.toArray 0)).get? (s.heap.objs.size+1)=some (seqObj "list" its.toArray 0):=by rw[<-z1];exact Zh _ rfl
 have kp:∀b o,s.heap.get? b=some o->(((s.heap.push (seqObj "list" #[] 0)).update s.heap.objs.size (Obj.mapSeq (·++its.toArray))).push (seqObj "list" its.toArray 0)).get? b=some o:=fun b o g=>by have lt:=Zk g;rw[Heap.get?_push_ne _ _ _ (by rw[z1];exact Zt (Nat.lt_succ_of_lt lt)),Heap.get?_update_ne _ _ _ _ (Zt lt),Heap.get?_push_ne _ _ _ (Zt lt)];exact g
 show wpAny _ _ _ _ _ { s with heap:=((s.heap.push (seqObj "list" #[] 0)).update s.heap.objs.size (Obj.mapSeq (·++its.toArray))).push (seqObj "list" its.toArray 0) };rw[z1];generalize(((s.heap.push (seqObj "list" #[] 0)).update s.heap.objs.size (Obj.mapSeq (·++its.toArray))).push (seqObj "list" its.toArray 0))=hA at g1 kp ⊢;refine z6 (Z7 (ZR slot_list_sort ⟨_,g1,rfl⟩ entry_list_sort ?body (args_list_sort _)))
 case body =>
  refine mf (X:=X) (s:={ s with heap:=hA }) (by omega) g1 fun h3 c k3 a3=>⟨_,rfl,Za ⟨_,rfl,?_⟩⟩
  have da:s.heap.get? (s.heap.objs.size+1)=none:=YU (Nat.le_succ _);exact⟨.ref _,_,I.laid (t':=s.toks) (o:=.lst xs) (fun b o g=>k3 b o (fun zz=>by rw[zz,da]at g;cases g) (kp b o g)) (Nat.le_succ _) ⟨z,its,c,rv,a3⟩,rfl,q _ (none_of I da)⟩
theorem ph{K:PySem.W.Frag}{k:Nat}(hK:X.K=K)(hr:Room k X.A):QOp X (compareOp .NotIn) (AE K true):=by subst hK;exact Ah hr
theorem tz:QCall X (.builtin "sorted") (fun xs H Q=>∃ (p:Addr) (as:List Addr) (ks:List (List Int)),xs=[.ref p]/\H p=some (.lst (as.map V.ref))/\as.length<64/\ks.length=as.length/\(∀ k∈ks,k≠[])/\(∀ (i:Nat) (a:Addr) (k:List Int),as[i]? = some a->ks[i]? = some k->H a=some (.tup (k.map V.int))) /\
  ∀ (pm:Array Nat) (D:Addr),POk as.length pm->LS (fun i j=>HT.lexLt (ks.getD i []) (ks.getD j [])) pm as.length->H D=none->Q (.ref D) (upd H D (.lst (pm.toList.map fun i=>(as.map V.ref).getD i .non)))):=by
 refine⟨?_⟩;intro pins s σ H xs us Q I r h;obtain⟨p,as,ks,rfl,hp,h64,hl,hne,hk,q⟩:=h;obtain⟨u,rfl,ru⟩:=df r;cases ru;by_cases h2:as.length<2
 ·refine rL I hp (by rw[Zd];exact h2) fun D hD=>?_;have e:((List.range as.length).toArray.toList.map fun i=>(as.map V.ref).getD i V.non)=as.map V.ref:=by refine List.ext_getElem (by simp) fun i h1 h2=>?_;rw[Zd]at h2;simp[h2]
  have:=q (List.range as.length).toArray D (Array.Perm.refl _) (fun i j hij hj=>by omega) hD;rw[e]at this;exact this
 obtain⟨z,its,n,rv,hlen,e⟩:=I.lstM hp;rw[Zd]at hlen;have eits:its=as.map Value.ref:=by
  clear e z hlen hp hk q hl h2 h64;induction as generalizing its with
  |nil=>cases rv;rfl
  |cons a as ih =>
   cases rv with
   |cons r1 r2 =>cases r1;rw[ih _ r2];rfl
 subst eits;obtain⟨m,F0⟩:=I.fr;refine kat_sorted (vs:=as.map Value.ref) F0 (gP X.base s.heap X.env.locals) ⟨_,e,rfl,n,rfl⟩ (by rw[Zd];omega) (by rw[Zd];omega) fun D e1 h1 F1 N1 hD=>?_;have mv0:∀b u,b≠X.env.locals->b∉([]:List Addr)->s.heap.get? b=some u->h1.get? b=some u:=fun b u hL _ g=>by
  cases qb:X.base.get? b with
  |none=>exact(N1 (b,u) (.tail _ (cu g hL qb))).1
  |some o =>have e':=I.bk b o qb;rw[g]at e';cases e';exact F1.keep b u qb
 have I1:Inv X pins σ H { s with heap:=h1 }:=Inv.movedF (ch:=[]) (t':=s.toks) I (fun b hb=>absurd hb (by simp)) mv0 ⟨m,F0.ns,F1.ns⟩;obtain⟨fs,t1,t2,t3⟩:=qO I1 hne as 0 (by omega) (fun i a k h1 h2=>hk i a k h1 (by rw[Nat.zero_add]at h2;exact h2));refine kat_kind (T:=.type "int") t1 (by omega) (fun v hv=>?_) rfl ?_
 ·obtain⟨i,t,rfl⟩:=t3 v hv;exact .now
 rw[Zd];refine tO (n:=as.length) (lt:=fun i j=>HT.lexLt (ks.getD i []) (ks.getD j [])) (fun i j C hi hj hC=>?_) (fun pm hpm hs=>?_) (zY (by omega)) (BQ (xN ks) (by omega))
 ·have ga:∀i,i<as.length->∃a:Addr,(as.map Value.ref).getD i Value.none=.ref a/\H a=some (.tup ((ks.getD i []).map V.int)):=fun i hi=>by
   have h1:as[i]?=some (as[i]'(by omega)):=Ze (by omega);have h2:ks[i]?=some (ks[i]'(by omega)):=Ze (by omega);refine⟨as[i]'(by omega),?_,?_⟩
   ·rw[Zf,ZB,h1];rfl
   ·have:=hk i _ _ h1 h2;rw[Zf,h2];exact this
  obtain⟨a,ea,ha⟩:=ga i hi;obtain⟨b,eb,hb'⟩:=ga j hj;obtain⟨ia,ra,pa,za⟩:=I1.tuple (SqT.of (K:=X.K) ha);obtain⟨ib,rb,pb,zb⟩:=I1.tuple (SqT.of (K:=X.K) hb');obtain⟨oa,eoa,ca,n1,da⟩:=id pa;obtain⟨ob,eob,cb,n2,db⟩:=id pb;unfold kas_ask;rw[ea,eb];exact kat_lt eoa da eob db (kl _ _ _ _ 0 (cm ra) (cm rb) (by rw[Zg,Zg,<-ra.length,<-rb.length,Zd,Zd]) hC)
 ·have hDL:D≠X.env.locals:=(N1 (D,seqObj "list" #[] e1) (.head _)).2.1;have hDs:s.heap.get? D=none:=by
   cases g:s.heap.get? D with
   |none=>rfl
   |some o=>exact absurd (hD (D,o) (cu g hDL (N1 (D,seqObj "list" #[] e1) (.head _)).2.2)) (Yj _)
  have pl:∀i∈pm.toList,i<as.length:=fun i hi=>by have:=(hpm.mem_iff).mp (Array.mem_toList_iff.mp hi);simpa using this
  have vals:∀(w:List Nat),(∀i∈w,i<as.length)->Vals (w.map fun i=>(as.map V.ref).getD i .non) (w.map fun i=>(as.map Value.ref).getD i Value.none):=fun w=>by
   induction w with
   |nil=>intro _;exact .nil
   |cons i w ih =>intro hw;have hi:=hw i Yl;refine .cons ?_ (ih fun j hj=>hw j (ZA _ hj));show RelV ((as.map V.ref).getD i V.non) ((as.map Value.ref).getD i Value.none);rw[Zf,Zf,ZB,ZB,Ze hi];rfl
  have lp:pm.toList.length=as.length:=by have:=hs.1;simpa using this
  refine KasFin.intro (news:=(D,seqObj "list" #[] e1)::mw X.base s.heap X.env.locals) F1 N1 (.head fun p hp=>Zt (hD p hp)) fun h2 c F2 N2=>?_;refine⟨.ref D,_,I.laidF (o:=.lst (pm.toList.map fun i=>(as.map V.ref).getD i .non)) (t':=s.toks) (fun b o hL g=>?_) ⟨m,F0.ns,F2.ns⟩ hDs ⟨by rw[Zd,lp];exact cK (by omega),_,c,vals _ pl,(N2 (D,_) (.head _)).1⟩,rfl,q pm D hpm hs.2 (none_of I hDs)⟩;cases q:X.base.get? b with
  |none=>exact(N2 (b,o) (.tail _ (cu g hL q))).1
  |some o' =>have e':=I.bk b o' q;rw[g]at e';cases e';exact F2.keep b o q
end
open PySem PySem.Spec PyProof.Rows PySem.W
section
variable{X:Cx}{o e f:Expr}{apos cpos:Pos}{td ty tx:TE}
theorem ud{K:PySem.W.Frag}{e:Expr}{f:Str}{pos:Pos}{ta:TE}(hK:X.K=K)(he:QE X e ta)(hb:attributeBase e f X.env (eval e X.env)=eval e X.env:=by rfl):QE X (.Attribute e f pos) (Bt K ta f):=by subst hK;exact Ej he hb
end
open PySem PySem.Spec PyProof.Rows PySem.W
section
variable{X:Cx}
def FG(v:V)(t:TX):TX:=fun σ H Q E=>t σ H (fun y H2=>∀p,H2 p=none->Q (.ref p) (upd H2 p (.tup [v,y]))) E
theorem yU{z:Str}{j:Nat}{e:Expr}{x1}{p1 pos:Pos}{t:TX}(h:QX X e t)(hs:aW e=true:=by rfl):QX X (.Tuple [.Constant (.str z) j p1,e] x1 pos) (FG (.str z) t):=by refine⟨?_⟩;intro pins s σ H Q E I hq;have h1:=aZ (es:=[e]) (env:=X.env) (show aW (.Constant (.str z) j p1)=true from rfl);have h2:=aZ (es:=[]) (env:=X.env) hs;have h3:starEach ([]:List Expr) X.env=[]:=rfl;refine wpAny_Tuple_spliced ?_;rw[h1,h2,h3];show wpAny _ _ (spliced ((false,eval (.Constant (.str z) j p1) X.env)::(false,eval e X.env)::[])) _ _ s;refine Calls.spliced_cons (Calls.Constant_str ?_);refine Calls.spliced_cons (ZL (h.h pins _ σ H _ E (I.tok _) hq) (fun u s1 z=>?_) fun _ _ z=>z);obtain⟨y,H1,I1,r1,q1⟩:=z;refine Calls.spliced_nil ⟨(by show 2<=sizeLine;rw[sizeLine_eq];decide),?_⟩;have hf:H1 s1.heap.objs.size=none:=I1.hok.fresh (Zb _);refine⟨.ref s1.heap.objs.size,upd H1 s1.heap.objs.size (.tup [.str z,y]),I1.laid (t':=s1.toks) (fun b u e=>z9 _ e) (Zb _) ?_,rfl,q1 _ hf⟩;exact⟨(by show 2<=sizeLine;rw[sizeLine_eq];decide),_,.cons ⟨_,rfl⟩ (.cons r1 .nil),⟨_,Zh _ rfl,rfl,_,rfl⟩⟩
def Gb(K:PySem.W.Frag)(i:Nat)(Ch:Addr)(ts:TS)(th:TH):TH:=fun D σ C dc H'=>∃ c bm,C=.ref c/\ExC K c bm/\if (Value.ref c::bm).contains (.ref Ch)=true then (∀ ea,H' ea=none ->
 ts { nx:=fun σ2 H2=>D.nx (σ2.set i none) H2,rt:=D.rt,bk:=fun σ2 H2=>D.bk (σ2.set i none) H2,ct:=fun σ2 H2=>D.ct (σ2.set i none) H2 } (σ.set i (some (.ref ea))) (upd H' ea (exD ea c dc))) else th D σ C dc H'
theorem E7{i:Nat}{x n:Str}{Ch:Addr}{bmh:List Value}{b0:Stmt}{suite:List Stmt}{ts:TS}{th:TH}{np pos:Pos}{rest:List ExceptHandler}(hN:X.N.Nodup)(cl:ExC X.K Ch bmh)(hm:X.mg x=some (.ref Ch))(hs:∀e,QB (X.exc e) (b0::suite) ts)(hrest:QH X rest th)(hi:X.N[i]?=some n:=by rfl)(hl:X.env.kindOf n=some .local:=by rfl)(hg:Gl X x:=by rfl)(hdb:(x==("__debug__":Str))=false:=by decide) :
  QH X (.ExceptHandler (some (.Name x np)) (some n) (b0::suite) pos::rest) (Gb X.K i Ch ts th):=by
 refine⟨?_⟩;rintro pins s0 H0 σ D ea t C B H' dc s' I0 F fly hd ⟨c,bm,rfl,ec,q⟩;cases hc:(Value.ref c::bm).contains (.ref Ch)with
 |true =>rw[hc,HK rfl]at q;exact(va (rest:=rest) hN cl hm hs hi hl hg hdb).h pins s0 H0 σ D ea t _ B H' dc s' I0 F fly hd ⟨c,bm,rfl,ec,hc,q⟩
 |false =>rw[hc,HH Zo]at q;have I:=F.inv I0;refine wpAny_handleBy_cons (codeAny_handlers_test ?_) (by intro z;cases z);refine dI (X:=X.exc (.ref ea)) (I.exc _) hg hm ?_ hdb;obtain⟨oe,he,hcl⟩:=fly.there;refine gL ec cl I.kIn he hcl ?_;rw[hc];exact hrest.h pins s0 H0 σ D ea t _ B H' dc _ I0 F fly hd q
theorem wZ:QCall X (.builtin "isinstance") (fun xs H Q=>∃(a c tp:Addr) (dc:Option Addr) (cs:List V) (us:List Value) (b:Bool),xs=[.ref a,.ref tp]/\H a=some (exD a c dc)/\zi H dc/\ExK X.K c/\H tp=some (.tup cs)/\(∀vs,Vals cs vs->vs=us)/\PySem.W.kitAny X.K (.ref c) us=some b/\Q (.bl b) H):=by refine⟨?_⟩;intro pins s σ H xs us0 Q I r h;obtain⟨a,c,tp,dc,cs,us,b,rfl,ha,hd,k,ht,hv,e,q⟩:=h;obtain⟨v,w',rfl,rx,ry⟩:=mS r;cases rx;cases ry;obtain⟨its,rv,tup,_⟩:=I.tuple (SqT.of ht);obtain rfl:=hv its rv;obtain⟨oe,od,ia,_⟩:=jb I ha hd;obtain⟨⟨cl,dd,da,sl⟩,h1,h2,n,h3⟩:=tup;cases h2;cases h3;exact PySem.W.kia_tup (pd k) I.kIn ia h1 e (fun z=>nomatch z) fun tk=>⟨.bl b,H,I.tok tk,rfl,q⟩
end
end L2
set_option maxRecDepth 100000
set_option maxHeartbeats 4000000
namespace K18
open PySem L2
open PyProof.Rows (envOfC)
open PySem.W (envX CodeHd)
def top(i:Nat):Stmt:=PySem.Challenge.pw_limb_k18_heard_once.main.body.getD i (.Pass ⟨0,0,0,0⟩)
theorem cxK{CX:CXT}{N:List Str}{qual:Str}{scope:Scope}{f:Addr}{cd:Value}{A:Around}{outer:List Env}{s:Shared}{H:Hp}{E:XK}:(dq CX P w K mg base N qual scope f cd A outer s H E).nox.K=K:=rfl
theorem vix{K:PySem.W.Frag}{i:Nat}{n:Int}{σ:St}{H:Hp}{Q:VK}{a:Addr}{xs:List V}{v:V}(hv:σ[i]?=some (some (.ref a)))(hs:SqT K H a xs)(ha:atI xs n=some v)(q:Q v H):tOp (vY K) (lB i) (tC (.int n)) σ H Q:=⟨_,hv,a,_,_,_,rfl,rfl,hs,ha,q⟩
theorem xx{K:PySem.W.Frag}{a:Addr}{xs:List V}{g:TG}{tb:L2.TS}{D:Ends}{σ:St}{H:Hp}(Pv:Nat->St->Hp->Prop)(h0:Pv 0 σ H)(hl:∀i σ H,i<=xs.length->Pv i σ H->SqL K H a xs)(hs:∀i x σ H,xs[i]?=some x->Pv i σ H->∀D':Ends,(∀σ' H',Pv (i+1) σ' H'->D'.nx σ' H')->g x σ H fun σ2 H2=>tb D' σ2 H2)(hd:∀σ H,Pv xs.length σ H->D.nx σ H) :
  ∃W:Nat->Nat->St->Hp->Prop,(∃m,W 0 m σ H)/\∀i m σ H,W i m σ H ->
   ((Itl K a).stop i H/\D.nx σ H)\/((Itl K a).go i H/\∃N:St->Hp->Prop,(∀σ' H',N σ' H'->∃m',m'<m/\W (i+1) m' σ' H')/\∀x H',(Itl K a).yld i H x H'->g x σ H' fun σ2 H2=>tb { D with nx:=N,ct:=N,bk:=D.nx } σ2 H2) :=
 qI Pv h0 hl (fun i x σ H a b=>hs i x σ H a b _ fun _ _ z=>z) hd
theorem jc{K:PySem.W.Frag}{a:Addr}{xs:List V}{j:Nat}{tb:L2.TS}{D:Ends}{σ:St}{H:Hp}(Pv:Nat->St->Hp->Prop)(h0:Pv 0 σ H)(hl:∀i σ H,i<=xs.length->Pv i σ H->SqL K H a xs)(hs:∀i x σ H,xs[i]?=some x->Pv i σ H->∀D':Ends,(∀σ' H',Pv (i+1) σ' H'->D'.nx σ' H')->tb D' (σ.set j (some x)) H)(hd:∀σ H,Pv xs.length σ H->D.nx σ H) :
  ∃W:Nat->Nat->St->Hp->Prop,(∃m,W 0 m σ H)/\∀i m σ H,W i m σ H ->
   ((Itl K a).stop i H/\D.nx σ H)\/((Itl K a).go i H/\∃N:St->Hp->Prop,(∀σ' H',N σ' H'->∃m',m'<m/\W (i+1) m' σ' H')/\∀x H',(Itl K a).yld i H x H'->bN j x σ H' fun σ2 H2=>tb { D with nx:=N,ct:=N,bk:=D.nx } σ2 H2) :=
 xx Pv h0 hl hs hd
theorem aC{t u:L2.TS}{D:Ends}{σ:St}{H:Hp}(h:∀R:Ends,(∀σ' H',u D σ' H'->R.nx σ' H')->t R σ H):AU t u D σ H:=h { D with nx:=u D } fun _ _ z=>z
inductive Wh
 |no
 |put (m:Int)
 |off (k:Int)
structure Dd where
 h:Nat
 ns:List Int
 w:Wh
def D0:Dd:=⟨0,[],.no⟩
def aS(d:Dd)(i:Nat):Int:=if i=d.h then ai d.ns i-1 else ai d.ns i
def nmZ(d:Dd):List Int:=[(d.h:Int),ai d.ns d.h]
def nmK(d:Dd):List Key:=[.inl (d.h:Int),.inl (ai d.ns d.h)]
def di(d:Dd):List Nat:=(List.range d.ns.length).filter fun i=>decide (aS d i>0)
def kyZ(d:Dd):List Int:=[d.ns.sum,(d.h:Int)]
def kLt(d e:Dd):Prop:=d.ns.sum<e.ns.sum\/(d.ns.sum=e.ns.sum/\d.h<e.h)
def leC(a b:List Int):Prop:=∀i,i<a.length->ai a i<=ai b i
def fU(ns ms:List Int):Bool:=((List.range ns.length).map fun i=>decide (ai ns i<=ai ms i)).all id
theorem yT{a b:List Int}(h:leC a b):fU a b=true:=by unfold fU;rw[ZU];intro x hx;obtain⟨i,hi,rfl⟩:=Zu.mp hx;exact decide_eq_true (h i (Ye.mp hi))
theorem Fc(d e:Dd):HT.lexLt (kyZ d) (kyZ e)=true↔kLt d e:=by
 unfold kyZ kLt;rw[HT.lexLt_cons];by_cases c:d.ns.sum=e.ns.sum
 ·rw[HK c,tX];constructor
  ·intro h;have:=Z3 h;exact .inr ⟨c,by omega⟩
  ·rintro(h|⟨_,h⟩)
   ·omega
   ·exact decide_eq_true (by omega)
 ·rw[HH c];constructor
  ·intro h;exact .inl (Z3 h)
  ·rintro(h|⟨h,_⟩)
   ·exact decide_eq_true h
   ·exact absurd h c
theorem fD{α:Type}(L:List α)(z:α):(List.range L.length).map (fun i=>L.getD i z)=L:=by
 apply List.ext_getElem
 ·simp
 ·intro i h1 h2;simp[h2]
theorem sQ{α:Type}{f:α->Dd}{L:List α}{z:α}{p:Array Nat}(hp:POk L.length p)(hs:LS (fun i j=>HT.lexLt ((L.map fun x=>kyZ (f x)).getD i []) ((L.map fun x=>kyZ (f x)).getD j [])) p L.length) :
  ((p.toList.map fun i=>L.getD i z).map f).Pairwise (fun d e=>¬kLt e d)/\(p.toList.map fun i=>L.getD i z).Perm L:=by
 have ep:p.toList.Perm (List.range L.length):=by have:=Array.perm_iff_toList_perm.mp hp;simpa using this
 refine⟨?_,?_⟩
 ·rw[Yb,YZ];have hz:p.size=L.length:=by have:=hp.size_eq;simpa using this
  rw[ZG];intro i j hi hj hij;rw[Zl]at hi hj;have lx:=hs i j hij (by omega);have e1:gA p i=p.toList[i]'(by rw[Zl];exact hi):=by rw[aI,Zf,Ze (by rw[Zl];exact hi)];rfl
  have e2:gA p j=p.toList[j]'(by rw[Zl];exact hj):=by rw[aI,Zf,Ze (by rw[Zl];exact hj)];rfl
  have nd:(p.toList).Nodup:=ep.nodup_iff.mpr List.nodup_range;have ne:p.toList[i]'(by rw[Zl];exact hi)≠p.toList[j]'(by rw[Zl];exact hj):=by rw[List.nodup_iff_pairwise_ne,ZG]at nd;exact nd i j _ _ hij
  have m1:p.toList[i]'(by rw[Zl];exact hi)<L.length:=Ye.mp (ep.mem_iff.mp (ZI _));have m2:p.toList[j]'(by rw[Zl];exact hj)<L.length:=Ye.mp (ep.mem_iff.mp (ZI _));rw[e1,e2]at lx;generalize p.toList[i]'(by rw[Zl];exact hi)=a at *;generalize p.toList[j]'(by rw[Zl];exact hj)=b at *;have ga:∀k,k<L.length->(L.map fun x=>kyZ (f x)).getD k []=kyZ (f (L.getD k z)):=fun k hk=>by simp[hk]
  have lx':HT.lexLt (kyZ (f (L.getD b z))) (kyZ (f (L.getD a z)))=false:=by have:=lx.1;dsimp only at this;rw[ga a m1,ga b m2]at this;exact this
  show¬kLt (f (L.getD b z)) (f (L.getD a z));intro h;rw[(Fc _ _).mpr h]at lx';cases lx'
 ·have:=ep.map fun i=>L.getD i z;rw[fD]at this;exact this
theorem BO{d e:Dd}(h:kLt d e)(k:kLt e d):False:=by unfold kLt at h k;omega
theorem yA{A B:List Dd}(ha:A.Pairwise kLt)(hb:B.Pairwise kLt)(p:A.Perm B):A=B:=List.Perm.eq_of_pairwise (fun _ _ _ _ h k=>(BO h k).elim) ha hb p
def aq(M:List (Addr×Dd)):List (List Key×V):=M.map fun x=>(nmK x.2,V.ref x.1)
theorem yM:∀{a b:List Int},a.length=b.length->leC a b->a.sum<=b.sum
 | [],[],_,_=>Int.le_refl _
 |x::a,y::b,e,h=>by rw[List.sum_cons,List.sum_cons];have h0:x<=y:=h 0 (by simp);have:=yM (a:=a) (b:=b) (by simpa using e) fun i hi=>h (i+1) (by simpa using hi);omega
theorem qD{c:List Int}{k i:Nat}{v:Int}(hk:k<c.length):ai (c.set k v) i=if i=k then v else ai c i:=by
 unfold ai;rw[List.getElem?_set];by_cases e:i=k
 ·subst e;rw[HK rfl,HK rfl,HK hk];rfl
 ·rw[HH (fun z=>e z.symm),HH e]
theorem zG(n i:Nat):ai (List.replicate n (0:Int)) i=0:=by unfold ai;rw[List.getElem?_replicate];split<;>rfl
theorem mT{a b:List Int}:fU a b=true↔leC a b:=by refine⟨fun h i hi=>?_,yT⟩;unfold fU at h;rw[ZU]at h;exact Z3 (h _ (Zu.mpr ⟨i,Ye.mpr hi,rfl⟩))
structure UN(n:Nat)(L:List Dd):Prop where
 len:∀d∈L,d.ns.length=n/\d.h<n
 own:∀d∈L,0<ai d.ns d.h
 uni:L.Pairwise fun d e=>nmK d≠nmK e
theorem UN.perm{n:Nat}{L M:List Dd}(g:UN n L)(p:L.Perm M):UN n M:=⟨fun d hd=>g.len d (p.mem_iff.mpr hd),fun d hd=>g.own d (p.mem_iff.mpr hd),g.uni.perm p fun{x y} h e=>h e.symm⟩
theorem UN.sub{n:Nat}{L M:List Dd}(g:UN n L)(p:M.Sublist L):UN n M:=⟨fun d hd=>g.len d (p.subset hd),fun d hd=>g.own d (p.subset hd),g.uni.sublist p⟩
theorem hM:∀{L:List Dd},(L.Pairwise fun d e=>nmK d≠nmK e)->∀{d e:Dd},d∈L->e∈L->nmK d=nmK e->d=e
 |x::L,u,d,e,hd,he,h=>by
  rw[List.pairwise_cons]at u;rcases Zs.mp hd with z1|hd'
  ·rcases Zs.mp he with z2|he'
   ·rw[z1,z2]
   ·exact absurd (z1▸h) (u.1 e he')
  ·rcases Zs.mp he with z2|he'
   ·exact absurd (z2▸h).symm (u.1 d hd')
   ·exact hM u.2 hd' he' h
def gK(R:List Dd)(d:Dd)(i:Nat):Bool:=match R.find? (fun e=>decide (nmK e=[.inl (i:Int),.inl (aS d i)]))with
 |some e=>fU e.ns d.ns
 |none=>false
def mX(R:List Dd)(d:Dd):Bool:=(di d).all fun i=>gK R d i
def An(R:List Dd)(d:Dd)(i:Nat):Prop:=∃e∈R,e.h=i/\ai e.ns e.h=aS d i/\leC e.ns d.ns
theorem hJ{e:Dd}{i:Nat}{z:Int}:nmK e=[.inl (i:Int),.inl z]↔e.h=i/\ai e.ns e.h=z:=by
 unfold nmK;constructor
 ·intro h;injection h with h1 h2;injection h2 with h3 _;injection h1 with h1;injection h3 with h3;exact⟨by omega,h3⟩
 ·rintro⟨rfl,rfl⟩;rfl
theorem sZ{R:List Dd}(u:R.Pairwise fun d e=>nmK d≠nmK e){d:Dd}{i:Nat}:gK R d i=true↔An R d i:=by
 unfold gK;cases hf:R.find? (fun e=>decide (nmK e=[.inl (i:Int),.inl (aS d i)]))with
 |none =>
  constructor
  ·intro h;cases h
  ·rintro⟨e,he,e1,e2,_⟩;have:=List.find?_eq_none.mp hf e he;exact absurd (hJ.mpr ⟨e1,e2⟩) (by simpa using this)
 |some x =>
  have hm:=List.mem_of_find?_eq_some hf;have hq:=List.find?_some hf;have hx:=hJ.mp (Z3 hq);constructor
  ·intro h;exact⟨x,hm,hx.1,hx.2,mT.mp h⟩
  ·rintro⟨e,he,e1,e2,e3⟩;have:x=e:=hM u hm he ((hJ.mpr hx).trans (hJ.mpr ⟨e1,e2⟩).symm);rw[this];exact mT.mpr e3
theorem sV{n:Nat}{R:List Dd}(u:R.Pairwise fun d e=>nmK d≠nmK e){d:Dd}(hd:d.ns.length=n):mX R d=true↔∀i,i<n->aS d i>0->An R d i:=by
 unfold mX di;rw[ZU];constructor
 ·intro h i hi hl;exact(sZ u).mp (h i (x6.mpr ⟨Ye.mpr (by omega),decide_eq_true hl⟩))
 ·intro h i hi;obtain⟨h1,h2⟩:=x6.mp hi;exact(sZ u).mpr (h i (by have:=Ye.mp h1;omega) (Z3 h2))
def Ch(n:Nat)(R:List Dd):Prop:=∀k (hk:k<R.length),∀i,i<n->aS R[k] i>0->An (R.take k) R[k] i
def Sat(n:Nat)(L B:List Dd):Prop:=∀d∈L,(∀i,i<n->aS d i>0->An B d i)->d∈B
theorem Ch.snoc{n:Nat}{R:List Dd}{d:Dd}(c:Ch n R)(h:∀i,i<n->aS d i>0->An R d i):Ch n (R++[d]):=fun k hk i hi hl=>by
 rcases Z8 k R.length with c1|c1
 ·rw[List.getElem_append_left c1]at hl ⊢;rw[List.take_append_of_le_length (YT c1)];exact c k c1 i hi hl
 ·have e:k=R.length:=by rw[Zj,Zy]at hk;omega
  subst e;have ed:(R++[d])[R.length]=d:=by simp
  rw[ed]at hl ⊢;rw[List.take_left];exact h i hi hl
theorem yL{n:Nat}{L A B:List Dd}(c:Ch n A)(hA:∀d∈A,d∈L)(s:Sat n L B):∀d∈A,d∈B:=by
 have go:∀k (hk:k<A.length),A[k]∈B:=by
  intro k;induction k using Nat.strongRecOn with
  |_ k ih =>intro hk;refine s _ (hA _ (ZI hk)) fun i hi hl=>?_;obtain⟨e,he,r⟩:=c k hk i hi hl;obtain⟨j,hj,rfl⟩:=ZS.mp he;rw[Z0]at hj;refine⟨_,?_,r⟩;rw[List.getElem_take];exact ih j (by omega) (by omega)
 intro d hd;obtain⟨k,hk,rfl⟩:=ZS.mp hd;exact go k hk
theorem mL:∀{a b:List Int} {k:Nat},a.length=b.length->leC a b->k<a.length->ai a k<ai b k->a.sum<b.sum
 |x::a,y::b,0,e,h,_,hl=>by rw[List.sum_cons,List.sum_cons];have h0:x<y:=hl;have:=yM (a:=a) (b:=b) (by simpa using e) fun i hi=>h (i+1) (by simpa using hi);omega
 |x::a,y::b,k+1,e,h,hk,hl=>by rw[List.sum_cons,List.sum_cons];have h0:x<=y:=h 0 (by simp);have:=mL (a:=a) (b:=b) (k:=k) (by simpa using e) (fun i hi=>h (i+1) (by simpa using hi)) (by simpa using hk) hl;omega
theorem kN{a b:List Int}(e:a.length=b.length)(h:∀i,i<a.length->ai a i=ai b i):a=b:=by apply List.ext_getElem e;intro i h1 h2;have:=h i h1;unfold ai at this;rw[Ze h1,Ze h2]at this;exact this
theorem Fe{a b:List Int}(e:a.length=b.length)(h:leC a b):a=b\/a.sum<b.sum:=by
 by_cases c:∃k,k<a.length/\ai a k<ai b k
 ·obtain⟨k,hk,hl⟩:=c;exact .inr (mL e h hk hl)
 ·refine .inl (kN e fun i hi=>?_);have h1:=h i hi;have h2:¬ai a i<ai b i:=fun z=>c ⟨i,hi,z⟩;omega
theorem eZ(d:Dd):aS d d.h=ai d.ns d.h-1:=by unfold aS;rw[HK rfl]
theorem BR{d:Dd}{i:Nat}(h:i≠d.h):aS d i=ai d.ns i:=by unfold aS;rw[HH h]
theorem xf{n:Nat}{R:List Dd}(c:Ch n R)(u:UN n R):∀(m:Nat) {d e:Dd},d∈R->e∈R->d.h=e.h->ai d.ns d.h+(m:Int)+1=ai e.ns e.h->d.ns.sum<e.ns.sum:=by
 intro m;induction m with
 |zero =>intro d e hd he eh em;obtain⟨k,hk,rfl⟩:=ZS.mp he;have h1:=u.own d hd;obtain⟨x,hx,x1,x2,x3⟩:=c k hk R[k].h (u.len _ he).2 (by rw[eZ];omega);have hx':=List.mem_of_mem_take hx;rw[eZ]at x2;have:x=d:=hM u.uni hx' hd ((hJ (i:=R[k].h) (z:=ai d.ns d.h)).mpr ⟨x1,by rw[x2];omega⟩ |>.trans (hJ.mpr ⟨eh,rfl⟩).symm);subst this;refine mL (k:=x.h) (by rw[(u.len x hd).1,(u.len _ he).1]) x3 (by rw[(u.len x hd).1];exact(u.len x hd).2) ?_;rw[x2,x1];omega
 |succ m ih =>
  intro d e hd he eh em;obtain⟨k,hk,rfl⟩:=ZS.mp he;have h1:=u.own d hd;obtain⟨x,hx,x1,x2,x3⟩:=c k hk R[k].h (u.len _ he).2 (by rw[eZ];omega);have hx':=List.mem_of_mem_take hx;rw[eZ]at x2;have s1:=ih hd hx' (eh.trans x1.symm) (by rw[x2];omega);have s2:x.ns.sum<R[k].ns.sum:=by refine mL (k:=x.h) (by rw[(u.len x hx').1,(u.len _ he).1]) x3 (by rw[(u.len x hx').1];exact(u.len x hx').2) ?_;rw[x2,x1];omega
  omega
theorem C5{n:Nat}{R:List Dd}(c:Ch n R)(u:UN n R):R.Pairwise fun d e=>d.h=e.h->d.ns.sum≠e.ns.sum:=by
 rw[ZG];intro i j hi hj hij eh es;have hd:=ZI hi;have he:=ZI hj;have ne:ai R[i].ns R[i].h≠ai R[j].ns R[j].h:=fun z=>by have un:=u.uni;rw[ZG]at un;exact un i j hi hj hij (by unfold nmK;rw[z,eh])
 rcases Int.lt_or_gt_of_ne ne with q|q
 ·have:=xf c u (ai R[j].ns R[j].h-ai R[i].ns R[i].h-1).toNat hd he eh (by omega);omega
 ·have:=xf c u (ai R[i].ns R[i].h-ai R[j].ns R[j].h-1).toNat he hd eh.symm (by omega);omega
abbrev LT:=List (Addr×Dd)
def vals(L:LT):List Dd:=L.map Prod.snd
def fJ(R:LT)(x:Addr×Dd):LT:=if mX (vals R) x.2=true then R++[x]else R
def bf(S:LT)(k:Nat):LT:=(S.take k).foldl fJ []
theorem dF{S:LT}{k:Nat}(hk:k<S.length):bf S (k+1)=fJ (bf S k) S[k]:=by unfold bf;rw[List.take_add_one,Ze hk,Option.toList_some,List.foldl_append];rfl
theorem ce(S:LT):∀k,k<=S.length->(bf S k).Sublist (S.take k)
 |0,_=>by unfold bf;exact List.Sublist.refl _
 |k+1,h=>by
  have ih:=ce S k (by omega);rw[dF (by omega),List.take_add_one,Ze (by omega),Option.toList_some];unfold fJ;split
  ·exact ih.append (List.Sublist.refl _)
  ·exact ih.trans (List.sublist_append_left _ _)
theorem dz{A B:LT}(h:A.Sublist B):(vals A).Sublist (vals B):=h.map _
theorem mY{n:Nat}{S:LT}(u:UN n (vals S)):∀k,k<=S.length->Ch n (vals (bf S k))
 |0,_=>fun k hk=>absurd hk (by simp[bf,vals])
 |k+1,h=>by
  have ih:=mY u k (by omega);have us:=u.sub (dz ((ce S k (by omega)).trans (ZO _ _)));rw[dF (by omega)];unfold fJ;split
  ·rename_i c;unfold vals at ih us c ⊢;rw[ZE];exact ih.snoc ((sV us.uni (u.len _ (Zu.mpr ⟨S[k],ZI (by omega),rfl⟩)).1).mp c)
  ·exact ih
theorem qw(S:LT):∀{k j:Nat},k<=j->j<=S.length->∀x∈bf S k,x∈bf S j:=by
 intro k j hkj;induction hkj with
 |refl=>intro _ x hx;exact hx
 |step h ih =>
  intro hj x hx;rw[dF (by omega)];unfold fJ;have:=ih (by omega) x hx;split
  ·exact List.mem_append_left _ this
  ·exact this
theorem wY{S:LT}(nd:S.Nodup){i:Nat}(hi:i<S.length):∀{j:Nat},i<j->j<=S.length->S[i]∈bf S j->S[i]∈bf S (i+1):=by
 intro j hij;induction hij with
 |refl=>intro _ h;exact h
 |step h ih =>
  intro hj hx;rename_i j;have hij':i+1<=j:=h;rw[dF (by omega)]at hx;unfold fJ at hx;split at hx
  ·rcases ZK.mp hx with hx|hx
   ·exact ih (by omega) hx
   ·exfalso;have e:=Zr.mp hx;rw[List.nodup_iff_pairwise_ne,ZG]at nd;exact nd i j hi (by omega) (by omega) e
  ·exact ih (by omega) hx
theorem Af{n:Nat}{S:LT}(u:UN n (vals S)):S.Nodup:=by have:=u.uni;unfold vals at this;rw[YZ]at this;exact this.imp fun{a b} h z=>h (by rw[z])
theorem zq{n:Nat}{S:LT}(u:UN n (vals S))(hs:(vals S).Pairwise fun d e=>¬kLt e d):Sat n (vals S) (vals (bf S S.length)):=fun d hd h=>by
 obtain⟨x,hx,rfl⟩:=Zu.mp hd;obtain⟨k,hk,rfl⟩:=ZS.mp hx;have nd:=Af u;have subM:=(ce S S.length (Zb _)).trans (ZO _ _);have uM:=u.sub (dz subM);have cM:=mY u S.length (Zb _);by_cases c:∃i,i<n/\aS S[k].2 i>0/\∃e∈vals (bf S S.length),e.h=i/\ai e.ns e.h=aS S[k].2 i/\leC e.ns S[k].2.ns/\e.ns=S[k].2.ns
 ·obtain⟨i,hi,hl,e,he,e1,e2,e3,e4⟩:=c;have ne:i≠S[k].2.h:=fun z=>by rw[z,eZ]at e2;rw[e4,e1,z]at e2;omega
  obtain⟨j,hj,rfl⟩:=ZS.mp he;have lh:aS (vals (bf S S.length))[j] S[k].2.h=ai S[k].2.ns S[k].2.h:=by rw[BR (by rw[e1];exact fun z=>ne z.symm),e4]
  obtain⟨x,hx,x1,x2,x3⟩:=cM j hj S[k].2.h (u.len _ hd).2 (by rw[lh];exact u.own _ hd);have hx':=List.mem_of_mem_take hx;rw[lh]at x2;have:x=S[k].2:=hM u.uni ((dz subM).subset hx') hd (by unfold nmK;rw[x2,x1]);rw[<-this];exact hx'
 ·have all:∀i,i<n->aS S[k].2 i>0->An (vals (bf S k)) S[k].2 i:=fun i hi hl=>by
   obtain⟨e,he,e1,e2,e3⟩:=h i hi hl;have heS:=(dz subM).subset he;have sl:e.ns.sum<S[k].2.ns.sum:=by
    rcases Fe (by rw[(u.len e heS).1,(u.len _ hd).1]) e3 with z|z
    ·exact absurd ⟨i,hi,hl,e,he,e1,e2,e3,z⟩ c
    ·exact z
   obtain⟨y,hy,rfl⟩:=Zu.mp he;obtain⟨j,hj,rfl⟩:=ZS.mp (subM.subset hy);have hjk:j<k:=by
    rcases Z8 j k with q|q
    ·exact q
    ·exfalso;rcases Z8 k j with q2|q2
     ·rw[ZG]at hs;have:=hs k j (by unfold vals;rw[Zd];exact hk) (by unfold vals;rw[Zd];exact hj) q2;simp only[vals,List.getElem_map]at this;exact this (.inl sl)
     ·have:j=k:=by omega
      subst this;omega
   refine⟨S[j].2,Zu.mpr ⟨S[j],?_,rfl⟩,e1,e2,e3⟩;exact qw S (show j+1<=k by omega) (by omega) _ (wY nd hj (show j<S.length by omega) (Zb _) hy)
  have us:=u.sub (dz ((ce S k (by omega)).trans (ZO _ _)));have ac:=(sV us.uni (u.len _ hd).1).mpr all;have:S[k]∈bf S (k+1):=by rw[dF hk];unfold fJ;rw[HK ac];exact Zv _ (Zr.mpr rfl)
  exact Zu.mpr ⟨S[k],qw S (show k+1<=S.length by omega) (Zb _) _ this,rfl⟩
theorem yK{R:List Dd}(h:R.Pairwise fun d e=>¬kLt e d)(u:R.Pairwise fun d e=>d.h=e.h->d.ns.sum≠e.ns.sum):R.Pairwise kLt:=by
 refine(List.Pairwise.and h u).imp fun{d e} ⟨h1,h2⟩=>?_;unfold kLt at h1 ⊢;by_cases c:d.h=e.h
 ·have:=h2 c;omega
 ·omega
def tw(l:List Str):TV:=.tup (l.map V.str)
def DT:List (Str×TV):=[("put",tw ["up","place","text"]),("move",tw ["item","up","place"]),("write",tw ["item","text"]),("mark",tw ["item","truth"]),("due",tw ["item","whom"]),("fold",tw ["item","truth"]),("part",tw ["item","at","place"]),("join",tw ["item","item"]),("take",tw ["item"]),("back",tw ["item"]),("off",tw ["number"]),("on",tw ["number"]),("none",tw [])]
inductive Kd|u|p|t|i|b|w|a|n
deriving DecidableEq
def nm:Kd->Str
 |.u=>"up" |.p=>"place" |.t=>"text" |.i=>"item" |.b=>"truth" |.w=>"whom" |.a=>"at" |.n=>"number"
def bp:V->Int->Bool
 |.int i,lo=>decide (lo<=i)
 |_,_=>false
def ltB:V->Int->Bool
 |.int i,h=>decide (i<h)
 |_,_=>false
def qc(h:Int):Option HO->Bool
 |some (.tup [x,y])=>bp x 0&&(ltB x h&&bp y 1)
 |_=>false
def jT(H:Hp)(h:Int):V->Bool
 |.ref a=>qc h (H a)
 |_=>false
def qE(h:Int):Option HO->Bool
 |some (.tup xs)=>decide ((xs.length:Int)=h)&&xs.all (fun x=>bp x 0)
 |_=>false
def fV(H:Hp)(h:Int):V->Bool
 |.ref a=>qE h (H a)
 |_=>false
theorem br{H:Hp}{a:Addr}{o:HO}{h:Int}(e:H a=some o):jT H h (.ref a)=qc h (some o):=by show qc h (H a)=_;rw[e]
theorem aU{H:Hp}{a:Addr}{o:HO}{h:Int}(e:H a=some o):fV H h (.ref a)=qE h (some o):=by show qE h (H a)=_;rw[e]
theorem xG{K:PySem.W.Frag}{H:Hp}{v:V}{n:String}{h:Int}(ty:TyOf K H v (.type n))(hT:isT H v=false):jT H h v=false/\fV H h v=false:=by
 cases ty with
 |lst z=>exact⟨br z,aU z⟩
 |frz z=>exact⟨br z,aU z⟩
 |tup z=>rw[bA z (b:=true) rfl]at hT;cases hT
 |dK z=>exact⟨br z,aU z⟩
 |dT z=>exact⟨br z,aU z⟩
 |_=>exact⟨rfl,rfl⟩
def mt:Option HO->Bool
 |some (.tup xs)=>decide (1<=xs.length)&&decide (xs.length<=64)&&xs.all dS
 |_=>false
def gc(H:Hp):V->Bool
 |.ref a=>mt (H a)
 |_=>false
theorem aX{H:Hp}{a:Addr}{o:HO}(e:H a=some o):gc H (.ref a)=mt (some o):=by show mt (H a)=_;rw[e]
theorem sJ{K:PySem.W.Frag}{H H':Hp}{v:V}{n:String}(h:TyOf K H v (.type n))(e:Same H H'):gc H' v=gc H v:=by
 cases h with
 |lst q=>rw[aX (e _ _ q),aX q]
 |frz q=>rw[aX (e _ _ q),aX q]
 |tup q=>rw[aX (e _ _ q),aX q]
 |dK q=>rw[aX (e _ _ q),aX q]
 |dT q=>rw[aX (e _ _ q),aX q]
 |_=>rfl
def isS:V->Bool
 |.str _=>true
 |_=>false
theorem tR{K:PySem.W.Frag}{H:Hp}{v:V}{n:String}(h:TyOf K H v (.type n)):PySem.W.kitOne K (.type n) (.type "str")=some (isS v):=by
 cases h with
 |str x=>exact bv (b:=true) (by decide +kernel) (fun z=>nomatch z)
 |non=>exact aB (b:=false) (by decide +kernel) (by decide +kernel) (by decide +kernel)
 |bl x=>exact aB (b:=false) (by decide +kernel) (by decide +kernel) (by decide +kernel)
 |int i=>exact aB (b:=false) (by decide +kernel) (by decide +kernel) (by decide +kernel)
 |flt x=>exact aB (b:=false) (by decide +kernel) (by decide +kernel) (by decide +kernel)
 |lst e=>exact aB (b:=false) (by decide +kernel) (by decide +kernel) (by decide +kernel)
 |frz e=>exact aB (b:=false) (by decide +kernel) (by decide +kernel) (by decide +kernel)
 |tup e=>exact aB (b:=false) (by decide +kernel) (by decide +kernel) (by decide +kernel)
 |dK e=>exact aB (b:=false) (by decide +kernel) (by decide +kernel) (by decide +kernel)
 |dT e=>exact aB (b:=false) (by decide +kernel) (by decide +kernel) (by decide +kernel)
theorem vA{K:PySem.W.Frag}{H H':Hp}{v:V}{n:String}{h:Int}(t:TyOf K H v (.type n))(e:Same H H'):jT H' h v=jT H h v:=by
 cases t with
 |lst q=>rw[br (e _ _ q),br q]
 |frz q=>rw[br (e _ _ q),br q]
 |tup q=>rw[br (e _ _ q),br q]
 |dK q=>rw[br (e _ _ q),br q]
 |dT q=>rw[br (e _ _ q),br q]
 |_=>rfl
theorem sj{K:PySem.W.Frag}{H H':Hp}{v:V}{n:String}{h:Int}(t:TyOf K H v (.type n))(e:Same H H'):fV H' h v=fV H h v:=by
 cases t with
 |lst q=>rw[aU (e _ _ q),aU q]
 |frz q=>rw[aU (e _ _ q),aU q]
 |tup q=>rw[aU (e _ _ q),aU q]
 |dK q=>rw[aU (e _ _ q),aU q]
 |dT q=>rw[aU (e _ _ q),aU q]
 |_=>rfl
theorem qN{K:PySem.W.Frag}{H H':Hp}{v:V}{n:String}(t:TyOf K H v (.type n))(e:Same H H'):isT H' v=isT H v:=by
 cases t with
 |lst q=>rw[bA (e _ _ q) rfl,bA q rfl]
 |frz q=>rw[bA (e _ _ q) rfl,bA q rfl]
 |tup q=>rw[bA (e _ _ q) rfl,bA q rfl]
 |dK q=>rw[bA (e _ _ q) rfl,bA q rfl]
 |dT q=>rw[bA (e _ _ q) rfl,bA q rfl]
 |_=>rfl
def ka(c:Nat):Bool:=(decide ((32:Int)<=c)&&decide ((c:Int)<=126))&&!decide ((c:Int)=37)
def hW(x:Str):Bool:=x.cps.toList.all ka
def nmL(hd:Int)(ns:List Int):List Int:=[hd,ai ns hd.toNat]
def jk(hd:Int)(ns:List Int)(i j:Int):Bool:=(decide (0<=i)&&(decide (i<ns.length)&&decide (1<=j)))&&(decide (j<=ai ns i.toNat)&&!decide ([i,j]=nmL hd ns))
inductive ItemR(K:PySem.W.Frag)(H:Hp)(hd:Int)(ns:List Int):V->Bool->Prop
 |no {v:V} (a:Asked K H v) (e:jT H ns.length v=false):ItemR K H hd ns v false
 |is {a:Addr} {i j:Int} (e:H a=some (.tup [.int i,.int j])):ItemR K H hd ns (.ref a) (jk hd ns i j)
theorem ItemR.same{K:PySem.W.Frag}{H H':Hp}{hd:Int}{ns:List Int}{v:V}{b:Bool}(r:ItemR K H hd ns v b)(s:Same H H'):ItemR K H' hd ns v b:=by
 cases r with
 |no a e=>exact .no (a.same s) (by obtain⟨⟨n,t⟩,_⟩:=a;rw[vA t s];exact e)
 |is e=>exact .is (s _ _ e)
inductive PartR(K:PySem.W.Frag)(H:Hp)(hd:Int)(ns:List Int):Kd->V->Bool->Prop
 |it {v:V} {b:Bool} (r:ItemR K H hd ns v b):PartR K H hd ns .i v b
 |u0:PartR K H hd ns .u .non true
 |up {v:V} {b:Bool} (hv:v≠.non) (r:ItemR K H hd ns v b):PartR K H hd ns .u v b
 |pl {v:V} {b:Bool} (a:Asked K H v) (e:gc H v=b):PartR K H hd ns .p v b
 |tx {x:Str} {b:Bool} (hl:x.length<=1000) (ha:x.cps.all (·<128)=true) (e:(hW x&&decide (x.length<=60))=b):PartR K H hd ns .t (.str x) b
 |tn {v:V} {n:String} (ty:TyOf K H v (.type n)) (hs:isS v=false):PartR K H hd ns .t v false
 |bl {v:V} {n:String} {b:Bool} (ty:TyOf K H v (.type n)) (e:isB v=b):PartR K H hd ns .b v b
 |w0:PartR K H hd ns .w .non true
 |wh {v:V} {n:String} {b:Bool} (hv:v≠.non) (ty:TyOf K H v (.type n)) (e:(bp v 0&&ltB v ns.length)=b):PartR K H hd ns .w v b
 |at{v:V} {n:String} {b:Bool} (ty:TyOf K H v (.type n)) (e:bp v 0=b):PartR K H hd ns .a v b
 |nu {v:V} {n:String} {b:Bool} (ty:TyOf K H v (.type n)) (e:(bp v 1&&ltB v (ai ns hd.toNat))=b):PartR K H hd ns .n v b
theorem PartR.same{K:PySem.W.Frag}{H H':Hp}{hd:Int}{ns:List Int}{k:Kd}{v:V}{b:Bool}(r:PartR K H hd ns k v b)(s:Same H H'):PartR K H' hd ns k v b:=by
 cases r with
 |it r=>exact .it (r.same s)
 |u0=>exact .u0
 |up hv r=>exact .up hv (r.same s)
 |pl a e=>exact .pl (a.same s) (by obtain⟨⟨n,t⟩,_⟩:=a;rw[sJ t s];exact e)
 |tx hl ha e=>exact .tx hl ha e
 |tn ty hs=>exact .tn (bL s ty) hs
 |bl ty e=>exact .bl (bL s ty) e
 |w0=>exact .w0
 |wh hv ty e=>exact .wh hv (bL s ty) e
 | «at» ty e=>exact .at (bL s ty) e
 |nu ty e=>exact .nu (bL s ty) e
def PartsR(K:PySem.W.Frag)(H:Hp)(hd:Int)(ns:List Int)(ks:List Kd)(ps:List V)(bs:List Bool):Prop:=ks.length=ps.length/\bs.length=ps.length/\∀(i:Nat) (k:Kd) (v:V) (b:Bool),ks[i]?=some k->ps[i]?=some v->bs[i]?=some b->PartR K H hd ns k v b
theorem PartsR.same{K:PySem.W.Frag}{H H':Hp}{hd:Int}{ns:List Int}{ks:List Kd}{ps:List V}{bs:List Bool}(p:PartsR K H hd ns ks ps bs)(s:Same H H'):PartsR K H' hd ns ks ps bs:=⟨p.1,p.2.1,fun i k v x h1 h2 h3=>(p.2.2 i k v x h1 h2 h3).same s⟩
inductive WhatR(K:PySem.W.Frag)(H:Hp)(hd:Int)(ns:List Int):V->Bool->Prop
 |flat {v:V} {n:String} (ty:TyOf K H v (.type n)) (hT:isT H v=false):WhatR K H hd ns v false
 |emp {a:Addr} (e:H a=some (.tup [])):WhatR K H hd ns (.ref a) false
 |noStr {a:Addr} {x:V} {n:String} {ps:List V} (e:H a=some (.tup (x::ps))) (ty:TyOf K H x (.type n)) (hs:isS x=false):WhatR K H hd ns (.ref a) false
 |noWord {a:Addr} {k:Str} {ps:List V} (e:H a=some (.tup (.str k::ps))) (hk:PyProof.Rows.KTD.datumAt k DT=none):WhatR K H hd ns (.ref a) false
 |len {a:Addr} {k:Str} {ps:List V} {ks:List Kd} (e:H a=some (.tup (.str k::ps))) (hk:PyProof.Rows.KTD.datumAt k DT=some (tw (ks.map nm))) (hl:ps.length≠ks.length):WhatR K H hd ns (.ref a) false
 |is {a:Addr} {k:Str} {ps:List V} {ks:List Kd} {bs:List Bool} {b:Bool} (e:H a=some (.tup (.str k::ps))) (hk:PyProof.Rows.KTD.datumAt k DT=some (tw (ks.map nm))) (l3:ks.length<=3) (p:PartsR K H hd ns ks ps bs) (hb:bs.all id=b):WhatR K H hd ns (.ref a) b
theorem WhatR.same{K:PySem.W.Frag}{H H':Hp}{hd:Int}{ns:List Int}{v:V}{b:Bool}(r:WhatR K H hd ns v b)(s:Same H H'):WhatR K H' hd ns v b:=by
 cases r with
 |flat ty hT=>exact .flat (bL s ty) (by rw[qN ty s];exact hT)
 |emp e=>exact .emp (s _ _ e)
 |noStr e ty hs=>exact .noStr (s _ _ e) (bL s ty) hs
 |noWord e hk=>exact .noWord (s _ _ e) hk
 |len e hk hl=>exact .len (s _ _ e) hk hl
 |is e hk l3 p hb=>exact .is (s _ _ e) hk l3 (p.same s) hb
inductive DeedR(K:PySem.W.Frag)(H:Hp)(h:Int):V->Bool->Prop
 |flat {v:V} {n:String} (ty:TyOf K H v (.type n)) (hT:isT H v=false):DeedR K H h v false
 |len {a:Addr} {xs:List V} (e:H a=some (.tup xs)) (hl:xs.length≠3):DeedR K H h (.ref a) false
 |hand {a:Addr} {x y z:V} {n:String} (e:H a=some (.tup [x,y,z])) (ty:TyOf K H x (.type n)) (hx:(bp x 0&&ltB x h)=false):DeedR K H h (.ref a) false
 |clock {a:Addr} {i:Int} {y z:V} (e:H a=some (.tup [.int i,y,z])) (i0:0<=i) (i1:i<h) (ay:Asked K H y) (hc:fV H h y=false):DeedR K H h (.ref a) false
 |zero {a c:Addr} {i:Int} {ns:List Int} {z:V} (e:H a=some (.tup [.int i,.ref c,z])) (i0:0<=i) (i1:i<h) (ec:H c=some (.tup (ns.map V.int))) (hl:(ns.length:Int)=h) (hn:∀n∈ns,0<=n) (h8:h<=8) (h0:ai ns i.toNat<1):DeedR K H h (.ref a) false
 |is {a c:Addr} {i:Int} {ns:List Int} {z:V} {b:Bool} (e:H a=some (.tup [.int i,.ref c,z])) (i0:0<=i) (i1:i<h) (ec:H c=some (.tup (ns.map V.int))) (hl:(ns.length:Int)=h) (hn:∀n∈ns,0<=n) (h8:h<=8) (h1:1<=ai ns i.toNat) (w:WhatR K H i ns z b):DeedR K H h (.ref a) b
def oA(K:PySem.W.Frag):Sp:=fun vs H Q _=>∃v n,vs=[v]/\TyOf K H v (.type n)/\Q (.bl (dS v)) H
def ie(K:PySem.W.Frag):Sp:=fun vs H Q _=>∃v n lo,vs=[v,.int lo]/\TyOf K H v (.type n)/\Q (.bl (bp v lo)) H
def um(K:PySem.W.Frag):Sp:=fun vs H Q _=>∃v h,vs=[v,.int h]/\Asked K H v/\Q (.bl (jT H h v)) H
def pq(K:PySem.W.Frag):Sp:=fun vs H Q _=>∃v h,vs=[v,.int h]/\Asked K H v/\∀H',Same H H'->Q (.bl (fV H h v)) H'
def ur:Sp:=fun vs H Q _=>∃(a b:Addr) (xs:List V) (i j z:Int),vs=[.ref a,.ref b]/\H a=some (.tup xs)/\H b=some (.tup [.int i,.int j])/\atI xs i=some (.int z)/\Q (.bl (decide (j<=z))) H
def rR(K:PySem.W.Frag):Sp:=fun vs H Q _=>∃v n,vs=[v]/\TyOf K H v (.type n)/\(isS v=false->Q (.bl false) H)/\(∀k,v=.str k->Q (.bl (PyProof.Rows.KTD.datumAt k DT).isSome) H)
def uo(K:PySem.W.Frag):Sp:=fun vs H Q _=>∃(k:Str) (ws:List Str),vs=[.str k]/\PyProof.Rows.KTD.datumAt k DT=some (tw ws)/\∀t,(∀H',SqT K H' t (ws.map V.str))->Q (.ref t) H
def pA(K:PySem.W.Frag):Sp:=fun vs H Q _=>∃v,vs=[v]/\Asked K H v/\∀H',Same H H'->Q (.bl (gc H v)) H'
def yH:Sp:=fun vs H Q _=>∃c:Nat,vs=[.str ⟨#[c]⟩]/\Q (.bl (ka c)) H
def rP(K:PySem.W.Frag):Sp:=fun vs H Q _=>∃v,vs=[v]/\((∃n,TyOf K H v (.type n)/\isS v=false/\Q (.bl false) H)\/∃x:Str,v=.str x/\x.length<=1000/\x.cps.all (·<128)=true/\∀H',Same H H'->Q (.bl (hW x)) H')
def rN(K:PySem.W.Frag):Sp:=fun vs H Q _=>∃v n h,vs=[v,.int h]/\TyOf K H v (.type n)/\Q (.bl (bp v 0&&ltB v h)) H
def uk(K:PySem.W.Frag):Sp:=fun vs H Q _=>∃(v:V) (b:Bool) (c:Addr) (hd:Int) (ns:List Int),vs=[v,.int hd,.ref c]/\H c=some (.tup (ns.map V.int))/\0<=hd/\hd<ns.length/\ItemR K H hd ns v b/\∀H',Same H H'->Q (.bl b) H'
def rO(K:PySem.W.Frag):Sp:=fun vs H Q _=>∃(k:Kd) (v:V) (b:Bool) (c:Addr) (hd:Int) (ns:List Int),vs=[.str (nm k),v,.int hd,.ref c]/\H c=some (.tup (ns.map V.int))/\0<=hd/\hd<ns.length/\PartR K H hd ns k v b/\∀H',Same H H'->Q (.bl b) H'
def rQ(K:PySem.W.Frag):Sp:=fun vs H Q _=>∃(v:V) (b:Bool) (c:Addr) (hd:Int) (ns:List Int),vs=[v,.int hd,.ref c]/\H c=some (.tup (ns.map V.int))/\0<=hd/\hd<ns.length/\WhatR K H hd ns v b/\∀H',Same H H'->Q (.bl b) H'
def yE(K:PySem.W.Frag):Sp:=fun vs H Q _=>∃(v:V) (b:Bool) (h:Int),vs=[v,.int h]/\DeedR K H h v b/\∀H',Same H H'->Q (.bl b) H'
def WR(H:Hp)(v:V):Wh->Prop
 |.no=>∃p,v=.ref p/\H p=some (.tup [.str "none"])
 |.put m=>∃p q,v=.ref p/\H p=some (.tup [.str "put",.non,.ref q,.str "x"])/\H q=some (.tup ([m].map V.int))
 |.off k=>∃p,v=.ref p/\H p=some (.tup [.str "off",.int k])
def DR(H:Hp)(a:Addr)(d:Dd):Prop:=∃(c:Addr) (v:V),H a=some (.tup [.int (d.h:Int),.ref c,v])/\H c=some (.tup (d.ns.map V.int))/\WR H v d.w/\d.h<d.ns.length/\d.ns.length<=8
def bu(L:LT):List V:=L.map fun x=>V.ref x.1
theorem bC(L:LT):(bu L).length=L.length:=Zd ..
theorem eR(L:LT):(vals L).length=L.length:=Zd ..
def LR(H:Hp)(l:Addr)(L:LT):Prop:=H l=some (.lst (bu L))/\∀x∈L,DR H x.1 x.2
def TS(H H':Hp):Prop:=∀a zs,H a=some (.tup zs)->H' a=some (.tup zs)
theorem Same.ts{H H':Hp}(e:Same H H'):TS H H':=fun a zs h=>e a _ h
theorem TS.trans{H H' H2:Hp}(e:TS H H')(f:TS H' H2):TS H H2:=fun a zs h=>f a zs (e a zs h)
theorem lm{T:Addr}{H H':Hp}(hT:∀zs,H T≠some (.tup zs))(s:SameT T H H'):TS H H':=fun a zs h=>s a _ h fun z=>hT zs (by rw[<-z];exact h)
theorem mP{H:Hp}{p:Addr}{o:HO}(hp:∀zs,H p≠some (.tup zs)):TS H (upd H p o):=fun a zs h=>by rw[af (fun z=>hp zs (by rw[<-z];exact h))];exact h
theorem WR.ts{H H':Hp}{v:V}{w:Wh}(x:WR H v w)(e:TS H H'):WR H' v w:=by
 cases w with
 |no =>obtain⟨p,h1,h2⟩:=x;exact⟨p,h1,e _ _ h2⟩
 |put m =>obtain⟨p,q,h1,h2,h3⟩:=x;exact⟨p,q,h1,e _ _ h2,e _ _ h3⟩
 |off k =>obtain⟨p,h1,h2⟩:=x;exact⟨p,h1,e _ _ h2⟩
theorem DR.ts{H H':Hp}{a:Addr}{d:Dd}(x:DR H a d)(e:TS H H'):DR H' a d:=by obtain⟨c,v,h1,h2,h3,h4⟩:=x;exact⟨c,v,e _ _ h1,e _ _ h2,h3.ts e,h4⟩
theorem DR.same{H H':Hp}{a:Addr}{d:Dd}(x:DR H a d)(e:Same H H'):DR H' a d:=x.ts (Same.ts e)
theorem LR.same{H H':Hp}{l:Addr}{L:LT}(x:LR H l L)(e:Same H H'):LR H' l L:=⟨e _ _ x.1,fun y hy=>(x.2 y hy).same e⟩
theorem at0{x:V}{r:List V}:atI (x::r) 0=some x:=fN (xs:=x::r) (j:=0) rfl
theorem at1{x y:V}{r:List V}:atI (x::y::r) 1=some y:=fN (xs:=x::y::r) (j:=1) rfl
theorem eJ{ns:List Int}{k:Nat}(h:k<ns.length):atI (ns.map V.int) (k:Int)=some (.int (ai ns k)):=by have:=cF (ns:=ns) (k:=(k:Int)) (by omega) (by omega);rw[show((k:Int)).toNat=k by omega]at this;exact this
theorem lc{L:LT}{k:Nat}{x:V}(h:(bu L)[k]?=some x):∃hk:k<L.length,x=.ref L[k].1:=by
 have hk:k<L.length:=by have:=(ZF.mp h).1;rw[bC]at this;exact this
 refine⟨hk,?_⟩;unfold bu at h;rw[ZB,Ze hk]at h;exact(Zw h).symm
def wD:Wh->PyData
 |.no=>.tuple [.str "none"]
 |.put m=>.tuple [.str "put",.none,.tuple [.int m],.str "x"]
 |.off k=>.tuple [.str "off",.int k]
def dD(d:Dd):PyData:=.tuple [.int (d.h:Int),.tuple (d.ns.map .int),wD d.w]
theorem fO{H:Hp}:∀ns:List Int,DtAll H (ns.map .int) (ns.map V.int)
 | []=>by simp[DtAll]
 |n::ns=>by show DtAll H (PyData.int n::ns.map .int) (V.int n::ns.map V.int);simp only[DtAll];exact⟨_,_,rfl,by simp only[Dt],fO ns⟩
theorem WR.dt{H:Hp}{v:V}{w:Wh}(x:WR H v w):Dt H (wD w) v:=by
 cases w with
 |no =>obtain⟨p,rfl,h2⟩:=x;unfold wD;simp only[Dt,DtAll];exact⟨p,_,rfl,.inl h2,_,_,rfl,rfl,rfl⟩
 |put m =>obtain⟨p,q,rfl,h2,h3⟩:=x;unfold wD;simp only[Dt,DtAll];exact⟨p,_,rfl,.inl h2,_,_,rfl,rfl,_,_,rfl,rfl,_,_,rfl,⟨q,_,rfl,.inl h3,_,_,rfl,rfl,rfl⟩,_,_,rfl,rfl,rfl⟩
 |off k =>obtain⟨p,rfl,h2⟩:=x;unfold wD;simp only[Dt,DtAll];exact⟨p,_,rfl,.inl h2,_,_,rfl,rfl,_,_,rfl,rfl,rfl⟩
theorem DR.dt{H:Hp}{a:Addr}{d:Dd}(x:DR H a d):Dt H (dD d) (.ref a):=by obtain⟨c,v,h1,h2,h3,_⟩:=x;have dw:=h3.dt;have dn:=fO (H:=H) d.ns;unfold dD;simp only[Dt,DtAll];exact⟨a,_,rfl,.inl h1,_,_,rfl,rfl,_,_,rfl,⟨c,_,rfl,.inl h2,dn⟩,_,_,rfl,dw,rfl⟩
theorem xp{H:Hp}:∀{L:LT},(∀x∈L,DR H x.1 x.2)->DtAll H ((vals L).map dD) (bu L)
 | [],_=>by simp[DtAll,vals,bu]
 |x::L,h=>by show DtAll H (dD x.2::(vals L).map dD) (V.ref x.1::bu L);simp only[DtAll];exact⟨_,_,rfl,(h x (by simp)).dt,xp fun y hy=>h y (by simp[hy])⟩
theorem LR.dt{H:Hp}{l:Addr}{L:LT}(x:LR H l L):Dt H (.list ((vals L).map dD)) (.ref l):=by simp only[Dt];exact⟨l,_,rfl,.inl x.1,xp x.2⟩
def WOk(_:Wh):Prop:=True
theorem WR.ok{H:Hp}{v:V}{w:Wh}(_:WR H v w):WOk w:=trivial
theorem fX:∀ns:List Int,PyData.canLayAll0 (ns.map .int)=true/\PyData.depthAll (ns.map .int)<=1
 | []=>⟨rfl,by simp[PyData.depthAll]⟩
 |n::ns=>by obtain⟨h1,h2⟩:=fX ns;simp only[ZX,PyData.canLayAll0,PyData.depthAll,PyData.canLay0,PyData.depth,h1];exact⟨rfl,by omega⟩
theorem Fd{w:Wh}(h:WOk w):(wD w).canLay0=true/\(wD w).depth<=3:=by
 cases w with
 |no=>exact⟨by simp[wD,PyData.canLay0,PyData.canLayAll0];decide +kernel,by simp[wD,PyData.depth,PyData.depthAll]⟩
 |put m =>refine⟨?_,by simp[wD,PyData.depth,PyData.depthAll]⟩;simp[wD,PyData.canLay0,PyData.canLayAll0];decide +kernel
 |off k =>refine⟨?_,by simp[wD,PyData.depth,PyData.depthAll]⟩;simp[wD,PyData.canLay0,PyData.canLayAll0];decide +kernel
theorem md{d:Dd}(h:WOk d.w):(dD d).canLay0=true/\(dD d).depth<=4:=by obtain⟨a1,a2⟩:=fX d.ns;obtain⟨b1,b2⟩:=Fd h;unfold dD;simp only[PyData.canLay0,PyData.canLayAll0,PyData.depth,PyData.depthAll,a1,b1];exact⟨rfl,by omega⟩
theorem nM:∀{L:List Dd},(∀d∈L,WOk d.w)->PyData.canLayAll0 (L.map dD)=true/\PyData.depthAll (L.map dD)<=5
 | [],_=>⟨rfl,by simp[PyData.depthAll]⟩
 |x::L,h=>by obtain⟨h1,h2⟩:=nM (L:=L) fun r hr=>h r (by simp[hr]);obtain⟨h3,h4⟩:=md (h x (by simp));simp only[ZX,PyData.canLayAll0,PyData.depthAll,h1,h3];exact⟨rfl,by omega⟩
theorem LR.ok{H:Hp}{l:Addr}{L:LT}(x:LR H l L):∀d∈vals L,WOk d.w:=fun r hr=>by obtain⟨y,hy,rfl⟩:=Zu.mp hr;obtain⟨_,_,_,_,h3,_⟩:=x.2 y hy;exact h3.ok
theorem fH{L:List Dd}(h:∀d∈L,WOk d.w):SeqAt.shaped (.list (L.map dD))=true:=by obtain⟨h1,h2⟩:=nM h;unfold SeqAt.shaped;rw[Zx];refine⟨by simpa[PyData.canLay0]using h1,decide_eq_true ?_⟩;simp only[PyData.depth];omega
theorem tK{L:List Dd}(h:∀d∈L,WOk d.w):PyData.eqv (.list (L.map dD)) (.list (L.map dD))=true:=Y4 _ (by simpa[PyData.canLay0]using(nM h).1)
def rV:Sp:=fun vs H Q _=>∃(a b:Addr) (ns ms:List Int),vs=[.ref a,.ref b]/\H a=some (.tup (ns.map V.int))/\H b=some (.tup (ms.map V.int))/\ns.length=ms.length/\ns.length<=8/\∀H',Same H H'->Q (.bl (fU ns ms)) H'
def mJ:Sp:=fun vs H Q _=>∃(a:Addr) (d:Dd),vs=[.ref a]/\DR H a d/\∀p H',Same H H'->H' p=some (.tup ((nmZ d).map V.int))->Q (.ref p) H'
def NA(H:Hp)(d:Dd)(as:List Addr)(is:List Nat):Prop:=as.length=is.length/\∀(k:Nat) (b:Addr) (i:Nat),as[k]?=some b->is[k]?=some i->H b=some (.tup ([(i:Int),aS d i].map V.int))
def ug:Sp:=fun vs H Q _=>∃(a:Addr) (d:Dd),vs=[.ref a]/\DR H a d/\∀p H' as,Same H H'->H' p=some (.lst (as.map V.ref))->NA H' d as (di d)->Q (.ref p) H'
def yB:Sp:=fun vs H Q _=>∃(a nm r:Addr) (d:Dd) (i:Nat) (R:LT) (n:Nat),vs=[.ref a,.ref nm,.ref r]/\DR H a d/\H nm=some (.tup ([(i:Int),aS d i].map V.int))/\H r=some (.dT (aq R))/\(∀x∈R,DR H x.1 x.2)/\(∀x∈R,x.2.ns.length=n)/\d.ns.length=n/\∀H',Same H H'->Q (.bl (gK (vals R) d i)) H'
theorem ii(R:LT)(k:List Key):bE (aq R) k=(R.find? fun x=>decide (nmK x.2=k)).map fun x=>V.ref x.1:=by unfold bE aq;rw[List.find?_map,Option.map_map];rfl
theorem xu(R:LT)(k:List Key):(vals R).find? (fun e=>decide (nmK e=k))=(R.find? fun x=>decide (nmK x.2=k)).map Prod.snd:=by unfold vals;rw[List.find?_map];rfl
def yD(K:PySem.W.Frag):Sp:=fun vs H Q _=>∃(a:Addr) (ns:List Int) (k:Int),vs=[.ref a,.int k]/\SqL K H a (ns.map V.int)/\0<=k/\Q (.int (ai ns k.toNat)) H
def FD:Sp:=fun vs H Q _=>∃(a:Addr) (d:Dd),vs=[.ref a]/\DR H a d/\∀p H',Same H H'->H' p=some (.tup ((kyZ d).map V.int))->Q (.ref p) H'
section
variable{P:Program}{w:World}{K:PySem.W.Frag}{mg:Str->Option Value}{base:Heap}
abbrev gR:Stmt:=top 1
abbrev sh:List Str:=["thing"]
theorem rH:FnScope sh ["thing"] (am gR):=⟨rfl,rfl,rfl,by decide +kernel,rfl,by decide +kernel,by decide +kernel⟩
theorem qZ{f:Addr}{fd:FuncData}(F:Fun K "is_number" "is_number" gR f fd)(a6:mg "isinstance" = none)(Hw:mg "int" = none)(j9:mg "bool" = none) :
  FnOk P w K mg base CX0 1 f fd ["thing"] (oA K):=by
 refine F.okQ rH (fun vs H Q E h=>?_) (fun cdv A outer s H vs Q E hr h=>?_)
 ·obtain⟨v,n,rfl,_⟩:=h;rfl
 obtain⟨v,n,rfl,ty,q⟩:=h;refine⟨_,(b_1 (au (bQ (q_B dO a6 aE (q_a (q_v 0) (q_a (fj Hw zw) ah))) (bR (Bh (q_B dO a6 aE (q_a (q_v 0) (q_a (fj j9 iW) ah)))))))),?_⟩
 try rw[cxK]
 refine⟨v,rfl,v,"int",.type n,isI v,rfl,ty,BP ty,_,rfl,?_⟩;refine iA (fun c=>?_) (fun c=>?_)
 ·refine⟨v,rfl,v,"bool",.type n,isB v,rfl,ty,kM ty,_,rfl,?_⟩;have e:(!isB v)=dS v:=by cases v<;>simp_all [isI,isB,dS]
  show Q (.bl (!isB v)) H;rw[e];exact q
 ·have e:dS v=false:=by cases v<;>simp_all [isI,dS]
  rw[e]at q;exact q
abbrev iO:Stmt:=top 2
abbrev uE:List Str:=["thing","low"]
theorem sO:FnScope uE ["thing","low"] (am iO):=⟨rfl,rfl,rfl,by decide +kernel,rfl,by decide +kernel,by decide +kernel⟩
theorem sG{f:Addr}{fd:FuncData}(F:Fun K "is_whole" "is_whole" iO f fd)(i5:Fn P w K mg base 1 "is_number" ["thing"] (oA K)):FnOk P w K mg base CX0 2 f fd ["thing","low"] (ie K):=by
 refine F.okQ sO (fun vs H Q E h=>?_) (fun cdv A outer s H vs Q E hr h=>?_)
 ·obtain⟨v,n,lo,rfl,_⟩:=h;rfl
 obtain⟨v,n,lo,rfl,ty,q⟩:=h;refine⟨_,(b_1 (au (bQ (aO i5 (hr.mono (by decide)) (q_a (q_v 0) ah)) (bR (bO Ag (q_v 0) (q_v 1)))))),?_⟩
 try rw[cxK]
 refine⟨v,rfl,v,n,rfl,ty,_,rfl,?_⟩;refine iA (fun c=>?_) (fun c=>?_)
 ·cases v with
  |int i=>exact⟨_,rfl,_,rfl,i,lo,rfl,rfl,q⟩
  |_=>cases c
 ·have e:bp v lo=false:=by
   cases v with
   |int i=>exact absurd rfl c
   |_=>rfl
  rw[e]at q;exact q
abbrev jv:Stmt:=top 3
abbrev wP:List Str:=["thing","hands"]
theorem wo:FnScope wP ["thing","hands"] (am jv):=⟨rfl,rfl,rfl,by decide +kernel,rfl,by decide +kernel,by decide +kernel⟩
theorem vN{f:Addr}{fd:FuncData}(F:Fun K "is_name" "is_name" jv f fd)(a9:Fn P w K mg base 2 "is_whole" ["thing","low"] (ie K))(a6:mg "isinstance" = none)(a8:mg "tuple" = none)(a7:mg "len" = none) :
  FnOk P w K mg base CX0 3 f fd ["thing","hands"] (um K):=by
 refine F.okQ wo (fun vs H Q E h=>?_) (fun cdv A outer s H vs Q E hr h=>?_)
 ·obtain⟨v,h,rfl,_⟩:=h;rfl
 obtain⟨v,h,rfl,⟨⟨n,ty⟩,hx⟩,q⟩:=h;refine⟨_,(b_c (bo (t_w (fy (cw (bU (q_B dO a6 aE (q_a (q_v 0) (q_a (fj a8 ci) ah))))) (fL (aY jm (q_B cP a7 Yf (q_a (q_v 0) ah)) al)))) (b_1 (au cJ)) b_0)
   (b_1 (au (bQ (aO a9 (hr.mono (by decide)) (q_a (ax aw (q_v 0) al) (q_a al ah))) (bQ (bO vG (ax aw (q_v 0) al) (q_v 1)) (bR (aO a9 (hr.mono (by decide)) (q_a (ax aw (q_v 0) al) (q_a al ah))))))))),?_⟩
 try rw[cxK]
 refine⟨v,rfl,v,"tuple",.type n,isT H v,rfl,ty,gU ty,_,rfl,?_⟩;cases hT:isT H v with
 |false =>refine aP (aP ?_);rw[(xG (h:=h) ty hT).1]at q;exact q
 |true =>
  obtain⟨a,xs,rfl,hH⟩:=nG hT;obtain⟨hl,hk⟩:=hx a xs rfl hH;rw[br hH]at q;refine aF ?_;refine⟨_,rfl,a,xs,rfl,.inr (SqT.of hH),rfl,_,rfl,?_⟩;refine pZ (fun c=>?_) (fun c=>?_)
  ·have e:qc h (some (.tup xs))=false:=by
    match xs,c with
    | [],_=>rfl
    | [_],_=>rfl
    | [_,_],c=>exact absurd rfl c
    |_::_::_::_,_=>rfl
   rw[e]at q;exact q
  ·obtain⟨x,y,rfl⟩:∃x y,xs=[x,y]:=by
    match xs,c with
    | [x,y],_=>exact⟨x,y,rfl⟩
    | [],c=>simp at c
    | [_],c=>simp at c
    |_::_::_::r,c=>simp at c;omega
   obtain⟨mx,tx⟩:=hk x (by simp);obtain⟨my,ty'⟩:=hk y (by simp);have q':Q (.bl (bp x 0&&(ltB x h&&bp y 1))) H:=q;refine⟨_,rfl,a,_,_,x,rfl,rfl,SqT.of hH,rfl,x,mx,0,rfl,tx,_,rfl,?_⟩;refine iA (fun c1=>?_) (fun c1=>?_)
   ·cases x with
    |int i =>
     rw[c1,Y0]at q';refine⟨_,rfl,a,_,_,.int i,rfl,rfl,SqT.of hH,rfl,_,rfl,_,_,rfl,rfl,_,rfl,?_⟩;refine iA (fun c2=>?_) (fun c2=>?_)
     ·have q2:Q (.bl (decide (i<h)&&bp y 1)) H:=q';rw[c2,Y0]at q2;exact⟨_,rfl,a,_,_,y,rfl,rfl,SqT.of hH,rfl,y,my,1,rfl,ty',q2⟩
     ·have q2:Q (.bl (decide (i<h)&&bp y 1)) H:=q';rw[Z4.mpr c2,Yz]at q2;exact q2
    |_=>cases c1
   ·rw[Z4.mpr c1,Yz]at q';exact q'
abbrev iM:Stmt:=top 4
abbrev uC:List Str:=["thing","hands"]
theorem sK:FnScope uC ["thing","hands"] (am iM):=⟨rfl,rfl,rfl,by decide +kernel,rfl,by decide +kernel,by decide +kernel⟩
theorem sD{f:Addr}{fd:FuncData}(F:Fun K "is_clock" "is_clock" iM f fd)(a9:Fn P w K mg base 2 "is_whole" ["thing","low"] (ie K))(a6:mg "isinstance" = none)(a8:mg "tuple" = none)(a7:mg "len" = none)(d6:mg "all" = none) :
  FnOk P w K mg base CX0 3 f fd ["thing","hands"] (pq K):=by
 refine F.okQ sK (fun vs H Q E h=>?_) (fun cdv A outer s H vs Q E hr h=>?_)
 ·obtain⟨v,h,rfl,_⟩:=h;rfl
 obtain⟨v,h,rfl,⟨⟨n,ty⟩,hx⟩,q⟩:=h;refine⟨_,(b_c (bo (t_w (fy (cw (bU (q_B dO a6 aE (q_a (q_v 0) (q_a (fj a8 ci) ah))))) (fL (aY jm (q_B cP a7 Yf (q_a (q_v 0) ah)) (q_v 1))))) (b_1 (au cJ)) b_0)
   (b_1 (au (q_B (jH rfl) d6 dG (q_a (bY (own:=["number"]) (⟨rfl,by decide +kernel,by decide +kernel,rfl,trivial⟩:CompOk _ _ [] []) rfl (Bb (q_v 0)) (fun _ _ _ _=>bj (i:=0) (show (["number"]:List Str).Nodup by decide +kernel)) (bz (by decide)) (fun _ _ _ _=>fh) (fun _ _ _ _=>(aO a9 (hr.mono (by decide)) (q_a (q_v 0) (q_a al ah))))) ah))))),?_⟩
 try rw[cxK]
 refine⟨v,rfl,v,"tuple",.type n,isT H v,rfl,ty,gU ty,_,rfl,?_⟩;cases hT:isT H v with
 |false =>refine aP (aP ?_);have q':=q H (Same.refl H);rw[(xG (h:=h) ty hT).2]at q';exact q'
 |true =>
  obtain⟨a,xs,rfl,hH⟩:=nG hT;obtain⟨hl,hk⟩:=hx a xs rfl hH;rw[aU hH]at q;have q:∀H',Same H H'->Q (.bl (decide ((xs.length:Int)=h)&&xs.all (fun x=>bp x 0))) H':=q;refine aF ?_;refine⟨_,rfl,a,xs,rfl,.inr (SqT.of hH),_,rfl,rfl,_,rfl,?_⟩;refine pZ (fun c=>?_) (fun c=>?_)
  ·have q':=q H (Same.refl H);rw[decide_eq_false c,Yz]at q';exact q'
  ·refine⟨_,rfl,a,rfl,⟨xs,SqT.of hH⟩,?_⟩;refine qF (xs:=xs) (fun i=>.bl (bp ((xs[i]?).getD .non) 0)) hl (SqT.of hH) (fun i x H1 hi sm R k=>?_) (fun p H1 sm hp=>?_)
   ·obtain⟨m,tx⟩:=hk x (YG hi);have k':=k H1 (Same.refl H1);rw[hi]at k';exact⟨x,rfl,x,m,0,rfl,bL sm tx,k'⟩
   ·refine⟨p,(List.range xs.length).map (fun i=>bp ((xs[i]?).getD .non) 0),rfl,SqL.of ?_,?_⟩
    ·rw[ad,Yb];rfl
    ·rw[lH (fun x=>bp x 0)];have q':=q (upd H1 p (.lst ((List.range xs.length).map (fun i=>V.bl (bp ((xs[i]?).getD .non) 0))))) (sm.trans (ag hp _));rw[decide_eq_true c,Y0]at q';exact q'
abbrev iN:Stmt:=top 27
abbrev uD:List Str:=["thing"]
theorem sL:FnScope uD ["thing"] (am iN):=⟨rfl,rfl,rfl,by decide +kernel,rfl,by decide +kernel,by decide +kernel⟩
theorem sE{f:Addr}{fd:FuncData}{tk:Tok}(F:Fun K "is_place" "is_place" iN f fd)(i5:Fn P w K mg base 1 "is_number" ["thing"] (oA K))(a6:mg "isinstance" = none)(a8:mg "tuple" = none)(a7:mg "len" = none)(d6:mg "all" = none)(k4:mg "MOST_NUMBERS" = some (.int 64 tk)) :
  FnOk P w K mg base CX0 2 f fd ["thing"] (pA K):=by
 refine F.okQ sL (fun vs H Q E h=>?_) (fun cdv A outer s H vs Q E hr h=>?_)
 ·obtain⟨v,rfl,_⟩:=h;rfl
 obtain⟨v,rfl,⟨⟨n,ty⟩,hx⟩,q⟩:=h;refine⟨_,(b_c (bo (t_w (fy (cw (bU (q_B dO a6 aE (q_a (q_v 0) (q_a (fj a8 ci) ah))))) (fL (cw (CG nR nR al (q_B cP a7 Yf (q_a (q_v 0) ah)) (rg k4)))))) (b_1 (au cJ)) b_0)
   (b_1 (au (q_B (jH rfl) d6 dG (q_a (bY (own:=["number"]) (⟨rfl,by decide +kernel,by decide +kernel,rfl,trivial⟩:CompOk _ _ [] []) rfl (Bb (q_v 0)) (fun _ _ _ _=>bj (i:=0) (show (["number"]:List Str).Nodup by decide +kernel)) (bz (by decide)) (fun _ _ _ _=>fh) (fun _ _ _ _=>(aO i5 (hr.mono (by decide)) (q_a (q_v 0) ah)))) ah))))),?_⟩
 try rw[cxK]
 refine⟨v,rfl,v,"tuple",.type n,isT H v,rfl,ty,gU ty,_,rfl,?_⟩;cases hT:isT H v with
 |false =>
  refine aP (aP ?_);have e:gc H v=false:=by
   cases ty with
   |lst z=>exact aX z
   |frz z=>exact aX z
   |tup z=>rw[bA z (b:=true) rfl]at hT;cases hT
   |dK z=>exact aX z
   |dT z=>exact aX z
   |_=>rfl
  have q':=q H (Same.refl H);rw[e]at q';exact q'
 |true =>
  obtain⟨a,xs,rfl,hH⟩:=nG hT;obtain⟨hl,hk⟩:=hx a xs rfl hH;have eB:gc H (.ref a)=(decide (1<=xs.length)&&decide (xs.length<=64)&&xs.all dS):=aX hH;rw[eB]at q;refine aF ?_;refine⟨_,rfl,a,xs,rfl,.inr (SqT.of hH),_,_,rfl,rfl,_,rfl,?_⟩;refine iA (fun c=>?_) (fun c=>?_)
  ·have c1:1<=xs.length:=by have:=Z3 c;omega
   refine⟨_,_,rfl,rfl,_,rfl,?_⟩;by_cases c2:xs.length<=64
   ·have e2:decide ((xs.length:Int)<=64)=true:=decide_eq_true (by omega);rw[e2];refine aF ?_;refine⟨_,rfl,a,rfl,⟨xs,SqT.of hH⟩,?_⟩;refine qF (xs:=xs) (fun i=>.bl (dS ((xs[i]?).getD .non))) hl (SqT.of hH) (fun i x H1 hi sm R k=>?_) (fun p H1 sm hp=>?_)
    ·obtain⟨m,tx⟩:=hk x (YG hi);refine⟨x,rfl,x,m,rfl,bL sm tx,?_⟩;have k':=k H1 (Same.refl H1);rw[hi]at k';exact k'
    ·refine⟨p,(List.range xs.length).map (fun i=>dS ((xs[i]?).getD .non)),rfl,SqL.of ?_,?_⟩
     ·rw[ad,Yb];rfl
     ·rw[lH dS];have q':=q (upd H1 p (.lst ((List.range xs.length).map (fun i=>V.bl (dS ((xs[i]?).getD .non)))))) (sm.trans (ag hp _));rw[decide_eq_true c1,decide_eq_true c2,Y0,Y0]at q';exact q'
   ·have e2:decide ((xs.length:Int)<=64)=false:=decide_eq_false (by omega);rw[e2];refine aP ?_;have q':=q H (Same.refl H);rw[decide_eq_false c2,Bool.and_false,Yz]at q';exact q'
  ·have c1:¬1<=xs.length:=by have:=YF (Z4.mpr c);omega
   refine⟨_,rfl,?_⟩;refine aP ?_;have q':=q H (Same.refl H);rw[decide_eq_false c1,Yz,Yz]at q';exact q'
abbrev om:Stmt:=top 8
abbrev BD:List Str:=["clock","name"]
theorem AO:FnScope BD ["clock","name"] (am om):=⟨rfl,rfl,rfl,by decide +kernel,rfl,by decide +kernel,by decide +kernel⟩
theorem Aj{f:Addr}{fd:FuncData}(F:Fun K "tells" "tells" om f fd):FnOk P w K mg base CX0 1 f fd ["clock","name"] ur:=by
 refine F.okQ AO (fun vs H Q E h=>?_) (fun cdv A outer s H vs Q E hr h=>?_)
 ·obtain⟨a,b,xs,i,j,z,rfl,_⟩:=h;rfl
 obtain⟨a,b,xs,i,j,z,rfl,hA,hB,hz,q⟩:=h;refine⟨_,(b_1 (au (bO Ag (ax aw (q_v 0) (ax aw (q_v 1) al)) (ax aw (q_v 1) al)))),?_⟩
 try rw[cxK]
 exact⟨_,rfl,_,rfl,b,_,_,_,rfl,rfl,SqT.of hB,rfl,a,_,_,_,rfl,rfl,SqT.of hA,hz,_,rfl,b,_,_,_,rfl,rfl,SqT.of hB,rfl,_,_,rfl,rfl,q⟩
abbrev eN:Stmt:=top 11
abbrev mV:List Str:=["thing"]
theorem mF:FnScope mV ["thing"] (am eN):=⟨rfl,rfl,rfl,by decide +kernel,rfl,by decide +kernel,by decide +kernel⟩
abbrev gq:Stmt:=top 12
abbrev qu:List Str:=["word"]
theorem pU:FnScope qu ["word"] (am gq):=⟨rfl,rfl,rfl,by decide +kernel,rfl,by decide +kernel,by decide +kernel⟩
theorem mm{f:Addr}{fd:FuncData}(F:Fun K "is_deed_word" "is_deed_word" eN f fd){dd:Addr}(d8:mg "DEED_PARTS" = some (.ref dd))(T:Tab K dd DT)(a6:mg "isinstance" = none)(GQ:mg "str" = none):FnOk P w K mg base CX0 1 f fd ["thing"] (rR K):=by
 refine F.okQ mF (fun vs H Q E h=>?_) (fun cdv A outer s H vs Q E hr h=>?_)
 ·obtain⟨v,n,rfl,_⟩:=h;rfl
 obtain⟨v,n,rfl,ty,q0,q⟩:=h;refine⟨_,(b_1 (au (bQ (q_B dO a6 aE (q_a (q_v 0) (q_a (fj GQ qz) ah))) (bR (bO BT (q_v 0) (gO d8)))))),?_⟩
 try rw[cxK]
 refine⟨_,rfl,v,"str",.type n,isS v,rfl,ty,tR ty,_,rfl,?_⟩;refine iA (fun c=>?_) (fun c=>?_)
 ·cases v with
  |str k=>exact⟨_,rfl,dd,k,DT,rfl,rfl,T,q k rfl⟩
  |_=>cases c
 ·exact q0 (Z4.mpr c)
theorem pQ{f:Addr}{fd:FuncData}(F:Fun K "deed_parts" "deed_parts" gq f fd){dd:Addr}(d8:mg "DEED_PARTS" = some (.ref dd))(T:Tab K dd DT):FnOk P w K mg base CX0 1 f fd ["word"] (uo K):=by
 refine F.okQ pU (fun vs H Q E h=>?_) (fun cdv A outer s H vs Q E hr h=>?_)
 ·obtain⟨k,ws,rfl,_⟩:=h;rfl
 obtain⟨k,ws,rfl,hk,q⟩:=h;refine⟨_,(b_1 (au (ax FL (gO d8) (q_v 0)))),?_⟩
 try rw[cxK]
 exact⟨_,rfl,dd,k,DT,tw ws,rfl,rfl,T,hk,q⟩
abbrev jx:Stmt:=top 33
abbrev wR:List Str:=["sign"]
theorem wy:FnScope wR ["sign"] (am jx):=⟨rfl,rfl,rfl,by decide +kernel,rfl,by decide +kernel,by decide +kernel⟩
theorem vP{f:Addr}{fd:FuncData}{t1 t2 t3:Tok}(F:Fun K "is_sign" "is_sign" jx f fd)(Hn:mg "ord" = none)(u3:mg "FIRST_SIGN" = some (.int 32 t1))(Gk:mg "LAST_SIGN" = some (.int 126 t2))(m7:mg "PERCENT_SIGN" = some (.int 37 t3)):FnOk P w K mg base CX0 1 f fd ["sign"] yH:=by
 refine F.okQ wy (fun vs H Q E h=>?_) (fun cdv A outer s H vs Q E hr h=>?_)
 ·obtain⟨c,rfl,_⟩:=h;rfl
 obtain⟨c,rfl,q⟩:=h;refine⟨_,(b_1 (au (bQ (Cr nR nR (rg u3) (q_B A6 Hn PyProof.Rows.bootS_ord (q_a (q_v 0) ah)) (rg Gk)) (bR (bO jm (q_B A6 Hn PyProof.Rows.bootS_ord (q_a (q_v 0) ah)) (rg m7)))))),?_⟩
 try rw[cxK]
 refine⟨_,rfl,c,rfl,_,_,rfl,rfl,_,rfl,?_⟩;unfold ka at q;by_cases c1:(32:Int)<=c
 ·rw[decide_eq_true c1]at q ⊢;refine aP ⟨_,_,rfl,rfl,_,rfl,?_⟩;by_cases c2:(c:Int)<=126
  ·rw[decide_eq_true c2]at q ⊢;refine aP ⟨_,rfl,c,rfl,rfl,?_⟩;have e:decide (V.int (c:Int)=V.int 37)=decide ((c:Int)=37):=by
    by_cases z:(c:Int)=37
    ·rw[z,decide_eq_true rfl,decide_eq_true rfl]
    ·rw[decide_eq_false z,decide_eq_false (fun y=>z (V.int.inj y))]
   rw[e];exact q
  ·rw[decide_eq_false c2]at q ⊢;exact aF q
 ·rw[decide_eq_false c1]at q ⊢;exact aF ⟨_,rfl,aF q⟩
abbrev jy:Stmt:=top 32
abbrev wS:List Str:=["thing"]
theorem wz:FnScope wS ["thing"] (am jy):=⟨rfl,rfl,rfl,by decide +kernel,rfl,by decide +kernel,by decide +kernel⟩
theorem yz(x:Str):(((List.range x.cps.size).map fun i=>ka (x.cps.getD i 0)).all id)=hW x:=by
 unfold hW;rw[List.all_map,YJ,ZU,ZU];constructor
 ·intro h c hc;obtain⟨i,hi,rfl⟩:=List.getElem_of_mem hc;have hi':i<x.cps.size:=by simpa using hi
  have:=h i (Ye.mpr hi');simpa[ZN,hi']using this
 ·intro h i hi;have hi':=Ye.mp hi;have:=h x.cps[i] (by simp);simpa[ZN,hi']using this
theorem vQ{f:Addr}{fd:FuncData}(F:Fun K "is_text" "is_text" jy f fd)(Gx:Fn P w K mg base 1 "is_sign" ["sign"] yH)(a6:mg "isinstance" = none)(GQ:mg "str" = none)(d6:mg "all" = none):FnOk P w K mg base CX0 2 f fd ["thing"] (rP K):=by
 refine F.okQ wz (fun vs H Q E h=>?_) (fun cdv A outer s H vs Q E hr h=>?_)
 ·obtain⟨v,rfl,_⟩:=h;rfl
 obtain⟨v,rfl,h⟩:=h;refine⟨_,(b_1 (au (bQ (q_B dO a6 aE (q_a (q_v 0) (q_a (fj GQ qz) ah))) (bR (q_B (jH rfl) d6 dG (q_a (bY (own:=["sign"]) (⟨rfl,by decide +kernel,by decide +kernel,rfl,trivial⟩:CompOk _ _ [] []) rfl (Fa (q_v 0)) (fun _ _ _ _=>bj (i:=0) (show(["sign"]:List Str).Nodup by decide +kernel)) (bz (by decide)) (fun _ _ _ _=>fh) (fun _ _ _ _=>(aO Gx (hr.mono (by decide)) (q_a (q_v 0) ah)))) ah)))))),?_⟩
 try rw[cxK]
 rcases h with⟨n,ty,hs,q⟩|⟨x,rfl,hl,ha,q⟩
 ·refine⟨_,rfl,v,"str",.type n,isS v,rfl,ty,tR ty,_,rfl,?_⟩;rw[hs];exact aF q
 ·refine⟨_,rfl,.str x,"str",.type "str",true,rfl,.str _,bv (b:=true) (by decide +kernel) (fun z=>nomatch z),_,rfl,aP ⟨_,rfl,x,rfl,ha,?_⟩⟩;refine zJ (x:=x) (fun i=>.bl (ka (x.cps.getD i 0))) hl (fun i c H1 hi sm R k=>?_) (fun p H1 sm hp=>?_)
  ·have e:x.cps.getD i 0=c:=by rw[ZN,hi];rfl
   rw[e]at k;exact⟨_,rfl,c,rfl,k H1 (Same.refl H1)⟩
  ·refine⟨p,(List.range x.cps.size).map (fun i=>ka (x.cps.getD i 0)),rfl,SqL.of (by rw[ad,Yb];rfl),?_⟩;rw[yz];exact q _ (sm.trans (ag hp _))
abbrev ju:Stmt:=top 38
abbrev wO:List Str:=["thing","hands"]
theorem wn:FnScope wO ["thing","hands"] (am ju):=⟨rfl,rfl,rfl,by decide +kernel,rfl,by decide +kernel,by decide +kernel⟩
theorem vM{f:Addr}{fd:FuncData}(F:Fun K "is_hand" "is_hand" ju f fd)(a9:Fn P w K mg base 2 "is_whole" ["thing","low"] (ie K)):FnOk P w K mg base CX0 3 f fd ["thing","hands"] (rN K):=by
 refine F.okQ wn (fun vs H Q E h=>?_) (fun cdv A outer s H vs Q E hr h=>?_)
 ·obtain⟨v,n,h,rfl,_⟩:=h;rfl
 obtain⟨v,n,h,rfl,ty,q⟩:=h;refine⟨_,(b_1 (au (bQ (aO a9 (hr.mono (by decide)) (q_a (q_v 0) (q_a al ah))) (bR (bO vG (q_v 0) (q_v 1)))))),?_⟩
 try rw[cxK]
 refine⟨_,rfl,v,n,0,rfl,ty,_,rfl,?_⟩;refine iA (fun c=>?_) (fun c=>?_)
 ·cases v with
  |int i =>rw[c,Y0]at q;exact⟨_,rfl,_,rfl,i,h,rfl,rfl,q⟩
  |_=>cases c
 ·rw[Z4.mpr c,Yz]at q;exact q
abbrev dZ:Stmt:=top 41
abbrev lG:List Str:=["thing","hand","clock"]
theorem lq:FnScope lG ["thing","hand","clock"] (am dZ):=⟨rfl,rfl,rfl,by decide +kernel,rfl,by decide +kernel,by decide +kernel⟩
theorem kX{f:Addr}{fd:FuncData}(F:Fun K "is_known_item" "is_known_item" dZ f fd)(Gy:Fn P w K mg base 3 "is_name" ["thing","hands"] (um K))(Ha:Fn P w K mg base 1 "tells" ["clock","name"] ur)(a7:mg "len" = none):FnOk P w K mg base CX0 4 f fd ["thing","hand","clock"] (uk K):=by
 refine F.okQ lq (fun vs H Q E h=>?_) (fun cdv A outer s H vs Q E hr h=>?_)
 ·obtain⟨v,b,c,hd,ns,rfl,_⟩:=h;rfl
 obtain⟨v,b,c,hd,ns,rfl,hC,d0,d1,r,q⟩:=h;refine⟨_,(b_1 (au (bQ (aO Gy (hr.mono (by decide)) (q_a (q_v 0) (q_a (q_B cP a7 Yf (q_a (q_v 2) ah)) ah))) (bQ (aO Ha (hr.mono (by decide)) (q_a (q_v 2) (q_a (q_v 0) ah))) (bR (bO (xV hr.units) (q_v 0) (aG (q_a (q_v 1) (q_a (ax aw (q_v 2) (q_v 1)) ah))))))))),?_⟩
 try rw[cxK]
 cases r with
 |no a e =>refine⟨_,rfl,_,rfl,c,_,rfl,.inr (SqT.of hC),v,_,rfl,a,_,rfl,?_⟩;rw[Zd,e];exact aF (q H (Same.refl H))
 |@is a i j e =>
  refine⟨_,rfl,_,rfl,c,_,rfl,.inr (SqT.of hC),.ref a,_,rfl,oH e (Nat.le_of_ble_eq_true rfl) (fun x hx=>?_),_,rfl,?_⟩
  ·simp only[Zs,Z1,YN]at hx;rcases hx with rfl|rfl
   ·exact⟨_,.int _⟩
   ·exact⟨_,.int _⟩
  rw[Zd,br e];have e':H a=some (.tup ([i,j].map V.int)):=e;unfold jk at q;show if(decide (0<=i)&&(decide (i<(ns.length:Int))&&decide (1<=j)))=true then _ else _
  by_cases c1:(decide (0<=i)&&(decide (i<(ns.length:Int))&&decide (1<=j)))=true
  ·rw[c1]at q ⊢;simp only[Zx,YW]at c1;obtain⟨i0,i1,j1⟩:=c1;refine aP ⟨_,rfl,_,rfl,c,a,_,i,j,_,rfl,hC,e,cF i0 i1,_,rfl,?_⟩;by_cases c2:j<=ai ns i.toNat
   ·rw[decide_eq_true c2]at q ⊢;refine aP ⟨_,rfl,_,rfl,_,rfl,_,rfl,c,_,_,_,rfl,rfl,SqT.of hC,cF d0 d1,sz rfl,fun p g=>?_⟩;have w1:=ag g (.tup [.int hd,.int (ai ns hd.toNat)]);exact⟨a,p,[i,j],nmL hd ns,rfl,rfl,w1 _ _ e',ad,q _ w1⟩
   ·rw[decide_eq_false c2]at q ⊢;exact aF (q H (Same.refl H))
  ·rw[Bool.not_eq_true]at c1;rw[c1]at q ⊢;exact aF (q H (Same.refl H))
abbrev jw:Stmt:=top 40
abbrev wQ:List Str:=["kind","part","hand","clock"]
theorem wx:FnScope wQ ["kind","part","hand","clock"] (am jw):=⟨rfl,rfl,rfl,by decide +kernel,rfl,by decide +kernel,by decide +kernel⟩
theorem vO{f:Addr}{fd:FuncData}{tk:Tok}(F:Fun K "is_part" "is_part" jw f fd)(i6:Fn P w K mg base 4 "is_known_item" ["thing","hand","clock"] (uk K))(Gq:Fn P w K mg base 2 "is_place" ["thing"] (pA K))(Gz:Fn P w K mg base 2 "is_text" ["thing"] (rP K))(j8:Fn P w K mg base 3 "is_hand" ["thing","hands"] (rN K))(a9:Fn P w K mg base 2 "is_whole" ["thing","low"] (ie K))(a6:mg "isinstance" = none)(j9:mg "bool" = none)(a7:mg "len" = none)(u4:mg "MOST_SIGNS" = some (.int 60 tk)):FnOk P w K mg base CX0 5 f fd ["kind","part","hand","clock"] (rO K):=by
 refine F.okQ wx (fun vs H Q E h=>?_) (fun cdv A outer s H vs Q E hr h=>?_)
 ·obtain⟨k,v,b,c,hd,ns,rfl,_⟩:=h;rfl
 obtain⟨k,v,b,c,hd,ns,rfl,hC,d0,d1,hp,q⟩:=h;refine⟨_,(b_c (bo (aY dW (q_v 0) aR) (b_1 (au (aO i6 (hr.mono (by decide)) (q_a (q_v 1) (q_a (q_v 2) (q_a (q_v 3) ah)))))) b_0)
   (b_c (bo (aY dW (q_v 0) aR) (b_1 (au (El (bO vF (q_v 1) fE) (bR (aO i6 (hr.mono (by decide)) (q_a (q_v 1) (q_a (q_v 2) (q_a (q_v 3) ah)))))))) b_0)
   (b_c (bo (aY dW (q_v 0) aR) (b_1 (au (aO Gq (hr.mono (by decide)) (q_a (q_v 1) ah)))) b_0)
   (b_c (bo (aY dW (q_v 0) aR) (b_1 (au (bQ (aO Gz (hr.mono (by decide)) (q_a (q_v 1) ah)) (bR (bO nR (q_B C3 a7 Yf (q_a (q_v 1) ah)) (rg u4)))))) b_0)
   (b_c (bo (aY dW (q_v 0) aR) (b_1 (au (q_B dO a6 aE (q_a (q_v 1) (q_a (fj j9 iW) ah))))) b_0)
   (b_c (bo (aY dW (q_v 0) aR) (b_1 (au (El (bO vF (q_v 1) fE) (bR (aO j8 (hr.mono (by decide)) (q_a (q_v 1) (q_a (q_B cP a7 Yf (q_a (q_v 3) ah)) ah))))))) b_0)
   (b_c (bo (aY dW (q_v 0) aR) (b_1 (au (aO a9 (hr.mono (by decide)) (q_a (q_v 1) (q_a al ah))))) b_0)
   (b_1 (au (bQ (aO a9 (hr.mono (by decide)) (q_a (q_v 1) (q_a al ah))) (bR (bO vG (q_v 1) (ax aw (q_v 3) (q_v 2)))))))))))))),?_⟩
 try rw[cxK]
 have q0:=q H (Same.refl H);cases hp with
 |it r=>exact⟨_,rfl,rfl,_,rfl,fi ⟨_,rfl,_,rfl,_,rfl,v,b,c,hd,ns,rfl,hC,d0,d1,r,q⟩⟩
 |u0=>exact⟨_,rfl,rfl,_,rfl,aN (by decide +kernel) ⟨_,rfl,rfl,_,rfl,fi ⟨_,rfl,rfl,_,rfl,pY rfl q0⟩⟩⟩
 |up hv r=>exact⟨_,rfl,rfl,_,rfl,aN (by decide +kernel) ⟨_,rfl,rfl,_,rfl,fi ⟨_,rfl,rfl,_,rfl,Bd hv ⟨_,rfl,_,rfl,_,rfl,v,b,c,hd,ns,rfl,hC,d0,d1,r,q⟩⟩⟩⟩
 |pl a e =>subst e;exact⟨_,rfl,rfl,_,rfl,aN (by decide +kernel) ⟨_,rfl,rfl,_,rfl,aN (by decide +kernel) ⟨_,rfl,rfl,_,rfl,fi ⟨_,rfl,v,rfl,a,q⟩⟩⟩⟩
 |@tx x _ hl ha e =>
  refine⟨_,rfl,rfl,_,rfl,aN (by decide +kernel) ⟨_,rfl,rfl,_,rfl,aN (by decide +kernel) ⟨_,rfl,rfl,_,rfl,aN (by decide +kernel) ⟨_,rfl,rfl,_,rfl,fi ⟨_,rfl,.str x,rfl,.inr ⟨x,rfl,hl,ha,fun H1 s1=>⟨_,rfl,?_⟩⟩⟩⟩⟩⟩⟩;have q1:=q H1 s1;rw[<-e]at q1;by_cases c1:hW x=true
  ·rw[c1,Y0]at q1;rw[c1];refine aP ⟨_,rfl,x,rfl,hl,_,_,rfl,rfl,?_⟩;have e2:decide ((x.length:Int)<=60)=decide (x.length<=60):=by
    by_cases z:x.length<=60
    ·rw[decide_eq_true z,decide_eq_true (by omega)]
    ·rw[decide_eq_false z,decide_eq_false (by omega)]
   rw[<-e2]at q1;exact q1
  ·rw[Bool.not_eq_true]at c1;rw[c1,Yz]at q1;rw[c1];exact aF q1
 |@tn _ n ty hs=>exact⟨_,rfl,rfl,_,rfl,aN (by decide +kernel) ⟨_,rfl,rfl,_,rfl,aN (by decide +kernel) ⟨_,rfl,rfl,_,rfl,aN (by decide +kernel) ⟨_,rfl,rfl,_,rfl,fi ⟨_,rfl,v,rfl,.inl ⟨n,ty,hs,⟨_,rfl,aF q0⟩⟩⟩⟩⟩⟩⟩
 |@bl _ n _ ty e =>subst e;exact⟨_,rfl,rfl,_,rfl,aN (by decide +kernel) ⟨_,rfl,rfl,_,rfl,aN (by decide +kernel) ⟨_,rfl,rfl,_,rfl,aN (by decide +kernel) ⟨_,rfl,rfl,_,rfl,aN (by decide +kernel) ⟨_,rfl,rfl,_,rfl,fi ⟨_,rfl,v,"bool",.type n,isB v,rfl,ty,kM ty,q0⟩⟩⟩⟩⟩⟩
 |w0=>exact⟨_,rfl,rfl,_,rfl,aN (by decide +kernel) ⟨_,rfl,rfl,_,rfl,aN (by decide +kernel) ⟨_,rfl,rfl,_,rfl,aN (by decide +kernel) ⟨_,rfl,rfl,_,rfl,aN (by decide +kernel) ⟨_,rfl,rfl,_,rfl,aN (by decide +kernel) ⟨_,rfl,rfl,_,rfl,fi ⟨_,rfl,rfl,_,rfl,pY rfl q0⟩⟩⟩⟩⟩⟩⟩
 |@wh _ n _ hv ty e =>subst e;refine⟨_,rfl,rfl,_,rfl,aN (by decide +kernel) ⟨_,rfl,rfl,_,rfl,aN (by decide +kernel) ⟨_,rfl,rfl,_,rfl,aN (by decide +kernel) ⟨_,rfl,rfl,_,rfl,aN (by decide +kernel) ⟨_,rfl,rfl,_,rfl,aN (by decide +kernel) ⟨_,rfl,rfl,_,rfl,fi ⟨_,rfl,rfl,_,rfl,Bd hv ⟨_,rfl,_,rfl,c,_,rfl,.inr (SqT.of hC),v,n,_,rfl,ty,?_⟩⟩⟩⟩⟩⟩⟩⟩;rw[Zd];exact q0
 |@«at» _ n _ ty e =>subst e;exact⟨_,rfl,rfl,_,rfl,aN (by decide +kernel) ⟨_,rfl,rfl,_,rfl,aN (by decide +kernel) ⟨_,rfl,rfl,_,rfl,aN (by decide +kernel) ⟨_,rfl,rfl,_,rfl,aN (by decide +kernel) ⟨_,rfl,rfl,_,rfl,aN (by decide +kernel) ⟨_,rfl,rfl,_,rfl,aN (by decide +kernel) ⟨_,rfl,rfl,_,rfl,fi ⟨_,rfl,v,n,0,rfl,ty,q0⟩⟩⟩⟩⟩⟩⟩⟩
 |@nu _ n _ ty e =>
  subst e;refine⟨_,rfl,rfl,_,rfl,aN (by decide +kernel) ⟨_,rfl,rfl,_,rfl,aN (by decide +kernel) ⟨_,rfl,rfl,_,rfl,aN (by decide +kernel) ⟨_,rfl,rfl,_,rfl,aN (by decide +kernel) ⟨_,rfl,rfl,_,rfl,aN (by decide +kernel) ⟨_,rfl,rfl,_,rfl,aN (by decide +kernel) ⟨_,rfl,rfl,_,rfl,aN (by decide +kernel) ⟨_,rfl,v,n,1,rfl,ty,_,rfl,?_⟩⟩⟩⟩⟩⟩⟩⟩;refine iA (fun c1=>?_) (fun c1=>?_)
  ·cases v with
   |int i =>rw[c1,Y0]at q0;exact⟨_,rfl,_,rfl,_,rfl,c,_,_,_,rfl,rfl,SqT.of hC,cF d0 d1,_,_,rfl,rfl,q0⟩
   |_=>cases c1
  ·rw[Z4.mpr c1,Yz]at q0;exact q0
abbrev jA:Stmt:=top 39
abbrev wT:List Str:=["thing","hand","clock","kinds"]
theorem mG:FnScope wT ["thing","hand","clock"] (am jA):=⟨rfl,rfl,rfl,by decide +kernel,rfl,by decide +kernel,by decide +kernel⟩
theorem vR{f:Addr}{fd:FuncData}(F:Fun K "is_what" "is_what" jA f fd)(m8:Fn P w K mg base 1 "is_deed_word" ["thing"] (rR K))(u5:Fn P w K mg base 1 "deed_parts" ["word"] (uo K))(GA:Fn P w K mg base 5 "is_part" ["kind","part","hand","clock"] (rO K))(a6:mg "isinstance" = none)(a8:mg "tuple" = none)(a7:mg "len" = none)(d6:mg "all" = none)(GR:mg "zip" = none):FnOk P w K mg base CX0 6 f fd ["thing","hand","clock"] (rQ K):=by
 refine F.okQ mG (fun vs H Q E h=>?_) (fun cdv A outer s H vs Q E hr h=>?_)
 ·obtain⟨v,b,c,hd,ns,rfl,_⟩:=h;rfl
 obtain⟨v,b,c,hd,ns,rfl,hC,d0,d1,r,q⟩:=h;refine⟨_,(b_c (bo (t_w (fy (cw (bU (q_B dO a6 aE (q_a (q_v 0) (q_a (fj a8 ci) ah))))) (fy (aY dW (q_B cP a7 Yf (q_a (q_v 0) ah)) al) (fL (cw (bU (aO m8 (hr.mono (by decide)) (q_a (ax aw (q_v 0) al) ah)))))))) (b_1 (au cJ)) b_0)
   (b_c (aH (i:=3) mG.nd (aO u5 (hr.mono (by decide)) (q_a (ax aw (q_v 0) al) ah)))
   (b_c (bo (aY jm (q_B cP a7 Yf (q_a (q_v 0) ah)) (bt jV (q_B cP a7 Yf (q_a (q_v 3) ah)) al)) (b_1 (au cJ)) b_0)
   (b_1 (au (q_B (jH rfl) d6 dG (q_a (bY (own:=["kind","part"]) (⟨rfl,by decide +kernel,by decide +kernel,rfl,⟨rfl,rfl,⟨rfl,rfl,trivial⟩⟩⟩:CompOk _ _ [1,2] ["hand","clock"]) rfl (Bc GR (q_a (q_v 3) (q_a (rk ma (q_v 0) (rj al) rh) ah))) (fun _ _ _ _=>xB (K:=K) (n:=2) rfl rfl (nE (bj (i:=0) (show (["kind","part","hand","clock"]:List Str).Nodup by decide +kernel)) (nE (bj (i:=1) (show (["kind","part","hand","clock"]:List Str).Nodup by decide +kernel)) zU))) (xC (iw (bz (by decide)) fP (iw (bz (by decide)) fP tM jN) (qL fP jN))) (fun _ _ _ _=>fh) (fun _ _ _ _=>(aO GA (hr.mono (by decide)) (q_a (q_v 0) (q_a (q_v 1) (q_a (q_v 2) (q_a (q_v 3) ah))))))) ah))))))),?_⟩
 try rw[cxK]
 have q0:=q H (Same.refl H);have isT1:∀{t:Addr} {xs:List V},H t=some (.tup xs)->TyOf K H (.ref t) (.type "tuple"):=fun e=>.tup e;cases r with
 |@flat _ n ty hT =>refine⟨_,rfl,v,"tuple",.type n,isT H v,rfl,ty,gU ty,_,rfl,?_⟩;rw[hT];exact aP (aP q0)
 |@emp t e =>refine⟨_,rfl,.ref t,"tuple",.type "tuple",true,rfl,.tup e,bv (b:=true) (by decide +kernel) (fun z=>nomatch z),_,rfl,aF ?_⟩;exact⟨_,rfl,t,_,rfl,.inr (SqT.of e),rfl,_,rfl,pY rfl q0⟩
 |@noStr t x n ps e ty hs =>refine⟨_,rfl,.ref t,"tuple",.type "tuple",true,rfl,.tup e,bv (b:=true) (by decide +kernel) (fun z=>nomatch z),_,rfl,aF ?_⟩;refine⟨_,rfl,t,_,rfl,.inr (SqT.of e),rfl,_,rfl,aN (fun z=>by injection z with z;rw[Zq]at z;omega) ?_⟩;exact⟨_,rfl,t,_,_,_,rfl,rfl,SqT.of e,mZ,x,n,rfl,ty,fun _=>⟨_,rfl,aP q0⟩,fun k hk=>by subst hk;cases hs⟩
 |@noWord t k ps e hk =>refine⟨_,rfl,.ref t,"tuple",.type "tuple",true,rfl,.tup e,bv (b:=true) (by decide +kernel) (fun z=>nomatch z),_,rfl,aF ?_⟩;refine⟨_,rfl,t,_,rfl,.inr (SqT.of e),rfl,_,rfl,aN (fun z=>by injection z with z;rw[Zq]at z;omega) ?_⟩;refine⟨_,rfl,t,_,_,_,rfl,rfl,SqT.of e,mZ,.str k,"str",rfl,.str k,(fun z=>nomatch z),fun k' hk'=>⟨_,rfl,?_⟩⟩;cases hk';rw[hk];exact aP q0
 |@len t k ps ks e hk hl =>refine⟨_,rfl,.ref t,"tuple",.type "tuple",true,rfl,.tup e,bv (b:=true) (by decide +kernel) (fun z=>nomatch z),_,rfl,aF ?_⟩;refine⟨_,rfl,t,_,rfl,.inr (SqT.of e),rfl,_,rfl,aN (fun z=>by injection z with z;rw[Zq]at z;omega) ?_⟩;refine⟨_,rfl,t,_,_,_,rfl,rfl,SqT.of e,mZ,.str k,"str",rfl,.str k,(fun z=>nomatch z),fun k' hk'=>⟨_,rfl,?_⟩⟩;cases hk';rw[hk];refine aF ?_;refine⟨_,rfl,t,_,_,_,rfl,rfl,SqT.of e,mZ,k,ks.map nm,rfl,hk,fun y hy=>?_⟩;refine⟨_,rfl,t,_,rfl,.inr (SqT.of e),_,rfl,y,_,rfl,.inr (hy H),_,_,rfl,rfl,rfl,_,rfl,pZ (fun _=>q0) (fun z=>?_)⟩;rw[Zq,Zd,Zd]at z;exact absurd (by omega) hl
 |@is t k ps ks bs _ e hk l3 hp hb =>
  subst hb;obtain⟨lw,lb,hpp⟩:=id hp;refine⟨_,rfl,.ref t,"tuple",.type "tuple",true,rfl,.tup e,bv (b:=true) (by decide +kernel) (fun z=>nomatch z),_,rfl,aF ?_⟩;refine⟨_,rfl,t,_,rfl,.inr (SqT.of e),rfl,_,rfl,aN (fun z=>by injection z with z;rw[Zq]at z;omega) ?_⟩;refine⟨_,rfl,t,_,_,_,rfl,rfl,SqT.of e,mZ,.str k,"str",rfl,.str k,(fun z=>nomatch z),fun k' hk'=>⟨_,rfl,?_⟩⟩;cases hk';rw[hk];refine aF ?_;refine⟨_,rfl,t,_,_,_,rfl,rfl,SqT.of e,mZ,k,ks.map nm,rfl,hk,fun y hy=>?_⟩;refine⟨_,rfl,t,_,rfl,.inr (SqT.of e),_,rfl,y,_,rfl,.inr (hy H),_,_,rfl,rfl,rfl,_,rfl,dU (by rw[Zq,Zd,Zd,lw];rfl) ?_⟩;have cv:cV (V.str k::ps) (some 1) none=ps:=by unfold cV;rw[HT.sIx_none,mC (by decide),Zq,show((1:Int).toNat)=1 from rfl,Nat.min_eq_left (by omega),List.drop_succ_cons,List.drop_zero,Yd (by omega)]
  refine⟨_,rfl,_,rfl,_,rfl,t,_,rfl,e,fun z H0 w1 ez=>?_⟩;rw[cv]at ez;refine⟨y,z,_,_,rfl,hy _,SqT.of ez,by rw[Zd,Zd,lw],?_⟩;refine qG (fun i=>.bl ((bs[i]?).getD true)) (by rw[Zd,Zd];omega) (hy _) (SqT.of ez) (by rw[Zd,Zd,lw]) (fun i x v H1 hx hv sm R kk=>?_) (fun p H1 sm hp1=>?_)
  ·obtain⟨kd,hkd,rfl⟩:∃kd,ks[i]?=some kd/\x=.str (nm kd):=by
    rw[ZB,ZB]at hx;cases e:ks[i]? with
    |none=>rw[e]at hx;cases hx
    |some kd=>rw[e]at hx;cases hx;exact⟨kd,rfl,rfl⟩
   have hi:i<bs.length:=by rw[lb];exact(ZF.mp hv).1
   have hb:bs[i]?=some bs[i]:=Ze hi;have pb:=(hpp i kd v bs[i] hkd hv hb).same (w1.trans sm);rw[hb]at kk;exact⟨_,rfl,_,rfl,_,rfl,_,rfl,kd,v,bs[i],c,hd,ns,rfl,sm _ _ (w1 _ _ hC),d0,d1,pb,fun H2 s2=>kk H2 s2⟩
  ·refine⟨p,(List.range ((ks.map nm).map V.str).length).map (fun i=>(bs[i]?).getD true),rfl,SqL.of (by rw[ad];simp only[Yb];rfl),?_⟩;have e:((List.range ((ks.map nm).map V.str).length).map fun i=>(bs[i]?).getD true)=bs:=by rw[Zd,Zd,lw,<-lb];refine List.ext_getElem (by simp) fun i h1 h2=>?_;simp[h2]
   rw[e];exact q _ (w1.trans (sm.trans (ag hp1 _)))
abbrev jt:Stmt:=top 37
abbrev wN:List Str:=["thing","hands"]
theorem wm:FnScope wN ["thing","hands"] (am jt):=⟨rfl,rfl,rfl,by decide +kernel,rfl,by decide +kernel,by decide +kernel⟩
theorem lW{H:Hp}{c:Addr}{ns:List Int}(e:H c=some (.tup (ns.map V.int)))(hl:ns.length<=1000):Asked K H (.ref c):=oH e (by rw[Zd];exact hl) (fun x hx=>by
 obtain⟨n,_,rfl⟩:=Zu.mp hx;exact⟨_,.int n⟩)
theorem oQ{H:Hp}{c:Addr}{ns:List Int}{h:Int}(e:H c=some (.tup (ns.map V.int)))(hl:(ns.length:Int)=h)(hn:∀n∈ns,0<=n):fV H h (.ref c)=true:=by rw[aU e];show(decide (((ns.map V.int).length:Int)=h)&&(ns.map V.int).all (fun x=>bp x 0))=true;rw[Zd,decide_eq_true hl,Y0,ZU];intro x hx;obtain⟨n,hm,rfl⟩:=Zu.mp hx;exact decide_eq_true (hn n hm)
theorem vL{f:Addr}{fd:FuncData}(F:Fun K "is_deed" "is_deed" jt f fd)(j8:Fn P w K mg base 3 "is_hand" ["thing","hands"] (rN K))(Gr:Fn P w K mg base 3 "is_clock" ["thing","hands"] (pq K))(GB:Fn P w K mg base 6 "is_what" ["thing","hand","clock"] (rQ K))(a6:mg "isinstance" = none)(a8:mg "tuple" = none)(a7:mg "len" = none):FnOk P w K mg base CX0 7 f fd ["thing","hands"] (yE K):=by
 refine F.okQ wm (fun vs H Q E h=>?_) (fun cdv A outer s H vs Q E hr h=>?_)
 ·obtain⟨v,b,h,rfl,_⟩:=h;rfl
 obtain⟨v,b,h,rfl,r,q⟩:=h;refine⟨_,(b_c (bo (t_w (fy (cw (bU (q_B dO a6 aE (q_a (q_v 0) (q_a (fj a8 ci) ah))))) (fL (aY jm (q_B cP a7 Yf (q_a (q_v 0) ah)) al)))) (b_1 (au cJ)) b_0)
   (b_c (bo (t_w (fy (cw (bU (aO j8 (hr.mono (by decide)) (q_a (ax aw (q_v 0) al) (q_a (q_v 1) ah))))) (fL (cw (bU (aO Gr (hr.mono (by decide)) (q_a (ax aw (q_v 0) al) (q_a (q_v 1) ah)))))))) (b_1 (au cJ)) b_0)
   (b_1 (au (bQ (bO Ag (ax aw (ax aw (q_v 0) al) (ax aw (q_v 0) al)) al) (bR (aO GB (hr.mono (by decide)) (q_a (ax aw (q_v 0) al) (q_a (ax aw (q_v 0) al) (q_a (ax aw (q_v 0) al) ah)))))))))),?_⟩
 try rw[cxK]
 have q0:=q H (Same.refl H);cases r with
 |@flat _ n ty hT =>refine⟨_,rfl,v,"tuple",.type n,isT H v,rfl,ty,gU ty,_,rfl,?_⟩;rw[hT];exact aP (aP q0)
 |@len a xs e hl =>refine⟨_,rfl,.ref a,"tuple",.type "tuple",true,rfl,.tup e,bv (b:=true) (by decide +kernel) (fun z=>nomatch z),_,rfl,aF ?_⟩;refine⟨_,rfl,a,_,rfl,.inr (SqT.of e),rfl,_,rfl,pZ (fun _=>q0) (fun z=>absurd (by omega) hl)⟩
 |@hand a x y z n e ty hx =>refine⟨_,rfl,.ref a,"tuple",.type "tuple",true,rfl,.tup e,bv (b:=true) (by decide +kernel) (fun z=>nomatch z),_,rfl,aF ?_⟩;refine⟨_,rfl,a,_,rfl,.inr (SqT.of e),rfl,_,rfl,dU rfl ?_⟩;refine⟨_,rfl,a,_,_,_,rfl,rfl,SqT.of e,rfl,_,rfl,x,n,h,rfl,ty,_,rfl,?_⟩;rw[hx];exact aP (aP q0)
 |@clock a i y z e i0 i1 ay hc =>refine⟨_,rfl,.ref a,"tuple",.type "tuple",true,rfl,.tup e,bv (b:=true) (by decide +kernel) (fun z=>nomatch z),_,rfl,aF ?_⟩;refine⟨_,rfl,a,_,rfl,.inr (SqT.of e),rfl,_,rfl,dU rfl ?_⟩;refine⟨_,rfl,a,_,_,_,rfl,rfl,SqT.of e,rfl,_,rfl,.int i,"int",h,rfl,.int i,_,rfl,?_⟩;rw[show(bp (.int i) 0&&ltB (.int i) h)=true by show(decide (0<=i)&&decide (i<h))=true;rw[decide_eq_true i0,decide_eq_true i1];rfl];refine aF ?_;refine⟨_,rfl,a,_,_,_,rfl,rfl,SqT.of e,rfl,_,rfl,y,h,rfl,ay,fun H1 s1=>⟨_,rfl,?_⟩⟩;rw[hc];exact aP (q H1 s1)
 |@zero a c i ns z e i0 i1 ec hl hn h8 h0 =>refine⟨_,rfl,.ref a,"tuple",.type "tuple",true,rfl,.tup e,bv (b:=true) (by decide +kernel) (fun z=>nomatch z),_,rfl,aF ?_⟩;refine⟨_,rfl,a,_,rfl,.inr (SqT.of e),rfl,_,rfl,dU rfl ?_⟩;refine⟨_,rfl,a,_,_,_,rfl,rfl,SqT.of e,rfl,_,rfl,.int i,"int",h,rfl,.int i,_,rfl,?_⟩;rw[show(bp (.int i) 0&&ltB (.int i) h)=true by show(decide (0<=i)&&decide (i<h))=true;rw[decide_eq_true i0,decide_eq_true i1];rfl];refine aF ?_;refine⟨_,rfl,a,_,_,_,rfl,rfl,SqT.of e,rfl,_,rfl,.ref c,h,rfl,lW ec (by omega),fun H1 s1=>⟨_,rfl,?_⟩⟩;rw[oQ ec hl hn];refine aF ?_;have f1:=s1 _ _ e;refine⟨_,rfl,a,_,_,_,rfl,rfl,SqT.of f1,rfl,_,rfl,a,_,_,_,rfl,rfl,SqT.of f1,rfl,c,_,_,_,rfl,rfl,SqT.of (s1 _ _ ec),cF i0 (by omega),_,_,rfl,rfl,_,rfl,?_⟩;rw[decide_eq_false (by omega)];exact aF (q H1 s1)
 |@is a c i ns z _ e i0 i1 ec hl hn h8 h1 wr =>refine⟨_,rfl,.ref a,"tuple",.type "tuple",true,rfl,.tup e,bv (b:=true) (by decide +kernel) (fun z=>nomatch z),_,rfl,aF ?_⟩;refine⟨_,rfl,a,_,rfl,.inr (SqT.of e),rfl,_,rfl,dU rfl ?_⟩;refine⟨_,rfl,a,_,_,_,rfl,rfl,SqT.of e,rfl,_,rfl,.int i,"int",h,rfl,.int i,_,rfl,?_⟩;rw[show(bp (.int i) 0&&ltB (.int i) h)=true by show(decide (0<=i)&&decide (i<h))=true;rw[decide_eq_true i0,decide_eq_true i1];rfl];refine aF ?_;refine⟨_,rfl,a,_,_,_,rfl,rfl,SqT.of e,rfl,_,rfl,.ref c,h,rfl,lW ec (by omega),fun H1 s1=>⟨_,rfl,?_⟩⟩;rw[oQ ec hl hn];refine aF ?_;have f1:=s1 _ _ e;refine⟨_,rfl,a,_,_,_,rfl,rfl,SqT.of f1,rfl,_,rfl,a,_,_,_,rfl,rfl,SqT.of f1,rfl,c,_,_,_,rfl,rfl,SqT.of (s1 _ _ ec),cF i0 (by omega),_,_,rfl,rfl,_,rfl,?_⟩;rw[decide_eq_true h1];refine aP ⟨_,rfl,a,_,_,_,rfl,rfl,SqT.of f1,rfl,_,rfl,a,_,_,_,rfl,rfl,SqT.of f1,rfl,_,rfl,a,_,_,_,rfl,rfl,SqT.of f1,rfl,?_⟩;exact⟨z,_,c,i,ns,rfl,s1 _ _ ec,i0,by omega,wr.same s1,fun H2 s2=>q H2 (s1.trans s2)⟩
abbrev lj:Stmt:=top 6
abbrev zm:List Str:=["one","other"]
theorem yw:FnScope zm ["one","other"] (am lj):=⟨rfl,rfl,rfl,by decide +kernel,rfl,by decide +kernel,by decide +kernel⟩
theorem yb{f:Addr}{fd:FuncData}(F:Fun K "within" "within" lj f fd)(d6:mg "all" = none)(GR:mg "zip" = none):FnOk P w K mg base CX0 1 f fd ["one","other"] rV:=by
 refine F.okQ yw (fun vs H Q E h=>?_) (fun cdv A outer s H vs Q E hr h=>?_)
 ·obtain⟨a,b,ns,ms,rfl,_⟩:=h;rfl
 obtain⟨a,b,ns,ms,rfl,hA,hB,hl,h8,q⟩:=h;refine⟨_,(b_1 (au (q_B (jH rfl) d6 dG (q_a (bY (own:=["mine","yours"]) (⟨rfl,by decide +kernel,by decide +kernel,rfl,trivial⟩:CompOk _ _ [] []) rfl (Bc GR (q_a (q_v 0) (q_a (q_v 1) ah))) (fun _ _ _ _=>xB (K:=K) (n:=2) rfl rfl (nE (bj (i:=0) (show(["mine","yours"]:List Str).Nodup by decide +kernel)) (nE (bj (i:=1) (show(["mine","yours"]:List Str).Nodup by decide +kernel)) zU))) (xC (iw (bz (by decide)) fP (iw (bz (by decide)) fP tM jN) (qL fP jN))) (fun _ _ _ _=>fh) (fun _ _ _ _=>(bO nR (q_v 0) (q_v 1)))) ah)))),?_⟩
 try rw[cxK]
 refine⟨_,rfl,_,rfl,a,b,_,_,rfl,SqT.of hA,SqT.of hB,by rw[Zd,Zd,hl],?_⟩;refine qG (fun i=>.bl (decide (ai ns i<=ai ms i))) (by rw[Zd];omega) (SqT.of hA) (SqT.of hB) (by rw[Zd,Zd,hl]) (fun i x y H1 hx hy sm R k=>?_) (fun p H1 sm hp=>?_)
 ·obtain⟨rfl,_⟩:=iy hx;obtain⟨rfl,_⟩:=iy hy;exact⟨_,rfl,_,rfl,_,_,rfl,rfl,k H1 (Same.refl H1)⟩
 ·rw[Zd];refine⟨p,(List.range ns.length).map fun i=>decide (ai ns i<=ai ms i),rfl,SqL.of ?_,q _ (sm.trans (ag hp _))⟩;rw[ad,Yb];rfl
abbrev jB:Stmt:=top 36
abbrev wU:List Str:=["deed"]
theorem wC:FnScope wU ["deed"] (am jB):=⟨rfl,rfl,rfl,by decide +kernel,rfl,by decide +kernel,by decide +kernel⟩
theorem vS{f:Addr}{fd:FuncData}(F:Fun K "name_of" "name_of" jB f fd):FnOk P w K mg base CX0 1 f fd ["deed"] mJ:=by
 refine F.okQ wC (fun vs H Q E h=>?_) (fun cdv A outer s H vs Q E hr h=>?_)
 ·obtain⟨a,d,rfl,_⟩:=h;rfl
 obtain⟨a,d,rfl,⟨c,v,e1,e2,e3,e4,_⟩,q⟩:=h;refine⟨_,(b_1 (au (aG (q_a (ax aw (q_v 0) al) (q_a (ax aw (ax aw (q_v 0) al) (ax aw (q_v 0) al)) ah))))),?_⟩
 try rw[cxK]
 refine⟨_,rfl,a,_,_,_,rfl,rfl,SqT.of e1,rfl,_,rfl,a,_,_,_,rfl,rfl,SqT.of e1,rfl,_,rfl,a,_,_,_,rfl,rfl,SqT.of e1,rfl,c,_,_,_,rfl,rfl,SqT.of e2,eJ e4,sz rfl,fun p g=>?_⟩;exact q p _ (ag g _) ad
abbrev fu:Stmt:=top 45
abbrev pJ:List Str:=["deed","name","ready"]
theorem oq:FnScope pJ ["deed","name","ready"] (am fu):=⟨rfl,rfl,rfl,by decide +kernel,rfl,by decide +kernel,by decide +kernel⟩
theorem nW{f:Addr}{fd:FuncData}(F:Fun K "is_answered" "is_answered" fu f fd)(GU:Fn P w K mg base 1 "within" ["one","other"] rV):FnOk P w K mg base CX0 2 f fd ["deed","name","ready"] yB:=by
 refine F.okQ oq (fun vs H Q E h=>?_) (fun cdv A outer s H vs Q E hr h=>?_)
 ·obtain⟨a,nm,r,d,i,R,n,rfl,_⟩:=h;rfl
 obtain⟨a,nm,r,d,i,R,n,rfl,hd,hn,hr',hR,hRn,hdn,q⟩:=h;have key:ik H r (.ref nm) (bE (aq R) [.inl (i:Int),.inl (aS d i)]):=.inr ⟨aq R,[.inl (i:Int),.inl (aS d i)],nm,.inl hr',rfl,hn,rfl⟩;obtain⟨c,v,d1,d2,d3,d4,d5⟩:=id hd;refine⟨_,(b_1 (au (bQ (FA hr.units (q_v 1) (q_v 2)) (bR (aO GU (hr.mono (by decide)) (q_a (ax aw (jo hr.units (q_v 2) (q_v 1)) al) (q_a (ax aw (q_v 0) al) ah))))))),?_⟩
 try rw[cxK]
 rw[ii]at key;unfold gK at q;rw[xu]at q;cases hf:R.find? (fun x=>decide (nmK x.2=[.inl (i:Int),.inl (aS d i)]))with
 |none =>rw[hf]at key q;refine⟨_,rfl,_,rfl,r,_,rfl,key,false,rfl,aF ?_⟩;exact q H (Same.refl H)
 |some x =>rw[hf]at key q;have hm:=List.mem_of_find?_eq_some hf;obtain⟨c',v',f1,f2,f3,f4,f5⟩:=hR x hm;refine⟨_,rfl,_,rfl,r,_,rfl,key,true,rfl,aP ?_⟩;refine⟨_,rfl,_,rfl,r,_,rfl,key,x.1,_,_,_,rfl,rfl,SqT.of f1,at1,_,rfl,a,_,_,_,rfl,rfl,SqT.of d1,at1,c',c,x.2.ns,d.ns,rfl,f2,d2,by rw[hRn x hm,hdn],f5,fun H' s'=>?_⟩;exact q H' s'
abbrev iL:Stmt:=top 44
abbrev uB:List Str:=["deed","names","hand","number","last"]
theorem cX:FnScope uB ["deed"] (am iL):=⟨rfl,rfl,rfl,by decide +kernel,rfl,by decide +kernel,by decide +kernel⟩
theorem oU(d:Dd)(k:Nat):(List.range (k+1)).filter (fun i=>decide (aS d i>0))=(List.range k).filter (fun i=>decide (aS d i>0))++if aS d k>0 then[k]else[]:=by
 rw[List.range_succ,x5];congr 1;by_cases c:aS d k>0
 ·rw[HK c,List.filter_cons,HK (by simpa using c),List.filter_nil]
 ·rw[HH c,List.filter_cons,HH (by simpa using c),List.filter_nil]
theorem NA.snoc{H H':Hp}{d:Dd}{as:List Addr}{is:List Nat}{b:Addr}{i:Nat}(h:NA H d as is)(t:TS H H')(hb:H' b=some (.tup ([(i:Int),aS d i].map V.int))):NA H' d (as++[b]) (is++[i]):=by
 refine⟨by simp[h.1],fun k c j h1 h2=>?_⟩;rcases Z8 k as.length with c1|c1
 ·rw[Ys c1]at h1;rw[Ys (by rw[<-h.1];exact c1)]at h2;exact t _ _ (h.2 k c j h1 h2)
 ·rw[ZY c1]at h1;rw[ZY (by rw[<-h.1];exact c1),<-h.1]at h2;have e:k-as.length=0:=by have:=(ZF.mp h1).1;simp at this;omega
  rw[e]at h1 h2;cases h1;cases h2;exact hb
theorem NA.ts{H H':Hp}{d:Dd}{as:List Addr}{is:List Nat}(h:NA H d as is)(t:TS H H'):NA H' d as is:=⟨h.1,fun k c j h1 h2=>t _ _ (h.2 k c j h1 h2)⟩
theorem sx{f:Addr}{fd:FuncData}(F:Fun K "asked_by" "asked_by" iL f fd)(Gm:mg "enumerate" = none):FnOk P w K mg base CX0 1 f fd ["deed"] ug:=by
 refine F.okQ cX (fun vs H Q E h=>?_) (fun cdv A outer s H vs Q E hr h=>?_)
 ·obtain⟨a,d,rfl,_⟩:=h;rfl
 obtain⟨a,d,rfl,hd,q⟩:=h;obtain⟨c,v,e1,e2,e3,e4,e5⟩:=id hd;refine⟨_,(b_c (aH (i:=1) cX.nd (iI ah))
   (b_c (mE PassesOwn.never rfl (BL Gm (q_a (ax aw (q_v 0) al) ah)) (A9 rfl (nE (bj (i:=2) cX.nd) (nE (bj (i:=3) cX.nd) zU))) (b_c (aH (i:=4) cX.nd (FZ (aY dW (q_v 2) (ax aw (q_v 0) al)) (bt vH (q_v 3) al) (q_v 3)))
   (b_1 (bo (aY Dw (q_v 4) al) (b_1 (rA (vX (q_v 1) (aG (q_a (q_v 2) (q_a (q_v 4) ah)))))) b_0))))
   (b_1 (au (q_v 1))))),?_⟩
 try rw[cxK]
 refine⟨sz rfl,fun p g=>?_⟩;have s0:=ag g (.lst []);refine⟨_,rfl,a,_,_,_,rfl,rfl,SqT.of (s0 _ _ e1),at1,c,_,rfl,s0 _ _ e2,?_⟩;refine xw (i:=2) (j:=3) (fun k σ H'=>Same H H'/\(∃o2 o3 o4,σ=[some (.ref a),some (.ref p),o2,o3,o4])/\∃as,H' p=some (.lst (as.map V.ref))/\NA H' d as ((List.range k).filter fun i=>decide (aS d i>0))) ⟨s0,⟨none,none,none,rfl⟩,[],ad,rfl,fun k b i h1=>by simp at h1⟩ (fun i σ H' _ ⟨sm,_⟩=>SqT.of (sm _ _ e2)) (fun k x σ H1 hx ⟨sm,⟨o2,o3,o4,eσ⟩,as,hp,na⟩ T hT=>?_) (fun σ H1 ⟨sm,⟨o2,o3,o4,eσ⟩,as,hp,na⟩=>?_)
 ·subst eσ;obtain⟨rfl,hk⟩:=iy hx;have sT:=ag hT (.tup [.int (k:Int),.int (ai d.ns k)]);have m1:=sT _ _ (sm _ _ e1);have pT:=sT _ _ hp;have go:∀(z:Int) (D:Ends),z=aS d k->(∀σ' H',(Same H H'/\(∃o2 o3 o4,σ'=[some (.ref a),some (.ref p),o2,o3,o4])/\∃as,H' p=some (.lst (as.map V.ref))/\NA H' d as ((List.range (k+1)).filter fun i=>decide (aS d i>0)))->D.nx σ' H') ->
    AT (mO (tOp (rI0 fun i j=>V.bl (decide (j<i))) (lB 4) (tC (V.int 0)))) (wF (tBM K "list" oh (lB 1) (fK (AV (fK (lB 2) (fK (lB 4) fx))) fx))) wH D [some (.ref a),some (.ref p),some (.int (k:Int)),some (.int (ai d.ns k)),some (.int z)] (upd H1 T (.tup [.int (k:Int),.int (ai d.ns k)])):=fun z D hz hD=>by
   refine⟨_,rfl,_,_,rfl,rfl,_,rfl,Di (fun hc=>?_) fun hc=>?_⟩
   ·refine⟨_,rfl,.inl ⟨rfl,_,SqL.of pT⟩,_,rfl,_,rfl,sz rfl,fun b gb=>?_⟩;have sB:=ag gb (.tup [.int (k:Int),.int z]);have pB:=sB _ _ pT;refine⟨p,_,_,rfl,rfl,pB,?_,?_⟩
    ·have:=na.1;have l1:((List.range k).filter fun i=>decide (aS d i>0)).length<=k:=by have:=YS (fun i=>decide (aS d i>0)) (List.range k);rw[YI]at this;exact this
     rw[Zd];exact cK (by omega)
    ·refine hD _ _ ⟨?_,⟨_,_,_,rfl⟩,as++[b],?_,?_⟩
     ·exact fun b' o hb=>by rw[af (aj hb g)];exact sB _ _ (sT _ _ (sm _ _ hb))
     ·rw[ad,ZE];rfl
     ·rw[oU,HK (by omega)];refine na.snoc ?_ ?_
      ·exact(Same.ts sT).trans ((Same.ts sB).trans (mP fun zs e=>by rw[pB]at e;cases e))
      ·rw[af (fun e=>by rw[<-e,ad]at pB;cases pB),ad,hz];rfl
   ·refine hD _ _ ⟨sm.trans sT,⟨_,_,_,rfl⟩,as,pT,?_⟩;rw[oU,HH (by omega),Z6];exact na.ts (Same.ts sT)
  refine⟨_,rfl,_,rfl,a,_,_,_,rfl,rfl,SqT.of m1,at0,rfl,_,rfl,zX (fun ek=>?_) fun ek=>?_⟩
  ·refine⟨_,rfl,_,_,rfl,rfl,go _ _ ?_ fun σ' H' z=>z⟩;unfold aS;rw[HK (by omega)]
  ·refine⟨_,rfl,go _ _ ?_ fun σ' H' z=>z⟩;unfold aS;rw[HH (by omega)]
 ·subst eσ;exact⟨_,rfl,q p H1 as sm hp (by unfold di;rw[Zd]at na;exact na)⟩
abbrev fG:Stmt:=top 43
abbrev uF:List Str:=["deeds","ready","deed"]
theorem gS:FnScope uF ["deeds"] (am fG):=⟨rfl,rfl,rfl,by decide +kernel,rfl,by decide +kernel,by decide +kernel⟩
abbrev bX:Str:=(("ready_of":Str)++".<locals>.")++"<lambda>"
def Fb:Stmt->Expr
 |.For _ it _ _ _=>it
 |.Assign _ e _=>e
 |_=>.Name "" ⟨0,0,0,0⟩
def FX:Expr->Expr
 |.Call _ _ (k::_) _=>k.value
 |e=>e
def FW:Expr->Expr
 |.Lambda _ b _ _=>b
 |e=>e
def FY:Expr->Scope
 |.Lambda _ _ s _=>s
 |_=>default
def cn:Expr->Pos
 |.Lambda _ _ _ p=>p
 |_=>⟨0,0,0,0⟩
abbrev bV:Expr:=FX (Fb ((bw fG).getD 1 (.Pass ⟨0,0,0,0⟩)))
theorem pO(G7:mg "sum" = none):LamOk P w K mg base 1 bX (FW bV) (FY bV) "each" FD:=by
 refine⟨["each"],⟨rfl,rfl,rfl,by decide +kernel,rfl,by decide +kernel,by decide +kernel⟩,fun vs H Q E h=>?_,fun f c' A outer s H vs Q E hr h=>?_⟩
 ·obtain⟨a,d,rfl,_⟩:=h;rfl
 obtain⟨a,d,rfl,⟨c,v,e1,e2,e3,e4,e5⟩,q⟩:=h;refine⟨_,(aG (q_a (q_B (C4 (K:=K) rfl rfl) G7 PyProof.Rows.boot_sum (q_a (ax aw (q_v 0) al) ah)) (q_a (ax aw (q_v 0) al) ah))),?_⟩;refine⟨_,rfl,a,_,_,_,rfl,rfl,SqT.of e1,at1,c,d.ns,rfl,SqT.of e2,_,rfl,a,_,_,_,rfl,rfl,SqT.of e1,at0,sz rfl,fun p g=>?_⟩;exact q p _ (ag g _) ad
def oB(T:Addr):Sp:=fun vs H Q _=>∃(l:Addr) (L:LT) (n:Nat),vs=[.ref l]/\LR H l L/\L.length<=63/\n<=8/\UN n (vals L)/\aK bX T (cn bV) H /\
 ∀D H' (S:LT),S.Perm L->((vals S).Pairwise fun d e=>¬kLt e d)->SameT T H H'->aK bX T (cn bV) H'->H' D=some (.lst (bu (bf S S.length)))->H D=none->Q (.ref D) H'
theorem aA{q:Str}{T:Addr}{pos:Pos}{H H':Hp}(h:aK q T pos H)(s:Same H H'):aK q T pos H':=by obtain⟨ps,e1,e2,e3⟩:=h;exact⟨ps,s _ _ e1,e2,e3.imp id fun⟨c,z1,z2⟩=>⟨c,z1,s _ _ z2⟩⟩
theorem iE{q:Str}{T r:Addr}{pos:Pos}{H H':Hp}(h:aK q T pos H)(s:SameT r H H')(hr:∀f,H r=some f->(∀ps,f≠.tbl ps)/\∀c,f≠je c q):aK q T pos H':=by obtain⟨ps,e1,e2,e3⟩:=h;exact⟨ps,s _ _ e1 fun z=>(hr _ (by rw[<-z];exact e1)).1 ps rfl,e2,e3.imp id fun⟨c,z1,z2⟩=>⟨c,z1,s _ _ z2 fun z=>(hr _ (by rw[<-z];exact z2)).2 c rfl⟩⟩
theorem EO{q:Str}{T:Addr}{pos:Pos}{H:Hp}(h:aK q T pos H):∀zs,H T≠some (.tup zs):=fun zs e=>by obtain⟨ps,e1,_⟩:=h;rw[e1]at e;cases e
theorem yq{L:LT}{is:List Nat}(h:∀i∈is,i<L.length):(is.map fun i=>(bu L).getD i .non)=bu (is.map fun i=>L.getD i (0,D0)):=by unfold bu;rw[Yb];apply List.map_congr_left;intro i hi;have hl:=h i hi;simp[hl]
theorem sI{f c0 T:Addr}{fd:FuncData}(F:Fun K "ready_of" "ready_of" fG f fd)(hcode:fd.code=.ref c0)(C:CodeHd base c0 T)(B:Blt base mg)(Gs:Fn P w K mg base 1 "asked_by" ["deed"] ug)(o8:Fn P w K mg base 2 "is_answered" ["deed","name","ready"] yB)(b9:Fn P w K mg base 1 "name_of" ["deed"] mJ)(G7:mg "sum" = none)(i4:mg "sorted" = none)(d6:mg "all" = none)(i9:mg "list" = none):FnOk P w K mg base CX0 5 f fd ["deeds"] (oB T):=by
 refine F.okC hcode gS (fun vs H Q E h=>?_) (fun A outer s H vs Q E hr h=>?_)
 ·obtain⟨l,L,n,rfl,_⟩:=h;rfl
 obtain⟨l,L,n,rfl,hL,hz,hn,hg,tab,q⟩:=h;refine⟨_,(b_c (aH (i:=1) gS.nd qh)
   (b_c (mE PassesOwn.never rfl (dR (AD rfl i4 rfl C B (pO G7) (hr.mono (by decide)) (q_a (q_v 0) ah))) (bj (i:=2) gS.nd) (b_1 (bo (bU (q_B (jH rfl) d6 dG (q_a (bY (own:=["name"]) (⟨rfl,by decide +kernel,by decide +kernel,rfl,⟨rfl,rfl,⟨rfl,rfl,trivial⟩⟩⟩:CompOk _ _ [2,1] ["deed","ready"]) rfl (dR (aO Gs (hr.mono (by decide)) (q_a (q_v 2) ah))) (fun _ _ _ _=>bj (i:=0) (show (["name","deed","ready"]:List Str).Nodup by decide +kernel)) (bz (by decide)) (fun _ _ _ _=>fh) (fun _ _ _ _=>(aO o8 (hr.mono (by decide)) (q_a (q_v 1) (q_a (q_v 0) (q_a (q_v 2) ah)))))) ah))) (b_1 (mD hr.units (q_v 1) (aO b9 (hr.mono (by decide)) (q_a (q_v 2) ah)) (q_v 2))) b_0)))
   (b_1 (au (og (tu rfl) i9 gC (q_a (yl (q_v 1)) ah)))))),?_⟩
 try rw[cxK]
 intro r gr;have s0:=ag gr (.dT []);have er0:upd H r (.dT []) r=some (.dT []):=ad;generalize upd H r (.dT [])=H0 at s0 er0 ⊢;have L0:=hL.same s0;have tab0:=aA tab s0;have nt0:=EO tab0;have rT:r≠T:=fun z=>by obtain⟨ps,e1,_⟩:=tab;rw[z,e1]at gr;cases gr
 refine⟨_,rfl,l,bu L,L.map fun x=>ZKey.t (kyZ x.2),rfl,.inl L0.1,tab0,by rw[bC];omega,by rw[bC,Zd],.inr fun k hk=>?_,fun i v key H' hv hkey sT R kR=>?_,fun p H2 D hp hls sT tab2 gD=>?_⟩
 ·obtain⟨x,_,rfl⟩:=Zu.mp hk;exact⟨_,rfl,by simp[kyZ]⟩
 ·obtain⟨hi,rfl⟩:=lc hv;rw[ZB,Ze hi]at hkey;cases hkey;exact⟨_,_,rfl,(L0.2 _ (ZI hi)).ts (lm nt0 sT),fun p' H'' s'' e''=>kR (.ref p') H'' s'' ⟨p',rfl,e''⟩⟩
 ·rw[bC]at hp hls;have pl:∀i∈p.toList,i<L.length:=fun i hi=>by have:=(hp.mem_iff).mp (Array.mem_toList_iff.mp hi);simpa using this
  rw[yq pl];have so:=sQ (f:=Prod.snd) (z:=((0,D0):Addr×Dd)) hp (by rw[Yb]at hls;exact hls);generalize(p.toList.map fun i=>L.getD i (0,D0))=M at so ⊢;obtain⟨sM,pM⟩:=so;have gM:UN n (vals M):=hg.perm (pM.symm.map Prod.snd);have lM:M.length=L.length:=pM.length_eq;have er2:H2 r=some (.dT []):=sT _ _ er0 rT;have s3:=ag gD (.lst (bu M));have eD:upd H2 D (.lst (bu M)) D=some (.lst (bu M)):=ad;have er3:=s3 _ _ er2;have nt2:=lm nt0 sT;have M3:∀x∈M,DR (upd H2 D (.lst (bu M))) x.1 x.2:=fun x hx=>(L0.2 x (pM.mem_iff.mp hx)).ts (nt2.trans (Same.ts s3));have tab3:=aA tab2 s3;have all3:SameT T H (upd H2 D (.lst (bu M))):=fun b o e hb=>s3 _ _ (sT _ _ (s0 _ _ e) hb);have hD0:H D=none:=by
   cases e:H D with
   |none=>rfl
   |some o =>
    by_cases z:D=T
    ·obtain⟨ps,e1,_⟩:=tab2;rw[<-z,gD]at e1;cases e1
    ·have:=sT _ _ (s0 _ _ e) z;rw[gD]at this;cases this
  have nDr:D≠r:=fun z=>by rw[z,er2]at gD;cases gD
  generalize upd H2 D (.lst (bu M))=H3 at *;refine⟨D,rfl,⟨_,SqL.of eD⟩,qI (fun k σ H'=>(∃o2,σ=[some (.ref l),some (.ref r),o2])/\SameT r H3 H'/\H' r=some (.dT (aq (bf M k)))) ⟨⟨none,rfl⟩,fun b o e _=>e,er3⟩ (fun i σ H' _ ⟨_,sr,_⟩=>SqL.of (sr _ _ eD nDr)) (fun k x σ H4 hx ⟨⟨o2,eσ⟩,sr,hr4⟩=>?_) (fun σ H4 ⟨⟨o2,eσ⟩,sr,hr4⟩=>?_)⟩
  ·subst eσ;obtain⟨hk,rfl⟩:=lc hx;have t4:TS H3 H4:=lm (fun zs e=>by rw[er3]at e;cases e) sr;have M4:∀x∈M,DR H4 x.1 x.2:=fun x hx=>(M3 x hx).ts t4;have dk:=M4 _ (ZI hk);have mk:M[k].2∈vals M:=Zu.mpr ⟨M[k],ZI hk,rfl⟩;refine⟨_,rfl,M[k].1,M[k].2,rfl,dk,fun p1 H5 as s5 e5 na=>?_⟩;have la:as.length<=8:=by rw[na.1];unfold di;have:=YS (fun i=>decide (aS M[k].2 i>0)) (List.range M[k].2.ns.length);rw[YI]at this;have l8:=(gM.len _ mk).1;omega
   have sub:=(ce M k (by omega)).trans (ZO k M);refine⟨p1,rfl,⟨_,SqL.of e5⟩,xi (fun j=>.bl (gK (vals (bf M k)) M[k].2 ((di M[k].2).getD j 0))) (by rw[Zd];omega) (SqL.of e5) (fun j x H6 hx s6 R kR=>?_) (fun p2 H6 s6 g6=>?_)⟩
   ·rw[ZB]at hx;obtain⟨b,hb,rfl⟩:=YK.mp hx;have hj:j<(di M[k].2).length:=by rw[<-na.1];exact(ZF.mp hb).1
    have ej:(di M[k].2).getD j 0=(di M[k].2)[j]:=by simp[hj]
    have hbn:=s6 _ _ (na.2 j b _ hb (Ze hj));rw[<-ej]at hbn;have hr6:=s6 _ _ (s5 _ _ hr4);have t6:TS H4 H6:=(Same.ts s5).trans (Same.ts s6);exact⟨_,rfl,_,rfl,_,rfl,M[k].1,b,r,M[k].2,(di M[k].2).getD j 0,bf M k,n,rfl,dk.ts t6,hbn,hr6,fun x hx=>(M4 x (sub.subset hx)).ts t6,fun x hx=>(gM.len _ (Zu.mpr ⟨x,sub.subset hx,rfl⟩)).1,(gM.len _ mk).1,fun H' s'=>kR H' s'⟩
   ·have S6:=s6.trans (ag g6 (.lst ((List.range (as.map V.ref).length).map fun j=>V.bl (gK (vals (bf M k)) M[k].2 ((di M[k].2).getD j 0)))));refine⟨p2,(List.range (as.map V.ref).length).map fun j=>gK (vals (bf M k)) M[k].2 ((di M[k].2).getD j 0),rfl,SqL.of (by rw[ad,Yb];rfl),?_⟩;have ea:((List.range (as.map V.ref).length).map fun j=>gK (vals (bf M k)) M[k].2 ((di M[k].2).getD j 0)).all id=mX (vals (bf M k)) M[k].2:=by unfold mX;rw[Zd,na.1,<-fD (di M[k].2) 0,List.all_map,List.all_map,fD];rfl
    rw[ea];generalize upd H6 p2 (.lst ((List.range (as.map V.ref).length).map fun j=>V.bl (gK (vals (bf M k)) M[k].2 ((di M[k].2).getD j 0))))=H7 at S6 ⊢;have S7:=s5.trans S6;have hr7:=S7 _ _ hr4;refine⟨_,rfl,?_⟩;have e1:bf M (k+1)=fJ (bf M k) M[k]:=dF hk;unfold fJ at e1;by_cases ac:mX (vals (bf M k)) M[k].2=true
    ·rw[HK ac]at e1;rw[ac];refine aP ⟨_,rfl,_,rfl,_,rfl,M[k].1,M[k].2,rfl,dk.ts (Same.ts S7),fun p3 H8 s8 e8=>?_⟩;have hr8:=s8 _ _ hr7;have vn:bE (aq (bf M k)) (nmK M[k].2)=none:=by
      rw[ii];have:(bf M k).find? (fun x=>decide (nmK x.2=nmK M[k].2))=none:=by rw[List.find?_eq_none];intro y hy;obtain⟨j,hj,rfl⟩:=ZS.mp ((ce M k (by omega)).subset hy);rw[Z0]at hj;rw[List.getElem_take];have u:=gM.uni;rw[ZG]at u;have:=u j k (by rw[eR];omega) (by rw[eR];exact hk) (by omega);simp only[vals,List.getElem_map]at this;simpa using this
      rw[this];rfl
     have lk:(aq (bf M k)).length<=63:=by unfold aq;rw[Zd];have:=sub.length_le;omega
     refine⟨r,_,rfl,.inr ⟨_,nmK M[k].2,p3,hr8,rfl,e8,x4 lk (by rw[PySem.sizeLine_eq];decide),rfl⟩,⟨_,rfl⟩,fun b o e hb=>?_,?_⟩
     ·rw[af hb];exact s8 _ _ (S7 _ _ (sr _ _ e hb))
     ·rw[ad,kZ _ vn,e1];congr 2;unfold aq;rw[ZE];rfl
    ·rw[HH ac]at e1;rw[Z4.mpr ac];refine aF ⟨⟨_,rfl⟩,fun b o e hb=>S7 _ _ (sr _ _ e hb),?_⟩;rw[e1];exact hr7
  ·subst eσ;rw[bC]at hr4;refine⟨_,rfl,r,_,rfl,hr4,fun v gv=>?_⟩;have sv:=ag gv (eI v (kg r));refine⟨v,r,_,rfl,ad,sv _ _ hr4,fun l2 g2=>?_⟩;have s2:=ag g2 (.lst ((aq (bf M M.length)).map (·.2)));have rb:SameT r H3 (upd (upd H4 v (eI v (kg r))) l2 (.lst ((aq (bf M M.length)).map (·.2)))):=fun b o e hb=>s2 _ _ (sv _ _ (sr _ _ e hb));have hl2:H l2=none:=by
    cases e:H l2 with
    |none=>rfl
    |some o =>
     have hb:l2≠r:=fun z=>by rw[z,gr]at e;cases e
     by_cases z:l2=T
     ·obtain⟨ps,e1,_⟩:=tab3;rw[<-z]at e1;have:=sv _ _ (sr _ _ e1 hb);rw[g2]at this;cases this
     ·have:=sv _ _ (sr _ _ (all3 _ _ e z) hb);rw[g2]at this;cases this
   refine q l2 _ M pM sM (fun b o e hb=>?_) (iE tab3 rb fun f' hf'=>?_) ?_ hl2
   ·refine rb _ _ (all3 _ _ e hb) fun z=>?_;rw[z,gr]at e;cases e
   ·rw[er3]at hf';cases hf';exact⟨fun ps e=>(by cases e),fun c e=>(by cases e)⟩
   ·rw[ad];congr 2;unfold aq bu;rw[Yb];rfl
theorem xh{J:L2.It}{N n:Nat}{cap:List Nat}{g:TG}{tc:TT}{te:TE}{σ:St}{H0:Hp}{Q:VK}(Pv:Nat->List V->Hp->Prop)(hz:N<=1000)(hn:∀i ys H,Pv i ys H->ys.length<=i)(h0:Pv 0 [] H0)(hgo:∀i ys H,i<N->Pv i ys H->J.go i H)(hst:∀ys H,Pv N ys H->J.stop N H)(ht:∀i ys H x H',i<N->Pv i ys H->J.yld i H x H'->∀Y:List V->Hp->Prop,(∀zs H4,Pv (i+1) zs H4->Y zs H4)->g x (be n cap σ) H' fun σ2 H2=>tc σ2 H2 fun b H3=>if b=true then te σ2 H3 fun y H4=>Y (ys++[y]) H4 else Y ys H3)(hq:∀ys p H,Pv N ys H->H p=none->Q (.ref p) (upd H p (.lst ys))):bS n cap g tc te σ J H0 Q:=by
 refine⟨fun i m ys H=>m=N-i/\i<=N/\Pv i ys H,⟨N,by simp,ZV _,h0⟩,?_⟩;rintro i m ys H ⟨rfl,hi,pv⟩;by_cases hlt:i<N
 ·refine .inr ⟨hgo i ys H hlt pv,?_,fun x H' y=>?_⟩
  ·have:=hn i ys H pv;exact x4 (ZQ this (by omega)) (show 1000<sizeLine by decide)
  ·exact ht i ys H x H' hlt pv y (fun ys H4=>∃m',m'<N-i/\m'=N-(i+1)/\i+1<=N/\Pv (i+1) ys H4) fun zs H4 z=>⟨N-(i+1),by omega,rfl,hlt,z⟩
 ·have e:i=N:=by omega
  subst e;exact .inl ⟨hst ys H pv,fun p hp=>hq ys p H pv hp⟩
theorem fA{K:PySem.W.Frag}{a:Addr}{xs:List V}{n:Nat}{cap:List Nat}{g:TG}{tc:TT}{te:TE}{σ:St}{H0:Hp}{Q:VK}(Pv:Nat->List V->Hp->Prop)(hz:xs.length<=1000)(hn:∀i ys H,Pv i ys H->ys.length<=i)(h0:Pv 0 [] H0)(hl:∀i ys H,Pv i ys H->SqL K H a xs)(ht:∀i ys H x,xs[i]?=some x->Pv i ys H->∀Y:List V->Hp->Prop,(∀zs H4,Pv (i+1) zs H4->Y zs H4)->g x (be n cap σ) H fun σ2 H2=>tc σ2 H2 fun b H3=>if b=true then te σ2 H3 fun y H4=>Y (ys++[y]) H4 else Y ys H3)(hq:∀ys p H,Pv xs.length ys H->H p=none->Q (.ref p) (upd H p (.lst ys))):bS n cap g tc te σ (Itl K a) H0 Q:=by refine xh (N:=xs.length) Pv hz hn h0 (fun i ys H hi z=>⟨xs,xs[i],hl i ys H z,by simp[hi]⟩) (fun ys H z=>⟨xs,hl _ ys H z,Zb _⟩) (fun i ys H x H' hi z y Y hY=>?_) hq;obtain rfl:H'=H:=y.1;exact ht i ys H' x (y.2 xs (hl i ys H' z)) z Y hY
theorem E9:¬(("hands":Str)="deeds"):=by decide +kernel
def fW(n:Nat)(d:Addr):List (Str×V):=cE "deeds" (.ref d) (cE "hands" (.int (n:Int)) [])
theorem iu(n:Nat)(d:Addr):(fW n d).lookup ("hands":Str)=some (.int (n:Int)):=by unfold fW;rw[bW,HH E9,bW,HK rfl]
theorem cQ(n:Nat)(d:Addr):(fW n d).lookup ("deeds":Str)=some (.ref d):=by unfold fW;rw[bW,HK rfl]
structure StoreAt(C:Addr)(H:Hp)(p d:Addr)(n:Nat)(L:LT):Prop where
 ob:∃dx,H p=some (.ins C dx (fW n d))
 dc:H d=some (.dT (aq L))
 dr:∀x∈L,DR H x.1 x.2
 un:UN n (vals L)
 n1:1<=n
 n8:n<=8
 len:L.length<=63
structure Txt(K:PySem.W.Frag)(C:Addr):Prop where
 cl:Cls K C
 nH:NoAttr K C "hands"
 nD:NoAttr K C "deeds"
def KT(H H':Hp):Prop:=∀b o,H b=some o->(∀ps,o≠.tbl ps)->H' b=some o
theorem KT.of{H H':Hp}(s:Same H H'):KT H H':=fun b o e _=>s b o e
theorem KT.trans{H H' H2:Hp}(s:KT H H')(t:KT H' H2):KT H H2:=fun b o e n=>t b o (s b o e n) n
theorem KT.ts{H H':Hp}(s:KT H H'):TS H H':=fun a zs h=>s a _ h fun ps z=>by cases z
theorem KT.tab{q:Str}{T:Addr}{pos:Pos}{H H':Hp}(t:aK q T pos H)(s:SameT T H H'):KT H H':=fun b o e n=>s b o e fun z=>by obtain⟨ps,e1,_⟩:=t;rw[z,e1]at e;cases e;exact n ps rfl
theorem KT.lr{H H':Hp}{l:Addr}{L:LT}(s:KT H H')(x:LR H l L):LR H' l L:=⟨s _ _ x.1 (fun ps z=>by cases z),fun y hy=>(x.2 y hy).ts s.ts⟩
theorem StoreAt.kt{C:Addr}{H H':Hp}{p d:Addr}{n:Nat}{L:LT}(x:StoreAt C H p d n L)(s:KT H H'):StoreAt C H' p d n L:=by obtain⟨⟨dx,h1⟩,h2,h3,h4,h5,h6,h7⟩:=x;exact⟨⟨dx,s _ _ h1 fun ps z=>by cases z⟩,s _ _ h2 (fun ps z=>by cases z),fun y hy=>(h3 y hy).ts s.ts,h4,h5,h6,h7⟩
theorem StoreAt.same{C:Addr}{H H':Hp}{p d:Addr}{n:Nat}{L:LT}(x:StoreAt C H p d n L)(s:Same H H'):StoreAt C H' p d n L:=x.kt (.of s)
def RDY(L M:LT):Prop:=∃S:LT,S.Perm L/\((vals S).Pairwise fun d e=>¬kLt e d)/\M=bf S S.length
theorem RDY.sub{L M:LT}(h:RDY L M):∀x∈M,x∈L:=fun x hx=>by obtain⟨S,pS,_,rfl⟩:=h;exact pS.mem_iff.mp (((ce S S.length (Zb _)).trans (ZO _ _)).subset hx)
theorem RDY.len{L M:LT}(h:RDY L M):M.length<=L.length:=by obtain⟨S,pS,_,rfl⟩:=h;have:=((ce S S.length (Zb _)).trans (ZO _ _)).length_le;have e:=pS.length_eq;omega
def yF(C:Addr):Sp:=fun vs H Q _=>∃(p dx:Addr) (n:Nat),vs=[.ref p,.int (n:Int)]/\H p=some (.ins C dx [])/\1<=n/\n<=8/\∀(d:Addr) (H':Hp),H d=none->StoreAt C H' p d n []->(∀b o,H b=some o->b≠p->H' b=some o)->Q .non H'
structure Fit(n:Nat)(d:Dd):Prop where
 len:d.ns.length=n
 hd:d.h<n
 nn:∀z∈d.ns,0<=z
 own:1<=ai d.ns d.h
 wf:∀k,d.w=.off k->1<=k/\k<ai d.ns d.h
def iQ(C T:Addr):Sp:=fun vs H Q _=>∃(p d:Addr) (n:Nat) (L:LT),vs=[.ref p]/\StoreAt C H p d n L/\aK bX T (cn bV) H /\
 ∀D H' (M:LT),RDY L M->SameT T H H'->aK bX T (cn bV) H'->H' D=some (.lst (bu M))->H D=none->Q (.ref D) H'
abbrev gl:Stmt:=fQ (top 47) 0
abbrev qr:List Str:=["self","hands"]
theorem pR:FnScope qr ["self","hands"] (am gl):=⟨rfl,rfl,rfl,by decide +kernel,rfl,by decide +kernel,by decide +kernel⟩
theorem pP{f C:Addr}{fd:FuncData}(F:Fun K "__init__" "Store.__init__" gl f fd)(T:Txt K C):FnOk P w K mg base CX0 1 f fd ["self","hands"] (yF C):=by
 refine F.okQ pR (fun vs H Q E h=>?_) (fun cdv A outer s H vs Q E hr h=>?_)
 ·obtain⟨p,dx,n,rfl,_⟩:=h;rfl
 obtain⟨p,dx,n,rfl,hp,n1,n8,k⟩:=h;refine⟨_,(b_c (Bp (q_v 0) (q_v 1))
   (b_1 (Bp (q_v 0) qh))),?_⟩
 try rw[cxK]
 refine⟨_,rfl,_,rfl,p,C,dx,[],rfl,hp,T.cl,T.nH,(by show 0<1000;decide),?_⟩;intro d hd;have hd0:H d=none:=by
  cases e:H d with
  |none=>rfl
  |some o =>
   by_cases c:d=p
   ·subst c;rw[ad]at hd;cases hd
   ·rw[af c,e]at hd;cases hd
 have npd:p≠d:=aj hp hd0;refine⟨_,rfl,p,C,dx,_,rfl,(by rw[af npd,ad]),T.cl,T.nD,(by show 1<1000;decide),?_⟩;refine k d _ hd0 ⟨⟨dx,ad⟩,by rw[af npd.symm,ad];rfl,fun x hx=>(nomatch hx),⟨fun _ h=>(nomatch h),fun _ h=>(nomatch h),.nil⟩,n1,n8,ZV _⟩ fun b o e hb=>?_;rw[af hb,af (aj e hd0),af hb];exact e
theorem CI:hW "x" = true:=by decide +kernel
theorem rf:PyProof.Rows.KTD.datumAt ("put":Str) DT=some (tw ([Kd.u,.p,.t].map nm)):=by with_unfolding_all rfl
theorem BS:PyProof.Rows.KTD.datumAt ("none":Str) DT=some (tw (([]:List Kd).map nm)):=by with_unfolding_all rfl
theorem xY:PyProof.Rows.KTD.datumAt ("off":Str) DT=some (tw ([Kd.n].map nm)):=by with_unfolding_all rfl
theorem CJ{H:Hp}{v:V}{w':Wh}{hd:Int}{ns:List Int}(h:WR H v w')(hw:∀k,w'=.off k->1<=k/\k<ai ns hd.toNat):WhatR K H hd ns v true:=by
 cases w' with
 |no =>obtain⟨p,rfl,e⟩:=h;exact .is (ks:=[]) (bs:=[]) e BS (by decide) ⟨rfl,rfl,fun i k v b h _ _=>by simp at h⟩ rfl
 |off k =>
  obtain⟨p,rfl,e⟩:=h;obtain⟨k1,k2⟩:=hw k rfl;refine .is (ks:=[.n]) (bs:=[true]) e xY (by decide) ⟨rfl,rfl,fun i k' v b h1 h2 h3=>?_⟩ rfl
  match i with
  |0 =>cases h1;cases h2;cases h3;refine .nu (.int k) ?_;show(decide (1<=k)&&decide (k<ai ns hd.toNat))=true;rw[decide_eq_true k1,decide_eq_true k2];rfl
  |i+1=>simp at h1
 |put m =>
  obtain⟨p,q,rfl,e,e2⟩:=h;refine .is (ks:=[.u,.p,.t]) (bs:=[true,true,true]) e rf (by decide) ⟨rfl,rfl,fun i k v b h1 h2 h3=>?_⟩ rfl
  match i with
  |0=>cases h1;cases h2;cases h3;exact .u0
  |1 =>
   cases h1;cases h2;cases h3;refine .pl ⟨⟨_,.tup e2⟩,fun a xs ha hx=>?_⟩ ?_
   ·cases ha;rw[e2]at hx;cases hx;refine⟨by simp,fun x hx=>?_⟩;rw[Zr.mp hx];exact⟨_,.int m⟩
   ·show mt (H q)=true;rw[e2];rfl
  |2 =>cases h1;cases h2;cases h3;exact .tx (by decide +kernel) (by decide +kernel) (by rw[CI];decide +kernel)
  |i+3=>simp at h1
theorem BH{H:Hp}{a:Addr}{d:Dd}{n:Nat}(h:DR H a d)(f:Fit n d)(n8:n<=8):DeedR K H (n:Int) (.ref a) true:=by obtain⟨c,v,h1,h2,h3,h4,h5⟩:=h;exact .is h1 (Int.natCast_nonneg _) (by have:=f.hd;omega) h2 (by rw[f.len]) f.nn (by omega) (by rw[ZP];exact f.own) (CJ h3 (by rw[ZP];exact f.wf))
theorem fR{n:Nat}{L:LT}(u:UN n (vals L)){x:Addr×Dd}(hx:x∈L):bE (aq L) (nmK x.2)=some (.ref x.1):=by
 rw[ii];have:L.find? (fun y=>decide (nmK y.2=nmK x.2))=some x:=by
  have hs:(L.find? fun y=>decide (nmK y.2=nmK x.2)).isSome=true:=by rw[List.find?_isSome];exact⟨x,hx,decide_eq_true rfl⟩
  obtain⟨y,hy⟩:=Option.isSome_iff_exists.mp hs;rw[hy];have my:=List.mem_of_find?_eq_some hy;have qy:nmK y.2=nmK x.2:=Z3 (p:=nmK y.2=nmK x.2) (List.find?_some (p:=fun y:Addr×Dd=>decide (nmK y.2=nmK x.2)) hy);have nd:=u.uni;unfold vals at nd;rw[YZ]at nd;obtain⟨i,hi,rfl⟩:=ZS.mp my;obtain⟨j,hj,rfl⟩:=ZS.mp hx;rw[ZG]at nd;rcases Nat.lt_trichotomy i j with c|c|c
  ·exact absurd qy (nd i j hi hj c)
  ·subst c;rfl
  ·exact absurd qy.symm (nd j i hj hi c)
 rw[this];rfl
theorem eQ(d:Dd):SeqAt.shaped (dD d)=true:=by obtain⟨h1,h2⟩:=md (d:=d) trivial;unfold SeqAt.shaped;rw[Zx];exact⟨h1,decide_eq_true (by omega)⟩
theorem zV{C p d a:Addr}{H H2:Hp}{n:Nat}{L:LT}{e:Dd}(S:StoreAt C H p d n L)(s12:Same H H2)(hd:DR H a e)(ft:Fit n e)(ll:L.length<63)(hn:∀x∈L,nmK x.2≠nmK e)(vn:bE (aq L) (nmK e)=none):StoreAt C (upd H2 d (.dT (cW (aq L) (nmK e) (.ref a)))) p d n (L++[(a,e)]):=by
 obtain⟨⟨dx,h1⟩,h2,h3,h4,h5,h6,h7⟩:=S;rw[kZ _ vn];have tA:TS H2 (upd H2 d (.dT (aq L++[(nmK e,.ref a)]))):=mP fun zs z=>by rw[s12 _ _ h2]at z;cases z
 have npd:p≠d:=fun z=>by rw[z,h2]at h1;cases h1
 have ek:aq L++[(nmK e,V.ref a)]=aq (L++[(a,e)]):=by unfold aq;rw[ZE];rfl
 have ev:vals (L++[(a,e)])=vals L++[e]:=by unfold vals;rw[ZE];rfl
 refine⟨⟨dx,by rw[af npd];exact s12 _ _ h1⟩,by rw[ad,ek],fun x hx=>?_,?_,h5,h6,by rw[Zj];exact ll⟩
 ·rcases ZK.mp hx with hx|hx
  ·exact(h3 x hx).ts ((Same.ts s12).trans tA)
  ·rw[Zr.mp hx];exact hd.ts ((Same.ts s12).trans tA)
 ·rw[ev];refine⟨fun x hx=>?_,fun x hx=>?_,ZT.mpr ⟨h4.uni,List.pairwise_singleton _ _,fun x hx y hy=>?_⟩⟩
  ·rcases ZK.mp hx with hx|hx
   ·exact h4.len x hx
   ·rw[Zr.mp hx];exact⟨ft.len,ft.hd⟩
  ·rcases ZK.mp hx with hx|hx
   ·exact h4.own x hx
   ·rw[Zr.mp hx];have:=ft.own;omega
  ·rw[Zr.mp hy];obtain⟨z,hz,rfl⟩:=Zu.mp hx;exact hn z hz
abbrev gj:Stmt:=fQ (top 47) 1
abbrev qq:List Str:=["self","deed","name"]
theorem fw:FnScope qq ["self","deed"] (am gj):=⟨rfl,rfl,rfl,by decide +kernel,rfl,by decide +kernel,by decide +kernel⟩
theorem zZ(L:LT):(aq L).map (·.2)=bu L:=by unfold aq bu;rw[Yb];rfl
abbrev fq:Stmt:=fQ (top 47) 2
abbrev pI:List Str:=["self"]
theorem on:FnScope pI ["self"] (am fq):=⟨rfl,rfl,rfl,by decide +kernel,rfl,by decide +kernel,by decide +kernel⟩
theorem nV{f C T:Addr}{fd:FuncData}(F:Fun K "ready" "Store.ready" fq f fd)(X:Txt K C)(i7:Fn P w K mg base 5 "ready_of" ["deeds"] (oB T))(i9:mg "list" = none):FnOk P w K mg base CX0 6 f fd ["self"] (iQ C T):=by
 refine F.okQ on (fun vs H Q E h=>?_) (fun cdv A outer s H vs Q E hr h=>?_)
 ·obtain⟨p,d,n,L,rfl,_⟩:=h;rfl
 obtain⟨p,d,n,L,rfl,S,tab,q⟩:=h;obtain⟨⟨dx,h1⟩,h2,h3,h4,h5,h6,h7⟩:=id S;refine⟨_,(b_1 (au (aO i7 (hr.mono (by decide)) (q_a (og (tu rfl) i9 gC (q_a (yl (dX (q_v 0))) ah)) ah)))),?_⟩
 try rw[cxK]
 refine⟨_,rfl,p,C,dx,_,_,rfl,h1,X.cl,X.nD,cQ _ _,d,_,rfl,h2,fun v gv=>?_⟩;have sv:=ag gv (eI v (kg d));refine⟨v,d,_,rfl,ad,sv _ _ h2,fun l2 g2=>?_⟩;rw[zZ];have s2:=sv.trans (ag g2 (.lst (bu L)));refine⟨l2,L,n,rfl,⟨ad,fun x hx=>(h3 x hx).same s2⟩,h7,h6,h4,aA tab s2,fun D H' S' pS sS sT tab' eD nD=>?_⟩;exact q D H' _ ⟨S',pS,sS,rfl⟩ (fun b o e hb=>sT _ _ (s2 _ _ e) hb) tab' eD (s2.free nD)
def NmI(H:Hp)(v:V)(k:List Int):Prop:=∃b,v=.ref b/\H b=some (.tup (k.map V.int))
abbrev NsI(H:Hp)(vs:List V)(ks:List (List Int)):Prop:=Paired (NmI H) vs ks
theorem NmI.ts{H H':Hp}{v:V}{k:List Int}(x:NmI H v k)(s:TS H H'):NmI H' v k:=by obtain⟨b,h1,h2⟩:=x;exact⟨b,h1,s _ _ h2⟩
theorem NsI.ts{H H':Hp}{vs:List V}{ks:List (List Int)}(x:NsI H vs ks)(s:TS H H'):NsI H' vs ks:=Paired.mapP x fun _ _ z=>z.ts s
theorem mq{α β:Type}{R:α->β->Prop}{xs:List α}{ys:List β}(x:Paired R xs ys):∀{i:Nat} {a:α},xs[i]?=some a->∃b,ys[i]?=some b/\R a b:=by
 induction x with
 |nil=>intro i a h;simp at h
 |cons r _ ih =>
  intro i a h;cases i with
  |zero=>cases h;exact⟨_,rfl,r⟩
  |succ i=>exact ih h
theorem Be{H:Hp}{vs:List V}{ks:List (List Int)}(x:NsI H vs ks):∃as:List Addr,vs=as.map V.ref/\ks.length=as.length/\∀(i:Nat) (a:Addr) (k:List Int),as[i]?=some a->ks[i]?=some k->H a=some (.tup (k.map V.int)):=by
 induction x with
 |nil=>exact⟨[],rfl,rfl,fun i a k h=>by simp at h⟩
 |cons r _ ih =>
  obtain⟨as,e1,e2,e3⟩:=ih;obtain⟨b,rfl,hb⟩:=r;refine⟨b::as,by rw[e1];rfl,by rw[Zq,Zq,e2],fun i a k h1 h2=>?_⟩;cases i with
  |zero=>cases h1;cases h2;exact hb
  |succ i=>exact e3 i a k h1 h2
theorem vC{H:Hp}{vs:List V}{ks:List (List Int)}(x:NsI H vs ks):DtAll H (ks.map fun k=>PyData.tuple (k.map .int)) vs/\PyData.canLayAll0 (ks.map fun k=>PyData.tuple (k.map .int))=true/\PyData.depthAll (ks.map fun k=>PyData.tuple (k.map .int))<=2:=by
 induction x with
 |nil=>exact⟨by simp[DtAll],rfl,by simp[PyData.depthAll]⟩
 |@cons v k _ _ r _ ih =>
  obtain⟨b,rfl,hb⟩:=r;obtain⟨i1,i2,i3⟩:=ih;obtain⟨l1,l2⟩:=fX k;refine⟨?_,?_,?_⟩
  ·simp only[ZX,DtAll];exact⟨_,_,rfl,iY hb,i1⟩
  ·simp only[ZX,PyData.canLayAll0,i2,PyData.canLay0,l1];rfl
  ·simp only[ZX,PyData.depthAll,PyData.depth];omega
theorem xU(k:List Int)(ks:List (List Int)):((ks.map fun k=>PyData.tuple (k.map .int)).any fun d=>PyData.eqv d (.tuple (k.map .int)))=decide (k∈ks):=by
 induction ks with
 |nil=>rfl
 |cons m ks ih =>rw[ZX,List.any_cons,ih,kK,YJ,Bool.or_eq_true,YW,YW,YW,Zs,eq_comm (a:=m)]
theorem rK{H:Hp}{as:List Addr}{F:LT}{f:Dd->List Int}{pm:Array Nat}(hl:F.length=as.length)(hk:∀(i:Nat) (a:Addr) (k:List Int),as[i]?=some a->(F.map fun x=>f x.2)[i]?=some k->H a=some (.tup (k.map V.int)))(hp:POk as.length pm)(hs:LS (fun i j=>HT.lexLt ((F.map fun x=>f x.2).getD i []) ((F.map fun x=>f x.2).getD j [])) pm as.length) :
  ∃N:LT,N.Perm F/\NsI H (pm.toList.map fun i=>(as.map V.ref).getD i .non) (N.map fun x=>f x.2)/\N.Pairwise fun x y=>HT.lexLt (f y.2) (f x.2)=false:=by
 have ep:pm.toList.Perm (List.range F.length):=by have:=Array.perm_iff_toList_perm.mp hp;rw[hl];simpa using this
 have pl:∀i∈pm.toList,i<F.length:=fun i hi=>Ye.mp (ep.mem_iff.mp hi);refine⟨pm.toList.map fun i=>F.getD i (0,D0),?_,?_,?_⟩
 ·have:=ep.map fun i=>F.getD i ((0,D0):Addr×Dd);rw[fD]at this;exact this
 ·generalize pm.toList=ws at pl;induction ws with
  |nil=>exact .nil
  |cons i ws ih =>
   have hi:=pl i Yl;refine .cons ?_ (ih fun j hj=>pl j (ZA _ hj));have ha:as[i]?=some (as[i]'(by omega)):=Ze (by omega);refine⟨as[i]'(by omega),?_,?_⟩
   ·show(as.map V.ref).getD i V.non=_;rw[Zf,ZB,ha];rfl
   ·refine hk i _ _ ha ?_;show _=some (f (F.getD i (0,D0)).2);rw[ZB,Zf,Ze hi];rfl
 ·rw[YZ,ZG];intro i j hi hj hij;have hz:pm.size=as.length:=by have:=hp.size_eq;simpa using this
  rw[Zl]at hi hj;have lx:=(hs i j hij (by omega)).1;have e1:gA pm i=pm.toList[i]'(by rw[Zl];exact hi):=by rw[aI,Zf,Ze (by rw[Zl];exact hi)];rfl
  have e2:gA pm j=pm.toList[j]'(by rw[Zl];exact hj):=by rw[aI,Zf,Ze (by rw[Zl];exact hj)];rfl
  have m1:=pl _ (ZI (show i<pm.toList.length by rw[Zl];exact hi));have m2:=pl _ (ZI (show j<pm.toList.length by rw[Zl];exact hj));rw[e1,e2]at lx;generalize pm.toList[i]'(by rw[Zl];exact hi)=a at *;generalize pm.toList[j]'(by rw[Zl];exact hj)=b at *;have ga:∀k,k<F.length->((F.map fun x=>f x.2).getD k [])=f (F.getD k (0,D0)).2:=fun k hk=>by simp[hk]
  dsimp only at lx;rw[ga a m1,ga b m2]at lx;exact lx
def aQ(M:LT):List (List Int):=M.map fun x=>nmZ x.2
def aJ(M:LT)(x:Addr×Dd):Bool:=!decide (nmZ x.2∈aQ M)
def Wt(L M N:LT):Prop:=N.Perm (L.filter (aJ M))/\N.Pairwise fun x y=>HT.lexLt (nmZ y.2) (nmZ x.2)=false
theorem Wt.len{L M N:LT}(h:Wt L M N):N.length<=L.length:=by rw[h.1.length_eq];exact YS _ _
def yI(C T:Addr):Sp:=fun vs H Q _=>∃(p d:Addr) (n:Nat) (L:LT),vs=[.ref p]/\StoreAt C H p d n L/\aK bX T (cn bV) H /\
 ∀D H' (M N:LT) (ys:List V),RDY L M->Wt L M N->SameT T H H'->aK bX T (cn bV) H'->H' D=some (.lst ys)->NsI H' ys (aQ N)->H D=none->Q (.ref D) H'
theorem wg{T:Addr}{H H':Hp}{q:Str}{pos:Pos}(s:SameT T H H')(t:aK q T pos H'){D:Addr}(h:H' D=none):H D=none:=by
 cases e:H D with
 |none=>rfl
 |some o =>
  by_cases c:D=T
  ·obtain⟨ps,e1,_⟩:=t;rw[<-c,h]at e1;cases e1
  ·have:=s _ _ e c;rw[h]at this;cases this
theorem cO{α:Type}{l:List α}{i:Nat}{x:α}(h:l[i]?=some x):l.take (i+1)=l.take i++[x]:=by rw[List.take_succ,h];rfl
theorem jq{L:LT}{k:Nat}{x:V}(h:(bu L)[k]?=some x):∃y,L[k]?=some y/\y∈L/\x=.ref y.1:=by obtain⟨hk,rfl⟩:=lc h;exact⟨L[k],Ze hk,ZI hk,rfl⟩
theorem jM(n:Nat)(d:Addr){m:Str}(h1:¬m="deeds")(h2:¬m="hands"):(fW n d).lookup m=none:=by
 unfold fW;rw[bW,HH h1,bW,HH h2]
 all_goals rfl
theorem fZ(n:Nat)(d:Addr):(fW n d).lookup ("ready":Str)=none:=jM n d (by decide +kernel) (by decide +kernel)
theorem iG(n:Nat)(d:Addr):(fW n d).lookup ("waiting":Str)=none:=jM n d (by decide +kernel) (by decide +kernel)
abbrev dY:Stmt:=fQ (top 47) 3
abbrev lF:List Str:=["self","ready"]
theorem gw:FnScope lF ["self"] (am dY):=⟨rfl,rfl,rfl,by decide +kernel,rfl,by decide +kernel,by decide +kernel⟩
theorem kU{f C T:Addr}{fd:FuncData}(F:Fun K "waiting" "Store.waiting" dY f fd)(X:Txt K C)(e9:MFn P w K mg base 6 C "ready" ["self"] (iQ C T))(b9:Fn P w K mg base 1 "name_of" ["deed"] mJ)(i4:mg "sorted" = none):FnOk P w K mg base CX0 7 f fd ["self"] (yI C T):=by
 refine F.okQ gw (fun vs H Q E h=>?_) (fun cdv A outer s H vs Q E hr h=>?_)
 ·obtain⟨p,d,n,L,rfl,_⟩:=h;rfl
 obtain⟨p,d,n,L,rfl,S,tab,q⟩:=h;obtain⟨⟨dx,h1⟩,h2,h3,h4,h5,h6,h7⟩:=id S;refine⟨_,(b_c (aH (i:=1) gw.nd (bY (own:=["deed"]) (⟨rfl,by decide +kernel,by decide +kernel,rfl,trivial⟩:CompOk _ _ [] []) rfl (dR (cS e9 (hr.mono (by decide)) (q_v 0))) (fun _ _ _ _=>bj (i:=0) (show (["deed"]:List Str).Nodup by decide +kernel)) (bz (by decide)) (fun _ _ _ _=>fh) (fun _ _ _ _=>(aO b9 (hr.mono (by decide)) (q_a (q_v 0) ah)))))
   (b_1 (au (q_B tz i4 PyProof.Rows.boot_sorted (q_a (rm (bY (own:=["name"]) (⟨rfl,by decide +kernel,by decide +kernel,rfl,⟨rfl,rfl,trivial⟩⟩:CompOk _ _ [1] ["ready"]) rfl (vh (dX (q_v 0))) (fun _ _ _ _=>bj (i:=0) (show (["name","ready"]:List Str).Nodup by decide +kernel)) (bz (by decide)) (fun _ _ _ _=>(zW (aY (ph (K:=K) (k:=1) rfl (hr.mono (by decide))) (q_v 0) (q_v 1)))) (fun _ _ _ _=>(q_v 0)))) ah))))),?_⟩
 try rw[cxK]
 refine aC fun R0 hR0=>?_;refine⟨_,rfl,p,dx,_,rfl,h1,fZ _ _,p,d,n,L,rfl,S,tab,fun D H1 M rd sT tab1 eD nD=>?_⟩;have kt1:=KT.tab tab sT;have S1:=S.kt kt1;have lM:=rd.len;refine⟨D,rfl,⟨_,SqL.of eD⟩,?_⟩;refine fA (fun i zs H'=>Same H1 H'/\zs.length<=i/\NsI H' zs (aQ (M.take i))) (by rw[bC];omega) (fun _ _ _ z=>z.2.1) ⟨Same.refl _,Zb _,.nil⟩ (fun i zs H' z=>SqL.of (z.1 _ _ eD)) ?_ ?_
 ·rintro i zs H' v hv ⟨sm,lz,pz⟩ Y hY;obtain⟨y,hy,my,rfl⟩:=jq hv;refine⟨_,rfl,y.1,y.2,rfl,(S1.dr y (rd.sub y my)).same sm,fun t H2 s2 et=>hY _ _ ⟨sm.trans s2,by rw[Zj];exact Y5 lz,?_⟩⟩;rw[cO hy];unfold aQ;rw[ZE];exact Paired.snoc (pz.ts (Same.ts s2)) ⟨t,rfl,et⟩
 rintro zs rl H2 ⟨sm,lz,pz⟩ grl;rw[bC,YE]at pz;rw[bC]at lz;have wr:=ag grl (.lst zs);have erl:upd H2 rl (.lst zs) rl=some (.lst zs):=ad;have S3:=(S1.same sm).same wr;have pz3:=pz.ts (Same.ts wr);have sT3:SameT T H (upd H2 rl (.lst zs)):=fun b o e hb=>wr _ _ (sm _ _ (sT _ _ e hb));have tab3:=aA (aA tab1 sm) wr;generalize upd H2 rl (.lst zs)=H3 at erl S3 pz3 sT3 tab3 ⊢;refine hR0 _ _ ?_;clear hR0 R0 pz wr sm tab1 S1 kt1;obtain⟨⟨dx3,g1⟩,g2,g3,_⟩:=id S3;refine⟨_,rfl,p,C,dx3,_,_,rfl,g1,X.cl,X.nD,cQ _ _,d,aq L,rfl,g2,fun o=>?_⟩;have nrd:rl≠d:=fun z=>by rw[z,g2]at erl;cases erl
 have tF:TS H3 (upd H3 d (.frz o (.dT (aq L)))):=fun b zs e=>by rw[af fun z=>by rw[z,g2]at e;cases e];exact e
 have kF:∀b u,H3 b=some u->b≠d->upd H3 d (.frz o (.dT (aq L))) b=some u:=fun b u e hb=>by rw[af hb];exact e
 have eF:upd H3 d (.frz o (.dT (aq L))) d=some (.frz o (.dT (aq L))):=ad;have er4:=kF _ _ erl nrd;have pz4:=pz3.ts tF;obtain⟨dA,dB,dC⟩:=vC pz4;have lk:(aq L).length=L.length:=by unfold aq;rw[Zd]
 generalize hHF:upd H3 d (.frz o (.dT (aq L)))=HF at tF kF eF er4 pz4 dA ⊢;refine iX (a:=d) (o:=o) (kvs:=aq L) (fun i ys H'=>H'=HF/\ys.length<=i/\NsI HF ys (aQ ((L.take i).filter (aJ M)))) (by omega) (fun _ _ _ z=>z.2.1) ⟨rfl,Zb _,.nil⟩ (fun i ys H' z=>by rw[z.1];exact eF) ?_ ?_
 ·rintro i ys H' kv b hkv hb ⟨rfl,ly,py⟩ Y hY;unfold aq at hkv;rw[ZB]at hkv;obtain⟨y,hy,rfl⟩:=YK.mp hkv;have eb:H' b=some (.tup ((nmZ y.2).map V.int)):=hb;refine⟨_,rfl,_,rfl,rl,_,_,_,rfl,SqL.of er4,iY eb,dA,eW _,dB,_,rfl,?_⟩;rw[xU];have tk:aQ ((L.take (i+1)).filter (aJ M))=aQ ((L.take i).filter (aJ M))++if aJ M y=true then[nmZ y.2]else[]:=by
   rw[cO hy,x5];unfold aQ;rw[ZE];congr 1;by_cases c:aJ M y=true
   ·rw[HK c,List.filter_cons_of_pos c];rfl
   ·rw[HH c,List.filter_cons_of_neg c];rfl
  show if(!decide (nmZ y.2∈aQ M))=true then _ else _
  cases c:aJ M y with
  |true =>have c':(!decide (nmZ y.2∈aQ M))=true:=c;rw[c'];refine aP ⟨_,rfl,hY _ _ ⟨rfl,by rw[Zj];exact Y5 ly,?_⟩⟩;rw[tk,c,HK rfl];exact Paired.snoc py ⟨b,rfl,eb⟩
  |false =>have c':(!decide (nmZ y.2∈aQ M))=false:=c;rw[c'];refine aF (hY _ _ ⟨rfl,Yh ly,?_⟩);rw[tk,c,HH (by decide),Z6];exact py
 rintro ys l5 H' ⟨rfl,ly,py⟩ g5;rw[lk,YE]at py;rw[lk]at ly;have w5:=ag g5 (.lst ys);have e5:upd H' l5 (.lst ys) l5=some (.lst ys):=ad;have eF5:=w5 _ _ eF;have n5d:l5≠d:=fun z=>by rw[z,eF]at g5;cases g5
 refine⟨d,o,.dT (aq L),eF5,Loose.dt h2,?_⟩;have t5:TS H' (upd (upd H' l5 (.lst ys)) d (.dT (aq L))):=fun b zs e=>by rw[af fun z=>by rw[z,eF]at e;cases e];exact w5 _ _ e
 have k5:Same H3 (upd (upd H' l5 (.lst ys)) d (.dT (aq L))):=fun b u e=>by
  by_cases c:b=d
  ·rw[c,ad,<-g2,<-c,e]
  ·rw[af c];exact w5 _ _ (kF _ _ e c)
 have e6:upd (upd H' l5 (.lst ys)) d (.dT (aq L)) l5=some (.lst ys):=by rw[af n5d];exact e5
 have py6:=py.ts t5;generalize upd (upd H' l5 (.lst ys)) d (.dT (aq L))=H6 at t5 k5 e6 py6 ⊢;obtain⟨as,rfl,la,ha⟩:=Be py6;have lf:(L.filter (aJ M)).length=as.length:=by rw[<-la];unfold aQ;rw[Zd]
 have lf2:=YS (aJ M) L;refine⟨l5,as,aQ (L.filter (aJ M)),rfl,e6,by omega,la,fun k hk=>?_,ha,fun pm D2 hp hs gD2=>?_⟩
 ·obtain⟨x,_,rfl⟩:=Zu.mp hk;exact fun z=>by cases z
 obtain⟨N,pN,nN,sN⟩:=rK lf ha hp hs;have wD:=ag gD2 (.lst (pm.toList.map fun i=>(as.map V.ref).getD i .non));have s7:Same H3 (upd H6 D2 (.lst (pm.toList.map fun i=>(as.map V.ref).getD i .non))):=k5.trans wD;refine q D2 _ M N _ rd ⟨pN,sN⟩ (fun b o e hb=>s7 _ _ (sT3 _ _ e hb)) (aA tab3 s7) ad (NsI.ts nN (Same.ts wD)) ?_;exact wg sT3 tab3 (k5.free gD2)
def hU(ns:List Int)(h:Nat):List Int:=ns.take h++[ai ns h+1]++ns.drop (h+1)
def uq:Sp:=fun vs H Q _=>∃(h:Int),vs=[.int h]/\1<=h/\h<=8/\∀p H',Same H H'->H' p=some (.tup ((List.replicate h.toNat (0:Int)).map V.int))->Q (.ref p) H'
def rU:Sp:=fun vs H Q _=>∃(a:Addr) (ns:List Int) (h:Int),vs=[.ref a,.int h]/\H a=some (.tup (ns.map V.int))/\0<=h/\h<ns.length/\ns.length<=8/\∀p H',Same H H'->H' p=some (.tup ((hU ns h.toNat).map V.int))->Q (.ref p) H'
abbrev fv:Stmt:=top 5
abbrev pK:List Str:=["hands"]
theorem oy:FnScope pK ["hands"] (am fv):=⟨rfl,rfl,rfl,by decide +kernel,rfl,by decide +kernel,by decide +kernel⟩
theorem nZ{f:Addr}{fd:FuncData}(F:Fun K "start_clock" "start_clock" fv f fd):FnOk P w K mg base CX0 1 f fd ["hands"] uq:=by
 refine F.okQ oy (fun vs H Q E h=>?_) (fun cdv A outer s H vs Q E hr h=>?_)
 ·obtain⟨h,rfl,_⟩:=h;rfl
 obtain⟨h,rfl,h1,h8,q⟩:=h;refine⟨_,(b_1 (au (bt Dy (aG (q_a al ah)) (q_v 0)))),?_⟩
 try rw[cxK]
 refine⟨sz rfl,fun p g=>?_⟩;refine⟨_,rfl,p,h,[.int 0],rfl,rfl,ad,h1,by omega,(by simp),(cK (by rw[Zy];omega)),fun p2 H2 s2 e2=>?_⟩;refine q p2 H2 ((ag g _).trans s2) ?_;rw[e2,List.flatten_replicate_singleton,List.map_replicate]
abbrev ld:Stmt:=top 7
abbrev zj:List Str:=["clock","hand"]
theorem yu:FnScope zj ["clock","hand"] (am ld):=⟨rfl,rfl,rfl,by decide +kernel,rfl,by decide +kernel,by decide +kernel⟩
theorem xZ{f:Addr}{fd:FuncData}(F:Fun K "raised" "raised" ld f fd):FnOk P w K mg base CX0 1 f fd ["clock","hand"] rU:=by
 refine F.okQ yu (fun vs H Q E h=>?_) (fun cdv A outer s H vs Q E hr h=>?_)
 ·obtain⟨a,ns,h,rfl,_⟩:=h;rfl
 obtain⟨a,ns,h,rfl,hA,h0,h1,h8,q⟩:=h;have hk:h.toNat<ns.length:=by omega
 have c1:cV (ns.map V.int) none (some h)=(ns.take h.toNat).map V.int:=by unfold cV;rw[Zd,HT.sIx_none,mC h0,Nat.min_eq_left (by omega),List.drop_zero,Nat.sub_zero,List.map_take]
 have c2:cV (ns.map V.int) (some (h+1)) none=(ns.drop (h.toNat+1)).map V.int:=by unfold cV;rw[Zd,HT.sIx_none,mC (by omega),Nat.min_eq_left (by omega),<-List.map_drop,<-List.map_take];rw[show(h+1).toNat=h.toNat+1 by omega,Yd (by rw[Yo];exact Zb _)]
 refine⟨_,(b_1 (au (bt qX (bt qX (rk ma (q_v 0) rh (rj (q_v 1))) (aG (q_a (bt jV (ax aw (q_v 0) (q_v 1)) al) ah))) (rk ma (q_v 0) (rj (bt jV (q_v 1) al)) rh)))),?_⟩
 try rw[cxK]
 refine⟨_,rfl,_,rfl,_,rfl,a,_,rfl,hA,fun p1 H1 s1 e1=>?_⟩;rw[c1]at e1;refine⟨_,rfl,_,rfl,a,_,_,_,rfl,rfl,SqT.of (s1 _ _ hA),cF h0 h1,_,_,rfl,rfl,sz rfl,fun p2 g2=>?_⟩;have s2:=ag g2 (.tup [.int (ai ns h.toNat+1)]);refine⟨p1,p2,_,_,rfl,rfl,s2 _ _ e1,ad,(cK (by rw[Zd,Z0,Zy];omega)),fun p3 H3 s3 e3=>?_⟩;refine⟨_,rfl,_,rfl,_,_,rfl,rfl,_,rfl,a,_,rfl,s3 _ _ (s2 _ _ (s1 _ _ hA)),fun p4 H4 s4 e4=>?_⟩;rw[c2]at e4;refine⟨p3,p4,_,_,rfl,rfl,s4 _ _ e3,e4,(cK (by simp only[Zj,Zd,Z0,Yo,Zy];omega)),fun p5 H5 s5 e5=>?_⟩;refine q p5 H5 (s1.trans (s2.trans (s3.trans (s4.trans s5)))) ?_;rw[e5];unfold hU;rw[ZE,ZE];rfl
def fg(ds:List Dd)(g:Nat):Int:=((ds.countP fun d=>decide (d.h=g):Nat):Int)
def dj(n:Nat)(ds:List Dd):List Int:=(List.range n).map (fg ds)
theorem im{n g:Nat}{ds:List Dd}(h:g<n):ai (dj n ds) g=fg ds g:=by unfold ai dj;rw[ZB,List.getElem?_range h];rfl
theorem dH(n:Nat)(ds:List Dd):(dj n ds).length=n:=by unfold dj;rw[Zd,YI]
theorem vZ{ns:List Int}{h:Nat}(hh:h<ns.length):hU ns h=ns.set h (ai ns h+1):=by unfold hU;rw[List.set_eq_take_append_cons_drop,HK hh,ZC];rfl
theorem C6{n:Nat}{ds:List Dd}{d:Dd}(h:d.h<n):hU (dj n ds) d.h=dj n (ds++[d]):=by
 have hl:d.h<(dj n ds).length:=by rw[dH];exact h
 rw[vZ hl];refine kN (by rw[List.length_set,dH,dH]) fun i hi=>?_;rw[List.length_set,dH]at hi;rw[qD hl,im h,im hi,im hi];unfold fg;rw[List.countP_append,Int.natCast_add];by_cases c:i=d.h
 ·rw[HK c,List.countP_cons_of_pos (by rw[c];exact decide_eq_true rfl),c];rfl
 ·rw[HH c,List.countP_cons_of_neg (by simpa using fun z=>c z.symm)];exact(Int.add_zero _).symm
def rM(C T:Addr):Sp:=fun vs H Q _=>∃(p d:Addr) (n:Nat) (L:LT),vs=[.ref p]/\StoreAt C H p d n L/\aK bX T (cn bV) H /\
 ∀c H' (M:LT),RDY L M->SameT T H H'->aK bX T (cn bV) H'->H' c=some (.tup ((dj n (vals M)).map V.int))->Q (.ref c) H'
theorem BF(n:Nat):dj n []=List.replicate n 0:=by refine kN (by rw[dH,List.length_replicate]) fun i hi=>?_;rw[dH]at hi;rw[im hi,zG];rfl
abbrev fm:Stmt:=fQ (top 47) 4
abbrev pH:List Str:=["self","clock","deed"]
theorem cU:FnScope pH ["self"] (am fm):=⟨rfl,rfl,rfl,by decide +kernel,rfl,by decide +kernel,by decide +kernel⟩
theorem nS{f C T:Addr}{fd:FuncData}(F:Fun K "clock" "Store.clock" fm f fd)(X:Txt K C)(e9:MFn P w K mg base 6 C "ready" ["self"] (iQ C T))(pi:Fn P w K mg base 1 "start_clock" ["hands"] uq)(GV:Fn P w K mg base 1 "raised" ["clock","hand"] rU):FnOk P w K mg base CX0 7 f fd ["self"] (rM C T):=by
 refine F.okQ cU (fun vs H Q E h=>?_) (fun cdv A outer s H vs Q E hr h=>?_)
 ·obtain⟨p,d,n,L,rfl,_⟩:=h;rfl
 obtain⟨p,d,n,L,rfl,S,tab,q⟩:=h;obtain⟨⟨dx,h1⟩,h2,h3,h4,h5,h6,h7⟩:=id S;refine⟨_,(b_c (aH (i:=1) cU.nd (aO pi (hr.mono (by decide)) (q_a (dX (q_v 0)) ah)))
   (b_c (mE PassesOwn.never rfl (dR (cS e9 (hr.mono (by decide)) (q_v 0))) (bj (i:=2) cU.nd) (b_1 (aH (i:=1) cU.nd (aO GV (hr.mono (by decide)) (q_a (q_v 1) (q_a (ax aw (q_v 2) al) ah))))))
   (b_1 (au (q_v 1))))),?_⟩
 try rw[cxK]
 refine aC fun R0 hR0=>?_;refine⟨_,rfl,p,C,dx,_,_,rfl,h1,X.cl,X.nH,iu _ _,(n:Int),rfl,by omega,by omega,fun c0 H0 s0 e0=>hR0 _ _ ?_⟩;clear hR0 R0;rw[ZP,<-BF]at e0;refine aC fun R0 hR0=>?_;refine⟨_,rfl,p,dx,_,rfl,s0 _ _ h1,fZ _ _,p,d,n,L,rfl,S.same s0,aA tab s0,fun D H1 M rd sT tab1 eD nD=>?_⟩;have kt1:=KT.tab (aA tab s0) sT;have S1:=(S.same s0).kt kt1;have lM:=rd.len;have e1:H1 c0=some (.tup ((dj n (vals [])).map V.int)):=kt1.ts _ _ e0;refine⟨D,rfl,⟨_,SqL.of eD⟩,?_⟩;refine jc (K:=K) (a:=D) (xs:=bu M) (fun i σ H'=>Same H1 H'/\∃(c:Addr) (o2:Option V),H' c=some (.tup ((dj n (vals (M.take i))).map V.int))/\σ=[some (.ref p),some (.ref c),o2]) ⟨Same.refl _,c0,none,e1,rfl⟩ (fun i σ H' _ z=>SqL.of (z.1 _ _ eD)) ?_ ?_
 ·rintro i v σ H' hv ⟨sm,c,o2,ec,rfl⟩ DL hDL;obtain⟨y,hy,my,rfl⟩:=jq hv;obtain⟨cl,wv,d1,d2,d3,d4,d5⟩:=(S1.dr y (rd.sub y my)).same sm;have hy2:y.2∈vals L:=Zu.mpr ⟨y,rd.sub y my,rfl⟩;have lh:=(h4.len _ hy2)
  refine⟨_,rfl,vix rfl (SqT.of d1) at0 ⟨c,_,(y.2.h:Int),rfl,ec,by omega,by rw[dH];omega,by rw[dH];exact h6,fun c2 H2 s2 e2=>hDL _ _ ⟨sm.trans s2,c2,_,?_,rfl⟩⟩⟩;rw[e2,ZP,C6 (by omega),cO hy];unfold vals;rw[ZE];rfl
 rintro σ H' ⟨sm,c,o2,ec,rfl⟩;refine hR0 _ _ ?_;rw[bC,YE]at ec;exact⟨_,rfl,q c H' M rd (fun b o e hb=>sm _ _ (sT _ _ (s0 _ _ e) hb)) (aA tab1 sm) ec⟩
theorem qd{d e:Dd}:nmZ d=nmZ e↔nmK d=nmK e:=by
 unfold nmZ nmK;constructor
 ·intro h;injection h with h1 h2;injection h2 with h2 _;rw[h1,h2]
 ·intro h;injection h with h1 h2;injection h2 with h2 _;injection h1 with h1;injection h2 with h2;rw[h1,h2]
def inB(S:LT)(x:Addr×Dd):Bool:=decide (nmZ x.2∈aQ S)
theorem rc(S:LT)(x:Addr×Dd):aJ S x=!inB S x:=rfl
theorem yp{n:Nat}{L M:LT}(u:UN n (vals L))(rd:RDY L M):UN n (vals M)/\Ch n (vals M)/\Sat n (vals L) (vals M)/\(vals M).Pairwise kLt:=by obtain⟨S,pS,hs,rfl⟩:=rd;have uS:UN n (vals S):=u.perm (pS.symm.map Prod.snd);have subM:=(ce S S.length (Zb _)).trans (ZO _ _);have uM:=uS.sub (dz subM);have cM:=mY uS S.length (Zb _);refine⟨uM,cM,fun d hd h=>zq uS hs d ((pS.map Prod.snd).mem_iff.mpr hd) h,yK (hs.sublist (dz subM)) (C5 cM uM)⟩
theorem E6{v w:Wh}(h:PyData.eqv (wD v) (wD w)=true):v=w:=by
 have n1:(("none":Str)=="off")=false:=by decide +kernel
 have n2:(("off":Str)=="none")=false:=by decide +kernel
 cases v<;>cases w<;>simp[wD,PyData.eqv,PyData.eqvAll]at h
 ·rfl
 ·rw[h]
 ·rw[h]
theorem xq(a b c x y z:PyData):PyData.eqv (.tuple [a,b,c]) (.tuple [x,y,z])=(PyData.eqv a x&&(PyData.eqv b y&&(PyData.eqv c z&&true))):=by simp[PyData.eqv,PyData.eqvAll]
theorem uW{d e:Dd}(h:PyData.eqv (dD d) (dD e)=true):d=e:=by
 unfold dD at h;rw[xq,Zx,Zx,Zx,kK]at h;obtain⟨h1,h2,h3,_⟩:=h;have g1:(d.h:Int)=(e.h:Int):=by simpa[PyData.eqv]using h1
 have g2:=Z3 h2;have g3:=E6 h3;obtain⟨dh,dn,dw⟩:=d;obtain⟨eh,en,ew⟩:=e;have:dh=eh:=Int.ofNat_inj.mp g1;subst this;cases g2;cases g3;rfl
theorem C9{d e:Dd}(h:d≠e):PyData.eqv (dD d) (dD e)=false:=by
 cases c:PyData.eqv (dD d) (dD e)with
 |false=>rfl
 |true=>exact absurd (uW c) h
def EB(cN:Addr):Sp:=fun vs H Q _=>∃(e t:Addr) (v:V),vs=[.ref e,v]/\H e=some (exN e cN t none)/\∀d,H d=none->Q .non (upd (upd H d (.xd [("name",v)])) e (exN e cN t (some d)))
abbrev gQ:Stmt:=fQ (top 16) 0
abbrev sg:List Str:=["self","name"]
theorem rG:FnScope sg ["self","name"] (am gQ):=⟨rfl,rfl,rfl,by decide +kernel,rfl,by decide +kernel,by decide +kernel⟩
theorem qY{f cN:Addr}{fd:FuncData}(F:Fun K "__init__" "Twin.__init__" gQ f fd)(S:ExS K cN)(n:NoAttr K cN "name"):FnOk P w K mg base CX0 1 f fd ["self","name"] (EB cN):=by
 refine F.okQ rG (fun vs H Q E h=>?_) (fun cdv A outer s H vs Q E hr h=>?_)
 ·obtain⟨e,t,v,rfl,_⟩:=h;rfl
 obtain⟨e,t,v,rfl,he,q⟩:=h;refine⟨_,(b_1 (Ex (q_v 0) (q_v 1))),?_⟩
 try rw[cxK]
 exact⟨_,rfl,_,rfl,e,cN,t,rfl,he,S,n,q⟩
theorem zr{H1:Hp}{ea t d cN:Addr}{v:V}(h1:H1 ea=none)(hd:upd H1 ea (exN ea cN t none) d=none) :
  Same H1 (del (upd (upd (upd H1 ea (exN ea cN t none)) d (.xd [("name",v)])) ea (exN ea cN t (some d))) ea)/\del (upd (upd (upd H1 ea (exN ea cN t none)) d (.xd [("name",v)])) ea (exN ea cN t (some d))) ea d=some (.xd [("name",v)]):=by
 have nde:d≠ea:=fun z=>by rw[z,ad]at hd;cases hd
 refine⟨fun b o e=>?_,?_⟩
 ·have hb:b≠ea:=aj e h1;have hbd:b≠d:=fun z=>by rw[<-z,af hb,e]at hd;cases hd
  rw[dQ hb,af hb,af hbd,af hb];exact e
 ·rw[dQ nde,af nde,ad]
def hZ(K:PySem.W.Frag)(C cT cD:Addr):Sp:=fun vs H Q E=>(∃ (p d a:Addr) (n:Nat) (L:LT) (e:Dd),vs=[.ref p,.ref a]/\StoreAt C H p d n L/\DR H a e/\Fit n e /\
 ((L.length<63/\(∀ x∈L,nmK x.2≠nmK e)/\∀ H',SameT d H H'->StoreAt C H' p d n (L++[(a,e)])->Q (.bl true) H')\/((∃ x∈L,x.2=e)/\∀ H',Same H H'->Q (.bl false) H')\/((∃ x∈L,nmK x.2=nmK e/\x.2≠e)/\∀ H' t dd,Same H H'->H' t=some (.tup ((nmZ e).map V.int))->H' dd=some (.xd [("name",.ref t)])->E (.ref cT) (some dd) H'))) \/
 ∃(p d:Addr) (v:V) (n:Nat) (L:LT),vs=[.ref p,v]/\StoreAt C H p d n L/\DeedR K H (n:Int) v false/\∀H',Same H H'->E (.ref cD) none H'
theorem nU{f C cT cD:Addr}{fd:FuncData}{bm:List Value}(F:Fun K "hear" "Store.hear" gj f fd)(T:Txt K C)(Gi:Fn P w K mg base 7 "is_deed" ["thing","hands"] (yE K))(b9:Fn P w K mg base 1 "name_of" ["deed"] mJ)(GS:ExI P w K mg base 1 cT bm ["self","name"] (EB cT))(j0:mg "Twin" = some (.ref cT))(x_NoDeed:ExCls K cD)(d7:mg "NoDeed" = some (.ref cD)):FnOk P w K mg base (CXr P w) 8 f fd ["self","deed"] (hZ K C cT cD):=by
 refine F.okX fw (fun vs H Q E h=>?_) (fun cdv A outer s H vs Q E hr h=>?_)
 ·rcases h with⟨p,d,a,n,L,e,rfl,_⟩|⟨p,d,v,n,L,rfl,_⟩<;>rfl
 rcases h with h|h
 rotate_left
 ·obtain⟨p,d,v,n,L,rfl,S,hd,q⟩:=h;obtain⟨⟨dx,h1⟩,h2,h3,h4,h5,h6,h7⟩:=id S;refine⟨_,(b_c (bo (cw (bU (aO Gi (hr.mono (by decide)) (q_a (q_v 1) (q_a (dX (q_v 0)) ah))))) (b_1 (uf (jp fF) rfl x_NoDeed d7 (q_a aR ah))) b_0)
   (b_c (aH (i:=2) fw.nd (aO b9 (hr.mono (by decide)) (q_a (q_v 1) ah)))
   (b_c (bo (rW hr.units (q_v 2) (dX (q_v 0))) (b_c (mD hr.units (dX (q_v 0)) (q_v 2) (q_v 1))
   (b_1 (au cJ))) b_0)
   (b_c (bo (aY (ml hr.units) (jo hr.units (dX (q_v 0)) (q_v 2)) (q_v 1)) (b_1 (rB fF rfl GS (hr.mono (by decide)) j0 (q_a (q_v 2) ah))) b_0)
   (b_1 (au cJ)))))),?_⟩
  try rw[cxK]
  refine⟨_,rfl,_,rfl,p,C,dx,_,_,rfl,h1,T.cl,T.nH,iu _ _,_,false,(n:Int),rfl,hd,fun H1 s1=>?_⟩;exact⟨_,rfl,aP ⟨sz rfl,q H1 s1⟩⟩
 obtain⟨p,d,a,n,L,e,rfl,S,hd,ft,q⟩:=h;obtain⟨⟨dx,h1⟩,h2,h3,h4,h5,h6,h7⟩:=id S;refine⟨_,(b_c (bo (cw (bU (aO Gi (hr.mono (by decide)) (q_a (q_v 1) (q_a (dX (q_v 0)) ah))))) (b_1 (uf (jp fF) rfl x_NoDeed d7 (q_a aR ah))) b_0)
   (b_c (aH (i:=2) fw.nd (aO b9 (hr.mono (by decide)) (q_a (q_v 1) ah)))
   (b_c (bo (rW hr.units (q_v 2) (dX (q_v 0))) (b_c (mD hr.units (dX (q_v 0)) (q_v 2) (q_v 1))
   (b_1 (au cJ))) b_0)
   (b_c (bo (aY (ml hr.units) (jo hr.units (dX (q_v 0)) (q_v 2)) (q_v 1)) (b_1 (rB fF rfl GS (hr.mono (by decide)) j0 (q_a (q_v 2) ah))) b_0)
   (b_1 (au cJ)))))),?_⟩
 try rw[cxK]
 refine⟨_,rfl,_,rfl,p,C,dx,_,_,rfl,h1,T.cl,T.nH,iu _ _,_,true,(n:Int),rfl,BH hd ft h6,fun H1 s1=>?_⟩;refine⟨_,rfl,?_⟩;refine⟨_,rfl,a,e,rfl,hd.same s1,fun t H2 s2 et=>?_⟩;have s12:=s1.trans s2;refine⟨_,rfl,_,rfl,p,C,dx,_,_,rfl,s12 _ _ h1,T.cl,T.nD,cQ _ _,d,_,rfl,.inr ⟨_,nmK e,t,.inl (s12 _ _ h2),rfl,et,rfl⟩,_,rfl,?_⟩;rcases q with⟨ll,hn,q⟩|⟨⟨x,hx,rfl⟩,q⟩|⟨⟨x,hx,hn,ne⟩,q⟩
 ·have vn:bE (aq L) (nmK e)=none:=by
   rw[ii];have:L.find? (fun x=>decide (nmK x.2=nmK e))=none:=by rw[List.find?_eq_none];intro y hy;simpa using hn y hy
   rw[this];rfl
  rw[vn];refine aP ?_;have lk:(aq L).length<=63:=by unfold aq;rw[Zd];exact h7
  refine⟨_,rfl,_,rfl,p,C,dx,_,_,rfl,s12 _ _ h1,T.cl,T.nD,cQ _ _,_,rfl,d,_,rfl,.inr ⟨_,nmK e,t,s12 _ _ h2,rfl,et,x4 lk (by rw[PySem.sizeLine_eq];decide),rfl⟩,?_⟩;exact q _ (fun b o eb hb=>by rw[af hb];exact s12 _ _ eb) (zV S s12 hd ft ll hn vn)
 ·rw[fR h4 hx];refine aF ?_;have hx12:=(h3 x hx).same s12;have hd12:=hd.same s12;refine⟨_,rfl,p,C,dx,_,_,rfl,s12 _ _ h1,T.cl,T.nD,cQ _ _,_,rfl,d,.ref x.1,rfl,.inr ⟨_,nmK x.2,t,.inl (s12 _ _ h2),rfl,et,(fR h4 hx).symm⟩,_,rfl,_,_,hx12.dt,hd12.dt,eQ _,eQ _,_,rfl,?_⟩;rw[Y4 _ (md (d:=x.2) trivial).1];exact aF (q _ s12)
 ·have vx:bE (aq L) (nmK e)=some (.ref x.1):=by rw[<-hn];exact fR h4 hx
  rw[vx];refine aF ?_;have hx12:=(h3 x hx).same s12;have hd12:=hd.same s12;refine⟨_,rfl,p,C,dx,_,_,rfl,s12 _ _ h1,T.cl,T.nD,cQ _ _,_,rfl,d,.ref x.1,rfl,.inr ⟨_,nmK e,t,.inl (s12 _ _ h2),rfl,et,vx.symm⟩,_,rfl,_,_,hx12.dt,hd12.dt,eQ _,eQ _,_,rfl,?_⟩;rw[C9 ne];refine aP ?_;refine⟨_,rfl,sz rfl,fun ea tt' e1 e2 nt=>⟨ea,tt',_,rfl,ad,fun dd hdd=>⟨rfl,some dd,ad,?_⟩⟩⟩;obtain⟨a1,a2⟩:=zr (v:=V.ref t) e1 hdd;exact q _ t dd (s12.trans a1) (a1 _ _ et) a2
theorem nQ(n:Nat)(d:Addr):(fW n d).lookup ("hear":Str)=none:=jM n d (by decide +kernel) (by decide +kernel)
theorem Ae(n:Nat)(d:Addr):(fW n d).lookup ("clock":Str)=none:=jM n d (by decide +kernel) (by decide +kernel)
inductive Oc
 |tb (b:Bool)
 |tw (k:List Int)
 |nd
def OcAt(H:Hp)(t:Addr):Oc->Prop
 |.tb b=>H t=some (.tup [.str "told",.bl b])
 |.tw k=>∃q,H t=some (.tup [.str "Twin",.ref q])/\H q=some (.tup (k.map V.int))
 |.nd=>H t=some (.tup [.str "NoDeed"])
theorem OcAt.same{H H':Hp}{t:Addr}{o:Oc}(x:OcAt H t o)(s:Same H H'):OcAt H' t o:=by
 cases o with
 |tb b=>exact s _ _ x
 |tw k =>obtain⟨q,h1,h2⟩:=x;exact⟨q,s _ _ h1,s _ _ h2⟩
 |nd=>exact s _ _ x
theorem DeedR.same{H H':Hp}{h:Int}{v:V}{b:Bool}(r:DeedR K H h v b)(s:Same H H'):DeedR K H' h v b:=by
 cases r with
 |flat ty hT=>exact .flat (bL s ty) (by rw[qN ty s];exact hT)
 |len e hl=>exact .len (s _ _ e) hl
 |hand e ty hx=>exact .hand (s _ _ e) (bL s ty) hx
 |clock e i0 i1 ay hc=>exact .clock (s _ _ e) i0 i1 (ay.same s) (by obtain⟨⟨n,t⟩,_⟩:=ay;rw[sj t s];exact hc)
 |zero e i0 i1 ec hl hn h8 h0=>exact .zero (s _ _ e) i0 i1 (s _ _ ec) hl hn h8 h0
 |is e i0 i1 ec hl hn h8 h1 w=>exact .is (s _ _ e) i0 i1 (s _ _ ec) hl hn h8 h1 (w.same s)
def Hd(K:PySem.W.Frag)(H:Hp)(n:Nat)(v:V):Option (Addr×Dd)->Prop
 |some x=>v=.ref x.1/\DR H x.1 x.2/\Fit n x.2
 |none=>DeedR K H (n:Int) v false
def eqD(L:LT)(e:Dd):Bool:=((vals L).map dD).any fun d=>PyData.eqv d (dD e)
theorem eG{L:LT}{e:Dd}:eqD L e=true↔e∈vals L:=by
 unfold eqD;rw[List.any_eq_true];constructor
 ·rintro⟨z,hz,h⟩;obtain⟨d,hd,rfl⟩:=Zu.mp hz;rw[<-uW h];exact hd
 ·intro h;exact⟨_,Zu.mpr ⟨e,h,rfl⟩,Y4 _ (md (d:=e) trivial).1⟩
def bJ(L:LT):Option (Addr×Dd)->Oc
 |none=>.nd
 |some x=>if aJ L x=true then .tb true else if eqD L x.2=true then .tb false else .tw (nmZ x.2)
def nxL(L:LT):Option (Addr×Dd)->LT
 |none=>L
 |some x=>if aJ L x=true then L++[x]else L
structure ErR(K:PySem.W.Frag)(cT cD:Addr)(bT bD:List Value):Prop where
 eT:ExC K cT bT
 eD:ExC K cD bD
 td:(Value.ref cT::bT).contains (.ref cD)=false
 dt:(Value.ref cD::bD).contains (.ref cT)=false
 kT:ExK K cT
 kD:ExK K cD
 dT:PySem.W.hasDictIn K cT=true
 aT:NoAttr K cT "name"
theorem jZ(c:Addr)(b:List Value):(Value.ref c::b).contains (.ref c)=true:=by simp
theorem rX{C T:Addr}{H H':Hp}{p d:Addr}{n:Nat}{L:LT}(S:StoreAt C H p d n L)(t:aK bX T (cn bV) H)(s:SameT d H H'):aK bX T (cn bV) H':=iE (r:=d) t s fun f hf=>by rw[S.dc]at hf;cases hf;exact⟨fun ps e=>(by cases e),fun c e=>(by cases e)⟩
theorem B4{L:LT}{x:Addr×Dd}(h:aJ L x=true):∀y∈L,nmK y.2≠nmK x.2:=fun y hy e=>by rw[rc,show inB L x=true from decide_eq_true (Zu.mpr ⟨y,hy,qd.mpr e⟩)]at h;cases h
theorem tY{L:LT}{x:Addr×Dd}(h:aJ L x=false):∃y∈L,nmK y.2=nmK x.2:=by rw[rc,Bool.not_eq_false']at h;obtain⟨y,hy,e⟩:=Zu.mp (Z3 h);exact⟨y,hy,qd.mp e⟩
def ke(K:PySem.W.Frag)(C:Addr):Sp:=fun vs H Q _=>∃(p d:Addr) (v:V) (n:Nat) (L:LT) (o:Option (Addr×Dd)),vs=[.ref p,v]/\StoreAt C H p d n L/\Hd K H n v o/\L.length<63 /\
 ∀t H',SameT d H H'->((∀b,bJ L o≠.tb b)->Same H H')->StoreAt C H' p d n (nxL L o)->OcAt H' t (bJ L o)->Q (.ref t) H'
theorem jd{C cT cD p d:Addr}{H H0:Hp}{v:V}{n:Nat}{L:LT}{o:Option (Addr×Dd)}{Q:VK}{E:XK}(S:StoreAt C H p d n L)(hd:Hd K H n v o)(ll:L.length<63)(s0:Same H0 H)(qb:∀(b:Bool) (H':Hp),SameT d H0 H'->StoreAt C H' p d n (nxL L o)->bJ L o=.tb b->Q (.bl b) H')(qt:∀(t dd:Addr) (e:Dd) (H':Hp),Same H0 H'->StoreAt C H' p d n (nxL L o)->bJ L o=.tw (nmZ e)->H' t=some (.tup ((nmZ e).map V.int))->H' dd=some (.xd [("name",.ref t)])->E (.ref cT) (some dd) H')(qn:∀H':Hp,Same H0 H'->StoreAt C H' p d n (nxL L o)->bJ L o=.nd->E (.ref cD) none H'):hZ K C cT cD [.ref p,v] H Q E:=by
 cases o with
 |none=>exact .inr ⟨p,d,v,n,L,rfl,S,hd,fun H' s=>qn H' (s0.trans s) (S.same s) rfl⟩
 |some x =>
  obtain⟨rfl,dr,ft⟩:=hd;refine .inl ⟨p,d,x.1,n,L,x.2,rfl,S,dr,ft,?_⟩;cases c:aJ L x with
  |true =>have e1:bJ L (some x)=.tb true:=HK c;have e2:nxL L (some x)=L++[x]:=HK c;rw[e2]at qb;exact .inl ⟨ll,B4 c,fun H' s S'=>qb true H' (fun b u e nb=>s _ _ (s0 _ _ e) nb) S' e1⟩
  |false =>
   have c':¬aJ L x=true:=by rw[c];decide
   have e2:nxL L (some x)=L:=HH c';rw[e2]at qb qt;cases c2:eqD L x.2 with
   |true =>have e1:bJ L (some x)=.tb false:=(HH c').trans (HK c2);obtain⟨y,hy,e⟩:=Zu.mp (eG.mp c2);exact .inr (.inl ⟨⟨y,hy,e⟩,fun H' s=>qb false H' (fun b u e nb=>s _ _ (s0 _ _ e)) (S.same s) e1⟩)
   |false =>have e1:bJ L (some x)=.tw (nmZ x.2):=(HH c').trans (HH (by rw[c2];decide));obtain⟨y,hy,e⟩:=tY c;refine .inr (.inr ⟨⟨y,hy,e,fun z=>?_⟩,fun H' t dd s et ed=>qt t dd x.2 H' (s0.trans s) (S.same s) e1 et ed⟩);have:=eG.mpr (Zu.mpr ⟨y,hy,z⟩);rw[c2]at this;cases this
abbrev rE:Stmt:=top 52
abbrev CY:List Str:=["_law_store","_law_deed_here","_law_told_here","e"]
theorem fT:FnScope CY ["_law_store","_law_deed_here"] (am rE):=⟨rfl,rfl,rfl,by decide +kernel,rfl,by decide +kernel,by decide +kernel⟩
theorem BY{f C cT cD:Addr}{fd:FuncData}{bT bD bn bd:List Value}(F:Fun K "_law_told" "_law_told" rE f fd)(i8:MFnX P w K mg base 8 C "hear" ["self","deed"] (hZ K C cT cD))(R:ErR K cT cD bT bD)(Hb:ExC K cT bn)(j0:mg "Twin" = some (.ref cT))(GC:ExC K cD bd)(d7:mg "NoDeed" = some (.ref cD)):FnOk P w K mg base CX0 9 f fd ["_law_store","_law_deed_here"] (ke K C):=by
 refine F.okQ fT (fun vs H Q E h=>?_) (fun cdv A outer s H vs Q E hr h=>?_)
 ·obtain⟨p,d,v,n,L,o,rfl,_⟩:=h;rfl
 obtain⟨p,d,v,n,L,o,rfl,S,hd,ll,q⟩:=h;refine⟨_,(b_c (aH (i:=2) fT.nd (aG (q_a aR ah)))
   (b_c (rF rfl rfl (yN (i:=2) fT.nd (yU (se i8 (hr.mono (by decide)) (q_v 0) (q_a (q_v 1) ah)))) (Db GC d7 (fun _=>(b_1 (aH (i:=2) fT.nd (aG (q_a aR ah))))) (va (i:=3) fT.nd Hb j0 (fun _=>(b_1 (aH (i:=2) fT.nd (aG (q_a aR (q_a (ud (K:=K) rfl (q_v 3)) ah)))))))))
   (b_1 (au (q_v 2))))),?_⟩
 try rw[cxK]
 refine⟨sz rfl,fun t0 g0=>?_⟩;have w0:=ag g0 (.tup [.str "other"]);have S0:=S.same w0;obtain⟨⟨dx,h1⟩,_⟩:=id S0;have hd0:Hd K (upd H t0 (.tup [.str "other"])) n v o:=by
  cases o with
  |none=>exact DeedR.same hd w0
  |some x=>exact⟨hd.1,hd.2.1.same w0,hd.2.2⟩
 generalize upd H t0 (.tup [.str "other"])=H0 at w0 S0 h1 hd0 ⊢;refine⟨_,rfl,p,dx,_,rfl,h1,nQ _ _,_,rfl,?_⟩;unfold fx;refine jd S0 hd0 ll w0 (fun b H1 s1 S1 e1=>?_) (fun t dd e H1 s1 S1 e1 et ed=>?_) (fun H1 s1 S1 e1=>?_)
 ·intro t gt;have wt:=ag gt (.tup [.str "told",.bl b]);refine⟨_,rfl,q t _ (fun b u e nb=>wt _ _ (s1 _ _ e nb)) (fun no=>absurd e1 (no b)) (S1.same wt) ?_⟩;rw[e1];exact ad
 ·refine⟨cT,bT,rfl,R.eT,?_⟩;rw[R.td];refine aF ⟨cT,bT,rfl,R.eT,jZ _ _,fun ea he=>?_⟩;have we:=ag he (exD ea cT (some dd));refine⟨_,rfl,ea,cT,dd,_,.ref t,rfl,ad,we _ _ ed,R.kT,R.dT,R.aT,rfl,sz rfl,fun t2 g2=>?_⟩;have w2:=we.trans (ag g2 (.tup [.str "Twin",.ref t]));refine⟨_,rfl,q t2 _ (fun b u e nb=>w2 _ _ (s1 _ _ e)) (fun _=>s1.trans w2) (S1.same w2) ?_⟩;rw[e1];exact⟨t,ad,w2 _ _ et⟩
 ·refine⟨cD,bD,rfl,R.eD,?_⟩;rw[jZ];refine aP ⟨sz rfl,fun t2 g2=>?_⟩;have w2:=ag g2 (.tup [.str "NoDeed"]);refine⟨_,rfl,q t2 _ (fun b u e nb=>w2 _ _ (s1 _ _ e)) (fun _=>s1.trans w2) (S1.same w2) ?_⟩;rw[e1];exact ad
abbrev lg:Stmt:=top 53
abbrev zl:List Str:=["_law_store","_law_deed_here","_law_told_here","e"]
theorem dJ:FnScope zl ["_law_store","_law_deed_here"] (am lg):=⟨rfl,rfl,rfl,by decide +kernel,rfl,by decide +kernel,by decide +kernel⟩
theorem ya{f C cT cD:Addr}{fd:FuncData}{bT bD bn bd:List Value}(F:Fun K "_law_turned" "_law_turned" lg f fd)(i8:MFnX P w K mg base 8 C "hear" ["self","deed"] (hZ K C cT cD))(R:ErR K cT cD bT bD)(Hb:ExC K cT bn)(j0:mg "Twin" = some (.ref cT))(GC:ExC K cD bd)(d7:mg "NoDeed" = some (.ref cD)):FnOk P w K mg base CX0 9 f fd ["_law_store","_law_deed_here"] (ke K C):=by
 refine F.okQ dJ (fun vs H Q E h=>?_) (fun cdv A outer s H vs Q E hr h=>?_)
 ·obtain⟨p,d,v,n,L,o,rfl,_⟩:=h;rfl
 obtain⟨p,d,v,n,L,o,rfl,S,hd,ll,q⟩:=h;refine⟨_,(b_c (aH (i:=2) dJ.nd (aG (q_a aR ah)))
   (b_c (rF rfl rfl (yN (i:=2) dJ.nd (yU (se i8 (hr.mono (by decide)) (q_v 0) (q_a (q_v 1) ah)))) (E7 (i:=3) dJ.nd Hb j0 (fun _=>(b_1 (aH (i:=2) dJ.nd (aG (q_a aR (q_a (ud (K:=K) rfl (q_v 3)) ah)))))) (Db GC d7 (fun _=>(b_1 (aH (i:=2) dJ.nd (aG (q_a aR ah))))) E8)))
   (b_1 (au (q_v 2))))),?_⟩
 try rw[cxK]
 refine⟨sz rfl,fun t0 g0=>?_⟩;have w0:=ag g0 (.tup [.str "other"]);have S0:=S.same w0;obtain⟨⟨dx,h1⟩,_⟩:=id S0;have hd0:Hd K (upd H t0 (.tup [.str "other"])) n v o:=by
  cases o with
  |none=>exact DeedR.same hd w0
  |some x=>exact⟨hd.1,hd.2.1.same w0,hd.2.2⟩
 generalize upd H t0 (.tup [.str "other"])=H0 at w0 S0 h1 hd0 ⊢;refine⟨_,rfl,p,dx,_,rfl,h1,nQ _ _,_,rfl,?_⟩;unfold fx;refine jd S0 hd0 ll w0 (fun b H1 s1 S1 e1=>?_) (fun t dd e H1 s1 S1 e1 et ed=>?_) (fun H1 s1 S1 e1=>?_)
 ·intro t gt;have wt:=ag gt (.tup [.str "told",.bl b]);refine⟨_,rfl,q t _ (fun b u e nb=>wt _ _ (s1 _ _ e nb)) (fun no=>absurd e1 (no b)) (S1.same wt) ?_⟩;rw[e1];exact ad
 ·refine⟨cT,bT,rfl,R.eT,?_⟩;rw[jZ,HK rfl];intro ea he;have we:=ag he (exD ea cT (some dd));refine⟨_,rfl,ea,cT,dd,_,.ref t,rfl,ad,we _ _ ed,R.kT,R.dT,R.aT,rfl,sz rfl,fun t2 g2=>?_⟩;have w2:=we.trans (ag g2 (.tup [.str "Twin",.ref t]));refine⟨_,rfl,q t2 _ (fun b u e nb=>w2 _ _ (s1 _ _ e)) (fun _=>s1.trans w2) (S1.same w2) ?_⟩;rw[e1];exact⟨t,ad,w2 _ _ et⟩
 ·refine⟨cD,bD,rfl,R.eD,?_⟩;rw[R.dt];refine aF ⟨cD,bD,rfl,R.eD,?_⟩;rw[jZ];refine aP ⟨sz rfl,fun t2 g2=>?_⟩;have w2:=ag g2 (.tup [.str "NoDeed"]);refine⟨_,rfl,q t2 _ (fun b u e nb=>w2 _ _ (s1 _ _ e)) (fun _=>s1.trans w2) (S1.same w2) ?_⟩;rw[e1];exact ad
theorem bZ{d:PyData}(h1:d.canLay0=true)(h2:d.depth<=10):SeqAt.shaped d=true:=by unfold SeqAt.shaped;rw[Zx];exact⟨h1,decide_eq_true (by omega)⟩
structure IsR(K:PySem.W.Frag)(c a1 a2 a3 b1 b2 b3 b4 b5:Addr):Prop where
 v:PySem.W.kitOne K (.ref c) (.type "ValueError")=some true
 a:PySem.W.kitAny K (.ref c) [.ref a1,.ref a2,.ref a3]=some false
 b:PySem.W.kitAny K (.ref c) [.ref b1,.ref b2,.ref b3,.ref b4,.ref b5]=some false
theorem fc:∀{as:List Addr} {vs:List Value},Vals (as.map V.ref) vs->vs=as.map Value.ref
 | [],_,h=>by cases h;rfl
 |a::as,_,h=>by
  cases h with
  |cons r rs =>cases r;rw[fc rs];rfl
def yC(K:PySem.W.Frag)(C:Addr):Sp:=fun vs H Q _=>∃(p d:Addr) (v:V) (n:Nat) (L:LT) (o:Option (Addr×Dd)),vs=[.ref p,v]/\StoreAt C H p d n L/\Hd K H n v o/\L.length<63/\(∀b,bJ L o≠.tb b) /\
 ∀H',Same H H'->Q (.bl true) H'
abbrev rp:Stmt:=top 54
abbrev CU:List Str:=["_law_store","_law_deed_here","_law_found","e"]
theorem jY:FnScope CU ["_law_store","_law_deed_here"] (am rp):=⟨rfl,rfl,rfl,by decide +kernel,rfl,by decide +kernel,by decide +kernel⟩
theorem BV{f C cT cD cL a1 a2 a3 b1 b2 b3 b4 b5:Addr}{fd:FuncData}{bT bD bl:List Value}(F:Fun K "_law_base" "_law_base" rp f fd)(i8:MFnX P w K mg base 8 C "hear" ["self","deed"] (hZ K C cT cD))(R:ErR K cT cD bT bD)(Ho:ExC K cL bl)(Gn:mg "LimbError" = some (.ref cL))(hT:(Value.ref cT::bT).contains (.ref cL)=true)(hD:(Value.ref cD::bD).contains (.ref cL)=true)(iT:IsR K cT a1 a2 a3 b1 b2 b3 b4 b5)(iD:IsR K cD a1 a2 a3 b1 b2 b3 b4 b5)(GD:mg "NoPlace" = some (.ref a1))(GW:mg "NoText" = some (.ref a2))(Hc:mg "Taken" = some (.ref a3))(GX:mg "NoItem" = some (.ref b1))(GE:mg "Beneath" = some (.ref b2))(Hx:mg "Far" = some (.ref b3))(u6:mg "NoQuestion" = some (.ref b4))(He:mg "NoRow" = some (.ref b5))(a6:mg "isinstance" = none)(u7:mg "ValueError" = none) :
  FnOk P w K mg base CX0 9 f fd ["_law_store","_law_deed_here"] (yC K C):=by
 refine F.okQ jY (fun vs H Q E h=>?_) (fun cdv A outer s H vs Q E hr h=>?_)
 ·obtain⟨p,d,v,n,L,o,rfl,_⟩:=h;rfl
 obtain⟨p,d,v,n,L,o,rfl,S,hd,ll,no,q⟩:=h;obtain⟨⟨dx,h1⟩,_⟩:=id S;refine⟨_,(b_c (aH (i:=2) jY.nd fE)
   (b_c (rF rfl rfl (CC (se i8 (hr.mono (by decide)) (q_v 0) (q_a (q_v 1) ah))) (va (i:=3) jY.nd Ho Gn (fun _=>(b_1 (aH (i:=2) jY.nd (q_v 3))))))
   (b_c (bo (t_w (fy (aY vF (q_v 2) fE) (fy (cw (bU (q_B C2 a6 aE (q_a (q_v 2) (q_a (fj u7 lJ) ah))))) (fL (bU (q_B wZ a6 aE (q_a (q_v 2) (q_a (aG (q_a (gO GD) (q_a (gO GW) (q_a (gO Hc) ah)))) ah)))))))) (b_1 (au cJ)) b_0)
   (b_1 (au (Bh (q_B wZ a6 aE (q_a (q_v 2) (q_a (aG (q_a (gO GX) (q_a (gO GE) (q_a (gO Hx) (q_a (gO u6) (q_a (gO He) ah)))))) ah))))))))),?_⟩
 try rw[cxK]
 refine⟨_,rfl,p,dx,_,rfl,h1,nQ _ _,_,rfl,?_⟩;unfold fx;refine jd S hd ll (Same.refl H) (fun b H1 s1 S1 e1=>absurd e1 (no b)) (fun t dd e H1 s1 S1 e1 et ed=>?_) (fun H1 s1 S1 e1=>?_)
 ·refine⟨cT,bT,rfl,R.eT,hT,fun ea he=>⟨_,rfl,?_⟩⟩;have we:=ag he (exD ea cT (some dd));have ee:upd H1 ea (exD ea cT (some dd)) ea=some (exD ea cT (some dd)):=ad;have s2:=s1.trans we;have ed2:=we _ _ ed;generalize upd H1 ea (exD ea cT (some dd))=H2 at ee s2 ed2 ⊢;refine⟨_,rfl,rfl,_,rfl,aN (by intro z;cases z) ?_⟩;refine⟨_,rfl,_,_,_,_,rfl,fun v hv=>hv,.inr ⟨ea,cT,some dd,rfl,ee,⟨_,ed2⟩,R.kT,iT.v⟩,_,rfl,aF ?_⟩;refine⟨_,rfl,sz rfl,fun tp gtp=>?_⟩;have wt:=ag gtp (.tup [.ref a1,.ref a2,.ref a3]);refine⟨ea,cT,tp,some dd,[a1,a2,a3].map V.ref,_,false,rfl,wt _ _ ee,⟨_,wt _ _ ed2⟩,R.kT,ad,fun vs hv=>fc hv,iT.a,_,rfl,?_⟩;refine⟨_,rfl,sz rfl,fun tq gtq=>?_⟩;have wq:=wt.trans (ag gtq (.tup [.ref b1,.ref b2,.ref b3,.ref b4,.ref b5]));exact⟨ea,cT,tq,some dd,[b1,b2,b3,b4,b5].map V.ref,_,false,rfl,wq _ _ ee,⟨_,wq _ _ ed2⟩,R.kT,ad,fun vs hv=>fc hv,iT.b,_,rfl,q _ (s2.trans wq)⟩
 ·refine⟨cD,bD,rfl,R.eD,hD,fun ea he=>⟨_,rfl,?_⟩⟩;have we:=ag he (exD ea cD none);have ee:upd H1 ea (exD ea cD none) ea=some (exD ea cD none):=ad;have s2:=s1.trans we;generalize upd H1 ea (exD ea cD none)=H2 at ee s2 ⊢;refine⟨_,rfl,rfl,_,rfl,aN (by intro z;cases z) ?_⟩;refine⟨_,rfl,_,_,_,_,rfl,fun v hv=>hv,.inr ⟨ea,cD,none,rfl,ee,trivial,R.kD,iD.v⟩,_,rfl,aF ?_⟩;refine⟨_,rfl,sz rfl,fun tp gtp=>?_⟩;have wt:=ag gtp (.tup [.ref a1,.ref a2,.ref a3]);refine⟨ea,cD,tp,none,[a1,a2,a3].map V.ref,_,false,rfl,wt _ _ ee,trivial,R.kD,ad,fun vs hv=>fc hv,iD.a,_,rfl,?_⟩;refine⟨_,rfl,sz rfl,fun tq gtq=>?_⟩;have wq:=wt.trans (ag gtq (.tup [.ref b1,.ref b2,.ref b3,.ref b4,.ref b5]));exact⟨ea,cD,tq,none,[b1,b2,b3,b4,b5].map V.ref,_,false,rfl,wq _ _ ee,trivial,R.kD,ad,fun vs hv=>fc hv,iD.b,_,rfl,q _ (s2.trans wq)⟩
def yG:Sp:=fun vs H Q _=>∃(t u:Addr) (o:Oc),vs=[.ref t,.ref u]/\OcAt H t o/\OcAt H u o/\Q (.bl true) H
abbrev rC:Stmt:=top 55
abbrev CW:List Str:=["_law_found","_law_due"]
theorem Cv:FnScope CW ["_law_found","_law_due"] (am rC):=⟨rfl,rfl,rfl,by decide +kernel,rfl,by decide +kernel,by decide +kernel⟩
theorem BX{f:Addr}{fd:FuncData}(F:Fun K "_law_same" "_law_same" rC f fd)(a7:mg "len" = none)(a6:mg "isinstance" = none)(j9:mg "bool" = none):FnOk P w K mg base CX0 1 f fd ["_law_found","_law_due"] yG:=by
 refine F.okQ Cv (fun vs H Q E h=>?_) (fun cdv A outer s H vs Q E hr h=>?_)
 ·obtain⟨t,u,o,rfl,_⟩:=h;rfl
 obtain⟨t,u,o,rfl,ht,hu,q⟩:=h;refine⟨_,(b_c (bo (t_w (fy (aY jm (q_B cP a7 Yf (q_a (q_v 0) ah)) (q_B cP a7 Yf (q_a (q_v 1) ah))) (fL (aY jm (ax aw (q_v 0) al) (ax aw (q_v 1) al))))) (b_1 (au cJ)) b_0)
   (b_c (bo (aY dW (ax aw (q_v 1) al) aR) (b_1 (au (bQ (q_B dO a6 aE (q_a (ax aw (q_v 0) al) (q_a (fj j9 iW) ah))) (bR (bO dW (ax aw (q_v 0) al) (ax aw (q_v 1) al)))))) b_0)
   (b_1 (au (bO (vE hr.units) (q_v 0) (q_v 1)))))),?_⟩
 try rw[cxK]
 cases o with
 |tb b =>have ht':H t=some (.tup [.str "told",.bl b]):=ht;have hu':H u=some (.tup [.str "told",.bl b]):=hu;refine⟨_,rfl,t,_,rfl,.inr (SqT.of ht'),_,rfl,u,_,rfl,.inr (SqT.of hu'),rfl,_,rfl,dU rfl ?_⟩;refine⟨_,rfl,t,_,_,_,rfl,rfl,SqT.of ht',at0,_,rfl,u,_,_,_,rfl,rfl,SqT.of hu',at0,rfl,_,rfl,dU rfl ?_⟩;refine⟨_,rfl,u,_,_,_,rfl,rfl,SqT.of hu',at0,rfl,_,rfl,fi ?_⟩;refine⟨_,rfl,t,_,_,_,rfl,rfl,SqT.of ht',at1,_,_,_,_,rfl,.bl b,kM (H:=H) (.bl b),_,rfl,aP ?_⟩;refine⟨_,rfl,t,_,_,_,rfl,rfl,SqT.of ht',at1,_,rfl,u,_,_,_,rfl,rfl,SqT.of hu',at1,rfl,?_⟩;rw[decide_eq_true rfl];exact q
 |tw k =>
  obtain⟨q1,ht',hq1⟩:=ht;obtain⟨q2,hu',hq2⟩:=hu;refine⟨_,rfl,t,_,rfl,.inr (SqT.of ht'),_,rfl,u,_,rfl,.inr (SqT.of hu'),rfl,_,rfl,dU rfl ?_⟩;refine⟨_,rfl,t,_,_,_,rfl,rfl,SqT.of ht',at0,_,rfl,u,_,_,_,rfl,rfl,SqT.of hu',at0,rfl,_,rfl,dU rfl ?_⟩;refine⟨_,rfl,u,_,_,_,rfl,rfl,SqT.of hu',at0,rfl,_,rfl,aN (by intro z;injection z with z;exact absurd z (by decide +kernel)) ?_⟩;have l1:PyData.canLay0 (.tuple [.str "Twin",.tuple (k.map .int)])=true:=by simp only[PyData.canLay0,PyData.canLayAll0,(fX k).1];decide +kernel
  have l2:PyData.depth (.tuple [.str "Twin",.tuple (k.map .int)])<=6:=by have:=(fX k).2;simp only[PyData.depth,PyData.depthAll];omega
  have dd:∀{a c:Addr},H a=some (.tup [.str "Twin",.ref c])->H c=some (.tup (k.map V.int))->Dt H (.tuple [.str "Twin",.tuple (k.map .int)]) (.ref a):=fun{a c} h1 h2=>by simp only[Dt,DtAll];exact⟨a,_,rfl,.inl h1,_,_,rfl,rfl,_,_,rfl,⟨c,_,rfl,.inl h2,fO k⟩,rfl⟩
  refine⟨_,rfl,_,rfl,_,_,dd ht' hq1,dd hu' hq2,bZ l1 (by omega),bZ l1 (by omega),?_⟩;rw[Y4 _ l1];exact q
 |nd =>
  have ht':H t=some (.tup [.str "NoDeed"]):=ht;have hu':H u=some (.tup [.str "NoDeed"]):=hu;refine⟨_,rfl,t,_,rfl,.inr (SqT.of ht'),_,rfl,u,_,rfl,.inr (SqT.of hu'),rfl,_,rfl,dU rfl ?_⟩;refine⟨_,rfl,t,_,_,_,rfl,rfl,SqT.of ht',at0,_,rfl,u,_,_,_,rfl,rfl,SqT.of hu',at0,rfl,_,rfl,dU rfl ?_⟩;refine⟨_,rfl,u,_,_,_,rfl,rfl,SqT.of hu',at0,rfl,_,rfl,aN (by intro z;injection z with z;exact absurd z (by decide +kernel)) ?_⟩;have l1:PyData.canLay0 (.tuple [.str "NoDeed"])=true:=by simp only[PyData.canLay0,PyData.canLayAll0];decide +kernel
  have l2:PyData.depth (.tuple [.str "NoDeed"])<=6:=by simp only[PyData.depth,PyData.depthAll];omega
  have dd:∀{a:Addr},H a=some (.tup [.str "NoDeed"])->Dt H (.tuple [.str "NoDeed"]) (.ref a):=fun{a} h1=>by simp only[Dt,DtAll];exact⟨a,_,rfl,.inl h1,_,_,rfl,rfl,rfl⟩
  refine⟨_,rfl,_,rfl,_,_,dd ht',dd hu',bZ l1 (by omega),bZ l1 (by omega),?_⟩;rw[Y4 _ l1];exact q
theorem OcAt.ts{H H':Hp}{t:Addr}{o:Oc}(x:OcAt H t o)(s:TS H H'):OcAt H' t o:=by
 cases o with
 |tb b=>exact s _ _ x
 |tw k =>obtain⟨q,h1,h2⟩:=x;exact⟨q,s _ _ h1,s _ _ h2⟩
 |nd=>exact s _ _ x
theorem lO{d:Addr}{H H':Hp}{kvs:List (List Key×V)}(s:SameT d H H')(hd:H d=some (.dT kvs)):TS H H':=fun b zs e=>s _ _ e fun z=>by rw[z,hd]at e;cases e
theorem Hd.ts{H H':Hp}{n:Nat}{v:V}{x:Addr×Dd}(h:Hd K H n v (some x))(s:TS H H'):Hd K H' n v (some x):=⟨h.1,h.2.1.ts s,h.2.2⟩
theorem Hd.same{H H':Hp}{n:Nat}{v:V}{o:Option (Addr×Dd)}(h:Hd K H n v o)(s:Same H H'):Hd K H' n v o:=by
 cases o with
 |none=>exact DeedR.same h s
 |some x=>exact⟨h.1,h.2.1.same s,h.2.2⟩
theorem kO{A B:LT}(h:vals A=vals B):aQ A=aQ B:=by
 have e:∀L:LT,aQ L=(vals L).map nmZ:=fun L=>by unfold aQ vals;rw[Yb];rfl
 rw[e,e,h]
theorem iH{A B:LT}(h:vals A=vals B)(x:Addr×Dd):aJ A x=aJ B x:=by unfold aJ;rw[kO h]
theorem nL(S:LT)(y:Addr×Dd):(!(bE (aq S) (nmK y.2)).isSome)=aJ S y:=by
 rw[ii,Option.isSome_map];unfold aJ;congr 1;rw[YJ,List.find?_isSome,YW];constructor
 ·rintro⟨x,hx,e⟩;exact Zu.mpr ⟨x,hx,qd.mpr (Z3 e)⟩
 ·intro h;obtain⟨x,hx,e⟩:=Zu.mp h;exact⟨x,hx,decide_eq_true (qd.mp e)⟩
theorem AB{n:Nat}{A:LT}{x:Addr×Dd}(u:UN n (vals A))(h:x.2∈vals A):cW (aq A) (nmK x.2) (.ref x.1)=aq (A.map fun y=>if nmK y.2=nmK x.2 then x else y)/\vals (A.map fun y=>if nmK y.2=nmK x.2 then x else y)=vals A:=by
 constructor
 ·obtain⟨y,hy,e⟩:=Zu.mp h;have hv:bE (aq A) (nmK x.2)=some (.ref y.1):=by rw[<-e];exact fR u hy
  unfold cW;rw[iS,hv];refine(HK rfl).trans ?_;unfold aq;rw[Yb,Yb];refine List.map_congr_left fun z hz=>?_;show(if nmK z.2=nmK x.2 then(nmK z.2,V.ref x.1)else(nmK z.2,V.ref z.1))=(nmK (if nmK z.2=nmK x.2 then x else z).2,V.ref (if nmK z.2=nmK x.2 then x else z).1);by_cases c:nmK z.2=nmK x.2
  ·rw[HK c,HK c,c]
  ·rw[HH c,HH c]
 ·unfold vals;rw[Yb];refine List.map_congr_left fun y hy=>?_;show(if nmK y.2=nmK x.2 then x else y).2=y.2;by_cases c:nmK y.2=nmK x.2
  ·rw[HK c];exact hM u.uni h (Zu.mpr ⟨y,hy,rfl⟩) c.symm
  ·rw[HH c]
def uh(K:PySem.W.Frag)(C:Addr):Sp:=fun vs H Q _=>∃(p d k:Addr) (v:V) (n:Nat) (L Kp:LT) (good:Bool) (o:Option (Addr×Dd)),vs=[.ref p,.ref k,v,.bl good]/\StoreAt C H p d n L/\H k=some (.dT (aq Kp))/\(∀x∈Kp,DR H x.1 x.2)/\vals Kp=vals L/\d≠k/\Hd K H n v o/\o.isSome=good/\L.length<62 /\
 ∀H' Kp',(∀b u,H b=some u->b≠d->b≠k->H' b=some u)->(∀T,aK bX T (cn bV) H->aK bX T (cn bV) H')->StoreAt C H' p d n (nxL L o)->H' k=some (.dT (aq Kp'))->(∀x∈Kp',DR H' x.1 x.2)->vals Kp'=vals (nxL L o)->Q (.bl true) H'
theorem again{L:LT}{x:Addr×Dd}{b:Bool}(h:bJ L (some x)=.tb b):bJ (nxL L (some x)) (some x)=.tb false/\nxL (nxL L (some x)) (some x)=nxL L (some x):=by
 have key:∀{M:LT},x.2∈vals M->aJ M x=false->bJ M (some x)=.tb false/\nxL M (some x)=M:=fun{M} hm ho =>
  ⟨(HH (by rw[ho];decide)).trans (HK (eG.mpr hm)),HH (by rw[ho];decide)⟩
 cases c:aJ L x with
 |true =>have e2:nxL L (some x)=L++[x]:=HK c;rw[e2];refine key (Zu.mpr ⟨x,Zv _ (Zr.mpr rfl),rfl⟩) ?_;rw[rc,show inB (L++[x]) x=true from decide_eq_true (Zu.mpr ⟨x,Zv _ (Zr.mpr rfl),rfl⟩)];rfl
 |false =>
  have c':¬aJ L x=true:=by rw[c];decide
  have e2:nxL L (some x)=L:=HH c';rw[e2];refine key ?_ c;cases c2:eqD L x.2 with
  |true=>exact eG.mp c2
  |false =>have e1:bJ L (some x)=.tw (nmZ x.2):=(HH c').trans (HH (by rw[c2];decide));rw[e1]at h;cases h
theorem qg{L:LT}{o:Option (Addr×Dd)}(h:∀b,bJ L o≠.tb b):nxL L o=L:=by
 cases o with
 |none=>rfl
 |some x =>
  cases c:aJ L x with
  |true=>exact absurd (HK c) (h true)
  |false=>exact HH (by rw[c];decide)
abbrev oj:Stmt:=top 56
abbrev BC:List Str:=["_law_store","_law_kept","_law_deed_here","_law_good","_law_name","_law_due"]
theorem eO:FnScope BC ["_law_store","_law_kept","_law_deed_here","_law_good"] (am oj):=⟨rfl,rfl,rfl,by decide +kernel,rfl,by decide +kernel,by decide +kernel⟩
theorem Ai{f C:Addr}{fd:FuncData}(F:Fun K "_law_heard" "_law_heard" oj f fd)(Hq:Fn P w K mg base 9 "_law_told" ["_law_store","_law_deed_here"] (ke K C))(Gu:Fn P w K mg base 9 "_law_turned" ["_law_store","_law_deed_here"] (ke K C))(Hr:Fn P w K mg base 9 "_law_base" ["_law_store","_law_deed_here"] (yC K C))(GF:Fn P w K mg base 1 "_law_same" ["_law_found","_law_due"] yG):FnOk P w K mg base CX0 10 f fd ["_law_store","_law_kept","_law_deed_here","_law_good"] (uh K C):=by
 refine F.okQ eO (fun vs H Q E h=>?_) (fun cdv A outer s H vs Q E hr h=>?_)
 ·obtain⟨p,d,k,v,n,L,Kp,good,o,rfl,_⟩:=h;rfl
 obtain⟨p,d,k,v,n,L,Kp,good,o,rfl,S,hk,hK,hv,ne,hd,hg,ll,q⟩:=h;refine⟨_,(b_c (aH (i:=4) eO.nd (aG (q_a al (q_a al ah))))
   (b_c (aH (i:=5) eO.nd (aG (q_a aR ah)))
   (b_c (bo (bU (q_v 3)) (b_c (aH (i:=4) eO.nd (aG (q_a (ax aw (q_v 2) al) (q_a (ax aw (ax aw (q_v 2) al) (ax aw (q_v 2) al)) ah))))
   (b_c (aH (i:=5) eO.nd (aG (q_a aR (q_a (AC hr.units (q_v 4) (q_v 1)) ah))))
   (b_1 (bo (t_w (FK (FI hr.units (q_v 4) (q_v 1)) (ER (aY (ml hr.units) (jo hr.units (q_v 1) (q_v 4)) (q_v 2))))) (b_1 (aH (i:=5) eO.nd (aG (q_a aR (q_a (q_v 4) ah))))) b_0)))) b_0)
   (b_c (bo (cw (bU (aO GF (hr.mono (by decide)) (q_a (aO Hq (hr.mono (by decide)) (q_a (q_v 0) (q_a (q_v 2) ah))) (q_a (q_v 5) ah))))) (b_1 (au cJ)) b_0)
   (b_c (bo (aY dW (ax aw (q_v 5) al) aR) (b_c (mD hr.units (q_v 1) (q_v 4) (q_v 2))
   (b_1 (au (aO GF (hr.mono (by decide)) (q_a (aO Gu (hr.mono (by decide)) (q_a (q_v 0) (q_a (q_v 2) ah))) (q_a (aG (q_a aR (q_a cJ ah))) ah)))))) b_0)
   (b_1 (au (bQ (aO Hr (hr.mono (by decide)) (q_a (q_v 0) (q_a (q_v 2) ah))) (bR (aO GF (hr.mono (by decide)) (q_a (aO Gu (hr.mono (by decide)) (q_a (q_v 0) (q_a (q_v 2) ah))) (q_a (q_v 5) ah)))))))))))),?_⟩
 try rw[cxK]
 refine aC fun R0 hR0=>?_;refine⟨sz rfl,fun t0 g0=>hR0 _ _ ?_⟩;clear hR0 R0;have w0:=ag g0 (.tup [.int 0,.int 0]);refine aC fun R0 hR0=>?_;refine⟨sz rfl,fun u0 gu0=>hR0 _ _ ?_⟩;clear hR0 R0;have w1:=w0.trans (ag gu0 (.tup [.str "NoDeed"]));have eu0:upd (upd H t0 (.tup [.int 0,.int 0])) u0 (.tup [.str "NoDeed"]) u0=some (.tup [.str "NoDeed"]):=ad;generalize upd (upd H t0 (.tup [.int 0,.int 0])) u0 (.tup [.str "NoDeed"])=H1 at w1 eu0 ⊢;refine aC fun R0 hR0=>?_;have fin:∀ (t u:Addr) (H6:Hp),Same H H6->(∀ x,o=some x->H6 t=some (.tup ((nmZ x.2).map V.int)))->OcAt H6 u (bJ L o)->R0.nx [some (.ref p),some (.ref k),some v,some (.bl good),some (.ref t),some (.ref u)] H6:=fun t u H6 s6 ht hu=>hR0 _ _ (by
  refine⟨_,rfl,_,rfl,p,d,v,n,L,o,rfl,S.same s6,hd.same s6,by omega,fun t1 H7 s7 sm7 S7 oc7=>⟨_,rfl,t1,u,bJ L o,rfl,oc7,hu.ts (lO s7 (s6 _ _ S.dc)),_,rfl,?_⟩⟩;have ts7:=lO s7 (s6 _ _ S.dc);have hu7:=hu.ts ts7;have k7:∀b u,H b=some u->b≠d->H7 b=some u:=fun b u e nb=>s7 _ _ (s6 _ _ e) nb;have tb7:∀T,aK bX T (cn bV) H->aK bX T (cn bV) H7:=fun T tt=>rX (S.same s6) (aA tt s6) s7;have tsH:TS H H7:=(Same.ts s6).trans ts7;cases ho:bJ L o with
  |tb b =>
   obtain⟨x,rfl⟩:∃x,o=some x:=by
    cases o with
    |none=>cases ho
    |some x=>exact⟨x,rfl⟩
   have ev:v=.ref x.1:=hd.1;subst ev;have hu':H7 u=some (.tup [.str "told",.bl b]):=by rw[ho]at hu7;exact hu7
   have et7:=ts7 _ _ (ht x rfl);have hx7:=Hd.ts hd tsH;have lk:(aq Kp).length<sizeLine:=by unfold aq;rw[Zd,<-eR,hv,eR,PySem.sizeLine_eq];exact Zn ll (by decide)
   refine⟨_,rfl,u,_,_,_,rfl,rfl,SqT.of hu',at0,rfl,_,rfl,fi ?_⟩;refine⟨_,rfl,_,rfl,_,rfl,k,_,rfl,.inr ⟨aq Kp,nmK x.2,t,k7 _ _ hk ne.symm,rfl,et7,lk,rfl⟩,?_⟩;obtain⟨Kp',eK,vK,mK⟩:∃Kp':LT,cW (aq Kp) (nmK x.2) (.ref x.1)=aq Kp'/\vals Kp'=vals (nxL L (some x))/\∀y∈Kp',y=x\/y∈Kp:=by
    cases c:aJ L x with
    |true =>
     have e2:nxL L (some x)=L++[x]:=HK c;have vn:bE (aq Kp) (nmK x.2)=none:=by
      have:=nL Kp x;rw[iH hv,c]at this;cases hq:bE (aq Kp) (nmK x.2)with
      |none=>rfl
      |some z =>rw[hq]at this;cases this
     refine⟨Kp++[x],?_,?_,fun y hy=>?_⟩
     ·rw[kZ _ vn];unfold aq;rw[ZE];rfl
     ·rw[e2];unfold vals at hv ⊢;rw[ZE,ZE,hv]
     ·rcases ZK.mp hy with hy|hy
      ·exact .inr hy
      ·exact .inl (Zr.mp hy)
    |false =>
     have c':¬aJ L x=true:=by rw[c];decide
     have e2:nxL L (some x)=L:=HH c';have hx:x.2∈vals Kp:=by
      rw[hv];cases c2:eqD L x.2 with
      |true=>exact eG.mp c2
      |false =>have e1:bJ L (some x)=.tw (nmZ x.2):=(HH c').trans (HH (by rw[c2];decide));rw[e1]at ho;cases ho
     obtain⟨a1,a2⟩:=AB (n:=n) (by rw[hv];exact S.un) hx;refine⟨_,a1,by rw[a2,hv,e2],fun y hy=>?_⟩;obtain⟨z,hz,rfl⟩:=Zu.mp hy;by_cases cz:nmK z.2=nmK x.2
     ·exact .inl (by rw[HK cz])
     ·exact .inr (by rw[HH cz];exact hz)
   rw[eK];have s8:SameT k H7 (upd H7 k (.dT (aq Kp'))):=fun b u e nb=>by rw[af nb];exact e
   have hk7:=k7 _ _ hk ne.symm;have ek8:upd H7 k (.dT (aq Kp')) k=some (.dT (aq Kp')):=ad;have ts8:=lO s8 hk7;generalize upd H7 k (.dT (aq Kp'))=H8 at s8 ek8 ts8 ⊢;have S8:StoreAt C H8 p d n (nxL L (some x)):=by obtain⟨⟨dx,g1⟩,g2,g3,g4,g5,g6,g7⟩:=S7;exact⟨⟨dx,s8 _ _ g1 fun z=>by rw[z,hk7]at g1;cases g1⟩,s8 _ _ g2 ne,fun y hy=>(g3 y hy).ts ts8,g4,g5,g6,g7⟩
   have tb8:∀T,aK bX T (cn bV) H7->aK bX T (cn bV) H8:=fun T tt=>iE (r:=k) tt s8 fun f hf=>by rw[hk7]at hf;cases hf;exact⟨fun ps e=>(by cases e),fun c e=>(by cases e)⟩
   obtain⟨g1,g2⟩:=again ho;have lx:(nxL L (some x)).length<63:=by
    cases c:aJ L x with
    |true =>have e2:nxL L (some x)=L++[x]:=HK c;rw[e2,Zj,Zy];omega
    |false =>have e2:nxL L (some x)=L:=HH (by rw[c];decide);rw[e2];omega
   refine⟨_,rfl,_,rfl,p,d,.ref x.1,n,nxL L (some x),some x,rfl,S8,Hd.ts hx7 ts8,lx,fun t2 H9 s9 _ S9 oc9=>?_⟩;rw[g2]at S9;rw[g1]at oc9;refine⟨sz rfl,fun u2 gu2=>?_⟩;have w2:=ag gu2 (.tup [.str "told",.bl false]);refine⟨t2,u2,.tb false,rfl,oc9.same w2,ad,?_⟩;have ts9:=lO s9 S8.dc;refine q _ Kp' (fun b u e n1 n2=>w2 _ _ (s9 _ _ (s8 _ _ (k7 _ _ e n1) n2) n1)) (fun T tt=>aA (rX S8 (tb8 T (tb7 T tt)) s9) w2) (S9.same w2) (w2 _ _ (s9 _ _ ek8 ne.symm)) (fun y hy=>?_) vK;have tsA:TS H _:=tsH.trans (ts8.trans (ts9.trans (Same.ts w2)));rcases mK y hy with rfl|hy
   ·exact hd.2.1.ts tsA
   ·exact(hK y hy).ts tsA
  |tw kk =>
   have no:∀b,bJ L o≠.tb b:=fun b z=>by rw[ho]at z;cases z
   have s67:=sm7 no;rw[qg no]at S7;obtain⟨q1,hu',hq1⟩:∃q,H7 u=some (.tup [.str "Twin",.ref q])/\H7 q=some (.tup (kk.map V.int)):=by rw[ho]at hu7;exact hu7
   refine⟨_,rfl,u,_,_,_,rfl,rfl,SqT.of hu',at0,rfl,_,rfl,aN (by intro z;injection z with z;exact absurd z (by decide +kernel)) ?_⟩;have hd7:=(hd.same s6).same s67;refine⟨_,rfl,_,rfl,p,d,v,n,L,o,rfl,S7,hd7,by omega,no,fun H8 s8=>⟨_,rfl,aP ?_⟩⟩;refine⟨_,rfl,_,rfl,p,d,v,n,L,o,rfl,S7.same s8,hd7.same s8,by omega,fun t2 H9 s9 sm9 S9 oc9=>?_⟩;have s69:=s67.trans (s8.trans (sm9 no));refine⟨_,rfl,t2,u,bJ L o,rfl,oc9,hu.same s69,?_⟩;have sH:=s6.trans s69;exact q _ Kp (fun b u e _ _=>sH _ _ e) (fun T tt=>aA tt sH) S9 (sH _ _ hk) (fun y hy=>(hK y hy).same sH) (by rw[qg no];exact hv)
  |nd =>
   have no:∀b,bJ L o≠.tb b:=fun b z=>by rw[ho]at z;cases z
   have s67:=sm7 no;rw[qg no]at S7;have hu':H7 u=some (.tup [.str "NoDeed"]):=by rw[ho]at hu7;exact hu7
   refine⟨_,rfl,u,_,_,_,rfl,rfl,SqT.of hu',at0,rfl,_,rfl,aN (by intro z;injection z with z;exact absurd z (by decide +kernel)) ?_⟩;have hd7:=(hd.same s6).same s67;refine⟨_,rfl,_,rfl,p,d,v,n,L,o,rfl,S7,hd7,by omega,no,fun H8 s8=>⟨_,rfl,aP ?_⟩⟩;refine⟨_,rfl,_,rfl,p,d,v,n,L,o,rfl,S7.same s8,hd7.same s8,by omega,fun t2 H9 s9 sm9 S9 oc9=>?_⟩;have s69:=s67.trans (s8.trans (sm9 no));refine⟨_,rfl,t2,u,bJ L o,rfl,oc9,hu.same s69,?_⟩;have sH:=s6.trans s69;exact q _ Kp (fun b u e _ _=>sH _ _ e) (fun T tt=>aA tt sH) S9 (sH _ _ hk) (fun y hy=>(hK y hy).same sH) (by rw[qg no];exact hv))
 cases o with
 |none =>obtain rfl:good=false:=hg.symm;exact⟨_,rfl,_,rfl,aF (fin t0 u0 H1 w1 (fun x z=>nomatch z) eu0)⟩
 |some x =>
  obtain rfl:good=true:=hg.symm;have ev:v=.ref x.1:=hd.1;subst ev;obtain⟨c,wv,d1,d2,d3,d4,d5⟩:=hd.2.1.same w1;refine⟨_,rfl,_,rfl,aP ?_⟩;refine⟨_,rfl,x.1,_,_,_,rfl,rfl,SqT.of d1,at0,_,rfl,x.1,_,_,_,rfl,rfl,SqT.of d1,at1,_,rfl,x.1,_,_,_,rfl,rfl,SqT.of d1,at0,c,_,_,_,rfl,rfl,SqT.of d2,eJ d4,sz rfl,fun t gt=>?_⟩;have wt:=ag gt (.tup [.int (x.2.h:Int),.int (ai x.2.ns x.2.h)]);have et:upd H1 t (.tup [.int (x.2.h:Int),.int (ai x.2.ns x.2.h)]) t=some (.tup ((nmZ x.2).map V.int)):=ad;have s2:=w1.trans wt;generalize upd H1 t (.tup [.int (x.2.h:Int),.int (ai x.2.ns x.2.h)])=H2 at et s2 ⊢;have dg:∀{H3:Hp},Same H2 H3->ik H3 k (.ref t) (bE (aq Kp) (nmK x.2)):=fun s3=>.inr ⟨aq Kp,nmK x.2,t,.inl (s3 _ _ (s2 _ _ hk)),rfl,s3 _ _ et,rfl⟩;refine⟨_,rfl,_,rfl,k,_,rfl,dg (Same.refl _),sz rfl,fun u gu=>?_⟩;rw[nL,iH hv];have wu:=ag gu (.tup [.str "told",.bl (aJ L x)]);have eu:upd H2 u (.tup [.str "told",.bl (aJ L x)]) u=some (.tup [.str "told",.bl (aJ L x)]):=ad;have s3:=s2.trans wu;have et3:=wu _ _ et;have dg3:=dg wu;generalize upd H2 u (.tup [.str "told",.bl (aJ L x)])=H3 at eu s3 et3 dg3 ⊢;have uK:UN n (vals Kp):=by rw[hv];exact S.un
  refine⟨_,rfl,_,rfl,k,_,rfl,dg3,_,rfl,?_⟩;cases c:aJ L x with
  |true =>
   have vn:bE (aq Kp) (nmK x.2)=none:=by
    have:=nL Kp x;rw[iH hv,c]at this;cases hq:bE (aq Kp) (nmK x.2)with
    |none=>rfl
    |some z =>rw[hq]at this;cases this
   rw[vn];have e1:bJ L (some x)=.tb true:=HK c;refine aF (aF (fin t u H3 s3 (fun y z=>by cases z;exact et3) ?_));rw[e1];rw[c]at eu;exact eu
  |false =>
   have c':¬aJ L x=true:=by rw[c];decide
   obtain⟨y,hy,ey⟩:=tY (L:=Kp) (x:=x) (by rw[iH hv];exact c);have vy:bE (aq Kp) (nmK x.2)=some (.ref y.1):=by rw[<-ey];exact fR uK hy
   rw[vy]at dg3 ⊢;refine aP ?_;refine⟨_,rfl,_,rfl,k,.ref y.1,rfl,dg3,_,rfl,_,_,((hK y hy).same s3).dt,(hd.2.1.same s3).dt,eQ _,eQ _,_,rfl,?_⟩;cases hq:PyData.eqv (dD y.2) (dD x.2)with
   |true =>have e2:=uW hq;have e1:bJ L (some x)=.tb false:=(HH c').trans (HK (eG.mpr (by rw[<-hv,<-e2];exact Zu.mpr ⟨y,hy,rfl⟩)));refine aF (fin t u H3 s3 (fun y z=>by cases z;exact et3) ?_);rw[e1];rw[c]at eu;exact eu
   |false =>
    have c2:¬eqD L x.2=true:=fun z=>by have hx:=eG.mp z;rw[<-hv]at hx;have:=hM uK.uni (Zu.mpr ⟨y,hy,rfl⟩) hx ey;rw[this,Y4 _ (md (d:=x.2) trivial).1]at hq;cases hq
    have e1:bJ L (some x)=.tw (nmZ x.2):=(HH c').trans (HH c2);refine aP ⟨_,rfl,sz rfl,fun u2 gu2=>?_⟩;have wu2:=ag gu2 (.tup [.str "Twin",.ref t]);refine fin t u2 _ (s3.trans wu2) (fun y z=>by cases z;exact wu2 _ _ et3) ?_;rw[e1];exact⟨t,ad,wu2 _ _ et3⟩
theorem xP{n:Nat}(g:Nat->Int):((List.range n).map fun j=>V.int (g j))=((List.range n).map g).map V.int:=by rw[Yb];rfl
theorem at2{x y z:V}{r:List V}:atI (x::y::z::r) 2=some z:=fN (xs:=x::y::z::r) (j:=2) rfl
def ul:Sp:=fun vs H Q _=>∃(cz:Int) (n:Nat),vs=[.int cz,.int (n:Int)]/\1<=n/\n<=8/\∀t e H',Same H H'->DR H' t e->Fit n e->Q (.ref t) H'
abbrev rq:Stmt:=top 50
abbrev CV:List Str:=["_law_cell","_law_hands","_law_hand","_law_mixed","_law_clock","_law_some"]
theorem hV:FnScope CV ["_law_cell","_law_hands"] (am rq):=⟨rfl,rfl,rfl,by decide +kernel,rfl,by decide +kernel,by decide +kernel⟩
theorem BW{f:Addr}{fd:FuncData}(F:Fun K "_law_deed" "_law_deed" rq f fd)(t7:mg "range" = none)(a8:mg "tuple" = none):FnOk P w K mg base CX0 1 f fd ["_law_cell","_law_hands"] ul:=by
 refine F.okQ hV (fun vs H Q E h=>?_) (fun cdv A outer s H vs Q E hr h=>?_)
 ·obtain⟨cz,n,rfl,_⟩:=h;rfl
 obtain⟨cz,n,rfl,n1,n8,q⟩:=h;refine⟨_,(b_c (aH (i:=2) hV.nd (bt eV (q_v 0) (q_v 1)))
   (b_c (aH (i:=3) hV.nd (bt eV (bt Fg (q_v 0) al) al))
   (b_c (Ey (j:=4) hV.nd (own:=["_law_k"]) (⟨rfl,by decide +kernel,by decide +kernel,rfl,⟨rfl,rfl,trivial⟩⟩:CompOk _ _ [3] ["_law_mixed"]) rfl (xF t7 (q_a (q_v 1) ah)) (fun _ _ _ _=>bj (i:=0) (show (["_law_k","_law_mixed"]:List Str).Nodup by decide +kernel)) (bz (by decide)) (fun _ _ _ _=>fh) (fun _ _ _ _=>(bt eV (bt jl (q_v 1) (bt jV (q_v 0) al)) al)))
   (b_c (Bo (bt jV al (bt eV (bt jl (q_v 3) al) al)) (A8 (q_v 4) (q_v 2) Bq))
   (b_c (aH (i:=5) hV.nd (iI (q_a (aG (q_a aR ah)) (q_a (aG (q_a aR (q_a fE (q_a (aG (q_a (bt eV (q_v 3) al) ah)) (q_a aR ah))))) (q_a (aG (q_a aR ah)) ah)))))
   (b_c (bo (aY Dw (ax jE (q_v 4) (q_v 2)) al) (b_1 (Bo (aG (q_a aR (q_a (bt vH (ax jE (q_v 4) (q_v 2)) al) ah))) (A8 (q_v 5) al Bq))) b_0)
   (b_1 (au (aG (q_a (q_v 2) (q_a (og A7 a8 ci (q_a (q_v 4) ah)) (q_a (ax jE (q_v 5) (bt eV (bt jl (q_v 3) al) al)) ah)))))))))))),?_⟩
 try rw[cxK]
 refine aC fun R0 hR0=>?_;refine⟨_,rfl,_,rfl,_,_,rfl,rfl,(by show(0:Int)<(n:Int);omega),hR0 _ _ ?_⟩;clear hR0 R0;have g0:=x8 cz (show(n:Int)≠0 by omega);have g1:=Int.emod_lt_of_pos cz (show(0:Int)<(n:Int) by omega);dsimp only;generalize hz:cz%(n:Int)=gz at g0 g1 ⊢;obtain⟨g,rfl⟩:∃g:Nat,gz=(g:Int):=⟨gz.toNat,by omega⟩
 have hg:g<n:=by omega
 refine aC fun R0 hR0=>?_;refine⟨_,rfl,_,_,rfl,rfl,.inr ⟨by decide,by decide⟩,_,_,rfl,rfl,(by show(0:Int)<2147483647;decide),hR0 _ _ ?_⟩;clear hR0 R0;have z0:=x8 (cz*48271) (show(2147483647:Int)≠0 by decide);dsimp only;generalize cz*48271%2147483647=mz at z0 ⊢;refine aC fun R0 hR0=>?_;refine⟨_,rfl,_,rfl,by omega,by omega,uU (N:=n) (lo:=0) (fun j=>.int (mz / (0+(j:Int)+2)%3)) (by omega) (fun j H8 hj s8 R kR=>?_) (fun q1 H8 s8 g8=>hR0 _ _ ?_)⟩
 ·exact⟨_,rfl,_,rfl,_,_,rfl,rfl,_,_,rfl,rfl,⟨by omega,by omega⟩,_,_,rfl,rfl,(by show(0:Int)<3;decide),kR H8 (Same.refl H8)⟩
 clear hR0 R0;rw[xP fun j=>mz / (0+(j:Int)+2)%3];have lx:((List.range n).map fun j:Nat=>mz / (0+(j:Int)+2)%3).length=n:=by rw[Zd,YI]
 have px:∀z∈(List.range n).map fun j:Nat=>mz / (0+(j:Int)+2)%3,0<=z:=fun z hz=>by obtain⟨j,_,rfl⟩:=Zu.mp hz;exact x8 _ (by decide)
 generalize((List.range n).map fun j:Nat=>mz / (0+(j:Int)+2)%3)=xs at lx px ⊢;have w1:=s8.trans (ag g8 (.lst (xs.map V.int)));have f1:H q1=none:=s8.free g8;have e1:upd H8 q1 (.lst (xs.map V.int)) q1=some (.lst (xs.map V.int)):=ad;generalize upd H8 q1 (.lst (xs.map V.int))=H1 at w1 e1 ⊢;refine aC fun R0 hR0=>?_;refine⟨_,rfl,_,_,rfl,rfl,⟨by decide,by decide⟩,_,_,rfl,rfl,(by show(0:Int)<3;decide),_,_,rfl,rfl,_,rfl,_,rfl,q1,_,_,g,rfl,rfl,e1,?_,hR0 _ _ ?_⟩
 ·unfold ixN;rw[Zd,lx,HK (by omega),HK (by omega)];rfl
 clear hR0 R0;have o0:=x8 (mz / 7) (show(3:Int)≠0 by decide);dsimp only;generalize mz / 7%3=ow at o0 ⊢;have ex:(xs.map V.int).set g (.int (1+ow))=(xs.set g (1+ow)).map V.int:=by rw[List.map_set]
 rw[ex];have w2:=iP (o:=.lst ((xs.set g (1+ow)).map V.int)) w1 f1;have e2:upd H1 q1 (.lst ((xs.set g (1+ow)).map V.int)) q1=some (.lst ((xs.set g (1+ow)).map V.int)):=ad;have ln:(xs.set g (1+ow)).length=n:=by rw[List.length_set,lx]
 have pn:∀z∈xs.set g (1+ow),0<=z:=fun z hz=>by
  rcases List.mem_or_eq_of_mem_set hz with h|rfl
  ·exact px z h
  ·omega
 have cg:ai (xs.set g (1+ow)) g=1+ow:=by rw[qD (by rw[lx];exact hg),HK rfl]
 generalize xs.set g (1+ow)=ns at e2 w2 ln pn cg ⊢;generalize upd H1 q1 (.lst (ns.map V.int))=H2 at e2 w2 ⊢;clear e1 w1 f1 ex px lx;refine aC fun R0 hR0=>?_;refine⟨sz rfl,fun a1 ga1=>?_⟩;have v1:=ag ga1 (.tup [.str "none"]);have y1:upd H2 a1 (.tup [.str "none"]) a1=some (.tup [.str "none"]):=ad;generalize upd H2 a1 (.tup [.str "none"])=H3 at v1 y1 ⊢;refine⟨_,rfl,_,_,rfl,rfl,(by show(0:Int)<5;decide),sz rfl,fun a2 ga2=>?_⟩;have v2:=ag ga2 (.tup [.int (mz%5)]);have y2:upd H3 a2 (.tup [.int (mz%5)]) a2=some (.tup [.int (mz%5)]):=ad;generalize upd H3 a2 (.tup [.int (mz%5)])=H4 at v2 y2 ⊢;refine⟨sz rfl,fun a3 ga3=>?_⟩;have v3:=ag ga3 (.tup [.str "put",.non,.ref a2,.str "x"]);have y3:upd H4 a3 (.tup [.str "put",.non,.ref a2,.str "x"]) a3=some (.tup [.str "put",.non,.ref a2,.str "x"]):=ad;generalize upd H4 a3 (.tup [.str "put",.non,.ref a2,.str "x"])=H5 at v3 y3 ⊢;refine⟨sz rfl,fun a4 ga4=>?_⟩;have v4:=ag ga4 (.tup [.str "none"]);have y4:upd H5 a4 (.tup [.str "none"]) a4=some (.tup [.str "none"]):=ad;generalize upd H5 a4 (.tup [.str "none"])=H6 at v4 y4 ⊢;refine⟨sz rfl,fun sl gsl=>hR0 _ _ ?_⟩;clear hR0 R0;have v5:=ag gsl (.lst [.ref a1,.ref a3,.ref a4]);have y5:upd H6 sl (.lst [.ref a1,.ref a3,.ref a4]) sl=some (.lst [.ref a1,.ref a3,.ref a4]):=ad;have s26:=v1.trans (v2.trans (v3.trans v4));have sH6:=w2.trans s26;have fsl:=sH6.free gsl;have sH7:=sH6.trans v5;have r1:WR (upd H6 sl (.lst [.ref a1,.ref a3,.ref a4])) (.ref a1) .no:=⟨a1,rfl,v5 _ _ (v4 _ _ (v3 _ _ (v2 _ _ y1)))⟩
 have r2:WR (upd H6 sl (.lst [.ref a1,.ref a3,.ref a4])) (.ref a3) (.put (mz%5)):=⟨a3,a2,rfl,v5 _ _ (v4 _ _ y3),v5 _ _ (v4 _ _ (v3 _ _ y2))⟩
 have r3:WR (upd H6 sl (.lst [.ref a1,.ref a3,.ref a4])) (.ref a4) .no:=⟨a4,rfl,v5 _ _ y4⟩
 have e7:=v5 _ _ (s26 _ _ e2);generalize upd H6 sl (.lst [.ref a1,.ref a3,.ref a4])=H7 at y5 sH7 r1 r2 r3 e7 ⊢;clear v1 v2 v3 v4 v5 y1 y2 y3 y4 s26 sH6 ga1 ga2 ga3 ga4 gsl e2 w2;refine aC fun R0 hR0=>?_;have fin:∀(vv:V) (w3:Wh) (H8:Hp),Same H H8->H8 sl=some (.lst [.ref a1,.ref a3,vv])->WR H8 (.ref a1) .no->WR H8 (.ref a3) (.put (mz%5))->WR H8 vv w3->(∀k,w3=.off k->1<=k/\k<ai ns g)->H8 q1=some (.lst (ns.map V.int)) ->
   R0.nx [some (.int cz),some (.int (n:Int)),some (.int (g:Int)),some (.int mz),some (.ref q1),some (.ref sl)] H8:=fun vv w3 H8 s8 es r1 r2 r3 wf eq=>hR0 _ _ (by
  refine⟨_,rfl,_,rfl,q1,_,rfl,.inl ⟨SqL.of eq,fun q5 f5=>?_⟩⟩;have w5:=ag f5 (.tup (ns.map V.int));have e5:upd H8 q5 (.tup (ns.map V.int)) q5=some (.tup (ns.map V.int)):=ad;generalize upd H8 q5 (.tup (ns.map V.int))=H9 at w5 e5 ⊢;have k0:=x8 (mz / 64) (show(3:Int)≠0 by decide);have k1:=Int.emod_lt_of_pos (mz / 64) (show(0:Int)<3 by decide);obtain⟨wv,ww,hw,hWR,hwf⟩:∃(wv:V) (ww:Wh),atI [.ref a1,.ref a3,vv] (mz / 64%3)=some wv/\WR H8 wv ww/\∀k,ww=.off k->1<=k/\k<ai ns g:=by
   rcases(show mz / 64%3=0\/mz / 64%3=1\/mz / 64%3=2 by omega)with z|z|z
   ·rw[z];exact⟨_,.no,at0,r1,fun k z=>nomatch z⟩
   ·rw[z];exact⟨_,.put _,at1,r2,fun k z=>nomatch z⟩
   ·rw[z];exact⟨_,w3,at2,r3,wf⟩
  refine⟨_,rfl,_,rfl,_,_,rfl,rfl,⟨by decide,by decide⟩,_,_,rfl,rfl,(by show(0:Int)<3;decide),sl,_,_,_,rfl,rfl,SqL.of (w5 _ _ es),hw,sz rfl,fun t gt=>?_⟩;have w6:=ag gt (.tup [.int (g:Int),.ref q5,wv]);refine q t ⟨g,ns,ww⟩ _ (s8.trans (w5.trans w6)) ⟨q5,wv,ad,w6 _ _ e5,hWR.ts (Same.ts (w5.trans w6)),by show g<ns.length;omega,by show ns.length<=8;omega⟩ ⟨ln,hg,pn,?_,hwf⟩;show 1<=ai ns g;omega)
 refine⟨_,rfl,_,rfl,q1,_,_,_,rfl,rfl,SqL.of e7,eJ (by omega),_,_,rfl,rfl,_,rfl,Di (fun hc=>?_) fun hc=>?_⟩
 ·refine⟨_,rfl,_,rfl,q1,_,_,_,rfl,rfl,SqL.of e7,eJ (by omega),_,_,rfl,rfl,sz rfl,fun t5 g5=>?_⟩;have w5:=ag g5 (.tup [.str "off",.int (ai ns g-1)]);have e5:upd H7 t5 (.tup [.str "off",.int (ai ns g-1)]) t5=some (.tup [.str "off",.int (ai ns g-1)]):=ad;have r1':=r1.ts (Same.ts w5);have r2':=r2.ts (Same.ts w5);have ys:=w5 _ _ y5;have e8:=w5 _ _ e7;have sH8:=sH7.trans w5;generalize upd H7 t5 (.tup [.str "off",.int (ai ns g-1)])=H8 at e5 r1' r2' ys e8 sH8 ⊢;have tt:TS H8 (upd H8 sl (.lst [.ref a1,.ref a3,.ref t5])):=mP fun zs z=>by rw[ys]at z;cases z
  have nq:q1≠sl:=fun z=>by
   rw[z,ys]at e8;injection e8 with e8;injection e8 with e8;cases ns with
   |nil=>cases e8
   |cons a ns=>cases e8
  refine⟨_,rfl,sl,_,_,2,rfl,rfl,ys,rfl,?_⟩;refine fin (.ref t5) (.off (ai ns g-1)) _ (iP sH8 fsl) ad (r1'.ts tt) (r2'.ts tt) ⟨t5,rfl,tt _ _ e5⟩ (fun k z=>?_) (by rw[af nq];exact e8);cases z;have hc':(1:Int)<ai ns g:=hc;omega
 ·exact fin (.ref a4) .no H7 sH7 y5 r1 r2 r3 (fun k z=>nomatch z) e7
theorem vB:PyProof.Rows.KTD.datumAt ("nothing":Str) DT=none:=by with_unfolding_all rfl
theorem CH:PyProof.Rows.KTD.datumAt ("take":Str) DT=some (tw ([Kd.i].map nm)):=by with_unfolding_all rfl
theorem BI:PyProof.Rows.KTD.datumAt ("fold":Str) DT=some (tw ([Kd.i,.b].map nm)):=by with_unfolding_all rfl
theorem E2:(("a":Str).cps).toList=[97]:=by decide +kernel
def rS(K:PySem.W.Frag):Sp:=fun vs H Q _=>∃(a:Addr) (e:Dd) (cz:Int) (n:Nat),vs=[.ref a,.int cz,.int (n:Int)]/\DR H a e/\Fit n e/\n<=8/\∀v H',Same H H'->DeedR K H' (n:Int) v false->Q v H'
abbrev jC:Stmt:=top 51
abbrev wV:List Str:=["_law_deed_here","_law_cell","_law_hands","_law_some","_law_own","_law_whats"]
theorem eA:FnScope wV ["_law_deed_here","_law_cell","_law_hands"] (am jC):=⟨rfl,rfl,rfl,by decide +kernel,rfl,by decide +kernel,by decide +kernel⟩
theorem vT{f:Addr}{fd:FuncData}(F:Fun K "_law_no_deed" "_law_no_deed" jC f fd)(i9:mg "list" = none)(Hy:mg "max" = none):FnOk P w K mg base CX0 1 f fd ["_law_deed_here","_law_cell","_law_hands"] (rS K):=by
 refine F.okQ eA (fun vs H Q E h=>?_) (fun cdv A outer s H vs Q E hr h=>?_)
 ·obtain⟨a,e,cz,n,rfl,_⟩:=h;rfl
 obtain⟨a,e,cz,n,rfl,hd,ft,n8,q⟩:=h;obtain⟨c,v,d1,d2,d3,d4,d5⟩:=id hd;refine⟨_,(b_c (aH (i:=3) eA.nd (iI (q_a (og xa i9 gC (q_a (q_v 0) ah)) (q_a fE (q_a aR (q_a (rk ma (q_v 0) rh (rj al)) (q_a (aG (q_a (q_v 2) (q_a (ax aw (q_v 0) al) (q_a (ax aw (q_v 0) al) ah)))) (q_a (aG (q_a (ax aw (q_v 0) al) (q_a (bt qX (ax aw (q_v 0) al) (aG (q_a al ah))) (q_a (ax aw (q_v 0) al) ah)))) ah))))))))
   (b_c (aH (i:=3) eA.nd (bt Bf (q_v 3) (iI (q_a (aG (q_a (ax aw (q_v 0) al) (q_a (og xa i9 gC (q_a (ax aw (q_v 0) al) ah)) (q_a (ax aw (q_v 0) al) ah)))) (q_a (aG (q_a (ax aw (q_v 0) al) (q_a (ax aw (q_v 0) al) (q_a (aG (q_a aR ah)) ah)))) (q_a al (q_a qh ah)))))))
   (b_c (aH (i:=4) eA.nd (aG (q_a (ax aw (q_v 0) al) (q_a (ax aw (ax aw (q_v 0) al) (ax aw (q_v 0) al)) ah))))
   (b_c (aH (i:=5) eA.nd (iI (q_a (aG (q_a aR (q_a (q_v 4) ah))) (q_a (aG (q_a aR (q_a fE (q_a (aG ah) (q_a aR ah))))) (q_a (aG (q_a aR (q_a (aG (q_a (ax aw (q_v 4) al) (q_a (q_B (E3 rfl) Hy zA (q_a al (q_a (bt vH (ax aw (q_v 4) al) al) ah))) ah))) (q_a al ah)))) (q_a (aG (q_a aR (q_a (ax aw (q_v 4) al) ah))) ah))))))
   (b_c (rA (vX (q_v 5) (aG (q_a aR (q_a fE (q_a (aG (q_a al ah)) (q_a (bt Dx aR al) ah)))))))
   (b_1 (au (ax jE (bt Bf (q_v 3) (bY (own:=["_law_what"]) (⟨rfl,by decide +kernel,by decide +kernel,rfl,⟨rfl,rfl,trivial⟩⟩:CompOk _ _ [0] ["_law_deed_here"]) rfl (dR (q_v 5)) (fun _ _ _ _=>bj (i:=0) (show (["_law_what","_law_deed_here"]:List Str).Nodup by decide +kernel)) (bz (by decide)) (fun _ _ _ _=>fh) (fun _ _ _ _=>(aG (q_a (ax (gB (K:=K) rfl) (q_v 1) al) (q_a (ax (gB (K:=K) rfl) (q_v 1) al) (q_a (q_v 0) ah))))))) (bt eV (q_v 1) al))))))))),?_⟩
 try rw[cxK]
 have c0:Same H H:=Same.refl H;refine aC fun R0 hR0=>?_;refine⟨_,rfl,a,_,rfl,.inr (SqT.of d1),fun l1 g0=>?_⟩;have w0:=ag g0 (.lst [.int (e.h:Int),.ref c,v]);have y0:upd H l1 (.lst [.int (e.h:Int),.ref c,v]) l1=some (.lst [.int (e.h:Int),.ref c,v]):=ad;generalize upd H l1 (.lst [.int (e.h:Int),.ref c,v])=H1 at w0 y0 ⊢;have c1:=c0.trans w0;refine⟨_,rfl,_,rfl,a,_,rfl,c1 _ _ d1,fun p2 H2 w1 y1=>?_⟩;have y1:H2 p2=some (.tup [.int (e.h:Int),.ref c]):=y1;have c2:=c1.trans w1;refine⟨_,rfl,_,rfl,a,_,_,_,rfl,rfl,SqT.of (c2 _ _ d1),at1,_,rfl,a,_,_,_,rfl,rfl,SqT.of (c2 _ _ d1),at2,sz rfl,fun p4 g2=>?_⟩;have w2:=ag g2 (.tup [.int (n:Int),.ref c,v]);have y2:upd H2 p4 (.tup [.int (n:Int),.ref c,v]) p4=some (.tup [.int (n:Int),.ref c,v]):=ad;generalize upd H2 p4 (.tup [.int (n:Int),.ref c,v])=H3 at w2 y2 ⊢;have c3:=c2.trans w2;refine⟨_,rfl,a,_,_,_,rfl,rfl,SqT.of (c3 _ _ d1),at0,_,rfl,a,_,_,_,rfl,rfl,SqT.of (c3 _ _ d1),at1,sz rfl,fun z1 g3=>?_⟩;have w3:=ag g3 (.tup [.int 0]);have y3:upd H3 z1 (.tup [.int 0]) z1=some (.tup [.int 0]):=ad;generalize upd H3 z1 (.tup [.int 0])=H4 at w3 y3 ⊢;have c4:=c3.trans w3;refine⟨c,z1,_,_,rfl,rfl,c4 _ _ d2,y3,cK (by rw[Zd,Zy,ft.len];omega),fun p5 H5 w4 y4=>?_⟩;have c5:=c4.trans w4;refine⟨_,rfl,a,_,_,_,rfl,rfl,SqT.of (c5 _ _ d1),at2,sz rfl,fun p6 g5=>?_⟩;have w5:=ag g5 (.tup [.int (e.h:Int),.ref p5,v]);have y5:upd H5 p6 (.tup [.int (e.h:Int),.ref p5,v]) p6=some (.tup [.int (e.h:Int),.ref p5,v]):=ad;generalize upd H5 p6 (.tup [.int (e.h:Int),.ref p5,v])=H6 at w5 y5 ⊢;have c6:=c5.trans w5;refine⟨sz rfl,fun sl g6=>hR0 _ _ ?_⟩;clear hR0 R0;have w6:=ag g6 (.lst [.ref l1,.non,.str "0 1 none",.ref p2,.ref p4,.ref p6]);have y6:upd H6 sl (.lst [.ref l1,.non,.str "0 1 none",.ref p2,.ref p4,.ref p6]) sl=some (.lst [.ref l1,.non,.str "0 1 none",.ref p2,.ref p4,.ref p6]):=ad;generalize upd H6 sl (.lst [.ref l1,.non,.str "0 1 none",.ref p2,.ref p4,.ref p6])=H7 at w6 y6 ⊢;have c7:=c6.trans w6;refine aC fun R0 hR0=>?_;refine⟨_,rfl,_,rfl,a,_,_,_,rfl,rfl,SqT.of (c7 _ _ d1),at0,_,rfl,a,_,_,_,rfl,rfl,SqT.of (c7 _ _ d1),at1,c,_,rfl,.inr (SqT.of (c7 _ _ d2)),fun l7 g7=>?_⟩;have w7:=ag g7 (.lst (e.ns.map V.int));have y7:upd H7 l7 (.lst (e.ns.map V.int)) l7=some (.lst (e.ns.map V.int)):=ad;generalize upd H7 l7 (.lst (e.ns.map V.int))=H8 at w7 y7 ⊢;have c8:=c7.trans w7;refine⟨_,rfl,a,_,_,_,rfl,rfl,SqT.of (c8 _ _ d1),at2,sz rfl,fun p7 g8=>?_⟩;have w8:=ag g8 (.tup [.int (e.h:Int),.ref l7,v]);have y8:upd H8 p7 (.tup [.int (e.h:Int),.ref l7,v]) p7=some (.tup [.int (e.h:Int),.ref l7,v]):=ad;generalize upd H8 p7 (.tup [.int (e.h:Int),.ref l7,v])=H9 at w8 y8 ⊢;have c9:=c8.trans w8;refine⟨_,rfl,a,_,_,_,rfl,rfl,SqT.of (c9 _ _ d1),at0,_,rfl,a,_,_,_,rfl,rfl,SqT.of (c9 _ _ d1),at1,sz rfl,fun n8 g9=>?_⟩;have w9:=ag g9 (.tup [.str "nothing"]);have y9:upd H9 n8 (.tup [.str "nothing"]) n8=some (.tup [.str "nothing"]):=ad;generalize upd H9 n8 (.tup [.str "nothing"])=H10 at w9 y9 ⊢;have c10:=c9.trans w9;refine⟨sz rfl,fun p8 g10=>?_⟩;have w10:=ag g10 (.tup [.int (e.h:Int),.ref c,.ref n8]);have y10:upd H10 p8 (.tup [.int (e.h:Int),.ref c,.ref n8]) p8=some (.tup [.int (e.h:Int),.ref c,.ref n8]):=ad;generalize upd H10 p8 (.tup [.int (e.h:Int),.ref c,.ref n8])=H11 at w10 y10 ⊢;have c11:=c10.trans w10;intro dd g11;have w11:=ag g11 (.dT []);have y11:upd H11 dd (.dT []) dd=some (.dT []):=ad;generalize upd H11 dd (.dT [])=H12 at w11 y11 ⊢;have c12:=c11.trans w11;refine⟨sz rfl,fun s2 g12=>?_⟩;have w12:=ag g12 (.lst [.ref p7,.ref p8,.int 7,.ref dd]);have y12:upd H12 s2 (.lst [.ref p7,.ref p8,.int 7,.ref dd]) s2=some (.lst [.ref p7,.ref p8,.int 7,.ref dd]):=ad;generalize upd H12 s2 (.lst [.ref p7,.ref p8,.int 7,.ref dd])=H13 at w12 y12 ⊢;have c13:=c12.trans w12;have ysl:=w12 _ _ (w11 _ _ (w10 _ _ (w9 _ _ (w8 _ _ (w7 _ _ (y6))))));refine⟨sl,s2,_,_,rfl,rfl,ysl,y12,sz rfl,fun s3 g13=>hR0 _ _ ?_⟩;clear hR0 R0;have w13:=ag g13 (.lst ([.ref l1,.non,.str "0 1 none",.ref p2,.ref p4,.ref p6]++[.ref p7,.ref p8,.int 7,.ref dd]));have y13:upd H13 s3 (.lst ([.ref l1,.non,.str "0 1 none",.ref p2,.ref p4,.ref p6]++[.ref p7,.ref p8,.int 7,.ref dd])) s3=some (.lst ([.ref l1,.non,.str "0 1 none",.ref p2,.ref p4,.ref p6]++[.ref p7,.ref p8,.int 7,.ref dd])):=ad;generalize upd H13 s3 (.lst ([.ref l1,.non,.str "0 1 none",.ref p2,.ref p4,.ref p6]++[.ref p7,.ref p8,.int 7,.ref dd]))=H14 at w13 y13 ⊢;have c14:=c13.trans w13;refine aC fun R0 hR0=>?_;refine⟨_,rfl,a,_,_,_,rfl,rfl,SqT.of (c14 _ _ d1),at0,_,rfl,a,_,_,_,rfl,rfl,SqT.of (c14 _ _ d1),at1,_,rfl,a,_,_,_,rfl,rfl,SqT.of (c14 _ _ d1),at0,c,_,_,_,rfl,rfl,SqT.of (c14 _ _ d2),eJ d4,sz rfl,fun ow g14=>hR0 _ _ ?_⟩;clear hR0 R0;have w14:=ag g14 (.tup [.int (e.h:Int),.int (ai e.ns e.h)]);have y14:upd H14 ow (.tup [.int (e.h:Int),.int (ai e.ns e.h)]) ow=some (.tup [.int (e.h:Int),.int (ai e.ns e.h)]):=ad;generalize upd H14 ow (.tup [.int (e.h:Int),.int (ai e.ns e.h)])=H15 at w14 y14 ⊢;have c15:=c14.trans w14;refine aC fun R0 hR0=>?_;refine⟨_,rfl,sz rfl,fun t1 g15=>?_⟩;have w15:=ag g15 (.tup [.str "take",.ref ow]);have y15:upd H15 t1 (.tup [.str "take",.ref ow]) t1=some (.tup [.str "take",.ref ow]):=ad;generalize upd H15 t1 (.tup [.str "take",.ref ow])=H16 at w15 y15 ⊢;have c16:=c15.trans w15;refine⟨sz rfl,fun e0 g16=>?_⟩;have w16:=ag g16 (.tup []);have y16:upd H16 e0 (.tup []) e0=some (.tup []):=ad;generalize upd H16 e0 (.tup [])=H17 at w16 y16 ⊢;have c17:=c16.trans w16;refine⟨sz rfl,fun t2 g17=>?_⟩;have w17:=ag g17 (.tup [.str "put",.non,.ref e0,.str ""]);have y17:upd H17 t2 (.tup [.str "put",.non,.ref e0,.str ""]) t2=some (.tup [.str "put",.non,.ref e0,.str ""]):=ad;generalize upd H17 t2 (.tup [.str "put",.non,.ref e0,.str ""])=H18 at w17 y17 ⊢;have c18:=c17.trans w17;refine⟨_,rfl,ow,_,_,_,rfl,rfl,SqT.of (w17 _ _ (w16 _ _ (w15 _ _ (y14)))),at0,_,rfl,ow,_,_,_,rfl,rfl,SqT.of (w17 _ _ (w16 _ _ (w15 _ _ (y14)))),at1,_,_,rfl,rfl,_,_,rfl,sz rfl,fun f0 g18=>?_⟩;have w18:=ag g18 (.tup [.int (e.h:Int),.int (if ai e.ns e.h-1>1 then ai e.ns e.h-1 else 1)]);have y18:upd H18 f0 (.tup [.int (e.h:Int),.int (if ai e.ns e.h-1>1 then ai e.ns e.h-1 else 1)]) f0=some (.tup [.int (e.h:Int),.int (if ai e.ns e.h-1>1 then ai e.ns e.h-1 else 1)]):=ad;generalize upd H18 f0 (.tup [.int (e.h:Int),.int (if ai e.ns e.h-1>1 then ai e.ns e.h-1 else 1)])=H19 at w18 y18 ⊢;have c19:=c18.trans w18;refine⟨sz rfl,fun t3 g19=>?_⟩;have w19:=ag g19 (.tup [.str "fold",.ref f0,.int 1]);have y19:upd H19 t3 (.tup [.str "fold",.ref f0,.int 1]) t3=some (.tup [.str "fold",.ref f0,.int 1]):=ad;generalize upd H19 t3 (.tup [.str "fold",.ref f0,.int 1])=H20 at w19 y19 ⊢;have c20:=c19.trans w19;refine⟨_,rfl,ow,_,_,_,rfl,rfl,SqT.of (w19 _ _ (w18 _ _ (w17 _ _ (w16 _ _ (w15 _ _ (y14)))))),at1,sz rfl,fun t4 g20=>?_⟩;have w20:=ag g20 (.tup [.str "off",.int (ai e.ns e.h)]);have y20:upd H20 t4 (.tup [.str "off",.int (ai e.ns e.h)]) t4=some (.tup [.str "off",.int (ai e.ns e.h)]):=ad;generalize upd H20 t4 (.tup [.str "off",.int (ai e.ns e.h)])=H21 at w20 y20 ⊢;have c21:=c20.trans w20;refine⟨sz rfl,fun wl g21=>hR0 _ _ ?_⟩;clear hR0 R0;have w21:=ag g21 (.lst [.ref t1,.ref t2,.ref t3,.ref t4]);have y21:upd H21 wl (.lst [.ref t1,.ref t2,.ref t3,.ref t4]) wl=some (.lst [.ref t1,.ref t2,.ref t3,.ref t4]):=ad;generalize upd H21 wl (.lst [.ref t1,.ref t2,.ref t3,.ref t4])=H22 at w21 y21 ⊢;have c22:=c21.trans w21;refine aC fun R0 hR0=>?_;refine⟨_,rfl,.inl ⟨rfl,_,SqL.of y21⟩,?_⟩;refine⟨sz rfl,fun x0 g22=>?_⟩;have w22:=ag g22 (.tup [.int 0]);have y22:upd H22 x0 (.tup [.int 0]) x0=some (.tup [.int 0]):=ad;generalize upd H22 x0 (.tup [.int 0])=H23 at w22 y22 ⊢;have c23:=c22.trans w22;refine⟨"a",61,rfl,rfl,(by decide +kernel),by decide,by decide,fun yy ly cy=>?_⟩;refine⟨sz rfl,fun t5 g23=>?_⟩;have w23:=ag g23 (.tup [.str "put",.non,.ref x0,.str yy]);have y23:upd H23 t5 (.tup [.str "put",.non,.ref x0,.str yy]) t5=some (.tup [.str "put",.non,.ref x0,.str yy]):=ad;generalize upd H23 t5 (.tup [.str "put",.non,.ref x0,.str yy])=H24 at w23 y23 ⊢;have c24:=c23.trans w23;have ywl:=w23 _ _ (w22 _ _ (y21));refine⟨wl,_,_,rfl,rfl,ywl,dM (Nat.le_of_ble_eq_true rfl),hR0 _ _ ?_⟩;clear hR0 R0;have fwl:=c21.free g21;have kW:∀b o,H24 b=some o->b≠wl->upd H24 wl (.lst ([.ref t1,.ref t2,.ref t3,.ref t4]++[.ref t5])) b=some o:=fun b o eb nb=>by rw[af nb];exact eb
 have tW:TS H24 (upd H24 wl (.lst ([.ref t1,.ref t2,.ref t3,.ref t4]++[.ref t5]))):=mP fun zs z=>by rw[ywl]at z;cases z
 have ew:upd H24 wl (.lst ([.ref t1,.ref t2,.ref t3,.ref t4]++[.ref t5])) wl=some (.lst [.ref t1,.ref t2,.ref t3,.ref t4,.ref t5]):=ad;have sW:=iP (o:=.lst ([.ref t1,.ref t2,.ref t3,.ref t4]++[.ref t5])) c24 fwl;have f_l1:=kW _ _ (w23 _ _ (w22 _ _ (w21 _ _ (w20 _ _ (w19 _ _ (w18 _ _ (w17 _ _ (w16 _ _ (w15 _ _ (w14 _ _ (w13 _ _ (w12 _ _ (w11 _ _ (w10 _ _ (w9 _ _ (w8 _ _ (w7 _ _ (w6 _ _ (w5 _ _ (w4 _ _ (w3 _ _ (w2 _ _ (w1 _ _ (y0)))))))))))))))))))))))) (aj (w20 _ _ (w19 _ _ (w18 _ _ (w17 _ _ (w16 _ _ (w15 _ _ (w14 _ _ (w13 _ _ (w12 _ _ (w11 _ _ (w10 _ _ (w9 _ _ (w8 _ _ (w7 _ _ (w6 _ _ (w5 _ _ (w4 _ _ (w3 _ _ (w2 _ _ (w1 _ _ (y0))))))))))))))))))))) g21);have f_p4:=tW _ _ (w23 _ _ (w22 _ _ (w21 _ _ (w20 _ _ (w19 _ _ (w18 _ _ (w17 _ _ (w16 _ _ (w15 _ _ (w14 _ _ (w13 _ _ (w12 _ _ (w11 _ _ (w10 _ _ (w9 _ _ (w8 _ _ (w7 _ _ (w6 _ _ (w5 _ _ (w4 _ _ (w3 _ _ (y2))))))))))))))))))))));have f_p6:=tW _ _ (w23 _ _ (w22 _ _ (w21 _ _ (w20 _ _ (w19 _ _ (w18 _ _ (w17 _ _ (w16 _ _ (w15 _ _ (w14 _ _ (w13 _ _ (w12 _ _ (w11 _ _ (w10 _ _ (w9 _ _ (w8 _ _ (w7 _ _ (w6 _ _ (y5)))))))))))))))))));have f_l7:=kW _ _ (w23 _ _ (w22 _ _ (w21 _ _ (w20 _ _ (w19 _ _ (w18 _ _ (w17 _ _ (w16 _ _ (w15 _ _ (w14 _ _ (w13 _ _ (w12 _ _ (w11 _ _ (w10 _ _ (w9 _ _ (w8 _ _ (y7))))))))))))))))) (aj (w20 _ _ (w19 _ _ (w18 _ _ (w17 _ _ (w16 _ _ (w15 _ _ (w14 _ _ (w13 _ _ (w12 _ _ (w11 _ _ (w10 _ _ (w9 _ _ (w8 _ _ (y7)))))))))))))) g21);have f_p7:=tW _ _ (w23 _ _ (w22 _ _ (w21 _ _ (w20 _ _ (w19 _ _ (w18 _ _ (w17 _ _ (w16 _ _ (w15 _ _ (w14 _ _ (w13 _ _ (w12 _ _ (w11 _ _ (w10 _ _ (w9 _ _ (y8))))))))))))))));have f_n8:=tW _ _ (w23 _ _ (w22 _ _ (w21 _ _ (w20 _ _ (w19 _ _ (w18 _ _ (w17 _ _ (w16 _ _ (w15 _ _ (w14 _ _ (w13 _ _ (w12 _ _ (w11 _ _ (w10 _ _ (y9)))))))))))))));have f_p8:=tW _ _ (w23 _ _ (w22 _ _ (w21 _ _ (w20 _ _ (w19 _ _ (w18 _ _ (w17 _ _ (w16 _ _ (w15 _ _ (w14 _ _ (w13 _ _ (w12 _ _ (w11 _ _ (y10))))))))))))));have f_dd:=kW _ _ (w23 _ _ (w22 _ _ (w21 _ _ (w20 _ _ (w19 _ _ (w18 _ _ (w17 _ _ (w16 _ _ (w15 _ _ (w14 _ _ (w13 _ _ (w12 _ _ (y11))))))))))))) (aj (w20 _ _ (w19 _ _ (w18 _ _ (w17 _ _ (w16 _ _ (w15 _ _ (w14 _ _ (w13 _ _ (w12 _ _ (y11)))))))))) g21);have f_s3:=kW _ _ (w23 _ _ (w22 _ _ (w21 _ _ (w20 _ _ (w19 _ _ (w18 _ _ (w17 _ _ (w16 _ _ (w15 _ _ (w14 _ _ (y13))))))))))) (aj (w20 _ _ (w19 _ _ (w18 _ _ (w17 _ _ (w16 _ _ (w15 _ _ (w14 _ _ (y13)))))))) g21);have f_ow:=tW _ _ (w23 _ _ (w22 _ _ (w21 _ _ (w20 _ _ (w19 _ _ (w18 _ _ (w17 _ _ (w16 _ _ (w15 _ _ (y14))))))))));have f_t1:=tW _ _ (w23 _ _ (w22 _ _ (w21 _ _ (w20 _ _ (w19 _ _ (w18 _ _ (w17 _ _ (w16 _ _ (y15)))))))));have f_e0:=tW _ _ (w23 _ _ (w22 _ _ (w21 _ _ (w20 _ _ (w19 _ _ (w18 _ _ (w17 _ _ (y16))))))));have f_t2:=tW _ _ (w23 _ _ (w22 _ _ (w21 _ _ (w20 _ _ (w19 _ _ (w18 _ _ (y17)))))));have f_f0:=tW _ _ (w23 _ _ (w22 _ _ (w21 _ _ (w20 _ _ (w19 _ _ (y18))))));have f_t3:=tW _ _ (w23 _ _ (w22 _ _ (w21 _ _ (w20 _ _ (y19)))));have f_t4:=tW _ _ (w23 _ _ (w22 _ _ (w21 _ _ (y20))));have f_x0:=tW _ _ (w23 _ _ (y22));have f_t5:=tW _ _ (y23);have f_p2:=tW _ _ (w23 _ _ (w22 _ _ (w21 _ _ (w20 _ _ (w19 _ _ (w18 _ _ (w17 _ _ (w16 _ _ (w15 _ _ (w14 _ _ (w13 _ _ (w12 _ _ (w11 _ _ (w10 _ _ (w9 _ _ (w8 _ _ (w7 _ _ (w6 _ _ (w5 _ _ (w4 _ _ (w3 _ _ (w2 _ _ (y1)))))))))))))))))))))));have f_p5:=tW _ _ (w23 _ _ (w22 _ _ (w21 _ _ (w20 _ _ (w19 _ _ (w18 _ _ (w17 _ _ (w16 _ _ (w15 _ _ (w14 _ _ (w13 _ _ (w12 _ _ (w11 _ _ (w10 _ _ (w9 _ _ (w8 _ _ (w7 _ _ (w6 _ _ (w5 _ _ (y4))))))))))))))))))));have D1:=sW _ _ d1;have D2:=sW _ _ d2;generalize upd H24 wl (.lst ([.ref t1,.ref t2,.ref t3,.ref t4]++[.ref t5]))=HW at ew sW D1 D2 f_l1 f_p4 f_p6 f_l7 f_p7 f_n8 f_p8 f_dd f_s3 f_ow f_t1 f_e0 f_t2 f_f0 f_t3 f_t4 f_x0 f_t5 f_p2 f_p5 ⊢;clear kW tW ywl w0 y0 w1 y1 w2 y2 w3 y3 w4 y4 w5 y5 w6 y6 w7 y7 w8 y8 w9 y9 w10 y10 w11 y11 w12 y12 w13 y13 w14 y14 w15 y15 w16 y16 w17 y17 w18 y18 w19 y19 w20 y20 w21 y21 w22 y22 w23 y23;have h0:(0:Int)<=(e.h:Int):=Int.natCast_nonneg _;have h1:(e.h:Int)<(n:Int):=by have:=ft.hd;omega
 have ten_ok:∀x∈([.ref l1,.non,.str "0 1 none",.ref p2,.ref p4,.ref p6,.ref p7,.ref p8,.int 7,.ref dd]:List V),DeedR K HW (n:Int) x false:=by
  intro x hx;simp only[Zs,Z1,YN]at hx;rcases hx with rfl|rfl|rfl|rfl|rfl|rfl|rfl|rfl|rfl|rfl
  ·exact .flat (.lst f_l1) (bA f_l1 rfl)
  ·exact .flat .non rfl
  ·exact .flat (.str _) rfl
  ·exact .len f_p2 (by simp)
  ·exact .hand f_p4 (.int _) (by show(decide ((0:Int)<=(n:Int))&&decide ((n:Int)<(n:Int)))=false;rw[decide_eq_false (Int.lt_irrefl _),Bool.and_false])
  ·refine .clock f_p6 h0 h1 ⟨⟨_,.tup f_p5⟩,fun a' xs ha hx=>?_⟩ ?_
   ·cases ha;rw[f_p5]at hx;cases hx;refine⟨by rw[Zj,Zd,ft.len,Zy];omega,fun x hx=>?_⟩;rcases ZK.mp hx with hx|hx
    ·obtain⟨z,_,rfl⟩:=Zu.mp hx;exact⟨_,.int z⟩
    ·rw[Zr.mp hx];exact⟨_,.int 0⟩
   ·rw[aU f_p5];show(decide ((((e.ns.map V.int)++[V.int 0]).length:Int)=(n:Int))&&_)=false;rw[decide_eq_false (by rw[Zj,Zd,ft.len,Zy];omega),Yz]
  ·refine .clock f_p7 h0 h1 ⟨⟨_,.lst f_l7⟩,fun a' xs ha hx=>?_⟩ (by rw[aU f_l7];rfl);cases ha;rw[f_l7]at hx;cases hx
  ·exact .is f_p8 h0 h1 D2 (by rw[ft.len]) ft.nn (by omega) (by rw[ZP];exact ft.own) (.noWord f_n8 vB)
  ·exact .flat (.int 7) rfl
  ·exact .flat (.dT f_dd) (bA f_dd rfl)
 have kb:jk (e.h:Int) e.ns (e.h:Int) (ai e.ns e.h)=false:=by unfold jk nmL;rw[ZP,decide_eq_true (Eq.refl [(e.h:Int),ai e.ns e.h])];simp
 have what_ok:∀x∈([.ref t1,.ref t2,.ref t3,.ref t4,.ref t5]:List V),WhatR K HW (e.h:Int) e.ns x false:=by
  intro x hx;simp only[Zs,Z1,YN]at hx;rcases hx with rfl|rfl|rfl|rfl|rfl
  ·refine .is (ks:=[.i]) (bs:=[false]) f_t1 CH (by decide) ⟨rfl,rfl,fun i k v b a1 a2 a3=>?_⟩ rfl
   match i with
   |0 =>cases a1;cases a2;cases a3;have:=ItemR.is (K:=K) (hd:=(e.h:Int)) (ns:=e.ns) f_ow;rw[kb]at this;exact .it this
   |i+1=>simp at a1
  ·refine .is (ks:=[.u,.p,.t]) (bs:=[true,false,true]) f_t2 rf (by decide) ⟨rfl,rfl,fun i k v b a1 a2 a3=>?_⟩ rfl
   match i with
   |0=>cases a1;cases a2;cases a3;exact .u0
   |1 =>cases a1;cases a2;cases a3;refine .pl ⟨⟨_,.tup f_e0⟩,fun a' xs ha hx=>?_⟩ (by rw[aX f_e0];rfl);cases ha;rw[f_e0]at hx;cases hx;exact⟨by simp,fun x hx=>nomatch hx⟩
   |2 =>cases a1;cases a2;cases a3;exact .tx (by decide +kernel) (by decide +kernel) (by decide +kernel)
   |i+3=>simp at a1
  ·refine .is (ks:=[.i,.b]) (bs:=[jk (e.h:Int) e.ns (e.h:Int) (if ai e.ns e.h-1>1 then ai e.ns e.h-1 else 1),false]) f_t3 BI (by decide) ⟨rfl,rfl,fun i k v b a1 a2 a3=>?_⟩ (by simp)
   match i with
   |0 =>cases a1;cases a2;cases a3;exact .it (.is f_f0)
   |1 =>cases a1;cases a2;cases a3;exact .bl (.int 1) rfl
   |i+2=>simp at a1
  ·refine .is (ks:=[.n]) (bs:=[false]) f_t4 xY (by decide) ⟨rfl,rfl,fun i k v b a1 a2 a3=>?_⟩ rfl
   match i with
   |0 =>cases a1;cases a2;cases a3;refine .nu (.int _) ?_;show(decide (1<=ai e.ns e.h)&&decide (ai e.ns e.h<ai e.ns (e.h:Int).toNat))=false;rw[ZP,decide_eq_false (Int.lt_irrefl _),Bool.and_false]
   |i+1=>simp at a1
  ·refine .is (ks:=[.u,.p,.t]) (bs:=[true,true,false]) f_t5 rf (by decide) ⟨rfl,rfl,fun i k v b a1 a2 a3=>?_⟩ rfl
   match i with
   |0=>cases a1;cases a2;cases a3;exact .u0
   |1 =>cases a1;cases a2;cases a3;refine .pl ⟨⟨_,.tup f_x0⟩,fun a' xs ha hx=>?_⟩ (by rw[aX f_x0];rfl);cases ha;rw[f_x0]at hx;cases hx;refine⟨by simp,fun x hx=>?_⟩;rw[Zr.mp hx];exact⟨_,.int 0⟩
   |2 =>cases a1;cases a2;cases a3;have l61:yy.length=61:=ly;refine .tx (by rw[l61];decide) (Array.all_eq_true_iff_forall_mem.mpr fun x hx=>?_) (by rw[l61];simp);have:=cy x (Array.mem_toList_iff.mpr hx);rw[E2]at this;rw[Zr.mp this];decide
   |i+3=>simp at a1
 have f_s3':HW s3=some (.lst [.ref l1,.non,.str "0 1 none",.ref p2,.ref p4,.ref p6,.ref p7,.ref p8,.int 7,.ref dd]):=f_s3;have l10:([.ref l1,.non,.str "0 1 none",.ref p2,.ref p4,.ref p6,.ref p7,.ref p8,.int 7,.ref dd]:List V).length=10:=rfl;generalize([.ref l1,.non,.str "0 1 none",.ref p2,.ref p4,.ref p6,.ref p7,.ref p8,.int 7,.ref dd]:List V)=tn at ten_ok f_s3' l10;have l5:([.ref t1,.ref t2,.ref t3,.ref t4,.ref t5]:List V).length=5:=rfl;generalize([.ref t1,.ref t2,.ref t3,.ref t4,.ref t5]:List V)=ts at what_ok ew l5;refine⟨_,rfl,_,rfl,wl,rfl,⟨_,SqL.of ew⟩,?_⟩;refine fA (xs:=ts) (fun i zs H'=>Same HW H'/\zs.length<=i/\Paired (fun(z w:V)=>∃b,z=.ref b/\H' b=some (.tup [.int (e.h:Int),.ref c,w])) zs (ts.take i)) (by omega) (fun _ _ _ z=>z.2.1) ⟨Same.refl _,Zb _,.nil⟩ (fun i zs H' z=>SqL.of (z.1 _ _ ew)) ?_ ?_
 ·rintro i zs H' x hx ⟨sm,lz,pz⟩ Y hY;refine⟨_,rfl,a,_,_,_,rfl,rfl,SqT.of (sm _ _ D1),at0,_,rfl,a,_,_,_,rfl,rfl,SqT.of (sm _ _ D1),at1,_,rfl,sz rfl,fun tb gtb=>hY _ _ ?_⟩;have wb:=ag gtb (.tup [.int (e.h:Int),.ref c,x]);refine⟨sm.trans wb,by rw[Zj];exact Y5 lz,?_⟩;rw[cO hx];refine Paired.snoc (Paired.mapP pz fun z w' (h:∃b,z=.ref b/\H' b=some (.tup [.int (e.h:Int),.ref c,w']))=>?_) ⟨tb,rfl,ad⟩;obtain⟨b,h1,h2⟩:=h;exact⟨b,h1,wb _ _ h2⟩
 rintro zs cl H' ⟨sm,lz,pz⟩ gcl;rw[YE]at pz;have lz5:zs.length=5:=by rw[Paired.length pz,l5]
 have wc:=ag gcl (.lst zs);refine⟨s3,cl,_,_,rfl,rfl,wc _ _ (sm _ _ f_s3'),ad,cK (by omega),fun fl gfl=>?_⟩;have wf:=ag gfl (.lst (tn++zs));have i0:=x8 cz (show(15:Int)≠0 by decide);have i1:=Int.emod_lt_of_pos cz (show(0:Int)<15 by decide);obtain⟨j,hj⟩:∃j:Nat,cz%15=(j:Int):=⟨(cz%15).toNat,by omega⟩
 have sF:=sm.trans (wc.trans wf);have all:∀x∈tn++zs,DeedR K (upd (upd H' cl (.lst zs)) fl (.lst (tn++zs))) (n:Int) x false:=fun x hx=>by
  rcases ZK.mp hx with hx|hx
  ·exact(ten_ok x hx).same sF
  ·obtain⟨i,hi,rfl⟩:=ZS.mp hx;obtain⟨w',hw',b,ez,eb⟩:=mq pz (Ze hi);rw[ez];exact .is (wf _ _ (wc _ _ eb)) h0 h1 (sF _ _ D2) (by rw[ft.len]) ft.nn (by omega) (by rw[ZP];exact ft.own) ((what_ok _ (YG hw')).same sF)
 have hj15:j<(tn++zs).length:=by rw[Zj,lz5,l10];omega
 refine⟨_,rfl,_,_,rfl,rfl,(by show(0:Int)<15;decide),fl,_,_,_,rfl,rfl,SqL.of ad,(by rw[hj];exact fN (Ze hj15)),q _ _ (sW.trans sF) (all _ (ZI hj15))⟩
theorem Ac{a b c d:Int}(h1:HT.lexLt [a,b] [c,d]=false)(h2:HT.lexLt [c,d] [a,b]=false):[a,b]=[c,d]:=by
 rw[HT.lexLt_cons,HT.lexLt_cons,HT.lexLt_nil_nil]at h1 h2;by_cases e:a=c
 ·rw[HK e]at h1;rw[HK e.symm]at h2;by_cases e2:b=d
  ·rw[e,e2]
  ·rw[HH e2]at h1;rw[HH fun z=>e2 z.symm]at h2;have:=YF h1;have:=YF h2;omega
 ·rw[HH e]at h1;rw[HH fun z=>e z.symm]at h2;have:=YF h1;have:=YF h2;omega
theorem jU{H:Hp}{l:Addr}{ys:List V}{ks:List (List Int)}(e:H l=some (.lst ys))(x:NsI H ys ks):Dt H (.list (ks.map fun k=>PyData.tuple (k.map .int))) (.ref l)/\PyData.canLay0 (.list (ks.map fun k=>PyData.tuple (k.map .int)))=true/\PyData.depth (.list (ks.map fun k=>PyData.tuple (k.map .int)))<=6:=by
 obtain⟨h1,h2,h3⟩:=vC x;refine⟨?_,by simpa[PyData.canLay0]using h2,?_⟩
 ·simp only[Dt];exact⟨l,_,rfl,.inl e,h1⟩
 ·simp only[PyData.depth];omega
abbrev jr:Stmt:=top 49
abbrev wM:List Str:=["_law_script","_law_k"]
theorem wj:FnScope wM ["_law_script","_law_k"] (am jr):=⟨rfl,rfl,rfl,by decide +kernel,rfl,by decide +kernel,by decide +kernel⟩
theorem vJ{f:Addr}{fd:FuncData}(F:Fun K "_law_cell_at" "_law_cell_at" jr f fd)(a7:mg "len" = none):FnOk P w K mg base CX0 1 f fd ["_law_script","_law_k"] (yD K):=by
 refine F.okQ wj (fun vs H Q E h=>?_) (fun cdv A outer s H vs Q E hr h=>?_)
 ·obtain⟨a,ns,k,rfl,_⟩:=h;rfl
 obtain⟨a,ns,k,rfl,hS,h0,q⟩:=h;refine⟨_,(b_c (bo (aY vG (q_v 1) (q_B cP a7 Yf (q_a (q_v 0) ah))) (b_1 (au (ax jE (q_v 0) (q_v 1)))) b_0)
   (b_1 (au al))),?_⟩
 try rw[cxK]
 refine⟨_,rfl,_,rfl,a,_,rfl,.inl hS,_,_,rfl,rfl,_,rfl,?_⟩;refine iA (fun c=>?_) (fun c=>?_)
 ·have c':k<((ns.map V.int).length:Int):=Z3 c;rw[Zd]at c';exact⟨_,rfl,_,rfl,a,_,_,_,rfl,rfl,hS,cF h0 c',q⟩
 ·have c':¬k<((ns.map V.int).length:Int):=YF (Z4.mpr c);rw[Zd]at c';rw[zE h0 c']at q;exact q
theorem zR{x q:Str}{st:Stmt}{f c T:Addr}{fd:FuncData}(a:PySem.W.nsIn K mainGlobals x=some (some (.ref f)))(F:Fun K x q st f fd)(t:PySem.W.tabIn K x=some (c,T)):fd.code=.ref c:=by obtain⟨oc,od,kV,dc,pm,an,cd,ct,sl,rfl,l0,c0⟩:=id F.ex;exact AW a l0 t
theorem KT.seq{H H':Hp}{a:Addr}{xs:List V}(s:KT H H')(h:SqL K H a xs):SqL K H' a xs:=by
 rcases h with(h|⟨o,h⟩)|h
 ·exact .inl (.inl (s _ _ h fun ps z=>by cases z))
 ·exact .inl (.inr ⟨o,s _ _ h fun ps z=>by cases z⟩)
 ·exact .inr h
def qi(K:PySem.W.Frag)(T:Addr):Sp:=fun vs H Q _=>∃(a:Addr) (ns:List Int),vs=[.ref a]/\SqL K H a (ns.map V.int)/\ns.length<=63/\H T=some (.tbl #[])/\∀H',Q (.bl true) H'
theorem gW(L:LT):(aq L).length=L.length:=by unfold aq;rw[Zd]
theorem xK{L:LT}{i:Nat}{p:List Key×V}(h:(aq L)[i]?=some p):∃y,L[i]?=some y/\p=(nmK y.2,.ref y.1):=by unfold aq at h;rw[ZB]at h;obtain⟨y,hy,e⟩:=YK.mp h;exact⟨y,hy,e.symm⟩
theorem pD{H HF HG:Hp}{a:Addr}{u:HO}(h:H a=some u)(e1:∀b o,H b=some o->b≠a->HF b=some o)(w:Same HF HG):Same H (upd HG a u):=fun b o e=>by
 by_cases c:b=a
 ·rw[c,ad,<-h,<-c,e]
 ·rw[af c];exact w _ _ (e1 _ _ e c)
theorem C7{ns:List Int}(h:ns.length<=63):∃cs:List Int,cV (ns.map V.int) (some 1) none=cs.map V.int/\cs.length<=62:=by
 refine⟨(ns.drop (HT.sIx (ns.map V.int).length 0 (some 1))).take (HT.sIx (ns.map V.int).length (ns.map V.int).length none-HT.sIx (ns.map V.int).length 0 (some 1)),?_,?_⟩
 ·unfold cV;rw[List.map_take,List.map_drop]
 ·rw[Z0,Yo,Zd,HT.sIx_none,mC (by decide)];have:(1:Int).toNat=1:=rfl;omega
theorem iJ{n:Nat}{L Kp M M':LT}(u:UN n (vals L))(uK:UN n (vals Kp))(hv:vals Kp=vals L)(rd:RDY L M)(rdK:RDY Kp M'):vals M=vals M':=by
 obtain⟨uM,cM,sM,oM⟩:=yp u rd;obtain⟨uM',cM',sM',oM'⟩:=yp uK rdK;have subV:∀{A B:LT},RDY A B->∀d∈vals B,d∈vals A:=fun{A B} r d hd=>by obtain⟨x,hx,rfl⟩:=Zu.mp hd;exact Zu.mpr ⟨x,r.sub x hx,rfl⟩
 have s1:∀d∈vals M,d∈vals M':=yL cM (fun d hd=>by rw[hv];exact subV rd d hd) sM';have s2:∀d∈vals M',d∈vals M:=yL cM' (fun d hd=>by rw[<-hv];exact subV rdK d hd) sM;have nd1:(vals M).Nodup:=uM.uni.imp fun{a b} h e=>h (by rw[e]);have nd2:(vals M').Nodup:=uM'.uni.imp fun{a b} h e=>h (by rw[e]);exact yA oM oM' ((List.perm_ext_iff_of_nodup nd1 nd2).mpr fun d=>⟨s1 d,s2 d⟩)
theorem pG{L Kp M M' N B:LT}(hv:vals Kp=vals L)(ev:vals M=vals M')(wt:Wt L M N)(pB:B.Perm (Kp.filter (aJ M')))(sB:B.Pairwise fun x y=>HT.lexLt (nmZ y.2) (nmZ x.2)=false):aQ N=aQ B:=by
 have fl:∀A S:LT,aQ (A.filter (aJ S))=(aQ A).filter fun z=>!decide (z∈aQ S):=fun A S=>by unfold aQ;rw[List.filter_map];rfl
 have h1:(aQ N).Perm (aQ (L.filter (aJ M))):=wt.1.map fun x:Addr×Dd=>nmZ x.2;have h2:(aQ B).Perm (aQ (Kp.filter (aJ M'))):=pB.map fun x:Addr×Dd=>nmZ x.2;rw[fl,kO ev,<-kO hv,<-fl]at h1;refine List.Perm.eq_of_pairwise (le:=fun x y:List Int=>HT.lexLt y x=false) (fun a b ha hb h k=>?_) ?_ ?_ (h1.trans h2.symm)
 ·obtain⟨x,_,rfl⟩:=Zu.mp ha;obtain⟨y,_,rfl⟩:=Zu.mp hb;exact Ac k h
 ·unfold aQ;rw[YZ];exact wt.2
 ·unfold aQ;rw[YZ];exact sB
def HeldOk(H:Hp)(hl:Addr):Prop:=∃vs,H hl=some (.lst vs)/\vs.length<=2/\∀v∈vs,∃r xs,v=.ref r/\H r=some (.lst xs)/\xs.length<=63/\r≠hl
theorem HeldOk.keep{H H':Hp}{hl:Addr}(x:HeldOk H hl)(s:∀b xs,H b=some (.lst xs)->H' b=some (.lst xs)):HeldOk H' hl:=by obtain⟨vs,h1,h2,h3⟩:=x;refine⟨vs,s _ _ h1,h2,fun v hv=>?_⟩;obtain⟨r,xs,e1,e2,e3⟩:=h3 v hv;exact⟨r,xs,e1,s _ _ e2,e3⟩
def RowsAt(H:Hp)(hl:Addr)(vs:List V):Prop:=H hl=some (.lst vs)/\∀v∈vs,∃r xs,v=.ref r/\H r=some (.lst xs)/\xs.length<=63/\r≠hl
theorem RowsAt.keep{H H':Hp}{hl:Addr}{vs:List V}(x:RowsAt H hl vs)(s:∀b xs,H b=some (.lst xs)->H' b=some (.lst xs)):RowsAt H' hl vs:=by refine⟨s _ _ x.1,fun v hv=>?_⟩;obtain⟨r,xs,e1,e2,e3⟩:=x.2 v hv;exact⟨r,xs,e1,s _ _ e2,e3⟩
theorem RowsAt.far{H:Hp}{hl D:Addr}{vs:List V}(x:RowsAt H hl vs)(n:H D=none):∀v∈vs,∀r,v=.ref r->r≠D:=fun v hv r er=>by obtain⟨r',xs,e1,e2,_⟩:=x.2 v hv;rw[e1]at er;cases er;exact aj e2 n
theorem uQ(A:LT)(g:Nat):(((A.filter fun x=>decide (x.2.h=g)).length:Nat):Int)=fg (vals A) g:=by unfold fg vals;rw[List.countP_map,List.countP_eq_length_filter];rfl
abbrev jX:Stmt:=top 57
abbrev E1:List Str:=["_law_script","_law_hands","_law_store","_law_kept","_law_held","_law_cell","_law_deed_here","_law_good","_law_ready","_law_done","_law_left","_law_clock","_law_row"]
theorem bM:FnScope E1 ["_law_script"] (am jX):=⟨rfl,rfl,rfl,by decide +kernel,rfl,by decide +kernel,by decide +kernel⟩
theorem Dz{f CS T:Addr}{fd:FuncData}(F:Fun K "law" "law" jX f fd)(GG:Fn P w K mg base 1 "_law_cell_at" ["_law_script","_law_k"] (yD K))(GY:MkFn P w K mg base 1 CS "Store" ["self","hands"] (yF CS))(Hs:Fn P w K mg base 1 "_law_deed" ["_law_cell","_law_hands"] ul)(GH:Fn P w K mg base 1 "_law_no_deed" ["_law_deed_here","_law_cell","_law_hands"] (rS K))(Hf:Fn P w K mg base 10 "_law_heard" ["_law_store","_law_kept","_law_deed_here","_law_good"] (uh K CS))(i7:Fn P w K mg base 5 "ready_of" ["deeds"] (oB T))(e9:MFn P w K mg base 6 CS "ready" ["self"] (iQ CS T))(n9:MFn P w K mg base 7 CS "waiting" ["self"] (yI CS T))(Hg:MFn P w K mg base 7 CS "clock" ["self"] (rM CS T))(t7:mg "range" = none)(a7:mg "len" = none)(i4:mg "sorted" = none)(a8:mg "tuple" = none):FnOk P w K mg base CX0 11 f fd ["_law_script"] (qi K T):=by
 refine F.okQ bM (fun vs H Q E h=>?_) (fun cdv A outer s H vs Q E hr h=>?_)
 ·obtain⟨a,ns,rfl,_⟩:=h;rfl
 obtain⟨a,sc,rfl,hS,hlen,hT,hq⟩:=h;refine⟨_,(b_c (aH (i:=1) bM.nd (bt jV al (bt eV (aO GG (hr.mono (by decide)) (q_a (q_v 0) (q_a al ah))) al)))
   (b_c (aH (i:=2) bM.nd (Ek GY (hr.mono (by decide)) (q_a (q_v 1) ah)))
   (b_c (aH (i:=3) bM.nd qh)
   (b_c (aH (i:=4) bM.nd (iI ah))
   (b_c (mE PassesOwn.never rfl (dR (rk Dq (q_v 0) (rj al) rh)) (bj (i:=5) bM.nd) (b_c (aH (i:=6) bM.nd (aO Hs (hr.mono (by decide)) (q_a (q_v 5) (q_a (q_v 1) ah))))
   (b_c (aH (i:=7) bM.nd (bO jm (bt eV (bt jl (q_v 5) al) al) al))
   (b_c (bo (cw (bU (q_v 7))) (b_1 (aH (i:=6) bM.nd (aO GH (hr.mono (by decide)) (q_a (q_v 6) (q_a (bt jl (q_v 5) al) (q_a (q_v 1) ah)))))) b_0)
   (b_c (bo (cw (bU (aO Hf (hr.mono (by decide)) (q_a (q_v 2) (q_a (q_v 3) (q_a (q_v 6) (q_a (q_v 7) ah))))))) (b_1 (au cJ)) b_0)
   (b_1 (bo (aY dW (bt eV (q_v 5) al) al) (b_1 (aH (i:=4) bM.nd (iI (q_a (cS e9 (hr.mono (by decide)) (q_v 2)) (q_a (cS n9 (hr.mono (by decide)) (q_v 2)) ah))))) b_0)))))))
   (b_c (aH (i:=8) bM.nd (aO i7 (hr.mono (by decide)) (q_a (rm (bY (own:=["_law_name"]) (⟨rfl,by decide +kernel,by decide +kernel,rfl,⟨rfl,rfl,trivial⟩⟩:CompOk _ _ [3] ["_law_kept"]) rfl (vh (q_v 3)) (fun _ _ _ _=>bj (i:=0) (show (["_law_name","_law_kept"]:List Str).Nodup by decide +kernel)) (bz (by decide)) (fun _ _ _ _=>fh) (fun _ _ _ _=>(jo hr.units (q_v 1) (q_v 0))))) ah)))
   (b_c (aH (i:=9) bM.nd (bY (own:=["_law_deed_here"]) (⟨rfl,by decide +kernel,by decide +kernel,rfl,trivial⟩:CompOk _ _ [] []) rfl (dR (q_v 8)) (fun _ _ _ _=>bj (i:=0) (show (["_law_deed_here"]:List Str).Nodup by decide +kernel)) (bz (by decide)) (fun _ _ _ _=>fh) (fun _ _ _ _=>(aG (q_a (ax (gB (K:=K) rfl) (q_v 0) al) (q_a (ax (gB (K:=K) rfl) (ax (gB (K:=K) rfl) (q_v 0) al) (ax (gB (K:=K) rfl) (q_v 0) al)) ah))))))
   (b_c (aH (i:=10) bM.nd (q_B tz i4 PyProof.Rows.boot_sorted (q_a (rm (bY (own:=["_law_name"]) (⟨rfl,by decide +kernel,by decide +kernel,rfl,⟨rfl,rfl,trivial⟩⟩:CompOk _ _ [9] ["_law_done"]) rfl (vh (q_v 3)) (fun _ _ _ _=>bj (i:=0) (show (["_law_name","_law_done"]:List Str).Nodup by decide +kernel)) (bz (by decide)) (fun _ _ _ _=>(zW (aY (ph (K:=K) (k:=1) rfl (hr.mono (by decide))) (q_v 0) (q_v 1)))) (fun _ _ _ _=>(q_v 0)))) ah)))
   (b_c (aH (i:=11) bM.nd (og A7 a8 ci (q_a (Cs (own:=["_law_hand"]) (⟨rfl,by decide +kernel,by decide +kernel,rfl,fun _ _=>rfl,fun _=>rfl,rfl,⟨rfl,rfl,trivial⟩⟩:CompOk1 _ _ "_law_hand" [9] ["_law_done"]) rfl (xF t7 (q_a (q_v 1) ah)) (fun _ _ _ _=>bj (i:=0) (show (["_law_hand","_law_done"]:List Str).Nodup by decide +kernel)) (bz (by decide)) (fun _ _ _ _=>fh) (fun _ _ _ _=>(q_B (C1 (K:=K) rfl) a7 Yf (q_a (bY (own:=["_law_name"]) (⟨rfl,by decide +kernel,by decide +kernel,rfl,⟨rfl,rfl,trivial⟩⟩:CompOk _ _ [0] ["_law_hand"]) rfl (BK (K:=K) rfl (q_v 1)) (fun _ _ _ _=>bj (i:=0) (show (["_law_name","_law_hand"]:List Str).Nodup by decide +kernel)) (bz (by decide)) (fun _ _ _ _=>(zW (aY dW (ax (gB (K:=K) rfl) (q_v 0) al) (q_v 1)))) (fun _ _ _ _=>(q_v 0))) ah)))) ah)))
   (b_c (mE PassesOwn.never rfl (dR (q_v 4)) (bj (i:=12) bM.nd) (b_1 (rA (vX (q_v 12) fE))))
   (b_c (bo (t_w (fy (aY (ml hr.units) (cS e9 (hr.mono (by decide)) (q_v 2)) (q_v 8)) (fy (aY (ml hr.units) (cS n9 (hr.mono (by decide)) (q_v 2)) (q_v 10)) (fL (aY (xV hr.units) (cS Hg (hr.mono (by decide)) (q_v 2)) (q_v 11)))))) (b_1 (au cJ)) b_0)
   (b_1 (au (bQ (bO (vE hr.units) (cS n9 (hr.mono (by decide)) (q_v 2)) (q_v 10)) (bR (bO (vE hr.units) (cS e9 (hr.mono (by decide)) (q_v 2)) (q_v 8))))))))))))))))),?_⟩
 try rw[cxK]
 refine aC fun R0 hR0=>?_;refine⟨_,rfl,a,sc,0,rfl,hS,by decide,_,_,rfl,rfl,(by show(0:Int)<4;decide),_,_,rfl,rfl,hR0 _ _ ?_⟩;clear hR0 R0;have m0:=x8 (ai sc (0:Int).toNat) (show(4:Int)≠0 by decide);have m1:=Int.emod_lt_of_pos (ai sc (0:Int).toNat) (show(0:Int)<4 by decide);dsimp only;generalize ai sc (0:Int).toNat%4=h0 at m0 m1 ⊢;obtain⟨n,hn⟩:∃n:Nat,(n:Int)=1+h0:=⟨(1+h0).toNat,by omega⟩
 rw[<-hn];have n1:1<=n:=by omega
 have n4:n<=4:=by omega
 clear m0 m1 hn;have tab0:aK bX T (cn bV) H:=⟨#[],hT,trivial,.inl rfl⟩
 refine aC fun R0 hR0=>?_;refine⟨_,rfl,?_⟩;intro o1 dx1 nx1 ndx1 nex1;refine⟨o1,dx1,n,rfl,ad,by omega,by omega,fun d1 H2 fd1 St1 kp1=>⟨rfl,hR0 _ _ ?_⟩⟩;clear hR0 R0;have s2:Same H H2:=fun b o e=>kp1 b o (by rw[af (aj e nx1),af (aj e ndx1)];exact e) (aj e nx1);have S2:=KT.seq (.of s2) hS;have tab2:=aA tab0 s2;clear kp1 fd1 nx1 ndx1 nex1 hS hT tab0;refine aC fun R0 hR0=>?_;intro k gk;refine hR0 _ _ ?_;clear hR0 R0;have s3:=ag gk (.dT []);have ndk:d1≠k:=aj St1.dc gk;have fk:=s2.free gk;have ek:upd H2 k (.dT []) k=some (.dT (aq [])):=ad;have S3:=KT.seq (.of s3) S2;have tab3:=aA tab2 s3;have St3:=St1.same s3;generalize upd H2 k (.dT [])=H3 at ek S3 tab3 St3 ⊢;clear s3 S2 tab2 St1 gk s2;refine aC fun R0 hR0=>?_;refine⟨sz rfl,fun hl ghl=>hR0 _ _ ?_⟩;clear hR0 R0;have s4:=ag ghl (.lst []);have he4:HeldOk (upd H3 hl (.lst [])) hl:=⟨[],ad,by simp,fun v hv=>nomatch hv⟩
 have ek4:=s4 _ _ ek;have S4:=KT.seq (.of s4) S3;have tab4:=aA tab3 s4;have St4:=St3.same s4;generalize upd H3 hl (.lst [])=H4 at he4 ek4 S4 tab4 St4 ⊢;clear s4 S3 tab3 St3 ek ghl;obtain⟨cs,ecs,lcs⟩:=C7 hlen;refine aC fun R0 hR0=>?_;refine⟨_,rfl,_,rfl,a,_,rfl,S4,fun p0 g0=>?_⟩;rw[ecs];have w0:=ag g0 (.lst (cs.map V.int));have e0:upd H4 p0 (.lst (cs.map V.int)) p0=some (.lst (cs.map V.int)):=ad;have he5:=he4.keep fun b xs e=>w0 _ _ e;have ek5:=w0 _ _ ek4;have tab5:=aA tab4 w0;have St5:=St4.same w0;generalize upd H4 p0 (.lst (cs.map V.int))=H5 at e0 he5 ek5 tab5 St5 ⊢;clear w0 g0 he4 ek4 tab4 St4 S4;refine⟨p0,rfl,⟨_,SqL.of e0⟩,?_⟩;refine jc (K:=K) (a:=p0) (xs:=cs.map V.int) (fun i σ H'=>(∃o5 o6 o7 hl',σ=[some (.ref a),some (.int (n:Int)),some (.ref o1),some (.ref k),some (.ref hl'),o5,o6,o7,none,none,none,none,none]/\HeldOk H' hl')/\aK bX T (cn bV) H'/\H' p0=some (.lst (cs.map V.int))/\∃L Kp,StoreAt CS H' o1 d1 n L/\H' k=some (.dT (aq Kp))/\(∀x∈Kp,DR H' x.1 x.2)/\vals Kp=vals L/\L.length<=i)
  ⟨⟨none,none,none,hl,rfl,he5⟩,tab5,e0,[],[],St5,ek5,(fun x hx=>nomatch hx),rfl,Zb _⟩ (fun i σ H' _ z=>SqL.of z.2.2.1) ?_ ?_
 ·rintro i v σ H' hv ⟨⟨o5,o6,o7,hl',rfl,he⟩,tb,ep,L,Kp,St,ekk,dK,vK,lL⟩ DL hDL;obtain⟨rfl,hi⟩:=iy hv;generalize ai cs i=cz;have hi':i<62:=by omega
  refine aC fun R1 hR1=>?_;refine⟨_,rfl,_,rfl,cz,n,rfl,n1,by omega,fun t e H6 s6 de fe=>hR1 _ _ ?_⟩;clear hR1 R1;refine aC fun R1 hR1=>?_;refine⟨_,rfl,_,_,rfl,rfl,⟨by decide,by decide⟩,_,_,rfl,rfl,(by show(0:Int)<9;decide),rfl,hR1 _ _ ?_⟩;clear hR1 R1;refine aC fun R1 hR1=>?_;have fin:∀ (v6:V) (o:Option (Addr×Dd)) (H7:Hp) (gd:Bool),Same H' H7->Hd K H7 n v6 o->o.isSome=gd->R1.nx [some (.ref a),some (.int (n:Int)),some (.ref o1),some (.ref k),some (.ref hl'),some (.int cz),some v6,some (.bl gd),none,none,none,none,none] H7:=fun v6 o H7 gd s7 hd hg=>hR1 _ _ (by
   refine aC fun R2 hR2=>?_;refine⟨_,rfl,_,rfl,_,rfl,_,rfl,o1,d1,k,v6,n,L,Kp,gd,o,rfl,St.same s7,s7 _ _ ekk,fun x hx=>(dK x hx).same s7,vK,ndk,hd,hg,by omega,fun H8 Kp' kp8 tb8 S8 ek8 dK8 vK8=>⟨_,rfl,hR2 _ _ ?_⟩⟩;clear hR2 R2;have ls8:∀b xs,H' b=some (.lst xs)->H8 b=some (.lst xs):=fun b xs eb=>kp8 _ _ (s7 _ _ eb) (fun z=>by rw[z,St.dc]at eb;cases eb) fun z=>by rw[z,ekk]at eb;cases eb
   have he8:=he.keep ls8;have ep8:=ls8 _ _ ep;have t8:=tb8 T (aA tb s7);have l8:(nxL L o).length<=i+1:=by
    cases o with
    |none=>exact Yh lL
    |some x =>
     cases c:aJ L x with
     |true =>have e2:nxL L (some x)=L++[x]:=HK c;rw[e2,Zj,Zy];omega
     |false =>have e2:nxL L (some x)=L:=HH (by rw[c];decide);rw[e2];omega
   generalize nxL L o=L' at S8 vK8 l8;refine⟨_,rfl,_,_,rfl,rfl,(by show(0:Int)<5;decide),rfl,_,rfl,zX (fun _=>?_) fun _=>hDL _ _ ⟨⟨_,_,_,hl',rfl,he8⟩,t8,ep8,L',Kp',S8,ek8,dK8,vK8,l8⟩⟩;obtain⟨⟨dx,h1⟩,_⟩:=id S8;refine⟨_,rfl,o1,dx,_,rfl,h1,fZ _ _,o1,d1,n,L',rfl,S8,t8,fun D1 H9 M rd sT9 tab9 eD1 _=>?_⟩;have k9:=KT.tab t8 sT9;have S9:=S8.kt k9;obtain⟨⟨dx9,h9⟩,_⟩:=id S9;refine⟨_,rfl,o1,dx9,_,rfl,h9,iG _ _,o1,d1,n,L',rfl,S9,tab9,fun D2 HA M' N ys rd' wt sTA tabA eD2 nys _=>?_⟩;have kA:=KT.tab tab9 sTA;refine⟨sz rfl,fun hl2 ghl2=>hDL _ _ ?_⟩;have wh:=ag ghl2 (.lst [.ref D1,.ref D2]);have kall:=(k9.trans kA).trans (.of wh);have eD1':=kA _ _ eD1 (fun ps z=>by cases z);have lM:=rd.len;have lN:=wt.len;have lys:ys.length=N.length:=by rw[Paired.length nys];unfold aQ;rw[Zd]
   have l63:=S8.len;refine⟨⟨_,_,_,hl2,rfl,⟨_,ad,by simp,fun v hv=>?_⟩⟩,aA tabA wh,kall _ _ ep8 (fun ps z=>by cases z),L',Kp',S8.kt kall,kall _ _ ek8 (fun ps z=>by cases z),fun x hx=>(dK8 x hx).ts kall.ts,vK8,l8⟩;simp only[Zs,Z1,YN]at hv;rcases hv with rfl|rfl
   ·exact⟨D1,_,rfl,wh _ _ eD1',by rw[bC];omega,aj eD1' ghl2⟩
   ·exact⟨D2,_,rfl,wh _ _ eD2,by omega,aj eD2 ghl2⟩)
  by_cases c:V.int (cz / 3%9)=V.int 4
  ·have hb:(!decide (V.int (cz / 3%9)=V.int 4))=false:=by rw[decide_eq_true c];rfl
   rw[hb];refine⟨_,rfl,_,rfl,aP ?_⟩;refine⟨_,rfl,_,rfl,_,_,rfl,rfl,⟨by decide,by decide⟩,_,rfl,t,e,_,n,rfl,de,fe,by omega,fun v6 H7 s7 dv=>?_⟩;exact fin v6 none H7 false (s6.trans s7) dv rfl
  ·have hb:(!decide (V.int (cz / 3%9)=V.int 4))=true:=by rw[decide_eq_false c];rfl
   rw[hb];exact⟨_,rfl,_,rfl,aF (fin (.ref t) (some (t,e)) H6 true s6 ⟨rfl,de,fe⟩ rfl)⟩
 rintro σ H6 ⟨⟨o5,o6,o7,hl',rfl,he⟩,tab6,_,L,Kp,St,ekk,dK,vK,lL⟩;refine hR0 _ _ ?_;clear hR0 R0 he5 ek5 tab5 St5 e0;have uK:UN n (vals Kp):=by rw[vK];exact St.un
 have lK:Kp.length=L.length:=by have:=congrArg List.length vK;rw[eR,eR]at this;exact this
 have l63:=St.len;refine aC fun R0 hR0=>?_;refine⟨_,rfl,k,aq Kp,rfl,ekk,fun ob=>?_⟩;have e1:∀b o,H6 b=some o->b≠k->upd H6 k (.frz ob (.dT (aq Kp))) b=some o:=fun b o e hb=>by rw[af hb];exact e
 have eF:upd H6 k (.frz ob (.dT (aq Kp))) k=some (.frz ob (.dT (aq Kp))):=ad;generalize upd H6 k (.frz ob (.dT (aq Kp)))=HF at e1 eF ⊢;refine iX (a:=k) (o:=ob) (kvs:=aq Kp) (fun i ys H'=>H'=HF/\ys=bu (Kp.take i)/\ys.length<=i) (by rw[gW];omega) (fun _ _ _ z=>z.2.2) ⟨rfl,rfl,Zb _⟩ (fun i ys H' z=>by rw[z.1];exact eF) ?_ ?_
 ·rintro i ys H' kv b hkv hb ⟨rfl,rfl,ly⟩ Y hY;obtain⟨y,hy,rfl⟩:=xK hkv;have my:=YG hy;refine⟨_,rfl,_,rfl,k,.ref y.1,rfl,.inr ⟨aq Kp,nmK y.2,b,.inr ⟨ob,eF⟩,rfl,hb,(fR uK my).symm⟩,hY _ _ ⟨rfl,?_,?_⟩⟩
  ·rw[cO hy];unfold bu;rw[ZE];rfl
  ·rw[Zj];exact Y5 ly
 rintro ys l5 H' ⟨rfl,rfl,_⟩ g5;rw[gW,YE];have w5:=ag g5 (.lst (bu Kp));have n5k:l5≠k:=fun z=>by rw[z,eF]at g5;cases g5
 refine⟨k,ob,.dT (aq Kp),w5 _ _ eF,Loose.non fk,?_⟩;have s7:=pD ekk e1 w5;have e7:upd (upd H' l5 (.lst (bu Kp))) k (.dT (aq Kp)) l5=some (.lst (bu Kp)):=by rw[af n5k,ad]
 have tab7:=aA tab6 s7;generalize upd (upd H' l5 (.lst (bu Kp))) k (.dT (aq Kp))=H7 at s7 e7 tab7 ⊢;refine⟨l5,Kp,n,rfl,⟨e7,fun x hx=>(dK x hx).same s7⟩,by omega,by omega,uK,tab7,fun D H8 S' pS sS sT8 tab8 eD nD=>hR0 _ _ ?_⟩;clear hR0 R0;have rdK:RDY Kp (bf S' S'.length):=⟨S',pS,sS,rfl⟩
 generalize bf S' S'.length=M' at rdK eD;have k8:=(KT.of s7).trans (KT.tab tab7 sT8);have St8:=St.kt k8;have ek8:=k8 _ _ ekk (fun ps z=>by cases z);have dK8:∀x∈Kp,DR H8 x.1 x.2:=fun x hx=>(dK x hx).ts k8.ts;have lM:=rdK.len;obtain⟨vs,hvs,lvs,rows⟩:=id he;have rw6:RowsAt H6 hl' vs:=⟨hvs,rows⟩
 have rD:=(rw6.keep fun b xs e=>s7 _ _ e).far nD;have rw8:=rw6.keep fun b xs e=>k8 _ _ e (fun ps z=>by cases z);clear rows hvs nD rw6;clear s7 e7 tab7 sT8 k8 e1 eF w5 n5k g5 St ekk dK he tab6 pS sS;refine aC fun R0 hR0=>?_;refine⟨_,rfl,D,rfl,⟨_,SqL.of eD⟩,?_⟩;refine fA (fun i zs H'=>Same H8 H'/\zs.length<=i/\NsI H' zs (aQ (M'.take i))) (by rw[bC];omega) (fun _ _ _ z=>z.2.1) ⟨Same.refl _,Zb _,.nil⟩ (fun i zs H' z=>SqL.of (z.1 _ _ eD)) ?_ ?_
 ·rintro i zs H' v hv ⟨sm,lz,pz⟩ Y hY;obtain⟨y,hy,my,rfl⟩:=jq hv;obtain⟨c,wv,d1',d2',d3',d4',d5'⟩:=(dK8 y (rdK.sub y my)).same sm;refine⟨_,rfl,y.1,_,_,_,rfl,rfl,SqT.of d1',at0,_,rfl,y.1,_,_,_,rfl,rfl,SqT.of d1',at1,_,rfl,y.1,_,_,_,rfl,rfl,SqT.of d1',at0,c,_,_,_,rfl,rfl,SqT.of d2',eJ d4',sz rfl,fun t gt=>hY _ _ ?_⟩;have wt:=ag gt (.tup [.int (y.2.h:Int),.int (ai y.2.ns y.2.h)]);refine⟨sm.trans wt,by rw[Zj];exact Y5 lz,?_⟩;rw[cO hy];unfold aQ;rw[ZE];exact Paired.snoc (NsI.ts pz (Same.ts wt)) ⟨t,rfl,ad⟩
 rintro zs dl H' ⟨sm,lz,pz⟩ gdl;rw[bC,YE]at pz;rw[bC]at lz;have wd:=sm.trans (ag gdl (.lst zs));have edl:upd H' dl (.lst zs) dl=some (.lst zs):=ad;have pz9:=NsI.ts pz (Same.ts (ag gdl (.lst zs)));refine hR0 _ _ ?_;clear hR0 R0;have eD9:=wd _ _ eD;have St9:=St8.same wd;have ek9:=wd _ _ ek8;have dK9:∀x∈Kp,DR _ x.1 x.2:=fun x hx=>(dK8 x hx).same wd;have rw9:=rw8.keep fun b xs e=>wd _ _ e;have tab9:=aA tab8 wd;generalize upd H' dl (.lst zs)=H9 at edl pz9 eD9 St9 ek9 dK9 rw9 tab9 ⊢;clear wd sm pz gdl St8 ek8 dK8 rw8 tab8 eD;refine aC fun R0 hR0=>?_;refine⟨_,rfl,k,aq Kp,rfl,ek9,fun ob=>?_⟩;have e1:∀b o,H9 b=some o->b≠k->upd H9 k (.frz ob (.dT (aq Kp))) b=some o:=fun b o e hb=>by rw[af hb];exact e
 have eF:upd H9 k (.frz ob (.dT (aq Kp))) k=some (.frz ob (.dT (aq Kp))):=ad;have tF:TS H9 (upd H9 k (.frz ob (.dT (aq Kp)))):=fun b zs e=>e1 _ _ e fun z=>by rw[z,ek9]at e;cases e
 have nrd:dl≠k:=fun z=>by rw[z,ek9]at edl;cases edl
 have er4:=e1 _ _ edl nrd;have pz4:=pz9.ts tF;obtain⟨dA,dB,dC⟩:=vC pz4;generalize upd H9 k (.frz ob (.dT (aq Kp)))=HF at e1 eF tF er4 pz4 dA ⊢;refine iX (a:=k) (o:=ob) (kvs:=aq Kp) (fun i ys H'=>H'=HF/\ys.length<=i/\NsI HF ys (aQ ((Kp.take i).filter (aJ M')))) (by rw[gW];omega) (fun _ _ _ z=>z.2.1) ⟨rfl,Zb _,.nil⟩ (fun i ys H' z=>by rw[z.1];exact eF) ?_ ?_
 ·rintro i ys H' kv b hkv hb ⟨rfl,ly,py⟩ Y hY;obtain⟨y,hy,rfl⟩:=xK hkv;have eb:H' b=some (.tup ((nmZ y.2).map V.int)):=hb;refine⟨_,rfl,_,rfl,dl,_,_,_,rfl,SqL.of er4,iY eb,dA,eW _,dB,_,rfl,?_⟩;rw[xU];have tk:aQ ((Kp.take (i+1)).filter (aJ M'))=aQ ((Kp.take i).filter (aJ M'))++if aJ M' y=true then[nmZ y.2]else[]:=by
   rw[cO hy,x5];unfold aQ;rw[ZE];congr 1;by_cases c:aJ M' y=true
   ·rw[HK c,List.filter_cons_of_pos c];rfl
   ·rw[HH c,List.filter_cons_of_neg c];rfl
  cases c:aJ M' y with
  |true =>have c':(!decide (nmZ y.2∈aQ M'))=true:=c;rw[c'];refine aP ⟨_,rfl,hY _ _ ⟨rfl,by rw[Zj];exact Y5 ly,?_⟩⟩;rw[tk,c,HK rfl];exact Paired.snoc py ⟨b,rfl,eb⟩
  |false =>have c':(!decide (nmZ y.2∈aQ M'))=false:=c;rw[c'];refine aF (hY _ _ ⟨rfl,Yh ly,?_⟩);rw[tk,c,HH (by decide),Z6];exact py
 rintro ys l6 H' ⟨rfl,ly,py⟩ g6;rw[gW,YE]at py;rw[gW]at ly;have w6:=ag g6 (.lst ys);have n6k:l6≠k:=fun z=>by rw[z,eF]at g6;cases g6
 refine⟨k,ob,.dT (aq Kp),w6 _ _ eF,Loose.non fk,?_⟩;have sA:=pD ek9 e1 w6;have tA:TS H' (upd (upd H' l6 (.lst ys)) k (.dT (aq Kp))):=fun b zs e=>by rw[af fun z=>by rw[z,eF]at e;cases e];exact w6 _ _ e
 have e6:upd (upd H' l6 (.lst ys)) k (.dT (aq Kp)) l6=some (.lst ys):=by rw[af n6k,ad]
 have py6:=py.ts tA;generalize upd (upd H' l6 (.lst ys)) k (.dT (aq Kp))=HA at sA e6 py6 ⊢;obtain⟨as,rfl,la,ha⟩:=Be py6;have lf:(Kp.filter (aJ M')).length=as.length:=by rw[<-la];unfold aQ;rw[Zd]
 have lf2:=YS (aJ M') Kp;refine⟨l6,as,aQ (Kp.filter (aJ M')),rfl,e6,by omega,la,fun z hz=>?_,ha,fun pm D2 hp hs gD2=>hR0 _ _ ?_⟩
 ·obtain⟨x,_,rfl⟩:=Zu.mp hz;exact fun z=>by cases z
 clear hR0 R0;obtain⟨B,pB,nB,sB⟩:=rK lf ha hp hs;have wB:=ag gD2 (.lst (pm.toList.map fun i=>(as.map V.ref).getD i .non));have sAB:=sA.trans wB;have eD2:upd HA D2 (.lst (pm.toList.map fun i=>(as.map V.ref).getD i .non)) D2=some (.lst (pm.toList.map fun i=>(as.map V.ref).getD i .non)):=ad;have nB2:=NsI.ts nB (Same.ts wB);have rD2:=(rw9.keep fun b xs e=>sA _ _ e).far gD2;have eDB:=sAB _ _ eD9;have edlB:=sAB _ _ edl;have pzB:=NsI.ts pz9 (Same.ts sAB);have StB:=St9.same sAB;have dKB:∀x∈Kp,DR _ x.1 x.2:=fun x hx=>(dK9 x hx).same sAB;have rwB:=rw9.keep fun b xs e=>sAB _ _ e;have tabB:=aA tab9 sAB;generalize upd HA D2 (.lst (pm.toList.map fun i=>(as.map V.ref).getD i .non))=HB at sAB eD2 nB2 eDB edlB pzB StB dKB rwB tabB ⊢;generalize(pm.toList.map fun i=>(as.map V.ref).getD i .non)=bs at eD2 nB2;clear sAB sA tA wB w6 e1 eF tF er4 pz4 dA dB dC n6k nrd g6 gD2 py py6 ha hp hs nB e6 ek9 dK9 rw9 tab9 St9 eD9 edl pz9;refine aC fun R0 hR0=>?_;refine⟨_,rfl,_,rfl,by omega,by omega,?_⟩;refine zI (N:=n) (fun i ys H'=>Same HB H'/\ys=((List.range i).map (fg (vals M'))).map V.int) (by omega) (fun i ys H' z=>by rw[z.2,Zd,Zd,YI]) ⟨Same.refl _,rfl⟩ (fun i ys H' hi _=>?_) (fun ys H' _=>?_) (fun i ys H1 x H2 hi z y A kA=>?_) (fun ys cA H1 z gA=>?_)
 ·show i<(n:Int).toNat;omega
 ·show(n:Int).toNat<=n;omega
 ·obtain⟨sm,rfl⟩:=z;obtain⟨rfl,rfl⟩:=y;have edl2:=sm _ _ edlB;have pz2:=NsI.ts pzB (Same.ts sm);have lzM:zs.length=M'.length:=by rw[Paired.length pz2];unfold aQ;rw[Zd]
  refine⟨_,rfl,dl,rfl,⟨_,SqL.of edl2⟩,?_⟩;refine fA (K:=K) (a:=dl) (xs:=zs) (fun j us H'=>H'=H2/\us.length=((M'.take j).filter fun x=>decide (x.2.h=i)).length/\us.length<=j) (by omega) (fun j us H' z=>z.2.2) ⟨rfl,rfl,Zb _⟩ (fun j us H' z=>by rw[z.1];exact SqL.of edl2) ?_ ?_
  ·rintro j us H' v hv ⟨rfl,hu,lu⟩ Y hY;obtain⟨kk,hkk,b,rfl,hb⟩:=mq pz2 hv;unfold aQ at hkk;rw[ZB]at hkk;obtain⟨y,hy,rfl⟩:=YK.mp hkk;have tk:((M'.take (j+1)).filter fun x=>decide (x.2.h=i)).length=((M'.take j).filter fun x=>decide (x.2.h=i)).length+if decide (y.2.h=i)=true then 1 else 0:=by
    rw[cO hy,x5,Zj];congr 1;by_cases c:decide (y.2.h=i)=true
    ·rw[HK c,List.filter_cons_of_pos (p:=fun x:Addr×Dd=>decide (x.2.h=i)) c];rfl
    ·rw[HH c,List.filter_cons_of_neg (p:=fun x:Addr×Dd=>decide (x.2.h=i)) c];rfl
   refine vix rfl (SqT.of hb) at0 ⟨_,rfl,rfl,_,rfl,?_⟩;refine zX (fun c=>?_) fun c=>?_
   ·refine⟨_,rfl,hY _ _ ⟨rfl,?_,by rw[Zj];exact Y5 lu⟩⟩;rw[tk,HK (decide_eq_true (by omega)),Zj,hu];rfl
   ·refine hY _ _ ⟨rfl,?_,Yh lu⟩;rw[tk,HH (by rw[decide_eq_false (by omega)];decide),hu];rfl
  rintro us D5 H' ⟨rfl,hu,_⟩ gD5;rw[lzM,YE]at hu;refine⟨D5,_,rfl,.inl (SqL.of ad),kA _ _ ⟨sm.trans (ag gD5 _),?_⟩⟩;rw[List.range_succ,ZE,ZE,hu,uQ];rfl
 obtain⟨sm,rfl⟩:=z;refine⟨cA,_,rfl,.inl ⟨SqL.of ad,fun ct gct=>hR0 _ _ ?_⟩⟩;clear hR0 R0;have wA:=ag gA (.lst (((List.range n).map (fg (vals M'))).map V.int));have wct:=ag gct (.tup (((List.range n).map (fg (vals M'))).map V.int));have sC:=sm.trans (wA.trans wct);have ect:upd (upd H1 cA (.lst (((List.range n).map (fg (vals M'))).map V.int))) ct (.tup (((List.range n).map (fg (vals M'))).map V.int)) ct=some (.tup ((dj n (vals M')).map V.int)):=ad;have eDC:=sC _ _ eDB;have eD2C:=sC _ _ eD2;have nBC:=NsI.ts nB2 (Same.ts sC);have StC:=StB.same sC;have dKC:∀x∈Kp,DR _ x.1 x.2:=fun x hx=>(dKB x hx).same sC;have rwC:=rwB.keep fun b xs e=>sC _ _ e;have tabC:=aA tabB sC;generalize upd (upd H1 cA (.lst (((List.range n).map (fg (vals M'))).map V.int))) ct (.tup (((List.range n).map (fg (vals M'))).map V.int))=HC at ect eDC eD2C nBC StC dKC rwC tabC ⊢;clear sC wA wct sm gA gct eDB eD2 nB2 StB dKB rwB tabB edlB pzB;refine aC fun R0 hR0=>?_;refine⟨_,rfl,hl',rfl,⟨_,SqL.of rwC.1⟩,?_⟩;have lists:∀b o,HC b=some o->(∀xs,o≠.lst xs)->∀v∈vs,v≠.ref b:=fun b o eb ho v hv ev=>by obtain⟨r,xs,e1,e2,_⟩:=rwC.2 v hv;rw[e1]at ev;cases ev;have e2':HC b=some (.lst xs):=e2;rw[eb]at e2';cases e2';exact ho xs rfl
 refine jc (K:=K) (a:=hl') (xs:=vs) (fun i σ H'=>(∃o12,σ=[some (.ref a),some (.int (n:Int)),some (.ref o1),some (.ref k),some (.ref hl'),o5,o6,o7,some (.ref D),some (.ref dl),some (.ref D2),some (.ref ct),o12])/\(∀b o,HC b=some o->(∀v∈vs,v≠.ref b)->H' b=some o)/\∀v∈vs,∃r xs,v=.ref r/\H' r=some (.lst xs)/\xs.length<=63+i/\r≠hl')
  ⟨⟨none,rfl⟩,fun b o e _=>e,fun v hv=>rwC.2 v hv⟩ (fun i σ H' _ z=>SqL.of (z.2.1 _ _ rwC.1 fun v hv ev=>by
   obtain⟨r,xs,e1,_,_,ne⟩:=rwC.2 v hv;rw[e1]at ev;cases ev;exact ne rfl)) ?_ ?_
 ·rintro i v σ H' hv ⟨⟨o12,rfl⟩,kp,rws⟩ DL hDL;obtain⟨r,xs,rfl,er,lr,nr⟩:=rws v (YG hv);have hi:=(ZF.mp hv).1;refine⟨_,rfl,.inl ⟨rfl,_,SqL.of er⟩,r,_,_,rfl,rfl,er,dM (by omega),hDL _ _ ⟨⟨_,rfl⟩,fun b o e nb=>?_,fun v' hv'=>?_⟩⟩
  ·rw[af fun z=>nb _ (YG hv) (by rw[z])];exact kp _ _ e nb
  ·obtain⟨r',xs',e1,e2,e3,e4⟩:=rws v' hv';by_cases c:r'=r
   ·exact⟨r',xs++[.non],e1,by rw[c,ad],by rw[Zj,Zy];omega,e4⟩
   ·exact⟨r',xs',e1,by rw[af c];exact e2,by omega,e4⟩
 rintro σ HD ⟨⟨o12,rfl⟩,kpD,_⟩;refine hR0 _ _ ?_;clear hR0 R0;have tsD:TS HC HD:=fun b zs e=>kpD _ _ e (lists _ _ e fun xs z=>by cases z);have StD:StoreAt CS HD o1 d1 n L:=by obtain⟨⟨dx,h1⟩,h2,h3,h4,h5,h6,h7⟩:=StC;exact⟨⟨dx,kpD _ _ h1 (lists _ _ h1 fun xs z=>by cases z)⟩,kpD _ _ h2 (lists _ _ h2 fun xs z=>by cases z),fun y hy=>(h3 y hy).ts tsD,h4,h5,h6,h7⟩
 have tabD:aK bX T (cn bV) HD:=by
  obtain⟨ps,t1,t2,t3⟩:=tabC;refine⟨ps,kpD _ _ t1 (lists _ _ t1 fun xs z=>by cases z),t2,?_⟩;rcases t3 with t3|⟨c',h1,h2⟩
  ·exact .inl t3
  ·exact .inr ⟨c',h1,kpD _ _ h2 (lists _ _ h2 fun xs z=>by cases z)⟩
 have lrD:LR HD D M':=⟨kpD _ _ eDC fun v hv ev=>rD v hv _ ev rfl,fun x hx=>(dKC x (rdK.sub x hx)).ts tsD⟩
 have eD2D:HD D2=some (.lst bs):=kpD _ _ eD2C fun v hv ev=>rD2 v hv _ ev rfl;have nBD:NsI HD bs (aQ B):=NsI.ts nBC tsD;have ectD:=tsD _ _ ect;clear tsD kpD lists rwC StC tabC eDC eD2C nBC ect dKC rD rD2;have one:∀{M:LT} {X:Addr} {HE:Hp},RDY L M->KT HD HE->StoreAt CS HE o1 d1 n L->HE X=some (.lst (bu M))->LR HE X M/\Dt HE (.list ((vals M).map dD)) (.ref D):=fun{M X HE} rd kE SE eX=>by refine⟨⟨eX,fun x hx=>SE.dr x (rd.sub x hx)⟩,?_⟩;rw[iJ StD.un uK vK rd rdK];exact(kE.lr lrD).dt
 refine aC fun R0 hR0=>?_;obtain⟨⟨dx,h1⟩,_⟩:=id StD;refine⟨_,rfl,o1,dx,_,rfl,h1,fZ _ _,o1,d1,n,L,rfl,StD,tabD,fun D3 HE M rd sTE tabE eD3 _=>?_⟩;have kE:=KT.tab tabD sTE;have SE:=StD.kt kE;obtain⟨lrM,dE⟩:=one rd kE SE eD3;refine⟨_,rfl,_,_,lrM.dt,dE,fH lrM.ok,fH lrM.ok,_,rfl,?_⟩;rw[tK lrM.ok];refine aF ?_;obtain⟨⟨dx2,h2⟩,_⟩:=id SE;refine⟨_,rfl,o1,dx2,_,rfl,h2,iG _ _,o1,d1,n,L,rfl,SE,tabE,fun D4 HG M2 N ys rd2 wt sTG tabG eD4 nz _=>?_⟩;have kG:=kE.trans (KT.tab tabE sTG);have SG:=StD.kt kG;obtain⟨a1,a2,a3⟩:=jU eD4 nz;rw[pG vK (iJ StD.un uK vK rd2 rdK) wt pB sB]at a1 a2 a3;obtain⟨b1,_,_⟩:=jU (kG _ _ eD2D (fun ps z=>by cases z)) (nBD.ts kG.ts);refine⟨_,rfl,_,_,a1,b1,bZ a2 (by omega),bZ a2 (by omega),_,rfl,?_⟩;rw[Y4 _ a2];refine aF ?_;obtain⟨⟨dx3,h3⟩,_⟩:=id SG;refine⟨_,rfl,o1,dx3,_,rfl,h3,Ae _ _,o1,d1,n,L,rfl,SG,tabG,fun cc HI M3 rd3 sTI tabI ec=>?_⟩;have kI:=kG.trans (KT.tab tabG sTI);have SI:=StD.kt kI;rw[iJ StD.un uK vK rd3 rdK]at ec;refine⟨_,rfl,cc,ct,dj n (vals M'),dj n (vals M'),rfl,rfl,ec,kI.ts _ _ ectD,_,rfl,?_⟩;rw[decide_eq_true (Eq.refl (dj n (vals M')))];refine aF (hR0 _ _ ?_);clear hR0 R0;obtain⟨⟨dx4,h4⟩,_⟩:=id SI;refine⟨_,rfl,o1,dx4,_,rfl,h4,iG _ _,o1,d1,n,L,rfl,SI,tabI,fun D5 HJ M4 N4 ys4 rd4 wt4 sTJ tabJ eD5 nz4 _=>?_⟩;have kJ:=kI.trans (KT.tab tabI sTJ);have SJ:=StD.kt kJ;obtain⟨a1,a2,a3⟩:=jU eD5 nz4;rw[pG vK (iJ StD.un uK vK rd4 rdK) wt4 pB sB]at a1 a2 a3;obtain⟨b1,_,_⟩:=jU (kJ _ _ eD2D (fun ps z=>by cases z)) (nBD.ts kJ.ts);refine⟨_,rfl,_,_,a1,b1,bZ a2 (by omega),bZ a2 (by omega),_,rfl,?_⟩;rw[Y4 _ a2];refine aP ?_;obtain⟨⟨dx5,h5⟩,_⟩:=id SJ;refine⟨_,rfl,o1,dx5,_,rfl,h5,fZ _ _,o1,d1,n,L,rfl,SJ,tabJ,fun D6 HL M5 rd5 sTL tabL eD6 _=>?_⟩;have kL:=kJ.trans (KT.tab tabJ sTL);obtain⟨lrM5,dL⟩:=one rd5 kL (StD.kt kL) eD6;refine⟨_,rfl,_,_,lrM5.dt,dL,fH lrM5.ok,fH lrM5.ok,?_⟩;rw[tK lrM5.ok];exact hq HL
end
def kC:Nat->(List Value->Prop)->Prop
 |0,p=>p []
 |n+1,p=>∀a,kC n fun us=>p (a::us)
theorem fM:∀{n:Nat} {p:List Value->Prop},kC n p->∀us:List Value,us.length=n->p us
 |0,_,h,[],_=>h
 |_+1,_,h,a::us,e=>fM (h a) us (Nat.succ.inj e)
section
variable{P:Program}{w:World}{K:PySem.W.Frag}{mg:Str->Option Value}{base h:Heap}{n m x q:Str}{st:Stmt}{C f:Addr}{k:Nat}{ps:List Str}{sp:Sp}{bm:List Value}
structure Bx(P:Program)(w:World)(K:PySem.W.Frag)(mg:Str->Option Value)(base h:Heap):Prop where
 X:K.In h
 G:h.Ns mainGlobals mg
def A1(K:PySem.W.Frag)(n:Str)(st:Stmt)(f:Addr):Prop:=PySem.W.nsIn K mainGlobals n=some (some (.ref f))/\∃fd,Fun K n n st f fd
def A2(K:PySem.W.Frag)(C:Addr)(m q:Str)(st:Stmt)(f:Addr):Prop:=PySem.W.findIn K (.ref C) m=some (some (.ref f))/\PySem.W.isFn K (.ref f)=true/\∃fd,Fun K m q st f fd
def AF(K:PySem.W.Frag):List (Str×Stmt×Addr)->Prop
 | []=>True
 |(n,st,f)::l=>A1 K n st f/\AF K l
def AM(K:PySem.W.Frag):List (Addr×Str×Str×Stmt×Addr)->Prop
 | []=>True
 |(C,m,q,st,f)::l=>A2 K C m q st f/\AM K l
def AN(p:Str->Prop):List Str->Prop
 | []=>True
 |n::l=>p n/\AN p l
theorem anI{p p':Str->Prop}(i:∀{n},p n->p' n):∀{l:List Str},AN p l->AN p' l
 | [],_=>True.intro
 |_::_,h=>⟨i h.1,anI i h.2⟩
theorem gf{l:List (Str×Stmt×Addr)}{oc kV dc pm cd ct:Value}{od an:Option Addr}{sl:Array (Option Value)}(a:PySem.W.nsIn K mainGlobals n=some (some (.ref f)))(b:K.lookup f=some ⟨oc,od,.func (PySem.W.fnOf n n (bP st) (bw st) (am st) .none kV dc pm an cd ct),sl⟩)(c:PySem.W.codeIn K cd n=true)(d:PySem.W.keepIn K (.ref f)=true)(r:AF K l):AF K ((n,st,f)::l):=⟨⟨a,_,xz b c d⟩,r⟩
theorem gm{l:List (Addr×Str×Str×Stmt×Addr)}{oc kV dc pm cd ct:Value}{od an:Option Addr}{sl:Array (Option Value)}(a:PySem.W.findIn K (.ref C) m=some (some (.ref f)))(i:PySem.W.isFn K (.ref f)=true)(b:K.lookup f=some ⟨oc,od,.func (PySem.W.fnOf m q (bP st) (bw st) (am st) .none kV dc pm an cd ct),sl⟩)(c:PySem.W.codeIn K cd q=true)(d:PySem.W.keepIn K (.ref f)=true)(r:AM K l):AM K ((C,m,q,st,f)::l):=⟨⟨a,i,_,xz b c d⟩,r⟩
theorem gn{l:List Str}(a:PySem.W.nsIn K mainGlobals n=some none)(r:AN (fun n=>PySem.W.nsIn K mainGlobals n=some none) l):AN (fun n=>PySem.W.nsIn K mainGlobals n=some none) (n::l):=⟨a,r⟩
theorem mkF(B:Bx P w K mg base h)(A:A1 K n st f)(ok:∀{fd},Fun K n n st f fd->FnOk P w K mg base CX0 k f fd ps sp)(hb:∀(kV doc pm:Value) (an:Option Addr) (cdv ct:Value),kC ps.length fun us=>bindArgs (PySem.W.fnOf n n (bP st) (bw st) (am st) .none kV doc pm an cdv ct) ⟨us,[]⟩=pure (ps.zip us):=by(repeat intro _);rfl):Fn P w K mg base k n ps sp:=by obtain⟨a,fd,F⟩:=A;exact⟨f,fd,ok F,ZZ B.X B.G a,F.kp,F.binds fun a b c d e g=>fM (hb a b c d e g)⟩
theorem mkM(B:Bx P w K mg base h)(L:Cls K C)(A:A2 K C m q st f)(ok:∀{fd},Fun K m q st f fd->FnOk P w K mg base CX0 k f fd ps sp)(hb:∀(kV doc pm:Value) (an:Option Addr) (cdv ct:Value),kC ps.length fun us=>bindArgs (PySem.W.fnOf m q (bP st) (bw st) (am st) .none kV doc pm an cdv ct) ⟨us,[]⟩=pure (ps.zip us):=by(repeat intro _);rfl):MFn P w K mg base k C m ps sp:=by obtain⟨a,i,fd,F⟩:=A;exact⟨L,f,fd,ok F,⟨a,i,F.kp⟩,F.binds fun a b c d e g=>fM (hb a b c d e g)⟩
theorem mkX(B:Bx P w K mg base h)(L:Cls K C)(A:A2 K C m q st f)(ok:∀{fd},Fun K m q st f fd->FnOk P w K mg base (CXr P w) k f fd ps sp)(hb:∀(kV doc pm:Value) (an:Option Addr) (cdv ct:Value),kC ps.length fun us=>bindArgs (PySem.W.fnOf m q (bP st) (bw st) (am st) .none kV doc pm an cdv ct) ⟨us,[]⟩=pure (ps.zip us):=by(repeat intro _);rfl):MFnX P w K mg base k C m ps sp:=by obtain⟨a,i,fd,F⟩:=A;exact⟨L,f,fd,ok F,⟨a,i,F.kp⟩,F.binds fun a b c d e g=>fM (hb a b c d e g)⟩
theorem mkC(B:Bx P w K mg base h)(L:Cls K C)(g:mg x=some (.ref C))(mk:PySem.W.makesIn K C=true)(kc:PySem.W.keepIn K (.ref C)=true)(A:A2 K C "__init__" q st f)(ok:∀{fd},Fun K "__init__" q st f fd->FnOk P w K mg base CX0 k f fd ps sp)(hb:∀(kV doc pm:Value) (an:Option Addr) (cdv ct:Value),kC ps.length fun us=>bindArgs (PySem.W.fnOf "__init__" q (bP st) (bw st) (am st) .none kV doc pm an cdv ct) ⟨us,[]⟩=pure (ps.zip us):=by(repeat intro _);rfl):MkFn P w K mg base k C x ps sp:=by obtain⟨a,i,fd,F⟩:=A;exact⟨L,g,f,fd,ok F,⟨mk,a,i,kc⟩,F.binds fun a b c d e g=>fM (hb a b c d e g)⟩
theorem mkE(B:Bx P w K mg base h)(e:ExcAtI K C f bm)(A:A2 K C m q st f)(ok:∀{fd},Fun K m q st f fd->FnOk P w K mg base CX0 k f fd ps sp)(hb:∀(kV doc pm:Value) (an:Option Addr) (cdv ct:Value),kC ps.length fun us=>bindArgs (PySem.W.fnOf m q (bP st) (bw st) (am st) .none kV doc pm an cdv ct) ⟨us,[]⟩=pure (ps.zip us):=by(repeat intro _);rfl):ExI P w K mg base k C bm ps sp:=by obtain⟨a,i,fd,F⟩:=A;exact⟨f,fd,e,ok F,F.binds fun a b c d e g=>fM (hb a b c d e g)⟩
end
theorem C0{l:PySem.W.OpenLaw}{w:World}{K:PySem.W.Frag}{h:Heap}{mg:Str->Option Value}{fa f1 f2 f3 f4 f5 f6 f7 f8 f9 f10 f11 f12 f13 f14 f15 f16 f17 f18 f19 f20 f21 f22 f23 f24 f25 f26 f27 f28 f29 f30 f31 m1 m2 m3 m4 m5 m6:Addr}{C_Store:Addr}(X:K.In h)(G:h.Ns mainGlobals mg)(hfa:mg "law" = some (.ref fa)){G8:Tok}{Hl:Tok}{Ht:Tok}{G9:Tok}{Hm:Tok}{p9:Addr}{c_Twin c_NoDeed c_LimbError c_NoPlace c_NoText c_Taken c_NoItem c_Beneath c_Far c_NoQuestion c_NoRow c0 T:Addr}(Hh:PySem.W.nsIn K mainGlobals "Store" = some (some (.ref C_Store)))(GZ:PySem.W.plainGet K C_Store Str.empty=true)(G0:PySem.W.hasDictIn K C_Store=true)(G1:PySem.W.plainOver K C_Store=true)(G2:PySem.W.findIn K (.ref C_Store) "__setattr__" = some (some (.builtin "object.__setattr__")))(G3:PySem.W.makesIn K C_Store=true)(G4:PySem.W.keepIn K (.ref C_Store)=true)(r0:PySem.W.findIn K (.ref C_Store) "hands" = some none)(r6:PySem.W.findIn K (.ref C_Store) "deeds" = some none)(Hi:PySem.W.nsIn K mainGlobals "Twin" = some (some (.ref c_Twin)))(Gv:PySem.W.nsIn K mainGlobals "NoPlace" = some (some (.ref c_NoPlace)))(GI:PySem.W.nsIn K mainGlobals "NoText" = some (some (.ref c_NoText)))(G5:PySem.W.nsIn K mainGlobals "Taken" = some (some (.ref c_Taken)))(GJ:PySem.W.nsIn K mainGlobals "NoItem" = some (some (.ref c_NoItem)))(Gw:PySem.W.nsIn K mainGlobals "Beneath" = some (some (.ref c_Beneath)))(Hu:PySem.W.nsIn K mainGlobals "Far" = some (some (.ref c_Far)))(r9:PySem.W.nsIn K mainGlobals "NoQuestion" = some (some (.ref c_NoQuestion)))(G6:PySem.W.nsIn K mainGlobals "NoRow" = some (some (.ref c_NoRow)))(u8:PySem.W.nsIn K mainGlobals "LimbError" = some (some (.ref c_LimbError)))(GL:PySem.W.nsIn K mainGlobals "NoDeed" = some (some (.ref c_NoDeed)))(zF:AF K (("is_number",gR,f1)::("is_whole",iO,f2)::("is_name",jv,f3)::("is_clock",iM,f4)::("start_clock",fv,f5)::("within",lj,f6)::("raised",ld,f7)::("tells",om,f8)::("is_deed_word",eN,f9)::("deed_parts",gq,f10)::("is_place",iN,f11)::("is_sign",jx,f12)::("is_text",jy,f13)::("is_hand",ju,f14)::("is_known_item",dZ,f15)::("is_part",jw,f16)::("is_what",jA,f17)::("is_deed",jt,f18)::("name_of",jB,f19)::("asked_by",iL,f20)::("is_answered",fu,f21)::("ready_of",fG,f22)::("_law_cell_at",jr,f23)::("_law_deed",rq,f24)::("_law_no_deed",jC,f25)::("_law_told",rE,f26)::("_law_turned",lg,f27)::("_law_base",rp,f28)::("_law_same",rC,f29)::("_law_heard",oj,f30)::("law",jX,f31)::[]))(zM:AM K ((c_Twin,"__init__","Twin.__init__",gQ,m1)::(C_Store,"__init__","Store.__init__",gl,m2)::(C_Store,"hear","Store.hear",gj,m3)::(C_Store,"ready","Store.ready",fq,m4)::(C_Store,"waiting","Store.waiting",dY,m5)::(C_Store,"clock","Store.clock",fm,m6)::[]))(zN:AN (fun n=>PySem.W.nsIn K mainGlobals n=some none) ("len"::"max"::"range"::"list"::"isinstance"::"zip"::"enumerate"::"sorted"::"all"::"sum"::"int"::"tuple"::"bool"::"str"::"ord"::"ValueError"::[]))(n5:PySem.W.nsIn K mainGlobals "MOST_NUMBERS" = some (some (.int 64 G8)))(u9:PySem.W.nsIn K mainGlobals "FIRST_SIGN" = some (some (.int 32 Hl)))(Go:PySem.W.nsIn K mainGlobals "LAST_SIGN" = some (some (.int 126 Ht)))(n6:PySem.W.nsIn K mainGlobals "PERCENT_SIGN" = some (some (.int 37 G9)))(v7:PySem.W.nsIn K mainGlobals "MOST_SIGNS" = some (some (.int 60 Hm)))(v8:PySem.W.nsIn K mainGlobals "DEED_PARTS" = some (some (.ref p9)))(t_DEED_PARTS:PyProof.Rows.KTD.tabLook (mQ K) (fun b=>K.lookup b) p9 DT=true)(Hj:qH K c_Twin m1=true)(Hk:∃c d cd sl,K.lookup c_Twin=some ⟨c,d,.cls cd,sl⟩/\cd.mro=Value.ref c_Twin::Value.ref c_LimbError::VE)(if_Twin:∃oI,K.lookup m1=some oI/\oI.cls=.type "function")(v9:PySem.W.excIn K c_LimbError [.type "ValueError",.type "Exception",.type "BaseException",.type "object"] "ValueError.__new__" = true)(x9:∃c d cd sl,K.lookup c_LimbError=some ⟨c,d,.cls cd,sl⟩/\cd.mro=Value.ref c_LimbError::VE)(GN:PySem.W.excIn K c_NoDeed [.type "ValueError",.type "Exception",.type "BaseException",.type "object"] "ValueError.__new__" = true)(GO:∃c d cd sl,K.lookup c_NoDeed=some ⟨c,d,.cls cd,sl⟩/\cd.mro=Value.ref c_NoDeed::(Value.ref c_LimbError::VE))(tb1:PySem.W.tabIn K "ready_of" = some (c0,T))(e1Twin:(PySem.W.clsIn K c_Twin).isSome=true)(e2Twin:PySem.W.findIn K (.ref c_Twin) "__getattribute__" = some (some (.builtin "BaseException.__getattribute__")))(e3Twin:PySem.W.findIn K (.ref c_Twin) "__getattr__" = some none)(e4Twin:PySem.W.findIn K (.ref c_Twin) "__class__" = some (some (.builtin "object.__class__")))(e5Twin:PySem.W.mroIn K c_Twin (.type "BaseException")=some true)(e6Twin:PySem.W.mroIn K c_Twin (.type "object")=some true)(vTwin:PySem.W.kitOne K (.ref c_Twin) (.type "ValueError")=some true)(pTwin:PySem.W.kitAny K (.ref c_Twin) [.ref c_NoPlace,.ref c_NoText,.ref c_Taken]=some false)(rTwin:PySem.W.kitAny K (.ref c_Twin) [.ref c_NoItem,.ref c_Beneath,.ref c_Far,.ref c_NoQuestion,.ref c_NoRow]=some false)(e1NoDeed:(PySem.W.clsIn K c_NoDeed).isSome=true)(e2NoDeed:PySem.W.findIn K (.ref c_NoDeed) "__getattribute__" = some (some (.builtin "BaseException.__getattribute__")))(e3NoDeed:PySem.W.findIn K (.ref c_NoDeed) "__getattr__" = some none)(e4NoDeed:PySem.W.findIn K (.ref c_NoDeed) "__class__" = some (some (.builtin "object.__class__")))(e5NoDeed:PySem.W.mroIn K c_NoDeed (.type "BaseException")=some true)(e6NoDeed:PySem.W.mroIn K c_NoDeed (.type "object")=some true)(vNoDeed:PySem.W.kitOne K (.ref c_NoDeed) (.type "ValueError")=some true)(pNoDeed:PySem.W.kitAny K (.ref c_NoDeed) [.ref c_NoPlace,.ref c_NoText,.ref c_Taken]=some false)(rNoDeed:PySem.W.kitAny K (.ref c_NoDeed) [.ref c_NoItem,.ref c_Beneath,.ref c_Far,.ref c_NoQuestion,.ref c_NoRow]=some false)(dT:PySem.W.hasDictIn K c_Twin=true)(aT:PySem.W.findIn K (.ref c_Twin) "name" = some none)(s1:PySem.W.findIn K (.ref c_Twin) "__setattr__" = some (some (.builtin "object.__setattr__")))(s2:((PySem.W.clsIn K c_Twin).any fun cd=>mn cd.mro&&cd.hasDict)=true)(td:(Value.ref c_Twin::Value.ref c_LimbError::VE).contains (.ref c_NoDeed)=false)(dt:(Value.ref c_NoDeed::Value.ref c_LimbError::VE).contains (.ref c_Twin)=false)
  :∃fd:FuncData,(∀(s:Shared) (v:Value),BindsTo s fd ⟨[v],[]⟩ [("_law_script",v)])/\∀base:Heap,K.In base->base.Ns mainGlobals mg->Blt base mg->PySem.W.CodeHd base c0 T->FnOk l.prog w K mg base CX0 11 fa fd ["_law_script"] (qi K T):=by
 obtain⟨Af1,Af2,Af3,Af4,Af5,Af6,Af7,Af8,Af9,Af10,Af11,Af12,Af13,Af14,Af15,Af16,Af17,Af18,Af19,Af20,Af21,Af22,Af23,Af24,Af25,Af26,Af27,Af28,Af29,Af30,⟨a0,_,F0⟩,_⟩:=zF;obtain⟨Am1,Am2,Am3,Am4,Am5,Am6,_⟩:=zM;obtain⟨a7,Hy,t7,i9,a6,GR,Gm,i4,d6,G7,Hw,a8,j9,GQ,Hn,u7,_⟩:=anI (p':=fun n=>mg n=none) (fun z=>PySem.W.mg_none_of X G z) zN;have e:=hfa.symm.trans (ZZ X G a0);cases e;obtain⟨oc,od,kV,dc,pm,an,cd,ct,sl,rfl,l0,c0⟩:=id F0.ex;have k4:=ZZ X G n5;have u3:=ZZ X G u9;have Gk:=ZZ X G Go;have m7:=ZZ X G n6;have u4:=ZZ X G v7;have d8:=ZZ X G v8;have Hz:=ZZ X G Hh;have t9:Cls K C_Store:=⟨GZ,G0,G1,G2⟩
 have Gp:Txt K C_Store:=⟨t9,r0,r6⟩
 have GP:Tab K p9 DT:=⟨t_DEED_PARTS⟩
 have j0:=ZZ X G Hi;have GT:ExcAtI K c_Twin m1 (Value.ref c_LimbError::VE):=⟨Hj,Hk,by rw[List.contains_cons];rfl,if_Twin⟩
 have GD:=ZZ X G Gv;have GW:=ZZ X G GI;have Hc:=ZZ X G G5;have GX:=ZZ X G GJ;have GE:=ZZ X G Gw;have Hx:=ZZ X G Hu;have u6:=ZZ X G r9;have He:=ZZ X G G6;have Gn:=ZZ X G u8;have d7:=ZZ X G GL;have Hv:ExcAt K c_LimbError VE:=⟨v9,x9,rfl⟩
 have Gj:ExcAt K c_NoDeed (Value.ref c_LimbError::VE):=⟨GN,GO,by rw[List.contains_cons];rfl⟩
 have kT:ExK K c_Twin:=⟨e1Twin,e2Twin,e3Twin,e4Twin,e5Twin,e6Twin⟩
 have kD:ExK K c_NoDeed:=⟨e1NoDeed,e2NoDeed,e3NoDeed,e4NoDeed,e5NoDeed,e6NoDeed⟩
 have sN:ExS K c_Twin:=⟨s1,s2,e6Twin⟩
 have er:ErR K c_Twin c_NoDeed (Value.ref c_LimbError::VE) (Value.ref c_LimbError::VE):=⟨jL GT,ja Gj,td,dt,kT,kD,dT,aT⟩
 have iT:IsR K c_Twin c_NoPlace c_NoText c_Taken c_NoItem c_Beneath c_Far c_NoQuestion c_NoRow:=⟨vTwin,pTwin,rTwin⟩
 have iD:IsR K c_NoDeed c_NoPlace c_NoText c_Taken c_NoItem c_Beneath c_Far c_NoQuestion c_NoRow:=⟨vNoDeed,pNoDeed,rNoDeed⟩
 refine⟨PySem.W.fnOf "law" "law" (bP jX) (bw jX) (am jX) .none kV dc pm an cd ct,fun s v=>.of_eq rfl,fun base _ _ Bl C=>?_⟩;have B:Bx l.prog w K mg base h:=⟨X,G⟩
 have i5:=mkF B Af1 fun F=>qZ F a6 Hw j9;have a9:=mkF B Af2 fun F=>sG F i5;have Gy:=mkF B Af3 fun F=>vN F a9 a6 a8 a7;have Gr:=mkF B Af4 fun F=>sD F a9 a6 a8 a7 d6;have pi:=mkF B Af5 fun F=>nZ F;have GU:=mkF B Af6 fun F=>yb F d6 GR;have GV:=mkF B Af7 fun F=>xZ F;have Ha:=mkF B Af8 fun F=>Aj F;have m8:=mkF B Af9 fun F=>mm F d8 GP a6 GQ;have u5:=mkF B Af10 fun F=>pQ F d8 GP;have Gq:=mkF B Af11 fun F=>sE F i5 a6 a8 a7 d6 k4;have Gx:=mkF B Af12 fun F=>vP F Hn u3 Gk m7;have Gz:=mkF B Af13 fun F=>vQ F Gx a6 GQ d6;have j8:=mkF B Af14 fun F=>vM F a9;have i6:=mkF B Af15 fun F=>kX F Gy Ha a7;have GA:=mkF B Af16 fun F=>vO F i6 Gq Gz j8 a9 a6 j9 a7 u4;have GB:=mkF B Af17 fun F=>vR F m8 u5 GA a6 a8 a7 d6 GR;have Gi:=mkF B Af18 fun F=>vL F j8 Gr GB a6 a8 a7;have b9:=mkF B Af19 fun F=>vS F;have Gs:=mkF B Af20 fun F=>sx F Gm;have o8:=mkF B Af21 fun F=>nW F GU;have i7:=mkF B Af22 fun F=>sI F (zR Af22.1 F tb1) C Bl Gs o8 b9 G7 i4 d6 i9;have GS:=mkE B GT Am1 fun F=>qY F sN aT;have GY:=mkC B t9 Hz G3 G4 Am2 fun F=>pP F Gp;have i8:=mkX B t9 Am3 fun F=>nU F Gp Gi b9 GS j0 (zO Gj) d7;have e9:=mkM B t9 Am4 fun F=>nV F Gp i7 i9;have n9:=mkM B t9 Am5 fun F=>kU F Gp e9 b9 i4;have Hg:=mkM B t9 Am6 fun F=>nS F Gp e9 pi GV;have GG:=mkF B Af23 fun F=>vJ F a7;have Hs:=mkF B Af24 fun F=>BW F t7 a8;have GH:=mkF B Af25 fun F=>vT F i9 Hy;have Hq:=mkF B Af26 fun F=>BY F i8 er (jL GT) j0 (ja Gj) d7;have Gu:=mkF B Af27 fun F=>ya F i8 er (jL GT) j0 (ja Gj) d7;have Hr:=mkF B Af28 fun F=>BV F i8 er (ja Hv) Gn (by simp) (by simp) iT iD GD GW Hc GX GE Hx u6 He a6 u7;have GF:=mkF B Af29 fun F=>BX F a7 a6 j9;have Hf:=mkF B Af30 fun F=>Ai F Hq Gu Hr GF;exact Dz F0 GG GY Hs GH Hf i7 e9 n9 Hg t7 a7 i4 a8
theorem Ge{l:PySem.W.OpenLaw}{q:Program}{loose:List Str}{XP:(Str->Option Value)->Heap->Prop}{YP:World->Heap->Prop}{d:DefRec}{K:Params->PySem.W.Frag}{c0 T:Addr}(hn:l.most=some 63)(hdf:d.params.defaults=[])(hY:∀ (w:World) (h:Heap),YP w h->(K w.params).In h)(ht:∀ w:World,PySem.W.tabIn (K w.params) "ready_of" = some (c0,T))(hd:∃ d',(PyProof.Rows.recsOf q).find? (fun e=>e.name == ("ready_of":Str))=some d')(nt:∀ w:World,PySem.W.noTabs (K w.params)=true)(F:∀ (w:World) (mg:Str->Option Value) (fa:Addr) (h:Heap),(K w.params).In h->h.Ns mainGlobals mg->mg d.name=some (.ref fa) ->
   ∃ fd:FuncData,(∀ (s:Shared) (u:Value),BindsTo s fd ⟨[u],[]⟩ [("_law_script",u)])/\∀ base:Heap,(K w.params).In base->base.Ns mainGlobals mg->Blt base mg->PySem.W.CodeHd base c0 T->FnOk l.prog w (K w.params) mg base CX0 11 fa fd ["_law_script"] (qi (K w.params) T)) :
  PySem.W.WalkO q loose XP YP l.row.toRowW d [] (fun f vs=>PySem.call f vs) :=
 L2.yS (n:=63) (k:=11) (x:="_law_script") (tabs:=fun _=>[("ready_of",c0,T)]) (sp:=fun w=>qi (K w.params) T) hn (by decide) hdf ⟨rfl,by decide,by decide⟩ hY (fun w t htm=>by rw[Zr.mp htm];exact⟨ht w,hd⟩) nt
  (fun w mg fa h k g e=>let⟨fd,b,r⟩:=F w mg fa h k g e;⟨fd,b,fun base k2 g2 bl cs=>r base k2 g2 bl (cs _ (Zr.mpr rfl))⟩) (fun w H a ns hl hT hS=>⟨a,ns,rfl,hS,hl,hT _ (Zr.mpr rfl),fun _=>rfl⟩)
end K18
namespace PySem.W.Fast
def tw15291257998969059410:=()
def tw16659833180873567116:=()
def tw13003382983401721372:=()
def tw10966981355342988448:=()
def tw1524171582940828592:=()
def tw8310936124300692849:=()
def tw10688569506521098457:=()
def tw2958847530036763944:=()
def tw4740886112072542501:=()
def tw1339715846265796135:=()
def tw15527464276276044959:=()
def tw4278942702197492127:=()
def tw6467354331260287946:=()
def tw6656359714667231310:=()
def tw13841775460925624956:=()
def tw18029087480751678566:=()
def tw16583969125468460911:=()
def tw7445232294823595377:=()
def tw8412771843266136981:=()
def tw424165186613537809:=()
def tw2337418272469200884:=()
def tw2992947500569800047:=()
def tw2152816990070948659:=()
def tw18198378711574491464:=()
def tw14175013368251976076:=()
def tw6200757053447674396:=()
def tw7937349364182067597:=()
def tw2664728273314365389:=()
end PySem.W.Fast
open PySem PySem.W PyProof.Rows
set_option maxRecDepth 100000 in
set_option maxHeartbeats 0 in
theorem PySem.Challenge.cw_limb_k18_heard_once_holds : PySem.Challenge.rw_limb_k18_heard_once.Holds := by
  w_on; o_law; k_head; (case hw => w_witness2)
  k_fill
  refine' K18.Ge (l := PySem.Challenge.rw_limb_k18_heard_once) rfl rfl (fun w h Y => PySem.W.km_in_of Y) ?ht ?hd ?nt ?F
  case ht => intro w; with_unfolding_all rfl
  case hd => exact ⟨_, rfl⟩
  case nt => intro w; kernel_rfl
  case F =>
    intro w mg fa h KX G hmg
    refine' K18.C0 KX G hmg ?Hh ?GZ ?G0 ?G1 ?G2 ?G3 ?G4 ?r0 ?r6 ?Hi ?Gv ?GI ?G5 ?GJ ?Gw ?Hu ?r9 ?G6 ?u8 ?GL ?zF ?zM ?zN ?n5 ?u9 ?Go ?n6 ?v7 ?v8 ?t_DEED_PARTS ?Hj ?Hk ?if_Twin ?v9 ?x9 ?GN ?GO ?tb1 ?e1Twin ?e2Twin ?e3Twin ?e4Twin ?e5Twin ?e6Twin ?vTwin ?pTwin ?rTwin ?e1NoDeed ?e2NoDeed ?e3NoDeed ?e4NoDeed ?e5NoDeed ?e6NoDeed ?vNoDeed ?pNoDeed ?rNoDeed ?dT ?aT ?s1 ?s2 ?td ?dt
    (case Hh => k_is)
    (case GZ => k_is)
    (case G0 => k_is)
    (case G1 => k_is)
    (case G2 => k_is)
    (case G3 => k_is)
    (case G4 => k_is)
    (case r0 => k_is)
    (case r6 => k_is)
    (case Hi => k_is)
    (case Gv => k_is)
    (case GI => k_is)
    (case G5 => k_is)
    (case GJ => k_is)
    (case Gw => k_is)
    (case Hu => k_is)
    (case r9 => k_is)
    (case G6 => k_is)
    (case u8 => k_is)
    (case GL => k_is)
    (case zF => (repeat refine K18.gf (by k_is) (by k_is) (by k_is) (by k_is) ?_); exact True.intro)
    (case zM => (repeat refine K18.gm (by k_is) (by k_is) (by k_is) (by k_is) (by k_is) ?_); exact True.intro)
    (case zN => (repeat refine K18.gn (by k_is) ?_); exact True.intro)
    (case n5 => k_is)
    (case u9 => k_is)
    (case Go => k_is)
    (case n6 => k_is)
    (case v7 => k_is)
    (case v8 => k_is)
    (case t_DEED_PARTS => rfl)
    (case Hj => kernel_rfl)
    (case Hk => exact ⟨_, _, _, _, rfl, rfl⟩)
    (case if_Twin => exact ⟨_, rfl, rfl⟩)
    (case v9 => k_exc)
    (case x9 => exact ⟨_, _, _, _, rfl, rfl⟩)
    (case GN => k_exc)
    (case GO => exact ⟨_, _, _, _, rfl, rfl⟩)
    (case tb1 => with_unfolding_all rfl)
    (case e1Twin => rfl)
    (case e2Twin => k_is)
    (case e3Twin => k_is)
    (case e4Twin => k_is)
    (case e5Twin => k_is)
    (case e6Twin => k_is)
    (case vTwin => rfl)
    (case pTwin => rfl)
    (case rTwin => rfl)
    (case e1NoDeed => rfl)
    (case e2NoDeed => k_is)
    (case e3NoDeed => k_is)
    (case e4NoDeed => k_is)
    (case e5NoDeed => k_is)
    (case e6NoDeed => k_is)
    (case vNoDeed => rfl)
    (case pNoDeed => rfl)
    (case rNoDeed => rfl)
    (case dT => rfl)
    (case aT => k_is)
    (case s1 => k_is)
    (case s2 => rfl)
    (case td => rfl)
    (case dt => rfl)
