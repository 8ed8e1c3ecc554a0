import PyProof.Rows.All
import Wide.All
import OpenK.AllK
import Wide.FinOn
import PyProof.EqAt
import PyProof.EqKinds
import PyProof.TupleCall
import Lean
import PySem.Challenge.RW_limb_k43_what_a_hand_does
def HV:=@if_pos
def HU:=@if_neg
def z0:=@PySem.wpAny_bind
def z6:=@PySem.Heap.get?_push_of_some
def z9:=@PySem.wpAny_pure
def Za:=@List.length_map
def Zb:=@Nat.le_refl
def Zd:=@List.getElem?_eq_getElem
def Ze:=@List.size_toArray
def Zf:=@List.mem_singleton
def Zg:=@PySem.Heap.get?_push_size
def Zh:=@Bool.false_ne_true
def Zi:=@PySem.Heap.lt_size
def Zj:=@List.mem_cons
def Zk:=@Bool.and_eq_true
def Zl:=@List.length_cons
def Zm:=@Array.length_toList
def Zn:=@Nat.ne_of_lt
def Zo:=@Nat.lt_of_lt_of_le
def Zq:=@List.mem_append_right
def Zr:=@Int.toNat_natCast
def Zs:=@List.length_append
def Zt:=@List.mem_map
def Zu:=@Option.some.inj
def Zv:=@List.getElem?_eq_some_iff
def Zw:=@List.getD_eq_getElem?_getD
def Zx:=@List.getElem?_map
def Zy:=@Nat.le_trans
def Zz:=@List.map_append
def ZA:=@List.mem_cons_of_mem
def ZB:=@PySem.wpAny_newObj_type
def ZC:=@List.all_eq_true
def ZD:=@List.mem_append
def ZE:=@List.length_singleton
def ZF:=@List.getElem_mem
def ZG:=@PySem.Heap.SameBut.update
def ZH:=@List.map_cons
def ZI:=@PySem.wpAny_callSpecial?_slot
def ZJ:=@Array.getD_eq_getD_getElem?
def ZK:=@PySem.wpAny_mono
def ZL:=@Bool.eq_false_iff
def ZM:=@PySem.wpAny_call_entry
def ZN:=@List.not_mem_nil
def ZO:=@List.append_nil
def ZP:=@List.lookup_cons
def ZQ:=@PySem.wpAny_field
def ZR:=@PySem.Heap.get?_update_other
def ZS:=@of_decide_eq_true
def ZT:=@PySem.wpAny_holding
def ZU:=@beq_iff_eq
def ZV:=@Nat.zero_le
def ZW:=@List.pairwise_iff_getElem
def ZX:=@List.length_take
def ZY:=@PySem.wpAny_truthy_bool
def ZZ:=@List.mem_filter
def Z0:=@PySem.Heap.get?_update_self
def Z1:=@PySem.boot_len
def Z2:=@List.mem_iff_getElem
def Z3:=@PySem.Obj.data_mapFields
def Z4:=@Nat.ne_of_gt
def Z5:=@List.length_filter_le
def Z6:=@decide_eq_true_eq
def Z7:=@PyProof.Rows.slot_tuple_getitem
def Z8:=@List.mem_range
def Z9:=@Ne.symm
def y0:=@List.getElem?_append_right
def y4:=@List.mem_cons_self
def y6:=@PySem.W.kia_one
def y7:=@List.filter_append
def y8:=@PySem.F.slot_dict_valueiterator_next
def y9:=@Int.emod_nonneg
def Ya:=@PySem.F.slot_dict_keyiterator_next
def Yb:=@PySem.W.mg_of
def Yc:=@Bool.false_and
def Yd:=@PySem.wpAny_seqItems
def Ye:=@Nat.lt_or_ge
def Yf:=@Int.emod_lt_of_pos
def Yg:=@List.mem_append_left
def Yh:=@Nat.lt_irrefl
def Yi:=@Bool.true_and
def Yj:=@PySem.wpAny_setField
def Yk:=@PySem.F.plain_max_loop
def Yl:=@List.getElem?_append_left
def Ym:=@or_false
def Yn:=@Bool.false_eq_true
def Yo:=@List.take_sublist
def Yp:=@PyProof.Rows.callWith_type1
def Yq:=@Bool.eq_iff_iff
def Yr:=@PySem.mem_of_lookup
def Ys:=@List.map_map
def Yt:=@List.all_cons
def Yu:=@List.sum_cons
def Yv:=@List.take_length
def Yw:=@PySem.F.slot_tuple_iterator_next
def Yx:=@PySem.Heap.size_push
def Yy:=@PySem.Obj.isFreed_of_fields
def Yz:=@PySem.Heap.get?_none_of_le
def YA:=@Option.isSome_iff_exists
def YB:=@if_false
def YC:=@PySem.AutoSeq1.wpAny_loadPart'
def YD:=@PySem.wpAny_dictEntries
def YE:=@PySem.wpAny_loadPart_at
def YF:=@PySem.wpAny_typeNameOfWhole_keyiter
def YG:=@PySem.wpAny_typeNameOfWhole_valiter
def YH:=@List.filter_cons
def YI:=@Option.map_eq_some_iff
def YJ:=@PySem.wpAny_pyIter_tuple
def YK:=@List.mem_filterMap
def YL:=@PySem.codeAny_mono
def YM:=@PySem.wpAny_Call_Name_kw
def YN:=@List.length_set
def YO:=@List.any_cons
def YQ:=@Nat.lt_succ_of_lt
set_option Elab.async false
set_option linter.all false
set_option maxRecDepth 100000
set_option maxHeartbeats 2000000
local macro_rules | `(tactic| omega) => `(tactic| first | with_reducible first | assumption | exact Nat.le_of_lt (by assumption) | exact Nat.le_refl _ | exact Nat.lt_add_one _ | exact Nat.le_trans (by assumption) (by decide) | exact Nat.lt_of_lt_of_le (by assumption) (by decide) | exact Nat.sub_lt_sub_left (by assumption) (Nat.lt_add_one _) | exact Nat.le_antisymm (by assumption) (Nat.le_of_not_lt (by assumption)) | lia)
namespace L2
open PySem PySem.Spec PyProof.Rows
abbrev Key:=Sum Int Str
def jU:Key->Value->Bool
 |.inl k,v=>Value.isInt k v
 |.inr x,v=>Value.isStrOf x v
def Gp(w:World):Key->Int
 |.inl k=>hashInt k
 |.inr x=>hashStr w x
theorem bV:∀{k:Key} {v:Value},jU k v=true->(∃i t,k=Sum.inl i/\v=Value.int i t)\/(∃x t,k=Sum.inr x/\v=Value.str x t)
 |.inl i,v,h=>by obtain⟨t,e⟩:=Value.isInt_shape (k:=i) (v:=v) h;exact .inl ⟨i,t,rfl,e⟩
 |.inr x,v,h=>by obtain⟨t,e⟩:=Value.isStrOf_shape (x:=x) (v:=v) h;exact .inr ⟨x,t,rfl,e⟩
theorem xN(i:Int)(t:Tok):jU (.inl i) (.int i t)=true:=by simp[jU,Value.isInt]
theorem xO(x:Str)(t:Tok):jU (.inr x) (.str x t)=true:=by simp[jU,Value.isStrOf]
theorem DI(a b:Int):decide ((Sum.inl a:Key)=Sum.inl b)=(a==b):=by
 by_cases e:a=b
 ·subst e;simp
 ·have h:¬(Sum.inl a:Key)=Sum.inl b:=fun q=>e (Sum.inl.inj q);rw[decide_eq_false h];exact(beq_eq_false_iff_ne.mpr e).symm
theorem DM(a b:Str):decide ((Sum.inr a:Key)=Sum.inr b)=decide (a=b):=by
 by_cases e:a=b
 ·subst e;simp
 ·have h:¬(Sum.inr a:Key)=Sum.inr b:=fun q=>e (Sum.inr.inj q);rw[decide_eq_false h,decide_eq_false e]
theorem DJ(a:Int)(b:Str):decide ((Sum.inl a:Key)=Sum.inr b)=false:=decide_eq_false (fun q=>nomatch q)
theorem DK(a:Str)(b:Int):decide ((Sum.inr a:Key)=Sum.inl b)=false:=decide_eq_false (fun q=>nomatch q)
def bO(prog:Program)(w:World):PySem.KeyKind prog w Key where
 is:=jU
 hash:=Gp w
 inj:=fun v a b ha hb=>by
  rcases bV ha with⟨i,t,rfl,rfl⟩|⟨x,t,rfl,rfl⟩
  ·rcases bV hb with⟨j,u,rfl,e⟩|⟨y,u,rfl,e⟩
   ·injection e with e1 _;rw[e1]
   ·exact nomatch e
  ·rcases bV hb with⟨j,u,rfl,e⟩|⟨y,u,rfl,e⟩
   ·exact nomatch e
   ·injection e with e1 _;rw[e1]
 byValue:=fun k v h=>by rcases bV h with⟨i,t,rfl,rfl⟩|⟨x,t,rfl,rfl⟩<;>rfl
 pyHash:=fun hv h=>by
  rcases bV hv with⟨i,t,rfl,rfl⟩|⟨x,t,rfl,rfl⟩
  ·exact wpAny_pyHash_int h
  ·exact wpAny_pyHash_str h
 eqBool:=fun hu hv h=>by
  rcases bV hu with⟨i,t,rfl,rfl⟩|⟨x,t,rfl,rfl⟩
  ·rcases bV hv with⟨j,u,rfl,rfl⟩|⟨y,u,rfl,rfl⟩
   ·rw[DI]at h;exact wpAny_eqBool_int h
   ·rw[DJ]at h;exact SeqAt.EqAt.int_str i t y u _ _ _ _ h
  ·rcases bV hv with⟨j,u,rfl,rfl⟩|⟨y,u,rfl,rfl⟩
   ·rw[DK]at h;exact SeqAt.EqAt.str_int x t j u _ _ _ _ h
   ·rw[DM]at h;exact wpAny_eqBool_str h
 «strs»:=fun k x t v h=>by
  rcases bV h with⟨i,u,rfl,e⟩|⟨y,u,rfl,e⟩
  ·exact nomatch e
  ·injection e with e1 _;subst e1;cases v<;>rfl
theorem sV(prog:Program)(w:World)(i:Int)(t:Tok):(bO prog w).is (.inl i) (.int i t)=true:=xN i t
theorem sW(prog:Program)(w:World)(x:Str)(t:Tok):(bO prog w).is (.inr x) (.str x t)=true:=xO x t
open PySem PySem.Spec PyProof.Rows
inductive V where
 |non|bl (b:Bool)|int (i:Int)|str (x:Str)|byt (b:Array UInt8)|flt (b:UInt64)|ref (a:Addr)|ty (n:String)
 deriving DecidableEq
def RelV:V->Value->Prop
 |.non,u=>u=Value.none
 |.bl b,u=>u=Value.bool b
 |.int i,u=>∃t,u=Value.int i t
 |.str x,u=>∃t,u=Value.str x t
 |.byt b,u=>∃t,u=Value.bytes b t
 |.flt b,u=>∃t,u=Value.float b t
 |.ref a,u=>u=Value.ref a
 |.ty n,u=>u=Value.type n
abbrev Vals:List V->List Value->Prop:=Paired RelV
theorem Vals.length{xs:List V}{us:List Value}(r:Vals xs us):xs.length=us.length:=Paired.length r
theorem Vals.get:∀{xs:List V} {us:List Value} {i:Nat} {x:V},Vals xs us->xs[i]?=some x->∃u,us[i]?=some u/\RelV x u
 |_,_,_,_,.nil,e=>by simp at e
 |_,_,0,_,.cons r _,e=>by simp at e;subst e;exact⟨_,rfl,r⟩
 |_,_,i+1,x,.cons _ t,e=>by obtain⟨u,h1,h2⟩:=Vals.get (i:=i) (x:=x) t (by simpa using e);exact⟨u,by simpa using h1,h2⟩
theorem Vals.set{x:V}{u:Value}(r:RelV x u):∀{xs:List V} {us:List Value} (i:Nat),Vals xs us->Vals (xs.set i x) (us.set i u)
 |_,_,_,.nil=>.nil
 |_,_,0,.cons _ t=>.cons r t
 |_,_,i+1,.cons q t=>.cons q (Vals.set r i t)
theorem Vals.append:∀{xs ys:List V} {us ws:List Value},Vals xs us->Vals ys ws->Vals (xs++ys) (us++ws)
 |_,_,_,_,.nil,s=>s
 |_,_,_,_,.cons r t,s=>.cons r (Vals.append t s)
theorem Vals.take:∀{xs:List V} {us:List Value} (n:Nat),Vals xs us->Vals (xs.take n) (us.take n)
 |_,_,0,_=>.nil
 |_,_,_+1,.nil=>.nil
 |_,_,n+1,.cons r t=>.cons r (Vals.take n t)
theorem Vals.drop:∀{xs:List V} {us:List Value} (n:Nat),Vals xs us->Vals (xs.drop n) (us.drop n)
 |_,_,0,r=>r
 |_,_,_+1,.nil=>.nil
 |_,_,n+1,.cons _ t=>Vals.drop n t
def RelO:Option V->Option Value->Prop
 |some v,some u=>RelV v u
 |none,none=>True
 |_,_=>False
def KV{κ:Type}:List (κ×V)->List (κ×Value)->Prop:=Paired fun(p:κ×V) (q:κ×Value)=>p.1=q.1/\RelV p.2 q.2
def kV:Key->V
 |.inl i=>.int i
 |.inr x=>.str x
inductive HO where
 |lst (xs:List V)
 |tup (xs:List V)
 |dK (kvs:List (Key×V))|dT (kvs:List (List Key×V))
 |set (S:Int->Bool)(n:Nat)
 |ins (C dx:Addr)(fs:List (Str×V))
 |own (x:Addr)
 |xd (fs:List (Str×V))
 |met (f x:Addr)
 |rng (lo hi:Int)
 |frz (o:Obj)(u:HO)
 |tbl (ps:Array Value)
 |ext (φ:Heap->Prop)
abbrev Hp:=Addr->Option HO
def upd(H:Hp)(a:Addr)(o:HO):Hp:=fun b=>if b=a then some o else H b
theorem ad{H:Hp}{a:Addr}{o:HO}:upd H a o a=some o:=by unfold upd;rw[HV rfl]
theorem af{H:Hp}{a b:Addr}{o:HO}(h:b≠a):upd H a o b=H b:=by unfold upd;rw[HU h]
theorem FC{H:Hp}{a b:Addr}{o u:HO}(h:H a=some o)(h':H b=some u)(d:o≠u):a≠b:=by intro e;subst e;rw[h]at h';exact d (Zu h')
theorem am{H:Hp}{a b:Addr}{o:HO}(h:H a=some o)(h':H b=none):a≠b:=by intro e;subst e;rw[h]at h';cases h'
section
variable(P:Program)(w:World)
def ObjOk(H:Hp)(h:Heap)(a:Addr):HO->Prop
 |.lst xs=>xs.length<=sizeLine/\∃(its:List Value) (n:Nat),Vals xs its/\h.get? a=some { cls:=.type "list",data:=.seq its.toArray n }
 |.tup xs=>xs.length<=sizeLine/\∃its:List Value,Vals xs its/\IsTup h a its.toArray
 |.dK kvs=>kvs.length<=sizeLine/\(a==sysModules)=false/\∃vs,KV kvs vs/\h.DictOf (bO P w) a vs
 |.dT kvs=>kvs.length<=sizeLine/\(a==sysModules)=false/\∃xs:List (List Key×Addr×Value),
   Paired (fun(p:List Key×V) (q:List Key×Addr×Value)=>p.1=q.1/\H q.2.1=some (.tup (p.1.map kV))/\RelV p.2 q.2.2) kvs xs /\
   ∃o es ep,h.get? a=some o/\o.ExactDict/\o.data=.dict es ep/\es.toList=xs.map (entryOfKey (tupleKind (bO P w)))/\(xs.map (·.1)).Nodup
 |.set S n=>h.SetOf (intKind P w) a S n
 |.ins C dx fs=>H dx=some (.own a)/\fs.length<=1000/\dx≠a/\h.get? a=some (PySem.W.instObj C dx) /\
   ∃mA,h.Ns1 dx mA/\(∀f,RelO (fs.lookup f) (mA f))/\PySem.Within mA (fs.map (·.1))
 |.own _=>∃o,h.get? a=some o
 |.xd fs=>∃mA,h.Ns1 a mA/\∀f,RelO (fs.lookup f) (mA f)
 |.rng lo hi=>∃t u v,h.get? a=some { cls:=.type "range",data:=.fields #[.int lo t,.int hi u,.int 1 v] }
 |.frz o u=>h.get? a=some o/\ObjOk H h a u
 |.tbl ps=>h.get? a=some { cls:=.none,data:=.fields ps }
 |.met f x=>h.get? a=some (PySem.W.methodObj (.ref f) (.ref x))
 |.ext φ=>φ h/\(∃o,h.get? a=some o)/\∀h1 h2:Heap,φ h1->(∀o,h1.get? a=some o->h2.get? a=some o)->φ h2
def HOk(H:Hp)(h:Heap):Prop:=∀a o,H a=some o->ObjOk P w H h a o
end
section
variable{P:Program}{w:World}{H H':Hp}{h h':Heap}{a:Addr}{o:HO}
theorem ObjOk.lt(x:ObjOk P w H h a o):a<h.objs.size:=by
 cases o with
 |lst xs=>obtain⟨_,_,_,_,e⟩:=x;exact Zi e
 |tup xs=>obtain⟨_,_,_,p⟩:=x;exact p.lt
 |dK kvs=>obtain⟨_,_,_,_,o,_,_,e,_⟩:=x;exact Zi e
 |dT kvs=>obtain⟨_,_,_,_,o,_,_,e,_⟩:=x;exact Zi e
 |set S n=>obtain⟨o,_,_,_,e,_⟩:=x;exact Zi e
 |ins C dx fs=>obtain⟨_,_,_,e,_⟩:=x;exact Zi e
 |own y=>obtain⟨_,e⟩:=x;exact Zi e
 |xd fs=>obtain⟨_,⟨_,_,_,e,_⟩,_⟩:=x;exact Zi e
 |rng lo hi=>obtain⟨_,_,_,e⟩:=x;exact Zi e
 |frz ob u=>obtain⟨e,_⟩:=x;exact Zi e
 |tbl ps=>exact Zi (show h.get? a=some _ from x)
 |met f y=>exact Zi (show h.get? a=some _ from x)
 |ext φ=>obtain⟨_,⟨_,e⟩,_⟩:=x;exact Zi e
theorem Paired.mapP{α β:Type}{F G:α->β->Prop}:∀{l₁:List α} {l₂:List β},Paired F l₁ l₂->(∀a b,F a b->G a b)->Paired G l₁ l₂
 |_,_,.nil,_=>.nil
 |_,_,.cons r t,f=>.cons (f _ _ r) (Paired.mapP t f)
theorem ObjOk.stay(x:ObjOk P w H h a o)(k:∀b u,(b=a\/H b=some (.own a))->h.get? b=some u->h'.get? b=some u)(ho:∀b,H b=some (.own a)->H' b=some (.own a))(ht:∀b xs,H b=some (.tup xs)->H' b=some (.tup xs)):ObjOk P w H' h' a o:=by
 induction o with
 |lst xs=>obtain⟨z,its,n,r,e⟩:=x;exact⟨z,its,n,r,k _ _ (.inl rfl) e⟩
 |tup xs=>obtain⟨z,its,r,ob,e,c⟩:=x;exact⟨z,its,r,ob,k _ _ (.inl rfl) e,c⟩
 |dK kvs=>obtain⟨z,y,vs,r,ob,es,ep,e,c⟩:=x;exact⟨z,y,vs,r,ob,es,ep,k _ _ (.inl rfl) e,c⟩
 |dT kvs =>obtain⟨z,y,xs,r,ob,es,ep,e,c⟩:=x;exact⟨z,y,xs,Paired.mapP r fun p q z=>⟨z.1,ht _ _ z.2.1,z.2.2⟩,ob,es,ep,k _ _ (.inl rfl) e,c⟩
 |set S n=>obtain⟨ob,es,ep,t,e,c⟩:=x;exact⟨ob,es,ep,t,k _ _ (.inl rfl) e,c⟩
 |ins C dx fs =>obtain⟨d,z,ne,e,mA,⟨od,es,ep,e2,c⟩,r⟩:=x;exact⟨ho _ d,z,ne,k _ _ (.inl rfl) e,mA,⟨od,es,ep,k _ _ (.inr d) e2,c⟩,r⟩
 |own y=>obtain⟨ob,e⟩:=x;exact⟨ob,k _ _ (.inl rfl) e⟩
 |xd fs=>obtain⟨mA,⟨od,es,ep,e,c⟩,r⟩:=x;exact⟨mA,⟨od,es,ep,k _ _ (.inl rfl) e,c⟩,r⟩
 |rng lo hi=>obtain⟨t,u,v,e⟩:=x;exact⟨t,u,v,k _ _ (.inl rfl) e⟩
 |frz ob u ih=>obtain⟨e,q⟩:=x;exact⟨k _ _ (.inl rfl) e,ih q⟩
 |tbl ps =>have e:h.get? a=some { cls:=.none,data:=.fields ps }:=x;show h'.get? a=some { cls:=.none,data:=.fields ps };exact k a _ (.inl rfl) e
 |met f y =>have e:h.get? a=some (PySem.W.methodObj (.ref f) (.ref y)):=x;show h'.get? a=some (PySem.W.methodObj (.ref f) (.ref y));exact k a _ (.inl rfl) e
 |ext φ=>obtain⟨p,⟨o,e⟩,st⟩:=x;exact⟨st _ _ p fun o q=>k _ _ (.inl rfl) q,⟨o,k _ _ (.inl rfl) e⟩,st⟩
theorem HOk.lt(x:HOk P w H h)(e:H a=some o):a<h.objs.size:=(x a o e).lt
theorem HOk.fresh(x:HOk P w H h)(e:h.objs.size<=a):H a=none:=by
 cases q:H a with
 |none=>rfl
 |some u=>exact absurd (Zo (x.lt q) e) (Yh _)
theorem HOk.kept(x:HOk P w H h)(k:∀b u,h.get? b=some u->h'.get? b=some u):HOk P w H h':=fun a o e =>
 (x a o e).stay (fun b u _ q=>k b u q) (fun _ q=>q) fun _ _ q=>q
theorem HOk.laid(x:HOk P w H h)(k:∀b u,h.get? b=some u->h'.get? b=some u)(hp:h.objs.size<=a)(new:ObjOk P w (upd H a o) h' a o):HOk P w (upd H a o) h':=fun b u e=>by
 have hn:=x.fresh hp;by_cases hb:b=a
 ·subst hb;rw[ad]at e;cases e;exact new
 ·rw[af hb]at e;exact(x b u e).stay (fun c v _ q=>k c v q) (fun c q=>by rw[af (am q hn)];exact q) fun c xs q=>by rw[af (am q hn)];exact q
end
def Rd(H:Hp)(a:Addr)(u:HO):Prop:=H a=some u\/∃o,H a=some (.frz o u)
theorem Rd.of{H:Hp}{a:Addr}{u:HO}(h:H a=some u):Rd H a u:=.inl h
theorem Rd.ok{P:Program}{w:World}{H:Hp}{h:Heap}{a:Addr}{u:HO}(r:Rd H a u)(x:HOk P w H h):ObjOk P w H h a u:=by
 rcases r with r|⟨o,r⟩
 ·exact x a u r
 ·obtain⟨_,q⟩:=x a _ r;exact q
def Mut:Option HO->Prop
 |some (.lst _)=>True
 |some (.dK _)=>True
 |some (.dT _)=>True
 |some (.set _ _)=>True
 |some (.ins _ _ _)=>True
 |some (.ext _)=>True
 |_=>False
section
variable{P:Program}{w:World}{H:Hp}{h h':Heap}{x e:Addr}{o':HO}
theorem HOk.write(ok:HOk P w H h)(mu:Mut (H x))(he:e=x\/H e=some (.own x))(k:∀b u,b≠e->h.get? b=some u->h'.get? b=some u)(heo:∃u,h'.get? e=some u)(new:ObjOk P w (upd H x o') h' x o'):HOk P w (upd H x o') h':=fun b u q=>by
 have nown:∀c y,H c=some (.own y)->c≠x:=fun c y r z=>by subst z;rw[r]at mu;exact mu
 have ntup:∀c xs,H c=some (.tup xs)->c≠x:=fun c xs r z=>by subst z;rw[r]at mu;exact mu
 by_cases hb:b=x
 ·subst hb;rw[ad]at q;cases q;exact new
 ·rw[af hb]at q;by_cases hbe:b=e
  ·have q':H b=some (.own x):=by
    rcases he with z|z
    ·exact absurd (hbe.trans z) hb
    ·rw[hbe];exact z
   rw[q]at q';cases q';obtain⟨v,hv⟩:=heo;exact⟨v,by rw[hbe];exact hv⟩
  ·refine(ok b u q).stay (fun c v hc r=>k c v ?_ r) (fun c r=>by rw[af (nown c b r)];exact r) fun c xs r=>by rw[af (ntup c xs r)];exact r
   rcases hc with rfl|hc
   ·exact hbe
   ·rintro rfl;rcases he with z|z
    ·exact nown c b hc z
    ·rw[hc]at z;cases z;exact hb rfl
end
structure Un(fs ex:List Addr)(H H':Hp)(h h':Heap):Prop where
 keep:∀b o,h.get? b=some o->H b=none->b∉fs->b∉ex->h'.get? b=some o
 slot:∀b o,h.get? b=some o->H b=none->b∈fs->b∉ex->∃sl,h'.get? b=some { o with slots:=sl }
 free:∀b o,h.get? b=some o->H b=none->b∉ex->H' b=none
 there:∀b o,h.get? b=some o->b∉ex->∃o',h'.get? b=some o'
 tups:∀b xs,H b=some (.tup xs)->H' b=some (.tup xs)
 frzs:∀b o u,H b=some (.frz o u)->H' b=some (.frz o u)
 tbls:∀b ps,H b=some (.tbl ps)->∃more,H' b=some (.tbl (ps++more))
section
variable{fs fs' ex ex':List Addr}{H H1 H2:Hp}{h h1 h2 h':Heap}{a x e:Addr}{o:HO}
theorem Un.any(u:Un fs ex H H1 h h1){b:Addr}{ob:Obj}(q:h.get? b=some ob)(n:H b=none)(hx:b∉ex):∃sl,h1.get? b=some { ob with slots:=sl }:=by
 by_cases hb:b∈fs
 ·exact u.slot b ob q n hb hx
 ·exact⟨ob.slots,u.keep b ob q n hb hx⟩
theorem Un.kept(k:∀b u,h.get? b=some u->h'.get? b=some u):Un fs ex H H h h' :=
 ⟨fun b ob q _ _ _=>k b ob q,fun b ob q _ _ _=>⟨ob.slots,k b ob q⟩,fun _ _ _ n _=>n,fun b ob q _=>⟨ob,k b ob q⟩,fun _ _ q=>q,fun _ _ _ q=>q,fun _ ps q=>⟨#[],by rw[q];simp⟩⟩
theorem Un.refl:Un fs ex H H h h:=Un.kept fun _ _ q=>q
theorem Un.laid(k:∀b u,h.get? b=some u->h'.get? b=some u)(hp:h.objs.size<=a)(hn:H a=none):Un fs ex H (upd H a o) h h' where
 keep:=fun b u q _ _ _=>k b u q
 slot:=fun b u q _ _ _=>⟨u.slots,k b u q⟩
 free:=fun b u q n _=>by rw[af (Zn (Zo (Zi q) hp))];exact n
 there:=fun b u q _=>⟨u,k b u q⟩
 tups:=fun b xs q=>by rw[af (am q hn)];exact q
 frzs:=fun b u xs q=>by rw[af (am q hn)];exact q
 tbls:=fun b ps q=>⟨#[],by rw[af (am q hn),q];simp⟩
theorem Un.write(mu:Mut (H x))(he:e=x\/H e=some (.own x))(k:∀b u,b≠e->h.get? b=some u->h'.get? b=some u)(heo:∃u,h'.get? e=some u):Un fs ex H (upd H x o) h h':=by
 have hx:∀b,H b=none->b≠x:=fun b n z=>by subst z;rw[n]at mu;exact mu
 have hb:∀b,H b=none->b≠e:=fun b n z=>by
  subst z;rcases he with r|r
  ·exact hx b n r
  ·rw[n]at r;cases r
 have hm:∀b u,H b=some u->¬Mut (some u)->b≠x:=fun b u q nm z=>by subst z;rw[q]at mu;exact nm mu
 refine⟨fun b u q n _ _=>k b u (hb b n) q,fun b u q n _ _=>⟨u.slots,k b u (hb b n) q⟩,fun b u q n _=>by rw[af (hx b n)];exact n,fun b u q _=>?_,
  fun b xs q=>by rw[af (hm b _ q fun z=>z)];exact q,fun b u xs q=>by rw[af (hm b _ q fun z=>z)];exact q,fun b ps q=>⟨#[],by rw[af (hm b _ q fun z=>z),q];simp⟩⟩
 by_cases hbe:b=e
 ·subst hbe;exact heo
 ·exact⟨u,k b u hbe q⟩
end
def trk(h:Heap)(H:Hp):List Addr:=(List.range h.objs.size).filter fun a=>(H a).isSome
def gX(h:Heap)(H:Hp):Heap:=PySem.W.hideAll h (trk h H)
theorem xH(h:Heap)(H:Hp):(gX h H).objs.size=h.objs.size:=PySem.W.hideAll_size _ _
theorem iJ{h:Heap}{H:Hp}{b:Addr}{o:Obj}(e:h.get? b=some o)(n:H b=none):(gX h H).get? b=some o :=
 PySem.W.hideAll_get _ e fun hm=>by have q:(H b).isSome=true:=(ZZ.mp hm).2;rw[n]at q;simp at q
theorem Ce{h:Heap}{H:Hp}{b:Addr}{o:Obj}(e:(gX h H).get? b=some o):h.get? b=some o/\H b=none:=by
 have e':h.get? b=some o:=PySem.W.of_hideAll (trk h H) e;refine⟨e',?_⟩;cases q:H b with
 |none=>rfl
 |some x =>have hm:b∈trk h H:=ZZ.mpr ⟨Z8.mpr (Zi e'),by simp[q]⟩;have z:(gX h H).get? b=none:=PySem.W.hideAll_none (trk h H) hm;rw[z]at e;cases e
open PySem PySem.Spec PyProof.Rows
structure Mod(K:PySem.W.Frag)(mg:Str->Option Value)(base:Heap):Prop where
 kin:K.In base
 glob:base.Ns mainGlobals mg
 blt:∃mb,base.Ns builtinsNs mb/\∀x:Str,x≠"__name__"->mb x=bootBuiltins x
 nolimit:base.NoLimit
structure Cx where
 prog:Program
 w:World
 K:PySem.W.Frag
 mg:Str->Option Value
 base:Heap
 A:Around
 N:List Str
 s₀:Shared
 H₀:Hp
 env:Env
 outer:List Env
 stack:List Env
 ex:List Addr
 fn:Str->Bool
 calm:Bool
 pn:List (Addr×Obj)
 xe:Value->Shared->Prop
def frs(l:List Env):List Addr:=l.filterMap (·.frame)
abbrev Cx.fs(X:Cx):List Addr:=frs X.outer
def Vis(sc:Scope)(x:Str):Prop:=sc.names.lookup x=some .local\/sc.names.lookup x=some .cell\/sc.names.lookup x=some .free
def Loc(sc:Scope)(x:Str):Prop:=sc.names.lookup x=some .local\/sc.names.lookup x=some .cell
def Gk(env:Env)(h:Heap)(m:Str->Option Value)(x:Str)(u:Value):Prop :=
 (env.kindOf x=some .local/\m x=some u)\/((env.kindOf x=some .cell\/env.kindOf x=some .free)/\∃c,env.cells.lookup x=some c/\h.IsCell c (some u))
structure Cx.Ok(X:Cx):Prop where
 mod:Mod X.K X.mg X.base
 kind:X.env.scope.kind=.function
 glob:X.env.globals=mainGlobals
 blt:X.env.builtins=builtinsNs
 above:X.s₀.heap.objs.size<=X.env.locals
 inj:∀x y c,X.env.cells.lookup x=some c->X.env.cells.lookup y=some c->x=y
 has:∀x,(X.env.kindOf x=some .cell\/X.env.kindOf x=some .free)->∃c,X.env.cells.lookup x=some c
 cab:∀x c,X.fn x=true->X.env.cells.lookup x=some c->X.s₀.heap.objs.size<=c
 hd:X.calm=true->X.A.handled=none
 frames:X.A.frames=some X.stack
 stk:X.stack=X.outer\/(X.stack=X.env::X.outer/\X.env.frame=some X.env.locals)
 exf:∀b∈X.ex,b≠X.env.locals/\∀x c,X.env.cells.lookup x=some c->c≠b
 bs:∀b o,X.base.get? b=some o->X.s₀.heap.get? b=some o/\X.H₀ b=none
 bsz:X.base.objs.size<=X.s₀.heap.objs.size
 noex:∀b o,X.base.get? b=some o->b∉X.ex
 exfs:∀b∈X.ex,b∉X.fs
 funs:X.s₀.heap.FunFrames X.base X.outer
 frf:∀b∈X.fs,X.H₀ b=none
structure Inv(X:Cx)(pins:List (Addr×Obj))(σ:List (Option V))(H:Hp)(s:Shared):Prop where
 ok:X.Ok
 os:s.os=X.s₀.os
 bare:AllBare s.gens
 base:Un X.fs X.ex X.H₀ H X.s₀.heap s.heap
 loc:∃m,s.heap.Ns X.env.locals m/\∀(i:Nat) (x:Str) (v:V),X.N[i]?=some x->σ[i]?=some (some v)->Vis X.env.scope x->∃u,RelV v u/\Gk X.env s.heap m x u
 cell:∀x c,X.env.cells.lookup x=some c->∃v,s.heap.IsCell c v
 free:H X.env.locals=none
 freeC:∀x c,X.env.cells.lookup x=some c->H c=none
 pin:∀p∈X.pn++pins,s.heap.get? p.1=some p.2/\H p.1=none/\p.1≠X.env.locals/\p.1∉X.fs/\∀v,p.2.data≠.cell v
 hok:HOk X.prog X.w H s.heap
 len:σ.length=X.N.length
section
variable{X:Cx}{pins:List (Addr×Obj)}{σ:List (Option V)}{H H':Hp}{s:Shared}{h':Heap}
theorem Cx.Ok.nofr(ok:X.Ok){b:Addr}{o:Obj}(e:X.base.get? b=some o):b∉X.fs:=fun hb=>by have:=(ok.funs.mem hb).1;rw[e]at this;cases this
theorem Inv.bs(I:Inv X pins σ H s):∀b o,X.base.get? b=some o->s.heap.get? b=some o/\H b=none:=fun b o e =>
 ⟨I.base.keep b o (I.ok.bs b o e).1 (I.ok.bs b o e).2 (I.ok.nofr e) (I.ok.noex b o e),I.base.free b o (I.ok.bs b o e).1 (I.ok.bs b o e).2 (I.ok.noex b o e)⟩
theorem Inv.bk(I:Inv X pins σ H s):∀b o,X.base.get? b=some o->s.heap.get? b=some o:=fun b o e=>(I.bs b o e).1
theorem Inv.mod(I:Inv X pins σ H s):Mod X.K X.mg X.base:=I.ok.mod
theorem Inv.kIn(I:Inv X pins σ H s):X.K.In s.heap:=I.ok.mod.kin.keeps I.bk
theorem Inv.nolimit(I:Inv X pins σ H s):s.heap.NoLimit:=I.ok.mod.nolimit.keeps I.bk
theorem Inv.fr(I:Inv X pins σ H s):∃m,Fr X.base X.env.locals s.heap m :=
 let⟨m,hn,_⟩:=I.loc
 ⟨m,hn,I.bk,Zy I.ok.bsz I.ok.above⟩
theorem Inv.lt(I:Inv X pins σ H s):X.env.locals<s.heap.objs.size:=let⟨_,hn,_⟩:=I.loc;hn.lt
theorem Inv.sz(I:Inv X pins σ H s):X.s₀.heap.objs.size<=s.heap.objs.size:=Zy I.ok.above (Nat.le_of_lt I.lt)
theorem Inv.nofs(I:Inv X pins σ H s){a:Addr}(h:s.heap.objs.size<=a):a∉X.fs:=fun hb=>by obtain⟨_,o,ho,_⟩:=I.ok.funs.mem hb;exact absurd (Zo (Zi ho) (Zy I.sz h)) (Yh _)
theorem Inv.cne(I:Inv X pins σ H s):∀x c,X.env.cells.lookup x=some c->c≠X.env.locals:=fun x c e z=>by obtain⟨v,o,ho,hd⟩:=I.cell x c e;obtain⟨m,⟨o',es,ep,ho',hd',_⟩,_⟩:=I.loc;rw[z,ho']at ho;cases ho;rw[hd']at hd;cases hd
theorem Inv.funs(I:Inv X pins σ H s):s.heap.FunFrames X.base X.outer:=by
 have all:∀(l:List Env),(∀b∈frs l,b∈X.fs)->X.s₀.heap.FunFrames X.base l->s.heap.FunFrames X.base l:=by
  intro l;induction l with
  |nil=>intro _ _;trivial
  |cons env r ih =>intro hs hl;obtain⟨hk,⟨L,o,hf,hn,ho,hd⟩,hr⟩:=hl;have hL:L∈X.fs:=hs L (by unfold frs;rw[List.filterMap_cons,hf];exact y4);obtain⟨sl,e⟩:=I.base.slot L o ho (I.ok.frf L hL) hL fun z=>I.ok.exfs L z hL;exact⟨hk,⟨L,_,hf,hn,e,hd⟩,ih (fun b hb=>hs b (by unfold frs;rw[List.filterMap_cons,hf];exact ZA _ hb)) hr⟩
 exact all X.outer (fun _ hb=>hb) I.ok.funs
theorem Inv.stack(I:Inv X pins σ H s):s.heap.FunFrames X.base X.stack:=by
 rcases I.ok.stk with e|⟨e,hf⟩
 ·rw[e];exact I.funs
 ·rw[e];obtain⟨m,hn,_⟩:=I.loc;refine .cons (by rw[I.ok.kind];decide) hf hn ?_ I.funs;exact Yz (Zy I.ok.bsz I.ok.above)
theorem Inv.stkSub(I:Inv X pins σ H s):∀b∈frs X.stack,b∈X.env.locals::X.fs:=fun b hb=>by
 rcases I.ok.stk with e|⟨e,hf⟩
 ·rw[e]at hb;exact ZA _ hb
 ·rw[e]at hb;unfold frs at hb;rw[List.filterMap_cons,hf]at hb;exact hb
theorem Inv.stkFree(I:Inv X pins σ H s):∀b∈frs X.stack,H b=none:=fun b hb=>by
 rcases Zj.mp (I.stkSub b hb)with e|hb
 ·rw[e];exact I.free
 ·obtain⟨_,o,ho,_⟩:=I.ok.funs.mem hb;exact I.base.free b o ho (I.ok.frf b hb) fun z=>I.ok.exfs b z hb
theorem Inv.step{g':Array GenState}{t':Nat}{d':Drawn}{ch:List Addr}(I:Inv X pins σ H s)(hch:∀b∈ch,(b∈X.ex\/X.s₀.heap.objs.size<=b)/\b≠X.env.locals/\(∀x c,X.env.cells.lookup x=some c->c≠b)/\∀p∈X.pn++pins,p.1≠b)(keep:∀b o,b≠X.env.locals->b∉X.fs->b∉ch->s.heap.get? b=some o->H b=none->h'.get? b=some o)(slot:∀b o,b≠X.env.locals->b∈X.fs->b∉ch->s.heap.get? b=some o->H b=none->∃sl,h'.get? b=some { o with slots:=sl })(free:∀b o,b∉ch->s.heap.get? b=some o->H b=none->H' b=none)(there:∀b o,b∉ch->s.heap.get? b=some o->∃o',h'.get? b=some o')(tups:∀b xs,H b=some (.tup xs)->H' b=some (.tup xs))(frzs:∀b o u,H b=some (.frz o u)->H' b=some (.frz o u))(tbls:∀b ps,H b=some (.tbl ps)->∃more,H' b=some (.tbl (ps++more)))(ns:∀m,s.heap.Ns X.env.locals m->h'.Ns X.env.locals m)(hok:HOk X.prog X.w H' h')(hg:AllBare g') :
  Inv X pins σ H' { s with heap:=h',gens:=g',drawn:=d',toks:=t' }:=by
 have neL:∀b o,X.s₀.heap.get? b=some o->b≠X.env.locals:=fun b o e=>Zn (Zo (Zi e) I.ok.above);have neC:∀b o,X.s₀.heap.get? b=some o->b∉X.ex->b∉ch:=fun b o e hx hb=>by
  rcases(hch b hb).1 with z|z
  ·exact hx z
  ·exact absurd (Zo (Zi e) z) (Yh _)
 have cellK:∀x c,X.env.cells.lookup x=some c->∀v,s.heap.IsCell c v->h'.IsCell c v:=fun x c e v ⟨o,ho,hd⟩=>by
  have nch:c∉ch:=fun z=>(hch c z).2.2.1 x c e rfl;by_cases hc:c∈X.fs
  ·obtain⟨sl,q⟩:=slot c o (I.cne x c e) hc nch ho (I.freeC x c e);exact⟨_,q,hd⟩
  ·exact⟨o,keep c o (I.cne x c e) hc nch ho (I.freeC x c e),hd⟩
 refine⟨I.ok,I.os,hg,⟨fun b o e n hb hx=>?_,fun b o e n hb hx=>?_,fun b o e n hx=>?_,fun b o e hx=>?_,fun b xs e=>tups b xs (I.base.tups b xs e),fun b o xs e=>frzs b o xs (I.base.frzs b o xs e),fun b ps e=>?_⟩,?_,fun x c e=>?_,?_,fun x c e=>?_,fun p hp=>?_,hok,I.len⟩
 ·exact keep b o (neL b o e) hb (neC b o e hx) (I.base.keep b o e n hb hx) (I.base.free b o e n hx)
 ·obtain⟨sl,e1⟩:=I.base.slot b o e n hb hx;obtain⟨sl',e2⟩:=slot b _ (neL b o e) hb (neC b o e hx) e1 (I.base.free b o e n hx);exact⟨sl',e2⟩
 ·obtain⟨o',e1⟩:=I.base.there b o e hx;exact free b o' (neC b o e hx) e1 (I.base.free b o e n hx)
 ·obtain⟨o',e1⟩:=I.base.there b o e hx;exact there b o' (neC b o e hx) e1
 ·obtain⟨m1,e1⟩:=I.base.tbls b ps e;obtain⟨m2,e2⟩:=tbls b _ e1;exact⟨m1++m2,by rw[e2,Array.append_assoc]⟩
 ·obtain⟨m,hn,hl⟩:=I.loc;refine⟨m,ns m hn,fun i x v e1 e2 e3=>?_⟩;obtain⟨u,r,l⟩:=hl i x v e1 e2 e3;refine⟨u,r,?_⟩;rcases l with l|⟨k,c,e,z⟩
  ·exact .inl l
  ·exact .inr ⟨k,c,e,cellK x c e _ z⟩
 ·obtain⟨v,z⟩:=I.cell x c e;exact⟨v,cellK x c e v z⟩
 ·obtain⟨m,⟨o,_,_,ho,_⟩,_⟩:=I.loc;exact free _ o (fun z=>(hch _ z).2.1 rfl) ho I.free
 ·obtain⟨v,o,ho,hd⟩:=I.cell x c e;exact free c o (fun z=>(hch c z).2.2.1 x c e rfl) ho (I.freeC x c e)
 ·obtain⟨e,n,ne,nf,d⟩:=I.pin p hp;have nch:p.1∉ch:=fun z=>(hch p.1 z).2.2.2 p hp rfl;exact⟨keep p.1 p.2 ne nf nch e n,free p.1 p.2 nch e n,ne,nf,d⟩
theorem Inv.un{t':Nat}(I:Inv X pins σ H s)(u:Un X.fs [] H H' s.heap h')(hok:HOk X.prog X.w H' h'):Inv X pins σ H' { s with heap:=h',toks:=t' }:=by
 obtain⟨m,⟨o,es,ep,ho,r⟩,_⟩:=id I.loc;obtain⟨sl,hL⟩:=u.any ho I.free (by simp);exact I.step (g':=s.gens) (d':=s.drawn) (ch:=[]) (fun _ z=>nomatch z) (fun b o _ hb _ e n=>u.keep b o e n hb (by simp)) (fun b o _ hb _ e n=>u.slot b o e n hb (by simp)) (fun b o _ e n=>u.free b o e n (by simp)) (fun b o _ e=>u.there b o e (by simp)) u.tups u.frzs u.tbls (fun m' hm=>by
  obtain⟨o',es',ep',ho',r'⟩:=hm;rw[ho]at ho';cases ho';exact⟨_,es',ep',hL,r'⟩) hok I.bare
theorem Inv.call{g':Array GenState}{t':Nat}{d':Drawn}{ch:List Addr}(I:Inv X pins σ H s)(u:Un (frs X.stack) ch H H' s.heap h')(hok:HOk X.prog X.w H' h')(hg:AllBare g')(hch:∀b∈ch,(b∈X.ex\/X.s₀.heap.objs.size<=b)/\b≠X.env.locals/\(∀x c,X.env.cells.lookup x=some c->c≠b)/\∀p∈X.pn++pins,p.1≠b) :
  Inv X pins σ H' { s with heap:=h',gens:=g',drawn:=d',toks:=t' }:=by
 obtain⟨m,⟨o,es,ep,ho,r⟩,_⟩:=id I.loc;obtain⟨sl,hL⟩:=u.any ho I.free fun z=>(hch _ z).2.1 rfl;exact I.step (ch:=ch) hch (fun b o hL hb hc e n=>u.keep b o e n (fun z=>(Zj.mp (I.stkSub b z)).elim hL hb) hc) (fun b o _ _ hc e n=>u.any e n hc) (fun b o hc e n=>u.free b o e n hc) (fun b o hc e=>u.there b o e hc) u.tups u.frzs u.tbls (fun m' hm=>by
  obtain⟨o',es',ep',ho',r'⟩:=hm;rw[ho]at ho';cases ho';exact⟨_,es',ep',hL,r'⟩) hok hg
theorem Inv.turned{t':Nat}{it:Addr}(I:Inv X pins σ H s)(k:∀b o,b≠it->s.heap.get? b=some o->h'.get? b=some o)(hn:H it=none)(hL:it≠X.env.locals)(h1:it∈X.ex\/X.s₀.heap.objs.size<=it)(h2:∀x c,X.env.cells.lookup x=some c->c≠it)(h3:∀p∈X.pn++pins,p.1≠it):Inv X pins σ H { s with heap:=h',toks:=t' }:=by
 have nit:∀b u,H b=some u->b≠it:=fun b u e z=>by rw[z,hn]at e;cases e
 refine I.step (g':=s.gens) (d':=s.drawn) (ch:=[it]) (fun b hb=>?_) (fun b o _ _ hc e _=>k b o (fun z=>hc (by simp[z])) e) (fun b o _ _ hc e _=>⟨o.slots,k b o (fun z=>hc (by simp[z])) e⟩) (fun _ _ _ _ n=>n)
  (fun b o hc e=>⟨o,k b o (fun z=>hc (by simp[z])) e⟩) (fun _ _ e=>e) (fun _ _ _ e=>e) (fun b ps e=>⟨#[],by rw[e];simp⟩) (fun m hm=>?_) (fun b u e=>?_) I.bare
 ·have e:b=it:=by simpa using hb
  subst e;exact⟨h1,hL,h2,h3⟩
 ·obtain⟨o,es,ep,ho,r⟩:=hm;exact⟨o,es,ep,k _ o (Z9 hL) ho,r⟩
 ·refine(I.hok b u e).stay (fun c v hc q=>k c v ?_ q) (fun _ q=>q) fun _ _ q=>q;rcases hc with z|z
  ·rw[z];exact nit b u e
  ·exact nit c _ z
theorem Inv.tok(I:Inv X pins σ H s)(t:Nat):Inv X pins σ H { s with toks:=t }:=I.un (h':=s.heap) (t':=t) Un.refl I.hok
theorem Inv.kept{t':Nat}(I:Inv X pins σ H s)(k:∀b u,s.heap.get? b=some u->h'.get? b=some u):Inv X pins σ H { s with heap:=h',toks:=t' }:=I.un (Un.kept k) (I.hok.kept k)
theorem Inv.laid{a:Addr}{o:HO}{t':Nat}(I:Inv X pins σ H s)(k:∀b u,s.heap.get? b=some u->h'.get? b=some u)(hp:s.heap.objs.size<=a)(new:ObjOk X.prog X.w (upd H a o) h' a o) :
  Inv X pins σ (upd H a o) { s with heap:=h',toks:=t' }:=I.un (Un.laid k hp (I.hok.fresh hp)) (I.hok.laid k hp new)
theorem Inv.write{x e:Addr}{o:HO}{t':Nat}(I:Inv X pins σ H s)(mu:Mut (H x))(he:e=x\/H e=some (.own x))(k:∀b u,b≠e->s.heap.get? b=some u->h'.get? b=some u)(heo:∃u,h'.get? e=some u)(new:ObjOk X.prog X.w (upd H x o) h' x o):Inv X pins σ (upd H x o) { s with heap:=h',toks:=t' }:=I.un (Un.write mu he k heo) (I.hok.write mu he k heo new)
theorem Inv.weak{σ':List (Option V)}(I:Inv X pins σ H s)(hl:σ'.length=σ.length)(w:∀(i:Nat) v,σ'[i]?=some (some v)->σ[i]?=some (some v)):Inv X pins σ' H s :=
 ⟨I.ok,I.os,I.bare,I.base,let⟨m,hn,hl'⟩:=I.loc;⟨m,hn,fun i x v e1 e2 e3=>hl' i x v e1 (w i v e2) e3⟩,I.cell,I.free,I.freeC,I.pin,I.hok,hl.trans I.len⟩
theorem Inv.pins_of{pins':List (Addr×Obj)}(I:Inv X pins σ H s)(h:∀p∈pins',s.heap.get? p.1=some p.2/\H p.1=none/\p.1≠X.env.locals/\p.1∉X.fs/\∀v,p.2.data≠.cell v):Inv X pins' σ H s :=
 ⟨I.ok,I.os,I.bare,I.base,I.loc,I.cell,I.free,I.freeC,fun p hp=>(ZD.mp hp).elim (fun z=>I.pin p (Yg _ z)) (h p),I.hok,I.len⟩
theorem kO{N:List Str}(hN:N.Nodup){i j:Nat}{x:Str}(a:N[i]?=some x)(b:N[j]?=some x):i=j:=by obtain⟨h1,e1⟩:=Zv.mp a;obtain⟨h2,e2⟩:=Zv.mp b;exact(List.getElem_inj hN).mp (e1.trans e2.symm)
theorem pq{M:Model}{A:Around}{E:Value->Shared->Prop}{i:Nat}{x:Str}{v:V}{u:Value}{Q:Unit->Shared->Prop}(I:Inv X pins σ H s)(hN:X.N.Nodup)(hi:X.N[i]?=some x)(hx:Loc X.env.scope x)(r:RelV v u)(h:∀s',Inv X pins (σ.set i (some v)) H s'->(∃a,Heap.SameBut a s.heap s'.heap/\(a=X.env.locals\/X.env.cells.lookup x=some a))->Q () s')(hf:X.fn x=true\/X.env.scope.names.lookup x=some .local:=by first|exact .inl rfl|exact .inr rfl|assumption):wpAny M A (storeName X.env x u) Q E s:=by
 obtain⟨m,hn,hl⟩:=id I.loc;have hcls:(X.env.scope.kind == .class ||(X.env.scope.kind == .module&&X.env.locals != X.env.globals))=false:=by rw[I.ok.kind];rfl
 have hiσ:i<σ.length:=by rw[I.len];exact(Zv.mp hi).1
 have cne:=I.cne;have tracked:∀{a:Addr} {h':Heap},(∃o,s.heap.get? a=some o/\H a=none)->Heap.SameBut a s.heap h'->HOk X.prog X.w H h':=fun{a h'} ha hs b ob e=>by
  obtain⟨_,_,hfree⟩:=ha;refine(I.hok b ob e).stay (fun c w' hc q=>(hs.2 c ?_).trans q) (fun _ q=>q) fun _ _ q=>q;rintro rfl;rcases hc with rfl|hc
  ·rw[hfree]at e;cases e
  ·rw[hfree]at hc;cases hc
 rcases hx with hk|hk
 ·refine wpAny_storeName_local hk hn (fun h' hn' hs=>?_) hcls;obtain⟨oL,_,_,hoL,_⟩:=id hn;refine h _ ⟨I.ok,I.os,I.bare,⟨fun b o e n hb hx=>?_,fun b o e n hb hx=>?_,I.base.free,fun b o e hx=>?_,I.base.tups,I.base.frzs,I.base.tbls⟩,⟨_,hn',fun j y v' e1 e2 e3=>?_⟩,fun y c e=>?_,I.free,I.freeC,fun p hp=>?_,tracked ⟨oL,hoL,I.free⟩ hs,by simpa using I.len⟩ ⟨_,hs,.inl rfl⟩
  ·exact(hs.2 b (Zn (Zo (Zi e) I.ok.above))).trans (I.base.keep b o e n hb hx)
  ·obtain⟨sl,e1⟩:=I.base.slot b o e n hb hx;exact⟨sl,(hs.2 b (Zn (Zo (Zi e) I.ok.above))).trans e1⟩
  ·obtain⟨o',e1⟩:=I.base.there b o e hx;exact⟨o',(hs.2 b (Zn (Zo (Zi e) I.ok.above))).trans e1⟩
  ·by_cases hj:j=i
   ·subst hj;rw[hi]at e1;cases e1;rw[List.getElem?_set_self hiσ]at e2;cases e2;exact⟨u,r,.inl ⟨hk,by simp⟩⟩
   ·rw[List.getElem?_set_ne (Z9 hj)]at e2;obtain⟨u',r',q⟩:=hl j y v' e1 e2 e3;refine⟨u',r',?_⟩;rcases q with⟨k,e⟩|⟨k,c,e,z⟩
    ·refine .inl ⟨k,?_⟩;have:y≠x:=fun e=>hj (kO hN e1 (e▸hi));simp[this,e]
    ·exact .inr ⟨k,c,e,z.sameBut hs (cne y c e)⟩
  ·obtain⟨w',z⟩:=I.cell y c e;exact⟨w',z.sameBut hs (cne y c e)⟩
  ·obtain⟨e,n,ne,nf,d⟩:=I.pin p hp;exact⟨(hs.2 p.1 ne).trans e,n,ne,nf,d⟩
 ·have hfn:X.fn x=true:=by
   rcases hf with z|z
   ·exact z
   ·rw[z]at hk;cases hk
  obtain⟨c,hc⟩:=I.ok.has x (.inl hk);obtain⟨w',z⟩:=I.cell x c hc;refine wpAny_storeName_cell I.ok.kind hk hc z (fun h' hc' hs=>?_);obtain⟨oc,hoc,hocd⟩:=id z;refine h { s with heap:=h' } ⟨I.ok,I.os,I.bare,⟨fun b o e n hb hx=>?_,fun b o e n hb hx=>?_,I.base.free,fun b o e hx=>?_,I.base.tups,I.base.frzs,I.base.tbls⟩,⟨m,hn.sameBut hs (Z9 (cne x c hc)),fun j y v' e1 e2 e3=>?_⟩,fun y c' e=>?_,I.free,I.freeC,fun p hp=>?_,tracked ⟨oc,hoc,I.freeC x c hc⟩ hs,by simpa using I.len⟩ ⟨c,hs,.inr hc⟩
  ·exact(hs.2 b (Zn (Zo (Zi e) (I.ok.cab x c hfn hc)))).trans (I.base.keep b o e n hb hx)
  ·obtain⟨sl,e1⟩:=I.base.slot b o e n hb hx;exact⟨sl,(hs.2 b (Zn (Zo (Zi e) (I.ok.cab x c hfn hc)))).trans e1⟩
  ·obtain⟨o',e1⟩:=I.base.there b o e hx;exact⟨o',(hs.2 b (Zn (Zo (Zi e) (I.ok.cab x c hfn hc)))).trans e1⟩
  ·by_cases hj:j=i
   ·subst hj;rw[hi]at e1;cases e1;rw[List.getElem?_set_self hiσ]at e2;cases e2;exact⟨u,r,.inr ⟨.inl hk,c,hc,hc'⟩⟩
   ·rw[List.getElem?_set_ne (Z9 hj)]at e2;obtain⟨u',r',q⟩:=hl j y v' e1 e2 e3;refine⟨u',r',?_⟩;rcases q with q|⟨k,c',e,z'⟩
    ·exact .inl q
    ·refine .inr ⟨k,c',e,z'.sameBut hs ?_⟩;rintro rfl;exact hj (kO hN e1 (I.ok.inj _ _ _ e hc▸hi))
  ·by_cases hcc:c'=c
   ·subst hcc;exact⟨_,hc'⟩
   ·obtain⟨w2,z2⟩:=I.cell y c' e;exact⟨w2,z2.sameBut hs hcc⟩
  ·obtain⟨e,n,ne,nf,d⟩:=I.pin p hp;refine⟨(hs.2 p.1 ?_).trans e,n,ne,nf,d⟩;intro q;rw[q,hoc]at e;have q':oc=p.2:=Zu e;exact d w' (by rw[<-q'];exact hocd)
theorem iZ{M:Model}{A:Around}{E:Value->Shared->Prop}{i:Nat}{x:Str}{v:V}{u:Value}{Q:Unit->Shared->Prop}(I:Inv X pins σ H s)(hN:X.N.Nodup)(hi:X.N[i]?=some x)(hx:Loc X.env.scope x)(r:RelV v u)(h:∀s',Inv X pins (σ.set i (some v)) H s'->Q () s')(hf:X.fn x=true\/X.env.scope.names.lookup x=some .local:=by first|exact .inl rfl|exact .inr rfl|assumption):wpAny M A (storeName X.env x u) Q E s :=
 pq I hN hi hx r (fun s' I' _=>h s' I') hf
theorem Inv.call'{s':Shared}{ch:List Addr}(I:Inv X pins σ H s)(ho:s'.os=s.os)(u:Un (frs X.stack) ch H H' s.heap s'.heap)(hok:HOk X.prog X.w H' s'.heap)(hg:AllBare s'.gens)(hch:∀b∈ch,(b∈X.ex\/X.s₀.heap.objs.size<=b)/\b≠X.env.locals/\(∀x c,X.env.cells.lookup x=some c->c≠b)/\∀p∈X.pn++pins,p.1≠b):Inv X pins σ H' s':=by obtain⟨h',g',d',t',o'⟩:=s';have e:o'=s.os:=ho;subst e;exact I.call (g':=g') (t':=t') (d':=d') u hok hg hch
end
abbrev XK:=Value->Option Addr->Hp->Prop
abbrev St:=List (Option V)
abbrev VK:=V->Hp->Prop
abbrev TE:=St->Hp->VK->Prop
abbrev TT:=St->Hp->(Bool->Hp->Prop)->Prop
abbrev TA:=St->Hp->(List V->Hp->Prop)->Prop
structure Ends where
 nx:St->Hp->Prop
 rt:VK
 bk:St->Hp->Prop:=fun _ _=>False
 ct:St->Hp->Prop:=fun _ _=>False
abbrev TS:=Ends->St->Hp->Prop
def EP(X:Cx)(pins:List (Addr×Obj))(σ:St)(Q:VK)(u:Value)(s':Shared):Prop:=∃v H',Inv X pins σ H' s'/\RelV v u/\Q v H'
def TP(X:Cx)(pins:List (Addr×Obj))(σ:St)(Q:Bool->Hp->Prop)(b:Bool)(s':Shared):Prop:=∃H',Inv X pins σ H' s'/\Q b H'
def AP(X:Cx)(pins:List (Addr×Obj))(σ:St)(Q:List V->Hp->Prop)(us:List Value)(s':Shared):Prop:=∃vs H',Inv X pins σ H' s'/\Vals vs us/\Q vs H'
def SP(X:Cx)(pins:List (Addr×Obj))(D:Ends)(f:Flow)(s':Shared):Prop :=
 match f with
 |.next=>∃σ' H',Inv X pins σ' H' s'/\D.nx σ' H'
 |.brk=>∃σ' H',Inv X pins σ' H' s'/\D.bk σ' H'
 |.cont=>∃σ' H',Inv X pins σ' H' s'/\D.ct σ' H'
 |.ret u=>∃v σ' H',Inv X pins σ' H' s'/\RelV v u/\D.rt v H'
def PE(X:Cx)(e:Expr)(t:TE):Prop :=
 ∀(pins:List (Addr×Obj)) (s:Shared) (σ:St) (H:Hp) (Q:VK),Inv X pins σ H s->t σ H Q->wpAny (model X.prog X.w) X.A (eval e X.env) (EP X pins σ Q) X.xe s
def PT(X:Cx)(e:Expr)(t:TT):Prop :=
 ∀(pins:List (Addr×Obj)) (s:Shared) (σ:St) (H:Hp) (Q:Bool->Hp->Prop),Inv X pins σ H s->t σ H Q->wpAny (model X.prog X.w) X.A (isTrue e X.env (eval e X.env)) (TP X pins σ Q) X.xe s
def PW(X:Cx)(e:Expr)(t:TT):Prop :=
 ∀(whole:Sem Value) (pins:List (Addr×Obj)) (s:Shared) (σ:St) (H:Hp) (Q:Bool->Hp->Prop),Inv X pins σ H s->t σ H Q->wpAny (model X.prog X.w) X.A (isTrue e X.env whole) (TP X pins σ Q) X.xe s
theorem PW.pt{X:Cx}{e:Expr}{t:TT}(h:PW X e t):PT X e t:=h _
def PA(X:Cx)(es:List Expr)(t:TA):Prop :=
 ∀(pos:Pos) (pins:List (Addr×Obj)) (s:Shared) (σ:St) (H:Hp) (Q:List V->Hp->Prop),Inv X pins σ H s->t σ H Q->wpAny (model X.prog X.w) X.A (spliced (backTo pos (starEach es X.env))) (AP X pins σ Q) X.xe s
def PS(X:Cx)(st:Stmt)(t:TS):Prop :=
 ∀(pins:List (Addr×Obj)) (s:Shared) (σ:St) (H:Hp) (D:Ends),Inv X pins σ H s->t D σ H->wpAny (model X.prog X.w) X.A (exec st X.env) (SP X pins D) X.xe s
def PSs(X:Cx)(st:List Stmt)(t:TS):Prop :=
 ∀(pins:List (Addr×Obj)) (s:Shared) (σ:St) (H:Hp) (D:Ends),Inv X pins σ H s->t D σ H->wpAny (model X.prog X.w) X.A (execs st X.env) (SP X pins D) X.xe s
theorem thn{α:Type}{t:Sem α}{Q Q':α->Shared->Prop}{M:Model}{A:Around}{E:Value->Shared->Prop}{s:Shared}(h:wpAny M A t Q E s)(hQ:∀a s,Q a s->Q' a s):wpAny M A t Q' E s:=ZK h hQ fun _ _ x=>x
open PySem PySem.Spec PyProof.Rows
section
variable{X:Cx}
inductive tVar(i:Nat)(σ:St)(H:Hp)(Q:VK):Prop
 |mk (v:V) (h:σ[i]?=some (some v)) (q:Q v H):tVar i σ H Q
def tC(v:V):TE:=fun _ H Q=>Q v H
theorem Ep{i:Nat}{x:Str}{pos:Pos}(hN:X.N[i]?=some x)(hv:Vis X.env.scope x)(hd:(x==("__debug__":Str))=false:=by decide)(hcd:(x==("__classdict__":Str))=false:=by decide):PE X (.Name x pos) (tVar i):=by
 intro pins s σ H Q I h;obtain⟨v,e,h⟩:=h;obtain⟨m,hn,hl⟩:=I.loc;obtain⟨u,r,l⟩:=hl i x v hN e hv;have fin:EP X pins σ Q u s:=⟨v,H,I,r,h⟩
 rcases l with⟨hk,hm⟩|⟨hk,c,hc,hcell⟩
 ·exact wpAny_Name (wpAny_loadName_local I.ok.kind hk hn hm fin) hd
 ·rcases hk with hk|hk
  ·exact wpAny_Name (wpAny_loadName_cell I.ok.kind hk hc hcell fin) hd
  ·exact wpAny_Name (wpAny_loadName_free I.ok.kind hk hc hcell fin hcd) hd
theorem Ei{i j pos}:PE X (.Constant (.int i) j pos) (tC (.int i)):=fun _ _ _ H _ I h=>wpAny_Constant_int ⟨.int i,H,I.tok _,⟨_,rfl⟩,h⟩
theorem FQ{b j pos}:PE X (.Constant (.bool b) j pos) (tC (.bl b)):=fun _ _ _ H _ I h=>Constant_bool ⟨.bl b,H,I,rfl,h⟩
theorem Ek{j pos}:PE X (.Constant .none j pos) (tC .non):=fun _ _ _ H _ I h=>Constant_none ⟨.non,H,I,rfl,h⟩
theorem En{x j pos}:PE X (.Constant (.str x) j pos) (tC (.str x)):=fun _ _ _ H _ I h=>Calls.Constant_str ⟨.str x,H,I.tok _,⟨_,rfl⟩,h⟩
def Gl(X:Cx)(x:Str):Prop:=X.env.kindOf x=some .globalImplicit
theorem fT{E:Value->Shared->Prop}{pins:List (Addr×Obj)}{s:Shared}{σ:St}{H:Hp}{x:Str}{u:Value}{pos:Pos}{Q:Value->Shared->Prop}(I:Inv X pins σ H s)(hg:Gl X x)(hm:X.mg x=some u)(h:Q u s)(hd:(x==("__debug__":Str))=false:=by decide):wpAny (model X.prog X.w) X.A (eval (.Name x pos) X.env) Q E s :=
 Calls.Name_function_global I.ok.kind hg (Calls.loadGlobal_global (by rw[I.ok.glob];exact I.mod.glob.keeps I.bk) hm h) hd
theorem eE{E:Value->Shared->Prop}{pins:List (Addr×Obj)}{s:Shared}{σ:St}{H:Hp}{x:Str}{u:Value}{pos:Pos}{Q:Value->Shared->Prop}(I:Inv X pins σ H s)(hg:Gl X x)(hm:X.mg x=none)(hv:bootBuiltins x=some u)(h:Q u s)(hn:x≠"__name__":=by decide)(hd:(x==("__debug__":Str))=false:=by decide):wpAny (model X.prog X.w) X.A (eval (.Name x pos) X.env) Q E s:=by obtain⟨mb,h1,h2⟩:=I.mod.blt;exact Calls.Name_function_global I.ok.kind hg (Calls.loadGlobal_builtin (by rw[I.ok.glob];exact I.mod.glob.keeps I.bk) hm (by rw[I.ok.blt];exact h1.keeps I.bk) ((h2 x hn).trans hv) h) hd
theorem um{x:Str}{v:V}{u:Value}{pos:Pos}(hg:Gl X x)(hm:X.mg x=some u)(r:RelV v u)(hd:(x==("__debug__":Str))=false:=by decide):PE X (.Name x pos) (tC v) :=
 fun _ _ _ H _ I h=>fT I hg hm ⟨v,H,I,r,h⟩ hd
theorem Cs{x:Str}{v:V}{u:Value}{pos:Pos}(hg:Gl X x)(hm:X.mg x=none)(hv:bootBuiltins x=some u)(r:RelV v u)(hn:x≠"__name__":=by decide)(hd:(x==("__debug__":Str))=false:=by decide):PE X (.Name x pos) (tC v) :=
 fun _ _ _ H _ I h=>eE I hg hm hv ⟨v,H,I,r,h⟩ hn hd
variable{a b:Expr}{ta tb:TE}{pos:Pos}
def PC(X:Cx)(op:CmpOp)(a b:Expr)(t:TE):Prop :=
 ∀(pins:List (Addr×Obj)) (s:Shared) (σ:St) (H:Hp) (Q:VK),Inv X pins σ H s->t σ H Q ->
  wpAny (model X.prog X.w) X.A (eval a X.env) (fun v s₁=>wpAny (model X.prog X.w) X.A (eval b X.env) (fun u s₂=>wpAny (model X.prog X.w) X.A (compareOp op v u) (EP X pins σ Q) X.xe s₂) X.xe s₁) X.xe s
inductive IsB(x:V)(H:Hp)(Q:Bool->Hp->Prop):Prop
 |mk (c:Bool) (h:x=.bl c) (q:Q c H):IsB x H Q
def tB(t:TE):TT:=fun σ H Q=>t σ H fun x H1=>IsB x H1 Q
theorem Eg{op:CmpOp}{t:TE}(h:PC X op a b t)(h1:behindInMarks op b=false:=by first|exact nobehind _ (by decide) (by decide)|rfl):PE X (.Compare a [op] [b] pos) t:=fun pins s σ H Q I hw=>wpAny_Compare1 (h pins s σ H Q I hw) h1
theorem EB{op:CmpOp}{t:TE}(h:PC X op a b t)(h1:behindInMarks op b=false:=by first|exact nobehind _ (by decide) (by decide)|rfl):PT X (.Compare a [op] [b] pos) (tB t):=by intro pins s σ H Q I hw;refine wpAny_isTrue_Compare1 (thn (h pins s σ H _ I hw) fun v s1 h1=>thn h1 fun u s2 h2=>thn h2 fun c s3 hz9=>?_) h1;obtain⟨x,H1,I1,r1,q1⟩:=hz9;obtain⟨d,rfl,q⟩:=q1;cases r1;exact ZY ⟨H1,I1,q⟩
theorem EF{e:Expr}{t:TE}(h:PE X e t)(he:∀whole,isTrue e X.env whole=(do let v ←whole;standAt e.pos;holding [v] (truthy v)):=by intro _;rfl):PT X e (tB t):=by intro pins s σ H Q I hw;refine isTrue_plain (thn (h pins s σ H _ I hw) fun v s1 hz9=>?_) (he _);obtain⟨x,H1,I1,r1,q1⟩:=hz9;obtain⟨d,rfl,q⟩:=q1;cases r1;exact ZY ⟨H1,I1,q⟩
variable{tA tB':TT}{rest:List Expr}
def E2(t u:TT):TT:=fun σ H Q=>t σ H fun c H1=>if c=true then u σ H1 Q else Q false H1
def tOr(t u:TT):TT:=fun σ H Q=>t σ H fun c H1=>if c=true then Q true H1 else u σ H1 Q
def E6(t:TT):TT:=fun σ H Q=>t σ H fun c H1=>Q (!c) H1
theorem CO(ha:PT X a tA):PW X (.BoolOp .And [a] pos) tA:=by
 intro wh pins s σ H Q I h;refine isTrue_and (thn (ha pins s σ H Q I h) fun c s1 e=>?_);cases c with
 |true=>exact isTrue_and_nil e
 |false=>exact e
theorem EI(ha:PT X a tA):PW X (.BoolOp .Or [a] pos) tA:=by
 intro wh pins s σ H Q I h;refine isTrue_or (thn (ha pins s σ H Q I h) fun c s1 e=>?_);cases c with
 |false=>exact isTrue_or_nil e
 |true=>exact e
theorem EH(ha:PT X a tA)(hb:PW X (.BoolOp .And (b::rest) pos) tB'):PW X (.BoolOp .And (a::b::rest) pos) (E2 tA tB'):=by
 intro wh pins s σ H Q I h;refine isTrue_and (thn (ha pins s σ H _ I h) fun c s1 ⟨H1,I1,q1⟩=>?_);cases c with
 |true=>exact hb wh pins s1 σ H1 Q I1 q1
 |false=>exact⟨H1,I1,q1⟩
theorem FY(ha:PT X a tA)(hb:PW X (.BoolOp .Or (b::rest) pos) tB'):PW X (.BoolOp .Or (a::b::rest) pos) (tOr tA tB'):=by
 intro wh pins s σ H Q I h;refine isTrue_or (thn (ha pins s σ H _ I h) fun c s1 ⟨H1,I1,q1⟩=>?_);cases c with
 |true=>exact⟨H1,I1,q1⟩
 |false=>exact hb wh pins s1 σ H1 Q I1 q1
theorem ED(ha:PT X a tA):PT X (.UnaryOp .Not a pos) (E6 tA):=by intro pins s σ H Q I h;exact isTrue_not (ha pins s σ H (fun c H1=>Q (!c) H1) I h)
def BE(ta tb:TE):TE:=fun σ H Q=>ta σ H fun x H1=>∃c,x=.bl c/\if c=true then tb σ H1 Q else Q (.bl false) H1
def E7(ta tb:TE):TE:=fun σ H Q=>ta σ H fun x H1=>∃c,x=.bl c/\if c=true then Q (.bl true) H1 else tb σ H1 Q
def BH(ta:TE):TE:=fun σ H Q=>ta σ H fun x H1=>∃c,x=.bl c/\Q (.bl (!c)) H1
theorem Em{op}{t:TE}(h:PE X a t):PE X (.BoolOp op [a] pos) t:=fun pins s σ H Q I hw=>BoolOp_one (h pins s σ H Q I hw)
theorem Ef(ha:PE X a ta)(hb:PE X (.BoolOp .And (b::rest) pos) tb):PE X (.BoolOp .And (a::b::rest) pos) (BE ta tb):=by
 intro pins s σ H Q I h;refine BoolOp_and (thn (ha pins s σ H _ I h) fun v s1 hz9=>?_);obtain⟨x,H1,I1,r1,q1⟩:=hz9;obtain⟨c,rfl,q1⟩:=q1;cases r1;refine ZY ?_;cases c with
 |true=>exact hb pins s1 σ H1 Q I1 q1
 |false=>exact⟨.bl false,H1,I1,rfl,q1⟩
theorem FV(ha:PE X a ta)(hb:PE X (.BoolOp .Or (b::rest) pos) tb):PE X (.BoolOp .Or (a::b::rest) pos) (E7 ta tb):=by
 intro pins s σ H Q I h;refine BoolOp_or (thn (ha pins s σ H _ I h) fun v s1 hz9=>?_);obtain⟨x,H1,I1,r1,q1⟩:=hz9;obtain⟨c,rfl,q1⟩:=q1;cases r1;refine ZY ?_;cases c with
 |false=>exact hb pins s1 σ H1 Q I1 q1
 |true=>exact⟨.bl true,H1,I1,rfl,q1⟩
theorem El(ha:PE X a ta):PE X (.UnaryOp .Not a pos) (BH ta):=by intro pins s σ H Q I h;refine UnaryOp_ (thn (ha pins s σ H _ I h) fun v s1 hz9=>?_);obtain⟨x,H1,I1,r1,q1⟩:=hz9;obtain⟨c,rfl,q1⟩:=q1;cases r1;exact not_of (ZY ⟨.bl (!c),H1,I1,rfl,q1⟩)
def tIf(t:TT)(ta tb:TE):TE:=fun σ H Q=>t σ H fun c H1=>if c=true then ta σ H1 Q else tb σ H1 Q
theorem AB{c:Expr}(hc:PT X c tA)(ha:PE X a ta)(hb:PE X b tb):PE X (.IfExp c a b pos) (tIf tA ta tb):=by
 intro pins s σ H Q I h;refine wpAny_IfExp (thn (hc pins s σ H _ I h) fun d s1 ⟨H1,I1,q1⟩=>?_);cases d with
 |true=>exact ha pins s1 σ H1 Q I1 q1
 |false=>exact hb pins s1 σ H1 Q I1 q1
end
open PySem PySem.Spec PyProof.Rows
def SqL(K:PySem.W.Frag)(H:Hp)(a:Addr)(xs:List V):Prop :=
 Rd H a (.lst xs) \/
  ∃(o:Obj) (its:Array Value) (n:Nat),K.lookup a=some o/\o.cls=.type "list"/\o.dict=none/\o.data=.seq its n/\its.size<=sizeLine/\Vals xs its.toList
def SqT(K:PySem.W.Frag)(H:Hp)(a:Addr)(xs:List V):Prop :=
 Rd H a (.tup xs) \/
  ∃(o:Obj) (its:Array Value) (n:Nat),K.lookup a=some o/\o.cls=.type "tuple"/\o.data=.seq its n/\its.size<=sizeLine/\Vals xs its.toList
def Gm:Value->Option V
 |.none=>some .non
 |.bool b=>some (.bl b)
 |.int i _=>some (.int i)
 |.str x _=>some (.str x)
 |.bytes b _=>some (.byt b)
 |.float b _=>some (.flt b)
 |.ref a=>some (.ref a)
 |.type n=>some (.ty n)
 |_=>none
theorem RelV.abs{x:V}{u:Value}(r:RelV x u):Gm u=some x:=by
 cases x with
 |non=>cases r;rfl
 |bl _=>cases r;rfl
 |int _=>obtain⟨t,rfl⟩:=r;rfl
 |str _=>obtain⟨t,rfl⟩:=r;rfl
 |byt _=>obtain⟨t,rfl⟩:=r;rfl
 |flt _=>obtain⟨t,rfl⟩:=r;rfl
 |ref _=>cases r;rfl
 |ty _=>cases r;rfl
theorem RelV.inj{x y:V}{u:Value}(r:RelV x u)(q:RelV y u):x=y:=Zu (r.abs.symm.trans q.abs)
theorem Vals.inj:∀{xs ys:List V} {us:List Value},Vals xs us->Vals ys us->xs=ys
 |_,_,_,.nil,.nil=>rfl
 |_,_,_,.cons r t,.cons r' t'=>by rw[r.inj r',Vals.inj t t']
section
variable{X:Cx}{pins:List (Addr×Obj)}{σ:St}{H:Hp}{s:Shared}{a:Addr}{xs ys:List V}
theorem SqL.of{K:PySem.W.Frag}(h:H a=some (.lst xs)):SqL K H a xs:=.inl (.inl h)
theorem SqT.of{K:PySem.W.Frag}(h:H a=some (.tup xs)):SqT K H a xs:=.inl (.inl h)
theorem Inv.list(I:Inv X pins σ H s)(h:SqL X.K H a xs):∃its:List Value,Vals xs its/\PlainL s.heap a its.toArray/\xs.length<=sizeLine:=by
 rcases h with h|⟨o,its,n,hk,hc,hd,hs,hz,r⟩
 ·obtain⟨z,its,n,r,e⟩:=h.ok I.hok;exact⟨its,r,⟨_,n,e,rfl,rfl,rfl⟩,z⟩
 ·refine⟨its.toList,r,⟨o,n,I.kIn a o hk,hc,hd,by simpa using hs⟩,?_⟩;have e:=r.length;simp only[Zm]at e;omega
theorem Inv.tuple(I:Inv X pins σ H s)(h:SqT X.K H a xs):∃its:List Value,Vals xs its/\IsTup s.heap a its.toArray/\xs.length<=sizeLine:=by
 rcases h with h|⟨o,its,n,hk,hc,hs,hz,r⟩
 ·obtain⟨z,its,r,p⟩:=h.ok I.hok;exact⟨its,r,p,z⟩
 ·refine⟨its.toList,r,⟨o,I.kIn a o hk,hc,n,by simpa using hs⟩,?_⟩;have e:=r.length;simp only[Zm]at e;omega
theorem Inv.list_inj(I:Inv X pins σ H s)(h:SqL X.K H a xs)(h':SqL X.K H a ys):xs=ys:=by
 obtain⟨its,r,⟨o,n,e,_,_,d⟩,_⟩:=I.list h;obtain⟨its',r',⟨o',n',e',_,_,d'⟩,_⟩:=I.list h';rw[e]at e';cases e';rw[d]at d';injection d' with d1 _;have:its=its':=by simpa using congrArg Array.toList d1
 subst this;exact r.inj r'
theorem Inv.tuple_inj(I:Inv X pins σ H s)(h:SqT X.K H a xs)(h':SqT X.K H a ys):xs=ys:=by
 obtain⟨its,r,⟨o,e,_,n,d⟩,_⟩:=I.tuple h;obtain⟨its',r',⟨o',e',_,n',d'⟩,_⟩:=I.tuple h';rw[e]at e';cases e';rw[d]at d';injection d' with d1 _;have:its=its':=by simpa using congrArg Array.toList d1
 subst this;exact r.inj r'
end
abbrev Cx.wish(X:Cx)(E:Value->Shared->Prop):Cx:={ X with xe:=E }
abbrev Cx.nox(X:Cx):Cx:=X.wish fun _ _=>False
theorem Cx.Ok.wish{X:Cx}(ok:X.Ok)(E:Value->Shared->Prop):(X.wish E).Ok :=
 ⟨ok.mod,ok.kind,ok.glob,ok.blt,ok.above,ok.inj,ok.has,ok.cab,ok.hd,ok.frames,ok.stk,ok.exf,ok.bs,ok.bsz,ok.noex,ok.exfs,ok.funs,ok.frf⟩
theorem Cx.Ok.unwish{X:Cx}{E:Value->Shared->Prop}(ok:(X.wish E).Ok):X.Ok :=
 ⟨ok.mod,ok.kind,ok.glob,ok.blt,ok.above,ok.inj,ok.has,ok.cab,ok.hd,ok.frames,ok.stk,ok.exf,ok.bs,ok.bsz,ok.noex,ok.exfs,ok.funs,ok.frf⟩
section
variable{X:Cx}{pins:List (Addr×Obj)}{σ:St}{H:Hp}{s:Shared}{E:Value->Shared->Prop}
theorem Inv.wish(I:Inv X pins σ H s)(E:Value->Shared->Prop):Inv (X.wish E) pins σ H s:=⟨I.ok.wish E,I.os,I.bare,I.base,I.loc,I.cell,I.free,I.freeC,I.pin,I.hok,I.len⟩
theorem Inv.unwish(I:Inv (X.wish E) pins σ H s):Inv X pins σ H s:=⟨I.ok.unwish,I.os,I.bare,I.base,I.loc,I.cell,I.free,I.freeC,I.pin,I.hok,I.len⟩
theorem SP.unwish{D:Ends}{f:Flow}{s':Shared}(h:SP (X.wish E) pins D f s'):SP X pins D f s':=by
 cases f with
 |next=>obtain⟨σ',H',I,q⟩:=h;exact⟨σ',H',I.unwish,q⟩
 |brk=>obtain⟨σ',H',I,q⟩:=h;exact⟨σ',H',I.unwish,q⟩
 |cont=>obtain⟨σ',H',I,q⟩:=h;exact⟨σ',H',I.unwish,q⟩
 |ret u=>obtain⟨v,σ',H',I,r,q⟩:=h;exact⟨v,σ',H',I.unwish,r,q⟩
theorem PSs.nox{st:List Stmt}{t:TS}(h:PSs X.nox st t):PSs X st t:=fun pins s σ H D I hw =>
 ZK (h pins s σ H D (I.wish _) hw) (fun _ _ q=>q.unwish) fun _ _ z=>False.elim z
end
section
variable{X:Cx}{st:Stmt}{rest:List Stmt}{t u:TS}{e:Expr}{te:TE}{pos:Pos}
def qv:TS:=fun D σ H=>D.nx σ H
def wA(t u:TS):TS:=fun D σ H=>t { D with nx:=u D } σ H
theorem CL:PSs X [] qv:=fun _ _ σ H _ I h=>wpAny_execs_nil ⟨σ,H,I,h⟩
theorem AK(h1:PS X st t)(h2:PSs X rest u):PSs X (st::rest) (wA t u):=by
 intro pins s σ H D I h;refine wpAny_execs_cons (thn (h1 pins s σ H { D with nx:=u D } I h) fun f s1 q=>?_);cases f with
 |next =>obtain⟨σ',H',I',q⟩:=q;exact h2 pins s1 σ' H' D I' q
 |ret v=>exact q
 |brk=>exact q
 |cont=>exact q
theorem CM(h1:PS X st t):PSs X [st] t:=by
 intro pins s σ H D I h;refine wpAny_execs_cons (thn (h1 pins s σ H D I h) fun f s1 q=>?_);cases f with
 |next=>exact wpAny_execs_nil q
 |ret v=>exact q
 |brk=>exact q
 |cont=>exact q
theorem Inv.quiet{pins:List (Addr×Obj)}{σ:St}{H:Hp}{s:Shared}(I:Inv X pins σ H s):interactive X.env=false:=by simp[interactive,I.ok.kind]
def wy(te:TE):TS:=fun D σ H=>te σ H fun _ H1=>D.nx σ H1
theorem CJ(he:PE X e te)(hs:swapsWith e none pos.line X.env=pure false:=by rfl):PS X (.Expr e pos) (wy te):=by intro pins s σ H D I h;exact wpAny_Expr_any (thn (he pins s σ H _ I h) fun v s1 ⟨x,H1,I1,r1,q1⟩=>⟨σ,H1,I1,q1⟩) I.quiet hs
def E8(te:TE):TS:=fun D σ H=>te σ H D.rt
theorem Ez(he:PE X e te):PS X (.Return (some e) pos) (E8 te):=by intro pins s σ H D I h;exact wpAny_Return_some (thn (he pins s σ H _ I h) fun v s1 ⟨x,H1,I1,r1,q1⟩=>⟨x,σ,H1,I1,r1,q1⟩)
def Ba(c:TT)(t u:TS):TS:=fun D σ H=>c σ H fun b H1=>if b=true then t D σ H1 else u D σ H1
theorem FX{c:Expr}{a b:List Stmt}{tc:TT}(hc:PT X c tc)(ha:PSs X a t)(hb:PSs X b u):PS X (.If c a b pos) (Ba tc t u):=by
 intro pins s σ H D I h;refine wpAny_If (thn (hc pins s σ H _ I h) fun d s1 ⟨H1,I1,q1⟩=>?_);cases d with
 |true=>exact ha pins s1 σ H1 D I1 q1
 |false=>exact hb pins s1 σ H1 D I1 q1
end
abbrev TG:=V->St->Hp->(St->Hp->Prop)->Prop
abbrev TGs:=List V->St->Hp->(St->Hp->Prop)->Prop
def PG(X:Cx)(target:Expr)(t:TG):Prop :=
 ∀(pins:List (Addr×Obj)) (s:Shared) (σ:St) (H:Hp) (v:V) (u:Value) (Q:St->Hp->Prop),Inv X pins σ H s->RelV v u->t v σ H Q ->
  wpAny (model X.prog X.w) X.A (assign target X.env u) (fun _ s'=>∃σ' H',Inv X pins σ' H' s'/\Q σ' H') X.xe s
def PGs(X:Cx)(ts:List Expr)(t:TGs):Prop :=
 ∀(pins:List (Addr×Obj)) (s:Shared) (σ:St) (H:Hp) (vs:List V) (us:List Value) (Q:St->Hp->Prop),Inv X pins σ H s->Vals vs us->t vs σ H Q ->
  wpAny (model X.prog X.w) X.A (assignInOrder ((assignEach ts X.env).map (·.2)) us) (fun _ s'=>∃σ' H',Inv X pins σ' H' s'/\Q σ' H') X.xe s
abbrev qH:=V->V->V->Hp->(Hp->Prop)->Prop
def zD(X:Cx)(t:qH):Prop :=
 ∀(pins:List (Addr×Obj)) (s:Shared) (σ:St) (H:Hp) (o i v:V) (ov iv u:Value) (Q:Hp->Prop),Inv X pins σ H s->RelV o ov->RelV i iv->RelV v u->t o i v H Q ->
  wpAny (model X.prog X.w) X.A (setItem ov iv u) (fun _ s'=>∃H',Inv X pins σ H' s'/\Q H') X.xe s
abbrev TIp:=V->V->Hp->VK->Prop
def PIp(X:Cx)(op:Operator)(t:TIp):Prop :=
 ∀(pins:List (Addr×Obj)) (s:Shared) (σ:St) (H:Hp) (x y:V) (v u:Value) (Q:VK),Inv X pins σ H s->RelV x v->RelV y u->t x y H Q ->
  wpAny (model X.prog X.w) X.A (inplaceOp op v u) (EP X pins σ Q) X.xe s
section
variable{X:Cx}{pos:Pos}
def bz(i:Nat):TG:=fun v σ H Q=>Q (σ.set i (some v)) H
theorem CA{i:Nat}{x:Str}(hN:X.N.Nodup)(hi:X.N[i]?=some x)(hx:Loc X.env.scope x)(hf:X.fn x=true\/X.env.scope.names.lookup x=some .local:=by first|exact .inl rfl|exact .inr rfl|assumption):PG X (.Name x pos) (bz i):=by intro pins s σ H v u Q I r h;exact wpAny_assign_Name (iZ I hN hi hx r (fun s' I'=>⟨_,H,I',h⟩) hf)
def jh:TGs:=fun vs σ H Q=>vs=[]/\Q σ H
def dJ(t:TG)(u:TGs):TGs:=fun vs σ H Q=>∃v r,vs=v::r/\t v σ H fun σ' H'=>u r σ' H' Q
theorem CB:PGs X [] jh:=by intro pins s σ H vs us Q I r h;obtain⟨e,h⟩:=h;subst e;cases r;exact assignInOrder_nil ⟨σ,H,I,h⟩
theorem AE{e:Expr}{es:List Expr}{t:TG}{u:TGs}(h1:PG X e t)(h2:PGs X es u)(hs:(assignEach (e::es) X.env).map (·.2)=assign e X.env::(assignEach es X.env).map (·.2):=by rfl):PGs X (e::es) (dJ t u):=by
 intro pins s σ H vs us Q I r h;obtain⟨v,vr,e1,h⟩:=h;subst e1;cases r with
 |cons r rr =>rw[hs];refine assignInOrder_cons (thn (h1 pins s σ H _ _ _ I r h) fun _ s1 ⟨σ1,H1,I1,q1⟩=>?_);exact h2 pins s1 σ1 H1 _ _ Q I1 rr q1
def ji(K:PySem.W.Frag)(n:Nat)(t:TGs):TG:=fun v σ H Q=>∃a xs,v=.ref a/\SqT K H a xs/\xs.length=n/\t xs σ H Q
theorem Es{es:List Expr}{k:Nat}{t:TGs}{n:Nat}(hc:X.calm=true)(h:PGs X es t)(hn:(assignEach es X.env).length=n:=by rfl)(hst:(assignEach es X.env).findIdx? (·.1)=none:=by rfl):PG X (.Tuple es k pos) (ji X.K n t):=by intro pins s σ H v u Q I r hw;obtain⟨a,xs,e1,hq,hl,hw⟩:=hw;subst e1;cases r;obtain⟨its,rv,ht,hz⟩:=I.tuple hq;refine assign_Tuple_tuple (I.ok.hd hc) ht (by simp[hn,<-hl,rv.length]) hst fun h' hx=>?_;have I1:Inv X pins σ H { s with heap:=h' }:=I.kept (t':=s.toks) fun b o e=>hx b o (Zn (Zi e)) e;exact h pins _ σ H xs _ Q I1 (by simpa using rv) hw
def DA(to ti:TE)(t:qH):TG:=fun v σ H Q=>to σ H fun o H1=>ti σ H1 fun i H2=>t o i v H2 fun H3=>Q σ H3
theorem Er{o i:Expr}{to ti:TE}{t:qH}(ho:PE X o to)(hi:PE X i ti)(hs:zD X t)(ha:∀ v,assign (.Subscript o i pos) X.env v=(do
   let ov ←holding [v] (eval o X.env)
   let iv ←holding [v,ov] (eval i X.env)
   standAt pos
   holding [v,ov,iv] (setItem ov iv v)
   release [v,ov,iv] []):=by intro _;rfl):PG X (.Subscript o i pos) (DA to ti t):=by
 intro pins s σ H v u Q I r h;rw[ha];refine z0 (ZT (thn (ho pins s σ H _ I h) fun ov s1 hz9=>?_));obtain⟨x,H1,I1,r1,q1⟩:=hz9;refine z0 (ZT (thn (hi pins s1 σ H1 _ I1 q1) fun iv s2 hz9=>?_));obtain⟨y,H2,I2,r2,q2⟩:=hz9;refine z0 (wpAny_standAt (z0 (ZT (thn (hs pins s2 σ H2 x y v ov iv u _ I2 r1 r2 r q2) fun _ s3 ⟨H3,I3,q3⟩=>?_))));exact wpAny_release ⟨σ,H3,I3,q3⟩
def oq(te:TE)(g:TG):TS:=fun D σ H=>te σ H fun x H1=>g x σ H1 D.nx
theorem Ew{tg e:Expr}{te:TE}{g:TG}(he:PE X e te)(hg:PG X tg g)(hs:swapsWithSole [tg] e pos.line X.env=pure false:=by rfl)(hw:swappedStores [tg] e X.env=pure none:=by rfl)(h1:(assignEach [tg] X.env).map (·.2)=[assign tg X.env]:=by rfl):PS X (.Assign [tg] e pos) (oq te g):=by intro pins s σ H D I h;refine wpAny_Assign_stores (thn (he pins s σ H _ I h) fun v s1 hz9=>?_) hs hw;obtain⟨x,H1,I1,r1,q1⟩:=hz9;rw[h1];exact thn (hg pins s1 σ H1 x v _ I1 r1 q1) fun _ s2 q=>q
theorem EA{i:Nat}{x:Str}{e:Expr}{te:TE}{pos':Pos}(hN:X.N.Nodup)(hi:X.N[i]?=some x)(hx:Loc X.env.scope x)(he:PE X e te)(hs:swapsWith e (some (.Name x pos')) pos.line X.env=pure false:=by rfl)(hf:X.fn x=true\/X.env.scope.names.lookup x=some .local:=by first|exact .inl rfl|exact .inr rfl|assumption) :
  PS X (.Assign [.Name x pos'] e pos) (oq te (bz i)):=by
 intro pins s σ H D I h;refine wpAny_Assign_Name (thn (he pins s σ H _ I h) fun v s1 hz9=>?_) hs;obtain⟨y,H1,I1,r1,q1⟩:=hz9;exact iZ I1 hN hi hx r1 (fun s2 I2=>⟨_,H1,I2,q1⟩) hf
end
structure It where
 go:Nat->Hp->Prop
 yld:Nat->Hp->V->Hp->Prop
 stop:Nat->Hp->Prop
def bH(X:Cx)(pins:List (Addr×Obj))(H:Hp)(b:Addr):Prop :=
 H b=none/\b≠X.env.locals/\b∉X.fs/\(b∈X.ex\/X.s₀.heap.objs.size<=b)/\(∀x c,X.env.cells.lookup x=some c->c≠b)/\∀p∈X.pn++pins,p.1≠b
theorem Inv.fpOk{X:Cx}{pins:List (Addr×Obj)}{σ:St}{H H':Hp}{s:Shared}{b:Addr}(I:Inv X pins σ H s)(hb:s.heap.objs.size<=b)(hn:H' b=none):bH X pins H' b:=by
 refine⟨hn,Z4 (Zo I.lt hb),I.nofs hb,.inr (Zy I.sz hb),fun x c e z=>?_,fun p hp z=>?_⟩
 ·obtain⟨v,q⟩:=I.cell x c e;exact absurd (Zo q.lt (by rw[z];exact hb)) (Yh _)
 ·exact absurd (Zo (Zi (I.pin p hp).1) (by rw[z];exact hb)) (Yh _)
structure Turn(P:Program)(w:World)(K:PySem.W.Frag)(tg:Expr)(J:It)(fp:List Addr)(it:Addr)(tn:Nat->Heap->Prop):Prop where
 mem:it∈fp
 obj:∀i h,tn i h->∀b∈fp,∃o,h.get? b=some o/\∀v,o.data≠.cell v
 keep:∀i h h',tn i h->(∀b∈fp,∀o,h.get? b=some o->h'.get? b=some o)->tn i h'
 item:∀(X:Cx),X.prog=P->X.w=w->X.K=K->X.calm=true->∀(i:Nat) (pins:List (Addr×Obj)) (s:Shared) (σ:St) (H:Hp) (E:Value->Shared->Prop),Inv X pins σ H s->(∀b∈fp,bH X pins H b)->tn i s.heap->J.go i H ->
  wpAny (model P w) X.A (pyNext (.ref it)) (fun r s1=>∃ u,r=some u /\
   wpAny (model P w) X.A (letOwnedTupleGo tg (.ref it) u) (fun _ s2=>∃ x H',Inv X pins σ H' s2/\RelV x u/\J.yld i H x H'/\tn (i+1) s2.heap/\∀ b∈fp,H' b=none) E s1) E s
 done:∀(X:Cx),X.prog=P->X.w=w->X.K=K->X.calm=true->∀(i:Nat) (pins:List (Addr×Obj)) (s:Shared) (σ:St) (H:Hp) (E:Value->Shared->Prop),Inv X pins σ H s->(∀b∈fp,bH X pins H b)->tn i s.heap->J.stop i H ->
  wpAny (model P w) X.A (pyNext (.ref it)) (fun r s1=>r=none/\Inv X pins σ H s1) E s
 self:∀(A:Around) (i:Nat) (s:Shared) (Q:Value->Shared->Prop) (E:Value->Shared->Prop),tn i s.heap->Q (.ref it) s->wpAny (model P w) A (pyIter (.ref it)) Q E s
abbrev TI:=St->Hp->(It->Hp->Prop)->Prop
def PIE(X:Cx)(pins:List (Addr×Obj))(σ:St)(tg:Expr)(R:It->Hp->Prop)(itv:Value)(s2:Shared):Prop :=
 ∃(it:Addr) (fp:List Addr) (tn:Nat->Heap->Prop) (J:It) (H':Hp),itv=.ref it/\Inv X pins σ H' s2/\Turn X.prog X.w X.K tg J fp it tn/\tn 0 s2.heap/\(∀b∈fp,bH X pins H' b)/\R J H'
def PI(X:Cx)(tg iter:Expr)(wi:TI):Prop :=
 ∀(pins:List (Addr×Obj)) (s:Shared) (σ:St) (H:Hp) (R:It->Hp->Prop),Inv X pins σ H s->wi σ H R ->
  wpAny (model X.prog X.w) X.A (eval iter X.env) (fun v s1=>wpAny (model X.prog X.w) X.A (pyIter v) (PIE X pins σ tg R) X.xe s1) X.xe s
theorem lQ{M:Model}{A:Around}{E:Value->Shared->Prop}{s:Shared}{tg:Expr}{it:Addr}{u:Value}{o:Obj}{n:String}{vs:Array Value}{Q:Unit->Shared->Prop}(ho:s.heap.get? it=some o)(hc:o.cls=.type n)(hd:o.data=.fields vs)(hn:["enumerate","zip","dict_itemiterator","dict_reverseitemiterator","odict_iterator","itertools.zip_longest","itertools.pairwise"].contains n=false)(hQ:Q () s):wpAny M A (letOwnedTupleGo tg (.ref it) u) Q E s:=by
 unfold letOwnedTupleGo;cases tg<;>first
  |exact z9 hQ
  | (cases u<;>first
    |exact z9 hQ
    | (refine z0 (wpAny_load ho ?_)
       rw[hc,hd];show wpAny M A (if(["enumerate","zip","dict_itemiterator","dict_reverseitemiterator","odict_iterator","itertools.zip_longest","itertools.pairwise"].contains n&&vs[0]?==some (rawInt _))=true then _ else _) Q E s;rw[HU (by intro h;rw[hn,Yc]at h;cases h)];exact z9 hQ))
def Itl(K:PySem.W.Frag)(a:Addr):It :=
 ⟨fun i H=>∃xs x,SqL K H a xs/\xs[i]?=some x,fun i H x H'=>H'=H/\∀xs,SqL K H a xs->xs[i]?=some x,fun i H=>∃xs,SqL K H a xs/\xs.length<=i⟩
def Itt(K:PySem.W.Frag)(a:Addr):It :=
 ⟨fun i H=>∃xs x,SqT K H a xs/\xs[i]?=some x,fun i H x H'=>H'=H/\∀xs,SqT K H a xs->xs[i]?=some x,fun i H=>∃xs,SqT K H a xs/\xs.length<=i⟩
def Itr(lo:Int)(n:Nat):It:=⟨fun i _=>i<n,fun i H x H'=>H'=H/\x=.int (lo+i),fun i _=>n<=i⟩
theorem zj{P:Program}{w:World}{K:PySem.W.Frag}{tg:Expr}(a it:Addr):Turn P w K tg (Itl K a) [it] it (fun i h=>h.IsListIter it a i) where
 mem:=by simp
 obj:=fun i h st b hb=>by
  have e:b=it:=by simpa using hb
  subst e;obtain⟨o,e,c,d⟩:=st;exact⟨o,e,fun v z=>by rw[d]at z;cases z⟩
 keep:=fun i h h' st k=>st.at fun o e=>k it (by simp) o e
 item:=by intro X hP hw hK hc i pins s σ H E I hf st hg;subst hP hw hK;obtain⟨xs,x,hq,hx⟩:=hg;obtain⟨its,rv,p,hz⟩:=I.list hq;obtain⟨u,hu,ru⟩:=rv.get hx;obtain⟨f0,f1,f2,f3,f4,f5⟩:=hf it (by simp);refine wpAny_pyNext_list_item st p.isList (x:=u) (by simpa using hu) fun h' st' sb=>?_;have I1:Inv X pins σ H { s with heap:=h' }:=I.turned (t':=s.toks) (fun b o hb e=>(sb.2 b hb).trans e) f0 f1 f3 f4 f5;obtain⟨o,e,c,d⟩:=id st';exact⟨u,rfl,lQ (s:={ s with heap:=h' }) e c d (by decide) ⟨x,H,I1,ru,⟨rfl,fun ys hy=>by rw[I.list_inj hy hq];exact hx⟩,st',fun b hb=>(hf b hb).1⟩⟩
 done:=by intro X hP hw hK hc i pins s σ H E I hf st hg;subst hP hw hK;obtain⟨xs,hq,hx⟩:=hg;obtain⟨its,rv,p,hz⟩:=I.list hq;obtain⟨f0,f1,f2,f3,f4,f5⟩:=hf it (by simp);have hl:=rv.length;exact wpAny_pyNext_list_end (I.ok.hd hc) st p.isList (by simp;omega) fun h' eb=>⟨rfl,I.turned (t':=s.toks) (fun b o hb e=>eb b o hb e) f0 f1 f3 f4 f5⟩
 self:=fun _ _ _ _ _ st h=>wpAny_pyIter_listiter st h
theorem wE{P:Program}{w:World}{K:PySem.W.Frag}{tg:Expr}(a it:Addr):Turn P w K tg (Itt K a) [it] it (fun i h=>h.IsTupleIter it a i) where
 mem:=by simp
 obj:=fun i h st b hb=>by
  have e:b=it:=by simpa using hb
  subst e;obtain⟨o,e,c,d⟩:=st;exact⟨o,e,fun v z=>by rw[d]at z;cases z⟩
 keep:=fun i h h' st k=>st.at fun o e=>k it (by simp) o e
 item:=by intro X hP hw hK hc i pins s σ H E I hf st hg;subst hP hw hK;obtain⟨xs,x,hq,hx⟩:=hg;obtain⟨its,rv,p,hz⟩:=I.tuple hq;obtain⟨u,hu,ru⟩:=rv.get hx;obtain⟨f0,f1,f2,f3,f4,f5⟩:=hf it (by simp);refine wpAny_pyNext_tuple_item st (show s.heap.IsTuple a its.toArray from p) (x:=u) (by simpa using hu) fun h' st' sb=>?_;have I1:Inv X pins σ H { s with heap:=h' }:=I.turned (t':=s.toks) (fun b o hb e=>(sb.2 b hb).trans e) f0 f1 f3 f4 f5;obtain⟨o,e,c,d⟩:=id st';exact⟨u,rfl,lQ (s:={ s with heap:=h' }) e c d (by decide) ⟨x,H,I1,ru,⟨rfl,fun ys hy=>by rw[I.tuple_inj hy hq];exact hx⟩,st',fun b hb=>(hf b hb).1⟩⟩
 done:=by intro X hP hw hK hc i pins s σ H E I hf st hg;subst hP hw hK;obtain⟨xs,hq,hx⟩:=hg;obtain⟨its,rv,p,hz⟩:=I.tuple hq;obtain⟨f0,f1,f2,f3,f4,f5⟩:=hf it (by simp);have hl:=rv.length;exact wpAny_pyNext_tuple_end (I.ok.hd hc) st (show s.heap.IsTuple a its.toArray from p) (by simp;omega) fun h' eb=>⟨rfl,I.turned (t':=s.toks) (fun b o hb e=>eb b o hb e) f0 f1 f3 f4 f5⟩
 self:=fun _ _ _ _ _ st h=>wpAny_pyIter_tupleiter st h
theorem wC{P:Program}{w:World}{K:PySem.W.Frag}{tg:Expr}(it:Addr)(lo:Int)(n:Nat):Turn P w K tg (Itr lo n) [it] it (fun i h=>IsRangeIter h it (lo+(i:Nat)*1) ((n:Int)-(i:Nat)) 1) where
 mem:=by simp
 obj:=fun i h st b hb=>by
  have e:b=it:=by simpa using hb
  subst e;exact⟨_,st,fun v z=>by
   have z':Data.fields _=Data.cell v:=z;cases z'⟩
 keep:=fun i h h' st k=>k it (by simp) _ st
 item:=by intro X hP hw hK hc i pins s σ H E I hf st hg;subst hP hw hK;obtain⟨f0,f1,f2,f3,f4,f5⟩:=hf it (by simp);have W:=Walks.range (prog:=X.prog) (w:=X.w) (I.ok.hd hc) it lo 1 n;refine W.item i s _ _ hg st fun v h' tk hv st' kk=>?_;obtain⟨t,rfl⟩:=hv;have I1:Inv X pins σ H { s with heap:=h',toks:=tk }:=I.turned (fun b o hb e=>kk b o (by simpa using hb) e) f0 f1 f3 f4 f5;refine⟨_,rfl,lQ (s:={ s with heap:=h',toks:=tk }) (n:="range_iterator") st' rfl rfl (by decide) ⟨.int (lo+i),H,I1,⟨t,?_⟩,⟨rfl,rfl⟩,st',fun b hb=>(hf b hb).1⟩⟩;rw[Int.mul_one]
 done:=by intro X hP hw hK hc i pins s σ H E I hf st hg;subst hP hw hK;obtain⟨f0,f1,f2,f3,f4,f5⟩:=hf it (by simp);exact wpAny_pyNext_range_end (I.ok.hd hc) st (by have:n<=i:=hg;omega) fun h' eb=>⟨rfl,I.turned (t':=s.toks) (fun b o hb e=>eb b o hb e) f0 f1 f3 f4 f5⟩
 self:=fun _ _ _ _ _ st h=>wpAny_pyIter_rangeiter st h
open PySem PySem.Spec PyProof.Rows
section
variable{X:Cx}{tg:Expr}
def Bp(K:PySem.W.Frag)(tl:TE):TI:=fun σ H R=>tl σ H fun x H1=>∃a,x=.ref a/\(∃xs,SqL K H1 a xs)/\R (Itl K a) H1
def DC(K:PySem.W.Frag)(tl:TE):TI:=fun σ H R=>tl σ H fun x H1=>∃a,x=.ref a/\(∃xs,SqT K H1 a xs)/\R (Itt K a) H1
theorem CD{l:Expr}{tl:TE}(hl:PE X l tl):PI X tg l (Bp X.K tl):=by
 intro pins s σ H R I h;refine thn (hl pins s σ H _ I h) fun v s1 hz9=>?_;obtain⟨x,H1,I1,r1,q1⟩:=hz9;obtain⟨a,e,⟨xs,hq⟩,q⟩:=q1;subst e;cases r1;obtain⟨its,rv,p,hz⟩:=I1.list hq;refine wpAny_pyIter_list p.isList ?_;refine⟨s1.heap.objs.size,[s1.heap.objs.size],_,_,H1,rfl,I1.kept (t':=s1.toks) fun b o e=>z6 _ e,zj a _,⟨_,Zg _ rfl,rfl,rfl⟩,fun b hb=>?_,q⟩;have e:b=s1.heap.objs.size:=by simpa using hb
 subst e;exact I1.fpOk (Zb _) (I1.hok.fresh (Zb _))
theorem Eu{l:Expr}{tl:TE}(hl:PE X l tl):PI X tg l (DC X.K tl):=by
 intro pins s σ H R I h;refine thn (hl pins s σ H _ I h) fun v s1 hz9=>?_;obtain⟨x,H1,I1,r1,q1⟩:=hz9;obtain⟨a,e,⟨xs,hq⟩,q⟩:=q1;subst e;cases r1;obtain⟨its,rv,p,hz⟩:=I1.tuple hq;refine YJ (show s1.heap.IsTuple a its.toArray from p) ?_;refine⟨s1.heap.objs.size,[s1.heap.objs.size],_,_,H1,rfl,I1.kept (t':=s1.toks) fun b o e=>z6 _ e,wE a _,⟨_,Zg _ rfl,rfl,rfl⟩,fun b hb=>?_,q⟩;have e:b=s1.heap.objs.size:=by simpa using hb
 subst e;exact I1.fpOk (Zb _) (I1.hok.fresh (Zb _))
theorem AU{pins:List (Addr×Obj)}{σ:St}{H:Hp}{s:Shared}{R:It->Hp->Prop}{E:Value->Shared->Prop}{lo hi:Int}{t u v:Tok}{tk:Nat}(I:Inv X pins σ H s)(h1:-(2^62)<=lo)(h2:lo<2^62)(h3:-(2^62)<=hi)(h4:hi<2^62)(q:R (Itr lo (hi-lo).toNat) H):wpAny (model X.prog X.w) X.A (pyIter (.ref s.heap.objs.size)) (PIE X pins σ tg R) E { s with heap:=s.heap.push { cls:=.type "range",data:=.fields #[.int lo t,.int hi u,.int 1 v] },toks:=tk }:=by
 refine wpAny_pyIter_range (IsRange.new ..) (small_one h1 h2 h3 h4) ?_;have I1:Inv X pins σ H { s with heap:=s.heap.push { cls:=.type "range",data:=.fields #[.int lo t,.int hi u,.int 1 v] },toks:=tk }:=I.kept fun b o e=>z6 _ e;refine⟨(s.heap.push { cls:=.type "range",data:=.fields #[.int lo t,.int hi u,.int 1 v] }).objs.size,[(s.heap.push { cls:=.type "range",data:=.fields #[.int lo t,.int hi u,.int 1 v] }).objs.size],_,_,H,rfl,
  I1.kept (t':=tk) fun b o e=>z6 _ e,wC _ lo (hi - lo).toNat,?_,fun b hb=>?_,q⟩
 ·have e1:lo+((0:Nat):Int)*1=lo:=by simp
  have e2:(((hi-lo).toNat:Nat):Int)-((0:Nat):Int)=Builtin.Range.rangeSize lo hi 1:=by rw[rangeSize_one];split<;>omega
  show IsRangeIter _ _ (lo+((0:Nat):Int)*1) ((((hi-lo).toNat:Nat):Int)-((0:Nat):Int)) 1;rw[e1,e2];exact Zg _ rfl
 ·have e:b=(s.heap.push { cls:=.type "range",data:=.fields #[.int lo t,.int hi u,.int 1 v] }).objs.size:=by simpa using hb
  subst e;exact I1.fpOk (Zb _) (I1.hok.fresh (Zb _))
def Bq(ta:TA):TI:=fun σ H R=>ta σ H fun vs H1=>∃j:Int,vs=[.int j]/\-(2^62)<=j/\j<2^62/\R (Itr 0 j.toNat) H1
theorem yu{a:Expr}{ta:TA}{p pos:Pos}(hg:Gl X "range")(hm:X.mg "range" = none)(ha:PA X [a] ta)(hs:starEach [a] X.env=[(false,eval a X.env)]:=by rfl):PI X tg (.Call (.Name "range" p) [a] [] pos) (Bq ta):=by
 intro pins s σ H R I h;refine Call_ (eE I hg hm boot_range (Yp (thn (ha pos pins s σ H _ I h) fun us s1 hz9=>?_) hs rfl));obtain⟨vs,H1,I1,r1,q1⟩:=hz9;obtain⟨j,e,q1,q2,q⟩:=q1;subst e;cases r1 with
 |cons r rr =>cases rr;obtain⟨t,rfl⟩:=r;exact call_range_1 (AU I1 (by omega) (by omega) q1 q2 (by simpa using q))
def E4(wi:TI)(g:TG)(tb:TS):TS:=fun D σ H=>wi σ H fun J H1=>∃W:Nat->Nat->St->Hp->Prop,(∃m,W 0 m σ H1)/\∀i m σ H,W i m σ H ->
 (J.stop i H/\D.nx σ H)\/(J.go i H/\∃N:St->Hp->Prop,(∀σ' H',N σ' H'->∃m',m'<m/\W (i+1) m' σ' H')/\∀x H',J.yld i H x H'->g x σ H' fun σ2 H2=>tb { D with nx:=N,ct:=N,bk:=D.nx } σ2 H2)
def ju(fp:List Addr)(h:Heap):List (Addr×Obj):=fp.filterMap fun b=>(h.get? b).map fun o=>(b,o)
theorem fJ{fp:List Addr}{h:Heap}{b:Addr}{o:Obj}(hb:b∈fp)(e:h.get? b=some o):(b,o)∈ju fp h:=YK.mpr ⟨b,hb,by rw[e];rfl⟩
theorem yi{fp:List Addr}{h:Heap}{p:Addr×Obj}(hp:p∈ju fp h):p.1∈fp/\h.get? p.1=some p.2:=by
 obtain⟨b,hb,e⟩:=YK.mp hp;cases q:h.get? b with
 |none=>rw[q]at e;cases e
 |some o =>rw[q]at e;have e':(b,o)=p:=Zu e;subst e';exact⟨hb,q⟩
theorem Inv.pinned{pins:List (Addr×Obj)}{σ:St}{H:Hp}{s:Shared}{fp:List Addr}(I:Inv X pins σ H s)(hf:∀b∈fp,bH X pins H b)(ho:∀b∈fp,∃o,s.heap.get? b=some o/\∀v,o.data≠.cell v):Inv X (pins++ju fp s.heap) σ H s :=
 I.pins_of fun p hp=>(ZD.mp hp).elim (fun z=>I.pin p (Zq _ z)) fun z=>by obtain⟨hb,e⟩:=yi z;obtain⟨f0,f1,f2,_⟩:=hf p.1 hb;obtain⟨o,e',d⟩:=ho p.1 hb;rw[e]at e';cases e';exact⟨e,f0,f1,f2,d⟩
theorem Inv.unpinned{pins pl:List (Addr×Obj)}{σ:St}{H:Hp}{s:Shared}(I:Inv X (pins++pl) σ H s):Inv X pins σ H s:=I.pins_of fun p hp=>I.pin p (Zq _ (Yg _ hp))
theorem Ey{iter:Expr}{body:List Stmt}{wi:TI}{g:TG}{tb:TS}{pos:Pos}(hp:PassesOwn (model X.prog X.w) X.A X.env X.xe)(hc:X.calm=true)(hi:PI X tg iter wi)(hg:PG X tg g)(hb:PSs X body tb)(hs:∀x,foldedSetIterable iter X.env x=pure x:=by intro _;rfl):PS X (.For tg iter body [] pos) (E4 wi g tb):=by
 intro pins s σ H D I h;refine wpAny_For (thn (hi pins s σ H _ I h) fun v s1 h1=>thn h1 fun itv s2 h2=>?_) hs;obtain⟨it,fp,tn,J,H2,e,I2,T,st2,f2,W,⟨m0,w0⟩,turn⟩:=h2;subst e;have stat:∀{H':Hp},(∀b∈fp,H' b=none)->∀b∈fp,bH X pins H' b:=fun hn b hb=>⟨hn b hb,(f2 b hb).2⟩
 refine codeAny_forLoop_any (fun n s'=>∃i σ' H',Inv X pins σ' H' s'/\tn i s'.heap/\(∀b∈fp,H' b=none)/\W i n σ' H') ?_ m0 ⟨0,σ,H2,I2,st2,fun b hb=>(f2 b hb).1,w0⟩;rintro n s3 ⟨i,σ3,H3,I3,st3,fr3,w3⟩;rcases turn i n σ3 H3 w3 with⟨stop,qn⟩|⟨go,N,hN,step⟩
 ·refine wpAny_passesOwn hp (thn (T.done X rfl rfl rfl hc i pins s3 σ3 H3 X.xe I3 (stat fr3) st3 stop) fun r s4 ⟨hr,I4⟩=>?_);subst hr;exact wpAny_execs_nil ⟨σ3,H3,I4,qn⟩
 ·refine wpAny_passesOwn hp (thn (T.item X rfl rfl rfl hc i pins s3 σ3 H3 X.xe I3 (stat fr3) st3 go) fun r s4 ⟨u,hr,h4⟩=>?_);subst hr;refine wpAny_passesOwn hp (thn h4 fun _ s5 hz9=>?_);obtain⟨x,H5,I5,r5,y5,st5,fr5⟩:=hz9;have I5':=I5.pinned (stat fr5) (T.obj _ _ st5);refine wpAny_passesOwn hp (thn (hg _ s5 σ3 H5 x u _ I5' r5 (step x H5 y5)) fun _ s6 ⟨σ6,H6,I6,q6⟩=>?_);refine wpAny_passesOwn hp (thn (hb _ s6 σ6 H6 _ I6 q6) fun f s7 q7=>?_);have again:∀{σ7:St} {H7:Hp},Inv X (pins++ju fp s5.heap) σ7 H7 s7->N σ7 H7->∃m,m<n/\∃i σ' H',Inv X pins σ' H' s7/\tn i s7.heap/\(∀b∈fp,H' b=none)/\W i m σ' H':=fun{σ7 H7} I7 n7=>by obtain⟨m',hm,w7⟩:=hN σ7 H7 n7;refine⟨m',hm,i+1,σ7,H7,I7.unpinned,T.keep _ _ _ st5 fun b hb o e=>(I7.pin (b,o) (Zq _ (Zq _ (fJ hb e)))).1,fun b hb=>?_,w7⟩;obtain⟨o,e,d⟩:=T.obj _ _ st5 b hb;exact(I7.pin (b,o) (Zq _ (Zq _ (fJ hb e)))).2.1
  cases f with
  |next=>obtain⟨σ7,H7,I7,n7⟩:=q7;exact again I7 n7
  |cont=>obtain⟨σ7,H7,I7,n7⟩:=q7;exact again I7 n7
  |brk=>obtain⟨σ7,H7,I7,q7⟩:=q7;exact⟨σ7,H7,I7.unpinned,q7⟩
  |ret v=>obtain⟨x7,σ7,H7,I7,r7,q7⟩:=q7;exact⟨x7,σ7,H7,I7.unpinned,r7,q7⟩
end
theorem qU{K:PySem.W.Frag}{a:Addr}{xs:List V}{g:TG}{tb:TS}{D:Ends}{σ:St}{H:Hp}(Pv:Nat->St->Hp->Prop)(h0:Pv 0 σ H)(hl:∀i σ H,i<=xs.length->Pv i σ H->SqL K H a xs)(hs:∀i x σ H,xs[i]?=some x->Pv i σ H->g x σ H fun σ2 H2=>tb { D with nx:=Pv (i+1),ct:=Pv (i+1),bk:=D.nx } σ2 H2)(hd:∀σ H,Pv xs.length σ H->D.nx σ H) :
  ∃W:Nat->Nat->St->Hp->Prop,(∃m,W 0 m σ H)/\∀i m σ H,W i m σ H ->
   ((Itl K a).stop i H/\D.nx σ H)\/((Itl K a).go i H/\∃N:St->Hp->Prop,(∀σ' H',N σ' H'->∃m',m'<m/\W (i+1) m' σ' H')/\∀x H',(Itl K a).yld i H x H'->g x σ H' fun σ2 H2=>tb { D with nx:=N,ct:=N,bk:=D.nx } σ2 H2):=by
 refine⟨fun i m σ H=>m=xs.length-i/\i<=xs.length/\Pv i σ H,⟨xs.length,by simp,ZV _,h0⟩,?_⟩;rintro i m σ H ⟨rfl,hi,p⟩;have q:=hl i σ H hi p;by_cases hlt:i<xs.length
 ·refine .inr ⟨⟨xs,xs[i],q,by simp[hlt]⟩,Pv (i+1),fun σ' H' p'=>⟨xs.length-(i+1),by omega,rfl,hlt,p'⟩,fun x H' y=>?_⟩;obtain⟨e,y⟩:=y;subst e;exact hs i x σ _ (y xs q) p
 ·have e:i=xs.length:=by omega
  subst e;exact .inl ⟨⟨xs,q,Zb _⟩,hd σ H p⟩
theorem xC{lo:Int}{n:Nat}{g:TG}{tb:TS}{D:Ends}{σ:St}{H:Hp}(Pv:Nat->St->Hp->Prop)(h0:Pv 0 σ H)(hs:∀i σ H,i<n->Pv i σ H->g (.int (lo+i)) σ H fun σ2 H2=>tb { D with nx:=Pv (i+1),ct:=Pv (i+1),bk:=D.nx } σ2 H2)(hd:∀σ H,Pv n σ H->D.nx σ H) :
  ∃W:Nat->Nat->St->Hp->Prop,(∃m,W 0 m σ H)/\∀i m σ H,W i m σ H ->
   ((Itr lo n).stop i H/\D.nx σ H)\/((Itr lo n).go i H/\∃N:St->Hp->Prop,(∀σ' H',N σ' H'->∃m',m'<m/\W (i+1) m' σ' H')/\∀x H',(Itr lo n).yld i H x H'->g x σ H' fun σ2 H2=>tb { D with nx:=N,ct:=N,bk:=D.nx } σ2 H2):=by
 refine⟨fun i m σ H=>m=n-i/\i<=n/\Pv i σ H,⟨n,by simp,ZV _,h0⟩,?_⟩;rintro i m σ H ⟨rfl,hi,p⟩;by_cases hlt:i<n
 ·refine .inr ⟨hlt,Pv (i+1),fun σ' H' p'=>⟨n-(i+1),by omega,rfl,hlt,p'⟩,fun x H' y=>?_⟩;obtain⟨e,y⟩:=y;subst e y;exact hs i σ _ hlt p
 ·have e:i=n:=by omega
  subst e;exact .inl ⟨Zb _,hd σ H p⟩
open PySem PySem.Spec PyProof.Rows
abbrev R2:=V->V->Hp->VK->Prop
def OpR(X:Cx)(f:Value->Value->Sem Value)(r:R2):Prop :=
 ∀(pins:List (Addr×Obj)) (s:Shared) (σ:St) (H:Hp) (x y:V) (v u:Value) (Q:VK),Inv X pins σ H s->RelV x v->RelV y u->r x y H Q ->
  wpAny (model X.prog X.w) X.A (f v u) (EP X pins σ Q) X.xe s
def UnR(X:Cx)(f:Value->Sem Value)(r:V->Hp->VK->Prop):Prop :=
 ∀(pins:List (Addr×Obj)) (s:Shared) (σ:St) (H:Hp) (x:V) (v:Value) (Q:VK),Inv X pins σ H s->RelV x v->r x H Q ->
  wpAny (model X.prog X.w) X.A (f v) (EP X pins σ Q) X.xe s
def dI(X:Cx)(f:Value)(r:List V->Hp->VK->Prop):Prop :=
 ∀(pins:List (Addr×Obj)) (s:Shared) (σ:St) (H:Hp) (xs:List V) (us:List Value) (Q:VK),Inv X pins σ H s->Vals xs us->r xs H Q ->
  wpAny (model X.prog X.w) X.A (call f us) (EP X pins σ Q) X.xe s
def tOp(r:R2)(ta tb:TE):TE:=fun σ H Q=>ta σ H fun x H1=>tb σ H1 fun y H2=>r x y H2 Q
def tUn(r:V->Hp->VK->Prop)(ta:TE):TE:=fun σ H Q=>ta σ H fun x H1=>r x H1 Q
inductive rI(C:Int->Int->Prop)(g:Int->Int->V)(x:V)(y:V)(H:Hp)(Q:VK):Prop
 |mk (i j:_) (h0:x=.int i) (h1:y=.int j) (h2:C i j) (h3:Q (g i j) H):rI C g x y H Q
inductive rI0(g:Int->Int->V)(x:V)(y:V)(H:Hp)(Q:VK):Prop
 |mk (i j:_) (h0:x=.int i) (h1:y=.int j) (h2:Q (g i j) H):rI0 g x y H Q
def rU(g:Int->V):V->Hp->VK->Prop:=fun x H Q=>∃i,x=.int i/\Q (g i) H
section
variable{X:Cx}{a b c:Expr}{ta tb tc:TE}{pos:Pos}
theorem zK(ha:PE X a ta)(hb:PE X b tb){pins:List (Addr×Obj)}{s:Shared}{σ:St}{H:Hp}{R:V->V->Hp->Prop}(I:Inv X pins σ H s)(h:ta σ H fun x H1=>tb σ H1 fun y H2=>R x y H2){Q:Value->Shared->Prop}{f:Value->Value->Sem Value}(hf:∀v u s2 x y H2,Inv X pins σ H2 s2->RelV x v->RelV y u->R x y H2->wpAny (model X.prog X.w) X.A (f v u) Q X.xe s2) :
  wpAny (model X.prog X.w) X.A (eval a X.env) (fun v s₁=>wpAny (model X.prog X.w) X.A (eval b X.env) (fun u s₂=>wpAny (model X.prog X.w) X.A (f v u) Q X.xe s₂) X.xe s₁) X.xe s:=by
 refine thn (ha pins s σ H _ I h) fun v s1 hz9=>?_;obtain⟨x,H1,I1,r1,q1⟩:=hz9;refine thn (hb pins s1 σ H1 _ I1 q1) fun u s2 hz9=>?_;obtain⟨y,H2,I2,r2,q2⟩:=hz9;exact hf v u s2 x y H2 I2 r1 r2 q2
theorem FU{op:Operator}{r:R2}(ho:OpR X (binaryOp op) r)(ha:PE X a ta)(hb:PE X b tb):PE X (.BinOp a op b pos) (tOp r ta tb):=by intro pins s σ H Q I h;exact wpAny_BinOp (zK ha hb I h fun v u s2 x y H2 I2 rx ry q=>ho pins s2 σ H2 x y v u Q I2 rx ry q)
theorem FW{op:UnaryOp}{r:V->Hp->VK->Prop}(ho:UnR X (unaryOp op) r)(ha:PE X a ta):PE X (.UnaryOp op a pos) (tUn r ta):=by intro pins s σ H Q I h;exact UnaryOp_ (thn (ha pins s σ H _ I h) fun v s1 ⟨x,H1,I1,r1,q1⟩=>ho pins s1 σ H1 x v Q I1 r1 q1)
theorem opI{f:Value->Value->Sem Value}{C:Int->Int->Prop}{g:Int->Int->Int}(rule:∀(i j:Int) (t u:Tok) (s:Shared) (Q:Value->Shared->Prop) (E:Value->Shared->Prop),C i j->Q (.int (g i j) s.toks) { s with toks:=s.toks+1 }->wpAny (model X.prog X.w) X.A (f (.int i t) (.int j u)) Q E s) :
  OpR X f (rI C fun i j=>.int (g i j)):=by
 intro pins s σ H x y v u Q I rx ry h;obtain⟨i,j,rfl,rfl,hc,q⟩:=h;obtain⟨t,rfl⟩:=rx;obtain⟨t',rfl⟩:=ry;exact rule i j t t' s _ _ hc ⟨.int (g i j),H,I.tok _,⟨_,rfl⟩,q⟩
theorem D4{f:Value->Value->Sem Value}{g:Int->Int->Int}(rule:∀(i j:Int) (t u:Tok) (s:Shared) (Q:Value->Shared->Prop) (E:Value->Shared->Prop),Q (.int (g i j) s.toks) { s with toks:=s.toks+1 }->wpAny (model X.prog X.w) X.A (f (.int i t) (.int j u)) Q E s) :
  OpR X f (rI0 fun i j=>.int (g i j)):=by
 intro pins s σ H x y v u Q I rx ry h;obtain⟨i,j,rfl,rfl,q⟩:=h;obtain⟨t,rfl⟩:=rx;obtain⟨t',rfl⟩:=ry;exact rule i j t t' s _ _ ⟨.int (g i j),H,I.tok _,⟨_,rfl⟩,q⟩
theorem vQ{f:Value->Value->Sem Value}{g:Int->Int->Bool}(rule:∀(i j:Int) (t u:Tok) (s:Shared) (Q:Value->Shared->Prop) (E:Value->Shared->Prop),Q (.bool (g i j)) s->wpAny (model X.prog X.w) X.A (f (.int i t) (.int j u)) Q E s) :
  OpR X f (rI0 fun i j=>.bl (g i j)):=by
 intro pins s σ H x y v u Q I rx ry h;obtain⟨i,j,rfl,rfl,q⟩:=h;obtain⟨t,rfl⟩:=rx;obtain⟨t',rfl⟩:=ry;exact rule i j t t' s _ _ ⟨.bl (g i j),H,I,rfl,q⟩
def Df(i j:Int):Prop:=0<j/\j<1073741824
def Dg(i j:Int):Prop:=0<=j/\j<=1000000/\i.natAbs<2^64
theorem D6:OpR X (binaryOp .Add) (rI0 fun i j=>.int (i+j)):=D4 fun _ _ _ _ _ _ _ q=>add_int q
theorem Ec:OpR X (binaryOp .Sub) (rI0 fun i j=>.int (i-j)):=D4 fun _ _ _ _ _ _ _ q=>sub_int q
theorem Cm:OpR X (binaryOp .FloorDiv) (rI Df fun i j=>.int (i / j)):=opI fun i j _ _ _ _ _ hc q=>by have h1:(0:Int)<j:=hc.1;have h2:j<1073741824:=hc.2;exact floordiv_int (by omega) (by rw[Int.fdiv_eq_ediv_of_nonneg i (by omega)];exact q) (.inl (PyProof.noPylong_small (by omega)))
theorem Ea:OpR X (binaryOp .Mod) (rI (fun _ j=>0<j) fun i j=>.int (i%j)):=opI fun i j _ _ _ _ _ hc q=>by have h1:(0:Int)<j:=hc;exact mod_int' (by omega) (by rw[Int.fmod_eq_emod_of_nonneg i (by omega)];exact q)
theorem Eb:OpR X (binaryOp .Pow) (rI Dg fun i j=>.int (i^j.toNat)):=opI fun _ _ _ _ _ _ _ hc q=>pow_int_small hc.1 hc.2.1 hc.2.2 q
theorem unI{f:Value->Sem Value}{g:Int->Int}(rule:∀(i:Int) (t:Tok) (s:Shared) (Q:Value->Shared->Prop) (E:Value->Shared->Prop),Q (.int (g i) s.toks) { s with toks:=s.toks+1 }->wpAny (model X.prog X.w) X.A (f (.int i t)) Q E s) :
  UnR X f (rU fun i=>.int (g i)):=by
 intro pins s σ H x v Q I rx h;obtain⟨i,rfl,q⟩:=h;obtain⟨t,rfl⟩:=rx;exact rule i t s _ _ ⟨.int (g i),H,I.tok _,⟨_,rfl⟩,q⟩
theorem Fd:UnR X (unaryOp .USub) (rU fun i=>.int (-i)):=unI fun _ _ _ _ _ q=>neg_int q
end
def EW:V->V->Bool
 |.non,.non=>true|.non,.int _=>true|.int _,.non=>true|.non,.bl _=>true|.bl _,.non=>true|.non,.str _=>true|.str _,.non=>true
 |.int _,.int _=>true|.bl _,.bl _=>true|.str _,.str _=>true|.byt _,.byt _=>true
 |.int _,.str _=>true|.str _,.int _=>true|.bl _,.str _=>true|.str _,.bl _=>true
 |_,_=>false
def rEq:R2:=fun x y H Q=>EW x y=true/\Q (.bl (decide (x=y))) H
def rNe:R2:=fun x y H Q=>EW x y=true/\Q (.bl (!decide (x=y))) H
theorem tW{i j:Int}:decide (V.int i=V.int j)=(i==j):=by rw[Yq];simp
theorem xn{i j:Bool}:decide (V.bl i=V.bl j)=(i==j):=by rw[Yq];simp
theorem tX{i j:Str}:decide (V.str i=V.str j)=(i==j):=by rw[Yq];simp
theorem tV{i j:Array UInt8}:decide (V.byt i=V.byt j)=(i.toList==j.toList):=by rw[Yq];cases i;cases j;simp
section
variable{X:Cx}{a b c:Expr}{ta tb tc:TE}{pos:Pos}
theorem aO{pins:List (Addr×Obj)}{σ:St}{H:Hp}{s:Shared}{Q:VK}{k k':Bool}(I:Inv X pins σ H s)(q:Q (.bl k) H)(e:k=k'):EP X pins σ Q (.bool k') s:=by subst e;exact⟨.bl k,H,I,rfl,q⟩
theorem FK:OpR X (compareOp .Eq) rEq:=by
 intro pins s σ H x y v u Q I rx ry h;obtain⟨hs,q⟩:=h;cases x with
 |non =>
  cases rx;cases y with
  |non=>cases ry;exact PySem.EqNone.eq_none_none (aO I q (by simp))
  |bl j=>cases ry;exact PySem.EqNone.eq_none_bool (aO I q (by simp))
  |int j=>obtain⟨t',rfl⟩:=ry;exact PySem.EqNone.eq_none_int (aO I q (by simp))
  |str j=>obtain⟨t',rfl⟩:=ry;exact PySem.EqNone.eq_none_str (aO I q (by simp))
  |_=>exact absurd (show false=true from hs) Zh
 |bl i =>
  cases rx;cases y with
  |non=>cases ry;exact PySem.EqNone.eq_bool_none (aO I q (by simp))
  |bl j=>cases ry;exact eq_bool (aO I q xn)
  |str j=>obtain⟨t',rfl⟩:=ry;exact PySem.EqMixed.eq_bool_str (aO I q (by simp))
  |_=>exact absurd (show false=true from hs) Zh
 |int i =>
  obtain⟨t,rfl⟩:=rx;cases y with
  |non=>cases ry;exact PySem.EqNone.eq_int_none (aO I q (by simp))
  |int j=>obtain⟨t',rfl⟩:=ry;exact eq_int (aO I q tW)
  |str j=>obtain⟨t',rfl⟩:=ry;exact PySem.EqMixed.eq_int_str (aO I q (by simp))
  |_=>exact absurd (show false=true from hs) Zh
 |str i =>
  obtain⟨t,rfl⟩:=rx;cases y with
  |non=>cases ry;exact PySem.EqNone.eq_str_none (aO I q (by simp))
  |bl j=>cases ry;exact PySem.EqMixed.eq_str_bool (aO I q (by simp))
  |int j=>obtain⟨t',rfl⟩:=ry;exact PySem.EqMixed.eq_str_int (aO I q (by simp))
  |str j=>obtain⟨t',rfl⟩:=ry;exact eq_str (aO I q tX)
  |_=>exact absurd (show false=true from hs) Zh
 |byt i =>
  obtain⟨t,rfl⟩:=rx;cases y with
  |byt j=>obtain⟨t',rfl⟩:=ry;exact PySem.W.eq_bytes (aO I q tV)
  |_=>exact absurd (show false=true from hs) Zh
 |_=>cases y<;>exact absurd (show false=true from hs) Zh
theorem FP:OpR X (compareOp .NotEq) rNe:=by
 intro pins s σ H x y v u Q I rx ry h;obtain⟨hs,q⟩:=h;cases x with
 |non =>
  cases rx;cases y with
  |non=>cases ry;exact PySem.EqNone.ne_none_none (aO I q (by simp))
  |bl j=>cases ry;exact PySem.EqNone.ne_none_bool (aO I q (by simp))
  |int j=>obtain⟨t',rfl⟩:=ry;exact PySem.EqNone.ne_none_int (aO I q (by simp))
  |str j=>obtain⟨t',rfl⟩:=ry;exact PySem.EqNone.ne_none_str (aO I q (by simp))
  |_=>exact absurd (show false=true from hs) Zh
 |bl i =>
  cases rx;cases y with
  |non=>cases ry;exact PySem.EqNone.ne_bool_none (aO I q (by simp))
  |bl j=>cases ry;exact ne_bool (aO I q (congrArg not xn))
  |str j=>obtain⟨t',rfl⟩:=ry;exact PySem.EqMixed.ne_bool_str (aO I q (by simp))
  |_=>exact absurd (show false=true from hs) Zh
 |int i =>
  obtain⟨t,rfl⟩:=rx;cases y with
  |non=>cases ry;exact PySem.EqNone.ne_int_none (aO I q (by simp))
  |int j=>obtain⟨t',rfl⟩:=ry;exact ne_int (aO I q (congrArg not tW))
  |str j=>obtain⟨t',rfl⟩:=ry;exact PySem.EqMixed.ne_int_str (aO I q (by simp))
  |_=>exact absurd (show false=true from hs) Zh
 |str i =>
  obtain⟨t,rfl⟩:=rx;cases y with
  |non=>cases ry;exact PySem.EqNone.ne_str_none (aO I q (by simp))
  |bl j=>cases ry;exact PySem.EqMixed.ne_str_bool (aO I q (by simp))
  |int j=>obtain⟨t',rfl⟩:=ry;exact PySem.EqMixed.ne_str_int (aO I q (by simp))
  |str j=>obtain⟨t',rfl⟩:=ry;exact ne_str (aO I q (congrArg not tX))
  |_=>exact absurd (show false=true from hs) Zh
 |byt i =>
  obtain⟨t,rfl⟩:=rx;cases y with
  |byt j=>obtain⟨t',rfl⟩:=ry;exact PySem.W.ne_bytes (aO I q (congrArg not tV))
  |_=>exact absurd (show false=true from hs) Zh
 |_=>cases y<;>exact absurd (show false=true from hs) Zh
theorem FO:OpR X (compareOp .Lt) (rI0 fun i j=>.bl (decide (i<j))):=vQ fun _ _ _ _ _ _ _ q=>lt_int q
theorem FN:OpR X (compareOp .LtE) (rI0 fun i j=>.bl (decide (i<=j))):=vQ fun _ _ _ _ _ _ _ q=>le_int q
theorem FM:OpR X (compareOp .Gt) (rI0 fun i j=>.bl (decide (j<i))):=vQ fun _ _ _ _ _ _ _ q=>gt_int q
theorem FL:OpR X (compareOp .GtE) (rI0 fun i j=>.bl (decide (j<=i))):=vQ fun _ _ _ _ _ _ _ q=>ge_int q
theorem D9:OpR X (compareOp .Is) (fun x y H Q=>y=.non/\Q (.bl (decide (x=.non))) H):=by
 intro pins s σ H x y v u Q I rx ry h;obtain⟨rfl,q⟩:=h;cases ry;refine is_none_gen (aO I q ?_);cases x<;>first
  |(cases rx;rfl)
  |(obtain⟨t,rfl⟩:=rx;rfl)
theorem Cn:OpR X (compareOp .IsNot) (fun x y H Q=>y=.non/\Q (.bl (!decide (x=.non))) H):=by
 intro pins s σ H x y v u Q I rx ry h;obtain⟨rfl,q⟩:=h;cases ry;refine isnot_none_gen (aO I q ?_);cases x<;>first
  |(cases rx;rfl)
  |(obtain⟨t,rfl⟩:=rx;rfl)
theorem ya(b:Expr){op:CmpOp}(h:op≠.In:=by decide)(h2:op≠.NotIn:=by decide):behindInMarks op b=false:=by
 have e1:(op==CmpOp.In)=false:=by cases op<;>first|rfl|exact absurd rfl h
 have e2:(op==CmpOp.NotIn)=false:=by cases op<;>first|rfl|exact absurd rfl h2
 cases b<;>simp[behindInMarks,e1,e2]
theorem Cu{op:CmpOp}{r:R2}(ho:OpR X (compareOp op) r)(ha:PE X a ta)(hb:PE X b tb)(hm:behindInMarks op b=false):PE X (.Compare a [op] [b] pos) (tOp r ta tb):=by intro pins s σ H Q I h;exact wpAny_Compare1 (zK ha hb I h fun v u s2 x y H2 I2 rx ry q=>ho pins s2 σ H2 x y v u Q I2 rx ry q) hm
def mI(t:TE):TT:=fun σ H Q=>t σ H fun x H1=>IsB x H1 Q
theorem CN{op:CmpOp}{r:R2}(ho:OpR X (compareOp op) r)(ha:PE X a ta)(hb:PE X b tb)(hm:behindInMarks op b=false):PT X (.Compare a [op] [b] pos) (mI (tOp r ta tb)):=by
 intro pins s σ H Q I h;refine wpAny_isTrue_Compare1 (thn (ha pins s σ H _ I h) fun v s1 ⟨x,H1,I1,r1,q1⟩=>thn (hb pins s1 σ H1 _ I1 q1) fun u s2 ⟨y,H2,I2,r2,q2⟩ =>
  thn (ho pins s2 σ H2 x y v u _ I2 r1 r2 q2) fun c s3 ⟨z,H3,I3,r3,k,e,q3⟩=>?_) hm
 subst e;cases r3;exact ZY ⟨H3,I3,q3⟩
def mG(r r':R2)(ta tb tc:TE):TE:=fun σ H Q=>ta σ H fun x H1=>tb σ H1 fun y H2=>r x y H2 fun z H3=>∃k,z=.bl k /\
 (if k=true then tc σ H3 fun w' H4=>r' y w' H4 Q else Q (.bl false) H3)
theorem Az{op op':CmpOp}{r r':R2}(ho:OpR X (compareOp op) r)(ho':OpR X (compareOp op') r')(ha:PE X a ta)(hb:PE X b tb)(hc:PE X c tc)(hm:lastMarks [op,op'] [b,c]=false:=by with_unfolding_all rfl):PE X (.Compare a [op,op'] [b,c] pos) (mG r r' ta tb tc):=by
 intro pins s σ H Q I h;refine Compare_chain (thn (ha pins s σ H _ I h) fun v s1 ⟨x,H1,I1,r1,q1⟩=>chain_link (thn (hb pins s1 σ H1 _ I1 q1) fun u s2 ⟨y,H2,I2,r2,q2⟩ =>
  thn (ho pins s2 σ H2 x y v u _ I2 r1 r2 q2) fun d s3 ⟨z,H3,I3,r3,k,e,q3⟩=>?_)) hm
 subst e;cases r3;refine ZY ?_;cases k with
 |false=>exact ite_ff ⟨.bl false,H3,I3,rfl,q3⟩
 |true=>exact ite_tt (chain_last (thn (hc pins s3 σ H3 _ I3 q3) fun w' s4 ⟨z',H4,I4,r4,q4⟩=>ho' pins s4 σ H4 y z' u w' Q I4 r2 r4 q4))
theorem AL{op op':CmpOp}{r r':R2}(ho:OpR X (compareOp op) r)(ho':OpR X (compareOp op') r')(ha:PE X a ta)(hb:PE X b tb)(hc:PE X c tc)(hm:lastMarks [op,op'] [b,c]=false:=by with_unfolding_all rfl):PT X (.Compare a [op,op'] [b,c] pos) (mI (mG r r' ta tb tc)):=by
 intro pins s σ H Q I h;refine isTrue_chain (thn (ha pins s σ H _ I h) fun v s1 ⟨x,H1,I1,r1,q1⟩=>test_link (thn (hb pins s1 σ H1 _ I1 q1) fun u s2 ⟨y,H2,I2,r2,q2⟩ =>
  thn (ho pins s2 σ H2 x y v u _ I2 r1 r2 q2) fun d s3 ⟨z,H3,I3,r3,k,e,q3⟩=>?_)) hm
 subst e;cases r3;refine ZY ?_;cases k with
 |false =>obtain⟨k',e',q'⟩:=q3;cases e';exact ite_ff ⟨H3,I3,q'⟩
 |true =>refine ite_tt (test_last (thn (hc pins s3 σ H3 _ I3 q3) fun w' s4 ⟨z',H4,I4,r4,q4⟩=>thn (ho' pins s4 σ H4 y z' u w' _ I4 r2 r4 q4) fun d' s5 hz9=>?_));obtain⟨z2,H5,I5,r5,k2,e2,q5⟩:=hz9;subst e2;cases r5;exact ZY ⟨H5,I5,q5⟩
theorem lY:(sizeLine:Nat)<2^63:=by rw[sizeLine_eq];decide
theorem vR:OpR X (binaryOp .Add) (fun x y H Q=>∃i j,x=.str i/\y=.str j/\i.length+j.length<=sizeLine/\Q (.str (i++j)) H):=by intro pins s σ H x y v u Q I rx ry h;obtain⟨i,j,rfl,rfl,hz,q⟩:=h;obtain⟨t,rfl⟩:=rx;obtain⟨t',rfl⟩:=ry;exact add_str (fun t' tk=>⟨.str (i++j),H,I.tok _,⟨_,rfl⟩,q⟩) hz
theorem cj{x:V}{us:List Value}(r:Vals [x] us):∃u,us=[u]/\RelV x u:=by
 cases r with
 |cons r1 r2=>cases r2;exact⟨_,rfl,r1⟩
theorem wF{x y:V}{us:List Value}(r:Vals [x,y] us):∃u w',us=[u,w']/\RelV x u/\RelV y w':=by
 cases r with
 |cons r1 r2 =>
  cases r2 with
  |cons r3 r4=>cases r4;exact⟨_,_,rfl,r1,r3⟩
theorem xa:dI X (.type "int") (fun xs H Q=>(∃i,xs=[.int i]/\Q (.int i) H)\/∃k,xs=[.bl k]/\Q (.int (if k then 1 else 0)) H):=by
 intro pins s σ H xs us Q I r h;rcases h with⟨i,rfl,q⟩|⟨k,rfl,q⟩
 ·obtain⟨u,rfl,t,rfl⟩:=cj r;exact call_int_int ⟨.int i,H,I,⟨_,rfl⟩,q⟩
 ·obtain⟨u,rfl,r1⟩:=cj r;cases r1;exact call_int_bool ⟨.int (if k then 1 else 0),H,I.tok _,⟨_,rfl⟩,q⟩
end
open PySem PySem.Spec PyProof.Rows
structure ObjM(h:Heap)(x dx C:Addr)(mA:Str->Option Value):Prop where
 obj:h.get? x=some (PySem.W.instObj C dx)
 ns:h.Ns1 dx mA
 ne:dx≠x
theorem pd{h:Heap}{dx:Addr}{mA:Str->Option Value}(n:h.Ns1 dx mA):∃od,h.get? dx=some od/\∀name,PySem.W.lookIn name od=some (mA name):=by
 obtain⟨o,es,ep,ho,hd,hk,_,hm⟩:=n;refine⟨o,ho,fun name=>?_⟩;have e:=hm name;unfold nsFind findBy at e;rw[<-Array.find?_toList]at e;unfold PySem.W.lookIn;rw[hd];dsimp only;split
 ·rename_i y q;rw[q]at e;exact congrArg some e
 ·rename_i q;rw[q]at e;have a:es.toList.any (·.refKey)=false:=by rw[List.any_eq_false];intro y hy;obtain⟨z,t,hkey⟩:=hk y (Array.mem_toList_iff.mp hy);simp[DictEntry.refKey,hkey]
  have a':¬es.toList.any (·.refKey)=true:=by rw[a];exact Zh
  rw[HU a'];exact congrArg some e
theorem ObjM.look{h:Heap}{x dx C:Addr}{mA:Str->Option Value}(I:ObjM h x dx C mA):∃od,PySem.W.InstAt h x (PySem.W.instObj C dx) C (some od)/\∀name,PySem.W.lookIn name od=some (mA name) :=
 let⟨od,ho,hl⟩:=pd I.ns
 ⟨od,⟨I.obj,rfl,rfl,ho⟩,hl⟩
section
variable{prog:Program}{w:World}{A:Around}{E:Value->Shared->Prop}{s:Shared}{K:PySem.W.Frag}{x dx C f:Addr}{mA:Str->Option Value}{name:Str}{v:Value}
theorem B1{expr:Bool}{Q:Value->Shared->Prop}(X:K.In s.heap)(I:ObjM s.heap x dx C mA)(hg:PySem.W.plainGet K C name=true)(hh:PySem.W.hasDictIn K C=true)(ha:PySem.W.findIn K (.ref C) name=some none)(hv:mA name=some v)(hv':PySem.W.handedIn v=true)(h:Q v { s with toks:=s.toks+1 }) :
  wpAny (model prog w) A (getAttr (.ref x) name expr) Q E s:=by
 obtain⟨od,J,hl⟩:=I.look;exact PySem.W.get_value X J (PySem.W.plainGet_of hg).1 (PySem.W.findObj_own hh ha rfl (by rw[hl,hv])) hv' h
theorem Ab{pl:Sem Bool}{Q:Value×List Value->Shared->Prop}(X:K.In s.heap)(I:ObjM s.heap x dx C mA)(hg:PySem.W.plainGet K C name=true)(hf:PySem.W.findIn K (.ref C) name=some (some (.ref f)))(ht:PySem.W.isFn K (.ref f)=true)(hv:mA name=none)(h:Q (.ref f,[.ref x]) s) :
  wpAny (model prog w) A (getMethod (.ref x) name pl) Q E s:=by
 obtain⟨od,J,hl⟩:=I.look;exact PySem.W.method_fn X J (PySem.W.plainGet_of hg).1 (PySem.W.plainGet_of hg).2 hf (ZU.mp ht) (by show(PySem.W.lookIn name od).map (·.isSome)=some false;rw[hl,hv];rfl) h
theorem CW{ns:List Str}{Q:Unit->Shared->Prop}(X:K.In s.heap)(I:ObjM s.heap x dx C mA)(hs:PySem.W.findIn K (.ref C) "__setattr__" = some (some (.builtin "object.__setattr__")))(hp:PySem.W.plainOver K C=true)(ht:PySem.W.takerIn K C name=some none)(hh:PySem.W.hasDictIn K C=true)(hw:PySem.Within mA ns)(hsz:ns.length<=sizeLine)(h:∀h',ObjM h' x dx C (fun y=>if y=name then some v else mA y)->Heap.SameBut dx s.heap h'->Q () { s with heap:=h',toks:=s.toks+2 }) :
  wpAny (model prog w) A (setAttr (.ref x) name v) Q E s:=by
 obtain⟨od,J,hl⟩:=I.look;refine PySem.W.set_plain X J hs (PySem.W.osa_open (s:={ s with toks:=s.toks+1 }) (r:=none) X J hp ht fun b=>?_);obtain⟨cd,hc,hd'⟩:=PySem.W.any_some hh;have hx:s.heap.get? x=some ⟨.ref C,some dx,.plain,#[]⟩:=I.obj;refine z0 (z9 (z0 (z0 (wpAny_loadPart hx (z0 (PySem.W.Looks.here (s:={ s with toks:=s.toks+1 }) (PySem.W.looks_clsIn X hc) ?_))))));rw[hd'];refine z9 (a:=some dx) (z0 (z9 (z0 ?_)));refine wpAny_nsSet1 (s:={ s with toks:=s.toks+1 }) I.ns fun h' hn2 hs2=>?_;obtain⟨oD,esD,epD,hoD,hdD,hcD⟩:=hn2.count (PySem.Within.cons name v hw);refine z0 (wpAny_lookBehind hoD (by rw[hdD];exact pastItsLine_dict (Zy hcD (by rw[Zl];omega))) ?_);exact z9 (h _ ⟨(hs2.2 _ (Z9 I.ne)).trans I.obj,hn2,I.ne⟩ hs2)
theorem Ao{R:Result->Shared->Prop}{vs:List Value}{kw:List (Str×Value)}(X:K.In s.heap)(hm:PySem.W.makesIn K C=true)(hi:PySem.W.findIn K (.ref C) "__init__" = some (some (.ref f)))(hf:PySem.W.typeIn K (.ref f)=some (.type "function"))(h:codeAny (model prog w) (A.under (.builtin "type.__call__" ⟨.ref C::vs,kw⟩)) (.call (.ref f) ⟨.ref (s.heap.objs.size+1)::vs,kw⟩) (PySem.W.InitBack (s.heap.objs.size+1) R)
   { s with heap:=(s.heap.push PySem.W.emptyDict).push (PySem.W.instObj C s.heap.objs.size) }) :
  codeAny (model prog w) A (.call (.ref C) ⟨vs,kw⟩) R s:=by
 obtain⟨hh,g,d,t,os⟩:=s;exact PySem.W.make_core (PySem.W.makes_of X hm) (PySem.W.looks_findIn X hi) (fun self=>PySem.W.bind_fn X self hf) (.inl rfl) h
end
def cK(f:Str)(v:V):List (Str×V)->List (Str×V)
 | []=>[(f,v)]
 |(g,x)::r=>if g=f then(g,v)::r else(g,x)::cK f v r
theorem bp(f g:Str)(v:V):∀fs:List (Str×V),(cK f v fs).lookup g=if g=f then some v else fs.lookup g
 | []=>by
  show List.lookup g [(f,v)]=_;by_cases h:g=f
  ·have hb:(g==f)=true:=ZU.mpr h;simp only[List.lookup,hb,HV h]
  ·have hb:(g==f)=false:=beq_eq_false_iff_ne.mpr h;simp only[List.lookup,hb,HU h]
 |(k,x)::r=>by
  have ih:=bp f g v r;rw[show cK f v ((k,x)::r)=(if k=f then(k,v)::r else(k,x)::cK f v r)from rfl];by_cases hk:k=f
  ·rw[HV hk];by_cases h:g=k
   ·have hb:(g==k)=true:=ZU.mpr h;simp only[List.lookup,hb,HV (h.trans hk)]
   ·have hb:(g==k)=false:=beq_eq_false_iff_ne.mpr h;simp only[List.lookup,hb,HU (fun e:g=f=>h (e.trans hk.symm))]
  ·rw[HU hk];by_cases h:g=k
   ·have hb:(g==k)=true:=ZU.mpr h;simp only[List.lookup,hb,HU (fun e:g=f=>hk (h.symm.trans e))]
   ·have hb:(g==k)=false:=beq_eq_false_iff_ne.mpr h;simp only[List.lookup,hb];exact ih
theorem jn(f:Str)(v:V):∀fs:List (Str×V),f∈(cK f v fs).map (·.1)/\∀g,g∈fs.map (·.1)->g∈(cK f v fs).map (·.1)
 | []=>⟨by simp[cK],fun g h=>by simp at h⟩
 |(k,x)::r=>by
  obtain⟨i1,i2⟩:=jn f v r;rw[show cK f v ((k,x)::r)=(if k=f then(k,v)::r else(k,x)::cK f v r)from rfl];by_cases hk:k=f
  ·rw[HV hk];subst hk;exact⟨by simp,fun g h=>by simpa using h⟩
  ·rw[HU hk];refine⟨?_,fun g h=>?_⟩
   ·rw[ZH];exact ZA _ i1
   ·rw[ZH]at h ⊢;rcases Zj.mp h with e|e
    ·exact Zj.mpr (.inl e)
    ·exact ZA _ (i2 g e)
theorem kn(f:Str)(v:V):∀fs:List (Str×V),(cK f v fs).length<=fs.length+1
 | []=>by simp[cK]
 |(k,x)::r=>by
  have ih:=kn f v r;rw[show cK f v ((k,x)::r)=(if k=f then(k,v)::r else(k,x)::cK f v r)from rfl];by_cases hk:k=f
  ·rw[HV hk,Zl,Zl];omega
  ·rw[HU hk,Zl,Zl];omega
theorem RelO.some_of{v:V}{o:Option Value}(r:RelO (some v) o):∃u,o=some u/\RelV v u:=by
 cases o with
 |none=>exact(show False from r).elim
 |some u=>exact⟨u,rfl,r⟩
theorem RelO.none_of{o:Option Value}(r:RelO none o):o=none:=by
 cases o with
 |none=>rfl
 |some u=>exact(show False from r).elim
theorem oV{v:V}{u:Value}(r:RelV v u):PySem.W.handedIn u=true:=by
 cases v with
 |non=>cases(show u=Value.none from r);rfl
 |bl b=>cases(show u=Value.bool b from r);rfl
 |int i=>obtain⟨t,e⟩:=(show∃t,u=Value.int i t from r);cases e;rfl
 |str x=>obtain⟨t,e⟩:=(show∃t,u=Value.str x t from r);cases e;rfl
 |byt b=>obtain⟨t,e⟩:=(show∃t,u=Value.bytes b t from r);cases e;rfl
 |flt b=>obtain⟨t,e⟩:=(show∃t,u=Value.float b t from r);cases e;rfl
 |ref a=>cases(show u=Value.ref a from r);rfl
 |ty n=>cases(show u=Value.type n from r);rfl
section
variable{P:Program}{w:World}{H H':Hp}{h h':Heap}{a C dx:Addr}{fs fs':List (Str×V)}
theorem jT(hok:HOk P w H h)(e:H a=some (.ins C dx fs)):∃mA,ObjM h a dx C mA/\(∀f,RelO (fs.lookup f) (mA f))/\PySem.Within mA (fs.map (·.1))/\fs.length<=1000/\H dx=some (.own a):=by
 obtain⟨d,z,ne,ob,mA,n,r,q⟩:=(show ObjOk P w H h a (.ins C dx fs)from hok a _ e)
 exact⟨mA,⟨ob,n,ne⟩,r,q,z,d⟩
end
structure Cls(K:PySem.W.Frag)(C:Addr):Prop where
 pg:PySem.W.plainGet K C Str.empty=true
 hd:PySem.W.hasDictIn K C=true
 po:PySem.W.plainOver K C=true
 sa:PySem.W.findIn K (.ref C) "__setattr__" = some (some (.builtin "object.__setattr__"))
theorem Cls.get{K:PySem.W.Frag}{C:Addr}(c:Cls K C)(f:Str):PySem.W.plainGet K C f=true:=c.pg
def NoAttr(K:PySem.W.Frag)(C:Addr)(f:Str):Prop:=PySem.W.findIn K (.ref C) f=some none
theorem NoAttr.taker{K:PySem.W.Frag}{C:Addr}{f:Str}(n:NoAttr K C f):PySem.W.takerIn K C f=some none:=by unfold PySem.W.takerIn;rw[show PySem.W.findIn K (.ref C) f=some none from n];rfl
structure Con(K:PySem.W.Frag)(C:Addr)(f:Str)(v:V)(u:Value):Prop where
 at_:PySem.W.findIn K (.ref C) f=some (some u)
 rel:RelV v u
 get:PySem.W.specialIn K u "__get__" = some none
 cp:PySem.W.copiedNames.contains f=false
structure Meth(K:PySem.W.Frag)(C:Addr)(m:Str)(f:Addr):Prop where
 at_:PySem.W.findIn K (.ref C) m=some (some (.ref f))
 fn:PySem.W.isFn K (.ref f)=true
 kp:PySem.W.keepIn K (.ref f)=true
section
variable{X:Cx}{pins:List (Addr×Obj)}{σ:St}{H:Hp}{s:Shared}{a C dx:Addr}{fs:List (Str×V)}{f:Str}{v:V}{A:Around}{E:Value->Shared->Prop}
theorem vo{b:Bool}{Q:Value->Shared->Prop}(I:Inv X pins σ H s)(e:H a=some (.ins C dx fs))(c:Cls X.K C)(n:NoAttr X.K C f)(l:fs.lookup f=some v)(h:∀u s',Inv X pins σ H s'->RelV v u->Q u s'):wpAny (model X.prog X.w) A (getAttr (.ref a) f b) Q E s:=by obtain⟨mA,O,r,_,_,_⟩:=jT I.hok e;obtain⟨u,hu,ru⟩:=RelO.some_of (v:=v) (o:=mA f) (by rw[<-l];exact r f);exact B1 I.kIn O (c.get f) c.hd n hu (oV ru) (h u _ (I.tok _) ru)
theorem fF{m:Str}{g:Addr}{pl:Sem Bool}{Q:Value×List Value->Shared->Prop}(I:Inv X pins σ H s)(e:H a=some (.ins C dx fs))(c:Cls X.K C)(k:Meth X.K C m g)(l:fs.lookup m=none)(h:Q (.ref g,[.ref a]) s):wpAny (model X.prog X.w) A (getMethod (.ref a) m pl) Q E s:=by obtain⟨mA,O,r,_,_,_⟩:=jT I.hok e;have hn:mA m=none:=RelO.none_of (by rw[<-l];exact r m);exact Ab I.kIn O (c.get m) k.at_ k.fn hn h
theorem ww{y:V}{u:Value}{Q:Unit->Shared->Prop}(I:Inv X pins σ H s)(e:H a=some (.ins C dx fs))(c:Cls X.K C)(n:NoAttr X.K C f)(hl:fs.length<1000)(ry:RelV y u)(h:∀s',Inv X pins σ (upd H a (.ins C dx (cK f y fs))) s'->Q () s'):wpAny (model X.prog X.w) A (setAttr (.ref a) f u) Q E s:=by
 obtain⟨mA,O,r,wi,_,ho⟩:=jT I.hok e;have hz:(fs.map (·.1)).length<=sizeLine:=by rw[Za,sizeLine_eq];omega
 refine CW I.kIn O c.sa c.po n.taker c.hd wi hz fun h' O' sb=>h _ ?_;have hd:∃o,h'.get? dx=some o:=let⟨o,_,_,e',_⟩:=O'.ns;⟨o,e'⟩
 refine I.write (x:=a) (e:=dx) (by rw[e];exact True.intro) (.inr ho) (fun b q hb z=>(sb.2 b hb).trans z) hd ?_;refine⟨by rw[af O.ne];exact ho,?_,O.ne,O'.obj,_,O'.ns,fun g=>?_,fun g hg=>?_⟩
 ·have:=kn f y fs;omega
 ·show RelO ((cK f y fs).lookup g) (if g=f then some u else mA g);rw[bp];by_cases q:g=f
  ·rw[HV q,HV q];exact ry
  ·rw[HU q,HU q];exact r g
 ·by_cases q:g=f
  ·rw[q];exact(jn f y fs).1
  ·refine(jn f y fs).2 g (wi g fun z=>hg ?_);show(if g=f then some u else mA g)=none;rw[HU q];exact z
theorem Inv.made(I:Inv X pins σ H s):Inv X pins σ (upd (upd H s.heap.objs.size (.own (s.heap.objs.size+1))) (s.heap.objs.size+1) (.ins C s.heap.objs.size []))
  { s with heap:=(s.heap.push PySem.W.emptyDict).push (PySem.W.instObj C s.heap.objs.size) }:=by
 have e1:(s.heap.push PySem.W.emptyDict).get? s.heap.objs.size=some PySem.W.emptyDict:=Zg s.heap rfl;have e2:((s.heap.push PySem.W.emptyDict).push (PySem.W.instObj C s.heap.objs.size)).get? (s.heap.objs.size+1)=some (PySem.W.instObj C s.heap.objs.size):=by
  have:=Zg (s.heap.push PySem.W.emptyDict) (o:=PySem.W.instObj C s.heap.objs.size) rfl
  rwa [Yx]at this
 have e3:(s.heap.push PySem.W.emptyDict).Ns s.heap.objs.size (fun _=>none):=⟨PySem.W.emptyDict,#[],_,e1,rfl,(fun e he=>absurd he (by simp)),fun _=>rfl⟩
 have I1:=I.laid (a:=s.heap.objs.size) (o:=.own (s.heap.objs.size+1)) (h':=s.heap.push PySem.W.emptyDict) (t':=s.toks) (fun b u q=>z6 _ q) (Zb _) ⟨_,e1⟩;refine I1.laid (a:=s.heap.objs.size+1) (o:=.ins C s.heap.objs.size []) (t':=s.toks) (fun b u q=>z6 _ q) (Nat.le_of_eq (Yx _ _)) ?_;have ne:s.heap.objs.size≠s.heap.objs.size+1:=Zn (Nat.lt_succ_self _);refine⟨by rw[af ne,ad],ZV _,ne,e2,fun _=>none,(Heap.Ns1.of_empty e3).at fun o q=>z6 _ q,fun _=>True.intro,fun y hy=>absurd rfl hy⟩
theorem tQ{prog:Program}{w:World}{env:Env}{e:Expr}{f:Str}{pos:Pos}{s:Shared}{Q:Value->Shared->Prop}(hb:attributeBase e f env (eval e env)=eval e env)(h:wpAny (model prog w) A (eval e env) (fun o s₁=>wpAny (model prog w) A (getAttr o f true) Q E s₁) E s):wpAny (model prog w) A (eval (.Attribute e f pos) env) Q E s :=
 Attribute_any_ h (by rw[arm_eval_Attribute,hb])
end
def A9(K:PySem.W.Frag)(ta:TE)(f:Str):TE:=fun σ H Q=>ta σ H fun x H1=>∃a C dx fs v,x=.ref a/\H1 a=some (.ins C dx fs)/\Cls K C/\NoAttr K C f/\fs.lookup f=some v/\Q v H1
def ES(K:PySem.W.Frag)(ta tv:TE)(f:Str):TS:=fun D σ H=>tv σ H fun y H1=>ta σ H1 fun x H2=>∃a C dx fs,x=.ref a/\H2 a=some (.ins C dx fs)/\Cls K C/\NoAttr K C f/\fs.length<1000 /\
 D.nx σ (upd H2 a (.ins C dx (cK f y fs)))
section
variable{X:Cx}{o e value:Expr}{f:Str}{pos pos' tpos:Pos}{ta tv:TE}
theorem Eh(he:PE X e ta)(hb:attributeBase e f X.env (eval e X.env)=eval e X.env):PE X (.Attribute e f pos) (A9 X.K ta f):=by intro pins s σ H Q I h;refine tQ hb (thn (he pins s σ H _ I h) fun u s1 hz9=>?_);obtain⟨x,H1,I1,rx,a,C,dx,fs,v,ex,ea,c,n,l,q⟩:=hz9;subst ex;obtain rfl:u=Value.ref a:=rx;exact vo I1 ea c n l fun u' s2 I2 ru=>⟨v,H1,I2,ru,q⟩
theorem Ex(ha:PE X o ta)(hv:PE X value tv)(hs:swapsWith value (some (.Attribute o f pos')) pos.line X.env=pure false):PS X (.Assign [.Attribute o f pos'] value pos) (ES X.K ta tv f):=by intro pins s σ H D I h;refine plainObj_wpAny_Assign_Attribute (thn (hv pins s σ H _ I h) fun u s1 ⟨y,H1,I1,ry,q⟩=>thn (ha pins s1 σ H1 _ I1 q) fun ov s2 hz9=>?_) hs;obtain⟨x,H2,I2,rx,a,C,dx,fs,ex,ea,c,n,l,q2⟩:=hz9;subst ex;obtain rfl:ov=Value.ref a:=rx;exact ww I2 ea c n l ry fun s3 I3=>⟨σ,_,I3,q2⟩
end
section
variable{X:Cx}{pins:List (Addr×Obj)}{σ:St}{H:Hp}{s:Shared}{A:Around}{E:Value->Shared->Prop}{Q:Value->Shared->Prop}{c:Value}{b:Bool}
inductive TyOf(K:PySem.W.Frag)(H:Hp):V->Value->Prop where
 |non:TyOf K H .non (.type "NoneType")
 |bl (x:Bool):TyOf K H (.bl x) (.type "bool")
 |int (i:Int):TyOf K H (.int i) (.type "int")
 |str (x:Str):TyOf K H (.str x) (.type "str")
 |flt (x:UInt64):TyOf K H (.flt x) (.type "float")
 |lst {a:Addr} {xs:List V} (e:H a=some (.lst xs)):TyOf K H (.ref a) (.type "list")
 |frz {a:Addr} {o:Obj} {xs:List V} (e:H a=some (.frz o (.lst xs))):TyOf K H (.ref a) (.type "list")
 |tup {a:Addr} {xs:List V} (e:H a=some (.tup xs)):TyOf K H (.ref a) (.type "tuple")
 |dK {a:Addr} {kvs:List (Key×V)} (e:H a=some (.dK kvs)):TyOf K H (.ref a) (.type "dict")
 |dT {a:Addr} {kvs:List (List Key×V)} (e:H a=some (.dT kvs)):TyOf K H (.ref a) (.type "dict")
 |ins {a C dx:Addr} {fs:List (Str×V)} (e:H a=some (.ins C dx fs)) (cl:Cls K C) (ha:PySem.W.findIn K (.ref C) "__class__" = some (some (.builtin "object.__class__")))
   (hn:PySem.W.specialIn K (.builtin "object.__class__") "__get__" = some (some (.builtin "getset_descriptor.__get__"))) (htk:PySem.W.takesIn K (.builtin "object.__class__")=some true)
   (hm:PySem.W.mroIn K C (.type "object")=some true):TyOf K H (.ref a) (.ref C)
theorem oX{x:V}{u t:Value}(I:Inv X pins σ H s)(rx:RelV x u)(ty:TyOf X.K H x t)(e:PySem.W.kitOne X.K t c=some b)(h:∀tk,Q (.bool b) { s with toks:=tk }) :
  wpAny (model X.prog X.w) A (call (.builtin "isinstance") [u,c]) Q E s:=by
 cases ty with
 |non=>cases(show u=Value.none from rx);exact y6 PySem.W.kitx_none I.kIn True.intro e (fun z=>nomatch z) h
 |bl y=>cases(show u=Value.bool y from rx);exact y6 PySem.W.kitx_bool I.kIn True.intro e (fun z=>nomatch z) h
 |int i=>obtain⟨t,q⟩:=(show∃t,u=Value.int i t from rx);cases q;exact y6 PySem.W.kitx_int I.kIn True.intro e (fun z=>nomatch z) h
 |str y=>obtain⟨t,q⟩:=(show∃t,u=Value.str y t from rx);cases q;exact y6 PySem.W.kitx_str I.kIn True.intro e (fun z=>nomatch z) h
 |flt y=>obtain⟨t,q⟩:=(show∃t,u=Value.float y t from rx);cases q;exact y6 PySem.W.kitx_float I.kIn True.intro e (fun z=>nomatch z) h
 |@lst a xs ea =>
  cases(show u=Value.ref a from rx);obtain⟨_,_,n,_,h1⟩:=(show ObjOk X.prog X.w H s.heap a (.lst xs)from I.hok a _ ea)
  exact y6 PySem.W.kitx_list I.kIn ⟨_,h1,rfl⟩ e (fun z=>nomatch z) h
 |@frz a ob xs ea =>
  cases(show u=Value.ref a from rx);obtain⟨_,_,_,n,_,h1⟩:=(show ObjOk X.prog X.w H s.heap a (.frz ob (.lst xs))from I.hok a _ ea)
  exact y6 PySem.W.kitx_list I.kIn ⟨_,h1,rfl⟩ e (fun z=>nomatch z) h
 |@tup a xs ea =>
  cases(show u=Value.ref a from rx);obtain⟨_,_,_,p⟩:=(show ObjOk X.prog X.w H s.heap a (.tup xs)from I.hok a _ ea)
  obtain⟨o,h1,h2,_⟩:=p;exact y6 PySem.W.kitx_tuple I.kIn ⟨o,h1,h2⟩ e (fun z=>nomatch z) h
 |@dK a kvs ea =>
  cases(show u=Value.ref a from rx);obtain⟨_,_,vs,_,p⟩:=(show ObjOk X.prog X.w H s.heap a (.dK kvs)from I.hok a _ ea)
  obtain⟨o,es,ep,h1,h2,_⟩:=p;exact y6 PySem.W.kitx_dict I.kIn ⟨o,h1,h2.1⟩ e (fun z=>nomatch z) h
 |@dT a kvs ea =>
  cases(show u=Value.ref a from rx);obtain⟨_,_,xs,_,o,es,ep,h1,h2,_⟩:=(show ObjOk X.prog X.w H s.heap a (.dT kvs)from I.hok a _ ea)
  exact y6 PySem.W.kitx_dict I.kIn ⟨o,h1,h2.1⟩ e (fun z=>nomatch z) h
 |@ins a C dx fs ea cl ha hn htk hm =>cases(show u=Value.ref a from rx);obtain⟨mA,O,_⟩:=jT I.hok ea;obtain⟨od,J,_⟩:=O.look;exact y6 (PySem.W.kitx_own (cl.get _) cl.hd ha hn htk hm) I.kIn J e (fun z=>nomatch z) h
end
open PySem PySem.Spec PyProof.Rows
structure Room(k:Nat)(A:Around):Prop where
 hd:A.handled=none
 dp:A.depth+3*k+5<recursionLimit
 un:A.units+16*k+200<cLine
theorem Room.mono{j k:Nat}{A:Around}(r:Room k A)(h:j<=k):Room j A:=⟨r.hd,by have:=r.dp;omega,by have:=r.un;omega⟩
theorem Room.deeper{k:Nat}{A:Around}(r:Room (k+1) A)(env:Env):Room k (A.deeper env) :=
 ⟨r.hd,by have:=r.dp;show A.depth+1+3*k+5<_;omega,by have:=r.un;show A.units+3+16*k+200<_;omega⟩
theorem Room.in1{k:Nat}{A:Around}(r:Room (k+1) A):Room k A.in1 :=
 ⟨r.hd,by have:=r.dp;show A.depth+3*k+5<_;omega,by have:=r.un;show A.units+1+16*k+200<_;omega⟩
theorem vt{A:Around}{C:Addr}{us:List Value}{kw:List (Str×Value)}:(A.under (.builtin "type.__call__" ⟨.ref C::us,kw⟩)).depth=A.depth+1:=by
 first|rfl|simp[Around.under,Code.weight,Code.isCreation,Code.isGuard,Code.isCaller,Code.frames,Code.isFrame,guardIds]
theorem vw{A:Around}{C:Addr}{us:List Value}{kw:List (Str×Value)}:(A.under (.builtin "type.__call__" ⟨.ref C::us,kw⟩)).units=A.units+1:=by
 first|rfl|simp[Around.under,Code.cUnits,Code.frames,Code.isFrame]
theorem Room.make{k:Nat}{A:Around}(r:Room (k+1) A)(C:Addr)(us:List Value)(kw:List (Str×Value)):Room k (A.under (.builtin "type.__call__" ⟨.ref C::us,kw⟩)) :=
 ⟨r.hd,by have:=r.dp;rw[vt];omega,by have:=r.un;rw[vw];omega⟩
theorem Room.depth{k:Nat}{A:Around}(r:Room k A):A.depth<recursionLimit:=by have:=r.dp;omega
theorem Room.units{k:Nat}{A:Around}(r:Room k A):A.units+64<cLine:=by have:=r.un;omega
def eL:TA:=fun _ H Q=>Q [] H
def fb(ta:TE)(tr:TA):TA:=fun σ H Q=>ta σ H fun x H1=>tr σ H1 fun xs H2=>Q (x::xs) H2
section
variable{X:Cx}{e:Expr}{es:List Expr}{te:TE}{t:TA}{pos:Pos}
theorem yq:PA X [] eL:=fun _ _ _ _ H Q I h=>Calls.spliced_nil ⟨[],H,I,.nil,h⟩
theorem Cr(ha:PE X e te)(hr:PA X es t)(hs:starEach (e::es) X.env=(false,eval e X.env)::starEach es X.env:=by rfl):PA X (e::es) (fb te t):=by intro pos pins s σ H Q I h;rw[hs];show wpAny _ _ (spliced ((false,eval e X.env)::backTo pos (starEach es X.env))) _ _ s;refine Calls.spliced_cons (thn (ha pins s σ H _ I h) fun u s1 hz9=>?_);obtain⟨x,H1,I1,r1,q1⟩:=hz9;exact thn (hr pos pins s1 σ H1 _ I1 q1) fun us s2 ⟨xs,H2,I2,r2,q2⟩=>⟨x::xs,H2,I2,.cons r1 r2,q2⟩
def Bb(t:TA):TE:=fun σ H Q=>t σ H fun xs H1=>xs.length<=sizeLine/\∀p,H1 p=none->Q (.ref p) (upd H1 p (.tup xs))
def E5(t:TA):TE:=fun σ H Q=>t σ H fun xs H1=>xs.length<=sizeLine/\∀p,H1 p=none->Q (.ref p) (upd H1 p (.lst xs))
theorem Eo{x1}(h:PA X es t):PE X (.Tuple es x1 pos) (Bb t):=by intro pins s σ H Q I hq;refine wpAny_Tuple_spliced (thn (h pos pins s σ H _ I hq) fun us s1 ⟨xs,H1,I1,r,z,q⟩=>⟨by rw[<-r.length];exact z,?_⟩);have hf:H1 s1.heap.objs.size=none:=I1.hok.fresh (Zb _);refine⟨.ref s1.heap.objs.size,upd H1 s1.heap.objs.size (.tup xs),I1.laid (t':=s1.toks) (fun b u e=>z6 _ e) (Zb _) ?_,rfl,q _ hf⟩;exact⟨z,us,r,⟨_,Zg _ rfl,rfl,_,rfl⟩⟩
theorem Ej(h:PA X es t):PE X (.List es pos) (E5 t):=by intro pins s σ H Q I hq;refine wpAny_List_spliced (thn (h pos pins s σ H _ I hq) fun us s1 ⟨xs,H1,I1,r,z,q⟩=>⟨by rw[<-r.length];exact z,?_⟩);have hf:H1 s1.heap.objs.size=none:=I1.hok.fresh (Zb _);refine⟨.ref s1.heap.objs.size,upd H1 s1.heap.objs.size (.lst xs),I1.laid (t':=s1.toks) (fun b u e=>z6 _ e) (Zb _) ?_,rfl,q _ hf⟩;exact⟨z,us,0,r,Zg _ rfl⟩
end
abbrev Sp:=List V->Hp->VK->XK->Prop
abbrev CXT:=List Env->Hp->Shared->XK->Value->Shared->Prop
structure Env0(P:Program)(w:World)(K:PySem.W.Frag)(mg:Str->Option Value)(base:Heap)(A:Around)(outer:List Env)(s:Shared)(H:Hp):Prop where
 frames:A.frames=some outer
 mod:Mod K mg base
 bs:∀b o,base.get? b=some o->s.heap.get? b=some o/\H b=none
 bsz:base.objs.size<=s.heap.objs.size
 funs:s.heap.FunFrames base outer
 frf:∀b∈frs outer,H b=none
 hok:HOk P w H s.heap
 bare:AllBare s.gens
def CE(outer:List Env)(P:Program)(w:World)(H:Hp)(s:Shared)(Q:VK)(u:Value)(s':Shared):Prop :=
 ∃v H',s'.os=s.os/\AllBare s'.gens/\Un (frs outer) [] H H' s.heap s'.heap/\HOk P w H' s'.heap/\RelV v u/\Q v H'
def CR(CX:CXT)(outer:List Env)(P:Program)(w:World)(H:Hp)(s:Shared)(Q:VK)(E:XK)(r:Result)(s':Shared):Prop :=
 match r with
 |.ok (.ret u)=>CE outer P w H s Q u s'
 |.ok _=>False
 |.error e=>CX outer H s E e s'
structure FnOk(P:Program)(w:World)(K:PySem.W.Frag)(mg:Str->Option Value)(base:Heap)(CX:CXT)(k:Nat)(f:Addr)(fd:FuncData)(ps:List Str)(sp:Sp):Prop where
 len:∀vs H Q E,sp vs H Q E->vs.length=ps.length
 run:∀(A:Around) (outer:List Env) (s:Shared) (H:Hp) (args:Args) (us:List Value) (vs:List V) (Q:VK) (E:XK),Room k A->Env0 P w K mg base A outer s H->BindsTo s fd args (ps.zip us)->Vals vs us->sp vs H Q E ->
  codeAny (model P w) A (.call (.ref f) args) (CR CX outer P w H s Q E) s
theorem Env0.make{P:Program}{w:World}{K:PySem.W.Frag}{mg:Str->Option Value}{base:Heap}{A:Around}{outer:List Env}{s:Shared}{H:Hp}(e:Env0 P w K mg base A outer s H)(C:Addr)(us:List Value)(kw:List (Str×Value)) :
  Env0 P w K mg base (A.under (.builtin "type.__call__" ⟨.ref C::us,kw⟩)) outer s H:=⟨by first|exact e.frames|(simpa[Around.under,Code.envs,Code.isFrame,pushEnvs]using e.frames),e.mod,e.bs,e.bsz,e.funs,e.frf,e.hok,e.bare⟩
section
variable{X:Cx}{pins:List (Addr×Obj)}{σ:St}{H:Hp}{s s':Shared}
theorem Inv.env0(I:Inv X pins σ H s):Env0 X.prog X.w X.K X.mg X.base X.A X.stack s H :=
 ⟨I.ok.frames,I.ok.mod,I.bs,Zy I.ok.bsz I.sz,I.stack,I.stkFree,I.hok,I.bare⟩
theorem Inv.after{Q:VK}{u:Value}(I:Inv X pins σ H s)(h:CE X.stack X.prog X.w H s Q u s'):EP X pins σ Q u s':=by obtain⟨v,H',os,bare,un,hok,r,q⟩:=h;obtain⟨hh,g,d,t,os'⟩:=s';obtain rfl:os'=s.os:=os;exact⟨v,H',I.call (h':=hh) (g':=g) (d':=d) (t':=t) (ch:=[]) un hok bare (fun b z=>absurd z (by simp)),r,q⟩
end
def qr(sp:Sp)(dvs:List V)(E:XK)(t:TA):TE:=fun σ H Q=>t σ H fun vs H1=>sp (vs++dvs) H1 Q E
inductive IsM(C:Addr)(m:Str)(x:V)(H:Hp)(R:Prop):Prop
 |mk (a dx:Addr) (fs:List (Str×V)) (h0:x=.ref a) (h1:H a=some (.ins C dx fs)) (h2:fs.lookup m=none) (q:R):IsM C m x H R
def mH(C:Addr)(m:Str)(sp:Sp)(dvs:List V)(E:XK)(ta:TE)(t:TA):TE:=fun σ H Q=>ta σ H fun x H1=>IsM C m x H1 (t σ H1 fun vs H2=>sp (x::(vs++dvs)) H2 Q E)
def BG(C:Addr)(sp:Sp)(dvs:List V)(E:XK)(t:TA):TE:=fun σ H Q=>t σ H fun vs H1=>∀x dx,H1 x=none->H1 dx=none->dx≠x ->
 sp (.ref x::(vs++dvs)) (upd (upd H1 dx (.own x)) x (.ins C dx [])) (fun v H2=>v=.non/\Q (.ref x) H2) E
def Binds(K:PySem.W.Frag)(fd:FuncData)(ps:List Str)(ds:List Value):Prop :=
 ∀(s:Shared) (us:List Value),K.In s.heap->(us++ds).length=ps.length->BindsTo s fd ⟨us,[]⟩ (ps.zip (us++ds))
theorem Binds.all{K:PySem.W.Frag}{fd:FuncData}{ps:List Str}(h:∀us:List Value,us.length=ps.length->bindArgs fd ⟨us,[]⟩=pure (ps.zip us)):Binds K fd ps []:=fun s us _ hl=>by rw[ZO]at hl ⊢;exact .of_eq (h us hl)
def ee(CX:CXT)(X:Cx)(E:XK):Prop:=∀(pins:List (Addr×Obj)) (σ:St) (H:Hp) (s:Shared) (e:Value) (s':Shared),Inv X pins σ H s->CX X.stack H s E e s'->X.xe e s'
section
variable{X:Cx}{CX:CXT}{k:Nat}{f C:Addr}{fd:FuncData}{ps:List Str}{sp:Sp}{dvs:List V}{ds:List Value}{E:XK}{x m:Str}{p pos apos:Pos}{e o:Expr}{es:List Expr}{ta:TE}{t:TA}
theorem rJ{pins:List (Addr×Obj)}{σ:St}{H:Hp}{s:Shared}{Q:VK}{us:List Value}{vs:List V}(F:FnOk X.prog X.w X.K X.mg X.base CX k f fd ps sp)(hr:Room k X.A)(hb:Binds X.K fd ps ds)(hd:Vals dvs ds)(hx:ee CX X E)(I:Inv X pins σ H s)(r:Vals vs us)(h:sp (vs++dvs) H Q E):wpAny (model X.prog X.w) X.A (call (.ref f) us) (EP X pins σ Q) X.xe s:=by
 have r2:Vals (vs++dvs) (us++ds):=r.append hd;have hl:(us++ds).length=ps.length:=by rw[<-r2.length];exact F.len _ _ _ _ h
 refine wpAny_call (YL (F.run X.A X.stack s H ⟨us,[]⟩ (us++ds) (vs++dvs) Q E hr I.env0 (hb s us I.kIn hl) r2 h) fun r s' hq=>?_);cases r with
 |error e=>exact hx pins σ H s e s' I hq
 |ok fl =>
  cases fl with
  |ret u=>exact I.after hq
  |next=>exact False.elim hq
  |brk=>exact False.elim hq
  |cont=>exact False.elim hq
theorem Ct(F:FnOk X.prog X.w X.K X.mg X.base CX k f fd ps sp)(hr:Room k X.A)(hg:Gl X x)(hm:X.mg x=some (.ref f))(hk:PySem.W.keepIn X.K (.ref f)=true)(hb:Binds X.K fd ps ds)(hd:Vals dvs ds)(hx:ee CX X E)(ha:PA X (e::es) t)(hdb:(x==("__debug__":Str))=false:=by decide)(he:starEach (e::es) X.env=(false,eval e X.env)::starEach es X.env:=by rfl)(hpl:(backTo pos (starEach es X.env)).any (·.1)=false:=by rfl) :
  PE X (.Call (.Name x p) (e::es) [] pos) (qr sp dvs E t):=by
 intro pins s σ H Q I h;refine YM (fT I hg hm ?_ hdb);refine PySem.W.callWith_K (h₀:=X.base) I.ok.mod.kin hk (thn (ha pos pins s σ H _ I h) fun us s1 ⟨vs,H1,I1,r,q⟩=>⟨I1.kIn,?_⟩) he hpl;exact rJ F hr hb hd hx I1 r q
theorem uo{pl:Sem Bool}(he:PE X o ta)(c:Cls X.K C)(hm:Meth X.K C m f)(F:FnOk X.prog X.w X.K X.mg X.base CX k f fd ps sp)(hr:Room k X.A)(hb:Binds X.K fd ps ds)(hd:Vals dvs ds)(hx:ee CX X E)(ha:PA X (e::es) t)(hst:starEach (e::es) X.env=(false,eval e X.env)::starEach es X.env:=by rfl)(hpl:(backTo pos (starEach es X.env)).any (·.1)=false:=by rfl)(ht:eval (.Call (.Attribute o m apos) (e::es) [] pos) X.env=(do
   let ov ←eval o X.env
   standAt apos.atName
   let(f,first) ←holding [ov] (getMethod ov m pl)
   callWith pos f first (backTo pos (starEach (e::es) X.env)) (backToKw pos (keywordEach [] X.env))):=by rfl) :
  PE X (.Call (.Attribute o m apos) (e::es) [] pos) (mH C m sp dvs E ta t):=by
 intro pins s σ H Q I h;refine PySem.W.methodCall_KW (pl:=pl) (thn (he pins s σ H _ I h) fun u s1 hz9=>?_) ht;obtain⟨x,H1,I1,rx,a,dx,fs,ex,ea,l,q⟩:=hz9;subst ex;obtain rfl:u=Value.ref a:=rx;refine fF I1 ea c hm l ?_;refine PySem.W.callWith_K (first:=[.ref a]) (h₀:=X.base) I.ok.mod.kin hm.kp (thn (ha pos pins s1 σ H1 _ I1 q) fun us s2 ⟨vs,H2,I2,r,q2⟩=>⟨I2.kIn,?_⟩) hst hpl;exact rJ (us:=.ref a::us) (vs:=.ref a::vs) F hr hb hd hx I2 (.cons rfl r) q2
theorem AC{pl:Sem Bool}(he:PE X o ta)(c:Cls X.K C)(hm:Meth X.K C m f)(F:FnOk X.prog X.w X.K X.mg X.base CX k f fd ps sp)(hr:Room k X.A)(hb:Binds X.K fd ps ds)(hd:Vals dvs ds)(hx:ee CX X E)(ht:eval (.Call (.Attribute o m apos) [] [] pos) X.env=(do
   let ov ←eval o X.env
   standAt apos.atName
   let(f,first) ←holding [ov] (getMethod ov m pl)
   callWith pos f first (backTo pos (starEach [] X.env)) (backToKw pos (keywordEach [] X.env))):=by rfl) :
  PE X (.Call (.Attribute o m apos) [] [] pos) (mH C m sp dvs E ta eL):=by
 intro pins s σ H Q I h;refine PySem.W.methodCall_KW (pl:=pl) (thn (he pins s σ H _ I h) fun u s1 hz9=>?_) ht;obtain⟨x,H1,I1,rx,a,dx,fs,ex,ea,l,q⟩:=hz9;subst ex;obtain rfl:u=Value.ref a:=rx;refine fF I1 ea c hm l ?_;exact PySem.W.callWith_K0 (first:=[.ref a]) I1.kIn hm.kp (rJ (us:=[.ref a]) (vs:=[.ref a]) F hr hb hd hx I1 (.cons rfl .nil) q)
structure Mk(K:PySem.W.Frag)(C f:Addr):Prop where
 makes:PySem.W.makesIn K C=true
 init:PySem.W.findIn K (.ref C) "__init__" = some (some (.ref f))
 fn:PySem.W.isFn K (.ref f)=true
 kp:PySem.W.keepIn K (.ref C)=true
theorem AZ{pins:List (Addr×Obj)}{σ:St}{H:Hp}{s:Shared}{Q:VK}{us:List Value}{vs:List V}(M:Mk X.K C f)(F:FnOk X.prog X.w X.K X.mg X.base CX k f fd ps sp)(hr:Room (k+1) X.A)(hb:Binds X.K fd ps ds)(hd:Vals dvs ds)(hx:ee CX X E)(I:Inv X pins σ H s)(r:Vals vs us)(h:∀x dx,H x=none->H dx=none->dx≠x->sp (.ref x::(vs++dvs)) (upd (upd H dx (.own x)) x (.ins C dx [])) (fun v H2=>v=.non/\Q (.ref x) H2) E) :
  wpAny (model X.prog X.w) X.A (call (.ref C) us) (EP X pins σ Q) X.xe s:=by
 have hq:=h (s.heap.objs.size+1) s.heap.objs.size (I.hok.fresh (Nat.le_succ _)) (I.hok.fresh (Zb _)) (Zn (Nat.lt_succ_self _));have I2:=Inv.made (C:=C) I;have r2:Vals (V.ref (s.heap.objs.size+1)::(vs++dvs)) (Value.ref (s.heap.objs.size+1)::(us++ds)):=.cons rfl (r.append hd);have hl:(Value.ref (s.heap.objs.size+1)::us++ds).length=ps.length:=by have e:=r2.length;rw[F.len _ _ _ _ hq]at e;exact e.symm
 refine wpAny_call (Ao (f:=f) I.kIn M.makes M.init (ZU.mp M.fn) (YL (F.run _ X.stack _ _ ⟨Value.ref (s.heap.objs.size+1)::us,[]⟩ (Value.ref (s.heap.objs.size+1)::(us++ds)) _ _ E (hr.make C us [])
  (I2.env0.make C us []) (hb _ (Value.ref (s.heap.objs.size+1)::us) I2.kIn hl) r2 hq) fun r s' hq'=>?_))
 cases r with
 |error e=>exact hx pins σ _ _ e s' I2 hq'
 |ok fl =>
  cases fl with
  |ret u =>obtain⟨v,H',I3,rv,ev,q3⟩:=I2.after hq';subst ev;exact⟨rv,⟨V.ref (s.heap.objs.size+1),H',I3,rfl,q3⟩⟩
  |next=>exact False.elim hq'
  |brk=>exact False.elim hq'
  |cont=>exact False.elim hq'
theorem Cz(M:Mk X.K C f)(F:FnOk X.prog X.w X.K X.mg X.base CX k f fd ps sp)(hr:Room (k+1) X.A)(hg:Gl X x)(hm:X.mg x=some (.ref C))(hb:Binds X.K fd ps ds)(hd:Vals dvs ds)(hx:ee CX X E)(ha:PA X (e::es) t)(hdb:(x==("__debug__":Str))=false:=by decide)(he:starEach (e::es) X.env=(false,eval e X.env)::starEach es X.env:=by rfl)(hpl:(backTo pos (starEach es X.env)).any (·.1)=false:=by rfl) :
  PE X (.Call (.Name x p) (e::es) [] pos) (BG C sp dvs E t):=by
 intro pins s σ H Q I h;refine YM (fT I hg hm ?_ hdb);refine PySem.W.callWith_K (h₀:=X.base) I.ok.mod.kin M.kp (thn (ha pos pins s σ H _ I h) fun us s1 ⟨vs,H1,I1,r,q⟩=>⟨I1.kIn,?_⟩) he hpl;exact AZ M F hr hb hd hx I1 r q
end
def PK(X:Cx)(kws:List Keyword)(t:TA):Prop :=
 ∀(pos:Pos) (pins:List (Addr×Obj)) (s:Shared) (σ:St) (H:Hp) (Q:List V->Hp->Prop),Inv X pins σ H s->t σ H Q->wpAny (model X.prog X.w) X.A (evalAll ((backToKw pos (keywordEach kws X.env)).map (·.2))) (AP X pins σ Q) X.xe s
section
variable{X:Cx}{CX:CXT}{k:Nat}{f C:Addr}{fd:FuncData}{ps ks:List Str}{sp:Sp}{E:XK}{x m:Str}{p pos apos kpos:Pos}{e o:Expr}{es:List Expr}{kws:List Keyword}{te ta:TE}{t tk:TA}{nm:Option Str}
theorem yw:PK X [] eL:=fun _ _ _ _ H Q I h=>wpAny_evalAll_nil ⟨[],H,I,.nil,h⟩
theorem uq(ha:PE X e te)(hr:PK X kws t):PK X (⟨nm,e,kpos⟩::kws) (fb te t):=by intro pos pins s σ H Q I h;show wpAny _ _ (evalAll ((do let v ←eval e X.env;standAt pos;pure v)::(backToKw pos (keywordEach kws X.env)).map (·.2))) _ _ s;refine wpAny_evalAll_cons (z0 (thn (ha pins s σ H _ I h) fun u s1 ⟨x,H1,I1,r1,q1⟩=>z0 (wpAny_standAt (z9 ?_))));exact thn (hr pos pins s1 σ H1 _ I1 q1) fun us s2 ⟨xs,H2,I2,r2,q2⟩=>⟨x::xs,H2,I2,.cons r1 r2,q2⟩
structure KBinds(K:PySem.W.Frag)(fd:FuncData)(ps ks:List Str)(g:List Value->List Value->List Value)(gV:List V->List V->List V):Prop where
 to:∀(s:Shared) (us ws:List Value),K.In s.heap->(g us ws).length=ps.length->BindsTo s fd ⟨us,ks.zip ws⟩ (ps.zip (g us ws))
 rel:∀{vs:List V} {us:List Value} {zs:List V} {ws:List Value},Vals vs us->Vals zs ws->Vals (gV vs zs) (g us ws)
variable{g:List Value->List Value->List Value}{gV:List V->List V->List V}
end
structure FnScope(N P:List Str)(sc:Scope):Prop where
 kind:sc.kind=.function
 co:sc.isCoroutine=false
 gen:sc.isGenerator=false
 nd:N.Nodup
 pre:N.take P.length=P
 par:∀x∈P,sc.names.lookup x=some .local\/sc.names.lookup x=some .cell
 nofree:∀y∈sc.names,y.2≠.free
theorem oH{kindOf:Str->Option NameKind}{x:Str}:∀{binds:List (Str×Value)} {m:Str->Option Value},(∀v,(x,v)∉binds)->bindL kindOf binds m x=m x
 | [],_,_=>rfl
 |(n,v)::r,m,h=>by
  unfold bindL;rw[oH fun w hw=>h w (ZA _ hw)];split
  ·have:x≠n:=by rintro rfl;exact h v y4
   simp[this]
  ·rfl
theorem oF{kindOf:Str->Option NameKind}{x:Str}:∀{binds:List (Str×Value)} {m:Str->Option Value},(∀v,(x,v)∉binds)->bindC kindOf binds m x=m x
 | [],_,_=>rfl
 |(n,v)::r,m,h=>by
  unfold bindC;rw[oF fun w hw=>h w (ZA _ hw)];split
  ·rfl
  ·have:x≠n:=by rintro rfl;exact h v y4
   simp[this]
theorem oG{kindOf:Str->Option NameKind}{x:Str}{v:Value}:∀{P:List Str} {vs:List Value} {i:Nat} {m:Str->Option Value},P.Nodup->P[i]?=some x->vs[i]?=some v->kindOf x=some .local ->
  bindL kindOf (P.zip vs) m x=some v
 | [],_,_,_,_,h,_,_=>by simp at h
 |_::_,[],_,_,_,_,h,_=>by simp at h
 |p::P,w::vs,0,m,nd,h1,h2,hk=>by simp at h1 h2;subst h1;subst h2;show bindL kindOf ((p,w)::P.zip vs) m p=_;unfold bindL;rw[oH fun v hv=>(List.nodup_cons.mp nd).1 (List.of_mem_zip hv).1,HV hk];simp
 |p::P,w::vs,i+1,m,nd,h1,h2,hk=>by show bindL kindOf ((p,w)::P.zip vs) m x=_;unfold bindL;exact oG (i:=i) (List.nodup_cons.mp nd).2 (by simpa using h1) (by simpa using h2) hk
theorem oB{kindOf:Str->Option NameKind}{x:Str}{v:Value}:∀{P:List Str} {vs:List Value} {i:Nat} {m:Str->Option Value},P.Nodup->P[i]?=some x->vs[i]?=some v->kindOf x≠some .local ->
  bindC kindOf (P.zip vs) m x=some v
 | [],_,_,_,_,h,_,_=>by simp at h
 |_::_,[],_,_,_,_,h,_=>by simp at h
 |p::P,w::vs,0,m,nd,h1,h2,hk=>by simp at h1 h2;subst h1;subst h2;show bindC kindOf ((p,w)::P.zip vs) m p=_;unfold bindC;rw[oF fun v hv=>(List.nodup_cons.mp nd).1 (List.of_mem_zip hv).1,HU hk];simp
 |p::P,w::vs,i+1,m,nd,h1,h2,hk=>by show bindC kindOf ((p,w)::P.zip vs) m x=_;unfold bindC;exact oB (i:=i) (List.nodup_cons.mp nd).2 (by simpa using h1) (by simpa using h2) hk
def start(N:List Str)(vs:List V):St:=vs.map some++List.replicate (N.length-vs.length) none
def dM(CX:CXT)(P:Program)(w:World)(K:PySem.W.Frag)(mg:Str->Option Value)(base:Heap)(N:List Str)(qual:Str)(scope:Scope)(f:Addr)(cd:Value)(A:Around)(outer:List Env)(s:Shared)(H:Hp)(E:XK):Cx where
 prog:=P
 w:=w
 K:=K
 mg:=mg
 base:=base
 A:=A.deeper (envOfC qual scope s.heap.objs.size f cd)
 N:=N
 s₀:=s
 H₀:=H
 env:=envOfC qual scope s.heap.objs.size f cd
 outer:=outer
 stack:=envOfC qual scope s.heap.objs.size f cd::outer
 ex:=[]
 calm:=true
 fn:=fun _=>true
 pn:=[]
 xe:=fun e s'=>wpAny (model P w) (A.deeper (envOfC qual scope s.heap.objs.size f cd)) (leaving (envOfC qual scope s.heap.objs.size f cd) e) (fun _ s''=>CX outer H s E e s'') (fun e' s''=>CX outer H s E e' s'') s'
theorem qN{sc:Scope}{n:Nat}{x:Str}(h:sc.names.lookup x=some .cell):∃c,(cellsFrom n sc.names []).lookup x=some c:=by have q:=PySem.W.cellsFrom_some sc.names n [] (.inl h);exact YA.mp q
theorem oW{CX:CXT}{P:Program}{w:World}{K:PySem.W.Frag}{mg:Str->Option Value}{base:Heap}{N ps:List Str}{qual:Str}{scope:Scope}{f:Addr}{cd:Value}{A:Around}{outer:List Env}{s s1:Shared}{H:Hp}{E:XK}{us:List Value}{vs:List V}(S:FnScope N ps scope)(hd:A.handled=none)(e0:Env0 P w K mg base A outer s H)(hl:vs.length=ps.length)(r:Vals vs us)(x:InCallC s s.heap.objs.size (bindL (envOfC qual scope s.heap.objs.size f cd).kindOf (ps.zip us) fun _=>none) (cellsFrom (s.heap.objs.size+1) scope.names []) (bindC (envOfC qual scope s.heap.objs.size f cd).kindOf (ps.zip us) fun _=>none) s1) :
  Inv (dM CX P w K mg base N qual scope f cd A outer s H E) [] (start N vs) H s1:=by
 have hpl:ps.length<=N.length:=by have:=congrArg List.length S.pre;rw[ZX]at this;omega
 obtain⟨h1,tk,rfl,hk⟩:=x.done;have noA:∀b:Addr,b∉(dM CX P w K mg base N qual scope f cd A outer s H E).ex:=fun b z=>absurd (show b∈([]:List Addr)from z) (by simp);refine⟨⟨e0.mod,S.kind,rfl,rfl,Zb _,fun y z c h1 h2=>?_,fun y hy=>?_,fun y c _ h=>?_,fun _=>hd,Around.frames_deeper e0.frames,.inr ⟨rfl,rfl⟩,fun b z=>absurd z (noA b),e0.bs,e0.bsz,fun b _ _=>noA b,fun b z=>absurd z (noA b),e0.funs,e0.frf⟩,
  rfl,e0.bare,Un.kept hk,⟨_,x.toInCall.ns,fun i y v h1 h2 h3=>?_⟩,fun y c h=>⟨_,x.cell y c h⟩,e0.hok.fresh (Zb _),fun y c h=>?_,fun p hp=>absurd (show p∈([]:List (Addr×Obj)) from hp) (by simp),e0.hok.kept hk,?_⟩
 ·exact name_of_addr x.apart (Yr h1) (Yr h2)
 ·have hy:scope.names.lookup y=some .cell\/scope.names.lookup y=some .free:=hy;rcases hy with hy|hy
  ·exact qN hy
  ·exact absurd rfl (S.nofree _ (Yr hy))
 ·exact Nat.le_of_lt (x.above y c (Yr h))
 ·have hi:i<vs.length:=by
   unfold start at h2;by_cases hi:i<vs.length
   ·exact hi
   ·rw[y0 (by simpa using hi)]at h2;rw[List.getElem?_replicate]at h2;split at h2<;>cases h2
  have ha:vs[i]?=some v:=by
   unfold start at h2;rw[Yl (by simpa using hi),Zx]at h2;cases e:vs[i]? with
   |none=>rw[e]at h2;cases h2
   |some a=>rw[e]at h2;cases h2;rfl
  obtain⟨u,hu,rv⟩:=r.get ha;have hp:ps[i]?=some y:=by rw[<-S.pre,List.getElem?_take_of_lt (by omega)];exact h1
  have ndP:ps.Nodup:=by rw[<-S.pre];exact S.nd.sublist (Yo _ _)
  refine⟨u,rv,?_⟩;rcases S.par y (List.mem_of_getElem? hp)with k|k
  ·exact .inl ⟨k,oG ndP hp hu k⟩
  ·obtain⟨c,e⟩:=qN (n:=s.heap.objs.size+1) k;refine .inr ⟨.inl k,c,e,?_⟩;have q:=x.cell y c e;rw[oB ndP hp hu (by show scope.names.lookup y≠_;rw[k];decide)]at q;exact q
 ·exact e0.hok.fresh (Nat.le_of_lt (x.above y c (Yr h)))
 ·unfold start;show _=N.length;rw[Zs,Za,List.length_replicate];omega
theorem vh{CX:CXT}{P:Program}{w:World}{K:PySem.W.Frag}{mg:Str->Option Value}{base:Heap}{k:Nat}{f:Addr}{name qual:Str}{params:Arguments}{body:List Stmt}{scope:Scope}{dV kV doc pm cdv ct oc:Value}{an od:Option Addr}{osl:Array (Option Value)}{N ps:List Str}{sp:Sp}(lk:K.lookup f=some ⟨oc,od,.func (PySem.W.fnOf name qual params body scope dV kV doc pm an cdv ct),osl⟩)(hcd:PySem.W.codeIn K cdv qual=true)(S:FnScope N ps scope)(len:∀ vs H Q E,sp vs H Q E->vs.length=ps.length)(hbody:∀ (A:Around) (outer:List Env) (s:Shared) (H:Hp) (vs:List V) (Q:VK) (E:XK),Room k (A.deeper (envOfC qual scope s.heap.objs.size f cdv))->sp vs H Q E ->
   ∃ t,PSs (dM CX P w K mg base N qual scope f cdv A outer s H E) body t/\t { nx:=fun _ H'=>Q .non H',rt:=Q } (start N vs) H) :
  FnOk P w K mg base CX (k+1) f (PySem.W.fnOf name qual params body scope dV kV doc pm an cdv ct) ps sp:=by
 refine⟨len,fun A outer s H args us vs Q E hr e0 hb r hsp=>?_⟩;have hl:=len _ _ _ _ hsp;have KX:K.In s.heap:=e0.mod.kin.keeps fun b o e=>(e0.bs b o e).1;have lim:s.heap.NoLimit:=e0.mod.nolimit.keeps fun b o e=>(e0.bs b o e).1;have hkind:∀y∈ps.zip us,scope.names.lookup y.1=some .local\/(scope.names.lookup y.1=some .cell/\((cellsFrom (s.heap.objs.size+1) scope.names []).lookup y.1).isSome=true):=fun⟨n,v⟩ hy=>by
  rcases S.par n (List.of_mem_zip hy).1 with q|q
  ·exact .inl q
  ·exact .inr ⟨q,PySem.W.cellsFrom_some _ _ _ (.inl q)⟩
 refine codeAny_call_function hr.depth (KX _ _ lk) rfl S.co S.gen rfl (PySem.W.codeRec_of KX hcd) (hb _ _ _ _ ?_);refine wpAny_newFunctionEnv_cells S.kind hkind fun env he s1 x=>?_;subst he;refine⟨lim.keeps x.toInCall.keep,codeAny_func ?_⟩;obtain⟨t,ht,hq⟩:=hbody A outer s H vs Q E (hr.deeper _) hsp;have I:Inv (dM CX P w K mg base N qual scope f cdv A outer s H E) [] (start N vs) H s1:=oW S hr.hd e0 hl r x;refine ZK (ht [] s1 (start N vs) H _ I hq) (fun fl s' hs=>?_) fun e s' hs=>hs;have fin:∀{σ':St} {H':Hp} {v:V} {u:Value},Inv (dM CX P w K mg base N qual scope f cdv A outer s H E) [] σ' H' s'->RelV v u->Q v H'->CE outer P w H s Q u s' :=
  fun{σ' H' v u} J rv q=>⟨v,H',J.os,J.bare,J.base,J.hok,rv,q⟩
 cases fl with
 |ret u =>obtain⟨v,σ',H',J,rv,q⟩:=hs;exact fin J rv q
 |next =>obtain⟨σ',H',J,q⟩:=hs;exact fin (v:=V.non) (u:=Value.none) J rfl q
 |brk =>obtain⟨_,_,_,q⟩:=hs;exact False.elim q
 |cont =>obtain⟨_,_,_,q⟩:=hs;exact False.elim q
open PySem PySem.Spec PyProof.Rows
section
variable{X:Cx}{x:Str}{p pos:Pos}{e:Expr}{es:List Expr}{t:TA}{id T:String}{r:List V->Hp->VK->Prop}
def tCB(r:List V->Hp->VK->Prop)(t:TA):TE:=fun σ H Q=>t σ H fun vs H1=>r vs H1 Q
theorem Ay(hc:dI X (.builtin id) r)(hg:Gl X x)(hm:X.mg x=none)(hv:bootBuiltins x=some (.builtin id))(ha:PA X (e::es) t)(hn:x≠"__name__":=by decide)(hdb:(x==("__debug__":Str))=false:=by decide)(he:starEach (e::es) X.env=(false,eval e X.env)::starEach es X.env:=by rfl)(hpl:(backTo pos (starEach es X.env)).any (·.1)=false:=by rfl):PE X (.Call (.Name x p) (e::es) [] pos) (tCB r t):=by intro pins s σ H Q I h;refine YM (eE I hg hm hv ?_ hn hdb);exact PyProof.Rows.callWith_builtin1 (thn (ha pos pins s σ H _ I h) fun us s1 ⟨vs,H1,I1,r1,q1⟩=>hc pins s1 σ H1 vs us Q I1 r1 q1) he hpl
theorem yt(hc:dI X (.type T) r)(hg:Gl X x)(hm:X.mg x=none)(hv:bootBuiltins x=some (.type T))(ha:PA X (e::es) t)(hn:x≠"__name__":=by decide)(hdb:(x==("__debug__":Str))=false:=by decide)(he:starEach (e::es) X.env=(false,eval e X.env)::starEach es X.env:=by rfl)(hpl:(backTo pos (starEach es X.env)).any (·.1)=false:=by rfl):PE X (.Call (.Name x p) (e::es) [] pos) (tCB r t):=by intro pins s σ H Q I h;refine YM (eE I hg hm hv ?_ hn hdb);exact Yp (thn (ha pos pins s σ H _ I h) fun us s1 ⟨vs,H1,I1,r1,q1⟩=>hc pins s1 σ H1 vs us Q I1 r1 q1) he hpl
end
end L2
namespace HT
open PySem PyProof.Rows
def lexLt:List Int->List Int->Bool
 | [],[]=>false
 | [],_::_=>true
 |_::_,[]=>false
 |x::xs,y::ys=>if x=y then lexLt xs ys else decide (x<y)
theorem lexLt_cons(x y:Int)(xs ys:List Int):lexLt (x::xs) (y::ys)=if x=y then lexLt xs ys else decide (x<y):=rfl
theorem lexLt_nil_nil:lexLt [] []=false:=rfl
theorem eqAt_int(A:Around)(s:Shared)(a:Int)(t:Tok)(c:Int)(u:Tok):∃e,SeqAt.EqAt A s (.int a t) (.int c u) e/\(e=true↔a=c) :=
 ⟨(a==c),SeqAt.EqAt.int_int a t c u,by simp⟩
section
variable{prog:Program}{w:World}{A:Around}{E:Value->Shared->Prop}{s:Shared}
theorem cat_tup{t b:Addr}{vs ws:List Value}{Q:Value->Shared->Prop}(ht:IsTup s.heap t vs.toArray)(hb:IsTup s.heap b ws.toArray)(hv:vs≠[])(h1:ws=[]->Q (.ref t) s)(h2:ws≠[]->Q (.ref s.heap.objs.size) { s with heap:=s.heap.push { cls:=.type "tuple",data:=.seq (vs++ws).toArray } })(hsz:vs.length+ws.length<=sizeLine):wpAny (model prog w) A (binaryOp .Add (.ref t) (.ref b)) Q E s:=by
 obtain⟨⟨cls,dd,data,sl⟩,ho,hc,n,hd⟩:=id ht;obtain⟨⟨cls2,dd2,data2,sl2⟩,ho2,hc2,n2,hd2⟩:=id hb;simp only at hc hd hc2 hd2;subst hc hd hc2 hd2;have e:vs.toArray++ws.toArray=(vs++ws).toArray:=by simp
 by_cases hw:ws=[]
 ·exact concat_meets ⟨_,ho,rfl⟩ ⟨_,ho2,rfl⟩ noFill_tuple_add seq_tuple_add PySem.F.slot_tuple_add PySem.F.entry_tuple_add (PySem.F.args_tuple_add_2 _ _)
   (tuple_addW1 t b vs.toArray ws.toArray n n2 dd dd2 sl sl2 (by simpa using hv) (by simp[hw])) ⟨ho,ho2,h1 hw⟩
 ·refine concat_meets ⟨_,ho,rfl⟩ ⟨_,ho2,rfl⟩ noFill_tuple_add seq_tuple_add PySem.F.slot_tuple_add PySem.F.entry_tuple_add (PySem.F.args_tuple_add_2 _ _)
   (tuple_addW2 t b vs.toArray ws.toArray n n2 dd dd2 sl sl2 (by simpa using hv) (by simpa using hw) (by rw[Ze,Ze];exact hsz)) ⟨ho,ho2,?_⟩
  rw[e];exact h2 hw
def sIx(n d:Nat):Option Int->Nat
 |none=>d
 |some v=>if v<0 then(v+(n:Int)).toNat else min v.toNat n
theorem sIx_none(n d:Nat):sIx n d none=d:=rfl
theorem sIx_nat(n d k:Nat):sIx n d (some (k:Int))=min k n:=by show(if(k:Int)<0 then((k:Int)+(n:Int)).toNat else min (k:Int).toNat n)=min k n;rw[HU (by omega),Zr]
theorem ET(n d:Nat)(hd:d<=n)(o:Option Int):sIx n d o<=n:=by
 cases o with
 |none=>exact hd
 |some v =>
  show(if v<0 then(v+(n:Int)).toNat else min v.toNat n)<=n;by_cases hv:v<0
  ·rw[HV hv];omega
  ·rw[HU hv];exact Nat.min_le_right _ _
theorem tS(v:Int)(n d:Nat):(if v<0 then max (v+(n:Int)) 0 else min v (n:Int))=((sIx n d (some v):Nat):Int):=by
 show(if v<0 then max (v+(n:Int)) 0 else min v (n:Int))=(((if v<0 then(v+(n:Int)).toNat else min v.toNat n):Nat):Int);by_cases hv:v<0
 ·simp only[HV hv];omega
 ·simp only[HU hv];omega
theorem uV(lo hi:Option Int)(n:Nat):Builtin.Slice.sliceAdjust lo hi 1 (n:Int)=(((sIx n 0 lo:Nat):Int),((sIx n n hi:Nat):Int)):=by
 have h1:¬((1:Int)<0):=by omega
 unfold Builtin.Slice.sliceAdjust;simp only[h1,YB];refine Prod.ext ?_ ?_
 ·cases lo with
  |none=>rfl
  |some v=>exact tS v n 0
 ·cases hi with
  |none=>rfl
  |some v=>exact tS v n n
theorem vT(i j:Nat):Builtin.Slice.slicePlaces (i:Int) (j:Int) 1=j-i:=by
 unfold Builtin.Slice.slicePlaces;have h1:(1:Int)>0:=by omega
 simp only[h1,if_true,Int.ediv_one];split<;>omega
theorem mD{v:Value}{o:Option Int}{Q:Option Int->Shared->Prop}(p:IsPart v o)(h:Q o s):wpAny (model prog w) A (Builtin.Slice.slicePartIndex v) Q E s:=by
 cases p with
 |none=>exact slicePart_none h
 |int i t=>exact slicePart_int h
theorem sliceApplied_gen{sl:Addr}{vl vu:Value}{lo hi:Option Int}{n:Nat}{Q:Int×Int×Nat->Shared->Prop}(hs:s.heap.IsSliceOf sl vl vu .none)(pl:IsPart vl lo)(pu:IsPart vu hi)(h:Q (((sIx n 0 lo:Nat):Int),1,sIx n n hi-sIx n 0 lo) s):wpAny (model prog w) A (Builtin.Slice.sliceApplied (.ref sl) (pure (n:Int))) Q E s:=by obtain⟨os,hos,hcs,hds⟩:=id hs;unfold Builtin.Slice.sliceApplied Builtin.Slice.sliceFields;refine z0 (z0 (ZQ hos hds (x:=vl) rfl (z0 (ZQ hos hds (x:=vu) rfl (z0 (ZQ hos hds (x:=.none) rfl (z9 ?_)))))));refine z0 (slicePart_none ?_);show wpAny _ _ (if((1:Int)==0)=true then _ else _) _ _ s;rw[HU (by decide)];refine z0 (mD pl (z0 (mD pu (z0 (z9 ?_)))));show wpAny _ _ (match Builtin.Slice.sliceAdjust lo hi 1 (n:Int)with|(lo,hi)=>pure (lo,(1:Int),Builtin.Slice.slicePlaces lo hi 1)) _ _ s;rw[uV lo hi n];show wpAny _ _ (pure (((sIx n 0 lo:Nat):Int),(1:Int),Builtin.Slice.slicePlaces ((sIx n 0 lo:Nat):Int) ((sIx n n hi:Nat):Int) 1)) _ _ s;rw[vT];exact z9 h
theorem AH(xs:Array Value)(i k:Nat):((List.range k).filterMap fun(m:Nat)=>xs[((i:Int)+(m:Int)*1).toNat]?).toArray=((xs.toList.drop i).take k).toArray:=by
 have e:(fun(m:Nat)=>xs[((i:Int)+(m:Int)*1).toNat]?)=fun m=>xs[i+m]?:=by
  funext m;have:((i:Int)+(m:Int)*1).toNat=i+m:=by omega
  rw[this]
 rw[e];have:=pick_run xs i k;rw[List.filterMap_map]at this;have e2:((fun x=>xs[x]?)∘fun x=>i+x)=fun m=>xs[i+m]?:=rfl;rw[e2]at this;rw[this]
theorem getItem_tuple_cut{t sl:Addr}{items:Array Value}{vl vu:Value}{lo hi:Option Int}{Q:Value->Shared->Prop}(ht:IsTup s.heap t items)(hs:s.heap.IsSliceOf sl vl vu .none)(pl:IsPart vl lo)(pu:IsPart vu hi)(hw:¬(sIx items.size 0 lo=0/\sIx items.size items.size hi=items.size))(h:Q (.ref s.heap.objs.size) { s with heap:=s.heap.push { cls:=.type "tuple",data:=.seq ((items.toList.drop (sIx items.size 0 lo)).take (sIx items.size items.size hi-sIx items.size 0 lo)).toArray } })(hsz:items.size<=sizeLine):wpAny (model prog w) A (getItem (.ref t) (.ref sl)) Q E s:=by
 have htake:sizeOk (.seq ((items.toList.drop (sIx items.size 0 lo)).take (sIx items.size items.size hi-sIx items.size 0 lo)).toArray):=by show((items.toList.drop (sIx items.size 0 lo)).take (sIx items.size items.size hi-sIx items.size 0 lo)).toArray.size<=sizeLine;rw[Ze,ZX,List.length_drop,Zm];omega
 have hj:sIx items.size items.size hi<=items.size:=ET _ _ (Zb _) hi;obtain⟨os,hos,hcs,hds⟩:=id hs;have hTs:s.TypeIs (.ref sl) "slice":=⟨os,hos,hcs⟩
 unfold getItem
 try with_reducible refine ZT ?_
 first|refine z0 (z9 ?_)|skip
 refine z0 (wpAny_sequenceKey ht.typeIs (by decide) ?_);refine z0 (ZI (name:=Str.ofString "__getitem__") ht.typeIs Z7
  (ZM Z7 ht.typeIs entry_tuple_getitem ?_ (args_tuple_getitem _ _)))
 show wpAny _ _ (Builtin.Tuple.tupleItemsOf (.ref t) >>= _) _ _ s;refine z0 (tupleItemsOf_ ht ?_);refine z0 (wpAny_typeOf hTs ?_);rw[HV (by decide)];refine z0 (sliceApplied_gen hs pl pu ?_);have hno:¬((((sIx items.size 0 lo:Nat):Int)==0&&(1:Int)==1&&(sIx items.size items.size hi-sIx items.size 0 lo)==items.size)=true):=by intro q;rw[Zk,Zk]at q;have q1:((sIx items.size 0 lo:Nat):Int)=0:=eq_of_beq q.1.1;have q2:sIx items.size items.size hi-sIx items.size 0 lo=items.size:=eq_of_beq q.2;exact hw ⟨by omega,by omega⟩
 show wpAny _ _ (if(((sIx items.size 0 lo:Nat):Int)==0&&(1:Int)==1&&(sIx items.size items.size hi-sIx items.size 0 lo)==items.size)=true then _ else _) _ _ s;rw[HU hno,AH]
 first
  |exact z0 (m:=Builtin.Tuple.tupleExact _) (ZB (z9 ⟨_,rfl,z9 h⟩) htake)
  |exact z0 (m:=Builtin.Tuple.tupleExact _) (ZB (z0 (z9 (z9 ⟨_,rfl,z9 h⟩))) htake)
  |exact z0 (z0 (m:=Builtin.Tuple.tupleExact _) (ZB (z9 (z9 ⟨_,rfl,z9 h⟩)) htake))
  |exact z0 (z0 (m:=Builtin.Tuple.tupleExact _) (ZB (z9 ⟨_,rfl,z9 h⟩) htake))
end
end HT
namespace L2
open PySem PySem.Spec PyProof.Rows
abbrev TO:=St->Hp->(Option Int->Hp->Prop)->Prop
def PO(X:Cx)(e:Option Expr)(t:TO):Prop :=
 ∀(pins:List (Addr×Obj)) (s:Shared) (σ:St) (H:Hp) (Q:Option Int->Hp->Prop),Inv X pins σ H s->t σ H Q ->
  wpAny (model X.prog X.w) X.A (evalPart e X.env) (fun u s'=>∃o H',Inv X pins σ H' s'/\IsPart u o/\Q o H') X.xe s
def uE:TO:=fun _ H Q=>Q none H
inductive IsI(x:V)(R:Int->Prop):Prop
 |mk (i:Int) (h:x=.int i) (q:R i):IsI x R
def BI(t:TE):TO:=fun σ H Q=>t σ H fun x H1=>IsI x fun i=>Q (some i) H1
theorem ce{ns:List Int}:∀{us:List Value},Vals (ns.map V.int) us->IntsAre us ns:=by
 induction ns with
 |nil=>intro us r;rw[List.map_nil]at r;cases r;exact .nil
 |cons n ns ih =>
  intro us r;rw[ZH]at r;cases r with
  |cons r1 r2 =>obtain⟨t,e⟩:=r1;subst e;exact .cons n t (ih r2)
section
variable{X:Cx}{e:Expr}{te:TE}{lo hi:Option Expr}{tl th:TO}{pos p2:Pos}
theorem CF:PO X none uE:=by intro pins s σ H Q I h;rw[evalPart_none];exact z9 ⟨none,H,I,.none,h⟩
theorem CG(h:PE X e te):PO X (some e) (BI te):=by intro pins s σ H Q I hw;rw[evalPart_some];refine thn (h pins s σ H _ I hw) fun u s1 hz9=>?_;obtain⟨x,H1,I1,r1,q1⟩:=hz9;obtain⟨i,rfl,q⟩:=q1;obtain⟨t,rfl⟩:=r1;exact⟨some i,H1,I1,.int i t,q⟩
def SlR(X:Cx)(r:V->Option Int->Option Int->Hp->VK->Prop):Prop :=
 ∀(pins:List (Addr×Obj)) (s:Shared) (σ:St) (H:Hp) (x:V) (v vl vu:Value) (lo hi:Option Int) (sl:Addr) (Q:VK),Inv X pins σ H s->RelV x v->s.heap.IsSliceOf sl vl vu .none->IsPart vl lo->IsPart vu hi->r x lo hi H Q ->
  ∃T id,typeLookup (.type T) "__getitem__" = pure (some (.builtin id))/\s.TypeIs v T/\wpAny (model X.prog X.w) X.A (getItem v (.ref sl)) (EP X pins σ Q) X.xe s
def tSl(r:V->Option Int->Option Int->Hp->VK->Prop)(te:TE)(tl th:TO):TE:=fun σ H Q=>te σ H fun x H1=>tl σ H1 fun l H2=>th σ H2 fun u H3=>r x l u H3 Q
theorem AD{r:V->Option Int->Option Int->Hp->VK->Prop}(hr:SlR X r)(he:PE X e te)(hl:PO X lo tl)(hu:PO X hi th):PE X (.Subscript e (.Slice lo hi none p2) pos) (tSl r te tl th):=by intro pins s σ H Q I h;refine Subscript_ (thn (he pins s σ H _ I h) fun v s1 hz9=>?_);obtain⟨x,H1,I1,r1,q1⟩:=hz9;refine wpAny_Slice (thn (hl pins s1 σ H1 _ I1 q1) fun vl s2 ⟨l,H2,I2,pl,q2⟩=>thn (hu pins s2 σ H2 _ I2 q2) fun vu s3 hz9=>?_);obtain⟨u,H3,I3,pu,q3⟩:=hz9;rw[evalPart_none];refine z9 ?_;have I4:Inv X pins σ H3 { s3 with heap:=s3.heap.push { cls:=.type "slice",data:=.fields #[vl,vu,.none] } }:=I3.kept (t':=s3.toks) fun b ob q=>z6 _ q;obtain⟨T,id,hT,ht,hg⟩:=hr pins { s3 with heap:=s3.heap.push { cls:=.type "slice",data:=.fields #[vl,vu,.none] } } σ H3 x v vl vu l u s3.heap.objs.size Q I4 r1 (Heap.IsSliceOf.new ..) pl pu q3;show wpAny (model X.prog X.w) X.A (subscriptTail e (.Slice lo hi none p2) v (.ref s3.heap.objs.size)) (EP X pins σ Q) X.xe { s3 with heap:=s3.heap.push { cls:=.type "slice",data:=.fields #[vl,vu,.none] } };exact tail_any (ops:=[.ref s3.heap.objs.size,v]) ht hT hg (by with_unfolding_all rfl)
def de(xs:List V)(lo hi:Option Int):List V:=(xs.drop (HT.sIx xs.length 0 lo)).take (HT.sIx xs.length xs.length hi-HT.sIx xs.length 0 lo)
theorem gU(xs:List V)(lo hi:Option Int):(de xs lo hi).length<=xs.length:=by unfold de;rw[ZX,List.length_drop];omega
inductive rSlT(K:PySem.W.Frag)(x:V)(lo:Option Int)(hi:Option Int)(H:Hp)(Q:VK):Prop
 |mk (a xs:_) (h0:x=.ref a) (h1:SqT K H a xs) (h2:¬(HT.sIx xs.length 0 lo=0/\HT.sIx xs.length xs.length hi=xs.length)) (h3:∀p,H p=none->Q (.ref p) (upd H p (.tup (de xs lo hi)))):rSlT K x lo hi H Q
theorem EX:SlR X (rSlT X.K):=by
 intro pins s σ H x v vl vu lo hi sl Q I rx hs pl pu h;obtain⟨a,xs,rfl,hx,hw,q⟩:=h;cases rx;obtain⟨its,r,ht,hz⟩:=I.tuple hx;have hlen:its.toArray.size=xs.length:=by rw[Ze];exact r.length.symm
 refine⟨"tuple",_,Z7.lookup,ht.typeIs,?_⟩;refine HT.getItem_tuple_cut ht hs pl pu (by rw[hlen];exact hw) ?_ (by rw[hlen];exact hz);rw[hlen];refine⟨.ref s.heap.objs.size,_,I.laid (t':=s.toks) (o:=.tup (de xs lo hi)) (fun b ob q=>z6 _ q) (Zb _) ?_,rfl,q _ (I.hok.fresh (Zb _))⟩;exact⟨Zy (gU xs lo hi) hz,_,(r.drop (HT.sIx xs.length 0 lo)).take (HT.sIx xs.length xs.length hi-HT.sIx xs.length 0 lo),IsTup.new _ _⟩
def F7(K:PySem.W.Frag):R2:=fun x y H Q=>∃a b xs ys,x=.ref a/\y=.ref b/\SqT K H a xs/\SqT K H b ys/\xs≠[]/\xs.length+ys.length<=sizeLine /\
 (ys=[]->Q (.ref a) H)/\(ys≠[]->∀p,H p=none->Q (.ref p) (upd H p (.tup (xs++ys))))
theorem Vals.nil_iff{xs:List V}{us:List Value}(r:Vals xs us):us=[]↔xs=[]:=by
 cases r with
 |nil=>simp
 |cons _ _=>simp
theorem Cl:OpR X (binaryOp .Add) (F7 X.K):=by intro pins s σ H x y v u Q I rx ry h;obtain⟨a,b,xs,ys,rfl,rfl,ha,hb,hx,hz,q1,q2⟩:=h;cases rx;cases ry;obtain⟨its,r1,p1,_⟩:=I.tuple ha;obtain⟨its2,r2,p2,_⟩:=I.tuple hb;refine HT.cat_tup p1 p2 (fun z=>hx (r1.nil_iff.mp z)) (fun z=>⟨.ref a,H,I,rfl,q1 (r2.nil_iff.mp z)⟩) (fun z=>?_) (by rw[<-r1.length,<-r2.length];exact hz);refine⟨.ref s.heap.objs.size,_,I.laid (t':=s.toks) (o:=.tup (xs++ys)) (fun b ob q=>z6 _ q) (Zb _) ?_,rfl,q2 (fun w=>z (r2.nil_iff.mpr w)) _ (I.hok.fresh (Zb _))⟩;exact⟨by rw[Zs];exact hz,_,r1.append r2,IsTup.new _ _⟩
end
open PySem PySem.Spec PyProof.Rows
def ixN(n:Nat)(i:Int):Option Nat:=if 0<=i then(if i<n then some i.toNat else none)else if -(n:Int)<=i then some (i+n).toNat else none
def atI{α:Type}(xs:List α)(i:Int):Option α:=(ixN xs.length i).bind fun j=>xs[j]?
theorem uc{n:Nat}{i:Int}{j:Nat}(h:ixN n i=some j):seqIndex? i n=some j/\j<n/\-(n:Int)<=i/\i<n:=by
 unfold ixN at h;by_cases h0:0<=i
 ·rw[HV h0]at h;by_cases h1:i<n
  ·rw[HV h1]at h;have e:i.toNat=j:=Zu h;exact⟨by rw[seqIndex_of h0 h1,e],by omega,by omega,h1⟩
  ·rw[HU h1]at h;cases h
 ·rw[HU h0]at h;by_cases h1:-(n:Int)<=i
  ·rw[HV h1]at h;have e:(i+n).toNat=j:=Zu h;exact⟨by rw[seqIndex_neg (by omega) h1,e],by omega,h1,by omega⟩
  ·rw[HU h1]at h;cases h
theorem tO{α:Type}{xs:List α}{i:Int}{v:α}(h:atI xs i=some v):∃j,seqIndex? i xs.length=some j/\xs[j]?=some v/\j<xs.length/\-(xs.length:Int)<=i/\i<xs.length:=by
 unfold atI at h;cases e:ixN xs.length i with
 |none=>rw[e]at h;cases h
 |some j =>rw[e]at h;obtain⟨h1,h2,h3,h4⟩:=uc e;exact⟨j,h1,h,h2,h3,h4⟩
theorem il{α:Type}{xs:List α}{j:Nat}{v:α}(h:xs[j]?=some v):atI xs (j:Int)=some v:=by
 have hj:j<xs.length:=(Zv.mp h).1;have e:ixN xs.length (j:Int)=some j:=by unfold ixN;rw[HV (by omega),HV (by omega)];simp
 unfold atI;rw[e];exact h
def tL(b:Expr):Prop:=∀o i,subscripted b false o i=operate [o,i] (getItem o i)
def IxR(X:Cx)(r:R2):Prop :=
 ∀(value slice:Expr) (pins:List (Addr×Obj)) (s:Shared) (σ:St) (H:Hp) (x y:V) (v u:Value) (Q:VK),Inv X pins σ H s->RelV x v->RelV y u->r x y H Q ->
  subscripted slice false v u=operate [v,u] (getItem v u)->wpAny (model X.prog X.w) X.A (subscriptTail value slice v u) (EP X pins σ Q) X.xe s
def MtR(X:Cx)(id:String)(r:V->List V->Hp->VK->Prop):Prop :=
 ∀(pins:List (Addr×Obj)) (s:Shared) (σ:St) (H:Hp) (x:V) (xs:List V) (v:Value) (us:List Value) (Q:VK),Inv X pins σ H s->RelV x v->Vals xs us->r x xs H Q ->
  wpAny (model X.prog X.w) X.A (call (.builtin id) (v::us)) (EP X pins σ Q) X.xe s
section
variable{X:Cx}{a b:Expr}{ta tb:TE}{pos:Pos}
theorem FT{r:R2}(hr:IxR X r)(ha:PE X a ta)(hb:PE X b tb)(hs:tL b):PE X (.Subscript a b pos) (tOp r ta tb):=by intro pins s σ H Q I h;exact Subscript_ (zK ha hb I h fun v u s2 x y H2 I2 rx ry q=>hr a b pins s2 σ H2 x y v u Q I2 rx ry q (hs _ _))
inductive rIxL(K:PySem.W.Frag)(x:V)(y:V)(H:Hp)(Q:VK):Prop
 |mk (p xs i v:_) (h0:x=.ref p) (h1:y=.int i) (h2:SqL K H p xs) (h3:atI xs i=some v) (h4:Q v H):rIxL K x y H Q
inductive rIxT(K:PySem.W.Frag)(x:V)(y:V)(H:Hp)(Q:VK):Prop
 |mk (p xs i v:_) (h0:x=.ref p) (h1:y=.int i) (h2:SqT K H p xs) (h3:atI xs i=some v) (h4:Q v H):rIxT K x y H Q
theorem B5:IxR X (rIxL X.K):=by
 intro value slice pins s σ H x y v u Q I rx ry h hs;obtain⟨p,xs,i,z,rfl,rfl,hq,he,q⟩:=h;cases rx;obtain⟨t,rfl⟩:=ry;obtain⟨its,r,pl,hz⟩:=I.list hq;obtain⟨j,h1,h2,h3,h4,h5⟩:=tO he;obtain⟨w,ew,rw'⟩:=r.get h2;have hl:=r.length;have hn:=lY;have fin:EP X pins σ Q w s:=⟨z,H,I,rw',q⟩
 by_cases h0:0<=i
 ·have hj:i.toNat=j:=by rw[seqIndex_of h0 h5]at h1;exact Zu h1
  exact item_listR pl.isList h0 (by omega) (by rw[hj];simpa using ew) fin hs
 ·have hj:(i+(its.toArray.size:Int)).toNat=j:=by rw[seqIndex_neg (by omega) h4]at h1;rw[Ze,<-hl];exact Zu h1
  exact subscriptTail_builtinR (x:=w) pl.isList.typeIs slot_list_getitem.lookup
   (wpAny_getItem_list_neg (Q:=fun r s'=>r=w/\EP X pins σ Q r s') pl.isList (by omega) (by rw[Ze]<;>omega) (by omega) (by rw[hj];simpa using ew) ⟨rfl,fin⟩) hs
theorem DH:IxR X (rIxT X.K):=by
 intro value slice pins s σ H x y v u Q I rx ry h hs;obtain⟨p,xs,i,z,rfl,rfl,hq,he,q⟩:=h;cases rx;obtain⟨t,rfl⟩:=ry;obtain⟨its,r,pl,hz⟩:=I.tuple hq;obtain⟨j,h1,h2,h3,h4,h5⟩:=tO he;obtain⟨w,ew,rw'⟩:=r.get h2;have hl:=r.length;have hn:=lY;have fin:EP X pins σ Q w s:=⟨z,H,I,rw',q⟩
 exact subscriptTail_builtinR (x:=w) pl.typeIs slot_tuple_getitem.lookup
  (getItem_tuple (j:=j) (Q:=fun r s'=>r=w/\EP X pins σ Q r s') pl (by omega) (by omega) (by rw[Ze,<-hl];exact h1) (by simpa using ew) ⟨rfl,fin⟩) hs
theorem vy(its:List Value)(n j:Nat)(u:Value):Obj.mapSeq (·.setIfInBounds j u) { cls:=.type "list",data:=.seq its.toArray n }={ cls:=.type "list",data:=.seq (its.set j u).toArray n }:=by simp[Obj.mapSeq]
theorem Inv.lst{pins:List (Addr×Obj)}{σ:St}{H:Hp}{s:Shared}{p:Addr}{xs:List V}(I:Inv X pins σ H s)(h:H p=some (.lst xs)) :
  ∃(its:List Value) (n:Nat),Vals xs its/\s.heap.get? p=some { cls:=.type "list",data:=.seq its.toArray n }/\xs.length<=sizeLine:=by
 obtain⟨z,its,n,r,e⟩:=I.hok p _ h;exact⟨its,n,r,e,z⟩
theorem Inv.lstUpd{pins:List (Addr×Obj)}{σ:St}{H:Hp}{s:Shared}{p:Addr}{xs ys:List V}{its its':List Value}{n n':Nat}{f:Obj->Obj}(I:Inv X pins σ H s)(h:H p=some (.lst xs))(ho:s.heap.get? p=some { cls:=.type "list",data:=.seq its.toArray n })(hf:f { cls:=.type "list",data:=.seq its.toArray n }={ cls:=.type "list",data:=.seq its'.toArray n' })(r:Vals ys its')(hz:ys.length<=sizeLine)(t:Nat) :
  Inv X pins σ (upd H p (.lst ys)) { s with heap:=s.heap.update p f,toks:=t }:=by
 have e:(s.heap.update p f).get? p=some { cls:=.type "list",data:=.seq its'.toArray n' }:=by rw[Z0 f ho (by rw[hf]<;>rfl),hf]
 refine I.write (x:=p) (e:=p) (by rw[h];trivial) (.inl rfl) (fun b u hb q=>(ZR _ _ (Z9 hb)).trans q) ⟨_,e⟩ ?_;exact⟨hz,its',n',r,e⟩
def BA:V->V->V->Hp->(Hp->Prop)->Prop:=fun o i v H Q=>∃p xs k j,o=.ref p/\i=.int k/\H p=some (.lst xs)/\ixN xs.length k=some j/\Q (upd H p (.lst (xs.set j v)))
theorem A5:zD X BA:=by
 intro pins s σ H o i v ov iv u Q I ro ri rv h;obtain⟨p,xs,k,j,rfl,rfl,hp,hj,q⟩:=h;cases ro;obtain⟨t,rfl⟩:=ri;obtain⟨its,n,r,ho,hz⟩:=I.lst hp;obtain⟨h1,h2,h3,h4⟩:=uc hj;have hl:=r.length;have hn:=lY;have I':Inv X pins σ (upd H p (.lst (xs.set j v))) { s with heap:=s.heap.update p (Obj.mapSeq (·.setIfInBounds j u)) } :=
  I.lstUpd hp ho (vy its n j u) (r.set rv j) (by rw[YN];exact hz) s.toks
 by_cases h0:0<=k
 ·have hk:k.toNat=j:=by rw[seqIndex_of h0 h4]at h1;exact Zu h1
  exact PySem.W.ki_setAt ho h0 (by omega) (by rw[Ze,<-hl];exact h4) (by rw[hk];exact⟨_,I',q⟩)
 ·have hk:(k+(its.toArray.size:Int)).toNat=j:=by rw[seqIndex_neg (by omega) h3]at h1;rw[Ze,<-hl];exact Zu h1
  exact PySem.W.ki_setBack ho (by omega) (by rw[Ze,<-hl];exact h3) (by omega) (by rw[hk];exact⟨_,I',q⟩)
theorem rZ(lo hi:Option Int)(n:Nat):(sliceBounds lo hi none n).1=((HT.sIx n 0 lo:Nat):Int)/\(sliceBounds lo hi none n).2.1=((HT.sIx n n hi:Nat):Int)/\(sliceBounds lo hi none n).2.2=1:=by
 refine⟨?_,?_,rfl⟩
 ·cases lo with
  |none=>simp[sliceBounds,HT.sIx]
  |some i =>
   simp only[sliceBounds,HT.sIx,Option.getD_none,show(1:Int)>0 by decide,if_true];by_cases h:i<0
   ·simp only[h,if_true]<;>omega
   ·simp only[h,YB]<;>omega
 ·cases hi with
  |none=>simp[sliceBounds,HT.sIx]
  |some i =>
   simp only[sliceBounds,HT.sIx,Option.getD_none,show(1:Int)>0 by decide,if_true];by_cases h:i<0
   ·simp only[h,if_true]<;>omega
   ·simp only[h,YB]<;>omega
theorem qd(its:List Value)(lo hi:Option Int):slicePick its.toArray lo hi none=((its.drop (HT.sIx its.length 0 lo)).take (HT.sIx its.length its.length hi-HT.sIx its.length 0 lo)).toArray:=by obtain⟨h1,h2,h3⟩:=rZ lo hi its.toArray.size;unfold slicePick;rw[h1,h2,h3];simp only[sliceRange_one,pick_run,Ze]<;>rfl
inductive rSlL(K:PySem.W.Frag)(x:V)(lo:Option Int)(hi:Option Int)(H:Hp)(Q:VK):Prop
 |mk (a xs:_) (h0:x=.ref a) (h1:SqL K H a xs) (h2:∀p,H p=none->Q (.ref p) (upd H p (.lst (de xs lo hi)))):rSlL K x lo hi H Q
theorem CY:SlR X (rSlL X.K):=by intro pins s σ H x v vl vu lo hi sl Q I rx hs pl pu h;obtain⟨a,xs,rfl,hx,q⟩:=h;cases rx;obtain⟨its,r,ht,hz⟩:=I.list hx;have hlen:=r.length;refine⟨"list",_,slot_list_getitem.lookup,ht.isList.typeIs,?_⟩;refine wpAny_getItem_list_slice ht.isList hs pl pu .none (by simp) ?_ (by rw[Ze]<;>omega);rw[qd,<-hlen];refine⟨.ref s.heap.objs.size,_,I.laid (t':=s.toks) (o:=.lst (de xs lo hi)) (fun b ob q=>z6 _ q) (Zb _) ?_,rfl,q _ (I.hok.fresh (Zb _))⟩;exact⟨Zy (gU xs lo hi) hz,_,0,(r.drop (HT.sIx xs.length 0 lo)).take (HT.sIx xs.length xs.length hi-HT.sIx xs.length 0 lo),Zg _ rfl⟩
def gO:V->Bool
 |.non=>true
 |.bl _=>true
 |.int _=>true
 |.str _=>true
 |_=>false
def eqV:V->V->Bool
 |.non,.non=>true
 |.bl a,.bl b=>a==b
 |.bl a,.int b=>(if a then 1 else 0)==b
 |.int a,.bl b=>a==(if b then 1 else 0)
 |.int a,.int b=>a==b
 |.str a,.str b=>a==b
 |_,_=>false
theorem Dx{A:Around}{s:Shared}{y x:V}{u v:Value}(ry:RelV y u)(rx:RelV x v)(fy:gO y=true)(fx:gO x=true):SeqAt.EqAt A s u v (eqV y x):=by
 cases y with
 |non =>
  cases ry;cases x with
  |non=>cases rx;exact SeqAt.EqAt.same _
  |bl b=>cases rx;exact SeqAt.EqAt.none_bool b
  |int b=>obtain⟨t,rfl⟩:=rx;exact SeqAt.EqAt.none_int b t
  |str b=>obtain⟨t,rfl⟩:=rx;exact SeqAt.EqAt.none_str b t
  |_=>exact absurd (show false=true from fx) Zh
 |bl a =>
  cases ry;cases x with
  |non=>cases rx;exact SeqAt.EqAt.bool_none a
  |bl b=>cases rx;exact SeqAt.EqAt.bool_bool a b
  |int b=>obtain⟨t,rfl⟩:=rx;exact SeqAt.EqAt.bool_int a b t
  |str b=>obtain⟨t,rfl⟩:=rx;exact SeqAt.EqAt.bool_str a b t
  |_=>exact absurd (show false=true from fx) Zh
 |int a =>
  obtain⟨t',rfl⟩:=ry;cases x with
  |non=>cases rx;exact SeqAt.EqAt.int_none a t'
  |bl b=>cases rx;exact SeqAt.EqAt.int_bool a t' b
  |int b=>obtain⟨t,rfl⟩:=rx;exact SeqAt.EqAt.int_int a t' b t
  |str b=>obtain⟨t,rfl⟩:=rx;exact SeqAt.EqAt.int_str a t' b t
  |_=>exact absurd (show false=true from fx) Zh
 |str a =>
  obtain⟨t',rfl⟩:=ry;cases x with
  |non=>cases rx;exact SeqAt.EqAt.str_none a t'
  |bl b=>cases rx;exact SeqAt.EqAt.str_bool a t' b
  |int b=>obtain⟨t,rfl⟩:=rx;exact SeqAt.EqAt.str_int a t' b t
  |str b=>obtain⟨t,rfl⟩:=rx;exact SeqAt.EqAt.str_str a t' b t
  |_=>exact absurd (show false=true from fx) Zh
 |_=>exact absurd (show false=true from fy) Zh
def eqU(x:V)(u:Value):Bool:=match u with
 |.none=>eqV .non x
 |.bool b=>eqV (.bl b) x
 |.int i _=>eqV (.int i) x
 |.str z _=>eqV (.str z) x
 |_=>false
theorem xr{x y:V}{u:Value}(r:RelV y u)(f:gO y=true):eqU x u=eqV y x:=by
 cases y with
 |non=>cases r;rfl
 |bl b=>cases r;rfl
 |int i=>obtain⟨t,rfl⟩:=r;rfl
 |str z=>obtain⟨t,rfl⟩:=r;rfl
 |_=>exact absurd (show false=true from f) Zh
theorem ik{x:V}:∀{xs:List V} {us:List Value},Vals xs us->xs.all gO=true->us.any (eqU x)=xs.any fun y=>eqV y x
 |_,_,.nil,_=>rfl
 |y::xs,u::us,.cons r t,f=>by rw[Yt,Zk]at f;rw[YO,YO,xr r f.1,ik t f.2]
theorem gg{A:Around}{s:Shared}{x:V}{v:Value}(rx:RelV x v)(fx:gO x=true):∀{xs:List V} {us:List Value},Vals xs us->xs.all gO=true->∀u∈us,SeqAt.EqAt A s u v (eqU x u)
 |_,_,.nil,_=>fun u hu=>by cases hu
 |y::xs,u::us,.cons r t,f=>fun u' hu=>by
  rw[Yt,Zk]at f;rcases Zj.mp hu with rfl|hu
  ·rw[xr r f.1];exact Dx r rx f.1 fx
  ·exact gg rx fx t f.2 u' hu
def inV(x:V)(xs:List V):Bool:=xs.any fun y=>eqV y x
def rIn(K:PySem.W.Frag)(neg:Bool):R2:=fun x y H Q=>∃p xs,y=.ref p/\(SqL K H p xs\/SqT K H p xs)/\gO x=true/\xs.all gO=true/\Q (.bl (if neg then !inV x xs else inV x xs)) H
theorem yn:OpR X (compareOp .In) (rIn X.K false):=by
 intro pins s σ H x y v u Q I rx ry h;obtain⟨p,xs,rfl,hq,fx,fs,q⟩:=h;cases ry;rcases hq with hq|hq
 ·obtain⟨its,r,pl,hz⟩:=I.list hq;refine SeqAt.in_listAt (eqU x) pl.isList (fun w hw=>gg rx fx r fs w (by simpa using hw)) ⟨.bl _,H,I,rfl,?_⟩;rw[show its.toArray.any (eqU x)=its.any (eqU x) by simp,ik r fs];exact q
 ·obtain⟨its,r,pl,hz⟩:=I.tuple hq;refine SeqAt.in_tupleAt (eqU x) pl (fun w hw=>gg rx fx r fs w (by simpa using hw)) ⟨.bl _,H,I,rfl,?_⟩;rw[show its.toArray.any (eqU x)=its.any (eqU x) by simp,ik r fs];exact q
theorem rC:OpR X (compareOp .NotIn) (rIn X.K true):=by
 intro pins s σ H x y v u Q I rx ry h;obtain⟨p,xs,rfl,hq,fx,fs,q⟩:=h;cases ry;rcases hq with hq|hq
 ·obtain⟨its,r,pl,hz⟩:=I.list hq;refine SeqAt.notIn_listAt (eqU x) pl.isList (fun w hw=>gg rx fx r fs w (by simpa using hw)) ⟨.bl _,H,I,rfl,?_⟩;rw[show its.toArray.any (eqU x)=its.any (eqU x) by simp,ik r fs];exact q
 ·obtain⟨its,r,pl,hz⟩:=I.tuple hq;refine SeqAt.notIn_tupleAt (eqU x) pl (fun w hw=>gg rx fx r fs w (by simpa using hw)) ⟨.bl _,H,I,rfl,?_⟩;rw[show its.toArray.any (eqU x)=its.any (eqU x) by simp,ik r fs];exact q
theorem qL:dI X (.builtin "len") (fun xs H Q=>∃p ys,xs=[.ref p]/\(SqL X.K H p ys\/SqT X.K H p ys)/\Q (.int ys.length) H):=by
 intro pins s σ H xs us Q I r h;obtain⟨p,ys,rfl,hq,q⟩:=h;obtain⟨u,rfl,rx⟩:=cj r;cases rx;have hn:=lY;rcases hq with hq|hq
 ·obtain⟨its,r',pl,hz⟩:=I.list hq;have hlen:=r'.length;exact Calls.call_len_list pl.isList (by simp only[Ze]<;>omega) ⟨.int ys.length,H,I.tok _,⟨s.toks+1,by rw[Ze,hlen]⟩,q⟩
 ·obtain⟨its,r',pl,hz⟩:=I.tuple hq;have hlen:=r'.length;exact len_tuple pl (by simp only[Ze]<;>omega) ⟨.int ys.length,H,I.tok _,⟨s.toks+1,by rw[Ze,hlen]⟩,q⟩
theorem qM:dI X (.type "list") (fun xs H Q=>∃p ys,xs=[.ref p]/\(SqL X.K H p ys\/SqT X.K H p ys)/\∀l,H l=none->Q (.ref l) (upd H l (.lst ys))):=by
 intro pins s σ H xs us Q I r h;obtain⟨p,ys,rfl,hq,q⟩:=h;obtain⟨u,rfl,rx⟩:=cj r;cases rx;have fin:∀(its:List Value),Vals ys its->ys.length<=sizeLine->∀(h':Heap) (c':Nat),(∀b o',s.heap.get? b=some o'->h'.get? b=some o') ->
   h'.get? s.heap.objs.size=some { cls:=.type "list",dict:=none,data:=.seq its.toArray c',slots:=#[] }->EP X pins σ Q (.ref s.heap.objs.size) { s with heap:=h' }:=fun its r' hz h' c' kp e =>
  ⟨.ref s.heap.objs.size,_,I.laid (t':=s.toks) kp (Zb _) (show ObjOk X.prog X.w _ h' _ (.lst ys)from⟨hz,its,c',r',e⟩),rfl,q _ (I.hok.fresh (Zb _))⟩
 rcases hq with hq|hq
 ·obtain⟨its,r',pl,hz⟩:=I.list hq;have hlen:=r'.length;obtain⟨o,ho,hc,n,hd⟩:=pl.isList;exact call_list_seq p (.inl rfl) ho hc hd (fun h' c' kp e=>fin its r' hz h' c' kp e) (by simp only[Ze]<;>omega)
 ·obtain⟨its,r',pl,hz⟩:=I.tuple hq;have hlen:=r'.length;obtain⟨o,ho,hc,n,hd⟩:=pl;exact call_list_seq p (.inr rfl) ho hc hd (fun h' c' kp e=>fin its r' hz h' c' kp e) (by simp only[Ze]<;>omega)
theorem pJ:dI X (.type "tuple") (fun xs H Q=>∃p ys,xs=[.ref p]/\((SqL X.K H p ys/\∀l,H l=none->Q (.ref l) (upd H l (.tup ys)))\/(SqT X.K H p ys/\Q (.ref p) H))):=by
 intro pins s σ H xs us Q I r h;obtain⟨p,ys,rfl,h⟩:=h;obtain⟨u,rfl,rx⟩:=cj r;cases rx;rcases h with⟨hq,q⟩|⟨hq,q⟩
 ·obtain⟨its,r',pl,hz⟩:=I.list hq;have hlen:=r'.length;refine call_tuple_list pl.isList (fun h' kp=>?_) (by simp only[Ze]<;>omega);have I1:Inv X pins σ H { s with heap:=h' }:=I.kept (t':=s.toks) kp;have I2:Inv X pins σ (upd H h'.objs.size (.tup ys)) { s with heap:=h'.push { cls:=.type "tuple",data:=.seq its.toArray } } :=
   I1.laid (t':=s.toks) (fun b o e=>z6 _ e) (Zb _) (show ObjOk X.prog X.w _ _ _ (.tup ys)from⟨hz,its,r',IsTup.new _ _⟩)
  exact⟨.ref h'.objs.size,_,I2,rfl,q _ (I1.hok.fresh (Zb _))⟩
 ·obtain⟨its,r',pl,hz⟩:=I.tuple hq;exact call_tuple_same pl ⟨.ref p,H,I,rfl,q⟩
def tyV(K:PySem.W.Frag)(T:String)(x:V)(H:Hp):Prop:=match x with
 |.str _=>T="str"
 |.int _=>T="int"
 |.ref p=>(T="list"/\∃xs,SqL K H p xs)\/(T="tuple"/\∃o,K.lookup p=some o/\o.cls=.type "tuple"/\o.dict=none) \/
   (T="dict"/\((∃kvs,H p=some (.dK kvs))\/∃kvs,H p=some (.dT kvs)))\/(T="set"/\∃S n,H p=some (.set S n))
 |_=>False
theorem Fc{pins:List (Addr×Obj)}{σ:St}{H:Hp}{s:Shared}{T:String}{x:V}{v:Value}(I:Inv X pins σ H s)(r:RelV x v)(ty:tyV X.K T x H) :
  s.TypeIs v T/\∀a,v=.ref a->∃ob,s.heap.get? a=some ob/\ob.dict=none:=by
 cases x with
 |str z =>obtain⟨t,rfl⟩:=r;cases(show T="str" from ty);exact⟨typeIs_str s z t,fun _ e=>nomatch e⟩
 |int i =>obtain⟨t,rfl⟩:=r;cases(show T="int" from ty);exact⟨typeIs_int s i t,fun _ e=>nomatch e⟩
 |ref p =>
  cases r;rcases ty with⟨rfl,xs,hq⟩|⟨rfl,o,hk,hc,hd⟩|⟨rfl,hk⟩|⟨rfl,S,n,hk⟩
  ·obtain⟨its,_,pl,_⟩:=I.list hq;refine⟨pl.isList.typeIs,fun a e=>?_⟩;cases e;obtain⟨o,n,e,c,hd,_⟩:=pl;exact⟨o,e,hd⟩
  ·refine⟨⟨o,I.kIn p o hk,hc⟩,fun a e=>?_⟩;cases e;exact⟨o,I.kIn _ o hk,hd⟩
  ·have z:∃o,s.heap.get? p=some o/\o.ExactDict:=by
    rcases hk with⟨kvs,hk⟩|⟨kvs,hk⟩
    ·obtain⟨_,_,_,_,o,_,_,e,ex,_⟩:=I.hok p _ hk;exact⟨o,e,ex⟩
    ·obtain⟨_,_,_,_,o,_,_,e,ex,_⟩:=I.hok p _ hk;exact⟨o,e,ex⟩
   obtain⟨o,e,ex⟩:=z;refine⟨⟨o,e,ex.1⟩,fun a e2=>?_⟩;cases e2;exact⟨o,e,ex.2.1⟩
  ·obtain⟨o,_,_,_,e,ex,_⟩:=I.hok p _ hk;refine⟨⟨o,e,ex.1⟩,fun a e2=>?_⟩;cases e2;exact⟨o,e,ex.2.1⟩
 |_=>exact False.elim ty
def tBM(K:PySem.W.Frag)(T:String)(r:V->List V->Hp->VK->Prop)(to:TE)(t:TA):TE:=fun σ H Q=>to σ H fun x H1=>tyV K T x H1/\t σ H1 fun xs H2=>r x xs H2 Q
variable{o e:Expr}{es:List Expr}{to:TE}{t:TA}{name:Str}{apos cpos:Pos}{T id:String}{r:V->List V->Hp->VK->Prop}
theorem FR(pa:PlainAttrs T)(slot:Slot T name id)(hty:typeOf (.builtin id)=pure (.type "method_descriptor"))(hm:MtR X id r)(ho:PE X o to)(ha:PA X (e::es) t)(hbase:attributeBase o name X.env (eval o X.env)=eval o X.env:=by rfl)(hfew:((backTo cpos (starEach (e::es) X.env)).all (fun x=>!x.1)&&(backToKw cpos (keywordEach [] X.env)).all (fun x=>x.1.isSome)
  &&decide ((e::es).length+([]:List Keyword).length+(if ([]:List Keyword).isEmpty then 0 else 1)<30))=true:=by rfl)(hline:(apos.endLine == cpos.line)=true:=by rfl)(hs:starEach (e::es) X.env=(false,eval e X.env)::starEach es X.env:=by rfl)(hplain:(backTo cpos (starEach es X.env)).any (·.1)=false:=by rfl) :
  PE X (.Call (.Attribute o name apos) (e::es) [] cpos) (tBM X.K T r to t):=by
 intro pins s σ H Q I h;refine wpAny_Call_method_late hbase hfew hline rfl (thn (ho pins s σ H _ I h) fun v s1 hz9=>?_);obtain⟨x,H1,I1,r1,ty,q1⟩:=hz9;obtain⟨h1,h2⟩:=Fc I1 r1 ty;refine⟨T,id,pa,slot,hty,h1,h2,?_⟩;have hA:=ha cpos pins s1 σ H1 _ I1 q1;rw[hs]at hA ⊢;refine Calls.callWith_builtin (by show(false ||(backTo cpos (starEach es X.env)).any (·.1))=false;rw[hplain]<;>rfl) (Calls.evalArgs_plain ?_);exact thn hA fun us s2 ⟨vs,H2,I2,r2,q2⟩=>hm pins s2 σ H2 x vs v us Q I2 r1 r2 q2
end
open PySem PySem.Spec PyProof.Rows
def MtM(X:Cx)(id:String)(r:V->List V->Hp->VK->Prop):Prop :=
 ∀(pins:List (Addr×Obj)) (s:Shared) (σ:St) (H:Hp) (x:V) (xs:List V) (v:Value) (us:List Value) (Q:VK),Inv X pins σ H s->RelV x v->Vals xs us->r x xs H Q ->
  wpAny (model X.prog X.w) X.A (call (.builtin id) (v::us)) (EP X pins σ Q) X.xe s
theorem Vals.one:∀{x:V} {us:List Value},Vals [x] us->∃u,us=[u]/\RelV x u
 |_,_,.cons r .nil=>⟨_,rfl,r⟩
theorem Vals.rep{xs:List V}{us:List Value}(h:Vals xs us):∀k:Nat,Vals (List.replicate k xs).flatten (List.replicate k us).flatten
 |0=>.nil
 |k+1=>by rw[List.replicate_succ,List.replicate_succ,List.flatten_cons,List.flatten_cons];exact Vals.append h (Vals.rep h k)
theorem oS(its:List Value):∀(k:Nat) (acc:List Value),
  List.foldl (fun x1 x2=>x1++x2) acc.toArray (List.replicate k its.toArray)=(acc++(List.replicate k its).flatten).toArray
 |0,acc=>by simp
 |k+1,acc=>by
  have e:acc.toArray++its.toArray=(acc++its).toArray:=by simp
  have e2:(acc++its)++(List.replicate k its).flatten=acc++(List.replicate (k+1) its).flatten:=by rw[List.replicate_succ,List.flatten_cons,List.append_assoc]
  rw[<-e2,<-oS its k (acc++its),<-e,List.replicate_succ,List.foldl_cons]
section
variable{X:Cx}{pins:List (Addr×Obj)}{σ:St}{H:Hp}{s:Shared}{l b:Addr}{xs ys zs:List V}
theorem Inv.lset{its its':List Value}{n:Nat}{f:Array Value->Array Value}{t':Nat}(I:Inv X pins σ H s)(hH:H l=some (.lst xs))(e:s.heap.get? l=some { cls:=.type "list",data:=.seq its.toArray n })(hf:f its.toArray=its'.toArray)(hv:Vals ys its')(hz:ys.length<=sizeLine) :
  Inv X pins σ (upd H l (.lst ys)) { s with heap:=s.heap.update l (Obj.mapSeq f),toks:=t' }:=by
 have q:=PySem.IsL.update e f;rw[hf]at q;refine I.write (x:=l) (e:=l) (by rw[hH];exact trivial) (.inl rfl) (fun b' u hb hu=>(ZR s.heap (Obj.mapSeq f) (Z9 hb)).trans hu) ⟨_,q⟩ ?_;exact⟨hz,its',_,hv,q⟩
theorem Inv.lnew{its:List Value}{t':Nat}(I:Inv X pins σ H s)(hv:Vals ys its)(hz:ys.length<=sizeLine) :
  Inv X pins σ (upd H s.heap.objs.size (.lst ys)) { s with heap:=s.heap.push { cls:=.type "list",data:=.seq its.toArray },toks:=t' } :=
 I.laid (fun _ _ q=>z6 _ q) (Zb _) ⟨hz,its,0,hv,Zg _ rfl⟩
theorem Inv.fresh(I:Inv X pins σ H s):H s.heap.objs.size=none:=I.hok.fresh (Zb _)
theorem Inv.lstM(I:Inv X pins σ H s)(hH:H l=some (.lst xs)):xs.length<=sizeLine/\∃(its:List Value) (n:Nat),Vals xs its/\xs.length=its.length/\s.heap.get? l=some { cls:=.type "list",data:=.seq its.toArray n }:=by obtain⟨z,its,n,r,e⟩:=I.hok l _ hH;exact⟨z,its,n,r,r.length,e⟩
end
section
variable{X:Cx}
inductive rAppend  (x:V)(vs:List V)(H:Hp)(Q:VK):Prop
 |mk (l xs y:_) (h0:x=.ref l) (h1:vs=[y]) (h2:H l=some (.lst xs)) (h3:xs.length<sizeLine) (h4:Q .non (upd H l (.lst (xs++[y])))):rAppend  x vs H Q
theorem xZ:MtM X "list.append" rAppend:=by intro pins s σ H x vs v us Q I rx rv h;obtain⟨l,xs,y,rfl,rfl,hH,hz,q⟩:=h;cases rx;obtain⟨u,rfl,ru⟩:=rv.one;obtain⟨z,its,n,r,hl,e⟩:=I.lstM hH;refine call_meets F.slot_list_append ⟨_,e,rfl⟩ F.entry_list_append (F.args_list_append_2 _ _) (PySem.list_append l its.toArray n u (by rw[Ze];omega)) ⟨e,?_⟩;refine⟨.non,_,I.lset (its':=its++[u]) hH e (by simp) (r.append (.cons ru .nil)) ?_,rfl,q⟩;rw[Zs,ZE];omega
inductive rCat  (x:V)(y:V)(H:Hp)(Q:VK):Prop
 |mk (l b xs zs:_) (h0:x=.ref l) (h1:y=.ref b) (h2:H l=some (.lst xs)) (h3:H b=some (.lst zs)) (h4:xs.length+zs.length<=sizeLine) (h5:∀p,H p=none->Q (.ref p) (upd H p (.lst (xs++zs)))):rCat  x y H Q
theorem D7:OpR X (binaryOp .Add) rCat:=by
 intro pins s σ H x y v u Q I rx ry h;obtain⟨l,b,xs,zs,rfl,rfl,hH,hB,hz,q⟩:=h;cases rx;cases ry;obtain⟨z,its,n,r,hl,e⟩:=I.lstM hH;obtain⟨z2,its2,n2,r2,hl2,e2⟩:=I.lstM hB;refine PySem.P.add_list e e2 ?_ (by rw[Ze,Ze];omega);have ea:its.toArray++its2.toArray=(its++its2).toArray:=by simp
 rw[ea];exact⟨.ref _,_,I.lnew (t':=s.toks) (r.append r2) (by rw[Zs];omega),rfl,q _ I.fresh⟩
theorem uk{α:Type}(xs:List α)(k:Nat):(List.replicate k xs).flatten.length=k*xs.length:=by
 induction k with
 |zero=>simp
 |succ k ih=>rw[List.replicate_succ,List.flatten_cons,Zs,ih,Nat.succ_mul,Nat.add_comm]
end
open PySem PySem.Spec PyProof.Rows
section
variable{κ:Type}[DecidableEq κ]
def bF(kvs:List (κ×V))(k:κ):Option V:=(kvs.find? fun kv=>decide (kv.1=k)).map (·.2)
def dE(kvs:List (κ×V))(k:κ)(v:V):List (κ×V) :=
 if(kvs.any fun kv=>decide (kv.1=k))=true then kvs.map (fun kv=>if kv.1=k then(kv.1,v)else kv)else kvs++[(k,v)]
theorem cw{p:κ×V}{r:List (κ×V)}{k:κ}(e:p.1=k):bF (p::r) k=some p.2:=by simp[bF,List.find?_cons,e]
theorem cn{p:κ×V}{r:List (κ×V)}{k:κ}(e:¬p.1=k):bF (p::r) k=bF r k:=by simp[bF,List.find?_cons,e]
theorem gJ(k:κ):∀kvs:List (κ×V),(kvs.any fun kv=>decide (kv.1=k))=(bF kvs k).isSome
 | []=>rfl
 |p::r=>by
  rw[YO];by_cases e:p.1=k
  ·simp only[cw e,decide_eq_true e,Bool.true_or,Option.isSome_some]
  ·rw[cn e,decide_eq_false e,Bool.false_or];exact gJ k r
theorem sD(k j:κ)(y:V):∀kvs:List (κ×V),bF (kvs.map fun kv=>if kv.1=k then(kv.1,y)else kv) j=(bF kvs j).map fun x=>if j=k then y else x
 | []=>rfl
 |p::r=>by
  have ih:=sD k j y r;rw[ZH];by_cases h:p.1=k
  ·rw[HV h];by_cases e:p.1=j
   ·rw[cw (p:=(p.1,y)) e,cw e,Option.map_some,HV (e.symm.trans h)]
   ·rw[cn (p:=(p.1,y)) e,cn e,ih]
  ·rw[HU h];by_cases e:p.1=j
   ·rw[cw (p:=p) e,cw e,Option.map_some,HU (fun z=>h (e.trans z))]
   ·rw[cn (p:=p) e,cn e,ih]
theorem pA(k j:κ)(y:V):∀kvs:List (κ×V),bF kvs k=none->bF (kvs++[(k,y)]) j=if j=k then some y else bF kvs j
 | [],_=>by
  by_cases e:k=j
  ·rw[HV e.symm];exact cw (p:=(k,y)) e
  ·rw[HU (fun z=>e z.symm)];exact cn (p:=(k,y)) e
 |p::r,hn=>by
  rw[List.cons_append];have hk:¬p.1=k:=fun z=>by rw[cw z]at hn;cases hn
  rw[cn hk]at hn;have ih:=pA k j y r hn;by_cases e:p.1=j
  ·rw[cw e,cw e,HU (fun z=>hk (e.trans z))]
  ·rw[cn e,cn e,ih]
theorem Bh(kvs:List (κ×V))(k j:κ)(y:V):bF (dE kvs k y) j=if j=k then some y else bF kvs j:=by
 unfold dE;by_cases a:(kvs.any fun kv=>decide (kv.1=k))=true
 ·rw[HV a,sD];rw[gJ]at a;by_cases e:j=k
  ·obtain⟨x,hx⟩:=YA.mp a;rw[HV e,e,hx,Option.map_some,HV rfl]
  ·rw[HU e];cases bF kvs j with
   |none=>rfl
   |some x=>rw[Option.map_some,HU e]
 ·rw[HU a];refine pA k j y kvs ?_;rw[gJ]at a;cases q:bF kvs k with
  |none=>rfl
  |some x=>rw[q]at a;exact(a rfl).elim
theorem gY(kvs:List (κ×V))(k:κ)(v:V):(dE kvs k v).length<=kvs.length+1:=by
 unfold dE;split
 ·rw[Za];omega
 ·rw[Zs,Zl,List.length_nil];omega
theorem rD{kvs:List (κ×V)}{k:κ}(v:V)(h:bF kvs k=none):dE kvs k v=kvs++[(k,v)]:=by unfold dE;rw[gJ,h];exact HU (by decide)
theorem RelO.isSome_eq{o:Option V}{u:Option Value}(r:RelO o u):o.isSome=u.isSome:=by
 cases o with
 |none=>cases u with
  |none=>rfl
  |some _=>exact(show False from r).elim
 |some _=>cases u with
  |none=>exact(show False from r).elim
  |some _=>rfl
theorem KV.val{kvs:List (κ×V)}{vs:List (κ×Value)}(r:KV kvs vs)(k:κ):RelO (bF kvs k) (valueAt vs k):=by
 unfold KV at r;induction r with
 |nil=>exact True.intro
 |@cons p q ps qs h t ih =>
  obtain⟨h1,h2⟩:=h;by_cases e:p.1=k
  ·have e':q.1=k:=h1.symm.trans e;have b:valueAt (q::qs) k=some q.2:=by simp[valueAt,List.find?_cons,e']
   rw[cw e,b];exact h2
  ·have e':¬q.1=k:=fun z=>e (h1.trans z);have b:valueAt (q::qs) k=valueAt qs k:=by simp[valueAt,List.find?_cons,e']
   rw[cn e,b];exact ih
theorem KV.any{kvs:List (κ×V)}{vs:List (κ×Value)}(r:KV kvs vs)(k:κ):(kvs.any fun kv=>decide (kv.1=k))=vs.any fun kv=>decide (kv.1=k):=by
 unfold KV at r;induction r with
 |nil=>rfl
 |cons h t ih=>rw[YO,YO,ih,h.1]
theorem KV.repl{kvs:List (κ×V)}{vs:List (κ×Value)}(r:KV kvs vs)(k:κ){y:V}{u:Value}(ry:RelV y u) :
  KV (kvs.map fun kv=>if kv.1=k then(kv.1,y)else kv) (vs.map fun kv=>if kv.1=k then(kv.1,u)else kv):=by
 unfold KV at r ⊢;induction r with
 |nil=>exact .nil
 |@cons p q ps qs h t ih =>
  rw[ZH,ZH];refine .cons ?_ ih;obtain⟨h1,h2⟩:=h;by_cases e:p.1=k
  ·rw[HV e,HV (h1.symm.trans e)];exact⟨h1,ry⟩
  ·rw[HU e,HU (fun z=>e (h1.trans z))];exact⟨h1,h2⟩
theorem KV.put{kvs:List (κ×V)}{vs:List (κ×Value)}(r:KV kvs vs)(k:κ){y:V}{u:Value}(ry:RelV y u):KV (dE kvs k y) (stored vs k u):=by
 unfold dE stored;rw[r.any k];by_cases e:(vs.any fun kv=>decide (kv.1=k))=true
 ·rw[HV e,HV e];exact r.repl k ry
 ·rw[HU e,HU e];exact Paired.snoc r ⟨rfl,ry⟩
theorem KV.length{kvs:List (κ×V)}{vs:List (κ×Value)}(r:KV kvs vs):kvs.length=vs.length:=Paired.length r
end
theorem lW{P:Program}{w:World}{k:Key}{u:Value}(r:RelV (kV k) u):(bO P w).is k u=true:=by
 cases k with
 |inl i=>obtain⟨t,e⟩:=(show∃t,u=Value.int i t from r);subst e;exact sV P w i t
 |inr x=>obtain⟨t,e⟩:=(show∃t,u=Value.str x t from r);subst e;exact sW P w x t
theorem oY{P:Program}{w:World}:∀{ks:List Key} {us:List Value},Vals (ks.map kV) us->ItemsAre (bO P w) ks us
 | [],_,r=>by rw[List.map_nil]at r;cases r;exact .nil
 |k::ks,_,r=>by
  rw[ZH]at r;cases r with
  |cons h t=>exact .cons (lW h) (oY t)
abbrev KT(H:Hp):List (List Key×V)->List (List Key×Addr×Value)->Prop:=Paired fun p q=>p.1=q.1/\H q.2.1=some (.tup (p.1.map kV))/\RelV p.2 q.2.2
theorem KT.val{H:Hp}{kvs:List (List Key×V)}{xs:List (List Key×Addr×Value)}(r:KT H kvs xs)(k:List Key):RelO (bF kvs k) ((atKey xs k).map (·.2)):=by
 induction r with
 |nil=>exact True.intro
 |@cons p q ps qs h t ih =>
  obtain⟨h1,_,h2⟩:=h;by_cases e:p.1=k
  ·have e':q.1=k:=h1.symm.trans e;have b:atKey (q::qs) k=some q.2:=by simp[atKey,List.find?_cons,e']
   rw[cw e,b];exact h2
  ·have e':¬q.1=k:=fun z=>e (h1.trans z);have b:atKey (q::qs) k=atKey qs k:=by simp[atKey,List.find?_cons,e']
   rw[cn e,b];exact ih
theorem KT.repl{H:Hp}{kvs:List (List Key×V)}{xs:List (List Key×Addr×Value)}(r:KT H kvs xs)(k:List Key){y:V}{u:Value}(ry:RelV y u) :
  KT H (kvs.map fun kv=>if kv.1=k then(kv.1,y)else kv) (xs.map (putAt k u)):=by
 induction r with
 |nil=>exact .nil
 |@cons p q ps qs h t ih =>
  rw[ZH,ZH];refine .cons ?_ ih;obtain⟨h1,h2,h3⟩:=h;unfold putAt;by_cases e:p.1=k
  ·rw[HV e,HV (h1.symm.trans e)];exact⟨h1,h2,ry⟩
  ·rw[HU e,HU (fun z=>e (h1.trans z))];exact⟨h1,h2,h3⟩
theorem KT.put{H:Hp}{kvs:List (List Key×V)}{xs:List (List Key×Addr×Value)}(r:KT H kvs xs)(k:List Key){b:Addr}{y:V}{u:Value}(hb:H b=some (.tup (k.map kV)))(ry:RelV y u) :
  KT H (dE kvs k y) (storedH xs k b u):=by
 have e:(kvs.any fun kv=>decide (kv.1=k))=(atKey xs k).isSome:=by rw[gJ,(r.val k).isSome_eq,Option.isSome_map]
 unfold dE storedH;rw[e];by_cases q:(atKey xs k).isSome=true
 ·rw[HV q,HV q];exact r.repl k ry
 ·rw[HU q,HU q];exact Paired.snoc r ⟨rfl,hb,ry⟩
theorem KT.keeps{H H':Hp}{kvs:List (List Key×V)}{xs:List (List Key×Addr×Value)}(r:KT H kvs xs)(ht:∀b ys,H b=some (.tup ys)->H' b=some (.tup ys)):KT H' kvs xs :=
 Paired.mapP r fun _ _ z=>⟨z.1,ht _ _ z.2.1,z.2.2⟩
section
variable{P:Program}{w:World}{H:Hp}{h:Heap}{a:Addr}
theorem BB{u:HO}(ok:HOk P w H h)(e:Rd H a u):ObjOk P w H h a u:=e.ok ok
theorem jQ{kvs:List (Key×V)}(ok:HOk P w H h)(e:Rd H a (.dK kvs)):kvs.length<=sizeLine/\(a==sysModules)=false/\∃vs,KV kvs vs/\h.DictOf (bO P w) a vs :=
 show ObjOk P w H h a (.dK kvs)from BB ok e
theorem Fk{kvs:List (Key×V)}(ok:HOk P w H h)(e:H a=some (.dK kvs)):kvs.length<=sizeLine/\(a==sysModules)=false/\∃vs,KV kvs vs/\h.DictOf (bO P w) a vs:=jQ ok (.inl e)
theorem jm{ks:List Key}(ok:HOk P w H h)(e:H a=some (.tup (ks.map kV))):(tupleKind (bO P w)).is h ks a:=by
 obtain⟨_,its,r,o,h1,h2,n,h3⟩:=(show ObjOk P w H h a (.tup (ks.map kV))from ok a _ e)
 exact⟨o,its.toArray,n,h1,h2,h3,by simpa using oY r⟩
theorem gN{kvs:List (List Key×V)}(ok:HOk P w H h)(e:Rd H a (.dT kvs)):kvs.length<=sizeLine/\(a==sysModules)=false /\
  ∃xs,KT H kvs xs/\h.DictOfH (tupleKind (bO P w)) a xs:=by
 obtain⟨z,y,xs,r,o,es,ep,h1,h2,h3,h4,h5⟩:=(show ObjOk P w H h a (.dT kvs)from BB ok e)
 refine⟨z,y,xs,r,o,es,ep,h1,h2,h3,h4,fun x hx=>?_,h5⟩;have all:∀{l:List (List Key×V)} {m:List (List Key×Addr×Value)},KT H l m->∀x∈m,(tupleKind (bO P w)).is h x.1 x.2.1:=by
  intro l m q;induction q with
  |nil=>intro x hx;exact nomatch hx
  |@cons p q ps qs hq t ih =>
   intro x hx;rcases Zj.mp hx with e|hx
   ·subst e;exact jm ok (by rw[<-hq.1];exact hq.2.1)
   ·exact ih x hx
 exact all r x hx
theorem Fm{kvs:List (List Key×V)}(ok:HOk P w H h)(e:H a=some (.dT kvs)):kvs.length<=sizeLine/\(a==sysModules)=false /\
  ∃xs,KT H kvs xs/\h.DictOfH (tupleKind (bO P w)) a xs:=gN ok (.inl e)
end
def DGet(H:Hp)(a:Addr)(y:V)(r:Option V):Prop :=
 (∃kvs k,Rd H a (.dK kvs)/\y=kV k/\r=bF kvs k)\/∃kvs k b,Rd H a (.dT kvs)/\y=.ref b/\H b=some (.tup (k.map kV))/\r=bF kvs k
def DPut(H:Hp)(a:Addr)(y v:V)(H':Hp):Prop :=
 (∃kvs k,H a=some (.dK kvs)/\y=kV k/\kvs.length<sizeLine/\H'=upd H a (.dK (dE kvs k v))) \/
 ∃kvs k b,H a=some (.dT kvs)/\y=.ref b/\H b=some (.tup (k.map kV))/\kvs.length<sizeLine/\H'=upd H a (.dT (dE kvs k v))
theorem DGet.t{H:Hp}{a b:Addr}{kvs:List (List Key×V)}{k:List Key}(e:H a=some (.dT kvs))(eb:H b=some (.tup (k.map kV))):DGet H a (.ref b) (bF kvs k):=.inr ⟨kvs,k,b,.inl e,rfl,eb,rfl⟩
theorem DPut.t{H:Hp}{a b:Addr}{kvs:List (List Key×V)}{k:List Key}{v:V}(e:H a=some (.dT kvs))(eb:H b=some (.tup (k.map kV)))(hl:kvs.length<sizeLine) :
  DPut H a (.ref b) v (upd H a (.dT (dE kvs k v))):=.inr ⟨kvs,k,b,e,rfl,eb,hl,rfl⟩
section
variable{X:Cx}{pins:List (Addr×Obj)}{σ:St}{H:Hp}{s:Shared}{a:Addr}{y v:V}{u r:Value}{o:Option V}{A:Around}{E:Value->Shared->Prop}
theorem Inv.big(I:Inv X pins σ H s):sysModules<s.heap.objs.size:=by have h:mainGlobals<s.heap.objs.size:=(I.mod.glob.keeps I.bk).lt;exact Nat.lt_trans (by decide) h
theorem xj{Q:Value->Shared->Prop}(hu:A.units+1<cLine)(I:Inv X pins σ H s)(g:DGet H a y (some v))(ry:RelV y u)(h:∀w' s',Inv X pins σ H s'->RelV v w'->Q w' s') :
  wpAny (model X.prog X.w) A (getItem (.ref a) u) Q E s:=by
 rcases g with⟨kvs,k,e,ey,l⟩|⟨kvs,k,b,e,ey,eb,l⟩
 ·subst ey;obtain⟨z,hd,vs,rel,dd⟩:=jQ I.hok e;obtain⟨w',hw,rw'⟩:=RelO.some_of (v:=v) (o:=valueAt vs k) (by rw[l];exact rel.val k);exact wpAny_getItem_of (lW ry) dd.mapOf hw (h w' _ (I.tok _) rw')
 ·subst ey;cases(show u=Value.ref b from ry);obtain⟨z,hd,xs,rel,dd⟩:=gN I.hok e;obtain⟨w',hw,rw'⟩:=RelO.some_of (v:=v) (o:=(atKey xs k).map (·.2)) (by rw[l];exact rel.val k);obtain⟨p,hp,hp2⟩:=YI.mp hw;refine wpAny_getItem_heap (tupleKind_room_in1 hu) (jm I.hok eb) dd hp ?_;rw[hp2];exact h w' _ (I.tok _) rw'
theorem Gn{Q:Value->Shared->Prop}(hu:A.units+1<cLine)(I:Inv X pins σ H s)(g:DGet H a y o)(ry:RelV y u)(h:∀s',Inv X pins σ H s'->Q (.bool o.isSome) s') :
  wpAny (model X.prog X.w) A (compareOp .In u (.ref a)) Q E s:=by
 rcases g with⟨kvs,k,e,ey,l⟩|⟨kvs,k,b,e,ey,eb,l⟩
 ·subst ey;obtain⟨z,hd,vs,rel,dd⟩:=jQ I.hok e;refine wpAny_in_of (lW ry) hd dd.mapOf ?_;rw[<-(rel.val k).isSome_eq,<-l];exact h _ (I.tok _)
 ·subst ey;cases(show u=Value.ref b from ry);obtain⟨z,hd,xs,rel,dd⟩:=gN I.hok e;refine wpAny_in_heap (tupleKind_room_in1 hu) (jm I.hok eb) hd dd ?_;have q:=(rel.val k).isSome_eq;rw[Option.isSome_map]at q;rw[<-q,<-l];exact h _ (I.tok _)
theorem BY{Q:Value->Shared->Prop}(hu:A.units+1<cLine)(I:Inv X pins σ H s)(g:DGet H a y o)(ry:RelV y u)(h:∀s',Inv X pins σ H s'->Q (.bool (!o.isSome)) s') :
  wpAny (model X.prog X.w) A (compareOp .NotIn u (.ref a)) Q E s:=by
 rcases g with⟨kvs,k,e,ey,l⟩|⟨kvs,k,b,e,ey,eb,l⟩
 ·subst ey;obtain⟨z,hd,vs,rel,dd⟩:=jQ I.hok e;refine wpAny_notIn_of (lW ry) hd dd.mapOf ?_;rw[<-(rel.val k).isSome_eq,<-l];exact h _ (I.tok _)
 ·subst ey;cases(show u=Value.ref b from ry);obtain⟨z,hd,xs,rel,dd⟩:=gN I.hok e;refine wpAny_notIn_heap (tupleKind_room_in1 hu) (jm I.hok eb) hd dd ?_;have q:=(rel.val k).isSome_eq;rw[Option.isSome_map]at q;rw[<-q,<-l];exact h _ (I.tok _)
theorem tU{h':Heap}{t':Nat}{ob:HO}(I:Inv X pins σ H s)(mu:Mut (H a))(hs:Heap.SameBut a s.heap h')(he:∃q,h'.get? a=some q)(new:ObjOk X.prog X.w (upd H a ob) h' a ob) :
  Inv X pins σ (upd H a ob) { s with heap:=h',toks:=t' } :=
 I.write (x:=a) (e:=a) mu (.inl rfl) (fun b q hb z=>(hs.2 b hb).trans z) he new
theorem Dv{P:Program}{w:World}{H':Hp}{h':Heap}{kvs:List (Key×V)}{vs:List (Key×Value)}(z:kvs.length<=sizeLine)(hd:(a==sysModules)=false)(rel:KV kvs vs)(dd:h'.DictOf (bO P w) a vs) :
  ObjOk P w H' h' a (.dK kvs):=⟨z,hd,vs,rel,dd⟩
theorem xl{H':Hp}{Q:Unit->Shared->Prop}(hu:A.units+1<cLine)(I:Inv X pins σ H s)(g:DPut H a y v H')(ry:RelV y u)(rv:RelV v r)(h:∀s',Inv X pins σ H' s'->Q () s') :
  wpAny (model X.prog X.w) A (setItem (.ref a) u r) Q E s:=by
 rcases g with⟨kvs,k,e,ey,l,eH⟩|⟨kvs,k,b,e,ey,eb,l,eH⟩
 ·subst ey eH;obtain⟨z,hd,vs,rel,dd⟩:=Fk I.hok e;have hz:vs.length<=sizeLine:=by rw[<-rel.length];exact z
  have hl:(dE kvs k v).length<=sizeLine:=by have:=gY kvs k v;omega
  refine wpAny_setItem_pairs (hsz:=hz) (lW ry) dd fun h' dd' hs=>h _ ?_;have he:∃q,h'.get? a=some q:=let⟨q,_,_,hq,_⟩:=dd';⟨q,hq⟩
  exact tU I (by rw[e];exact True.intro) hs he (Dv hl hd (rel.put k rv) dd')
 ·subst ey eH;cases(show u=Value.ref b from ry);obtain⟨z,hd,xs,rel,dd⟩:=Fm I.hok e;have hz:xs.length<=sizeLine:=by rw[<-Paired.length rel];exact z
  have hl:(dE kvs k v).length<=sizeLine:=by have:=gY kvs k v;omega
  refine wpAny_setItem_heap (hsz:=hz) (tupleKind_room_in1 hu) (jm I.hok eb) dd fun h' dd' hs=>h _ ?_;obtain⟨q,es,ep,hq,h2,h3,h4,_,h5⟩:=dd';refine tU I (by rw[e];exact True.intro) hs ⟨q,hq⟩ ⟨hl,hd,_,(rel.put k eb rv).keeps fun c ys ec=>?_,q,es,ep,hq,h2,h3,h4,h5⟩;rw[af (FC ec e (fun z=>nomatch z))];exact ec
end
def zB(i:Expr):Prop:=∀ov iv,subscripted i false ov iv=operate [ov,iv] (getItem ov iv)
theorem C1{prog:Program}{w:World}{A:Around}{E:Value->Shared->Prop}{s:Shared}{env:Env}{value slice:Expr}{pos:Pos}{T id:String}{Q:Value->Shared->Prop}(hl:typeLookup (.type T) "__getitem__" = pure (some (.builtin id)))(hs:zB slice)(h:wpAny (model prog w) A (eval value env) (fun o s₁=>wpAny (model prog w) A (eval slice env) (fun i s₂=>s₂.TypeIs o T/\wpAny (model prog w) A (getItem o i) Q E s₂) E s₁) E s) :
  wpAny (model prog w) A (eval (.Subscript value slice pos) env) Q E s:=by
 refine Subscript_ (ZK h (fun o s₁ h₁=>ZK h₁ (fun i s₂ h₂=>?_) fun _ _ x=>x) fun _ _ x=>x);obtain⟨hT,h₂⟩:=h₂;unfold subscriptTail;refine z0 ?_;rw[getitemInPython_of_ne hT.not_modules];refine z0 (wpAny_specialOf hT hl ?_);have fin:wpAny (model prog w) A (subscripted slice false o i) (fun r s₃=>wpAny (model prog w) A (letTemporaryGo value o r >>= fun _=>pure r) Q E s₃) E s₂:=by rw[hs o i];exact wpAny_operating (ZK h₂ (fun r s₃ h₃=>z0 (wpAny_letTemporaryGo (z9 h₃))) fun _ _ x=>x)
 first
  |exact z9 (z0 fin)
  |exact z0 (z9 (z0 fin))
  |exact z0 fin
theorem sQ{X:Cx}{pins:List (Addr×Obj)}{σ:St}{H:Hp}{s:Shared}{a:Addr}{y:V}{o:Option V}(I:Inv X pins σ H s)(g:DGet H a y o):s.TypeIs (.ref a) "dict":=by
 rcases g with⟨kvs,k,e,_,_⟩|⟨kvs,k,b,e,_,_,_⟩
 ·obtain⟨_,_,vs,_,dd⟩:=jQ I.hok e;exact dd.typeIs
 ·obtain⟨_,_,xs,_,dd⟩:=gN I.hok e;exact dd.typeIs
def BF(td ty:TE):TE:=fun σ H Q=>td σ H fun x H1=>ty σ H1 fun y H2=>∃a v,x=.ref a/\DGet H2 a y (some v)/\Q v H2
def E3(ty td:TE):TE:=fun σ H Q=>ty σ H fun y H1=>td σ H1 fun x H2=>∃a o,x=.ref a/\DGet H2 a y o/\Q (.bl o.isSome) H2
def uD(ty td:TE):TE:=fun σ H Q=>ty σ H fun y H1=>td σ H1 fun x H2=>∃a o,x=.ref a/\DGet H2 a y o/\Q (.bl (!o.isSome)) H2
inductive IsP(x y v:V)(H:Hp)(R:Hp->Prop):Prop
 |mk (a:Addr) (H':Hp) (h0:x=.ref a) (h1:DPut H a y v H') (q:R H'):IsP x y v H R
def BC(td ty tv:TE):TS:=fun D σ H=>tv σ H fun v H1=>td σ H1 fun x H2=>ty σ H2 fun y H3=>IsP x y v H3 (D.nx σ)
section
variable{X:Cx}{o i e value:Expr}{pos pos' tpos:Pos}{td ty tv:TE}
theorem Cw(hu:X.A.units+1<cLine)(ho:PE X o td)(hi:PE X i ty)(hs:zB i):PE X (.Subscript o i pos) (BF td ty):=by intro pins s σ H Q I h;refine C1 PySem.F.slot_dict_getitem.lookup hs (thn (ho pins s σ H _ I h) fun u s1 ⟨x,H1,I1,rx,q1⟩=>thn (hi pins s1 σ H1 _ I1 q1) fun iv s2 hz9=>?_);obtain⟨y,H2,I2,ry,a,v,ex,g,q2⟩:=hz9;subst ex;obtain rfl:u=Value.ref a:=rx;exact⟨sQ I2 g,xj hu I2 g ry fun w' s3 I3 rw'=>⟨v,H2,I3,rw',q2⟩⟩
theorem Ee(hu:X.A.units+1<cLine)(hi:PE X i ty)(ho:PE X o td):PC X .In i o (E3 ty td):=by intro pins s σ H Q I h;refine thn (hi pins s σ H _ I h) fun iv s1 ⟨y,H1,I1,ry,q1⟩=>thn (ho pins s1 σ H1 _ I1 q1) fun u s2 hz9=>?_;obtain⟨x,H2,I2,rx,a,ov,ex,g,q2⟩:=hz9;subst ex;obtain rfl:u=Value.ref a:=rx;exact Gn hu I2 g ry fun s3 I3=>⟨.bl ov.isSome,H2,I3,rfl,q2⟩
theorem yr(hu:X.A.units+1<cLine)(hi:PE X i ty)(ho:PE X o td):PC X .NotIn i o (uD ty td):=by intro pins s σ H Q I h;refine thn (hi pins s σ H _ I h) fun iv s1 ⟨y,H1,I1,ry,q1⟩=>thn (ho pins s1 σ H1 _ I1 q1) fun u s2 hz9=>?_;obtain⟨x,H2,I2,rx,a,ov,ex,g,q2⟩:=hz9;subst ex;obtain rfl:u=Value.ref a:=rx;exact BY hu I2 g ry fun s3 I3=>⟨.bl (!ov.isSome),H2,I3,rfl,q2⟩
theorem CI(hu:X.A.units+1<cLine)(ho:PE X o td)(hi:PE X i ty)(hv:PE X value tv)(hs:swapsWith value (some (.Subscript o i pos')) pos.line X.env=pure false) :
  PS X (.Assign [.Subscript o i pos'] value pos) (BC td ty tv):=by
 intro pins s σ H D I h;refine wpAny_Assign_Subscript (thn (hv pins s σ H _ I h) fun r s1 ⟨v,H1,I1,rv,q1⟩=>thn (ho pins s1 σ H1 _ I1 q1) fun u s2 ⟨x,H2,I2,rx,q2⟩=>thn (hi pins s2 σ H2 _ I2 q2) fun iv s3 hz9=>?_) hs;obtain⟨y,H3,I3,ry,a,H4,ex,g,q3⟩:=hz9;subst ex;obtain rfl:u=Value.ref a:=rx;exact xl hu I3 g ry rv fun s4 I4=>⟨σ,H4,I4,q3⟩
end
theorem zV{P:Program}{w:World}{H:Hp}(h:Heap)(hb:sysModules<h.objs.size):ObjOk P w H (h.push { cls:=.type "dict",data:=.dict #[] }) h.objs.size (.dT []) :=
 ⟨ZV _,beq_eq_false_iff_ne.mpr (Z9 (Zn hb)),[],.nil,_,#[],0,Zg _ rfl,⟨rfl,rfl,rfl⟩,rfl,rfl,List.nodup_nil⟩
def yY:TE:=fun _ H Q=>∀p,H p=none->Q (.ref p) (upd H p (.dT []))
section
variable{X:Cx}{pos:Pos}
theorem AA:PE X (.Dict [] [] pos) yY:=fun pins s σ H Q I h =>
 wpAny_Dict_empty ⟨.ref s.heap.objs.size,_,I.laid (a:=s.heap.objs.size) (o:=.dT []) (t':=s.toks) (fun _ _ q=>z6 _ q) (Zb _) (zV s.heap I.big),rfl,h _ (I.hok.fresh (Zb _))⟩
end
def zd:List (TE×TE)->St->Hp->(List (V×V)->Hp->Prop)->Prop
 | [],_,H,Q=>Q [] H
 |(tk,tv)::r,σ,H,Q=>tk σ H fun x H1=>tv σ H1 fun y H2=>zd r σ H2 fun ps H3=>Q ((x,y)::ps) H3
abbrev VV:List (V×V)->List (Value×Value)->Prop:=Paired fun p q=>RelV p.1 q.1/\RelV p.2 q.2
def PPs(X:Cx)(pos:Pos)(keys:List (Option Expr))(values:List Expr)(trs:List (TE×TE)):Prop :=
 ∀(pins:List (Addr×Obj)) (s:Shared) (σ:St) (H:Hp) (Q:List (V×V)->Hp->Prop),Inv X pins σ H s->zd trs σ H Q ->
  wpAny (model X.prog X.w) X.A (evalPairs (pairTrees keys values X.env pos)) (fun vs s'=>∃ps H',Inv X pins σ H' s'/\VV ps vs/\Q ps H') X.xe s
structure M1(X:Cx)(o:Expr)(m:Str)(apos:Pos)(e:Expr)(cpos:Pos):Prop where
 base:attributeBase o m X.env (eval o X.env)=eval o X.env
 few:((backTo cpos (starEach [e] X.env)).all (fun x=>!x.1)&&(backToKw cpos (keywordEach [] X.env)).all (fun x=>x.1.isSome)
 &&decide (([e]:List Expr).length+([]:List Keyword).length+(if ([]:List Keyword).isEmpty then 0 else 1)<30))=true
 line:(apos.endLine==cpos.line)=true
 trees:backTo cpos (starEach [e] X.env)=[(false,eval e X.env)]
structure M2(X:Cx)(o:Expr)(m:Str)(apos:Pos)(e f:Expr)(cpos:Pos):Prop where
 base:attributeBase o m X.env (eval o X.env)=eval o X.env
 few:((backTo cpos (starEach [e,f] X.env)).all (fun x=>!x.1)&&(backToKw cpos (keywordEach [] X.env)).all (fun x=>x.1.isSome)
 &&decide (([e,f]:List Expr).length+([]:List Keyword).length+(if ([]:List Keyword).isEmpty then 0 else 1)<30))=true
 line:(apos.endLine==cpos.line)=true
 trees:backTo cpos (starEach [e,f] X.env)=[(false,eval e X.env),(false,eval f X.env)]
def IsD(H:Hp)(a:Addr):Prop:=(∃kvs,Rd H a (.dK kvs))\/∃kvs,Rd H a (.dT kvs)
theorem DG{X:Cx}{pins:List (Addr×Obj)}{σ:St}{H:Hp}{s:Shared}{a:Addr}(I:Inv X pins σ H s)(d:IsD H a) :
  s.TypeIs (.ref a) "dict"/\(∀b,Value.ref a=.ref b->∃ob,s.heap.get? b=some ob/\ob.dict=none)/\(a==sysModules)=false:=by
 rcases d with⟨kvs,e⟩|⟨kvs,e⟩
 ·obtain⟨_,hd,vs,_,dd⟩:=jQ I.hok e;refine⟨dd.typeIs,fun b q=>?_,hd⟩;cases q;obtain⟨ob,_,_,h1,h2,_⟩:=dd;exact⟨ob,h1,h2.2.1⟩
 ·obtain⟨_,hd,xs,_,dd⟩:=gN I.hok e;refine⟨dd.typeIs,fun b q=>?_,hd⟩;cases q;obtain⟨ob,_,_,h1,h2,_⟩:=dd;exact⟨ob,h1,h2.2.1⟩
end L2
namespace Att
open PySem PySem.W PySem.Calls PyProof.Rows
theorem lT{P:Params}{h:Heap}:∀(ns:List Int) (vs:List Value),WellAll P h vs (ns.map WData.int)->IntsAre vs ns:=by
 intro ns;induction ns with
 |nil =>intro vs w;rw[List.map_nil]at w;cases w;exact .nil
 |cons n ns ih =>
  intro vs w;rw[ZH]at w;cases w with
  |cons a b =>cases a;exact .cons _ _ (ih _ b)
theorem yI{l:OpenLaw}{n:Nat}(hn:l.most=some n){P:Params}{h:Heap}{args:List WData}{vals:List Value}(hpre:l.row.toRowW.claim.pre args=true)(hwl:WellAll P h vals args) :
  ∃a vs ns,vals=[Value.ref a]/\args=[WData.list (ns.map WData.int)]/\h.get? a=some { cls:=.type "list",data:=.seq vs.toArray }/\IntsAre vs ns/\ns.length<=n:=by
 have hsh:WShape.hasAll [] args [.list .int]=true:=(pre_splitW hpre).1;have hc:l.pre.holds [] { args:=args }=true:=(pre_splitW hpre).2;obtain⟨d,r,rfl,h1,h2⟩:=hasAllW_cons hsh;obtain rfl:=hasAllW_nil h2;obtain⟨xs,rfl,h3⟩:=hasW_list h1;obtain⟨ns,rfl⟩:=items_int h3;have hlen:ns.length<=n:=by
  unfold OpenLaw.pre at hc;have h4:(WTm.not (.lt (.lit (.int (n:Int))) (.len (.arg 0)))).holds [] { args:=[.list (ns.map .int)] }=true:=by have h4:=(holds_andW hc).1;rw[hn]at h4;exact h4
  have h5:=condW_of h4 (w_not (w_lt w_lit (w_len_list (w_arg rfl))));rw[Za]at h5;refine Nat.le_of_not_lt fun q=>?_;have q':(n:Int)<((ns.length:Nat):Int):=by omega
  first
   |(rw[decide_eq_true q']at h5;exact absurd h5 (by decide))
   |(simp at h5;omega)
 cases hwl with
 |cons w1 w2 =>
  cases w2;cases w1 with
  |list ho hall=>exact⟨_,_,ns,rfl,rfl,ho,lT ns _ hall,hlen⟩
theorem yx(l:OpenLaw)(args:List WData):l.row.toRowW.claim.post args (.bool true) args=true :=
 postW_of (r:=l.row.toRowW) (X:=(true==true))
  (show WShape.has [] (.bool true) .bool=true by first|rfl|decide|simp[WShape.has,WShape.arms,WShape.armsAll])
  (show(WTm.eq .res (.lit (.bool true))).value [] { args:=args,res:=some (.bool true),after:=args }=some (.bool (true==true))from w_eq_bool (w_res rfl) w_lit) rfl
theorem attach_call{l:OpenLaw}{n:Nat}{q:Program}{loose:List Str}{XP:(Str->Option Value)->Heap->Prop}{YP:World->Heap->Prop}{d:DefRec}(hn:l.most=some n)(hdf:d.params.defaults=[])(call:∀ (w:World) (s₀ s₁:Shared) (mg mb:Str->Option Value) (fa:Addr) (o:Obj) (pm cd doc:Value) (a:Addr) (vs:List Value) (ns:List Int),
   Ground q loose [] XP w s₀ mg mb s₁.heap->YP w s₁.heap ->
   s₁.heap.get? fa=some o->o.data=.func (docDef d.name d.params d.body d.scope pm cd doc)->s₁.heap.CodeRec cd d.name->mg d.name=some (.ref fa) ->
   s₁.heap.get? a=some { cls:=.type "list",data:=.seq vs.toArray }->IntsAre vs ns->ns.length<=n->s₁.gens=#[] ->
   codeAny (model l.prog w) callerA (.call (.ref fa) ⟨[.ref a],[]⟩) (fun r s'=>r=.ok (.ret (.bool true))/\OldK s₁.heap s'.heap/\s'.os=s₁.os/\AllBare s'.gens) s₁) :
  WalkO q loose XP YP l.row.toRowW d [] (fun f vs=>PySem.call f vs):=by
 intro w s₀ s₁ mg mb G Y fa o pm cd doc dV kV ho hd hcd hD hmg hg args vals as hpre hlay hrd hwl hlo;obtain rfl:dV=.none:=Dflts.none hD hdf;obtain rfl:kV=.none:=Dflts.noKw hD;obtain⟨a,vs,ns,rfl,rfl,hobj,hints,hlen⟩:=yI hn hpre hwl;refine enter_call (YL (call w s₀ s₁ mg mb fa o pm cd doc a vs ns G Y ho (fd_plain hd) hcd hmg hobj hints hlen hg) fun r s' hq=>?_);obtain⟨rfl,h2,h3,h4⟩:=hq;exact⟨.inl ⟨.bool true,.bool true,[],rfl,fun _=>rfl,.bool true,yx l _,fun _=>⟨List.Pairwise.nil,fun _ hm=>(nomatch hm)⟩⟩,h2,h3,h4⟩
end Att
namespace L2
open PySem PySem.Spec PyProof.Rows
theorem pC:∀{vs:List Value} {ns:List Int},IntsAre vs ns->Vals (ns.map V.int) vs
 |_,_,.nil=>.nil
 |_,_,.cons n t h=>.cons ⟨t,rfl⟩ (pC h)
open PySem PySem.Spec PyProof.Rows
open PySem PySem.Spec PyProof.Rows
def bY(s:Stmt)(j:Nat):Stmt:=match s with
 |.ClassDef _ _ _ body _ _ _ _ _ _ _=>body.getD j (.Pass ⟨0,0,0,0⟩)
 |_=>.Pass ⟨0,0,0,0⟩
def cz(s:Stmt):Arguments:=match s with
 |.FunctionDef _ a _ _ _ _ _ _ _ _=>a
 |_=>{ posonlyargs:=[],args:=[],vararg:=none,kwonlyargs:=[],kw_defaults:=[],kwarg:=none,defaults:=[] }
def bG(s:Stmt):List Stmt:=match s with
 |.FunctionDef _ _ b _ _ _ _ _ _ _=>b
 |_=>[]
def al(s:Stmt):Scope:=match s with
 |.FunctionDef _ _ _ _ _ _ sc _ _ _=>sc
 |_=>{ kind:=.function,names:=[],isGenerator:=false,isCoroutine:=false }
abbrev CX0:CXT:=fun _ _ _ _ _ _=>False
abbrev E0:XK:=fun _ _ _=>False
theorem ql{X:Cx}:ee CX0 X E0:=fun _ _ _ _ _ _ _ h=>h.elim
structure Fun(K:PySem.W.Frag)(x qual:Str)(st:Stmt)(f:Addr)(fd:FuncData):Prop where
 ex:∃(oc:Value) (od:Option Addr) (kV doc pm:Value) (an:Option Addr) (cdv ct:Value) (osl:Array (Option Value)),
  fd=PySem.W.fnOf x qual (cz st) (bG st) (al st) .none kV doc pm an cdv ct/\K.lookup f=some ⟨oc,od,.func fd,osl⟩/\PySem.W.codeIn K cdv qual=true
 kp:PySem.W.keepIn K (.ref f)=true
section
variable{P:Program}{w:World}{K:PySem.W.Frag}{mg:Str->Option Value}{base:Heap}
theorem Fun.ok{x qual:Str}{st:Stmt}{f:Addr}{fd:FuncData}{N ps:List Str}{k:Nat}{sp:Sp}(F:Fun K x qual st f fd)(S:FnScope N ps (al st))(len:∀ vs H Q E,sp vs H Q E->vs.length=ps.length)(hbody:∀ (cdv:Value) (A:Around) (outer:List Env) (s:Shared) (H:Hp) (vs:List V) (Q:VK) (E:XK),Room k (A.deeper (envOfC qual (al st) s.heap.objs.size f cdv))->sp vs H Q E ->
   ∃ t,PSs (dM CX0 P w K mg base N qual (al st) f cdv A outer s H E).nox (bG st) t/\t { nx:=fun _ H'=>Q .non H',rt:=Q } (start N vs) H):FnOk P w K mg base CX0 (k+1) f fd ps sp:=by
 obtain⟨oc,od,kV,doc,pm,an,cdv,ct,osl,rfl,lk,hcd⟩:=F.ex;refine vh lk hcd S len fun A outer s H vs Q E hr hsp=>?_;obtain⟨t,h,q⟩:=hbody cdv A outer s H vs Q E hr hsp;exact⟨t,h.nox,q⟩
theorem Fun.binds{x qual:Str}{st:Stmt}{f:Addr}{fd:FuncData}{ps:List Str}(F:Fun K x qual st f fd)(h:∀(kV doc pm:Value) (an:Option Addr) (cdv ct:Value) (us:List Value),us.length=ps.length->bindArgs (PySem.W.fnOf x qual (cz st) (bG st) (al st) .none kV doc pm an cdv ct) ⟨us,[]⟩=pure (ps.zip us)):Binds K fd ps []:=by obtain⟨oc,od,kV,doc,pm,an,cdv,ct,osl,rfl,lk,hcd⟩:=F.ex;exact .all (h kV doc pm an cdv ct)
theorem xE{x qual:Str}{st:Stmt}{f:Addr}{oc:Value}{od an:Option Addr}{osl:Array (Option Value)}{kV doc pm cdv ct:Value}(l:K.lookup f=some ⟨oc,od,.func (PySem.W.fnOf x qual (cz st) (bG st) (al st) .none kV doc pm an cdv ct),osl⟩)(c:PySem.W.codeIn K cdv qual=true)(k:PySem.W.keepIn K (.ref f)=true):Fun K x qual st f (PySem.W.fnOf x qual (cz st) (bG st) (al st) .none kV doc pm an cdv ct):=⟨⟨oc,od,kV,doc,pm,an,cdv,ct,osl,rfl,l,c⟩,k⟩
end
theorem gQ{n:Nat}(h:n<=1000):n<sizeLine:=Nat.lt_of_le_of_lt h (by decide)
theorem ax{A B:Prop}(h:B):if false=true then A else B:=by rw[HU Zh];exact h
theorem aL{A B:Prop}(h:A):if true=true then A else B:=by rw[HV rfl];exact h
theorem iL{c A B:Prop}[Decidable c](h1:c->A)(h2:¬c->B):if c then A else B:=by
 by_cases h:c
 ·rw[HV h];exact h1 h
 ·rw[HU h];exact h2 h
theorem lV{c A B:Prop}[Decidable c](hc:c)(h:B):if(!decide c)=true then A else B:=by rw[decide_eq_true hc];exact ax h
def Same(H H':Hp):Prop:=∀b o,H b=some o->H' b=some o
theorem Same.refl(H:Hp):Same H H:=fun _ _ h=>h
theorem Same.trans{H H1 H2:Hp}(a:Same H H1)(b:Same H1 H2):Same H H2:=fun c o h=>b c o (a c o h)
theorem Same.free{H H':Hp}(e:Same H H'){l:Addr}(h:H' l=Option.none):H l=Option.none:=by
 cases q:H l with
 |none=>rfl
 |some o =>rw[e l o q]at h;cases h
theorem Same.seq{K:PySem.W.Frag}{H H':Hp}{a:Addr}{xs:List V}(e:Same H H')(h:SqL K H a xs):SqL K H' a xs:=by
 rcases h with(h|⟨o,h⟩)|h
 ·exact .inl (.inl (e _ _ h))
 ·exact .inl (.inr ⟨o,e _ _ h⟩)
 ·exact .inr h
open PySem PySem.Spec PyProof.Rows
open PySem PySem.Spec PyProof.Rows
theorem iA{env:Env}:∀{names:List (Str×NameKind)} {x:Str} {k:NameKind},
  (names.map fun(n,k)=>if(k==NameKind.free&&env.scope.kind == .function&&env.kindOf n==some .cell)then(n,NameKind.cell)else(n,k)).lookup x=some k ->
  ∃k',names.lookup x=some k'/\(k=k'\/(k'=.free/\k=.cell))
 | [],_,_,h=>by simp at h
 |(n,k0)::r,x,k,h=>by
  have ih:=@iA env r x k;rw[ZH]at h;by_cases hc:(k0==NameKind.free&&env.scope.kind == .function&&env.kindOf n==some .cell)=true
  ·have e:(if(k0==NameKind.free&&env.scope.kind == .function&&env.kindOf n==some .cell)=true then(n,NameKind.cell)else(n,k0))=(n,NameKind.cell):=HV hc;simp only[e]at h;cases hx:x==n with
   |true =>
    simp only[ZP,hx]at h ⊢;have hf:k0=.free:=by have:=hc;simp only[Zk,ZU]at this;exact this.1.1
    exact⟨k0,rfl,.inr ⟨hf,(Zu h).symm⟩⟩
   |false =>simp only[ZP,hx]at h ⊢;exact ih h
  ·have e:(if(k0==NameKind.free&&env.scope.kind == .function&&env.kindOf n==some .cell)=true then(n,NameKind.cell)else(n,k0))=(n,k0):=HU hc;simp only[e]at h;cases hx:x==n with
   |true =>simp only[ZP,hx]at h ⊢;exact⟨k0,rfl,.inl (Zu h).symm⟩
   |false =>simp only[ZP,hx]at h ⊢;exact ih h
theorem jy{env:Env}:∀{names:List (Str×NameKind)} {x:Str},names.lookup x=some .free ->
  (names.map fun(n,k)=>if(k==NameKind.free&&env.scope.kind == .function&&env.kindOf n==some .cell)then(n,NameKind.cell)else(n,k)).lookup x=some .cell \/
  (names.map fun(n,k)=>if(k==NameKind.free&&env.scope.kind == .function&&env.kindOf n==some .cell)then(n,NameKind.cell)else(n,k)).lookup x=some .free
 | [],_,h=>by simp at h
 |(n,k0)::r,x,h=>by
  have ih:=@jy env r x;rw[ZH];by_cases hc:(k0==NameKind.free&&env.scope.kind == .function&&env.kindOf n==some .cell)=true
  ·have e:(if(k0==NameKind.free&&env.scope.kind == .function&&env.kindOf n==some .cell)=true then(n,NameKind.cell)else(n,k0))=(n,NameKind.cell):=HV hc;simp only[e];cases hx:x==n with
   |true =>
    simp only[ZP,hx]at h ⊢
    first|exact .inl rfl|exact .inl trivial
   |false =>simp only[ZP,hx]at h ⊢;exact ih h
  ·have e:(if(k0==NameKind.free&&env.scope.kind == .function&&env.kindOf n==some .cell)=true then(n,NameKind.cell)else(n,k0))=(n,k0):=HU hc;simp only[e];cases hx:x==n with
   |true =>simp only[ZP,hx]at h ⊢;exact .inr h
   |false =>simp only[ZP,hx]at h ⊢;exact ih h
def bX(env:Env):List (Str×NameKind)->List (Str×Addr)->List (Str×Addr)
 | [],acc=>acc
 |y::r,acc=>if(y.2==NameKind.free)=true then bX env r ((y.1,(env.cells.lookup y.1).getD 0)::acc)else bX env r acc
theorem mU{env:Env}:∀{names:List (Str×NameKind)} {acc:List (Str×Addr)},(∀y∈names,y.2=.free->∃c,env.cells.lookup y.1=some c) ->
  (forIn names acc fun(x:Str×NameKind) (cs:List (Str×Addr))=>if(x.2==NameKind.free)=true then do let c ←cellOf env x.1;pure (ForInStep.yield ((x.1,c)::cs))else pure (ForInStep.yield cs):Sem (List (Str×Addr)))=pure (bX env names acc)
 | [],_,_=>rfl
 |y::r,acc,h=>by
  rw[List.forIn_cons];by_cases hy:(y.2==NameKind.free)=true
  ·obtain⟨c,hc⟩:=h y y4 (by simpa using hy);have e:cellOf env y.1=pure c:=by unfold cellOf;rw[hc]
   rw[HV hy,e,pure_bind,pure_bind];show(forIn r ((y.1,c)::acc) _:Sem (List (Str×Addr)))=_;rw[mU fun z hz=>h z (ZA _ hz)];show _=pure (if(y.2==NameKind.free)=true then bX env r ((y.1,(env.cells.lookup y.1).getD 0)::acc)else bX env r acc);rw[HV hy,hc];rfl
  ·rw[HU hy,pure_bind];show(forIn r acc _:Sem (List (Str×Addr)))=_;rw[mU fun z hz=>h z (ZA _ hz)];show _=pure (if(y.2==NameKind.free)=true then bX env r ((y.1,(env.cells.lookup y.1).getD 0)::acc)else bX env r acc);rw[HU hy]
theorem BX{scope:Scope}{env:Env}(h:∀y∈scope.names,y.2=.free->∃c,env.cells.lookup y.1=some c):closureFor scope env=pure (bX env scope.names []):=by have q:=mU (env:=env) (names:=scope.names) (acc:=[]) h;unfold closureFor;exact(by first|(simp only[bind_pure];exact q)|(rw[bind_pure];exact q)|exact q)
theorem mV{env:Env}:∀{names:List (Str×NameKind)} {acc:List (Str×Addr)},(∀y∈names,y.2=.free->∃c,env.cells.lookup y.1=some c)->(∀x c,acc.lookup x=some c->env.cells.lookup x=some c) ->
  ∀x c,(bX env names acc).lookup x=some c->env.cells.lookup x=some c
 | [],_,_,ha=>ha
 |y::r,acc,h,ha=>by
  have hr:∀z∈r,z.2=.free->∃c,env.cells.lookup z.1=some c:=fun z hz=>h z (ZA _ hz);intro x c e;unfold bX at e;by_cases hy:(y.2==NameKind.free)=true
  ·rw[HV hy]at e;refine mV hr (fun x' c' e'=>?_) x c e;obtain⟨d,hd⟩:=h y y4 (by simpa using hy);rw[hd,Option.getD_some]at e';cases hx:x'==y.1 with
   |true =>simp only[ZP,hx]at e';have e1:x'=y.1:=eq_of_beq hx;rw[e1,hd];exact e'
   |false =>simp only[ZP,hx]at e';exact ha x' c' e'
  ·rw[HU hy]at e;exact mV hr ha x c e
theorem kG{env:Env}:∀{names:List (Str×NameKind)} {acc:List (Str×Addr)} {x:Str},(∃c,acc.lookup x=some c)->∃c,(bX env names acc).lookup x=some c
 | [],_,_,h=>h
 |y::r,acc,x,h=>by
  unfold bX;by_cases hy:(y.2==NameKind.free)=true
  ·rw[HV hy];refine kG ?_;cases hx:x==y.1 with
   |true=>exact⟨(env.cells.lookup y.1).getD 0,by simp only[ZP,hx]⟩
   |false =>obtain⟨c,e⟩:=h;exact⟨c,by simp only[ZP,hx];exact e⟩
  ·rw[HU hy];exact kG h
theorem mT{env:Env}:∀{names:List (Str×NameKind)} {acc:List (Str×Addr)} {x:Str},names.lookup x=some .free->∃c,(bX env names acc).lookup x=some c
 | [],_,_,h=>by simp at h
 |(n,k)::r,acc,x,h=>by
  unfold bX;cases hx:x==n with
  |true =>
   simp only[ZP,hx]at h;have hy:(k==NameKind.free)=true:=by rw[Zu h];rfl
   rw[HV hy];exact kG ⟨(env.cells.lookup n).getD 0,by simp only[ZP,hx]⟩
  |false =>
   simp only[ZP,hx]at h;by_cases hy:(k==NameKind.free)=true
   ·rw[HV hy];exact mT h
   ·rw[HU hy];exact mT h
abbrev aQ(X:Cx)(scope:Scope)(N':List Str)(C:Addr)(s0:Shared)(H0:Hp)(ex:List Addr):Cx where
 prog:=X.prog
 w:=X.w
 K:=X.K
 mg:=X.mg
 base:=X.base
 A:=X.A
 N:=N'
 s₀:=s0
 H₀:=H0
 env:=compEnvC scope (bX X.env scope.names []) C X.env
 outer:=X.stack
 stack:=X.stack
 ex:=ex
 fn:=fun _=>false
 calm:=X.calm
 pn:=[]
 xe:=fun _ _=>False
def CapOk(X:Cx)(sc:Scope):List Nat->List Str->Prop
 | [],[]=>True
 |j::js,x::xs=>X.N[j]?=some x/\sc.names.lookup x=some .free/\CapOk X sc js xs
 |_,_=>False
theorem CapOk.get{X:Cx}{sc:Scope}:∀{js:List Nat} {xs:List Str} {i:Nat} {x:Str},CapOk X sc js xs->xs[i]?=some x ->
  ∃j,js[i]?=some j/\X.N[j]?=some x/\sc.names.lookup x=some .free
 | [],[],_,_,_,e=>by simp at e
 |j::js,y::xs,0,x,h,e=>by
  obtain⟨h1,h2,_⟩:=h;have e':y=x:=by simpa using e
  subst e';exact⟨j,rfl,h1,h2⟩
 |j::js,y::xs,i+1,x,h,e=>by obtain⟨_,_,h6⟩:=h;obtain⟨j',q⟩:=CapOk.get (i:=i) (x:=x) h6 (by simpa using e);exact⟨j',by simpa using q.1,q.2⟩
 | [],_::_,_,_,h,_=>h.elim
 |_::_,[],_,_,h,_=>h.elim
theorem CapOk.len{X:Cx}{sc:Scope}:∀{js:List Nat} {xs:List Str},CapOk X sc js xs->js.length=xs.length
 | [],[],_=>rfl
 |j::js,y::xs,h=>by obtain⟨_,_,h6⟩:=h;simp[CapOk.len h6]
 | [],_::_,h=>h.elim
 |_::_,[],h=>h.elim
structure CompOk(X:Cx)(scope:Scope)(cap:List Nat)(capN:List Str):Prop where
 kind:scope.kind=.function
 names:∀x∈scope.names,x.2=.local->scope.names.lookup x.1=some .local
 nocell:∀y∈scope.names,y.2≠.cell
 frees:(scope.names.all fun y=>!(y.2==NameKind.free) ||(X.env.kindOf y.1==some .cell ||X.env.kindOf y.1==some .free))=true
 cap:CapOk X scope cap capN
section
variable{X:Cx}{scope:Scope}{cap:List Nat}{capN:List Str}
theorem CompOk.around(O:CompOk X scope cap capN){y:Str×NameKind}(hy:y∈scope.names)(hf:y.2=.free):X.env.kindOf y.1=some .cell\/X.env.kindOf y.1=some .free:=by have q:=ZC.mp O.frees y hy;rw[hf]at q;simpa using q
theorem CompOk.cells(O:CompOk X scope cap capN)(ok:X.Ok):∀y∈scope.names,y.2=.free->∃c,X.env.cells.lookup y.1=some c:=fun y hy hf=>ok.has _ (O.around hy hf)
theorem CompOk.clos(O:CompOk X scope cap capN)(ok:X.Ok):closureFor scope X.env=pure (bX X.env scope.names []):=BX (O.cells ok)
theorem CompOk.sub(O:CompOk X scope cap capN)(ok:X.Ok):∀x c,(bX X.env scope.names []).lookup x=some c->X.env.cells.lookup x=some c:=mV (O.cells ok) fun x c e=>by simp at e
theorem CompOk.has(_O:CompOk X scope cap capN){x:Str}(h:scope.names.lookup x=some .free):∃c,(bX X.env scope.names []).lookup x=some c:=mT h
end
def bJ(n:Nat)(cap:List Nat)(σ:St):St:=List.replicate n none++cap.map (fun j=>(σ[j]?).join)
theorem vb{n:Nat}{cap:List Nat}{σ:St}:(bJ n cap σ).length=n+cap.length:=by unfold bJ;rw[Zs,List.length_replicate,Za]
theorem lG{n:Nat}{cap:List Nat}{σ:St}{i:Nat}{v:V}(h:(bJ n cap σ)[i]?=some (some v)):n<=i/\∃j,cap[i-n]?=some j/\σ[j]?=some (some v):=by
 unfold bJ at h;by_cases hi:i<n
 ·rw[Yl (by simpa using hi),List.getElem?_replicate]at h;rw[HV hi]at h;cases h
 ·have hi':n<=i:=Nat.le_of_not_lt hi;rw[y0 (by simpa using hi'),List.length_replicate,Zx]at h;refine⟨hi',?_⟩;cases e:cap[i-n]? with
  |none=>rw[e]at h;cases h
  |some j =>
   rw[e]at h;refine⟨j,rfl,?_⟩;have h':(σ[j]?).join=some v:=by simpa using h
   cases q:σ[j]? with
   |none=>rw[q]at h';cases h'
   |some o =>rw[q]at h';have:o=some v:=h';rw[this]
section
variable{X:Cx}{pins:List (Addr×Obj)}{σ:St}{H:Hp}{s:Shared}{scope:Scope}{cap:List Nat}{capN N':List Str}{C:Addr}{ex:List Addr}
theorem xf(I:Inv X pins σ H s)(O:CompOk X scope cap capN)(hC:s.heap.objs.size<=C)(hex:∀b∈ex,bH X pins H b/\b<s.heap.objs.size):(aQ X scope N' C s H ex).Ok where
 mod:=I.ok.mod
 kind:=O.kind
 glob:=I.ok.glob
 blt:=I.ok.blt
 above:=hC
 inj:=fun x y c h1 h2=>I.ok.inj x y c (O.sub I.ok x c h1) (O.sub I.ok y c h2)
 has:=fun x hx=>by
  have hx':(relabel scope X.env).names.lookup x=some .cell\/(relabel scope X.env).names.lookup x=some .free:=hx;have key:∀k,(relabel scope X.env).names.lookup x=some k->(k=.cell\/k=.free)->scope.names.lookup x=some .free:=fun k e hk=>by
   obtain⟨k',e',q⟩:=iA (env:=X.env) e;rcases q with q|⟨q,_⟩
   ·subst q;rcases hk with z|z
    ·subst z;exact absurd rfl (O.nocell _ (Yr e'))
    ·subst z;exact e'
   ·subst q;exact e'
  rcases hx' with e|e
  ·exact O.has (key _ e (.inl rfl))
  ·exact O.has (key _ e (.inr rfl))
 cab:=fun x c h _=>by cases h
 hd:=I.ok.hd
 frames:=I.ok.frames
 stk:=.inl rfl
 exf:=fun b hb=>by obtain⟨⟨f0,f1,f2,f3,f4,f5⟩,lt⟩:=hex b hb;exact⟨Zn (Zo lt hC),fun x c e=>f4 x c (O.sub I.ok x c e)⟩
 bs:=I.bs
 bsz:=Zy I.ok.bsz I.sz
 noex:=fun b o e hb=>by
  obtain⟨⟨f0,f1,f2,f3,f4,f5⟩,lt⟩:=hex b hb;rcases f3 with z|z
  ·exact I.ok.noex b o e z
  ·exact absurd (Zo (Zi e) (Zy I.ok.bsz z)) (Yh _)
 exfs:=fun b hb z=>by
  obtain⟨⟨f0,f1,f2,f3,f4,f5⟩,lt⟩:=hex b hb;rcases Zj.mp (I.stkSub b z)with e|e
  ·exact f1 e
  ·exact f2 e
 funs:=I.stack
 frf:=I.stkFree
theorem yb(I:Inv X pins σ H s){b:Addr}(hb:s.heap.objs.size<=b):b∉frs X.stack:=fun z=>by
 rcases Zj.mp (I.stkSub b z)with e|e
 ·exact absurd (Zo I.lt hb) (by rw[e];exact Yh _)
 ·exact I.nofs hb e
theorem Aq(I:Inv X pins σ H s){b:Addr}(hb:s.heap.objs.size<=b):∀x c,X.env.cells.lookup x=some c->c≠b:=fun x c e z=>by obtain⟨v,q⟩:=I.cell x c e;exact absurd (Zo q.lt (by rw[z];exact hb)) (Yh _)
theorem vd{n:Nat}{h1:Heap}{m1:Str->Option Value}{tk:Nat}(I:Inv X pins σ H s)(O:CompOk X scope cap capN)(hN:N'.length=n+capN.length)(hN2:∀i x,n<=i->N'[i]?=some x->capN[i-n]?=some x)(hC:s.heap.objs.size<=C)(hex:∀b∈ex,bH X pins H b/\b<s.heap.objs.size)(hk:∀b o,s.heap.get? b=some o->h1.get? b=some o)(hn:h1.Ns C m1):Inv (aQ X scope N' C s H ex) [] (bJ n cap σ) H { s with heap:=h1,toks:=tk }:=by
 refine⟨xf I O hC hex,rfl,I.bare,Un.kept hk,⟨m1,hn,fun i x v e1 e2 e3=>?_⟩,fun x c e=>?_,I.hok.fresh hC,fun x c e=>I.freeC x c (O.sub I.ok x c e),fun p hp=>absurd (show p∈([]:List (Addr×Obj))from hp) (by simp),I.hok.kept hk,?_⟩
 ·obtain⟨hi,j,ej,es⟩:=lG e2;obtain⟨j',q1,q2,qf⟩:=O.cap.get (hN2 i x hi e1);have q3:=O.around (Yr qf) rfl;have q4:=jy (env:=X.env) qf;obtain⟨c,q5⟩:=O.has qf;have q6:=O.sub I.ok x c q5;rw[q1]at ej;cases ej;obtain⟨m0,hn0,hl0⟩:=I.loc;obtain⟨u,r,l⟩:=hl0 _ x v q2 es (by
   rcases q3 with z|z
   ·exact .inr (.inl z)
   ·exact .inr (.inr z))
  refine⟨u,r,.inr ⟨q4,c,q5,?_⟩⟩;rcases l with⟨k,_⟩|⟨_,c',e',z⟩
  ·rcases q3 with z|z
   ·have z':X.env.kindOf x=some .cell:=z;rw[z']at k;cases k
   ·have z':X.env.kindOf x=some .free:=z;rw[z']at k;cases k
  ·rw[q6]at e';cases e';obtain⟨o,ho,hd⟩:=z;exact⟨o,hk _ _ ho,hd⟩
 ·obtain⟨v,o,ho,hd⟩:=I.cell x c (O.sub I.ok x c e);exact⟨v,o,hk _ _ ho,hd⟩
 ·rw[vb,O.cap.len];exact hN.symm
end
def mP(X:Cx)(ifs:List Expr)(t:TT):Prop :=
 ∀(pins:List (Addr×Obj)) (s:Shared) (σ:St) (H:Hp) (Q:Bool->Hp->Prop),Inv X pins σ H s->t σ H Q ->
  wpAny (model X.prog X.w) X.A (forIn ifs true fun c r=>if r=true then do let ok ←isTrue c X.env (eval c X.env);pure (ForInStep.yield ok)else pure (ForInStep.yield r)) (TP X pins σ Q) X.xe s
def fN:TT:=fun _ H Q=>Q true H
theorem AI{X:Cx}:mP X [] fN:=fun _ _ _ H _ I h=>wpAny_tests_nil ⟨H,I,h⟩
theorem AJ{X:Cx}{c:Expr}{t:TT}(h:PT X c t):mP X [c] t:=fun pins s σ H Q I hw=>wpAny_tests_one (h pins s σ H Q I hw)
def GK(n:Nat)(g:TG):Prop:=∀x σ H Q,g x σ H Q->g x σ H (fun σ2 H2=>(σ2.length=σ.length/\∀i,n<=i->σ2[i]?=σ[i]?)/\Q σ2 H2)
theorem bN{n i:Nat}(hi:i<n):GK n (bz i):=fun x σ H Q h=>⟨⟨YN,fun j hj=>List.getElem?_set_ne (by omega)⟩,h⟩
def GKs(n:Nat)(g:TGs):Prop:=∀xs σ H Q,g xs σ H Q->g xs σ H (fun σ2 H2=>(σ2.length=σ.length/\∀i,n<=i->σ2[i]?=σ[i]?)/\Q σ2 H2)
theorem tZ{n:Nat}:GKs n jh:=fun xs σ H Q h=>⟨h.1,⟨rfl,fun _ _=>rfl⟩,h.2⟩
def GM(g:TG):Prop:=∀x σ H Q Q',(∀σ2 H2,Q σ2 H2->Q' σ2 H2)->g x σ H Q->g x σ H Q'
def GMs(g:TGs):Prop:=∀xs σ H Q Q',(∀σ2 H2,Q σ2 H2->Q' σ2 H2)->g xs σ H Q->g xs σ H Q'
theorem fQ{i:Nat}:GM (bz i):=fun _ _ _ _ _ f h=>f _ _ h
theorem jS:GMs jh:=fun _ _ _ _ _ f h=>⟨h.1,f _ _ h.2⟩
theorem qV{t:TG}{u:TGs}(a:GM t)(b:GMs u):GMs (dJ t u):=fun xs σ H Q Q' f h=>by obtain⟨v,r,e,h⟩:=h;exact⟨v,r,e,a _ _ _ _ _ (fun σ2 H2 z=>b _ _ _ _ _ f z) h⟩
theorem iI{n:Nat}{t:TG}{u:TGs}(a:GK n t)(m:GM t)(b:GKs n u)(mb:GMs u):GKs n (dJ t u):=fun xs σ H Q h=>by obtain⟨v,r,e,h⟩:=h;refine⟨v,r,e,m _ _ _ _ _ (fun σ2 H2 z=>?_) (a _ _ _ _ h)⟩;obtain⟨⟨l1,k1⟩,z⟩:=z;refine mb _ _ _ _ _ (fun σ3 H3 w=>?_) (b _ _ _ _ z);obtain⟨⟨l2,k2⟩,w⟩:=w;exact⟨⟨l2.trans l1,fun i hi=>(k2 i hi).trans (k1 i hi)⟩,w⟩
theorem xG{n m:Nat}{K:PySem.W.Frag}{t:TGs}(a:GKs n t):GK n (ji K m t):=fun x σ H Q h=>by obtain⟨b,xs,e,h1,h2,h3⟩:=h;exact⟨b,xs,e,h1,h2,a _ _ _ _ h3⟩
def cY(n:Nat)(cap:List Nat)(g:TG)(tc:TT)(te:TE)(σ:St)(J:It)(H1:Hp)(Q:VK):Prop :=
 ∃W:Nat->Nat->List V->Hp->Prop,(∃m,W 0 m [] H1)/\∀i m ys H,W i m ys H ->
  (J.stop i H/\∀p,H p=none->Q (.ref p) (upd H p (.lst ys))) \/
  (J.go i H/\ys.length<sizeLine/\∀ x H',J.yld i H x H'->g x (bJ n cap σ) H' fun σ2 H2=>tc σ2 H2 fun b H3 =>
   if b=true then te σ2 H3 fun y H4=>∃ m',m'<m/\W (i+1) m' (ys++[y]) H4 else ∃ m',m'<m/\W (i+1) m' ys H3)
def qu(n:Nat)(cap:List Nat)(wi:TI)(g:TG)(tc:TT)(te:TE):TE:=fun σ H Q=>wi σ H fun J H1=>cY n cap g tc te σ J H1 Q
theorem iD{prog:Program}{w:World}{A:Around}{R:Result->Shared->Prop}{s:Shared}{elt target iter:Expr}{ifs:List Expr}{scope:Scope}{pos:Pos}{it acc:Value}{env:Env}(I:Nat->Shared->Prop)(turn:∀ n s,I n s->wpAny (model prog w) A (pyNext it) (fun r s₁=>match r with
   |none=>R (.ok .next) s₁
   | some v=>wpAny (model prog w) A (letOwnedTupleGo target it v) (fun _ s₁'=>wpAny (model prog w) A (assign target env v) (fun _ s₂ =>
     wpAny (model prog w) A (forIn ifs true fun c r=>if r=true then do let ok ←isTrue c env (eval c env);pure (ForInStep.yield ok) else pure (ForInStep.yield r)) (fun ok s₃ =>
      if ok=true then wpAny (model prog w) A (eval elt env) (fun x s₄ =>
       wpAny (model prog w) A (call (.builtin "list.append") [acc,x]) (fun _ s₅=>∃ m,m<n/\I m s₅) (fun _ _=>False) s₄) (fun _ _=>False) s₃
      else ∃ m,m<n/\I m s₃) (fun _ _=>False) s₂) (fun _ _=>False) s₁') (fun _ _=>False) s₁) (fun _ _=>False) s)(n:Nat)(h:I n s) :
  codeAny (model prog w) A (.compLoop (.ListComp elt [⟨target,iter,ifs,0⟩] scope pos) 0 it acc env) R s:=by
 refine codeAny_loop rfl I (fun n s hI=>?_) n h;show wpAny _ A ((compTurn (.ListComp elt [⟨target,iter,ifs,0⟩] scope pos) 0 it acc env).onRaise (fun x=>do noteFrame x env;theTreesLotGoes x)) _ _ s;refine wpAny_noted (wpAny_noRaise ?_);rw[compTurn_list];refine z0 (wpAny_standAt (z0 (ZK (turn n s hI) (fun r s₁ h₁=>?_) fun _ _ h'=>h')));cases r with
 |none=>exact z9 h₁
 |some v =>
  refine z0 (ZK h₁ (fun _ s₁' h₁'=>?_) fun _ _ h'=>h');refine z0 (ZK h₁' (fun _ s₂ h₂=>z0 (ZK h₂ (fun ok s₃ h₃=>?_) fun _ _ h'=>h')) fun _ _ h'=>h');cases ok with
  |false=>exact z9 ⟨rfl,h₃⟩
  |true =>exact z0 (z0 (ZK h₃ (fun x s₄ h₄=>z0 (ZK h₄ (fun _ s₅ h₅=>z9 (z9 ⟨rfl,h₅⟩)) fun _ _ h'=>h')) fun _ _ h'=>h'))
theorem Cq{own capN:List Str}:∀(i:Nat) (x:Str),own.length<=i->(own++capN)[i]?=some x->capN[i-own.length]?=some x:=fun i x hi e=>by rw[y0 hi]at e;exact e
section
variable{X:Cx}{pins:List (Addr×Obj)}{σ:St}{H2:Hp}{s2:Shared}{scope:Scope}{cap:List Nat}{capN own:List Str}
variable{elt tg iter:Expr}{ifs:List Expr}{pos:Pos}{g:TG}{tc:TT}{te:TE}{Q:VK}
abbrev fg(its:List Value)(nn:Nat):Obj:={ cls:=.type "list",data:=.seq its.toArray nn }
theorem oN{J:It}{fp:List Addr}{it:Addr}{tn:Nat->Heap->Prop}{E:Value->Shared->Prop}{RR:Value->Addr->Result->Shared->Prop}(O:CompOk X scope cap capN)(hc:X.calm=true)(hg:∀C s0 H0 ex,PG (aQ X scope (own++capN) C s0 H0 ex) tg g)(gk:GK own.length g)(ht:∀C s0 H0 ex,mP (aQ X scope (own++capN) C s0 H0 ex) ifs tc)(he:∀C s0 H0 ex,PE (aQ X scope (own++capN) C s0 H0 ex) elt te)(I2:Inv X pins σ H2 s2)(T:Turn X.prog X.w X.K tg J fp it tn)(st2:tn 0 s2.heap)(f2:∀b∈fp,bH X pins H2 b)(hq:cY own.length cap g tc te σ J H2 Q)(fin:∀(D C:Addr) (s4:Shared) (H4:Hp) (ys:List V),Inv X pins σ (upd H4 D (.lst ys)) s4->(∃m,s4.heap.Ns C m)->bH X pins (upd H4 D (.lst ys)) C->Q (.ref D) (upd H4 D (.lst ys))->RR (.ref D) C (.ok .next) s4) :
  wpAny (model X.prog X.w) X.A (newList []) (fun acc s₃=>wpAny (model X.prog X.w) X.A (newFunctionEnv scope X.env.globals (bX X.env scope.names []) [] X.env.qual none .none (some X.env)) (fun cenv s₄ =>
   codeAny (model X.prog X.w) X.A (.compStart (.ListComp elt [⟨tg,iter,ifs,0⟩] scope pos) 0 (.ref it) acc { cenv with scope:=relabel scope X.env }) (RR acc cenv.locals) s₄) E s₃) E s2:=by
 obtain⟨W,⟨m0,w0⟩,turn⟩:=hq;refine ZB (wpAny_newFunctionEnv O.nocell (by intro y hy;simp at hy) (fun h₁ hns₁ hsb₁=>?_) O.kind);dsimp only at hns₁ hsb₁ ⊢;generalize hHp:s2.heap.push { cls:=.type "list",dict:=none,data:=.seq ([]:List Value).toArray }=Hp2 at hns₁ hsb₁ ⊢;have hC:Hp2.objs.size=s2.heap.objs.size+1:=by rw[<-hHp,Yx]
 have hDC:s2.heap.objs.size≠Hp2.objs.size:=by rw[hC];exact Zn (Nat.lt_succ_self _)
 have hCle:s2.heap.objs.size<=Hp2.objs.size:=by rw[hC];exact Nat.le_succ _
 have below:∀b,b<s2.heap.objs.size->b≠Hp2.objs.size/\b≠s2.heap.objs.size:=fun b hb=>⟨by rw[hC];exact Zn (YQ hb),Zn hb⟩
 have old:∀b o,s2.heap.get? b=some o->h₁.get? b=some o:=fun b o e=>hsb₁.extBut b o (below b (Zi e)).1 (z6 _ (hHp▸z6 _ e));have hacc:h₁.get? s2.heap.objs.size=some (fg [] 0):=hsb₁.extBut _ _ hDC (z6 _ (hHp▸Zg _ rfl));generalize hDe:s2.heap.objs.size=D at *;generalize hCe:Hp2.objs.size=C at *;have hfpl:∀b∈fp,b<s2.heap.objs.size:=fun b hb=>by obtain⟨o,e,_⟩:=T.obj _ _ st2 b hb;exact Zi e
 have hex:∀b∈fp,bH X pins H2 b/\b<s2.heap.objs.size:=fun b hb=>⟨f2 b hb,hfpl b hb⟩
 have hCle':s2.heap.objs.size<=C:=by rw[hDe];exact hCle
 have hDle:s2.heap.objs.size<=D:=by rw[hDe];exact Zb _
 have hDfp:∀b∈fp,D≠b:=fun b hb z=>by have:=hfpl b hb;rw[<-z]at this;exact absurd this (Nat.not_lt.mpr hDle)
 have I0:∀tk,Inv (aQ X scope (own++capN) C s2 H2 fp) [] (bJ own.length cap σ) H2 { s2 with heap:=h₁,toks:=tk }:=fun tk=>vd I2 O (by simp) Cq hCle' hex old hns₁;have Dst:D∉frs X.stack:=yb I2 hDle;have Dcell:∀x c,(aQ X scope (own++capN) C s2 H2 fp).env.cells.lookup x=some c->c≠D:=fun x c e=>Aq I2 hDle x c (O.sub I2.ok x c e);have pinD:∀{σ':St} {H':Hp} {s':Shared} {its:List Value} {nn:Nat},Inv (aQ X scope (own++capN) C s2 H2 fp) [] σ' H' s'->s'.heap.get? D=some (fg its nn)->H' D=none->Inv (aQ X scope (own++capN) C s2 H2 fp) [(D,fg its nn)] σ' H' s':=fun{σ' H' s' its nn} I e hn =>
  I.pins_of fun p hp=>by
   have z:p=(D,fg its nn):=by simpa using hp
   subst z;exact⟨e,hn,hDC,Dst,fun v q=>by cases q⟩
 have loop:∀s₃:Shared,s₃={ s2 with heap:=h₁,toks:=s2.toks+([]:List (Str×Value)).length } ->
   codeAny (model X.prog X.w) X.A (.compLoop (.ListComp elt [⟨tg,iter,ifs,0⟩] scope pos) 0 (.ref it) (.ref D) (compEnvC scope (bX X.env scope.names []) C X.env)) (RR (.ref D) C) s₃:=by
  rintro s₃ rfl;refine iD (fun k s'=>∃(i:Nat) (ys:List V) (its:List Value) (nn:Nat) (H':Hp),Inv (aQ X scope (own++capN) C s2 H2 fp) [(D,fg its nn)] (bJ own.length cap σ) H' s'/\tn i s'.heap/\(∀b∈fp,H' b=none)/\Vals ys its/\ys.length<=sizeLine/\W i k ys H') ?_ m0
   ⟨0,[],[],0,H2,pinD (I0 _) hacc (I2.hok.fresh hDle),T.keep _ _ _ st2 (fun b hb o e=>old b o e),fun b hb=>(f2 b hb).1,.nil,ZV _,w0⟩
  rintro k s3 ⟨i,ys,its,nn,H3,I3,st3,fr3,rv,hz,w3⟩;have oD3:s3.heap.get? D=some (fg its nn):=(I3.pin (D,fg its nn) (by simp)).1;have fpY:∀{H':Hp},(∀b∈fp,H' b=none)->∀b∈fp,bH (aQ X scope (own++capN) C s2 H2 fp) [(D,fg its nn)] H' b:=fun{H'} hn b hb=>by
   obtain⟨f0,f1,g2,f3,f4,f5⟩:=f2 b hb;refine⟨hn b hb,Zn (Zo (hfpl b hb) hCle'),fun z=>?_,.inl hb,fun x c e=>f4 x c (O.sub I2.ok x c e),fun p hp=>?_⟩
   ·rcases Zj.mp (I2.stkSub b z)with e|e
    ·exact f1 e
    ·exact g2 e
   ·have z:p=(D,fg its nn):=by simpa[aQ]using hp
    subst z;exact hDfp b hb
  rcases turn i k ys H3 w3 with⟨stop,qn⟩|⟨go,hlt,step⟩
  ·refine thn (T.done (aQ X scope (own++capN) C s2 H2 fp) rfl rfl rfl hc i _ s3 _ H3 _ I3 (fpY fr3) st3 stop) fun r s4 ⟨hr,I4⟩=>?_;subst hr;obtain⟨oD,nD,_⟩:=I4.pin (D,fg its nn) (by simp);have neD:∀{b:Addr} {u:HO},H3 b=some u->b≠D:=fun{b u} e=>am e nD;have JX:Inv X pins σ (upd H3 D (.lst ys)) s4:=by
    refine I2.call' (ch:=fp) I4.os ⟨I4.base.keep,I4.base.slot,fun b o e nb hx=>?_,I4.base.there,fun b xs e=>?_,fun b o u e=>?_,fun b ps e=>?_⟩ (fun b u e=>?_) I4.bare (fun b hb=>?_)
    ·rw[af (by rw[<-hDe];exact Zn (Zi e))];exact I4.base.free b o e nb hx
    ·have q:=I4.base.tups b xs e;rw[af (neD q)];exact q
    ·have q:=I4.base.frzs b o u e;rw[af (neD q)];exact q
    ·obtain⟨more,q⟩:=I4.base.tbls b ps e;exact⟨more,by rw[af (neD q)];exact q⟩
    ·by_cases hb:b=D
     ·subst hb;rw[ad]at e;cases e;exact⟨hz,its,nn,rv,oD⟩
     ·rw[af hb]at e;exact(I4.hok b u e).stay (fun _ _ _ q=>q) (fun c q=>by rw[af (neD q)];exact q) fun c xs q=>by rw[af (neD q)];exact q
    ·obtain⟨f0,f1,g2,f3,f4,f5⟩:=f2 b hb;exact⟨f3,f1,f4,f5⟩
   obtain⟨m4,hn4,_⟩:=I4.loc;refine fin D C s4 H3 ys JX ⟨m4,hn4⟩ ?_ (qn D nD);refine I2.fpOk (b:=C) hCle' ?_;rw[af (Z9 hDC)];exact I4.free
  ·refine thn (T.item (aQ X scope (own++capN) C s2 H2 fp) rfl rfl rfl hc i _ s3 _ H3 _ I3 (fpY fr3) st3 go) fun r s4 ⟨u,hr,h4⟩=>?_;subst hr;refine thn h4 fun _ s5 hz9=>?_;obtain⟨x,H5,I5,r5,y5,st5,fr5⟩:=hz9;have I5':=I5.pinned (fpY fr5) (T.obj _ _ st5);refine thn (hg C s2 H2 fp _ s5 _ H5 x u _ I5' r5 (gk _ _ _ _ (step x H5 y5))) fun _ s6 hz9=>?_;obtain⟨σ6,H6,I6,⟨l6,k6⟩,q6⟩:=hz9;refine thn (ht C s2 H2 fp _ s6 σ6 H6 _ I6 q6) fun ok s7 ⟨H7,I7,q7⟩=>?_;have wk:∀{H8:Hp} {s8:Shared} {pl:List (Addr×Obj)},Inv (aQ X scope (own++capN) C s2 H2 fp) pl σ6 H8 s8->Inv (aQ X scope (own++capN) C s2 H2 fp) pl (bJ own.length cap σ) H8 s8:=fun I=>I.weak l6.symm fun j v e=>by obtain⟨hj,_⟩:=lG e;rw[k6 j hj];exact e
   have tn8:∀{σ8:St} {H8:Hp} {s8:Shared},Inv (aQ X scope (own++capN) C s2 H2 fp) ([(D,fg its nn)]++ju fp s5.heap) σ8 H8 s8->(∀b∈fp,∀o,s5.heap.get? b=some o->s8.heap.get? b=some o)/\∀b∈fp,H8 b=none:=fun{σ8 H8 s8} I=>by refine⟨fun b hb o e=>(I.pin (b,o) (Zq _ (Zq _ (fJ hb e)))).1,fun b hb=>?_⟩;obtain⟨o,e,d⟩:=T.obj _ _ st5 b hb;exact(I.pin (b,o) (Zq _ (Zq _ (fJ hb e)))).2.1
   cases ok with
   |false =>rw[HU Zh]at q7 ⊢;obtain⟨m',hm,w7⟩:=q7;obtain⟨t1,t2⟩:=tn8 I7;exact⟨m',hm,i+1,ys,its,nn,H7,wk I7.unpinned,T.keep _ _ _ st5 t1,t2,rv,hz,w7⟩
   |true =>
    rw[HV rfl]at q7 ⊢;refine thn (he C s2 H2 fp _ s7 σ6 H7 _ I7 q7) fun y s8 hz9=>?_;obtain⟨yv,H8,I8,r8,m',hm,w8⟩:=hz9;obtain⟨t1,t2⟩:=tn8 I8;obtain⟨oD,nD,_⟩:=I8.pin (D,fg its nn) (by simp);have hil:=rv.length;refine call_meets F.slot_list_append ⟨_,oD,rfl⟩ F.entry_list_append (F.args_list_append_2 _ _) (PySem.list_append D its.toArray nn y (by rw[Ze];omega)) ⟨oD,?_⟩;have q:=PySem.IsL.update oD (fun x_1=>x_1.push y);have hf:its.toArray.push y=(its++[y]).toArray:=by simp
    rw[hf]at q;have keepO:∀b o,b≠D->s8.heap.get? b=some o->(s8.heap.update D (Obj.mapSeq fun x_1=>x_1.push y)).get? b=some o:=fun b o hb e=>(ZR s8.heap (Obj.mapSeq fun x_1=>x_1.push y) (Z9 hb)).trans e;have I9:Inv (aQ X scope (own++capN) C s2 H2 fp) [] σ6 H8 { s8 with heap:=s8.heap.update D (Obj.mapSeq fun x_1=>x_1.push y),toks:=s8.toks } :=
     (I8.pins_of (pins':=[]) fun p hp=>absurd hp (by simp)).turned (it:=D) keepO nD hDC (.inr hDle) Dcell (fun p hp=>absurd (show p∈([]:List (Addr×Obj))from hp) (by simp))
    refine⟨m',hm,i+1,ys++[yv],its++[y],_,H8,wk (pinD I9 q nD),T.keep _ _ _ st5 (fun b hb o e=>keepO b o (Z9 (hDfp b hb)) (t1 b hb o e)),t2,rv.append (.cons r8 .nil),?_,w8⟩;rw[Zs,ZE];omega
 exact codeAny_compStart_list (loop _ rfl) (T.self _ 0 _ _ _ (T.keep _ _ _ st2 (fun b hb o e=>old b o e)) (loop _ rfl))
theorem Cv{wi:TI}(O:CompOk X scope cap capN)(hc:X.calm=true)(hi:PI X tg iter wi)(hg:∀C s0 H0 ex,PG (aQ X scope (own++capN) C s0 H0 ex) tg g)(gk:GK own.length g)(ht:∀C s0 H0 ex,mP (aQ X scope (own++capN) C s0 H0 ex) ifs tc)(he:∀C s0 H0 ex,PE (aQ X scope (own++capN) C s0 H0 ex) elt te)(hs:∀x,foldedSetIterable iter X.env x=pure x:=by intro _;rfl):PE X (.ListComp elt [⟨tg,iter,ifs,0⟩] scope pos) (qu own.length cap wi g tc te):=by intro pins s σ H Q I h;rw[eval_ListComp];refine wpAny_comprehension_free (use:=none) rfl hs (O.clos I.ok) O.kind O.names (thn (hi pins s σ H _ I h) fun v s1 h1=>thn h1 fun itv s2 h2=>?_);obtain⟨it,fp,tn,J,H2,e,I2,T,st2,f2,hq⟩:=h2;subst e;refine oN (RR:=fun acc C=>compPost (model X.prog X.w) X.A X.xe none (EP X pins σ Q) acc C) O hc hg gk ht he I2 T st2 f2 hq fun D C s4 H4 ys J4 hn4 fC q4=>?_;obtain⟨m,hn⟩:=hn4;obtain⟨f0,f1,g2,f3,f4,f5⟩:=fC;exact⟨m,hn,fun h' sb=>⟨.ref D,_,J4.turned (t':=s4.toks) (fun b o hb e=>(sb.2 b hb).trans e) f0 f1 f3 f4 f5,rfl,q4⟩⟩
theorem CK{wi:TI}{j:Nat}{y:Str}{py spos:Pos}(hN0:X.N.Nodup)(hj:X.N[j]?=some y)(hy:Loc X.env.scope y)(O:CompOk X scope cap capN)(hc:X.calm=true)(hi:PI X tg iter wi)(hg:∀C s0 H0 ex,PG (aQ X scope (own++capN) C s0 H0 ex) tg g)(gk:GK own.length g)(ht:∀C s0 H0 ex,mP (aQ X scope (own++capN) C s0 H0 ex) ifs tc)(he:∀C s0 H0 ex,PE (aQ X scope (own++capN) C s0 H0 ex) elt te)(hsw:swapsWith (.ListComp elt [⟨tg,iter,ifs,0⟩] scope pos) (some (.Name y py)) spos.line X.env=pure true:=by rfl)(hs:∀x,foldedSetIterable iter X.env x=pure x:=by intro _;rfl)(hf:X.fn y=true\/X.env.scope.names.lookup y=some .local:=by first|exact .inl rfl|exact .inr rfl|assumption) :
  PS X (.Assign [.Name y py] (.ListComp elt [⟨tg,iter,ifs,0⟩] scope pos) spos) (oq (qu own.length cap wi g tc te) (bz j)):=by
 intro pins s σ H D0 I h;rw[exec_Assign_Name_used _ _ _ _ hsw];refine z0 (wpAny_standAt (z0 ?_));show wpAny _ X.A (do let _ ←comprehension (.ListComp elt [⟨tg,iter,ifs,0⟩] scope pos) scope X.env _ (newList []) false (eval iter X.env) (some (assign (.Name y py) X.env))) _ _ s;refine z0 (ZK (wpAny_comprehension_free (use:=some (assign (.Name y py) X.env)) (Q:=fun _ s'=>SP X pins D0 .next s') rfl hs (O.clos I.ok) O.kind O.names (thn (hi pins s σ H _ I h) fun v s1 h1=>thn h1 fun itv s2 h2=>?_)) (fun _ s' hq=>z9 (z9 hq)) fun _ _ e=>e);obtain⟨it,fp,tn,J,H2,e,I2,T,st2,f2,hq⟩:=h2;subst e;refine oN (RR:=fun acc C=>compPost (model X.prog X.w) X.A X.xe (some (assign (.Name y py) X.env)) (fun _ s'=>SP X pins D0 .next s') acc C) O hc hg gk ht he I2 T st2 f2 hq fun D C s4 H4 ys J4 hn4 fC q4=>?_;obtain⟨m,hn⟩:=hn4;obtain⟨f0,f1,g2,f3,f4,f5⟩:=fC;show wpAny _ X.A (assign (.Name y py) X.env (.ref D)) _ _ _;refine wpAny_assign_Name (pq J4 hN0 hj hy (v:=.ref D) rfl (fun s5 I5 ⟨a,sba,ha⟩=>?_) hf);have hCa:C≠a:=by
  rcases ha with z|z
  ·rw[z];exact f1
  ·exact Z9 (f4 _ _ z)
 refine⟨m,hn.sameBut sba hCa,fun h' sb=>?_⟩;exact⟨_,_,I5.turned (t':=s5.toks) (fun b o hb e=>(sb.2 b hb).trans e) f0 f1 f3 f4 f5,q4⟩
end
open PySem PySem.Spec PyProof.Rows
structure Fn(P:Program)(w:World)(K:PySem.W.Frag)(mg:Str->Option Value)(base:Heap)(k:Nat)(x:Str)(ps:List Str)(sp:Sp):Prop where
 ex:∃f fd,FnOk P w K mg base CX0 k f fd ps sp/\mg x=some (.ref f)/\PySem.W.keepIn K (.ref f)=true/\Binds K fd ps []
section
variable{X:Cx}{k:Nat}{x:Str}{p pos:Pos}{e:Expr}{es:List Expr}{ps:List Str}{sp:Sp}{t:TA}
theorem FS(F:Fn X.prog X.w X.K X.mg X.base k x ps sp)(hr:Room k X.A)(ha:PA X (e::es) t)(hg:Gl X x:=by rfl)(hdb:(x==("__debug__":Str))=false:=by decide)(he:starEach (e::es) X.env=(false,eval e X.env)::starEach es X.env:=by rfl)(hpl:(backTo pos (starEach es X.env)).any (·.1)=false:=by rfl) :
  PE X (.Call (.Name x p) (e::es) [] pos) (qr sp [] E0 t):=by
 obtain⟨f,fd,G,m,kp,b⟩:=F.ex;exact Ct G hr hg m kp b .nil ql ha hdb he hpl
end
theorem aJ:bootBuiltins "isinstance" = some (.builtin "isinstance"):=by decide +kernel
theorem qK:bootBuiltins "int" = some (.type "int"):=by decide +kernel
theorem oJ:bootBuiltins "bool" = some (.type "bool"):=by decide +kernel
theorem cc:bootBuiltins "tuple" = some (.type "tuple"):=by decide +kernel
theorem gK:bootBuiltins "list" = some (.type "list"):=by decide +kernel
theorem dR:bootBuiltins "all" = some (.builtin "all"):=by decide +kernel
section
variable{X:Cx}
theorem zL(hc:X.calm=true):dI X (.builtin "all") (fun xs H Q=>∃(p:Addr) (bs:List Bool),xs=[.ref p]/\SqL X.K H p (bs.map V.bl)/\Q (.bl (bs.all id)) H):=by
 intro pins s σ H xs us Q I r h;obtain⟨p,bs,rfl,hq,q⟩:=h;obtain⟨u,rfl,rx⟩:=cj r;cases rx;obtain⟨its,rv,pl,hz⟩:=I.list hq;have hl:=pl.isList;have hlt:p<s.heap.objs.size:=by obtain⟨_,e,_⟩:=hl;exact Zi e
 have hh:=I.ok.hd hc;have hlen:bs.length=its.length:=by rw[<-rv.length,Za]
 refine call_all_walk (wpAny_pyIter_list hl ?_);refine⟨s.heap.objs.size,[s.heap.objs.size,p],[s.heap.objs.size],its.toArray.size,_,_,fun i=>(bs[i]?).getD true,rfl,Walks.list (A:=X.A.in1) hh _ p (Zn hlt) its.toArray,
  ⟨⟨_,Zg _ rfl,rfl,rfl⟩,hl.push _⟩,fun i v s' Q' E' hP hQ=>?_,fun h' tk hk=>?_⟩
 ·have hv:its[i]?=some v:=by simpa using hP
  have hi:i<bs.length:=by rw[hlen];exact(Zv.mp hv).1
  obtain⟨u,hu,ru⟩:=rv.get (i:=i) (x:=.bl bs[i]) (by rw[Zx,Zd hi];rfl);rw[hv]at hu;cases hu;cases ru;have hQ':Q' ((bs[i]?).getD true) s':=hQ;rw[Zd hi]at hQ';exact ZY hQ'
 ·have e:((List.range its.toArray.size).all fun i=>(bs[i]?).getD true)=bs.all id:=by rw[Ze,<-hlen];exact LSm.range_all bs
  rw[e];exact⟨.bl _,H,I.kept (t':=tk) (LSm.kept_iter hk),rfl,q⟩
theorem zO:dI X (.builtin "isinstance") (fun xs H Q=>∃x T t b,xs=[x,.ty T]/\TyOf X.K H x t/\PySem.W.kitOne X.K t (.type T)=some b/\Q (.bl b) H):=by intro pins s σ H xs us Q I r h;obtain⟨x,T,t,b,rfl,ty,e,q⟩:=h;obtain⟨u,w',rfl,rx,ry⟩:=wF r;cases(show w'=Value.type T from ry);exact oX I rx ty e fun tk=>⟨.bl b,H,I.tok tk,rfl,q⟩
end
def isI:V->Bool
 |.int _=>true
 |.bl _=>true
 |_=>false
def isB:V->Bool
 |.bl _=>true
 |_=>false
def eA:V->Bool
 |.int _=>true
 |_=>false
def vq:Option HO->Bool
 |some (.tup _)=>true
 |_=>false
def isT(H:Hp):V->Bool
 |.ref a=>vq (H a)
 |_=>false
theorem bK{H:Hp}{a:Addr}{o:HO}{b:Bool}(e:H a=some o)(h:vq (some o)=b):isT H (.ref a)=b:=by show vq (H a)=b;rw[e];exact h
theorem bC{K:PySem.W.Frag}{t T:String}{b:Bool}(h1:(Value.type t==Value.type T)=b)(h2:b=false->PySem.W.kitMeta T=true/\(PySem.fastBuiltinMro t).map (·.contains (Value.type T))=some false):PySem.W.kitOne K (.type t) (.type T)=some b:=by
 unfold PySem.W.kitOne;rw[h1];cases b with
 |true=>exact HV rfl
 |false =>rw[HU Zh];obtain⟨m,q⟩:=h2 rfl;show(if PySem.W.kitMeta T=true then PySem.W.subIn K (.type t) (.type T)else none)=_;rw[HV m];exact q
theorem aF{K:PySem.W.Frag}{t T:String}{b:Bool}(h1:(Value.type t==Value.type T)=false)(h2:PySem.W.kitMeta T=true)(h3:(PySem.fastBuiltinMro t).map (·.contains (Value.type T))=some b):PySem.W.kitOne K (.type t) (.type T)=some b:=by unfold PySem.W.kitOne;rw[h1,HU Zh];show(if PySem.W.kitMeta T=true then PySem.W.subIn K (.type t) (.type T)else none)=_;rw[HV h2];exact h3
theorem B6{K:PySem.W.Frag}{H:Hp}{v:V}{n:String}(h:TyOf K H v (.type n)):PySem.W.kitOne K (.type n) (.type "int")=some (isI v):=by
 cases h with
 |non=>exact aF (b:=false) (by decide +kernel) (by decide +kernel) (by decide +kernel)
 |bl x=>exact aF (b:=true) (by decide +kernel) (by decide +kernel) (by decide +kernel)
 |int i=>exact bC (b:=true) (by decide +kernel) (fun z=>nomatch z)
 |str x=>exact aF (b:=false) (by decide +kernel) (by decide +kernel) (by decide +kernel)
 |flt x=>exact aF (b:=false) (by decide +kernel) (by decide +kernel) (by decide +kernel)
 |lst e=>exact aF (b:=false) (by decide +kernel) (by decide +kernel) (by decide +kernel)
 |frz e=>exact aF (b:=false) (by decide +kernel) (by decide +kernel) (by decide +kernel)
 |tup e=>exact aF (b:=false) (by decide +kernel) (by decide +kernel) (by decide +kernel)
 |dK e=>exact aF (b:=false) (by decide +kernel) (by decide +kernel) (by decide +kernel)
 |dT e=>exact aF (b:=false) (by decide +kernel) (by decide +kernel) (by decide +kernel)
theorem rg{K:PySem.W.Frag}{H:Hp}{v:V}{n:String}(h:TyOf K H v (.type n)):PySem.W.kitOne K (.type n) (.type "bool")=some (isB v):=by
 cases h with
 |non=>exact aF (b:=false) (by decide +kernel) (by decide +kernel) (by decide +kernel)
 |bl x=>exact bC (b:=true) (by decide +kernel) (fun z=>nomatch z)
 |int i=>exact aF (b:=false) (by decide +kernel) (by decide +kernel) (by decide +kernel)
 |str x=>exact aF (b:=false) (by decide +kernel) (by decide +kernel) (by decide +kernel)
 |flt x=>exact aF (b:=false) (by decide +kernel) (by decide +kernel) (by decide +kernel)
 |lst e=>exact aF (b:=false) (by decide +kernel) (by decide +kernel) (by decide +kernel)
 |frz e=>exact aF (b:=false) (by decide +kernel) (by decide +kernel) (by decide +kernel)
 |tup e=>exact aF (b:=false) (by decide +kernel) (by decide +kernel) (by decide +kernel)
 |dK e=>exact aF (b:=false) (by decide +kernel) (by decide +kernel) (by decide +kernel)
 |dT e=>exact aF (b:=false) (by decide +kernel) (by decide +kernel) (by decide +kernel)
theorem fR{K:PySem.W.Frag}{H:Hp}{v:V}{n:String}(h:TyOf K H v (.type n)):PySem.W.kitOne K (.type n) (.type "tuple")=some (isT H v):=by
 cases h with
 |non=>exact aF (b:=false) (by decide +kernel) (by decide +kernel) (by decide +kernel)
 |bl x=>exact aF (b:=false) (by decide +kernel) (by decide +kernel) (by decide +kernel)
 |int i=>exact aF (b:=false) (by decide +kernel) (by decide +kernel) (by decide +kernel)
 |str x=>exact aF (b:=false) (by decide +kernel) (by decide +kernel) (by decide +kernel)
 |flt x=>exact aF (b:=false) (by decide +kernel) (by decide +kernel) (by decide +kernel)
 |lst e =>rw[bK e (b:=false) rfl];exact aF (b:=false) (by decide +kernel) (by decide +kernel) (by decide +kernel)
 |frz e =>rw[bK e (b:=false) rfl];exact aF (b:=false) (by decide +kernel) (by decide +kernel) (by decide +kernel)
 |tup e =>rw[bK e (b:=true) rfl];exact bC (b:=true) (by decide +kernel) (fun z=>nomatch z)
 |dK e =>rw[bK e (b:=false) rfl];exact aF (b:=false) (by decide +kernel) (by decide +kernel) (by decide +kernel)
 |dT e =>rw[bK e (b:=false) rfl];exact aF (b:=false) (by decide +kernel) (by decide +kernel) (by decide +kernel)
theorem ah{H:Hp}{p:Addr}(h:H p=none)(o:HO):Same H (upd H p o):=fun b u q=>by rw[af (am q h)];exact q
theorem dN{K:PySem.W.Frag}{H H':Hp}{a:Addr}{xs:List V}(e:Same H H')(h:SqT K H a xs):SqT K H' a xs:=by
 rcases h with(h|⟨o,h⟩)|h
 ·exact .inl (.inl (e _ _ h))
 ·exact .inl (.inr ⟨o,e _ _ h⟩)
 ·exact .inr h
theorem cP{K:PySem.W.Frag}{H H':Hp}{v:V}{n:Value}(e:Same H H')(h:TyOf K H v n):TyOf K H' v n:=by
 cases h with
 |non=>exact .non
 |bl x=>exact .bl x
 |int i=>exact .int i
 |str x=>exact .str x
 |flt x=>exact .flt x
 |lst q=>exact .lst (e _ _ q)
 |frz q=>exact .frz (e _ _ q)
 |tup q=>exact .tup (e _ _ q)
 |dK q=>exact .dK (e _ _ q)
 |dT q=>exact .dT (e _ _ q)
 |ins q cl ha hn htk hm=>exact .ins (e _ _ q) cl ha hn htk hm
theorem dH{n:Nat}(h:n<=1000):n<=sizeLine:=Nat.le_of_lt (gQ h)
theorem sz{n:Nat}(h:Nat.ble n 1000=true):n<=sizeLine:=dH (Nat.le_of_ble_eq_true h)
theorem gL{J:It}{N n:Nat}{cap:List Nat}{te:TE}{σ:St}{H0:Hp}{Q:VK}(x0 f:Nat->V)(hz:N<=1000)(hgo:∀i H,i<N->Same H0 H->J.go i H)(hst:∀H,Same H0 H->J.stop N H)(hy:∀i H x H',i<N->Same H0 H->J.yld i H x H'->H'=H/\x=x0 i)(he:∀i H,i<N->Same H0 H->∀R:VK,(∀H',Same H H'->R (f i) H')->te ((bJ n cap σ).set 0 (some (x0 i))) H R)(hq:∀p H,Same H0 H->H p=none->Q (.ref p) (upd H p (.lst ((List.range N).map f)))):cY n cap (bz 0) fN te σ J H0 Q:=by
 refine⟨fun i m ys H=>m=N-i/\i<=N/\Same H0 H/\ys=(List.range i).map f,⟨N,by simp,ZV _,Same.refl _,rfl⟩,?_⟩;rintro i m ys H ⟨rfl,hi,sm,rfl⟩;by_cases hlt:i<N
 ·refine .inr ⟨hgo i H hlt sm,?_,fun x H' y=>?_⟩
  ·rw[Za,List.length_range];exact gQ (by omega)
  ·obtain⟨e1,e2⟩:=hy i H x H' hlt sm y;subst e1 e2;refine he i H' hlt sm _ fun H4 sm4=>⟨N-(i+1),by omega,rfl,hlt,sm.trans sm4,?_⟩
   rw[List.range_succ,Zz];rfl
 ·have e:i=N:=by omega
  subst e;exact .inl ⟨hst H sm,fun p hp=>hq p H sm hp⟩
theorem xi{K:PySem.W.Frag}{a:Addr}{xs:List V}{n:Nat}{cap:List Nat}{te:TE}{σ:St}{H0:Hp}{Q:VK}(f:Nat->V)(hz:xs.length<=1000)(hl:SqL K H0 a xs)(he:∀i x H,xs[i]?=some x->Same H0 H->∀R:VK,(∀H',Same H H'->R (f i) H')->te ((bJ n cap σ).set 0 (some x)) H R)(hq:∀p H,Same H0 H->H p=none->Q (.ref p) (upd H p (.lst ((List.range xs.length).map f)))):cY n cap (bz 0) fN te σ (Itl K a) H0 Q:=by
 refine gL (N:=xs.length) (fun i=>(xs[i]?).getD .non) f hz (fun i H hi sm=>⟨xs,xs[i],sm.seq hl,by simp[hi]⟩) (fun H sm=>⟨xs,sm.seq hl,Zb _⟩) (fun i H x H' hi sm y=>⟨y.1,?_⟩) (fun i H hi sm R k=>?_) hq
 ·rw[y.2 xs (sm.seq hl)];rfl
 ·have e:xs[i]?=some xs[i]:=by simp[hi]
  rw[e];exact he i xs[i] H e sm R k
theorem qP{K:PySem.W.Frag}{a:Addr}{xs:List V}{n:Nat}{cap:List Nat}{te:TE}{σ:St}{H0:Hp}{Q:VK}(f:Nat->V)(hz:xs.length<=1000)(hl:SqT K H0 a xs)(he:∀i x H,xs[i]?=some x->Same H0 H->∀R:VK,(∀H',Same H H'->R (f i) H')->te ((bJ n cap σ).set 0 (some x)) H R)(hq:∀p H,Same H0 H->H p=none->Q (.ref p) (upd H p (.lst ((List.range xs.length).map f)))):cY n cap (bz 0) fN te σ (Itt K a) H0 Q:=by
 refine gL (N:=xs.length) (fun i=>(xs[i]?).getD .non) f hz (fun i H hi sm=>⟨xs,xs[i],dN sm hl,by simp[hi]⟩) (fun H sm=>⟨xs,dN sm hl,Zb _⟩) (fun i H x H' hi sm y=>⟨y.1,?_⟩) (fun i H hi sm R k=>?_) hq
 ·rw[y.2 xs (dN sm hl)];rfl
 ·have e:xs[i]?=some xs[i]:=by simp[hi]
  rw[e];exact he i xs[i] H e sm R k
theorem vc{N n:Nat}{lo:Int}{cap:List Nat}{te:TE}{σ:St}{H0:Hp}{Q:VK}(f:Nat->V)(hz:N<=1000)(he:∀i H,i<N->Same H0 H->∀R:VK,(∀H',Same H H'->R (f i) H')->te ((bJ n cap σ).set 0 (some (.int (lo+i)))) H R)(hq:∀p H,Same H0 H->H p=none->Q (.ref p) (upd H p (.lst ((List.range N).map f)))):cY n cap (bz 0) fN te σ (Itr lo N) H0 Q :=
 gL (N:=N) (fun i=>.int (lo+i)) f hz (fun _ _ hi _=>hi) (fun _ _=>Zb N) (fun _ _ _ _ _ _ y=>y) he hq
open PySem PySem.Spec PyProof.Rows
def aR:Expr->Bool
 |.Starred _ _=>false
 |_=>true
theorem aY{e:Expr}{es:List Expr}{env:Env}(h:aR e=true):starEach (e::es) env=(false,eval e env)::starEach es env:=by cases e<;>first|rfl|cases h
theorem br{env:Env}{pos:Pos}:∀{es:List Expr},es.all aR=true->(backTo pos (starEach es env)).any (·.1)=false
 | [],_=>rfl
 |e::es,h=>by rw[Yt,Zk]at h;rw[aY h.1];show(false ||(backTo pos (starEach es env)).any (·.1))=false;rw[Bool.false_or];exact br h.2
section
variable{X:Cx}{x:Str}{p pos:Pos}{e:Expr}{es:List Expr}{te:TE}{t:TA}{id T:String}{r:List V->Hp->VK->Prop}{k:Nat}{ps:List Str}{sp:Sp}
theorem pa(ha:PE X e te)(hr:PA X es t)(hs:aR e=true:=by rfl):PA X (e::es) (fb te t):=Cr ha hr (aY hs)
theorem pB(hc:dI X (.builtin id) r)(hm:X.mg x=none)(hv:bootBuiltins x=some (.builtin id))(ha:PA X (e::es) t)(hg:Gl X x:=by rfl)(hs:(e::es).all aR=true:=by rfl)(hn:x≠"__name__":=by decide)(hdb:(x==("__debug__":Str))=false:=by decide) :
  PE X (.Call (.Name x p) (e::es) [] pos) (tCB r t):=by
 rw[Yt,Zk]at hs;exact Ay hc hg hm hv ha hn hdb (aY hs.1) (br hs.2)
theorem pTy(hc:dI X (.type T) r)(hm:X.mg x=none)(hv:bootBuiltins x=some (.type T))(ha:PA X (e::es) t)(hg:Gl X x:=by rfl)(hs:(e::es).all aR=true:=by rfl)(hn:x≠"__name__":=by decide)(hdb:(x==("__debug__":Str))=false:=by decide) :
  PE X (.Call (.Name x p) (e::es) [] pos) (tCB r t):=by
 rw[Yt,Zk]at hs;exact yt hc hg hm hv ha hn hdb (aY hs.1) (br hs.2)
theorem pfn(F:Fn X.prog X.w X.K X.mg X.base k x ps sp)(hr:Room k X.A)(ha:PA X (e::es) t)(hg:Gl X x:=by rfl)(hs:(e::es).all aR=true:=by rfl)(hdb:(x==("__debug__":Str))=false:=by decide) :
  PE X (.Call (.Name x p) (e::es) [] pos) (qr sp [] E0 t):=by
 rw[Yt,Zk]at hs;exact FS F hr ha hg hdb (aY hs.1) (br hs.2)
end
open PySem PySem.Spec PyProof.Rows
structure QE(X:Cx)(e:Expr)(t:TE):Prop where
 h:PE X e t
structure QT(X:Cx)(e:Expr)(t:TT):Prop where
 h:PT X e t
structure QW(X:Cx)(e:Expr)(t:TT):Prop where
 h:PW X e t
structure QA(X:Cx)(es:List Expr)(t:TA):Prop where
 h:PA X es t
structure QS(X:Cx)(st:Stmt)(t:TS):Prop where
 h:PS X st t
structure QB(X:Cx)(st:List Stmt)(t:TS):Prop where
 h:PSs X st t
structure QG(X:Cx)(tg:Expr)(g:TG):Prop where
 h:PG X tg g
structure QGs(X:Cx)(ts:List Expr)(g:TGs):Prop where
 h:PGs X ts g
structure QI(X:Cx)(tg iter:Expr)(wi:TI):Prop where
 h:PI X tg iter wi
structure QIf(X:Cx)(ifs:List Expr)(t:TT):Prop where
 h:mP X ifs t
structure QO(X:Cx)(e:Option Expr)(t:TO):Prop where
 h:PO X e t
structure QOp(X:Cx)(f:Value->Value->Sem Value)(r:R2):Prop where
 h:OpR X f r
structure QCall(X:Cx)(f:Value)(r:List V->Hp->VK->Prop):Prop where
 h:dI X f r
structure QIx(X:Cx)(r:R2):Prop where
 h:IxR X r
structure QSl(X:Cx)(r:V->Option Int->Option Int->Hp->VK->Prop):Prop where
 h:SlR X r
structure QSet(X:Cx)(t:qH):Prop where
 h:zD X t
structure QUn(X:Cx)(f:Value->Sem Value)(r:V->Hp->VK->Prop):Prop where
 h:UnR X f r
structure QIp(X:Cx)(op:Operator)(t:TIp):Prop where
 h:PIp X op t
section
variable{X:Cx}{pos p:Pos}{e a b c o:Expr}{es rest:List Expr}{te ta tb tc:TE}{t:TA}{tA tB':TT}{x:Str}
theorem q_v(i:Nat){x:Str}{pos:Pos}(hN:X.N[i]?=some x:=by rfl)(hv:Vis X.env.scope x:=by first|exact Or.inl rfl|exact Or.inr (Or.inl rfl)|exact Or.inr (Or.inr rfl))(hd:(x==("__debug__":Str))=false:=by decide)(hcd:(x==("__classdict__":Str))=false:=by decide):QE X (.Name x pos) (tVar i):=⟨Ep hN hv hd hcd⟩
theorem aj{i:Int}{j:Nat}:QE X (.Constant (.int i) j pos) (tC (.int i)):=⟨Ei⟩
theorem bU{i:Bool}{j:Nat}:QE X (.Constant (.bool i) j pos) (tC (.bl i)):=⟨FQ⟩
theorem bA{j:Nat}:QE X (.Constant .none j pos) (tC .non):=⟨Ek⟩
theorem aG{i:Str}{j:Nat}:QE X (.Constant (.str i) j pos) (tC (.str i)):=⟨En⟩
theorem fj{T:String}(hm:X.mg x=none)(hv:bootBuiltins x=some (.type T))(hg:Gl X x:=by rfl)(hn:x≠"__name__":=by decide)(hd:(x==("__debug__":Str))=false:=by decide):QE X (.Name x pos) (tC (.ty T)):=⟨Cs hg hm hv rfl hn hd⟩
theorem rF{i:Int}{tk:Tok}(hm:X.mg x=some (.int i tk))(hg:Gl X x:=by rfl)(hd:(x==("__debug__":Str))=false:=by decide):QE X (.Name x pos) (tC (.int i)):=⟨um hg hm ⟨_,rfl⟩ hd⟩
theorem aN{op:Operator}{r:R2}(ho:QOp X (binaryOp op) r)(ha:QE X a ta)(hb:QE X b tb):QE X (.BinOp a op b pos) (tOp r ta tb):=⟨FU ho.h ha.h hb.h⟩
theorem Gu{op:UnaryOp}{r:V->Hp->VK->Prop}(ho:QUn X (unaryOp op) r)(ha:QE X a ta):QE X (.UnaryOp op a pos) (tUn r ta):=⟨FW ho.h ha.h⟩
theorem bQ{op}(h:QE X a ta):QE X (.BoolOp op [a] pos) ta:=⟨Em h.h⟩
theorem bM(ha:QE X a ta)(hb:QE X (.BoolOp .And (b::rest) pos) tb):QE X (.BoolOp .And (a::b::rest) pos) (BE ta tb):=⟨Ef ha.h hb.h⟩
theorem vX(ha:QE X a ta)(hb:QE X (.BoolOp .Or (b::rest) pos) tb):QE X (.BoolOp .Or (a::b::rest) pos) (E7 ta tb):=⟨FV ha.h hb.h⟩
theorem vW(ha:QE X a ta):QE X (.UnaryOp .Not a pos) (BH ta):=⟨El ha.h⟩
theorem bt{op:CmpOp}{r:R2}(ho:QOp X (compareOp op) r)(ha:QE X a ta)(hb:QE X b tb)(hm:behindInMarks op b=false:=by first|exact ya _|with_unfolding_all rfl):QE X (.Compare a [op] [b] pos) (tOp r ta tb):=⟨Cu ho.h ha.h hb.h hm⟩
theorem CP{op op':CmpOp}{r r':R2}(ho:QOp X (compareOp op) r)(ho':QOp X (compareOp op') r')(ha:QE X a ta)(hb:QE X b tb)(hc:QE X c tc)(hm:lastMarks [op,op'] [b,c]=false:=by with_unfolding_all rfl) :
  QE X (.Compare a [op,op'] [b,c] pos) (mG r r' ta tb tc):=⟨Az ho.h ho'.h ha.h hb.h hc.h hm⟩
theorem EL(hc:QT X c tA)(ha:QE X a ta)(hb:QE X b tb):QE X (.IfExp c a b pos) (tIf tA ta tb):=⟨AB hc.h ha.h hb.h⟩
theorem fK(h:QA X es t):QE X (.List es pos) (E5 t):=⟨Ej h.h⟩
theorem aE{x1}(h:QA X es t):QE X (.Tuple es x1 pos) (Bb t):=⟨Eo h.h⟩
theorem aD{r:R2}(hr:QIx X r)(ha:QE X a ta)(hb:QE X b tb)(hs:tL b:=by intro _ _;rfl):QE X (.Subscript a b pos) (tOp r ta tb):=⟨FT hr.h ha.h hb.h hs⟩
theorem vY{r:V->Option Int->Option Int->Hp->VK->Prop}{lo hi:Option Expr}{tl th:TO}{p2:Pos}(hr:QSl X r)(he:QE X e te)(hl:QO X lo tl)(hu:QO X hi th):QE X (.Subscript e (.Slice lo hi none p2) pos) (tSl r te tl th):=⟨AD hr.h he.h hl.h hu.h⟩
theorem AQ:QO X none uE:=⟨CF⟩
theorem rG(h:QE X e te):QO X (some e) (BI te):=⟨CG h.h⟩
theorem ag:QA X [] eL:=⟨yq⟩
theorem q_a(ha:QE X e te)(hr:QA X es t)(hs:aR e=true:=by rfl):QA X (e::es) (fb te t):=⟨pa ha.h hr.h hs⟩
theorem q_B{id:String}{r:List V->Hp->VK->Prop}(hc:QCall X (.builtin id) r)(hm:X.mg x=none)(hv:bootBuiltins x=some (.builtin id))(ha:QA X (e::es) t)(hg:Gl X x:=by rfl)(hs:(e::es).all aR=true:=by rfl)(hn:x≠"__name__":=by decide)(hdb:(x==("__debug__":Str))=false:=by decide) :
  QE X (.Call (.Name x p) (e::es) [] pos) (tCB r t):=⟨pB hc.h hm hv ha.h hg hs hn hdb⟩
theorem jv{T:String}{r:List V->Hp->VK->Prop}(hc:QCall X (.type T) r)(hm:X.mg x=none)(hv:bootBuiltins x=some (.type T))(ha:QA X (e::es) t)(hg:Gl X x:=by rfl)(hs:(e::es).all aR=true:=by rfl)(hn:x≠"__name__":=by decide)(hdb:(x==("__debug__":Str))=false:=by decide) :
  QE X (.Call (.Name x p) (e::es) [] pos) (tCB r t):=⟨pTy hc.h hm hv ha.h hg hs hn hdb⟩
theorem aB{k:Nat}{ps:List Str}{sp:Sp}(F:Fn X.prog X.w X.K X.mg X.base k x ps sp)(hr:Room k X.A)(ha:QA X (e::es) t)(hg:Gl X x:=by rfl)(hs:(e::es).all aR=true:=by rfl)(hdb:(x==("__debug__":Str))=false:=by decide) :
  QE X (.Call (.Name x p) (e::es) [] pos) (qr sp [] E0 t):=⟨pfn F hr ha.h hg hs hdb⟩
theorem aM{op:CmpOp}{r:R2}(ho:QOp X (compareOp op) r)(ha:QE X a ta)(hb:QE X b tb)(hm:behindInMarks op b=false:=by first|exact ya _|with_unfolding_all rfl):QT X (.Compare a [op] [b] pos) (mI (tOp r ta tb)):=⟨CN ho.h ha.h hb.h hm⟩
theorem C5{op op':CmpOp}{r r':R2}(ho:QOp X (compareOp op) r)(ho':QOp X (compareOp op') r')(ha:QE X a ta)(hb:QE X b tb)(hc:QE X c tc)(hm:lastMarks [op,op'] [b,c]=false:=by with_unfolding_all rfl) :
  QT X (.Compare a [op,op'] [b,c] pos) (mI (mG r r' ta tb tc)):=⟨AL ho.h ho'.h ha.h hb.h hc.h hm⟩
theorem ci(ha:QT X a tA):QT X (.UnaryOp .Not a pos) (E6 tA):=⟨ED ha.h⟩
theorem bR(h:QE X e te)(he:∀whole,isTrue e X.env whole=(do let v ←whole;standAt e.pos;holding [v] (truthy v)):=by intro _;rfl):QT X e (tB te):=⟨EF h.h he⟩
theorem zl(ha:QT X a tA):QW X (.BoolOp .And [a] pos) tA:=⟨CO ha.h⟩
theorem fO(ha:QT X a tA):QW X (.BoolOp .Or [a] pos) tA:=⟨EI ha.h⟩
theorem BL(ha:QT X a tA)(hb:QW X (.BoolOp .And (b::rest) pos) tB'):QW X (.BoolOp .And (a::b::rest) pos) (E2 tA tB'):=⟨EH ha.h hb.h⟩
theorem ii(ha:QT X a tA)(hb:QW X (.BoolOp .Or (b::rest) pos) tB'):QW X (.BoolOp .Or (a::b::rest) pos) (tOr tA tB'):=⟨FY ha.h hb.h⟩
theorem t_w(h:QW X e tA):QT X e tA:=⟨h.h.pt⟩
end
section
variable{X:Cx}{pos:Pos}{tg iter elt:Expr}{ifs:List Expr}{g:TG}{gs:TGs}{tc:TT}{te:TE}{scope:Scope}{cap:List Nat}{capN own:List Str}{wi:TI}
theorem bc{i:Nat}{x:Str}(hN:X.N.Nodup)(hi:X.N[i]?=some x:=by rfl)(hx:Loc X.env.scope x:=by first|exact Or.inl rfl|exact Or.inr rfl)(hf:X.fn x=true\/X.env.scope.names.lookup x=some .local:=by first|exact .inl rfl|exact .inr rfl):QG X (.Name x pos) (bz i):=⟨CA hN hi hx hf⟩
theorem qW:QGs X [] jh:=⟨CB⟩
theorem gW{e:Expr}{es:List Expr}(h1:QG X e g)(h2:QGs X es gs)(hs:(assignEach (e::es) X.env).map (·.2)=assign e X.env::(assignEach es X.env).map (·.2):=by rfl):QGs X (e::es) (dJ g gs):=⟨AE h1.h h2.h hs⟩
theorem qg{es:List Expr}{k n:Nat}(hc:X.calm=true)(h:QGs X es gs)(hn:(assignEach es X.env).length=n:=by rfl)(hst:(assignEach es X.env).findIdx? (·.1)=none:=by rfl):QG X (.Tuple es k pos) (ji X.K n gs):=⟨Es hc h.h hn hst⟩
theorem lP{o i:Expr}{to ti:TE}{t:qH}(ho:QE X o to)(hi:QE X i ti)(hs:QSet X t)(ha:∀ v,assign (.Subscript o i pos) X.env v=(do
   let ov ←holding [v] (eval o X.env)
   let iv ←holding [v,ov] (eval i X.env)
   standAt pos
   holding [v,ov,iv] (setItem ov iv v)
   release [v,ov,iv] []):=by intro _;rfl):QG X (.Subscript o i pos) (DA to ti t):=⟨Er ho.h hi.h hs.h ha⟩
theorem dF{l:Expr}(hl:QE X l te):QI X tg l (Bp X.K te):=⟨CD hl.h⟩
theorem Br{l:Expr}(hl:QE X l te):QI X tg l (DC X.K te):=⟨Eu hl.h⟩
theorem xL{a:Expr}{ta:TA}{p:Pos}(hm:X.mg "range" = none)(ha:QA X [a] ta)(hg:Gl X "range":=by rfl)(hs:aR a=true:=by rfl):QI X tg (.Call (.Name "range" p) [a] [] pos) (Bq ta):=⟨yu hg hm ha.h (aY hs)⟩
theorem iK:QIf X [] fN:=⟨AI⟩
theorem qZ{c:Expr}{t:TT}(h:QT X c t):QIf X [c] t:=⟨AJ h.h⟩
theorem cW(O:CompOk X scope cap capN)(hc:X.calm=true)(hi:QI X tg iter wi)(hg:∀C s0 H0 ex,QG (aQ X scope (own++capN) C s0 H0 ex) tg g)(gk:GK own.length g)(ht:∀C s0 H0 ex,QIf (aQ X scope (own++capN) C s0 H0 ex) ifs tc)(he:∀C s0 H0 ex,QE (aQ X scope (own++capN) C s0 H0 ex) elt te)(hs:∀x,foldedSetIterable iter X.env x=pure x:=by intro _;rfl):QE X (.ListComp elt [⟨tg,iter,ifs,0⟩] scope pos) (qu own.length cap wi g tc te) :=
 ⟨Cv O hc hi.h (fun C s0 H0 ex=>(hg C s0 H0 ex).h) gk (fun C s0 H0 ex=>(ht C s0 H0 ex).h) (fun C s0 H0 ex=>(he C s0 H0 ex).h) hs⟩
variable{st:Stmt}{rest:List Stmt}{t u:TS}{e c:Expr}
theorem b_0:QB X [] qv:=⟨CL⟩
theorem b_1(h:QS X st t):QB X [st] t:=⟨CM h.h⟩
theorem b_c(h1:QS X st t)(h2:QB X rest u):QB X (st::rest) (wA t u):=⟨AK h1.h h2.h⟩
theorem au(h:QE X e te):QS X (.Return (some e) pos) (E8 te):=⟨Ez h.h⟩
theorem mo(h:QE X e te)(hs:swapsWith e none pos.line X.env=pure false:=by rfl):QS X (.Expr e pos) (wy te):=⟨CJ h.h hs⟩
theorem aU{body els:List Stmt}(hc:QT X c tc)(ht:QB X body t)(hu:QB X els u):QS X (.If c body els pos) (Ba tc t u):=⟨FX hc.h ht.h hu.h⟩
theorem aH{i:Nat}{x:Str}{pos':Pos}(hN:X.N.Nodup)(he:QE X e te)(hi:X.N[i]?=some x:=by rfl)(hx:Loc X.env.scope x:=by first|exact Or.inl rfl|exact Or.inr rfl)(hs:swapsWith e (some (.Name x pos')) pos.line X.env=pure false:=by rfl)(hf:X.fn x=true\/X.env.scope.names.lookup x=some .local:=by first|exact .inl rfl|exact .inr rfl):QS X (.Assign [.Name x pos'] e pos) (oq te (bz i)):=⟨EA hN hi hx he.h hs hf⟩
theorem yF{j:Nat}{y:Str}{py spos:Pos}(hN0:X.N.Nodup)(O:CompOk X scope cap capN)(hc:X.calm=true)(hi:QI X tg iter wi)(hg:∀C s0 H0 ex,QG (aQ X scope (own++capN) C s0 H0 ex) tg g)(gk:GK own.length g)(ht:∀C s0 H0 ex,QIf (aQ X scope (own++capN) C s0 H0 ex) ifs tc)(he:∀C s0 H0 ex,QE (aQ X scope (own++capN) C s0 H0 ex) elt te)(hj:X.N[j]?=some y:=by rfl)(hy:Loc X.env.scope y:=by first|exact Or.inl rfl|exact Or.inr rfl)(hsw:swapsWith (.ListComp elt [⟨tg,iter,ifs,0⟩] scope pos) (some (.Name y py)) spos.line X.env=pure true:=by rfl)(hs:∀x,foldedSetIterable iter X.env x=pure x:=by intro _;rfl)(hf:X.fn y=true\/X.env.scope.names.lookup y=some .local:=by first|exact .inl rfl|exact .inr rfl) :
  QS X (.Assign [.Name y py] (.ListComp elt [⟨tg,iter,ifs,0⟩] scope pos) spos) (oq (qu own.length cap wi g tc te) (bz j)) :=
 ⟨CK hN0 hj hy O hc hi.h (fun C s0 H0 ex=>(hg C s0 H0 ex).h) gk (fun C s0 H0 ex=>(ht C s0 H0 ex).h) (fun C s0 H0 ex=>(he C s0 H0 ex).h) hsw hs hf⟩
theorem ka(he:QE X e te)(hg:QG X tg g)(hs:swapsWithSole [tg] e pos.line X.env=pure false:=by rfl)(hw:swappedStores [tg] e X.env=pure none:=by rfl)(h1:(assignEach [tg] X.env).map (·.2)=[assign tg X.env]:=by rfl):QS X (.Assign [tg] e pos) (oq te g):=⟨Ew he.h hg.h hs hw h1⟩
theorem ke{body:List Stmt}(hp:PassesOwn (model X.prog X.w) X.A X.env X.xe)(hc:X.calm=true)(hi:QI X tg iter wi)(hg:QG X tg g)(hb:QB X body t)(hs:∀x,foldedSetIterable iter X.env x=pure x:=by intro _;rfl):QS X (.For tg iter body [] pos) (E4 wi g t):=⟨Ey hp hc hi.h hg.h hb.h hs⟩
end
theorem Fun.okQ{P:Program}{w:World}{K:PySem.W.Frag}{mg:Str->Option Value}{base:Heap}{x qual:Str}{st:Stmt}{f:Addr}{fd:FuncData}{N ps:List Str}{k:Nat}{sp:Sp}(F:Fun K x qual st f fd)(S:FnScope N ps (al st))(len:∀ vs H Q E,sp vs H Q E->vs.length=ps.length)(hbody:∀ (cdv:Value) (A:Around) (outer:List Env) (s:Shared) (H:Hp) (vs:List V) (Q:VK) (E:XK),Room k (A.deeper (envOfC qual (al st) s.heap.objs.size f cdv))->sp vs H Q E ->
   ∃ t,QB (dM CX0 P w K mg base N qual (al st) f cdv A outer s H E).nox (bG st) t/\t { nx:=fun _ H'=>Q .non H',rt:=Q } (start N vs) H):FnOk P w K mg base CX0 (k+1) f fd ps sp :=
 F.ok S len fun cdv A outer s H vs Q E hr hsp=>let⟨t,h,q⟩:=hbody cdv A outer s H vs Q E hr hsp;⟨t,h.h,q⟩
section
variable{X:Cx}
theorem cG:QOp X (binaryOp .Add) (rI0 fun i j=>.int (i+j)):=⟨D6⟩
theorem qk:QOp X (binaryOp .Sub) (rI0 fun i j=>.int (i-j)):=⟨Ec⟩
theorem mh:QOp X (binaryOp .FloorDiv) (rI Df fun i j=>.int (i / j)):=⟨Cm⟩
theorem cA:QOp X (binaryOp .Mod) (rI (fun _ j=>0<j) fun i j=>.int (i%j)):=⟨Ea⟩
theorem Bv:QOp X (binaryOp .Pow) (rI Dg fun i j=>.int (i^j.toNat)):=⟨Eb⟩
theorem Bu:QOp X (binaryOp .Add) rCat:=⟨D7⟩
theorem cJ:QOp X (compareOp .Eq) rEq:=⟨FK⟩
theorem nF:QOp X (compareOp .NotEq) rNe:=⟨FP⟩
theorem jt:QOp X (compareOp .Lt) (rI0 fun i j=>.bl (decide (i<j))):=⟨FO⟩
theorem iQ:QOp X (compareOp .LtE) (rI0 fun i j=>.bl (decide (i<=j))):=⟨FN⟩
theorem DY:QOp X (compareOp .Gt) (rI0 fun i j=>.bl (decide (j<i))):=⟨FM⟩
theorem Ar:QOp X (compareOp .GtE) (rI0 fun i j=>.bl (decide (j<=i))):=⟨FL⟩
theorem mi:QOp X (compareOp .Is) (fun x y H Q=>y=.non/\Q (.bl (decide (x=.non))) H):=⟨D9⟩
theorem yg:QOp X (compareOp .IsNot) (fun x y H Q=>y=.non/\Q (.bl (!decide (x=.non))) H):=⟨Cn⟩
theorem Gh:QUn X (unaryOp .USub) (rU fun i=>.int (-i)):=⟨Fd⟩
theorem bZ:QIx X (rIxL X.K):=⟨B5⟩
theorem aI:QIx X (rIxT X.K):=⟨DH⟩
theorem DO:QSl X (rSlL X.K):=⟨CY⟩
theorem mC:QSet X BA:=⟨A5⟩
theorem df:QCall X (.builtin "len") (fun xs H Q=>∃p ys,xs=[.ref p]/\(SqL X.K H p ys\/SqT X.K H p ys)/\Q (.int ys.length) H):=⟨qL⟩
theorem eV:QCall X (.builtin "isinstance") (fun xs H Q=>∃x T t b,xs=[x,.ty T]/\TyOf X.K H x t/\PySem.W.kitOne X.K t (.type T)=some b/\Q (.bl b) H):=⟨zO⟩
theorem jP(hc:X.calm=true):QCall X (.builtin "all") (fun xs H Q=>∃(p:Addr) (bs:List Bool),xs=[.ref p]/\SqL X.K H p (bs.map V.bl)/\Q (.bl (bs.all id)) H):=⟨zL hc⟩
theorem uX:QCall X (.type "tuple") (fun xs H Q=>∃p ys,xs=[.ref p]/\((SqL X.K H p ys/\∀l,H l=none->Q (.ref l) (upd H l (.tup ys)))\/(SqT X.K H p ys/\Q (.ref p) H))):=⟨pJ⟩
theorem Dr:QCall X (.type "list") (fun xs H Q=>∃p ys,xs=[.ref p]/\(SqL X.K H p ys\/SqT X.K H p ys)/\∀l,H l=none->Q (.ref l) (upd H l (.lst ys))):=⟨qM⟩
theorem Fi:QCall X (.type "int") (fun xs H Q=>(∃i,xs=[.int i]/\Q (.int i) H)\/∃k,xs=[.bl k]/\Q (.int (if k then 1 else 0)) H):=⟨xa⟩
end
open PySem PySem.Spec PyProof.Rows
mutual
def Dt(H:Hp):PyData->V->Prop
 |.none,v=>v=.non
 |.bool b,v=>v=.bl b
 |.int i,v=>v=.int i
 |.str x,v=>v=.str x
 |.list ds,v=>∃a xs,v=.ref a/\Rd H a (.lst xs)/\DtAll H ds xs
 |.tuple ds,v=>∃a xs,v=.ref a/\Rd H a (.tup xs)/\DtAll H ds xs
 |.dict _,_=>False
def DtAll(H:Hp):List PyData->List V->Prop
 | [],xs=>xs=[]
 |d::ds,xs=>∃y ys,xs=y::ys/\Dt H d y/\DtAll H ds ys
end
section
variable{P:Program}{w:World}{H:Hp}{h:Heap}
mutual
theorem Dt.reads(ok:HOk P w H h):∀(d:PyData) (x:V) (v:Value),Dt H d x->RelV x v->∃as,Reads h v d as
 |.none,x,v,e,r=>by
  have e':x=.non:=by simpa only[Dt]using e
  subst e';cases r;exact⟨_,.none⟩
 |.bool b,x,v,e,r=>by
  have e':x=.bl b:=by simpa only[Dt]using e
  subst e';cases r;exact⟨_,.bool b⟩
 |.int i,x,v,e,r=>by
  have e':x=.int i:=by simpa only[Dt]using e
  subst e';obtain⟨t,rfl⟩:=r;exact⟨_,.int i t⟩
 |.str z,x,v,e,r=>by
  have e':x=.str z:=by simpa only[Dt]using e
  subst e';obtain⟨t,rfl⟩:=r;exact⟨_,.str z t⟩
 |.list ds,x,v,e,r=>by
  have e':∃a xs,x=.ref a/\Rd H a (.lst xs)/\DtAll H ds xs:=by simpa only[Dt]using e
  obtain⟨a,xs,rfl,hr,hd⟩:=e';cases r;obtain⟨_,its,n,rv,eo⟩:=hr.ok ok;obtain⟨as,q⟩:=DtAll.reads ok ds xs its hd rv;exact⟨_,.list eo rfl rfl (by simpa using q)⟩
 |.tuple ds,x,v,e,r=>by
  have e':∃a xs,x=.ref a/\Rd H a (.tup xs)/\DtAll H ds xs:=by simpa only[Dt]using e
  obtain⟨a,xs,rfl,hr,hd⟩:=e';cases r;obtain⟨_,its,rv,o,eo,hc,n,hs⟩:=hr.ok ok;obtain⟨as,q⟩:=DtAll.reads ok ds xs its hd rv;exact⟨_,.tuple eo hc hs (by simpa using q)⟩
 |.dict kvs,x,v,e,r=>by
  have e':False:=by simpa only[Dt]using e
  exact e'.elim
theorem DtAll.reads(ok:HOk P w H h):∀(ds:List PyData) (xs:List V) (vs:List Value),DtAll H ds xs->Vals xs vs->∃as,ReadsAll h vs ds as
 | [],xs,vs,e,r=>by
  have e':xs=[]:=by simpa only[DtAll]using e
  subst e';cases r;exact⟨_,.nil⟩
 |d::ds,xs,vs,e,r=>by
  have e':∃y ys,xs=y::ys/\Dt H d y/\DtAll H ds ys:=by simpa only[DtAll]using e
  obtain⟨y,ys,rfl,h1,h2⟩:=e';cases r with
  |cons r1 r2 =>obtain⟨as,q1⟩:=Dt.reads ok d y _ h1 r1;obtain⟨bs,q2⟩:=DtAll.reads ok ds ys _ h2 r2;exact⟨_,.cons q1 q2⟩
end
end
theorem io{H:Hp}:∀(ns:List Int),DtAll H (ns.map PyData.int) (ns.map V.int)
 | []=>by simp only[List.map_nil,DtAll]
 |n::ns=>by simp only[ZH,DtAll];exact⟨_,_,rfl,by simp only[Dt],io ns⟩
section
variable{X:Cx}
inductive rEqD  (x:V)(y:V)(H:Hp)(Q:VK):Prop
 |mk (dx dy:_) (h0:Dt H dx x) (h1:Dt H dy y) (h2:SeqAt.shaped dx=true) (h3:SeqAt.shaped dy=true) (h4:Q (.bl (PyData.eqv dx dy)) H):rEqD  x y H Q
inductive rNeD  (x:V)(y:V)(H:Hp)(Q:VK):Prop
 |mk (dx dy:_) (h0:Dt H dx x) (h1:Dt H dy y) (h2:SeqAt.shaped dx=true) (h3:SeqAt.shaped dy=true) (h4:Q (.bl (!PyData.eqv dx dy)) H):rNeD  x y H Q
theorem D8(hu:X.A.units+64<cLine):OpR X (compareOp .Eq) rEqD:=by intro pins s σ H x y v u Q I rx ry h;obtain⟨dx,dy,h1,h2,s1,s2,q⟩:=h;obtain⟨as,r1⟩:=Dt.reads I.hok dx x v h1 rx;obtain⟨bs,r2⟩:=Dt.reads I.hok dy y u h2 ry;exact eq_dataH r1 r2 s1 s2 hu ⟨.bl _,H,I,rfl,q⟩
theorem yo(hu:X.A.units+64<cLine):OpR X (compareOp .NotEq) rNeD:=by intro pins s σ H x y v u Q I rx ry h;obtain⟨dx,dy,h1,h2,s1,s2,q⟩:=h;obtain⟨as,r1⟩:=Dt.reads I.hok dx x v h1 rx;obtain⟨bs,r2⟩:=Dt.reads I.hok dy y u h2 ry;exact ne_dataH r1 r2 s1 s2 hu ⟨.bl _,H,I,rfl,q⟩
theorem vF(hu:X.A.units+64<cLine):QOp X (compareOp .Eq) rEqD:=⟨D8 hu⟩
theorem jX(hu:X.A.units+64<cLine):QOp X (compareOp .NotEq) rNeD:=⟨yo hu⟩
end
section
variable{X:Cx}
variable{o e:Expr}{to te:TE}{apos cpos:Pos}
theorem FZ(ho:QE X o to)(he:QE X e te)(hs:aR e=true:=by rfl)(hbase:attributeBase o "append" X.env (eval o X.env)=eval o X.env:=by rfl)(hline:(apos.endLine==cpos.line)=true:=by rfl) :
  QE X (.Call (.Attribute o "append" apos) [e] [] cpos) (tBM X.K "list" rAppend to (fb te eL)):=by
 have h1:=aY (es:=[]) (env:=X.env) hs;have h2:starEach ([]:List Expr) X.env=[]:=rfl;refine⟨FR PySem.F.plainAttrs_list PySem.F.slot_list_append PySem.F.type_list_append xZ ho.h (pa he.h yq hs) hbase ?_ hline h1 (by rw[h2];rfl)⟩;rw[h1,h2];rfl
end
open PySem PySem.Spec PyProof.Rows
theorem nq{i j:Int}{A B:Prop}(h1:i=j->A)(h2:i≠j->B):if decide (V.int i=V.int j)=true then A else B:=by
 by_cases h:i=j
 ·rw[HV (decide_eq_true (by rw[h]))];exact h1 h
 ·rw[HU (by rw[decide_eq_false (fun z=>h (by injection z))];exact Zh)];exact h2 h
theorem qh{i j:Int}{A B:Prop}(h1:i≠j->A)(h2:i=j->B):if(!decide (V.int i=V.int j))=true then A else B:=by
 by_cases h:i=j
 ·rw[HU (by rw[decide_eq_true (by rw[h])];decide)];exact h2 h
 ·rw[HV (by rw[decide_eq_false (fun z=>h (by injection z))];rfl)];exact h1 h
theorem mr{H H':Hp}{p:Addr}{o:HO}(e:Same H H')(h:H p=none):Same H (upd H' p o):=fun b u q=>by rw[af (am q h)];exact e _ _ q
theorem nj{H:Hp}{v:V}(h:isT H v=true):∃a xs,v=.ref a/\H a=some (.tup xs):=by
 cases v with
 |ref a =>
  have h':vq (H a)=true:=h;cases e:H a with
  |none=>rw[e]at h';cases h'
  |some o =>
   cases o with
   |tup xs=>exact⟨a,xs,rfl,e⟩
   |_=>rw[e]at h';cases h'
 |_=>cases h
theorem lE(f:V->Bool)(xs:List V):(((List.range xs.length).map fun i=>f ((xs[i]?).getD .non)).all id)=xs.all f:=by
 rw[List.all_map];have e:((List.range xs.length).all (id∘fun i=>f ((xs[i]?).getD .non)))=xs.all f:=by
  rw[Yq,ZC,ZC];constructor
  ·intro h x hx;obtain⟨i,hi,rfl⟩:=List.getElem_of_mem hx;have:=h i (Z8.mpr hi);simpa[hi]using this
  ·intro h i hi;have hi':=Z8.mp hi;have:=h _ (ZF hi');simpa[hi']using this
 exact e
theorem jl{n:Nat}{i:Int}(h0:0<=i)(h1:i<n):ixN n i=some i.toNat:=by unfold ixN;rw[HV h0,HV h1]
def ai(ns:List Int)(k:Nat):Int:=(ns[k]?).getD 0
theorem bI{ns:List Int}{k:Int}(h0:0<=k)(h1:k<ns.length):atI (ns.map V.int) k=some (.int (ai ns k.toNat)):=by
 have hk:k.toNat<ns.length:=by omega
 have ek:k=((k.toNat:Nat):Int):=by omega
 have q:atI (ns.map V.int) ((k.toNat:Nat):Int)=some (.int ns[k.toNat]):=il (by rw[Zx,Zd hk]<;>rfl);rw[<-ek]at q;rw[q];unfold ai;rw[Zd hk];rfl
theorem zQ{ns:List Int}{k:Int}(h0:0<=k)(h1:¬k<ns.length):ai ns k.toNat=0:=by unfold ai;rw[List.getElem?_eq_none (by omega)];rfl
def Asked(K:PySem.W.Frag)(H:Hp)(v:V):Prop :=
 (∃n,TyOf K H v (.type n))/\∀a xs,v=.ref a->H a=some (.tup xs)->xs.length<=1000/\∀x∈xs,∃m,TyOf K H x (.type m)
theorem Asked.same{K:PySem.W.Frag}{H H':Hp}{v:V}(h:Asked K H v)(e:Same H H'):Asked K H' v:=by
 obtain⟨⟨n,ty⟩,h2⟩:=h;refine⟨⟨n,cP e ty⟩,fun a xs hv hx=>?_⟩;subst hv;have q:H a=some (.tup xs):=by
  cases ty with
  |lst q=>rw[e _ _ q]at hx;cases hx
  |frz q=>rw[e _ _ q]at hx;cases hx
  |tup q=>rw[e _ _ q]at hx;cases hx;exact q
  |dK q=>rw[e _ _ q]at hx;cases hx
  |dT q=>rw[e _ _ q]at hx;cases hx
 obtain⟨l,k⟩:=h2 a xs rfl q;exact⟨l,fun x hm=>let⟨m,t⟩:=k x hm;⟨m,cP e t⟩⟩
theorem oA{K:PySem.W.Frag}{H:Hp}{a:Addr}{xs:List V}(h:H a=some (.tup xs))(hl:xs.length<=1000)(hx:∀ x∈xs,∃ m,TyOf K H x (.type m)):Asked K H (.ref a):=⟨⟨_,.tup h⟩,fun b ys e z=>by
 cases e;rw[h]at z;cases z;exact⟨hl,hx⟩⟩
open PySem PySem.Spec PyProof.Rows
section
variable{prog:Program}{w:World}{A:Around}
theorem eW(calm:A.handled=none)(it t:Addr)(apart:t≠it)(xs:Array Value) :
  Draws prog w A it [it,t] xs.size (fun i v=>xs[i]?=some v) (fun i h=>h.IsTupleIter it t i/\h.IsTuple t xs) where
 live:=fun _ _ q=>let⟨o,eo,_⟩:=q.1;⟨o,eo⟩
 frame:=fun _ _ _ q kp=>⟨let⟨o,eo,r⟩:=q.1;⟨o,kp it (by simp) o eo,r⟩,let⟨o,eo,r⟩:=q.2;⟨o,kp t (by simp) o eo,r⟩⟩
 item:=fun i s Q E lt q cont=>by
  have ei:xs[i]?=some xs[i]:=by simp[lt]
  obtain⟨o,eo,ec,ed⟩:=id q.1;obtain⟨p,ep,_,np,edp⟩:=id q.2;have ty:=q.1.typeIs;unfold Builtin.SmallTypes.nextOf;refine z0 (ZI (name:=Str.ofString "__next__") ty F.slot_tuple_iterator_next (ZM F.slot_tuple_iterator_next ty F.entry_tuple_iterator_next ?_ (F.args_tuple_iterator_next_1 _)));show wpAny _ _ (field (.ref it) 0 >>= _) _ _ s;refine z0 (ZQ eo ed (x:=.ref t) rfl ?_);show wpAny _ _ (if(Value.ref t==Value.none)=true then _ else _) _ _ s;rw[HU (show¬((Value.ref t==Value.none)=true)from Zh)];show wpAny _ _ (field (.ref it) 1 >>= _) _ _ s;refine z0 (ZQ eo ed (x:=.int i 0) rfl ?_);show wpAny _ _ (seqItems? (.ref t) >>= _) _ _ s;refine z0 (Yd ep edp ?_);simp only[Zr,ei];have sb:=ZG s.heap it (fun ob=>ob.mapFields fun fs=>fs.setIfInBounds 1 (rawInt (i+1)));refine z0 (Yj eo ed (by simp) (z9 ⟨xs[i],rfl,z9 (cont _ _ s.toks ei ⟨?_,?_⟩ (ZG ..))⟩))
  ·exact⟨_,Z0 _ eo (Yy (Z3 ed _)),(Obj.cls_mapFields ..).trans ec,by rw[Z3 ed];simp[rawInt]⟩
  ·exact q.2.extBut (ZG ..).extBut apart
 done:=fun s Q E q cont=>by
  have ei:xs[xs.size]?=none:=by simp
  obtain⟨o,eo,ec,ed⟩:=id q.1;obtain⟨p,ep,_,np,edp⟩:=id q.2;have ty:=q.1.typeIs;unfold Builtin.SmallTypes.nextOf;refine z0 (ZI (name:=Str.ofString "__next__") ty F.slot_tuple_iterator_next (ZM F.slot_tuple_iterator_next ty F.entry_tuple_iterator_next ?_ (F.args_tuple_iterator_next_1 _)));show wpAny _ _ (field (.ref it) 0 >>= _) _ _ s;refine z0 (ZQ eo ed (x:=.ref t) rfl ?_);show wpAny _ _ (if(Value.ref t==Value.none)=true then _ else _) _ _ s;rw[HU (show¬((Value.ref t==Value.none)=true)from Zh)];show wpAny _ _ (field (.ref it) 1 >>= _) _ _ s;refine z0 (ZQ eo ed (x:=.int xs.size 0) rfl ?_);show wpAny _ _ (seqItems? (.ref t) >>= _) _ _ s;refine z0 (Yd ep edp ?_);simp only[Zr,ei];refine z0 (wpAny_rule (z0 (Yj eo ed (by simp) ?_)));show wpAny _ _ (newExc (.type "StopIteration") [] >>= _) _ _ _;refine z0 ?_;simp only[newExc,newTuple];refine z0 (ZB ?_ (by size_fits));refine z0 (m:=firstArgMember _ _) (wpAny_of_eq (a:=Value.none) (by first|rfl|(simp only[firstArgMember];rfl)) (ZB ?_ (by size_fits)));simp only[raiseNew];refine z0 (wpAny_handled ?_)
  first|rw[show A.in1.handled=none from calm]|rw[calm]
  exact z0 (z9 (wpAny_throw (cont _ _ (((ZG ..).extBut.push _).push _) ⟨_,Zg _ rfl,rfl⟩)))
end
structure ZAp(z u v i j:Addr)(f g:List Addr):Prop where
 uz:u≠z
 vz:v≠z
 uv:u≠v
 ui:u≠i
 uj:u≠j
 vi:v≠i
 vj:v≠j
 iz:i≠z
 jz:j≠z
 ij:i≠j
 zf:z∉f
 zg:z∉g
 vf:v∉f
 vg:v∉g
 jf:j∉f
 ig:i∉g
section
variable{prog:Program}{w:World}{A:Around}{E:Value->Shared->Prop}{s:Shared}{z u v i j:Addr}{f g:List Addr}{n m k:Nat}{P1 P2:Nat->Value->Prop}{S1 S2:Nat->Heap->Prop}{a b:Value}
def uU(z v i j:Addr)(h h':Heap):Prop:=∀c o,c≠z->c≠v->c≠i->c≠j->h.get? c=some o->h'.get? c=some o
theorem dj{c:Addr}{f:List Addr}{d:Addr}(hc:c∈f)(hd:d∉f):c≠d:=fun e=>hd (e▸hc)
theorem Bi(d1:Draws prog w A i f n P1 S1)(d2:Draws prog w A j g m P2 S2)(ap:ZAp z u v i j f g)(hz:IsZip s.heap z u v .none)(hu:IsPair s.heap u (.ref i) (.ref j))(hv:IsPair s.heap v a b)(h1:S1 k s.heap)(h2:S2 k s.heap)(l1:k<n)(l2:k<m){Q:Value->Shared->Prop}(cont:∀h' tk x y,P1 k x->P2 k y->IsZip h' z u v (rawInt s.heap.objs.size)->IsPair h' v x y->S1 (k+1) h'->S2 (k+1) h'->IsPair h' s.heap.objs.size x y->uU z v i j s.heap h'->Q (.ref s.heap.objs.size) { s with heap:=h',toks:=tk }) :
  wpAny (model prog w) A (Builtin.«zip.__next__» ⟨[.ref z],[]⟩) (fun fin s'=>∃r,fin=.done (.ret r)/\Q r s') E s:=by
 show wpAny _ _ (field (.ref z) 2 >>= _) _ _ _;refine z0 (ZQ hz rfl (x:=.bool false) rfl ?_);show wpAny _ _ (field (.ref z) 3 >>= _) _ _ _;refine z0 (ZQ hz rfl (x:=.ref u) rfl (z0 (Yd hu rfl ?_)));show wpAny _ _ (Builtin.SmallTypes.ownedTupleIsFree (.ref z) >>= _) _ _ _;refine z0 ?_;unfold Builtin.SmallTypes.ownedTupleIsFree;refine z0 (ZQ hz rfl (x:=.none) rfl (z9 ?_));simp only[if_true];refine z0 (wpAny_rule (z0 (ZQ hz rfl (x:=.ref v) rfl ?_)));refine z0 (wpAny_setField_rec hz (by simp) fun q1 z1 b1=>?_)
 replace z1:IsZip q1 z u v .ellipsis:=z1
 refine z0 ?_;simp only[List.zipIdx_cons,List.zipIdx_nil,List.forIn_cons,List.forIn_nil];refine z0 (z0 (wpAny_onRaise ?_));show wpAny _ _ (Builtin.SmallTypes.nextOf (.ref i) >>= _) _ _ _;refine z0 (d1.item k { s with heap:=q1 } _ _ l1 (d1.frame _ _ _ h1 fun c hc o e=>b1.extBut c o (dj hc ap.zf) e) fun x q2 t2 px s2 b2=>z9 ?_);have v2:IsPair q2 v a b:=b2.extBut _ _ ap.vi (b1.extBut _ _ ap.vz hv);refine z0 (Yd v2 rfl (z0 (wpAny_updateSeq_pair v2 fun q3 w3 b3=>?_)))
 replace w3:IsPair q3 v x b:=w3
 refine z0 (wpAny_letGo (z9 ?_));refine z0 (z0 (wpAny_onRaise ?_));show wpAny _ _ (Builtin.SmallTypes.nextOf (.ref j) >>= _) _ _ _;refine z0 (d2.item k { s with heap:=q3,toks:=t2 } _ _ l2 (d2.frame _ _ _ h2 fun c hc o e=>b3.extBut c o (dj hc ap.vg) (b2.extBut c o (dj hc ap.ig) (b1.extBut c o (dj hc ap.zg) e))) fun y q4 t4 py s4 b4=>z9 ?_);have v4:IsPair q4 v x b:=b4.extBut _ _ ap.vj w3;refine z0 (Yd v4 rfl (z0 (wpAny_updateSeq_pair v4 fun q5 w5 b5=>?_)))
 replace w5:IsPair q5 v x y:=w5
 refine z0 (wpAny_letGo (z9 (z9 (z0 (Yd w5 rfl (z0 (wpAny_newTuple ?_)))))));have sz:q5.objs.size=s.heap.objs.size:=by rw[b5.1,b4.1,b3.1,b2.1,b1.1]
 have z5:IsZip q5 z u v .ellipsis:=b5.extBut _ _ ap.vz.symm (b4.extBut _ _ ap.jz.symm (b3.extBut _ _ ap.vz.symm (b2.extBut _ _ ap.iz.symm z1)));have k5:uU z v i j s.heap q5:=fun c o c1 c2 c3 c4 e=>b5.extBut _ _ c2 (b4.extBut _ _ c4 (b3.extBut _ _ c2 (b2.extBut _ _ c3 (b1.extBut _ _ c1 e))));have s5:S1 (k+1) q5:=d1.frame _ _ _ s2 fun c hc o e=>b5.extBut c o (dj hc ap.vf) (b4.extBut c o (dj hc ap.jf) (b3.extBut c o (dj hc ap.vf) e));have r5:S2 (k+1) q5:=d2.frame _ _ _ s4 fun c hc o e=>b5.extBut c o (dj hc ap.vg) e;have zlt:z<q5.objs.size:=Zi z5;show wpAny _ _ (Builtin.SmallTypes.ownedTupleHandOut (.ref z) (.ref q5.objs.size) >>= _) _ _ _;refine z0 ?_;unfold Builtin.SmallTypes.ownedTupleHandOut;refine z0 (wpAny_setField_rec (show IsZip (q5.push { cls:=.type "tuple",data:=.seq #[x,y] }) z u v .ellipsis from z6 _ z5) (by simp) fun q7 z7 b7=>?_)
 replace z7:IsZip q7 z u v (rawInt q5.objs.size):=z7
 refine wpAny_setField_rec z7 (by simp) fun q8 z8 b8=>?_
 replace z8:IsZip q8 z u v (rawInt q5.objs.size):=z8
 have up:∀c o,c≠z->q5.get? c=some o->q8.get? c=some o:=fun c o c1 e=>b8.extBut _ _ c1 (b7.extBut _ _ c1 (z6 _ e));have p8:IsPair q8 q5.objs.size x y:=b8.extBut _ _ (Z4 zlt) (b7.extBut _ _ (Z4 zlt) (Zg _ rfl));rw[sz]at z8 p8;refine z9 ⟨_,rfl,?_⟩;show Q (.ref q5.objs.size) _;rw[sz];exact cont q8 _ x y px py z8 (up _ _ ap.vz w5) (d1.frame _ _ _ s5 fun c hc o e=>up c o (dj hc ap.zf) e) (d2.frame _ _ _ r5 fun c hc o e=>up c o (dj hc ap.zg) e) p8 fun c o c1 c2 c3 c4 e=>up c o c1 (k5 c o c1 c2 c3 c4 e)
theorem C9(d1:Draws prog w A i f n P1 S1)(d2:Draws prog w A j g m P2 S2)(ap:ZAp z u v i j f g)(hz:IsZip s.heap z u v .none)(hu:IsPair s.heap u (.ref i) (.ref j))(hv:IsPair s.heap v a b)(h1:S1 n s.heap){Q:Fin->Shared->Prop}(cont:∀h' e,uU z v i j s.heap h'->(∃o,h'.get? e=some o/\o.cls=.type "StopIteration")->E (.ref e) { s with heap:=h' }):wpAny (model prog w) A (Builtin.«zip.__next__» ⟨[.ref z],[]⟩) Q E s:=by
 show wpAny _ _ (field (.ref z) 2 >>= _) _ _ _;refine z0 (ZQ hz rfl (x:=.bool false) rfl ?_);show wpAny _ _ (field (.ref z) 3 >>= _) _ _ _;refine z0 (ZQ hz rfl (x:=.ref u) rfl (z0 (Yd hu rfl ?_)));show wpAny _ _ (Builtin.SmallTypes.ownedTupleIsFree (.ref z) >>= _) _ _ _;refine z0 ?_;unfold Builtin.SmallTypes.ownedTupleIsFree;refine z0 (ZQ hz rfl (x:=.none) rfl (z9 ?_));simp only[if_true];refine z0 (wpAny_rule (z0 (ZQ hz rfl (x:=.ref v) rfl ?_)));refine z0 (wpAny_setField_rec hz (by simp) fun q1 z1 b1=>?_)
 replace z1:IsZip q1 z u v .ellipsis:=z1
 refine z0 ?_;simp only[List.zipIdx_cons,List.zipIdx_nil,List.forIn_cons,List.forIn_nil];refine z0 (z0 (wpAny_onRaise ?_));show wpAny _ _ (Builtin.SmallTypes.nextOf (.ref i) >>= _) _ _ _;refine z0 (d1.done { s with heap:=q1 } _ _ (d1.frame _ _ _ h1 fun c hc o e=>b1.extBut c o (dj hc ap.zf) e) fun q2 e b2 he=>?_);obtain⟨oe,hoe,hce⟩:=he;have z2:IsZip q2 z u v .ellipsis:=b2 _ _ ap.iz.symm z1;have ez:e≠z:=fun x=>by subst x;rw[z2]at hoe;cases hoe;simp at hce
 exact wpAny_setField_rec z2 (by simp) fun q3 _ b3=>cont q3 e (fun c o c1 _ c3 _ x=>b3.extBut _ _ c1 (b2 _ _ c3 (b1.extBut _ _ c1 x))) ⟨oe,b3.extBut _ _ ez hoe,hce⟩
end
section
variable{X:Cx}{pins:List (Addr×Obj)}{σ:St}{H:Hp}{s:Shared}{h':Heap}{ch:List Addr}{t':Nat}
theorem Inv.turnH{H':Hp}(I:Inv X pins σ H s)(hch:∀b∈ch,bH X pins H b)(kp:∀b o,b∉ch->s.heap.get? b=some o->h'.get? b=some o)(up:∀b u,H b=some u->H' b=some u)(dn:∀b o,s.heap.get? b=some o->H b=none->H' b=none)(hok:HOk X.prog X.w H' h') :
  Inv X pins σ H' { s with heap:=h',toks:=t' }:=by
 refine I.step (g':=s.gens) (d':=s.drawn) (ch:=ch) (fun b hb=>?_) (fun b o _ _ hc e _=>kp b o hc e) (fun b o _ _ hc e _=>⟨o.slots,kp b o hc e⟩) (fun b o _ e n=>dn b o e n) (fun b o hc e=>⟨o,kp b o hc e⟩) (fun b xs e=>up _ _ e) (fun b o u e=>up _ _ e) (fun b ps e=>⟨#[],by rw[up _ _ e];simp⟩) (fun m hm=>?_) hok I.bare
 ·obtain⟨f0,f1,f2,f3,f4,f5⟩:=hch b hb;exact⟨f3,f1,f4,f5⟩
 ·obtain⟨o,es,ep,ho,r⟩:=hm;exact⟨o,es,ep,kp _ o (fun z=>(hch _ z).2.1 rfl) ho,r⟩
theorem qY(I:Inv X pins σ H s)(hch:∀b∈ch,bH X pins H b)(kp:∀b o,b∉ch->s.heap.get? b=some o->h'.get? b=some o):HOk X.prog X.w H h':=fun b u e=>by
 have nin:∀{c:Addr} {q:HO},H c=some q->c∉ch:=fun{c q} e z=>by rw[(hch c z).1]at e;cases e
 refine(I.hok b u e).stay (fun c v hc q=>kp c v ?_ q) (fun _ q=>q) fun _ _ q=>q;rcases hc with z|z
 ·rw[z];exact nin e
 ·exact nin z
theorem Inv.turnM(I:Inv X pins σ H s)(hch:∀b∈ch,bH X pins H b)(kp:∀b o,b∉ch->s.heap.get? b=some o->h'.get? b=some o):Inv X pins σ H { s with heap:=h',toks:=t' } :=
 I.turnH hch kp (fun _ _ e=>e) (fun _ _ _ n=>n) (qY I hch kp)
theorem Inv.turnT{xs:List V}{its:List Value}(I:Inv X pins σ H s)(hch:∀b∈ch,bH X pins H b)(kp:∀b o,b∉ch->s.heap.get? b=some o->h'.get? b=some o)(hp:IsTup h' s.heap.objs.size its.toArray)(rv:Vals xs its)(hz:xs.length<=sizeLine) :
  Inv X pins σ (upd H s.heap.objs.size (.tup xs)) { s with heap:=h',toks:=t' }:=by
 have fr:=I.hok.fresh (Zb s.heap.objs.size);have ne:∀{b:Addr} {u:HO},H b=some u->b≠s.heap.objs.size:=fun{b u} e=>am e fr;have hk:=qY I hch kp;refine I.turnH hch kp (fun b u e=>by rw[af (ne e)];exact e) (fun b o e n=>by rw[af (Zn (Zi e))];exact n) fun b u e=>?_;by_cases hb:b=s.heap.objs.size
 ·subst hb;rw[ad]at e;cases e;exact⟨hz,its,rv,hp⟩
 ·rw[af hb]at e;exact(hk b u e).stay (fun _ _ _ q=>q) (fun c q=>by rw[af (ne q)];exact q) fun c ys q=>by rw[af (ne q)];exact q
end
def Itz(K:PySem.W.Frag)(a b:Addr)(xs ys:List V):It :=
 ⟨fun i H=>i<xs.length/\SqT K H a xs/\SqT K H b ys,fun i H x H'=>∃T p q,H T=none/\xs[i]?=some p/\ys[i]?=some q/\x=.ref T/\H'=upd H T (.tup [p,q]),fun i H=>i=xs.length/\SqT K H a xs/\SqT K H b ys⟩
abbrev zTn(z u v i1 i2 a b:Addr):Nat->Heap->Prop:=fun i h=>IsZip h z u v .none/\IsPair h u (.ref i1) (.ref i2)/\(∃p q,IsPair h v p q)/\h.IsTupleIter i1 a i/\h.IsTupleIter i2 b i
theorem Bg{P:Program}{w:World}{K:PySem.W.Frag}{elts:List Expr}{kt:Nat}{tp:Pos}{z u v i1 i2 a b:Addr}{xs ys:List V}(hl:xs.length=ys.length)(D:[z,u,v,i1,i2].Nodup)(ha:∀c∈[z,u,v,i1,i2],c≠a/\c≠b) :
  Turn P w K (.Tuple elts kt tp) (Itz K a b xs ys) [z,u,v,i1,i2] z (zTn z u v i1 i2 a b):=by
 have nd:(z≠u/\z≠v/\z≠i1/\z≠i2)/\(u≠v/\u≠i1/\u≠i2)/\(v≠i1/\v≠i2)/\i1≠i2:=by simpa using D
 obtain⟨⟨zu,zv,z1,z2⟩,⟨uv,u1,u2⟩,⟨v1,v2⟩,i12⟩:=nd;have az:=ha z (by simp);have av:=ha v (by simp);have a1:=ha i1 (by simp);have a2:=ha i2 (by simp);have ap:ZAp z u v i1 i2 [i1,a] [i2,b]:=⟨zu.symm,zv.symm,uv,u1,u2,v1,v2,z1.symm,z2.symm,i12,by simp[z1,az.1],by simp[z2,az.2],by simp[v1,av.1],by simp[v2,av.2],by simp[i12.symm,a2.1],by simp[i12,a1.2]⟩
 refine⟨by simp,fun i h st c hc=>?_,fun i h h' st k=>?_,?_,?_,fun A i s Q E st h=>wpAny_pyIter_zip st.1 h⟩
 ·obtain⟨e1,e2,⟨p,q,e3⟩,⟨o4,e4,_,d4⟩,⟨o5,e5,_,d5⟩⟩:=st;simp only[Zj,ZN,Ym]at hc;rcases hc with rfl|rfl|rfl|rfl|rfl
  ·exact⟨_,e1,fun v z=>nomatch z⟩
  ·exact⟨_,e2,fun v z=>nomatch z⟩
  ·exact⟨_,e3,fun v z=>nomatch z⟩
  ·exact⟨_,e4,fun v z=>by rw[d4]at z;cases z⟩
  ·exact⟨_,e5,fun v z=>by rw[d5]at z;cases z⟩
 ·obtain⟨e1,e2,⟨p,q,e3⟩,⟨o4,e4,r4⟩,⟨o5,e5,r5⟩⟩:=st;exact⟨k z (by simp) _ e1,k u (by simp) _ e2,⟨p,q,k v (by simp) _ e3⟩,⟨o4,k i1 (by simp) _ e4,r4⟩,⟨o5,k i2 (by simp) _ e5,r5⟩⟩
 ·intro X hP hw hK hc i pins s σ H E I hf st hg;subst hP hw hK;obtain⟨e1,e2,⟨p,q,e3⟩,e4,e5⟩:=st;obtain⟨hi,hx,hy⟩:=hg;obtain⟨its,rx,px,zx⟩:=I.tuple hx;obtain⟨jts,ry,py,zy⟩:=I.tuple hy;have lx:i<its.toArray.size:=by rw[Ze,<-rx.length];exact hi
  have ly:i<jts.toArray.size:=by rw[Ze,<-ry.length,<-hl];exact hi
  have hh:=I.ok.hd hc;have hT:s.TypeIs (.ref z) "zip":=⟨_,e1,rfl⟩
  unfold pyNext;refine z0 (wpAny_attempt (ZI (name:=Str.ofString "__next__") hT F.slot_zip_next (ZM F.slot_zip_next hT F.entry_zip_next
   (Bi (eW (A:=X.A.in1) hh i1 a a1.1.symm its.toArray) (eW (A:=X.A.in1) hh i2 b a2.2.symm jts.toArray) ap e1 e2 e3 ⟨e4,px⟩ ⟨e5,py⟩ lx ly fun h' tk x y qx qy zz vv s1 s2 pp kp=>z9 ?_) (F.args_zip_next_1 _))))
  refine⟨_,rfl,wpAny_letOwnedTupleGo_zip (s:={ s with heap:=h',toks:=tk }) zz fun h2 z2' sb=>?_⟩;obtain⟨xv,ex⟩:∃xv,xs[i]?=some xv:=⟨xs[i],by simp[hi]⟩
  obtain⟨yv,ey⟩:∃yv,ys[i]?=some yv:=⟨ys[i]'(by omega),by simp[show i<ys.length by omega]⟩
  obtain⟨x',gx,rxv⟩:=rx.get ex;obtain⟨y',gy,ryv⟩:=ry.get ey;have qx':its[i]?=some x:=by simpa using qx
  have qy':jts[i]?=some y:=by simpa using qy
  rw[gx]at qx';rw[gy]at qy';cases qx';cases qy';have ltz:z<s.heap.objs.size:=Zi e1;have kp2:∀c o,c∉[z,u,v,i1,i2]->s.heap.get? c=some o->h2.get? c=some o:=fun c o hc e=>by simp only[Zj,ZN,Ym,not_or]at hc;exact sb.extBut c o hc.1 (kp c o hc.1 hc.2.2.1 hc.2.2.2.1 hc.2.2.2.2 e)
  have tT:IsTup h2 s.heap.objs.size [x,y].toArray:=⟨_,sb.extBut _ _ (Z4 ltz) pp,rfl,_,rfl⟩
  refine⟨.ref s.heap.objs.size,upd H s.heap.objs.size (.tup [xv,yv]),I.turnT (t':=tk) hf kp2 tT (.cons rxv (.cons ryv .nil)) (sz rfl),rfl,⟨_,xv,yv,I.hok.fresh (Zb _),ex,ey,rfl,rfl⟩,?_,fun c hc=>?_⟩
  ·exact⟨z2',sb.extBut _ _ zu.symm (kp _ _ zu.symm uv u1 u2 e2),⟨_,_,sb.extBut _ _ zv.symm vv⟩,s1.1.extBut sb.extBut z1.symm,s2.1.extBut sb.extBut z2.symm⟩
  ·rw[af]
   ·exact(hf c hc).1
   ·obtain⟨o,eo,_⟩:∃o,s.heap.get? c=some o/\True:=by
     simp only[Zj,ZN,Ym]at hc;rcases hc with rfl|rfl|rfl|rfl|rfl
     ·exact⟨_,e1,trivial⟩
     ·exact⟨_,e2,trivial⟩
     ·exact⟨_,e3,trivial⟩
     ·obtain⟨o,eo,_⟩:=e4;exact⟨o,eo,trivial⟩
     ·obtain⟨o,eo,_⟩:=e5;exact⟨o,eo,trivial⟩
    exact Zn (Zi eo)
 ·intro X hP hw hK hc i pins s σ H E I hf st hg;subst hP hw hK;obtain⟨e1,e2,⟨p,q,e3⟩,e4,e5⟩:=st;obtain⟨rfl,hx,hy⟩:=hg;obtain⟨its,rx,px,zx⟩:=I.tuple hx;obtain⟨jts,ry,py,zy⟩:=I.tuple hy;have lx:its.toArray.size=xs.length:=by rw[Ze,<-rx.length]
  have hh:=I.ok.hd hc;have hT:s.TypeIs (.ref z) "zip":=⟨_,e1,rfl⟩
  unfold pyNext;refine z0 (wpAny_attempt (ZI (name:=Str.ofString "__next__") hT F.slot_zip_next (ZM F.slot_zip_next hT F.entry_zip_next
   (C9 (eW (A:=X.A.in1) hh i1 a a1.1.symm its.toArray) (eW (A:=X.A.in1) hh i2 b a2.2.symm jts.toArray) ap e1 e2 e3 ⟨by rw[lx];exact e4,px⟩ fun h' e kp he=>?_) (F.args_zip_next_1 _))))
  obtain⟨o,ho,hco⟩:=he;refine z0 (wpAny_isInstance (T:="StopIteration") (b:=true) ⟨o,ho,hco⟩ isSubtype_stop (z9 ⟨rfl,?_⟩));exact I.turnM (t':=s.toks) hf fun c ob hc e=>by simp only[Zj,ZN,Ym,not_or]at hc;exact kp c ob hc.1 hc.2.2.1 hc.2.2.2.1 hc.2.2.2.2 e
theorem vB(l1 l2:Addr)(xs ys:Array Value) :
  Meets (Builtin.«zip.__new__» ⟨[.type "zip",.ref l1,.ref l2],[]⟩) (fun _ R s=>s.heap.IsTuple l1 xs/\s.heap.IsTuple l2 ys /\
   R (.ok (.ret (.ref ((((s.heap.push { cls:=.type "tuple_iterator",data:=.fields #[.ref l1,.int 0 0] }).push { cls:=.type "tuple_iterator",data:=.fields #[.ref l2,.int 0 0] }).push { cls:=.type "tuple",data:=.seq #[.ref s.heap.objs.size,.ref (s.heap.push { cls:=.type "tuple_iterator",data:=.fields #[.ref l1,.int 0 0] }).objs.size] }).push { cls:=.type "tuple",data:=.seq #[.none,.none] }).objs.size)))
    { s with heap:=((((s.heap.push { cls:=.type "tuple_iterator",data:=.fields #[.ref l1,.int 0 0] }).push { cls:=.type "tuple_iterator",data:=.fields #[.ref l2,.int 0 0] }).push { cls:=.type "tuple",data:=.seq #[.ref s.heap.objs.size,.ref (s.heap.push { cls:=.type "tuple_iterator",data:=.fields #[.ref l1,.int 0 0] }).objs.size] }).push { cls:=.type "tuple",data:=.seq #[.none,.none] }).push { cls:=.type "zip",data:=.fields #[.none,.bool false,.bool false,.ref ((s.heap.push { cls:=.type "tuple_iterator",data:=.fields #[.ref l1,.int 0 0] }).push { cls:=.type "tuple_iterator",data:=.fields #[.ref l2,.int 0 0] }).objs.size,.ref (((s.heap.push { cls:=.type "tuple_iterator",data:=.fields #[.ref l1,.int 0 0] }).push { cls:=.type "tuple_iterator",data:=.fields #[.ref l2,.int 0 0] }).push { cls:=.type "tuple",data:=.seq #[.ref s.heap.objs.size,.ref (s.heap.push { cls:=.type "tuple_iterator",data:=.fields #[.ref l1,.int 0 0] }).objs.size] }).objs.size] } }) :=
 .of_wp fun prog w A R s h=>by
  obtain⟨hp,g,d,tk,os⟩:=s;obtain⟨t1,t2,h⟩:=h;have hsub:=sub_zip;have T1:Heap.IsTuple (Shared.heap ⟨hp,g,d,tk,os⟩) l1 xs:=t1;have T2:Heap.IsTuple (Shared.heap ⟨hp.push { cls:=.type "tuple_iterator",data:=.fields #[.ref l1,.int 0 0] },g,d,tk,os⟩) l2 ys:=Heap.IsTuple.push t2 _
  wp_walk using YJ T1,YJ T2
  exact⟨_,rfl,h⟩
theorem DU(n:Nat):[n+4,n+2,n+3,n,n+1].Nodup:=by simp
def DD(K:PySem.W.Frag)(ta:TA):TI:=fun σ H R=>ta σ H fun vs H1=>∃a b xs ys,vs=[.ref a,.ref b]/\SqT K H1 a xs/\SqT K H1 b ys/\xs.length=ys.length/\R (Itz K a b xs ys) H1
section
variable{X:Cx}
theorem Ev{e1 e2:Expr}{ta:TA}{p pos tp:Pos}{elts:List Expr}{kt:Nat}(hg:Gl X "zip")(hm:X.mg "zip" = none)(ha:PA X [e1,e2] ta)(n1:aR e1=true)(n2:aR e2=true):PI X (.Tuple elts kt tp) (.Call (.Name "zip" p) [e1,e2] [] pos) (DD X.K ta):=by
 intro pins s σ H R I h;refine Call_ (eE I hg hm boot_zip (Yp (thn (ha pos pins s σ H _ I h) fun us s1 hz9=>?_) (aY n1) (br (by simp[n2]))));obtain⟨vs,H1,I1,r1,q1⟩:=hz9;obtain⟨a,b,xs,ys,e,hx,hy,hl,q⟩:=q1;subst e;obtain⟨ua,ub,rfl,ra,rb⟩:=wF r1;cases ra;cases rb;obtain⟨its,rx,px,zx⟩:=I1.tuple hx;obtain⟨jts,ry,py,zy⟩:=I1.tuple hy;refine callType_new F.called_zip (by decide) (F.typeCall_zip_2 _ _) (F.newCall_zip_2 _ _) (fun obj=>F.args_object_init_3 obj _ _) F.entry_zip_new (vB a b its.toArray jts.toArray) ⟨px,py,?_⟩;generalize ea:({ cls:=.type "tuple_iterator",data:=.fields #[.ref a,.int 0 0] }:Obj)=oa;generalize eb:({ cls:=.type "tuple_iterator",data:=.fields #[.ref b,.int 0 0] }:Obj)=ob;have z1:(s1.heap.push oa).objs.size=s1.heap.objs.size+1:=Yx ..;have z2:((s1.heap.push oa).push ob).objs.size=s1.heap.objs.size+2:=by rw[Yx,z1]
 rw[z2,z1];generalize eu:({ cls:=.type "tuple",data:=.seq #[.ref s1.heap.objs.size,.ref (s1.heap.objs.size+1)] }:Obj)=ou;have z3:(((s1.heap.push oa).push ob).push ou).objs.size=s1.heap.objs.size+3:=by rw[Yx,z2]
 generalize ev:({ cls:=.type "tuple",data:=.seq #[.none,.none] }:Obj)=ov;have z4:((((s1.heap.push oa).push ob).push ou).push ov).objs.size=s1.heap.objs.size+4:=by rw[Yx,z3]
 rw[z4,z3];generalize ez:({ cls:=.type "zip",data:=.fields #[.none,.bool false,.bool false,.ref (s1.heap.objs.size+2),.ref (s1.heap.objs.size+3)] }:Obj)=oz;have g5:(((((s1.heap.push oa).push ob).push ou).push ov).push oz).get? (s1.heap.objs.size+4)=some oz:=by rw[<-z4];exact Zg _ (by rw[<-ez];rfl)
 have g4:(((((s1.heap.push oa).push ob).push ou).push ov).push oz).get? (s1.heap.objs.size+3)=some ov:=by rw[<-z3];exact z6 _ (Zg _ (by rw[<-ev];rfl))
 have g3:(((((s1.heap.push oa).push ob).push ou).push ov).push oz).get? (s1.heap.objs.size+2)=some ou:=by rw[<-z2];exact z6 _ (z6 _ (Zg _ (by rw[<-eu];rfl)))
 have g2:(((((s1.heap.push oa).push ob).push ou).push ov).push oz).get? (s1.heap.objs.size+1)=some ob:=by rw[<-z1];exact z6 _ (z6 _ (z6 _ (Zg _ (by rw[<-eb];rfl))))
 have g1:(((((s1.heap.push oa).push ob).push ou).push ov).push oz).get? s1.heap.objs.size=some oa:=z6 _ (z6 _ (z6 _ (z6 _ (Zg _ (by rw[<-ea];rfl)))));have kp:∀c o,s1.heap.get? c=some o->(((((s1.heap.push oa).push ob).push ou).push ov).push oz).get? c=some o:=fun c o e=>z6 _ (z6 _ (z6 _ (z6 _ (z6 _ e))));generalize((((s1.heap.push oa).push ob).push ou).push ov).push oz=hN at g1 g2 g3 g4 g5 kp ⊢;have I2:Inv X pins σ H1 { s1 with heap:=hN }:=I1.kept (t':=s1.toks) kp;have la:a<s1.heap.objs.size:=px.lt;have lb:b<s1.heap.objs.size:=py.lt;subst ea eb eu ev ez;have base:∀c∈[s1.heap.objs.size+4,s1.heap.objs.size+2,s1.heap.objs.size+3,s1.heap.objs.size,s1.heap.objs.size+1],s1.heap.objs.size<=c:=fun c hc=>by simp only[Zj,ZN,Ym]at hc;omega
 refine⟨⟨_,g5,rfl⟩,?_⟩;show wpAny (model X.prog X.w) X.A (pyIter (.ref (s1.heap.objs.size+4))) (PIE X pins σ (.Tuple elts kt tp) R) X.xe { s1 with heap:=hN };refine wpAny_pyIter_zip g5 ?_;refine⟨s1.heap.objs.size+4,[s1.heap.objs.size+4,s1.heap.objs.size+2,s1.heap.objs.size+3,s1.heap.objs.size,s1.heap.objs.size+1],zTn (s1.heap.objs.size+4) (s1.heap.objs.size+2) (s1.heap.objs.size+3) s1.heap.objs.size (s1.heap.objs.size+1) a b,_,H1,rfl,I2,
  Bg hl ?_ (fun c hc=>⟨Z4 (Zo la (base c hc)),Z4 (Zo lb (base c hc))⟩),⟨g5,g3,⟨_,_,g4⟩,⟨_,g1,rfl,rfl⟩,⟨_,g2,rfl,rfl⟩⟩,fun c hc=>?_,q⟩
 ·exact DU s1.heap.objs.size
 ·exact I1.fpOk (base c hc) (I1.hok.fresh (base c hc))
theorem Bs{e1 e2:Expr}{ta:TA}{p pos tp:Pos}{elts:List Expr}{kt:Nat}(hm:X.mg "zip" = none)(ha:QA X [e1,e2] ta)(hg:Gl X "zip":=by rfl)(n1:aR e1=true:=by rfl)(n2:aR e2=true:=by rfl):QI X (.Tuple elts kt tp) (.Call (.Name "zip" p) [e1,e2] [] pos) (DD X.K ta):=⟨Ev hg hm ha.h n1 n2⟩
end
open PySem PySem.Spec PyProof.Rows
theorem zS{J:It}{N n:Nat}{cap:List Nat}{g:TG}{tc:TT}{te:TE}{σ:St}{H0:Hp}{Q:VK}(keep:Nat->Bool)(f:Nat->V)(hz:N<=1000)(hgo:∀ i H,i<N->Same H0 H->J.go i H)(hst:∀ H,Same H0 H->J.stop N H)(ht:∀ i H x H',i<N->Same H0 H->J.yld i H x H'->∀ (A:VK) (B:Hp->Prop),(keep i=true->∀ H4,Same H H4->A (f i) H4)->(keep i=false->∀ H4,Same H H4->B H4) ->
   g x (bJ n cap σ) H' fun σ2 H2=>tc σ2 H2 fun b H3=>if b=true then te σ2 H3 A else B H3)(hq:∀ p H,Same H0 H->H p=none->Q (.ref p) (upd H p (.lst (((List.range N).filter keep).map f)))):cY n cap g tc te σ J H0 Q:=by
 refine⟨fun i m ys H=>m=N-i/\i<=N/\Same H0 H/\ys=((List.range i).filter keep).map f,⟨N,by simp,ZV _,Same.refl _,rfl⟩,?_⟩;rintro i m ys H ⟨rfl,hi,sm,rfl⟩;by_cases hlt:i<N
 ·refine .inr ⟨hgo i H hlt sm,?_,fun x H' y=>?_⟩
  ·rw[Za];have:=Z5 keep (List.range i);rw[List.length_range]at this;exact gQ (by omega)
  ·refine ht i H x H' hlt sm y _ _ (fun k H4 s4=>⟨N-(i+1),by omega,rfl,hlt,sm.trans s4,?_⟩) (fun k H4 s4=>⟨N-(i+1),by omega,rfl,hlt,sm.trans s4,?_⟩)
   ·rw[List.range_succ,y7,Zz];simp[k]
   ·rw[List.range_succ,y7,Zz];simp[k]
 ·have e:i=N:=by omega
  subst e;exact .inl ⟨hst H sm,fun p hp=>hq p H sm hp⟩
theorem qQ{K:PySem.W.Frag}{a b:Addr}{xs ys:List V}{n:Nat}{cap:List Nat}{te:TE}{σ:St}{H0:Hp}{Q:VK}(f:Nat->V)(hz:xs.length<=1000)(ha:SqT K H0 a xs)(hb:SqT K H0 b ys)(hl:xs.length=ys.length)(he:∀i x y H,xs[i]?=some x->ys[i]?=some y->Same H0 H->∀R:VK,(∀H',Same H H'->R (f i) H')->te (((bJ n cap σ).set 0 (some x)).set 1 (some y)) H R)(hq:∀p H,Same H0 H->H p=none->Q (.ref p) (upd H p (.lst ((List.range xs.length).map f)))):cY n cap (ji K 2 (dJ (bz 0) (dJ (bz 1) jh))) fN te σ (Itz K a b xs ys) H0 Q:=by
 refine zS (N:=xs.length) (fun _=>true) f hz (fun i H hi sm=>⟨hi,dN sm ha,dN sm hb⟩) (fun H sm=>⟨rfl,dN sm ha,dN sm hb⟩) (fun i H x H' hi sm y A B kA kB=>?_) (fun p H sm hp=>?_)
 ·obtain⟨T,p,q,hT,hx,hy,rfl,rfl⟩:=y;have s1:=ah hT (.tup [p,q]);refine⟨T,[p,q],rfl,SqT.of ad,rfl,p,[q],rfl,q,[],rfl,rfl,?_⟩;unfold fN;refine aL ?_;exact he i p q _ hx hy (sm.trans s1) _ fun H4 s4=>kA rfl H4 (s1.trans s4)
 ·have:=hq p H sm hp;rw[List.filter_eq_self.mpr (fun _ _=>rfl)];exact this
inductive rCatS  (x:V)(y:V)(H:Hp)(Q:VK):Prop
 |mk (a b xs ys:_) (h0:x=.ref a) (h1:y=.ref b) (h2:H a=some (.tup xs)) (h3:H b=some (.tup ys)) (h4:xs.length+ys.length<=sizeLine) (h5:∀p H',Same H H'->H' p=some (.tup (xs++ys))->Q (.ref p) H'):rCatS  x y H Q
section
variable{X:Cx}
theorem Ck:OpR X (binaryOp .Add) rCatS:=by
 intro pins s σ H x y v u Q I rx ry h;obtain⟨a,b,xs,ys,rfl,rfl,ha,hb,hz,q⟩:=h;by_cases hx:xs=[]
 ·cases rx;cases ry;obtain⟨its,r1,p1,_⟩:=I.tuple (SqT.of (K:=X.K) ha);obtain⟨its2,r2,p2,_⟩:=I.tuple (SqT.of (K:=X.K) hb);obtain⟨⟨cls,dd,data,sl⟩,ho,hc,n,hd⟩:=id p1;obtain⟨⟨cls2,dd2,data2,sl2⟩,ho2,hc2,n2,hd2⟩:=id p2;simp only at hc hd hc2 hd2;subst hc hd hc2 hd2;have e:its=[]:=r1.nil_iff.mpr hx;subst e;refine PySem.concat_meets ⟨_,ho,rfl⟩ ⟨_,ho2,rfl⟩ noFill_tuple_add seq_tuple_add PySem.F.slot_tuple_add PySem.F.entry_tuple_add (PySem.F.args_tuple_add_2 _ _)
   (tuple_addW0 a b _ its2.toArray n n2 dd dd2 sl sl2 (by simp)) ⟨ho,ho2,⟨.ref b,H,I,rfl,q b H (Same.refl H) ?_⟩⟩
  rw[hx];exact hb
 ·exact Cl pins s σ H _ _ v u Q I rx ry ⟨a,b,xs,ys,rfl,rfl,SqT.of ha,SqT.of hb,hx,hz,fun e=>q a H (Same.refl H) (by rw[e,ZO];exact ha),fun _ p hp=>q p _ (ah hp _) ad⟩
theorem yc:QOp X (binaryOp .Add) rCatS:=⟨Ck⟩
theorem kM:fillsNumberSlot (.type "tuple") "mul" = pure false :=
 PySem.fillsNumberSlot_seq (id:="tuple.__mul__") (r:=some (.builtin "tuple.__rmul__")) F.slot_tuple_mul.lookup (by decide +kernel) F.slot_tuple_rmul.lookup (by decide +kernel)
theorem rH:seqRepeat? (.type "tuple")=pure (some (.builtin "tuple.__mul__")):=by unfold seqRepeat?;rw[PySem.seqSlot_of (T:="tuple") (name:="__mul__") (id:="tuple.__mul__") F.slot_tuple_mul.lookup (by decide +kernel),PySem.seqSlot_of (T:="tuple") (name:="__rmul__") (id:="tuple.__rmul__") F.slot_tuple_rmul.lookup (by decide +kernel)];rfl
theorem nh(a:Int)(t:Tok)(l:Addr)(items:Array Value)(n:Nat)(dd:Option Addr)(sl:Array (Option Value)) :
  Meets (Builtin.«int.__rmul__» ⟨[.int a t,.ref l],[]⟩) (fun _ R s=>s.heap.get? l=some { cls:=.type "tuple",dict:=dd,data:=.seq items n,slots:=sl }/\R (.ok (.ret Value.notImplemented)) s) :=
 .of_wp fun prog w A R s h=>by obtain⟨hp,g,d,tk,os⟩:=s;obtain⟨hl,h⟩:=h;wp_walk using YC hl;exact⟨_,rfl,h⟩
theorem qe(l:Addr)(items:Array Value)(n:Nat)(dd:Option Addr)(sl:Array (Option Value))(u:Tok) :
  Meets (Builtin.«tuple.__mul__» ⟨[.ref l,.int 1 u],[]⟩) (fun _ R s=>s.heap.get? l=some { cls:=.type "tuple",dict:=dd,data:=.seq items n,slots:=sl }/\R (.ok (.ret (.ref l))) s) :=
 .of_wp fun prog w A R s h=>by obtain⟨hp,g,d,tk,os⟩:=s;obtain⟨hl,h⟩:=h;have f1:=AutoSeq1.idx_int;wp_walk using YC hl;exact⟨_,rfl,h⟩
theorem oy(l:Addr)(items:Array Value)(n:Nat)(dd:Option Addr)(sl:Array (Option Value))(k:Int)(u:Tok)(c1:¬(k < -(2^63) ||k>=2^63)=true)(c2:¬(items.isEmpty ||k==1)=true)(c3:¬(decide (k<=0) ||items.isEmpty)=true)(c4:¬items.size*k>(2^63-1) / 8)(c5:¬Builtin.Tuple.tupleTooMany (items.size*k)=true)(c6:(List.foldl (fun x1 x2=>x1++x2) #[] (List.replicate k.toNat items)).size<=sizeLine) :
  Meets (Builtin.«tuple.__mul__» ⟨[.ref l,.int k u],[]⟩) (fun _ R s=>s.heap.get? l=some { cls:=.type "tuple",dict:=dd,data:=.seq items n,slots:=sl } /\
   R (.ok (.ret (.ref s.heap.objs.size))) { s with heap:=s.heap.push { cls:=.type "tuple",data:=.seq (List.foldl (fun x1 x2=>x1++x2) #[] (List.replicate k.toNat items)) } }) :=
 .of_wp fun prog w A R s h=>by obtain⟨hp,g,d,tk,os⟩:=s;obtain⟨hl,h⟩:=h;have f1:=AutoSeq1.idx_int;wp_walk using YC hl;rw[HU c1];wp_walk using YC hl;rw[HU c4];wp_walk using YC hl;exact⟨_,rfl,h⟩
def Bz:R2:=fun x y H Q=>∃a k xs,x=.ref a/\y=.int k/\H a=some (.tup xs)/\1<=k/\k<=1000/\xs≠[]/\xs.length*k.toNat<=sizeLine/\∀p H',Same H H'->H' p=some (.tup (List.replicate k.toNat xs).flatten)->Q (.ref p) H'
theorem Co:OpR X (binaryOp .Mult) Bz:=by
 intro pins s σ H x y v u Q I rx ry h;obtain⟨a,k,xs,rfl,rfl,ha,k1,k2,hx,hz,q⟩:=h;cases rx;obtain⟨t,rfl⟩:=ry;obtain⟨its,r1,p1,_⟩:=I.tuple (SqT.of (K:=X.K) ha);obtain⟨⟨cls,dd,data,sl⟩,ho,hc,n,hd⟩:=id p1;simp only at hc hd;subst hc hd;have hne:its≠[]:=fun z=>hx (r1.nil_iff.mp z);refine wpAny_binaryOp_repeat_ref (T:="tuple") (U:="int") (by decide) ⟨_,ho,rfl⟩ (fun s'=>typeIs_int s' k t) kM F.fills_int_mul F.slot_int_rmul rH F.slot_int_index.lookup
  (call_meets F.slot_int_rmul (typeIs_int s k t) F.entry_int_rmul (F.args_int_rmul_2 _ _) (nh k t a its.toArray n dd sl) ⟨ho,rfl,⟨_,ho,rfl⟩,?_⟩)
 by_cases hk:k=1
 ·subst hk;refine call_meets F.slot_tuple_mul ⟨_,ho,rfl⟩ F.entry_tuple_mul (F.args_tuple_mul_2 _ _) (qe a its.toArray n dd sl t) ⟨ho,⟨.ref a,H,I,rfl,q a H (Same.refl H) ?_⟩⟩;have e:(List.replicate (1:Int).toNat xs).flatten=xs:=by simp
  rw[e];exact ha
 ·have hl:its.length=xs.length:=r1.length.symm;have hnew:List.foldl (fun x1 x2=>x1++x2) #[] (List.replicate k.toNat its.toArray)=(List.replicate k.toNat its).flatten.toArray:=by have:=oS its k.toNat [];rw[List.nil_append]at this;exact this
  have hlen:(List.replicate k.toNat its).flatten.length<=sizeLine:=by rw[uk,hl,Nat.mul_comm];exact hz
  have hzk:((its.toArray.size:Int)*k)<=(sizeLine:Int):=by
   have e:((its.toArray.size:Int)*k)=((xs.length*k.toNat:Nat):Int):=by rw[Ze,hl,Int.natCast_mul];congr 1;omega
   rw[e];exact Int.ofNat_le.mpr hz
  have hcap:(sizeLine:Int)<=(2^63-1) / 8:=by decide
  have hemp:its.toArray.isEmpty=false:=by
   cases its with
   |nil=>exact absurd rfl hne
   |cons _ _=>rfl
  refine call_meets F.slot_tuple_mul ⟨_,ho,rfl⟩ F.entry_tuple_mul (F.args_tuple_mul_2 _ _) (oy a its.toArray n dd sl k t ?_ ?_ ?_ (by omega) ?_ (by rw[hnew,Ze];exact hlen)) ⟨ho,?_⟩
  ·simp only[Bool.or_eq_true,Z6,not_or];omega
  ·simp[hemp,hk]
  ·have h1:¬k<=0:=by omega
   simp[hemp,h1]
  ·unfold Builtin.Tuple.tupleTooMany;simp only[Z6];omega
  ·rw[hnew];refine⟨.ref s.heap.objs.size,_,I.laid (t':=s.toks) (o:=.tup (List.replicate k.toNat xs).flatten) (fun b ob q=>z6 _ q) (Zb _) ?_,rfl,q _ _ (ah (I.hok.fresh (Zb _)) _) ad⟩;exact⟨by rw[uk,Nat.mul_comm];exact hz,_,r1.rep k.toNat,IsTup.new _ _⟩
theorem kI{ns:List Int}{i:Nat}{x:V}(h:(ns.map V.int)[i]?=some x):x=.int (ai ns i)/\i<ns.length:=by
 rw[Zx]at h;unfold ai;cases e:ns[i]? with
 |none=>rw[e]at h;cases h
 |some z =>rw[e]at h;cases h;exact⟨rfl,(Zv.mp e).1⟩
theorem rK{n d:Nat}{h:Int}(h0:0<=h):HT.sIx n d (some h)=min h.toNat n:=by have e:=HT.sIx_nat n d h.toNat;rw[show((h.toNat:Nat):Int)=h by omega]at e;exact e
variable{K:PySem.W.Frag}(hK:X.K=K)
include hK
theorem mM:QIx X (rIxT K):=by subst hK;exact aI
theorem xF{es:List Expr}{k n:Nat}{gs:TGs}{pos:Pos}(hc:X.calm=true)(h:QGs X es gs)(hn:(assignEach es X.env).length=n:=by rfl)(hst:(assignEach es X.env).findIdx? (·.1)=none:=by rfl):QG X (.Tuple es k pos) (ji K n gs):=by subst hK;exact qg hc h hn hst
omit hK
theorem DZ:QOp X (binaryOp .Mult) Bz:=⟨Co⟩
end
open PySem PySem.Spec PyProof.Rows PySem.W
section
variable{X:Cx}
theorem ye:QOp X (compareOp .IsNot) (fun x y H Q=>∃b c,x=.bl b/\y=.bl c/\Q (.bl (!decide (b=c))) H):=by refine⟨?_⟩;intro pins s σ H x y v u Q I rx ry h;obtain⟨b,c,rfl,rfl,q⟩:=h;cases rx;cases ry;cases b<;>cases c<;>exact z9 ⟨.bl _,H,I,rfl,q⟩
variable{o e d:Expr}{to te td:TE}{apos cpos:Pos}
theorem jc{prog:Program}{w:World}{A:Around}{E:Value->Shared->Prop}{s:Shared}{t sl:Addr}{items:Array Value}{vl vu:Value}{lo hi:Option Int}{Q:Value->Shared->Prop}(ht:IsTup s.heap t items)(hs:s.heap.IsSliceOf sl vl vu .none)(pl:IsPart vl lo)(pu:IsPart vu hi)(hw:HT.sIx items.size 0 lo=0/\HT.sIx items.size items.size hi=items.size)(h:Q (.ref t) s):wpAny (model prog w) A (getItem (.ref t) (.ref sl)) Q E s:=by
 obtain⟨os,hos,hcs,hds⟩:=id hs;have hTs:s.TypeIs (.ref sl) "slice":=⟨os,hos,hcs⟩
 unfold getItem
 try with_reducible refine ZT ?_
 first|refine z0 (z9 ?_)|skip
 refine z0 (wpAny_sequenceKey ht.typeIs (by decide) ?_);refine z0 (ZI (name:=Str.ofString "__getitem__") ht.typeIs Z7
  (ZM Z7 ht.typeIs entry_tuple_getitem ?_ (args_tuple_getitem _ _)))
 show wpAny _ _ (Builtin.Tuple.tupleItemsOf (.ref t) >>= _) _ _ s;refine z0 (tupleItemsOf_ ht ?_);refine z0 (wpAny_typeOf hTs ?_);rw[HV (by decide)];refine z0 (HT.sliceApplied_gen hs pl pu ?_);show wpAny _ _ (if(((HT.sIx items.size 0 lo:Nat):Int)==0&&(1:Int)==1&&(HT.sIx items.size items.size hi-HT.sIx items.size 0 lo)==items.size)=true then _ else _) _ _ s;rw[HV (by rw[hw.1,hw.2];simp)];refine z0 (m:=Builtin.Tuple.tupleIsExact _) ?_;unfold Builtin.Tuple.tupleIsExact;refine z0 (wpAny_typeOf ht.typeIs (z9 ?_));rw[HV (by decide)];exact z0 (wpAny_rule (z9 ⟨_,rfl,z9 h⟩))
def Gv:V->Option Int->Option Int->Hp->VK->Prop:=fun x lo hi H Q=>∃a xs,x=.ref a/\H a=some (.tup xs)/\∀p H',Same H H'->H' p=some (.tup (de xs lo hi))->Q (.ref p) H'
theorem rj:QSl X Gv:=by
 refine⟨?_⟩;intro pins s σ H x v vl vu lo hi sl Q I rx hs pl pu h;obtain⟨a,xs,rfl,hx,q⟩:=h;by_cases hw:HT.sIx xs.length 0 lo=0/\HT.sIx xs.length xs.length hi=xs.length
 ·cases rx;obtain⟨its,r,ht,hz⟩:=I.tuple (SqT.of (K:=X.K) hx);have hlen:its.toArray.size=xs.length:=by rw[Ze];exact r.length.symm
  refine⟨"tuple",_,Z7.lookup,ht.typeIs,jc ht hs pl pu (by rw[hlen];exact hw) ⟨.ref a,H,I,rfl,q a H (Same.refl H) ?_⟩⟩;unfold de;rw[hw.1,hw.2,List.drop_zero,Nat.sub_zero,Yv];exact hx
 ·exact EX pins s σ H _ v vl vu lo hi sl Q I rx hs pl pu ⟨a,xs,rfl,SqT.of hx,hw,fun p hp=>q p _ (ah hp _) ad⟩
end
section
variable{prog:Program}{w:World}{A:Around}{s:Shared}{fin:Bool}{Q:Bool->Shared->Prop}
theorem kl(ns:List Int):∀(ms:List Int) (vs ws:List Value) (i:Nat),IntsAre vs ns->IntsAre ws ms->fin=decide (ns.length<ms.length)->Q (HT.lexLt ns ms) s->KatLex prog w A true fin Q (vs.zip ws) i s:=by
 induction ns with
 |nil =>
  intro ms vs ws i a b hf q;subst hf;cases a;cases b with
  |nil=>exact kat_nil q
  |cons _ _ _=>exact kat_nil (by rw[decide_eq_true (by simp)];exact q)
 |cons x ns ih =>
  intro ms vs ws i a b hf q;cases a with
  |cons _ t h1 =>
  cases b with
  |nil =>subst hf;exact kat_nil q
  |cons y u h2 =>
  obtain⟨e,he,iff⟩:=HT.eqAt_int A s x t y u;rw[HT.lexLt_cons]at q;refine kat_cons (he _ _ _ _ (kat_go (fun et=>?_) (fun ef=>?_)))
  ·rw[HV (iff.mp et)]at q;exact kat_yes (ih _ _ _ (i+1) h1 h2 (by rw[hf];simp) q)
  ·have hne:x≠y:=fun z=>by rw[iff.mpr z]at ef;cases ef
   rw[HU hne]at q;refine kat_no ?_;cases i with
   |zero=>exact oneLt_int q
   |succ i=>exact kat_one _ _ (PyProof.Rows.lt_int q)
end
section
variable{X:Cx}{pins:List (Addr×Obj)}{σ:St}{H:Hp}{s:Shared}{h':Heap}
theorem eO{P:Program}{w:World}{H:Hp}{h:Heap}{a:Addr}{o:HO}(x:ObjOk P w H h a o):∃ob,h.get? a=some ob:=by
 cases o with
 |lst xs =>obtain⟨_,_,_,_,e⟩:=x;exact⟨_,e⟩
 |tup xs =>obtain⟨_,_,_,ob,e,_⟩:=x;exact⟨ob,e⟩
 |dK kvs =>obtain⟨_,_,_,_,ob,_,_,e,_⟩:=x;exact⟨ob,e⟩
 |dT kvs =>obtain⟨_,_,_,_,ob,_,_,e,_⟩:=x;exact⟨ob,e⟩
 |set S n =>obtain⟨ob,_,_,_,e,_⟩:=x;exact⟨ob,e⟩
 |ins C dx fs =>obtain⟨_,_,_,e,_⟩:=x;exact⟨_,e⟩
 |own y=>exact x
 |xd fs =>obtain⟨_,⟨ob,_,_,e,_⟩,_⟩:=x;exact⟨ob,e⟩
 |rng lo hi =>obtain⟨_,_,_,e⟩:=x;exact⟨_,e⟩
 |frz ob u=>exact⟨ob,x.1⟩
 |tbl ps=>exact⟨_,x⟩
 |met f y=>exact⟨_,x⟩
 |ext φ=>exact x.2.1
theorem none_of(I:Inv X pins σ H s){a:Addr}(hg:s.heap.get? a=none):H a=none:=by
 cases q:H a with
 |none=>rfl
 |some u =>obtain⟨ob,e⟩:=eO (I.hok a u q);rw[hg]at e;cases e
theorem Inv.laidF{a:Addr}{o:HO}{t':Nat}(I:Inv X pins σ H s)(k:∀b u,b≠X.env.locals->s.heap.get? b=some u->h'.get? b=some u)(hn:∃m,s.heap.Ns X.env.locals m/\h'.Ns X.env.locals m)(hg:s.heap.get? a=none)(new:ObjOk X.prog X.w (upd H a o) h' a o):Inv X pins σ (upd H a o) { s with heap:=h',toks:=t' }:=by
 have fr:=none_of I hg;have ne:∀{b:Addr} {u:HO},H b=some u->b≠a:=fun{b u} e=>am e fr;have lt:∀{b:Addr} {u:Obj},s.heap.get? b=some u->b≠a:=fun{b u} e z=>by rw[z,hg]at e;cases e
 have neL:∀{b:Addr} {u:HO},H b=some u->b≠X.env.locals:=fun{b u} e=>am e I.free;refine I.step (g':=s.gens) (d':=s.drawn) (ch:=[]) (fun b hb=>by simp at hb) (fun b o hL _ _ e _=>k b o hL e) (fun b o hL _ _ e _=>⟨o.slots,k b o hL e⟩) (fun b o _ e n=>by rw[af (lt e)];exact n) (fun b o _ e=>?_)
  (fun b xs e=>by rw[af (ne e)];exact e) (fun b o u e=>by rw[af (ne e)];exact e) (fun b ps e=>⟨#[],by rw[af (ne e),e];simp⟩) (fun m' hm'=>?_) (fun b u e=>?_) I.bare
 ·by_cases hL:b=X.env.locals
  ·obtain⟨m,_,o',_,_,e',_⟩:=hn;exact⟨o',by rw[hL];exact e'⟩
  ·exact⟨o,k b o hL e⟩
 ·obtain⟨m,h1,h2⟩:=hn;rw[hm'.eq_nsMap,<-h1.eq_nsMap];exact h2
 ·by_cases hb:b=a
  ·subst hb;rw[ad]at e;cases e;exact new
  ·rw[af hb]at e;refine(I.hok b u e).stay (fun c v hc q=>k c v ?_ q) (fun c q=>by rw[af (ne q)];exact q) fun c ys q=>by rw[af (ne q)];exact q
   rcases hc with z|z
   ·rw[z];exact neL e
   ·exact neL z
def mm(base h:Heap)(L:Addr):List (Addr×Obj):=(List.range h.objs.size).filterMap fun b=>if b=L\/(base.get? b).isSome=true then none else(h.get? b).map fun o=>(b,o)
theorem hG(base h:Heap)(L:Addr):News base L h (mm base h L):=fun p hp=>by
 obtain⟨b,_,e⟩:=YK.mp hp;by_cases c:b=L\/(base.get? b).isSome=true
 ·rw[HV c]at e;cases e
 ·rw[HU c]at e;cases q:h.get? b with
  |none=>rw[q]at e;cases e
  |some o =>
   rw[q]at e;cases e;refine⟨q,fun z=>c (.inl z),?_⟩;cases z:base.get? b with
   |none=>rfl
   |some u=>exact absurd (.inr (by rw[z];rfl)) c
theorem cS{base h:Heap}{L b:Addr}{o:Obj}(e:h.get? b=some o)(hL:b≠L)(hb:base.get? b=none):(b,o)∈mm base h L:=by refine YK.mpr ⟨b,Z8.mpr (Zi e),?_⟩;rw[HU (by rintro(z|z);exact hL z;rw[hb]at z;cases z),e];rfl
end
theorem ie(ns:List Int):SeqAt.shaped (.tuple (ns.map .int))=true:=by
 unfold SeqAt.shaped;rw[Zk];refine⟨?_,?_⟩
 ·simp only[PyData.canLay0];exact PyProof.Rows.canLayAll_ints ns
 ·refine decide_eq_true ?_;simp only[PyData.depth];rw[PyProof.Rows.depthAll_ints ns];decide
theorem kj:∀(ns ms:List Int),PyData.eqvAll (ns.map .int) (ms.map .int)=decide (ns=ms)
 | [],[]=>by simp[PyData.eqvAll]
 | [],_::_=>by simp[PyData.eqvAll]
 |_::_,[]=>by simp[PyData.eqvAll]
 |x::ns,y::ms=>by simp only[ZH,PyData.eqvAll,PyData.eqv];rw[kj ns ms,Yq];simp
theorem kH(ns ms:List Int):PyData.eqv (.tuple (ns.map .int)) (.tuple (ms.map .int))=decide (ns=ms):=by simp only[PyData.eqv];exact kj ns ms
theorem je{H:Hp}{a:Addr}{ns:List Int}(h:H a=some (.tup (ns.map V.int))):Dt H (.tuple (ns.map .int)) (.ref a):=by simp only[Dt];exact⟨a,_,rfl,Rd.of h,io ns⟩
section
variable{X:Cx}
theorem yd(hu:X.A.units+64<cLine):QOp X (compareOp .NotEq) (fun x y H Q=>∃(a b:Addr) (ns ms:List Int),x=.ref a/\y=.ref b/\H a=some (.tup (ns.map V.int))/\H b=some (.tup (ms.map V.int))/\Q (.bl (!decide (ns=ms))) H):=by refine⟨?_⟩;intro pins s σ H x y v u Q I rx ry h;obtain⟨a,b,ns,ms,rfl,rfl,ha,hb,q⟩:=h;exact yo hu pins s σ H _ _ v u Q I rx ry ⟨_,_,je ha,je hb,ie ns,ie ms,by rw[kH];exact q⟩
end
theorem Fw{x:V}{A B:Prop}(h:x≠.non)(hA:A):if(!decide (x=.non))=true then A else B:=by rw[decide_eq_false h];exact aL hA
theorem lU{x:V}{A B:Prop}(h:x≠.non)(hB:B):if decide (x=.non)=true then A else B:=by rw[decide_eq_false h];exact ax hB
theorem iM{c A B:Prop}[Decidable c](h:c)(hA:A):if decide c=true then A else B:=by rw[decide_eq_true h];exact aL hA
theorem kJ{c A B:Prop}[Decidable c](h1:c->A)(h2:¬c->B):if decide c=true then A else B:=by
 by_cases h:c
 ·exact iM h (h1 h)
 ·rw[decide_eq_false h];exact ax (h2 h)
open PySem PySem.Spec PyProof.Rows
structure CompOk1(X:Cx)(scope:Scope)(cx:Str)(cap:List Nat)(capN:List Str):Prop where
 kind:scope.kind=.function
 names:∀x∈scope.names,x.2=.local->scope.names.lookup x.1=some .local
 onecell:∀y∈scope.names,y.2=.cell->y.1=cx
 own:scope.names.lookup cx=some .cell
 cf:∀(n:Nat) (acc:List (Str×Addr)),cellsFrom n scope.names acc=(cx,n)::acc
 pc:∀h:Heap,pushCells h scope.names=h.push { cls:=.type "cell",data:=.cell none }
 frees:(scope.names.all fun y=>!(y.2==NameKind.free) ||(X.env.kindOf y.1==some .cell ||X.env.kindOf y.1==some .free))=true
 cap:CapOk X scope cap capN
theorem fG:∀{vs:List Value} {ns:List Int},IntsAre vs ns->∃xs:List (Int×Tok),vs=xs.map (fun p=>.int p.1 p.2)/\ns=xs.map (·.1)
 |_,_,.nil=>⟨[],rfl,rfl⟩
 |_,_,.cons n t h=>by obtain⟨xs,e1,e2⟩:=fG h;exact⟨(n,t)::xs,by rw[e1];rfl,by rw[e2];rfl⟩
open PySem PySem.Spec PyProof.Rows PySem.W
def dZ(h:Heap)(e:Addr)(dc:Option Addr):Prop:=∃o,h.get? e=some o/\o.dict=dc
theorem mZ(f:Array Value->Array Value)(o:Obj):(Obj.mapFields f o).dict=o.dict:=by unfold Obj.mapFields;split<;>rfl
section
variable{M:Model}{A:Around}{E:Value->Shared->Prop}{s:Shared}{base:Heap}{env:Env}{outer l:List Env}{L e:Addr}
theorem ko{oe:Obj}{vs:Array Value}{hd0 a0:Value}{nx:Bool}{Q:Unit->Shared->Prop}(fr:A.frames=some (env::outer))(ff:s.heap.FunFrames base (env::outer))(ef:env.frame=some L)(he:s.heap.get? e=some oe)(kb:base.StaysIn s.heap)(en:base.get? e=none)(dt:oe.data=.fields vs)(sz:1<vs.size)(v0:vs[0]?=some a0)(k:∀h',Heap.NotedW base (env::outer) e oe.cls a0 (rawInt L) s.heap h'->dZ h' e oe.dict->Q () { s with heap:=h' }) :
  wpAny M A (do let a ←frameOf env;let pl ←entryPlaceOf L nx;let b ←EntryCells.newEntry hd0 a .none (rawInt L) .none pl;setField (.ref e) 1 b) Q E s:=by
 have nf:e∉(env::outer).filterMap (·.frame):=fun hm=>by obtain⟨_,o,ho,hn⟩:=ff.mem hm;cases Zu (he.symm.trans ho);exact hn vs dt
 refine z0 (wpAny_frameOf_fun fr ff ef fun h1 k1=>z0 (wpAny_entryPlaceOf fun pl hpl=>?_));unfold EntryCells.newEntry newFields;refine z0 (ZB ?_ (hpl.sizeOk5 _ _ _ _ _));have t3:([hd0,.ref L,.none,rawInt L,.none]++(if pl.isEmpty then List.replicate 6 Value.none else pl)).toArray[3]?=some (rawInt L):=by simp
 generalize([hd0,.ref L,.none,rawInt L,.none]++(if pl.isEmpty then List.replicate 6 Value.none else pl)).toArray=ts at t3 ⊢;have g1:h1.get? e=some oe:=(k1.2.1 e nf).trans he;have st1:base.StaysIn h1:=fun b o hb=>(k1.2.1 b fun hm=>nomatch(hb.symm.trans (ff.mem hm).1)).trans (kb b o hb);have gp:(h1.push { cls:=.type "traceback",data:=.fields ts }).get? e=some oe:=z6 _ g1;have ne:h1.objs.size≠e:=Z4 (Zi g1);have dm:=Z3 dt (·.setIfInBounds 1 (Value.ref h1.objs.size));have self:=Z0 (Obj.mapFields (·.setIfInBounds 1 (Value.ref h1.objs.size))) gp (Yy dm);have atT:=(ZR (h1.push { cls:=.type "traceback",data:=.fields ts }) (Obj.mapFields (·.setIfInBounds 1 (Value.ref h1.objs.size))) (Z9 ne)).trans (Zg h1 rfl);have oth:∀b o,b≠e->h1.get? b=some o->((h1.push { cls:=.type "traceback",data:=.fields ts }).update e (Obj.mapFields (·.setIfInBounds 1 (Value.ref h1.objs.size)))).get? b=some o:=fun b o n q=>(ZR _ _ (Z9 n)).trans (z6 _ q);have nrec:∀b o,s.heap.get? b=some o->(∀ws,o.data≠.fields ws)->b≠e:=fun b o q hn z=>by subst z;cases Zu (he.symm.trans q);exact hn vs dt
 refine Yj gp dt sz (k _ ⟨fun b o q=>oth b o (fun z=>nomatch((z▸q).symm.trans en)) (st1 b o q),ff.of_keeps fun b o q hn=>?_,?_,fun b o q hn=>?_⟩ ⟨_,self,mZ _ _⟩)
 ·obtain⟨sl,hs⟩:=k1.2.2 b o q;exact⟨_,oth b _ (nrec b o q hn) hs,rfl⟩
 ·exact⟨_,_,h1.objs.size,_,ts,self,⟨Obj.cls_mapFields _ _,by rw[Array.getElem?_setIfInBounds_ne (by decide)];exact v0⟩,dm,by simp[sz],st1.fresh,ne,atT,rfl,t3⟩
 ·obtain⟨sl,hs⟩:=k1.2.2 b o q;exact⟨sl,oth b _ (nrec b o q hn) hs⟩
theorem iH{cls a0 fl:Value}{dc:Option Addr}{Q:Unit->Shared->Prop}(kb:base.StaysIn s.heap)(ff:s.heap.FunFrames base l)(tr:s.heap.TracedAtW base e cls a0 fl)(dd:dZ s.heap e dc)(k:∀h',base.StaysIn h'->h'.FunFrames base l->h'.TracedW base e cls a0->s.heap.UpToSlots h'->dZ h' e dc->Q () { s with heap:=h' }):wpAny M A (setFlight (.ref e) none) Q E s:=by
 obtain⟨oe,vs,T,oT,ts,he,hc,dt,v1,nT,ne,hT,dT,t3⟩:=tr;have z3:3<ts.size:=(Array.getElem?_eq_some_iff.mp t3).1;have oth:∀b,b≠T->(s.heap.update T (Obj.mapFields (·.setIfInBounds 3 ((none:Option Addr).elim Value.none fun f=>rawInt f)))).get? b=s.heap.get? b:=fun b n=>ZR _ _ (Z9 n);have nrec:∀b o,s.heap.get? b=some o->(∀ws,o.data≠.fields ws)->b≠T:=fun b o q hn z=>by subst z;cases Zu (hT.symm.trans q);exact hn ts dT
 unfold setFlight;refine z0 (ZQ he dt v1 ?_);rw[HV (by simp:(Value.ref T != Value.none)=true)];refine Yj hT dT z3 (k _ (fun b o q=>(oth b fun z=>nomatch((z▸q).symm.trans nT)).trans (kb b o q)) (ff.of_keeps fun b o q hn=>⟨o,(oth b (nrec b o q hn)).trans q,rfl⟩) ?_ (fun b o q hn=>⟨o.slots,(oth b (nrec b o q hn)).trans q⟩) ?_)
 ·exact⟨oe,vs,T,_,_,(oth e (Z9 ne)).trans he,hc,dt,v1,nT,ne,Z0 _ hT (Yy (Z3 dT _)),Z3 dT _,by simp[z3]⟩
 ·obtain⟨o,q,d⟩:=dd;exact⟨o,(oth e (Z9 ne)).trans q,d⟩
theorem ma{cls a0:Value}{dc:Option Addr}{Q:Unit->Shared->Prop}(fr:A.frames=some (env::outer))(ef:env.frame=some L)(fl:Heap.FlyingW base (env::outer) e cls a0 s.heap)(dd:dZ s.heap e dc)(k:∀h',Heap.HeldW base (env::outer) e cls a0 L h'->s.heap.UpToSlots h'->dZ h' e dc->Q () { s with heap:=h' }):wpAny M A (noteFrame (.ref e) env) Q E s:=by
 obtain⟨f1,f2,f3,oe,vs,T,oT,ts,he,hc,dt,v1,nT,ne,hT,dT,t3⟩:=fl;obtain⟨o2,q2,d2⟩:=dd;cases Zu (he.symm.trans q2);have z3:3<ts.size:=(Array.getElem?_eq_some_iff.mp t3).1;unfold noteFrame;simp only[ef];refine z0 (ZQ he dt v1 ?_);rw[HV (by simp:(Value.ref T != Value.none)=true)];refine z0 (ZQ hT dT t3 ?_);rw[HU (by simp[rawInt]:¬(Value.none==rawInt L)=true)];refine z0 (Yj hT dT z3 ?_);have oth:∀b,b≠T->(s.heap.update T (Obj.mapFields (·.setIfInBounds 3 Value.none))).get? b=s.heap.get? b:=fun b n=>ZR _ _ (Z9 n);have nrec:∀b o,s.heap.get? b=some o->(∀ws,o.data≠.fields ws)->b≠T:=fun b o q hn z=>by subst z;cases Zu (hT.symm.trans q);exact hn ts dT
 have sz:1<vs.size:=(Array.getElem?_eq_some_iff.mp v1).1;refine ko (s:={ s with heap:=s.heap.update T (Obj.mapFields (·.setIfInBounds 3 Value.none)) }) fr (f3.of_keeps fun b o q hn=>⟨o,(oth b (nrec b o q hn)).trans q,rfl⟩) ef ((oth e (Z9 ne)).trans he) (fun b o q=>(oth b fun z=>nomatch((z▸q).symm.trans nT)).trans (f1 b o q)) f2 dt sz hc.2 fun h' nt dd=>?_;obtain⟨n1,n2,n3,n4⟩:=nt;rw[hc.1]at n3;rw[d2]at dd;exact k h' ⟨n1,f2,n2,n3⟩ (fun b o q hn=>n4 b o ((oth b (nrec b o q hn)).trans q) hn) dd
end
open PySem PySem.Spec PyProof.Rows PySem.W
def Its(x:Str):It:=⟨fun i _=>i<x.cps.size,fun i H v H'=>H'=H/\∃c,x.cps[i]?=some c/\v=.str ⟨#[c]⟩,fun i _=>x.cps.size<=i⟩
theorem Bf{P:Program}{w:World}{K:PySem.W.Frag}{tg:Expr}(it:Addr)(x:Str)(t:Tok):Turn P w K tg (Its x) [it] it (fun i h=>h.IsStrIter it "str_ascii_iterator" x t i) where
 mem:=Zf.mpr rfl
 obj:=fun i h st b hb=>by cases Zf.mp hb;obtain⟨o,e,c,d⟩:=st;exact⟨o,e,fun v z=>nomatch d.symm.trans z⟩
 keep:=fun i h h' st k=>by obtain⟨o,ho,r⟩:=st;exact⟨o,k it (Zf.mpr rfl) o ho,r⟩
 item:=by intro X eP ew eK hc i pins s σ H E I hf st hg;cases eP;cases ew;cases eK;have hi:i<x.cps.size:=hg;have fo:=hf it (Zf.mpr rfl);refine(Walks.strAscii (prog:=X.prog) (w:=X.w) (I.ok.hd hc) it x t).item i s _ _ hi st fun v h' tk hv st' kk=>?_;obtain⟨c,u,hc',rfl⟩:=hv;have I1:Inv X pins σ H { s with heap:=h',toks:=tk }:=I.turned (fun b o hb e=>kk b o (fun z=>hb (Zf.mp z)) e) fo.1 fo.2.1 fo.2.2.2.1 fo.2.2.2.2.1 fo.2.2.2.2.2;obtain⟨o,e,c1,d1⟩:=id st';exact⟨_,rfl,lQ (s:={ s with heap:=h',toks:=tk }) e c1 d1 (by decide) ⟨.str ⟨#[c]⟩,H,I1,⟨u,rfl⟩,⟨rfl,c,hc',rfl⟩,st',fun b hb=>(hf b hb).1⟩⟩
 done:=by intro X eP ew eK hc i pins s σ H E I hf st hg;cases eP;cases ew;cases eK;have hi:x.cps.size<=i:=hg;have fo:=hf it (Zf.mpr rfl);exact wpAny_pyNext_ascii_end (I.ok.hd hc) st (by simp;omega) fun h' eb=>⟨rfl,I.turned (t':=s.toks) (fun b o hb e=>eb b o hb e) fo.1 fo.2.1 fo.2.2.2.1 fo.2.2.2.2.1 fo.2.2.2.2.2⟩
 self:=fun _ _ _ _ _ st h=>wpAny_pyIter_striter_ascii st h
def Go(tl:TE):TI:=fun σ H R=>tl σ H fun v H1=>∃x,v=.str x/\x.cps.all (·<128)=true/\R (Its x) H1
section
variable{X:Cx}{tg l:Expr}{tl:TE}
theorem Fv(hl:QE X l tl):QI X tg l (Go tl):=by refine⟨?_⟩;intro pins s σ H R I h;refine thn (hl.h pins s σ H _ I h) fun v s1 hz9=>?_;obtain⟨y,H1,I1,r1,q1⟩:=hz9;obtain⟨x,rfl,ha,q⟩:=q1;obtain⟨t,rfl⟩:=r1;refine wpAny_pyIter_ascii ha ⟨s1.heap.objs.size,[s1.heap.objs.size],_,_,H1,rfl,I1.kept (t':=s1.toks) (fun b o e=>z6 _ e),Bf _ x t,⟨_,Zg _ rfl,rfl,rfl⟩,fun b hb=>?_,q⟩;cases Zf.mp hb;exact I1.fpOk (Zb _) (I1.hok.fresh (Zb _))
end
theorem zT{x:Str}{n:Nat}{cap:List Nat}{te:TE}{σ:St}{H0:Hp}{Q:VK}(f:Nat->V)(hz:x.cps.size<=1000)(he:∀i c H,x.cps[i]?=some c->Same H0 H->∀R:VK,(∀H',Same H H'->R (f i) H')->te ((bJ n cap σ).set 0 (some (.str ⟨#[c]⟩))) H R)(hq:∀p H,Same H0 H->H p=none->Q (.ref p) (upd H p (.lst ((List.range x.cps.size).map f)))):cY n cap (bz 0) fN te σ (Its x) H0 Q:=by
 refine gL (N:=x.cps.size) (fun i=>.str ⟨#[x.cps.getD i 0]⟩) f hz (fun i H hi sm=>hi) (fun H sm=>Zb _) (fun i H v H' hi sm y=>?_) (fun i H hi sm R k=>?_) hq
 ·obtain⟨y1,c,hc,rfl⟩:=y;refine⟨y1,?_⟩;simp[ZJ,hc]
 ·have e:x.cps[i]?=some x.cps[i]:=by simp[hi]
  have:=he i _ H e sm R k;simpa[ZJ,e]using this
section
variable{X:Cx}
theorem Bn:QCall X (.builtin "ord") (fun xs H Q=>∃c:Nat,xs=[.str ⟨#[c]⟩]/\Q (.int (c:Int)) H):=by refine⟨?_⟩;intro pins s σ H xs us Q I r h;obtain⟨c,rfl,q⟩:=h;obtain⟨u,rfl,rx⟩:=cj r;obtain⟨t,rfl⟩:=rx;exact PySem.P.ord_of_char ⟨.int c,H,I.tok _,⟨_,rfl⟩,q⟩
end
section
variable{X:Cx}
theorem Dq:QCall X (.builtin "len") (fun xs H Q=>∃x:Str,xs=[.str x]/\x.length<=1000/\Q (.int (x.length:Int)) H):=by refine⟨?_⟩;intro pins s σ H xs us Q I r h;obtain⟨x,rfl,hz,q⟩:=h;obtain⟨u,rfl,rx⟩:=cj r;obtain⟨t,rfl⟩:=rx;exact PyProof.Rows.len_str (by omega) ⟨.int x.length,H,I.tok _,⟨_,rfl⟩,q⟩
end
theorem fe{v:V}{A B:Prop}(hA:A):if decide (v=v)=true then A else B:=by rw[decide_eq_true rfl];exact aL hA
theorem aW{v u:V}{A B:Prop}(h:v≠u)(hB:B):if decide (v=u)=true then A else B:=by rw[decide_eq_false h];exact ax hB
theorem mS{x:V}{xs:List V}:atI (x::xs) 0=some x:=il (j:=0) rfl
theorem kE:bootBuiltins "str" = some (.type "str"):=by decide +kernel
inductive TV where
 |flat (v:V)
 |tup (xs:List V)
def qw:V->Value->Bool
 |.non,.none=>true
 |.bl b,.bool c=>b==c
 |.int i,.int j _=>i==j
 |.str x,.str y _=>x==y
 |_,_=>false
theorem pw:∀{v:V} {u:Value},qw v u=true->RelV v u:=by
 intro v u h;unfold qw at h;split at h
 ·exact rfl
 ·obtain rfl:=ZU.mp h;exact rfl
 ·obtain rfl:=ZU.mp h;exact⟨_,rfl⟩
 ·obtain rfl:=ZU.mp h;exact⟨_,rfl⟩
 ·cases h
def sG:List V->List Value->Bool
 | [],[]=>true
 |v::vs,u::us=>qw v u&&sG vs us
 |_,_=>false
theorem ky:∀{vs:List V} {us:List Value},sG vs us=true->Vals vs us
 | [],[],_=>.nil
 |_::_,_::_,h=>by have h:=(Zk _ _).mp h;exact .cons (pw h.1) (ky h.2)
 | [],_::_,h=>nomatch h
 |_::_,[],h=>nomatch h
def mJ(K:PySem.W.Frag):TV->Value->Bool
 |.flat v,u=>qw v u
 | .tup xs,.ref a=>(match K.lookup a with
  |some o=>o.cls == .type "tuple"&&(match o.data with|.seq its _=>decide (its.size<=1000)&&sG xs its.toList|_=>false)
  | none=>false)
 |_,_=>false
def Dl(K:PySem.W.Frag):TV->Value->Prop
 |.flat v,u=>RelV v u
 |.tup xs,u=>∃a,u=.ref a/\∀H,SqT K H a xs
theorem Gg{K:PySem.W.Frag}(d:TV)(u:Value)(h:mJ K d u=true):Dl K d u:=by
 unfold mJ at h;split at h
 ·exact pw h
 ·rename_i xs a;split at h
  ·rename_i o ho;obtain⟨e1,e2⟩:=(Zk _ _).mp h;split at e2
   ·rename_i its n hd;obtain⟨e3,e4⟩:=(Zk _ _).mp e2;exact⟨a,rfl,fun H=>.inr ⟨o,its,n,ho,ZU.mp e1,hd,dH (ZS e3),ky e4⟩⟩
   ·cases e2
  ·cases h
 ·cases h
structure Tab(K:PySem.W.Frag)(a:Addr)(D:List (Str×TV)):Prop where
 look:KTD.tabLook (mJ K) (fun b=>K.lookup b) a D=true
theorem Tab.at{K:PySem.W.Frag}{a:Addr}{D:List (Str×TV)}(T:Tab K a D){h:Heap}(X:K.In h):KTD.TabOf (Dl K) h a D:=KTD.tab_of_look Gg (fun b o e=>X b o e) T.look
section
variable{prog:Program}{w:World}{A:Around}{E:Value->Shared->Prop}{s:Shared}{d:Addr}{o:Obj}{es:Array DictEntry}{ep:Nat}{x:Str}{tx:Tok}
theorem uF{Q:Option Value->Shared->Prop}(ho:s.heap.get? d=some o)(hd:o.data=.dict es ep)(hall:(es.all fun e=>isExactStrKey e.key)=true)(h:Q ((es.toList.find? fun e=>e.key.isStr x).map (·.val)) { s with toks:=s.toks+1 }) :
  wpAny (model prog w) A (dictGet d (.str x tx)) Q E s:=by
 unfold dictGet;(try with_reducible (refine ZT ?_))
 refine z0 (wpAny_pyHash_str (z0 (KTD.kt_dictFind_strs (s:={ s with toks:=s.toks+1 }) ho hd hall ?_)));have hq:Q (findBy (fun y v=>v.isStr y) es x) { s with toks:=s.toks+1 }:=by
  have hf:findBy (fun y v=>v.isStr y) es x=(es.toList.find? fun e=>e.key.isStr x).map (·.val):=by obtain⟨l⟩:=es;simp[findBy]
  rw[hf];exact h
 rw[findBy_of_findIdx?]at hq;cases hi:es.findIdx? fun e=>e.key.isStr x<;>rw[hi]at hq
 ·exact z9 hq
 ·exact z0 (YD (s:={ s with toks:=s.toks+1 }) ho hd (z9 hq))
theorem Fa{Q:Value->Shared->Prop}(sy:(d==sysModules)=false)(ex:o.ExactDict)(ho:s.heap.get? d=some o)(hd:o.data=.dict es ep)(hall:(es.all fun e=>isExactStrKey e.key)=true)(h:Q (.bool ((es.toList.find? fun e=>e.key.isStr x).map (·.val)).isSome) { s with toks:=s.toks+1 }):wpAny (model prog w) A (compareOp .In (.str x tx) (.ref d)) Q E s:=by
 have T:s.TypeIs (.ref d) "dict":=⟨o,ho,ex.1⟩
 show wpAny _ _ (do return .bool (←contains (.ref d) (.str x tx))) Q E s;refine z0 ?_;unfold contains;(try with_reducible (refine ZT ?_))
 refine z0 (wpAny_specialOf T slot_dict_contains.lookup ?_);show wpAny _ _ (if(some (Value.builtin "dict.__contains__")==some Value.none)=true then _ else _) _ _ _;rw[HU (by rw[beq_builtin_none];decide)];refine z0 (wpAny_callSpecialUnlessNone?_slot (name:=Str.ofString "__contains__") T slot_dict_contains (ZM slot_dict_contains T entry_dict_contains ?_ (args_dict_contains _ _)));show wpAny _ _ (dictGet d (.str x tx) >>= _) _ _ _;refine z0 (uF ho hd hall ?_);cases hv:(es.toList.find? fun e=>e.key.isStr x).map (·.val)with
 |some v =>rw[hv]at h;show wpAny _ _ (ret (.bool true)) _ _ _;exact z9 ⟨_,rfl,ZY (z9 h)⟩
 |none =>rw[hv]at h;show wpAny _ _ (Builtin.Dict.pendingKey? d (.str x tx) >>= _) _ _ _;exact z0 (wpAny_pendingKey_other sy (z9 ⟨_,rfl,ZY (z9 h)⟩))
theorem Bd{Q:Value->Shared->Prop}{v:Value}(ex:o.ExactDict)(ho:s.heap.get? d=some o)(hd:o.data=.dict es ep)(hall:(es.all fun e=>isExactStrKey e.key)=true)(hv:(es.toList.find? fun e=>e.key.isStr x).map (·.val)=some v)(h:Q v { s with toks:=s.toks+1 }):wpAny (model prog w) A (getItem (.ref d) (.str x tx)) Q E s:=by
 have T:s.TypeIs (.ref d) "dict":=⟨o,ho,ex.1⟩
 unfold getItem;(try with_reducible (refine ZT ?_))
 refine z0 (wpAny_sequenceKey T (by decide) (z0 (ZI (name:=Str.ofString "__getitem__") T slot_dict_getitem (ZM slot_dict_getitem T entry_dict_getitem ?_ (args_dict_getitem _ _)))));show wpAny _ _ (dictGet d (.str x tx) >>= _) _ _ _;refine z0 (uF ho hd hall ?_);rw[hv];exact z9 ⟨v,rfl,z9 h⟩
end
section
variable{X:Cx}
def EO(K:PySem.W.Frag):R2:=fun x y H Q=>∃a k D,x=.str k/\y=.ref a/\Tab K a D/\Q (.bl (KTD.datumAt k D).isSome) H
theorem Cd:QOp X (compareOp .In) (EO X.K):=by
 refine⟨?_⟩;intro pins s σ H x y v u Q I rx ry h;obtain⟨a,k,D,rfl,rfl,T,q⟩:=h;obtain⟨t,rfl⟩:=rx;cases ry;obtain⟨sy,o,es,ep,ho,ex,hd,hr⟩:=T.at I.kIn;refine Fa sy ex ho hd (by obtain⟨l⟩:=es;simpa using hr.exact) ⟨.bl (KTD.datumAt k D).isSome,H,I.tok _,?_,q⟩;cases e:KTD.datumAt k D with
 |none=>rw[hr.find_none e];rfl
 |some d=>obtain⟨v,hv,_⟩:=hr.find_some e;rw[hv];rfl
def EQ(K:PySem.W.Frag):R2:=fun x y H Q=>∃a k D d,x=.ref a/\y=.str k/\Tab K a D/\KTD.datumAt k D=some d/\(match d with|.flat v=>Q v H|.tup xs=>∀t,(∀H',SqT K H' t xs)->Q (.ref t) H)
theorem Gi:QIx X (EQ X.K):=by
 refine⟨?_⟩;intro value slice pins s σ H x y v u Q I rx ry h hs;obtain⟨a,k,D,d,rfl,rfl,T,hk,q⟩:=h;obtain⟨t,rfl⟩:=ry;cases rx;obtain⟨sy,o,es,ep,ho,ex,hd,hr⟩:=T.at I.kIn;obtain⟨v,hv,ok⟩:=hr.find_some hk;have fin:EP X pins σ Q v { s with toks:=s.toks+1 }:=by
  cases d with
  |flat z=>exact⟨z,H,I.tok _,ok,q⟩
  |tup xs =>obtain⟨t,rfl,e⟩:=ok;exact⟨.ref t,H,I.tok _,rfl,q t e⟩
 exact subscriptTail_builtinR (x:=v) (⟨o,ho,ex.1⟩:s.TypeIs (.ref a) "dict") slot_dict_getitem.lookup (Bd (Q:=fun r s'=>r=v/\EP X pins σ Q r s') ex ho hd (by obtain⟨l⟩:=es;simpa using hr.exact) hv ⟨rfl,fin⟩) hs
theorem vV{x:Str}{a:Addr}{pos:Pos}(hm:X.mg x=some (.ref a))(hg:Gl X x:=by rfl)(hd:(x==("__debug__":Str))=false:=by decide):QE X (.Name x pos) (tC (.ref a)):=⟨um hg hm rfl hd⟩
end
open PySem PySem.Spec PyProof.Rows PySem.W
def CXr(P:Program)(w:World):CXT:=fun outer H s E e s' =>
 ∃(ea t:Addr) (C:Value) (vs:List Value) (B:Heap) (H':Hp) (dc:Option Addr),e=.ref ea/\s'.os=s.os/\AllBare s'.gens/\Un (frs outer) [] H H' s.heap s'.heap/\HOk P w H' s'.heap /\
  Heap.FlyingW B outer ea C (.ref t) s'.heap/\s'.heap.TupAt t vs/\B.get? t=none/\(∀b o,b∉frs outer->((∃u,H' b=some u)\/∃o0,s.heap.get? b=some o0)->s'.heap.get? b=some o->B.get? b=some o)/\dZ s'.heap ea dc/\E C dc H'
structure ExCls(K:PySem.W.Frag)(C:Addr):Prop where
 cls:∀h,K.In h->∃nm q N bs bm hdct sn sub ab col dd k0 k1 k2 k3 k5 mN,h.get? C=some (excClassObj nm q C N bs bm hdct sn sub ab col dd k0 k1 k2 k3 k5 "ValueError.__new__")/\h.Ns N mN/\mN "__init__" = none/\bm.contains (.type "BaseException")=true /\
  OwnTail h [.type "ValueError",.type "Exception",.type "BaseException",.type "object"] bm
def wS(X:Cx)(EC:Value->Hp->Prop):Prop:=∀(pins:List (Addr×Obj)) (σ:St) (H1:Hp) (s1:Shared) (h2:Heap) (e:Addr) (C:Value) (vs:List Value),Inv X pins σ H1 s1->Heap.MadeExcOf s1.heap h2 e C vs->EC C H1->X.xe (.ref e) { s1 with heap:=h2 }
section
variable{X:Cx}{EC:Value->Hp->Prop}{C:Addr}{x:Str}{np cpos pos:Pos}{e:Expr}{es:List Expr}{ta:TA}
theorem ur(hR:wS X EC)(hc:X.calm=true)(cl:ExCls X.K C)(hm:X.mg x=some (.ref C))(ha:QA X (e::es) ta)(hg:Gl X x:=by rfl)(hs:(e::es).all aR=true:=by rfl)(hdb:(x==("__debug__":Str))=false:=by decide) :
  QS X (.Raise (some (.Call (.Name x np) (e::es) [] cpos)) none pos) (fun _ σ H=>ta σ H fun vs H1=>vs.length<=sizeLine/\EC (.ref C) H1):=by
 refine⟨?_⟩;intro pins s σ H D I h;obtain⟨nm,q,N,bs,bm,hdct,sn,sub,ab,col,dd,k0,k1,k2,k3,k5,mN,hC,hN,hni,hb,T⟩:=cl.cls X.base I.ok.mod.kin;have hs1:aR e=true:=by have:=ZC.mp hs e (by simp);exact this
 have he:=aY (es:=es) (env:=X.env) hs1;have hpl:(backTo cpos (starEach es X.env)).any (·.1)=false:=br (by
  rw[ZC];intro y hy;exact ZC.mp hs y (ZA _ hy))
 refine wpAny_Raise_call_subT (nm:=nm) (q:=q) (C:=C) (N:=N) (bs:=bs) (hdct:=hdct) (sn:=sn) (sub:=sub) (ab:=ab) (col:=col) (dd:=dd) (k0:=k0) (k1:=k1) (k2:=k2) (k3:=k3) (k5:=k5) PySem.F.excBase_ValueError hb (I.ok.hd hc) ?_ hni (fT I hg hm ⟨rfl,?_⟩ hdb)
 ·rw[he];show(false ||(backTo cpos (starEach es X.env)).any (·.1))=false;rw[hpl];rfl
 ·have hA:=ha.h cpos pins s σ H _ I h;rw[he]at hA ⊢;refine Calls.evalArgs_plain (thn hA fun us s1 ⟨vs,H1,I1,r1,hz,hE⟩=>⟨rfl,by rw[<-r1.length];exact hz,I1.bk _ _ hC,hN.keeps I1.bk,T.keeps I1.bk,fun h' ea hm=>hR pins σ H1 s1 h' ea _ _ I1 hm hE⟩)
end
open PySem PySem.Spec PyProof.Rows PySem.W
theorem Fun.okX{P:Program}{w:World}{K:PySem.W.Frag}{mg:Str->Option Value}{base:Heap}{x qual:Str}{st:Stmt}{f:Addr}{fd:FuncData}{N ps:List Str}{k:Nat}{sp:Sp}(F:Fun K x qual st f fd)(S:FnScope N ps (al st))(len:∀ vs H Q E,sp vs H Q E->vs.length=ps.length)(hb:∀ (cdv:Value) (A:Around) (outer:List Env) (s:Shared) (H:Hp) (vs:List V) (Q:VK) (E:XK),Room k (A.deeper (envOfC qual (al st) s.heap.objs.size f cdv))->sp vs H Q E ->
   ∃ t,QB (dM (CXr P w) P w K mg base N qual (al st) f cdv A outer s H E) (bG st) t/\t { nx:=fun _ H'=>Q .non H',rt:=Q } (start N vs) H):FnOk P w K mg base (CXr P w) (k+1) f fd ps sp:=by
 obtain⟨oc,od,kV,doc,pm,an,cdv,ct,osl,rfl,lk,hcd⟩:=F.ex;exact vh lk hcd S len fun A outer s H vs Q E hr hsp=>let⟨t,h,q⟩:=hb cdv A outer s H vs Q E hr hsp;⟨t,h.h,q⟩
structure FnX(P:Program)(w:World)(K:PySem.W.Frag)(mg:Str->Option Value)(base:Heap)(k:Nat)(x:Str)(ps:List Str)(sp:Sp):Prop where
 ex:∃f fd,FnOk P w K mg base (CXr P w) k f fd ps sp/\mg x=some (.ref f)/\PySem.W.keepIn K (.ref f)=true/\Binds K fd ps []
def XP(X:Cx)(pins:List (Addr×Obj))(σ:St)(E:XK)(e:Value)(s':Shared):Prop:=∃s0 H0,Inv X pins σ H0 s0/\CXr X.prog X.w X.stack H0 s0 E e s'
abbrev TX:=St->Hp->VK->XK->Prop
structure QX(X:Cx)(e:Expr)(t:TX):Prop where
 h:∀(pins:List (Addr×Obj)) (s:Shared) (σ:St) (H:Hp) (Q:VK) (E:XK),Inv X pins σ H s->t σ H Q E->wpAny (model X.prog X.w) X.A (eval e X.env) (EP X pins σ Q) (XP X pins σ E) s
abbrev TSX:=Ends->St->Hp->XK->Prop
structure QSX(X:Cx)(st:Stmt)(t:TSX):Prop where
 h:∀(pins:List (Addr×Obj)) (s:Shared) (σ:St) (H:Hp) (D:Ends) (E:XK),Inv X pins σ H s->t D σ H E->wpAny (model X.prog X.w) X.A (exec st X.env) (SP X pins D) (XP X pins σ E) s
section
variable{X:Cx}{e:Expr}{tx:TX}{pos pos':Pos}{x:Str}
theorem E1{i:Nat}(hN:X.N.Nodup)(he:QX X e tx)(hi:X.N[i]?=some x:=by rfl)(hx:Loc X.env.scope x:=by first|exact Or.inl rfl|exact Or.inr rfl)(hs:swapsWith e (some (.Name x pos')) pos.line X.env=pure false:=by rfl)(hf:X.fn x=true\/X.env.scope.names.lookup x=some .local:=by first|exact .inl rfl|exact .inr rfl):QSX X (.Assign [.Name x pos'] e pos) (fun D σ H E=>tx σ H (fun v H1=>D.nx (σ.set i (some v)) H1) E):=by refine⟨?_⟩;intro pins s σ H D E I h;exact wpAny_Assign_Name (thn (he.h pins s σ H _ E I h) fun v s1 ⟨y,H1,I1,r1,q1⟩=>iZ I1 hN hi hx r1 (fun s2 I2=>⟨_,H1,I2,q1⟩) hf) hs
end
structure Fl(X:Cx)(H0 H':Hp)(s0 s':Shared)(B:Heap):Prop where
 os:s'.os=s0.os
 bare:AllBare s'.gens
 un:Un (frs X.stack) [] H0 H' s0.heap s'.heap
 hok:HOk X.prog X.w H' s'.heap
 kb:∀b o,b∉frs X.stack->((∃u,H' b=some u)\/∃o0,s0.heap.get? b=some o0)->s'.heap.get? b=some o->B.get? b=some o
section
variable{X:Cx}{pins:List (Addr×Obj)}{σ:St}{H0 H':Hp}{s0 s':Shared}{B h':Heap}
theorem Fl.inv(F:Fl X H0 H' s0 s' B)(I:Inv X pins σ H0 s0):Inv X pins σ H' s':=I.call' F.os F.un F.hok F.bare fun _ z=>nomatch z
theorem Fl.nf(F:Fl X H0 H' s0 s' B)(I:Inv X pins σ H0 s0){b:Addr}{u:HO}(h:H' b=some u):b∉frs X.stack:=fun hm=>by have:=(F.inv I).stkFree b hm;rw[h]at this;cases this
theorem Fl.move{tk:Nat}(F:Fl X H0 H' s0 s' B)(I:Inv X pins σ H0 s0)(st:B.StaysIn h')(up:s'.heap.UpToSlots h'):Fl X H0 H' s0 { s' with heap:=h',toks:=tk } B:=by
 have kp:∀b o,b∉frs X.stack->((∃u,H' b=some u)\/∃o0,s0.heap.get? b=some o0)->s'.heap.get? b=some o->h'.get? b=some o:=fun b o h1 h2 h3=>st b o (F.kb b o h1 h2 h3);have sl:∀b o,b∈frs X.stack->s'.heap.get? b=some o->∃sl,h'.get? b=some { o with slots:=sl }:=fun b o hm q=>by obtain⟨_,o',ho',hd⟩:=(F.inv I).stack.mem hm;have e:s'.heap.get? b=some o':=ho';rw[q]at e;cases e;exact up b o q hd
 refine⟨F.os,F.bare,⟨fun b o q n hb hx=>kp b o hb (.inr ⟨o,q⟩) (F.un.keep b o q n hb hx),fun b o q n hb hx=>?_,F.un.free,fun b o q hx=>?_,F.un.tups,F.un.frzs,F.un.tbls⟩,fun b u q=>?_,fun b o hb ho q=>?_⟩
 ·obtain⟨s1,e1⟩:=F.un.slot b o q n hb hx;obtain⟨s2,e2⟩:=sl b _ hb e1;exact⟨s2,e2⟩
 ·obtain⟨o',e1⟩:=F.un.there b o q hx;by_cases hb:b∈frs X.stack
  ·obtain⟨s2,e2⟩:=sl b o' hb e1;exact⟨_,e2⟩
  ·exact⟨o',kp b o' hb (.inr ⟨o,q⟩) e1⟩
 ·refine(F.hok b u q).stay (fun c v hc z=>kp c v ?_ ?_ z) (fun _ z=>z) fun _ _ z=>z
  ·rcases hc with z'|z'
   ·rw[z'];exact F.nf I q
   ·exact F.nf I z'
  ·rcases hc with z'|z'
   ·rw[z'];exact .inl ⟨u,q⟩
   ·exact .inl ⟨_,z'⟩
 ·obtain⟨o1,q1⟩:∃o1,s'.heap.get? b=some o1:=by
   rcases ho with⟨u,z⟩|⟨o0,z⟩
   ·exact eO (F.hok b u z)
   ·exact F.un.there b o0 z (by simp)
  have q2:=kp b o1 hb ho q1;have q':h'.get? b=some o:=q;rw[q']at q2;cases q2;exact F.kb b o hb ho q1
end
structure ExC(K:PySem.W.Frag)(C:Addr)(bm:List Value):Prop where
 cls:∀h,K.In h->∃nm q N bs hdct sn sub ab col dd k0 k1 k2 k3 k5 ni,h.get? C=some (excClassObj nm q C N bs bm hdct sn sub ab col dd k0 k1 k2 k3 k5 ni)
 exc:bm.contains (.type "BaseException")=true
theorem sR{M:Model}{A:Around}{E:Value->Shared->Prop}{s:Shared}{e C T:Addr}{oe:Obj}{bmC bmT:List Value}{K:PySem.W.Frag}{Q:Bool->Shared->Prop}(hC:ExC K C bmC)(hT:ExC K T bmT)(hk:K.In s.heap)(he:s.heap.get? e=some oe)(hcls:oe.cls=.ref C)(hq:Q ((Value.ref C::bmC).contains (.ref T)) s):wpAny M A (excMatches (.ref e) (.ref T)) Q E s:=by
 obtain⟨nm,q,N,bs,hdct,sn,sub,ab,col,dd,k0,k1,k2,k3,k5,ni,oC⟩:=hC.cls _ hk;obtain⟨nm',q',N',bs',hdct',sn',sub',ab',col',dd',k0',k1',k2',k3',k5',ni',oT⟩:=hT.cls _ hk;obtain⟨hp,g,d,tk,os⟩:=s;have hcB:(Value.ref T::bmT).contains (.type "BaseException")=true:=by rw[List.contains_cons,hT.exc,Bool.or_true]
 have f:=tc_notTuple;unfold excMatches;generalize hr:(Value.ref C::bmC).contains (Value.ref T)=r at hq
 repeat(first|(with_reducible refine YE he ?_;rw[hcls])|with_reducible refine YE oT ?_|(with_reducible refine wpAny_isSubtype_exc oT ?_;rw[hcB])|(with_reducible refine wpAny_isSubtype_exc oC ?_;rw[hr])|wp_step)
 cases r<;>(first|exact hq|(wp_walk;exact hq))
theorem gP{X:Cx}{pins:List (Addr×Obj)}{σ:St}{H:Hp}{s:Shared}{M:Model}{A:Around}{E:Value->Shared->Prop}{i:Nat}{n:Str}{pos:Pos}{Q:Unit->Shared->Prop}(I:Inv X pins σ H s)(hN:X.N.Nodup)(hi:X.N[i]?=some n)(hl:X.env.kindOf n=some .local)(h:∀s',Inv X pins (σ.set i none) H s'->Q () s'):wpAny M A (do bindName X.env n .none;unbindBehindTheSuite X.env n pos) Q E s:=by
 obtain⟨m,hn,hv⟩:=id I.loc;refine wpAny_nameGoes_keeps hl hn (by rw[I.ok.kind];rfl) fun h' v hn' hs=>h _ ?_;obtain⟨oL,_,_,hoL,_⟩:=id hn;have cne:=I.cne;have lt:∀b o,X.s₀.heap.get? b=some o->b≠X.env.locals:=fun b o q=>Zn (Zo (Zi q) I.ok.above);refine⟨I.ok,I.os,I.bare,⟨fun b o e n hb hx=>(hs.2 b (lt b o e)).trans (I.base.keep b o e n hb hx),fun b o e n hb hx=>?_,I.base.free,fun b o e hx=>?_,I.base.tups,I.base.frzs,I.base.tbls⟩,⟨_,hn',fun j y v' e1 e2 e3=>?_⟩,fun y c e=>?_,I.free,I.freeC,fun p hp=>?_,fun b u q=>?_,by simpa using I.len⟩
 ·obtain⟨sl,e1⟩:=I.base.slot b o e n hb hx;exact⟨sl,(hs.2 b (lt b o e)).trans e1⟩
 ·obtain⟨o',e1⟩:=I.base.there b o e hx;exact⟨o',(hs.2 b (lt b o e)).trans e1⟩
 ·have hj:j≠i:=fun z=>by
   subst z;have hz:j<σ.length:=by have:=(Zv.mp e2).1;simpa using this
   rw[List.getElem?_set_self hz]at e2;cases e2
  rw[List.getElem?_set_ne (Z9 hj)]at e2;obtain⟨u',r',q⟩:=hv j y v' e1 e2 e3;refine⟨u',r',?_⟩;rcases q with⟨k,e⟩|⟨k,c,e,z⟩
  ·refine .inl ⟨k,?_⟩;have:y≠n:=fun e=>hj (kO hN e1 (e▸hi));simp[this,e]
  ·exact .inr ⟨k,c,e,z.sameBut hs (cne y c e)⟩
 ·obtain⟨w',z⟩:=I.cell y c e;exact⟨w',z.sameBut hs (cne y c e)⟩
 ·obtain⟨e,n,ne,nf,d⟩:=I.pin p hp;exact⟨(hs.2 p.1 ne).trans e,n,ne,nf,d⟩
 ·refine(I.hok b u q).stay (fun c w' hc z=>(hs.2 c ?_).trans z) (fun _ z=>z) fun _ _ z=>z;rintro rfl;rcases hc with z'|z'
  ·rw[<-z',I.free]at q;cases q
  ·rw[I.free]at z';cases z'
def Cx.exc(X:Cx)(e:Value):Cx:={ X with A:=X.A.mark (some e),calm:=false,xe:=fun _ _=>False }
section
variable{X:Cx}{pins:List (Addr×Obj)}{σ:St}{H:Hp}{s:Shared}{e:Value}
theorem Inv.exc(I:Inv X pins σ H s)(e:Value):Inv (X.exc e) pins σ H s :=
 ⟨⟨I.ok.mod,I.ok.kind,I.ok.glob,I.ok.blt,I.ok.above,I.ok.inj,I.ok.has,I.ok.cab,fun z=>(nomatch z),I.ok.frames,I.ok.stk,I.ok.exf,I.ok.bs,I.ok.bsz,I.ok.noex,I.ok.exfs,I.ok.funs,I.ok.frf⟩,I.os,I.bare,I.base,I.loc,I.cell,I.free,I.freeC,I.pin,I.hok,I.len⟩
theorem Inv.unexc(ok:X.Ok)(I:Inv (X.exc e) pins σ H s):Inv X pins σ H s:=⟨ok,I.os,I.bare,I.base,I.loc,I.cell,I.free,I.freeC,I.pin,I.hok,I.len⟩
end
abbrev TH:=Ends->St->Value->Option Addr->Hp->Prop
structure QH(X:Cx)(hs:List ExceptHandler)(th:TH):Prop where
 h:∀(pins:List (Addr×Obj)) (s0:Shared) (H0:Hp) (σ:St) (D:Ends) (ea t:Addr) (C:Value) (B:Heap) (H':Hp) (dc:Option Addr) (s':Shared),Inv X pins σ H0 s0->Fl X H0 H' s0 s' B->Heap.FlyingW B X.stack ea C (.ref t) s'.heap->dZ s'.heap ea dc->th D σ C dc H' ->
  wpAny (model X.prog X.w) X.A (handleBy (.ref ea) X.env hs) (SP X pins D) X.xe s'
section
variable{X:Cx}
def Gz(tb:TSX)(th:TH):TS:=fun D σ H=>tb D σ H fun C dc H1=>th D σ C dc H1
theorem EV{st:Stmt}{tb:TSX}{th:TH}{h0:ExceptHandler}{hs:List ExceptHandler}{pos:Pos}(hst:X.stack=X.env::X.outer)(hfr:X.env.frame=some X.env.locals)(hb:QSX X st tb)(hh:QH X (h0::hs) th) :
  QS X (.Try [st] (h0::hs) [] [] pos) (Gz tb th):=by
 refine⟨?_⟩;intro pins s σ H D I h;refine wpAny_Try_except (wpAny_execs_cons (ZK (hb.h pins s σ H D _ I h) (fun f s1 q=>?_) (fun e s1 x=>?_)))
 ·cases f with
  |next=>exact wpAny_execs_nil (wpAny_execs_nil q)
  |brk=>exact q
  |cont=>exact q
  |ret v=>exact q
 ·obtain⟨s0,H0,I0,ea,t,C,vs,B,H',dc,rfl,os,bare,un,hok,fly,tup,hBt,kb,dd,q⟩:=x;have F:Fl X H0 H' s0 s1 B:=⟨os,bare,un,hok,kb⟩
  have fr:X.A.frames=some (X.env::X.outer):=by rw[<-hst];exact I.ok.frames
  rw[hst]at fly;refine ma fr hfr fly dd fun h4 held up4 dd4=>?_;obtain⟨f1,f2,f3,f4⟩:=held;refine iH f1 f3 f4 dd4 fun h5 k1 k2 k3 up5 dd5=>?_;have F5:=(F.move (tk:=s1.toks) I0 k1 (up4.trans up5))
  rw[<-hst]at k2;exact hh.h pins s0 H0 σ D ea t C B H' dc _ I0 F5 ⟨k1,f2,k2,k3⟩ dd5 q
end
open PySem PySem.Spec PyProof.Rows PySem.W
abbrev VE:List Value:=[.type "ValueError",.type "Exception",.type "BaseException",.type "object"]
structure ExcAt(K:PySem.W.Frag)(C:Addr)(bm:List Value):Prop where
 isIn:excIn K C VE "ValueError.__new__" = true
 mro:∃c d cd sl,K.lookup C=some ⟨c,d,.cls cd,sl⟩/\cd.mro=Value.ref C::bm
 exc:bm.contains (.type "BaseException")=true
theorem oQ{K:PySem.W.Frag}{C:Addr}{bm:List Value}(q:ExcAt K C bm){h:Heap}(X:K.In h) :
  ∃nm qn N bs hdct sn sub ab col dd k0 k1 k2 k3 k5 mN,h.get? C=some (excClassObj nm qn C N bs bm hdct sn sub ab col dd k0 k1 k2 k3 k5 "ValueError.__new__")/\h.Ns N mN/\mN "__init__" = none/\OwnTail h VE bm:=by
 have q1:=q.isIn;obtain⟨c9,d9,cd9,sl9,l9,m9⟩:=q.mro;unfold excIn at q1;split at q1
 ·rename_i dd cd sl ho;split at q1
  ·rename_i C' bm' k0 k1 k2 k3 n k5 hm hs;have q2:cd.mro=Value.ref C::bm:=by have z:=ho.symm.trans l9;cases z;exact m9
   rw[hm]at q2;injection q2 with z1 z2;injection z1 with z1;cases z1;cases z2;simp only[Zk,ZU,Bool.not_eq_true']at q1;obtain⟨⟨⟨⟨⟨_,rfl⟩,nd⟩,ht⟩,ok⟩,ni⟩:=q1;have es:sl=#[k0,k1,k2,k3,some (.builtin "ValueError.__new__"),k5]:=by obtain⟨l⟩:=sl;simp only at hs;rw[hs]
   cases es;obtain⟨nm,bs,mro,ns,qn,hd,sn,sub,ab,col,del⟩:=cd;dsimp only at hm nd ok ni;cases hm;cases nd;exact⟨nm,qn,ns,bs,hd,sn,sub,ab,col,dd,k0,k1,k2,k3,k5,_,X _ _ ho,.of_isNs (isNs_of_in X ok),nsMap_none_of_in X ok ni,tail_of_in X ht⟩
  ·cases q1
 ·cases q1
theorem qS{K:PySem.W.Frag}{C:Addr}{bm:List Value}(q:ExcAt K C bm):ExC K C bm where
 cls:=fun h X=>by obtain⟨nm,qn,N,bs,hdct,sn,sub,ab,col,dd,k0,k1,k2,k3,k5,mN,e,_⟩:=oQ q X;exact⟨nm,qn,N,bs,hdct,sn,sub,ab,col,dd,k0,k1,k2,k3,k5,_,e⟩
 exc:=q.exc
theorem zX{K:PySem.W.Frag}{C:Addr}{bm:List Value}(q:ExcAt K C bm):ExCls K C where
 cls:=fun h X=>by obtain⟨nm,qn,N,bs,hdct,sn,sub,ab,col,dd,k0,k1,k2,k3,k5,mN,e,e2,e3,e4⟩:=oQ q X;exact⟨nm,qn,N,bs,bm,hdct,sn,sub,ab,col,dd,k0,k1,k2,k3,k5,mN,e,e2,e3,(qS q).exc,e4⟩
structure ExK(K:PySem.W.Frag)(c:Addr):Prop where
 hc:(clsIn K c).isSome=true
 hga:findIn K (.ref c) "__getattribute__" = some (some (.builtin "BaseException.__getattribute__"))
 hgh:findIn K (.ref c) "__getattr__" = some none
 ha:findIn K (.ref c) "__class__" = some (some (.builtin "object.__class__"))
 hb:mroIn K c (.type "BaseException")=some true
 hm:mroIn K c (.type "object")=some true
open PySem PySem.Spec PyProof.Rows PySem.W
def cy(i:Int):Str:=Str.ofString (toString i)
theorem qR:∀(f k n:Nat) (ds:List Char),n<10^(k+1)->(Nat.toDigitsCore 10 f n ds).length<=k+1+ds.length
 |0,k,n,ds,_=>by unfold Nat.toDigitsCore;omega
 |f+1,k,n,ds,h=>by
  unfold Nat.toDigitsCore;dsimp only;split
  ·rw[Zl];omega
  ·rename_i hz;cases k with
   |zero =>have:n / 10=0:=Nat.div_eq_of_lt (by simpa using h);exact absurd this hz
   |succ k =>
    have h':n / 10<10^(k+1):=by rw[Nat.div_lt_iff_lt_mul (by decide)];rw[Nat.pow_succ]at h;exact h
    have:=qR f k (n / 10) (Nat.digitChar (n%10)::ds) h';rw[Zl]at this;omega
theorem Af{i:Int}{k:Nat}(h:i.natAbs<10^(k+1)):(cy i).length<=k+2:=by
 unfold cy;rw[ofString_len];have nat:∀n:Nat,n<10^(k+1)->(Nat.repr n).length<=k+1:=fun n hn=>by unfold Nat.repr;rw[String.length_ofList];have:=qR (n+1) k n [] hn;exact this
 cases i with
 |ofNat n =>have:=nat n h;show(Nat.repr n).length<=_;omega
 |negSucc n =>have:=nat (n+1) h;show("-"++Nat.repr (n+1)).length<=_;rw[String.length_append];have:("-":String).length=1:=rfl;omega
section
variable{X:Cx}{K:PySem.W.Frag}
theorem BV(hK:X.K=K)(hc:X.calm=true)(dg:nsIn K cStatics "sys.int_max_str_digits" = some none):QCall X (.type "str") (fun xs H Q=>∃i:Int,xs=[.int i]/\i.natAbs<10^4300/\Q (.str (cy i)) H):=by refine⟨?_⟩;subst hK;intro pins s σ H xs us Q I r h;obtain⟨i,rfl,hi,q⟩:=h;obtain⟨u,rfl,rx⟩:=cj r;obtain⟨t,rfl⟩:=rx;obtain⟨mc,hn,_⟩:=I.nolimit;exact str_of_int_or (I.ok.hd hc) ⟨mc,hn,ns_none_of I.kIn hn dg⟩ (fun _=>⟨.str (cy i),H,I.tok _,⟨_,rfl⟩,q⟩) (fun z=>absurd hi (Nat.not_lt.mpr z))
theorem DX:QOp X (binaryOp .Add) (fun x y H Q=>∃i j,x=.str i/\y=.str j/\i.length+j.length<=sizeLine/\Q (.str (i++j)) H):=⟨vR⟩
end
open PySem PySem.Spec PyProof.Rows PySem.W
open PySem PySem.Spec PyProof.Rows PySem.W
open PySem PySem.Spec PyProof.Rows PySem.W
def KIn{α:Type}(n:Nat)(P:α->Prop):KasT α->Prop
 |.ret a=>P a
 |.ask i j k=>i<n/\j<n/\∀b,KIn n P (k b)
theorem KIn.bind{α β:Type}{n:Nat}{P:α->Prop}{R:β->Prop}{f:α->KasT β}:∀{t:KasT α},KIn n P t->(∀a,P a->KIn n R (f a))->KIn n R (t.bind f)
 |.ret _,h,k=>k _ h
 |.ask _ _ _,⟨h1,h2,h3⟩,k=>⟨h1,h2,fun b=>KIn.bind (h3 b) k⟩
def POk(n:Nat)(p:Array Nat):Prop:=p.Perm (List.range n).toArray
theorem POk.lt{n:Nat}{p:Array Nat}(h:POk n p)(hn:0<n)(k:Nat):p.getD k 0<n:=by
 rw[ZJ];cases e:p[k]? with
 |none=>exact hn
 |some x =>have hm:x∈p:=Array.mem_of_getElem? e;have:=(h.mem_iff).mp hm;simpa using this
theorem POk.rev{n:Nat}{p:Array Nat}(h:POk n p)(i j:Nat):POk n (kas_rev p i j):=(mirror_perm p i j _).trans h
theorem POk.bub{n:Nat}{p:Array Nat}(h:POk n p)(i j:Nat):POk n (bubble p i j):=(bubble_perm p i j).trans h
theorem nz{n:Nat}(hn:0<n){p:Array Nat}(h:POk n p):∀f k,KIn n (fun _=>True) (kas_asc p f k)
 |0,_=>trivial
 | f+1,k=>⟨h.lt hn _,h.lt hn _,fun c=>by
  cases c with
  |true=>exact trivial
  | false=>exact nz hn h f (k+1)⟩
theorem iN{n:Nat}(hn:0<n):∀(f:Nat) {p:Array Nat},POk n p->∀k q,KIn n (fun r=>POk n r.1) (kas_desc f p k q)
 |0,_,h,_,_=>h
 |f+1,p,h,k,q=>by
  refine⟨h.lt hn _,h.lt hn _,fun c=>?_⟩;cases c with
  |true =>
   show KIn n _ (if q>0 then _ else _);split
   ·exact iN hn f (h.rev _ _) _ _
   ·exact iN hn f h _ _
  |false =>
   refine⟨h.lt hn _,h.lt hn _,fun d=>?_⟩;cases d with
   |true=>exact h
   |false=>exact iN hn f h _ _
theorem rf{n:Nat}(hn:0<n){p:Array Nat}(h:POk n p)(k r:Nat):KIn n (fun r=>POk n r.2) (kas_tail3 k r p):=KIn.bind (nz hn (h.rev 0 k) _ _) fun _ _=>h.rev 0 k
theorem jo{n:Nat}(hn:0<n){p:Array Nat}(h:POk n p)(k r:Nat):KIn n (fun r=>POk n r.2) (kas_descPart k r p):=KIn.bind (iN hn _ h _ _) fun x hx=>by
 show KIn n _ (if x.2.2>0 then _ else _);split
 ·exact rf hn (hx.rev _ _) _ _
 ·exact rf hn hx _ _
theorem xP{n:Nat}(hn:0<n){p:Array Nat}(h:POk n p)(r:Nat):KIn n (fun r=>POk n r.2) (kas_count r p):=KIn.bind (nz hn h _ _) fun k _=>by
 show KIn n _ (if(k==r)=true then _ else if k>1 then _ else _);split
 ·exact h
 ·split
  ·refine⟨h.lt hn _,h.lt hn _,fun c=>?_⟩;cases c with
   |true=>exact h
   |false=>exact jo hn (h.rev _ _) _ _
  ·exact jo hn h _ _
theorem jp{n:Nat}(hn:0<n){p:Array Nat}(h:POk n p)(k:Nat):∀f l r,KIn n (fun _=>True) (kas_place p k f l r)
 |0,_,_=>trivial
 |f+1,l,r=>by
  show KIn n _ (if l>=r then _ else _);split
  ·exact trivial
  ·refine⟨h.lt hn _,h.lt hn _,fun c=>?_⟩;cases c with
   |true=>exact jp hn h k f _ _
   |false=>exact jp hn h k f _ _
theorem ue{n:Nat}(hn:0<n):∀(f:Nat) {p:Array Nat},POk n p->∀k,KIn n (POk n) (kas_bin f p k)
 |0,_,h,_=>h
 |f+1,_,h,k=>KIn.bind (jp hn h k _ _ _) fun _ _=>ue hn f (h.bub _ _) (k+1)
theorem re{n:Nat}(hn:0<n):KIn n (POk n) (kas_sort n):=KIn.bind (xP hn (Array.Perm.refl _) _) fun r hr=>by
 show KIn n _ (if r.1<n then _ else _);split
 ·exact ue hn _ hr _
 ·exact hr
section
variable{X:Cx}
theorem Ds{K:PySem.W.Frag}(hK:X.K=K)(hc:X.calm=true):QCall X (.builtin "sum") (fun xs H Q=>∃(p:Addr) (ns:List Int),xs=[.ref p]/\SqT K H p (ns.map V.int)/\Q (.int ns.sum) H):=by
 subst hK;refine⟨?_⟩;intro pins s σ H xs us Q I r h;obtain⟨p,ns,rfl,hS,q⟩:=h;obtain⟨u,rfl,ru⟩:=cj r;cases ru;obtain⟨its,rv,pl,hz⟩:=I.tuple hS;obtain⟨ys,e1,e2⟩:=fG (ce rv);have hl:s.heap.IsTuple p (intItems ys.toArray):=by obtain⟨o,ho,hc',n,hd⟩:=pl;rw[e1]at hd;exact⟨o,ho,hc',n,by simpa[intItems]using hd⟩
 refine ktm_sumG (I.ok.hd hc) hl fun h' tk t' hk=>⟨.int ns.sum,H,I.kept (t':=tk) hk,⟨t',?_⟩,q⟩
 have e:preSum (numAt ys.toArray) ys.toArray.size=ns.sum:=by rw[preSum_eq,List.take_of_length_le (by simp),e2]
 rw[e]
theorem FH{K:PySem.W.Frag}(hK:X.K=K):QOp X (compareOp .In) (rIn K false):=by subst hK;exact⟨yn⟩
end
open PySem PySem.Spec PyProof.Rows PySem.W
def KW{α:Type}(lt:Nat->Nat->Bool)(Q:α->Prop):KasT α->Prop
 |.ret a=>Q a
 |.ask i j k=>KW lt Q (k (lt i j))
theorem KW.bind{α β:Type}{lt:Nat->Nat->Bool}{Q:β->Prop}{f:α->KasT β}:∀{t:KasT α},KW lt (fun a=>KW lt Q (f a)) t->KW lt Q (t.bind f)
 |.ret _,h=>h
 |.ask i j k,h=>KW.bind (t:=k (lt i j)) h
theorem KW.mono{α:Type}{lt:Nat->Nat->Bool}{Q R:α->Prop}(k:∀a,Q a->R a):∀{t:KasT α},KW lt Q t->KW lt R t
 |.ret _,h=>k _ h
 |.ask i j c,h=>KW.mono k (t:=c (lt i j)) h
structure LtOk(lt:Nat->Nat->Bool):Prop where
 as:∀{a b},lt a b=true->lt b a=false
 tr:∀{a b c},lt b a=false->lt c b=false->lt c a=false
def gA(p:Array Nat)(k:Nat):Nat:=p.getD k 0
def Lx(lt:Nat->Nat->Bool)(a b:Nat):Prop:=lt b a=false/\(lt a b=true\/a<b)
section
variable{lt:Nat->Nat->Bool}(O:LtOk lt)
include O
theorem LtOk.lt_le{a b c:Nat}(h:lt a b=true)(h2:lt c b=false):lt a c=true:=by
 cases e:lt a c with
 |true=>rfl
 |false=>rw[O.tr h2 e]at h;cases h
theorem LtOk.le_lt{a b c:Nat}(h:lt b a=false)(h2:lt b c=true):lt a c=true:=by
 cases e:lt a c with
 |true=>rfl
 |false=>rw[O.tr e h]at h2;cases h2
theorem Lx.trans{a b c:Nat}(h:Lx lt a b)(k:Lx lt b c):Lx lt a c:=by
 refine⟨O.tr h.1 k.1,?_⟩;rcases h.2 with x|x
 ·exact .inl (O.lt_le x k.1)
 ·rcases k.2 with y|y
  ·exact .inl (O.le_lt h.1 y)
  ·exact .inr (Nat.lt_trans x y)
theorem Lx.of_lt{a b:Nat}(h:lt a b=true):Lx lt a b:=⟨O.as h,.inl h⟩
end
structure Fx(N:Nat)(p:Array Nat)(m:Nat):Prop where
 sz:p.size=N
 hi:∀k,m<=k->k<N->gA p k=k
 lo:∀i,i<m->gA p i<m
def LS(lt:Nat->Nat->Bool)(p:Array Nat)(m:Nat):Prop:=∀i j,i<j->j<m->Lx lt (gA p i) (gA p j)
def AS(lt:Nat->Nat->Bool)(p:Array Nat)(m:Nat):Prop:=∀i j,i<j->j<m->Lx lt (gA p j) (gA p i)
theorem Fx.succ{N:Nat}{p:Array Nat}{m:Nat}(h:Fx N p m)(hm:m<N):Fx N p (m+1):=⟨h.sz,fun k h1 h2=>h.hi k (by omega) h2,fun i hi=>by
 rcases Ye i m with h1|h1
 ·have:=h.lo i h1;omega
 ·have e:i=m:=by omega
  subst e;rw[h.hi i (Zb _) hm];omega⟩
theorem cV{p:Array Nat}{i j k:Nat}(hj:j<=p.size):gA (kas_rev p i j) k=if i<=k/\k<j then gA p (i+j-1-k)else gA p k:=by
 unfold gA kas_rev;rw[ZJ,getElem?_mirror_all hj];split
 ·rw[ZJ]
 ·rw[ZJ]
theorem lO(p:Array Nat)(k:Nat):gA p k=(p[k]?).getD 0:=by unfold gA;rw[ZJ]
theorem Dz{p:Array Nat}{k d i:Nat}(hk:k<p.size)(hd:d<=k):gA (bubble p k d) i=if i=k-d then gA p k else if k-d<i/\i<=k then gA p (i-1)else gA p i:=by
 rw[lO,getElem?_bubble hk d hd];split
 ·rw[lO]
 ·split
  ·rw[lO]
  ·rw[lO]
theorem Fx.rev{N:Nat}{p:Array Nat}{m i j:Nat}(h:Fx N p m)(hj:j<=m)(hm:m<=N):Fx N (kas_rev p i j) m:=by
 have hs:j<=p.size:=by rw[h.sz];omega
 refine⟨by rw[kas_rev_size];exact h.sz,fun k h1 h2=>?_,fun k hk=>?_⟩
 ·rw[cV hs,HU (by omega)];exact h.hi k h1 h2
 ·rw[cV hs];split
  ·exact h.lo _ (by omega)
  ·exact h.lo _ hk
section
variable{lt:Nat->Nat->Bool}(O:LtOk lt){N:Nat}
include O
theorem LS.step{p:Array Nat}{n:Nat}(h:LS lt p n)(hx:Lx lt (gA p (n-1)) (gA p n))(h1:1<=n):LS lt p (n+1):=fun i j hij hj=>by
 rcases Ye j n with h2|h2
 ·exact h i j hij h2
 ·have e:j=n:=by omega
  subst e;rcases Ye i (j-1)with h3|h3
  ·exact(h i (j-1) h3 (by omega)).trans O hx
  ·have e:i=j-1:=by omega
   subst e;exact hx
theorem rh{p:Array Nat}:∀(f n:Nat),1<=n->n+f<=N->Fx N p n->LS lt p n->KW lt (fun m=>n<=m/\m<=n+f/\Fx N p m/\LS lt p m/\(m<n+f->lt (gA p m) (gA p (m-1))=true)) (kas_asc p f n)
 |0,n,_,_,hf,hs=>⟨Zb _,Zb _,hf,hs,fun h=>absurd h (by omega)⟩
 |f+1,n,h1,hN,hf,hs=>by
  show KW lt _ (if lt (gA p n) (gA p (n-1))=true then .ret n else kas_asc p f (n+1));by_cases c:lt (gA p n) (gA p (n-1))=true
  ·rw[HV c];exact⟨Zb _,by omega,hf,hs,fun _=>c⟩
  ·rw[HU c];have c':=ZL.mpr c;have hx:Lx lt (gA p (n-1)) (gA p n):=⟨c',.inr (by rw[hf.hi n (Zb _) (by omega)];exact hf.lo _ (by omega))⟩
   refine KW.mono (fun m hm=>?_) (rh f (n+1) (by omega) (by omega) (hf.succ (by omega)) (hs.step O hx h1));exact⟨by omega,by omega,hm.2.2.1,hm.2.2.2.1,fun z=>hm.2.2.2.2 (by omega)⟩
theorem AS.rev{p:Array Nat}{n:Nat}(h:AS lt p n)(hn:n<=p.size):LS lt (kas_rev p 0 n) n:=fun i j hij hj=>by rw[cV hn,cV hn,HV (by omega),HV (by omega)];exact h _ _ (by omega) (by omega)
theorem uh{p:Array Nat}{n:Nat}(h1:1<=n)(hN:n<=N)(hf:Fx N p n)(ha:AS lt p n):KW lt (fun r=>r.1<=N/\1<=r.1/\Fx N r.2 r.1/\LS lt r.2 r.1) (kas_tail3 n N p):=by refine KW.bind (KW.mono (fun m hm=>?_) (rh O (N:=N) (N-n) n h1 (by omega) (hf.rev (Zb _) hN) (ha.rev O (by rw[hf.sz];exact hN))));exact⟨by omega,by omega,hm.2.2.1,hm.2.2.2.1⟩
structure Dn(lt:Nat->Nat->Bool)(p:Array Nat)(n q:Nat):Prop where
 hq:q+1<=n
 up:∀i j,i<j->j<n-(q+1)->Lx lt (gA p j) (gA p i)
 cr:∀i j,i<n-(q+1)->n-(q+1)<=j->j<n->lt (gA p j) (gA p i)=true
 eq:∀i j,n-(q+1)<=i->i<j->j<n->lt (gA p i) (gA p j)=false/\lt (gA p j) (gA p i)=false/\gA p i<gA p j
theorem Dn.rev{p:Array Nat}{n q:Nat}(h:Dn lt p n q)(hn:n<=p.size):AS lt (kas_rev p (n-(q+1)) n) n:=fun i j hij hj=>by
 have hq:=h.hq;rw[cV hn,cV hn];by_cases c1:n-(q+1)<=i
 ·rw[HV (by omega),HV (by omega)];obtain⟨e1,e2,e3⟩:=h.eq (n-(q+1)+n-1-j) (n-(q+1)+n-1-i) (by omega) (by omega) (by omega);exact⟨e2,.inr e3⟩
 ·rw[HU (show¬(n-(q+1)<=i/\i<n) by omega)];by_cases c2:n-(q+1)<=j
  ·rw[HV (by omega)];exact Lx.of_lt O (h.cr _ _ (by omega) (by omega) (by omega))
  ·rw[HU (by omega)];exact h.up _ _ hij (by omega)
theorem Dn.zero{p:Array Nat}{n:Nat}(h:Dn lt p n 0):AS lt p n:=fun i j hij hj=>by
 rcases Ye j (n-1)with c|c
 ·exact h.up i j hij c
 ·exact Lx.of_lt O (h.cr i j (by omega) (by omega) hj)
theorem Dn.start{p:Array Nat}{n:Nat}(h:AS lt p n)(h1:1<=n)(hl:lt (gA p n) (gA p (n-1))=true):Dn lt p (n+1) 0:=by
 refine⟨by omega,fun i j hij hj=>h i j hij (by omega),fun i j hi h2 h3=>?_,fun i j h2 h3 h4=>absurd h3 (by omega)⟩;have e:j=n:=by omega
 subst e;rcases Ye i (j-1)with h3|h3
 ·exact O.lt_le hl (h i (j-1) h3 (by omega)).1
 ·have e:i=j-1:=by omega
  subst e;exact hl
theorem jV:∀(f:Nat) {p:Array Nat} {n q:Nat},n+f<=N->Fx N p n->Dn lt p n q->KW lt (fun r=>n<=r.2.1/\r.2.1<=n+f/\Fx N r.1 r.2.1/\Dn lt r.1 r.2.1 r.2.2) (kas_desc f p n q)
 |0,_,n,_,_,hf,hd=>⟨Zb _,Zb _,hf,hd⟩
 |f+1,p,n,q,hN,hf,hd=>by
  have hs:n<=p.size:=by rw[hf.sz];omega
  have hq:=hd.hq;show KW lt _ (if lt (gA p n) (gA p (n-1))=true then(if q>0 then kas_desc f (kas_rev p (n-(q+1)) n) (n+1) 0 else kas_desc f p (n+1) 0)else KasT.ask (gA p (n-1)) (gA p n) fun d=>if d=true then .ret (p,n,q)else kas_desc f p (n+1) (q+1));by_cases c:lt (gA p n) (gA p (n-1))=true
  ·rw[HV c];have wk:∀{r:Array Nat×Nat×Nat},(n+1<=r.2.1/\r.2.1<=n+1+f/\Fx N r.1 r.2.1/\Dn lt r.1 r.2.1 r.2.2)->n<=r.2.1/\r.2.1<=n+(f+1)/\Fx N r.1 r.2.1/\Dn lt r.1 r.2.1 r.2.2:=fun h=>⟨by omega,by omega,h.2.2.1,h.2.2.2⟩
   by_cases cq:q>0
   ·rw[HV cq];have fr:=hf.rev (i:=n-(q+1)) (Zb n) (by omega);have e1:gA (kas_rev p (n-(q+1)) n) n=gA p n:=by rw[cV hs,HU (by omega)]
    have e2:gA (kas_rev p (n-(q+1)) n) (n-1)=gA p (n-(q+1)):=by rw[cV hs,HV (by omega)];congr 1;omega
    have l2:lt (gA p n) (gA p (n-(q+1)))=true:=O.lt_le c (hd.eq (n-(q+1)) (n-1) (Zb _) (by omega) (by omega)).1;refine KW.mono (fun r h=>wk h) (jV f (by omega) (fr.succ (by omega)) (Dn.start O (hd.rev O hs) (by omega) (by rw[e1,e2];exact l2)))
   ·rw[HU cq];have e:q=0:=by omega
    subst e;exact KW.mono (fun r h=>wk h) (jV f (by omega) (hf.succ (by omega)) (Dn.start O (hd.zero O) (by omega) c))
  ·rw[HU c];have c':=ZL.mpr c;show KW lt _ (if lt (gA p (n-1)) (gA p n)=true then _ else _);by_cases d:lt (gA p (n-1)) (gA p n)=true
   ·rw[HV d];exact⟨Zb _,Nat.le_add_right _ _,hf,hd⟩
   ·rw[HU d];have d':=ZL.mpr d;have gn:gA p n=n:=hf.hi n (Zb _) (by omega);have same:∀i,n-(q+1)<=i->i<n->lt (gA p i) (gA p n)=false/\lt (gA p n) (gA p i)=false:=fun i h1 h2=>by
     rcases Ye i (n-1)with h3|h3
     ·obtain⟨a1,a2,_⟩:=hd.eq i (n-1) h1 h3 (by omega);exact⟨O.tr d' a1,O.tr a2 c'⟩
     ·have e:i=n-1:=by omega
      subst e;exact⟨d',c'⟩
    refine KW.mono (fun r h=>⟨by omega,by omega,h.2.2.1,h.2.2.2⟩) (jV f (n:=n+1) (q:=q+1) (by omega) (hf.succ (by omega)) ⟨by omega,fun i j hij hj=>hd.up i j hij (by omega),fun i j hi h2 h3=>?_,fun i j h1 h2 h3=>?_⟩)
    ·rcases Ye j n with h4|h4
     ·exact hd.cr i j (by omega) (by omega) h4
     ·have e:j=n:=by omega
      subst e;exact O.le_lt d' (hd.cr i (j-1) (by omega) (by omega) (by omega))
    ·rcases Ye j n with h4|h4
     ·exact hd.eq i j (by omega) h2 h4
     ·have e:j=n:=by omega
      subst e;obtain⟨a1,a2⟩:=same i (by omega) h2;exact⟨a1,a2,by rw[gn];exact hf.lo _ h2⟩
theorem km{p:Array Nat}{n:Nat}(h1:1<=n)(hN:n<N)(hf:Fx N p n)(ha:AS lt p n)(hl:lt (gA p n) (gA p (n-1))=true):KW lt (fun r=>r.1<=N/\1<=r.1/\Fx N r.2 r.1/\LS lt r.2 r.1) (kas_descPart n N p):=by
 refine KW.bind (KW.mono (fun r hr=>?_) (jV O (N:=N) (N-(n+1)) (by omega) (hf.succ hN) (Dn.start O ha h1 hl)));obtain⟨r1,r2,r3,r4⟩:=hr;show KW lt _ (if r.2.2>0 then _ else _);by_cases c:r.2.2>0
 ·rw[HV c];exact uh O (by omega) (by omega) (r3.rev (Zb _) (by omega)) (r4.rev O (by rw[r3.sz];omega))
 ·rw[HU c];have e:r.2.2=0:=by omega
  rw[e]at r4;exact uh O (by omega) (by omega) r3 (r4.zero O)
theorem Ak{p:Array Nat}(hN:1<=N)(hf:Fx N p 1):KW lt (fun r=>r.1<=N/\1<=r.1/\Fx N r.2 r.1/\LS lt r.2 r.1) (kas_count N p):=by
 refine KW.bind (KW.mono (fun n hn=>?_) (rh O (N:=N) (N-1) 1 (Zb _) (by omega) hf (fun i j h1 h2=>absurd h1 (by omega))));obtain⟨n1,n2,nf,ns,nl⟩:=hn;show KW lt _ (if(n==N)=true then KasT.ret (n,p)else if n>1 then KasT.ask (gA p 0) (gA p (n-1)) (fun c=>if c=true then .ret (n,p)else kas_descPart n N (kas_rev p 0 n))else kas_descPart n N p);by_cases c:(n==N)=true
 ·rw[HV c];exact⟨by omega,n1,nf,ns⟩
 ·rw[HU c];have nN:n<N:=by have:n≠N:=fun z=>c (ZU.mpr z);omega
  have hl:=nl (by omega);by_cases c2:n>1
  ·rw[HV c2];show KW lt _ (if lt (gA p 0) (gA p (n-1))=true then _ else _);by_cases c3:lt (gA p 0) (gA p (n-1))=true
   ·rw[HV c3];exact⟨by omega,n1,nf,ns⟩
   ·rw[HU c3];have c3':=ZL.mpr c3;have hs:n<=p.size:=by rw[nf.sz];omega
    have le0:∀i,i<n->lt (gA p i) (gA p 0)=false:=fun i hi=>by
     rcases Nat.eq_zero_or_pos i with z|z
     ·subst z;cases e:lt (gA p 0) (gA p 0)with
      |false=>rfl
      |true=>rw[O.as e]at e;cases e
     ·exact(ns 0 i z hi).1
    have leN:∀i,i<n->lt (gA p (n-1)) (gA p i)=false:=fun i hi=>by
     rcases Ye i (n-1)with z|z
     ·exact(ns i (n-1) z (by omega)).1
     ·have e:i=n-1:=by omega
      subst e;cases e:lt (gA p (n-1)) (gA p (n-1))with
      |false=>rfl
      |true=>rw[O.as e]at e;cases e
    have all:∀i j,i<n->j<n->lt (gA p i) (gA p j)=false:=fun i j hi hj=>O.tr (leN j hj) (O.tr c3' (le0 i hi));refine km O n1 nN (nf.rev (Zb _) (by omega)) (fun i j hij hj=>?_) ?_
    ·rw[cV hs,cV hs,HV (by omega),HV (by omega)];have z:=ns (0+n-1-j) (0+n-1-i) (by omega) (by omega);refine⟨all _ _ (by omega) (by omega),?_⟩;rcases z.2 with y|y
     ·rw[all _ _ (by omega) (by omega)]at y;cases y
     ·exact .inr y
    ·rw[cV hs,cV hs,HU (by omega),HV (by omega)];exact O.lt_le hl (all _ _ (by omega) (by omega))
  ·rw[HU c2];have e:n=1:=by omega
   subst e;exact km O n1 nN nf (fun i j h1 h2=>absurd h1 (by omega)) hl
theorem kK{p:Array Nat}{k:Nat}(hs:LS lt p k):∀(f l r:Nat),r-l<=f->r<=k->(∀i,i<l->i<k->lt (gA p k) (gA p i)=false)->(∀i,r<=i->i<k->lt (gA p k) (gA p i)=true)->l<=r ->
  KW lt (fun m=>m<=k/\(∀i,i<m->lt (gA p k) (gA p i)=false)/\∀i,m<=i->i<k->lt (gA p k) (gA p i)=true) (kas_place p k f l r)
 |0,l,r,h1,h2,h3,h4,h5=>⟨by omega,fun i hi=>h3 i hi (by omega),fun i hi=>h4 i (by omega)⟩
 |f+1,l,r,h1,h2,h3,h4,h5=>by
  show KW lt _ (if l>=r then KasT.ret l else KasT.ask (gA p k) (gA p ((l+r) / 2)) fun c=>if c=true then kas_place p k f l ((l+r) / 2)else kas_place p k f ((l+r) / 2+1) r);by_cases c:l>=r
  ·rw[HV c];exact⟨by omega,fun i hi=>h3 i hi (by omega),fun i hi=>h4 i (by omega)⟩
  ·rw[HU c];show KW lt _ (if lt (gA p k) (gA p ((l+r) / 2))=true then _ else _);by_cases d:lt (gA p k) (gA p ((l+r) / 2))=true
   ·rw[HV d];refine kK hs f l ((l+r) / 2) (by omega) (by omega) h3 (fun i hi hk=>?_) (by omega);rcases Nat.eq_or_lt_of_le hi with e|e
    ·rw[<-e];exact d
    ·exact O.lt_le d (hs _ _ e hk).1
   ·rw[HU d];have d':=ZL.mpr d;refine kK hs f ((l+r) / 2+1) r (by omega) h2 (fun i hi hk=>?_) h4 (by omega);rcases Ye i ((l+r) / 2)with e|e
    ·exact O.tr (hs _ _ e (by omega)).1 d'
    ·have e:i=(l+r) / 2:=by omega
     rw[e];exact d'
theorem xR:∀(f:Nat) {p:Array Nat} {k:Nat},k+f=N->1<=k->Fx N p k->LS lt p k->KW lt (fun p=>p.size=N/\LS lt p N) (kas_bin f p k)
 |0,p,k,e,_,hf,hs=>by
  have:k=N:=by omega
  subst this;exact⟨hf.sz,hs⟩
 |f+1,p,k,e,h1,hf,hs=>by
  refine KW.bind (KW.mono (fun m hm=>?_) (kK O hs k 0 k (by omega) (Zb _) (fun i hi=>absurd hi (by omega)) (fun i h2 h3=>absurd h2 (by omega)) (ZV _)));obtain⟨m1,m2,m3⟩:=hm;have hk:k<p.size:=by rw[hf.sz];omega
  have gk:gA p k=k:=hf.hi k (Zb _) (by omega);have ekm:k-(k-m)=m:=by omega
  have gb:∀i,gA (bubble p k (k-m)) i=if i=m then gA p k else if m<i/\i<=k then gA p (i-1)else gA p i:=fun i=>by rw[Dz hk (by omega),ekm]
  refine xR f (by omega) (by omega) ⟨by rw[bubble_size];exact hf.sz,fun i h2 h3=>?_,fun i hi=>?_⟩ (fun i j hij hj=>?_)
  ·rw[gb,HU (by omega),HU (by omega)];exact hf.hi i (by omega) h3
  ·rw[gb];split
   ·rw[gk];omega
   ·split
    ·have:=hf.lo (i-1) (by omega);omega
    ·have:=hf.lo i (by omega);omega
  ·have lk:∀i,i<m->Lx lt (gA p i) (gA p k):=fun i hi=>⟨m2 i hi,.inr (by rw[gk];exact hf.lo i (by omega))⟩
   have gt:∀i,m<=i->i<k->Lx lt (gA p k) (gA p i):=fun i h2 h3=>Lx.of_lt O (m3 i h2 h3);rw[gb,gb];by_cases a1:i=m
   ·rw[HV a1,HU (by omega),HV (by omega)];exact gt _ (by omega) (by omega)
   ·rw[HU a1];by_cases a2:m<i/\i<=k
    ·rw[HV a2,HU (by omega),HV (by omega)];exact hs _ _ (by omega) (by omega)
    ·rw[HU a2];by_cases b1:j=m
     ·rw[HV b1];exact lk i (by omega)
     ·rw[HU b1];by_cases b2:m<j/\j<=k
      ·rw[HV b2];exact hs _ _ (by omega) (by omega)
      ·rw[HU b2];exact hs _ _ hij (by omega)
theorem ug(hN:1<=N):KW lt (fun p=>p.size=N/\LS lt p N) (kas_sort N):=by
 have f0:Fx N (List.toArray (List.range N)) 1:=by
  have g:∀k,k<N->gA (List.toArray (List.range N)) k=k:=fun k hk=>by rw[lO];simp[hk]
  refine⟨by simp,fun k _ hk=>g k hk,fun i hi=>?_⟩;have e:i=0:=by omega
  subst e;rw[g 0 (by omega)];decide
 refine KW.bind (KW.mono (fun r hr=>?_) (Ak O hN f0));obtain⟨r1,r2,r3,r4⟩:=hr;show KW lt _ (if r.1<N then kas_bin (N-max r.1 1) r.2 (max r.1 1)else .ret r.2);have e:max r.1 1=r.1:=by omega
 rw[e];by_cases c:r.1<N
 ·rw[HV c];exact xR O _ (by omega) r2 r3 r4
 ·rw[HU c];have e:r.1=N:=by omega
  rw[e]at r3 r4;exact⟨r3.sz,r4⟩
end
open PySem PySem.Spec PyProof.Rows PySem.W
def Ite(K:PySem.W.Frag)(a:Addr)(xs:List V):It :=
 ⟨fun i H=>i<xs.length/\SqL K H a xs,fun i H x H'=>∃T p,H T=none/\xs[i]?=some p/\x=.ref T/\H'=upd H T (.tup [.int i,p]),fun i H=>i=xs.length/\SqL K H a xs⟩
abbrev eTn(e it a:Addr):Nat->Heap->Prop:=fun i h=>(∃old,IsEnum h e it i old)/\h.IsListIter it a i
theorem zi{P:Program}{w:World}{K:PySem.W.Frag}{elts:List Expr}{kt:Nat}{tp:Pos}{e it a:Addr}{xs:List V}(ne:e≠it)(ha:e≠a/\it≠a) :
  Turn P w K (.Tuple elts kt tp) (Ite K a xs) [e,it] e (eTn e it a):=by
 refine⟨by simp,fun i h st c hc=>?_,fun i h h' st k=>?_,?_,?_,fun A i s Q E st h=>?_⟩
 ·obtain⟨⟨old,e1⟩,⟨o4,e4,_,d4⟩⟩:=st;simp only[Zj,ZN,Ym]at hc;rcases hc with rfl|rfl
  ·exact⟨_,e1,fun v z=>nomatch z⟩
  ·exact⟨_,e4,fun v z=>by rw[d4]at z;cases z⟩
 ·obtain⟨⟨old,e1⟩,⟨o4,e4,r4⟩⟩:=st;exact⟨⟨old,k e (by simp) _ e1⟩,⟨o4,k it (by simp) _ e4,r4⟩⟩
 ·intro X hP hw hK hc i pins s σ H E I hf st hg;subst hP hw hK;obtain⟨⟨old,e1⟩,e4⟩:=st;obtain⟨hi,hx⟩:=hg;obtain⟨its,rx,px,zx⟩:=I.list hx;have lx:i<its.toArray.size:=by rw[Ze,<-rx.length];exact hi
  have hh:=I.ok.hd hc;refine wpAny_pyNext_enum_itemD (Draws.list (A:=X.A.in1) hh it a ha.2.symm its.toArray) e1 ⟨e4,px.isList⟩ lx ne (by simp[ne,ha.1]) fun x h' tk qx ho hs' hT hsz hk=>?_;refine⟨_,rfl,wpAny_letOwnedTupleGo_enum (s:={ s with heap:=h',toks:=tk+1 }) ho fun h2 he2 sb=>?_⟩;obtain⟨xv,ex⟩:∃xv,xs[i]?=some xv:=⟨xs[i],by simp[hi]⟩
  obtain⟨x',gx,rxv⟩:=rx.get ex;have qx':its[i]?=some x:=by simpa using qx
  rw[gx]at qx';cases qx';have lte:e<s.heap.objs.size:=Zi e1;have kp2:∀c o,c∉[e,it]->s.heap.get? c=some o->h2.get? c=some o:=fun c o hc q=>by simp only[Zj,ZN,Ym,not_or]at hc;exact sb.extBut c o hc.1 (hk c o hc.1 hc.2 q)
  have tT:IsTup h2 s.heap.objs.size [.int i tk,x].toArray:=⟨_,sb.extBut _ _ (Z4 lte) hT,rfl,_,rfl⟩
  refine⟨.ref s.heap.objs.size,upd H s.heap.objs.size (.tup [.int i,xv]),I.turnT (t':=tk+1) hf kp2 tT (.cons ⟨tk,rfl⟩ (.cons rxv .nil)) (sz rfl),rfl,⟨_,xv,I.hok.fresh (Zb _),ex,rfl,rfl⟩,?_,fun c hc=>?_⟩
  ·exact⟨⟨_,by simpa using he2⟩,hs'.1.extBut sb.extBut ne.symm⟩
  ·rw[af]
   ·exact(hf c hc).1
   ·obtain⟨o,eo⟩:∃o,s.heap.get? c=some o:=by
     simp only[Zj,ZN,Ym]at hc;rcases hc with rfl|rfl
     ·exact⟨_,e1⟩
     ·obtain⟨o,eo,_⟩:=e4;exact⟨o,eo⟩
    exact Zn (Zi eo)
 ·intro X hP hw hK hc i pins s σ H E I hf st hg;subst hP hw hK;obtain⟨⟨old,e1⟩,e4⟩:=st;obtain⟨rfl,hx⟩:=hg;obtain⟨its,rx,px,zx⟩:=I.list hx;have lx:its.toArray.size=xs.length:=by rw[Ze,<-rx.length]
  have hh:=I.ok.hd hc;refine wpAny_pyNext_enum_endD (Draws.list (A:=X.A.in1) hh it a ha.2.symm its.toArray) e1 ⟨by rw[lx];exact e4,px.isList⟩ fun h' kp=>⟨rfl,?_⟩
  exact I.turnM (t':=s.toks) hf fun c ob hc q=>by simp only[Zj,ZN,Ym,not_or]at hc;exact kp c ob hc.2 q
 ·obtain⟨⟨old,e1⟩,_⟩:=st;exact wpAny_pyIter_enum e1 h
def Bo(K:PySem.W.Frag)(ta:TA):TI:=fun σ H R=>ta σ H fun vs H1=>∃a xs,vs=[.ref a]/\H1 a=some (.lst xs)/\R (Ite K a xs) H1
section
variable{X:Cx}
theorem CC{e1:Expr}{ta:TA}{p pos tp:Pos}{elts:List Expr}{kt:Nat}(hg:Gl X "enumerate")(hm:X.mg "enumerate" = none)(ha:PA X [e1] ta)(n1:aR e1=true):PI X (.Tuple elts kt tp) (.Call (.Name "enumerate" p) [e1] [] pos) (Bo X.K ta):=by
 intro pins s σ H R I h;refine Call_ (eE I hg hm boot_enumerate (Yp (thn (ha pos pins s σ H _ I h) fun us s1 hz9=>?_) (aY n1) (br (by simp))));obtain⟨vs,H1,I1,r1,q1⟩:=hz9;obtain⟨a,xs,e,hx,q⟩:=q1;subst e;obtain⟨ua,rfl,ra⟩:=cj r1;cases ra;obtain⟨z,its,n,rx,hl',eo⟩:=I1.lstM hx;have la:a<s1.heap.objs.size:=Zi eo;refine call_enumerate_1 eo fun h' he hl hz hk=>wpAny_pyIter_enum he ?_;refine⟨s1.heap.objs.size+1,[s1.heap.objs.size+1,s1.heap.objs.size],eTn (s1.heap.objs.size+1) s1.heap.objs.size a,_,H1,rfl,I1.kept (t':=s1.toks) hk,zi (Nat.succ_ne_self _) ⟨Z4 (YQ la),Z4 la⟩,⟨⟨_,he⟩,hl⟩,fun c hc=>?_,q⟩;have hc':s1.heap.objs.size<=c:=by
  simp only[Zj,ZN,Ym]at hc;rcases hc with rfl|rfl
  ·exact Nat.le_succ _
  ·exact Zb _
 exact I1.fpOk hc' (I1.hok.fresh hc')
theorem DE{e1:Expr}{ta:TA}{p pos tp:Pos}{elts:List Expr}{kt:Nat}(hm:X.mg "enumerate" = none)(ha:QA X [e1] ta)(hg:Gl X "enumerate":=by rfl)(n1:aR e1=true:=by rfl):QI X (.Tuple elts kt tp) (.Call (.Name "enumerate" p) [e1] [] pos) (Bo X.K ta):=⟨CC hg hm ha.h n1⟩
end
theorem zZ{K:PySem.W.Frag}{a:Addr}{xs:List V}{i j:Nat}{tb:TS}{D:Ends}{σ:St}{H:Hp}(Pv:Nat->St->Hp->Prop)(h0:Pv 0 σ H)(ha:∀i σ H,i<=xs.length->Pv i σ H->SqL K H a xs)(hs:∀k x σ H,xs[k]?=some x->Pv k σ H->∀T,H T=none->tb { D with nx:=Pv (k+1),ct:=Pv (k+1),bk:=D.nx } ((σ.set i (some (.int k))).set j (some x)) (upd H T (.tup [.int k,x])))(hd:∀σ H,Pv xs.length σ H->D.nx σ H) :
  ∃W:Nat->Nat->St->Hp->Prop,(∃m,W 0 m σ H)/\∀k m σ H,W k m σ H ->
   ((Ite K a xs).stop k H/\D.nx σ H)\/((Ite K a xs).go k H/\∃N:St->Hp->Prop,(∀σ' H',N σ' H'->∃m',m'<m/\W (k+1) m' σ' H')/\∀x H',(Ite K a xs).yld k H x H'->ji K 2 (dJ (bz i) (dJ (bz j) jh)) x σ H' fun σ2 H2=>tb { D with nx:=N,ct:=N,bk:=D.nx } σ2 H2):=by
 refine⟨fun k m σ H=>m=xs.length-k/\k<=xs.length/\Pv k σ H,⟨xs.length,by simp,ZV _,h0⟩,?_⟩;rintro k m σ H ⟨rfl,hk,pv⟩;by_cases hlt:k<xs.length
 ·refine .inr ⟨⟨hlt,ha k σ H hk pv⟩,Pv (k+1),fun σ' H' z=>⟨xs.length-(k+1),by omega,rfl,hlt,z⟩,fun x H' y=>?_⟩;obtain⟨T,p,hT,hx,rfl,rfl⟩:=y;exact⟨T,[.int k,p],rfl,SqT.of ad,rfl,.int k,[p],rfl,p,[],rfl,rfl,hs k p σ H hx pv T hT⟩
 ·have e:k=xs.length:=by omega
  subst e;exact .inl ⟨⟨rfl,ha _ σ H hk pv⟩,hd σ H pv⟩
open PySem PySem.Spec PyProof.Rows PySem.W
theorem ny{α:Type}{n:Nat}{lt:Nat->Nat->Bool}{P R:α->Prop}{cmp:Nat->Nat->(Bool->Shared->Prop)->Shared->Prop}{Q:α->Shared->Prop}{s:Shared}(hc:∀i j C,i<n->j<n->C (lt i j) s->cmp i j C s)(hq:∀a,P a->R a->Q a s):∀{t:KasT α},KIn n P t->KW lt R t->t.kasWp cmp Q s
 |.ret _,h,k=>hq _ h k
 |.ask i j c,⟨h1,h2,h3⟩,k=>hc _ _ _ h1 h2 (ny hc hq (t:=c (lt i j)) (h3 _) k)
section
variable{X:Cx}{pins:List (Addr×Obj)}{σ:St}{H:Hp}{s:Shared}{h':Heap}
theorem Inv.movedF{ch:List Addr}{t':Nat}(I:Inv X pins σ H s)(hch:∀b∈ch,bH X pins H b)(k:∀b u,b≠X.env.locals->b∉ch->s.heap.get? b=some u->h'.get? b=some u)(hn:∃m,s.heap.Ns X.env.locals m/\h'.Ns X.env.locals m):Inv X pins σ H { s with heap:=h',toks:=t' }:=by
 have neL:∀{b:Addr} {u:HO},H b=some u->b≠X.env.locals:=fun{b u} e=>am e I.free;have neC:∀{b:Addr} {u:HO},H b=some u->b∉ch:=fun{b u} e z=>by have:=(hch b z).1;rw[e]at this;cases this
 refine I.step (g':=s.gens) (d':=s.drawn) (ch:=ch) (fun b hb=>⟨(hch b hb).2.2.2.1,(hch b hb).2.1,(hch b hb).2.2.2.2.1,(hch b hb).2.2.2.2.2⟩) (fun b o hL _ hc e _=>k b o hL hc e) (fun b o hL _ hc e _=>⟨o.slots,k b o hL hc e⟩) (fun b o _ e n=>n) (fun b o hc e=>?_)
  (fun b xs e=>e) (fun b o u e=>e) (fun b ps e=>⟨#[],by rw[e];simp⟩) (fun m' hm'=>?_) (fun b u e=>?_) I.bare
 ·by_cases hL:b=X.env.locals
  ·obtain⟨m,_,o',_,_,e',_⟩:=hn;exact⟨o',by rw[hL];exact e'⟩
  ·exact⟨o,k b o hL hc e⟩
 ·obtain⟨m,h1,h2⟩:=hn;rw[hm'.eq_nsMap,<-h1.eq_nsMap];exact h2
 ·refine(I.hok b u e).stay (fun c v hc q=>k c v ?_ ?_ q) (fun c q=>q) fun c ys q=>q
  ·rcases hc with z|z
   ·rw[z];exact neL e
   ·exact neL z
  ·rcases hc with z|z
   ·rw[z];exact neC e
   ·exact neC z
theorem Inv.tookF{ch:List Addr}{a:Addr}{o:HO}{t':Nat}(I:Inv X pins σ H s)(ha:a∈ch)(hch:∀b∈ch,bH X pins H b)(k:∀b u,b≠X.env.locals->b∉ch->s.heap.get? b=some u->h'.get? b=some u)(hn:∃m,s.heap.Ns X.env.locals m/\h'.Ns X.env.locals m)(new:ObjOk X.prog X.w (upd H a o) h' a o):Inv X pins σ (upd H a o) { s with heap:=h',toks:=t' }:=by
 have fr:=(hch a ha).1;have ne:∀{b:Addr} {u:HO},H b=some u->b≠a:=fun{b u} e=>am e fr;have neL:∀{b:Addr} {u:HO},H b=some u->b≠X.env.locals:=fun{b u} e=>am e I.free;have neC:∀{b:Addr} {u:HO},H b=some u->b∉ch:=fun{b u} e z=>by have:=(hch b z).1;rw[e]at this;cases this
 refine I.step (g':=s.gens) (d':=s.drawn) (ch:=ch) (fun b hb=>⟨(hch b hb).2.2.2.1,(hch b hb).2.1,(hch b hb).2.2.2.2.1,(hch b hb).2.2.2.2.2⟩) (fun b o hL _ hc e _=>k b o hL hc e) (fun b o hL _ hc e _=>⟨o.slots,k b o hL hc e⟩) (fun b o hc e n=>by rw[af (fun z:b=a=>hc (by rw[z];exact ha))];exact n) (fun b o hc e=>?_)
  (fun b xs e=>by rw[af (ne e)];exact e) (fun b o u e=>by rw[af (ne e)];exact e) (fun b ps e=>⟨#[],by rw[af (ne e),e];simp⟩) (fun m' hm'=>?_) (fun b u e=>?_) I.bare
 ·by_cases hL:b=X.env.locals
  ·obtain⟨m,_,o',_,_,e',_⟩:=hn;exact⟨o',by rw[hL];exact e'⟩
  ·exact⟨o,k b o hL hc e⟩
 ·obtain⟨m,h1,h2⟩:=hn;rw[hm'.eq_nsMap,<-h1.eq_nsMap];exact h2
 ·by_cases hb:b=a
  ·subst hb;rw[ad]at e;cases e;exact new
  ·rw[af hb]at e;refine(I.hok b u e).stay (fun c v hc q=>k c v ?_ ?_ q) (fun c q=>by rw[af (ne q)];exact q) fun c ys q=>by rw[af (ne q)];exact q
   ·rcases hc with z|z
    ·rw[z];exact neL e
    ·exact neL z
   ·rcases hc with z|z
    ·rw[z];exact neC e
    ·exact neC z
def fV(base h:Heap)(L kS:Addr):List (Addr×Obj):=(mm base h L).filter fun p=>decide (p.1≠kS)
theorem gj{base h:Heap}{L kS:Addr}{o:Obj}(e:h.get? kS=some o)(hL:kS≠L)(hb:base.get? kS=none):News base L h ((kS,o)::fV base h L kS):=fun p hp=>by
 rcases Zj.mp hp with rfl|hp
 ·exact⟨e,hL,hb⟩
 ·exact hG base h L p (ZZ.mp hp).1
theorem iS{base h:Heap}{L kS:Addr}:∀p∈fV base h L kS,p.1≠kS:=fun p hp=>ZS (ZZ.mp hp).2
theorem gi{base h h2:Heap}{L kS:Addr}{o':Obj}{m:Str->Option Value}(hbk:∀b o,base.get? b=some o->h.get? b=some o)(F:Fr base L h2 m)(N:News base L h2 ((kS,o')::fV base h L kS)):∀b u,b≠L->b∉[kS]->h.get? b=some u->h2.get? b=some u:=fun b u hL hk e=>by
 cases q:base.get? b with
 |none=>exact(N (b,u) (.tail _ (ZZ.mpr ⟨cS e hL q,decide_eq_true (fun z=>hk (Zf.mpr z))⟩))).1
 |some o =>have e':=hbk b o q;rw[e]at e';cases e';exact F.keep b u q
structure SK(X:Cx)(pins:List (Addr×Obj))(σ:St)(H1:Hp)(m:Str->Option Value)(kS D:Addr)(e1:Nat)(ks:List (List Int))(as:List Addr)(e:Nat)(H:Hp)(s:Shared):Prop where
 I:Inv X pins σ H s
 sm:Same H1 H
 fk:bH X pins H kS
 fd:bH X pins H D
 bk:X.base.get? kS=none
 bd:X.base.get? D=none
 hk:s.heap.get? kS=some (seqObj "list" (List.toArray (as.map Value.ref)) e)
 hd:s.heap.get? D=some (seqObj "list" #[] e1)
 ns:s.heap.Ns X.env.locals m
 keys:∀(i:Nat) (a:Addr) (k:List Int),as[i]?=some a->ks[i]?=some k->H a=some (.tup (k.map V.int))
end
open PySem PySem.Spec PyProof.Rows PySem.W
theorem xU:∀{a b:List Int},HT.lexLt a b=true->HT.lexLt b a=false
 | [],[],h=>by cases h
 | [],_::_,_=>rfl
 |_::_,[],h=>by cases h
 |x::a,y::b,h=>by
  rw[HT.lexLt_cons]at h ⊢;by_cases e:x=y
  ·subst e;rw[HV rfl]at h ⊢;exact xU h
  ·rw[HU e]at h;rw[HU (fun z=>e z.symm)];have:=ZS h;exact decide_eq_false (by omega)
theorem xW:∀{a b c:List Int},HT.lexLt b a=false->HT.lexLt c b=false->HT.lexLt c a=false
 | [],[],[],_,_=>rfl
 | [],[],_::_,_,_=>rfl
 | [],_::_,[],_,h=>by cases h
 | [],_::_,_::_,_,_=>rfl
 |_::_,[],_,h,_=>by cases h
 |_::_,_::_,[],_,h=>by cases h
 |x::a,y::b,z::c,h,k=>by
  rw[HT.lexLt_cons]at h k ⊢;by_cases e:y=x
  ·subst e;rw[HV rfl]at h;by_cases e2:z=y
   ·rw[HV e2]at k ⊢;exact xW h k
   ·rw[HU e2]at k ⊢;exact k
  ·rw[HU e]at h;have h':=of_decide_eq_false h;by_cases e2:z=y
   ·rw[HU (by omega)];exact decide_eq_false (by omega)
   ·rw[HU e2]at k;have k':=of_decide_eq_false k;rw[HU (by omega)];exact decide_eq_false (by omega)
theorem xV(ks:List (List Int)):LtOk (fun i j=>HT.lexLt (ks.getD i []) (ks.getD j [])):=⟨xU,xW⟩
section
variable{X:Cx}{pins:List (Addr×Obj)}{σ:St}{H:Hp}{s:Shared}
def wX(X:Cx)(l:List Addr):Cx:={ X with ex:=l++X.ex }
structure ExOk(X:Cx)(b:Addr):Prop where
 old:b∈X.ex\/X.s₀.heap.get? b=none
 loc:b≠X.env.locals
 cel:∀x c,X.env.cells.lookup x=some c->c≠b
 bas:X.base.get? b=none
 fs:b∉X.fs
theorem Inv.widen{l:List Addr}(I:Inv X pins σ H s)(hl:∀b∈l,ExOk X b):Inv (wX X l) pins σ H s:=by
 have ok:(wX X l).Ok:=by
  have o:=I.ok;refine⟨o.mod,o.kind,o.glob,o.blt,o.above,o.inj,o.has,o.cab,o.hd,o.frames,o.stk,fun b hb=>?_,o.bs,o.bsz,fun b ob hb z=>?_,fun b hb=>?_,o.funs,o.frf⟩
  ·rcases ZD.mp hb with h|h
   ·exact⟨(hl b h).loc,(hl b h).cel⟩
   ·exact o.exf b h
  ·rcases ZD.mp z with h|h
   ·have hb':X.base.get? b=some ob:=hb;rw[(hl b h).bas]at hb';cases hb'
   ·exact o.noex b ob hb h
  ·rcases ZD.mp hb with h|h
   ·exact(hl b h).fs
   ·exact o.exfs b h
 have ne:∀{b:Addr},b∉l++X.ex->b∉X.ex:=fun h z=>h (Zq _ z);have u:=I.base;exact⟨ok,I.os,I.bare,⟨fun b o e n hb hx=>u.keep b o e n hb (ne hx),fun b o e n hb hx=>u.slot b o e n hb (ne hx),fun b o e n hx=>u.free b o e n (ne hx),fun b o e hx=>u.there b o e (ne hx),u.tups,u.frzs,u.tbls⟩,I.loc,I.cell,I.free,I.freeC,I.pin,I.hok,I.len⟩
theorem Inv.narrow{l:List Addr}(I:Inv (wX X l) pins σ H s)(ok:X.Ok)(hl:∀b∈l,b∈X.ex\/X.s₀.heap.get? b=none):Inv X pins σ H s:=by
 have ne:∀{b:Addr} {o:Obj},X.s₀.heap.get? b=some o->b∉X.ex->b∉l++X.ex:=fun{b o} e h z=>by
  rcases ZD.mp z with z|z
  ·rcases hl b z with y|y
   ·exact h y
   ·rw[y]at e;cases e
  ·exact h z
 have u:=I.base;exact⟨ok,I.os,I.bare,⟨fun b o e n hb hx=>u.keep b o e n hb (ne e hx),fun b o e n hb hx=>u.slot b o e n hb (ne e hx),fun b o e n hx=>u.free b o e n (ne e hx),fun b o e hx=>u.there b o e (ne e hx),u.tups,u.frzs,u.tbls⟩,I.loc,I.cell,I.free,I.freeC,I.pin,I.hok,I.len⟩
theorem Inv.exOk(I:Inv X pins σ H s){b:Addr}(hb:s.heap.get? b=none)(hL:b≠X.env.locals)(h0:X.base.get? b=none):ExOk X b:=by
 have old:b∈X.ex\/X.s₀.heap.get? b=none:=by
  by_cases hx:b∈X.ex
  ·exact .inl hx
  ·cases e:X.s₀.heap.get? b with
   |none=>exact .inr rfl
   |some o =>obtain⟨o',e'⟩:=I.base.there b o e hx;rw[hb]at e';cases e'
 refine⟨old,hL,fun x c e z=>?_,h0,fun z=>?_⟩
 ·obtain⟨v,o,ho,_⟩:=I.cell x c e;rw[z,hb]at ho;cases ho
 ·obtain⟨_,o,ho,_⟩:=I.ok.funs.mem z;rcases old with y|y
  ·exact I.ok.exfs b y z
  ·rw[y]at ho;cases ho
theorem Inv.fpW{l:List Addr}(I:Inv X pins σ H s){b:Addr}(hm:b∈l)(x:ExOk X b)(hb:s.heap.get? b=none):bH (wX X l) pins H b:=by refine⟨none_of I hb,x.loc,x.fs,.inl (Yg _ hm),x.cel,fun p hp z=>?_⟩;have:=(I.pin p hp).1;rw[z,hb]at this;cases this
theorem rc{ks:List (List Int)}(I:Inv X pins σ H s)(hk:∀k∈ks,k≠[]):∀(as:List Addr) (n:Nat),n+as.length=ks.length->(∀(i:Nat) (a:Addr) (k:List Int),as[i]?=some a->ks[n+i]?=some k->H a=some (.tup (k.map V.int)))->∃fs:List Value,KatTups s.heap (as.map Value.ref) fs/\fs.length=as.length/\∀v∈fs,∃i t,v=.int i t
 | [],_,_,_=>⟨[],KatTups.nil,rfl,fun v h=>nomatch h⟩
 |a::as,n,hl,h=>by
  rw[Zl]at hl;have hkn:ks[n]?=some (ks[n]'(by omega)):=Zd (by omega);have hne:=hk _ (ZF (show n<ks.length by omega));generalize ks[n]'(by omega)=k at hkn hne;have ea:=h 0 a k rfl (by rw[Nat.add_zero];exact hkn);obtain⟨ia,ra,pa,za⟩:=I.tuple (SqT.of (K:=X.K) ea);obtain⟨oa,eo,ca,n1,da⟩:=id pa;obtain⟨x,t,ia',rfl⟩:∃x t r,ia=.int x t::r:=by
   cases ce ra with
   |nil=>exact absurd rfl hne
   |cons x t r=>exact⟨x,t,_,rfl⟩
  obtain⟨fs,f1,f2,f3⟩:=rc I hk as (n+1) (by omega) (fun i b k' h1 h2=>h (i+1) b k' h1 (by rw[show n+(i+1)=n+1+i by omega];exact h2));refine⟨.int x t::fs,KatTups.cons eo ca da rfl f1,by rw[Zl,Zl,f2],fun v hv=>?_⟩;rcases Zj.mp hv with rfl|hv
  ·exact⟨_,_,rfl⟩
  ·exact f3 v hv
end
open PySem PySem.Spec PyProof.Rows PySem.W
section
variable{X:Cx}{o i value:Expr}{pos pos':Pos}{td ty tv:TE}
theorem vU:QE X (.Dict [] [] pos) yY:=⟨AA⟩
theorem jw(hu:X.A.units+64<cLine)(ho:QE X o td)(hi:QE X i ty)(hs:zB i:=by intro _ _;rfl):QE X (.Subscript o i pos) (BF td ty):=⟨Cw (by omega) ho.h hi.h hs⟩
theorem By(hu:X.A.units+64<cLine)(hi:QE X i ty)(ho:QE X o td)(hm:behindInMarks .In o=false:=by with_unfolding_all rfl):QE X (.Compare i [.In] [o] pos) (E3 ty td):=⟨Eg (Ee (by omega) hi.h ho.h) hm⟩
theorem sA(hu:X.A.units+64<cLine)(hi:QE X i ty)(ho:QE X o td)(hm:behindInMarks .NotIn o=false:=by with_unfolding_all rfl):QT X (.Compare i [.NotIn] [o] pos) (tB (uD ty td)):=⟨EB (yr (by omega) hi.h ho.h) hm⟩
theorem mn(hu:X.A.units+64<cLine)(ho:QE X o td)(hi:QE X i ty)(hv:QE X value tv)(hs:swapsWith value (some (.Subscript o i pos')) pos.line X.env=pure false:=by rfl):QS X (.Assign [.Subscript o i pos'] value pos) (BC td ty tv):=⟨CI (by omega) ho.h hi.h hv.h hs⟩
end
open PySem PySem.Spec PyProof.Rows PySem.W
open PySem PySem.Spec PyProof.Rows PySem.W
open PySem PySem.Spec PyProof.Rows PySem.W
open Classical in
noncomputable def jg(h:Heap)(dx:PyData)(u:Value):Bool:=decide (∃d as,Reads h u d as/\PyData.canLay0 d=true/\PyData.eqv d dx=true)
open Classical in
theorem ng{h:Heap}{dx d:PyData}{u:Value}{as:List Addr}(r:Reads h u d as)(hl:d.canLay0=true):jg h dx u=PyData.eqv d dx:=by
 unfold jg;cases e:PyData.eqv d dx with
 |true=>exact decide_eq_true ⟨d,as,r,hl,e⟩
 |false =>refine decide_eq_false ?_;rintro⟨d',as',r',l',e'⟩;rw[SeqAt.Reads.unique d d' u as as' hl r r',e']at e;cases e
section
variable{P:Program}{w:World}{H:Hp}{h:Heap}
theorem iE(ok:HOk P w H h):∀{ds:List PyData} {xs:List V} {us:List Value},DtAll H ds xs->Vals xs us->PyData.canLayAll0 ds=true->∀dx:PyData,us.any (jg h dx)=ds.any (fun d=>PyData.eqv d dx)/\us.countP (jg h dx)=ds.countP (fun d=>PyData.eqv d dx)/\∀u∈us,∃d as,d∈ds/\Reads h u d as/\d.canLay0=true
 | [],xs,us,hd,r,_,dx=>by
  have e:xs=[]:=by simpa only[DtAll]using hd
  subst e;cases r;exact⟨rfl,rfl,fun u hu=>nomatch hu⟩
 |d::ds,xs,us,hd,r,hl,dx=>by
  have e:∃y ys,xs=y::ys/\Dt H d y/\DtAll H ds ys:=by simpa only[DtAll]using hd
  obtain⟨y,ys,rfl,h1,h2⟩:=e;cases r with
  |cons r1 r2 =>
   have hl':d.canLay0=true/\PyData.canLayAll0 ds=true:=by simpa[PyData.canLayAll0]using hl
   obtain⟨as,q1⟩:=Dt.reads ok d y _ h1 r1;obtain⟨i1,i2,i3⟩:=iE ok h2 r2 hl'.2 dx;refine⟨by rw[YO,YO,ng q1 hl'.1,i1],by rw[List.countP_cons,List.countP_cons,ng q1 hl'.1,i2],fun u hu=>?_⟩;rcases Zj.mp hu with rfl|hu
   ·exact⟨d,as,by simp,q1,hl'.1⟩
   ·obtain⟨d',as',m,z⟩:=i3 u hu;exact⟨d',as',by simp[m],z⟩
end
section
variable{X:Cx}
def AT(K:PySem.W.Frag)(neg:Bool):R2:=fun x y H Q=>∃(p:Addr) (xs:List V) (dx:PyData) (ds:List PyData),y=.ref p/\SqL K H p xs/\Dt H dx x/\DtAll H ds xs/\SeqAt.shaped dx=true/\PyData.canLayAll0 ds=true/\Q (.bl (if neg then !(ds.any fun d=>PyData.eqv d dx)else ds.any fun d=>PyData.eqv d dx)) H
theorem xm{pins:List (Addr×Obj)}{σ:St}{H:Hp}{s:Shared}{A:Around}{dx:PyData}{x:V}{v:Value}{ds:List PyData}{xs:List V}{us:List Value}(I:Inv X pins σ H s)(hu:A.units+64<cLine)(h1:Dt H dx x)(rx:RelV x v)(h2:DtAll H ds xs)(r:Vals xs us)(s1:SeqAt.shaped dx=true)(s2:PyData.canLayAll0 ds=true):∀u∈us,SeqAt.EqAt A s u v (jg s.heap dx u):=fun u hu'=>by obtain⟨_,_,z⟩:=iE I.hok h2 r s2 dx;obtain⟨d,as,_,q1,q2⟩:=z u hu';obtain⟨bs,q3⟩:=Dt.reads I.hok dx x v h1 rx;rw[ng q1 q2];refine SeqAt.eqAt_reads d dx A s u v as bs q1 q3 q2 (SeqAt.canLay_of_shaped s1) ?_;have d1:=SeqAt.depth_of_shaped s1;have d2:min d.depth dx.depth<=dx.depth:=Nat.min_le_right _ _;omega
theorem yp(hu:X.A.in1.units+64<cLine):OpR X (compareOp .NotIn) (AT X.K true):=by intro pins s σ H x y v u Q I rx ry h;obtain⟨p,xs,dx,ds,rfl,hq,h1,h2,s1,s2,q⟩:=h;cases ry;obtain⟨its,r,pl,hz⟩:=I.list hq;refine SeqAt.notIn_listAt (jg s.heap dx) pl.isList (fun w hw=>xm I hu h1 rx h2 r s1 s2 w (by simpa using hw)) ⟨.bl _,H,I,rfl,?_⟩;rw[show its.toArray.any (jg s.heap dx)=its.any (jg s.heap dx) by simp,(iE I.hok h2 r s2 dx).1];exact q
theorem As{k:Nat}(hr:Room k X.A):QOp X (compareOp .NotIn) (AT X.K true):=⟨yp (by have:=hr.un;show X.A.units+_+64<_;omega)⟩
end
open PySem PySem.Spec PyProof.Rows PySem.W
section
variable{X:Cx}
structure QPs(X:Cx)(pos:Pos)(keys:List (Option Expr))(values:List Expr)(trs:List (TE×TE)):Prop where
 h:PPs X pos keys values trs
theorem At{K:PySem.W.Frag}(hK:X.K=K):QOp X (compareOp .NotIn) (rIn K true):=by subst hK;exact⟨rC⟩
end
open PySem PySem.Spec PyProof.Rows PySem.W
open PySem PySem.Spec PyProof.Rows PySem.W
structure MFn(P:Program)(w:World)(K:PySem.W.Frag)(mg:Str->Option Value)(base:Heap)(k:Nat)(C:Addr)(m:Str)(ps:List Str)(sp:Sp):Prop where
 cl:Cls K C
 ex:∃f fd,FnOk P w K mg base CX0 k f fd ps sp/\Meth K C m f/\Binds K fd ps []
structure MkFn(P:Program)(w:World)(K:PySem.W.Frag)(mg:Str->Option Value)(base:Heap)(k:Nat)(C:Addr)(x:Str)(ps:List Str)(sp:Sp):Prop where
 cl:Cls K C
 mgC:mg x=some (.ref C)
 ex:∃f fd,FnOk P w K mg base CX0 k f fd ps sp/\Mk K C f/\Binds K fd ps []
section
variable{X:Cx}{k:Nat}{C:Addr}{m x f:Str}{p pos pos' apos:Pos}{o e value:Expr}{es:List Expr}{ps:List Str}{sp:Sp}{t:TA}{ta tv:TE}
theorem bP(he:QE X e ta)(hb:attributeBase e f X.env (eval e X.env)=eval e X.env:=by rfl):QE X (.Attribute e f pos) (A9 X.K ta f):=⟨Eh he.h hb⟩
theorem qo(ha:QE X o ta)(hv:QE X value tv)(hs:swapsWith value (some (.Attribute o f pos')) pos.line X.env=pure false:=by rfl):QS X (.Assign [.Attribute o f pos'] value pos) (ES X.K ta tv f):=⟨Ex ha.h hv.h hs⟩
theorem iy{pl:Sem Bool}(F:MFn X.prog X.w X.K X.mg X.base k C m ps sp)(hr:Room k X.A)(he:QE X o ta)(ha:QA X (e::es) t)(hs:(e::es).all aR=true:=by rfl)(ht:eval (.Call (.Attribute o m apos) (e::es) [] pos) X.env=(do
   let ov ←eval o X.env
   standAt apos.atName
   let(f,first) ←holding [ov] (getMethod ov m pl)
   callWith pos f first (backTo pos (starEach (e::es) X.env)) (backToKw pos (keywordEach [] X.env))):=by rfl) :
  QE X (.Call (.Attribute o m apos) (e::es) [] pos) (mH C m sp [] E0 ta t):=by
 obtain⟨f,fd,G,hm,b⟩:=F.ex;rw[Yt,Zk]at hs;exact⟨uo (pl:=pl) he.h F.cl hm G hr b .nil ql ha.h (aY hs.1) (br hs.2) ht⟩
theorem cO{pl:Sem Bool}(F:MFn X.prog X.w X.K X.mg X.base k C m ps sp)(hr:Room k X.A)(he:QE X o ta)(ht:eval (.Call (.Attribute o m apos) [] [] pos) X.env=(do
   let ov ←eval o X.env
   standAt apos.atName
   let(f,first) ←holding [ov] (getMethod ov m pl)
   callWith pos f first (backTo pos (starEach [] X.env)) (backToKw pos (keywordEach [] X.env))):=by rfl) :
  QE X (.Call (.Attribute o m apos) [] [] pos) (mH C m sp [] E0 ta eL):=by
 obtain⟨f,fd,G,hm,b⟩:=F.ex;exact⟨AC (pl:=pl) he.h F.cl hm G hr b .nil ql ht⟩
theorem yy(F:MkFn X.prog X.w X.K X.mg X.base k C x ps sp)(hr:Room (k+1) X.A)(ha:QA X (e::es) t)(hg:Gl X x:=by rfl)(hs:(e::es).all aR=true:=by rfl)(hdb:(x==("__debug__":Str))=false:=by decide) :
  QE X (.Call (.Name x p) (e::es) [] pos) (BG C sp [] E0 t):=by
 obtain⟨f,fd,G,hm,b⟩:=F.ex;rw[Yt,Zk]at hs;exact⟨Cz hm G hr hg F.mgC b .nil ql ha.h hdb (aY hs.1) (br hs.2)⟩
end
def DRaw(h:Heap)(d:Addr)(es:Array DictEntry)(ep:Nat):Prop:=∃o,h.get? d=some o/\o.ExactDict/\o.data=.dict es ep
theorem DRaw.type{s:Shared}{d:Addr}{es:Array DictEntry}{ep:Nat}(x:DRaw s.heap d es ep):s.TypeIs (.ref d) "dict":=let⟨o,ho,hc,_⟩:=x;⟨o,ho,hc.1⟩
theorem DRaw.at'{h h':Heap}{d:Addr}{es:Array DictEntry}{ep:Nat}(x:DRaw h d es ep)(e:∀o,h.get? d=some o->h'.get? d=some o):DRaw h' d es ep:=let⟨o,ho,r⟩:=x;⟨o,e o ho,r⟩
theorem DRaw.lt{h:Heap}{d:Addr}{es:Array DictEntry}{ep:Nat}(x:DRaw h d es ep):d<h.objs.size:=let⟨_,ho,_⟩:=x;Zi ho
section
variable{prog:Program}{w:World}{A:Around}{E:Value->Shared->Prop}{s:Shared}{d it:Addr}{es:Array DictEntry}{ep i:Nat}
theorem AW{Q:Value->Shared->Prop}(hd:(d==sysModules)=false)(hm:DRaw s.heap d es ep)(hQ:Q (.ref s.heap.objs.size) { s with heap:=s.heap.push { cls:=.type "dict_keyiterator",data:=.fields #[.ref d,.int 0 0,.int es.size 0,.int ep 0] } }) :
  wpAny (model prog w) A (pyIter (.ref d)) Q E s:=by
 obtain⟨o,ho,hc,hdat⟩:=id hm;refine wpAny_pyIter_slot hm.type PySem.F.slot_dict_iter (ZM PySem.F.slot_dict_iter hm.type PySem.F.entry_dict_iter ?_ (PySem.F.args_dict_iter_1 _));unfold Builtin.«dict.__iter__»;refine z0 ?_;unfold Builtin.Dict.dictSlotNone;refine z0 (wpAny_notOrdered_dict hm.type ?_);show wpAny _ _ (pure (Value.ref d)) _ _ s;refine z9 ?_;show wpAny _ _ (Builtin.Dict.showsAll d >>= _) _ _ s;unfold Builtin.Dict.showsAll;rw[HU (by rw[hd];exact Zh)];refine z0 (z9 ?_);refine z0 (YD ho hdat ?_);refine z0 (wpAny_dictEpoch ho hdat ?_);refine z0 (ZB (z9 ⟨_,rfl,"dict_keyiterator",_,⟨_,Zg _ rfl,rfl⟩,Ya.lookup,?_⟩));simpa[rawInt]using hQ
theorem AV{Q:Option Value->Shared->Prop}(hit:s.heap.IsKeyIter it d i es.size ep)(hm:DRaw s.heap d es ep)(hx:i<es.size)(hQ:∀h',h'.IsKeyIter it d (i+1) es.size ep->Heap.SameBut it s.heap h'->Q (some es[i].key) { s with heap:=h' }):wpAny (model prog w) A (pyNext (.ref it)) Q E s:=by
 obtain⟨o,ho,hc,hd⟩:=id hit;obtain⟨od,hod,hcd,hdd⟩:=id hm;unfold pyNext;refine z0 (wpAny_attempt (ZI (name:=Str.ofString "__next__") hit.typeIs Ya
  (ZM Ya hit.typeIs PySem.F.entry_dict_keyiterator_next ?_ (PySem.F.args_dict_keyiterator_next_1 _))))
 refine z0 (z9 ?_);refine z0 ?_;refine z0 ?_
 first|refine z0 (YF hit.typeIs (z9 ?_))|refine z0 (wpAny_typeNameOf_keyiter hit.typeIs (z9 ?_))
 refine z0 (wpAny_fieldsOf ho hd ?_);have hown:Builtin.Dict_items.ownsTuple "dict_keyiterator" = false:=by decide
 simp only[hown,Yn,YB];show wpAny _ _ (if(Value.ref d==Value.none)=true then _ else _) _ _ s;rw[HU (show¬((Value.ref d==Value.none)=true)from Zh)];refine z0 (z9 ?_);refine z0 (YD hod hdd ?_);rw[HU (by simp)];refine z0 (z9 ?_);refine z0 (wpAny_dictEpoch hod hdd ?_);rw[HU (by simp)];refine z9 ?_;simp only[show¬((i:Int)<0)from by omega,YB,Zr,Array.getElem?_eq_getElem hx];refine z0 ?_
 first|refine z0 (YF hit.typeIs (z9 ?_))|refine z0 (wpAny_typeNameOf_keyiter hit.typeIs (z9 ?_))
 refine z0 (wpAny_isOneOf_keyiter hit.typeIs ?_);show wpAny _ _ (setField (.ref it) 1 (rawInt ((i:Int)+1)) >>= _) _ _ s;refine z0 (Yj ho hd (by simp) ?_);have hit':(s.heap.update it (Obj.mapFields (·.setIfInBounds 1 (rawInt ((i:Int)+1))))).IsKeyIter it d (i+1) es.size ep :=
  ⟨_,Z0 _ ho (Yy (Z3 hd _)),(Obj.cls_mapFields ..).trans hc,by rw[Z3 hd];simp[rawInt]⟩
 refine z0 (ZT ?_);refine z0 (wpAny_isOneOf_keyiter (s:={ s with heap:=s.heap.update it (Obj.mapFields (·.setIfInBounds 1 (rawInt ((i:Int)+1)))) }) hit'.typeIs ?_);show wpAny _ _ (pure es[i].key) _ _ _;exact z9 (z9 ⟨_,rfl,z9 (hQ _ hit' (ZG ..))⟩)
theorem CQ{Q:Option Value->Shared->Prop}(hh:A.handled=none)(hit:s.heap.IsKeyIter it d es.size es.size ep)(hm:DRaw s.heap d es ep)(hQ:∀h',Heap.ExtBut it s.heap h'->Q none { s with heap:=h' }) :
  wpAny (model prog w) A (pyNext (.ref it)) Q E s:=by
 obtain⟨o,ho,hc,hd⟩:=id hit;obtain⟨od,hod,hcd,hdd⟩:=id hm;unfold pyNext;refine z0 (wpAny_attempt (ZI (name:=Str.ofString "__next__") hit.typeIs Ya
  (ZM Ya hit.typeIs PySem.F.entry_dict_keyiterator_next ?_ (PySem.F.args_dict_keyiterator_next_1 _))))
 refine z0 (z9 ?_);refine z0 ?_;refine z0 ?_
 first|refine z0 (YF hit.typeIs (z9 ?_))|refine z0 (wpAny_typeNameOf_keyiter hit.typeIs (z9 ?_))
 refine z0 (wpAny_fieldsOf ho hd ?_);have hown:Builtin.Dict_items.ownsTuple "dict_keyiterator" = false:=by decide
 simp only[hown,Yn,YB];show wpAny _ _ (if(Value.ref d==Value.none)=true then _ else _) _ _ s;rw[HU (show¬((Value.ref d==Value.none)=true)from Zh)];refine z0 (z9 ?_);refine z0 (YD hod hdd ?_);rw[HU (by simp)];refine z0 (z9 ?_);refine z0 (wpAny_dictEpoch hod hdd ?_);rw[HU (by simp)];refine z9 ?_;simp only[show¬((es.size:Int)<0)from by omega,YB,Zr,Array.getElem?_eq_none (Zb _)];refine z0 ?_
 first|refine z0 (YF hit.typeIs (z9 ?_))|refine z0 (wpAny_typeNameOf_keyiter hit.typeIs (z9 ?_))
 show wpAny _ _ (setField (.ref it) 0 .none >>= _) _ _ s;refine z0 (Yj ho hd (by simp) ?_);show wpAny _ _ (newExc (.type "StopIteration") [] >>= _) _ _ _;refine z0 ?_;simp only[newExc,newTuple];refine z0 (ZB ?_ (by size_fits));refine z0 (m:=firstArgMember _ _) (wpAny_of_eq (a:=Value.none) (by first|rfl|(simp only[firstArgMember];rfl)) ?_);refine ZB ?_ (by size_fits);simp only[raiseNew];refine z0 (wpAny_handled ?_);rw[show A.in1.handled=none from hh];refine z0 (z9 (wpAny_throw ?_));refine z0 (wpAny_isInstance (T:="StopIteration") (b:=true) ⟨_,Zg _ rfl,rfl⟩ isSubtype_stop ?_);exact z9 (hQ _ (((ZG ..).extBut.push _).push _))
end
open PySem PySem.Spec PyProof.Rows PySem.W
open PySem PySem.Spec PyProof.Rows PySem.W
section
variable{prog:Program}{w:World}{A:Around}{E:Value->Shared->Prop}{h:Heap}{g:Array GenState}{d:Drawn}{t:Nat}{os:OsState}
variable{nm q:Str}{C N:Addr}{bs bm bmB:List Value}{hdct:Bool}{sn:List Str}{sub:List Value}{ab:Bool}{col:Option Bool}{dd:Option Addr}{k0 k1 k2 k3 k5:Option Value}{B newId initId:String}
theorem mK(F:ExcBaseFacts B newId initId bmB)(T:OwnTail h bmB bm){mN:Str->Option Value}{rest:List Value}{fI:Addr}{oI:Obj}{Q:PySem.Fin->Shared->Prop}(hC:h.get? C=some (excClassObj nm q C N bs bm hdct sn sub ab col dd k0 k1 k2 k3 k5 newId))(hn:h.Ns N mN)(hi:mN "__init__" = some (.ref fI))(hfI:h.get? fI=some oI)(hfc:oI.cls=.type "function")(hq:∀h' e,Heap.MadeExcOf h h' e (.ref C) rest->wpAny (model prog w) A (call (.ref fI) (.ref e::rest)) (fun r s'=>r=.none/\Q (.done (.ret (.ref e))) s') E ⟨h',g,d,t,os⟩)(hrest:rest.length<=sizeLine) :
  wpAny (model prog w) A (Builtin.«type.__call__» ⟨.ref C::rest,[]⟩) Q E ⟨h,g,d,t,os⟩:=by
 repeat(first|with_reducible refine YE hC ?_|with_reducible refine wpAny_madeBy_exc hC ?_|wp_step)
 refine codeAny_call_builtin_code (Code.quiet_builtin _ F.quiet) (wpAny_check_new_subT F T hC ?_);refine codeAny_exc_new_subT F T hC ?_ hrest;show wpAny _ _ _ _ _ _;have kp:∀b o,h.get? b=some o->((h.push { cls:=.type "tuple",data:=.seq rest.toArray }).push { cls:=.ref C,data:=.fields #[.ref h.objs.size,.none,.none,.none,.bool false,.none] }).get? b=some o :=
  fun b o e=>z6 _ (z6 _ e)
 have hn₁:((h.push { cls:=.type "tuple",data:=.seq rest.toArray }).push { cls:=.ref C,data:=.fields #[.ref h.objs.size,.none,.none,.none,.bool false,.none] }).Ns N mN:=hn.keeps kp;have hget:((h.push { cls:=.type "tuple",data:=.seq rest.toArray }).push { cls:=.ref C,data:=.fields #[.ref h.objs.size,.none,.none,.none,.bool false,.none] }).get? (h.objs.size+1) =
   some { cls:=.ref C,data:=.fields #[.ref h.objs.size,.none,.none,.none,.bool false,.none] }:=by heap_get
 have hcC:(Value.ref C::bm).contains (.ref C)=true:=by simp
 unfold isInstance
 repeat(first|with_reducible refine YE hget ?_|(with_reducible refine wpAny_isSubtype_exc (kp _ _ hC) ?_;rw[hcC])|wp_step)
 show wpAny _ _ (typeLookup (.ref C) _) _ _ _;refine wpAny_typeLookup_tail (kp _ _ hC) hn₁ (T.keeps kp) F.mroIs F.init.lookup ?_;rw[hi];refine ZT (z0 ?_);unfold bindSpecial;refine z0 (wpAny_typeOf (T:="function") ⟨_,kp _ _ hfI,hfc⟩ ?_);rw[HV (by decide)];refine z9 (z0 (ZK (hq _ (h.objs.size+1) ⟨kp,Yz (Nat.le_succ _),h.objs.size,hget,Yz (Zb _),?_⟩) (fun r s' hr=>?_) fun _ _ x=>x))
 ·exact z6 _ (Heap.get?_push_at rfl rfl)
 ·obtain⟨rfl,hQ⟩:=hr
  wp_walk
  exact hQ
theorem uZ(F:ExcBaseFacts B newId initId bmB)(T:OwnTail h bmB bm){mN:Str->Option Value}{rest:List Value}{fI:Addr}{oI:Obj}{Q:Value->Shared->Prop}(hC:h.get? C=some (excClassObj nm q C N bs bm hdct sn sub ab col dd k0 k1 k2 k3 k5 newId))(hn:h.Ns N mN)(hi:mN "__init__" = some (.ref fI))(hfI:h.get? fI=some oI)(hfc:oI.cls=.type "function")(hq:∀h' e,Heap.MadeExcOf h h' e (.ref C) rest->wpAny (model prog w) (A.under (.builtin "type.__call__" ⟨.ref C::rest,[]⟩)) (call (.ref fI) (.ref e::rest)) (fun r s'=>r=.none/\Q (.ref e) s') E ⟨h',g,d,t,os⟩)(hrest:rest.length<=sizeLine) :
  wpAny (model prog w) A (call (.ref C) rest) Q E ⟨h,g,d,t,os⟩:=by
 have f1:=tc_lookup;have f2:=tc_bind (.ref C);have hT:(⟨h,g,d,t,os⟩:Shared).TypeIs (.ref C) "type":=⟨_,hC,rfl⟩
 refine wpAny_call (codeAny_of_tree ?_);show wpAny _ _ (callAny (.ref C) _) _ _ _
 repeat(any_goals(first|assumption|with_reducible refine YE hC ?_|wp_step))
 refine⟨rfl,?_⟩;exact codeAny_call_builtin_at (Code.quiet_builtin _ (by decide +kernel)) entry_typeCall (wpAny_check_type_call_sub hC (mK F T hC hn hi hfI hfc (fun h' e hm=>hq h' e hm) hrest))
end
section
variable{M:Model}{A:Around}{E:Value->Shared->Prop}{env:Env}{K:PySem.W.Frag}
theorem yA{C:Addr}{bm:List Value}{s:Shared}{x:Sem Value}{Q:Flow->Shared->Prop}(hC:ExC K C bm)(hh:A.handled=none)(h:wpAny M A x (fun v s₁=>∃e oe,v=.ref e/\K.In s₁.heap/\s₁.heap.get? e=some oe/\oe.cls=.ref C/\(∃t,oe.data=.fields #[.ref t,.none,.none,.none,.bool false,.none])/\E (.ref e) s₁) E s):wpAny M A (raiseStmt env (some x) none) Q E s:=by
 have hcB:(Value.ref C::bm).contains (.type "BaseException")=true:=by rw[List.contains_cons,hC.exc,Bool.or_true]
 unfold raiseStmt;refine z0 (ZK h (fun v s₁ h₁=>?_) fun _ _ x=>x);obtain⟨e,oe,rfl,hk,he,hcl,⟨vs,hd⟩,hE⟩:=h₁;obtain⟨nm,q,N,bs,hdct,sn,sub,ab,col,dd,k0,k1,k2,k3,k5,ni,oC⟩:=hC.cls _ hk;obtain⟨hp,g,d,tk,os⟩:=s₁;obtain⟨oc,od,odt,osl⟩:=oe;cases hcl;cases hd
 repeat(first|with_reducible refine YE he ?_|with_reducible refine YE oC ?_|(with_reducible refine wpAny_isSubtype_exc oC ?_;rw[hcB])|wp_step)
 exact wpAny_raiseNew_none hh hE
end
open PySem PySem.Spec PyProof.Rows PySem.W PySem.Builtin PySem.Builtin.ObjectAttr
theorem yE(self:Value):refuseLoop self "__setattr__" VE=pure ():=by kernel_rfl
def ml:List Value->Bool
 |.ref _::r=>ml r
 |l=>l==VE
theorem kr(self:Value):∀{l:List Value},ml l=true->refuseLoop self "__setattr__" l=pure ()
 |.ref c::r,e=>by rw[refuseLoop_ref];exact kr self e
 | [],e=>nomatch e
 |.type n::r,e=>by rw[show(Value.type n::r)=VE from ZU.mp e];exact yE self
 |.none::r,e=>by have:=(ZU (α:=List Value)).mp e;cases this
 |.bool b::r,e=>by have:=(ZU (α:=List Value)).mp e;cases this
 |.int b t::r,e=>by have:=(ZU (α:=List Value)).mp e;cases this
 |.str b t::r,e=>by have:=(ZU (α:=List Value)).mp e;cases this
 |.bytes b t::r,e=>by have:=(ZU (α:=List Value)).mp e;cases this
 |.float b t::r,e=>by have:=(ZU (α:=List Value)).mp e;cases this
 |.builtin b::r,e=>by have:=(ZU (α:=List Value)).mp e;cases this
 |.ellipsis::r,e=>by have:=(ZU (α:=List Value)).mp e;cases this
 |.notImplemented::r,e=>by have:=(ZU (α:=List Value)).mp e;cases this
structure ExS(K:PySem.W.Frag)(c:Addr):Prop where
 sa:findIn K (.ref c) "__setattr__" = some (some (.builtin "object.__setattr__"))
 ov:((clsIn K c).any fun cd=>ml cd.mro&&cd.hasDict)=true
 ob:mroIn K c (.type "object")=some true
section
variable{prog:Program}{w:World}{K:PySem.W.Frag}{A:Around}{R:Result->Shared->Prop}{s:Shared}{x C:Addr}
theorem Cp{ox:Obj}{od:Option Obj}{name:Str}{tk:Tok}{v:Value}(X:K.In s.heap)(I:InstAt s.heap x ox C od)(S:ExS K C)(hn:findIn K (.ref C) name=some none)(h:wpAny (model prog w) A.in1 (storeInOwnDict (.ref x) (.ref C) (.str name tk) name v false)
   (fun fin s'=>match fin with|.done f=>R (.ok f) s'|.again c'=>c'.quiet=true/\codeAny (model prog w) A c' R s') (fun e s'=>R (.error e) s') s) :
  codeAny (model prog w) A (.call (.builtin "object.__setattr__") ⟨[.ref x,.str name tk,v],[]⟩) R s:=by
 have SF:=PySem.F.store_object;obtain⟨cd,hc,ho⟩:=any_some S.ov;rw[Zk]at ho;have sub:Looks (model prog w) s.heap (isInstance (.ref x) (.type "object")) true:=I.type.andThen (looks_mroIn X S.ob);refine codeAny_call_builtin SF.slot.plain SF.entry (@check_slot (model prog w) _ _ s "object.__setattr__" "object" "__setattr__" (.ref x) [.str name tk,v] [] _ SF.kind SF.split sub (SF.args (.ref x) (.str name tk) v) ?_);have hm:Looks (model prog w) s.heap (mroOf (.ref C)) cd.mro:=(looks_clsIn X hc).andThen .now;rw[osa_eq,refuse_eq];refine z0 (z0 (I.type.here (z0 (hm.here ?_))));rw[kr _ ho.1];refine z9 (z0 (I.type.here (z0 ((looks_findIn X hn).here (z0 (Looks.now.here ?_))))));exact h
end
def exN(ea c t:Addr)(dc:Option Addr):HO:=.ext fun h=>h.get? ea=some { cls:=.ref c,dict:=dc,data:=.fields #[.ref t,.none,.none,.none,.bool false,.none] }
theorem xu{P:Program}{w:World}{H:Hp}{h:Heap}{ea c t:Addr}{dc:Option Addr}(e:h.get? ea=some { cls:=.ref c,dict:=dc,data:=.fields #[.ref t,.none,.none,.none,.bool false,.none] }):ObjOk P w H h ea (exN ea c t dc) :=
 ⟨e,⟨_,e⟩,fun _ _ p k=>k _ p⟩
section
variable{X:Cx}{pins:List (Addr×Obj)}{σ:St}{H:Hp}{s:Shared}{a c t:Addr}{f:Str}{y:V}{u:Value}{A:Around}{E:Value->Shared->Prop}
theorem CV{Q:Unit->Shared->Prop}(I:Inv X pins σ H s)(e:H a=some (exN a c t none))(S:ExS X.K c)(n:NoAttr X.K c f)(ry:RelV y u)(h:∀d s',H d=none->Inv X pins σ (upd (upd H d (.xd [(f,y)])) a (exN a c t (some d))) s'->Q () s'):wpAny (model X.prog X.w) A (setAttr (.ref a) f u) Q E s:=by
 have hx:s.heap.get? a=some { cls:=.ref c,dict:=none,data:=.fields #[.ref t,.none,.none,.none,.bool false,.none] }:=(show ObjOk X.prog X.w H s.heap a (exN a c t none)from I.hok a _ e).1;have J:InstAt s.heap a { cls:=.ref c,dict:=none,data:=.fields #[.ref t,.none,.none,.none,.bool false,.none] } c none:=⟨hx,rfl,rfl,True.intro⟩
 obtain⟨cd,hc,ho⟩:=any_some S.ov;rw[Zk]at ho;refine PySem.W.set_plain I.kIn J S.sa (Cp (s:={ s with toks:=s.toks+1 }) I.kIn J S n ?_);refine z0 (z9 (z0 (z0 (wpAny_loadPart hx (z0 (PySem.W.Looks.here (s:={ s with toks:=s.toks+1 }) (PySem.W.looks_clsIn I.kIn hc) ?_))))));rw[ho.2];have hxs:a≠s.heap.objs.size:=Zn (Zi hx);have hx1:(s.heap.push { cls:=.type "dict",data:=.dict #[] }).get? a=some { cls:=.ref c,dict:=none,data:=.fields #[.ref t,.none,.none,.none,.bool false,.none] }:=z6 _ hx;show wpAny _ _ (alloc { cls:=.type "dict",data:=.dict #[] } >>= fun d=>update a (fun o=>{ cls:=o.cls,dict:=some d,data:=o.data,slots:=o.slots }) >>= fun _=>dictMade (.ref c) a d) _ _ _;refine z0 (wpAny_alloc' ?_);refine z0 (wpAny_update' hx1 ?_);refine z9 ?_;have hgd:((s.heap.push { cls:=.type "dict",data:=.dict #[] }).update a fun o=>{ cls:=o.cls,dict:=some s.heap.objs.size,data:=o.data,slots:=o.slots }).get? s.heap.objs.size=some { cls:=.type "dict",data:=.dict #[] } :=
  (Heap.get?_update_ne _ _ _ _ hxs.symm).trans (Heap.get?_push_at rfl rfl)
 have hnd:((s.heap.push { cls:=.type "dict",data:=.dict #[] }).update a fun o=>{ cls:=o.cls,dict:=some s.heap.objs.size,data:=o.data,slots:=o.slots }).Ns s.heap.objs.size (fun _=>none) :=
  ⟨_,#[],_,hgd,rfl,fun e he=>absurd he (by simp),fun _=>rfl⟩
 refine z0 (z9 (z0 (wpAny_nsSet1 (Heap.Ns1.of_empty hnd) fun h' hn' hs=>?_)));obtain⟨oD,esD,epD,hoD,hdD,hcD⟩:=hn'.count (Within.cons f u Within.nil);refine z0 (wpAny_lookBehind hoD (by rw[hdD];exact pastItsLine_dict (Zy hcD (by rw[Zl,List.length_nil,sizeLine_eq];omega))) ?_);have hx':h'.get? a=some { cls:=.ref c,dict:=some s.heap.objs.size,data:=.fields #[.ref t,.none,.none,.none,.bool false,.none] }:=(hs.2 a hxs).trans (Z0 _ hx1 rfl);have kp:∀b o,b≠a->s.heap.get? b=some o->h'.get? b=some o:=fun b o hb q=>(hs.2 b (Zn (Zi q))).trans ((Heap.get?_update_ne _ _ _ _ hb).trans (z6 _ q));have hd0:H s.heap.objs.size=none:=I.hok.fresh (Zb _);have nd:∀b o,s.heap.get? b=some o->b≠s.heap.objs.size:=fun b o q=>Zn (Zi q);have ne1:∀b v,H b=some v->v≠exN a c t none->b≠a:=fun b v q hv z=>by rw[z,e]at q;exact hv (Zu q).symm
 have ne2:∀b v,H b=some v->b≠s.heap.objs.size:=fun b v q=>am q hd0;have un:Un X.fs [] H (upd (upd H s.heap.objs.size (.xd [(f,y)])) a (exN a c t (some s.heap.objs.size))) s.heap h':=by
  refine⟨fun b o q m _ _=>kp b o (fun z=>by rw[z,e]at m;cases m) q,fun b o q m _ _=>⟨o.slots,kp b o (fun z=>by rw[z,e]at m;cases m) q⟩,fun b o q m _=>?_,fun b o q _=>?_,fun b xs q=>?_,fun b o v q=>?_,fun b ps q=>⟨#[],?_⟩⟩
  ·rw[af (fun z=>by rw[z,e]at m;cases m),af (nd b o q)];exact m
  ·by_cases hb:b=a
   ·exact⟨_,hb▸hx'⟩
   ·exact⟨o,kp b o hb q⟩
  ·rw[af (ne1 _ _ q (by intro z;cases z)),af (ne2 _ _ q)];exact q
  ·rw[af (ne1 _ _ q (by intro z;cases z)),af (ne2 _ _ q)];exact q
  ·rw[af (ne1 _ _ q (by intro z;cases z)),af (ne2 _ _ q),q];simp
 have hok:HOk X.prog X.w (upd (upd H s.heap.objs.size (.xd [(f,y)])) a (exN a c t (some s.heap.objs.size))) h':=fun b v q=>by
  by_cases hb:b=a
  ·subst hb;rw[ad]at q;cases q;exact xu hx'
  ·rw[af hb]at q;by_cases hbd:b=s.heap.objs.size
   ·subst hbd;rw[ad]at q;cases q;refine⟨_,hn',fun g=>?_⟩;by_cases hg:g=f
    ·subst hg;rw[HV rfl];show RelO ([(g,y)].lookup g) (some u);rw[ZP,show(g==g)=true by simp];exact ry
    ·rw[HU hg];show RelO ([(f,y)].lookup g) none;rw[ZP,show(g==f)=false by simpa using hg];exact True.intro
   ·rw[af hbd]at q;refine(I.hok b v q).stay (fun b' v' hb' q'=>kp b' v' ?_ q') (fun b' q'=>?_) fun b' xs q'=>?_
    ·rcases hb' with rfl|z
     ·exact hb
     ·exact ne1 _ _ z (by intro z;cases z)
    ·rw[af (ne1 _ _ q' (by intro z;cases z)),af (ne2 _ _ q')];exact q'
    ·rw[af (ne1 _ _ q' (by intro z;cases z)),af (ne2 _ _ q')];exact q'
 exact z9 (h _ _ hd0 (I.un un hok))
end
def F8(K:PySem.W.Frag)(ta tv:TE)(f:Str):TS:=fun D σ H=>tv σ H fun y H1=>ta σ H1 fun x H2=>∃a c t,x=.ref a/\H2 a=some (exN a c t none)/\ExS K c/\NoAttr K c f/\∀d,H2 d=none ->
 D.nx σ (upd (upd H2 d (.xd [(f,y)])) a (exN a c t (some d)))
theorem EU{X:Cx}{o value:Expr}{f:Str}{pos pos':Pos}{ta tv:TE}(ha:QE X o ta)(hv:QE X value tv)(hs:swapsWith value (some (.Attribute o f pos')) pos.line X.env=pure false:=by rfl):QS X (.Assign [.Attribute o f pos'] value pos) (F8 X.K ta tv f):=by refine⟨?_⟩;intro pins s σ H D I h;refine plainObj_wpAny_Assign_Attribute (thn (hv.h pins s σ H _ I h) fun u s1 ⟨y,H1,I1,ry,q⟩=>thn (ha.h pins s1 σ H1 _ I1 q) fun ov s2 hz9=>?_) hs;obtain⟨x,H2,I2,rx,a,c,t,ex,ea,S,n,q2⟩:=hz9;subst ex;obtain rfl:ov=Value.ref a:=rx;exact CV I2 ea S n ry fun d s3 hd I3=>⟨σ,_,I3,q2 d hd⟩
open PySem PySem.Spec PyProof.Rows PySem.W
def del(H:Hp)(a:Addr):Hp:=fun b=>if b=a then none else H b
theorem zU{H:Hp}{a:Addr}:del H a a=none:=by unfold del;rw[HV rfl]
theorem eg{H:Hp}{a b:Addr}(h:b≠a):del H a b=H b:=by unfold del;rw[HU h]
theorem yh{H:Hp}{a b:Addr}{u:HO}(h:del H a b=some u):b≠a/\H b=some u:=by
 by_cases c:b=a
 ·rw[c,zU]at h;cases h
 ·rw[eg c]at h;exact⟨c,h⟩
open PySem PySem.Spec PyProof.Rows PySem.W
def qT(K:PySem.W.Frag)(C fI:Addr):Bool:=match K.lookup C with
 | some ⟨.type "type",_,.cls cd,sl⟩=>(match cd.mro,sl.toList with
  |.ref C'::bm,[_,_,_,_,some (.builtin n),_]=>C'==C&&n=="ValueError.__new__"&&!cd.hasDel&&tailIn K VE bm&&nsOkIn K cd.ns&&nsIn K cd.ns "__init__" == some (some (.ref fI))
  | _,_=>false)
 |_=>false
theorem vE{K:PySem.W.Frag}{h:Heap}{N:Addr}{m:Str->Option Value}{n:Str}{v:Value}(X:K.In h)(G:h.Ns N m)(e:nsIn K N n=some (some v)):m n=some v:=by
 obtain⟨o,es,ep,ho,hd,_,hf⟩:=G;unfold nsIn at e;split at e
 ·rename_i c d es' n' sl q;have:=X _ _ q;rw[ho]at this;cases this;cases hd;split at e
  ·rename_i en he;cases e;rw[<-hf];unfold nsFind findBy;rw[<-Array.find?_toList,he];rfl
  ·split at e<;>cases e
 ·cases e
structure ExcAtI(K:PySem.W.Frag)(C fI:Addr)(bm:List Value):Prop where
 isIn:qT K C fI=true
 mro:∃c d cd sl,K.lookup C=some ⟨c,d,.cls cd,sl⟩/\cd.mro=Value.ref C::bm
 exc:bm.contains (.type "BaseException")=true
 fn:∃oI,K.lookup fI=some oI/\oI.cls=.type "function"
theorem lK{K:PySem.W.Frag}{C fI:Addr}{bm:List Value}(q:ExcAtI K C fI bm){h:Heap}(X:K.In h) :
  ∃nm qn N bs hdct sn sub ab col dd k0 k1 k2 k3 k5 mN,h.get? C=some (excClassObj nm qn C N bs bm hdct sn sub ab col dd k0 k1 k2 k3 k5 "ValueError.__new__")/\h.Ns N mN/\mN "__init__" = some (.ref fI)/\OwnTail h VE bm:=by
 have q1:=q.isIn;obtain⟨c9,d9,cd9,sl9,l9,m9⟩:=q.mro;unfold qT at q1;split at q1
 ·rename_i dd cd sl ho;split at q1
  ·rename_i C' bm' k0 k1 k2 k3 n k5 hm hs;have q2:cd.mro=Value.ref C::bm:=by have z:=ho.symm.trans l9;cases z;exact m9
   rw[hm]at q2;injection q2 with z1 z2;injection z1 with z1;cases z1;cases z2;simp only[Zk,ZU,Bool.not_eq_true']at q1;obtain⟨⟨⟨⟨⟨_,rfl⟩,nd⟩,ht⟩,ok⟩,ni⟩:=q1;have es:sl=#[k0,k1,k2,k3,some (.builtin "ValueError.__new__"),k5]:=by obtain⟨l⟩:=sl;simp only at hs;rw[hs]
   cases es;obtain⟨nm,bs,mro,ns,qn,hd,sn,sub,ab,col,del⟩:=cd;dsimp only at hm nd ok ni;cases hm;cases nd;have G:h.Ns ns _:=.of_isNs (isNs_of_in X ok);exact⟨nm,qn,ns,bs,hd,sn,sub,ab,col,dd,k0,k1,k2,k3,k5,_,X _ _ ho,G,vE X G ni,tail_of_in X ht⟩
  ·cases q1
 ·cases q1
theorem tY{K:PySem.W.Frag}{C fI:Addr}{bm:List Value}(q:ExcAtI K C fI bm):ExC K C bm where
 cls:=fun h X=>by obtain⟨nm,qn,N,bs,hdct,sn,sub,ab,col,dd,k0,k1,k2,k3,k5,mN,e,_⟩:=lK q X;exact⟨nm,qn,N,bs,hdct,sn,sub,ab,col,dd,k0,k1,k2,k3,k5,_,e⟩
 exc:=q.exc
structure ExI(P:Program)(w:World)(K:PySem.W.Frag)(mg:Str->Option Value)(base:Heap)(k:Nat)(C:Addr)(bm:List Value)(ps:List Str)(sp:Sp):Prop where
 ex:∃fI fd,ExcAtI K C fI bm/\FnOk P w K mg base CX0 k fI fd ps sp/\Binds K fd ps []
section
variable{X:Cx}{pins:List (Addr×Obj)}{σ:St}{H:Hp}{s:Shared}
theorem Inv.excMade{h':Heap}{e c t:Addr}(I:Inv X pins σ H s)(kp:∀b o,s.heap.get? b=some o->h'.get? b=some o)(hn:s.heap.get? e=none)(he:h'.get? e=some { cls:=.ref c,data:=.fields #[.ref t,.none,.none,.none,.bool false,.none] }) :
  H e=none/\Inv X pins σ (upd H e (exN e c t none)) { s with heap:=h' }:=by
 have h0:H e=none:=by
  cases q:H e with
  |none=>rfl
  |some u =>obtain⟨o,z⟩:=eO (I.hok e u q);rw[hn]at z;cases z
 have nb:∀b o,s.heap.get? b=some o->b≠e:=fun b o q z=>by rw[z,hn]at q;cases q
 refine⟨h0,I.un (t':=s.toks) ⟨fun b o q _ _ _=>kp b o q,fun b o q _ _ _=>⟨o.slots,kp b o q⟩,fun b o q m _=>by rw[af (nb b o q)];exact m,fun b o q _=>⟨o,kp b o q⟩,fun b xs q=>by rw[af (am q h0)];exact q,fun b o v q=>by rw[af (am q h0)];exact q,fun b ps q=>⟨#[],by rw[af (am q h0),q];simp⟩⟩ fun b u q=>?_⟩;by_cases hb:b=e
 ·subst hb;rw[ad]at q;cases q;exact xu he
 ·rw[af hb]at q;exact(I.hok b u q).stay (fun b' v _ q'=>kp b' v q') (fun b' z=>by rw[af (am z h0)];exact z) fun b' xs z=>by rw[af (am z h0)];exact z
end
section
variable{X:Cx}{EC:Value->Option Addr->Hp->Prop}{C:Addr}{bm:List Value}{k:Nat}{ps:List Str}{sp:Sp}{x:Str}{np cpos pos:Pos}{e:Expr}{es:List Expr}{ta:TA}
def C2(sp:Sp)(C:Addr)(EC:Value->Option Addr->Hp->Prop)(ta:TA):TS:=fun _ σ H=>ta σ H fun vs H1=>vs.length<=sizeLine/\∀ea t,H1 ea=none->H1 t=none->t≠ea ->
 sp (.ref ea::vs) (upd H1 ea (exN ea C t none)) (fun v H2=>v=.non/\∃dc,H2 ea=some (exN ea C t dc)/\EC (.ref C) dc (del H2 ea)) E0
end
open PySem PySem.Spec PyProof.Rows PySem.W
structure MFnX(P:Program)(w:World)(K:PySem.W.Frag)(mg:Str->Option Value)(base:Heap)(k:Nat)(C:Addr)(m:Str)(ps:List Str)(sp:Sp):Prop where
 cl:Cls K C
 ex:∃f fd,FnOk P w K mg base (CXr P w) k f fd ps sp/\Meth K C m f/\Binds K fd ps []
section
variable{X:Cx}{k:Nat}{C:Addr}{m x:Str}{p pos apos:Pos}{o e:Expr}{es:List Expr}{ps:List Str}{sp:Sp}{t:TA}{ta:TE}{E:XK}
theorem jZ{pl:Sem Bool}(F:MFnX X.prog X.w X.K X.mg X.base k C m ps sp)(hx:ee (CXr X.prog X.w) X E)(hr:Room k X.A)(he:QE X o ta)(ha:QA X (e::es) t)(hs:(e::es).all aR=true:=by rfl)(ht:eval (.Call (.Attribute o m apos) (e::es) [] pos) X.env=(do
   let ov ←eval o X.env
   standAt apos.atName
   let(f,first) ←holding [ov] (getMethod ov m pl)
   callWith pos f first (backTo pos (starEach (e::es) X.env)) (backToKw pos (keywordEach [] X.env))):=by rfl) :
  QE X (.Call (.Attribute o m apos) (e::es) [] pos) (mH C m sp [] E ta t):=by
 obtain⟨f,fd,G,hm,b⟩:=F.ex;rw[Yt,Zk]at hs;exact⟨uo (pl:=pl) he.h F.cl hm G hr b .nil hx ha.h (aY hs.1) (br hs.2) ht⟩
def yZ(C:Addr)(m:Str)(sp:Sp)(ta:TE)(t:TA):TX:=fun σ H Q E=>ta σ H fun x H1=>IsM C m x H1 (t σ H1 fun vs H2=>sp (x::vs) H2 Q E)
theorem zq{pl:Sem Bool}(F:MFnX X.prog X.w X.K X.mg X.base k C m ps sp)(hr:Room k X.A)(he:QE X.nox o ta)(ha:QA X.nox (e::es) t)(hs:(e::es).all aR=true:=by rfl)(ht:eval (.Call (.Attribute o m apos) (e::es) [] pos) X.env=(do
   let ov ←eval o X.env
   standAt apos.atName
   let(f,first) ←holding [ov] (getMethod ov m pl)
   callWith pos f first (backTo pos (starEach (e::es) X.env)) (backToKw pos (keywordEach [] X.env))):=by rfl) :
  QX X (.Call (.Attribute o m apos) (e::es) [] pos) (yZ C m sp ta t):=by
 refine⟨?_⟩;intro pins s σ H Q E I h;obtain⟨f,fd,G,hm,b⟩:=F.ex;rw[Yt,Zk]at hs;refine PySem.W.methodCall_KW (pl:=pl) (ZK (he.h pins s σ H _ (I.wish _) h) (fun u s1 hz9=>?_) fun _ _ z=>False.elim z) ht;obtain⟨y,H1,I1,rx,a,dx,fs,ex,ea,l,q⟩:=hz9;subst ex;obtain rfl:u=Value.ref a:=rx;have I1':=I1.unwish;refine fF I1' ea F.cl hm l ?_;refine PySem.W.callWith_K (first:=[.ref a]) (h₀:=X.base) I.ok.mod.kin hm.kp (ZK (ha.h pos pins s1 σ H1 _ I1 q) (fun us s2 ⟨vs,H2,I2,r,q2⟩=>⟨I2.kIn,?_⟩) fun _ _ z=>False.elim z) (aY hs.1) (br hs.2);have I3:=I2.unwish;have hb:=b s2 (.ref a::us) I3.kIn (by rw[ZO,<-G.len _ _ _ _ q2,Zl,Zl,r.length]);rw[ZO]at hb;refine wpAny_call (YL (G.run X.A X.stack s2 H2 ⟨.ref a::us,[]⟩ (.ref a::us) (.ref a::vs) Q E hr I3.env0 hb (.cons rfl r) q2) fun r s' hq=>?_);cases r with
 |error e=>exact⟨s2,H2,I3,hq⟩
 |ok fl =>
  cases fl with
  |ret u=>exact I3.after hq
  |next=>exact False.elim hq
  |brk=>exact False.elim hq
  |cont=>exact False.elim hq
end
def exD(ea c:Addr)(dc:Option Addr):HO:=.ext fun h=>∃oe,h.get? ea=some oe/\oe.cls=.ref c/\oe.dict=dc/\notCls oe=true
theorem Fl.trackD{X:Cx}{pins:List (Addr×Obj)}{σ:St}{H0 H':Hp}{s0 s':Shared}{B:Heap}{ea t c:Addr}{dc:Option Addr}(F:Fl X H0 H' s0 s' B)(I0:Inv X pins σ H0 s0)(fly:Heap.FlyingW B X.stack ea (.ref c) (.ref t) s'.heap)(hd:∃oe,s'.heap.get? ea=some oe/\oe.cls=.ref c/\oe.dict=dc/\notCls oe=true) :
  H' ea=none/\Inv X pins σ (upd H' ea (exD ea c dc)) s':=by
 have I:=F.inv I0;obtain⟨oe,vs,he,hc,hf,_⟩:=fly.first;have nfr:ea∉frs X.stack:=fun hm=>by obtain⟨_,o',ho',hd'⟩:=I.stack.mem hm;have e:s'.heap.get? ea=some o':=ho';rw[he]at e;cases e;exact hd' vs hf
 have hB:B.get? ea=none:=fly.2.1;have hn:H' ea=none:=by
  cases q:H' ea with
  |none=>rfl
  |some u =>have:=F.kb ea oe nfr (.inl ⟨u,q⟩) he;rw[hB]at this;cases this
 have h0:s0.heap.get? ea=none:=by
  cases q:s0.heap.get? ea with
  |none=>rfl
  |some o0 =>have:=F.kb ea oe nfr (.inr ⟨o0,q⟩) he;rw[hB]at this;cases this
 have ne0:∀b o,s0.heap.get? b=some o->b≠ea:=fun b o q z=>by rw[z,h0]at q;cases q
 have neH:∀b u,H' b=some u->b≠ea:=fun b u q z=>by rw[z,hn]at q;cases q
 refine⟨hn,⟨I.ok,I.os,I.bare,⟨I.base.keep,I.base.slot,fun b o q n hx=>?_,I.base.there,fun b xs q=>?_,fun b o u q=>?_,fun b ps q=>?_⟩,I.loc,I.cell,?_,fun x c' q=>?_,fun p hp=>?_,fun b u q=>?_,I.len⟩⟩
 ·obtain⟨o',q'⟩:=I0.base.there b o q hx;rw[af (ne0 b o' q')];exact I.base.free b o q n hx
 ·have:=I.base.tups b xs q;rw[af (neH _ _ this)];exact this
 ·have:=I.base.frzs b o u q;rw[af (neH _ _ this)];exact this
 ·obtain⟨more,this⟩:=I.base.tbls b ps q;exact⟨more,by rw[af (neH _ _ this)];exact this⟩
 ·obtain⟨m,⟨o,_,_,ho,_⟩,_⟩:=I0.loc;rw[af (ne0 _ o ho)];exact I.free
 ·obtain⟨v,o,ho,_⟩:=I0.cell x c' q;rw[af (ne0 _ o ho)];exact I.freeC x c' q
 ·obtain⟨e,n,ne,nf,d⟩:=I.pin p hp;refine⟨e,?_,ne,nf,d⟩;rw[af (ne0 _ _ (I0.pin p hp).1)];exact n
 ·by_cases hb:b=ea
  ·subst hb;rw[ad]at q;cases q;obtain⟨o1,a1,a2,a3,a4⟩:=hd;exact⟨⟨o1,a1,a2,a3,a4⟩,⟨o1,a1⟩,fun h1 h2 ⟨o2,b1,b2,b3,b4⟩ k=>⟨o2,k o2 b1,b2,b3,b4⟩⟩
  ·rw[af hb]at q;refine(I.hok b u q).stay (fun _ _ _ z=>z) (fun d z=>?_) fun d xs z=>?_
   ·rw[af (neH _ _ z)];exact z
   ·rw[af (neH _ _ z)];exact z
def Gx(K:PySem.W.Frag)(i:Nat)(Ch:Addr)(ts:TS):TH:=fun D σ C dc H'=>∃c bm,C=.ref c/\ExC K c bm/\(Value.ref c::bm).contains (.ref Ch)=true/\∀ea,H' ea=none ->
 ts { nx:=fun σ2 H2=>D.nx (σ2.set i none) H2,rt:=D.rt,bk:=fun σ2 H2=>D.bk (σ2.set i none) H2,ct:=fun σ2 H2=>D.ct (σ2.set i none) H2 } (σ.set i (some (.ref ea))) (upd H' ea (exD ea c dc))
section
variable{X:Cx}
theorem Fs{i:Nat}{x n:Str}{Ch:Addr}{bmh:List Value}{b0:Stmt}{suite:List Stmt}{ts:TS}{np pos:Pos}{rest:List ExceptHandler}(hN:X.N.Nodup)(cl:ExC X.K Ch bmh)(hm:X.mg x=some (.ref Ch))(hs:∀e,QB (X.exc e) (b0::suite) ts)(hi:X.N[i]?=some n:=by rfl)(hl:X.env.kindOf n=some .local:=by rfl)(hg:Gl X x:=by rfl)(hdb:(x==("__debug__":Str))=false:=by decide) :
  QH X (.ExceptHandler (some (.Name x np)) (some n) (b0::suite) pos::rest) (Gx X.K i Ch ts):=by
 refine⟨?_⟩;rintro pins s0 H0 σ D ea t C B H' dc s' I0 F fly hd ⟨c,bm,rfl,ec,hc,q⟩;have I:=F.inv I0;refine wpAny_handleBy_cons (codeAny_handlers_test ?_) (by intro z;cases z);refine fT (X:=X.exc (.ref ea)) (I.exc _) hg hm ?_ hdb;obtain⟨oe,he,hcl⟩:=fly.there;refine sR ec cl I.kIn he hcl ?_;rw[hc];refine codeAny_handlers_suite_as ?_;obtain⟨f1,f2,f3,f4⟩:=fly;refine iH f1 f3 f4.at hd fun h6 k1 k2 k3 up6 hd6=>?_;have fly6:Heap.FlyingW B X.stack ea (.ref c) (.ref t) h6:=⟨k1,f2,k2,k3⟩
 have F6:=F.move (tk:=s'.toks) I0 fly6.1 up6;have hx6:∃oe,h6.get? ea=some oe/\oe.cls=.ref c/\oe.dict=dc/\notCls oe=true:=by obtain⟨oe,vs,z1,z2,z3,_⟩:=fly6.first;obtain⟨o2,y1,y2⟩:=hd6;cases Zu (z1.symm.trans y1);exact⟨oe,z1,z2,y2,by unfold notCls;rw[z3]⟩
 obtain⟨hn,I6⟩:=F6.trackD I0 fly6 hx6;refine iZ I6 hN hi (.inl hl) (v:=.ref ea) (u:=.ref ea) rfl (fun s7 I7=>?_) (.inr hl);refine ZK ((hs (.ref ea)).h pins s7 _ _ _ (I7.exc _) (q ea hn)) (fun f s8 sp=>?_) (fun _ _ z=>False.elim z);cases f with
 |next =>obtain⟨σ2,H2,I8,q8⟩:=sp;exact gP (I8.unexc I0.ok) hN hi hl fun s9 I9=>⟨_,H2,I9,q8⟩
 |brk =>obtain⟨σ2,H2,I8,q8⟩:=sp;exact gP (I8.unexc I0.ok) hN hi hl fun s9 I9=>⟨_,H2,I9,q8⟩
 |cont =>obtain⟨σ2,H2,I8,q8⟩:=sp;exact gP (I8.unexc I0.ok) hN hi hl fun s9 I9=>⟨_,H2,I9,q8⟩
 |ret u =>obtain⟨v,σ2,H2,I8,r8,q8⟩:=sp;exact gP (I8.unexc I0.ok) hN hi hl fun s9 I9=>⟨v,_,H2,I9,r8,q8⟩
end
open PySem PySem.Spec PyProof.Rows PySem.W
section
variable{K:PySem.W.Frag}{prog:Program}{w:World}{A:Around}{E:Value->Shared->Prop}{h:Heap}{g:Array GenState}{d:Drawn}{t:Nat}{os:OsState}{x D:Addr}{ox:Obj}{od:Option Obj}
theorem lJ{tk:Tok}{Q:PySem.Fin->Shared->Prop}(X:K.In h)(I:InstAt h x ox D od)(ha:findIn K (.ref D) "__class__" = some (some (.builtin "object.__class__")))(hm:mroIn K D (.type "object")=some true)(hq:Q (.done (.ret (.ref D))) ⟨h,g,d,t,os⟩):wpAny (model prog w) A (Builtin.«object.__getattribute__» ⟨[.ref x,.str "__class__" tk],[]⟩) Q E ⟨h,g,d,t,os⟩:=by
 have hT5:(⟨h,g,d,t,os⟩:Shared).TypeIs (.builtin "object.__class__") "getset_descriptor":=F.typeOf_object_class;have L0:=I.type (M:=model prog w);have L3:=looks_findIn (M:=model prog w) X ha;have f5:=F.typeOf_object_class;have f6:=F.slot_gs_get.lookup;have f7:=F.slot_gs_set.lookup
 repeat(any_goals(first|assumption|with_reducible refine L0.at ?_|with_reducible refine L3.at ?_|wp_step))
 refine class_get (s:=⟨h,g,d,t,os⟩) X I hm ?_
 repeat(any_goals(first|assumption|wp_step))
theorem lH{M:Model}{nv:Value}{Q:Unit->Shared->Prop}(X:K.In h)(I:InstAt h x ox D od)(hb:mroIn K D (.type "BaseException")=some true)(hq:Q () ⟨h,g,d,t,os⟩) :
  wpAny M A (checkBuiltinCall "BaseException.__getattribute__" ⟨[.ref x,nv],[]⟩) Q E ⟨h,g,d,t,os⟩:=by
 have hk:builtinKind "BaseException.__getattribute__" = some .slot:=by decide +kernel
 have hs:splitId "BaseException.__getattribute__" = some ("BaseException","__getattribute__"):=by decide +kernel
 have ao:=F.args_bexc_ga (.ref x) nv;have L0:=I.type (M:=M);have L1:=looks_mroIn (M:=M) X hb;simp only[checkBuiltinCall,hk,hs];refine z0 ?_;unfold isInstance
 repeat(first|with_reducible refine L0.at ?_|with_reducible refine L1.at ?_|wp_step)
 exact hq
theorem ve{Q:Option Value->Shared->Prop}(X:K.In h)(I:InstAt h x ox D od)(hga:findIn K (.ref D) "__getattribute__" = some (some (.builtin "BaseException.__getattribute__")))(hgh:findIn K (.ref D) "__getattr__" = some none)(ha:findIn K (.ref D) "__class__" = some (some (.builtin "object.__class__")))(hb:mroIn K D (.type "BaseException")=some true)(hm:mroIn K D (.type "object")=some true)(hq:Q (some (.ref D)) ⟨h,g,d,t+1,os⟩) :
  wpAny (model prog w) A (getAttr? (.ref x) "__class__") Q E ⟨h,g,d,t,os⟩:=by
 have L0:=I.type (M:=model prog w);have L1:=looks_findIn (M:=model prog w) X hga;have L2:=looks_findIn (M:=model prog w) X hgh;have f3:=F.excAttr_ValueError.ga.bind (.ref x);have ne:(Value.builtin "BaseException.__getattribute__" == Value.builtin "object.__getattribute__")=false:=by decide +kernel
 have ne1:(onTheHeap (Value.ref D)&&Value.builtin "BaseException.__getattribute__" == Value.builtin "object.__getattribute__")=false:=by rw[ne];rfl
 have ne2:(false&&onTheHeap (Value.builtin "BaseException.__getattribute__"))=false:=rfl;unfold getAttr? getAttrBy?
 repeat(any_goals(first|assumption|with_reducible refine L0.at ?_|with_reducible refine L1.at ?_|with_reducible refine L2.at ?_|wp_step))
 refine codeAny_call_builtin F.excAttr_ValueError.ga.plain F.entry_bexc_ga (lH X I hb (lJ X I ha hm ?_))
 repeat(any_goals(first|assumption|wp_step))
theorem xw{tk:Tok}{name:Str}{v:Value}{Q:PySem.Fin->Shared->Prop}(X:K.In h)(I:InstAt h x ox D od)(hf:findObj K D od name=some (.value v))(hq:Q (.done (.ret v)) ⟨h,g,d,t,os⟩):wpAny (model prog w) A (Builtin.«object.__getattribute__» ⟨[.ref x,.str name tk],[]⟩) Q E ⟨h,g,d,t,os⟩:=by have L0:=I.type (M:=model prog w);have L3:=looks_find (M:=model prog w) X I hf;refine z0 (z9 (z0 (z9 (z0 (L0.at (z0 (L3.at ?_)))))));exact z9 hq
theorem zY{name:Str}{v:Value}{expr:Bool}{Q:Value->Shared->Prop}(X:K.In h)(I:InstAt h x ox D od)(hga:findIn K (.ref D) "__getattribute__" = some (some (.builtin "BaseException.__getattribute__")))(hgh:findIn K (.ref D) "__getattr__" = some none)(hb:mroIn K D (.type "BaseException")=some true)(hf:findObj K D od name=some (.value v))(hv:handedIn v=true)(hq:Q v ⟨h,g,d,t+1,os⟩) :
  wpAny (model prog w) A (getAttr (.ref x) name expr) Q E ⟨h,g,d,t,os⟩:=by
 have L0:=I.type (M:=model prog w);have L1:=looks_findIn (M:=model prog w) X hga;have L2:=looks_findIn (M:=model prog w) X hgh;have f3:=F.excAttr_ValueError.ga.bind (.ref x);have hx0:(expr&&onTheHeap (Value.builtin "BaseException.__getattribute__"))=false:=by cases expr<;>rfl
 have ne:(Value.builtin "BaseException.__getattribute__" == Value.builtin "object.__getattribute__")=false:=by decide +kernel
 have ne1:(onTheHeap (Value.ref D)&&Value.builtin "BaseException.__getattribute__" == Value.builtin "object.__getattribute__")=false:=by rw[ne];rfl
 have hh:=handedOut_of hv;unfold getAttr getAttrBy
 repeat(any_goals(first|assumption|with_reducible refine L0.at ?_|with_reducible refine L1.at ?_|with_reducible refine L2.at ?_|wp_step))
 refine codeAny_call_builtin F.excAttr_ValueError.ga.plain F.entry_bexc_ga (lH X I hb (xw X I hf ?_))
 repeat(any_goals(first|assumption|wp_step))
end
theorem xQ{K:PySem.W.Frag}{x c:Addr}{ox:Obj}{od:Option Obj}(k:ExK K c):KitX K (.ref x) (.ref c) (fun h=>InstAt h x ox c od) where
 ty:=fun _ _ _ I=>I.type
 it:=fun _ _ X _=>by
  obtain⟨cd,hc⟩:=YA.mp k.hc;unfold clsIn at hc;split at hc
  ·rename_i ho;intro A' Q' E' s' kp q;unfold isType loadHead;exact z0 (wpAny_loadPart (kp _ _ (X _ _ ho)) (z9 q))
  ·cases hc
 ne:=fun h tp dd its n sl X htp=>by
  obtain⟨cd,hc⟩:=YA.mp k.hc;refine ZL.mpr fun q=>?_;have e:c=tp:=Value.ref.inj (ZU.mp q);cases e;unfold clsIn at hc;split at hc
  ·rename_i ho;exact nomatch((X _ _ ho).symm.trans htp)
  ·cases hc
 ca:=fun{_ _ _ _ _ s} X I kq=>by obtain⟨hp,g,d,tt,os⟩:=s;exact ve X I k.hga k.hgh k.ha k.hb k.hm kq
def Dh(H:Hp):Option Addr->Prop
 |none=>True
 |some d=>∃fs,H d=some (.xd fs)
section
variable{X:Cx}{pins:List (Addr×Obj)}{σ:St}{H:Hp}{s:Shared}
theorem oO{a c:Addr}{dc:Option Addr}(I:Inv X pins σ H s)(ha:H a=some (exD a c dc))(hd:Dh H dc):∃oe od,InstAt s.heap a oe c od/\∀d,dc=some d->∃o,od=some o/\s.heap.get? d=some o:=by
 obtain⟨⟨oe,h1,h2,h3,h4⟩,_⟩:=(show ObjOk X.prog X.w H s.heap a (exD a c dc)from I.hok a _ ha)
 cases dc with
 |none=>exact⟨oe,none,⟨h1,h2,h4,by rw[h3];exact True.intro⟩,fun d z=>nomatch z⟩
 |some d =>obtain⟨fs,hf⟩:=hd;obtain⟨o,ho⟩:=eO (I.hok d _ hf);exact⟨oe,some o,⟨h1,h2,h4,by rw[h3];exact ho⟩,fun d' z=>by cases z;exact⟨o,rfl,ho⟩⟩
def Gb(K:PySem.W.Frag)(ta:TE)(f:Str):TE:=fun σ H Q=>ta σ H fun x H1=>∃a c d fs v,x=.ref a/\H1 a=some (exD a c (some d))/\H1 d=some (.xd fs)/\ExK K c/\hasDictIn K c=true/\NoAttr K c f/\fs.lookup f=some v/\Q v H1
theorem EJ{e:Expr}{f:Str}{pos:Pos}{ta:TE}(he:QE X e ta)(hb:attributeBase e f X.env (eval e X.env)=eval e X.env:=by rfl):QE X (.Attribute e f pos) (Gb X.K ta f):=by
 refine⟨?_⟩;intro pins s σ H Q I h;refine tQ hb (thn (he.h pins s σ H _ I h) fun u s1 hz9=>?_);obtain⟨x,H1,I1,rx,a,c,d,fs,v,ex,ea,ed,k,hh,n,l,q⟩:=hz9;subst ex;obtain rfl:u=Value.ref a:=rx;obtain⟨oe,od,ia,hod⟩:=oO I1 ea ⟨fs,ed⟩;obtain⟨o,rfl,ho⟩:=hod d rfl;obtain⟨mA,hn,hr⟩:=(show ObjOk X.prog X.w H1 s1.heap d (.xd fs)from I1.hok d _ ed)
 obtain⟨o2,ho2,hl⟩:=pd hn;cases Zu (ho.symm.trans ho2);obtain⟨u',hu,ru⟩:=RelO.some_of (v:=v) (o:=mA f) (by rw[<-l];exact hr f);obtain⟨hp,g,dr,tk,os⟩:=s1;exact zY I1.kIn ia k.hga k.hgh k.hb (findObj_own hh n rfl (by rw[hl,hu])) (oV ru) ⟨v,H1,I1.tok (tk+1),ru,q⟩
end
open PySem PySem.Spec PyProof.Rows PySem.W
def BQ(X:Cx)(B:Heap)(ea:Addr)(C:Value)(t:Addr)(h:Heap):Prop :=
 (B.StaysIn h/\B.get? ea=none/\h.FunFrames B X.stack/\∃oe,h.get? ea=some oe/\oe.cls=C/\oe.data=.fields #[.ref t,.none,.none,.none,.bool false,.none]) \/
 Heap.FlyingW B X.stack ea C (.ref t) h\/Heap.HeldW B X.stack ea C (.ref t) X.env.locals h
def Bk(X:Cx)(E:XK)(ea:Addr)(s':Shared):Prop:=∃(pins:List (Addr×Obj)) (σ:St) (H0 H':Hp) (s0:Shared) (B:Heap) (t:Addr) (C:Value) (vs:List Value) (dc:Option Addr),
 Inv X pins σ H0 s0/\Fl X H0 H' s0 s' B/\BQ X B ea C t s'.heap/\s'.heap.TupAt t vs/\B.get? t=none/\dZ s'.heap ea dc/\E C dc H'
section
variable{X:Cx}{E:XK}{ea:Addr}{s':Shared}{EE:Value->Shared->Prop}
theorem uW{Q:Unit->Shared->Prop}(hst:X.stack=X.env::X.outer)(hfr:X.env.frame=some X.env.locals)(x:Bk X E ea s')(k:∀ h',(∃ (pins:List (Addr×Obj)) (σ:St) (H0 H':Hp) (s0:Shared) (B:Heap) (t:Addr) (C:Value) (vs:List Value) (dc:Option Addr),
   Inv X pins σ H0 s0/\Fl X H0 H' s0 { s' with heap:=h' } B/\Heap.HeldW B X.stack ea C (.ref t) X.env.locals h'/\h'.TupAt t vs/\B.get? t=none/\dZ h' ea dc/\E C dc H')->Q () { s' with heap:=h' }) :
  wpAny (model X.prog X.w) X.A (noteFrame (.ref ea) X.env) Q EE s':=by
 obtain⟨pins,σ,H0,H',s0,B,t,C,vs,dc,I0,F,st,tup,hBt,dd,q⟩:=x;have fr:X.A.frames=some (X.env::X.outer):=by rw[<-hst];exact I0.ok.frames
 rcases st with⟨f1,f2,f3,oe,he,rfl,hd⟩|fly|held
 ·unfold noteFrame;simp only[hfr];refine z0 (ZQ he hd (show _=some Value.none from rfl) ?_);rw[HU (by decide)];rw[hst]at f3;refine ko (a0:=.ref t) fr f3 hfr he f1 f2 hd (by simp) rfl fun h1 nt dd1=>?_;obtain⟨n1,n2,n3,n4⟩:=nt;rw[<-hst]at n2;obtain⟨o9,q9,d9⟩:=dd;cases Zu (he.symm.trans q9);rw[d9]at dd1;exact k h1 ⟨pins,σ,H0,H',s0,B,t,_,vs,dc,I0,F.move (tk:=s'.toks) I0 n1 n4,⟨n1,f2,n2,n3⟩,tup.of_slots n4,hBt,dd1,q⟩
 ·rw[hst]at fly;refine ma fr hfr fly dd fun h1 held up dd1=>?_;rw[<-hst]at held;exact k h1 ⟨pins,σ,H0,H',s0,B,t,C,vs,dc,I0,F.move (tk:=s'.toks) I0 held.1 up,held,tup.of_slots up,hBt,dd1,q⟩
 ·exact wpAny_noteFrame_againW hfr held.2.2.2 (k s'.heap ⟨pins,σ,H0,H',s0,B,t,C,vs,dc,I0,F,held,tup,hBt,dd,q⟩)
end
def jO(X:Cx)(E:XK):Prop:=∀ea s',Bk X E ea s'->X.xe (.ref ea) s'
section
variable{P:Program}{w:World}{K:PySem.W.Frag}{mg:Str->Option Value}{base:Heap}{N:List Str}{qual:Str}{scope:Scope}{f:Addr}{cd:Value}{A:Around}{outer:List Env}{s:Shared}{H:Hp}{E:XK}
theorem cC:jO (dM (CXr P w) P w K mg base N qual scope f cd A outer s H E) E:=by
 intro ea s' x;show wpAny (model P w) (A.deeper (envOfC qual scope s.heap.objs.size f cd)) (leaving (envOfC qual scope s.heap.objs.size f cd) (.ref ea)) _ _ _;unfold leaving;refine z0 (uW (X:=dM (CXr P w) P w K mg base N qual scope f cd A outer s H E) rfl rfl x ?_);rintro h1 ⟨pins,σ,H0,H',s0,B,t,C,vs,dc,I,F,held,tup,hBt,dd,q⟩;obtain⟨f1,f2,f3,f4⟩:=held;refine iH (s:={ s' with heap:=h1 }) f1 f3 f4 dd fun h2 k1 k2 k3 up dd2=>?_;have F2:=F.move (tk:=s'.toks) I k1 up;have I2:=F2.inv I;have hL:∀b o,s.heap.get? b=some o->b≠s.heap.objs.size:=fun b o q=>Zn (Zi q);have nfr:∀b,b∉frs outer->b≠s.heap.objs.size->b∉frs (envOfC qual scope s.heap.objs.size f cd::outer):=fun b h1 h2 hm=>by
  rcases Zj.mp (I.stkSub b hm)with z|z
  ·exact h2 z
  ·exact h1 z
 obtain⟨_,_,k2'⟩:=k2;refine⟨ea,t,C,vs,B,H',dc,rfl,I2.os,F2.bare,⟨fun b o q n hb _=>?_,fun b o q n hb _=>?_,fun b o q n _=>?_,fun b o q _=>?_,I2.base.tups,I2.base.frzs,I2.base.tbls⟩,F2.hok,⟨k1,f2,k2',k3⟩,tup.of_slots up,hBt,fun b o hb ho q=>?_,dd2,q⟩
 ·exact I2.base.keep b o q n hb (by intro z;cases z)
 ·exact I2.base.slot b o q n hb (by intro z;cases z)
 ·exact I2.base.free b o q n (by intro z;cases z)
 ·exact I2.base.there b o q (by intro z;cases z)
 ·refine F2.kb b o ?_ ?_ q
  ·rcases ho with⟨u,z⟩|⟨o0,z⟩
   ·exact F2.nf I z
   ·exact nfr b hb (hL b o0 z)
  ·rcases ho with⟨u,z⟩|⟨o0,z⟩
   ·exact .inl ⟨u,z⟩
   ·exact .inr (I.base.there b o0 z (by intro z;cases z))
end
section
variable{X:Cx}{E:XK}
theorem qm(hR:jO X E):ee (CXr X.prog X.w) X E:=fun pins σ H s e s' I x=>by obtain⟨ea,t,C,vs,B,H',dc,rfl,os,bare,un,hok,fly,tup,hBt,kb,dd,q⟩:=x;exact hR ea s' ⟨pins,σ,H,H',s,B,t,C,vs,dc,I,⟨os,bare,un,hok,kb⟩,.inr (.inl fly),tup,hBt,dd,q⟩
theorem jx(hR:jO X E):wS X (fun C H1=>E C none H1):=fun pins σ H1 s1 h2 e C vs I hx hE=>by
 obtain⟨t,he,tn,tt⟩:=hx.there;have fr0:∀b,b∈frs X.stack->∃o,s1.heap.get? b=some o:=fun b hm=>by obtain⟨_,o',ho',_⟩:=I.stack.mem hm;exact⟨o',ho'⟩
 have hid:∀b o,s1.heap.get? b=some o->b∉frs X.stack->(hideAll s1.heap (frs X.stack)).get? b=some o:=fun b o q hb=>hideAll_get _ q hb;have none_of:∀b,s1.heap.get? b=none->(hideAll s1.heap (frs X.stack)).get? b=none:=fun b hb=>by
  cases q:(hideAll s1.heap (frs X.stack)).get? b with
  |none=>rfl
  |some o=>exact nomatch hb.symm.trans (of_hideAll _ q)
 have tr:∀b u,H1 b=some u->b∉frs X.stack:=fun b u q hm=>by have:=I.stkFree b hm;rw[q]at this;cases this
 have F:Fl X H1 H1 s1 { s1 with heap:=h2 } (hideAll s1.heap (frs X.stack)):=⟨rfl,I.bare,Un.kept hx.keeps,I.hok.kept hx.keeps,fun b o hb ho q=>by
  obtain⟨o1,q1⟩:∃o1,s1.heap.get? b=some o1:=by
   rcases ho with⟨u,z⟩|⟨o0,z⟩
   ·exact eO (I.hok b u z)
   ·exact⟨o0,z⟩
  have q2:=hx.keeps _ _ q1;have q':h2.get? b=some o:=q;rw[q']at q2;cases q2;exact hid b o q1 hb⟩
 have ff:h2.FunFrames (hideAll s1.heap (frs X.stack)) X.stack:=(funFrames_hide I.stack fun env he b hb=>YK.mpr ⟨env,he,hb⟩).of_keeps fun b o q _=>⟨o,hx.keeps b o q,rfl⟩
 exact hR e _ ⟨pins,σ,H1,H1,s1,_,t,C,vs,none,I,F,.inl ⟨fun b o q=>hx.keeps b o (of_hideAll _ q),none_of e hx.new,ff,_,he,rfl,rfl⟩,⟨_,_,tt,rfl,rfl⟩,none_of t tn,⟨_,he,rfl⟩,hE⟩
end
section
variable{X:Cx}{E:XK}{C:Addr}{bm:List Value}{k:Nat}{ps:List Str}{sp:Sp}{x:Str}{np cpos pos:Pos}{e:Expr}{es:List Expr}{ta:TA}
theorem rM(hR:jO X E)(hc:X.calm=true)(F:ExI X.prog X.w X.K X.mg X.base k C bm ps sp)(hr:Room (k+1) X.A)(hm:X.mg x=some (.ref C))(ha:QA X (e::es) ta)(hg:Gl X x:=by rfl)(hs:(e::es).all aR=true:=by rfl)(hdb:(x==("__debug__":Str))=false:=by decide) :
  QS X (.Raise (some (.Call (.Name x np) (e::es) [] cpos)) none pos) (C2 sp C E ta):=by
 refine⟨?_⟩;intro pins s σ H D I h;obtain⟨fI,fd,xc,G,hb⟩:=F.ex;have hs1:aR e=true:=ZC.mp hs e (by simp);have he:=aY (es:=es) (env:=X.env) hs1;have hpl:(backTo cpos (starEach es X.env)).any (·.1)=false:=br (by
  rw[ZC];intro y hy;exact ZC.mp hs y (ZA _ hy))
 have hpl':(backTo cpos (starEach (e::es) X.env)).any (·.1)=false:=by rw[he];show(false ||(backTo cpos (starEach es X.env)).any (·.1))=false;rw[hpl];rfl
 rw[arm_exec_Raise];refine z0 (wpAny_standAt (yA (K:=X.K) (tY xc) (I.ok.hd hc) (z0 (ZK (wpAny_Call_ofName (fT I hg hm ?_ hdb)) (fun v s₃ h₃=>z0 (wpAny_standAt (z9 h₃))) fun _ _ x=>x))));unfold callWith;have hA:=ha.h cpos pins s σ H _ I h;rw[he]at hA ⊢;refine z0 (ZT (Calls.evalArgs_plain (thn hA fun us s1 ⟨vs,H1,I1,r1,hz,hE⟩=>z0 (wpAny_standAt ?_))));obtain⟨nm,q,N,bs,hdct,sn,sub,ab,col,dd,k0,k1,k2,k3,k5,mN,oC,hN,hi,T⟩:=lK xc I1.kIn;obtain⟨oI,lI,cI⟩:=xc.fn;obtain⟨hp,g,d,tk,os⟩:=s1;rw[<-he];simp only[hpl'];refine z0 (wpAny_keeperOf_exc oC ?_);refine z0 (uZ PySem.F.excBase_ValueError T oC hN hi (I1.kIn _ _ lI) cI (fun h' ea mx=>?_) (show us.length<=sizeLine by rw[<-r1.length];exact hz));obtain⟨t,ht,tn,tt⟩:=mx.there;obtain⟨hea0,I2⟩:=I1.excMade mx.keeps mx.new ht;have nt:t≠ea:=fun z=>by rw[z,ht]at tt;cases tt
 have ht0:H1 t=none:=by
  cases q:H1 t with
  |none=>rfl
  |some u =>obtain⟨o,z⟩:=eO (I1.hok t u q);exact nomatch tn.symm.trans z
 have hq:=hE ea t hea0 ht0 nt;have hl:(Value.ref ea::us).length=ps.length:=by rw[<-G.len _ _ _ _ hq,Zl,Zl,r1.length]
 refine wpAny_call (YL (G.run _ X.stack _ _ ⟨Value.ref ea::us,[]⟩ (Value.ref ea::us) (V.ref ea::vs) _ _ (hr.make C us []) (I2.env0.make C us []) (by have:=hb _ (Value.ref ea::us) I2.kIn (by rw[ZO];exact hl);rw[ZO]at this;exact this) (.cons rfl r1) hq) fun r s' hq'=>?_);cases r with
 |error e'=>exact False.elim hq'
 |ok fl =>
  cases fl with
  |next=>exact False.elim hq'
  |brk=>exact False.elim hq'
  |cont=>exact False.elim hq'
  |ret u =>
   obtain⟨v,H',os',bare,un,hok,r,rfl,dc,hd,hE'⟩:=hq';obtain rfl:u=Value.none:=r;have I3:Inv X pins σ H' s':=I2.call' os' un hok bare fun _ z=>nomatch z;have notin:∀b,hp.get? b=none->b∉frs X.stack:=fun b hb hm=>by obtain⟨_,o',ho',_⟩:=I1.stack.mem hm;exact nomatch hb.symm.trans ho'
   have hx:s'.heap.get? ea=some { cls:=.ref C,dict:=dc,data:=.fields #[.ref t,.none,.none,.none,.bool false,.none] }:=(show ObjOk X.prog X.w H' s'.heap ea (exN ea C t dc)from I3.hok ea _ hd).1;have ut:upd H1 ea (exN ea C t none) t=none:=by rw[af nt];exact ht0
   have tt':=un.keep t _ tt ut (notin t tn) (by intro z;cases z);refine⟨rfl,z0 (ZT (wpAny_point (z9 ⟨ea,_,rfl,I3.kIn,hx,rfl,⟨t,rfl⟩,?_⟩)))⟩;have hy:s'.heap.get? ea=some { cls:=.ref C,dict:=dc,data:=.fields #[.ref t,.none,.none,.none,.bool false,.none] }:=hx;have ne:∀b v,H' b=some v->v≠exN ea C t dc->b≠ea:=fun b v q hv z=>by rw[z,hd]at q;exact hv (Zu q).symm
   have ft:=un.free t _ tt ut (by intro z;cases z);have tr2:∀b v,H' b=some v->b≠t:=fun b v q z=>by rw[z,ft]at q;cases q
   have tfr:∀b v,H' b=some v->b∉frs X.stack:=fun b v q hm=>by have:=I3.stkFree b hm;rw[q]at this;cases this
   have oe:∀b o,hp.get? b=some o->b≠ea:=fun b o q z=>by rw[z]at q;exact nomatch mx.new.symm.trans q
   have ot:∀b o,hp.get? b=some o->b≠t:=fun b o q z=>by rw[z]at q;exact nomatch tn.symm.trans q
   have un1:Un (frs X.stack) [] H1 (del H' ea) hp s'.heap:=by
    refine⟨fun b o q n hb hx'=>un.keep b o (mx.keeps b o q) (by rw[af (oe b o q)];exact n) hb hx',fun b o q n hb hx'=>un.slot b o (mx.keeps b o q) (by rw[af (oe b o q)];exact n) hb hx',fun b o q n hx'=>?_,fun b o q hx'=>un.there b o (mx.keeps b o q) hx',fun b xs q=>?_,fun b o v q=>?_,fun b ps' q=>?_⟩
    ·rw[eg (oe b o q)];exact un.free b o (mx.keeps b o q) (by rw[af (oe b o q)];exact n) hx'
    ·have:=un.tups b xs (by rw[af (am q hea0)];exact q);rw[eg (ne _ _ this (by intro z;cases z))];exact this
    ·have:=un.frzs b o v (by rw[af (am q hea0)];exact q);rw[eg (ne _ _ this (by intro z;cases z))];exact this
    ·obtain⟨more,this⟩:=un.tbls b ps' (by rw[af (am q hea0)];exact q);exact⟨more,by rw[eg (ne _ _ this (by intro z;cases z))];exact this⟩
   have hok1:HOk X.prog X.w (del H' ea) s'.heap:=fun b v q=>by obtain⟨hb,q⟩:=yh q;exact(I3.hok b v q).stay (fun _ _ _ z=>z) (fun b' z=>by rw[eg (ne _ _ z (by intro z;cases z))];exact z) fun b' xs z=>by rw[eg (ne _ _ z (by intro z;cases z))];exact z
   have hid:∀b o,s'.heap.get? b=some o->b≠ea->b≠t->b∉frs X.stack->(hideAll s'.heap (ea::t::frs X.stack)).get? b=some o:=fun b o q h1 h2 h3 =>
    hideAll_get _ q fun hm=>by
     rcases Zj.mp hm with z|hm
     ·exact h1 z
     rcases Zj.mp hm with z|hm
     ·exact h2 z
     ·exact h3 hm
   have Fx:Fl X H1 (del H' ea) ⟨hp,g,d,tk,os⟩ s' (hideAll s'.heap (ea::t::frs X.stack)):=⟨os',bare,un1,hok1,fun b o hb ho q=>by
    rcases ho with⟨v,z⟩|⟨o0,z⟩
    ·obtain⟨hb',z⟩:=yh z;exact hid b o q hb' (tr2 _ _ z) hb
    ·exact hid b o q (oe b o0 z) (ot b o0 z) hb⟩
   exact hR ea s' ⟨pins,σ,H1,del H' ea,_,_,t,.ref C,us,dc,I1,Fx,.inl ⟨fun b o q=>of_hideAll _ q,hideAll_none _ y4,
    funFrames_hide I3.stack fun env he b hb=>ZA _ (ZA _ (YK.mpr ⟨env,he,hb⟩)),_,hy,rfl,rfl⟩,⟨_,_,tt',rfl,rfl⟩,hideAll_none _ (ZA _ y4),⟨_,hy,rfl⟩,hE'⟩
end
open PySem PySem.Spec PyProof.Rows PySem.W
theorem lF{X:Cx}:QCall X (.builtin "isinstance") (fun xs H Q=>∃ (x T:V) (u:Value) (b:Bool),xs=[x,T]/\(∀ v,RelV T v->v=u) /\
  ((∃ t,TyOf X.K H x t/\PySem.W.kitOne X.K t u=some b)\/∃ (a c:Addr) (dc:Option Addr),x=.ref a/\H a=some (exD a c dc)/\Dh H dc/\ExK X.K c/\PySem.W.kitOne X.K (.ref c) u=some b)/\Q (.bl b) H):=by
 refine⟨?_⟩;intro pins s σ H xs us Q I r h;obtain⟨x,T,u,b,rfl,ht,hh,q⟩:=h;obtain⟨v,w',rfl,rx,ry⟩:=wF r;cases ht w' ry;rcases hh with⟨t,ty,e⟩|⟨a,c,dc,rfl,ha,hd,k,e⟩
 ·exact oX I rx ty e fun tk=>⟨.bl b,H,I.tok tk,rfl,q⟩
 ·cases rx;obtain⟨oe,od,ia,_⟩:=oO I ha hd;exact y6 (xQ k) I.kIn ia e (fun z=>nomatch z) fun tk=>⟨.bl b,H,I.tok tk,rfl,q⟩
open PySem PySem.Spec PyProof.Rows PySem.W
def qi(qual:Str)(params:Arguments)(body:Expr)(scope:Scope)(cl:List (Str×Addr))(pm:Value)(c:Addr)(ct:Value):FuncData:=kla_fn "<lambda>" qual params body scope cl pm (.ref c) ct
def iu(qual:Str)(params:Arguments)(body:Expr)(scope:Scope)(cl:List (Str×Addr))(pm:Value)(c:Addr)(ct:Value):Obj:={ cls:=.type "function",data:=.func (qi qual params body scope cl pm c ct) }
def eM(a:Addr)(o:Obj):HO:=.ext fun h=>h.get? a=some o
def jk(c:Addr)(qual:Str):HO:=.ext fun h=>h.CodeRec (.ref c) qual
theorem nk{P:Program}{w:World}{H:Hp}{h:Heap}{a:Addr}{o:Obj}(e:h.get? a=some o):ObjOk P w H h a (eM a o):=⟨e,⟨o,e⟩,fun _ _ x k=>k _ x⟩
theorem B4{P:Program}{w:World}{H:Hp}{h:Heap}{c:Addr}{q:Str}(e:h.CodeRec (.ref c) q):ObjOk P w H h c (jk c q):=by obtain⟨c',oc,vs,t,e1,e2,e3,e4⟩:=id e;cases e1;refine⟨e,⟨oc,e2⟩,fun h1 h2 x k=>?_⟩;obtain⟨c',oc,vs,t,e1,e2,e3,e4⟩:=id x;cases e1;exact⟨c,oc,vs,t,rfl,k _ e2,e3,e4⟩
def Blt(h:Heap)(mg:Str->Option Value):Prop:=∃bm ob,mg "__builtins__" = some (.ref bm)/\bm≠builtinsNs/\h.get? bm=some ob/\ob.cls=.type "module"/\ob.dict=some builtinsNs/\ob.data=.plain
section
variable{X:Cx}{pins:List (Addr×Obj)}{σ:St}{H:Hp}{s:Shared}
theorem Inv.bltAt(I:Inv X pins σ H s)(B:Blt X.base X.mg){P:Addr}{ps:Array Value}(hP:H P=some (.tbl ps)):s.heap.BuiltinsAt X.mg P:=by
 obtain⟨bm,ob,b1,b2,b3,b4,b5,b6⟩:=B;refine⟨bm,ob,b1,b2,fun z=>?_,fun z=>?_,I.bk _ _ b3,b4,b5,b6⟩
 ·obtain⟨o,es,ep,e,d,_⟩:=I.ok.mod.glob;rw[<-z,b3]at e;cases e;rw[d]at b6;cases b6
 ·have:=(I.bs _ _ b3).2;rw[z,hP]at this;cases this
theorem Inv.grown{h':Heap}{P c f:Addr}{ps more:Array Value}{oc of':HO}{t':Nat}(I:Inv X pins σ H s)(hP:H P=some (.tbl ps))(k:∀b o,b≠P->s.heap.get? b=some o->h'.get? b=some o)(hc:s.heap.objs.size<=c)(hf:s.heap.objs.size<=f)(hcf:c≠f)(eP:h'.get? P=some { cls:=.none,data:=.fields (ps++more) })(nc:∀H',ObjOk X.prog X.w H' h' c oc)(nf:∀H',ObjOk X.prog X.w H' h' f of') :
  H c=none/\H f=none/\Inv X pins σ (upd (upd (upd H P (.tbl (ps++more))) c oc) f of') { s with heap:=h',toks:=t' }:=by
 have c0:=I.hok.fresh hc;have f0:=I.hok.fresh hf;have nP:∀{b:Addr} {u:HO},H b=some u->(∀qs,u≠.tbl qs)->b≠P:=fun{b u} e n z=>by rw[z,hP]at e;cases e;exact n _ rfl
 have up:∀{b:Addr},b≠P->b≠c->b≠f->upd (upd (upd H P (.tbl (ps++more))) c oc) f of' b=H b:=fun{b} n1 n2 n3=>by rw[af n3,af n2,af n1]
 have old:∀{b:Addr} {o:Obj},s.heap.get? b=some o->b≠c/\b≠f:=fun{b o} e=>⟨Zn (Zo (Zi e) hc),Zn (Zo (Zi e) hf)⟩
 have pcf:P≠c/\P≠f:=by have:=I.hok P _ hP;exact old (show s.heap.get? P=some _ from this)
 refine⟨c0,f0,I.un (t':=t') ⟨fun b o e n _ _=>k b o (fun z=>by rw[z,hP]at n;cases n) e,fun b o e n _ _=>⟨o.slots,k b o (fun z=>by rw[z,hP]at n;cases n) e⟩,fun b o e n _=>?_,fun b o e _=>?_,fun b xs e=>?_,fun b o u e=>?_,fun b qs e=>?_⟩ fun b u e=>?_⟩
 ·rw[up (fun z=>by rw[z,hP]at n;cases n) (old e).1 (old e).2];exact n
 ·by_cases z:b=P
  ·exact⟨_,z▸eP⟩
  ·exact⟨o,k b o z e⟩
 ·rw[up (nP e fun _ z=>nomatch z) (am e c0) (am e f0)];exact e
 ·rw[up (nP e fun _ z=>nomatch z) (am e c0) (am e f0)];exact e
 ·by_cases z:b=P
  ·subst z;rw[hP]at e;cases e;exact⟨more,by rw[af pcf.2,af pcf.1,ad]⟩
  ·exact⟨#[],by rw[up z (am e c0) (am e f0),e];simp⟩
 ·by_cases zf:b=f
  ·subst zf;rw[ad]at e;cases e;exact nf _
  ·rw[af zf]at e;by_cases zc:b=c
   ·subst zc;rw[ad]at e;cases e;exact nc _
   ·rw[af zc]at e;by_cases zP:b=P
    ·subst zP;rw[ad]at e;cases e;exact eP
    ·rw[af zP]at e;refine(I.hok b u e).stay (fun b' v hb' q=>k b' v (fun z=>?_) q) (fun b' z=>by rw[up (nP z fun _ z=>nomatch z) (am z c0) (am z f0)];exact z) fun b' xs z=>by rw[up (nP z fun _ z=>nomatch z) (am z c0) (am z f0)];exact z
     rcases hb' with rfl|hb'
     ·exact zP z
     ·rw[z,hP]at hb';cases hb'
end
theorem DP{CX:CXT}{P:Program}{w:World}{K:PySem.W.Frag}{mg:Str->Option Value}{base:Heap}{k:Nat}{f c':Addr}{qual:Str}{params:Arguments}{body:Expr}{scope:Scope}{pm ct:Value}{N ps:List Str}{sp:Sp}(S:FnScope N ps scope)(len:∀ vs H Q E,sp vs H Q E->vs.length=ps.length)(hbody:∀ (A:Around) (outer:List Env) (s:Shared) (H:Hp) (vs:List V) (Q:VK) (E:XK),Room k (A.deeper (envOfC qual scope s.heap.objs.size f (.ref c')))->sp vs H Q E ->
   ∃ t,PE (dM CX P w K mg base N qual scope f (.ref c') A outer s H E) body t/\t (start N vs) H Q) :
  FnOk P w K mg base CX (k+1) f (qi qual params body scope [] pm c' ct) ps (fun vs H Q E=>H f=some (eM f (iu qual params body scope [] pm c' ct))/\H c'=some (jk c' qual)/\sp vs H Q E):=by
 refine⟨fun vs H Q E h=>len _ _ _ _ h.2.2,fun A outer s H args us vs Q E hr e0 hb r ⟨hf,hc,hsp⟩=>?_⟩;have hl:=len _ _ _ _ hsp;have lim:s.heap.NoLimit:=e0.mod.nolimit.keeps fun b o e=>(e0.bs b o e).1;have hkind:∀y∈ps.zip us,scope.names.lookup y.1=some .local\/(scope.names.lookup y.1=some .cell/\((cellsFrom (s.heap.objs.size+1) scope.names []).lookup y.1).isSome=true):=fun⟨n,v⟩ hy=>by
  rcases S.par n (List.of_mem_zip hy).1 with q|q
  ·exact .inl q
  ·exact .inr ⟨q,PySem.W.cellsFrom_some _ _ _ (.inl q)⟩
 have of1:=(e0.hok f _ hf).1;have oc1:=(e0.hok c' _ hc).1;refine kla_callFunE hr.depth of1 rfl S.co S.gen rfl oc1 (hb _ _ _ _ ?_);refine wpAny_newFunctionEnv_cells S.kind hkind fun env he s1 x=>?_;subst he;refine⟨lim.keeps x.toInCall.keep,kla_codeExpr ?_⟩;obtain⟨t,ht,hq⟩:=hbody A outer s H vs Q E (hr.deeper _) hsp;have I:Inv (dM CX P w K mg base N qual scope f (.ref c') A outer s H E) [] (start N vs) H s1:=oW S hr.hd e0 hl r x;refine ZK (ht [] s1 (start N vs) H _ I hq) (fun u s' hz9=>?_) fun e s' hs=>hs;obtain⟨v,H',J,rv,q⟩:=hz9;exact⟨v,H',J.os,J.bare,J.base,J.hok,rv,q⟩
def bh(q:Str)(P:Addr)(pos:Pos)(H:Hp):Prop:=∃ps:Array Value,H P=some (.tbl ps)/\TriplesOk ps.toList/\(codeAmong pos ps.toList=none\/∃c',codeAmong pos ps.toList=some (.ref c')/\H c'=some (jk c' q))
def SameT(P:Addr)(H H':Hp):Prop:=∀b o,H b=some o->b≠P->H' b=some o
theorem SameT.of{P:Addr}{H H':Hp}(s:Same H H'):SameT P H H':=fun b o e _=>s b o e
theorem SameT.trans{P:Addr}{H H' H2:Hp}(s:SameT P H H')(t:SameT P H' H2):SameT P H H2:=fun b o e n=>t b o (s b o e n) n
theorem jN{x y:Int}{c:Value}{a b:Tok}:∀l:List Value,TriplesOk l->TriplesOk (l++[.int x a,.int y b,c])
 | [],_=>trivial
 |.int _ _::.int _ _::_::rest,h=>jN rest h
structure LamOk(P:Program)(w:World)(K:PySem.W.Frag)(mg:Str->Option Value)(base:Heap)(k:Nat)(qual:Str)(body:Expr)(scope:Scope)(x:Str)(sp:Sp):Prop where
 ex:∃N:List Str,FnScope N [x] scope/\(∀vs H Q E,sp vs H Q E->vs.length=1)/\∀(f c':Addr) (A:Around) (outer:List Env) (s:Shared) (H:Hp) (vs:List V) (Q:VK) (E:XK),Room k (A.deeper (envOfC qual scope s.heap.objs.size f (.ref c')))->sp vs H Q E ->
  ∃t,QE (dM CX0 P w K mg base N qual scope f (.ref c') A outer s H E) body t/\t (start N vs) H Q
open PySem PySem.Spec PyProof.Rows PySem.W
def BM(a:Addr)(tabs:List (Addr×Addr))(H:Hp):Prop:=∀b,H b=none\/(b=a/\∃o xs,H b=some (.frz o (.lst xs)))\/((∃c,(c,b)∈tabs)/\H b=some (.tbl #[]))
theorem Am{P:Program}{w:World}{K:PySem.W.Frag}{mg mb:Str->Option Value}{k:Nat}{fa a:Addr}{fd:FuncData}{x:Str}{sp:Sp}{s:Shared}{vs:List Value}{ns:List Int}{tabs:List (Addr×Addr)}(kx:K.In s.heap)(gx:s.heap.Ns mainGlobals mg)(bx:s.heap.Ns builtinsNs mb)(bb:∀y:Str,y≠"__name__"->mb y=bootBuiltins y)(nl:s.heap.NoLimit)(gn:s.gens=#[])(bl:Blt s.heap mg)(tx:∀q∈tabs,CodeHd s.heap q.1 q.2/\s.heap.get? q.2=some (tabObj #[]))(nt:noTabs K=true)(sa:s.heap.get? a=some { cls:=.type "list",data:=.seq vs.toArray })(si:IntsAre vs ns)(sl:ns.length<=sizeLine)(hr:Room k callerA)(F:∀base:Heap,K.In base->base.Ns mainGlobals mg->Blt base mg->(∀q∈tabs,CodeHd base q.1 q.2)->FnOk P w K mg base CX0 k fa fd [x] sp)(bind:∀(s:Shared) (u:Value),BindsTo s fd ⟨[u],[]⟩ [(x,u)])(go:∀H:Hp,(∀q∈tabs,H q.2=some (.tbl #[]))->SqL K H a (ns.map V.int)->sp [.ref a] H (fun v _=>v=.bl true) fun _ _ _=>False) :
  codeAny (model P w) callerA (.call (.ref fa) ⟨[.ref a],[]⟩) (fun r s'=>r=.ok (.ret (.bool true))/\OldK s.heap s'.heap/\s'.os=s.os/\AllBare s'.gens) s:=by
 have tabNot:∀{b:Addr} {c:Addr},(c,b)∈tabs->K.lookup b=none:=fun{b c} hm=>by
  cases e:K.lookup b with
  |none=>rfl
  |some o =>have e1:=(kx b o e).symm.trans (tx _ hm).2;cases e1;have:=ZC.mp nt _ (mem_of_lookupK e);cases this
 have aNot:∀{c:Addr},¬(c,a)∈tabs:=fun{c} hm=>by have:=(tx _ hm).2;rw[sa]at this;cases this
 have main:∀H:Hp,BM a tabs H->(∀q∈tabs,H q.2=some (.tbl #[]))->SqL K H a (ns.map V.int)->HOk P w H s.heap->(H a≠none->K.lookup a=none) ->
   codeAny (model P w) callerA (.call (.ref fa) ⟨[.ref a],[]⟩) (fun r s'=>r=.ok (.ret (.bool true))/\OldK s.heap s'.heap/\s'.os=s.os/\AllBare s'.gens) s:=by
  intro H ae ht hS ok ha;have free:∀{b:Addr} {o:Obj},s.heap.get? b=some o->(∀n m,o.data≠.seq n m)->(∀n,o.data≠.fields n)->H b=none:=fun{b o} e n1 n2=>by
   rcases ae b with z|⟨rfl,_⟩|⟨⟨c,hm⟩,_⟩
   ·exact z
   ·rw[sa]at e;cases e;exact absurd rfl (n1 _ _)
   ·rw[(tx _ hm).2]at e;cases e;exact absurd rfl (n2 _)
  have nsB:∀{b:Addr} {m:Str->Option Value},s.heap.Ns b m->(gX s.heap H).Ns b m:=fun{b m} ⟨o,es,ep,e,d,r⟩=>⟨o,es,ep,iJ e (free e (fun _ _ z=>by rw[d]at z;cases z) fun _ z=>by rw[d]at z;cases z),d,r⟩
  have kB:K.In (gX s.heap H):=fun b o e=>iJ (kx b o e) (by
   rcases ae b with z|⟨rfl,o',xs,z⟩|⟨⟨c,hm⟩,_⟩
   ·exact z
   ·rw[ha (by rw[z];simp)]at e;cases e
   ·rw[tabNot hm]at e;cases e)
  have bB:Blt (gX s.heap H) mg:=by obtain⟨bm,ob,b1,b2,b3,b4,b5,b6⟩:=bl;exact⟨bm,ob,b1,b2,iJ b3 (free b3 (fun _ _ z=>by rw[b6]at z;cases z) fun _ z=>by rw[b6]at z;cases z),b4,b5,b6⟩
  have cB:∀q∈tabs,CodeHd (gX s.heap H) q.1 q.2:=fun q hq=>by
   obtain⟨o,ws,file,tf,fl,tg,inF,text,tt,c1,c2,c3,c4⟩:=(tx q hq).1;refine⟨o,ws,file,tf,fl,tg,inF,text,tt,iJ c1 ?_,c2,c3,c4⟩;rcases ae q.1 with z|⟨z,_⟩|⟨⟨c,hm⟩,_⟩
   ·exact z
   ·rw[z,sa]at c1;cases c1;injection c2 with c2;exact absurd c2 (by decide)
   ·rw[(tx _ hm).2]at c1;cases c1;cases c2
  have mB:Mod K mg (gX s.heap H):=⟨kB,nsB gx,⟨mb,nsB bx,bb⟩,let⟨mc,n1,n2⟩:=nl;⟨mc,nsB n1,n2⟩⟩
  have env:Env0 P w K mg (gX s.heap H) callerA [] s H:=⟨rfl,mB,fun b o e=>Ce e,Nat.le_of_eq (xH _ _),trivial,fun b hb=>absurd (show b∈([]:List Addr)from hb) (by simp),ok,.of_eq gn⟩
  refine YL ((F _ kB (nsB gx) bB cB).run callerA [] s H ⟨[.ref a],[]⟩ [.ref a] [.ref a] _ _ hr env (bind s (.ref a)) (.cons rfl .nil) (go H ht hS)) fun r s' h=>?_;cases r with
  |error e=>exact False.elim h
  |ok fl =>
   cases fl with
   |next=>exact False.elim h
   |brk=>exact False.elim h
   |cont=>exact False.elim h
   |ret u =>
    obtain⟨v,H',os,bare,un,ok',rv,hv⟩:=h;obtain rfl:v=.bl true:=hv;obtain rfl:u=Value.bool true:=rv;have each:∀b o,s.heap.get? b=some o->asItWas s.heap s'.heap b o/\∃o',s'.heap.get? b=some o':=fun b o e=>by
     rcases ae b with z|⟨rfl,o',xs,z⟩|⟨⟨c,hm⟩,z⟩
     ·have:=un.keep b o e z (by intro q;exact absurd (show b∈([]:List Addr)from q) (by simp)) (by simp);exact⟨.inl this,_,this⟩
     ·obtain⟨e1,_⟩:=ok b _ z;obtain⟨e2,_⟩:=ok' b _ (un.frzs b o' _ z);rw[e]at e1;cases e1;exact⟨.inl e2,_,e2⟩
     ·obtain⟨more,z2⟩:=un.tbls b _ z;have e2:s'.heap.get? b=some { cls:=.none,data:=.fields (#[]++more) }:=ok' b _ z2;have e1:=(tx _ hm).2;rw[e]at e1;cases e1;exact⟨.inr (.inl ⟨(((tx _ hm).1).tab e).isCodeTable,rfl,#[],more,rfl,e2⟩),_,e2⟩
    exact⟨rfl,⟨fun b o e=>(each b o e).1,fun b o e=>(each b o e).2⟩,os,bare⟩
 have rv:=pC si;have lv:=si.length;have inT:∀b,Decidable (∃c,(c,b)∈tabs):=fun b=>Classical.propDecidable _;cases hk:K.lookup a with
 |some o =>
  have e:=kx a o hk;rw[sa]at e;cases e;refine main (fun b=>@ite _ (∃c,(c,b)∈tabs) (inT b) (some (.tbl #[])) none) (fun b=>?_) (fun q hq=>HV ⟨q.1,hq⟩) (.inr ⟨_,vs.toArray,_,hk,rfl,rfl,rfl,by rw[Ze,lv];exact sl,by simpa using rv⟩) (fun b u z=>?_) (fun z=>absurd (HU fun⟨c,hm⟩=>aNot hm) z)
  ·by_cases c:∃c,(c,b)∈tabs
   ·exact .inr (.inr ⟨c,HV c⟩)
   ·exact .inl (HU c)
  ·by_cases c:∃c,(c,b)∈tabs
   ·have z':=(HV c).symm.trans z;cases z';obtain⟨c,hm⟩:=c;exact(tx _ hm).2
   ·have z':=(HU c).symm.trans z;cases z'
 |none =>
  refine main (fun b=>@ite _ (∃c,(c,b)∈tabs) (inT b) (some (.tbl #[])) (if b=a then some (.frz { cls:=.type "list",data:=.seq vs.toArray } (.lst (ns.map V.int)))else none)) (fun b=>?_) (fun q hq=>HV ⟨q.1,hq⟩) (.inl (.inr ⟨{ cls:=.type "list",data:=.seq vs.toArray },(HU fun⟨c,hm⟩=>aNot hm).trans (HV rfl)⟩)) (fun b u z=>?_) (fun _=>hk)
  ·by_cases c:∃c,(c,b)∈tabs
   ·exact .inr (.inr ⟨c,HV c⟩)
   ·by_cases hb:b=a
    ·exact .inr (.inl ⟨hb,_,_,(HU c).trans (HV hb)⟩)
    ·exact .inl ((HU c).trans (HU hb))
  ·by_cases c:∃c,(c,b)∈tabs
   ·have z':=(HV c).symm.trans z;cases z';obtain⟨c,hm⟩:=c;exact(tx _ hm).2
   ·have z':=(HU c).symm.trans z;by_cases hb:b=a
    ·rw[HV hb]at z';cases z';subst hb;exact⟨sa,by rw[Za];exact sl,vs,_,rv,sa⟩
    ·rw[HU hb]at z';cases z'
theorem Fun.okC{P:Program}{w:World}{K:PySem.W.Frag}{mg:Str->Option Value}{base:Heap}{x qual:Str}{st:Stmt}{f c:Addr}{fd:FuncData}{N ps:List Str}{k:Nat}{sp:Sp}(F:Fun K x qual st f fd)(hc:fd.code=.ref c)(S:FnScope N ps (al st))(len:∀ vs H Q E,sp vs H Q E->vs.length=ps.length)(body:∀ (A:Around) (outer:List Env) (s:Shared) (H:Hp) (vs:List V) (Q:VK) (E:XK),Room k (A.deeper (envOfC qual (al st) s.heap.objs.size f (.ref c)))->sp vs H Q E ->
   ∃ t,QB (dM CX0 P w K mg base N qual (al st) f (.ref c) A outer s H E).nox (bG st) t/\t { nx:=fun _ H'=>Q .non H',rt:=Q } (start N vs) H):FnOk P w K mg base CX0 (k+1) f fd ps sp:=by
 obtain⟨oc,od,kV,doc,pm,an,cdv,ct,osl,rfl,lk,hcd⟩:=F.ex;obtain rfl:cdv=.ref c:=hc;refine vh lk hcd S len fun A outer s H vs Q E hr hs=>?_;obtain⟨t,h,q⟩:=body A outer s H vs Q E hr hs;exact⟨t,h.h.nox,q⟩
theorem Bc{K:PySem.W.Frag}{x:Str}{f c P:Addr}{oc:Value}{od:Option Addr}{fd:FuncData}{sl:Array (Option Value)}(a:nsIn K mainGlobals x=some (some (.ref f)))(l:K.lookup f=some ⟨oc,od,.func fd,sl⟩)(t:tabIn K x=some (c,P)):fd.code=.ref c:=by
 unfold tabIn at t;rw[a]at t;dsimp only at t;rw[l]at t;dsimp only at t;split at t
 ·rename_i c' e;rw[e];split at t
  ·split at t
   ·cases t;rfl
   ·cases t
  ·cases t
 ·cases t
theorem zn{l:PySem.W.OpenLaw}{n k:Nat}{q:Program}{loose:List Str}{XP:(Str->Option Value)->Heap->Prop}{YP:World->Heap->Prop}{d:DefRec}{K:Params->PySem.W.Frag}{tabs:Params->List (Str×Addr×Addr)}{sp:World->Sp}{x:Str}(hn:l.most=some n)(hn2:n<=sizeLine)(hdf:d.params.defaults=[])(hr:Room k callerA)(hY:∀ (w:World) (h:Heap),YP w h->(K w.params).In h)(ht:∀ (w:World),∀ t∈tabs w.params,tabIn (K w.params) t.1=some t.2/\∃ d',(recsOf q).find? (fun e=>e.name == t.1)=some d')(nt:∀ w:World,noTabs (K w.params)=true)(F:∀ (w:World) (mg:Str->Option Value) (fa:Addr) (h:Heap),(K w.params).In h->h.Ns mainGlobals mg->mg d.name=some (.ref fa) ->
   ∃fd:FuncData,(∀(s:Shared) (u:Value),BindsTo s fd ⟨[u],[]⟩ [(x,u)]) /\
    ∀ base:Heap,(K w.params).In base->base.Ns mainGlobals mg->Blt base mg->(∀ t∈tabs w.params,CodeHd base t.2.1 t.2.2)->FnOk l.prog w (K w.params) mg base CX0 k fa fd [x] (sp w))(go:∀ (w:World) (H:Hp) (a:Addr) (ns:List Int),ns.length<=n->(∀ t∈tabs w.params,H t.2.2=some (.tbl #[]))->SqL (K w.params) H a (ns.map V.int)->sp w [.ref a] H (fun v _=>v=.bl true) fun _ _ _=>False) :
  PySem.W.WalkO q loose XP YP l.row.toRowW d [] (fun f vs=>PySem.call f vs):=by
 refine Att.attach_call hn hdf fun w s₀ s₁ mg mb fa o pm cd doc a vs ns G Y ho hd hcd hmg hobj hints hlen hg=>?_;have kx:=hY w _ Y;obtain⟨fd,hb,hF⟩:=F w mg fa _ kx G.T.g hmg;refine Am (tabs:=(tabs w.params).map (·.2)) kx G.T.g G.T.b G.T.builtins G.T.nolimit hg G.T.bmain (fun r hr'=>?_) (nt w) hobj hints (Zy hlen hn2) hr (fun base h1 h2 h3 h4=>hF base h1 h2 h3 fun t htm=>h4 _ (List.mem_map_of_mem htm)) hb fun H h1 h2=>go w H a ns hlen (fun t htm=>h1 _ (List.mem_map_of_mem htm)) h2;obtain⟨t,htm,rfl⟩:=Zt.mp hr';obtain⟨e1,d',e2⟩:=ht w t htm;exact tab_of G.T kx e2 (by rw[e1])
open PySem PySem.Spec PyProof.Rows PySem.W
inductive SKey where
 |i (n:Int)|s (t:Str)|bi (b:Bool)(n:Int)
def SKey.at(H:Hp):SKey->V->Prop
 |.i n,v=>v=.int n
 |.s t,v=>v=.str t
 |.bi b n,v=>∃a,v=.ref a/\H a=some (.tup [.bl b,.int n])
section
variable{X:Cx}{pins:List (Addr×Obj)}{σ:St}{H:Hp}{s:Shared}{h':Heap}
def uR(X:Cx)(pins:List (Addr×Obj))(σ:St)(f:Addr)(sp:Sp):Prop:=∀(s:Shared) (H:Hp) (u:Value) (v:V) (Q:VK),Inv X pins σ H s->RelV v u->sp [v] H Q E0->codeAny (model X.prog X.w) X.A.in1.in1 (.call (.ref f) ⟨[u],[]⟩) (CR CX0 X.stack X.prog X.w H s Q E0) s
theorem CT{k:Nat}{f:Addr}{fd:FuncData}{x:Str}{sp:Sp}(F:FnOk X.prog X.w X.K X.mg X.base CX0 k f fd [x] sp)(hb:∀(s:Shared) (u:Value),X.K.In s.heap->BindsTo s fd ⟨[u],[]⟩ [(x,u)])(hr:Room k X.A.in1.in1):∀l,uR (wX X l) pins σ f sp:=fun l s H u v Q I ru hs=>by
 have env:Env0 X.prog X.w X.K X.mg X.base X.A.in1.in1 X.stack s H:=by have e0:=I.env0;exact⟨e0.frames,e0.mod,e0.bs,e0.bsz,e0.funs,e0.frf,e0.hok,e0.bare⟩
 exact F.run X.A.in1.in1 X.stack s H ⟨[u],[]⟩ [u] [v] Q E0 hr env (hb s u I.kIn) (.cons ru .nil) hs
structure SG(X:Cx)(pins:List (Addr×Obj))(σ:St)(H1:Hp)(m:Str->Option Value)(kS D:Addr)(e1:Nat)(ks:List SKey)(as:List V)(us:List Value)(e:Nat)(H:Hp)(s:Shared):Prop where
 I:Inv X pins σ H s
 sm:Same H1 H
 fk:bH X pins H kS
 fd:bH X pins H D
 bk:X.base.get? kS=none
 bd:X.base.get? D=none
 hk:s.heap.get? kS=some (seqObj "list" (List.toArray us) e)
 hd:s.heap.get? D=some (seqObj "list" #[] e1)
 ns:s.heap.Ns X.env.locals m
 vals:Vals as us
 keys:∀(i:Nat) (a:V) (k:SKey),as[i]?=some a->ks[i]?=some k->k.at H a
theorem sF(b:Bool){xs:List V}{us:List Value}(h:Vals xs us):Vals (katRev b xs) (katRev b us):=by
 cases b with
 |false=>exact h
 |true =>
  show Vals xs.reverse us.reverse;induction h with
  |nil=>exact .nil
  |cons r _ ih =>rw[List.reverse_cons,List.reverse_cons];exact ih.append (.cons r .nil)
theorem B9(n m:Int):HT.lexLt [n] [m]=decide (n<m):=by
 rw[HT.lexLt_cons,HT.lexLt_nil_nil];by_cases z:n=m
 ·rw[HV z,decide_eq_false (by omega)]
 ·rw[HU z]
end
open PySem PySem.Spec PyProof.Rows PySem.W
structure LamScope(x y:Str)(sc:Scope):Prop where
 kind:sc.kind=.function
 co:sc.isCoroutine=false
 gen:sc.isGenerator=false
 lx:sc.names.lookup x=some .local
 ly:sc.names.lookup y=some .free
 nc:∀z∈sc.names,z.2≠.cell
 nf:∀z∈sc.names,z.2=.free->z.1=y
 ne:x≠y
def cxX(CX:CXT)(P:Program)(w:World)(K:PySem.W.Frag)(mg:Str->Option Value)(base:Heap)(N:List Str)(qual:Str)(scope:Scope)(f:Addr)(cd:Value)(cl:List (Str×Addr))(A:Around)(outer:List Env)(s:Shared)(H:Hp)(E:XK):Cx where
 prog:=P
 w:=w
 K:=K
 mg:=mg
 base:=base
 A:=A.deeper (envX qual scope s.heap.objs.size f cd cl)
 N:=N
 s₀:=s
 H₀:=H
 env:=envX qual scope s.heap.objs.size f cd cl
 outer:=outer
 stack:=envX qual scope s.heap.objs.size f cd cl::outer
 ex:=[]
 calm:=true
 fn:=fun _=>false
 pn:=[]
 xe:=fun e s'=>wpAny (model P w) (A.deeper (envX qual scope s.heap.objs.size f cd cl)) (leaving (envX qual scope s.heap.objs.size f cd cl) e) (fun _ s''=>CX outer H s E e s'') (fun e' s''=>CX outer H s E e' s'') s'
open PySem PySem.Spec PyProof.Rows PySem.W
section
variable{X:Cx}{c P:Addr}{params:Arguments}{body:Expr}{scope:Scope}{pos:Pos}{cl:List (Str×Addr)}
def wz(cl:List (Str×Addr))(X:Cx)(P:Addr)(params:Arguments)(body:Expr)(scope:Scope)(pos:Pos):TE:=fun _ H Q=>∃ps:Array Value,H P=some (.tbl ps)/\TriplesOk ps.toList /\
 ((∃ c',codeAmong pos ps.toList=some (.ref c')/\H c'=some (jk c' (X.env.qual++"<lambda>"))/\∀ f ct,H f=none->Q (.ref f) (upd H f (eM f (iu (X.env.qual++"<lambda>") params body scope cl ((X.mg "__name__").getD .none) c' ct)))) \/
  (codeAmong pos ps.toList=none/\∀ f c' ct,H f=none->H c'=none->c'≠f->Q (.ref f) (upd (upd (upd H P (.tbl (ps++#[rawInt pos.line,rawInt pos.col,.ref c']))) c' (jk c' (X.env.qual++"<lambda>"))) f (eM f (iu (X.env.qual++"<lambda>") params body scope cl ((X.mg "__name__").getD .none) c' ct)))))
theorem Cy(hcode:X.env.code=.ref c)(hge:X.env.globals=mainGlobals)(C:CodeHd X.base c P)(B:Blt X.base X.mg)(hdef:defaultsOf params X.env=([],[]))(hcl:closureFor scope X.env=pure cl):PE X (.Lambda params body scope pos) (wz cl X P params body scope pos):=by
 intro pins s σ H Q I h;obtain⟨ps,hP,ht,hh⟩:=h;have oP:s.heap.get? P=some (tabObj ps):=I.hok P _ hP;have hg:s.heap.Ns mainGlobals X.mg:=I.ok.mod.glob.keeps I.bk;have hb:=I.bltAt B hP;refine kla_eval hdef ?_;rcases hh with⟨c',hf,hc',q⟩|⟨hnf,q⟩
 ·refine kla_makeFunctionHit hcl hge hg hcode (C.keeps I.bk) oP ht hf hb fun ct h' tk kp hsz=>?_;have hn:=I.hok.fresh hsz;exact⟨.ref _,_,I.laid (t':=tk) (fun b o e=>z6 _ (kp b o e)) hsz (nk (Zg _ rfl)),rfl,q _ ct hn⟩
 ·have hgP:mainGlobals≠P:=fun z=>by obtain⟨o,es,ep,e,d,_⟩:=hg;rw[z,oP]at e;cases e;cases d
  refine kla_makeFunction hcl hge hg hcode (C.keeps I.bk) oP ht hnf hgP hb fun c' ct h' tk hx hge' hlt hrec htb=>?_;have hnF:c'≠h'.objs.size:=Zn hlt;obtain⟨i1,i2,i3⟩:=I.grown (t':=tk) (c:=c') (f:=h'.objs.size) (h':=h'.push (iu (X.env.qual++"<lambda>") params body scope cl ((X.mg "__name__").getD .none) c' ct)) (oc:=jk c' (X.env.qual++"<lambda>")) (of':=eM h'.objs.size (iu (X.env.qual++"<lambda>") params body scope cl ((X.mg "__name__").getD .none) c' ct)) hP
   (fun b o hb' e=>z6 _ (hx b o hb' e)) hge' (Zy hge' (Nat.le_of_lt hlt)) hnF (z6 _ htb) (fun _=>B4 (by
    obtain⟨c₂,oc,vs,t,e1,e2,e3,e4⟩:=hrec;exact⟨c₂,oc,vs,t,e1,z6 _ e2,e3,e4⟩)) (fun _=>nk (Zg _ rfl))
  exact⟨.ref _,_,i3,rfl,q _ c' ct i2 i1 hnF⟩
structure LamOkX(P:Program)(w:World)(K:PySem.W.Frag)(mg:Str->Option Value)(base:Heap)(k:Nat)(qual:Str)(body:Expr)(scope:Scope)(x y:Str)(sp:V->Sp):Prop where
 sc:LamScope x y scope
 ex:∀(f c' c:Addr) (kv:V) (A:Around) (outer:List Env) (s:Shared) (H:Hp) (v:V) (Q:VK),Room k (A.deeper (envX qual scope s.heap.objs.size f (.ref c') [(y,c)]))->sp kv [v] H Q E0 ->
  ∃t,QE (cxX CX0 P w K mg base [x,y] qual scope f (.ref c') [(y,c)] A outer s H E0) body t/\t [some v,some kv] H Q
def tK(X:Cx)(P:Addr)(q:Str)(lpos:Pos)(params:Arguments)(body:Expr)(scope:Scope)(cl:List (Str×Addr))(H1:Hp)(f:Addr)(H2:Hp):Prop :=
 ∃(c':Addr) (ct:Value),SameT P H1 H2/\bh q P lpos H2/\H2 f=some (eM f (iu q params body scope cl ((X.mg "__name__").getD .none) c' ct))/\H2 c'=some (jk c' q)/\f≠P/\c'≠P
theorem Al{H1:Hp}{lpos:Pos}{σ:St}{R:VK}(tab:bh (X.env.qual++"<lambda>") P lpos H1)(h:∀f H2,tK X P (X.env.qual++"<lambda>") lpos params body scope cl H1 f H2->R (.ref f) H2):wz cl X P params body scope lpos σ H1 R:=by
 obtain⟨ps,tP,t3,tc⟩:=tab;refine⟨ps,tP,t3,?_⟩;rcases tc with hno|⟨c',hy,hc'⟩
 ·refine .inr ⟨hno,fun f c' ct f0 c0 hcf=>h _ _ ?_⟩;have nPf:f≠P:=fun z=>by rw[z,tP]at f0;cases f0
  have nPc:c'≠P:=fun z=>by rw[z,tP]at c0;cases c0
  refine⟨c',ct,fun b o e hb=>?_,⟨_,by rw[af (Z9 nPf),af (Z9 nPc),ad],?_,.inr ⟨c',?_,by rw[af hcf,ad]⟩⟩,ad,by rw[af hcf,ad],nPf,nPc⟩
  ·rw[af (am e f0),af (am e c0),af hb];exact e
  ·rw[Array.toList_append];exact jN _ t3
  ·rw[Array.toList_append];exact codeAmong_snoc _ t3 hno
 ·refine .inl ⟨c',hy,hc',fun f ct f0=>h _ _ ?_⟩;have nPf:f≠P:=fun z=>by rw[z,tP]at f0;cases f0
  have nPc:c'≠P:=fun z=>by rw[z,tP]at hc';cases hc'
  exact⟨c',ct,fun b o e hb=>by rw[af (am e f0)];exact e,⟨ps,by rw[af (Z9 nPf)];exact tP,t3,.inr ⟨c',hy,by rw[af (am hc' f0)];exact hc'⟩⟩,ad,by rw[af (am hc' f0)];exact hc',nPf,nPc⟩
end
open PySem PySem.Spec PyProof.Rows PySem.W
open PySem PyProof.Rows PySem.W
open PySem PyProof.Rows PySem.W
section
variable{prog:Program}{w:World}{A:Around}{E:Value->Shared->Prop}{s:Shared}{κ:SortKind}{it:Array Keyed}{lt:Nat->Nat->Bool}{N:Nat}{st:SortSt}
def Zc(prog:Program)(w:World)(A:Around)(s:Shared)(κ:SortKind)(it:Array Keyed)(lt:Nat->Nat->Bool)(N:Nat):Prop :=
 ∀i j (C:Bool->Shared->Prop),i<N->j<N->C (lt i j) s->kas_cmp prog w A κ it i j C s
end
open PySem PyProof.Rows PySem.W
section
variable{lt:Nat->Nat->Bool}
theorem jR(p:Array Nat)(k:Nat):gA p k=p.toList.getD k 0:=by unfold gA;rw[ZJ,Zw,Array.getElem?_toList]
structure MF(lt:Nat->Nat->Bool)(N:Nat)(a b:Array Nat):Prop where
 sa:∀i j,i<j->j<a.size->Lx lt (gA a i) (gA a j)
 sb:∀i j,i<j->j<b.size->Lx lt (gA b i) (gA b j)
 cr:∀i j,i<a.size->j<b.size->lt (gA b j) (gA a i)=false->Lx lt (gA a i) (gA b j)
 na:∀i,i<a.size->gA a i<N
 nb:∀i,i<b.size->gA b i<N
 a0:0<a.size
 b0:0<b.size
 fst:lt (gA b 0) (gA a 0)=true
 lst:∀j,j<b.size->lt (gA b j) (gA a (a.size-1))=true
variable{N:Nat}{a b:Array Nat}{f:Nat->Keyed}
end
open PySem PyProof.Rows PySem.W
open PySem PyProof.Rows PySem.W
open PySem PyProof.Rows PySem.W
open PySem PyProof.Rows PySem.W
section
variable{prog:Program}{w:World}{A:Around}{E:Value->Shared->Prop}{s:Shared}{κ:SortKind}{it:Array Keyed}{lt:Nat->Nat->Bool}{N:Nat}{st:SortSt}{pre u:Array Nat}
structure Zp(prog:Program)(w:World)(A:Around)(s:Shared)(κ:SortKind)(it:Array Keyed)(lt:Nat->Nat->Bool)(N:Nat)(st:SortSt)(pre:Array Nat)(n:Nat):Prop where
 Z:Zc prog w A s κ it lt N
 hk:kindOf st=κ
 hN:pre.size+n=N
 n0:0<n
end
open PySem PyProof.Rows PySem.W
section
variable{lt:Nat->Nat->Bool}(O:LtOk lt){N:Nat}
include O
end
open PySem PyProof.Rows PySem.W
section
variable{lt:Nat->Nat->Bool}
def Bm(lt:Nat->Nat->Bool):Nat->List (List Nat)->List (Nat×Nat×Nat)->Prop
 |_,[],[]=>True
 |b,r::rs,t::ts=>t.1=b/\t.2.1=r.length/\0<r.length/\r.Pairwise (Lx lt)/\r.Perm (List.range' b r.length)/\Bm lt (b+r.length) rs ts
 |_,_,_=>False
variable{prog:Program}{w:World}{A:Around}{E:Value->Shared->Prop}{s:Shared}{κ:SortKind}{it:Array Keyed}{N:Nat}{st:SortSt}
structure RI(κ:SortKind)(it:Array Keyed)(lt:Nat->Nat->Bool)(N lo:Nat)(T:List Nat)(p:Array Nat)(rs:List (List Nat))(st:SortSt):Prop where
 hk:kindOf st=κ
 hf:failedOf st=none
 ha:arrOf st=p.map (kas_item it)
 hp:p.toList=rs.flatten++T
 pm:p.toList.Perm (List.range N)
 rl:Bm lt 0 rs (pendingOf st).toList
 hl:rs.flatten.length=lo
end
open PySem PyProof.Rows PySem.W
open PySem PySem.Spec PyProof.Rows PySem.W
theorem eJ{n:Nat}(h:n<=4096):n<=sizeLine:=by rw[sizeLine_eq];omega
section
variable{prog:Program}{w:World}{A:Around}{E:Value->Shared->Prop}{s:Shared}{h₀:Heap}{L a kS:Addr}{m:Str->Option Value}{news:List (Addr×Obj)}{vs ks:List Value}
theorem mY{Q:List Value->Shared->Prop}{r:Addr}{lo hi:Int}{t u v:Tok}{n:Nat}(hh:A.handled=none)(hr:IsRange s.heap r lo hi 1 t u v)(hsmall:Builtin.Range.small lo hi 1=true)(hn:Builtin.Range.rangeSize lo hi 1=n)(hlen:n<=2^24)(h:∀h' tk acc,(∀b o,s.heap.get? b=some o->h'.get? b=some o)->ItemsOf (fun i v=>∃t,v=.int (lo+i*1) t) acc n->Q acc.toList { s with heap:=h',toks:=tk }):wpAny (model prog w) A (collect (.ref r)) Q E s:=by
 unfold collect;refine z0 (wpAny_runValue (codeAny_builtin F.entry_proto_collect ?_));rw[Around.under_plainId F.plain_proto_collect _];show wpAny _ A.in1 (newList [] >>= fun q=>again (.builtin "list.__iadd__" ⟨[q,.ref r],[]⟩)) _ _ s;refine z0 (ZB (z9 ⟨plainId_quiet F.plain_list_iadd _,codeAny_builtin F.entry_list_iadd ?_⟩));rw[Around.under_plainId F.plain_list_iadd _];show wpAny _ A.in1 (Builtin.List.listExtendWith (.ref s.heap.objs.size) (.ref r) (.ref s.heap.objs.size)) _ _ _;refine wpAny_extend_range (A:=A) (R:=fun r s'=>match r with
  | .ok (.ret v)=>wpAny (model prog w) A (match v with
   |.ref a=>do
    let o ←load a
    match o.data with
    |.seq xs _=>pure xs.toList
    |_=>unsupported "internal:collect"
   | _=>unsupported "internal:collect") Q E s'
  |.ok _=>False
  | .error e=>E e s') (s:={ s with heap:=s.heap.push { cls:=.type "list",data:=.seq ([]:List Value).toArray } }) hh (z6 _ hr) hsmall hn hlen s.heap.objs.size _ 0 (Zg _ rfl) fun h' tk acc c hk hS hacc=>?_
 show wpAny _ A (load s.heap.objs.size >>= _) _ _ _;refine z0 (wpAny_load hS (z9 ?_));exact h h' tk acc (fun b o e=>hk b o (Zn (Zi e)) (z6 _ e)) hacc
def ZGo(prog:Program)(w:World)(A:Around)(b:Bool)(ks vs:List Value)(F:List Value->Shared->Prop)(κ:SortKind)(s:Shared):Prop :=
 ∃lt:Nat->Nat->Bool,LtOk lt/\(∀i j (C:Bool->Shared->Prop),i<vs.length->j<vs.length->C (lt i j) s->kas_ask prog w A κ (katRev b ks) i j C s) /\
  ∀p:Array Nat,POk vs.length p->LS lt p vs.length->F (katRev b (p.toList.map fun i=>(katRev b vs).getD i Value.none)) s
def uT(prog:Program)(w:World)(A:Around)(b:Bool)(ks vs:List Value)(F:List Value->Shared->Prop)(s:Shared):Prop :=
 (2<=vs.length->wpAny (model prog w) A (keyKind' (List.toArray ks)) (ZGo prog w A b ks vs F) (fun _ _=>False) s)/\(vs.length<2->F (katRev b ((List.range vs.length).map fun i=>(katRev b vs).getD i Value.none)) s)
theorem uI{b:Bool}{st:SortSt}{e e1:Nat}{out:List Value}{P:PySem.Fin->Shared->Prop}(ho:(arrOf st).map (·.2)=List.toArray out)(hz:out.length<=4096)(hq:ks.length<=4096)(hf:failedOf st=none)(h:KatFin h₀ L m kS a ks e e1 (katRev b out) (fun s'=>P (.done (.ret .none)) s') s):wpAny (model prog w) A (ksk_tail a b e1 (.ref kS) st) P E s:=by
 obtain⟨nw,g,Fq,Nq,Uq,kq⟩:=h;obtain⟨l1,l2,e0,hg,x1,x2⟩:=Uq.split;rw[e0]at Nq;have ak:=Nq (kS,seqObj "list" (List.toArray ks) e) (Zq _ (.head _));have s1:=ZG s.heap kS (Obj.mapSeq fun _=>(#[]:Array Value));obtain⟨ck,hck⟩:∃z,(s.heap.update kS (Obj.mapSeq fun _=>(#[]:Array Value))).get? kS=some (seqObj "list" #[] z):=⟨_,get?_update_seq ak.1 fun _=>#[]⟩
 have K2:=kq _ ck (kas_fr Fq s1 ak.2.1 ak.2.2) (by rw[hg];exact news_set Nq x1 x2 s1 hck);obtain⟨nw2,g2,F2,N2,U2,k2⟩:=K2;obtain⟨m1,m2,e2,hg2,y1,y2⟩:=U2.split;rw[e2]at N2;have aa:=N2 (a,seqObj "list" #[] e1) (Zq _ (.head _));have s2:=ZG (s.heap.update kS (Obj.mapSeq fun _=>(#[]:Array Value))) a (Obj.mapSeq fun _=>List.toArray (katRev b out));have hsz:(List.toArray (katRev b out)).size=out.length:=by rw[Ze,kat_len]
 obtain⟨c2,hc2⟩:∃z,((s.heap.update kS (Obj.mapSeq fun _=>(#[]:Array Value))).update a (Obj.mapSeq fun _=>List.toArray (katRev b out))).get? a=some (seqObj "list" (List.toArray (katRev b out)) z):=⟨_,get?_update_seq aa.1 fun _=>List.toArray (katRev b out)⟩
 unfold ksk_tail;dsimp only;rw[ho,kat_outs];refine z0 (listUpdate_at ak.1 rfl (z0 (wpAny_letGo (z0 (seqEpoch_at aa.1 rfl (z0 (listUpdate_at aa.1 rfl ?_ (ZV _) (Zy (Nat.le_of_eq hsz) (Nat.le_succ_of_le (eJ hz))))))))) (by rw[Ze];exact eJ hq) (ZV _));rw[hf];simp only[bne_self_eq_false,Yn,YB];refine z9 (k2 _ c2 (kas_fr F2 s2 aa.2.1 aa.2.2) ?_);rw[hg2];exact news_set N2 y1 y2 s2 hc2
theorem uH{f:Value}{Fin:List Value->Nat->Shared->Prop}{n:Nat}{body:Value->PUnit->Sem (ForInStep PUnit)}(hn:n<=4096)(hb:∀ x ks e (s:Shared) (C:Value->Nat->Shared->Prop),List.length ks<4096->wpAny (model prog w) A (call f [x]) (KatBack h₀ L m kS ks e C) (fun _ _=>False) s ->
   wpAny (model prog w) A (body x ⟨⟩) (fun r s'=>r=.yield ⟨⟩/\∃ k c,s'.heap.get? kS=some (seqObj "list" (List.toArray (ks++[k])) c)/\C k c s') E s):∀ (r qs:List Value) (e:Nat) (s:Shared),qs.length+r.length=n ->
   s.heap.get? kS=some (seqObj "list" (List.toArray qs) e)->KatKeys prog w A h₀ L m kS f Fin r qs e s ->
   wpAny (model prog w) A (forIn r PUnit.unit body) (fun _ s'=>∃qs e,s'.heap.get? kS=some (seqObj "list" (List.toArray qs) e)/\qs.length=n/\Fin qs e s') E s
 | [],qs,e,s,hl,hq,h=>by rw[List.forIn_nil];exact z9 ⟨qs,e,hq,by simpa using hl,h⟩
 |x::r,qs,e,s,hl,hq,h=>by rw[Zl]at hl;rw[List.forIn_cons];refine z0 (ZK (hb x qs e s (fun k c s'=>KatKeys prog w A h₀ L m kS f Fin r (qs++[k]) c s') (by omega) h) (fun z s' hz=>?_) fun _ _ x=>x);obtain⟨rfl,k,c,hk',h2⟩:=hz;exact uH hn hb r (qs++[k]) c s' (by rw[Zs,ZE];omega) hk' h2
end
open PySem PySem.Spec PyProof.Rows PySem.W
def Dw:List Int->List Int->List Int
 | [],ns=>0::ns
 |p::ps,ns=>1::p::Dw ps ns
inductive ZKey where
 |i (n:Int)|t (ns:List Int)|p (ps ns:List Int)
def ZKey.nums:ZKey->List Int
 |.i n=>[n]
 |.t ns=>ns
 |.p ps ns=>Dw ps ns
def ZKey.at(H:Hp):ZKey->V->Prop
 |.i n,v=>v=.int n
 |.t ns,v=>∃a,v=.ref a/\H a=some (.tup (ns.map V.int))
 |.p ps ns,v=>∃a b c,v=.ref a/\H a=some (.tup [.ref b,.ref c])/\H b=some (.tup (ps.map V.int))/\H c=some (.tup (ns.map V.int))
theorem ZKey.at.same{H H':Hp}(sm:Same H H'):∀{k:ZKey} {v:V},k.at H v->k.at H' v
 |.i _,_,h=>h
 |.t _,_,⟨a,e,h⟩=>⟨a,e,sm _ _ h⟩
 |.p _ _,_,⟨a,b,c,e,h1,h2,h3⟩=>⟨a,b,c,e,sm _ _ h1,sm _ _ h2,sm _ _ h3⟩
section
variable{X:Cx}{pins:List (Addr×Obj)}{σ:St}{H:Hp}{s:Shared}{h':Heap}
def zG(X:Cx)(s:Shared)(l:Addr)(xs:List V):Prop:=∀Q:List Value->Shared->Prop,(∀h' tk its,(∀b o,s.heap.get? b=some o->h'.get? b=some o)->Vals xs its->Q its { s with heap:=h',toks:=tk })->wpAny (model X.prog X.w) X.A.in1 (collect (.ref l)) Q X.xe s
theorem yT{l:Addr}{xs:List V}(I:Inv X pins σ H s)(hH:H l=some (.lst xs))(hz:xs.length<=4096):zG X s l xs:=fun Q h=>by obtain⟨z,its,n,rv,hlen,e⟩:=I.lstM hH;have li:its.length=xs.length:=hlen.symm;refine collect_list ⟨_,e,rfl,n,rfl⟩ (h _ s.toks its (fun b o g=>?_) rv) (eJ (by omega));rw[Heap.get?_update_ne _ _ _ _ (Zn (Zi g))];exact z6 _ g
structure SGZ(X:Cx)(pins:List (Addr×Obj))(σ:St)(H1:Hp)(m:Str->Option Value)(kS D:Addr)(e1:Nat)(ks:List ZKey)(as:List V)(us:List Value)(e:Nat)(H:Hp)(s:Shared):Prop where
 I:Inv X pins σ H s
 sm:Same H1 H
 fk:bH X pins H kS
 fd:bH X pins H D
 bk:X.base.get? kS=none
 bd:X.base.get? D=none
 hk:s.heap.get? kS=some (seqObj "list" (List.toArray us) e)
 hd:s.heap.get? D=some (seqObj "list" #[] e1)
 ns:s.heap.Ns X.env.locals m
 vals:Vals as us
 keys:∀(i:Nat) (a:V) (k:ZKey),as[i]?=some a->ks[i]?=some k->k.at H a
theorem SGZ.fr{H1:Hp}{m:Str->Option Value}{kS D:Addr}{e1:Nat}{ks:List ZKey}{as:List V}{us:List Value}{e:Nat}(S:SGZ X pins σ H1 m kS D e1 ks as us e H s):Fr X.base X.env.locals s.heap m:=⟨S.ns,S.I.bk,Zy S.I.ok.bsz S.I.ok.above⟩
theorem mE{H1:Hp}{m:Str->Option Value}{kS D:Addr}{e1:Nat}{ks:List ZKey}{xs:List V}{its:List Value}{f:Addr}{sp:Sp}{Fin:List Value->Nat->Shared->Prop}(hne:kS≠D)(rv:Vals xs its)(hl:ks.length=xs.length)(F:uR X pins σ f sp)(spec:∀(i:Nat) (v:V) (key:ZKey) (H':Hp),xs[i]?=some v->ks[i]?=some key->Same H1 H'->∀R:VK,(∀kv H'',Same H' H''->key.at H'' kv->R kv H'')->sp [v] H' R E0)(fin:∀(as:List V) (us:List Value) (e:Nat) (H:Hp) (s:Shared),SGZ X pins σ H1 m kS D e1 ks as us e H s->as.length=xs.length->Fin us e s) :
  ∀(r:List Value) (as:List V) (us:List Value) (e:Nat) (H:Hp) (s:Shared),SGZ X pins σ H1 m kS D e1 ks as us e H s->its=its.take as.length++r->as.length+r.length=xs.length ->
   KatKeys X.prog X.w X.A.in1.in1 X.base X.env.locals m kS (.ref f) Fin r us e s
 | [],as,us,e,H,s,S,_,hlen=>KatKeys.nil (fin as us e H s S (by simpa using hlen))
 |u::r,as,us,e,H,s,S,hits,hlen=>by
  have hi:as.length<xs.length:=by rw[Zl]at hlen;omega
  have hx:xs[as.length]?=some xs[as.length]:=Zd hi;obtain⟨u',gu,ru⟩:=rv.get hx;have hlt:as.length<its.length:=by rw[<-rv.length];exact hi
  have gu':its[as.length]?=some u:=by rw[hits,y0 (by rw[ZX];omega),ZX,Nat.min_eq_left (by omega),Nat.sub_self];rfl
  rw[gu']at gu;cases gu;have hkey:ks[as.length]?=some (ks[as.length]'(by omega)):=Zd (by omega);generalize ks[as.length]'(by omega)=key at hkey;refine KatKeys.cons (wpAny_call (YL (F s H u xs[as.length] (fun v H''=>Same H H''/\key.at H'' v) S.I ru (spec _ _ _ H hx hkey S.sm _ fun kv H'' s' q=>⟨s',q⟩)) fun res s' hq=>?_));cases res with
  |error e=>exact hq
  |ok fl =>
   cases fl with
   |next=>exact False.elim hq
   |brk=>exact False.elim hq
   |cont=>exact False.elim hq
   |ret uv =>
    obtain⟨v,H'',os,bare,un,hok,rvv,sm,ea⟩:=hq;obtain⟨hh,g,d,t,os'⟩:=s';obtain rfl:os'=s.os:=os;have I2:Inv X pins σ H'' { s with heap:=hh,gens:=g,drawn:=d,toks:=t }:=S.I.call (h':=hh) (g':=g) (d':=d) (t':=t) (ch:=[]) un hok bare (fun b z=>absurd z (by simp));have nstk:∀{b:Addr},bH X pins H b->b∉frs X.stack:=fun{b} fo z=>(Zj.mp (S.I.stkSub b z)).elim fo.2.1 fo.2.2.1;have hk2:hh.get? kS=some (seqObj "list" (List.toArray us) e):=un.keep kS _ S.hk S.fk.1 (nstk S.fk) (by simp);have hd2:hh.get? D=some (seqObj "list" #[] e1):=un.keep D _ S.hd S.fd.1 (nstk S.fd) (by simp);have ns2:hh.Ns X.env.locals m:=by obtain⟨o,es,ep,ho,rr⟩:=id S.ns;obtain⟨sl,hL⟩:=un.any ho S.I.free (by simp);exact⟨_,es,ep,hL,rr⟩
    have fk2:bH X pins H'' kS:=⟨un.free kS _ S.hk S.fk.1 (by simp),S.fk.2⟩
    have fd2:bH X pins H'' D:=⟨un.free D _ S.hd S.fd.1 (by simp),S.fd.2⟩
    have hkL:kS≠X.env.locals:=S.fk.2.1;refine KatBack.intro (news:=(kS,seqObj "list" (List.toArray us) e)::fV X.base hh X.env.locals kS) ⟨ns2,I2.bk,Zy S.I.ok.bsz S.I.ok.above⟩ (gj hk2 hkL S.bk) (.head iS) fun h3 c F3 N3=>?_;have mv:=gi (fun b o q=>I2.bk b o q) F3 N3;have I3:Inv X pins σ H'' { s with heap:=h3,gens:=g,drawn:=d,toks:=t }:=Inv.movedF (ch:=[kS]) (t':=t) I2 (fun b hb=>by rw[Zf.mp hb];exact fk2) mv ⟨m,ns2,F3.ns⟩;refine mE hne rv hl F spec fin r (as++[v]) (us++[uv]) c H'' _ ⟨I3,S.sm.trans sm,fk2,fd2,S.bk,S.bd,(N3 _ (.head _)).1,mv D _ S.fd.2.1 (fun z=>hne (Zf.mp z).symm) hd2,F3.ns,S.vals.append (.cons rvv .nil),fun i b key' h1 h2=>?_⟩ ?_ ?_
    ·by_cases hi2:i<as.length
     ·rw[Yl hi2]at h1;exact(S.keys i b key' h1 h2).same sm
     ·have hi3:=(Zv.mp h1).1;rw[Zs,ZE]at hi3;have e3:i=as.length:=by omega
      subst e3;rw[y0 (Zb _),Nat.sub_self]at h1;cases h1;rw[hkey]at h2;cases h2;exact ea
    ·rw[Zs,ZE,List.take_add_one,gu',Option.toList_some,List.append_assoc];exact hits
    ·rw[Zs,ZE,<-hlen,Zl];omega
end
open PySem PySem.Spec PyProof.Rows PySem.W
def Gw(j:Int)(t u v:Tok):Obj:={ cls:=.type "range",data:=.fields #[.int 0 t,.int j u,.int 1 v] }
def SrcH(H:Hp)(l:Addr)(xs:List V):Prop:=H l=some (.lst xs)\/∃(n:Nat) (t u v:Tok),n<=4096/\H l=some (eM l (Gw (n:Int) t u v))/\xs=(List.range n).map fun i:Nat=>V.int (i:Int)
section
variable{X:Cx}{pins:List (Addr×Obj)}{σ:St}{H:Hp}{s:Shared}
theorem CZ{l:Addr}{xs:List V}(hc:X.calm=true)(I:Inv X pins σ H s)(h:SrcH H l xs)(hz:xs.length<=4096):zG X s l xs:=by
 rcases h with h|⟨n,t,u,v,hn,h,rfl⟩
 ·exact yT I h hz
 ·intro Q hq;have hr:IsRange s.heap l 0 (n:Int) 1 t u v:=(I.hok l _ h).1;have hh:X.A.in1.handled=none:=I.ok.hd hc;have h1:Builtin.Range.rangeSize 0 (n:Int) 1=((n:Nat):Int):=by rw[rangeSize_one];split<;>omega
  refine mY hh hr (small_one (by omega) (by omega) (by omega) (by omega)) h1 (by omega) fun h' tk acc kp hI=>hq h' tk acc.toList kp ?_;have go:∀(its:List Value) (k:Nat),(∀(i:Nat) (v:Value),its[i]?=some v->∃t,v=.int ((k+i:Nat):Int) t)->Vals ((List.range' k its.length).map fun i:Nat=>V.int (i:Int)) its:=by
   intro its;induction its with
   |nil=>intro k _;exact .nil
   |cons x its ih =>
    intro k hx;obtain⟨t,rfl⟩:=hx 0 x rfl;rw[Zl,List.range'_succ,ZH];refine .cons ⟨t,?_⟩ (ih (k+1) fun i v hv=>?_)
    ·rfl
    ·obtain⟨t,e⟩:=hx (i+1) v hv;exact⟨t,by rw[e];congr 2;omega⟩
  have e:=go acc.toList 0 fun i v hv=>by obtain⟨t,e⟩:=hI.2 i v (by rw[<-hv,Array.getElem?_toList]);refine⟨t,by rw[e];congr 1;omega⟩
  rw[Zm,hI.1]at e;rw[List.range_eq_range'];exact e
end
theorem SrcH.moved{P:Addr}{q:Str}{lpos:Pos}{H H2:Hp}{l:Addr}{xs:List V}(h:SrcH H l xs)(tab:bh q P lpos H)(s:SameT P H H2):SrcH H2 l xs:=by
 obtain⟨ps,tP,_⟩:=tab;rcases h with h|⟨n,t,u,v,hn,h,e⟩
 ·exact .inl (s _ _ h fun z=>by rw[z,tP]at h;cases h)
 ·have hne:l≠P:=fun z=>by rw[z,tP]at h;cases h
  exact .inr ⟨n,t,u,v,hn,s _ _ h hne,e⟩
open PySem PySem.Spec PyProof.Rows PySem.W
section
variable{prog:Program}{w:World}{A:Around}{E:Value->Shared->Prop}{s:Shared}{d it v:Addr}{es:Array DictEntry}{ep i:Nat}
theorem yC{Q:Value->Shared->Prop}(hv:s.heap.IsValuesView v d)(hm:DRaw s.heap d es ep)(hQ:Q (.ref s.heap.objs.size) { s with heap:=s.heap.push { cls:=.type "dict_valueiterator",data:=.fields #[.ref d,.int 0 0,.int es.size 0,.int ep 0] } }):wpAny (model prog w) A (pyIter (.ref v)) Q E s:=by
 obtain⟨ov,e1,e2,e3⟩:=id hv;obtain⟨o,f1,f2,f3⟩:=id hm;refine wpAny_pyIter_slot hv.typeIs PySem.F.slot_dict_values_iter (ZM PySem.F.slot_dict_values_iter hv.typeIs PySem.F.entry_dict_values_iter ?_ (PySem.F.args_dict_values_iter_1 _));unfold Builtin.«dict_values.__iter__»;refine z0 (z9 (z0 ?_));unfold Builtin.Dict_items.dictOf;refine z0 (ZQ e1 e3 (x:=.ref d) rfl (z9 (z0 ?_)));unfold Builtin.Dict_items.newIterator;refine z0 (YD f1 f3 (z0 (wpAny_dictEpoch f1 f3 ?_)));have own:Builtin.Dict_items.ownsTuple "dict_valueiterator" = false:=by decide
 simp only[own,Yn,YB];refine ZB (z9 ⟨_,rfl,"dict_valueiterator",_,⟨_,Zg _ rfl,rfl⟩,y8.lookup,?_⟩);simpa[rawInt]using hQ
theorem yB{Q:Option Value->Shared->Prop}(hit:s.heap.IsValIter it d i es.size ep)(hm:DRaw s.heap d es ep)(hx:i<es.size)(hQ:∀h',h'.IsValIter it d (i+1) es.size ep->Heap.SameBut it s.heap h'->Q (some es[i].val) { s with heap:=h' }):wpAny (model prog w) A (pyNext (.ref it)) Q E s:=by
 obtain⟨o,ho,hc,hd⟩:=id hit;obtain⟨od,hod,hcd,hdd⟩:=id hm;unfold pyNext;refine z0 (wpAny_attempt (ZI (name:=Str.ofString "__next__") hit.typeIs y8
  (ZM y8 hit.typeIs PySem.F.entry_dict_valueiterator_next ?_ (PySem.F.args_dict_valueiterator_next_1 _))))
 refine z0 (z9 ?_);refine z0 ?_;refine z0 ?_
 first|refine z0 (YG hit.typeIs (z9 ?_))|refine z0 (wpAny_typeNameOf_valiter hit.typeIs (z9 ?_))
 refine z0 (wpAny_fieldsOf ho hd ?_);have hown:Builtin.Dict_items.ownsTuple "dict_valueiterator" = false:=by decide
 simp only[hown,Yn,YB];show wpAny _ _ (if(Value.ref d==Value.none)=true then _ else _) _ _ s;rw[HU (show¬((Value.ref d==Value.none)=true)from Zh)];refine z0 (z9 ?_);refine z0 (YD hod hdd ?_);rw[HU (by simp)];refine z0 (z9 ?_);refine z0 (wpAny_dictEpoch hod hdd ?_);rw[HU (by simp)];refine z9 ?_;simp only[show¬((i:Int)<0)from by omega,YB,Zr,Array.getElem?_eq_getElem hx];refine z0 ?_
 first|refine z0 (YG hit.typeIs (z9 ?_))|refine z0 (wpAny_typeNameOf_valiter hit.typeIs (z9 ?_))
 refine z0 (wpAny_isOneOf_valiter hit.typeIs ?_);show wpAny _ _ (setField (.ref it) 1 (rawInt ((i:Int)+1)) >>= _) _ _ s;refine z0 (Yj ho hd (by simp) ?_);have hit':(s.heap.update it (Obj.mapFields (·.setIfInBounds 1 (rawInt ((i:Int)+1))))).IsValIter it d (i+1) es.size ep :=
  ⟨_,Z0 _ ho (Yy (Z3 hd _)),(Obj.cls_mapFields ..).trans hc,by rw[Z3 hd];simp[rawInt]⟩
 refine z0 (ZT ?_);refine z0 (wpAny_isOneOf_valiter (s:={ s with heap:=s.heap.update it (Obj.mapFields (·.setIfInBounds 1 (rawInt ((i:Int)+1)))) }) hit'.typeIs ?_);refine z0 (wpAny_isOneOf_valiter (s:={ s with heap:=s.heap.update it (Obj.mapFields (·.setIfInBounds 1 (rawInt ((i:Int)+1)))) }) hit'.typeIs ?_);show wpAny _ _ (pure es[i].val) _ _ _;exact z9 (z9 ⟨_,rfl,z9 (hQ _ hit' (ZG ..))⟩)
theorem AX{Q:Option Value->Shared->Prop}(hh:A.handled=none)(hit:s.heap.IsValIter it d es.size es.size ep)(hm:DRaw s.heap d es ep)(hQ:∀h',Heap.ExtBut it s.heap h'->Q none { s with heap:=h' }) :
  wpAny (model prog w) A (pyNext (.ref it)) Q E s:=by
 obtain⟨o,ho,hc,hd⟩:=id hit;obtain⟨od,hod,hcd,hdd⟩:=id hm;unfold pyNext;refine z0 (wpAny_attempt (ZI (name:=Str.ofString "__next__") hit.typeIs y8
  (ZM y8 hit.typeIs PySem.F.entry_dict_valueiterator_next ?_ (PySem.F.args_dict_valueiterator_next_1 _))))
 refine z0 (z9 ?_);refine z0 ?_;refine z0 ?_
 first|refine z0 (YG hit.typeIs (z9 ?_))|refine z0 (wpAny_typeNameOf_valiter hit.typeIs (z9 ?_))
 refine z0 (wpAny_fieldsOf ho hd ?_);have hown:Builtin.Dict_items.ownsTuple "dict_valueiterator" = false:=by decide
 simp only[hown,Yn,YB];show wpAny _ _ (if(Value.ref d==Value.none)=true then _ else _) _ _ s;rw[HU (show¬((Value.ref d==Value.none)=true)from Zh)];refine z0 (z9 ?_);refine z0 (YD hod hdd ?_);rw[HU (by simp)];refine z0 (z9 ?_);refine z0 (wpAny_dictEpoch hod hdd ?_);rw[HU (by simp)];refine z9 ?_;simp only[show¬((es.size:Int)<0)from by omega,YB,Zr,Array.getElem?_eq_none (Zb _)];refine z0 ?_
 first|refine z0 (YG hit.typeIs (z9 ?_))|refine z0 (wpAny_typeNameOf_valiter hit.typeIs (z9 ?_))
 show wpAny _ _ (setField (.ref it) 0 .none >>= _) _ _ s;refine z0 (Yj ho hd (by simp) ?_);show wpAny _ _ (newExc (.type "StopIteration") [] >>= _) _ _ _;refine z0 ?_;simp only[newExc,newTuple];refine z0 (ZB ?_ (by size_fits));refine z0 (m:=firstArgMember _ _) (wpAny_of_eq (a:=Value.none) (by first|rfl|(simp only[firstArgMember];rfl)) ?_);refine ZB ?_ (by size_fits);simp only[raiseNew];refine z0 (wpAny_handled ?_);rw[show A.in1.handled=none from hh];refine z0 (z9 (wpAny_throw ?_));refine z0 (wpAny_isInstance (T:="StopIteration") (b:=true) ⟨_,Zg _ rfl,rfl⟩ isSubtype_stop ?_);exact z9 (hQ _ (((ZG ..).extBut.push _).push _))
theorem vZ(hh:A.handled=none)(I d:Addr)(hne:d≠I)(es:Array DictEntry)(ep:Nat) :
  Walks prog w A I [I,d] [I] es.size (fun i v=>∃e,es[i]?=some e/\v=e.val) (fun i h=>h.IsValIter I d i es.size ep/\DRaw h d es ep) where
 sub:=fun b hb=>by simp at hb;simp[hb]
 frame:=fun _ _ _ st hk=>⟨let⟨o,ho,r⟩:=st.1;⟨o,hk I (by simp) o ho,r⟩,st.2.at' fun o e=>hk d (by simp) o e⟩
 item:=fun i s Q E hi st hQ=>yB st.1 st.2 hi fun h' hit' hs'=>hQ _ h' s.toks ⟨es[i],by simp[hi],rfl⟩ ⟨hit',st.2.at' fun o e=>hs'.extBut d o hne e⟩ fun b o hb e=>hs'.extBut b o (fun h=>hb (by simp[h])) e
 done:=fun s Q E st hQ=>AX hh st.1 st.2 fun h' he'=>hQ h' s.toks fun b o hb e=>he' b o (fun h=>hb (by simp[h])) e
 self:=fun _ _ _ _ st hQ=>wpAny_pyIter_valiter st.1 hQ
theorem AY:KdlSrc prog w "dict_values" v d es.size (fun i v=>∃e,es[i]?=some e/\v=e.val) (fun h=>h.IsValuesView v d/\DRaw h d es ep) where
 type:=fun _ hm=>hm.1.typeIs
 there:=fun _ hm=>⟨let⟨_,ho,_⟩:=hm.1;Zi ho,hm.2.lt⟩
 keep:=fun _ _ hm hk=>⟨let⟨o,ho,x⟩:=hm.1;⟨o,hk v (.inl rfl) o ho,x⟩,hm.2.at' fun o e=>hk d (.inr rfl) o e⟩
 notList:=by decide
 notTuple:=by decide
 hint:=fun _ _ _ _ hm hq=>kdl_hint_values hm.1.typeIs hq
 iter:=fun _ _ hh hm=>⟨_,_,(fun _ _ hq=>yC hm.1 hm.2 hq),vZ hh _ d (Zn hm.2.lt) es ep,⟨⟨_,Zg _ rfl,rfl,rfl⟩,hm.2.at' fun o e=>z6 _ e⟩⟩
end
open PySem PySem.Spec PyProof.Rows PySem.W
section
variable{prog:Program}{w:World}{A:Around}{E:Value->Shared->Prop}{s:Shared}
theorem md{it l:Addr}{i:Nat}{items:Array Value}{x:Value}{Q:Value->Shared->Prop}(hit:s.heap.IsTupleIter it l i)(hl:s.heap.IsTuple l items)(hx:items[i]?=some x)(hQ:∀h',h'.IsTupleIter it l (i+1)->Heap.SameBut it s.heap h'->Q x { s with heap:=h' }):wpAny (model prog w) A (Builtin.SmallTypes.nextOf (.ref it)) Q E s:=by obtain⟨o,ho,hc,hd⟩:=id hit;obtain⟨ol,g1,_,nl,g2⟩:=hl;unfold Builtin.SmallTypes.nextOf;refine z0 (ZI (name:=Str.ofString "__next__") hit.typeIs Yw (ZM Yw hit.typeIs PySem.F.entry_tuple_iterator_next ?_ (PySem.F.args_tuple_iterator_next_1 _)));show wpAny _ _ (field (.ref it) 0 >>= _) _ _ s;refine z0 (ZQ ho hd (x:=.ref l) rfl ?_);show wpAny _ _ (if(Value.ref l==Value.none)=true then _ else _) _ _ s;rw[HU (show¬((Value.ref l==Value.none)=true)from Zh)];show wpAny _ _ (field (.ref it) 1 >>= _) _ _ s;refine z0 (ZQ ho hd (x:=.int i 0) rfl ?_);show wpAny _ _ (seqItems? (.ref l) >>= _) _ _ s;refine z0 (Yd g1 g2 ?_);simp only[Zr,hx];refine z0 (Yj ho hd (by simp) (z9 ⟨x,rfl,z9 (hQ _ ⟨_,Z0 _ ho (Yy (Z3 hd _)),(Obj.cls_mapFields ..).trans hc,by rw[Z3 hd];simp[rawInt]⟩ (ZG ..))⟩))
theorem nC{it l:Addr}{i:Nat}{items:Array Value}{Q:Value->Shared->Prop}(hh:A.handled=none)(hit:s.heap.IsTupleIter it l i)(hl:s.heap.IsTuple l items)(hx:items[i]?=none)(hE:∀h' e,Heap.ExtBut it s.heap h'->(∃o,h'.get? e=some o/\o.cls=.type "StopIteration")->E (.ref e) { s with heap:=h' }):wpAny (model prog w) A (Builtin.SmallTypes.nextOf (.ref it)) Q E s:=by
 obtain⟨o,ho,hc,hd⟩:=id hit;obtain⟨ol,g1,_,nl,g2⟩:=hl;unfold Builtin.SmallTypes.nextOf;refine z0 (ZI (name:=Str.ofString "__next__") hit.typeIs Yw (ZM Yw hit.typeIs PySem.F.entry_tuple_iterator_next ?_ (PySem.F.args_tuple_iterator_next_1 _)));show wpAny _ _ (field (.ref it) 0 >>= _) _ _ s;refine z0 (ZQ ho hd (x:=.ref l) rfl ?_);show wpAny _ _ (if(Value.ref l==Value.none)=true then _ else _) _ _ s;rw[HU (show¬((Value.ref l==Value.none)=true)from Zh)];show wpAny _ _ (field (.ref it) 1 >>= _) _ _ s;refine z0 (ZQ ho hd (x:=.int i 0) rfl ?_);show wpAny _ _ (seqItems? (.ref l) >>= _) _ _ s;refine z0 (Yd g1 g2 ?_);simp only[Zr,hx];refine z0 (wpAny_rule (z0 (Yj ho hd (by simp) ?_)));show wpAny _ _ (newExc (.type "StopIteration") [] >>= _) _ _ _;refine z0 ?_;simp only[newExc,newTuple];refine z0 (ZB ?_ (by size_fits));refine z0 (m:=firstArgMember _ _) (wpAny_of_eq (a:=Value.none) (by first|rfl|(simp only[firstArgMember];rfl)) ?_);refine ZB ?_ (by size_fits);simp only[raiseNew];refine z0 (wpAny_handled ?_)
 first|rw[show A.in1.handled=none from hh]|rw[hh]
 refine z0 (z9 (wpAny_throw ?_));exact hE _ _ (((ZG ..).extBut.push _).push _) ⟨_,Zg _ rfl,rfl⟩
theorem xp(hh:A.handled=none)(it l:Addr)(hne:l≠it)(items:Array Value):Draws prog w A it [it,l] items.size (fun i v=>items[i]?=some v) (fun i h=>h.IsTupleIter it l i/\h.IsTuple l items) where
 live:=fun _ _ st=>let⟨o,ho,_⟩:=st.1;⟨o,ho⟩
 frame:=fun _ _ _ st hk=>⟨let⟨o,ho,r⟩:=st.1;⟨o,hk it (by simp) o ho,r⟩,let⟨o,ho,r⟩:=st.2;⟨o,hk l (by simp) o ho,r⟩⟩
 item:=fun i s Q E hi st hQ=>md st.1 st.2 (x:=items[i]) (by simp[hi]) fun h' hit' hs'=>hQ _ h' s.toks (by simp[hi]) ⟨hit',st.2.extBut hs'.extBut hne⟩ hs'
 done:=fun s Q E st hE=>nC hh st.1 st.2 (by simp) hE
open PySem.AutoSeq1 (wpAny_loadPart')in
theorem sU(l:Addr)(items:Array Value)(n:Nat)(dct:Option Addr)(sl:Array (Option Value)) :
  Meets (Builtin.«enumerate.__new__» ⟨[.type "enumerate",.ref l],[]⟩) (fun _ R s=>s.heap.get? l=some { cls:=.type "tuple",dict:=dct,data:=.seq items n,slots:=sl } /\
   R (.ok (.ret (.ref (s.heap.push { cls:=.type "tuple_iterator",data:=.fields #[.ref l,.int 0 0] }).objs.size)))
    { s with heap:=(s.heap.push { cls:=.type "tuple_iterator",data:=.fields #[.ref l,.int 0 0] }).push { cls:=.type "enumerate",data:=.fields #[.none,.bool false,.ref s.heap.objs.size,rawInt 0,.none,.none] } }) :=
 .of_wp fun prog w A R s h=>by
  obtain⟨hp,g,d,tk,os⟩:=s;obtain⟨hl,h⟩:=h;have hsub:=sub_enumerate;have hL:Heap.IsTuple (Shared.heap ⟨hp,g,d,tk,os⟩) l items:=⟨_,hl,rfl,n,rfl⟩
  wp_walk using wpAny_loadPart' hl
  refine wpAny_stack_any fun st=>z9 ?_;split
  ·rename_i c _ _ _ _ _;cases(c==Value.type "enumerate")
   ·wp_walk using wpAny_loadPart' hl,YJ hL
    exact⟨_,rfl,h⟩
   ·wp_walk using wpAny_loadPart' hl,YJ hL
    exact⟨_,rfl,h⟩
  ·wp_walk using wpAny_loadPart' hl,YJ hL
   exact⟨_,rfl,h⟩
theorem uY{l:Addr}{items:Array Value}{Q:Value->Shared->Prop}(hL:IsTup s.heap l items)(h:∀h',IsEnum h' (s.heap.objs.size+1) s.heap.objs.size 0 .none->h'.IsTupleIter s.heap.objs.size l 0->h'.objs.size=s.heap.objs.size+2->(∀b o,s.heap.get? b=some o->h'.get? b=some o)->Q (.ref (s.heap.objs.size+1)) { s with heap:=h' }) :
  wpAny (model prog w) A (call (.type "enumerate") [.ref l]) Q E s:=by
 obtain⟨⟨c,dct,dt,sl⟩,hl,hc,n,hd⟩:=hL
 replace hc:c=.type "tuple":=hc
 replace hd:dt=.seq items n:=hd
 subst hc hd;refine callType_new PySem.F.called_enumerate (by decide) (PySem.F.typeCall_enumerate_1 _) (PySem.F.newCall_enumerate_1 _) (fun obj=>PySem.F.args_object_init_2 obj _) PySem.F.entry_enumerate_new (sU l items n dct sl) ⟨hl,?_⟩;have hz:(s.heap.push { cls:=.type "tuple_iterator",data:=.fields #[.ref l,.int 0 0] }).objs.size=s.heap.objs.size+1:=Yx ..;show _/\_;rw[hz];have he:IsEnum ((s.heap.push { cls:=.type "tuple_iterator",data:=.fields #[.ref l,.int 0 0] }).push { cls:=.type "enumerate",data:=.fields #[.none,.bool false,.ref s.heap.objs.size,rawInt 0,.none,.none] }) (s.heap.objs.size+1) s.heap.objs.size 0 .none:=by have:=Zg (s.heap.push { cls:=.type "tuple_iterator",data:=.fields #[.ref l,.int 0 0] }) (o:={ cls:=.type "enumerate",data:=.fields #[.none,.bool false,.ref s.heap.objs.size,rawInt 0,.none,.none] }) rfl;rw[hz]at this;exact this
 refine⟨⟨_,he,rfl⟩,h _ he ⟨_,z6 _ (Zg _ rfl),rfl,rfl⟩ (by rw[Yx,hz]) fun b o x=>z6 _ (z6 _ x)⟩
end
def ItT(K:PySem.W.Frag)(a:Addr)(xs:List V):It :=
 ⟨fun i H=>i<xs.length/\SqT K H a xs,fun i H x H'=>∃T p,H T=none/\xs[i]?=some p/\x=.ref T/\H'=upd H T (.tup [.int i,p]),fun i H=>i=xs.length/\SqT K H a xs⟩
abbrev eTt(e it a:Addr):Nat->Heap->Prop:=fun i h=>(∃old,IsEnum h e it i old)/\h.IsTupleIter it a i
theorem wB{P:Program}{w:World}{K:PySem.W.Frag}{elts:List Expr}{kt:Nat}{tp:Pos}{e it a:Addr}{xs:List V}(ne:e≠it)(ha:e≠a/\it≠a) :
  Turn P w K (.Tuple elts kt tp) (ItT K a xs) [e,it] e (eTt e it a):=by
 refine⟨by simp,fun i h st c hc=>?_,fun i h h' st k=>?_,?_,?_,fun A i s Q E st h=>?_⟩
 ·obtain⟨⟨old,e1⟩,⟨o4,e4,_,d4⟩⟩:=st;simp only[Zj,ZN,Ym]at hc;rcases hc with rfl|rfl
  ·exact⟨_,e1,fun v z=>nomatch z⟩
  ·exact⟨_,e4,fun v z=>by rw[d4]at z;cases z⟩
 ·obtain⟨⟨old,e1⟩,⟨o4,e4,r4⟩⟩:=st;exact⟨⟨old,k e (by simp) _ e1⟩,⟨o4,k it (by simp) _ e4,r4⟩⟩
 ·intro X hP hw hK hc i pins s σ H E I hf st hg;subst hP hw hK;obtain⟨⟨old,e1⟩,e4⟩:=st;obtain⟨hi,hx⟩:=hg;obtain⟨its,rx,px,zx⟩:=I.tuple hx;have lx:i<its.toArray.size:=by rw[Ze,<-rx.length];exact hi
  have hh:=I.ok.hd hc;refine wpAny_pyNext_enum_itemD (xp (A:=X.A.in1) hh it a ha.2.symm its.toArray) e1 ⟨e4,px⟩ lx ne (by simp[ne,ha.1]) fun x h' tk qx ho hs' hT hsz hk=>?_;refine⟨_,rfl,wpAny_letOwnedTupleGo_enum (s:={ s with heap:=h',toks:=tk+1 }) ho fun h2 he2 sb=>?_⟩;obtain⟨xv,ex⟩:∃xv,xs[i]?=some xv:=⟨xs[i],by simp[hi]⟩
  obtain⟨x',gx,rxv⟩:=rx.get ex;have qx':its[i]?=some x:=by simpa using qx
  rw[gx]at qx';cases qx';have lte:e<s.heap.objs.size:=Zi e1;have kp2:∀c o,c∉[e,it]->s.heap.get? c=some o->h2.get? c=some o:=fun c o hc q=>by simp only[Zj,ZN,Ym,not_or]at hc;exact sb.extBut c o hc.1 (hk c o hc.1 hc.2 q)
  have tT:IsTup h2 s.heap.objs.size [.int i tk,x].toArray:=⟨_,sb.extBut _ _ (Z4 lte) hT,rfl,_,rfl⟩
  refine⟨.ref s.heap.objs.size,upd H s.heap.objs.size (.tup [.int i,xv]),I.turnT (t':=tk+1) hf kp2 tT (.cons ⟨tk,rfl⟩ (.cons rxv .nil)) (sz rfl),rfl,⟨_,xv,I.hok.fresh (Zb _),ex,rfl,rfl⟩,?_,fun c hc=>?_⟩
  ·exact⟨⟨_,by simpa using he2⟩,hs'.1.extBut sb.extBut ne.symm⟩
  ·rw[af]
   ·exact(hf c hc).1
   ·obtain⟨o,eo⟩:∃o,s.heap.get? c=some o:=by
     simp only[Zj,ZN,Ym]at hc;rcases hc with rfl|rfl
     ·exact⟨_,e1⟩
     ·obtain⟨o,eo,_⟩:=e4;exact⟨o,eo⟩
    exact Zn (Zi eo)
 ·intro X hP hw hK hc i pins s σ H E I hf st hg;subst hP hw hK;obtain⟨⟨old,e1⟩,e4⟩:=st;obtain⟨rfl,hx⟩:=hg;obtain⟨its,rx,px,zx⟩:=I.tuple hx;have lx:its.toArray.size=xs.length:=by rw[Ze,<-rx.length]
  have hh:=I.ok.hd hc;refine wpAny_pyNext_enum_endD (xp (A:=X.A.in1) hh it a ha.2.symm its.toArray) e1 ⟨by rw[lx];exact e4,px⟩ fun h' kp=>⟨rfl,?_⟩
  exact I.turnM (t':=s.toks) hf fun c ob hc q=>by simp only[Zj,ZN,Ym,not_or]at hc;exact kp c ob hc.2 q
 ·obtain⟨⟨old,e1⟩,_⟩:=st;exact wpAny_pyIter_enum e1 h
def xK(K:PySem.W.Frag)(ta:TA):TI:=fun σ H R=>ta σ H fun vs H1=>∃a xs,vs=[.ref a]/\H1 a=some (.tup xs)/\R (ItT K a xs) H1
section
variable{X:Cx}
theorem AG{e1:Expr}{ta:TA}{p pos tp:Pos}{elts:List Expr}{kt:Nat}(hg:Gl X "enumerate")(hm:X.mg "enumerate" = none)(ha:PA X [e1] ta)(n1:aR e1=true):PI X (.Tuple elts kt tp) (.Call (.Name "enumerate" p) [e1] [] pos) (xK X.K ta):=by
 intro pins s σ H R I h;refine Call_ (eE I hg hm boot_enumerate (Yp (thn (ha pos pins s σ H _ I h) fun us s1 hz9=>?_) (aY n1) (br (by simp))));obtain⟨vs,H1,I1,r1,q1⟩:=hz9;obtain⟨a,xs,e,hx,q⟩:=q1;subst e;obtain⟨ua,rfl,ra⟩:=cj r1;cases ra;obtain⟨its,rx,pa,zz⟩:=I1.tuple (SqT.of (K:=X.K) hx);obtain⟨oo,eo,_⟩:=id pa;have la:a<s1.heap.objs.size:=Zi eo;refine uY pa fun h' he hl hz hk=>wpAny_pyIter_enum he ?_;refine⟨s1.heap.objs.size+1,[s1.heap.objs.size+1,s1.heap.objs.size],eTt (s1.heap.objs.size+1) s1.heap.objs.size a,_,H1,rfl,I1.kept (t':=s1.toks) hk,wB (Nat.succ_ne_self _) ⟨Z4 (YQ la),Z4 la⟩,⟨⟨_,he⟩,hl⟩,fun c hc=>?_,q⟩;have hc':s1.heap.objs.size<=c:=by
  simp only[Zj,ZN,Ym]at hc;rcases hc with rfl|rfl
  ·exact Nat.le_succ _
  ·exact Zb _
 exact I1.fpOk hc' (I1.hok.fresh hc')
theorem B2{e1:Expr}{ta:TA}{p pos tp:Pos}{elts:List Expr}{kt:Nat}(hm:X.mg "enumerate" = none)(ha:QA X [e1] ta)(hg:Gl X "enumerate":=by rfl)(n1:aR e1=true:=by rfl):QI X (.Tuple elts kt tp) (.Call (.Name "enumerate" p) [e1] [] pos) (xK X.K ta):=⟨AG hg hm ha.h n1⟩
end
theorem xA{K:PySem.W.Frag}{a:Addr}{xs:List V}{i j:Nat}{tb:TS}{D:Ends}{σ:St}{H:Hp}(Pv:Nat->St->Hp->Prop)(h0:Pv 0 σ H)(ha:∀i σ H,i<=xs.length->Pv i σ H->SqT K H a xs)(hs:∀k x σ H,xs[k]?=some x->Pv k σ H->∀T,H T=none->tb { D with nx:=Pv (k+1),ct:=Pv (k+1),bk:=D.nx } ((σ.set i (some (.int k))).set j (some x)) (upd H T (.tup [.int k,x])))(hd:∀σ H,Pv xs.length σ H->D.nx σ H) :
  ∃W:Nat->Nat->St->Hp->Prop,(∃m,W 0 m σ H)/\∀k m σ H,W k m σ H ->
   ((ItT K a xs).stop k H/\D.nx σ H)\/((ItT K a xs).go k H/\∃N:St->Hp->Prop,(∀σ' H',N σ' H'->∃m',m'<m/\W (k+1) m' σ' H')/\∀x H',(ItT K a xs).yld k H x H'->ji K 2 (dJ (bz i) (dJ (bz j) jh)) x σ H' fun σ2 H2=>tb { D with nx:=N,ct:=N,bk:=D.nx } σ2 H2):=by
 refine⟨fun k m σ H=>m=xs.length-k/\k<=xs.length/\Pv k σ H,⟨xs.length,by simp,ZV _,h0⟩,?_⟩;rintro k m σ H ⟨rfl,hk,pv⟩;by_cases hlt:k<xs.length
 ·refine .inr ⟨⟨hlt,ha k σ H hk pv⟩,Pv (k+1),fun σ' H' z=>⟨xs.length-(k+1),by omega,rfl,hlt,z⟩,fun x H' y=>?_⟩;obtain⟨T,p,hT,hx,rfl,rfl⟩:=y;exact⟨T,[.int k,p],rfl,SqT.of ad,rfl,.int k,[p],rfl,p,[],rfl,rfl,hs k p σ H hx pv T hT⟩
 ·have e:k=xs.length:=by omega
  subst e;exact .inl ⟨⟨rfl,ha _ σ H hk pv⟩,hd σ H pv⟩
def ki(d:Addr):Obj:={ cls:=.type "dict_values",data:=.fields #[.ref d] }
def Ge(td:TE):TE:=fun σ H Q=>td σ H fun x H1=>∃a kvs,x=.ref a/\H1 a=some (.dT kvs)/\∀v,H1 v=none->Q (.ref v) (upd H1 v (eM v (ki a)))
section
variable{X:Cx}{o:Expr}{td:TE}{apos cpos:Pos}
theorem yz(ho:QE X o td)(hbase:attributeBase o "values" X.env (eval o X.env)=eval o X.env:=by rfl)(hline:(apos.endLine==cpos.line)=true:=by rfl):QE X (.Call (.Attribute o "values" apos) [] [] cpos) (Ge td):=by refine⟨?_⟩;intro pins s σ H Q I h;refine wpAny_Call_method0_late hbase hline (thn (ho.h pins s σ H _ I h) fun v s1 hz9=>?_);obtain⟨x,H1,I1,r1,a,kvs,e,hd,q1⟩:=hz9;subst e;cases r1;obtain⟨t1,t2,_⟩:=DG I1 (.inr ⟨kvs,.inl hd⟩);obtain⟨z,ns,xs,rel,ob,es,ep,g1,g2,g3,_⟩:=gN I1.hok (.inl hd);refine⟨"dict","dict.values",PySem.F.plainAttrs_dict,PySem.F.slot_dict_values,PySem.F.type_dict_values,t1,t2,Calls.callWith_builtin rfl (PySem.evalArgs_none ?_)⟩;refine ZM PySem.F.slot_dict_values t1 PySem.F.entry_dict_values ?_ (PySem.F.args_dict_values_1 _);refine z0 ?_;unfold Builtin.Dict.noArgs;refine z0 (wpAny_notOrdered_dict t1 ?_);show wpAny _ _ (pure a) _ _ s1;refine z9 ?_;show wpAny _ _ (Builtin.Dict.showsAll a >>= _) _ _ s1;unfold Builtin.Dict.showsAll;rw[HU (by rw[ns];exact Zh)];refine z0 (z9 (z0 (ZB (z9 ⟨_,rfl,?_⟩))));exact⟨.ref _,_,I1.laid (t':=s1.toks) (fun b o e=>z6 _ e) (Zb _) (nk (Zg _ rfl)),rfl,q1 _ (I1.hok.fresh (Zb _))⟩
theorem va(hc:X.calm=true):dI X (.type "list") (fun xs H Q=>∃v a kvs,xs=[.ref v]/\H v=some (eM v (ki a))/\H a=some (.dT kvs)/\∀l,H l=none->Q (.ref l) (upd H l (.lst (kvs.map (·.2))))):=by
 intro pins s σ H xs us Q I r h;obtain⟨v,a,kvs,rfl,hv,hq,q⟩:=h;obtain⟨u,rfl,rx⟩:=cj r;cases rx;obtain⟨z,hd,xs,rel,o,es,ep,h1,h2,h3,h4,_,_⟩:=gN I.hok (.inl hq);have hsz:es.size=xs.length:=size_of_entries h4;have hkl:kvs.length=xs.length:=Paired.length rel;have vv:s.heap.IsValuesView v a:=⟨_,(I.hok v _ hv).1,rfl,rfl⟩
 refine kdl_call (AY (es:=es) (ep:=ep)) (I.ok.hd hc) ⟨vv,⟨o,h1,h2,h3⟩⟩ (by omega) fun h' tk acc' c' kp e hacc=>?_;have ev:Vals (kvs.map (·.2)) acc'.toList:=by
  have gen:∀(vs:List Value) (ys:List (List Key×Addr×Value)) (ks:List (List Key×V)),KT H ks ys->vs.length=ys.length->(∀(j:Nat) (v:Value),vs[j]?=some v->∃x:List Key×Addr×Value,ys[j]?=some x/\v=x.2.2)->Vals (ks.map (·.2)) vs:=by
   intro vs;induction vs with
   |nil =>
    intro ys ks rl hl _;cases ys with
    |nil=>cases rl;exact .nil
    |cons _ _=>cases hl
   |cons v vs ih =>
    intro ys ks rl hl hv;cases ys with
    |nil=>cases hl
    |cons y ys =>
     cases rl with
     |cons hy rl =>obtain⟨x,e1,e2⟩:=hv 0 v rfl;cases e1;rw[e2];exact .cons hy.2.2 (ih ys _ rl (by simpa using hl) fun j v' e'=>hv (j+1) v' (by simpa using e'))
  refine gen _ _ _ rel (by rw[Zm,hacc.1,hsz]) fun j v e'=>?_;obtain⟨en,e1,e2⟩:=hacc.2 j v (by rw[<-Array.getElem?_toList];exact e');rw[entry_at h4]at e1;obtain⟨x,e3,e4⟩:=YI.mp e1;refine⟨x,e3,?_⟩;rw[e2,<-e4];rfl
 exact⟨.ref s.heap.objs.size,_,I.laid (t':=tk) kp (Zb _) (show ObjOk X.prog X.w _ h' _ (.lst (kvs.map (·.2)))from⟨by rw[Za];omega,acc'.toList,c',ev,by simpa using e⟩),rfl,q _ (I.hok.fresh (Zb _))⟩
theorem tR(hc:X.calm=true):QCall X (.type "list") (fun xs H Q=>∃v a kvs,xs=[.ref v]/\H v=some (eM v (ki a))/\H a=some (.dT kvs)/\∀l,H l=none->Q (.ref l) (upd H l (.lst (kvs.map (·.2))))):=⟨va hc⟩
end
open PySem PySem.Spec PyProof.Rows PySem.W
end L2
set_option maxHeartbeats 4000000
namespace PySem
open Sem (wp)
section
variable{prog:Program}{w:World}{K:Type}[DecidableEq K]{knd:KeyKind prog w K}
structure PairAt(knd:KeyKind prog w K)(h:Heap)(p:Addr×List K×Addr×Value):Prop where
 tup:∃o n,h.get? p.1=some o/\o.cls=.type "tuple"/\o.data=.seq #[.ref p.2.2.1,p.2.2.2] n
 key:IsTupleKey knd h p.2.1 p.2.2.1
variable{A:Around}{R:Result->Shared->Prop}
end
end PySem
namespace L2
open PySem PySem.Spec PyProof.Rows PySem.W
open PySem PySem.Spec PyProof.Rows PySem.W
open PySem PySem.Spec PyProof.Rows PySem.W
def ItD(o:Obj)(a:Addr):It where
 go:=fun i H=>∃kvs,H a=some (.frz o (.dT kvs))/\i<kvs.length
 yld:=fun i H x H'=>H'=H/\∀kvs,H a=some (.frz o (.dT kvs))->∃p b,kvs[i]?=some p/\x=.ref b/\H b=some (.tup (p.1.map kV))
 stop:=fun i H=>∃kvs,H a=some (.frz o (.dT kvs))/\kvs.length<=i
theorem DN{H:Hp}{kvs:List (List Key×V)}{xs:List (List Key×Addr×Value)}(r:KT H kvs xs):∀{i:Nat} {x:List Key×Addr×Value},xs[i]?=some x->∃p,kvs[i]?=some p/\H x.2.1=some (.tup (p.1.map kV)):=by
 induction r with
 |nil=>intro i x h;simp at h
 |@cons p q _ _ h _ ih =>
  intro i x e;cases i with
  |zero=>cases e;exact⟨p,rfl,h.2.1⟩
  |succ i=>exact ih e
theorem xD{P:Program}{w:World}{H:Hp}{h:Heap}{a:Addr}{o:Obj}{kvs:List (List Key×V)}(ok:HOk P w H h)(e:H a=some (.frz o (.dT kvs))) :
  (a==sysModules)=false/\∃xs es ep,KT H kvs xs/\h.get? a=some o/\o.ExactDict/\o.data=.dict es ep/\es.toList=xs.map (entryOfKey (tupleKind (bO P w)))/\kvs.length=es.size:=by
 obtain⟨ho,z,y,xs,r,o',es,ep,h1,h2,h3,h4,h5⟩:=(show ObjOk P w H h a (.frz o (.dT kvs))from ok a _ e)
 rw[ho]at h1;cases h1;exact⟨y,xs,es,ep,r,ho,h2,h3,h4,(Paired.length r).trans (size_of_entries h4).symm⟩
theorem zh{P:Program}{w:World}{K:PySem.W.Frag}{tg:Expr}(o:Obj)(a it:Addr):Turn P w K tg (ItD o a) [it] it (fun i h=>∃es ep,o.data=.dict es ep/\i<=es.size/\h.IsKeyIter it a i es.size ep) where
 mem:=by simp
 obj:=fun i h st b hb=>by
  have e:b=it:=by simpa using hb
  subst e;obtain⟨es,ep,_,_,o,e,c,d⟩:=st;exact⟨o,e,fun v z=>by rw[d]at z;cases z⟩
 keep:=fun i h h' st k=>by obtain⟨es,ep,h1,h2,h3⟩:=st;exact⟨es,ep,h1,h2,h3.at fun o e=>k it (by simp) o e⟩
 item:=by
  intro X hP hw hK hc i pins s σ H E I hf st hg;subst hP hw hK;obtain⟨kvs,hq,hx⟩:=hg;obtain⟨es,ep,sd,sl,st⟩:=st;obtain⟨lo,xs,es',ep',r,ho,hx2,hd,h4,hl⟩:=xD I.hok hq;rw[sd]at hd;cases hd;obtain⟨f0,f1,f2,f3,f4,f5⟩:=hf it (by simp);have hi:i<es.size:=by omega
  refine AV st ⟨o,ho,hx2,sd⟩ hi fun h' st' sb=>?_;have I1:Inv X pins σ H { s with heap:=h' }:=I.turned (t':=s.toks) (fun b o hb e=>(sb.2 b hb).trans e) f0 f1 f3 f4 f5;obtain⟨oi,e,c,d⟩:=id st';have hxs:i<xs.length:=by rw[<-size_of_entries h4];exact hi
  have hk:es[i].key=Value.ref xs[i].2.1:=by have e1:=entry_at h4 (j:=i);rw[Zd hxs,Array.getElem?_eq_getElem hi]at e1;have e2:=Zu e1;rw[e2];rfl
  obtain⟨p,hp,hb⟩:=DN r (Zd hxs);refine⟨_,rfl,lQ (s:={ s with heap:=h' }) e c d (by decide) ⟨.ref xs[i].2.1,H,I1,hk,⟨rfl,fun kvs' hy=>?_⟩,⟨es,ep,sd,by omega,st'⟩,fun b hb=>(hf b hb).1⟩⟩;rw[hq]at hy;cases hy;exact⟨p,xs[i].2.1,hp,rfl,hb⟩
 done:=by
  intro X hP hw hK hc i pins s σ H E I hf st hg;subst hP hw hK;obtain⟨kvs,hq,hx⟩:=hg;obtain⟨es,ep,sd,sl,st⟩:=st;obtain⟨lo,xs,es',ep',r,ho,hx2,hd,h4,hl⟩:=xD I.hok hq;rw[sd]at hd;cases hd;obtain⟨f0,f1,f2,f3,f4,f5⟩:=hf it (by simp);obtain rfl:i=es.size:=by omega
  exact CQ (I.ok.hd hc) st ⟨o,ho,hx2,sd⟩ fun h' eb=>⟨rfl,I.turned (t':=s.toks) (fun b o hb e=>eb b o hb e) f0 f1 f3 f4 f5⟩
 self:=fun _ _ _ _ _ st h=>by obtain⟨es,ep,h1,h2,h3⟩:=st;exact wpAny_pyIter_keyiter h3 h
section
variable{X:Cx}{tg:Expr}
theorem Inv.freeze{pins:List (Addr×Obj)}{σ:St}{H:Hp}{s:Shared}{a:Addr}{o:Obj}{kvs:List (List Key×V)}(I:Inv X pins σ H s)(hq:H a=some (.dT kvs))(ho:s.heap.get? a=some o):Inv X pins σ (upd H a (.frz o (.dT kvs))) s :=
 I.write (x:=a) (e:=a) (h':=s.heap) (t':=s.toks) (by rw[hq];exact True.intro) (.inl rfl) (fun b u _ e=>e) ⟨o,ho⟩
  ⟨ho,ObjOk.stay (show ObjOk X.prog X.w H s.heap a (.dT kvs) from I.hok a _ hq) (fun b u _ e=>e) (fun b e=>by
   rw[af fun z=>by rw[z,hq]at e;cases e];exact e) fun b xs e=>by
   rw[af fun z=>by rw[z,hq]at e;cases e];exact e⟩
def DB(tl:TE):TI:=fun σ H R=>tl σ H fun x H1=>∃a kvs,x=.ref a/\H1 a=some (.dT kvs)/\∀o,R (ItD o a) (upd H1 a (.frz o (.dT kvs)))
theorem Et{l:Expr}{tl:TE}(hl:PE X l tl):PI X tg l (DB tl):=by
 intro pins s σ H R I h;refine thn (hl pins s σ H _ I h) fun v s1 hz9=>?_;obtain⟨x,H1,I1,r1,q1⟩:=hz9;obtain⟨a,kvs,e,hq,q⟩:=q1;subst e;cases r1;obtain⟨z,lo,xs,r,o,es,ep,h1,h2,h3,h4,h5⟩:=(show ObjOk X.prog X.w H1 s1.heap a (.dT kvs)from I1.hok a _ hq)
 refine AW lo ⟨o,h1,h2,h3⟩ ?_;have I2:=I1.freeze hq h1;refine⟨s1.heap.objs.size,[s1.heap.objs.size],_,_,_,rfl,I2.kept (t':=s1.toks) fun b o e=>z6 _ e,zh o a _,⟨es,ep,h3,ZV _,_,Zg _ rfl,rfl,rfl⟩,fun b hb=>?_,q o⟩;have e:b=s1.heap.objs.size:=by simpa using hb
 subst e;exact I2.fpOk (Zb _) (I2.hok.fresh (Zb _))
theorem Inv.thaw{pins:List (Addr×Obj)}{σ:St}{H:Hp}{s:Shared}{a:Addr}{o:Obj}{u:HO}(I:Inv X pins σ H s)(hq:H a=some (.frz o u))(h0:∀o' u',X.H₀ a≠some (.frz o' u'))(ht:∀xs,X.H₀ a≠some (.tup xs))(hb:∀ps,X.H₀ a≠some (.tbl ps)) :
  Inv X pins σ (upd H a u) s:=by
 have hn:∀b,H b=none->upd H a u b=none:=fun b e=>by rw[af fun z=>by rw[z,hq]at e;cases e];exact e
 refine⟨I.ok,I.os,I.bare,⟨I.base.keep,I.base.slot,fun b ob e1 e2 e3=>hn _ (I.base.free b ob e1 e2 e3),I.base.there,fun b xs e=>?_,fun b ob v e=>?_,fun b ps e=>?_⟩,I.loc,I.cell,hn _ I.free,fun x c e=>hn _ (I.freeC x c e),
  fun p hp=>?_,fun b v e=>?_,I.len⟩
 ·rw[af fun(z:b=a)=>ht xs (by rw[<-z];exact e)];exact I.base.tups b xs e
 ·rw[af fun(z:b=a)=>h0 ob v (by rw[<-z];exact e)];exact I.base.frzs b ob v e
 ·rw[af fun(z:b=a)=>hb ps (by rw[<-z];exact e)];exact I.base.tbls b ps e
 ·obtain⟨p1,p2,p3⟩:=I.pin p hp;exact⟨p1,hn _ p2,p3⟩
 ·have st:∀ {c:Addr} {v:HO},ObjOk X.prog X.w H s.heap c v->ObjOk X.prog X.w (upd H a u) s.heap c v:=fun x=>ObjOk.stay x (fun b u _ e=>e) (fun b e=>by
   rw[af fun z=>by rw[z,hq]at e;cases e];exact e) fun b xs e=>by
   rw[af fun z=>by rw[z,hq]at e;cases e];exact e
  by_cases c:b=a
  ·subst c;rw[ad]at e;cases e;exact st (show ObjOk X.prog X.w H s.heap b (.frz o _)from I.hok b _ hq).2
  ·rw[af c]at e;exact st (I.hok b v e)
theorem Fu{l:Expr}{te:TE}(hl:QE X l te):QI X tg l (DB te):=⟨Et hl.h⟩
def Loose(H:Hp)(a:Addr):Prop:=(∀o' u',H a≠some (.frz o' u'))/\(∀xs,H a≠some (.tup xs))/\∀ps,H a≠some (.tbl ps)
theorem Loose.dt{H:Hp}{a:Addr}{kvs:List (List Key×V)}(h:H a=some (.dT kvs)):Loose H a:=⟨fun _ _ z=>(by rw[h]at z;cases z),fun _ z=>(by rw[h]at z;cases z),fun _ z=>(by rw[h]at z;cases z)⟩
def Gd(H0:Hp)(t:TE):TE:=fun σ H Q=>t σ H fun v H'=>∃a o u,H' a=some (.frz o u)/\Loose H0 a/\Q v (upd H' a u)
theorem EN{e:Expr}{t:TE}(h:QE X e t):QE X e (Gd X.H₀ t):=⟨fun pins s σ H Q I q=>thn (h.h pins s σ H _ I q) fun v s1 ⟨x,H1,I1,r1,a,o,u,e1,l,q1⟩=>⟨x,_,I1.thaw e1 l.1 l.2.1 l.2.2,r1,q1⟩⟩
end
theorem xg{a:Addr}{o:Obj}{kvs:List (List Key×V)}{n:Nat}{cap:List Nat}{g:TG}{tc:TT}{te:TE}{σ:St}{H0:Hp}{Q:VK}(Pv:Nat->List V->Hp->Prop)(hz:kvs.length<=1000)(hn:∀i ys H,Pv i ys H->ys.length<=i)(h0:Pv 0 [] H0)(hl:∀i ys H,Pv i ys H->H a=some (.frz o (.dT kvs)))(ht:∀i ys H p b,kvs[i]?=some p->H b=some (.tup (p.1.map kV))->Pv i ys H->∀Y:List V->Hp->Prop,(∀zs H4,Pv (i+1) zs H4->Y zs H4)->g (.ref b) (bJ n cap σ) H fun σ2 H2=>tc σ2 H2 fun b H3=>if b=true then te σ2 H3 fun y H4=>Y (ys++[y]) H4 else Y ys H3)(hq:∀ys p H,Pv kvs.length ys H->H p=none->Q (.ref p) (upd H p (.lst ys))):cY n cap g tc te σ (ItD o a) H0 Q:=by
 refine⟨fun i m ys H=>m=kvs.length-i/\i<=kvs.length/\Pv i ys H,⟨kvs.length,by simp,ZV _,h0⟩,?_⟩;rintro i m ys H ⟨rfl,hi,pv⟩;have q:=hl i ys H pv;by_cases hlt:i<kvs.length
 ·refine .inr ⟨⟨kvs,q,hlt⟩,?_,fun x H' y=>?_⟩
  ·have:=hn i ys H pv;exact Nat.lt_of_le_of_lt (Zy this (by omega)) (show 1000<sizeLine by decide)
  ·obtain⟨e,y⟩:=y;subst e;obtain⟨pr,b,e1,rfl,e2⟩:=y kvs q;exact ht i ys _ pr b e1 e2 pv (fun ys H4=>∃m',m'<kvs.length-i/\m'=kvs.length-(i+1)/\i+1<=kvs.length/\Pv (i+1) ys H4) fun zs H4 z=>⟨kvs.length-(i+1),by omega,rfl,hlt,z⟩
 ·have e:i=kvs.length:=by omega
  subst e;exact .inl ⟨⟨kvs,q,Zb _⟩,fun p hp=>hq ys p H pv hp⟩
open PySem PySem.Spec PyProof.Rows PySem.W
open PySem PySem.Spec PyProof.Rows PySem.W
section
variable{X:Cx}{pins:List (Addr×Obj)}{σ:St}{H:Hp}{s:Shared}
theorem lZ{A:Around}{E:Value->Shared->Prop}{P:PySem.Fin->Shared->Prop}{a:Addr}{n:Nat}{vs:List Value}(h2:vs.length<2)(ho:s.heap.get? a=some (seqObj "list" vs.toArray n))(h:∀(h3:Heap) (c:Nat),(∀b u,b≠a->s.heap.get? b=some u->h3.get? b=some u)->h3.get? a=some (seqObj "list" vs.toArray c)->P (.done (.ret .none)) { s with heap:=h3 }) :
  wpAny (model X.prog X.w) A (Builtin.«list.sort» ⟨[.ref a],[]⟩) P E s:=by
 have zs:vs.toArray.size<=sizeLine:=by rw[Ze,sizeLine_eq];omega
 have s1:=ZG s.heap a (Obj.mapSeq fun _=>(#[]:Array Value));obtain⟨e1,ho1⟩:∃e1,(s.heap.update a (Obj.mapSeq fun _=>(#[]:Array Value))).get? a=some (seqObj "list" #[] e1):=⟨_,get?_update_seq ho fun _=>#[]⟩
 have ha3:(((s.heap.update a (Obj.mapSeq fun _=>(#[]:Array Value))).push (seqObj "tuple" vs.toArray 0)).push (seqObj "list" #[] 0)).get? a=some (seqObj "list" #[] e1):=z6 _ (z6 _ ho1);have kp:∀b u,b≠a->s.heap.get? b=some u->(((s.heap.update a (Obj.mapSeq fun _=>(#[]:Array Value))).push (seqObj "tuple" vs.toArray 0)).push (seqObj "list" #[] 0)).get? b=some u:=fun b u hb g=>z6 _ (z6 _ ((s1.2 b hb).trans g));rw[list_sort_plain];refine z0 (listItems_at ho rfl ?_);refine z0 (listUpdate_at ho rfl ?_ zs (ZV _));refine z0 (seqEpoch_at ho1 rfl ?_);refine z0 (wpAny_newTuple ?_ zs);refine z0 (wpAny_newList ?_ (ZV _));refine ZT ?_;show wpAny (model X.prog X.w) A _ P E { s with heap:=((s.heap.update a (Obj.mapSeq fun _=>(#[]:Array Value))).push (seqObj "tuple" vs.toArray 0)).push (seqObj "list" #[] 0) };generalize((s.heap.update a (Obj.mapSeq fun _=>(#[]:Array Value))).push (seqObj "tuple" vs.toArray 0)).push (seqObj "list" #[] 0)=h1 at ha3 kp ⊢;dsimp only;have hn2:vs.toArray.size<2:=by rw[Ze];exact h2
 rw[HV hn2,HV hn2];refine z0 (z9 ?_);rw[StateT.run_pure];refine z0 (z9 ?_);dsimp only;have em:Array.map (fun x=>x.snd) (arrOf (SortSt.mk' general' (vs.toArray.zip vs.toArray) #[] 7 none))=vs.toArray:=by show Array.map (fun x:Value×Value=>x.2) (vs.toArray.zip vs.toArray)=_;apply Array.toList_inj.mp;rw[Array.toList_map,Array.toList_zip];exact List.map_snd_zip (Zb _)
 rw[em];have s2:=ZG h1 a (Obj.mapSeq fun _=>vs.toArray);obtain⟨c2,hc2⟩:∃c2,(h1.update a (Obj.mapSeq fun _=>vs.toArray)).get? a=some (seqObj "list" vs.toArray c2):=⟨_,get?_update_seq ha3 fun _=>vs.toArray⟩
 refine z0 (seqEpoch_at ha3 rfl ?_);refine z0 (listUpdate_at ha3 rfl ?_ (ZV _) (Nat.le_succ_of_le zs));simp only[bne_self_eq_false,Yn,YB];exact z9 (h _ c2 (fun b u hb g=>(s2.2 b hb).trans (kp b u hb g)) hc2)
theorem se{l:Addr}{xs:List V}{Q:VK}(I:Inv X pins σ H s)(hH:H l=some (.lst xs))(h2:xs.length<2)(q:∀D:Addr,H D=none->Q (.ref D) (upd H D (.lst xs))) :
  wpAny (model X.prog X.w) X.A (call (.builtin "sorted") [.ref l]) (EP X pins σ Q) X.xe s:=by
 obtain⟨z,its,n,rv,hlen,e⟩:=I.lstM hH;have li:its.length=xs.length:=hlen.symm;have zs:its.toArray.size<=sizeLine:=by rw[Ze,sizeLine_eq];omega
 refine Calls.call_function_entry kind_sorted plain_sorted entry_sorted (args_sorted1 _) ?_;unfold Builtin.«sorted»;refine z0 (m:=checkCount "sorted" 1 1 _) (z9 (z0 (collect_list ⟨_,e,rfl,n,rfl⟩ (z0 (wpAny_newList ?_ zs)) zs)));have z1:((s.heap.push (seqObj "list" #[] 0)).update s.heap.objs.size (Obj.mapSeq (·++its.toArray))).objs.size=s.heap.objs.size+1:=by rw[Heap.size_update,size_push']
 have g1:(((s.heap.push (seqObj "list" #[] 0)).update s.heap.objs.size (Obj.mapSeq (·++its.toArray))).push (seqObj "list" its.toArray 0)).get? (s.heap.objs.size+1)=some (seqObj "list" its.toArray 0):=by rw[<-z1];exact Zg _ rfl
 have kp:∀b o,s.heap.get? b=some o->(((s.heap.push (seqObj "list" #[] 0)).update s.heap.objs.size (Obj.mapSeq (·++its.toArray))).push (seqObj "list" its.toArray 0)).get? b=some o:=fun b o g=>by have lt:=Zi g;rw[Heap.get?_push_ne _ _ _ (by rw[z1];exact Zn (YQ lt)),Heap.get?_update_ne _ _ _ _ (Zn lt),Heap.get?_push_ne _ _ _ (Zn lt)];exact g
 show wpAny _ _ _ _ _ { s with heap:=((s.heap.push (seqObj "list" #[] 0)).update s.heap.objs.size (Obj.mapSeq (·++its.toArray))).push (seqObj "list" its.toArray 0) };rw[z1];generalize(((s.heap.push (seqObj "list" #[] 0)).update s.heap.objs.size (Obj.mapSeq (·++its.toArray))).push (seqObj "list" its.toArray 0))=hA at g1 kp ⊢;refine z0 (ZT (ZM slot_list_sort ⟨_,g1,rfl⟩ entry_list_sort ?body (args_list_sort _)))
 case body =>
  refine lZ (X:=X) (s:={ s with heap:=hA }) (by omega) g1 fun h3 c k3 a3=>⟨_,rfl,z9 ⟨_,rfl,?_⟩⟩
  have da:s.heap.get? (s.heap.objs.size+1)=none:=Yz (Nat.le_succ _);exact⟨.ref _,_,I.laid (t':=s.toks) (o:=.lst xs) (fun b o g=>k3 b o (fun zz=>by rw[zz,da]at g;cases g) (kp b o g)) (Nat.le_succ _) ⟨z,its,c,rv,a3⟩,rfl,q _ (none_of I da)⟩
theorem yf{K:PySem.W.Frag}{k:Nat}(hK:X.K=K)(hr:Room k X.A):QOp X (compareOp .NotIn) (AT K true):=by subst hK;exact As hr
theorem EK{K:PySem.W.Frag}{e:Expr}{f:Str}{ta:TE}{pos:Pos}(hK:X.K=K)(he:QE X e ta)(hb:attributeBase e f X.env (eval e X.env)=eval e X.env:=by rfl):QE X (.Attribute e f pos) (A9 K ta f):=by subst hK;exact bP he hb
theorem BW:QCall X (.builtin "sorted") (fun xs H Q=>∃ (p:Addr) (as:List Addr) (ks:List (List Int)),xs=[.ref p]/\H p=some (.lst (as.map V.ref))/\as.length<64/\ks.length=as.length/\(∀ k∈ks,k≠[])/\(∀ (i:Nat) (a:Addr) (k:List Int),as[i]? = some a->ks[i]? = some k->H a=some (.tup (k.map V.int))) /\
  ∀ (pm:Array Nat) (D:Addr),POk as.length pm->LS (fun i j=>HT.lexLt (ks.getD i []) (ks.getD j [])) pm as.length->H D=none->Q (.ref D) (upd H D (.lst (pm.toList.map fun i=>(as.map V.ref).getD i .non)))):=by
 refine⟨?_⟩;intro pins s σ H xs us Q I r h;obtain⟨p,as,ks,rfl,hp,h64,hl,hne,hk,q⟩:=h;obtain⟨u,rfl,ru⟩:=cj r;cases ru;by_cases h2:as.length<2
 ·refine se I hp (by rw[Za];exact h2) fun D hD=>?_;have e:((List.range as.length).toArray.toList.map fun i=>(as.map V.ref).getD i V.non)=as.map V.ref:=by refine List.ext_getElem (by simp) fun i h1 h2=>?_;rw[Za]at h2;simp[h2]
  have:=q (List.range as.length).toArray D (Array.Perm.refl _) (fun i j hij hj=>by omega) hD;rw[e]at this;exact this
 obtain⟨z,its,n,rv,hlen,e⟩:=I.lstM hp;rw[Za]at hlen;have eits:its=as.map Value.ref:=by
  clear e z hlen hp hk q hl h2 h64;induction as generalizing its with
  |nil=>cases rv;rfl
  |cons a as ih =>
   cases rv with
   |cons r1 r2 =>cases r1;rw[ih _ r2];rfl
 subst eits;obtain⟨m,F0⟩:=I.fr;refine kat_sorted (vs:=as.map Value.ref) F0 (hG X.base s.heap X.env.locals) ⟨_,e,rfl,n,rfl⟩ (by rw[Za];omega) (by rw[Za];omega) fun D e1 h1 F1 N1 hD=>?_;have mv0:∀b u,b≠X.env.locals->b∉([]:List Addr)->s.heap.get? b=some u->h1.get? b=some u:=fun b u hL _ g=>by
  cases qb:X.base.get? b with
  |none=>exact(N1 (b,u) (.tail _ (cS g hL qb))).1
  |some o =>have e':=I.bk b o qb;rw[g]at e';cases e';exact F1.keep b u qb
 have I1:Inv X pins σ H { s with heap:=h1 }:=Inv.movedF (ch:=[]) (t':=s.toks) I (fun b hb=>absurd hb (by simp)) mv0 ⟨m,F0.ns,F1.ns⟩;obtain⟨fs,t1,t2,t3⟩:=rc I1 hne as 0 (by omega) (fun i a k h1 h2=>hk i a k h1 (by rw[Nat.zero_add]at h2;exact h2));refine kat_kind (T:=.type "int") t1 (by omega) (fun v hv=>?_) rfl ?_
 ·obtain⟨i,t,rfl⟩:=t3 v hv;exact .now
 rw[Za];refine ny (n:=as.length) (lt:=fun i j=>HT.lexLt (ks.getD i []) (ks.getD j [])) (fun i j C hi hj hC=>?_) (fun pm hpm hs=>?_) (re (by omega)) (ug (xV ks) (by omega))
 ·have ga:∀i,i<as.length->∃a:Addr,(as.map Value.ref).getD i Value.none=.ref a/\H a=some (.tup ((ks.getD i []).map V.int)):=fun i hi=>by
   have h1:as[i]?=some (as[i]'(by omega)):=Zd (by omega);have h2:ks[i]?=some (ks[i]'(by omega)):=Zd (by omega);refine⟨as[i]'(by omega),?_,?_⟩
   ·rw[Zw,Zx,h1];rfl
   ·have:=hk i _ _ h1 h2;rw[Zw,h2];exact this
  obtain⟨a,ea,ha⟩:=ga i hi;obtain⟨b,eb,hb'⟩:=ga j hj;obtain⟨ia,ra,pa,za⟩:=I1.tuple (SqT.of (K:=X.K) ha);obtain⟨ib,rb,pb,zb⟩:=I1.tuple (SqT.of (K:=X.K) hb');obtain⟨oa,eoa,ca,n1,da⟩:=id pa;obtain⟨ob,eob,cb,n2,db⟩:=id pb;unfold kas_ask;rw[ea,eb];exact kat_lt eoa da eob db (kl _ _ _ _ 0 (ce ra) (ce rb) (by rw[Ze,Ze,<-ra.length,<-rb.length,Za,Za]) hC)
 ·have hDL:D≠X.env.locals:=(N1 (D,seqObj "list" #[] e1) (.head _)).2.1;have hDs:s.heap.get? D=none:=by
   cases g:s.heap.get? D with
   |none=>rfl
   |some o=>exact absurd (hD (D,o) (cS g hDL (N1 (D,seqObj "list" #[] e1) (.head _)).2.2)) (Yh _)
  have pl:∀i∈pm.toList,i<as.length:=fun i hi=>by have:=(hpm.mem_iff).mp (Array.mem_toList_iff.mp hi);simpa using this
  have vals:∀(w:List Nat),(∀i∈w,i<as.length)->Vals (w.map fun i=>(as.map V.ref).getD i .non) (w.map fun i=>(as.map Value.ref).getD i Value.none):=fun w=>by
   induction w with
   |nil=>intro _;exact .nil
   |cons i w ih =>intro hw;have hi:=hw i y4;refine .cons ?_ (ih fun j hj=>hw j (ZA _ hj));show RelV ((as.map V.ref).getD i V.non) ((as.map Value.ref).getD i Value.none);rw[Zw,Zw,Zx,Zx,Zd hi];rfl
  have lp:pm.toList.length=as.length:=by have:=hs.1;simpa using this
  refine KasFin.intro (news:=(D,seqObj "list" #[] e1)::mm X.base s.heap X.env.locals) F1 N1 (.head fun p hp=>Zn (hD p hp)) fun h2 c F2 N2=>?_;refine⟨.ref D,_,I.laidF (o:=.lst (pm.toList.map fun i=>(as.map V.ref).getD i .non)) (t':=s.toks) (fun b o hL g=>?_) ⟨m,F0.ns,F2.ns⟩ hDs ⟨by rw[Za,lp];exact dH (by omega),_,c,vals _ pl,(N2 (D,_) (.head _)).1⟩,rfl,q pm D hpm hs.2 (none_of I hDs)⟩;cases q:X.base.get? b with
  |none=>exact(N2 (b,o) (.tail _ (cS g hL q))).1
  |some o' =>have e':=I.bk b o' q;rw[g]at e';cases e';exact F2.keep b o q
end
open PySem PySem.Spec PyProof.Rows PySem.W
open PySem PySem.Spec PyProof.Rows PySem.W
open PySem PySem.Spec PyProof.Rows PySem.W
open PySem PySem.Spec PyProof.Rows PySem.W
open PySem PySem.Spec PyProof.Rows PySem.W
theorem EZ(x y:Str):(x++y).cps.toList=x.cps.toList++y.cps.toList:=by show(x.cps++y.cps).toList=_;rw[Array.toList_append]
open PySem PySem.Spec PyProof.Rows PySem.W
open PySem PySem.Spec PyProof.Rows PySem.W
def dg(n:Nat):List Nat:=(Nat.toDigits 10 n).map Char.toNat
theorem dch{d:Nat}(h:d<10):(Nat.digitChar d).toNat=48+d:=by
 have:∀d:Nat,d<10->(Nat.digitChar d).toNat=48+d:=by decide
 exact this d h
theorem Fj{n:Nat}(h:n<10):dg n=[48+n]:=by unfold dg;rw[Nat.toDigits_of_lt_base h,ZH,dch h];rfl
theorem BZ{n:Nat}(h:¬n<10):dg n=dg (n / 10)++[48+n%10]:=by have hm:n%10<10:=Nat.mod_lt n (by decide);have t:Nat.toDigits 10 (n / 10)++Nat.toDigits 10 (n%10)=Nat.toDigits 10 (10*(n / 10)+n%10):=Nat.toDigits_append_toDigits (by decide) (by omega) hm;rw[Nat.div_add_mod]at t;unfold dg;rw[<-t,Zz,Nat.toDigits_of_lt_base hm,ZH,dch hm];rfl
theorem xo(n:Nat):∀c∈dg n,48<=c/\c<=57:=by
 induction n using Nat.strongRecOn with
 |_ n ih =>
  intro c hc;by_cases h:n<10
  ·rw[Fj h]at hc;have:=Zf.mp hc;omega
  ·rw[BZ h]at hc;have hm:n%10<10:=Nat.mod_lt n (by decide);rcases ZD.mp hc with hc|hc
   ·exact ih (n / 10) (by omega) c hc
   ·have:=Zf.mp hc;omega
theorem Ag{i:Int}(h:0<=i):(cy i).cps.toList=dg i.toNat:=by have:=KIN.signs_num i.toNat;rw[show((i.toNat:Nat):Int)=i by omega]at this;exact this
theorem Ah{i:Int}(h:i<0):(cy i).cps.toList=45::dg i.natAbs:=by
 obtain⟨n,rfl⟩:∃n,i=Int.negSucc n:=⟨(-i-1).toNat,by omega⟩
 have e:toString (Int.negSucc n)="-"++Nat.repr (n+1):=rfl;unfold cy;rw[e,signs_ofString,String.toList_append,Zz];have e2:(Nat.repr (n+1)).toList=Nat.toDigits 10 (n+1):=by simp[Nat.repr]
 rw[e2];rfl
theorem vp(i:Int):∀c∈(cy i).cps.toList,c=45\/(48<=c/\c<=57):=fun c hc=>by
 by_cases h:0<=i
 ·rw[Ag h]at hc;exact .inr (xo _ c hc)
 ·rw[Ah (by omega)]at hc;rcases Zj.mp hc with h|h
  ·exact .inl h
  ·exact .inr (xo _ c h)
open PySem PySem.Spec PyProof.Rows PySem.W
open PySem PySem.Spec PyProof.Rows PySem.W
open PySem PySem.Spec PyProof.Rows PySem.W
section
variable{prog:Program}{w:World}{A:Around}{E:Value->Shared->Prop}{s:Shared}
def FG(prog:Program)(w:World):Option (List Key)->Int
 |none=>0xFCA86420
 |some k=>(tupleKind (bO prog w)).hash k
def OIs(prog:Program)(w:World)(h:Heap):Option (List Key)->Value->Prop
 |none,v=>v=.none
 |some k,v=>∃a,v=.ref a/\(tupleKind (bO prog w)).is h k a
abbrev zC:=Option (List Key)×Value×Value
def DW(prog:Program)(w:World)(x:zC):DictEntry:=⟨FG prog w x.1,x.2.1,x.2.2⟩
structure ODict(prog:Program)(w:World)(h:Heap)(d:Addr)(o:Obj)(es:Array DictEntry)(ep:Nat)(xs:List zC):Prop where
 ho:h.get? d=some o
 hd:o.data=.dict es ep
 he:es.toList=xs.map (DW prog w)
 his:∀x∈xs,OIs prog w h x.1 x.2.1
 hn:(xs.map (·.1)).Nodup
end
open PySem PySem.Spec PyProof.Rows PySem.W
abbrev OK1:=Option (List Key×Addr)
def okD:OK1->Option (List Key)
 |none=>none
 |some p=>some p.1
def okV:OK1->Value
 |none=>.none
 |some p=>.ref p.2
def oE(e:OK1×Addr):zC:=(okD e.1,okV e.1,.ref e.2)
def odO(P:Program)(w:World)(d:Addr)(kls:List (OK1×Addr)):HO:=.ext fun h=>(d==sysModules)=false/\∃(o:Obj) (es:Array DictEntry) (ep:Nat),h.get? d=some o/\o.ExactDict/\o.data=.dict es ep/\es.toList=(kls.map oE).map (DW P w)
structure OdAt(P:Program)(w:World)(H:Hp)(d:Addr)(kls:List (OK1×Addr)):Prop where
 ob:H d=some (odO P w d kls)
 ks:∀e∈kls,∀p,e.1=some p->H p.2=some (.tup (p.1.map kV))
 nd:(kls.map fun e=>okD e.1).Nodup
open PySem PySem.Spec PyProof.Rows PySem.W
open PySem PySem.Spec PyProof.Rows PySem.W
open PySem PySem.Spec PyProof.Rows PySem.W
open PySem PySem.Spec PyProof.Rows
theorem wZ{X:Cx}{K:PySem.W.Frag}(hK:X.K=K)(hc:X.calm=true):QCall X (.builtin "sum") (fun xs H Q=>∃(p:Addr) (ns:List Int),xs=[.ref p]/\SqL K H p (ns.map V.int)/\Q (.int ns.sum) H):=by
 subst hK;refine⟨?_⟩;intro pins s σ H xs us Q I r h;obtain⟨p,ns,rfl,hS,q⟩:=h;obtain⟨u,rfl,ru⟩:=cj r;cases ru;obtain⟨its,rv,pl,hz⟩:=I.list hS;obtain⟨ys,e1,e2⟩:=fG (ce rv);have hl:s.heap.IsList p (intItems ys.toArray):=by have:=pl.isList;rw[e1]at this;simpa[intItems]using this
 refine sum_intListG (I.ok.hd hc) hl fun h' tk t' hk=>⟨.int ns.sum,H,I.kept (t':=tk) hk,⟨t',?_⟩,q⟩
 have e:preSum (numAt ys.toArray) ys.toArray.size=ns.sum:=by rw[preSum_eq,List.take_of_length_le (by simp),e2]
 rw[e]
open PySem PySem.Spec PyProof.Rows PySem.W
open PySem PySem.Spec PyProof.Rows PySem.W
section
variable{prog:Program}{w:World}{A:Around}{E:Value->Shared->Prop}{s:Shared}{κ:SortKind}{it:Array Keyed}{lt:Nat->Nat->Bool}{N:Nat}
theorem Dc(Z:Zc prog w A s κ it lt N)(O:LtOk lt)(h2:2<=N)(h64:N<64){Q:Unit->SortSt->Prop}(h:∀(p:Array Nat) (st':SortSt),POk N p->LS lt p N->p.size=N->arrOf st'=p.map (kas_item it)->failedOf st'=none->Q () st') :
  wpS (model prog w) A E s sortRuns' Q (SortSt.mk' κ ((List.toArray (List.range N)).map (kas_item it)) #[] 7 none) :=
 kas_runs (Q:=fun u st' s'=>s'=s/\Q u st') (G:=fun p s'=>s'=s/\POk N p/\LS lt p N) h2 h64 (fun p st' _ hz ha hf g=>⟨g.1,h p st' g.2.1 g.2.2 hz ha hf⟩) (ny (n:=N) (lt:=lt) Z (fun _ hp hr=>⟨rfl,hp,hr.2⟩) (re (by omega)) (ug O (by omega)))
end
section
variable{prog:Program}{w:World}{A:Around}{E:Value->Shared->Prop}{s:Shared}{h₀:Heap}{L a kS:Addr}{m:Str->Option Value}{news:List (Addr×Obj)}{vs ks:List Value}
theorem Fg{b:Bool}{e e1:Nat}{P:PySem.Fin->Shared->Prop}(hl:ks.length=vs.length)(h64:vs.length<64)(h:uT prog w A b ks vs (fun out=>KatFin h₀ L m kS a ks e e1 out (fun s3=>P (.done (.ret .none)) s3)) s) :
  wpAny (model prog w) A (ksk_end a b vs.toArray e1 (.ref kS) (List.toArray ks)) P E s:=by
 have hz:vs.length<=4096:=by omega
 have lr:(katRev b ks).length=(katRev b vs).length:=by rw[kat_len,kat_len,hl]
 have lv:(katRev b vs).length=vs.length:=kat_len b vs;have step:∀t:Sem PySem.Fin,wpAny (model prog w) A t P E s->wpAny (model prog w) A (if b=true then(do let _ ←rule "list.sort.reverse";t)else t) P E s:=by
  intro t ht;split
  ·exact z0 (wpAny_rule ht)
  ·exact ht
 unfold ksk_end;dsimp only;refine step _ ?_;have er:∀κ,SortSt.mk' κ ((List.toArray (katRev b ks)).zip (List.toArray (katRev b vs))) #[] 7 none=SortSt.mk' κ ((List.toArray (List.range vs.length)).map (kas_item ((List.toArray (katRev b ks)).zip (List.toArray (katRev b vs))))) #[] 7 none:=fun κ=>by have e:=kas_range ((List.toArray (katRev b ks)).zip (List.toArray (katRev b vs)));rw[show((List.toArray (katRev b ks)).zip (List.toArray (katRev b vs))).size=vs.length by simp[lr,lv]]at e;rw[e]
 rw[kat_pairs b hl];by_cases n2:vs.toArray.size<2
 ·rw[HV n2,HV n2];have n2':vs.length<2:=by simpa using n2
  refine z0 (z9 ?_);rw[er,StateT.run_pure];refine z0 (z9 ?_);dsimp only;exact uI (kat_snds lr (p:=List.toArray (List.range vs.length)) rfl) (by simpa using hz) (by omega) rfl (h.2 n2')
 rw[HU n2,HU n2];have n3:2<=vs.length:=by rw[Ze]at n2;omega
 refine z0 (ZK (h.1 n3) (fun κ s0 hg=>?_) fun _ _ x=>x.elim);obtain⟨lt,O,ask,fin⟩:=hg;have Z:Zc prog w A s0 κ ((List.toArray (katRev b ks)).zip (List.toArray (katRev b vs))) lt vs.length:=fun i j C hi hj hC=>by have:=ask i j C hi hj hC;rw[kat_ask_eq lr]at this;exact this
 rw[er];refine z0 (ZK (Dc (E:=E) (Q:=fun _ st'=>∃p:Array Nat,POk vs.length p/\LS lt p vs.length/\p.size=vs.length/\arrOf st'=p.map (kas_item ((List.toArray (katRev b ks)).zip (List.toArray (katRev b vs))))/\failedOf st'=none) Z O n3 h64 fun p st' a1 a2 a3 a4 a5=>⟨p,a1,a2,a3,a4,a5⟩) ?_ fun _ _ x=>x);rintro⟨⟨⟩,st'⟩ s' ⟨rfl,p,a1,a2,a3,a4,a5⟩;dsimp only;exact uI (kat_snds lr a4) (by rw[Za,Zm,a3];exact hz) (by omega) a5 (fin p a1 a2)
theorem Db{b:Bool}{f:Value}{e1:Nat}{P:PySem.Fin->Shared->Prop}(hq:s.heap.get? kS=some (seqObj "list" #[] 0))(h64:vs.length<64)(h:KatKeys prog w A h₀ L m kS f (fun ks e s'=>uT prog w A b ks vs (fun out=>KatFin h₀ L m kS a ks e e1 out (fun s3=>P (.done (.ret .none)) s3)) s') vs [] 0 s) :
  wpAny (model prog w) A (ksk_rest a f b vs.toArray e1 (.ref kS)) P E s:=by
 have hz:vs.length<=4096:=by omega
 unfold ksk_rest;refine z0 (wpAny_rule ?_);rw[<-Array.forIn_toList];refine z0 (ZK (uH hz (fun x qs e s' C hzz hx=>?_) vs [] 0 s (by simp) hq h) (fun _ s' hd=>?_) fun _ _ x=>x)
 ·refine z0 (wpAny_attempt (ZK hx (fun k s2 hkk=>?_) fun _ _ hF=>hF.elim));obtain⟨nw,g,Fq,Nq,Uq,cq⟩:=hkk;obtain⟨l1,l2,e0,hg,x1,x2⟩:=Uq.split;rw[e0]at Nq;have ak:=Nq (kS,seqObj "list" (List.toArray qs) e) (Zq _ (.head _));have s1:=ZG s2.heap kS (Obj.mapSeq (·.push k));have ea:(List.toArray qs).push k=List.toArray (qs++[k]):=by simp
  obtain⟨c2,hc2⟩:∃z,(s2.heap.update kS (Obj.mapSeq (·.push k))).get? kS=some (seqObj "list" (List.toArray (qs++[k])) z):=⟨_,by rw[<-ea];exact get?_update_seq ak.1 (·.push k)⟩
  dsimp only;refine z0 (listUpdate_at ak.1 rfl (z9 ⟨rfl,k,c2,hc2,cq _ c2 (kas_fr Fq s1 ak.2.1 ak.2.2) (by rw[hg];exact news_set Nq x1 x2 s1 hc2)⟩) (by rw[Ze];exact eJ (by omega)) (Zy (Nat.le_of_eq (Array.size_push ..)) (by rw[Ze];exact Nat.le_succ_of_le (eJ (by omega)))))
 ·obtain⟨qs,e,hq',hl,fin⟩:=hd;exact z0 (listItems_at hq' rfl (Fg hl h64 fin))
theorem Bj{b:Bool}{f:Value}{n:Nat}{P:PySem.Fin->Shared->Prop}(F:Fr h₀ L s.heap m)(N:News h₀ L s.heap news)(ho:s.heap.get? a=some (seqObj "list" vs.toArray n))(haL:a≠L)(ha0:h₀.get? a=none)(hna:∀ p∈news,p.1≠a)(h64:vs.length<64)(h:∀ kS e1 h',Fr h₀ L h' m->News h₀ L h' ((kS,seqObj "list" #[] 0)::(a,seqObj "list" #[] e1)::news)->a<kS->(∀ q∈news,q.1<kS) ->
   KatKeys prog w A h₀ L m kS f (fun ks e s'=>uT prog w A b ks vs (fun out=>KatFin h₀ L m kS a ks e e1 out (fun s3=>P (.done (.ret .none)) s3)) s') vs [] 0 { s with heap:=h' }) :
  wpAny (model prog w) A (ksk_tree a f b) P E s:=by
 have hz:vs.length<=4096:=by omega
 have la:a<s.heap.objs.size:=Zi ho;have s1:=ZG s.heap a (Obj.mapSeq fun _=>(#[]:Array Value));have F1:=kas_fr F s1 haL ha0;have N1:=kas_news N s1 hna;obtain⟨e1,ho1⟩:∃z,(s.heap.update a (Obj.mapSeq fun _=>(#[]:Array Value))).get? a=some (seqObj "list" #[] z):=⟨_,get?_update_seq ho fun _=>#[]⟩
 have zk:((s.heap.update a (Obj.mapSeq fun _=>(#[]:Array Value))).push (seqObj "tuple" vs.toArray 0)).objs.size=s.heap.objs.size+1:=by rw[size_push',Heap.size_update]
 have lk:L<((s.heap.update a (Obj.mapSeq fun _=>(#[]:Array Value))).push (seqObj "tuple" vs.toArray 0)).objs.size:=(F1.push _).ns.lt;unfold ksk_tree;refine z0 (listItems_at ho rfl (z0 (listUpdate_at ho rfl (z0 (seqEpoch_at ho1 rfl (z0 (wpAny_newTuple (z0 (wpAny_newList (ZT ?_) (ZV _))) (eJ hz))))) (by rw[Ze];exact eJ hz) (ZV _))));refine Db (s:={ s with heap:=((s.heap.update a (Obj.mapSeq fun _=>(#[]:Array Value))).push (seqObj "tuple" vs.toArray 0)).push (seqObj "list" #[] 0) }) (kS:=((s.heap.update a (Obj.mapSeq fun _=>(#[]:Array Value))).push (seqObj "tuple" vs.toArray 0)).objs.size)
  (Zg _ rfl) h64 (h _ e1 _ ((F1.push _).push _) (fun p hp=>?_) (by rw[zk];exact YQ la) fun q hq=>by rw[zk];exact YQ (Zi (N q hq).1))
 rcases Zj.mp hp with rfl|hp
 ·exact⟨Zg _ rfl,Z4 lk,Yz (Zy F.above (Nat.le_of_lt lk))⟩
 ·rcases Zj.mp hp with rfl|hp
  ·exact⟨z6 _ (z6 _ ho1),haL,ha0⟩
  ·exact⟨z6 _ (z6 _ (N1 p hp).1),(N1 p hp).2⟩
theorem Da{b:Bool}{f:Value}{kw:List (Str×Value)}{Q:Value->Shared->Prop}(F:Fr h₀ L s.heap m)(N:News h₀ L s.heap news)(h64:vs.length<64)(ha2:∀ x,argsOk "list.sort" ⟨[.ref x],kw⟩)(ht:∀ x,Builtin.«list.sort» ⟨[.ref x],kw⟩=ksk_tree x f b)(h:∀ D kS e1 h',Fr h₀ L h' m->News h₀ L h' ((kS,seqObj "list" #[] 0)::(D,seqObj "list" #[] e1)::news)->D<kS->(∀ q∈news,q.1<D) ->
   KatKeys prog w A.in1 h₀ L m kS f (fun ks e s'=>uT prog w A.in1 b ks vs (fun out=>KatFin h₀ L m kS D ks e e1 out (fun s4=>Q (.ref D) s4)) s') vs [] 0 { s with heap:=h' }) :
  wpAny (model prog w) A (do let l ←newList vs;let _ ←holding [l] (call (.builtin "list.sort") [l] kw);ret l) (fun fin s'=>∃v,fin=.done (.ret v)/\Q v s') E s:=by
 have hz:vs.length<=4096:=by omega
 have hL:L<s.heap.objs.size:=F.ns.lt;have hoL:(s.heap.push (seqObj "list" vs.toArray 0)).get? s.heap.objs.size=some (seqObj "list" vs.toArray 0):=Zg _ rfl;refine z0 (wpAny_newList ?_ (eJ hz));refine z0 (ZT (wpAny_call_entry_kw slot_list_sort ⟨_,hoL,rfl⟩ entry_list_sort ?body (ha2 _)))
 case body =>
  show wpAny (model prog w) A.in1 (Builtin.«list.sort» ⟨[.ref s.heap.objs.size],kw⟩) _ _ _;rw[ht];refine Bj (s:={ s with heap:=s.heap.push (seqObj "list" vs.toArray 0) }) (F.kept fun b o q=>z6 _ q) (N.grown fun b o q=>z6 _ q) hoL (Z4 hL) (Yz (Zy F.above (Nat.le_of_lt hL))) (fun p hp=>Zn (Zi (N p hp).1)) h64 fun kS e1 h' F' N' l0 l1=>?_;refine kat_keys_mono (h _ kS e1 h' F' N' l0 fun q hq=>Zi (N q hq).1) fun ks e s' _ hd=>⟨fun n2=>ZK (hd.1 n2) (fun κ s2 hk=>?_) fun _ _ x=>x,fun n2=>(hd.2 n2).mono fun s4 hq=>⟨_,rfl,z9 ⟨_,rfl,hq⟩⟩⟩
  obtain⟨lt,O,ask,fin⟩:=hk;exact⟨lt,O,ask,fun p a1 a2=>(fin p a1 a2).mono fun s4 hq=>⟨_,rfl,z9 ⟨_,rfl,hq⟩⟩⟩
end
open PySem PySem.Spec PyProof.Rows PySem.W
inductive IsF(a b:Str)(x:V)(R:V->Prop):Prop
 |mk (z:Str) (h0:x=.str z) (h1:a.length+z.length+b.length<=sizeLine) (q:R (.str (a++z++b))):IsF a b x R
open PySem PySem.Spec PyProof.Rows PySem.W
inductive rStrA(xs:List V)(H:Hp)(Q:VK):Prop
 |int (i:Int) (h0:xs=[.int i]) (h1:i.natAbs<10^4300) (q:Q (.str (cy i)) H):rStrA xs H Q
 |str (z:Str) (h0:xs=[.str z]) (q:Q (.str z) H):rStrA xs H Q
section
variable{X:Cx}{K:PySem.W.Frag}
inductive rNeNil(K:PySem.W.Frag)(x y:V)(H:Hp)(Q:VK):Prop
 |mk (a b:Addr) (xs:List V) (h0:x=.ref a) (h1:y=.ref b) (ha:SqL K H a xs) (hb:SqL K H b []) (q:Q (.bl (!xs.isEmpty)) H):rNeNil K x y H Q
end
open PySem PySem.Spec PyProof.Rows PySem.W
section
variable{X:Cx}{k:Nat}{C:Addr}{m:Str}{ps:List Str}{sp:Sp}{o:Expr}{ta:TE}{pos apos:Pos}
def Gy(tc:TT)(ta tb:TX):TX:=fun σ H Q E=>tc σ H fun d H1=>if d=true then ta σ H1 Q E else tb σ H1 Q E
theorem Ff{c a b:Expr}{tc:TT}{ta tb:TX}(hc:QT X.nox c tc)(ha:QX X a ta)(hb:QX X b tb):QX X (.IfExp c a b pos) (Gy tc ta tb):=by
 refine⟨?_⟩;intro pins s σ H Q E I h;refine wpAny_IfExp (ZK (hc.h pins s σ H _ (I.wish _) h) (fun d s1 ⟨H1,I1,q1⟩=>?_) fun _ _ z=>False.elim z);cases d with
 |true=>exact ha.h pins s1 σ H1 Q E I1.unwish q1
 |false=>exact hb.h pins s1 σ H1 Q E I1.unwish q1
theorem C8{pl:Sem Bool}(F:MFnX X.prog X.w X.K X.mg X.base k C m ps sp)(hr:Room k X.A)(he:QE X.nox o ta)(ht:eval (.Call (.Attribute o m apos) [] [] pos) X.env=(do
   let ov ←eval o X.env
   standAt apos.atName
   let(f,first) ←holding [ov] (getMethod ov m pl)
   callWith pos f first (backTo pos (starEach [] X.env)) (backToKw pos (keywordEach [] X.env))):=by rfl) :
  QX X (.Call (.Attribute o m apos) [] [] pos) (yZ C m sp ta eL):=by
 refine⟨?_⟩;intro pins s σ H Q E I h;obtain⟨f,fd,G,hm,b⟩:=F.ex;refine PySem.W.methodCall_KW (pl:=pl) (ZK (he.h pins s σ H _ (I.wish _) h) (fun u s1 hz9=>?_) fun _ _ z=>False.elim z) ht;obtain⟨y,H1,I1,rx,a,dx,fs,ex,ea,l,q⟩:=hz9;subst ex;obtain rfl:u=Value.ref a:=rx;have I1':=I1.unwish;refine fF I1' ea F.cl hm l ?_;refine PySem.W.callWith_K0 (first:=[.ref a]) I1'.kIn hm.kp ?_;have hb:=b s1 [.ref a] I1'.kIn (by rw[ZO,<-G.len _ _ _ _ q];rfl);rw[ZO]at hb;refine wpAny_call (YL (G.run X.A X.stack s1 H1 ⟨[.ref a],[]⟩ [.ref a] [.ref a] Q E hr I1'.env0 hb (.cons rfl .nil) q) fun r s' hq=>?_);cases r with
 |error e=>exact⟨s1,H1,I1',hq⟩
 |ok fl =>
  cases fl with
  |ret u=>exact I1'.after hq
  |next=>exact False.elim hq
  |brk=>exact False.elim hq
  |cont=>exact False.elim hq
end
open PySem PySem.Spec PyProof.Rows PySem.W
def calm(sp:Sp):Sp:=fun vs H Q _=>sp vs H Q fun _ _ _=>False
theorem FnOk.calm{P:Program}{w:World}{K:PySem.W.Frag}{mg:Str->Option Value}{base:Heap}{k:Nat}{f:Addr}{fd:FuncData}{ps:List Str}{sp:Sp}(F:FnOk P w K mg base (CXr P w) k f fd ps sp):FnOk P w K mg base CX0 k f fd ps (calm sp) where
 len vs H Q _ h:=F.len vs H Q _ h
 run A outer s H a us vs Q E hr he hb hv h:=YL (F.run A outer s H a us vs Q (fun _ _ _=>False) hr he hb hv h) fun r s' hq=>by
  cases r with
  |error e =>obtain⟨_,_,_,_,_,_,_,_,_,_,_,_,_,_,_,_,_,z⟩:=hq;exact z.elim
  |ok fl=>cases fl<;>exact hq
structure MkFnX(P:Program)(w:World)(K:PySem.W.Frag)(mg:Str->Option Value)(base:Heap)(k:Nat)(C:Addr)(x:Str)(ps:List Str)(sp:Sp):Prop where
 cl:Cls K C
 mgC:mg x=some (.ref C)
 ex:∃f fd,FnOk P w K mg base (CXr P w) k f fd ps sp/\Mk K C f/\Binds K fd ps []
open PySem PySem.Spec PyProof.Rows PySem.W
open PySem PySem.Spec PyProof.Rows PySem.W Builtin Builtin.Str
structure QE1(X:Cx)(e:Expr)(t:TE):Prop where
 h:∀(pins:List (Addr×Obj)) (s:Shared) (σ:St) (H:Hp) (Q:VK),1<=s.toks->Inv X pins σ H s->t σ H Q->wpAny (model X.prog X.w) X.A (eval e X.env) (EP X pins σ Q) X.xe s
structure QT1(X:Cx)(e:Expr)(t:TT):Prop where
 h:∀(pins:List (Addr×Obj)) (s:Shared) (σ:St) (H:Hp) (Q:Bool->Hp->Prop),Inv X pins σ H s->t σ H Q->wpAny (model X.prog X.w) X.A (isTrue e X.env (eval e X.env)) (fun b s'=>1<=s'.toks/\TP X pins σ Q b s') X.xe s
structure QS1(X:Cx)(st:Stmt)(t:TS):Prop where
 h:∀(pins:List (Addr×Obj)) (s:Shared) (σ:St) (H:Hp) (D:Ends),Inv X pins σ H s->t D σ H->wpAny (model X.prog X.w) X.A (exec st X.env) (fun f s'=>1<=s'.toks/\SP X pins D f s') X.xe s
structure QB1(X:Cx)(st:List Stmt)(t:TS):Prop where
 h:∀(pins:List (Addr×Obj)) (s:Shared) (σ:St) (H:Hp) (D:Ends),1<=s.toks->Inv X pins σ H s->t D σ H->wpAny (model X.prog X.w) X.A (execs st X.env) (SP X pins D) X.xe s
open PySem PySem.Spec PyProof.Rows PySem.W Builtin
theorem wU(u v:Value):argsOk "max" ⟨[u],[(Str.ofString "default",v)]⟩:=by
 unfold argsOk
 kernel_rfl
theorem wY:bootBuiltins "max" = some (.builtin "max"):=by decide +kernel
section
variable{prog:Program}{w:World}{A:Around}{R:Result->Shared->Prop}{I S:Addr}{fp wr:List Addr}{n:Nat}{P:Nat->Value->Prop}{St:Nat->Heap->Prop}{dv:Value}
theorem xY(W:Walks prog w A.in1 I fp wr n P St)(gt:Nat->Nat->Bool)(cmp:CmpOf prog w A.in1 .Gt P gt)(nS:S∉fp):∀(k j:Nat) (s:Shared) (b0:Value) (c:Nat),n=j+1+k->St (j+1) s.heap->P (argBest gt j) b0 ->
  s.heap.get? S=some { cls:=.type "list",dict:=none,data:=.seq #[b0,b0] c,slots:=#[] } ->
  (∀v h1 tk,P (argBest gt (n-1)) v->(∀b o,b∉wr->b≠S->s.heap.get? b=some o->h1.get? b=some o)->R (.ok (.ret v)) { s with heap:=h1,toks:=tk }) ->
  codeAny (model prog w) A (.builtin "max.loop" ⟨[.ref I,.none,.ref S],[(Str.ofString "default",dv)]⟩) R s:=by
 have nw:S∉wr:=fun z=>nS (W.sub _ z);have nm:(toString "max"++toString ".loop":String)="max.loop":=by decide
 intro k;induction k with
 |zero =>intro j s b0 c en st pb gS fin;subst en;refine codeAny_builtin PySem.F.entry_max_loop ?_;rw[Around.under_plainId Yk _];show wpAny _ A.in1 (seqItems? (.ref S) >>= _) _ _ s;refine z0 (Yd gS rfl ?_);show wpAny _ A.in1 (tryCatch (pyNext (.ref I)) _ >>= _) _ _ s;refine z0 (wpAny_tryCatch (W.done s _ _ st fun h1 tk kp=>?_));show wpAny _ A.in1 (updateSeq S (fun _=>#[]) >>= _) _ _ _;refine z0 (wpAny_updateSeq (kp S _ nw gS) rfl (z0 (wpAny_letGo (z9 ?_))));exact fin b0 _ tk pb fun b o bw bS e=>(ZR _ _ (Z9 bS)).trans (kp b o bw e)
 |succ k ih =>
  intro j s b0 c en st pb gS fin;refine codeAny_builtin PySem.F.entry_max_loop ?_;rw[Around.under_plainId Yk _];show wpAny _ A.in1 (seqItems? (.ref S) >>= _) _ _ s;refine z0 (Yd gS rfl ?_);show wpAny _ A.in1 (tryCatch (pyNext (.ref I)) _ >>= _) _ _ s;refine z0 (wpAny_tryCatch (W.item (j+1) s _ _ (by omega) st fun v h1 tk pv st1 kp=>?_));have gS1:=kp S _ nw gS;show wpAny _ A.in1 (tryCatch (holding [v,v] (richCompare .Gt v b0 >>= _)) _ >>= _) _ _ _;refine z0 (wpAny_tryCatch (ZT (z0 (cmp (j+1) (argBest gt j) v b0 _ _ _ pv pb ?_))));refine z0 (ZT (ZY ?_));refine z0 (wpAny_letGo (z9 ?_));have ab:argBest gt (j+1)=if gt (j+1) (argBest gt j)then j+1 else argBest gt j:=rfl
  cases hb:gt (j+1) (argBest gt j)with
  |true =>
   rw[hb,HV rfl]at ab;simp only[if_true];refine z0 (wpAny_updateSeq gS1 rfl (z0 (wpAny_letGo ?_)));rw[nm];refine z9 ⟨plainId_quiet Yk _,ih (j+1) _ v _ (by omega) (W.frame _ _ _ st1 fun b bf o e=>?_) (by rw[ab];exact pv) (Z0 _ gS1 rfl) fun v1 h2 tk2 pv1 kp2=>?_⟩
   ·exact(ZR _ _ (fun z:S=b=>nS (by rw[z];exact bf))).trans e
   ·exact fin v1 h2 tk2 pv1 fun b o bw bS e=>kp2 b o bw bS ((ZR _ _ (Z9 bS)).trans (kp b o bw e))
  |false =>rw[hb,HU Zh]at ab;simp only[Yn,YB];refine z0 (wpAny_letGo ?_);rw[nm];refine z9 ⟨plainId_quiet Yk _,ih (j+1) _ b0 c (by omega) st1 (by rw[ab];exact pb) gS1 fun v1 h2 tk2 pv1 kp2=>?_⟩;exact fin v1 h2 tk2 pv1 fun b o bw bS e=>kp2 b o bw bS (kp b o bw e)
theorem vA(W:Walks prog w A.in1 I fp wr n P St)(gt:Nat->Nat->Bool)(cmp:CmpOf prog w A.in1 .Gt P gt)(nS:S∉fp){s:Shared}{c:Nat}(st:St 0 s.heap)(gS:s.heap.get? S=some { cls:=.type "list",dict:=none,data:=.seq #[] c,slots:=#[] })(fin:∀v h1 tk,(n=0/\v=dv)\/(0<n/\P (argBest gt (n-1)) v)->(∀b o,b∉wr->b≠S->s.heap.get? b=some o->h1.get? b=some o)->R (.ok (.ret v)) { s with heap:=h1,toks:=tk }) :
  codeAny (model prog w) A (.builtin "max.loop" ⟨[.ref I,.none,.ref S],[(Str.ofString "default",dv)]⟩) R s:=by
 have nw:S∉wr:=fun z=>nS (W.sub _ z);have nm:(toString "max"++toString ".loop":String)="max.loop":=by decide
 refine codeAny_builtin PySem.F.entry_max_loop ?_;rw[Around.under_plainId Yk _];show wpAny _ A.in1 (seqItems? (.ref S) >>= _) _ _ s;refine z0 (Yd gS rfl ?_);show wpAny _ A.in1 (tryCatch (pyNext (.ref I)) _ >>= _) _ _ s;cases hn:n with
 |zero =>subst hn;refine z0 (wpAny_tryCatch (W.done s _ _ st fun h1 tk kp=>?_));refine z0 (wpAny_rule (z9 ?_));exact fin dv _ tk (.inl ⟨rfl,rfl⟩) fun b o bw _ e=>kp b o bw e
 |succ m =>
  refine z0 (wpAny_tryCatch (W.item 0 s _ _ (by omega) st fun v h1 tk pv st1 kp=>?_));have gS1:=kp S _ nw gS;show wpAny _ A.in1 (updateSeq S (fun _=>#[v,v]) >>= _) _ _ _;refine z0 (wpAny_updateSeq gS1 rfl ?_);rw[nm];refine z9 ⟨plainId_quiet Yk _,xY W gt cmp nS m 0 _ v _ (by omega) (W.frame _ _ _ st1 fun b bf o e=>?_) pv (Z0 _ gS1 rfl) fun v1 h2 tk2 pv1 kp2=>?_⟩
  ·exact(ZR _ _ (fun z:S=b=>nS (by rw[z];exact bf))).trans e
  ·exact fin v1 h2 tk2 (.inr ⟨by omega,pv1⟩) fun b o bw bS e=>kp2 b o bw bS ((ZR _ _ (Z9 bS)).trans (kp b o bw e))
end
section
variable{prog:Program}{w:World}{A:Around}{E:Value->Shared->Prop}{s:Shared}{l:Addr}{xs:Array (Int×Tok)}{dv:Value}
theorem xX{Q:Value->Shared->Prop}(hh:A.handled=none)(hl:s.heap.IsList l (intItems xs))(h:∀v h1 tk,(xs.size=0/\v=dv)\/(0<xs.size/\(intItems xs)[argBest (fun i j=>decide (numAt xs i>numAt xs j)) (xs.size-1)]?=some v)->(∀b o,s.heap.get? b=some o->h1.get? b=some o)->Q v { s with heap:=h1,toks:=tk }) :
  wpAny (model prog w) A (call (.builtin "max") [.ref l] [(Str.ofString "default",dv)]) Q E s:=by
 have nm:(toString "max"++toString ".loop":String)="max.loop":=by decide
 have sz0:(intItems xs).size=xs.size:=by simp[intItems]
 refine kmk_tree PySem.F.kind_max PySem.F.plain_max PySem.F.entry_max (wU _ _) ?_;show wpAny _ A.in1 (Builtins.bindParams "max" ["key","default"] 0 ⟨[],[(Str.ofString "default",dv)]⟩ >>= _) _ _ s;refine z0 (wpAny_of_eq (show Builtins.bindParams "max" ["key","default"] 0 ⟨[],[(Str.ofString "default",dv)]⟩=pure [none,some dv]from rfl) ?_);refine z0 (z9 (z0 (iter_intList hl fun s2 e st hfp hlI=>?_)));subst e;refine z0 (ZB ?_);have W:=Walks.list (prog:=prog) (w:=w) (A:=A.in1) hh _ l hlI (intItems xs);rw[nm];refine z9 ⟨plainId_quiet Yk _,vA W _ (CmpOf.ints_gt (numAt xs) fun _ _=>intItems_at) (fun m=>Yh _ (hfp _ m)) (W.frame _ _ _ st fun b _ o e=>z6 _ e) (Zg _ rfl) fun v h1 tk hv kp=>?_⟩;rw[sz0]at hv;refine h v h1 tk hv (old_kept fun b o hb e=>kp b o hb (Zn (Zi e)) (z6 _ e))
end
section
variable{X:Cx}{e:Expr}{te:TE}{p pos kpos:Pos}{kd:Nat}{np:Pos}
def Gc(K:PySem.W.Frag)(t:TA):TE:=fun σ H Q=>t σ H fun vs H1=>∃(a:Addr) (ns:List Int),vs=[.ref a]/\SqL K H1 a (ns.map V.int)/\(ns=[]->Q .non H1)/\∀M,M∈ns->(∀x∈ns,x<=M)->Q (.int M) H1
theorem EM{ta:TA}(hc:X.calm=true)(hm:X.mg "max" = none)(ha:QA X [e] ta)(hg:Gl X "max":=by rfl)(hn:aR e=true:=by rfl) :
  QE X (.Call (.Name "max" p) [e] [⟨some "default",.Constant .none kd np,kpos⟩] pos) (Gc X.K ta):=by
 refine⟨?_⟩;intro pins s σ H0 Q I h;refine YM (eE I hg hm wY ?_);have h1:=aY (es:=[]) (env:=X.env) hn;refine PyProof.Rows.callWith_kw (thn (ha.h pos pins s σ H0 _ I h) fun us s1 hz9=>?_) (he:=by rw[h1];rfl) (hplain:=by rw[h1];rfl) (hall:=rfl) (hkw:=rfl);obtain⟨vs,H1,I1,r1,q1⟩:=hz9;obtain⟨l,ns,rfl,hS,qn,q⟩:=q1;obtain⟨u,rfl,ru⟩:=cj r1;cases ru;have hk:PK X [⟨some "default",.Constant .none kd np,kpos⟩] (fb (tC .non) eL):=uq (bA (X:=X)).h yw;refine thn (hk pos pins s1 σ H1 (fun zs H2=>zs=[.non]/\H2=H1) I1 ⟨rfl,rfl⟩) fun ws s2 hz9=>?_;obtain⟨zs,H2,I2,rz,hz,hH⟩:=hz9;subst hz;subst hH;obtain⟨u,rfl,ru⟩:=cj rz;cases ru;obtain⟨its,rv,pl,_⟩:=I2.list hS;obtain⟨ys,e1,e2⟩:=fG (ce rv);have hl:s2.heap.IsList l (intItems ys.toArray):=by have:=pl.isList;rw[e1]at this;simpa[intItems]using this
 refine xX (I2.ok.hd hc) hl fun v h' tk hv hk=>?_;have num:∀j (hj:j<ys.length),numAt ys.toArray j=(ys[j]).1:=fun j hj=>by simp[numAt,hj]
 rw[Ze]at hv;rcases hv with⟨hz,rfl⟩|⟨hp,hv⟩
 ·refine⟨.non,H2,I2.kept (t':=tk) hk,rfl,qn ?_⟩;rw[e2,List.eq_nil_of_length_eq_zero hz];rfl
 ·obtain⟨b1,b2⟩:=argBest_gt (numAt ys.toArray) (ys.length-1);obtain⟨t,rfl⟩:=intItems_at hv;generalize argBest (fun i j=>decide (numAt ys.toArray i>numAt ys.toArray j)) (ys.length-1)=k at b1 b2 ⊢;have hk':k<ys.length:=by omega
  refine⟨.int (numAt ys.toArray k),H2,I2.kept (t':=tk) hk,⟨t,rfl⟩,q _ ?_ fun x hx=>?_⟩
  ·rw[e2,num k hk'];exact Zt.mpr ⟨ys[k],ZF hk',rfl⟩
  ·rw[e2]at hx;obtain⟨y,hy,rfl⟩:=Zt.mp hx;obtain⟨j,hj,rfl⟩:=List.getElem_of_mem hy;have:=b2 j (by omega);rw[num j hj]at this;exact this
end
open PySem PySem.Spec PyProof.Rows PySem.W
section
variable{X:Cx}{pins:List (Addr×Obj)}{σ:St}{H:Hp}{s:Shared}{h':Heap}
theorem tI{b:Bool}{kw:List (Str×Value)}{ks:List ZKey}{xs:List V}{f l:Addr}{sp:Sp}{Q:VK}(I:Inv X pins σ H s)(src:zG X s l xs)(h64:xs.length<64)(hl:ks.length=xs.length)(hB:∀k∈ks,∃ns,k=.t ns/\ns≠[])(hs1:argsOk "sorted" ⟨[.ref l],kw⟩)(hs2:∀x,argsOk "list.sort" ⟨[.ref x],kw⟩)(hs3:∀x,Builtin.«list.sort» ⟨[.ref x],kw⟩=ksk_tree x (.ref f) b)(F:∀l,uR (wX X l) pins σ f sp)(spec:∀(i:Nat) (v:V) (key:ZKey) (H':Hp),xs[i]?=some v->ks[i]?=some key->Same H H'->∀R:VK,(∀kv H'',Same H' H''->key.at H'' kv->R kv H'')->sp [v] H' R E0)(q:∀(p:Array Nat) (H2:Hp) (D:Addr),POk xs.length p->LS (fun i j=>HT.lexLt ((katRev b (ks.map ZKey.nums)).getD i []) ((katRev b (ks.map ZKey.nums)).getD j [])) p xs.length->Same H H2->H2 D=none->Q (.ref D) (upd H2 D (.lst (katRev b (p.toList.map fun i=>(katRev b xs).getD i .non))))) :
  wpAny (model X.prog X.w) X.A (call (.builtin "sorted") [.ref l] kw) (EP X pins σ Q) X.xe s:=by
 have hz:xs.length<=4096:=by omega
 refine call_function_entry_kw kind_sorted plain_sorted entry_sorted hs1 ?_;unfold Builtin.«sorted»;refine z0 (m:=checkCount "sorted" 1 1 _) (z9 (z0 (src _ fun h0 tk its kp rv=>?_)));have I0:Inv X pins σ H { s with heap:=h0,toks:=tk }:=I.kept (t':=tk) kp;obtain⟨m,F0⟩:=I0.fr;have li:its.length=xs.length:=rv.length.symm;refine Da (vs:=its) (b:=b) F0 (hG X.base h0 X.env.locals) (by omega) hs2 hs3 fun D kS e1 h1 F1 N1 hDk hD=>?_;have nD:=N1 (D,seqObj "list" #[] e1) (.tail _ (.head _));have nK:=N1 (kS,seqObj "list" #[] 0) (.head _);have hds:h0.get? D=none:=by
  cases g:h0.get? D with
  |none=>rfl
  |some o=>exact absurd (hD (D,o) (cS g nD.2.1 nD.2.2)) (Yh _)
 have hks:h0.get? kS=none:=by
  cases g:h0.get? kS with
  |none=>rfl
  |some o=>exact absurd (Nat.lt_trans hDk (hD (kS,o) (cS g nK.2.1 nK.2.2))) (Yh _)
 have xk:=I0.exOk hks nK.2.1 nK.2.2;have xd:=I0.exOk hds nD.2.1 nD.2.2;have hlx:∀b∈[kS,D],ExOk X b:=fun b' hb=>by
  simp only[Zj,ZN,Ym]at hb;rcases hb with rfl|rfl
  ·exact xk
  ·exact xd
 have fpk:=I0.fpW (l:=[kS,D]) (by simp) xk hks;have fpd:=I0.fpW (l:=[kS,D]) (by simp) xd hds;have mv0:∀b u,b≠X.env.locals->b∉([]:List Addr)->h0.get? b=some u->h1.get? b=some u:=fun b u hL _ g=>by
  cases qb:X.base.get? b with
  |none=>exact(N1 (b,u) (.tail _ (.tail _ (cS g hL qb)))).1
  |some o =>have e':=I0.bk b o qb;rw[g]at e';cases e';exact F1.keep b u qb
 have I1:Inv X pins σ H { s with heap:=h1,toks:=tk }:=Inv.movedF (ch:=[]) (s:={ s with heap:=h0,toks:=tk }) (t':=tk) I0 (fun b hb=>absurd hb (by simp)) mv0 ⟨m,F0.ns,F1.ns⟩;have I2:=I1.widen hlx;have hkd:kS≠D:=Z4 hDk;refine mE (X:=wX X [kS,D]) (H1:=H) (D:=D) (e1:=e1) (ks:=ks) (xs:=xs) (its:=its) hkd rv hl (F _) spec (fun as us e2 H' s' S la=>?_) its [] [] 0 H { s with heap:=h1,toks:=tk } ⟨I2,Same.refl H,fpk,fpd,nK.2.2,nD.2.2,nK.1,nD.1,F1.ns,.nil,fun i a k h=>by simp at h⟩ (by simp) (by simpa using li);have hN:its.length=xs.length:=li;have lu:us.length=xs.length:=by rw[<-S.vals.length,la]
 have rvR:Vals (katRev b xs) (katRev b its):=sF b rv;have lR:(katRev b xs).length=xs.length:=kat_len b xs;have gk:∀i,i<xs.length->∃(v:V) (u:Value) (k:ZKey),RelV v u/\(katRev b us).getD i Value.none=u/\k∈ks/\(katRev b (ks.map ZKey.nums)).getD i []=k.nums/\k.at H' v:=fun i hi=>by
  obtain⟨j,hj,e1⟩:∃j,j<xs.length/\∀{α:Type} (l:List α),l.length=xs.length->(katRev b l)[i]?=l[j]?:=by
   cases b with
   |false=>exact⟨i,hi,fun l _=>rfl⟩
   | true=>exact⟨xs.length - 1 - i,by omega,fun l hl'=>by
     show l.reverse[i]?=_;rw[List.getElem?_reverse (by omega),hl']⟩
  have h1:as[j]?=some (as[j]'(by omega)):=Zd (by omega);have h2:ks[j]?=some (ks[j]'(by omega)):=Zd (by omega);obtain⟨u,gu,ru⟩:=S.vals.get h1;refine⟨_,u,_,ru,?_,ZF (show j<ks.length by omega),?_,S.keys j _ _ h1 h2⟩
  ·rw[Zw,e1 us lu,gu];rfl
  ·rw[Zw,e1 (ks.map ZKey.nums) (by rw[Za,hl]),Zx,h2];rfl
 have fin:∀p:Array Nat,POk xs.length p->p.size=xs.length/\LS (fun i j=>HT.lexLt ((katRev b (ks.map ZKey.nums)).getD i []) ((katRev b (ks.map ZKey.nums)).getD j [])) p xs.length ->
   KatFin X.base X.env.locals m kS D us e2 e1 (katRev b (p.toList.map fun i=>(katRev b its).getD i Value.none)) (fun s4=>EP X pins σ Q (.ref D) s4) s':=fun p hp hs=>by
  refine KatFin.intro (news:=(kS,seqObj "list" (List.toArray us) e2)::fV X.base s'.heap X.env.locals kS) S.fr (gj S.hk S.fk.2.1 S.bk) (.head iS) fun h3 c F3 N3=>?_;have mv3:=gi (fun b' o qb=>S.I.bk b' o qb) F3 N3;have hd3:h3.get? D=some (seqObj "list" #[] e1):=mv3 D _ S.fd.2.1 (fun zz=>hkd (Zf.mp zz).symm) S.hd;refine KasFin.intro (news:=(D,seqObj "list" #[] e1)::fV X.base h3 X.env.locals D) (s:={ s' with heap:=h3 }) F3 (gj hd3 S.fd.2.1 S.bd) (.head iS) fun h4 c4 F4 N4=>?_;have mv4:=gi (fun b' o qb=>F3.keep b' o qb) F4 N4;have hch:∀b∈[kS,D],bH (wX X [kS,D]) pins H' b:=fun b' hb=>by
   simp only[Zj,ZN,Ym]at hb;rcases hb with rfl|rfl
   ·exact S.fk
   ·exact S.fd
  have mv:∀b u,b≠X.env.locals->b∉[kS,D]->s'.heap.get? b=some u->h4.get? b=some u:=fun b' u hL hx g=>mv4 b' u hL (fun zz=>hx (by rw[Zf.mp zz];simp)) (mv3 b' u hL (fun zz=>hx (by rw[Zf.mp zz];simp)) g);have pl:∀i∈p.toList,i<xs.length:=fun i hi=>by have:=(hp.mem_iff).mp (Array.mem_toList_iff.mp hi);simpa using this
  have vals:∀(w:List Nat),(∀i∈w,i<xs.length)->Vals (w.map fun i=>(katRev b xs).getD i .non) (w.map fun i=>(katRev b its).getD i Value.none):=fun w=>by
   induction w with
   |nil=>intro _;exact .nil
   |cons i w ih =>intro hw;have hi:=hw i y4;have hx:(katRev b xs)[i]?=some ((katRev b xs)[i]'(by omega)):=Zd (by omega);obtain⟨u,gu,ru⟩:=rvR.get hx;refine .cons ?_ (ih fun j hj=>hw j (ZA _ hj));show RelV ((katRev b xs).getD i V.non) ((katRev b its).getD i Value.none);rw[Zw,Zw,hx,gu];exact ru
  have lp:p.toList.length=xs.length:=by have:=hs.1;simpa using this
  have new:ObjOk X.prog X.w (upd H' D (.lst (katRev b (p.toList.map fun i=>(katRev b xs).getD i .non)))) h4 D (.lst (katRev b (p.toList.map fun i=>(katRev b xs).getD i .non))):=⟨by rw[kat_len,Za,lp];exact eJ (by omega),_,c4,sF b (vals _ pl),(N4 _ (.head _)).1⟩
  have I4:=Inv.tookF (X:=wX X [kS,D]) (ch:=[kS,D]) (a:=D) (o:=.lst (katRev b (p.toList.map fun i=>(katRev b xs).getD i .non))) (t':=s'.toks) S.I (by simp) hch mv ⟨m,S.ns,F4.ns⟩ new;exact⟨.ref D,_,I4.narrow I.ok (fun b' hb=>(hlx b' hb).old),rfl,q p H' D hp hs.2 S.sm S.fd.1⟩
 have go:∀κ:SortKind,(∀(i j:Nat) (C:Bool->Shared->Prop),i<xs.length->j<xs.length->C (HT.lexLt ((katRev b (ks.map ZKey.nums)).getD i []) ((katRev b (ks.map ZKey.nums)).getD j [])) s'->kas_ask X.prog X.w X.A.in1.in1 κ (katRev b us) i j C s') ->
   ZGo X.prog X.w X.A.in1.in1 b us its (fun out=>KatFin X.base X.env.locals m kS D us e2 e1 out (fun s4=>EP X pins σ Q (.ref D) s4)) κ s':=fun κ hask=>by
  refine⟨_,xV (katRev b (ks.map ZKey.nums)),?_,?_⟩
  ·rw[hN];exact hask
  ·rw[hN];exact fun p hp hs=>fin p hp ⟨by have:=hp.size_eq;simpa using this,hs⟩
 refine⟨fun n2=>?_,fun n2=>?_⟩
 rotate_left
 ·have:=fin (List.toArray (List.range its.length)) (by rw[hN];exact Array.Perm.refl _) ⟨by simpa using hN,fun i j h1 h2=>by omega⟩;rw[List.toList_toArray]at this;exact this
 have tups:∀(vs:List V) (ws:List Value) (n:Nat),Vals vs ws->n+vs.length=ks.length->(∀(i:Nat) (v:V) (k:ZKey),vs[i]?=some v->ks[n+i]?=some k->k.at H' v)->∃fs:List Value,KatTups s'.heap ws fs/\fs.length=ws.length/\∀v∈fs,∃i t,v=.int i t:=fun vs=>by
  induction vs with
  |nil =>intro ws n hv _ _;cases hv;exact⟨[],KatTups.nil,rfl,fun v h=>nomatch h⟩
  |cons v vs ih =>
   intro ws n hv hl' h;cases hv with
   |cons rv1 hv =>
    rw[Zl]at hl';have hkn:ks[n]?=some (ks[n]'(by omega)):=Zd (by omega);obtain⟨ns,en,ne⟩:=hB _ (ZF (show n<ks.length by omega));rw[en]at hkn;obtain⟨a,rfl,ea⟩:=h 0 v _ rfl (by rw[Nat.add_zero];exact hkn);cases rv1;obtain⟨ia,ra,pa,za⟩:=S.I.tuple (SqT.of (K:=X.K) ea);obtain⟨oa,eo,ca,n1,da⟩:=id pa;obtain⟨x,t,ia',rfl⟩:∃x t r,ia=.int x t::r:=by
     cases ce ra with
     |nil=>exact absurd rfl ne
     |cons x t r=>exact⟨x,t,_,rfl⟩
    obtain⟨fs,f1,f2,f3⟩:=ih _ (n+1) hv (by omega) (fun i w k' h1 h2=>h (i+1) w k' h1 (by rw[show n+(i+1)=n+1+i by omega];exact h2));refine⟨.int x t::fs,KatTups.cons eo ca da rfl f1,by rw[Zl,Zl,f2],fun v hv=>?_⟩;rcases Zj.mp hv with rfl|hv
    ·exact⟨_,_,rfl⟩
    ·exact f3 v hv
 obtain⟨fs,t1,t2,t3⟩:=tups as us 0 S.vals (by omega) (fun i v k h1 h2=>S.keys i v k h1 (by rw[Nat.zero_add]at h2;exact h2));refine kat_kind (T:=.type "int") t1 (by omega) (fun v hv=>?_) rfl (go _ fun i j C hi hj hC=>?_)
 ·obtain⟨i,t,rfl⟩:=t3 v hv;exact .now
 ·obtain⟨v,u,k1,ru,eu,m1,en,at1⟩:=gk i hi;obtain⟨v2,u2,k2,ru2,eu2,m2,en2,at2⟩:=gk j hj;obtain⟨n1,rfl,_⟩:=hB _ m1;obtain⟨n2,rfl,_⟩:=hB _ m2;obtain⟨a1,rfl,ha1⟩:=at1;obtain⟨a2,rfl,ha2⟩:=at2;cases ru;cases ru2;obtain⟨ia,ra,pa,za⟩:=S.I.tuple (SqT.of (K:=X.K) ha1);obtain⟨ib,rb,pb,zb⟩:=S.I.tuple (SqT.of (K:=X.K) ha2);obtain⟨oa,eoa,ca,q1,da⟩:=id pa;obtain⟨ob,eob,cb,q2,db⟩:=id pb;unfold kas_ask;rw[eu,eu2];rw[en,en2]at hC;exact kat_lt eoa da eob db (kl _ _ _ _ 0 (ce ra) (ce rb) (by rw[Ze,Ze,<-ra.length,<-rb.length,Za,Za]) hC)
end
def De(ks:List ZKey):Prop:=False\/∀k∈ks,∃ns,k=.t ns/\ns≠[]
def E9(sp:Hp->List V->Hp->VK->Prop)(sm:Hp->Hp->Prop)(end':Hp->Prop)(H:Hp)(xs:List V)(ks:List ZKey)(Q:VK):Prop :=
 xs.length<64/\ks.length=xs.length/\De ks /\
 (∀(i:Nat) (v:V) (key:ZKey) (H':Hp),xs[i]?=some v->ks[i]?=some key->sm H H'->∀R:VK,(∀kv H'',Same H' H''->key.at H'' kv->R kv H'')->sp H' [v] H' R) /\
 ∀(p:Array Nat) (H2:Hp) (D:Addr),POk xs.length p->LS (fun i j=>HT.lexLt ((ks.map ZKey.nums).getD i []) ((ks.map ZKey.nums).getD j [])) p xs.length->sm H H2->end' H2->H2 D=none->Q (.ref D) (upd H2 D (.lst (p.toList.map fun i=>xs.getD i .non)))
def C3(P:Addr)(q:Str)(lpos:Pos)(sp:Sp)(ta:TA):TE:=fun σ H0 Q=>ta σ H0 fun vs H=>∃(l:Addr) (xs:List V) (ks:List ZKey),vs=[.ref l]/\SrcH H l xs/\bh q P lpos H/\E9 (fun _ vs H Q=>sp vs H Q E0) (SameT P) (bh q P lpos) H xs ks Q
section
variable{X:Cx}{c P:Addr}{pins:List (Addr×Obj)}{σ:St}
theorem AR{k:Nat}{x:Str}{sp:Sp}{e body:Expr}{params:Arguments}{scope:Scope}{ta:TA}{p lpos kpos pos:Pos}(hc:X.calm=true)(hm:X.mg "sorted" = none)(hcode:X.env.code=.ref c)(C:CodeHd X.base c P)(B:Blt X.base X.mg)(F:LamOk X.prog X.w X.K X.mg X.base k (X.env.qual++"<lambda>") body scope x sp)(hr:Room (k+3) X.A)(ha:QA X [e] ta)(hbd:∀(pm ct:Value) (c':Addr) (s:Shared) (u:Value),BindsTo s (qi (X.env.qual++"<lambda>") params body scope [] pm c' ct) ⟨[u],[]⟩ [(x,u)]:=by intros;exact .of_eq rfl)(hge:X.env.globals=mainGlobals:=by rfl)(hdef:defaultsOf params X.env=([],[]):=by rfl)(hcl:closureFor scope X.env=pure []:=by rfl)(hg:Gl X "sorted":=by rfl)(hn:aR e=true:=by rfl) :
  QE X (.Call (.Name "sorted" p) [e] [⟨some "key",.Lambda params body scope lpos,kpos⟩] pos) (C3 P (X.env.qual++"<lambda>") lpos sp ta):=by
 refine⟨?_⟩;intro pins s σ H0 Q I h;obtain⟨N,S,len,hbody⟩:=F.ex;refine YM (eE I hg hm PyProof.Rows.boot_sorted ?_);have h1:=aY (es:=[]) (env:=X.env) hn;refine PyProof.Rows.callWith_kw (thn (ha.h pos pins s σ H0 _ I h) fun us s1 hz9=>?_) (he:=by rw[h1];rfl) (hplain:=by rw[h1];rfl) (hall:=rfl) (hkw:=rfl);obtain⟨vs,H1,I1,r1,q1⟩:=hz9;obtain⟨l,xs,ks,rfl,hH,tab,h64,hl,hne,spec,q⟩:=q1;have hz:xs.length<=4096:=by omega
 obtain⟨u,rfl,ru⟩:=cj r1;cases ru;have hk:PK X [⟨some "key",.Lambda params body scope lpos,kpos⟩] (fb (wz [] X P params body scope lpos) eL):=uq (Cy hcode hge C B hdef hcl) yw;refine thn (hk pos pins s1 σ H1 (fun zs H2=>∃f,zs=[.ref f]/\tK X P (X.env.qual++"<lambda>") lpos params body scope [] H1 f H2) I1 (Al tab fun f H2 mk=>⟨f,rfl,mk⟩)) fun ws s2 hz9=>?_;obtain⟨zs,H2,I2,rz,f,e1,mk⟩:=hz9;subst e1;obtain⟨u,rfl,ru⟩:=cj rz;cases ru;obtain⟨c',ct,sT,lt,hf,hc',nf,nc⟩:=mk;have F1:FnOk X.prog X.w X.K X.mg X.base CX0 (k+1) f (qi (X.env.qual++"<lambda>") params body scope [] ((X.mg "__name__").getD .none) c' ct) [x] _:=DP (params:=params) (pm:=(X.mg "__name__").getD .none) (ct:=ct) (c':=c') S len fun A outer s H vs Q E hr' hs=>let⟨t,t1,t2⟩:=hbody f c' A outer s H vs Q E hr' hs;⟨t,t1.h,t2⟩
 refine tI (b:=false) I2 (CZ hc I2 (hH.moved tab sT) hz) h64 hl (hne.elim False.elim id) (ksk_s1 _ _) (fun x=>ksk_l1 _ _) (fun x=>ksk_t1 f x) (CT F1 (fun s u _=>hbd _ _ _ s u) (hr.mono (by omega) |>.in1 |>.in1)) (fun i v key H' g1 g2 g3 R hR=>⟨g3 _ _ hf,g3 _ _ hc',spec i v key H' g1 g2 (sT.trans (.of g3)) R hR⟩) fun p H3 D a1 a2 a3 a4=>q p H3 D a1 a2 (sT.trans (.of a3)) ?_ a4;obtain⟨ps',e1,e2,e3⟩:=lt;exact⟨ps',a3 _ _ e1,e2,e3.imp id fun⟨c'',z1,z2⟩=>⟨c'',z1,a3 _ _ z2⟩⟩
end
end L2
set_option maxRecDepth 100000
set_option maxHeartbeats 4000000
namespace K43
open PySem L2
open PyProof.Rows (envOfC)
open PySem.W (envX CodeHd)
def top(i:Nat):Stmt:=PySem.Challenge.pw_limb_k43_what_a_hand_does.main.body.getD i (.Pass ⟨0,0,0,0⟩)
theorem cxK{CX:CXT}{N:List Str}{qual:Str}{scope:Scope}{f:Addr}{cd:Value}{A:Around}{outer:List Env}{s:Shared}{H:Hp}{E:XK}:(dM CX P w K mg base N qual scope f cd A outer s H E).nox.K=K:=rfl
theorem vix{K:PySem.W.Frag}{i:Nat}{n:Int}{σ:St}{H:Hp}{Q:VK}{a:Addr}{xs:List V}{v:V}(hv:σ[i]?=some (some (.ref a)))(hs:SqT K H a xs)(ha:atI xs n=some v)(q:Q v H):tOp (rIxT K) (tVar i) (tC (.int n)) σ H Q:=⟨_,hv,a,_,_,_,rfl,rfl,hs,ha,q⟩
theorem oU{K:PySem.W.Frag}{a:Addr}{xs:List V}{g:TG}{tb:L2.TS}{D:Ends}{σ:St}{H:Hp}(Pv:Nat->St->Hp->Prop)(h0:Pv 0 σ H)(hl:∀i σ H,i<=xs.length->Pv i σ H->SqL K H a xs)(hs:∀i x σ H,xs[i]?=some x->Pv i σ H->∀D':Ends,(∀σ' H',Pv (i+1) σ' H'->D'.nx σ' H')->g x σ H fun σ2 H2=>tb D' σ2 H2)(hd:∀σ H,Pv xs.length σ H->D.nx σ H) :
  ∃W:Nat->Nat->St->Hp->Prop,(∃m,W 0 m σ H)/\∀i m σ H,W i m σ H ->
   ((Itl K a).stop i H/\D.nx σ H)\/((Itl K a).go i H/\∃N:St->Hp->Prop,(∀σ' H',N σ' H'->∃m',m'<m/\W (i+1) m' σ' H')/\∀x H',(Itl K a).yld i H x H'->g x σ H' fun σ2 H2=>tb { D with nx:=N,ct:=N,bk:=D.nx } σ2 H2) :=
 qU Pv h0 hl (fun i x σ H a b=>hs i x σ H a b _ fun _ _ z=>z) hd
theorem xB{K:PySem.W.Frag}{a:Addr}{xs:List V}{j:Nat}{tb:L2.TS}{D:Ends}{σ:St}{H:Hp}(Pv:Nat->St->Hp->Prop)(h0:Pv 0 σ H)(hl:∀i σ H,i<=xs.length->Pv i σ H->SqL K H a xs)(hs:∀i x σ H,xs[i]?=some x->Pv i σ H->∀D':Ends,(∀σ' H',Pv (i+1) σ' H'->D'.nx σ' H')->tb D' (σ.set j (some x)) H)(hd:∀σ H,Pv xs.length σ H->D.nx σ H) :
  ∃W:Nat->Nat->St->Hp->Prop,(∃m,W 0 m σ H)/\∀i m σ H,W i m σ H ->
   ((Itl K a).stop i H/\D.nx σ H)\/((Itl K a).go i H/\∃N:St->Hp->Prop,(∀σ' H',N σ' H'->∃m',m'<m/\W (i+1) m' σ' H')/\∀x H',(Itl K a).yld i H x H'->bz j x σ H' fun σ2 H2=>tb { D with nx:=N,ct:=N,bk:=D.nx } σ2 H2) :=
 oU Pv h0 hl hs hd
theorem vm{lo:Int}{n:Nat}{g:TG}{tb:L2.TS}{D:Ends}{σ:St}{H:Hp}(Pv:Nat->St->Hp->Prop)(h0:Pv 0 σ H)(hs:∀i σ H,i<n->Pv i σ H->∀D':Ends,(∀σ' H',Pv (i+1) σ' H'->D'.nx σ' H')->g (.int (lo+i)) σ H fun σ2 H2=>tb D' σ2 H2)(hd:∀σ H,Pv n σ H->D.nx σ H) :
  ∃W:Nat->Nat->St->Hp->Prop,(∃m,W 0 m σ H)/\∀i m σ H,W i m σ H ->
   ((Itr lo n).stop i H/\D.nx σ H)\/((Itr lo n).go i H/\∃N:St->Hp->Prop,(∀σ' H',N σ' H'->∃m',m'<m/\W (i+1) m' σ' H')/\∀x H',(Itr lo n).yld i H x H'->g x σ H' fun σ2 H2=>tb { D with nx:=N,ct:=N,bk:=D.nx } σ2 H2) :=
 xC Pv h0 (fun i σ H a b=>hs i σ H a b _ fun _ _ z=>z) hd
theorem bu{t u:L2.TS}{D:Ends}{σ:St}{H:Hp}(h:∀R:Ends,(∀σ' H',u D σ' H'->R.nx σ' H')->t R σ H):wA t u D σ H:=h { D with nx:=u D } fun _ _ z=>z
theorem xz{K:PySem.W.Frag}{a:Addr}{xs:List V}{i j:Nat}{tb:L2.TS}{D:Ends}{σ:St}{H:Hp}(Pv:Nat->St->Hp->Prop)(h0:Pv 0 σ H)(ha:∀i σ H,i<=xs.length->Pv i σ H->SqL K H a xs)(hs:∀k x σ H,xs[k]?=some x->Pv k σ H->∀D':Ends,(∀σ' H',Pv (k+1) σ' H'->D'.nx σ' H')->∀T,H T=none->tb D' ((σ.set i (some (.int k))).set j (some x)) (upd H T (.tup [.int k,x])))(hd:∀σ H,Pv xs.length σ H->D.nx σ H) :
  ∃W:Nat->Nat->St->Hp->Prop,(∃m,W 0 m σ H)/\∀k m σ H,W k m σ H ->
   ((Ite K a xs).stop k H/\D.nx σ H)\/((Ite K a xs).go k H/\∃N:St->Hp->Prop,(∀σ' H',N σ' H'->∃m',m'<m/\W (k+1) m' σ' H')/\∀x H',(Ite K a xs).yld k H x H'->ji K 2 (dJ (bz i) (dJ (bz j) jh)) x σ H' fun σ2 H2=>tb { D with nx:=N,ct:=N,bk:=D.nx } σ2 H2) :=
 zZ Pv h0 ha (fun k x σ H a b T c=>hs k x σ H a b _ (fun _ _ z=>z) T c) hd
abbrev TxS:={s:Str // PyData.strOk s=true}
inductive Wh
 |no
 |put (m:Int)(s:TxS)
 |itm (b:Bool)(h k:Int)
 |trn (b:Bool)(k:Int)
def tkW(b:Bool):Str:=if b then"back" else"take"
def ofW(b:Bool):Str:=if b then"on" else"off"
structure Dd where
 h:Nat
 ns:List Int
 w:Wh
def D0:Dd:=⟨0,[],.no⟩
def aS(d:Dd)(i:Nat):Int:=if i=d.h then ai d.ns i-1 else ai d.ns i
def nmZ(d:Dd):List Int:=[(d.h:Int),ai d.ns d.h]
def nmK(d:Dd):List Key:=[.inl (d.h:Int),.inl (ai d.ns d.h)]
def dL(d:Dd):List Nat:=(List.range d.ns.length).filter fun i=>decide (aS d i>0)
def kyZ(d:Dd):List Int:=[d.ns.sum,(d.h:Int)]
def kLt(d e:Dd):Prop:=d.ns.sum<e.ns.sum\/(d.ns.sum=e.ns.sum/\d.h<e.h)
def leC(a b:List Int):Prop:=∀i,i<a.length->ai a i<=ai b i
def fX(ns ms:List Int):Bool:=((List.range ns.length).map fun i=>decide (ai ns i<=ai ms i)).all id
theorem zo{a b:List Int}(h:leC a b):fX a b=true:=by unfold fX;rw[ZC];intro x hx;obtain⟨i,hi,rfl⟩:=Zt.mp hx;exact decide_eq_true (h i (Z8.mp hi))
theorem Fz(d e:Dd):HT.lexLt (kyZ d) (kyZ e)=true↔kLt d e:=by
 unfold kyZ kLt;rw[HT.lexLt_cons];by_cases c:d.ns.sum=e.ns.sum
 ·rw[HV c,B9];constructor
  ·intro h;have:=ZS h;exact .inr ⟨c,by omega⟩
  ·rintro(h|⟨_,h⟩)
   ·omega
   ·exact decide_eq_true (by omega)
 ·rw[HU c];constructor
  ·intro h;exact .inl (ZS h)
  ·rintro(h|⟨h,_⟩)
   ·exact decide_eq_true h
   ·exact absurd h c
theorem fE{α:Type}(L:List α)(z:α):(List.range L.length).map (fun i=>L.getD i z)=L:=by
 apply List.ext_getElem
 ·simp
 ·intro i h1 h2;simp[h2]
theorem tJ{α:Type}{f:α->Dd}{L:List α}{z:α}{p:Array Nat}(hp:POk L.length p)(hs:LS (fun i j=>HT.lexLt ((L.map fun x=>kyZ (f x)).getD i []) ((L.map fun x=>kyZ (f x)).getD j [])) p L.length) :
  ((p.toList.map fun i=>L.getD i z).map f).Pairwise (fun d e=>¬kLt e d)/\(p.toList.map fun i=>L.getD i z).Perm L:=by
 have ep:p.toList.Perm (List.range L.length):=by have:=Array.perm_iff_toList_perm.mp hp;simpa using this
 refine⟨?_,?_⟩
 ·rw[Ys,List.pairwise_map];have hz:p.size=L.length:=by have:=hp.size_eq;simpa using this
  rw[ZW];intro i j hi hj hij;rw[Zm]at hi hj;have lx:=hs i j hij (by omega);have e1:gA p i=p.toList[i]'(by rw[Zm];exact hi):=by rw[jR,Zw,Zd (by rw[Zm];exact hi)];rfl
  have e2:gA p j=p.toList[j]'(by rw[Zm];exact hj):=by rw[jR,Zw,Zd (by rw[Zm];exact hj)];rfl
  have nd:(p.toList).Nodup:=ep.nodup_iff.mpr List.nodup_range;have ne:p.toList[i]'(by rw[Zm];exact hi)≠p.toList[j]'(by rw[Zm];exact hj):=by rw[List.nodup_iff_pairwise_ne,ZW]at nd;exact nd i j _ _ hij
  have m1:p.toList[i]'(by rw[Zm];exact hi)<L.length:=Z8.mp (ep.mem_iff.mp (ZF _));have m2:p.toList[j]'(by rw[Zm];exact hj)<L.length:=Z8.mp (ep.mem_iff.mp (ZF _));rw[e1,e2]at lx;generalize p.toList[i]'(by rw[Zm];exact hi)=a at *;generalize p.toList[j]'(by rw[Zm];exact hj)=b at *;have ga:∀k,k<L.length->(L.map fun x=>kyZ (f x)).getD k []=kyZ (f (L.getD k z)):=fun k hk=>by simp[hk]
  have lx':HT.lexLt (kyZ (f (L.getD b z))) (kyZ (f (L.getD a z)))=false:=by have:=lx.1;dsimp only at this;rw[ga a m1,ga b m2]at this;exact this
  show¬kLt (f (L.getD b z)) (f (L.getD a z));intro h;rw[(Fz _ _).mpr h]at lx';cases lx'
 ·have:=ep.map fun i=>L.getD i z;rw[fE]at this;exact this
theorem ud{d e:Dd}(h:kLt d e)(k:kLt e d):False:=by unfold kLt at h k;omega
theorem yK{A B:List Dd}(ha:A.Pairwise kLt)(hb:B.Pairwise kLt)(p:A.Perm B):A=B:=List.Perm.eq_of_pairwise (fun _ _ _ _ h k=>(ud h k).elim) ha hb p
def aK(M:List (Addr×Dd)):List (List Key×V):=M.map fun x=>(nmK x.2,V.ref x.1)
theorem Cb{d e:Dd}(h:nmK d=nmK e):d.h=e.h/\ai d.ns d.h=ai e.ns e.h:=by unfold nmK at h;injection h with h1 h2;injection h2 with h3 _;injection h1 with h1;injection h3 with h3;exact⟨by omega,h3⟩
theorem yW:∀{a b:List Int},a.length=b.length->leC a b->a.sum<=b.sum
 | [],[],_,_=>Int.le_refl _
 |x::a,y::b,e,h=>by rw[Yu,Yu];have h0:x<=y:=h 0 (by simp);have:=yW (a:=a) (b:=b) (by simpa using e) fun i hi=>h (i+1) (by simpa using hi);omega
theorem fY{c:List Int}{k i:Nat}{v:Int}(hk:k<c.length):ai (c.set k v) i=if i=k then v else ai c i:=by
 unfold ai;rw[List.getElem?_set];by_cases e:i=k
 ·subst e;rw[HV rfl,HV rfl,HV hk];rfl
 ·rw[HU (fun z=>e z.symm),HU e]
theorem yX:∀{c:List Int} {k:Nat},k<c.length->(c.set k (ai c k+1)).sum=c.sum+1
 |x::c,0,_=>by show(((x::c).set 0 (x+1))).sum=_;rw[List.set_cons_zero,Yu,Yu];omega
 |x::c,k+1,h=>by show((x::c).set (k+1) (ai c k+1)).sum=_;rw[List.set_cons_succ,Yu,Yu,yX (by simpa using h)];omega
theorem zR(n i:Nat):ai (List.replicate n (0:Int)) i=0:=by unfold ai;rw[List.getElem?_replicate];split<;>rfl
theorem mL{a b:List Int}:fX a b=true↔leC a b:=by refine⟨fun h i hi=>?_,zo⟩;unfold fX at h;rw[ZC]at h;exact ZS (h _ (Zt.mpr ⟨i,Z8.mpr hi,rfl⟩))
structure UN(n:Nat)(L:List Dd):Prop where
 len:∀d∈L,d.ns.length=n/\d.h<n
 own:∀d∈L,0<ai d.ns d.h
 uni:L.Pairwise fun d e=>nmK d≠nmK e
theorem UN.perm{n:Nat}{L M:List Dd}(g:UN n L)(p:L.Perm M):UN n M:=⟨fun d hd=>g.len d (p.mem_iff.mpr hd),fun d hd=>g.own d (p.mem_iff.mpr hd),g.uni.perm p fun{x y} h e=>h e.symm⟩
theorem UN.sub{n:Nat}{L M:List Dd}(g:UN n L)(p:M.Sublist L):UN n M:=⟨fun d hd=>g.len d (p.subset hd),fun d hd=>g.own d (p.subset hd),g.uni.sublist p⟩
theorem jr:∀{L:List Dd},(L.Pairwise fun d e=>nmK d≠nmK e)->∀{d e:Dd},d∈L->e∈L->nmK d=nmK e->d=e
 |x::L,u,d,e,hd,he,h=>by
  rw[List.pairwise_cons]at u;rcases Zj.mp hd with z1|hd'
  ·rcases Zj.mp he with z2|he'
   ·rw[z1,z2]
   ·exact absurd (z1▸h) (u.1 e he')
  ·rcases Zj.mp he with z2|he'
   ·exact absurd (z2▸h).symm (u.1 d hd')
   ·exact jr u.2 hd' he' h
def gR(R:List Dd)(d:Dd)(i:Nat):Bool:=match R.find? (fun e=>decide (nmK e=[.inl (i:Int),.inl (aS d i)]))with
 |some e=>fX e.ns d.ns
 |none=>false
def mQ(R:List Dd)(d:Dd):Bool:=(dL d).all fun i=>gR R d i
def An(R:List Dd)(d:Dd)(i:Nat):Prop:=∃e∈R,e.h=i/\ai e.ns e.h=aS d i/\leC e.ns d.ns
theorem iw{e:Dd}{i:Nat}{z:Int}:nmK e=[.inl (i:Int),.inl z]↔e.h=i/\ai e.ns e.h=z:=by
 unfold nmK;constructor
 ·intro h;injection h with h1 h2;injection h2 with h3 _;injection h1 with h1;injection h3 with h3;exact⟨by omega,h3⟩
 ·rintro⟨rfl,rfl⟩;rfl
theorem tN{R:List Dd}(u:R.Pairwise fun d e=>nmK d≠nmK e){d:Dd}{i:Nat}:gR R d i=true↔An R d i:=by
 unfold gR;cases hf:R.find? (fun e=>decide (nmK e=[.inl (i:Int),.inl (aS d i)]))with
 |none =>
  constructor
  ·intro h;cases h
  ·rintro⟨e,he,e1,e2,_⟩;have:=List.find?_eq_none.mp hf e he;exact absurd (iw.mpr ⟨e1,e2⟩) (by simpa using this)
 |some x =>
  have hm:=List.mem_of_find?_eq_some hf;have hq:=List.find?_some hf;have hx:=iw.mp (ZS hq);constructor
  ·intro h;exact⟨x,hm,hx.1,hx.2,mL.mp h⟩
  ·rintro⟨e,he,e1,e2,e3⟩;have:x=e:=jr u hm he ((iw.mpr hx).trans (iw.mpr ⟨e1,e2⟩).symm);rw[this];exact mL.mpr e3
theorem tM{n:Nat}{R:List Dd}(u:R.Pairwise fun d e=>nmK d≠nmK e){d:Dd}(hd:d.ns.length=n):mQ R d=true↔∀i,i<n->aS d i>0->An R d i:=by
 unfold mQ dL;rw[ZC];constructor
 ·intro h i hi hl;exact(tN u).mp (h i (ZZ.mpr ⟨Z8.mpr (by omega),decide_eq_true hl⟩))
 ·intro h i hi;obtain⟨h1,h2⟩:=ZZ.mp hi;exact(tN u).mpr (h i (by have:=Z8.mp h1;omega) (ZS h2))
def Ch(n:Nat)(R:List Dd):Prop:=∀k (hk:k<R.length),∀i,i<n->aS R[k] i>0->An (R.take k) R[k] i
def Sat(n:Nat)(L B:List Dd):Prop:=∀d∈L,(∀i,i<n->aS d i>0->An B d i)->d∈B
theorem Ch.snoc{n:Nat}{R:List Dd}{d:Dd}(c:Ch n R)(h:∀i,i<n->aS d i>0->An R d i):Ch n (R++[d]):=fun k hk i hi hl=>by
 rcases Ye k R.length with c1|c1
 ·rw[List.getElem_append_left c1]at hl ⊢;rw[List.take_append_of_le_length (Nat.le_of_lt c1)];exact c k c1 i hi hl
 ·have e:k=R.length:=by rw[Zs,ZE]at hk;omega
  subst e;have ed:(R++[d])[R.length]=d:=by simp
  rw[ed]at hl ⊢;rw[List.take_left];exact h i hi hl
theorem yV{n:Nat}{L A B:List Dd}(c:Ch n A)(hA:∀d∈A,d∈L)(s:Sat n L B):∀d∈A,d∈B:=by
 have go:∀k (hk:k<A.length),A[k]∈B:=by
  intro k;induction k using Nat.strongRecOn with
  |_ k ih =>intro hk;refine s _ (hA _ (ZF hk)) fun i hi hl=>?_;obtain⟨e,he,r⟩:=c k hk i hi hl;obtain⟨j,hj,rfl⟩:=Z2.mp he;rw[ZX]at hj;refine⟨_,?_,r⟩;rw[List.getElem_take];exact ih j (by omega) (by omega)
 intro d hd;obtain⟨k,hk,rfl⟩:=Z2.mp hd;exact go k hk
theorem jM:∀{a b:List Int} {k:Nat},a.length=b.length->leC a b->k<a.length->ai a k<ai b k->a.sum<b.sum
 |x::a,y::b,0,e,h,_,hl=>by rw[Yu,Yu];have h0:x<y:=hl;have:=yW (a:=a) (b:=b) (by simpa using e) fun i hi=>h (i+1) (by simpa using hi);omega
 |x::a,y::b,k+1,e,h,hk,hl=>by rw[Yu,Yu];have h0:x<=y:=h 0 (by simp);have:=jM (a:=a) (b:=b) (k:=k) (by simpa using e) (fun i hi=>h (i+1) (by simpa using hi)) (by simpa using hk) hl;omega
theorem kL{a b:List Int}(e:a.length=b.length)(h:∀i,i<a.length->ai a i=ai b i):a=b:=by apply List.ext_getElem e;intro i h1 h2;have:=h i h1;unfold ai at this;rw[Zd h1,Zd h2]at this;exact this
theorem FB{a b:List Int}(e:a.length=b.length)(h:leC a b):a=b\/a.sum<b.sum:=by
 by_cases c:∃k,k<a.length/\ai a k<ai b k
 ·obtain⟨k,hk,hl⟩:=c;exact .inr (jM e h hk hl)
 ·refine .inl (kL e fun i hi=>?_);have h1:=h i hi;have h2:¬ai a i<ai b i:=fun z=>c ⟨i,hi,z⟩;omega
theorem dW(d:Dd):aS d d.h=ai d.ns d.h-1:=by unfold aS;rw[HV rfl]
theorem nA{d:Dd}{i:Nat}(h:i≠d.h):aS d i=ai d.ns i:=by unfold aS;rw[HU h]
theorem xb{n:Nat}{R:List Dd}(c:Ch n R)(u:UN n R):∀(m:Nat) {d e:Dd},d∈R->e∈R->d.h=e.h->ai d.ns d.h+(m:Int)+1=ai e.ns e.h->d.ns.sum<e.ns.sum:=by
 intro m;induction m with
 |zero =>intro d e hd he eh em;obtain⟨k,hk,rfl⟩:=Z2.mp he;have h1:=u.own d hd;obtain⟨x,hx,x1,x2,x3⟩:=c k hk R[k].h (u.len _ he).2 (by rw[dW];omega);have hx':=List.mem_of_mem_take hx;rw[dW]at x2;have:x=d:=jr u.uni hx' hd ((iw (i:=R[k].h) (z:=ai d.ns d.h)).mpr ⟨x1,by rw[x2];omega⟩ |>.trans (iw.mpr ⟨eh,rfl⟩).symm);subst this;refine jM (k:=x.h) (by rw[(u.len x hd).1,(u.len _ he).1]) x3 (by rw[(u.len x hd).1];exact(u.len x hd).2) ?_;rw[x2,x1];omega
 |succ m ih =>
  intro d e hd he eh em;obtain⟨k,hk,rfl⟩:=Z2.mp he;have h1:=u.own d hd;obtain⟨x,hx,x1,x2,x3⟩:=c k hk R[k].h (u.len _ he).2 (by rw[dW];omega);have hx':=List.mem_of_mem_take hx;rw[dW]at x2;have s1:=ih hd hx' (eh.trans x1.symm) (by rw[x2];omega);have s2:x.ns.sum<R[k].ns.sum:=by refine jM (k:=x.h) (by rw[(u.len x hx').1,(u.len _ he).1]) x3 (by rw[(u.len x hx').1];exact(u.len x hx').2) ?_;rw[x2,x1];omega
  omega
theorem Du{n:Nat}{R:List Dd}(c:Ch n R)(u:UN n R):R.Pairwise fun d e=>d.h=e.h->d.ns.sum≠e.ns.sum:=by
 rw[ZW];intro i j hi hj hij eh es;have hd:=ZF hi;have he:=ZF hj;have ne:ai R[i].ns R[i].h≠ai R[j].ns R[j].h:=fun z=>by have un:=u.uni;rw[ZW]at un;exact un i j hi hj hij (by unfold nmK;rw[z,eh])
 rcases Int.lt_or_gt_of_ne ne with q|q
 ·have:=xb c u (ai R[j].ns R[j].h-ai R[i].ns R[i].h-1).toNat hd he eh (by omega);omega
 ·have:=xb c u (ai R[i].ns R[i].h-ai R[j].ns R[j].h-1).toNat he hd eh.symm (by omega);omega
abbrev LT:=List (Addr×Dd)
def vals(L:LT):List Dd:=L.map Prod.snd
def fM(R:LT)(x:Addr×Dd):LT:=if mQ (vals R) x.2=true then R++[x]else R
def bq(S:LT)(k:Nat):LT:=(S.take k).foldl fM []
theorem dQ{S:LT}{k:Nat}(hk:k<S.length):bq S (k+1)=fM (bq S k) S[k]:=by unfold bq;rw[List.take_add_one,Zd hk,Option.toList_some,List.foldl_append];rfl
theorem cQ(S:LT):∀k,k<=S.length->(bq S k).Sublist (S.take k)
 |0,_=>by unfold bq;exact List.Sublist.refl _
 |k+1,h=>by
  have ih:=cQ S k (by omega);rw[dQ (by omega),List.take_add_one,Zd (by omega),Option.toList_some];unfold fM;split
  ·exact ih.append (List.Sublist.refl _)
  ·exact ih.trans (List.sublist_append_left _ _)
theorem dP{A B:LT}(h:A.Sublist B):(vals A).Sublist (vals B):=h.map _
theorem mR{n:Nat}{S:LT}(u:UN n (vals S)):∀k,k<=S.length->Ch n (vals (bq S k))
 |0,_=>fun k hk=>absurd hk (by simp[bq,vals])
 |k+1,h=>by
  have ih:=mR u k (by omega);have us:=u.sub (dP ((cQ S k (by omega)).trans (Yo _ _)));rw[dQ (by omega)];unfold fM;split
  ·rename_i c;unfold vals at ih us c ⊢;rw[Zz];exact ih.snoc ((tM us.uni (u.len _ (Zt.mpr ⟨S[k],ZF (by omega),rfl⟩)).1).mp c)
  ·exact ih
theorem qJ(S:LT):∀{k j:Nat},k<=j->j<=S.length->∀x∈bq S k,x∈bq S j:=by
 intro k j hkj;induction hkj with
 |refl=>intro _ x hx;exact hx
 |step h ih =>
  intro hj x hx;rw[dQ (by omega)];unfold fM;have:=ih (by omega) x hx;split
  ·exact Yg _ this
  ·exact this
theorem wT{S:LT}(nd:S.Nodup){i:Nat}(hi:i<S.length):∀{j:Nat},i<j->j<=S.length->S[i]∈bq S j->S[i]∈bq S (i+1):=by
 intro j hij;induction hij with
 |refl=>intro _ h;exact h
 |step h ih =>
  intro hj hx;rename_i j;have hij':i+1<=j:=h;rw[dQ (by omega)]at hx;unfold fM at hx;split at hx
  ·rcases ZD.mp hx with hx|hx
   ·exact ih (by omega) hx
   ·exfalso;have e:=Zf.mp hx;rw[List.nodup_iff_pairwise_ne,ZW]at nd;exact nd i j hi (by omega) (by omega) e
  ·exact ih (by omega) hx
theorem Ap{n:Nat}{S:LT}(u:UN n (vals S)):S.Nodup:=by have:=u.uni;unfold vals at this;rw[List.pairwise_map]at this;exact this.imp fun{a b} h z=>h (by rw[z])
theorem zH{n:Nat}{S:LT}(u:UN n (vals S))(hs:(vals S).Pairwise fun d e=>¬kLt e d):Sat n (vals S) (vals (bq S S.length)):=fun d hd h=>by
 obtain⟨x,hx,rfl⟩:=Zt.mp hd;obtain⟨k,hk,rfl⟩:=Z2.mp hx;have nd:=Ap u;have subM:=(cQ S S.length (Zb _)).trans (Yo _ _);have uM:=u.sub (dP subM);have cM:=mR u S.length (Zb _);by_cases c:∃i,i<n/\aS S[k].2 i>0/\∃e∈vals (bq S S.length),e.h=i/\ai e.ns e.h=aS S[k].2 i/\leC e.ns S[k].2.ns/\e.ns=S[k].2.ns
 ·obtain⟨i,hi,hl,e,he,e1,e2,e3,e4⟩:=c;have ne:i≠S[k].2.h:=fun z=>by rw[z,dW]at e2;rw[e4,e1,z]at e2;omega
  obtain⟨j,hj,rfl⟩:=Z2.mp he;have lh:aS (vals (bq S S.length))[j] S[k].2.h=ai S[k].2.ns S[k].2.h:=by rw[nA (by rw[e1];exact fun z=>ne z.symm),e4]
  obtain⟨x,hx,x1,x2,x3⟩:=cM j hj S[k].2.h (u.len _ hd).2 (by rw[lh];exact u.own _ hd);have hx':=List.mem_of_mem_take hx;rw[lh]at x2;have:x=S[k].2:=jr u.uni ((dP subM).subset hx') hd (by unfold nmK;rw[x2,x1]);rw[<-this];exact hx'
 ·have all:∀i,i<n->aS S[k].2 i>0->An (vals (bq S k)) S[k].2 i:=fun i hi hl=>by
   obtain⟨e,he,e1,e2,e3⟩:=h i hi hl;have heS:=(dP subM).subset he;have sl:e.ns.sum<S[k].2.ns.sum:=by
    rcases FB (by rw[(u.len e heS).1,(u.len _ hd).1]) e3 with z|z
    ·exact absurd ⟨i,hi,hl,e,he,e1,e2,e3,z⟩ c
    ·exact z
   obtain⟨y,hy,rfl⟩:=Zt.mp he;obtain⟨j,hj,rfl⟩:=Z2.mp (subM.subset hy);have hjk:j<k:=by
    rcases Ye j k with q|q
    ·exact q
    ·exfalso;rcases Ye k j with q2|q2
     ·rw[ZW]at hs;have:=hs k j (by unfold vals;rw[Za];exact hk) (by unfold vals;rw[Za];exact hj) q2;simp only[vals,List.getElem_map]at this;exact this (.inl sl)
     ·have:j=k:=by omega
      subst this;omega
   refine⟨S[j].2,Zt.mpr ⟨S[j],?_,rfl⟩,e1,e2,e3⟩;exact qJ S (show j+1<=k by omega) (by omega) _ (wT nd hj (show j<S.length by omega) (Zb _) hy)
  have us:=u.sub (dP ((cQ S k (by omega)).trans (Yo _ _)));have ac:=(tM us.uni (u.len _ hd).1).mpr all;have:S[k]∈bq S (k+1):=by rw[dQ hk];unfold fM;rw[HV ac];exact Zq _ (Zf.mpr rfl)
  exact Zt.mpr ⟨S[k],qJ S (show k+1<=S.length by omega) (Zb _) _ this,rfl⟩
theorem yU{R:List Dd}(h:R.Pairwise fun d e=>¬kLt e d)(u:R.Pairwise fun d e=>d.h=e.h->d.ns.sum≠e.ns.sum):R.Pairwise kLt:=by
 refine(List.Pairwise.and h u).imp fun{d e} ⟨h1,h2⟩=>?_;unfold kLt at h1 ⊢;by_cases c:d.h=e.h
 ·have:=h2 c;omega
 ·omega
def tw(l:List Str):TV:=.tup (l.map V.str)
def DT:List (Str×TV):=[("put",tw ["up","place","text"]),("move",tw ["item","up","place"]),("write",tw ["item","text"]),("mark",tw ["item","truth"]),("due",tw ["item","whom"]),("fold",tw ["item","truth"]),("part",tw ["item","at","place"]),("join",tw ["item","item"]),("take",tw ["item"]),("back",tw ["item"]),("off",tw ["number"]),("on",tw ["number"]),("none",tw [])]
inductive Kd|u|p|t|i|b|w|a|n
deriving DecidableEq
def nm:Kd->Str
 |.u=>"up" |.p=>"place" |.t=>"text" |.i=>"item" |.b=>"truth" |.w=>"whom" |.a=>"at" |.n=>"number"
def bo:V->Int->Bool
 |.int i,lo=>decide (lo<=i)
 |_,_=>false
def ltB:V->Int->Bool
 |.int i,h=>decide (i<h)
 |_,_=>false
def qj(h:Int):Option HO->Bool
 |some (.tup [x,y])=>bo x 0&&(ltB x h&&bo y 1)
 |_=>false
def jW(H:Hp)(h:Int):V->Bool
 |.ref a=>qj h (H a)
 |_=>false
def qO(h:Int):Option HO->Bool
 |some (.tup xs)=>decide ((xs.length:Int)=h)&&xs.all (fun x=>bo x 0)
 |_=>false
def jd(H:Hp)(h:Int):V->Bool
 |.ref a=>qO h (H a)
 |_=>false
theorem bv{H:Hp}{a:Addr}{o:HO}{h:Int}(e:H a=some o):jW H h (.ref a)=qj h (some o):=by show qj h (H a)=_;rw[e]
theorem dS{H:Hp}{a:Addr}{o:HO}{h:Int}(e:H a=some o):jd H h (.ref a)=qO h (some o):=by show qO h (H a)=_;rw[e]
theorem xM{K:PySem.W.Frag}{H:Hp}{v:V}{n:String}{h:Int}(ty:TyOf K H v (.type n))(hT:isT H v=false):jW H h v=false/\jd H h v=false:=by
 cases ty with
 |lst z=>exact⟨bv z,dS z⟩
 |frz z=>exact⟨bv z,dS z⟩
 |tup z=>rw[bK z (b:=true) rfl]at hT;cases hT
 |dK z=>exact⟨bv z,dS z⟩
 |dT z=>exact⟨bv z,dS z⟩
 |_=>exact⟨rfl,rfl⟩
def ix:Option HO->Bool
 |some (.tup xs)=>decide (1<=xs.length)&&decide (xs.length<=64)&&xs.all eA
 |_=>false
def gh(H:Hp):V->Bool
 |.ref a=>ix (H a)
 |_=>false
theorem bj{H:Hp}{a:Addr}{o:HO}(e:H a=some o):gh H (.ref a)=ix (some o):=by show ix (H a)=_;rw[e]
theorem tD{K:PySem.W.Frag}{H H':Hp}{v:V}{n:String}(h:TyOf K H v (.type n))(e:Same H H'):gh H' v=gh H v:=by
 cases h with
 |lst q=>rw[bj (e _ _ q),bj q]
 |frz q=>rw[bj (e _ _ q),bj q]
 |tup q=>rw[bj (e _ _ q),bj q]
 |dK q=>rw[bj (e _ _ q),bj q]
 |dT q=>rw[bj (e _ _ q),bj q]
 |_=>rfl
def isS:V->Bool
 |.str _=>true
 |_=>false
theorem uf{K:PySem.W.Frag}{H:Hp}{v:V}{n:String}(h:TyOf K H v (.type n)):PySem.W.kitOne K (.type n) (.type "str")=some (isS v):=by
 cases h with
 |str x=>exact bC (b:=true) (by decide +kernel) (fun z=>nomatch z)
 |non=>exact aF (b:=false) (by decide +kernel) (by decide +kernel) (by decide +kernel)
 |bl x=>exact aF (b:=false) (by decide +kernel) (by decide +kernel) (by decide +kernel)
 |int i=>exact aF (b:=false) (by decide +kernel) (by decide +kernel) (by decide +kernel)
 |flt x=>exact aF (b:=false) (by decide +kernel) (by decide +kernel) (by decide +kernel)
 |lst e=>exact aF (b:=false) (by decide +kernel) (by decide +kernel) (by decide +kernel)
 |frz e=>exact aF (b:=false) (by decide +kernel) (by decide +kernel) (by decide +kernel)
 |tup e=>exact aF (b:=false) (by decide +kernel) (by decide +kernel) (by decide +kernel)
 |dK e=>exact aF (b:=false) (by decide +kernel) (by decide +kernel) (by decide +kernel)
 |dT e=>exact aF (b:=false) (by decide +kernel) (by decide +kernel) (by decide +kernel)
theorem vC{K:PySem.W.Frag}{H H':Hp}{v:V}{n:String}{h:Int}(t:TyOf K H v (.type n))(e:Same H H'):jW H' h v=jW H h v:=by
 cases t with
 |lst q=>rw[bv (e _ _ q),bv q]
 |frz q=>rw[bv (e _ _ q),bv q]
 |tup q=>rw[bv (e _ _ q),bv q]
 |dK q=>rw[bv (e _ _ q),bv q]
 |dT q=>rw[bv (e _ _ q),bv q]
 |_=>rfl
theorem Ai{K:PySem.W.Frag}{H H':Hp}{v:V}{n:String}(t:TyOf K H v (.type n))(e:Same H H'):isT H' v=isT H v:=by
 cases t with
 |lst q=>rw[bK (e _ _ q) rfl,bK q rfl]
 |frz q=>rw[bK (e _ _ q) rfl,bK q rfl]
 |tup q=>rw[bK (e _ _ q) rfl,bK q rfl]
 |dK q=>rw[bK (e _ _ q) rfl,bK q rfl]
 |dT q=>rw[bK (e _ _ q) rfl,bK q rfl]
 |_=>rfl
def eZ(c:Nat):Bool:=(decide ((32:Int)<=c)&&decide ((c:Int)<=126))&&!decide ((c:Int)=37)
def cX(x:Str):Bool:=x.cps.toList.all eZ
def nmL(hd:Int)(ns:List Int):List Int:=[hd,ai ns hd.toNat]
def eC(hd:Int)(ns:List Int)(i j:Int):Bool:=(decide (0<=i)&&(decide (i<ns.length)&&decide (1<=j)))&&(decide (j<=ai ns i.toNat)&&!decide ([i,j]=nmL hd ns))
inductive ItemR(K:PySem.W.Frag)(H:Hp)(hd:Int)(ns:List Int):V->Bool->Prop
 |no {v:V} (a:Asked K H v) (e:jW H ns.length v=false):ItemR K H hd ns v false
 |is {a:Addr} {i j:Int} (e:H a=some (.tup [.int i,.int j])):ItemR K H hd ns (.ref a) (eC hd ns i j)
theorem ItemR.same{K:PySem.W.Frag}{H H':Hp}{hd:Int}{ns:List Int}{v:V}{b:Bool}(r:ItemR K H hd ns v b)(s:Same H H'):ItemR K H' hd ns v b:=by
 cases r with
 |no a e=>exact .no (a.same s) (by obtain⟨⟨n,t⟩,_⟩:=a;rw[vC t s];exact e)
 |is e=>exact .is (s _ _ e)
inductive PartR(K:PySem.W.Frag)(H:Hp)(hd:Int)(ns:List Int):Kd->V->Bool->Prop
 |it {v:V} {b:Bool} (r:ItemR K H hd ns v b):PartR K H hd ns .i v b
 |u0:PartR K H hd ns .u .non true
 |up {v:V} {b:Bool} (hv:v≠.non) (r:ItemR K H hd ns v b):PartR K H hd ns .u v b
 |pl {v:V} {b:Bool} (a:Asked K H v) (e:gh H v=b):PartR K H hd ns .p v b
 |tx {x:Str} {b:Bool} (hl:x.length<=1000) (ha:x.cps.all (·<128)=true) (e:(cX x&&decide (x.length<=60))=b):PartR K H hd ns .t (.str x) b
 |tn {v:V} {n:String} (ty:TyOf K H v (.type n)) (hs:isS v=false):PartR K H hd ns .t v false
 |bl {v:V} {n:String} {b:Bool} (ty:TyOf K H v (.type n)) (e:isB v=b):PartR K H hd ns .b v b
 |w0:PartR K H hd ns .w .non true
 |wh {v:V} {n:String} {b:Bool} (hv:v≠.non) (ty:TyOf K H v (.type n)) (e:(bo v 0&&ltB v ns.length)=b):PartR K H hd ns .w v b
 |at{v:V} {n:String} {b:Bool} (ty:TyOf K H v (.type n)) (e:bo v 0=b):PartR K H hd ns .a v b
 |nu {v:V} {n:String} {b:Bool} (ty:TyOf K H v (.type n)) (e:(bo v 1&&ltB v (ai ns hd.toNat))=b):PartR K H hd ns .n v b
theorem PartR.same{K:PySem.W.Frag}{H H':Hp}{hd:Int}{ns:List Int}{k:Kd}{v:V}{b:Bool}(r:PartR K H hd ns k v b)(s:Same H H'):PartR K H' hd ns k v b:=by
 cases r with
 |it r=>exact .it (r.same s)
 |u0=>exact .u0
 |up hv r=>exact .up hv (r.same s)
 |pl a e=>exact .pl (a.same s) (by obtain⟨⟨n,t⟩,_⟩:=a;rw[tD t s];exact e)
 |tx hl ha e=>exact .tx hl ha e
 |tn ty hs=>exact .tn (cP s ty) hs
 |bl ty e=>exact .bl (cP s ty) e
 |w0=>exact .w0
 |wh hv ty e=>exact .wh hv (cP s ty) e
 | «at» ty e=>exact .at (cP s ty) e
 |nu ty e=>exact .nu (cP s ty) e
def PartsR(K:PySem.W.Frag)(H:Hp)(hd:Int)(ns:List Int)(ks:List Kd)(ps:List V)(bs:List Bool):Prop:=ks.length=ps.length/\bs.length=ps.length/\∀(i:Nat) (k:Kd) (v:V) (b:Bool),ks[i]?=some k->ps[i]?=some v->bs[i]?=some b->PartR K H hd ns k v b
theorem PartsR.same{K:PySem.W.Frag}{H H':Hp}{hd:Int}{ns:List Int}{ks:List Kd}{ps:List V}{bs:List Bool}(p:PartsR K H hd ns ks ps bs)(s:Same H H'):PartsR K H' hd ns ks ps bs:=⟨p.1,p.2.1,fun i k v x h1 h2 h3=>(p.2.2 i k v x h1 h2 h3).same s⟩
inductive WhatR(K:PySem.W.Frag)(H:Hp)(hd:Int)(ns:List Int):V->Bool->Prop
 |flat {v:V} {n:String} (ty:TyOf K H v (.type n)) (hT:isT H v=false):WhatR K H hd ns v false
 |emp {a:Addr} (e:H a=some (.tup [])):WhatR K H hd ns (.ref a) false
 |noStr {a:Addr} {x:V} {n:String} {ps:List V} (e:H a=some (.tup (x::ps))) (ty:TyOf K H x (.type n)) (hs:isS x=false):WhatR K H hd ns (.ref a) false
 |noWord {a:Addr} {k:Str} {ps:List V} (e:H a=some (.tup (.str k::ps))) (hk:PyProof.Rows.KTD.datumAt k DT=none):WhatR K H hd ns (.ref a) false
 |len {a:Addr} {k:Str} {ps:List V} {ks:List Kd} (e:H a=some (.tup (.str k::ps))) (hk:PyProof.Rows.KTD.datumAt k DT=some (tw (ks.map nm))) (hl:ps.length≠ks.length):WhatR K H hd ns (.ref a) false
 |is {a:Addr} {k:Str} {ps:List V} {ks:List Kd} {bs:List Bool} {b:Bool} (e:H a=some (.tup (.str k::ps))) (hk:PyProof.Rows.KTD.datumAt k DT=some (tw (ks.map nm))) (l3:ks.length<=3) (p:PartsR K H hd ns ks ps bs) (hb:bs.all id=b):WhatR K H hd ns (.ref a) b
theorem WhatR.same{K:PySem.W.Frag}{H H':Hp}{hd:Int}{ns:List Int}{v:V}{b:Bool}(r:WhatR K H hd ns v b)(s:Same H H'):WhatR K H' hd ns v b:=by
 cases r with
 |flat ty hT=>exact .flat (cP s ty) (by rw[Ai ty s];exact hT)
 |emp e=>exact .emp (s _ _ e)
 |noStr e ty hs=>exact .noStr (s _ _ e) (cP s ty) hs
 |noWord e hk=>exact .noWord (s _ _ e) hk
 |len e hk hl=>exact .len (s _ _ e) hk hl
 |is e hk l3 p hb=>exact .is (s _ _ e) hk l3 (p.same s) hb
inductive DeedR(K:PySem.W.Frag)(H:Hp)(h:Int):V->Bool->Prop
 |flat {v:V} {n:String} (ty:TyOf K H v (.type n)) (hT:isT H v=false):DeedR K H h v false
 |len {a:Addr} {xs:List V} (e:H a=some (.tup xs)) (hl:xs.length≠3):DeedR K H h (.ref a) false
 |hand {a:Addr} {x y z:V} {n:String} (e:H a=some (.tup [x,y,z])) (ty:TyOf K H x (.type n)) (hx:(bo x 0&&ltB x h)=false):DeedR K H h (.ref a) false
 |clock {a:Addr} {i:Int} {y z:V} (e:H a=some (.tup [.int i,y,z])) (i0:0<=i) (i1:i<h) (ay:Asked K H y) (hc:jd H h y=false):DeedR K H h (.ref a) false
 |zero {a c:Addr} {i:Int} {ns:List Int} {z:V} (e:H a=some (.tup [.int i,.ref c,z])) (i0:0<=i) (i1:i<h) (ec:H c=some (.tup (ns.map V.int))) (hl:(ns.length:Int)=h) (hn:∀n∈ns,0<=n) (h8:h<=8) (h0:ai ns i.toNat<1):DeedR K H h (.ref a) false
 |is {a c:Addr} {i:Int} {ns:List Int} {z:V} {b:Bool} (e:H a=some (.tup [.int i,.ref c,z])) (i0:0<=i) (i1:i<h) (ec:H c=some (.tup (ns.map V.int))) (hl:(ns.length:Int)=h) (hn:∀n∈ns,0<=n) (h8:h<=8) (h1:1<=ai ns i.toNat) (w:WhatR K H i ns z b):DeedR K H h (.ref a) b
def oj(K:PySem.W.Frag):Sp:=fun vs H Q _=>∃v n,vs=[v]/\TyOf K H v (.type n)/\Q (.bl (eA v)) H
def iC(K:PySem.W.Frag):Sp:=fun vs H Q _=>∃v n lo,vs=[v,.int lo]/\TyOf K H v (.type n)/\Q (.bl (bo v lo)) H
def uy(K:PySem.W.Frag):Sp:=fun vs H Q _=>∃v h,vs=[v,.int h]/\Asked K H v/\Q (.bl (jW H h v)) H
def pj(K:PySem.W.Frag):Sp:=fun vs H Q _=>∃v h,vs=[v,.int h]/\Asked K H v/\∀H',Same H H'->Q (.bl (jd H h v)) H'
def om:Sp:=fun vs H Q _=>∃(a b:Addr) (xs:List V) (i j z:Int),vs=[.ref a,.ref b]/\H a=some (.tup xs)/\H b=some (.tup [.int i,.int j])/\atI xs i=some (.int z)/\Q (.bl (decide (j<=z))) H
def ss(K:PySem.W.Frag):Sp:=fun vs H Q _=>∃v n,vs=[v]/\TyOf K H v (.type n)/\(isS v=false->Q (.bl false) H)/\(∀k,v=.str k->Q (.bl (PyProof.Rows.KTD.datumAt k DT).isSome) H)
def uA(K:PySem.W.Frag):Sp:=fun vs H Q _=>∃(k:Str) (ws:List Str),vs=[.str k]/\PyProof.Rows.KTD.datumAt k DT=some (tw ws)/\∀t,(∀H',SqT K H' t (ws.map V.str))->Q (.ref t) H
def pk(K:PySem.W.Frag):Sp:=fun vs H Q _=>∃v,vs=[v]/\Asked K H v/\∀H',Same H H'->Q (.bl (gh H v)) H'
def yQ:Sp:=fun vs H Q _=>∃c:Nat,vs=[.str ⟨#[c]⟩]/\Q (.bl (eZ c)) H
def sj(K:PySem.W.Frag):Sp:=fun vs H Q _=>∃v,vs=[v]/\((∃n,TyOf K H v (.type n)/\isS v=false/\Q (.bl false) H)\/∃x:Str,v=.str x/\x.length<=1000/\x.cps.all (·<128)=true/\∀H',Same H H'->Q (.bl (cX x)) H')
def sf(K:PySem.W.Frag):Sp:=fun vs H Q _=>∃v n h,vs=[v,.int h]/\TyOf K H v (.type n)/\Q (.bl (bo v 0&&ltB v h)) H
def ux(K:PySem.W.Frag):Sp:=fun vs H Q _=>∃(v:V) (b:Bool) (c:Addr) (hd:Int) (ns:List Int),vs=[v,.int hd,.ref c]/\H c=some (.tup (ns.map V.int))/\0<=hd/\hd<ns.length/\ItemR K H hd ns v b/\∀H',Same H H'->Q (.bl b) H'
def sh(K:PySem.W.Frag):Sp:=fun vs H Q _=>∃(k:Kd) (v:V) (b:Bool) (c:Addr) (hd:Int) (ns:List Int),vs=[.str (nm k),v,.int hd,.ref c]/\H c=some (.tup (ns.map V.int))/\0<=hd/\hd<ns.length/\PartR K H hd ns k v b/\∀H',Same H H'->Q (.bl b) H'
def sq(K:PySem.W.Frag):Sp:=fun vs H Q _=>∃(v:V) (b:Bool) (c:Addr) (hd:Int) (ns:List Int),vs=[v,.int hd,.ref c]/\H c=some (.tup (ns.map V.int))/\0<=hd/\hd<ns.length/\WhatR K H hd ns v b/\∀H',Same H H'->Q (.bl b) H'
def yN(K:PySem.W.Frag):Sp:=fun vs H Q _=>∃(v:V) (b:Bool) (h:Int),vs=[v,.int h]/\DeedR K H h v b/\∀H',Same H H'->Q (.bl b) H'
def WR(H:Hp)(v:V):Wh->Prop
 |.no=>∃p,v=.ref p/\H p=some (.tup [.str "none"])
 |.put m s=>∃p q,v=.ref p/\H p=some (.tup [.str "put",.non,.ref q,.str s.1])/\H q=some (.tup ([m].map V.int))
 |.itm b h k=>∃p q,v=.ref p/\H p=some (.tup [.str (tkW b),.ref q])/\H q=some (.tup ([h,k].map V.int))
 |.trn b k=>∃p,v=.ref p/\H p=some (.tup [.str (ofW b),.int k])
def DR(H:Hp)(a:Addr)(d:Dd):Prop:=∃(c:Addr) (v:V),H a=some (.tup [.int (d.h:Int),.ref c,v])/\H c=some (.tup (d.ns.map V.int))/\WR H v d.w/\d.h<d.ns.length/\d.ns.length<=8
def aA(L:LT):List V:=L.map fun x=>V.ref x.1
theorem bE(L:LT):(aA L).length=L.length:=Za ..
theorem sE(L:LT):(vals L).length=L.length:=Za ..
def LR(H:Hp)(l:Addr)(L:LT):Prop:=H l=some (.lst (aA L))/\∀x∈L,DR H x.1 x.2
def TS(H H':Hp):Prop:=∀a zs,H a=some (.tup zs)->H' a=some (.tup zs)
theorem Same.ts{H H':Hp}(e:Same H H'):TS H H':=fun a zs h=>e a _ h
theorem TS.trans{H H' H2:Hp}(e:TS H H')(f:TS H' H2):TS H H2:=fun a zs h=>f a zs (e a zs h)
theorem lg{T:Addr}{H H':Hp}(hT:∀zs,H T≠some (.tup zs))(s:SameT T H H'):TS H H':=fun a zs h=>s a _ h fun z=>hT zs (by rw[<-z];exact h)
theorem ze{H:Hp}{p:Addr}{o:HO}(hp:∀zs,H p≠some (.tup zs)):TS H (upd H p o):=fun a zs h=>by rw[af (fun z=>hp zs (by rw[<-z];exact h))];exact h
theorem WR.ts{H H':Hp}{v:V}{w:Wh}(x:WR H v w)(e:TS H H'):WR H' v w:=by
 cases w with
 |no =>obtain⟨p,h1,h2⟩:=x;exact⟨p,h1,e _ _ h2⟩
 |put m s =>obtain⟨p,q,h1,h2,h3⟩:=x;exact⟨p,q,h1,e _ _ h2,e _ _ h3⟩
 |itm b h k =>obtain⟨p,q,h1,h2,h3⟩:=x;exact⟨p,q,h1,e _ _ h2,e _ _ h3⟩
 |trn b k =>obtain⟨p,h1,h2⟩:=x;exact⟨p,h1,e _ _ h2⟩
theorem DR.ts{H H':Hp}{a:Addr}{d:Dd}(x:DR H a d)(e:TS H H'):DR H' a d:=by obtain⟨c,v,h1,h2,h3,h4⟩:=x;exact⟨c,v,e _ _ h1,e _ _ h2,h3.ts e,h4⟩
theorem DR.same{H H':Hp}{a:Addr}{d:Dd}(x:DR H a d)(e:Same H H'):DR H' a d:=x.ts (Same.ts e)
theorem LR.same{H H':Hp}{l:Addr}{L:LT}(x:LR H l L)(e:Same H H'):LR H' l L:=⟨e _ _ x.1,fun y hy=>(x.2 y hy).same e⟩
theorem at0{x:V}{r:List V}:atI (x::r) 0=some x:=il (xs:=x::r) (j:=0) rfl
theorem at1{x y:V}{r:List V}:atI (x::y::r) 1=some y:=il (xs:=x::y::r) (j:=1) rfl
theorem rk{ns:List Int}{k:Nat}(h:k<ns.length):atI (ns.map V.int) (k:Int)=some (.int (ai ns k)):=by have:=bI (ns:=ns) (k:=(k:Int)) (by omega) (by omega);rw[show((k:Int)).toNat=k by omega]at this;exact this
theorem kW{L:LT}{k:Nat}{x:V}(h:(aA L)[k]?=some x):∃hk:k<L.length,x=.ref L[k].1:=by
 have hk:k<L.length:=by have:=(Zv.mp h).1;rw[bE]at this;exact this
 refine⟨hk,?_⟩;unfold aA at h;rw[Zx,Zd hk]at h;exact(Zu h).symm
def wD:Wh->PyData
 |.no=>.tuple [.str "none"]
 |.put m s=>.tuple [.str "put",.none,.tuple [.int m],.str s.1]
 |.itm b h k=>.tuple [.str (tkW b),.tuple [.int h,.int k]]
 |.trn b k=>.tuple [.str (ofW b),.int k]
def dD(d:Dd):PyData:=.tuple [.int (d.h:Int),.tuple (d.ns.map .int),wD d.w]
theorem io{H:Hp}:∀ns:List Int,DtAll H (ns.map .int) (ns.map V.int)
 | []=>by simp[DtAll]
 |n::ns=>by show DtAll H (PyData.int n::ns.map .int) (V.int n::ns.map V.int);simp only[DtAll];exact⟨_,_,rfl,by simp only[Dt],io ns⟩
theorem WR.dt{H:Hp}{v:V}{w:Wh}(x:WR H v w):Dt H (wD w) v:=by
 cases w with
 |no =>obtain⟨p,rfl,h2⟩:=x;unfold wD;simp only[Dt,DtAll];exact⟨p,_,rfl,.inl h2,_,_,rfl,rfl,rfl⟩
 |put m s =>obtain⟨p,q,rfl,h2,h3⟩:=x;unfold wD;simp only[Dt,DtAll];exact⟨p,_,rfl,.inl h2,_,_,rfl,rfl,_,_,rfl,rfl,_,_,rfl,⟨q,_,rfl,.inl h3,_,_,rfl,rfl,rfl⟩,_,_,rfl,rfl,rfl⟩
 |itm b h k =>obtain⟨p,q,rfl,h2,h3⟩:=x;unfold wD;simp only[Dt,DtAll];exact⟨p,_,rfl,.inl h2,_,_,rfl,rfl,_,_,rfl,⟨q,_,rfl,.inl h3,_,_,rfl,rfl,_,_,rfl,rfl,rfl⟩,rfl⟩
 |trn b k =>obtain⟨p,rfl,h2⟩:=x;unfold wD;simp only[Dt,DtAll];exact⟨p,_,rfl,.inl h2,_,_,rfl,rfl,_,_,rfl,rfl,rfl⟩
theorem DR.dt{H:Hp}{a:Addr}{d:Dd}(x:DR H a d):Dt H (dD d) (.ref a):=by obtain⟨c,v,h1,h2,h3,_⟩:=x;have dw:=h3.dt;have dn:=io (H:=H) d.ns;unfold dD;simp only[Dt,DtAll];exact⟨a,_,rfl,.inl h1,_,_,rfl,rfl,_,_,rfl,⟨c,_,rfl,.inl h2,dn⟩,_,_,rfl,dw,rfl⟩
theorem xq{H:Hp}:∀{L:LT},(∀x∈L,DR H x.1 x.2)->DtAll H ((vals L).map dD) (aA L)
 | [],_=>by simp[DtAll,vals,aA]
 |x::L,h=>by show DtAll H (dD x.2::(vals L).map dD) (V.ref x.1::aA L);simp only[DtAll];exact⟨_,_,rfl,(h x (by simp)).dt,xq fun y hy=>h y (by simp[hy])⟩
theorem LR.dt{H:Hp}{l:Addr}{L:LT}(x:LR H l L):Dt H (.list ((vals L).map dD)) (.ref l):=by simp only[Dt];exact⟨l,_,rfl,.inl x.1,xq x.2⟩
def WOk(_:Wh):Prop:=True
theorem iO:∀ns:List Int,PyData.canLayAll0 (ns.map .int)=true/\PyData.depthAll (ns.map .int)<=1
 | []=>⟨rfl,by simp[PyData.depthAll]⟩
 |n::ns=>by obtain⟨h1,h2⟩:=iO ns;simp only[ZH,PyData.canLayAll0,PyData.depthAll,PyData.canLay0,PyData.depth,h1];exact⟨rfl,by omega⟩
theorem Gf(b:Bool):PyData.strOk (tkW b)=true:=by cases b<;>decide +kernel
theorem FI(b:Bool):PyData.strOk (ofW b)=true:=by cases b<;>decide +kernel
theorem FA{w:Wh}(h:WOk w):(wD w).canLay0=true/\(wD w).depth<=3:=by
 cases w with
 |no=>exact⟨by simp[wD,PyData.canLay0,PyData.canLayAll0];decide +kernel,by simp[wD,PyData.depth,PyData.depthAll]⟩
 |put m s =>refine⟨?_,by simp[wD,PyData.depth,PyData.depthAll]⟩;have h':=s.2;simp[wD,PyData.canLay0,PyData.canLayAll0,h'];decide +kernel
 |itm b h k =>refine⟨?_,by simp[wD,PyData.depth,PyData.depthAll]⟩;simp[wD,PyData.canLay0,PyData.canLayAll0,Gf]
 |trn b k =>refine⟨?_,by simp[wD,PyData.depth,PyData.depthAll]⟩;simp[wD,PyData.canLay0,PyData.canLayAll0,FI]
theorem lX{d:Dd}(h:WOk d.w):(dD d).canLay0=true/\(dD d).depth<=4:=by obtain⟨a1,a2⟩:=iO d.ns;obtain⟨b1,b2⟩:=FA h;unfold dD;simp only[PyData.canLay0,PyData.canLayAll0,PyData.depth,PyData.depthAll,a1,b1];exact⟨rfl,by omega⟩
theorem nB:∀{L:List Dd},(∀d∈L,WOk d.w)->PyData.canLayAll0 (L.map dD)=true/\PyData.depthAll (L.map dD)<=5
 | [],_=>⟨rfl,by simp[PyData.depthAll]⟩
 |x::L,h=>by obtain⟨h1,h2⟩:=nB (L:=L) fun r hr=>h r (by simp[hr]);obtain⟨h3,h4⟩:=lX (h x (by simp));simp only[ZH,PyData.canLayAll0,PyData.depthAll,h1,h3];exact⟨rfl,by omega⟩
theorem wx{L:List Dd}(h:∀d∈L,WOk d.w):SeqAt.shaped (.list (L.map dD))=true:=by obtain⟨h1,h2⟩:=nB h;unfold SeqAt.shaped;rw[Zk];refine⟨by simpa[PyData.canLay0]using h1,decide_eq_true ?_⟩;simp only[PyData.depth];omega
def sx:Sp:=fun vs H Q _=>∃(a b:Addr) (ns ms:List Int),vs=[.ref a,.ref b]/\H a=some (.tup (ns.map V.int))/\H b=some (.tup (ms.map V.int))/\ns.length=ms.length/\ns.length<=8/\∀H',Same H H'->Q (.bl (fX ns ms)) H'
def gH:Sp:=fun vs H Q _=>∃(a:Addr) (d:Dd),vs=[.ref a]/\DR H a d/\∀p H',Same H H'->H' p=some (.tup ((nmZ d).map V.int))->Q (.ref p) H'
def NA(H:Hp)(d:Dd)(as:List Addr)(is:List Nat):Prop:=as.length=is.length/\∀(k:Nat) (b:Addr) (i:Nat),as[k]?=some b->is[k]?=some i->H b=some (.tup ([(i:Int),aS d i].map V.int))
def uu:Sp:=fun vs H Q _=>∃(a:Addr) (d:Dd),vs=[.ref a]/\DR H a d/\∀p H' as,Same H H'->H' p=some (.lst (as.map V.ref))->NA H' d as (dL d)->Q (.ref p) H'
def yL:Sp:=fun vs H Q _=>∃(a nm r:Addr) (d:Dd) (i:Nat) (R:LT) (n:Nat),vs=[.ref a,.ref nm,.ref r]/\DR H a d/\H nm=some (.tup ([(i:Int),aS d i].map V.int))/\H r=some (.dT (aK R))/\(∀x∈R,DR H x.1 x.2)/\(∀x∈R,x.2.ns.length=n)/\d.ns.length=n/\∀H',Same H H'->Q (.bl (gR (vals R) d i)) H'
theorem kh(R:LT)(k:List Key):bF (aK R) k=(R.find? fun x=>decide (nmK x.2=k)).map fun x=>V.ref x.1:=by unfold bF aK;rw[List.find?_map,Option.map_map];rfl
theorem xy(R:LT)(k:List Key):(vals R).find? (fun e=>decide (nmK e=k))=(R.find? fun x=>decide (nmK x.2=k)).map Prod.snd:=by unfold vals;rw[List.find?_map];rfl
def yM(K:PySem.W.Frag):Sp:=fun vs H Q _=>∃(a:Addr) (ns:List Int) (k:Int),vs=[.ref a,.int k]/\SqL K H a (ns.map V.int)/\0<=k/\Q (.int (ai ns k.toNat)) H
def Ga:Sp:=fun vs H Q _=>∃(a:Addr) (d:Dd),vs=[.ref a]/\DR H a d/\∀p H',Same H H'->H' p=some (.tup ((kyZ d).map V.int))->Q (.ref p) H'
section
variable{P:Program}{w:World}{K:PySem.W.Frag}{mg:Str->Option Value}{base:Heap}
abbrev hX:Stmt:=top 2
abbrev sO:List Str:=["thing"]
theorem rX:FnScope sO ["thing"] (al hX):=⟨rfl,rfl,rfl,by decide +kernel,rfl,by decide +kernel,by decide +kernel⟩
theorem rA{f:Addr}{fd:FuncData}(F:Fun K "is_number" "is_number" hX f fd)(a6:mg "isinstance" = none)(G6:mg "int" = none)(GL:mg "bool" = none) :
  FnOk P w K mg base CX0 1 f fd ["thing"] (oj K):=by
 refine F.okQ rX (fun vs H Q E h=>?_) (fun cdv A outer s H vs Q E hr h=>?_)
 ·obtain⟨v,n,rfl,_⟩:=h;rfl
 obtain⟨v,n,rfl,ty,q⟩:=h;refine⟨_,(b_1 (au (bM (q_B eV a6 aJ (q_a (q_v 0) (q_a (fj G6 qK) ag))) (bQ (vW (q_B eV a6 aJ (q_a (q_v 0) (q_a (fj GL oJ) ag)))))))),?_⟩
 try rw[cxK]
 refine⟨v,rfl,v,"int",.type n,isI v,rfl,ty,B6 ty,_,rfl,?_⟩;refine iL (fun c=>?_) (fun c=>?_)
 ·refine⟨v,rfl,v,"bool",.type n,isB v,rfl,ty,rg ty,_,rfl,?_⟩;have e:(!isB v)=eA v:=by cases v<;>simp_all [isI,isB,eA]
  show Q (.bl (!isB v)) H;rw[e];exact q
 ·have e:eA v=false:=by cases v<;>simp_all [isI,eA]
  rw[e]at q;exact q
abbrev iY:Stmt:=top 3
abbrev uP:List Str:=["thing","low"]
theorem tH:FnScope uP ["thing","low"] (al iY):=⟨rfl,rfl,rfl,by decide +kernel,rfl,by decide +kernel,by decide +kernel⟩
theorem tu{f:Addr}{fd:FuncData}(F:Fun K "is_whole" "is_whole" iY f fd)(i6:Fn P w K mg base 1 "is_number" ["thing"] (oj K)):FnOk P w K mg base CX0 2 f fd ["thing","low"] (iC K):=by
 refine F.okQ tH (fun vs H Q E h=>?_) (fun cdv A outer s H vs Q E hr h=>?_)
 ·obtain⟨v,n,lo,rfl,_⟩:=h;rfl
 obtain⟨v,n,lo,rfl,ty,q⟩:=h;refine⟨_,(b_1 (au (bM (aB i6 (hr.mono (by decide)) (q_a (q_v 0) ag)) (bQ (bt Ar (q_v 0) (q_v 1)))))),?_⟩
 try rw[cxK]
 refine⟨v,rfl,v,n,rfl,ty,_,rfl,?_⟩;refine iL (fun c=>?_) (fun c=>?_)
 ·cases v with
  |int i=>exact⟨_,rfl,_,rfl,i,lo,rfl,rfl,q⟩
  |_=>cases c
 ·have e:bo v lo=false:=by
   cases v with
   |int i=>exact absurd rfl c
   |_=>rfl
  rw[e]at q;exact q
abbrev jE:Stmt:=top 4
abbrev wL:List Str:=["thing","hands"]
theorem wj:FnScope wL ["thing","hands"] (al jE):=⟨rfl,rfl,rfl,by decide +kernel,rfl,by decide +kernel,by decide +kernel⟩
theorem vJ{f:Addr}{fd:FuncData}(F:Fun K "is_name" "is_name" jE f fd)(b9:Fn P w K mg base 2 "is_whole" ["thing","low"] (iC K))(a6:mg "isinstance" = none)(a8:mg "tuple" = none)(a7:mg "len" = none) :
  FnOk P w K mg base CX0 3 f fd ["thing","hands"] (uy K):=by
 refine F.okQ wj (fun vs H Q E h=>?_) (fun cdv A outer s H vs Q E hr h=>?_)
 ·obtain⟨v,h,rfl,_⟩:=h;rfl
 obtain⟨v,h,rfl,⟨⟨n,ty⟩,hx⟩,q⟩:=h;refine⟨_,(b_c (aU (t_w (ii (ci (bR (q_B eV a6 aJ (q_a (q_v 0) (q_a (fj a8 cc) ag))))) (fO (aM nF (q_B df a7 Z1 (q_a (q_v 0) ag)) aj)))) (b_1 (au bU)) b_0)
   (b_1 (au (bM (aB b9 (hr.mono (by decide)) (q_a (aD aI (q_v 0) aj) (q_a aj ag))) (bM (bt jt (aD aI (q_v 0) aj) (q_v 1)) (bQ (aB b9 (hr.mono (by decide)) (q_a (aD aI (q_v 0) aj) (q_a aj ag))))))))),?_⟩
 try rw[cxK]
 refine⟨v,rfl,v,"tuple",.type n,isT H v,rfl,ty,fR ty,_,rfl,?_⟩;cases hT:isT H v with
 |false =>refine aL (aL ?_);rw[(xM (h:=h) ty hT).1]at q;exact q
 |true =>
  obtain⟨a,xs,rfl,hH⟩:=nj hT;obtain⟨hl,hk⟩:=hx a xs rfl hH;rw[bv hH]at q;refine ax ?_;refine⟨_,rfl,a,xs,rfl,.inr (SqT.of hH),rfl,_,rfl,?_⟩;refine qh (fun c=>?_) (fun c=>?_)
  ·have e:qj h (some (.tup xs))=false:=by
    match xs,c with
    | [],_=>rfl
    | [_],_=>rfl
    | [_,_],c=>exact absurd rfl c
    |_::_::_::_,_=>rfl
   rw[e]at q;exact q
  ·obtain⟨x,y,rfl⟩:∃x y,xs=[x,y]:=by
    match xs,c with
    | [x,y],_=>exact⟨x,y,rfl⟩
    | [],c=>simp at c
    | [_],c=>simp at c
    |_::_::_::r,c=>simp at c;omega
   obtain⟨mx,tx⟩:=hk x (by simp);obtain⟨my,ty'⟩:=hk y (by simp);have q':Q (.bl (bo x 0&&(ltB x h&&bo y 1))) H:=q;refine⟨_,rfl,a,_,_,x,rfl,rfl,SqT.of hH,rfl,x,mx,0,rfl,tx,_,rfl,?_⟩;refine iL (fun c1=>?_) (fun c1=>?_)
   ·cases x with
    |int i =>
     rw[c1,Yi]at q';refine⟨_,rfl,a,_,_,.int i,rfl,rfl,SqT.of hH,rfl,_,rfl,_,_,rfl,rfl,_,rfl,?_⟩;refine iL (fun c2=>?_) (fun c2=>?_)
     ·have q2:Q (.bl (decide (i<h)&&bo y 1)) H:=q';rw[c2,Yi]at q2;exact⟨_,rfl,a,_,_,y,rfl,rfl,SqT.of hH,rfl,y,my,1,rfl,ty',q2⟩
     ·have q2:Q (.bl (decide (i<h)&&bo y 1)) H:=q';rw[ZL.mpr c2,Yc]at q2;exact q2
    |_=>cases c1
   ·rw[ZL.mpr c1,Yc]at q';exact q'
abbrev iV:Stmt:=top 5
abbrev uL:List Str:=["thing","hands"]
theorem tE:FnScope uL ["thing","hands"] (al iV):=⟨rfl,rfl,rfl,by decide +kernel,rfl,by decide +kernel,by decide +kernel⟩
theorem tj{f:Addr}{fd:FuncData}(F:Fun K "is_clock" "is_clock" iV f fd)(b9:Fn P w K mg base 2 "is_whole" ["thing","low"] (iC K))(a6:mg "isinstance" = none)(a8:mg "tuple" = none)(a7:mg "len" = none)(c8:mg "all" = none) :
  FnOk P w K mg base CX0 3 f fd ["thing","hands"] (pj K):=by
 refine F.okQ tE (fun vs H Q E h=>?_) (fun cdv A outer s H vs Q E hr h=>?_)
 ·obtain⟨v,h,rfl,_⟩:=h;rfl
 obtain⟨v,h,rfl,⟨⟨n,ty⟩,hx⟩,q⟩:=h;refine⟨_,(b_c (aU (t_w (ii (ci (bR (q_B eV a6 aJ (q_a (q_v 0) (q_a (fj a8 cc) ag))))) (fO (aM nF (q_B df a7 Z1 (q_a (q_v 0) ag)) (q_v 1))))) (b_1 (au bU)) b_0)
   (b_1 (au (q_B (jP rfl) c8 dR (q_a (cW (own:=["number"]) (⟨rfl,by decide +kernel,by decide +kernel,rfl,trivial⟩:CompOk _ _ [] []) rfl (Br (q_v 0)) (fun _ _ _ _=>bc (i:=0) (show (["number"]:List Str).Nodup by decide +kernel)) (bN (by decide)) (fun _ _ _ _=>iK) (fun _ _ _ _=>(aB b9 (hr.mono (by decide)) (q_a (q_v 0) (q_a aj ag))))) ag))))),?_⟩
 try rw[cxK]
 refine⟨v,rfl,v,"tuple",.type n,isT H v,rfl,ty,fR ty,_,rfl,?_⟩;cases hT:isT H v with
 |false =>refine aL (aL ?_);have q':=q H (Same.refl H);rw[(xM (h:=h) ty hT).2]at q';exact q'
 |true =>
  obtain⟨a,xs,rfl,hH⟩:=nj hT;obtain⟨hl,hk⟩:=hx a xs rfl hH;rw[dS hH]at q;have q:∀H',Same H H'->Q (.bl (decide ((xs.length:Int)=h)&&xs.all (fun x=>bo x 0))) H':=q;refine ax ?_;refine⟨_,rfl,a,xs,rfl,.inr (SqT.of hH),_,rfl,rfl,_,rfl,?_⟩;refine qh (fun c=>?_) (fun c=>?_)
  ·have q':=q H (Same.refl H);rw[decide_eq_false c,Yc]at q';exact q'
  ·refine⟨_,rfl,a,rfl,⟨xs,SqT.of hH⟩,?_⟩;refine qP (xs:=xs) (fun i=>.bl (bo ((xs[i]?).getD .non) 0)) hl (SqT.of hH) (fun i x H1 hi sm R k=>?_) (fun p H1 sm hp=>?_)
   ·obtain⟨m,tx⟩:=hk x (List.mem_of_getElem? hi);have k':=k H1 (Same.refl H1);rw[hi]at k';exact⟨x,rfl,x,m,0,rfl,cP sm tx,k'⟩
   ·refine⟨p,(List.range xs.length).map (fun i=>bo ((xs[i]?).getD .non) 0),rfl,SqL.of ?_,?_⟩
    ·rw[ad,Ys];rfl
    ·rw[lE (fun x=>bo x 0)];have q':=q (upd H1 p (.lst ((List.range xs.length).map (fun i=>V.bl (bo ((xs[i]?).getD .non) 0))))) (sm.trans (ah hp _));rw[decide_eq_true c,Yi]at q';exact q'
abbrev iW:Stmt:=top 27
abbrev uN:List Str:=["thing"]
theorem tG:FnScope uN ["thing"] (al iW):=⟨rfl,rfl,rfl,by decide +kernel,rfl,by decide +kernel,by decide +kernel⟩
theorem tm{f:Addr}{fd:FuncData}{tk:Tok}(F:Fun K "is_place" "is_place" iW f fd)(i6:Fn P w K mg base 1 "is_number" ["thing"] (oj K))(a6:mg "isinstance" = none)(a8:mg "tuple" = none)(a7:mg "len" = none)(c8:mg "all" = none)(j6:mg "MOST_NUMBERS" = some (.int 64 tk)) :
  FnOk P w K mg base CX0 2 f fd ["thing"] (pk K):=by
 refine F.okQ tG (fun vs H Q E h=>?_) (fun cdv A outer s H vs Q E hr h=>?_)
 ·obtain⟨v,rfl,_⟩:=h;rfl
 obtain⟨v,rfl,⟨⟨n,ty⟩,hx⟩,q⟩:=h;refine⟨_,(b_c (aU (t_w (ii (ci (bR (q_B eV a6 aJ (q_a (q_v 0) (q_a (fj a8 cc) ag))))) (fO (ci (C5 iQ iQ aj (q_B df a7 Z1 (q_a (q_v 0) ag)) (rF j6)))))) (b_1 (au bU)) b_0)
   (b_1 (au (q_B (jP rfl) c8 dR (q_a (cW (own:=["number"]) (⟨rfl,by decide +kernel,by decide +kernel,rfl,trivial⟩:CompOk _ _ [] []) rfl (Br (q_v 0)) (fun _ _ _ _=>bc (i:=0) (show (["number"]:List Str).Nodup by decide +kernel)) (bN (by decide)) (fun _ _ _ _=>iK) (fun _ _ _ _=>(aB i6 (hr.mono (by decide)) (q_a (q_v 0) ag)))) ag))))),?_⟩
 try rw[cxK]
 refine⟨v,rfl,v,"tuple",.type n,isT H v,rfl,ty,fR ty,_,rfl,?_⟩;cases hT:isT H v with
 |false =>
  refine aL (aL ?_);have e:gh H v=false:=by
   cases ty with
   |lst z=>exact bj z
   |frz z=>exact bj z
   |tup z=>rw[bK z (b:=true) rfl]at hT;cases hT
   |dK z=>exact bj z
   |dT z=>exact bj z
   |_=>rfl
  have q':=q H (Same.refl H);rw[e]at q';exact q'
 |true =>
  obtain⟨a,xs,rfl,hH⟩:=nj hT;obtain⟨hl,hk⟩:=hx a xs rfl hH;have eB:gh H (.ref a)=(decide (1<=xs.length)&&decide (xs.length<=64)&&xs.all eA):=bj hH;rw[eB]at q;refine ax ?_;refine⟨_,rfl,a,xs,rfl,.inr (SqT.of hH),_,_,rfl,rfl,_,rfl,?_⟩;refine iL (fun c=>?_) (fun c=>?_)
  ·have c1:1<=xs.length:=by have:=ZS c;omega
   refine⟨_,_,rfl,rfl,_,rfl,?_⟩;by_cases c2:xs.length<=64
   ·have e2:decide ((xs.length:Int)<=64)=true:=decide_eq_true (by omega);rw[e2];refine ax ?_;refine⟨_,rfl,a,rfl,⟨xs,SqT.of hH⟩,?_⟩;refine qP (xs:=xs) (fun i=>.bl (eA ((xs[i]?).getD .non))) hl (SqT.of hH) (fun i x H1 hi sm R k=>?_) (fun p H1 sm hp=>?_)
    ·obtain⟨m,tx⟩:=hk x (List.mem_of_getElem? hi);refine⟨x,rfl,x,m,rfl,cP sm tx,?_⟩;have k':=k H1 (Same.refl H1);rw[hi]at k';exact k'
    ·refine⟨p,(List.range xs.length).map (fun i=>eA ((xs[i]?).getD .non)),rfl,SqL.of ?_,?_⟩
     ·rw[ad,Ys];rfl
     ·rw[lE eA];have q':=q (upd H1 p (.lst ((List.range xs.length).map (fun i=>V.bl (eA ((xs[i]?).getD .non)))))) (sm.trans (ah hp _));rw[decide_eq_true c1,decide_eq_true c2,Yi,Yi]at q';exact q'
   ·have e2:decide ((xs.length:Int)<=64)=false:=decide_eq_false (by omega);rw[e2];refine aL ?_;have q':=q H (Same.refl H);rw[decide_eq_false c2,Bool.and_false,Yc]at q';exact q'
  ·have c1:¬1<=xs.length:=by have:=of_decide_eq_false (ZL.mpr c);omega
   refine⟨_,rfl,?_⟩;refine aL ?_;have q':=q H (Same.refl H);rw[decide_eq_false c1,Yc,Yc]at q';exact q'
abbrev nW:Stmt:=top 9
abbrev BP:List Str:=["clock","name"]
theorem A0:FnScope BP ["clock","name"] (al nW):=⟨rfl,rfl,rfl,by decide +kernel,rfl,by decide +kernel,by decide +kernel⟩
theorem Ax{f:Addr}{fd:FuncData}(F:Fun K "tells" "tells" nW f fd):FnOk P w K mg base CX0 1 f fd ["clock","name"] om:=by
 refine F.okQ A0 (fun vs H Q E h=>?_) (fun cdv A outer s H vs Q E hr h=>?_)
 ·obtain⟨a,b,xs,i,j,z,rfl,_⟩:=h;rfl
 obtain⟨a,b,xs,i,j,z,rfl,hA,hB,hz,q⟩:=h;refine⟨_,(b_1 (au (bt Ar (aD aI (q_v 0) (aD aI (q_v 1) aj)) (aD aI (q_v 1) aj)))),?_⟩
 try rw[cxK]
 exact⟨_,rfl,_,rfl,b,_,_,_,rfl,rfl,SqT.of hB,rfl,a,_,_,_,rfl,rfl,SqT.of hA,hz,_,rfl,b,_,_,_,rfl,rfl,SqT.of hB,rfl,_,_,rfl,rfl,q⟩
abbrev eQ:Stmt:=top 13
abbrev mO:List Str:=["thing"]
theorem mw:FnScope mO ["thing"] (al eQ):=⟨rfl,rfl,rfl,by decide +kernel,rfl,by decide +kernel,by decide +kernel⟩
abbrev gE:Stmt:=top 14
abbrev qF:List Str:=["word"]
theorem qc:FnScope qF ["word"] (al gE):=⟨rfl,rfl,rfl,by decide +kernel,rfl,by decide +kernel,by decide +kernel⟩
theorem mj{f:Addr}{fd:FuncData}(F:Fun K "is_deed_word" "is_deed_word" eQ f fd){dd:Addr}(d7:mg "DEED_PARTS" = some (.ref dd))(T:Tab K dd DT)(a6:mg "isinstance" = none)(u5:mg "str" = none):FnOk P w K mg base CX0 1 f fd ["thing"] (ss K):=by
 refine F.okQ mw (fun vs H Q E h=>?_) (fun cdv A outer s H vs Q E hr h=>?_)
 ·obtain⟨v,n,rfl,_⟩:=h;rfl
 obtain⟨v,n,rfl,ty,q0,q⟩:=h;refine⟨_,(b_1 (au (bM (q_B eV a6 aJ (q_a (q_v 0) (q_a (fj u5 kE) ag))) (bQ (bt Cd (q_v 0) (vV d7)))))),?_⟩
 try rw[cxK]
 refine⟨_,rfl,v,"str",.type n,isS v,rfl,ty,uf ty,_,rfl,?_⟩;refine iL (fun c=>?_) (fun c=>?_)
 ·cases v with
  |str k=>exact⟨_,rfl,dd,k,DT,rfl,rfl,T,q k rfl⟩
  |_=>cases c
 ·exact q0 (ZL.mpr c)
theorem pW{f:Addr}{fd:FuncData}(F:Fun K "deed_parts" "deed_parts" gE f fd){dd:Addr}(d7:mg "DEED_PARTS" = some (.ref dd))(T:Tab K dd DT):FnOk P w K mg base CX0 1 f fd ["word"] (uA K):=by
 refine F.okQ qc (fun vs H Q E h=>?_) (fun cdv A outer s H vs Q E hr h=>?_)
 ·obtain⟨k,ws,rfl,_⟩:=h;rfl
 obtain⟨k,ws,rfl,hk,q⟩:=h;refine⟨_,(b_1 (au (aD Gi (vV d7) (q_v 0)))),?_⟩
 try rw[cxK]
 exact⟨_,rfl,dd,k,DT,tw ws,rfl,rfl,T,hk,q⟩
abbrev jG:Stmt:=top 37
abbrev wN:List Str:=["sign"]
theorem wm:FnScope wN ["sign"] (al jG):=⟨rfl,rfl,rfl,by decide +kernel,rfl,by decide +kernel,by decide +kernel⟩
theorem vL{f:Addr}{fd:FuncData}{t1 t2 t3:Tok}(F:Fun K "is_sign" "is_sign" jG f fd)(HG:mg "ord" = none)(v5:mg "FIRST_SIGN" = some (.int 32 t1))(GG:mg "LAST_SIGN" = some (.int 126 t2))(j7:mg "PERCENT_SIGN" = some (.int 37 t3)):FnOk P w K mg base CX0 1 f fd ["sign"] yQ:=by
 refine F.okQ wm (fun vs H Q E h=>?_) (fun cdv A outer s H vs Q E hr h=>?_)
 ·obtain⟨c,rfl,_⟩:=h;rfl
 obtain⟨c,rfl,q⟩:=h;refine⟨_,(b_1 (au (bM (CP iQ iQ (rF v5) (q_B Bn HG PyProof.Rows.bootS_ord (q_a (q_v 0) ag)) (rF GG)) (bQ (bt nF (q_B Bn HG PyProof.Rows.bootS_ord (q_a (q_v 0) ag)) (rF j7)))))),?_⟩
 try rw[cxK]
 refine⟨_,rfl,c,rfl,_,_,rfl,rfl,_,rfl,?_⟩;unfold eZ at q;by_cases c1:(32:Int)<=c
 ·rw[decide_eq_true c1]at q ⊢;refine aL ⟨_,_,rfl,rfl,_,rfl,?_⟩;by_cases c2:(c:Int)<=126
  ·rw[decide_eq_true c2]at q ⊢;refine aL ⟨_,rfl,c,rfl,rfl,?_⟩;have e:decide (V.int (c:Int)=V.int 37)=decide ((c:Int)=37):=by
    by_cases z:(c:Int)=37
    ·rw[z,decide_eq_true rfl,decide_eq_true rfl]
    ·rw[decide_eq_false z,decide_eq_false (fun y=>z (V.int.inj y))]
   rw[e];exact q
  ·rw[decide_eq_false c2]at q ⊢;exact ax q
 ·rw[decide_eq_false c1]at q ⊢;exact ax ⟨_,rfl,ax q⟩
abbrev jH:Stmt:=top 36
abbrev wO:List Str:=["thing"]
theorem wn:FnScope wO ["thing"] (al jH):=⟨rfl,rfl,rfl,by decide +kernel,rfl,by decide +kernel,by decide +kernel⟩
theorem yJ(x:Str):(((List.range x.cps.size).map fun i=>eZ (x.cps.getD i 0)).all id)=cX x:=by
 unfold cX;rw[List.all_map,Yq,ZC,ZC];constructor
 ·intro h c hc;obtain⟨i,hi,rfl⟩:=List.getElem_of_mem hc;have hi':i<x.cps.size:=by simpa using hi
  have:=h i (Z8.mpr hi');simpa[ZJ,hi']using this
 ·intro h i hi;have hi':=Z8.mp hi;have:=h x.cps[i] (by simp);simpa[ZJ,hi']using this
theorem vM{f:Addr}{fd:FuncData}(F:Fun K "is_text" "is_text" jH f fd)(GV:Fn P w K mg base 1 "is_sign" ["sign"] yQ)(a6:mg "isinstance" = none)(u5:mg "str" = none)(c8:mg "all" = none):FnOk P w K mg base CX0 2 f fd ["thing"] (sj K):=by
 refine F.okQ wn (fun vs H Q E h=>?_) (fun cdv A outer s H vs Q E hr h=>?_)
 ·obtain⟨v,rfl,_⟩:=h;rfl
 obtain⟨v,rfl,h⟩:=h;refine⟨_,(b_1 (au (bM (q_B eV a6 aJ (q_a (q_v 0) (q_a (fj u5 kE) ag))) (bQ (q_B (jP rfl) c8 dR (q_a (cW (own:=["sign"]) (⟨rfl,by decide +kernel,by decide +kernel,rfl,trivial⟩:CompOk _ _ [] []) rfl (Fv (q_v 0)) (fun _ _ _ _=>bc (i:=0) (show(["sign"]:List Str).Nodup by decide +kernel)) (bN (by decide)) (fun _ _ _ _=>iK) (fun _ _ _ _=>(aB GV (hr.mono (by decide)) (q_a (q_v 0) ag)))) ag)))))),?_⟩
 try rw[cxK]
 rcases h with⟨n,ty,hs,q⟩|⟨x,rfl,hl,ha,q⟩
 ·refine⟨_,rfl,v,"str",.type n,isS v,rfl,ty,uf ty,_,rfl,?_⟩;rw[hs];exact ax q
 ·refine⟨_,rfl,.str x,"str",.type "str",true,rfl,.str _,bC (b:=true) (by decide +kernel) (fun z=>nomatch z),_,rfl,aL ⟨_,rfl,x,rfl,ha,?_⟩⟩;refine zT (x:=x) (fun i=>.bl (eZ (x.cps.getD i 0))) hl (fun i c H1 hi sm R k=>?_) (fun p H1 sm hp=>?_)
  ·have e:x.cps.getD i 0=c:=by rw[ZJ,hi];rfl
   rw[e]at k;exact⟨_,rfl,c,rfl,k H1 (Same.refl H1)⟩
  ·refine⟨p,(List.range x.cps.size).map (fun i=>eZ (x.cps.getD i 0)),rfl,SqL.of (by rw[ad,Ys];rfl),?_⟩;rw[yJ];exact q _ (sm.trans (ah hp _))
abbrev jD:Stmt:=top 42
abbrev wK:List Str:=["thing","hands"]
theorem wg:FnScope wK ["thing","hands"] (al jD):=⟨rfl,rfl,rfl,by decide +kernel,rfl,by decide +kernel,by decide +kernel⟩
theorem vI{f:Addr}{fd:FuncData}(F:Fun K "is_hand" "is_hand" jD f fd)(b9:Fn P w K mg base 2 "is_whole" ["thing","low"] (iC K)):FnOk P w K mg base CX0 3 f fd ["thing","hands"] (sf K):=by
 refine F.okQ wg (fun vs H Q E h=>?_) (fun cdv A outer s H vs Q E hr h=>?_)
 ·obtain⟨v,n,h,rfl,_⟩:=h;rfl
 obtain⟨v,n,h,rfl,ty,q⟩:=h;refine⟨_,(b_1 (au (bM (aB b9 (hr.mono (by decide)) (q_a (q_v 0) (q_a aj ag))) (bQ (bt jt (q_v 0) (q_v 1)))))),?_⟩
 try rw[cxK]
 refine⟨_,rfl,v,n,0,rfl,ty,_,rfl,?_⟩;refine iL (fun c=>?_) (fun c=>?_)
 ·cases v with
  |int i =>rw[c,Yi]at q;exact⟨_,rfl,_,rfl,i,h,rfl,rfl,q⟩
  |_=>cases c
 ·rw[ZL.mpr c,Yc]at q;exact q
abbrev eI:Stmt:=top 45
abbrev lD:List Str:=["thing","hand","clock"]
theorem lj:FnScope lD ["thing","hand","clock"] (al eI):=⟨rfl,rfl,rfl,by decide +kernel,rfl,by decide +kernel,by decide +kernel⟩
theorem kU{f:Addr}{fd:FuncData}(F:Fun K "is_known_item" "is_known_item" eI f fd)(GW:Fn P w K mg base 3 "is_name" ["thing","hands"] (uy K))(u6:Fn P w K mg base 1 "tells" ["clock","name"] om)(a7:mg "len" = none):FnOk P w K mg base CX0 4 f fd ["thing","hand","clock"] (ux K):=by
 refine F.okQ lj (fun vs H Q E h=>?_) (fun cdv A outer s H vs Q E hr h=>?_)
 ·obtain⟨v,b,c,hd,ns,rfl,_⟩:=h;rfl
 obtain⟨v,b,c,hd,ns,rfl,hC,d0,d1,r,q⟩:=h;refine⟨_,(b_1 (au (bM (aB GW (hr.mono (by decide)) (q_a (q_v 0) (q_a (q_B df a7 Z1 (q_a (q_v 2) ag)) ag))) (bM (aB u6 (hr.mono (by decide)) (q_a (q_v 2) (q_a (q_v 0) ag))) (bQ (bt (yd hr.units) (q_v 0) (aE (q_a (q_v 1) (q_a (aD aI (q_v 2) (q_v 1)) ag))))))))),?_⟩
 try rw[cxK]
 cases r with
 |no a e =>refine⟨_,rfl,_,rfl,c,_,rfl,.inr (SqT.of hC),v,_,rfl,a,_,rfl,?_⟩;rw[Za,e];exact ax (q H (Same.refl H))
 |@is a i j e =>
  refine⟨_,rfl,_,rfl,c,_,rfl,.inr (SqT.of hC),.ref a,_,rfl,oA e (Nat.le_of_ble_eq_true rfl) (fun x hx=>?_),_,rfl,?_⟩
  ·simp only[Zj,ZN,Ym]at hx;rcases hx with rfl|rfl
   ·exact⟨_,.int _⟩
   ·exact⟨_,.int _⟩
  rw[Za,bv e];have e':H a=some (.tup ([i,j].map V.int)):=e;unfold eC at q;show if(decide (0<=i)&&(decide (i<(ns.length:Int))&&decide (1<=j)))=true then _ else _
  by_cases c1:(decide (0<=i)&&(decide (i<(ns.length:Int))&&decide (1<=j)))=true
  ·rw[c1]at q ⊢;simp only[Zk,Z6]at c1;obtain⟨i0,i1,j1⟩:=c1;refine aL ⟨_,rfl,_,rfl,c,a,_,i,j,_,rfl,hC,e,bI i0 i1,_,rfl,?_⟩;by_cases c2:j<=ai ns i.toNat
   ·rw[decide_eq_true c2]at q ⊢;refine aL ⟨_,rfl,_,rfl,_,rfl,_,rfl,c,_,_,_,rfl,rfl,SqT.of hC,bI d0 d1,sz rfl,fun p g=>?_⟩;have w1:=ah g (.tup [.int hd,.int (ai ns hd.toNat)]);exact⟨a,p,[i,j],nmL hd ns,rfl,rfl,w1 _ _ e',ad,q _ w1⟩
   ·rw[decide_eq_false c2]at q ⊢;exact ax (q H (Same.refl H))
  ·rw[Bool.not_eq_true]at c1;rw[c1]at q ⊢;exact ax (q H (Same.refl H))
abbrev jF:Stmt:=top 44
abbrev wM:List Str:=["kind","part","hand","clock"]
theorem wl:FnScope wM ["kind","part","hand","clock"] (al jF):=⟨rfl,rfl,rfl,by decide +kernel,rfl,by decide +kernel,by decide +kernel⟩
theorem vK{f:Addr}{fd:FuncData}{tk:Tok}(F:Fun K "is_part" "is_part" jF f fd)(i9:Fn P w K mg base 4 "is_known_item" ["thing","hand","clock"] (ux K))(GO:Fn P w K mg base 2 "is_place" ["thing"] (pk K))(GX:Fn P w K mg base 2 "is_text" ["thing"] (sj K))(j3:Fn P w K mg base 3 "is_hand" ["thing","hands"] (sf K))(b9:Fn P w K mg base 2 "is_whole" ["thing","low"] (iC K))(a6:mg "isinstance" = none)(GL:mg "bool" = none)(a7:mg "len" = none)(v6:mg "MOST_SIGNS" = some (.int 60 tk)):FnOk P w K mg base CX0 5 f fd ["kind","part","hand","clock"] (sh K):=by
 refine F.okQ wl (fun vs H Q E h=>?_) (fun cdv A outer s H vs Q E hr h=>?_)
 ·obtain⟨k,v,b,c,hd,ns,rfl,_⟩:=h;rfl
 obtain⟨k,v,b,c,hd,ns,rfl,hC,d0,d1,hp,q⟩:=h;refine⟨_,(b_c (aU (aM cJ (q_v 0) aG) (b_1 (au (aB i9 (hr.mono (by decide)) (q_a (q_v 1) (q_a (q_v 2) (q_a (q_v 3) ag)))))) b_0)
   (b_c (aU (aM cJ (q_v 0) aG) (b_1 (au (vX (bt mi (q_v 1) bA) (bQ (aB i9 (hr.mono (by decide)) (q_a (q_v 1) (q_a (q_v 2) (q_a (q_v 3) ag)))))))) b_0)
   (b_c (aU (aM cJ (q_v 0) aG) (b_1 (au (aB GO (hr.mono (by decide)) (q_a (q_v 1) ag)))) b_0)
   (b_c (aU (aM cJ (q_v 0) aG) (b_1 (au (bM (aB GX (hr.mono (by decide)) (q_a (q_v 1) ag)) (bQ (bt iQ (q_B Dq a7 Z1 (q_a (q_v 1) ag)) (rF v6)))))) b_0)
   (b_c (aU (aM cJ (q_v 0) aG) (b_1 (au (q_B eV a6 aJ (q_a (q_v 1) (q_a (fj GL oJ) ag))))) b_0)
   (b_c (aU (aM cJ (q_v 0) aG) (b_1 (au (vX (bt mi (q_v 1) bA) (bQ (aB j3 (hr.mono (by decide)) (q_a (q_v 1) (q_a (q_B df a7 Z1 (q_a (q_v 3) ag)) ag))))))) b_0)
   (b_c (aU (aM cJ (q_v 0) aG) (b_1 (au (aB b9 (hr.mono (by decide)) (q_a (q_v 1) (q_a aj ag))))) b_0)
   (b_1 (au (bM (aB b9 (hr.mono (by decide)) (q_a (q_v 1) (q_a aj ag))) (bQ (bt jt (q_v 1) (aD aI (q_v 3) (q_v 2)))))))))))))),?_⟩
 try rw[cxK]
 have q0:=q H (Same.refl H);cases hp with
 |it r=>exact⟨_,rfl,rfl,_,rfl,fe ⟨_,rfl,_,rfl,_,rfl,v,b,c,hd,ns,rfl,hC,d0,d1,r,q⟩⟩
 |u0=>exact⟨_,rfl,rfl,_,rfl,aW (by decide +kernel) ⟨_,rfl,rfl,_,rfl,fe ⟨_,rfl,rfl,_,rfl,iM rfl q0⟩⟩⟩
 |up hv r=>exact⟨_,rfl,rfl,_,rfl,aW (by decide +kernel) ⟨_,rfl,rfl,_,rfl,fe ⟨_,rfl,rfl,_,rfl,lU hv ⟨_,rfl,_,rfl,_,rfl,v,b,c,hd,ns,rfl,hC,d0,d1,r,q⟩⟩⟩⟩
 |pl a e =>subst e;exact⟨_,rfl,rfl,_,rfl,aW (by decide +kernel) ⟨_,rfl,rfl,_,rfl,aW (by decide +kernel) ⟨_,rfl,rfl,_,rfl,fe ⟨_,rfl,v,rfl,a,q⟩⟩⟩⟩
 |@tx x _ hl ha e =>
  refine⟨_,rfl,rfl,_,rfl,aW (by decide +kernel) ⟨_,rfl,rfl,_,rfl,aW (by decide +kernel) ⟨_,rfl,rfl,_,rfl,aW (by decide +kernel) ⟨_,rfl,rfl,_,rfl,fe ⟨_,rfl,.str x,rfl,.inr ⟨x,rfl,hl,ha,fun H1 s1=>⟨_,rfl,?_⟩⟩⟩⟩⟩⟩⟩;have q1:=q H1 s1;rw[<-e]at q1;by_cases c1:cX x=true
  ·rw[c1,Yi]at q1;rw[c1];refine aL ⟨_,rfl,x,rfl,hl,_,_,rfl,rfl,?_⟩;have e2:decide ((x.length:Int)<=60)=decide (x.length<=60):=by
    by_cases z:x.length<=60
    ·rw[decide_eq_true z,decide_eq_true (by omega)]
    ·rw[decide_eq_false z,decide_eq_false (by omega)]
   rw[<-e2]at q1;exact q1
  ·rw[Bool.not_eq_true]at c1;rw[c1,Yc]at q1;rw[c1];exact ax q1
 |@tn _ n ty hs=>exact⟨_,rfl,rfl,_,rfl,aW (by decide +kernel) ⟨_,rfl,rfl,_,rfl,aW (by decide +kernel) ⟨_,rfl,rfl,_,rfl,aW (by decide +kernel) ⟨_,rfl,rfl,_,rfl,fe ⟨_,rfl,v,rfl,.inl ⟨n,ty,hs,⟨_,rfl,ax q0⟩⟩⟩⟩⟩⟩⟩
 |@bl _ n _ ty e =>subst e;exact⟨_,rfl,rfl,_,rfl,aW (by decide +kernel) ⟨_,rfl,rfl,_,rfl,aW (by decide +kernel) ⟨_,rfl,rfl,_,rfl,aW (by decide +kernel) ⟨_,rfl,rfl,_,rfl,aW (by decide +kernel) ⟨_,rfl,rfl,_,rfl,fe ⟨_,rfl,v,"bool",.type n,isB v,rfl,ty,rg ty,q0⟩⟩⟩⟩⟩⟩
 |w0=>exact⟨_,rfl,rfl,_,rfl,aW (by decide +kernel) ⟨_,rfl,rfl,_,rfl,aW (by decide +kernel) ⟨_,rfl,rfl,_,rfl,aW (by decide +kernel) ⟨_,rfl,rfl,_,rfl,aW (by decide +kernel) ⟨_,rfl,rfl,_,rfl,aW (by decide +kernel) ⟨_,rfl,rfl,_,rfl,fe ⟨_,rfl,rfl,_,rfl,iM rfl q0⟩⟩⟩⟩⟩⟩⟩
 |@wh _ n _ hv ty e =>subst e;refine⟨_,rfl,rfl,_,rfl,aW (by decide +kernel) ⟨_,rfl,rfl,_,rfl,aW (by decide +kernel) ⟨_,rfl,rfl,_,rfl,aW (by decide +kernel) ⟨_,rfl,rfl,_,rfl,aW (by decide +kernel) ⟨_,rfl,rfl,_,rfl,aW (by decide +kernel) ⟨_,rfl,rfl,_,rfl,fe ⟨_,rfl,rfl,_,rfl,lU hv ⟨_,rfl,_,rfl,c,_,rfl,.inr (SqT.of hC),v,n,_,rfl,ty,?_⟩⟩⟩⟩⟩⟩⟩⟩;rw[Za];exact q0
 |@«at» _ n _ ty e =>subst e;exact⟨_,rfl,rfl,_,rfl,aW (by decide +kernel) ⟨_,rfl,rfl,_,rfl,aW (by decide +kernel) ⟨_,rfl,rfl,_,rfl,aW (by decide +kernel) ⟨_,rfl,rfl,_,rfl,aW (by decide +kernel) ⟨_,rfl,rfl,_,rfl,aW (by decide +kernel) ⟨_,rfl,rfl,_,rfl,aW (by decide +kernel) ⟨_,rfl,rfl,_,rfl,fe ⟨_,rfl,v,n,0,rfl,ty,q0⟩⟩⟩⟩⟩⟩⟩⟩
 |@nu _ n _ ty e =>
  subst e;refine⟨_,rfl,rfl,_,rfl,aW (by decide +kernel) ⟨_,rfl,rfl,_,rfl,aW (by decide +kernel) ⟨_,rfl,rfl,_,rfl,aW (by decide +kernel) ⟨_,rfl,rfl,_,rfl,aW (by decide +kernel) ⟨_,rfl,rfl,_,rfl,aW (by decide +kernel) ⟨_,rfl,rfl,_,rfl,aW (by decide +kernel) ⟨_,rfl,rfl,_,rfl,aW (by decide +kernel) ⟨_,rfl,v,n,1,rfl,ty,_,rfl,?_⟩⟩⟩⟩⟩⟩⟩⟩;refine iL (fun c1=>?_) (fun c1=>?_)
  ·cases v with
   |int i =>rw[c1,Yi]at q0;exact⟨_,rfl,_,rfl,_,rfl,c,_,_,_,rfl,rfl,SqT.of hC,bI d0 d1,_,_,rfl,rfl,q0⟩
   |_=>cases c1
  ·rw[ZL.mpr c1,Yc]at q0;exact q0
abbrev jJ:Stmt:=top 43
abbrev wQ:List Str:=["thing","hand","clock","kinds"]
theorem mz:FnScope wQ ["thing","hand","clock"] (al jJ):=⟨rfl,rfl,rfl,by decide +kernel,rfl,by decide +kernel,by decide +kernel⟩
theorem vO{f:Addr}{fd:FuncData}(F:Fun K "is_what" "is_what" jJ f fd)(j8:Fn P w K mg base 1 "is_deed_word" ["thing"] (ss K))(v7:Fn P w K mg base 1 "deed_parts" ["word"] (uA K))(GY:Fn P w K mg base 5 "is_part" ["kind","part","hand","clock"] (sh K))(a6:mg "isinstance" = none)(a8:mg "tuple" = none)(a7:mg "len" = none)(c8:mg "all" = none)(G7:mg "zip" = none):FnOk P w K mg base CX0 6 f fd ["thing","hand","clock"] (sq K):=by
 refine F.okQ mz (fun vs H Q E h=>?_) (fun cdv A outer s H vs Q E hr h=>?_)
 ·obtain⟨v,b,c,hd,ns,rfl,_⟩:=h;rfl
 obtain⟨v,b,c,hd,ns,rfl,hC,d0,d1,r,q⟩:=h;refine⟨_,(b_c (aU (t_w (ii (ci (bR (q_B eV a6 aJ (q_a (q_v 0) (q_a (fj a8 cc) ag))))) (ii (aM cJ (q_B df a7 Z1 (q_a (q_v 0) ag)) aj) (fO (ci (bR (aB j8 (hr.mono (by decide)) (q_a (aD aI (q_v 0) aj) ag)))))))) (b_1 (au bU)) b_0)
   (b_c (aH (i:=3) mz.nd (aB v7 (hr.mono (by decide)) (q_a (aD aI (q_v 0) aj) ag)))
   (b_c (aU (aM nF (q_B df a7 Z1 (q_a (q_v 0) ag)) (aN cG (q_B df a7 Z1 (q_a (q_v 3) ag)) aj)) (b_1 (au bU)) b_0)
   (b_1 (au (q_B (jP rfl) c8 dR (q_a (cW (own:=["kind","part"]) (⟨rfl,by decide +kernel,by decide +kernel,rfl,⟨rfl,rfl,⟨rfl,rfl,trivial⟩⟩⟩:CompOk _ _ [1,2] ["hand","clock"]) rfl (Bs G7 (q_a (q_v 3) (q_a (vY rj (q_v 0) (rG aj) AQ) ag))) (fun _ _ _ _=>xF (K:=K) (n:=2) rfl rfl (gW (bc (i:=0) (show (["kind","part","hand","clock"]:List Str).Nodup by decide +kernel)) (gW (bc (i:=1) (show (["kind","part","hand","clock"]:List Str).Nodup by decide +kernel)) qW))) (xG (iI (bN (by decide)) fQ (iI (bN (by decide)) fQ tZ jS) (qV fQ jS))) (fun _ _ _ _=>iK) (fun _ _ _ _=>(aB GY (hr.mono (by decide)) (q_a (q_v 0) (q_a (q_v 1) (q_a (q_v 2) (q_a (q_v 3) ag))))))) ag))))))),?_⟩
 try rw[cxK]
 have q0:=q H (Same.refl H);have isT1:∀{t:Addr} {xs:List V},H t=some (.tup xs)->TyOf K H (.ref t) (.type "tuple"):=fun e=>.tup e;cases r with
 |@flat _ n ty hT =>refine⟨_,rfl,v,"tuple",.type n,isT H v,rfl,ty,fR ty,_,rfl,?_⟩;rw[hT];exact aL (aL q0)
 |@emp t e =>refine⟨_,rfl,.ref t,"tuple",.type "tuple",true,rfl,.tup e,bC (b:=true) (by decide +kernel) (fun z=>nomatch z),_,rfl,ax ?_⟩;exact⟨_,rfl,t,_,rfl,.inr (SqT.of e),rfl,_,rfl,iM rfl q0⟩
 |@noStr t x n ps e ty hs =>refine⟨_,rfl,.ref t,"tuple",.type "tuple",true,rfl,.tup e,bC (b:=true) (by decide +kernel) (fun z=>nomatch z),_,rfl,ax ?_⟩;refine⟨_,rfl,t,_,rfl,.inr (SqT.of e),rfl,_,rfl,aW (fun z=>by injection z with z;rw[Zl]at z;omega) ?_⟩;exact⟨_,rfl,t,_,_,_,rfl,rfl,SqT.of e,mS,x,n,rfl,ty,fun _=>⟨_,rfl,aL q0⟩,fun k hk=>by subst hk;cases hs⟩
 |@noWord t k ps e hk =>refine⟨_,rfl,.ref t,"tuple",.type "tuple",true,rfl,.tup e,bC (b:=true) (by decide +kernel) (fun z=>nomatch z),_,rfl,ax ?_⟩;refine⟨_,rfl,t,_,rfl,.inr (SqT.of e),rfl,_,rfl,aW (fun z=>by injection z with z;rw[Zl]at z;omega) ?_⟩;refine⟨_,rfl,t,_,_,_,rfl,rfl,SqT.of e,mS,.str k,"str",rfl,.str k,(fun z=>nomatch z),fun k' hk'=>⟨_,rfl,?_⟩⟩;cases hk';rw[hk];exact aL q0
 |@len t k ps ks e hk hl =>refine⟨_,rfl,.ref t,"tuple",.type "tuple",true,rfl,.tup e,bC (b:=true) (by decide +kernel) (fun z=>nomatch z),_,rfl,ax ?_⟩;refine⟨_,rfl,t,_,rfl,.inr (SqT.of e),rfl,_,rfl,aW (fun z=>by injection z with z;rw[Zl]at z;omega) ?_⟩;refine⟨_,rfl,t,_,_,_,rfl,rfl,SqT.of e,mS,.str k,"str",rfl,.str k,(fun z=>nomatch z),fun k' hk'=>⟨_,rfl,?_⟩⟩;cases hk';rw[hk];refine ax ?_;refine⟨_,rfl,t,_,_,_,rfl,rfl,SqT.of e,mS,k,ks.map nm,rfl,hk,fun y hy=>?_⟩;refine⟨_,rfl,t,_,rfl,.inr (SqT.of e),_,rfl,y,_,rfl,.inr (hy H),_,_,rfl,rfl,rfl,_,rfl,qh (fun _=>q0) (fun z=>?_)⟩;rw[Zl,Za,Za]at z;exact absurd (by omega) hl
 |@is t k ps ks bs _ e hk l3 hp hb =>
  subst hb;obtain⟨lw,lb,hpp⟩:=id hp;refine⟨_,rfl,.ref t,"tuple",.type "tuple",true,rfl,.tup e,bC (b:=true) (by decide +kernel) (fun z=>nomatch z),_,rfl,ax ?_⟩;refine⟨_,rfl,t,_,rfl,.inr (SqT.of e),rfl,_,rfl,aW (fun z=>by injection z with z;rw[Zl]at z;omega) ?_⟩;refine⟨_,rfl,t,_,_,_,rfl,rfl,SqT.of e,mS,.str k,"str",rfl,.str k,(fun z=>nomatch z),fun k' hk'=>⟨_,rfl,?_⟩⟩;cases hk';rw[hk];refine ax ?_;refine⟨_,rfl,t,_,_,_,rfl,rfl,SqT.of e,mS,k,ks.map nm,rfl,hk,fun y hy=>?_⟩;refine⟨_,rfl,t,_,rfl,.inr (SqT.of e),_,rfl,y,_,rfl,.inr (hy H),_,_,rfl,rfl,rfl,_,rfl,lV (by rw[Zl,Za,Za,lw];rfl) ?_⟩;have cv:de (V.str k::ps) (some 1) none=ps:=by unfold de;rw[HT.sIx_none,rK (by decide),Zl,show((1:Int).toNat)=1 from rfl,Nat.min_eq_left (by omega),List.drop_succ_cons,List.drop_zero,List.take_of_length_le (by omega)]
  refine⟨_,rfl,_,rfl,_,rfl,t,_,rfl,e,fun z H0 w1 ez=>?_⟩;rw[cv]at ez;refine⟨y,z,_,_,rfl,hy _,SqT.of ez,by rw[Za,Za,lw],?_⟩;refine qQ (fun i=>.bl ((bs[i]?).getD true)) (by rw[Za,Za];omega) (hy _) (SqT.of ez) (by rw[Za,Za,lw]) (fun i x v H1 hx hv sm R kk=>?_) (fun p H1 sm hp1=>?_)
  ·obtain⟨kd,hkd,rfl⟩:∃kd,ks[i]?=some kd/\x=.str (nm kd):=by
    rw[Zx,Zx]at hx;cases e:ks[i]? with
    |none=>rw[e]at hx;cases hx
    |some kd=>rw[e]at hx;cases hx;exact⟨kd,rfl,rfl⟩
   have hi:i<bs.length:=by rw[lb];exact(Zv.mp hv).1
   have hb:bs[i]?=some bs[i]:=Zd hi;have pb:=(hpp i kd v bs[i] hkd hv hb).same (w1.trans sm);rw[hb]at kk;exact⟨_,rfl,_,rfl,_,rfl,_,rfl,kd,v,bs[i],c,hd,ns,rfl,sm _ _ (w1 _ _ hC),d0,d1,pb,fun H2 s2=>kk H2 s2⟩
  ·refine⟨p,(List.range ((ks.map nm).map V.str).length).map (fun i=>(bs[i]?).getD true),rfl,SqL.of (by rw[ad];simp only[Ys];rfl),?_⟩;have e:((List.range ((ks.map nm).map V.str).length).map fun i=>(bs[i]?).getD true)=bs:=by rw[Za,Za,lw,<-lb];refine List.ext_getElem (by simp) fun i h1 h2=>?_;simp[h2]
   rw[e];exact q _ (w1.trans (sm.trans (ah hp1 _)))
abbrev jC:Stmt:=top 41
abbrev wJ:List Str:=["thing","hands"]
theorem wd:FnScope wJ ["thing","hands"] (al jC):=⟨rfl,rfl,rfl,by decide +kernel,rfl,by decide +kernel,by decide +kernel⟩
theorem lS{H:Hp}{c:Addr}{ns:List Int}(e:H c=some (.tup (ns.map V.int)))(hl:ns.length<=1000):Asked K H (.ref c):=oA e (by rw[Za];exact hl) (fun x hx=>by
 obtain⟨n,_,rfl⟩:=Zt.mp hx;exact⟨_,.int n⟩)
theorem oK{H:Hp}{c:Addr}{ns:List Int}{h:Int}(e:H c=some (.tup (ns.map V.int)))(hl:(ns.length:Int)=h)(hn:∀n∈ns,0<=n):jd H h (.ref c)=true:=by rw[dS e];show(decide (((ns.map V.int).length:Int)=h)&&(ns.map V.int).all (fun x=>bo x 0))=true;rw[Za,decide_eq_true hl,Yi,ZC];intro x hx;obtain⟨n,hm,rfl⟩:=Zt.mp hx;exact decide_eq_true (hn n hm)
theorem vH{f:Addr}{fd:FuncData}(F:Fun K "is_deed" "is_deed" jC f fd)(j3:Fn P w K mg base 3 "is_hand" ["thing","hands"] (sf K))(GP:Fn P w K mg base 3 "is_clock" ["thing","hands"] (pj K))(GZ:Fn P w K mg base 6 "is_what" ["thing","hand","clock"] (sq K))(a6:mg "isinstance" = none)(a8:mg "tuple" = none)(a7:mg "len" = none):FnOk P w K mg base CX0 7 f fd ["thing","hands"] (yN K):=by
 refine F.okQ wd (fun vs H Q E h=>?_) (fun cdv A outer s H vs Q E hr h=>?_)
 ·obtain⟨v,b,h,rfl,_⟩:=h;rfl
 obtain⟨v,b,h,rfl,r,q⟩:=h;refine⟨_,(b_c (aU (t_w (ii (ci (bR (q_B eV a6 aJ (q_a (q_v 0) (q_a (fj a8 cc) ag))))) (fO (aM nF (q_B df a7 Z1 (q_a (q_v 0) ag)) aj)))) (b_1 (au bU)) b_0)
   (b_c (aU (t_w (ii (ci (bR (aB j3 (hr.mono (by decide)) (q_a (aD aI (q_v 0) aj) (q_a (q_v 1) ag))))) (fO (ci (bR (aB GP (hr.mono (by decide)) (q_a (aD aI (q_v 0) aj) (q_a (q_v 1) ag)))))))) (b_1 (au bU)) b_0)
   (b_1 (au (bM (bt Ar (aD aI (aD aI (q_v 0) aj) (aD aI (q_v 0) aj)) aj) (bQ (aB GZ (hr.mono (by decide)) (q_a (aD aI (q_v 0) aj) (q_a (aD aI (q_v 0) aj) (q_a (aD aI (q_v 0) aj) ag)))))))))),?_⟩
 try rw[cxK]
 have q0:=q H (Same.refl H);cases r with
 |@flat _ n ty hT =>refine⟨_,rfl,v,"tuple",.type n,isT H v,rfl,ty,fR ty,_,rfl,?_⟩;rw[hT];exact aL (aL q0)
 |@len a xs e hl =>refine⟨_,rfl,.ref a,"tuple",.type "tuple",true,rfl,.tup e,bC (b:=true) (by decide +kernel) (fun z=>nomatch z),_,rfl,ax ?_⟩;refine⟨_,rfl,a,_,rfl,.inr (SqT.of e),rfl,_,rfl,qh (fun _=>q0) (fun z=>absurd (by omega) hl)⟩
 |@hand a x y z n e ty hx =>refine⟨_,rfl,.ref a,"tuple",.type "tuple",true,rfl,.tup e,bC (b:=true) (by decide +kernel) (fun z=>nomatch z),_,rfl,ax ?_⟩;refine⟨_,rfl,a,_,rfl,.inr (SqT.of e),rfl,_,rfl,lV rfl ?_⟩;refine⟨_,rfl,a,_,_,_,rfl,rfl,SqT.of e,rfl,_,rfl,x,n,h,rfl,ty,_,rfl,?_⟩;rw[hx];exact aL (aL q0)
 |@clock a i y z e i0 i1 ay hc =>refine⟨_,rfl,.ref a,"tuple",.type "tuple",true,rfl,.tup e,bC (b:=true) (by decide +kernel) (fun z=>nomatch z),_,rfl,ax ?_⟩;refine⟨_,rfl,a,_,rfl,.inr (SqT.of e),rfl,_,rfl,lV rfl ?_⟩;refine⟨_,rfl,a,_,_,_,rfl,rfl,SqT.of e,rfl,_,rfl,.int i,"int",h,rfl,.int i,_,rfl,?_⟩;rw[show(bo (.int i) 0&&ltB (.int i) h)=true by show(decide (0<=i)&&decide (i<h))=true;rw[decide_eq_true i0,decide_eq_true i1];rfl];refine ax ?_;refine⟨_,rfl,a,_,_,_,rfl,rfl,SqT.of e,rfl,_,rfl,y,h,rfl,ay,fun H1 s1=>⟨_,rfl,?_⟩⟩;rw[hc];exact aL (q H1 s1)
 |@zero a c i ns z e i0 i1 ec hl hn h8 h0 =>refine⟨_,rfl,.ref a,"tuple",.type "tuple",true,rfl,.tup e,bC (b:=true) (by decide +kernel) (fun z=>nomatch z),_,rfl,ax ?_⟩;refine⟨_,rfl,a,_,rfl,.inr (SqT.of e),rfl,_,rfl,lV rfl ?_⟩;refine⟨_,rfl,a,_,_,_,rfl,rfl,SqT.of e,rfl,_,rfl,.int i,"int",h,rfl,.int i,_,rfl,?_⟩;rw[show(bo (.int i) 0&&ltB (.int i) h)=true by show(decide (0<=i)&&decide (i<h))=true;rw[decide_eq_true i0,decide_eq_true i1];rfl];refine ax ?_;refine⟨_,rfl,a,_,_,_,rfl,rfl,SqT.of e,rfl,_,rfl,.ref c,h,rfl,lS ec (by omega),fun H1 s1=>⟨_,rfl,?_⟩⟩;rw[oK ec hl hn];refine ax ?_;have f1:=s1 _ _ e;refine⟨_,rfl,a,_,_,_,rfl,rfl,SqT.of f1,rfl,_,rfl,a,_,_,_,rfl,rfl,SqT.of f1,rfl,c,_,_,_,rfl,rfl,SqT.of (s1 _ _ ec),bI i0 (by omega),_,_,rfl,rfl,_,rfl,?_⟩;rw[decide_eq_false (by omega)];exact ax (q H1 s1)
 |@is a c i ns z _ e i0 i1 ec hl hn h8 h1 wr =>refine⟨_,rfl,.ref a,"tuple",.type "tuple",true,rfl,.tup e,bC (b:=true) (by decide +kernel) (fun z=>nomatch z),_,rfl,ax ?_⟩;refine⟨_,rfl,a,_,rfl,.inr (SqT.of e),rfl,_,rfl,lV rfl ?_⟩;refine⟨_,rfl,a,_,_,_,rfl,rfl,SqT.of e,rfl,_,rfl,.int i,"int",h,rfl,.int i,_,rfl,?_⟩;rw[show(bo (.int i) 0&&ltB (.int i) h)=true by show(decide (0<=i)&&decide (i<h))=true;rw[decide_eq_true i0,decide_eq_true i1];rfl];refine ax ?_;refine⟨_,rfl,a,_,_,_,rfl,rfl,SqT.of e,rfl,_,rfl,.ref c,h,rfl,lS ec (by omega),fun H1 s1=>⟨_,rfl,?_⟩⟩;rw[oK ec hl hn];refine ax ?_;have f1:=s1 _ _ e;refine⟨_,rfl,a,_,_,_,rfl,rfl,SqT.of f1,rfl,_,rfl,a,_,_,_,rfl,rfl,SqT.of f1,rfl,c,_,_,_,rfl,rfl,SqT.of (s1 _ _ ec),bI i0 (by omega),_,_,rfl,rfl,_,rfl,?_⟩;rw[decide_eq_true h1];refine aL ⟨_,rfl,a,_,_,_,rfl,rfl,SqT.of f1,rfl,_,rfl,a,_,_,_,rfl,rfl,SqT.of f1,rfl,_,rfl,a,_,_,_,rfl,rfl,SqT.of f1,rfl,?_⟩;exact⟨z,_,c,i,ns,rfl,s1 _ _ ec,i0,by omega,wr.same s1,fun H2 s2=>q H2 (s1.trans s2)⟩
abbrev ld:Stmt:=top 7
abbrev zA:List Str:=["one","other"]
theorem yH:FnScope zA ["one","other"] (al ld):=⟨rfl,rfl,rfl,by decide +kernel,rfl,by decide +kernel,by decide +kernel⟩
theorem yl{f:Addr}{fd:FuncData}(F:Fun K "within" "within" ld f fd)(c8:mg "all" = none)(G7:mg "zip" = none):FnOk P w K mg base CX0 1 f fd ["one","other"] sx:=by
 refine F.okQ yH (fun vs H Q E h=>?_) (fun cdv A outer s H vs Q E hr h=>?_)
 ·obtain⟨a,b,ns,ms,rfl,_⟩:=h;rfl
 obtain⟨a,b,ns,ms,rfl,hA,hB,hl,h8,q⟩:=h;refine⟨_,(b_1 (au (q_B (jP rfl) c8 dR (q_a (cW (own:=["mine","yours"]) (⟨rfl,by decide +kernel,by decide +kernel,rfl,trivial⟩:CompOk _ _ [] []) rfl (Bs G7 (q_a (q_v 0) (q_a (q_v 1) ag))) (fun _ _ _ _=>xF (K:=K) (n:=2) rfl rfl (gW (bc (i:=0) (show(["mine","yours"]:List Str).Nodup by decide +kernel)) (gW (bc (i:=1) (show(["mine","yours"]:List Str).Nodup by decide +kernel)) qW))) (xG (iI (bN (by decide)) fQ (iI (bN (by decide)) fQ tZ jS) (qV fQ jS))) (fun _ _ _ _=>iK) (fun _ _ _ _=>(bt iQ (q_v 0) (q_v 1)))) ag)))),?_⟩
 try rw[cxK]
 refine⟨_,rfl,_,rfl,a,b,_,_,rfl,SqT.of hA,SqT.of hB,by rw[Za,Za,hl],?_⟩;refine qQ (fun i=>.bl (decide (ai ns i<=ai ms i))) (by rw[Za];omega) (SqT.of hA) (SqT.of hB) (by rw[Za,Za,hl]) (fun i x y H1 hx hy sm R k=>?_) (fun p H1 sm hp=>?_)
 ·obtain⟨rfl,_⟩:=kI hx;obtain⟨rfl,_⟩:=kI hy;exact⟨_,rfl,_,rfl,_,_,rfl,rfl,k H1 (Same.refl H1)⟩
 ·rw[Za];refine⟨p,(List.range ns.length).map fun i=>decide (ai ns i<=ai ms i),rfl,SqL.of ?_,q _ (sm.trans (ah hp _))⟩;rw[ad,Ys];rfl
abbrev jK:Stmt:=top 40
abbrev wR:List Str:=["deed"]
theorem wq:FnScope wR ["deed"] (al jK):=⟨rfl,rfl,rfl,by decide +kernel,rfl,by decide +kernel,by decide +kernel⟩
theorem vP{f:Addr}{fd:FuncData}(F:Fun K "name_of" "name_of" jK f fd):FnOk P w K mg base CX0 1 f fd ["deed"] gH:=by
 refine F.okQ wq (fun vs H Q E h=>?_) (fun cdv A outer s H vs Q E hr h=>?_)
 ·obtain⟨a,d,rfl,_⟩:=h;rfl
 obtain⟨a,d,rfl,⟨c,v,e1,e2,e3,e4,_⟩,q⟩:=h;refine⟨_,(b_1 (au (aE (q_a (aD aI (q_v 0) aj) (q_a (aD aI (aD aI (q_v 0) aj) (aD aI (q_v 0) aj)) ag))))),?_⟩
 try rw[cxK]
 refine⟨_,rfl,a,_,_,_,rfl,rfl,SqT.of e1,rfl,_,rfl,a,_,_,_,rfl,rfl,SqT.of e1,rfl,_,rfl,a,_,_,_,rfl,rfl,SqT.of e1,rfl,c,_,_,_,rfl,rfl,SqT.of e2,rk e4,sz rfl,fun p g=>?_⟩;exact q p _ (ah g _) ad
abbrev fu:Stmt:=top 69
abbrev pF:List Str:=["deed","name","ready"]
theorem nY:FnScope pF ["deed","name","ready"] (al fu):=⟨rfl,rfl,rfl,by decide +kernel,rfl,by decide +kernel,by decide +kernel⟩
theorem nL{f:Addr}{fd:FuncData}(F:Fun K "is_answered" "is_answered" fu f fd)(G9:Fn P w K mg base 1 "within" ["one","other"] sx):FnOk P w K mg base CX0 2 f fd ["deed","name","ready"] yL:=by
 refine F.okQ nY (fun vs H Q E h=>?_) (fun cdv A outer s H vs Q E hr h=>?_)
 ·obtain⟨a,nm,r,d,i,R,n,rfl,_⟩:=h;rfl
 obtain⟨a,nm,r,d,i,R,n,rfl,hd,hn,hr',hR,hRn,hdn,q⟩:=h;have key:DGet H r (.ref nm) (bF (aK R) [.inl (i:Int),.inl (aS d i)]):=.inr ⟨aK R,[.inl (i:Int),.inl (aS d i)],nm,.inl hr',rfl,hn,rfl⟩;obtain⟨c,v,d1,d2,d3,d4,d5⟩:=id hd;refine⟨_,(b_1 (au (bM (By hr.units (q_v 1) (q_v 2)) (bQ (aB G9 (hr.mono (by decide)) (q_a (aD aI (jw hr.units (q_v 2) (q_v 1)) aj) (q_a (aD aI (q_v 0) aj) ag))))))),?_⟩
 try rw[cxK]
 rw[kh]at key;unfold gR at q;rw[xy]at q;cases hf:R.find? (fun x=>decide (nmK x.2=[.inl (i:Int),.inl (aS d i)]))with
 |none =>rw[hf]at key q;refine⟨_,rfl,_,rfl,r,_,rfl,key,false,rfl,ax ?_⟩;exact q H (Same.refl H)
 |some x =>rw[hf]at key q;have hm:=List.mem_of_find?_eq_some hf;obtain⟨c',v',f1,f2,f3,f4,f5⟩:=hR x hm;refine⟨_,rfl,_,rfl,r,_,rfl,key,true,rfl,aL ?_⟩;refine⟨_,rfl,_,rfl,r,_,rfl,key,x.1,_,_,_,rfl,rfl,SqT.of f1,at1,_,rfl,a,_,_,_,rfl,rfl,SqT.of d1,at1,c',c,x.2.ns,d.ns,rfl,f2,d2,by rw[hRn x hm,hdn],f5,fun H' s'=>?_⟩;exact q H' s'
abbrev iT:Stmt:=top 68
abbrev uJ:List Str:=["deed","names","hand","number","last"]
theorem dG:FnScope uJ ["deed"] (al iT):=⟨rfl,rfl,rfl,by decide +kernel,rfl,by decide +kernel,by decide +kernel⟩
theorem oR(d:Dd)(k:Nat):(List.range (k+1)).filter (fun i=>decide (aS d i>0))=(List.range k).filter (fun i=>decide (aS d i>0))++if aS d k>0 then[k]else[]:=by
 rw[List.range_succ,y7];congr 1;by_cases c:aS d k>0
 ·rw[HV c,YH,HV (by simpa using c),List.filter_nil]
 ·rw[HU c,YH,HU (by simpa using c),List.filter_nil]
theorem NA.snoc{H H':Hp}{d:Dd}{as:List Addr}{is:List Nat}{b:Addr}{i:Nat}(h:NA H d as is)(t:TS H H')(hb:H' b=some (.tup ([(i:Int),aS d i].map V.int))):NA H' d (as++[b]) (is++[i]):=by
 refine⟨by simp[h.1],fun k c j h1 h2=>?_⟩;rcases Ye k as.length with c1|c1
 ·rw[Yl c1]at h1;rw[Yl (by rw[<-h.1];exact c1)]at h2;exact t _ _ (h.2 k c j h1 h2)
 ·rw[y0 c1]at h1;rw[y0 (by rw[<-h.1];exact c1),<-h.1]at h2;have e:k-as.length=0:=by have:=(Zv.mp h1).1;simp at this;omega
  rw[e]at h1 h2;cases h1;cases h2;exact hb
theorem NA.ts{H H':Hp}{d:Dd}{as:List Addr}{is:List Nat}(h:NA H d as is)(t:TS H H'):NA H' d as is:=⟨h.1,fun k c j h1 h2=>t _ _ (h.2 k c j h1 h2)⟩
theorem sY{f:Addr}{fd:FuncData}(F:Fun K "asked_by" "asked_by" iT f fd)(i7:mg "enumerate" = none):FnOk P w K mg base CX0 1 f fd ["deed"] uu:=by
 refine F.okQ dG (fun vs H Q E h=>?_) (fun cdv A outer s H vs Q E hr h=>?_)
 ·obtain⟨a,d,rfl,_⟩:=h;rfl
 obtain⟨a,d,rfl,hd,q⟩:=h;obtain⟨c,v,e1,e2,e3,e4,e5⟩:=id hd;refine⟨_,(b_c (aH (i:=1) dG.nd (fK ag))
   (b_c (ke PassesOwn.never rfl (B2 i7 (q_a (aD aI (q_v 0) aj) ag)) (qg rfl (gW (bc (i:=2) dG.nd) (gW (bc (i:=3) dG.nd) qW))) (b_c (aH (i:=4) dG.nd (EL (aM cJ (q_v 2) (aD aI (q_v 0) aj)) (aN qk (q_v 3) aj) (q_v 3)))
   (b_1 (aU (aM DY (q_v 4) aj) (b_1 (mo (FZ (q_v 1) (aE (q_a (q_v 2) (q_a (q_v 4) ag)))))) b_0))))
   (b_1 (au (q_v 1))))),?_⟩
 try rw[cxK]
 refine⟨sz rfl,fun p g=>?_⟩;have s0:=ah g (.lst []);refine⟨_,rfl,a,_,_,_,rfl,rfl,SqT.of (s0 _ _ e1),at1,c,_,rfl,s0 _ _ e2,?_⟩;refine xA (i:=2) (j:=3) (fun k σ H'=>Same H H'/\(∃o2 o3 o4,σ=[some (.ref a),some (.ref p),o2,o3,o4])/\∃as,H' p=some (.lst (as.map V.ref))/\NA H' d as ((List.range k).filter fun i=>decide (aS d i>0))) ⟨s0,⟨none,none,none,rfl⟩,[],ad,rfl,fun k b i h1=>by simp at h1⟩ (fun i σ H' _ ⟨sm,_⟩=>SqT.of (sm _ _ e2)) (fun k x σ H1 hx ⟨sm,⟨o2,o3,o4,eσ⟩,as,hp,na⟩ T hT=>?_) (fun σ H1 ⟨sm,⟨o2,o3,o4,eσ⟩,as,hp,na⟩=>?_)
 ·subst eσ;obtain⟨rfl,hk⟩:=kI hx;have sT:=ah hT (.tup [.int (k:Int),.int (ai d.ns k)]);have m1:=sT _ _ (sm _ _ e1);have pT:=sT _ _ hp;have go:∀(z:Int) (D:Ends),z=aS d k->(∀σ' H',(Same H H'/\(∃o2 o3 o4,σ'=[some (.ref a),some (.ref p),o2,o3,o4])/\∃as,H' p=some (.lst (as.map V.ref))/\NA H' d as ((List.range (k+1)).filter fun i=>decide (aS d i>0)))->D.nx σ' H') ->
    Ba (mI (tOp (rI0 fun i j=>V.bl (decide (j<i))) (tVar 4) (tC (V.int 0)))) (wy (tBM K "list" rAppend (tVar 1) (fb (Bb (fb (tVar 2) (fb (tVar 4) eL))) eL))) qv D [some (.ref a),some (.ref p),some (.int (k:Int)),some (.int (ai d.ns k)),some (.int z)] (upd H1 T (.tup [.int (k:Int),.int (ai d.ns k)])):=fun z D hz hD=>by
   refine⟨_,rfl,_,_,rfl,rfl,_,rfl,kJ (fun hc=>?_) fun hc=>?_⟩
   ·refine⟨_,rfl,.inl ⟨rfl,_,SqL.of pT⟩,_,rfl,_,rfl,sz rfl,fun b gb=>?_⟩;have sB:=ah gb (.tup [.int (k:Int),.int z]);have pB:=sB _ _ pT;refine⟨p,_,_,rfl,rfl,pB,?_,?_⟩
    ·have:=na.1;have l1:((List.range k).filter fun i=>decide (aS d i>0)).length<=k:=by have:=Z5 (fun i=>decide (aS d i>0)) (List.range k);rw[List.length_range]at this;exact this
     rw[Za];exact dH (by omega)
    ·refine hD _ _ ⟨?_,⟨_,_,_,rfl⟩,as++[b],?_,?_⟩
     ·exact fun b' o hb=>by rw[af (am hb g)];exact sB _ _ (sT _ _ (sm _ _ hb))
     ·rw[ad,Zz];rfl
     ·rw[oR,HV (by omega)];refine na.snoc ?_ ?_
      ·exact(Same.ts sT).trans ((Same.ts sB).trans (ze fun zs e=>by rw[pB]at e;cases e))
      ·rw[af (fun e=>by rw[<-e,ad]at pB;cases pB),ad,hz];rfl
   ·refine hD _ _ ⟨sm.trans sT,⟨_,_,_,rfl⟩,as,pT,?_⟩;rw[oR,HU (by omega),ZO];exact na.ts (Same.ts sT)
  refine⟨_,rfl,_,rfl,a,_,_,_,rfl,rfl,SqT.of m1,at0,rfl,_,rfl,nq (fun ek=>?_) fun ek=>?_⟩
  ·refine⟨_,rfl,_,_,rfl,rfl,go _ _ ?_ fun σ' H' z=>z⟩;unfold aS;rw[HV (by omega)]
  ·refine⟨_,rfl,go _ _ ?_ fun σ' H' z=>z⟩;unfold aS;rw[HU (by omega)]
 ·subst eσ;exact⟨_,rfl,q p H1 as sm hp (by unfold dL;rw[Za]at na;exact na)⟩
abbrev fL:Stmt:=top 67
abbrev uQ:List Str:=["deeds","ready","deed"]
theorem ic:FnScope uQ ["deeds"] (al fL):=⟨rfl,rfl,rfl,by decide +kernel,rfl,by decide +kernel,by decide +kernel⟩
abbrev fi:Str:=(("ready_of":Str)++".<locals>.")++"<lambda>"
def Fy:Stmt->Expr
 |.For _ it _ _ _=>it
 |.Assign _ e _=>e
 |_=>.Name "" ⟨0,0,0,0⟩
def Gr:Expr->Expr
 |.Call _ _ (k::_) _=>k.value
 |e=>e
def Gq:Expr->Expr
 |.Lambda _ b _ _=>b
 |e=>e
def Gs:Expr->Scope
 |.Lambda _ _ s _=>s
 |_=>default
def ge:Expr->Pos
 |.Lambda _ _ _ p=>p
 |_=>⟨0,0,0,0⟩
abbrev eN:Expr:=Gr (Fy ((bG fL).getD 1 (.Pass ⟨0,0,0,0⟩)))
theorem pK(j5:mg "sum" = none):LamOk P w K mg base 1 fi (Gq eN) (Gs eN) "each" Ga:=by
 refine⟨["each"],⟨rfl,rfl,rfl,by decide +kernel,rfl,by decide +kernel,by decide +kernel⟩,fun vs H Q E h=>?_,fun f c' A outer s H vs Q E hr h=>?_⟩
 ·obtain⟨a,d,rfl,_⟩:=h;rfl
 obtain⟨a,d,rfl,⟨c,v,e1,e2,e3,e4,e5⟩,q⟩:=h;refine⟨_,(aE (q_a (q_B (Ds (K:=K) rfl rfl) j5 PyProof.Rows.boot_sum (q_a (aD aI (q_v 0) aj) ag)) (q_a (aD aI (q_v 0) aj) ag))),?_⟩;refine⟨_,rfl,a,_,_,_,rfl,rfl,SqT.of e1,at1,c,d.ns,rfl,SqT.of e2,_,rfl,a,_,_,_,rfl,rfl,SqT.of e1,at0,sz rfl,fun p g=>?_⟩;exact q p _ (ah g _) ad
def uB(T:Addr):Sp:=fun vs H Q _=>∃(l:Addr) (L:LT) (n:Nat),vs=[.ref l]/\LR H l L/\L.length<=63/\n<=8/\UN n (vals L)/\bh fi T (ge eN) H /\
 ∀D H' (S:LT),S.Perm L->((vals S).Pairwise fun d e=>¬kLt e d)->SameT T H H'->bh fi T (ge eN) H'->H' D=some (.lst (aA (bq S S.length)))->H D=none->Q (.ref D) H'
theorem aC{q:Str}{T:Addr}{pos:Pos}{H H':Hp}(h:bh q T pos H)(s:Same H H'):bh q T pos H':=by obtain⟨ps,e1,e2,e3⟩:=h;exact⟨ps,s _ _ e1,e2,e3.imp id fun⟨c,z1,z2⟩=>⟨c,z1,s _ _ z2⟩⟩
theorem fH{q:Str}{T r:Addr}{pos:Pos}{H H':Hp}(h:bh q T pos H)(s:SameT r H H')(hr:∀f,H r=some f->(∀ps,f≠.tbl ps)/\∀c,f≠jk c q):bh q T pos H':=by obtain⟨ps,e1,e2,e3⟩:=h;exact⟨ps,s _ _ e1 fun z=>(hr _ (by rw[<-z];exact e1)).1 ps rfl,e2,e3.imp id fun⟨c,z1,z2⟩=>⟨c,z1,s _ _ z2 fun z=>(hr _ (by rw[<-z];exact z2)).2 c rfl⟩⟩
theorem Fb{q:Str}{T:Addr}{pos:Pos}{H:Hp}(h:bh q T pos H):∀zs,H T≠some (.tup zs):=fun zs e=>by obtain⟨ps,e1,_⟩:=h;rw[e1]at e;cases e
theorem yD{L:LT}{is:List Nat}(h:∀i∈is,i<L.length):(is.map fun i=>(aA L).getD i .non)=aA (is.map fun i=>L.getD i (0,D0)):=by unfold aA;rw[Ys];apply List.map_congr_left;intro i hi;have hl:=h i hi;simp[hl]
theorem tz{f c0 T:Addr}{fd:FuncData}(F:Fun K "ready_of" "ready_of" fL f fd)(hcode:fd.code=.ref c0)(C:CodeHd base c0 T)(B:Blt base mg)(GQ:Fn P w K mg base 1 "asked_by" ["deed"] uu)(p7:Fn P w K mg base 2 "is_answered" ["deed","name","ready"] yL)(a9:Fn P w K mg base 1 "name_of" ["deed"] gH)(j5:mg "sum" = none)(j9:mg "sorted" = none)(c8:mg "all" = none)(i5:mg "list" = none):FnOk P w K mg base CX0 5 f fd ["deeds"] (uB T):=by
 refine F.okC hcode ic (fun vs H Q E h=>?_) (fun A outer s H vs Q E hr h=>?_)
 ·obtain⟨l,L,n,rfl,_⟩:=h;rfl
 obtain⟨l,L,n,rfl,hL,hz,hn,hg,tab,q⟩:=h;refine⟨_,(b_c (aH (i:=1) ic.nd vU)
   (b_c (ke PassesOwn.never rfl (dF (AR rfl j9 rfl C B (pK j5) (hr.mono (by decide)) (q_a (q_v 0) ag))) (bc (i:=2) ic.nd) (b_1 (aU (bR (q_B (jP rfl) c8 dR (q_a (cW (own:=["name"]) (⟨rfl,by decide +kernel,by decide +kernel,rfl,⟨rfl,rfl,⟨rfl,rfl,trivial⟩⟩⟩:CompOk _ _ [2,1] ["deed","ready"]) rfl (dF (aB GQ (hr.mono (by decide)) (q_a (q_v 2) ag))) (fun _ _ _ _=>bc (i:=0) (show (["name","deed","ready"]:List Str).Nodup by decide +kernel)) (bN (by decide)) (fun _ _ _ _=>iK) (fun _ _ _ _=>(aB p7 (hr.mono (by decide)) (q_a (q_v 1) (q_a (q_v 0) (q_a (q_v 2) ag)))))) ag))) (b_1 (mn hr.units (q_v 1) (aB a9 (hr.mono (by decide)) (q_a (q_v 2) ag)) (q_v 2))) b_0)))
   (b_1 (au (jv (tR rfl) i5 gK (q_a (yz (q_v 1)) ag)))))),?_⟩
 try rw[cxK]
 intro r gr;have s0:=ah gr (.dT []);have er0:upd H r (.dT []) r=some (.dT []):=ad;generalize upd H r (.dT [])=H0 at s0 er0 ⊢;have L0:=hL.same s0;have tab0:=aC tab s0;have nt0:=Fb tab0;have rT:r≠T:=fun z=>by obtain⟨ps,e1,_⟩:=tab;rw[z,e1]at gr;cases gr
 refine⟨_,rfl,l,aA L,L.map fun x=>ZKey.t (kyZ x.2),rfl,.inl L0.1,tab0,by rw[bE];omega,by rw[bE,Za],.inr fun k hk=>?_,fun i v key H' hv hkey sT R kR=>?_,fun p H2 D hp hls sT tab2 gD=>?_⟩
 ·obtain⟨x,_,rfl⟩:=Zt.mp hk;exact⟨_,rfl,by simp[kyZ]⟩
 ·obtain⟨hi,rfl⟩:=kW hv;rw[Zx,Zd hi]at hkey;cases hkey;exact⟨_,_,rfl,(L0.2 _ (ZF hi)).ts (lg nt0 sT),fun p' H'' s'' e''=>kR (.ref p') H'' s'' ⟨p',rfl,e''⟩⟩
 ·rw[bE]at hp hls;have pl:∀i∈p.toList,i<L.length:=fun i hi=>by have:=(hp.mem_iff).mp (Array.mem_toList_iff.mp hi);simpa using this
  rw[yD pl];have so:=tJ (f:=Prod.snd) (z:=((0,D0):Addr×Dd)) hp (by rw[Ys]at hls;exact hls);generalize(p.toList.map fun i=>L.getD i (0,D0))=M at so ⊢;obtain⟨sM,pM⟩:=so;have gM:UN n (vals M):=hg.perm (pM.symm.map Prod.snd);have lM:M.length=L.length:=pM.length_eq;have er2:H2 r=some (.dT []):=sT _ _ er0 rT;have s3:=ah gD (.lst (aA M));have eD:upd H2 D (.lst (aA M)) D=some (.lst (aA M)):=ad;have er3:=s3 _ _ er2;have nt2:=lg nt0 sT;have M3:∀x∈M,DR (upd H2 D (.lst (aA M))) x.1 x.2:=fun x hx=>(L0.2 x (pM.mem_iff.mp hx)).ts (nt2.trans (Same.ts s3));have tab3:=aC tab2 s3;have all3:SameT T H (upd H2 D (.lst (aA M))):=fun b o e hb=>s3 _ _ (sT _ _ (s0 _ _ e) hb);have hD0:H D=none:=by
   cases e:H D with
   |none=>rfl
   |some o =>
    by_cases z:D=T
    ·obtain⟨ps,e1,_⟩:=tab2;rw[<-z,gD]at e1;cases e1
    ·have:=sT _ _ (s0 _ _ e) z;rw[gD]at this;cases this
  have nDr:D≠r:=fun z=>by rw[z,er2]at gD;cases gD
  generalize upd H2 D (.lst (aA M))=H3 at *;refine⟨D,rfl,⟨_,SqL.of eD⟩,qU (fun k σ H'=>(∃o2,σ=[some (.ref l),some (.ref r),o2])/\SameT r H3 H'/\H' r=some (.dT (aK (bq M k)))) ⟨⟨none,rfl⟩,fun b o e _=>e,er3⟩ (fun i σ H' _ ⟨_,sr,_⟩=>SqL.of (sr _ _ eD nDr)) (fun k x σ H4 hx ⟨⟨o2,eσ⟩,sr,hr4⟩=>?_) (fun σ H4 ⟨⟨o2,eσ⟩,sr,hr4⟩=>?_)⟩
  ·subst eσ;obtain⟨hk,rfl⟩:=kW hx;have t4:TS H3 H4:=lg (fun zs e=>by rw[er3]at e;cases e) sr;have M4:∀x∈M,DR H4 x.1 x.2:=fun x hx=>(M3 x hx).ts t4;have dk:=M4 _ (ZF hk);have mk:M[k].2∈vals M:=Zt.mpr ⟨M[k],ZF hk,rfl⟩;refine⟨_,rfl,M[k].1,M[k].2,rfl,dk,fun p1 H5 as s5 e5 na=>?_⟩;have la:as.length<=8:=by rw[na.1];unfold dL;have:=Z5 (fun i=>decide (aS M[k].2 i>0)) (List.range M[k].2.ns.length);rw[List.length_range]at this;have l8:=(gM.len _ mk).1;omega
   have sub:=(cQ M k (by omega)).trans (Yo k M);refine⟨p1,rfl,⟨_,SqL.of e5⟩,xi (fun j=>.bl (gR (vals (bq M k)) M[k].2 ((dL M[k].2).getD j 0))) (by rw[Za];omega) (SqL.of e5) (fun j x H6 hx s6 R kR=>?_) (fun p2 H6 s6 g6=>?_)⟩
   ·rw[Zx]at hx;obtain⟨b,hb,rfl⟩:=YI.mp hx;have hj:j<(dL M[k].2).length:=by rw[<-na.1];exact(Zv.mp hb).1
    have ej:(dL M[k].2).getD j 0=(dL M[k].2)[j]:=by simp[hj]
    have hbn:=s6 _ _ (na.2 j b _ hb (Zd hj));rw[<-ej]at hbn;have hr6:=s6 _ _ (s5 _ _ hr4);have t6:TS H4 H6:=(Same.ts s5).trans (Same.ts s6);exact⟨_,rfl,_,rfl,_,rfl,M[k].1,b,r,M[k].2,(dL M[k].2).getD j 0,bq M k,n,rfl,dk.ts t6,hbn,hr6,fun x hx=>(M4 x (sub.subset hx)).ts t6,fun x hx=>(gM.len _ (Zt.mpr ⟨x,sub.subset hx,rfl⟩)).1,(gM.len _ mk).1,fun H' s'=>kR H' s'⟩
   ·have S6:=s6.trans (ah g6 (.lst ((List.range (as.map V.ref).length).map fun j=>V.bl (gR (vals (bq M k)) M[k].2 ((dL M[k].2).getD j 0)))));refine⟨p2,(List.range (as.map V.ref).length).map fun j=>gR (vals (bq M k)) M[k].2 ((dL M[k].2).getD j 0),rfl,SqL.of (by rw[ad,Ys];rfl),?_⟩;have ea:((List.range (as.map V.ref).length).map fun j=>gR (vals (bq M k)) M[k].2 ((dL M[k].2).getD j 0)).all id=mQ (vals (bq M k)) M[k].2:=by unfold mQ;rw[Za,na.1,<-fE (dL M[k].2) 0,List.all_map,List.all_map,fE];rfl
    rw[ea];generalize upd H6 p2 (.lst ((List.range (as.map V.ref).length).map fun j=>V.bl (gR (vals (bq M k)) M[k].2 ((dL M[k].2).getD j 0))))=H7 at S6 ⊢;have S7:=s5.trans S6;have hr7:=S7 _ _ hr4;refine⟨_,rfl,?_⟩;have e1:bq M (k+1)=fM (bq M k) M[k]:=dQ hk;unfold fM at e1;by_cases ac:mQ (vals (bq M k)) M[k].2=true
    ·rw[HV ac]at e1;rw[ac];refine aL ⟨_,rfl,_,rfl,_,rfl,M[k].1,M[k].2,rfl,dk.ts (Same.ts S7),fun p3 H8 s8 e8=>?_⟩;have hr8:=s8 _ _ hr7;have vn:bF (aK (bq M k)) (nmK M[k].2)=none:=by
      rw[kh];have:(bq M k).find? (fun x=>decide (nmK x.2=nmK M[k].2))=none:=by rw[List.find?_eq_none];intro y hy;obtain⟨j,hj,rfl⟩:=Z2.mp ((cQ M k (by omega)).subset hy);rw[ZX]at hj;rw[List.getElem_take];have u:=gM.uni;rw[ZW]at u;have:=u j k (by rw[sE];omega) (by rw[sE];exact hk) (by omega);simp only[vals,List.getElem_map]at this;simpa using this
      rw[this];rfl
     have lk:(aK (bq M k)).length<=63:=by unfold aK;rw[Za];have:=sub.length_le;omega
     refine⟨r,_,rfl,.inr ⟨_,nmK M[k].2,p3,hr8,rfl,e8,Nat.lt_of_le_of_lt lk (by rw[PySem.sizeLine_eq];decide),rfl⟩,⟨_,rfl⟩,fun b o e hb=>?_,?_⟩
     ·rw[af hb];exact s8 _ _ (S7 _ _ (sr _ _ e hb))
     ·rw[ad,rD _ vn,e1];congr 2;unfold aK;rw[Zz];rfl
    ·rw[HU ac]at e1;rw[ZL.mpr ac];refine ax ⟨⟨_,rfl⟩,fun b o e hb=>S7 _ _ (sr _ _ e hb),?_⟩;rw[e1];exact hr7
  ·subst eσ;rw[bE]at hr4;refine⟨_,rfl,r,_,rfl,hr4,fun v gv=>?_⟩;have sv:=ah gv (eM v (ki r));refine⟨v,r,_,rfl,ad,sv _ _ hr4,fun l2 g2=>?_⟩;have s2:=ah g2 (.lst ((aK (bq M M.length)).map (·.2)));have rb:SameT r H3 (upd (upd H4 v (eM v (ki r))) l2 (.lst ((aK (bq M M.length)).map (·.2)))):=fun b o e hb=>s2 _ _ (sv _ _ (sr _ _ e hb));have hl2:H l2=none:=by
    cases e:H l2 with
    |none=>rfl
    |some o =>
     have hb:l2≠r:=fun z=>by rw[z,gr]at e;cases e
     by_cases z:l2=T
     ·obtain⟨ps,e1,_⟩:=tab3;rw[<-z]at e1;have:=sv _ _ (sr _ _ e1 hb);rw[g2]at this;cases this
     ·have:=sv _ _ (sr _ _ (all3 _ _ e z) hb);rw[g2]at this;cases this
   refine q l2 _ M pM sM (fun b o e hb=>?_) (fH tab3 rb fun f' hf'=>?_) ?_ hl2
   ·refine rb _ _ (all3 _ _ e hb) fun z=>?_;rw[z,gr]at e;cases e
   ·rw[er3]at hf';cases hf';exact⟨fun ps e=>(by cases e),fun c e=>(by cases e)⟩
   ·rw[ad];congr 2;unfold aK aA;rw[Ys];rfl
theorem xh{J:L2.It}{N n:Nat}{cap:List Nat}{g:TG}{tc:TT}{te:TE}{σ:St}{H0:Hp}{Q:VK}(Pv:Nat->List V->Hp->Prop)(hz:N<=1000)(hn:∀i ys H,Pv i ys H->ys.length<=i)(h0:Pv 0 [] H0)(hgo:∀i ys H,i<N->Pv i ys H->J.go i H)(hst:∀ys H,Pv N ys H->J.stop N H)(ht:∀i ys H x H',i<N->Pv i ys H->J.yld i H x H'->∀Y:List V->Hp->Prop,(∀zs H4,Pv (i+1) zs H4->Y zs H4)->g x (bJ n cap σ) H' fun σ2 H2=>tc σ2 H2 fun b H3=>if b=true then te σ2 H3 fun y H4=>Y (ys++[y]) H4 else Y ys H3)(hq:∀ys p H,Pv N ys H->H p=none->Q (.ref p) (upd H p (.lst ys))):cY n cap g tc te σ J H0 Q:=by
 refine⟨fun i m ys H=>m=N-i/\i<=N/\Pv i ys H,⟨N,by simp,ZV _,h0⟩,?_⟩;rintro i m ys H ⟨rfl,hi,pv⟩;by_cases hlt:i<N
 ·refine .inr ⟨hgo i ys H hlt pv,?_,fun x H' y=>?_⟩
  ·have:=hn i ys H pv;exact Nat.lt_of_le_of_lt (Zy this (by omega)) (show 1000<sizeLine by decide)
  ·exact ht i ys H x H' hlt pv y (fun ys H4=>∃m',m'<N-i/\m'=N-(i+1)/\i+1<=N/\Pv (i+1) ys H4) fun zs H4 z=>⟨N-(i+1),by omega,rfl,hlt,z⟩
 ·have e:i=N:=by omega
  subst e;exact .inl ⟨hst ys H pv,fun p hp=>hq ys p H pv hp⟩
theorem dq{K:PySem.W.Frag}{a:Addr}{xs:List V}{n:Nat}{cap:List Nat}{g:TG}{tc:TT}{te:TE}{σ:St}{H0:Hp}{Q:VK}(Pv:Nat->List V->Hp->Prop)(hz:xs.length<=1000)(hn:∀i ys H,Pv i ys H->ys.length<=i)(h0:Pv 0 [] H0)(hl:∀i ys H,Pv i ys H->SqL K H a xs)(ht:∀i ys H x,xs[i]?=some x->Pv i ys H->∀Y:List V->Hp->Prop,(∀zs H4,Pv (i+1) zs H4->Y zs H4)->g x (bJ n cap σ) H fun σ2 H2=>tc σ2 H2 fun b H3=>if b=true then te σ2 H3 fun y H4=>Y (ys++[y]) H4 else Y ys H3)(hq:∀ys p H,Pv xs.length ys H->H p=none->Q (.ref p) (upd H p (.lst ys))):cY n cap g tc te σ (Itl K a) H0 Q:=by refine xh (N:=xs.length) Pv hz hn h0 (fun i ys H hi z=>⟨xs,xs[i],hl i ys H z,by simp[hi]⟩) (fun ys H z=>⟨xs,hl _ ys H z,Zb _⟩) (fun i ys H x H' hi z y Y hY=>?_) hq;obtain rfl:H'=H:=y.1;exact ht i ys H' x (y.2 xs (hl i ys H' z)) z Y hY
theorem vk{lo:Int}{n j:Nat}{tb:L2.TS}{D:Ends}{σ:St}{H:Hp}(Pv:Nat->St->Hp->Prop)(h0:Pv 0 σ H)(hs:∀i σ H,i<n->Pv i σ H->∀D':Ends,(∀σ' H',Pv (i+1) σ' H'->D'.nx σ' H')->tb D' (σ.set j (some (.int (lo+i)))) H)(hd:∀σ H,Pv n σ H->D.nx σ H) :
  ∃W:Nat->Nat->St->Hp->Prop,(∃m,W 0 m σ H)/\∀i m σ H,W i m σ H ->
   ((Itr lo n).stop i H/\D.nx σ H)\/((Itr lo n).go i H/\∃N:St->Hp->Prop,(∀σ' H',N σ' H'->∃m',m'<m/\W (i+1) m' σ' H')/\∀x H',(Itr lo n).yld i H x H'->bz j x σ H' fun σ2 H2=>tb { D with nx:=N,ct:=N,bk:=D.nx } σ2 H2) :=
 vm Pv h0 hs hd
theorem Ft:¬(("hands":Str)="deeds"):=by decide +kernel
def fc(n:Nat)(d:Addr):List (Str×V):=cK "deeds" (.ref d) (cK "hands" (.int (n:Int)) [])
theorem iG(n:Nat)(d:Addr):(fc n d).lookup ("hands":Str)=some (.int (n:Int)):=by unfold fc;rw[bp,HU Ft,bp,HV rfl]
theorem cR(n:Nat)(d:Addr):(fc n d).lookup ("deeds":Str)=some (.ref d):=by unfold fc;rw[bp,HV rfl]
structure StoreAt(C:Addr)(H:Hp)(p d:Addr)(n:Nat)(L:LT):Prop where
 ob:∃dx,H p=some (.ins C dx (fc n d))
 dc:H d=some (.dT (aK L))
 dr:∀x∈L,DR H x.1 x.2
 un:UN n (vals L)
 n1:1<=n
 n8:n<=8
 len:L.length<=63
structure Txt(K:PySem.W.Frag)(C:Addr):Prop where
 cl:Cls K C
 nH:NoAttr K C "hands"
 nD:NoAttr K C "deeds"
def KT(H H':Hp):Prop:=∀b o,H b=some o->(∀ps,o≠.tbl ps)->H' b=some o
theorem KT.of{H H':Hp}(s:Same H H'):KT H H':=fun b o e _=>s b o e
theorem KT.trans{H H' H2:Hp}(s:KT H H')(t:KT H' H2):KT H H2:=fun b o e n=>t b o (s b o e n) n
theorem KT.ts{H H':Hp}(s:KT H H'):TS H H':=fun a zs h=>s a _ h fun ps z=>by cases z
theorem KT.tab{q:Str}{T:Addr}{pos:Pos}{H H':Hp}(t:bh q T pos H)(s:SameT T H H'):KT H H':=fun b o e n=>s b o e fun z=>by obtain⟨ps,e1,_⟩:=t;rw[z,e1]at e;cases e;exact n ps rfl
theorem StoreAt.kt{C:Addr}{H H':Hp}{p d:Addr}{n:Nat}{L:LT}(x:StoreAt C H p d n L)(s:KT H H'):StoreAt C H' p d n L:=by obtain⟨⟨dx,h1⟩,h2,h3,h4,h5,h6,h7⟩:=x;exact⟨⟨dx,s _ _ h1 fun ps z=>by cases z⟩,s _ _ h2 (fun ps z=>by cases z),fun y hy=>(h3 y hy).ts s.ts,h4,h5,h6,h7⟩
theorem StoreAt.same{C:Addr}{H H':Hp}{p d:Addr}{n:Nat}{L:LT}(x:StoreAt C H p d n L)(s:Same H H'):StoreAt C H' p d n L:=x.kt (.of s)
def RDY(L M:LT):Prop:=∃S:LT,S.Perm L/\((vals S).Pairwise fun d e=>¬kLt e d)/\M=bq S S.length
theorem RDY.sub{L M:LT}(h:RDY L M):∀x∈M,x∈L:=fun x hx=>by obtain⟨S,pS,_,rfl⟩:=h;exact pS.mem_iff.mp (((cQ S S.length (Zb _)).trans (Yo _ _)).subset hx)
theorem RDY.len{L M:LT}(h:RDY L M):M.length<=L.length:=by obtain⟨S,pS,_,rfl⟩:=h;have:=((cQ S S.length (Zb _)).trans (Yo _ _)).length_le;have e:=pS.length_eq;omega
def yO(C:Addr):Sp:=fun vs H Q _=>∃(p dx:Addr) (n:Nat),vs=[.ref p,.int (n:Int)]/\H p=some (.ins C dx [])/\1<=n/\n<=8/\∀(d:Addr) (H':Hp),H d=none->StoreAt C H' p d n []->(∀b o,H b=some o->b≠p->H' b=some o)->Q .non H'
def qI(hd:Nat)(ns:List Int):Wh->Prop
 |.no=>True
 |.put _ s=>cX s.1=true/\s.1.length<=60
 |.itm _ h k=>eC (hd:Int) ns h k=true
 |.trn _ k=>1<=k/\k<ai ns hd
structure Fit(n:Nat)(d:Dd):Prop where
 len:d.ns.length=n
 hd:d.h<n
 nn:∀z∈d.ns,0<=z
 own:1<=ai d.ns d.h
 wf:qI d.h d.ns d.w
def gI(C T:Addr):Sp:=fun vs H Q _=>∃(p d:Addr) (n:Nat) (L:LT),vs=[.ref p]/\StoreAt C H p d n L/\bh fi T (ge eN) H /\
 ∀D H' (M:LT),RDY L M->SameT T H H'->bh fi T (ge eN) H'->H' D=some (.lst (aA M))->H D=none->Q (.ref D) H'
abbrev gz:Stmt:=bY (top 71) 0
abbrev qC:List Str:=["self","hands"]
theorem qa:FnScope qC ["self","hands"] (al gz):=⟨rfl,rfl,rfl,by decide +kernel,rfl,by decide +kernel,by decide +kernel⟩
theorem pR{f C:Addr}{fd:FuncData}(F:Fun K "__init__" "Store.__init__" gz f fd)(T:Txt K C):FnOk P w K mg base CX0 1 f fd ["self","hands"] (yO C):=by
 refine F.okQ qa (fun vs H Q E h=>?_) (fun cdv A outer s H vs Q E hr h=>?_)
 ·obtain⟨p,dx,n,rfl,_⟩:=h;rfl
 obtain⟨p,dx,n,rfl,hp,n1,n8,k⟩:=h;refine⟨_,(b_c (qo (q_v 0) (q_v 1))
   (b_1 (qo (q_v 0) vU))),?_⟩
 try rw[cxK]
 refine⟨_,rfl,_,rfl,p,C,dx,[],rfl,hp,T.cl,T.nH,(by show 0<1000;decide),?_⟩;intro d hd;have hd0:H d=none:=by
  cases e:H d with
  |none=>rfl
  |some o =>
   by_cases c:d=p
   ·subst c;rw[ad]at hd;cases hd
   ·rw[af c,e]at hd;cases hd
 have npd:p≠d:=am hp hd0;refine⟨_,rfl,p,C,dx,_,rfl,(by rw[af npd,ad]),T.cl,T.nD,(by show 1<1000;decide),?_⟩;refine k d _ hd0 ⟨⟨dx,ad⟩,by rw[af npd.symm,ad];rfl,fun x hx=>(nomatch hx),⟨fun _ h=>(nomatch h),fun _ h=>(nomatch h),.nil⟩,n1,n8,ZV _⟩ fun b o e hb=>?_;rw[af hb,af (am e hd0),af hb];exact e
theorem rE:PyProof.Rows.KTD.datumAt ("put":Str) DT=some (tw ([Kd.u,.p,.t].map nm)):=by with_unfolding_all rfl
theorem ul:PyProof.Rows.KTD.datumAt ("none":Str) DT=some (tw (([]:List Kd).map nm)):=by with_unfolding_all rfl
theorem zJ{x:Str}(h:cX x=true):x.cps.all (·<128)=true:=by unfold cX at h;rw[ZC]at h;rw[Array.all_eq_true];intro i hi;have:=h x.cps[i] (by simp);unfold eZ at this;simp only[Zk,Z6]at this;exact decide_eq_true (by omega)
theorem Bw(b:Bool):PyProof.Rows.KTD.datumAt (ofW b) DT=some (tw ([Kd.n].map nm)):=by
 cases b
 ·exact(show PyProof.Rows.KTD.datumAt ("off":Str) DT=some (tw ([Kd.n].map nm)) by with_unfolding_all rfl)
 ·exact(show PyProof.Rows.KTD.datumAt ("on":Str) DT=some (tw ([Kd.n].map nm)) by with_unfolding_all rfl)
theorem BJ(b:Bool):PyProof.Rows.KTD.datumAt (tkW b) DT=some (tw ([Kd.i].map nm)):=by
 cases b
 ·exact(show PyProof.Rows.KTD.datumAt ("take":Str) DT=some (tw ([Kd.i].map nm)) by with_unfolding_all rfl)
 ·exact(show PyProof.Rows.KTD.datumAt ("back":Str) DT=some (tw ([Kd.i].map nm)) by with_unfolding_all rfl)
theorem C7{H:Hp}{v:V}{w':Wh}{hd:Nat}{ns:List Int}(h:WR H v w')(hw:qI hd ns w'):WhatR K H (hd:Int) ns v true:=by
 cases w' with
 |no =>obtain⟨p,rfl,e⟩:=h;exact .is (ks:=[]) (bs:=[]) e ul (by decide) ⟨rfl,rfl,fun i k v b h _ _=>by simp at h⟩ rfl
 |trn b k =>
  obtain⟨p,rfl,e⟩:=h;obtain⟨k1,k2⟩:=hw;refine .is (ks:=[.n]) (bs:=[true]) e (Bw b) (by decide) ⟨rfl,rfl,fun i k' v b h1 h2 h3=>?_⟩ rfl
  match i with
  |0 =>cases h1;cases h2;cases h3;refine .nu (.int k) ?_;show(decide (1<=k)&&decide (k<ai ns ((hd:Nat):Int).toNat))=true;rw[Zr,decide_eq_true k1,decide_eq_true k2];rfl
  |i+1=>simp at h1
 |itm b hh k =>
  obtain⟨p,q,rfl,e,e2⟩:=h;refine .is (ks:=[.i]) (bs:=[true]) e (BJ b) (by decide) ⟨rfl,rfl,fun i k' v b h1 h2 h3=>?_⟩ rfl
  match i with
  |0 =>cases h1;cases h2;cases h3;have:=PartR.it (K:=K) (H:=H) (hd:=(hd:Int)) (ns:=ns) (.is e2);rw[show eC (hd:Int) ns hh k=true from hw]at this;exact this
  |i+1=>simp at h1
 |put m s =>
  obtain⟨p,q,rfl,e,e2⟩:=h;refine .is (ks:=[.u,.p,.t]) (bs:=[true,true,true]) e rE (by decide) ⟨rfl,rfl,fun i k v b h1 h2 h3=>?_⟩ rfl
  match i with
  |0=>cases h1;cases h2;cases h3;exact .u0
  |1 =>
   cases h1;cases h2;cases h3;refine .pl ⟨⟨_,.tup e2⟩,fun a xs ha hx=>?_⟩ ?_
   ·cases ha;rw[e2]at hx;cases hx;refine⟨by simp,fun x hx=>?_⟩;rw[Zf.mp hx];exact⟨_,.int m⟩
   ·show ix (H q)=true;rw[e2];rfl
  |2 =>cases h1;cases h2;cases h3;refine .tx (Zy hw.2 (by decide)) (zJ hw.1) ?_;rw[hw.1,Yi];exact decide_eq_true hw.2
  |i+3=>simp at h1
theorem B0{H:Hp}{a:Addr}{d:Dd}{n:Nat}(h:DR H a d)(f:Fit n d)(n8:n<=8):DeedR K H (n:Int) (.ref a) true:=by obtain⟨c,v,h1,h2,h3,h4,h5⟩:=h;exact .is h1 (Int.natCast_nonneg _) (by have:=f.hd;omega) h2 (by rw[f.len]) f.nn (by omega) (by rw[Zr];exact f.own) (C7 h3 f.wf)
theorem fS{n:Nat}{L:LT}(u:UN n (vals L)){x:Addr×Dd}(hx:x∈L):bF (aK L) (nmK x.2)=some (.ref x.1):=by
 rw[kh];have:L.find? (fun y=>decide (nmK y.2=nmK x.2))=some x:=by
  have hs:(L.find? fun y=>decide (nmK y.2=nmK x.2)).isSome=true:=by rw[List.find?_isSome];exact⟨x,hx,decide_eq_true rfl⟩
  obtain⟨y,hy⟩:=YA.mp hs;rw[hy];have my:=List.mem_of_find?_eq_some hy;have qy:nmK y.2=nmK x.2:=ZS (p:=nmK y.2=nmK x.2) (List.find?_some (p:=fun y:Addr×Dd=>decide (nmK y.2=nmK x.2)) hy);have nd:=u.uni;unfold vals at nd;rw[List.pairwise_map]at nd;obtain⟨i,hi,rfl⟩:=Z2.mp my;obtain⟨j,hj,rfl⟩:=Z2.mp hx;rw[ZW]at nd;rcases Nat.lt_trichotomy i j with c|c|c
  ·exact absurd qy (nd i j hi hj c)
  ·subst c;rfl
  ·exact absurd qy.symm (nd j i hj hi c)
 rw[this];rfl
theorem eU(d:Dd):SeqAt.shaped (dD d)=true:=by obtain⟨h1,h2⟩:=lX (d:=d) trivial;unfold SeqAt.shaped;rw[Zk];exact⟨h1,decide_eq_true (by omega)⟩
theorem Ac{C p d a:Addr}{H H2:Hp}{n:Nat}{L:LT}{e:Dd}(S:StoreAt C H p d n L)(s12:Same H H2)(hd:DR H a e)(ft:Fit n e)(ll:L.length<63)(hn:∀x∈L,nmK x.2≠nmK e)(vn:bF (aK L) (nmK e)=none):StoreAt C (upd H2 d (.dT (dE (aK L) (nmK e) (.ref a)))) p d n (L++[(a,e)]):=by
 obtain⟨⟨dx,h1⟩,h2,h3,h4,h5,h6,h7⟩:=S;rw[rD _ vn];have tA:TS H2 (upd H2 d (.dT (aK L++[(nmK e,.ref a)]))):=ze fun zs z=>by rw[s12 _ _ h2]at z;cases z
 have npd:p≠d:=fun z=>by rw[z,h2]at h1;cases h1
 have ek:aK L++[(nmK e,V.ref a)]=aK (L++[(a,e)]):=by unfold aK;rw[Zz];rfl
 have ev:vals (L++[(a,e)])=vals L++[e]:=by unfold vals;rw[Zz];rfl
 refine⟨⟨dx,by rw[af npd];exact s12 _ _ h1⟩,by rw[ad,ek],fun x hx=>?_,?_,h5,h6,by rw[Zs];exact ll⟩
 ·rcases ZD.mp hx with hx|hx
  ·exact(h3 x hx).ts ((Same.ts s12).trans tA)
  ·rw[Zf.mp hx];exact hd.ts ((Same.ts s12).trans tA)
 ·rw[ev];refine⟨fun x hx=>?_,fun x hx=>?_,List.pairwise_append.mpr ⟨h4.uni,List.pairwise_singleton _ _,fun x hx y hy=>?_⟩⟩
  ·rcases ZD.mp hx with hx|hx
   ·exact h4.len x hx
   ·rw[Zf.mp hx];exact⟨ft.len,ft.hd⟩
  ·rcases ZD.mp hx with hx|hx
   ·exact h4.own x hx
   ·rw[Zf.mp hx];have:=ft.own;omega
  ·rw[Zf.mp hy];obtain⟨z,hz,rfl⟩:=Zt.mp hx;exact hn z hz
abbrev gw:Stmt:=bY (top 71) 1
abbrev qB:List Str:=["self","deed","name"]
theorem fA:FnScope qB ["self","deed"] (al gw):=⟨rfl,rfl,rfl,by decide +kernel,rfl,by decide +kernel,by decide +kernel⟩
theorem Aj(L:LT):(aK L).map (·.2)=aA L:=by unfold aK aA;rw[Ys];rfl
abbrev fq:Stmt:=bY (top 71) 2
abbrev pE:List Str:=["self"]
theorem nX:FnScope pE ["self"] (al fq):=⟨rfl,rfl,rfl,by decide +kernel,rfl,by decide +kernel,by decide +kernel⟩
theorem nJ{f C T:Addr}{fd:FuncData}(F:Fun K "ready" "Store.ready" fq f fd)(X:Txt K C)(GR:Fn P w K mg base 5 "ready_of" ["deeds"] (uB T))(i5:mg "list" = none):FnOk P w K mg base CX0 6 f fd ["self"] (gI C T):=by
 refine F.okQ nX (fun vs H Q E h=>?_) (fun cdv A outer s H vs Q E hr h=>?_)
 ·obtain⟨p,d,n,L,rfl,_⟩:=h;rfl
 obtain⟨p,d,n,L,rfl,S,tab,q⟩:=h;obtain⟨⟨dx,h1⟩,h2,h3,h4,h5,h6,h7⟩:=id S;refine⟨_,(b_1 (au (aB GR (hr.mono (by decide)) (q_a (jv (tR rfl) i5 gK (q_a (yz (bP (q_v 0))) ag)) ag)))),?_⟩
 try rw[cxK]
 refine⟨_,rfl,p,C,dx,_,_,rfl,h1,X.cl,X.nD,cR _ _,d,_,rfl,h2,fun v gv=>?_⟩;have sv:=ah gv (eM v (ki d));refine⟨v,d,_,rfl,ad,sv _ _ h2,fun l2 g2=>?_⟩;rw[Aj];have s2:=sv.trans (ah g2 (.lst (aA L)));refine⟨l2,L,n,rfl,⟨ad,fun x hx=>(h3 x hx).same s2⟩,h7,h6,h4,aC tab s2,fun D H' S' pS sS sT tab' eD nD=>?_⟩;exact q D H' _ ⟨S',pS,sS,rfl⟩ (fun b o e hb=>sT _ _ (s2 _ _ e) hb) tab' eD (s2.free nD)
def NmI(H:Hp)(v:V)(k:List Int):Prop:=∃b,v=.ref b/\H b=some (.tup (k.map V.int))
abbrev NsI(H:Hp)(vs:List V)(ks:List (List Int)):Prop:=Paired (NmI H) vs ks
theorem NmI.ts{H H':Hp}{v:V}{k:List Int}(x:NmI H v k)(s:TS H H'):NmI H' v k:=by obtain⟨b,h1,h2⟩:=x;exact⟨b,h1,s _ _ h2⟩
theorem NsI.ts{H H':Hp}{vs:List V}{ks:List (List Int)}(x:NsI H vs ks)(s:TS H H'):NsI H' vs ks:=Paired.mapP x fun _ _ z=>z.ts s
theorem vS{α β:Type}{R:α->β->Prop}{xs:List α}{ys:List β}(x:Paired R xs ys):∀{i:Nat} {a:α},xs[i]?=some a->∃b,ys[i]?=some b/\R a b:=by
 induction x with
 |nil=>intro i a h;simp at h
 |cons r _ ih =>
  intro i a h;cases i with
  |zero=>cases h;exact⟨_,rfl,r⟩
  |succ i=>exact ih h
theorem FE{H:Hp}{vs:List V}{ks:List (List Int)}(x:NsI H vs ks):∃as:List Addr,vs=as.map V.ref/\ks.length=as.length/\∀(i:Nat) (a:Addr) (k:List Int),as[i]?=some a->ks[i]?=some k->H a=some (.tup (k.map V.int)):=by
 induction x with
 |nil=>exact⟨[],rfl,rfl,fun i a k h=>by simp at h⟩
 |cons r _ ih =>
  obtain⟨as,e1,e2,e3⟩:=ih;obtain⟨b,rfl,hb⟩:=r;refine⟨b::as,by rw[e1];rfl,by rw[Zl,Zl,e2],fun i a k h1 h2=>?_⟩;cases i with
  |zero=>cases h1;cases h2;exact hb
  |succ i=>exact e3 i a k h1 h2
theorem FF{H:Hp}{vs:List V}{ks:List (List Int)}(x:NsI H vs ks):DtAll H (ks.map fun k=>PyData.tuple (k.map .int)) vs/\PyData.canLayAll0 (ks.map fun k=>PyData.tuple (k.map .int))=true/\PyData.depthAll (ks.map fun k=>PyData.tuple (k.map .int))<=2:=by
 induction x with
 |nil=>exact⟨by simp[DtAll],rfl,by simp[PyData.depthAll]⟩
 |@cons v k _ _ r _ ih =>
  obtain⟨b,rfl,hb⟩:=r;obtain⟨i1,i2,i3⟩:=ih;obtain⟨l1,l2⟩:=iO k;refine⟨?_,?_,?_⟩
  ·simp only[ZH,DtAll];exact⟨_,_,rfl,je hb,i1⟩
  ·simp only[ZH,PyData.canLayAll0,i2,PyData.canLay0,l1];rfl
  ·simp only[ZH,PyData.depthAll,PyData.depth];omega
theorem DV(k:List Int)(ks:List (List Int)):((ks.map fun k=>PyData.tuple (k.map .int)).any fun d=>PyData.eqv d (.tuple (k.map .int)))=decide (k∈ks):=by
 induction ks with
 |nil=>rfl
 |cons m ks ih =>rw[ZH,YO,ih,kH,Yq,Bool.or_eq_true,Z6,Z6,Z6,Zj,eq_comm (a:=m)]
theorem A7{H:Hp}{as:List Addr}{F:LT}{f:Dd->List Int}{pm:Array Nat}(hl:F.length=as.length)(hk:∀(i:Nat) (a:Addr) (k:List Int),as[i]?=some a->(F.map fun x=>f x.2)[i]?=some k->H a=some (.tup (k.map V.int)))(hp:POk as.length pm)(hs:LS (fun i j=>HT.lexLt ((F.map fun x=>f x.2).getD i []) ((F.map fun x=>f x.2).getD j [])) pm as.length) :
  ∃N:LT,N.Perm F/\NsI H (pm.toList.map fun i=>(as.map V.ref).getD i .non) (N.map fun x=>f x.2)/\N.Pairwise fun x y=>HT.lexLt (f y.2) (f x.2)=false:=by
 have ep:pm.toList.Perm (List.range F.length):=by have:=Array.perm_iff_toList_perm.mp hp;rw[hl];simpa using this
 have pl:∀i∈pm.toList,i<F.length:=fun i hi=>Z8.mp (ep.mem_iff.mp hi);refine⟨pm.toList.map fun i=>F.getD i (0,D0),?_,?_,?_⟩
 ·have:=ep.map fun i=>F.getD i ((0,D0):Addr×Dd);rw[fE]at this;exact this
 ·generalize pm.toList=ws at pl;induction ws with
  |nil=>exact .nil
  |cons i ws ih =>
   have hi:=pl i y4;refine .cons ?_ (ih fun j hj=>pl j (ZA _ hj));have ha:as[i]?=some (as[i]'(by omega)):=Zd (by omega);refine⟨as[i]'(by omega),?_,?_⟩
   ·show(as.map V.ref).getD i V.non=_;rw[Zw,Zx,ha];rfl
   ·refine hk i _ _ ha ?_;show _=some (f (F.getD i (0,D0)).2);rw[Zx,Zw,Zd hi];rfl
 ·rw[List.pairwise_map,ZW];intro i j hi hj hij;have hz:pm.size=as.length:=by have:=hp.size_eq;simpa using this
  rw[Zm]at hi hj;have lx:=(hs i j hij (by omega)).1;have e1:gA pm i=pm.toList[i]'(by rw[Zm];exact hi):=by rw[jR,Zw,Zd (by rw[Zm];exact hi)];rfl
  have e2:gA pm j=pm.toList[j]'(by rw[Zm];exact hj):=by rw[jR,Zw,Zd (by rw[Zm];exact hj)];rfl
  have m1:=pl _ (ZF (show i<pm.toList.length by rw[Zm];exact hi));have m2:=pl _ (ZF (show j<pm.toList.length by rw[Zm];exact hj));rw[e1,e2]at lx;generalize pm.toList[i]'(by rw[Zm];exact hi)=a at *;generalize pm.toList[j]'(by rw[Zm];exact hj)=b at *;have ga:∀k,k<F.length->((F.map fun x=>f x.2).getD k [])=f (F.getD k (0,D0)).2:=fun k hk=>by simp[hk]
  dsimp only at lx;rw[ga a m1,ga b m2]at lx;exact lx
def dz(M:LT):List (List Int):=M.map fun x=>nmZ x.2
def fh(M:LT)(x:Addr×Dd):Bool:=!decide (nmZ x.2∈dz M)
def Wt(L M N:LT):Prop:=N.Perm (L.filter (fh M))/\N.Pairwise fun x y=>HT.lexLt (nmZ y.2) (nmZ x.2)=false
theorem Wt.sub{L M N:LT}(h:Wt L M N):∀x∈N,x∈L:=fun x hx=>(ZZ.mp (h.1.mem_iff.mp hx)).1
theorem Wt.len{L M N:LT}(h:Wt L M N):N.length<=L.length:=by rw[h.1.length_eq];exact Z5 _ _
def yS(C T:Addr):Sp:=fun vs H Q _=>∃(p d:Addr) (n:Nat) (L:LT),vs=[.ref p]/\StoreAt C H p d n L/\bh fi T (ge eN) H /\
 ∀D H' (M N:LT) (ys:List V),RDY L M->Wt L M N->SameT T H H'->bh fi T (ge eN) H'->H' D=some (.lst ys)->NsI H' ys (dz N)->H D=none->Q (.ref D) H'
theorem mq{T:Addr}{H H':Hp}{q:Str}{pos:Pos}(s:SameT T H H')(t:bh q T pos H'){D:Addr}(h:H' D=none):H D=none:=by
 cases e:H D with
 |none=>rfl
 |some o =>
  by_cases c:D=T
  ·obtain⟨ps,e1,_⟩:=t;rw[<-c,h]at e1;cases e1
  ·have:=s _ _ e c;rw[h]at this;cases this
theorem cU{α:Type}{l:List α}{i:Nat}{x:α}(h:l[i]?=some x):l.take (i+1)=l.take i++[x]:=by rw[List.take_succ,h];rfl
theorem dl{L:LT}{k:Nat}{x:V}(h:(aA L)[k]?=some x):∃y,L[k]?=some y/\y∈L/\x=.ref y.1:=by obtain⟨hk,rfl⟩:=kW h;exact⟨L[k],Zd hk,ZF hk,rfl⟩
theorem iq(n:Nat)(d:Addr){m:Str}(h1:¬m="deeds")(h2:¬m="hands"):(fc n d).lookup m=none:=by
 unfold fc;rw[bp,HU h1,bp,HU h2]
 all_goals rfl
theorem iP(n:Nat)(d:Addr):(fc n d).lookup ("ready":Str)=none:=iq n d (by decide +kernel) (by decide +kernel)
theorem vD(n:Nat)(d:Addr):(fc n d).lookup ("waiting":Str)=none:=iq n d (by decide +kernel) (by decide +kernel)
abbrev eG:Stmt:=bY (top 71) 3
abbrev lB:List Str:=["self","ready"]
theorem gG:FnScope lB ["self"] (al eG):=⟨rfl,rfl,rfl,by decide +kernel,rfl,by decide +kernel,by decide +kernel⟩
theorem kQ{f C T:Addr}{fd:FuncData}(F:Fun K "waiting" "Store.waiting" eG f fd)(X:Txt K C)(d6:MFn P w K mg base 6 C "ready" ["self"] (gI C T))(a9:Fn P w K mg base 1 "name_of" ["deed"] gH)(j9:mg "sorted" = none):FnOk P w K mg base CX0 7 f fd ["self"] (yS C T):=by
 refine F.okQ gG (fun vs H Q E h=>?_) (fun cdv A outer s H vs Q E hr h=>?_)
 ·obtain⟨p,d,n,L,rfl,_⟩:=h;rfl
 obtain⟨p,d,n,L,rfl,S,tab,q⟩:=h;obtain⟨⟨dx,h1⟩,h2,h3,h4,h5,h6,h7⟩:=id S;refine⟨_,(b_c (aH (i:=1) gG.nd (cW (own:=["deed"]) (⟨rfl,by decide +kernel,by decide +kernel,rfl,trivial⟩:CompOk _ _ [] []) rfl (dF (cO d6 (hr.mono (by decide)) (q_v 0))) (fun _ _ _ _=>bc (i:=0) (show (["deed"]:List Str).Nodup by decide +kernel)) (bN (by decide)) (fun _ _ _ _=>iK) (fun _ _ _ _=>(aB a9 (hr.mono (by decide)) (q_a (q_v 0) ag)))))
   (b_1 (au (q_B BW j9 PyProof.Rows.boot_sorted (q_a (EN (cW (own:=["name"]) (⟨rfl,by decide +kernel,by decide +kernel,rfl,⟨rfl,rfl,trivial⟩⟩:CompOk _ _ [1] ["ready"]) rfl (Fu (bP (q_v 0))) (fun _ _ _ _=>bc (i:=0) (show (["name","ready"]:List Str).Nodup by decide +kernel)) (bN (by decide)) (fun _ _ _ _=>(qZ (aM (yf (K:=K) (k:=1) rfl (hr.mono (by decide))) (q_v 0) (q_v 1)))) (fun _ _ _ _=>(q_v 0)))) ag))))),?_⟩
 try rw[cxK]
 refine bu fun R0 hR0=>?_;refine⟨_,rfl,p,dx,_,rfl,h1,iP _ _,p,d,n,L,rfl,S,tab,fun D H1 M rd sT tab1 eD nD=>?_⟩;have kt1:=KT.tab tab sT;have S1:=S.kt kt1;have lM:=rd.len;refine⟨D,rfl,⟨_,SqL.of eD⟩,?_⟩;refine dq (fun i zs H'=>Same H1 H'/\zs.length<=i/\NsI H' zs (dz (M.take i))) (by rw[bE];omega) (fun _ _ _ z=>z.2.1) ⟨Same.refl _,Zb _,.nil⟩ (fun i zs H' z=>SqL.of (z.1 _ _ eD)) ?_ ?_
 ·rintro i zs H' v hv ⟨sm,lz,pz⟩ Y hY;obtain⟨y,hy,my,rfl⟩:=dl hv;refine⟨_,rfl,y.1,y.2,rfl,(S1.dr y (rd.sub y my)).same sm,fun t H2 s2 et=>hY _ _ ⟨sm.trans s2,by rw[Zs];exact Nat.succ_le_succ lz,?_⟩⟩;rw[cU hy];unfold dz;rw[Zz];exact Paired.snoc (pz.ts (Same.ts s2)) ⟨t,rfl,et⟩
 rintro zs rl H2 ⟨sm,lz,pz⟩ grl;rw[bE,Yv]at pz;rw[bE]at lz;have wr:=ah grl (.lst zs);have erl:upd H2 rl (.lst zs) rl=some (.lst zs):=ad;have S3:=(S1.same sm).same wr;have pz3:=pz.ts (Same.ts wr);have sT3:SameT T H (upd H2 rl (.lst zs)):=fun b o e hb=>wr _ _ (sm _ _ (sT _ _ e hb));have tab3:=aC (aC tab1 sm) wr;generalize upd H2 rl (.lst zs)=H3 at erl S3 pz3 sT3 tab3 ⊢;refine hR0 _ _ ?_;clear hR0 R0 pz wr sm tab1 S1 kt1;obtain⟨⟨dx3,g1⟩,g2,g3,_⟩:=id S3;refine⟨_,rfl,p,C,dx3,_,_,rfl,g1,X.cl,X.nD,cR _ _,d,aK L,rfl,g2,fun o=>?_⟩;have nrd:rl≠d:=fun z=>by rw[z,g2]at erl;cases erl
 have tF:TS H3 (upd H3 d (.frz o (.dT (aK L)))):=fun b zs e=>by rw[af fun z=>by rw[z,g2]at e;cases e];exact e
 have kF:∀b u,H3 b=some u->b≠d->upd H3 d (.frz o (.dT (aK L))) b=some u:=fun b u e hb=>by rw[af hb];exact e
 have eF:upd H3 d (.frz o (.dT (aK L))) d=some (.frz o (.dT (aK L))):=ad;have er4:=kF _ _ erl nrd;have pz4:=pz3.ts tF;obtain⟨dA,dB,dC⟩:=FF pz4;have lk:(aK L).length=L.length:=by unfold aK;rw[Za]
 generalize hHF:upd H3 d (.frz o (.dT (aK L)))=HF at tF kF eF er4 pz4 dA ⊢;refine xg (a:=d) (o:=o) (kvs:=aK L) (fun i ys H'=>H'=HF/\ys.length<=i/\NsI HF ys (dz ((L.take i).filter (fh M)))) (by omega) (fun _ _ _ z=>z.2.1) ⟨rfl,Zb _,.nil⟩ (fun i ys H' z=>by rw[z.1];exact eF) ?_ ?_
 ·rintro i ys H' kv b hkv hb ⟨rfl,ly,py⟩ Y hY;unfold aK at hkv;rw[Zx]at hkv;obtain⟨y,hy,rfl⟩:=YI.mp hkv;have eb:H' b=some (.tup ((nmZ y.2).map V.int)):=hb;refine⟨_,rfl,_,rfl,rl,_,_,_,rfl,SqL.of er4,je eb,dA,ie _,dB,_,rfl,?_⟩;rw[DV];have tk:dz ((L.take (i+1)).filter (fh M))=dz ((L.take i).filter (fh M))++if fh M y=true then[nmZ y.2]else[]:=by
   rw[cU hy,y7];unfold dz;rw[Zz];congr 1;by_cases c:fh M y=true
   ·rw[HV c,List.filter_cons_of_pos c];rfl
   ·rw[HU c,List.filter_cons_of_neg c];rfl
  show if(!decide (nmZ y.2∈dz M))=true then _ else _
  cases c:fh M y with
  |true =>have c':(!decide (nmZ y.2∈dz M))=true:=c;rw[c'];refine aL ⟨_,rfl,hY _ _ ⟨rfl,by rw[Zs];exact Nat.succ_le_succ ly,?_⟩⟩;rw[tk,c,HV rfl];exact Paired.snoc py ⟨b,rfl,eb⟩
  |false =>have c':(!decide (nmZ y.2∈dz M))=false:=c;rw[c'];refine ax (hY _ _ ⟨rfl,Nat.le_succ_of_le ly,?_⟩);rw[tk,c,HU (by decide),ZO];exact py
 rintro ys l5 H' ⟨rfl,ly,py⟩ g5;rw[lk,Yv]at py;rw[lk]at ly;have w5:=ah g5 (.lst ys);have e5:upd H' l5 (.lst ys) l5=some (.lst ys):=ad;have eF5:=w5 _ _ eF;have n5d:l5≠d:=fun z=>by rw[z,eF]at g5;cases g5
 refine⟨d,o,.dT (aK L),eF5,Loose.dt h2,?_⟩;have t5:TS H' (upd (upd H' l5 (.lst ys)) d (.dT (aK L))):=fun b zs e=>by rw[af fun z=>by rw[z,eF]at e;cases e];exact w5 _ _ e
 have k5:Same H3 (upd (upd H' l5 (.lst ys)) d (.dT (aK L))):=fun b u e=>by
  by_cases c:b=d
  ·rw[c,ad,<-g2,<-c,e]
  ·rw[af c];exact w5 _ _ (kF _ _ e c)
 have e6:upd (upd H' l5 (.lst ys)) d (.dT (aK L)) l5=some (.lst ys):=by rw[af n5d];exact e5
 have py6:=py.ts t5;generalize upd (upd H' l5 (.lst ys)) d (.dT (aK L))=H6 at t5 k5 e6 py6 ⊢;obtain⟨as,rfl,la,ha⟩:=FE py6;have lf:(L.filter (fh M)).length=as.length:=by rw[<-la];unfold dz;rw[Za]
 have lf2:=Z5 (fh M) L;refine⟨l5,as,dz (L.filter (fh M)),rfl,e6,by omega,la,fun k hk=>?_,ha,fun pm D2 hp hs gD2=>?_⟩
 ·obtain⟨x,_,rfl⟩:=Zt.mp hk;exact fun z=>by cases z
 obtain⟨N,pN,nN,sN⟩:=A7 lf ha hp hs;have wD:=ah gD2 (.lst (pm.toList.map fun i=>(as.map V.ref).getD i .non));have s7:Same H3 (upd H6 D2 (.lst (pm.toList.map fun i=>(as.map V.ref).getD i .non))):=k5.trans wD;refine q D2 _ M N _ rd ⟨pN,sN⟩ (fun b o e hb=>s7 _ _ (sT3 _ _ e hb)) (aC tab3 s7) ad (NsI.ts nN (Same.ts wD)) ?_;exact mq sT3 tab3 (k5.free gD2)
def aq(ns:List Int)(h:Nat):List Int:=ns.take h++[ai ns h+1]++ns.drop (h+1)
def uC:Sp:=fun vs H Q _=>∃(h:Int),vs=[.int h]/\1<=h/\h<=8/\∀p H',Same H H'->H' p=some (.tup ((List.replicate h.toNat (0:Int)).map V.int))->Q (.ref p) H'
def lA:Sp:=fun vs H Q _=>∃(a:Addr) (ns:List Int) (h:Int),vs=[.ref a,.int h]/\H a=some (.tup (ns.map V.int))/\0<=h/\h<ns.length/\ns.length<=8/\∀p H',Same H H'->H' p=some (.tup ((aq ns h.toNat).map V.int))->Q (.ref p) H'
abbrev fw:Stmt:=top 6
abbrev pH:List Str:=["hands"]
theorem nZ:FnScope pH ["hands"] (al fw):=⟨rfl,rfl,rfl,by decide +kernel,rfl,by decide +kernel,by decide +kernel⟩
theorem nQ{f:Addr}{fd:FuncData}(F:Fun K "start_clock" "start_clock" fw f fd):FnOk P w K mg base CX0 1 f fd ["hands"] uC:=by
 refine F.okQ nZ (fun vs H Q E h=>?_) (fun cdv A outer s H vs Q E hr h=>?_)
 ·obtain⟨h,rfl,_⟩:=h;rfl
 obtain⟨h,rfl,h1,h8,q⟩:=h;refine⟨_,(b_1 (au (aN DZ (aE (q_a aj ag)) (q_v 0)))),?_⟩
 try rw[cxK]
 refine⟨sz rfl,fun p g=>?_⟩;refine⟨_,rfl,p,h,[.int 0],rfl,rfl,ad,h1,by omega,(by simp),(dH (by rw[ZE];omega)),fun p2 H2 s2 e2=>?_⟩;refine q p2 H2 ((ah g _).trans s2) ?_;rw[e2,List.flatten_replicate_singleton,List.map_replicate]
abbrev kZ:Stmt:=top 8
abbrev zt:List Str:=["clock","hand"]
theorem yG:FnScope zt ["clock","hand"] (al kZ):=⟨rfl,rfl,rfl,by decide +kernel,rfl,by decide +kernel,by decide +kernel⟩
theorem yk{f:Addr}{fd:FuncData}(F:Fun K "raised" "raised" kZ f fd):FnOk P w K mg base CX0 1 f fd ["clock","hand"] lA:=by
 refine F.okQ yG (fun vs H Q E h=>?_) (fun cdv A outer s H vs Q E hr h=>?_)
 ·obtain⟨a,ns,h,rfl,_⟩:=h;rfl
 obtain⟨a,ns,h,rfl,hA,h0,h1,h8,q⟩:=h;have hk:h.toNat<ns.length:=by omega
 have c1:de (ns.map V.int) none (some h)=(ns.take h.toNat).map V.int:=by unfold de;rw[Za,HT.sIx_none,rK h0,Nat.min_eq_left (by omega),List.drop_zero,Nat.sub_zero,List.map_take]
 have c2:de (ns.map V.int) (some (h+1)) none=(ns.drop (h.toNat+1)).map V.int:=by unfold de;rw[Za,HT.sIx_none,rK (by omega),Nat.min_eq_left (by omega),<-List.map_drop,<-List.map_take];rw[show(h+1).toNat=h.toNat+1 by omega,List.take_of_length_le (by rw[List.length_drop];exact Zb _)]
 refine⟨_,(b_1 (au (aN yc (aN yc (vY rj (q_v 0) AQ (rG (q_v 1))) (aE (q_a (aN cG (aD aI (q_v 0) (q_v 1)) aj) ag))) (vY rj (q_v 0) (rG (aN cG (q_v 1) aj)) AQ)))),?_⟩
 try rw[cxK]
 refine⟨_,rfl,_,rfl,_,rfl,a,_,rfl,hA,fun p1 H1 s1 e1=>?_⟩;rw[c1]at e1;refine⟨_,rfl,_,rfl,a,_,_,_,rfl,rfl,SqT.of (s1 _ _ hA),bI h0 h1,_,_,rfl,rfl,sz rfl,fun p2 g2=>?_⟩;have s2:=ah g2 (.tup [.int (ai ns h.toNat+1)]);refine⟨p1,p2,_,_,rfl,rfl,s2 _ _ e1,ad,(dH (by rw[Za,ZX,ZE];omega)),fun p3 H3 s3 e3=>?_⟩;refine⟨_,rfl,_,rfl,_,_,rfl,rfl,_,rfl,a,_,rfl,s3 _ _ (s2 _ _ (s1 _ _ hA)),fun p4 H4 s4 e4=>?_⟩;rw[c2]at e4;refine⟨p3,p4,_,_,rfl,rfl,s4 _ _ e3,e4,(dH (by simp only[Zs,Za,ZX,List.length_drop,ZE];omega)),fun p5 H5 s5 e5=>?_⟩;refine q p5 H5 (s1.trans (s2.trans (s3.trans (s4.trans s5)))) ?_;rw[e5];unfold aq;rw[Zz,Zz];rfl
def aP(ds:List Dd)(g:Nat):Int:=((ds.countP fun d=>decide (d.h=g):Nat):Int)
def ar(n:Nat)(ds:List Dd):List Int:=(List.range n).map (aP ds)
theorem ba{n g:Nat}{ds:List Dd}(h:g<n):ai (ar n ds) g=aP ds g:=by unfold ai ar;rw[Zx,List.getElem?_range h];rfl
theorem aw(n:Nat)(ds:List Dd):(ar n ds).length=n:=by unfold ar;rw[Za,List.length_range]
theorem aZ{ns:List Int}{h:Nat}(hh:h<ns.length):aq ns h=ns.set h (ai ns h+1):=by unfold aq;rw[List.set_eq_take_append_cons_drop,HV hh,List.append_assoc];rfl
theorem im{n:Nat}{ds:List Dd}{d:Dd}(h:d.h<n):aq (ar n ds) d.h=ar n (ds++[d]):=by
 have hl:d.h<(ar n ds).length:=by rw[aw];exact h
 rw[aZ hl];refine kL (by rw[YN,aw,aw]) fun i hi=>?_;rw[YN,aw]at hi;rw[fY hl,ba h,ba hi,ba hi];unfold aP;rw[List.countP_append,Int.natCast_add];by_cases c:i=d.h
 ·rw[HV c,List.countP_cons_of_pos (by rw[c];exact decide_eq_true rfl),c];rfl
 ·rw[HU c,List.countP_cons_of_neg (by simpa using fun z=>c z.symm)];exact(Int.add_zero _).symm
def lq(C T:Addr):Sp:=fun vs H Q _=>∃(p d:Addr) (n:Nat) (L:LT),vs=[.ref p]/\StoreAt C H p d n L/\bh fi T (ge eN) H /\
 ∀c H' (M:LT),RDY L M->SameT T H H'->bh fi T (ge eN) H'->H' c=some (.tup ((ar n (vals M)).map V.int))->Q (.ref c) H'
theorem mX(n:Nat):ar n []=List.replicate n 0:=by refine kL (by rw[aw,List.length_replicate]) fun i hi=>?_;rw[aw]at hi;rw[ba hi,zR];rfl
abbrev fm:Stmt:=bY (top 71) 4
abbrev pD:List Str:=["self","clock","deed"]
theorem du:FnScope pD ["self"] (al fm):=⟨rfl,rfl,rfl,by decide +kernel,rfl,by decide +kernel,by decide +kernel⟩
theorem nG{f C T:Addr}{fd:FuncData}(F:Fun K "clock" "Store.clock" fm f fd)(X:Txt K C)(d6:MFn P w K mg base 6 C "ready" ["self"] (gI C T))(p9:Fn P w K mg base 1 "start_clock" ["hands"] uC)(k8:Fn P w K mg base 1 "raised" ["clock","hand"] lA):FnOk P w K mg base CX0 7 f fd ["self"] (lq C T):=by
 refine F.okQ du (fun vs H Q E h=>?_) (fun cdv A outer s H vs Q E hr h=>?_)
 ·obtain⟨p,d,n,L,rfl,_⟩:=h;rfl
 obtain⟨p,d,n,L,rfl,S,tab,q⟩:=h;obtain⟨⟨dx,h1⟩,h2,h3,h4,h5,h6,h7⟩:=id S;refine⟨_,(b_c (aH (i:=1) du.nd (aB p9 (hr.mono (by decide)) (q_a (bP (q_v 0)) ag)))
   (b_c (ke PassesOwn.never rfl (dF (cO d6 (hr.mono (by decide)) (q_v 0))) (bc (i:=2) du.nd) (b_1 (aH (i:=1) du.nd (aB k8 (hr.mono (by decide)) (q_a (q_v 1) (q_a (aD aI (q_v 2) aj) ag))))))
   (b_1 (au (q_v 1))))),?_⟩
 try rw[cxK]
 refine bu fun R0 hR0=>?_;refine⟨_,rfl,p,C,dx,_,_,rfl,h1,X.cl,X.nH,iG _ _,(n:Int),rfl,by omega,by omega,fun c0 H0 s0 e0=>hR0 _ _ ?_⟩;clear hR0 R0;rw[Zr,<-mX]at e0;refine bu fun R0 hR0=>?_;refine⟨_,rfl,p,dx,_,rfl,s0 _ _ h1,iP _ _,p,d,n,L,rfl,S.same s0,aC tab s0,fun D H1 M rd sT tab1 eD nD=>?_⟩;have kt1:=KT.tab (aC tab s0) sT;have S1:=(S.same s0).kt kt1;have lM:=rd.len;have e1:H1 c0=some (.tup ((ar n (vals [])).map V.int)):=kt1.ts _ _ e0;refine⟨D,rfl,⟨_,SqL.of eD⟩,?_⟩;refine xB (K:=K) (a:=D) (xs:=aA M) (fun i σ H'=>Same H1 H'/\∃(c:Addr) (o2:Option V),H' c=some (.tup ((ar n (vals (M.take i))).map V.int))/\σ=[some (.ref p),some (.ref c),o2]) ⟨Same.refl _,c0,none,e1,rfl⟩ (fun i σ H' _ z=>SqL.of (z.1 _ _ eD)) ?_ ?_
 ·rintro i v σ H' hv ⟨sm,c,o2,ec,rfl⟩ DL hDL;obtain⟨y,hy,my,rfl⟩:=dl hv;obtain⟨cl,wv,d1,d2,d3,d4,d5⟩:=(S1.dr y (rd.sub y my)).same sm;have hy2:y.2∈vals L:=Zt.mpr ⟨y,rd.sub y my,rfl⟩;have lh:=(h4.len _ hy2)
  refine⟨_,rfl,vix rfl (SqT.of d1) at0 ⟨c,_,(y.2.h:Int),rfl,ec,by omega,by rw[aw];omega,by rw[aw];exact h6,fun c2 H2 s2 e2=>hDL _ _ ⟨sm.trans s2,c2,_,?_,rfl⟩⟩⟩;rw[e2,Zr,im (by omega),cU hy];unfold vals;rw[Zz];rfl
 rintro σ H' ⟨sm,c,o2,ec,rfl⟩;refine hR0 _ _ ?_;rw[bE,Yv]at ec;exact⟨_,rfl,q c H' M rd (fun b o e hb=>sm _ _ (sT _ _ (s0 _ _ e) hb)) (aC tab1 sm) ec⟩
def cH(cs:List Int)(x:Addr×Dd):Bool:=decide (ai cs x.2.h<ai x.2.ns x.2.h)
def yR(C T:Addr):Sp:=fun vs H Q _=>∃(p d c:Addr) (n:Nat) (L:LT) (cs:List Int),vs=[.ref p,.ref c]/\StoreAt C H p d n L/\bh fi T (ge eN) H/\H c=some (.tup (cs.map V.int))/\cs.length=n /\
 ∀D H' (M M' N:LT),RDY L M->RDY L M'->Wt L M' N->SameT T H H'->bh fi T (ge eN) H'->H' D=some (.lst (aA ((M++N).filter (cH cs))))->H D=none->Q (.ref D) H'
abbrev gB:Stmt:=bY (top 71) 5
abbrev qD:List Str:=["self","clock","deeds"]
theorem jb:FnScope qD ["self","clock"] (al gB):=⟨rfl,rfl,rfl,by decide +kernel,rfl,by decide +kernel,by decide +kernel⟩
theorem pU{f C T:Addr}{fd:FuncData}(F:Fun K "told" "Store.told" gB f fd)(X:Txt K C)(d6:MFn P w K mg base 6 C "ready" ["self"] (gI C T))(G0:MFn P w K mg base 7 C "waiting" ["self"] (yS C T))(a9:Fn P w K mg base 1 "name_of" ["deed"] gH)(u6:Fn P w K mg base 1 "tells" ["clock","name"] om):FnOk P w K mg base CX0 8 f fd ["self","clock"] (yR C T):=by
 refine F.okQ jb (fun vs H Q E h=>?_) (fun cdv A outer s H vs Q E hr h=>?_)
 ·obtain⟨p,d,c,n,L,cs,rfl,_⟩:=h;rfl
 obtain⟨p,d,c,n,L,cs,rfl,S,tab,hc,lc,q⟩:=h;obtain⟨⟨dx,h1⟩,h2,h3,h4,h5,h6,h7⟩:=id S;refine⟨_,(b_c (aH (i:=2) jb.nd (aN Bu (cO d6 (hr.mono (by decide)) (q_v 0)) (cW (own:=["name"]) (⟨rfl,by decide +kernel,by decide +kernel,rfl,⟨rfl,rfl,trivial⟩⟩:CompOk _ _ [0] ["self"]) rfl (dF (cO G0 (hr.mono (by decide)) (q_v 0))) (fun _ _ _ _=>bc (i:=0) (show (["name","self"]:List Str).Nodup by decide +kernel)) (bN (by decide)) (fun _ _ _ _=>iK) (fun _ _ _ _=>(jw hr.units (EK (K:=K) rfl (q_v 1)) (q_v 0))))))
   (b_1 (au (cW (own:=["deed"]) (⟨rfl,by decide +kernel,by decide +kernel,rfl,⟨rfl,rfl,trivial⟩⟩:CompOk _ _ [1] ["clock"]) rfl (dF (q_v 2)) (fun _ _ _ _=>bc (i:=0) (show (["deed","clock"]:List Str).Nodup by decide +kernel)) (bN (by decide)) (fun _ _ _ _=>(qZ (ci (bR (aB u6 (hr.mono (by decide)) (q_a (q_v 1) (q_a (aB a9 (hr.mono (by decide)) (q_a (q_v 0) ag)) ag))))))) (fun _ _ _ _=>(q_v 0)))))),?_⟩
 try rw[cxK]
 refine bu fun R0 hR0=>?_;refine⟨_,rfl,p,dx,_,rfl,h1,iP _ _,p,d,n,L,rfl,S,tab,fun D1 H1 M rd sT1 tab1 eD1 nD1=>?_⟩;have kt1:=KT.tab tab sT1;have S1:=S.kt kt1;obtain⟨⟨dx1,g1⟩,_⟩:=id S1;refine⟨_,rfl,p,dx1,_,rfl,g1,vD _ _,p,d,n,L,rfl,S1,tab1,fun D2 H2 M' N ys rd' wt sT2 tab2 eD2 nys nD2=>?_⟩;have kt2:=KT.tab tab1 sT2;have S2:=S1.kt kt2;have eD12:=kt2 _ _ eD1 (fun ps z=>by cases z);obtain⟨⟨dx2,f1⟩,f2,f3,_⟩:=id S2;have lN:=wt.len;have lM:=rd.len;have lys:ys.length=N.length:=by rw[Paired.length nys];unfold dz;rw[Za]
 refine⟨D2,rfl,⟨_,SqL.of eD2⟩,?_⟩;refine dq (K:=K) (a:=D2) (xs:=ys) (fun i zs H'=>H'=H2/\zs=aA (N.take i)) (by omega) (fun i zs H' z=>by rw[z.2,bE,ZX];omega) ⟨rfl,rfl⟩ (fun i zs H' z=>by rw[z.1];exact SqL.of eD2) ?_ ?_
 ·rintro i zs H' v hv ⟨rfl,rfl⟩ Y hY;obtain⟨k,hk,b,rfl,hb⟩:=vS nys hv;unfold dz at hk;rw[Zx]at hk;obtain⟨y,hy,rfl⟩:=YI.mp hk;have my:=wt.sub y (List.mem_of_getElem? hy);refine⟨_,rfl,p,C,dx2,_,_,rfl,f1,X.cl,X.nD,cR _ _,_,rfl,d,.ref y.1,rfl,.inr ⟨_,nmK y.2,b,.inl f2,rfl,hb,(fS h4 my).symm⟩,hY _ _ ⟨rfl,?_⟩⟩;rw[cU hy];unfold aA;rw[Zz];rfl
 rintro zs l3 H' ⟨rfl,rfl⟩ g3;rw[lys,Yv];have w3:=ah g3 (.lst (aA N));have e3:upd H' l3 (.lst (aA N)) l3=some (.lst (aA N)):=ad;refine⟨D1,l3,_,_,rfl,rfl,w3 _ _ eD12,e3,dH (by rw[bE,bE];omega),fun l4 g4=>hR0 _ _ ?_⟩;clear hR0 R0;have eMN:aA M++aA N=aA (M++N):=by unfold aA;rw[Zz]
 rw[eMN];have w4:=w3.trans (ah g4 (.lst (aA (M++N))));have e4:upd (upd H' l3 (.lst (aA N))) l4 (.lst (aA (M++N))) l4=some (.lst (aA (M++N))):=ad;generalize upd (upd H' l3 (.lst (aA N))) l4 (.lst (aA (M++N)))=H4 at w4 e4 ⊢;have sT4:SameT T H H4:=fun b o e hb=>w4 _ _ (sT2 _ _ (sT1 _ _ e hb) hb);have tab4:=aC tab2 w4;have hc4:=w4 _ _ (kt2.ts _ _ (kt1.ts _ _ hc));have dr4:∀x∈M++N,DR H4 x.1 x.2/\x.2.h<n:=fun x hx=>by
  have hL:x∈L:=by
   rcases ZD.mp hx with hx|hx
   ·exact rd.sub x hx
   ·exact wt.sub x hx
  exact⟨(f3 x hL).same w4,(h4.len _ (Zt.mpr ⟨x,hL,rfl⟩)).2⟩
 have lMN:(M++N).length<=126:=by rw[Zs];omega
 have q':=fun D H'=>q D H' M M' N rd rd' wt;clear q;generalize M++N=B at e4 dr4 lMN q' ⊢;refine⟨_,rfl,l4,rfl,⟨_,SqL.of e4⟩,?_⟩;refine dq (fun i zs H'=>Same H4 H'/\zs=aA ((B.take i).filter (cH cs))) (by rw[bE];omega) (fun i zs H' z=>by rw[z.2,bE];exact Zy (Z5 _ _) (by rw[ZX];omega)) ⟨Same.refl _,rfl⟩ (fun i zs H' z=>SqL.of (z.1 _ _ e4)) ?_ ?_
 ·rintro i zs H' v hv ⟨sm,rfl⟩ Y hY;obtain⟨y,hy,my,rfl⟩:=dl hv;obtain⟨dy,ly⟩:=dr4 y my;refine⟨_,rfl,_,rfl,y.1,y.2,rfl,dy.same sm,fun t H5 s5 e5=>?_⟩;have ec5:atI (cs.map V.int) (y.2.h:Int)=some (.int (ai cs y.2.h)):=rk (by omega);refine⟨c,t,cs.map V.int,(y.2.h:Int),ai y.2.ns y.2.h,ai cs y.2.h,rfl,s5 _ _ (sm _ _ hc4),e5,ec5,_,rfl,?_⟩;have tk:aA ((B.take (i+1)).filter (cH cs))=aA ((B.take i).filter (cH cs))++if cH cs y=true then[.ref y.1]else[]:=by
   rw[cU hy,y7];unfold aA;rw[Zz];congr 1;by_cases c:cH cs y=true
   ·rw[HV c,List.filter_cons_of_pos c];rfl
   ·rw[HU c,List.filter_cons_of_neg c];rfl
  have eb:(!decide (ai y.2.ns y.2.h<=ai cs y.2.h))=cH cs y:=by unfold cH;rw[Yq];simp
  show if(!decide (ai y.2.ns y.2.h<=ai cs y.2.h))=true then _ else _
  rw[eb];cases c':cH cs y with
  |true =>refine aL ⟨_,rfl,hY _ _ ⟨sm.trans s5,?_⟩⟩;rw[tk,c',HV rfl]
  |false =>refine ax (hY _ _ ⟨sm.trans s5,?_⟩);rw[tk,c',HU (by decide),ZO]
 rintro zs D5 H' ⟨sm,rfl⟩ gD5;rw[bE,Yv];have w5:=sm.trans (ah gD5 (.lst (aA (B.filter (cH cs)))));exact q' D5 _ (fun b o e hb=>w5 _ _ (sT4 _ _ e hb)) (aC tab4 w5) ad (mq sT4 tab4 (sm.free gD5))
theorem Bt{d e:Dd}:nmZ d=nmZ e↔nmK d=nmK e:=by
 unfold nmZ nmK;constructor
 ·intro h;injection h with h1 h2;injection h2 with h2 _;rw[h1,h2]
 ·intro h;injection h with h1 h2;injection h2 with h2 _;injection h1 with h1;injection h2 with h2;rw[h1,h2]
theorem DS{n:Nat}{L:LT}(u:UN n (vals L)){x y:Addr×Dd}(hx:x∈L)(hy:y∈L)(h:nmK x.2=nmK y.2):x=y:=by have e1:=fS u hx;rw[h,fS u hy]at e1;injection e1 with e1;injection e1 with e1;exact Prod.ext e1.symm (jr u.uni (Zt.mpr ⟨x,hx,rfl⟩) (Zt.mpr ⟨y,hy,rfl⟩) h)
theorem ER{n:Nat}{L M:LT}(u:UN n (vals L))(rd:RDY L M):UN n (vals M)/\Ch n (vals M)/\Sat n (vals L) (vals M)/\(vals M).Pairwise kLt:=by obtain⟨S,pS,hs,rfl⟩:=rd;have uS:UN n (vals S):=u.perm (pS.symm.map Prod.snd);have subM:=(cQ S S.length (Zb _)).trans (Yo _ _);have uM:=uS.sub (dP subM);have cM:=mR uS S.length (Zb _);refine⟨uM,cM,fun d hd h=>zH uS hs d ((pS.map Prod.snd).mem_iff.mpr hd) h,yU (hs.sublist (dP subM)) (Du cM uM)⟩
def BK:Wh->Nat
 |.no=>0
 |.put _ _=>1
 |.itm b _ _=>if b then 2 else 3
 |.trn b _=>if b then 4 else 5
def wW:Wh->Str
 |.no=>"none"
 |.put _ _=>"put"
 |.itm b _ _=>tkW b
 |.trn b _=>ofW b
theorem C6{v w:Wh}(h:(wW v==wW w)=true):BK v=BK w:=by
 revert h;cases v with
 |no=>cases w with
  |no=>intro _;rfl
  |put _ _=>exact(show((("none":Str)=="put")=true->0=1) by decide +kernel)
  |itm b _ _=>cases b<;>(first|exact(show((("none":Str)=="take")=true->0=3) by decide +kernel)|exact(show((("none":Str)=="back")=true->0=2) by decide +kernel))
  |trn b _=>cases b<;>(first|exact(show((("none":Str)=="off")=true->0=5) by decide +kernel)|exact(show((("none":Str)=="on")=true->0=4) by decide +kernel))
 |put _ _=>cases w with
  |no=>exact(show((("put":Str)=="none")=true->1=0) by decide +kernel)
  |put _ _=>intro _;rfl
  |itm b _ _=>cases b<;>(first|exact(show((("put":Str)=="take")=true->1=3) by decide +kernel)|exact(show((("put":Str)=="back")=true->1=2) by decide +kernel))
  |trn b _=>cases b<;>(first|exact(show((("put":Str)=="off")=true->1=5) by decide +kernel)|exact(show((("put":Str)=="on")=true->1=4) by decide +kernel))
 |itm a _ _=>cases w with
  |no=>exact(show((tkW a=="none")=true->(if a then 2 else 3)=0) by cases a<;>decide +kernel)
  |put _ _=>exact(show((tkW a=="put")=true->(if a then 2 else 3)=1) by cases a<;>decide +kernel)
  |itm b _ _=>exact(show((tkW a==tkW b)=true->(if a then 2 else 3)=if b then 2 else 3) by cases a<;>cases b<;>decide +kernel)
  |trn b _=>exact(show((tkW a==ofW b)=true->(if a then 2 else 3)=if b then 4 else 5) by cases a<;>cases b<;>decide +kernel)
 |trn a _=>cases w with
  |no=>exact(show((ofW a=="none")=true->(if a then 4 else 5)=0) by cases a<;>decide +kernel)
  |put _ _=>exact(show((ofW a=="put")=true->(if a then 4 else 5)=1) by cases a<;>decide +kernel)
  |itm b _ _=>exact(show((ofW a==tkW b)=true->(if a then 4 else 5)=if b then 2 else 3) by cases a<;>cases b<;>decide +kernel)
  |trn b _=>exact(show((ofW a==ofW b)=true->(if a then 4 else 5)=if b then 4 else 5) by cases a<;>cases b<;>decide +kernel)
theorem zW{v w:Wh}(h:PyData.eqv (wD v) (wD w)=true):(wW v==wW w)=true:=by cases v<;>cases w<;>(simp only[wD,PyData.eqv,PyData.eqvAll,Zk]at h;exact h.1)
theorem Fp{v w:Wh}(h:PyData.eqv (wD v) (wD w)=true):v=w:=by
 have hk:=C6 (zW h);cases v with
 |no=>cases w with
  |no=>rfl
  |put _ _=>cases hk
  |itm b _ _=>cases b<;>cases hk
  |trn b _=>cases b<;>cases hk
 |put m s=>cases w with
  |no=>cases hk
  |put m' s' =>simp[wD,PyData.eqv,PyData.eqvAll]at h;obtain⟨h1,h2⟩:=h;rw[h1,Subtype.ext h2]
  |itm b _ _=>cases b<;>cases hk
  |trn b _=>cases b<;>cases hk
 |itm a x y=>cases w with
  |no=>cases a<;>cases hk
  |put _ _=>cases a<;>cases hk
  |itm b x' y' =>
   have ab:a=b:=by cases a<;>cases b<;>first|rfl|cases hk
   subst ab;simp[wD,PyData.eqv,PyData.eqvAll]at h;rw[h.1,h.2]
  |trn b _=>cases a<;>cases b<;>cases hk
 |trn a x=>cases w with
  |no=>cases a<;>cases hk
  |put _ _=>cases a<;>cases hk
  |itm b _ _=>cases a<;>cases b<;>cases hk
  |trn b x' =>
   have ab:a=b:=by cases a<;>cases b<;>first|rfl|cases hk
   subst ab;simp[wD,PyData.eqv,PyData.eqvAll]at h;rw[h]
theorem xt(a b c x y z:PyData):PyData.eqv (.tuple [a,b,c]) (.tuple [x,y,z])=(PyData.eqv a x&&(PyData.eqv b y&&(PyData.eqv c z&&true))):=by simp[PyData.eqv,PyData.eqvAll]
theorem Fo{d e:Dd}(h:PyData.eqv (dD d) (dD e)=true):d=e:=by
 unfold dD at h;rw[xt,Zk,Zk,Zk,kH]at h;obtain⟨h1,h2,h3,_⟩:=h;have g1:(d.h:Int)=(e.h:Int):=by simpa[PyData.eqv]using h1
 have g2:=ZS h2;have g3:=Fp h3;obtain⟨dh,dn,dw⟩:=d;obtain⟨eh,en,ew⟩:=e;have:dh=eh:=Int.ofNat_inj.mp g1;subst this;cases g2;cases g3;rfl
theorem Dy{d e:Dd}(h:d≠e):PyData.eqv (dD d) (dD e)=false:=by
 cases c:PyData.eqv (dD d) (dD e)with
 |false=>rfl
 |true=>exact absurd (Fo c) h
def EY(cN:Addr):Sp:=fun vs H Q _=>∃(e t:Addr) (v:V),vs=[.ref e,v]/\H e=some (exN e cN t none)/\∀d,H d=none->Q .non (upd (upd H d (.xd [("name",v)])) e (exN e cN t (some d)))
abbrev hW:Stmt:=bY (top 19) 0
abbrev sL:List Str:=["self","name"]
theorem rS:FnScope sL ["self","name"] (al hW):=⟨rfl,rfl,rfl,by decide +kernel,rfl,by decide +kernel,by decide +kernel⟩
theorem rq{f cN:Addr}{fd:FuncData}(F:Fun K "__init__" "Twin.__init__" hW f fd)(S:ExS K cN)(n:NoAttr K cN "name"):FnOk P w K mg base CX0 1 f fd ["self","name"] (EY cN):=by
 refine F.okQ rS (fun vs H Q E h=>?_) (fun cdv A outer s H vs Q E hr h=>?_)
 ·obtain⟨e,t,v,rfl,_⟩:=h;rfl
 obtain⟨e,t,v,rfl,he,q⟩:=h;refine⟨_,(b_1 (EU (q_v 0) (q_v 1))),?_⟩
 try rw[cxK]
 exact⟨_,rfl,_,rfl,e,cN,t,rfl,he,S,n,q⟩
theorem zI{H1:Hp}{ea t d cN:Addr}{v:V}(h1:H1 ea=none)(hd:upd H1 ea (exN ea cN t none) d=none) :
  Same H1 (del (upd (upd (upd H1 ea (exN ea cN t none)) d (.xd [("name",v)])) ea (exN ea cN t (some d))) ea)/\del (upd (upd (upd H1 ea (exN ea cN t none)) d (.xd [("name",v)])) ea (exN ea cN t (some d))) ea d=some (.xd [("name",v)]):=by
 have nde:d≠ea:=fun z=>by rw[z,ad]at hd;cases hd
 refine⟨fun b o e=>?_,?_⟩
 ·have hb:b≠ea:=am e h1;have hbd:b≠d:=fun z=>by rw[<-z,af hb,e]at hd;cases hd
  rw[eg hb,af hb,af hbd,af hb];exact e
 ·rw[eg nde,af nde,ad]
def oh(K:PySem.W.Frag)(C cT cD:Addr):Sp:=fun vs H Q E=>(∃ (p d a:Addr) (n:Nat) (L:LT) (e:Dd),vs=[.ref p,.ref a]/\StoreAt C H p d n L/\DR H a e/\Fit n e /\
 ((L.length<63/\(∀ x∈L,nmK x.2≠nmK e)/\∀ H',SameT d H H'->StoreAt C H' p d n (L++[(a,e)])->Q (.bl true) H')\/((∃ x∈L,x.2=e)/\∀ H',Same H H'->Q (.bl false) H')\/((∃ x∈L,nmK x.2=nmK e/\x.2≠e)/\∀ H' t dd,Same H H'->H' t=some (.tup ((nmZ e).map V.int))->H' dd=some (.xd [("name",.ref t)])->E (.ref cT) (some dd) H'))) \/
 ∃(p d:Addr) (v:V) (n:Nat) (L:LT),vs=[.ref p,v]/\StoreAt C H p d n L/\DeedR K H (n:Int) v false/\∀H',Same H H'->E (.ref cD) none H'
theorem nI{f C cT cD:Addr}{fd:FuncData}{bm:List Value}(F:Fun K "hear" "Store.hear" gw f fd)(T:Txt K C)(GF:Fn P w K mg base 7 "is_deed" ["thing","hands"] (yN K))(a9:Fn P w K mg base 1 "name_of" ["deed"] gH)(G8:ExI P w K mg base 1 cT bm ["self","name"] (EY cT))(v8:mg "Twin" = some (.ref cT))(x_NoDeed:ExCls K cD)(j2:mg "NoDeed" = some (.ref cD)):FnOk P w K mg base (CXr P w) 8 f fd ["self","deed"] (oh K C cT cD):=by
 refine F.okX fA (fun vs H Q E h=>?_) (fun cdv A outer s H vs Q E hr h=>?_)
 ·rcases h with⟨p,d,a,n,L,e,rfl,_⟩|⟨p,d,v,n,L,rfl,_⟩<;>rfl
 rcases h with h|h
 rotate_left
 ·obtain⟨p,d,v,n,L,rfl,S,hd,q⟩:=h;obtain⟨⟨dx,h1⟩,h2,h3,h4,h5,h6,h7⟩:=id S;refine⟨_,(b_c (aU (ci (bR (aB GF (hr.mono (by decide)) (q_a (q_v 1) (q_a (bP (q_v 0)) ag))))) (b_1 (ur (jx cC) rfl x_NoDeed j2 (q_a aG ag))) b_0)
   (b_c (aH (i:=2) fA.nd (aB a9 (hr.mono (by decide)) (q_a (q_v 1) ag)))
   (b_c (aU (sA hr.units (q_v 2) (bP (q_v 0))) (b_c (mn hr.units (bP (q_v 0)) (q_v 2) (q_v 1))
   (b_1 (au bU))) b_0)
   (b_c (aU (aM (jX hr.units) (jw hr.units (bP (q_v 0)) (q_v 2)) (q_v 1)) (b_1 (rM cC rfl G8 (hr.mono (by decide)) v8 (q_a (q_v 2) ag))) b_0)
   (b_1 (au bU)))))),?_⟩
  try rw[cxK]
  refine⟨_,rfl,_,rfl,p,C,dx,_,_,rfl,h1,T.cl,T.nH,iG _ _,_,false,(n:Int),rfl,hd,fun H1 s1=>?_⟩;exact⟨_,rfl,aL ⟨sz rfl,q H1 s1⟩⟩
 obtain⟨p,d,a,n,L,e,rfl,S,hd,ft,q⟩:=h;obtain⟨⟨dx,h1⟩,h2,h3,h4,h5,h6,h7⟩:=id S;refine⟨_,(b_c (aU (ci (bR (aB GF (hr.mono (by decide)) (q_a (q_v 1) (q_a (bP (q_v 0)) ag))))) (b_1 (ur (jx cC) rfl x_NoDeed j2 (q_a aG ag))) b_0)
   (b_c (aH (i:=2) fA.nd (aB a9 (hr.mono (by decide)) (q_a (q_v 1) ag)))
   (b_c (aU (sA hr.units (q_v 2) (bP (q_v 0))) (b_c (mn hr.units (bP (q_v 0)) (q_v 2) (q_v 1))
   (b_1 (au bU))) b_0)
   (b_c (aU (aM (jX hr.units) (jw hr.units (bP (q_v 0)) (q_v 2)) (q_v 1)) (b_1 (rM cC rfl G8 (hr.mono (by decide)) v8 (q_a (q_v 2) ag))) b_0)
   (b_1 (au bU)))))),?_⟩
 try rw[cxK]
 refine⟨_,rfl,_,rfl,p,C,dx,_,_,rfl,h1,T.cl,T.nH,iG _ _,_,true,(n:Int),rfl,B0 hd ft h6,fun H1 s1=>?_⟩;refine⟨_,rfl,?_⟩;refine⟨_,rfl,a,e,rfl,hd.same s1,fun t H2 s2 et=>?_⟩;have s12:=s1.trans s2;refine⟨_,rfl,_,rfl,p,C,dx,_,_,rfl,s12 _ _ h1,T.cl,T.nD,cR _ _,d,_,rfl,.inr ⟨_,nmK e,t,.inl (s12 _ _ h2),rfl,et,rfl⟩,_,rfl,?_⟩;rcases q with⟨ll,hn,q⟩|⟨⟨x,hx,rfl⟩,q⟩|⟨⟨x,hx,hn,ne⟩,q⟩
 ·have vn:bF (aK L) (nmK e)=none:=by
   rw[kh];have:L.find? (fun x=>decide (nmK x.2=nmK e))=none:=by rw[List.find?_eq_none];intro y hy;simpa using hn y hy
   rw[this];rfl
  rw[vn];refine aL ?_;have lk:(aK L).length<=63:=by unfold aK;rw[Za];exact h7
  refine⟨_,rfl,_,rfl,p,C,dx,_,_,rfl,s12 _ _ h1,T.cl,T.nD,cR _ _,_,rfl,d,_,rfl,.inr ⟨_,nmK e,t,s12 _ _ h2,rfl,et,Nat.lt_of_le_of_lt lk (by rw[PySem.sizeLine_eq];decide),rfl⟩,?_⟩;exact q _ (fun b o eb hb=>by rw[af hb];exact s12 _ _ eb) (Ac S s12 hd ft ll hn vn)
 ·rw[fS h4 hx];refine ax ?_;have hx12:=(h3 x hx).same s12;have hd12:=hd.same s12;refine⟨_,rfl,p,C,dx,_,_,rfl,s12 _ _ h1,T.cl,T.nD,cR _ _,_,rfl,d,.ref x.1,rfl,.inr ⟨_,nmK x.2,t,.inl (s12 _ _ h2),rfl,et,(fS h4 hx).symm⟩,_,rfl,_,_,hx12.dt,hd12.dt,eU _,eU _,_,rfl,?_⟩;rw[SeqAt.eqv_refl _ (lX (d:=x.2) trivial).1];exact ax (q _ s12)
 ·have vx:bF (aK L) (nmK e)=some (.ref x.1):=by rw[<-hn];exact fS h4 hx
  rw[vx];refine ax ?_;have hx12:=(h3 x hx).same s12;have hd12:=hd.same s12;refine⟨_,rfl,p,C,dx,_,_,rfl,s12 _ _ h1,T.cl,T.nD,cR _ _,_,rfl,d,.ref x.1,rfl,.inr ⟨_,nmK e,t,.inl (s12 _ _ h2),rfl,et,vx.symm⟩,_,rfl,_,_,hx12.dt,hd12.dt,eU _,eU _,_,rfl,?_⟩;rw[Dy ne];refine aL ?_;refine⟨_,rfl,sz rfl,fun ea tt' e1 e2 nt=>⟨ea,tt',_,rfl,ad,fun dd hdd=>⟨rfl,some dd,ad,?_⟩⟩⟩;obtain⟨a1,a2⟩:=zI (v:=V.ref t) e1 hdd;exact q _ t dd (s12.trans a1) (a1 _ _ et) a2
theorem nE(n:Nat)(d:Addr):(fc n d).lookup ("hear":Str)=none:=iq n d (by decide +kernel) (by decide +kernel)
theorem Cc(n:Nat)(d:Addr):(fc n d).lookup ("told":Str)=none:=iq n d (by decide +kernel) (by decide +kernel)
theorem rm(n:Nat)(d:Addr):(fc n d).lookup ("clock":Str)=none:=iq n d (by decide +kernel) (by decide +kernel)
def cg(d:Dd):Int:=ai d.ns d.h
def isT:Wh->Bool
 |.trn _ _=>true
 |_=>false
def ja:Wh->Bool
 |.no=>false
 |.trn _ _=>false
 |_=>true
theorem WR.head{H:Hp}{v:V}{w:Wh}(x:WR H v w):∃p r,v=.ref p/\H p=some (.tup (.str (wW w)::r)):=by
 cases w with
 |no =>obtain⟨p,h1,h2⟩:=x;exact⟨p,_,h1,h2⟩
 |put m s =>obtain⟨p,q,h1,h2,_⟩:=x;exact⟨p,_,h1,h2⟩
 |itm b h k =>obtain⟨p,q,h1,h2,_⟩:=x;exact⟨p,_,h1,h2⟩
 |trn b k =>obtain⟨p,h1,h2⟩:=x;exact⟨p,_,h1,h2⟩
theorem B3(w:Wh):inV (.str (wW w)) [.str "off",.str "on"]=isT w:=by
 cases w with
 |no=>exact(show inV (.str "none") [.str "off",.str "on"]=false by decide +kernel)
 |put m s=>exact(show inV (.str "put") [.str "off",.str "on"]=false by decide +kernel)
 |itm b h k=>exact(show inV (.str (tkW b)) [.str "off",.str "on"]=false by cases b<;>decide +kernel)
 |trn b k=>exact(show inV (.str (ofW b)) [.str "off",.str "on"]=true by cases b<;>decide +kernel)
theorem DF(w:Wh):(!inV (.str (wW w)) [.str "off",.str "on",.str "none"])=ja w:=by
 cases w with
 |no=>exact(show(!inV (.str "none") [.str "off",.str "on",.str "none"])=false by decide +kernel)
 |put m s=>exact(show(!inV (.str "put") [.str "off",.str "on",.str "none"])=true by decide +kernel)
 |itm b h k=>exact(show(!inV (.str (tkW b)) [.str "off",.str "on",.str "none"])=true by cases b<;>decide +kernel)
 |trn b k=>exact(show(!inV (.str (ofW b)) [.str "off",.str "on",.str "none"])=false by cases b<;>decide +kernel)
theorem Cf(b:Bool):decide (V.str (ofW b)=V.str "off")=!b:=by cases b<;>decide +kernel
def TOk(kvs:List (List Key×V))(L:LT):Prop:=∀k v,bF kvs k=some v->∃x∈L,∃b n,v=.ref x.1/\x.2.w=.trn b n/\k=[.inl (x.2.h:Int),.inl n]
def ls:Sp:=fun vs H Q _=>∃(d:Addr) (x:Dd),vs=[.ref d]/\DR H d x/\∀H',Same H H'->Q (.bl (isT x.w)) H'
def su:Sp:=fun vs H Q _=>∃(d:Addr) (x:Dd) (b:Bool) (n:Int),vs=[.ref d]/\DR H d x/\x.w=.trn b n/\∀p H',Same H H'->H' p=some (.tup [.int (x.h:Int),.int n])->Q (.ref p) H'
def yP:Sp:=fun vs H Q _=>∃(l:Addr) (L:LT),vs=[.ref l]/\LR H l L/\L.length<=63/\∀p kvs H',Same H H'->H' p=some (.dT kvs)->TOk kvs L->Q (.ref p) H'
def uw:Sp:=fun vs H Q _=>∃(d p:Addr) (x:Dd) (kvs:List (List Key×V)) (L:LT),vs=[.ref d,.ref p]/\DR H d x/\H p=some (.dT kvs)/\TOk kvs L/\(∀y∈L,DR H y.1 y.2)/\∀b H',Same H H'->(b=true->∃y∈L,y.2.h=x.h/\y.2.w=.trn false (cg x))->Q (.bl b) H'
def Gj(L M:LT):Prop:=(∀x∈M,x∈L)/\M.length<=L.length/\∀x∈L,(∀y∈L,y.2.h=x.2.h->y.2.w≠.trn false (cg x.2))->x∈M
def mF:Sp:=fun vs H Q _=>∃(l:Addr) (L:LT),vs=[.ref l]/\LR H l L/\L.length<=63/\∀p H' M,Same H H'->LR H' p M->Gj L M->Q (.ref p) H'
def BD:Sp:=fun vs H Q _=>∃(l:Addr) (L:LT) (me:Nat),vs=[.ref l,.int (me:Int)]/\LR H l L/\L.length<=63/\∀p H',Same H H'->LR H' p (L.filter fun x=>decide (x.2.h=me))->Q (.ref p) H'
def sw:Sp:=fun vs H Q _=>∃(l:Addr) (L:LT),vs=[.ref l]/\LR H l L/\L.length<=63/\(∀H',Same H H'->(∀x∈L,ja x.2.w=false)->Q .non H')/\∀H',Same H H'->∀x∈L,ja x.2.w=true->Q (.int (cg x.2)) H'
abbrev jI:Stmt:=top 56
abbrev wP:List Str:=["deed"]
theorem wo:FnScope wP ["deed"] (al jI):=⟨rfl,rfl,rfl,by decide +kernel,rfl,by decide +kernel,by decide +kernel⟩
theorem vN{f:Addr}{fd:FuncData}(F:Fun K "is_turn" "is_turn" jI f fd):FnOk P w K mg base CX0 1 f fd ["deed"] ls:=by
 refine F.okQ wo (fun vs H Q E h=>?_) (fun cdv A outer s H vs Q E hr h=>?_)
 ·obtain⟨d,x,rfl,_⟩:=h;rfl
 obtain⟨d,x,rfl,⟨c,v,e1,e2,e4,e3⟩,q⟩:=h;obtain⟨p0,r,rfl,e5⟩:=e4.head;refine⟨_,(b_1 (au (bt (FH (K:=K) rfl) (aD aI (aD aI (q_v 0) aj) aj) (aE (q_a aG (q_a aG ag)))))),?_⟩
 try rw[cxK]
 refine⟨_,rfl,d,_,_,_,rfl,rfl,SqT.of e1,rfl,p0,_,_,_,rfl,rfl,SqT.of e5,at0,sz rfl,fun p g=>?_⟩;refine⟨p,_,rfl,.inr (SqT.of ad),rfl,rfl,?_⟩;rw[HU Zh,B3];exact q _ (ah g _)
abbrev fz:Stmt:=top 57
abbrev pI:List Str:=["deed"]
theorem og:FnScope pI ["deed"] (al fz):=⟨rfl,rfl,rfl,by decide +kernel,rfl,by decide +kernel,by decide +kernel⟩
theorem nR{f:Addr}{fd:FuncData}(F:Fun K "turned_name" "turned_name" fz f fd):FnOk P w K mg base CX0 1 f fd ["deed"] su:=by
 refine F.okQ og (fun vs H Q E h=>?_) (fun cdv A outer s H vs Q E hr h=>?_)
 ·obtain⟨d,x,b,n,rfl,_⟩:=h;rfl
 obtain⟨d,x,b,n,rfl,⟨c,v,e1,e2,e4,e3⟩,et,q⟩:=h;rw[et]at e4;obtain⟨p0,rfl,e5⟩:=e4;refine⟨_,(b_1 (au (aE (q_a (aD aI (q_v 0) aj) (q_a (aD aI (aD aI (q_v 0) aj) aj) ag))))),?_⟩
 try rw[cxK]
 refine⟨_,rfl,d,_,_,_,rfl,rfl,SqT.of e1,rfl,_,rfl,d,_,_,_,rfl,rfl,SqT.of e1,rfl,p0,_,_,_,rfl,rfl,SqT.of e5,rfl,sz rfl,fun p g=>?_⟩;exact q p _ (ah g _) ad
abbrev gF:Stmt:=top 58
abbrev qG:List Str:=["ready","turns","deed"]
theorem fD:FnScope qG ["ready"] (al gF):=⟨rfl,rfl,rfl,by decide +kernel,rfl,by decide +kernel,by decide +kernel⟩
theorem pX{f:Addr}{fd:FuncData}(F:Fun K "last_turns" "last_turns" gF f fd)(j4:Fn P w K mg base 1 "is_turn" ["deed"] ls)(r6:Fn P w K mg base 1 "turned_name" ["deed"] su):FnOk P w K mg base CX0 2 f fd ["ready"] yP:=by
 refine F.okQ fD (fun vs H Q E h=>?_) (fun cdv A outer s H vs Q E hr h=>?_)
 ·obtain⟨l,L,rfl,_⟩:=h;rfl
 obtain⟨l,L,rfl,hL,hz,q⟩:=h;refine⟨_,(b_c (aH (i:=1) fD.nd vU)
   (b_c (ke PassesOwn.never rfl (dF (q_v 0)) (bc (i:=2) fD.nd) (b_1 (aU (bR (aB j4 (hr.mono (by decide)) (q_a (q_v 2) ag))) (b_1 (mn hr.units (q_v 1) (aB r6 (hr.mono (by decide)) (q_a (q_v 2) ag)) (q_v 2))) b_0)))
   (b_1 (au (q_v 1))))),?_⟩
 try rw[cxK]
 refine fun p g=>?_;have s0:=ah g (.dT []);refine⟨_,rfl,l,rfl,⟨_,SqL.of (s0 _ _ hL.1)⟩,?_⟩;refine oU (K:=K) (a:=l) (xs:=aA L) (fun i σ H'=>Same H H'/\∃o kvs,σ=[some (.ref l),some (.ref p),o]/\H' p=some (.dT kvs)/\kvs.length<=i/\TOk kvs L) ⟨s0,none,[],rfl,ad,Zb _,fun k v h=>by cases h⟩ (fun i σ H' _ z=>SqL.of (z.1 _ _ hL.1)) (fun i x σ H' hx hP D' kN=>?_) (fun σ H' hP=>?_)
 ·obtain⟨sm,o,kvs,rfl,ed,hl,hk⟩:=hP;obtain⟨y,hy,ym,rfl⟩:=dl hx;have hd:=(hL.2 y ym).same sm;have hi:i<L.length:=(Zv.mp hy).1;refine⟨_,rfl,y.1,y.2,rfl,hd,fun H1 s1=>⟨_,rfl,?_⟩⟩;cases et:isT y.2.w with
  |true =>
   obtain⟨b,n,ew⟩:∃b n,y.2.w=.trn b n:=by
    cases e:y.2.w with
    |trn b n=>exact⟨b,n,rfl⟩
    |no=>rw[e]at et;cases et
    |put m s=>rw[e]at et;cases et
    |itm b h k=>rw[e]at et;cases et
   refine aL ?_;refine⟨_,rfl,_,rfl,_,rfl,y.1,y.2,b,n,rfl,hd.same s1,ew,fun p2 H2 s2 e2=>?_⟩;have ed2:=s2 _ _ (s1 _ _ ed);refine⟨p,_,rfl,DPut.t (k:=[.inl (y.2.h:Int),.inl n]) ed2 e2 (gQ (by omega)),kN _ _ ?_⟩;refine⟨mr ((sm.trans s1).trans s2) g,_,_,rfl,ad,?_,?_⟩
   ·have:=gY kvs [.inl (y.2.h:Int),.inl n] (.ref y.1);omega
   ·intro k v hv;rw[Bh]at hv;by_cases c:k=[.inl (y.2.h:Int),.inl n]
    ·rw[HV c]at hv;cases hv;exact⟨y,ym,b,n,rfl,ew,c⟩
    ·rw[HU c]at hv;exact hk k v hv
  |false=>exact ax (kN _ _ ⟨sm.trans s1,_,kvs,rfl,s1 _ _ ed,Nat.le_succ_of_le hl,hk⟩)
 ·obtain⟨sm,o,kvs,rfl,ed,hl,hk⟩:=hP;exact⟨_,rfl,q p kvs H' sm ed hk⟩
abbrev kX:Stmt:=top 59
abbrev zr:List Str:=["deed","turns","name"]
theorem pf:FnScope zr ["deed","turns"] (al kX):=⟨rfl,rfl,rfl,by decide +kernel,rfl,by decide +kernel,by decide +kernel⟩
theorem yj{f:Addr}{fd:FuncData}(F:Fun K "is_off" "is_off" kX f fd)(a9:Fn P w K mg base 1 "name_of" ["deed"] gH)(j4:Fn P w K mg base 1 "is_turn" ["deed"] ls):FnOk P w K mg base CX0 2 f fd ["deed","turns"] uw:=by
 refine F.okQ pf (fun vs H Q E h=>?_) (fun cdv A outer s H vs Q E hr h=>?_)
 ·obtain⟨d,p,x,kvs,L,rfl,_⟩:=h;rfl
 obtain⟨d,p,x,kvs,L,rfl,hd,ep,hk,hL,q⟩:=h;refine⟨_,(b_c (aH (i:=2) pf.nd (aB a9 (hr.mono (by decide)) (q_a (q_v 0) ag)))
   (b_1 (au (bM (vW (aB j4 (hr.mono (by decide)) (q_a (q_v 0) ag))) (bM (By hr.units (q_v 2) (q_v 1)) (bQ (bt cJ (aD aI (aD aI (jw hr.units (q_v 1) (q_v 2)) aj) aj) aG))))))),?_⟩
 try rw[cxK]
 refine⟨_,rfl,d,x,rfl,hd,fun p1 H1 s1 e1=>?_⟩;refine⟨_,rfl,d,x,rfl,hd.same s1,fun H2 s2=>?_⟩;have S2:=s1.trans s2;refine⟨_,rfl,_,rfl,?_⟩;cases ht:isT x.w with
 |true=>exact ax (q _ H2 S2 fun z=>by cases z)
 |false =>
  refine aL ?_;have e2:H2 p1=some (.tup ((nmK x).map kV)):=s2 _ _ e1;refine⟨_,rfl,_,rfl,p,_,rfl,DGet.t (S2 _ _ ep) e2,_,rfl,?_⟩;cases hl:bF kvs (nmK x)with
  |none=>exact ax (q _ H2 S2 fun z=>by cases z)
  |some v =>
   refine aL ?_;obtain⟨y,ym,b,n,rfl,ew,ek⟩:=hk _ _ hl;obtain⟨c,v,d1,d2,d4,d3⟩:=(hL y ym).same S2;rw[ew]at d4;obtain⟨p3,rfl,d5⟩:=d4;have dg:DGet H2 p (.ref p1) (some (.ref y.1)):=by have:=DGet.t (S2 _ _ ep) e2;rw[hl]at this;exact this
   refine⟨_,rfl,_,rfl,p,_,rfl,dg,y.1,_,_,_,rfl,rfl,SqT.of d1,rfl,p3,_,_,_,rfl,rfl,SqT.of d5,at0,rfl,?_⟩;rw[Cf];refine q _ H2 S2 fun z=>⟨y,ym,?_,?_⟩
   ·injection ek with k1 k2;injection k1 with k1;omega
   ·cases b with
    |true=>cases z
    |false =>rw[ew];injection ek with k1 k2;injection k2 with k2 _;injection k2 with k2;rw[<-k2];rfl
abbrev iU:Stmt:=top 53
abbrev uK:List Str:=["ready","turns"]
theorem ku:FnScope uK ["ready"] (al iU):=⟨rfl,rfl,rfl,by decide +kernel,rfl,by decide +kernel,by decide +kernel⟩
theorem sZ{f:Addr}{fd:FuncData}(F:Fun K "counting" "counting" iU f fd)(v9:Fn P w K mg base 2 "last_turns" ["ready"] yP)(Hc:Fn P w K mg base 2 "is_off" ["deed","turns"] uw):FnOk P w K mg base CX0 3 f fd ["ready"] mF:=by
 refine F.okQ ku (fun vs H Q E h=>?_) (fun cdv A outer s H vs Q E hr h=>?_)
 ·obtain⟨l,L,rfl,_⟩:=h;rfl
 obtain⟨l,L,rfl,hL,hz,q⟩:=h;refine⟨_,(b_c (aH (i:=1) ku.nd (aB v9 (hr.mono (by decide)) (q_a (q_v 0) ag)))
   (b_1 (au (cW (own:=["deed"]) (⟨rfl,by decide +kernel,by decide +kernel,rfl,⟨rfl,rfl,trivial⟩⟩:CompOk _ _ [1] ["turns"]) rfl (dF (q_v 0)) (fun _ _ _ _=>bc (i:=0) (show (["deed","turns"]:List Str).Nodup by decide +kernel)) (bN (by decide)) (fun _ _ _ _=>(qZ (ci (bR (aB Hc (hr.mono (by decide)) (q_a (q_v 0) (q_a (q_v 1) ag))))))) (fun _ _ _ _=>(q_v 0)))))),?_⟩
 try rw[cxK]
 refine⟨_,rfl,l,L,rfl,hL,hz,fun p kvs H1 s1 e1 hk=>?_⟩;have hL1:=hL.same s1;refine⟨_,rfl,l,rfl,⟨_,SqL.of hL1.1⟩,?_⟩;refine dq (K:=K) (a:=l) (xs:=aA L) (fun i ys H'=>Same H1 H'/\∃M:LT,ys=aA M/\M.length<=i/\(∀x∈M,x∈L)/\∀j x,j<i->L[j]?=some x->(∀y∈L,y.2.h=x.2.h->y.2.w≠.trn false (cg x.2))->x∈M) (by unfold aA;rw[Za];omega) (fun i ys H' z=>by obtain⟨_,M,rfl,h,_⟩:=z;unfold aA;rw[Za];exact h) ⟨Same.refl _,[],rfl,Zb _,fun x hx=>by(cases hx),fun j x hj=>by omega⟩ (fun i ys H' z=>SqL.of (z.1 _ _ hL1.1)) (fun i ys H' x hx hP Y kY=>?_) (fun ys p' H' hP hp'=>?_)
 ·obtain⟨sm,M,rfl,lM,sub,inM⟩:=hP;obtain⟨y,hy,ym,rfl⟩:=dl hx;have hi:i<L.length:=(Zv.mp hy).1;refine⟨_,rfl,_,rfl,y.1,p,y.2,kvs,L,rfl,(hL1.2 y ym).same sm,sm _ _ e1,hk,fun z hz=>(hL1.2 z hz).same sm,fun b H2 s2 hb=>⟨_,rfl,?_⟩⟩;cases b with
  |true =>
   refine ax (kY _ _ ⟨sm.trans s2,M,rfl,by omega,sub,fun j x hj hx' hn=>?_⟩);by_cases c:j<i
   ·exact inM j x c hx' hn
   ·obtain rfl:j=i:=by omega
    rw[hy]at hx';cases hx';obtain⟨z,zm,z1,z2⟩:=hb rfl;exact absurd z2 (hn z zm z1)
  |false =>
   refine aL ⟨_,rfl,kY _ _ ⟨sm.trans s2,M++[y],by unfold aA;rw[Zz];rfl,by rw[Zs,ZE];omega,fun x hx'=>?_,fun j x hj hx' hn=>?_⟩⟩
   ·rcases ZD.mp hx' with h|h
    ·exact sub x h
    ·rw[Zf.mp h];exact ym
   ·by_cases c:j<i
    ·exact Yg _ (inM j x c hx' hn)
    ·obtain rfl:j=i:=by omega
     rw[hy]at hx';cases hx';exact Zq _ (Zf.mpr rfl)
 ·obtain⟨sm,M,rfl,lM,sub,inM⟩:=hP;have w3:=s1.trans (sm.trans (ah hp' (.lst (aA M))));have ll:(aA L).length=L.length:=by unfold aA;rw[Za]
  rw[ll]at lM inM;refine q p' _ M w3 ⟨ad,fun x hx=>(hL.2 x (sub x hx)).same w3⟩ ⟨sub,lM,fun x hx hn=>?_⟩;obtain⟨j,hj,rfl⟩:=List.getElem_of_mem hx;exact inM j _ hj (Zd hj) hn
abbrev hZ:Stmt:=top 83
abbrev sP:List Str:=["deeds","me"]
theorem rY:FnScope sP ["deeds","me"] (al hZ):=⟨rfl,rfl,rfl,by decide +kernel,rfl,by decide +kernel,by decide +kernel⟩
theorem rB{f:Addr}{fd:FuncData}(F:Fun K "own_deeds" "own_deeds" hZ f fd):FnOk P w K mg base CX0 1 f fd ["deeds","me"] BD:=by
 refine F.okQ rY (fun vs H Q E h=>?_) (fun cdv A outer s H vs Q E hr h=>?_)
 ·obtain⟨l,L,me,rfl,_⟩:=h;rfl
 obtain⟨l,L,me,rfl,hL,hz,q⟩:=h;refine⟨_,(b_1 (au (cW (own:=["deed"]) (⟨rfl,by decide +kernel,by decide +kernel,rfl,⟨rfl,rfl,trivial⟩⟩:CompOk _ _ [1] ["me"]) rfl (dF (q_v 0)) (fun _ _ _ _=>bc (i:=0) (show(["deed","me"]:List Str).Nodup by decide +kernel)) (bN (by decide)) (fun _ _ _ _=>(qZ (aM cJ (aD (mM (K:=K) rfl) (q_v 0) aj) (q_v 1)))) (fun _ _ _ _=>(q_v 0))))),?_⟩
 try rw[cxK]
 refine⟨_,rfl,l,rfl,⟨_,SqL.of hL.1⟩,?_⟩;refine dq (K:=K) (a:=l) (xs:=aA L) (fun i ys H'=>Same H H'/\ys=aA ((L.take i).filter fun x=>decide (x.2.h=me))) (by unfold aA;rw[Za];omega) (fun i ys H' z=>by obtain⟨_,rfl⟩:=z;unfold aA;rw[Za];exact Zy (Z5 _ _) (by rw[ZX];omega)) ⟨Same.refl _,rfl⟩ (fun i ys H' z=>SqL.of (z.1 _ _ hL.1)) (fun i ys H' x hx hP Y kY=>?_) (fun ys p' H' hP hp'=>?_)
 ·obtain⟨sm,rfl⟩:=hP;obtain⟨y,hy,ym,rfl⟩:=dl hx;obtain⟨c,v,e1,_⟩:=(hL.2 y ym).same sm;refine⟨_,rfl,y.1,_,_,_,rfl,rfl,SqT.of e1,rfl,_,rfl,rfl,_,rfl,nq (fun e=>?_) (fun e=>?_)⟩
  ·refine⟨_,rfl,kY _ _ ⟨sm,?_⟩⟩;rw[cU hy,y7,YH,HV (decide_eq_true (by omega))];unfold aA;rw[Zz];rfl
  ·refine kY _ _ ⟨sm,?_⟩;rw[cU hy,y7,YH,HU (by rw[decide_eq_false (by omega)];exact Zh),List.filter_nil,ZO]
 ·obtain⟨sm,rfl⟩:=hP;have ll:(aA L).length=L.length:=by unfold aA;rw[Za]
  rw[ll,Yv];have w3:=sm.trans (ah hp' (.lst (aA (L.filter fun x=>decide (x.2.h=me)))));exact q p' _ w3 ⟨ad,fun x hx=>(hL.2 x (ZZ.mp hx).1).same w3⟩
abbrev fv:Stmt:=top 84
abbrev pG:List Str:=["deeds","numbers"]
theorem iB:FnScope pG ["deeds"] (al fv):=⟨rfl,rfl,rfl,by decide +kernel,rfl,by decide +kernel,by decide +kernel⟩
theorem nO{f:Addr}{fd:FuncData}(F:Fun K "last_undone" "last_undone" fv f fd)(a9:Fn P w K mg base 1 "name_of" ["deed"] gH)(HQ:mg "max" = none):FnOk P w K mg base CX0 2 f fd ["deeds"] sw:=by
 refine F.okQ iB (fun vs H Q E h=>?_) (fun cdv A outer s H vs Q E hr h=>?_)
 ·obtain⟨l,L,rfl,_⟩:=h;rfl
 obtain⟨l,L,rfl,hL,hz,qn,q⟩:=h;refine⟨_,(b_c (yF (j:=1) iB.nd (own:=["deed"]) (⟨rfl,by decide +kernel,by decide +kernel,rfl,trivial⟩:CompOk _ _ [] []) rfl (dF (q_v 0)) (fun _ _ _ _=>bc (i:=0) (show (["deed"]:List Str).Nodup by decide +kernel)) (bN (by decide)) (fun _ _ _ _=>(qZ (aM (At (K:=K) rfl) (aD (mM (K:=K) rfl) (aD (mM (K:=K) rfl) (q_v 0) aj) aj) (aE (q_a aG (q_a aG (q_a aG ag))))))) (fun _ _ _ _=>(aD (mM (K:=K) rfl) (aB a9 (hr.mono (by decide)) (q_a (q_v 0) ag)) aj)))
   (b_1 (au (EM rfl HQ (q_a (q_v 1) ag))))),?_⟩
 try rw[cxK]
 refine⟨_,rfl,l,rfl,⟨_,SqL.of hL.1⟩,?_⟩;refine dq (K:=K) (a:=l) (xs:=aA L) (fun i ys H'=>Same H H'/\ys=(((L.take i).filter fun x=>ja x.2.w).map fun x=>cg x.2).map V.int) (by unfold aA;rw[Za];omega) (fun i ys H' z=>by obtain⟨_,rfl⟩:=z;rw[Za,Za];exact Zy (Z5 _ _) (by rw[ZX];omega)) ⟨Same.refl _,rfl⟩ (fun i ys H' z=>SqL.of (z.1 _ _ hL.1)) (fun i ys H' x hx hP Y kY=>?_) (fun ys p' H' hP hp'=>?_)
 ·obtain⟨sm,rfl⟩:=hP;obtain⟨y,hy,ym,rfl⟩:=dl hx;have hd:=(hL.2 y ym).same sm;obtain⟨c,v,e1,e2,e4,e3⟩:=id hd;obtain⟨p0,r,rfl,e5⟩:=e4.head;refine⟨_,rfl,y.1,_,_,_,rfl,rfl,SqT.of e1,rfl,p0,_,_,_,rfl,rfl,SqT.of e5,at0,sz rfl,fun p g=>?_⟩;have w1:=ah g (.tup [.str "off",.str "on",.str "none"]);refine⟨p,_,rfl,.inr (SqT.of ad),rfl,rfl,_,rfl,?_⟩;rw[HV rfl,DF];cases hu:ja y.2.w with
  |true =>refine aL ⟨_,rfl,y.1,y.2,rfl,hd.same w1,fun t H2 s2 et=>?_⟩;refine⟨t,_,_,_,rfl,rfl,SqT.of et,rfl,kY _ _ ⟨sm.trans (w1.trans s2),?_⟩⟩;rw[cU hy,y7,YH,HV hu,Zz,Zz];rfl
  |false =>refine ax (kY _ _ ⟨sm.trans w1,?_⟩);rw[cU hy,y7,YH,HU (by rw[hu];exact Zh),List.filter_nil,ZO]
 ·obtain⟨sm,rfl⟩:=hP;have ll:(aA L).length=L.length:=by unfold aA;rw[Za]
  rw[ll,Yv];have w3:=sm.trans (ah hp' (.lst ((((L.filter fun x=>ja x.2.w).map fun x=>cg x.2).map V.int))));refine⟨_,rfl,p',_,rfl,SqL.of ad,fun z=>qn _ w3 fun x hx=>?_,fun M hM _=>?_⟩
  ·cases hu:ja x.2.w with
   |false=>rfl
   |true =>have:cg x.2∈((L.filter fun x=>ja x.2.w).map fun x=>cg x.2):=Zt.mpr ⟨x,ZZ.mpr ⟨hx,hu⟩,rfl⟩;rw[z]at this;cases this
  ·obtain⟨x,hx,rfl⟩:=Zt.mp hM;obtain⟨h1,h2⟩:=ZZ.mp hx;exact q _ w3 x h1 h2
inductive Chn(n:Nat):LT->Prop
 |nil:Chn n []
 |snoc {C:LT} {x:Addr×Dd} (c:Chn n C) (f:Fit n x.2) (e:x.2.ns=ar n (vals (C++[x]))):Chn n (C++[x])
theorem cE(A B:LT):vals (A++B)=vals A++vals B:=by unfold vals;rw[Zz]
theorem mW(A:List Dd)(x:Dd)(i:Nat):aP (A++[x]) i=aP A i+if x.h=i then 1 else 0:=by
 unfold aP;rw[List.countP_append,List.countP_cons,List.countP_nil];by_cases c:x.h=i
 ·rw[decide_eq_true c,HV rfl,HV c];omega
 ·rw[decide_eq_false c,HU Zh,HU c];omega
theorem dU(ds:List Dd)(i:Nat):0<=aP ds i:=Int.natCast_nonneg _
theorem dY{n:Nat}{C:LT}{x:Addr×Dd}(e:x.2.ns=ar n (vals (C++[x]))){i:Nat}(hi:i<n):ai x.2.ns i=aP (vals C) i+if x.2.h=i then 1 else 0:=by rw[e,ba hi,cE];exact mW _ _ _
theorem A6{n:Nat}{C:LT}{x:Addr×Dd}(e:x.2.ns=ar n (vals (C++[x])))(f:Fit n x.2):cg x.2=aP (vals C) x.2.h+1:=by unfold cg;rw[dY e f.hd,HV rfl]
theorem ph{n:Nat}{C:LT}{x:Addr×Dd}(e:x.2.ns=ar n (vals (C++[x]))){i:Nat}(hi:i<n):aS x.2 i=aP (vals C) i:=by
 by_cases c:i=x.2.h
 ·subst c;rw[dW,dY e hi,HV rfl];omega
 ·rw[nA c,dY e hi,HU (fun z=>c z.symm)];omega
theorem Chn.fit{n:Nat}{C:LT}(c:Chn n C):∀x∈C,Fit n x.2:=by
 induction c with
 |nil=>exact fun x hx=>nomatch hx
 |snoc c f e ih =>
  intro y hy;rcases ZD.mp hy with hy|hy
  ·exact ih y hy
  ·rw[Zf.mp hy];exact f
theorem Chn.top{n:Nat}{C:LT}(c:Chn n C):∀x∈C,∀i,i<n->ai x.2.ns i<=aP (vals C) i:=by
 induction c with
 |nil=>exact fun x hx=>nomatch hx
 |@snoc C x c f e ih =>
  intro y hy i hi;rw[cE];show _<=aP (vals C++[x.2]) i;rw[mW];rcases ZD.mp hy with hy|hy
  ·have:=ih y hy i hi;split<;>omega
  ·rw[Zf.mp hy,dY e hi];omega
theorem Chn.own{n:Nat}{C:LT}(c:Chn n C):∀x∈C,1<=cg x.2/\cg x.2<=aP (vals C) x.2.h:=fun x hx=>⟨(c.fit x hx).own,c.top x hx _ (c.fit x hx).hd⟩
theorem Chn.last{n:Nat}{C:LT}(c:Chn n C):∀i,i<n->0<aP (vals C) i->∃x∈C,x.2.h=i/\cg x.2=aP (vals C) i:=by
 induction c with
 |nil=>exact fun i _ h=>absurd (show(0:Int)<0 from h) (by decide)
 |@snoc C x c f e ih =>
  intro i hi hp;have ec:aP (vals (C++[x])) i=aP (vals C) i+if x.2.h=i then 1 else 0:=by rw[cE];exact mW _ _ _
  rw[ec]at hp ⊢;by_cases q:x.2.h=i
  ·refine⟨x,Zq _ (Zf.mpr rfl),q,?_⟩;rw[A6 e f,HV q,q]
  ·rw[HU q]at hp ⊢;obtain⟨y,hy,h1,h2⟩:=ih i hi (by omega);exact⟨y,Yg _ hy,h1,by omega⟩
theorem Chn.le{n:Nat}{C:LT}(c:Chn n C){x:Addr×Dd}(e:x.2.ns=ar n (vals (C++[x]))):∀y∈C,leC y.2.ns x.2.ns:=fun y hy i hi=>by rw[(c.fit y hy).len]at hi;have:=c.top y hy i hi;rw[dY e hi];split<;>omega
theorem Chn.ch{n:Nat}{C:LT}(c:Chn n C):Ch n (vals C):=by
 induction c with
 |nil=>exact fun k hk=>absurd hk (Nat.not_lt_zero _)
 |@snoc C x c f e ih =>rw[cE];refine ih.snoc fun i hi hl=>?_;rw[ph e hi]at hl;obtain⟨y,hy,h1,h2⟩:=c.last i hi hl;exact⟨y.2,Zt.mpr ⟨y,hy,rfl⟩,h1,by rw[ph e hi];exact h2,c.le e y hy⟩
theorem Chn.sorted{n:Nat}{C:LT}(c:Chn n C):(vals C).Pairwise kLt:=by
 induction c with
 |nil=>exact .nil
 |@snoc C x c f e ih =>rw[cE];refine List.pairwise_append.mpr ⟨ih,List.pairwise_singleton _ _,fun d hd z hz=>.inl ?_⟩;obtain⟨y,hy,rfl⟩:=Zt.mp hd;rw[Zf.mp hz];refine jM (k:=x.2.h) (by rw[(c.fit y hy).len,f.len]) (c.le e y hy) (by rw[(c.fit y hy).len];exact f.hd) ?_;have:=c.top y hy _ f.hd;rw[dY e f.hd,HV rfl];omega
theorem oZ{A:List Dd}(h:A.Pairwise kLt):A.Nodup:=h.imp fun{a b} k z=>by subst z;exact ud k k
theorem pe{n:Nat}{L C M:LT}{so:Option (Addr×Dd)}(u:UN n (vals L))(p:L.Perm (C++so.toList))(c:Chn n C)(hs:∀S,so=some S->∃o,o<n/\aP (vals C) o<aS S.2 o)(rd:RDY L M):M=C:=by
 obtain⟨uM,cM,sM,oM⟩:=ER u rd;have inL:∀x∈C,x∈L:=fun x hx=>p.mem_iff.mpr (Yg _ hx);have sC:Sat n (vals L) (vals C):=fun d hd ha=>by
  obtain⟨x,hx,rfl⟩:=Zt.mp hd;rcases ZD.mp (p.mem_iff.mp hx)with h|h
  ·exact Zt.mpr ⟨x,h,rfl⟩
  ·cases so with
   |none=>cases h
   |some S =>have e:x=S:=Zf.mp h;subst e;obtain⟨o,ho,hl⟩:=hs x rfl;obtain⟨e,he,h1,h2,_⟩:=ha o ho (by have:=dU (vals C) o;omega);obtain⟨y,hy,rfl⟩:=Zt.mp he;have:=(c.own y hy).2;unfold cg at this;rw[h1]at this h2;omega
 have sub1:∀ d∈vals M,d∈vals C:=yV cM (fun d hd=>by
  obtain⟨x,hx,rfl⟩:=Zt.mp hd;exact Zt.mpr ⟨x,rd.sub x hx,rfl⟩) sC
 have sub2:∀ d∈vals C,d∈vals M:=yV c.ch (fun d hd=>by
  obtain⟨x,hx,rfl⟩:=Zt.mp hd;exact Zt.mpr ⟨x,inL x hx,rfl⟩) sM
 have ev:vals M=vals C:=yK oM c.sorted ((List.perm_ext_iff_of_nodup (oZ oM) (oZ c.sorted)).mpr fun d=>⟨sub1 d,sub2 d⟩);have el:M.length=C.length:=by
  have:=congrArg List.length ev;unfold vals at this
  rwa [Za,Za]at this
 refine List.ext_getElem el fun i h1 h2=>?_;refine DS u (rd.sub _ (ZF h1)) (inL _ (ZF h2)) ?_;have:(vals M)[i]?=(vals C)[i]?:=by rw[ev]
 unfold vals at this;rw[Zx,Zx,Zd h1,Zd h2]at this;have:M[i].2=C[i].2:=Zu this;rw[this]
theorem Chn.sum{n:Nat}{C:LT}(c:Chn n C):(ar n (vals C)).sum=(C.length:Int):=by
 induction c with
 |nil =>show(ar n []).sum=_;rw[mX];simp
 |@snoc C x c f e ih =>rw[cE,show vals [x]=[x.2]from rfl,<-im f.hd,aZ (by rw[aw];exact f.hd),yX (by rw[aw];exact f.hd),ih];simp
theorem F9:¬(("store":Str)="me"):=by decide +kernel
def hfl(p:Addr)(me:Nat):List (Str×V):=cK "me" (.int (me:Int)) (cK "store" (.ref p) [])
theorem di(p:Addr)(me:Nat):(hfl p me).lookup ("store":Str)=some (.ref p):=by unfold hfl;rw[bp,HU F9,bp,HV rfl]
theorem qX(p:Addr)(me:Nat):(hfl p me).lookup ("me":Str)=some (.int (me:Int)):=by unfold hfl;rw[bp,HV rfl]
theorem ir(p:Addr)(me:Nat){m:Str}(h1:¬m="me")(h2:¬m="store"):(hfl p me).lookup m=none:=by unfold hfl;rw[bp,HU h1,bp,HU h2];rfl
theorem xJ(p:Addr)(me:Nat):(hfl p me).lookup ("do":Str)=none:=ir p me (by decide +kernel) (by decide +kernel)
theorem gd(p:Addr)(me:Nat):(hfl p me).lookup ("hear":Str)=none:=ir p me (by decide +kernel) (by decide +kernel)
theorem Ad(p:Addr)(me:Nat):(hfl p me).lookup ("told":Str)=none:=ir p me (by decide +kernel) (by decide +kernel)
theorem xI(p:Addr)(me:Nat):(hfl p me).lookup ("clock":Str)=none:=ir p me (by decide +kernel) (by decide +kernel)
theorem jj(p:Addr)(me:Nat):(hfl p me).lookup ("ready":Str)=none:=ir p me (by decide +kernel) (by decide +kernel)
theorem Ae(p:Addr)(me:Nat):(hfl p me).lookup ("undo":Str)=none:=ir p me (by decide +kernel) (by decide +kernel)
structure HandAt(CH CS:Addr)(H:Hp)(h p d:Addr)(n me:Nat)(L:LT):Prop where
 ob:∃dx,H h=some (.ins CH dx (hfl p me))
 st:StoreAt CS H p d n L
 hm:me<n
structure TxH(K:PySem.W.Frag)(C:Addr):Prop where
 cl:Cls K C
 nS:NoAttr K C "store"
 nM:NoAttr K C "me"
theorem HandAt.kt{CH CS:Addr}{H H':Hp}{h p d:Addr}{n me:Nat}{L:LT}(x:HandAt CH CS H h p d n me L)(s:KT H H'):HandAt CH CS H' h p d n me L:=by obtain⟨⟨dx,h1⟩,h2,h3⟩:=x;exact⟨⟨dx,s _ _ h1 fun ps z=>by cases z⟩,h2.kt s,h3⟩
theorem HandAt.same{CH CS:Addr}{H H':Hp}{h p d:Addr}{n me:Nat}{L:LT}(x:HandAt CH CS H h p d n me L)(s:Same H H'):HandAt CH CS H' h p d n me L:=x.kt (.of s)
def KD(d:Addr)(H H':Hp):Prop:=∀b o,H b=some o->(∀ps,o≠.tbl ps)->b≠d->H' b=some o
theorem KD.of{d:Addr}{H H':Hp}(s:KT H H'):KD d H H':=fun b o e n _=>s b o e n
theorem KD.trans{d:Addr}{H H' H2:Hp}(s:KD d H H')(t:KD d H' H2):KD d H H2:=fun b o e n m=>t b o (s b o e n m) n m
theorem KD.ts{d:Addr}{H H':Hp}{kvs:List (List Key×V)}(s:KD d H H')(e:H d=some (.dT kvs)):TS H H':=fun a zs h=>s a _ h (fun ps z=>by cases z) fun z=>by rw[z,e]at h;cases h
abbrev LTb(T:Addr)(H:Hp):Prop:=bh fi T (ge eN) H
theorem uG{T k:Addr}{Ha Hb:Hp}{kvs:List (List Key×V)}(t:LTb T Ha)(s:SameT k Ha Hb)(e:Ha k=some (.dT kvs)):LTb T Hb:=fH t s fun f hf=>by rw[e]at hf;cases hf;exact⟨fun ps e=>(by cases e),fun c e=>(by cases e)⟩
def aX(n me:Nat)(C:LT)(w:Wh):Dd:=⟨me,aq (ar n (vals C)) me,w⟩
inductive spHInit(CH CS:Addr)(vs:List V)(H:Hp)(Q:VK)(E_:XK):Prop
 |mk (h dx:Addr) (n me:Nat) (h0:vs=[.ref h,.int (n:Int),.int (me:Int)]) (h1:H h=some (.ins CH dx [])) (n1:1<=n) (n8:n<=8) (hm:me<n)
   (q:∀p d H',H d=none->HandAt CH CS H' h p d n me []->(∀b o,H b=some o->b≠h->H' b=some o)->Q .non H'):spHInit CH CS vs H Q E_
inductive spHReady(CH CS T:Addr)(vs:List V)(H:Hp)(Q:VK)(E_:XK):Prop
 |mk (h p d:Addr) (n me:Nat) (L C:LT) (h0:vs=[.ref h]) (h1:HandAt CH CS H h p d n me L) (h2:LTb T H) (h3:∀M,RDY L M->M=C)
   (q:∀D H',KT H H'->LTb T H'->LR H' D C->H D=none->Q (.ref D) H'):spHReady CH CS T vs H Q E_
inductive spHClock(CH CS T:Addr)(vs:List V)(H:Hp)(Q:VK)(E_:XK):Prop
 |mk (h p d:Addr) (n me:Nat) (L C:LT) (h0:vs=[.ref h]) (h1:HandAt CH CS H h p d n me L) (h2:LTb T H) (h3:∀M,RDY L M->M=C)
   (q:∀c H',KT H H'->LTb T H'->H' c=some (.tup ((ar n (vals C)).map V.int))->Q (.ref c) H'):spHClock CH CS T vs H Q E_
inductive spHTold(CH CS T:Addr)(vs:List V)(H:Hp)(Q:VK)(E_:XK):Prop
 |mk (h p d c:Addr) (n me:Nat) (L C:LT) (cs:List Int) (h0:vs=[.ref h,.ref c]) (h1:HandAt CH CS H h p d n me L) (h2:LTb T H) (h3:∀M,RDY L M->M=C) (h4:H c=some (.tup (cs.map V.int))) (h5:cs.length=n)
   (q:∀D H' N,Wt L C N->KT H H'->LTb T H'->LR H' D ((C++N).filter (cH cs))->Q (.ref D) H'):spHTold CH CS T vs H Q E_
inductive spHHear(K:PySem.W.Frag)(CH CS T cT cD:Addr)(vs:List V)(H:Hp)(Q:VK)(E:XK):Prop
 |mk (h p d a:Addr) (n me:Nat) (L:LT) (e:Dd) (h0:vs=[.ref h,.ref a]) (h1:HandAt CH CS H h p d n me L) (h2:LTb T H) (h3:DR H a e) (h4:Fit n e)
   (q:(L.length<63/\(∀ x∈L,nmK x.2≠nmK e)/\∀ H',KD d H H'->LTb T H'->HandAt CH CS H' h p d n me (L++[(a,e)])->Q (.bl true) H')\/((∃ x∈L,x.2=e)/\∀ H',Same H H'->Q (.bl false) H') \/
    ((∃ x∈L,nmK x.2=nmK e/\x.2≠e)/\∀ H' t dd,Same H H'->H' t=some (.tup ((nmZ e).map V.int))->H' dd=some (.xd [("name",.ref t)])->E (.ref cT) (some dd) H')):spHHear K CH CS T cT cD vs H Q E
 |bad (h p d:Addr) (n me:Nat) (L:LT) (v:V) (h0:vs=[.ref h,v]) (h1:HandAt CH CS H h p d n me L) (h3:DeedR K H (n:Int) v false) (q:∀H',Same H H'->E (.ref cD) none H'):spHHear K CH CS T cT cD vs H Q E
inductive DoR(K:PySem.W.Frag)(CH CS T cT cD:Addr)(H:Hp)(h p d:Addr)(n me:Nat)(L C:LT)(v:V)(Q:VK)(E:XK):Prop
 |new (w:Wh) (hw:WR H v w) (f:Fit n (aX n me C w)) (ll:L.length<63) (hn:∀x∈L,nmK x.2≠nmK (aX n me C w)) (q:∀a H',KD d H H'->LTb T H'->HandAt CH CS H' h p d n me (L++[(a,aX n me C w)])->Q (.ref a) H'):DoR K CH CS T cT cD H h p d n me L C v Q E
 |twin (w:Wh) (hw:WR H v w) (f:Fit n (aX n me C w)) (hx:∃x∈L,nmK x.2=nmK (aX n me C w)/\x.2≠aX n me C w) (q:∀t dd H',KT H H'->LTb T H'->H' t=some (.tup ((nmZ (aX n me C w)).map V.int))->H' dd=some (.xd [("name",.ref t)])->E (.ref cT) (some dd) H'):DoR K CH CS T cT cD H h p d n me L C v Q E
 |bad (hb:∀H',KT H H'->WhatR K H' (me:Int) (aq (ar n (vals C)) me) v false) (q:∀H',KT H H'->LTb T H'->E (.ref cD) none H'):DoR K CH CS T cT cD H h p d n me L C v Q E
inductive spHDo(K:PySem.W.Frag)(CH CS T cT cD:Addr)(vs:List V)(H:Hp)(Q:VK)(E:XK):Prop
 |mk (h p d:Addr) (n me:Nat) (L C:LT) (v:V) (h0:vs=[.ref h,v]) (h1:HandAt CH CS H h p d n me L) (h2:LTb T H) (h3:∀M,RDY L M->M=C) (r:DoR K CH CS T cT cD H h p d n me L C v Q E):spHDo K CH CS T cT cD vs H Q E
abbrev hO:Stmt:=bY (top 82) 0
abbrev sI:List Str:=["self","hands","me"]
theorem rQ:FnScope sI ["self","hands","me"] (al hO):=⟨rfl,rfl,rfl,by decide +kernel,rfl,by decide +kernel,by decide +kernel⟩
theorem rn{f CH CS:Addr}{fd:FuncData}(F:Fun K "__init__" "Hand.__init__" hO f fd)(X:TxH K CH)(Hd:MkFn P w K mg base 1 CS "Store" ["self","hands"] (yO CS)):FnOk P w K mg base CX0 3 f fd ["self","hands","me"] (spHInit CH CS):=by
 refine F.okQ rQ (fun vs H Q E h=>?_) (fun cdv A outer s H vs Q E hr h=>?_)
 ·obtain⟨h,dx,n,me,rfl,_⟩:=h;rfl
 obtain⟨h,dx,n,me,rfl,hh,n1,n8,hm,q⟩:=h;refine⟨_,(b_c (qo (q_v 0) (yy Hd (hr.mono (by decide)) (q_a (q_v 1) ag)))
   (b_1 (qo (q_v 0) (q_v 2)))),?_⟩
 try rw[cxK]
 refine⟨_,rfl,?_⟩;intro x dx' hx hdx ne;have hhx:h≠x:=am hh hx;have hhd:h≠dx':=am hh hdx;have kp0:∀b o,H b=some o->upd (upd H dx' (.own x)) x (.ins CS dx' []) b=some o:=fun b o e=>by rw[af (am e hx),af (am e hdx)];exact e
 refine⟨x,dx',n,rfl,ad,n1,n8,fun d H2 fd1 St1 kp1=>⟨rfl,?_⟩⟩;have g2:H2 h=some (.ins CH dx []):=kp1 _ _ (kp0 _ _ hh) hhx;have nd:h≠d:=am (kp0 _ _ hh) fd1;have d0:H d=none:=by
  cases e:H d with
  |none=>rfl
  |some o =>rw[kp0 _ _ e]at fd1;cases fd1
 refine⟨_,rfl,h,CH,dx,[],rfl,g2,X.cl,X.nS,(by show 0<1000;decide),?_⟩;refine⟨_,rfl,_,rfl,h,CH,dx,_,rfl,ad,X.cl,X.nM,(by show 1<1000;decide),?_⟩;obtain⟨⟨ex,s1⟩,s2,s3,s4,s5,s6,s7⟩:=St1;refine q x d _ d0 ⟨⟨dx,ad⟩,⟨⟨ex,?_⟩,?_,fun y hy=>(nomatch hy),s4,s5,s6,s7⟩,hm⟩ fun b o e hb=>?_
 ·rw[af hhx.symm,af hhx.symm];exact s1
 ·rw[af nd.symm,af nd.symm];exact s2
 ·rw[af hb,af hb];exact kp1 _ _ (kp0 _ _ e) (am e hx)
abbrev gl:Stmt:=bY (top 82) 4
abbrev qz:List Str:=["self"]
theorem pY:FnScope qz ["self"] (al gl):=⟨rfl,rfl,rfl,by decide +kernel,rfl,by decide +kernel,by decide +kernel⟩
theorem pL{f CH CS T:Addr}{fd:FuncData}(F:Fun K "clock" "Hand.clock" gl f fd)(X:TxH K CH)(u7:MFn P w K mg base 7 CS "clock" ["self"] (lq CS T)):FnOk P w K mg base CX0 8 f fd ["self"] (spHClock CH CS T):=by
 refine F.okQ pY (fun vs H Q E h=>?_) (fun cdv A outer s H vs Q E hr h=>?_)
 ·obtain⟨h,p,d,n,me,L,C,rfl,_⟩:=h;rfl
 obtain⟨h,p,d,n,me,L,C,rfl,hA,tab,hC,q⟩:=h;obtain⟨⟨dx,h1⟩,S,hm⟩:=id hA;obtain⟨⟨ex,h2⟩,_⟩:=id S;refine⟨_,(b_1 (au (cO u7 (hr.mono (by decide)) (bP (q_v 0))))),?_⟩
 try rw[cxK]
 refine⟨_,rfl,h,CH,dx,_,_,rfl,h1,X.cl,X.nS,di _ _,p,ex,_,rfl,h2,rm _ _,p,d,n,L,rfl,S,tab,fun c H1 M rd sT tab1 ec=>?_⟩;rw[hC M rd]at ec;exact q c H1 (KT.tab tab sT) tab1 ec
abbrev gq:Stmt:=bY (top 82) 5
abbrev qA:List Str:=["self"]
theorem pZ:FnScope qA ["self"] (al gq):=⟨rfl,rfl,rfl,by decide +kernel,rfl,by decide +kernel,by decide +kernel⟩
theorem pP{f CH CS T:Addr}{fd:FuncData}(F:Fun K "ready" "Hand.ready" gq f fd)(X:TxH K CH)(d6:MFn P w K mg base 6 CS "ready" ["self"] (gI CS T)):FnOk P w K mg base CX0 7 f fd ["self"] (spHReady CH CS T):=by
 refine F.okQ pZ (fun vs H Q E h=>?_) (fun cdv A outer s H vs Q E hr h=>?_)
 ·obtain⟨h,p,d,n,me,L,C,rfl,_⟩:=h;rfl
 obtain⟨h,p,d,n,me,L,C,rfl,hA,tab,hC,q⟩:=h;obtain⟨⟨dx,h1⟩,S,hm⟩:=id hA;obtain⟨⟨ex,h2⟩,_⟩:=id S;refine⟨_,(b_1 (au (cO d6 (hr.mono (by decide)) (bP (q_v 0))))),?_⟩
 try rw[cxK]
 refine⟨_,rfl,h,CH,dx,_,_,rfl,h1,X.cl,X.nS,di _ _,p,ex,_,rfl,h2,iP _ _,p,d,n,L,rfl,S,tab,fun D H1 M rd sT tab1 eD nD=>?_⟩;have e:=hC M rd;subst e;have kt:=KT.tab tab sT;exact q D H1 kt tab1 ⟨eD,fun x hx=>(S.dr x (rd.sub x hx)).ts kt.ts⟩ nD
abbrev hU:Stmt:=bY (top 82) 3
abbrev sJ:List Str:=["self","clock"]
theorem rR:FnScope sJ ["self","clock"] (al hU):=⟨rfl,rfl,rfl,by decide +kernel,rfl,by decide +kernel,by decide +kernel⟩
theorem rp{f CH CS T:Addr}{fd:FuncData}(F:Fun K "told" "Hand.told" hU f fd)(X:TxH K CH)(HH:MFn P w K mg base 8 CS "told" ["self","clock"] (yR CS T)):FnOk P w K mg base CX0 9 f fd ["self","clock"] (spHTold CH CS T):=by
 refine F.okQ rR (fun vs H Q E h=>?_) (fun cdv A outer s H vs Q E hr h=>?_)
 ·obtain⟨h,p,d,c,n,me,L,C,cs,rfl,_⟩:=h;rfl
 obtain⟨h,p,d,c,n,me,L,C,cs,rfl,hA,tab,hC,ec,lc,q⟩:=h;obtain⟨⟨dx,h1⟩,S,hm⟩:=id hA;obtain⟨⟨ex,h2⟩,_⟩:=id S;refine⟨_,(b_1 (au (iy HH (hr.mono (by decide)) (bP (q_v 0)) (q_a (q_v 1) ag)))),?_⟩
 try rw[cxK]
 refine⟨_,rfl,h,CH,dx,_,_,rfl,h1,X.cl,X.nS,di _ _,p,ex,_,rfl,h2,Cc _ _,_,rfl,p,d,c,n,L,cs,rfl,S,tab,ec,lc,fun D H1 M M' N rd rd' wt sT tab1 eD nD=>?_⟩;have e:=hC M rd;have e':=hC M' rd';subst e;subst e';have kt:=KT.tab tab sT;refine q D H1 N wt kt tab1 ⟨eD,fun x hx=>(S.dr x ?_).ts kt.ts⟩;rcases ZD.mp (ZZ.mp hx).1 with h|h
 ·exact rd.sub x h
 ·exact wt.sub x h
abbrev hJ:Stmt:=bY (top 82) 2
abbrev sH:List Str:=["self","deed"]
theorem rP:FnScope sH ["self","deed"] (al hJ):=⟨rfl,rfl,rfl,by decide +kernel,rfl,by decide +kernel,by decide +kernel⟩
theorem pO{f CH CS T cT cD:Addr}{fd:FuncData}(F:Fun K "hear" "Hand.hear" hJ f fd)(X:TxH K CH)(n6:MFnX P w K mg base 8 CS "hear" ["self","deed"] (oh K CS cT cD)):FnOk P w K mg base (CXr P w) 9 f fd ["self","deed"] (spHHear K CH CS T cT cD):=by
 refine F.okX rP (fun vs H Q E h=>?_) (fun cdv A outer s H vs Q E hr h=>?_)
 ·rcases h with⟨h,p,d,a,n,me,L,e,rfl,_⟩|⟨h,p,d,n,me,L,v,rfl,_⟩<;>rfl
 rcases h with⟨h,p,d,a,n,me,L,e,rfl,hA,tab,hd,ft,q⟩|⟨h,p,d,n,me,L,v,rfl,hA,hb,q⟩
 ·obtain⟨⟨dx,h1⟩,S,hm⟩:=id hA;obtain⟨⟨ex,h2⟩,_⟩:=id S;refine⟨_,(b_1 (au (jZ n6 (qm cC) (hr.mono (by decide)) (bP (q_v 0)) (q_a (q_v 1) ag)))),?_⟩
  try rw[cxK]
  refine⟨_,rfl,h,CH,dx,_,_,rfl,h1,X.cl,X.nS,di _ _,p,ex,_,rfl,h2,nE _ _,_,rfl,.inl ⟨p,d,a,n,L,e,rfl,S,hd,ft,?_⟩⟩;rcases q with⟨ll,hn,q⟩|⟨hx,q⟩|⟨hx,q⟩
  ·refine .inl ⟨ll,hn,fun H1 s1 S1=>q H1 (fun b o e n m=>s1 b o e m) (uG tab s1 S.dc) ⟨⟨dx,s1 _ _ h1 fun z=>?_⟩,S1,hm⟩⟩;rw[z,S.dc]at h1;cases h1
  ·exact .inr (.inl ⟨hx,q⟩)
  ·exact .inr (.inr ⟨hx,q⟩)
 ·obtain⟨⟨dx,h1⟩,S,hm⟩:=id hA;obtain⟨⟨ex,h2⟩,_⟩:=id S;refine⟨_,(b_1 (au (jZ n6 (qm cC) (hr.mono (by decide)) (bP (q_v 0)) (q_a (q_v 1) ag)))),?_⟩
  try rw[cxK]
  exact⟨_,rfl,h,CH,dx,_,_,rfl,h1,X.cl,X.nS,di _ _,p,ex,_,rfl,h2,nE _ _,_,rfl,.inr ⟨p,d,v,n,L,rfl,S,hb,q⟩⟩
abbrev jA:Stmt:=bY (top 82) 1
abbrev wH:List Str:=["self","what","deed"]
theorem mt:FnScope wH ["self","what"] (al jA):=⟨rfl,rfl,rfl,by decide +kernel,rfl,by decide +kernel,by decide +kernel⟩
theorem sX{f CH CS T cT cD:Addr}{fd:FuncData}(F:Fun K "do" "Hand.do" jA f fd)(X:TxH K CH)(u7:MFn P w K mg base 7 CS "clock" ["self"] (lq CS T))(k8:Fn P w K mg base 1 "raised" ["clock","hand"] lA)(n6:MFnX P w K mg base 8 CS "hear" ["self","deed"] (oh K CS cT cD)):FnOk P w K mg base (CXr P w) 9 f fd ["self","what"] (spHDo K CH CS T cT cD):=by
 refine F.okX mt (fun vs H Q E h=>?_) (fun cdv A outer s H vs Q E hr h=>?_)
 ·obtain⟨h,p,d,n,me,L,C,v,rfl,_⟩:=h;rfl
 obtain⟨h,p,d,n,me,L,C,v,rfl,hA,tab,hC,r⟩:=h;obtain⟨⟨dx,h1⟩,S,hm⟩:=id hA;obtain⟨⟨ex,h2⟩,_⟩:=id S;have n8:=S.n8;refine⟨_,(b_c (aH (i:=2) mt.nd (aE (q_a (bP (q_v 0)) (q_a (aB k8 (hr.mono (by decide)) (q_a (cO u7 (hr.mono (by decide)) (bP (q_v 0))) (q_a (bP (q_v 0)) ag))) (q_a (q_v 1) ag)))))
   (b_c (mo (jZ n6 (qm cC) (hr.mono (by decide)) (bP (q_v 0)) (q_a (q_v 2) ag)))
   (b_1 (au (q_v 2))))),?_⟩
 try rw[cxK]
 refine⟨_,rfl,h,CH,dx,_,_,rfl,h1,X.cl,X.nM,qX _ _,_,rfl,h,CH,dx,_,_,rfl,h1,X.cl,X.nS,di _ _,p,ex,_,rfl,h2,rm _ _,p,d,n,L,rfl,S,tab,fun c H1 M rd sT tab1 ec=>?_⟩;have e:=hC M rd;subst e;have k1:=KT.tab tab sT;have A1:=hA.kt k1;obtain⟨⟨dx1,g1⟩,S1,_⟩:=id A1;refine⟨_,rfl,h,CH,dx1,_,_,rfl,g1,X.cl,X.nM,qX _ _,c,_,(me:Int),rfl,ec,by omega,by rw[aw];omega,by rw[aw];omega,fun c2 H2 s2 ec2=>?_⟩;rw[Zr]at ec2;refine⟨_,rfl,sz rfl,fun a ga=>?_⟩;have w3:=s2.trans (ah ga (.tup [.int (me:Int),.ref c2,v]));have ea:upd H2 a (.tup [.int (me:Int),.ref c2,v]) a=some (.tup [.int (me:Int),.ref c2,v]):=ad;have ec3:=(ah ga (.tup [.int (me:Int),.ref c2,v])) _ _ ec2;generalize upd H2 a (.tup [.int (me:Int),.ref c2,v])=H3 at w3 ea ec3 ⊢;have k3:=k1.trans (KT.of w3);have tab3:=aC tab1 w3;have A3:=A1.same w3;obtain⟨⟨dx3,g3⟩,S3,_⟩:=id A3;obtain⟨⟨ex3,g4⟩,_⟩:=id S3;have rl:(aq (ar n (vals M)) me).length=n:=by rw[aZ (by rw[aw];exact hm),YN,aw]
 have dr:∀{w:Wh},WR H v w->DR H3 a (aX n me M w):=fun{w} hw=>⟨c2,v,ea,ec3,hw.ts k3.ts,by show me<(aq (ar n (vals M)) me).length;omega,by show(aq (ar n (vals M)) me).length<=8;omega⟩
 refine⟨_,rfl,h,CH,dx3,_,_,rfl,g3,X.cl,X.nS,di _ _,p,ex3,_,rfl,g4,nE _ _,_,rfl,?_⟩;cases r with
 |new w hw f ll hn q =>
  refine .inl ⟨p,d,a,n,L,_,rfl,S3,dr hw,f,.inl ⟨ll,hn,fun H4 s4 S4=>⟨_,rfl,q a H4 ?_ (uG tab3 s4 S3.dc) ⟨⟨dx3,s4 _ _ g3 fun z=>?_⟩,S4,hm⟩⟩⟩⟩
  ·exact fun b o e n m=>s4 b o (k3 b o e n) m
  ·rw[z,S3.dc]at g3;cases g3
 |twin w hw f hx q=>exact .inl ⟨p,d,a,n,L,_,rfl,S3,dr hw,f,.inr (.inr ⟨hx,fun H4 t dd s4 et ed=>q t dd H4 (k3.trans (KT.of s4)) (aC tab3 s4) et ed⟩)⟩
 |bad hb q =>
  have own1:1<=ai (aq (ar n (vals M)) me) me:=by rw[aZ (by rw[aw];exact hm),fY (by rw[aw];exact hm),HV rfl,ba hm];have:=dU (vals M) me;omega
  have nn:∀z∈aq (ar n (vals M)) me,0<=z:=fun z hz=>by
   rw[aZ (by rw[aw];exact hm)]at hz;rcases List.mem_or_eq_of_mem_set hz with h|h
   ·unfold ar at h;obtain⟨i,_,rfl⟩:=Zt.mp h;exact dU _ _
   ·rw[h,ba hm];have:=dU (vals M) me;omega
  refine .inr ⟨p,d,.ref a,n,L,rfl,S3,?_,fun H4 s4=>q H4 (k3.trans (KT.of s4)) (aC tab3 s4)⟩;exact .is ea (by omega) (by omega) ec3 (by rw[rl]) nn (by omega) (by rw[Zr];exact own1) (hb H3 k3)
theorem eS{t u:L2.TS}{D:Ends}{σ:St}{H:Hp}(J:St->Hp->Prop)(h1:∀R:Ends,(∀σ' H',J σ' H'->R.nx σ' H')->t R σ H)(h2:∀σ' H',J σ' H'->u D σ' H'):wA t u D σ H:=h1 { D with nx:=u D } h2
def nmN(n me:Nat)(C:LT):List Int:=[(me:Int),aP (vals C) me+1]
theorem cZ{n me:Nat}{C:LT}(hm:me<n):ai (aq (ar n (vals C)) me) me=aP (vals C) me+1:=by rw[aZ (by rw[aw];exact hm),fY (by rw[aw];exact hm),HV rfl,ba hm]
theorem kP{n me i:Nat}{C:LT}(hm:me<n)(hi:i<n)(h:i≠me):ai (aq (ar n (vals C)) me) i=aP (vals C) i:=by rw[aZ (by rw[aw];exact hm),fY (by rw[aw];exact hm),HU h,ba hi]
theorem mf{n me:Nat}{C:LT}{w:Wh}(hm:me<n):nmZ (aX n me C w)=nmN n me C:=by show[(me:Int),ai (aq (ar n (vals C)) me) me]=_;rw[cZ hm];rfl
theorem dX{n me:Nat}{C:LT}(hm:me<n):(aq (ar n (vals C)) me).length=n:=by rw[aZ (by rw[aw];exact hm),YN,aw]
theorem fU{n me:Nat}{C:LT}{w:Wh}(hm:me<n)(wf:qI me (aq (ar n (vals C)) me) w):Fit n (aX n me C w):=by
 have:=dU (vals C) me;refine⟨dX hm,hm,fun z hz=>?_,?_,wf⟩
 ·have hz:z∈aq (ar n (vals C)) me:=hz;rw[aZ (by rw[aw];exact hm)]at hz;rcases List.mem_or_eq_of_mem_set hz with h|h
  ·unfold ar at h;obtain⟨i,_,rfl⟩:=Zt.mp h;exact dU _ _
  ·rw[h,ba hm];omega
 ·show 1<=ai (aq (ar n (vals C)) me) me;rw[cZ hm];omega
def Stk(n me:Nat)(L C:LT):Prop:=∃x∈L,x.2.h=me/\cg x.2=aP (vals C) me+1/\x.2.ns≠aq (ar n (vals C)) me
theorem Stk.twin{n me:Nat}{L C:LT}(hm:me<n)(s:Stk n me L C)(w:Wh):∃x∈L,nmK x.2=nmK (aX n me C w)/\x.2≠aX n me C w:=by obtain⟨x,hx,h1,h2,h3⟩:=s;refine⟨x,hx,Bt.mp ?_,fun z=>h3 (by rw[z];rfl)⟩;rw[mf hm];unfold nmZ nmN;unfold cg at h2;rw[h1]at h2 ⊢;rw[h2]
def Cnts(me:Nat)(C:LT):Prop:=∃x∈C,x.2.h=me/\ja x.2.w=true/\∀y∈C,y.2.h=me->y.2.w≠.trn false (cg x.2)
inductive spHUndo(CH CS T cT:Addr)(vs:List V)(H:Hp)(Q:VK)(E:XK):Prop
 |mk (h p d:Addr) (n me:Nat) (L C:LT) (h0:vs=[.ref h]) (h1:HandAt CH CS H h p d n me L) (h2:LTb T H) (h3:∀M,RDY L M->M=C) (ch:Chn n C) (lC:C.length<=63) (hs:Stk n me L C)
   (qn:¬Cnts me C->∀H',KT H H'->LTb T H'->Q .non H') (qt:∀t dd H',KT H H'->LTb T H'->H' t=some (.tup ((nmN n me C).map V.int))->H' dd=some (.xd [("name",.ref t)])->E (.ref cT) (some dd) H'):spHUndo CH CS T cT vs H Q E
abbrev hV:Stmt:=bY (top 82) 7
abbrev sK:List Str:=["self","number"]
theorem jL:FnScope sK ["self"] (al hV):=⟨rfl,rfl,rfl,by decide +kernel,rfl,by decide +kernel,by decide +kernel⟩
theorem pQ{f CH CS T cT cD:Addr}{fd:FuncData}(F:Fun K "undo" "Hand.undo" hV f fd)(X:TxH K CH)(i4:MFn P w K mg base 7 CH "ready" ["self"] (spHReady CH CS T))(GS:Fn P w K mg base 3 "counting" ["ready"] mF)(GH:Fn P w K mg base 1 "own_deeds" ["deeds","me"] BD)(r9:Fn P w K mg base 2 "last_undone" ["deeds"] sw)(GN:MFnX P w K mg base 9 CH "do" ["self","what"] (spHDo K CH CS T cT cD)):FnOk P w K mg base (CXr P w) 10 f fd ["self"] (spHUndo CH CS T cT):=by
 refine F.okX jL (fun vs H Q E h=>?_) (fun cdv A outer s H vs Q E hr h=>?_)
 ·obtain⟨h,p,d,n,me,L,C,rfl,_⟩:=h;rfl
 obtain⟨h,p,d,n,me,L,C,rfl,hA,tab,hC,ch,lC,hs,qn,qt⟩:=h;obtain⟨⟨dx,h1⟩,S,hm⟩:=id hA;refine⟨_,(b_c (aH (i:=1) jL.nd (aB r9 (hr.mono (by decide)) (q_a (aB GH (hr.mono (by decide)) (q_a (aB GS (hr.mono (by decide)) (q_a (cO i4 (hr.mono (by decide)) (q_v 0)) ag)) (q_a (bP (q_v 0)) ag))) ag)))
   (b_1 (au (EL (aM mi (q_v 1) bA) bA (jZ GN (qm cC) (hr.mono (by decide)) (q_v 0) (q_a (aE (q_a aG (q_a (q_v 1) ag))) ag)))))),?_⟩
 try rw[cxK]
 refine bu fun R0 hR0=>?_;refine⟨_,rfl,h,dx,_,rfl,h1,jj _ _,h,p,d,n,me,L,C,rfl,hA,tab,hC,fun D H1 k1 tab1 lr nD=>?_⟩;refine⟨D,C,rfl,lr,lC,fun p2 H2 M s2 lr2 kept=>?_⟩;have k2:=k1.trans (KT.of s2);have A2:=hA.kt k2;have tab2:=aC tab1 s2;obtain⟨⟨dx2,g2⟩,_⟩:=id A2;have lM:M.length<=63:=Zy kept.2.1 lC;refine⟨_,rfl,h,CH,dx2,_,_,rfl,g2,X.cl,X.nM,qX _ _,p2,M,me,rfl,lr2,lM,fun p3 H3 s3 lr3=>?_⟩;refine⟨p3,_,rfl,lr3,Zy (Z5 _ _) lM,fun H4 s4 hu=>hR0 _ _ ?_,fun H4 s4 x hx hu=>hR0 _ _ ?_⟩
 ·have s24:=s3.trans s4;refine⟨_,rfl,rfl,_,rfl,iM rfl (qn (fun hz9=>?_) H4 (k2.trans (KT.of s24)) (aC tab2 s24))⟩;obtain⟨x,hx,e1,e2,e3⟩:=hz9;have:=hu x (ZZ.mpr ⟨kept.2.2 x hx fun y hy e=>e3 y hy (by rw[e,e1]),decide_eq_true e1⟩);rw[e2]at this;cases this
 ·have s24:=s3.trans s4;have A4:=A2.same s24;obtain⟨⟨dx4,g4⟩,S4,_⟩:=id A4;have k4:=k2.trans (KT.of s24);have tab4:=aC tab2 s24;obtain⟨hx1,hx2⟩:=ZZ.mp hx;have hxC:=kept.1 x hx1;have eh:x.2.h=me:=ZS hx2;obtain⟨o1,o2⟩:=ch.own x hxC;rw[eh]at o2;refine⟨_,rfl,rfl,_,rfl,lU (by intro z;cases z) ?_⟩;refine⟨_,rfl,h,dx4,_,rfl,g4,xJ _ _,_,rfl,sz rfl,fun t gt=>?_⟩;have wt:=ah gt (.tup [.str "off",.int (cg x.2)]);refine⟨h,p,d,n,me,L,C,_,rfl,A4.same wt,aC tab4 wt,hC,.twin (.trn false (cg x.2)) ⟨t,rfl,ad⟩ (fU hm ⟨o1,?_⟩) (hs.twin hm _) fun t2 dd H5 k5 tab5 et ed=>?_⟩
  ·rw[cZ hm];omega
  ·rw[mf hm]at et;exact qt t2 dd H5 (k4.trans ((KT.of wt).trans k5)) tab5 et ed
def tlQ(Q:VK):VK:=fun r H'=>∀t H'',Same H' H''->H'' t=some (.tup [.str "done",r])->Q (.ref t) H''
def tlE(cT cD:Addr)(Q:VK):XK:=fun c o H'=>(c=.ref cT/\∃dd v,o=some dd/\H' dd=some (.xd [("name",v)])/\∀t H'',Same H' H''->H'' t=some (.tup [.str "twin",v])->Q (.ref t) H'')\/(c=.ref cD/\o=none/\∀t H'',Same H' H''->H'' t=some (.tup [.str "no deed",.non])->Q (.ref t) H'')
section
variable{CH CS T cT cD:Addr}{vs:List V}{H:Hp}{Q Q':VK}{E E':XK}
theorem spHDo.mono(q:∀v H',Q v H'->Q' v H')(e:∀c o H',E c o H'->E' c o H')(x:spHDo K CH CS T cT cD vs H Q E):spHDo K CH CS T cT cD vs H Q' E':=by
 obtain⟨h,p,d,n,me,L,C,v,h0,h1,h2,h3,r⟩:=x;refine⟨h,p,d,n,me,L,C,v,h0,h1,h2,h3,?_⟩;cases r with
 |new w hw f ll hn k=>exact .new w hw f ll hn fun a H' x y z=>q _ _ (k a H' x y z)
 |twin w hw f hx k=>exact .twin w hw f hx fun t dd H' x y z u=>e _ _ _ (k t dd H' x y z u)
 |bad hb k=>exact .bad hb fun H' x y=>e _ _ _ (k H' x y)
theorem spHHear.mono(q:∀v H',Q v H'->Q' v H')(e:∀c o H',E c o H'->E' c o H')(x:spHHear K CH CS T cT cD vs H Q E):spHHear K CH CS T cT cD vs H Q' E':=by
 cases x with
 |mk h p d a n me L e0 h0 h1 h2 h3 h4 k =>
  refine .mk h p d a n me L e0 h0 h1 h2 h3 h4 ?_;rcases k with⟨k1,k2,k⟩|⟨k1,k⟩|⟨k1,k⟩
  ·exact .inl ⟨k1,k2,fun H' x y z=>q _ _ (k H' x y z)⟩
  ·exact .inr (.inl ⟨k1,fun H' x=>q _ _ (k H' x)⟩)
  ·exact .inr (.inr ⟨k1,fun H' t dd x y z=>e _ _ _ (k H' t dd x y z)⟩)
 |bad h p d n me L v h0 h1 h3 k=>exact .bad h p d n me L v h0 h1 h3 fun H' x=>e _ _ _ (k H' x)
theorem spHUndo.mono(q:∀v H',Q v H'->Q' v H')(e:∀c o H',E c o H'->E' c o H')(x:spHUndo CH CS T cT vs H Q E):spHUndo CH CS T cT vs H Q' E':=by obtain⟨h,p,d,n,me,L,C,h0,h1,h2,h3,ch,lC,hs,qn,qt⟩:=x;exact⟨h,p,d,n,me,L,C,h0,h1,h2,h3,ch,lC,hs,fun nc H' x y=>q _ _ (qn nc H' x y),fun t dd H' x y z u=>e _ _ _ (qt t dd H' x y z u)⟩
end
structure ErH(K:PySem.W.Frag)(cL cT cD:Addr)(bT bD:List Value):Prop where
 eT:ExC K cT bT
 eD:ExC K cD bD
 hT:(Value.ref cT::bT).contains (.ref cL)=true
 hD:(Value.ref cD::bD).contains (.ref cL)=true
 kT:ExK K cT
 kD:ExK K cD
 dT:PySem.W.hasDictIn K cT=true
 aT:NoAttr K cT "name"
 tt:PySem.W.kitOne K (.ref cT) (.ref cT)=some true
 dt:PySem.W.kitOne K (.ref cD) (.ref cT)=some false
 dd:PySem.W.kitOne K (.ref cD) (.ref cD)=some true
 nt:PySem.W.kitOne K (.type "NoneType") (.ref cT)=some false
def A8(K:PySem.W.Frag)(CH CS T cT cD:Addr):Sp:=fun vs H Q _=>∃(h p d:Addr) (n me:Nat) (L:LT) (way:Int) (v:V),vs=[.ref h,.int way,v]/\HandAt CH CS H h p d n me L /\
 ((way=0/\spHDo K CH CS T cT cD [.ref h,v] H (tlQ Q) (tlE cT cD Q))\/(way=1/\spHHear K CH CS T cT cD [.ref h,v] H (tlQ Q) (tlE cT cD Q))\/(way=2/\spHUndo CH CS T cT [.ref h] H (tlQ Q) (tlE cT cD Q)))
abbrev rN:Stmt:=top 90
abbrev Dj:List Str:=["_law_hand","_law_way","_law_thing","_law_wrong","_law_found","e"]
theorem fW:FnScope Dj ["_law_hand","_law_way","_law_thing"] (al rN):=⟨rfl,rfl,rfl,by decide +kernel,rfl,by decide +kernel,by decide +kernel⟩
theorem Ci{f CH CS T cL cT cD:Addr}{fd:FuncData}{bL bT bD:List Value}(F:Fun K "_law_told" "_law_told" rN f fd)(GN:MFnX P w K mg base 9 CH "do" ["self","what"] (spHDo K CH CS T cT cD))(GT:MFnX P w K mg base 9 CH "hear" ["self","deed"] (spHHear K CH CS T cT cD))(He:MFnX P w K mg base 10 CH "undo" ["self"] (spHUndo CH CS T cT))(R:ErH K cL cT cD bT bD)(HI:ExC K cL bL)(GI:mg "LimbError" = some (.ref cL))(v8:mg "Twin" = some (.ref cT))(j2:mg "NoDeed" = some (.ref cD))(a6:mg "isinstance" = none)(G6:mg "int" = none):FnOk P w K mg base CX0 11 f fd ["_law_hand","_law_way","_law_thing"] (A8 K CH CS T cT cD):=by
 refine F.okQ fW (fun vs H Q E h=>?_) (fun cdv A outer s H vs Q E hr h=>?_)
 ·obtain⟨h,p,d,n,me,L,way,v,rfl,_⟩:=h;rfl
 obtain⟨h,p,d,n,me,L,way,v,rfl,hA,hw⟩:=h;obtain⟨⟨dx,h1⟩,S,hm⟩:=id hA;refine⟨_,(b_c (aH (i:=3) fW.nd bA)
   (b_c (aH (i:=4) fW.nd bA)
   (b_c (EV rfl rfl (E1 (i:=4) fW.nd (Ff (aM cJ (q_v 1) aj) (zq GN (hr.mono (by decide)) (q_v 0) (q_a (q_v 2) ag)) (Ff (aM cJ (q_v 1) aj) (zq GT (hr.mono (by decide)) (q_v 0) (q_a (q_v 2) ag)) (C8 He (hr.mono (by decide)) (q_v 0))))) (Fs (i:=5) fW.nd HI GI (fun _=>(b_1 (aH (i:=3) fW.nd (q_v 5))))))
   (b_c (aU (bR (q_B lF a6 aJ (q_a (q_v 3) (q_a (vV v8) ag)))) (b_1 (au (aE (q_a aG (q_a (EJ (q_v 3)) ag))))) b_0)
   (b_c (aU (aM yg (q_v 3) bA) (b_1 (au (aE (q_a (aD bZ (fK (q_a aG (q_a aG ag))) (jv Fi G6 qK (q_a (q_B lF a6 aJ (q_a (q_v 3) (q_a (vV j2) ag))) ag))) (q_a bA ag))))) b_0)
   (b_1 (au (aE (q_a aG (q_a (q_v 4) ag)))))))))),?_⟩
 try rw[cxK]
 refine bu fun R0 hR0=>hR0 _ _ ?_;clear hR0 R0;refine bu fun R0 hR0=>hR0 _ _ ?_;clear hR0 R0;refine eS (fun σ' H'=>(∃r,σ'=[some (.ref h),some (.int way),some v,some .non,some r,none]/\tlQ Q r H')\/∃ea c o H0,σ'=[some (.ref h),some (.int way),some v,some (.ref ea),some .non,none]/\H0 ea=none/\H'=upd H0 ea (exD ea c o)/\tlE cT cD Q (.ref c) o H0) (fun R' hR=>?_) ?_
 ·refine⟨_,rfl,rfl,_,rfl,?_⟩;rcases hw with⟨rfl,hs⟩|⟨rfl,hs⟩|⟨rfl,hs⟩
  ·refine fe ⟨_,rfl,h,dx,_,rfl,h1,xJ _ _,_,rfl,?_⟩;unfold eL;refine hs.mono (fun r H' hq=>hR _ _ (.inl ⟨r,rfl,hq⟩)) (fun c o H' he=>?_);rcases id he with⟨rfl,_⟩|⟨rfl,_⟩
   ·exact⟨cT,bT,rfl,R.eT,R.hT,fun ea hea=>⟨_,rfl,hR _ _ (.inr ⟨ea,cT,o,H',rfl,hea,rfl,he⟩)⟩⟩
   ·exact⟨cD,bD,rfl,R.eD,R.hD,fun ea hea=>⟨_,rfl,hR _ _ (.inr ⟨ea,cD,o,H',rfl,hea,rfl,he⟩)⟩⟩
  ·refine aW (by decide) ⟨_,rfl,rfl,_,rfl,fe ⟨_,rfl,h,dx,_,rfl,h1,gd _ _,_,rfl,?_⟩⟩;unfold eL;refine hs.mono (fun r H' hq=>hR _ _ (.inl ⟨r,rfl,hq⟩)) (fun c o H' he=>?_);rcases id he with⟨rfl,_⟩|⟨rfl,_⟩
   ·exact⟨cT,bT,rfl,R.eT,R.hT,fun ea hea=>⟨_,rfl,hR _ _ (.inr ⟨ea,cT,o,H',rfl,hea,rfl,he⟩)⟩⟩
   ·exact⟨cD,bD,rfl,R.eD,R.hD,fun ea hea=>⟨_,rfl,hR _ _ (.inr ⟨ea,cD,o,H',rfl,hea,rfl,he⟩)⟩⟩
  ·refine aW (by decide) ⟨_,rfl,rfl,_,rfl,aW (by decide) ⟨_,rfl,h,dx,_,rfl,h1,Ae _ _,?_⟩⟩;unfold eL;refine hs.mono (fun r H' hq=>hR _ _ (.inl ⟨r,rfl,hq⟩)) (fun c o H' he=>?_);rcases id he with⟨rfl,_⟩|⟨rfl,_⟩
   ·exact⟨cT,bT,rfl,R.eT,R.hT,fun ea hea=>⟨_,rfl,hR _ _ (.inr ⟨ea,cT,o,H',rfl,hea,rfl,he⟩)⟩⟩
   ·exact⟨cD,bD,rfl,R.eD,R.hD,fun ea hea=>⟨_,rfl,hR _ _ (.inr ⟨ea,cD,o,H',rfl,hea,rfl,he⟩)⟩⟩
 ·rintro σ' H' (⟨r,rfl,hq⟩|⟨ea,c,o,H0,rfl,hea,rfl,he⟩)
  ·refine⟨_,rfl,.non,.ref cT,.ref cT,false,rfl,(fun v hv=>hv),.inl ⟨_,.non,R.nt⟩,_,rfl,ax ?_⟩;refine⟨_,rfl,rfl,_,rfl,ax ?_⟩;exact⟨_,rfl,sz rfl,fun t gt=>hq t _ (ah gt _) ad⟩
  ·have we:=ah hea (exD ea c o);rcases he with⟨hc,dd,nv,rfl,hd,hq⟩|⟨hc,rfl,hq⟩
   ·cases hc;have hd2:=we _ _ hd;refine⟨_,rfl,_,_,_,_,rfl,(fun v hv=>hv),.inr ⟨ea,cT,some dd,rfl,ad,⟨_,hd2⟩,R.kT,R.tt⟩,_,rfl,aL ?_⟩;refine⟨_,rfl,ea,cT,dd,_,_,rfl,ad,hd2,R.kT,R.dT,R.aT,rfl,sz rfl,fun t gt=>?_⟩;exact hq t _ (we.trans (ah gt _)) ad
   ·cases hc;refine⟨_,rfl,_,_,_,_,rfl,(fun v hv=>hv),.inr ⟨ea,cD,none,rfl,ad,trivial,R.kD,R.dt⟩,_,rfl,ax ?_⟩;refine⟨_,rfl,rfl,_,rfl,aL ?_⟩;refine⟨sz rfl,fun p1 g1=>?_⟩;have w1:=ah g1 (.lst [.str "other",.str "no deed"]);refine⟨_,rfl,_,_,_,_,rfl,(fun v hv=>hv),.inr ⟨ea,cD,none,rfl,w1 _ _ ad,trivial,R.kD,R.dd⟩,.inr ⟨_,rfl,p1,_,_,_,rfl,rfl,SqL.of ad,rfl,sz rfl,fun t gt=>?_⟩⟩;exact hq t _ (we.trans (w1.trans (ah gt _))) ad
theorem wG{C:Addr}{m:Str}{k:Nat}{ps:List Str}{sp:Sp}(F:MFnX P w K mg base k C m ps sp):MFn P w K mg base k C m ps (L2.calm sp):=by obtain⟨f,fd,G,r⟩:=F.ex;exact⟨F.cl,f,fd,G.calm,r⟩
theorem B7{K:PySem.W.Frag}:PySem.W.kitOne K (.type "list") (.type "list")=some true:=by with_unfolding_all rfl
def aV(n me o:Nat)(C:LT):Dd:=⟨me,aq (aq (ar n (vals C)) o) me,.no⟩
structure Sta(CH CS T:Addr)(H:Hp)(h p d cl:Addr)(n me:Nat)(L C:LT)(so:Option (Addr×Dd)):Prop where
 ha:HandAt CH CS H h p d n me L
 tb:LTb T H
 ct:H cl=some (.lst ((ar n (vals C)).map V.int))
 ch:Chn n C
 pm:L.Perm (C++so.toList)
 sk:∀S,so=some S->∃o,o<n/\o≠me/\S.2=aV n me o C
section
variable{CH CS T h p d cl:Addr}{H H':Hp}{n me:Nat}{L C:LT}{so:Option (Addr×Dd)}
theorem gZ{cs:List Int}{k i:Nat}(hk:k<cs.length):ai (aq cs k) i=if i=k then ai cs k+1 else ai cs i:=by rw[aZ hk,fY hk]
theorem bW{cs:List Int}{k:Nat}(hk:k<cs.length):(aq cs k).length=cs.length:=by rw[aZ hk,YN]
theorem dO{o i:Nat}(hm:me<n)(ho:o<n)(hi:i<n)(ne:o≠me):ai (aV n me o C).ns i=aP (vals C) i+if i=o\/i=me then 1 else 0:=by
 have l1:o<(ar n (vals C)).length:=by rw[aw];exact ho
 show ai (aq (aq (ar n (vals C)) o) me) i=_;rw[gZ (by rw[bW l1,aw];exact hm),gZ l1,gZ l1];by_cases c1:i=me
 ·subst c1;rw[HV rfl,HU (fun z=>ne z.symm),HV (.inr rfl),ba hm]
 ·rw[HU c1];by_cases c2:i=o
  ·subst c2;rw[HV rfl,HV (.inl rfl),ba ho]
  ·rw[HU c2,HU (fun z=>z.elim c2 c1),ba hi];omega
theorem Sta.hm(S:Sta CH CS T H h p d cl n me L C so):me<n:=S.ha.hm
theorem Sta.rdy(S:Sta CH CS T H h p d cl n me L C so):∀ M,RDY L M->M=C:=fun M rd=>pe S.ha.st.un S.pm S.ch (fun x hx=>by
 obtain⟨o,ho,ne,e⟩:=S.sk x hx;refine⟨o,ho,?_⟩;rw[e,nA (d:=aV n me o C) ne,dO S.hm ho ho ne,HV (.inl rfl)];omega) rd
theorem Sta.kt(S:Sta CH CS T H h p d cl n me L C so)(k:KT H H')(t:LTb T H'):Sta CH CS T H' h p d cl n me L C so:=⟨S.ha.kt k,t,k _ _ S.ct (fun ps z=>by cases z),S.ch,S.pm,S.sk⟩
theorem Sta.same(S:Sta CH CS T H h p d cl n me L C so)(s:Same H H'):Sta CH CS T H' h p d cl n me L C so:=S.kt (.of s) (aC S.tb s)
theorem Sta.ndc(S:Sta CH CS T H h p d cl n me L C so):cl≠d:=fun z=>by have:=S.ct;rw[z,S.ha.st.dc]at this;cases this
theorem Sta.lenL(S:Sta CH CS T H h p d cl n me L C so):C.length<=L.length:=by have:=S.pm.length_eq;rw[Zs]at this;omega
theorem Sta.lenC(S:Sta CH CS T H h p d cl n me L C so):C.length<=63:=Zy S.lenL S.ha.st.len
def KX(d cl:Addr)(H H':Hp):Prop:=∀b o,H b=some o->(∀ps,o≠.tbl ps)->b≠d->b≠cl->H' b=some o
theorem KX.of(s:KT H H'):KX d cl H H':=fun b o e n _ _=>s b o e n
theorem KX.kd(s:KD d H H'):KX d cl H H':=fun b o e n m _=>s b o e n m
theorem KX.trans{H2:Hp}(s:KX d cl H H')(t:KX d cl H' H2):KX d cl H H2:=fun b o e n m l=>t b o (s b o e n m l) n m l
theorem KX.upd{o':HO}:KX d cl H (upd H cl o'):=fun b o e _ _ l=>by rw[af l];exact e
theorem KX.ts(s:KX d cl H H')(S:Sta CH CS T H h p d cl n me L C so):TS H H':=fun a zs e=>s a _ e (fun ps z=>by cases z) (fun z=>by rw[z,S.ha.st.dc]at e;cases e) (fun z=>by rw[z,S.ct]at e;cases e)
theorem KX.lst{a:Addr}{xs:List V}(s:KX d cl H H')(S:Sta CH CS T H h p d cl n me L C so)(e:H a=some (.lst xs))(ne:a≠cl):H' a=some (.lst xs):=s a _ e (fun ps z=>by cases z) (fun z=>by rw[z,S.ha.st.dc]at e;cases e) ne
theorem Sta.add{a:Addr}{e:Dd}(S:Sta CH CS T H h p d cl n me L C none)(kd:KD d H H')(t:LTb T H')(hA:HandAt CH CS H' h p d n me (L++[(a,e)]))(f:Fit n e)(en:e.ns=aq (ar n (vals C)) e.h):Sta CH CS T (L2.upd H' cl (.lst ((aq (ar n (vals C)) e.h).map V.int))) h p d cl n me (L++[(a,e)]) (C++[(a,e)]) none:=by
 have ec:H' cl=some (.lst ((ar n (vals C)).map V.int)):=kd _ _ S.ct (fun ps z=>by cases z) S.ndc;have cu:aq (ar n (vals C)) e.h=ar n (vals (C++[(a,e)])):=by rw[cE];exact im f.hd
 have ne:∀{b o},H' b=some o->(∀xs,o≠.lst xs)->L2.upd H' cl (.lst ((aq (ar n (vals C)) e.h).map V.int)) b=some o:=fun{b o} eb no=>by rw[af (fun z=>no _ (Zu (by rw[<-eb,z,ec])))];exact eb
 obtain⟨⟨dx,g1⟩,⟨⟨ex,g2⟩,g3,g4,g5,g6,g7,g8⟩,hm⟩:=hA;refine⟨⟨⟨dx,ne g1 fun xs z=>by cases z⟩,⟨⟨ex,ne g2 fun xs z=>by cases z⟩,ne g3 (fun xs z=>by cases z),fun x hx=>(g4 x hx).ts fun b zs eb=>ne eb fun xs z=>(by cases z),g5,g6,g7,g8⟩,hm⟩,?_,?_,.snoc S.ch f (by rw[en,cu]),?_,fun x z=>by cases z⟩
 ·exact fH (r:=cl) t (fun b o eb hb=>by rw[af hb];exact eb) fun f' hf=>by rw[ec]at hf;cases hf;exact⟨fun ps e=>(by cases e),fun c e=>(by cases e)⟩
 ·rw[ad,cu]
 ·have:=S.pm;simp only[Option.toList_none,ZO]at this ⊢;exact this.append_right _
end
def qp(K:PySem.W.Frag):Sp:=fun vs H Q _=>∃(a:Addr) (cs:List Int) (k:Nat),vs=[.ref a,.int (k:Int)]/\(SqL K H a (cs.map V.int)\/SqT K H a (cs.map V.int))/\k<cs.length/\cs.length<=8/\∀c H',Same H H'->H' c=some (.tup ((aq cs k).map V.int))->Q (.ref c) H'
abbrev jB:Stmt:=top 87
abbrev wI:List Str:=["_law_script","_law_k"]
theorem wc:FnScope wI ["_law_script","_law_k"] (al jB):=⟨rfl,rfl,rfl,by decide +kernel,rfl,by decide +kernel,by decide +kernel⟩
theorem vG{f:Addr}{fd:FuncData}(F:Fun K "_law_cell_at" "_law_cell_at" jB f fd)(a7:mg "len" = none):FnOk P w K mg base CX0 1 f fd ["_law_script","_law_k"] (yM K):=by
 refine F.okQ wc (fun vs H Q E h=>?_) (fun cdv A outer s H vs Q E hr h=>?_)
 ·obtain⟨a,ns,k,rfl,_⟩:=h;rfl
 obtain⟨a,ns,k,rfl,hS,h0,q⟩:=h;refine⟨_,(b_c (aU (aM jt (q_v 1) (q_B df a7 Z1 (q_a (q_v 0) ag))) (b_1 (au (aD bZ (q_v 0) (q_v 1)))) b_0)
   (b_1 (au aj))),?_⟩
 try rw[cxK]
 refine⟨_,rfl,_,rfl,a,_,rfl,.inl hS,_,_,rfl,rfl,_,rfl,?_⟩;refine iL (fun c=>?_) (fun c=>?_)
 ·have c':k<((ns.map V.int).length:Int):=ZS c;rw[Za]at c';exact⟨_,rfl,_,rfl,a,_,_,_,rfl,rfl,hS,bI h0 c',q⟩
 ·have c':¬k<((ns.map V.int).length:Int):=of_decide_eq_false (ZL.mpr c);rw[Za]at c';rw[zQ h0 c']at q;exact q
abbrev nV:Stmt:=top 88
abbrev BO:List Str:=["_law_counts","_law_hand","_law_found"]
theorem rW:FnScope BO ["_law_counts","_law_hand"] (al nV):=⟨rfl,rfl,rfl,by decide +kernel,rfl,by decide +kernel,by decide +kernel⟩
theorem Aw{f:Addr}{fd:FuncData}(F:Fun K "_law_clock" "_law_clock" nV f fd)(i5:mg "list" = none)(a8:mg "tuple" = none):FnOk P w K mg base CX0 1 f fd ["_law_counts","_law_hand"] (qp K):=by
 refine F.okQ rW (fun vs H Q E h=>?_) (fun cdv A outer s H vs Q E hr h=>?_)
 ·obtain⟨a,cs,k,rfl,_⟩:=h;rfl
 obtain⟨a,cs,k,rfl,hS,hk,h8,q⟩:=h;refine⟨_,(b_c (aH (i:=2) rW.nd (jv Dr i5 gK (q_a (q_v 0) ag)))
   (b_c (ka (aN cG (aD bZ (q_v 2) (q_v 1)) aj) (lP (q_v 2) (q_v 1) mC))
   (b_1 (au (jv uX a8 cc (q_a (q_v 2) ag)))))),?_⟩
 try rw[cxK]
 refine⟨_,rfl,a,_,rfl,hS,fun l hl=>?_⟩;have w1:=ah hl (.lst (cs.map V.int));have e1:upd H l (.lst (cs.map V.int)) l=some (.lst (cs.map V.int)):=ad;have hkl:atI (cs.map V.int) (k:Int)=some (.int (ai cs k)):=by
  have:=bI (ns:=cs) (k:=(k:Int)) (by omega) (by omega)
  rwa [Zr]at this
 refine⟨_,rfl,_,rfl,l,_,_,_,rfl,rfl,SqL.of e1,hkl,_,_,rfl,rfl,?_⟩;refine⟨_,rfl,_,rfl,l,_,_,k,rfl,rfl,e1,(by rw[jl (by omega) (by rw[Za];omega)];rfl),?_⟩;rw[<-List.map_set,<-aZ hk];have w2:=mr (o:=.lst ((aq cs k).map V.int)) w1 hl;refine⟨_,rfl,l,_,rfl,.inl ⟨SqL.of ad,fun c gc=>?_⟩⟩;exact q c _ (w2.trans (ah gc _)) ad
inductive spCtd(CH CS T:Addr)(vs:List V)(H:Hp)(Q:VK)(E_:XK):Prop
 |mk (h p d cl:Addr) (n me:Nat) (L C:LT) (so:Option (Addr×Dd)) (v:V) (h0:vs=[.ref h,.ref cl,v]) (S:Sta CH CS T H h p d cl n me L C so) (hv:v=.non\/∃a x,v=.ref a/\C.getLast?=some x/\DR H a x.2)
   (q:∀H',KT H H'->LTb T H'->Q (.bl true) H'):spCtd CH CS T vs H Q E_
theorem wV{xs:List V}{a:V}(h:xs.getLast?=some a):atI xs (-1)=some a:=by rw[List.getLast?_eq_getElem?]at h;have hl:=(Zv.mp h).1;unfold atI ixN;rw[HU (by decide),HV (by omega)];show xs[((-1:Int)+(xs.length:Int)).toNat]?=_;rw[show((-1:Int)+(xs.length:Int)).toNat=xs.length-1 by omega,h]
abbrev gC:Stmt:=top 91
abbrev qE:List Str:=["_law_hand","_law_counts","_law_last","_law_clock_here","_law_ready"]
theorem fB:FnScope qE ["_law_hand","_law_counts","_law_last"] (al gC):=⟨rfl,rfl,rfl,by decide +kernel,rfl,by decide +kernel,by decide +kernel⟩
theorem pV{f CH CS T:Addr}{fd:FuncData}(F:Fun K "_law_as_counted" "_law_as_counted" gC f fd)(Hf:MFn P w K mg base 8 CH "clock" ["self"] (spHClock CH CS T))(i4:MFn P w K mg base 7 CH "ready" ["self"] (spHReady CH CS T))(a6:mg "isinstance" = none)(a8:mg "tuple" = none)(i5:mg "list" = none)(a7:mg "len" = none)(j5:mg "sum" = none):FnOk P w K mg base CX0 9 f fd ["_law_hand","_law_counts","_law_last"] (spCtd CH CS T):=by
 refine F.okQ fB (fun vs H Q E h=>?_) (fun cdv A outer s H vs Q E hr h=>?_)
 ·obtain⟨h,p,d,cl,n,me,L,C,so,v,rfl,_⟩:=h;rfl
 obtain⟨h,p,d,cl,n,me,L,C,so,v,rfl,S,hv,q⟩:=h;obtain⟨⟨dx,h1⟩,St,hm⟩:=id S.ha;refine⟨_,(b_c (aH (i:=3) fB.nd (cO Hf (hr.mono (by decide)) (q_v 0)))
   (b_c (aU (t_w (ii (ci (bR (q_B lF a6 aJ (q_a (q_v 3) (q_a (fj a8 cc) ag))))) (fO (aM (yd hr.units) (q_v 3) (jv uX a8 cc (q_a (q_v 1) ag)))))) (b_1 (au bU)) b_0)
   (b_c (aU (aM mi (q_v 2) bA) (b_1 (au bU)) b_0)
   (b_c (aH (i:=4) fB.nd (cO i4 (hr.mono (by decide)) (q_v 0)))
   (b_1 (au (bM (q_B lF a6 aJ (q_a (q_v 4) (q_a (fj i5 gK) ag))) (bM (bt cJ (q_B df a7 Z1 (q_a (q_v 4) ag)) (q_B (wZ (K:=K) rfl rfl) j5 PyProof.Rows.boot_sum (q_a (q_v 1) ag))) (bQ (bt (vF hr.units) (aD bZ (q_v 4) (Gu Gh aj)) (q_v 2))))))))))),?_⟩
 try rw[cxK]
 refine⟨_,rfl,h,dx,_,rfl,h1,xI _ _,h,p,d,n,me,L,C,rfl,S.ha,S.tb,S.rdy,fun c H1 k1 tab1 ec=>?_⟩;have S1:=S.kt k1 tab1;refine⟨_,rfl,.ref c,.ty "tuple",.type "tuple",true,rfl,(fun v hv=>hv),.inl ⟨_,.tup ec,(fR (.tup ec)).trans (by rw[bK ec (b:=true) rfl])⟩,_,rfl,ax ?_⟩;refine⟨_,rfl,_,rfl,cl,_,rfl,.inl ⟨SqL.of S1.ct,fun t gt=>?_⟩⟩;have wt:=ah gt (.tup ((ar n (vals C)).map V.int));have S2:=S1.same wt;have k2:=k1.trans (KT.of wt);refine⟨c,t,_,_,rfl,rfl,wt _ _ ec,ad,_,rfl,?_⟩;rw[decide_eq_true rfl];refine ax ?_;generalize upd H1 t (.tup ((ar n (vals C)).map V.int))=H2 at S2 k2 ⊢;rcases hv with rfl|⟨a,x,rfl,hx,hd⟩
 ·exact⟨_,rfl,rfl,_,rfl,iM rfl (q H2 k2 S2.tb)⟩
 refine⟨_,rfl,rfl,_,rfl,lU (by intro z;cases z) ?_⟩;obtain⟨⟨dx2,g2⟩,_⟩:=id S2.ha;refine⟨_,rfl,h,dx2,_,rfl,g2,jj _ _,h,p,d,n,me,L,C,rfl,S2.ha,S2.tb,S2.rdy,fun D H3 k3 tab3 lr nD=>?_⟩;have k23:=k2.trans k3;have S3:=S2.kt k3 tab3;have hd3:=hd.ts k23.ts;have hxC:x∈C:=List.mem_of_getLast? hx;refine⟨_,rfl,.ref D,.ty "list",.type "list",true,rfl,(fun v hv=>hv),.inl ⟨_,.lst lr.1,B7⟩,_,rfl,aL ?_⟩;refine⟨_,rfl,D,_,rfl,.inl (SqL.of lr.1),_,rfl,cl,_,rfl,SqL.of S3.ct,rfl,_,rfl,?_⟩;rw[decide_eq_true (show V.int ((aA C).length:Int)=V.int (ar n (vals C)).sum by rw[S.ch.sum];unfold aA;rw[Za])];refine aL ?_;have hl:atI (aA C) (-1)=some (.ref x.1):=wV (by unfold aA;rw[List.getLast?_map,hx];rfl);refine⟨_,rfl,_,rfl,D,_,_,_,rfl,rfl,SqL.of lr.1,hl,_,rfl,_,_,(lr.2 x hxC).dt,hd3.dt,eU _,eU _,?_⟩;rw[SeqAt.eqv_refl _ (lX (d:=x.2) trivial).1];exact q H3 k23 tab3
def prD(s:Str)(d:PyData):PyData:=.tuple [.str s,d]
theorem cF{H:Hp}{t:Addr}{s:Str}{v:V}{d:PyData}(e:H t=some (.tup [.str s,v]))(x:Dt H d v):Dt H (prD s d) (.ref t):=by unfold prD;simp only[Dt,DtAll];exact⟨t,_,rfl,.inl e,_,_,rfl,rfl,_,_,rfl,x,rfl⟩
theorem fZ{H:Hp}:Dt H .none .non:=by simp only[Dt]
theorem xT{s:Str}{d:PyData}(hs:PyData.strOk s=true)(hd:d.canLay0=true):(prD s d).canLay0=true:=by unfold prD;simp[PyData.canLay0,PyData.canLayAll0,hs,hd]
theorem be{s:Str}{d:PyData}(hs:PyData.strOk s=true)(hd:d.canLay0=true)(h4:d.depth<=4):SeqAt.shaped (prD s d)=true:=by unfold SeqAt.shaped;rw[Zk];refine⟨xT hs hd,decide_eq_true ?_⟩;unfold prD;simp only[PyData.depth,PyData.depthAll];omega
theorem iF{s:Str}{d:PyData}(hs:PyData.strOk s=true)(hd:d.canLay0=true):PyData.eqv (prD s d) (prD s d)=true:=SeqAt.eqv_refl _ (xT hs hd)
theorem FD{s t:Str}{d e:PyData}(h:(s==t)=false):PyData.eqv (prD s d) (prD t e)=false:=by unfold prD;simp only[PyData.eqv,PyData.eqvAll,h,Yc]
theorem xS(k:List Int):(PyData.tuple (k.map .int)).canLay0=true/\(PyData.tuple (k.map .int)).depth<=4:=by obtain⟨h1,h2⟩:=iO k;simp only[PyData.canLay0,PyData.depth];exact⟨h1,by omega⟩
theorem eX:PyData.strOk "twin" = true:=by decide +kernel
theorem iR:PyData.strOk "done" = true:=by decide +kernel
theorem jY:PyData.strOk "no deed" = true:=by decide +kernel
theorem FJ:PyData.strOk "" = true:=by decide +kernel
section
variable{CH CS T h p d cl:Addr}{H H':Hp}{n me:Nat}{L C:LT}{so:Option (Addr×Dd)}
theorem Sta.fresh(S:Sta CH CS T H h p d cl n me L C so){o:Nat}(ho:o<n)(hs:so=none\/o≠me)(w:Wh):∀x∈L,nmK x.2≠nmK (aX n o C w):=fun x hx e=>by
 obtain⟨e1,e2⟩:=Cb e;have e1:x.2.h=o:=e1;have e2:ai x.2.ns x.2.h=ai (aq (ar n (vals C)) o) o:=e2;rw[cZ ho]at e2;rcases ZD.mp (S.pm.mem_iff.mp hx)with hc|hc
 ·have:=(S.ch.own x hc).2;unfold cg at this;rw[e1]at this e2;omega
 ·rcases hs with rfl|hs
  ·cases hc
  ·cases so with
   |none=>cases hc
   |some y =>obtain⟨o',_,_,ey⟩:=S.sk y rfl;have:x=y:=Zf.mp hc;rw[this,ey]at e1;exact hs e1.symm
theorem Sta.stuck(S:Sta CH CS T H h p d cl n me L C so){x:Addr×Dd}(hs:so=some x):Stk n me L C:=by
 obtain⟨o,ho,ne,e⟩:=S.sk x hs;have hm:=S.hm;refine⟨x,S.pm.mem_iff.mpr (Zq _ (by rw[hs];exact Zf.mpr rfl)),by rw[e];rfl,?_,fun z=>?_⟩
 ·rw[e];show ai (aV n me o C).ns me=_;rw[dO hm ho hm ne,HV (.inr rfl)]
 ·have z1:ai x.2.ns o=ai (aq (ar n (vals C)) me) o:=by rw[z]
  rw[e,dO hm ho ho ne,HV (.inl rfl),kP hm ho ne]at z1;omega
theorem kg{o:Nat}(hm:me<n)(ho:o<n)(ne:o≠me){w:Wh}(wf:qI me (aV n me o C).ns w):Fit n ⟨me,(aV n me o C).ns,w⟩:=by
 have l1:o<(ar n (vals C)).length:=by rw[aw];exact ho
 have ll:(aV n me o C).ns.length=n:=by show(aq (aq (ar n (vals C)) o) me).length=n;rw[bW (by rw[bW l1,aw];exact hm),bW l1,aw]
 refine⟨ll,hm,fun z hz=>?_,?_,wf⟩
 ·have hz:z∈(aV n me o C).ns:=hz;obtain⟨i,hi,rfl⟩:=List.getElem_of_mem hz;have e:=dO (C:=C) (i:=i) hm ho (by omega) ne;unfold ai at e;rw[Zd hi]at e;have e:(aV n me o C).ns[i]=_:=e;rw[e];have:=dU (vals C) i;split<;>omega
 ·show 1<=ai (aV n me o C).ns me;rw[dO hm ho hm ne,HV (.inr rfl)];have:=dU (vals C) me;omega
theorem Sta.late{a0 b:Addr}{o:Nat}(S:Sta CH CS T H h p d cl n me L C (some (a0,aV n me o C)))(ho:o<n)(ne:o≠me)(kd:KD d H H')(t:LTb T H')(hA:HandAt CH CS H' h p d n me (L++[(b,aX n o C .no)])) :
  Sta CH CS T (upd (upd H' cl (.lst ((aq (ar n (vals C)) o).map V.int))) cl (.lst ((aq (aq (ar n (vals C)) o) me).map V.int))) h p d cl n me (L++[(b,aX n o C .no)]) (C++[(b,aX n o C .no)]++[(a0,aV n me o C)]) none:=by
 have hm:=S.hm;have ec:H' cl=some (.lst ((ar n (vals C)).map V.int)):=kd _ _ S.ct (fun ps z=>by cases z) S.ndc;have c1:aq (ar n (vals C)) o=ar n (vals (C++[(b,aX n o C .no)])):=by rw[cE];exact im (d:=aX n o C .no) ho
 have c2:aq (aq (ar n (vals C)) o) me=ar n (vals (C++[(b,aX n o C .no)]++[(a0,aV n me o C)])):=by rw[c1,cE (C++[(b,aX n o C .no)])];exact im (d:=aV n me o C) hm
 have neb:∀{b' o'},H' b'=some o'->(∀xs,o'≠.lst xs)->upd (upd H' cl (.lst ((aq (ar n (vals C)) o).map V.int))) cl (.lst ((aq (aq (ar n (vals C)) o) me).map V.int)) b'=some o':=fun{b' o'} eb no=>by have nb:b'≠cl:=fun z=>no _ (Zu (by rw[<-eb,z,ec]));rw[af nb,af nb];exact eb
 obtain⟨⟨dx,g1⟩,⟨⟨ex,g2⟩,g3,g4,g5,g6,g7,g8⟩,_⟩:=hA;refine⟨⟨⟨dx,neb g1 fun xs z=>by cases z⟩,⟨⟨ex,neb g2 fun xs z=>by cases z⟩,neb g3 (fun xs z=>by cases z),fun x hx=>(g4 x hx).ts fun b zs eb=>neb eb fun xs z=>(by cases z),g5,g6,g7,g8⟩,hm⟩,?_,?_,.snoc (.snoc S.ch (fU ho trivial) c1) (kg hm ho ne trivial) c2,?_,fun x z=>by cases z⟩
 ·exact fH (r:=cl) t (fun b o eb hb=>by rw[af hb,af hb];exact eb) fun f' hf=>by rw[ec]at hf;cases hf;exact⟨fun ps e=>(by cases e),fun c e=>(by cases e)⟩
 ·rw[ad,c2]
 ·have p1:=S.pm;simp only[Option.toList_some,Option.toList_none,ZO]at p1 ⊢;refine(p1.append_right _).trans ?_;rw[List.append_assoc,List.append_assoc];exact List.Perm.append_left _ (List.Perm.swap _ _ _)
end
inductive spBegun(CH CS T:Addr)(vs:List V)(H:Hp)(Q:VK)(E_:XK):Prop
 |mk (h p d cl:Addr) (n me o:Nat) (m:Int) (h0:vs=[.ref h,.ref cl,.int (o:Int),.int m]) (S:Sta CH CS T H h p d cl n me [] [] none) (ho:o<n) (n8:n<=8) (m0:0<=m) (m5:m<=5)
   (q:∀L C H',KX d cl H H'->Sta CH CS T H' h p d cl n me L C none->L.length<=5->Q (.bl true) H'):spBegun CH CS T vs H Q E_
abbrev nU:Stmt:=top 94
abbrev BN:List Str:=["_law_hand","_law_counts","_law_other","_law_many","_law_k"]
theorem rV:FnScope BN ["_law_hand","_law_counts","_law_other","_law_many"] (al nU):=⟨rfl,rfl,rfl,by decide +kernel,rfl,by decide +kernel,by decide +kernel⟩
theorem Av{f CH CS T cT cD:Addr}{fd:FuncData}(F:Fun K "_law_begun" "_law_begun" nU f fd)(i8:MFn P w K mg base 9 CH "hear" ["self","deed"] (L2.calm (spHHear K CH CS T cT cD)))(d8:Fn P w K mg base 1 "_law_clock" ["_law_counts","_law_hand"] (qp K))(c7:Fn P w K mg base 9 "_law_as_counted" ["_law_hand","_law_counts","_law_last"] (spCtd CH CS T))(u8:mg "range" = none):FnOk P w K mg base CX0 10 f fd ["_law_hand","_law_counts","_law_other","_law_many"] (spBegun CH CS T):=by
 refine F.okQ rV (fun vs H Q E h=>?_) (fun cdv A outer s H vs Q E hr h=>?_)
 ·obtain⟨h,p,d,cl,n,me,o,m,rfl,_⟩:=h;rfl
 obtain⟨h,p,d,cl,n,me,o,m,rfl,S0,ho,n8,m0,m5,q⟩:=h;refine⟨_,(b_c (ke PassesOwn.never rfl (xL u8 (q_a (q_v 3) ag)) (bc (i:=4) rV.nd) (b_c (mo (iy i8 (hr.mono (by decide)) (q_v 0) (q_a (aE (q_a (q_v 2) (q_a (aB d8 (hr.mono (by decide)) (q_a (q_v 1) (q_a (q_v 2) ag))) (q_a (aE (q_a aG ag)) ag)))) ag)))
   (b_1 (ka (aN cG (aD bZ (q_v 1) (q_v 2)) aj) (lP (q_v 1) (q_v 2) mC)))))
   (b_1 (au (aB c7 (hr.mono (by decide)) (q_a (q_v 0) (q_a (q_v 1) (q_a bA ag))))))),?_⟩
 try rw[cxK]
 refine⟨_,rfl,_,rfl,by omega,by omega,?_⟩;refine vk (lo:=0) (n:=m.toNat) (fun i σ H'=>∃(L C:LT) (o4:Option V),KX d cl H H'/\Sta CH CS T H' h p d cl n me L C none/\L.length=i/\σ=[some (.ref h),some (.ref cl),some (.int (o:Int)),some (.int m),o4]) ⟨[],[],none,KX.of (KT.of (Same.refl _)),S0,rfl,rfl⟩ (fun i σ H1 hi hP D' kN=>?_) (fun σ H1 hP=>?_)
 ·obtain⟨L,C,o4,kx,S,lL,rfl⟩:=hP;obtain⟨⟨dx,h1⟩,St,hm⟩:=id S.ha;refine⟨_,rfl,h,dx,_,rfl,h1,gd _ _,_,rfl,_,rfl,_,rfl,cl,ar n (vals C),o,rfl,.inl (SqL.of S.ct),by rw[aw];exact ho,by rw[aw];exact n8,fun c H2 s2 ec=>?_⟩;refine⟨sz rfl,fun t0 g0=>?_⟩;have w0:=ah g0 (.tup [.str "none"]);refine⟨sz rfl,fun a ga=>?_⟩;have wa:=ah ga (.tup [.int (o:Int),.ref c,.ref t0]);have w3:=s2.trans (w0.trans wa);have dr:DR (upd (upd H2 t0 (.tup [.str "none"])) a (.tup [.int (o:Int),.ref c,.ref t0])) a (aX n o C .no):=⟨c,.ref t0,ad,wa _ _ (w0 _ _ ec),⟨t0,rfl,wa _ _ ad⟩,by show o<(aq (ar n (vals C)) o).length;rw[dX ho];exact ho,by show(aq (ar n (vals C)) o).length<=8;rw[dX ho];exact n8⟩
  generalize upd (upd H2 t0 (.tup [.str "none"])) a (.tup [.int (o:Int),.ref c,.ref t0])=H3 at w3 dr ⊢;have S3:=S.same w3;refine spHHear.mk h p d a n me L _ rfl S3.ha S3.tb dr (fU ho trivial) (.inl ⟨by omega,S.fresh ho (.inl rfl) _,fun H4 kd tb4 hA4=>?_⟩);have ec4:H4 cl=some (.lst ((ar n (vals C)).map V.int)):=kd _ _ S3.ct (fun ps z=>by cases z) S3.ndc;have hkl:atI ((ar n (vals C)).map V.int) (o:Int)=some (.int (ai (ar n (vals C)) o)):=by
   have:=bI (ns:=ar n (vals C)) (k:=(o:Int)) (by omega) (by rw[aw];omega)
   rwa [Zr]at this
  refine⟨_,rfl,_,rfl,cl,_,_,_,rfl,rfl,SqL.of ec4,hkl,_,_,rfl,rfl,_,rfl,_,rfl,cl,_,_,o,rfl,rfl,ec4,(by rw[jl (by omega) (by rw[Za,aw];omega)];rfl),kN _ _ ?_⟩;rw[<-List.map_set,<-aZ (by rw[aw];exact ho)];exact⟨_,_,_,kx.trans ((KX.of (KT.of w3)).trans ((KX.kd kd).trans KX.upd)),S3.add kd tb4 hA4 (fU ho trivial) rfl,by rw[Zs,lL];rfl,rfl⟩
 ·obtain⟨L,C,o4,kx,S,lL,rfl⟩:=hP;refine⟨_,rfl,_,rfl,h,p,d,cl,n,me,L,C,none,.non,rfl,S,.inl rfl,fun H2 k2 tb2=>?_⟩;exact q L C H2 (kx.trans (KX.of k2)) (S.kt k2 tb2) (by omega)
inductive spLate(CH CS T:Addr)(vs:List V)(H:Hp)(Q:VK)(E_:XK):Prop
 |mk (h p d cl a a0:Addr) (n me o:Nat) (L C:LT) (h0:vs=[.ref h,.ref cl,.int (o:Int),.int (me:Int),.ref a]) (S:Sta CH CS T H h p d cl n me L C (some (a0,aV n me o C))) (hd:DR H a (aV n me o C)) (ho:o<n) (ne:o≠me) (n8:n<=8) (ll:L.length<63)
   (q:∀b H',KX d cl H H'->Sta CH CS T H' h p d cl n me (L++[(b,aX n o C .no)]) (C++[(b,aX n o C .no)]++[(a0,aV n me o C)]) none->Q (.bl true) H'):spLate CH CS T vs H Q E_
abbrev rL:Stmt:=top 93
abbrev Di:List Str:=["_law_hand","_law_counts","_law_other","_law_me","_law_stuck"]
theorem CU:FnScope Di ["_law_hand","_law_counts","_law_other","_law_me","_law_stuck"] (al rL):=⟨rfl,rfl,rfl,by decide +kernel,rfl,by decide +kernel,by decide +kernel⟩
theorem Cg{f CH CS T cT cD:Addr}{fd:FuncData}(F:Fun K "_law_late" "_law_late" rL f fd)(i8:MFn P w K mg base 9 CH "hear" ["self","deed"] (L2.calm (spHHear K CH CS T cT cD)))(d8:Fn P w K mg base 1 "_law_clock" ["_law_counts","_law_hand"] (qp K))(c7:Fn P w K mg base 9 "_law_as_counted" ["_law_hand","_law_counts","_law_last"] (spCtd CH CS T)):FnOk P w K mg base CX0 10 f fd ["_law_hand","_law_counts","_law_other","_law_me","_law_stuck"] (spLate CH CS T):=by
 refine F.okQ CU (fun vs H Q E h=>?_) (fun cdv A outer s H vs Q E hr h=>?_)
 ·obtain⟨h,p,d,cl,a,a0,n,me,o,L,C,rfl,_⟩:=h;rfl
 obtain⟨h,p,d,cl,a,a0,n,me,o,L,C,rfl,S,hd,ho,ne,n8,ll,q⟩:=h;obtain⟨⟨dx,h1⟩,St,hm⟩:=id S.ha;refine⟨_,(b_c (mo (iy i8 (hr.mono (by decide)) (q_v 0) (q_a (aE (q_a (q_v 2) (q_a (aB d8 (hr.mono (by decide)) (q_a (q_v 1) (q_a (q_v 2) ag))) (q_a (aE (q_a aG ag)) ag)))) ag)))
   (b_c (ka (aN cG (aD bZ (q_v 1) (q_v 2)) aj) (lP (q_v 1) (q_v 2) mC))
   (b_c (ka (aN cG (aD bZ (q_v 1) (q_v 3)) aj) (lP (q_v 1) (q_v 3) mC))
   (b_1 (au (aB c7 (hr.mono (by decide)) (q_a (q_v 0) (q_a (q_v 1) (q_a (q_v 4) ag))))))))),?_⟩
 try rw[cxK]
 refine⟨_,rfl,h,dx,_,rfl,h1,gd _ _,_,rfl,_,rfl,_,rfl,cl,ar n (vals C),o,rfl,.inl (SqL.of S.ct),by rw[aw];exact ho,by rw[aw];exact n8,fun c H2 s2 ec=>?_⟩;refine⟨sz rfl,fun t0 g0=>?_⟩;have w0:=ah g0 (.tup [.str "none"]);refine⟨sz rfl,fun b ga=>?_⟩;have wa:=ah ga (.tup [.int (o:Int),.ref c,.ref t0]);have w3:=s2.trans (w0.trans wa);have dr:DR (upd (upd H2 t0 (.tup [.str "none"])) b (.tup [.int (o:Int),.ref c,.ref t0])) b (aX n o C .no):=⟨c,.ref t0,ad,wa _ _ (w0 _ _ ec),⟨t0,rfl,wa _ _ ad⟩,by show o<(aq (ar n (vals C)) o).length;rw[dX ho];exact ho,by show(aq (ar n (vals C)) o).length<=8;rw[dX ho];exact n8⟩
 generalize upd (upd H2 t0 (.tup [.str "none"])) b (.tup [.int (o:Int),.ref c,.ref t0])=H3 at w3 dr ⊢;have S3:=S.same w3;refine spHHear.mk h p d b n me L _ rfl S3.ha S3.tb dr (fU ho trivial) (.inl ⟨ll,S.fresh ho (.inr ne) _,fun H4 kd tb4 hA4=>?_⟩);have ec4:H4 cl=some (.lst ((ar n (vals C)).map V.int)):=kd _ _ S3.ct (fun ps z=>by cases z) S3.ndc;have at_:∀{cs:List Int} {k:Nat},k<cs.length->atI (cs.map V.int) (k:Int)=some (.int (ai cs k)):=fun{cs k} hk=>by
  have:=bI (ns:=cs) (k:=(k:Int)) (by omega) (by omega)
  rwa [Zr]at this
 have lo:o<(ar n (vals C)).length:=by rw[aw];exact ho
 have lm:me<(aq (ar n (vals C)) o).length:=by rw[bW lo,aw];exact hm
 refine⟨_,rfl,_,rfl,cl,_,_,_,rfl,rfl,SqL.of ec4,at_ lo,_,_,rfl,rfl,_,rfl,_,rfl,cl,_,_,o,rfl,rfl,ec4,(by rw[jl (by omega) (by rw[Za];omega)];rfl),?_⟩;rw[<-List.map_set,<-aZ lo];refine⟨_,rfl,_,rfl,cl,_,_,_,rfl,rfl,SqL.of ad,at_ lm,_,_,rfl,rfl,_,rfl,_,rfl,cl,_,_,me,rfl,rfl,ad,(by rw[jl (by omega) (by rw[Za];omega)];rfl),?_⟩;rw[<-List.map_set,<-aZ lm];have S5:=S3.late ho ne kd tb4 hA4;have kx:KX d cl H3 (upd (upd H4 cl (.lst ((aq (ar n (vals C)) o).map V.int))) cl (.lst ((aq (aq (ar n (vals C)) o) me).map V.int))):=(KX.kd kd).trans (KX.upd.trans KX.upd);have hd5:=(hd.same w3).ts (kx.ts S3);generalize upd (upd H4 cl (.lst ((aq (ar n (vals C)) o).map V.int))) cl (.lst ((aq (aq (ar n (vals C)) o) me).map V.int))=H5 at S5 kx hd5 ⊢;refine⟨_,rfl,_,rfl,_,rfl,h,p,d,cl,n,me,_,_,none,.ref a,rfl,S5,.inr ⟨a,(a0,aV n me o C),rfl,by rw[List.getLast?_append];rfl,hd5⟩,fun H6 k6 tb6=>?_⟩;exact q b H6 ((KX.of (KT.of w3)).trans (kx.trans (KX.of k6))) (S5.kt k6 tb6)
theorem NmAt.dt{H:Hp}{t:Addr}{k:List Int}(e:H t=some (.tup (k.map V.int))):Dt H (.tuple (k.map .int)) (.ref t):=je e
def zE:Wh:=.put 0 ⟨"",FJ⟩
inductive spStuck(CH CS T:Addr)(vs:List V)(H:Hp)(Q:VK)(E_:XK):Prop
 |mk (h p d cl a:Addr) (n me o:Nat) (L C:LT) (ip:Bool) (h0:vs=[.ref h,.ref a,.bl ip]) (S:Sta CH CS T H h p d cl n me L C none) (hd:DR H a (aV n me o C)) (ho:o<n) (ne:o≠me) (n8:n<=8) (ll:L.length<63) (hi:ip=true->Cnts me C)
   (q:∀H',KD d H H'->Sta CH CS T H' h p d cl n me (L++[(a,aV n me o C)]) C (some (a,aV n me o C))->Q (.bl true) H'):spStuck CH CS T vs H Q E_
section
variable{CH CS T h p d cl:Addr}{H H':Hp}{n me:Nat}{L C:LT}
theorem Sta.hold{a:Addr}{o:Nat}(S:Sta CH CS T H h p d cl n me L C none)(ho:o<n)(ne:o≠me)(kd:KD d H H')(t:LTb T H')(hA:HandAt CH CS H' h p d n me (L++[(a,aV n me o C)])):Sta CH CS T H' h p d cl n me (L++[(a,aV n me o C)]) C (some (a,aV n me o C)):=by
 refine⟨hA,t,kd _ _ S.ct (fun ps z=>by cases z) S.ndc,S.ch,?_,fun x z=>?_⟩
 ·have:=S.pm;simp only[Option.toList_none,ZO]at this;exact this.append_right _
 ·cases z;exact⟨o,ho,ne,rfl⟩
theorem C0{o:Nat}(S:Sta CH CS T H h p d cl n me L C none)(ho:o<n)(ne:o≠me):∀x∈L,nmK x.2≠nmK (aV n me o C):=fun x hx e=>by refine S.fresh S.hm (.inl rfl) .no x hx (e.trans (Bt.mp ?_));rw[mf S.hm];show[(me:Int),ai (aV n me o C).ns me]=_;rw[dO S.hm ho S.hm ne,HV (.inr rfl)];rfl
end
abbrev iX:Stmt:=top 92
abbrev uO:List Str:=["_law_hand","_law_stuck","_law_is_put","_law_me","_law_twin","_law_found"]
theorem eY:FnScope uO ["_law_hand","_law_stuck","_law_is_put"] (al iX):=⟨rfl,rfl,rfl,by decide +kernel,rfl,by decide +kernel,by decide +kernel⟩
theorem tq{f CH CS T cT cD:Addr}{fd:FuncData}(F:Fun K "_law_is_stuck" "_law_is_stuck" iX f fd)(i8:MFn P w K mg base 9 CH "hear" ["self","deed"] (L2.calm (spHHear K CH CS T cT cD)))(o8:Fn P w K mg base 11 "_law_told" ["_law_hand","_law_way","_law_thing"] (A8 K CH CS T cT cD)):FnOk P w K mg base CX0 12 f fd ["_law_hand","_law_stuck","_law_is_put"] (spStuck CH CS T):=by
 refine F.okQ eY (fun vs H Q E h=>?_) (fun cdv A outer s H vs Q E hr h=>?_)
 ·obtain⟨h,p,d,cl,a,n,me,o,L,C,ip,rfl,_⟩:=h;rfl
 obtain⟨h,p,d,cl,a,n,me,o,L,C,ip,rfl,S0,hd0,ho,ne,n8,ll,hi,q⟩:=h;have hm:=S0.hm;have ow:ai (aV n me o C).ns me=aP (vals C) me+1:=by rw[dO hm ho hm ne,HV (.inr rfl)]
 obtain⟨c,v0,e1,e2,e3,e4,e5⟩:=id hd0;have e1:H a=some (.tup [.int (me:Int),.ref c,v0]):=e1;refine⟨_,(b_c (aH (i:=3) eY.nd (aD aI (q_v 1) aj))
   (b_c (aH (i:=4) eY.nd (aE (q_a aG (q_a (aE (q_a (q_v 3) (q_a (aD aI (aD aI (q_v 1) aj) (q_v 3)) ag))) ag))))
   (b_c (aU (t_w (ii (aM ye (iy i8 (hr.mono (by decide)) (q_v 0) (q_a (q_v 1) ag)) bU) (fO (aM (jX hr.units) (aB o8 (hr.mono (by decide)) (q_a (q_v 0) (q_a aj (q_a (aE (q_a (q_v 3) (q_a (aD aI (q_v 1) aj) (q_a (aE (q_a aG (q_a bA (q_a (aE (q_a aj ag)) (q_a aG ag))))) ag)))) ag)))) (q_v 4))))) (b_1 (au bU)) b_0)
   (b_c (aU (t_w (ii (aM (jX hr.units) (aB o8 (hr.mono (by decide)) (q_a (q_v 0) (q_a aj (q_a bA ag)))) (aE (q_a aG (q_a bA ag)))) (fO (aM ye (iy i8 (hr.mono (by decide)) (q_v 0) (q_a (q_v 1) ag)) bU)))) (b_1 (au bU)) b_0)
   (b_c (aH (i:=5) eY.nd (aB o8 (hr.mono (by decide)) (q_a (q_v 0) (q_a aj (q_a bA ag)))))
   (b_1 (au (vX (bt (vF hr.units) (q_v 5) (q_v 4)) (bQ (bM (bt (vF hr.units) (q_v 5) (aE (q_a aG (q_a bA ag)))) (bQ (vW (q_v 2))))))))))))),?_⟩
 try rw[cxK]
 refine⟨_,rfl,a,_,_,_,rfl,rfl,SqT.of e1,rfl,?_⟩;have hat:atI ((aV n me o C).ns.map V.int) (me:Int)=some (.int (aP (vals C) me+1)):=by have:=bI (ns:=(aV n me o C).ns) (k:=(me:Int)) (by omega) (by have:me<(aV n me o C).ns.length:=e4;omega);rw[Zr,ow]at this;exact this
 refine⟨_,rfl,_,rfl,a,_,_,_,rfl,rfl,SqT.of e1,rfl,_,rfl,c,_,_,_,rfl,rfl,SqT.of e2,hat,sz rfl,fun t1 g1=>?_⟩;have w1:=ah g1 (.tup [.int (me:Int),.int (aP (vals C) me+1)]);refine⟨sz rfl,fun t2 g2=>?_⟩;have w2:=ah g2 (.tup [.str "twin",.ref t1]);have w12:=w1.trans w2;have et1:upd (upd H t1 (.tup [.int (me:Int),.int (aP (vals C) me+1)])) t2 (.tup [.str "twin",.ref t1]) t1=some (.tup ((nmN n me C).map V.int)):=w2 _ _ ad;have et2:upd (upd H t1 (.tup [.int (me:Int),.int (aP (vals C) me+1)])) t2 (.tup [.str "twin",.ref t1]) t2=some (.tup [.str "twin",.ref t1]):=ad;generalize upd (upd H t1 (.tup [.int (me:Int),.int (aP (vals C) me+1)])) t2 (.tup [.str "twin",.ref t1])=H2 at w12 et1 et2 ⊢;have S2:=S0.same w12;have hd2:=hd0.same w12;obtain⟨⟨dx,h1⟩,St,_⟩:=id S2.ha;refine⟨_,rfl,h,dx,_,rfl,h1,gd _ _,_,rfl,spHHear.mk h p d a n me L _ rfl S2.ha S2.tb hd2 (kg hm ho ne trivial) (.inl ⟨ll,C0 S0 ho ne,fun H3 kd tb3 hA3=>?_⟩)⟩;have S3:=S2.hold ho ne kd tb3 hA3;have ts3:=kd.ts S2.ha.st.dc;have hd3:=hd2.ts ts3;have et13:=ts3 _ _ et1;have et23:=ts3 _ _ et2;have kd0:KD d H H3:=(KD.of (KT.of w12)).trans kd;clear kd hd2 S2 St h1 hd0;refine⟨_,_,rfl,rfl,_,rfl,ax ?_⟩;obtain⟨c3,v3,x1,x2,x3,x4,x5⟩:=id hd3;have x1:H3 a=some (.tup [.int (me:Int),.ref c3,v3]):=x1;refine⟨_,rfl,_,rfl,_,rfl,a,_,_,_,rfl,rfl,SqT.of x1,rfl,sz rfl,fun z1 y1=>?_⟩;have v1:=ah y1 (.tup [.int 0]);refine⟨sz rfl,fun z2 y2=>?_⟩;have v2:=ah y2 (.tup [.str "put",.non,.ref z1,.str ""]);refine⟨sz rfl,fun z3 y3=>?_⟩;have v3':=ah y3 (.tup [.int (me:Int),.ref c3,.ref z2]);have vv:=v1.trans (v2.trans v3');have dru:DR (upd (upd (upd H3 z1 (.tup [.int 0])) z2 (.tup [.str "put",.non,.ref z1,.str ""])) z3 (.tup [.int (me:Int),.ref c3,.ref z2])) z3 ⟨me,(aV n me o C).ns,zE⟩:=⟨c3,.ref z2,ad,vv _ _ x2,⟨z2,z1,rfl,v3' _ _ ad,v3' _ _ (v2 _ _ ad)⟩,x4,x5⟩
 generalize upd (upd (upd H3 z1 (.tup [.int 0])) z2 (.tup [.str "put",.non,.ref z1,.str ""])) z3 (.tup [.int (me:Int),.ref c3,.ref z2])=H4 at vv dru ⊢;have S4:=S3.same vv;have et14:=vv _ _ et13;have et24:=vv _ _ et23;have hd4:=hd3.same vv;have kd4:KD d H H4:=kd0.trans (KD.of (KT.of vv));have inL:(a,aV n me o C)∈L++[(a,aV n me o C)]:=Zq _ (Zf.mpr rfl);refine⟨h,p,d,n,me,L++[(a,aV n me o C)],1,_,rfl,S4.ha,.inr (.inl ⟨rfl,spHHear.mk h p d z3 n me _ _ rfl S4.ha S4.tb dru (kg hm ho ne ⟨by decide +kernel,by decide +kernel⟩) (.inr (.inr ⟨⟨_,inL,rfl,fun z=>?_⟩,fun H5 tn dd s5 etn edd=>?_⟩))⟩)⟩
 ·have z:aV n me o C=⟨me,(aV n me o C).ns,zE⟩:=z;have zw:(Wh.no:Wh)=zE:=congrArg Dd.w z;cases zw
 refine .inl ⟨rfl,dd,.ref tn,rfl,edd,fun t5 H6 s6 et5=>?_⟩;have s56:=s5.trans s6;have etn6:H6 tn=some (.tup ((nmN n me C).map V.int)):=by rw[s6 _ _ etn];show some (HO.tup ([(me:Int),ai (aV n me o C).ns me].map V.int))=_;rw[ow];rfl
 obtain⟨ln1,ln2⟩:=xS (nmN n me C);refine⟨_,rfl,_,_,cF et5 (NmAt.dt etn6),cF (s56 _ _ et24) (NmAt.dt (s56 _ _ et14)),be eX ln1 ln2,be eX ln1 ln2,_,rfl,?_⟩;rw[iF eX ln1];refine ax ?_;have S6:=S4.same s56;have hd6:=hd4.same s56;have kd6:KD d H H6:=kd4.trans (KD.of (KT.of s56));have et16:=s56 _ _ et14;have et26:=s56 _ _ et24;clear s5 s6 s56 et14 et24 S4 hd4 kd4 etn etn6 et5 edd;refine⟨_,rfl,h,p,d,n,me,L++[(a,aV n me o C)],1,_,rfl,S6.ha,.inr (.inl ⟨rfl,spHHear.bad h p d n me _ .non rfl S6.ha (.flat .non rfl) fun H7 s7=>?_⟩)⟩;refine .inr ⟨rfl,rfl,fun t7 H8 s8 et7=>?_⟩;have s78:=s7.trans s8;refine⟨sz rfl,fun t8 g8=>?_⟩;have w8:=ah g8 (.tup [.str "no deed",.non]);refine⟨_,_,cF (w8 _ _ et7) fZ,cF ad fZ,be jY rfl (by decide),be jY rfl (by decide),_,rfl,?_⟩;rw[iF jY rfl];refine ax ?_;have s9:=s78.trans w8;have S9:=S6.same s9;have hd9:=hd6.same s9;have et19:=s9 _ _ et16;have et29:=s9 _ _ et26;have kd9:KD d H _:=kd6.trans (KD.of (KT.of s9));generalize upd H8 t8 (.tup [.str "no deed",.non])=H9 at S9 hd9 et19 et29 kd9 ⊢;clear s9 s78 s7 s8 w8 S6 hd6 et16 et26 kd6;obtain⟨⟨dx9,h9⟩,_⟩:=id S9.ha;refine⟨_,rfl,h,dx9,_,rfl,h9,gd _ _,_,rfl,spHHear.mk h p d a n me _ _ rfl S9.ha S9.tb hd9 (kg hm ho ne trivial) (.inr (.inl ⟨⟨_,inL,rfl⟩,fun H10 s10=>?_⟩))⟩;refine⟨_,_,rfl,rfl,_,rfl,ax ?_⟩;have S10:=S9.same s10;have et110:=s10 _ _ et19;have et210:=s10 _ _ et29;have kd10:KD d H H10:=kd9.trans (KD.of (KT.of s10));clear S9 et19 et29 kd9 hd9;refine⟨_,rfl,h,p,d,n,me,L++[(a,aV n me o C)],2,_,rfl,S10.ha,.inr (.inr ⟨rfl,⟨h,p,d,n,me,_,C,rfl,S10.ha,S10.tb,S10.rdy,S10.ch,S10.lenC,S10.stuck rfl,fun nc H11 k11 tb11=>?_,fun tn dd H11 k11 tb11 etn edd=>?_⟩⟩)⟩
 ·intro tt H12 s12 ett;have S12:=(S10.kt k11 tb11).same s12;have ts12:TS H10 H12:=TS.trans k11.ts (Same.ts s12);have kd12:KD d H H12:=kd10.trans (KD.of (k11.trans (KT.of s12)));have hp:ip=false:=by
   cases ip with
   |false=>rfl
   |true=>exact absurd (hi rfl) nc
  refine⟨_,rfl,_,rfl,_,_,cF ett fZ,cF (ts12 _ _ et210) (NmAt.dt (ts12 _ _ et110)),be iR rfl (by decide),be eX ln1 ln2,_,rfl,?_⟩;rw[FD (by decide +kernel)];refine ax ?_;refine⟨_,rfl,sz rfl,fun t13 g13=>?_⟩;have w13:=ah g13 (.tup [.str "done",.non]);refine⟨_,_,cF (w13 _ _ ett) fZ,cF ad fZ,be iR rfl (by decide),be iR rfl (by decide),_,rfl,?_⟩;rw[iF iR rfl];refine aL ⟨_,rfl,_,rfl,?_⟩;rw[hp];exact q _ (kd12.trans (KD.of (KT.of w13))) (S12.same w13)
 ·refine .inl ⟨rfl,dd,.ref tn,rfl,edd,fun tt H12 s12 ett=>?_⟩;have S12:=(S10.kt k11 tb11).same s12;have ts12:TS H10 H12:=TS.trans k11.ts (Same.ts s12);have kd12:KD d H H12:=kd10.trans (KD.of (k11.trans (KT.of s12)));refine⟨_,rfl,_,rfl,_,_,cF ett (NmAt.dt (s12 _ _ etn)),cF (ts12 _ _ et210) (NmAt.dt (ts12 _ _ et110)),be eX ln1 ln2,be eX ln1 ln2,_,rfl,?_⟩;rw[iF eX ln1];exact aL (q _ kd12 S12)
theorem Ca:PyProof.Rows.KTD.datumAt ("mark":Str) DT=some (tw ([Kd.i,.b].map nm)):=by with_unfolding_all rfl
def nsN(n me:Nat)(C:LT):List Int:=aq (ar n (vals C)) me
def BadW(K:PySem.W.Frag)(n me:Nat)(C:LT)(H:Hp)(v:V):Prop:=∀H',KT H H'->WhatR K H' (me:Int) (nsN n me C) v false
theorem BadW.kt{n me:Nat}{C:LT}{H H':Hp}{v:V}(b:BadW K n me C H v)(k:KT H H'):BadW K n me C H' v:=fun H2 k2=>b H2 (k.trans k2)
def WtR(K:PySem.W.Frag)(n me:Nat)(C:LT)(H:Hp)(v:V)(b:Bool):Prop:=(b=true/\∃w,WR H v w/\qI me (nsN n me C) w)\/(b=false/\BadW K n me C H v)
theorem jq{n me:Nat}{C:LT}(hm:me<n){i j:Int}:eC (me:Int) (nsN n me C) i j=true↔0<=i/\i<(n:Int)/\1<=j/\j<=aP (vals C) i.toNat:=by
 unfold eC nmL nsN;have ln:((aq (ar n (vals C)) me).length:Int)=(n:Int):=by rw[dX hm]
 rw[ln,Zr,cZ hm];simp only[Zk,Z6,Bool.not_eq_true',decide_eq_false_iff_not];constructor
 ·rintro⟨⟨a,b,c⟩,d,e⟩;refine⟨a,b,c,?_⟩;by_cases q:i.toNat=me
  ·rw[q]at d ⊢;rw[cZ hm]at d;have:¬j=aP (vals C) me+1:=fun z=>e (by rw[z,show i=(me:Int) by omega]);omega
  ·rw[kP hm (by omega) q]at d;exact d
 ·rintro⟨a,b,c,d⟩;refine⟨⟨a,b,c⟩,?_,fun z=>?_⟩
  ·by_cases q:i.toNat=me
   ·rw[q]at d ⊢;rw[cZ hm];omega
   ·rw[kP hm (by omega) q];exact d
  ·injection z with z1 z2;injection z2 with z2;rw[z1,Zr]at d;omega
section
variable{n me:Nat}{C:LT}{H:Hp}
theorem kC{v:V}{t:String}(ty:∀H',TyOf K H' v (.type t))(h:∀H',L2.isT H' v=false):BadW K n me C H v:=fun H' _=>.flat (ty H') (h H')
theorem BS{l:Addr}{xs:List V}(e:H l=some (.lst xs)):BadW K n me C H (.ref l):=fun H' k=>by
 have e':=k _ _ e fun ps z=>by cases z
 exact .flat (.lst e') (bK e' (b:=false) rfl)
theorem BR{t:Addr}(e:H t=some (.tup [])):BadW K n me C H (.ref t):=fun H' k=>.emp (k.ts _ _ e)
theorem BT{t:Addr}(e:H t=some (.tup [.str "none",.int 1])):BadW K n me C H (.ref t):=fun H' k=>.len (k.ts _ _ e) ul (by decide)
theorem Dp{t q:Addr}(e:H t=some (.tup [.str "put",.non,.ref q,.str ""]))(e2:H q=some (.tup [])):BadW K n me C H (.ref t):=fun H' k=>by
 have e3:=k.ts _ _ e2;refine .is (ks:=[.u,.p,.t]) (bs:=[true,false,true]) (k.ts _ _ e) rE (by decide) ⟨rfl,rfl,fun i k v b h1 h2 h3=>?_⟩ rfl
 match i with
 |0=>cases h1;cases h2;cases h3;exact .u0
 |1 =>
  cases h1;cases h2;cases h3;refine .pl ⟨⟨_,.tup e3⟩,fun a xs ha hx=>?_⟩ ?_
  ·cases ha;rw[e3]at hx;cases hx;exact⟨by simp,fun x hx=>nomatch hx⟩
  ·show ix (H' q)=false;rw[e3];rfl
 |2=>cases h1;cases h2;cases h3;exact .tx (by decide +kernel) (by decide +kernel) (by decide +kernel)
 |i+3=>simp at h1
theorem Do{t q:Addr}(e:H t=some (.tup [.str "mark",.ref q,.int 1]))(e2:H q=some (.tup [.int 0,.int 1])):BadW K n me C H (.ref t):=fun H' k=>by
 refine .is (ks:=[.i,.b]) (bs:=[eC (me:Int) (nsN n me C) 0 1,false]) (k.ts _ _ e) Ca (by decide) ⟨rfl,rfl,fun i k' v b h1 h2 h3=>?_⟩ (by simp)
 match i with
 |0=>cases h1;cases h2;cases h3;exact .it (.is (k.ts _ _ e2))
 |1=>cases h1;cases h2;cases h3;exact .bl (.int 1) rfl
 |i+2=>simp at h1
theorem BU{t q r:Addr}(hm:me<n)(e:H t=some (.tup [.str "put",.ref q,.ref r,.str ""]))(e2:H q=some (.tup [.int (me:Int),.int (aP (vals C) me+1)]))(e3:H r=some (.tup [.int 0])):BadW K n me C H (.ref t):=fun H' k=>by
 have kb:eC (me:Int) (nsN n me C) (me:Int) (aP (vals C) me+1)=false:=by refine ZL.mpr fun z=>?_;obtain⟨_,_,_,z⟩:=(jq hm).mp z;rw[Zr]at z;omega
 have e4:=k.ts _ _ e3;refine .is (ks:=[.u,.p,.t]) (bs:=[false,true,true]) (k.ts _ _ e) rE (by decide) ⟨rfl,rfl,fun i k' v b h1 h2 h3=>?_⟩ rfl
 match i with
 |0 =>cases h1;cases h2;cases h3;have:=PartR.up (K:=K) (H:=H') (hd:=(me:Int)) (ns:=nsN n me C) (v:=.ref q) (fun z=>nomatch z) (.is (k.ts _ _ e2));rw[kb]at this;exact this
 |1 =>
  cases h1;cases h2;cases h3;refine .pl ⟨⟨_,.tup e4⟩,fun a xs ha hx=>?_⟩ ?_
  ·cases ha;rw[e4]at hx;cases hx;refine⟨by simp,fun x hx=>?_⟩;rw[Zf.mp hx];exact⟨_,.int 0⟩
  ·show ix (H' r)=true;rw[e4];rfl
 |2=>cases h1;cases h2;cases h3;exact .tx (by decide +kernel) (by decide +kernel) (by decide +kernel)
 |i+3=>simp at h1
theorem Fe{t q:Addr}{b g:Bool}{i j:Int}(hm:me<n)(e:H t=some (.tup [.str (tkW b),.ref q]))(e2:H q=some (.tup [.int i,.int j]))(hg:g=true↔0<=i/\i<(n:Int)/\1<=j/\j<=aP (vals C) i.toNat):WtR K n me C H (.ref t) g:=by
 cases hg':g with
 |true =>exact .inl ⟨rfl,.itm b i j,⟨t,q,rfl,e,e2⟩,(jq hm).mpr (hg.mp hg')⟩
 |false =>
  refine .inr ⟨rfl,fun H' k=>?_⟩;have kb:eC (me:Int) (nsN n me C) i j=false:=ZL.mpr fun z=>by have:=hg.mpr ((jq hm).mp z);rw[hg']at this;cases this
  refine .is (ks:=[.i]) (bs:=[false]) (k.ts _ _ e) (BJ b) (by decide) ⟨rfl,rfl,fun i k' v b h1 h2 h3=>?_⟩ rfl
  match i with
  |0 =>cases h1;cases h2;cases h3;have:=PartR.it (K:=K) (H:=H') (hd:=(me:Int)) (ns:=nsN n me C) (.is (k.ts _ _ e2));rw[kb]at this;exact this
  |i+1=>simp at h1
theorem zp{t:Addr}{b g:Bool}{j:Int}(hm:me<n)(e:H t=some (.tup [.str (ofW b),.int j]))(hg:g=true↔1<=j/\j<=aP (vals C) me):WtR K n me C H (.ref t) g:=by
 have ow:ai (nsN n me C) me=aP (vals C) me+1:=cZ hm;cases hg':g with
 |true =>obtain⟨g1,g2⟩:=hg.mp hg';exact .inl ⟨rfl,.trn b j,⟨t,rfl,e⟩,g1,by rw[ow];omega⟩
 |false =>
  refine .inr ⟨rfl,fun H' k=>?_⟩;refine .is (ks:=[.n]) (bs:=[false]) (k.ts _ _ e) (Bw b) (by decide) ⟨rfl,rfl,fun i k' v b h1 h2 h3=>?_⟩ rfl
  match i with
  |0 =>cases h1;cases h2;cases h3;refine .nu (.int j) ?_;show(decide (1<=j)&&decide (j<ai (nsN n me C) ((me:Nat):Int).toNat))=false;rw[Zr,ow];refine ZL.mpr fun z=>?_;rw[Zk]at z;have:=hg.mpr ⟨ZS z.1,by have:=ZS z.2;omega⟩;rw[hg']at this;cases this
  |i+1=>simp at h1
end
theorem DQ{m:Int}(h0:0<=m)(h1:m<10^9):PyData.strOk (("new ":Str)++cy m)=true/\cX (("new ":Str)++cy m)=true/\(("new ":Str)++cy m).length<=60:=by
 have sg:cX (("new ":Str)++cy m)=true:=by
  unfold cX;rw[ZC];intro c hc;rw[EZ]at hc;rcases ZD.mp hc with hc|hc
  ·have:∀c∈("new ":Str).cps.toList,eZ c=true:=by decide +kernel
   exact this c hc
  ·have h:=vp m c hc;have:∀c:Fin 58,(c.val=45\/48<=c.val)->eZ c.val=true:=by decide +kernel
   exact this ⟨c,by omega⟩ (by show c=45\/48<=c;omega)
 refine⟨?_,sg,?_⟩
 ·unfold cX at sg;rw[ZC]at sg;unfold PyData.strOk;rw[<-Array.all_toList,ZC];intro c hc;have:=sg c hc;unfold eZ at this;simp only[Zk,Z6]at this;exact decide_eq_true (by omega)
 ·have:=Af (k:=9) (i:=m) (by omega);rw[show(("new ":Str)++cy m).length=("new ":Str).length+(cy m).length from by rw[Str.length_append],show("new ":Str).length=4 from rfl];omega
inductive spWhat(K:PySem.W.Frag)(vs:List V)(H:Hp)(Q:VK)(E_:XK):Prop
 |mk (cl:Addr) (n me:Nat) (C:LT) (cell:Int) (h0:vs=[.int cell,.ref cl,.int (me:Int)]) (h1:H cl=some (.lst ((ar n (vals C)).map V.int))) (hm:me<n) (n8:n<=8)
   (q:∀t v b H',Same H H'->H' t=some (.tup [v,.bl b])->WtR K n me C H' v b->Q (.ref t) H'):spWhat K vs H Q E_
theorem WtR.same{n me:Nat}{C:LT}{H H':Hp}{v:V}{b:Bool}(x:WtR K n me C H v b)(s:Same H H'):WtR K n me C H' v b:=by
 rcases x with⟨h1,w,h2,h3⟩|⟨h1,h2⟩
 ·exact .inl ⟨h1,w,h2.ts (Same.ts s),h3⟩
 ·exact .inr ⟨h1,h2.kt (.of s)⟩
abbrev rO:Stmt:=top 89
abbrev Dk:List Str:=["_law_cell","_law_counts","_law_me","_law_way","_law_number","_law_hand","_law_name","_law_good","_law_some"]
theorem eR:FnScope Dk ["_law_cell","_law_counts","_law_me"] (al rO):=⟨rfl,rfl,rfl,by decide +kernel,rfl,by decide +kernel,by decide +kernel⟩
theorem Cj{f:Addr}{fd:FuncData}(F:Fun K "_law_what" "_law_what" rO f fd)(dg:PySem.W.nsIn K cStatics "sys.int_max_str_digits" = some none)(u5:mg "str" = none)(a7:mg "len" = none):FnOk P w K mg base CX0 1 f fd ["_law_cell","_law_counts","_law_me"] (spWhat K):=by
 refine F.okQ eR (fun vs H Q E h=>?_) (fun cdv A outer s H vs Q E hr h=>?_)
 ·obtain⟨cl,n,me,C,cell,rfl,_⟩:=h;rfl
 obtain⟨cl,n,me,C,cell,rfl,ec,hm,n8,q⟩:=h;refine⟨_,(b_c (aH (i:=3) eR.nd (aN cA (q_v 0) aj))
   (b_c (aH (i:=4) eR.nd (aN mh (q_v 0) aj))
   (b_c (aU (aM jt (q_v 3) aj) (b_1 (au (aE (q_a (aD bZ (fK (q_a (aE (q_a aG ag)) (q_a (aE (q_a aG (q_a bA (q_a (aE (q_a (aN cA (q_v 4) (aN Bv aj aj)) ag)) (q_a (aN DX aG (jv (BV (K:=K) rfl rfl dg) u5 kE (q_a (aN cA (q_v 4) (aN Bv aj aj)) ag))) ag))))) ag))) (q_v 3)) (q_a bU ag))))) b_0)
   (b_c (aU (aM jt (q_v 3) aj) (b_c (aH (i:=5) eR.nd (aN cA (q_v 4) (aN cG (q_B df a7 Z1 (q_a (q_v 1) ag)) aj)))
   (b_c (aH (i:=6) eR.nd (aE (q_a (q_v 5) (q_a (aN cA (aN mh (q_v 4) aj) aj) ag))))
   (b_c (aH (i:=7) eR.nd (bM (bt jt (q_v 5) (q_B df a7 Z1 (q_a (q_v 1) ag))) (bM (bt DY (aD aI (q_v 6) aj) aj) (bQ (bt iQ (aD aI (q_v 6) aj) (aD bZ (aN Bu (q_v 1) (fK (q_a aj ag))) (q_v 5)))))))
   (b_1 (au (aE (q_a (aE (q_a (aD bZ (fK (q_a aG (q_a aG ag))) (aN qk (q_v 3) aj)) (q_a (q_v 6) ag))) (q_a (q_v 7) ag)))))))) b_0)
   (b_c (aU (aM jt (q_v 3) aj) (b_1 (au (aE (q_a (aE (q_a (aD bZ (fK (q_a aG (q_a aG ag))) (aN qk (q_v 3) aj)) (q_a (aN cA (q_v 4) aj) ag))) (q_a (bM (bt iQ aj (aN cA (q_v 4) aj)) (bQ (bt iQ (aN cA (q_v 4) aj) (aD bZ (q_v 1) (q_v 2))))) ag))))) b_0)
   (b_c (aU (aM cJ (q_v 3) aj) (b_1 (au (aE (q_a (aE (q_a aG (q_a (aE (q_a (q_v 2) (q_a (aN cG (aD bZ (q_v 1) (q_v 2)) aj) ag))) (q_a (aE (q_a aj ag)) (q_a aG ag))))) (q_a bU ag))))) b_0)
   (b_c (aH (i:=8) eR.nd (fK (q_a bA (q_a aG (q_a (fK (q_a aG ag)) (q_a (aE ag) (q_a (aE (q_a aG (q_a aj ag))) (q_a aj (q_a (aE (q_a aG (q_a bA (q_a (aE ag) (q_a aG ag))))) (q_a (aE (q_a aG (q_a (aE (q_a aj (q_a aj ag))) (q_a aj ag)))) ag))))))))))
   (b_1 (au (aE (q_a (aD bZ (q_v 8) (aN cA (q_v 4) aj)) (q_a bU ag)))))))))))),?_⟩
 try rw[cxK]
 have a0:=y9 cell (show(8:Int)≠0 by decide);have a1:=Yf cell (show(0:Int)<8 by decide);refine⟨_,rfl,_,_,rfl,rfl,(by show(0:Int)<8;decide),?_⟩;refine⟨_,rfl,_,_,rfl,rfl,⟨by decide,by decide⟩,?_⟩;dsimp only;generalize cell%8=way at a0 a1 ⊢;generalize cell / 8=nr;have at_:∀{cs:List Int} {k:Nat},k<cs.length->atI (cs.map V.int) (k:Int)=some (.int (ai cs k)):=fun{cs k} hk=>by
  have:=bI (ns:=cs) (k:=(k:Int)) (by omega) (by omega)
  rwa [Zr]at this
 have lc:(ar n (vals C)).length=n:=aw _ _;refine⟨_,rfl,_,_,rfl,rfl,_,rfl,kJ (fun h2=>?_) (fun h2=>?_)⟩
 ·refine⟨sz rfl,fun t1 g1=>?_⟩;have w1:=ah g1 (.tup [.str "none"]);refine⟨_,rfl,_,_,rfl,rfl,⟨by decide,by decide,by decide⟩,_,_,rfl,rfl,(by show(0:Int)<10^30;decide),sz rfl,fun t2 g2=>?_⟩;rw[show(10:Int)^Int.toNat 30=10^30 from rfl];have w2:=ah g2 (.tup [.int (nr%10^30)]);have b0:=y9 nr (show((10:Int)^9)≠0 by decide);have b1:=Yf nr (show(0:Int)<10^9 by decide);obtain⟨o1,o2,o3⟩:=DQ b0 b1;have li:(cy (nr%10^9)).length<=60:=by
   have:(("new ":Str)++cy (nr%10^9)).length=("new ":Str).length+(cy (nr%10^9)).length:=by rw[Str.length_append]
   omega
  have big:(nr%10^9).natAbs<10^4300:=Zo (show(nr%10^9).natAbs<10^9 by omega) (Nat.pow_le_pow_right (by decide) (by decide));refine⟨_,rfl,_,_,rfl,rfl,⟨by decide,by decide,by decide⟩,_,_,rfl,rfl,(by show(0:Int)<10^9;decide),_,rfl,big,_,_,rfl,rfl,dH (by show 4+_<=1000;omega),sz rfl,fun t3 g3=>?_⟩;rw[show(10:Int)^Int.toNat 9=10^9 from rfl];have w3:=ah g3 (.tup [.str "put",.non,.ref t2,.str (("new ":Str)++cy (nr%10^9))]);refine⟨sz rfl,fun l4 g4=>?_⟩;have w4:=ah g4 (.lst [.ref t1,.ref t3]);have e1:=w4 _ _ (w3 _ _ (w2 _ _ (ad (H:=H) (a:=t1) (o:=.tup [.str "none"]))));have e2:=w4 _ _ (w3 _ _ (ad (H:=upd H t1 (.tup [.str "none"])) (a:=t2) (o:=.tup [.int (nr%10^30)])));have e3:=w4 _ _ (ad (H:=upd (upd H t1 (.tup [.str "none"])) t2 (.tup [.int (nr%10^30)])) (a:=t3) (o:=.tup [.str "put",.non,.ref t2,.str (("new ":Str)++cy (nr%10^9))]));have el:upd (upd (upd (upd H t1 (.tup [.str "none"])) t2 (.tup [.int (nr%10^30)])) t3 (.tup [.str "put",.non,.ref t2,.str (("new ":Str)++cy (nr%10^9))])) l4 (.lst [.ref t1,.ref t3]) l4=some (.lst [.ref t1,.ref t3]):=ad;have W:=w1.trans (w2.trans (w3.trans w4));generalize upd (upd (upd (upd H t1 (.tup [.str "none"])) t2 (.tup [.int (nr%10^30)])) t3 (.tup [.str "put",.non,.ref t2,.str (("new ":Str)++cy (nr%10^9))])) l4 (.lst [.ref t1,.ref t3])=H4 at e1 e2 e3 el W ⊢;obtain⟨v,hat,wt⟩:∃v,atI [V.ref t1,V.ref t3] way=some v/\WtR K n me C H4 v true:=by
   rcases(show way=0\/way=1 by omega)with rfl|rfl
   ·exact⟨_,rfl,.inl ⟨rfl,.no,⟨t1,rfl,e1⟩,trivial⟩⟩
   ·exact⟨_,rfl,.inl ⟨rfl,.put (nr%10^30) ⟨_,o1⟩,⟨t3,t2,rfl,e3,e2⟩,o2,o3⟩⟩
  refine⟨_,rfl,l4,_,_,_,rfl,rfl,SqL.of el,hat,sz rfl,fun t gt=>?_⟩;have wt':=ah gt (.tup [v,.bl true]);exact q t v true _ (W.trans wt') ad (wt.same wt')
 refine⟨_,rfl,_,_,rfl,rfl,_,rfl,kJ (fun h4=>?_) (fun h4=>?_)⟩
 ·refine⟨_,rfl,_,rfl,cl,_,rfl,.inl (SqL.of ec),_,_,rfl,rfl,_,_,rfl,rfl,(by show(0:Int)<(((ar n (vals C)).map V.int).length:Int)+1;omega),?_⟩;rw[Za,lc];have i0:=y9 nr (show(n:Int)+1≠0 by omega);have i1:=Yf nr (show(0:Int)<(n:Int)+1 by omega);have j0:=y9 (nr / 10) (show(8:Int)≠0 by decide);generalize ei:nr%((n:Int)+1)=i at i0 i1 ⊢;refine⟨_,rfl,_,rfl,_,_,rfl,rfl,⟨by decide,by decide⟩,_,_,rfl,rfl,(by show(0:Int)<8;decide),sz rfl,fun t1 g1=>?_⟩;generalize nr / 10%8=j at j0 ⊢;have w1:=ah g1 (.tup [.int i,.int j]);have e1:upd H t1 (.tup [.int i,.int j]) t1=some (.tup [.int i,.int j]):=ad;have ec1:=w1 _ _ ec;generalize upd H t1 (.tup [.int i,.int j])=H1 at w1 e1 ec1 ⊢;dsimp only[bz];refine eS (fun σ' H'=>∃g:Bool,(g=true↔0<=i/\i<(n:Int)/\1<=j/\j<=aP (vals C) i.toNat)/\Same H1 H'/\σ'=[some (.int cell),some (.ref cl),some (.int (me:Int)),some (.int way),some (.int nr),some (.int i),some (.ref t1),some (.bl g),none]) (fun R hR=>?_) ?_
  ·refine⟨_,rfl,_,rfl,cl,_,rfl,.inl (SqL.of ec1),_,_,rfl,rfl,_,rfl,?_⟩;rw[Za,lc];refine kJ (fun c1=>?_) (fun c1=>hR _ _ ⟨false,⟨fun z=>(by cases z),fun z=>absurd z.2.1 c1⟩,Same.refl _,rfl⟩);refine⟨_,rfl,t1,_,_,_,rfl,rfl,SqT.of e1,rfl,_,_,rfl,rfl,_,rfl,kJ (fun c2=>?_) (fun c2=>hR _ _ ⟨false,⟨fun z=>(by cases z),fun z=>absurd (show j>0 by omega) c2⟩,Same.refl _,rfl⟩)⟩;refine⟨_,rfl,t1,_,_,_,rfl,rfl,SqT.of e1,rfl,_,rfl,sz rfl,fun l1 gl1=>?_⟩;have v1:=ah gl1 (.lst [.int 0]);refine⟨cl,l1,_,_,rfl,rfl,v1 _ _ ec1,ad,dH (by rw[Za,lc,ZE];omega),fun l2 gl2=>?_⟩;have v2:=v1.trans (ah gl2 (.lst ((ar n (vals C)).map V.int++[.int 0])));have hat:atI ((ar n (vals C)).map V.int++[.int 0]) i=some (.int (aP (vals C) i.toNat)):=by
    have hi:i.toNat<n:=by omega
    have:=il (xs:=(ar n (vals C)).map V.int++[.int 0]) (j:=i.toNat) (v:=.int (aP (vals C) i.toNat)) (by
     rw[Yl (by rw[Za,lc];exact hi),Zx,<-ba (ds:=vals C) hi];unfold ai;rw[Zd (by rw[lc];exact hi)];rfl)
    rwa [show((i.toNat:Nat):Int)=i by omega]at this
   refine⟨_,rfl,l2,_,_,_,rfl,rfl,SqL.of ad,hat,_,_,rfl,rfl,hR _ _ ⟨_,?_,v2,rfl⟩⟩;rw[Z6];exact⟨fun z=>⟨i0,c1,by omega,z⟩,fun z=>z.2.2.2⟩
  rintro _ H2 ⟨g,hg,s2,rfl⟩;have e2:=s2 _ _ e1;refine⟨sz rfl,fun l3 g3=>?_⟩;have w3:=ah g3 (.lst [.str "take",.str "back"]);obtain⟨b,hat⟩:∃b,atI [V.str "take",V.str "back"] (way-2)=some (.str (tkW b)):=by
   rcases(show way=2\/way=3 by omega)with rfl|rfl
   ·exact⟨false,rfl⟩
   ·exact⟨true,rfl⟩
  refine⟨_,rfl,_,_,rfl,rfl,l3,_,_,_,rfl,rfl,SqL.of ad,hat,_,rfl,sz rfl,fun t4 g4=>?_⟩;have w4:=ah g4 (.tup [.str (tkW b),.ref t1]);refine⟨_,rfl,sz rfl,fun t gt=>?_⟩;have w5:=ah gt (.tup [.ref t4,.bl g]);have W:=w3.trans (w4.trans w5);exact q t _ g _ (w1.trans (s2.trans W)) ad (Fe hm (w5 _ _ ad) (W _ _ e2) hg)
 refine⟨_,rfl,_,_,rfl,rfl,_,rfl,kJ (fun h6=>?_) (fun h6=>?_)⟩
 ·refine⟨sz rfl,fun l3 g3=>?_⟩;have w3:=ah g3 (.lst [.str "off",.str "on"]);obtain⟨b,hat⟩:∃b,atI [V.str "off",V.str "on"] (way-4)=some (.str (ofW b)):=by
   rcases(show way=4\/way=5 by omega)with rfl|rfl
   ·exact⟨false,rfl⟩
   ·exact⟨true,rfl⟩
  refine⟨_,rfl,_,_,rfl,rfl,l3,_,_,_,rfl,rfl,SqL.of ad,hat,_,rfl,_,_,rfl,rfl,(by show(0:Int)<8;decide),sz rfl,fun t4 g4=>?_⟩;have w4:=ah g4 (.tup [.str (ofW b),.int (nr%8)]);have e4:upd (upd H l3 (.lst [.str "off",.str "on"])) t4 (.tup [.str (ofW b),.int (nr%8)]) t4=some (.tup [.str (ofW b),.int (nr%8)]):=ad;have W:=w3.trans w4;have ec4:=W _ _ ec;generalize upd (upd H l3 (.lst [.str "off",.str "on"])) t4 (.tup [.str (ofW b),.int (nr%8)])=H4 at e4 W ec4 ⊢;refine⟨_,rfl,_,_,rfl,rfl,(by show(0:Int)<8;decide),_,_,rfl,rfl,_,rfl,kJ (fun c1=>?_) (fun c1=>?_)⟩
  ·refine⟨_,rfl,_,_,rfl,rfl,(by show(0:Int)<8;decide),_,rfl,_,rfl,cl,_,_,_,rfl,rfl,SqL.of ec4,at_ (show me<(ar n (vals C)).length by omega),_,_,rfl,rfl,sz rfl,fun t gt=>?_⟩;rw[ba hm];have w5:=ah gt (.tup [.ref t4,.bl (decide (nr%8<=aP (vals C) me))]);refine q t _ _ _ (W.trans w5) ad (zp hm (w5 _ _ e4) ?_);rw[Z6];exact⟨fun z=>⟨c1,z⟩,fun z=>z.2⟩
  ·refine⟨sz rfl,fun t gt=>?_⟩;have w5:=ah gt (.tup [.ref t4,.bl false]);exact q t _ _ _ (W.trans w5) ad (zp hm (w5 _ _ e4) ⟨fun z=>(by cases z),fun z=>absurd z.1 c1⟩)
 refine⟨_,rfl,rfl,_,rfl,nq (fun h7=>?_) (fun h7=>?_)⟩
 ·refine⟨_,rfl,_,rfl,_,rfl,cl,_,_,_,rfl,rfl,SqL.of ec,at_ (show me<(ar n (vals C)).length by omega),_,_,rfl,rfl,sz rfl,fun t1 g1=>?_⟩;rw[ba hm];have w1:=ah g1 (.tup [.int (me:Int),.int (aP (vals C) me+1)]);refine⟨sz rfl,fun t2 g2=>?_⟩;have w2:=ah g2 (.tup [.int 0]);refine⟨sz rfl,fun t3 g3=>?_⟩;have w3:=ah g3 (.tup [.str "put",.ref t1,.ref t2,.str ""]);refine⟨sz rfl,fun t gt=>?_⟩;have w4:=ah gt (.tup [.ref t3,.bl false]);exact q t _ _ _ (w1.trans (w2.trans (w3.trans w4))) ad (.inr ⟨rfl,BU hm (w4 _ _ ad) (w4 _ _ (w3 _ _ (w2 _ _ ad))) (w4 _ _ (w3 _ _ ad))⟩)
 refine⟨sz rfl,fun l1 g1=>?_⟩;have w1:=ah g1 (.lst [.str "none"]);have e1:upd H l1 (.lst [.str "none"]) l1=some (.lst [.str "none"]):=ad;generalize upd H l1 (.lst [.str "none"])=H1 at w1 e1 ⊢;refine⟨sz rfl,fun t2 g2=>?_⟩;have w2:=ah g2 (.tup []);have e2:upd H1 t2 (.tup []) t2=some (.tup []):=ad;generalize upd H1 t2 (.tup [])=H2 at w2 e2 ⊢;refine⟨sz rfl,fun t3 g3=>?_⟩;have w3:=ah g3 (.tup [.str "none",.int 1]);have e3:upd H2 t3 (.tup [.str "none",.int 1]) t3=some (.tup [.str "none",.int 1]):=ad;generalize upd H2 t3 (.tup [.str "none",.int 1])=H3 at w3 e3 ⊢;refine⟨sz rfl,fun t4 g4=>?_⟩;have w4:=ah g4 (.tup []);have e4:upd H3 t4 (.tup []) t4=some (.tup []):=ad;generalize upd H3 t4 (.tup [])=H4 at w4 e4 ⊢;refine⟨sz rfl,fun t5 g5=>?_⟩;have w5:=ah g5 (.tup [.str "put",.non,.ref t4,.str ""]);have e5:upd H4 t5 (.tup [.str "put",.non,.ref t4,.str ""]) t5=some (.tup [.str "put",.non,.ref t4,.str ""]):=ad;generalize upd H4 t5 (.tup [.str "put",.non,.ref t4,.str ""])=H5 at w5 e5 ⊢;refine⟨sz rfl,fun t6 g6=>?_⟩;have w6:=ah g6 (.tup [.int 0,.int 1]);have e6:upd H5 t6 (.tup [.int 0,.int 1]) t6=some (.tup [.int 0,.int 1]):=ad;generalize upd H5 t6 (.tup [.int 0,.int 1])=H6 at w6 e6 ⊢;refine⟨sz rfl,fun t7 g7=>?_⟩;have w7:=ah g7 (.tup [.str "mark",.ref t6,.int 1]);have e7:upd H6 t7 (.tup [.str "mark",.ref t6,.int 1]) t7=some (.tup [.str "mark",.ref t6,.int 1]):=ad;generalize upd H6 t7 (.tup [.str "mark",.ref t6,.int 1])=H7 at w7 e7 ⊢;refine⟨sz rfl,fun l8 g8=>?_⟩;have w8:=ah g8 (.lst [.non,.str "none",.ref l1,.ref t2,.ref t3,.int 7,.ref t5,.ref t7]);have e8:upd H7 l8 (.lst [.non,.str "none",.ref l1,.ref t2,.ref t3,.int 7,.ref t5,.ref t7]) l8=some (.lst [.non,.str "none",.ref l1,.ref t2,.ref t3,.int 7,.ref t5,.ref t7]):=ad;generalize upd H7 l8 (.lst [.non,.str "none",.ref l1,.ref t2,.ref t3,.int 7,.ref t5,.ref t7])=H8 at w8 e8 ⊢;have k0:=y9 nr (show(8:Int)≠0 by decide);have k1:=Yf nr (show(0:Int)<8 by decide);have W:=w1.trans (w2.trans (w3.trans (w4.trans (w5.trans (w6.trans (w7.trans w8))))));obtain⟨v,hat,bad⟩:∃v,atI [.non,.str "none",.ref l1,.ref t2,.ref t3,.int 7,.ref t5,.ref t7] (nr%8)=some v/\BadW K n me C H8 v:=by
  generalize nr%8=x at k0 k1;rcases(show x=0\/x=1\/x=2\/x=3\/x=4\/x=5\/x=6\/x=7 by omega)with rfl|rfl|rfl|rfl|rfl|rfl|rfl|rfl
  ·exact⟨_,rfl,kC (fun _=>.non) fun _=>rfl⟩
  ·exact⟨_,rfl,kC (fun _=>.str _) fun _=>rfl⟩
  ·exact⟨_,rfl,BS (w8 _ _ (w7 _ _ (w6 _ _ (w5 _ _ (w4 _ _ (w3 _ _ (w2 _ _ e1)))))))⟩
  ·exact⟨_,rfl,BR (w8 _ _ (w7 _ _ (w6 _ _ (w5 _ _ (w4 _ _ (w3 _ _ e2))))))⟩
  ·exact⟨_,rfl,BT (w8 _ _ (w7 _ _ (w6 _ _ (w5 _ _ (w4 _ _ e3)))))⟩
  ·exact⟨_,rfl,kC (fun _=>.int _) fun _=>rfl⟩
  ·exact⟨_,rfl,Dp (w8 _ _ (w7 _ _ (w6 _ _ e5))) (w8 _ _ (w7 _ _ (w6 _ _ (w5 _ _ e4))))⟩
  ·exact⟨_,rfl,Do (w8 _ _ e7) (w8 _ _ (w7 _ _ e6))⟩
 refine⟨_,rfl,_,rfl,_,_,rfl,rfl,(by show(0:Int)<8;decide),l8,_,_,_,rfl,rfl,SqL.of e8,hat,sz rfl,fun t gt=>?_⟩;have wt:=ah gt (.tup [v,.bl false]);exact q t v false _ (W.trans wt) ad (.inr ⟨rfl,bad.kt (.of wt)⟩)
theorem Cnts.snoc{me:Nat}{C:LT}{x:Addr×Dd}(h:Cnts me C)(hw:∀k,x.2.w≠.trn false k):Cnts me (C++[x]):=by
 obtain⟨z,hz,h1,h2,h3⟩:=h;refine⟨z,Yg _ hz,h1,h2,fun y hy e=>?_⟩;rcases ZD.mp hy with hy|hy
 ·exact h3 y hy e
 ·rw[Zf.mp hy];exact hw _
theorem Cnts.new{n me:Nat}{C:LT}{a:Addr}{m:Int}{s:TxS}(hm:me<n)(c:Chn n C):Cnts me (C++[(a,aX n me C (.put m s))]):=by
 refine⟨_,Zq _ (Zf.mpr rfl),rfl,rfl,fun y hy e z=>?_⟩;have ow:cg (aX n me C (.put m s))=aP (vals C) me+1:=cZ hm;rcases ZD.mp hy with hy|hy
 ·have f:=(c.fit y hy).wf;have o:=(c.own y hy).2;rw[z]at f;have f2:cg (aX n me C (.put m s))<cg y.2:=f.2;rw[e]at o;omega
 ·rw[Zf.mp hy]at z;cases z
theorem AO(w:Wh):decide (V.str (wW w)=V.str "put")=match w with|.put _ _=>true|_=>false:=by
 cases w with
 |no=>exact(show decide (V.str "none" = V.str "put")=false by decide +kernel)
 |put m s=>exact(show decide (V.str "put" = V.str "put")=true by decide +kernel)
 |itm b h k=>exact(show decide (V.str (tkW b)=V.str "put")=false by cases b<;>decide +kernel)
 |trn b k=>exact(show decide (V.str (ofW b)=V.str "put")=false by cases b<;>decide +kernel)
theorem Au(w:Wh):(!decide (V.str (wW w)=V.str "off"))=match w with|.trn false _=>false|_=>true:=by
 cases w with
 |no=>exact(show(!decide (V.str "none" = V.str "off"))=true by decide +kernel)
 |put m s=>exact(show(!decide (V.str "put" = V.str "off"))=true by decide +kernel)
 |itm b h k=>exact(show(!decide (V.str (tkW b)=V.str "off"))=true by cases b<;>decide +kernel)
 |trn b k =>
  cases b
  ·exact(show(!decide (V.str "off" = V.str "off"))=false by decide +kernel)
  ·exact(show(!decide (V.str "on" = V.str "off"))=true by decide +kernel)
theorem EG{n me:Nat}{C:LT}{a:Addr}{w:Wh}{ip ip':Bool}(hm:me<n)(c:Chn n C)(hi:ip=true->Cnts me C)(e:ip'=((ip ||decide (V.str (wW w)=V.str "put"))&&!decide (V.str (wW w)=V.str "off"))):ip'=true->Cnts me (C++[(a,aX n me C w)]):=fun z=>by
 rw[z,AO,Au]at e;cases w with
 |put m s=>exact .new hm c
 |no =>
  have:ip=true:=by simpa using e.symm
  exact(hi this).snoc fun k z=>by cases z
 |itm b h k =>
  have:ip=true:=by simpa using e.symm
  exact(hi this).snoc fun k z=>by cases z
 |trn b k =>
  cases b with
  |false=>simp at e
  |true =>
   have:ip=true:=by simpa using e.symm
   exact(hi this).snoc fun k z=>by cases z
structure Lp(CH CS T:Addr)(H0 H:Hp)(h p d cl:Addr)(n me o:Nat)(L C:LT)(so:Option (Addr×Dd))(ip:Bool)(sv:V)(bd:Nat)(x:Prop):Prop where
 kx:KX d cl H0 H
 S:Sta CH CS T H h p d cl n me L C so
 hi:ip=true->Cnts me C
 ll:L.length<=bd
 sv:(¬x/\so=none/\sv=.non)\/(x/\∃a,so=some (a,aV n me o C)/\sv=.ref a)
theorem Lp.same{CH CS T:Addr}{H0 H H':Hp}{h p d cl:Addr}{n me o:Nat}{L C:LT}{so:Option (Addr×Dd)}{ip:Bool}{sv:V}{bd:Nat}{x:Prop}(l:Lp CH CS T H0 H h p d cl n me o L C so ip sv bd x)(s:Same H H'):Lp CH CS T H0 H' h p d cl n me o L C so ip sv bd x:=⟨l.kx.trans (KX.of (KT.of s)),l.S.same s,l.hi,l.ll,l.sv⟩
def qq(K:PySem.W.Frag)(T:Addr):Sp:=fun vs H Q _=>∃(a:Addr) (ns:List Int),vs=[.ref a]/\SqL K H a (ns.map V.int)/\ns.length<=63/\H T=some (.tbl #[])/\∀H',Q (.bl true) H'
section
variable{CH CS T h p d cl:Addr}{H H':Hp}{n me:Nat}{L C:LT}
theorem Be{a:Addr}{e:Dd}{N:LT}(S:Sta CH CS T H h p d cl n me L C none)(f:Fit n e)(en:e.ns=aq (ar n (vals C)) e.h)(wt:Wt (L++[(a,e)]) (C++[(a,e)]) N):((C++[(a,e)])++N).filter (cH (ar n (vals C)))=[(a,e)]:=by
 have pm:(L++[(a,e)]).Perm (C++[(a,e)]):=by have:=S.pm;simp only[Option.toList_none,ZO]at this;exact this.append_right _
 have n0:N=[]:=by
  have e0:(L++[(a,e)]).filter (fh (C++[(a,e)]))=[]:=by rw[List.filter_eq_nil_iff];intro x hx;have hx:=pm.mem_iff.mp hx;unfold fh;rw[decide_eq_true (show nmZ x.2∈dz (C++[(a,e)])from Zt.mpr ⟨x,hx,rfl⟩)];exact Zh
  have:=wt.1;rw[e0]at this;exact this.eq_nil
 rw[n0,ZO,y7];have e1:C.filter (cH (ar n (vals C)))=[]:=by rw[List.filter_eq_nil_iff];intro x hx;have o:=(S.ch.own x hx).2;unfold cH;rw[ba (S.ch.fit x hx).hd,decide_eq_false (by unfold cg at o;omega)];exact Zh
 have e2:[(a,e)].filter (cH (ar n (vals C)))=[(a,e)]:=by
  rw[YH,HV ?_]
  ·rfl
  ·unfold cH;refine decide_eq_true ?_;show ai (ar n (vals C)) e.h<ai e.ns e.h;rw[ba f.hd,en,cZ f.hd];omega
 rw[e1,e2];rfl
theorem Sta.rdy_add{a:Addr}{e:Dd}(S:Sta CH CS T H h p d cl n me L C none)(un:UN n (vals (L++[(a,e)])))(f:Fit n e)(en:e.ns=aq (ar n (vals C)) e.h):∀M,RDY (L++[(a,e)]) M->M=C++[(a,e)]:=fun M rd=>by
 refine pe (so:=none) un ?_ (.snoc S.ch f ?_) (fun x z=>by cases z) rd
 ·have:=S.pm;simp only[Option.toList_none,ZO]at this ⊢;exact this.append_right _
 ·rw[en,cE];exact im f.hd
theorem B8(e:Dd):(PyData.list [dD e]).canLay0=true/\SeqAt.shaped (.list [dD e])=true:=by refine⟨?_,wx (L:=[e]) fun _ _=>trivial⟩;obtain⟨h1,_⟩:=nB (L:=[e]) fun _ _=>trivial;simpa[PyData.canLay0]using h1
end
theorem KX.seq{CH CS T h p d cl a:Addr}{H0 H H':Hp}{n me:Nat}{L C:LT}{so:Option (Addr×Dd)}{xs:List V}(s:KX d cl H H')(S:Sta CH CS T H h p d cl n me L C so)(g:H0 cl=none)(sm:Same H0 H)(x:SqL K H0 a xs):SqL K H' a xs:=by
 rcases x with(x|⟨o,x⟩)|x
 ·exact .inl (.inl (s.lst S (sm _ _ x) (am x g)))
 ·refine .inl (.inr ⟨o,s _ _ (sm _ _ x) (fun ps z=>by cases z) (fun z=>?_) (am x g)⟩);have x:=sm _ _ x;rw[z,S.ha.st.dc]at x;cases x
 ·exact .inr x
theorem Aa{x q:Str}{st:Stmt}{f c T:Addr}{fd:FuncData}(a:PySem.W.nsIn K mainGlobals x=some (some (.ref f)))(F:Fun K x q st f fd)(t:PySem.W.tabIn K x=some (c,T)):fd.code=.ref c:=by obtain⟨oc,od,kV,dc,pm,an,cd,ct,sl,rfl,l0,c0⟩:=id F.ex;exact Bc a l0 t
theorem Ed{n me r:Int}(m0:0<=me)(m1:me<n)(r0:0<=r)(r1:r<n-1):(me+1+r)%n≠me:=fun z=>by
 have h:(me+1+r)%n=(if me+1+r<n then me+1+r else me+1+r-n):=by
  split
  ·exact Int.emod_eq_of_lt (by omega) (by assumption)
  ·rw[<-Int.sub_emod_right];exact Int.emod_eq_of_lt (by omega) (by omega)
 rw[h]at z;split at z<;>omega
theorem Lp.to{CH CS T:Addr}{H0 H:Hp}{h p d cl:Addr}{n me o:Nat}{L C:LT}{so:Option (Addr×Dd)}{ip:Bool}{sv:V}{bd bd':Nat}{x x':Prop}(l:Lp CH CS T H0 H h p d cl n me o L C so ip sv bd x)(hb:bd<=bd')(hx:x↔x'):Lp CH CS T H0 H h p d cl n me o L C so ip sv bd' x':=by
 refine⟨l.kx,l.S,l.hi,Zy l.ll hb,?_⟩;rcases l.sv with⟨h1,h2⟩|⟨h1,h2⟩
 ·exact .inl ⟨fun z=>h1 (hx.mpr z),h2⟩
 ·exact .inr ⟨hx.mp h1,h2⟩
theorem Lp.kt{CH CS T:Addr}{H0 H H':Hp}{h p d cl:Addr}{n me o:Nat}{L C:LT}{so:Option (Addr×Dd)}{ip:Bool}{sv:V}{bd:Nat}{x:Prop}(l:Lp CH CS T H0 H h p d cl n me o L C so ip sv bd x)(k:KT H H')(t:LTb T H'):Lp CH CS T H0 H' h p d cl n me o L C so ip sv bd x:=⟨l.kx.trans (KX.of k),l.S.kt k t,l.hi,l.ll,l.sv⟩
abbrev kf:Stmt:=top 95
abbrev Fh:List Str:=["_law_script","_law_many","_law_me","_law_other","_law_hand","_law_counts","_law_begin","_law_end","_law_stuck","_law_is_put","_law_k","_law_cell","_law_what_here","_law_good","_law_deed","_law_due","_law_last"]
theorem bn:FnScope Fh ["_law_script"] (al kf):=⟨rfl,rfl,rfl,by decide +kernel,rfl,by decide +kernel,by decide +kernel⟩
theorem D3{f CH CS T cT cD:Addr}{fd:FuncData}(F:Fun K "law" "law" kf f fd)(e9:Fn P w K mg base 1 "_law_cell_at" ["_law_script","_law_k"] (yM K))(Ho:MkFn P w K mg base 3 CH "Hand" ["self","hands","me"] (spHInit CH CS))(Hq:Fn P w K mg base 10 "_law_begun" ["_law_hand","_law_counts","_law_other","_law_many"] (spBegun CH CS T))(d8:Fn P w K mg base 1 "_law_clock" ["_law_counts","_law_hand"] (qp K))(GU:Fn P w K mg base 12 "_law_is_stuck" ["_law_hand","_law_stuck","_law_is_put"] (spStuck CH CS T))(HJ:Fn P w K mg base 10 "_law_late" ["_law_hand","_law_counts","_law_other","_law_me","_law_stuck"] (spLate CH CS T))(HK:Fn P w K mg base 1 "_law_what" ["_law_cell","_law_counts","_law_me"] (spWhat K))(o8:Fn P w K mg base 11 "_law_told" ["_law_hand","_law_way","_law_thing"] (A8 K CH CS T cT cD))(c7:Fn P w K mg base 9 "_law_as_counted" ["_law_hand","_law_counts","_law_last"] (spCtd CH CS T))(Hr:MFn P w K mg base 9 CH "told" ["self","clock"] (spHTold CH CS T))(i4:MFn P w K mg base 7 CH "ready" ["self"] (spHReady CH CS T))(u8:mg "range" = none)(i7:mg "enumerate" = none)(a8:mg "tuple" = none)(a7:mg "len" = none)(j5:mg "sum" = none):FnOk P w K mg base CX0 13 f fd ["_law_script"] (qq K T):=by
 refine F.okQ bn (fun vs H Q E h=>?_) (fun cdv A outer s H vs Q E hr h=>?_)
 ·obtain⟨a,ns,rfl,_⟩:=h;rfl
 obtain⟨a,sc,rfl,hS,hlen,hT,hq⟩:=h;refine⟨_,(b_c (aH (i:=1) bn.nd (aN cG aj (aN cA (aB e9 (hr.mono (by decide)) (q_a (q_v 0) (q_a aj ag))) aj)))
   (b_c (aH (i:=2) bn.nd (aN cA (aN mh (aB e9 (hr.mono (by decide)) (q_a (q_v 0) (q_a aj ag))) aj) (q_v 1)))
   (b_c (aH (i:=3) bn.nd (aN cA (aN cG (aN cG (q_v 2) aj) (aN cA (aB e9 (hr.mono (by decide)) (q_a (q_v 0) (q_a aj ag))) (aN qk (q_v 1) aj))) (q_v 1)))
   (b_c (aH (i:=4) bn.nd (yy Ho (hr.mono (by decide)) (q_a (q_v 1) (q_a (q_v 2) ag))))
   (b_c (yF (j:=5) bn.nd (own:=["_law_k"]) (⟨rfl,by decide +kernel,by decide +kernel,rfl,trivial⟩:CompOk _ _ [] []) rfl (xL u8 (q_a (q_v 1) ag)) (fun _ _ _ _=>bc (i:=0) (show (["_law_k"]:List Str).Nodup by decide +kernel)) (bN (by decide)) (fun _ _ _ _=>iK) (fun _ _ _ _=>aj))
   (b_c (aU (ci (bR (aB Hq (hr.mono (by decide)) (q_a (q_v 4) (q_a (q_v 5) (q_a (q_v 3) (q_a (aN cA (aB e9 (hr.mono (by decide)) (q_a (q_v 0) (q_a aj ag))) aj) ag))))))) (b_1 (au bU)) b_0)
   (b_c (aH (i:=6) bn.nd (aN cA (aB e9 (hr.mono (by decide)) (q_a (q_v 0) (q_a aj ag))) aj))
   (b_c (aH (i:=7) bn.nd (aN cG (aN cG (q_v 6) aj) (aN cA (aN mh (aB e9 (hr.mono (by decide)) (q_a (q_v 0) (q_a aj ag))) aj) aj)))
   (b_c (aH (i:=8) bn.nd bA)
   (b_c (aH (i:=9) bn.nd bU)
   (b_c (ke PassesOwn.never rfl (DE i7 (q_a (vY DO (q_v 0) (rG aj) (rG aj)) ag)) (qg rfl (gW (bc (i:=10) bn.nd) (gW (bc (i:=11) bn.nd) qW))) (b_c (aU (aM cJ (q_v 10) (q_v 6)) (b_c (aH (i:=8) bn.nd (aE (q_a (q_v 2) (q_a (aB d8 (hr.mono (by decide)) (q_a (aB d8 (hr.mono (by decide)) (q_a (q_v 5) (q_a (q_v 3) ag))) (q_a (q_v 2) ag))) (q_a (aE (q_a aG ag)) ag)))))
   (b_1 (aU (ci (bR (aB GU (hr.mono (by decide)) (q_a (q_v 4) (q_a (q_v 8) (q_a (q_v 9) ag)))))) (b_1 (au bU)) b_0))) b_0)
   (b_c (aU (aM cJ (q_v 10) (q_v 7)) (b_c (aU (ci (bR (aB HJ (hr.mono (by decide)) (q_a (q_v 4) (q_a (q_v 5) (q_a (q_v 3) (q_a (q_v 2) (q_a (q_v 8) ag)))))))) (b_1 (au bU)) b_0)
   (b_1 (aH (i:=8) bn.nd bA))) b_0)
   (b_c (ka (aB HK (hr.mono (by decide)) (q_a (q_v 11) (q_a (q_v 5) (q_a (q_v 2) ag)))) (qg rfl (gW (bc (i:=12) bn.nd) (gW (bc (i:=13) bn.nd) qW))))
   (b_c (aH (i:=14) bn.nd (aE (q_a (q_v 2) (q_a (aB d8 (hr.mono (by decide)) (q_a (q_v 5) (q_a (q_v 2) ag))) (q_a (q_v 12) ag)))))
   (b_c (aH (i:=15) bn.nd (aE (q_a aG (q_a (q_v 14) ag))))
   (b_c (aU (ci (bR (q_v 13))) (b_1 (aH (i:=15) bn.nd (aE (q_a aG (q_a bA ag))))) (b_1 (aU (aM yg (q_v 8) bA) (b_1 (aH (i:=15) bn.nd (aE (q_a aG (q_a (aE (q_a (q_v 2) (q_a (aN cG (aD bZ (q_v 5) (q_v 2)) aj) ag))) ag))))) b_0)))
   (b_c (aU (aM (jX hr.units) (aB o8 (hr.mono (by decide)) (q_a (q_v 4) (q_a aj (q_a (q_v 12) ag)))) (q_v 15)) (b_1 (au bU)) b_0)
   (b_c (aH (i:=16) bn.nd bA)
   (b_c (aU (t_w (BL (bR (q_v 13)) (zl (aM mi (q_v 8) bA)))) (b_c (aH (i:=16) bn.nd (q_v 14))
   (b_c (aH (i:=9) bn.nd (bM (vX (q_v 9) (bQ (bt cJ (aD aI (q_v 12) aj) aG))) (bQ (bt nF (aD aI (q_v 12) aj) aG))))
   (b_c (aU (t_w (BL (aM cJ (aN cA (q_v 10) aj) aj) (zl (aM (jX hr.units) (iy Hr (hr.mono (by decide)) (q_v 4) (q_a (jv uX a8 cc (q_a (q_v 5) ag)) ag)) (fK (q_a (q_v 14) ag)))))) (b_1 (au bU)) b_0)
   (b_1 (ka (aN cG (aD bZ (q_v 5) (q_v 2)) aj) (lP (q_v 5) (q_v 2) mC)))))) b_0)
   (b_1 (aU (ci (bR (aB c7 (hr.mono (by decide)) (q_a (q_v 4) (q_a (q_v 5) (q_a (q_v 16) ag)))))) (b_1 (au bU)) b_0))))))))))))
   (b_1 (au (bt cJ (q_B df a7 Z1 (q_a (cO i4 (hr.mono (by decide)) (q_v 4)) ag)) (q_B (wZ (K:=K) rfl rfl) j5 PyProof.Rows.boot_sum (q_a (q_v 5) ag)))))))))))))))),?_⟩
 try rw[cxK]
 refine bu fun R0 hR0=>?_;refine⟨_,rfl,a,sc,0,rfl,hS,by decide,_,_,rfl,rfl,(by show(0:Int)<4;decide),_,_,rfl,rfl,hR0 _ _ ?_⟩;clear hR0 R0;have m0:=y9 (ai sc (0:Int).toNat) (show(4:Int)≠0 by decide);have m1:=Yf (ai sc (0:Int).toNat) (show(0:Int)<4 by decide);obtain⟨n,hn⟩:∃n:Nat,(n:Int)=2+ai sc (0:Int).toNat%4:=⟨(2+ai sc (0:Int).toNat%4).toNat,by omega⟩
 rw[<-hn];have n2:2<=n:=by omega
 have n5:n<=5:=by omega
 clear m0 m1 hn;refine bu fun R0 hR0=>?_;refine⟨_,rfl,a,sc,0,rfl,hS,by decide,_,_,rfl,rfl,⟨by decide,by decide⟩,_,rfl,_,_,rfl,rfl,(by show(0:Int)<(n:Int);omega),hR0 _ _ ?_⟩;clear hR0 R0;have m0:=y9 (ai sc (0:Int).toNat / 4) (show(n:Int)≠0 by omega);have m1:=Yf (ai sc (0:Int).toNat / 4) (show(0:Int)<(n:Int) by omega);obtain⟨me,hme⟩:∃me:Nat,(me:Int)=ai sc (0:Int).toNat / 4%(n:Int):=⟨(ai sc (0:Int).toNat / 4%(n:Int)).toNat,by omega⟩
 rw[<-hme]at m0 m1 ⊢;have hm:me<n:=by omega
 clear hme;refine bu fun R0 hR0=>?_;refine⟨_,rfl,_,_,rfl,rfl,_,rfl,a,sc,1,rfl,hS,by decide,_,rfl,_,_,rfl,rfl,_,_,rfl,rfl,(by show(0:Int)<(n:Int)-1;omega),_,_,rfl,rfl,_,rfl,_,_,rfl,rfl,(by show(0:Int)<(n:Int);omega),hR0 _ _ ?_⟩;clear hR0 R0;have r0:=y9 (ai sc (1:Int).toNat) (show(n:Int)-1≠0 by omega);have r1:=Yf (ai sc (1:Int).toNat) (show(0:Int)<(n:Int)-1 by omega);have on:=Ed m0 m1 r0 r1;have o0:=y9 ((me:Int)+1+ai sc (1:Int).toNat%((n:Int)-1)) (show(n:Int)≠0 by omega);have o1:=Yf ((me:Int)+1+ai sc (1:Int).toNat%((n:Int)-1)) (show(0:Int)<(n:Int) by omega);obtain⟨o,ho'⟩:∃o:Nat,(o:Int)=((me:Int)+1+ai sc (1:Int).toNat%((n:Int)-1))%(n:Int):=⟨(((me:Int)+1+ai sc (1:Int).toNat%((n:Int)-1))%(n:Int)).toNat,by omega⟩
 rw[<-ho']at on o1 ⊢;have ho:o<n:=by omega
 have ne:o≠me:=by omega
 clear ho' o0 o1 on r0 r1 m0 m1;have tab0:LTb T H:=⟨#[],hT,trivial,.inl rfl⟩
 refine bu fun R0 hR0=>?_;refine⟨_,rfl,_,rfl,?_⟩;intro h dx nx ndx nex;refine⟨h,dx,n,me,rfl,ad,by omega,by omega,hm,fun p d H1 fd1 hA1 kp1=>⟨rfl,hR0 _ _ ?_⟩⟩;clear hR0 R0;have s1:Same H H1:=fun b o e=>kp1 b o (by rw[af (am e nx),af (am e ndx)];exact e) (am e nx);have hS1:=s1.seq hS;have tab1:=aC tab0 s1;refine bu fun R0 hR0=>?_;refine⟨_,rfl,_,rfl,by omega,by omega,?_⟩;rw[Zr];refine vc (N:=n) (lo:=0) (fun _=>.int 0) (by omega) (fun i H2 hi s2 R k=>k H2 (Same.refl H2)) (fun cl H2 s2 gcl=>hR0 _ _ ?_);clear hR0 R0;have el:((List.range n).map fun _=>V.int 0)=(ar n (vals [])).map V.int:=by show _=(ar n []).map V.int;rw[mX,List.map_replicate];exact List.ext_getElem (by simp) fun i h1 h2=>by simp
 rw[el];have s12:=s2.trans (ah gcl (.lst ((ar n (vals [])).map V.int)));have ecl:upd H2 cl (.lst ((ar n (vals [])).map V.int)) cl=some (.lst ((ar n (vals [])).map V.int)):=ad;have wcl:=ah gcl (.lst ((ar n (vals [])).map V.int));have hS2:=s2.seq hS1;have hS3:=s12.seq hS1;generalize upd H2 cl (.lst ((ar n (vals [])).map V.int))=H3 at s12 ecl hS3 wcl ⊢;have S3:Sta CH CS T H3 h p d cl n me [] [] none:=⟨hA1.same s12,aC tab1 s12,ecl,.nil,.refl _,fun x z=>by cases z⟩
 have c20:=y9 (ai sc (2:Int).toNat) (show(6:Int)≠0 by decide);have c21:=Yf (ai sc (2:Int).toNat) (show(0:Int)<6 by decide);refine bu fun R0 hR0=>?_;refine⟨_,rfl,_,rfl,_,rfl,_,rfl,a,sc,2,rfl,hS3,by decide,_,_,rfl,rfl,(by show(0:Int)<6;decide),h,p,d,cl,n,me,o,_,rfl,S3,ho,by omega,c20,by omega,fun L4 C4 H4 kx4 S4 l4=>⟨_,rfl,ax (hR0 _ _ ?_)⟩⟩;clear hR0 R0;have hS4:=kx4.seq S3 gcl wcl hS2;refine bu fun R0 hR0=>?_;refine⟨_,rfl,a,sc,3,rfl,hS4,by decide,_,_,rfl,rfl,(by show(0:Int)<12;decide),hR0 _ _ ?_⟩;clear hR0 R0;have bg0:=y9 (ai sc (3:Int).toNat) (show(12:Int)≠0 by decide);generalize ai sc (3:Int).toNat%12=bg at bg0 ⊢;refine bu fun R0 hR0=>?_;refine⟨_,rfl,_,_,rfl,rfl,_,rfl,a,sc,3,rfl,hS4,by decide,_,_,rfl,rfl,⟨by decide,by decide⟩,_,_,rfl,rfl,(by show(0:Int)<6;decide),_,_,rfl,rfl,hR0 _ _ ?_⟩;clear hR0 R0;have e60:=y9 (ai sc (3:Int).toNat / 12) (show(6:Int)≠0 by decide);obtain⟨ed,hed⟩:∃ed:Int,ed=bg+1+ai sc (3:Int).toNat / 12%6:=⟨_,rfl⟩
 rw[<-hed];have bed:bg<ed:=by omega
 clear hed e60;refine bu fun R0 hR0=>hR0 _ _ ?_;clear hR0 R0;refine bu fun R0 hR0=>hR0 _ _ ?_;clear hR0 R0;refine bu fun R0 hR0=>?_;refine⟨_,rfl,_,rfl,_,rfl,a,_,rfl,hS4,fun sl gsl=>?_⟩;have lcs:=gU (sc.map V.int) (some 4) (some 24);have cm:∀v∈de (sc.map V.int) (some 4) (some 24),v∈sc.map V.int:=fun v hv=>List.mem_of_mem_drop (List.mem_of_mem_take hv);have l20:(de (sc.map V.int) (some 4) (some 24)).length<=20:=by unfold de;rw[ZX,List.length_drop,show(some (4:Int))=some ((4:Nat):Int)from rfl,show(some (24:Int))=some ((24:Nat):Int)from rfl,HT.sIx_nat,HT.sIx_nat];omega
 generalize de (sc.map V.int) (some 4) (some 24)=xs at l20 cm ⊢;have w5:=ah gsl (.lst xs);have esl:upd H4 sl (.lst xs) sl=some (.lst xs):=ad;have S5:=S4.same w5;have nsl:sl≠cl:=fun z=>by rw[z,S4.ct]at gsl;cases gsl
 generalize upd H4 sl (.lst xs)=H5 at w5 esl S5 ⊢;refine⟨sl,_,rfl,esl,?_⟩;refine xz (i:=10) (j:=11) (fun i σ H'=>∃(L C:LT) (so:Option (Addr×Dd)) (ip:Bool) (sv:V) (o10 o11 o12 o13 o14 o15 o16:Option V),Lp CH CS T H5 H' h p d cl n me o L C so ip sv (5+2*i) (bg<(i:Int)/\(i:Int)<=ed)/\σ=[some (.ref a),some (.int (n:Int)),some (.int (me:Int)),some (.int (o:Int)),some (.ref h),some (.ref cl),some (.int bg),some (.int ed),some sv,some (.bl ip),o10,o11,o12,o13,o14,o15,o16])
  ⟨L4,C4,none,false,.non,none,none,none,none,none,none,none,⟨KX.of (KT.of (Same.refl _)),S5,fun z=>(by cases z),by omega,.inl ⟨fun z=>(by have:=z.1;omega),rfl,rfl⟩⟩,rfl⟩ (fun i σ H' _ hP=>?_) (fun k x σ H' hx hP D' kN T' gT=>?_) (fun σ H' hP=>?_)
 ·obtain⟨L,C,so,ip,sv,_,_,_,_,_,_,_,l,_⟩:=hP;exact SqL.of (l.kx.lst S5 esl nsl)
 ·obtain⟨L,C,so,ip,sv,o10,o11,o12,o13,o14,o15,o16,l,rfl⟩:=hP;obtain⟨cell,rfl⟩:∃cell,V.int cell=x:=by obtain⟨c,_,e⟩:=Zt.mp (cm x (List.mem_of_getElem? hx));exact⟨c,e⟩
  have hk:k<20:=Zo (Zv.mp hx).1 l20;have l:=l.same (ah gT (.tup [.int (k:Int),.int cell]));generalize upd H' T' (.tup [.int (k:Int),.int cell])=H1 at l ⊢;refine eS (fun σ' H''=>∃(L C:LT) (so:Option (Addr×Dd)) (sv:V),Lp CH CS T H5 H'' h p d cl n me o L C so ip sv (5+2*k+if(k:Int)=bg then 1 else 0) (bg<=(k:Int)/\(k:Int)<=ed)/\σ'=[some (.ref a),some (.int (n:Int)),some (.int (me:Int)),some (.int (o:Int)),some (.ref h),some (.ref cl),some (.int bg),some (.int ed),some sv,some (.bl ip),some (.int (k:Int)),some (.int cell),o12,o13,o14,o15,o16]) (fun R hR=>?_) ?_
  ·refine⟨_,rfl,_,rfl,rfl,_,rfl,nq (fun e=>?_) (fun e=>hR _ _ ⟨L,C,so,sv,l.to (by omega) (by omega),rfl⟩)⟩;rcases l.sv with⟨_,rfl,rfl⟩|⟨hx',_⟩
   case inr=>omega
   have S:=l.S;have lo:o<(ar n (vals C)).length:=by rw[aw];exact ho
   have lm:me<(aq (ar n (vals C)) o).length:=by rw[bW lo,aw];exact hm
   refine⟨_,rfl,_,rfl,_,rfl,cl,ar n (vals C),o,rfl,.inl (SqL.of S.ct),lo,by rw[aw];omega,fun c1 H2 s2 ec1=>?_⟩;refine⟨_,rfl,c1,_,me,rfl,.inr (SqT.of ec1),lm,by rw[bW lo,aw];omega,fun c2 H3 s3 ec2=>?_⟩;refine⟨sz rfl,fun t0 g0=>?_⟩;have w0:=ah g0 (.tup [.str "none"]);refine⟨sz rfl,fun b gb=>?_⟩;have wb:=ah gb (.tup [.int (me:Int),.ref c2,.ref t0]);have W:=s2.trans (s3.trans (w0.trans wb));have hd:DR (upd (upd H3 t0 (.tup [.str "none"])) b (.tup [.int (me:Int),.ref c2,.ref t0])) b (aV n me o C):=⟨c2,.ref t0,ad,wb _ _ (w0 _ _ ec2),⟨t0,rfl,wb _ _ ad⟩,by show me<(aq (aq (ar n (vals C)) o) me).length;rw[bW lm];exact lm,by show(aq (aq (ar n (vals C)) o) me).length<=8;rw[bW lm,bW lo,aw];omega⟩
   generalize upd (upd H3 t0 (.tup [.str "none"])) b (.tup [.int (me:Int),.ref c2,.ref t0])=H6 at W hd ⊢;have l6:=l.same W;refine⟨_,rfl,_,rfl,_,rfl,h,p,d,cl,b,n,me,o,L,C,ip,rfl,l6.S,hd,ho,ne,by omega,by have:=l.ll;omega,l.hi,fun H7 kd S7=>⟨_,rfl,ax (hR _ _ ⟨L++[(b,aV n me o C)],C,some (b,aV n me o C),.ref b,⟨l6.kx.trans (KX.kd kd),S7,l.hi,?_,.inr ⟨by omega,b,rfl,rfl⟩⟩,rfl⟩)⟩⟩;have:=l.ll;rw[HV e,Zs,ZE];omega
  rintro _ H2 ⟨L,C,so,sv,l,rfl⟩;refine eS (fun σ' H''=>∃(L C:LT) (so:Option (Addr×Dd)) (sv:V),Lp CH CS T H5 H'' h p d cl n me o L C so ip sv (5+2*k+1) (bg<(k:Int)+1/\(k:Int)+1<=ed)/\σ'=[some (.ref a),some (.int (n:Int)),some (.int (me:Int)),some (.int (o:Int)),some (.ref h),some (.ref cl),some (.int bg),some (.int ed),some sv,some (.bl ip),some (.int (k:Int)),some (.int cell),o12,o13,o14,o15,o16]) (fun R hR=>?_) ?_
  ·refine⟨_,rfl,_,rfl,rfl,_,rfl,nq (fun e=>?_) (fun e=>hR _ _ ⟨L,C,so,sv,l.to (by split<;>omega) (by omega),rfl⟩)⟩;rcases l.sv with⟨hx',_⟩|⟨_,a0,rfl,rfl⟩
   case inl=>exact absurd ⟨by omega,by omega⟩ hx'
   have S:=l.S;have ll:=l.ll;rw[HU (by omega)]at ll;have hd:DR H2 a0 (aV n me o C):=S.ha.st.dr (a0,aV n me o C) (S.pm.mem_iff.mpr (Zq _ (Zf.mpr rfl)));refine⟨_,rfl,_,rfl,_,rfl,_,rfl,_,rfl,h,p,d,cl,a0,a0,n,me,o,L,C,rfl,S,hd,ho,ne,by omega,by omega,fun b H3 kx3 S3=>⟨_,rfl,ax (hR _ _ ⟨_,_,none,.non,⟨l.kx.trans kx3,S3,fun z=>((l.hi z).snoc fun k z=>(by cases z)).snoc fun k z=>(by cases z),?_,.inl ⟨fun z=>(by omega),rfl,rfl⟩⟩,rfl⟩)⟩⟩;rw[Zs,ZE];omega
  rintro _ H3 ⟨L,C,so,sv,l,rfl⟩;have S:=l.S;have at_:atI ((ar n (vals C)).map V.int) (me:Int)=some (.int (aP (vals C) me)):=by
   have:=bI (ns:=ar n (vals C)) (k:=(me:Int)) (by omega) (by rw[aw];omega)
   rwa [Zr,ba hm]at this
  refine⟨_,rfl,_,rfl,_,rfl,cl,n,me,C,cell,rfl,S.ct,hm,by omega,fun t v b H4 s4 et wt=>⟨t,_,rfl,SqT.of et,rfl,_,_,rfl,_,_,rfl,rfl,?_⟩⟩;have l4:=l.same s4;refine⟨_,rfl,_,rfl,_,rfl,cl,ar n (vals C),me,rfl,.inl (SqL.of l4.S.ct),by rw[aw];exact hm,by rw[aw];omega,fun c H5' s5 ec=>⟨_,rfl,sz rfl,fun aa ga=>?_⟩⟩;have wa:=ah ga (.tup [.int (me:Int),.ref c,v]);have W:=s5.trans wa;have l6:=l4.same W;have wt6:=wt.same W;have ea:upd H5' aa (.tup [.int (me:Int),.ref c,v]) aa=some (.tup [.int (me:Int),.ref c,v]):=ad;have ec6:=wa _ _ ec;generalize upd H5' aa (.tup [.int (me:Int),.ref c,v])=H6 at W l6 wt6 ea ec6 ⊢;have dr:∀{w:Wh},WR H6 v w->DR H6 aa (aX n me C w):=fun{w} hw=>⟨c,v,ea,ec6,hw,by show me<(aq (ar n (vals C)) me).length;rw[dX hm];exact hm,by show(aq (ar n (vals C)) me).length<=8;rw[dX hm];omega⟩
  refine⟨_,rfl,sz rfl,fun u gu=>?_⟩;have wu:=ah gu (.tup [.str "done",.ref aa]);have l7:=l6.same wu;have wt7:=wt6.same wu;have eu:upd H6 u (.tup [.str "done",.ref aa]) u=some (.tup [.str "done",.ref aa]):=ad;have dr7:∀{w:Wh},WR H6 v w->DR (upd H6 u (.tup [.str "done",.ref aa])) aa (aX n me C w):=fun hw=>(dr hw).same wu;generalize upd H6 u (.tup [.str "done",.ref aa])=H7 at wu l7 wt7 eu dr7 ⊢;clear l4 wa W et wt ec ga s5;have S7:=l7.S;rcases wt6 with⟨rfl,w,hw,wf⟩|⟨rfl,bad⟩
  ·have hw7:WR H7 v w:=hw.ts (Same.ts wu);have fit:=fU (C:=C) hm wf;rcases l7.sv with⟨nx',rfl,rfl⟩|⟨xx,a0,rfl,rfl⟩
   ·refine⟨_,rfl,_,rfl,ax ⟨_,rfl,rfl,_,rfl,ax ?_⟩⟩;have ll7:=l7.ll;refine⟨_,rfl,_,rfl,h,p,d,n,me,L,0,v,rfl,S7.ha,.inl ⟨rfl,⟨h,p,d,n,me,L,C,v,rfl,S7.ha,S7.tb,S7.rdy,.new w hw7 fit (by omega) (S7.fresh hm (.inl rfl) w) fun a' H9 kd9 tb9 hA9=>fun tt H10 s10 ett=>?_⟩⟩⟩;have hd9:DR H9 a' (aX n me C w):=hA9.st.dr (a',aX n me C w) (Zq _ (Zf.mpr rfl));have ts9:=kd9.ts S7.ha.st.dc;have kd10:KD d H7 H10:=kd9.trans (KD.of (KT.of s10));have hA10:=hA9.same s10;have tb10:=aC tb9 s10;have da10:DR H10 aa (aX n me C w):=((dr7 hw).ts ts9).same s10;have eu10:=s10 _ _ (ts9 _ _ eu);have hw10:WR H10 v w:=(hw7.ts ts9).ts (Same.ts s10);obtain⟨ld1,ld2⟩:=lX (d:=aX n me C w) trivial;refine⟨_,rfl,_,_,cF ett (hd9.same s10).dt,cF eu10 da10.dt,be iR ld1 ld2,be iR ld1 ld2,_,rfl,?_⟩;rw[iF iR ld1];refine ax ?_;clear hd9 ts9 kd9 tb9 hA9 s10 eu10 ett;obtain⟨p0,r,rfl,e0⟩:=hw10.head;have ec10:H10 cl=some (.lst ((ar n (vals C)).map V.int)):=kd10 _ _ S7.ct (fun ps z=>by cases z) S7.ndc;dsimp only[qv];refine bu fun R0 hR0=>hR0 _ _ ?_;clear hR0 R0;refine eS (fun σ' H''=>∃ip':Bool,(ip'=true->Cnts me (C++[(a',aX n me C w)]))/\Sta CH CS T H'' h p d cl n me (L++[(a',aX n me C w)]) (C++[(a',aX n me C w)]) none/\KX d cl H10 H''/\DR H'' aa (aX n me C w)/\σ'=[some (.ref a),some (.int (n:Int)),some (.int (me:Int)),some (.int (o:Int)),some (.ref h),some (.ref cl),some (.int bg),some (.int ed),some .non,some (.bl ip'),some (.int (k:Int)),some (.int cell),some (.ref p0),some (.bl true),some (.ref aa),some (.ref u),some (.ref aa)]) (fun R hR=>?_) ?_
    ·refine⟨_,rfl,_,rfl,aL ⟨_,rfl,rfl,_,rfl,iM rfl ?_⟩⟩;refine⟨_,rfl,?_⟩;dsimp only[bz];have pi:=EG (a:=a') (w:=w) (ip:=ip) hm S7.ch l7.hi rfl;refine eS (fun σ' H''=>H10=H''/\σ'=[some (.ref a),some (.int (n:Int)),some (.int (me:Int)),some (.int (o:Int)),some (.ref h),some (.ref cl),some (.int bg),some (.int ed),some .non,some (.bl ((ip ||decide (V.str (wW w)=V.str "put"))&&!decide (V.str (wW w)=V.str "off"))),some (.int (k:Int)),some (.int cell),some (.ref p0),some (.bl true),some (.ref aa),some (.ref u),some (.ref aa)]) (fun R2 hR2=>?_) ?_
     ·refine⟨_,rfl,_,rfl,?_⟩;cases ip with
      |true =>refine aL ⟨_,rfl,aL ⟨_,rfl,p0,_,_,_,rfl,rfl,SqT.of e0,at0,rfl,hR2 _ _ ⟨rfl,?_⟩⟩⟩;rw[Bool.true_or,Yi];rfl
      |false =>
       refine ax ⟨_,rfl,p0,_,_,_,rfl,rfl,SqT.of e0,at0,rfl,_,rfl,?_⟩;cases hp:decide (V.str (wW w)=V.str "put")with
       |true =>refine aL ⟨_,rfl,p0,_,_,_,rfl,rfl,SqT.of e0,at0,rfl,hR2 _ _ ⟨rfl,?_⟩⟩;rw[Bool.false_or,hp,Yi];rfl
       |false =>refine ax (hR2 _ _ ⟨rfl,?_⟩);rw[Bool.false_or,hp,Yc];rfl
     rintro _ _ ⟨rfl,rfl⟩;generalize((ip ||decide (V.str (wW w)=V.str "put"))&&!decide (V.str (wW w)=V.str "off"))=ip' at pi ⊢;refine eS (fun σ' H''=>KT H10 H''/\LTb T H''/\σ'=[some (.ref a),some (.int (n:Int)),some (.int (me:Int)),some (.int (o:Int)),some (.ref h),some (.ref cl),some (.int bg),some (.int ed),some .non,some (.bl ip'),some (.int (k:Int)),some (.int cell),some (.ref p0),some (.bl true),some (.ref aa),some (.ref u),some (.ref aa)]) (fun R2 hR2=>?_) ?_
     ·refine⟨_,rfl,_,_,rfl,rfl,(by show(0:Int)<3;decide),rfl,_,rfl,nq (fun e3=>?_) (fun e3=>hR2 _ _ ⟨KT.of (Same.refl _),tb10,rfl⟩)⟩;obtain⟨⟨dx10,g10⟩,_⟩:=id hA10;refine⟨_,rfl,h,dx10,_,rfl,g10,Ad _ _,_,rfl,cl,_,rfl,.inl ⟨SqL.of ec10,fun ct gct=>?_⟩⟩;have wct:=ah gct (.tup ((ar n (vals C)).map V.int));have hA11:=hA10.same wct;refine⟨h,p,d,ct,n,me,_,_,ar n (vals C),rfl,hA11,aC tb10 wct,S7.rdy_add hA10.st.un fit rfl,ad,aw _ _,fun D H12 N wt k12 tb12 lr=>?_⟩;rw[Be S7 fit rfl wt]at lr;refine⟨_,rfl,sz rfl,fun ol gol=>?_⟩;have wol:=ah gol (.lst [.ref aa]);have k13:KT H10 (upd H12 ol (.lst [.ref aa])):=(KT.of wct).trans (k12.trans (KT.of wol));have da13:=da10.ts k13.ts;obtain⟨lo1,lo2⟩:=B8 (aX n me C w);have dt2:Dt (upd H12 ol (.lst [.ref aa])) (.list [dD (aX n me C w)]) (.ref ol):=LR.dt (L:=[(aa,aX n me C w)]) ⟨ad,fun x hx=>by rw[Zf.mp hx];exact da13⟩;refine⟨_,_,(lr.same wol).dt,dt2,lo2,lo2,_,rfl,?_⟩;rw[show PyData.eqv (.list ((vals [(a',aX n me C w)]).map dD)) (.list [dD (aX n me C w)])=true from SeqAt.eqv_refl _ lo1];exact ax (hR2 _ _ ⟨k13,aC tb12 wol,rfl⟩)
     rintro _ H14 ⟨k14,tb14,rfl⟩;have ec14:=k14 _ _ ec10 (fun ps z=>by cases z);refine⟨_,rfl,_,rfl,cl,_,_,_,rfl,rfl,SqL.of ec14,at_,_,_,rfl,rfl,_,rfl,_,rfl,cl,_,_,me,rfl,rfl,ec14,(by rw[jl (by omega) (by rw[Za,aw];omega)];rfl),hR _ _ ?_⟩;rw[<-ba (ds:=vals C) hm,<-List.map_set,<-aZ (by rw[aw];exact hm)];have S15:=S7.add (kd10.trans (KD.of k14)) tb14 (hA10.kt k14) fit rfl;have kx15:KX d cl H10 (upd H14 cl (.lst ((aq (ar n (vals C)) me).map V.int))):=(KX.of k14).trans KX.upd;refine⟨ip',pi,S15,kx15,da10.ts fun b zs eb=>?_,rfl⟩;exact kx15 b _ eb (fun ps z=>by cases z) (fun z=>by rw[z,hA10.st.dc]at eb;cases eb) (fun z=>by rw[z,ec10]at eb;cases eb)
    rintro _ H15 ⟨ip',pi,S15,kx15,da15,rfl⟩;refine⟨_,rfl,_,rfl,_,rfl,h,p,d,cl,n,me,_,_,none,.ref aa,rfl,S15,.inr ⟨aa,(a',aX n me C w),rfl,by rw[List.getLast?_append];rfl,da15⟩,fun H16 k16 tb16=>⟨_,rfl,ax (kN _ _ ?_)⟩⟩;refine⟨_,_,none,ip',.non,_,_,_,_,_,_,_,⟨l7.kx.trans ((KX.kd kd10).trans (kx15.trans (KX.of k16))),S15.kt k16 tb16,pi,?_,.inl ⟨fun z=>nx' (by omega),rfl,rfl⟩⟩,rfl⟩;rw[Zs,ZE];omega
   ·refine⟨_,rfl,_,rfl,ax ⟨_,rfl,rfl,_,rfl,Fw (by intro z;cases z) ?_⟩⟩;refine⟨_,rfl,_,rfl,_,rfl,cl,_,_,_,rfl,rfl,SqL.of S7.ct,at_,_,_,rfl,rfl,sz rfl,fun t1 g1=>?_⟩;have w1:=ah g1 (.tup [.int (me:Int),.int (aP (vals C) me+1)]);refine⟨sz rfl,fun t2 g2=>?_⟩;have w2:=ah g2 (.tup [.str "twin",.ref t1]);have W:=w1.trans w2;have e1:upd (upd H7 t1 (.tup [.int (me:Int),.int (aP (vals C) me+1)])) t2 (.tup [.str "twin",.ref t1]) t1=some (.tup ((nmN n me C).map V.int)):=w2 _ _ ad;have e2:upd (upd H7 t1 (.tup [.int (me:Int),.int (aP (vals C) me+1)])) t2 (.tup [.str "twin",.ref t1]) t2=some (.tup [.str "twin",.ref t1]):=ad;have l8:=l7.same W;have hw8:WR _ v w:=hw7.ts (Same.ts W);generalize upd (upd H7 t1 (.tup [.int (me:Int),.int (aP (vals C) me+1)])) t2 (.tup [.str "twin",.ref t1])=H8 at e1 e2 l8 hw8 ⊢;have S8:=l8.S;obtain⟨ln1,ln2⟩:=xS (nmN n me C);refine⟨_,rfl,_,rfl,h,p,d,n,me,L,0,v,rfl,S8.ha,.inl ⟨rfl,⟨h,p,d,n,me,L,C,v,rfl,S8.ha,S8.tb,S8.rdy,.twin w hw8 fit ((S8.stuck rfl).twin hm w) fun tn dd H9 k9 tb9 etn edd=>.inl ⟨rfl,dd,.ref tn,rfl,edd,fun tt H10 s10 ett=>?_⟩⟩⟩⟩;rw[mf hm]at etn;have l10:=(l8.kt k9 tb9).same s10;refine⟨_,rfl,_,_,cF ett (NmAt.dt (s10 _ _ etn)),cF (s10 _ _ (k9.ts _ _ e2)) (NmAt.dt (s10 _ _ (k9.ts _ _ e1))),be eX ln1 ln2,be eX ln1 ln2,_,rfl,?_⟩;rw[iF eX ln1];refine ax ?_;refine⟨_,rfl,_,rfl,aL ⟨_,rfl,rfl,_,rfl,lU (by intro z;cases z) ?_⟩⟩;refine⟨_,rfl,_,rfl,_,rfl,h,p,d,cl,n,me,L,C,_,.non,rfl,l10.S,.inl rfl,fun H11 k11 tb11=>⟨_,rfl,ax (kN _ _ ?_)⟩⟩;exact⟨L,C,_,ip,_,_,_,_,_,_,_,_,(l10.kt k11 tb11).to (by omega) (by omega),rfl⟩
  ·refine⟨_,rfl,_,rfl,aL ⟨sz rfl,fun t2 g2=>?_⟩⟩;have w2:=ah g2 (.tup [.str "no deed",.non]);have e2:upd H7 t2 (.tup [.str "no deed",.non]) t2=some (.tup [.str "no deed",.non]):=ad;have l8:=l7.same w2;have bad8:=bad.kt ((KT.of wu).trans (KT.of w2));generalize upd H7 t2 (.tup [.str "no deed",.non])=H8 at e2 l8 bad8 ⊢;have S8:=l8.S;refine⟨_,rfl,_,rfl,h,p,d,n,me,L,0,v,rfl,S8.ha,.inl ⟨rfl,⟨h,p,d,n,me,L,C,v,rfl,S8.ha,S8.tb,S8.rdy,.bad bad8 fun H9 k9 tb9=>.inr ⟨rfl,rfl,fun tt H10 s10 ett=>?_⟩⟩⟩⟩;have l10:=(l8.kt k9 tb9).same s10;refine⟨_,rfl,_,_,cF ett fZ,cF (s10 _ _ (k9.ts _ _ e2)) fZ,be jY rfl (by decide),be jY rfl (by decide),_,rfl,?_⟩;rw[iF jY rfl];refine ax ?_;refine⟨_,rfl,_,rfl,ax ?_⟩;refine⟨_,rfl,_,rfl,_,rfl,h,p,d,cl,n,me,L,C,_,.non,rfl,l10.S,.inl rfl,fun H11 k11 tb11=>⟨_,rfl,ax (kN _ _ ?_)⟩⟩;exact⟨L,C,_,ip,_,_,_,_,_,_,_,_,(l10.kt k11 tb11).to (by omega) (by omega),rfl⟩
 ·obtain⟨L,C,so,ip,sv,o10,o11,o12,o13,o14,o15,o16,l,rfl⟩:=hP;have S:=l.S;obtain⟨⟨dx9,g9⟩,_⟩:=id S.ha;refine hR0 _ _ ?_;refine⟨_,rfl,h,dx9,_,rfl,g9,jj _ _,h,p,d,n,me,L,C,rfl,S.ha,S.tb,S.rdy,fun D H7 k7 tb7 lr nD=>?_⟩;refine⟨D,_,rfl,.inl (SqL.of lr.1),_,rfl,cl,_,rfl,SqL.of (S.kt k7 tb7).ct,rfl,?_⟩;rw[decide_eq_true (show V.int ((aA C).length:Int)=V.int (ar n (vals C)).sum by rw[S.ch.sum];unfold aA;rw[Za])];exact hq _
end
def kz:Nat->(List Value->Prop)->Prop
 |0,p=>p []
 |n+1,p=>∀a,kz n fun us=>p (a::us)
theorem fP:∀{n:Nat} {p:List Value->Prop},kz n p->∀us:List Value,us.length=n->p us
 |0,_,h,[],_=>h
 |_+1,_,h,a::us,e=>fP (h a) us (Nat.succ.inj e)
section
variable{P:Program}{w:World}{K:PySem.W.Frag}{mg:Str->Option Value}{base h:Heap}{n m x q:Str}{st:Stmt}{C f:Addr}{k:Nat}{ps:List Str}{sp:Sp}{bm:List Value}
structure Bx(P:Program)(w:World)(K:PySem.W.Frag)(mg:Str->Option Value)(base h:Heap):Prop where
 X:K.In h
 G:h.Ns mainGlobals mg
def A1(K:PySem.W.Frag)(n:Str)(st:Stmt)(f:Addr):Prop:=PySem.W.nsIn K mainGlobals n=some (some (.ref f))/\∃fd,Fun K n n st f fd
def A2(K:PySem.W.Frag)(C:Addr)(m q:Str)(st:Stmt)(f:Addr):Prop:=PySem.W.findIn K (.ref C) m=some (some (.ref f))/\PySem.W.isFn K (.ref f)=true/\∃fd,Fun K m q st f fd
def AF(K:PySem.W.Frag):List (Str×Stmt×Addr)->Prop
 | []=>True
 |(n,st,f)::l=>A1 K n st f/\AF K l
def AM(K:PySem.W.Frag):List (Addr×Str×Str×Stmt×Addr)->Prop
 | []=>True
 |(C,m,q,st,f)::l=>A2 K C m q st f/\AM K l
def AN(p:Str->Prop):List Str->Prop
 | []=>True
 |n::l=>p n/\AN p l
theorem anI{p p':Str->Prop}(i:∀{n},p n->p' n):∀{l:List Str},AN p l->AN p' l
 | [],_=>True.intro
 |_::_,h=>⟨i h.1,anI i h.2⟩
theorem gf{l:List (Str×Stmt×Addr)}{oc kV dc pm cd ct:Value}{od an:Option Addr}{sl:Array (Option Value)}(a:PySem.W.nsIn K mainGlobals n=some (some (.ref f)))(b:K.lookup f=some ⟨oc,od,.func (PySem.W.fnOf n n (cz st) (bG st) (al st) .none kV dc pm an cd ct),sl⟩)(c:PySem.W.codeIn K cd n=true)(d:PySem.W.keepIn K (.ref f)=true)(r:AF K l):AF K ((n,st,f)::l):=⟨⟨a,_,xE b c d⟩,r⟩
theorem gm{l:List (Addr×Str×Str×Stmt×Addr)}{oc kV dc pm cd ct:Value}{od an:Option Addr}{sl:Array (Option Value)}(a:PySem.W.findIn K (.ref C) m=some (some (.ref f)))(i:PySem.W.isFn K (.ref f)=true)(b:K.lookup f=some ⟨oc,od,.func (PySem.W.fnOf m q (cz st) (bG st) (al st) .none kV dc pm an cd ct),sl⟩)(c:PySem.W.codeIn K cd q=true)(d:PySem.W.keepIn K (.ref f)=true)(r:AM K l):AM K ((C,m,q,st,f)::l):=⟨⟨a,i,_,xE b c d⟩,r⟩
theorem gn{l:List Str}(a:PySem.W.nsIn K mainGlobals n=some none)(r:AN (fun n=>PySem.W.nsIn K mainGlobals n=some none) l):AN (fun n=>PySem.W.nsIn K mainGlobals n=some none) (n::l):=⟨a,r⟩
theorem mkF(B:Bx P w K mg base h)(A:A1 K n st f)(ok:∀{fd},Fun K n n st f fd->FnOk P w K mg base CX0 k f fd ps sp)(hb:∀(kV doc pm:Value) (an:Option Addr) (cdv ct:Value),kz ps.length fun us=>bindArgs (PySem.W.fnOf n n (cz st) (bG st) (al st) .none kV doc pm an cdv ct) ⟨us,[]⟩=pure (ps.zip us):=by(repeat intro _);rfl):Fn P w K mg base k n ps sp:=by obtain⟨a,fd,F⟩:=A;exact⟨f,fd,ok F,Yb B.X B.G a,F.kp,F.binds fun a b c d e g=>fP (hb a b c d e g)⟩
theorem mkM(B:Bx P w K mg base h)(L:Cls K C)(A:A2 K C m q st f)(ok:∀{fd},Fun K m q st f fd->FnOk P w K mg base CX0 k f fd ps sp)(hb:∀(kV doc pm:Value) (an:Option Addr) (cdv ct:Value),kz ps.length fun us=>bindArgs (PySem.W.fnOf m q (cz st) (bG st) (al st) .none kV doc pm an cdv ct) ⟨us,[]⟩=pure (ps.zip us):=by(repeat intro _);rfl):MFn P w K mg base k C m ps sp:=by obtain⟨a,i,fd,F⟩:=A;exact⟨L,f,fd,ok F,⟨a,i,F.kp⟩,F.binds fun a b c d e g=>fP (hb a b c d e g)⟩
theorem mkX(B:Bx P w K mg base h)(L:Cls K C)(A:A2 K C m q st f)(ok:∀{fd},Fun K m q st f fd->FnOk P w K mg base (CXr P w) k f fd ps sp)(hb:∀(kV doc pm:Value) (an:Option Addr) (cdv ct:Value),kz ps.length fun us=>bindArgs (PySem.W.fnOf m q (cz st) (bG st) (al st) .none kV doc pm an cdv ct) ⟨us,[]⟩=pure (ps.zip us):=by(repeat intro _);rfl):MFnX P w K mg base k C m ps sp:=by obtain⟨a,i,fd,F⟩:=A;exact⟨L,f,fd,ok F,⟨a,i,F.kp⟩,F.binds fun a b c d e g=>fP (hb a b c d e g)⟩
theorem mkC(B:Bx P w K mg base h)(L:Cls K C)(g:mg x=some (.ref C))(mk:PySem.W.makesIn K C=true)(kc:PySem.W.keepIn K (.ref C)=true)(A:A2 K C "__init__" q st f)(ok:∀{fd},Fun K "__init__" q st f fd->FnOk P w K mg base CX0 k f fd ps sp)(hb:∀(kV doc pm:Value) (an:Option Addr) (cdv ct:Value),kz ps.length fun us=>bindArgs (PySem.W.fnOf "__init__" q (cz st) (bG st) (al st) .none kV doc pm an cdv ct) ⟨us,[]⟩=pure (ps.zip us):=by(repeat intro _);rfl):MkFn P w K mg base k C x ps sp:=by obtain⟨a,i,fd,F⟩:=A;exact⟨L,g,f,fd,ok F,⟨mk,a,i,kc⟩,F.binds fun a b c d e g=>fP (hb a b c d e g)⟩
theorem mkE(B:Bx P w K mg base h)(e:ExcAtI K C f bm)(A:A2 K C m q st f)(ok:∀{fd},Fun K m q st f fd->FnOk P w K mg base CX0 k f fd ps sp)(hb:∀(kV doc pm:Value) (an:Option Addr) (cdv ct:Value),kz ps.length fun us=>bindArgs (PySem.W.fnOf m q (cz st) (bG st) (al st) .none kV doc pm an cdv ct) ⟨us,[]⟩=pure (ps.zip us):=by(repeat intro _);rfl):ExI P w K mg base k C bm ps sp:=by obtain⟨a,i,fd,F⟩:=A;exact⟨f,fd,e,ok F,F.binds fun a b c d e g=>fP (hb a b c d e g)⟩
end
theorem Dm{l:PySem.W.OpenLaw}{w:World}{K:PySem.W.Frag}{h:Heap}{mg:Str->Option Value}{fa f1 f2 f3 f4 f5 f6 f7 f8 f9 f10 f11 f12 f13 f14 f15 f16 f17 f18 f19 f20 f21 f22 f23 f24 f25 f26 f27 f28 f29 f30 f31 f32 f33 f34 f35 f36 f37 f38 m1 m2 m3 m4 m5 m6 m7 m8 m9 m10 m11 m12 m13 m14:Addr}{C_Store:Addr}{C_Hand:Addr}(X:K.In h)(G:h.Ns mainGlobals mg)(hfa:mg "law" = some (.ref fa)){Hm:Tok}{HD:Tok}{HL:Tok}{Hn:Tok}{HE:Tok}{t9:Addr}{c_Twin c_NoDeed c_LimbError c0 T:Addr}(Hs:PySem.W.nsIn K mainGlobals "Store" = some (some (.ref C_Store)))(Hg:PySem.W.plainGet K C_Store Str.empty=true)(Hh:PySem.W.hasDictIn K C_Store=true)(Hi:PySem.W.plainOver K C_Store=true)(Hj:PySem.W.findIn K (.ref C_Store) "__setattr__" = some (some (.builtin "object.__setattr__")))(Hk:PySem.W.makesIn K C_Store=true)(Hl:PySem.W.keepIn K (.ref C_Store)=true)(u3:PySem.W.findIn K (.ref C_Store) "hands" = some none)(u4:PySem.W.findIn K (.ref C_Store) "deeds" = some none)(HM:PySem.W.nsIn K mainGlobals "Hand" = some (some (.ref C_Hand)))(Ht:PySem.W.plainGet K C_Hand Str.empty=true)(Hu:PySem.W.hasDictIn K C_Hand=true)(Hv:PySem.W.plainOver K C_Hand=true)(Hw:PySem.W.findIn K (.ref C_Hand) "__setattr__" = some (some (.builtin "object.__setattr__")))(Hx:PySem.W.makesIn K C_Hand=true)(Hy:PySem.W.keepIn K (.ref C_Hand)=true)(w9:PySem.W.findIn K (.ref C_Hand) "store" = some none)(G1:PySem.W.findIn K (.ref C_Hand) "me" = some none)(Hz:PySem.W.nsIn K mainGlobals "Twin" = some (some (.ref c_Twin)))(x6:PySem.W.nsIn K mainGlobals "LimbError" = some (some (.ref c_LimbError)))(G2:PySem.W.nsIn K mainGlobals "NoDeed" = some (some (.ref c_NoDeed)))(zF:AF K (("is_number",hX,f1)::("is_whole",iY,f2)::("is_name",jE,f3)::("is_clock",iV,f4)::("start_clock",fw,f5)::("within",ld,f6)::("raised",kZ,f7)::("tells",nW,f8)::("is_deed_word",eQ,f9)::("deed_parts",gE,f10)::("is_place",iW,f11)::("is_sign",jG,f12)::("is_text",jH,f13)::("is_hand",jD,f14)::("is_known_item",eI,f15)::("is_part",jF,f16)::("is_what",jJ,f17)::("is_deed",jC,f18)::("name_of",jK,f19)::("asked_by",iT,f20)::("is_answered",fu,f21)::("ready_of",fL,f22)::("is_turn",jI,f23)::("turned_name",fz,f24)::("last_turns",gF,f25)::("is_off",kX,f26)::("counting",iU,f27)::("own_deeds",hZ,f28)::("last_undone",fv,f29)::("_law_cell_at",jB,f30)::("_law_clock",nV,f31)::("_law_what",rO,f32)::("_law_told",rN,f33)::("_law_as_counted",gC,f34)::("_law_is_stuck",iX,f35)::("_law_late",rL,f36)::("_law_begun",nU,f37)::("law",kf,f38)::[]))(zM:AM K ((c_Twin,"__init__","Twin.__init__",hW,m1)::(C_Store,"__init__","Store.__init__",gz,m2)::(C_Store,"hear","Store.hear",gw,m3)::(C_Store,"ready","Store.ready",fq,m4)::(C_Store,"waiting","Store.waiting",eG,m5)::(C_Store,"clock","Store.clock",fm,m6)::(C_Store,"told","Store.told",gB,m7)::(C_Hand,"__init__","Hand.__init__",hO,m8)::(C_Hand,"clock","Hand.clock",gl,m9)::(C_Hand,"ready","Hand.ready",gq,m10)::(C_Hand,"told","Hand.told",hU,m11)::(C_Hand,"hear","Hand.hear",hJ,m12)::(C_Hand,"do","Hand.do",jA,m13)::(C_Hand,"undo","Hand.undo",hV,m14)::[]))(zN:AN (fun n=>PySem.W.nsIn K mainGlobals n=some none) ("len"::"max"::"range"::"list"::"isinstance"::"zip"::"enumerate"::"sorted"::"all"::"sum"::"int"::"tuple"::"bool"::"str"::"ord"::[]))(n9:PySem.W.nsIn K mainGlobals "MOST_NUMBERS" = some (some (.int 64 Hm)))(x8:PySem.W.nsIn K mainGlobals "FIRST_SIGN" = some (some (.int 32 HD)))(GJ:PySem.W.nsIn K mainGlobals "LAST_SIGN" = some (some (.int 126 HL)))(o6:PySem.W.nsIn K mainGlobals "PERCENT_SIGN" = some (some (.int 37 Hn)))(x9:PySem.W.nsIn K mainGlobals "MOST_SIGNS" = some (some (.int 60 HE)))(GB:PySem.W.nsIn K mainGlobals "DEED_PARTS" = some (some (.ref t9)))(t_DEED_PARTS:PyProof.Rows.KTD.tabLook (mJ K) (fun b=>K.lookup b) t9 DT=true)(HA:qT K c_Twin m1=true)(HB:∃c d cd sl,K.lookup c_Twin=some ⟨c,d,.cls cd,sl⟩/\cd.mro=Value.ref c_Twin::Value.ref c_LimbError::VE)(if_Twin:∃oI,K.lookup m1=some oI/\oI.cls=.type "function")(dg:PySem.W.nsIn K cStatics "sys.int_max_str_digits" = some none)(GC:PySem.W.excIn K c_LimbError [.type "ValueError",.type "Exception",.type "BaseException",.type "object"] "ValueError.__new__" = true)(GD:∃c d cd sl,K.lookup c_LimbError=some ⟨c,d,.cls cd,sl⟩/\cd.mro=Value.ref c_LimbError::VE)(G3:PySem.W.excIn K c_NoDeed [.type "ValueError",.type "Exception",.type "BaseException",.type "object"] "ValueError.__new__" = true)(G4:∃c d cd sl,K.lookup c_NoDeed=some ⟨c,d,.cls cd,sl⟩/\cd.mro=Value.ref c_NoDeed::(Value.ref c_LimbError::VE))(tb1:PySem.W.tabIn K "ready_of" = some (c0,T))(e1Twin:(PySem.W.clsIn K c_Twin).isSome=true)(e2Twin:PySem.W.findIn K (.ref c_Twin) "__getattribute__" = some (some (.builtin "BaseException.__getattribute__")))(e3Twin:PySem.W.findIn K (.ref c_Twin) "__getattr__" = some none)(e4Twin:PySem.W.findIn K (.ref c_Twin) "__class__" = some (some (.builtin "object.__class__")))(e5Twin:PySem.W.mroIn K c_Twin (.type "BaseException")=some true)(e6Twin:PySem.W.mroIn K c_Twin (.type "object")=some true)(e1NoDeed:(PySem.W.clsIn K c_NoDeed).isSome=true)(e2NoDeed:PySem.W.findIn K (.ref c_NoDeed) "__getattribute__" = some (some (.builtin "BaseException.__getattribute__")))(e3NoDeed:PySem.W.findIn K (.ref c_NoDeed) "__getattr__" = some none)(e4NoDeed:PySem.W.findIn K (.ref c_NoDeed) "__class__" = some (some (.builtin "object.__class__")))(e5NoDeed:PySem.W.mroIn K c_NoDeed (.type "BaseException")=some true)(e6NoDeed:PySem.W.mroIn K c_NoDeed (.type "object")=some true)(dT:PySem.W.hasDictIn K c_Twin=true)(aT:PySem.W.findIn K (.ref c_Twin) "name" = some none)(s1:PySem.W.findIn K (.ref c_Twin) "__setattr__" = some (some (.builtin "object.__setattr__")))(s2:((PySem.W.clsIn K c_Twin).any fun cd=>ml cd.mro&&cd.hasDict)=true)(tt:PySem.W.kitOne K (.ref c_Twin) (.ref c_Twin)=some true)(dt:PySem.W.kitOne K (.ref c_NoDeed) (.ref c_Twin)=some false)(dd:PySem.W.kitOne K (.ref c_NoDeed) (.ref c_NoDeed)=some true)(nt0:PySem.W.kitOne K (.type "NoneType") (.ref c_Twin)=some false)
  :∃fd:FuncData,(∀(s:Shared) (v:Value),BindsTo s fd ⟨[v],[]⟩ [("_law_script",v)])/\∀base:Heap,K.In base->base.Ns mainGlobals mg->Blt base mg->PySem.W.CodeHd base c0 T->FnOk l.prog w K mg base CX0 13 fa fd ["_law_script"] (qq K T):=by
 obtain⟨Af1,Af2,Af3,Af4,Af5,Af6,Af7,Af8,Af9,Af10,Af11,Af12,Af13,Af14,Af15,Af16,Af17,Af18,Af19,Af20,Af21,Af22,Af23,Af24,Af25,Af26,Af27,Af28,Af29,Af30,Af31,Af32,Af33,Af34,Af35,Af36,Af37,⟨a0,_,F0⟩,_⟩:=zF;obtain⟨Am1,Am2,Am3,Am4,Am5,Am6,Am7,Am8,Am9,Am10,Am11,Am12,Am13,Am14,_⟩:=zM;obtain⟨a7,HQ,u8,i5,a6,G7,i7,j9,c8,j5,G6,a8,GL,u5,HG,_⟩:=anI (p':=fun n=>mg n=none) (fun z=>PySem.W.mg_none_of X G z) zN;have e:=hfa.symm.trans (Yb X G a0);cases e;obtain⟨oc,od,kV,dc,pm,an,cd,ct,sl,rfl,l0,c0⟩:=id F0.ex;have j6:=Yb X G n9;have v5:=Yb X G x8;have GG:=Yb X G GJ;have j7:=Yb X G o6;have v6:=Yb X G x9;have d7:=Yb X G GB;have HR:=Yb X G Hs;have o7:Cls K C_Store:=⟨Hg,Hh,Hi,Hj⟩
 have u9:Txt K C_Store:=⟨o7,u3,u4⟩
 have HS:=Yb X G HM;have p6:Cls K C_Hand:=⟨Ht,Hu,Hv,Hw⟩
 have GE:TxH K C_Hand:=⟨p6,w9,G1⟩
 have G5:Tab K t9 DT:=⟨t_DEED_PARTS⟩
 have v8:=Yb X G Hz;have HP:ExcAtI K c_Twin m1 (Value.ref c_LimbError::VE):=⟨HA,HB,by rw[List.contains_cons];rfl,if_Twin⟩
 have GI:=Yb X G x6;have j2:=Yb X G G2;have HN:ExcAt K c_LimbError VE:=⟨GC,GD,rfl⟩
 have HC:ExcAt K c_NoDeed (Value.ref c_LimbError::VE):=⟨G3,G4,by rw[List.contains_cons];rfl⟩
 have kT:ExK K c_Twin:=⟨e1Twin,e2Twin,e3Twin,e4Twin,e5Twin,e6Twin⟩
 have kD:ExK K c_NoDeed:=⟨e1NoDeed,e2NoDeed,e3NoDeed,e4NoDeed,e5NoDeed,e6NoDeed⟩
 have sN:ExS K c_Twin:=⟨s1,s2,e6Twin⟩
 have er:ErH K c_LimbError c_Twin c_NoDeed (Value.ref c_LimbError::VE) (Value.ref c_LimbError::VE):=⟨tY HP,qS HC,by simp,by simp,kT,kD,dT,aT,tt,dt,dd,nt0⟩
 refine⟨PySem.W.fnOf "law" "law" (cz kf) (bG kf) (al kf) .none kV dc pm an cd ct,fun s v=>.of_eq rfl,fun base _ _ Bl C=>?_⟩;have B:Bx l.prog w K mg base h:=⟨X,G⟩
 have i6:=mkF B Af1 fun F=>rA F a6 G6 GL;have b9:=mkF B Af2 fun F=>tu F i6;have GW:=mkF B Af3 fun F=>vJ F b9 a6 a8 a7;have GP:=mkF B Af4 fun F=>tj F b9 a6 a8 a7 c8;have p9:=mkF B Af5 fun F=>nQ F;have G9:=mkF B Af6 fun F=>yl F c8 G7;have k8:=mkF B Af7 fun F=>yk F;have u6:=mkF B Af8 fun F=>Ax F;have j8:=mkF B Af9 fun F=>mj F d7 G5 a6 u5;have v7:=mkF B Af10 fun F=>pW F d7 G5;have GO:=mkF B Af11 fun F=>tm F i6 a6 a8 a7 c8 j6;have GV:=mkF B Af12 fun F=>vL F HG v5 GG j7;have GX:=mkF B Af13 fun F=>vM F GV a6 u5 c8;have j3:=mkF B Af14 fun F=>vI F b9;have i9:=mkF B Af15 fun F=>kU F GW u6 a7;have GY:=mkF B Af16 fun F=>vK F i9 GO GX j3 b9 a6 GL a7 v6;have GZ:=mkF B Af17 fun F=>vO F j8 v7 GY a6 a8 a7 c8 G7;have GF:=mkF B Af18 fun F=>vH F j3 GP GZ a6 a8 a7;have a9:=mkF B Af19 fun F=>vP F;have GQ:=mkF B Af20 fun F=>sY F i7;have p7:=mkF B Af21 fun F=>nL F G9;have GR:=mkF B Af22 fun F=>tz F (Aa Af22.1 F tb1) C Bl GQ p7 a9 j5 j9 c8 i5;have j4:=mkF B Af23 fun F=>vN F;have r6:=mkF B Af24 fun F=>nR F;have v9:=mkF B Af25 fun F=>pX F j4 r6;have Hc:=mkF B Af26 fun F=>yj F a9 j4;have GS:=mkF B Af27 fun F=>sZ F v9 Hc;have GH:=mkF B Af28 fun F=>rB F;have r9:=mkF B Af29 fun F=>nO F a9 HQ;have G8:=mkE B HP Am1 fun F=>rq F sN aT;have Hd:=mkC B o7 HR Hk Hl Am2 fun F=>pR F u9;have n6:=mkX B o7 Am3 fun F=>nI F u9 GF a9 G8 v8 (zX HC) j2;have d6:=mkM B o7 Am4 fun F=>nJ F u9 GR i5;have G0:=mkM B o7 Am5 fun F=>kQ F u9 d6 a9 j9;have u7:=mkM B o7 Am6 fun F=>nG F u9 d6 p9 k8;have HH:=mkM B o7 Am7 fun F=>pU F u9 d6 G0 a9 u6;have Ho:=mkC B p6 HS Hx Hy Am8 fun F=>rn F GE Hd;have Hf:=mkM B p6 Am9 fun F=>pL F GE u7;have i4:=mkM B p6 Am10 fun F=>pP F GE d6;have Hr:=mkM B p6 Am11 fun F=>rp F GE HH;have GT:=mkX B p6 Am12 fun F=>pO F (T:=T) GE n6;have GN:=mkX B p6 Am13 fun F=>sX F GE u7 k8 n6;have He:=mkX B p6 Am14 fun F=>pQ F GE i4 GS GH r9 GN;have i8:=wG GT;have e9:=mkF B Af30 fun F=>vG F a7;have d8:=mkF B Af31 fun F=>Aw F i5 a8;have HK:=mkF B Af32 fun F=>Cj F dg u5 a7;have o8:=mkF B Af33 fun F=>Ci F GN GT He er (qS HN) GI v8 j2 a6 G6;have c7:=mkF B Af34 fun F=>pV F Hf i4 a6 a8 i5 a7 j5;have GU:=mkF B Af35 fun F=>tq F i8 o8;have HJ:=mkF B Af36 fun F=>Cg F i8 d8 c7;have Hq:=mkF B Af37 fun F=>Av F i8 d8 c7 u8;exact D3 F0 e9 Ho Hq d8 GU HJ HK o8 c7 Hr i4 u8 i7 a8 a7 j5
theorem GA{l:PySem.W.OpenLaw}{q:Program}{loose:List Str}{XP:(Str->Option Value)->Heap->Prop}{YP:World->Heap->Prop}{d:DefRec}{K:Params->PySem.W.Frag}{c0 T:Addr}(hn:l.most=some 63)(hdf:d.params.defaults=[])(hY:∀ (w:World) (h:Heap),YP w h->(K w.params).In h)(ht:∀ w:World,PySem.W.tabIn (K w.params) "ready_of" = some (c0,T))(hd:∃ d',(PyProof.Rows.recsOf q).find? (fun e=>e.name == ("ready_of":Str))=some d')(nt:∀ w:World,PySem.W.noTabs (K w.params)=true)(F:∀ (w:World) (mg:Str->Option Value) (fa:Addr) (h:Heap),(K w.params).In h->h.Ns mainGlobals mg->mg d.name=some (.ref fa) ->
   ∃ fd:FuncData,(∀ (s:Shared) (u:Value),BindsTo s fd ⟨[u],[]⟩ [("_law_script",u)])/\∀ base:Heap,(K w.params).In base->base.Ns mainGlobals mg->Blt base mg->PySem.W.CodeHd base c0 T->FnOk l.prog w (K w.params) mg base CX0 13 fa fd ["_law_script"] (qq (K w.params) T)) :
  PySem.W.WalkO q loose XP YP l.row.toRowW d [] (fun f vs=>PySem.call f vs) :=
 L2.zn (n:=63) (k:=13) (x:="_law_script") (tabs:=fun _=>[("ready_of",c0,T)]) (sp:=fun w=>qq (K w.params) T) hn (by decide) hdf ⟨rfl,by decide,by decide⟩ hY (fun w t htm=>by rw[Zf.mp htm];exact⟨ht w,hd⟩) nt
  (fun w mg fa h k g e=>let⟨fd,b,r⟩:=F w mg fa h k g e;⟨fd,b,fun base k2 g2 bl cs=>r base k2 g2 bl (cs _ (Zf.mpr rfl))⟩) (fun w H a ns hl hT hS=>⟨a,ns,rfl,hS,hl,hT _ (Zf.mpr rfl),fun _=>rfl⟩)
end K43
namespace PySem.W.Fast
def tw9187413418565634587:=()
def tw15639918702938954668:=()
def tw3699978608382308198:=()
def tw18246588239493705593:=()
def tw6699080599053550488:=()
def tw16792195134225750150:=()
def tw11492372901153137410:=()
def tw15566244963517353135:=()
def tw13574057964091011051:=()
def tw18005997362389009254:=()
def tw9090853866075420726:=()
def tw15087469453804467225:=()
def tw13736962328776613986:=()
def tw14348471498234089537:=()
def tw6228974783447348472:=()
def tw7519470213350951257:=()
def tw4026239688997082235:=()
def tw12409434065810602599:=()
def tw9847101648742461023:=()
def tw8314127116862797602:=()
def tw7159961645653523289:=()
def tw15073688360258666124:=()
def tw10681710740393930425:=()
def tw9293877510176675492:=()
def tw3351863022361178160:=()
def tw173638360722109604:=()
def tw7941847300735641768:=()
def tw13269669238874729918:=()
def tw8360042585734220201:=()
def tw10434576138817909604:=()
def tw12585843564001641014:=()
def tw4133051943739564491:=()
def tw2324721249262088793:=()
def tw12137325897146406652:=()
def tw7841236342655765538:=()
def tw16689911516509825278:=()
def tw9068022966112498370:=()
def tw5845513137928801873:=()
def tw1102349178415021:=()
def tw7490180765424015319:=()
def tw8893073254466488826:=()
def tw3130866269208796071:=()
def tw2782786736800778289:=()
def tw6873927570306542125:=()
def tw15550552560510822429:=()
def tw5878742649859780410:=()
def tw6568402884549703565:=()
def tw11064573695704057302:=()
def tw13523624333688541385:=()
def tw13213569287929337306:=()
def tw1188403607721630258:=()
def tw7310793588186598316:=()
def tw1418013317448947292:=()
def tw2939182644666684741:=()
def tw10671423379104825501:=()
def tw6887413536741137332:=()
def tw14269974529939479258:=()
def tw4010927509079537137:=()
def tw1259791239175942966:=()
def tw16993554959912616039:=()
def tw8756552797981998620:=()
def tw7837362015705873926:=()
def tw3321867348150317057:=()
def tw11863763744797504317:=()
def tw11789307642915079536:=()
def tw11775060046221162660:=()
def tw6026289695476950301:=()
def tw7328714477843478002:=()
def tw12163675785341760319:=()
def tw1373263231265521599:=()
def tw3695352416129984587:=()
def tw5783669436057783329:=()
def tw1974333403016141537:=()
def tw1791040387707201817:=()
def tw16975871534347963247:=()
def tw11774586460773523475:=()
def tw10758344752106341839:=()
def tw5271487639685617823:=()
def tw11755662624254966028:=()
def tw15161703203168194036:=()
def tw2630220881325602311:=()
def tw9272556936017282851:=()
def tw7643798553007198346:=()
def tw16777224852852439047:=()
def tw2183490996444902498:=()
def tw8362222312550379103:=()
def tw6951377643500502859:=()
def tw3393441116610974102:=()
def tw16892793929659453161:=()
def tw4926968973834714248:=()
def tw14894998579376123848:=()
def tw15367799744226153599:=()
def tw15349531326661716858:=()
def tw8311216870154577324:=()
def tw9895523488901783010:=()
def tw10428634732272419372:=()
def tw3021373500456492857:=()
def tw12962023729181413360:=()
def tw11784166208683080798:=()
end PySem.W.Fast
open PySem PySem.W PyProof.Rows
set_option maxRecDepth 100000 in
set_option maxHeartbeats 0 in
theorem PySem.Challenge.cw_limb_k43_what_a_hand_does_holds : PySem.Challenge.rw_limb_k43_what_a_hand_does.Holds := by
  w_on; o_law; k_head; (case hw => w_witness2)
  k_fill
  refine' K43.GA (l := PySem.Challenge.rw_limb_k43_what_a_hand_does) rfl rfl (fun w h Y => PySem.W.km_in_of Y) ?ht ?hd ?nt ?F
  case ht => intro w; with_unfolding_all rfl
  case hd => exact ⟨_, rfl⟩
  case nt => intro w; kernel_rfl
  case F =>
    intro w mg fa h KX G hmg
    refine' K43.Dm KX G hmg ?Hs ?Hg ?Hh ?Hi ?Hj ?Hk ?Hl ?u3 ?u4 ?HM ?Ht ?Hu ?Hv ?Hw ?Hx ?Hy ?w9 ?G1 ?Hz ?x6 ?G2 ?zF ?zM ?zN ?n9 ?x8 ?GJ ?o6 ?x9 ?GB ?t_DEED_PARTS ?HA ?HB ?if_Twin ?dg ?GC ?GD ?G3 ?G4 ?tb1 ?e1Twin ?e2Twin ?e3Twin ?e4Twin ?e5Twin ?e6Twin ?e1NoDeed ?e2NoDeed ?e3NoDeed ?e4NoDeed ?e5NoDeed ?e6NoDeed ?dT ?aT ?s1 ?s2 ?tt ?dt ?dd ?nt0
    (case Hs => k_is)
    (case Hg => k_is)
    (case Hh => k_is)
    (case Hi => k_is)
    (case Hj => k_is)
    (case Hk => k_is)
    (case Hl => k_is)
    (case u3 => k_is)
    (case u4 => k_is)
    (case HM => k_is)
    (case Ht => k_is)
    (case Hu => k_is)
    (case Hv => k_is)
    (case Hw => k_is)
    (case Hx => k_is)
    (case Hy => k_is)
    (case w9 => k_is)
    (case G1 => k_is)
    (case Hz => k_is)
    (case x6 => k_is)
    (case G2 => k_is)
    (case zF => (repeat refine K43.gf (by k_is) (by k_is) (by k_is) (by k_is) ?_); exact True.intro)
    (case zM => (repeat refine K43.gm (by k_is) (by k_is) (by k_is) (by k_is) (by k_is) ?_); exact True.intro)
    (case zN => (repeat refine K43.gn (by k_is) ?_); exact True.intro)
    (case n9 => k_is)
    (case x8 => k_is)
    (case GJ => k_is)
    (case o6 => k_is)
    (case x9 => k_is)
    (case GB => k_is)
    (case t_DEED_PARTS => rfl)
    (case HA => kernel_rfl)
    (case HB => exact ⟨_, _, _, _, rfl, rfl⟩)
    (case if_Twin => exact ⟨_, rfl, rfl⟩)
    (case dg => k_is)
    (case GC => k_exc)
    (case GD => exact ⟨_, _, _, _, rfl, rfl⟩)
    (case G3 => k_exc)
    (case G4 => exact ⟨_, _, _, _, rfl, rfl⟩)
    (case tb1 => with_unfolding_all rfl)
    (case e1Twin => rfl)
    (case e2Twin => k_is)
    (case e3Twin => k_is)
    (case e4Twin => k_is)
    (case e5Twin => k_is)
    (case e6Twin => k_is)
    (case e1NoDeed => rfl)
    (case e2NoDeed => k_is)
    (case e3NoDeed => k_is)
    (case e4NoDeed => k_is)
    (case e5NoDeed => k_is)
    (case e6NoDeed => k_is)
    (case dT => rfl)
    (case aT => k_is)
    (case s1 => k_is)
    (case s2 => rfl)
    (case tt => rfl)
    (case dt => rfl)
    (case dd => rfl)
    (case nt0 => rfl)
