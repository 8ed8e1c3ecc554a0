import PyProof.Rows.All
import Wide.All
import OpenK.AllK
import Wide.FinOn
import PyProof.EqAt
import PyProof.EqKinds
import PyProof.TupleCall
import Lean
import PySem.Challenge.RW_limb_k20_whole_stores_meet
def z6:=@PySem.wpAny_bind
def z9:=@List.length_map
def Za:=@PySem.Heap.get?_push_of_some
def Zb:=@List.getElem?_eq_getElem
def Zd:=@PySem.wpAny_pure
def Ze:=@Nat.le_refl
def Zf:=@List.getD_eq_getElem?_getD
def Zg:=@Array.length_toList
def Zh:=@List.size_toArray
def Zi:=@List.length_append
def Zj:=@PyProof.Rows.wpS_bind
def Zk:=@PySem.Heap.get?_push_size
def Zl:=@List.mem_map
def Zm:=@List.mem_singleton
def Zn:=@List.mem_filter
def Zo:=@PySem.Heap.lt_size
def Zq:=@PyProof.Rows.wpS_pure
def Zr:=@Bool.false_ne_true
def Zs:=@List.mem_cons
def Zt:=@List.length_cons
def Zu:=@List.mem_append
def Zv:=@List.getElem?_map
def Zw:=@List.pairwise_iff_getElem
def Zx:=@List.map_append
def Zy:=@List.getElem?_eq_some_iff
def Zz:=@List.mem_append_right
def ZA:=@Nat.lt_of_lt_of_le
def ZB:=@Nat.ne_of_lt
def ZC:=@List.getElem_mem
def ZD:=@List.append_assoc
def ZE:=@List.length_take
def ZF:=@List.append_nil
def ZG:=@List.mem_iff_getElem
def ZH:=@List.take_sublist
def ZI:=@List.length_range
def ZJ:=@of_decide_eq_true
def ZK:=@Array.toList_append
def ZL:=@List.mem_range
def ZM:=@List.mem_append_left
def ZN:=@Bool.and_eq_true
def ZO:=@Option.some.inj
def ZP:=@PySem.wpAny_newObj_type
def ZQ:=@PySem.Heap.SameBut.update
def ZR:=@List.pairwise_append
def ZS:=@PySem.wpAny_callSpecial?_slot
def ZT:=@Array.getD_eq_getD_getElem?
def ZU:=@List.length_singleton
def ZV:=@Nat.le_trans
def ZW:=@PySem.wpAny_call_entry
def ZX:=@List.not_mem_nil
def ZY:=@Nat.lt_or_ge
def ZZ:=@Nat.zero_le
def Z0:=@List.map_cons
def Z1:=@List.getElem?_append_right
def Z2:=@List.mem_cons_of_mem
def Z3:=@PySem.wpAny_field
def Z4:=@PySem.wpAny_mono
def Z5:=@List.lookup_cons
def Z6:=@List.all_eq_true
def Z7:=@List.pairwise_map
def Z8:=@List.take_append_drop
def Z9:=@PySem.boot_len
def y0:=@Int.toNat_natCast
def y4:=@Bool.eq_false_iff
def y6:=@List.mem_of_mem_take
def y7:=@List.take_length
def y8:=@List.nodup_iff_pairwise_ne
def y9:=@Nat.add_sub_cancel_left
def Ya:=@List.filter_cons_of_pos
def Yb:=@List.filter_cons_of_neg
def Yc:=@PySem.wpAny_truthy_bool
def Yd:=@List.getElem?_append_left
def Ye:=@PySem.Obj.data_mapFields
def Yf:=@List.take_of_length_le
def Yg:=@PySem.PassesOwn.never
def Yh:=@Nat.ne_of_gt
def Yi:=@PyProof.Rows.wpS_forRange
def Yj:=@Ne.symm
def Yk:=@List.length_filter_le
def Yl:=@PyProof.Rows.slot_tuple_getitem
def Ym:=@PySem.wpAny_holding
def Yn:=@List.mem_cons_self
def Yo:=@Nat.lt_of_le_of_lt
def Yp:=@List.map_map
def Yq:=@PySem.F.slot_dict_valueiterator_next
def Yr:=@List.length_drop
def Ys:=@Option.map_eq_some_iff
def Yt:=@PyProof.Rows.wpS_mono
def Yu:=@Array.map_append
def Yv:=@List.filter_sublist
def Yw:=@PySem.F.slot_dict_keyiterator_next
def Yx:=@List.drop_sublist
def Yy:=@PySem.W.kia_one
def Yz:=@Bool.false_eq_true
def YA:=@PySem.Paired.length
def YB:=@Bool.false_and
def YC:=@PySem.Heap.get?_update_other
def YD:=@PySem.wpAny_setField
def YE:=@List.flatten_cons
def YF:=@Bool.eq_iff_iff
def YG:=@PySem.Heap.get?_update_self
def YH:=@or_false
def YI:=@List.filter_append
def YJ:=@Nat.lt_irrefl
def YK:=@Array.size_map
def YL:=@List.getElem_take
def YM:=@PyProof.Rows.callWith_type1
def YN:=@PySem.mem_of_lookup
def YO:=@PySem.wpAny_rule
def YQ:=@Array.perm_iff_toList_perm
def YR:=@Bool.true_and
def YS:=@PySem.W.mg_of
def YT:=@if_false
def YU:=@PySem.F.slot_tuple_iterator_next
def YV:=@PySem.Heap.size_push
def YW:=@PySem.wpAny_seqItems
def YX:=@PySem.Obj.isFreed_of_fields
def YY:=@beq_iff_eq
def YZ:=@PySem.AutoSeq1.wpAny_loadPart'
def Y0:=@decide_eq_true_eq
def Y1:=@PySem.wpAny_dictEntries
def Y2:=@PySem.wpAny_typeNameOfWhole_keyiter
def Y3:=@PySem.wpAny_typeNameOfWhole_valiter
def Y4:=@List.replicate_succ
def Y5:=@List.toList_toArray
def Y6:=@List.getElem?_range
def Y7:=@List.drop_of_length_le
def Y8:=@PySem.wpAny_pyIter_tuple
def Y9:=@PySem.wpAny_Call_Name_kw
def x5:=@List.nil_append
def x6:=@Nat.lt_succ_of_lt
def x8:=@List.reverse_cons
def x9:=@PySem.sizeLine_eq
set_option Elab.async false
set_option linter.all false
set_option maxRecDepth 100000
set_option maxHeartbeats 2000000
local macro_rules | `(tactic| omega) => `(tactic| first | with_reducible first | assumption | exact Nat.le_of_lt (by assumption) | exact Nat.le_refl _ | exact Nat.lt_add_one _ | exact Nat.le_trans (by assumption) (by decide) | exact Nat.lt_of_lt_of_le (by assumption) (by decide) | exact Nat.sub_lt_sub_left (by assumption) (Nat.lt_add_one _) | exact Nat.le_antisymm (by assumption) (Nat.le_of_not_lt (by assumption)) | lia)
namespace L2
open PySem PySem.Spec PyProof.Rows
abbrev Key:=Sum Int Str
def jB:Key->Value->Bool
 |.inl k,v=>Value.isInt k v
 |.inr x,v=>Value.isStrOf x v
def FQ(w:World):Key->Int
 |.inl k=>hashInt k
 |.inr x=>hashStr w x
theorem bH:∀{k:Key} {v:Value},jB k v=true->(∃i t,k=Sum.inl i/\v=Value.int i t)\/(∃x t,k=Sum.inr x/\v=Value.str x t)
 |.inl i,v,h=>by obtain⟨t,e⟩:=Value.isInt_shape (k:=i) (v:=v) h;exact .inl ⟨i,t,rfl,e⟩
 |.inr x,v,h=>by obtain⟨t,e⟩:=Value.isStrOf_shape (x:=x) (v:=v) h;exact .inr ⟨x,t,rfl,e⟩
theorem xl(i:Int)(t:Tok):jB (.inl i) (.int i t)=true:=by simp[jB,Value.isInt]
theorem xm(x:Str)(t:Tok):jB (.inr x) (.str x t)=true:=by simp[jB,Value.isStrOf]
theorem C5(a b:Int):decide ((Sum.inl a:Key)=Sum.inl b)=(a==b):=by
 by_cases e:a=b
 ·subst e;simp
 ·have h:¬(Sum.inl a:Key)=Sum.inl b:=fun q=>e (Sum.inl.inj q);rw[decide_eq_false h];exact(beq_eq_false_iff_ne.mpr e).symm
theorem C8(a b:Str):decide ((Sum.inr a:Key)=Sum.inr b)=decide (a=b):=by
 by_cases e:a=b
 ·subst e;simp
 ·have h:¬(Sum.inr a:Key)=Sum.inr b:=fun q=>e (Sum.inr.inj q);rw[decide_eq_false h,decide_eq_false e]
theorem C6(a:Int)(b:Str):decide ((Sum.inl a:Key)=Sum.inr b)=false:=decide_eq_false (fun q=>nomatch q)
theorem C7(a:Str)(b:Int):decide ((Sum.inr a:Key)=Sum.inl b)=false:=decide_eq_false (fun q=>nomatch q)
def bN(prog:Program)(w:World):PySem.KeyKind prog w Key where
 is:=jB
 hash:=FQ w
 inj:=fun v a b ha hb=>by
  rcases bH ha with⟨i,t,rfl,rfl⟩|⟨x,t,rfl,rfl⟩
  ·rcases bH hb with⟨j,u,rfl,e⟩|⟨y,u,rfl,e⟩
   ·injection e with e1 _;rw[e1]
   ·exact nomatch e
  ·rcases bH hb with⟨j,u,rfl,e⟩|⟨y,u,rfl,e⟩
   ·exact nomatch e
   ·injection e with e1 _;rw[e1]
 byValue:=fun k v h=>by rcases bH h with⟨i,t,rfl,rfl⟩|⟨x,t,rfl,rfl⟩<;>rfl
 pyHash:=fun hv h=>by
  rcases bH hv with⟨i,t,rfl,rfl⟩|⟨x,t,rfl,rfl⟩
  ·exact wpAny_pyHash_int h
  ·exact wpAny_pyHash_str h
 eqBool:=fun hu hv h=>by
  rcases bH hu with⟨i,t,rfl,rfl⟩|⟨x,t,rfl,rfl⟩
  ·rcases bH hv with⟨j,u,rfl,rfl⟩|⟨y,u,rfl,rfl⟩
   ·rw[C5]at h;exact wpAny_eqBool_int h
   ·rw[C6]at h;exact SeqAt.EqAt.int_str i t y u _ _ _ _ h
  ·rcases bH hv with⟨j,u,rfl,rfl⟩|⟨y,u,rfl,rfl⟩
   ·rw[C7]at h;exact SeqAt.EqAt.str_int x t j u _ _ _ _ h
   ·rw[C8]at h;exact wpAny_eqBool_str h
 «strs»:=fun k x t v h=>by
  rcases bH h with⟨i,u,rfl,e⟩|⟨y,u,rfl,e⟩
  ·exact nomatch e
  ·injection e with e1 _;subst e1;cases v<;>rfl
theorem rZ(prog:Program)(w:World)(i:Int)(t:Tok):(bN prog w).is (.inl i) (.int i t)=true:=xl i t
theorem se(prog:Program)(w:World)(x:Str)(t:Tok):(bN prog w).is (.inr x) (.str x t)=true:=xm x t
open PySem PySem.Spec PyProof.Rows
inductive V where
 |non|bl (b:Bool)|int (i:Int)|str (x:Str)|byt (b:Array UInt8)|flt (b:UInt64)|ref (a:Addr)|ty (n:String)
 deriving DecidableEq
def RelV:V->Value->Prop
 |.non,u=>u=Value.none
 |.bl b,u=>u=Value.bool b
 |.int i,u=>∃t,u=Value.int i t
 |.str x,u=>∃t,u=Value.str x t
 |.byt b,u=>∃t,u=Value.bytes b t
 |.flt b,u=>∃t,u=Value.float b t
 |.ref a,u=>u=Value.ref a
 |.ty n,u=>u=Value.type n
abbrev Vals:List V->List Value->Prop:=Paired RelV
theorem Vals.length{xs:List V}{us:List Value}(r:Vals xs us):xs.length=us.length:=YA r
theorem Vals.get:∀{xs:List V} {us:List Value} {i:Nat} {x:V},Vals xs us->xs[i]?=some x->∃u,us[i]?=some u/\RelV x u
 |_,_,_,_,.nil,e=>by simp at e
 |_,_,0,_,.cons r _,e=>by simp at e;subst e;exact⟨_,rfl,r⟩
 |_,_,i+1,x,.cons _ t,e=>by obtain⟨u,h1,h2⟩:=Vals.get (i:=i) (x:=x) t (by simpa using e);exact⟨u,by simpa using h1,h2⟩
theorem Vals.set{x:V}{u:Value}(r:RelV x u):∀{xs:List V} {us:List Value} (i:Nat),Vals xs us->Vals (xs.set i x) (us.set i u)
 |_,_,_,.nil=>.nil
 |_,_,0,.cons _ t=>.cons r t
 |_,_,i+1,.cons q t=>.cons q (Vals.set r i t)
theorem Vals.append:∀{xs ys:List V} {us ws:List Value},Vals xs us->Vals ys ws->Vals (xs++ys) (us++ws)
 |_,_,_,_,.nil,s=>s
 |_,_,_,_,.cons r t,s=>.cons r (Vals.append t s)
theorem Vals.take:∀{xs:List V} {us:List Value} (n:Nat),Vals xs us->Vals (xs.take n) (us.take n)
 |_,_,0,_=>.nil
 |_,_,_+1,.nil=>.nil
 |_,_,n+1,.cons r t=>.cons r (Vals.take n t)
theorem Vals.drop:∀{xs:List V} {us:List Value} (n:Nat),Vals xs us->Vals (xs.drop n) (us.drop n)
 |_,_,0,r=>r
 |_,_,_+1,.nil=>.nil
 |_,_,n+1,.cons _ t=>Vals.drop n t
def RelO:Option V->Option Value->Prop
 |some v,some u=>RelV v u
 |none,none=>True
 |_,_=>False
def KV{κ:Type}:List (κ×V)->List (κ×Value)->Prop:=Paired fun(p:κ×V) (q:κ×Value)=>p.1=q.1/\RelV p.2 q.2
def kV:Key->V
 |.inl i=>.int i
 |.inr x=>.str x
inductive HO where
 |lst (xs:List V)
 |tup (xs:List V)
 |dK (kvs:List (Key×V))|dT (kvs:List (List Key×V))
 |set (S:Int->Bool)(n:Nat)
 |ins (C dx:Addr)(fs:List (Str×V))
 |own (x:Addr)
 |xd (fs:List (Str×V))
 |met (f x:Addr)
 |rng (lo hi:Int)
 |frz (o:Obj)(u:HO)
 |tbl (ps:Array Value)
 |ext (φ:Heap->Prop)
abbrev Hp:=Addr->Option HO
def upd(H:Hp)(a:Addr)(o:HO):Hp:=fun b=>if b=a then some o else H b
theorem ad{H:Hp}{a:Addr}{o:HO}:upd H a o a=some o:=by unfold upd;rw[if_pos rfl]
theorem af{H:Hp}{a b:Addr}{o:HO}(h:b≠a):upd H a o b=H b:=by unfold upd;rw[if_neg h]
theorem E5{H:Hp}{a b:Addr}{o u:HO}(h:H a=some o)(h':H b=some u)(d:o≠u):a≠b:=by intro e;subst e;rw[h]at h';exact d (ZO h')
theorem am{H:Hp}{a b:Addr}{o:HO}(h:H a=some o)(h':H b=none):a≠b:=by intro e;subst e;rw[h]at h';cases h'
section
variable(P:Program)(w:World)
def ObjOk(H:Hp)(h:Heap)(a:Addr):HO->Prop
 |.lst xs=>xs.length<=sizeLine/\∃(its:List Value) (n:Nat),Vals xs its/\h.get? a=some { cls:=.type "list",data:=.seq its.toArray n }
 |.tup xs=>xs.length<=sizeLine/\∃its:List Value,Vals xs its/\IsTup h a its.toArray
 |.dK kvs=>kvs.length<=sizeLine/\(a==sysModules)=false/\∃vs,KV kvs vs/\h.DictOf (bN P w) a vs
 |.dT kvs=>kvs.length<=sizeLine/\(a==sysModules)=false/\∃xs:List (List Key×Addr×Value),
   Paired (fun(p:List Key×V) (q:List Key×Addr×Value)=>p.1=q.1/\H q.2.1=some (.tup (p.1.map kV))/\RelV p.2 q.2.2) kvs xs /\
   ∃o es ep,h.get? a=some o/\o.ExactDict/\o.data=.dict es ep/\es.toList=xs.map (entryOfKey (tupleKind (bN P w)))/\(xs.map (·.1)).Nodup
 |.set S n=>h.SetOf (intKind P w) a S n
 |.ins C dx fs=>H dx=some (.own a)/\fs.length<=1000/\dx≠a/\h.get? a=some (PySem.W.instObj C dx) /\
   ∃mA,h.Ns1 dx mA/\(∀f,RelO (fs.lookup f) (mA f))/\PySem.Within mA (fs.map (·.1))
 |.own _=>∃o,h.get? a=some o
 |.xd fs=>∃mA,h.Ns1 a mA/\∀f,RelO (fs.lookup f) (mA f)
 |.rng lo hi=>∃t u v,h.get? a=some { cls:=.type "range",data:=.fields #[.int lo t,.int hi u,.int 1 v] }
 |.frz o u=>h.get? a=some o/\ObjOk H h a u
 |.tbl ps=>h.get? a=some { cls:=.none,data:=.fields ps }
 |.met f x=>h.get? a=some (PySem.W.methodObj (.ref f) (.ref x))
 |.ext φ=>φ h/\(∃o,h.get? a=some o)/\∀h1 h2:Heap,φ h1->(∀o,h1.get? a=some o->h2.get? a=some o)->φ h2
def HOk(H:Hp)(h:Heap):Prop:=∀a o,H a=some o->ObjOk P w H h a o
end
section
variable{P:Program}{w:World}{H H':Hp}{h h':Heap}{a:Addr}{o:HO}
theorem ObjOk.lt(x:ObjOk P w H h a o):a<h.objs.size:=by
 cases o with
 |lst xs=>obtain⟨_,_,_,_,e⟩:=x;exact Zo e
 |tup xs=>obtain⟨_,_,_,p⟩:=x;exact p.lt
 |dK kvs=>obtain⟨_,_,_,_,o,_,_,e,_⟩:=x;exact Zo e
 |dT kvs=>obtain⟨_,_,_,_,o,_,_,e,_⟩:=x;exact Zo e
 |set S n=>obtain⟨o,_,_,_,e,_⟩:=x;exact Zo e
 |ins C dx fs=>obtain⟨_,_,_,e,_⟩:=x;exact Zo e
 |own y=>obtain⟨_,e⟩:=x;exact Zo e
 |xd fs=>obtain⟨_,⟨_,_,_,e,_⟩,_⟩:=x;exact Zo e
 |rng lo hi=>obtain⟨_,_,_,e⟩:=x;exact Zo e
 |frz ob u=>obtain⟨e,_⟩:=x;exact Zo e
 |tbl ps=>exact Zo (show h.get? a=some _ from x)
 |met f y=>exact Zo (show h.get? a=some _ from x)
 |ext φ=>obtain⟨_,⟨_,e⟩,_⟩:=x;exact Zo e
theorem Paired.mapP{α β:Type}{F G:α->β->Prop}:∀{l₁:List α} {l₂:List β},Paired F l₁ l₂->(∀a b,F a b->G a b)->Paired G l₁ l₂
 |_,_,.nil,_=>.nil
 |_,_,.cons r t,f=>.cons (f _ _ r) (Paired.mapP t f)
theorem ObjOk.stay(x:ObjOk P w H h a o)(k:∀b u,(b=a\/H b=some (.own a))->h.get? b=some u->h'.get? b=some u)(ho:∀b,H b=some (.own a)->H' b=some (.own a))(ht:∀b xs,H b=some (.tup xs)->H' b=some (.tup xs)):ObjOk P w H' h' a o:=by
 induction o with
 |lst xs=>obtain⟨z,its,n,r,e⟩:=x;exact⟨z,its,n,r,k _ _ (.inl rfl) e⟩
 |tup xs=>obtain⟨z,its,r,ob,e,c⟩:=x;exact⟨z,its,r,ob,k _ _ (.inl rfl) e,c⟩
 |dK kvs=>obtain⟨z,y,vs,r,ob,es,ep,e,c⟩:=x;exact⟨z,y,vs,r,ob,es,ep,k _ _ (.inl rfl) e,c⟩
 |dT kvs =>obtain⟨z,y,xs,r,ob,es,ep,e,c⟩:=x;exact⟨z,y,xs,Paired.mapP r fun p q z=>⟨z.1,ht _ _ z.2.1,z.2.2⟩,ob,es,ep,k _ _ (.inl rfl) e,c⟩
 |set S n=>obtain⟨ob,es,ep,t,e,c⟩:=x;exact⟨ob,es,ep,t,k _ _ (.inl rfl) e,c⟩
 |ins C dx fs =>obtain⟨d,z,ne,e,mA,⟨od,es,ep,e2,c⟩,r⟩:=x;exact⟨ho _ d,z,ne,k _ _ (.inl rfl) e,mA,⟨od,es,ep,k _ _ (.inr d) e2,c⟩,r⟩
 |own y=>obtain⟨ob,e⟩:=x;exact⟨ob,k _ _ (.inl rfl) e⟩
 |xd fs=>obtain⟨mA,⟨od,es,ep,e,c⟩,r⟩:=x;exact⟨mA,⟨od,es,ep,k _ _ (.inl rfl) e,c⟩,r⟩
 |rng lo hi=>obtain⟨t,u,v,e⟩:=x;exact⟨t,u,v,k _ _ (.inl rfl) e⟩
 |frz ob u ih=>obtain⟨e,q⟩:=x;exact⟨k _ _ (.inl rfl) e,ih q⟩
 |tbl ps =>have e:h.get? a=some { cls:=.none,data:=.fields ps }:=x;show h'.get? a=some { cls:=.none,data:=.fields ps };exact k a _ (.inl rfl) e
 |met f y =>have e:h.get? a=some (PySem.W.methodObj (.ref f) (.ref y)):=x;show h'.get? a=some (PySem.W.methodObj (.ref f) (.ref y));exact k a _ (.inl rfl) e
 |ext φ=>obtain⟨p,⟨o,e⟩,st⟩:=x;exact⟨st _ _ p fun o q=>k _ _ (.inl rfl) q,⟨o,k _ _ (.inl rfl) e⟩,st⟩
theorem HOk.lt(x:HOk P w H h)(e:H a=some o):a<h.objs.size:=(x a o e).lt
theorem HOk.fresh(x:HOk P w H h)(e:h.objs.size<=a):H a=none:=by
 cases q:H a with
 |none=>rfl
 |some u=>exact absurd (ZA (x.lt q) e) (YJ _)
theorem HOk.kept(x:HOk P w H h)(k:∀b u,h.get? b=some u->h'.get? b=some u):HOk P w H h':=fun a o e =>
 (x a o e).stay (fun b u _ q=>k b u q) (fun _ q=>q) fun _ _ q=>q
theorem HOk.laid(x:HOk P w H h)(k:∀b u,h.get? b=some u->h'.get? b=some u)(hp:h.objs.size<=a)(new:ObjOk P w (upd H a o) h' a o):HOk P w (upd H a o) h':=fun b u e=>by
 have hn:=x.fresh hp;by_cases hb:b=a
 ·subst hb;rw[ad]at e;cases e;exact new
 ·rw[af hb]at e;exact(x b u e).stay (fun c v _ q=>k c v q) (fun c q=>by rw[af (am q hn)];exact q) fun c xs q=>by rw[af (am q hn)];exact q
end
def Rd(H:Hp)(a:Addr)(u:HO):Prop:=H a=some u\/∃o,H a=some (.frz o u)
theorem Rd.of{H:Hp}{a:Addr}{u:HO}(h:H a=some u):Rd H a u:=.inl h
theorem Rd.ok{P:Program}{w:World}{H:Hp}{h:Heap}{a:Addr}{u:HO}(r:Rd H a u)(x:HOk P w H h):ObjOk P w H h a u:=by
 rcases r with r|⟨o,r⟩
 ·exact x a u r
 ·obtain⟨_,q⟩:=x a _ r;exact q
def Mut:Option HO->Prop
 |some (.lst _)=>True
 |some (.dK _)=>True
 |some (.dT _)=>True
 |some (.set _ _)=>True
 |some (.ins _ _ _)=>True
 |some (.ext _)=>True
 |_=>False
section
variable{P:Program}{w:World}{H:Hp}{h h':Heap}{x e:Addr}{o':HO}
theorem HOk.write(ok:HOk P w H h)(mu:Mut (H x))(he:e=x\/H e=some (.own x))(k:∀b u,b≠e->h.get? b=some u->h'.get? b=some u)(heo:∃u,h'.get? e=some u)(new:ObjOk P w (upd H x o') h' x o'):HOk P w (upd H x o') h':=fun b u q=>by
 have nown:∀c y,H c=some (.own y)->c≠x:=fun c y r z=>by subst z;rw[r]at mu;exact mu
 have ntup:∀c xs,H c=some (.tup xs)->c≠x:=fun c xs r z=>by subst z;rw[r]at mu;exact mu
 by_cases hb:b=x
 ·subst hb;rw[ad]at q;cases q;exact new
 ·rw[af hb]at q;by_cases hbe:b=e
  ·have q':H b=some (.own x):=by
    rcases he with z|z
    ·exact absurd (hbe.trans z) hb
    ·rw[hbe];exact z
   rw[q]at q';cases q';obtain⟨v,hv⟩:=heo;exact⟨v,by rw[hbe];exact hv⟩
  ·refine(ok b u q).stay (fun c v hc r=>k c v ?_ r) (fun c r=>by rw[af (nown c b r)];exact r) fun c xs r=>by rw[af (ntup c xs r)];exact r
   rcases hc with rfl|hc
   ·exact hbe
   ·rintro rfl;rcases he with z|z
    ·exact nown c b hc z
    ·rw[hc]at z;cases z;exact hb rfl
end
structure Un(fs ex:List Addr)(H H':Hp)(h h':Heap):Prop where
 keep:∀b o,h.get? b=some o->H b=none->b∉fs->b∉ex->h'.get? b=some o
 slot:∀b o,h.get? b=some o->H b=none->b∈fs->b∉ex->∃sl,h'.get? b=some { o with slots:=sl }
 free:∀b o,h.get? b=some o->H b=none->b∉ex->H' b=none
 there:∀b o,h.get? b=some o->b∉ex->∃o',h'.get? b=some o'
 tups:∀b xs,H b=some (.tup xs)->H' b=some (.tup xs)
 frzs:∀b o u,H b=some (.frz o u)->H' b=some (.frz o u)
 tbls:∀b ps,H b=some (.tbl ps)->∃more,H' b=some (.tbl (ps++more))
section
variable{fs fs' ex ex':List Addr}{H H1 H2:Hp}{h h1 h2 h':Heap}{a x e:Addr}{o:HO}
theorem Un.any(u:Un fs ex H H1 h h1){b:Addr}{ob:Obj}(q:h.get? b=some ob)(n:H b=none)(hx:b∉ex):∃sl,h1.get? b=some { ob with slots:=sl }:=by
 by_cases hb:b∈fs
 ·exact u.slot b ob q n hb hx
 ·exact⟨ob.slots,u.keep b ob q n hb hx⟩
theorem Un.kept(k:∀b u,h.get? b=some u->h'.get? b=some u):Un fs ex H H h h' :=
 ⟨fun b ob q _ _ _=>k b ob q,fun b ob q _ _ _=>⟨ob.slots,k b ob q⟩,fun _ _ _ n _=>n,fun b ob q _=>⟨ob,k b ob q⟩,fun _ _ q=>q,fun _ _ _ q=>q,fun _ ps q=>⟨#[],by rw[q];simp⟩⟩
theorem Un.refl:Un fs ex H H h h:=Un.kept fun _ _ q=>q
theorem Un.laid(k:∀b u,h.get? b=some u->h'.get? b=some u)(hp:h.objs.size<=a)(hn:H a=none):Un fs ex H (upd H a o) h h' where
 keep:=fun b u q _ _ _=>k b u q
 slot:=fun b u q _ _ _=>⟨u.slots,k b u q⟩
 free:=fun b u q n _=>by rw[af (ZB (ZA (Zo q) hp))];exact n
 there:=fun b u q _=>⟨u,k b u q⟩
 tups:=fun b xs q=>by rw[af (am q hn)];exact q
 frzs:=fun b u xs q=>by rw[af (am q hn)];exact q
 tbls:=fun b ps q=>⟨#[],by rw[af (am q hn),q];simp⟩
theorem Un.write(mu:Mut (H x))(he:e=x\/H e=some (.own x))(k:∀b u,b≠e->h.get? b=some u->h'.get? b=some u)(heo:∃u,h'.get? e=some u):Un fs ex H (upd H x o) h h':=by
 have hx:∀b,H b=none->b≠x:=fun b n z=>by subst z;rw[n]at mu;exact mu
 have hb:∀b,H b=none->b≠e:=fun b n z=>by
  subst z;rcases he with r|r
  ·exact hx b n r
  ·rw[n]at r;cases r
 have hm:∀b u,H b=some u->¬Mut (some u)->b≠x:=fun b u q nm z=>by subst z;rw[q]at mu;exact nm mu
 refine⟨fun b u q n _ _=>k b u (hb b n) q,fun b u q n _ _=>⟨u.slots,k b u (hb b n) q⟩,fun b u q n _=>by rw[af (hx b n)];exact n,fun b u q _=>?_,
  fun b xs q=>by rw[af (hm b _ q fun z=>z)];exact q,fun b u xs q=>by rw[af (hm b _ q fun z=>z)];exact q,fun b ps q=>⟨#[],by rw[af (hm b _ q fun z=>z),q];simp⟩⟩
 by_cases hbe:b=e
 ·subst hbe;exact heo
 ·exact⟨u,k b u hbe q⟩
end
def trk(h:Heap)(H:Hp):List Addr:=(List.range h.objs.size).filter fun a=>(H a).isSome
def gE(h:Heap)(H:Hp):Heap:=PySem.W.hideAll h (trk h H)
theorem xc(h:Heap)(H:Hp):(gE h H).objs.size=h.objs.size:=PySem.W.hideAll_size _ _
theorem ir{h:Heap}{H:Hp}{b:Addr}{o:Obj}(e:h.get? b=some o)(n:H b=none):(gE h H).get? b=some o :=
 PySem.W.hideAll_get _ e fun hm=>by have q:(H b).isSome=true:=(Zn.mp hm).2;rw[n]at q;simp at q
theorem BK{h:Heap}{H:Hp}{b:Addr}{o:Obj}(e:(gE h H).get? b=some o):h.get? b=some o/\H b=none:=by
 have e':h.get? b=some o:=PySem.W.of_hideAll (trk h H) e;refine⟨e',?_⟩;cases q:H b with
 |none=>rfl
 |some x =>have hm:b∈trk h H:=Zn.mpr ⟨ZL.mpr (Zo e'),by simp[q]⟩;have z:(gE h H).get? b=none:=PySem.W.hideAll_none (trk h H) hm;rw[z]at e;cases e
open PySem PySem.Spec PyProof.Rows
structure Mod(K:PySem.W.Frag)(mg:Str->Option Value)(base:Heap):Prop where
 kin:K.In base
 glob:base.Ns mainGlobals mg
 blt:∃mb,base.Ns builtinsNs mb/\∀x:Str,x≠"__name__"->mb x=bootBuiltins x
 nolimit:base.NoLimit
structure Cx where
 prog:Program
 w:World
 K:PySem.W.Frag
 mg:Str->Option Value
 base:Heap
 A:Around
 N:List Str
 s₀:Shared
 H₀:Hp
 env:Env
 outer:List Env
 stack:List Env
 ex:List Addr
 fn:Str->Bool
 calm:Bool
 pn:List (Addr×Obj)
 xe:Value->Shared->Prop
def frs(l:List Env):List Addr:=l.filterMap (·.frame)
abbrev Cx.fs(X:Cx):List Addr:=frs X.outer
def Vis(sc:Scope)(x:Str):Prop:=sc.names.lookup x=some .local\/sc.names.lookup x=some .cell\/sc.names.lookup x=some .free
def Loc(sc:Scope)(x:Str):Prop:=sc.names.lookup x=some .local\/sc.names.lookup x=some .cell
def FK(env:Env)(h:Heap)(m:Str->Option Value)(x:Str)(u:Value):Prop :=
 (env.kindOf x=some .local/\m x=some u)\/((env.kindOf x=some .cell\/env.kindOf x=some .free)/\∃c,env.cells.lookup x=some c/\h.IsCell c (some u))
structure Cx.Ok(X:Cx):Prop where
 mod:Mod X.K X.mg X.base
 kind:X.env.scope.kind=.function
 glob:X.env.globals=mainGlobals
 blt:X.env.builtins=builtinsNs
 above:X.s₀.heap.objs.size<=X.env.locals
 inj:∀x y c,X.env.cells.lookup x=some c->X.env.cells.lookup y=some c->x=y
 has:∀x,(X.env.kindOf x=some .cell\/X.env.kindOf x=some .free)->∃c,X.env.cells.lookup x=some c
 cab:∀x c,X.fn x=true->X.env.cells.lookup x=some c->X.s₀.heap.objs.size<=c
 hd:X.calm=true->X.A.handled=none
 frames:X.A.frames=some X.stack
 stk:X.stack=X.outer\/(X.stack=X.env::X.outer/\X.env.frame=some X.env.locals)
 exf:∀b∈X.ex,b≠X.env.locals/\∀x c,X.env.cells.lookup x=some c->c≠b
 bs:∀b o,X.base.get? b=some o->X.s₀.heap.get? b=some o/\X.H₀ b=none
 bsz:X.base.objs.size<=X.s₀.heap.objs.size
 noex:∀b o,X.base.get? b=some o->b∉X.ex
 exfs:∀b∈X.ex,b∉X.fs
 funs:X.s₀.heap.FunFrames X.base X.outer
 frf:∀b∈X.fs,X.H₀ b=none
structure Inv(X:Cx)(pins:List (Addr×Obj))(σ:List (Option V))(H:Hp)(s:Shared):Prop where
 ok:X.Ok
 os:s.os=X.s₀.os
 bare:AllBare s.gens
 base:Un X.fs X.ex X.H₀ H X.s₀.heap s.heap
 loc:∃m,s.heap.Ns X.env.locals m/\∀(i:Nat) (x:Str) (v:V),X.N[i]?=some x->σ[i]?=some (some v)->Vis X.env.scope x->∃u,RelV v u/\FK X.env s.heap m x u
 cell:∀x c,X.env.cells.lookup x=some c->∃v,s.heap.IsCell c v
 free:H X.env.locals=none
 freeC:∀x c,X.env.cells.lookup x=some c->H c=none
 pin:∀p∈X.pn++pins,s.heap.get? p.1=some p.2/\H p.1=none/\p.1≠X.env.locals/\p.1∉X.fs/\∀v,p.2.data≠.cell v
 hok:HOk X.prog X.w H s.heap
 len:σ.length=X.N.length
section
variable{X:Cx}{pins:List (Addr×Obj)}{σ:List (Option V)}{H H':Hp}{s:Shared}{h':Heap}
theorem Cx.Ok.nofr(ok:X.Ok){b:Addr}{o:Obj}(e:X.base.get? b=some o):b∉X.fs:=fun hb=>by have:=(ok.funs.mem hb).1;rw[e]at this;cases this
theorem Inv.bs(I:Inv X pins σ H s):∀b o,X.base.get? b=some o->s.heap.get? b=some o/\H b=none:=fun b o e =>
 ⟨I.base.keep b o (I.ok.bs b o e).1 (I.ok.bs b o e).2 (I.ok.nofr e) (I.ok.noex b o e),I.base.free b o (I.ok.bs b o e).1 (I.ok.bs b o e).2 (I.ok.noex b o e)⟩
theorem Inv.bk(I:Inv X pins σ H s):∀b o,X.base.get? b=some o->s.heap.get? b=some o:=fun b o e=>(I.bs b o e).1
theorem Inv.mod(I:Inv X pins σ H s):Mod X.K X.mg X.base:=I.ok.mod
theorem Inv.kIn(I:Inv X pins σ H s):X.K.In s.heap:=I.ok.mod.kin.keeps I.bk
theorem Inv.fr(I:Inv X pins σ H s):∃m,Fr X.base X.env.locals s.heap m :=
 let⟨m,hn,_⟩:=I.loc
 ⟨m,hn,I.bk,ZV I.ok.bsz I.ok.above⟩
theorem Inv.lt(I:Inv X pins σ H s):X.env.locals<s.heap.objs.size:=let⟨_,hn,_⟩:=I.loc;hn.lt
theorem Inv.sz(I:Inv X pins σ H s):X.s₀.heap.objs.size<=s.heap.objs.size:=ZV I.ok.above (Nat.le_of_lt I.lt)
theorem Inv.nofs(I:Inv X pins σ H s){a:Addr}(h:s.heap.objs.size<=a):a∉X.fs:=fun hb=>by obtain⟨_,o,ho,_⟩:=I.ok.funs.mem hb;exact absurd (ZA (Zo ho) (ZV I.sz h)) (YJ _)
theorem Inv.cne(I:Inv X pins σ H s):∀x c,X.env.cells.lookup x=some c->c≠X.env.locals:=fun x c e z=>by obtain⟨v,o,ho,hd⟩:=I.cell x c e;obtain⟨m,⟨o',es,ep,ho',hd',_⟩,_⟩:=I.loc;rw[z,ho']at ho;cases ho;rw[hd']at hd;cases hd
theorem Inv.funs(I:Inv X pins σ H s):s.heap.FunFrames X.base X.outer:=by
 have all:∀(l:List Env),(∀b∈frs l,b∈X.fs)->X.s₀.heap.FunFrames X.base l->s.heap.FunFrames X.base l:=by
  intro l;induction l with
  |nil=>intro _ _;trivial
  |cons env r ih =>intro hs hl;obtain⟨hk,⟨L,o,hf,hn,ho,hd⟩,hr⟩:=hl;have hL:L∈X.fs:=hs L (by unfold frs;rw[List.filterMap_cons,hf];exact Yn);obtain⟨sl,e⟩:=I.base.slot L o ho (I.ok.frf L hL) hL fun z=>I.ok.exfs L z hL;exact⟨hk,⟨L,_,hf,hn,e,hd⟩,ih (fun b hb=>hs b (by unfold frs;rw[List.filterMap_cons,hf];exact Z2 _ hb)) hr⟩
 exact all X.outer (fun _ hb=>hb) I.ok.funs
theorem Inv.stack(I:Inv X pins σ H s):s.heap.FunFrames X.base X.stack:=by
 rcases I.ok.stk with e|⟨e,hf⟩
 ·rw[e];exact I.funs
 ·rw[e];obtain⟨m,hn,_⟩:=I.loc;refine .cons (by rw[I.ok.kind];decide) hf hn ?_ I.funs;exact Heap.get?_none_of_le (ZV I.ok.bsz I.ok.above)
theorem Inv.stkSub(I:Inv X pins σ H s):∀b∈frs X.stack,b∈X.env.locals::X.fs:=fun b hb=>by
 rcases I.ok.stk with e|⟨e,hf⟩
 ·rw[e]at hb;exact Z2 _ hb
 ·rw[e]at hb;unfold frs at hb;rw[List.filterMap_cons,hf]at hb;exact hb
theorem Inv.stkFree(I:Inv X pins σ H s):∀b∈frs X.stack,H b=none:=fun b hb=>by
 rcases Zs.mp (I.stkSub b hb)with e|hb
 ·rw[e];exact I.free
 ·obtain⟨_,o,ho,_⟩:=I.ok.funs.mem hb;exact I.base.free b o ho (I.ok.frf b hb) fun z=>I.ok.exfs b z hb
theorem Inv.step{g':Array GenState}{t':Nat}{d':Drawn}{ch:List Addr}(I:Inv X pins σ H s)(hch:∀b∈ch,(b∈X.ex\/X.s₀.heap.objs.size<=b)/\b≠X.env.locals/\(∀x c,X.env.cells.lookup x=some c->c≠b)/\∀p∈X.pn++pins,p.1≠b)(keep:∀b o,b≠X.env.locals->b∉X.fs->b∉ch->s.heap.get? b=some o->H b=none->h'.get? b=some o)(slot:∀b o,b≠X.env.locals->b∈X.fs->b∉ch->s.heap.get? b=some o->H b=none->∃sl,h'.get? b=some { o with slots:=sl })(free:∀b o,b∉ch->s.heap.get? b=some o->H b=none->H' b=none)(there:∀b o,b∉ch->s.heap.get? b=some o->∃o',h'.get? b=some o')(tups:∀b xs,H b=some (.tup xs)->H' b=some (.tup xs))(frzs:∀b o u,H b=some (.frz o u)->H' b=some (.frz o u))(tbls:∀b ps,H b=some (.tbl ps)->∃more,H' b=some (.tbl (ps++more)))(ns:∀m,s.heap.Ns X.env.locals m->h'.Ns X.env.locals m)(hok:HOk X.prog X.w H' h')(hg:AllBare g') :
  Inv X pins σ H' { s with heap:=h',gens:=g',drawn:=d',toks:=t' }:=by
 have neL:∀b o,X.s₀.heap.get? b=some o->b≠X.env.locals:=fun b o e=>ZB (ZA (Zo e) I.ok.above);have neC:∀b o,X.s₀.heap.get? b=some o->b∉X.ex->b∉ch:=fun b o e hx hb=>by
  rcases(hch b hb).1 with z|z
  ·exact hx z
  ·exact absurd (ZA (Zo e) z) (YJ _)
 have cellK:∀x c,X.env.cells.lookup x=some c->∀v,s.heap.IsCell c v->h'.IsCell c v:=fun x c e v ⟨o,ho,hd⟩=>by
  have nch:c∉ch:=fun z=>(hch c z).2.2.1 x c e rfl;by_cases hc:c∈X.fs
  ·obtain⟨sl,q⟩:=slot c o (I.cne x c e) hc nch ho (I.freeC x c e);exact⟨_,q,hd⟩
  ·exact⟨o,keep c o (I.cne x c e) hc nch ho (I.freeC x c e),hd⟩
 refine⟨I.ok,I.os,hg,⟨fun b o e n hb hx=>?_,fun b o e n hb hx=>?_,fun b o e n hx=>?_,fun b o e hx=>?_,fun b xs e=>tups b xs (I.base.tups b xs e),fun b o xs e=>frzs b o xs (I.base.frzs b o xs e),fun b ps e=>?_⟩,?_,fun x c e=>?_,?_,fun x c e=>?_,fun p hp=>?_,hok,I.len⟩
 ·exact keep b o (neL b o e) hb (neC b o e hx) (I.base.keep b o e n hb hx) (I.base.free b o e n hx)
 ·obtain⟨sl,e1⟩:=I.base.slot b o e n hb hx;obtain⟨sl',e2⟩:=slot b _ (neL b o e) hb (neC b o e hx) e1 (I.base.free b o e n hx);exact⟨sl',e2⟩
 ·obtain⟨o',e1⟩:=I.base.there b o e hx;exact free b o' (neC b o e hx) e1 (I.base.free b o e n hx)
 ·obtain⟨o',e1⟩:=I.base.there b o e hx;exact there b o' (neC b o e hx) e1
 ·obtain⟨m1,e1⟩:=I.base.tbls b ps e;obtain⟨m2,e2⟩:=tbls b _ e1;exact⟨m1++m2,by rw[e2,Array.append_assoc]⟩
 ·obtain⟨m,hn,hl⟩:=I.loc;refine⟨m,ns m hn,fun i x v e1 e2 e3=>?_⟩;obtain⟨u,r,l⟩:=hl i x v e1 e2 e3;refine⟨u,r,?_⟩;rcases l with l|⟨k,c,e,z⟩
  ·exact .inl l
  ·exact .inr ⟨k,c,e,cellK x c e _ z⟩
 ·obtain⟨v,z⟩:=I.cell x c e;exact⟨v,cellK x c e v z⟩
 ·obtain⟨m,⟨o,_,_,ho,_⟩,_⟩:=I.loc;exact free _ o (fun z=>(hch _ z).2.1 rfl) ho I.free
 ·obtain⟨v,o,ho,hd⟩:=I.cell x c e;exact free c o (fun z=>(hch c z).2.2.1 x c e rfl) ho (I.freeC x c e)
 ·obtain⟨e,n,ne,nf,d⟩:=I.pin p hp;have nch:p.1∉ch:=fun z=>(hch p.1 z).2.2.2 p hp rfl;exact⟨keep p.1 p.2 ne nf nch e n,free p.1 p.2 nch e n,ne,nf,d⟩
theorem Inv.un{t':Nat}(I:Inv X pins σ H s)(u:Un X.fs [] H H' s.heap h')(hok:HOk X.prog X.w H' h'):Inv X pins σ H' { s with heap:=h',toks:=t' }:=by
 obtain⟨m,⟨o,es,ep,ho,r⟩,_⟩:=id I.loc;obtain⟨sl,hL⟩:=u.any ho I.free (by simp);exact I.step (g':=s.gens) (d':=s.drawn) (ch:=[]) (fun _ z=>nomatch z) (fun b o _ hb _ e n=>u.keep b o e n hb (by simp)) (fun b o _ hb _ e n=>u.slot b o e n hb (by simp)) (fun b o _ e n=>u.free b o e n (by simp)) (fun b o _ e=>u.there b o e (by simp)) u.tups u.frzs u.tbls (fun m' hm=>by
  obtain⟨o',es',ep',ho',r'⟩:=hm;rw[ho]at ho';cases ho';exact⟨_,es',ep',hL,r'⟩) hok I.bare
theorem Inv.call{g':Array GenState}{t':Nat}{d':Drawn}{ch:List Addr}(I:Inv X pins σ H s)(u:Un (frs X.stack) ch H H' s.heap h')(hok:HOk X.prog X.w H' h')(hg:AllBare g')(hch:∀b∈ch,(b∈X.ex\/X.s₀.heap.objs.size<=b)/\b≠X.env.locals/\(∀x c,X.env.cells.lookup x=some c->c≠b)/\∀p∈X.pn++pins,p.1≠b) :
  Inv X pins σ H' { s with heap:=h',gens:=g',drawn:=d',toks:=t' }:=by
 obtain⟨m,⟨o,es,ep,ho,r⟩,_⟩:=id I.loc;obtain⟨sl,hL⟩:=u.any ho I.free fun z=>(hch _ z).2.1 rfl;exact I.step (ch:=ch) hch (fun b o hL hb hc e n=>u.keep b o e n (fun z=>(Zs.mp (I.stkSub b z)).elim hL hb) hc) (fun b o _ _ hc e n=>u.any e n hc) (fun b o hc e n=>u.free b o e n hc) (fun b o hc e=>u.there b o e hc) u.tups u.frzs u.tbls (fun m' hm=>by
  obtain⟨o',es',ep',ho',r'⟩:=hm;rw[ho]at ho';cases ho';exact⟨_,es',ep',hL,r'⟩) hok hg
theorem Inv.turned{t':Nat}{it:Addr}(I:Inv X pins σ H s)(k:∀b o,b≠it->s.heap.get? b=some o->h'.get? b=some o)(hn:H it=none)(hL:it≠X.env.locals)(h1:it∈X.ex\/X.s₀.heap.objs.size<=it)(h2:∀x c,X.env.cells.lookup x=some c->c≠it)(h3:∀p∈X.pn++pins,p.1≠it):Inv X pins σ H { s with heap:=h',toks:=t' }:=by
 have nit:∀b u,H b=some u->b≠it:=fun b u e z=>by rw[z,hn]at e;cases e
 refine I.step (g':=s.gens) (d':=s.drawn) (ch:=[it]) (fun b hb=>?_) (fun b o _ _ hc e _=>k b o (fun z=>hc (by simp[z])) e) (fun b o _ _ hc e _=>⟨o.slots,k b o (fun z=>hc (by simp[z])) e⟩) (fun _ _ _ _ n=>n)
  (fun b o hc e=>⟨o,k b o (fun z=>hc (by simp[z])) e⟩) (fun _ _ e=>e) (fun _ _ _ e=>e) (fun b ps e=>⟨#[],by rw[e];simp⟩) (fun m hm=>?_) (fun b u e=>?_) I.bare
 ·have e:b=it:=by simpa using hb
  subst e;exact⟨h1,hL,h2,h3⟩
 ·obtain⟨o,es,ep,ho,r⟩:=hm;exact⟨o,es,ep,k _ o (Yj hL) ho,r⟩
 ·refine(I.hok b u e).stay (fun c v hc q=>k c v ?_ q) (fun _ q=>q) fun _ _ q=>q;rcases hc with z|z
  ·rw[z];exact nit b u e
  ·exact nit c _ z
theorem Inv.tok(I:Inv X pins σ H s)(t:Nat):Inv X pins σ H { s with toks:=t }:=I.un (h':=s.heap) (t':=t) Un.refl I.hok
theorem Inv.kept{t':Nat}(I:Inv X pins σ H s)(k:∀b u,s.heap.get? b=some u->h'.get? b=some u):Inv X pins σ H { s with heap:=h',toks:=t' }:=I.un (Un.kept k) (I.hok.kept k)
theorem Inv.laid{a:Addr}{o:HO}{t':Nat}(I:Inv X pins σ H s)(k:∀b u,s.heap.get? b=some u->h'.get? b=some u)(hp:s.heap.objs.size<=a)(new:ObjOk X.prog X.w (upd H a o) h' a o) :
  Inv X pins σ (upd H a o) { s with heap:=h',toks:=t' }:=I.un (Un.laid k hp (I.hok.fresh hp)) (I.hok.laid k hp new)
theorem Inv.write{x e:Addr}{o:HO}{t':Nat}(I:Inv X pins σ H s)(mu:Mut (H x))(he:e=x\/H e=some (.own x))(k:∀b u,b≠e->s.heap.get? b=some u->h'.get? b=some u)(heo:∃u,h'.get? e=some u)(new:ObjOk X.prog X.w (upd H x o) h' x o):Inv X pins σ (upd H x o) { s with heap:=h',toks:=t' }:=I.un (Un.write mu he k heo) (I.hok.write mu he k heo new)
theorem Inv.weak{σ':List (Option V)}(I:Inv X pins σ H s)(hl:σ'.length=σ.length)(w:∀(i:Nat) v,σ'[i]?=some (some v)->σ[i]?=some (some v)):Inv X pins σ' H s :=
 ⟨I.ok,I.os,I.bare,I.base,let⟨m,hn,hl'⟩:=I.loc;⟨m,hn,fun i x v e1 e2 e3=>hl' i x v e1 (w i v e2) e3⟩,I.cell,I.free,I.freeC,I.pin,I.hok,hl.trans I.len⟩
theorem Inv.pins_of{pins':List (Addr×Obj)}(I:Inv X pins σ H s)(h:∀p∈pins',s.heap.get? p.1=some p.2/\H p.1=none/\p.1≠X.env.locals/\p.1∉X.fs/\∀v,p.2.data≠.cell v):Inv X pins' σ H s :=
 ⟨I.ok,I.os,I.bare,I.base,I.loc,I.cell,I.free,I.freeC,fun p hp=>(Zu.mp hp).elim (fun z=>I.pin p (ZM _ z)) (h p),I.hok,I.len⟩
theorem qH{N:List Str}(hN:N.Nodup){i j:Nat}{x:Str}(a:N[i]?=some x)(b:N[j]?=some x):i=j:=by obtain⟨h1,e1⟩:=Zy.mp a;obtain⟨h2,e2⟩:=Zy.mp b;exact(List.getElem_inj hN).mp (e1.trans e2.symm)
theorem oM{M:Model}{A:Around}{E:Value->Shared->Prop}{i:Nat}{x:Str}{v:V}{u:Value}{Q:Unit->Shared->Prop}(I:Inv X pins σ H s)(hN:X.N.Nodup)(hi:X.N[i]?=some x)(hx:Loc X.env.scope x)(r:RelV v u)(h:∀s',Inv X pins (σ.set i (some v)) H s'->(∃a,Heap.SameBut a s.heap s'.heap/\(a=X.env.locals\/X.env.cells.lookup x=some a))->Q () s')(hf:X.fn x=true\/X.env.scope.names.lookup x=some .local:=by first|exact .inl rfl|exact .inr rfl|assumption):wpAny M A (storeName X.env x u) Q E s:=by
 obtain⟨m,hn,hl⟩:=id I.loc;have hcls:(X.env.scope.kind == .class ||(X.env.scope.kind == .module&&X.env.locals != X.env.globals))=false:=by rw[I.ok.kind];rfl
 have hiσ:i<σ.length:=by rw[I.len];exact(Zy.mp hi).1
 have cne:=I.cne;have tracked:∀{a:Addr} {h':Heap},(∃o,s.heap.get? a=some o/\H a=none)->Heap.SameBut a s.heap h'->HOk X.prog X.w H h':=fun{a h'} ha hs b ob e=>by
  obtain⟨_,_,hfree⟩:=ha;refine(I.hok b ob e).stay (fun c w' hc q=>(hs.2 c ?_).trans q) (fun _ q=>q) fun _ _ q=>q;rintro rfl;rcases hc with rfl|hc
  ·rw[hfree]at e;cases e
  ·rw[hfree]at hc;cases hc
 rcases hx with hk|hk
 ·refine wpAny_storeName_local hk hn (fun h' hn' hs=>?_) hcls;obtain⟨oL,_,_,hoL,_⟩:=id hn;refine h _ ⟨I.ok,I.os,I.bare,⟨fun b o e n hb hx=>?_,fun b o e n hb hx=>?_,I.base.free,fun b o e hx=>?_,I.base.tups,I.base.frzs,I.base.tbls⟩,⟨_,hn',fun j y v' e1 e2 e3=>?_⟩,fun y c e=>?_,I.free,I.freeC,fun p hp=>?_,tracked ⟨oL,hoL,I.free⟩ hs,by simpa using I.len⟩ ⟨_,hs,.inl rfl⟩
  ·exact(hs.2 b (ZB (ZA (Zo e) I.ok.above))).trans (I.base.keep b o e n hb hx)
  ·obtain⟨sl,e1⟩:=I.base.slot b o e n hb hx;exact⟨sl,(hs.2 b (ZB (ZA (Zo e) I.ok.above))).trans e1⟩
  ·obtain⟨o',e1⟩:=I.base.there b o e hx;exact⟨o',(hs.2 b (ZB (ZA (Zo e) I.ok.above))).trans e1⟩
  ·by_cases hj:j=i
   ·subst hj;rw[hi]at e1;cases e1;rw[List.getElem?_set_self hiσ]at e2;cases e2;exact⟨u,r,.inl ⟨hk,by simp⟩⟩
   ·rw[List.getElem?_set_ne (Yj hj)]at e2;obtain⟨u',r',q⟩:=hl j y v' e1 e2 e3;refine⟨u',r',?_⟩;rcases q with⟨k,e⟩|⟨k,c,e,z⟩
    ·refine .inl ⟨k,?_⟩;have:y≠x:=fun e=>hj (qH hN e1 (e▸hi));simp[this,e]
    ·exact .inr ⟨k,c,e,z.sameBut hs (cne y c e)⟩
  ·obtain⟨w',z⟩:=I.cell y c e;exact⟨w',z.sameBut hs (cne y c e)⟩
  ·obtain⟨e,n,ne,nf,d⟩:=I.pin p hp;exact⟨(hs.2 p.1 ne).trans e,n,ne,nf,d⟩
 ·have hfn:X.fn x=true:=by
   rcases hf with z|z
   ·exact z
   ·rw[z]at hk;cases hk
  obtain⟨c,hc⟩:=I.ok.has x (.inl hk);obtain⟨w',z⟩:=I.cell x c hc;refine wpAny_storeName_cell I.ok.kind hk hc z (fun h' hc' hs=>?_);obtain⟨oc,hoc,hocd⟩:=id z;refine h { s with heap:=h' } ⟨I.ok,I.os,I.bare,⟨fun b o e n hb hx=>?_,fun b o e n hb hx=>?_,I.base.free,fun b o e hx=>?_,I.base.tups,I.base.frzs,I.base.tbls⟩,⟨m,hn.sameBut hs (Yj (cne x c hc)),fun j y v' e1 e2 e3=>?_⟩,fun y c' e=>?_,I.free,I.freeC,fun p hp=>?_,tracked ⟨oc,hoc,I.freeC x c hc⟩ hs,by simpa using I.len⟩ ⟨c,hs,.inr hc⟩
  ·exact(hs.2 b (ZB (ZA (Zo e) (I.ok.cab x c hfn hc)))).trans (I.base.keep b o e n hb hx)
  ·obtain⟨sl,e1⟩:=I.base.slot b o e n hb hx;exact⟨sl,(hs.2 b (ZB (ZA (Zo e) (I.ok.cab x c hfn hc)))).trans e1⟩
  ·obtain⟨o',e1⟩:=I.base.there b o e hx;exact⟨o',(hs.2 b (ZB (ZA (Zo e) (I.ok.cab x c hfn hc)))).trans e1⟩
  ·by_cases hj:j=i
   ·subst hj;rw[hi]at e1;cases e1;rw[List.getElem?_set_self hiσ]at e2;cases e2;exact⟨u,r,.inr ⟨.inl hk,c,hc,hc'⟩⟩
   ·rw[List.getElem?_set_ne (Yj hj)]at e2;obtain⟨u',r',q⟩:=hl j y v' e1 e2 e3;refine⟨u',r',?_⟩;rcases q with q|⟨k,c',e,z'⟩
    ·exact .inl q
    ·refine .inr ⟨k,c',e,z'.sameBut hs ?_⟩;rintro rfl;exact hj (qH hN e1 (I.ok.inj _ _ _ e hc▸hi))
  ·by_cases hcc:c'=c
   ·subst hcc;exact⟨_,hc'⟩
   ·obtain⟨w2,z2⟩:=I.cell y c' e;exact⟨w2,z2.sameBut hs hcc⟩
  ·obtain⟨e,n,ne,nf,d⟩:=I.pin p hp;refine⟨(hs.2 p.1 ?_).trans e,n,ne,nf,d⟩;intro q;rw[q,hoc]at e;have q':oc=p.2:=ZO e;exact d w' (by rw[<-q'];exact hocd)
theorem kJ{M:Model}{A:Around}{E:Value->Shared->Prop}{i:Nat}{x:Str}{v:V}{u:Value}{Q:Unit->Shared->Prop}(I:Inv X pins σ H s)(hN:X.N.Nodup)(hi:X.N[i]?=some x)(hx:Loc X.env.scope x)(r:RelV v u)(h:∀s',Inv X pins (σ.set i (some v)) H s'->Q () s')(hf:X.fn x=true\/X.env.scope.names.lookup x=some .local:=by first|exact .inl rfl|exact .inr rfl|assumption):wpAny M A (storeName X.env x u) Q E s :=
 oM I hN hi hx r (fun s' I' _=>h s' I') hf
theorem Inv.call'{s':Shared}{ch:List Addr}(I:Inv X pins σ H s)(ho:s'.os=s.os)(u:Un (frs X.stack) ch H H' s.heap s'.heap)(hok:HOk X.prog X.w H' s'.heap)(hg:AllBare s'.gens)(hch:∀b∈ch,(b∈X.ex\/X.s₀.heap.objs.size<=b)/\b≠X.env.locals/\(∀x c,X.env.cells.lookup x=some c->c≠b)/\∀p∈X.pn++pins,p.1≠b):Inv X pins σ H' s':=by obtain⟨h',g',d',t',o'⟩:=s';have e:o'=s.os:=ho;subst e;exact I.call (g':=g') (t':=t') (d':=d') u hok hg hch
end
abbrev XK:=Value->Option Addr->Hp->Prop
abbrev St:=List (Option V)
abbrev VK:=V->Hp->Prop
abbrev TE:=St->Hp->VK->Prop
abbrev TT:=St->Hp->(Bool->Hp->Prop)->Prop
abbrev TA:=St->Hp->(List V->Hp->Prop)->Prop
structure Ends where
 nx:St->Hp->Prop
 rt:VK
 bk:St->Hp->Prop:=fun _ _=>False
 ct:St->Hp->Prop:=fun _ _=>False
abbrev TS:=Ends->St->Hp->Prop
def EP(X:Cx)(pins:List (Addr×Obj))(σ:St)(Q:VK)(u:Value)(s':Shared):Prop:=∃v H',Inv X pins σ H' s'/\RelV v u/\Q v H'
def TP(X:Cx)(pins:List (Addr×Obj))(σ:St)(Q:Bool->Hp->Prop)(b:Bool)(s':Shared):Prop:=∃H',Inv X pins σ H' s'/\Q b H'
def AP(X:Cx)(pins:List (Addr×Obj))(σ:St)(Q:List V->Hp->Prop)(us:List Value)(s':Shared):Prop:=∃vs H',Inv X pins σ H' s'/\Vals vs us/\Q vs H'
def SP(X:Cx)(pins:List (Addr×Obj))(D:Ends)(f:Flow)(s':Shared):Prop :=
 match f with
 |.next=>∃σ' H',Inv X pins σ' H' s'/\D.nx σ' H'
 |.brk=>∃σ' H',Inv X pins σ' H' s'/\D.bk σ' H'
 |.cont=>∃σ' H',Inv X pins σ' H' s'/\D.ct σ' H'
 |.ret u=>∃v σ' H',Inv X pins σ' H' s'/\RelV v u/\D.rt v H'
def PE(X:Cx)(e:Expr)(t:TE):Prop :=
 ∀(pins:List (Addr×Obj)) (s:Shared) (σ:St) (H:Hp) (Q:VK),Inv X pins σ H s->t σ H Q->wpAny (model X.prog X.w) X.A (eval e X.env) (EP X pins σ Q) X.xe s
def PT(X:Cx)(e:Expr)(t:TT):Prop :=
 ∀(pins:List (Addr×Obj)) (s:Shared) (σ:St) (H:Hp) (Q:Bool->Hp->Prop),Inv X pins σ H s->t σ H Q->wpAny (model X.prog X.w) X.A (isTrue e X.env (eval e X.env)) (TP X pins σ Q) X.xe s
def PW(X:Cx)(e:Expr)(t:TT):Prop :=
 ∀(whole:Sem Value) (pins:List (Addr×Obj)) (s:Shared) (σ:St) (H:Hp) (Q:Bool->Hp->Prop),Inv X pins σ H s->t σ H Q->wpAny (model X.prog X.w) X.A (isTrue e X.env whole) (TP X pins σ Q) X.xe s
theorem PW.pt{X:Cx}{e:Expr}{t:TT}(h:PW X e t):PT X e t:=h _
def PA(X:Cx)(es:List Expr)(t:TA):Prop :=
 ∀(pos:Pos) (pins:List (Addr×Obj)) (s:Shared) (σ:St) (H:Hp) (Q:List V->Hp->Prop),Inv X pins σ H s->t σ H Q->wpAny (model X.prog X.w) X.A (spliced (backTo pos (starEach es X.env))) (AP X pins σ Q) X.xe s
def PS(X:Cx)(st:Stmt)(t:TS):Prop :=
 ∀(pins:List (Addr×Obj)) (s:Shared) (σ:St) (H:Hp) (D:Ends),Inv X pins σ H s->t D σ H->wpAny (model X.prog X.w) X.A (exec st X.env) (SP X pins D) X.xe s
def PSs(X:Cx)(st:List Stmt)(t:TS):Prop :=
 ∀(pins:List (Addr×Obj)) (s:Shared) (σ:St) (H:Hp) (D:Ends),Inv X pins σ H s->t D σ H->wpAny (model X.prog X.w) X.A (execs st X.env) (SP X pins D) X.xe s
theorem thn{α:Type}{t:Sem α}{Q Q':α->Shared->Prop}{M:Model}{A:Around}{E:Value->Shared->Prop}{s:Shared}(h:wpAny M A t Q E s)(hQ:∀a s,Q a s->Q' a s):wpAny M A t Q' E s:=Z4 h hQ fun _ _ x=>x
open PySem PySem.Spec PyProof.Rows
section
variable{X:Cx}
def kK(i:Nat):TE:=fun σ H Q=>∃v,σ[i]?=some (some v)/\Q v H
def tC(v:V):TE:=fun _ H Q=>Q v H
theorem DJ{i:Nat}{x:Str}{pos:Pos}(hN:X.N[i]?=some x)(hv:Vis X.env.scope x)(hd:(x==("__debug__":Str))=false:=by decide)(hcd:(x==("__classdict__":Str))=false:=by decide):PE X (.Name x pos) (kK i):=by
 intro pins s σ H Q I h;obtain⟨v,e,h⟩:=h;obtain⟨m,hn,hl⟩:=I.loc;obtain⟨u,r,l⟩:=hl i x v hN e hv;have fin:EP X pins σ Q u s:=⟨v,H,I,r,h⟩
 rcases l with⟨hk,hm⟩|⟨hk,c,hc,hcell⟩
 ·exact wpAny_Name (wpAny_loadName_local I.ok.kind hk hn hm fin) hd
 ·rcases hk with hk|hk
  ·exact wpAny_Name (wpAny_loadName_cell I.ok.kind hk hc hcell fin) hd
  ·exact wpAny_Name (wpAny_loadName_free I.ok.kind hk hc hcell fin hcd) hd
theorem DB{i j pos}:PE X (.Constant (.int i) j pos) (tC (.int i)):=fun _ _ _ H _ I h=>wpAny_Constant_int ⟨.int i,H,I.tok _,⟨_,rfl⟩,h⟩
theorem Fg{b j pos}:PE X (.Constant (.bool b) j pos) (tC (.bl b)):=fun _ _ _ H _ I h=>Constant_bool ⟨.bl b,H,I,rfl,h⟩
theorem DD{j pos}:PE X (.Constant .none j pos) (tC .non):=fun _ _ _ H _ I h=>Constant_none ⟨.non,H,I,rfl,h⟩
theorem DH{x j pos}:PE X (.Constant (.str x) j pos) (tC (.str x)):=fun _ _ _ H _ I h=>Calls.Constant_str ⟨.str x,H,I.tok _,⟨_,rfl⟩,h⟩
def Gl(X:Cx)(x:Str):Prop:=X.env.kindOf x=some .globalImplicit
theorem jD{E:Value->Shared->Prop}{pins:List (Addr×Obj)}{s:Shared}{σ:St}{H:Hp}{x:Str}{u:Value}{pos:Pos}{Q:Value->Shared->Prop}(I:Inv X pins σ H s)(hg:Gl X x)(hm:X.mg x=some u)(h:Q u s)(hd:(x==("__debug__":Str))=false:=by decide):wpAny (model X.prog X.w) X.A (eval (.Name x pos) X.env) Q E s :=
 Calls.Name_function_global I.ok.kind hg (Calls.loadGlobal_global (by rw[I.ok.glob];exact I.mod.glob.keeps I.bk) hm h) hd
theorem dS{E:Value->Shared->Prop}{pins:List (Addr×Obj)}{s:Shared}{σ:St}{H:Hp}{x:Str}{u:Value}{pos:Pos}{Q:Value->Shared->Prop}(I:Inv X pins σ H s)(hg:Gl X x)(hm:X.mg x=none)(hv:bootBuiltins x=some u)(h:Q u s)(hn:x≠"__name__":=by decide)(hd:(x==("__debug__":Str))=false:=by decide):wpAny (model X.prog X.w) X.A (eval (.Name x pos) X.env) Q E s:=by obtain⟨mb,h1,h2⟩:=I.mod.blt;exact Calls.Name_function_global I.ok.kind hg (Calls.loadGlobal_builtin (by rw[I.ok.glob];exact I.mod.glob.keeps I.bk) hm (by rw[I.ok.blt];exact h1.keeps I.bk) ((h2 x hn).trans hv) h) hd
theorem nA{x:Str}{v:V}{u:Value}{pos:Pos}(hg:Gl X x)(hm:X.mg x=some u)(r:RelV v u)(hd:(x==("__debug__":Str))=false:=by decide):PE X (.Name x pos) (tC v) :=
 fun _ _ _ H _ I h=>jD I hg hm ⟨v,H,I,r,h⟩ hd
theorem BV{x:Str}{v:V}{u:Value}{pos:Pos}(hg:Gl X x)(hm:X.mg x=none)(hv:bootBuiltins x=some u)(r:RelV v u)(hn:x≠"__name__":=by decide)(hd:(x==("__debug__":Str))=false:=by decide):PE X (.Name x pos) (tC v) :=
 fun _ _ _ H _ I h=>dS I hg hm hv ⟨v,H,I,r,h⟩ hn hd
variable{a b:Expr}{ta tb:TE}{pos:Pos}
def PC(X:Cx)(op:CmpOp)(a b:Expr)(t:TE):Prop :=
 ∀(pins:List (Addr×Obj)) (s:Shared) (σ:St) (H:Hp) (Q:VK),Inv X pins σ H s->t σ H Q ->
  wpAny (model X.prog X.w) X.A (eval a X.env) (fun v s₁=>wpAny (model X.prog X.w) X.A (eval b X.env) (fun u s₂=>wpAny (model X.prog X.w) X.A (compareOp op v u) (EP X pins σ Q) X.xe s₂) X.xe s₁) X.xe s
def tB(t:TE):TT:=fun σ H Q=>t σ H fun x H1=>∃c,x=.bl c/\Q c H1
theorem Dz{op:CmpOp}{t:TE}(h:PC X op a b t)(h1:behindInMarks op b=false:=by first|exact nobehind _ (by decide) (by decide)|rfl):PE X (.Compare a [op] [b] pos) t:=fun pins s σ H Q I hw=>wpAny_Compare1 (h pins s σ H Q I hw) h1
theorem xS{op:CmpOp}{t:TE}(h:PC X op a b t)(h1:behindInMarks op b=false:=by first|exact nobehind _ (by decide) (by decide)|rfl):PT X (.Compare a [op] [b] pos) (tB t):=by intro pins s σ H Q I hw;refine wpAny_isTrue_Compare1 (thn (h pins s σ H _ I hw) fun v s1 h1=>thn h1 fun u s2 h2=>thn h2 fun c s3 hz9=>?_) h1;obtain⟨x,H1,I1,r1,q1⟩:=hz9;obtain⟨d,rfl,q⟩:=q1;cases r1;exact Yc ⟨H1,I1,q⟩
theorem D6{e:Expr}{t:TE}(h:PE X e t)(he:∀whole,isTrue e X.env whole=(do let v ←whole;standAt e.pos;holding [v] (truthy v)):=by intro _;rfl):PT X e (tB t):=by intro pins s σ H Q I hw;refine isTrue_plain (thn (h pins s σ H _ I hw) fun v s1 hz9=>?_) (he _);obtain⟨x,H1,I1,r1,q1⟩:=hz9;obtain⟨d,rfl,q⟩:=q1;cases r1;exact Yc ⟨H1,I1,q⟩
variable{tA tB':TT}{rest:List Expr}
def Eu(t u:TT):TT:=fun σ H Q=>t σ H fun c H1=>if c=true then u σ H1 Q else Q false H1
def tOr(t u:TT):TT:=fun σ H Q=>t σ H fun c H1=>if c=true then Q true H1 else u σ H1 Q
def Ez(t:TT):TT:=fun σ H Q=>t σ H fun c H1=>Q (!c) H1
theorem Ci(ha:PT X a tA):PW X (.BoolOp .And [a] pos) tA:=by
 intro wh pins s σ H Q I h;refine isTrue_and (thn (ha pins s σ H Q I h) fun c s1 e=>?_);cases c with
 |true=>exact isTrue_and_nil e
 |false=>exact e
theorem D9(ha:PT X a tA):PW X (.BoolOp .Or [a] pos) tA:=by
 intro wh pins s σ H Q I h;refine isTrue_or (thn (ha pins s σ H Q I h) fun c s1 e=>?_);cases c with
 |false=>exact isTrue_or_nil e
 |true=>exact e
theorem D8(ha:PT X a tA)(hb:PW X (.BoolOp .And (b::rest) pos) tB'):PW X (.BoolOp .And (a::b::rest) pos) (Eu tA tB'):=by
 intro wh pins s σ H Q I h;refine isTrue_and (thn (ha pins s σ H _ I h) fun c s1 ⟨H1,I1,q1⟩=>?_);cases c with
 |true=>exact hb wh pins s1 σ H1 Q I1 q1
 |false=>exact⟨H1,I1,q1⟩
theorem Fs(ha:PT X a tA)(hb:PW X (.BoolOp .Or (b::rest) pos) tB'):PW X (.BoolOp .Or (a::b::rest) pos) (tOr tA tB'):=by
 intro wh pins s σ H Q I h;refine isTrue_or (thn (ha pins s σ H _ I h) fun c s1 ⟨H1,I1,q1⟩=>?_);cases c with
 |true=>exact⟨H1,I1,q1⟩
 |false=>exact hb wh pins s1 σ H1 Q I1 q1
theorem D4(ha:PT X a tA):PT X (.UnaryOp .Not a pos) (Ez tA):=by intro pins s σ H Q I h;exact isTrue_not (ha pins s σ H (fun c H1=>Q (!c) H1) I h)
def Bd(ta tb:TE):TE:=fun σ H Q=>ta σ H fun x H1=>∃c,x=.bl c/\if c=true then tb σ H1 Q else Q (.bl false) H1
def EA(ta tb:TE):TE:=fun σ H Q=>ta σ H fun x H1=>∃c,x=.bl c/\if c=true then Q (.bl true) H1 else tb σ H1 Q
def Bg(ta:TE):TE:=fun σ H Q=>ta σ H fun x H1=>∃c,x=.bl c/\Q (.bl (!c)) H1
theorem DG{op}{t:TE}(h:PE X a t):PE X (.BoolOp op [a] pos) t:=fun pins s σ H Q I hw=>BoolOp_one (h pins s σ H Q I hw)
theorem Dy(ha:PE X a ta)(hb:PE X (.BoolOp .And (b::rest) pos) tb):PE X (.BoolOp .And (a::b::rest) pos) (Bd ta tb):=by
 intro pins s σ H Q I h;refine BoolOp_and (thn (ha pins s σ H _ I h) fun v s1 hz9=>?_);obtain⟨x,H1,I1,r1,q1⟩:=hz9;obtain⟨c,rfl,q1⟩:=q1;cases r1;refine Yc ?_;cases c with
 |true=>exact hb pins s1 σ H1 Q I1 q1
 |false=>exact⟨.bl false,H1,I1,rfl,q1⟩
theorem Fm(ha:PE X a ta)(hb:PE X (.BoolOp .Or (b::rest) pos) tb):PE X (.BoolOp .Or (a::b::rest) pos) (EA ta tb):=by
 intro pins s σ H Q I h;refine BoolOp_or (thn (ha pins s σ H _ I h) fun v s1 hz9=>?_);obtain⟨x,H1,I1,r1,q1⟩:=hz9;obtain⟨c,rfl,q1⟩:=q1;cases r1;refine Yc ?_;cases c with
 |false=>exact hb pins s1 σ H1 Q I1 q1
 |true=>exact⟨.bl true,H1,I1,rfl,q1⟩
theorem DF(ha:PE X a ta):PE X (.UnaryOp .Not a pos) (Bg ta):=by intro pins s σ H Q I h;refine UnaryOp_ (thn (ha pins s σ H _ I h) fun v s1 hz9=>?_);obtain⟨x,H1,I1,r1,q1⟩:=hz9;obtain⟨c,rfl,q1⟩:=q1;cases r1;exact not_of (Yc ⟨.bl (!c),H1,I1,rfl,q1⟩)
def tIf(t:TT)(ta tb:TE):TE:=fun σ H Q=>t σ H fun c H1=>if c=true then ta σ H1 Q else tb σ H1 Q
theorem zT{c:Expr}(hc:PT X c tA)(ha:PE X a ta)(hb:PE X b tb):PE X (.IfExp c a b pos) (tIf tA ta tb):=by
 intro pins s σ H Q I h;refine wpAny_IfExp (thn (hc pins s σ H _ I h) fun d s1 ⟨H1,I1,q1⟩=>?_);cases d with
 |true=>exact ha pins s1 σ H1 Q I1 q1
 |false=>exact hb pins s1 σ H1 Q I1 q1
end
open PySem PySem.Spec PyProof.Rows
def SqL(K:PySem.W.Frag)(H:Hp)(a:Addr)(xs:List V):Prop :=
 Rd H a (.lst xs) \/
  ∃(o:Obj) (its:Array Value) (n:Nat),K.lookup a=some o/\o.cls=.type "list"/\o.dict=none/\o.data=.seq its n/\its.size<=sizeLine/\Vals xs its.toList
def SqT(K:PySem.W.Frag)(H:Hp)(a:Addr)(xs:List V):Prop :=
 Rd H a (.tup xs) \/
  ∃(o:Obj) (its:Array Value) (n:Nat),K.lookup a=some o/\o.cls=.type "tuple"/\o.data=.seq its n/\its.size<=sizeLine/\Vals xs its.toList
def FL:Value->Option V
 |.none=>some .non
 |.bool b=>some (.bl b)
 |.int i _=>some (.int i)
 |.str x _=>some (.str x)
 |.bytes b _=>some (.byt b)
 |.float b _=>some (.flt b)
 |.ref a=>some (.ref a)
 |.type n=>some (.ty n)
 |_=>none
theorem RelV.abs{x:V}{u:Value}(r:RelV x u):FL u=some x:=by
 cases x with
 |non=>cases r;rfl
 |bl _=>cases r;rfl
 |int _=>obtain⟨t,rfl⟩:=r;rfl
 |str _=>obtain⟨t,rfl⟩:=r;rfl
 |byt _=>obtain⟨t,rfl⟩:=r;rfl
 |flt _=>obtain⟨t,rfl⟩:=r;rfl
 |ref _=>cases r;rfl
 |ty _=>cases r;rfl
theorem RelV.inj{x y:V}{u:Value}(r:RelV x u)(q:RelV y u):x=y:=ZO (r.abs.symm.trans q.abs)
theorem Vals.inj:∀{xs ys:List V} {us:List Value},Vals xs us->Vals ys us->xs=ys
 |_,_,_,.nil,.nil=>rfl
 |_,_,_,.cons r t,.cons r' t'=>by rw[r.inj r',Vals.inj t t']
section
variable{X:Cx}{pins:List (Addr×Obj)}{σ:St}{H:Hp}{s:Shared}{a:Addr}{xs ys:List V}
theorem SqL.of{K:PySem.W.Frag}(h:H a=some (.lst xs)):SqL K H a xs:=.inl (.inl h)
theorem SqT.of{K:PySem.W.Frag}(h:H a=some (.tup xs)):SqT K H a xs:=.inl (.inl h)
theorem Inv.list(I:Inv X pins σ H s)(h:SqL X.K H a xs):∃its:List Value,Vals xs its/\PlainL s.heap a its.toArray/\xs.length<=sizeLine:=by
 rcases h with h|⟨o,its,n,hk,hc,hd,hs,hz,r⟩
 ·obtain⟨z,its,n,r,e⟩:=h.ok I.hok;exact⟨its,r,⟨_,n,e,rfl,rfl,rfl⟩,z⟩
 ·refine⟨its.toList,r,⟨o,n,I.kIn a o hk,hc,hd,by simpa using hs⟩,?_⟩;have e:=r.length;simp only[Zg]at e;omega
theorem Inv.tuple(I:Inv X pins σ H s)(h:SqT X.K H a xs):∃its:List Value,Vals xs its/\IsTup s.heap a its.toArray/\xs.length<=sizeLine:=by
 rcases h with h|⟨o,its,n,hk,hc,hs,hz,r⟩
 ·obtain⟨z,its,r,p⟩:=h.ok I.hok;exact⟨its,r,p,z⟩
 ·refine⟨its.toList,r,⟨o,I.kIn a o hk,hc,n,by simpa using hs⟩,?_⟩;have e:=r.length;simp only[Zg]at e;omega
theorem Inv.list_inj(I:Inv X pins σ H s)(h:SqL X.K H a xs)(h':SqL X.K H a ys):xs=ys:=by
 obtain⟨its,r,⟨o,n,e,_,_,d⟩,_⟩:=I.list h;obtain⟨its',r',⟨o',n',e',_,_,d'⟩,_⟩:=I.list h';rw[e]at e';cases e';rw[d]at d';injection d' with d1 _;have:its=its':=by simpa using congrArg Array.toList d1
 subst this;exact r.inj r'
theorem Inv.tuple_inj(I:Inv X pins σ H s)(h:SqT X.K H a xs)(h':SqT X.K H a ys):xs=ys:=by
 obtain⟨its,r,⟨o,e,_,n,d⟩,_⟩:=I.tuple h;obtain⟨its',r',⟨o',e',_,n',d'⟩,_⟩:=I.tuple h';rw[e]at e';cases e';rw[d]at d';injection d' with d1 _;have:its=its':=by simpa using congrArg Array.toList d1
 subst this;exact r.inj r'
end
abbrev Cx.wish(X:Cx)(E:Value->Shared->Prop):Cx:={ X with xe:=E }
abbrev Cx.nox(X:Cx):Cx:=X.wish fun _ _=>False
theorem Cx.Ok.wish{X:Cx}(ok:X.Ok)(E:Value->Shared->Prop):(X.wish E).Ok :=
 ⟨ok.mod,ok.kind,ok.glob,ok.blt,ok.above,ok.inj,ok.has,ok.cab,ok.hd,ok.frames,ok.stk,ok.exf,ok.bs,ok.bsz,ok.noex,ok.exfs,ok.funs,ok.frf⟩
theorem Cx.Ok.unwish{X:Cx}{E:Value->Shared->Prop}(ok:(X.wish E).Ok):X.Ok :=
 ⟨ok.mod,ok.kind,ok.glob,ok.blt,ok.above,ok.inj,ok.has,ok.cab,ok.hd,ok.frames,ok.stk,ok.exf,ok.bs,ok.bsz,ok.noex,ok.exfs,ok.funs,ok.frf⟩
section
variable{X:Cx}{pins:List (Addr×Obj)}{σ:St}{H:Hp}{s:Shared}{E:Value->Shared->Prop}
theorem Inv.wish(I:Inv X pins σ H s)(E:Value->Shared->Prop):Inv (X.wish E) pins σ H s:=⟨I.ok.wish E,I.os,I.bare,I.base,I.loc,I.cell,I.free,I.freeC,I.pin,I.hok,I.len⟩
theorem Inv.unwish(I:Inv (X.wish E) pins σ H s):Inv X pins σ H s:=⟨I.ok.unwish,I.os,I.bare,I.base,I.loc,I.cell,I.free,I.freeC,I.pin,I.hok,I.len⟩
theorem SP.unwish{D:Ends}{f:Flow}{s':Shared}(h:SP (X.wish E) pins D f s'):SP X pins D f s':=by
 cases f with
 |next=>obtain⟨σ',H',I,q⟩:=h;exact⟨σ',H',I.unwish,q⟩
 |brk=>obtain⟨σ',H',I,q⟩:=h;exact⟨σ',H',I.unwish,q⟩
 |cont=>obtain⟨σ',H',I,q⟩:=h;exact⟨σ',H',I.unwish,q⟩
 |ret u=>obtain⟨v,σ',H',I,r,q⟩:=h;exact⟨v,σ',H',I.unwish,r,q⟩
theorem PSs.nox{st:List Stmt}{t:TS}(h:PSs X.nox st t):PSs X st t:=fun pins s σ H D I hw =>
 Z4 (h pins s σ H D (I.wish _) hw) (fun _ _ q=>q.unwish) fun _ _ z=>False.elim z
end
section
variable{X:Cx}{st:Stmt}{rest:List Stmt}{t u:TS}{e:Expr}{te:TE}{pos:Pos}
def vY:TS:=fun D σ H=>D.nx σ H
def vZ(t u:TS):TS:=fun D σ H=>t { D with nx:=u D } σ H
theorem Ce:PSs X [] vY:=fun _ _ σ H _ I h=>wpAny_execs_nil ⟨σ,H,I,h⟩
theorem Ab(h1:PS X st t)(h2:PSs X rest u):PSs X (st::rest) (vZ t u):=by
 intro pins s σ H D I h;refine wpAny_execs_cons (thn (h1 pins s σ H { D with nx:=u D } I h) fun f s1 q=>?_);cases f with
 |next =>obtain⟨σ',H',I',q⟩:=q;exact h2 pins s1 σ' H' D I' q
 |ret v=>exact q
 |brk=>exact q
 |cont=>exact q
theorem Cf(h1:PS X st t):PSs X [st] t:=by
 intro pins s σ H D I h;refine wpAny_execs_cons (thn (h1 pins s σ H D I h) fun f s1 q=>?_);cases f with
 |next=>exact wpAny_execs_nil q
 |ret v=>exact q
 |brk=>exact q
 |cont=>exact q
theorem Inv.quiet{pins:List (Addr×Obj)}{σ:St}{H:Hp}{s:Shared}(I:Inv X pins σ H s):interactive X.env=false:=by simp[interactive,I.ok.kind]
def vW(te:TE):TS:=fun D σ H=>te σ H fun _ H1=>D.nx σ H1
theorem Cc(he:PE X e te)(hs:swapsWith e none pos.line X.env=pure false:=by rfl):PS X (.Expr e pos) (vW te):=by intro pins s σ H D I h;exact wpAny_Expr_any (thn (he pins s σ H _ I h) fun v s1 ⟨x,H1,I1,r1,q1⟩=>⟨σ,H1,I1,q1⟩) I.quiet hs
def EB(te:TE):TS:=fun D σ H=>te σ H D.rt
theorem DZ(he:PE X e te):PS X (.Return (some e) pos) (EB te):=by intro pins s σ H D I h;exact wpAny_Return_some (thn (he pins s σ H _ I h) fun v s1 ⟨x,H1,I1,r1,q1⟩=>⟨x,σ,H1,I1,r1,q1⟩)
def Aw(c:TT)(t u:TS):TS:=fun D σ H=>c σ H fun b H1=>if b=true then t D σ H1 else u D σ H1
theorem Fp{c:Expr}{a b:List Stmt}{tc:TT}(hc:PT X c tc)(ha:PSs X a t)(hb:PSs X b u):PS X (.If c a b pos) (Aw tc t u):=by
 intro pins s σ H D I h;refine wpAny_If (thn (hc pins s σ H _ I h) fun d s1 ⟨H1,I1,q1⟩=>?_);cases d with
 |true=>exact ha pins s1 σ H1 D I1 q1
 |false=>exact hb pins s1 σ H1 D I1 q1
end
abbrev TG:=V->St->Hp->(St->Hp->Prop)->Prop
abbrev TGs:=List V->St->Hp->(St->Hp->Prop)->Prop
def PG(X:Cx)(target:Expr)(t:TG):Prop :=
 ∀(pins:List (Addr×Obj)) (s:Shared) (σ:St) (H:Hp) (v:V) (u:Value) (Q:St->Hp->Prop),Inv X pins σ H s->RelV v u->t v σ H Q ->
  wpAny (model X.prog X.w) X.A (assign target X.env u) (fun _ s'=>∃σ' H',Inv X pins σ' H' s'/\Q σ' H') X.xe s
def PGs(X:Cx)(ts:List Expr)(t:TGs):Prop :=
 ∀(pins:List (Addr×Obj)) (s:Shared) (σ:St) (H:Hp) (vs:List V) (us:List Value) (Q:St->Hp->Prop),Inv X pins σ H s->Vals vs us->t vs σ H Q ->
  wpAny (model X.prog X.w) X.A (assignInOrder ((assignEach ts X.env).map (·.2)) us) (fun _ s'=>∃σ' H',Inv X pins σ' H' s'/\Q σ' H') X.xe s
abbrev pW:=V->V->V->Hp->(Hp->Prop)->Prop
def yL(X:Cx)(t:pW):Prop :=
 ∀(pins:List (Addr×Obj)) (s:Shared) (σ:St) (H:Hp) (o i v:V) (ov iv u:Value) (Q:Hp->Prop),Inv X pins σ H s->RelV o ov->RelV i iv->RelV v u->t o i v H Q ->
  wpAny (model X.prog X.w) X.A (setItem ov iv u) (fun _ s'=>∃H',Inv X pins σ H' s'/\Q H') X.xe s
abbrev TIp:=V->V->Hp->VK->Prop
def PIp(X:Cx)(op:Operator)(t:TIp):Prop :=
 ∀(pins:List (Addr×Obj)) (s:Shared) (σ:St) (H:Hp) (x y:V) (v u:Value) (Q:VK),Inv X pins σ H s->RelV x v->RelV y u->t x y H Q ->
  wpAny (model X.prog X.w) X.A (inplaceOp op v u) (EP X pins σ Q) X.xe s
section
variable{X:Cx}{pos:Pos}
def bG(i:Nat):TG:=fun v σ H Q=>Q (σ.set i (some v)) H
theorem B5{i:Nat}{x:Str}(hN:X.N.Nodup)(hi:X.N[i]?=some x)(hx:Loc X.env.scope x)(hf:X.fn x=true\/X.env.scope.names.lookup x=some .local:=by first|exact .inl rfl|exact .inr rfl|assumption):PG X (.Name x pos) (bG i):=by intro pins s σ H v u Q I r h;exact wpAny_assign_Name (kJ I hN hi hx r (fun s' I'=>⟨_,H,I',h⟩) hf)
def iV:TGs:=fun vs σ H Q=>vs=[]/\Q σ H
def dv(t:TG)(u:TGs):TGs:=fun vs σ H Q=>∃v r,vs=v::r/\t v σ H fun σ' H'=>u r σ' H' Q
theorem B6:PGs X [] iV:=by intro pins s σ H vs us Q I r h;obtain⟨e,h⟩:=h;subst e;cases r;exact assignInOrder_nil ⟨σ,H,I,h⟩
theorem zW{e:Expr}{es:List Expr}{t:TG}{u:TGs}(h1:PG X e t)(h2:PGs X es u)(hs:(assignEach (e::es) X.env).map (·.2)=assign e X.env::(assignEach es X.env).map (·.2):=by rfl):PGs X (e::es) (dv t u):=by
 intro pins s σ H vs us Q I r h;obtain⟨v,vr,e1,h⟩:=h;subst e1;cases r with
 |cons r rr =>rw[hs];refine assignInOrder_cons (thn (h1 pins s σ H _ _ _ I r h) fun _ s1 ⟨σ1,H1,I1,q1⟩=>?_);exact h2 pins s1 σ1 H1 _ _ Q I1 rr q1
def iW(K:PySem.W.Frag)(n:Nat)(t:TGs):TG:=fun v σ H Q=>∃a xs,v=.ref a/\SqT K H a xs/\xs.length=n/\t xs σ H Q
theorem DM{es:List Expr}{k:Nat}{t:TGs}{n:Nat}(hc:X.calm=true)(h:PGs X es t)(hn:(assignEach es X.env).length=n:=by rfl)(hst:(assignEach es X.env).findIdx? (·.1)=none:=by rfl):PG X (.Tuple es k pos) (iW X.K n t):=by intro pins s σ H v u Q I r hw;obtain⟨a,xs,e1,hq,hl,hw⟩:=hw;subst e1;cases r;obtain⟨its,rv,ht,hz⟩:=I.tuple hq;refine assign_Tuple_tuple (I.ok.hd hc) ht (by simp[hn,<-hl,rv.length]) hst fun h' hx=>?_;have I1:Inv X pins σ H { s with heap:=h' }:=I.kept (t':=s.toks) fun b o e=>hx b o (ZB (Zo e)) e;exact h pins _ σ H xs _ Q I1 (by simpa using rv) hw
def CU(to ti:TE)(t:pW):TG:=fun v σ H Q=>to σ H fun o H1=>ti σ H1 fun i H2=>t o i v H2 fun H3=>Q σ H3
theorem DK{o i:Expr}{to ti:TE}{t:pW}(ho:PE X o to)(hi:PE X i ti)(hs:yL X t)(ha:∀ v,assign (.Subscript o i pos) X.env v=(do
   let ov ←holding [v] (eval o X.env)
   let iv ←holding [v,ov] (eval i X.env)
   standAt pos
   holding [v,ov,iv] (setItem ov iv v)
   release [v,ov,iv] []):=by intro _;rfl):PG X (.Subscript o i pos) (CU to ti t):=by
 intro pins s σ H v u Q I r h;rw[ha];refine z6 (Ym (thn (ho pins s σ H _ I h) fun ov s1 hz9=>?_));obtain⟨x,H1,I1,r1,q1⟩:=hz9;refine z6 (Ym (thn (hi pins s1 σ H1 _ I1 q1) fun iv s2 hz9=>?_));obtain⟨y,H2,I2,r2,q2⟩:=hz9;refine z6 (wpAny_standAt (z6 (Ym (thn (hs pins s2 σ H2 x y v ov iv u _ I2 r1 r2 r q2) fun _ s3 ⟨H3,I3,q3⟩=>?_))));exact wpAny_release ⟨σ,H3,I3,q3⟩
def nW(te:TE)(g:TG):TS:=fun D σ H=>te σ H fun x H1=>g x σ H1 D.nx
theorem DV{tg e:Expr}{te:TE}{g:TG}(he:PE X e te)(hg:PG X tg g)(hs:swapsWithSole [tg] e pos.line X.env=pure false:=by rfl)(hw:swappedStores [tg] e X.env=pure none:=by rfl)(h1:(assignEach [tg] X.env).map (·.2)=[assign tg X.env]:=by rfl):PS X (.Assign [tg] e pos) (nW te g):=by intro pins s σ H D I h;refine wpAny_Assign_stores (thn (he pins s σ H _ I h) fun v s1 hz9=>?_) hs hw;obtain⟨x,H1,I1,r1,q1⟩:=hz9;rw[h1];exact thn (hg pins s1 σ H1 x v _ I1 r1 q1) fun _ s2 q=>q
theorem D3{i:Nat}{x:Str}{e:Expr}{te:TE}{pos':Pos}(hN:X.N.Nodup)(hi:X.N[i]?=some x)(hx:Loc X.env.scope x)(he:PE X e te)(hs:swapsWith e (some (.Name x pos')) pos.line X.env=pure false:=by rfl)(hf:X.fn x=true\/X.env.scope.names.lookup x=some .local:=by first|exact .inl rfl|exact .inr rfl|assumption) :
  PS X (.Assign [.Name x pos'] e pos) (nW te (bG i)):=by
 intro pins s σ H D I h;refine wpAny_Assign_Name (thn (he pins s σ H _ I h) fun v s1 hz9=>?_) hs;obtain⟨y,H1,I1,r1,q1⟩:=hz9;exact kJ I1 hN hi hx r1 (fun s2 I2=>⟨_,H1,I2,q1⟩) hf
def Ev(i:Nat)(te:TE)(ti:TIp):TS:=fun D σ H=>∃x,σ[i]?=some (some x)/\te σ H fun y H1=>ti x y H1 fun z H2=>D.nx (σ.set i (some z)) H2
theorem DW{i:Nat}{x:Str}{e:Expr}{te:TE}{op:Operator}{ti:TIp}{pos':Pos}(hN:X.N.Nodup)(hi:X.N[i]?=some x)(hx:Loc X.env.scope x)(he:PE X e te)(ho:PIp X op ti)(hf:X.fn x=true\/X.env.scope.names.lookup x=some .local:=by first|exact .inl rfl|exact .inr rfl|assumption) :
  PS X (.AugAssign (.Name x pos') op e pos) (Ev i te ti):=by
 intro pins s σ H D I h;obtain⟨v,e1,h⟩:=h;obtain⟨m,hn,hl⟩:=I.loc;have vis:Vis X.env.scope x:=by rcases hx with k|k;exact .inl k;exact .inr (.inl k)
 obtain⟨u,r,l⟩:=hl i x v hi e1 vis;refine wpAny_AugAssign_Name ?_;have go:wpAny (model X.prog X.w) X.A (eval e X.env) (fun w s₂=>wpAny (model X.prog X.w) X.A (inplaceOp op u w) (fun r s₃=>wpAny (model X.prog X.w) X.A (storeName X.env x r) (fun _=>SP X pins D .next) X.xe s₃) X.xe s₂) X.xe s:=by refine thn (he pins s σ H _ I h) fun w s1 hz9=>?_;obtain⟨y,H1,I1,r1,q1⟩:=hz9;refine thn (ho pins s1 σ H1 v y u w _ I1 r r1 q1) fun z s2 hz9=>?_;obtain⟨zv,H2,I2,r2,q2⟩:=hz9;exact kJ I2 hN hi hx r2 (fun s3 I3=>⟨_,H2,I3,q2⟩) hf
 rcases l with⟨hk,hm⟩|⟨hk,c,hc,hcell⟩
 ·exact wpAny_loadName_local I.ok.kind hk hn hm go
 ·rcases hk with hk|hk
  ·exact wpAny_loadName_cell I.ok.kind hk hc hcell go
  ·rcases hx with k|k
   ·have:X.env.scope.names.lookup x=some .free:=hk;rw[k]at this;cases this
   ·have:X.env.scope.names.lookup x=some .free:=hk;rw[k]at this;cases this
def ipI(f:Int->Int->Int):TIp:=fun x y H Q=>∃i j,x=.int i/\y=.int j/\Q (.int (f i j)) H
theorem C1:PIp X .Add (ipI fun i j=>i+j):=by intro pins s σ H x y v u Q I r1 r2 h;obtain⟨i,j,e1,e2,q⟩:=h;subst e1;subst e2;obtain⟨t,rfl⟩:=r1;obtain⟨t',rfl⟩:=r2;exact iadd_int ⟨.int _,H,I.tok _,⟨_,rfl⟩,q⟩
end
structure It where
 go:Nat->Hp->Prop
 yld:Nat->Hp->V->Hp->Prop
 stop:Nat->Hp->Prop
def bz(X:Cx)(pins:List (Addr×Obj))(H:Hp)(b:Addr):Prop :=
 H b=none/\b≠X.env.locals/\b∉X.fs/\(b∈X.ex\/X.s₀.heap.objs.size<=b)/\(∀x c,X.env.cells.lookup x=some c->c≠b)/\∀p∈X.pn++pins,p.1≠b
theorem Inv.fpOk{X:Cx}{pins:List (Addr×Obj)}{σ:St}{H H':Hp}{s:Shared}{b:Addr}(I:Inv X pins σ H s)(hb:s.heap.objs.size<=b)(hn:H' b=none):bz X pins H' b:=by
 refine⟨hn,Yh (ZA I.lt hb),I.nofs hb,.inr (ZV I.sz hb),fun x c e z=>?_,fun p hp z=>?_⟩
 ·obtain⟨v,q⟩:=I.cell x c e;exact absurd (ZA q.lt (by rw[z];exact hb)) (YJ _)
 ·exact absurd (ZA (Zo (I.pin p hp).1) (by rw[z];exact hb)) (YJ _)
structure Turn(P:Program)(w:World)(K:PySem.W.Frag)(tg:Expr)(J:It)(fp:List Addr)(it:Addr)(tn:Nat->Heap->Prop):Prop where
 mem:it∈fp
 obj:∀i h,tn i h->∀b∈fp,∃o,h.get? b=some o/\∀v,o.data≠.cell v
 keep:∀i h h',tn i h->(∀b∈fp,∀o,h.get? b=some o->h'.get? b=some o)->tn i h'
 item:∀(X:Cx),X.prog=P->X.w=w->X.K=K->X.calm=true->∀(i:Nat) (pins:List (Addr×Obj)) (s:Shared) (σ:St) (H:Hp) (E:Value->Shared->Prop),Inv X pins σ H s->(∀b∈fp,bz X pins H b)->tn i s.heap->J.go i H ->
  wpAny (model P w) X.A (pyNext (.ref it)) (fun r s1=>∃ u,r=some u /\
   wpAny (model P w) X.A (letOwnedTupleGo tg (.ref it) u) (fun _ s2=>∃ x H',Inv X pins σ H' s2/\RelV x u/\J.yld i H x H'/\tn (i+1) s2.heap/\∀ b∈fp,H' b=none) E s1) E s
 done:∀(X:Cx),X.prog=P->X.w=w->X.K=K->X.calm=true->∀(i:Nat) (pins:List (Addr×Obj)) (s:Shared) (σ:St) (H:Hp) (E:Value->Shared->Prop),Inv X pins σ H s->(∀b∈fp,bz X pins H b)->tn i s.heap->J.stop i H ->
  wpAny (model P w) X.A (pyNext (.ref it)) (fun r s1=>r=none/\Inv X pins σ H s1) E s
 self:∀(A:Around) (i:Nat) (s:Shared) (Q:Value->Shared->Prop) (E:Value->Shared->Prop),tn i s.heap->Q (.ref it) s->wpAny (model P w) A (pyIter (.ref it)) Q E s
abbrev TI:=St->Hp->(It->Hp->Prop)->Prop
def PIE(X:Cx)(pins:List (Addr×Obj))(σ:St)(tg:Expr)(R:It->Hp->Prop)(itv:Value)(s2:Shared):Prop :=
 ∃(it:Addr) (fp:List Addr) (tn:Nat->Heap->Prop) (J:It) (H':Hp),itv=.ref it/\Inv X pins σ H' s2/\Turn X.prog X.w X.K tg J fp it tn/\tn 0 s2.heap/\(∀b∈fp,bz X pins H' b)/\R J H'
def PI(X:Cx)(tg iter:Expr)(wi:TI):Prop :=
 ∀(pins:List (Addr×Obj)) (s:Shared) (σ:St) (H:Hp) (R:It->Hp->Prop),Inv X pins σ H s->wi σ H R ->
  wpAny (model X.prog X.w) X.A (eval iter X.env) (fun v s1=>wpAny (model X.prog X.w) X.A (pyIter v) (PIE X pins σ tg R) X.xe s1) X.xe s
theorem kZ{M:Model}{A:Around}{E:Value->Shared->Prop}{s:Shared}{tg:Expr}{it:Addr}{u:Value}{o:Obj}{n:String}{vs:Array Value}{Q:Unit->Shared->Prop}(ho:s.heap.get? it=some o)(hc:o.cls=.type n)(hd:o.data=.fields vs)(hn:["enumerate","zip","dict_itemiterator","dict_reverseitemiterator","odict_iterator","itertools.zip_longest","itertools.pairwise"].contains n=false)(hQ:Q () s):wpAny M A (letOwnedTupleGo tg (.ref it) u) Q E s:=by
 unfold letOwnedTupleGo;cases tg<;>first
  |exact Zd hQ
  | (cases u<;>first
    |exact Zd hQ
    | (refine z6 (wpAny_load ho ?_)
       rw[hc,hd];show wpAny M A (if(["enumerate","zip","dict_itemiterator","dict_reverseitemiterator","odict_iterator","itertools.zip_longest","itertools.pairwise"].contains n&&vs[0]?==some (rawInt _))=true then _ else _) Q E s;rw[if_neg (by intro h;rw[hn,YB]at h;cases h)];exact Zd hQ))
def Itl(K:PySem.W.Frag)(a:Addr):It :=
 ⟨fun i H=>∃xs x,SqL K H a xs/\xs[i]?=some x,fun i H x H'=>H'=H/\∀xs,SqL K H a xs->xs[i]?=some x,fun i H=>∃xs,SqL K H a xs/\xs.length<=i⟩
def Itt(K:PySem.W.Frag)(a:Addr):It :=
 ⟨fun i H=>∃xs x,SqT K H a xs/\xs[i]?=some x,fun i H x H'=>H'=H/\∀xs,SqT K H a xs->xs[i]?=some x,fun i H=>∃xs,SqT K H a xs/\xs.length<=i⟩
def Itr(lo:Int)(n:Nat):It:=⟨fun i _=>i<n,fun i H x H'=>H'=H/\x=.int (lo+i),fun i _=>n<=i⟩
theorem yx{P:Program}{w:World}{K:PySem.W.Frag}{tg:Expr}(a it:Addr):Turn P w K tg (Itl K a) [it] it (fun i h=>h.IsListIter it a i) where
 mem:=by simp
 obj:=fun i h st b hb=>by
  have e:b=it:=by simpa using hb
  subst e;obtain⟨o,e,c,d⟩:=st;exact⟨o,e,fun v z=>by rw[d]at z;cases z⟩
 keep:=fun i h h' st k=>st.at fun o e=>k it (by simp) o e
 item:=by intro X hP hw hK hc i pins s σ H E I hf st hg;subst hP hw hK;obtain⟨xs,x,hq,hx⟩:=hg;obtain⟨its,rv,p,hz⟩:=I.list hq;obtain⟨u,hu,ru⟩:=rv.get hx;obtain⟨f0,f1,f2,f3,f4,f5⟩:=hf it (by simp);refine wpAny_pyNext_list_item st p.isList (x:=u) (by simpa using hu) fun h' st' sb=>?_;have I1:Inv X pins σ H { s with heap:=h' }:=I.turned (t':=s.toks) (fun b o hb e=>(sb.2 b hb).trans e) f0 f1 f3 f4 f5;obtain⟨o,e,c,d⟩:=id st';exact⟨u,rfl,kZ (s:={ s with heap:=h' }) e c d (by decide) ⟨x,H,I1,ru,⟨rfl,fun ys hy=>by rw[I.list_inj hy hq];exact hx⟩,st',fun b hb=>(hf b hb).1⟩⟩
 done:=by intro X hP hw hK hc i pins s σ H E I hf st hg;subst hP hw hK;obtain⟨xs,hq,hx⟩:=hg;obtain⟨its,rv,p,hz⟩:=I.list hq;obtain⟨f0,f1,f2,f3,f4,f5⟩:=hf it (by simp);have hl:=rv.length;exact wpAny_pyNext_list_end (I.ok.hd hc) st p.isList (by simp;omega) fun h' eb=>⟨rfl,I.turned (t':=s.toks) (fun b o hb e=>eb b o hb e) f0 f1 f3 f4 f5⟩
 self:=fun _ _ _ _ _ st h=>wpAny_pyIter_listiter st h
theorem wc{P:Program}{w:World}{K:PySem.W.Frag}{tg:Expr}(a it:Addr):Turn P w K tg (Itt K a) [it] it (fun i h=>h.IsTupleIter it a i) where
 mem:=by simp
 obj:=fun i h st b hb=>by
  have e:b=it:=by simpa using hb
  subst e;obtain⟨o,e,c,d⟩:=st;exact⟨o,e,fun v z=>by rw[d]at z;cases z⟩
 keep:=fun i h h' st k=>st.at fun o e=>k it (by simp) o e
 item:=by intro X hP hw hK hc i pins s σ H E I hf st hg;subst hP hw hK;obtain⟨xs,x,hq,hx⟩:=hg;obtain⟨its,rv,p,hz⟩:=I.tuple hq;obtain⟨u,hu,ru⟩:=rv.get hx;obtain⟨f0,f1,f2,f3,f4,f5⟩:=hf it (by simp);refine wpAny_pyNext_tuple_item st (show s.heap.IsTuple a its.toArray from p) (x:=u) (by simpa using hu) fun h' st' sb=>?_;have I1:Inv X pins σ H { s with heap:=h' }:=I.turned (t':=s.toks) (fun b o hb e=>(sb.2 b hb).trans e) f0 f1 f3 f4 f5;obtain⟨o,e,c,d⟩:=id st';exact⟨u,rfl,kZ (s:={ s with heap:=h' }) e c d (by decide) ⟨x,H,I1,ru,⟨rfl,fun ys hy=>by rw[I.tuple_inj hy hq];exact hx⟩,st',fun b hb=>(hf b hb).1⟩⟩
 done:=by intro X hP hw hK hc i pins s σ H E I hf st hg;subst hP hw hK;obtain⟨xs,hq,hx⟩:=hg;obtain⟨its,rv,p,hz⟩:=I.tuple hq;obtain⟨f0,f1,f2,f3,f4,f5⟩:=hf it (by simp);have hl:=rv.length;exact wpAny_pyNext_tuple_end (I.ok.hd hc) st (show s.heap.IsTuple a its.toArray from p) (by simp;omega) fun h' eb=>⟨rfl,I.turned (t':=s.toks) (fun b o hb e=>eb b o hb e) f0 f1 f3 f4 f5⟩
 self:=fun _ _ _ _ _ st h=>wpAny_pyIter_tupleiter st h
theorem wb{P:Program}{w:World}{K:PySem.W.Frag}{tg:Expr}(it:Addr)(lo:Int)(n:Nat):Turn P w K tg (Itr lo n) [it] it (fun i h=>IsRangeIter h it (lo+(i:Nat)*1) ((n:Int)-(i:Nat)) 1) where
 mem:=by simp
 obj:=fun i h st b hb=>by
  have e:b=it:=by simpa using hb
  subst e;exact⟨_,st,fun v z=>by
   have z':Data.fields _=Data.cell v:=z;cases z'⟩
 keep:=fun i h h' st k=>k it (by simp) _ st
 item:=by intro X hP hw hK hc i pins s σ H E I hf st hg;subst hP hw hK;obtain⟨f0,f1,f2,f3,f4,f5⟩:=hf it (by simp);have W:=Walks.range (prog:=X.prog) (w:=X.w) (I.ok.hd hc) it lo 1 n;refine W.item i s _ _ hg st fun v h' tk hv st' kk=>?_;obtain⟨t,rfl⟩:=hv;have I1:Inv X pins σ H { s with heap:=h',toks:=tk }:=I.turned (fun b o hb e=>kk b o (by simpa using hb) e) f0 f1 f3 f4 f5;refine⟨_,rfl,kZ (s:={ s with heap:=h',toks:=tk }) (n:="range_iterator") st' rfl rfl (by decide) ⟨.int (lo+i),H,I1,⟨t,?_⟩,⟨rfl,rfl⟩,st',fun b hb=>(hf b hb).1⟩⟩;rw[Int.mul_one]
 done:=by intro X hP hw hK hc i pins s σ H E I hf st hg;subst hP hw hK;obtain⟨f0,f1,f2,f3,f4,f5⟩:=hf it (by simp);exact wpAny_pyNext_range_end (I.ok.hd hc) st (by have:n<=i:=hg;omega) fun h' eb=>⟨rfl,I.turned (t':=s.toks) (fun b o hb e=>eb b o hb e) f0 f1 f3 f4 f5⟩
 self:=fun _ _ _ _ _ st h=>wpAny_pyIter_rangeiter st h
open PySem PySem.Spec PyProof.Rows
section
variable{X:Cx}{tg:Expr}
def AR(K:PySem.W.Frag)(tl:TE):TI:=fun σ H R=>tl σ H fun x H1=>∃a,x=.ref a/\(∃xs,SqL K H1 a xs)/\R (Itl K a) H1
def CY(K:PySem.W.Frag)(tl:TE):TI:=fun σ H R=>tl σ H fun x H1=>∃a,x=.ref a/\(∃xs,SqT K H1 a xs)/\R (Itt K a) H1
theorem B8{l:Expr}{tl:TE}(hl:PE X l tl):PI X tg l (AR X.K tl):=by
 intro pins s σ H R I h;refine thn (hl pins s σ H _ I h) fun v s1 hz9=>?_;obtain⟨x,H1,I1,r1,q1⟩:=hz9;obtain⟨a,e,⟨xs,hq⟩,q⟩:=q1;subst e;cases r1;obtain⟨its,rv,p,hz⟩:=I1.list hq;refine wpAny_pyIter_list p.isList ?_;refine⟨s1.heap.objs.size,[s1.heap.objs.size],_,_,H1,rfl,I1.kept (t':=s1.toks) fun b o e=>Za _ e,yx a _,⟨_,Zk _ rfl,rfl,rfl⟩,fun b hb=>?_,q⟩;have e:b=s1.heap.objs.size:=by simpa using hb
 subst e;exact I1.fpOk (Ze _) (I1.hok.fresh (Ze _))
theorem DO{l:Expr}{tl:TE}(hl:PE X l tl):PI X tg l (CY X.K tl):=by
 intro pins s σ H R I h;refine thn (hl pins s σ H _ I h) fun v s1 hz9=>?_;obtain⟨x,H1,I1,r1,q1⟩:=hz9;obtain⟨a,e,⟨xs,hq⟩,q⟩:=q1;subst e;cases r1;obtain⟨its,rv,p,hz⟩:=I1.tuple hq;refine Y8 (show s1.heap.IsTuple a its.toArray from p) ?_;refine⟨s1.heap.objs.size,[s1.heap.objs.size],_,_,H1,rfl,I1.kept (t':=s1.toks) fun b o e=>Za _ e,wc a _,⟨_,Zk _ rfl,rfl,rfl⟩,fun b hb=>?_,q⟩;have e:b=s1.heap.objs.size:=by simpa using hb
 subst e;exact I1.fpOk (Ze _) (I1.hok.fresh (Ze _))
theorem Ai{pins:List (Addr×Obj)}{σ:St}{H:Hp}{s:Shared}{R:It->Hp->Prop}{E:Value->Shared->Prop}{lo hi:Int}{t u v:Tok}{tk:Nat}(I:Inv X pins σ H s)(h1:-(2^62)<=lo)(h2:lo<2^62)(h3:-(2^62)<=hi)(h4:hi<2^62)(q:R (Itr lo (hi-lo).toNat) H):wpAny (model X.prog X.w) X.A (pyIter (.ref s.heap.objs.size)) (PIE X pins σ tg R) E { s with heap:=s.heap.push { cls:=.type "range",data:=.fields #[.int lo t,.int hi u,.int 1 v] },toks:=tk }:=by
 refine wpAny_pyIter_range (IsRange.new ..) (small_one h1 h2 h3 h4) ?_;have I1:Inv X pins σ H { s with heap:=s.heap.push { cls:=.type "range",data:=.fields #[.int lo t,.int hi u,.int 1 v] },toks:=tk }:=I.kept fun b o e=>Za _ e;refine⟨(s.heap.push { cls:=.type "range",data:=.fields #[.int lo t,.int hi u,.int 1 v] }).objs.size,[(s.heap.push { cls:=.type "range",data:=.fields #[.int lo t,.int hi u,.int 1 v] }).objs.size],_,_,H,rfl,
  I1.kept (t':=tk) fun b o e=>Za _ e,wb _ lo (hi - lo).toNat,?_,fun b hb=>?_,q⟩
 ·have e1:lo+((0:Nat):Int)*1=lo:=by simp
  have e2:(((hi-lo).toNat:Nat):Int)-((0:Nat):Int)=Builtin.Range.rangeSize lo hi 1:=by rw[rangeSize_one];split<;>omega
  show IsRangeIter _ _ (lo+((0:Nat):Int)*1) ((((hi-lo).toNat:Nat):Int)-((0:Nat):Int)) 1;rw[e1,e2];exact Zk _ rfl
 ·have e:b=(s.heap.push { cls:=.type "range",data:=.fields #[.int lo t,.int hi u,.int 1 v] }).objs.size:=by simpa using hb
  subst e;exact I1.fpOk (Ze _) (I1.hok.fresh (Ze _))
def AT(ta:TA):TI:=fun σ H R=>ta σ H fun vs H1=>∃j:Int,vs=[.int j]/\-(2^62)<=j/\j<2^62/\R (Itr 0 j.toNat) H1
theorem xP{a:Expr}{ta:TA}{p pos:Pos}(hg:Gl X "range")(hm:X.mg "range" = none)(ha:PA X [a] ta)(hs:starEach [a] X.env=[(false,eval a X.env)]:=by rfl):PI X tg (.Call (.Name "range" p) [a] [] pos) (AT ta):=by
 intro pins s σ H R I h;refine Call_ (dS I hg hm boot_range (YM (thn (ha pos pins s σ H _ I h) fun us s1 hz9=>?_) hs rfl));obtain⟨vs,H1,I1,r1,q1⟩:=hz9;obtain⟨j,e,q1,q2,q⟩:=q1;subst e;cases r1 with
 |cons r rr =>cases rr;obtain⟨t,rfl⟩:=r;exact call_range_1 (Ai I1 (by omega) (by omega) q1 q2 (by simpa using q))
def Ew(wi:TI)(g:TG)(tb:TS):TS:=fun D σ H=>wi σ H fun J H1=>∃W:Nat->Nat->St->Hp->Prop,(∃m,W 0 m σ H1)/\∀i m σ H,W i m σ H ->
 (J.stop i H/\D.nx σ H)\/(J.go i H/\∃N:St->Hp->Prop,(∀σ' H',N σ' H'->∃m',m'<m/\W (i+1) m' σ' H')/\∀x H',J.yld i H x H'->g x σ H' fun σ2 H2=>tb { D with nx:=N,ct:=N,bk:=D.nx } σ2 H2)
def je(fp:List Addr)(h:Heap):List (Addr×Obj):=fp.filterMap fun b=>(h.get? b).map fun o=>(b,o)
theorem fB{fp:List Addr}{h:Heap}{b:Addr}{o:Obj}(hb:b∈fp)(e:h.get? b=some o):(b,o)∈je fp h:=List.mem_filterMap.mpr ⟨b,hb,by rw[e];rfl⟩
theorem xF{fp:List Addr}{h:Heap}{p:Addr×Obj}(hp:p∈je fp h):p.1∈fp/\h.get? p.1=some p.2:=by
 obtain⟨b,hb,e⟩:=List.mem_filterMap.mp hp;cases q:h.get? b with
 |none=>rw[q]at e;cases e
 |some o =>rw[q]at e;have e':(b,o)=p:=ZO e;subst e';exact⟨hb,q⟩
theorem Inv.pinned{pins:List (Addr×Obj)}{σ:St}{H:Hp}{s:Shared}{fp:List Addr}(I:Inv X pins σ H s)(hf:∀b∈fp,bz X pins H b)(ho:∀b∈fp,∃o,s.heap.get? b=some o/\∀v,o.data≠.cell v):Inv X (pins++je fp s.heap) σ H s :=
 I.pins_of fun p hp=>(Zu.mp hp).elim (fun z=>I.pin p (Zz _ z)) fun z=>by obtain⟨hb,e⟩:=xF z;obtain⟨f0,f1,f2,_⟩:=hf p.1 hb;obtain⟨o,e',d⟩:=ho p.1 hb;rw[e]at e';cases e';exact⟨e,f0,f1,f2,d⟩
theorem Inv.unpinned{pins pl:List (Addr×Obj)}{σ:St}{H:Hp}{s:Shared}(I:Inv X (pins++pl) σ H s):Inv X pins σ H s:=I.pins_of fun p hp=>I.pin p (Zz _ (ZM _ hp))
theorem DY{iter:Expr}{body:List Stmt}{wi:TI}{g:TG}{tb:TS}{pos:Pos}(hp:PassesOwn (model X.prog X.w) X.A X.env X.xe)(hc:X.calm=true)(hi:PI X tg iter wi)(hg:PG X tg g)(hb:PSs X body tb)(hs:∀x,foldedSetIterable iter X.env x=pure x:=by intro _;rfl):PS X (.For tg iter body [] pos) (Ew wi g tb):=by
 intro pins s σ H D I h;refine wpAny_For (thn (hi pins s σ H _ I h) fun v s1 h1=>thn h1 fun itv s2 h2=>?_) hs;obtain⟨it,fp,tn,J,H2,e,I2,T,st2,f2,W,⟨m0,w0⟩,turn⟩:=h2;subst e;have stat:∀{H':Hp},(∀b∈fp,H' b=none)->∀b∈fp,bz X pins H' b:=fun hn b hb=>⟨hn b hb,(f2 b hb).2⟩
 refine codeAny_forLoop_any (fun n s'=>∃i σ' H',Inv X pins σ' H' s'/\tn i s'.heap/\(∀b∈fp,H' b=none)/\W i n σ' H') ?_ m0 ⟨0,σ,H2,I2,st2,fun b hb=>(f2 b hb).1,w0⟩;rintro n s3 ⟨i,σ3,H3,I3,st3,fr3,w3⟩;rcases turn i n σ3 H3 w3 with⟨stop,qn⟩|⟨go,N,hN,step⟩
 ·refine wpAny_passesOwn hp (thn (T.done X rfl rfl rfl hc i pins s3 σ3 H3 X.xe I3 (stat fr3) st3 stop) fun r s4 ⟨hr,I4⟩=>?_);subst hr;exact wpAny_execs_nil ⟨σ3,H3,I4,qn⟩
 ·refine wpAny_passesOwn hp (thn (T.item X rfl rfl rfl hc i pins s3 σ3 H3 X.xe I3 (stat fr3) st3 go) fun r s4 ⟨u,hr,h4⟩=>?_);subst hr;refine wpAny_passesOwn hp (thn h4 fun _ s5 hz9=>?_);obtain⟨x,H5,I5,r5,y5,st5,fr5⟩:=hz9;have I5':=I5.pinned (stat fr5) (T.obj _ _ st5);refine wpAny_passesOwn hp (thn (hg _ s5 σ3 H5 x u _ I5' r5 (step x H5 y5)) fun _ s6 ⟨σ6,H6,I6,q6⟩=>?_);refine wpAny_passesOwn hp (thn (hb _ s6 σ6 H6 _ I6 q6) fun f s7 q7=>?_);have again:∀{σ7:St} {H7:Hp},Inv X (pins++je fp s5.heap) σ7 H7 s7->N σ7 H7->∃m,m<n/\∃i σ' H',Inv X pins σ' H' s7/\tn i s7.heap/\(∀b∈fp,H' b=none)/\W i m σ' H':=fun{σ7 H7} I7 n7=>by obtain⟨m',hm,w7⟩:=hN σ7 H7 n7;refine⟨m',hm,i+1,σ7,H7,I7.unpinned,T.keep _ _ _ st5 fun b hb o e=>(I7.pin (b,o) (Zz _ (Zz _ (fB hb e)))).1,fun b hb=>?_,w7⟩;obtain⟨o,e,d⟩:=T.obj _ _ st5 b hb;exact(I7.pin (b,o) (Zz _ (Zz _ (fB hb e)))).2.1
  cases f with
  |next=>obtain⟨σ7,H7,I7,n7⟩:=q7;exact again I7 n7
  |cont=>obtain⟨σ7,H7,I7,n7⟩:=q7;exact again I7 n7
  |brk=>obtain⟨σ7,H7,I7,q7⟩:=q7;exact⟨σ7,H7,I7.unpinned,q7⟩
  |ret v=>obtain⟨x7,σ7,H7,I7,r7,q7⟩:=q7;exact⟨x7,σ7,H7,I7.unpinned,r7,q7⟩
end
theorem qo{K:PySem.W.Frag}{a:Addr}{xs:List V}{g:TG}{tb:TS}{D:Ends}{σ:St}{H:Hp}(Pv:Nat->St->Hp->Prop)(h0:Pv 0 σ H)(hl:∀i σ H,i<=xs.length->Pv i σ H->SqL K H a xs)(hs:∀i x σ H,xs[i]?=some x->Pv i σ H->g x σ H fun σ2 H2=>tb { D with nx:=Pv (i+1),ct:=Pv (i+1),bk:=D.nx } σ2 H2)(hd:∀σ H,Pv xs.length σ H->D.nx σ H) :
  ∃W:Nat->Nat->St->Hp->Prop,(∃m,W 0 m σ H)/\∀i m σ H,W i m σ H ->
   ((Itl K a).stop i H/\D.nx σ H)\/((Itl K a).go i H/\∃N:St->Hp->Prop,(∀σ' H',N σ' H'->∃m',m'<m/\W (i+1) m' σ' H')/\∀x H',(Itl K a).yld i H x H'->g x σ H' fun σ2 H2=>tb { D with nx:=N,ct:=N,bk:=D.nx } σ2 H2):=by
 refine⟨fun i m σ H=>m=xs.length-i/\i<=xs.length/\Pv i σ H,⟨xs.length,by simp,ZZ _,h0⟩,?_⟩;rintro i m σ H ⟨rfl,hi,p⟩;have q:=hl i σ H hi p;by_cases hlt:i<xs.length
 ·refine .inr ⟨⟨xs,xs[i],q,by simp[hlt]⟩,Pv (i+1),fun σ' H' p'=>⟨xs.length-(i+1),by omega,rfl,hlt,p'⟩,fun x H' y=>?_⟩;obtain⟨e,y⟩:=y;subst e;exact hs i x σ _ (y xs q) p
 ·have e:i=xs.length:=by omega
  subst e;exact .inl ⟨⟨xs,q,Ze _⟩,hd σ H p⟩
theorem wU{lo:Int}{n:Nat}{g:TG}{tb:TS}{D:Ends}{σ:St}{H:Hp}(Pv:Nat->St->Hp->Prop)(h0:Pv 0 σ H)(hs:∀i σ H,i<n->Pv i σ H->g (.int (lo+i)) σ H fun σ2 H2=>tb { D with nx:=Pv (i+1),ct:=Pv (i+1),bk:=D.nx } σ2 H2)(hd:∀σ H,Pv n σ H->D.nx σ H) :
  ∃W:Nat->Nat->St->Hp->Prop,(∃m,W 0 m σ H)/\∀i m σ H,W i m σ H ->
   ((Itr lo n).stop i H/\D.nx σ H)\/((Itr lo n).go i H/\∃N:St->Hp->Prop,(∀σ' H',N σ' H'->∃m',m'<m/\W (i+1) m' σ' H')/\∀x H',(Itr lo n).yld i H x H'->g x σ H' fun σ2 H2=>tb { D with nx:=N,ct:=N,bk:=D.nx } σ2 H2):=by
 refine⟨fun i m σ H=>m=n-i/\i<=n/\Pv i σ H,⟨n,by simp,ZZ _,h0⟩,?_⟩;rintro i m σ H ⟨rfl,hi,p⟩;by_cases hlt:i<n
 ·refine .inr ⟨hlt,Pv (i+1),fun σ' H' p'=>⟨n-(i+1),by omega,rfl,hlt,p'⟩,fun x H' y=>?_⟩;obtain⟨e,y⟩:=y;subst e y;exact hs i σ _ hlt p
 ·have e:i=n:=by omega
  subst e;exact .inl ⟨Ze _,hd σ H p⟩
open PySem PySem.Spec PyProof.Rows
abbrev R2:=V->V->Hp->VK->Prop
def OpR(X:Cx)(f:Value->Value->Sem Value)(r:R2):Prop :=
 ∀(pins:List (Addr×Obj)) (s:Shared) (σ:St) (H:Hp) (x y:V) (v u:Value) (Q:VK),Inv X pins σ H s->RelV x v->RelV y u->r x y H Q ->
  wpAny (model X.prog X.w) X.A (f v u) (EP X pins σ Q) X.xe s
def UnR(X:Cx)(f:Value->Sem Value)(r:V->Hp->VK->Prop):Prop :=
 ∀(pins:List (Addr×Obj)) (s:Shared) (σ:St) (H:Hp) (x:V) (v:Value) (Q:VK),Inv X pins σ H s->RelV x v->r x H Q ->
  wpAny (model X.prog X.w) X.A (f v) (EP X pins σ Q) X.xe s
def dO(X:Cx)(f:Value)(r:List V->Hp->VK->Prop):Prop :=
 ∀(pins:List (Addr×Obj)) (s:Shared) (σ:St) (H:Hp) (xs:List V) (us:List Value) (Q:VK),Inv X pins σ H s->Vals xs us->r xs H Q ->
  wpAny (model X.prog X.w) X.A (call f us) (EP X pins σ Q) X.xe s
def tOp(r:R2)(ta tb:TE):TE:=fun σ H Q=>ta σ H fun x H1=>tb σ H1 fun y H2=>r x y H2 Q
def tUn(r:V->Hp->VK->Prop)(ta:TE):TE:=fun σ H Q=>ta σ H fun x H1=>r x H1 Q
def rI(C:Int->Int->Prop)(g:Int->Int->V):R2:=fun x y H Q=>∃i j,x=.int i/\y=.int j/\C i j/\Q (g i j) H
def rI0(g:Int->Int->V):R2:=fun x y H Q=>∃i j,x=.int i/\y=.int j/\Q (g i j) H
def rU(g:Int->V):V->Hp->VK->Prop:=fun x H Q=>∃i,x=.int i/\Q (g i) H
section
variable{X:Cx}{a b c:Expr}{ta tb tc:TE}{pos:Pos}
theorem yP(ha:PE X a ta)(hb:PE X b tb){pins:List (Addr×Obj)}{s:Shared}{σ:St}{H:Hp}{R:V->V->Hp->Prop}(I:Inv X pins σ H s)(h:ta σ H fun x H1=>tb σ H1 fun y H2=>R x y H2){Q:Value->Shared->Prop}{f:Value->Value->Sem Value}(hf:∀v u s2 x y H2,Inv X pins σ H2 s2->RelV x v->RelV y u->R x y H2->wpAny (model X.prog X.w) X.A (f v u) Q X.xe s2) :
  wpAny (model X.prog X.w) X.A (eval a X.env) (fun v s₁=>wpAny (model X.prog X.w) X.A (eval b X.env) (fun u s₂=>wpAny (model X.prog X.w) X.A (f v u) Q X.xe s₂) X.xe s₁) X.xe s:=by
 refine thn (ha pins s σ H _ I h) fun v s1 hz9=>?_;obtain⟨x,H1,I1,r1,q1⟩:=hz9;refine thn (hb pins s1 σ H1 _ I1 q1) fun u s2 hz9=>?_;obtain⟨y,H2,I2,r2,q2⟩:=hz9;exact hf v u s2 x y H2 I2 r1 r2 q2
theorem Fk{op:Operator}{r:R2}(ho:OpR X (binaryOp op) r)(ha:PE X a ta)(hb:PE X b tb):PE X (.BinOp a op b pos) (tOp r ta tb):=by intro pins s σ H Q I h;exact wpAny_BinOp (yP ha hb I h fun v u s2 x y H2 I2 rx ry q=>ho pins s2 σ H2 x y v u Q I2 rx ry q)
theorem Fo{op:UnaryOp}{r:V->Hp->VK->Prop}(ho:UnR X (unaryOp op) r)(ha:PE X a ta):PE X (.UnaryOp op a pos) (tUn r ta):=by intro pins s σ H Q I h;exact UnaryOp_ (thn (ha pins s σ H _ I h) fun v s1 ⟨x,H1,I1,r1,q1⟩=>ho pins s1 σ H1 x v Q I1 r1 q1)
theorem opI{f:Value->Value->Sem Value}{C:Int->Int->Prop}{g:Int->Int->Int}(rule:∀(i j:Int) (t u:Tok) (s:Shared) (Q:Value->Shared->Prop) (E:Value->Shared->Prop),C i j->Q (.int (g i j) s.toks) { s with toks:=s.toks+1 }->wpAny (model X.prog X.w) X.A (f (.int i t) (.int j u)) Q E s) :
  OpR X f (rI C fun i j=>.int (g i j)):=by
 intro pins s σ H x y v u Q I rx ry h;obtain⟨i,j,rfl,rfl,hc,q⟩:=h;obtain⟨t,rfl⟩:=rx;obtain⟨t',rfl⟩:=ry;exact rule i j t t' s _ _ hc ⟨.int (g i j),H,I.tok _,⟨_,rfl⟩,q⟩
theorem Dm{f:Value->Value->Sem Value}{g:Int->Int->Int}(rule:∀(i j:Int) (t u:Tok) (s:Shared) (Q:Value->Shared->Prop) (E:Value->Shared->Prop),Q (.int (g i j) s.toks) { s with toks:=s.toks+1 }->wpAny (model X.prog X.w) X.A (f (.int i t) (.int j u)) Q E s) :
  OpR X f (rI0 fun i j=>.int (g i j)):=by
 intro pins s σ H x y v u Q I rx ry h;obtain⟨i,j,rfl,rfl,q⟩:=h;obtain⟨t,rfl⟩:=rx;obtain⟨t',rfl⟩:=ry;exact rule i j t t' s _ _ ⟨.int (g i j),H,I.tok _,⟨_,rfl⟩,q⟩
theorem vD{f:Value->Value->Sem Value}{g:Int->Int->Bool}(rule:∀(i j:Int) (t u:Tok) (s:Shared) (Q:Value->Shared->Prop) (E:Value->Shared->Prop),Q (.bool (g i j)) s->wpAny (model X.prog X.w) X.A (f (.int i t) (.int j u)) Q E s) :
  OpR X f (rI0 fun i j=>.bl (g i j)):=by
 intro pins s σ H x y v u Q I rx ry h;obtain⟨i,j,rfl,rfl,q⟩:=h;obtain⟨t,rfl⟩:=rx;obtain⟨t',rfl⟩:=ry;exact rule i j t t' s _ _ ⟨.bl (g i j),H,I,rfl,q⟩
def CC(i j:Int):Prop:=0<j/\j<1073741824
def CMul(i j:Int):Prop:=(-(2^64)<i/\i<2^64)\/(-(2^64)<j/\j<2^64)
theorem CMul.ok{i j:Int}(h:CMul i j):IntMulOk i j:=by
 rcases h with⟨h1,h2⟩|⟨h1,h2⟩
 ·exact .of_left (intBits_le_64 h1 h2)
 ·exact .of_right (intBits_le_64 h1 h2)
theorem Do:OpR X (binaryOp .Add) (rI0 fun i j=>.int (i+j)):=Dm fun _ _ _ _ _ _ _ q=>add_int q
theorem Dx:OpR X (binaryOp .Sub) (rI0 fun i j=>.int (i-j)):=Dm fun _ _ _ _ _ _ _ q=>sub_int q
theorem Dv:OpR X (binaryOp .Mult) (rI CMul fun i j=>.int (i*j)):=opI fun _ _ _ _ _ _ _ hc q=>mul_int q hc.ok
theorem BR:OpR X (binaryOp .FloorDiv) (rI CC fun i j=>.int (i / j)):=opI fun i j _ _ _ _ _ hc q=>by have h1:(0:Int)<j:=hc.1;have h2:j<1073741824:=hc.2;exact floordiv_int (by omega) (by rw[Int.fdiv_eq_ediv_of_nonneg i (by omega)];exact q) (.inl (PyProof.noPylong_small (by omega)))
theorem Du:OpR X (binaryOp .Mod) (rI (fun _ j=>0<j) fun i j=>.int (i%j)):=opI fun i j _ _ _ _ _ hc q=>by have h1:(0:Int)<j:=hc;exact mod_int' (by omega) (by rw[Int.fmod_eq_emod_of_nonneg i (by omega)];exact q)
theorem unI{f:Value->Sem Value}{g:Int->Int}(rule:∀(i:Int) (t:Tok) (s:Shared) (Q:Value->Shared->Prop) (E:Value->Shared->Prop),Q (.int (g i) s.toks) { s with toks:=s.toks+1 }->wpAny (model X.prog X.w) X.A (f (.int i t)) Q E s) :
  UnR X f (rU fun i=>.int (g i)):=by
 intro pins s σ H x v Q I rx h;obtain⟨i,rfl,q⟩:=h;obtain⟨t,rfl⟩:=rx;exact rule i t s _ _ ⟨.int (g i),H,I.tok _,⟨_,rfl⟩,q⟩
theorem EG:UnR X (unaryOp .USub) (rU fun i=>.int (-i)):=unI fun _ _ _ _ _ q=>neg_int q
end
def Er:V->V->Bool
 |.non,.non=>true|.non,.int _=>true|.int _,.non=>true|.non,.bl _=>true|.bl _,.non=>true|.non,.str _=>true|.str _,.non=>true
 |.int _,.int _=>true|.bl _,.bl _=>true|.str _,.str _=>true|.byt _,.byt _=>true
 |.int _,.str _=>true|.str _,.int _=>true|.bl _,.str _=>true|.str _,.bl _=>true
 |_,_=>false
def rEq:R2:=fun x y H Q=>Er x y=true/\Q (.bl (decide (x=y))) H
def rNe:R2:=fun x y H Q=>Er x y=true/\Q (.bl (!decide (x=y))) H
theorem sV{i j:Int}:decide (V.int i=V.int j)=(i==j):=by rw[YF];simp
theorem wM{i j:Bool}:decide (V.bl i=V.bl j)=(i==j):=by rw[YF];simp
theorem sZ{i j:Str}:decide (V.str i=V.str j)=(i==j):=by rw[YF];simp
theorem sU{i j:Array UInt8}:decide (V.byt i=V.byt j)=(i.toList==j.toList):=by rw[YF];cases i;cases j;simp
section
variable{X:Cx}{a b c:Expr}{ta tb tc:TE}{pos:Pos}
theorem aN{pins:List (Addr×Obj)}{σ:St}{H:Hp}{s:Shared}{Q:VK}{k k':Bool}(I:Inv X pins σ H s)(q:Q (.bl k) H)(e:k=k'):EP X pins σ Q (.bool k') s:=by subst e;exact⟨.bl k,H,I,rfl,q⟩
theorem Fa:OpR X (compareOp .Eq) rEq:=by
 intro pins s σ H x y v u Q I rx ry h;obtain⟨hs,q⟩:=h;cases x with
 |non =>
  cases rx;cases y with
  |non=>cases ry;exact PySem.EqNone.eq_none_none (aN I q (by simp))
  |bl j=>cases ry;exact PySem.EqNone.eq_none_bool (aN I q (by simp))
  |int j=>obtain⟨t',rfl⟩:=ry;exact PySem.EqNone.eq_none_int (aN I q (by simp))
  |str j=>obtain⟨t',rfl⟩:=ry;exact PySem.EqNone.eq_none_str (aN I q (by simp))
  |_=>exact absurd (show false=true from hs) Zr
 |bl i =>
  cases rx;cases y with
  |non=>cases ry;exact PySem.EqNone.eq_bool_none (aN I q (by simp))
  |bl j=>cases ry;exact eq_bool (aN I q wM)
  |str j=>obtain⟨t',rfl⟩:=ry;exact PySem.EqMixed.eq_bool_str (aN I q (by simp))
  |_=>exact absurd (show false=true from hs) Zr
 |int i =>
  obtain⟨t,rfl⟩:=rx;cases y with
  |non=>cases ry;exact PySem.EqNone.eq_int_none (aN I q (by simp))
  |int j=>obtain⟨t',rfl⟩:=ry;exact eq_int (aN I q sV)
  |str j=>obtain⟨t',rfl⟩:=ry;exact PySem.EqMixed.eq_int_str (aN I q (by simp))
  |_=>exact absurd (show false=true from hs) Zr
 |str i =>
  obtain⟨t,rfl⟩:=rx;cases y with
  |non=>cases ry;exact PySem.EqNone.eq_str_none (aN I q (by simp))
  |bl j=>cases ry;exact PySem.EqMixed.eq_str_bool (aN I q (by simp))
  |int j=>obtain⟨t',rfl⟩:=ry;exact PySem.EqMixed.eq_str_int (aN I q (by simp))
  |str j=>obtain⟨t',rfl⟩:=ry;exact eq_str (aN I q sZ)
  |_=>exact absurd (show false=true from hs) Zr
 |byt i =>
  obtain⟨t,rfl⟩:=rx;cases y with
  |byt j=>obtain⟨t',rfl⟩:=ry;exact PySem.W.eq_bytes (aN I q sU)
  |_=>exact absurd (show false=true from hs) Zr
 |_=>cases y<;>exact absurd (show false=true from hs) Zr
theorem Ff:OpR X (compareOp .NotEq) rNe:=by
 intro pins s σ H x y v u Q I rx ry h;obtain⟨hs,q⟩:=h;cases x with
 |non =>
  cases rx;cases y with
  |non=>cases ry;exact PySem.EqNone.ne_none_none (aN I q (by simp))
  |bl j=>cases ry;exact PySem.EqNone.ne_none_bool (aN I q (by simp))
  |int j=>obtain⟨t',rfl⟩:=ry;exact PySem.EqNone.ne_none_int (aN I q (by simp))
  |str j=>obtain⟨t',rfl⟩:=ry;exact PySem.EqNone.ne_none_str (aN I q (by simp))
  |_=>exact absurd (show false=true from hs) Zr
 |bl i =>
  cases rx;cases y with
  |non=>cases ry;exact PySem.EqNone.ne_bool_none (aN I q (by simp))
  |bl j=>cases ry;exact ne_bool (aN I q (congrArg not wM))
  |str j=>obtain⟨t',rfl⟩:=ry;exact PySem.EqMixed.ne_bool_str (aN I q (by simp))
  |_=>exact absurd (show false=true from hs) Zr
 |int i =>
  obtain⟨t,rfl⟩:=rx;cases y with
  |non=>cases ry;exact PySem.EqNone.ne_int_none (aN I q (by simp))
  |int j=>obtain⟨t',rfl⟩:=ry;exact ne_int (aN I q (congrArg not sV))
  |str j=>obtain⟨t',rfl⟩:=ry;exact PySem.EqMixed.ne_int_str (aN I q (by simp))
  |_=>exact absurd (show false=true from hs) Zr
 |str i =>
  obtain⟨t,rfl⟩:=rx;cases y with
  |non=>cases ry;exact PySem.EqNone.ne_str_none (aN I q (by simp))
  |bl j=>cases ry;exact PySem.EqMixed.ne_str_bool (aN I q (by simp))
  |int j=>obtain⟨t',rfl⟩:=ry;exact PySem.EqMixed.ne_str_int (aN I q (by simp))
  |str j=>obtain⟨t',rfl⟩:=ry;exact ne_str (aN I q (congrArg not sZ))
  |_=>exact absurd (show false=true from hs) Zr
 |byt i =>
  obtain⟨t,rfl⟩:=rx;cases y with
  |byt j=>obtain⟨t',rfl⟩:=ry;exact PySem.W.ne_bytes (aN I q (congrArg not sU))
  |_=>exact absurd (show false=true from hs) Zr
 |_=>cases y<;>exact absurd (show false=true from hs) Zr
theorem Fe:OpR X (compareOp .Lt) (rI0 fun i j=>.bl (decide (i<j))):=vD fun _ _ _ _ _ _ _ q=>lt_int q
theorem Fd:OpR X (compareOp .LtE) (rI0 fun i j=>.bl (decide (i<=j))):=vD fun _ _ _ _ _ _ _ q=>le_int q
theorem Fc:OpR X (compareOp .Gt) (rI0 fun i j=>.bl (decide (j<i))):=vD fun _ _ _ _ _ _ _ q=>gt_int q
theorem Fb:OpR X (compareOp .GtE) (rI0 fun i j=>.bl (decide (j<=i))):=vD fun _ _ _ _ _ _ _ q=>ge_int q
theorem Dr:OpR X (compareOp .Is) (fun x y H Q=>y=.non/\Q (.bl (decide (x=.non))) H):=by
 intro pins s σ H x y v u Q I rx ry h;obtain⟨rfl,q⟩:=h;cases ry;refine is_none_gen (aN I q ?_);cases x<;>first
  |(cases rx;rfl)
  |(obtain⟨t,rfl⟩:=rx;rfl)
theorem xB(b:Expr){op:CmpOp}(h:op≠.In:=by decide)(h2:op≠.NotIn:=by decide):behindInMarks op b=false:=by
 have e1:(op==CmpOp.In)=false:=by cases op<;>first|rfl|exact absurd rfl h
 have e2:(op==CmpOp.NotIn)=false:=by cases op<;>first|rfl|exact absurd rfl h2
 cases b<;>simp[behindInMarks,e1,e2]
theorem BX{op:CmpOp}{r:R2}(ho:OpR X (compareOp op) r)(ha:PE X a ta)(hb:PE X b tb)(hm:behindInMarks op b=false):PE X (.Compare a [op] [b] pos) (tOp r ta tb):=by intro pins s σ H Q I h;exact wpAny_Compare1 (yP ha hb I h fun v u s2 x y H2 I2 rx ry q=>ho pins s2 σ H2 x y v u Q I2 rx ry q) hm
def mn(t:TE):TT:=fun σ H Q=>t σ H fun x H'=>∃k,x=.bl k/\Q k H'
theorem Cg{op:CmpOp}{r:R2}(ho:OpR X (compareOp op) r)(ha:PE X a ta)(hb:PE X b tb)(hm:behindInMarks op b=false):PT X (.Compare a [op] [b] pos) (mn (tOp r ta tb)):=by
 intro pins s σ H Q I h;refine wpAny_isTrue_Compare1 (thn (ha pins s σ H _ I h) fun v s1 ⟨x,H1,I1,r1,q1⟩=>thn (hb pins s1 σ H1 _ I1 q1) fun u s2 ⟨y,H2,I2,r2,q2⟩ =>
  thn (ho pins s2 σ H2 x y v u _ I2 r1 r2 q2) fun c s3 ⟨z,H3,I3,r3,k,e,q3⟩=>?_) hm
 subst e;cases r3;exact Yc ⟨H3,I3,q3⟩
def ml(r r':R2)(ta tb tc:TE):TE:=fun σ H Q=>ta σ H fun x H1=>tb σ H1 fun y H2=>r x y H2 fun z H3=>∃k,z=.bl k /\
 (if k=true then tc σ H3 fun w' H4=>r' y w' H4 Q else Q (.bl false) H3)
theorem zR{op op':CmpOp}{r r':R2}(ho:OpR X (compareOp op) r)(ho':OpR X (compareOp op') r')(ha:PE X a ta)(hb:PE X b tb)(hc:PE X c tc)(hm:lastMarks [op,op'] [b,c]=false:=by with_unfolding_all rfl):PE X (.Compare a [op,op'] [b,c] pos) (ml r r' ta tb tc):=by
 intro pins s σ H Q I h;refine Compare_chain (thn (ha pins s σ H _ I h) fun v s1 ⟨x,H1,I1,r1,q1⟩=>chain_link (thn (hb pins s1 σ H1 _ I1 q1) fun u s2 ⟨y,H2,I2,r2,q2⟩ =>
  thn (ho pins s2 σ H2 x y v u _ I2 r1 r2 q2) fun d s3 ⟨z,H3,I3,r3,k,e,q3⟩=>?_)) hm
 subst e;cases r3;refine Yc ?_;cases k with
 |false=>exact ite_ff ⟨.bl false,H3,I3,rfl,q3⟩
 |true=>exact ite_tt (chain_last (thn (hc pins s3 σ H3 _ I3 q3) fun w' s4 ⟨z',H4,I4,r4,q4⟩=>ho' pins s4 σ H4 y z' u w' Q I4 r2 r4 q4))
theorem Ac{op op':CmpOp}{r r':R2}(ho:OpR X (compareOp op) r)(ho':OpR X (compareOp op') r')(ha:PE X a ta)(hb:PE X b tb)(hc:PE X c tc)(hm:lastMarks [op,op'] [b,c]=false:=by with_unfolding_all rfl):PT X (.Compare a [op,op'] [b,c] pos) (mn (ml r r' ta tb tc)):=by
 intro pins s σ H Q I h;refine isTrue_chain (thn (ha pins s σ H _ I h) fun v s1 ⟨x,H1,I1,r1,q1⟩=>test_link (thn (hb pins s1 σ H1 _ I1 q1) fun u s2 ⟨y,H2,I2,r2,q2⟩ =>
  thn (ho pins s2 σ H2 x y v u _ I2 r1 r2 q2) fun d s3 ⟨z,H3,I3,r3,k,e,q3⟩=>?_)) hm
 subst e;cases r3;refine Yc ?_;cases k with
 |false =>obtain⟨k',e',q'⟩:=q3;cases e';exact ite_ff ⟨H3,I3,q'⟩
 |true =>refine ite_tt (test_last (thn (hc pins s3 σ H3 _ I3 q3) fun w' s4 ⟨z',H4,I4,r4,q4⟩=>thn (ho' pins s4 σ H4 y z' u w' _ I4 r2 r4 q4) fun d' s5 hz9=>?_));obtain⟨z2,H5,I5,r5,k2,e2,q5⟩:=hz9;subst e2;cases r5;exact Yc ⟨H5,I5,q5⟩
theorem lG:(sizeLine:Nat)<2^63:=by rw[sizeLine_eq];decide
theorem cu{x:V}{us:List Value}(r:Vals [x] us):∃u,us=[u]/\RelV x u:=by
 cases r with
 |cons r1 r2=>cases r2;exact⟨_,rfl,r1⟩
theorem Bj{x y:V}{us:List Value}(r:Vals [x,y] us):∃u w',us=[u,w']/\RelV x u/\RelV y w':=by
 cases r with
 |cons r1 r2 =>
  cases r2 with
  |cons r3 r4=>cases r4;exact⟨_,_,rfl,r1,r3⟩
theorem wB:dO X (.type "int") (fun xs H Q=>(∃i,xs=[.int i]/\Q (.int i) H)\/∃k,xs=[.bl k]/\Q (.int (if k then 1 else 0)) H):=by
 intro pins s σ H xs us Q I r h;rcases h with⟨i,rfl,q⟩|⟨k,rfl,q⟩
 ·obtain⟨u,rfl,t,rfl⟩:=cu r;exact call_int_int ⟨.int i,H,I,⟨_,rfl⟩,q⟩
 ·obtain⟨u,rfl,r1⟩:=cu r;cases r1;exact call_int_bool ⟨.int (if k then 1 else 0),H,I.tok _,⟨_,rfl⟩,q⟩
end
open PySem PySem.Spec PyProof.Rows
structure ObjM(h:Heap)(x dx C:Addr)(mA:Str->Option Value):Prop where
 obj:h.get? x=some (PySem.W.instObj C dx)
 ns:h.Ns1 dx mA
 ne:dx≠x
theorem xx{h:Heap}{dx:Addr}{mA:Str->Option Value}(n:h.Ns1 dx mA):∃od,h.get? dx=some od/\∀name,PySem.W.lookIn name od=some (mA name):=by
 obtain⟨o,es,ep,ho,hd,hk,_,hm⟩:=n;refine⟨o,ho,fun name=>?_⟩;have e:=hm name;unfold nsFind findBy at e;rw[<-Array.find?_toList]at e;unfold PySem.W.lookIn;rw[hd];dsimp only;split
 ·rename_i y q;rw[q]at e;exact congrArg some e
 ·rename_i q;rw[q]at e;have a:es.toList.any (·.refKey)=false:=by rw[List.any_eq_false];intro y hy;obtain⟨z,t,hkey⟩:=hk y (Array.mem_toList_iff.mp hy);simp[DictEntry.refKey,hkey]
  have a':¬es.toList.any (·.refKey)=true:=by rw[a];exact Zr
  rw[if_neg a'];exact congrArg some e
theorem ObjM.look{h:Heap}{x dx C:Addr}{mA:Str->Option Value}(I:ObjM h x dx C mA):∃od,PySem.W.InstAt h x (PySem.W.instObj C dx) C (some od)/\∀name,PySem.W.lookIn name od=some (mA name) :=
 let⟨od,ho,hl⟩:=xx I.ns
 ⟨od,⟨I.obj,rfl,rfl,ho⟩,hl⟩
section
variable{prog:Program}{w:World}{A:Around}{E:Value->Shared->Prop}{s:Shared}{K:PySem.W.Frag}{x dx C f:Addr}{mA:Str->Option Value}{name:Str}{v:Value}
theorem BA{expr:Bool}{Q:Value->Shared->Prop}(X:K.In s.heap)(I:ObjM s.heap x dx C mA)(hg:PySem.W.plainGet K C name=true)(hh:PySem.W.hasDictIn K C=true)(ha:PySem.W.findIn K (.ref C) name=some none)(hv:mA name=some v)(hv':PySem.W.handedIn v=true)(h:Q v { s with toks:=s.toks+1 }) :
  wpAny (model prog w) A (getAttr (.ref x) name expr) Q E s:=by
 obtain⟨od,J,hl⟩:=I.look;exact PySem.W.get_value X J (PySem.W.plainGet_of hg).1 (PySem.W.findObj_own hh ha rfl (by rw[hl,hv])) hv' h
theorem zh{pl:Sem Bool}{Q:Value×List Value->Shared->Prop}(X:K.In s.heap)(I:ObjM s.heap x dx C mA)(hg:PySem.W.plainGet K C name=true)(hf:PySem.W.findIn K (.ref C) name=some (some (.ref f)))(ht:PySem.W.isFn K (.ref f)=true)(hv:mA name=none)(h:Q (.ref f,[.ref x]) s) :
  wpAny (model prog w) A (getMethod (.ref x) name pl) Q E s:=by
 obtain⟨od,J,hl⟩:=I.look;exact PySem.W.method_fn X J (PySem.W.plainGet_of hg).1 (PySem.W.plainGet_of hg).2 hf (YY.mp ht) (by show(PySem.W.lookIn name od).map (·.isSome)=some false;rw[hl,hv];rfl) h
theorem Cm{ns:List Str}{Q:Unit->Shared->Prop}(X:K.In s.heap)(I:ObjM s.heap x dx C mA)(hs:PySem.W.findIn K (.ref C) "__setattr__" = some (some (.builtin "object.__setattr__")))(hp:PySem.W.plainOver K C=true)(ht:PySem.W.takerIn K C name=some none)(hh:PySem.W.hasDictIn K C=true)(hw:PySem.Within mA ns)(hsz:ns.length<=sizeLine)(h:∀h',ObjM h' x dx C (fun y=>if y=name then some v else mA y)->Heap.SameBut dx s.heap h'->Q () { s with heap:=h',toks:=s.toks+2 }) :
  wpAny (model prog w) A (setAttr (.ref x) name v) Q E s:=by
 obtain⟨od,J,hl⟩:=I.look;refine PySem.W.set_plain X J hs (PySem.W.osa_open (s:={ s with toks:=s.toks+1 }) (r:=none) X J hp ht fun b=>?_);obtain⟨cd,hc,hd'⟩:=PySem.W.any_some hh;have hx:s.heap.get? x=some ⟨.ref C,some dx,.plain,#[]⟩:=I.obj;refine z6 (Zd (z6 (z6 (wpAny_loadPart hx (z6 (PySem.W.Looks.here (s:={ s with toks:=s.toks+1 }) (PySem.W.looks_clsIn X hc) ?_))))));rw[hd'];refine Zd (a:=some dx) (z6 (Zd (z6 ?_)));refine wpAny_nsSet1 (s:={ s with toks:=s.toks+1 }) I.ns fun h' hn2 hs2=>?_;obtain⟨oD,esD,epD,hoD,hdD,hcD⟩:=hn2.count (PySem.Within.cons name v hw);refine z6 (wpAny_lookBehind hoD (by rw[hdD];exact pastItsLine_dict (ZV hcD (by rw[Zt];omega))) ?_);exact Zd (h _ ⟨(hs2.2 _ (Yj I.ne)).trans I.obj,hn2,I.ne⟩ hs2)
theorem zA{R:Result->Shared->Prop}{vs:List Value}{kw:List (Str×Value)}(X:K.In s.heap)(hm:PySem.W.makesIn K C=true)(hi:PySem.W.findIn K (.ref C) "__init__" = some (some (.ref f)))(hf:PySem.W.typeIn K (.ref f)=some (.type "function"))(h:codeAny (model prog w) (A.under (.builtin "type.__call__" ⟨.ref C::vs,kw⟩)) (.call (.ref f) ⟨.ref (s.heap.objs.size+1)::vs,kw⟩) (PySem.W.InitBack (s.heap.objs.size+1) R)
   { s with heap:=(s.heap.push PySem.W.emptyDict).push (PySem.W.instObj C s.heap.objs.size) }) :
  codeAny (model prog w) A (.call (.ref C) ⟨vs,kw⟩) R s:=by
 obtain⟨hh,g,d,t,os⟩:=s;exact PySem.W.make_core (PySem.W.makes_of X hm) (PySem.W.looks_findIn X hi) (fun self=>PySem.W.bind_fn X self hf) (.inl rfl) h
end
def cO(f:Str)(v:V):List (Str×V)->List (Str×V)
 | []=>[(f,v)]
 |(g,x)::r=>if g=f then(g,v)::r else(g,x)::cO f v r
theorem ce(f g:Str)(v:V):∀fs:List (Str×V),(cO f v fs).lookup g=if g=f then some v else fs.lookup g
 | []=>by
  show List.lookup g [(f,v)]=_;by_cases h:g=f
  ·have hb:(g==f)=true:=YY.mpr h;simp only[List.lookup,hb,if_pos h]
  ·have hb:(g==f)=false:=beq_eq_false_iff_ne.mpr h;simp only[List.lookup,hb,if_neg h]
 |(k,x)::r=>by
  have ih:=ce f g v r;rw[show cO f v ((k,x)::r)=(if k=f then(k,v)::r else(k,x)::cO f v r)from rfl];by_cases hk:k=f
  ·rw[if_pos hk];by_cases h:g=k
   ·have hb:(g==k)=true:=YY.mpr h;simp only[List.lookup,hb,if_pos (h.trans hk)]
   ·have hb:(g==k)=false:=beq_eq_false_iff_ne.mpr h;simp only[List.lookup,hb,if_neg (fun e:g=f=>h (e.trans hk.symm))]
  ·rw[if_neg hk];by_cases h:g=k
   ·have hb:(g==k)=true:=YY.mpr h;simp only[List.lookup,hb,if_neg (fun e:g=f=>hk (h.symm.trans e))]
   ·have hb:(g==k)=false:=beq_eq_false_iff_ne.mpr h;simp only[List.lookup,hb];exact ih
theorem ja(f:Str)(v:V):∀fs:List (Str×V),f∈(cO f v fs).map (·.1)/\∀g,g∈fs.map (·.1)->g∈(cO f v fs).map (·.1)
 | []=>⟨by simp[cO],fun g h=>by simp at h⟩
 |(k,x)::r=>by
  obtain⟨i1,i2⟩:=ja f v r;rw[show cO f v ((k,x)::r)=(if k=f then(k,v)::r else(k,x)::cO f v r)from rfl];by_cases hk:k=f
  ·rw[if_pos hk];subst hk;exact⟨by simp,fun g h=>by simpa using h⟩
  ·rw[if_neg hk];refine⟨?_,fun g h=>?_⟩
   ·rw[Z0];exact Z2 _ i1
   ·rw[Z0]at h ⊢;rcases Zs.mp h with e|e
    ·exact Zs.mpr (.inl e)
    ·exact Z2 _ (i2 g e)
theorem jT(f:Str)(v:V):∀fs:List (Str×V),(cO f v fs).length<=fs.length+1
 | []=>by simp[cO]
 |(k,x)::r=>by
  have ih:=jT f v r;rw[show cO f v ((k,x)::r)=(if k=f then(k,v)::r else(k,x)::cO f v r)from rfl];by_cases hk:k=f
  ·rw[if_pos hk,Zt,Zt];omega
  ·rw[if_neg hk,Zt,Zt];omega
theorem RelO.some_of{v:V}{o:Option Value}(r:RelO (some v) o):∃u,o=some u/\RelV v u:=by
 cases o with
 |none=>exact(show False from r).elim
 |some u=>exact⟨u,rfl,r⟩
theorem RelO.none_of{o:Option Value}(r:RelO none o):o=none:=by
 cases o with
 |none=>rfl
 |some u=>exact(show False from r).elim
theorem xb{v:V}{u:Value}(r:RelV v u):PySem.W.handedIn u=true:=by
 cases v with
 |non=>cases(show u=Value.none from r);rfl
 |bl b=>cases(show u=Value.bool b from r);rfl
 |int i=>obtain⟨t,e⟩:=(show∃t,u=Value.int i t from r);cases e;rfl
 |str x=>obtain⟨t,e⟩:=(show∃t,u=Value.str x t from r);cases e;rfl
 |byt b=>obtain⟨t,e⟩:=(show∃t,u=Value.bytes b t from r);cases e;rfl
 |flt b=>obtain⟨t,e⟩:=(show∃t,u=Value.float b t from r);cases e;rfl
 |ref a=>cases(show u=Value.ref a from r);rfl
 |ty n=>cases(show u=Value.type n from r);rfl
section
variable{P:Program}{w:World}{H H':Hp}{h h':Heap}{a C dx:Addr}{fs fs':List (Str×V)}
theorem jA(hok:HOk P w H h)(e:H a=some (.ins C dx fs)):∃mA,ObjM h a dx C mA/\(∀f,RelO (fs.lookup f) (mA f))/\PySem.Within mA (fs.map (·.1))/\fs.length<=1000/\H dx=some (.own a):=by
 obtain⟨d,z,ne,ob,mA,n,r,q⟩:=(show ObjOk P w H h a (.ins C dx fs)from hok a _ e)
 exact⟨mA,⟨ob,n,ne⟩,r,q,z,d⟩
end
structure Cls(K:PySem.W.Frag)(C:Addr):Prop where
 pg:PySem.W.plainGet K C Str.empty=true
 hd:PySem.W.hasDictIn K C=true
 po:PySem.W.plainOver K C=true
 sa:PySem.W.findIn K (.ref C) "__setattr__" = some (some (.builtin "object.__setattr__"))
theorem Cls.get{K:PySem.W.Frag}{C:Addr}(c:Cls K C)(f:Str):PySem.W.plainGet K C f=true:=c.pg
def NoAttr(K:PySem.W.Frag)(C:Addr)(f:Str):Prop:=PySem.W.findIn K (.ref C) f=some none
theorem NoAttr.taker{K:PySem.W.Frag}{C:Addr}{f:Str}(n:NoAttr K C f):PySem.W.takerIn K C f=some none:=by unfold PySem.W.takerIn;rw[show PySem.W.findIn K (.ref C) f=some none from n];rfl
structure Con(K:PySem.W.Frag)(C:Addr)(f:Str)(v:V)(u:Value):Prop where
 at_:PySem.W.findIn K (.ref C) f=some (some u)
 rel:RelV v u
 get:PySem.W.specialIn K u "__get__" = some none
 cp:PySem.W.copiedNames.contains f=false
structure Meth(K:PySem.W.Frag)(C:Addr)(m:Str)(f:Addr):Prop where
 at_:PySem.W.findIn K (.ref C) m=some (some (.ref f))
 fn:PySem.W.isFn K (.ref f)=true
 kp:PySem.W.keepIn K (.ref f)=true
section
variable{X:Cx}{pins:List (Addr×Obj)}{σ:St}{H:Hp}{s:Shared}{a C dx:Addr}{fs:List (Str×V)}{f:Str}{v:V}{A:Around}{E:Value->Shared->Prop}
theorem uP{b:Bool}{Q:Value->Shared->Prop}(I:Inv X pins σ H s)(e:H a=some (.ins C dx fs))(c:Cls X.K C)(n:NoAttr X.K C f)(l:fs.lookup f=some v)(h:∀u s',Inv X pins σ H s'->RelV v u->Q u s'):wpAny (model X.prog X.w) A (getAttr (.ref a) f b) Q E s:=by obtain⟨mA,O,r,_,_,_⟩:=jA I.hok e;obtain⟨u,hu,ru⟩:=RelO.some_of (v:=v) (o:=mA f) (by rw[<-l];exact r f);exact BA I.kIn O (c.get f) c.hd n hu (xb ru) (h u _ (I.tok _) ru)
theorem ip{m:Str}{g:Addr}{pl:Sem Bool}{Q:Value×List Value->Shared->Prop}(I:Inv X pins σ H s)(e:H a=some (.ins C dx fs))(c:Cls X.K C)(k:Meth X.K C m g)(l:fs.lookup m=none)(h:Q (.ref g,[.ref a]) s):wpAny (model X.prog X.w) A (getMethod (.ref a) m pl) Q E s:=by obtain⟨mA,O,r,_,_,_⟩:=jA I.hok e;have hn:mA m=none:=RelO.none_of (by rw[<-l];exact r m);exact zh I.kIn O (c.get m) k.at_ k.fn hn h
theorem vS{y:V}{u:Value}{Q:Unit->Shared->Prop}(I:Inv X pins σ H s)(e:H a=some (.ins C dx fs))(c:Cls X.K C)(n:NoAttr X.K C f)(hl:fs.length<1000)(ry:RelV y u)(h:∀s',Inv X pins σ (upd H a (.ins C dx (cO f y fs))) s'->Q () s'):wpAny (model X.prog X.w) A (setAttr (.ref a) f u) Q E s:=by
 obtain⟨mA,O,r,wi,_,ho⟩:=jA I.hok e;have hz:(fs.map (·.1)).length<=sizeLine:=by rw[z9,sizeLine_eq];omega
 refine Cm I.kIn O c.sa c.po n.taker c.hd wi hz fun h' O' sb=>h _ ?_;have hd:∃o,h'.get? dx=some o:=let⟨o,_,_,e',_⟩:=O'.ns;⟨o,e'⟩
 refine I.write (x:=a) (e:=dx) (by rw[e];exact True.intro) (.inr ho) (fun b q hb z=>(sb.2 b hb).trans z) hd ?_;refine⟨by rw[af O.ne];exact ho,?_,O.ne,O'.obj,_,O'.ns,fun g=>?_,fun g hg=>?_⟩
 ·have:=jT f y fs;omega
 ·show RelO ((cO f y fs).lookup g) (if g=f then some u else mA g);rw[ce];by_cases q:g=f
  ·rw[if_pos q,if_pos q];exact ry
  ·rw[if_neg q,if_neg q];exact r g
 ·by_cases q:g=f
  ·rw[q];exact(ja f y fs).1
  ·refine(ja f y fs).2 g (wi g fun z=>hg ?_);show(if g=f then some u else mA g)=none;rw[if_neg q];exact z
theorem Inv.made(I:Inv X pins σ H s):Inv X pins σ (upd (upd H s.heap.objs.size (.own (s.heap.objs.size+1))) (s.heap.objs.size+1) (.ins C s.heap.objs.size []))
  { s with heap:=(s.heap.push PySem.W.emptyDict).push (PySem.W.instObj C s.heap.objs.size) }:=by
 have e1:(s.heap.push PySem.W.emptyDict).get? s.heap.objs.size=some PySem.W.emptyDict:=Zk s.heap rfl;have e2:((s.heap.push PySem.W.emptyDict).push (PySem.W.instObj C s.heap.objs.size)).get? (s.heap.objs.size+1)=some (PySem.W.instObj C s.heap.objs.size):=by
  have:=Zk (s.heap.push PySem.W.emptyDict) (o:=PySem.W.instObj C s.heap.objs.size) rfl
  rwa [YV]at this
 have e3:(s.heap.push PySem.W.emptyDict).Ns s.heap.objs.size (fun _=>none):=⟨PySem.W.emptyDict,#[],_,e1,rfl,(fun e he=>absurd he (by simp)),fun _=>rfl⟩
 have I1:=I.laid (a:=s.heap.objs.size) (o:=.own (s.heap.objs.size+1)) (h':=s.heap.push PySem.W.emptyDict) (t':=s.toks) (fun b u q=>Za _ q) (Ze _) ⟨_,e1⟩;refine I1.laid (a:=s.heap.objs.size+1) (o:=.ins C s.heap.objs.size []) (t':=s.toks) (fun b u q=>Za _ q) (Nat.le_of_eq (YV _ _)) ?_;have ne:s.heap.objs.size≠s.heap.objs.size+1:=ZB (Nat.lt_succ_self _);refine⟨by rw[af ne,ad],ZZ _,ne,e2,fun _=>none,(Heap.Ns1.of_empty e3).at fun o q=>Za _ q,fun _=>True.intro,fun y hy=>absurd rfl hy⟩
theorem Bs{prog:Program}{w:World}{env:Env}{e:Expr}{f:Str}{pos:Pos}{s:Shared}{Q:Value->Shared->Prop}(hb:attributeBase e f env (eval e env)=eval e env)(h:wpAny (model prog w) A (eval e env) (fun o s₁=>wpAny (model prog w) A (getAttr o f true) Q E s₁) E s):wpAny (model prog w) A (eval (.Attribute e f pos) env) Q E s :=
 Attribute_any_ h (by rw[arm_eval_Attribute,hb])
end
def Av(K:PySem.W.Frag)(ta:TE)(f:Str):TE:=fun σ H Q=>ta σ H fun x H1=>∃a C dx fs v,x=.ref a/\H1 a=some (.ins C dx fs)/\Cls K C/\NoAttr K C f/\fs.lookup f=some v/\Q v H1
def En(K:PySem.W.Frag)(ta tv:TE)(f:Str):TS:=fun D σ H=>tv σ H fun y H1=>ta σ H1 fun x H2=>∃a C dx fs,x=.ref a/\H2 a=some (.ins C dx fs)/\Cls K C/\NoAttr K C f/\fs.length<1000 /\
 D.nx σ (upd H2 a (.ins C dx (cO f y fs)))
section
variable{X:Cx}{o e value:Expr}{f:Str}{pos pos' tpos:Pos}{ta tv:TE}
theorem DA(he:PE X e ta)(hb:attributeBase e f X.env (eval e X.env)=eval e X.env):PE X (.Attribute e f pos) (Av X.K ta f):=by intro pins s σ H Q I h;refine Bs hb (thn (he pins s σ H _ I h) fun u s1 hz9=>?_);obtain⟨x,H1,I1,rx,a,C,dx,fs,v,ex,ea,c,n,l,q⟩:=hz9;subst ex;obtain rfl:u=Value.ref a:=rx;exact uP I1 ea c n l fun u' s2 I2 ru=>⟨v,H1,I2,ru,q⟩
theorem DX(ha:PE X o ta)(hv:PE X value tv)(hs:swapsWith value (some (.Attribute o f pos')) pos.line X.env=pure false):PS X (.Assign [.Attribute o f pos'] value pos) (En X.K ta tv f):=by intro pins s σ H D I h;refine plainObj_wpAny_Assign_Attribute (thn (hv pins s σ H _ I h) fun u s1 ⟨y,H1,I1,ry,q⟩=>thn (ha pins s1 σ H1 _ I1 q) fun ov s2 hz9=>?_) hs;obtain⟨x,H2,I2,rx,a,C,dx,fs,ex,ea,c,n,l,q2⟩:=hz9;subst ex;obtain rfl:ov=Value.ref a:=rx;exact vS I2 ea c n l ry fun s3 I3=>⟨σ,_,I3,q2⟩
end
section
variable{X:Cx}{pins:List (Addr×Obj)}{σ:St}{H:Hp}{s:Shared}{A:Around}{E:Value->Shared->Prop}{Q:Value->Shared->Prop}{c:Value}{b:Bool}
inductive TyOf(K:PySem.W.Frag)(H:Hp):V->Value->Prop where
 |non:TyOf K H .non (.type "NoneType")
 |bl (x:Bool):TyOf K H (.bl x) (.type "bool")
 |int (i:Int):TyOf K H (.int i) (.type "int")
 |str (x:Str):TyOf K H (.str x) (.type "str")
 |flt (x:UInt64):TyOf K H (.flt x) (.type "float")
 |lst {a:Addr} {xs:List V} (e:H a=some (.lst xs)):TyOf K H (.ref a) (.type "list")
 |frz {a:Addr} {o:Obj} {xs:List V} (e:H a=some (.frz o (.lst xs))):TyOf K H (.ref a) (.type "list")
 |tup {a:Addr} {xs:List V} (e:H a=some (.tup xs)):TyOf K H (.ref a) (.type "tuple")
 |dK {a:Addr} {kvs:List (Key×V)} (e:H a=some (.dK kvs)):TyOf K H (.ref a) (.type "dict")
 |dT {a:Addr} {kvs:List (List Key×V)} (e:H a=some (.dT kvs)):TyOf K H (.ref a) (.type "dict")
 |ins {a C dx:Addr} {fs:List (Str×V)} (e:H a=some (.ins C dx fs)) (cl:Cls K C) (ha:PySem.W.findIn K (.ref C) "__class__" = some (some (.builtin "object.__class__")))
   (hn:PySem.W.specialIn K (.builtin "object.__class__") "__get__" = some (some (.builtin "getset_descriptor.__get__"))) (htk:PySem.W.takesIn K (.builtin "object.__class__")=some true)
   (hm:PySem.W.mroIn K C (.type "object")=some true):TyOf K H (.ref a) (.ref C)
theorem xh{x:V}{u t:Value}(I:Inv X pins σ H s)(rx:RelV x u)(ty:TyOf X.K H x t)(e:PySem.W.kitOne X.K t c=some b)(h:∀tk,Q (.bool b) { s with toks:=tk }) :
  wpAny (model X.prog X.w) A (call (.builtin "isinstance") [u,c]) Q E s:=by
 cases ty with
 |non=>cases(show u=Value.none from rx);exact Yy PySem.W.kitx_none I.kIn True.intro e (fun z=>nomatch z) h
 |bl y=>cases(show u=Value.bool y from rx);exact Yy PySem.W.kitx_bool I.kIn True.intro e (fun z=>nomatch z) h
 |int i=>obtain⟨t,q⟩:=(show∃t,u=Value.int i t from rx);cases q;exact Yy PySem.W.kitx_int I.kIn True.intro e (fun z=>nomatch z) h
 |str y=>obtain⟨t,q⟩:=(show∃t,u=Value.str y t from rx);cases q;exact Yy PySem.W.kitx_str I.kIn True.intro e (fun z=>nomatch z) h
 |flt y=>obtain⟨t,q⟩:=(show∃t,u=Value.float y t from rx);cases q;exact Yy PySem.W.kitx_float I.kIn True.intro e (fun z=>nomatch z) h
 |@lst a xs ea =>
  cases(show u=Value.ref a from rx);obtain⟨_,_,n,_,h1⟩:=(show ObjOk X.prog X.w H s.heap a (.lst xs)from I.hok a _ ea)
  exact Yy PySem.W.kitx_list I.kIn ⟨_,h1,rfl⟩ e (fun z=>nomatch z) h
 |@frz a ob xs ea =>
  cases(show u=Value.ref a from rx);obtain⟨_,_,_,n,_,h1⟩:=(show ObjOk X.prog X.w H s.heap a (.frz ob (.lst xs))from I.hok a _ ea)
  exact Yy PySem.W.kitx_list I.kIn ⟨_,h1,rfl⟩ e (fun z=>nomatch z) h
 |@tup a xs ea =>
  cases(show u=Value.ref a from rx);obtain⟨_,_,_,p⟩:=(show ObjOk X.prog X.w H s.heap a (.tup xs)from I.hok a _ ea)
  obtain⟨o,h1,h2,_⟩:=p;exact Yy PySem.W.kitx_tuple I.kIn ⟨o,h1,h2⟩ e (fun z=>nomatch z) h
 |@dK a kvs ea =>
  cases(show u=Value.ref a from rx);obtain⟨_,_,vs,_,p⟩:=(show ObjOk X.prog X.w H s.heap a (.dK kvs)from I.hok a _ ea)
  obtain⟨o,es,ep,h1,h2,_⟩:=p;exact Yy PySem.W.kitx_dict I.kIn ⟨o,h1,h2.1⟩ e (fun z=>nomatch z) h
 |@dT a kvs ea =>
  cases(show u=Value.ref a from rx);obtain⟨_,_,xs,_,o,es,ep,h1,h2,_⟩:=(show ObjOk X.prog X.w H s.heap a (.dT kvs)from I.hok a _ ea)
  exact Yy PySem.W.kitx_dict I.kIn ⟨o,h1,h2.1⟩ e (fun z=>nomatch z) h
 |@ins a C dx fs ea cl ha hn htk hm =>cases(show u=Value.ref a from rx);obtain⟨mA,O,_⟩:=jA I.hok ea;obtain⟨od,J,_⟩:=O.look;exact Yy (PySem.W.kitx_own (cl.get _) cl.hd ha hn htk hm) I.kIn J e (fun z=>nomatch z) h
end
open PySem PySem.Spec PyProof.Rows
structure Room(k:Nat)(A:Around):Prop where
 hd:A.handled=none
 dp:A.depth+3*k+5<recursionLimit
 un:A.units+16*k+200<cLine
theorem Room.mono{j k:Nat}{A:Around}(r:Room k A)(h:j<=k):Room j A:=⟨r.hd,by have:=r.dp;omega,by have:=r.un;omega⟩
theorem Room.deeper{k:Nat}{A:Around}(r:Room (k+1) A)(env:Env):Room k (A.deeper env) :=
 ⟨r.hd,by have:=r.dp;show A.depth+1+3*k+5<_;omega,by have:=r.un;show A.units+3+16*k+200<_;omega⟩
theorem Room.in1{k:Nat}{A:Around}(r:Room (k+1) A):Room k A.in1 :=
 ⟨r.hd,by have:=r.dp;show A.depth+3*k+5<_;omega,by have:=r.un;show A.units+1+16*k+200<_;omega⟩
theorem va{A:Around}{C:Addr}{us:List Value}{kw:List (Str×Value)}:(A.under (.builtin "type.__call__" ⟨.ref C::us,kw⟩)).depth=A.depth+1:=by
 first|rfl|simp[Around.under,Code.weight,Code.isCreation,Code.isGuard,Code.isCaller,Code.frames,Code.isFrame,guardIds]
theorem vb{A:Around}{C:Addr}{us:List Value}{kw:List (Str×Value)}:(A.under (.builtin "type.__call__" ⟨.ref C::us,kw⟩)).units=A.units+1:=by
 first|rfl|simp[Around.under,Code.cUnits,Code.frames,Code.isFrame]
theorem Room.make{k:Nat}{A:Around}(r:Room (k+1) A)(C:Addr)(us:List Value)(kw:List (Str×Value)):Room k (A.under (.builtin "type.__call__" ⟨.ref C::us,kw⟩)) :=
 ⟨r.hd,by have:=r.dp;rw[va];omega,by have:=r.un;rw[vb];omega⟩
theorem Room.depth{k:Nat}{A:Around}(r:Room k A):A.depth<recursionLimit:=by have:=r.dp;omega
theorem Room.units{k:Nat}{A:Around}(r:Room k A):A.units+64<cLine:=by have:=r.un;omega
def gK:TA:=fun _ H Q=>Q [] H
def eZ(ta:TE)(tr:TA):TA:=fun σ H Q=>ta σ H fun x H1=>tr σ H1 fun xs H2=>Q (x::xs) H2
section
variable{X:Cx}{e:Expr}{es:List Expr}{te:TE}{t:TA}{pos:Pos}
theorem xL:PA X [] gK:=fun _ _ _ _ H Q I h=>Calls.spliced_nil ⟨[],H,I,.nil,h⟩
theorem BU(ha:PE X e te)(hr:PA X es t)(hs:starEach (e::es) X.env=(false,eval e X.env)::starEach es X.env:=by rfl):PA X (e::es) (eZ te t):=by intro pos pins s σ H Q I h;rw[hs];show wpAny _ _ (spliced ((false,eval e X.env)::backTo pos (starEach es X.env))) _ _ s;refine Calls.spliced_cons (thn (ha pins s σ H _ I h) fun u s1 hz9=>?_);obtain⟨x,H1,I1,r1,q1⟩:=hz9;exact thn (hr pos pins s1 σ H1 _ I1 q1) fun us s2 ⟨xs,H2,I2,r2,q2⟩=>⟨x::xs,H2,I2,.cons r1 r2,q2⟩
def Ax(t:TA):TE:=fun σ H Q=>t σ H fun xs H1=>xs.length<=sizeLine/\∀p,H1 p=none->Q (.ref p) (upd H1 p (.tup xs))
def Ex(t:TA):TE:=fun σ H Q=>t σ H fun xs H1=>xs.length<=sizeLine/\∀p,H1 p=none->Q (.ref p) (upd H1 p (.lst xs))
theorem DI{x1}(h:PA X es t):PE X (.Tuple es x1 pos) (Ax t):=by intro pins s σ H Q I hq;refine wpAny_Tuple_spliced (thn (h pos pins s σ H _ I hq) fun us s1 ⟨xs,H1,I1,r,z,q⟩=>⟨by rw[<-r.length];exact z,?_⟩);have hf:H1 s1.heap.objs.size=none:=I1.hok.fresh (Ze _);refine⟨.ref s1.heap.objs.size,upd H1 s1.heap.objs.size (.tup xs),I1.laid (t':=s1.toks) (fun b u e=>Za _ e) (Ze _) ?_,rfl,q _ hf⟩;exact⟨z,us,r,⟨_,Zk _ rfl,rfl,_,rfl⟩⟩
theorem DC(h:PA X es t):PE X (.List es pos) (Ex t):=by intro pins s σ H Q I hq;refine wpAny_List_spliced (thn (h pos pins s σ H _ I hq) fun us s1 ⟨xs,H1,I1,r,z,q⟩=>⟨by rw[<-r.length];exact z,?_⟩);have hf:H1 s1.heap.objs.size=none:=I1.hok.fresh (Ze _);refine⟨.ref s1.heap.objs.size,upd H1 s1.heap.objs.size (.lst xs),I1.laid (t':=s1.toks) (fun b u e=>Za _ e) (Ze _) ?_,rfl,q _ hf⟩;exact⟨z,us,0,r,Zk _ rfl⟩
end
abbrev Sp:=List V->Hp->VK->XK->Prop
abbrev CXT:=List Env->Hp->Shared->XK->Value->Shared->Prop
structure Env0(P:Program)(w:World)(K:PySem.W.Frag)(mg:Str->Option Value)(base:Heap)(A:Around)(outer:List Env)(s:Shared)(H:Hp):Prop where
 frames:A.frames=some outer
 mod:Mod K mg base
 bs:∀b o,base.get? b=some o->s.heap.get? b=some o/\H b=none
 bsz:base.objs.size<=s.heap.objs.size
 funs:s.heap.FunFrames base outer
 frf:∀b∈frs outer,H b=none
 hok:HOk P w H s.heap
 bare:AllBare s.gens
def CE(outer:List Env)(P:Program)(w:World)(H:Hp)(s:Shared)(Q:VK)(u:Value)(s':Shared):Prop :=
 ∃v H',s'.os=s.os/\AllBare s'.gens/\Un (frs outer) [] H H' s.heap s'.heap/\HOk P w H' s'.heap/\RelV v u/\Q v H'
def CR(CX:CXT)(outer:List Env)(P:Program)(w:World)(H:Hp)(s:Shared)(Q:VK)(E:XK)(r:Result)(s':Shared):Prop :=
 match r with
 |.ok (.ret u)=>CE outer P w H s Q u s'
 |.ok _=>False
 |.error e=>CX outer H s E e s'
structure FnOk(P:Program)(w:World)(K:PySem.W.Frag)(mg:Str->Option Value)(base:Heap)(CX:CXT)(k:Nat)(f:Addr)(fd:FuncData)(ps:List Str)(sp:Sp):Prop where
 len:∀vs H Q E,sp vs H Q E->vs.length=ps.length
 run:∀(A:Around) (outer:List Env) (s:Shared) (H:Hp) (args:Args) (us:List Value) (vs:List V) (Q:VK) (E:XK),Room k A->Env0 P w K mg base A outer s H->BindsTo s fd args (ps.zip us)->Vals vs us->sp vs H Q E ->
  codeAny (model P w) A (.call (.ref f) args) (CR CX outer P w H s Q E) s
theorem Env0.make{P:Program}{w:World}{K:PySem.W.Frag}{mg:Str->Option Value}{base:Heap}{A:Around}{outer:List Env}{s:Shared}{H:Hp}(e:Env0 P w K mg base A outer s H)(C:Addr)(us:List Value)(kw:List (Str×Value)) :
  Env0 P w K mg base (A.under (.builtin "type.__call__" ⟨.ref C::us,kw⟩)) outer s H:=⟨by first|exact e.frames|(simpa[Around.under,Code.envs,Code.isFrame,pushEnvs]using e.frames),e.mod,e.bs,e.bsz,e.funs,e.frf,e.hok,e.bare⟩
section
variable{X:Cx}{pins:List (Addr×Obj)}{σ:St}{H:Hp}{s s':Shared}
theorem Inv.env0(I:Inv X pins σ H s):Env0 X.prog X.w X.K X.mg X.base X.A X.stack s H :=
 ⟨I.ok.frames,I.ok.mod,I.bs,ZV I.ok.bsz I.sz,I.stack,I.stkFree,I.hok,I.bare⟩
theorem Inv.after{Q:VK}{u:Value}(I:Inv X pins σ H s)(h:CE X.stack X.prog X.w H s Q u s'):EP X pins σ Q u s':=by obtain⟨v,H',os,bare,un,hok,r,q⟩:=h;obtain⟨hh,g,d,t,os'⟩:=s';obtain rfl:os'=s.os:=os;exact⟨v,H',I.call (h':=hh) (g':=g) (d':=d) (t':=t) (ch:=[]) un hok bare (fun b z=>absurd z (by simp)),r,q⟩
end
def pI(sp:Sp)(dvs:List V)(E:XK)(t:TA):TE:=fun σ H Q=>t σ H fun vs H1=>sp (vs++dvs) H1 Q E
def pK(C:Addr)(m:Str)(sp:Sp)(dvs:List V)(E:XK)(ta:TE)(t:TA):TE:=fun σ H Q=>ta σ H fun x H1=>∃a dx fs,x=.ref a/\H1 a=some (.ins C dx fs)/\fs.lookup m=none /\
 t σ H1 fun vs H2=>sp (x::(vs++dvs)) H2 Q E
def Bf(C:Addr)(sp:Sp)(dvs:List V)(E:XK)(t:TA):TE:=fun σ H Q=>t σ H fun vs H1=>∀x dx,H1 x=none->H1 dx=none->dx≠x ->
 sp (.ref x::(vs++dvs)) (upd (upd H1 dx (.own x)) x (.ins C dx [])) (fun v H2=>v=.non/\Q (.ref x) H2) E
def Binds(K:PySem.W.Frag)(fd:FuncData)(ps:List Str)(ds:List Value):Prop :=
 ∀(s:Shared) (us:List Value),K.In s.heap->(us++ds).length=ps.length->BindsTo s fd ⟨us,[]⟩ (ps.zip (us++ds))
theorem Binds.all{K:PySem.W.Frag}{fd:FuncData}{ps:List Str}(h:∀us:List Value,us.length=ps.length->bindArgs fd ⟨us,[]⟩=pure (ps.zip us)):Binds K fd ps []:=fun s us _ hl=>by rw[ZF]at hl ⊢;exact .of_eq (h us hl)
def fQ(CX:CXT)(X:Cx)(E:XK):Prop:=∀(pins:List (Addr×Obj)) (σ:St) (H:Hp) (s:Shared) (e:Value) (s':Shared),Inv X pins σ H s->CX X.stack H s E e s'->X.xe e s'
section
variable{X:Cx}{CX:CXT}{k:Nat}{f C:Addr}{fd:FuncData}{ps:List Str}{sp:Sp}{dvs:List V}{ds:List Value}{E:XK}{x m:Str}{p pos apos:Pos}{e o:Expr}{es:List Expr}{ta:TE}{t:TA}
theorem rc{pins:List (Addr×Obj)}{σ:St}{H:Hp}{s:Shared}{Q:VK}{us:List Value}{vs:List V}(F:FnOk X.prog X.w X.K X.mg X.base CX k f fd ps sp)(hr:Room k X.A)(hb:Binds X.K fd ps ds)(hd:Vals dvs ds)(hx:fQ CX X E)(I:Inv X pins σ H s)(r:Vals vs us)(h:sp (vs++dvs) H Q E):wpAny (model X.prog X.w) X.A (call (.ref f) us) (EP X pins σ Q) X.xe s:=by
 have r2:Vals (vs++dvs) (us++ds):=r.append hd;have hl:(us++ds).length=ps.length:=by rw[<-r2.length];exact F.len _ _ _ _ h
 refine wpAny_call (codeAny_mono (F.run X.A X.stack s H ⟨us,[]⟩ (us++ds) (vs++dvs) Q E hr I.env0 (hb s us I.kIn hl) r2 h) fun r s' hq=>?_);cases r with
 |error e=>exact hx pins σ H s e s' I hq
 |ok fl =>
  cases fl with
  |ret u=>exact I.after hq
  |next=>exact False.elim hq
  |brk=>exact False.elim hq
  |cont=>exact False.elim hq
theorem BW(F:FnOk X.prog X.w X.K X.mg X.base CX k f fd ps sp)(hr:Room k X.A)(hg:Gl X x)(hm:X.mg x=some (.ref f))(hk:PySem.W.keepIn X.K (.ref f)=true)(hb:Binds X.K fd ps ds)(hd:Vals dvs ds)(hx:fQ CX X E)(ha:PA X (e::es) t)(hdb:(x==("__debug__":Str))=false:=by decide)(he:starEach (e::es) X.env=(false,eval e X.env)::starEach es X.env:=by rfl)(hpl:(backTo pos (starEach es X.env)).any (·.1)=false:=by rfl) :
  PE X (.Call (.Name x p) (e::es) [] pos) (pI sp dvs E t):=by
 intro pins s σ H Q I h;refine Y9 (jD I hg hm ?_ hdb);refine PySem.W.callWith_K (h₀:=X.base) I.ok.mod.kin hk (thn (ha pos pins s σ H _ I h) fun us s1 ⟨vs,H1,I1,r,q⟩=>⟨I1.kIn,?_⟩) he hpl;exact rc F hr hb hd hx I1 r q
theorem B4{pl:Sem Bool}(he:PE X o ta)(c:Cls X.K C)(hm:Meth X.K C m f)(F:FnOk X.prog X.w X.K X.mg X.base CX k f fd ps sp)(hr:Room k X.A)(hb:Binds X.K fd ps ds)(hd:Vals dvs ds)(hx:fQ CX X E)(ha:PA X (e::es) t)(hst:starEach (e::es) X.env=(false,eval e X.env)::starEach es X.env:=by rfl)(hpl:(backTo pos (starEach es X.env)).any (·.1)=false:=by rfl)(ht:eval (.Call (.Attribute o m apos) (e::es) [] pos) X.env=(do
   let ov ←eval o X.env
   standAt apos.atName
   let(f,first) ←holding [ov] (getMethod ov m pl)
   callWith pos f first (backTo pos (starEach (e::es) X.env)) (backToKw pos (keywordEach [] X.env))):=by rfl) :
  PE X (.Call (.Attribute o m apos) (e::es) [] pos) (pK C m sp dvs E ta t):=by
 intro pins s σ H Q I h;refine PySem.W.methodCall_KW (pl:=pl) (thn (he pins s σ H _ I h) fun u s1 hz9=>?_) ht;obtain⟨x,H1,I1,rx,a,dx,fs,ex,ea,l,q⟩:=hz9;subst ex;obtain rfl:u=Value.ref a:=rx;refine ip I1 ea c hm l ?_;refine PySem.W.callWith_K (first:=[.ref a]) (h₀:=X.base) I.ok.mod.kin hm.kp (thn (ha pos pins s1 σ H1 _ I1 q) fun us s2 ⟨vs,H2,I2,r,q2⟩=>⟨I2.kIn,?_⟩) hst hpl;exact rc (us:=.ref a::us) (vs:=.ref a::vs) F hr hb hd hx I2 (.cons rfl r) q2
theorem zU{pl:Sem Bool}(he:PE X o ta)(c:Cls X.K C)(hm:Meth X.K C m f)(F:FnOk X.prog X.w X.K X.mg X.base CX k f fd ps sp)(hr:Room k X.A)(hb:Binds X.K fd ps ds)(hd:Vals dvs ds)(hx:fQ CX X E)(ht:eval (.Call (.Attribute o m apos) [] [] pos) X.env=(do
   let ov ←eval o X.env
   standAt apos.atName
   let(f,first) ←holding [ov] (getMethod ov m pl)
   callWith pos f first (backTo pos (starEach [] X.env)) (backToKw pos (keywordEach [] X.env))):=by rfl) :
  PE X (.Call (.Attribute o m apos) [] [] pos) (pK C m sp dvs E ta gK):=by
 intro pins s σ H Q I h;refine PySem.W.methodCall_KW (pl:=pl) (thn (he pins s σ H _ I h) fun u s1 hz9=>?_) ht;obtain⟨x,H1,I1,rx,a,dx,fs,ex,ea,l,q⟩:=hz9;subst ex;obtain rfl:u=Value.ref a:=rx;refine ip I1 ea c hm l ?_;exact PySem.W.callWith_K0 (first:=[.ref a]) I1.kIn hm.kp (rc (us:=[.ref a]) (vs:=[.ref a]) F hr hb hd hx I1 (.cons rfl .nil) q)
structure Mk(K:PySem.W.Frag)(C f:Addr):Prop where
 makes:PySem.W.makesIn K C=true
 init:PySem.W.findIn K (.ref C) "__init__" = some (some (.ref f))
 fn:PySem.W.isFn K (.ref f)=true
 kp:PySem.W.keepIn K (.ref C)=true
theorem Ap{pins:List (Addr×Obj)}{σ:St}{H:Hp}{s:Shared}{Q:VK}{us:List Value}{vs:List V}(M:Mk X.K C f)(F:FnOk X.prog X.w X.K X.mg X.base CX k f fd ps sp)(hr:Room (k+1) X.A)(hb:Binds X.K fd ps ds)(hd:Vals dvs ds)(hx:fQ CX X E)(I:Inv X pins σ H s)(r:Vals vs us)(h:∀x dx,H x=none->H dx=none->dx≠x->sp (.ref x::(vs++dvs)) (upd (upd H dx (.own x)) x (.ins C dx [])) (fun v H2=>v=.non/\Q (.ref x) H2) E) :
  wpAny (model X.prog X.w) X.A (call (.ref C) us) (EP X pins σ Q) X.xe s:=by
 have hq:=h (s.heap.objs.size+1) s.heap.objs.size (I.hok.fresh (Nat.le_succ _)) (I.hok.fresh (Ze _)) (ZB (Nat.lt_succ_self _));have I2:=Inv.made (C:=C) I;have r2:Vals (V.ref (s.heap.objs.size+1)::(vs++dvs)) (Value.ref (s.heap.objs.size+1)::(us++ds)):=.cons rfl (r.append hd);have hl:(Value.ref (s.heap.objs.size+1)::us++ds).length=ps.length:=by have e:=r2.length;rw[F.len _ _ _ _ hq]at e;exact e.symm
 refine wpAny_call (zA (f:=f) I.kIn M.makes M.init (YY.mp M.fn) (codeAny_mono (F.run _ X.stack _ _ ⟨Value.ref (s.heap.objs.size+1)::us,[]⟩ (Value.ref (s.heap.objs.size+1)::(us++ds)) _ _ E (hr.make C us [])
  (I2.env0.make C us []) (hb _ (Value.ref (s.heap.objs.size+1)::us) I2.kIn hl) r2 hq) fun r s' hq'=>?_))
 cases r with
 |error e=>exact hx pins σ _ _ e s' I2 hq'
 |ok fl =>
  cases fl with
  |ret u =>obtain⟨v,H',I3,rv,ev,q3⟩:=I2.after hq';subst ev;exact⟨rv,⟨V.ref (s.heap.objs.size+1),H',I3,rfl,q3⟩⟩
  |next=>exact False.elim hq'
  |brk=>exact False.elim hq'
  |cont=>exact False.elim hq'
theorem B3(M:Mk X.K C f)(F:FnOk X.prog X.w X.K X.mg X.base CX k f fd ps sp)(hr:Room (k+1) X.A)(hg:Gl X x)(hm:X.mg x=some (.ref C))(hb:Binds X.K fd ps ds)(hd:Vals dvs ds)(hx:fQ CX X E)(ha:PA X (e::es) t)(hdb:(x==("__debug__":Str))=false:=by decide)(he:starEach (e::es) X.env=(false,eval e X.env)::starEach es X.env:=by rfl)(hpl:(backTo pos (starEach es X.env)).any (·.1)=false:=by rfl) :
  PE X (.Call (.Name x p) (e::es) [] pos) (Bf C sp dvs E t):=by
 intro pins s σ H Q I h;refine Y9 (jD I hg hm ?_ hdb);refine PySem.W.callWith_K (h₀:=X.base) I.ok.mod.kin M.kp (thn (ha pos pins s σ H _ I h) fun us s1 ⟨vs,H1,I1,r,q⟩=>⟨I1.kIn,?_⟩) he hpl;exact Ap M F hr hb hd hx I1 r q
end
def PK(X:Cx)(kws:List Keyword)(t:TA):Prop :=
 ∀(pos:Pos) (pins:List (Addr×Obj)) (s:Shared) (σ:St) (H:Hp) (Q:List V->Hp->Prop),Inv X pins σ H s->t σ H Q->wpAny (model X.prog X.w) X.A (evalAll ((backToKw pos (keywordEach kws X.env)).map (·.2))) (AP X pins σ Q) X.xe s
section
variable{X:Cx}{CX:CXT}{k:Nat}{f C:Addr}{fd:FuncData}{ps ks:List Str}{sp:Sp}{E:XK}{x m:Str}{p pos apos kpos:Pos}{e o:Expr}{es:List Expr}{kws:List Keyword}{te ta:TE}{t tk:TA}{nm:Option Str}
theorem xQ:PK X [] gK:=fun _ _ _ _ H Q I h=>wpAny_evalAll_nil ⟨[],H,I,.nil,h⟩
theorem tS(ha:PE X e te)(hr:PK X kws t):PK X (⟨nm,e,kpos⟩::kws) (eZ te t):=by intro pos pins s σ H Q I h;show wpAny _ _ (evalAll ((do let v ←eval e X.env;standAt pos;pure v)::(backToKw pos (keywordEach kws X.env)).map (·.2))) _ _ s;refine wpAny_evalAll_cons (z6 (thn (ha pins s σ H _ I h) fun u s1 ⟨x,H1,I1,r1,q1⟩=>z6 (wpAny_standAt (Zd ?_))));exact thn (hr pos pins s1 σ H1 _ I1 q1) fun us s2 ⟨xs,H2,I2,r2,q2⟩=>⟨x::xs,H2,I2,.cons r1 r2,q2⟩
structure KBinds(K:PySem.W.Frag)(fd:FuncData)(ps ks:List Str)(g:List Value->List Value->List Value)(gV:List V->List V->List V):Prop where
 to:∀(s:Shared) (us ws:List Value),K.In s.heap->(g us ws).length=ps.length->BindsTo s fd ⟨us,ks.zip ws⟩ (ps.zip (g us ws))
 rel:∀{vs:List V} {us:List Value} {zs:List V} {ws:List Value},Vals vs us->Vals zs ws->Vals (gV vs zs) (g us ws)
variable{g:List Value->List Value->List Value}{gV:List V->List V->List V}
end
structure FnScope(N P:List Str)(sc:Scope):Prop where
 kind:sc.kind=.function
 co:sc.isCoroutine=false
 gen:sc.isGenerator=false
 nd:N.Nodup
 pre:N.take P.length=P
 par:∀x∈P,sc.names.lookup x=some .local\/sc.names.lookup x=some .cell
 nofree:∀y∈sc.names,y.2≠.free
theorem ot{kindOf:Str->Option NameKind}{x:Str}:∀{binds:List (Str×Value)} {m:Str->Option Value},(∀v,(x,v)∉binds)->bindL kindOf binds m x=m x
 | [],_,_=>rfl
 |(n,v)::r,m,h=>by
  unfold bindL;rw[ot fun w hw=>h w (Z2 _ hw)];split
  ·have:x≠n:=by rintro rfl;exact h v Yn
   simp[this]
  ·rfl
theorem on{kindOf:Str->Option NameKind}{x:Str}:∀{binds:List (Str×Value)} {m:Str->Option Value},(∀v,(x,v)∉binds)->bindC kindOf binds m x=m x
 | [],_,_=>rfl
 |(n,v)::r,m,h=>by
  unfold bindC;rw[on fun w hw=>h w (Z2 _ hw)];split
  ·rfl
  ·have:x≠n:=by rintro rfl;exact h v Yn
   simp[this]
theorem oq{kindOf:Str->Option NameKind}{x:Str}{v:Value}:∀{P:List Str} {vs:List Value} {i:Nat} {m:Str->Option Value},P.Nodup->P[i]?=some x->vs[i]?=some v->kindOf x=some .local ->
  bindL kindOf (P.zip vs) m x=some v
 | [],_,_,_,_,h,_,_=>by simp at h
 |_::_,[],_,_,_,_,h,_=>by simp at h
 |p::P,w::vs,0,m,nd,h1,h2,hk=>by simp at h1 h2;subst h1;subst h2;show bindL kindOf ((p,w)::P.zip vs) m p=_;unfold bindL;rw[ot fun v hv=>(List.nodup_cons.mp nd).1 (List.of_mem_zip hv).1,if_pos hk];simp
 |p::P,w::vs,i+1,m,nd,h1,h2,hk=>by show bindL kindOf ((p,w)::P.zip vs) m x=_;unfold bindL;exact oq (i:=i) (List.nodup_cons.mp nd).2 (by simpa using h1) (by simpa using h2) hk
theorem om{kindOf:Str->Option NameKind}{x:Str}{v:Value}:∀{P:List Str} {vs:List Value} {i:Nat} {m:Str->Option Value},P.Nodup->P[i]?=some x->vs[i]?=some v->kindOf x≠some .local ->
  bindC kindOf (P.zip vs) m x=some v
 | [],_,_,_,_,h,_,_=>by simp at h
 |_::_,[],_,_,_,_,h,_=>by simp at h
 |p::P,w::vs,0,m,nd,h1,h2,hk=>by simp at h1 h2;subst h1;subst h2;show bindC kindOf ((p,w)::P.zip vs) m p=_;unfold bindC;rw[on fun v hv=>(List.nodup_cons.mp nd).1 (List.of_mem_zip hv).1,if_neg hk];simp
 |p::P,w::vs,i+1,m,nd,h1,h2,hk=>by show bindC kindOf ((p,w)::P.zip vs) m x=_;unfold bindC;exact om (i:=i) (List.nodup_cons.mp nd).2 (by simpa using h1) (by simpa using h2) hk
def start(N:List Str)(vs:List V):St:=vs.map some++List.replicate (N.length-vs.length) none
def fi(CX:CXT)(P:Program)(w:World)(K:PySem.W.Frag)(mg:Str->Option Value)(base:Heap)(N:List Str)(qual:Str)(scope:Scope)(f:Addr)(cd:Value)(A:Around)(outer:List Env)(s:Shared)(H:Hp)(E:XK):Cx where
 prog:=P
 w:=w
 K:=K
 mg:=mg
 base:=base
 A:=A.deeper (envOfC qual scope s.heap.objs.size f cd)
 N:=N
 s₀:=s
 H₀:=H
 env:=envOfC qual scope s.heap.objs.size f cd
 outer:=outer
 stack:=envOfC qual scope s.heap.objs.size f cd::outer
 ex:=[]
 calm:=true
 fn:=fun _=>true
 pn:=[]
 xe:=fun e s'=>wpAny (model P w) (A.deeper (envOfC qual scope s.heap.objs.size f cd)) (leaving (envOfC qual scope s.heap.objs.size f cd) e) (fun _ s''=>CX outer H s E e s'') (fun e' s''=>CX outer H s E e' s'') s'
theorem qg{sc:Scope}{n:Nat}{x:Str}(h:sc.names.lookup x=some .cell):∃c,(cellsFrom n sc.names []).lookup x=some c:=by have q:=PySem.W.cellsFrom_some sc.names n [] (.inl h);exact Option.isSome_iff_exists.mp q
theorem oF{CX:CXT}{P:Program}{w:World}{K:PySem.W.Frag}{mg:Str->Option Value}{base:Heap}{N ps:List Str}{qual:Str}{scope:Scope}{f:Addr}{cd:Value}{A:Around}{outer:List Env}{s s1:Shared}{H:Hp}{E:XK}{us:List Value}{vs:List V}(S:FnScope N ps scope)(hd:A.handled=none)(e0:Env0 P w K mg base A outer s H)(hl:vs.length=ps.length)(r:Vals vs us)(x:InCallC s s.heap.objs.size (bindL (envOfC qual scope s.heap.objs.size f cd).kindOf (ps.zip us) fun _=>none) (cellsFrom (s.heap.objs.size+1) scope.names []) (bindC (envOfC qual scope s.heap.objs.size f cd).kindOf (ps.zip us) fun _=>none) s1) :
  Inv (fi CX P w K mg base N qual scope f cd A outer s H E) [] (start N vs) H s1:=by
 have hpl:ps.length<=N.length:=by have:=congrArg List.length S.pre;rw[ZE]at this;omega
 obtain⟨h1,tk,rfl,hk⟩:=x.done;have noA:∀b:Addr,b∉(fi CX P w K mg base N qual scope f cd A outer s H E).ex:=fun b z=>absurd (show b∈([]:List Addr)from z) (by simp);refine⟨⟨e0.mod,S.kind,rfl,rfl,Ze _,fun y z c h1 h2=>?_,fun y hy=>?_,fun y c _ h=>?_,fun _=>hd,Around.frames_deeper e0.frames,.inr ⟨rfl,rfl⟩,fun b z=>absurd z (noA b),e0.bs,e0.bsz,fun b _ _=>noA b,fun b z=>absurd z (noA b),e0.funs,e0.frf⟩,
  rfl,e0.bare,Un.kept hk,⟨_,x.toInCall.ns,fun i y v h1 h2 h3=>?_⟩,fun y c h=>⟨_,x.cell y c h⟩,e0.hok.fresh (Ze _),fun y c h=>?_,fun p hp=>absurd (show p∈([]:List (Addr×Obj)) from hp) (by simp),e0.hok.kept hk,?_⟩
 ·exact name_of_addr x.apart (YN h1) (YN h2)
 ·have hy:scope.names.lookup y=some .cell\/scope.names.lookup y=some .free:=hy;rcases hy with hy|hy
  ·exact qg hy
  ·exact absurd rfl (S.nofree _ (YN hy))
 ·exact Nat.le_of_lt (x.above y c (YN h))
 ·have hi:i<vs.length:=by
   unfold start at h2;by_cases hi:i<vs.length
   ·exact hi
   ·rw[Z1 (by simpa using hi)]at h2;rw[List.getElem?_replicate]at h2;split at h2<;>cases h2
  have ha:vs[i]?=some v:=by
   unfold start at h2;rw[Yd (by simpa using hi),Zv]at h2;cases e:vs[i]? with
   |none=>rw[e]at h2;cases h2
   |some a=>rw[e]at h2;cases h2;rfl
  obtain⟨u,hu,rv⟩:=r.get ha;have hp:ps[i]?=some y:=by rw[<-S.pre,List.getElem?_take_of_lt (by omega)];exact h1
  have ndP:ps.Nodup:=by rw[<-S.pre];exact S.nd.sublist (ZH _ _)
  refine⟨u,rv,?_⟩;rcases S.par y (List.mem_of_getElem? hp)with k|k
  ·exact .inl ⟨k,oq ndP hp hu k⟩
  ·obtain⟨c,e⟩:=qg (n:=s.heap.objs.size+1) k;refine .inr ⟨.inl k,c,e,?_⟩;have q:=x.cell y c e;rw[om ndP hp hu (by show scope.names.lookup y≠_;rw[k];decide)]at q;exact q
 ·exact e0.hok.fresh (Nat.le_of_lt (x.above y c (YN h)))
 ·unfold start;show _=N.length;rw[Zi,z9,List.length_replicate];omega
theorem AL{CX:CXT}{P:Program}{w:World}{K:PySem.W.Frag}{mg:Str->Option Value}{base:Heap}{k:Nat}{f:Addr}{name qual:Str}{params:Arguments}{body:List Stmt}{scope:Scope}{dV kV doc pm cdv ct oc:Value}{an od:Option Addr}{osl:Array (Option Value)}{N ps:List Str}{sp:Sp}(lk:K.lookup f=some ⟨oc,od,.func (PySem.W.fnOf name qual params body scope dV kV doc pm an cdv ct),osl⟩)(hcd:PySem.W.codeIn K cdv qual=true)(S:FnScope N ps scope)(len:∀ vs H Q E,sp vs H Q E->vs.length=ps.length)(hbody:∀ (A:Around) (outer:List Env) (s:Shared) (H:Hp) (vs:List V) (Q:VK) (E:XK),Room k (A.deeper (envOfC qual scope s.heap.objs.size f cdv))->sp vs H Q E ->
   ∃ t,PSs (fi CX P w K mg base N qual scope f cdv A outer s H E) body t/\t { nx:=fun _ H'=>Q .non H',rt:=Q } (start N vs) H) :
  FnOk P w K mg base CX (k+1) f (PySem.W.fnOf name qual params body scope dV kV doc pm an cdv ct) ps sp:=by
 refine⟨len,fun A outer s H args us vs Q E hr e0 hb r hsp=>?_⟩;have hl:=len _ _ _ _ hsp;have KX:K.In s.heap:=e0.mod.kin.keeps fun b o e=>(e0.bs b o e).1;have lim:s.heap.NoLimit:=e0.mod.nolimit.keeps fun b o e=>(e0.bs b o e).1;have hkind:∀y∈ps.zip us,scope.names.lookup y.1=some .local\/(scope.names.lookup y.1=some .cell/\((cellsFrom (s.heap.objs.size+1) scope.names []).lookup y.1).isSome=true):=fun⟨n,v⟩ hy=>by
  rcases S.par n (List.of_mem_zip hy).1 with q|q
  ·exact .inl q
  ·exact .inr ⟨q,PySem.W.cellsFrom_some _ _ _ (.inl q)⟩
 refine codeAny_call_function hr.depth (KX _ _ lk) rfl S.co S.gen rfl (PySem.W.codeRec_of KX hcd) (hb _ _ _ _ ?_);refine wpAny_newFunctionEnv_cells S.kind hkind fun env he s1 x=>?_;subst he;refine⟨lim.keeps x.toInCall.keep,codeAny_func ?_⟩;obtain⟨t,ht,hq⟩:=hbody A outer s H vs Q E (hr.deeper _) hsp;have I:Inv (fi CX P w K mg base N qual scope f cdv A outer s H E) [] (start N vs) H s1:=oF S hr.hd e0 hl r x;refine Z4 (ht [] s1 (start N vs) H _ I hq) (fun fl s' hs=>?_) fun e s' hs=>hs;have fin:∀{σ':St} {H':Hp} {v:V} {u:Value},Inv (fi CX P w K mg base N qual scope f cdv A outer s H E) [] σ' H' s'->RelV v u->Q v H'->CE outer P w H s Q u s' :=
  fun{σ' H' v u} J rv q=>⟨v,H',J.os,J.bare,J.base,J.hok,rv,q⟩
 cases fl with
 |ret u =>obtain⟨v,σ',H',J,rv,q⟩:=hs;exact fin J rv q
 |next =>obtain⟨σ',H',J,q⟩:=hs;exact fin (v:=V.non) (u:=Value.none) J rfl q
 |brk =>obtain⟨_,_,_,q⟩:=hs;exact False.elim q
 |cont =>obtain⟨_,_,_,q⟩:=hs;exact False.elim q
open PySem PySem.Spec PyProof.Rows
section
variable{X:Cx}{x:Str}{p pos:Pos}{e:Expr}{es:List Expr}{t:TA}{id T:String}{r:List V->Hp->VK->Prop}
def tCB(r:List V->Hp->VK->Prop)(t:TA):TE:=fun σ H Q=>t σ H fun vs H1=>r vs H1 Q
theorem zQ(hc:dO X (.builtin id) r)(hg:Gl X x)(hm:X.mg x=none)(hv:bootBuiltins x=some (.builtin id))(ha:PA X (e::es) t)(hn:x≠"__name__":=by decide)(hdb:(x==("__debug__":Str))=false:=by decide)(he:starEach (e::es) X.env=(false,eval e X.env)::starEach es X.env:=by rfl)(hpl:(backTo pos (starEach es X.env)).any (·.1)=false:=by rfl):PE X (.Call (.Name x p) (e::es) [] pos) (tCB r t):=by intro pins s σ H Q I h;refine Y9 (dS I hg hm hv ?_ hn hdb);exact PyProof.Rows.callWith_builtin1 (thn (ha pos pins s σ H _ I h) fun us s1 ⟨vs,H1,I1,r1,q1⟩=>hc pins s1 σ H1 vs us Q I1 r1 q1) he hpl
theorem xO(hc:dO X (.type T) r)(hg:Gl X x)(hm:X.mg x=none)(hv:bootBuiltins x=some (.type T))(ha:PA X (e::es) t)(hn:x≠"__name__":=by decide)(hdb:(x==("__debug__":Str))=false:=by decide)(he:starEach (e::es) X.env=(false,eval e X.env)::starEach es X.env:=by rfl)(hpl:(backTo pos (starEach es X.env)).any (·.1)=false:=by rfl):PE X (.Call (.Name x p) (e::es) [] pos) (tCB r t):=by intro pins s σ H Q I h;refine Y9 (dS I hg hm hv ?_ hn hdb);exact YM (thn (ha pos pins s σ H _ I h) fun us s1 ⟨vs,H1,I1,r1,q1⟩=>hc pins s1 σ H1 vs us Q I1 r1 q1) he hpl
end
end L2
namespace HT
open PySem PyProof.Rows
def lexLt:List Int->List Int->Bool
 | [],[]=>false
 | [],_::_=>true
 |_::_,[]=>false
 |x::xs,y::ys=>if x=y then lexLt xs ys else decide (x<y)
theorem lexLt_cons(x y:Int)(xs ys:List Int):lexLt (x::xs) (y::ys)=if x=y then lexLt xs ys else decide (x<y):=rfl
theorem lexLt_nil_nil:lexLt [] []=false:=rfl
theorem eqAt_int(A:Around)(s:Shared)(a:Int)(t:Tok)(c:Int)(u:Tok):∃e,SeqAt.EqAt A s (.int a t) (.int c u) e/\(e=true↔a=c) :=
 ⟨(a==c),SeqAt.EqAt.int_int a t c u,by simp⟩
section
variable{prog:Program}{w:World}{A:Around}{E:Value->Shared->Prop}{s:Shared}
theorem cat_tup{t b:Addr}{vs ws:List Value}{Q:Value->Shared->Prop}(ht:IsTup s.heap t vs.toArray)(hb:IsTup s.heap b ws.toArray)(hv:vs≠[])(h1:ws=[]->Q (.ref t) s)(h2:ws≠[]->Q (.ref s.heap.objs.size) { s with heap:=s.heap.push { cls:=.type "tuple",data:=.seq (vs++ws).toArray } })(hsz:vs.length+ws.length<=sizeLine):wpAny (model prog w) A (binaryOp .Add (.ref t) (.ref b)) Q E s:=by
 obtain⟨⟨cls,dd,data,sl⟩,ho,hc,n,hd⟩:=id ht;obtain⟨⟨cls2,dd2,data2,sl2⟩,ho2,hc2,n2,hd2⟩:=id hb;simp only at hc hd hc2 hd2;subst hc hd hc2 hd2;have e:vs.toArray++ws.toArray=(vs++ws).toArray:=by simp
 by_cases hw:ws=[]
 ·exact concat_meets ⟨_,ho,rfl⟩ ⟨_,ho2,rfl⟩ noFill_tuple_add seq_tuple_add PySem.F.slot_tuple_add PySem.F.entry_tuple_add (PySem.F.args_tuple_add_2 _ _)
   (tuple_addW1 t b vs.toArray ws.toArray n n2 dd dd2 sl sl2 (by simpa using hv) (by simp[hw])) ⟨ho,ho2,h1 hw⟩
 ·refine concat_meets ⟨_,ho,rfl⟩ ⟨_,ho2,rfl⟩ noFill_tuple_add seq_tuple_add PySem.F.slot_tuple_add PySem.F.entry_tuple_add (PySem.F.args_tuple_add_2 _ _)
   (tuple_addW2 t b vs.toArray ws.toArray n n2 dd dd2 sl sl2 (by simpa using hv) (by simpa using hw) (by rw[Zh,Zh];exact hsz)) ⟨ho,ho2,?_⟩
  rw[e];exact h2 hw
def sIx(n d:Nat):Option Int->Nat
 |none=>d
 |some v=>if v<0 then(v+(n:Int)).toNat else min v.toNat n
theorem sIx_none(n d:Nat):sIx n d none=d:=rfl
theorem sIx_nat(n d k:Nat):sIx n d (some (k:Int))=min k n:=by show(if(k:Int)<0 then((k:Int)+(n:Int)).toNat else min (k:Int).toNat n)=min k n;rw[if_neg (by omega),y0]
theorem Eo(n d:Nat)(hd:d<=n)(o:Option Int):sIx n d o<=n:=by
 cases o with
 |none=>exact hd
 |some v =>
  show(if v<0 then(v+(n:Int)).toNat else min v.toNat n)<=n;by_cases hv:v<0
  ·rw[if_pos hv];omega
  ·rw[if_neg hv];exact Nat.min_le_right _ _
theorem sP(v:Int)(n d:Nat):(if v<0 then max (v+(n:Int)) 0 else min v (n:Int))=((sIx n d (some v):Nat):Int):=by
 show(if v<0 then max (v+(n:Int)) 0 else min v (n:Int))=(((if v<0 then(v+(n:Int)).toNat else min v.toNat n):Nat):Int);by_cases hv:v<0
 ·simp only[if_pos hv];omega
 ·simp only[if_neg hv];omega
theorem uH(lo hi:Option Int)(n:Nat):Builtin.Slice.sliceAdjust lo hi 1 (n:Int)=(((sIx n 0 lo:Nat):Int),((sIx n n hi:Nat):Int)):=by
 have h1:¬((1:Int)<0):=by omega
 unfold Builtin.Slice.sliceAdjust;simp only[h1,YT];refine Prod.ext ?_ ?_
 ·cases lo with
  |none=>rfl
  |some v=>exact sP v n 0
 ·cases hi with
  |none=>rfl
  |some v=>exact sP v n n
theorem vE(i j:Nat):Builtin.Slice.slicePlaces (i:Int) (j:Int) 1=j-i:=by
 unfold Builtin.Slice.slicePlaces;have h1:(1:Int)>0:=by omega
 simp only[h1,if_true,Int.ediv_one];split<;>omega
theorem mh{v:Value}{o:Option Int}{Q:Option Int->Shared->Prop}(p:IsPart v o)(h:Q o s):wpAny (model prog w) A (Builtin.Slice.slicePartIndex v) Q E s:=by
 cases p with
 |none=>exact slicePart_none h
 |int i t=>exact slicePart_int h
theorem sliceApplied_gen{sl:Addr}{vl vu:Value}{lo hi:Option Int}{n:Nat}{Q:Int×Int×Nat->Shared->Prop}(hs:s.heap.IsSliceOf sl vl vu .none)(pl:IsPart vl lo)(pu:IsPart vu hi)(h:Q (((sIx n 0 lo:Nat):Int),1,sIx n n hi-sIx n 0 lo) s):wpAny (model prog w) A (Builtin.Slice.sliceApplied (.ref sl) (pure (n:Int))) Q E s:=by obtain⟨os,hos,hcs,hds⟩:=id hs;unfold Builtin.Slice.sliceApplied Builtin.Slice.sliceFields;refine z6 (z6 (Z3 hos hds (x:=vl) rfl (z6 (Z3 hos hds (x:=vu) rfl (z6 (Z3 hos hds (x:=.none) rfl (Zd ?_)))))));refine z6 (slicePart_none ?_);show wpAny _ _ (if((1:Int)==0)=true then _ else _) _ _ s;rw[if_neg (by decide)];refine z6 (mh pl (z6 (mh pu (z6 (Zd ?_)))));show wpAny _ _ (match Builtin.Slice.sliceAdjust lo hi 1 (n:Int)with|(lo,hi)=>pure (lo,(1:Int),Builtin.Slice.slicePlaces lo hi 1)) _ _ s;rw[uH lo hi n];show wpAny _ _ (pure (((sIx n 0 lo:Nat):Int),(1:Int),Builtin.Slice.slicePlaces ((sIx n 0 lo:Nat):Int) ((sIx n n hi:Nat):Int) 1)) _ _ s;rw[vE];exact Zd h
theorem zY(xs:Array Value)(i k:Nat):((List.range k).filterMap fun(m:Nat)=>xs[((i:Int)+(m:Int)*1).toNat]?).toArray=((xs.toList.drop i).take k).toArray:=by
 have e:(fun(m:Nat)=>xs[((i:Int)+(m:Int)*1).toNat]?)=fun m=>xs[i+m]?:=by
  funext m;have:((i:Int)+(m:Int)*1).toNat=i+m:=by omega
  rw[this]
 rw[e];have:=pick_run xs i k;rw[List.filterMap_map]at this;have e2:((fun x=>xs[x]?)∘fun x=>i+x)=fun m=>xs[i+m]?:=rfl;rw[e2]at this;rw[this]
theorem getItem_tuple_cut{t sl:Addr}{items:Array Value}{vl vu:Value}{lo hi:Option Int}{Q:Value->Shared->Prop}(ht:IsTup s.heap t items)(hs:s.heap.IsSliceOf sl vl vu .none)(pl:IsPart vl lo)(pu:IsPart vu hi)(hw:¬(sIx items.size 0 lo=0/\sIx items.size items.size hi=items.size))(h:Q (.ref s.heap.objs.size) { s with heap:=s.heap.push { cls:=.type "tuple",data:=.seq ((items.toList.drop (sIx items.size 0 lo)).take (sIx items.size items.size hi-sIx items.size 0 lo)).toArray } })(hsz:items.size<=sizeLine):wpAny (model prog w) A (getItem (.ref t) (.ref sl)) Q E s:=by
 have htake:sizeOk (.seq ((items.toList.drop (sIx items.size 0 lo)).take (sIx items.size items.size hi-sIx items.size 0 lo)).toArray):=by show((items.toList.drop (sIx items.size 0 lo)).take (sIx items.size items.size hi-sIx items.size 0 lo)).toArray.size<=sizeLine;rw[Zh,ZE,Yr,Zg];omega
 have hj:sIx items.size items.size hi<=items.size:=Eo _ _ (Ze _) hi;obtain⟨os,hos,hcs,hds⟩:=id hs;have hTs:s.TypeIs (.ref sl) "slice":=⟨os,hos,hcs⟩
 unfold getItem
 try with_reducible refine Ym ?_
 first|refine z6 (Zd ?_)|skip
 refine z6 (wpAny_sequenceKey ht.typeIs (by decide) ?_);refine z6 (ZS (name:=Str.ofString "__getitem__") ht.typeIs Yl
  (ZW Yl ht.typeIs entry_tuple_getitem ?_ (args_tuple_getitem _ _)))
 show wpAny _ _ (Builtin.Tuple.tupleItemsOf (.ref t) >>= _) _ _ s;refine z6 (tupleItemsOf_ ht ?_);refine z6 (wpAny_typeOf hTs ?_);rw[if_pos (by decide)];refine z6 (sliceApplied_gen hs pl pu ?_);have hno:¬((((sIx items.size 0 lo:Nat):Int)==0&&(1:Int)==1&&(sIx items.size items.size hi-sIx items.size 0 lo)==items.size)=true):=by intro q;rw[ZN,ZN]at q;have q1:((sIx items.size 0 lo:Nat):Int)=0:=eq_of_beq q.1.1;have q2:sIx items.size items.size hi-sIx items.size 0 lo=items.size:=eq_of_beq q.2;exact hw ⟨by omega,by omega⟩
 show wpAny _ _ (if(((sIx items.size 0 lo:Nat):Int)==0&&(1:Int)==1&&(sIx items.size items.size hi-sIx items.size 0 lo)==items.size)=true then _ else _) _ _ s;rw[if_neg hno,zY]
 first
  |exact z6 (m:=Builtin.Tuple.tupleExact _) (ZP (Zd ⟨_,rfl,Zd h⟩) htake)
  |exact z6 (m:=Builtin.Tuple.tupleExact _) (ZP (z6 (Zd (Zd ⟨_,rfl,Zd h⟩))) htake)
  |exact z6 (z6 (m:=Builtin.Tuple.tupleExact _) (ZP (Zd (Zd ⟨_,rfl,Zd h⟩)) htake))
  |exact z6 (z6 (m:=Builtin.Tuple.tupleExact _) (ZP (Zd ⟨_,rfl,Zd h⟩) htake))
end
end HT
namespace L2
open PySem PySem.Spec PyProof.Rows
abbrev TO:=St->Hp->(Option Int->Hp->Prop)->Prop
def PO(X:Cx)(e:Option Expr)(t:TO):Prop :=
 ∀(pins:List (Addr×Obj)) (s:Shared) (σ:St) (H:Hp) (Q:Option Int->Hp->Prop),Inv X pins σ H s->t σ H Q ->
  wpAny (model X.prog X.w) X.A (evalPart e X.env) (fun u s'=>∃o H',Inv X pins σ H' s'/\IsPart u o/\Q o H') X.xe s
def ul:TO:=fun _ H Q=>Q none H
def Bh(t:TE):TO:=fun σ H Q=>t σ H fun x H1=>∃i,x=.int i/\Q (some i) H1
theorem cE{ns:List Int}:∀{us:List Value},Vals (ns.map V.int) us->IntsAre us ns:=by
 induction ns with
 |nil=>intro us r;rw[List.map_nil]at r;cases r;exact .nil
 |cons n ns ih =>
  intro us r;rw[Z0]at r;cases r with
  |cons r1 r2 =>obtain⟨t,e⟩:=r1;subst e;exact .cons n t (ih r2)
section
variable{X:Cx}{e:Expr}{te:TE}{lo hi:Option Expr}{tl th:TO}{pos p2:Pos}
theorem B9:PO X none ul:=by intro pins s σ H Q I h;rw[evalPart_none];exact Zd ⟨none,H,I,.none,h⟩
theorem Ca(h:PE X e te):PO X (some e) (Bh te):=by intro pins s σ H Q I hw;rw[evalPart_some];refine thn (h pins s σ H _ I hw) fun u s1 hz9=>?_;obtain⟨x,H1,I1,r1,q1⟩:=hz9;obtain⟨i,rfl,q⟩:=q1;obtain⟨t,rfl⟩:=r1;exact⟨some i,H1,I1,.int i t,q⟩
def SlR(X:Cx)(r:V->Option Int->Option Int->Hp->VK->Prop):Prop :=
 ∀(pins:List (Addr×Obj)) (s:Shared) (σ:St) (H:Hp) (x:V) (v vl vu:Value) (lo hi:Option Int) (sl:Addr) (Q:VK),Inv X pins σ H s->RelV x v->s.heap.IsSliceOf sl vl vu .none->IsPart vl lo->IsPart vu hi->r x lo hi H Q ->
  ∃T id,typeLookup (.type T) "__getitem__" = pure (some (.builtin id))/\s.TypeIs v T/\wpAny (model X.prog X.w) X.A (getItem v (.ref sl)) (EP X pins σ Q) X.xe s
def tSl(r:V->Option Int->Option Int->Hp->VK->Prop)(te:TE)(tl th:TO):TE:=fun σ H Q=>te σ H fun x H1=>tl σ H1 fun l H2=>th σ H2 fun u H3=>r x l u H3 Q
theorem zV{r:V->Option Int->Option Int->Hp->VK->Prop}(hr:SlR X r)(he:PE X e te)(hl:PO X lo tl)(hu:PO X hi th):PE X (.Subscript e (.Slice lo hi none p2) pos) (tSl r te tl th):=by intro pins s σ H Q I h;refine Subscript_ (thn (he pins s σ H _ I h) fun v s1 hz9=>?_);obtain⟨x,H1,I1,r1,q1⟩:=hz9;refine wpAny_Slice (thn (hl pins s1 σ H1 _ I1 q1) fun vl s2 ⟨l,H2,I2,pl,q2⟩=>thn (hu pins s2 σ H2 _ I2 q2) fun vu s3 hz9=>?_);obtain⟨u,H3,I3,pu,q3⟩:=hz9;rw[evalPart_none];refine Zd ?_;have I4:Inv X pins σ H3 { s3 with heap:=s3.heap.push { cls:=.type "slice",data:=.fields #[vl,vu,.none] } }:=I3.kept (t':=s3.toks) fun b ob q=>Za _ q;obtain⟨T,id,hT,ht,hg⟩:=hr pins { s3 with heap:=s3.heap.push { cls:=.type "slice",data:=.fields #[vl,vu,.none] } } σ H3 x v vl vu l u s3.heap.objs.size Q I4 r1 (Heap.IsSliceOf.new ..) pl pu q3;show wpAny (model X.prog X.w) X.A (subscriptTail e (.Slice lo hi none p2) v (.ref s3.heap.objs.size)) (EP X pins σ Q) X.xe { s3 with heap:=s3.heap.push { cls:=.type "slice",data:=.fields #[vl,vu,.none] } };exact tail_any (ops:=[.ref s3.heap.objs.size,v]) ht hT hg (by with_unfolding_all rfl)
def cK(xs:List V)(lo hi:Option Int):List V:=(xs.drop (HT.sIx xs.length 0 lo)).take (HT.sIx xs.length xs.length hi-HT.sIx xs.length 0 lo)
theorem jP(xs:List V)(lo hi:Option Int):(cK xs lo hi).length<=xs.length:=by unfold cK;rw[ZE,Yr];omega
def FX(K:PySem.W.Frag):V->Option Int->Option Int->Hp->VK->Prop:=fun x lo hi H Q=>∃a xs,x=.ref a/\SqT K H a xs /\
 ¬(HT.sIx xs.length 0 lo=0/\HT.sIx xs.length xs.length hi=xs.length)/\∀p,H p=none->Q (.ref p) (upd H p (.tup (cK xs lo hi)))
theorem Es:SlR X (FX X.K):=by
 intro pins s σ H x v vl vu lo hi sl Q I rx hs pl pu h;obtain⟨a,xs,rfl,hx,hw,q⟩:=h;cases rx;obtain⟨its,r,ht,hz⟩:=I.tuple hx;have hlen:its.toArray.size=xs.length:=by rw[Zh];exact r.length.symm
 refine⟨"tuple",_,Yl.lookup,ht.typeIs,?_⟩;refine HT.getItem_tuple_cut ht hs pl pu (by rw[hlen];exact hw) ?_ (by rw[hlen];exact hz);rw[hlen];refine⟨.ref s.heap.objs.size,_,I.laid (t':=s.toks) (o:=.tup (cK xs lo hi)) (fun b ob q=>Za _ q) (Ze _) ?_,rfl,q _ (I.hok.fresh (Ze _))⟩;exact⟨ZV (jP xs lo hi) hz,_,(r.drop (HT.sIx xs.length 0 lo)).take (HT.sIx xs.length xs.length hi-HT.sIx xs.length 0 lo),IsTup.new _ _⟩
def Fv(K:PySem.W.Frag):R2:=fun x y H Q=>∃a b xs ys,x=.ref a/\y=.ref b/\SqT K H a xs/\SqT K H b ys/\xs≠[]/\xs.length+ys.length<=sizeLine /\
 (ys=[]->Q (.ref a) H)/\(ys≠[]->∀p,H p=none->Q (.ref p) (upd H p (.tup (xs++ys))))
theorem Vals.nil_iff{xs:List V}{us:List Value}(r:Vals xs us):us=[]↔xs=[]:=by
 cases r with
 |nil=>simp
 |cons _ _=>simp
theorem BQ:OpR X (binaryOp .Add) (Fv X.K):=by intro pins s σ H x y v u Q I rx ry h;obtain⟨a,b,xs,ys,rfl,rfl,ha,hb,hx,hz,q1,q2⟩:=h;cases rx;cases ry;obtain⟨its,r1,p1,_⟩:=I.tuple ha;obtain⟨its2,r2,p2,_⟩:=I.tuple hb;refine HT.cat_tup p1 p2 (fun z=>hx (r1.nil_iff.mp z)) (fun z=>⟨.ref a,H,I,rfl,q1 (r2.nil_iff.mp z)⟩) (fun z=>?_) (by rw[<-r1.length,<-r2.length];exact hz);refine⟨.ref s.heap.objs.size,_,I.laid (t':=s.toks) (o:=.tup (xs++ys)) (fun b ob q=>Za _ q) (Ze _) ?_,rfl,q2 (fun w=>z (r2.nil_iff.mpr w)) _ (I.hok.fresh (Ze _))⟩;exact⟨by rw[Zi];exact hz,_,r1.append r2,IsTup.new _ _⟩
end
open PySem PySem.Spec PyProof.Rows
def ixN(n:Nat)(i:Int):Option Nat:=if 0<=i then(if i<n then some i.toNat else none)else if -(n:Int)<=i then some (i+n).toNat else none
def atI{α:Type}(xs:List α)(i:Int):Option α:=(ixN xs.length i).bind fun j=>xs[j]?
theorem tE{n:Nat}{i:Int}{j:Nat}(h:ixN n i=some j):seqIndex? i n=some j/\j<n/\-(n:Int)<=i/\i<n:=by
 unfold ixN at h;by_cases h0:0<=i
 ·rw[if_pos h0]at h;by_cases h1:i<n
  ·rw[if_pos h1]at h;have e:i.toNat=j:=ZO h;exact⟨by rw[seqIndex_of h0 h1,e],by omega,by omega,h1⟩
  ·rw[if_neg h1]at h;cases h
 ·rw[if_neg h0]at h;by_cases h1:-(n:Int)<=i
  ·rw[if_pos h1]at h;have e:(i+n).toNat=j:=ZO h;exact⟨by rw[seqIndex_neg (by omega) h1,e],by omega,h1,by omega⟩
  ·rw[if_neg h1]at h;cases h
theorem sL{α:Type}{xs:List α}{i:Int}{v:α}(h:atI xs i=some v):∃j,seqIndex? i xs.length=some j/\xs[j]?=some v/\j<xs.length/\-(xs.length:Int)<=i/\i<xs.length:=by
 unfold atI at h;cases e:ixN xs.length i with
 |none=>rw[e]at h;cases h
 |some j =>rw[e]at h;obtain⟨h1,h2,h3,h4⟩:=tE e;exact⟨j,h1,h,h2,h3,h4⟩
theorem gN{α:Type}{xs:List α}{j:Nat}{v:α}(h:xs[j]?=some v):atI xs (j:Int)=some v:=by
 have hj:j<xs.length:=(Zy.mp h).1;have e:ixN xs.length (j:Int)=some j:=by unfold ixN;rw[if_pos (by omega),if_pos (by omega)];simp
 unfold atI;rw[e];exact h
def sF(b:Expr):Prop:=∀o i,subscripted b false o i=operate [o,i] (getItem o i)
def IxR(X:Cx)(r:R2):Prop :=
 ∀(value slice:Expr) (pins:List (Addr×Obj)) (s:Shared) (σ:St) (H:Hp) (x y:V) (v u:Value) (Q:VK),Inv X pins σ H s->RelV x v->RelV y u->r x y H Q ->
  subscripted slice false v u=operate [v,u] (getItem v u)->wpAny (model X.prog X.w) X.A (subscriptTail value slice v u) (EP X pins σ Q) X.xe s
def MtR(X:Cx)(id:String)(r:V->List V->Hp->VK->Prop):Prop :=
 ∀(pins:List (Addr×Obj)) (s:Shared) (σ:St) (H:Hp) (x:V) (xs:List V) (v:Value) (us:List Value) (Q:VK),Inv X pins σ H s->RelV x v->Vals xs us->r x xs H Q ->
  wpAny (model X.prog X.w) X.A (call (.builtin id) (v::us)) (EP X pins σ Q) X.xe s
section
variable{X:Cx}{a b:Expr}{ta tb:TE}{pos:Pos}
theorem Fj{r:R2}(hr:IxR X r)(ha:PE X a ta)(hb:PE X b tb)(hs:sF b):PE X (.Subscript a b pos) (tOp r ta tb):=by intro pins s σ H Q I h;exact Subscript_ (yP ha hb I h fun v u s2 x y H2 I2 rx ry q=>hr a b pins s2 σ H2 x y v u Q I2 rx ry q (hs _ _))
def Ag(K:PySem.W.Frag):R2:=fun x y H Q=>∃p xs i v,x=.ref p/\y=.int i/\SqL K H p xs/\atI xs i=some v/\Q v H
def Ah(K:PySem.W.Frag):R2:=fun x y H Q=>∃p xs i v,x=.ref p/\y=.int i/\SqT K H p xs/\atI xs i=some v/\Q v H
theorem BD:IxR X (Ag X.K):=by
 intro value slice pins s σ H x y v u Q I rx ry h hs;obtain⟨p,xs,i,z,rfl,rfl,hq,he,q⟩:=h;cases rx;obtain⟨t,rfl⟩:=ry;obtain⟨its,r,pl,hz⟩:=I.list hq;obtain⟨j,h1,h2,h3,h4,h5⟩:=sL he;obtain⟨w,ew,rw'⟩:=r.get h2;have hl:=r.length;have hn:=lG;have fin:EP X pins σ Q w s:=⟨z,H,I,rw',q⟩
 by_cases h0:0<=i
 ·have hj:i.toNat=j:=by rw[seqIndex_of h0 h5]at h1;exact ZO h1
  exact item_listR pl.isList h0 (by omega) (by rw[hj];simpa using ew) fin hs
 ·have hj:(i+(its.toArray.size:Int)).toNat=j:=by rw[seqIndex_neg (by omega) h4]at h1;rw[Zh,<-hl];exact ZO h1
  exact subscriptTail_builtinR (x:=w) pl.isList.typeIs slot_list_getitem.lookup
   (wpAny_getItem_list_neg (Q:=fun r s'=>r=w/\EP X pins σ Q r s') pl.isList (by omega) (by rw[Zh]<;>omega) (by omega) (by rw[hj];simpa using ew) ⟨rfl,fin⟩) hs
theorem C4:IxR X (Ah X.K):=by
 intro value slice pins s σ H x y v u Q I rx ry h hs;obtain⟨p,xs,i,z,rfl,rfl,hq,he,q⟩:=h;cases rx;obtain⟨t,rfl⟩:=ry;obtain⟨its,r,pl,hz⟩:=I.tuple hq;obtain⟨j,h1,h2,h3,h4,h5⟩:=sL he;obtain⟨w,ew,rw'⟩:=r.get h2;have hl:=r.length;have hn:=lG;have fin:EP X pins σ Q w s:=⟨z,H,I,rw',q⟩
 exact subscriptTail_builtinR (x:=w) pl.typeIs slot_tuple_getitem.lookup
  (getItem_tuple (j:=j) (Q:=fun r s'=>r=w/\EP X pins σ Q r s') pl (by omega) (by omega) (by rw[Zh,<-hl];exact h1) (by simpa using ew) ⟨rfl,fin⟩) hs
theorem vc(its:List Value)(n j:Nat)(u:Value):Obj.mapSeq (·.setIfInBounds j u) { cls:=.type "list",data:=.seq its.toArray n }={ cls:=.type "list",data:=.seq (its.set j u).toArray n }:=by simp[Obj.mapSeq]
theorem Inv.lst{pins:List (Addr×Obj)}{σ:St}{H:Hp}{s:Shared}{p:Addr}{xs:List V}(I:Inv X pins σ H s)(h:H p=some (.lst xs)) :
  ∃(its:List Value) (n:Nat),Vals xs its/\s.heap.get? p=some { cls:=.type "list",data:=.seq its.toArray n }/\xs.length<=sizeLine:=by
 obtain⟨z,its,n,r,e⟩:=I.hok p _ h;exact⟨its,n,r,e,z⟩
theorem Inv.lstUpd{pins:List (Addr×Obj)}{σ:St}{H:Hp}{s:Shared}{p:Addr}{xs ys:List V}{its its':List Value}{n n':Nat}{f:Obj->Obj}(I:Inv X pins σ H s)(h:H p=some (.lst xs))(ho:s.heap.get? p=some { cls:=.type "list",data:=.seq its.toArray n })(hf:f { cls:=.type "list",data:=.seq its.toArray n }={ cls:=.type "list",data:=.seq its'.toArray n' })(r:Vals ys its')(hz:ys.length<=sizeLine)(t:Nat) :
  Inv X pins σ (upd H p (.lst ys)) { s with heap:=s.heap.update p f,toks:=t }:=by
 have e:(s.heap.update p f).get? p=some { cls:=.type "list",data:=.seq its'.toArray n' }:=by rw[YG f ho (by rw[hf]<;>rfl),hf]
 refine I.write (x:=p) (e:=p) (by rw[h];trivial) (.inl rfl) (fun b u hb q=>(YC _ _ (Yj hb)).trans q) ⟨_,e⟩ ?_;exact⟨hz,its',n',r,e⟩
def A7:V->V->V->Hp->(Hp->Prop)->Prop:=fun o i v H Q=>∃p xs k j,o=.ref p/\i=.int k/\H p=some (.lst xs)/\ixN xs.length k=some j/\Q (upd H p (.lst (xs.set j v)))
theorem As:yL X A7:=by
 intro pins s σ H o i v ov iv u Q I ro ri rv h;obtain⟨p,xs,k,j,rfl,rfl,hp,hj,q⟩:=h;cases ro;obtain⟨t,rfl⟩:=ri;obtain⟨its,n,r,ho,hz⟩:=I.lst hp;obtain⟨h1,h2,h3,h4⟩:=tE hj;have hl:=r.length;have hn:=lG;have I':Inv X pins σ (upd H p (.lst (xs.set j v))) { s with heap:=s.heap.update p (Obj.mapSeq (·.setIfInBounds j u)) } :=
  I.lstUpd hp ho (vc its n j u) (r.set rv j) (by rw[List.length_set];exact hz) s.toks
 by_cases h0:0<=k
 ·have hk:k.toNat=j:=by rw[seqIndex_of h0 h4]at h1;exact ZO h1
  exact PySem.W.ki_setAt ho h0 (by omega) (by rw[Zh,<-hl];exact h4) (by rw[hk];exact⟨_,I',q⟩)
 ·have hk:(k+(its.toArray.size:Int)).toNat=j:=by rw[seqIndex_neg (by omega) h3]at h1;rw[Zh,<-hl];exact ZO h1
  exact PySem.W.ki_setBack ho (by omega) (by rw[Zh,<-hl];exact h3) (by omega) (by rw[hk];exact⟨_,I',q⟩)
theorem rp(lo hi:Option Int)(n:Nat):(sliceBounds lo hi none n).1=((HT.sIx n 0 lo:Nat):Int)/\(sliceBounds lo hi none n).2.1=((HT.sIx n n hi:Nat):Int)/\(sliceBounds lo hi none n).2.2=1:=by
 refine⟨?_,?_,rfl⟩
 ·cases lo with
  |none=>simp[sliceBounds,HT.sIx]
  |some i =>
   simp only[sliceBounds,HT.sIx,Option.getD_none,show(1:Int)>0 by decide,if_true];by_cases h:i<0
   ·simp only[h,if_true]<;>omega
   ·simp only[h,YT]<;>omega
 ·cases hi with
  |none=>simp[sliceBounds,HT.sIx]
  |some i =>
   simp only[sliceBounds,HT.sIx,Option.getD_none,show(1:Int)>0 by decide,if_true];by_cases h:i<0
   ·simp only[h,if_true]<;>omega
   ·simp only[h,YT]<;>omega
theorem pf(its:List Value)(lo hi:Option Int):slicePick its.toArray lo hi none=((its.drop (HT.sIx its.length 0 lo)).take (HT.sIx its.length its.length hi-HT.sIx its.length 0 lo)).toArray:=by obtain⟨h1,h2,h3⟩:=rp lo hi its.toArray.size;unfold slicePick;rw[h1,h2,h3];simp only[sliceRange_one,pick_run,Zh]<;>rfl
def El(K:PySem.W.Frag):V->Option Int->Option Int->Hp->VK->Prop:=fun x lo hi H Q=>∃a xs,x=.ref a/\SqL K H a xs/\∀p,H p=none->Q (.ref p) (upd H p (.lst (cK xs lo hi)))
theorem Cn:SlR X (El X.K):=by intro pins s σ H x v vl vu lo hi sl Q I rx hs pl pu h;obtain⟨a,xs,rfl,hx,q⟩:=h;cases rx;obtain⟨its,r,ht,hz⟩:=I.list hx;have hlen:=r.length;refine⟨"list",_,slot_list_getitem.lookup,ht.isList.typeIs,?_⟩;refine wpAny_getItem_list_slice ht.isList hs pl pu .none (by simp) ?_ (by rw[Zh]<;>omega);rw[pf,<-hlen];refine⟨.ref s.heap.objs.size,_,I.laid (t':=s.toks) (o:=.lst (cK xs lo hi)) (fun b ob q=>Za _ q) (Ze _) ?_,rfl,q _ (I.hok.fresh (Ze _))⟩;exact⟨ZV (jP xs lo hi) hz,_,0,(r.drop (HT.sIx xs.length 0 lo)).take (HT.sIx xs.length xs.length hi-HT.sIx xs.length 0 lo),Zk _ rfl⟩
theorem qd:dO X (.builtin "len") (fun xs H Q=>∃p ys,xs=[.ref p]/\(SqL X.K H p ys\/SqT X.K H p ys)/\Q (.int ys.length) H):=by
 intro pins s σ H xs us Q I r h;obtain⟨p,ys,rfl,hq,q⟩:=h;obtain⟨u,rfl,rx⟩:=cu r;cases rx;have hn:=lG;rcases hq with hq|hq
 ·obtain⟨its,r',pl,hz⟩:=I.list hq;have hlen:=r'.length;exact Calls.call_len_list pl.isList (by simp only[Zh]<;>omega) ⟨.int ys.length,H,I.tok _,⟨s.toks+1,by rw[Zh,hlen]⟩,q⟩
 ·obtain⟨its,r',pl,hz⟩:=I.tuple hq;have hlen:=r'.length;exact len_tuple pl (by simp only[Zh]<;>omega) ⟨.int ys.length,H,I.tok _,⟨s.toks+1,by rw[Zh,hlen]⟩,q⟩
theorem oV:dO X (.type "tuple") (fun xs H Q=>∃p ys,xs=[.ref p]/\((SqL X.K H p ys/\∀l,H l=none->Q (.ref l) (upd H l (.tup ys)))\/(SqT X.K H p ys/\Q (.ref p) H))):=by
 intro pins s σ H xs us Q I r h;obtain⟨p,ys,rfl,h⟩:=h;obtain⟨u,rfl,rx⟩:=cu r;cases rx;rcases h with⟨hq,q⟩|⟨hq,q⟩
 ·obtain⟨its,r',pl,hz⟩:=I.list hq;have hlen:=r'.length;refine call_tuple_list pl.isList (fun h' kp=>?_) (by simp only[Zh]<;>omega);have I1:Inv X pins σ H { s with heap:=h' }:=I.kept (t':=s.toks) kp;have I2:Inv X pins σ (upd H h'.objs.size (.tup ys)) { s with heap:=h'.push { cls:=.type "tuple",data:=.seq its.toArray } } :=
   I1.laid (t':=s.toks) (fun b o e=>Za _ e) (Ze _) (show ObjOk X.prog X.w _ _ _ (.tup ys)from⟨hz,its,r',IsTup.new _ _⟩)
  exact⟨.ref h'.objs.size,_,I2,rfl,q _ (I1.hok.fresh (Ze _))⟩
 ·obtain⟨its,r',pl,hz⟩:=I.tuple hq;exact call_tuple_same pl ⟨.ref p,H,I,rfl,q⟩
def tyV(K:PySem.W.Frag)(T:String)(x:V)(H:Hp):Prop:=match x with
 |.str _=>T="str"
 |.int _=>T="int"
 |.ref p=>(T="list"/\∃xs,SqL K H p xs)\/(T="tuple"/\∃o,K.lookup p=some o/\o.cls=.type "tuple"/\o.dict=none) \/
   (T="dict"/\((∃kvs,H p=some (.dK kvs))\/∃kvs,H p=some (.dT kvs)))\/(T="set"/\∃S n,H p=some (.set S n))
 |_=>False
theorem EF{pins:List (Addr×Obj)}{σ:St}{H:Hp}{s:Shared}{T:String}{x:V}{v:Value}(I:Inv X pins σ H s)(r:RelV x v)(ty:tyV X.K T x H) :
  s.TypeIs v T/\∀a,v=.ref a->∃ob,s.heap.get? a=some ob/\ob.dict=none:=by
 cases x with
 |str z =>obtain⟨t,rfl⟩:=r;cases(show T="str" from ty);exact⟨typeIs_str s z t,fun _ e=>nomatch e⟩
 |int i =>obtain⟨t,rfl⟩:=r;cases(show T="int" from ty);exact⟨typeIs_int s i t,fun _ e=>nomatch e⟩
 |ref p =>
  cases r;rcases ty with⟨rfl,xs,hq⟩|⟨rfl,o,hk,hc,hd⟩|⟨rfl,hk⟩|⟨rfl,S,n,hk⟩
  ·obtain⟨its,_,pl,_⟩:=I.list hq;refine⟨pl.isList.typeIs,fun a e=>?_⟩;cases e;obtain⟨o,n,e,c,hd,_⟩:=pl;exact⟨o,e,hd⟩
  ·refine⟨⟨o,I.kIn p o hk,hc⟩,fun a e=>?_⟩;cases e;exact⟨o,I.kIn _ o hk,hd⟩
  ·have z:∃o,s.heap.get? p=some o/\o.ExactDict:=by
    rcases hk with⟨kvs,hk⟩|⟨kvs,hk⟩
    ·obtain⟨_,_,_,_,o,_,_,e,ex,_⟩:=I.hok p _ hk;exact⟨o,e,ex⟩
    ·obtain⟨_,_,_,_,o,_,_,e,ex,_⟩:=I.hok p _ hk;exact⟨o,e,ex⟩
   obtain⟨o,e,ex⟩:=z;refine⟨⟨o,e,ex.1⟩,fun a e2=>?_⟩;cases e2;exact⟨o,e,ex.2.1⟩
  ·obtain⟨o,_,_,_,e,ex,_⟩:=I.hok p _ hk;refine⟨⟨o,e,ex.1⟩,fun a e2=>?_⟩;cases e2;exact⟨o,e,ex.2.1⟩
 |_=>exact False.elim ty
def tBM(K:PySem.W.Frag)(T:String)(r:V->List V->Hp->VK->Prop)(to:TE)(t:TA):TE:=fun σ H Q=>to σ H fun x H1=>tyV K T x H1/\t σ H1 fun xs H2=>r x xs H2 Q
variable{o e:Expr}{es:List Expr}{to:TE}{t:TA}{name:Str}{apos cpos:Pos}{T id:String}{r:V->List V->Hp->VK->Prop}
theorem Fh(pa:PlainAttrs T)(slot:Slot T name id)(hty:typeOf (.builtin id)=pure (.type "method_descriptor"))(hm:MtR X id r)(ho:PE X o to)(ha:PA X (e::es) t)(hbase:attributeBase o name X.env (eval o X.env)=eval o X.env:=by rfl)(hfew:((backTo cpos (starEach (e::es) X.env)).all (fun x=>!x.1)&&(backToKw cpos (keywordEach [] X.env)).all (fun x=>x.1.isSome)
  &&decide ((e::es).length+([]:List Keyword).length+(if ([]:List Keyword).isEmpty then 0 else 1)<30))=true:=by rfl)(hline:(apos.endLine == cpos.line)=true:=by rfl)(hs:starEach (e::es) X.env=(false,eval e X.env)::starEach es X.env:=by rfl)(hplain:(backTo cpos (starEach es X.env)).any (·.1)=false:=by rfl) :
  PE X (.Call (.Attribute o name apos) (e::es) [] cpos) (tBM X.K T r to t):=by
 intro pins s σ H Q I h;refine wpAny_Call_method_late hbase hfew hline rfl (thn (ho pins s σ H _ I h) fun v s1 hz9=>?_);obtain⟨x,H1,I1,r1,ty,q1⟩:=hz9;obtain⟨h1,h2⟩:=EF I1 r1 ty;refine⟨T,id,pa,slot,hty,h1,h2,?_⟩;have hA:=ha cpos pins s1 σ H1 _ I1 q1;rw[hs]at hA ⊢;refine Calls.callWith_builtin (by show(false ||(backTo cpos (starEach es X.env)).any (·.1))=false;rw[hplain]<;>rfl) (Calls.evalArgs_plain ?_);exact thn hA fun us s2 ⟨vs,H2,I2,r2,q2⟩=>hm pins s2 σ H2 x vs v us Q I2 r1 r2 q2
end
open PySem PySem.Spec PyProof.Rows
def MtM(X:Cx)(id:String)(r:V->List V->Hp->VK->Prop):Prop :=
 ∀(pins:List (Addr×Obj)) (s:Shared) (σ:St) (H:Hp) (x:V) (xs:List V) (v:Value) (us:List Value) (Q:VK),Inv X pins σ H s->RelV x v->Vals xs us->r x xs H Q ->
  wpAny (model X.prog X.w) X.A (call (.builtin id) (v::us)) (EP X pins σ Q) X.xe s
theorem Vals.one:∀{x:V} {us:List Value},Vals [x] us->∃u,us=[u]/\RelV x u
 |_,_,.cons r .nil=>⟨_,rfl,r⟩
theorem Vals.rep{xs:List V}{us:List Value}(h:Vals xs us):∀k:Nat,Vals (List.replicate k xs).flatten (List.replicate k us).flatten
 |0=>.nil
 |k+1=>by rw[Y4,Y4,YE,YE];exact Vals.append h (Vals.rep h k)
theorem iU(its:List Value):∀(k:Nat) (acc:List Value),
  List.foldl (fun x1 x2=>x1++x2) acc.toArray (List.replicate k its.toArray)=(acc++(List.replicate k its).flatten).toArray
 |0,acc=>by simp
 |k+1,acc=>by
  have e:acc.toArray++its.toArray=(acc++its).toArray:=by simp
  have e2:(acc++its)++(List.replicate k its).flatten=acc++(List.replicate (k+1) its).flatten:=by rw[Y4,YE,ZD]
  rw[<-e2,<-iU its k (acc++its),<-e,Y4,List.foldl_cons]
section
variable{X:Cx}{pins:List (Addr×Obj)}{σ:St}{H:Hp}{s:Shared}{l b:Addr}{xs ys zs:List V}
theorem Inv.lset{its its':List Value}{n:Nat}{f:Array Value->Array Value}{t':Nat}(I:Inv X pins σ H s)(hH:H l=some (.lst xs))(e:s.heap.get? l=some { cls:=.type "list",data:=.seq its.toArray n })(hf:f its.toArray=its'.toArray)(hv:Vals ys its')(hz:ys.length<=sizeLine) :
  Inv X pins σ (upd H l (.lst ys)) { s with heap:=s.heap.update l (Obj.mapSeq f),toks:=t' }:=by
 have q:=PySem.IsL.update e f;rw[hf]at q;refine I.write (x:=l) (e:=l) (by rw[hH];exact trivial) (.inl rfl) (fun b' u hb hu=>(YC s.heap (Obj.mapSeq f) (Yj hb)).trans hu) ⟨_,q⟩ ?_;exact⟨hz,its',_,hv,q⟩
theorem Inv.lnew{its:List Value}{t':Nat}(I:Inv X pins σ H s)(hv:Vals ys its)(hz:ys.length<=sizeLine) :
  Inv X pins σ (upd H s.heap.objs.size (.lst ys)) { s with heap:=s.heap.push { cls:=.type "list",data:=.seq its.toArray },toks:=t' } :=
 I.laid (fun _ _ q=>Za _ q) (Ze _) ⟨hz,its,0,hv,Zk _ rfl⟩
theorem Inv.fresh(I:Inv X pins σ H s):H s.heap.objs.size=none:=I.hok.fresh (Ze _)
theorem Inv.lstM(I:Inv X pins σ H s)(hH:H l=some (.lst xs)):xs.length<=sizeLine/\∃(its:List Value) (n:Nat),Vals xs its/\xs.length=its.length/\s.heap.get? l=some { cls:=.type "list",data:=.seq its.toArray n }:=by obtain⟨z,its,n,r,e⟩:=I.hok l _ hH;exact⟨z,its,n,r,r.length,e⟩
theorem zD{n:Nat}(h:n<=sizeLine):Builtin.List.listTooLong n=false:=by unfold Builtin.List.listTooLong;exact decide_eq_false (by omega)
end
section
variable{X:Cx}
def nE:V->List V->Hp->VK->Prop:=fun x vs H Q=>∃l xs y,x=.ref l/\vs=[y]/\H l=some (.lst xs)/\xs.length<sizeLine/\Q .non (upd H l (.lst (xs++[y])))
theorem xA:MtM X "list.append" nE:=by intro pins s σ H x vs v us Q I rx rv h;obtain⟨l,xs,y,rfl,rfl,hH,hz,q⟩:=h;cases rx;obtain⟨u,rfl,ru⟩:=rv.one;obtain⟨z,its,n,r,hl,e⟩:=I.lstM hH;refine call_meets F.slot_list_append ⟨_,e,rfl⟩ F.entry_list_append (F.args_list_append_2 _ _) (PySem.list_append l its.toArray n u (by rw[Zh];omega)) ⟨e,?_⟩;refine⟨.non,_,I.lset (its':=its++[u]) hH e (by simp) (r.append (.cons ru .nil)) ?_,rfl,q⟩;rw[Zi,ZU];omega
def Eg:R2:=fun x y H Q=>∃l b xs zs,x=.ref l/\y=.ref b/\H l=some (.lst xs)/\H b=some (.lst zs)/\xs.length+zs.length<=sizeLine/\∀p,H p=none->Q (.ref p) (upd H p (.lst (xs++zs)))
theorem Dp:OpR X (binaryOp .Add) Eg:=by
 intro pins s σ H x y v u Q I rx ry h;obtain⟨l,b,xs,zs,rfl,rfl,hH,hB,hz,q⟩:=h;cases rx;cases ry;obtain⟨z,its,n,r,hl,e⟩:=I.lstM hH;obtain⟨z2,its2,n2,r2,hl2,e2⟩:=I.lstM hB;refine PySem.P.add_list e e2 ?_ (by rw[Zh,Zh];omega);have ea:its.toArray++its2.toArray=(its++its2).toArray:=by simp
 rw[ea];exact⟨.ref _,_,I.lnew (t':=s.toks) (r.append r2) (by rw[Zi];omega),rfl,q _ I.fresh⟩
def Ek:R2:=fun x y H Q=>∃l k xs,x=.ref l/\y=.int k/\H l=some (.lst xs)/\-(2^63)<=k/\k<2^63/\xs.length*k.toNat<=sizeLine /\
 ∀p,H p=none->Q (.ref p) (upd H p (.lst (List.replicate k.toNat xs).flatten))
theorem mV{α:Type}(xs:List α)(k:Nat):(List.replicate k xs).flatten.length=k*xs.length:=by
 induction k with
 |zero=>simp
 |succ k ih=>rw[Y4,YE,Zi,ih,Nat.succ_mul,Nat.add_comm]
theorem Dw:OpR X (binaryOp .Mult) Ek:=by
 intro pins s σ H x y v u Q I rx ry h;obtain⟨l,k,xs,rfl,rfl,hH,h1,h2,hz,q⟩:=h;cases rx;obtain⟨t,rfl⟩:=ry;obtain⟨z,its,n,r,hl,e⟩:=I.lstM hH;have hlen:its.toArray.size*k.toNat<=sizeLine:=by rw[Zh,<-hl];exact hz
 have hcap:¬its.toArray.size*k.toNat>(2^63-1) / 8:=by
  have:(sizeLine:Nat)<=(2^63-1) / 8:=by decide
  omega
 have hfit:¬(!Builtin.List.listFitsIndex k)=true:=by rw[fitsIndex_both h1 h2];exact Zr
 have hlong:¬Builtin.List.listTooLong (its.toArray.size*k.toNat)=true:=by rw[zD hlen];exact Zr
 have hnew:List.foldl (fun x1 x2=>x1++x2) #[] (List.replicate (if its.toArray.isEmpty=true then 0 else k.toNat) its.toArray)=(List.replicate k.toNat its).flatten.toArray:=by
  have f0:∀m:Nat,List.foldl (fun x1 x2=>x1++x2) #[] (List.replicate m its.toArray)=(List.replicate m its).flatten.toArray:=fun m=>by have:=iU its m [];rw[x5]at this;exact this
  rw[f0];cases its with
  |nil=>simp
  |cons a r'=>rw[if_neg (by simp)]
 refine wpAny_binaryOp_repeat_ref (T:="list") (U:="int") (by decide) ⟨_,e,rfl⟩ (fun s'=>typeIs_int s' k t) noFill_list_mul F.fills_int_mul F.slot_int_rmul repeat_list F.slot_int_index.lookup
  (call_meets F.slot_int_rmul (typeIs_int s k t) F.entry_int_rmul (F.args_int_rmul_2 _ _) (int___rmul___int_list k t l its.toArray n)
   ⟨e,rfl,⟨_,e,rfl⟩,call_meets F.slot_list_mul ⟨_,e,rfl⟩ F.entry_list_mul (F.args_list_mul_2 _ _) (AutoListH.list___mul___list_int_3 l its.toArray n k t hfit hcap hlong) ⟨e,?_⟩⟩)
 rw[hnew];exact⟨.ref _,_,I.lnew (t':=s.toks) (r.rep k.toNat) (by rw[mV,Nat.mul_comm];exact hz),rfl,q _ I.fresh⟩
end
open PySem PySem.Spec PyProof.Rows
section
variable{κ:Type}[DecidableEq κ]
def bw(kvs:List (κ×V))(k:κ):Option V:=(kvs.find? fun kv=>decide (kv.1=k)).map (·.2)
def dg(kvs:List (κ×V))(k:κ)(v:V):List (κ×V) :=
 if(kvs.any fun kv=>decide (kv.1=k))=true then kvs.map (fun kv=>if kv.1=k then(kv.1,v)else kv)else kvs++[(k,v)]
theorem kO{p:κ×V}{r:List (κ×V)}{k:κ}(e:p.1=k):bw (p::r) k=some p.2:=by simp[bw,List.find?_cons,e]
theorem kN{p:κ×V}{r:List (κ×V)}{k:κ}(e:¬p.1=k):bw (p::r) k=bw r k:=by simp[bw,List.find?_cons,e]
theorem kM(k:κ):∀kvs:List (κ×V),(kvs.any fun kv=>decide (kv.1=k))=(bw kvs k).isSome
 | []=>rfl
 |p::r=>by
  rw[List.any_cons];by_cases e:p.1=k
  ·simp only[kO e,decide_eq_true e,Bool.true_or,Option.isSome_some]
  ·rw[kN e,decide_eq_false e,Bool.false_or];exact kM k r
theorem jU(kvs:List (κ×V))(k:κ)(v:V):(dg kvs k v).length<=kvs.length+1:=by
 unfold dg;split
 ·rw[z9];omega
 ·rw[Zi,Zt,List.length_nil];omega
theorem iD{kvs:List (κ×V)}{k:κ}(v:V)(h:bw kvs k=none):dg kvs k v=kvs++[(k,v)]:=by unfold dg;rw[kM,h];exact if_neg (by decide)
theorem RelO.isSome_eq{o:Option V}{u:Option Value}(r:RelO o u):o.isSome=u.isSome:=by
 cases o with
 |none=>cases u with
  |none=>rfl
  |some _=>exact(show False from r).elim
 |some _=>cases u with
  |none=>exact(show False from r).elim
  |some _=>rfl
theorem KV.val{kvs:List (κ×V)}{vs:List (κ×Value)}(r:KV kvs vs)(k:κ):RelO (bw kvs k) (valueAt vs k):=by
 unfold KV at r;induction r with
 |nil=>exact True.intro
 |@cons p q ps qs h t ih =>
  obtain⟨h1,h2⟩:=h;by_cases e:p.1=k
  ·have e':q.1=k:=h1.symm.trans e;have b:valueAt (q::qs) k=some q.2:=by simp[valueAt,List.find?_cons,e']
   rw[kO e,b];exact h2
  ·have e':¬q.1=k:=fun z=>e (h1.trans z);have b:valueAt (q::qs) k=valueAt qs k:=by simp[valueAt,List.find?_cons,e']
   rw[kN e,b];exact ih
theorem KV.any{kvs:List (κ×V)}{vs:List (κ×Value)}(r:KV kvs vs)(k:κ):(kvs.any fun kv=>decide (kv.1=k))=vs.any fun kv=>decide (kv.1=k):=by
 unfold KV at r;induction r with
 |nil=>rfl
 |cons h t ih=>rw[List.any_cons,List.any_cons,ih,h.1]
theorem KV.repl{kvs:List (κ×V)}{vs:List (κ×Value)}(r:KV kvs vs)(k:κ){y:V}{u:Value}(ry:RelV y u) :
  KV (kvs.map fun kv=>if kv.1=k then(kv.1,y)else kv) (vs.map fun kv=>if kv.1=k then(kv.1,u)else kv):=by
 unfold KV at r ⊢;induction r with
 |nil=>exact .nil
 |@cons p q ps qs h t ih =>
  rw[Z0,Z0];refine .cons ?_ ih;obtain⟨h1,h2⟩:=h;by_cases e:p.1=k
  ·rw[if_pos e,if_pos (h1.symm.trans e)];exact⟨h1,ry⟩
  ·rw[if_neg e,if_neg (fun z=>e (h1.trans z))];exact⟨h1,h2⟩
theorem KV.put{kvs:List (κ×V)}{vs:List (κ×Value)}(r:KV kvs vs)(k:κ){y:V}{u:Value}(ry:RelV y u):KV (dg kvs k y) (stored vs k u):=by
 unfold dg stored;rw[r.any k];by_cases e:(vs.any fun kv=>decide (kv.1=k))=true
 ·rw[if_pos e,if_pos e];exact r.repl k ry
 ·rw[if_neg e,if_neg e];exact Paired.snoc r ⟨rfl,ry⟩
theorem KV.length{kvs:List (κ×V)}{vs:List (κ×Value)}(r:KV kvs vs):kvs.length=vs.length:=YA r
end
theorem lF{P:Program}{w:World}{k:Key}{u:Value}(r:RelV (kV k) u):(bN P w).is k u=true:=by
 cases k with
 |inl i=>obtain⟨t,e⟩:=(show∃t,u=Value.int i t from r);subst e;exact rZ P w i t
 |inr x=>obtain⟨t,e⟩:=(show∃t,u=Value.str x t from r);subst e;exact se P w x t
theorem oG{P:Program}{w:World}:∀{ks:List Key} {us:List Value},Vals (ks.map kV) us->ItemsAre (bN P w) ks us
 | [],_,r=>by rw[List.map_nil]at r;cases r;exact .nil
 |k::ks,_,r=>by
  rw[Z0]at r;cases r with
  |cons h t=>exact .cons (lF h) (oG t)
abbrev KT(H:Hp):List (List Key×V)->List (List Key×Addr×Value)->Prop:=Paired fun p q=>p.1=q.1/\H q.2.1=some (.tup (p.1.map kV))/\RelV p.2 q.2.2
theorem KT.val{H:Hp}{kvs:List (List Key×V)}{xs:List (List Key×Addr×Value)}(r:KT H kvs xs)(k:List Key):RelO (bw kvs k) ((atKey xs k).map (·.2)):=by
 induction r with
 |nil=>exact True.intro
 |@cons p q ps qs h t ih =>
  obtain⟨h1,_,h2⟩:=h;by_cases e:p.1=k
  ·have e':q.1=k:=h1.symm.trans e;have b:atKey (q::qs) k=some q.2:=by simp[atKey,List.find?_cons,e']
   rw[kO e,b];exact h2
  ·have e':¬q.1=k:=fun z=>e (h1.trans z);have b:atKey (q::qs) k=atKey qs k:=by simp[atKey,List.find?_cons,e']
   rw[kN e,b];exact ih
theorem KT.repl{H:Hp}{kvs:List (List Key×V)}{xs:List (List Key×Addr×Value)}(r:KT H kvs xs)(k:List Key){y:V}{u:Value}(ry:RelV y u) :
  KT H (kvs.map fun kv=>if kv.1=k then(kv.1,y)else kv) (xs.map (putAt k u)):=by
 induction r with
 |nil=>exact .nil
 |@cons p q ps qs h t ih =>
  rw[Z0,Z0];refine .cons ?_ ih;obtain⟨h1,h2,h3⟩:=h;unfold putAt;by_cases e:p.1=k
  ·rw[if_pos e,if_pos (h1.symm.trans e)];exact⟨h1,h2,ry⟩
  ·rw[if_neg e,if_neg (fun z=>e (h1.trans z))];exact⟨h1,h2,h3⟩
theorem KT.put{H:Hp}{kvs:List (List Key×V)}{xs:List (List Key×Addr×Value)}(r:KT H kvs xs)(k:List Key){b:Addr}{y:V}{u:Value}(hb:H b=some (.tup (k.map kV)))(ry:RelV y u) :
  KT H (dg kvs k y) (storedH xs k b u):=by
 have e:(kvs.any fun kv=>decide (kv.1=k))=(atKey xs k).isSome:=by rw[kM,(r.val k).isSome_eq,Option.isSome_map]
 unfold dg storedH;rw[e];by_cases q:(atKey xs k).isSome=true
 ·rw[if_pos q,if_pos q];exact r.repl k ry
 ·rw[if_neg q,if_neg q];exact Paired.snoc r ⟨rfl,hb,ry⟩
theorem KT.keeps{H H':Hp}{kvs:List (List Key×V)}{xs:List (List Key×Addr×Value)}(r:KT H kvs xs)(ht:∀b ys,H b=some (.tup ys)->H' b=some (.tup ys)):KT H' kvs xs :=
 Paired.mapP r fun _ _ z=>⟨z.1,ht _ _ z.2.1,z.2.2⟩
section
variable{P:Program}{w:World}{H:Hp}{h:Heap}{a:Addr}
theorem A8{u:HO}(ok:HOk P w H h)(e:Rd H a u):ObjOk P w H h a u:=e.ok ok
theorem jx{kvs:List (Key×V)}(ok:HOk P w H h)(e:Rd H a (.dK kvs)):kvs.length<=sizeLine/\(a==sysModules)=false/\∃vs,KV kvs vs/\h.DictOf (bN P w) a vs :=
 show ObjOk P w H h a (.dK kvs)from A8 ok e
theorem EW{kvs:List (Key×V)}(ok:HOk P w H h)(e:H a=some (.dK kvs)):kvs.length<=sizeLine/\(a==sysModules)=false/\∃vs,KV kvs vs/\h.DictOf (bN P w) a vs:=jx ok (.inl e)
theorem iZ{ks:List Key}(ok:HOk P w H h)(e:H a=some (.tup (ks.map kV))):(tupleKind (bN P w)).is h ks a:=by
 obtain⟨_,its,r,o,h1,h2,n,h3⟩:=(show ObjOk P w H h a (.tup (ks.map kV))from ok a _ e)
 exact⟨o,its.toArray,n,h1,h2,h3,by simpa using oG r⟩
theorem gi{kvs:List (List Key×V)}(ok:HOk P w H h)(e:Rd H a (.dT kvs)):kvs.length<=sizeLine/\(a==sysModules)=false /\
  ∃xs,KT H kvs xs/\h.DictOfH (tupleKind (bN P w)) a xs:=by
 obtain⟨z,y,xs,r,o,es,ep,h1,h2,h3,h4,h5⟩:=(show ObjOk P w H h a (.dT kvs)from A8 ok e)
 refine⟨z,y,xs,r,o,es,ep,h1,h2,h3,h4,fun x hx=>?_,h5⟩;have all:∀{l:List (List Key×V)} {m:List (List Key×Addr×Value)},KT H l m->∀x∈m,(tupleKind (bN P w)).is h x.1 x.2.1:=by
  intro l m q;induction q with
  |nil=>intro x hx;exact nomatch hx
  |@cons p q ps qs hq t ih =>
   intro x hx;rcases Zs.mp hx with e|hx
   ·subst e;exact iZ ok (by rw[<-hq.1];exact hq.2.1)
   ·exact ih x hx
 exact all r x hx
theorem EX{kvs:List (List Key×V)}(ok:HOk P w H h)(e:H a=some (.dT kvs)):kvs.length<=sizeLine/\(a==sysModules)=false /\
  ∃xs,KT H kvs xs/\h.DictOfH (tupleKind (bN P w)) a xs:=gi ok (.inl e)
end
def iP(H:Hp)(a:Addr)(y:V)(r:Option V):Prop :=
 (∃kvs k,Rd H a (.dK kvs)/\y=kV k/\r=bw kvs k)\/∃kvs k b,Rd H a (.dT kvs)/\y=.ref b/\H b=some (.tup (k.map kV))/\r=bw kvs k
def CD(H:Hp)(a:Addr)(y v:V)(H':Hp):Prop :=
 (∃kvs k,H a=some (.dK kvs)/\y=kV k/\kvs.length<sizeLine/\H'=upd H a (.dK (dg kvs k v))) \/
 ∃kvs k b,H a=some (.dT kvs)/\y=.ref b/\H b=some (.tup (k.map kV))/\kvs.length<sizeLine/\H'=upd H a (.dT (dg kvs k v))
section
variable{X:Cx}{pins:List (Addr×Obj)}{σ:St}{H:Hp}{s:Shared}{a:Addr}{y v:V}{u r:Value}{o:Option V}{A:Around}{E:Value->Shared->Prop}
theorem Inv.big(I:Inv X pins σ H s):sysModules<s.heap.objs.size:=by have h:mainGlobals<s.heap.objs.size:=(I.mod.glob.keeps I.bk).lt;exact Nat.lt_trans (by decide) h
theorem wJ{Q:Value->Shared->Prop}(hu:A.units+1<cLine)(I:Inv X pins σ H s)(g:iP H a y (some v))(ry:RelV y u)(h:∀w' s',Inv X pins σ H s'->RelV v w'->Q w' s') :
  wpAny (model X.prog X.w) A (getItem (.ref a) u) Q E s:=by
 rcases g with⟨kvs,k,e,ey,l⟩|⟨kvs,k,b,e,ey,eb,l⟩
 ·subst ey;obtain⟨z,hd,vs,rel,dd⟩:=jx I.hok e;obtain⟨w',hw,rw'⟩:=RelO.some_of (v:=v) (o:=valueAt vs k) (by rw[l];exact rel.val k);exact wpAny_getItem_of (lF ry) dd.mapOf hw (h w' _ (I.tok _) rw')
 ·subst ey;cases(show u=Value.ref b from ry);obtain⟨z,hd,xs,rel,dd⟩:=gi I.hok e;obtain⟨w',hw,rw'⟩:=RelO.some_of (v:=v) (o:=(atKey xs k).map (·.2)) (by rw[l];exact rel.val k);obtain⟨p,hp,hp2⟩:=Ys.mp hw;refine wpAny_getItem_heap (tupleKind_room_in1 hu) (iZ I.hok eb) dd hp ?_;rw[hp2];exact h w' _ (I.tok _) rw'
theorem FM{Q:Value->Shared->Prop}(hu:A.units+1<cLine)(I:Inv X pins σ H s)(g:iP H a y o)(ry:RelV y u)(h:∀s',Inv X pins σ H s'->Q (.bool o.isSome) s') :
  wpAny (model X.prog X.w) A (compareOp .In u (.ref a)) Q E s:=by
 rcases g with⟨kvs,k,e,ey,l⟩|⟨kvs,k,b,e,ey,eb,l⟩
 ·subst ey;obtain⟨z,hd,vs,rel,dd⟩:=jx I.hok e;refine wpAny_in_of (lF ry) hd dd.mapOf ?_;rw[<-(rel.val k).isSome_eq,<-l];exact h _ (I.tok _)
 ·subst ey;cases(show u=Value.ref b from ry);obtain⟨z,hd,xs,rel,dd⟩:=gi I.hok e;refine wpAny_in_heap (tupleKind_room_in1 hu) (iZ I.hok eb) hd dd ?_;have q:=(rel.val k).isSome_eq;rw[Option.isSome_map]at q;rw[<-q,<-l];exact h _ (I.tok _)
theorem By{Q:Value->Shared->Prop}(hu:A.units+1<cLine)(I:Inv X pins σ H s)(g:iP H a y o)(ry:RelV y u)(h:∀s',Inv X pins σ H s'->Q (.bool (!o.isSome)) s') :
  wpAny (model X.prog X.w) A (compareOp .NotIn u (.ref a)) Q E s:=by
 rcases g with⟨kvs,k,e,ey,l⟩|⟨kvs,k,b,e,ey,eb,l⟩
 ·subst ey;obtain⟨z,hd,vs,rel,dd⟩:=jx I.hok e;refine wpAny_notIn_of (lF ry) hd dd.mapOf ?_;rw[<-(rel.val k).isSome_eq,<-l];exact h _ (I.tok _)
 ·subst ey;cases(show u=Value.ref b from ry);obtain⟨z,hd,xs,rel,dd⟩:=gi I.hok e;refine wpAny_notIn_heap (tupleKind_room_in1 hu) (iZ I.hok eb) hd dd ?_;have q:=(rel.val k).isSome_eq;rw[Option.isSome_map]at q;rw[<-q,<-l];exact h _ (I.tok _)
theorem sR{h':Heap}{t':Nat}{ob:HO}(I:Inv X pins σ H s)(mu:Mut (H a))(hs:Heap.SameBut a s.heap h')(he:∃q,h'.get? a=some q)(new:ObjOk X.prog X.w (upd H a ob) h' a ob) :
  Inv X pins σ (upd H a ob) { s with heap:=h',toks:=t' } :=
 I.write (x:=a) (e:=a) mu (.inl rfl) (fun b q hb z=>(hs.2 b hb).trans z) he new
theorem CO{P:Program}{w:World}{H':Hp}{h':Heap}{kvs:List (Key×V)}{vs:List (Key×Value)}(z:kvs.length<=sizeLine)(hd:(a==sysModules)=false)(rel:KV kvs vs)(dd:h'.DictOf (bN P w) a vs) :
  ObjOk P w H' h' a (.dK kvs):=⟨z,hd,vs,rel,dd⟩
theorem wK{H':Hp}{Q:Unit->Shared->Prop}(hu:A.units+1<cLine)(I:Inv X pins σ H s)(g:CD H a y v H')(ry:RelV y u)(rv:RelV v r)(h:∀s',Inv X pins σ H' s'->Q () s') :
  wpAny (model X.prog X.w) A (setItem (.ref a) u r) Q E s:=by
 rcases g with⟨kvs,k,e,ey,l,eH⟩|⟨kvs,k,b,e,ey,eb,l,eH⟩
 ·subst ey eH;obtain⟨z,hd,vs,rel,dd⟩:=EW I.hok e;have hz:vs.length<=sizeLine:=by rw[<-rel.length];exact z
  have hl:(dg kvs k v).length<=sizeLine:=by have:=jU kvs k v;omega
  refine wpAny_setItem_pairs (hsz:=hz) (lF ry) dd fun h' dd' hs=>h _ ?_;have he:∃q,h'.get? a=some q:=let⟨q,_,_,hq,_⟩:=dd';⟨q,hq⟩
  exact sR I (by rw[e];exact True.intro) hs he (CO hl hd (rel.put k rv) dd')
 ·subst ey eH;cases(show u=Value.ref b from ry);obtain⟨z,hd,xs,rel,dd⟩:=EX I.hok e;have hz:xs.length<=sizeLine:=by rw[<-YA rel];exact z
  have hl:(dg kvs k v).length<=sizeLine:=by have:=jU kvs k v;omega
  refine wpAny_setItem_heap (hsz:=hz) (tupleKind_room_in1 hu) (iZ I.hok eb) dd fun h' dd' hs=>h _ ?_;obtain⟨q,es,ep,hq,h2,h3,h4,_,h5⟩:=dd';refine sR I (by rw[e];exact True.intro) hs ⟨q,hq⟩ ⟨hl,hd,_,(rel.put k eb rv).keeps fun c ys ec=>?_,q,es,ep,hq,h2,h3,h4,h5⟩;rw[af (E5 ec e (fun z=>nomatch z))];exact ec
end
def yK(i:Expr):Prop:=∀ov iv,subscripted i false ov iv=operate [ov,iv] (getItem ov iv)
theorem Co{prog:Program}{w:World}{A:Around}{E:Value->Shared->Prop}{s:Shared}{env:Env}{value slice:Expr}{pos:Pos}{T id:String}{Q:Value->Shared->Prop}(hl:typeLookup (.type T) "__getitem__" = pure (some (.builtin id)))(hs:yK slice)(h:wpAny (model prog w) A (eval value env) (fun o s₁=>wpAny (model prog w) A (eval slice env) (fun i s₂=>s₂.TypeIs o T/\wpAny (model prog w) A (getItem o i) Q E s₂) E s₁) E s) :
  wpAny (model prog w) A (eval (.Subscript value slice pos) env) Q E s:=by
 refine Subscript_ (Z4 h (fun o s₁ h₁=>Z4 h₁ (fun i s₂ h₂=>?_) fun _ _ x=>x) fun _ _ x=>x);obtain⟨hT,h₂⟩:=h₂;unfold subscriptTail;refine z6 ?_;rw[getitemInPython_of_ne hT.not_modules];refine z6 (wpAny_specialOf hT hl ?_);have fin:wpAny (model prog w) A (subscripted slice false o i) (fun r s₃=>wpAny (model prog w) A (letTemporaryGo value o r >>= fun _=>pure r) Q E s₃) E s₂:=by rw[hs o i];exact wpAny_operating (Z4 h₂ (fun r s₃ h₃=>z6 (wpAny_letTemporaryGo (Zd h₃))) fun _ _ x=>x)
 first
  |exact Zd (z6 fin)
  |exact z6 (Zd (z6 fin))
  |exact z6 fin
theorem rW{X:Cx}{pins:List (Addr×Obj)}{σ:St}{H:Hp}{s:Shared}{a:Addr}{y:V}{o:Option V}(I:Inv X pins σ H s)(g:iP H a y o):s.TypeIs (.ref a) "dict":=by
 rcases g with⟨kvs,k,e,_,_⟩|⟨kvs,k,b,e,_,_,_⟩
 ·obtain⟨_,_,vs,_,dd⟩:=jx I.hok e;exact dd.typeIs
 ·obtain⟨_,_,xs,_,dd⟩:=gi I.hok e;exact dd.typeIs
def Be(td ty:TE):TE:=fun σ H Q=>td σ H fun x H1=>ty σ H1 fun y H2=>∃a v,x=.ref a/\iP H2 a y (some v)/\Q v H2
def Au(ty td:TE):TE:=fun σ H Q=>ty σ H fun y H1=>td σ H1 fun x H2=>∃a o,x=.ref a/\iP H2 a y o/\Q (.bl o.isSome) H2
def uk(ty td:TE):TE:=fun σ H Q=>ty σ H fun y H1=>td σ H1 fun x H2=>∃a o,x=.ref a/\iP H2 a y o/\Q (.bl (!o.isSome)) H2
def A9(td ty tv:TE):TS:=fun D σ H=>tv σ H fun v H1=>td σ H1 fun x H2=>ty σ H2 fun y H3=>∃a H4,x=.ref a/\CD H3 a y v H4/\D.nx σ H4
section
variable{X:Cx}{o i e value:Expr}{pos pos' tpos:Pos}{td ty tv:TE}
theorem BZ(hu:X.A.units+1<cLine)(ho:PE X o td)(hi:PE X i ty)(hs:yK i):PE X (.Subscript o i pos) (Be td ty):=by intro pins s σ H Q I h;refine Co PySem.F.slot_dict_getitem.lookup hs (thn (ho pins s σ H _ I h) fun u s1 ⟨x,H1,I1,rx,q1⟩=>thn (hi pins s1 σ H1 _ I1 q1) fun iv s2 hz9=>?_);obtain⟨y,H2,I2,ry,a,v,ex,g,q2⟩:=hz9;subst ex;obtain rfl:u=Value.ref a:=rx;exact⟨rW I2 g,wJ hu I2 g ry fun w' s3 I3 rw'=>⟨v,H2,I3,rw',q2⟩⟩
theorem xM(hu:X.A.units+1<cLine)(hi:PE X i ty)(ho:PE X o td):PC X .In i o (Au ty td):=by intro pins s σ H Q I h;refine thn (hi pins s σ H _ I h) fun iv s1 ⟨y,H1,I1,ry,q1⟩=>thn (ho pins s1 σ H1 _ I1 q1) fun u s2 hz9=>?_;obtain⟨x,H2,I2,rx,a,ov,ex,g,q2⟩:=hz9;subst ex;obtain rfl:u=Value.ref a:=rx;exact FM hu I2 g ry fun s3 I3=>⟨.bl ov.isSome,H2,I3,rfl,q2⟩
theorem xN(hu:X.A.units+1<cLine)(hi:PE X i ty)(ho:PE X o td):PC X .NotIn i o (uk ty td):=by intro pins s σ H Q I h;refine thn (hi pins s σ H _ I h) fun iv s1 ⟨y,H1,I1,ry,q1⟩=>thn (ho pins s1 σ H1 _ I1 q1) fun u s2 hz9=>?_;obtain⟨x,H2,I2,rx,a,ov,ex,g,q2⟩:=hz9;subst ex;obtain rfl:u=Value.ref a:=rx;exact By hu I2 g ry fun s3 I3=>⟨.bl (!ov.isSome),H2,I3,rfl,q2⟩
theorem Cb(hu:X.A.units+1<cLine)(ho:PE X o td)(hi:PE X i ty)(hv:PE X value tv)(hs:swapsWith value (some (.Subscript o i pos')) pos.line X.env=pure false) :
  PS X (.Assign [.Subscript o i pos'] value pos) (A9 td ty tv):=by
 intro pins s σ H D I h;refine wpAny_Assign_Subscript (thn (hv pins s σ H _ I h) fun r s1 ⟨v,H1,I1,rv,q1⟩=>thn (ho pins s1 σ H1 _ I1 q1) fun u s2 ⟨x,H2,I2,rx,q2⟩=>thn (hi pins s2 σ H2 _ I2 q2) fun iv s3 hz9=>?_) hs;obtain⟨y,H3,I3,ry,a,H4,ex,g,q3⟩:=hz9;subst ex;obtain rfl:u=Value.ref a:=rx;exact wK hu I3 g ry rv fun s4 I4=>⟨σ,H4,I4,q3⟩
end
theorem yX{P:Program}{w:World}{H:Hp}(h:Heap)(hb:sysModules<h.objs.size):ObjOk P w H (h.push { cls:=.type "dict",data:=.dict #[] }) h.objs.size (.dT []) :=
 ⟨ZZ _,beq_eq_false_iff_ne.mpr (Yj (ZB hb)),[],.nil,_,#[],0,Zk _ rfl,⟨rfl,rfl,rfl⟩,rfl,rfl,List.nodup_nil⟩
def yp:TE:=fun _ H Q=>∀p,H p=none->Q (.ref p) (upd H p (.dT []))
section
variable{X:Cx}{pos:Pos}
theorem zS:PE X (.Dict [] [] pos) yp:=fun pins s σ H Q I h =>
 wpAny_Dict_empty ⟨.ref s.heap.objs.size,_,I.laid (a:=s.heap.objs.size) (o:=.dT []) (t':=s.toks) (fun _ _ q=>Za _ q) (Ze _) (yX s.heap I.big),rfl,h _ (I.hok.fresh (Ze _))⟩
end
def yq:List (TE×TE)->St->Hp->(List (V×V)->Hp->Prop)->Prop
 | [],_,H,Q=>Q [] H
 |(tk,tv)::r,σ,H,Q=>tk σ H fun x H1=>tv σ H1 fun y H2=>yq r σ H2 fun ps H3=>Q ((x,y)::ps) H3
abbrev VV:List (V×V)->List (Value×Value)->Prop:=Paired fun p q=>RelV p.1 q.1/\RelV p.2 q.2
def PPs(X:Cx)(pos:Pos)(keys:List (Option Expr))(values:List Expr)(trs:List (TE×TE)):Prop :=
 ∀(pins:List (Addr×Obj)) (s:Shared) (σ:St) (H:Hp) (Q:List (V×V)->Hp->Prop),Inv X pins σ H s->yq trs σ H Q ->
  wpAny (model X.prog X.w) X.A (evalPairs (pairTrees keys values X.env pos)) (fun vs s'=>∃ps H',Inv X pins σ H' s'/\VV ps vs/\Q ps H') X.xe s
structure M1(X:Cx)(o:Expr)(m:Str)(apos:Pos)(e:Expr)(cpos:Pos):Prop where
 base:attributeBase o m X.env (eval o X.env)=eval o X.env
 few:((backTo cpos (starEach [e] X.env)).all (fun x=>!x.1)&&(backToKw cpos (keywordEach [] X.env)).all (fun x=>x.1.isSome)
 &&decide (([e]:List Expr).length+([]:List Keyword).length+(if ([]:List Keyword).isEmpty then 0 else 1)<30))=true
 line:(apos.endLine==cpos.line)=true
 trees:backTo cpos (starEach [e] X.env)=[(false,eval e X.env)]
structure M2(X:Cx)(o:Expr)(m:Str)(apos:Pos)(e f:Expr)(cpos:Pos):Prop where
 base:attributeBase o m X.env (eval o X.env)=eval o X.env
 few:((backTo cpos (starEach [e,f] X.env)).all (fun x=>!x.1)&&(backToKw cpos (keywordEach [] X.env)).all (fun x=>x.1.isSome)
 &&decide (([e,f]:List Expr).length+([]:List Keyword).length+(if ([]:List Keyword).isEmpty then 0 else 1)<30))=true
 line:(apos.endLine==cpos.line)=true
 trees:backTo cpos (starEach [e,f] X.env)=[(false,eval e X.env),(false,eval f X.env)]
def IsD(H:Hp)(a:Addr):Prop:=(∃kvs,Rd H a (.dK kvs))\/∃kvs,Rd H a (.dT kvs)
theorem C2{X:Cx}{pins:List (Addr×Obj)}{σ:St}{H:Hp}{s:Shared}{a:Addr}(I:Inv X pins σ H s)(d:IsD H a) :
  s.TypeIs (.ref a) "dict"/\(∀b,Value.ref a=.ref b->∃ob,s.heap.get? b=some ob/\ob.dict=none)/\(a==sysModules)=false:=by
 rcases d with⟨kvs,e⟩|⟨kvs,e⟩
 ·obtain⟨_,hd,vs,_,dd⟩:=jx I.hok e;refine⟨dd.typeIs,fun b q=>?_,hd⟩;cases q;obtain⟨ob,_,_,h1,h2,_⟩:=dd;exact⟨ob,h1,h2.2.1⟩
 ·obtain⟨_,hd,xs,_,dd⟩:=gi I.hok e;refine⟨dd.typeIs,fun b q=>?_,hd⟩;cases q;obtain⟨ob,_,_,h1,h2,_⟩:=dd;exact⟨ob,h1,h2.2.1⟩
end L2
namespace Att
open PySem PySem.W PySem.Calls PyProof.Rows
theorem lq{P:Params}{h:Heap}:∀(ns:List Int) (vs:List Value),WellAll P h vs (ns.map WData.int)->IntsAre vs ns:=by
 intro ns;induction ns with
 |nil =>intro vs w;rw[List.map_nil]at w;cases w;exact .nil
 |cons n ns ih =>
  intro vs w;rw[Z0]at w;cases w with
  |cons a b =>cases a;exact .cons _ _ (ih _ b)
theorem yc{l:OpenLaw}{n:Nat}(hn:l.most=some n){P:Params}{h:Heap}{args:List WData}{vals:List Value}(hpre:l.row.toRowW.claim.pre args=true)(hwl:WellAll P h vals args) :
  ∃a vs ns,vals=[Value.ref a]/\args=[WData.list (ns.map WData.int)]/\h.get? a=some { cls:=.type "list",data:=.seq vs.toArray }/\IntsAre vs ns/\ns.length<=n:=by
 have hsh:WShape.hasAll [] args [.list .int]=true:=(pre_splitW hpre).1;have hc:l.pre.holds [] { args:=args }=true:=(pre_splitW hpre).2;obtain⟨d,r,rfl,h1,h2⟩:=hasAllW_cons hsh;obtain rfl:=hasAllW_nil h2;obtain⟨xs,rfl,h3⟩:=hasW_list h1;obtain⟨ns,rfl⟩:=items_int h3;have hlen:ns.length<=n:=by
  unfold OpenLaw.pre at hc;have h4:(WTm.not (.lt (.lit (.int (n:Int))) (.len (.arg 0)))).holds [] { args:=[.list (ns.map .int)] }=true:=by have h4:=(holds_andW hc).1;rw[hn]at h4;exact h4
  have h5:=condW_of h4 (w_not (w_lt w_lit (w_len_list (w_arg rfl))));rw[z9]at h5;refine Nat.le_of_not_lt fun q=>?_;have q':(n:Int)<((ns.length:Nat):Int):=by omega
  first
   |(rw[decide_eq_true q']at h5;exact absurd h5 (by decide))
   |(simp at h5;omega)
 cases hwl with
 |cons w1 w2 =>
  cases w2;cases w1 with
  |list ho hall=>exact⟨_,_,ns,rfl,rfl,ho,lq ns _ hall,hlen⟩
theorem xR(l:OpenLaw)(args:List WData):l.row.toRowW.claim.post args (.bool true) args=true :=
 postW_of (r:=l.row.toRowW) (X:=(true==true))
  (show WShape.has [] (.bool true) .bool=true by first|rfl|decide|simp[WShape.has,WShape.arms,WShape.armsAll])
  (show(WTm.eq .res (.lit (.bool true))).value [] { args:=args,res:=some (.bool true),after:=args }=some (.bool (true==true))from w_eq_bool (w_res rfl) w_lit) rfl
theorem attach_call{l:OpenLaw}{n:Nat}{q:Program}{loose:List Str}{XP:(Str->Option Value)->Heap->Prop}{YP:World->Heap->Prop}{d:DefRec}(hn:l.most=some n)(hdf:d.params.defaults=[])(call:∀ (w:World) (s₀ s₁:Shared) (mg mb:Str->Option Value) (fa:Addr) (o:Obj) (pm cd doc:Value) (a:Addr) (vs:List Value) (ns:List Int),
   Ground q loose [] XP w s₀ mg mb s₁.heap->YP w s₁.heap ->
   s₁.heap.get? fa=some o->o.data=.func (docDef d.name d.params d.body d.scope pm cd doc)->s₁.heap.CodeRec cd d.name->mg d.name=some (.ref fa) ->
   s₁.heap.get? a=some { cls:=.type "list",data:=.seq vs.toArray }->IntsAre vs ns->ns.length<=n->s₁.gens=#[] ->
   codeAny (model l.prog w) callerA (.call (.ref fa) ⟨[.ref a],[]⟩) (fun r s'=>r=.ok (.ret (.bool true))/\OldK s₁.heap s'.heap/\s'.os=s₁.os/\AllBare s'.gens) s₁) :
  WalkO q loose XP YP l.row.toRowW d [] (fun f vs=>PySem.call f vs):=by
 intro w s₀ s₁ mg mb G Y fa o pm cd doc dV kV ho hd hcd hD hmg hg args vals as hpre hlay hrd hwl hlo;obtain rfl:dV=.none:=Dflts.none hD hdf;obtain rfl:kV=.none:=Dflts.noKw hD;obtain⟨a,vs,ns,rfl,rfl,hobj,hints,hlen⟩:=yc hn hpre hwl;refine enter_call (codeAny_mono (call w s₀ s₁ mg mb fa o pm cd doc a vs ns G Y ho (fd_plain hd) hcd hmg hobj hints hlen hg) fun r s' hq=>?_);obtain⟨rfl,h2,h3,h4⟩:=hq;exact⟨.inl ⟨.bool true,.bool true,[],rfl,fun _=>rfl,.bool true,xR l _,fun _=>⟨List.Pairwise.nil,fun _ hm=>(nomatch hm)⟩⟩,h2,h3,h4⟩
end Att
namespace L2
open PySem PySem.Spec PyProof.Rows
theorem oO:∀{vs:List Value} {ns:List Int},IntsAre vs ns->Vals (ns.map V.int) vs
 |_,_,.nil=>.nil
 |_,_,.cons n t h=>.cons ⟨t,rfl⟩ (oO h)
open PySem PySem.Spec PyProof.Rows
open PySem PySem.Spec PyProof.Rows
def fL(s:Stmt)(j:Nat):Stmt:=match s with
 |.ClassDef _ _ _ body _ _ _ _ _ _ _=>body.getD j (.Pass ⟨0,0,0,0⟩)
 |_=>.Pass ⟨0,0,0,0⟩
def cw(s:Stmt):Arguments:=match s with
 |.FunctionDef _ a _ _ _ _ _ _ _ _=>a
 |_=>{ posonlyargs:=[],args:=[],vararg:=none,kwonlyargs:=[],kw_defaults:=[],kwarg:=none,defaults:=[] }
def bF(s:Stmt):List Stmt:=match s with
 |.FunctionDef _ _ b _ _ _ _ _ _ _=>b
 |_=>[]
def aj(s:Stmt):Scope:=match s with
 |.FunctionDef _ _ _ _ _ _ sc _ _ _=>sc
 |_=>{ kind:=.function,names:=[],isGenerator:=false,isCoroutine:=false }
abbrev CX0:CXT:=fun _ _ _ _ _ _=>False
abbrev E0:XK:=fun _ _ _=>False
theorem pF{X:Cx}:fQ CX0 X E0:=fun _ _ _ _ _ _ _ h=>h.elim
structure Fun(K:PySem.W.Frag)(x qual:Str)(st:Stmt)(f:Addr)(fd:FuncData):Prop where
 ex:∃(oc:Value) (od:Option Addr) (kV doc pm:Value) (an:Option Addr) (cdv ct:Value) (osl:Array (Option Value)),
  fd=PySem.W.fnOf x qual (cw st) (bF st) (aj st) .none kV doc pm an cdv ct/\K.lookup f=some ⟨oc,od,.func fd,osl⟩/\PySem.W.codeIn K cdv qual=true
 kp:PySem.W.keepIn K (.ref f)=true
section
variable{P:Program}{w:World}{K:PySem.W.Frag}{mg:Str->Option Value}{base:Heap}
theorem Fun.ok{x qual:Str}{st:Stmt}{f:Addr}{fd:FuncData}{N ps:List Str}{k:Nat}{sp:Sp}(F:Fun K x qual st f fd)(S:FnScope N ps (aj st))(len:∀ vs H Q E,sp vs H Q E->vs.length=ps.length)(hbody:∀ (cdv:Value) (A:Around) (outer:List Env) (s:Shared) (H:Hp) (vs:List V) (Q:VK) (E:XK),Room k (A.deeper (envOfC qual (aj st) s.heap.objs.size f cdv))->sp vs H Q E ->
   ∃ t,PSs (fi CX0 P w K mg base N qual (aj st) f cdv A outer s H E).nox (bF st) t/\t { nx:=fun _ H'=>Q .non H',rt:=Q } (start N vs) H):FnOk P w K mg base CX0 (k+1) f fd ps sp:=by
 obtain⟨oc,od,kV,doc,pm,an,cdv,ct,osl,rfl,lk,hcd⟩:=F.ex;refine AL lk hcd S len fun A outer s H vs Q E hr hsp=>?_;obtain⟨t,h,q⟩:=hbody cdv A outer s H vs Q E hr hsp;exact⟨t,h.nox,q⟩
theorem Fun.binds{x qual:Str}{st:Stmt}{f:Addr}{fd:FuncData}{ps:List Str}(F:Fun K x qual st f fd)(h:∀(kV doc pm:Value) (an:Option Addr) (cdv ct:Value) (us:List Value),us.length=ps.length->bindArgs (PySem.W.fnOf x qual (cw st) (bF st) (aj st) .none kV doc pm an cdv ct) ⟨us,[]⟩=pure (ps.zip us)):Binds K fd ps []:=by obtain⟨oc,od,kV,doc,pm,an,cdv,ct,osl,rfl,lk,hcd⟩:=F.ex;exact .all (h kV doc pm an cdv ct)
theorem wW{x qual:Str}{st:Stmt}{f:Addr}{oc:Value}{od an:Option Addr}{osl:Array (Option Value)}{kV doc pm cdv ct:Value}(l:K.lookup f=some ⟨oc,od,.func (PySem.W.fnOf x qual (cw st) (bF st) (aj st) .none kV doc pm an cdv ct),osl⟩)(c:PySem.W.codeIn K cdv qual=true)(k:PySem.W.keepIn K (.ref f)=true):Fun K x qual st f (PySem.W.fnOf x qual (cw st) (bF st) (aj st) .none kV doc pm an cdv ct):=⟨⟨oc,od,kV,doc,pm,an,cdv,ct,osl,rfl,l,c⟩,k⟩
end
theorem fh{n:Nat}(h:n<=1000):n<sizeLine:=Yo h (by decide)
theorem aF{A B:Prop}(h:B):if false=true then A else B:=by rw[if_neg Zr];exact h
theorem aW{A B:Prop}(h:A):if true=true then A else B:=by rw[if_pos rfl];exact h
theorem iw{c A B:Prop}[Decidable c](h1:c->A)(h2:¬c->B):if c then A else B:=by
 by_cases h:c
 ·rw[if_pos h];exact h1 h
 ·rw[if_neg h];exact h2 h
theorem lC{c A B:Prop}[Decidable c](hc:c)(h:B):if(!decide c)=true then A else B:=by rw[decide_eq_true hc];exact aF h
def Same(H H':Hp):Prop:=∀b o,H b=some o->H' b=some o
theorem Same.refl(H:Hp):Same H H:=fun _ _ h=>h
theorem Same.trans{H H1 H2:Hp}(a:Same H H1)(b:Same H1 H2):Same H H2:=fun c o h=>b c o (a c o h)
theorem Same.free{H H':Hp}(e:Same H H'){l:Addr}(h:H' l=Option.none):H l=Option.none:=by
 cases q:H l with
 |none=>rfl
 |some o =>rw[e l o q]at h;cases h
theorem Same.seq{K:PySem.W.Frag}{H H':Hp}{a:Addr}{xs:List V}(e:Same H H')(h:SqL K H a xs):SqL K H' a xs:=by
 rcases h with(h|⟨o,h⟩)|h
 ·exact .inl (.inl (e _ _ h))
 ·exact .inl (.inr ⟨o,e _ _ h⟩)
 ·exact .inr h
open PySem PySem.Spec PyProof.Rows
open PySem PySem.Spec PyProof.Rows
theorem hJ{env:Env}:∀{names:List (Str×NameKind)} {x:Str} {k:NameKind},
  (names.map fun(n,k)=>if(k==NameKind.free&&env.scope.kind == .function&&env.kindOf n==some .cell)then(n,NameKind.cell)else(n,k)).lookup x=some k ->
  ∃k',names.lookup x=some k'/\(k=k'\/(k'=.free/\k=.cell))
 | [],_,_,h=>by simp at h
 |(n,k0)::r,x,k,h=>by
  have ih:=@hJ env r x k;rw[Z0]at h;by_cases hc:(k0==NameKind.free&&env.scope.kind == .function&&env.kindOf n==some .cell)=true
  ·have e:(if(k0==NameKind.free&&env.scope.kind == .function&&env.kindOf n==some .cell)=true then(n,NameKind.cell)else(n,k0))=(n,NameKind.cell):=if_pos hc;simp only[e]at h;cases hx:x==n with
   |true =>
    simp only[Z5,hx]at h ⊢;have hf:k0=.free:=by have:=hc;simp only[ZN,YY]at this;exact this.1.1
    exact⟨k0,rfl,.inr ⟨hf,(ZO h).symm⟩⟩
   |false =>simp only[Z5,hx]at h ⊢;exact ih h
  ·have e:(if(k0==NameKind.free&&env.scope.kind == .function&&env.kindOf n==some .cell)=true then(n,NameKind.cell)else(n,k0))=(n,k0):=if_neg hc;simp only[e]at h;cases hx:x==n with
   |true =>simp only[Z5,hx]at h ⊢;exact⟨k0,rfl,.inl (ZO h).symm⟩
   |false =>simp only[Z5,hx]at h ⊢;exact ih h
theorem jg{env:Env}:∀{names:List (Str×NameKind)} {x:Str},names.lookup x=some .free ->
  (names.map fun(n,k)=>if(k==NameKind.free&&env.scope.kind == .function&&env.kindOf n==some .cell)then(n,NameKind.cell)else(n,k)).lookup x=some .cell \/
  (names.map fun(n,k)=>if(k==NameKind.free&&env.scope.kind == .function&&env.kindOf n==some .cell)then(n,NameKind.cell)else(n,k)).lookup x=some .free
 | [],_,h=>by simp at h
 |(n,k0)::r,x,h=>by
  have ih:=@jg env r x;rw[Z0];by_cases hc:(k0==NameKind.free&&env.scope.kind == .function&&env.kindOf n==some .cell)=true
  ·have e:(if(k0==NameKind.free&&env.scope.kind == .function&&env.kindOf n==some .cell)=true then(n,NameKind.cell)else(n,k0))=(n,NameKind.cell):=if_pos hc;simp only[e];cases hx:x==n with
   |true =>
    simp only[Z5,hx]at h ⊢
    first|exact .inl rfl|exact .inl trivial
   |false =>simp only[Z5,hx]at h ⊢;exact ih h
  ·have e:(if(k0==NameKind.free&&env.scope.kind == .function&&env.kindOf n==some .cell)=true then(n,NameKind.cell)else(n,k0))=(n,k0):=if_neg hc;simp only[e];cases hx:x==n with
   |true =>simp only[Z5,hx]at h ⊢;exact .inr h
   |false =>simp only[Z5,hx]at h ⊢;exact ih h
def bL(env:Env):List (Str×NameKind)->List (Str×Addr)->List (Str×Addr)
 | [],acc=>acc
 |y::r,acc=>if(y.2==NameKind.free)=true then bL env r ((y.1,(env.cells.lookup y.1).getD 0)::acc)else bL env r acc
theorem mJ{env:Env}:∀{names:List (Str×NameKind)} {acc:List (Str×Addr)},(∀y∈names,y.2=.free->∃c,env.cells.lookup y.1=some c) ->
  (forIn names acc fun(x:Str×NameKind) (cs:List (Str×Addr))=>if(x.2==NameKind.free)=true then do let c ←cellOf env x.1;pure (ForInStep.yield ((x.1,c)::cs))else pure (ForInStep.yield cs):Sem (List (Str×Addr)))=pure (bL env names acc)
 | [],_,_=>rfl
 |y::r,acc,h=>by
  rw[List.forIn_cons];by_cases hy:(y.2==NameKind.free)=true
  ·obtain⟨c,hc⟩:=h y Yn (by simpa using hy);have e:cellOf env y.1=pure c:=by unfold cellOf;rw[hc]
   rw[if_pos hy,e,pure_bind,pure_bind];show(forIn r ((y.1,c)::acc) _:Sem (List (Str×Addr)))=_;rw[mJ fun z hz=>h z (Z2 _ hz)];show _=pure (if(y.2==NameKind.free)=true then bL env r ((y.1,(env.cells.lookup y.1).getD 0)::acc)else bL env r acc);rw[if_pos hy,hc];rfl
  ·rw[if_neg hy,pure_bind];show(forIn r acc _:Sem (List (Str×Addr)))=_;rw[mJ fun z hz=>h z (Z2 _ hz)];show _=pure (if(y.2==NameKind.free)=true then bL env r ((y.1,(env.cells.lookup y.1).getD 0)::acc)else bL env r acc);rw[if_neg hy]
theorem Bu{scope:Scope}{env:Env}(h:∀y∈scope.names,y.2=.free->∃c,env.cells.lookup y.1=some c):closureFor scope env=pure (bL env scope.names []):=by have q:=mJ (env:=env) (names:=scope.names) (acc:=[]) h;unfold closureFor;exact(by first|(simp only[bind_pure];exact q)|(rw[bind_pure];exact q)|exact q)
theorem mK{env:Env}:∀{names:List (Str×NameKind)} {acc:List (Str×Addr)},(∀y∈names,y.2=.free->∃c,env.cells.lookup y.1=some c)->(∀x c,acc.lookup x=some c->env.cells.lookup x=some c) ->
  ∀x c,(bL env names acc).lookup x=some c->env.cells.lookup x=some c
 | [],_,_,ha=>ha
 |y::r,acc,h,ha=>by
  have hr:∀z∈r,z.2=.free->∃c,env.cells.lookup z.1=some c:=fun z hz=>h z (Z2 _ hz);intro x c e;unfold bL at e;by_cases hy:(y.2==NameKind.free)=true
  ·rw[if_pos hy]at e;refine mK hr (fun x' c' e'=>?_) x c e;obtain⟨d,hd⟩:=h y Yn (by simpa using hy);rw[hd,Option.getD_some]at e';cases hx:x'==y.1 with
   |true =>simp only[Z5,hx]at e';have e1:x'=y.1:=eq_of_beq hx;rw[e1,hd];exact e'
   |false =>simp only[Z5,hx]at e';exact ha x' c' e'
  ·rw[if_neg hy]at e;exact mK hr ha x c e
theorem jZ{env:Env}:∀{names:List (Str×NameKind)} {acc:List (Str×Addr)} {x:Str},(∃c,acc.lookup x=some c)->∃c,(bL env names acc).lookup x=some c
 | [],_,_,h=>h
 |y::r,acc,x,h=>by
  unfold bL;by_cases hy:(y.2==NameKind.free)=true
  ·rw[if_pos hy];refine jZ ?_;cases hx:x==y.1 with
   |true=>exact⟨(env.cells.lookup y.1).getD 0,by simp only[Z5,hx]⟩
   |false =>obtain⟨c,e⟩:=h;exact⟨c,by simp only[Z5,hx];exact e⟩
  ·rw[if_neg hy];exact jZ h
theorem mI{env:Env}:∀{names:List (Str×NameKind)} {acc:List (Str×Addr)} {x:Str},names.lookup x=some .free->∃c,(bL env names acc).lookup x=some c
 | [],_,_,h=>by simp at h
 |(n,k)::r,acc,x,h=>by
  unfold bL;cases hx:x==n with
  |true =>
   simp only[Z5,hx]at h;have hy:(k==NameKind.free)=true:=by rw[ZO h];rfl
   rw[if_pos hy];exact jZ ⟨(env.cells.lookup n).getD 0,by simp only[Z5,hx]⟩
  |false =>
   simp only[Z5,hx]at h;by_cases hy:(k==NameKind.free)=true
   ·rw[if_pos hy];exact mI h
   ·rw[if_neg hy];exact mI h
abbrev aO(X:Cx)(scope:Scope)(N':List Str)(C:Addr)(s0:Shared)(H0:Hp)(ex:List Addr):Cx where
 prog:=X.prog
 w:=X.w
 K:=X.K
 mg:=X.mg
 base:=X.base
 A:=X.A
 N:=N'
 s₀:=s0
 H₀:=H0
 env:=compEnvC scope (bL X.env scope.names []) C X.env
 outer:=X.stack
 stack:=X.stack
 ex:=ex
 fn:=fun _=>false
 calm:=X.calm
 pn:=[]
 xe:=fun _ _=>False
def CapOk(X:Cx)(sc:Scope):List Nat->List Str->Prop
 | [],[]=>True
 |j::js,x::xs=>X.N[j]?=some x/\sc.names.lookup x=some .free/\CapOk X sc js xs
 |_,_=>False
theorem CapOk.get{X:Cx}{sc:Scope}:∀{js:List Nat} {xs:List Str} {i:Nat} {x:Str},CapOk X sc js xs->xs[i]?=some x ->
  ∃j,js[i]?=some j/\X.N[j]?=some x/\sc.names.lookup x=some .free
 | [],[],_,_,_,e=>by simp at e
 |j::js,y::xs,0,x,h,e=>by
  obtain⟨h1,h2,_⟩:=h;have e':y=x:=by simpa using e
  subst e';exact⟨j,rfl,h1,h2⟩
 |j::js,y::xs,i+1,x,h,e=>by obtain⟨_,_,h6⟩:=h;obtain⟨j',q⟩:=CapOk.get (i:=i) (x:=x) h6 (by simpa using e);exact⟨j',by simpa using q.1,q.2⟩
 | [],_::_,_,_,h,_=>h.elim
 |_::_,[],_,_,h,_=>h.elim
theorem CapOk.len{X:Cx}{sc:Scope}:∀{js:List Nat} {xs:List Str},CapOk X sc js xs->js.length=xs.length
 | [],[],_=>rfl
 |j::js,y::xs,h=>by obtain⟨_,_,h6⟩:=h;simp[CapOk.len h6]
 | [],_::_,h=>h.elim
 |_::_,[],h=>h.elim
structure CompOk(X:Cx)(scope:Scope)(cap:List Nat)(capN:List Str):Prop where
 kind:scope.kind=.function
 names:∀x∈scope.names,x.2=.local->scope.names.lookup x.1=some .local
 nocell:∀y∈scope.names,y.2≠.cell
 frees:(scope.names.all fun y=>!(y.2==NameKind.free) ||(X.env.kindOf y.1==some .cell ||X.env.kindOf y.1==some .free))=true
 cap:CapOk X scope cap capN
section
variable{X:Cx}{scope:Scope}{cap:List Nat}{capN:List Str}
theorem CompOk.around(O:CompOk X scope cap capN){y:Str×NameKind}(hy:y∈scope.names)(hf:y.2=.free):X.env.kindOf y.1=some .cell\/X.env.kindOf y.1=some .free:=by have q:=Z6.mp O.frees y hy;rw[hf]at q;simpa using q
theorem CompOk.cells(O:CompOk X scope cap capN)(ok:X.Ok):∀y∈scope.names,y.2=.free->∃c,X.env.cells.lookup y.1=some c:=fun y hy hf=>ok.has _ (O.around hy hf)
theorem CompOk.clos(O:CompOk X scope cap capN)(ok:X.Ok):closureFor scope X.env=pure (bL X.env scope.names []):=Bu (O.cells ok)
theorem CompOk.sub(O:CompOk X scope cap capN)(ok:X.Ok):∀x c,(bL X.env scope.names []).lookup x=some c->X.env.cells.lookup x=some c:=mK (O.cells ok) fun x c e=>by simp at e
theorem CompOk.has(_O:CompOk X scope cap capN){x:Str}(h:scope.names.lookup x=some .free):∃c,(bL X.env scope.names []).lookup x=some c:=mI h
end
def bu(n:Nat)(cap:List Nat)(σ:St):St:=List.replicate n none++cap.map (fun j=>(σ[j]?).join)
theorem uN{n:Nat}{cap:List Nat}{σ:St}:(bu n cap σ).length=n+cap.length:=by unfold bu;rw[Zi,List.length_replicate,z9]
theorem kW{n:Nat}{cap:List Nat}{σ:St}{i:Nat}{v:V}(h:(bu n cap σ)[i]?=some (some v)):n<=i/\∃j,cap[i-n]?=some j/\σ[j]?=some (some v):=by
 unfold bu at h;by_cases hi:i<n
 ·rw[Yd (by simpa using hi),List.getElem?_replicate]at h;rw[if_pos hi]at h;cases h
 ·have hi':n<=i:=Nat.le_of_not_lt hi;rw[Z1 (by simpa using hi'),List.length_replicate,Zv]at h;refine⟨hi',?_⟩;cases e:cap[i-n]? with
  |none=>rw[e]at h;cases h
  |some j =>
   rw[e]at h;refine⟨j,rfl,?_⟩;have h':(σ[j]?).join=some v:=by simpa using h
   cases q:σ[j]? with
   |none=>rw[q]at h';cases h'
   |some o =>rw[q]at h';have:o=some v:=h';rw[this]
section
variable{X:Cx}{pins:List (Addr×Obj)}{σ:St}{H:Hp}{s:Shared}{scope:Scope}{cap:List Nat}{capN N':List Str}{C:Addr}{ex:List Addr}
theorem wG(I:Inv X pins σ H s)(O:CompOk X scope cap capN)(hC:s.heap.objs.size<=C)(hex:∀b∈ex,bz X pins H b/\b<s.heap.objs.size):(aO X scope N' C s H ex).Ok where
 mod:=I.ok.mod
 kind:=O.kind
 glob:=I.ok.glob
 blt:=I.ok.blt
 above:=hC
 inj:=fun x y c h1 h2=>I.ok.inj x y c (O.sub I.ok x c h1) (O.sub I.ok y c h2)
 has:=fun x hx=>by
  have hx':(relabel scope X.env).names.lookup x=some .cell\/(relabel scope X.env).names.lookup x=some .free:=hx;have key:∀k,(relabel scope X.env).names.lookup x=some k->(k=.cell\/k=.free)->scope.names.lookup x=some .free:=fun k e hk=>by
   obtain⟨k',e',q⟩:=hJ (env:=X.env) e;rcases q with q|⟨q,_⟩
   ·subst q;rcases hk with z|z
    ·subst z;exact absurd rfl (O.nocell _ (YN e'))
    ·subst z;exact e'
   ·subst q;exact e'
  rcases hx' with e|e
  ·exact O.has (key _ e (.inl rfl))
  ·exact O.has (key _ e (.inr rfl))
 cab:=fun x c h _=>by cases h
 hd:=I.ok.hd
 frames:=I.ok.frames
 stk:=.inl rfl
 exf:=fun b hb=>by obtain⟨⟨f0,f1,f2,f3,f4,f5⟩,lt⟩:=hex b hb;exact⟨ZB (ZA lt hC),fun x c e=>f4 x c (O.sub I.ok x c e)⟩
 bs:=I.bs
 bsz:=ZV I.ok.bsz I.sz
 noex:=fun b o e hb=>by
  obtain⟨⟨f0,f1,f2,f3,f4,f5⟩,lt⟩:=hex b hb;rcases f3 with z|z
  ·exact I.ok.noex b o e z
  ·exact absurd (ZA (Zo e) (ZV I.ok.bsz z)) (YJ _)
 exfs:=fun b hb z=>by
  obtain⟨⟨f0,f1,f2,f3,f4,f5⟩,lt⟩:=hex b hb;rcases Zs.mp (I.stkSub b z)with e|e
  ·exact f1 e
  ·exact f2 e
 funs:=I.stack
 frf:=I.stkFree
theorem xC(I:Inv X pins σ H s){b:Addr}(hb:s.heap.objs.size<=b):b∉frs X.stack:=fun z=>by
 rcases Zs.mp (I.stkSub b z)with e|e
 ·exact absurd (ZA I.lt hb) (by rw[e];exact YJ _)
 ·exact I.nofs hb e
theorem zE(I:Inv X pins σ H s){b:Addr}(hb:s.heap.objs.size<=b):∀x c,X.env.cells.lookup x=some c->c≠b:=fun x c e z=>by obtain⟨v,q⟩:=I.cell x c e;exact absurd (ZA q.lt (by rw[z];exact hb)) (YJ _)
theorem uO{n:Nat}{h1:Heap}{m1:Str->Option Value}{tk:Nat}(I:Inv X pins σ H s)(O:CompOk X scope cap capN)(hN:N'.length=n+capN.length)(hN2:∀i x,n<=i->N'[i]?=some x->capN[i-n]?=some x)(hC:s.heap.objs.size<=C)(hex:∀b∈ex,bz X pins H b/\b<s.heap.objs.size)(hk:∀b o,s.heap.get? b=some o->h1.get? b=some o)(hn:h1.Ns C m1):Inv (aO X scope N' C s H ex) [] (bu n cap σ) H { s with heap:=h1,toks:=tk }:=by
 refine⟨wG I O hC hex,rfl,I.bare,Un.kept hk,⟨m1,hn,fun i x v e1 e2 e3=>?_⟩,fun x c e=>?_,I.hok.fresh hC,fun x c e=>I.freeC x c (O.sub I.ok x c e),fun p hp=>absurd (show p∈([]:List (Addr×Obj))from hp) (by simp),I.hok.kept hk,?_⟩
 ·obtain⟨hi,j,ej,es⟩:=kW e2;obtain⟨j',q1,q2,qf⟩:=O.cap.get (hN2 i x hi e1);have q3:=O.around (YN qf) rfl;have q4:=jg (env:=X.env) qf;obtain⟨c,q5⟩:=O.has qf;have q6:=O.sub I.ok x c q5;rw[q1]at ej;cases ej;obtain⟨m0,hn0,hl0⟩:=I.loc;obtain⟨u,r,l⟩:=hl0 _ x v q2 es (by
   rcases q3 with z|z
   ·exact .inr (.inl z)
   ·exact .inr (.inr z))
  refine⟨u,r,.inr ⟨q4,c,q5,?_⟩⟩;rcases l with⟨k,_⟩|⟨_,c',e',z⟩
  ·rcases q3 with z|z
   ·have z':X.env.kindOf x=some .cell:=z;rw[z']at k;cases k
   ·have z':X.env.kindOf x=some .free:=z;rw[z']at k;cases k
  ·rw[q6]at e';cases e';obtain⟨o,ho,hd⟩:=z;exact⟨o,hk _ _ ho,hd⟩
 ·obtain⟨v,o,ho,hd⟩:=I.cell x c (O.sub I.ok x c e);exact⟨v,o,hk _ _ ho,hd⟩
 ·rw[uN,O.cap.len];exact hN.symm
end
def mE(X:Cx)(ifs:List Expr)(t:TT):Prop :=
 ∀(pins:List (Addr×Obj)) (s:Shared) (σ:St) (H:Hp) (Q:Bool->Hp->Prop),Inv X pins σ H s->t σ H Q ->
  wpAny (model X.prog X.w) X.A (forIn ifs true fun c r=>if r=true then do let ok ←isTrue c X.env (eval c X.env);pure (ForInStep.yield ok)else pure (ForInStep.yield r)) (TP X pins σ Q) X.xe s
def fb:TT:=fun _ H Q=>Q true H
theorem zZ{X:Cx}:mE X [] fb:=fun _ _ _ H _ I h=>wpAny_tests_nil ⟨H,I,h⟩
theorem Aa{X:Cx}{c:Expr}{t:TT}(h:PT X c t):mE X [c] t:=fun pins s σ H Q I hw=>wpAny_tests_one (h pins s σ H Q I hw)
def GK(n:Nat)(g:TG):Prop:=∀x σ H Q,g x σ H Q->g x σ H (fun σ2 H2=>(σ2.length=σ.length/\∀i,n<=i->σ2[i]?=σ[i]?)/\Q σ2 H2)
theorem bo{n i:Nat}(hi:i<n):GK n (bG i):=fun x σ H Q h=>⟨⟨List.length_set,fun j hj=>List.getElem?_set_ne (by omega)⟩,h⟩
def GKs(n:Nat)(g:TGs):Prop:=∀xs σ H Q,g xs σ H Q->g xs σ H (fun σ2 H2=>(σ2.length=σ.length/\∀i,n<=i->σ2[i]?=σ[i]?)/\Q σ2 H2)
theorem tq{n:Nat}:GKs n iV:=fun xs σ H Q h=>⟨h.1,⟨rfl,fun _ _=>rfl⟩,h.2⟩
def GM(g:TG):Prop:=∀x σ H Q Q',(∀σ2 H2,Q σ2 H2->Q' σ2 H2)->g x σ H Q->g x σ H Q'
def GMs(g:TGs):Prop:=∀xs σ H Q Q',(∀σ2 H2,Q σ2 H2->Q' σ2 H2)->g xs σ H Q->g xs σ H Q'
theorem fK{i:Nat}:GM (bG i):=fun _ _ _ _ _ f h=>f _ _ h
theorem jy:GMs iV:=fun _ _ _ _ _ f h=>⟨h.1,f _ _ h.2⟩
theorem qu{t:TG}{u:TGs}(a:GM t)(b:GMs u):GMs (dv t u):=fun xs σ H Q Q' f h=>by obtain⟨v,r,e,h⟩:=h;exact⟨v,r,e,a _ _ _ _ _ (fun σ2 H2 z=>b _ _ _ _ _ f z) h⟩
theorem iq{n:Nat}{t:TG}{u:TGs}(a:GK n t)(m:GM t)(b:GKs n u)(mb:GMs u):GKs n (dv t u):=fun xs σ H Q h=>by obtain⟨v,r,e,h⟩:=h;refine⟨v,r,e,m _ _ _ _ _ (fun σ2 H2 z=>?_) (a _ _ _ _ h)⟩;obtain⟨⟨l1,k1⟩,z⟩:=z;refine mb _ _ _ _ _ (fun σ3 H3 w=>?_) (b _ _ _ _ z);obtain⟨⟨l2,k2⟩,w⟩:=w;exact⟨⟨l2.trans l1,fun i hi=>(k2 i hi).trans (k1 i hi)⟩,w⟩
theorem xa{n m:Nat}{K:PySem.W.Frag}{t:TGs}(a:GKs n t):GK n (iW K m t):=fun x σ H Q h=>by obtain⟨b,xs,e,h1,h2,h3⟩:=h;exact⟨b,xs,e,h1,h2,a _ _ _ _ h3⟩
def cz(n:Nat)(cap:List Nat)(g:TG)(tc:TT)(te:TE)(σ:St)(J:It)(H1:Hp)(Q:VK):Prop :=
 ∃W:Nat->Nat->List V->Hp->Prop,(∃m,W 0 m [] H1)/\∀i m ys H,W i m ys H ->
  (J.stop i H/\∀p,H p=none->Q (.ref p) (upd H p (.lst ys))) \/
  (J.go i H/\ys.length<sizeLine/\∀ x H',J.yld i H x H'->g x (bu n cap σ) H' fun σ2 H2=>tc σ2 H2 fun b H3 =>
   if b=true then te σ2 H3 fun y H4=>∃ m',m'<m/\W (i+1) m' (ys++[y]) H4 else ∃ m',m'<m/\W (i+1) m' ys H3)
def pJ(n:Nat)(cap:List Nat)(wi:TI)(g:TG)(tc:TT)(te:TE):TE:=fun σ H Q=>wi σ H fun J H1=>cz n cap g tc te σ J H1 Q
theorem ic{prog:Program}{w:World}{A:Around}{R:Result->Shared->Prop}{s:Shared}{elt target iter:Expr}{ifs:List Expr}{scope:Scope}{pos:Pos}{it acc:Value}{env:Env}(I:Nat->Shared->Prop)(turn:∀ n s,I n s->wpAny (model prog w) A (pyNext it) (fun r s₁=>match r with
   |none=>R (.ok .next) s₁
   | some v=>wpAny (model prog w) A (letOwnedTupleGo target it v) (fun _ s₁'=>wpAny (model prog w) A (assign target env v) (fun _ s₂ =>
     wpAny (model prog w) A (forIn ifs true fun c r=>if r=true then do let ok ←isTrue c env (eval c env);pure (ForInStep.yield ok) else pure (ForInStep.yield r)) (fun ok s₃ =>
      if ok=true then wpAny (model prog w) A (eval elt env) (fun x s₄ =>
       wpAny (model prog w) A (call (.builtin "list.append") [acc,x]) (fun _ s₅=>∃ m,m<n/\I m s₅) (fun _ _=>False) s₄) (fun _ _=>False) s₃
      else ∃ m,m<n/\I m s₃) (fun _ _=>False) s₂) (fun _ _=>False) s₁') (fun _ _=>False) s₁) (fun _ _=>False) s)(n:Nat)(h:I n s) :
  codeAny (model prog w) A (.compLoop (.ListComp elt [⟨target,iter,ifs,0⟩] scope pos) 0 it acc env) R s:=by
 refine codeAny_loop rfl I (fun n s hI=>?_) n h;show wpAny _ A ((compTurn (.ListComp elt [⟨target,iter,ifs,0⟩] scope pos) 0 it acc env).onRaise (fun x=>do noteFrame x env;theTreesLotGoes x)) _ _ s;refine wpAny_noted (wpAny_noRaise ?_);rw[compTurn_list];refine z6 (wpAny_standAt (z6 (Z4 (turn n s hI) (fun r s₁ h₁=>?_) fun _ _ h'=>h')));cases r with
 |none=>exact Zd h₁
 |some v =>
  refine z6 (Z4 h₁ (fun _ s₁' h₁'=>?_) fun _ _ h'=>h');refine z6 (Z4 h₁' (fun _ s₂ h₂=>z6 (Z4 h₂ (fun ok s₃ h₃=>?_) fun _ _ h'=>h')) fun _ _ h'=>h');cases ok with
  |false=>exact Zd ⟨rfl,h₃⟩
  |true =>exact z6 (z6 (Z4 h₃ (fun x s₄ h₄=>z6 (Z4 h₄ (fun _ s₅ h₅=>Zd (Zd ⟨rfl,h₅⟩)) fun _ _ h'=>h')) fun _ _ h'=>h'))
theorem BT{own capN:List Str}:∀(i:Nat) (x:Str),own.length<=i->(own++capN)[i]?=some x->capN[i-own.length]?=some x:=fun i x hi e=>by rw[Z1 hi]at e;exact e
section
variable{X:Cx}{pins:List (Addr×Obj)}{σ:St}{H2:Hp}{s2:Shared}{scope:Scope}{cap:List Nat}{capN own:List Str}
variable{elt tg iter:Expr}{ifs:List Expr}{pos:Pos}{g:TG}{tc:TT}{te:TE}{Q:VK}
abbrev fq(its:List Value)(nn:Nat):Obj:={ cls:=.type "list",data:=.seq its.toArray nn }
theorem oy{J:It}{fp:List Addr}{it:Addr}{tn:Nat->Heap->Prop}{E:Value->Shared->Prop}{RR:Value->Addr->Result->Shared->Prop}(O:CompOk X scope cap capN)(hc:X.calm=true)(hg:∀C s0 H0 ex,PG (aO X scope (own++capN) C s0 H0 ex) tg g)(gk:GK own.length g)(ht:∀C s0 H0 ex,mE (aO X scope (own++capN) C s0 H0 ex) ifs tc)(he:∀C s0 H0 ex,PE (aO X scope (own++capN) C s0 H0 ex) elt te)(I2:Inv X pins σ H2 s2)(T:Turn X.prog X.w X.K tg J fp it tn)(st2:tn 0 s2.heap)(f2:∀b∈fp,bz X pins H2 b)(hq:cz own.length cap g tc te σ J H2 Q)(fin:∀(D C:Addr) (s4:Shared) (H4:Hp) (ys:List V),Inv X pins σ (upd H4 D (.lst ys)) s4->(∃m,s4.heap.Ns C m)->bz X pins (upd H4 D (.lst ys)) C->Q (.ref D) (upd H4 D (.lst ys))->RR (.ref D) C (.ok .next) s4) :
  wpAny (model X.prog X.w) X.A (newList []) (fun acc s₃=>wpAny (model X.prog X.w) X.A (newFunctionEnv scope X.env.globals (bL X.env scope.names []) [] X.env.qual none .none (some X.env)) (fun cenv s₄ =>
   codeAny (model X.prog X.w) X.A (.compStart (.ListComp elt [⟨tg,iter,ifs,0⟩] scope pos) 0 (.ref it) acc { cenv with scope:=relabel scope X.env }) (RR acc cenv.locals) s₄) E s₃) E s2:=by
 obtain⟨W,⟨m0,w0⟩,turn⟩:=hq;refine ZP (wpAny_newFunctionEnv O.nocell (by intro y hy;simp at hy) (fun h₁ hns₁ hsb₁=>?_) O.kind);dsimp only at hns₁ hsb₁ ⊢;generalize hHp:s2.heap.push { cls:=.type "list",dict:=none,data:=.seq ([]:List Value).toArray }=Hp2 at hns₁ hsb₁ ⊢;have hC:Hp2.objs.size=s2.heap.objs.size+1:=by rw[<-hHp,YV]
 have hDC:s2.heap.objs.size≠Hp2.objs.size:=by rw[hC];exact ZB (Nat.lt_succ_self _)
 have hCle:s2.heap.objs.size<=Hp2.objs.size:=by rw[hC];exact Nat.le_succ _
 have below:∀b,b<s2.heap.objs.size->b≠Hp2.objs.size/\b≠s2.heap.objs.size:=fun b hb=>⟨by rw[hC];exact ZB (x6 hb),ZB hb⟩
 have old:∀b o,s2.heap.get? b=some o->h₁.get? b=some o:=fun b o e=>hsb₁.extBut b o (below b (Zo e)).1 (Za _ (hHp▸Za _ e));have hacc:h₁.get? s2.heap.objs.size=some (fq [] 0):=hsb₁.extBut _ _ hDC (Za _ (hHp▸Zk _ rfl));generalize hDe:s2.heap.objs.size=D at *;generalize hCe:Hp2.objs.size=C at *;have hfpl:∀b∈fp,b<s2.heap.objs.size:=fun b hb=>by obtain⟨o,e,_⟩:=T.obj _ _ st2 b hb;exact Zo e
 have hex:∀b∈fp,bz X pins H2 b/\b<s2.heap.objs.size:=fun b hb=>⟨f2 b hb,hfpl b hb⟩
 have hCle':s2.heap.objs.size<=C:=by rw[hDe];exact hCle
 have hDle:s2.heap.objs.size<=D:=by rw[hDe];exact Ze _
 have hDfp:∀b∈fp,D≠b:=fun b hb z=>by have:=hfpl b hb;rw[<-z]at this;exact absurd this (Nat.not_lt.mpr hDle)
 have I0:∀tk,Inv (aO X scope (own++capN) C s2 H2 fp) [] (bu own.length cap σ) H2 { s2 with heap:=h₁,toks:=tk }:=fun tk=>uO I2 O (by simp) BT hCle' hex old hns₁;have Dst:D∉frs X.stack:=xC I2 hDle;have Dcell:∀x c,(aO X scope (own++capN) C s2 H2 fp).env.cells.lookup x=some c->c≠D:=fun x c e=>zE I2 hDle x c (O.sub I2.ok x c e);have pinD:∀{σ':St} {H':Hp} {s':Shared} {its:List Value} {nn:Nat},Inv (aO X scope (own++capN) C s2 H2 fp) [] σ' H' s'->s'.heap.get? D=some (fq its nn)->H' D=none->Inv (aO X scope (own++capN) C s2 H2 fp) [(D,fq its nn)] σ' H' s':=fun{σ' H' s' its nn} I e hn =>
  I.pins_of fun p hp=>by
   have z:p=(D,fq its nn):=by simpa using hp
   subst z;exact⟨e,hn,hDC,Dst,fun v q=>by cases q⟩
 have loop:∀s₃:Shared,s₃={ s2 with heap:=h₁,toks:=s2.toks+([]:List (Str×Value)).length } ->
   codeAny (model X.prog X.w) X.A (.compLoop (.ListComp elt [⟨tg,iter,ifs,0⟩] scope pos) 0 (.ref it) (.ref D) (compEnvC scope (bL X.env scope.names []) C X.env)) (RR (.ref D) C) s₃:=by
  rintro s₃ rfl;refine ic (fun k s'=>∃(i:Nat) (ys:List V) (its:List Value) (nn:Nat) (H':Hp),Inv (aO X scope (own++capN) C s2 H2 fp) [(D,fq its nn)] (bu own.length cap σ) H' s'/\tn i s'.heap/\(∀b∈fp,H' b=none)/\Vals ys its/\ys.length<=sizeLine/\W i k ys H') ?_ m0
   ⟨0,[],[],0,H2,pinD (I0 _) hacc (I2.hok.fresh hDle),T.keep _ _ _ st2 (fun b hb o e=>old b o e),fun b hb=>(f2 b hb).1,.nil,ZZ _,w0⟩
  rintro k s3 ⟨i,ys,its,nn,H3,I3,st3,fr3,rv,hz,w3⟩;have oD3:s3.heap.get? D=some (fq its nn):=(I3.pin (D,fq its nn) (by simp)).1;have fpY:∀{H':Hp},(∀b∈fp,H' b=none)->∀b∈fp,bz (aO X scope (own++capN) C s2 H2 fp) [(D,fq its nn)] H' b:=fun{H'} hn b hb=>by
   obtain⟨f0,f1,g2,f3,f4,f5⟩:=f2 b hb;refine⟨hn b hb,ZB (ZA (hfpl b hb) hCle'),fun z=>?_,.inl hb,fun x c e=>f4 x c (O.sub I2.ok x c e),fun p hp=>?_⟩
   ·rcases Zs.mp (I2.stkSub b z)with e|e
    ·exact f1 e
    ·exact g2 e
   ·have z:p=(D,fq its nn):=by simpa[aO]using hp
    subst z;exact hDfp b hb
  rcases turn i k ys H3 w3 with⟨stop,qn⟩|⟨go,hlt,step⟩
  ·refine thn (T.done (aO X scope (own++capN) C s2 H2 fp) rfl rfl rfl hc i _ s3 _ H3 _ I3 (fpY fr3) st3 stop) fun r s4 ⟨hr,I4⟩=>?_;subst hr;obtain⟨oD,nD,_⟩:=I4.pin (D,fq its nn) (by simp);have neD:∀{b:Addr} {u:HO},H3 b=some u->b≠D:=fun{b u} e=>am e nD;have JX:Inv X pins σ (upd H3 D (.lst ys)) s4:=by
    refine I2.call' (ch:=fp) I4.os ⟨I4.base.keep,I4.base.slot,fun b o e nb hx=>?_,I4.base.there,fun b xs e=>?_,fun b o u e=>?_,fun b ps e=>?_⟩ (fun b u e=>?_) I4.bare (fun b hb=>?_)
    ·rw[af (by rw[<-hDe];exact ZB (Zo e))];exact I4.base.free b o e nb hx
    ·have q:=I4.base.tups b xs e;rw[af (neD q)];exact q
    ·have q:=I4.base.frzs b o u e;rw[af (neD q)];exact q
    ·obtain⟨more,q⟩:=I4.base.tbls b ps e;exact⟨more,by rw[af (neD q)];exact q⟩
    ·by_cases hb:b=D
     ·subst hb;rw[ad]at e;cases e;exact⟨hz,its,nn,rv,oD⟩
     ·rw[af hb]at e;exact(I4.hok b u e).stay (fun _ _ _ q=>q) (fun c q=>by rw[af (neD q)];exact q) fun c xs q=>by rw[af (neD q)];exact q
    ·obtain⟨f0,f1,g2,f3,f4,f5⟩:=f2 b hb;exact⟨f3,f1,f4,f5⟩
   obtain⟨m4,hn4,_⟩:=I4.loc;refine fin D C s4 H3 ys JX ⟨m4,hn4⟩ ?_ (qn D nD);refine I2.fpOk (b:=C) hCle' ?_;rw[af (Yj hDC)];exact I4.free
  ·refine thn (T.item (aO X scope (own++capN) C s2 H2 fp) rfl rfl rfl hc i _ s3 _ H3 _ I3 (fpY fr3) st3 go) fun r s4 ⟨u,hr,h4⟩=>?_;subst hr;refine thn h4 fun _ s5 hz9=>?_;obtain⟨x,H5,I5,r5,y5,st5,fr5⟩:=hz9;have I5':=I5.pinned (fpY fr5) (T.obj _ _ st5);refine thn (hg C s2 H2 fp _ s5 _ H5 x u _ I5' r5 (gk _ _ _ _ (step x H5 y5))) fun _ s6 hz9=>?_;obtain⟨σ6,H6,I6,⟨l6,k6⟩,q6⟩:=hz9;refine thn (ht C s2 H2 fp _ s6 σ6 H6 _ I6 q6) fun ok s7 ⟨H7,I7,q7⟩=>?_;have wk:∀{H8:Hp} {s8:Shared} {pl:List (Addr×Obj)},Inv (aO X scope (own++capN) C s2 H2 fp) pl σ6 H8 s8->Inv (aO X scope (own++capN) C s2 H2 fp) pl (bu own.length cap σ) H8 s8:=fun I=>I.weak l6.symm fun j v e=>by obtain⟨hj,_⟩:=kW e;rw[k6 j hj];exact e
   have tn8:∀{σ8:St} {H8:Hp} {s8:Shared},Inv (aO X scope (own++capN) C s2 H2 fp) ([(D,fq its nn)]++je fp s5.heap) σ8 H8 s8->(∀b∈fp,∀o,s5.heap.get? b=some o->s8.heap.get? b=some o)/\∀b∈fp,H8 b=none:=fun{σ8 H8 s8} I=>by refine⟨fun b hb o e=>(I.pin (b,o) (Zz _ (Zz _ (fB hb e)))).1,fun b hb=>?_⟩;obtain⟨o,e,d⟩:=T.obj _ _ st5 b hb;exact(I.pin (b,o) (Zz _ (Zz _ (fB hb e)))).2.1
   cases ok with
   |false =>rw[if_neg Zr]at q7 ⊢;obtain⟨m',hm,w7⟩:=q7;obtain⟨t1,t2⟩:=tn8 I7;exact⟨m',hm,i+1,ys,its,nn,H7,wk I7.unpinned,T.keep _ _ _ st5 t1,t2,rv,hz,w7⟩
   |true =>
    rw[if_pos rfl]at q7 ⊢;refine thn (he C s2 H2 fp _ s7 σ6 H7 _ I7 q7) fun y s8 hz9=>?_;obtain⟨yv,H8,I8,r8,m',hm,w8⟩:=hz9;obtain⟨t1,t2⟩:=tn8 I8;obtain⟨oD,nD,_⟩:=I8.pin (D,fq its nn) (by simp);have hil:=rv.length;refine call_meets F.slot_list_append ⟨_,oD,rfl⟩ F.entry_list_append (F.args_list_append_2 _ _) (PySem.list_append D its.toArray nn y (by rw[Zh];omega)) ⟨oD,?_⟩;have q:=PySem.IsL.update oD (fun x_1=>x_1.push y);have hf:its.toArray.push y=(its++[y]).toArray:=by simp
    rw[hf]at q;have keepO:∀b o,b≠D->s8.heap.get? b=some o->(s8.heap.update D (Obj.mapSeq fun x_1=>x_1.push y)).get? b=some o:=fun b o hb e=>(YC s8.heap (Obj.mapSeq fun x_1=>x_1.push y) (Yj hb)).trans e;have I9:Inv (aO X scope (own++capN) C s2 H2 fp) [] σ6 H8 { s8 with heap:=s8.heap.update D (Obj.mapSeq fun x_1=>x_1.push y),toks:=s8.toks } :=
     (I8.pins_of (pins':=[]) fun p hp=>absurd hp (by simp)).turned (it:=D) keepO nD hDC (.inr hDle) Dcell (fun p hp=>absurd (show p∈([]:List (Addr×Obj))from hp) (by simp))
    refine⟨m',hm,i+1,ys++[yv],its++[y],_,H8,wk (pinD I9 q nD),T.keep _ _ _ st5 (fun b hb o e=>keepO b o (Yj (hDfp b hb)) (t1 b hb o e)),t2,rv.append (.cons r8 .nil),?_,w8⟩;rw[Zi,ZU];omega
 exact codeAny_compStart_list (loop _ rfl) (T.self _ 0 _ _ _ (T.keep _ _ _ st2 (fun b hb o e=>old b o e)) (loop _ rfl))
theorem BY{wi:TI}(O:CompOk X scope cap capN)(hc:X.calm=true)(hi:PI X tg iter wi)(hg:∀C s0 H0 ex,PG (aO X scope (own++capN) C s0 H0 ex) tg g)(gk:GK own.length g)(ht:∀C s0 H0 ex,mE (aO X scope (own++capN) C s0 H0 ex) ifs tc)(he:∀C s0 H0 ex,PE (aO X scope (own++capN) C s0 H0 ex) elt te)(hs:∀x,foldedSetIterable iter X.env x=pure x:=by intro _;rfl):PE X (.ListComp elt [⟨tg,iter,ifs,0⟩] scope pos) (pJ own.length cap wi g tc te):=by intro pins s σ H Q I h;rw[eval_ListComp];refine wpAny_comprehension_free (use:=none) rfl hs (O.clos I.ok) O.kind O.names (thn (hi pins s σ H _ I h) fun v s1 h1=>thn h1 fun itv s2 h2=>?_);obtain⟨it,fp,tn,J,H2,e,I2,T,st2,f2,hq⟩:=h2;subst e;refine oy (RR:=fun acc C=>compPost (model X.prog X.w) X.A X.xe none (EP X pins σ Q) acc C) O hc hg gk ht he I2 T st2 f2 hq fun D C s4 H4 ys J4 hn4 fC q4=>?_;obtain⟨m,hn⟩:=hn4;obtain⟨f0,f1,g2,f3,f4,f5⟩:=fC;exact⟨m,hn,fun h' sb=>⟨.ref D,_,J4.turned (t':=s4.toks) (fun b o hb e=>(sb.2 b hb).trans e) f0 f1 f3 f4 f5,rfl,q4⟩⟩
theorem Cd{wi:TI}{j:Nat}{y:Str}{py spos:Pos}(hN0:X.N.Nodup)(hj:X.N[j]?=some y)(hy:Loc X.env.scope y)(O:CompOk X scope cap capN)(hc:X.calm=true)(hi:PI X tg iter wi)(hg:∀C s0 H0 ex,PG (aO X scope (own++capN) C s0 H0 ex) tg g)(gk:GK own.length g)(ht:∀C s0 H0 ex,mE (aO X scope (own++capN) C s0 H0 ex) ifs tc)(he:∀C s0 H0 ex,PE (aO X scope (own++capN) C s0 H0 ex) elt te)(hsw:swapsWith (.ListComp elt [⟨tg,iter,ifs,0⟩] scope pos) (some (.Name y py)) spos.line X.env=pure true:=by rfl)(hs:∀x,foldedSetIterable iter X.env x=pure x:=by intro _;rfl)(hf:X.fn y=true\/X.env.scope.names.lookup y=some .local:=by first|exact .inl rfl|exact .inr rfl|assumption) :
  PS X (.Assign [.Name y py] (.ListComp elt [⟨tg,iter,ifs,0⟩] scope pos) spos) (nW (pJ own.length cap wi g tc te) (bG j)):=by
 intro pins s σ H D0 I h;rw[exec_Assign_Name_used _ _ _ _ hsw];refine z6 (wpAny_standAt (z6 ?_));show wpAny _ X.A (do let _ ←comprehension (.ListComp elt [⟨tg,iter,ifs,0⟩] scope pos) scope X.env _ (newList []) false (eval iter X.env) (some (assign (.Name y py) X.env))) _ _ s;refine z6 (Z4 (wpAny_comprehension_free (use:=some (assign (.Name y py) X.env)) (Q:=fun _ s'=>SP X pins D0 .next s') rfl hs (O.clos I.ok) O.kind O.names (thn (hi pins s σ H _ I h) fun v s1 h1=>thn h1 fun itv s2 h2=>?_)) (fun _ s' hq=>Zd (Zd hq)) fun _ _ e=>e);obtain⟨it,fp,tn,J,H2,e,I2,T,st2,f2,hq⟩:=h2;subst e;refine oy (RR:=fun acc C=>compPost (model X.prog X.w) X.A X.xe (some (assign (.Name y py) X.env)) (fun _ s'=>SP X pins D0 .next s') acc C) O hc hg gk ht he I2 T st2 f2 hq fun D C s4 H4 ys J4 hn4 fC q4=>?_;obtain⟨m,hn⟩:=hn4;obtain⟨f0,f1,g2,f3,f4,f5⟩:=fC;show wpAny _ X.A (assign (.Name y py) X.env (.ref D)) _ _ _;refine wpAny_assign_Name (oM J4 hN0 hj hy (v:=.ref D) rfl (fun s5 I5 ⟨a,sba,ha⟩=>?_) hf);have hCa:C≠a:=by
  rcases ha with z|z
  ·rw[z];exact f1
  ·exact Yj (f4 _ _ z)
 refine⟨m,hn.sameBut sba hCa,fun h' sb=>?_⟩;exact⟨_,_,I5.turned (t':=s5.toks) (fun b o hb e=>(sb.2 b hb).trans e) f0 f1 f3 f4 f5,q4⟩
end
open PySem PySem.Spec PyProof.Rows
structure Fn(P:Program)(w:World)(K:PySem.W.Frag)(mg:Str->Option Value)(base:Heap)(k:Nat)(x:Str)(ps:List Str)(sp:Sp):Prop where
 ex:∃f fd,FnOk P w K mg base CX0 k f fd ps sp/\mg x=some (.ref f)/\PySem.W.keepIn K (.ref f)=true/\Binds K fd ps []
section
variable{X:Cx}{k:Nat}{x:Str}{p pos:Pos}{e:Expr}{es:List Expr}{ps:List Str}{sp:Sp}{t:TA}
theorem Fi(F:Fn X.prog X.w X.K X.mg X.base k x ps sp)(hr:Room k X.A)(ha:PA X (e::es) t)(hg:Gl X x:=by rfl)(hdb:(x==("__debug__":Str))=false:=by decide)(he:starEach (e::es) X.env=(false,eval e X.env)::starEach es X.env:=by rfl)(hpl:(backTo pos (starEach es X.env)).any (·.1)=false:=by rfl) :
  PE X (.Call (.Name x p) (e::es) [] pos) (pI sp [] E0 t):=by
 obtain⟨f,fd,G,m,kp,b⟩:=F.ex;exact BW G hr hg m kp b .nil pF ha hdb he hpl
end
theorem aH:bootBuiltins "isinstance" = some (.builtin "isinstance"):=by decide +kernel
theorem qa:bootBuiltins "int" = some (.type "int"):=by decide +kernel
theorem fc:bootBuiltins "bool" = some (.type "bool"):=by decide +kernel
theorem bU:bootBuiltins "tuple" = some (.type "tuple"):=by decide +kernel
theorem ow:bootBuiltins "list" = some (.type "list"):=by decide +kernel
theorem dJ:bootBuiltins "all" = some (.builtin "all"):=by decide +kernel
section
variable{X:Cx}
theorem yQ(hc:X.calm=true):dO X (.builtin "all") (fun xs H Q=>∃(p:Addr) (bs:List Bool),xs=[.ref p]/\SqL X.K H p (bs.map V.bl)/\Q (.bl (bs.all id)) H):=by
 intro pins s σ H xs us Q I r h;obtain⟨p,bs,rfl,hq,q⟩:=h;obtain⟨u,rfl,rx⟩:=cu r;cases rx;obtain⟨its,rv,pl,hz⟩:=I.list hq;have hl:=pl.isList;have hlt:p<s.heap.objs.size:=by obtain⟨_,e,_⟩:=hl;exact Zo e
 have hh:=I.ok.hd hc;have hlen:bs.length=its.length:=by rw[<-rv.length,z9]
 refine call_all_walk (wpAny_pyIter_list hl ?_);refine⟨s.heap.objs.size,[s.heap.objs.size,p],[s.heap.objs.size],its.toArray.size,_,_,fun i=>(bs[i]?).getD true,rfl,Walks.list (A:=X.A.in1) hh _ p (ZB hlt) its.toArray,
  ⟨⟨_,Zk _ rfl,rfl,rfl⟩,hl.push _⟩,fun i v s' Q' E' hP hQ=>?_,fun h' tk hk=>?_⟩
 ·have hv:its[i]?=some v:=by simpa using hP
  have hi:i<bs.length:=by rw[hlen];exact(Zy.mp hv).1
  obtain⟨u,hu,ru⟩:=rv.get (i:=i) (x:=.bl bs[i]) (by rw[Zv,Zb hi];rfl);rw[hv]at hu;cases hu;cases ru;have hQ':Q' ((bs[i]?).getD true) s':=hQ;rw[Zb hi]at hQ';exact Yc hQ'
 ·have e:((List.range its.toArray.size).all fun i=>(bs[i]?).getD true)=bs.all id:=by rw[Zh,<-hlen];exact LSm.range_all bs
  rw[e];exact⟨.bl _,H,I.kept (t':=tk) (LSm.kept_iter hk),rfl,q⟩
theorem yR:dO X (.builtin "isinstance") (fun xs H Q=>∃x T t b,xs=[x,.ty T]/\TyOf X.K H x t/\PySem.W.kitOne X.K t (.type T)=some b/\Q (.bl b) H):=by intro pins s σ H xs us Q I r h;obtain⟨x,T,t,b,rfl,ty,e,q⟩:=h;obtain⟨u,w',rfl,rx,ry⟩:=Bj r;cases(show w'=Value.type T from ry);exact xh I rx ty e fun tk=>⟨.bl b,H,I.tok tk,rfl,q⟩
end
def isI:V->Bool
 |.int _=>true
 |.bl _=>true
 |_=>false
def isB:V->Bool
 |.bl _=>true
 |_=>false
def dQ:V->Bool
 |.int _=>true
 |_=>false
def qz:Option HO->Bool
 |some (.tup _)=>true
 |_=>false
def isT(H:Hp):V->Bool
 |.ref a=>qz (H a)
 |_=>false
theorem bJ{H:Hp}{a:Addr}{o:HO}{b:Bool}(e:H a=some o)(h:qz (some o)=b):isT H (.ref a)=b:=by show qz (H a)=b;rw[e];exact h
theorem bq{K:PySem.W.Frag}{t T:String}{b:Bool}(h1:(Value.type t==Value.type T)=b)(h2:b=false->PySem.W.kitMeta T=true/\(PySem.fastBuiltinMro t).map (·.contains (Value.type T))=some false):PySem.W.kitOne K (.type t) (.type T)=some b:=by
 unfold PySem.W.kitOne;rw[h1];cases b with
 |true=>exact if_pos rfl
 |false =>rw[if_neg Zr];obtain⟨m,q⟩:=h2 rfl;show(if PySem.W.kitMeta T=true then PySem.W.subIn K (.type t) (.type T)else none)=_;rw[if_pos m];exact q
theorem aD{K:PySem.W.Frag}{t T:String}{b:Bool}(h1:(Value.type t==Value.type T)=false)(h2:PySem.W.kitMeta T=true)(h3:(PySem.fastBuiltinMro t).map (·.contains (Value.type T))=some b):PySem.W.kitOne K (.type t) (.type T)=some b:=by unfold PySem.W.kitOne;rw[h1,if_neg Zr];show(if PySem.W.kitMeta T=true then PySem.W.subIn K (.type t) (.type T)else none)=_;rw[if_pos h2];exact h3
theorem BF{K:PySem.W.Frag}{H:Hp}{v:V}{n:String}(h:TyOf K H v (.type n)):PySem.W.kitOne K (.type n) (.type "int")=some (isI v):=by
 cases h with
 |non=>exact aD (b:=false) (by decide +kernel) (by decide +kernel) (by decide +kernel)
 |bl x=>exact aD (b:=true) (by decide +kernel) (by decide +kernel) (by decide +kernel)
 |int i=>exact bq (b:=true) (by decide +kernel) (fun z=>nomatch z)
 |str x=>exact aD (b:=false) (by decide +kernel) (by decide +kernel) (by decide +kernel)
 |flt x=>exact aD (b:=false) (by decide +kernel) (by decide +kernel) (by decide +kernel)
 |lst e=>exact aD (b:=false) (by decide +kernel) (by decide +kernel) (by decide +kernel)
 |frz e=>exact aD (b:=false) (by decide +kernel) (by decide +kernel) (by decide +kernel)
 |tup e=>exact aD (b:=false) (by decide +kernel) (by decide +kernel) (by decide +kernel)
 |dK e=>exact aD (b:=false) (by decide +kernel) (by decide +kernel) (by decide +kernel)
 |dT e=>exact aD (b:=false) (by decide +kernel) (by decide +kernel) (by decide +kernel)
theorem eL{K:PySem.W.Frag}{H:Hp}{v:V}{n:String}(h:TyOf K H v (.type n)):PySem.W.kitOne K (.type n) (.type "bool")=some (isB v):=by
 cases h with
 |non=>exact aD (b:=false) (by decide +kernel) (by decide +kernel) (by decide +kernel)
 |bl x=>exact bq (b:=true) (by decide +kernel) (fun z=>nomatch z)
 |int i=>exact aD (b:=false) (by decide +kernel) (by decide +kernel) (by decide +kernel)
 |str x=>exact aD (b:=false) (by decide +kernel) (by decide +kernel) (by decide +kernel)
 |flt x=>exact aD (b:=false) (by decide +kernel) (by decide +kernel) (by decide +kernel)
 |lst e=>exact aD (b:=false) (by decide +kernel) (by decide +kernel) (by decide +kernel)
 |frz e=>exact aD (b:=false) (by decide +kernel) (by decide +kernel) (by decide +kernel)
 |tup e=>exact aD (b:=false) (by decide +kernel) (by decide +kernel) (by decide +kernel)
 |dK e=>exact aD (b:=false) (by decide +kernel) (by decide +kernel) (by decide +kernel)
 |dT e=>exact aD (b:=false) (by decide +kernel) (by decide +kernel) (by decide +kernel)
theorem fM{K:PySem.W.Frag}{H:Hp}{v:V}{n:String}(h:TyOf K H v (.type n)):PySem.W.kitOne K (.type n) (.type "tuple")=some (isT H v):=by
 cases h with
 |non=>exact aD (b:=false) (by decide +kernel) (by decide +kernel) (by decide +kernel)
 |bl x=>exact aD (b:=false) (by decide +kernel) (by decide +kernel) (by decide +kernel)
 |int i=>exact aD (b:=false) (by decide +kernel) (by decide +kernel) (by decide +kernel)
 |str x=>exact aD (b:=false) (by decide +kernel) (by decide +kernel) (by decide +kernel)
 |flt x=>exact aD (b:=false) (by decide +kernel) (by decide +kernel) (by decide +kernel)
 |lst e =>rw[bJ e (b:=false) rfl];exact aD (b:=false) (by decide +kernel) (by decide +kernel) (by decide +kernel)
 |frz e =>rw[bJ e (b:=false) rfl];exact aD (b:=false) (by decide +kernel) (by decide +kernel) (by decide +kernel)
 |tup e =>rw[bJ e (b:=true) rfl];exact bq (b:=true) (by decide +kernel) (fun z=>nomatch z)
 |dK e =>rw[bJ e (b:=false) rfl];exact aD (b:=false) (by decide +kernel) (by decide +kernel) (by decide +kernel)
 |dT e =>rw[bJ e (b:=false) rfl];exact aD (b:=false) (by decide +kernel) (by decide +kernel) (by decide +kernel)
theorem ah{H:Hp}{p:Addr}(h:H p=none)(o:HO):Same H (upd H p o):=fun b u q=>by rw[af (am q h)];exact q
theorem dH{K:PySem.W.Frag}{H H':Hp}{a:Addr}{xs:List V}(e:Same H H')(h:SqT K H a xs):SqT K H' a xs:=by
 rcases h with(h|⟨o,h⟩)|h
 ·exact .inl (.inl (e _ _ h))
 ·exact .inl (.inr ⟨o,e _ _ h⟩)
 ·exact .inr h
theorem cy{K:PySem.W.Frag}{H H':Hp}{v:V}{n:Value}(e:Same H H')(h:TyOf K H v n):TyOf K H' v n:=by
 cases h with
 |non=>exact .non
 |bl x=>exact .bl x
 |int i=>exact .int i
 |str x=>exact .str x
 |flt x=>exact .flt x
 |lst q=>exact .lst (e _ _ q)
 |frz q=>exact .frz (e _ _ q)
 |tup q=>exact .tup (e _ _ q)
 |dK q=>exact .dK (e _ _ q)
 |dT q=>exact .dT (e _ _ q)
 |ins q cl ha hn htk hm=>exact .ins (e _ _ q) cl ha hn htk hm
theorem du{n:Nat}(h:n<=1000):n<=sizeLine:=Nat.le_of_lt (fh h)
theorem sz{n:Nat}(h:Nat.ble n 1000=true):n<=sizeLine:=du (Nat.le_of_ble_eq_true h)
theorem iR{J:It}{N n:Nat}{cap:List Nat}{te:TE}{σ:St}{H0:Hp}{Q:VK}(x0 f:Nat->V)(hz:N<=1000)(hgo:∀i H,i<N->Same H0 H->J.go i H)(hst:∀H,Same H0 H->J.stop N H)(hy:∀i H x H',i<N->Same H0 H->J.yld i H x H'->H'=H/\x=x0 i)(he:∀i H,i<N->Same H0 H->∀R:VK,(∀H',Same H H'->R (f i) H')->te ((bu n cap σ).set 0 (some (x0 i))) H R)(hq:∀p H,Same H0 H->H p=none->Q (.ref p) (upd H p (.lst ((List.range N).map f)))):cz n cap (bG 0) fb te σ J H0 Q:=by
 refine⟨fun i m ys H=>m=N-i/\i<=N/\Same H0 H/\ys=(List.range i).map f,⟨N,by simp,ZZ _,Same.refl _,rfl⟩,?_⟩;rintro i m ys H ⟨rfl,hi,sm,rfl⟩;by_cases hlt:i<N
 ·refine .inr ⟨hgo i H hlt sm,?_,fun x H' y=>?_⟩
  ·rw[z9,ZI];exact fh (by omega)
  ·obtain⟨e1,e2⟩:=hy i H x H' hlt sm y;subst e1 e2;refine he i H' hlt sm _ fun H4 sm4=>⟨N-(i+1),by omega,rfl,hlt,sm.trans sm4,?_⟩
   rw[List.range_succ,Zx];rfl
 ·have e:i=N:=by omega
  subst e;exact .inl ⟨hst H sm,fun p hp=>hq p H sm hp⟩
theorem wI{K:PySem.W.Frag}{a:Addr}{xs:List V}{n:Nat}{cap:List Nat}{te:TE}{σ:St}{H0:Hp}{Q:VK}(f:Nat->V)(hz:xs.length<=1000)(hl:SqL K H0 a xs)(he:∀i x H,xs[i]?=some x->Same H0 H->∀R:VK,(∀H',Same H H'->R (f i) H')->te ((bu n cap σ).set 0 (some x)) H R)(hq:∀p H,Same H0 H->H p=none->Q (.ref p) (upd H p (.lst ((List.range xs.length).map f)))):cz n cap (bG 0) fb te σ (Itl K a) H0 Q:=by
 refine iR (N:=xs.length) (fun i=>(xs[i]?).getD .non) f hz (fun i H hi sm=>⟨xs,xs[i],sm.seq hl,by simp[hi]⟩) (fun H sm=>⟨xs,sm.seq hl,Ze _⟩) (fun i H x H' hi sm y=>⟨y.1,?_⟩) (fun i H hi sm R k=>?_) hq
 ·rw[y.2 xs (sm.seq hl)];rfl
 ·have e:xs[i]?=some xs[i]:=by simp[hi]
  rw[e];exact he i xs[i] H e sm R k
theorem qj{K:PySem.W.Frag}{a:Addr}{xs:List V}{n:Nat}{cap:List Nat}{te:TE}{σ:St}{H0:Hp}{Q:VK}(f:Nat->V)(hz:xs.length<=1000)(hl:SqT K H0 a xs)(he:∀i x H,xs[i]?=some x->Same H0 H->∀R:VK,(∀H',Same H H'->R (f i) H')->te ((bu n cap σ).set 0 (some x)) H R)(hq:∀p H,Same H0 H->H p=none->Q (.ref p) (upd H p (.lst ((List.range xs.length).map f)))):cz n cap (bG 0) fb te σ (Itt K a) H0 Q:=by
 refine iR (N:=xs.length) (fun i=>(xs[i]?).getD .non) f hz (fun i H hi sm=>⟨xs,xs[i],dH sm hl,by simp[hi]⟩) (fun H sm=>⟨xs,dH sm hl,Ze _⟩) (fun i H x H' hi sm y=>⟨y.1,?_⟩) (fun i H hi sm R k=>?_) hq
 ·rw[y.2 xs (dH sm hl)];rfl
 ·have e:xs[i]?=some xs[i]:=by simp[hi]
  rw[e];exact he i xs[i] H e sm R k
open PySem PySem.Spec PyProof.Rows
def aV:Expr->Bool
 |.Starred _ _=>false
 |_=>true
theorem aZ{e:Expr}{es:List Expr}{env:Env}(h:aV e=true):starEach (e::es) env=(false,eval e env)::starEach es env:=by cases e<;>first|rfl|cases h
theorem bI{env:Env}{pos:Pos}:∀{es:List Expr},es.all aV=true->(backTo pos (starEach es env)).any (·.1)=false
 | [],_=>rfl
 |e::es,h=>by rw[List.all_cons,ZN]at h;rw[aZ h.1];show(false ||(backTo pos (starEach es env)).any (·.1))=false;rw[Bool.false_or];exact bI h.2
section
variable{X:Cx}{x:Str}{p pos:Pos}{e:Expr}{es:List Expr}{te:TE}{t:TA}{id T:String}{r:List V->Hp->VK->Prop}{k:Nat}{ps:List Str}{sp:Sp}
theorem pa(ha:PE X e te)(hr:PA X es t)(hs:aV e=true:=by rfl):PA X (e::es) (eZ te t):=BU ha hr (aZ hs)
theorem pB(hc:dO X (.builtin id) r)(hm:X.mg x=none)(hv:bootBuiltins x=some (.builtin id))(ha:PA X (e::es) t)(hg:Gl X x:=by rfl)(hs:(e::es).all aV=true:=by rfl)(hn:x≠"__name__":=by decide)(hdb:(x==("__debug__":Str))=false:=by decide) :
  PE X (.Call (.Name x p) (e::es) [] pos) (tCB r t):=by
 rw[List.all_cons,ZN]at hs;exact zQ hc hg hm hv ha hn hdb (aZ hs.1) (bI hs.2)
theorem pTy(hc:dO X (.type T) r)(hm:X.mg x=none)(hv:bootBuiltins x=some (.type T))(ha:PA X (e::es) t)(hg:Gl X x:=by rfl)(hs:(e::es).all aV=true:=by rfl)(hn:x≠"__name__":=by decide)(hdb:(x==("__debug__":Str))=false:=by decide) :
  PE X (.Call (.Name x p) (e::es) [] pos) (tCB r t):=by
 rw[List.all_cons,ZN]at hs;exact xO hc hg hm hv ha hn hdb (aZ hs.1) (bI hs.2)
theorem pfn(F:Fn X.prog X.w X.K X.mg X.base k x ps sp)(hr:Room k X.A)(ha:PA X (e::es) t)(hg:Gl X x:=by rfl)(hs:(e::es).all aV=true:=by rfl)(hdb:(x==("__debug__":Str))=false:=by decide) :
  PE X (.Call (.Name x p) (e::es) [] pos) (pI sp [] E0 t):=by
 rw[List.all_cons,ZN]at hs;exact Fi F hr ha hg hdb (aZ hs.1) (bI hs.2)
end
open PySem PySem.Spec PyProof.Rows
structure QE(X:Cx)(e:Expr)(t:TE):Prop where
 h:PE X e t
structure QT(X:Cx)(e:Expr)(t:TT):Prop where
 h:PT X e t
structure QW(X:Cx)(e:Expr)(t:TT):Prop where
 h:PW X e t
structure QA(X:Cx)(es:List Expr)(t:TA):Prop where
 h:PA X es t
structure QS(X:Cx)(st:Stmt)(t:TS):Prop where
 h:PS X st t
structure QB(X:Cx)(st:List Stmt)(t:TS):Prop where
 h:PSs X st t
structure QG(X:Cx)(tg:Expr)(g:TG):Prop where
 h:PG X tg g
structure QGs(X:Cx)(ts:List Expr)(g:TGs):Prop where
 h:PGs X ts g
structure QI(X:Cx)(tg iter:Expr)(wi:TI):Prop where
 h:PI X tg iter wi
structure QIf(X:Cx)(ifs:List Expr)(t:TT):Prop where
 h:mE X ifs t
structure QO(X:Cx)(e:Option Expr)(t:TO):Prop where
 h:PO X e t
structure QOp(X:Cx)(f:Value->Value->Sem Value)(r:R2):Prop where
 h:OpR X f r
structure QCall(X:Cx)(f:Value)(r:List V->Hp->VK->Prop):Prop where
 h:dO X f r
structure QIx(X:Cx)(r:R2):Prop where
 h:IxR X r
structure QSl(X:Cx)(r:V->Option Int->Option Int->Hp->VK->Prop):Prop where
 h:SlR X r
structure QSet(X:Cx)(t:pW):Prop where
 h:yL X t
structure QUn(X:Cx)(f:Value->Sem Value)(r:V->Hp->VK->Prop):Prop where
 h:UnR X f r
structure QIp(X:Cx)(op:Operator)(t:TIp):Prop where
 h:PIp X op t
section
variable{X:Cx}{pos p:Pos}{e a b c o:Expr}{es rest:List Expr}{te ta tb tc:TE}{t:TA}{tA tB':TT}{x:Str}
theorem q_v(i:Nat){x:Str}{pos:Pos}(hN:X.N[i]?=some x:=by rfl)(hv:Vis X.env.scope x:=by first|exact Or.inl rfl|exact Or.inr (Or.inl rfl)|exact Or.inr (Or.inr rfl))(hd:(x==("__debug__":Str))=false:=by decide)(hcd:(x==("__classdict__":Str))=false:=by decide):QE X (.Name x pos) (kK i):=⟨DJ hN hv hd hcd⟩
theorem al{i:Int}{j:Nat}:QE X (.Constant (.int i) j pos) (tC (.int i)):=⟨DB⟩
theorem bP{i:Bool}{j:Nat}:QE X (.Constant (.bool i) j pos) (tC (.bl i)):=⟨Fg⟩
theorem vG{j:Nat}:QE X (.Constant .none j pos) (tC .non):=⟨DD⟩
theorem eX{i:Str}{j:Nat}:QE X (.Constant (.str i) j pos) (tC (.str i)):=⟨DH⟩
theorem dX{T:String}(hm:X.mg x=none)(hv:bootBuiltins x=some (.type T))(hg:Gl X x:=by rfl)(hn:x≠"__name__":=by decide)(hd:(x==("__debug__":Str))=false:=by decide):QE X (.Name x pos) (tC (.ty T)):=⟨BV hg hm hv rfl hn hd⟩
theorem qW{i:Int}{tk:Tok}(hm:X.mg x=some (.int i tk))(hg:Gl X x:=by rfl)(hd:(x==("__debug__":Str))=false:=by decide):QE X (.Name x pos) (tC (.int i)):=⟨nA hg hm ⟨_,rfl⟩ hd⟩
theorem aX{op:Operator}{r:R2}(ho:QOp X (binaryOp op) r)(ha:QE X a ta)(hb:QE X b tb):QE X (.BinOp a op b pos) (tOp r ta tb):=⟨Fk ho.h ha.h hb.h⟩
theorem Ef{op:UnaryOp}{r:V->Hp->VK->Prop}(ho:QUn X (unaryOp op) r)(ha:QE X a ta):QE X (.UnaryOp op a pos) (tUn r ta):=⟨Fo ho.h ha.h⟩
theorem cR{op}(h:QE X a ta):QE X (.BoolOp op [a] pos) ta:=⟨DG h.h⟩
theorem cQ(ha:QE X a ta)(hb:QE X (.BoolOp .And (b::rest) pos) tb):QE X (.BoolOp .And (a::b::rest) pos) (Bd ta tb):=⟨Dy ha.h hb.h⟩
theorem Ed(ha:QE X a ta)(hb:QE X (.BoolOp .Or (b::rest) pos) tb):QE X (.BoolOp .Or (a::b::rest) pos) (EA ta tb):=⟨Fm ha.h hb.h⟩
theorem Ft(ha:QE X a ta):QE X (.UnaryOp .Not a pos) (Bg ta):=⟨DF ha.h⟩
theorem cj{op:CmpOp}{r:R2}(ho:QOp X (compareOp op) r)(ha:QE X a ta)(hb:QE X b tb)(hm:behindInMarks op b=false:=by first|exact xB _|with_unfolding_all rfl):QE X (.Compare a [op] [b] pos) (tOp r ta tb):=⟨BX ho.h ha.h hb.h hm⟩
theorem Cj{op op':CmpOp}{r r':R2}(ho:QOp X (compareOp op) r)(ho':QOp X (compareOp op') r')(ha:QE X a ta)(hb:QE X b tb)(hc:QE X c tc)(hm:lastMarks [op,op'] [b,c]=false:=by with_unfolding_all rfl) :
  QE X (.Compare a [op,op'] [b,c] pos) (ml r r' ta tb tc):=⟨zR ho.h ho'.h ha.h hb.h hc.h hm⟩
theorem FU(hc:QT X c tA)(ha:QE X a ta)(hb:QE X b tb):QE X (.IfExp c a b pos) (tIf tA ta tb):=⟨zT hc.h ha.h hb.h⟩
theorem lS(h:QA X es t):QE X (.List es pos) (Ex t):=⟨DC h.h⟩
theorem bX{x1}(h:QA X es t):QE X (.Tuple es x1 pos) (Ax t):=⟨DI h.h⟩
theorem aC{r:R2}(hr:QIx X r)(ha:QE X a ta)(hb:QE X b tb)(hs:sF b:=by intro _ _;rfl):QE X (.Subscript a b pos) (tOp r ta tb):=⟨Fj hr.h ha.h hb.h hs⟩
theorem qX{r:V->Option Int->Option Int->Hp->VK->Prop}{lo hi:Option Expr}{tl th:TO}{p2:Pos}(hr:QSl X r)(he:QE X e te)(hl:QO X lo tl)(hu:QO X hi th):QE X (.Subscript e (.Slice lo hi none p2) pos) (tSl r te tl th):=⟨zV hr.h he.h hl.h hu.h⟩
theorem vH:QO X none ul:=⟨B9⟩
theorem nC(h:QE X e te):QO X (some e) (Bh te):=⟨Ca h.h⟩
theorem ai:QA X [] gK:=⟨xL⟩
theorem q_a(ha:QE X e te)(hr:QA X es t)(hs:aV e=true:=by rfl):QA X (e::es) (eZ te t):=⟨pa ha.h hr.h hs⟩
theorem q_B{id:String}{r:List V->Hp->VK->Prop}(hc:QCall X (.builtin id) r)(hm:X.mg x=none)(hv:bootBuiltins x=some (.builtin id))(ha:QA X (e::es) t)(hg:Gl X x:=by rfl)(hs:(e::es).all aV=true:=by rfl)(hn:x≠"__name__":=by decide)(hdb:(x==("__debug__":Str))=false:=by decide) :
  QE X (.Call (.Name x p) (e::es) [] pos) (tCB r t):=⟨pB hc.h hm hv ha.h hg hs hn hdb⟩
theorem qU{T:String}{r:List V->Hp->VK->Prop}(hc:QCall X (.type T) r)(hm:X.mg x=none)(hv:bootBuiltins x=some (.type T))(ha:QA X (e::es) t)(hg:Gl X x:=by rfl)(hs:(e::es).all aV=true:=by rfl)(hn:x≠"__name__":=by decide)(hdb:(x==("__debug__":Str))=false:=by decide) :
  QE X (.Call (.Name x p) (e::es) [] pos) (tCB r t):=⟨pTy hc.h hm hv ha.h hg hs hn hdb⟩
theorem aL{k:Nat}{ps:List Str}{sp:Sp}(F:Fn X.prog X.w X.K X.mg X.base k x ps sp)(hr:Room k X.A)(ha:QA X (e::es) t)(hg:Gl X x:=by rfl)(hs:(e::es).all aV=true:=by rfl)(hdb:(x==("__debug__":Str))=false:=by decide) :
  QE X (.Call (.Name x p) (e::es) [] pos) (pI sp [] E0 t):=⟨pfn F hr ha.h hg hs hdb⟩
theorem bj{op:CmpOp}{r:R2}(ho:QOp X (compareOp op) r)(ha:QE X a ta)(hb:QE X b tb)(hm:behindInMarks op b=false:=by first|exact xB _|with_unfolding_all rfl):QT X (.Compare a [op] [b] pos) (mn (tOp r ta tb)):=⟨Cg ho.h ha.h hb.h hm⟩
theorem Cr{op op':CmpOp}{r r':R2}(ho:QOp X (compareOp op) r)(ho':QOp X (compareOp op') r')(ha:QE X a ta)(hb:QE X b tb)(hc:QE X c tc)(hm:lastMarks [op,op'] [b,c]=false:=by with_unfolding_all rfl) :
  QT X (.Compare a [op,op'] [b,c] pos) (mn (ml r r' ta tb tc)):=⟨Ac ho.h ho'.h ha.h hb.h hc.h hm⟩
theorem cG(ha:QT X a tA):QT X (.UnaryOp .Not a pos) (Ez tA):=⟨D4 ha.h⟩
theorem bR(h:QE X e te)(he:∀whole,isTrue e X.env whole=(do let v ←whole;standAt e.pos;holding [v] (truthy v)):=by intro _;rfl):QT X e (tB te):=⟨D6 h.h he⟩
theorem EH(ha:QT X a tA):QW X (.BoolOp .And [a] pos) tA:=⟨Ci ha.h⟩
theorem fJ(ha:QT X a tA):QW X (.BoolOp .Or [a] pos) tA:=⟨D9 ha.h⟩
theorem FD(ha:QT X a tA)(hb:QW X (.BoolOp .And (b::rest) pos) tB'):QW X (.BoolOp .And (a::b::rest) pos) (Eu tA tB'):=⟨D8 ha.h hb.h⟩
theorem eU(ha:QT X a tA)(hb:QW X (.BoolOp .Or (b::rest) pos) tB'):QW X (.BoolOp .Or (a::b::rest) pos) (tOr tA tB'):=⟨Fs ha.h hb.h⟩
theorem t_w(h:QW X e tA):QT X e tA:=⟨h.h.pt⟩
end
section
variable{X:Cx}{pos:Pos}{tg iter elt:Expr}{ifs:List Expr}{g:TG}{gs:TGs}{tc:TT}{te:TE}{scope:Scope}{cap:List Nat}{capN own:List Str}{wi:TI}
theorem aK{i:Nat}{x:Str}(hN:X.N.Nodup)(hi:X.N[i]?=some x:=by rfl)(hx:Loc X.env.scope x:=by first|exact Or.inl rfl|exact Or.inr rfl)(hf:X.fn x=true\/X.env.scope.names.lookup x=some .local:=by first|exact .inl rfl|exact .inr rfl):QG X (.Name x pos) (bG i):=⟨B5 hN hi hx hf⟩
theorem qv:QGs X [] iV:=⟨B6⟩
theorem gC{e:Expr}{es:List Expr}(h1:QG X e g)(h2:QGs X es gs)(hs:(assignEach (e::es) X.env).map (·.2)=assign e X.env::(assignEach es X.env).map (·.2):=by rfl):QGs X (e::es) (dv g gs):=⟨zW h1.h h2.h hs⟩
theorem pq{es:List Expr}{k n:Nat}(hc:X.calm=true)(h:QGs X es gs)(hn:(assignEach es X.env).length=n:=by rfl)(hst:(assignEach es X.env).findIdx? (·.1)=none:=by rfl):QG X (.Tuple es k pos) (iW X.K n gs):=⟨DM hc h.h hn hst⟩
theorem AO{o i:Expr}{to ti:TE}{t:pW}(ho:QE X o to)(hi:QE X i ti)(hs:QSet X t)(ha:∀ v,assign (.Subscript o i pos) X.env v=(do
   let ov ←holding [v] (eval o X.env)
   let iv ←holding [v,ov] (eval i X.env)
   standAt pos
   holding [v,ov,iv] (setItem ov iv v)
   release [v,ov,iv] []):=by intro _;rfl):QG X (.Subscript o i pos) (CU to ti t):=⟨DK ho.h hi.h hs.h ha⟩
theorem bV{l:Expr}(hl:QE X l te):QI X tg l (AR X.K te):=⟨B8 hl.h⟩
theorem AU{l:Expr}(hl:QE X l te):QI X tg l (CY X.K te):=⟨DO hl.h⟩
theorem iX{a:Expr}{ta:TA}{p:Pos}(hm:X.mg "range" = none)(ha:QA X [a] ta)(hg:Gl X "range":=by rfl)(hs:aV a=true:=by rfl):QI X tg (.Call (.Name "range" p) [a] [] pos) (AT ta):=⟨xP hg hm ha.h (aZ hs)⟩
theorem fm:QIf X [] fb:=⟨zZ⟩
theorem uV{c:Expr}{t:TT}(h:QT X c t):QIf X [c] t:=⟨Aa h.h⟩
theorem cJ(O:CompOk X scope cap capN)(hc:X.calm=true)(hi:QI X tg iter wi)(hg:∀C s0 H0 ex,QG (aO X scope (own++capN) C s0 H0 ex) tg g)(gk:GK own.length g)(ht:∀C s0 H0 ex,QIf (aO X scope (own++capN) C s0 H0 ex) ifs tc)(he:∀C s0 H0 ex,QE (aO X scope (own++capN) C s0 H0 ex) elt te)(hs:∀x,foldedSetIterable iter X.env x=pure x:=by intro _;rfl):QE X (.ListComp elt [⟨tg,iter,ifs,0⟩] scope pos) (pJ own.length cap wi g tc te) :=
 ⟨BY O hc hi.h (fun C s0 H0 ex=>(hg C s0 H0 ex).h) gk (fun C s0 H0 ex=>(ht C s0 H0 ex).h) (fun C s0 H0 ex=>(he C s0 H0 ex).h) hs⟩
variable{st:Stmt}{rest:List Stmt}{t u:TS}{e c:Expr}
theorem b_0:QB X [] vY:=⟨Ce⟩
theorem b_1(h:QS X st t):QB X [st] t:=⟨Cf h.h⟩
theorem b_c(h1:QS X st t)(h2:QB X rest u):QB X (st::rest) (vZ t u):=⟨Ab h1.h h2.h⟩
theorem aw(h:QE X e te):QS X (.Return (some e) pos) (EB te):=⟨DZ h.h⟩
theorem xY(h:QE X e te)(hs:swapsWith e none pos.line X.env=pure false:=by rfl):QS X (.Expr e pos) (vW te):=⟨Cc h.h hs⟩
theorem bt{body els:List Stmt}(hc:QT X c tc)(ht:QB X body t)(hu:QB X els u):QS X (.If c body els pos) (Aw tc t u):=⟨Fp hc.h ht.h hu.h⟩
theorem bh{i:Nat}{x:Str}{pos':Pos}(hN:X.N.Nodup)(he:QE X e te)(hi:X.N[i]?=some x:=by rfl)(hx:Loc X.env.scope x:=by first|exact Or.inl rfl|exact Or.inr rfl)(hs:swapsWith e (some (.Name x pos')) pos.line X.env=pure false:=by rfl)(hf:X.fn x=true\/X.env.scope.names.lookup x=some .local:=by first|exact .inl rfl|exact .inr rfl):QS X (.Assign [.Name x pos'] e pos) (nW te (bG i)):=⟨D3 hN hi hx he.h hs hf⟩
theorem lY{j:Nat}{y:Str}{py spos:Pos}(hN0:X.N.Nodup)(O:CompOk X scope cap capN)(hc:X.calm=true)(hi:QI X tg iter wi)(hg:∀C s0 H0 ex,QG (aO X scope (own++capN) C s0 H0 ex) tg g)(gk:GK own.length g)(ht:∀C s0 H0 ex,QIf (aO X scope (own++capN) C s0 H0 ex) ifs tc)(he:∀C s0 H0 ex,QE (aO X scope (own++capN) C s0 H0 ex) elt te)(hj:X.N[j]?=some y:=by rfl)(hy:Loc X.env.scope y:=by first|exact Or.inl rfl|exact Or.inr rfl)(hsw:swapsWith (.ListComp elt [⟨tg,iter,ifs,0⟩] scope pos) (some (.Name y py)) spos.line X.env=pure true:=by rfl)(hs:∀x,foldedSetIterable iter X.env x=pure x:=by intro _;rfl)(hf:X.fn y=true\/X.env.scope.names.lookup y=some .local:=by first|exact .inl rfl|exact .inr rfl) :
  QS X (.Assign [.Name y py] (.ListComp elt [⟨tg,iter,ifs,0⟩] scope pos) spos) (nW (pJ own.length cap wi g tc te) (bG j)) :=
 ⟨Cd hN0 hj hy O hc hi.h (fun C s0 H0 ex=>(hg C s0 H0 ex).h) gk (fun C s0 H0 ex=>(ht C s0 H0 ex).h) (fun C s0 H0 ex=>(he C s0 H0 ex).h) hsw hs hf⟩
theorem Ba(he:QE X e te)(hg:QG X tg g)(hs:swapsWithSole [tg] e pos.line X.env=pure false:=by rfl)(hw:swappedStores [tg] e X.env=pure none:=by rfl)(h1:(assignEach [tg] X.env).map (·.2)=[assign tg X.env]:=by rfl):QS X (.Assign [tg] e pos) (nW te g):=⟨DV he.h hg.h hs hw h1⟩
theorem Fw{i:Nat}{x:Str}{op:Operator}{ti:TIp}{pos':Pos}(hN:X.N.Nodup)(he:QE X e te)(ho:QIp X op ti)(hi:X.N[i]?=some x:=by rfl)(hx:Loc X.env.scope x:=by first|exact Or.inl rfl|exact Or.inr rfl)(hf:X.fn x=true\/X.env.scope.names.lookup x=some .local:=by first|exact .inl rfl|exact .inr rfl) :
  QS X (.AugAssign (.Name x pos') op e pos) (Ev i te ti):=⟨DW hN hi hx he.h ho.h hf⟩
theorem cZ{body:List Stmt}(hp:PassesOwn (model X.prog X.w) X.A X.env X.xe)(hc:X.calm=true)(hi:QI X tg iter wi)(hg:QG X tg g)(hb:QB X body t)(hs:∀x,foldedSetIterable iter X.env x=pure x:=by intro _;rfl):QS X (.For tg iter body [] pos) (Ew wi g t):=⟨DY hp hc hi.h hg.h hb.h hs⟩
end
theorem Fun.okQ{P:Program}{w:World}{K:PySem.W.Frag}{mg:Str->Option Value}{base:Heap}{x qual:Str}{st:Stmt}{f:Addr}{fd:FuncData}{N ps:List Str}{k:Nat}{sp:Sp}(F:Fun K x qual st f fd)(S:FnScope N ps (aj st))(len:∀ vs H Q E,sp vs H Q E->vs.length=ps.length)(hbody:∀ (cdv:Value) (A:Around) (outer:List Env) (s:Shared) (H:Hp) (vs:List V) (Q:VK) (E:XK),Room k (A.deeper (envOfC qual (aj st) s.heap.objs.size f cdv))->sp vs H Q E ->
   ∃ t,QB (fi CX0 P w K mg base N qual (aj st) f cdv A outer s H E).nox (bF st) t/\t { nx:=fun _ H'=>Q .non H',rt:=Q } (start N vs) H):FnOk P w K mg base CX0 (k+1) f fd ps sp :=
 F.ok S len fun cdv A outer s H vs Q E hr hsp=>let⟨t,h,q⟩:=hbody cdv A outer s H vs Q E hr hsp;⟨t,h.h,q⟩
section
variable{X:Cx}
theorem dW:QOp X (binaryOp .Add) (rI0 fun i j=>.int (i+j)):=⟨Do⟩
theorem lL:QOp X (binaryOp .Sub) (rI0 fun i j=>.int (i-j)):=⟨Dx⟩
theorem vh:QOp X (binaryOp .Mult) (rI CMul fun i j=>.int (i*j)):=⟨Dv⟩
theorem qK:QOp X (binaryOp .FloorDiv) (rI CC fun i j=>.int (i / j)):=⟨BR⟩
theorem gq:QOp X (binaryOp .Mod) (rI (fun _ j=>0<j) fun i j=>.int (i%j)):=⟨Du⟩
theorem AY:QOp X (binaryOp .Add) Eg:=⟨Dp⟩
theorem fu:QOp X (compareOp .Eq) rEq:=⟨Fa⟩
theorem ng:QOp X (compareOp .NotEq) rNe:=⟨Ff⟩
theorem qL:QOp X (compareOp .Lt) (rI0 fun i j=>.bl (decide (i<j))):=⟨Fe⟩
theorem mZ:QOp X (compareOp .LtE) (rI0 fun i j=>.bl (decide (i<=j))):=⟨Fd⟩
theorem Di:QOp X (compareOp .Gt) (rI0 fun i j=>.bl (decide (j<i))):=⟨Fc⟩
theorem zG:QOp X (compareOp .GtE) (rI0 fun i j=>.bl (decide (j<=i))):=⟨Fb⟩
theorem AZ:QOp X (compareOp .Is) (fun x y H Q=>y=.non/\Q (.bl (decide (x=.non))) H):=⟨Dr⟩
theorem Bi:QUn X (unaryOp .USub) (rU fun i=>.int (-i)):=⟨EG⟩
theorem bC:QIx X (Ag X.K):=⟨BD⟩
theorem aI:QIx X (Ah X.K):=⟨C4⟩
theorem xr:QSl X (El X.K):=⟨Cn⟩
theorem Bc:QSet X A7:=⟨As⟩
theorem cC:QCall X (.builtin "len") (fun xs H Q=>∃p ys,xs=[.ref p]/\(SqL X.K H p ys\/SqT X.K H p ys)/\Q (.int ys.length) H):=⟨qd⟩
theorem cP:QCall X (.builtin "isinstance") (fun xs H Q=>∃x T t b,xs=[x,.ty T]/\TyOf X.K H x t/\PySem.W.kitOne X.K t (.type T)=some b/\Q (.bl b) H):=⟨yR⟩
theorem jw(hc:X.calm=true):QCall X (.builtin "all") (fun xs H Q=>∃(p:Addr) (bs:List Bool),xs=[.ref p]/\SqL X.K H p (bs.map V.bl)/\Q (.bl (bs.all id)) H):=⟨yQ hc⟩
theorem AJ:QCall X (.type "tuple") (fun xs H Q=>∃p ys,xs=[.ref p]/\((SqL X.K H p ys/\∀l,H l=none->Q (.ref l) (upd H l (.tup ys)))\/(SqT X.K H p ys/\Q (.ref p) H))):=⟨oV⟩
theorem EV:QCall X (.type "int") (fun xs H Q=>(∃i,xs=[.int i]/\Q (.int i) H)\/∃k,xs=[.bl k]/\Q (.int (if k then 1 else 0)) H):=⟨wB⟩
theorem FP:QIp X .Add (ipI fun i j=>i+j):=⟨C1⟩
end
open PySem PySem.Spec PyProof.Rows
mutual
def Dt(H:Hp):PyData->V->Prop
 |.none,v=>v=.non
 |.bool b,v=>v=.bl b
 |.int i,v=>v=.int i
 |.str x,v=>v=.str x
 |.list ds,v=>∃a xs,v=.ref a/\Rd H a (.lst xs)/\DtAll H ds xs
 |.tuple ds,v=>∃a xs,v=.ref a/\Rd H a (.tup xs)/\DtAll H ds xs
 |.dict _,_=>False
def DtAll(H:Hp):List PyData->List V->Prop
 | [],xs=>xs=[]
 |d::ds,xs=>∃y ys,xs=y::ys/\Dt H d y/\DtAll H ds ys
end
section
variable{P:Program}{w:World}{H:Hp}{h:Heap}
mutual
theorem Dt.reads(ok:HOk P w H h):∀(d:PyData) (x:V) (v:Value),Dt H d x->RelV x v->∃as,Reads h v d as
 |.none,x,v,e,r=>by
  have e':x=.non:=by simpa only[Dt]using e
  subst e';cases r;exact⟨_,.none⟩
 |.bool b,x,v,e,r=>by
  have e':x=.bl b:=by simpa only[Dt]using e
  subst e';cases r;exact⟨_,.bool b⟩
 |.int i,x,v,e,r=>by
  have e':x=.int i:=by simpa only[Dt]using e
  subst e';obtain⟨t,rfl⟩:=r;exact⟨_,.int i t⟩
 |.str z,x,v,e,r=>by
  have e':x=.str z:=by simpa only[Dt]using e
  subst e';obtain⟨t,rfl⟩:=r;exact⟨_,.str z t⟩
 |.list ds,x,v,e,r=>by
  have e':∃a xs,x=.ref a/\Rd H a (.lst xs)/\DtAll H ds xs:=by simpa only[Dt]using e
  obtain⟨a,xs,rfl,hr,hd⟩:=e';cases r;obtain⟨_,its,n,rv,eo⟩:=hr.ok ok;obtain⟨as,q⟩:=DtAll.reads ok ds xs its hd rv;exact⟨_,.list eo rfl rfl (by simpa using q)⟩
 |.tuple ds,x,v,e,r=>by
  have e':∃a xs,x=.ref a/\Rd H a (.tup xs)/\DtAll H ds xs:=by simpa only[Dt]using e
  obtain⟨a,xs,rfl,hr,hd⟩:=e';cases r;obtain⟨_,its,rv,o,eo,hc,n,hs⟩:=hr.ok ok;obtain⟨as,q⟩:=DtAll.reads ok ds xs its hd rv;exact⟨_,.tuple eo hc hs (by simpa using q)⟩
 |.dict kvs,x,v,e,r=>by
  have e':False:=by simpa only[Dt]using e
  exact e'.elim
theorem DtAll.reads(ok:HOk P w H h):∀(ds:List PyData) (xs:List V) (vs:List Value),DtAll H ds xs->Vals xs vs->∃as,ReadsAll h vs ds as
 | [],xs,vs,e,r=>by
  have e':xs=[]:=by simpa only[DtAll]using e
  subst e';cases r;exact⟨_,.nil⟩
 |d::ds,xs,vs,e,r=>by
  have e':∃y ys,xs=y::ys/\Dt H d y/\DtAll H ds ys:=by simpa only[DtAll]using e
  obtain⟨y,ys,rfl,h1,h2⟩:=e';cases r with
  |cons r1 r2 =>obtain⟨as,q1⟩:=Dt.reads ok d y _ h1 r1;obtain⟨bs,q2⟩:=DtAll.reads ok ds ys _ h2 r2;exact⟨_,.cons q1 q2⟩
end
end
theorem gP{H:Hp}:∀(ns:List Int),DtAll H (ns.map PyData.int) (ns.map V.int)
 | []=>by simp only[List.map_nil,DtAll]
 |n::ns=>by simp only[Z0,DtAll];exact⟨_,_,rfl,by simp only[Dt],gP ns⟩
section
variable{X:Cx}
def FV:R2:=fun x y H Q=>∃dx dy,Dt H dx x/\Dt H dy y/\SeqAt.shaped dx=true/\SeqAt.shaped dy=true/\Q (.bl (PyData.eqv dx dy)) H
def Ej:R2:=fun x y H Q=>∃dx dy,Dt H dx x/\Dt H dy y/\SeqAt.shaped dx=true/\SeqAt.shaped dy=true/\Q (.bl (!PyData.eqv dx dy)) H
theorem Dq(hu:X.A.units+64<cLine):OpR X (compareOp .Eq) FV:=by intro pins s σ H x y v u Q I rx ry h;obtain⟨dx,dy,h1,h2,s1,s2,q⟩:=h;obtain⟨as,r1⟩:=Dt.reads I.hok dx x v h1 rx;obtain⟨bs,r2⟩:=Dt.reads I.hok dy y u h2 ry;exact eq_dataH r1 r2 s1 s2 hu ⟨.bl _,H,I,rfl,q⟩
theorem xI(hu:X.A.units+64<cLine):OpR X (compareOp .NotEq) Ej:=by intro pins s σ H x y v u Q I rx ry h;obtain⟨dx,dy,h1,h2,s1,s2,q⟩:=h;obtain⟨as,r1⟩:=Dt.reads I.hok dx x v h1 rx;obtain⟨bs,r2⟩:=Dt.reads I.hok dy y u h2 ry;exact ne_dataH r1 r2 s1 s2 hu ⟨.bl _,H,I,rfl,q⟩
theorem vm(hu:X.A.units+64<cLine):QOp X (compareOp .NotEq) Ej:=⟨xI hu⟩
end
section
variable{X:Cx}
variable{o e:Expr}{to te:TE}{apos cpos:Pos}
theorem A3(ho:QE X o to)(he:QE X e te)(hs:aV e=true:=by rfl)(hbase:attributeBase o "append" X.env (eval o X.env)=eval o X.env:=by rfl)(hline:(apos.endLine==cpos.line)=true:=by rfl) :
  QE X (.Call (.Attribute o "append" apos) [e] [] cpos) (tBM X.K "list" nE to (eZ te gK)):=by
 have h1:=aZ (es:=[]) (env:=X.env) hs;have h2:starEach ([]:List Expr) X.env=[]:=rfl;refine⟨Fh PySem.F.plainAttrs_list PySem.F.slot_list_append PySem.F.type_list_append xA ho.h (pa he.h xL hs) hbase ?_ hline h1 (by rw[h2];rfl)⟩;rw[h1,h2];rfl
end
open PySem PySem.Spec PyProof.Rows
theorem C3{i j:Int}{A B:Prop}(h1:i=j->A)(h2:i≠j->B):if decide (V.int i=V.int j)=true then A else B:=by
 by_cases h:i=j
 ·rw[if_pos (decide_eq_true (by rw[h]))];exact h1 h
 ·rw[if_neg (by rw[decide_eq_false (fun z=>h (by injection z))];exact Zr)];exact h2 h
theorem lA{i j:Int}{A B:Prop}(h1:i≠j->A)(h2:i=j->B):if(!decide (V.int i=V.int j))=true then A else B:=by
 by_cases h:i=j
 ·rw[if_neg (by rw[decide_eq_true (by rw[h])];decide)];exact h2 h
 ·rw[if_pos (by rw[decide_eq_false (fun z=>h (by injection z))];rfl)];exact h1 h
theorem ma{H H':Hp}{p:Addr}{o:HO}(e:Same H H')(h:H p=none):Same H (upd H' p o):=fun b u q=>by rw[af (am q h)];exact e _ _ q
theorem mR{H:Hp}{v:V}(h:isT H v=true):∃a xs,v=.ref a/\H a=some (.tup xs):=by
 cases v with
 |ref a =>
  have h':qz (H a)=true:=h;cases e:H a with
  |none=>rw[e]at h';cases h'
  |some o =>
   cases o with
   |tup xs=>exact⟨a,xs,rfl,e⟩
   |_=>rw[e]at h';cases h'
 |_=>cases h
theorem kU(f:V->Bool)(xs:List V):(((List.range xs.length).map fun i=>f ((xs[i]?).getD .non)).all id)=xs.all f:=by
 rw[List.all_map];have e:((List.range xs.length).all (id∘fun i=>f ((xs[i]?).getD .non)))=xs.all f:=by
  rw[YF,Z6,Z6];constructor
  ·intro h x hx;obtain⟨i,hi,rfl⟩:=List.getElem_of_mem hx;have:=h i (ZL.mpr hi);simpa[hi]using this
  ·intro h i hi;have hi':=ZL.mp hi;have:=h _ (ZC hi');simpa[hi']using this
 exact e
def ag(ns:List Int)(k:Nat):Int:=(ns[k]?).getD 0
theorem cS{ns:List Int}{k:Int}(h0:0<=k)(h1:k<ns.length):atI (ns.map V.int) k=some (.int (ag ns k.toNat)):=by
 have hk:k.toNat<ns.length:=by omega
 have ek:k=((k.toNat:Nat):Int):=by omega
 have q:atI (ns.map V.int) ((k.toNat:Nat):Int)=some (.int ns[k.toNat]):=gN (by rw[Zv,Zb hk]<;>rfl);rw[<-ek]at q;rw[q];unfold ag;rw[Zb hk];rfl
theorem yS{ns:List Int}{k:Int}(h0:0<=k)(h1:¬k<ns.length):ag ns k.toNat=0:=by unfold ag;rw[List.getElem?_eq_none (by omega)];rfl
def Asked(K:PySem.W.Frag)(H:Hp)(v:V):Prop :=
 (∃n,TyOf K H v (.type n))/\∀a xs,v=.ref a->H a=some (.tup xs)->xs.length<=1000/\∀x∈xs,∃m,TyOf K H x (.type m)
theorem Asked.same{K:PySem.W.Frag}{H H':Hp}{v:V}(h:Asked K H v)(e:Same H H'):Asked K H' v:=by
 obtain⟨⟨n,ty⟩,h2⟩:=h;refine⟨⟨n,cy e ty⟩,fun a xs hv hx=>?_⟩;subst hv;have q:H a=some (.tup xs):=by
  cases ty with
  |lst q=>rw[e _ _ q]at hx;cases hx
  |frz q=>rw[e _ _ q]at hx;cases hx
  |tup q=>rw[e _ _ q]at hx;cases hx;exact q
  |dK q=>rw[e _ _ q]at hx;cases hx
  |dT q=>rw[e _ _ q]at hx;cases hx
 obtain⟨l,k⟩:=h2 a xs rfl q;exact⟨l,fun x hm=>let⟨m,t⟩:=k x hm;⟨m,cy e t⟩⟩
theorem oj{K:PySem.W.Frag}{H:Hp}{a:Addr}{xs:List V}(h:H a=some (.tup xs))(hl:xs.length<=1000)(hx:∀ x∈xs,∃ m,TyOf K H x (.type m)):Asked K H (.ref a):=⟨⟨_,.tup h⟩,fun b ys e z=>by
 cases e;rw[h]at z;cases z;exact⟨hl,hx⟩⟩
open PySem PySem.Spec PyProof.Rows
section
variable{prog:Program}{w:World}{A:Around}
theorem eW(calm:A.handled=none)(it t:Addr)(apart:t≠it)(xs:Array Value) :
  Draws prog w A it [it,t] xs.size (fun i v=>xs[i]?=some v) (fun i h=>h.IsTupleIter it t i/\h.IsTuple t xs) where
 live:=fun _ _ q=>let⟨o,eo,_⟩:=q.1;⟨o,eo⟩
 frame:=fun _ _ _ q kp=>⟨let⟨o,eo,r⟩:=q.1;⟨o,kp it (by simp) o eo,r⟩,let⟨o,eo,r⟩:=q.2;⟨o,kp t (by simp) o eo,r⟩⟩
 item:=fun i s Q E lt q cont=>by
  have ei:xs[i]?=some xs[i]:=by simp[lt]
  obtain⟨o,eo,ec,ed⟩:=id q.1;obtain⟨p,ep,_,np,edp⟩:=id q.2;have ty:=q.1.typeIs;unfold Builtin.SmallTypes.nextOf;refine z6 (ZS (name:=Str.ofString "__next__") ty F.slot_tuple_iterator_next (ZW F.slot_tuple_iterator_next ty F.entry_tuple_iterator_next ?_ (F.args_tuple_iterator_next_1 _)));show wpAny _ _ (field (.ref it) 0 >>= _) _ _ s;refine z6 (Z3 eo ed (x:=.ref t) rfl ?_);show wpAny _ _ (if(Value.ref t==Value.none)=true then _ else _) _ _ s;rw[if_neg (show¬((Value.ref t==Value.none)=true)from Zr)];show wpAny _ _ (field (.ref it) 1 >>= _) _ _ s;refine z6 (Z3 eo ed (x:=.int i 0) rfl ?_);show wpAny _ _ (seqItems? (.ref t) >>= _) _ _ s;refine z6 (YW ep edp ?_);simp only[y0,ei];have sb:=ZQ s.heap it (fun ob=>ob.mapFields fun fs=>fs.setIfInBounds 1 (rawInt (i+1)));refine z6 (YD eo ed (by simp) (Zd ⟨xs[i],rfl,Zd (cont _ _ s.toks ei ⟨?_,?_⟩ (ZQ ..))⟩))
  ·exact⟨_,YG _ eo (YX (Ye ed _)),(Obj.cls_mapFields ..).trans ec,by rw[Ye ed];simp[rawInt]⟩
  ·exact q.2.extBut (ZQ ..).extBut apart
 done:=fun s Q E q cont=>by
  have ei:xs[xs.size]?=none:=by simp
  obtain⟨o,eo,ec,ed⟩:=id q.1;obtain⟨p,ep,_,np,edp⟩:=id q.2;have ty:=q.1.typeIs;unfold Builtin.SmallTypes.nextOf;refine z6 (ZS (name:=Str.ofString "__next__") ty F.slot_tuple_iterator_next (ZW F.slot_tuple_iterator_next ty F.entry_tuple_iterator_next ?_ (F.args_tuple_iterator_next_1 _)));show wpAny _ _ (field (.ref it) 0 >>= _) _ _ s;refine z6 (Z3 eo ed (x:=.ref t) rfl ?_);show wpAny _ _ (if(Value.ref t==Value.none)=true then _ else _) _ _ s;rw[if_neg (show¬((Value.ref t==Value.none)=true)from Zr)];show wpAny _ _ (field (.ref it) 1 >>= _) _ _ s;refine z6 (Z3 eo ed (x:=.int xs.size 0) rfl ?_);show wpAny _ _ (seqItems? (.ref t) >>= _) _ _ s;refine z6 (YW ep edp ?_);simp only[y0,ei];refine z6 (YO (z6 (YD eo ed (by simp) ?_)));show wpAny _ _ (newExc (.type "StopIteration") [] >>= _) _ _ _;refine z6 ?_;simp only[newExc,newTuple];refine z6 (ZP ?_ (by size_fits));refine z6 (m:=firstArgMember _ _) (wpAny_of_eq (a:=Value.none) (by first|rfl|(simp only[firstArgMember];rfl)) (ZP ?_ (by size_fits)));simp only[raiseNew];refine z6 (wpAny_handled ?_)
  first|rw[show A.in1.handled=none from calm]|rw[calm]
  exact z6 (Zd (wpAny_throw (cont _ _ (((ZQ ..).extBut.push _).push _) ⟨_,Zk _ rfl,rfl⟩)))
end
structure ZAp(z u v i j:Addr)(f g:List Addr):Prop where
 uz:u≠z
 vz:v≠z
 uv:u≠v
 ui:u≠i
 uj:u≠j
 vi:v≠i
 vj:v≠j
 iz:i≠z
 jz:j≠z
 ij:i≠j
 zf:z∉f
 zg:z∉g
 vf:v∉f
 vg:v∉g
 jf:j∉f
 ig:i∉g
section
variable{prog:Program}{w:World}{A:Around}{E:Value->Shared->Prop}{s:Shared}{z u v i j:Addr}{f g:List Addr}{n m k:Nat}{P1 P2:Nat->Value->Prop}{S1 S2:Nat->Heap->Prop}{a b:Value}
def uG(z v i j:Addr)(h h':Heap):Prop:=∀c o,c≠z->c≠v->c≠i->c≠j->h.get? c=some o->h'.get? c=some o
theorem cV{c:Addr}{f:List Addr}{d:Addr}(hc:c∈f)(hd:d∉f):c≠d:=fun e=>hd (e▸hc)
theorem AE(d1:Draws prog w A i f n P1 S1)(d2:Draws prog w A j g m P2 S2)(ap:ZAp z u v i j f g)(hz:IsZip s.heap z u v .none)(hu:IsPair s.heap u (.ref i) (.ref j))(hv:IsPair s.heap v a b)(h1:S1 k s.heap)(h2:S2 k s.heap)(l1:k<n)(l2:k<m){Q:Value->Shared->Prop}(cont:∀h' tk x y,P1 k x->P2 k y->IsZip h' z u v (rawInt s.heap.objs.size)->IsPair h' v x y->S1 (k+1) h'->S2 (k+1) h'->IsPair h' s.heap.objs.size x y->uG z v i j s.heap h'->Q (.ref s.heap.objs.size) { s with heap:=h',toks:=tk }) :
  wpAny (model prog w) A (Builtin.«zip.__next__» ⟨[.ref z],[]⟩) (fun fin s'=>∃r,fin=.done (.ret r)/\Q r s') E s:=by
 show wpAny _ _ (field (.ref z) 2 >>= _) _ _ _;refine z6 (Z3 hz rfl (x:=.bool false) rfl ?_);show wpAny _ _ (field (.ref z) 3 >>= _) _ _ _;refine z6 (Z3 hz rfl (x:=.ref u) rfl (z6 (YW hu rfl ?_)));show wpAny _ _ (Builtin.SmallTypes.ownedTupleIsFree (.ref z) >>= _) _ _ _;refine z6 ?_;unfold Builtin.SmallTypes.ownedTupleIsFree;refine z6 (Z3 hz rfl (x:=.none) rfl (Zd ?_));simp only[if_true];refine z6 (YO (z6 (Z3 hz rfl (x:=.ref v) rfl ?_)));refine z6 (wpAny_setField_rec hz (by simp) fun q1 z1 b1=>?_)
 replace z1:IsZip q1 z u v .ellipsis:=z1
 refine z6 ?_;simp only[List.zipIdx_cons,List.zipIdx_nil,List.forIn_cons,List.forIn_nil];refine z6 (z6 (wpAny_onRaise ?_));show wpAny _ _ (Builtin.SmallTypes.nextOf (.ref i) >>= _) _ _ _;refine z6 (d1.item k { s with heap:=q1 } _ _ l1 (d1.frame _ _ _ h1 fun c hc o e=>b1.extBut c o (cV hc ap.zf) e) fun x q2 t2 px s2 b2=>Zd ?_);have v2:IsPair q2 v a b:=b2.extBut _ _ ap.vi (b1.extBut _ _ ap.vz hv);refine z6 (YW v2 rfl (z6 (wpAny_updateSeq_pair v2 fun q3 w3 b3=>?_)))
 replace w3:IsPair q3 v x b:=w3
 refine z6 (wpAny_letGo (Zd ?_));refine z6 (z6 (wpAny_onRaise ?_));show wpAny _ _ (Builtin.SmallTypes.nextOf (.ref j) >>= _) _ _ _;refine z6 (d2.item k { s with heap:=q3,toks:=t2 } _ _ l2 (d2.frame _ _ _ h2 fun c hc o e=>b3.extBut c o (cV hc ap.vg) (b2.extBut c o (cV hc ap.ig) (b1.extBut c o (cV hc ap.zg) e))) fun y q4 t4 py s4 b4=>Zd ?_);have v4:IsPair q4 v x b:=b4.extBut _ _ ap.vj w3;refine z6 (YW v4 rfl (z6 (wpAny_updateSeq_pair v4 fun q5 w5 b5=>?_)))
 replace w5:IsPair q5 v x y:=w5
 refine z6 (wpAny_letGo (Zd (Zd (z6 (YW w5 rfl (z6 (wpAny_newTuple ?_)))))));have sz:q5.objs.size=s.heap.objs.size:=by rw[b5.1,b4.1,b3.1,b2.1,b1.1]
 have z5:IsZip q5 z u v .ellipsis:=b5.extBut _ _ ap.vz.symm (b4.extBut _ _ ap.jz.symm (b3.extBut _ _ ap.vz.symm (b2.extBut _ _ ap.iz.symm z1)));have k5:uG z v i j s.heap q5:=fun c o c1 c2 c3 c4 e=>b5.extBut _ _ c2 (b4.extBut _ _ c4 (b3.extBut _ _ c2 (b2.extBut _ _ c3 (b1.extBut _ _ c1 e))));have s5:S1 (k+1) q5:=d1.frame _ _ _ s2 fun c hc o e=>b5.extBut c o (cV hc ap.vf) (b4.extBut c o (cV hc ap.jf) (b3.extBut c o (cV hc ap.vf) e));have r5:S2 (k+1) q5:=d2.frame _ _ _ s4 fun c hc o e=>b5.extBut c o (cV hc ap.vg) e;have zlt:z<q5.objs.size:=Zo z5;show wpAny _ _ (Builtin.SmallTypes.ownedTupleHandOut (.ref z) (.ref q5.objs.size) >>= _) _ _ _;refine z6 ?_;unfold Builtin.SmallTypes.ownedTupleHandOut;refine z6 (wpAny_setField_rec (show IsZip (q5.push { cls:=.type "tuple",data:=.seq #[x,y] }) z u v .ellipsis from Za _ z5) (by simp) fun q7 z7 b7=>?_)
 replace z7:IsZip q7 z u v (rawInt q5.objs.size):=z7
 refine wpAny_setField_rec z7 (by simp) fun q8 z8 b8=>?_
 replace z8:IsZip q8 z u v (rawInt q5.objs.size):=z8
 have up:∀c o,c≠z->q5.get? c=some o->q8.get? c=some o:=fun c o c1 e=>b8.extBut _ _ c1 (b7.extBut _ _ c1 (Za _ e));have p8:IsPair q8 q5.objs.size x y:=b8.extBut _ _ (Yh zlt) (b7.extBut _ _ (Yh zlt) (Zk _ rfl));rw[sz]at z8 p8;refine Zd ⟨_,rfl,?_⟩;show Q (.ref q5.objs.size) _;rw[sz];exact cont q8 _ x y px py z8 (up _ _ ap.vz w5) (d1.frame _ _ _ s5 fun c hc o e=>up c o (cV hc ap.zf) e) (d2.frame _ _ _ r5 fun c hc o e=>up c o (cV hc ap.zg) e) p8 fun c o c1 c2 c3 c4 e=>up c o c1 (k5 c o c1 c2 c3 c4 e)
theorem Cz(d1:Draws prog w A i f n P1 S1)(d2:Draws prog w A j g m P2 S2)(ap:ZAp z u v i j f g)(hz:IsZip s.heap z u v .none)(hu:IsPair s.heap u (.ref i) (.ref j))(hv:IsPair s.heap v a b)(h1:S1 n s.heap){Q:Fin->Shared->Prop}(cont:∀h' e,uG z v i j s.heap h'->(∃o,h'.get? e=some o/\o.cls=.type "StopIteration")->E (.ref e) { s with heap:=h' }):wpAny (model prog w) A (Builtin.«zip.__next__» ⟨[.ref z],[]⟩) Q E s:=by
 show wpAny _ _ (field (.ref z) 2 >>= _) _ _ _;refine z6 (Z3 hz rfl (x:=.bool false) rfl ?_);show wpAny _ _ (field (.ref z) 3 >>= _) _ _ _;refine z6 (Z3 hz rfl (x:=.ref u) rfl (z6 (YW hu rfl ?_)));show wpAny _ _ (Builtin.SmallTypes.ownedTupleIsFree (.ref z) >>= _) _ _ _;refine z6 ?_;unfold Builtin.SmallTypes.ownedTupleIsFree;refine z6 (Z3 hz rfl (x:=.none) rfl (Zd ?_));simp only[if_true];refine z6 (YO (z6 (Z3 hz rfl (x:=.ref v) rfl ?_)));refine z6 (wpAny_setField_rec hz (by simp) fun q1 z1 b1=>?_)
 replace z1:IsZip q1 z u v .ellipsis:=z1
 refine z6 ?_;simp only[List.zipIdx_cons,List.zipIdx_nil,List.forIn_cons,List.forIn_nil];refine z6 (z6 (wpAny_onRaise ?_));show wpAny _ _ (Builtin.SmallTypes.nextOf (.ref i) >>= _) _ _ _;refine z6 (d1.done { s with heap:=q1 } _ _ (d1.frame _ _ _ h1 fun c hc o e=>b1.extBut c o (cV hc ap.zf) e) fun q2 e b2 he=>?_);obtain⟨oe,hoe,hce⟩:=he;have z2:IsZip q2 z u v .ellipsis:=b2 _ _ ap.iz.symm z1;have ez:e≠z:=fun x=>by subst x;rw[z2]at hoe;cases hoe;simp at hce
 exact wpAny_setField_rec z2 (by simp) fun q3 _ b3=>cont q3 e (fun c o c1 _ c3 _ x=>b3.extBut _ _ c1 (b2 _ _ c3 (b1.extBut _ _ c1 x))) ⟨oe,b3.extBut _ _ ez hoe,hce⟩
end
section
variable{X:Cx}{pins:List (Addr×Obj)}{σ:St}{H:Hp}{s:Shared}{h':Heap}{ch:List Addr}{t':Nat}
theorem Inv.turnH{H':Hp}(I:Inv X pins σ H s)(hch:∀b∈ch,bz X pins H b)(kp:∀b o,b∉ch->s.heap.get? b=some o->h'.get? b=some o)(up:∀b u,H b=some u->H' b=some u)(dn:∀b o,s.heap.get? b=some o->H b=none->H' b=none)(hok:HOk X.prog X.w H' h') :
  Inv X pins σ H' { s with heap:=h',toks:=t' }:=by
 refine I.step (g':=s.gens) (d':=s.drawn) (ch:=ch) (fun b hb=>?_) (fun b o _ _ hc e _=>kp b o hc e) (fun b o _ _ hc e _=>⟨o.slots,kp b o hc e⟩) (fun b o _ e n=>dn b o e n) (fun b o hc e=>⟨o,kp b o hc e⟩) (fun b xs e=>up _ _ e) (fun b o u e=>up _ _ e) (fun b ps e=>⟨#[],by rw[up _ _ e];simp⟩) (fun m hm=>?_) hok I.bare
 ·obtain⟨f0,f1,f2,f3,f4,f5⟩:=hch b hb;exact⟨f3,f1,f4,f5⟩
 ·obtain⟨o,es,ep,ho,r⟩:=hm;exact⟨o,es,ep,kp _ o (fun z=>(hch _ z).2.1 rfl) ho,r⟩
theorem qw(I:Inv X pins σ H s)(hch:∀b∈ch,bz X pins H b)(kp:∀b o,b∉ch->s.heap.get? b=some o->h'.get? b=some o):HOk X.prog X.w H h':=fun b u e=>by
 have nin:∀{c:Addr} {q:HO},H c=some q->c∉ch:=fun{c q} e z=>by rw[(hch c z).1]at e;cases e
 refine(I.hok b u e).stay (fun c v hc q=>kp c v ?_ q) (fun _ q=>q) fun _ _ q=>q;rcases hc with z|z
 ·rw[z];exact nin e
 ·exact nin z
theorem Inv.turnM(I:Inv X pins σ H s)(hch:∀b∈ch,bz X pins H b)(kp:∀b o,b∉ch->s.heap.get? b=some o->h'.get? b=some o):Inv X pins σ H { s with heap:=h',toks:=t' } :=
 I.turnH hch kp (fun _ _ e=>e) (fun _ _ _ n=>n) (qw I hch kp)
theorem Inv.turnT{xs:List V}{its:List Value}(I:Inv X pins σ H s)(hch:∀b∈ch,bz X pins H b)(kp:∀b o,b∉ch->s.heap.get? b=some o->h'.get? b=some o)(hp:IsTup h' s.heap.objs.size its.toArray)(rv:Vals xs its)(hz:xs.length<=sizeLine) :
  Inv X pins σ (upd H s.heap.objs.size (.tup xs)) { s with heap:=h',toks:=t' }:=by
 have fr:=I.hok.fresh (Ze s.heap.objs.size);have ne:∀{b:Addr} {u:HO},H b=some u->b≠s.heap.objs.size:=fun{b u} e=>am e fr;have hk:=qw I hch kp;refine I.turnH hch kp (fun b u e=>by rw[af (ne e)];exact e) (fun b o e n=>by rw[af (ZB (Zo e))];exact n) fun b u e=>?_;by_cases hb:b=s.heap.objs.size
 ·subst hb;rw[ad]at e;cases e;exact⟨hz,its,rv,hp⟩
 ·rw[af hb]at e;exact(hk b u e).stay (fun _ _ _ q=>q) (fun c q=>by rw[af (ne q)];exact q) fun c ys q=>by rw[af (ne q)];exact q
end
def Itz(K:PySem.W.Frag)(a b:Addr)(xs ys:List V):It :=
 ⟨fun i H=>i<xs.length/\SqT K H a xs/\SqT K H b ys,fun i H x H'=>∃T p q,H T=none/\xs[i]?=some p/\ys[i]?=some q/\x=.ref T/\H'=upd H T (.tup [p,q]),fun i H=>i=xs.length/\SqT K H a xs/\SqT K H b ys⟩
abbrev zTn(z u v i1 i2 a b:Addr):Nat->Heap->Prop:=fun i h=>IsZip h z u v .none/\IsPair h u (.ref i1) (.ref i2)/\(∃p q,IsPair h v p q)/\h.IsTupleIter i1 a i/\h.IsTupleIter i2 b i
theorem AC{P:Program}{w:World}{K:PySem.W.Frag}{elts:List Expr}{kt:Nat}{tp:Pos}{z u v i1 i2 a b:Addr}{xs ys:List V}(hl:xs.length=ys.length)(D:[z,u,v,i1,i2].Nodup)(ha:∀c∈[z,u,v,i1,i2],c≠a/\c≠b) :
  Turn P w K (.Tuple elts kt tp) (Itz K a b xs ys) [z,u,v,i1,i2] z (zTn z u v i1 i2 a b):=by
 have nd:(z≠u/\z≠v/\z≠i1/\z≠i2)/\(u≠v/\u≠i1/\u≠i2)/\(v≠i1/\v≠i2)/\i1≠i2:=by simpa using D
 obtain⟨⟨zu,zv,z1,z2⟩,⟨uv,u1,u2⟩,⟨v1,v2⟩,i12⟩:=nd;have az:=ha z (by simp);have av:=ha v (by simp);have a1:=ha i1 (by simp);have a2:=ha i2 (by simp);have ap:ZAp z u v i1 i2 [i1,a] [i2,b]:=⟨zu.symm,zv.symm,uv,u1,u2,v1,v2,z1.symm,z2.symm,i12,by simp[z1,az.1],by simp[z2,az.2],by simp[v1,av.1],by simp[v2,av.2],by simp[i12.symm,a2.1],by simp[i12,a1.2]⟩
 refine⟨by simp,fun i h st c hc=>?_,fun i h h' st k=>?_,?_,?_,fun A i s Q E st h=>wpAny_pyIter_zip st.1 h⟩
 ·obtain⟨e1,e2,⟨p,q,e3⟩,⟨o4,e4,_,d4⟩,⟨o5,e5,_,d5⟩⟩:=st;simp only[Zs,ZX,YH]at hc;rcases hc with rfl|rfl|rfl|rfl|rfl
  ·exact⟨_,e1,fun v z=>nomatch z⟩
  ·exact⟨_,e2,fun v z=>nomatch z⟩
  ·exact⟨_,e3,fun v z=>nomatch z⟩
  ·exact⟨_,e4,fun v z=>by rw[d4]at z;cases z⟩
  ·exact⟨_,e5,fun v z=>by rw[d5]at z;cases z⟩
 ·obtain⟨e1,e2,⟨p,q,e3⟩,⟨o4,e4,r4⟩,⟨o5,e5,r5⟩⟩:=st;exact⟨k z (by simp) _ e1,k u (by simp) _ e2,⟨p,q,k v (by simp) _ e3⟩,⟨o4,k i1 (by simp) _ e4,r4⟩,⟨o5,k i2 (by simp) _ e5,r5⟩⟩
 ·intro X hP hw hK hc i pins s σ H E I hf st hg;subst hP hw hK;obtain⟨e1,e2,⟨p,q,e3⟩,e4,e5⟩:=st;obtain⟨hi,hx,hy⟩:=hg;obtain⟨its,rx,px,zx⟩:=I.tuple hx;obtain⟨jts,ry,py,zy⟩:=I.tuple hy;have lx:i<its.toArray.size:=by rw[Zh,<-rx.length];exact hi
  have ly:i<jts.toArray.size:=by rw[Zh,<-ry.length,<-hl];exact hi
  have hh:=I.ok.hd hc;have hT:s.TypeIs (.ref z) "zip":=⟨_,e1,rfl⟩
  unfold pyNext;refine z6 (wpAny_attempt (ZS (name:=Str.ofString "__next__") hT F.slot_zip_next (ZW F.slot_zip_next hT F.entry_zip_next
   (AE (eW (A:=X.A.in1) hh i1 a a1.1.symm its.toArray) (eW (A:=X.A.in1) hh i2 b a2.2.symm jts.toArray) ap e1 e2 e3 ⟨e4,px⟩ ⟨e5,py⟩ lx ly fun h' tk x y qx qy zz vv s1 s2 pp kp=>Zd ?_) (F.args_zip_next_1 _))))
  refine⟨_,rfl,wpAny_letOwnedTupleGo_zip (s:={ s with heap:=h',toks:=tk }) zz fun h2 z2' sb=>?_⟩;obtain⟨xv,ex⟩:∃xv,xs[i]?=some xv:=⟨xs[i],by simp[hi]⟩
  obtain⟨yv,ey⟩:∃yv,ys[i]?=some yv:=⟨ys[i]'(by omega),by simp[show i<ys.length by omega]⟩
  obtain⟨x',gx,rxv⟩:=rx.get ex;obtain⟨y',gy,ryv⟩:=ry.get ey;have qx':its[i]?=some x:=by simpa using qx
  have qy':jts[i]?=some y:=by simpa using qy
  rw[gx]at qx';rw[gy]at qy';cases qx';cases qy';have ltz:z<s.heap.objs.size:=Zo e1;have kp2:∀c o,c∉[z,u,v,i1,i2]->s.heap.get? c=some o->h2.get? c=some o:=fun c o hc e=>by simp only[Zs,ZX,YH,not_or]at hc;exact sb.extBut c o hc.1 (kp c o hc.1 hc.2.2.1 hc.2.2.2.1 hc.2.2.2.2 e)
  have tT:IsTup h2 s.heap.objs.size [x,y].toArray:=⟨_,sb.extBut _ _ (Yh ltz) pp,rfl,_,rfl⟩
  refine⟨.ref s.heap.objs.size,upd H s.heap.objs.size (.tup [xv,yv]),I.turnT (t':=tk) hf kp2 tT (.cons rxv (.cons ryv .nil)) (sz rfl),rfl,⟨_,xv,yv,I.hok.fresh (Ze _),ex,ey,rfl,rfl⟩,?_,fun c hc=>?_⟩
  ·exact⟨z2',sb.extBut _ _ zu.symm (kp _ _ zu.symm uv u1 u2 e2),⟨_,_,sb.extBut _ _ zv.symm vv⟩,s1.1.extBut sb.extBut z1.symm,s2.1.extBut sb.extBut z2.symm⟩
  ·rw[af]
   ·exact(hf c hc).1
   ·obtain⟨o,eo,_⟩:∃o,s.heap.get? c=some o/\True:=by
     simp only[Zs,ZX,YH]at hc;rcases hc with rfl|rfl|rfl|rfl|rfl
     ·exact⟨_,e1,trivial⟩
     ·exact⟨_,e2,trivial⟩
     ·exact⟨_,e3,trivial⟩
     ·obtain⟨o,eo,_⟩:=e4;exact⟨o,eo,trivial⟩
     ·obtain⟨o,eo,_⟩:=e5;exact⟨o,eo,trivial⟩
    exact ZB (Zo eo)
 ·intro X hP hw hK hc i pins s σ H E I hf st hg;subst hP hw hK;obtain⟨e1,e2,⟨p,q,e3⟩,e4,e5⟩:=st;obtain⟨rfl,hx,hy⟩:=hg;obtain⟨its,rx,px,zx⟩:=I.tuple hx;obtain⟨jts,ry,py,zy⟩:=I.tuple hy;have lx:its.toArray.size=xs.length:=by rw[Zh,<-rx.length]
  have hh:=I.ok.hd hc;have hT:s.TypeIs (.ref z) "zip":=⟨_,e1,rfl⟩
  unfold pyNext;refine z6 (wpAny_attempt (ZS (name:=Str.ofString "__next__") hT F.slot_zip_next (ZW F.slot_zip_next hT F.entry_zip_next
   (Cz (eW (A:=X.A.in1) hh i1 a a1.1.symm its.toArray) (eW (A:=X.A.in1) hh i2 b a2.2.symm jts.toArray) ap e1 e2 e3 ⟨by rw[lx];exact e4,px⟩ fun h' e kp he=>?_) (F.args_zip_next_1 _))))
  obtain⟨o,ho,hco⟩:=he;refine z6 (wpAny_isInstance (T:="StopIteration") (b:=true) ⟨o,ho,hco⟩ isSubtype_stop (Zd ⟨rfl,?_⟩));exact I.turnM (t':=s.toks) hf fun c ob hc e=>by simp only[Zs,ZX,YH,not_or]at hc;exact kp c ob hc.1 hc.2.2.1 hc.2.2.2.1 hc.2.2.2.2 e
theorem vd(l1 l2:Addr)(xs ys:Array Value) :
  Meets (Builtin.«zip.__new__» ⟨[.type "zip",.ref l1,.ref l2],[]⟩) (fun _ R s=>s.heap.IsTuple l1 xs/\s.heap.IsTuple l2 ys /\
   R (.ok (.ret (.ref ((((s.heap.push { cls:=.type "tuple_iterator",data:=.fields #[.ref l1,.int 0 0] }).push { cls:=.type "tuple_iterator",data:=.fields #[.ref l2,.int 0 0] }).push { cls:=.type "tuple",data:=.seq #[.ref s.heap.objs.size,.ref (s.heap.push { cls:=.type "tuple_iterator",data:=.fields #[.ref l1,.int 0 0] }).objs.size] }).push { cls:=.type "tuple",data:=.seq #[.none,.none] }).objs.size)))
    { s with heap:=((((s.heap.push { cls:=.type "tuple_iterator",data:=.fields #[.ref l1,.int 0 0] }).push { cls:=.type "tuple_iterator",data:=.fields #[.ref l2,.int 0 0] }).push { cls:=.type "tuple",data:=.seq #[.ref s.heap.objs.size,.ref (s.heap.push { cls:=.type "tuple_iterator",data:=.fields #[.ref l1,.int 0 0] }).objs.size] }).push { cls:=.type "tuple",data:=.seq #[.none,.none] }).push { cls:=.type "zip",data:=.fields #[.none,.bool false,.bool false,.ref ((s.heap.push { cls:=.type "tuple_iterator",data:=.fields #[.ref l1,.int 0 0] }).push { cls:=.type "tuple_iterator",data:=.fields #[.ref l2,.int 0 0] }).objs.size,.ref (((s.heap.push { cls:=.type "tuple_iterator",data:=.fields #[.ref l1,.int 0 0] }).push { cls:=.type "tuple_iterator",data:=.fields #[.ref l2,.int 0 0] }).push { cls:=.type "tuple",data:=.seq #[.ref s.heap.objs.size,.ref (s.heap.push { cls:=.type "tuple_iterator",data:=.fields #[.ref l1,.int 0 0] }).objs.size] }).objs.size] } }) :=
 .of_wp fun prog w A R s h=>by
  obtain⟨hp,g,d,tk,os⟩:=s;obtain⟨t1,t2,h⟩:=h;have hsub:=sub_zip;have T1:Heap.IsTuple (Shared.heap ⟨hp,g,d,tk,os⟩) l1 xs:=t1;have T2:Heap.IsTuple (Shared.heap ⟨hp.push { cls:=.type "tuple_iterator",data:=.fields #[.ref l1,.int 0 0] },g,d,tk,os⟩) l2 ys:=Heap.IsTuple.push t2 _
  wp_walk using Y8 T1,Y8 T2
  exact⟨_,rfl,h⟩
theorem De(n:Nat):[n+4,n+2,n+3,n,n+1].Nodup:=by simp
def CZ(K:PySem.W.Frag)(ta:TA):TI:=fun σ H R=>ta σ H fun vs H1=>∃a b xs ys,vs=[.ref a,.ref b]/\SqT K H1 a xs/\SqT K H1 b ys/\xs.length=ys.length/\R (Itz K a b xs ys) H1
section
variable{X:Cx}
theorem DP{e1 e2:Expr}{ta:TA}{p pos tp:Pos}{elts:List Expr}{kt:Nat}(hg:Gl X "zip")(hm:X.mg "zip" = none)(ha:PA X [e1,e2] ta)(n1:aV e1=true)(n2:aV e2=true):PI X (.Tuple elts kt tp) (.Call (.Name "zip" p) [e1,e2] [] pos) (CZ X.K ta):=by
 intro pins s σ H R I h;refine Call_ (dS I hg hm boot_zip (YM (thn (ha pos pins s σ H _ I h) fun us s1 hz9=>?_) (aZ n1) (bI (by simp[n2]))));obtain⟨vs,H1,I1,r1,q1⟩:=hz9;obtain⟨a,b,xs,ys,e,hx,hy,hl,q⟩:=q1;subst e;obtain⟨ua,ub,rfl,ra,rb⟩:=Bj r1;cases ra;cases rb;obtain⟨its,rx,px,zx⟩:=I1.tuple hx;obtain⟨jts,ry,py,zy⟩:=I1.tuple hy;refine callType_new F.called_zip (by decide) (F.typeCall_zip_2 _ _) (F.newCall_zip_2 _ _) (fun obj=>F.args_object_init_3 obj _ _) F.entry_zip_new (vd a b its.toArray jts.toArray) ⟨px,py,?_⟩;generalize ea:({ cls:=.type "tuple_iterator",data:=.fields #[.ref a,.int 0 0] }:Obj)=oa;generalize eb:({ cls:=.type "tuple_iterator",data:=.fields #[.ref b,.int 0 0] }:Obj)=ob;have z1:(s1.heap.push oa).objs.size=s1.heap.objs.size+1:=YV ..;have z2:((s1.heap.push oa).push ob).objs.size=s1.heap.objs.size+2:=by rw[YV,z1]
 rw[z2,z1];generalize eu:({ cls:=.type "tuple",data:=.seq #[.ref s1.heap.objs.size,.ref (s1.heap.objs.size+1)] }:Obj)=ou;have z3:(((s1.heap.push oa).push ob).push ou).objs.size=s1.heap.objs.size+3:=by rw[YV,z2]
 generalize ev:({ cls:=.type "tuple",data:=.seq #[.none,.none] }:Obj)=ov;have z4:((((s1.heap.push oa).push ob).push ou).push ov).objs.size=s1.heap.objs.size+4:=by rw[YV,z3]
 rw[z4,z3];generalize ez:({ cls:=.type "zip",data:=.fields #[.none,.bool false,.bool false,.ref (s1.heap.objs.size+2),.ref (s1.heap.objs.size+3)] }:Obj)=oz;have g5:(((((s1.heap.push oa).push ob).push ou).push ov).push oz).get? (s1.heap.objs.size+4)=some oz:=by rw[<-z4];exact Zk _ (by rw[<-ez];rfl)
 have g4:(((((s1.heap.push oa).push ob).push ou).push ov).push oz).get? (s1.heap.objs.size+3)=some ov:=by rw[<-z3];exact Za _ (Zk _ (by rw[<-ev];rfl))
 have g3:(((((s1.heap.push oa).push ob).push ou).push ov).push oz).get? (s1.heap.objs.size+2)=some ou:=by rw[<-z2];exact Za _ (Za _ (Zk _ (by rw[<-eu];rfl)))
 have g2:(((((s1.heap.push oa).push ob).push ou).push ov).push oz).get? (s1.heap.objs.size+1)=some ob:=by rw[<-z1];exact Za _ (Za _ (Za _ (Zk _ (by rw[<-eb];rfl))))
 have g1:(((((s1.heap.push oa).push ob).push ou).push ov).push oz).get? s1.heap.objs.size=some oa:=Za _ (Za _ (Za _ (Za _ (Zk _ (by rw[<-ea];rfl)))));have kp:∀c o,s1.heap.get? c=some o->(((((s1.heap.push oa).push ob).push ou).push ov).push oz).get? c=some o:=fun c o e=>Za _ (Za _ (Za _ (Za _ (Za _ e))));generalize((((s1.heap.push oa).push ob).push ou).push ov).push oz=hN at g1 g2 g3 g4 g5 kp ⊢;have I2:Inv X pins σ H1 { s1 with heap:=hN }:=I1.kept (t':=s1.toks) kp;have la:a<s1.heap.objs.size:=px.lt;have lb:b<s1.heap.objs.size:=py.lt;subst ea eb eu ev ez;have base:∀c∈[s1.heap.objs.size+4,s1.heap.objs.size+2,s1.heap.objs.size+3,s1.heap.objs.size,s1.heap.objs.size+1],s1.heap.objs.size<=c:=fun c hc=>by simp only[Zs,ZX,YH]at hc;omega
 refine⟨⟨_,g5,rfl⟩,?_⟩;show wpAny (model X.prog X.w) X.A (pyIter (.ref (s1.heap.objs.size+4))) (PIE X pins σ (.Tuple elts kt tp) R) X.xe { s1 with heap:=hN };refine wpAny_pyIter_zip g5 ?_;refine⟨s1.heap.objs.size+4,[s1.heap.objs.size+4,s1.heap.objs.size+2,s1.heap.objs.size+3,s1.heap.objs.size,s1.heap.objs.size+1],zTn (s1.heap.objs.size+4) (s1.heap.objs.size+2) (s1.heap.objs.size+3) s1.heap.objs.size (s1.heap.objs.size+1) a b,_,H1,rfl,I2,
  AC hl ?_ (fun c hc=>⟨Yh (ZA la (base c hc)),Yh (ZA lb (base c hc))⟩),⟨g5,g3,⟨_,_,g4⟩,⟨_,g1,rfl,rfl⟩,⟨_,g2,rfl,rfl⟩⟩,fun c hc=>?_,q⟩
 ·exact De s1.heap.objs.size
 ·exact I1.fpOk (base c hc) (I1.hok.fresh (base c hc))
theorem AV{e1 e2:Expr}{ta:TA}{p pos tp:Pos}{elts:List Expr}{kt:Nat}(hm:X.mg "zip" = none)(ha:QA X [e1,e2] ta)(hg:Gl X "zip":=by rfl)(n1:aV e1=true:=by rfl)(n2:aV e2=true:=by rfl):QI X (.Tuple elts kt tp) (.Call (.Name "zip" p) [e1,e2] [] pos) (CZ X.K ta):=⟨DP hg hm ha.h n1 n2⟩
end
open PySem PySem.Spec PyProof.Rows
theorem yV{J:It}{N n:Nat}{cap:List Nat}{g:TG}{tc:TT}{te:TE}{σ:St}{H0:Hp}{Q:VK}(keep:Nat->Bool)(f:Nat->V)(hz:N<=1000)(hgo:∀ i H,i<N->Same H0 H->J.go i H)(hst:∀ H,Same H0 H->J.stop N H)(ht:∀ i H x H',i<N->Same H0 H->J.yld i H x H'->∀ (A:VK) (B:Hp->Prop),(keep i=true->∀ H4,Same H H4->A (f i) H4)->(keep i=false->∀ H4,Same H H4->B H4) ->
   g x (bu n cap σ) H' fun σ2 H2=>tc σ2 H2 fun b H3=>if b=true then te σ2 H3 A else B H3)(hq:∀ p H,Same H0 H->H p=none->Q (.ref p) (upd H p (.lst (((List.range N).filter keep).map f)))):cz n cap g tc te σ J H0 Q:=by
 refine⟨fun i m ys H=>m=N-i/\i<=N/\Same H0 H/\ys=((List.range i).filter keep).map f,⟨N,by simp,ZZ _,Same.refl _,rfl⟩,?_⟩;rintro i m ys H ⟨rfl,hi,sm,rfl⟩;by_cases hlt:i<N
 ·refine .inr ⟨hgo i H hlt sm,?_,fun x H' y=>?_⟩
  ·rw[z9];have:=Yk keep (List.range i);rw[ZI]at this;exact fh (by omega)
  ·refine ht i H x H' hlt sm y _ _ (fun k H4 s4=>⟨N-(i+1),by omega,rfl,hlt,sm.trans s4,?_⟩) (fun k H4 s4=>⟨N-(i+1),by omega,rfl,hlt,sm.trans s4,?_⟩)
   ·rw[List.range_succ,YI,Zx];simp[k]
   ·rw[List.range_succ,YI,Zx];simp[k]
 ·have e:i=N:=by omega
  subst e;exact .inl ⟨hst H sm,fun p hp=>hq p H sm hp⟩
theorem qk{K:PySem.W.Frag}{a b:Addr}{xs ys:List V}{n:Nat}{cap:List Nat}{te:TE}{σ:St}{H0:Hp}{Q:VK}(f:Nat->V)(hz:xs.length<=1000)(ha:SqT K H0 a xs)(hb:SqT K H0 b ys)(hl:xs.length=ys.length)(he:∀i x y H,xs[i]?=some x->ys[i]?=some y->Same H0 H->∀R:VK,(∀H',Same H H'->R (f i) H')->te (((bu n cap σ).set 0 (some x)).set 1 (some y)) H R)(hq:∀p H,Same H0 H->H p=none->Q (.ref p) (upd H p (.lst ((List.range xs.length).map f)))):cz n cap (iW K 2 (dv (bG 0) (dv (bG 1) iV))) fb te σ (Itz K a b xs ys) H0 Q:=by
 refine yV (N:=xs.length) (fun _=>true) f hz (fun i H hi sm=>⟨hi,dH sm ha,dH sm hb⟩) (fun H sm=>⟨rfl,dH sm ha,dH sm hb⟩) (fun i H x H' hi sm y A B kA kB=>?_) (fun p H sm hp=>?_)
 ·obtain⟨T,p,q,hT,hx,hy,rfl,rfl⟩:=y;have s1:=ah hT (.tup [p,q]);refine⟨T,[p,q],rfl,SqT.of ad,rfl,p,[q],rfl,q,[],rfl,rfl,?_⟩;unfold fb;refine aW ?_;exact he i p q _ hx hy (sm.trans s1) _ fun H4 s4=>kA rfl H4 (s1.trans s4)
 ·have:=hq p H sm hp;rw[List.filter_eq_self.mpr (fun _ _=>rfl)];exact this
def A5:R2:=fun x y H Q=>∃a b xs ys,x=.ref a/\y=.ref b/\H a=some (.tup xs)/\H b=some (.tup ys)/\xs.length+ys.length<=sizeLine/\∀p H',Same H H'->H' p=some (.tup (xs++ys))->Q (.ref p) H'
section
variable{X:Cx}
theorem BP:OpR X (binaryOp .Add) A5:=by
 intro pins s σ H x y v u Q I rx ry h;obtain⟨a,b,xs,ys,rfl,rfl,ha,hb,hz,q⟩:=h;by_cases hx:xs=[]
 ·cases rx;cases ry;obtain⟨its,r1,p1,_⟩:=I.tuple (SqT.of (K:=X.K) ha);obtain⟨its2,r2,p2,_⟩:=I.tuple (SqT.of (K:=X.K) hb);obtain⟨⟨cls,dd,data,sl⟩,ho,hc,n,hd⟩:=id p1;obtain⟨⟨cls2,dd2,data2,sl2⟩,ho2,hc2,n2,hd2⟩:=id p2;simp only at hc hd hc2 hd2;subst hc hd hc2 hd2;have e:its=[]:=r1.nil_iff.mpr hx;subst e;refine PySem.concat_meets ⟨_,ho,rfl⟩ ⟨_,ho2,rfl⟩ noFill_tuple_add seq_tuple_add PySem.F.slot_tuple_add PySem.F.entry_tuple_add (PySem.F.args_tuple_add_2 _ _)
   (tuple_addW0 a b _ its2.toArray n n2 dd dd2 sl sl2 (by simp)) ⟨ho,ho2,⟨.ref b,H,I,rfl,q b H (Same.refl H) ?_⟩⟩
  rw[hx];exact hb
 ·exact BQ pins s σ H _ _ v u Q I rx ry ⟨a,b,xs,ys,rfl,rfl,SqT.of ha,SqT.of hb,hx,hz,fun e=>q a H (Same.refl H) (by rw[e,ZF];exact ha),fun _ p hp=>q p _ (ah hp _) ad⟩
theorem xD:QOp X (binaryOp .Add) A5:=⟨BP⟩
theorem kh:fillsNumberSlot (.type "tuple") "mul" = pure false :=
 PySem.fillsNumberSlot_seq (id:="tuple.__mul__") (r:=some (.builtin "tuple.__rmul__")) F.slot_tuple_mul.lookup (by decide +kernel) F.slot_tuple_rmul.lookup (by decide +kernel)
theorem qZ:seqRepeat? (.type "tuple")=pure (some (.builtin "tuple.__mul__")):=by unfold seqRepeat?;rw[PySem.seqSlot_of (T:="tuple") (name:="__mul__") (id:="tuple.__mul__") F.slot_tuple_mul.lookup (by decide +kernel),PySem.seqSlot_of (T:="tuple") (name:="__rmul__") (id:="tuple.__rmul__") F.slot_tuple_rmul.lookup (by decide +kernel)];rfl
theorem mQ(a:Int)(t:Tok)(l:Addr)(items:Array Value)(n:Nat)(dd:Option Addr)(sl:Array (Option Value)) :
  Meets (Builtin.«int.__rmul__» ⟨[.int a t,.ref l],[]⟩) (fun _ R s=>s.heap.get? l=some { cls:=.type "tuple",dict:=dd,data:=.seq items n,slots:=sl }/\R (.ok (.ret Value.notImplemented)) s) :=
 .of_wp fun prog w A R s h=>by obtain⟨hp,g,d,tk,os⟩:=s;obtain⟨hl,h⟩:=h;wp_walk using YZ hl;exact⟨_,rfl,h⟩
theorem ph(l:Addr)(items:Array Value)(n:Nat)(dd:Option Addr)(sl:Array (Option Value))(u:Tok) :
  Meets (Builtin.«tuple.__mul__» ⟨[.ref l,.int 1 u],[]⟩) (fun _ R s=>s.heap.get? l=some { cls:=.type "tuple",dict:=dd,data:=.seq items n,slots:=sl }/\R (.ok (.ret (.ref l))) s) :=
 .of_wp fun prog w A R s h=>by obtain⟨hp,g,d,tk,os⟩:=s;obtain⟨hl,h⟩:=h;have f1:=AutoSeq1.idx_int;wp_walk using YZ hl;exact⟨_,rfl,h⟩
theorem nZ(l:Addr)(items:Array Value)(n:Nat)(dd:Option Addr)(sl:Array (Option Value))(k:Int)(u:Tok)(c1:¬(k < -(2^63) ||k>=2^63)=true)(c2:¬(items.isEmpty ||k==1)=true)(c3:¬(decide (k<=0) ||items.isEmpty)=true)(c4:¬items.size*k>(2^63-1) / 8)(c5:¬Builtin.Tuple.tupleTooMany (items.size*k)=true)(c6:(List.foldl (fun x1 x2=>x1++x2) #[] (List.replicate k.toNat items)).size<=sizeLine) :
  Meets (Builtin.«tuple.__mul__» ⟨[.ref l,.int k u],[]⟩) (fun _ R s=>s.heap.get? l=some { cls:=.type "tuple",dict:=dd,data:=.seq items n,slots:=sl } /\
   R (.ok (.ret (.ref s.heap.objs.size))) { s with heap:=s.heap.push { cls:=.type "tuple",data:=.seq (List.foldl (fun x1 x2=>x1++x2) #[] (List.replicate k.toNat items)) } }) :=
 .of_wp fun prog w A R s h=>by obtain⟨hp,g,d,tk,os⟩:=s;obtain⟨hl,h⟩:=h;have f1:=AutoSeq1.idx_int;wp_walk using YZ hl;rw[if_neg c1];wp_walk using YZ hl;rw[if_neg c4];wp_walk using YZ hl;exact⟨_,rfl,h⟩
def A6:R2:=fun x y H Q=>∃a k xs,x=.ref a/\y=.int k/\H a=some (.tup xs)/\1<=k/\k<=1000/\xs≠[]/\xs.length*k.toNat<=sizeLine/\∀p H',Same H H'->H' p=some (.tup (List.replicate k.toNat xs).flatten)->Q (.ref p) H'
theorem BS:OpR X (binaryOp .Mult) A6:=by
 intro pins s σ H x y v u Q I rx ry h;obtain⟨a,k,xs,rfl,rfl,ha,k1,k2,hx,hz,q⟩:=h;cases rx;obtain⟨t,rfl⟩:=ry;obtain⟨its,r1,p1,_⟩:=I.tuple (SqT.of (K:=X.K) ha);obtain⟨⟨cls,dd,data,sl⟩,ho,hc,n,hd⟩:=id p1;simp only at hc hd;subst hc hd;have hne:its≠[]:=fun z=>hx (r1.nil_iff.mp z);refine wpAny_binaryOp_repeat_ref (T:="tuple") (U:="int") (by decide) ⟨_,ho,rfl⟩ (fun s'=>typeIs_int s' k t) kh F.fills_int_mul F.slot_int_rmul qZ F.slot_int_index.lookup
  (call_meets F.slot_int_rmul (typeIs_int s k t) F.entry_int_rmul (F.args_int_rmul_2 _ _) (mQ k t a its.toArray n dd sl) ⟨ho,rfl,⟨_,ho,rfl⟩,?_⟩)
 by_cases hk:k=1
 ·subst hk;refine call_meets F.slot_tuple_mul ⟨_,ho,rfl⟩ F.entry_tuple_mul (F.args_tuple_mul_2 _ _) (ph a its.toArray n dd sl t) ⟨ho,⟨.ref a,H,I,rfl,q a H (Same.refl H) ?_⟩⟩;have e:(List.replicate (1:Int).toNat xs).flatten=xs:=by simp
  rw[e];exact ha
 ·have hl:its.length=xs.length:=r1.length.symm;have hnew:List.foldl (fun x1 x2=>x1++x2) #[] (List.replicate k.toNat its.toArray)=(List.replicate k.toNat its).flatten.toArray:=by have:=iU its k.toNat [];rw[x5]at this;exact this
  have hlen:(List.replicate k.toNat its).flatten.length<=sizeLine:=by rw[mV,hl,Nat.mul_comm];exact hz
  have hzk:((its.toArray.size:Int)*k)<=(sizeLine:Int):=by
   have e:((its.toArray.size:Int)*k)=((xs.length*k.toNat:Nat):Int):=by rw[Zh,hl,Int.natCast_mul];congr 1;omega
   rw[e];exact Int.ofNat_le.mpr hz
  have hcap:(sizeLine:Int)<=(2^63-1) / 8:=by decide
  have hemp:its.toArray.isEmpty=false:=by
   cases its with
   |nil=>exact absurd rfl hne
   |cons _ _=>rfl
  refine call_meets F.slot_tuple_mul ⟨_,ho,rfl⟩ F.entry_tuple_mul (F.args_tuple_mul_2 _ _) (nZ a its.toArray n dd sl k t ?_ ?_ ?_ (by omega) ?_ (by rw[hnew,Zh];exact hlen)) ⟨ho,?_⟩
  ·simp only[Bool.or_eq_true,Y0,not_or];omega
  ·simp[hemp,hk]
  ·have h1:¬k<=0:=by omega
   simp[hemp,h1]
  ·unfold Builtin.Tuple.tupleTooMany;simp only[Y0];omega
  ·rw[hnew];refine⟨.ref s.heap.objs.size,_,I.laid (t':=s.toks) (o:=.tup (List.replicate k.toNat xs).flatten) (fun b ob q=>Za _ q) (Ze _) ?_,rfl,q _ _ (ah (I.hok.fresh (Ze _)) _) ad⟩;exact⟨by rw[mV,Nat.mul_comm];exact hz,_,r1.rep k.toNat,IsTup.new _ _⟩
theorem iu{ns:List Int}{i:Nat}{x:V}(h:(ns.map V.int)[i]?=some x):x=.int (ag ns i)/\i<ns.length:=by
 rw[Zv]at h;unfold ag;cases e:ns[i]? with
 |none=>rw[e]at h;cases h
 |some z =>rw[e]at h;cases h;exact⟨rfl,(Zy.mp e).1⟩
theorem jh{n d:Nat}{h:Int}(h0:0<=h):HT.sIx n d (some h)=min h.toNat n:=by have e:=HT.sIx_nat n d h.toNat;rw[show((h.toNat:Nat):Int)=h by omega]at e;exact e
variable{K:PySem.W.Frag}(hK:X.K=K)
include hK
theorem uq:QIx X (Ag K):=by subst hK;exact bC
theorem wZ{es:List Expr}{k n:Nat}{gs:TGs}{pos:Pos}(hc:X.calm=true)(h:QGs X es gs)(hn:(assignEach es X.env).length=n:=by rfl)(hst:(assignEach es X.env).findIdx? (·.1)=none:=by rfl):QG X (.Tuple es k pos) (iW K n gs):=by subst hK;exact pq hc h hn hst
omit hK
theorem Dj:QOp X (binaryOp .Mult) A6:=⟨BS⟩
end
open PySem PySem.Spec PyProof.Rows PySem.W
section
variable{X:Cx}
theorem tW{st:Stmt}:QS X st (fun _ _ _=>False):=⟨fun _ _ _ _ _ _ h=>h.elim⟩
variable{o e d:Expr}{to te td:TE}{apos cpos:Pos}
theorem iO{prog:Program}{w:World}{A:Around}{E:Value->Shared->Prop}{s:Shared}{t sl:Addr}{items:Array Value}{vl vu:Value}{lo hi:Option Int}{Q:Value->Shared->Prop}(ht:IsTup s.heap t items)(hs:s.heap.IsSliceOf sl vl vu .none)(pl:IsPart vl lo)(pu:IsPart vu hi)(hw:HT.sIx items.size 0 lo=0/\HT.sIx items.size items.size hi=items.size)(h:Q (.ref t) s):wpAny (model prog w) A (getItem (.ref t) (.ref sl)) Q E s:=by
 obtain⟨os,hos,hcs,hds⟩:=id hs;have hTs:s.TypeIs (.ref sl) "slice":=⟨os,hos,hcs⟩
 unfold getItem
 try with_reducible refine Ym ?_
 first|refine z6 (Zd ?_)|skip
 refine z6 (wpAny_sequenceKey ht.typeIs (by decide) ?_);refine z6 (ZS (name:=Str.ofString "__getitem__") ht.typeIs Yl
  (ZW Yl ht.typeIs entry_tuple_getitem ?_ (args_tuple_getitem _ _)))
 show wpAny _ _ (Builtin.Tuple.tupleItemsOf (.ref t) >>= _) _ _ s;refine z6 (tupleItemsOf_ ht ?_);refine z6 (wpAny_typeOf hTs ?_);rw[if_pos (by decide)];refine z6 (HT.sliceApplied_gen hs pl pu ?_);show wpAny _ _ (if(((HT.sIx items.size 0 lo:Nat):Int)==0&&(1:Int)==1&&(HT.sIx items.size items.size hi-HT.sIx items.size 0 lo)==items.size)=true then _ else _) _ _ s;rw[if_pos (by rw[hw.1,hw.2];simp)];refine z6 (m:=Builtin.Tuple.tupleIsExact _) ?_;unfold Builtin.Tuple.tupleIsExact;refine z6 (wpAny_typeOf ht.typeIs (Zd ?_));rw[if_pos (by decide)];exact z6 (YO (Zd ⟨_,rfl,Zd h⟩))
def FW:V->Option Int->Option Int->Hp->VK->Prop:=fun x lo hi H Q=>∃a xs,x=.ref a/\H a=some (.tup xs)/\∀p H',Same H H'->H' p=some (.tup (cK xs lo hi))->Q (.ref p) H'
theorem qE:QSl X FW:=by
 refine⟨?_⟩;intro pins s σ H x v vl vu lo hi sl Q I rx hs pl pu h;obtain⟨a,xs,rfl,hx,q⟩:=h;by_cases hw:HT.sIx xs.length 0 lo=0/\HT.sIx xs.length xs.length hi=xs.length
 ·cases rx;obtain⟨its,r,ht,hz⟩:=I.tuple (SqT.of (K:=X.K) hx);have hlen:its.toArray.size=xs.length:=by rw[Zh];exact r.length.symm
  refine⟨"tuple",_,Yl.lookup,ht.typeIs,iO ht hs pl pu (by rw[hlen];exact hw) ⟨.ref a,H,I,rfl,q a H (Same.refl H) ?_⟩⟩;unfold cK;rw[hw.1,hw.2,List.drop_zero,Nat.sub_zero,y7];exact hx
 ·exact Es pins s σ H _ v vl vu lo hi sl Q I rx hs pl pu ⟨a,xs,rfl,SqT.of hx,hw,fun p hp=>q p _ (ah hp _) ad⟩
end
section
variable{prog:Program}{w:World}{A:Around}{s:Shared}{fin:Bool}{Q:Bool->Shared->Prop}
theorem jR(ns:List Int):∀(ms:List Int) (vs ws:List Value) (i:Nat),IntsAre vs ns->IntsAre ws ms->fin=decide (ns.length<ms.length)->Q (HT.lexLt ns ms) s->KatLex prog w A true fin Q (vs.zip ws) i s:=by
 induction ns with
 |nil =>
  intro ms vs ws i a b hf q;subst hf;cases a;cases b with
  |nil=>exact kat_nil q
  |cons _ _ _=>exact kat_nil (by rw[decide_eq_true (by simp)];exact q)
 |cons x ns ih =>
  intro ms vs ws i a b hf q;cases a with
  |cons _ t h1 =>
  cases b with
  |nil =>subst hf;exact kat_nil q
  |cons y u h2 =>
  obtain⟨e,he,iff⟩:=HT.eqAt_int A s x t y u;rw[HT.lexLt_cons]at q;refine kat_cons (he _ _ _ _ (kat_go (fun et=>?_) (fun ef=>?_)))
  ·rw[if_pos (iff.mp et)]at q;exact kat_yes (ih _ _ _ (i+1) h1 h2 (by rw[hf];simp) q)
  ·have hne:x≠y:=fun z=>by rw[iff.mpr z]at ef;cases ef
   rw[if_neg hne]at q;refine kat_no ?_;cases i with
   |zero=>exact oneLt_int q
   |succ i=>exact kat_one _ _ (PyProof.Rows.lt_int q)
end
section
variable{X:Cx}{pins:List (Addr×Obj)}{σ:St}{H:Hp}{s:Shared}{h':Heap}
theorem qN{P:Program}{w:World}{H:Hp}{h:Heap}{a:Addr}{o:HO}(x:ObjOk P w H h a o):∃ob,h.get? a=some ob:=by
 cases o with
 |lst xs =>obtain⟨_,_,_,_,e⟩:=x;exact⟨_,e⟩
 |tup xs =>obtain⟨_,_,_,ob,e,_⟩:=x;exact⟨ob,e⟩
 |dK kvs =>obtain⟨_,_,_,_,ob,_,_,e,_⟩:=x;exact⟨ob,e⟩
 |dT kvs =>obtain⟨_,_,_,_,ob,_,_,e,_⟩:=x;exact⟨ob,e⟩
 |set S n =>obtain⟨ob,_,_,_,e,_⟩:=x;exact⟨ob,e⟩
 |ins C dx fs =>obtain⟨_,_,_,e,_⟩:=x;exact⟨_,e⟩
 |own y=>exact x
 |xd fs =>obtain⟨_,⟨ob,_,_,e,_⟩,_⟩:=x;exact⟨ob,e⟩
 |rng lo hi =>obtain⟨_,_,_,e⟩:=x;exact⟨_,e⟩
 |frz ob u=>exact⟨ob,x.1⟩
 |tbl ps=>exact⟨_,x⟩
 |met f y=>exact⟨_,x⟩
 |ext φ=>exact x.2.1
theorem none_of(I:Inv X pins σ H s){a:Addr}(hg:s.heap.get? a=none):H a=none:=by
 cases q:H a with
 |none=>rfl
 |some u =>obtain⟨ob,e⟩:=qN (I.hok a u q);rw[hg]at e;cases e
theorem Inv.laidF{a:Addr}{o:HO}{t':Nat}(I:Inv X pins σ H s)(k:∀b u,b≠X.env.locals->s.heap.get? b=some u->h'.get? b=some u)(hn:∃m,s.heap.Ns X.env.locals m/\h'.Ns X.env.locals m)(hg:s.heap.get? a=none)(new:ObjOk X.prog X.w (upd H a o) h' a o):Inv X pins σ (upd H a o) { s with heap:=h',toks:=t' }:=by
 have fr:=none_of I hg;have ne:∀{b:Addr} {u:HO},H b=some u->b≠a:=fun{b u} e=>am e fr;have lt:∀{b:Addr} {u:Obj},s.heap.get? b=some u->b≠a:=fun{b u} e z=>by rw[z,hg]at e;cases e
 have neL:∀{b:Addr} {u:HO},H b=some u->b≠X.env.locals:=fun{b u} e=>am e I.free;refine I.step (g':=s.gens) (d':=s.drawn) (ch:=[]) (fun b hb=>by simp at hb) (fun b o hL _ _ e _=>k b o hL e) (fun b o hL _ _ e _=>⟨o.slots,k b o hL e⟩) (fun b o _ e n=>by rw[af (lt e)];exact n) (fun b o _ e=>?_)
  (fun b xs e=>by rw[af (ne e)];exact e) (fun b o u e=>by rw[af (ne e)];exact e) (fun b ps e=>⟨#[],by rw[af (ne e),e];simp⟩) (fun m' hm'=>?_) (fun b u e=>?_) I.bare
 ·by_cases hL:b=X.env.locals
  ·obtain⟨m,_,o',_,_,e',_⟩:=hn;exact⟨o',by rw[hL];exact e'⟩
  ·exact⟨o,k b o hL e⟩
 ·obtain⟨m,h1,h2⟩:=hn;rw[hm'.eq_nsMap,<-h1.eq_nsMap];exact h2
 ·by_cases hb:b=a
  ·subst hb;rw[ad]at e;cases e;exact new
  ·rw[af hb]at e;refine(I.hok b u e).stay (fun c v hc q=>k c v ?_ q) (fun c q=>by rw[af (ne q)];exact q) fun c ys q=>by rw[af (ne q)];exact q
   rcases hc with z|z
   ·rw[z];exact neL e
   ·exact neL z
def lX(base h:Heap)(L:Addr):List (Addr×Obj):=(List.range h.objs.size).filterMap fun b=>if b=L\/(base.get? b).isSome=true then none else(h.get? b).map fun o=>(b,o)
theorem gG(base h:Heap)(L:Addr):News base L h (lX base h L):=fun p hp=>by
 obtain⟨b,_,e⟩:=List.mem_filterMap.mp hp;by_cases c:b=L\/(base.get? b).isSome=true
 ·rw[if_pos c]at e;cases e
 ·rw[if_neg c]at e;cases q:h.get? b with
  |none=>rw[q]at e;cases e
  |some o =>
   rw[q]at e;cases e;refine⟨q,fun z=>c (.inl z),?_⟩;cases z:base.get? b with
   |none=>rfl
   |some u=>exact absurd (.inr (by rw[z];rfl)) c
theorem cF{base h:Heap}{L b:Addr}{o:Obj}(e:h.get? b=some o)(hL:b≠L)(hb:base.get? b=none):(b,o)∈lX base h L:=by refine List.mem_filterMap.mpr ⟨b,ZL.mpr (Zo e),?_⟩;rw[if_neg (by rintro(z|z);exact hL z;rw[hb]at z;cases z),e];rfl
end
theorem dq(ns:List Int):SeqAt.shaped (.tuple (ns.map .int))=true:=by
 unfold SeqAt.shaped;rw[ZN];refine⟨?_,?_⟩
 ·simp only[PyData.canLay0];exact PyProof.Rows.canLayAll_ints ns
 ·refine decide_eq_true ?_;simp only[PyData.depth];rw[PyProof.Rows.depthAll_ints ns];decide
theorem jQ:∀(ns ms:List Int),PyData.eqvAll (ns.map .int) (ms.map .int)=decide (ns=ms)
 | [],[]=>by simp[PyData.eqvAll]
 | [],_::_=>by simp[PyData.eqvAll]
 |_::_,[]=>by simp[PyData.eqvAll]
 |x::ns,y::ms=>by simp only[Z0,PyData.eqvAll,PyData.eqv];rw[jQ ns ms,YF];simp
theorem ka(ns ms:List Int):PyData.eqv (.tuple (ns.map .int)) (.tuple (ms.map .int))=decide (ns=ms):=by simp only[PyData.eqv];exact jQ ns ms
theorem gQ{H:Hp}{a:Addr}{ns:List Int}(h:H a=some (.tup (ns.map V.int))):Dt H (.tuple (ns.map .int)) (.ref a):=by simp only[Dt];exact⟨a,_,rfl,Rd.of h,gP ns⟩
section
variable{X:Cx}
theorem Dh(hu:X.A.units+64<cLine):QOp X (compareOp .Eq) (fun x y H Q=>∃(a b:Addr) (ns ms:List Int),x=.ref a/\y=.ref b/\H a=some (.tup (ns.map V.int))/\H b=some (.tup (ms.map V.int))/\Q (.bl (decide (ns=ms))) H):=by refine⟨?_⟩;intro pins s σ H x y v u Q I rx ry h;obtain⟨a,b,ns,ms,rfl,rfl,ha,hb,q⟩:=h;exact Dq hu pins s σ H _ _ v u Q I rx ry ⟨_,_,gQ ha,gQ hb,dq ns,dq ms,by rw[ka];exact q⟩
theorem qM(hu:X.A.units+64<cLine):QOp X (compareOp .NotEq) (fun x y H Q=>∃(a b:Addr) (ns ms:List Int),x=.ref a/\y=.ref b/\H a=some (.tup (ns.map V.int))/\H b=some (.tup (ms.map V.int))/\Q (.bl (!decide (ns=ms))) H):=by refine⟨?_⟩;intro pins s σ H x y v u Q I rx ry h;obtain⟨a,b,ns,ms,rfl,rfl,ha,hb,q⟩:=h;exact xI hu pins s σ H _ _ v u Q I rx ry ⟨_,_,gQ ha,gQ hb,dq ns,dq ms,by rw[ka];exact q⟩
end
theorem AW{x:V}{A B:Prop}(h:x≠.non)(hB:B):if decide (x=.non)=true then A else B:=by rw[decide_eq_false h];exact aF hB
theorem pA{c A B:Prop}[Decidable c](h:c)(hA:A):if decide c=true then A else B:=by rw[decide_eq_true h];exact aW hA
theorem zj{c A B:Prop}[Decidable c](h1:c->A)(h2:¬c->B):if decide c=true then A else B:=by
 by_cases h:c
 ·exact pA h (h1 h)
 ·rw[decide_eq_false h];exact aF (h2 h)
open PySem PySem.Spec PyProof.Rows
structure CompOk1(X:Cx)(scope:Scope)(cx:Str)(cap:List Nat)(capN:List Str):Prop where
 kind:scope.kind=.function
 names:∀x∈scope.names,x.2=.local->scope.names.lookup x.1=some .local
 onecell:∀y∈scope.names,y.2=.cell->y.1=cx
 own:scope.names.lookup cx=some .cell
 cf:∀(n:Nat) (acc:List (Str×Addr)),cellsFrom n scope.names acc=(cx,n)::acc
 pc:∀h:Heap,pushCells h scope.names=h.push { cls:=.type "cell",data:=.cell none }
 frees:(scope.names.all fun y=>!(y.2==NameKind.free) ||(X.env.kindOf y.1==some .cell ||X.env.kindOf y.1==some .free))=true
 cap:CapOk X scope cap capN
theorem lm:∀{vs:List Value} {ns:List Int},IntsAre vs ns->∃xs:List (Int×Tok),vs=xs.map (fun p=>.int p.1 p.2)/\ns=xs.map (·.1)
 |_,_,.nil=>⟨[],rfl,rfl⟩
 |_,_,.cons n t h=>by obtain⟨xs,e1,e2⟩:=lm h;exact⟨(n,t)::xs,by rw[e1];rfl,by rw[e2];rfl⟩
section
variable{X:Cx}
def FZ(K:PySem.W.Frag)(te ts:TE):TE:=fun σ H Q=>te σ H fun x H1=>ts σ H1 fun z H2=>z=.int (-1)/\∃a xs,x=.ref a/\SqL K H2 a xs/\∀p,H2 p=none->Q (.ref p) (upd H2 p (.lst xs.reverse))
theorem Vals.rev{xs:List V}{us:List Value}(h:Vals xs us):Vals xs.reverse us.reverse:=by
 induction h with
 |nil=>exact .nil
 |cons r _ ih =>rw[x8,x8];exact ih.append (.cons r .nil)
theorem Fu{e st:Expr}{te ts:TE}{pos p2:Pos}(he:QE X e te)(hst:QE X st ts):QE X (.Subscript e (.Slice none none (some st) p2) pos) (FZ X.K te ts):=by refine⟨?_⟩;intro pins s σ H Q I h;refine Subscript_ (thn (he.h pins s σ H _ I h) fun v s1 hz9=>?_);obtain⟨x,H1,I1,r1,q1⟩:=hz9;refine wpAny_Slice (wpAny_evalPart_none (wpAny_evalPart_none (wpAny_evalPart_some (thn (hst.h pins s1 σ H1 _ I1 q1) fun vk s2 hz9=>?_))));obtain⟨z,H2,I2,rz,q2⟩:=hz9;obtain⟨rfl,a,xs,rfl,hx,q⟩:=q2;cases r1;obtain⟨t,rfl⟩:=rz;have I4:Inv X pins σ H2 { s2 with heap:=s2.heap.push { cls:=.type "slice",data:=.fields #[.none,.none,.int (-1) t] } }:=I2.kept (t':=s2.toks) fun b ob q=>Za _ q;obtain⟨its,r,ht,hz⟩:=I4.list hx;have hlen:=r.length;show wpAny (model X.prog X.w) X.A (subscriptTail e (.Slice none none (some st) p2) (.ref a) (.ref s2.heap.objs.size)) (EP X pins σ Q) X.xe { s2 with heap:=s2.heap.push { cls:=.type "slice",data:=.fields #[.none,.none,.int (-1) t] } };refine tail_any (ops:=_) ht.isList.typeIs slot_list_getitem.lookup ?_ (by with_unfolding_all rfl);refine wpAny_getItem_list_slice ht.isList (Heap.IsSliceOf.new ..) .none .none (.int (-1) t) (by decide) ?_ (by rw[Zh]<;>omega);rw[PySem.W.krv_pick];refine⟨.ref _,_,I4.laid (t':=s2.toks) (o:=.lst xs.reverse) (fun b ob q=>Za _ q) (Ze _) ?_,rfl,q _ (I4.hok.fresh (Ze _))⟩;exact⟨by rw[List.length_reverse];exact hz,its.reverse,0,Vals.rev r,Zk _ rfl⟩
end
open PySem PySem.Spec PyProof.Rows PySem.W
def fP(h:Heap)(e:Addr)(dc:Option Addr):Prop:=∃o,h.get? e=some o/\o.dict=dc
theorem mM(f:Array Value->Array Value)(o:Obj):(Obj.mapFields f o).dict=o.dict:=by unfold Obj.mapFields;split<;>rfl
section
variable{M:Model}{A:Around}{E:Value->Shared->Prop}{s:Shared}{base:Heap}{env:Env}{outer l:List Env}{L e:Addr}
theorem sf{oe:Obj}{vs:Array Value}{hd0 a0:Value}{nx:Bool}{Q:Unit->Shared->Prop}(fr:A.frames=some (env::outer))(ff:s.heap.FunFrames base (env::outer))(ef:env.frame=some L)(he:s.heap.get? e=some oe)(kb:base.StaysIn s.heap)(en:base.get? e=none)(dt:oe.data=.fields vs)(sz:1<vs.size)(v0:vs[0]?=some a0)(k:∀h',Heap.NotedW base (env::outer) e oe.cls a0 (rawInt L) s.heap h'->fP h' e oe.dict->Q () { s with heap:=h' }) :
  wpAny M A (do let a ←frameOf env;let pl ←entryPlaceOf L nx;let b ←EntryCells.newEntry hd0 a .none (rawInt L) .none pl;setField (.ref e) 1 b) Q E s:=by
 have nf:e∉(env::outer).filterMap (·.frame):=fun hm=>by obtain⟨_,o,ho,hn⟩:=ff.mem hm;cases ZO (he.symm.trans ho);exact hn vs dt
 refine z6 (wpAny_frameOf_fun fr ff ef fun h1 k1=>z6 (wpAny_entryPlaceOf fun pl hpl=>?_));unfold EntryCells.newEntry newFields;refine z6 (ZP ?_ (hpl.sizeOk5 _ _ _ _ _));have t3:([hd0,.ref L,.none,rawInt L,.none]++(if pl.isEmpty then List.replicate 6 Value.none else pl)).toArray[3]?=some (rawInt L):=by simp
 generalize([hd0,.ref L,.none,rawInt L,.none]++(if pl.isEmpty then List.replicate 6 Value.none else pl)).toArray=ts at t3 ⊢;have g1:h1.get? e=some oe:=(k1.2.1 e nf).trans he;have st1:base.StaysIn h1:=fun b o hb=>(k1.2.1 b fun hm=>nomatch(hb.symm.trans (ff.mem hm).1)).trans (kb b o hb);have gp:(h1.push { cls:=.type "traceback",data:=.fields ts }).get? e=some oe:=Za _ g1;have ne:h1.objs.size≠e:=Yh (Zo g1);have dm:=Ye dt (·.setIfInBounds 1 (Value.ref h1.objs.size));have self:=YG (Obj.mapFields (·.setIfInBounds 1 (Value.ref h1.objs.size))) gp (YX dm);have atT:=(YC (h1.push { cls:=.type "traceback",data:=.fields ts }) (Obj.mapFields (·.setIfInBounds 1 (Value.ref h1.objs.size))) (Yj ne)).trans (Zk h1 rfl);have oth:∀b o,b≠e->h1.get? b=some o->((h1.push { cls:=.type "traceback",data:=.fields ts }).update e (Obj.mapFields (·.setIfInBounds 1 (Value.ref h1.objs.size)))).get? b=some o:=fun b o n q=>(YC _ _ (Yj n)).trans (Za _ q);have nrec:∀b o,s.heap.get? b=some o->(∀ws,o.data≠.fields ws)->b≠e:=fun b o q hn z=>by subst z;cases ZO (he.symm.trans q);exact hn vs dt
 refine YD gp dt sz (k _ ⟨fun b o q=>oth b o (fun z=>nomatch((z▸q).symm.trans en)) (st1 b o q),ff.of_keeps fun b o q hn=>?_,?_,fun b o q hn=>?_⟩ ⟨_,self,mM _ _⟩)
 ·obtain⟨sl,hs⟩:=k1.2.2 b o q;exact⟨_,oth b _ (nrec b o q hn) hs,rfl⟩
 ·exact⟨_,_,h1.objs.size,_,ts,self,⟨Obj.cls_mapFields _ _,by rw[Array.getElem?_setIfInBounds_ne (by decide)];exact v0⟩,dm,by simp[sz],st1.fresh,ne,atT,rfl,t3⟩
 ·obtain⟨sl,hs⟩:=k1.2.2 b o q;exact⟨sl,oth b _ (nrec b o q hn) hs⟩
theorem kY{cls a0 fl:Value}{dc:Option Addr}{Q:Unit->Shared->Prop}(kb:base.StaysIn s.heap)(ff:s.heap.FunFrames base l)(tr:s.heap.TracedAtW base e cls a0 fl)(dd:fP s.heap e dc)(k:∀h',base.StaysIn h'->h'.FunFrames base l->h'.TracedW base e cls a0->s.heap.UpToSlots h'->fP h' e dc->Q () { s with heap:=h' }):wpAny M A (setFlight (.ref e) none) Q E s:=by
 obtain⟨oe,vs,T,oT,ts,he,hc,dt,v1,nT,ne,hT,dT,t3⟩:=tr;have z3:3<ts.size:=(Array.getElem?_eq_some_iff.mp t3).1;have oth:∀b,b≠T->(s.heap.update T (Obj.mapFields (·.setIfInBounds 3 ((none:Option Addr).elim Value.none fun f=>rawInt f)))).get? b=s.heap.get? b:=fun b n=>YC _ _ (Yj n);have nrec:∀b o,s.heap.get? b=some o->(∀ws,o.data≠.fields ws)->b≠T:=fun b o q hn z=>by subst z;cases ZO (hT.symm.trans q);exact hn ts dT
 unfold setFlight;refine z6 (Z3 he dt v1 ?_);rw[if_pos (by simp:(Value.ref T != Value.none)=true)];refine YD hT dT z3 (k _ (fun b o q=>(oth b fun z=>nomatch((z▸q).symm.trans nT)).trans (kb b o q)) (ff.of_keeps fun b o q hn=>⟨o,(oth b (nrec b o q hn)).trans q,rfl⟩) ?_ (fun b o q hn=>⟨o.slots,(oth b (nrec b o q hn)).trans q⟩) ?_)
 ·exact⟨oe,vs,T,_,_,(oth e (Yj ne)).trans he,hc,dt,v1,nT,ne,YG _ hT (YX (Ye dT _)),Ye dT _,by simp[z3]⟩
 ·obtain⟨o,q,d⟩:=dd;exact⟨o,(oth e (Yj ne)).trans q,d⟩
theorem uZ{cls a0:Value}{dc:Option Addr}{Q:Unit->Shared->Prop}(fr:A.frames=some (env::outer))(ef:env.frame=some L)(fl:Heap.FlyingW base (env::outer) e cls a0 s.heap)(dd:fP s.heap e dc)(k:∀h',Heap.HeldW base (env::outer) e cls a0 L h'->s.heap.UpToSlots h'->fP h' e dc->Q () { s with heap:=h' }):wpAny M A (noteFrame (.ref e) env) Q E s:=by
 obtain⟨f1,f2,f3,oe,vs,T,oT,ts,he,hc,dt,v1,nT,ne,hT,dT,t3⟩:=fl;obtain⟨o2,q2,d2⟩:=dd;cases ZO (he.symm.trans q2);have z3:3<ts.size:=(Array.getElem?_eq_some_iff.mp t3).1;unfold noteFrame;simp only[ef];refine z6 (Z3 he dt v1 ?_);rw[if_pos (by simp:(Value.ref T != Value.none)=true)];refine z6 (Z3 hT dT t3 ?_);rw[if_neg (by simp[rawInt]:¬(Value.none==rawInt L)=true)];refine z6 (YD hT dT z3 ?_);have oth:∀b,b≠T->(s.heap.update T (Obj.mapFields (·.setIfInBounds 3 Value.none))).get? b=s.heap.get? b:=fun b n=>YC _ _ (Yj n);have nrec:∀b o,s.heap.get? b=some o->(∀ws,o.data≠.fields ws)->b≠T:=fun b o q hn z=>by subst z;cases ZO (hT.symm.trans q);exact hn ts dT
 have sz:1<vs.size:=(Array.getElem?_eq_some_iff.mp v1).1;refine sf (s:={ s with heap:=s.heap.update T (Obj.mapFields (·.setIfInBounds 3 Value.none)) }) fr (f3.of_keeps fun b o q hn=>⟨o,(oth b (nrec b o q hn)).trans q,rfl⟩) ef ((oth e (Yj ne)).trans he) (fun b o q=>(oth b fun z=>nomatch((z▸q).symm.trans nT)).trans (f1 b o q)) f2 dt sz hc.2 fun h' nt dd=>?_;obtain⟨n1,n2,n3,n4⟩:=nt;rw[hc.1]at n3;rw[d2]at dd;exact k h' ⟨n1,f2,n2,n3⟩ (fun b o q hn=>n4 b o ((oth b (nrec b o q hn)).trans q) hn) dd
end
open PySem PySem.Spec PyProof.Rows PySem.W
def Its(x:Str):It:=⟨fun i _=>i<x.cps.size,fun i H v H'=>H'=H/\∃c,x.cps[i]?=some c/\v=.str ⟨#[c]⟩,fun i _=>x.cps.size<=i⟩
theorem AB{P:Program}{w:World}{K:PySem.W.Frag}{tg:Expr}(it:Addr)(x:Str)(t:Tok):Turn P w K tg (Its x) [it] it (fun i h=>h.IsStrIter it "str_ascii_iterator" x t i) where
 mem:=Zm.mpr rfl
 obj:=fun i h st b hb=>by cases Zm.mp hb;obtain⟨o,e,c,d⟩:=st;exact⟨o,e,fun v z=>nomatch d.symm.trans z⟩
 keep:=fun i h h' st k=>by obtain⟨o,ho,r⟩:=st;exact⟨o,k it (Zm.mpr rfl) o ho,r⟩
 item:=by intro X eP ew eK hc i pins s σ H E I hf st hg;cases eP;cases ew;cases eK;have hi:i<x.cps.size:=hg;have fo:=hf it (Zm.mpr rfl);refine(Walks.strAscii (prog:=X.prog) (w:=X.w) (I.ok.hd hc) it x t).item i s _ _ hi st fun v h' tk hv st' kk=>?_;obtain⟨c,u,hc',rfl⟩:=hv;have I1:Inv X pins σ H { s with heap:=h',toks:=tk }:=I.turned (fun b o hb e=>kk b o (fun z=>hb (Zm.mp z)) e) fo.1 fo.2.1 fo.2.2.2.1 fo.2.2.2.2.1 fo.2.2.2.2.2;obtain⟨o,e,c1,d1⟩:=id st';exact⟨_,rfl,kZ (s:={ s with heap:=h',toks:=tk }) e c1 d1 (by decide) ⟨.str ⟨#[c]⟩,H,I1,⟨u,rfl⟩,⟨rfl,c,hc',rfl⟩,st',fun b hb=>(hf b hb).1⟩⟩
 done:=by intro X eP ew eK hc i pins s σ H E I hf st hg;cases eP;cases ew;cases eK;have hi:x.cps.size<=i:=hg;have fo:=hf it (Zm.mpr rfl);exact wpAny_pyNext_ascii_end (I.ok.hd hc) st (by simp;omega) fun h' eb=>⟨rfl,I.turned (t':=s.toks) (fun b o hb e=>eb b o hb e) fo.1 fo.2.1 fo.2.2.2.1 fo.2.2.2.2.1 fo.2.2.2.2.2⟩
 self:=fun _ _ _ _ _ st h=>wpAny_pyIter_striter_ascii st h
def FO(tl:TE):TI:=fun σ H R=>tl σ H fun v H1=>∃x,v=.str x/\x.cps.all (·<128)=true/\R (Its x) H1
section
variable{X:Cx}{tg l:Expr}{tl:TE}
theorem E1(hl:QE X l tl):QI X tg l (FO tl):=by refine⟨?_⟩;intro pins s σ H R I h;refine thn (hl.h pins s σ H _ I h) fun v s1 hz9=>?_;obtain⟨y,H1,I1,r1,q1⟩:=hz9;obtain⟨x,rfl,ha,q⟩:=q1;obtain⟨t,rfl⟩:=r1;refine wpAny_pyIter_ascii ha ⟨s1.heap.objs.size,[s1.heap.objs.size],_,_,H1,rfl,I1.kept (t':=s1.toks) (fun b o e=>Za _ e),AB _ x t,⟨_,Zk _ rfl,rfl,rfl⟩,fun b hb=>?_,q⟩;cases Zm.mp hb;exact I1.fpOk (Ze _) (I1.hok.fresh (Ze _))
end
theorem yW{x:Str}{n:Nat}{cap:List Nat}{te:TE}{σ:St}{H0:Hp}{Q:VK}(f:Nat->V)(hz:x.cps.size<=1000)(he:∀i c H,x.cps[i]?=some c->Same H0 H->∀R:VK,(∀H',Same H H'->R (f i) H')->te ((bu n cap σ).set 0 (some (.str ⟨#[c]⟩))) H R)(hq:∀p H,Same H0 H->H p=none->Q (.ref p) (upd H p (.lst ((List.range x.cps.size).map f)))):cz n cap (bG 0) fb te σ (Its x) H0 Q:=by
 refine iR (N:=x.cps.size) (fun i=>.str ⟨#[x.cps.getD i 0]⟩) f hz (fun i H hi sm=>hi) (fun H sm=>Ze _) (fun i H v H' hi sm y=>?_) (fun i H hi sm R k=>?_) hq
 ·obtain⟨y1,c,hc,rfl⟩:=y;refine⟨y1,?_⟩;simp[ZT,hc]
 ·have e:x.cps[i]?=some x.cps[i]:=by simp[hi]
  have:=he i _ H e sm R k;simpa[ZT,e]using this
section
variable{X:Cx}
theorem AI:QCall X (.builtin "ord") (fun xs H Q=>∃c:Nat,xs=[.str ⟨#[c]⟩]/\Q (.int (c:Int)) H):=by refine⟨?_⟩;intro pins s σ H xs us Q I r h;obtain⟨c,rfl,q⟩:=h;obtain⟨u,rfl,rx⟩:=cu r;obtain⟨t,rfl⟩:=rx;exact PySem.P.ord_of_char ⟨.int c,H,I.tok _,⟨_,rfl⟩,q⟩
end
section
variable{X:Cx}
theorem CM:QCall X (.builtin "len") (fun xs H Q=>∃x:Str,xs=[.str x]/\x.length<=1000/\Q (.int (x.length:Int)) H):=by refine⟨?_⟩;intro pins s σ H xs us Q I r h;obtain⟨x,rfl,hz,q⟩:=h;obtain⟨u,rfl,rx⟩:=cu r;obtain⟨t,rfl⟩:=rx;exact PyProof.Rows.len_str (by omega) ⟨.int x.length,H,I.tok _,⟨_,rfl⟩,q⟩
end
theorem gF{v:V}{A B:Prop}(hA:A):if decide (v=v)=true then A else B:=by rw[decide_eq_true rfl];exact aW hA
theorem aT{v u:V}{A B:Prop}(h:v≠u)(hB:B):if decide (v=u)=true then A else B:=by rw[decide_eq_false h];exact aF hB
theorem mH{x:V}{xs:List V}:atI (x::xs) 0=some x:=gN (j:=0) rfl
theorem qc:bootBuiltins "str" = some (.type "str"):=by decide +kernel
inductive TV where
 |flat (v:V)
 |tup (xs:List V)
def pL:V->Value->Bool
 |.non,.none=>true
 |.bl b,.bool c=>b==c
 |.int i,.int j _=>i==j
 |.str x,.str y _=>x==y
 |_,_=>false
theorem oN:∀{v:V} {u:Value},pL v u=true->RelV v u:=by
 intro v u h;unfold pL at h;split at h
 ·exact rfl
 ·obtain rfl:=YY.mp h;exact rfl
 ·obtain rfl:=YY.mp h;exact⟨_,rfl⟩
 ·obtain rfl:=YY.mp h;exact⟨_,rfl⟩
 ·cases h
def rP:List V->List Value->Bool
 | [],[]=>true
 |v::vs,u::us=>pL v u&&rP vs us
 |_,_=>false
theorem jW:∀{vs:List V} {us:List Value},rP vs us=true->Vals vs us
 | [],[],_=>.nil
 |_::_,_::_,h=>by have h:=(ZN _ _).mp h;exact .cons (oN h.1) (jW h.2)
 | [],_::_,h=>nomatch h
 |_::_,[],h=>nomatch h
def mq(K:PySem.W.Frag):TV->Value->Bool
 |.flat v,u=>pL v u
 | .tup xs,.ref a=>(match K.lookup a with
  |some o=>o.cls == .type "tuple"&&(match o.data with|.seq its _=>decide (its.size<=1000)&&rP xs its.toList|_=>false)
  | none=>false)
 |_,_=>false
def CJ(K:PySem.W.Frag):TV->Value->Prop
 |.flat v,u=>RelV v u
 |.tup xs,u=>∃a,u=.ref a/\∀H,SqT K H a xs
theorem FC{K:PySem.W.Frag}(d:TV)(u:Value)(h:mq K d u=true):CJ K d u:=by
 unfold mq at h;split at h
 ·exact oN h
 ·rename_i xs a;split at h
  ·rename_i o ho;obtain⟨e1,e2⟩:=(ZN _ _).mp h;split at e2
   ·rename_i its n hd;obtain⟨e3,e4⟩:=(ZN _ _).mp e2;exact⟨a,rfl,fun H=>.inr ⟨o,its,n,ho,YY.mp e1,hd,du (ZJ e3),jW e4⟩⟩
   ·cases e2
  ·cases h
 ·cases h
structure Tab(K:PySem.W.Frag)(a:Addr)(D:List (Str×TV)):Prop where
 look:KTD.tabLook (mq K) (fun b=>K.lookup b) a D=true
theorem Tab.at{K:PySem.W.Frag}{a:Addr}{D:List (Str×TV)}(T:Tab K a D){h:Heap}(X:K.In h):KTD.TabOf (CJ K) h a D:=KTD.tab_of_look FC (fun b o e=>X b o e) T.look
section
variable{prog:Program}{w:World}{A:Around}{E:Value->Shared->Prop}{s:Shared}{d:Addr}{o:Obj}{es:Array DictEntry}{ep:Nat}{x:Str}{tx:Tok}
theorem um{Q:Option Value->Shared->Prop}(ho:s.heap.get? d=some o)(hd:o.data=.dict es ep)(hall:(es.all fun e=>isExactStrKey e.key)=true)(h:Q ((es.toList.find? fun e=>e.key.isStr x).map (·.val)) { s with toks:=s.toks+1 }) :
  wpAny (model prog w) A (dictGet d (.str x tx)) Q E s:=by
 unfold dictGet;(try with_reducible (refine Ym ?_))
 refine z6 (wpAny_pyHash_str (z6 (KTD.kt_dictFind_strs (s:={ s with toks:=s.toks+1 }) ho hd hall ?_)));have hq:Q (findBy (fun y v=>v.isStr y) es x) { s with toks:=s.toks+1 }:=by
  have hf:findBy (fun y v=>v.isStr y) es x=(es.toList.find? fun e=>e.key.isStr x).map (·.val):=by obtain⟨l⟩:=es;simp[findBy]
  rw[hf];exact h
 rw[findBy_of_findIdx?]at hq;cases hi:es.findIdx? fun e=>e.key.isStr x<;>rw[hi]at hq
 ·exact Zd hq
 ·exact z6 (Y1 (s:={ s with toks:=s.toks+1 }) ho hd (Zd hq))
theorem ED{Q:Value->Shared->Prop}(sy:(d==sysModules)=false)(ex:o.ExactDict)(ho:s.heap.get? d=some o)(hd:o.data=.dict es ep)(hall:(es.all fun e=>isExactStrKey e.key)=true)(h:Q (.bool ((es.toList.find? fun e=>e.key.isStr x).map (·.val)).isSome) { s with toks:=s.toks+1 }):wpAny (model prog w) A (compareOp .In (.str x tx) (.ref d)) Q E s:=by
 have T:s.TypeIs (.ref d) "dict":=⟨o,ho,ex.1⟩
 show wpAny _ _ (do return .bool (←contains (.ref d) (.str x tx))) Q E s;refine z6 ?_;unfold contains;(try with_reducible (refine Ym ?_))
 refine z6 (wpAny_specialOf T slot_dict_contains.lookup ?_);show wpAny _ _ (if(some (Value.builtin "dict.__contains__")==some Value.none)=true then _ else _) _ _ _;rw[if_neg (by rw[beq_builtin_none];decide)];refine z6 (wpAny_callSpecialUnlessNone?_slot (name:=Str.ofString "__contains__") T slot_dict_contains (ZW slot_dict_contains T entry_dict_contains ?_ (args_dict_contains _ _)));show wpAny _ _ (dictGet d (.str x tx) >>= _) _ _ _;refine z6 (um ho hd hall ?_);cases hv:(es.toList.find? fun e=>e.key.isStr x).map (·.val)with
 |some v =>rw[hv]at h;show wpAny _ _ (ret (.bool true)) _ _ _;exact Zd ⟨_,rfl,Yc (Zd h)⟩
 |none =>rw[hv]at h;show wpAny _ _ (Builtin.Dict.pendingKey? d (.str x tx) >>= _) _ _ _;exact z6 (wpAny_pendingKey_other sy (Zd ⟨_,rfl,Yc (Zd h)⟩))
theorem Az{Q:Value->Shared->Prop}{v:Value}(ex:o.ExactDict)(ho:s.heap.get? d=some o)(hd:o.data=.dict es ep)(hall:(es.all fun e=>isExactStrKey e.key)=true)(hv:(es.toList.find? fun e=>e.key.isStr x).map (·.val)=some v)(h:Q v { s with toks:=s.toks+1 }):wpAny (model prog w) A (getItem (.ref d) (.str x tx)) Q E s:=by
 have T:s.TypeIs (.ref d) "dict":=⟨o,ho,ex.1⟩
 unfold getItem;(try with_reducible (refine Ym ?_))
 refine z6 (wpAny_sequenceKey T (by decide) (z6 (ZS (name:=Str.ofString "__getitem__") T slot_dict_getitem (ZW slot_dict_getitem T entry_dict_getitem ?_ (args_dict_getitem _ _)))));show wpAny _ _ (dictGet d (.str x tx) >>= _) _ _ _;refine z6 (um ho hd hall ?_);rw[hv];exact Zd ⟨v,rfl,Zd h⟩
end
section
variable{X:Cx}
def Eh(K:PySem.W.Frag):R2:=fun x y H Q=>∃a k D,x=.str k/\y=.ref a/\Tab K a D/\Q (.bl (KTD.datumAt k D).isSome) H
theorem BJ:QOp X (compareOp .In) (Eh X.K):=by
 refine⟨?_⟩;intro pins s σ H x y v u Q I rx ry h;obtain⟨a,k,D,rfl,rfl,T,q⟩:=h;obtain⟨t,rfl⟩:=rx;cases ry;obtain⟨sy,o,es,ep,ho,ex,hd,hr⟩:=T.at I.kIn;refine ED sy ex ho hd (by obtain⟨l⟩:=es;simpa using hr.exact) ⟨.bl (KTD.datumAt k D).isSome,H,I.tok _,?_,q⟩;cases e:KTD.datumAt k D with
 |none=>rw[hr.find_none e];rfl
 |some d=>obtain⟨v,hv,_⟩:=hr.find_some e;rw[hv];rfl
def Ei(K:PySem.W.Frag):R2:=fun x y H Q=>∃a k D d,x=.ref a/\y=.str k/\Tab K a D/\KTD.datumAt k D=some d/\(match d with|.flat v=>Q v H|.tup xs=>∀t,(∀H',SqT K H' t xs)->Q (.ref t) H)
theorem FE:QIx X (Ei X.K):=by
 refine⟨?_⟩;intro value slice pins s σ H x y v u Q I rx ry h hs;obtain⟨a,k,D,d,rfl,rfl,T,hk,q⟩:=h;obtain⟨t,rfl⟩:=ry;cases rx;obtain⟨sy,o,es,ep,ho,ex,hd,hr⟩:=T.at I.kIn;obtain⟨v,hv,ok⟩:=hr.find_some hk;have fin:EP X pins σ Q v { s with toks:=s.toks+1 }:=by
  cases d with
  |flat z=>exact⟨z,H,I.tok _,ok,q⟩
  |tup xs =>obtain⟨t,rfl,e⟩:=ok;exact⟨.ref t,H,I.tok _,rfl,q t e⟩
 exact subscriptTail_builtinR (x:=v) (⟨o,ho,ex.1⟩:s.TypeIs (.ref a) "dict") slot_dict_getitem.lookup (Az (Q:=fun r s'=>r=v/\EP X pins σ Q r s') ex ho hd (by obtain⟨l⟩:=es;simpa using hr.exact) hv ⟨rfl,fin⟩) hs
theorem Eb{x:Str}{a:Addr}{pos:Pos}(hm:X.mg x=some (.ref a))(hg:Gl X x:=by rfl)(hd:(x==("__debug__":Str))=false:=by decide):QE X (.Name x pos) (tC (.ref a)):=⟨nA hg hm rfl hd⟩
end
open PySem PySem.Spec PyProof.Rows PySem.W
def CXr(P:Program)(w:World):CXT:=fun outer H s E e s' =>
 ∃(ea t:Addr) (C:Value) (vs:List Value) (B:Heap) (H':Hp) (dc:Option Addr),e=.ref ea/\s'.os=s.os/\AllBare s'.gens/\Un (frs outer) [] H H' s.heap s'.heap/\HOk P w H' s'.heap /\
  Heap.FlyingW B outer ea C (.ref t) s'.heap/\s'.heap.TupAt t vs/\B.get? t=none/\(∀b o,b∉frs outer->((∃u,H' b=some u)\/∃o0,s.heap.get? b=some o0)->s'.heap.get? b=some o->B.get? b=some o)/\fP s'.heap ea dc/\E C dc H'
structure ExCls(K:PySem.W.Frag)(C:Addr):Prop where
 cls:∀h,K.In h->∃nm q N bs bm hdct sn sub ab col dd k0 k1 k2 k3 k5 mN,h.get? C=some (excClassObj nm q C N bs bm hdct sn sub ab col dd k0 k1 k2 k3 k5 "ValueError.__new__")/\h.Ns N mN/\mN "__init__" = none/\bm.contains (.type "BaseException")=true /\
  OwnTail h [.type "ValueError",.type "Exception",.type "BaseException",.type "object"] bm
open PySem PySem.Spec PyProof.Rows PySem.W
structure FnX(P:Program)(w:World)(K:PySem.W.Frag)(mg:Str->Option Value)(base:Heap)(k:Nat)(x:Str)(ps:List Str)(sp:Sp):Prop where
 ex:∃f fd,FnOk P w K mg base (CXr P w) k f fd ps sp/\mg x=some (.ref f)/\PySem.W.keepIn K (.ref f)=true/\Binds K fd ps []
def XP(X:Cx)(pins:List (Addr×Obj))(σ:St)(E:XK)(e:Value)(s':Shared):Prop:=∃s0 H0,Inv X pins σ H0 s0/\CXr X.prog X.w X.stack H0 s0 E e s'
abbrev TX:=St->Hp->VK->XK->Prop
structure QX(X:Cx)(e:Expr)(t:TX):Prop where
 h:∀(pins:List (Addr×Obj)) (s:Shared) (σ:St) (H:Hp) (Q:VK) (E:XK),Inv X pins σ H s->t σ H Q E->wpAny (model X.prog X.w) X.A (eval e X.env) (EP X pins σ Q) (XP X pins σ E) s
abbrev TSX:=Ends->St->Hp->XK->Prop
structure QSX(X:Cx)(st:Stmt)(t:TSX):Prop where
 h:∀(pins:List (Addr×Obj)) (s:Shared) (σ:St) (H:Hp) (D:Ends) (E:XK),Inv X pins σ H s->t D σ H E->wpAny (model X.prog X.w) X.A (exec st X.env) (SP X pins D) (XP X pins σ E) s
section
variable{X:Cx}{e:Expr}{tx:TX}{pos pos':Pos}{x:Str}
theorem Et(he:QX X e tx):QSX X (.Return (some e) pos) (fun D σ H E=>tx σ H D.rt E):=by refine⟨?_⟩;intro pins s σ H D E I h;exact wpAny_Return_some (thn (he.h pins s σ H _ E I h) fun v s1 ⟨y,H1,I1,r1,q1⟩=>⟨y,σ,H1,I1,r1,q1⟩)
end
structure Fl(X:Cx)(H0 H':Hp)(s0 s':Shared)(B:Heap):Prop where
 os:s'.os=s0.os
 bare:AllBare s'.gens
 un:Un (frs X.stack) [] H0 H' s0.heap s'.heap
 hok:HOk X.prog X.w H' s'.heap
 kb:∀b o,b∉frs X.stack->((∃u,H' b=some u)\/∃o0,s0.heap.get? b=some o0)->s'.heap.get? b=some o->B.get? b=some o
section
variable{X:Cx}{pins:List (Addr×Obj)}{σ:St}{H0 H':Hp}{s0 s':Shared}{B h':Heap}
theorem Fl.inv(F:Fl X H0 H' s0 s' B)(I:Inv X pins σ H0 s0):Inv X pins σ H' s':=I.call' F.os F.un F.hok F.bare fun _ z=>nomatch z
theorem Fl.nf(F:Fl X H0 H' s0 s' B)(I:Inv X pins σ H0 s0){b:Addr}{u:HO}(h:H' b=some u):b∉frs X.stack:=fun hm=>by have:=(F.inv I).stkFree b hm;rw[h]at this;cases this
theorem Fl.move{tk:Nat}(F:Fl X H0 H' s0 s' B)(I:Inv X pins σ H0 s0)(st:B.StaysIn h')(up:s'.heap.UpToSlots h'):Fl X H0 H' s0 { s' with heap:=h',toks:=tk } B:=by
 have kp:∀b o,b∉frs X.stack->((∃u,H' b=some u)\/∃o0,s0.heap.get? b=some o0)->s'.heap.get? b=some o->h'.get? b=some o:=fun b o h1 h2 h3=>st b o (F.kb b o h1 h2 h3);have sl:∀b o,b∈frs X.stack->s'.heap.get? b=some o->∃sl,h'.get? b=some { o with slots:=sl }:=fun b o hm q=>by obtain⟨_,o',ho',hd⟩:=(F.inv I).stack.mem hm;have e:s'.heap.get? b=some o':=ho';rw[q]at e;cases e;exact up b o q hd
 refine⟨F.os,F.bare,⟨fun b o q n hb hx=>kp b o hb (.inr ⟨o,q⟩) (F.un.keep b o q n hb hx),fun b o q n hb hx=>?_,F.un.free,fun b o q hx=>?_,F.un.tups,F.un.frzs,F.un.tbls⟩,fun b u q=>?_,fun b o hb ho q=>?_⟩
 ·obtain⟨s1,e1⟩:=F.un.slot b o q n hb hx;obtain⟨s2,e2⟩:=sl b _ hb e1;exact⟨s2,e2⟩
 ·obtain⟨o',e1⟩:=F.un.there b o q hx;by_cases hb:b∈frs X.stack
  ·obtain⟨s2,e2⟩:=sl b o' hb e1;exact⟨_,e2⟩
  ·exact⟨o',kp b o' hb (.inr ⟨o,q⟩) e1⟩
 ·refine(F.hok b u q).stay (fun c v hc z=>kp c v ?_ ?_ z) (fun _ z=>z) fun _ _ z=>z
  ·rcases hc with z'|z'
   ·rw[z'];exact F.nf I q
   ·exact F.nf I z'
  ·rcases hc with z'|z'
   ·rw[z'];exact .inl ⟨u,q⟩
   ·exact .inl ⟨_,z'⟩
 ·obtain⟨o1,q1⟩:∃o1,s'.heap.get? b=some o1:=by
   rcases ho with⟨u,z⟩|⟨o0,z⟩
   ·exact qN (F.hok b u z)
   ·exact F.un.there b o0 z (by simp)
  have q2:=kp b o1 hb ho q1;have q':h'.get? b=some o:=q;rw[q']at q2;cases q2;exact F.kb b o hb ho q1
end
structure ExC(K:PySem.W.Frag)(C:Addr)(bm:List Value):Prop where
 cls:∀h,K.In h->∃nm q N bs hdct sn sub ab col dd k0 k1 k2 k3 k5 ni,h.get? C=some (excClassObj nm q C N bs bm hdct sn sub ab col dd k0 k1 k2 k3 k5 ni)
 exc:bm.contains (.type "BaseException")=true
theorem rX{M:Model}{A:Around}{E:Value->Shared->Prop}{s:Shared}{e C T:Addr}{oe:Obj}{bmC bmT:List Value}{K:PySem.W.Frag}{Q:Bool->Shared->Prop}(hC:ExC K C bmC)(hT:ExC K T bmT)(hk:K.In s.heap)(he:s.heap.get? e=some oe)(hcls:oe.cls=.ref C)(hq:Q ((Value.ref C::bmC).contains (.ref T)) s):wpAny M A (excMatches (.ref e) (.ref T)) Q E s:=by
 obtain⟨nm,q,N,bs,hdct,sn,sub,ab,col,dd,k0,k1,k2,k3,k5,ni,oC⟩:=hC.cls _ hk;obtain⟨nm',q',N',bs',hdct',sn',sub',ab',col',dd',k0',k1',k2',k3',k5',ni',oT⟩:=hT.cls _ hk;obtain⟨hp,g,d,tk,os⟩:=s;have hcB:(Value.ref T::bmT).contains (.type "BaseException")=true:=by rw[List.contains_cons,hT.exc,Bool.or_true]
 have f:=tc_notTuple;unfold excMatches;generalize hr:(Value.ref C::bmC).contains (Value.ref T)=r at hq
 repeat(first|(with_reducible refine wpAny_loadPart_at he ?_;rw[hcls])|with_reducible refine wpAny_loadPart_at oT ?_|(with_reducible refine wpAny_isSubtype_exc oT ?_;rw[hcB])|(with_reducible refine wpAny_isSubtype_exc oC ?_;rw[hr])|wp_step)
 cases r<;>(first|exact hq|(wp_walk;exact hq))
def Cx.exc(X:Cx)(e:Value):Cx:={ X with A:=X.A.mark (some e),calm:=false,xe:=fun _ _=>False }
section
variable{X:Cx}{pins:List (Addr×Obj)}{σ:St}{H:Hp}{s:Shared}{e:Value}
theorem Inv.exc(I:Inv X pins σ H s)(e:Value):Inv (X.exc e) pins σ H s :=
 ⟨⟨I.ok.mod,I.ok.kind,I.ok.glob,I.ok.blt,I.ok.above,I.ok.inj,I.ok.has,I.ok.cab,fun z=>(nomatch z),I.ok.frames,I.ok.stk,I.ok.exf,I.ok.bs,I.ok.bsz,I.ok.noex,I.ok.exfs,I.ok.funs,I.ok.frf⟩,I.os,I.bare,I.base,I.loc,I.cell,I.free,I.freeC,I.pin,I.hok,I.len⟩
theorem Inv.unexc(ok:X.Ok)(I:Inv (X.exc e) pins σ H s):Inv X pins σ H s:=⟨ok,I.os,I.bare,I.base,I.loc,I.cell,I.free,I.freeC,I.pin,I.hok,I.len⟩
end
abbrev TH:=Ends->St->Value->Option Addr->Hp->Prop
structure QH(X:Cx)(hs:List ExceptHandler)(th:TH):Prop where
 h:∀(pins:List (Addr×Obj)) (s0:Shared) (H0:Hp) (σ:St) (D:Ends) (ea t:Addr) (C:Value) (B:Heap) (H':Hp) (dc:Option Addr) (s':Shared),Inv X pins σ H0 s0->Fl X H0 H' s0 s' B->Heap.FlyingW B X.stack ea C (.ref t) s'.heap->fP s'.heap ea dc->th D σ C dc H' ->
  wpAny (model X.prog X.w) X.A (handleBy (.ref ea) X.env hs) (SP X pins D) X.xe s'
section
variable{X:Cx}
def F7(tb:TSX)(th:TH):TS:=fun D σ H=>tb D σ H fun C dc H1=>th D σ C dc H1
theorem Ep{st:Stmt}{tb:TSX}{th:TH}{h0:ExceptHandler}{hs:List ExceptHandler}{pos:Pos}(hst:X.stack=X.env::X.outer)(hfr:X.env.frame=some X.env.locals)(hb:QSX X st tb)(hh:QH X (h0::hs) th) :
  QS X (.Try [st] (h0::hs) [] [] pos) (F7 tb th):=by
 refine⟨?_⟩;intro pins s σ H D I h;refine wpAny_Try_except (wpAny_execs_cons (Z4 (hb.h pins s σ H D _ I h) (fun f s1 q=>?_) (fun e s1 x=>?_)))
 ·cases f with
  |next=>exact wpAny_execs_nil (wpAny_execs_nil q)
  |brk=>exact q
  |cont=>exact q
  |ret v=>exact q
 ·obtain⟨s0,H0,I0,ea,t,C,vs,B,H',dc,rfl,os,bare,un,hok,fly,tup,hBt,kb,dd,q⟩:=x;have F:Fl X H0 H' s0 s1 B:=⟨os,bare,un,hok,kb⟩
  have fr:X.A.frames=some (X.env::X.outer):=by rw[<-hst];exact I.ok.frames
  rw[hst]at fly;refine uZ fr hfr fly dd fun h4 held up4 dd4=>?_;obtain⟨f1,f2,f3,f4⟩:=held;refine kY f1 f3 f4 dd4 fun h5 k1 k2 k3 up5 dd5=>?_;have F5:=(F.move (tk:=s1.toks) I0 k1 (up4.trans up5))
  rw[<-hst]at k2;exact hh.h pins s0 H0 σ D ea t C B H' dc _ I0 F5 ⟨k1,f2,k2,k3⟩ dd5 q
end
open PySem PySem.Spec PyProof.Rows PySem.W
abbrev VE:List Value:=[.type "ValueError",.type "Exception",.type "BaseException",.type "object"]
structure ExcAt(K:PySem.W.Frag)(C:Addr)(bm:List Value):Prop where
 isIn:excIn K C VE "ValueError.__new__" = true
 mro:∃c d cd sl,K.lookup C=some ⟨c,d,.cls cd,sl⟩/\cd.mro=Value.ref C::bm
 exc:bm.contains (.type "BaseException")=true
theorem wP{K:PySem.W.Frag}{C:Addr}{bm:List Value}(q:ExcAt K C bm){h:Heap}(X:K.In h) :
  ∃nm qn N bs hdct sn sub ab col dd k0 k1 k2 k3 k5 mN,h.get? C=some (excClassObj nm qn C N bs bm hdct sn sub ab col dd k0 k1 k2 k3 k5 "ValueError.__new__")/\h.Ns N mN/\mN "__init__" = none/\OwnTail h VE bm:=by
 have q1:=q.isIn;obtain⟨c9,d9,cd9,sl9,l9,m9⟩:=q.mro;unfold excIn at q1;split at q1
 ·rename_i dd cd sl ho;split at q1
  ·rename_i C' bm' k0 k1 k2 k3 n k5 hm hs;have q2:cd.mro=Value.ref C::bm:=by have z:=ho.symm.trans l9;cases z;exact m9
   rw[hm]at q2;injection q2 with z1 z2;injection z1 with z1;cases z1;cases z2;simp only[ZN,YY,Bool.not_eq_true']at q1;obtain⟨⟨⟨⟨⟨_,rfl⟩,nd⟩,ht⟩,ok⟩,ni⟩:=q1;have es:sl=#[k0,k1,k2,k3,some (.builtin "ValueError.__new__"),k5]:=by obtain⟨l⟩:=sl;simp only at hs;rw[hs]
   cases es;obtain⟨nm,bs,mro,ns,qn,hd,sn,sub,ab,col,del⟩:=cd;dsimp only at hm nd ok ni;cases hm;cases nd;exact⟨nm,qn,ns,bs,hd,sn,sub,ab,col,dd,k0,k1,k2,k3,k5,_,X _ _ ho,.of_isNs (isNs_of_in X ok),nsMap_none_of_in X ok ni,tail_of_in X ht⟩
  ·cases q1
 ·cases q1
theorem CP{K:PySem.W.Frag}{C:Addr}{bm:List Value}(q:ExcAt K C bm):ExC K C bm where
 cls:=fun h X=>by obtain⟨nm,qn,N,bs,hdct,sn,sub,ab,col,dd,k0,k1,k2,k3,k5,mN,e,_⟩:=wP q X;exact⟨nm,qn,N,bs,hdct,sn,sub,ab,col,dd,k0,k1,k2,k3,k5,_,e⟩
 exc:=q.exc
structure ExK(K:PySem.W.Frag)(c:Addr):Prop where
 hc:(clsIn K c).isSome=true
 hga:findIn K (.ref c) "__getattribute__" = some (some (.builtin "BaseException.__getattribute__"))
 hgh:findIn K (.ref c) "__getattr__" = some none
 ha:findIn K (.ref c) "__class__" = some (some (.builtin "object.__class__"))
 hb:mroIn K c (.type "BaseException")=some true
 hm:mroIn K c (.type "object")=some true
open PySem PySem.Spec PyProof.Rows PySem.W
theorem ie{J:It}{N n:Nat}{cap:List Nat}{g:TG}{te:TE}{σ:St}{H0:Hp}{Q:VK}(Pv:Nat->List V->Hp->Prop)(hz:N<=1000)(hn:∀i ys H,Pv i ys H->ys.length=i)(h0:Pv 0 [] H0)(hgo:∀i ys H,i<N->Pv i ys H->J.go i H)(hst:∀ys H,Pv N ys H->J.stop N H)(ht:∀i ys H x H',i<N->Pv i ys H->J.yld i H x H'->∀A:VK,(∀v H4,Pv (i+1) (ys++[v]) H4->A v H4)->g x (bu n cap σ) H' fun σ2 H2=>te σ2 H2 A)(hq:∀ys p H,Pv N ys H->H p=none->Q (.ref p) (upd H p (.lst ys))):cz n cap g fb te σ J H0 Q:=by
 refine⟨fun i m ys H=>m=N-i/\i<=N/\Pv i ys H,⟨N,by simp,ZZ _,h0⟩,?_⟩;rintro i m ys H ⟨rfl,hi,pv⟩;by_cases hlt:i<N
 ·refine .inr ⟨hgo i ys H hlt pv,by rw[hn i ys H pv];exact fh (by omega),fun x H' y=>?_⟩;have k:=ht i ys H x H' hlt pv y (fun v H4=>∃m',m'<N-i/\m'=N-(i+1)/\i+1<=N/\Pv (i+1) (ys++[v]) H4) (fun v H4 z=>⟨N-(i+1),by omega,rfl,hlt,z⟩);unfold fb;simpa using k
 ·have e:i=N:=by omega
  subst e;exact .inl ⟨hst ys H pv,fun p hp=>hq ys p H pv hp⟩
open PySem PySem.Spec PyProof.Rows PySem.W
open PySem PySem.Spec PyProof.Rows PySem.W
theorem E8{X:Cx}:QOp X (compareOp .Is) (fun x y H Q=>∃b c,x=.bl b/\y=.bl c/\Q (.bl (decide (b=c))) H):=by refine⟨?_⟩;intro pins s σ H x y v u Q I rx ry h;obtain⟨b,c,rfl,rfl,q⟩:=h;cases rx;cases ry;cases b<;>cases c<;>exact Zd ⟨.bl _,H,I,rfl,q⟩
open PySem PySem.Spec PyProof.Rows PySem.W
def KIn{α:Type}(n:Nat)(P:α->Prop):KasT α->Prop
 |.ret a=>P a
 |.ask i j k=>i<n/\j<n/\∀b,KIn n P (k b)
theorem KIn.bind{α β:Type}{n:Nat}{P:α->Prop}{R:β->Prop}{f:α->KasT β}:∀{t:KasT α},KIn n P t->(∀a,P a->KIn n R (f a))->KIn n R (t.bind f)
 |.ret _,h,k=>k _ h
 |.ask _ _ _,⟨h1,h2,h3⟩,k=>⟨h1,h2,fun b=>KIn.bind (h3 b) k⟩
def POk(n:Nat)(p:Array Nat):Prop:=p.Perm (List.range n).toArray
theorem POk.lt{n:Nat}{p:Array Nat}(h:POk n p)(hn:0<n)(k:Nat):p.getD k 0<n:=by
 rw[ZT];cases e:p[k]? with
 |none=>exact hn
 |some x =>have hm:x∈p:=Array.mem_of_getElem? e;have:=(h.mem_iff).mp hm;simpa using this
theorem POk.rev{n:Nat}{p:Array Nat}(h:POk n p)(i j:Nat):POk n (kas_rev p i j):=(mirror_perm p i j _).trans h
theorem POk.bub{n:Nat}{p:Array Nat}(h:POk n p)(i j:Nat):POk n (bubble p i j):=(bubble_perm p i j).trans h
theorem mT{n:Nat}(hn:0<n){p:Array Nat}(h:POk n p):∀f k,KIn n (fun _=>True) (kas_asc p f k)
 |0,_=>trivial
 | f+1,k=>⟨h.lt hn _,h.lt hn _,fun c=>by
  cases c with
  |true=>exact trivial
  | false=>exact mT hn h f (k+1)⟩
theorem iy{n:Nat}(hn:0<n):∀(f:Nat) {p:Array Nat},POk n p->∀k q,KIn n (fun r=>POk n r.1) (kas_desc f p k q)
 |0,_,h,_,_=>h
 |f+1,p,h,k,q=>by
  refine⟨h.lt hn _,h.lt hn _,fun c=>?_⟩;cases c with
  |true =>
   show KIn n _ (if q>0 then _ else _);split
   ·exact iy hn f (h.rev _ _) _ _
   ·exact iy hn f h _ _
  |false =>
   refine⟨h.lt hn _,h.lt hn _,fun d=>?_⟩;cases d with
   |true=>exact h
   |false=>exact iy hn f h _ _
theorem qB{n:Nat}(hn:0<n){p:Array Nat}(h:POk n p)(k r:Nat):KIn n (fun r=>POk n r.2) (kas_tail3 k r p):=KIn.bind (mT hn (h.rev 0 k) _ _) fun _ _=>h.rev 0 k
theorem jb{n:Nat}(hn:0<n){p:Array Nat}(h:POk n p)(k r:Nat):KIn n (fun r=>POk n r.2) (kas_descPart k r p):=KIn.bind (iy hn _ h _ _) fun x hx=>by
 show KIn n _ (if x.2.2>0 then _ else _);split
 ·exact qB hn (hx.rev _ _) _ _
 ·exact qB hn hx _ _
theorem xn{n:Nat}(hn:0<n){p:Array Nat}(h:POk n p)(r:Nat):KIn n (fun r=>POk n r.2) (kas_count r p):=KIn.bind (mT hn h _ _) fun k _=>by
 show KIn n _ (if(k==r)=true then _ else if k>1 then _ else _);split
 ·exact h
 ·split
  ·refine⟨h.lt hn _,h.lt hn _,fun c=>?_⟩;cases c with
   |true=>exact h
   |false=>exact jb hn (h.rev _ _) _ _
  ·exact jb hn h _ _
theorem jc{n:Nat}(hn:0<n){p:Array Nat}(h:POk n p)(k:Nat):∀f l r,KIn n (fun _=>True) (kas_place p k f l r)
 |0,_,_=>trivial
 |f+1,l,r=>by
  show KIn n _ (if l>=r then _ else _);split
  ·exact trivial
  ·refine⟨h.lt hn _,h.lt hn _,fun c=>?_⟩;cases c with
   |true=>exact jc hn h k f _ _
   |false=>exact jc hn h k f _ _
theorem tI{n:Nat}(hn:0<n):∀(f:Nat) {p:Array Nat},POk n p->∀k,KIn n (POk n) (kas_bin f p k)
 |0,_,h,_=>h
 |f+1,_,h,k=>KIn.bind (jc hn h k _ _ _) fun _ _=>tI hn f (h.bub _ _) (k+1)
theorem zp{n:Nat}(hn:0<n):KIn n (POk n) (kas_sort n):=KIn.bind (xn hn (Array.Perm.refl _) _) fun r hr=>by
 show KIn n _ (if r.1<n then _ else _);split
 ·exact tI hn _ hr _
 ·exact hr
section
variable{X:Cx}
theorem wA{K:PySem.W.Frag}(hK:X.K=K)(hc:X.calm=true):QCall X (.builtin "sum") (fun xs H Q=>∃(p:Addr) (ns:List Int),xs=[.ref p]/\SqT K H p (ns.map V.int)/\Q (.int ns.sum) H):=by
 subst hK;refine⟨?_⟩;intro pins s σ H xs us Q I r h;obtain⟨p,ns,rfl,hS,q⟩:=h;obtain⟨u,rfl,ru⟩:=cu r;cases ru;obtain⟨its,rv,pl,hz⟩:=I.tuple hS;obtain⟨ys,e1,e2⟩:=lm (cE rv);have hl:s.heap.IsTuple p (intItems ys.toArray):=by obtain⟨o,ho,hc',n,hd⟩:=pl;rw[e1]at hd;exact⟨o,ho,hc',n,by simpa[intItems]using hd⟩
 refine ktm_sumG (I.ok.hd hc) hl fun h' tk t' hk=>⟨.int ns.sum,H,I.kept (t':=tk) hk,⟨t',?_⟩,q⟩
 have e:preSum (numAt ys.toArray) ys.toArray.size=ns.sum:=by rw[preSum_eq,Yf (by simp),e2]
 rw[e]
theorem E9:QOp X (binaryOp .Mult) Ek:=⟨Dw⟩
end
open PySem PySem.Spec PyProof.Rows PySem.W
def KW{α:Type}(lt:Nat->Nat->Bool)(Q:α->Prop):KasT α->Prop
 |.ret a=>Q a
 |.ask i j k=>KW lt Q (k (lt i j))
theorem KW.bind{α β:Type}{lt:Nat->Nat->Bool}{Q:β->Prop}{f:α->KasT β}:∀{t:KasT α},KW lt (fun a=>KW lt Q (f a)) t->KW lt Q (t.bind f)
 |.ret _,h=>h
 |.ask i j k,h=>KW.bind (t:=k (lt i j)) h
theorem KW.mono{α:Type}{lt:Nat->Nat->Bool}{Q R:α->Prop}(k:∀a,Q a->R a):∀{t:KasT α},KW lt Q t->KW lt R t
 |.ret _,h=>k _ h
 |.ask i j c,h=>KW.mono k (t:=c (lt i j)) h
structure LtOk(lt:Nat->Nat->Bool):Prop where
 as:∀{a b},lt a b=true->lt b a=false
 tr:∀{a b c},lt b a=false->lt c b=false->lt c a=false
def gA(p:Array Nat)(k:Nat):Nat:=p.getD k 0
def Lx(lt:Nat->Nat->Bool)(a b:Nat):Prop:=lt b a=false/\(lt a b=true\/a<b)
section
variable{lt:Nat->Nat->Bool}(O:LtOk lt)
include O
theorem LtOk.lt_le{a b c:Nat}(h:lt a b=true)(h2:lt c b=false):lt a c=true:=by
 cases e:lt a c with
 |true=>rfl
 |false=>rw[O.tr h2 e]at h;cases h
theorem LtOk.le_lt{a b c:Nat}(h:lt b a=false)(h2:lt b c=true):lt a c=true:=by
 cases e:lt a c with
 |true=>rfl
 |false=>rw[O.tr e h]at h2;cases h2
theorem Lx.trans{a b c:Nat}(h:Lx lt a b)(k:Lx lt b c):Lx lt a c:=by
 refine⟨O.tr h.1 k.1,?_⟩;rcases h.2 with x|x
 ·exact .inl (O.lt_le x k.1)
 ·rcases k.2 with y|y
  ·exact .inl (O.le_lt h.1 y)
  ·exact .inr (Nat.lt_trans x y)
theorem Lx.of_lt{a b:Nat}(h:lt a b=true):Lx lt a b:=⟨O.as h,.inl h⟩
end
structure Fx(N:Nat)(p:Array Nat)(m:Nat):Prop where
 sz:p.size=N
 hi:∀k,m<=k->k<N->gA p k=k
 lo:∀i,i<m->gA p i<m
def LS(lt:Nat->Nat->Bool)(p:Array Nat)(m:Nat):Prop:=∀i j,i<j->j<m->Lx lt (gA p i) (gA p j)
def AS(lt:Nat->Nat->Bool)(p:Array Nat)(m:Nat):Prop:=∀i j,i<j->j<m->Lx lt (gA p j) (gA p i)
theorem Fx.succ{N:Nat}{p:Array Nat}{m:Nat}(h:Fx N p m)(hm:m<N):Fx N p (m+1):=⟨h.sz,fun k h1 h2=>h.hi k (by omega) h2,fun i hi=>by
 rcases ZY i m with h1|h1
 ·have:=h.lo i h1;omega
 ·have e:i=m:=by omega
  subst e;rw[h.hi i (Ze _) hm];omega⟩
theorem cH{p:Array Nat}{i j k:Nat}(hj:j<=p.size):gA (kas_rev p i j) k=if i<=k/\k<j then gA p (i+j-1-k)else gA p k:=by
 unfold gA kas_rev;rw[ZT,getElem?_mirror_all hj];split
 ·rw[ZT]
 ·rw[ZT]
theorem gj(p:Array Nat)(k:Nat):gA p k=(p[k]?).getD 0:=by unfold gA;rw[ZT]
theorem wY{p:Array Nat}{k d i:Nat}(hk:k<p.size)(hd:d<=k):gA (bubble p k d) i=if i=k-d then gA p k else if k-d<i/\i<=k then gA p (i-1)else gA p i:=by
 rw[gj,getElem?_bubble hk d hd];split
 ·rw[gj]
 ·split
  ·rw[gj]
  ·rw[gj]
theorem Fx.rev{N:Nat}{p:Array Nat}{m i j:Nat}(h:Fx N p m)(hj:j<=m)(hm:m<=N):Fx N (kas_rev p i j) m:=by
 have hs:j<=p.size:=by rw[h.sz];omega
 refine⟨by rw[kas_rev_size];exact h.sz,fun k h1 h2=>?_,fun k hk=>?_⟩
 ·rw[cH hs,if_neg (by omega)];exact h.hi k h1 h2
 ·rw[cH hs];split
  ·exact h.lo _ (by omega)
  ·exact h.lo _ hk
section
variable{lt:Nat->Nat->Bool}(O:LtOk lt){N:Nat}
include O
theorem LS.step{p:Array Nat}{n:Nat}(h:LS lt p n)(hx:Lx lt (gA p (n-1)) (gA p n))(h1:1<=n):LS lt p (n+1):=fun i j hij hj=>by
 rcases ZY j n with h2|h2
 ·exact h i j hij h2
 ·have e:j=n:=by omega
  subst e;rcases ZY i (j-1)with h3|h3
  ·exact(h i (j-1) h3 (by omega)).trans O hx
  ·have e:i=j-1:=by omega
   subst e;exact hx
theorem qC{p:Array Nat}:∀(f n:Nat),1<=n->n+f<=N->Fx N p n->LS lt p n->KW lt (fun m=>n<=m/\m<=n+f/\Fx N p m/\LS lt p m/\(m<n+f->lt (gA p m) (gA p (m-1))=true)) (kas_asc p f n)
 |0,n,_,_,hf,hs=>⟨Ze _,Ze _,hf,hs,fun h=>absurd h (by omega)⟩
 |f+1,n,h1,hN,hf,hs=>by
  show KW lt _ (if lt (gA p n) (gA p (n-1))=true then .ret n else kas_asc p f (n+1));by_cases c:lt (gA p n) (gA p (n-1))=true
  ·rw[if_pos c];exact⟨Ze _,by omega,hf,hs,fun _=>c⟩
  ·rw[if_neg c];have c':=y4.mpr c;have hx:Lx lt (gA p (n-1)) (gA p n):=⟨c',.inr (by rw[hf.hi n (Ze _) (by omega)];exact hf.lo _ (by omega))⟩
   refine KW.mono (fun m hm=>?_) (qC f (n+1) (by omega) (by omega) (hf.succ (by omega)) (hs.step O hx h1));exact⟨by omega,by omega,hm.2.2.1,hm.2.2.2.1,fun z=>hm.2.2.2.2 (by omega)⟩
theorem AS.rev{p:Array Nat}{n:Nat}(h:AS lt p n)(hn:n<=p.size):LS lt (kas_rev p 0 n) n:=fun i j hij hj=>by rw[cH hn,cH hn,if_pos (by omega),if_pos (by omega)];exact h _ _ (by omega) (by omega)
theorem tL{p:Array Nat}{n:Nat}(h1:1<=n)(hN:n<=N)(hf:Fx N p n)(ha:AS lt p n):KW lt (fun r=>r.1<=N/\1<=r.1/\Fx N r.2 r.1/\LS lt r.2 r.1) (kas_tail3 n N p):=by refine KW.bind (KW.mono (fun m hm=>?_) (qC O (N:=N) (N-n) n h1 (by omega) (hf.rev (Ze _) hN) (ha.rev O (by rw[hf.sz];exact hN))));exact⟨by omega,by omega,hm.2.2.1,hm.2.2.2.1⟩
structure Dn(lt:Nat->Nat->Bool)(p:Array Nat)(n q:Nat):Prop where
 hq:q+1<=n
 up:∀i j,i<j->j<n-(q+1)->Lx lt (gA p j) (gA p i)
 cr:∀i j,i<n-(q+1)->n-(q+1)<=j->j<n->lt (gA p j) (gA p i)=true
 eq:∀i j,n-(q+1)<=i->i<j->j<n->lt (gA p i) (gA p j)=false/\lt (gA p j) (gA p i)=false/\gA p i<gA p j
theorem Dn.rev{p:Array Nat}{n q:Nat}(h:Dn lt p n q)(hn:n<=p.size):AS lt (kas_rev p (n-(q+1)) n) n:=fun i j hij hj=>by
 have hq:=h.hq;rw[cH hn,cH hn];by_cases c1:n-(q+1)<=i
 ·rw[if_pos (by omega),if_pos (by omega)];obtain⟨e1,e2,e3⟩:=h.eq (n-(q+1)+n-1-j) (n-(q+1)+n-1-i) (by omega) (by omega) (by omega);exact⟨e2,.inr e3⟩
 ·rw[if_neg (show¬(n-(q+1)<=i/\i<n) by omega)];by_cases c2:n-(q+1)<=j
  ·rw[if_pos (by omega)];exact Lx.of_lt O (h.cr _ _ (by omega) (by omega) (by omega))
  ·rw[if_neg (by omega)];exact h.up _ _ hij (by omega)
theorem Dn.zero{p:Array Nat}{n:Nat}(h:Dn lt p n 0):AS lt p n:=fun i j hij hj=>by
 rcases ZY j (n-1)with c|c
 ·exact h.up i j hij c
 ·exact Lx.of_lt O (h.cr i j (by omega) (by omega) hj)
theorem Dn.start{p:Array Nat}{n:Nat}(h:AS lt p n)(h1:1<=n)(hl:lt (gA p n) (gA p (n-1))=true):Dn lt p (n+1) 0:=by
 refine⟨by omega,fun i j hij hj=>h i j hij (by omega),fun i j hi h2 h3=>?_,fun i j h2 h3 h4=>absurd h3 (by omega)⟩;have e:j=n:=by omega
 subst e;rcases ZY i (j-1)with h3|h3
 ·exact O.lt_le hl (h i (j-1) h3 (by omega)).1
 ·have e:i=j-1:=by omega
  subst e;exact hl
theorem jC:∀(f:Nat) {p:Array Nat} {n q:Nat},n+f<=N->Fx N p n->Dn lt p n q->KW lt (fun r=>n<=r.2.1/\r.2.1<=n+f/\Fx N r.1 r.2.1/\Dn lt r.1 r.2.1 r.2.2) (kas_desc f p n q)
 |0,_,n,_,_,hf,hd=>⟨Ze _,Ze _,hf,hd⟩
 |f+1,p,n,q,hN,hf,hd=>by
  have hs:n<=p.size:=by rw[hf.sz];omega
  have hq:=hd.hq;show KW lt _ (if lt (gA p n) (gA p (n-1))=true then(if q>0 then kas_desc f (kas_rev p (n-(q+1)) n) (n+1) 0 else kas_desc f p (n+1) 0)else KasT.ask (gA p (n-1)) (gA p n) fun d=>if d=true then .ret (p,n,q)else kas_desc f p (n+1) (q+1));by_cases c:lt (gA p n) (gA p (n-1))=true
  ·rw[if_pos c];have wk:∀{r:Array Nat×Nat×Nat},(n+1<=r.2.1/\r.2.1<=n+1+f/\Fx N r.1 r.2.1/\Dn lt r.1 r.2.1 r.2.2)->n<=r.2.1/\r.2.1<=n+(f+1)/\Fx N r.1 r.2.1/\Dn lt r.1 r.2.1 r.2.2:=fun h=>⟨by omega,by omega,h.2.2.1,h.2.2.2⟩
   by_cases cq:q>0
   ·rw[if_pos cq];have fr:=hf.rev (i:=n-(q+1)) (Ze n) (by omega);have e1:gA (kas_rev p (n-(q+1)) n) n=gA p n:=by rw[cH hs,if_neg (by omega)]
    have e2:gA (kas_rev p (n-(q+1)) n) (n-1)=gA p (n-(q+1)):=by rw[cH hs,if_pos (by omega)];congr 1;omega
    have l2:lt (gA p n) (gA p (n-(q+1)))=true:=O.lt_le c (hd.eq (n-(q+1)) (n-1) (Ze _) (by omega) (by omega)).1;refine KW.mono (fun r h=>wk h) (jC f (by omega) (fr.succ (by omega)) (Dn.start O (hd.rev O hs) (by omega) (by rw[e1,e2];exact l2)))
   ·rw[if_neg cq];have e:q=0:=by omega
    subst e;exact KW.mono (fun r h=>wk h) (jC f (by omega) (hf.succ (by omega)) (Dn.start O (hd.zero O) (by omega) c))
  ·rw[if_neg c];have c':=y4.mpr c;show KW lt _ (if lt (gA p (n-1)) (gA p n)=true then _ else _);by_cases d:lt (gA p (n-1)) (gA p n)=true
   ·rw[if_pos d];exact⟨Ze _,Nat.le_add_right _ _,hf,hd⟩
   ·rw[if_neg d];have d':=y4.mpr d;have gn:gA p n=n:=hf.hi n (Ze _) (by omega);have same:∀i,n-(q+1)<=i->i<n->lt (gA p i) (gA p n)=false/\lt (gA p n) (gA p i)=false:=fun i h1 h2=>by
     rcases ZY i (n-1)with h3|h3
     ·obtain⟨a1,a2,_⟩:=hd.eq i (n-1) h1 h3 (by omega);exact⟨O.tr d' a1,O.tr a2 c'⟩
     ·have e:i=n-1:=by omega
      subst e;exact⟨d',c'⟩
    refine KW.mono (fun r h=>⟨by omega,by omega,h.2.2.1,h.2.2.2⟩) (jC f (n:=n+1) (q:=q+1) (by omega) (hf.succ (by omega)) ⟨by omega,fun i j hij hj=>hd.up i j hij (by omega),fun i j hi h2 h3=>?_,fun i j h1 h2 h3=>?_⟩)
    ·rcases ZY j n with h4|h4
     ·exact hd.cr i j (by omega) (by omega) h4
     ·have e:j=n:=by omega
      subst e;exact O.le_lt d' (hd.cr i (j-1) (by omega) (by omega) (by omega))
    ·rcases ZY j n with h4|h4
     ·exact hd.eq i j (by omega) h2 h4
     ·have e:j=n:=by omega
      subst e;obtain⟨a1,a2⟩:=same i (by omega) h2;exact⟨a1,a2,by rw[gn];exact hf.lo _ h2⟩
theorem jS{p:Array Nat}{n:Nat}(h1:1<=n)(hN:n<N)(hf:Fx N p n)(ha:AS lt p n)(hl:lt (gA p n) (gA p (n-1))=true):KW lt (fun r=>r.1<=N/\1<=r.1/\Fx N r.2 r.1/\LS lt r.2 r.1) (kas_descPart n N p):=by
 refine KW.bind (KW.mono (fun r hr=>?_) (jC O (N:=N) (N-(n+1)) (by omega) (hf.succ hN) (Dn.start O ha h1 hl)));obtain⟨r1,r2,r3,r4⟩:=hr;show KW lt _ (if r.2.2>0 then _ else _);by_cases c:r.2.2>0
 ·rw[if_pos c];exact tL O (by omega) (by omega) (r3.rev (Ze _) (by omega)) (r4.rev O (by rw[r3.sz];omega))
 ·rw[if_neg c];have e:r.2.2=0:=by omega
  rw[e]at r4;exact tL O (by omega) (by omega) r3 (r4.zero O)
theorem qD{p:Array Nat}(hN:1<=N)(hf:Fx N p 1):KW lt (fun r=>r.1<=N/\1<=r.1/\Fx N r.2 r.1/\LS lt r.2 r.1) (kas_count N p):=by
 refine KW.bind (KW.mono (fun n hn=>?_) (qC O (N:=N) (N-1) 1 (Ze _) (by omega) hf (fun i j h1 h2=>absurd h1 (by omega))));obtain⟨n1,n2,nf,ns,nl⟩:=hn;show KW lt _ (if(n==N)=true then KasT.ret (n,p)else if n>1 then KasT.ask (gA p 0) (gA p (n-1)) (fun c=>if c=true then .ret (n,p)else kas_descPart n N (kas_rev p 0 n))else kas_descPart n N p);by_cases c:(n==N)=true
 ·rw[if_pos c];exact⟨by omega,n1,nf,ns⟩
 ·rw[if_neg c];have nN:n<N:=by have:n≠N:=fun z=>c (YY.mpr z);omega
  have hl:=nl (by omega);by_cases c2:n>1
  ·rw[if_pos c2];show KW lt _ (if lt (gA p 0) (gA p (n-1))=true then _ else _);by_cases c3:lt (gA p 0) (gA p (n-1))=true
   ·rw[if_pos c3];exact⟨by omega,n1,nf,ns⟩
   ·rw[if_neg c3];have c3':=y4.mpr c3;have hs:n<=p.size:=by rw[nf.sz];omega
    have le0:∀i,i<n->lt (gA p i) (gA p 0)=false:=fun i hi=>by
     rcases Nat.eq_zero_or_pos i with z|z
     ·subst z;cases e:lt (gA p 0) (gA p 0)with
      |false=>rfl
      |true=>rw[O.as e]at e;cases e
     ·exact(ns 0 i z hi).1
    have leN:∀i,i<n->lt (gA p (n-1)) (gA p i)=false:=fun i hi=>by
     rcases ZY i (n-1)with z|z
     ·exact(ns i (n-1) z (by omega)).1
     ·have e:i=n-1:=by omega
      subst e;cases e:lt (gA p (n-1)) (gA p (n-1))with
      |false=>rfl
      |true=>rw[O.as e]at e;cases e
    have all:∀i j,i<n->j<n->lt (gA p i) (gA p j)=false:=fun i j hi hj=>O.tr (leN j hj) (O.tr c3' (le0 i hi));refine jS O n1 nN (nf.rev (Ze _) (by omega)) (fun i j hij hj=>?_) ?_
    ·rw[cH hs,cH hs,if_pos (by omega),if_pos (by omega)];have z:=ns (0+n-1-j) (0+n-1-i) (by omega) (by omega);refine⟨all _ _ (by omega) (by omega),?_⟩;rcases z.2 with y|y
     ·rw[all _ _ (by omega) (by omega)]at y;cases y
     ·exact .inr y
    ·rw[cH hs,cH hs,if_neg (by omega),if_pos (by omega)];exact O.lt_le hl (all _ _ (by omega) (by omega))
  ·rw[if_neg c2];have e:n=1:=by omega
   subst e;exact jS O n1 nN nf (fun i j h1 h2=>absurd h1 (by omega)) hl
theorem iA{p:Array Nat}{k:Nat}(hs:LS lt p k):∀(f l r:Nat),r-l<=f->r<=k->(∀i,i<l->i<k->lt (gA p k) (gA p i)=false)->(∀i,r<=i->i<k->lt (gA p k) (gA p i)=true)->l<=r ->
  KW lt (fun m=>m<=k/\(∀i,i<m->lt (gA p k) (gA p i)=false)/\∀i,m<=i->i<k->lt (gA p k) (gA p i)=true) (kas_place p k f l r)
 |0,l,r,h1,h2,h3,h4,h5=>⟨by omega,fun i hi=>h3 i hi (by omega),fun i hi=>h4 i (by omega)⟩
 |f+1,l,r,h1,h2,h3,h4,h5=>by
  show KW lt _ (if l>=r then KasT.ret l else KasT.ask (gA p k) (gA p ((l+r) / 2)) fun c=>if c=true then kas_place p k f l ((l+r) / 2)else kas_place p k f ((l+r) / 2+1) r);by_cases c:l>=r
  ·rw[if_pos c];exact⟨by omega,fun i hi=>h3 i hi (by omega),fun i hi=>h4 i (by omega)⟩
  ·rw[if_neg c];show KW lt _ (if lt (gA p k) (gA p ((l+r) / 2))=true then _ else _);by_cases d:lt (gA p k) (gA p ((l+r) / 2))=true
   ·rw[if_pos d];refine iA hs f l ((l+r) / 2) (by omega) (by omega) h3 (fun i hi hk=>?_) (by omega);rcases Nat.eq_or_lt_of_le hi with e|e
    ·rw[<-e];exact d
    ·exact O.lt_le d (hs _ _ e hk).1
   ·rw[if_neg d];have d':=y4.mpr d;refine iA hs f ((l+r) / 2+1) r (by omega) h2 (fun i hi hk=>?_) h4 (by omega);rcases ZY i ((l+r) / 2)with e|e
    ·exact O.tr (hs _ _ e (by omega)).1 d'
    ·have e:i=(l+r) / 2:=by omega
     rw[e];exact d'
theorem xq:∀(f:Nat) {p:Array Nat} {k:Nat},k+f=N->1<=k->Fx N p k->LS lt p k->KW lt (fun p=>p.size=N/\LS lt p N) (kas_bin f p k)
 |0,p,k,e,_,hf,hs=>by
  have:k=N:=by omega
  subst this;exact⟨hf.sz,hs⟩
 |f+1,p,k,e,h1,hf,hs=>by
  refine KW.bind (KW.mono (fun m hm=>?_) (iA O hs k 0 k (by omega) (Ze _) (fun i hi=>absurd hi (by omega)) (fun i h2 h3=>absurd h2 (by omega)) (ZZ _)));obtain⟨m1,m2,m3⟩:=hm;have hk:k<p.size:=by rw[hf.sz];omega
  have gk:gA p k=k:=hf.hi k (Ze _) (by omega);have ekm:k-(k-m)=m:=by omega
  have gb:∀i,gA (bubble p k (k-m)) i=if i=m then gA p k else if m<i/\i<=k then gA p (i-1)else gA p i:=fun i=>by rw[wY hk (by omega),ekm]
  refine xq f (by omega) (by omega) ⟨by rw[bubble_size];exact hf.sz,fun i h2 h3=>?_,fun i hi=>?_⟩ (fun i j hij hj=>?_)
  ·rw[gb,if_neg (by omega),if_neg (by omega)];exact hf.hi i (by omega) h3
  ·rw[gb];split
   ·rw[gk];omega
   ·split
    ·have:=hf.lo (i-1) (by omega);omega
    ·have:=hf.lo i (by omega);omega
  ·have lk:∀i,i<m->Lx lt (gA p i) (gA p k):=fun i hi=>⟨m2 i hi,.inr (by rw[gk];exact hf.lo i (by omega))⟩
   have gt:∀i,m<=i->i<k->Lx lt (gA p k) (gA p i):=fun i h2 h3=>Lx.of_lt O (m3 i h2 h3);rw[gb,gb];by_cases a1:i=m
   ·rw[if_pos a1,if_neg (by omega),if_pos (by omega)];exact gt _ (by omega) (by omega)
   ·rw[if_neg a1];by_cases a2:m<i/\i<=k
    ·rw[if_pos a2,if_neg (by omega),if_pos (by omega)];exact hs _ _ (by omega) (by omega)
    ·rw[if_neg a2];by_cases b1:j=m
     ·rw[if_pos b1];exact lk i (by omega)
     ·rw[if_neg b1];by_cases b2:m<j/\j<=k
      ·rw[if_pos b2];exact hs _ _ (by omega) (by omega)
      ·rw[if_neg b2];exact hs _ _ hij (by omega)
theorem BG(hN:1<=N):KW lt (fun p=>p.size=N/\LS lt p N) (kas_sort N):=by
 have f0:Fx N (List.toArray (List.range N)) 1:=by
  have g:∀k,k<N->gA (List.toArray (List.range N)) k=k:=fun k hk=>by rw[gj];simp[hk]
  refine⟨by simp,fun k _ hk=>g k hk,fun i hi=>?_⟩;have e:i=0:=by omega
  subst e;rw[g 0 (by omega)];decide
 refine KW.bind (KW.mono (fun r hr=>?_) (qD O hN f0));obtain⟨r1,r2,r3,r4⟩:=hr;show KW lt _ (if r.1<N then kas_bin (N-max r.1 1) r.2 (max r.1 1)else .ret r.2);have e:max r.1 1=r.1:=by omega
 rw[e];by_cases c:r.1<N
 ·rw[if_pos c];exact xq O _ (by omega) r2 r3 r4
 ·rw[if_neg c];have e:r.1=N:=by omega
  rw[e]at r3 r4;exact⟨r3.sz,r4⟩
end
open PySem PySem.Spec PyProof.Rows PySem.W
def Ite(K:PySem.W.Frag)(a:Addr)(xs:List V):It :=
 ⟨fun i H=>i<xs.length/\SqL K H a xs,fun i H x H'=>∃T p,H T=none/\xs[i]?=some p/\x=.ref T/\H'=upd H T (.tup [.int i,p]),fun i H=>i=xs.length/\SqL K H a xs⟩
abbrev eTn(e it a:Addr):Nat->Heap->Prop:=fun i h=>(∃old,IsEnum h e it i old)/\h.IsListIter it a i
theorem yw{P:Program}{w:World}{K:PySem.W.Frag}{elts:List Expr}{kt:Nat}{tp:Pos}{e it a:Addr}{xs:List V}(ne:e≠it)(ha:e≠a/\it≠a) :
  Turn P w K (.Tuple elts kt tp) (Ite K a xs) [e,it] e (eTn e it a):=by
 refine⟨by simp,fun i h st c hc=>?_,fun i h h' st k=>?_,?_,?_,fun A i s Q E st h=>?_⟩
 ·obtain⟨⟨old,e1⟩,⟨o4,e4,_,d4⟩⟩:=st;simp only[Zs,ZX,YH]at hc;rcases hc with rfl|rfl
  ·exact⟨_,e1,fun v z=>nomatch z⟩
  ·exact⟨_,e4,fun v z=>by rw[d4]at z;cases z⟩
 ·obtain⟨⟨old,e1⟩,⟨o4,e4,r4⟩⟩:=st;exact⟨⟨old,k e (by simp) _ e1⟩,⟨o4,k it (by simp) _ e4,r4⟩⟩
 ·intro X hP hw hK hc i pins s σ H E I hf st hg;subst hP hw hK;obtain⟨⟨old,e1⟩,e4⟩:=st;obtain⟨hi,hx⟩:=hg;obtain⟨its,rx,px,zx⟩:=I.list hx;have lx:i<its.toArray.size:=by rw[Zh,<-rx.length];exact hi
  have hh:=I.ok.hd hc;refine wpAny_pyNext_enum_itemD (Draws.list (A:=X.A.in1) hh it a ha.2.symm its.toArray) e1 ⟨e4,px.isList⟩ lx ne (by simp[ne,ha.1]) fun x h' tk qx ho hs' hT hsz hk=>?_;refine⟨_,rfl,wpAny_letOwnedTupleGo_enum (s:={ s with heap:=h',toks:=tk+1 }) ho fun h2 he2 sb=>?_⟩;obtain⟨xv,ex⟩:∃xv,xs[i]?=some xv:=⟨xs[i],by simp[hi]⟩
  obtain⟨x',gx,rxv⟩:=rx.get ex;have qx':its[i]?=some x:=by simpa using qx
  rw[gx]at qx';cases qx';have lte:e<s.heap.objs.size:=Zo e1;have kp2:∀c o,c∉[e,it]->s.heap.get? c=some o->h2.get? c=some o:=fun c o hc q=>by simp only[Zs,ZX,YH,not_or]at hc;exact sb.extBut c o hc.1 (hk c o hc.1 hc.2 q)
  have tT:IsTup h2 s.heap.objs.size [.int i tk,x].toArray:=⟨_,sb.extBut _ _ (Yh lte) hT,rfl,_,rfl⟩
  refine⟨.ref s.heap.objs.size,upd H s.heap.objs.size (.tup [.int i,xv]),I.turnT (t':=tk+1) hf kp2 tT (.cons ⟨tk,rfl⟩ (.cons rxv .nil)) (sz rfl),rfl,⟨_,xv,I.hok.fresh (Ze _),ex,rfl,rfl⟩,?_,fun c hc=>?_⟩
  ·exact⟨⟨_,by simpa using he2⟩,hs'.1.extBut sb.extBut ne.symm⟩
  ·rw[af]
   ·exact(hf c hc).1
   ·obtain⟨o,eo⟩:∃o,s.heap.get? c=some o:=by
     simp only[Zs,ZX,YH]at hc;rcases hc with rfl|rfl
     ·exact⟨_,e1⟩
     ·obtain⟨o,eo,_⟩:=e4;exact⟨o,eo⟩
    exact ZB (Zo eo)
 ·intro X hP hw hK hc i pins s σ H E I hf st hg;subst hP hw hK;obtain⟨⟨old,e1⟩,e4⟩:=st;obtain⟨rfl,hx⟩:=hg;obtain⟨its,rx,px,zx⟩:=I.list hx;have lx:its.toArray.size=xs.length:=by rw[Zh,<-rx.length]
  have hh:=I.ok.hd hc;refine wpAny_pyNext_enum_endD (Draws.list (A:=X.A.in1) hh it a ha.2.symm its.toArray) e1 ⟨by rw[lx];exact e4,px.isList⟩ fun h' kp=>⟨rfl,?_⟩
  exact I.turnM (t':=s.toks) hf fun c ob hc q=>by simp only[Zs,ZX,YH,not_or]at hc;exact kp c ob hc.2 q
 ·obtain⟨⟨old,e1⟩,_⟩:=st;exact wpAny_pyIter_enum e1 h
def AQ(K:PySem.W.Frag)(ta:TA):TI:=fun σ H R=>ta σ H fun vs H1=>∃a xs,vs=[.ref a]/\H1 a=some (.lst xs)/\R (Ite K a xs) H1
section
variable{X:Cx}
theorem B7{e1:Expr}{ta:TA}{p pos tp:Pos}{elts:List Expr}{kt:Nat}(hg:Gl X "enumerate")(hm:X.mg "enumerate" = none)(ha:PA X [e1] ta)(n1:aV e1=true):PI X (.Tuple elts kt tp) (.Call (.Name "enumerate" p) [e1] [] pos) (AQ X.K ta):=by
 intro pins s σ H R I h;refine Call_ (dS I hg hm boot_enumerate (YM (thn (ha pos pins s σ H _ I h) fun us s1 hz9=>?_) (aZ n1) (bI (by simp))));obtain⟨vs,H1,I1,r1,q1⟩:=hz9;obtain⟨a,xs,e,hx,q⟩:=q1;subst e;obtain⟨ua,rfl,ra⟩:=cu r1;cases ra;obtain⟨z,its,n,rx,hl',eo⟩:=I1.lstM hx;have la:a<s1.heap.objs.size:=Zo eo;refine call_enumerate_1 eo fun h' he hl hz hk=>wpAny_pyIter_enum he ?_;refine⟨s1.heap.objs.size+1,[s1.heap.objs.size+1,s1.heap.objs.size],eTn (s1.heap.objs.size+1) s1.heap.objs.size a,_,H1,rfl,I1.kept (t':=s1.toks) hk,yw (Nat.succ_ne_self _) ⟨Yh (x6 la),Yh la⟩,⟨⟨_,he⟩,hl⟩,fun c hc=>?_,q⟩;have hc':s1.heap.objs.size<=c:=by
  simp only[Zs,ZX,YH]at hc;rcases hc with rfl|rfl
  ·exact Nat.le_succ _
  ·exact Ze _
 exact I1.fpOk hc' (I1.hok.fresh hc')
theorem C0{e1:Expr}{ta:TA}{p pos tp:Pos}{elts:List Expr}{kt:Nat}(hm:X.mg "enumerate" = none)(ha:QA X [e1] ta)(hg:Gl X "enumerate":=by rfl)(n1:aV e1=true:=by rfl):QI X (.Tuple elts kt tp) (.Call (.Name "enumerate" p) [e1] [] pos) (AQ X.K ta):=⟨B7 hg hm ha.h n1⟩
end
theorem yZ{K:PySem.W.Frag}{a:Addr}{xs:List V}{i j:Nat}{tb:TS}{D:Ends}{σ:St}{H:Hp}(Pv:Nat->St->Hp->Prop)(h0:Pv 0 σ H)(ha:∀i σ H,i<=xs.length->Pv i σ H->SqL K H a xs)(hs:∀k x σ H,xs[k]?=some x->Pv k σ H->∀T,H T=none->tb { D with nx:=Pv (k+1),ct:=Pv (k+1),bk:=D.nx } ((σ.set i (some (.int k))).set j (some x)) (upd H T (.tup [.int k,x])))(hd:∀σ H,Pv xs.length σ H->D.nx σ H) :
  ∃W:Nat->Nat->St->Hp->Prop,(∃m,W 0 m σ H)/\∀k m σ H,W k m σ H ->
   ((Ite K a xs).stop k H/\D.nx σ H)\/((Ite K a xs).go k H/\∃N:St->Hp->Prop,(∀σ' H',N σ' H'->∃m',m'<m/\W (k+1) m' σ' H')/\∀x H',(Ite K a xs).yld k H x H'->iW K 2 (dv (bG i) (dv (bG j) iV)) x σ H' fun σ2 H2=>tb { D with nx:=N,ct:=N,bk:=D.nx } σ2 H2):=by
 refine⟨fun k m σ H=>m=xs.length-k/\k<=xs.length/\Pv k σ H,⟨xs.length,by simp,ZZ _,h0⟩,?_⟩;rintro k m σ H ⟨rfl,hk,pv⟩;by_cases hlt:k<xs.length
 ·refine .inr ⟨⟨hlt,ha k σ H hk pv⟩,Pv (k+1),fun σ' H' z=>⟨xs.length-(k+1),by omega,rfl,hlt,z⟩,fun x H' y=>?_⟩;obtain⟨T,p,hT,hx,rfl,rfl⟩:=y;exact⟨T,[.int k,p],rfl,SqT.of ad,rfl,.int k,[p],rfl,p,[],rfl,rfl,hs k p σ H hx pv T hT⟩
 ·have e:k=xs.length:=by omega
  subst e;exact .inl ⟨⟨rfl,ha _ σ H hk pv⟩,hd σ H pv⟩
open PySem PySem.Spec PyProof.Rows PySem.W
theorem tH{α:Type}{n:Nat}{lt:Nat->Nat->Bool}{P R:α->Prop}{cmp:Nat->Nat->(Bool->Shared->Prop)->Shared->Prop}{Q:α->Shared->Prop}{s:Shared}(hc:∀i j C,i<n->j<n->C (lt i j) s->cmp i j C s)(hq:∀a,P a->R a->Q a s):∀{t:KasT α},KIn n P t->KW lt R t->t.kasWp cmp Q s
 |.ret _,h,k=>hq _ h k
 |.ask i j c,⟨h1,h2,h3⟩,k=>hc _ _ _ h1 h2 (tH hc hq (t:=c (lt i j)) (h3 _) k)
section
variable{X:Cx}{pins:List (Addr×Obj)}{σ:St}{H:Hp}{s:Shared}{h':Heap}
theorem Inv.movedF{ch:List Addr}{t':Nat}(I:Inv X pins σ H s)(hch:∀b∈ch,bz X pins H b)(k:∀b u,b≠X.env.locals->b∉ch->s.heap.get? b=some u->h'.get? b=some u)(hn:∃m,s.heap.Ns X.env.locals m/\h'.Ns X.env.locals m):Inv X pins σ H { s with heap:=h',toks:=t' }:=by
 have neL:∀{b:Addr} {u:HO},H b=some u->b≠X.env.locals:=fun{b u} e=>am e I.free;have neC:∀{b:Addr} {u:HO},H b=some u->b∉ch:=fun{b u} e z=>by have:=(hch b z).1;rw[e]at this;cases this
 refine I.step (g':=s.gens) (d':=s.drawn) (ch:=ch) (fun b hb=>⟨(hch b hb).2.2.2.1,(hch b hb).2.1,(hch b hb).2.2.2.2.1,(hch b hb).2.2.2.2.2⟩) (fun b o hL _ hc e _=>k b o hL hc e) (fun b o hL _ hc e _=>⟨o.slots,k b o hL hc e⟩) (fun b o _ e n=>n) (fun b o hc e=>?_)
  (fun b xs e=>e) (fun b o u e=>e) (fun b ps e=>⟨#[],by rw[e];simp⟩) (fun m' hm'=>?_) (fun b u e=>?_) I.bare
 ·by_cases hL:b=X.env.locals
  ·obtain⟨m,_,o',_,_,e',_⟩:=hn;exact⟨o',by rw[hL];exact e'⟩
  ·exact⟨o,k b o hL hc e⟩
 ·obtain⟨m,h1,h2⟩:=hn;rw[hm'.eq_nsMap,<-h1.eq_nsMap];exact h2
 ·refine(I.hok b u e).stay (fun c v hc q=>k c v ?_ ?_ q) (fun c q=>q) fun c ys q=>q
  ·rcases hc with z|z
   ·rw[z];exact neL e
   ·exact neL z
  ·rcases hc with z|z
   ·rw[z];exact neC e
   ·exact neC z
theorem Inv.tookF{ch:List Addr}{a:Addr}{o:HO}{t':Nat}(I:Inv X pins σ H s)(ha:a∈ch)(hch:∀b∈ch,bz X pins H b)(k:∀b u,b≠X.env.locals->b∉ch->s.heap.get? b=some u->h'.get? b=some u)(hn:∃m,s.heap.Ns X.env.locals m/\h'.Ns X.env.locals m)(new:ObjOk X.prog X.w (upd H a o) h' a o):Inv X pins σ (upd H a o) { s with heap:=h',toks:=t' }:=by
 have fr:=(hch a ha).1;have ne:∀{b:Addr} {u:HO},H b=some u->b≠a:=fun{b u} e=>am e fr;have neL:∀{b:Addr} {u:HO},H b=some u->b≠X.env.locals:=fun{b u} e=>am e I.free;have neC:∀{b:Addr} {u:HO},H b=some u->b∉ch:=fun{b u} e z=>by have:=(hch b z).1;rw[e]at this;cases this
 refine I.step (g':=s.gens) (d':=s.drawn) (ch:=ch) (fun b hb=>⟨(hch b hb).2.2.2.1,(hch b hb).2.1,(hch b hb).2.2.2.2.1,(hch b hb).2.2.2.2.2⟩) (fun b o hL _ hc e _=>k b o hL hc e) (fun b o hL _ hc e _=>⟨o.slots,k b o hL hc e⟩) (fun b o hc e n=>by rw[af (fun z:b=a=>hc (by rw[z];exact ha))];exact n) (fun b o hc e=>?_)
  (fun b xs e=>by rw[af (ne e)];exact e) (fun b o u e=>by rw[af (ne e)];exact e) (fun b ps e=>⟨#[],by rw[af (ne e),e];simp⟩) (fun m' hm'=>?_) (fun b u e=>?_) I.bare
 ·by_cases hL:b=X.env.locals
  ·obtain⟨m,_,o',_,_,e',_⟩:=hn;exact⟨o',by rw[hL];exact e'⟩
  ·exact⟨o,k b o hL hc e⟩
 ·obtain⟨m,h1,h2⟩:=hn;rw[hm'.eq_nsMap,<-h1.eq_nsMap];exact h2
 ·by_cases hb:b=a
  ·subst hb;rw[ad]at e;cases e;exact new
  ·rw[af hb]at e;refine(I.hok b u e).stay (fun c v hc q=>k c v ?_ ?_ q) (fun c q=>by rw[af (ne q)];exact q) fun c ys q=>by rw[af (ne q)];exact q
   ·rcases hc with z|z
    ·rw[z];exact neL e
    ·exact neL z
   ·rcases hc with z|z
    ·rw[z];exact neC e
    ·exact neC z
def fN(base h:Heap)(L kS:Addr):List (Addr×Obj):=(lX base h L).filter fun p=>decide (p.1≠kS)
theorem fW{base h:Heap}{L kS:Addr}{o:Obj}(e:h.get? kS=some o)(hL:kS≠L)(hb:base.get? kS=none):News base L h ((kS,o)::fN base h L kS):=fun p hp=>by
 rcases Zs.mp hp with rfl|hp
 ·exact⟨e,hL,hb⟩
 ·exact gG base h L p (Zn.mp hp).1
theorem iF{base h:Heap}{L kS:Addr}:∀p∈fN base h L kS,p.1≠kS:=fun p hp=>ZJ (Zn.mp hp).2
theorem fV{base h h2:Heap}{L kS:Addr}{o':Obj}{m:Str->Option Value}(hbk:∀b o,base.get? b=some o->h.get? b=some o)(F:Fr base L h2 m)(N:News base L h2 ((kS,o')::fN base h L kS)):∀b u,b≠L->b∉[kS]->h.get? b=some u->h2.get? b=some u:=fun b u hL hk e=>by
 cases q:base.get? b with
 |none=>exact(N (b,u) (.tail _ (Zn.mpr ⟨cF e hL q,decide_eq_true (fun z=>hk (Zm.mpr z))⟩))).1
 |some o =>have e':=hbk b o q;rw[e]at e';cases e';exact F.keep b u q
structure SK(X:Cx)(pins:List (Addr×Obj))(σ:St)(H1:Hp)(m:Str->Option Value)(kS D:Addr)(e1:Nat)(ks:List (List Int))(as:List Addr)(e:Nat)(H:Hp)(s:Shared):Prop where
 I:Inv X pins σ H s
 sm:Same H1 H
 fk:bz X pins H kS
 fd:bz X pins H D
 bk:X.base.get? kS=none
 bd:X.base.get? D=none
 hk:s.heap.get? kS=some (seqObj "list" (List.toArray (as.map Value.ref)) e)
 hd:s.heap.get? D=some (seqObj "list" #[] e1)
 ns:s.heap.Ns X.env.locals m
 keys:∀(i:Nat) (a:Addr) (k:List Int),as[i]?=some a->ks[i]?=some k->H a=some (.tup (k.map V.int))
end
open PySem PySem.Spec PyProof.Rows PySem.W
theorem xt:∀{a b:List Int},HT.lexLt a b=true->HT.lexLt b a=false
 | [],[],h=>by cases h
 | [],_::_,_=>rfl
 |_::_,[],h=>by cases h
 |x::a,y::b,h=>by
  rw[HT.lexLt_cons]at h ⊢;by_cases e:x=y
  ·subst e;rw[if_pos rfl]at h ⊢;exact xt h
  ·rw[if_neg e]at h;rw[if_neg (fun z=>e z.symm)];have:=ZJ h;exact decide_eq_false (by omega)
theorem xw:∀{a b c:List Int},HT.lexLt b a=false->HT.lexLt c b=false->HT.lexLt c a=false
 | [],[],[],_,_=>rfl
 | [],[],_::_,_,_=>rfl
 | [],_::_,[],_,h=>by cases h
 | [],_::_,_::_,_,_=>rfl
 |_::_,[],_,h,_=>by cases h
 |_::_,_::_,[],_,h=>by cases h
 |x::a,y::b,z::c,h,k=>by
  rw[HT.lexLt_cons]at h k ⊢;by_cases e:y=x
  ·subst e;rw[if_pos rfl]at h;by_cases e2:z=y
   ·rw[if_pos e2]at k ⊢;exact xw h k
   ·rw[if_neg e2]at k ⊢;exact k
  ·rw[if_neg e]at h;have h':=of_decide_eq_false h;by_cases e2:z=y
   ·rw[if_neg (by omega)];exact decide_eq_false (by omega)
   ·rw[if_neg e2]at k;have k':=of_decide_eq_false k;rw[if_neg (by omega)];exact decide_eq_false (by omega)
theorem xu(ks:List (List Int)):LtOk (fun i j=>HT.lexLt (ks.getD i []) (ks.getD j [])):=⟨xt,xw⟩
section
variable{X:Cx}{pins:List (Addr×Obj)}{σ:St}{H:Hp}{s:Shared}
def wX(X:Cx)(l:List Addr):Cx:={ X with ex:=l++X.ex }
structure ExOk(X:Cx)(b:Addr):Prop where
 old:b∈X.ex\/X.s₀.heap.get? b=none
 loc:b≠X.env.locals
 cel:∀x c,X.env.cells.lookup x=some c->c≠b
 bas:X.base.get? b=none
 fs:b∉X.fs
theorem Inv.widen{l:List Addr}(I:Inv X pins σ H s)(hl:∀b∈l,ExOk X b):Inv (wX X l) pins σ H s:=by
 have ok:(wX X l).Ok:=by
  have o:=I.ok;refine⟨o.mod,o.kind,o.glob,o.blt,o.above,o.inj,o.has,o.cab,o.hd,o.frames,o.stk,fun b hb=>?_,o.bs,o.bsz,fun b ob hb z=>?_,fun b hb=>?_,o.funs,o.frf⟩
  ·rcases Zu.mp hb with h|h
   ·exact⟨(hl b h).loc,(hl b h).cel⟩
   ·exact o.exf b h
  ·rcases Zu.mp z with h|h
   ·have hb':X.base.get? b=some ob:=hb;rw[(hl b h).bas]at hb';cases hb'
   ·exact o.noex b ob hb h
  ·rcases Zu.mp hb with h|h
   ·exact(hl b h).fs
   ·exact o.exfs b h
 have ne:∀{b:Addr},b∉l++X.ex->b∉X.ex:=fun h z=>h (Zz _ z);have u:=I.base;exact⟨ok,I.os,I.bare,⟨fun b o e n hb hx=>u.keep b o e n hb (ne hx),fun b o e n hb hx=>u.slot b o e n hb (ne hx),fun b o e n hx=>u.free b o e n (ne hx),fun b o e hx=>u.there b o e (ne hx),u.tups,u.frzs,u.tbls⟩,I.loc,I.cell,I.free,I.freeC,I.pin,I.hok,I.len⟩
theorem Inv.narrow{l:List Addr}(I:Inv (wX X l) pins σ H s)(ok:X.Ok)(hl:∀b∈l,b∈X.ex\/X.s₀.heap.get? b=none):Inv X pins σ H s:=by
 have ne:∀{b:Addr} {o:Obj},X.s₀.heap.get? b=some o->b∉X.ex->b∉l++X.ex:=fun{b o} e h z=>by
  rcases Zu.mp z with z|z
  ·rcases hl b z with y|y
   ·exact h y
   ·rw[y]at e;cases e
  ·exact h z
 have u:=I.base;exact⟨ok,I.os,I.bare,⟨fun b o e n hb hx=>u.keep b o e n hb (ne e hx),fun b o e n hb hx=>u.slot b o e n hb (ne e hx),fun b o e n hx=>u.free b o e n (ne e hx),fun b o e hx=>u.there b o e (ne e hx),u.tups,u.frzs,u.tbls⟩,I.loc,I.cell,I.free,I.freeC,I.pin,I.hok,I.len⟩
theorem Inv.exOk(I:Inv X pins σ H s){b:Addr}(hb:s.heap.get? b=none)(hL:b≠X.env.locals)(h0:X.base.get? b=none):ExOk X b:=by
 have old:b∈X.ex\/X.s₀.heap.get? b=none:=by
  by_cases hx:b∈X.ex
  ·exact .inl hx
  ·cases e:X.s₀.heap.get? b with
   |none=>exact .inr rfl
   |some o =>obtain⟨o',e'⟩:=I.base.there b o e hx;rw[hb]at e';cases e'
 refine⟨old,hL,fun x c e z=>?_,h0,fun z=>?_⟩
 ·obtain⟨v,o,ho,_⟩:=I.cell x c e;rw[z,hb]at ho;cases ho
 ·obtain⟨_,o,ho,_⟩:=I.ok.funs.mem z;rcases old with y|y
  ·exact I.ok.exfs b y z
  ·rw[y]at ho;cases ho
theorem Inv.fpW{l:List Addr}(I:Inv X pins σ H s){b:Addr}(hm:b∈l)(x:ExOk X b)(hb:s.heap.get? b=none):bz (wX X l) pins H b:=by refine⟨none_of I hb,x.loc,x.fs,.inl (ZM _ hm),x.cel,fun p hp z=>?_⟩;have:=(I.pin p hp).1;rw[z,hb]at this;cases this
theorem qA{ks:List (List Int)}(I:Inv X pins σ H s)(hk:∀k∈ks,k≠[]):∀(as:List Addr) (n:Nat),n+as.length=ks.length->(∀(i:Nat) (a:Addr) (k:List Int),as[i]?=some a->ks[n+i]?=some k->H a=some (.tup (k.map V.int)))->∃fs:List Value,KatTups s.heap (as.map Value.ref) fs/\fs.length=as.length/\∀v∈fs,∃i t,v=.int i t
 | [],_,_,_=>⟨[],KatTups.nil,rfl,fun v h=>nomatch h⟩
 |a::as,n,hl,h=>by
  rw[Zt]at hl;have hkn:ks[n]?=some (ks[n]'(by omega)):=Zb (by omega);have hne:=hk _ (ZC (show n<ks.length by omega));generalize ks[n]'(by omega)=k at hkn hne;have ea:=h 0 a k rfl (by rw[Nat.add_zero];exact hkn);obtain⟨ia,ra,pa,za⟩:=I.tuple (SqT.of (K:=X.K) ea);obtain⟨oa,eo,ca,n1,da⟩:=id pa;obtain⟨x,t,ia',rfl⟩:∃x t r,ia=.int x t::r:=by
   cases cE ra with
   |nil=>exact absurd rfl hne
   |cons x t r=>exact⟨x,t,_,rfl⟩
  obtain⟨fs,f1,f2,f3⟩:=qA I hk as (n+1) (by omega) (fun i b k' h1 h2=>h (i+1) b k' h1 (by rw[show n+(i+1)=n+1+i by omega];exact h2));refine⟨.int x t::fs,KatTups.cons eo ca da rfl f1,by rw[Zt,Zt,f2],fun v hv=>?_⟩;rcases Zs.mp hv with rfl|hv
  ·exact⟨_,_,rfl⟩
  ·exact f3 v hv
end
open PySem PySem.Spec PyProof.Rows PySem.W
section
variable{X:Cx}{o i value:Expr}{pos pos':Pos}{td ty tv:TE}
theorem vF:QE X (.Dict [] [] pos) yp:=⟨zS⟩
theorem qV(hu:X.A.units+64<cLine)(ho:QE X o td)(hi:QE X i ty)(hs:yK i:=by intro _ _;rfl):QE X (.Subscript o i pos) (Be td ty):=⟨BZ (by omega) ho.h hi.h hs⟩
theorem A4(hu:X.A.units+64<cLine)(hi:QE X i ty)(ho:QE X o td)(hm:behindInMarks .In o=false:=by with_unfolding_all rfl):QE X (.Compare i [.In] [o] pos) (Au ty td):=⟨Dz (xM (by omega) hi.h ho.h) hm⟩
theorem FB(hu:X.A.units+64<cLine)(hi:QE X i ty)(ho:QE X o td)(hm:behindInMarks .In o=false:=by with_unfolding_all rfl):QT X (.Compare i [.In] [o] pos) (tB (Au ty td)):=⟨xS (xM (by omega) hi.h ho.h) hm⟩
theorem kL(hu:X.A.units+64<cLine)(hi:QE X i ty)(ho:QE X o td)(hm:behindInMarks .NotIn o=false:=by with_unfolding_all rfl):QT X (.Compare i [.NotIn] [o] pos) (tB (uk ty td)):=⟨xS (xN (by omega) hi.h ho.h) hm⟩
theorem hM(hu:X.A.units+64<cLine)(ho:QE X o td)(hi:QE X i ty)(hv:QE X value tv)(hs:swapsWith value (some (.Subscript o i pos')) pos.line X.env=pure false:=by rfl):QS X (.Assign [.Subscript o i pos'] value pos) (A9 td ty tv):=⟨Cb (by omega) ho.h hi.h hv.h hs⟩
end
open PySem PySem.Spec PyProof.Rows PySem.W
open PySem PySem.Spec PyProof.Rows PySem.W
open PySem PySem.Spec PyProof.Rows PySem.W
open Classical in
noncomputable def iS(h:Heap)(dx:PyData)(u:Value):Bool:=decide (∃d as,Reads h u d as/\PyData.canLay0 d=true/\PyData.eqv d dx=true)
open Classical in
theorem mO{h:Heap}{dx d:PyData}{u:Value}{as:List Addr}(r:Reads h u d as)(hl:d.canLay0=true):iS h dx u=PyData.eqv d dx:=by
 unfold iS;cases e:PyData.eqv d dx with
 |true=>exact decide_eq_true ⟨d,as,r,hl,e⟩
 |false =>refine decide_eq_false ?_;rintro⟨d',as',r',l',e'⟩;rw[SeqAt.Reads.unique d d' u as as' hl r r',e']at e;cases e
section
variable{P:Program}{w:World}{H:Hp}{h:Heap}
theorem ik(ok:HOk P w H h):∀{ds:List PyData} {xs:List V} {us:List Value},DtAll H ds xs->Vals xs us->PyData.canLayAll0 ds=true->∀dx:PyData,us.any (iS h dx)=ds.any (fun d=>PyData.eqv d dx)/\us.countP (iS h dx)=ds.countP (fun d=>PyData.eqv d dx)/\∀u∈us,∃d as,d∈ds/\Reads h u d as/\d.canLay0=true
 | [],xs,us,hd,r,_,dx=>by
  have e:xs=[]:=by simpa only[DtAll]using hd
  subst e;cases r;exact⟨rfl,rfl,fun u hu=>nomatch hu⟩
 |d::ds,xs,us,hd,r,hl,dx=>by
  have e:∃y ys,xs=y::ys/\Dt H d y/\DtAll H ds ys:=by simpa only[DtAll]using hd
  obtain⟨y,ys,rfl,h1,h2⟩:=e;cases r with
  |cons r1 r2 =>
   have hl':d.canLay0=true/\PyData.canLayAll0 ds=true:=by simpa[PyData.canLayAll0]using hl
   obtain⟨as,q1⟩:=Dt.reads ok d y _ h1 r1;obtain⟨i1,i2,i3⟩:=ik ok h2 r2 hl'.2 dx;refine⟨by rw[List.any_cons,List.any_cons,mO q1 hl'.1,i1],by rw[List.countP_cons,List.countP_cons,mO q1 hl'.1,i2],fun u hu=>?_⟩;rcases Zs.mp hu with rfl|hu
   ·exact⟨d,as,by simp,q1,hl'.1⟩
   ·obtain⟨d',as',m,z⟩:=i3 u hu;exact⟨d',as',by simp[m],z⟩
end
section
variable{X:Cx}
def Af(K:PySem.W.Frag)(neg:Bool):R2:=fun x y H Q=>∃(p:Addr) (xs:List V) (dx:PyData) (ds:List PyData),y=.ref p/\SqL K H p xs/\Dt H dx x/\DtAll H ds xs/\SeqAt.shaped dx=true/\PyData.canLayAll0 ds=true/\Q (.bl (if neg then !(ds.any fun d=>PyData.eqv d dx)else ds.any fun d=>PyData.eqv d dx)) H
theorem wL{pins:List (Addr×Obj)}{σ:St}{H:Hp}{s:Shared}{A:Around}{dx:PyData}{x:V}{v:Value}{ds:List PyData}{xs:List V}{us:List Value}(I:Inv X pins σ H s)(hu:A.units+64<cLine)(h1:Dt H dx x)(rx:RelV x v)(h2:DtAll H ds xs)(r:Vals xs us)(s1:SeqAt.shaped dx=true)(s2:PyData.canLayAll0 ds=true):∀u∈us,SeqAt.EqAt A s u v (iS s.heap dx u):=fun u hu'=>by obtain⟨_,_,z⟩:=ik I.hok h2 r s2 dx;obtain⟨d,as,_,q1,q2⟩:=z u hu';obtain⟨bs,q3⟩:=Dt.reads I.hok dx x v h1 rx;rw[mO q1 q2];refine SeqAt.eqAt_reads d dx A s u v as bs q1 q3 q2 (SeqAt.canLay_of_shaped s1) ?_;have d1:=SeqAt.depth_of_shaped s1;have d2:min d.depth dx.depth<=dx.depth:=Nat.min_le_right _ _;omega
theorem xJ(hu:X.A.in1.units+64<cLine):OpR X (compareOp .NotIn) (Af X.K true):=by intro pins s σ H x y v u Q I rx ry h;obtain⟨p,xs,dx,ds,rfl,hq,h1,h2,s1,s2,q⟩:=h;cases ry;obtain⟨its,r,pl,hz⟩:=I.list hq;refine SeqAt.notIn_listAt (iS s.heap dx) pl.isList (fun w hw=>wL I hu h1 rx h2 r s1 s2 w (by simpa using hw)) ⟨.bl _,H,I,rfl,?_⟩;rw[show its.toArray.any (iS s.heap dx)=its.any (iS s.heap dx) by simp,(ik I.hok h2 r s2 dx).1];exact q
theorem zH{k:Nat}(hr:Room k X.A):QOp X (compareOp .NotIn) (Af X.K true):=⟨xJ (by have:=hr.un;show X.A.units+_+64<_;omega)⟩
end
open PySem PySem.Spec PyProof.Rows PySem.W
section
variable{X:Cx}
structure QPs(X:Cx)(pos:Pos)(keys:List (Option Expr))(values:List Expr)(trs:List (TE×TE)):Prop where
 h:PPs X pos keys values trs
end
open PySem PySem.Spec PyProof.Rows PySem.W
open PySem PySem.Spec PyProof.Rows PySem.W
structure MFn(P:Program)(w:World)(K:PySem.W.Frag)(mg:Str->Option Value)(base:Heap)(k:Nat)(C:Addr)(m:Str)(ps:List Str)(sp:Sp):Prop where
 cl:Cls K C
 ex:∃f fd,FnOk P w K mg base CX0 k f fd ps sp/\Meth K C m f/\Binds K fd ps []
structure MkFn(P:Program)(w:World)(K:PySem.W.Frag)(mg:Str->Option Value)(base:Heap)(k:Nat)(C:Addr)(x:Str)(ps:List Str)(sp:Sp):Prop where
 cl:Cls K C
 mgC:mg x=some (.ref C)
 ex:∃f fd,FnOk P w K mg base CX0 k f fd ps sp/\Mk K C f/\Binds K fd ps []
section
variable{X:Cx}{k:Nat}{C:Addr}{m x f:Str}{p pos pos' apos:Pos}{o e value:Expr}{es:List Expr}{ps:List Str}{sp:Sp}{t:TA}{ta tv:TE}
theorem gw(he:QE X e ta)(hb:attributeBase e f X.env (eval e X.env)=eval e X.env:=by rfl):QE X (.Attribute e f pos) (Av X.K ta f):=⟨DA he.h hb⟩
theorem Bb(ha:QE X o ta)(hv:QE X value tv)(hs:swapsWith value (some (.Attribute o f pos')) pos.line X.env=pure false:=by rfl):QS X (.Assign [.Attribute o f pos'] value pos) (En X.K ta tv f):=⟨DX ha.h hv.h hs⟩
theorem lU{pl:Sem Bool}(F:MFn X.prog X.w X.K X.mg X.base k C m ps sp)(hr:Room k X.A)(he:QE X o ta)(ha:QA X (e::es) t)(hs:(e::es).all aV=true:=by rfl)(ht:eval (.Call (.Attribute o m apos) (e::es) [] pos) X.env=(do
   let ov ←eval o X.env
   standAt apos.atName
   let(f,first) ←holding [ov] (getMethod ov m pl)
   callWith pos f first (backTo pos (starEach (e::es) X.env)) (backToKw pos (keywordEach [] X.env))):=by rfl) :
  QE X (.Call (.Attribute o m apos) (e::es) [] pos) (pK C m sp [] E0 ta t):=by
 obtain⟨f,fd,G,hm,b⟩:=F.ex;rw[List.all_cons,ZN]at hs;exact⟨B4 (pl:=pl) he.h F.cl hm G hr b .nil pF ha.h (aZ hs.1) (bI hs.2) ht⟩
theorem cY{pl:Sem Bool}(F:MFn X.prog X.w X.K X.mg X.base k C m ps sp)(hr:Room k X.A)(he:QE X o ta)(ht:eval (.Call (.Attribute o m apos) [] [] pos) X.env=(do
   let ov ←eval o X.env
   standAt apos.atName
   let(f,first) ←holding [ov] (getMethod ov m pl)
   callWith pos f first (backTo pos (starEach [] X.env)) (backToKw pos (keywordEach [] X.env))):=by rfl) :
  QE X (.Call (.Attribute o m apos) [] [] pos) (pK C m sp [] E0 ta gK):=by
 obtain⟨f,fd,G,hm,b⟩:=F.ex;exact⟨zU (pl:=pl) he.h F.cl hm G hr b .nil pF ht⟩
theorem Ec(F:MkFn X.prog X.w X.K X.mg X.base k C x ps sp)(hr:Room (k+1) X.A)(ha:QA X (e::es) t)(hg:Gl X x:=by rfl)(hs:(e::es).all aV=true:=by rfl)(hdb:(x==("__debug__":Str))=false:=by decide) :
  QE X (.Call (.Name x p) (e::es) [] pos) (Bf C sp [] E0 t):=by
 obtain⟨f,fd,G,hm,b⟩:=F.ex;rw[List.all_cons,ZN]at hs;exact⟨B3 hm G hr hg F.mgC b .nil pF ha.h hdb (aZ hs.1) (bI hs.2)⟩
end
def DRaw(h:Heap)(d:Addr)(es:Array DictEntry)(ep:Nat):Prop:=∃o,h.get? d=some o/\o.ExactDict/\o.data=.dict es ep
theorem DRaw.type{s:Shared}{d:Addr}{es:Array DictEntry}{ep:Nat}(x:DRaw s.heap d es ep):s.TypeIs (.ref d) "dict":=let⟨o,ho,hc,_⟩:=x;⟨o,ho,hc.1⟩
theorem DRaw.at'{h h':Heap}{d:Addr}{es:Array DictEntry}{ep:Nat}(x:DRaw h d es ep)(e:∀o,h.get? d=some o->h'.get? d=some o):DRaw h' d es ep:=let⟨o,ho,r⟩:=x;⟨o,e o ho,r⟩
theorem DRaw.lt{h:Heap}{d:Addr}{es:Array DictEntry}{ep:Nat}(x:DRaw h d es ep):d<h.objs.size:=let⟨_,ho,_⟩:=x;Zo ho
section
variable{prog:Program}{w:World}{A:Around}{E:Value->Shared->Prop}{s:Shared}{d it:Addr}{es:Array DictEntry}{ep i:Nat}
theorem Ak{Q:Value->Shared->Prop}(hd:(d==sysModules)=false)(hm:DRaw s.heap d es ep)(hQ:Q (.ref s.heap.objs.size) { s with heap:=s.heap.push { cls:=.type "dict_keyiterator",data:=.fields #[.ref d,.int 0 0,.int es.size 0,.int ep 0] } }) :
  wpAny (model prog w) A (pyIter (.ref d)) Q E s:=by
 obtain⟨o,ho,hc,hdat⟩:=id hm;refine wpAny_pyIter_slot hm.type PySem.F.slot_dict_iter (ZW PySem.F.slot_dict_iter hm.type PySem.F.entry_dict_iter ?_ (PySem.F.args_dict_iter_1 _));unfold Builtin.«dict.__iter__»;refine z6 ?_;unfold Builtin.Dict.dictSlotNone;refine z6 (wpAny_notOrdered_dict hm.type ?_);show wpAny _ _ (pure (Value.ref d)) _ _ s;refine Zd ?_;show wpAny _ _ (Builtin.Dict.showsAll d >>= _) _ _ s;unfold Builtin.Dict.showsAll;rw[if_neg (by rw[hd];exact Zr)];refine z6 (Zd ?_);refine z6 (Y1 ho hdat ?_);refine z6 (wpAny_dictEpoch ho hdat ?_);refine z6 (ZP (Zd ⟨_,rfl,"dict_keyiterator",_,⟨_,Zk _ rfl,rfl⟩,Yw.lookup,?_⟩));simpa[rawInt]using hQ
theorem Aj{Q:Option Value->Shared->Prop}(hit:s.heap.IsKeyIter it d i es.size ep)(hm:DRaw s.heap d es ep)(hx:i<es.size)(hQ:∀h',h'.IsKeyIter it d (i+1) es.size ep->Heap.SameBut it s.heap h'->Q (some es[i].key) { s with heap:=h' }):wpAny (model prog w) A (pyNext (.ref it)) Q E s:=by
 obtain⟨o,ho,hc,hd⟩:=id hit;obtain⟨od,hod,hcd,hdd⟩:=id hm;unfold pyNext;refine z6 (wpAny_attempt (ZS (name:=Str.ofString "__next__") hit.typeIs Yw
  (ZW Yw hit.typeIs PySem.F.entry_dict_keyiterator_next ?_ (PySem.F.args_dict_keyiterator_next_1 _))))
 refine z6 (Zd ?_);refine z6 ?_;refine z6 ?_
 first|refine z6 (Y2 hit.typeIs (Zd ?_))|refine z6 (wpAny_typeNameOf_keyiter hit.typeIs (Zd ?_))
 refine z6 (wpAny_fieldsOf ho hd ?_);have hown:Builtin.Dict_items.ownsTuple "dict_keyiterator" = false:=by decide
 simp only[hown,Yz,YT];show wpAny _ _ (if(Value.ref d==Value.none)=true then _ else _) _ _ s;rw[if_neg (show¬((Value.ref d==Value.none)=true)from Zr)];refine z6 (Zd ?_);refine z6 (Y1 hod hdd ?_);rw[if_neg (by simp)];refine z6 (Zd ?_);refine z6 (wpAny_dictEpoch hod hdd ?_);rw[if_neg (by simp)];refine Zd ?_;simp only[show¬((i:Int)<0)from by omega,YT,y0,Array.getElem?_eq_getElem hx];refine z6 ?_
 first|refine z6 (Y2 hit.typeIs (Zd ?_))|refine z6 (wpAny_typeNameOf_keyiter hit.typeIs (Zd ?_))
 refine z6 (wpAny_isOneOf_keyiter hit.typeIs ?_);show wpAny _ _ (setField (.ref it) 1 (rawInt ((i:Int)+1)) >>= _) _ _ s;refine z6 (YD ho hd (by simp) ?_);have hit':(s.heap.update it (Obj.mapFields (·.setIfInBounds 1 (rawInt ((i:Int)+1))))).IsKeyIter it d (i+1) es.size ep :=
  ⟨_,YG _ ho (YX (Ye hd _)),(Obj.cls_mapFields ..).trans hc,by rw[Ye hd];simp[rawInt]⟩
 refine z6 (Ym ?_);refine z6 (wpAny_isOneOf_keyiter (s:={ s with heap:=s.heap.update it (Obj.mapFields (·.setIfInBounds 1 (rawInt ((i:Int)+1)))) }) hit'.typeIs ?_);show wpAny _ _ (pure es[i].key) _ _ _;exact Zd (Zd ⟨_,rfl,Zd (hQ _ hit' (ZQ ..))⟩)
theorem Ck{Q:Option Value->Shared->Prop}(hh:A.handled=none)(hit:s.heap.IsKeyIter it d es.size es.size ep)(hm:DRaw s.heap d es ep)(hQ:∀h',Heap.ExtBut it s.heap h'->Q none { s with heap:=h' }) :
  wpAny (model prog w) A (pyNext (.ref it)) Q E s:=by
 obtain⟨o,ho,hc,hd⟩:=id hit;obtain⟨od,hod,hcd,hdd⟩:=id hm;unfold pyNext;refine z6 (wpAny_attempt (ZS (name:=Str.ofString "__next__") hit.typeIs Yw
  (ZW Yw hit.typeIs PySem.F.entry_dict_keyiterator_next ?_ (PySem.F.args_dict_keyiterator_next_1 _))))
 refine z6 (Zd ?_);refine z6 ?_;refine z6 ?_
 first|refine z6 (Y2 hit.typeIs (Zd ?_))|refine z6 (wpAny_typeNameOf_keyiter hit.typeIs (Zd ?_))
 refine z6 (wpAny_fieldsOf ho hd ?_);have hown:Builtin.Dict_items.ownsTuple "dict_keyiterator" = false:=by decide
 simp only[hown,Yz,YT];show wpAny _ _ (if(Value.ref d==Value.none)=true then _ else _) _ _ s;rw[if_neg (show¬((Value.ref d==Value.none)=true)from Zr)];refine z6 (Zd ?_);refine z6 (Y1 hod hdd ?_);rw[if_neg (by simp)];refine z6 (Zd ?_);refine z6 (wpAny_dictEpoch hod hdd ?_);rw[if_neg (by simp)];refine Zd ?_;simp only[show¬((es.size:Int)<0)from by omega,YT,y0,Array.getElem?_eq_none (Ze _)];refine z6 ?_
 first|refine z6 (Y2 hit.typeIs (Zd ?_))|refine z6 (wpAny_typeNameOf_keyiter hit.typeIs (Zd ?_))
 show wpAny _ _ (setField (.ref it) 0 .none >>= _) _ _ s;refine z6 (YD ho hd (by simp) ?_);show wpAny _ _ (newExc (.type "StopIteration") [] >>= _) _ _ _;refine z6 ?_;simp only[newExc,newTuple];refine z6 (ZP ?_ (by size_fits));refine z6 (m:=firstArgMember _ _) (wpAny_of_eq (a:=Value.none) (by first|rfl|(simp only[firstArgMember];rfl)) ?_);refine ZP ?_ (by size_fits);simp only[raiseNew];refine z6 (wpAny_handled ?_);rw[show A.in1.handled=none from hh];refine z6 (Zd (wpAny_throw ?_));refine z6 (wpAny_isInstance (T:="StopIteration") (b:=true) ⟨_,Zk _ rfl,rfl⟩ isSubtype_stop ?_);exact Zd (hQ _ (((ZQ ..).extBut.push _).push _))
end
open PySem PySem.Spec PyProof.Rows PySem.W
open PySem PySem.Spec PyProof.Rows PySem.W
open PySem PySem.Spec PyProof.Rows PySem.W PySem.Builtin PySem.Builtin.ObjectAttr
def xK:List Value->Bool
 |.ref _::r=>xK r
 |l=>l==VE
structure ExS(K:PySem.W.Frag)(c:Addr):Prop where
 sa:findIn K (.ref c) "__setattr__" = some (some (.builtin "object.__setattr__"))
 ov:((clsIn K c).any fun cd=>xK cd.mro&&cd.hasDict)=true
 ob:mroIn K c (.type "object")=some true
open PySem PySem.Spec PyProof.Rows PySem.W
open PySem PySem.Spec PyProof.Rows PySem.W
def CQ(K:PySem.W.Frag)(C fI:Addr):Bool:=match K.lookup C with
 | some ⟨.type "type",_,.cls cd,sl⟩=>(match cd.mro,sl.toList with
  |.ref C'::bm,[_,_,_,_,some (.builtin n),_]=>C'==C&&n=="ValueError.__new__"&&!cd.hasDel&&tailIn K VE bm&&nsOkIn K cd.ns&&nsIn K cd.ns "__init__" == some (some (.ref fI))
  | _,_=>false)
 |_=>false
structure ExcAtI(K:PySem.W.Frag)(C fI:Addr)(bm:List Value):Prop where
 isIn:CQ K C fI=true
 mro:∃c d cd sl,K.lookup C=some ⟨c,d,.cls cd,sl⟩/\cd.mro=Value.ref C::bm
 exc:bm.contains (.type "BaseException")=true
 fn:∃oI,K.lookup fI=some oI/\oI.cls=.type "function"
structure ExI(P:Program)(w:World)(K:PySem.W.Frag)(mg:Str->Option Value)(base:Heap)(k:Nat)(C:Addr)(bm:List Value)(ps:List Str)(sp:Sp):Prop where
 ex:∃fI fd,ExcAtI K C fI bm/\FnOk P w K mg base CX0 k fI fd ps sp/\Binds K fd ps []
open PySem PySem.Spec PyProof.Rows PySem.W
structure MFnX(P:Program)(w:World)(K:PySem.W.Frag)(mg:Str->Option Value)(base:Heap)(k:Nat)(C:Addr)(m:Str)(ps:List Str)(sp:Sp):Prop where
 cl:Cls K C
 ex:∃f fd,FnOk P w K mg base (CXr P w) k f fd ps sp/\Meth K C m f/\Binds K fd ps []
section
variable{X:Cx}{k:Nat}{C:Addr}{m x:Str}{p pos apos:Pos}{o e:Expr}{es:List Expr}{ps:List Str}{sp:Sp}{t:TA}{ta:TE}{E:XK}
def Ey(C:Addr)(m:Str)(sp:Sp)(ta:TE)(t:TA):TX:=fun σ H Q E=>ta σ H fun x H1=>∃a dx fs,x=.ref a/\H1 a=some (.ins C dx fs)/\fs.lookup m=none/\t σ H1 fun vs H2=>sp (x::vs) H2 Q E
theorem EJ{pl:Sem Bool}(F:MFnX X.prog X.w X.K X.mg X.base k C m ps sp)(hr:Room k X.A)(he:QE X.nox o ta)(ha:QA X.nox (e::es) t)(hs:(e::es).all aV=true:=by rfl)(ht:eval (.Call (.Attribute o m apos) (e::es) [] pos) X.env=(do
   let ov ←eval o X.env
   standAt apos.atName
   let(f,first) ←holding [ov] (getMethod ov m pl)
   callWith pos f first (backTo pos (starEach (e::es) X.env)) (backToKw pos (keywordEach [] X.env))):=by rfl) :
  QX X (.Call (.Attribute o m apos) (e::es) [] pos) (Ey C m sp ta t):=by
 refine⟨?_⟩;intro pins s σ H Q E I h;obtain⟨f,fd,G,hm,b⟩:=F.ex;rw[List.all_cons,ZN]at hs;refine PySem.W.methodCall_KW (pl:=pl) (Z4 (he.h pins s σ H _ (I.wish _) h) (fun u s1 hz9=>?_) fun _ _ z=>False.elim z) ht;obtain⟨y,H1,I1,rx,a,dx,fs,ex,ea,l,q⟩:=hz9;subst ex;obtain rfl:u=Value.ref a:=rx;have I1':=I1.unwish;refine ip I1' ea F.cl hm l ?_;refine PySem.W.callWith_K (first:=[.ref a]) (h₀:=X.base) I.ok.mod.kin hm.kp (Z4 (ha.h pos pins s1 σ H1 _ I1 q) (fun us s2 ⟨vs,H2,I2,r,q2⟩=>⟨I2.kIn,?_⟩) fun _ _ z=>False.elim z) (aZ hs.1) (bI hs.2);have I3:=I2.unwish;have hb:=b s2 (.ref a::us) I3.kIn (by rw[ZF,<-G.len _ _ _ _ q2,Zt,Zt,r.length]);rw[ZF]at hb;refine wpAny_call (codeAny_mono (G.run X.A X.stack s2 H2 ⟨.ref a::us,[]⟩ (.ref a::us) (.ref a::vs) Q E hr I3.env0 hb (.cons rfl r) q2) fun r s' hq=>?_);cases r with
 |error e=>exact⟨s2,H2,I3,hq⟩
 |ok fl =>
  cases fl with
  |ret u=>exact I3.after hq
  |next=>exact False.elim hq
  |brk=>exact False.elim hq
  |cont=>exact False.elim hq
end
section
variable{X:Cx}
theorem EY:QH X [] (fun _ _ _ _ _=>False):=⟨fun _ _ _ _ _ _ _ _ _ _ _ _ _ _ _ _ h=>h.elim⟩
def Fy(K:PySem.W.Frag)(Ch:Addr)(ts:TS)(th:TH):TH:=fun D σ C dc H'=>∃c bm,C=.ref c/\ExC K c bm/\if(Value.ref c::bm).contains (.ref Ch)=true then ts D σ H' else th D σ C dc H'
theorem FN{x:Str}{Ch:Addr}{bmh:List Value}{b0:Stmt}{suite:List Stmt}{ts:TS}{np pos:Pos}{rest:List ExceptHandler}{th:TH}(cl:ExC X.K Ch bmh)(hm:X.mg x=some (.ref Ch))(hs:∀e,QB (X.exc e) (b0::suite) ts)(hrest:QH X rest th)(hg:Gl X x:=by rfl)(hdb:(x==("__debug__":Str))=false:=by decide):QH X (.ExceptHandler (some (.Name x np)) none (b0::suite) pos::rest) (Fy X.K Ch ts th):=by
 refine⟨?_⟩;rintro pins s0 H0 σ D ea t C B H' dc s' I0 F fly hd ⟨c,bm,rfl,ec,q⟩;have I:=F.inv I0;refine wpAny_handleBy_cons (codeAny_handlers_test ?_) (by intro z;cases z);refine jD (X:=X.exc (.ref ea)) (I.exc _) hg hm ?_ hdb;obtain⟨oe,he,hcl⟩:=fly.there;refine rX ec cl I.kIn he hcl ?_;cases hc:(Value.ref c::bm).contains (.ref Ch)with
 |true =>
  rw[hc,if_pos rfl]at q;refine codeAny_handlers_suite ?_;obtain⟨f1,f2,f3,f4⟩:=fly;refine kY f1 f3 f4.at hd fun h6 k1 k2 k3 up6 hd6=>?_;have F6:=F.move (tk:=s'.toks) I0 k1 up6;refine Z4 ((hs (.ref ea)).h pins _ _ _ _ ((F6.inv I0).exc _) q) (fun f s8 sp=>?_) (fun _ _ z=>False.elim z);cases f with
  |next =>obtain⟨σ2,H2,I8,q8⟩:=sp;exact⟨_,H2,I8.unexc I0.ok,q8⟩
  |brk =>obtain⟨σ2,H2,I8,q8⟩:=sp;exact⟨_,H2,I8.unexc I0.ok,q8⟩
  |cont =>obtain⟨σ2,H2,I8,q8⟩:=sp;exact⟨_,H2,I8.unexc I0.ok,q8⟩
  |ret u =>obtain⟨v,σ2,H2,I8,r8,q8⟩:=sp;exact⟨v,_,H2,I8.unexc I0.ok,r8,q8⟩
 |false =>rw[hc,if_neg Zr]at q;exact hrest.h pins s0 H0 σ D ea t _ B H' dc _ I0 F fly hd q
end
open PySem PySem.Spec PyProof.Rows PySem.W
open PySem PySem.Spec PyProof.Rows PySem.W
open PySem PySem.Spec PyProof.Rows PySem.W
open PySem PySem.Spec PyProof.Rows PySem.W
def pC(qual:Str)(params:Arguments)(body:Expr)(scope:Scope)(cl:List (Str×Addr))(pm:Value)(c:Addr)(ct:Value):FuncData:=kla_fn "<lambda>" qual params body scope cl pm (.ref c) ct
def gU(qual:Str)(params:Arguments)(body:Expr)(scope:Scope)(cl:List (Str×Addr))(pm:Value)(c:Addr)(ct:Value):Obj:={ cls:=.type "function",data:=.func (pC qual params body scope cl pm c ct) }
def eJ(a:Addr)(o:Obj):HO:=.ext fun h=>h.get? a=some o
def iY(c:Addr)(qual:Str):HO:=.ext fun h=>h.CodeRec (.ref c) qual
theorem mS{P:Program}{w:World}{H:Hp}{h:Heap}{a:Addr}{o:Obj}(e:h.get? a=some o):ObjOk P w H h a (eJ a o):=⟨e,⟨o,e⟩,fun _ _ x k=>k _ x⟩
theorem BC{P:Program}{w:World}{H:Hp}{h:Heap}{c:Addr}{q:Str}(e:h.CodeRec (.ref c) q):ObjOk P w H h c (iY c q):=by obtain⟨c',oc,vs,t,e1,e2,e3,e4⟩:=id e;cases e1;refine⟨e,⟨oc,e2⟩,fun h1 h2 x k=>?_⟩;obtain⟨c',oc,vs,t,e1,e2,e3,e4⟩:=id x;cases e1;exact⟨c,oc,vs,t,rfl,k _ e2,e3,e4⟩
def Blt(h:Heap)(mg:Str->Option Value):Prop:=∃bm ob,mg "__builtins__" = some (.ref bm)/\bm≠builtinsNs/\h.get? bm=some ob/\ob.cls=.type "module"/\ob.dict=some builtinsNs/\ob.data=.plain
section
variable{X:Cx}{pins:List (Addr×Obj)}{σ:St}{H:Hp}{s:Shared}
theorem Inv.bltAt(I:Inv X pins σ H s)(B:Blt X.base X.mg){P:Addr}{ps:Array Value}(hP:H P=some (.tbl ps)):s.heap.BuiltinsAt X.mg P:=by
 obtain⟨bm,ob,b1,b2,b3,b4,b5,b6⟩:=B;refine⟨bm,ob,b1,b2,fun z=>?_,fun z=>?_,I.bk _ _ b3,b4,b5,b6⟩
 ·obtain⟨o,es,ep,e,d,_⟩:=I.ok.mod.glob;rw[<-z,b3]at e;cases e;rw[d]at b6;cases b6
 ·have:=(I.bs _ _ b3).2;rw[z,hP]at this;cases this
theorem Inv.grown{h':Heap}{P c f:Addr}{ps more:Array Value}{oc of':HO}{t':Nat}(I:Inv X pins σ H s)(hP:H P=some (.tbl ps))(k:∀b o,b≠P->s.heap.get? b=some o->h'.get? b=some o)(hc:s.heap.objs.size<=c)(hf:s.heap.objs.size<=f)(hcf:c≠f)(eP:h'.get? P=some { cls:=.none,data:=.fields (ps++more) })(nc:∀H',ObjOk X.prog X.w H' h' c oc)(nf:∀H',ObjOk X.prog X.w H' h' f of') :
  H c=none/\H f=none/\Inv X pins σ (upd (upd (upd H P (.tbl (ps++more))) c oc) f of') { s with heap:=h',toks:=t' }:=by
 have c0:=I.hok.fresh hc;have f0:=I.hok.fresh hf;have nP:∀{b:Addr} {u:HO},H b=some u->(∀qs,u≠.tbl qs)->b≠P:=fun{b u} e n z=>by rw[z,hP]at e;cases e;exact n _ rfl
 have up:∀{b:Addr},b≠P->b≠c->b≠f->upd (upd (upd H P (.tbl (ps++more))) c oc) f of' b=H b:=fun{b} n1 n2 n3=>by rw[af n3,af n2,af n1]
 have old:∀{b:Addr} {o:Obj},s.heap.get? b=some o->b≠c/\b≠f:=fun{b o} e=>⟨ZB (ZA (Zo e) hc),ZB (ZA (Zo e) hf)⟩
 have pcf:P≠c/\P≠f:=by have:=I.hok P _ hP;exact old (show s.heap.get? P=some _ from this)
 refine⟨c0,f0,I.un (t':=t') ⟨fun b o e n _ _=>k b o (fun z=>by rw[z,hP]at n;cases n) e,fun b o e n _ _=>⟨o.slots,k b o (fun z=>by rw[z,hP]at n;cases n) e⟩,fun b o e n _=>?_,fun b o e _=>?_,fun b xs e=>?_,fun b o u e=>?_,fun b qs e=>?_⟩ fun b u e=>?_⟩
 ·rw[up (fun z=>by rw[z,hP]at n;cases n) (old e).1 (old e).2];exact n
 ·by_cases z:b=P
  ·exact⟨_,z▸eP⟩
  ·exact⟨o,k b o z e⟩
 ·rw[up (nP e fun _ z=>nomatch z) (am e c0) (am e f0)];exact e
 ·rw[up (nP e fun _ z=>nomatch z) (am e c0) (am e f0)];exact e
 ·by_cases z:b=P
  ·subst z;rw[hP]at e;cases e;exact⟨more,by rw[af pcf.2,af pcf.1,ad]⟩
  ·exact⟨#[],by rw[up z (am e c0) (am e f0),e];simp⟩
 ·by_cases zf:b=f
  ·subst zf;rw[ad]at e;cases e;exact nf _
  ·rw[af zf]at e;by_cases zc:b=c
   ·subst zc;rw[ad]at e;cases e;exact nc _
   ·rw[af zc]at e;by_cases zP:b=P
    ·subst zP;rw[ad]at e;cases e;exact eP
    ·rw[af zP]at e;refine(I.hok b u e).stay (fun b' v hb' q=>k b' v (fun z=>?_) q) (fun b' z=>by rw[up (nP z fun _ z=>nomatch z) (am z c0) (am z f0)];exact z) fun b' xs z=>by rw[up (nP z fun _ z=>nomatch z) (am z c0) (am z f0)];exact z
     rcases hb' with rfl|hb'
     ·exact zP z
     ·rw[z,hP]at hb';cases hb'
end
theorem Da{CX:CXT}{P:Program}{w:World}{K:PySem.W.Frag}{mg:Str->Option Value}{base:Heap}{k:Nat}{f c':Addr}{qual:Str}{params:Arguments}{body:Expr}{scope:Scope}{pm ct:Value}{N ps:List Str}{sp:Sp}(S:FnScope N ps scope)(len:∀ vs H Q E,sp vs H Q E->vs.length=ps.length)(hbody:∀ (A:Around) (outer:List Env) (s:Shared) (H:Hp) (vs:List V) (Q:VK) (E:XK),Room k (A.deeper (envOfC qual scope s.heap.objs.size f (.ref c')))->sp vs H Q E ->
   ∃ t,PE (fi CX P w K mg base N qual scope f (.ref c') A outer s H E) body t/\t (start N vs) H Q) :
  FnOk P w K mg base CX (k+1) f (pC qual params body scope [] pm c' ct) ps (fun vs H Q E=>H f=some (eJ f (gU qual params body scope [] pm c' ct))/\H c'=some (iY c' qual)/\sp vs H Q E):=by
 refine⟨fun vs H Q E h=>len _ _ _ _ h.2.2,fun A outer s H args us vs Q E hr e0 hb r ⟨hf,hc,hsp⟩=>?_⟩;have hl:=len _ _ _ _ hsp;have lim:s.heap.NoLimit:=e0.mod.nolimit.keeps fun b o e=>(e0.bs b o e).1;have hkind:∀y∈ps.zip us,scope.names.lookup y.1=some .local\/(scope.names.lookup y.1=some .cell/\((cellsFrom (s.heap.objs.size+1) scope.names []).lookup y.1).isSome=true):=fun⟨n,v⟩ hy=>by
  rcases S.par n (List.of_mem_zip hy).1 with q|q
  ·exact .inl q
  ·exact .inr ⟨q,PySem.W.cellsFrom_some _ _ _ (.inl q)⟩
 have of1:=(e0.hok f _ hf).1;have oc1:=(e0.hok c' _ hc).1;refine kla_callFunE hr.depth of1 rfl S.co S.gen rfl oc1 (hb _ _ _ _ ?_);refine wpAny_newFunctionEnv_cells S.kind hkind fun env he s1 x=>?_;subst he;refine⟨lim.keeps x.toInCall.keep,kla_codeExpr ?_⟩;obtain⟨t,ht,hq⟩:=hbody A outer s H vs Q E (hr.deeper _) hsp;have I:Inv (fi CX P w K mg base N qual scope f (.ref c') A outer s H E) [] (start N vs) H s1:=oF S hr.hd e0 hl r x;refine Z4 (ht [] s1 (start N vs) H _ I hq) (fun u s' hz9=>?_) fun e s' hs=>hs;obtain⟨v,H',J,rv,q⟩:=hz9;exact⟨v,H',J.os,J.bare,J.base,J.hok,rv,q⟩
def aE(q:Str)(P:Addr)(pos:Pos)(H:Hp):Prop:=∃ps:Array Value,H P=some (.tbl ps)/\TriplesOk ps.toList/\(codeAmong pos ps.toList=none\/∃c',codeAmong pos ps.toList=some (.ref c')/\H c'=some (iY c' q))
def SameT(P:Addr)(H H':Hp):Prop:=∀b o,H b=some o->b≠P->H' b=some o
theorem SameT.of{P:Addr}{H H':Hp}(s:Same H H'):SameT P H H':=fun b o e _=>s b o e
theorem SameT.trans{P:Addr}{H H' H2:Hp}(s:SameT P H H')(t:SameT P H' H2):SameT P H H2:=fun b o e n=>t b o (s b o e n) n
theorem jr{x y:Int}{c:Value}{a b:Tok}:∀l:List Value,TriplesOk l->TriplesOk (l++[.int x a,.int y b,c])
 | [],_=>trivial
 |.int _ _::.int _ _::_::rest,h=>jr rest h
structure LamOk(P:Program)(w:World)(K:PySem.W.Frag)(mg:Str->Option Value)(base:Heap)(k:Nat)(qual:Str)(body:Expr)(scope:Scope)(x:Str)(sp:Sp):Prop where
 ex:∃N:List Str,FnScope N [x] scope/\(∀vs H Q E,sp vs H Q E->vs.length=1)/\∀(f c':Addr) (A:Around) (outer:List Env) (s:Shared) (H:Hp) (vs:List V) (Q:VK) (E:XK),Room k (A.deeper (envOfC qual scope s.heap.objs.size f (.ref c')))->sp vs H Q E ->
  ∃t,QE (fi CX0 P w K mg base N qual scope f (.ref c') A outer s H E) body t/\t (start N vs) H Q
open PySem PySem.Spec PyProof.Rows PySem.W
def Bn(a:Addr)(tabs:List (Addr×Addr))(H:Hp):Prop:=∀b,H b=none\/(b=a/\∃o xs,H b=some (.frz o (.lst xs)))\/((∃c,(c,b)∈tabs)/\H b=some (.tbl #[]))
theorem zw{P:Program}{w:World}{K:PySem.W.Frag}{mg mb:Str->Option Value}{k:Nat}{fa a:Addr}{fd:FuncData}{x:Str}{sp:Sp}{s:Shared}{vs:List Value}{ns:List Int}{tabs:List (Addr×Addr)}(kx:K.In s.heap)(gx:s.heap.Ns mainGlobals mg)(bx:s.heap.Ns builtinsNs mb)(bb:∀y:Str,y≠"__name__"->mb y=bootBuiltins y)(nl:s.heap.NoLimit)(gn:s.gens=#[])(bl:Blt s.heap mg)(tx:∀q∈tabs,CodeHd s.heap q.1 q.2/\s.heap.get? q.2=some (tabObj #[]))(nt:noTabs K=true)(sa:s.heap.get? a=some { cls:=.type "list",data:=.seq vs.toArray })(si:IntsAre vs ns)(sl:ns.length<=sizeLine)(hr:Room k callerA)(F:∀base:Heap,K.In base->base.Ns mainGlobals mg->Blt base mg->(∀q∈tabs,CodeHd base q.1 q.2)->FnOk P w K mg base CX0 k fa fd [x] sp)(bind:∀(s:Shared) (u:Value),BindsTo s fd ⟨[u],[]⟩ [(x,u)])(go:∀H:Hp,(∀q∈tabs,H q.2=some (.tbl #[]))->SqL K H a (ns.map V.int)->sp [.ref a] H (fun v _=>v=.bl true) fun _ _ _=>False) :
  codeAny (model P w) callerA (.call (.ref fa) ⟨[.ref a],[]⟩) (fun r s'=>r=.ok (.ret (.bool true))/\OldK s.heap s'.heap/\s'.os=s.os/\AllBare s'.gens) s:=by
 have tabNot:∀{b:Addr} {c:Addr},(c,b)∈tabs->K.lookup b=none:=fun{b c} hm=>by
  cases e:K.lookup b with
  |none=>rfl
  |some o =>have e1:=(kx b o e).symm.trans (tx _ hm).2;cases e1;have:=Z6.mp nt _ (mem_of_lookupK e);cases this
 have aNot:∀{c:Addr},¬(c,a)∈tabs:=fun{c} hm=>by have:=(tx _ hm).2;rw[sa]at this;cases this
 have main:∀H:Hp,Bn a tabs H->(∀q∈tabs,H q.2=some (.tbl #[]))->SqL K H a (ns.map V.int)->HOk P w H s.heap->(H a≠none->K.lookup a=none) ->
   codeAny (model P w) callerA (.call (.ref fa) ⟨[.ref a],[]⟩) (fun r s'=>r=.ok (.ret (.bool true))/\OldK s.heap s'.heap/\s'.os=s.os/\AllBare s'.gens) s:=by
  intro H ae ht hS ok ha;have free:∀{b:Addr} {o:Obj},s.heap.get? b=some o->(∀n m,o.data≠.seq n m)->(∀n,o.data≠.fields n)->H b=none:=fun{b o} e n1 n2=>by
   rcases ae b with z|⟨rfl,_⟩|⟨⟨c,hm⟩,_⟩
   ·exact z
   ·rw[sa]at e;cases e;exact absurd rfl (n1 _ _)
   ·rw[(tx _ hm).2]at e;cases e;exact absurd rfl (n2 _)
  have nsB:∀{b:Addr} {m:Str->Option Value},s.heap.Ns b m->(gE s.heap H).Ns b m:=fun{b m} ⟨o,es,ep,e,d,r⟩=>⟨o,es,ep,ir e (free e (fun _ _ z=>by rw[d]at z;cases z) fun _ z=>by rw[d]at z;cases z),d,r⟩
  have kB:K.In (gE s.heap H):=fun b o e=>ir (kx b o e) (by
   rcases ae b with z|⟨rfl,o',xs,z⟩|⟨⟨c,hm⟩,_⟩
   ·exact z
   ·rw[ha (by rw[z];simp)]at e;cases e
   ·rw[tabNot hm]at e;cases e)
  have bB:Blt (gE s.heap H) mg:=by obtain⟨bm,ob,b1,b2,b3,b4,b5,b6⟩:=bl;exact⟨bm,ob,b1,b2,ir b3 (free b3 (fun _ _ z=>by rw[b6]at z;cases z) fun _ z=>by rw[b6]at z;cases z),b4,b5,b6⟩
  have cB:∀q∈tabs,CodeHd (gE s.heap H) q.1 q.2:=fun q hq=>by
   obtain⟨o,ws,file,tf,fl,tg,inF,text,tt,c1,c2,c3,c4⟩:=(tx q hq).1;refine⟨o,ws,file,tf,fl,tg,inF,text,tt,ir c1 ?_,c2,c3,c4⟩;rcases ae q.1 with z|⟨z,_⟩|⟨⟨c,hm⟩,_⟩
   ·exact z
   ·rw[z,sa]at c1;cases c1;injection c2 with c2;exact absurd c2 (by decide)
   ·rw[(tx _ hm).2]at c1;cases c1;cases c2
  have mB:Mod K mg (gE s.heap H):=⟨kB,nsB gx,⟨mb,nsB bx,bb⟩,let⟨mc,n1,n2⟩:=nl;⟨mc,nsB n1,n2⟩⟩
  have env:Env0 P w K mg (gE s.heap H) callerA [] s H:=⟨rfl,mB,fun b o e=>BK e,Nat.le_of_eq (xc _ _),trivial,fun b hb=>absurd (show b∈([]:List Addr)from hb) (by simp),ok,.of_eq gn⟩
  refine codeAny_mono ((F _ kB (nsB gx) bB cB).run callerA [] s H ⟨[.ref a],[]⟩ [.ref a] [.ref a] _ _ hr env (bind s (.ref a)) (.cons rfl .nil) (go H ht hS)) fun r s' h=>?_;cases r with
  |error e=>exact False.elim h
  |ok fl =>
   cases fl with
   |next=>exact False.elim h
   |brk=>exact False.elim h
   |cont=>exact False.elim h
   |ret u =>
    obtain⟨v,H',os,bare,un,ok',rv,hv⟩:=h;obtain rfl:v=.bl true:=hv;obtain rfl:u=Value.bool true:=rv;have each:∀b o,s.heap.get? b=some o->asItWas s.heap s'.heap b o/\∃o',s'.heap.get? b=some o':=fun b o e=>by
     rcases ae b with z|⟨rfl,o',xs,z⟩|⟨⟨c,hm⟩,z⟩
     ·have:=un.keep b o e z (by intro q;exact absurd (show b∈([]:List Addr)from q) (by simp)) (by simp);exact⟨.inl this,_,this⟩
     ·obtain⟨e1,_⟩:=ok b _ z;obtain⟨e2,_⟩:=ok' b _ (un.frzs b o' _ z);rw[e]at e1;cases e1;exact⟨.inl e2,_,e2⟩
     ·obtain⟨more,z2⟩:=un.tbls b _ z;have e2:s'.heap.get? b=some { cls:=.none,data:=.fields (#[]++more) }:=ok' b _ z2;have e1:=(tx _ hm).2;rw[e]at e1;cases e1;exact⟨.inr (.inl ⟨(((tx _ hm).1).tab e).isCodeTable,rfl,#[],more,rfl,e2⟩),_,e2⟩
    exact⟨rfl,⟨fun b o e=>(each b o e).1,fun b o e=>(each b o e).2⟩,os,bare⟩
 have rv:=oO si;have lv:=si.length;have inT:∀b,Decidable (∃c,(c,b)∈tabs):=fun b=>Classical.propDecidable _;cases hk:K.lookup a with
 |some o =>
  have e:=kx a o hk;rw[sa]at e;cases e;refine main (fun b=>@ite _ (∃c,(c,b)∈tabs) (inT b) (some (.tbl #[])) none) (fun b=>?_) (fun q hq=>if_pos ⟨q.1,hq⟩) (.inr ⟨_,vs.toArray,_,hk,rfl,rfl,rfl,by rw[Zh,lv];exact sl,by simpa using rv⟩) (fun b u z=>?_) (fun z=>absurd (if_neg fun⟨c,hm⟩=>aNot hm) z)
  ·by_cases c:∃c,(c,b)∈tabs
   ·exact .inr (.inr ⟨c,if_pos c⟩)
   ·exact .inl (if_neg c)
  ·by_cases c:∃c,(c,b)∈tabs
   ·have z':=(if_pos c).symm.trans z;cases z';obtain⟨c,hm⟩:=c;exact(tx _ hm).2
   ·have z':=(if_neg c).symm.trans z;cases z'
 |none =>
  refine main (fun b=>@ite _ (∃c,(c,b)∈tabs) (inT b) (some (.tbl #[])) (if b=a then some (.frz { cls:=.type "list",data:=.seq vs.toArray } (.lst (ns.map V.int)))else none)) (fun b=>?_) (fun q hq=>if_pos ⟨q.1,hq⟩) (.inl (.inr ⟨{ cls:=.type "list",data:=.seq vs.toArray },(if_neg fun⟨c,hm⟩=>aNot hm).trans (if_pos rfl)⟩)) (fun b u z=>?_) (fun _=>hk)
  ·by_cases c:∃c,(c,b)∈tabs
   ·exact .inr (.inr ⟨c,if_pos c⟩)
   ·by_cases hb:b=a
    ·exact .inr (.inl ⟨hb,_,_,(if_neg c).trans (if_pos hb)⟩)
    ·exact .inl ((if_neg c).trans (if_neg hb))
  ·by_cases c:∃c,(c,b)∈tabs
   ·have z':=(if_pos c).symm.trans z;cases z';obtain⟨c,hm⟩:=c;exact(tx _ hm).2
   ·have z':=(if_neg c).symm.trans z;by_cases hb:b=a
    ·rw[if_pos hb]at z';cases z';subst hb;exact⟨sa,by rw[z9];exact sl,vs,_,rv,sa⟩
    ·rw[if_neg hb]at z';cases z'
theorem Fun.okC{P:Program}{w:World}{K:PySem.W.Frag}{mg:Str->Option Value}{base:Heap}{x qual:Str}{st:Stmt}{f c:Addr}{fd:FuncData}{N ps:List Str}{k:Nat}{sp:Sp}(F:Fun K x qual st f fd)(hc:fd.code=.ref c)(S:FnScope N ps (aj st))(len:∀ vs H Q E,sp vs H Q E->vs.length=ps.length)(body:∀ (A:Around) (outer:List Env) (s:Shared) (H:Hp) (vs:List V) (Q:VK) (E:XK),Room k (A.deeper (envOfC qual (aj st) s.heap.objs.size f (.ref c)))->sp vs H Q E ->
   ∃ t,QB (fi CX0 P w K mg base N qual (aj st) f (.ref c) A outer s H E).nox (bF st) t/\t { nx:=fun _ H'=>Q .non H',rt:=Q } (start N vs) H):FnOk P w K mg base CX0 (k+1) f fd ps sp:=by
 obtain⟨oc,od,kV,doc,pm,an,cdv,ct,osl,rfl,lk,hcd⟩:=F.ex;obtain rfl:cdv=.ref c:=hc;refine AL lk hcd S len fun A outer s H vs Q E hr hs=>?_;obtain⟨t,h,q⟩:=body A outer s H vs Q E hr hs;exact⟨t,h.h.nox,q⟩
theorem Ay{K:PySem.W.Frag}{x:Str}{f c P:Addr}{oc:Value}{od:Option Addr}{fd:FuncData}{sl:Array (Option Value)}(a:nsIn K mainGlobals x=some (some (.ref f)))(l:K.lookup f=some ⟨oc,od,.func fd,sl⟩)(t:tabIn K x=some (c,P)):fd.code=.ref c:=by
 unfold tabIn at t;rw[a]at t;dsimp only at t;rw[l]at t;dsimp only at t;split at t
 ·rename_i c' e;rw[e];split at t
  ·split at t
   ·cases t;rfl
   ·cases t
  ·cases t
 ·cases t
theorem yy{l:PySem.W.OpenLaw}{n k:Nat}{q:Program}{loose:List Str}{XP:(Str->Option Value)->Heap->Prop}{YP:World->Heap->Prop}{d:DefRec}{K:Params->PySem.W.Frag}{tabs:Params->List (Str×Addr×Addr)}{sp:World->Sp}{x:Str}(hn:l.most=some n)(hn2:n<=sizeLine)(hdf:d.params.defaults=[])(hr:Room k callerA)(hY:∀ (w:World) (h:Heap),YP w h->(K w.params).In h)(ht:∀ (w:World),∀ t∈tabs w.params,tabIn (K w.params) t.1=some t.2/\∃ d',(recsOf q).find? (fun e=>e.name == t.1)=some d')(nt:∀ w:World,noTabs (K w.params)=true)(F:∀ (w:World) (mg:Str->Option Value) (fa:Addr) (h:Heap),(K w.params).In h->h.Ns mainGlobals mg->mg d.name=some (.ref fa) ->
   ∃fd:FuncData,(∀(s:Shared) (u:Value),BindsTo s fd ⟨[u],[]⟩ [(x,u)]) /\
    ∀ base:Heap,(K w.params).In base->base.Ns mainGlobals mg->Blt base mg->(∀ t∈tabs w.params,CodeHd base t.2.1 t.2.2)->FnOk l.prog w (K w.params) mg base CX0 k fa fd [x] (sp w))(go:∀ (w:World) (H:Hp) (a:Addr) (ns:List Int),ns.length<=n->(∀ t∈tabs w.params,H t.2.2=some (.tbl #[]))->SqL (K w.params) H a (ns.map V.int)->sp w [.ref a] H (fun v _=>v=.bl true) fun _ _ _=>False) :
  PySem.W.WalkO q loose XP YP l.row.toRowW d [] (fun f vs=>PySem.call f vs):=by
 refine Att.attach_call hn hdf fun w s₀ s₁ mg mb fa o pm cd doc a vs ns G Y ho hd hcd hmg hobj hints hlen hg=>?_;have kx:=hY w _ Y;obtain⟨fd,hb,hF⟩:=F w mg fa _ kx G.T.g hmg;refine zw (tabs:=(tabs w.params).map (·.2)) kx G.T.g G.T.b G.T.builtins G.T.nolimit hg G.T.bmain (fun r hr'=>?_) (nt w) hobj hints (ZV hlen hn2) hr (fun base h1 h2 h3 h4=>hF base h1 h2 h3 fun t htm=>h4 _ (List.mem_map_of_mem htm)) hb fun H h1 h2=>go w H a ns hlen (fun t htm=>h1 _ (List.mem_map_of_mem htm)) h2;obtain⟨t,htm,rfl⟩:=Zl.mp hr';obtain⟨e1,d',e2⟩:=ht w t htm;exact tab_of G.T kx e2 (by rw[e1])
open PySem PySem.Spec PyProof.Rows PySem.W
inductive SKey where
 |i (n:Int)|s (t:Str)|bi (b:Bool)(n:Int)
def SKey.at(H:Hp):SKey->V->Prop
 |.i n,v=>v=.int n
 |.s t,v=>v=.str t
 |.bi b n,v=>∃a,v=.ref a/\H a=some (.tup [.bl b,.int n])
section
variable{X:Cx}{pins:List (Addr×Obj)}{σ:St}{H:Hp}{s:Shared}{h':Heap}
def uD(X:Cx)(pins:List (Addr×Obj))(σ:St)(f:Addr)(sp:Sp):Prop:=∀(s:Shared) (H:Hp) (u:Value) (v:V) (Q:VK),Inv X pins σ H s->RelV v u->sp [v] H Q E0->codeAny (model X.prog X.w) X.A.in1.in1 (.call (.ref f) ⟨[u],[]⟩) (CR CX0 X.stack X.prog X.w H s Q E0) s
theorem tV{k:Nat}{f:Addr}{fd:FuncData}{x:Str}{sp:Sp}(F:FnOk X.prog X.w X.K X.mg X.base CX0 k f fd [x] sp)(hb:∀(s:Shared) (u:Value),X.K.In s.heap->BindsTo s fd ⟨[u],[]⟩ [(x,u)])(hr:Room k X.A.in1.in1):∀l,uD (wX X l) pins σ f sp:=fun l s H u v Q I ru hs=>by
 have env:Env0 X.prog X.w X.K X.mg X.base X.A.in1.in1 X.stack s H:=by have e0:=I.env0;exact⟨e0.frames,e0.mod,e0.bs,e0.bsz,e0.funs,e0.frf,e0.hok,e0.bare⟩
 exact F.run X.A.in1.in1 X.stack s H ⟨[u],[]⟩ [u] [v] Q E0 hr env (hb s u I.kIn) (.cons ru .nil) hs
structure SG(X:Cx)(pins:List (Addr×Obj))(σ:St)(H1:Hp)(m:Str->Option Value)(kS D:Addr)(e1:Nat)(ks:List SKey)(as:List V)(us:List Value)(e:Nat)(H:Hp)(s:Shared):Prop where
 I:Inv X pins σ H s
 sm:Same H1 H
 fk:bz X pins H kS
 fd:bz X pins H D
 bk:X.base.get? kS=none
 bd:X.base.get? D=none
 hk:s.heap.get? kS=some (seqObj "list" (List.toArray us) e)
 hd:s.heap.get? D=some (seqObj "list" #[] e1)
 ns:s.heap.Ns X.env.locals m
 vals:Vals as us
 keys:∀(i:Nat) (a:V) (k:SKey),as[i]?=some a->ks[i]?=some k->k.at H a
theorem rO(b:Bool){xs:List V}{us:List Value}(h:Vals xs us):Vals (katRev b xs) (katRev b us):=by
 cases b with
 |false=>exact h
 |true =>
  show Vals xs.reverse us.reverse;induction h with
  |nil=>exact .nil
  |cons r _ ih =>rw[x8,x8];exact ih.append (.cons r .nil)
theorem tM(n m:Int):HT.lexLt [n] [m]=decide (n<m):=by
 rw[HT.lexLt_cons,HT.lexLt_nil_nil];by_cases z:n=m
 ·rw[if_pos z,decide_eq_false (by omega)]
 ·rw[if_neg z]
end
open PySem PySem.Spec PyProof.Rows PySem.W
structure LamScope(x y:Str)(sc:Scope):Prop where
 kind:sc.kind=.function
 co:sc.isCoroutine=false
 gen:sc.isGenerator=false
 lx:sc.names.lookup x=some .local
 ly:sc.names.lookup y=some .free
 nc:∀z∈sc.names,z.2≠.cell
 nf:∀z∈sc.names,z.2=.free->z.1=y
 ne:x≠y
def cxX(CX:CXT)(P:Program)(w:World)(K:PySem.W.Frag)(mg:Str->Option Value)(base:Heap)(N:List Str)(qual:Str)(scope:Scope)(f:Addr)(cd:Value)(cl:List (Str×Addr))(A:Around)(outer:List Env)(s:Shared)(H:Hp)(E:XK):Cx where
 prog:=P
 w:=w
 K:=K
 mg:=mg
 base:=base
 A:=A.deeper (envX qual scope s.heap.objs.size f cd cl)
 N:=N
 s₀:=s
 H₀:=H
 env:=envX qual scope s.heap.objs.size f cd cl
 outer:=outer
 stack:=envX qual scope s.heap.objs.size f cd cl::outer
 ex:=[]
 calm:=true
 fn:=fun _=>false
 pn:=[]
 xe:=fun e s'=>wpAny (model P w) (A.deeper (envX qual scope s.heap.objs.size f cd cl)) (leaving (envX qual scope s.heap.objs.size f cd cl) e) (fun _ s''=>CX outer H s E e s'') (fun e' s''=>CX outer H s E e' s'') s'
open PySem PySem.Spec PyProof.Rows PySem.W
section
variable{X:Cx}{c P:Addr}{params:Arguments}{body:Expr}{scope:Scope}{pos:Pos}{cl:List (Str×Addr)}
def vX(cl:List (Str×Addr))(X:Cx)(P:Addr)(params:Arguments)(body:Expr)(scope:Scope)(pos:Pos):TE:=fun _ H Q=>∃ps:Array Value,H P=some (.tbl ps)/\TriplesOk ps.toList /\
 ((∃ c',codeAmong pos ps.toList=some (.ref c')/\H c'=some (iY c' (X.env.qual++"<lambda>"))/\∀ f ct,H f=none->Q (.ref f) (upd H f (eJ f (gU (X.env.qual++"<lambda>") params body scope cl ((X.mg "__name__").getD .none) c' ct)))) \/
  (codeAmong pos ps.toList=none/\∀ f c' ct,H f=none->H c'=none->c'≠f->Q (.ref f) (upd (upd (upd H P (.tbl (ps++#[rawInt pos.line,rawInt pos.col,.ref c']))) c' (iY c' (X.env.qual++"<lambda>"))) f (eJ f (gU (X.env.qual++"<lambda>") params body scope cl ((X.mg "__name__").getD .none) c' ct)))))
theorem B0(hcode:X.env.code=.ref c)(hge:X.env.globals=mainGlobals)(C:CodeHd X.base c P)(B:Blt X.base X.mg)(hdef:defaultsOf params X.env=([],[]))(hcl:closureFor scope X.env=pure cl):PE X (.Lambda params body scope pos) (vX cl X P params body scope pos):=by
 intro pins s σ H Q I h;obtain⟨ps,hP,ht,hh⟩:=h;have oP:s.heap.get? P=some (tabObj ps):=I.hok P _ hP;have hg:s.heap.Ns mainGlobals X.mg:=I.ok.mod.glob.keeps I.bk;have hb:=I.bltAt B hP;refine kla_eval hdef ?_;rcases hh with⟨c',hf,hc',q⟩|⟨hnf,q⟩
 ·refine kla_makeFunctionHit hcl hge hg hcode (C.keeps I.bk) oP ht hf hb fun ct h' tk kp hsz=>?_;have hn:=I.hok.fresh hsz;exact⟨.ref _,_,I.laid (t':=tk) (fun b o e=>Za _ (kp b o e)) hsz (mS (Zk _ rfl)),rfl,q _ ct hn⟩
 ·have hgP:mainGlobals≠P:=fun z=>by obtain⟨o,es,ep,e,d,_⟩:=hg;rw[z,oP]at e;cases e;cases d
  refine kla_makeFunction hcl hge hg hcode (C.keeps I.bk) oP ht hnf hgP hb fun c' ct h' tk hx hge' hlt hrec htb=>?_;have hnF:c'≠h'.objs.size:=ZB hlt;obtain⟨i1,i2,i3⟩:=I.grown (t':=tk) (c:=c') (f:=h'.objs.size) (h':=h'.push (gU (X.env.qual++"<lambda>") params body scope cl ((X.mg "__name__").getD .none) c' ct)) (oc:=iY c' (X.env.qual++"<lambda>")) (of':=eJ h'.objs.size (gU (X.env.qual++"<lambda>") params body scope cl ((X.mg "__name__").getD .none) c' ct)) hP
   (fun b o hb' e=>Za _ (hx b o hb' e)) hge' (ZV hge' (Nat.le_of_lt hlt)) hnF (Za _ htb) (fun _=>BC (by
    obtain⟨c₂,oc,vs,t,e1,e2,e3,e4⟩:=hrec;exact⟨c₂,oc,vs,t,e1,Za _ e2,e3,e4⟩)) (fun _=>mS (Zk _ rfl))
  exact⟨.ref _,_,i3,rfl,q _ c' ct i2 i1 hnF⟩
structure LamOkX(P:Program)(w:World)(K:PySem.W.Frag)(mg:Str->Option Value)(base:Heap)(k:Nat)(qual:Str)(body:Expr)(scope:Scope)(x y:Str)(sp:V->Sp):Prop where
 sc:LamScope x y scope
 ex:∀(f c' c:Addr) (kv:V) (A:Around) (outer:List Env) (s:Shared) (H:Hp) (v:V) (Q:VK),Room k (A.deeper (envX qual scope s.heap.objs.size f (.ref c') [(y,c)]))->sp kv [v] H Q E0 ->
  ∃t,QE (cxX CX0 P w K mg base [x,y] qual scope f (.ref c') [(y,c)] A outer s H E0) body t/\t [some v,some kv] H Q
def sD(X:Cx)(P:Addr)(q:Str)(lpos:Pos)(params:Arguments)(body:Expr)(scope:Scope)(cl:List (Str×Addr))(H1:Hp)(f:Addr)(H2:Hp):Prop :=
 ∃(c':Addr) (ct:Value),SameT P H1 H2/\aE q P lpos H2/\H2 f=some (eJ f (gU q params body scope cl ((X.mg "__name__").getD .none) c' ct))/\H2 c'=some (iY c' q)/\f≠P/\c'≠P
theorem zt{H1:Hp}{lpos:Pos}{σ:St}{R:VK}(tab:aE (X.env.qual++"<lambda>") P lpos H1)(h:∀f H2,sD X P (X.env.qual++"<lambda>") lpos params body scope cl H1 f H2->R (.ref f) H2):vX cl X P params body scope lpos σ H1 R:=by
 obtain⟨ps,tP,t3,tc⟩:=tab;refine⟨ps,tP,t3,?_⟩;rcases tc with hno|⟨c',hy,hc'⟩
 ·refine .inr ⟨hno,fun f c' ct f0 c0 hcf=>h _ _ ?_⟩;have nPf:f≠P:=fun z=>by rw[z,tP]at f0;cases f0
  have nPc:c'≠P:=fun z=>by rw[z,tP]at c0;cases c0
  refine⟨c',ct,fun b o e hb=>?_,⟨_,by rw[af (Yj nPf),af (Yj nPc),ad],?_,.inr ⟨c',?_,by rw[af hcf,ad]⟩⟩,ad,by rw[af hcf,ad],nPf,nPc⟩
  ·rw[af (am e f0),af (am e c0),af hb];exact e
  ·rw[ZK];exact jr _ t3
  ·rw[ZK];exact codeAmong_snoc _ t3 hno
 ·refine .inl ⟨c',hy,hc',fun f ct f0=>h _ _ ?_⟩;have nPf:f≠P:=fun z=>by rw[z,tP]at f0;cases f0
  have nPc:c'≠P:=fun z=>by rw[z,tP]at hc';cases hc'
  exact⟨c',ct,fun b o e hb=>by rw[af (am e f0)];exact e,⟨ps,by rw[af (Yj nPf)];exact tP,t3,.inr ⟨c',hy,by rw[af (am hc' f0)];exact hc'⟩⟩,ad,by rw[af (am hc' f0)];exact hc',nPf,nPc⟩
end
open PySem PySem.Spec PyProof.Rows PySem.W
open PySem PyProof.Rows PySem.W
def eV:Bool->Keyed->Array Keyed->Nat->Nat->Nat->StateT SortSt Sem (Option Nat):=sortPriv%PySem.Builtin.gallop
def zLo:Array Keyed->Array Keyed->StateT SortSt Sem (Array Keyed):=sortPriv%PySem.Builtin.mergeLo
def zHi:Array Keyed->Array Keyed->StateT SortSt Sem (Array Keyed):=sortPriv%PySem.Builtin.mergeHi
def ju:Nat->StateT SortSt Sem Unit:=sortPriv%PySem.Builtin.setMinGallop
def jt(le:Bool)(ky:Keyed)(ar:Array Keyed)(ba i:Nat):StateT SortSt Sem (Option Bool):=do
 let it ←elem' ar (ba+i)
 if le then lt' it ky else do
  let o ←lt' ky it
  pure (o.map (!·))
theorem Cv(le:Bool)(ky:Keyed)(ar:Array Keyed)(ba n at0:Nat):eV le ky ar ba n at0=(do
 let mut las:=0;let mut ofs:=1;let mut lo:=0;let mut hi:=0
 let some rig ←jt le ky ar ba at0|return none
 if rig then
  for _ in[0:n]do
   if ofs>=n-at0 then break
   let some mo ←jt le ky ar ba (at0+ofs)|return none
   if !mo then break
   las:=ofs;ofs:=2*ofs+1
  lo:=at0+las+1;hi:=at0+min ofs (n-at0)
 else
  for _ in[0:n]do
   if ofs>=at0+1 then break
   let some fo ←jt le ky ar ba (at0-ofs)|return none
   if fo then break
   las:=ofs;ofs:=2*ofs+1
  lo:=at0+1-min ofs (at0+1);hi:=at0-las
 for _ in[0:n]do
  if lo>=hi then break
  let some mo ←jt le ky ar ba (lo+(hi-lo) / 2)|return none
  if mo then lo:=lo+(hi-lo) / 2+1 else hi:=lo+(hi-lo) / 2
 return some hi):=rfl
theorem EM(a b:Array Keyed):zLo a b=(do
 liftM (rule "list.sort.merge-lo");let e0 ←elem' b 0;let mut out:Array Keyed:=#[e0];let mut ia:=0;let mut ib:=1
 if ib==b.size then return out++a.extract ia a.size++b.extract ib b.size
 if ia+1==a.size then return out++b.extract ib b.size++a.extract ia a.size
 let mut mg:=gallopOf (←get)
 for _ in[0:a.size+b.size]do
  let mut ac:=0;let mut bc:=0
  for _ in[0:a.size+b.size]do
   let y ←elem' b ib;let x ←elem' a ia
   let some won ←lt' y x|return out++a.extract ia a.size++b.extract ib b.size
   if won then
    let y ←elem' b ib;out:=out.push y;ib:=ib+1;bc:=bc+1;ac:=0
    if ib==b.size then return out++a.extract ia a.size++b.extract ib b.size
    if bc>=mg then break
   else
    let x ←elem' a ia;out:=out.push x;ia:=ia+1;ac:=ac+1;bc:=0
    if ia+1==a.size then return out++b.extract ib b.size++a.extract ia a.size
    if ac>=mg then break
  liftM (rule "list.sort.gallop");mg:=mg+1
  for _ in[0:a.size+b.size]do
   if mg>1 then mg:=mg-1
   ju mg;let y ←elem' b ib
   let some k ←eV false y a ia (a.size-ia) 0|return out++a.extract ia a.size++b.extract ib b.size
   ac:=k
   if k>0 then
    out:=out++a.extract ia (ia+k);ia:=ia+k
    if ia+1==a.size then return out++b.extract ib b.size++a.extract ia a.size
    if ia==a.size then return out++a.extract ia a.size++b.extract ib b.size
   let y ←elem' b ib;out:=out.push y;ib:=ib+1
   if ib==b.size then return out++a.extract ia a.size++b.extract ib b.size
   let x ←elem' a ia
   let some k ←eV true x b ib (b.size-ib) 0|return out++a.extract ia a.size++b.extract ib b.size
   bc:=k
   if k>0 then
    out:=out++b.extract ib (ib+k);ib:=ib+k
    if ib==b.size then return out++a.extract ia a.size++b.extract ib b.size
   let x ←elem' a ia;out:=out.push x;ia:=ia+1
   if ia+1==a.size then return out++b.extract ib b.size++a.extract ia a.size
   if ac<7&&bc<7 then break
  mg:=mg+1;ju mg
 unsupported "internal:list.sort.merge-bound"):=rfl
theorem EL(a b:Array Keyed):zHi a b=(do
 liftM (rule "list.sort.merge-hi");let mut na:=a.size-1;let mut nb:=b.size;let e0 ←elem' a na;let mut out:Array Keyed:=#[e0]
 if na==0 then return a.extract 0 na++b.extract 0 nb++out.reverse
 if nb==1 then return b.extract 0 nb++a.extract 0 na++out.reverse
 let mut mg:=gallopOf (←get)
 for _ in[0:a.size+b.size]do
  let mut ac:=0;let mut bc:=0
  for _ in[0:a.size+b.size]do
   let y ←elem' b (nb-1);let x ←elem' a (na-1)
   let some won ←lt' y x|return a.extract 0 na++b.extract 0 nb++out.reverse
   if won then
    na:=na-1;let x ←elem' a na;out:=out.push x;ac:=ac+1;bc:=0
    if na==0 then return a.extract 0 na++b.extract 0 nb++out.reverse
    if ac>=mg then break
   else
    nb:=nb-1;let y ←elem' b nb;out:=out.push y;bc:=bc+1;ac:=0
    if nb==1 then return b.extract 0 nb++a.extract 0 na++out.reverse
    if bc>=mg then break
  liftM (rule "list.sort.gallop");mg:=mg+1
  for _ in[0:a.size+b.size]do
   if mg>1 then mg:=mg-1
   ju mg;let y ←elem' b (nb-1)
   let some k ←eV false y a 0 na (na-1)|return a.extract 0 na++b.extract 0 nb++out.reverse
   ac:=na-k
   if na-k>0 then
    out:=out++(a.extract k na).reverse;na:=k
    if na==0 then return a.extract 0 na++b.extract 0 nb++out.reverse
   nb:=nb-1;let y ←elem' b nb;out:=out.push y
   if nb==1 then return b.extract 0 nb++a.extract 0 na++out.reverse
   let x ←elem' a (na-1)
   let some k ←eV true x b 0 nb (nb-1)|return a.extract 0 na++b.extract 0 nb++out.reverse
   bc:=nb-k
   if nb-k>0 then
    out:=out++(b.extract k nb).reverse;nb:=k
    if nb==1 then return b.extract 0 nb++a.extract 0 na++out.reverse
    if nb==0 then return a.extract 0 na++b.extract 0 nb++out.reverse
   na:=na-1;let x ←elem' a na;out:=out.push x
   if na==0 then return a.extract 0 na++b.extract 0 nb++out.reverse
   if ac<7&&bc<7 then break
  mg:=mg+1;ju mg
 unsupported "internal:list.sort.merge-bound"):=rfl
def kP(ar:Array Keyed)(at0:Nat)(xs:Array Keyed):Array Keyed:=xs.toList.zipIdx.foldl (fun a (p,j)=>a.setIfInBounds (at0+j) p) ar
theorem EK(i:Nat):mergeAt' i=(do
 let st ←get
 let(some (sa,na,pw),some (sb,nb,_)):=((pendingOf st)[i]?,(pendingOf st)[i+1]?)|unsupported "internal:list.sort.pending"
 set (setPending st (((pendingOf st).setIfInBounds i (sa,na+nb,pw)).eraseIdxIfInBounds (i+1)))
 let y ←elem' (arrOf st) sb
 let some k ←eV false y (arrOf st) sa na 0|return false
 if na-k==0 then return true
 let x ←elem' (arrOf st) (sa+k+(na-k)-1)
 let some nc ←eV true x (arrOf st) sb nb (nb-1)|return false
 if nc==0 then return true
 let mer ←if na-k<=nc then zLo ((arrOf st).extract (sa+k) sb) ((arrOf st).extract sb (sb+nc))else zHi ((arrOf st).extract (sa+k) sb) ((arrOf st).extract sb (sb+nc))
 modify fun st=>setArr st (kP (arrOf st) (sa+k) mer)
 return (failedOf (←get)).isNone):=rfl
open PySem PyProof.Rows PySem.W
section
variable{prog:Program}{w:World}{A:Around}{E:Value->Shared->Prop}{s:Shared}{κ:SortKind}{it:Array Keyed}{lt:Nat->Nat->Bool}{N:Nat}{st:SortSt}
def Zc(prog:Program)(w:World)(A:Around)(s:Shared)(κ:SortKind)(it:Array Keyed)(lt:Nat->Nat->Bool)(N:Nat):Prop :=
 ∀i j (C:Bool->Shared->Prop),i<N->j<N->C (lt i j) s->kas_cmp prog w A κ it i j C s
theorem rR(Z:Zc prog w A s κ it lt N){i j:Nat}{Q:Option Bool->SortSt->Prop}(hk:kindOf st=κ)(hi:i<N)(hj:j<N)(h:Q (some (lt i j)) st):wpS (model prog w) A E s (lt' (kas_item it i) (kas_item it j)) Q st:=by rw[lt'_eq];refine Zj (wpS_get ?_);rw[hk];refine Zj (wpS_lift (wpAny_attempt (Z4 (Z i j (fun c s'=>c=lt i j/\s'=s) hi hj ⟨rfl,rfl⟩) (fun c s' hc=>?_) fun _ _ hF=>hF.elim)));obtain⟨rfl,rfl⟩:=hc;exact⟨rfl,Zq h⟩
theorem EN{q:Array Nat}{i:Nat}(hi:i<q.size):elem' (q.map (kas_item it)) i=pure (kas_item it (gA q i)):=by
 rw[elem'_eq];have e:(q.map (kas_item it))[i]?=some (kas_item it (gA q i)):=by
  rw[Array.getElem?_map];have e1:gA q i=q[i]:=by unfold gA;simp[Array.getD,hi]
  rw[e1];simp[hi]
 rw[e]
def zB(lt:Nat->Nat->Bool)(le:Bool)(k x:Nat):Bool:=if le=true then lt x k else !lt k x
theorem FF(Z:Zc prog w A s κ it lt N){le:Bool}{k ba i:Nat}{q:Array Nat}{Q:Option Bool->SortSt->Prop}(hk:kindOf st=κ)(hK:k<N)(hi:ba+i<q.size)(hq:gA q (ba+i)<N)(h:Q (some (zB lt le k (gA q (ba+i)))) st) :
  wpS (model prog w) A E s (jt le (kas_item it k) (q.map (kas_item it)) ba i) Q st:=by
 unfold jt;rw[EN hi];refine Zj (Zq ?_);cases le with
 |true =>simp only[if_true];exact rR Z hk hq hK h
 |false =>simp only[Yz,YT];exact Zj (rR Z hk hK hq (Zq h))
theorem EO{le:Bool}{ky:Keyed}{ar:Array Keyed}{ba n at0:Nat}{B:Nat->Bool}{Q:Option Nat->SortSt->Prop}(hb:∀i (Q:Option Bool->SortSt->Prop),i<n->Q (some (B i)) st->wpS (model prog w) A E s (jt le ky ar ba i) Q st)(h0:at0<n)(mono:∀i j,i<=j->j<n->B j=true->B i=true)(h:∀m,m<=n->(∀i,i<m->B i=true)->(∀i,m<=i->i<n->B i=false)->Q (some m) st):wpS (model prog w) A E s (eV le ky ar ba n at0) Q st:=by
 have fin:∀ lo hi,lo<=hi->hi<=n->(∀ i,i<lo->B i=true)->(∀ i,hi<=i->i<n->B i=false)->wpS (model prog w) A E s (do
   let mut lo:=lo;let mut hi:=hi
   for _ in[0:n]do
    if lo>=hi then break
    let some mo ←jt le ky ar ba (lo+(hi-lo) / 2)|return none
    if mo then lo:=lo+(hi-lo) / 2+1 else hi:=lo+(hi-lo) / 2
   return some hi) Q st:=fun lo hi h1 h2 h3 h4=>by
  refine Zj (Yt (Yi (I:=fun x c st'=>st'=st/\∃ lo hi,c=(none,lo,hi)/\lo<=hi/\hi<=n/\hi - lo<=n - x/\(∀ i,i<lo->B i=true)/\(∀ i,hi<=i->i<n->B i=false))
   (Q:=fun c st'=>st'=st/\∃ hi,c=(none,hi,hi)/\hi<=n/\(∀ i,i<hi->B i=true)/\(∀ i,hi<=i->i<n->B i=false)) ?step ?fin ⟨rfl,lo,hi,rfl,h1,h2,by omega,h3,h4⟩) ?post)
  case fin =>
   rintro c st' ⟨rfl,lo,hi,rfl,g1,g2,g3,g4,g5⟩;have e:lo=hi:=by omega
   subst e;exact⟨rfl,lo,rfl,g2,g4,g5⟩
  case post =>rintro c st' ⟨rfl,hi,rfl,g2,g4,g5⟩;exact Zq (h hi g2 g4 g5)
  case step =>
   rintro x c st' _ hx ⟨rfl,lo,hi,rfl,g1,g2,g3,g4,g5⟩;dsimp only;by_cases hge:lo>=hi
   ·rw[if_pos hge];have e:lo=hi:=by omega
    subst e;exact Zq ⟨rfl,lo,rfl,g2,g4,g5⟩
   ·rw[if_neg hge];refine Zj (hb _ _ (by omega) ?_);dsimp only;cases e:B (lo+(hi-lo) / 2)with
    |true =>rw[if_pos rfl];exact Zq ⟨rfl,_,_,rfl,by omega,g2,by omega,fun i hi'=>mono i (lo+(hi-lo) / 2) (by omega) (by omega) e,g5⟩
    |false =>
     rw[if_neg (by simp)];refine Zq ⟨rfl,_,_,rfl,by omega,by omega,by omega,g4,fun i hi1 hi2=>?_⟩;cases e':B i with
     |false=>rfl
     |true=>rw[mono _ i hi1 hi2 e']at e;cases e
 rw[Cv];refine Zj (hb at0 _ h0 ?_);dsimp only;cases e:B at0 with
 |true =>
  simp only[if_true];refine Zj (Yt (Yi (I:=fun x c st'=>st'=st/\∃ las ofs,c=(none,las,ofs)/\las<ofs/\x+1<=ofs/\las<n - at0/\B (at0+las)=true)
   (Q:=fun c st'=>st'=st/\∃ las ofs,c=(none,las,ofs)/\las<ofs/\las<n - at0/\B (at0+las)=true/\(ofs>=n - at0\/B (at0+ofs)=false)) ?step ?fin ⟨rfl,0,1,rfl,by omega,by omega,by omega,e⟩) ?post)
  case fin =>rintro c st' ⟨rfl,las,ofs,rfl,g1,g2,g3,g4⟩;exact⟨rfl,las,ofs,rfl,g1,g3,g4,.inl (by omega)⟩
  case post =>
   rintro c st' ⟨rfl,las,ofs,rfl,g1,g2,g3,g4⟩;refine fin (at0+las+1) (at0+min ofs (n-at0)) (by omega) (by omega) (fun i hi'=>mono i (at0+las) (by omega) (by omega) g3) fun i hi1 hi2=>?_;rcases g4 with g4|g4
   ·omega
   ·cases e':B i with
    |false=>rfl
    |true=>rw[mono _ i (by omega) hi2 e']at g4;cases g4
  case step =>
   rintro x c st' _ hx ⟨rfl,las,ofs,rfl,g1,g2,g3,g4⟩;dsimp only;by_cases hge:ofs>=n-at0
   ·rw[if_pos hge];exact Zq ⟨rfl,las,ofs,rfl,g1,g3,g4,.inl hge⟩
   ·rw[if_neg hge];refine Zj (hb _ _ (by omega) ?_);dsimp only;cases e:B (at0+ofs)with
    |true =>rw[if_neg (by simp)];exact Zq ⟨rfl,ofs,_,rfl,by omega,by omega,by omega,e⟩
    |false =>rw[if_pos (by simp)];exact Zq ⟨rfl,las,ofs,rfl,g1,g3,g4,.inr e⟩
 |false =>
  simp only[Yz,YT];refine Zj (Yt (Yi (I:=fun x c st'=>st'=st/\∃ las ofs,c=(none,las,ofs)/\las<ofs/\x+1<=ofs/\las<=at0/\B (at0 - las)=false)
   (Q:=fun c st'=>st'=st/\∃ las ofs,c=(none,las,ofs)/\las<ofs/\las<=at0/\B (at0 - las)=false/\(ofs>=at0+1\/B (at0 - ofs)=true)) ?step ?fin ⟨rfl,0,1,rfl,by omega,by omega,by omega,e⟩) ?post)
  case fin =>rintro c st' ⟨rfl,las,ofs,rfl,g1,g2,g3,g4⟩;exact⟨rfl,las,ofs,rfl,g1,g3,g4,.inl (by omega)⟩
  case post =>
   rintro c st' ⟨rfl,las,ofs,rfl,g1,g2,g3,g4⟩;refine fin (at0+1-min ofs (at0+1)) (at0-las) (by omega) (by omega) (fun i hi'=>?_) fun i hi1 hi2=>?_
   ·rcases g4 with g4|g4
    ·omega
    ·exact mono i (at0-ofs) (by omega) (by omega) g4
   ·cases e':B i with
    |false=>rfl
    |true=>rw[mono _ i hi1 hi2 e']at g3;cases g3
  case step =>
   rintro x c st' _ hx ⟨rfl,las,ofs,rfl,g1,g2,g3,g4⟩;dsimp only;by_cases hge:ofs>=at0+1
   ·rw[if_pos hge];exact Zq ⟨rfl,las,ofs,rfl,g1,g3,g4,.inl hge⟩
   ·rw[if_neg hge];refine Zj (hb _ _ (by omega) ?_);dsimp only;cases e:B (at0-ofs)with
    |true =>rw[if_pos rfl];exact Zq ⟨rfl,las,ofs,rfl,g1,g3,g4,.inr e⟩
    |false =>rw[if_neg (by simp)];exact Zq ⟨rfl,ofs,_,rfl,by omega,by omega,by omega,e⟩
theorem jO(Z:Zc prog w A s κ it lt N){le:Bool}{k ba n at0:Nat}{q:Array Nat}{Q:Option Nat->SortSt->Prop}(hk:kindOf st=κ)(hK:k<N)(hz:ba+n<=q.size)(hq:∀i,ba<=i->i<ba+n->gA q i<N)(h0:at0<n)(mono:∀i j,i<=j->j<n->zB lt le k (gA q (ba+j))=true->zB lt le k (gA q (ba+i))=true)(h:∀m,m<=n->(∀i,i<m->zB lt le k (gA q (ba+i))=true)->(∀i,m<=i->i<n->zB lt le k (gA q (ba+i))=false)->Q (some m) st):wpS (model prog w) A E s (eV le (kas_item it k) (q.map (kas_item it)) ba n at0) Q st :=
 EO (B:=fun i=>zB lt le k (gA q (ba+i))) (fun i _ hi hQ=>FF Z hk hK (by omega) (hq _ (by omega) (by omega)) hQ) h0 mono h
end
open PySem PyProof.Rows PySem.W
section
variable{lt:Nat->Nat->Bool}
theorem aJ(p:Array Nat)(k:Nat):gA p k=p.toList.getD k 0:=by unfold gA;rw[ZT,Zf,Array.getElem?_toList]
theorem jE{l:List Nat}{i x:Nat}(h:x∈l.drop i):∃j,i<=j/\j<l.length/\l.getD j 0=x:=by obtain⟨n,hn,e⟩:=ZG.mp h;rw[Yr]at hn;refine⟨i+n,by omega,by omega,?_⟩;rw[List.getElem_drop]at e;rw[Zf,Zb (by omega)];exact e
theorem jF{l:List Nat}{i x:Nat}(h:x∈l.take i):∃j,j<i/\j<l.length/\l.getD j 0=x:=by obtain⟨n,hn,e⟩:=ZG.mp h;rw[ZE]at hn;refine⟨n,by omega,by omega,?_⟩;rw[YL]at e;rw[Zf,Zb (by omega)];exact e
theorem xy{l:List Nat}{i k x:Nat}(h:x∈(l.drop i).take k):∃j,i<=j/\j<i+k/\j<l.length/\l.getD j 0=x:=by obtain⟨j,h1,h2,e⟩:=jF h;rw[Yr]at h2;refine⟨i+j,by omega,by omega,by omega,?_⟩;rw[<-e,Zf,Zf,List.getElem?_drop]
def Mg(lt:Nat->Nat->Bool)(T o A B:List Nat):Prop:=∀r:List Nat,r.Perm (A++B)->r.Pairwise (Lx lt)->(o++r).Pairwise (Lx lt)/\(o++r).Perm T
def Mh(lt:Nat->Nat->Bool)(T o A B:List Nat):Prop:=∀r:List Nat,r.Perm (A++B)->r.Pairwise (Lx lt)->(r++o).Pairwise (Lx lt)/\(r++o).Perm T
theorem Mg.step{T o A B c A' B':List Nat}(h:Mg lt T o A B)(hp:(c++(A'++B')).Perm (A++B))(hc:c.Pairwise (Lx lt))(hx:∀x∈c,∀y∈A'++B',Lx lt x y):Mg lt T (o++c) A' B':=fun r hr hs=>by rw[ZD];exact h (c++r) ((hr.append_left c).trans hp) (ZR.mpr ⟨hc,hs,fun x hx' y hy=>hx x hx' y (hr.mem_iff.mp hy)⟩)
theorem Mh.step{T o A B c A' B':List Nat}(h:Mh lt T o A B)(hp:((A'++B')++c).Perm (A++B))(hc:c.Pairwise (Lx lt))(hx:∀y∈A'++B',∀x∈c,Lx lt y x):Mh lt T (c++o) A' B':=fun r hr hs=>by rw[<-ZD];exact h (r++c) ((hr.append_right c).trans hp) (ZR.mpr ⟨hs,hc,fun y hy x hx'=>hx y (hr.mem_iff.mp hy) x hx'⟩)
structure MF(lt:Nat->Nat->Bool)(N:Nat)(a b:Array Nat):Prop where
 sa:∀i j,i<j->j<a.size->Lx lt (gA a i) (gA a j)
 sb:∀i j,i<j->j<b.size->Lx lt (gA b i) (gA b j)
 cr:∀i j,i<a.size->j<b.size->lt (gA b j) (gA a i)=false->Lx lt (gA a i) (gA b j)
 na:∀i,i<a.size->gA a i<N
 nb:∀i,i<b.size->gA b i<N
 a0:0<a.size
 b0:0<b.size
 fst:lt (gA b 0) (gA a 0)=true
 lst:∀j,j<b.size->lt (gA b j) (gA a (a.size-1))=true
theorem dE{p:Array Nat}(h:∀i j,i<j->j<p.size->Lx lt (gA p i) (gA p j)):p.toList.Pairwise (Lx lt):=by rw[Zw];intro i j hi hj hij;have:=h i j hij (by simpa using hj);rw[aJ,aJ,Zf,Zf,Zb hi,Zb hj]at this;exact this
theorem vo{p:Array Nat}(h:p.toList.Pairwise (Lx lt)):∀i j,i<j->j<p.size->Lx lt (gA p i) (gA p j):=fun i j hij hj=>by
 rw[Zw]at h;have hj':j<p.toList.length:=by simpa using hj
 have:=h i j (by omega) hj' hij;rw[aJ,aJ,Zf,Zf,Zb (show i<p.toList.length by omega),Zb hj'];exact this
variable{N:Nat}{a b:Array Nat}{f:Nat->Keyed}
theorem MF.leA(h:MF lt N a b)(O:LtOk lt){i j:Nat}(hij:i<=j)(hj:j<a.size){x:Nat}(hx:lt x (gA a i)=true):lt x (gA a j)=true:=by
 rcases ZY i j with h1|h1
 ·exact O.lt_le hx (h.sa i j h1 hj).1
 ·have e:i=j:=by omega
  rw[<-e];exact hx
theorem MF.leB(h:MF lt N a b)(O:LtOk lt){i j:Nat}(hij:i<=j)(hj:j<b.size){x:Nat}(hx:lt (gA b j) x=true):lt (gA b i) x=true:=by
 rcases ZY i j with h1|h1
 ·exact O.le_lt (h.sb i j h1 hj).1 hx
 ·have e:i=j:=by omega
  rw[e];exact hx
def Gd(lt:Nat->Nat->Bool)(f:Nat->Keyed)(a b:Array Nat)(r:Array Keyed):Prop:=∃q:Array Nat,r=q.map f/\q.toList.Pairwise (Lx lt)/\q.toList.Perm (a.toList++b.toList)
def LoM(lt:Nat->Nat->Bool)(f:Nat->Keyed)(a b:Array Nat)(out:Array Keyed)(ia ib:Nat):Prop:=∃o:Array Nat,out=o.map f/\Mg lt (a.toList++b.toList) o.toList (a.toList.drop ia) (b.toList.drop ib)
def HiM(lt:Nat->Nat->Bool)(f:Nat->Keyed)(a b:Array Nat)(out:Array Keyed)(na nb:Nat):Prop:=∃o:Array Nat,out=o.map f/\Mh lt (a.toList++b.toList) o.toList.reverse (a.toList.take na) (b.toList.take nb)
theorem bM(p:Array Nat)(i j:Nat):(p.map f).extract i j=(p.extract i j).map f:=by apply Array.toList_inj.mp;simp
theorem im(p:Array Nat)(i k:Nat):(p.extract i (i+k)).toList=(p.toList.drop i).take k:=by rw[Array.toList_extract,List.extract_eq_take_drop,y9]
theorem il(p:Array Nat)(i:Nat):(p.extract i p.size).toList=p.toList.drop i:=by rw[Array.toList_extract,List.extract_eq_take_drop];exact Yf (by simp)
theorem io(p:Array Nat)(i:Nat):(p.extract 0 i).toList=p.toList.take i:=by rw[Array.toList_extract,List.extract_eq_take_drop,List.drop_zero,Nat.sub_zero]
theorem LoM.chunkA(M:MF lt N a b)(O:LtOk lt){out:Array Keyed}{ia ib:Nat}(h:LoM lt f a b out ia ib)(k:Nat)(hk:ia+k<=a.size)(hb:ib<b.size)(hw:∀i,i<k->lt (gA b ib) (gA a (ia+i))=false):LoM lt f a b (out++(a.map f).extract ia (ia+k)) (ia+k) ib:=by
 obtain⟨o,rfl,h⟩:=h;refine⟨o++a.extract ia (ia+k),by rw[bM,Yu],?_⟩;rw[ZK,im];have e:a.toList.drop ia=(a.toList.drop ia).take k++a.toList.drop (ia+k):=by rw[<-List.drop_drop,Z8]
 have pa:(a.toList.drop ia).Pairwise (Lx lt):=(dE M.sa).sublist (Yx _ _);refine h.step ?_ (pa.sublist (ZH _ _)) fun x hx y hy=>?_
 ·rw[<-ZD,<-e]
 ·rcases Zu.mp hy with hy|hy
  ·rw[e]at pa;exact(ZR.mp pa).2.2 x hx y hy
  ·obtain⟨i,h1,h2,h3,rfl⟩:=xy hx;obtain⟨j,g1,g2,rfl⟩:=jE hy;have h3':i<a.size:=by simpa using h3
   have g2':j<b.size:=by simpa using g2
   rw[<-aJ,<-aJ];have w:=hw (i-ia) (by omega);rw[show ia+(i-ia)=i by omega]at w;refine M.cr i j h3' g2' ?_;cases e':lt (gA b j) (gA a i)with
   |false=>rfl
   |true=>rw[M.leB O g1 g2' e']at w;cases w
theorem LoM.chunkB(M:MF lt N a b)(O:LtOk lt){out:Array Keyed}{ia ib:Nat}(h:LoM lt f a b out ia ib)(k:Nat)(hk:ib+k<=b.size)(hb:ia<a.size)(hw:∀i,i<k->lt (gA b (ib+i)) (gA a ia)=true):LoM lt f a b (out++(b.map f).extract ib (ib+k)) ia (ib+k):=by
 obtain⟨o,rfl,h⟩:=h;refine⟨o++b.extract ib (ib+k),by rw[bM,Yu],?_⟩;rw[ZK,im];have e:b.toList.drop ib=(b.toList.drop ib).take k++b.toList.drop (ib+k):=by rw[<-List.drop_drop,Z8]
 have pb:(b.toList.drop ib).Pairwise (Lx lt):=(dE M.sb).sublist (Yx _ _);refine h.step ?_ (pb.sublist (ZH _ _)) fun x hx y hy=>?_
 ·refine(List.perm_append_comm_assoc _ _ _).trans ?_;rw[<-e]
 ·rcases Zu.mp hy with hy|hy
  ·obtain⟨i,h1,h2,h3,rfl⟩:=xy hx;obtain⟨j,g1,g2,rfl⟩:=jE hy;have g2':j<a.size:=by simpa using g2
   rw[<-aJ,<-aJ];have w:=hw (i-ib) (by omega);rw[show ib+(i-ib)=i by omega]at w;exact Lx.of_lt O (M.leA O g1 g2' w)
  ·rw[e]at pb;exact(ZR.mp pb).2.2 x hx y hy
theorem kr{out:Array Keyed}{p:Array Nat}{i:Nat}(hi:i<p.size):out.push (f (gA p i))=out++(p.map f).extract i (i+1):=by
 apply Array.toList_inj.mp;rw[Array.toList_push,ZK,bM,Array.toList_map,im];have hi':i<p.toList.length:=by simpa using hi
 have e:(p.toList.drop i).take 1=[gA p i]:=by rw[List.drop_eq_getElem_cons hi',aJ,Zf,Zb hi'];rfl
 rw[e];rfl
theorem LoM.pushA(M:MF lt N a b)(O:LtOk lt){out:Array Keyed}{ia ib:Nat}(h:LoM lt f a b out ia ib)(ha:ia<a.size)(hb:ib<b.size)(hw:lt (gA b ib) (gA a ia)=false):LoM lt f a b (out.push (f (gA a ia))) (ia+1) ib:=by rw[kr ha];refine h.chunkA M O 1 (by omega) hb fun i hi=>?_;rw[show ia+i=ia by omega];exact hw
theorem LoM.pushB(M:MF lt N a b)(O:LtOk lt){out:Array Keyed}{ia ib:Nat}(h:LoM lt f a b out ia ib)(ha:ia<a.size)(hb:ib<b.size)(hw:lt (gA b ib) (gA a ia)=true):LoM lt f a b (out.push (f (gA b ib))) ia (ib+1):=by rw[kr hb];refine h.chunkB M O 1 (by omega) ha fun i hi=>?_;rw[show ib+i=ib by omega];exact hw
theorem LoM.done(M:MF lt N a b){out:Array Keyed}{ia ib:Nat}(h:LoM lt f a b out ia ib)(he:ia=a.size\/ib=b.size):Gd lt f a b (out++(a.map f).extract ia a.size++(b.map f).extract ib b.size):=by
 obtain⟨o,rfl,h⟩:=h;have pa:(a.toList.drop ia).Pairwise (Lx lt):=(dE M.sa).sublist (Yx _ _);have pb:(b.toList.drop ib).Pairwise (Lx lt):=(dE M.sb).sublist (Yx _ _);refine⟨o++a.extract ia a.size++b.extract ib b.size,by rw[bM,bM,Yu,Yu],?_⟩;rw[ZK,ZK,il,il,ZD];refine h _ (List.Perm.refl _) ?_;rcases he with rfl|rfl
 ·rw[Y7 (by simp),x5];exact pb
 ·rw[Y7 (l:=b.toList) (by simp),ZF];exact pa
theorem LoM.last(M:MF lt N a b)(O:LtOk lt){out:Array Keyed}{ia ib:Nat}(h:LoM lt f a b out ia ib)(he:ia+1=a.size):Gd lt f a b (out++(b.map f).extract ib b.size++(a.map f).extract ia a.size):=by
 obtain⟨o,rfl,h⟩:=h;have pa:(a.toList.drop ia).Pairwise (Lx lt):=(dE M.sa).sublist (Yx _ _);have pb:(b.toList.drop ib).Pairwise (Lx lt):=(dE M.sb).sublist (Yx _ _);refine⟨o++b.extract ib b.size++a.extract ia a.size,by rw[bM,bM,Yu,Yu],?_⟩;rw[ZK,ZK,il,il,ZD];refine h _ List.perm_append_comm (ZR.mpr ⟨pb,pa,fun x hx y hy=>?_⟩);obtain⟨i,h1,h3,rfl⟩:=jE hx;obtain⟨j,g1,g2,rfl⟩:=jE hy;have g2':j<a.size:=by simpa using g2
 rw[<-aJ,<-aJ];have w:=M.lst i (by simpa using h3);rw[show j=a.size-1 by omega];exact Lx.of_lt O w
theorem LoM.start(M:MF lt N a b)(O:LtOk lt):LoM lt f a b #[f (gA b 0)] 0 1:=by
 have h:LoM lt f a b #[] 0 0:=⟨#[],by simp,fun r hr hs=>⟨hs,hr⟩⟩
 exact h.pushB M O M.a0 M.b0 M.fst
theorem tU{out:Array Keyed}(p:Array Nat)(i j:Nat)(o:Array Nat)(e:out=o.map f):out++((p.map f).extract i j).reverse=(o++(p.extract i j).reverse).map f:=by rw[e,bM,Yu,Array.map_reverse]
theorem mP(p:Array Nat)(i j:Nat):(p.extract i j).toList=(p.toList.take j).drop i:=by rw[Array.toList_extract,List.extract_eq_take_drop,List.drop_take]
theorem xz{l:List Nat}{i j x:Nat}(h:x∈(l.take j).drop i):∃k,i<=k/\k<j/\k<l.length/\l.getD k 0=x:=by obtain⟨k,h1,h2,e⟩:=jE h;rw[ZE]at h2;refine⟨k,h1,by omega,by omega,?_⟩;rw[<-e,Zf,Zf,List.getElem?_take,if_pos (by omega)]
theorem HiM.chunkA(M:MF lt N a b)(O:LtOk lt){out:Array Keyed}{na nb:Nat}(h:HiM lt f a b out na nb)(k:Nat)(hk:k<=na)(ha:na<=a.size)(hb1:0<nb)(hb:nb<=b.size)(hw:∀i,k<=i->i<na->lt (gA b (nb-1)) (gA a i)=true):HiM lt f a b (out++((a.map f).extract k na).reverse) k nb:=by
 obtain⟨o,e0,h⟩:=h;refine⟨o++(a.extract k na).reverse,tU a k na o e0,?_⟩;rw[ZK,Array.toList_reverse,List.reverse_append,List.reverse_reverse,mP];have e:a.toList.take na=a.toList.take k++(a.toList.take na).drop k:=by have:=Z8 k (a.toList.take na);rw[List.take_take,Nat.min_eq_left hk]at this;exact this.symm
 have pa:(a.toList.take na).Pairwise (Lx lt):=(dE M.sa).sublist (ZH _ _);refine h.step ?_ (pa.sublist (Yx _ _)) fun y hy x hx=>?_
 ·rw[ZD];refine(List.perm_append_comm.append_left _).trans ?_;rw[<-ZD,<-e]
 ·rcases Zu.mp hy with hy|hy
  ·rw[e]at pa;exact(ZR.mp pa).2.2 y hy x hx
  ·obtain⟨i,h1,h2,h3,rfl⟩:=xz hx;obtain⟨j,g1,g2,rfl⟩:=jF hy;rw[<-aJ,<-aJ];exact Lx.of_lt O (M.leB O (show j<=nb-1 by omega) (by omega) (hw i h1 h2))
theorem HiM.chunkB(M:MF lt N a b)(O:LtOk lt){out:Array Keyed}{na nb:Nat}(h:HiM lt f a b out na nb)(k:Nat)(hk:k<=nb)(ha:na<=a.size)(ha1:0<na)(hb:nb<=b.size)(hw:∀i,k<=i->i<nb->lt (gA b i) (gA a (na-1))=false):HiM lt f a b (out++((b.map f).extract k nb).reverse) na k:=by
 obtain⟨o,e0,h⟩:=h;refine⟨o++(b.extract k nb).reverse,tU b k nb o e0,?_⟩;rw[ZK,Array.toList_reverse,List.reverse_append,List.reverse_reverse,mP];have e:b.toList.take nb=b.toList.take k++(b.toList.take nb).drop k:=by have:=Z8 k (b.toList.take nb);rw[List.take_take,Nat.min_eq_left hk]at this;exact this.symm
 have pb:(b.toList.take nb).Pairwise (Lx lt):=(dE M.sb).sublist (ZH _ _);refine h.step ?_ (pb.sublist (Yx _ _)) fun y hy x hx=>?_
 ·rw[ZD,<-e]
 ·rcases Zu.mp hy with hy|hy
  ·obtain⟨i,h1,h2,h3,rfl⟩:=xz hx;obtain⟨j,g1,g2,rfl⟩:=jF hy;have h3':i<b.size:=by simpa using h3
   have g2':j<a.size:=by simpa using g2
   rw[<-aJ,<-aJ];have w:=hw i h1 h2;refine M.cr j i g2' h3' ?_;cases e':lt (gA b i) (gA a j)with
   |false=>rfl
   |true=>rw[M.leA O (show j<=na-1 by omega) (by omega) e']at w;cases w
  ·rw[e]at pb;exact(ZR.mp pb).2.2 y hy x hx
theorem qT{out:Array Keyed}{p:Array Nat}{i:Nat}(hi:i<p.size):out.push (f (gA p i))=out++((p.map f).extract i (i+1)).reverse:=by
 have e:=kr (f:=f) (out:=#[]) hi;have e2:(p.map f).extract i (i+1)=#[f (gA p i)]:=by rw[<-Array.empty_append (xs:=(p.map f).extract i (i+1)),<-e];rfl
 rw[e2];rfl
theorem HiM.pushA(M:MF lt N a b)(O:LtOk lt){out:Array Keyed}{na nb:Nat}(h:HiM lt f a b out na nb)(ha1:0<na)(ha:na<=a.size)(hb1:0<nb)(hb:nb<=b.size)(hw:lt (gA b (nb-1)) (gA a (na-1))=true):HiM lt f a b (out.push (f (gA a (na-1)))) (na-1) nb:=by rw[qT (show na-1<a.size by omega),Nat.sub_add_cancel ha1];refine h.chunkA M O (na-1) (by omega) ha hb1 hb fun i h1 h2=>?_;rw[show i=na-1 by omega];exact hw
theorem HiM.pushB(M:MF lt N a b)(O:LtOk lt){out:Array Keyed}{na nb:Nat}(h:HiM lt f a b out na nb)(ha1:0<na)(ha:na<=a.size)(hb1:0<nb)(hb:nb<=b.size)(hw:lt (gA b (nb-1)) (gA a (na-1))=false):HiM lt f a b (out.push (f (gA b (nb-1)))) na (nb-1):=by rw[qT (show nb-1<b.size by omega),Nat.sub_add_cancel hb1];refine h.chunkB M O (nb-1) (by omega) ha ha1 hb fun i h1 h2=>?_;rw[show i=nb-1 by omega];exact hw
theorem HiM.done(M:MF lt N a b){out:Array Keyed}{na nb:Nat}(h:HiM lt f a b out na nb)(he:na=0\/nb=0):Gd lt f a b ((a.map f).extract 0 na++(b.map f).extract 0 nb++out.reverse):=by
 obtain⟨o,rfl,h⟩:=h;have pa:(a.toList.take na).Pairwise (Lx lt):=(dE M.sa).sublist (ZH _ _);have pb:(b.toList.take nb).Pairwise (Lx lt):=(dE M.sb).sublist (ZH _ _);refine⟨a.extract 0 na++b.extract 0 nb++o.reverse,by rw[bM,bM,Yu,Yu,Array.map_reverse],?_⟩;rw[ZK,ZK,io,io,Array.toList_reverse];refine h _ (List.Perm.refl _) ?_;rcases he with rfl|rfl
 ·exact pb
 ·rw[List.take_zero,ZF];exact pa
theorem HiM.first(M:MF lt N a b)(O:LtOk lt){out:Array Keyed}{na nb:Nat}(h:HiM lt f a b out na nb)(he:nb=1):Gd lt f a b ((b.map f).extract 0 nb++(a.map f).extract 0 na++out.reverse):=by
 obtain⟨o,rfl,h⟩:=h;have pa:(a.toList.take na).Pairwise (Lx lt):=(dE M.sa).sublist (ZH _ _);have pb:(b.toList.take nb).Pairwise (Lx lt):=(dE M.sb).sublist (ZH _ _);refine⟨b.extract 0 nb++a.extract 0 na++o.reverse,by rw[bM,bM,Yu,Yu,Array.map_reverse],?_⟩;rw[ZK,ZK,io,io,Array.toList_reverse];refine h _ List.perm_append_comm (ZR.mpr ⟨pb,pa,fun x hx y hy=>?_⟩);obtain⟨i,h1,h3,rfl⟩:=jF hx;obtain⟨j,g1,g2,rfl⟩:=jF hy;have g2':j<a.size:=by simpa using g2
 rw[<-aJ,<-aJ,show i=0 by omega];exact Lx.of_lt O (M.leA O (ZZ _) g2' M.fst)
theorem HiM.start(M:MF lt N a b)(O:LtOk lt):HiM lt f a b #[f (gA a (a.size-1))] (a.size-1) b.size:=by
 have h:HiM lt f a b #[] a.size b.size:=⟨#[],by simp,fun r hr hs=>by
  rw[Yf (by simp),Yf (by simp)]at hr;have e:(#[]:Array Nat).toList.reverse=[]:=rfl;rw[e,ZF];exact⟨hs,hr⟩⟩
 exact h.pushA M O M.a0 (Ze _) M.b0 (Ze _) (M.lst _ (by have:=M.b0;omega))
end
open PySem PyProof.Rows PySem.W
abbrev LoC:=Option (Array Keyed)×Array Keyed×Nat×Nat×Nat×Nat×Nat
def iB(a b out:Array Keyed)(ia ib:Nat):Array Keyed:=out++a.extract ia a.size++b.extract ib b.size
def lI(a b out:Array Keyed)(ia ib:Nat):Array Keyed:=out++b.extract ib b.size++a.extract ia a.size
def uY(a b out:Array Keyed)(ia ib mg ac bc:Nat):StateT SortSt Sem (ForInStep LoC):=do
 let x ←elem' a ia
 if(ia+1+1==a.size)=true then pure (.done (some (lI a b (out.push x) (ia+1) ib),out.push x,ia+1,ib,mg,ac,bc))
 else if(decide (ac<7)&&decide (bc<7))=true then pure (.done (none,out.push x,ia+1,ib,mg,ac,bc))else pure (.yield (none,out.push x,ia+1,ib,mg,ac,bc))
def uX(a b out:Array Keyed)(ia ib mg ac bc:Nat):StateT SortSt Sem (ForInStep LoC):=do
 let y ←elem' b ib
 if(ib+1==b.size)=true then pure (.done (some (iB a b (out.push y) ia (ib+1)),out.push y,ia,ib+1,mg,ac,bc))
 else do
  let x ←elem' a ia
  let some k ←eV true x b (ib+1) (b.size-(ib+1)) 0|pure (.done (some (iB a b (out.push y) ia (ib+1)),out.push y,ia,ib+1,mg,ac,bc))
  if k>0 then
   if(ib+1+k==b.size)=true then pure (.done (some (iB a b (out.push y++b.extract (ib+1) (ib+1+k)) ia (ib+1+k)),out.push y++b.extract (ib+1) (ib+1+k),ia,ib+1+k,mg,ac,k))
   else uY a b (out.push y++b.extract (ib+1) (ib+1+k)) ia (ib+1+k) mg ac k
  else uY a b (out.push y) ia (ib+1) mg ac k
def Db(a b out:Array Keyed)(ia ib mg ac bc:Nat):StateT SortSt Sem (ForInStep LoC):=do
 ju mg
 let y ←elem' b ib
 let some k ←eV false y a ia (a.size-ia) 0|pure (.done (some (iB a b out ia ib),out,ia,ib,mg,ac,bc))
 if k>0 then
  if(ia+k+1==a.size)=true then pure (.done (some (lI a b (out++a.extract ia (ia+k)) (ia+k) ib),out++a.extract ia (ia+k),ia+k,ib,mg,k,bc))
  else if(ia+k==a.size)=true then pure (.done (some (iB a b (out++a.extract ia (ia+k)) (ia+k) ib),out++a.extract ia (ia+k),ia+k,ib,mg,k,bc))
  else uX a b (out++a.extract ia (ia+k)) (ia+k) ib mg k bc
 else uX a b out ia ib mg k bc
section
variable{prog:Program}{w:World}{A:Around}{E:Value->Shared->Prop}{s:Shared}{κ:SortKind}{it:Array Keyed}{lt:Nat->Nat->Bool}{N:Nat}{st:SortSt}{a b:Array Nat}
def kH(st:SortSt)(g:Nat):SortSt:=SortSt.mk' (kindOf st) (arrOf st) (pendingOf st) g (failedOf st)
def SG'(st st':SortSt):Prop:=∃g,st'=kH st g
theorem SG'.refl:SG' st st:=⟨gallopOf st,rfl⟩
theorem SG'.set{st':SortSt}(h:SG' st st')(g:Nat):SG' st (kH st' g):=by obtain⟨g',rfl⟩:=h;exact⟨g,rfl⟩
theorem SG'.kind{st':SortSt}(h:SG' st st')(hk:kindOf st=κ):kindOf st'=κ:=by obtain⟨g',rfl⟩:=h;exact hk
theorem pP{g:Nat}{Q:Unit->SortSt->Prop}(h:Q () (kH st g)):wpS (model prog w) A E s (ju g) Q st:=by have e:ju g=modify fun st=>kH st g:=rfl;rw[e];exact wpS_modify h
theorem bf{q:Array Nat}{i:Nat}{Q:Keyed->SortSt->Prop}(hi:i<q.size)(h:Q (kas_item it (gA q i)) st):wpS (model prog w) A E s (elem' (q.map (kas_item it)) i) Q st:=by rw[EN hi];exact Zq h
theorem aG{α:Type}{c:Prop}[Decidable c]{x y:StateT SortSt Sem α}{Q:α->SortSt->Prop}(h1:c->wpS (model prog w) A E s x Q st)(h2:¬c->wpS (model prog w) A E s y Q st):wpS (model prog w) A E s (if c then x else y) Q st:=by
 split
 ·exact h1 ‹_›
 ·exact h2 ‹_›
def LoI(lt:Nat->Nat->Bool)(f:Nat->Keyed)(a b:Array Nat)(n:Nat)(c:LoC):Prop:=∃out ia ib mg ac bc,c=(none,out,ia,ib,mg,ac,bc)/\LoM lt f a b out ia ib/\ia+1<a.size/\ib<b.size/\n<=ia+ib
def LoQ(lt:Nat->Nat->Bool)(f:Nat->Keyed)(a b:Array Nat)(st:SortSt)(n:Nat)(r:ForInStep LoC)(st':SortSt):Prop:=SG' st st'/\match r with
 |.done c=>(∃r d,c=(some r,d)/\Gd lt f a b r)\/LoI lt f a b n c
 |.yield c=>LoI lt f a b n c
theorem yG(O:LtOk lt)(M:MF lt N a b){out:Array Keyed}{ia ib mg ac bc n:Nat}{st0:SortSt}(g:SG' st0 st)(l:LoM lt (kas_item it) a b out ia ib)(h1:ia+1<a.size)(h2:ib<b.size)(hn:n<=ia+ib)(hw:lt (gA b ib) (gA a ia)=false) :
  wpS (model prog w) A E s (uY (a.map (kas_item it)) (b.map (kas_item it)) out ia ib mg ac bc) (LoQ lt (kas_item it) a b st0 n) st:=by
 unfold uY lI;rw[YK,YK];refine Zj (bf (by omega) ?_);have l3:=l.pushA M O (by omega) h2 hw;refine aG (fun e=>?_) fun e=>aG (fun _=>?_) fun _=>?_
 ·exact Zq ⟨g,.inl ⟨_,_,rfl,l3.last M O (by simpa using e)⟩⟩
 ·have e':ia+1+1≠a.size:=by simpa using e
  exact Zq ⟨g,.inr ⟨_,_,_,_,_,_,rfl,l3,by omega,h2,by omega⟩⟩
 ·have e':ia+1+1≠a.size:=by simpa using e
  exact Zq ⟨g,⟨_,_,_,_,_,_,rfl,l3,by omega,h2,by omega⟩⟩
theorem yF(Z:Zc prog w A s κ it lt N)(O:LtOk lt)(M:MF lt N a b){out:Array Keyed}{ia ib mg ac bc n:Nat}{st0:SortSt}(hk:kindOf st0=κ)(g:SG' st0 st)(l:LoM lt (kas_item it) a b out ia ib)(h1:ia+1<a.size)(h2:ib<b.size)(hn:n<=ia+ib)(hw:lt (gA b ib) (gA a ia)=true) :
  wpS (model prog w) A E s (uX (a.map (kas_item it)) (b.map (kas_item it)) out ia ib mg ac bc) (LoQ lt (kas_item it) a b st0 n) st:=by
 unfold uX iB;rw[YK,YK];refine Zj (bf h2 ?_);have l3:=l.pushB M O (by omega) h2 hw;refine aG (fun e=>?_) fun e=>?_
 ·exact Zq ⟨g,.inl ⟨_,_,rfl,l3.done M (.inr (by simpa using e))⟩⟩
 have e':ib+1≠b.size:=by simpa using e
 refine Zj (bf (by omega) (Zj (jO Z (g.kind hk) (M.na _ (by omega)) (by omega) (fun i _ _=>M.nb i (by omega)) (by omega) (fun i j h3 h4 h5=>?_) fun k hk1 hk2 hk3=>?_)))
 ·exact M.leB O (by omega) (by omega) h5
 refine aG (fun hp=>aG (fun e=>?_) fun e=>?_) fun hp=>?_
 ·have l4:=l3.chunkB M O k (by omega) (by omega) hk2;exact Zq ⟨g,.inl ⟨_,_,rfl,l4.done M (.inr (by simpa using e))⟩⟩
 ·have l4:=l3.chunkB M O k (by omega) (by omega) hk2;have e2:ib+1+k≠b.size:=by simpa using e
  exact yG O M g l4 h1 (by omega) (by omega) (hk3 k (Ze _) (by omega))
 ·have e3:k=0:=by omega
  subst e3;exact yG O M g l3 h1 (by omega) (by omega) (hk3 0 (Ze _) (by omega))
theorem yE(Z:Zc prog w A s κ it lt N)(O:LtOk lt)(M:MF lt N a b){out:Array Keyed}{ia ib mg ac bc n:Nat}{st0:SortSt}(hk:kindOf st0=κ)(g:SG' st0 st)(l:LoM lt (kas_item it) a b out ia ib)(h1:ia+1<a.size)(h2:ib<b.size)(hn:n<=ia+ib) :
  wpS (model prog w) A E s (Db (a.map (kas_item it)) (b.map (kas_item it)) out ia ib mg ac bc) (LoQ lt (kas_item it) a b st0 n) st:=by
 unfold Db iB lI;rw[YK,YK];have tf:∀{x y:Nat},zB lt false x y=true->lt x y=false:=fun{x y} z=>by have z':(!lt x y)=true:=z;simpa using z'
 have ft:∀{x y:Nat},zB lt false x y=false->lt x y=true:=fun{x y} z=>by have z':(!lt x y)=false:=z;simpa using z'
 refine Zj (pP (Zj (bf h2 (Zj (jO Z ((g.set _).kind hk) (M.nb _ h2) (by omega) (fun i _ _=>M.na i (by omega)) (by omega) (fun i j h3 h4 h5=>?_) fun k hk1 hk2 hk3=>?_)))))
 ·have z:=tf h5;show(!lt (gA b ib) (gA a (ia+i)))=true;cases e:lt (gA b ib) (gA a (ia+i))with
  |false=>rfl
  |true=>rw[M.leA O (show ia+i<=ia+j by omega) (by omega) e]at z;cases z
 refine aG (fun hp=>aG (fun e=>?_) fun e=>aG (fun e2=>?_) fun e2=>?_) fun hp=>?_
 ·have l4:=l.chunkA M O k (by omega) h2 fun i hi=>tf (hk2 i hi);exact Zq ⟨g.set _,.inl ⟨_,_,rfl,l4.last M O (by simpa using e)⟩⟩
 ·have l4:=l.chunkA M O k (by omega) h2 fun i hi=>tf (hk2 i hi);exact Zq ⟨g.set _,.inl ⟨_,_,rfl,l4.done M (.inl (by simpa using e2))⟩⟩
 ·have l4:=l.chunkA M O k (by omega) h2 fun i hi=>tf (hk2 i hi);have e':ia+k+1≠a.size:=by simpa using e
  have e2':ia+k≠a.size:=by simpa using e2
  exact yF Z O M hk (g.set _) l4 (by omega) h2 (by omega) (ft (hk3 k (Ze _) (by omega)))
 ·have e3:k=0:=by omega
  subst e3;exact yF Z O M hk (g.set _) l (by omega) h2 (by omega) (ft (hk3 0 (Ze _) (by omega)))
theorem Gb(Z:Zc prog w A s κ it lt N)(O:LtOk lt)(M:MF lt N a b){Q:Array Keyed->SortSt->Prop}(hk:kindOf st=κ)(h:∀r st',Gd lt (kas_item it) a b r->SG' st st'->Q r st'):wpS (model prog w) A E s (zLo (a.map (kas_item it)) (b.map (kas_item it))) Q st:=by
 have a0:=M.a0;have b0:=M.b0;have za:(a.map (kas_item it)).size=a.size:=YK ..;have zb:(b.map (kas_item it)).size=b.size:=YK ..;rw[EM];refine Zj (wpS_lift (YO ⟨rfl,?_⟩));refine Zj (bf b0 ?_);have l0:=LoM.start (f:=kas_item it) M O;have dn:∀{out ia ib},LoM lt (kas_item it) a b out ia ib->ia=a.size\/ib=b.size->Gd lt (kas_item it) a b (out++(a.map (kas_item it)).extract ia (a.map (kas_item it)).size++(b.map (kas_item it)).extract ib (b.map (kas_item it)).size):=fun h e=>by rw[za,zb];exact h.done M e
 have ls:∀{out ia ib},LoM lt (kas_item it) a b out ia ib->ia+1=a.size->Gd lt (kas_item it) a b (out++(b.map (kas_item it)).extract ib (b.map (kas_item it)).size++(a.map (kas_item it)).extract ia (a.map (kas_item it)).size):=fun h e=>by rw[za,zb];exact h.last M O e
 have hit:∀{α:Type} {c:Prop} [Decidable c] {x y:StateT SortSt Sem α} {Q:α->SortSt->Prop} {st:SortSt},(c->wpS (model prog w) A E s x Q st)->(¬c->wpS (model prog w) A E s y Q st)->wpS (model prog w) A E s (if c then x else y) Q st:=fun h1 h2=>by
  split
  ·exact h1 ‹_›
  ·exact h2 ‹_›
 refine hit (fun e1=>?_) fun e1=>hit (fun e2=>?_) fun e2=>?_
 ·exact Zq (h _ _ (dn l0 (.inr (by rw[<-zb];simpa using e1))) .refl)
 ·exact Zq (h _ _ (ls l0 (by rw[<-za];simpa using e2)) .refl)
 have e1':1≠b.size:=by rw[<-zb];simpa using e1
 have e2':1≠a.size:=by rw[<-za];simpa using e2
 refine Zj (wpS_get ?_);have J:∀{γ:Type} {m:StateT SortSt Sem γ} {Q R:γ->SortSt->Prop} {st:SortSt},wpS (model prog w) A E s m R st->(∀c st,R c st->Q c st)->wpS (model prog w) A E s m Q st:=fun h k=>Yt h k;refine Zj (Yt (Yi (I:=fun x c st'=>SG' st st'/\∃ out ia ib mg,c=(none,out,ia,ib,mg)/\LoM lt (kas_item it) a b out ia ib/\ia+1<a.size/\ib<b.size/\x+1<=ia+ib)
  (Q:=fun c st'=>SG' st st'/\∃ r d,c=(some r,d)/\Gd lt (kas_item it) a b r) ?step ?fin ⟨.refl,_,0,1,_,rfl,l0,by omega,by omega,by omega⟩) ?post)
 case fin =>rintro c st' ⟨_,out,ia,ib,mg,rfl,_,h1,h2,h3⟩;rw[za,zb]at h3;omega
 case post =>rintro c st' ⟨g,r,d,rfl,hr⟩;exact Zq (h r st' hr g)
 case step =>
  rintro x c st1 _ hx ⟨g,out,ia,ib,mg,rfl,l1,h1,h2,h3⟩;refine Zj (Yt (Yi (I:=fun y c st'=>st'=st1/\∃ out ia' ib' ac bc,c=(none,out,ia',ib',ac,bc)/\LoM lt (kas_item it) a b out ia' ib'/\ia'+1<a.size/\ib'<b.size/\ia+ib+y<=ia'+ib')
   (Q:=fun c st'=>st'=st1/\((∃ r d,c=(some r,d)/\Gd lt (kas_item it) a b r)\/∃ out ia' ib' ac bc,c=(none,out,ia',ib',ac,bc)/\LoM lt (kas_item it) a b out ia' ib'/\ia'+1<a.size/\ib'<b.size/\ia+ib+1<=ia'+ib')) ?step1 ?fin1 ⟨rfl,_,ia,ib,_,_,rfl,l1,h1,h2,by omega⟩) ?post1)
  case fin1 =>rintro c st' ⟨rfl,out,ia',ib',ac,bc,rfl,l2,g1,g2,g3⟩;exact⟨rfl,.inr ⟨out,ia',ib',ac,bc,rfl,l2,g1,g2,by rw[za,zb]at g3;omega⟩⟩
  case step1 =>
   rintro y c st' _ hy ⟨rfl,out,ia',ib',ac,bc,rfl,l2,g1,g2,g3⟩;dsimp only;refine Zj (bf g2 (Zj (bf (show ia'<a.size by omega) (Zj (rR Z (g.kind hk) (M.nb _ g2) (M.na _ (by omega)) ?_)))));cases ew:lt (gA b ib') (gA a ia')with
   |true =>
    refine hit (fun _=>?_) (fun z=>absurd rfl z);refine Zj (bf g2 ?_);have l3:=l2.pushB M O (by omega) g2 ew;refine hit (fun e=>?_) fun e=>hit (fun _=>?_) fun _=>?_
    ·exact Zq ⟨rfl,.inl ⟨_,_,rfl,dn l3 (.inr (by rw[<-zb];simpa using e))⟩⟩
    ·exact Zq ⟨rfl,.inr ⟨_,_,_,_,_,rfl,l3,g1,by have:ib'+1≠b.size:=(by rw[<-zb];simpa using e);omega,by omega⟩⟩
    ·exact Zq ⟨rfl,_,_,_,_,_,rfl,l3,g1,by have:ib'+1≠b.size:=(by rw[<-zb];simpa using e);omega,by omega⟩
   |false =>
    refine hit (fun z=>absurd z (by simp)) fun _=>?_;refine Zj (bf (show ia'<a.size by omega) ?_);have l3:=l2.pushA M O (by omega) g2 ew;refine hit (fun e=>?_) fun e=>hit (fun _=>?_) fun _=>?_
    ·exact Zq ⟨rfl,.inl ⟨_,_,rfl,ls l3 (by rw[<-za];simpa using e)⟩⟩
    ·exact Zq ⟨rfl,.inr ⟨_,_,_,_,_,rfl,l3,by have:ia'+1+1≠a.size:=(by rw[<-za];simpa using e);omega,g2,by omega⟩⟩
    ·exact Zq ⟨rfl,_,_,_,_,_,rfl,l3,by have:ia'+1+1≠a.size:=(by rw[<-za];simpa using e);omega,g2,by omega⟩
  case post1 =>
   rintro c st' ⟨rfl,⟨r,d,rfl,hr⟩|⟨out,ia',ib',ac,bc,rfl,l2,g1,g2,g3⟩⟩
   ·exact Zq ⟨g,r,_,rfl,hr⟩
   refine Zj (wpS_lift (YO ⟨rfl,?_⟩));refine Zj (Yt (Yi (I:=fun y c st'=>SG' st st'/\∃ out ia1 ib1 mg ac bc,c=(none,out,ia1,ib1,mg,ac,bc)/\LoM lt (kas_item it) a b out ia1 ib1/\ia1+1<a.size/\ib1<b.size/\ia'+ib'<=ia1+ib1)
    (Q:=fun c st'=>SG' st st'/\((∃ r d,c=(some r,d)/\Gd lt (kas_item it) a b r)\/∃ out ia1 ib1 mg ac bc,c=(none,out,ia1,ib1,mg,ac,bc)/\LoM lt (kas_item it) a b out ia1 ib1/\ia1+1<a.size/\ib1<b.size/\ia'+ib'<=ia1+ib1)) ?step2 ?fin2 ⟨g,_,_,_,_,_,_,rfl,l2,g1,g2,Ze _⟩) ?post2)
   case fin2 =>rintro c st2 ⟨gg,hh⟩;exact⟨gg,.inr hh⟩
   case post2 =>
    rintro c st2 ⟨gg,⟨r,d,rfl,hr⟩|⟨out,ia1,ib1,mg,ac,bc,rfl,l3,k1,k2,k3⟩⟩
    ·exact Zq ⟨gg,r,_,rfl,hr⟩
    ·exact Zj (pP (Zq ⟨gg.set _,out,ia1,ib1,_,rfl,l3,k1,k2,by omega⟩))
   case step2 =>
    rintro y c st2 _ hy ⟨gg,out,ia1,ib1,mg,ac,bc,rfl,l3,k1,k2,k3⟩;dsimp only;refine aG (fun _=>?_) fun _=>?_
    ·exact Yt (yE (n:=ia'+ib') (mg:=mg-1) (ac:=ac) (bc:=bc) Z O M hk gg l3 k1 k2 k3) fun r st3 hr=>by
      cases r with
      |done c=>exact hr
      |yield c=>exact hr
    ·exact Yt (yE (n:=ia'+ib') (mg:=mg) (ac:=ac) (bc:=bc) Z O M hk gg l3 k1 k2 k3) fun r st3 hr=>by
      cases r with
      |done c=>exact hr
      |yield c=>exact hr
end
open PySem PyProof.Rows PySem.W
def gl(a b out:Array Keyed)(na nb:Nat):Array Keyed:=a.extract 0 na++b.extract 0 nb++out.reverse
def uQ(a b out:Array Keyed)(na nb:Nat):Array Keyed:=b.extract 0 nb++a.extract 0 na++out.reverse
abbrev HiC:=Option (Array Keyed)×Nat×Nat×Array Keyed×Nat×Nat×Nat
def uT(a b:Array Keyed)(na nb:Nat)(out:Array Keyed)(mg ac bc:Nat):StateT SortSt Sem (ForInStep HiC):=do
 let x ←elem' a (na-1)
 if(na-1==0)=true then pure (.done (some (gl a b (out.push x) (na-1) nb),na-1,nb,out.push x,mg,ac,bc))
 else if(decide (ac<7)&&decide (bc<7))=true then pure (.done (none,na-1,nb,out.push x,mg,ac,bc))else pure (.yield (none,na-1,nb,out.push x,mg,ac,bc))
def uR(a b:Array Keyed)(na nb:Nat)(out:Array Keyed)(mg ac bc:Nat):StateT SortSt Sem (ForInStep HiC):=do
 let y ←elem' b (nb-1)
 if(nb-1==1)=true then pure (.done (some (uQ a b (out.push y) na (nb-1)),na,nb-1,out.push y,mg,ac,bc))
 else do
  let x ←elem' a (na-1)
  let some k ←eV true x b 0 (nb-1) (nb-1-1)|pure (.done (some (gl a b (out.push y) na (nb-1)),na,nb-1,out.push y,mg,ac,bc))
  if nb-1-k>0 then
   if(k==1)=true then pure (.done (some (uQ a b (out.push y++(b.extract k (nb-1)).reverse) na k),na,k,out.push y++(b.extract k (nb-1)).reverse,mg,ac,nb-1-k))
   else if(k==0)=true then pure (.done (some (gl a b (out.push y++(b.extract k (nb-1)).reverse) na k),na,k,out.push y++(b.extract k (nb-1)).reverse,mg,ac,nb-1-k))
   else uT a b na k (out.push y++(b.extract k (nb-1)).reverse) mg ac (nb-1-k)
  else uT a b na (nb-1) (out.push y) mg ac (nb-1-k)
def CV(a b:Array Keyed)(na nb:Nat)(out:Array Keyed)(mg ac bc:Nat):StateT SortSt Sem (ForInStep HiC):=do
 ju mg
 let y ←elem' b (nb-1)
 let some k ←eV false y a 0 na (na-1)|pure (.done (some (gl a b out na nb),na,nb,out,mg,ac,bc))
 if na-k>0 then
  if(k==0)=true then pure (.done (some (gl a b (out++(a.extract k na).reverse) k nb),k,nb,out++(a.extract k na).reverse,mg,na-k,bc))
  else uR a b k nb (out++(a.extract k na).reverse) mg (na-k) bc
 else uR a b na nb out mg (na-k) bc
section
variable{prog:Program}{w:World}{A:Around}{E:Value->Shared->Prop}{s:Shared}{κ:SortKind}{it:Array Keyed}{lt:Nat->Nat->Bool}{N:Nat}{st:SortSt}{a b:Array Nat}
def HiI(lt:Nat->Nat->Bool)(f:Nat->Keyed)(a b:Array Nat)(n:Nat)(c:HiC):Prop:=∃na nb out mg ac bc,c=(none,na,nb,out,mg,ac,bc)/\HiM lt f a b out na nb/\1<=na/\na<=a.size/\2<=nb/\nb<=b.size/\na+nb<=n
def HiQ(lt:Nat->Nat->Bool)(f:Nat->Keyed)(a b:Array Nat)(st:SortSt)(n:Nat)(r:ForInStep HiC)(st':SortSt):Prop:=SG' st st'/\match r with
 |.done c=>(∃r d,c=(some r,d)/\Gd lt f a b r)\/HiI lt f a b n c
 |.yield c=>HiI lt f a b n c
theorem yD(O:LtOk lt)(M:MF lt N a b){out:Array Keyed}{na nb mg ac bc n:Nat}{st0:SortSt}(g:SG' st0 st)(l:HiM lt (kas_item it) a b out na nb)(h1:1<=na)(h1':na<=a.size)(h2:2<=nb)(h2':nb<=b.size)(hn:na+nb<=n)(hw:lt (gA b (nb-1)) (gA a (na-1))=true) :
  wpS (model prog w) A E s (uT (a.map (kas_item it)) (b.map (kas_item it)) na nb out mg ac bc) (HiQ lt (kas_item it) a b st0 n) st:=by
 unfold uT gl;refine Zj (bf (by omega) ?_);have l3:=l.pushA M O (by omega) h1' (by omega) h2' hw;refine aG (fun e=>?_) fun e=>aG (fun _=>?_) fun _=>?_
 ·exact Zq ⟨g,.inl ⟨_,_,rfl,l3.done M (.inl (by simpa using e))⟩⟩
 ·have e':na-1≠0:=by simpa using e
  exact Zq ⟨g,.inr ⟨_,_,_,_,_,_,rfl,l3,by omega,by omega,h2,h2',by omega⟩⟩
 ·have e':na-1≠0:=by simpa using e
  exact Zq ⟨g,⟨_,_,_,_,_,_,rfl,l3,by omega,by omega,h2,h2',by omega⟩⟩
theorem yC(Z:Zc prog w A s κ it lt N)(O:LtOk lt)(M:MF lt N a b){out:Array Keyed}{na nb mg ac bc n:Nat}{st0:SortSt}(hk:kindOf st0=κ)(g:SG' st0 st)(l:HiM lt (kas_item it) a b out na nb)(h1:1<=na)(h1':na<=a.size)(h2:2<=nb)(h2':nb<=b.size)(hn:na+nb<=n)(hw:lt (gA b (nb-1)) (gA a (na-1))=false) :
  wpS (model prog w) A E s (uR (a.map (kas_item it)) (b.map (kas_item it)) na nb out mg ac bc) (HiQ lt (kas_item it) a b st0 n) st:=by
 unfold uR gl uQ;refine Zj (bf (by omega) ?_);have l3:=l.pushB M O (by omega) h1' (by omega) h2' hw;refine aG (fun e=>?_) fun e=>?_
 ·exact Zq ⟨g,.inl ⟨_,_,rfl,l3.first M O (by simpa using e)⟩⟩
 have e':nb-1≠1:=by simpa using e
 have z0:∀i,0+i=i:=fun i=>by omega
 refine Zj (bf (by omega) (Zj (jO Z (g.kind hk) (M.na _ (by omega)) (by omega) (fun i _ _=>M.nb i (by omega)) (by omega) (fun i j h3 h4 h5=>?_) fun k hk1 hk2 hk3=>?_)))
 ·rw[z0]at h5 ⊢;exact M.leB O (by omega) (by omega) h5
 have hk3':∀i,k<=i->i<nb-1->lt (gA b i) (gA a (na-1))=false:=fun i x y=>by have:=hk3 i x y;rw[z0]at this;exact this
 have hk2':∀i,i<k->lt (gA b i) (gA a (na-1))=true:=fun i x=>by have:=hk2 i x;rw[z0]at this;exact this
 refine aG (fun hp=>aG (fun e=>?_) fun e=>aG (fun e2=>?_) fun e2=>?_) fun hp=>?_
 ·have l4:=l3.chunkB M O k (by omega) h1' (by omega) (by omega) hk3';exact Zq ⟨g,.inl ⟨_,_,rfl,l4.first M O (by simpa using e)⟩⟩
 ·have l4:=l3.chunkB M O k (by omega) h1' (by omega) (by omega) hk3';exact Zq ⟨g,.inl ⟨_,_,rfl,l4.done M (.inr (by simpa using e2))⟩⟩
 ·have l4:=l3.chunkB M O k (by omega) h1' (by omega) (by omega) hk3';have q1:k≠1:=by simpa using e
  have q2:k≠0:=by simpa using e2
  exact yD O M g l4 h1 h1' (by omega) (by omega) (by omega) (hk2' (k-1) (by omega))
 ·have e3:k=nb-1:=by omega
  exact yD O M g l3 h1 h1' (by omega) (by omega) (by omega) (hk2' (nb-1-1) (by omega))
theorem yB(Z:Zc prog w A s κ it lt N)(O:LtOk lt)(M:MF lt N a b){out:Array Keyed}{na nb mg ac bc n:Nat}{st0:SortSt}(hk:kindOf st0=κ)(g:SG' st0 st)(l:HiM lt (kas_item it) a b out na nb)(h1:1<=na)(h1':na<=a.size)(h2:2<=nb)(h2':nb<=b.size)(hn:na+nb<=n) :
  wpS (model prog w) A E s (CV (a.map (kas_item it)) (b.map (kas_item it)) na nb out mg ac bc) (HiQ lt (kas_item it) a b st0 n) st:=by
 unfold CV gl;have z0:∀i,0+i=i:=fun i=>by omega
 have tf:∀{x y:Nat},zB lt false x y=true->lt x y=false:=fun{x y} z=>by have z':(!lt x y)=true:=z;simpa using z'
 have ft:∀{x y:Nat},zB lt false x y=false->lt x y=true:=fun{x y} z=>by have z':(!lt x y)=false:=z;simpa using z'
 refine Zj (pP (Zj (bf (by omega) (Zj (jO Z ((g.set _).kind hk) (M.nb _ (by omega)) (by omega) (fun i _ _=>M.na i (by omega)) (by omega) (fun i j h3 h4 h5=>?_) fun k hk1 hk2 hk3=>?_)))))
 ·rw[z0]at h5 ⊢;have z:=tf h5;show(!lt (gA b (nb-1)) (gA a i))=true;cases e:lt (gA b (nb-1)) (gA a i)with
  |false=>rfl
  |true=>rw[M.leA O h3 (by omega) e]at z;cases z
 have hk3':∀i,k<=i->i<na->lt (gA b (nb-1)) (gA a i)=true:=fun i x y=>by have:=ft (hk3 i x y);rw[z0]at this;exact this
 have hk2':∀i,i<k->lt (gA b (nb-1)) (gA a i)=false:=fun i x=>by have:=tf (hk2 i x);rw[z0]at this;exact this
 refine aG (fun hp=>aG (fun e=>?_) fun e=>?_) fun hp=>?_
 ·have l4:=l.chunkA M O k (by omega) h1' (by omega) h2' hk3';exact Zq ⟨g.set _,.inl ⟨_,_,rfl,l4.done M (.inl (by simpa using e))⟩⟩
 ·have l4:=l.chunkA M O k (by omega) h1' (by omega) h2' hk3';have q1:k≠0:=by simpa using e
  exact yC Z O M hk (g.set _) l4 (by omega) (by omega) h2 h2' (by omega) (hk2' (k-1) (by omega))
 ·have e3:k=na:=by omega
  exact yC Z O M hk (g.set _) l h1 h1' h2 h2' hn (hk2' (na-1) (by omega))
theorem Ga(Z:Zc prog w A s κ it lt N)(O:LtOk lt)(M:MF lt N a b){Q:Array Keyed->SortSt->Prop}(hk:kindOf st=κ)(h:∀r st',Gd lt (kas_item it) a b r->SG' st st'->Q r st'):wpS (model prog w) A E s (zHi (a.map (kas_item it)) (b.map (kas_item it))) Q st:=by
 have a0:=M.a0;have b0:=M.b0;have za:(a.map (kas_item it)).size=a.size:=YK ..;have zb:(b.map (kas_item it)).size=b.size:=YK ..;rw[EL];refine Zj (wpS_lift (YO ⟨rfl,?_⟩));rw[za,zb];refine Zj (bf (by omega) ?_);have l0:=HiM.start (f:=kas_item it) M O;refine aG (fun e1=>?_) fun e1=>aG (fun e2=>?_) fun e2=>?_
 ·exact Zq (h _ _ (l0.done M (.inl (by simpa using e1))) .refl)
 ·exact Zq (h _ _ (l0.first M O (by simpa using e2)) .refl)
 have e1':a.size-1≠0:=by simpa using e1
 have e2':b.size≠1:=by simpa using e2
 refine Zj (wpS_get ?_);refine Zj (Yt (Yi (I:=fun x c st'=>SG' st st'/\∃ na nb out mg,c=(none,na,nb,out,mg)/\HiM lt (kas_item it) a b out na nb/\1<=na/\na<=a.size/\2<=nb/\nb<=b.size/\na+nb+x<=a.size+b.size)
  (Q:=fun c st'=>SG' st st'/\∃ r d,c=(some r,d)/\Gd lt (kas_item it) a b r) ?step ?fin ⟨.refl,_,_,_,_,rfl,l0,by omega,by omega,by omega,by omega,by omega⟩) ?post)
 case fin =>rintro c st' ⟨_,na,nb,out,mg,rfl,_,h1,h1',h2,h2',h3⟩;omega
 case post =>rintro c st' ⟨g,r,d,rfl,hr⟩;exact Zq (h r st' hr g)
 case step =>
  rintro x c st1 _ hx ⟨g,na,nb,out,mg,rfl,l1,h1,h1',h2,h2',h3⟩;refine Zj (Yt (Yi (I:=fun y c st'=>st'=st1/\∃ na' nb' out ac bc,c=(none,na',nb',out,ac,bc)/\HiM lt (kas_item it) a b out na' nb'/\1<=na'/\na'<=a.size/\2<=nb'/\nb'<=b.size/\na'+nb'+y<=na+nb)
   (Q:=fun c st'=>st'=st1/\((∃ r d,c=(some r,d)/\Gd lt (kas_item it) a b r)\/∃ na' nb' out ac bc,c=(none,na',nb',out,ac,bc)/\HiM lt (kas_item it) a b out na' nb'/\1<=na'/\na'<=a.size/\2<=nb'/\nb'<=b.size/\na'+nb'+1<=na+nb)) ?step1 ?fin1 ⟨rfl,na,nb,out,0,0,rfl,l1,h1,h1',h2,h2',by omega⟩) ?post1)
  case fin1 =>rintro c st' ⟨rfl,na',nb',out,ac,bc,rfl,l2,g1,g1',g2,g2',g3⟩;exact⟨rfl,.inr ⟨na',nb',out,ac,bc,rfl,l2,g1,g1',g2,g2',by omega⟩⟩
  case step1 =>
   rintro y c st' _ hy ⟨rfl,na',nb',out,ac,bc,rfl,l2,g1,g1',g2,g2',g3⟩;dsimp only;refine Zj (bf (by omega) (Zj (bf (by omega) (Zj (rR Z (g.kind hk) (M.nb _ (by omega)) (M.na _ (by omega)) ?_)))));cases ew:lt (gA b (nb'-1)) (gA a (na'-1))with
   |true =>
    refine aG (fun _=>?_) (fun z=>absurd rfl z);refine Zj (bf (by omega) ?_);have l3:=l2.pushA M O (by omega) g1' (by omega) g2' ew;refine aG (fun e=>?_) fun e=>aG (fun _=>?_) fun _=>?_
    ·exact Zq ⟨rfl,.inl ⟨_,_,rfl,l3.done M (.inl (by simpa using e))⟩⟩
    ·have e':na'-1≠0:=by simpa using e
     exact Zq ⟨rfl,.inr ⟨_,_,_,_,_,rfl,l3,by omega,by omega,g2,g2',by omega⟩⟩
    ·have e':na'-1≠0:=by simpa using e
     exact Zq ⟨rfl,_,_,_,_,_,rfl,l3,by omega,by omega,g2,g2',by omega⟩
   |false =>
    refine aG (fun z=>absurd z (by simp)) fun _=>?_;refine Zj (bf (by omega) ?_);have l3:=l2.pushB M O (by omega) g1' (by omega) g2' ew;refine aG (fun e=>?_) fun e=>aG (fun _=>?_) fun _=>?_
    ·exact Zq ⟨rfl,.inl ⟨_,_,rfl,l3.first M O (by simpa using e)⟩⟩
    ·have e':nb'-1≠1:=by simpa using e
     exact Zq ⟨rfl,.inr ⟨_,_,_,_,_,rfl,l3,g1,g1',by omega,by omega,by omega⟩⟩
    ·have e':nb'-1≠1:=by simpa using e
     exact Zq ⟨rfl,_,_,_,_,_,rfl,l3,g1,g1',by omega,by omega,by omega⟩
  case post1 =>
   rintro c st' ⟨rfl,⟨r,d,rfl,hr⟩|⟨na',nb',out,ac,bc,rfl,l2,g1,g1',g2,g2',g3⟩⟩
   ·exact Zq ⟨g,r,_,rfl,hr⟩
   refine Zj (wpS_lift (YO ⟨rfl,?_⟩));refine Zj (Yt (Yi (I:=fun y c st'=>SG' st st'/\HiI lt (kas_item it) a b (na'+nb') c)
    (Q:=fun c st'=>SG' st st'/\((∃ r d,c=(some r,d)/\Gd lt (kas_item it) a b r)\/HiI lt (kas_item it) a b (na'+nb') c)) ?step2 ?fin2 ⟨g,_,_,_,_,_,_,rfl,l2,g1,g1',g2,g2',Ze _⟩) ?post2)
   case fin2 =>rintro c st2 ⟨gg,hh⟩;exact⟨gg,.inr hh⟩
   case post2 =>
    rintro c st2 ⟨gg,⟨r,d,rfl,hr⟩|⟨na1,nb1,out,mg,ac,bc,rfl,l3,k1,k1',k2,k2',k3⟩⟩
    ·exact Zq ⟨gg,r,_,rfl,hr⟩
    ·exact Zj (pP (Zq ⟨gg.set _,na1,nb1,out,_,rfl,l3,k1,k1',k2,k2',by omega⟩))
   case step2 =>
    rintro y c st2 _ hy ⟨gg,na1,nb1,out,mg,ac,bc,rfl,l3,k1,k1',k2,k2',k3⟩;dsimp only;refine aG (fun _=>?_) fun _=>?_
    ·exact Yt (yB (n:=na'+nb') (mg:=mg-1) (ac:=ac) (bc:=bc) Z O M hk gg l3 k1 k1' k2 k2' k3) fun r st3 hr=>by
      cases r with
      |done c=>exact hr
      |yield c=>exact hr
    ·exact Yt (yB (n:=na'+nb') (mg:=mg) (ac:=ac) (bc:=bc) Z O M hk gg l3 k1 k1' k2 k2' k3) fun r st3 hr=>by
      cases r with
      |done c=>exact hr
      |yield c=>exact hr
end
open PySem PyProof.Rows PySem.W
theorem ur(at0:Nat):∀(l:List Keyed) (n:Nat) (ar:Array Keyed),at0+n+l.length<=ar.size->((l.zipIdx n).foldl (fun a (p,j)=>a.setIfInBounds (at0+j) p) ar).toList=ar.toList.take (at0+n)++(l++ar.toList.drop (at0+n+l.length))
 | [],n,ar,_=>by rw[x5,List.length_nil,Nat.add_zero,Z8];rfl
 |x::l,n,ar,h=>by
  rw[Zt]at h;rw[List.zipIdx_cons,List.foldl_cons];have hs:(ar.setIfInBounds (at0+n) x).size=ar.size:=Array.size_setIfInBounds;have ih:=ur at0 l (n+1) (ar.setIfInBounds (at0+n) x) (by omega);rw[ih,Array.toList_setIfInBounds];have hl:at0+n<ar.toList.length:=by rw[Zg];omega
  have e1:(ar.toList.set (at0+n) x).take (at0+(n+1))=ar.toList.take (at0+n)++[x]:=by rw[show at0+(n+1)=at0+n+1 by omega,List.take_add_one,List.take_set_of_le (Ze _)];rw[List.getElem?_set_self hl];rfl
  have e2:(ar.toList.set (at0+n) x).drop (at0+(n+1)+l.length)=ar.toList.drop (at0+n+(x::l).length):=by rw[List.drop_set_of_lt (by omega),Zt];congr 1;omega
  rw[e1,e2,ZD];rfl
theorem Cw{f:Nat->Keyed}{p q:Array Nat}{at0:Nat}(h:at0+q.size<=p.size):∃p':Array Nat,kP (p.map f) at0 (q.map f)=p'.map f/\p'.toList=p.toList.take at0++(q.toList++p.toList.drop (at0+q.size)):=by refine⟨(p.toList.take at0++(q.toList++p.toList.drop (at0+q.size))).toArray,?_,by simp⟩;apply Array.toList_inj.mp;have e:=ur at0 (q.map f).toList 0 (p.map f) (by simpa using h);unfold kP;rw[e];simp
section
variable{prog:Program}{w:World}{A:Around}{E:Value->Shared->Prop}{s:Shared}{κ:SortKind}{it:Array Keyed}{lt:Nat->Nat->Bool}{N:Nat}{st:SortSt}{a b:Array Nat}
theorem tm{l:List Nat}(h:l.Pairwise (Lx lt)){i j:Nat}(hij:i<j)(hj:j<l.length):Lx lt (l.getD i 0) (l.getD j 0):=by rw[Zw]at h;have:=h i j (by omega) hj hij;rw[Zf,Zf,Zb (show i<l.length by omega),Zb hj];exact this
theorem cU{l:List Nat}{i:Nat}(h:i<l.length):l.getD i 0∈l:=by rw[Zf,Zb h];exact ZC h
theorem qF{l:List Nat}{x:Nat}(h:x∈l):∃i,i<l.length/\l.getD i 0=x:=by obtain⟨i,hi,e⟩:=ZG.mp h;refine⟨i,hi,?_⟩;rw[Zf,Zb hi];exact e
theorem qr(O:LtOk lt){l:List Nat}(h:l.Pairwise (Lx lt)){i j:Nat}(hij:i<=j)(hj:j<l.length){x:Nat}(hx:lt x (l.getD i 0)=true):lt x (l.getD j 0)=true:=by
 rcases ZY i j with h1|h1
 ·exact O.lt_le hx (tm h h1 hj).1
 ·have e:i=j:=by omega
  rw[<-e];exact hx
theorem qt(O:LtOk lt){l:List Nat}(h:l.Pairwise (Lx lt)){i j:Nat}(hij:i<=j)(hj:j<l.length){x:Nat}(hx:lt (l.getD j 0) x=true):lt (l.getD i 0) x=true:=by
 rcases ZY i j with h1|h1
 ·exact O.le_lt (tm h h1 hj).1 hx
 ·have e:i=j:=by omega
  rw[e];exact hx
theorem F9(Z:Zc prog w A s κ it lt N)(O:LtOk lt){p:Array Nat}{pre X Y post:List Nat}{i pw pw2:Nat}{Q:Bool->SortSt->Prop}(hk:kindOf st=κ)(hf:failedOf st=none)(ha:arrOf st=p.map (kas_item it))(hp:p.toList=pre++(X++(Y++post)))(hX:X.Pairwise (Lx lt))(hY:Y.Pairwise (Lx lt))(hX0:0<X.length)(hY0:0<Y.length)(hXY:∀ x∈X,∀ y∈Y,x<y)(hN:∀ x∈p.toList,x<N)(h1:(pendingOf st)[i]? = some (pre.length,X.length,pw))(h2:(pendingOf st)[i+1]? = some (pre.length+X.length,Y.length,pw2))(h:∀ (st':SortSt) (p':Array Nat) (W:List Nat),kindOf st'=κ->failedOf st'=none->arrOf st'=p'.map (kas_item it)->p'.toList=pre++(W++post)->W.Pairwise (Lx lt)->W.Perm (X++Y) ->
   pendingOf st'=((pendingOf st).setIfInBounds i (pre.length,X.length+Y.length,pw)).eraseIdxIfInBounds (i+1)->Q true st'):wpS (model prog w) A E s (mergeAt' i) Q st:=by
 have psz:p.size=pre.length+(X.length+(Y.length+post.length)):=by rw[<-Zg,hp];simp
 have gX:∀i,i<X.length->gA p (pre.length+i)=X.getD i 0:=fun i hi=>by rw[aJ,hp,Zf,Zf,Z1 (by omega),y9,Yd hi]
 have gY:∀i,i<Y.length->gA p (pre.length+X.length+i)=Y.getD i 0:=fun i hi=>by rw[aJ,hp,Zf,Zf,Z1 (by omega),show pre.length+X.length+i-pre.length=X.length+i by omega,Z1 (by omega),y9,Yd hi]
 have nX:∀x∈X,x<N:=fun x hx=>hN x (by rw[hp];simp[hx]);have nY:∀x∈Y,x<N:=fun x hx=>hN x (by rw[hp];simp[hx]);have tf:∀{x y:Nat},zB lt false x y=true->lt x y=false:=fun{x y} z=>by have z':(!lt x y)=true:=z;simpa using z'
 have ft:∀{x y:Nat},zB lt false x y=false->lt x y=true:=fun{x y} z=>by have z':(!lt x y)=false:=z;simpa using z'
 rw[EK];refine Zj (wpS_get ?_);rw[h1,h2];have hset:∀{st2:SortSt} {Q:PUnit->SortSt->Prop},Q ⟨⟩ st2->wpS (model prog w) A E s (set st2:StateT SortSt Sem PUnit) Q st:=fun{st2 Q} hq=>by have e:(set st2:StateT SortSt Sem PUnit)=modify fun _=>st2:=rfl;rw[e];exact wpS_modify hq
 refine Zj (hset ?_);rw[ha];refine Zj (bf (by omega) ?_);have eY:gA p (pre.length+X.length)=Y.getD 0 0:=gY 0 hY0;rw[eY];refine Zj (jO Z hk (nY _ (cU hY0)) (by omega) (fun i h3 h4=>?_) hX0 (fun i j h3 h4 h5=>?_) fun k hk1 hk2 hk3=>?_)
 ·obtain⟨d,rfl⟩:∃d,i=pre.length+d:=⟨i-pre.length,by omega⟩
  rw[gX d (by omega)];exact nX _ (cU (by omega))
 ·rw[gX _ (by omega)]at h5 ⊢;have z:=tf h5;show(!lt (Y.getD 0 0) (X.getD i 0))=true;cases e:lt (Y.getD 0 0) (X.getD i 0)with
  |false=>rfl
  |true=>rw[qr O hX h3 h4 e]at z;cases z
 have k2:∀i,i<k->lt (Y.getD 0 0) (X.getD i 0)=false:=fun i hi=>by have:=tf (hk2 i hi);rw[gX i (by omega)]at this;exact this
 have k3:∀i,k<=i->i<X.length->lt (Y.getD 0 0) (X.getD i 0)=true:=fun i hi hi2=>by have:=ft (hk3 i hi hi2);rw[gX i (by omega)]at this;exact this
 have low:∀x∈X.take k,∀y∈Y,Lx lt x y:=fun x hx y hy=>by
  have hm:=y6 hx;obtain⟨i,i1,i2,rfl⟩:=jF hx;obtain⟨j,j1,rfl⟩:=qF hy;refine⟨?_,.inr (hXY _ hm _ hy)⟩;cases e:lt (Y.getD j 0) (X.getD i 0)with
  |false=>rfl
  |true=>rw[<-k2 i i1];exact(qt O hY (ZZ j) j1 e).symm
 refine aG (fun e0=>?_) fun e0=>?_
 ·have e0':X.length-k=0:=by simpa using e0
  refine Zq (h _ p (X++Y) hk hf ha (by rw[hp,ZD]) (ZR.mpr ⟨hX,hY,fun x hx y hy=>?_⟩) (List.Perm.refl _) rfl);exact low x (by rw[Yf (by omega)];exact hx) y hy
 have e0':X.length-k≠0:=by simpa using e0
 refine Zj (bf (by omega) ?_);have eXl:gA p (pre.length+k+(X.length-k)-1)=X.getD (X.length-1) 0:=by rw[show pre.length+k+(X.length-k)-1=pre.length+(X.length-1) by omega];exact gX _ (by omega)
 rw[eXl];refine Zj (jO Z hk (nX _ (cU (by omega))) (by omega) (fun i h3 h4=>?_) (by omega) (fun i j h3 h4 h5=>?_) fun c hc1 hc2 hc3=>?_)
 ·obtain⟨d,rfl⟩:∃d,i=pre.length+X.length+d:=⟨i-(pre.length+X.length),by omega⟩
  rw[gY d (by omega)];exact nY _ (cU (by omega))
 ·rw[gY _ (by omega)]at h5 ⊢;exact qt O hY h3 h4 h5
 have c2:∀i,i<c->lt (Y.getD i 0) (X.getD (X.length-1) 0)=true:=fun i hi=>by have:=hc2 i hi;rw[gY i (by omega)]at this;exact this
 have c3:∀i,c<=i->i<Y.length->lt (Y.getD i 0) (X.getD (X.length-1) 0)=false:=fun i hi hi2=>by have:=hc3 i hi hi2;rw[gY i (by omega)]at this;exact this
 refine aG (fun e1=>?_) fun e1=>?_
 ·have e1':c=0:=by simpa using e1
  have z1:=c3 0 (by omega) hY0;rw[k3 (X.length-1) (by omega) (by omega)]at z1;cases z1
 have e1':c≠0:=by simpa using e1
 have la:(p.extract (pre.length+k) (pre.length+X.length)).toList=X.drop k:=by rw[mP,hp,List.take_append,Yf (by omega),y9,List.take_left,List.drop_append,Y7 (by omega),x5,y9]
 have lb:(p.extract (pre.length+X.length) (pre.length+X.length+c)).toList=Y.take c:=by rw[im,hp,<-ZD,List.drop_append,Y7 (by simp),x5,Zi,Nat.sub_self,List.drop_zero,List.take_append,show c-Y.length=0 by omega,List.take_zero,ZF]
 have sza:(p.extract (pre.length+k) (pre.length+X.length)).size=X.length-k:=by rw[<-Zg,la,Yr]
 have szb:(p.extract (pre.length+X.length) (pre.length+X.length+c)).size=c:=by rw[<-Zg,lb,ZE];omega
 have ga:∀i,gA (p.extract (pre.length+k) (pre.length+X.length)) i=X.getD (k+i) 0:=fun i=>by rw[aJ,la,Zf,Zf,List.getElem?_drop]
 have gb:∀i,i<c->gA (p.extract (pre.length+X.length) (pre.length+X.length+c)) i=Y.getD i 0:=fun i hi=>by rw[aJ,lb,Zf,Zf,List.getElem?_take,if_pos hi]
 have M:MF lt N (p.extract (pre.length+k) (pre.length+X.length)) (p.extract (pre.length+X.length) (pre.length+X.length+c)):=by
  refine⟨vo (by rw[la];exact hX.sublist (Yx _ _)),vo (by rw[lb];exact hY.sublist (ZH _ _)),fun i j hi hj e=>?_,fun i hi=>?_,fun i hi=>?_,by omega,by omega,?_,fun j hj=>?_⟩
  ·rw[ga,gb j (by omega)]at e ⊢;exact⟨e,.inr (hXY _ (cU (by omega)) _ (cU (by omega)))⟩
  ·rw[ga];exact nX _ (cU (by omega))
  ·rw[gb i (by omega)];exact nY _ (cU (by omega))
  ·rw[ga,gb 0 (by omega)];exact k3 _ (by omega) (by omega)
  ·rw[ga,gb j (by omega),sza,show k+(X.length-k-1)=X.length-1 by omega];exact c2 j (by omega)
 have fin:∀(r:Array Keyed) (st2 st3:SortSt),Gd lt (kas_item it) (p.extract (pre.length+k) (pre.length+X.length)) (p.extract (pre.length+X.length) (pre.length+X.length+c)) r->kindOf st2=κ->failedOf st2=none->arrOf st2=p.map (kas_item it)->pendingOf st2=((pendingOf st).setIfInBounds i (pre.length,X.length+Y.length,pw)).eraseIdxIfInBounds (i+1)->SG' st2 st3 ->
   wpS (model prog w) A E s (do
    modify fun st=>setArr st (kP (arrOf st) (pre.length+k) r)
    return (failedOf (←get)).isNone) Q st3:=fun r st2 st3 ⟨q,eq,qs,qp⟩ j1 j2 j3 j4 ⟨g,eg⟩=>by
  subst eg;subst eq;rw[la,lb]at qp;have ql:q.size=X.length-k+c:=by have:=qp.length_eq;rw[Zi,Yr,ZE,Zg]at this;omega
  obtain⟨p',ep,lp⟩:=Cw (f:=kas_item it) (p:=p) (q:=q) (at0:=pre.length+k) (by omega);have lp':p'.toList=pre++((X.take k++(q.toList++Y.drop c))++post):=by rw[lp,hp,List.take_append,Yf (by omega),y9,List.take_append,show k-X.length=0 by omega,List.take_zero,ZF];rw[ZD,ZD,ZD];congr 2;congr 1;rw[ql,show pre.length+k+(X.length-k+c)=pre.length+X.length+c by omega,<-ZD,List.drop_append,Y7 (by simp),x5,Zi,y9,List.drop_append,show c-Y.length=0 by omega,List.drop_zero]
  refine Zj (wpS_modify (Zj (wpS_get ?_)));have hcr:∀x∈X,∀y∈Y.drop c,Lx lt x y:=fun x hx y hy=>by
   have hm:=List.mem_of_mem_drop hy;obtain⟨j,d1,d2,rfl⟩:=jE hy;obtain⟨i,i1,rfl⟩:=qF hx;refine⟨?_,.inr (hXY _ hx _ hm)⟩;cases e:lt (Y.getD j 0) (X.getD i 0)with
   |false=>rfl
   |true=>rw[<-c3 j d1 d2];exact(qr O hX (show i<=X.length-1 by omega) (by omega) e).symm
  have sX:=ZR.mp (show(X.take k++X.drop k).Pairwise (Lx lt) by rw[Z8];exact hX);have sY:=ZR.mp (show(Y.take c++Y.drop c).Pairwise (Lx lt) by rw[Z8];exact hY);have pwW:(X.take k++(q.toList++Y.drop c)).Pairwise (Lx lt):=by
   refine ZR.mpr ⟨sX.1,ZR.mpr ⟨qs,sY.2.1,fun x hx y hy=>?_⟩,fun x hx y hy=>?_⟩
   ·rcases Zu.mp (qp.mem_iff.mp hx)with hx|hx
    ·exact hcr x (List.mem_of_mem_drop hx) y hy
    ·exact sY.2.2 x hx y hy
   ·rcases Zu.mp hy with hy|hy
    ·rcases Zu.mp (qp.mem_iff.mp hy)with hy|hy
     ·exact sX.2.2 x hx y hy
     ·exact low x hx y (y6 hy)
    ·exact low x hx y (List.mem_of_mem_drop hy)
  have pmW:(X.take k++(q.toList++Y.drop c)).Perm (X++Y):=by refine((qp.append_right (Y.drop c)).append_left (X.take k)).trans ?_;rw[ZD,Z8,<-ZD,Z8]
  have ea:kP (arrOf (kH st2 g)) (pre.length+k) (q.map (kas_item it))=p'.map (kas_item it):=by show kP (arrOf st2) (pre.length+k) (q.map (kas_item it))=_;rw[j3];exact ep
  have eF:(failedOf (setArr (kH st2 g) (kP (arrOf (kH st2 g)) (pre.length+k) (q.map (kas_item it))))).isNone=true:=by show(failedOf st2).isNone=true;rw[j2];rfl
  rw[eF];exact Zq (h _ p' _ j1 j2 ea lp' pwW pmW j4)
 rw[bM,bM];refine aG (fun _=>?_) fun _=>?_
 ·exact Zj (Gb Z O M hk fun r st3 hr g=>fin r (setPending st (((pendingOf st).setIfInBounds i (pre.length,X.length+Y.length,pw)).eraseIdxIfInBounds (i+1))) st3 hr hk hf ha rfl g)
 ·exact Zj (Ga Z O M hk fun r st3 hr g=>fin r (setPending st (((pendingOf st).setIfInBounds i (pre.length,X.length+Y.length,pw)).eraseIdxIfInBounds (i+1))) st3 hr hk hf ha rfl g)
end
open PySem PyProof.Rows PySem.W
theorem KW.unbind{α β:Type}{lt:Nat->Nat->Bool}{Q:β->Prop}{f:α->KasT β}:∀{t:KasT α},KW lt Q (t.bind f)->KW lt (fun a=>KW lt Q (f a)) t
 |.ret _,h=>h
 |.ask i j k,h=>KW.unbind (t:=k (lt i j)) h
def pj(pre u:Array Nat):Array Nat:=pre++u.map (pre.size+·)
theorem jI(pre u:Array Nat):(pj pre u).size=pre.size+u.size:=by simp[pj]
theorem fg(pre u:Array Nat)(k:Nat):(pj pre u)[k]?=if k<pre.size then pre[k]? else(u[k-pre.size]?).map (pre.size+·):=by
 unfold pj;rw[Array.getElem?_append];split
 ·rfl
 ·rw[Array.getElem?_map]
theorem A0{pre u:Array Nat}{k:Nat}(hk:k<u.size):gA (pj pre u) (pre.size+k)=pre.size+gA u k:=by rw[gj,gj,fg,if_neg (by omega),y9];simp[hk]
theorem DS{pre u:Array Nat}{i j:Nat}(hj:j<=u.size):kas_rev (pj pre u) (pre.size+i) (pre.size+j)=pj pre (kas_rev u i j):=by
 apply Array.ext_getElem?;intro k;unfold kas_rev;rw[getElem?_mirror_all (by rw[jI];omega),fg,fg,fg,getElem?_mirror_all hj];by_cases h0:k<pre.size
 ·rw[if_neg (by omega),if_pos h0,if_pos h0]
 ·rw[if_neg h0,if_neg h0];by_cases h1:i<=k-pre.size/\k-pre.size<j
  ·rw[if_pos (by omega),if_neg (by omega),if_pos h1];congr 2;omega
  ·rw[if_neg (by omega),if_neg h1]
theorem DQ{pre u:Array Nat}{k d:Nat}(hk:k<u.size)(hd:d<=k):bubble (pj pre u) (pre.size+k) d=pj pre (bubble u k d):=by
 apply Array.ext_getElem?;intro i;rw[getElem?_bubble (by rw[jI];omega) d (by omega),fg,fg,fg,fg,getElem?_bubble hk d hd];by_cases h0:i<pre.size
 ·rw[if_neg (by omega),if_neg (by omega),if_pos h0,if_pos h0]
 ·rw[if_neg h0,if_neg h0];by_cases h1:i-pre.size=k-d
  ·rw[if_pos (by omega),if_pos h1,if_neg (by omega),y9]
  ·rw[if_neg (by omega),if_neg h1];by_cases h2:k-d<i-pre.size/\i-pre.size<=k
   ·rw[if_pos (by omega),if_pos h2,if_neg (by omega)];congr 2;omega
   ·rw[if_neg (by omega),if_neg h2]
section
variable{prog:Program}{w:World}{A:Around}{E:Value->Shared->Prop}{s:Shared}{κ:SortKind}{it:Array Keyed}{lt:Nat->Nat->Bool}{N:Nat}{st:SortSt}{pre u:Array Nat}
def stQ(it:Array Keyed)(st:SortSt)(q:Array Nat):SortSt:=setArr st (q.map (kas_item it))
structure Zp(prog:Program)(w:World)(A:Around)(s:Shared)(κ:SortKind)(it:Array Keyed)(lt:Nat->Nat->Bool)(N:Nat)(st:SortSt)(pre:Array Nat)(n:Nat):Prop where
 Z:Zc prog w A s κ it lt N
 hk:kindOf st=κ
 hN:pre.size+n=N
 n0:0<n
def ltS(lt:Nat->Nat->Bool)(lo:Nat):Nat->Nat->Bool:=fun i j=>lt (lo+i) (lo+j)
theorem mw{n:Nat}(P:Zp prog w A s κ it lt N st pre n)(hu:POk n u){i j:Nat}(hi:i<n)(hj:j<n){Q:Option Bool->SortSt->Prop}(h:Q (some (ltS lt pre.size (gA u i) (gA u j))) (stQ it st (pj pre u))):wpS (model prog w) A E s (ltAt' (pre.size+i) (pre.size+j)) Q (stQ it st (pj pre u)):=by
 have hz:u.size=n:=by have:=hu.size_eq;simpa using this
 have hN:=P.hN;rw[ltAt'_eq];refine Zj (wpS_get ?_);have ea:arrOf (stQ it st (pj pre u))=(pj pre u).map (kas_item it):=rfl;rw[ea];refine Zj (bf (by rw[jI];omega) (Zj (bf (by rw[jI];omega) ?_)));rw[A0 (by omega),A0 (by omega)];have b1:=hu.lt P.n0 i;have b2:=hu.lt P.n0 j;exact rR P.Z P.hk (by unfold gA;omega) (by unfold gA;omega) h
theorem pO{n:Nat}(hu:POk n u){i j:Nat}(hj:j<=n){Q:Unit->SortSt->Prop}(h:Q () (stQ it st (pj pre (kas_rev u i j)))):wpS (model prog w) A E s (reverseSlice' (pre.size+i) (pre.size+j)) Q (stQ it st (pj pre u)):=by
 have hz:u.size=n:=by have:=hu.size_eq;simpa using this
 rw[reverseSlice'_eq];refine wpS_modify ?_;have e1:mirror ((pj pre u).map (kas_item it)) (pre.size+i) (pre.size+j) ((pre.size+j-(pre.size+i)) / 2)=(kas_rev (pj pre u) (pre.size+i) (pre.size+j)).map (kas_item it):=kas_swaps_map (kas_item it) (fun k=>pre.size+i+k) (fun k=>pre.size+j-1-k) _ (pj pre u);have e2:setArr (stQ it st (pj pre u)) (mirror (arrOf (stQ it st (pj pre u))) (pre.size+i) (pre.size+j) ((pre.size+j-(pre.size+i)) / 2))=stQ it st (pj pre (kas_rev u i j)):=by show setArr st (mirror ((pj pre u).map (kas_item it)) (pre.size+i) (pre.size+j) ((pre.size+j-(pre.size+i)) / 2))=setArr st ((pj pre (kas_rev u i j)).map (kas_item it));rw[e1,DS (by omega)]
 rw[e2];exact h
theorem FI{n:Nat}(hu:POk n u){k l:Nat}(hk:k<n){Q:Unit->SortSt->Prop}(h:Q () (stQ it st (pj pre (bubble u k (k-l))))):wpS (model prog w) A E s (moveDown' (pre.size+k) (pre.size+l)) Q (stQ it st (pj pre u)):=by
 have hz:u.size=n:=by have:=hu.size_eq;simpa using this
 rw[moveDown'_eq];refine wpS_modify ?_;have e1:bubble ((pj pre u).map (kas_item it)) (pre.size+k) (pre.size+k-(pre.size+l))=(bubble (pj pre u) (pre.size+k) (pre.size+k-(pre.size+l))).map (kas_item it):=kas_swaps_map (kas_item it) (fun i=>pre.size+k-i) (fun i=>pre.size+k-i-1) _ (pj pre u);have e2:setArr (stQ it st (pj pre u)) (bubble (arrOf (stQ it st (pj pre u))) (pre.size+k) (pre.size+k-(pre.size+l)))=stQ it st (pj pre (bubble u k (k-l))):=by show setArr st (bubble ((pj pre u).map (kas_item it)) (pre.size+k) (pre.size+k-(pre.size+l)))=setArr st ((pj pre (bubble u k (k-l))).map (kas_item it));rw[e1,show pre.size+k-(pre.size+l)=k-l by omega,DQ (by omega) (by omega)]
 rw[e2];exact h
def pk(lo m nr:Nat):StateT SortSt Sem (Option Nat):=do
 reverseSlice' lo (lo+m)
 let mut m:=m
 for _ in[m:nr]do
  let some sm ←ltAt' (lo+m) (lo+m-1)|return none
  if sm then break
  m:=m+1
 return some m
def AH(lo m nr:Nat):StateT SortSt Sem (Option Nat):=do
 liftM (rule "list.sort.descending-run");let mut m:=m+1;let mut qe:=0
 for _ in[m:nr]do
  let some sm ←ltAt' (lo+m) (lo+m-1)|return none
  if sm then
   if qe>0 then reverseSlice' (lo+m-(qe+1)) (lo+m)
   qe:=0
  else
   let some la ←ltAt' (lo+m-1) (lo+m)|return none
   if la then break
   qe:=qe+1
  m:=m+1
 if qe>0 then do
  reverseSlice' (lo+m-(qe+1)) (lo+m)
  pk lo m nr
 else pk lo m nr
theorem Bk{n:Nat}(P:Zp prog w A s κ it lt N st pre n)(hu:POk n u){m0:Nat}(h0:1<=m0)(hm:m0<=n){R:Nat->Prop}(hr:KW (ltS lt pre.size) R (kas_asc u (n - m0) m0)){f:Nat->Option (Option Nat)×Nat->StateT SortSt Sem (ForInStep (Option (Option Nat)×Nat))}(ef:∀ i m,f i (none,m)=(do
   let r ←ltAt' (pre.size+m) (pre.size+m-1)
   match r with
   |some sm=>if sm=true then pure (ForInStep.done (none,m))else pure (ForInStep.yield (none,m+1))
   | _=>pure (ForInStep.done (some none,m)))){Q:Option (Option Nat)×Nat->SortSt->Prop}(h:∀ m,m0<=m->m<=n->R m->Q (none,m) (stQ it st (pj pre u))) :
  wpS (model prog w) A E s (forIn [m0:n] ((none,m0):Option (Option Nat)×Nat) f) Q (stQ it st (pj pre u)):=by
 refine Yi (I:=fun i c st'=>c=(none,i)/\st'=stQ it st (pj pre u)/\i<=n/\KW (ltS lt pre.size) R (kas_asc u (n-i) i)) ?_ ?_ ⟨rfl,rfl,hm,hr⟩
 ·rintro i c st' hi1 hi2 ⟨rfl,rfl,hi3,hkw⟩;rw[ef];rw[show n-i=(n-(i+1))+1 by omega]at hkw;have hkw':KW (ltS lt pre.size) R (if ltS lt pre.size (gA u i) (gA u (i-1))=true then .ret i else kas_asc u (n-(i+1)) (i+1)):=hkw;rw[show pre.size+i-1=pre.size+(i-1) by omega];refine Zj (mw P hu hi2 (by omega) ?_);refine aG (fun e=>?_) fun e=>?_
  ·rw[if_pos e]at hkw';exact Zq (h i hi1 hi3 hkw')
  ·rw[if_neg e]at hkw';exact Zq ⟨rfl,rfl,by omega,hkw'⟩
 ·rintro c st' ⟨rfl,rfl,hi3,hkw⟩;rw[Nat.max_eq_right hm]at hkw ⊢;rw[Nat.sub_self]at hkw;exact h n hm (Ze _) hkw
theorem yH{n:Nat}(P:Zp prog w A s κ it lt N st pre n)(hu:POk n u){m0:Nat}(h0:1<=m0)(hm:m0<=n){G:Nat×Array Nat->Prop}{Q:Option Nat->SortSt->Prop}(hr:KW (ltS lt pre.size) G (kas_tail3 m0 n u))(h:∀m u',POk n u'->1<=m->m<=n->G (m,u')->Q (some m) (stQ it st (pj pre u'))) :
  wpS (model prog w) A E s (pk pre.size m0 n) Q (stQ it st (pj pre u)):=by
 unfold pk;have hr':=KW.unbind hr;have z:=pO (prog:=prog) (w:=w) (A:=A) (E:=E) (s:=s) (it:=it) (st:=st) (pre:=pre) (i:=0) (j:=m0) hu hm (Q:=fun _ st'=>st'=stQ it st (pj pre (kas_rev u 0 m0))) rfl;rw[Nat.add_zero]at z;refine Zj (Yt z fun _ st' e=>?_);subst e;refine Zj (Bk P (hu.rev 0 m0) h0 hm hr' (fun i m=>rfl) fun m h1 h2 h3=>?_);exact Zq (h m _ (hu.rev 0 m0) (by omega) h2 h3)
end
open PySem PyProof.Rows PySem.W
section
variable{lt:Nat->Nat->Bool}(O:LtOk lt){N:Nat}
include O
theorem tK:∀(f:Nat) {p:Array Nat} {k:Nat},k+f<=N->1<=k->Fx N p k->LS lt p k->KW lt (fun p=>Fx N p (k+f)/\LS lt p (k+f)) (kas_bin f p k)
 |0,p,k,e,_,hf,hs=>⟨hf,hs⟩
 |f+1,p,k,e,h1,hf,hs=>by
  refine KW.bind (KW.mono (fun m hm=>?_) (iA O hs k 0 k (by omega) (Ze _) (fun i hi=>absurd hi (by omega)) (fun i h2 h3=>absurd h2 (by omega)) (ZZ _)));obtain⟨m1,m2,m3⟩:=hm;have hk:k<p.size:=by rw[hf.sz];omega
  have gk:gA p k=k:=hf.hi k (Ze _) (by omega);have ekm:k-(k-m)=m:=by omega
  have gb:∀i,gA (bubble p k (k-m)) i=if i=m then gA p k else if m<i/\i<=k then gA p (i-1)else gA p i:=fun i=>by rw[wY hk (by omega),ekm]
  rw[show k+(f+1)=k+1+f by omega];refine tK f (by omega) (by omega) ⟨by rw[bubble_size];exact hf.sz,fun i h2 h3=>?_,fun i hi=>?_⟩ (fun i j hij hj=>?_)
  ·rw[gb,if_neg (by omega),if_neg (by omega)];exact hf.hi i (by omega) h3
  ·rw[gb];split
   ·rw[gk];omega
   ·split
    ·have:=hf.lo (i-1) (by omega);omega
    ·have:=hf.lo i (by omega);omega
  ·have lk:∀i,i<m->Lx lt (gA p i) (gA p k):=fun i hi=>⟨m2 i hi,.inr (by rw[gk];exact hf.lo i (by omega))⟩
   have gt:∀i,m<=i->i<k->Lx lt (gA p k) (gA p i):=fun i h2 h3=>Lx.of_lt O (m3 i h2 h3);rw[gb,gb];by_cases a1:i=m
   ·rw[if_pos a1,if_neg (by omega),if_pos (by omega)];exact gt _ (by omega) (by omega)
   ·rw[if_neg a1];by_cases a2:m<i/\i<=k
    ·rw[if_pos a2,if_neg (by omega),if_pos (by omega)];exact hs _ _ (by omega) (by omega)
    ·rw[if_neg a2];by_cases b1:j=m
     ·rw[if_pos b1];exact lk i (by omega)
     ·rw[if_neg b1];by_cases b2:m<j/\j<=k
      ·rw[if_pos b2];exact hs _ _ (by omega) (by omega)
      ·rw[if_neg b2];exact hs _ _ hij (by omega)
end
section
variable{prog:Program}{w:World}{A:Around}{E:Value->Shared->Prop}{s:Shared}{κ:SortKind}{it:Array Keyed}{lt:Nat->Nat->Bool}{N:Nat}{st:SortSt}{pre u:Array Nat}
theorem yA{n:Nat}(P:Zp prog w A s κ it lt N st pre n)(hu:POk n u){m0:Nat}(h0:1<=m0)(hm:m0+1<=n){G:Nat×Array Nat->Prop}{Q:Option Nat->SortSt->Prop}(hr:KW (ltS lt pre.size) G (kas_descPart m0 n u))(h:∀m u',POk n u'->1<=m->m<=n->G (m,u')->Q (some m) (stQ it st (pj pre u'))) :
  wpS (model prog w) A E s (AH pre.size m0 n) Q (stQ it st (pj pre u)):=by
 unfold AH;have hr':=KW.unbind hr;refine Zj (wpS_lift (YO ⟨rfl,?_⟩));refine Zj (Yt (Yi (I:=fun i c st'=>∃ u' q,c=(none,i,q)/\st'=stQ it st (pj pre u')/\POk n u'/\i<=n/\q+1<=i/\KW (ltS lt pre.size) (fun r=>KW (ltS lt pre.size) G (if r.2.2>0 then kas_tail3 r.2.1 n (kas_rev r.1 (r.2.1 - (r.2.2+1)) r.2.1) else kas_tail3 r.2.1 n r.1)) (kas_desc (n - i) u' i q))
  (Q:=fun c st'=>∃ u' m q,c=(none,m,q)/\st'=stQ it st (pj pre u')/\POk n u'/\1<=m/\m<=n/\q+1<=m/\KW (ltS lt pre.size) G (if q>0 then kas_tail3 m n (kas_rev u' (m - (q+1)) m) else kas_tail3 m n u')) ?step ?fin ⟨u,0,rfl,rfl,hu,hm,by omega,hr'⟩) ?post)
 case fin =>rintro c st' ⟨u',q,rfl,rfl,hu',h1,h2,h3⟩;rw[Nat.max_eq_right hm]at h1 h2 h3 ⊢;rw[Nat.sub_self]at h3;exact⟨u',n,q,rfl,rfl,hu',by omega,Ze _,h2,h3⟩
 case post =>
  rintro c st' ⟨u',m,q,rfl,rfl,hu',h1,h2,h3,h4⟩;dsimp only;refine aG (fun hq=>?_) fun hq=>?_
  ·rw[if_pos hq]at h4;rw[show pre.size+m-(q+1)=pre.size+(m-(q+1)) by omega];exact Zj (pO hu' h2 (yH P (hu'.rev _ _) h1 h2 h4 h))
  ·rw[if_neg hq]at h4;exact yH P hu' h1 h2 h4 h
 case step =>
  rintro i c st' hi1 hi2 ⟨u',q,rfl,rfl,hu',h1,h2,h3⟩;dsimp only;rw[show n-i=(n-(i+1))+1 by omega]at h3;generalize hR:(fun r:Array Nat×Nat×Nat=>KW (ltS lt pre.size) G (if r.2.2>0 then kas_tail3 r.2.1 n (kas_rev r.1 (r.2.1-(r.2.2+1)) r.2.1)else kas_tail3 r.2.1 n r.1))=R at h3 ⊢;have h3':KW (ltS lt pre.size) R (if ltS lt pre.size (gA u' i) (gA u' (i - 1))=true then (if q>0 then kas_desc (n - (i+1)) (kas_rev u' (i - (q+1)) i) (i+1) 0 else kas_desc (n - (i+1)) u' (i+1) 0)
   else KasT.ask (gA u' (i - 1)) (gA u' i) fun d=>if d=true then .ret (u',i,q) else kas_desc (n - (i+1)) u' (i+1) (q+1)):=h3
  rw[show pre.size+i-1=pre.size+(i-1) by omega];refine Zj (mw P hu' hi2 (by omega) ?_);refine aG (fun e=>?_) fun e=>?_
  ·rw[if_pos e]at h3';refine aG (fun hq=>?_) fun hq=>?_
   ·rw[if_pos hq]at h3';rw[show pre.size+i-(q+1)=pre.size+(i-(q+1)) by omega];exact Zj (pO hu' h1 (Zq ⟨_,0,rfl,rfl,hu'.rev _ _,by omega,by omega,h3'⟩))
   ·rw[if_neg hq]at h3';exact Zq ⟨_,0,rfl,rfl,hu',by omega,by omega,h3'⟩
  ·rw[if_neg e]at h3';have h3'':KW (ltS lt pre.size) R (if ltS lt pre.size (gA u' (i-1)) (gA u' i)=true then .ret (u',i,q)else kas_desc (n-(i+1)) u' (i+1) (q+1)):=h3';refine Zj (mw P hu' (by omega) hi2 ?_);refine aG (fun e2=>?_) fun e2=>?_
   ·rw[if_pos e2]at h3'';have h5:R (u',i,q):=h3'';rw[<-hR]at h5;exact Zq ⟨u',i,q,rfl,rfl,hu',by omega,h1,h2,h5⟩
   ·rw[if_neg e2]at h3'';exact Zq ⟨_,q+1,rfl,rfl,hu',by omega,by omega,h3''⟩
theorem Cy{n:Nat}(P:Zp prog w A s κ it lt N st pre n)(hu:POk n u){G:Nat×Array Nat->Prop}{Q:Option Nat->SortSt->Prop}(hr:KW (ltS lt pre.size) G (kas_count n u))(h:∀m u',POk n u'->1<=m->m<=n->G (m,u')->Q (some m) (stQ it st (pj pre u'))) :
  wpS (model prog w) A E s (countRun' pre.size n) Q (stQ it st (pj pre u)):=by
 have n0:=P.n0;have hr':=KW.unbind hr;rw[countRun'_eq];refine Zj (Bk P hu (Ze 1) n0 hr' (fun i m=>rfl) fun m h1 h2 h3=>?_);dsimp only;refine aG (fun e=>?_) fun e=>?_
 ·rw[if_pos e]at h3;exact Zq (h m u hu h1 h2 h3)
 ·rw[if_neg e]at h3;have hlt:m+1<=n:=by
   have:m≠n:=by simpa using e
   omega
  refine aG (fun e2=>?_) fun e2=>?_
  ·rw[if_pos e2]at h3;have h3':KW (ltS lt pre.size) G (if ltS lt pre.size (gA u 0) (gA u (m-1))=true then .ret (m,u)else kas_descPart m n (kas_rev u 0 m)):=h3;have z:=mw (E:=E) P hu (i:=0) (j:=m-1) n0 (by omega) (Q:=fun r st'=>r=some (ltS lt pre.size (gA u 0) (gA u (m-1)))/\st'=stQ it st (pj pre u)) ⟨rfl,rfl⟩;rw[Nat.add_zero]at z;rw[show pre.size+m-1=pre.size+(m-1) by omega];refine Zj (Yt z fun r st' hz=>?_);obtain⟨rfl,rfl⟩:=hz;refine aG (fun e3=>?_) fun e3=>?_
   ·rw[if_pos e3]at h3';exact Zq (h m u hu h1 h2 h3')
   ·rw[if_neg e3]at h3';have z:=pO (prog:=prog) (w:=w) (A:=A) (E:=E) (s:=s) (it:=it) (st:=st) (pre:=pre) (i:=0) (j:=m) hu h2 (Q:=fun _ st'=>st'=stQ it st (pj pre (kas_rev u 0 m))) rfl;rw[Nat.add_zero]at z;refine Zj (Yt z fun _ st' ez=>?_);subst ez;exact yA P (hu.rev 0 m) h1 hlt h3' h
  ·rw[if_neg e2]at h3;exact yA P hu h1 hlt h3 h
theorem FG{n nf ok:Nat}(P:Zp prog w A s κ it lt N st pre n)(hu:POk n u)(hn:nf<=n){G:Array Nat->Prop}{Q:Bool->SortSt->Prop}(hr:KW (ltS lt pre.size) G (kas_bin (nf-max ok 1) u (max ok 1)))(h:∀u',POk n u'->G u'->Q true (stQ it st (pj pre u'))) :
  wpS (model prog w) A E s (binarySort' pre.size nf ok) Q (stQ it st (pj pre u)):=by
 rw[binarySort'_eq];refine Zj (Yt (Yi (I:=fun k c st'=>∃ u',c=(none,())/\st'=stQ it st (pj pre u')/\POk n u'/\KW (ltS lt pre.size) G (kas_bin (nf - k) u' k))
  (Q:=fun c st'=>∃ u',c=(none,())/\st'=stQ it st (pj pre u')/\POk n u'/\G u') ?step ?fin ⟨u,rfl,rfl,hu,hr⟩) ?post)
 case fin =>rintro c st' ⟨u',rfl,rfl,hu',h1⟩;rw[show nf-max (max ok 1) nf=0 by omega]at h1;exact⟨u',rfl,rfl,hu',h1⟩
 case post =>rintro c st' ⟨u',rfl,rfl,hu',h1⟩;exact Zq (h u' hu' h1)
 case step =>
  rintro k c st' hk1 hk2 ⟨u',rfl,rfl,hu',h1⟩;dsimp only;rw[show nf-k=(nf-(k+1))+1 by omega]at h1;have h1':=KW.unbind (show KW (ltS lt pre.size) G ((kas_place u' k k 0 k).bind fun l=>kas_bin (nf-(k+1)) (bubble u' k (k-l)) (k+1))from h1);generalize hR:(fun l:Nat=>KW (ltS lt pre.size) G (kas_bin (nf-(k+1)) (bubble u' k (k-l)) (k+1)))=R at h1';refine Zj (Yt (Yi (I:=fun x c st'=>∃ l r,c=(none,l,r)/\st'=stQ it st (pj pre u')/\r<=k/\KW (ltS lt pre.size) R (kas_place u' k (k - x) l r))
   (Q:=fun c st'=>∃ l r,c=(none,l,r)/\st'=stQ it st (pj pre u')/\R l) ?istep ?ifin ⟨0,k,rfl,rfl,Ze _,h1'⟩) ?ipost)
  case ifin =>rintro c st' ⟨l,r,rfl,rfl,g1,g2⟩;rw[show k-max 0 k=0 by omega]at g2;exact⟨l,r,rfl,rfl,g2⟩
  case ipost =>rintro c st' ⟨l,r,rfl,rfl,g2⟩;rw[<-hR]at g2;exact Zj (FI hu' (by omega) (Zq ⟨_,rfl,rfl,hu'.bub _ _,g2⟩))
  case istep =>
   rintro x c st' _ hx ⟨l,r,rfl,rfl,g1,g2⟩;dsimp only;rw[show k-x=(k-(x+1))+1 by omega]at g2;have g2':KW (ltS lt pre.size) R (if l>=r then KasT.ret l else KasT.ask (gA u' k) (gA u' ((l+r) / 2)) fun c=>if c=true then kas_place u' k (k-(x+1)) l ((l+r) / 2)else kas_place u' k (k-(x+1)) ((l+r) / 2+1) r):=g2;refine aG (fun e=>?_) fun e=>?_
   ·rw[if_pos e]at g2';exact Zq ⟨l,r,rfl,rfl,g2'⟩
   ·rw[if_neg e]at g2';have g3:KW (ltS lt pre.size) R (if ltS lt pre.size (gA u' k) (gA u' ((l+r) / 2))=true then kas_place u' k (k-(x+1)) l ((l+r) / 2)else kas_place u' k (k-(x+1)) ((l+r) / 2+1) r):=g2';refine Zj (mw P hu' (by omega) (by omega) ?_);refine aG (fun e2=>?_) fun e2=>?_
    ·rw[if_pos e2]at g3;exact Zq ⟨l,(l+r) / 2,rfl,rfl,by omega,g3⟩
    ·rw[if_neg e2]at g3;exact Zq ⟨(l+r) / 2+1,r,rfl,rfl,by omega,g3⟩
end
open PySem PyProof.Rows PySem.W
section
variable{lt:Nat->Nat->Bool}
def RunsL(lt:Nat->Nat->Bool):Nat->List (List Nat)->List (Nat×Nat×Nat)->Prop
 |_,[],[]=>True
 |b,r::rs,t::ts=>t.1=b/\t.2.1=r.length/\0<r.length/\r.Pairwise (Lx lt)/\r.Perm (List.range' b r.length)/\RunsL lt (b+r.length) rs ts
 |_,_,_=>False
theorem RunsL.len:∀{b:Nat} {rs:List (List Nat)} {ts:List (Nat×Nat×Nat)},RunsL lt b rs ts->rs.length=ts.length/\rs.length<=rs.flatten.length
 |_,[],[],_=>⟨rfl,Ze _⟩
 |_,r::rs,t::ts,⟨_,_,h,_,_,k⟩=>by have:=RunsL.len k;rw[Zt,Zt,YE,Zi];omega
theorem RunsL.snoc{r:List Nat}{x:Nat}(h0:0<r.length)(h1:r.Pairwise (Lx lt)):∀{b:Nat} {rs:List (List Nat)} {ts:List (Nat×Nat×Nat)},RunsL lt b rs ts->r.Perm (List.range' (b+rs.flatten.length) r.length)->RunsL lt b (rs++[r]) (ts++[(b+rs.flatten.length,r.length,x)])
 |_,[],[],_,hp=>⟨rfl,rfl,h0,h1,hp,trivial⟩
 |b,q::rs,t::ts,⟨e1,e2,e3,e4,e5,k⟩,hp=>by rw[YE,Zi,<-Nat.add_assoc]at hp;have ih:=RunsL.snoc (x:=x) h0 h1 k hp;rw[YE,Zi,<-Nat.add_assoc];exact⟨e1,e2,e3,e4,e5,ih⟩
theorem RunsL.pow{g:Nat×Nat×Nat->Nat×Nat×Nat}(hg:∀t,(g t).1=t.1/\(g t).2.1=t.2.1):∀(i:Nat) {b:Nat} {rs:List (List Nat)} {ts:List (Nat×Nat×Nat)},RunsL lt b rs ts->RunsL lt b rs (ts.modify i g)
 |_,_,[],[],_=>by rw[List.modify_nil];trivial
 |0,_,r::rs,t::ts,⟨e1,e2,e3,e4,e5,k⟩=>by rw[List.modify_zero_cons];exact⟨(hg t).1.trans e1,(hg t).2.trans e2,e3,e4,e5,k⟩
 |i+1,_,r::rs,t::ts,⟨e1,e2,e3,e4,e5,k⟩=>by rw[List.modify_succ_cons];exact⟨e1,e2,e3,e4,e5,RunsL.pow hg i k⟩
theorem RunsL.two:∀(i:Nat) {b:Nat} {rs:List (List Nat)} {ts:List (Nat×Nat×Nat)},RunsL lt b rs ts->i+1<ts.length->∃rs1 X Y rs2 pw pw2,rs=rs1++X::Y::rs2/\0<X.length/\0<Y.length/\X.Pairwise (Lx lt)/\Y.Pairwise (Lx lt)/\(∀x∈X,∀y∈Y,x<y) /\
  ts[i]?=some (b+rs1.flatten.length,X.length,pw)/\ts[i+1]?=some (b+rs1.flatten.length+X.length,Y.length,pw2) /\
  ∀W:List Nat,W.Pairwise (Lx lt)->W.Perm (X++Y)->RunsL lt b (rs1++W::rs2) ((ts.set i (b+rs1.flatten.length,X.length+Y.length,pw)).eraseIdx (i+1))
 |_,_,[],[],_,h=>absurd h (by simp)
 |0,b,X::[],t::[],_,h=>absurd h (by simp)
 |0,b,X::[],t::t2::ts,⟨_,_,_,_,_,k⟩,h=>k.elim
 |0,b,X::Y::rs,t::[],⟨_,_,_,_,_,k⟩,h=>k.elim
 |0,b,X::Y::rs,t::t2::ts,⟨e1,e2,e3,e4,e5,f1,f2,f3,f4,f5,k⟩,h=>by
  refine⟨[],X,Y,rs,t.2.2,t2.2.2,rfl,e3,f3,e4,f4,fun x hx y hy=>?_,?_,?_,fun W hw hp=>?_⟩
  ·have a1:=e5.mem_iff.mp hx;have a2:=f5.mem_iff.mp hy;rw[List.mem_range'_1]at a1 a2;omega
  ·show some t=some (b,X.length,t.2.2);rw[<-e1,<-e2]
  ·show some t2=some (b+X.length,Y.length,t2.2.2);rw[<-f1,<-f2]
  ·have hl:W.length=X.length+Y.length:=by rw[hp.length_eq,Zi]
   refine⟨rfl,hl.symm,by omega,hw,?_,?_⟩
   ·refine hp.trans ((e5.append f5).trans ?_);have:=List.range'_append (s:=b) (m:=X.length) (n:=Y.length) (step:=1);rw[Nat.one_mul]at this;rw[this,hl]
   ·rw[hl,<-Nat.add_assoc];exact k
 |i+1,b,r::rs,t::ts,⟨e1,e2,e3,e4,e5,k⟩,h=>by
  obtain⟨rs1,X,Y,rs2,pw,pw2,rfl,g1,g2,g3,g4,g5,g6,g7,g8⟩:=RunsL.two i k (by simpa using h);have el:b+(r::rs1).flatten.length=b+r.length+rs1.flatten.length:=by rw[YE,Zi,Nat.add_assoc]
  refine⟨r::rs1,X,Y,rs2,pw,pw2,rfl,g1,g2,g3,g4,g5,?_,?_,fun W hw hp=>?_⟩
  ·rw[List.getElem?_cons_succ,el];exact g6
  ·rw[List.getElem?_cons_succ,el];exact g7
  ·rw[el,List.set_cons_succ,List.eraseIdx_cons_succ];exact⟨e1,e2,e3,e4,e5,g8 W hw hp⟩
variable{prog:Program}{w:World}{A:Around}{E:Value->Shared->Prop}{s:Shared}{κ:SortKind}{it:Array Keyed}{N:Nat}{st:SortSt}
structure RI(κ:SortKind)(it:Array Keyed)(lt:Nat->Nat->Bool)(N lo:Nat)(T:List Nat)(p:Array Nat)(rs:List (List Nat))(st:SortSt):Prop where
 hk:kindOf st=κ
 hf:failedOf st=none
 ha:arrOf st=p.map (kas_item it)
 hp:p.toList=rs.flatten++T
 pm:p.toList.Perm (List.range N)
 rl:RunsL lt 0 rs (pendingOf st).toList
 hl:rs.flatten.length=lo
theorem Bm(Z:Zc prog w A s κ it lt N)(O:LtOk lt){lo i:Nat}{T:List Nat}{p:Array Nat}{rs:List (List Nat)}(R:RI κ it lt N lo T p rs st)(hi:i+1<(pendingOf st).size){Q:Bool->SortSt->Prop}(h:∀st' p' rs',RI κ it lt N lo T p' rs' st'->(pendingOf st').size+1=(pendingOf st).size->Q true st'):wpS (model prog w) A E s (mergeAt' i) Q st:=by
 obtain⟨rs1,X,Y,rs2,pw,pw2,e0,g1,g2,g3,g4,g5,g6,g7,g8⟩:=R.rl.two i (by rw[Zg];exact hi);rw[Nat.zero_add]at g6 g7 g8;rw[Array.getElem?_toList]at g6 g7;refine F9 Z O (pre:=rs1.flatten) (X:=X) (Y:=Y) (post:=rs2.flatten++T) R.hk R.hf R.ha ?_ g3 g4 g1 g2 g5 (fun x hx=>ZL.mp (R.pm.mem_iff.mp hx)) g6 g7 fun st' p' W j1 j2 j3 j4 j5 j6 j7=>?_
 ·rw[R.hp,e0];simp
 ·refine h st' p' (rs1++W::rs2) ⟨j1,j2,j3,?_,?_,?_,?_⟩ ?_
  ·rw[j4];simp
  ·refine List.Perm.trans ?_ R.pm;rw[j4,R.hp,e0];have:(rs1.flatten++(W++(rs2.flatten++T))).Perm (rs1.flatten++((X++Y)++(rs2.flatten++T))):=(j6.append_right _).append_left _;refine this.trans (List.Perm.of_eq ?_);simp
  ·rw[j7];have:=g8 W j5 j6;rw[Array.eraseIdxIfInBounds,dif_pos (by rw[Array.size_setIfInBounds];exact hi),Array.toList_eraseIdx,Array.toList_setIfInBounds];exact this
  ·rw[<-R.hl,e0];have:=j6.length_eq;rw[Zi]at this;simp;omega
  ·rw[j7,Array.eraseIdxIfInBounds,dif_pos (by rw[Array.size_setIfInBounds];exact hi),Array.size_eraseIdx,Array.size_setIfInBounds];omega
theorem Dc(O:LtOk lt)(lo:Nat):LtOk (ltS lt lo):=⟨fun h=>O.as h,fun h k=>O.tr h k⟩
theorem ze{n:Nat}(hn:1<=n):Fx n (List.toArray (List.range n)) 1:=by
 have g:∀k,k<n->gA (List.toArray (List.range n)) k=k:=fun k hk=>by rw[gj];simp[hk]
 refine⟨by simp,fun k _ hk=>g k hk,fun i hi=>?_⟩;have e:i=0:=by omega
 subst e;rw[g 0 (by omega)];decide
theorem Em{n m lo:Nat}{u pre:Array Nat}(hpre:pre.size=lo)(hu:POk n u)(F:Fx n u m)(S:LS (ltS lt lo) u m)(hm:m<=n):∃r:List Nat,r.length=m/\r.Pairwise (Lx lt)/\r.Perm (List.range' lo m)/\(pj pre u).toList=pre.toList++(r++List.range' (lo+m) (n-m)):=by
 have hz:u.toList.length=n:=by rw[Zg];exact F.sz
 have ed:u.toList.drop m=List.range' m (n-m):=by
  apply List.ext_getElem
  ·rw[Yr,List.length_range',hz]
  ·intro i h1 h2;rw[Yr,hz]at h1;rw[List.getElem_drop,List.getElem_range'];have:=F.hi (m+i) (by omega) (by omega);rw[aJ,Zf,Zb (by omega)]at this;rw[Nat.one_mul];exact this
 have ep:u.toList.Perm (List.range n):=by have:=YQ.mp hu;simpa using this
 have er:List.range n=List.range m++List.range' m (n-m):=by rw[List.range_eq_range',List.range_eq_range'];have:=List.range'_append (s:=0) (m:=m) (n:=n-m) (step:=1);rw[Nat.one_mul,Nat.zero_add]at this;rw[this];congr 1;omega
 have pt:(u.toList.take m).Perm (List.range m):=by have e:=Z8 m u.toList;rw[ed]at e;rw[<-e,er]at ep;exact(List.perm_append_right_iff _).mp ep
 refine⟨(u.toList.take m).map (lo+·),by rw[z9,ZE];omega,?_,?_,?_⟩
 ·rw[Z7];have hS:(u.toList.take m).Pairwise (Lx (ltS lt lo)):=by rw[Zw];intro i j hi hj hij;rw[ZE]at hi hj;have:=S i j hij (by omega);rw[aJ,aJ,Zf,Zf,Zb (by omega),Zb (by omega)]at this;rw[YL,YL];exact this
  refine hS.imp fun{a b} hab=>⟨hab.1,?_⟩
  rcases hab.2 with x|x
  ·exact .inl x
  ·exact .inr (by omega)
 ·rw[List.range'_eq_map_range];exact pt.map _
 ·unfold pj;rw[ZK,Array.toList_map,hpre];congr 1;have e:=Z8 m u.toList;rw[ed]at e
  conv=>lhs;rw[<-e]
  rw[Zx];congr 1;rw[List.range'_eq_map_range,List.range'_eq_map_range,Yp];apply List.map_congr_left;intro x _;show lo+(m+x)=lo+m+x;omega
end
open PySem PyProof.Rows PySem.W
section
variable{lt:Nat->Nat->Bool}{prog:Program}{w:World}{A:Around}{E:Value->Shared->Prop}{s:Shared}{κ:SortKind}{it:Array Keyed}{N:Nat}{st:SortSt}
theorem EQ(Z:Zc prog w A s κ it lt N)(O:LtOk lt){lo mr:Nat}{p:Array Nat}{rs:List (List Nat)}(R:RI κ it lt N lo (List.range' lo (N - lo)) p rs st)(hlo:lo<N){β:Type}{g:Nat->StateT SortSt Sem β}{Q:β->SortSt->Prop}(h:∀ (m:Nat) (r:List Nat) (p':Array Nat) (st':SortSt),1<=m->lo+m<=N->r.length=m->r.Pairwise (Lx lt)->r.Perm (List.range' lo m)->RI κ it lt N lo (r++List.range' (lo+m) (N - (lo+m))) p' rs st'->pendingOf st'=pendingOf st->wpS (model prog w) A E s (g m) Q st'){bad:StateT SortSt Sem β}{k:Option Nat->StateT SortSt Sem β}(hk:∀ m,k (some m)=(if m<mr then do
    liftM (rule "list.sort.binary-insertion")
    let ok ←binarySort' lo (min (N-lo) mr) m
    if(!ok)=true then bad else g (min (N-lo) mr)
   else g m)):wpS (model prog w) A E s (countRun' lo (N - lo) >>= k) Q st:=by
 have hl:=R.hl;have O':LtOk (ltS lt (List.toArray rs.flatten).size):=Dc O _;have n0:1<=N-lo:=by omega
 have hz:(List.toArray rs.flatten).size=lo:=by rw[Zh];exact hl
 have pu:POk (N-lo) (List.toArray (List.range (N-lo))):=Array.Perm.refl _;have P:Zp prog w A s κ it lt N st (List.toArray rs.flatten) (N-lo):=⟨Z,R.hk,by omega,by omega⟩
 have ep:p=pj (List.toArray rs.flatten) (List.toArray (List.range (N-lo))):=by apply Array.toList_inj.mp;rw[R.hp];unfold pj;rw[ZK,Array.toList_map,Y5,Y5,hz,List.range'_eq_map_range]
 have est:st=stQ it st (pj (List.toArray rs.flatten) (List.toArray (List.range (N-lo)))):=by unfold stQ;rw[<-ep,<-R.ha]
 have fin:∀(m:Nat) (u':Array Nat),POk (N-lo) u'->1<=m->m<=N-lo->Fx (N-lo) u' m->LS (ltS lt (List.toArray rs.flatten).size) u' m->wpS (model prog w) A E s (g m) Q (stQ it st (pj (List.toArray rs.flatten) u')):=fun m u' hu h1 h2 h3 h4=>by
  rw[hz]at h4;obtain⟨r,r1,r2,r3,r4⟩:=Em hz hu h3 h4 h2;refine h m r (pj (List.toArray rs.flatten) u') _ h1 (by omega) r1 r2 r3 ⟨R.hk,R.hf,rfl,?_,?_,R.rl,hl⟩ rfl
  ·rw[r4,Y5,show N-(lo+m)=N-lo-m by omega]
  ·refine List.Perm.trans ?_ R.pm;rw[r4,R.hp,Y5];refine List.Perm.append_left _ ?_;refine(r3.append_right _).trans (List.Perm.of_eq ?_);have:=List.range'_append (s:=lo) (m:=m) (n:=N-lo-m) (step:=1);rw[Nat.one_mul]at this;rw[this];congr 1;omega
 have kc:=qD O' (N:=N-lo) (p:=List.toArray (List.range (N-lo))) n0 (ze n0);rw[est];have zc:=Cy (E:=E) (Q:=fun r st'=>wpS (model prog w) A E s (k r) Q st') P pu kc fun m u' hu h1 h2 hG=>by
  obtain⟨g1,g2,g3,g4⟩:=hG;rw[hk];refine aG (fun c=>?_) fun c=>?_
  ·refine Zj (wpS_lift (YO ⟨rfl,?_⟩));have em:max m 1=m:=by omega
   have kb:=tK O' (N:=N-lo) (min (N-lo) mr-max m 1) (p:=u') (k:=max m 1) (by omega) (by omega) (by rw[em];exact g3) (by rw[em];exact g4);have zb:=FG (E:=E) (nf:=min (N-lo) mr) (ok:=m) (Q:=fun r st'=>wpS (model prog w) A E s (if(!r)=true then bad else g (min (N-lo) mr)) Q st') P hu (by omega) kb fun u2 hu2 hG2=>by
    rw[if_neg (by simp)];have e2:max m 1+(min (N-lo) mr-max m 1)=min (N-lo) mr:=by omega
    rw[e2]at hG2;exact fin _ u2 hu2 (by omega) (by omega) hG2.1 hG2.2
   rw[hz]at zb;exact Zj zb
  ·exact fin m u' hu h1 h2 g3 g4
 rw[hz]at zc;exact Zj zc
def qG(N pw:Nat):StateT SortSt Sem (Option Unit×Unit):=forIn [0:N] ((none,()):Option Unit×Unit) fun _ _=>do
 let st ←get
 match(if(pendingOf st).size>1 then(pendingOf st)[(pendingOf st).size-2]? else none)with
 |some (_,_,old)=>if old<=pw then pure (.done (none,()))else do
  let ok ←mergeAt' ((pendingOf st).size-2)
  if(!ok)=true then pure (.done (some (),()))else pure (.yield (none,()))
 |_=>pure (.done (none,()))
def qI(N lo n:Nat):StateT SortSt Sem (ForInStep (Option Unit×Nat)):=do
 let st ←get
 match(pendingOf st).back? with
 |some (s1,n1,_)=>do
  let c ←qG N (power' N (2*s1+n1) (2*s1+n1+n1+n) N)
  match c.1 with
  |some r=>pure (.done (some r,lo))
  |none=>do
   modify fun st=>setPending st ((pendingOf st).modify ((pendingOf st).size-1) fun t=>(t.1,t.2.1,power' N (2*s1+n1) (2*s1+n1+n1+n) N))
   modify fun st=>setPending st ((pendingOf st).push (lo,n,0))
   pure (.yield (none,lo+n))
 |_=>do
  modify fun st=>setPending st ((pendingOf st).push (lo,n,0))
  pure (.yield (none,lo+n))
theorem FH(Z:Zc prog w A s κ it lt N)(O:LtOk lt){lo pw:Nat}{T:List Nat}{p:Array Nat}{rs:List (List Nat)}(R:RI κ it lt N lo T p rs st){Q:Option Unit×Unit->SortSt->Prop}(h:∀st' p' rs',RI κ it lt N lo T p' rs' st'->Q (none,()) st'):wpS (model prog w) A E s (qG N pw) Q st:=by
 unfold qG;refine Yi (I:=fun _ c st'=>c=(none,())/\∃p' rs',RI κ it lt N lo T p' rs' st') ?_ ?_ ⟨rfl,p,rs,R⟩
 ·rintro x c st' _ _ ⟨rfl,p',rs',R'⟩;refine Zj (wpS_get ?_);by_cases hs:(pendingOf st').size>1
  ·rw[if_pos hs];have e:(pendingOf st')[(pendingOf st').size-2]?=some ((pendingOf st')[(pendingOf st').size-2]'(by omega)):=Array.getElem?_eq_getElem (by omega);rw[e];refine aG (fun _=>Zq (h st' p' rs' R')) fun _=>?_;refine Zj (Bm Z O R' (by omega) fun st2 p2 rs2 R2 _=>?_);refine aG (fun z=>absurd z (by simp)) fun _=>Zq ⟨rfl,p2,rs2,R2⟩
  ·rw[if_neg hs];exact Zq (h st' p' rs' R')
 ·rintro c st' ⟨rfl,p',rs',R'⟩;exact h st' p' rs' R'
theorem RI.push{lo m:Nat}{r:List Nat}{p:Array Nat}{rs:List (List Nat)}{T:List Nat}(R:RI κ it lt N lo (r++T) p rs st)(h1:1<=m)(hr:r.length=m)(hw:r.Pairwise (Lx lt))(hp:r.Perm (List.range' lo m)):RI κ it lt N (lo+m) T p (rs++[r]) (setPending st ((pendingOf st).push (lo,m,0))):=by
 have hl:=R.hl;refine⟨R.hk,R.hf,R.ha,?_,R.pm,?_,?_⟩
 ·rw[R.hp];simp
 ·show RunsL lt 0 (rs++[r]) ((pendingOf st).push (lo,m,0)).toList;rw[Array.toList_push];have:=R.rl.snoc (r:=r) (x:=0) (by omega) hw (by rw[Nat.zero_add,hl,hr];exact hp);rw[Nat.zero_add,hl,hr]at this;exact this
 ·simp;rw[<-List.length_flatten,hl,hr]
theorem FJ(Z:Zc prog w A s κ it lt N)(O:LtOk lt){lo m:Nat}{r:List Nat}{p:Array Nat}{rs:List (List Nat)}{T:List Nat}(R:RI κ it lt N lo (r++T) p rs st)(h1:1<=m)(hr:r.length=m)(hw:r.Pairwise (Lx lt))(hp:r.Perm (List.range' lo m)){Q:ForInStep (Option Unit×Nat)->SortSt->Prop}(h:∀st' p' rs',RI κ it lt N (lo+m) T p' rs' st'->Q (.yield (none,lo+m)) st'):wpS (model prog w) A E s (qI N lo m) Q st:=by
 unfold qI;refine Zj (wpS_get ?_);cases hb:(pendingOf st).back? with
 |none=>exact Zj (wpS_modify (Zq (h _ _ _ (R.push h1 hr hw hp))))
 |some t =>obtain⟨s1,n1,o1⟩:=t;refine Zj (FH Z O R fun st' p' rs' R'=>?_);refine Zj (wpS_modify (Zj (wpS_modify (Zq (h _ p' (rs'++[r]) (RI.push (st:=setPending st' ((pendingOf st').modify ((pendingOf st').size-1) fun t=>(t.1,t.2.1,power' N (2*s1+n1) (2*s1+n1+n1+m) N))) ⟨R'.hk,R'.hf,R'.ha,R'.hp,R'.pm,?_,R'.hl⟩ h1 hr hw hp))))));show RunsL lt 0 rs' ((pendingOf st').modify ((pendingOf st').size-1) _).toList;rw[Array.toList_modify];exact R'.rl.pow (g:=fun t=>(t.1,t.2.1,power' N (2*s1+n1) (2*s1+n1+n1+m) N)) (fun t=>⟨rfl,rfl⟩) _
theorem ER(Z:Zc prog w A s κ it lt N)(O:LtOk lt)(h1:1<=N){Q:Unit->SortSt->Prop}(h:∀(p:Array Nat) (st':SortSt),POk N p->LS lt p N->p.size=N->arrOf st'=p.map (kas_item it)->failedOf st'=none->Q () st') :
  wpS (model prog w) A E s sortRuns' Q (SortSt.mk' κ ((List.toArray (List.range N)).map (kas_item it)) #[] 7 none):=by
 rw[sortRuns'_eq];refine Zj (wpS_get ?_);have esz:(arrOf (SortSt.mk' κ ((List.toArray (List.range N)).map (kas_item it)) #[] 7 none)).size=N:=by show((List.toArray (List.range N)).map (kas_item it)).size=N;simp
 rw[esz];have R0:RI κ it lt N 0 (List.range' 0 (N-0)) (List.toArray (List.range N)) [] (SortSt.mk' κ ((List.toArray (List.range N)).map (kas_item it)) #[] 7 none):=by refine⟨rfl,rfl,rfl,?_,List.Perm.refl _,trivial,rfl⟩;rw[Y5,List.range_eq_range',Nat.sub_zero];rfl
 refine Zj (Yt (Yi (I:=fun x c st'=>∃ lo p rs,c=(none,lo)/\RI κ it lt N lo (List.range' lo (N - lo)) p rs st'/\lo<=N/\x<=lo)
  (Q:=fun c st'=>c=(none,N)/\∃ p rs,RI κ it lt N N [] p rs st') ?step ?fin ⟨0,_,_,rfl,R0,by omega,Ze _⟩) ?post)
 case fin =>
  rintro c st' ⟨lo,p,rs,rfl,R,h2,h3⟩;have e:lo=N:=by omega
  subst e;refine⟨rfl,p,rs,?_⟩;rw[Nat.sub_self]at R;exact R
 case step =>
  rintro x c st' _ hx ⟨lo,p,rs,rfl,R,h2,h3⟩;dsimp -zeta only;refine aG (fun hge=>?_) fun hge=>?_
  ·have e:lo=N:=by omega
   subst e;rw[Nat.sub_self]at R;exact Zq ⟨rfl,p,rs,R⟩
  refine EQ Z O R (by omega) (g:=qI N lo) (mr:=minRun' N N 0) (bad:=pure (ForInStep.done (some (),lo))) (fun m r p' st2 m1 m2 r1 r2 r3 R2 _=>?_) (fun m=>by kernel_rfl);exact FJ Z O R2 m1 r1 r2 r3 fun st3 p3 rs3 R3=>⟨lo+m,p3,rs3,rfl,R3,m2,by omega⟩
 case post =>
  rintro c st' ⟨rfl,p,rs,R⟩;dsimp only;have hle:∀{c:Prop} [Decidable c] (x:Nat),(if c then x-1 else x)<=x:=fun x=>by split<;>omega
  have hsz:(pendingOf st').size<=N:=by obtain⟨q1,q2⟩:=R.rl.len;have q3:(pendingOf st').toList.length=(pendingOf st').size:=Zg;have q4:=R.hl;omega
  refine Zj (Yt (Yi (I:=fun x c st'=>c=(none,())/\(∃ p rs,RI κ it lt N N [] p rs st')/\((pendingOf st').size+x<=N\/(pendingOf st').size<=1))
   (Q:=fun c st'=>c=(none,())/\(∃ p rs,RI κ it lt N N [] p rs st')/\(pendingOf st').size<=1) ?step2 ?fin2 ⟨rfl,⟨p,rs,R⟩,.inl hsz⟩) ?post2)
  case fin2 =>rintro c st2 ⟨rfl,hR,h2⟩;exact⟨rfl,hR,by omega⟩
  case step2 =>
   rintro x c st2 _ hx ⟨rfl,⟨p2,rs2,R2⟩,h2⟩;refine Zj (wpS_get ?_);refine aG (fun hge=>Zq ⟨rfl,⟨p2,rs2,R2⟩,hge⟩) fun hge=>?_;refine Zj (Bm Z O R2 ?_ fun st3 p3 rs3 R3 e3=>?_)
   ·exact Yo (Nat.add_le_add_right (hle _) 1) (by omega)
   ·refine aG (fun z=>absurd z (by simp)) fun _=>Zq ⟨rfl,⟨p3,rs3,R3⟩,by omega⟩
  case post2 =>
   rintro c st2 ⟨rfl,⟨p2,rs2,R2⟩,h2⟩;have ln:=R2.rl.len;rw[Zg]at ln;have hl:=R2.hl;have hp:=R2.hp;have rl:=R2.rl
   match rs2,hl,hp,rl,ln with
   | [],hl,_,_,_=>exact absurd hl (by simp;omega)
   |r::r2::rs3,_,_,_,ln=>exact absurd ln.1 (by simp;omega)
   | [r],hl,hp,rl,_ =>
    rw[ZF,List.flatten_singleton]at hp
    match hpl:(pendingOf st2).toList,rl with
    | [],rl=>exact rl.elim
    |t::ts,⟨_,_,_,pw,_,_⟩ =>
     have hz:p2.size=N:=by rw[<-Zg,R2.pm.length_eq,ZI]
     refine Zq (h p2 st2 (YQ.mpr (by simpa using R2.pm)) (fun i j hij hj=>vo (by rw[hp];exact pw) i j hij (by omega)) hz R2.ha R2.hf)
end
open PySem PySem.Spec PyProof.Rows PySem.W
theorem eE{n:Nat}(h:n<=4096):n<=sizeLine:=by rw[sizeLine_eq];omega
section
variable{prog:Program}{w:World}{A:Around}{E:Value->Shared->Prop}{s:Shared}{h₀:Heap}{L a kS:Addr}{m:Str->Option Value}{news:List (Addr×Obj)}{vs ks:List Value}
theorem mL{Q:List Value->Shared->Prop}{r:Addr}{lo hi:Int}{t u v:Tok}{n:Nat}(hh:A.handled=none)(hr:IsRange s.heap r lo hi 1 t u v)(hsmall:Builtin.Range.small lo hi 1=true)(hn:Builtin.Range.rangeSize lo hi 1=n)(hlen:n<=2^24)(h:∀h' tk acc,(∀b o,s.heap.get? b=some o->h'.get? b=some o)->ItemsOf (fun i v=>∃t,v=.int (lo+i*1) t) acc n->Q acc.toList { s with heap:=h',toks:=tk }):wpAny (model prog w) A (collect (.ref r)) Q E s:=by
 unfold collect;refine z6 (wpAny_runValue (codeAny_builtin F.entry_proto_collect ?_));rw[Around.under_plainId F.plain_proto_collect _];show wpAny _ A.in1 (newList [] >>= fun q=>again (.builtin "list.__iadd__" ⟨[q,.ref r],[]⟩)) _ _ s;refine z6 (ZP (Zd ⟨plainId_quiet F.plain_list_iadd _,codeAny_builtin F.entry_list_iadd ?_⟩));rw[Around.under_plainId F.plain_list_iadd _];show wpAny _ A.in1 (Builtin.List.listExtendWith (.ref s.heap.objs.size) (.ref r) (.ref s.heap.objs.size)) _ _ _;refine wpAny_extend_range (A:=A) (R:=fun r s'=>match r with
  | .ok (.ret v)=>wpAny (model prog w) A (match v with
   |.ref a=>do
    let o ←load a
    match o.data with
    |.seq xs _=>pure xs.toList
    |_=>unsupported "internal:collect"
   | _=>unsupported "internal:collect") Q E s'
  |.ok _=>False
  | .error e=>E e s') (s:={ s with heap:=s.heap.push { cls:=.type "list",data:=.seq ([]:List Value).toArray } }) hh (Za _ hr) hsmall hn hlen s.heap.objs.size _ 0 (Zk _ rfl) fun h' tk acc c hk hS hacc=>?_
 show wpAny _ A (load s.heap.objs.size >>= _) _ _ _;refine z6 (wpAny_load hS (Zd ?_));exact h h' tk acc (fun b o e=>hk b o (ZB (Zo e)) (Za _ e)) hacc
def ZGo(prog:Program)(w:World)(A:Around)(b:Bool)(ks vs:List Value)(F:List Value->Shared->Prop)(κ:SortKind)(s:Shared):Prop :=
 ∃lt:Nat->Nat->Bool,LtOk lt/\(∀i j (C:Bool->Shared->Prop),i<vs.length->j<vs.length->C (lt i j) s->kas_ask prog w A κ (katRev b ks) i j C s) /\
  ∀p:Array Nat,POk vs.length p->LS lt p vs.length->F (katRev b (p.toList.map fun i=>(katRev b vs).getD i Value.none)) s
def uF(prog:Program)(w:World)(A:Around)(b:Bool)(ks vs:List Value)(F:List Value->Shared->Prop)(s:Shared):Prop :=
 (2<=vs.length->wpAny (model prog w) A (keyKind' (List.toArray ks)) (ZGo prog w A b ks vs F) (fun _ _=>False) s)/\(vs.length<2->F (katRev b ((List.range vs.length).map fun i=>(katRev b vs).getD i Value.none)) s)
theorem uw{b:Bool}{st:SortSt}{e e1:Nat}{out:List Value}{P:PySem.Fin->Shared->Prop}(ho:(arrOf st).map (·.2)=List.toArray out)(hz:out.length<=4096)(hq:ks.length<=4096)(hf:failedOf st=none)(h:KatFin h₀ L m kS a ks e e1 (katRev b out) (fun s'=>P (.done (.ret .none)) s') s):wpAny (model prog w) A (ksk_tail a b e1 (.ref kS) st) P E s:=by
 obtain⟨nw,g,Fq,Nq,Uq,kq⟩:=h;obtain⟨l1,l2,e0,hg,x1,x2⟩:=Uq.split;rw[e0]at Nq;have ak:=Nq (kS,seqObj "list" (List.toArray ks) e) (Zz _ (.head _));have s1:=ZQ s.heap kS (Obj.mapSeq fun _=>(#[]:Array Value));obtain⟨ck,hck⟩:∃z,(s.heap.update kS (Obj.mapSeq fun _=>(#[]:Array Value))).get? kS=some (seqObj "list" #[] z):=⟨_,get?_update_seq ak.1 fun _=>#[]⟩
 have K2:=kq _ ck (kas_fr Fq s1 ak.2.1 ak.2.2) (by rw[hg];exact news_set Nq x1 x2 s1 hck);obtain⟨nw2,g2,F2,N2,U2,k2⟩:=K2;obtain⟨m1,m2,e2,hg2,y1,y2⟩:=U2.split;rw[e2]at N2;have aa:=N2 (a,seqObj "list" #[] e1) (Zz _ (.head _));have s2:=ZQ (s.heap.update kS (Obj.mapSeq fun _=>(#[]:Array Value))) a (Obj.mapSeq fun _=>List.toArray (katRev b out));have hsz:(List.toArray (katRev b out)).size=out.length:=by rw[Zh,kat_len]
 obtain⟨c2,hc2⟩:∃z,((s.heap.update kS (Obj.mapSeq fun _=>(#[]:Array Value))).update a (Obj.mapSeq fun _=>List.toArray (katRev b out))).get? a=some (seqObj "list" (List.toArray (katRev b out)) z):=⟨_,get?_update_seq aa.1 fun _=>List.toArray (katRev b out)⟩
 unfold ksk_tail;dsimp only;rw[ho,kat_outs];refine z6 (listUpdate_at ak.1 rfl (z6 (wpAny_letGo (z6 (seqEpoch_at aa.1 rfl (z6 (listUpdate_at aa.1 rfl ?_ (ZZ _) (ZV (Nat.le_of_eq hsz) (Nat.le_succ_of_le (eE hz))))))))) (by rw[Zh];exact eE hq) (ZZ _));rw[hf];simp only[bne_self_eq_false,Yz,YT];refine Zd (k2 _ c2 (kas_fr F2 s2 aa.2.1 aa.2.2) ?_);rw[hg2];exact news_set N2 y1 y2 s2 hc2
theorem ES{b:Bool}{e e1:Nat}{P:PySem.Fin->Shared->Prop}(hl:ks.length=vs.length)(hz:vs.length<=4096)(h:uF prog w A b ks vs (fun out=>KatFin h₀ L m kS a ks e e1 out (fun s3=>P (.done (.ret .none)) s3)) s) :
  wpAny (model prog w) A (ksk_end a b vs.toArray e1 (.ref kS) (List.toArray ks)) P E s:=by
 have lr:(katRev b ks).length=(katRev b vs).length:=by rw[kat_len,kat_len,hl]
 have lv:(katRev b vs).length=vs.length:=kat_len b vs;have step:∀t:Sem PySem.Fin,wpAny (model prog w) A t P E s->wpAny (model prog w) A (if b=true then(do let _ ←rule "list.sort.reverse";t)else t) P E s:=by
  intro t ht;split
  ·exact z6 (YO ht)
  ·exact ht
 unfold ksk_end;dsimp only;refine step _ ?_;have er:∀κ,SortSt.mk' κ ((List.toArray (katRev b ks)).zip (List.toArray (katRev b vs))) #[] 7 none=SortSt.mk' κ ((List.toArray (List.range vs.length)).map (kas_item ((List.toArray (katRev b ks)).zip (List.toArray (katRev b vs))))) #[] 7 none:=fun κ=>by have e:=kas_range ((List.toArray (katRev b ks)).zip (List.toArray (katRev b vs)));rw[show((List.toArray (katRev b ks)).zip (List.toArray (katRev b vs))).size=vs.length by simp[lr,lv]]at e;rw[e]
 rw[kat_pairs b hl];by_cases n2:vs.toArray.size<2
 ·rw[if_pos n2,if_pos n2];have n2':vs.length<2:=by simpa using n2
  refine z6 (Zd ?_);rw[er,StateT.run_pure];refine z6 (Zd ?_);dsimp only;exact uw (kat_snds lr (p:=List.toArray (List.range vs.length)) rfl) (by simpa using hz) (by omega) rfl (h.2 n2')
 rw[if_neg n2,if_neg n2];have n3:2<=vs.length:=by rw[Zh]at n2;omega
 refine z6 (Z4 (h.1 n3) (fun κ s0 hg=>?_) fun _ _ x=>x.elim);obtain⟨lt,O,ask,fin⟩:=hg;have Z:Zc prog w A s0 κ ((List.toArray (katRev b ks)).zip (List.toArray (katRev b vs))) lt vs.length:=fun i j C hi hj hC=>by have:=ask i j C hi hj hC;rw[kat_ask_eq lr]at this;exact this
 rw[er];refine z6 (Z4 (ER (E:=E) (Q:=fun _ st'=>∃p:Array Nat,POk vs.length p/\LS lt p vs.length/\p.size=vs.length/\arrOf st'=p.map (kas_item ((List.toArray (katRev b ks)).zip (List.toArray (katRev b vs))))/\failedOf st'=none) Z O (by omega) fun p st' a1 a2 a3 a4 a5=>⟨p,a1,a2,a3,a4,a5⟩) ?_ fun _ _ x=>x);rintro⟨⟨⟩,st'⟩ s' ⟨rfl,p,a1,a2,a3,a4,a5⟩;dsimp only;exact uw (kat_snds lr a4) (by rw[z9,Zg,a3];exact hz) (by omega) a5 (fin p a1 a2)
theorem ut{f:Value}{Fin:List Value->Nat->Shared->Prop}{n:Nat}{body:Value->PUnit->Sem (ForInStep PUnit)}(hn:n<=4096)(hb:∀ x ks e (s:Shared) (C:Value->Nat->Shared->Prop),List.length ks<4096->wpAny (model prog w) A (call f [x]) (KatBack h₀ L m kS ks e C) (fun _ _=>False) s ->
   wpAny (model prog w) A (body x ⟨⟩) (fun r s'=>r=.yield ⟨⟩/\∃ k c,s'.heap.get? kS=some (seqObj "list" (List.toArray (ks++[k])) c)/\C k c s') E s):∀ (r qs:List Value) (e:Nat) (s:Shared),qs.length+r.length=n ->
   s.heap.get? kS=some (seqObj "list" (List.toArray qs) e)->KatKeys prog w A h₀ L m kS f Fin r qs e s ->
   wpAny (model prog w) A (forIn r PUnit.unit body) (fun _ s'=>∃qs e,s'.heap.get? kS=some (seqObj "list" (List.toArray qs) e)/\qs.length=n/\Fin qs e s') E s
 | [],qs,e,s,hl,hq,h=>by rw[List.forIn_nil];exact Zd ⟨qs,e,hq,by simpa using hl,h⟩
 |x::r,qs,e,s,hl,hq,h=>by rw[Zt]at hl;rw[List.forIn_cons];refine z6 (Z4 (hb x qs e s (fun k c s'=>KatKeys prog w A h₀ L m kS f Fin r (qs++[k]) c s') (by omega) h) (fun z s' hz=>?_) fun _ _ x=>x);obtain⟨rfl,k,c,hk',h2⟩:=hz;exact ut hn hb r (qs++[k]) c s' (by rw[Zi,ZU];omega) hk' h2
theorem CB{b:Bool}{f:Value}{e1:Nat}{P:PySem.Fin->Shared->Prop}(hq:s.heap.get? kS=some (seqObj "list" #[] 0))(hz:vs.length<=4096)(h:KatKeys prog w A h₀ L m kS f (fun ks e s'=>uF prog w A b ks vs (fun out=>KatFin h₀ L m kS a ks e e1 out (fun s3=>P (.done (.ret .none)) s3)) s') vs [] 0 s) :
  wpAny (model prog w) A (ksk_rest a f b vs.toArray e1 (.ref kS)) P E s:=by
 unfold ksk_rest;refine z6 (YO ?_);rw[<-Array.forIn_toList];refine z6 (Z4 (ut hz (fun x qs e s' C hzz hx=>?_) vs [] 0 s (by simp) hq h) (fun _ s' hd=>?_) fun _ _ x=>x)
 ·refine z6 (wpAny_attempt (Z4 hx (fun k s2 hkk=>?_) fun _ _ hF=>hF.elim));obtain⟨nw,g,Fq,Nq,Uq,cq⟩:=hkk;obtain⟨l1,l2,e0,hg,x1,x2⟩:=Uq.split;rw[e0]at Nq;have ak:=Nq (kS,seqObj "list" (List.toArray qs) e) (Zz _ (.head _));have s1:=ZQ s2.heap kS (Obj.mapSeq (·.push k));have ea:(List.toArray qs).push k=List.toArray (qs++[k]):=by simp
  obtain⟨c2,hc2⟩:∃z,(s2.heap.update kS (Obj.mapSeq (·.push k))).get? kS=some (seqObj "list" (List.toArray (qs++[k])) z):=⟨_,by rw[<-ea];exact get?_update_seq ak.1 (·.push k)⟩
  dsimp only;refine z6 (listUpdate_at ak.1 rfl (Zd ⟨rfl,k,c2,hc2,cq _ c2 (kas_fr Fq s1 ak.2.1 ak.2.2) (by rw[hg];exact news_set Nq x1 x2 s1 hc2)⟩) (by rw[Zh];exact eE (by omega)) (ZV (Nat.le_of_eq (Array.size_push ..)) (by rw[Zh];exact Nat.le_succ_of_le (eE (by omega)))))
 ·obtain⟨qs,e,hq',hl,fin⟩:=hd;exact z6 (listItems_at hq' rfl (ES hl hz fin))
theorem AG{b:Bool}{f:Value}{n:Nat}{P:PySem.Fin->Shared->Prop}(F:Fr h₀ L s.heap m)(N:News h₀ L s.heap news)(ho:s.heap.get? a=some (seqObj "list" vs.toArray n))(haL:a≠L)(ha0:h₀.get? a=none)(hna:∀ p∈news,p.1≠a)(hz:vs.length<=4096)(h:∀ kS e1 h',Fr h₀ L h' m->News h₀ L h' ((kS,seqObj "list" #[] 0)::(a,seqObj "list" #[] e1)::news)->a<kS->(∀ q∈news,q.1<kS) ->
   KatKeys prog w A h₀ L m kS f (fun ks e s'=>uF prog w A b ks vs (fun out=>KatFin h₀ L m kS a ks e e1 out (fun s3=>P (.done (.ret .none)) s3)) s') vs [] 0 { s with heap:=h' }) :
  wpAny (model prog w) A (ksk_tree a f b) P E s:=by
 have la:a<s.heap.objs.size:=Zo ho;have s1:=ZQ s.heap a (Obj.mapSeq fun _=>(#[]:Array Value));have F1:=kas_fr F s1 haL ha0;have N1:=kas_news N s1 hna;obtain⟨e1,ho1⟩:∃z,(s.heap.update a (Obj.mapSeq fun _=>(#[]:Array Value))).get? a=some (seqObj "list" #[] z):=⟨_,get?_update_seq ho fun _=>#[]⟩
 have zk:((s.heap.update a (Obj.mapSeq fun _=>(#[]:Array Value))).push (seqObj "tuple" vs.toArray 0)).objs.size=s.heap.objs.size+1:=by rw[size_push',Heap.size_update]
 have lk:L<((s.heap.update a (Obj.mapSeq fun _=>(#[]:Array Value))).push (seqObj "tuple" vs.toArray 0)).objs.size:=(F1.push _).ns.lt;unfold ksk_tree;refine z6 (listItems_at ho rfl (z6 (listUpdate_at ho rfl (z6 (seqEpoch_at ho1 rfl (z6 (wpAny_newTuple (z6 (wpAny_newList (Ym ?_) (ZZ _))) (eE hz))))) (by rw[Zh];exact eE hz) (ZZ _))));refine CB (s:={ s with heap:=((s.heap.update a (Obj.mapSeq fun _=>(#[]:Array Value))).push (seqObj "tuple" vs.toArray 0)).push (seqObj "list" #[] 0) }) (kS:=((s.heap.update a (Obj.mapSeq fun _=>(#[]:Array Value))).push (seqObj "tuple" vs.toArray 0)).objs.size)
  (Zk _ rfl) hz (h _ e1 _ ((F1.push _).push _) (fun p hp=>?_) (by rw[zk];exact x6 la) fun q hq=>by rw[zk];exact x6 (Zo (N q hq).1))
 rcases Zs.mp hp with rfl|hp
 ·exact⟨Zk _ rfl,Yh lk,Heap.get?_none_of_le (ZV F.above (Nat.le_of_lt lk))⟩
 ·rcases Zs.mp hp with rfl|hp
  ·exact⟨Za _ (Za _ ho1),haL,ha0⟩
  ·exact⟨Za _ (Za _ (N1 p hp).1),(N1 p hp).2⟩
theorem CA{b:Bool}{f:Value}{kw:List (Str×Value)}{Q:Value->Shared->Prop}(F:Fr h₀ L s.heap m)(N:News h₀ L s.heap news)(hz:vs.length<=4096)(ha2:∀ x,argsOk "list.sort" ⟨[.ref x],kw⟩)(ht:∀ x,Builtin.«list.sort» ⟨[.ref x],kw⟩=ksk_tree x f b)(h:∀ D kS e1 h',Fr h₀ L h' m->News h₀ L h' ((kS,seqObj "list" #[] 0)::(D,seqObj "list" #[] e1)::news)->D<kS->(∀ q∈news,q.1<D) ->
   KatKeys prog w A.in1 h₀ L m kS f (fun ks e s'=>uF prog w A.in1 b ks vs (fun out=>KatFin h₀ L m kS D ks e e1 out (fun s4=>Q (.ref D) s4)) s') vs [] 0 { s with heap:=h' }) :
  wpAny (model prog w) A (do let l ←newList vs;let _ ←holding [l] (call (.builtin "list.sort") [l] kw);ret l) (fun fin s'=>∃v,fin=.done (.ret v)/\Q v s') E s:=by
 have hL:L<s.heap.objs.size:=F.ns.lt;have hoL:(s.heap.push (seqObj "list" vs.toArray 0)).get? s.heap.objs.size=some (seqObj "list" vs.toArray 0):=Zk _ rfl;refine z6 (wpAny_newList ?_ (eE hz));refine z6 (Ym (wpAny_call_entry_kw slot_list_sort ⟨_,hoL,rfl⟩ entry_list_sort ?body (ha2 _)))
 case body =>
  show wpAny (model prog w) A.in1 (Builtin.«list.sort» ⟨[.ref s.heap.objs.size],kw⟩) _ _ _;rw[ht];refine AG (s:={ s with heap:=s.heap.push (seqObj "list" vs.toArray 0) }) (F.kept fun b o q=>Za _ q) (N.grown fun b o q=>Za _ q) hoL (Yh hL) (Heap.get?_none_of_le (ZV F.above (Nat.le_of_lt hL))) (fun p hp=>ZB (Zo (N p hp).1)) hz fun kS e1 h' F' N' l0 l1=>?_;refine kat_keys_mono (h _ kS e1 h' F' N' l0 fun q hq=>Zo (N q hq).1) fun ks e s' _ hd=>⟨fun n2=>Z4 (hd.1 n2) (fun κ s2 hk=>?_) fun _ _ x=>x,fun n2=>(hd.2 n2).mono fun s4 hq=>⟨_,rfl,Zd ⟨_,rfl,hq⟩⟩⟩
  obtain⟨lt,O,ask,fin⟩:=hk;exact⟨lt,O,ask,fun p a1 a2=>(fin p a1 a2).mono fun s4 hq=>⟨_,rfl,Zd ⟨_,rfl,hq⟩⟩⟩
end
open PySem PySem.Spec PyProof.Rows PySem.W
inductive ZKey where
 |i (n:Int)|t (ns:List Int)
def ZKey.nums:ZKey->List Int
 |.i n=>[n]
 |.t ns=>ns
def ZKey.at(H:Hp):ZKey->V->Prop
 |.i n,v=>v=.int n
 |.t ns,v=>∃a,v=.ref a/\H a=some (.tup (ns.map V.int))
theorem ZKey.at.same{H H':Hp}(sm:Same H H'):∀{k:ZKey} {v:V},k.at H v->k.at H' v
 |.i _,_,h=>h
 |.t _,_,⟨a,e,h⟩=>⟨a,e,sm _ _ h⟩
def we(ks:List ZKey):Prop:=(∀k∈ks,∃n,k=.i n)\/∀k∈ks,∃ns,k=.t ns/\ns≠[]
section
variable{X:Cx}{pins:List (Addr×Obj)}{σ:St}{H:Hp}{s:Shared}{h':Heap}
def yM(X:Cx)(s:Shared)(l:Addr)(xs:List V):Prop:=∀Q:List Value->Shared->Prop,(∀h' tk its,(∀b o,s.heap.get? b=some o->h'.get? b=some o)->Vals xs its->Q its { s with heap:=h',toks:=tk })->wpAny (model X.prog X.w) X.A.in1 (collect (.ref l)) Q X.xe s
theorem yl{l:Addr}{xs:List V}(I:Inv X pins σ H s)(hH:H l=some (.lst xs))(hz:xs.length<=4096):yM X s l xs:=fun Q h=>by obtain⟨z,its,n,rv,hlen,e⟩:=I.lstM hH;have li:its.length=xs.length:=hlen.symm;refine collect_list ⟨_,e,rfl,n,rfl⟩ (h _ s.toks its (fun b o g=>?_) rv) (eE (by omega));rw[Heap.get?_update_ne _ _ _ _ (ZB (Zo g))];exact Za _ g
structure SGZ(X:Cx)(pins:List (Addr×Obj))(σ:St)(H1:Hp)(m:Str->Option Value)(kS D:Addr)(e1:Nat)(ks:List ZKey)(as:List V)(us:List Value)(e:Nat)(H:Hp)(s:Shared):Prop where
 I:Inv X pins σ H s
 sm:Same H1 H
 fk:bz X pins H kS
 fd:bz X pins H D
 bk:X.base.get? kS=none
 bd:X.base.get? D=none
 hk:s.heap.get? kS=some (seqObj "list" (List.toArray us) e)
 hd:s.heap.get? D=some (seqObj "list" #[] e1)
 ns:s.heap.Ns X.env.locals m
 vals:Vals as us
 keys:∀(i:Nat) (a:V) (k:ZKey),as[i]?=some a->ks[i]?=some k->k.at H a
theorem SGZ.fr{H1:Hp}{m:Str->Option Value}{kS D:Addr}{e1:Nat}{ks:List ZKey}{as:List V}{us:List Value}{e:Nat}(S:SGZ X pins σ H1 m kS D e1 ks as us e H s):Fr X.base X.env.locals s.heap m:=⟨S.ns,S.I.bk,ZV S.I.ok.bsz S.I.ok.above⟩
theorem mi{H1:Hp}{m:Str->Option Value}{kS D:Addr}{e1:Nat}{ks:List ZKey}{xs:List V}{its:List Value}{f:Addr}{sp:Sp}{Fin:List Value->Nat->Shared->Prop}(hne:kS≠D)(rv:Vals xs its)(hl:ks.length=xs.length)(F:uD X pins σ f sp)(spec:∀(i:Nat) (v:V) (key:ZKey) (H':Hp),xs[i]?=some v->ks[i]?=some key->Same H1 H'->∀R:VK,(∀kv H'',Same H' H''->key.at H'' kv->R kv H'')->sp [v] H' R E0)(fin:∀(as:List V) (us:List Value) (e:Nat) (H:Hp) (s:Shared),SGZ X pins σ H1 m kS D e1 ks as us e H s->as.length=xs.length->Fin us e s) :
  ∀(r:List Value) (as:List V) (us:List Value) (e:Nat) (H:Hp) (s:Shared),SGZ X pins σ H1 m kS D e1 ks as us e H s->its=its.take as.length++r->as.length+r.length=xs.length ->
   KatKeys X.prog X.w X.A.in1.in1 X.base X.env.locals m kS (.ref f) Fin r us e s
 | [],as,us,e,H,s,S,_,hlen=>KatKeys.nil (fin as us e H s S (by simpa using hlen))
 |u::r,as,us,e,H,s,S,hits,hlen=>by
  have hi:as.length<xs.length:=by rw[Zt]at hlen;omega
  have hx:xs[as.length]?=some xs[as.length]:=Zb hi;obtain⟨u',gu,ru⟩:=rv.get hx;have hlt:as.length<its.length:=by rw[<-rv.length];exact hi
  have gu':its[as.length]?=some u:=by rw[hits,Z1 (by rw[ZE];omega),ZE,Nat.min_eq_left (by omega),Nat.sub_self];rfl
  rw[gu']at gu;cases gu;have hkey:ks[as.length]?=some (ks[as.length]'(by omega)):=Zb (by omega);generalize ks[as.length]'(by omega)=key at hkey;refine KatKeys.cons (wpAny_call (codeAny_mono (F s H u xs[as.length] (fun v H''=>Same H H''/\key.at H'' v) S.I ru (spec _ _ _ H hx hkey S.sm _ fun kv H'' s' q=>⟨s',q⟩)) fun res s' hq=>?_));cases res with
  |error e=>exact hq
  |ok fl =>
   cases fl with
   |next=>exact False.elim hq
   |brk=>exact False.elim hq
   |cont=>exact False.elim hq
   |ret uv =>
    obtain⟨v,H'',os,bare,un,hok,rvv,sm,ea⟩:=hq;obtain⟨hh,g,d,t,os'⟩:=s';obtain rfl:os'=s.os:=os;have I2:Inv X pins σ H'' { s with heap:=hh,gens:=g,drawn:=d,toks:=t }:=S.I.call (h':=hh) (g':=g) (d':=d) (t':=t) (ch:=[]) un hok bare (fun b z=>absurd z (by simp));have nstk:∀{b:Addr},bz X pins H b->b∉frs X.stack:=fun{b} fo z=>(Zs.mp (S.I.stkSub b z)).elim fo.2.1 fo.2.2.1;have hk2:hh.get? kS=some (seqObj "list" (List.toArray us) e):=un.keep kS _ S.hk S.fk.1 (nstk S.fk) (by simp);have hd2:hh.get? D=some (seqObj "list" #[] e1):=un.keep D _ S.hd S.fd.1 (nstk S.fd) (by simp);have ns2:hh.Ns X.env.locals m:=by obtain⟨o,es,ep,ho,rr⟩:=id S.ns;obtain⟨sl,hL⟩:=un.any ho S.I.free (by simp);exact⟨_,es,ep,hL,rr⟩
    have fk2:bz X pins H'' kS:=⟨un.free kS _ S.hk S.fk.1 (by simp),S.fk.2⟩
    have fd2:bz X pins H'' D:=⟨un.free D _ S.hd S.fd.1 (by simp),S.fd.2⟩
    have hkL:kS≠X.env.locals:=S.fk.2.1;refine KatBack.intro (news:=(kS,seqObj "list" (List.toArray us) e)::fN X.base hh X.env.locals kS) ⟨ns2,I2.bk,ZV S.I.ok.bsz S.I.ok.above⟩ (fW hk2 hkL S.bk) (.head iF) fun h3 c F3 N3=>?_;have mv:=fV (fun b o q=>I2.bk b o q) F3 N3;have I3:Inv X pins σ H'' { s with heap:=h3,gens:=g,drawn:=d,toks:=t }:=Inv.movedF (ch:=[kS]) (t':=t) I2 (fun b hb=>by rw[Zm.mp hb];exact fk2) mv ⟨m,ns2,F3.ns⟩;refine mi hne rv hl F spec fin r (as++[v]) (us++[uv]) c H'' _ ⟨I3,S.sm.trans sm,fk2,fd2,S.bk,S.bd,(N3 _ (.head _)).1,mv D _ S.fd.2.1 (fun z=>hne (Zm.mp z).symm) hd2,F3.ns,S.vals.append (.cons rvv .nil),fun i b key' h1 h2=>?_⟩ ?_ ?_
    ·by_cases hi2:i<as.length
     ·rw[Yd hi2]at h1;exact(S.keys i b key' h1 h2).same sm
     ·have hi3:=(Zy.mp h1).1;rw[Zi,ZU]at hi3;have e3:i=as.length:=by omega
      subst e3;rw[Z1 (Ze _),Nat.sub_self]at h1;cases h1;rw[hkey]at h2;cases h2;exact ea
    ·rw[Zi,ZU,List.take_add_one,gu',Option.toList_some,ZD];exact hits
    ·rw[Zi,ZU,<-hlen,Zt];omega
theorem jV{b:Bool}{kw:List (Str×Value)}{ks:List ZKey}{xs:List V}{f l:Addr}{sp:Sp}{Q:VK}(I:Inv X pins σ H s)(src:yM X s l xs)(hz:xs.length<=4096)(hl:ks.length=xs.length)(hne:we ks)(hs1:argsOk "sorted" ⟨[.ref l],kw⟩)(hs2:∀x,argsOk "list.sort" ⟨[.ref x],kw⟩)(hs3:∀x,Builtin.«list.sort» ⟨[.ref x],kw⟩=ksk_tree x (.ref f) b)(F:∀l,uD (wX X l) pins σ f sp)(spec:∀(i:Nat) (v:V) (key:ZKey) (H':Hp),xs[i]?=some v->ks[i]?=some key->Same H H'->∀R:VK,(∀kv H'',Same H' H''->key.at H'' kv->R kv H'')->sp [v] H' R E0)(q:∀(p:Array Nat) (H2:Hp) (D:Addr),POk xs.length p->LS (fun i j=>HT.lexLt ((katRev b (ks.map ZKey.nums)).getD i []) ((katRev b (ks.map ZKey.nums)).getD j [])) p xs.length->Same H H2->H2 D=none->Q (.ref D) (upd H2 D (.lst (katRev b (p.toList.map fun i=>(katRev b xs).getD i .non))))) :
  wpAny (model X.prog X.w) X.A (call (.builtin "sorted") [.ref l] kw) (EP X pins σ Q) X.xe s:=by
 refine call_function_entry_kw kind_sorted plain_sorted entry_sorted hs1 ?_;unfold Builtin.«sorted»;refine z6 (m:=checkCount "sorted" 1 1 _) (Zd (z6 (src _ fun h0 tk its kp rv=>?_)));have I0:Inv X pins σ H { s with heap:=h0,toks:=tk }:=I.kept (t':=tk) kp;obtain⟨m,F0⟩:=I0.fr;have li:its.length=xs.length:=rv.length.symm;refine CA (vs:=its) (b:=b) F0 (gG X.base h0 X.env.locals) (by omega) hs2 hs3 fun D kS e1 h1 F1 N1 hDk hD=>?_;have nD:=N1 (D,seqObj "list" #[] e1) (.tail _ (.head _));have nK:=N1 (kS,seqObj "list" #[] 0) (.head _);have hds:h0.get? D=none:=by
  cases g:h0.get? D with
  |none=>rfl
  |some o=>exact absurd (hD (D,o) (cF g nD.2.1 nD.2.2)) (YJ _)
 have hks:h0.get? kS=none:=by
  cases g:h0.get? kS with
  |none=>rfl
  |some o=>exact absurd (Nat.lt_trans hDk (hD (kS,o) (cF g nK.2.1 nK.2.2))) (YJ _)
 have xk:=I0.exOk hks nK.2.1 nK.2.2;have xd:=I0.exOk hds nD.2.1 nD.2.2;have hlx:∀b∈[kS,D],ExOk X b:=fun b' hb=>by
  simp only[Zs,ZX,YH]at hb;rcases hb with rfl|rfl
  ·exact xk
  ·exact xd
 have fpk:=I0.fpW (l:=[kS,D]) (by simp) xk hks;have fpd:=I0.fpW (l:=[kS,D]) (by simp) xd hds;have mv0:∀b u,b≠X.env.locals->b∉([]:List Addr)->h0.get? b=some u->h1.get? b=some u:=fun b u hL _ g=>by
  cases qb:X.base.get? b with
  |none=>exact(N1 (b,u) (.tail _ (.tail _ (cF g hL qb)))).1
  |some o =>have e':=I0.bk b o qb;rw[g]at e';cases e';exact F1.keep b u qb
 have I1:Inv X pins σ H { s with heap:=h1,toks:=tk }:=Inv.movedF (ch:=[]) (s:={ s with heap:=h0,toks:=tk }) (t':=tk) I0 (fun b hb=>absurd hb (by simp)) mv0 ⟨m,F0.ns,F1.ns⟩;have I2:=I1.widen hlx;have hkd:kS≠D:=Yh hDk;refine mi (X:=wX X [kS,D]) (H1:=H) (D:=D) (e1:=e1) (ks:=ks) (xs:=xs) (its:=its) hkd rv hl (F _) spec (fun as us e2 H' s' S la=>?_) its [] [] 0 H { s with heap:=h1,toks:=tk } ⟨I2,Same.refl H,fpk,fpd,nK.2.2,nD.2.2,nK.1,nD.1,F1.ns,.nil,fun i a k h=>by simp at h⟩ (by simp) (by simpa using li);have hN:its.length=xs.length:=li;have lu:us.length=xs.length:=by rw[<-S.vals.length,la]
 have rvR:Vals (katRev b xs) (katRev b its):=rO b rv;have lR:(katRev b xs).length=xs.length:=kat_len b xs;have gk:∀i,i<xs.length->∃(v:V) (u:Value) (k:ZKey),RelV v u/\(katRev b us).getD i Value.none=u/\k∈ks/\(katRev b (ks.map ZKey.nums)).getD i []=k.nums/\k.at H' v:=fun i hi=>by
  obtain⟨j,hj,e1⟩:∃j,j<xs.length/\∀{α:Type} (l:List α),l.length=xs.length->(katRev b l)[i]?=l[j]?:=by
   cases b with
   |false=>exact⟨i,hi,fun l _=>rfl⟩
   | true=>exact⟨xs.length - 1 - i,by omega,fun l hl'=>by
     show l.reverse[i]?=_;rw[List.getElem?_reverse (by omega),hl']⟩
  have h1:as[j]?=some (as[j]'(by omega)):=Zb (by omega);have h2:ks[j]?=some (ks[j]'(by omega)):=Zb (by omega);obtain⟨u,gu,ru⟩:=S.vals.get h1;refine⟨_,u,_,ru,?_,ZC (show j<ks.length by omega),?_,S.keys j _ _ h1 h2⟩
  ·rw[Zf,e1 us lu,gu];rfl
  ·rw[Zf,e1 (ks.map ZKey.nums) (by rw[z9,hl]),Zv,h2];rfl
 have fin:∀p:Array Nat,POk xs.length p->p.size=xs.length/\LS (fun i j=>HT.lexLt ((katRev b (ks.map ZKey.nums)).getD i []) ((katRev b (ks.map ZKey.nums)).getD j [])) p xs.length ->
   KatFin X.base X.env.locals m kS D us e2 e1 (katRev b (p.toList.map fun i=>(katRev b its).getD i Value.none)) (fun s4=>EP X pins σ Q (.ref D) s4) s':=fun p hp hs=>by
  refine KatFin.intro (news:=(kS,seqObj "list" (List.toArray us) e2)::fN X.base s'.heap X.env.locals kS) S.fr (fW S.hk S.fk.2.1 S.bk) (.head iF) fun h3 c F3 N3=>?_;have mv3:=fV (fun b' o qb=>S.I.bk b' o qb) F3 N3;have hd3:h3.get? D=some (seqObj "list" #[] e1):=mv3 D _ S.fd.2.1 (fun zz=>hkd (Zm.mp zz).symm) S.hd;refine KasFin.intro (news:=(D,seqObj "list" #[] e1)::fN X.base h3 X.env.locals D) (s:={ s' with heap:=h3 }) F3 (fW hd3 S.fd.2.1 S.bd) (.head iF) fun h4 c4 F4 N4=>?_;have mv4:=fV (fun b' o qb=>F3.keep b' o qb) F4 N4;have hch:∀b∈[kS,D],bz (wX X [kS,D]) pins H' b:=fun b' hb=>by
   simp only[Zs,ZX,YH]at hb;rcases hb with rfl|rfl
   ·exact S.fk
   ·exact S.fd
  have mv:∀b u,b≠X.env.locals->b∉[kS,D]->s'.heap.get? b=some u->h4.get? b=some u:=fun b' u hL hx g=>mv4 b' u hL (fun zz=>hx (by rw[Zm.mp zz];simp)) (mv3 b' u hL (fun zz=>hx (by rw[Zm.mp zz];simp)) g);have pl:∀i∈p.toList,i<xs.length:=fun i hi=>by have:=(hp.mem_iff).mp (Array.mem_toList_iff.mp hi);simpa using this
  have vals:∀(w:List Nat),(∀i∈w,i<xs.length)->Vals (w.map fun i=>(katRev b xs).getD i .non) (w.map fun i=>(katRev b its).getD i Value.none):=fun w=>by
   induction w with
   |nil=>intro _;exact .nil
   |cons i w ih =>intro hw;have hi:=hw i Yn;have hx:(katRev b xs)[i]?=some ((katRev b xs)[i]'(by omega)):=Zb (by omega);obtain⟨u,gu,ru⟩:=rvR.get hx;refine .cons ?_ (ih fun j hj=>hw j (Z2 _ hj));show RelV ((katRev b xs).getD i V.non) ((katRev b its).getD i Value.none);rw[Zf,Zf,hx,gu];exact ru
  have lp:p.toList.length=xs.length:=by have:=hs.1;simpa using this
  have new:ObjOk X.prog X.w (upd H' D (.lst (katRev b (p.toList.map fun i=>(katRev b xs).getD i .non)))) h4 D (.lst (katRev b (p.toList.map fun i=>(katRev b xs).getD i .non))):=⟨by rw[kat_len,z9,lp];exact eE (by omega),_,c4,rO b (vals _ pl),(N4 _ (.head _)).1⟩
  have I4:=Inv.tookF (X:=wX X [kS,D]) (ch:=[kS,D]) (a:=D) (o:=.lst (katRev b (p.toList.map fun i=>(katRev b xs).getD i .non))) (t':=s'.toks) S.I (by simp) hch mv ⟨m,S.ns,F4.ns⟩ new;exact⟨.ref D,_,I4.narrow I.ok (fun b' hb=>(hlx b' hb).old),rfl,q p H' D hp hs.2 S.sm S.fd.1⟩
 have go:∀κ:SortKind,(∀(i j:Nat) (C:Bool->Shared->Prop),i<xs.length->j<xs.length->C (HT.lexLt ((katRev b (ks.map ZKey.nums)).getD i []) ((katRev b (ks.map ZKey.nums)).getD j [])) s'->kas_ask X.prog X.w X.A.in1.in1 κ (katRev b us) i j C s') ->
   ZGo X.prog X.w X.A.in1.in1 b us its (fun out=>KatFin X.base X.env.locals m kS D us e2 e1 out (fun s4=>EP X pins σ Q (.ref D) s4)) κ s':=fun κ hask=>by
  refine⟨_,xu (katRev b (ks.map ZKey.nums)),?_,?_⟩
  ·rw[hN];exact hask
  ·rw[hN];exact fun p hp hs=>fin p hp ⟨by have:=hp.size_eq;simpa using this,hs⟩
 refine⟨fun n2=>?_,fun n2=>?_⟩
 rotate_left
 ·have:=fin (List.toArray (List.range its.length)) (by rw[hN];exact Array.Perm.refl _) ⟨by simpa using hN,fun i j h1 h2=>by omega⟩;rw[Y5]at this;exact this
 rcases hne with hI|hB
 ·refine kas_kind (T:=.type "int") (by omega) (fun u hu=>?_) rfl rfl (go _ fun i j C hi hj hC=>?_)
  ·obtain⟨j,hj,rfl⟩:=List.getElem_of_mem hu;have h1:as[j]?=some (as[j]'(by omega)):=Zb (by omega);have h2:ks[j]?=some (ks[j]'(by omega)):=Zb (by omega);obtain⟨u,gu,ru⟩:=S.vals.get h1;have ky:=S.keys j _ _ h1 h2;obtain⟨n',en⟩:=hI _ (ZC (show j<ks.length by omega));rw[en]at ky;rw[show as[j]'(by omega)=V.int n' from ky]at ru;obtain⟨t,rfl⟩:=ru;rw[Zb hj]at gu;rw[ZO gu];exact .now
  ·obtain⟨v,u,k1,ru,eu,m1,en,at1⟩:=gk i hi;obtain⟨v2,u2,k2,ru2,eu2,m2,en2,at2⟩:=gk j hj;obtain⟨n1,rfl⟩:=hI _ m1;obtain⟨n2,rfl⟩:=hI _ m2;rw[show v=V.int n1 from at1]at ru;rw[show v2=V.int n2 from at2]at ru2;obtain⟨t,rfl⟩:=ru;obtain⟨t2,rfl⟩:=ru2;unfold kas_ask;rw[eu,eu2];rw[en,en2]at hC;refine kat_lt_int ?_;have e1':HT.lexLt (ZKey.i n1).nums (ZKey.i n2).nums=decide (n1<n2):=tM n1 n2;rw[e1']at hC;exact hC
 ·have tups:∀(vs:List V) (ws:List Value) (n:Nat),Vals vs ws->n+vs.length=ks.length->(∀(i:Nat) (v:V) (k:ZKey),vs[i]?=some v->ks[n+i]?=some k->k.at H' v)->∃fs:List Value,KatTups s'.heap ws fs/\fs.length=ws.length/\∀v∈fs,∃i t,v=.int i t:=fun vs=>by
   induction vs with
   |nil =>intro ws n hv _ _;cases hv;exact⟨[],KatTups.nil,rfl,fun v h=>nomatch h⟩
   |cons v vs ih =>
    intro ws n hv hl' h;cases hv with
    |cons rv1 hv =>
     rw[Zt]at hl';have hkn:ks[n]?=some (ks[n]'(by omega)):=Zb (by omega);obtain⟨ns,en,ne⟩:=hB _ (ZC (show n<ks.length by omega));rw[en]at hkn;obtain⟨a,rfl,ea⟩:=h 0 v _ rfl (by rw[Nat.add_zero];exact hkn);cases rv1;obtain⟨ia,ra,pa,za⟩:=S.I.tuple (SqT.of (K:=X.K) ea);obtain⟨oa,eo,ca,n1,da⟩:=id pa;obtain⟨x,t,ia',rfl⟩:∃x t r,ia=.int x t::r:=by
      cases cE ra with
      |nil=>exact absurd rfl ne
      |cons x t r=>exact⟨x,t,_,rfl⟩
     obtain⟨fs,f1,f2,f3⟩:=ih _ (n+1) hv (by omega) (fun i w k' h1 h2=>h (i+1) w k' h1 (by rw[show n+(i+1)=n+1+i by omega];exact h2));refine⟨.int x t::fs,KatTups.cons eo ca da rfl f1,by rw[Zt,Zt,f2],fun v hv=>?_⟩;rcases Zs.mp hv with rfl|hv
     ·exact⟨_,_,rfl⟩
     ·exact f3 v hv
  obtain⟨fs,t1,t2,t3⟩:=tups as us 0 S.vals (by omega) (fun i v k h1 h2=>S.keys i v k h1 (by rw[Nat.zero_add]at h2;exact h2));refine kat_kind (T:=.type "int") t1 (by omega) (fun v hv=>?_) rfl (go _ fun i j C hi hj hC=>?_)
  ·obtain⟨i,t,rfl⟩:=t3 v hv;exact .now
  ·obtain⟨v,u,k1,ru,eu,m1,en,at1⟩:=gk i hi;obtain⟨v2,u2,k2,ru2,eu2,m2,en2,at2⟩:=gk j hj;obtain⟨n1,rfl,_⟩:=hB _ m1;obtain⟨n2,rfl,_⟩:=hB _ m2;obtain⟨a1,rfl,ha1⟩:=at1;obtain⟨a2,rfl,ha2⟩:=at2;cases ru;cases ru2;obtain⟨ia,ra,pa,za⟩:=S.I.tuple (SqT.of (K:=X.K) ha1);obtain⟨ib,rb,pb,zb⟩:=S.I.tuple (SqT.of (K:=X.K) ha2);obtain⟨oa,eoa,ca,q1,da⟩:=id pa;obtain⟨ob,eob,cb,q2,db⟩:=id pb;unfold kas_ask;rw[eu,eu2];rw[en,en2]at hC;exact kat_lt eoa da eob db (jR _ _ _ _ 0 (cE ra) (cE rb) (by rw[Zh,Zh,<-ra.length,<-rb.length,z9,z9]) hC)
end
open PySem PySem.Spec PyProof.Rows PySem.W
def FY(j:Int)(t u v:Tok):Obj:={ cls:=.type "range",data:=.fields #[.int 0 t,.int j u,.int 1 v] }
def SrcH(H:Hp)(l:Addr)(xs:List V):Prop:=H l=some (.lst xs)\/∃(n:Nat) (t u v:Tok),n<=4096/\H l=some (eJ l (FY (n:Int) t u v))/\xs=(List.range n).map fun i:Nat=>V.int (i:Int)
section
variable{X:Cx}{pins:List (Addr×Obj)}{σ:St}{H:Hp}{s:Shared}
theorem uh{l:Addr}{xs:List V}(hc:X.calm=true)(I:Inv X pins σ H s)(h:SrcH H l xs)(hz:xs.length<=4096):yM X s l xs:=by
 rcases h with h|⟨n,t,u,v,hn,h,rfl⟩
 ·exact yl I h hz
 ·intro Q hq;have hr:IsRange s.heap l 0 (n:Int) 1 t u v:=(I.hok l _ h).1;have hh:X.A.in1.handled=none:=I.ok.hd hc;have h1:Builtin.Range.rangeSize 0 (n:Int) 1=((n:Nat):Int):=by rw[rangeSize_one];split<;>omega
  refine mL hh hr (small_one (by omega) (by omega) (by omega) (by omega)) h1 (by omega) fun h' tk acc kp hI=>hq h' tk acc.toList kp ?_;have go:∀(its:List Value) (k:Nat),(∀(i:Nat) (v:Value),its[i]?=some v->∃t,v=.int ((k+i:Nat):Int) t)->Vals ((List.range' k its.length).map fun i:Nat=>V.int (i:Int)) its:=by
   intro its;induction its with
   |nil=>intro k _;exact .nil
   |cons x its ih =>
    intro k hx;obtain⟨t,rfl⟩:=hx 0 x rfl;rw[Zt,List.range'_succ,Z0];refine .cons ⟨t,?_⟩ (ih (k+1) fun i v hv=>?_)
    ·rfl
    ·obtain⟨t,e⟩:=hx (i+1) v hv;exact⟨t,by rw[e];congr 2;omega⟩
  have e:=go acc.toList 0 fun i v hv=>by obtain⟨t,e⟩:=hI.2 i v (by rw[<-hv,Array.getElem?_toList]);refine⟨t,by rw[e];congr 1;omega⟩
  rw[Zg,hI.1]at e;rw[List.range_eq_range'];exact e
end
def yr(sp:Hp->List V->Hp->VK->Prop)(sm:Hp->Hp->Prop)(end':Hp->Prop)(H:Hp)(xs:List V)(ks:List ZKey)(Q:VK):Prop :=
 xs.length<=4096/\ks.length=xs.length/\we ks /\
 (∀(i:Nat) (v:V) (key:ZKey) (H':Hp),xs[i]?=some v->ks[i]?=some key->sm H H'->∀R:VK,(∀kv H'',Same H' H''->key.at H'' kv->R kv H'')->sp H' [v] H' R) /\
 ∀(p:Array Nat) (H2:Hp) (D:Addr),POk xs.length p->LS (fun i j=>HT.lexLt ((ks.map ZKey.nums).getD i []) ((ks.map ZKey.nums).getD j [])) p xs.length->sm H H2->end' H2->H2 D=none->Q (.ref D) (upd H2 D (.lst (p.toList.map fun i=>xs.getD i .non)))
def Cp(sp:Sp)(ta:TA):TE:=fun σ H0 Q=>ta σ H0 fun vs H=>∃(l:Addr) (xs:List V) (ks:List ZKey),vs=[.ref l]/\SrcH H l xs/\yr (fun _ vs H Q=>sp vs H Q E0) Same (fun _=>True) H xs ks Q
def Cq(P:Addr)(q:Str)(lpos:Pos)(sp:Sp)(ta:TA):TE:=fun σ H0 Q=>ta σ H0 fun vs H=>∃(l:Addr) (xs:List V) (ks:List ZKey),vs=[.ref l]/\SrcH H l xs/\aE q P lpos H/\yr (fun _ vs H Q=>sp vs H Q E0) (SameT P) (aE q P lpos) H xs ks Q
theorem SrcH.moved{P:Addr}{q:Str}{lpos:Pos}{H H2:Hp}{l:Addr}{xs:List V}(h:SrcH H l xs)(tab:aE q P lpos H)(s:SameT P H H2):SrcH H2 l xs:=by
 obtain⟨ps,tP,_⟩:=tab;rcases h with h|⟨n,t,u,v,hn,h,e⟩
 ·exact .inl (s _ _ h fun z=>by rw[z,tP]at h;cases h)
 ·have hne:l≠P:=fun z=>by rw[z,tP]at h;cases h
  exact .inr ⟨n,t,u,v,hn,s _ _ h hne,e⟩
section
variable{X:Cx}{c P:Addr}{pins:List (Addr×Obj)}{σ:St}
theorem Ad{k:Nat}{fx x:Str}{sp:Sp}{e:Expr}{ta:TA}{p fp kpos pos:Pos}(hc:X.calm=true)(hm:X.mg "sorted" = none)(F:Fn X.prog X.w X.K X.mg X.base k fx [x] sp)(hr:Room (k+2) X.A)(ha:QA X [e] ta)(hg:Gl X "sorted":=by rfl)(hgf:Gl X fx:=by rfl)(hn:aV e=true:=by rfl)(hdb:(fx==("__debug__":Str))=false:=by decide):QE X (.Call (.Name "sorted" p) [e] [⟨some "key",.Name fx fp,kpos⟩] pos) (Cp sp ta):=by refine⟨?_⟩;intro pins s σ H0 Q I h;obtain⟨f,fd,F1,m1,kp,bn⟩:=F.ex;refine Y9 (dS I hg hm PyProof.Rows.boot_sorted ?_);have h1:=aZ (es:=[]) (env:=X.env) hn;refine PyProof.Rows.callWith_kw (thn (ha.h pos pins s σ H0 _ I h) fun us s1 hz9=>?_) (he:=by rw[h1];rfl) (hplain:=by rw[h1];rfl) (hall:=rfl) (hkw:=rfl);obtain⟨vs,H1,I1,r1,q1⟩:=hz9;obtain⟨l,xs,ks,rfl,hH,hz,hl,hne,spec,q⟩:=q1;obtain⟨u,rfl,ru⟩:=cu r1;cases ru;have hk:PK X [⟨some "key",.Name fx fp,kpos⟩] (eZ (tC (.ref f)) gK):=tS (nA hgf m1 rfl hdb) xQ;refine thn (hk pos pins s1 σ H1 (fun zs H2=>zs=[.ref f]/\H2=H1) I1 ⟨rfl,rfl⟩) fun ws s2 hz9=>?_;obtain⟨zs,H2,I2,rz,e1,h2e⟩:=hz9;subst e1 h2e;obtain⟨u,rfl,ru⟩:=cu rz;cases ru;exact jV (b:=false) I2 (uh hc I2 hH hz) hz hl hne (ksk_s1 _ _) (fun x=>ksk_l1 _ _) (fun x=>ksk_t1 f x) (tV F1 (fun s u kin=>bn s [u] kin rfl) (hr.mono (by omega) |>.in1 |>.in1)) spec fun p H3 D a1 a2 a3 a4=>q p H3 D a1 a2 a3 trivial a4
theorem Ae{k:Nat}{x:Str}{sp:Sp}{e body:Expr}{params:Arguments}{scope:Scope}{ta:TA}{p lpos kpos pos:Pos}(hc:X.calm=true)(hm:X.mg "sorted" = none)(hcode:X.env.code=.ref c)(C:CodeHd X.base c P)(B:Blt X.base X.mg)(F:LamOk X.prog X.w X.K X.mg X.base k (X.env.qual++"<lambda>") body scope x sp)(hr:Room (k+3) X.A)(ha:QA X [e] ta)(hbd:∀(pm ct:Value) (c':Addr) (s:Shared) (u:Value),BindsTo s (pC (X.env.qual++"<lambda>") params body scope [] pm c' ct) ⟨[u],[]⟩ [(x,u)]:=by intros;exact .of_eq rfl)(hge:X.env.globals=mainGlobals:=by rfl)(hdef:defaultsOf params X.env=([],[]):=by rfl)(hcl:closureFor scope X.env=pure []:=by rfl)(hg:Gl X "sorted":=by rfl)(hn:aV e=true:=by rfl) :
  QE X (.Call (.Name "sorted" p) [e] [⟨some "key",.Lambda params body scope lpos,kpos⟩] pos) (Cq P (X.env.qual++"<lambda>") lpos sp ta):=by
 refine⟨?_⟩;intro pins s σ H0 Q I h;obtain⟨N,S,len,hbody⟩:=F.ex;refine Y9 (dS I hg hm PyProof.Rows.boot_sorted ?_);have h1:=aZ (es:=[]) (env:=X.env) hn;refine PyProof.Rows.callWith_kw (thn (ha.h pos pins s σ H0 _ I h) fun us s1 hz9=>?_) (he:=by rw[h1];rfl) (hplain:=by rw[h1];rfl) (hall:=rfl) (hkw:=rfl);obtain⟨vs,H1,I1,r1,q1⟩:=hz9;obtain⟨l,xs,ks,rfl,hH,tab,hz,hl,hne,spec,q⟩:=q1;obtain⟨u,rfl,ru⟩:=cu r1;cases ru;have hk:PK X [⟨some "key",.Lambda params body scope lpos,kpos⟩] (eZ (vX [] X P params body scope lpos) gK):=tS (B0 hcode hge C B hdef hcl) xQ;refine thn (hk pos pins s1 σ H1 (fun zs H2=>∃f,zs=[.ref f]/\sD X P (X.env.qual++"<lambda>") lpos params body scope [] H1 f H2) I1 (zt tab fun f H2 mk=>⟨f,rfl,mk⟩)) fun ws s2 hz9=>?_;obtain⟨zs,H2,I2,rz,f,e1,mk⟩:=hz9;subst e1;obtain⟨u,rfl,ru⟩:=cu rz;cases ru;obtain⟨c',ct,sT,lt,hf,hc',nf,nc⟩:=mk;have F1:FnOk X.prog X.w X.K X.mg X.base CX0 (k+1) f (pC (X.env.qual++"<lambda>") params body scope [] ((X.mg "__name__").getD .none) c' ct) [x] _:=Da (params:=params) (pm:=(X.mg "__name__").getD .none) (ct:=ct) (c':=c') S len fun A outer s H vs Q E hr' hs=>let⟨t,t1,t2⟩:=hbody f c' A outer s H vs Q E hr' hs;⟨t,t1.h,t2⟩
 refine jV (b:=false) I2 (uh hc I2 (hH.moved tab sT) hz) hz hl hne (ksk_s1 _ _) (fun x=>ksk_l1 _ _) (fun x=>ksk_t1 f x) (tV F1 (fun s u _=>hbd _ _ _ s u) (hr.mono (by omega) |>.in1 |>.in1)) (fun i v key H' g1 g2 g3 R hR=>⟨g3 _ _ hf,g3 _ _ hc',spec i v key H' g1 g2 (sT.trans (.of g3)) R hR⟩) fun p H3 D a1 a2 a3 a4=>q p H3 D a1 a2 (sT.trans (.of a3)) ?_ a4;obtain⟨ps',e1,e2,e3⟩:=lt;exact⟨ps',a3 _ _ e1,e2,e3.imp id fun⟨c'',z1,z2⟩=>⟨c'',z1,a3 _ _ z2⟩⟩
end
open PySem PySem.Spec PyProof.Rows PySem.W
section
variable{prog:Program}{w:World}{A:Around}{E:Value->Shared->Prop}{s:Shared}{d it v:Addr}{es:Array DictEntry}{ep i:Nat}
theorem xV{Q:Value->Shared->Prop}(hv:s.heap.IsValuesView v d)(hm:DRaw s.heap d es ep)(hQ:Q (.ref s.heap.objs.size) { s with heap:=s.heap.push { cls:=.type "dict_valueiterator",data:=.fields #[.ref d,.int 0 0,.int es.size 0,.int ep 0] } }):wpAny (model prog w) A (pyIter (.ref v)) Q E s:=by
 obtain⟨ov,e1,e2,e3⟩:=id hv;obtain⟨o,f1,f2,f3⟩:=id hm;refine wpAny_pyIter_slot hv.typeIs PySem.F.slot_dict_values_iter (ZW PySem.F.slot_dict_values_iter hv.typeIs PySem.F.entry_dict_values_iter ?_ (PySem.F.args_dict_values_iter_1 _));unfold Builtin.«dict_values.__iter__»;refine z6 (Zd (z6 ?_));unfold Builtin.Dict_items.dictOf;refine z6 (Z3 e1 e3 (x:=.ref d) rfl (Zd (z6 ?_)));unfold Builtin.Dict_items.newIterator;refine z6 (Y1 f1 f3 (z6 (wpAny_dictEpoch f1 f3 ?_)));have own:Builtin.Dict_items.ownsTuple "dict_valueiterator" = false:=by decide
 simp only[own,Yz,YT];refine ZP (Zd ⟨_,rfl,"dict_valueiterator",_,⟨_,Zk _ rfl,rfl⟩,Yq.lookup,?_⟩);simpa[rawInt]using hQ
theorem xU{Q:Option Value->Shared->Prop}(hit:s.heap.IsValIter it d i es.size ep)(hm:DRaw s.heap d es ep)(hx:i<es.size)(hQ:∀h',h'.IsValIter it d (i+1) es.size ep->Heap.SameBut it s.heap h'->Q (some es[i].val) { s with heap:=h' }):wpAny (model prog w) A (pyNext (.ref it)) Q E s:=by
 obtain⟨o,ho,hc,hd⟩:=id hit;obtain⟨od,hod,hcd,hdd⟩:=id hm;unfold pyNext;refine z6 (wpAny_attempt (ZS (name:=Str.ofString "__next__") hit.typeIs Yq
  (ZW Yq hit.typeIs PySem.F.entry_dict_valueiterator_next ?_ (PySem.F.args_dict_valueiterator_next_1 _))))
 refine z6 (Zd ?_);refine z6 ?_;refine z6 ?_
 first|refine z6 (Y3 hit.typeIs (Zd ?_))|refine z6 (wpAny_typeNameOf_valiter hit.typeIs (Zd ?_))
 refine z6 (wpAny_fieldsOf ho hd ?_);have hown:Builtin.Dict_items.ownsTuple "dict_valueiterator" = false:=by decide
 simp only[hown,Yz,YT];show wpAny _ _ (if(Value.ref d==Value.none)=true then _ else _) _ _ s;rw[if_neg (show¬((Value.ref d==Value.none)=true)from Zr)];refine z6 (Zd ?_);refine z6 (Y1 hod hdd ?_);rw[if_neg (by simp)];refine z6 (Zd ?_);refine z6 (wpAny_dictEpoch hod hdd ?_);rw[if_neg (by simp)];refine Zd ?_;simp only[show¬((i:Int)<0)from by omega,YT,y0,Array.getElem?_eq_getElem hx];refine z6 ?_
 first|refine z6 (Y3 hit.typeIs (Zd ?_))|refine z6 (wpAny_typeNameOf_valiter hit.typeIs (Zd ?_))
 refine z6 (wpAny_isOneOf_valiter hit.typeIs ?_);show wpAny _ _ (setField (.ref it) 1 (rawInt ((i:Int)+1)) >>= _) _ _ s;refine z6 (YD ho hd (by simp) ?_);have hit':(s.heap.update it (Obj.mapFields (·.setIfInBounds 1 (rawInt ((i:Int)+1))))).IsValIter it d (i+1) es.size ep :=
  ⟨_,YG _ ho (YX (Ye hd _)),(Obj.cls_mapFields ..).trans hc,by rw[Ye hd];simp[rawInt]⟩
 refine z6 (Ym ?_);refine z6 (wpAny_isOneOf_valiter (s:={ s with heap:=s.heap.update it (Obj.mapFields (·.setIfInBounds 1 (rawInt ((i:Int)+1)))) }) hit'.typeIs ?_);refine z6 (wpAny_isOneOf_valiter (s:={ s with heap:=s.heap.update it (Obj.mapFields (·.setIfInBounds 1 (rawInt ((i:Int)+1)))) }) hit'.typeIs ?_);show wpAny _ _ (pure es[i].val) _ _ _;exact Zd (Zd ⟨_,rfl,Zd (hQ _ hit' (ZQ ..))⟩)
theorem Al{Q:Option Value->Shared->Prop}(hh:A.handled=none)(hit:s.heap.IsValIter it d es.size es.size ep)(hm:DRaw s.heap d es ep)(hQ:∀h',Heap.ExtBut it s.heap h'->Q none { s with heap:=h' }) :
  wpAny (model prog w) A (pyNext (.ref it)) Q E s:=by
 obtain⟨o,ho,hc,hd⟩:=id hit;obtain⟨od,hod,hcd,hdd⟩:=id hm;unfold pyNext;refine z6 (wpAny_attempt (ZS (name:=Str.ofString "__next__") hit.typeIs Yq
  (ZW Yq hit.typeIs PySem.F.entry_dict_valueiterator_next ?_ (PySem.F.args_dict_valueiterator_next_1 _))))
 refine z6 (Zd ?_);refine z6 ?_;refine z6 ?_
 first|refine z6 (Y3 hit.typeIs (Zd ?_))|refine z6 (wpAny_typeNameOf_valiter hit.typeIs (Zd ?_))
 refine z6 (wpAny_fieldsOf ho hd ?_);have hown:Builtin.Dict_items.ownsTuple "dict_valueiterator" = false:=by decide
 simp only[hown,Yz,YT];show wpAny _ _ (if(Value.ref d==Value.none)=true then _ else _) _ _ s;rw[if_neg (show¬((Value.ref d==Value.none)=true)from Zr)];refine z6 (Zd ?_);refine z6 (Y1 hod hdd ?_);rw[if_neg (by simp)];refine z6 (Zd ?_);refine z6 (wpAny_dictEpoch hod hdd ?_);rw[if_neg (by simp)];refine Zd ?_;simp only[show¬((es.size:Int)<0)from by omega,YT,y0,Array.getElem?_eq_none (Ze _)];refine z6 ?_
 first|refine z6 (Y3 hit.typeIs (Zd ?_))|refine z6 (wpAny_typeNameOf_valiter hit.typeIs (Zd ?_))
 show wpAny _ _ (setField (.ref it) 0 .none >>= _) _ _ s;refine z6 (YD ho hd (by simp) ?_);show wpAny _ _ (newExc (.type "StopIteration") [] >>= _) _ _ _;refine z6 ?_;simp only[newExc,newTuple];refine z6 (ZP ?_ (by size_fits));refine z6 (m:=firstArgMember _ _) (wpAny_of_eq (a:=Value.none) (by first|rfl|(simp only[firstArgMember];rfl)) ?_);refine ZP ?_ (by size_fits);simp only[raiseNew];refine z6 (wpAny_handled ?_);rw[show A.in1.handled=none from hh];refine z6 (Zd (wpAny_throw ?_));refine z6 (wpAny_isInstance (T:="StopIteration") (b:=true) ⟨_,Zk _ rfl,rfl⟩ isSubtype_stop ?_);exact Zd (hQ _ (((ZQ ..).extBut.push _).push _))
theorem vI(hh:A.handled=none)(I d:Addr)(hne:d≠I)(es:Array DictEntry)(ep:Nat) :
  Walks prog w A I [I,d] [I] es.size (fun i v=>∃e,es[i]?=some e/\v=e.val) (fun i h=>h.IsValIter I d i es.size ep/\DRaw h d es ep) where
 sub:=fun b hb=>by simp at hb;simp[hb]
 frame:=fun _ _ _ st hk=>⟨let⟨o,ho,r⟩:=st.1;⟨o,hk I (by simp) o ho,r⟩,st.2.at' fun o e=>hk d (by simp) o e⟩
 item:=fun i s Q E hi st hQ=>xU st.1 st.2 hi fun h' hit' hs'=>hQ _ h' s.toks ⟨es[i],by simp[hi],rfl⟩ ⟨hit',st.2.at' fun o e=>hs'.extBut d o hne e⟩ fun b o hb e=>hs'.extBut b o (fun h=>hb (by simp[h])) e
 done:=fun s Q E st hQ=>Al hh st.1 st.2 fun h' he'=>hQ h' s.toks fun b o hb e=>he' b o (fun h=>hb (by simp[h])) e
 self:=fun _ _ _ _ st hQ=>wpAny_pyIter_valiter st.1 hQ
theorem Am:KdlSrc prog w "dict_values" v d es.size (fun i v=>∃e,es[i]?=some e/\v=e.val) (fun h=>h.IsValuesView v d/\DRaw h d es ep) where
 type:=fun _ hm=>hm.1.typeIs
 there:=fun _ hm=>⟨let⟨_,ho,_⟩:=hm.1;Zo ho,hm.2.lt⟩
 keep:=fun _ _ hm hk=>⟨let⟨o,ho,x⟩:=hm.1;⟨o,hk v (.inl rfl) o ho,x⟩,hm.2.at' fun o e=>hk d (.inr rfl) o e⟩
 notList:=by decide
 notTuple:=by decide
 hint:=fun _ _ _ _ hm hq=>kdl_hint_values hm.1.typeIs hq
 iter:=fun _ _ hh hm=>⟨_,_,(fun _ _ hq=>xV hm.1 hm.2 hq),vI hh _ d (ZB hm.2.lt) es ep,⟨⟨_,Zk _ rfl,rfl,rfl⟩,hm.2.at' fun o e=>Za _ e⟩⟩
end
open PySem PySem.Spec PyProof.Rows PySem.W
section
variable{prog:Program}{w:World}{A:Around}{E:Value->Shared->Prop}{s:Shared}
theorem lJ{it l:Addr}{i:Nat}{items:Array Value}{x:Value}{Q:Value->Shared->Prop}(hit:s.heap.IsTupleIter it l i)(hl:s.heap.IsTuple l items)(hx:items[i]?=some x)(hQ:∀h',h'.IsTupleIter it l (i+1)->Heap.SameBut it s.heap h'->Q x { s with heap:=h' }):wpAny (model prog w) A (Builtin.SmallTypes.nextOf (.ref it)) Q E s:=by obtain⟨o,ho,hc,hd⟩:=id hit;obtain⟨ol,g1,_,nl,g2⟩:=hl;unfold Builtin.SmallTypes.nextOf;refine z6 (ZS (name:=Str.ofString "__next__") hit.typeIs YU (ZW YU hit.typeIs PySem.F.entry_tuple_iterator_next ?_ (PySem.F.args_tuple_iterator_next_1 _)));show wpAny _ _ (field (.ref it) 0 >>= _) _ _ s;refine z6 (Z3 ho hd (x:=.ref l) rfl ?_);show wpAny _ _ (if(Value.ref l==Value.none)=true then _ else _) _ _ s;rw[if_neg (show¬((Value.ref l==Value.none)=true)from Zr)];show wpAny _ _ (field (.ref it) 1 >>= _) _ _ s;refine z6 (Z3 ho hd (x:=.int i 0) rfl ?_);show wpAny _ _ (seqItems? (.ref l) >>= _) _ _ s;refine z6 (YW g1 g2 ?_);simp only[y0,hx];refine z6 (YD ho hd (by simp) (Zd ⟨x,rfl,Zd (hQ _ ⟨_,YG _ ho (YX (Ye hd _)),(Obj.cls_mapFields ..).trans hc,by rw[Ye hd];simp[rawInt]⟩ (ZQ ..))⟩))
theorem mW{it l:Addr}{i:Nat}{items:Array Value}{Q:Value->Shared->Prop}(hh:A.handled=none)(hit:s.heap.IsTupleIter it l i)(hl:s.heap.IsTuple l items)(hx:items[i]?=none)(hE:∀h' e,Heap.ExtBut it s.heap h'->(∃o,h'.get? e=some o/\o.cls=.type "StopIteration")->E (.ref e) { s with heap:=h' }):wpAny (model prog w) A (Builtin.SmallTypes.nextOf (.ref it)) Q E s:=by
 obtain⟨o,ho,hc,hd⟩:=id hit;obtain⟨ol,g1,_,nl,g2⟩:=hl;unfold Builtin.SmallTypes.nextOf;refine z6 (ZS (name:=Str.ofString "__next__") hit.typeIs YU (ZW YU hit.typeIs PySem.F.entry_tuple_iterator_next ?_ (PySem.F.args_tuple_iterator_next_1 _)));show wpAny _ _ (field (.ref it) 0 >>= _) _ _ s;refine z6 (Z3 ho hd (x:=.ref l) rfl ?_);show wpAny _ _ (if(Value.ref l==Value.none)=true then _ else _) _ _ s;rw[if_neg (show¬((Value.ref l==Value.none)=true)from Zr)];show wpAny _ _ (field (.ref it) 1 >>= _) _ _ s;refine z6 (Z3 ho hd (x:=.int i 0) rfl ?_);show wpAny _ _ (seqItems? (.ref l) >>= _) _ _ s;refine z6 (YW g1 g2 ?_);simp only[y0,hx];refine z6 (YO (z6 (YD ho hd (by simp) ?_)));show wpAny _ _ (newExc (.type "StopIteration") [] >>= _) _ _ _;refine z6 ?_;simp only[newExc,newTuple];refine z6 (ZP ?_ (by size_fits));refine z6 (m:=firstArgMember _ _) (wpAny_of_eq (a:=Value.none) (by first|rfl|(simp only[firstArgMember];rfl)) ?_);refine ZP ?_ (by size_fits);simp only[raiseNew];refine z6 (wpAny_handled ?_)
 first|rw[show A.in1.handled=none from hh]|rw[hh]
 refine z6 (Zd (wpAny_throw ?_));exact hE _ _ (((ZQ ..).extBut.push _).push _) ⟨_,Zk _ rfl,rfl⟩
theorem wN(hh:A.handled=none)(it l:Addr)(hne:l≠it)(items:Array Value):Draws prog w A it [it,l] items.size (fun i v=>items[i]?=some v) (fun i h=>h.IsTupleIter it l i/\h.IsTuple l items) where
 live:=fun _ _ st=>let⟨o,ho,_⟩:=st.1;⟨o,ho⟩
 frame:=fun _ _ _ st hk=>⟨let⟨o,ho,r⟩:=st.1;⟨o,hk it (by simp) o ho,r⟩,let⟨o,ho,r⟩:=st.2;⟨o,hk l (by simp) o ho,r⟩⟩
 item:=fun i s Q E hi st hQ=>lJ st.1 st.2 (x:=items[i]) (by simp[hi]) fun h' hit' hs'=>hQ _ h' s.toks (by simp[hi]) ⟨hit',st.2.extBut hs'.extBut hne⟩ hs'
 done:=fun s Q E st hE=>mW hh st.1 st.2 (by simp) hE
open PySem.AutoSeq1 (wpAny_loadPart')in
theorem rY(l:Addr)(items:Array Value)(n:Nat)(dct:Option Addr)(sl:Array (Option Value)) :
  Meets (Builtin.«enumerate.__new__» ⟨[.type "enumerate",.ref l],[]⟩) (fun _ R s=>s.heap.get? l=some { cls:=.type "tuple",dict:=dct,data:=.seq items n,slots:=sl } /\
   R (.ok (.ret (.ref (s.heap.push { cls:=.type "tuple_iterator",data:=.fields #[.ref l,.int 0 0] }).objs.size)))
    { s with heap:=(s.heap.push { cls:=.type "tuple_iterator",data:=.fields #[.ref l,.int 0 0] }).push { cls:=.type "enumerate",data:=.fields #[.none,.bool false,.ref s.heap.objs.size,rawInt 0,.none,.none] } }) :=
 .of_wp fun prog w A R s h=>by
  obtain⟨hp,g,d,tk,os⟩:=s;obtain⟨hl,h⟩:=h;have hsub:=sub_enumerate;have hL:Heap.IsTuple (Shared.heap ⟨hp,g,d,tk,os⟩) l items:=⟨_,hl,rfl,n,rfl⟩
  wp_walk using wpAny_loadPart' hl
  refine wpAny_stack_any fun st=>Zd ?_;split
  ·rename_i c _ _ _ _ _;cases(c==Value.type "enumerate")
   ·wp_walk using wpAny_loadPart' hl,Y8 hL
    exact⟨_,rfl,h⟩
   ·wp_walk using wpAny_loadPart' hl,Y8 hL
    exact⟨_,rfl,h⟩
  ·wp_walk using wpAny_loadPart' hl,Y8 hL
   exact⟨_,rfl,h⟩
theorem uJ{l:Addr}{items:Array Value}{Q:Value->Shared->Prop}(hL:IsTup s.heap l items)(h:∀h',IsEnum h' (s.heap.objs.size+1) s.heap.objs.size 0 .none->h'.IsTupleIter s.heap.objs.size l 0->h'.objs.size=s.heap.objs.size+2->(∀b o,s.heap.get? b=some o->h'.get? b=some o)->Q (.ref (s.heap.objs.size+1)) { s with heap:=h' }) :
  wpAny (model prog w) A (call (.type "enumerate") [.ref l]) Q E s:=by
 obtain⟨⟨c,dct,dt,sl⟩,hl,hc,n,hd⟩:=hL
 replace hc:c=.type "tuple":=hc
 replace hd:dt=.seq items n:=hd
 subst hc hd;refine callType_new PySem.F.called_enumerate (by decide) (PySem.F.typeCall_enumerate_1 _) (PySem.F.newCall_enumerate_1 _) (fun obj=>PySem.F.args_object_init_2 obj _) PySem.F.entry_enumerate_new (rY l items n dct sl) ⟨hl,?_⟩;have hz:(s.heap.push { cls:=.type "tuple_iterator",data:=.fields #[.ref l,.int 0 0] }).objs.size=s.heap.objs.size+1:=YV ..;show _/\_;rw[hz];have he:IsEnum ((s.heap.push { cls:=.type "tuple_iterator",data:=.fields #[.ref l,.int 0 0] }).push { cls:=.type "enumerate",data:=.fields #[.none,.bool false,.ref s.heap.objs.size,rawInt 0,.none,.none] }) (s.heap.objs.size+1) s.heap.objs.size 0 .none:=by have:=Zk (s.heap.push { cls:=.type "tuple_iterator",data:=.fields #[.ref l,.int 0 0] }) (o:={ cls:=.type "enumerate",data:=.fields #[.none,.bool false,.ref s.heap.objs.size,rawInt 0,.none,.none] }) rfl;rw[hz]at this;exact this
 refine⟨⟨_,he,rfl⟩,h _ he ⟨_,Za _ (Zk _ rfl),rfl,rfl⟩ (by rw[YV,hz]) fun b o x=>Za _ (Za _ x)⟩
end
def ItT(K:PySem.W.Frag)(a:Addr)(xs:List V):It :=
 ⟨fun i H=>i<xs.length/\SqT K H a xs,fun i H x H'=>∃T p,H T=none/\xs[i]?=some p/\x=.ref T/\H'=upd H T (.tup [.int i,p]),fun i H=>i=xs.length/\SqT K H a xs⟩
abbrev eTt(e it a:Addr):Nat->Heap->Prop:=fun i h=>(∃old,IsEnum h e it i old)/\h.IsTupleIter it a i
theorem wa{P:Program}{w:World}{K:PySem.W.Frag}{elts:List Expr}{kt:Nat}{tp:Pos}{e it a:Addr}{xs:List V}(ne:e≠it)(ha:e≠a/\it≠a) :
  Turn P w K (.Tuple elts kt tp) (ItT K a xs) [e,it] e (eTt e it a):=by
 refine⟨by simp,fun i h st c hc=>?_,fun i h h' st k=>?_,?_,?_,fun A i s Q E st h=>?_⟩
 ·obtain⟨⟨old,e1⟩,⟨o4,e4,_,d4⟩⟩:=st;simp only[Zs,ZX,YH]at hc;rcases hc with rfl|rfl
  ·exact⟨_,e1,fun v z=>nomatch z⟩
  ·exact⟨_,e4,fun v z=>by rw[d4]at z;cases z⟩
 ·obtain⟨⟨old,e1⟩,⟨o4,e4,r4⟩⟩:=st;exact⟨⟨old,k e (by simp) _ e1⟩,⟨o4,k it (by simp) _ e4,r4⟩⟩
 ·intro X hP hw hK hc i pins s σ H E I hf st hg;subst hP hw hK;obtain⟨⟨old,e1⟩,e4⟩:=st;obtain⟨hi,hx⟩:=hg;obtain⟨its,rx,px,zx⟩:=I.tuple hx;have lx:i<its.toArray.size:=by rw[Zh,<-rx.length];exact hi
  have hh:=I.ok.hd hc;refine wpAny_pyNext_enum_itemD (wN (A:=X.A.in1) hh it a ha.2.symm its.toArray) e1 ⟨e4,px⟩ lx ne (by simp[ne,ha.1]) fun x h' tk qx ho hs' hT hsz hk=>?_;refine⟨_,rfl,wpAny_letOwnedTupleGo_enum (s:={ s with heap:=h',toks:=tk+1 }) ho fun h2 he2 sb=>?_⟩;obtain⟨xv,ex⟩:∃xv,xs[i]?=some xv:=⟨xs[i],by simp[hi]⟩
  obtain⟨x',gx,rxv⟩:=rx.get ex;have qx':its[i]?=some x:=by simpa using qx
  rw[gx]at qx';cases qx';have lte:e<s.heap.objs.size:=Zo e1;have kp2:∀c o,c∉[e,it]->s.heap.get? c=some o->h2.get? c=some o:=fun c o hc q=>by simp only[Zs,ZX,YH,not_or]at hc;exact sb.extBut c o hc.1 (hk c o hc.1 hc.2 q)
  have tT:IsTup h2 s.heap.objs.size [.int i tk,x].toArray:=⟨_,sb.extBut _ _ (Yh lte) hT,rfl,_,rfl⟩
  refine⟨.ref s.heap.objs.size,upd H s.heap.objs.size (.tup [.int i,xv]),I.turnT (t':=tk+1) hf kp2 tT (.cons ⟨tk,rfl⟩ (.cons rxv .nil)) (sz rfl),rfl,⟨_,xv,I.hok.fresh (Ze _),ex,rfl,rfl⟩,?_,fun c hc=>?_⟩
  ·exact⟨⟨_,by simpa using he2⟩,hs'.1.extBut sb.extBut ne.symm⟩
  ·rw[af]
   ·exact(hf c hc).1
   ·obtain⟨o,eo⟩:∃o,s.heap.get? c=some o:=by
     simp only[Zs,ZX,YH]at hc;rcases hc with rfl|rfl
     ·exact⟨_,e1⟩
     ·obtain⟨o,eo,_⟩:=e4;exact⟨o,eo⟩
    exact ZB (Zo eo)
 ·intro X hP hw hK hc i pins s σ H E I hf st hg;subst hP hw hK;obtain⟨⟨old,e1⟩,e4⟩:=st;obtain⟨rfl,hx⟩:=hg;obtain⟨its,rx,px,zx⟩:=I.tuple hx;have lx:its.toArray.size=xs.length:=by rw[Zh,<-rx.length]
  have hh:=I.ok.hd hc;refine wpAny_pyNext_enum_endD (wN (A:=X.A.in1) hh it a ha.2.symm its.toArray) e1 ⟨by rw[lx];exact e4,px⟩ fun h' kp=>⟨rfl,?_⟩
  exact I.turnM (t':=s.toks) hf fun c ob hc q=>by simp only[Zs,ZX,YH,not_or]at hc;exact kp c ob hc.2 q
 ·obtain⟨⟨old,e1⟩,_⟩:=st;exact wpAny_pyIter_enum e1 h
def xf(K:PySem.W.Frag)(ta:TA):TI:=fun σ H R=>ta σ H fun vs H1=>∃a xs,vs=[.ref a]/\H1 a=some (.tup xs)/\R (ItT K a xs) H1
section
variable{X:Cx}
theorem zX{e1:Expr}{ta:TA}{p pos tp:Pos}{elts:List Expr}{kt:Nat}(hg:Gl X "enumerate")(hm:X.mg "enumerate" = none)(ha:PA X [e1] ta)(n1:aV e1=true):PI X (.Tuple elts kt tp) (.Call (.Name "enumerate" p) [e1] [] pos) (xf X.K ta):=by
 intro pins s σ H R I h;refine Call_ (dS I hg hm boot_enumerate (YM (thn (ha pos pins s σ H _ I h) fun us s1 hz9=>?_) (aZ n1) (bI (by simp))));obtain⟨vs,H1,I1,r1,q1⟩:=hz9;obtain⟨a,xs,e,hx,q⟩:=q1;subst e;obtain⟨ua,rfl,ra⟩:=cu r1;cases ra;obtain⟨its,rx,pa,zz⟩:=I1.tuple (SqT.of (K:=X.K) hx);obtain⟨oo,eo,_⟩:=id pa;have la:a<s1.heap.objs.size:=Zo eo;refine uJ pa fun h' he hl hz hk=>wpAny_pyIter_enum he ?_;refine⟨s1.heap.objs.size+1,[s1.heap.objs.size+1,s1.heap.objs.size],eTt (s1.heap.objs.size+1) s1.heap.objs.size a,_,H1,rfl,I1.kept (t':=s1.toks) hk,wa (Nat.succ_ne_self _) ⟨Yh (x6 la),Yh la⟩,⟨⟨_,he⟩,hl⟩,fun c hc=>?_,q⟩;have hc':s1.heap.objs.size<=c:=by
  simp only[Zs,ZX,YH]at hc;rcases hc with rfl|rfl
  ·exact Nat.le_succ _
  ·exact Ze _
 exact I1.fpOk hc' (I1.hok.fresh hc')
theorem BB{e1:Expr}{ta:TA}{p pos tp:Pos}{elts:List Expr}{kt:Nat}(hm:X.mg "enumerate" = none)(ha:QA X [e1] ta)(hg:Gl X "enumerate":=by rfl)(n1:aV e1=true:=by rfl):QI X (.Tuple elts kt tp) (.Call (.Name "enumerate" p) [e1] [] pos) (xf X.K ta):=⟨zX hg hm ha.h n1⟩
end
theorem wT{K:PySem.W.Frag}{a:Addr}{xs:List V}{i j:Nat}{tb:TS}{D:Ends}{σ:St}{H:Hp}(Pv:Nat->St->Hp->Prop)(h0:Pv 0 σ H)(ha:∀i σ H,i<=xs.length->Pv i σ H->SqT K H a xs)(hs:∀k x σ H,xs[k]?=some x->Pv k σ H->∀T,H T=none->tb { D with nx:=Pv (k+1),ct:=Pv (k+1),bk:=D.nx } ((σ.set i (some (.int k))).set j (some x)) (upd H T (.tup [.int k,x])))(hd:∀σ H,Pv xs.length σ H->D.nx σ H) :
  ∃W:Nat->Nat->St->Hp->Prop,(∃m,W 0 m σ H)/\∀k m σ H,W k m σ H ->
   ((ItT K a xs).stop k H/\D.nx σ H)\/((ItT K a xs).go k H/\∃N:St->Hp->Prop,(∀σ' H',N σ' H'->∃m',m'<m/\W (k+1) m' σ' H')/\∀x H',(ItT K a xs).yld k H x H'->iW K 2 (dv (bG i) (dv (bG j) iV)) x σ H' fun σ2 H2=>tb { D with nx:=N,ct:=N,bk:=D.nx } σ2 H2):=by
 refine⟨fun k m σ H=>m=xs.length-k/\k<=xs.length/\Pv k σ H,⟨xs.length,by simp,ZZ _,h0⟩,?_⟩;rintro k m σ H ⟨rfl,hk,pv⟩;by_cases hlt:k<xs.length
 ·refine .inr ⟨⟨hlt,ha k σ H hk pv⟩,Pv (k+1),fun σ' H' z=>⟨xs.length-(k+1),by omega,rfl,hlt,z⟩,fun x H' y=>?_⟩;obtain⟨T,p,hT,hx,rfl,rfl⟩:=y;exact⟨T,[.int k,p],rfl,SqT.of ad,rfl,.int k,[p],rfl,p,[],rfl,rfl,hs k p σ H hx pv T hT⟩
 ·have e:k=xs.length:=by omega
  subst e;exact .inl ⟨⟨rfl,ha _ σ H hk pv⟩,hd σ H pv⟩
def jN(d:Addr):Obj:={ cls:=.type "dict_values",data:=.fields #[.ref d] }
def FA(td:TE):TE:=fun σ H Q=>td σ H fun x H1=>∃a kvs,x=.ref a/\H1 a=some (.dT kvs)/\∀v,H1 v=none->Q (.ref v) (upd H1 v (eJ v (jN a)))
section
variable{X:Cx}{o:Expr}{td:TE}{apos cpos:Pos}
theorem xT(ho:QE X o td)(hbase:attributeBase o "values" X.env (eval o X.env)=eval o X.env:=by rfl)(hline:(apos.endLine==cpos.line)=true:=by rfl):QE X (.Call (.Attribute o "values" apos) [] [] cpos) (FA td):=by refine⟨?_⟩;intro pins s σ H Q I h;refine wpAny_Call_method0_late hbase hline (thn (ho.h pins s σ H _ I h) fun v s1 hz9=>?_);obtain⟨x,H1,I1,r1,a,kvs,e,hd,q1⟩:=hz9;subst e;cases r1;obtain⟨t1,t2,_⟩:=C2 I1 (.inr ⟨kvs,.inl hd⟩);obtain⟨z,ns,xs,rel,ob,es,ep,g1,g2,g3,_⟩:=gi I1.hok (.inl hd);refine⟨"dict","dict.values",PySem.F.plainAttrs_dict,PySem.F.slot_dict_values,PySem.F.type_dict_values,t1,t2,Calls.callWith_builtin rfl (PySem.evalArgs_none ?_)⟩;refine ZW PySem.F.slot_dict_values t1 PySem.F.entry_dict_values ?_ (PySem.F.args_dict_values_1 _);refine z6 ?_;unfold Builtin.Dict.noArgs;refine z6 (wpAny_notOrdered_dict t1 ?_);show wpAny _ _ (pure a) _ _ s1;refine Zd ?_;show wpAny _ _ (Builtin.Dict.showsAll a >>= _) _ _ s1;unfold Builtin.Dict.showsAll;rw[if_neg (by rw[ns];exact Zr)];refine z6 (Zd (z6 (ZP (Zd ⟨_,rfl,?_⟩))));exact⟨.ref _,_,I1.laid (t':=s1.toks) (fun b o e=>Za _ e) (Ze _) (mS (Zk _ rfl)),rfl,q1 _ (I1.hok.fresh (Ze _))⟩
theorem uK(hc:X.calm=true):dO X (.type "list") (fun xs H Q=>∃v a kvs,xs=[.ref v]/\H v=some (eJ v (jN a))/\H a=some (.dT kvs)/\∀l,H l=none->Q (.ref l) (upd H l (.lst (kvs.map (·.2))))):=by
 intro pins s σ H xs us Q I r h;obtain⟨v,a,kvs,rfl,hv,hq,q⟩:=h;obtain⟨u,rfl,rx⟩:=cu r;cases rx;obtain⟨z,hd,xs,rel,o,es,ep,h1,h2,h3,h4,_,_⟩:=gi I.hok (.inl hq);have hsz:es.size=xs.length:=size_of_entries h4;have hkl:kvs.length=xs.length:=YA rel;have vv:s.heap.IsValuesView v a:=⟨_,(I.hok v _ hv).1,rfl,rfl⟩
 refine kdl_call (Am (es:=es) (ep:=ep)) (I.ok.hd hc) ⟨vv,⟨o,h1,h2,h3⟩⟩ (by omega) fun h' tk acc' c' kp e hacc=>?_;have ev:Vals (kvs.map (·.2)) acc'.toList:=by
  have gen:∀(vs:List Value) (ys:List (List Key×Addr×Value)) (ks:List (List Key×V)),KT H ks ys->vs.length=ys.length->(∀(j:Nat) (v:Value),vs[j]?=some v->∃x:List Key×Addr×Value,ys[j]?=some x/\v=x.2.2)->Vals (ks.map (·.2)) vs:=by
   intro vs;induction vs with
   |nil =>
    intro ys ks rl hl _;cases ys with
    |nil=>cases rl;exact .nil
    |cons _ _=>cases hl
   |cons v vs ih =>
    intro ys ks rl hl hv;cases ys with
    |nil=>cases hl
    |cons y ys =>
     cases rl with
     |cons hy rl =>obtain⟨x,e1,e2⟩:=hv 0 v rfl;cases e1;rw[e2];exact .cons hy.2.2 (ih ys _ rl (by simpa using hl) fun j v' e'=>hv (j+1) v' (by simpa using e'))
  refine gen _ _ _ rel (by rw[Zg,hacc.1,hsz]) fun j v e'=>?_;obtain⟨en,e1,e2⟩:=hacc.2 j v (by rw[<-Array.getElem?_toList];exact e');rw[entry_at h4]at e1;obtain⟨x,e3,e4⟩:=Ys.mp e1;refine⟨x,e3,?_⟩;rw[e2,<-e4];rfl
 exact⟨.ref s.heap.objs.size,_,I.laid (t':=tk) kp (Ze _) (show ObjOk X.prog X.w _ h' _ (.lst (kvs.map (·.2)))from⟨by rw[z9];omega,acc'.toList,c',ev,by simpa using e⟩),rfl,q _ (I.hok.fresh (Ze _))⟩
theorem sO(hc:X.calm=true):QCall X (.type "list") (fun xs H Q=>∃v a kvs,xs=[.ref v]/\H v=some (eJ v (jN a))/\H a=some (.dT kvs)/\∀l,H l=none->Q (.ref l) (upd H l (.lst (kvs.map (·.2))))):=⟨uK hc⟩
end
open PySem PySem.Spec PyProof.Rows PySem.W
end L2
set_option maxHeartbeats 4000000
namespace PySem
open Sem (wp)
section
variable{prog:Program}{w:World}{K:Type}[DecidableEq K]{knd:KeyKind prog w K}
structure PairAt(knd:KeyKind prog w K)(h:Heap)(p:Addr×List K×Addr×Value):Prop where
 tup:∃o n,h.get? p.1=some o/\o.cls=.type "tuple"/\o.data=.seq #[.ref p.2.2.1,p.2.2.2] n
 key:IsTupleKey knd h p.2.1 p.2.2.1
variable{A:Around}{R:Result->Shared->Prop}
end
end PySem
namespace L2
open PySem PySem.Spec PyProof.Rows PySem.W
open PySem PySem.Spec PyProof.Rows PySem.W
open PySem PySem.Spec PyProof.Rows PySem.W
def ItD(o:Obj)(a:Addr):It where
 go:=fun i H=>∃kvs,H a=some (.frz o (.dT kvs))/\i<kvs.length
 yld:=fun i H x H'=>H'=H/\∀kvs,H a=some (.frz o (.dT kvs))->∃p b,kvs[i]?=some p/\x=.ref b/\H b=some (.tup (p.1.map kV))
 stop:=fun i H=>∃kvs,H a=some (.frz o (.dT kvs))/\kvs.length<=i
theorem C9{H:Hp}{kvs:List (List Key×V)}{xs:List (List Key×Addr×Value)}(r:KT H kvs xs):∀{i:Nat} {x:List Key×Addr×Value},xs[i]?=some x->∃p,kvs[i]?=some p/\H x.2.1=some (.tup (p.1.map kV)):=by
 induction r with
 |nil=>intro i x h;simp at h
 |@cons p q _ _ h _ ih =>
  intro i x e;cases i with
  |zero=>cases e;exact⟨p,rfl,h.2.1⟩
  |succ i=>exact ih e
theorem wV{P:Program}{w:World}{H:Hp}{h:Heap}{a:Addr}{o:Obj}{kvs:List (List Key×V)}(ok:HOk P w H h)(e:H a=some (.frz o (.dT kvs))) :
  (a==sysModules)=false/\∃xs es ep,KT H kvs xs/\h.get? a=some o/\o.ExactDict/\o.data=.dict es ep/\es.toList=xs.map (entryOfKey (tupleKind (bN P w)))/\kvs.length=es.size:=by
 obtain⟨ho,z,y,xs,r,o',es,ep,h1,h2,h3,h4,h5⟩:=(show ObjOk P w H h a (.frz o (.dT kvs))from ok a _ e)
 rw[ho]at h1;cases h1;exact⟨y,xs,es,ep,r,ho,h2,h3,h4,(YA r).trans (size_of_entries h4).symm⟩
theorem yu{P:Program}{w:World}{K:PySem.W.Frag}{tg:Expr}(o:Obj)(a it:Addr):Turn P w K tg (ItD o a) [it] it (fun i h=>∃es ep,o.data=.dict es ep/\i<=es.size/\h.IsKeyIter it a i es.size ep) where
 mem:=by simp
 obj:=fun i h st b hb=>by
  have e:b=it:=by simpa using hb
  subst e;obtain⟨es,ep,_,_,o,e,c,d⟩:=st;exact⟨o,e,fun v z=>by rw[d]at z;cases z⟩
 keep:=fun i h h' st k=>by obtain⟨es,ep,h1,h2,h3⟩:=st;exact⟨es,ep,h1,h2,h3.at fun o e=>k it (by simp) o e⟩
 item:=by
  intro X hP hw hK hc i pins s σ H E I hf st hg;subst hP hw hK;obtain⟨kvs,hq,hx⟩:=hg;obtain⟨es,ep,sd,sl,st⟩:=st;obtain⟨lo,xs,es',ep',r,ho,hx2,hd,h4,hl⟩:=wV I.hok hq;rw[sd]at hd;cases hd;obtain⟨f0,f1,f2,f3,f4,f5⟩:=hf it (by simp);have hi:i<es.size:=by omega
  refine Aj st ⟨o,ho,hx2,sd⟩ hi fun h' st' sb=>?_;have I1:Inv X pins σ H { s with heap:=h' }:=I.turned (t':=s.toks) (fun b o hb e=>(sb.2 b hb).trans e) f0 f1 f3 f4 f5;obtain⟨oi,e,c,d⟩:=id st';have hxs:i<xs.length:=by rw[<-size_of_entries h4];exact hi
  have hk:es[i].key=Value.ref xs[i].2.1:=by have e1:=entry_at h4 (j:=i);rw[Zb hxs,Array.getElem?_eq_getElem hi]at e1;have e2:=ZO e1;rw[e2];rfl
  obtain⟨p,hp,hb⟩:=C9 r (Zb hxs);refine⟨_,rfl,kZ (s:={ s with heap:=h' }) e c d (by decide) ⟨.ref xs[i].2.1,H,I1,hk,⟨rfl,fun kvs' hy=>?_⟩,⟨es,ep,sd,by omega,st'⟩,fun b hb=>(hf b hb).1⟩⟩;rw[hq]at hy;cases hy;exact⟨p,xs[i].2.1,hp,rfl,hb⟩
 done:=by
  intro X hP hw hK hc i pins s σ H E I hf st hg;subst hP hw hK;obtain⟨kvs,hq,hx⟩:=hg;obtain⟨es,ep,sd,sl,st⟩:=st;obtain⟨lo,xs,es',ep',r,ho,hx2,hd,h4,hl⟩:=wV I.hok hq;rw[sd]at hd;cases hd;obtain⟨f0,f1,f2,f3,f4,f5⟩:=hf it (by simp);obtain rfl:i=es.size:=by omega
  exact Ck (I.ok.hd hc) st ⟨o,ho,hx2,sd⟩ fun h' eb=>⟨rfl,I.turned (t':=s.toks) (fun b o hb e=>eb b o hb e) f0 f1 f3 f4 f5⟩
 self:=fun _ _ _ _ _ st h=>by obtain⟨es,ep,h1,h2,h3⟩:=st;exact wpAny_pyIter_keyiter h3 h
section
variable{X:Cx}{tg:Expr}
theorem Inv.freeze{pins:List (Addr×Obj)}{σ:St}{H:Hp}{s:Shared}{a:Addr}{o:Obj}{kvs:List (List Key×V)}(I:Inv X pins σ H s)(hq:H a=some (.dT kvs))(ho:s.heap.get? a=some o):Inv X pins σ (upd H a (.frz o (.dT kvs))) s :=
 I.write (x:=a) (e:=a) (h':=s.heap) (t':=s.toks) (by rw[hq];exact True.intro) (.inl rfl) (fun b u _ e=>e) ⟨o,ho⟩
  ⟨ho,ObjOk.stay (show ObjOk X.prog X.w H s.heap a (.dT kvs) from I.hok a _ hq) (fun b u _ e=>e) (fun b e=>by
   rw[af fun z=>by rw[z,hq]at e;cases e];exact e) fun b xs e=>by
   rw[af fun z=>by rw[z,hq]at e;cases e];exact e⟩
def CW(tl:TE):TI:=fun σ H R=>tl σ H fun x H1=>∃a kvs,x=.ref a/\H1 a=some (.dT kvs)/\∀o,R (ItD o a) (upd H1 a (.frz o (.dT kvs)))
theorem DN{l:Expr}{tl:TE}(hl:PE X l tl):PI X tg l (CW tl):=by
 intro pins s σ H R I h;refine thn (hl pins s σ H _ I h) fun v s1 hz9=>?_;obtain⟨x,H1,I1,r1,q1⟩:=hz9;obtain⟨a,kvs,e,hq,q⟩:=q1;subst e;cases r1;obtain⟨z,lo,xs,r,o,es,ep,h1,h2,h3,h4,h5⟩:=(show ObjOk X.prog X.w H1 s1.heap a (.dT kvs)from I1.hok a _ hq)
 refine Ak lo ⟨o,h1,h2,h3⟩ ?_;have I2:=I1.freeze hq h1;refine⟨s1.heap.objs.size,[s1.heap.objs.size],_,_,_,rfl,I2.kept (t':=s1.toks) fun b o e=>Za _ e,yu o a _,⟨es,ep,h3,ZZ _,_,Zk _ rfl,rfl,rfl⟩,fun b hb=>?_,q o⟩;have e:b=s1.heap.objs.size:=by simpa using hb
 subst e;exact I2.fpOk (Ze _) (I2.hok.fresh (Ze _))
theorem Inv.thaw{pins:List (Addr×Obj)}{σ:St}{H:Hp}{s:Shared}{a:Addr}{o:Obj}{u:HO}(I:Inv X pins σ H s)(hq:H a=some (.frz o u))(h0:∀o' u',X.H₀ a≠some (.frz o' u'))(ht:∀xs,X.H₀ a≠some (.tup xs))(hb:∀ps,X.H₀ a≠some (.tbl ps)) :
  Inv X pins σ (upd H a u) s:=by
 have hn:∀b,H b=none->upd H a u b=none:=fun b e=>by rw[af fun z=>by rw[z,hq]at e;cases e];exact e
 refine⟨I.ok,I.os,I.bare,⟨I.base.keep,I.base.slot,fun b ob e1 e2 e3=>hn _ (I.base.free b ob e1 e2 e3),I.base.there,fun b xs e=>?_,fun b ob v e=>?_,fun b ps e=>?_⟩,I.loc,I.cell,hn _ I.free,fun x c e=>hn _ (I.freeC x c e),
  fun p hp=>?_,fun b v e=>?_,I.len⟩
 ·rw[af fun(z:b=a)=>ht xs (by rw[<-z];exact e)];exact I.base.tups b xs e
 ·rw[af fun(z:b=a)=>h0 ob v (by rw[<-z];exact e)];exact I.base.frzs b ob v e
 ·rw[af fun(z:b=a)=>hb ps (by rw[<-z];exact e)];exact I.base.tbls b ps e
 ·obtain⟨p1,p2,p3⟩:=I.pin p hp;exact⟨p1,hn _ p2,p3⟩
 ·have st:∀ {c:Addr} {v:HO},ObjOk X.prog X.w H s.heap c v->ObjOk X.prog X.w (upd H a u) s.heap c v:=fun x=>ObjOk.stay x (fun b u _ e=>e) (fun b e=>by
   rw[af fun z=>by rw[z,hq]at e;cases e];exact e) fun b xs e=>by
   rw[af fun z=>by rw[z,hq]at e;cases e];exact e
  by_cases c:b=a
  ·subst c;rw[ad]at e;cases e;exact st (show ObjOk X.prog X.w H s.heap b (.frz o _)from I.hok b _ hq).2
  ·rw[af c]at e;exact st (I.hok b v e)
theorem uU{l:Expr}{te:TE}(hl:QE X l te):QI X tg l (CW te):=⟨DN hl.h⟩
def Loose(H:Hp)(a:Addr):Prop:=(∀o' u',H a≠some (.frz o' u'))/\(∀xs,H a≠some (.tup xs))/\∀ps,H a≠some (.tbl ps)
theorem Loose.dt{H:Hp}{a:Addr}{kvs:List (List Key×V)}(h:H a=some (.dT kvs)):Loose H a:=⟨fun _ _ z=>(by rw[h]at z;cases z),fun _ z=>(by rw[h]at z;cases z),fun _ z=>(by rw[h]at z;cases z)⟩
def Fz(H0:Hp)(t:TE):TE:=fun σ H Q=>t σ H fun v H'=>∃a o u,H' a=some (.frz o u)/\Loose H0 a/\Q v (upd H' a u)
theorem Ee{e:Expr}{t:TE}(h:QE X e t):QE X e (Fz X.H₀ t):=⟨fun pins s σ H Q I q=>thn (h.h pins s σ H _ I q) fun v s1 ⟨x,H1,I1,r1,a,o,u,e1,l,q1⟩=>⟨x,_,I1.thaw e1 l.1 l.2.1 l.2.2,r1,q1⟩⟩
end
theorem oA{a:Addr}{o:Obj}{kvs:List (List Key×V)}{n:Nat}{cap:List Nat}{g:TG}{tc:TT}{te:TE}{σ:St}{H0:Hp}{Q:VK}(Pv:Nat->List V->Hp->Prop)(hz:kvs.length<=1000)(hn:∀i ys H,Pv i ys H->ys.length<=i)(h0:Pv 0 [] H0)(hl:∀i ys H,Pv i ys H->H a=some (.frz o (.dT kvs)))(ht:∀i ys H p b,kvs[i]?=some p->H b=some (.tup (p.1.map kV))->Pv i ys H->∀Y:List V->Hp->Prop,(∀zs H4,Pv (i+1) zs H4->Y zs H4)->g (.ref b) (bu n cap σ) H fun σ2 H2=>tc σ2 H2 fun b H3=>if b=true then te σ2 H3 fun y H4=>Y (ys++[y]) H4 else Y ys H3)(hq:∀ys p H,Pv kvs.length ys H->H p=none->Q (.ref p) (upd H p (.lst ys))):cz n cap g tc te σ (ItD o a) H0 Q:=by
 refine⟨fun i m ys H=>m=kvs.length-i/\i<=kvs.length/\Pv i ys H,⟨kvs.length,by simp,ZZ _,h0⟩,?_⟩;rintro i m ys H ⟨rfl,hi,pv⟩;have q:=hl i ys H pv;by_cases hlt:i<kvs.length
 ·refine .inr ⟨⟨kvs,q,hlt⟩,?_,fun x H' y=>?_⟩
  ·have:=hn i ys H pv;exact Yo (ZV this (by omega)) (show 1000<sizeLine by decide)
  ·obtain⟨e,y⟩:=y;subst e;obtain⟨pr,b,e1,rfl,e2⟩:=y kvs q;exact ht i ys _ pr b e1 e2 pv (fun ys H4=>∃m',m'<kvs.length-i/\m'=kvs.length-(i+1)/\i+1<=kvs.length/\Pv (i+1) ys H4) fun zs H4 z=>⟨kvs.length-(i+1),by omega,rfl,hlt,z⟩
 ·have e:i=kvs.length:=by omega
  subst e;exact .inl ⟨⟨kvs,q,Ze _⟩,fun p hp=>hq ys p H pv hp⟩
open PySem PySem.Spec PyProof.Rows PySem.W
open PySem PySem.Spec PyProof.Rows PySem.W
section
variable{X:Cx}{pins:List (Addr×Obj)}{σ:St}{H:Hp}{s:Shared}
theorem lH{A:Around}{E:Value->Shared->Prop}{P:PySem.Fin->Shared->Prop}{a:Addr}{n:Nat}{vs:List Value}(h2:vs.length<2)(ho:s.heap.get? a=some (seqObj "list" vs.toArray n))(h:∀(h3:Heap) (c:Nat),(∀b u,b≠a->s.heap.get? b=some u->h3.get? b=some u)->h3.get? a=some (seqObj "list" vs.toArray c)->P (.done (.ret .none)) { s with heap:=h3 }) :
  wpAny (model X.prog X.w) A (Builtin.«list.sort» ⟨[.ref a],[]⟩) P E s:=by
 have zs:vs.toArray.size<=sizeLine:=by rw[Zh,sizeLine_eq];omega
 have s1:=ZQ s.heap a (Obj.mapSeq fun _=>(#[]:Array Value));obtain⟨e1,ho1⟩:∃e1,(s.heap.update a (Obj.mapSeq fun _=>(#[]:Array Value))).get? a=some (seqObj "list" #[] e1):=⟨_,get?_update_seq ho fun _=>#[]⟩
 have ha3:(((s.heap.update a (Obj.mapSeq fun _=>(#[]:Array Value))).push (seqObj "tuple" vs.toArray 0)).push (seqObj "list" #[] 0)).get? a=some (seqObj "list" #[] e1):=Za _ (Za _ ho1);have kp:∀b u,b≠a->s.heap.get? b=some u->(((s.heap.update a (Obj.mapSeq fun _=>(#[]:Array Value))).push (seqObj "tuple" vs.toArray 0)).push (seqObj "list" #[] 0)).get? b=some u:=fun b u hb g=>Za _ (Za _ ((s1.2 b hb).trans g));rw[list_sort_plain];refine z6 (listItems_at ho rfl ?_);refine z6 (listUpdate_at ho rfl ?_ zs (ZZ _));refine z6 (seqEpoch_at ho1 rfl ?_);refine z6 (wpAny_newTuple ?_ zs);refine z6 (wpAny_newList ?_ (ZZ _));refine Ym ?_;show wpAny (model X.prog X.w) A _ P E { s with heap:=((s.heap.update a (Obj.mapSeq fun _=>(#[]:Array Value))).push (seqObj "tuple" vs.toArray 0)).push (seqObj "list" #[] 0) };generalize((s.heap.update a (Obj.mapSeq fun _=>(#[]:Array Value))).push (seqObj "tuple" vs.toArray 0)).push (seqObj "list" #[] 0)=h1 at ha3 kp ⊢;dsimp only;have hn2:vs.toArray.size<2:=by rw[Zh];exact h2
 rw[if_pos hn2,if_pos hn2];refine z6 (Zd ?_);rw[StateT.run_pure];refine z6 (Zd ?_);dsimp only;have em:Array.map (fun x=>x.snd) (arrOf (SortSt.mk' general' (vs.toArray.zip vs.toArray) #[] 7 none))=vs.toArray:=by show Array.map (fun x:Value×Value=>x.2) (vs.toArray.zip vs.toArray)=_;apply Array.toList_inj.mp;rw[Array.toList_map,Array.toList_zip];exact List.map_snd_zip (Ze _)
 rw[em];have s2:=ZQ h1 a (Obj.mapSeq fun _=>vs.toArray);obtain⟨c2,hc2⟩:∃c2,(h1.update a (Obj.mapSeq fun _=>vs.toArray)).get? a=some (seqObj "list" vs.toArray c2):=⟨_,get?_update_seq ha3 fun _=>vs.toArray⟩
 refine z6 (seqEpoch_at ha3 rfl ?_);refine z6 (listUpdate_at ha3 rfl ?_ (ZZ _) (Nat.le_succ_of_le zs));simp only[bne_self_eq_false,Yz,YT];exact Zd (h _ c2 (fun b u hb g=>(s2.2 b hb).trans (kp b u hb g)) hc2)
theorem rq{l:Addr}{xs:List V}{Q:VK}(I:Inv X pins σ H s)(hH:H l=some (.lst xs))(h2:xs.length<2)(q:∀D:Addr,H D=none->Q (.ref D) (upd H D (.lst xs))) :
  wpAny (model X.prog X.w) X.A (call (.builtin "sorted") [.ref l]) (EP X pins σ Q) X.xe s:=by
 obtain⟨z,its,n,rv,hlen,e⟩:=I.lstM hH;have li:its.length=xs.length:=hlen.symm;have zs:its.toArray.size<=sizeLine:=by rw[Zh,sizeLine_eq];omega
 refine Calls.call_function_entry kind_sorted plain_sorted entry_sorted (args_sorted1 _) ?_;unfold Builtin.«sorted»;refine z6 (m:=checkCount "sorted" 1 1 _) (Zd (z6 (collect_list ⟨_,e,rfl,n,rfl⟩ (z6 (wpAny_newList ?_ zs)) zs)));have z1:((s.heap.push (seqObj "list" #[] 0)).update s.heap.objs.size (Obj.mapSeq (·++its.toArray))).objs.size=s.heap.objs.size+1:=by rw[Heap.size_update,size_push']
 have g1:(((s.heap.push (seqObj "list" #[] 0)).update s.heap.objs.size (Obj.mapSeq (·++its.toArray))).push (seqObj "list" its.toArray 0)).get? (s.heap.objs.size+1)=some (seqObj "list" its.toArray 0):=by rw[<-z1];exact Zk _ rfl
 have kp:∀b o,s.heap.get? b=some o->(((s.heap.push (seqObj "list" #[] 0)).update s.heap.objs.size (Obj.mapSeq (·++its.toArray))).push (seqObj "list" its.toArray 0)).get? b=some o:=fun b o g=>by have lt:=Zo g;rw[Heap.get?_push_ne _ _ _ (by rw[z1];exact ZB (x6 lt)),Heap.get?_update_ne _ _ _ _ (ZB lt),Heap.get?_push_ne _ _ _ (ZB lt)];exact g
 show wpAny _ _ _ _ _ { s with heap:=((s.heap.push (seqObj "list" #[] 0)).update s.heap.objs.size (Obj.mapSeq (·++its.toArray))).push (seqObj "list" its.toArray 0) };rw[z1];generalize(((s.heap.push (seqObj "list" #[] 0)).update s.heap.objs.size (Obj.mapSeq (·++its.toArray))).push (seqObj "list" its.toArray 0))=hA at g1 kp ⊢;refine z6 (Ym (ZW slot_list_sort ⟨_,g1,rfl⟩ entry_list_sort ?body (args_list_sort _)))
 case body =>
  refine lH (X:=X) (s:={ s with heap:=hA }) (by omega) g1 fun h3 c k3 a3=>⟨_,rfl,Zd ⟨_,rfl,?_⟩⟩
  have da:s.heap.get? (s.heap.objs.size+1)=none:=Heap.get?_none_of_le (Nat.le_succ _);exact⟨.ref _,_,I.laid (t':=s.toks) (o:=.lst xs) (fun b o g=>k3 b o (fun zz=>by rw[zz,da]at g;cases g) (kp b o g)) (Nat.le_succ _) ⟨z,its,c,rv,a3⟩,rfl,q _ (none_of I da)⟩
def EC(H0:Hp)(t:TS):TS:=fun D σ H=>t { D with nx:=fun σ' H'=>∃a o u,H' a=some (.frz o u)/\Loose H0 a/\D.nx σ' (upd H' a u) } σ H
theorem xZ{st:Stmt}{t:TS}(h:QS X st t):QS X st (EC X.H₀ t):=⟨fun pins s σ H D I q=>thn (h.h pins s σ H _ I q) fun f s1 z=>by
 cases f with
 |next =>obtain⟨σ',H',I1,a,o,u,e1,l,q1⟩:=z;exact⟨σ',_,I1.thaw e1 l.1 l.2.1 l.2.2,q1⟩
 |brk=>exact z
 |cont=>exact z
 | ret u=>exact z⟩
theorem xE{K:PySem.W.Frag}{k:Nat}(hK:X.K=K)(hr:Room k X.A):QOp X (compareOp .NotIn) (Af K true):=by subst hK;exact zH hr
theorem Ea{K:PySem.W.Frag}{e:Expr}{f:Str}{ta:TE}{pos:Pos}(hK:X.K=K)(he:QE X e ta)(hb:attributeBase e f X.env (eval e X.env)=eval e X.env:=by rfl):QE X (.Attribute e f pos) (Av K ta f):=by subst hK;exact gw he hb
theorem Bt:QCall X (.builtin "sorted") (fun xs H Q=>∃ (p:Addr) (as:List Addr) (ks:List (List Int)),xs=[.ref p]/\H p=some (.lst (as.map V.ref))/\as.length<64/\ks.length=as.length/\(∀ k∈ks,k≠[])/\(∀ (i:Nat) (a:Addr) (k:List Int),as[i]? = some a->ks[i]? = some k->H a=some (.tup (k.map V.int))) /\
  ∀ (pm:Array Nat) (D:Addr),POk as.length pm->LS (fun i j=>HT.lexLt (ks.getD i []) (ks.getD j [])) pm as.length->H D=none->Q (.ref D) (upd H D (.lst (pm.toList.map fun i=>(as.map V.ref).getD i .non)))):=by
 refine⟨?_⟩;intro pins s σ H xs us Q I r h;obtain⟨p,as,ks,rfl,hp,h64,hl,hne,hk,q⟩:=h;obtain⟨u,rfl,ru⟩:=cu r;cases ru;by_cases h2:as.length<2
 ·refine rq I hp (by rw[z9];exact h2) fun D hD=>?_;have e:((List.range as.length).toArray.toList.map fun i=>(as.map V.ref).getD i V.non)=as.map V.ref:=by refine List.ext_getElem (by simp) fun i h1 h2=>?_;rw[z9]at h2;simp[h2]
  have:=q (List.range as.length).toArray D (Array.Perm.refl _) (fun i j hij hj=>by omega) hD;rw[e]at this;exact this
 obtain⟨z,its,n,rv,hlen,e⟩:=I.lstM hp;rw[z9]at hlen;have eits:its=as.map Value.ref:=by
  clear e z hlen hp hk q hl h2 h64;induction as generalizing its with
  |nil=>cases rv;rfl
  |cons a as ih =>
   cases rv with
   |cons r1 r2 =>cases r1;rw[ih _ r2];rfl
 subst eits;obtain⟨m,F0⟩:=I.fr;refine kat_sorted (vs:=as.map Value.ref) F0 (gG X.base s.heap X.env.locals) ⟨_,e,rfl,n,rfl⟩ (by rw[z9];omega) (by rw[z9];omega) fun D e1 h1 F1 N1 hD=>?_;have mv0:∀b u,b≠X.env.locals->b∉([]:List Addr)->s.heap.get? b=some u->h1.get? b=some u:=fun b u hL _ g=>by
  cases qb:X.base.get? b with
  |none=>exact(N1 (b,u) (.tail _ (cF g hL qb))).1
  |some o =>have e':=I.bk b o qb;rw[g]at e';cases e';exact F1.keep b u qb
 have I1:Inv X pins σ H { s with heap:=h1 }:=Inv.movedF (ch:=[]) (t':=s.toks) I (fun b hb=>absurd hb (by simp)) mv0 ⟨m,F0.ns,F1.ns⟩;obtain⟨fs,t1,t2,t3⟩:=qA I1 hne as 0 (by omega) (fun i a k h1 h2=>hk i a k h1 (by rw[Nat.zero_add]at h2;exact h2));refine kat_kind (T:=.type "int") t1 (by omega) (fun v hv=>?_) rfl ?_
 ·obtain⟨i,t,rfl⟩:=t3 v hv;exact .now
 rw[z9];refine tH (n:=as.length) (lt:=fun i j=>HT.lexLt (ks.getD i []) (ks.getD j [])) (fun i j C hi hj hC=>?_) (fun pm hpm hs=>?_) (zp (by omega)) (BG (xu ks) (by omega))
 ·have ga:∀i,i<as.length->∃a:Addr,(as.map Value.ref).getD i Value.none=.ref a/\H a=some (.tup ((ks.getD i []).map V.int)):=fun i hi=>by
   have h1:as[i]?=some (as[i]'(by omega)):=Zb (by omega);have h2:ks[i]?=some (ks[i]'(by omega)):=Zb (by omega);refine⟨as[i]'(by omega),?_,?_⟩
   ·rw[Zf,Zv,h1];rfl
   ·have:=hk i _ _ h1 h2;rw[Zf,h2];exact this
  obtain⟨a,ea,ha⟩:=ga i hi;obtain⟨b,eb,hb'⟩:=ga j hj;obtain⟨ia,ra,pa,za⟩:=I1.tuple (SqT.of (K:=X.K) ha);obtain⟨ib,rb,pb,zb⟩:=I1.tuple (SqT.of (K:=X.K) hb');obtain⟨oa,eoa,ca,n1,da⟩:=id pa;obtain⟨ob,eob,cb,n2,db⟩:=id pb;unfold kas_ask;rw[ea,eb];exact kat_lt eoa da eob db (jR _ _ _ _ 0 (cE ra) (cE rb) (by rw[Zh,Zh,<-ra.length,<-rb.length,z9,z9]) hC)
 ·have hDL:D≠X.env.locals:=(N1 (D,seqObj "list" #[] e1) (.head _)).2.1;have hDs:s.heap.get? D=none:=by
   cases g:s.heap.get? D with
   |none=>rfl
   |some o=>exact absurd (hD (D,o) (cF g hDL (N1 (D,seqObj "list" #[] e1) (.head _)).2.2)) (YJ _)
  have pl:∀i∈pm.toList,i<as.length:=fun i hi=>by have:=(hpm.mem_iff).mp (Array.mem_toList_iff.mp hi);simpa using this
  have vals:∀(w:List Nat),(∀i∈w,i<as.length)->Vals (w.map fun i=>(as.map V.ref).getD i .non) (w.map fun i=>(as.map Value.ref).getD i Value.none):=fun w=>by
   induction w with
   |nil=>intro _;exact .nil
   |cons i w ih =>intro hw;have hi:=hw i Yn;refine .cons ?_ (ih fun j hj=>hw j (Z2 _ hj));show RelV ((as.map V.ref).getD i V.non) ((as.map Value.ref).getD i Value.none);rw[Zf,Zf,Zv,Zv,Zb hi];rfl
  have lp:pm.toList.length=as.length:=by have:=hs.1;simpa using this
  refine KasFin.intro (news:=(D,seqObj "list" #[] e1)::lX X.base s.heap X.env.locals) F1 N1 (.head fun p hp=>ZB (hD p hp)) fun h2 c F2 N2=>?_;refine⟨.ref D,_,I.laidF (o:=.lst (pm.toList.map fun i=>(as.map V.ref).getD i .non)) (t':=s.toks) (fun b o hL g=>?_) ⟨m,F0.ns,F2.ns⟩ hDs ⟨by rw[z9,lp];exact du (by omega),_,c,vals _ pl,(N2 (D,_) (.head _)).1⟩,rfl,q pm D hpm hs.2 (none_of I hDs)⟩;cases q:X.base.get? b with
  |none=>exact(N2 (b,o) (.tail _ (cF g hL q))).1
  |some o' =>have e':=I.bk b o' q;rw[g]at e';cases e';exact F2.keep b o q
end
end L2
set_option maxRecDepth 100000
set_option maxHeartbeats 4000000
namespace K20
open PySem L2
open PyProof.Rows (envOfC)
open PySem.W (envX CodeHd)
def top(i:Nat):Stmt:=PySem.Challenge.pw_limb_k20_whole_stores_meet.main.body.getD i (.Pass ⟨0,0,0,0⟩)
theorem cxK{CX:CXT}{N:List Str}{qual:Str}{scope:Scope}{f:Addr}{cd:Value}{A:Around}{outer:List Env}{s:Shared}{H:Hp}{E:XK}:(fi CX P w K mg base N qual scope f cd A outer s H E).nox.K=K:=rfl
theorem vix{K:PySem.W.Frag}{i:Nat}{n:Int}{σ:St}{H:Hp}{Q:VK}{a:Addr}{xs:List V}{v:V}(hv:σ[i]?=some (some (.ref a)))(hs:SqT K H a xs)(ha:atI xs n=some v)(q:Q v H):tOp (Ah K) (kK i) (tC (.int n)) σ H Q:=⟨_,hv,a,_,_,_,rfl,rfl,hs,ha,q⟩
theorem oE{K:PySem.W.Frag}{a:Addr}{xs:List V}{g:TG}{tb:L2.TS}{D:Ends}{σ:St}{H:Hp}(Pv:Nat->St->Hp->Prop)(h0:Pv 0 σ H)(hl:∀i σ H,i<=xs.length->Pv i σ H->SqL K H a xs)(hs:∀i x σ H,xs[i]?=some x->Pv i σ H->∀D':Ends,(∀σ' H',Pv (i+1) σ' H'->D'.nx σ' H')->g x σ H fun σ2 H2=>tb D' σ2 H2)(hd:∀σ H,Pv xs.length σ H->D.nx σ H) :
  ∃W:Nat->Nat->St->Hp->Prop,(∃m,W 0 m σ H)/\∀i m σ H,W i m σ H ->
   ((Itl K a).stop i H/\D.nx σ H)\/((Itl K a).go i H/\∃N:St->Hp->Prop,(∀σ' H',N σ' H'->∃m',m'<m/\W (i+1) m' σ' H')/\∀x H',(Itl K a).yld i H x H'->g x σ H' fun σ2 H2=>tb { D with nx:=N,ct:=N,bk:=D.nx } σ2 H2) :=
 qo Pv h0 hl (fun i x σ H a b=>hs i x σ H a b _ fun _ _ z=>z) hd
theorem cA{K:PySem.W.Frag}{a:Addr}{xs:List V}{j:Nat}{tb:L2.TS}{D:Ends}{σ:St}{H:Hp}(Pv:Nat->St->Hp->Prop)(h0:Pv 0 σ H)(hl:∀i σ H,i<=xs.length->Pv i σ H->SqL K H a xs)(hs:∀i x σ H,xs[i]?=some x->Pv i σ H->∀D':Ends,(∀σ' H',Pv (i+1) σ' H'->D'.nx σ' H')->tb D' (σ.set j (some x)) H)(hd:∀σ H,Pv xs.length σ H->D.nx σ H) :
  ∃W:Nat->Nat->St->Hp->Prop,(∃m,W 0 m σ H)/\∀i m σ H,W i m σ H ->
   ((Itl K a).stop i H/\D.nx σ H)\/((Itl K a).go i H/\∃N:St->Hp->Prop,(∀σ' H',N σ' H'->∃m',m'<m/\W (i+1) m' σ' H')/\∀x H',(Itl K a).yld i H x H'->bG j x σ H' fun σ2 H2=>tb { D with nx:=N,ct:=N,bk:=D.nx } σ2 H2) :=
 oE Pv h0 hl hs hd
theorem aA{t u:L2.TS}{D:Ends}{σ:St}{H:Hp}(h:∀R:Ends,(∀σ' H',u D σ' H'->R.nx σ' H')->t R σ H):vZ t u D σ H:=h { D with nx:=u D } fun _ _ z=>z
theorem wS{K:PySem.W.Frag}{a:Addr}{xs:List V}{i j:Nat}{tb:L2.TS}{D:Ends}{σ:St}{H:Hp}(Pv:Nat->St->Hp->Prop)(h0:Pv 0 σ H)(ha:∀i σ H,i<=xs.length->Pv i σ H->SqL K H a xs)(hs:∀k x σ H,xs[k]?=some x->Pv k σ H->∀D':Ends,(∀σ' H',Pv (k+1) σ' H'->D'.nx σ' H')->∀T,H T=none->tb D' ((σ.set i (some (.int k))).set j (some x)) (upd H T (.tup [.int k,x])))(hd:∀σ H,Pv xs.length σ H->D.nx σ H) :
  ∃W:Nat->Nat->St->Hp->Prop,(∃m,W 0 m σ H)/\∀k m σ H,W k m σ H ->
   ((Ite K a xs).stop k H/\D.nx σ H)\/((Ite K a xs).go k H/\∃N:St->Hp->Prop,(∀σ' H',N σ' H'->∃m',m'<m/\W (k+1) m' σ' H')/\∀x H',(Ite K a xs).yld k H x H'->iW K 2 (dv (bG i) (dv (bG j) iV)) x σ H' fun σ2 H2=>tb { D with nx:=N,ct:=N,bk:=D.nx } σ2 H2) :=
 yZ Pv h0 ha (fun k x σ H a b T c=>hs k x σ H a b _ (fun _ _ z=>z) T c) hd
structure Dd where
 h:Nat
 ns:List Int
 w:Option Int
def D0:Dd:=⟨0,[],none⟩
def aB(d:Dd)(i:Nat):Int:=if i=d.h then ag d.ns i-1 else ag d.ns i
def nmZ(d:Dd):List Int:=[(d.h:Int),ag d.ns d.h]
def nmK(d:Dd):List Key:=[.inl (d.h:Int),.inl (ag d.ns d.h)]
def dF(d:Dd):List Nat:=(List.range d.ns.length).filter fun i=>decide (aB d i>0)
def kyZ(d:Dd):List Int:=[d.ns.sum,(d.h:Int)]
def kLt(d e:Dd):Prop:=d.ns.sum<e.ns.sum\/(d.ns.sum=e.ns.sum/\d.h<e.h)
def leC(a b:List Int):Prop:=∀i,i<a.length->ag a i<=ag b i
def fO(ns ms:List Int):Bool:=((List.range ns.length).map fun i=>decide (ag ns i<=ag ms i)).all id
theorem yz{a b:List Int}(h:leC a b):fO a b=true:=by unfold fO;rw[Z6];intro x hx;obtain⟨i,hi,rfl⟩:=Zl.mp hx;exact decide_eq_true (h i (ZL.mp hi))
theorem AX(d e:Dd):HT.lexLt (kyZ d) (kyZ e)=true↔kLt d e:=by
 unfold kyZ kLt;rw[HT.lexLt_cons];by_cases c:d.ns.sum=e.ns.sum
 ·rw[if_pos c,tM];constructor
  ·intro h;have:=ZJ h;exact .inr ⟨c,by omega⟩
  ·rintro(h|⟨_,h⟩)
   ·omega
   ·exact decide_eq_true (by omega)
 ·rw[if_neg c];constructor
  ·intro h;exact .inl (ZJ h)
  ·rintro(h|⟨h,_⟩)
   ·exact decide_eq_true h
   ·exact absurd h c
theorem dP{α:Type}(L:List α)(z:α):(List.range L.length).map (fun i=>L.getD i z)=L:=by
 apply List.ext_getElem
 ·simp
 ·intro i h1 h2;simp[h2]
theorem vT{α:Type}{f:α->Dd}{L:List α}{z:α}{p:Array Nat}(g:(L.map f).Pairwise fun d e=>d.h=e.h->d.ns.sum≠e.ns.sum)(hp:POk L.length p)(hs:LS (fun i j=>HT.lexLt ((L.map fun x=>kyZ (f x)).getD i []) ((L.map fun x=>kyZ (f x)).getD j [])) p L.length) :
  ((p.toList.map fun i=>L.getD i z).map f).Pairwise kLt/\(p.toList.map fun i=>L.getD i z).Perm L:=by
 have ep:p.toList.Perm (List.range L.length):=by have:=YQ.mp hp;simpa using this
 refine⟨?_,?_⟩
 ·rw[Yp,Z7];have hz:p.size=L.length:=by have:=hp.size_eq;simpa using this
  rw[Zw];intro i j hi hj hij;rw[Zg]at hi hj;have lx:=hs i j hij (by omega);have e1:gA p i=p.toList[i]'(by rw[Zg];exact hi):=by rw[aJ,Zf,Zb (by rw[Zg];exact hi)];rfl
  have e2:gA p j=p.toList[j]'(by rw[Zg];exact hj):=by rw[aJ,Zf,Zb (by rw[Zg];exact hj)];rfl
  have nd:(p.toList).Nodup:=ep.nodup_iff.mpr List.nodup_range;have ne:p.toList[i]'(by rw[Zg];exact hi)≠p.toList[j]'(by rw[Zg];exact hj):=by rw[y8,Zw]at nd;exact nd i j _ _ hij
  have m1:p.toList[i]'(by rw[Zg];exact hi)<L.length:=ZL.mp (ep.mem_iff.mp (ZC _));have m2:p.toList[j]'(by rw[Zg];exact hj)<L.length:=ZL.mp (ep.mem_iff.mp (ZC _));rw[e1,e2]at lx;generalize p.toList[i]'(by rw[Zg];exact hi)=a at *;generalize p.toList[j]'(by rw[Zg];exact hj)=b at *;have ga:∀k,k<L.length->(L.map fun x=>kyZ (f x)).getD k []=kyZ (f (L.getD k z)):=fun k hk=>by simp[hk]
  have lx':HT.lexLt (kyZ (f (L.getD b z))) (kyZ (f (L.getD a z)))=false:=by have:=lx.1;dsimp only at this;rw[ga a m1,ga b m2]at this;exact this
  show kLt (f (L.getD a z)) (f (L.getD b z));have un:(f (L.getD a z)).h=(f (L.getD b z)).h->(f (L.getD a z)).ns.sum≠(f (L.getD b z)).ns.sum:=fun e=>by
   have u:=g;rw[Zw]at u;have ea:∀k (hk:k<L.length),(L.map f)[k]'(by simpa using hk)=f (L.getD k z):=fun k hk=>by simp[hk]
   rcases ZY a b with c|c
   ·have:=u a b (by simpa using m1) (by simpa using m2) c;rw[ea a m1,ea b m2]at this;exact this e
   ·have:=u b a (by simpa using m2) (by simpa using m1) (by omega);rw[ea a m1,ea b m2]at this;exact(this e.symm).symm
  have nl:¬kLt (f (L.getD b z)) (f (L.getD a z)):=fun h=>by rw[(AX _ _).mpr h]at lx';cases lx'
  unfold kLt at nl ⊢;by_cases c:(f (L.getD a z)).ns.sum=(f (L.getD b z)).ns.sum
  ·by_cases c2:(f (L.getD a z)).h=(f (L.getD b z)).h
   ·exact absurd c (un c2)
   ·right;omega
  ·left;omega
 ·have:=ep.map fun i=>L.getD i z;rw[dP]at this;exact this
theorem sC{α:Type}{f:α->Dd}{L:List α}{z:α}{p:Array Nat}(hp:POk L.length p)(hs:LS (fun i j=>HT.lexLt ((L.map fun x=>kyZ (f x)).getD i []) ((L.map fun x=>kyZ (f x)).getD j [])) p L.length) :
  ((p.toList.map fun i=>L.getD i z).map f).Pairwise (fun d e=>¬kLt e d)/\(p.toList.map fun i=>L.getD i z).Perm L:=by
 have ep:p.toList.Perm (List.range L.length):=by have:=YQ.mp hp;simpa using this
 refine⟨?_,?_⟩
 ·rw[Yp,Z7];have hz:p.size=L.length:=by have:=hp.size_eq;simpa using this
  rw[Zw];intro i j hi hj hij;rw[Zg]at hi hj;have lx:=hs i j hij (by omega);have e1:gA p i=p.toList[i]'(by rw[Zg];exact hi):=by rw[aJ,Zf,Zb (by rw[Zg];exact hi)];rfl
  have e2:gA p j=p.toList[j]'(by rw[Zg];exact hj):=by rw[aJ,Zf,Zb (by rw[Zg];exact hj)];rfl
  have nd:(p.toList).Nodup:=ep.nodup_iff.mpr List.nodup_range;have ne:p.toList[i]'(by rw[Zg];exact hi)≠p.toList[j]'(by rw[Zg];exact hj):=by rw[y8,Zw]at nd;exact nd i j _ _ hij
  have m1:p.toList[i]'(by rw[Zg];exact hi)<L.length:=ZL.mp (ep.mem_iff.mp (ZC _));have m2:p.toList[j]'(by rw[Zg];exact hj)<L.length:=ZL.mp (ep.mem_iff.mp (ZC _));rw[e1,e2]at lx;generalize p.toList[i]'(by rw[Zg];exact hi)=a at *;generalize p.toList[j]'(by rw[Zg];exact hj)=b at *;have ga:∀k,k<L.length->(L.map fun x=>kyZ (f x)).getD k []=kyZ (f (L.getD k z)):=fun k hk=>by simp[hk]
  have lx':HT.lexLt (kyZ (f (L.getD b z))) (kyZ (f (L.getD a z)))=false:=by have:=lx.1;dsimp only at this;rw[ga a m1,ga b m2]at this;exact this
  show¬kLt (f (L.getD b z)) (f (L.getD a z));intro h;rw[(AX _ _).mpr h]at lx';cases lx'
 ·have:=ep.map fun i=>L.getD i z;rw[dP]at this;exact this
theorem tG{d e:Dd}(h:kLt d e)(k:kLt e d):False:=by unfold kLt at h k;omega
def aM(M:List (Addr×Dd)):List (List Key×V):=M.map fun x=>(nmK x.2,V.ref x.1)
theorem BH{d e:Dd}(h:nmK d=nmK e):d.h=e.h/\ag d.ns d.h=ag e.ns e.h:=by unfold nmK at h;injection h with h1 h2;injection h2 with h3 _;injection h1 with h1;injection h3 with h3;exact⟨by omega,h3⟩
theorem yo:∀{a b:List Int},a.length=b.length->leC a b->a.sum<=b.sum
 | [],[],_,_=>Int.le_refl _
 |x::a,y::b,e,h=>by rw[List.sum_cons,List.sum_cons];have h0:x<=y:=h 0 (by simp);have:=yo (a:=a) (b:=b) (by simpa using e) fun i hi=>h (i+1) (by simpa using hi);omega
theorem qh{c:List Int}{k i:Nat}{v:Int}(hk:k<c.length):ag (c.set k v) i=if i=k then v else ag c i:=by
 unfold ag;rw[List.getElem?_set];by_cases e:i=k
 ·subst e;rw[if_pos rfl,if_pos rfl,if_pos hk];rfl
 ·rw[if_neg (fun z=>e z.symm),if_neg e]
def clk(cl:List (List Int))(g:Nat):List Int:=(cl[g]?).getD []
theorem yT(n i:Nat):ag (List.replicate n (0:Int)) i=0:=by unfold ag;rw[List.getElem?_replicate];split<;>rfl
theorem mt{a b:List Int}:fO a b=true↔leC a b:=by refine⟨fun h i hi=>?_,yz⟩;unfold fO at h;rw[Z6]at h;exact ZJ (h _ (Zl.mpr ⟨i,ZL.mpr hi,rfl⟩))
structure UN(n:Nat)(L:List Dd):Prop where
 len:∀d∈L,d.ns.length=n/\d.h<n
 own:∀d∈L,0<ag d.ns d.h
 uni:L.Pairwise fun d e=>nmK d≠nmK e
theorem UN.perm{n:Nat}{L M:List Dd}(g:UN n L)(p:L.Perm M):UN n M:=⟨fun d hd=>g.len d (p.mem_iff.mpr hd),fun d hd=>g.own d (p.mem_iff.mpr hd),g.uni.perm p fun{x y} h e=>h e.symm⟩
theorem UN.sub{n:Nat}{L M:List Dd}(g:UN n L)(p:M.Sublist L):UN n M:=⟨fun d hd=>g.len d (p.subset hd),fun d hd=>g.own d (p.subset hd),g.uni.sublist p⟩
theorem jd:∀{L:List Dd},(L.Pairwise fun d e=>nmK d≠nmK e)->∀{d e:Dd},d∈L->e∈L->nmK d=nmK e->d=e
 |x::L,u,d,e,hd,he,h=>by
  rw[List.pairwise_cons]at u;rcases Zs.mp hd with z1|hd'
  ·rcases Zs.mp he with z2|he'
   ·rw[z1,z2]
   ·exact absurd (z1▸h) (u.1 e he')
  ·rcases Zs.mp he with z2|he'
   ·exact absurd (z2▸h).symm (u.1 d hd')
   ·exact jd u.2 hd' he' h
def gB(R:List Dd)(d:Dd)(i:Nat):Bool:=match R.find? (fun e=>decide (nmK e=[.inl (i:Int),.inl (aB d i)]))with
 |some e=>fO e.ns d.ns
 |none=>false
def mF(R:List Dd)(d:Dd):Bool:=(dF d).all fun i=>gB R d i
def An(R:List Dd)(d:Dd)(i:Nat):Prop:=∃e∈R,e.h=i/\ag e.ns e.h=aB d i/\leC e.ns d.ns
theorem cI{e:Dd}{i:Nat}{z:Int}:nmK e=[.inl (i:Int),.inl z]↔e.h=i/\ag e.ns e.h=z:=by
 unfold nmK;constructor
 ·intro h;injection h with h1 h2;injection h2 with h3 _;injection h1 with h1;injection h3 with h3;exact⟨by omega,h3⟩
 ·rintro⟨rfl,rfl⟩;rfl
theorem sJ{R:List Dd}(u:R.Pairwise fun d e=>nmK d≠nmK e){d:Dd}{i:Nat}:gB R d i=true↔An R d i:=by
 unfold gB;cases hf:R.find? (fun e=>decide (nmK e=[.inl (i:Int),.inl (aB d i)]))with
 |none =>
  constructor
  ·intro h;cases h
  ·rintro⟨e,he,e1,e2,_⟩;have:=List.find?_eq_none.mp hf e he;exact absurd (cI.mpr ⟨e1,e2⟩) (by simpa using this)
 |some x =>
  have hm:=List.mem_of_find?_eq_some hf;have hq:=List.find?_some hf;have hx:=cI.mp (ZJ hq);constructor
  ·intro h;exact⟨x,hm,hx.1,hx.2,mt.mp h⟩
  ·rintro⟨e,he,e1,e2,e3⟩;have:x=e:=jd u hm he ((cI.mpr hx).trans (cI.mpr ⟨e1,e2⟩).symm);rw[this];exact mt.mpr e3
theorem sI{n:Nat}{R:List Dd}(u:R.Pairwise fun d e=>nmK d≠nmK e){d:Dd}(hd:d.ns.length=n):mF R d=true↔∀i,i<n->aB d i>0->An R d i:=by
 unfold mF dF;rw[Z6];constructor
 ·intro h i hi hl;exact(sJ u).mp (h i (Zn.mpr ⟨ZL.mpr (by omega),decide_eq_true hl⟩))
 ·intro h i hi;obtain⟨h1,h2⟩:=Zn.mp hi;exact(sJ u).mpr (h i (by have:=ZL.mp h1;omega) (ZJ h2))
def Ch(n:Nat)(R:List Dd):Prop:=∀k (hk:k<R.length),∀i,i<n->aB R[k] i>0->An (R.take k) R[k] i
def Sat(n:Nat)(L B:List Dd):Prop:=∀d∈L,(∀i,i<n->aB d i>0->An B d i)->d∈B
theorem Ch.snoc{n:Nat}{R:List Dd}{d:Dd}(c:Ch n R)(h:∀i,i<n->aB d i>0->An R d i):Ch n (R++[d]):=fun k hk i hi hl=>by
 rcases ZY k R.length with c1|c1
 ·rw[List.getElem_append_left c1]at hl ⊢;rw[List.take_append_of_le_length (Nat.le_of_lt c1)];exact c k c1 i hi hl
 ·have e:k=R.length:=by rw[Zi,ZU]at hk;omega
  subst e;have ed:(R++[d])[R.length]=d:=by simp
  rw[ed]at hl ⊢;rw[List.take_left];exact h i hi hl
theorem yn{n:Nat}{L A B:List Dd}(c:Ch n A)(hA:∀d∈A,d∈L)(s:Sat n L B):∀d∈A,d∈B:=by
 have go:∀k (hk:k<A.length),A[k]∈B:=by
  intro k;induction k using Nat.strongRecOn with
  |_ k ih =>intro hk;refine s _ (hA _ (ZC hk)) fun i hi hl=>?_;obtain⟨e,he,r⟩:=c k hk i hi hl;obtain⟨j,hj,rfl⟩:=ZG.mp he;rw[ZE]at hj;refine⟨_,?_,r⟩;rw[YL];exact ih j (by omega) (by omega)
 intro d hd;obtain⟨k,hk,rfl⟩:=ZG.mp hd;exact go k hk
theorem mj:∀{a b:List Int} {k:Nat},a.length=b.length->leC a b->k<a.length->ag a k<ag b k->a.sum<b.sum
 |x::a,y::b,0,e,h,_,hl=>by rw[List.sum_cons,List.sum_cons];have h0:x<y:=hl;have:=yo (a:=a) (b:=b) (by simpa using e) fun i hi=>h (i+1) (by simpa using hi);omega
 |x::a,y::b,k+1,e,h,hk,hl=>by rw[List.sum_cons,List.sum_cons];have h0:x<=y:=h 0 (by simp);have:=mj (a:=a) (b:=b) (k:=k) (by simpa using e) (fun i hi=>h (i+1) (by simpa using hi)) (by simpa using hk) hl;omega
theorem kg{a b:List Int}(e:a.length=b.length)(h:∀i,i<a.length->ag a i=ag b i):a=b:=by apply List.ext_getElem e;intro i h1 h2;have:=h i h1;unfold ag at this;rw[Zb h1,Zb h2]at this;exact this
theorem E4{a b:List Int}(e:a.length=b.length)(h:leC a b):a=b\/a.sum<b.sum:=by
 by_cases c:∃k,k<a.length/\ag a k<ag b k
 ·obtain⟨k,hk,hl⟩:=c;exact .inr (mj e h hk hl)
 ·refine .inl (kg e fun i hi=>?_);have h1:=h i hi;have h2:¬ag a i<ag b i:=fun z=>c ⟨i,hi,z⟩;omega
theorem bW(d:Dd):aB d d.h=ag d.ns d.h-1:=by unfold aB;rw[if_pos rfl]
theorem eM{d:Dd}{i:Nat}(h:i≠d.h):aB d i=ag d.ns i:=by unfold aB;rw[if_neg h]
theorem wC{n:Nat}{R:List Dd}(c:Ch n R)(u:UN n R):∀(m:Nat) {d e:Dd},d∈R->e∈R->d.h=e.h->ag d.ns d.h+(m:Int)+1=ag e.ns e.h->d.ns.sum<e.ns.sum:=by
 intro m;induction m with
 |zero =>intro d e hd he eh em;obtain⟨k,hk,rfl⟩:=ZG.mp he;have h1:=u.own d hd;obtain⟨x,hx,x1,x2,x3⟩:=c k hk R[k].h (u.len _ he).2 (by rw[bW];omega);have hx':=y6 hx;rw[bW]at x2;have:x=d:=jd u.uni hx' hd ((cI (i:=R[k].h) (z:=ag d.ns d.h)).mpr ⟨x1,by rw[x2];omega⟩ |>.trans (cI.mpr ⟨eh,rfl⟩).symm);subst this;refine mj (k:=x.h) (by rw[(u.len x hd).1,(u.len _ he).1]) x3 (by rw[(u.len x hd).1];exact(u.len x hd).2) ?_;rw[x2,x1];omega
 |succ m ih =>
  intro d e hd he eh em;obtain⟨k,hk,rfl⟩:=ZG.mp he;have h1:=u.own d hd;obtain⟨x,hx,x1,x2,x3⟩:=c k hk R[k].h (u.len _ he).2 (by rw[bW];omega);have hx':=y6 hx;rw[bW]at x2;have s1:=ih hd hx' (eh.trans x1.symm) (by rw[x2];omega);have s2:x.ns.sum<R[k].ns.sum:=by refine mj (k:=x.h) (by rw[(u.len x hx').1,(u.len _ he).1]) x3 (by rw[(u.len x hx').1];exact(u.len x hx').2) ?_;rw[x2,x1];omega
  omega
theorem wE{n:Nat}{R:List Dd}(c:Ch n R)(u:UN n R):R.Pairwise fun d e=>d.h=e.h->d.ns.sum≠e.ns.sum:=by
 rw[Zw];intro i j hi hj hij eh es;have hd:=ZC hi;have he:=ZC hj;have ne:ag R[i].ns R[i].h≠ag R[j].ns R[j].h:=fun z=>by have un:=u.uni;rw[Zw]at un;exact un i j hi hj hij (by unfold nmK;rw[z,eh])
 rcases Int.lt_or_gt_of_ne ne with q|q
 ·have:=wC c u (ag R[j].ns R[j].h-ag R[i].ns R[i].h-1).toNat hd he eh (by omega);omega
 ·have:=wC c u (ag R[i].ns R[i].h-ag R[j].ns R[j].h-1).toNat he hd eh.symm (by omega);omega
abbrev LT:=List (Addr×Dd)
def vals(L:LT):List Dd:=L.map Prod.snd
def fH(R:LT)(x:Addr×Dd):LT:=if mF (vals R) x.2=true then R++[x]else R
def aU(S:LT)(k:Nat):LT:=(S.take k).foldl fH []
theorem dI{S:LT}{k:Nat}(hk:k<S.length):aU S (k+1)=fH (aU S k) S[k]:=by unfold aU;rw[List.take_add_one,Zb hk,Option.toList_some,List.foldl_append];rfl
theorem bZ(S:LT):∀k,k<=S.length->(aU S k).Sublist (S.take k)
 |0,_=>by unfold aU;exact List.Sublist.refl _
 |k+1,h=>by
  have ih:=bZ S k (by omega);rw[dI (by omega),List.take_add_one,Zb (by omega),Option.toList_some];unfold fH;split
  ·exact ih.append (List.Sublist.refl _)
  ·exact ih.trans (List.sublist_append_left _ _)
theorem cW{A B:LT}(h:A.Sublist B):(vals A).Sublist (vals B):=h.map _
theorem jv{n:Nat}{S:LT}(u:UN n (vals S)):∀k,k<=S.length->Ch n (vals (aU S k))
 |0,_=>fun k hk=>absurd hk (by simp[aU,vals])
 |k+1,h=>by
  have ih:=jv u k (by omega);have us:=u.sub (cW ((bZ S k (by omega)).trans (ZH _ _)));rw[dI (by omega)];unfold fH;split
  ·rename_i c;unfold vals at ih us c ⊢;rw[Zx];exact ih.snoc ((sI us.uni (u.len _ (Zl.mpr ⟨S[k],ZC (by omega),rfl⟩)).1).mp c)
  ·exact ih
theorem pX(S:LT):∀{k j:Nat},k<=j->j<=S.length->∀x∈aU S k,x∈aU S j:=by
 intro k j hkj;induction hkj with
 |refl=>intro _ x hx;exact hx
 |step h ih =>
  intro hj x hx;rw[dI (by omega)];unfold fH;have:=ih (by omega) x hx;split
  ·exact ZM _ this
  ·exact this
theorem wz{S:LT}(nd:S.Nodup){i:Nat}(hi:i<S.length):∀{j:Nat},i<j->j<=S.length->S[i]∈aU S j->S[i]∈aU S (i+1):=by
 intro j hij;induction hij with
 |refl=>intro _ h;exact h
 |step h ih =>
  intro hj hx;rename_i j;have hij':i+1<=j:=h;rw[dI (by omega)]at hx;unfold fH at hx;split at hx
  ·rcases Zu.mp hx with hx|hx
   ·exact ih (by omega) hx
   ·exfalso;have e:=Zm.mp hx;rw[y8,Zw]at nd;exact nd i j hi (by omega) (by omega) e
  ·exact ih (by omega) hx
theorem bT{n:Nat}{S:LT}(u:UN n (vals S)):S.Nodup:=by have:=u.uni;unfold vals at this;rw[Z7]at this;exact this.imp fun{a b} h z=>h (by rw[z])
theorem yN{n:Nat}{S:LT}(u:UN n (vals S))(hs:(vals S).Pairwise fun d e=>¬kLt e d):Sat n (vals S) (vals (aU S S.length)):=fun d hd h=>by
 obtain⟨x,hx,rfl⟩:=Zl.mp hd;obtain⟨k,hk,rfl⟩:=ZG.mp hx;have nd:=bT u;have subM:=(bZ S S.length (Ze _)).trans (ZH _ _);have uM:=u.sub (cW subM);have cM:=jv u S.length (Ze _);by_cases c:∃i,i<n/\aB S[k].2 i>0/\∃e∈vals (aU S S.length),e.h=i/\ag e.ns e.h=aB S[k].2 i/\leC e.ns S[k].2.ns/\e.ns=S[k].2.ns
 ·obtain⟨i,hi,hl,e,he,e1,e2,e3,e4⟩:=c;have ne:i≠S[k].2.h:=fun z=>by rw[z,bW]at e2;rw[e4,e1,z]at e2;omega
  obtain⟨j,hj,rfl⟩:=ZG.mp he;have lh:aB (vals (aU S S.length))[j] S[k].2.h=ag S[k].2.ns S[k].2.h:=by rw[eM (by rw[e1];exact fun z=>ne z.symm),e4]
  obtain⟨x,hx,x1,x2,x3⟩:=cM j hj S[k].2.h (u.len _ hd).2 (by rw[lh];exact u.own _ hd);have hx':=y6 hx;rw[lh]at x2;have:x=S[k].2:=jd u.uni ((cW subM).subset hx') hd (by unfold nmK;rw[x2,x1]);rw[<-this];exact hx'
 ·have all:∀i,i<n->aB S[k].2 i>0->An (vals (aU S k)) S[k].2 i:=fun i hi hl=>by
   obtain⟨e,he,e1,e2,e3⟩:=h i hi hl;have heS:=(cW subM).subset he;have sl:e.ns.sum<S[k].2.ns.sum:=by
    rcases E4 (by rw[(u.len e heS).1,(u.len _ hd).1]) e3 with z|z
    ·exact absurd ⟨i,hi,hl,e,he,e1,e2,e3,z⟩ c
    ·exact z
   obtain⟨y,hy,rfl⟩:=Zl.mp he;obtain⟨j,hj,rfl⟩:=ZG.mp (subM.subset hy);have hjk:j<k:=by
    rcases ZY j k with q|q
    ·exact q
    ·exfalso;rcases ZY k j with q2|q2
     ·rw[Zw]at hs;have:=hs k j (by unfold vals;rw[z9];exact hk) (by unfold vals;rw[z9];exact hj) q2;simp only[vals,List.getElem_map]at this;exact this (.inl sl)
     ·have:j=k:=by omega
      subst this;omega
   refine⟨S[j].2,Zl.mpr ⟨S[j],?_,rfl⟩,e1,e2,e3⟩;exact pX S (show j+1<=k by omega) (by omega) _ (wz nd hj (show j<S.length by omega) (Ze _) hy)
  have us:=u.sub (cW ((bZ S k (by omega)).trans (ZH _ _)));have ac:=(sI us.uni (u.len _ hd).1).mpr all;have:S[k]∈aU S (k+1):=by rw[dI hk];unfold fH;rw[if_pos ac];exact Zz _ (Zm.mpr rfl)
  exact Zl.mpr ⟨S[k],pX S (show k+1<=S.length by omega) (Ze _) _ this,rfl⟩
theorem ym{R:List Dd}(h:R.Pairwise fun d e=>¬kLt e d)(u:R.Pairwise fun d e=>d.h=e.h->d.ns.sum≠e.ns.sum):R.Pairwise kLt:=by
 refine(List.Pairwise.and h u).imp fun{d e} ⟨h1,h2⟩=>?_;unfold kLt at h1 ⊢;by_cases c:d.h=e.h
 ·have:=h2 c;omega
 ·omega
theorem Ao{n:Nat}{L S F:LT}{T:List Dd}(u:UN n (vals L))(pS:S.Perm L)(hs:(vals S).Pairwise fun d e=>¬kLt e d)(cT:Ch n T)(hT:∀d∈T,d∈vals L)(sT:Sat n (vals L) T)(hF:∀x,x∈F↔x∈L/\x.2∈T)(nF:F.Nodup) :
  (vals (aU S S.length)).Pairwise kLt/\(aU S S.length).Perm F/\(vals F).Pairwise fun d e=>d.h=e.h->d.ns.sum≠e.ns.sum:=by
 have uS:UN n (vals S):=u.perm (pS.symm.map Prod.snd);have subM:=(bZ S S.length (Ze _)).trans (ZH _ _);have uM:=uS.sub (cW subM);have cM:=jv uS S.length (Ze _);have sM:=yN uS hs;have un:=wE cM uM;have mm:∀d,d∈vals (aU S S.length)↔d∈T:=fun d=>⟨fun hd=>yn cM (fun e he=>(pS.map Prod.snd).mem_iff.mp ((cW subM).subset he)) sT d hd,fun hd=>yn cT (fun e he=>(pS.map Prod.snd).mem_iff.mpr (hT e he)) sM d hd⟩
 have pm:(aU S S.length).Perm F:=by
  refine(List.perm_ext_iff_of_nodup (subM.nodup (bT uS)) nF).mpr fun x=>?_;rw[hF];constructor
  ·intro hx;exact⟨pS.mem_iff.mp (subM.subset hx),(mm x.2).mp (Zl.mpr ⟨x,hx,rfl⟩)⟩
  ·rintro⟨hx,hxT⟩;obtain⟨y,hy,e⟩:=Zl.mp ((mm x.2).mpr hxT);have hyL:=pS.mem_iff.mp (subM.subset hy);have:y=x:=by
    have uu:=u.uni;unfold vals at uu;rw[Z7]at uu;have inj:∀{A:LT},(A.Pairwise fun a b=>nmK a.2≠nmK b.2)->∀{a b:Addr×Dd},a∈A->b∈A->nmK a.2=nmK b.2->a=b:=by
     intro A;induction A with
     |nil=>intro _ a b ha;exact absurd ha (by simp)
     |cons z A ih =>
      intro uz a b ha hb hab;rw[List.pairwise_cons]at uz;rcases Zs.mp ha with z1|ha'
      ·rcases Zs.mp hb with z2|hb'
       ·rw[z1,z2]
       ·exact absurd (z1▸hab) (uz.1 b hb')
      ·rcases Zs.mp hb with z2|hb'
       ·exact absurd (z2▸hab).symm (uz.1 a ha')
       ·exact ih uz.2 ha' hb' hab
    exact inj uu hyL hx (by rw[e])
   rw[<-this];exact hy
 refine⟨ym (hs.sublist (cW subM)) un,pm,?_⟩;exact un.perm (pm.map Prod.snd) fun{x y} h e=>(h e.symm).symm
structure Good(n:Nat)(L:List Dd):Prop where
 len:∀d∈L,d.ns.length=n/\d.h<n
 uni:L.Pairwise fun d e=>d.h=e.h->ag d.ns d.h≠ag e.ns e.h/\d.ns.sum≠e.ns.sum
 ans:∀d∈L,∀i,i<n->aB d i>0->∃e∈L,e.h=i/\ag e.ns i=aB d i/\leC e.ns d.ns/\e.ns.sum<d.ns.sum
structure Gen(n:Nat)(cl:List (List Int))(L:List Dd):Prop where
 cn:cl.length=n
 cc:∀g,g<n->(clk cl g).length=n
 len:∀d∈L,d.ns.length=n/\d.h<n
 ca:∀g,g<n->∀i,i<n->ag (clk cl g) i>0->∃e∈L,e.h=i/\ag e.ns i=ag (clk cl g) i/\leC e.ns (clk cl g)
 low:∀d∈L,leC d.ns (clk cl d.h)
 uni:L.Pairwise fun d e=>d.h=e.h->ag d.ns d.h<ag e.ns e.h/\d.ns.sum<e.ns.sum
 ans:∀d∈L,∀i,i<n->aB d i>0->∃e∈L,e.h=i/\ag e.ns i=aB d i/\leC e.ns d.ns/\e.ns.sum<d.ns.sum
def tw(l:List Str):TV:=.tup (l.map V.str)
def DT:List (Str×TV):=[("put",tw ["up","place","text"]),("move",tw ["item","up","place"]),("write",tw ["item","text"]),("mark",tw ["item","truth"]),("due",tw ["item","whom"]),("fold",tw ["item","truth"]),("part",tw ["item","at","place"]),("join",tw ["item","item"]),("take",tw ["item"]),("back",tw ["item"]),("off",tw ["number"]),("on",tw ["number"]),("none",tw [])]
inductive Kd|u|p|t|i|b|w|a|n
deriving DecidableEq
def nm:Kd->Str
 |.u=>"up" |.p=>"place" |.t=>"text" |.i=>"item" |.b=>"truth" |.w=>"whom" |.a=>"at" |.n=>"number"
def be:V->Int->Bool
 |.int i,lo=>decide (lo<=i)
 |_,_=>false
def ltB:V->Int->Bool
 |.int i,h=>decide (i<h)
 |_,_=>false
def pD(h:Int):Option HO->Bool
 |some (.tup [x,y])=>be x 0&&(ltB x h&&be y 1)
 |_=>false
def jG(H:Hp)(h:Int):V->Bool
 |.ref a=>pD h (H a)
 |_=>false
def qi(h:Int):Option HO->Bool
 |some (.tup xs)=>decide ((xs.length:Int)=h)&&xs.all (fun x=>be x 0)
 |_=>false
def iQ(H:Hp)(h:Int):V->Bool
 |.ref a=>qi h (H a)
 |_=>false
theorem bg{H:Hp}{a:Addr}{o:HO}{h:Int}(e:H a=some o):jG H h (.ref a)=pD h (some o):=by show pD h (H a)=_;rw[e]
theorem dM{H:Hp}{a:Addr}{o:HO}{h:Int}(e:H a=some o):iQ H h (.ref a)=qi h (some o):=by show qi h (H a)=_;rw[e]
theorem xg{K:PySem.W.Frag}{H:Hp}{v:V}{n:String}{h:Int}(ty:TyOf K H v (.type n))(hT:isT H v=false):jG H h v=false/\iQ H h v=false:=by
 cases ty with
 |lst z=>exact⟨bg z,dM z⟩
 |frz z=>exact⟨bg z,dM z⟩
 |tup z=>rw[bJ z (b:=true) rfl]at hT;cases hT
 |dK z=>exact⟨bg z,dM z⟩
 |dT z=>exact⟨bg z,dM z⟩
 |_=>exact⟨rfl,rfl⟩
def lQ:Option HO->Bool
 |some (.tup xs)=>decide (1<=xs.length)&&decide (xs.length<=64)&&xs.all dQ
 |_=>false
def fU(H:Hp):V->Bool
 |.ref a=>lQ (H a)
 |_=>false
theorem aY{H:Hp}{a:Addr}{o:HO}(e:H a=some o):fU H (.ref a)=lQ (some o):=by show lQ (H a)=_;rw[e]
theorem ss{K:PySem.W.Frag}{H H':Hp}{v:V}{n:String}(h:TyOf K H v (.type n))(e:Same H H'):fU H' v=fU H v:=by
 cases h with
 |lst q=>rw[aY (e _ _ q),aY q]
 |frz q=>rw[aY (e _ _ q),aY q]
 |tup q=>rw[aY (e _ _ q),aY q]
 |dK q=>rw[aY (e _ _ q),aY q]
 |dT q=>rw[aY (e _ _ q),aY q]
 |_=>rfl
def isS:V->Bool
 |.str _=>true
 |_=>false
theorem tJ{K:PySem.W.Frag}{H:Hp}{v:V}{n:String}(h:TyOf K H v (.type n)):PySem.W.kitOne K (.type n) (.type "str")=some (isS v):=by
 cases h with
 |str x=>exact bq (b:=true) (by decide +kernel) (fun z=>nomatch z)
 |non=>exact aD (b:=false) (by decide +kernel) (by decide +kernel) (by decide +kernel)
 |bl x=>exact aD (b:=false) (by decide +kernel) (by decide +kernel) (by decide +kernel)
 |int i=>exact aD (b:=false) (by decide +kernel) (by decide +kernel) (by decide +kernel)
 |flt x=>exact aD (b:=false) (by decide +kernel) (by decide +kernel) (by decide +kernel)
 |lst e=>exact aD (b:=false) (by decide +kernel) (by decide +kernel) (by decide +kernel)
 |frz e=>exact aD (b:=false) (by decide +kernel) (by decide +kernel) (by decide +kernel)
 |tup e=>exact aD (b:=false) (by decide +kernel) (by decide +kernel) (by decide +kernel)
 |dK e=>exact aD (b:=false) (by decide +kernel) (by decide +kernel) (by decide +kernel)
 |dT e=>exact aD (b:=false) (by decide +kernel) (by decide +kernel) (by decide +kernel)
theorem ve{K:PySem.W.Frag}{H H':Hp}{v:V}{n:String}{h:Int}(t:TyOf K H v (.type n))(e:Same H H'):jG H' h v=jG H h v:=by
 cases t with
 |lst q=>rw[bg (e _ _ q),bg q]
 |frz q=>rw[bg (e _ _ q),bg q]
 |tup q=>rw[bg (e _ _ q),bg q]
 |dK q=>rw[bg (e _ _ q),bg q]
 |dT q=>rw[bg (e _ _ q),bg q]
 |_=>rfl
theorem zi{K:PySem.W.Frag}{H H':Hp}{v:V}{n:String}(t:TyOf K H v (.type n))(e:Same H H'):isT H' v=isT H v:=by
 cases t with
 |lst q=>rw[bJ (e _ _ q) rfl,bJ q rfl]
 |frz q=>rw[bJ (e _ _ q) rfl,bJ q rfl]
 |tup q=>rw[bJ (e _ _ q) rfl,bJ q rfl]
 |dK q=>rw[bJ (e _ _ q) rfl,bJ q rfl]
 |dT q=>rw[bJ (e _ _ q) rfl,bJ q rfl]
 |_=>rfl
def jL(c:Nat):Bool:=(decide ((32:Int)<=c)&&decide ((c:Int)<=126))&&!decide ((c:Int)=37)
def hU(x:Str):Bool:=x.cps.toList.all jL
def nmL(hd:Int)(ns:List Int):List Int:=[hd,ag ns hd.toNat]
def xp(hd:Int)(ns:List Int)(i j:Int):Bool:=(decide (0<=i)&&(decide (i<ns.length)&&decide (1<=j)))&&(decide (j<=ag ns i.toNat)&&!decide ([i,j]=nmL hd ns))
inductive ItemR(K:PySem.W.Frag)(H:Hp)(hd:Int)(ns:List Int):V->Bool->Prop
 |no {v:V} (a:Asked K H v) (e:jG H ns.length v=false):ItemR K H hd ns v false
 |is {a:Addr} {i j:Int} (e:H a=some (.tup [.int i,.int j])):ItemR K H hd ns (.ref a) (xp hd ns i j)
theorem ItemR.same{K:PySem.W.Frag}{H H':Hp}{hd:Int}{ns:List Int}{v:V}{b:Bool}(r:ItemR K H hd ns v b)(s:Same H H'):ItemR K H' hd ns v b:=by
 cases r with
 |no a e=>exact .no (a.same s) (by obtain⟨⟨n,t⟩,_⟩:=a;rw[ve t s];exact e)
 |is e=>exact .is (s _ _ e)
inductive PartR(K:PySem.W.Frag)(H:Hp)(hd:Int)(ns:List Int):Kd->V->Bool->Prop
 |it {v:V} {b:Bool} (r:ItemR K H hd ns v b):PartR K H hd ns .i v b
 |u0:PartR K H hd ns .u .non true
 |up {v:V} {b:Bool} (hv:v≠.non) (r:ItemR K H hd ns v b):PartR K H hd ns .u v b
 |pl {v:V} {b:Bool} (a:Asked K H v) (e:fU H v=b):PartR K H hd ns .p v b
 |tx {x:Str} {b:Bool} (hl:x.length<=1000) (ha:x.cps.all (·<128)=true) (e:(hU x&&decide (x.length<=60))=b):PartR K H hd ns .t (.str x) b
 |tn {v:V} {n:String} (ty:TyOf K H v (.type n)) (hs:isS v=false):PartR K H hd ns .t v false
 |bl {v:V} {n:String} {b:Bool} (ty:TyOf K H v (.type n)) (e:isB v=b):PartR K H hd ns .b v b
 |w0:PartR K H hd ns .w .non true
 |wh {v:V} {n:String} {b:Bool} (hv:v≠.non) (ty:TyOf K H v (.type n)) (e:(be v 0&&ltB v ns.length)=b):PartR K H hd ns .w v b
 |at{v:V} {n:String} {b:Bool} (ty:TyOf K H v (.type n)) (e:be v 0=b):PartR K H hd ns .a v b
 |nu {v:V} {n:String} {b:Bool} (ty:TyOf K H v (.type n)) (e:(be v 1&&ltB v (ag ns hd.toNat))=b):PartR K H hd ns .n v b
theorem PartR.same{K:PySem.W.Frag}{H H':Hp}{hd:Int}{ns:List Int}{k:Kd}{v:V}{b:Bool}(r:PartR K H hd ns k v b)(s:Same H H'):PartR K H' hd ns k v b:=by
 cases r with
 |it r=>exact .it (r.same s)
 |u0=>exact .u0
 |up hv r=>exact .up hv (r.same s)
 |pl a e=>exact .pl (a.same s) (by obtain⟨⟨n,t⟩,_⟩:=a;rw[ss t s];exact e)
 |tx hl ha e=>exact .tx hl ha e
 |tn ty hs=>exact .tn (cy s ty) hs
 |bl ty e=>exact .bl (cy s ty) e
 |w0=>exact .w0
 |wh hv ty e=>exact .wh hv (cy s ty) e
 | «at» ty e=>exact .at (cy s ty) e
 |nu ty e=>exact .nu (cy s ty) e
def PartsR(K:PySem.W.Frag)(H:Hp)(hd:Int)(ns:List Int)(ks:List Kd)(ps:List V)(bs:List Bool):Prop:=ks.length=ps.length/\bs.length=ps.length/\∀(i:Nat) (k:Kd) (v:V) (b:Bool),ks[i]?=some k->ps[i]?=some v->bs[i]?=some b->PartR K H hd ns k v b
theorem PartsR.same{K:PySem.W.Frag}{H H':Hp}{hd:Int}{ns:List Int}{ks:List Kd}{ps:List V}{bs:List Bool}(p:PartsR K H hd ns ks ps bs)(s:Same H H'):PartsR K H' hd ns ks ps bs:=⟨p.1,p.2.1,fun i k v x h1 h2 h3=>(p.2.2 i k v x h1 h2 h3).same s⟩
inductive WhatR(K:PySem.W.Frag)(H:Hp)(hd:Int)(ns:List Int):V->Bool->Prop
 |flat {v:V} {n:String} (ty:TyOf K H v (.type n)) (hT:isT H v=false):WhatR K H hd ns v false
 |emp {a:Addr} (e:H a=some (.tup [])):WhatR K H hd ns (.ref a) false
 |noStr {a:Addr} {x:V} {n:String} {ps:List V} (e:H a=some (.tup (x::ps))) (ty:TyOf K H x (.type n)) (hs:isS x=false):WhatR K H hd ns (.ref a) false
 |noWord {a:Addr} {k:Str} {ps:List V} (e:H a=some (.tup (.str k::ps))) (hk:PyProof.Rows.KTD.datumAt k DT=none):WhatR K H hd ns (.ref a) false
 |len {a:Addr} {k:Str} {ps:List V} {ks:List Kd} (e:H a=some (.tup (.str k::ps))) (hk:PyProof.Rows.KTD.datumAt k DT=some (tw (ks.map nm))) (hl:ps.length≠ks.length):WhatR K H hd ns (.ref a) false
 |is {a:Addr} {k:Str} {ps:List V} {ks:List Kd} {bs:List Bool} {b:Bool} (e:H a=some (.tup (.str k::ps))) (hk:PyProof.Rows.KTD.datumAt k DT=some (tw (ks.map nm))) (l3:ks.length<=3) (p:PartsR K H hd ns ks ps bs) (hb:bs.all id=b):WhatR K H hd ns (.ref a) b
theorem WhatR.same{K:PySem.W.Frag}{H H':Hp}{hd:Int}{ns:List Int}{v:V}{b:Bool}(r:WhatR K H hd ns v b)(s:Same H H'):WhatR K H' hd ns v b:=by
 cases r with
 |flat ty hT=>exact .flat (cy s ty) (by rw[zi ty s];exact hT)
 |emp e=>exact .emp (s _ _ e)
 |noStr e ty hs=>exact .noStr (s _ _ e) (cy s ty) hs
 |noWord e hk=>exact .noWord (s _ _ e) hk
 |len e hk hl=>exact .len (s _ _ e) hk hl
 |is e hk l3 p hb=>exact .is (s _ _ e) hk l3 (p.same s) hb
inductive DeedR(K:PySem.W.Frag)(H:Hp)(h:Int):V->Bool->Prop
 |flat {v:V} {n:String} (ty:TyOf K H v (.type n)) (hT:isT H v=false):DeedR K H h v false
 |len {a:Addr} {xs:List V} (e:H a=some (.tup xs)) (hl:xs.length≠3):DeedR K H h (.ref a) false
 |hand {a:Addr} {x y z:V} {n:String} (e:H a=some (.tup [x,y,z])) (ty:TyOf K H x (.type n)) (hx:(be x 0&&ltB x h)=false):DeedR K H h (.ref a) false
 |clock {a:Addr} {i:Int} {y z:V} (e:H a=some (.tup [.int i,y,z])) (i0:0<=i) (i1:i<h) (ay:Asked K H y) (hc:iQ H h y=false):DeedR K H h (.ref a) false
 |zero {a c:Addr} {i:Int} {ns:List Int} {z:V} (e:H a=some (.tup [.int i,.ref c,z])) (i0:0<=i) (i1:i<h) (ec:H c=some (.tup (ns.map V.int))) (hl:(ns.length:Int)=h) (hn:∀n∈ns,0<=n) (h8:h<=8) (h0:ag ns i.toNat<1):DeedR K H h (.ref a) false
 |is {a c:Addr} {i:Int} {ns:List Int} {z:V} {b:Bool} (e:H a=some (.tup [.int i,.ref c,z])) (i0:0<=i) (i1:i<h) (ec:H c=some (.tup (ns.map V.int))) (hl:(ns.length:Int)=h) (hn:∀n∈ns,0<=n) (h8:h<=8) (h1:1<=ag ns i.toNat) (w:WhatR K H i ns z b):DeedR K H h (.ref a) b
def nU(K:PySem.W.Frag):Sp:=fun vs H Q _=>∃v n,vs=[v]/\TyOf K H v (.type n)/\Q (.bl (dQ v)) H
def hW(K:PySem.W.Frag):Sp:=fun vs H Q _=>∃v n lo,vs=[v,.int lo]/\TyOf K H v (.type n)/\Q (.bl (be v lo)) H
def ud(K:PySem.W.Frag):Sp:=fun vs H Q _=>∃v h,vs=[v,.int h]/\Asked K H v/\Q (.bl (jG H h v)) H
def oJ(K:PySem.W.Frag):Sp:=fun vs H Q _=>∃v h,vs=[v,.int h]/\Asked K H v/\∀H',Same H H'->Q (.bl (iQ H h v)) H'
def nV:Sp:=fun vs H Q _=>∃(a b:Addr) (xs:List V) (i j z:Int),vs=[.ref a,.ref b]/\H a=some (.tup xs)/\H b=some (.tup [.int i,.int j])/\atI xs i=some (.int z)/\Q (.bl (decide (j<=z))) H
def rF(K:PySem.W.Frag):Sp:=fun vs H Q _=>∃v n,vs=[v]/\TyOf K H v (.type n)/\(isS v=false->Q (.bl false) H)/\(∀k,v=.str k->Q (.bl (PyProof.Rows.KTD.datumAt k DT).isSome) H)
def ue(K:PySem.W.Frag):Sp:=fun vs H Q _=>∃(k:Str) (ws:List Str),vs=[.str k]/\PyProof.Rows.KTD.datumAt k DT=some (tw ws)/\∀t,(∀H',SqT K H' t (ws.map V.str))->Q (.ref t) H
def oK(K:PySem.W.Frag):Sp:=fun vs H Q _=>∃v,vs=[v]/\Asked K H v/\∀H',Same H H'->Q (.bl (fU H v)) H'
def yj:Sp:=fun vs H Q _=>∃c:Nat,vs=[.str ⟨#[c]⟩]/\Q (.bl (jL c)) H
def rD(K:PySem.W.Frag):Sp:=fun vs H Q _=>∃v,vs=[v]/\((∃n,TyOf K H v (.type n)/\isS v=false/\Q (.bl false) H)\/∃x:Str,v=.str x/\x.length<=1000/\x.cps.all (·<128)=true/\∀H',Same H H'->Q (.bl (hU x)) H')
def rB(K:PySem.W.Frag):Sp:=fun vs H Q _=>∃v n h,vs=[v,.int h]/\TyOf K H v (.type n)/\Q (.bl (be v 0&&ltB v h)) H
def uc(K:PySem.W.Frag):Sp:=fun vs H Q _=>∃(v:V) (b:Bool) (c:Addr) (hd:Int) (ns:List Int),vs=[v,.int hd,.ref c]/\H c=some (.tup (ns.map V.int))/\0<=hd/\hd<ns.length/\ItemR K H hd ns v b/\∀H',Same H H'->Q (.bl b) H'
def rC(K:PySem.W.Frag):Sp:=fun vs H Q _=>∃(k:Kd) (v:V) (b:Bool) (c:Addr) (hd:Int) (ns:List Int),vs=[.str (nm k),v,.int hd,.ref c]/\H c=some (.tup (ns.map V.int))/\0<=hd/\hd<ns.length/\PartR K H hd ns k v b/\∀H',Same H H'->Q (.bl b) H'
def rE(K:PySem.W.Frag):Sp:=fun vs H Q _=>∃(v:V) (b:Bool) (c:Addr) (hd:Int) (ns:List Int),vs=[v,.int hd,.ref c]/\H c=some (.tup (ns.map V.int))/\0<=hd/\hd<ns.length/\WhatR K H hd ns v b/\∀H',Same H H'->Q (.bl b) H'
def rA(K:PySem.W.Frag):Sp:=fun vs H Q _=>∃(v:V) (b:Bool) (h:Int),vs=[v,.int h]/\DeedR K H h v b/\∀H',Same H H'->Q (.bl b) H'
def WR(H:Hp)(v:V):Option Int->Prop
 |none=>∃p,v=.ref p/\H p=some (.tup [.str "none"])
 |some m=>∃p q,v=.ref p/\H p=some (.tup [.str "put",.non,.ref q,.str "text"])/\H q=some (.tup ([m].map V.int))
def DR(H:Hp)(a:Addr)(d:Dd):Prop:=∃(c:Addr) (v:V),H a=some (.tup [.int (d.h:Int),.ref c,v])/\H c=some (.tup (d.ns.map V.int))/\WR H v d.w/\d.h<d.ns.length/\d.ns.length<=8
def ax(L:LT):List V:=L.map fun x=>V.ref x.1
theorem aR(L:LT):(ax L).length=L.length:=z9 ..
theorem eS(L:LT):(vals L).length=L.length:=z9 ..
def LR(H:Hp)(l:Addr)(L:LT):Prop:=H l=some (.lst (ax L))/\∀x∈L,DR H x.1 x.2
def TS(H H':Hp):Prop:=∀a zs,H a=some (.tup zs)->H' a=some (.tup zs)
theorem Same.ts{H H':Hp}(e:Same H H'):TS H H':=fun a zs h=>e a _ h
theorem TS.trans{H H' H2:Hp}(e:TS H H')(f:TS H' H2):TS H H2:=fun a zs h=>f a zs (e a zs h)
theorem kD{T:Addr}{H H':Hp}(hT:∀zs,H T≠some (.tup zs))(s:SameT T H H'):TS H H':=fun a zs h=>s a _ h fun z=>hT zs (by rw[<-z];exact h)
theorem rN{H:Hp}{p:Addr}{o:HO}(hp:∀zs,H p≠some (.tup zs)):TS H (upd H p o):=fun a zs h=>by rw[af (fun z=>hp zs (by rw[<-z];exact h))];exact h
theorem WR.ts{H H':Hp}{v:V}{w:Option Int}(x:WR H v w)(e:TS H H'):WR H' v w:=by
 cases w with
 |none =>obtain⟨p,h1,h2⟩:=x;exact⟨p,h1,e _ _ h2⟩
 |some w =>obtain⟨p,q,h1,h2,h3⟩:=x;exact⟨p,q,h1,e _ _ h2,e _ _ h3⟩
theorem DR.ts{H H':Hp}{a:Addr}{d:Dd}(x:DR H a d)(e:TS H H'):DR H' a d:=by obtain⟨c,v,h1,h2,h3,h4⟩:=x;exact⟨c,v,e _ _ h1,e _ _ h2,h3.ts e,h4⟩
theorem DR.same{H H':Hp}{a:Addr}{d:Dd}(x:DR H a d)(e:Same H H'):DR H' a d:=x.ts (Same.ts e)
theorem LR.same{H H':Hp}{l:Addr}{L:LT}(x:LR H l L)(e:Same H H'):LR H' l L:=⟨e _ _ x.1,fun y hy=>(x.2 y hy).same e⟩
theorem at0{x:V}{r:List V}:atI (x::r) 0=some x:=gN (xs:=x::r) (j:=0) rfl
theorem at1{x y:V}{r:List V}:atI (x::y::r) 1=some y:=gN (xs:=x::y::r) (j:=1) rfl
theorem dG{ns:List Int}{k:Nat}(h:k<ns.length):atI (ns.map V.int) (k:Int)=some (.int (ag ns k)):=by have:=cS (ns:=ns) (k:=(k:Int)) (by omega) (by omega);rw[show((k:Int)).toNat=k by omega]at this;exact this
theorem iE{L:LT}{k:Nat}{x:V}(h:(ax L)[k]?=some x):∃hk:k<L.length,x=.ref L[k].1:=by
 have hk:k<L.length:=by have:=(Zy.mp h).1;rw[aR]at this;exact this
 refine⟨hk,?_⟩;unfold ax at h;rw[Zv,Zb hk]at h;exact(ZO h).symm
def wD:Option Int->PyData
 |none=>.tuple [.str "none"]
 |some m=>.tuple [.str "put",.none,.tuple [.int m],.str "text"]
def dD(d:Dd):PyData:=.tuple [.int (d.h:Int),.tuple (d.ns.map .int),wD d.w]
theorem gP{H:Hp}:∀ns:List Int,DtAll H (ns.map .int) (ns.map V.int)
 | []=>by simp[DtAll]
 |n::ns=>by show DtAll H (PyData.int n::ns.map .int) (V.int n::ns.map V.int);simp only[DtAll];exact⟨_,_,rfl,by simp only[Dt],gP ns⟩
theorem WR.dt{H:Hp}{v:V}{w:Option Int}(x:WR H v w):Dt H (wD w) v:=by
 cases w with
 |none =>obtain⟨p,rfl,h2⟩:=x;unfold wD;simp only[Dt,DtAll];exact⟨p,_,rfl,.inl h2,_,_,rfl,rfl,rfl⟩
 |some w =>obtain⟨p,q,rfl,h2,h3⟩:=x;unfold wD;simp only[Dt,DtAll];exact⟨p,_,rfl,.inl h2,_,_,rfl,rfl,_,_,rfl,rfl,_,_,rfl,⟨q,_,rfl,.inl h3,_,_,rfl,rfl,rfl⟩,_,_,rfl,rfl,rfl⟩
theorem DR.dt{H:Hp}{a:Addr}{d:Dd}(x:DR H a d):Dt H (dD d) (.ref a):=by obtain⟨c,v,h1,h2,h3,_⟩:=x;have dw:=h3.dt;have dn:=gP (H:=H) d.ns;unfold dD;simp only[Dt,DtAll];exact⟨a,_,rfl,.inl h1,_,_,rfl,rfl,_,_,rfl,⟨c,_,rfl,.inl h2,dn⟩,_,_,rfl,dw,rfl⟩
theorem wO{H:Hp}:∀{L:LT},(∀x∈L,DR H x.1 x.2)->DtAll H ((vals L).map dD) (ax L)
 | [],_=>by simp[DtAll,vals,ax]
 |x::L,h=>by show DtAll H (dD x.2::(vals L).map dD) (V.ref x.1::ax L);simp only[DtAll];exact⟨_,_,rfl,(h x (by simp)).dt,wO fun y hy=>h y (by simp[hy])⟩
theorem LR.dt{H:Hp}{l:Addr}{L:LT}(x:LR H l L):Dt H (.list ((vals L).map dD)) (.ref l):=by simp only[Dt];exact⟨l,_,rfl,.inl x.1,wO x.2⟩
def WOk(_:Option Int):Prop:=True
theorem WR.ok{H:Hp}{v:V}{w:Option Int}(_:WR H v w):WOk w:=trivial
theorem kf:∀ns:List Int,PyData.canLayAll0 (ns.map .int)=true/\PyData.depthAll (ns.map .int)<=1
 | []=>⟨rfl,by simp[PyData.depthAll]⟩
 |n::ns=>by obtain⟨h1,h2⟩:=kf ns;simp only[Z0,PyData.canLayAll0,PyData.depthAll,PyData.canLay0,PyData.depth,h1];exact⟨rfl,by omega⟩
theorem E3{w:Option Int}(h:WOk w):(wD w).canLay0=true/\(wD w).depth<=3:=by
 cases w with
 |none=>exact⟨by simp[wD,PyData.canLay0,PyData.canLayAll0];decide +kernel,by simp[wD,PyData.depth,PyData.depthAll]⟩
 |some w =>refine⟨?_,by simp[wD,PyData.depth,PyData.depthAll]⟩;simp[wD,PyData.canLay0,PyData.canLayAll0];decide +kernel
theorem uW{d:Dd}(h:WOk d.w):(dD d).canLay0=true/\(dD d).depth<=4:=by obtain⟨a1,a2⟩:=kf d.ns;obtain⟨b1,b2⟩:=E3 h;unfold dD;simp only[PyData.canLay0,PyData.canLayAll0,PyData.depth,PyData.depthAll,a1,b1];exact⟨rfl,by omega⟩
theorem mU:∀{L:List Dd},(∀d∈L,WOk d.w)->PyData.canLayAll0 (L.map dD)=true/\PyData.depthAll (L.map dD)<=5
 | [],_=>⟨rfl,by simp[PyData.depthAll]⟩
 |x::L,h=>by obtain⟨h1,h2⟩:=mU (L:=L) fun r hr=>h r (by simp[hr]);obtain⟨h3,h4⟩:=uW (h x (by simp));simp only[Z0,PyData.canLayAll0,PyData.depthAll,h1,h3];exact⟨rfl,by omega⟩
theorem LR.ok{H:Hp}{l:Addr}{L:LT}(x:LR H l L):∀d∈vals L,WOk d.w:=fun r hr=>by obtain⟨y,hy,rfl⟩:=Zl.mp hr;obtain⟨_,_,_,_,h3,_⟩:=x.2 y hy;exact h3.ok
theorem fG{L:List Dd}(h:∀d∈L,WOk d.w):SeqAt.shaped (.list (L.map dD))=true:=by obtain⟨h1,h2⟩:=mU h;unfold SeqAt.shaped;rw[ZN];refine⟨by simpa[PyData.canLay0]using h1,decide_eq_true ?_⟩;simp only[PyData.depth];omega
theorem tj{L:List Dd}(h:∀d∈L,WOk d.w):PyData.eqv (.list (L.map dD)) (.list (L.map dD))=true:=SeqAt.eqv_refl _ (by simpa[PyData.canLay0]using(mU h).1)
def rL:Sp:=fun vs H Q _=>∃(a b:Addr) (ns ms:List Int),vs=[.ref a,.ref b]/\H a=some (.tup (ns.map V.int))/\H b=some (.tup (ms.map V.int))/\ns.length=ms.length/\ns.length<=8/\∀H',Same H H'->Q (.bl (fO ns ms)) H'
def eG:Sp:=fun vs H Q _=>∃(a:Addr) (d:Dd),vs=[.ref a]/\DR H a d/\∀p H',Same H H'->H' p=some (.tup ((nmZ d).map V.int))->Q (.ref p) H'
def NA(H:Hp)(d:Dd)(as:List Addr)(is:List Nat):Prop:=as.length=is.length/\∀(k:Nat) (b:Addr) (i:Nat),as[k]?=some b->is[k]?=some i->H b=some (.tup ([(i:Int),aB d i].map V.int))
def tY:Sp:=fun vs H Q _=>∃(a:Addr) (d:Dd),vs=[.ref a]/\DR H a d/\∀p H' as,Same H H'->H' p=some (.lst (as.map V.ref))->NA H' d as (dF d)->Q (.ref p) H'
def ye:Sp:=fun vs H Q _=>∃(a nm r:Addr) (d:Dd) (i:Nat) (R:LT) (n:Nat),vs=[.ref a,.ref nm,.ref r]/\DR H a d/\H nm=some (.tup ([(i:Int),aB d i].map V.int))/\H r=some (.dT (aM R))/\(∀x∈R,DR H x.1 x.2)/\(∀x∈R,x.2.ns.length=n)/\d.ns.length=n/\∀H',Same H H'->Q (.bl (gB (vals R) d i)) H'
theorem jM(R:LT)(k:List Key):bw (aM R) k=(R.find? fun x=>decide (nmK x.2=k)).map fun x=>V.ref x.1:=by unfold bw aM;rw[List.find?_map,Option.map_map];rfl
theorem wR(R:LT)(k:List Key):(vals R).find? (fun e=>decide (nmK e=k))=(R.find? fun x=>decide (nmK x.2=k)).map Prod.snd:=by unfold vals;rw[List.find?_map];rfl
def yf(K:PySem.W.Frag):Sp:=fun vs H Q _=>∃(a:Addr) (ns:List Int) (k:Int),vs=[.ref a,.int k]/\SqL K H a (ns.map V.int)/\0<=k/\Q (.int (ag ns k.toNat)) H
def vU:Sp:=fun vs H Q _=>∃(a:Addr) (d:Dd),vs=[.ref a]/\DR H a d/\∀p H',Same H H'->H' p=some (.tup ((kyZ d).map V.int))->Q (.ref p) H'
section
variable{P:Program}{w:World}{K:PySem.W.Frag}{mg:Str->Option Value}{base:Heap}
abbrev gI:Stmt:=top 1
abbrev rV:List Str:=["thing"]
theorem rj:FnScope rV ["thing"] (aj gI):=⟨rfl,rfl,rfl,by decide +kernel,rfl,by decide +kernel,by decide +kernel⟩
theorem qP{f:Addr}{fd:FuncData}(F:Fun K "is_number" "is_number" gI f fd)(z_isinstance:mg "isinstance" = none)(z_int:mg "int" = none)(z_bool:mg "bool" = none) :
  FnOk P w K mg base CX0 1 f fd ["thing"] (nU K):=by
 refine F.okQ rj (fun vs H Q E h=>?_) (fun cdv A outer s H vs Q E hr h=>?_)
 ·obtain⟨v,n,rfl,_⟩:=h;rfl
 obtain⟨v,n,rfl,ty,q⟩:=h;refine⟨_,(b_1 (aw (cQ (q_B cP z_isinstance aH (q_a (q_v 0) (q_a (dX z_int qa) ai))) (cR (Ft (q_B cP z_isinstance aH (q_a (q_v 0) (q_a (dX z_bool fc) ai)))))))),?_⟩
 try rw[cxK]
 refine⟨v,rfl,v,"int",.type n,isI v,rfl,ty,BF ty,_,rfl,?_⟩;refine iw (fun c=>?_) (fun c=>?_)
 ·refine⟨v,rfl,v,"bool",.type n,isB v,rfl,ty,eL ty,_,rfl,?_⟩;have e:(!isB v)=dQ v:=by cases v<;>simp_all [isI,isB,dQ]
  show Q (.bl (!isB v)) H;rw[e];exact q
 ·have e:dQ v=false:=by cases v<;>simp_all [isI,dQ]
  rw[e]at q;exact q
abbrev iJ:Stmt:=top 2
abbrev uB:List Str:=["thing","low"]
theorem sx:FnScope uB ["thing","low"] (aj iJ):=⟨rfl,rfl,rfl,by decide +kernel,rfl,by decide +kernel,by decide +kernel⟩
theorem sk{f:Addr}{fd:FuncData}(F:Fun K "is_whole" "is_whole" iJ f fd)(F_is_number:Fn P w K mg base 1 "is_number" ["thing"] (nU K)):FnOk P w K mg base CX0 2 f fd ["thing","low"] (hW K):=by
 refine F.okQ sx (fun vs H Q E h=>?_) (fun cdv A outer s H vs Q E hr h=>?_)
 ·obtain⟨v,n,lo,rfl,_⟩:=h;rfl
 obtain⟨v,n,lo,rfl,ty,q⟩:=h;refine⟨_,(b_1 (aw (cQ (aL F_is_number (hr.mono (by decide)) (q_a (q_v 0) ai)) (cR (cj zG (q_v 0) (q_v 1)))))),?_⟩
 try rw[cxK]
 refine⟨v,rfl,v,n,rfl,ty,_,rfl,?_⟩;refine iw (fun c=>?_) (fun c=>?_)
 ·cases v with
  |int i=>exact⟨_,rfl,_,rfl,i,lo,rfl,rfl,q⟩
  |_=>cases c
 ·have e:be v lo=false:=by
   cases v with
   |int i=>exact absurd rfl c
   |_=>rfl
  rw[e]at q;exact q
abbrev jl:Stmt:=top 3
abbrev wm:List Str:=["thing","hands"]
theorem vN:FnScope wm ["thing","hands"] (aj jl):=⟨rfl,rfl,rfl,by decide +kernel,rfl,by decide +kernel,by decide +kernel⟩
theorem vw{f:Addr}{fd:FuncData}(F:Fun K "is_name" "is_name" jl f fd)(F_is_whole:Fn P w K mg base 2 "is_whole" ["thing","low"] (hW K))(z_isinstance:mg "isinstance" = none)(z_tuple:mg "tuple" = none)(z_len:mg "len" = none) :
  FnOk P w K mg base CX0 3 f fd ["thing","hands"] (ud K):=by
 refine F.okQ vN (fun vs H Q E h=>?_) (fun cdv A outer s H vs Q E hr h=>?_)
 ·obtain⟨v,h,rfl,_⟩:=h;rfl
 obtain⟨v,h,rfl,⟨⟨n,ty⟩,hx⟩,q⟩:=h;refine⟨_,(b_c (bt (t_w (eU (cG (bR (q_B cP z_isinstance aH (q_a (q_v 0) (q_a (dX z_tuple bU) ai))))) (fJ (bj ng (q_B cC z_len Z9 (q_a (q_v 0) ai)) al)))) (b_1 (aw bP)) b_0)
   (b_1 (aw (cQ (aL F_is_whole (hr.mono (by decide)) (q_a (aC aI (q_v 0) al) (q_a al ai))) (cQ (cj qL (aC aI (q_v 0) al) (q_v 1)) (cR (aL F_is_whole (hr.mono (by decide)) (q_a (aC aI (q_v 0) al) (q_a al ai))))))))),?_⟩
 try rw[cxK]
 refine⟨v,rfl,v,"tuple",.type n,isT H v,rfl,ty,fM ty,_,rfl,?_⟩;cases hT:isT H v with
 |false =>refine aW (aW ?_);rw[(xg (h:=h) ty hT).1]at q;exact q
 |true =>
  obtain⟨a,xs,rfl,hH⟩:=mR hT;obtain⟨hl,hk⟩:=hx a xs rfl hH;rw[bg hH]at q;refine aF ?_;refine⟨_,rfl,a,xs,rfl,.inr (SqT.of hH),rfl,_,rfl,?_⟩;refine lA (fun c=>?_) (fun c=>?_)
  ·have e:pD h (some (.tup xs))=false:=by
    match xs,c with
    | [],_=>rfl
    | [_],_=>rfl
    | [_,_],c=>exact absurd rfl c
    |_::_::_::_,_=>rfl
   rw[e]at q;exact q
  ·obtain⟨x,y,rfl⟩:∃x y,xs=[x,y]:=by
    match xs,c with
    | [x,y],_=>exact⟨x,y,rfl⟩
    | [],c=>simp at c
    | [_],c=>simp at c
    |_::_::_::r,c=>simp at c;omega
   obtain⟨mx,tx⟩:=hk x (by simp);obtain⟨my,ty'⟩:=hk y (by simp);have q':Q (.bl (be x 0&&(ltB x h&&be y 1))) H:=q;refine⟨_,rfl,a,_,_,x,rfl,rfl,SqT.of hH,rfl,x,mx,0,rfl,tx,_,rfl,?_⟩;refine iw (fun c1=>?_) (fun c1=>?_)
   ·cases x with
    |int i =>
     rw[c1,YR]at q';refine⟨_,rfl,a,_,_,.int i,rfl,rfl,SqT.of hH,rfl,_,rfl,_,_,rfl,rfl,_,rfl,?_⟩;refine iw (fun c2=>?_) (fun c2=>?_)
     ·have q2:Q (.bl (decide (i<h)&&be y 1)) H:=q';rw[c2,YR]at q2;exact⟨_,rfl,a,_,_,y,rfl,rfl,SqT.of hH,rfl,y,my,1,rfl,ty',q2⟩
     ·have q2:Q (.bl (decide (i<h)&&be y 1)) H:=q';rw[y4.mpr c2,YB]at q2;exact q2
    |_=>cases c1
   ·rw[y4.mpr c1,YB]at q';exact q'
abbrev iH:Stmt:=top 4
abbrev uy:List Str:=["thing","hands"]
theorem su:FnScope uy ["thing","hands"] (aj iH):=⟨rfl,rfl,rfl,by decide +kernel,rfl,by decide +kernel,by decide +kernel⟩
theorem sh{f:Addr}{fd:FuncData}(F:Fun K "is_clock" "is_clock" iH f fd)(F_is_whole:Fn P w K mg base 2 "is_whole" ["thing","low"] (hW K))(z_isinstance:mg "isinstance" = none)(z_tuple:mg "tuple" = none)(z_len:mg "len" = none)(z_all:mg "all" = none) :
  FnOk P w K mg base CX0 3 f fd ["thing","hands"] (oJ K):=by
 refine F.okQ su (fun vs H Q E h=>?_) (fun cdv A outer s H vs Q E hr h=>?_)
 ·obtain⟨v,h,rfl,_⟩:=h;rfl
 obtain⟨v,h,rfl,⟨⟨n,ty⟩,hx⟩,q⟩:=h;refine⟨_,(b_c (bt (t_w (eU (cG (bR (q_B cP z_isinstance aH (q_a (q_v 0) (q_a (dX z_tuple bU) ai))))) (fJ (bj ng (q_B cC z_len Z9 (q_a (q_v 0) ai)) (q_v 1))))) (b_1 (aw bP)) b_0)
   (b_1 (aw (q_B (jw rfl) z_all dJ (q_a (cJ (own:=["number"]) (⟨rfl,by decide +kernel,by decide +kernel,rfl,trivial⟩:CompOk _ _ [] []) rfl (AU (q_v 0)) (fun _ _ _ _=>aK (i:=0) (show (["number"]:List Str).Nodup by decide +kernel)) (bo (by decide)) (fun _ _ _ _=>fm) (fun _ _ _ _=>(aL F_is_whole (hr.mono (by decide)) (q_a (q_v 0) (q_a al ai))))) ai))))),?_⟩
 try rw[cxK]
 refine⟨v,rfl,v,"tuple",.type n,isT H v,rfl,ty,fM ty,_,rfl,?_⟩;cases hT:isT H v with
 |false =>refine aW (aW ?_);have q':=q H (Same.refl H);rw[(xg (h:=h) ty hT).2]at q';exact q'
 |true =>
  obtain⟨a,xs,rfl,hH⟩:=mR hT;obtain⟨hl,hk⟩:=hx a xs rfl hH;rw[dM hH]at q;have q:∀H',Same H H'->Q (.bl (decide ((xs.length:Int)=h)&&xs.all (fun x=>be x 0))) H':=q;refine aF ?_;refine⟨_,rfl,a,xs,rfl,.inr (SqT.of hH),_,rfl,rfl,_,rfl,?_⟩;refine lA (fun c=>?_) (fun c=>?_)
  ·have q':=q H (Same.refl H);rw[decide_eq_false c,YB]at q';exact q'
  ·refine⟨_,rfl,a,rfl,⟨xs,SqT.of hH⟩,?_⟩;refine qj (xs:=xs) (fun i=>.bl (be ((xs[i]?).getD .non) 0)) hl (SqT.of hH) (fun i x H1 hi sm R k=>?_) (fun p H1 sm hp=>?_)
   ·obtain⟨m,tx⟩:=hk x (List.mem_of_getElem? hi);have k':=k H1 (Same.refl H1);rw[hi]at k';exact⟨x,rfl,x,m,0,rfl,cy sm tx,k'⟩
   ·refine⟨p,(List.range xs.length).map (fun i=>be ((xs[i]?).getD .non) 0),rfl,SqL.of ?_,?_⟩
    ·rw[ad,Yp];rfl
    ·rw[kU (fun x=>be x 0)];have q':=q (upd H1 p (.lst ((List.range xs.length).map (fun i=>V.bl (be ((xs[i]?).getD .non) 0))))) (sm.trans (ah hp _));rw[decide_eq_true c,YR]at q';exact q'
abbrev iI:Stmt:=top 19
abbrev uA:List Str:=["thing"]
theorem sw:FnScope uA ["thing"] (aj iI):=⟨rfl,rfl,rfl,by decide +kernel,rfl,by decide +kernel,by decide +kernel⟩
theorem sj{f:Addr}{fd:FuncData}{tk:Tok}(F:Fun K "is_place" "is_place" iI f fd)(F_is_number:Fn P w K mg base 1 "is_number" ["thing"] (nU K))(z_isinstance:mg "isinstance" = none)(z_tuple:mg "tuple" = none)(z_len:mg "len" = none)(z_all:mg "all" = none)(g_MOST_NUMBERS:mg "MOST_NUMBERS" = some (.int 64 tk)) :
  FnOk P w K mg base CX0 2 f fd ["thing"] (oK K):=by
 refine F.okQ sw (fun vs H Q E h=>?_) (fun cdv A outer s H vs Q E hr h=>?_)
 ·obtain⟨v,rfl,_⟩:=h;rfl
 obtain⟨v,rfl,⟨⟨n,ty⟩,hx⟩,q⟩:=h;refine⟨_,(b_c (bt (t_w (eU (cG (bR (q_B cP z_isinstance aH (q_a (q_v 0) (q_a (dX z_tuple bU) ai))))) (fJ (cG (Cr mZ mZ al (q_B cC z_len Z9 (q_a (q_v 0) ai)) (qW g_MOST_NUMBERS)))))) (b_1 (aw bP)) b_0)
   (b_1 (aw (q_B (jw rfl) z_all dJ (q_a (cJ (own:=["number"]) (⟨rfl,by decide +kernel,by decide +kernel,rfl,trivial⟩:CompOk _ _ [] []) rfl (AU (q_v 0)) (fun _ _ _ _=>aK (i:=0) (show (["number"]:List Str).Nodup by decide +kernel)) (bo (by decide)) (fun _ _ _ _=>fm) (fun _ _ _ _=>(aL F_is_number (hr.mono (by decide)) (q_a (q_v 0) ai)))) ai))))),?_⟩
 try rw[cxK]
 refine⟨v,rfl,v,"tuple",.type n,isT H v,rfl,ty,fM ty,_,rfl,?_⟩;cases hT:isT H v with
 |false =>
  refine aW (aW ?_);have e:fU H v=false:=by
   cases ty with
   |lst z=>exact aY z
   |frz z=>exact aY z
   |tup z=>rw[bJ z (b:=true) rfl]at hT;cases hT
   |dK z=>exact aY z
   |dT z=>exact aY z
   |_=>rfl
  have q':=q H (Same.refl H);rw[e]at q';exact q'
 |true =>
  obtain⟨a,xs,rfl,hH⟩:=mR hT;obtain⟨hl,hk⟩:=hx a xs rfl hH;have eB:fU H (.ref a)=(decide (1<=xs.length)&&decide (xs.length<=64)&&xs.all dQ):=aY hH;rw[eB]at q;refine aF ?_;refine⟨_,rfl,a,xs,rfl,.inr (SqT.of hH),_,_,rfl,rfl,_,rfl,?_⟩;refine iw (fun c=>?_) (fun c=>?_)
  ·have c1:1<=xs.length:=by have:=ZJ c;omega
   refine⟨_,_,rfl,rfl,_,rfl,?_⟩;by_cases c2:xs.length<=64
   ·have e2:decide ((xs.length:Int)<=64)=true:=decide_eq_true (by omega);rw[e2];refine aF ?_;refine⟨_,rfl,a,rfl,⟨xs,SqT.of hH⟩,?_⟩;refine qj (xs:=xs) (fun i=>.bl (dQ ((xs[i]?).getD .non))) hl (SqT.of hH) (fun i x H1 hi sm R k=>?_) (fun p H1 sm hp=>?_)
    ·obtain⟨m,tx⟩:=hk x (List.mem_of_getElem? hi);refine⟨x,rfl,x,m,rfl,cy sm tx,?_⟩;have k':=k H1 (Same.refl H1);rw[hi]at k';exact k'
    ·refine⟨p,(List.range xs.length).map (fun i=>dQ ((xs[i]?).getD .non)),rfl,SqL.of ?_,?_⟩
     ·rw[ad,Yp];rfl
     ·rw[kU dQ];have q':=q (upd H1 p (.lst ((List.range xs.length).map (fun i=>V.bl (dQ ((xs[i]?).getD .non)))))) (sm.trans (ah hp _));rw[decide_eq_true c1,decide_eq_true c2,YR,YR]at q';exact q'
   ·have e2:decide ((xs.length:Int)<=64)=false:=decide_eq_false (by omega);rw[e2];refine aW ?_;have q':=q H (Same.refl H);rw[decide_eq_false c2,Bool.and_false,YB]at q';exact q'
  ·have c1:¬1<=xs.length:=by have:=of_decide_eq_false (y4.mpr c);omega
   refine⟨_,rfl,?_⟩;refine aW ?_;have q':=q H (Same.refl H);rw[decide_eq_false c1,YB,YB]at q';exact q'
abbrev nJ:Stmt:=top 8
abbrev Bq:List Str:=["clock","name"]
theorem Ar:FnScope Bq ["clock","name"] (aj nJ):=⟨rfl,rfl,rfl,by decide +kernel,rfl,by decide +kernel,by decide +kernel⟩
theorem zK{f:Addr}{fd:FuncData}(F:Fun K "tells" "tells" nJ f fd):FnOk P w K mg base CX0 1 f fd ["clock","name"] nV:=by
 refine F.okQ Ar (fun vs H Q E h=>?_) (fun cdv A outer s H vs Q E hr h=>?_)
 ·obtain⟨a,b,xs,i,j,z,rfl,_⟩:=h;rfl
 obtain⟨a,b,xs,i,j,z,rfl,hA,hB,hz,q⟩:=h;refine⟨_,(b_1 (aw (cj zG (aC aI (q_v 0) (aC aI (q_v 1) al)) (aC aI (q_v 1) al)))),?_⟩
 try rw[cxK]
 exact⟨_,rfl,_,rfl,b,_,_,_,rfl,rfl,SqT.of hB,rfl,a,_,_,_,rfl,rfl,SqT.of hA,hz,_,rfl,b,_,_,_,rfl,rfl,SqT.of hB,rfl,_,_,rfl,rfl,q⟩
abbrev eO:Stmt:=top 11
abbrev mC:List Str:=["thing"]
theorem md:FnScope mC ["thing"] (aj eO):=⟨rfl,rfl,rfl,by decide +kernel,rfl,by decide +kernel,by decide +kernel⟩
abbrev fZ:Stmt:=top 12
abbrev pV:List Str:=["word"]
theorem pe:FnScope pV ["word"] (aj fZ):=⟨rfl,rfl,rfl,by decide +kernel,rfl,by decide +kernel,by decide +kernel⟩
theorem lO{f:Addr}{fd:FuncData}(F:Fun K "is_deed_word" "is_deed_word" eO f fd){dd:Addr}(g_DEED_PARTS:mg "DEED_PARTS" = some (.ref dd))(T:Tab K dd DT)(z_isinstance:mg "isinstance" = none)(z_str:mg "str" = none):FnOk P w K mg base CX0 1 f fd ["thing"] (rF K):=by
 refine F.okQ md (fun vs H Q E h=>?_) (fun cdv A outer s H vs Q E hr h=>?_)
 ·obtain⟨v,n,rfl,_⟩:=h;rfl
 obtain⟨v,n,rfl,ty,q0,q⟩:=h;refine⟨_,(b_1 (aw (cQ (q_B cP z_isinstance aH (q_a (q_v 0) (q_a (dX z_str qc) ai))) (cR (cj BJ (q_v 0) (Eb g_DEED_PARTS)))))),?_⟩
 try rw[cxK]
 refine⟨_,rfl,v,"str",.type n,isS v,rfl,ty,tJ ty,_,rfl,?_⟩;refine iw (fun c=>?_) (fun c=>?_)
 ·cases v with
  |str k=>exact⟨_,rfl,dd,k,DT,rfl,rfl,T,q k rfl⟩
  |_=>cases c
 ·exact q0 (y4.mpr c)
theorem oZ{f:Addr}{fd:FuncData}(F:Fun K "deed_parts" "deed_parts" fZ f fd){dd:Addr}(g_DEED_PARTS:mg "DEED_PARTS" = some (.ref dd))(T:Tab K dd DT):FnOk P w K mg base CX0 1 f fd ["word"] (ue K):=by
 refine F.okQ pe (fun vs H Q E h=>?_) (fun cdv A outer s H vs Q E hr h=>?_)
 ·obtain⟨k,ws,rfl,_⟩:=h;rfl
 obtain⟨k,ws,rfl,hk,q⟩:=h;refine⟨_,(b_1 (aw (aC FE (Eb g_DEED_PARTS) (q_v 0)))),?_⟩
 try rw[cxK]
 exact⟨_,rfl,dd,k,DT,tw ws,rfl,rfl,T,hk,q⟩
abbrev jn:Stmt:=top 25
abbrev wo:List Str:=["sign"]
theorem vP:FnScope wo ["sign"] (aj jn):=⟨rfl,rfl,rfl,by decide +kernel,rfl,by decide +kernel,by decide +kernel⟩
theorem vy{f:Addr}{fd:FuncData}{t1 t2 t3:Tok}(F:Fun K "is_sign" "is_sign" jn f fd)(z_ord:mg "ord" = none)(g_FIRST_SIGN:mg "FIRST_SIGN" = some (.int 32 t1))(g_LAST_SIGN:mg "LAST_SIGN" = some (.int 126 t2))(g_PERCENT_SIGN:mg "PERCENT_SIGN" = some (.int 37 t3)):FnOk P w K mg base CX0 1 f fd ["sign"] yj:=by
 refine F.okQ vP (fun vs H Q E h=>?_) (fun cdv A outer s H vs Q E hr h=>?_)
 ·obtain⟨c,rfl,_⟩:=h;rfl
 obtain⟨c,rfl,q⟩:=h;refine⟨_,(b_1 (aw (cQ (Cj mZ mZ (qW g_FIRST_SIGN) (q_B AI z_ord PyProof.Rows.bootS_ord (q_a (q_v 0) ai)) (qW g_LAST_SIGN)) (cR (cj ng (q_B AI z_ord PyProof.Rows.bootS_ord (q_a (q_v 0) ai)) (qW g_PERCENT_SIGN)))))),?_⟩
 try rw[cxK]
 refine⟨_,rfl,c,rfl,_,_,rfl,rfl,_,rfl,?_⟩;unfold jL at q;by_cases c1:(32:Int)<=c
 ·rw[decide_eq_true c1]at q ⊢;refine aW ⟨_,_,rfl,rfl,_,rfl,?_⟩;by_cases c2:(c:Int)<=126
  ·rw[decide_eq_true c2]at q ⊢;refine aW ⟨_,rfl,c,rfl,rfl,?_⟩;have e:decide (V.int (c:Int)=V.int 37)=decide ((c:Int)=37):=by
    by_cases z:(c:Int)=37
    ·rw[z,decide_eq_true rfl,decide_eq_true rfl]
    ·rw[decide_eq_false z,decide_eq_false (fun y=>z (V.int.inj y))]
   rw[e];exact q
  ·rw[decide_eq_false c2]at q ⊢;exact aF q
 ·rw[decide_eq_false c1]at q ⊢;exact aF ⟨_,rfl,aF q⟩
abbrev jo:Stmt:=top 24
abbrev wq:List Str:=["thing"]
theorem vQ:FnScope wq ["thing"] (aj jo):=⟨rfl,rfl,rfl,by decide +kernel,rfl,by decide +kernel,by decide +kernel⟩
theorem yd(x:Str):(((List.range x.cps.size).map fun i=>jL (x.cps.getD i 0)).all id)=hU x:=by
 unfold hU;rw[List.all_map,YF,Z6,Z6];constructor
 ·intro h c hc;obtain⟨i,hi,rfl⟩:=List.getElem_of_mem hc;have hi':i<x.cps.size:=by simpa using hi
  have:=h i (ZL.mpr hi');simpa[ZT,hi']using this
 ·intro h i hi;have hi':=ZL.mp hi;have:=h x.cps[i] (by simp);simpa[ZT,hi']using this
theorem vA{f:Addr}{fd:FuncData}(F:Fun K "is_text" "is_text" jo f fd)(F_is_sign:Fn P w K mg base 1 "is_sign" ["sign"] yj)(z_isinstance:mg "isinstance" = none)(z_str:mg "str" = none)(z_all:mg "all" = none):FnOk P w K mg base CX0 2 f fd ["thing"] (rD K):=by
 refine F.okQ vQ (fun vs H Q E h=>?_) (fun cdv A outer s H vs Q E hr h=>?_)
 ·obtain⟨v,rfl,_⟩:=h;rfl
 obtain⟨v,rfl,h⟩:=h;refine⟨_,(b_1 (aw (cQ (q_B cP z_isinstance aH (q_a (q_v 0) (q_a (dX z_str qc) ai))) (cR (q_B (jw rfl) z_all dJ (q_a (cJ (own:=["sign"]) (⟨rfl,by decide +kernel,by decide +kernel,rfl,trivial⟩:CompOk _ _ [] []) rfl (E1 (q_v 0)) (fun _ _ _ _=>aK (i:=0) (show(["sign"]:List Str).Nodup by decide +kernel)) (bo (by decide)) (fun _ _ _ _=>fm) (fun _ _ _ _=>(aL F_is_sign (hr.mono (by decide)) (q_a (q_v 0) ai)))) ai)))))),?_⟩
 try rw[cxK]
 rcases h with⟨n,ty,hs,q⟩|⟨x,rfl,hl,ha,q⟩
 ·refine⟨_,rfl,v,"str",.type n,isS v,rfl,ty,tJ ty,_,rfl,?_⟩;rw[hs];exact aF q
 ·refine⟨_,rfl,.str x,"str",.type "str",true,rfl,.str _,bq (b:=true) (by decide +kernel) (fun z=>nomatch z),_,rfl,aW ⟨_,rfl,x,rfl,ha,?_⟩⟩;refine yW (x:=x) (fun i=>.bl (jL (x.cps.getD i 0))) hl (fun i c H1 hi sm R k=>?_) (fun p H1 sm hp=>?_)
  ·have e:x.cps.getD i 0=c:=by rw[ZT,hi];rfl
   rw[e]at k;exact⟨_,rfl,c,rfl,k H1 (Same.refl H1)⟩
  ·refine⟨p,(List.range x.cps.size).map (fun i=>jL (x.cps.getD i 0)),rfl,SqL.of (by rw[ad,Yp];rfl),?_⟩;rw[yd];exact q _ (sm.trans (ah hp _))
abbrev jk:Stmt:=top 30
abbrev wj:List Str:=["thing","hands"]
theorem vM:FnScope wj ["thing","hands"] (aj jk):=⟨rfl,rfl,rfl,by decide +kernel,rfl,by decide +kernel,by decide +kernel⟩
theorem vt{f:Addr}{fd:FuncData}(F:Fun K "is_hand" "is_hand" jk f fd)(F_is_whole:Fn P w K mg base 2 "is_whole" ["thing","low"] (hW K)):FnOk P w K mg base CX0 3 f fd ["thing","hands"] (rB K):=by
 refine F.okQ vM (fun vs H Q E h=>?_) (fun cdv A outer s H vs Q E hr h=>?_)
 ·obtain⟨v,n,h,rfl,_⟩:=h;rfl
 obtain⟨v,n,h,rfl,ty,q⟩:=h;refine⟨_,(b_1 (aw (cQ (aL F_is_whole (hr.mono (by decide)) (q_a (q_v 0) (q_a al ai))) (cR (cj qL (q_v 0) (q_v 1)))))),?_⟩
 try rw[cxK]
 refine⟨_,rfl,v,n,0,rfl,ty,_,rfl,?_⟩;refine iw (fun c=>?_) (fun c=>?_)
 ·cases v with
  |int i =>rw[c,YR]at q;exact⟨_,rfl,_,rfl,i,h,rfl,rfl,q⟩
  |_=>cases c
 ·rw[y4.mpr c,YB]at q;exact q
abbrev eA:Stmt:=top 33
abbrev kT:List Str:=["thing","hand","clock"]
theorem kG:FnScope kT ["thing","hand","clock"] (aj eA):=⟨rfl,rfl,rfl,by decide +kernel,rfl,by decide +kernel,by decide +kernel⟩
theorem ko{f:Addr}{fd:FuncData}(F:Fun K "is_known_item" "is_known_item" eA f fd)(F_is_name:Fn P w K mg base 3 "is_name" ["thing","hands"] (ud K))(F_tells:Fn P w K mg base 1 "tells" ["clock","name"] nV)(z_len:mg "len" = none):FnOk P w K mg base CX0 4 f fd ["thing","hand","clock"] (uc K):=by
 refine F.okQ kG (fun vs H Q E h=>?_) (fun cdv A outer s H vs Q E hr h=>?_)
 ·obtain⟨v,b,c,hd,ns,rfl,_⟩:=h;rfl
 obtain⟨v,b,c,hd,ns,rfl,hC,d0,d1,r,q⟩:=h;refine⟨_,(b_1 (aw (cQ (aL F_is_name (hr.mono (by decide)) (q_a (q_v 0) (q_a (q_B cC z_len Z9 (q_a (q_v 2) ai)) ai))) (cQ (aL F_tells (hr.mono (by decide)) (q_a (q_v 2) (q_a (q_v 0) ai))) (cR (cj (qM hr.units) (q_v 0) (bX (q_a (q_v 1) (q_a (aC aI (q_v 2) (q_v 1)) ai))))))))),?_⟩
 try rw[cxK]
 cases r with
 |no a e =>refine⟨_,rfl,_,rfl,c,_,rfl,.inr (SqT.of hC),v,_,rfl,a,_,rfl,?_⟩;rw[z9,e];exact aF (q H (Same.refl H))
 |@is a i j e =>
  refine⟨_,rfl,_,rfl,c,_,rfl,.inr (SqT.of hC),.ref a,_,rfl,oj e (Nat.le_of_ble_eq_true rfl) (fun x hx=>?_),_,rfl,?_⟩
  ·simp only[Zs,ZX,YH]at hx;rcases hx with rfl|rfl
   ·exact⟨_,.int _⟩
   ·exact⟨_,.int _⟩
  rw[z9,bg e];have e':H a=some (.tup ([i,j].map V.int)):=e;unfold xp at q;show if(decide (0<=i)&&(decide (i<(ns.length:Int))&&decide (1<=j)))=true then _ else _
  by_cases c1:(decide (0<=i)&&(decide (i<(ns.length:Int))&&decide (1<=j)))=true
  ·rw[c1]at q ⊢;simp only[ZN,Y0]at c1;obtain⟨i0,i1,j1⟩:=c1;refine aW ⟨_,rfl,_,rfl,c,a,_,i,j,_,rfl,hC,e,cS i0 i1,_,rfl,?_⟩;by_cases c2:j<=ag ns i.toNat
   ·rw[decide_eq_true c2]at q ⊢;refine aW ⟨_,rfl,_,rfl,_,rfl,_,rfl,c,_,_,_,rfl,rfl,SqT.of hC,cS d0 d1,sz rfl,fun p g=>?_⟩;have w1:=ah g (.tup [.int hd,.int (ag ns hd.toNat)]);exact⟨a,p,[i,j],nmL hd ns,rfl,rfl,w1 _ _ e',ad,q _ w1⟩
   ·rw[decide_eq_false c2]at q ⊢;exact aF (q H (Same.refl H))
  ·rw[Bool.not_eq_true]at c1;rw[c1]at q ⊢;exact aF (q H (Same.refl H))
abbrev jm:Stmt:=top 32
abbrev wn:List Str:=["kind","part","hand","clock"]
theorem vO:FnScope wn ["kind","part","hand","clock"] (aj jm):=⟨rfl,rfl,rfl,by decide +kernel,rfl,by decide +kernel,by decide +kernel⟩
theorem vx{f:Addr}{fd:FuncData}{tk:Tok}(F:Fun K "is_part" "is_part" jm f fd)(F_is_known_item:Fn P w K mg base 4 "is_known_item" ["thing","hand","clock"] (uc K))(F_is_place:Fn P w K mg base 2 "is_place" ["thing"] (oK K))(F_is_text:Fn P w K mg base 2 "is_text" ["thing"] (rD K))(F_is_hand:Fn P w K mg base 3 "is_hand" ["thing","hands"] (rB K))(F_is_whole:Fn P w K mg base 2 "is_whole" ["thing","low"] (hW K))(z_isinstance:mg "isinstance" = none)(z_bool:mg "bool" = none)(z_len:mg "len" = none)(g_MOST_SIGNS:mg "MOST_SIGNS" = some (.int 60 tk)):FnOk P w K mg base CX0 5 f fd ["kind","part","hand","clock"] (rC K):=by
 refine F.okQ vO (fun vs H Q E h=>?_) (fun cdv A outer s H vs Q E hr h=>?_)
 ·obtain⟨k,v,b,c,hd,ns,rfl,_⟩:=h;rfl
 obtain⟨k,v,b,c,hd,ns,rfl,hC,d0,d1,hp,q⟩:=h;refine⟨_,(b_c (bt (bj fu (q_v 0) eX) (b_1 (aw (aL F_is_known_item (hr.mono (by decide)) (q_a (q_v 1) (q_a (q_v 2) (q_a (q_v 3) ai)))))) b_0)
   (b_c (bt (bj fu (q_v 0) eX) (b_1 (aw (Ed (cj AZ (q_v 1) vG) (cR (aL F_is_known_item (hr.mono (by decide)) (q_a (q_v 1) (q_a (q_v 2) (q_a (q_v 3) ai)))))))) b_0)
   (b_c (bt (bj fu (q_v 0) eX) (b_1 (aw (aL F_is_place (hr.mono (by decide)) (q_a (q_v 1) ai)))) b_0)
   (b_c (bt (bj fu (q_v 0) eX) (b_1 (aw (cQ (aL F_is_text (hr.mono (by decide)) (q_a (q_v 1) ai)) (cR (cj mZ (q_B CM z_len Z9 (q_a (q_v 1) ai)) (qW g_MOST_SIGNS)))))) b_0)
   (b_c (bt (bj fu (q_v 0) eX) (b_1 (aw (q_B cP z_isinstance aH (q_a (q_v 1) (q_a (dX z_bool fc) ai))))) b_0)
   (b_c (bt (bj fu (q_v 0) eX) (b_1 (aw (Ed (cj AZ (q_v 1) vG) (cR (aL F_is_hand (hr.mono (by decide)) (q_a (q_v 1) (q_a (q_B cC z_len Z9 (q_a (q_v 3) ai)) ai))))))) b_0)
   (b_c (bt (bj fu (q_v 0) eX) (b_1 (aw (aL F_is_whole (hr.mono (by decide)) (q_a (q_v 1) (q_a al ai))))) b_0)
   (b_1 (aw (cQ (aL F_is_whole (hr.mono (by decide)) (q_a (q_v 1) (q_a al ai))) (cR (cj qL (q_v 1) (aC aI (q_v 3) (q_v 2)))))))))))))),?_⟩
 try rw[cxK]
 have q0:=q H (Same.refl H);cases hp with
 |it r=>exact⟨_,rfl,rfl,_,rfl,gF ⟨_,rfl,_,rfl,_,rfl,v,b,c,hd,ns,rfl,hC,d0,d1,r,q⟩⟩
 |u0=>exact⟨_,rfl,rfl,_,rfl,aT (by decide +kernel) ⟨_,rfl,rfl,_,rfl,gF ⟨_,rfl,rfl,_,rfl,pA rfl q0⟩⟩⟩
 |up hv r=>exact⟨_,rfl,rfl,_,rfl,aT (by decide +kernel) ⟨_,rfl,rfl,_,rfl,gF ⟨_,rfl,rfl,_,rfl,AW hv ⟨_,rfl,_,rfl,_,rfl,v,b,c,hd,ns,rfl,hC,d0,d1,r,q⟩⟩⟩⟩
 |pl a e =>subst e;exact⟨_,rfl,rfl,_,rfl,aT (by decide +kernel) ⟨_,rfl,rfl,_,rfl,aT (by decide +kernel) ⟨_,rfl,rfl,_,rfl,gF ⟨_,rfl,v,rfl,a,q⟩⟩⟩⟩
 |@tx x _ hl ha e =>
  refine⟨_,rfl,rfl,_,rfl,aT (by decide +kernel) ⟨_,rfl,rfl,_,rfl,aT (by decide +kernel) ⟨_,rfl,rfl,_,rfl,aT (by decide +kernel) ⟨_,rfl,rfl,_,rfl,gF ⟨_,rfl,.str x,rfl,.inr ⟨x,rfl,hl,ha,fun H1 s1=>⟨_,rfl,?_⟩⟩⟩⟩⟩⟩⟩;have q1:=q H1 s1;rw[<-e]at q1;by_cases c1:hU x=true
  ·rw[c1,YR]at q1;rw[c1];refine aW ⟨_,rfl,x,rfl,hl,_,_,rfl,rfl,?_⟩;have e2:decide ((x.length:Int)<=60)=decide (x.length<=60):=by
    by_cases z:x.length<=60
    ·rw[decide_eq_true z,decide_eq_true (by omega)]
    ·rw[decide_eq_false z,decide_eq_false (by omega)]
   rw[<-e2]at q1;exact q1
  ·rw[Bool.not_eq_true]at c1;rw[c1,YB]at q1;rw[c1];exact aF q1
 |@tn _ n ty hs=>exact⟨_,rfl,rfl,_,rfl,aT (by decide +kernel) ⟨_,rfl,rfl,_,rfl,aT (by decide +kernel) ⟨_,rfl,rfl,_,rfl,aT (by decide +kernel) ⟨_,rfl,rfl,_,rfl,gF ⟨_,rfl,v,rfl,.inl ⟨n,ty,hs,⟨_,rfl,aF q0⟩⟩⟩⟩⟩⟩⟩
 |@bl _ n _ ty e =>subst e;exact⟨_,rfl,rfl,_,rfl,aT (by decide +kernel) ⟨_,rfl,rfl,_,rfl,aT (by decide +kernel) ⟨_,rfl,rfl,_,rfl,aT (by decide +kernel) ⟨_,rfl,rfl,_,rfl,aT (by decide +kernel) ⟨_,rfl,rfl,_,rfl,gF ⟨_,rfl,v,"bool",.type n,isB v,rfl,ty,eL ty,q0⟩⟩⟩⟩⟩⟩
 |w0=>exact⟨_,rfl,rfl,_,rfl,aT (by decide +kernel) ⟨_,rfl,rfl,_,rfl,aT (by decide +kernel) ⟨_,rfl,rfl,_,rfl,aT (by decide +kernel) ⟨_,rfl,rfl,_,rfl,aT (by decide +kernel) ⟨_,rfl,rfl,_,rfl,aT (by decide +kernel) ⟨_,rfl,rfl,_,rfl,gF ⟨_,rfl,rfl,_,rfl,pA rfl q0⟩⟩⟩⟩⟩⟩⟩
 |@wh _ n _ hv ty e =>subst e;refine⟨_,rfl,rfl,_,rfl,aT (by decide +kernel) ⟨_,rfl,rfl,_,rfl,aT (by decide +kernel) ⟨_,rfl,rfl,_,rfl,aT (by decide +kernel) ⟨_,rfl,rfl,_,rfl,aT (by decide +kernel) ⟨_,rfl,rfl,_,rfl,aT (by decide +kernel) ⟨_,rfl,rfl,_,rfl,gF ⟨_,rfl,rfl,_,rfl,AW hv ⟨_,rfl,_,rfl,c,_,rfl,.inr (SqT.of hC),v,n,_,rfl,ty,?_⟩⟩⟩⟩⟩⟩⟩⟩;rw[z9];exact q0
 |@«at» _ n _ ty e =>subst e;exact⟨_,rfl,rfl,_,rfl,aT (by decide +kernel) ⟨_,rfl,rfl,_,rfl,aT (by decide +kernel) ⟨_,rfl,rfl,_,rfl,aT (by decide +kernel) ⟨_,rfl,rfl,_,rfl,aT (by decide +kernel) ⟨_,rfl,rfl,_,rfl,aT (by decide +kernel) ⟨_,rfl,rfl,_,rfl,aT (by decide +kernel) ⟨_,rfl,rfl,_,rfl,gF ⟨_,rfl,v,n,0,rfl,ty,q0⟩⟩⟩⟩⟩⟩⟩⟩
 |@nu _ n _ ty e =>
  subst e;refine⟨_,rfl,rfl,_,rfl,aT (by decide +kernel) ⟨_,rfl,rfl,_,rfl,aT (by decide +kernel) ⟨_,rfl,rfl,_,rfl,aT (by decide +kernel) ⟨_,rfl,rfl,_,rfl,aT (by decide +kernel) ⟨_,rfl,rfl,_,rfl,aT (by decide +kernel) ⟨_,rfl,rfl,_,rfl,aT (by decide +kernel) ⟨_,rfl,rfl,_,rfl,aT (by decide +kernel) ⟨_,rfl,v,n,1,rfl,ty,_,rfl,?_⟩⟩⟩⟩⟩⟩⟩⟩;refine iw (fun c1=>?_) (fun c1=>?_)
  ·cases v with
   |int i =>rw[c1,YR]at q0;exact⟨_,rfl,_,rfl,_,rfl,c,_,_,_,rfl,rfl,SqT.of hC,cS d0 d1,_,_,rfl,rfl,q0⟩
   |_=>cases c1
  ·rw[y4.mpr c1,YB]at q0;exact q0
abbrev jp:Stmt:=top 31
abbrev wx:List Str:=["thing","hand","clock","kinds"]
theorem me:FnScope wx ["thing","hand","clock"] (aj jp):=⟨rfl,rfl,rfl,by decide +kernel,rfl,by decide +kernel,by decide +kernel⟩
theorem vB{f:Addr}{fd:FuncData}(F:Fun K "is_what" "is_what" jp f fd)(F_is_deed_word:Fn P w K mg base 1 "is_deed_word" ["thing"] (rF K))(F_deed_parts:Fn P w K mg base 1 "deed_parts" ["word"] (ue K))(F_is_part:Fn P w K mg base 5 "is_part" ["kind","part","hand","clock"] (rC K))(z_isinstance:mg "isinstance" = none)(z_tuple:mg "tuple" = none)(z_len:mg "len" = none)(z_all:mg "all" = none)(z_zip:mg "zip" = none):FnOk P w K mg base CX0 6 f fd ["thing","hand","clock"] (rE K):=by
 refine F.okQ me (fun vs H Q E h=>?_) (fun cdv A outer s H vs Q E hr h=>?_)
 ·obtain⟨v,b,c,hd,ns,rfl,_⟩:=h;rfl
 obtain⟨v,b,c,hd,ns,rfl,hC,d0,d1,r,q⟩:=h;refine⟨_,(b_c (bt (t_w (eU (cG (bR (q_B cP z_isinstance aH (q_a (q_v 0) (q_a (dX z_tuple bU) ai))))) (eU (bj fu (q_B cC z_len Z9 (q_a (q_v 0) ai)) al) (fJ (cG (bR (aL F_is_deed_word (hr.mono (by decide)) (q_a (aC aI (q_v 0) al) ai)))))))) (b_1 (aw bP)) b_0)
   (b_c (bh (i:=3) me.nd (aL F_deed_parts (hr.mono (by decide)) (q_a (aC aI (q_v 0) al) ai)))
   (b_c (bt (bj ng (q_B cC z_len Z9 (q_a (q_v 0) ai)) (aX dW (q_B cC z_len Z9 (q_a (q_v 3) ai)) al)) (b_1 (aw bP)) b_0)
   (b_1 (aw (q_B (jw rfl) z_all dJ (q_a (cJ (own:=["kind","part"]) (⟨rfl,by decide +kernel,by decide +kernel,rfl,⟨rfl,rfl,⟨rfl,rfl,trivial⟩⟩⟩:CompOk _ _ [1,2] ["hand","clock"]) rfl (AV z_zip (q_a (q_v 3) (q_a (qX qE (q_v 0) (nC al) vH) ai))) (fun _ _ _ _=>wZ (K:=K) (n:=2) rfl rfl (gC (aK (i:=0) (show (["kind","part","hand","clock"]:List Str).Nodup by decide +kernel)) (gC (aK (i:=1) (show (["kind","part","hand","clock"]:List Str).Nodup by decide +kernel)) qv))) (xa (iq (bo (by decide)) fK (iq (bo (by decide)) fK tq jy) (qu fK jy))) (fun _ _ _ _=>fm) (fun _ _ _ _=>(aL F_is_part (hr.mono (by decide)) (q_a (q_v 0) (q_a (q_v 1) (q_a (q_v 2) (q_a (q_v 3) ai))))))) ai))))))),?_⟩
 try rw[cxK]
 have q0:=q H (Same.refl H);have isT1:∀{t:Addr} {xs:List V},H t=some (.tup xs)->TyOf K H (.ref t) (.type "tuple"):=fun e=>.tup e;cases r with
 |@flat _ n ty hT =>refine⟨_,rfl,v,"tuple",.type n,isT H v,rfl,ty,fM ty,_,rfl,?_⟩;rw[hT];exact aW (aW q0)
 |@emp t e =>refine⟨_,rfl,.ref t,"tuple",.type "tuple",true,rfl,.tup e,bq (b:=true) (by decide +kernel) (fun z=>nomatch z),_,rfl,aF ?_⟩;exact⟨_,rfl,t,_,rfl,.inr (SqT.of e),rfl,_,rfl,pA rfl q0⟩
 |@noStr t x n ps e ty hs =>refine⟨_,rfl,.ref t,"tuple",.type "tuple",true,rfl,.tup e,bq (b:=true) (by decide +kernel) (fun z=>nomatch z),_,rfl,aF ?_⟩;refine⟨_,rfl,t,_,rfl,.inr (SqT.of e),rfl,_,rfl,aT (fun z=>by injection z with z;rw[Zt]at z;omega) ?_⟩;exact⟨_,rfl,t,_,_,_,rfl,rfl,SqT.of e,mH,x,n,rfl,ty,fun _=>⟨_,rfl,aW q0⟩,fun k hk=>by subst hk;cases hs⟩
 |@noWord t k ps e hk =>refine⟨_,rfl,.ref t,"tuple",.type "tuple",true,rfl,.tup e,bq (b:=true) (by decide +kernel) (fun z=>nomatch z),_,rfl,aF ?_⟩;refine⟨_,rfl,t,_,rfl,.inr (SqT.of e),rfl,_,rfl,aT (fun z=>by injection z with z;rw[Zt]at z;omega) ?_⟩;refine⟨_,rfl,t,_,_,_,rfl,rfl,SqT.of e,mH,.str k,"str",rfl,.str k,(fun z=>nomatch z),fun k' hk'=>⟨_,rfl,?_⟩⟩;cases hk';rw[hk];exact aW q0
 |@len t k ps ks e hk hl =>refine⟨_,rfl,.ref t,"tuple",.type "tuple",true,rfl,.tup e,bq (b:=true) (by decide +kernel) (fun z=>nomatch z),_,rfl,aF ?_⟩;refine⟨_,rfl,t,_,rfl,.inr (SqT.of e),rfl,_,rfl,aT (fun z=>by injection z with z;rw[Zt]at z;omega) ?_⟩;refine⟨_,rfl,t,_,_,_,rfl,rfl,SqT.of e,mH,.str k,"str",rfl,.str k,(fun z=>nomatch z),fun k' hk'=>⟨_,rfl,?_⟩⟩;cases hk';rw[hk];refine aF ?_;refine⟨_,rfl,t,_,_,_,rfl,rfl,SqT.of e,mH,k,ks.map nm,rfl,hk,fun y hy=>?_⟩;refine⟨_,rfl,t,_,rfl,.inr (SqT.of e),_,rfl,y,_,rfl,.inr (hy H),_,_,rfl,rfl,rfl,_,rfl,lA (fun _=>q0) (fun z=>?_)⟩;rw[Zt,z9,z9]at z;exact absurd (by omega) hl
 |@is t k ps ks bs _ e hk l3 hp hb =>
  subst hb;obtain⟨lw,lb,hpp⟩:=id hp;refine⟨_,rfl,.ref t,"tuple",.type "tuple",true,rfl,.tup e,bq (b:=true) (by decide +kernel) (fun z=>nomatch z),_,rfl,aF ?_⟩;refine⟨_,rfl,t,_,rfl,.inr (SqT.of e),rfl,_,rfl,aT (fun z=>by injection z with z;rw[Zt]at z;omega) ?_⟩;refine⟨_,rfl,t,_,_,_,rfl,rfl,SqT.of e,mH,.str k,"str",rfl,.str k,(fun z=>nomatch z),fun k' hk'=>⟨_,rfl,?_⟩⟩;cases hk';rw[hk];refine aF ?_;refine⟨_,rfl,t,_,_,_,rfl,rfl,SqT.of e,mH,k,ks.map nm,rfl,hk,fun y hy=>?_⟩;refine⟨_,rfl,t,_,rfl,.inr (SqT.of e),_,rfl,y,_,rfl,.inr (hy H),_,_,rfl,rfl,rfl,_,rfl,lC (by rw[Zt,z9,z9,lw];rfl) ?_⟩;have cv:cK (V.str k::ps) (some 1) none=ps:=by unfold cK;rw[HT.sIx_none,jh (by decide),Zt,show((1:Int).toNat)=1 from rfl,Nat.min_eq_left (by omega),List.drop_succ_cons,List.drop_zero,Yf (by omega)]
  refine⟨_,rfl,_,rfl,_,rfl,t,_,rfl,e,fun z H0 w1 ez=>?_⟩;rw[cv]at ez;refine⟨y,z,_,_,rfl,hy _,SqT.of ez,by rw[z9,z9,lw],?_⟩;refine qk (fun i=>.bl ((bs[i]?).getD true)) (by rw[z9,z9];omega) (hy _) (SqT.of ez) (by rw[z9,z9,lw]) (fun i x v H1 hx hv sm R kk=>?_) (fun p H1 sm hp1=>?_)
  ·obtain⟨kd,hkd,rfl⟩:∃kd,ks[i]?=some kd/\x=.str (nm kd):=by
    rw[Zv,Zv]at hx;cases e:ks[i]? with
    |none=>rw[e]at hx;cases hx
    |some kd=>rw[e]at hx;cases hx;exact⟨kd,rfl,rfl⟩
   have hi:i<bs.length:=by rw[lb];exact(Zy.mp hv).1
   have hb:bs[i]?=some bs[i]:=Zb hi;have pb:=(hpp i kd v bs[i] hkd hv hb).same (w1.trans sm);rw[hb]at kk;exact⟨_,rfl,_,rfl,_,rfl,_,rfl,kd,v,bs[i],c,hd,ns,rfl,sm _ _ (w1 _ _ hC),d0,d1,pb,fun H2 s2=>kk H2 s2⟩
  ·refine⟨p,(List.range ((ks.map nm).map V.str).length).map (fun i=>(bs[i]?).getD true),rfl,SqL.of (by rw[ad];simp only[Yp];rfl),?_⟩;have e:((List.range ((ks.map nm).map V.str).length).map fun i=>(bs[i]?).getD true)=bs:=by rw[z9,z9,lw,<-lb];refine List.ext_getElem (by simp) fun i h1 h2=>?_;simp[h2]
   rw[e];exact q _ (w1.trans (sm.trans (ah hp1 _)))
abbrev jj:Stmt:=top 29
abbrev wg:List Str:=["thing","hands"]
theorem vL:FnScope wg ["thing","hands"] (aj jj):=⟨rfl,rfl,rfl,by decide +kernel,rfl,by decide +kernel,by decide +kernel⟩
theorem lj{H:Hp}{c:Addr}{ns:List Int}(e:H c=some (.tup (ns.map V.int)))(hl:ns.length<=1000):Asked K H (.ref c):=oj e (by rw[z9];exact hl) (fun x hx=>by
 obtain⟨n,_,rfl⟩:=Zl.mp hx;exact⟨_,.int n⟩)
theorem ox{H:Hp}{c:Addr}{ns:List Int}{h:Int}(e:H c=some (.tup (ns.map V.int)))(hl:(ns.length:Int)=h)(hn:∀n∈ns,0<=n):iQ H h (.ref c)=true:=by rw[dM e];show(decide (((ns.map V.int).length:Int)=h)&&(ns.map V.int).all (fun x=>be x 0))=true;rw[z9,decide_eq_true hl,YR,Z6];intro x hx;obtain⟨n,hm,rfl⟩:=Zl.mp hx;exact decide_eq_true (hn n hm)
theorem vq{f:Addr}{fd:FuncData}(F:Fun K "is_deed" "is_deed" jj f fd)(F_is_hand:Fn P w K mg base 3 "is_hand" ["thing","hands"] (rB K))(F_is_clock:Fn P w K mg base 3 "is_clock" ["thing","hands"] (oJ K))(F_is_what:Fn P w K mg base 6 "is_what" ["thing","hand","clock"] (rE K))(z_isinstance:mg "isinstance" = none)(z_tuple:mg "tuple" = none)(z_len:mg "len" = none):FnOk P w K mg base CX0 7 f fd ["thing","hands"] (rA K):=by
 refine F.okQ vL (fun vs H Q E h=>?_) (fun cdv A outer s H vs Q E hr h=>?_)
 ·obtain⟨v,b,h,rfl,_⟩:=h;rfl
 obtain⟨v,b,h,rfl,r,q⟩:=h;refine⟨_,(b_c (bt (t_w (eU (cG (bR (q_B cP z_isinstance aH (q_a (q_v 0) (q_a (dX z_tuple bU) ai))))) (fJ (bj ng (q_B cC z_len Z9 (q_a (q_v 0) ai)) al)))) (b_1 (aw bP)) b_0)
   (b_c (bt (t_w (eU (cG (bR (aL F_is_hand (hr.mono (by decide)) (q_a (aC aI (q_v 0) al) (q_a (q_v 1) ai))))) (fJ (cG (bR (aL F_is_clock (hr.mono (by decide)) (q_a (aC aI (q_v 0) al) (q_a (q_v 1) ai)))))))) (b_1 (aw bP)) b_0)
   (b_1 (aw (cQ (cj zG (aC aI (aC aI (q_v 0) al) (aC aI (q_v 0) al)) al) (cR (aL F_is_what (hr.mono (by decide)) (q_a (aC aI (q_v 0) al) (q_a (aC aI (q_v 0) al) (q_a (aC aI (q_v 0) al) ai)))))))))),?_⟩
 try rw[cxK]
 have q0:=q H (Same.refl H);cases r with
 |@flat _ n ty hT =>refine⟨_,rfl,v,"tuple",.type n,isT H v,rfl,ty,fM ty,_,rfl,?_⟩;rw[hT];exact aW (aW q0)
 |@len a xs e hl =>refine⟨_,rfl,.ref a,"tuple",.type "tuple",true,rfl,.tup e,bq (b:=true) (by decide +kernel) (fun z=>nomatch z),_,rfl,aF ?_⟩;refine⟨_,rfl,a,_,rfl,.inr (SqT.of e),rfl,_,rfl,lA (fun _=>q0) (fun z=>absurd (by omega) hl)⟩
 |@hand a x y z n e ty hx =>refine⟨_,rfl,.ref a,"tuple",.type "tuple",true,rfl,.tup e,bq (b:=true) (by decide +kernel) (fun z=>nomatch z),_,rfl,aF ?_⟩;refine⟨_,rfl,a,_,rfl,.inr (SqT.of e),rfl,_,rfl,lC rfl ?_⟩;refine⟨_,rfl,a,_,_,_,rfl,rfl,SqT.of e,rfl,_,rfl,x,n,h,rfl,ty,_,rfl,?_⟩;rw[hx];exact aW (aW q0)
 |@clock a i y z e i0 i1 ay hc =>refine⟨_,rfl,.ref a,"tuple",.type "tuple",true,rfl,.tup e,bq (b:=true) (by decide +kernel) (fun z=>nomatch z),_,rfl,aF ?_⟩;refine⟨_,rfl,a,_,rfl,.inr (SqT.of e),rfl,_,rfl,lC rfl ?_⟩;refine⟨_,rfl,a,_,_,_,rfl,rfl,SqT.of e,rfl,_,rfl,.int i,"int",h,rfl,.int i,_,rfl,?_⟩;rw[show(be (.int i) 0&&ltB (.int i) h)=true by show(decide (0<=i)&&decide (i<h))=true;rw[decide_eq_true i0,decide_eq_true i1];rfl];refine aF ?_;refine⟨_,rfl,a,_,_,_,rfl,rfl,SqT.of e,rfl,_,rfl,y,h,rfl,ay,fun H1 s1=>⟨_,rfl,?_⟩⟩;rw[hc];exact aW (q H1 s1)
 |@zero a c i ns z e i0 i1 ec hl hn h8 h0 =>refine⟨_,rfl,.ref a,"tuple",.type "tuple",true,rfl,.tup e,bq (b:=true) (by decide +kernel) (fun z=>nomatch z),_,rfl,aF ?_⟩;refine⟨_,rfl,a,_,rfl,.inr (SqT.of e),rfl,_,rfl,lC rfl ?_⟩;refine⟨_,rfl,a,_,_,_,rfl,rfl,SqT.of e,rfl,_,rfl,.int i,"int",h,rfl,.int i,_,rfl,?_⟩;rw[show(be (.int i) 0&&ltB (.int i) h)=true by show(decide (0<=i)&&decide (i<h))=true;rw[decide_eq_true i0,decide_eq_true i1];rfl];refine aF ?_;refine⟨_,rfl,a,_,_,_,rfl,rfl,SqT.of e,rfl,_,rfl,.ref c,h,rfl,lj ec (by omega),fun H1 s1=>⟨_,rfl,?_⟩⟩;rw[ox ec hl hn];refine aF ?_;have f1:=s1 _ _ e;refine⟨_,rfl,a,_,_,_,rfl,rfl,SqT.of f1,rfl,_,rfl,a,_,_,_,rfl,rfl,SqT.of f1,rfl,c,_,_,_,rfl,rfl,SqT.of (s1 _ _ ec),cS i0 (by omega),_,_,rfl,rfl,_,rfl,?_⟩;rw[decide_eq_false (by omega)];exact aF (q H1 s1)
 |@is a c i ns z _ e i0 i1 ec hl hn h8 h1 wr =>refine⟨_,rfl,.ref a,"tuple",.type "tuple",true,rfl,.tup e,bq (b:=true) (by decide +kernel) (fun z=>nomatch z),_,rfl,aF ?_⟩;refine⟨_,rfl,a,_,rfl,.inr (SqT.of e),rfl,_,rfl,lC rfl ?_⟩;refine⟨_,rfl,a,_,_,_,rfl,rfl,SqT.of e,rfl,_,rfl,.int i,"int",h,rfl,.int i,_,rfl,?_⟩;rw[show(be (.int i) 0&&ltB (.int i) h)=true by show(decide (0<=i)&&decide (i<h))=true;rw[decide_eq_true i0,decide_eq_true i1];rfl];refine aF ?_;refine⟨_,rfl,a,_,_,_,rfl,rfl,SqT.of e,rfl,_,rfl,.ref c,h,rfl,lj ec (by omega),fun H1 s1=>⟨_,rfl,?_⟩⟩;rw[ox ec hl hn];refine aF ?_;have f1:=s1 _ _ e;refine⟨_,rfl,a,_,_,_,rfl,rfl,SqT.of f1,rfl,_,rfl,a,_,_,_,rfl,rfl,SqT.of f1,rfl,c,_,_,_,rfl,rfl,SqT.of (s1 _ _ ec),cS i0 (by omega),_,_,rfl,rfl,_,rfl,?_⟩;rw[decide_eq_true h1];refine aW ⟨_,rfl,a,_,_,_,rfl,rfl,SqT.of f1,rfl,_,rfl,a,_,_,_,rfl,rfl,SqT.of f1,rfl,_,rfl,a,_,_,_,rfl,rfl,SqT.of f1,rfl,?_⟩;exact⟨z,_,c,i,ns,rfl,s1 _ _ ec,i0,by omega,wr.same s1,fun H2 s2=>q H2 (s1.trans s2)⟩
abbrev kC:Stmt:=top 6
abbrev yJ:List Str:=["one","other"]
theorem yb:FnScope yJ ["one","other"] (aj kC):=⟨rfl,rfl,rfl,by decide +kernel,rfl,by decide +kernel,by decide +kernel⟩
theorem xH{f:Addr}{fd:FuncData}(F:Fun K "within" "within" kC f fd)(z_all:mg "all" = none)(z_zip:mg "zip" = none):FnOk P w K mg base CX0 1 f fd ["one","other"] rL:=by
 refine F.okQ yb (fun vs H Q E h=>?_) (fun cdv A outer s H vs Q E hr h=>?_)
 ·obtain⟨a,b,ns,ms,rfl,_⟩:=h;rfl
 obtain⟨a,b,ns,ms,rfl,hA,hB,hl,h8,q⟩:=h;refine⟨_,(b_1 (aw (q_B (jw rfl) z_all dJ (q_a (cJ (own:=["mine","yours"]) (⟨rfl,by decide +kernel,by decide +kernel,rfl,trivial⟩:CompOk _ _ [] []) rfl (AV z_zip (q_a (q_v 0) (q_a (q_v 1) ai))) (fun _ _ _ _=>wZ (K:=K) (n:=2) rfl rfl (gC (aK (i:=0) (show(["mine","yours"]:List Str).Nodup by decide +kernel)) (gC (aK (i:=1) (show(["mine","yours"]:List Str).Nodup by decide +kernel)) qv))) (xa (iq (bo (by decide)) fK (iq (bo (by decide)) fK tq jy) (qu fK jy))) (fun _ _ _ _=>fm) (fun _ _ _ _=>(cj mZ (q_v 0) (q_v 1)))) ai)))),?_⟩
 try rw[cxK]
 refine⟨_,rfl,_,rfl,a,b,_,_,rfl,SqT.of hA,SqT.of hB,by rw[z9,z9,hl],?_⟩;refine qk (fun i=>.bl (decide (ag ns i<=ag ms i))) (by rw[z9];omega) (SqT.of hA) (SqT.of hB) (by rw[z9,z9,hl]) (fun i x y H1 hx hy sm R k=>?_) (fun p H1 sm hp=>?_)
 ·obtain⟨rfl,_⟩:=iu hx;obtain⟨rfl,_⟩:=iu hy;exact⟨_,rfl,_,rfl,_,_,rfl,rfl,k H1 (Same.refl H1)⟩
 ·rw[z9];refine⟨p,(List.range ns.length).map fun i=>decide (ag ns i<=ag ms i),rfl,SqL.of ?_,q _ (sm.trans (ah hp _))⟩;rw[ad,Yp];rfl
abbrev jq:Stmt:=top 28
abbrev wy:List Str:=["deed"]
theorem vR:FnScope wy ["deed"] (aj jq):=⟨rfl,rfl,rfl,by decide +kernel,rfl,by decide +kernel,by decide +kernel⟩
theorem vC{f:Addr}{fd:FuncData}(F:Fun K "name_of" "name_of" jq f fd):FnOk P w K mg base CX0 1 f fd ["deed"] eG:=by
 refine F.okQ vR (fun vs H Q E h=>?_) (fun cdv A outer s H vs Q E hr h=>?_)
 ·obtain⟨a,d,rfl,_⟩:=h;rfl
 obtain⟨a,d,rfl,⟨c,v,e1,e2,e3,e4,_⟩,q⟩:=h;refine⟨_,(b_1 (aw (bX (q_a (aC aI (q_v 0) al) (q_a (aC aI (aC aI (q_v 0) al) (aC aI (q_v 0) al)) ai))))),?_⟩
 try rw[cxK]
 refine⟨_,rfl,a,_,_,_,rfl,rfl,SqT.of e1,rfl,_,rfl,a,_,_,_,rfl,rfl,SqT.of e1,rfl,_,rfl,a,_,_,_,rfl,rfl,SqT.of e1,rfl,c,_,_,_,rfl,rfl,SqT.of e2,dG e4,sz rfl,fun p g=>?_⟩;exact q p _ (ah g _) ad
abbrev fz:Stmt:=top 37
abbrev oS:List Str:=["deed","name","ready"]
theorem nQ:FnScope oS ["deed","name","ready"] (aj fz):=⟨rfl,rfl,rfl,by decide +kernel,rfl,by decide +kernel,by decide +kernel⟩
theorem nq{f:Addr}{fd:FuncData}(F:Fun K "is_answered" "is_answered" fz f fd)(F_within:Fn P w K mg base 1 "within" ["one","other"] rL):FnOk P w K mg base CX0 2 f fd ["deed","name","ready"] ye:=by
 refine F.okQ nQ (fun vs H Q E h=>?_) (fun cdv A outer s H vs Q E hr h=>?_)
 ·obtain⟨a,nm,r,d,i,R,n,rfl,_⟩:=h;rfl
 obtain⟨a,nm,r,d,i,R,n,rfl,hd,hn,hr',hR,hRn,hdn,q⟩:=h;have key:iP H r (.ref nm) (bw (aM R) [.inl (i:Int),.inl (aB d i)]):=.inr ⟨aM R,[.inl (i:Int),.inl (aB d i)],nm,.inl hr',rfl,hn,rfl⟩;obtain⟨c,v,d1,d2,d3,d4,d5⟩:=id hd;refine⟨_,(b_1 (aw (cQ (A4 hr.units (q_v 1) (q_v 2)) (cR (aL F_within (hr.mono (by decide)) (q_a (aC aI (qV hr.units (q_v 2) (q_v 1)) al) (q_a (aC aI (q_v 0) al) ai))))))),?_⟩
 try rw[cxK]
 rw[jM]at key;unfold gB at q;rw[wR]at q;cases hf:R.find? (fun x=>decide (nmK x.2=[.inl (i:Int),.inl (aB d i)]))with
 |none =>rw[hf]at key q;refine⟨_,rfl,_,rfl,r,_,rfl,key,false,rfl,aF ?_⟩;exact q H (Same.refl H)
 |some x =>rw[hf]at key q;have hm:=List.mem_of_find?_eq_some hf;obtain⟨c',v',f1,f2,f3,f4,f5⟩:=hR x hm;refine⟨_,rfl,_,rfl,r,_,rfl,key,true,rfl,aW ?_⟩;refine⟨_,rfl,_,rfl,r,_,rfl,key,x.1,_,_,_,rfl,rfl,SqT.of f1,at1,_,rfl,a,_,_,_,rfl,rfl,SqT.of d1,at1,c',c,x.2.ns,d.ns,rfl,f2,d2,by rw[hRn x hm,hdn],f5,fun H' s'=>?_⟩;exact q H' s'
abbrev iG:Stmt:=top 36
abbrev ux:List Str:=["deed","names","hand","number","last"]
theorem dj:FnScope ux ["deed"] (aj iG):=⟨rfl,rfl,rfl,by decide +kernel,rfl,by decide +kernel,by decide +kernel⟩
theorem oB(d:Dd)(k:Nat):(List.range (k+1)).filter (fun i=>decide (aB d i>0))=(List.range k).filter (fun i=>decide (aB d i>0))++if aB d k>0 then[k]else[]:=by
 rw[List.range_succ,YI];congr 1;by_cases c:aB d k>0
 ·rw[if_pos c,List.filter_cons,if_pos (by simpa using c),List.filter_nil]
 ·rw[if_neg c,List.filter_cons,if_neg (by simpa using c),List.filter_nil]
theorem NA.snoc{H H':Hp}{d:Dd}{as:List Addr}{is:List Nat}{b:Addr}{i:Nat}(h:NA H d as is)(t:TS H H')(hb:H' b=some (.tup ([(i:Int),aB d i].map V.int))):NA H' d (as++[b]) (is++[i]):=by
 refine⟨by simp[h.1],fun k c j h1 h2=>?_⟩;rcases ZY k as.length with c1|c1
 ·rw[Yd c1]at h1;rw[Yd (by rw[<-h.1];exact c1)]at h2;exact t _ _ (h.2 k c j h1 h2)
 ·rw[Z1 c1]at h1;rw[Z1 (by rw[<-h.1];exact c1),<-h.1]at h2;have e:k-as.length=0:=by have:=(Zy.mp h1).1;simp at this;omega
  rw[e]at h1 h2;cases h1;cases h2;exact hb
theorem NA.ts{H H':Hp}{d:Dd}{as:List Addr}{is:List Nat}(h:NA H d as is)(t:TS H H'):NA H' d as is:=⟨h.1,fun k c j h1 h2=>t _ _ (h.2 k c j h1 h2)⟩
theorem sg{f:Addr}{fd:FuncData}(F:Fun K "asked_by" "asked_by" iG f fd)(z_enumerate:mg "enumerate" = none):FnOk P w K mg base CX0 1 f fd ["deed"] tY:=by
 refine F.okQ dj (fun vs H Q E h=>?_) (fun cdv A outer s H vs Q E hr h=>?_)
 ·obtain⟨a,d,rfl,_⟩:=h;rfl
 obtain⟨a,d,rfl,hd,q⟩:=h;obtain⟨c,v,e1,e2,e3,e4,e5⟩:=id hd;refine⟨_,(b_c (bh (i:=1) dj.nd (lS ai))
   (b_c (cZ Yg rfl (BB z_enumerate (q_a (aC aI (q_v 0) al) ai)) (pq rfl (gC (aK (i:=2) dj.nd) (gC (aK (i:=3) dj.nd) qv))) (b_c (bh (i:=4) dj.nd (FU (bj fu (q_v 2) (aC aI (q_v 0) al)) (aX lL (q_v 3) al) (q_v 3)))
   (b_1 (bt (bj Di (q_v 4) al) (b_1 (xY (A3 (q_v 1) (bX (q_a (q_v 2) (q_a (q_v 4) ai)))))) b_0))))
   (b_1 (aw (q_v 1))))),?_⟩
 try rw[cxK]
 refine⟨sz rfl,fun p g=>?_⟩;have s0:=ah g (.lst []);refine⟨_,rfl,a,_,_,_,rfl,rfl,SqT.of (s0 _ _ e1),at1,c,_,rfl,s0 _ _ e2,?_⟩;refine wT (i:=2) (j:=3) (fun k σ H'=>Same H H'/\(∃o2 o3 o4,σ=[some (.ref a),some (.ref p),o2,o3,o4])/\∃as,H' p=some (.lst (as.map V.ref))/\NA H' d as ((List.range k).filter fun i=>decide (aB d i>0))) ⟨s0,⟨none,none,none,rfl⟩,[],ad,rfl,fun k b i h1=>by simp at h1⟩ (fun i σ H' _ ⟨sm,_⟩=>SqT.of (sm _ _ e2)) (fun k x σ H1 hx ⟨sm,⟨o2,o3,o4,eσ⟩,as,hp,na⟩ T hT=>?_) (fun σ H1 ⟨sm,⟨o2,o3,o4,eσ⟩,as,hp,na⟩=>?_)
 ·subst eσ;obtain⟨rfl,hk⟩:=iu hx;have sT:=ah hT (.tup [.int (k:Int),.int (ag d.ns k)]);have m1:=sT _ _ (sm _ _ e1);have pT:=sT _ _ hp;have go:∀(z:Int) (D:Ends),z=aB d k->(∀σ' H',(Same H H'/\(∃o2 o3 o4,σ'=[some (.ref a),some (.ref p),o2,o3,o4])/\∃as,H' p=some (.lst (as.map V.ref))/\NA H' d as ((List.range (k+1)).filter fun i=>decide (aB d i>0)))->D.nx σ' H') ->
    Aw (mn (tOp (rI0 fun i j=>V.bl (decide (j<i))) (kK 4) (tC (V.int 0)))) (vW (tBM K "list" nE (kK 1) (eZ (Ax (eZ (kK 2) (eZ (kK 4) gK))) gK))) vY D [some (.ref a),some (.ref p),some (.int (k:Int)),some (.int (ag d.ns k)),some (.int z)] (upd H1 T (.tup [.int (k:Int),.int (ag d.ns k)])):=fun z D hz hD=>by
   refine⟨_,rfl,_,_,rfl,rfl,_,rfl,zj (fun hc=>?_) fun hc=>?_⟩
   ·refine⟨_,rfl,.inl ⟨rfl,_,SqL.of pT⟩,_,rfl,_,rfl,sz rfl,fun b gb=>?_⟩;have sB:=ah gb (.tup [.int (k:Int),.int z]);have pB:=sB _ _ pT;refine⟨p,_,_,rfl,rfl,pB,?_,?_⟩
    ·have:=na.1;have l1:((List.range k).filter fun i=>decide (aB d i>0)).length<=k:=by have:=Yk (fun i=>decide (aB d i>0)) (List.range k);rw[ZI]at this;exact this
     rw[z9];exact du (by omega)
    ·refine hD _ _ ⟨?_,⟨_,_,_,rfl⟩,as++[b],?_,?_⟩
     ·exact fun b' o hb=>by rw[af (am hb g)];exact sB _ _ (sT _ _ (sm _ _ hb))
     ·rw[ad,Zx];rfl
     ·rw[oB,if_pos (by omega)];refine na.snoc ?_ ?_
      ·exact(Same.ts sT).trans ((Same.ts sB).trans (rN fun zs e=>by rw[pB]at e;cases e))
      ·rw[af (fun e=>by rw[<-e,ad]at pB;cases pB),ad,hz];rfl
   ·refine hD _ _ ⟨sm.trans sT,⟨_,_,_,rfl⟩,as,pT,?_⟩;rw[oB,if_neg (by omega),ZF];exact na.ts (Same.ts sT)
  refine⟨_,rfl,_,rfl,a,_,_,_,rfl,rfl,SqT.of m1,at0,rfl,_,rfl,C3 (fun ek=>?_) fun ek=>?_⟩
  ·refine⟨_,rfl,_,_,rfl,rfl,go _ _ ?_ fun σ' H' z=>z⟩;unfold aB;rw[if_pos (by omega)]
  ·refine⟨_,rfl,go _ _ ?_ fun σ' H' z=>z⟩;unfold aB;rw[if_neg (by omega)]
 ·subst eσ;exact⟨_,rfl,q p H1 as sm hp (by unfold dF;rw[z9]at na;exact na)⟩
abbrev fF:Stmt:=top 35
abbrev uC:List Str:=["deeds","ready","deed"]
theorem gJ:FnScope uC ["deeds"] (aj fF):=⟨rfl,rfl,rfl,by decide +kernel,rfl,by decide +kernel,by decide +kernel⟩
abbrev bv:Str:=(("ready_of":Str)++".<locals>.")++"<lambda>"
def E2:Stmt->Expr
 |.For _ it _ _ _=>it
 |.Assign _ e _=>e
 |_=>.Name "" ⟨0,0,0,0⟩
def FS:Expr->Expr
 |.Call _ _ (k::_) _=>k.value
 |e=>e
def FR:Expr->Expr
 |.Lambda _ b _ _=>b
 |e=>e
def FT:Expr->Scope
 |.Lambda _ _ s _=>s
 |_=>default
def bA:Expr->Pos
 |.Lambda _ _ _ p=>p
 |_=>⟨0,0,0,0⟩
abbrev br:Expr:=FS (E2 ((bF fF).getD 1 (.Pass ⟨0,0,0,0⟩)))
theorem oW(z_sum:mg "sum" = none):LamOk P w K mg base 1 bv (FR br) (FT br) "each" vU:=by
 refine⟨["each"],⟨rfl,rfl,rfl,by decide +kernel,rfl,by decide +kernel,by decide +kernel⟩,fun vs H Q E h=>?_,fun f c' A outer s H vs Q E hr h=>?_⟩
 ·obtain⟨a,d,rfl,_⟩:=h;rfl
 obtain⟨a,d,rfl,⟨c,v,e1,e2,e3,e4,e5⟩,q⟩:=h;refine⟨_,(bX (q_a (q_B (wA (K:=K) rfl rfl) z_sum PyProof.Rows.boot_sum (q_a (aC aI (q_v 0) al) ai)) (q_a (aC aI (q_v 0) al) ai))),?_⟩;refine⟨_,rfl,a,_,_,_,rfl,rfl,SqT.of e1,at1,c,d.ns,rfl,SqT.of e2,_,rfl,a,_,_,_,rfl,rfl,SqT.of e1,at0,sz rfl,fun p g=>?_⟩;exact q p _ (ah g _) ad
def uf(T:Addr):Sp:=fun vs H Q _=>∃(l:Addr) (L:LT) (n:Nat),vs=[.ref l]/\LR H l L/\L.length<=63/\n<=8/\UN n (vals L)/\aE bv T (bA br) H /\
 ∀D H' (S:LT),S.Perm L->((vals S).Pairwise fun d e=>¬kLt e d)->SameT T H H'->aE bv T (bA br) H'->H' D=some (.lst (ax (aU S S.length)))->H D=none->Q (.ref D) H'
theorem ao{q:Str}{T:Addr}{pos:Pos}{H H':Hp}(h:aE q T pos H)(s:Same H H'):aE q T pos H':=by obtain⟨ps,e1,e2,e3⟩:=h;exact⟨ps,s _ _ e1,e2,e3.imp id fun⟨c,z1,z2⟩=>⟨c,z1,s _ _ z2⟩⟩
theorem dR{q:Str}{T r:Addr}{pos:Pos}{H H':Hp}(h:aE q T pos H)(s:SameT r H H')(hr:∀f,H r=some f->(∀ps,f≠.tbl ps)/\∀c,f≠iY c q):aE q T pos H':=by obtain⟨ps,e1,e2,e3⟩:=h;exact⟨ps,s _ _ e1 fun z=>(hr _ (by rw[<-z];exact e1)).1 ps rfl,e2,e3.imp id fun⟨c,z1,z2⟩=>⟨c,z1,s _ _ z2 fun z=>(hr _ (by rw[<-z];exact z2)).2 c rfl⟩⟩
theorem EE{q:Str}{T:Addr}{pos:Pos}{H:Hp}(h:aE q T pos H):∀zs,H T≠some (.tup zs):=fun zs e=>by obtain⟨ps,e1,_⟩:=h;rw[e1]at e;cases e
theorem oH{L:LT}{is:List Nat}(h:∀i∈is,i<L.length):(is.map fun i=>(ax L).getD i .non)=ax (is.map fun i=>L.getD i (0,D0)):=by unfold ax;rw[Yp];apply List.map_congr_left;intro i hi;have hl:=h i hi;simp[hl]
theorem sq{f c0 T:Addr}{fd:FuncData}(F:Fun K "ready_of" "ready_of" fF f fd)(hcode:fd.code=.ref c0)(C:CodeHd base c0 T)(B:Blt base mg)(F_asked_by:Fn P w K mg base 1 "asked_by" ["deed"] tY)(F_is_answered:Fn P w K mg base 2 "is_answered" ["deed","name","ready"] ye)(F_name_of:Fn P w K mg base 1 "name_of" ["deed"] eG)(z_sum:mg "sum" = none)(z_sorted:mg "sorted" = none)(z_all:mg "all" = none)(z_list:mg "list" = none):FnOk P w K mg base CX0 5 f fd ["deeds"] (uf T):=by
 refine F.okC hcode gJ (fun vs H Q E h=>?_) (fun A outer s H vs Q E hr h=>?_)
 ·obtain⟨l,L,n,rfl,_⟩:=h;rfl
 obtain⟨l,L,n,rfl,hL,hz,hn,hg,tab,q⟩:=h;refine⟨_,(b_c (bh (i:=1) gJ.nd vF)
   (b_c (cZ Yg rfl (bV (Ae rfl z_sorted rfl C B (oW z_sum) (hr.mono (by decide)) (q_a (q_v 0) ai))) (aK (i:=2) gJ.nd) (b_1 (bt (bR (q_B (jw rfl) z_all dJ (q_a (cJ (own:=["name"]) (⟨rfl,by decide +kernel,by decide +kernel,rfl,⟨rfl,rfl,⟨rfl,rfl,trivial⟩⟩⟩:CompOk _ _ [2,1] ["deed","ready"]) rfl (bV (aL F_asked_by (hr.mono (by decide)) (q_a (q_v 2) ai))) (fun _ _ _ _=>aK (i:=0) (show (["name","deed","ready"]:List Str).Nodup by decide +kernel)) (bo (by decide)) (fun _ _ _ _=>fm) (fun _ _ _ _=>(aL F_is_answered (hr.mono (by decide)) (q_a (q_v 1) (q_a (q_v 0) (q_a (q_v 2) ai)))))) ai))) (b_1 (hM hr.units (q_v 1) (aL F_name_of (hr.mono (by decide)) (q_a (q_v 2) ai)) (q_v 2))) b_0)))
   (b_1 (aw (qU (sO rfl) z_list ow (q_a (xT (q_v 1)) ai)))))),?_⟩
 try rw[cxK]
 intro r gr;have s0:=ah gr (.dT []);have er0:upd H r (.dT []) r=some (.dT []):=ad;generalize upd H r (.dT [])=H0 at s0 er0 ⊢;have L0:=hL.same s0;have tab0:=ao tab s0;have nt0:=EE tab0;have rT:r≠T:=fun z=>by obtain⟨ps,e1,_⟩:=tab;rw[z,e1]at gr;cases gr
 refine⟨_,rfl,l,ax L,L.map fun x=>ZKey.t (kyZ x.2),rfl,.inl L0.1,tab0,by rw[aR];omega,by rw[aR,z9],.inr fun k hk=>?_,fun i v key H' hv hkey sT R kR=>?_,fun p H2 D hp hls sT tab2 gD=>?_⟩
 ·obtain⟨x,_,rfl⟩:=Zl.mp hk;exact⟨_,rfl,by simp[kyZ]⟩
 ·obtain⟨hi,rfl⟩:=iE hv;rw[Zv,Zb hi]at hkey;cases hkey;exact⟨_,_,rfl,(L0.2 _ (ZC hi)).ts (kD nt0 sT),fun p' H'' s'' e''=>kR (.ref p') H'' s'' ⟨p',rfl,e''⟩⟩
 ·rw[aR]at hp hls;have pl:∀i∈p.toList,i<L.length:=fun i hi=>by have:=(hp.mem_iff).mp (Array.mem_toList_iff.mp hi);simpa using this
  rw[oH pl];have so:=sC (f:=Prod.snd) (z:=((0,D0):Addr×Dd)) hp (by rw[Yp]at hls;exact hls);generalize(p.toList.map fun i=>L.getD i (0,D0))=M at so ⊢;obtain⟨sM,pM⟩:=so;have gM:UN n (vals M):=hg.perm (pM.symm.map Prod.snd);have lM:M.length=L.length:=pM.length_eq;have er2:H2 r=some (.dT []):=sT _ _ er0 rT;have s3:=ah gD (.lst (ax M));have eD:upd H2 D (.lst (ax M)) D=some (.lst (ax M)):=ad;have er3:=s3 _ _ er2;have nt2:=kD nt0 sT;have M3:∀x∈M,DR (upd H2 D (.lst (ax M))) x.1 x.2:=fun x hx=>(L0.2 x (pM.mem_iff.mp hx)).ts (nt2.trans (Same.ts s3));have tab3:=ao tab2 s3;have all3:SameT T H (upd H2 D (.lst (ax M))):=fun b o e hb=>s3 _ _ (sT _ _ (s0 _ _ e) hb);have hD0:H D=none:=by
   cases e:H D with
   |none=>rfl
   |some o =>
    by_cases z:D=T
    ·obtain⟨ps,e1,_⟩:=tab2;rw[<-z,gD]at e1;cases e1
    ·have:=sT _ _ (s0 _ _ e) z;rw[gD]at this;cases this
  have nDr:D≠r:=fun z=>by rw[z,er2]at gD;cases gD
  generalize upd H2 D (.lst (ax M))=H3 at *;refine⟨D,rfl,⟨_,SqL.of eD⟩,qo (fun k σ H'=>(∃o2,σ=[some (.ref l),some (.ref r),o2])/\SameT r H3 H'/\H' r=some (.dT (aM (aU M k)))) ⟨⟨none,rfl⟩,fun b o e _=>e,er3⟩ (fun i σ H' _ ⟨_,sr,_⟩=>SqL.of (sr _ _ eD nDr)) (fun k x σ H4 hx ⟨⟨o2,eσ⟩,sr,hr4⟩=>?_) (fun σ H4 ⟨⟨o2,eσ⟩,sr,hr4⟩=>?_)⟩
  ·subst eσ;obtain⟨hk,rfl⟩:=iE hx;have t4:TS H3 H4:=kD (fun zs e=>by rw[er3]at e;cases e) sr;have M4:∀x∈M,DR H4 x.1 x.2:=fun x hx=>(M3 x hx).ts t4;have dk:=M4 _ (ZC hk);have mk:M[k].2∈vals M:=Zl.mpr ⟨M[k],ZC hk,rfl⟩;refine⟨_,rfl,M[k].1,M[k].2,rfl,dk,fun p1 H5 as s5 e5 na=>?_⟩;have la:as.length<=8:=by rw[na.1];unfold dF;have:=Yk (fun i=>decide (aB M[k].2 i>0)) (List.range M[k].2.ns.length);rw[ZI]at this;have l8:=(gM.len _ mk).1;omega
   have sub:=(bZ M k (by omega)).trans (ZH k M);refine⟨p1,rfl,⟨_,SqL.of e5⟩,wI (fun j=>.bl (gB (vals (aU M k)) M[k].2 ((dF M[k].2).getD j 0))) (by rw[z9];omega) (SqL.of e5) (fun j x H6 hx s6 R kR=>?_) (fun p2 H6 s6 g6=>?_)⟩
   ·rw[Zv]at hx;obtain⟨b,hb,rfl⟩:=Ys.mp hx;have hj:j<(dF M[k].2).length:=by rw[<-na.1];exact(Zy.mp hb).1
    have ej:(dF M[k].2).getD j 0=(dF M[k].2)[j]:=by simp[hj]
    have hbn:=s6 _ _ (na.2 j b _ hb (Zb hj));rw[<-ej]at hbn;have hr6:=s6 _ _ (s5 _ _ hr4);have t6:TS H4 H6:=(Same.ts s5).trans (Same.ts s6);exact⟨_,rfl,_,rfl,_,rfl,M[k].1,b,r,M[k].2,(dF M[k].2).getD j 0,aU M k,n,rfl,dk.ts t6,hbn,hr6,fun x hx=>(M4 x (sub.subset hx)).ts t6,fun x hx=>(gM.len _ (Zl.mpr ⟨x,sub.subset hx,rfl⟩)).1,(gM.len _ mk).1,fun H' s'=>kR H' s'⟩
   ·have S6:=s6.trans (ah g6 (.lst ((List.range (as.map V.ref).length).map fun j=>V.bl (gB (vals (aU M k)) M[k].2 ((dF M[k].2).getD j 0)))));refine⟨p2,(List.range (as.map V.ref).length).map fun j=>gB (vals (aU M k)) M[k].2 ((dF M[k].2).getD j 0),rfl,SqL.of (by rw[ad,Yp];rfl),?_⟩;have ea:((List.range (as.map V.ref).length).map fun j=>gB (vals (aU M k)) M[k].2 ((dF M[k].2).getD j 0)).all id=mF (vals (aU M k)) M[k].2:=by unfold mF;rw[z9,na.1,<-dP (dF M[k].2) 0,List.all_map,List.all_map,dP];rfl
    rw[ea];generalize upd H6 p2 (.lst ((List.range (as.map V.ref).length).map fun j=>V.bl (gB (vals (aU M k)) M[k].2 ((dF M[k].2).getD j 0))))=H7 at S6 ⊢;have S7:=s5.trans S6;have hr7:=S7 _ _ hr4;refine⟨_,rfl,?_⟩;have e1:aU M (k+1)=fH (aU M k) M[k]:=dI hk;unfold fH at e1;by_cases ac:mF (vals (aU M k)) M[k].2=true
    ·rw[if_pos ac]at e1;rw[ac];refine aW ⟨_,rfl,_,rfl,_,rfl,M[k].1,M[k].2,rfl,dk.ts (Same.ts S7),fun p3 H8 s8 e8=>?_⟩;have hr8:=s8 _ _ hr7;have vn:bw (aM (aU M k)) (nmK M[k].2)=none:=by
      rw[jM];have:(aU M k).find? (fun x=>decide (nmK x.2=nmK M[k].2))=none:=by rw[List.find?_eq_none];intro y hy;obtain⟨j,hj,rfl⟩:=ZG.mp ((bZ M k (by omega)).subset hy);rw[ZE]at hj;rw[YL];have u:=gM.uni;rw[Zw]at u;have:=u j k (by rw[eS];omega) (by rw[eS];exact hk) (by omega);simp only[vals,List.getElem_map]at this;simpa using this
      rw[this];rfl
     have lk:(aM (aU M k)).length<=63:=by unfold aM;rw[z9];have:=sub.length_le;omega
     refine⟨r,_,rfl,.inr ⟨_,nmK M[k].2,p3,hr8,rfl,e8,Yo lk (by rw[x9];decide),rfl⟩,⟨_,rfl⟩,fun b o e hb=>?_,?_⟩
     ·rw[af hb];exact s8 _ _ (S7 _ _ (sr _ _ e hb))
     ·rw[ad,iD _ vn,e1];congr 2;unfold aM;rw[Zx];rfl
    ·rw[if_neg ac]at e1;rw[y4.mpr ac];refine aF ⟨⟨_,rfl⟩,fun b o e hb=>S7 _ _ (sr _ _ e hb),?_⟩;rw[e1];exact hr7
  ·subst eσ;rw[aR]at hr4;refine⟨_,rfl,r,_,rfl,hr4,fun v gv=>?_⟩;have sv:=ah gv (eJ v (jN r));refine⟨v,r,_,rfl,ad,sv _ _ hr4,fun l2 g2=>?_⟩;have s2:=ah g2 (.lst ((aM (aU M M.length)).map (·.2)));have rb:SameT r H3 (upd (upd H4 v (eJ v (jN r))) l2 (.lst ((aM (aU M M.length)).map (·.2)))):=fun b o e hb=>s2 _ _ (sv _ _ (sr _ _ e hb));have hl2:H l2=none:=by
    cases e:H l2 with
    |none=>rfl
    |some o =>
     have hb:l2≠r:=fun z=>by rw[z,gr]at e;cases e
     by_cases z:l2=T
     ·obtain⟨ps,e1,_⟩:=tab3;rw[<-z]at e1;have:=sv _ _ (sr _ _ e1 hb);rw[g2]at this;cases this
     ·have:=sv _ _ (sr _ _ (all3 _ _ e z) hb);rw[g2]at this;cases this
   refine q l2 _ M pM sM (fun b o e hb=>?_) (dR tab3 rb fun f' hf'=>?_) ?_ hl2
   ·refine rb _ _ (all3 _ _ e hb) fun z=>?_;rw[z,gr]at e;cases e
   ·rw[er3]at hf';cases hf';exact⟨fun ps e=>(by cases e),fun c e=>(by cases e)⟩
   ·rw[ad];congr 2;unfold aM ax;rw[Yp];rfl
theorem wH{J:L2.It}{N n:Nat}{cap:List Nat}{g:TG}{tc:TT}{te:TE}{σ:St}{H0:Hp}{Q:VK}(Pv:Nat->List V->Hp->Prop)(hz:N<=1000)(hn:∀i ys H,Pv i ys H->ys.length<=i)(h0:Pv 0 [] H0)(hgo:∀i ys H,i<N->Pv i ys H->J.go i H)(hst:∀ys H,Pv N ys H->J.stop N H)(ht:∀i ys H x H',i<N->Pv i ys H->J.yld i H x H'->∀Y:List V->Hp->Prop,(∀zs H4,Pv (i+1) zs H4->Y zs H4)->g x (bu n cap σ) H' fun σ2 H2=>tc σ2 H2 fun b H3=>if b=true then te σ2 H3 fun y H4=>Y (ys++[y]) H4 else Y ys H3)(hq:∀ys p H,Pv N ys H->H p=none->Q (.ref p) (upd H p (.lst ys))):cz n cap g tc te σ J H0 Q:=by
 refine⟨fun i m ys H=>m=N-i/\i<=N/\Pv i ys H,⟨N,by simp,ZZ _,h0⟩,?_⟩;rintro i m ys H ⟨rfl,hi,pv⟩;by_cases hlt:i<N
 ·refine .inr ⟨hgo i ys H hlt pv,?_,fun x H' y=>?_⟩
  ·have:=hn i ys H pv;exact Yo (ZV this (by omega)) (show 1000<sizeLine by decide)
  ·exact ht i ys H x H' hlt pv y (fun ys H4=>∃m',m'<N-i/\m'=N-(i+1)/\i+1<=N/\Pv (i+1) ys H4) fun zs H4 z=>⟨N-(i+1),by omega,rfl,hlt,z⟩
 ·have e:i=N:=by omega
  subst e;exact .inl ⟨hst ys H pv,fun p hp=>hq ys p H pv hp⟩
theorem ii{K:PySem.W.Frag}{a:Addr}{xs:List V}{n:Nat}{cap:List Nat}{g:TG}{tc:TT}{te:TE}{σ:St}{H0:Hp}{Q:VK}(Pv:Nat->List V->Hp->Prop)(hz:xs.length<=1000)(hn:∀i ys H,Pv i ys H->ys.length<=i)(h0:Pv 0 [] H0)(hl:∀i ys H,Pv i ys H->SqL K H a xs)(ht:∀i ys H x,xs[i]?=some x->Pv i ys H->∀Y:List V->Hp->Prop,(∀zs H4,Pv (i+1) zs H4->Y zs H4)->g x (bu n cap σ) H fun σ2 H2=>tc σ2 H2 fun b H3=>if b=true then te σ2 H3 fun y H4=>Y (ys++[y]) H4 else Y ys H3)(hq:∀ys p H,Pv xs.length ys H->H p=none->Q (.ref p) (upd H p (.lst ys))):cz n cap g tc te σ (Itl K a) H0 Q:=by refine wH (N:=xs.length) Pv hz hn h0 (fun i ys H hi z=>⟨xs,xs[i],hl i ys H z,by simp[hi]⟩) (fun ys H z=>⟨xs,hl _ ys H z,Ze _⟩) (fun i ys H x H' hi z y Y hY=>?_) hq;obtain rfl:H'=H:=y.1;exact ht i ys H' x (y.2 xs (hl i ys H' z)) z Y hY
theorem EZ:¬(("hands":Str)="deeds"):=by decide +kernel
def fj(n:Nat)(d:Addr):List (Str×V):=cO "deeds" (.ref d) (cO "hands" (.int (n:Int)) [])
theorem kX(n:Nat)(d:Addr):(fj n d).lookup ("hands":Str)=some (.int (n:Int)):=by unfold fj;rw[ce,if_neg EZ,ce,if_pos rfl]
theorem cX(n:Nat)(d:Addr):(fj n d).lookup ("deeds":Str)=some (.ref d):=by unfold fj;rw[ce,if_pos rfl]
structure StoreAt(C:Addr)(H:Hp)(p d:Addr)(n:Nat)(L:LT):Prop where
 ob:∃dx,H p=some (.ins C dx (fj n d))
 dc:H d=some (.dT (aM L))
 dr:∀x∈L,DR H x.1 x.2
 un:UN n (vals L)
 n1:1<=n
 n8:n<=8
 len:L.length<=63
structure Txt(K:PySem.W.Frag)(C:Addr):Prop where
 cl:Cls K C
 nH:NoAttr K C "hands"
 nD:NoAttr K C "deeds"
def KT(H H':Hp):Prop:=∀b o,H b=some o->(∀ps,o≠.tbl ps)->H' b=some o
theorem KT.of{H H':Hp}(s:Same H H'):KT H H':=fun b o e _=>s b o e
theorem KT.trans{H H' H2:Hp}(s:KT H H')(t:KT H' H2):KT H H2:=fun b o e n=>t b o (s b o e n) n
theorem KT.ts{H H':Hp}(s:KT H H'):TS H H':=fun a zs h=>s a _ h fun ps z=>by cases z
theorem KT.tab{q:Str}{T:Addr}{pos:Pos}{H H':Hp}(t:aE q T pos H)(s:SameT T H H'):KT H H':=fun b o e n=>s b o e fun z=>by obtain⟨ps,e1,_⟩:=t;rw[z,e1]at e;cases e;exact n ps rfl
theorem KT.lr{H H':Hp}{l:Addr}{L:LT}(s:KT H H')(x:LR H l L):LR H' l L:=⟨s _ _ x.1 (fun ps z=>by cases z),fun y hy=>(x.2 y hy).ts s.ts⟩
theorem StoreAt.kt{C:Addr}{H H':Hp}{p d:Addr}{n:Nat}{L:LT}(x:StoreAt C H p d n L)(s:KT H H'):StoreAt C H' p d n L:=by obtain⟨⟨dx,h1⟩,h2,h3,h4,h5,h6,h7⟩:=x;exact⟨⟨dx,s _ _ h1 fun ps z=>by cases z⟩,s _ _ h2 (fun ps z=>by cases z),fun y hy=>(h3 y hy).ts s.ts,h4,h5,h6,h7⟩
theorem StoreAt.same{C:Addr}{H H':Hp}{p d:Addr}{n:Nat}{L:LT}(x:StoreAt C H p d n L)(s:Same H H'):StoreAt C H' p d n L:=x.kt (.of s)
def RDY(L M:LT):Prop:=∃S:LT,S.Perm L/\((vals S).Pairwise fun d e=>¬kLt e d)/\M=aU S S.length
theorem RDY.sub{L M:LT}(h:RDY L M):∀x∈M,x∈L:=fun x hx=>by obtain⟨S,pS,_,rfl⟩:=h;exact pS.mem_iff.mp (((bZ S S.length (Ze _)).trans (ZH _ _)).subset hx)
theorem RDY.len{L M:LT}(h:RDY L M):M.length<=L.length:=by obtain⟨S,pS,_,rfl⟩:=h;have:=((bZ S S.length (Ze _)).trans (ZH _ _)).length_le;have e:=pS.length_eq;omega
def yi(C:Addr):Sp:=fun vs H Q _=>∃(p dx:Addr) (n:Nat),vs=[.ref p,.int (n:Int)]/\H p=some (.ins C dx [])/\1<=n/\n<=8/\∀(d:Addr) (H':Hp),H d=none->StoreAt C H' p d n []->(∀b o,H b=some o->b≠p->H' b=some o)->Q .non H'
structure Fit(n:Nat)(d:Dd):Prop where
 len:d.ns.length=n
 hd:d.h<n
 nn:∀z∈d.ns,0<=z
 own:1<=ag d.ns d.h
def hV(C:Addr):Sp:=fun vs H Q _=>∃(p d a:Addr) (n:Nat) (L:LT) (e:Dd),vs=[.ref p,.ref a]/\StoreAt C H p d n L/\DR H a e/\Fit n e /\
 ((L.length<63/\(∀x∈L,nmK x.2≠nmK e)/\∀H',SameT d H H'->StoreAt C H' p d n (L++[(a,e)])->Q (.bl true) H')\/((∃x∈L,x.2=e)/\∀H',Same H H'->Q (.bl false) H'))
def ge(C T:Addr):Sp:=fun vs H Q _=>∃(p d:Addr) (n:Nat) (L:LT),vs=[.ref p]/\StoreAt C H p d n L/\aE bv T (bA br) H /\
 ∀D H' (M:LT),RDY L M->SameT T H H'->aE bv T (bA br) H'->H' D=some (.lst (ax M))->H D=none->Q (.ref D) H'
abbrev fX:Stmt:=fL (top 39) 0
abbrev pR:List Str:=["self","hands"]
theorem pd:FnScope pR ["self","hands"] (aj fX):=⟨rfl,rfl,rfl,by decide +kernel,rfl,by decide +kernel,by decide +kernel⟩
theorem oX{f C:Addr}{fd:FuncData}(F:Fun K "__init__" "Store.__init__" fX f fd)(T:Txt K C):FnOk P w K mg base CX0 1 f fd ["self","hands"] (yi C):=by
 refine F.okQ pd (fun vs H Q E h=>?_) (fun cdv A outer s H vs Q E hr h=>?_)
 ·obtain⟨p,dx,n,rfl,_⟩:=h;rfl
 obtain⟨p,dx,n,rfl,hp,n1,n8,k⟩:=h;refine⟨_,(b_c (Bb (q_v 0) (q_v 1))
   (b_1 (Bb (q_v 0) vF))),?_⟩
 try rw[cxK]
 refine⟨_,rfl,_,rfl,p,C,dx,[],rfl,hp,T.cl,T.nH,(by show 0<1000;decide),?_⟩;intro d hd;have hd0:H d=none:=by
  cases e:H d with
  |none=>rfl
  |some o =>
   by_cases c:d=p
   ·subst c;rw[ad]at hd;cases hd
   ·rw[af c,e]at hd;cases hd
 have npd:p≠d:=am hp hd0;refine⟨_,rfl,p,C,dx,_,rfl,(by rw[af npd,ad]),T.cl,T.nD,(by show 1<1000;decide),?_⟩;refine k d _ hd0 ⟨⟨dx,ad⟩,by rw[af npd.symm,ad];rfl,fun x hx=>(nomatch hx),⟨fun _ h=>(nomatch h),fun _ h=>(nomatch h),.nil⟩,n1,n8,ZZ _⟩ fun b o e hb=>?_;rw[af hb,af (am e hd0),af hb];exact e
theorem Cs:hU "text" = true:=by decide +kernel
theorem D7:PyProof.Rows.KTD.datumAt ("put":Str) DT=some (tw ([Kd.u,.p,.t].map nm)):=by with_unfolding_all rfl
theorem BI:PyProof.Rows.KTD.datumAt ("none":Str) DT=some (tw (([]:List Kd).map nm)):=by with_unfolding_all rfl
theorem Cu{H:Hp}{v:V}{w':Option Int}{hd:Int}{ns:List Int}(h:WR H v w'):WhatR K H hd ns v true:=by
 cases w' with
 |none =>obtain⟨p,rfl,e⟩:=h;exact .is (ks:=[]) (bs:=[]) e BI (by decide) ⟨rfl,rfl,fun i k v b h _ _=>by simp at h⟩ rfl
 |some m =>
  obtain⟨p,q,rfl,e,e2⟩:=h;refine .is (ks:=[.u,.p,.t]) (bs:=[true,true,true]) e D7 (by decide) ⟨rfl,rfl,fun i k v b h1 h2 h3=>?_⟩ rfl
  match i with
  |0=>cases h1;cases h2;cases h3;exact .u0
  |1 =>
   cases h1;cases h2;cases h3;refine .pl ⟨⟨_,.tup e2⟩,fun a xs ha hx=>?_⟩ ?_
   ·cases ha;rw[e2]at hx;cases hx;refine⟨by simp,fun x hx=>?_⟩;rw[Zm.mp hx];exact⟨_,.int m⟩
   ·show lQ (H q)=true;rw[e2];rfl
  |2 =>cases h1;cases h2;cases h3;exact .tx (by decide +kernel) (by decide +kernel) (by rw[Cs];decide +kernel)
  |i+3=>simp at h1
theorem Bz{H:Hp}{a:Addr}{d:Dd}{n:Nat}(h:DR H a d)(f:Fit n d)(n8:n<=8):DeedR K H (n:Int) (.ref a) true:=by obtain⟨c,v,h1,h2,h3,h4,h5⟩:=h;exact .is h1 (Int.natCast_nonneg _) (by have:=f.hd;omega) h2 (by rw[f.len]) f.nn (by omega) (by rw[y0];exact f.own) (Cu h3)
theorem gT{n:Nat}{L:LT}(u:UN n (vals L)){x:Addr×Dd}(hx:x∈L):bw (aM L) (nmK x.2)=some (.ref x.1):=by
 rw[jM];have:L.find? (fun y=>decide (nmK y.2=nmK x.2))=some x:=by
  have hs:(L.find? fun y=>decide (nmK y.2=nmK x.2)).isSome=true:=by rw[List.find?_isSome];exact⟨x,hx,decide_eq_true rfl⟩
  obtain⟨y,hy⟩:=Option.isSome_iff_exists.mp hs;rw[hy];have my:=List.mem_of_find?_eq_some hy;have qy:nmK y.2=nmK x.2:=ZJ (p:=nmK y.2=nmK x.2) (List.find?_some (p:=fun y:Addr×Dd=>decide (nmK y.2=nmK x.2)) hy);have nd:=u.uni;unfold vals at nd;rw[Z7]at nd;obtain⟨i,hi,rfl⟩:=ZG.mp my;obtain⟨j,hj,rfl⟩:=ZG.mp hx;rw[Zw]at nd;rcases Nat.lt_trichotomy i j with c|c|c
  ·exact absurd qy (nd i j hi hj c)
  ·subst c;rfl
  ·exact absurd qy.symm (nd j i hj hi c)
 rw[this];rfl
theorem rn(d:Dd):SeqAt.shaped (dD d)=true:=by obtain⟨h1,h2⟩:=uW (d:=d) trivial;unfold SeqAt.shaped;rw[ZN];exact⟨h1,decide_eq_true (by omega)⟩
abbrev dZ:Stmt:=fL (top 39) 1
abbrev pQ:List Str:=["self","deed","name"]
theorem iM:FnScope pQ ["self","deed"] (aj dZ):=⟨rfl,rfl,rfl,by decide +kernel,rfl,by decide +kernel,by decide +kernel⟩
theorem iL{f C:Addr}{fd:FuncData}(F:Fun K "hear" "Store.hear" dZ f fd)(T:Txt K C)(F_is_deed:Fn P w K mg base 7 "is_deed" ["thing","hands"] (rA K))(F_name_of:Fn P w K mg base 1 "name_of" ["deed"] eG):FnOk P w K mg base CX0 8 f fd ["self","deed"] (hV C):=by
 refine F.okQ iM (fun vs H Q E h=>?_) (fun cdv A outer s H vs Q E hr h=>?_)
 ·obtain⟨p,d,a,n,L,e,rfl,_⟩:=h;rfl
 obtain⟨p,d,a,n,L,e,rfl,S,hd,ft,q⟩:=h;obtain⟨⟨dx,h1⟩,h2,h3,h4,h5,h6,h7⟩:=id S;refine⟨_,(b_c (bt (cG (bR (aL F_is_deed (hr.mono (by decide)) (q_a (q_v 1) (q_a (gw (q_v 0)) ai))))) (b_1 tW) b_0)
   (b_c (bh (i:=2) iM.nd (aL F_name_of (hr.mono (by decide)) (q_a (q_v 1) ai)))
   (b_c (bt (kL hr.units (q_v 2) (gw (q_v 0))) (b_c (hM hr.units (gw (q_v 0)) (q_v 2) (q_v 1))
   (b_1 (aw bP))) b_0)
   (b_c (bt (bj (vm hr.units) (qV hr.units (gw (q_v 0)) (q_v 2)) (q_v 1)) (b_1 tW) b_0)
   (b_1 (aw bP)))))),?_⟩
 try rw[cxK]
 refine⟨_,rfl,_,rfl,p,C,dx,_,_,rfl,h1,T.cl,T.nH,kX _ _,_,true,(n:Int),rfl,Bz hd ft h6,fun H1 s1=>?_⟩;refine⟨_,rfl,?_⟩;refine⟨_,rfl,a,e,rfl,hd.same s1,fun t H2 s2 et=>?_⟩;have s12:=s1.trans s2;refine⟨_,rfl,_,rfl,p,C,dx,_,_,rfl,s12 _ _ h1,T.cl,T.nD,cX _ _,d,_,rfl,.inr ⟨_,nmK e,t,.inl (s12 _ _ h2),rfl,et,rfl⟩,_,rfl,?_⟩;rcases q with⟨ll,hn,q⟩|⟨⟨x,hx,rfl⟩,q⟩
 ·have vn:bw (aM L) (nmK e)=none:=by
   rw[jM];have:L.find? (fun x=>decide (nmK x.2=nmK e))=none:=by rw[List.find?_eq_none];intro y hy;simpa using hn y hy
   rw[this];rfl
  rw[vn];refine aW ?_;have lk:(aM L).length<=63:=by unfold aM;rw[z9];exact h7
  refine⟨_,rfl,_,rfl,p,C,dx,_,_,rfl,s12 _ _ h1,T.cl,T.nD,cX _ _,_,rfl,d,_,rfl,.inr ⟨_,nmK e,t,s12 _ _ h2,rfl,et,Yo lk (by rw[x9];decide),rfl⟩,?_⟩;rw[iD _ vn];have tA:TS H2 (upd H2 d (.dT (aM L++[(nmK e,.ref a)]))):=rN fun zs z=>by rw[s12 _ _ h2]at z;cases z
  have npd:p≠d:=fun z=>by rw[z,h2]at h1;cases h1
  have ek:aM L++[(nmK e,V.ref a)]=aM (L++[(a,e)]):=by unfold aM;rw[Zx];rfl
  have ev:vals (L++[(a,e)])=vals L++[e]:=by unfold vals;rw[Zx];rfl
  refine q _ (fun b o eb hb=>by rw[af hb];exact s12 _ _ eb) ⟨⟨dx,by rw[af npd];exact s12 _ _ h1⟩,by rw[ad,ek],fun x hx=>?_,?_,h5,h6,by rw[Zi];exact ll⟩
  ·rcases Zu.mp hx with hx|hx
   ·exact(h3 x hx).ts ((Same.ts s12).trans tA)
   ·rw[Zm.mp hx];exact hd.ts ((Same.ts s12).trans tA)
  ·rw[ev];refine⟨fun x hx=>?_,fun x hx=>?_,ZR.mpr ⟨h4.uni,List.pairwise_singleton _ _,fun x hx y hy=>?_⟩⟩
   ·rcases Zu.mp hx with hx|hx
    ·exact h4.len x hx
    ·rw[Zm.mp hx];exact⟨ft.len,ft.hd⟩
   ·rcases Zu.mp hx with hx|hx
    ·exact h4.own x hx
    ·rw[Zm.mp hx];have:=ft.own;omega
   ·rw[Zm.mp hy];obtain⟨z,hz,rfl⟩:=Zl.mp hx;exact hn z hz
 ·rw[gT h4 hx];refine aF ?_;have hx12:=(h3 x hx).same s12;have hd12:=hd.same s12;refine⟨_,rfl,p,C,dx,_,_,rfl,s12 _ _ h1,T.cl,T.nD,cX _ _,_,rfl,d,.ref x.1,rfl,.inr ⟨_,nmK x.2,t,.inl (s12 _ _ h2),rfl,et,(gT h4 hx).symm⟩,_,rfl,_,_,hx12.dt,hd12.dt,rn _,rn _,_,rfl,?_⟩;rw[SeqAt.eqv_refl _ (uW (d:=x.2) trivial).1];exact aF (q _ s12)
theorem zr(L:LT):(aM L).map (·.2)=ax L:=by unfold aM ax;rw[Yp];rfl
abbrev fw:Stmt:=fL (top 39) 2
abbrev oR:List Str:=["self"]
theorem nO:FnScope oR ["self"] (aj fw):=⟨rfl,rfl,rfl,by decide +kernel,rfl,by decide +kernel,by decide +kernel⟩
theorem nk{f C T:Addr}{fd:FuncData}(F:Fun K "ready" "Store.ready" fw f fd)(X:Txt K C)(F_ready_of:Fn P w K mg base 5 "ready_of" ["deeds"] (uf T))(z_list:mg "list" = none):FnOk P w K mg base CX0 6 f fd ["self"] (ge C T):=by
 refine F.okQ nO (fun vs H Q E h=>?_) (fun cdv A outer s H vs Q E hr h=>?_)
 ·obtain⟨p,d,n,L,rfl,_⟩:=h;rfl
 obtain⟨p,d,n,L,rfl,S,tab,q⟩:=h;obtain⟨⟨dx,h1⟩,h2,h3,h4,h5,h6,h7⟩:=id S;refine⟨_,(b_1 (aw (aL F_ready_of (hr.mono (by decide)) (q_a (qU (sO rfl) z_list ow (q_a (xT (gw (q_v 0))) ai)) ai)))),?_⟩
 try rw[cxK]
 refine⟨_,rfl,p,C,dx,_,_,rfl,h1,X.cl,X.nD,cX _ _,d,_,rfl,h2,fun v gv=>?_⟩;have sv:=ah gv (eJ v (jN d));refine⟨v,d,_,rfl,ad,sv _ _ h2,fun l2 g2=>?_⟩;rw[zr];have s2:=sv.trans (ah g2 (.lst (ax L)));refine⟨l2,L,n,rfl,⟨ad,fun x hx=>(h3 x hx).same s2⟩,h7,h6,h4,ao tab s2,fun D H' S' pS sS sT tab' eD nD=>?_⟩;exact q D H' _ ⟨S',pS,sS,rfl⟩ (fun b o e hb=>sT _ _ (s2 _ _ e) hb) tab' eD (s2.free nD)
def NmI(H:Hp)(v:V)(k:List Int):Prop:=∃b,v=.ref b/\H b=some (.tup (k.map V.int))
abbrev NsI(H:Hp)(vs:List V)(ks:List (List Int)):Prop:=Paired (NmI H) vs ks
theorem NmI.ts{H H':Hp}{v:V}{k:List Int}(x:NmI H v k)(s:TS H H'):NmI H' v k:=by obtain⟨b,h1,h2⟩:=x;exact⟨b,h1,s _ _ h2⟩
theorem NsI.ts{H H':Hp}{vs:List V}{ks:List (List Int)}(x:NsI H vs ks)(s:TS H H'):NsI H' vs ks:=Paired.mapP x fun _ _ z=>z.ts s
theorem fE{α β:Type}{R:α->β->Prop}{xs:List α}{ys:List β}(x:Paired R xs ys):∀{i:Nat} {a:α},xs[i]?=some a->∃b,ys[i]?=some b/\R a b:=by
 induction x with
 |nil=>intro i a h;simp at h
 |cons r _ ih =>
  intro i a h;cases i with
  |zero=>cases h;exact⟨_,rfl,r⟩
  |succ i=>exact ih h
theorem E6{H:Hp}{vs:List V}{ks:List (List Int)}(x:NsI H vs ks):∃as:List Addr,vs=as.map V.ref/\ks.length=as.length/\∀(i:Nat) (a:Addr) (k:List Int),as[i]?=some a->ks[i]?=some k->H a=some (.tup (k.map V.int)):=by
 induction x with
 |nil=>exact⟨[],rfl,rfl,fun i a k h=>by simp at h⟩
 |cons r _ ih =>
  obtain⟨as,e1,e2,e3⟩:=ih;obtain⟨b,rfl,hb⟩:=r;refine⟨b::as,by rw[e1];rfl,by rw[Zt,Zt,e2],fun i a k h1 h2=>?_⟩;cases i with
  |zero=>cases h1;cases h2;exact hb
  |succ i=>exact e3 i a k h1 h2
theorem E7{H:Hp}{vs:List V}{ks:List (List Int)}(x:NsI H vs ks):DtAll H (ks.map fun k=>PyData.tuple (k.map .int)) vs/\PyData.canLayAll0 (ks.map fun k=>PyData.tuple (k.map .int))=true/\PyData.depthAll (ks.map fun k=>PyData.tuple (k.map .int))<=2:=by
 induction x with
 |nil=>exact⟨by simp[DtAll],rfl,by simp[PyData.depthAll]⟩
 |@cons v k _ _ r _ ih =>
  obtain⟨b,rfl,hb⟩:=r;obtain⟨i1,i2,i3⟩:=ih;obtain⟨l1,l2⟩:=kf k;refine⟨?_,?_,?_⟩
  ·simp only[Z0,DtAll];exact⟨_,_,rfl,gQ hb,i1⟩
  ·simp only[Z0,PyData.canLayAll0,i2,PyData.canLay0,l1];rfl
  ·simp only[Z0,PyData.depthAll,PyData.depth];omega
theorem Df(k:List Int)(ks:List (List Int)):((ks.map fun k=>PyData.tuple (k.map .int)).any fun d=>PyData.eqv d (.tuple (k.map .int)))=decide (k∈ks):=by
 induction ks with
 |nil=>rfl
 |cons m ks ih =>rw[Z0,List.any_cons,ih,ka,YF,Bool.or_eq_true,Y0,Y0,Y0,Zs,eq_comm (a:=m)]
theorem At{H:Hp}{as:List Addr}{F:LT}{f:Dd->List Int}{pm:Array Nat}(hl:F.length=as.length)(hk:∀(i:Nat) (a:Addr) (k:List Int),as[i]?=some a->(F.map fun x=>f x.2)[i]?=some k->H a=some (.tup (k.map V.int)))(hp:POk as.length pm)(hs:LS (fun i j=>HT.lexLt ((F.map fun x=>f x.2).getD i []) ((F.map fun x=>f x.2).getD j [])) pm as.length) :
  ∃N:LT,N.Perm F/\NsI H (pm.toList.map fun i=>(as.map V.ref).getD i .non) (N.map fun x=>f x.2)/\N.Pairwise fun x y=>HT.lexLt (f y.2) (f x.2)=false:=by
 have ep:pm.toList.Perm (List.range F.length):=by have:=YQ.mp hp;rw[hl];simpa using this
 have pl:∀i∈pm.toList,i<F.length:=fun i hi=>ZL.mp (ep.mem_iff.mp hi);refine⟨pm.toList.map fun i=>F.getD i (0,D0),?_,?_,?_⟩
 ·have:=ep.map fun i=>F.getD i ((0,D0):Addr×Dd);rw[dP]at this;exact this
 ·generalize pm.toList=ws at pl;induction ws with
  |nil=>exact .nil
  |cons i ws ih =>
   have hi:=pl i Yn;refine .cons ?_ (ih fun j hj=>pl j (Z2 _ hj));have ha:as[i]?=some (as[i]'(by omega)):=Zb (by omega);refine⟨as[i]'(by omega),?_,?_⟩
   ·show(as.map V.ref).getD i V.non=_;rw[Zf,Zv,ha];rfl
   ·refine hk i _ _ ha ?_;show _=some (f (F.getD i (0,D0)).2);rw[Zv,Zf,Zb hi];rfl
 ·rw[Z7,Zw];intro i j hi hj hij;have hz:pm.size=as.length:=by have:=hp.size_eq;simpa using this
  rw[Zg]at hi hj;have lx:=(hs i j hij (by omega)).1;have e1:gA pm i=pm.toList[i]'(by rw[Zg];exact hi):=by rw[aJ,Zf,Zb (by rw[Zg];exact hi)];rfl
  have e2:gA pm j=pm.toList[j]'(by rw[Zg];exact hj):=by rw[aJ,Zf,Zb (by rw[Zg];exact hj)];rfl
  have m1:=pl _ (ZC (show i<pm.toList.length by rw[Zg];exact hi));have m2:=pl _ (ZC (show j<pm.toList.length by rw[Zg];exact hj));rw[e1,e2]at lx;generalize pm.toList[i]'(by rw[Zg];exact hi)=a at *;generalize pm.toList[j]'(by rw[Zg];exact hj)=b at *;have ga:∀k,k<F.length->((F.map fun x=>f x.2).getD k [])=f (F.getD k (0,D0)).2:=fun k hk=>by simp[hk]
  dsimp only at lx;rw[ga a m1,ga b m2]at lx;exact lx
def aQ(M:LT):List (List Int):=M.map fun x=>nmZ x.2
def au(M:LT)(x:Addr×Dd):Bool:=!decide (nmZ x.2∈aQ M)
def Wt(L M N:LT):Prop:=N.Perm (L.filter (au M))/\N.Pairwise fun x y=>HT.lexLt (nmZ y.2) (nmZ x.2)=false
theorem Wt.sub{L M N:LT}(h:Wt L M N):∀x∈N,x∈L:=fun x hx=>(Zn.mp (h.1.mem_iff.mp hx)).1
theorem Wt.len{L M N:LT}(h:Wt L M N):N.length<=L.length:=by rw[h.1.length_eq];exact Yk _ _
def rK(C T:Addr):Sp:=fun vs H Q _=>∃(p d:Addr) (n:Nat) (L:LT),vs=[.ref p]/\StoreAt C H p d n L/\aE bv T (bA br) H /\
 ∀D H' (M N:LT) (ys:List V),RDY L M->Wt L M N->SameT T H H'->aE bv T (bA br) H'->H' D=some (.lst ys)->NsI H' ys (aQ N)->H D=none->Q (.ref D) H'
theorem lZ{T:Addr}{H H':Hp}{q:Str}{pos:Pos}(s:SameT T H H')(t:aE q T pos H'){D:Addr}(h:H' D=none):H D=none:=by
 cases e:H D with
 |none=>rfl
 |some o =>
  by_cases c:D=T
  ·obtain⟨ps,e1,_⟩:=t;rw[<-c,h]at e1;cases e1
  ·have:=s _ _ e c;rw[h]at this;cases this
theorem cg{α:Type}{l:List α}{i:Nat}{x:α}(h:l[i]?=some x):l.take (i+1)=l.take i++[x]:=by rw[List.take_succ,h];rfl
theorem dN{L:LT}{k:Nat}{x:V}(h:(ax L)[k]?=some x):∃y,L[k]?=some y/\y∈L/\x=.ref y.1:=by obtain⟨hk,rfl⟩:=iE h;exact⟨L[k],Zb hk,ZC hk,rfl⟩
theorem gR(n:Nat)(d:Addr){m:Str}(h1:¬m="deeds")(h2:¬m="hands"):(fj n d).lookup m=none:=by
 unfold fj;rw[ce,if_neg h1,ce,if_neg h2]
 all_goals rfl
theorem iC(n:Nat)(d:Addr):(fj n d).lookup ("ready":Str)=none:=gR n d (by decide +kernel) (by decide +kernel)
theorem lK(n:Nat)(d:Addr):(fj n d).lookup ("waiting":Str)=none:=gR n d (by decide +kernel) (by decide +kernel)
abbrev ee:Stmt:=fL (top 39) 3
abbrev kQ:List Str:=["self","ready"]
theorem gd:FnScope kQ ["self"] (aj ee):=⟨rfl,rfl,rfl,by decide +kernel,rfl,by decide +kernel,by decide +kernel⟩
theorem km{f C T:Addr}{fd:FuncData}(F:Fun K "waiting" "Store.waiting" ee f fd)(X:Txt K C)(M_ready:MFn P w K mg base 6 C "ready" ["self"] (ge C T))(F_name_of:Fn P w K mg base 1 "name_of" ["deed"] eG)(z_sorted:mg "sorted" = none):FnOk P w K mg base CX0 7 f fd ["self"] (rK C T):=by
 refine F.okQ gd (fun vs H Q E h=>?_) (fun cdv A outer s H vs Q E hr h=>?_)
 ·obtain⟨p,d,n,L,rfl,_⟩:=h;rfl
 obtain⟨p,d,n,L,rfl,S,tab,q⟩:=h;obtain⟨⟨dx,h1⟩,h2,h3,h4,h5,h6,h7⟩:=id S;refine⟨_,(b_c (bh (i:=1) gd.nd (cJ (own:=["deed"]) (⟨rfl,by decide +kernel,by decide +kernel,rfl,trivial⟩:CompOk _ _ [] []) rfl (bV (cY M_ready (hr.mono (by decide)) (q_v 0))) (fun _ _ _ _=>aK (i:=0) (show (["deed"]:List Str).Nodup by decide +kernel)) (bo (by decide)) (fun _ _ _ _=>fm) (fun _ _ _ _=>(aL F_name_of (hr.mono (by decide)) (q_a (q_v 0) ai)))))
   (b_1 (aw (q_B Bt z_sorted PyProof.Rows.boot_sorted (q_a (Ee (cJ (own:=["name"]) (⟨rfl,by decide +kernel,by decide +kernel,rfl,⟨rfl,rfl,trivial⟩⟩:CompOk _ _ [1] ["ready"]) rfl (uU (gw (q_v 0))) (fun _ _ _ _=>aK (i:=0) (show (["name","ready"]:List Str).Nodup by decide +kernel)) (bo (by decide)) (fun _ _ _ _=>(uV (bj (xE (K:=K) (k:=1) rfl (hr.mono (by decide))) (q_v 0) (q_v 1)))) (fun _ _ _ _=>(q_v 0)))) ai))))),?_⟩
 try rw[cxK]
 refine aA fun R0 hR0=>?_;refine⟨_,rfl,p,dx,_,rfl,h1,iC _ _,p,d,n,L,rfl,S,tab,fun D H1 M rd sT tab1 eD nD=>?_⟩;have kt1:=KT.tab tab sT;have S1:=S.kt kt1;have lM:=rd.len;refine⟨D,rfl,⟨_,SqL.of eD⟩,?_⟩;refine ii (fun i zs H'=>Same H1 H'/\zs.length<=i/\NsI H' zs (aQ (M.take i))) (by rw[aR];omega) (fun _ _ _ z=>z.2.1) ⟨Same.refl _,Ze _,.nil⟩ (fun i zs H' z=>SqL.of (z.1 _ _ eD)) ?_ ?_
 ·rintro i zs H' v hv ⟨sm,lz,pz⟩ Y hY;obtain⟨y,hy,my,rfl⟩:=dN hv;refine⟨_,rfl,y.1,y.2,rfl,(S1.dr y (rd.sub y my)).same sm,fun t H2 s2 et=>hY _ _ ⟨sm.trans s2,by rw[Zi];exact Nat.succ_le_succ lz,?_⟩⟩;rw[cg hy];unfold aQ;rw[Zx];exact Paired.snoc (pz.ts (Same.ts s2)) ⟨t,rfl,et⟩
 rintro zs rl H2 ⟨sm,lz,pz⟩ grl;rw[aR,y7]at pz;rw[aR]at lz;have wr:=ah grl (.lst zs);have erl:upd H2 rl (.lst zs) rl=some (.lst zs):=ad;have S3:=(S1.same sm).same wr;have pz3:=pz.ts (Same.ts wr);have sT3:SameT T H (upd H2 rl (.lst zs)):=fun b o e hb=>wr _ _ (sm _ _ (sT _ _ e hb));have tab3:=ao (ao tab1 sm) wr;generalize upd H2 rl (.lst zs)=H3 at erl S3 pz3 sT3 tab3 ⊢;refine hR0 _ _ ?_;clear hR0 R0 pz wr sm tab1 S1 kt1;obtain⟨⟨dx3,g1⟩,g2,g3,_⟩:=id S3;refine⟨_,rfl,p,C,dx3,_,_,rfl,g1,X.cl,X.nD,cX _ _,d,aM L,rfl,g2,fun o=>?_⟩;have nrd:rl≠d:=fun z=>by rw[z,g2]at erl;cases erl
 have tF:TS H3 (upd H3 d (.frz o (.dT (aM L)))):=fun b zs e=>by rw[af fun z=>by rw[z,g2]at e;cases e];exact e
 have kF:∀b u,H3 b=some u->b≠d->upd H3 d (.frz o (.dT (aM L))) b=some u:=fun b u e hb=>by rw[af hb];exact e
 have eF:upd H3 d (.frz o (.dT (aM L))) d=some (.frz o (.dT (aM L))):=ad;have er4:=kF _ _ erl nrd;have pz4:=pz3.ts tF;obtain⟨dA,dB,dC⟩:=E7 pz4;have lk:(aM L).length=L.length:=by unfold aM;rw[z9]
 generalize hHF:upd H3 d (.frz o (.dT (aM L)))=HF at tF kF eF er4 pz4 dA ⊢;refine oA (a:=d) (o:=o) (kvs:=aM L) (fun i ys H'=>H'=HF/\ys.length<=i/\NsI HF ys (aQ ((L.take i).filter (au M)))) (by omega) (fun _ _ _ z=>z.2.1) ⟨rfl,Ze _,.nil⟩ (fun i ys H' z=>by rw[z.1];exact eF) ?_ ?_
 ·rintro i ys H' kv b hkv hb ⟨rfl,ly,py⟩ Y hY;unfold aM at hkv;rw[Zv]at hkv;obtain⟨y,hy,rfl⟩:=Ys.mp hkv;have eb:H' b=some (.tup ((nmZ y.2).map V.int)):=hb;refine⟨_,rfl,_,rfl,rl,_,_,_,rfl,SqL.of er4,gQ eb,dA,dq _,dB,_,rfl,?_⟩;rw[Df];have tk:aQ ((L.take (i+1)).filter (au M))=aQ ((L.take i).filter (au M))++if au M y=true then[nmZ y.2]else[]:=by
   rw[cg hy,YI];unfold aQ;rw[Zx];congr 1;by_cases c:au M y=true
   ·rw[if_pos c,Ya c];rfl
   ·rw[if_neg c,Yb c];rfl
  show if(!decide (nmZ y.2∈aQ M))=true then _ else _
  cases c:au M y with
  |true =>have c':(!decide (nmZ y.2∈aQ M))=true:=c;rw[c'];refine aW ⟨_,rfl,hY _ _ ⟨rfl,by rw[Zi];exact Nat.succ_le_succ ly,?_⟩⟩;rw[tk,c,if_pos rfl];exact Paired.snoc py ⟨b,rfl,eb⟩
  |false =>have c':(!decide (nmZ y.2∈aQ M))=false:=c;rw[c'];refine aF (hY _ _ ⟨rfl,Nat.le_succ_of_le ly,?_⟩);rw[tk,c,if_neg (by decide),ZF];exact py
 rintro ys l5 H' ⟨rfl,ly,py⟩ g5;rw[lk,y7]at py;rw[lk]at ly;have w5:=ah g5 (.lst ys);have e5:upd H' l5 (.lst ys) l5=some (.lst ys):=ad;have eF5:=w5 _ _ eF;have n5d:l5≠d:=fun z=>by rw[z,eF]at g5;cases g5
 refine⟨d,o,.dT (aM L),eF5,Loose.dt h2,?_⟩;have t5:TS H' (upd (upd H' l5 (.lst ys)) d (.dT (aM L))):=fun b zs e=>by rw[af fun z=>by rw[z,eF]at e;cases e];exact w5 _ _ e
 have k5:Same H3 (upd (upd H' l5 (.lst ys)) d (.dT (aM L))):=fun b u e=>by
  by_cases c:b=d
  ·rw[c,ad,<-g2,<-c,e]
  ·rw[af c];exact w5 _ _ (kF _ _ e c)
 have e6:upd (upd H' l5 (.lst ys)) d (.dT (aM L)) l5=some (.lst ys):=by rw[af n5d];exact e5
 have py6:=py.ts t5;generalize upd (upd H' l5 (.lst ys)) d (.dT (aM L))=H6 at t5 k5 e6 py6 ⊢;obtain⟨as,rfl,la,ha⟩:=E6 py6;have lf:(L.filter (au M)).length=as.length:=by rw[<-la];unfold aQ;rw[z9]
 have lf2:=Yk (au M) L;refine⟨l5,as,aQ (L.filter (au M)),rfl,e6,by omega,la,fun k hk=>?_,ha,fun pm D2 hp hs gD2=>?_⟩
 ·obtain⟨x,_,rfl⟩:=Zl.mp hk;exact fun z=>by cases z
 obtain⟨N,pN,nN,sN⟩:=At lf ha hp hs;have wD:=ah gD2 (.lst (pm.toList.map fun i=>(as.map V.ref).getD i .non));have s7:Same H3 (upd H6 D2 (.lst (pm.toList.map fun i=>(as.map V.ref).getD i .non))):=k5.trans wD;refine q D2 _ M N _ rd ⟨pN,sN⟩ (fun b o e hb=>s7 _ _ (sT3 _ _ e hb)) (ao tab3 s7) ad (NsI.ts nN (Same.ts wD)) ?_;exact lZ sT3 tab3 (k5.free gD2)
def gZ(ns:List Int)(h:Nat):List Int:=ns.take h++[ag ns h+1]++ns.drop (h+1)
def ug:Sp:=fun vs H Q _=>∃(h:Int),vs=[.int h]/\1<=h/\h<=8/\∀p H',Same H H'->H' p=some (.tup ((List.replicate h.toNat (0:Int)).map V.int))->Q (.ref p) H'
def rJ:Sp:=fun vs H Q _=>∃(a:Addr) (ns:List Int) (h:Int),vs=[.ref a,.int h]/\H a=some (.tup (ns.map V.int))/\0<=h/\h<ns.length/\ns.length<=8/\∀p H',Same H H'->H' p=some (.tup ((gZ ns h.toNat).map V.int))->Q (.ref p) H'
abbrev fA:Stmt:=top 5
abbrev oU:List Str:=["hands"]
theorem nS:FnScope oU ["hands"] (aj fA):=⟨rfl,rfl,rfl,by decide +kernel,rfl,by decide +kernel,by decide +kernel⟩
theorem nv{f:Addr}{fd:FuncData}(F:Fun K "start_clock" "start_clock" fA f fd):FnOk P w K mg base CX0 1 f fd ["hands"] ug:=by
 refine F.okQ nS (fun vs H Q E h=>?_) (fun cdv A outer s H vs Q E hr h=>?_)
 ·obtain⟨h,rfl,_⟩:=h;rfl
 obtain⟨h,rfl,h1,h8,q⟩:=h;refine⟨_,(b_1 (aw (aX Dj (bX (q_a al ai)) (q_v 0)))),?_⟩
 try rw[cxK]
 refine⟨sz rfl,fun p g=>?_⟩;refine⟨_,rfl,p,h,[.int 0],rfl,rfl,ad,h1,by omega,(by simp),(du (by rw[ZU];omega)),fun p2 H2 s2 e2=>?_⟩;refine q p2 H2 ((ah g _).trans s2) ?_;rw[e2,List.flatten_replicate_singleton,List.map_replicate]
abbrev ku:Stmt:=top 7
abbrev yI:List Str:=["clock","hand"]
theorem ya:FnScope yI ["clock","hand"] (aj ku):=⟨rfl,rfl,rfl,by decide +kernel,rfl,by decide +kernel,by decide +kernel⟩
theorem xG{f:Addr}{fd:FuncData}(F:Fun K "raised" "raised" ku f fd):FnOk P w K mg base CX0 1 f fd ["clock","hand"] rJ:=by
 refine F.okQ ya (fun vs H Q E h=>?_) (fun cdv A outer s H vs Q E hr h=>?_)
 ·obtain⟨a,ns,h,rfl,_⟩:=h;rfl
 obtain⟨a,ns,h,rfl,hA,h0,h1,h8,q⟩:=h;have hk:h.toNat<ns.length:=by omega
 have c1:cK (ns.map V.int) none (some h)=(ns.take h.toNat).map V.int:=by unfold cK;rw[z9,HT.sIx_none,jh h0,Nat.min_eq_left (by omega),List.drop_zero,Nat.sub_zero,List.map_take]
 have c2:cK (ns.map V.int) (some (h+1)) none=(ns.drop (h.toNat+1)).map V.int:=by unfold cK;rw[z9,HT.sIx_none,jh (by omega),Nat.min_eq_left (by omega),<-List.map_drop,<-List.map_take];rw[show(h+1).toNat=h.toNat+1 by omega,Yf (by rw[Yr];exact Ze _)]
 refine⟨_,(b_1 (aw (aX xD (aX xD (qX qE (q_v 0) vH (nC (q_v 1))) (bX (q_a (aX dW (aC aI (q_v 0) (q_v 1)) al) ai))) (qX qE (q_v 0) (nC (aX dW (q_v 1) al)) vH)))),?_⟩
 try rw[cxK]
 refine⟨_,rfl,_,rfl,_,rfl,a,_,rfl,hA,fun p1 H1 s1 e1=>?_⟩;rw[c1]at e1;refine⟨_,rfl,_,rfl,a,_,_,_,rfl,rfl,SqT.of (s1 _ _ hA),cS h0 h1,_,_,rfl,rfl,sz rfl,fun p2 g2=>?_⟩;have s2:=ah g2 (.tup [.int (ag ns h.toNat+1)]);refine⟨p1,p2,_,_,rfl,rfl,s2 _ _ e1,ad,(du (by rw[z9,ZE,ZU];omega)),fun p3 H3 s3 e3=>?_⟩;refine⟨_,rfl,_,rfl,_,_,rfl,rfl,_,rfl,a,_,rfl,s3 _ _ (s2 _ _ (s1 _ _ hA)),fun p4 H4 s4 e4=>?_⟩;rw[c2]at e4;refine⟨p3,p4,_,_,rfl,rfl,s4 _ _ e3,e4,(du (by simp only[Zi,z9,ZE,Yr,ZU];omega)),fun p5 H5 s5 e5=>?_⟩;refine q p5 H5 (s1.trans (s2.trans (s3.trans (s4.trans s5)))) ?_;rw[e5];unfold gZ;rw[Zx,Zx];rfl
def bE(ds:List Dd)(g:Nat):Int:=((ds.countP fun d=>decide (d.h=g):Nat):Int)
def aS(n:Nat)(ds:List Dd):List Int:=(List.range n).map (bE ds)
theorem cD{n g:Nat}{ds:List Dd}(h:g<n):ag (aS n ds) g=bE ds g:=by unfold ag aS;rw[Zv,Y6 h];rfl
theorem bD(n:Nat)(ds:List Dd):(aS n ds).length=n:=by unfold aS;rw[z9,ZI]
theorem lV{ns:List Int}{h:Nat}(hh:h<ns.length):gZ ns h=ns.set h (ag ns h+1):=by unfold gZ;rw[List.set_eq_take_append_cons_drop,if_pos hh,ZD];rfl
theorem wF{n:Nat}{ds:List Dd}{d:Dd}(h:d.h<n):gZ (aS n ds) d.h=aS n (ds++[d]):=by
 have hl:d.h<(aS n ds).length:=by rw[bD];exact h
 rw[lV hl];refine kg (by rw[List.length_set,bD,bD]) fun i hi=>?_;rw[List.length_set,bD]at hi;rw[qh hl,cD h,cD hi,cD hi];unfold bE;rw[List.countP_append,Int.natCast_add];by_cases c:i=d.h
 ·rw[if_pos c,List.countP_cons_of_pos (by rw[c];exact decide_eq_true rfl),c];rfl
 ·rw[if_neg c,List.countP_cons_of_neg (by simpa using fun z=>c z.symm)];exact(Int.add_zero _).symm
def kI(C T:Addr):Sp:=fun vs H Q _=>∃(p d:Addr) (n:Nat) (L:LT),vs=[.ref p]/\StoreAt C H p d n L/\aE bv T (bA br) H /\
 ∀c H' (M:LT),RDY L M->SameT T H H'->aE bv T (bA br) H'->H' c=some (.tup ((aS n (vals M)).map V.int))->Q (.ref c) H'
theorem sQ(n:Nat):aS n []=List.replicate n 0:=by refine kg (by rw[bD,List.length_replicate]) fun i hi=>?_;rw[bD]at hi;rw[cD hi,yT];rfl
abbrev fv:Stmt:=fL (top 39) 4
abbrev oQ:List Str:=["self","clock","deed"]
theorem de:FnScope oQ ["self"] (aj fv):=⟨rfl,rfl,rfl,by decide +kernel,rfl,by decide +kernel,by decide +kernel⟩
theorem nh{f C T:Addr}{fd:FuncData}(F:Fun K "clock" "Store.clock" fv f fd)(X:Txt K C)(M_ready:MFn P w K mg base 6 C "ready" ["self"] (ge C T))(F_start_clock:Fn P w K mg base 1 "start_clock" ["hands"] ug)(F_raised:Fn P w K mg base 1 "raised" ["clock","hand"] rJ):FnOk P w K mg base CX0 7 f fd ["self"] (kI C T):=by
 refine F.okQ de (fun vs H Q E h=>?_) (fun cdv A outer s H vs Q E hr h=>?_)
 ·obtain⟨p,d,n,L,rfl,_⟩:=h;rfl
 obtain⟨p,d,n,L,rfl,S,tab,q⟩:=h;obtain⟨⟨dx,h1⟩,h2,h3,h4,h5,h6,h7⟩:=id S;refine⟨_,(b_c (bh (i:=1) de.nd (aL F_start_clock (hr.mono (by decide)) (q_a (gw (q_v 0)) ai)))
   (b_c (cZ Yg rfl (bV (cY M_ready (hr.mono (by decide)) (q_v 0))) (aK (i:=2) de.nd) (b_1 (bh (i:=1) de.nd (aL F_raised (hr.mono (by decide)) (q_a (q_v 1) (q_a (aC aI (q_v 2) al) ai))))))
   (b_1 (aw (q_v 1))))),?_⟩
 try rw[cxK]
 refine aA fun R0 hR0=>?_;refine⟨_,rfl,p,C,dx,_,_,rfl,h1,X.cl,X.nH,kX _ _,(n:Int),rfl,by omega,by omega,fun c0 H0 s0 e0=>hR0 _ _ ?_⟩;clear hR0 R0;rw[y0,<-sQ]at e0;refine aA fun R0 hR0=>?_;refine⟨_,rfl,p,dx,_,rfl,s0 _ _ h1,iC _ _,p,d,n,L,rfl,S.same s0,ao tab s0,fun D H1 M rd sT tab1 eD nD=>?_⟩;have kt1:=KT.tab (ao tab s0) sT;have S1:=(S.same s0).kt kt1;have lM:=rd.len;have e1:H1 c0=some (.tup ((aS n (vals [])).map V.int)):=kt1.ts _ _ e0;refine⟨D,rfl,⟨_,SqL.of eD⟩,?_⟩;refine cA (K:=K) (a:=D) (xs:=ax M) (fun i σ H'=>Same H1 H'/\∃(c:Addr) (o2:Option V),H' c=some (.tup ((aS n (vals (M.take i))).map V.int))/\σ=[some (.ref p),some (.ref c),o2]) ⟨Same.refl _,c0,none,e1,rfl⟩ (fun i σ H' _ z=>SqL.of (z.1 _ _ eD)) ?_ ?_
 ·rintro i v σ H' hv ⟨sm,c,o2,ec,rfl⟩ DL hDL;obtain⟨y,hy,my,rfl⟩:=dN hv;obtain⟨cl,wv,d1,d2,d3,d4,d5⟩:=(S1.dr y (rd.sub y my)).same sm;have hy2:y.2∈vals L:=Zl.mpr ⟨y,rd.sub y my,rfl⟩;have lh:=(h4.len _ hy2)
  refine⟨_,rfl,vix rfl (SqT.of d1) at0 ⟨c,_,(y.2.h:Int),rfl,ec,by omega,by rw[bD];omega,by rw[bD];exact h6,fun c2 H2 s2 e2=>hDL _ _ ⟨sm.trans s2,c2,_,?_,rfl⟩⟩⟩;rw[e2,y0,wF (by omega),cg hy];unfold vals;rw[Zx];rfl
 rintro σ H' ⟨sm,c,o2,ec,rfl⟩;refine hR0 _ _ ?_;rw[aR,y7]at ec;exact⟨_,rfl,q c H' M rd (fun b o e hb=>sm _ _ (sT _ _ (s0 _ _ e) hb)) (ao tab1 sm) ec⟩
def bp(cs:List Int)(x:Addr×Dd):Bool:=decide (ag cs x.2.h<ag x.2.ns x.2.h)
def yk(C T:Addr):Sp:=fun vs H Q _=>∃(p d c:Addr) (n:Nat) (L:LT) (cs:List Int),vs=[.ref p,.ref c]/\StoreAt C H p d n L/\aE bv T (bA br) H/\H c=some (.tup (cs.map V.int))/\cs.length=n /\
 ∀D H' (M M' N:LT),RDY L M->RDY L M'->Wt L M' N->SameT T H H'->aE bv T (bA br) H'->H' D=some (.lst (ax ((M++N).filter (bp cs))))->H D=none->Q (.ref D) H'
abbrev fY:Stmt:=fL (top 39) 5
abbrev pU:List Str:=["self","clock","deeds"]
theorem iN:FnScope pU ["self","clock"] (aj fY):=⟨rfl,rfl,rfl,by decide +kernel,rfl,by decide +kernel,by decide +kernel⟩
theorem oY{f C T:Addr}{fd:FuncData}(F:Fun K "told" "Store.told" fY f fd)(X:Txt K C)(M_ready:MFn P w K mg base 6 C "ready" ["self"] (ge C T))(M_waiting:MFn P w K mg base 7 C "waiting" ["self"] (rK C T))(F_name_of:Fn P w K mg base 1 "name_of" ["deed"] eG)(F_tells:Fn P w K mg base 1 "tells" ["clock","name"] nV):FnOk P w K mg base CX0 8 f fd ["self","clock"] (yk C T):=by
 refine F.okQ iN (fun vs H Q E h=>?_) (fun cdv A outer s H vs Q E hr h=>?_)
 ·obtain⟨p,d,c,n,L,cs,rfl,_⟩:=h;rfl
 obtain⟨p,d,c,n,L,cs,rfl,S,tab,hc,lc,q⟩:=h;obtain⟨⟨dx,h1⟩,h2,h3,h4,h5,h6,h7⟩:=id S;refine⟨_,(b_c (bh (i:=2) iN.nd (aX AY (cY M_ready (hr.mono (by decide)) (q_v 0)) (cJ (own:=["name"]) (⟨rfl,by decide +kernel,by decide +kernel,rfl,⟨rfl,rfl,trivial⟩⟩:CompOk _ _ [0] ["self"]) rfl (bV (cY M_waiting (hr.mono (by decide)) (q_v 0))) (fun _ _ _ _=>aK (i:=0) (show (["name","self"]:List Str).Nodup by decide +kernel)) (bo (by decide)) (fun _ _ _ _=>fm) (fun _ _ _ _=>(qV hr.units (Ea (K:=K) rfl (q_v 1)) (q_v 0))))))
   (b_1 (aw (cJ (own:=["deed"]) (⟨rfl,by decide +kernel,by decide +kernel,rfl,⟨rfl,rfl,trivial⟩⟩:CompOk _ _ [1] ["clock"]) rfl (bV (q_v 2)) (fun _ _ _ _=>aK (i:=0) (show (["deed","clock"]:List Str).Nodup by decide +kernel)) (bo (by decide)) (fun _ _ _ _=>(uV (cG (bR (aL F_tells (hr.mono (by decide)) (q_a (q_v 1) (q_a (aL F_name_of (hr.mono (by decide)) (q_a (q_v 0) ai)) ai))))))) (fun _ _ _ _=>(q_v 0)))))),?_⟩
 try rw[cxK]
 refine aA fun R0 hR0=>?_;refine⟨_,rfl,p,dx,_,rfl,h1,iC _ _,p,d,n,L,rfl,S,tab,fun D1 H1 M rd sT1 tab1 eD1 nD1=>?_⟩;have kt1:=KT.tab tab sT1;have S1:=S.kt kt1;obtain⟨⟨dx1,g1⟩,_⟩:=id S1;refine⟨_,rfl,p,dx1,_,rfl,g1,lK _ _,p,d,n,L,rfl,S1,tab1,fun D2 H2 M' N ys rd' wt sT2 tab2 eD2 nys nD2=>?_⟩;have kt2:=KT.tab tab1 sT2;have S2:=S1.kt kt2;have eD12:=kt2 _ _ eD1 (fun ps z=>by cases z);obtain⟨⟨dx2,f1⟩,f2,f3,_⟩:=id S2;have lN:=wt.len;have lM:=rd.len;have lys:ys.length=N.length:=by rw[YA nys];unfold aQ;rw[z9]
 refine⟨D2,rfl,⟨_,SqL.of eD2⟩,?_⟩;refine ii (K:=K) (a:=D2) (xs:=ys) (fun i zs H'=>H'=H2/\zs=ax (N.take i)) (by omega) (fun i zs H' z=>by rw[z.2,aR,ZE];omega) ⟨rfl,rfl⟩ (fun i zs H' z=>by rw[z.1];exact SqL.of eD2) ?_ ?_
 ·rintro i zs H' v hv ⟨rfl,rfl⟩ Y hY;obtain⟨k,hk,b,rfl,hb⟩:=fE nys hv;unfold aQ at hk;rw[Zv]at hk;obtain⟨y,hy,rfl⟩:=Ys.mp hk;have my:=wt.sub y (List.mem_of_getElem? hy);refine⟨_,rfl,p,C,dx2,_,_,rfl,f1,X.cl,X.nD,cX _ _,_,rfl,d,.ref y.1,rfl,.inr ⟨_,nmK y.2,b,.inl f2,rfl,hb,(gT h4 my).symm⟩,hY _ _ ⟨rfl,?_⟩⟩;rw[cg hy];unfold ax;rw[Zx];rfl
 rintro zs l3 H' ⟨rfl,rfl⟩ g3;rw[lys,y7];have w3:=ah g3 (.lst (ax N));have e3:upd H' l3 (.lst (ax N)) l3=some (.lst (ax N)):=ad;refine⟨D1,l3,_,_,rfl,rfl,w3 _ _ eD12,e3,du (by rw[aR,aR];omega),fun l4 g4=>hR0 _ _ ?_⟩;clear hR0 R0;have eMN:ax M++ax N=ax (M++N):=by unfold ax;rw[Zx]
 rw[eMN];have w4:=w3.trans (ah g4 (.lst (ax (M++N))));have e4:upd (upd H' l3 (.lst (ax N))) l4 (.lst (ax (M++N))) l4=some (.lst (ax (M++N))):=ad;generalize upd (upd H' l3 (.lst (ax N))) l4 (.lst (ax (M++N)))=H4 at w4 e4 ⊢;have sT4:SameT T H H4:=fun b o e hb=>w4 _ _ (sT2 _ _ (sT1 _ _ e hb) hb);have tab4:=ao tab2 w4;have hc4:=w4 _ _ (kt2.ts _ _ (kt1.ts _ _ hc));have dr4:∀x∈M++N,DR H4 x.1 x.2/\x.2.h<n:=fun x hx=>by
  have hL:x∈L:=by
   rcases Zu.mp hx with hx|hx
   ·exact rd.sub x hx
   ·exact wt.sub x hx
  exact⟨(f3 x hL).same w4,(h4.len _ (Zl.mpr ⟨x,hL,rfl⟩)).2⟩
 have lMN:(M++N).length<=126:=by rw[Zi];omega
 have q':=fun D H'=>q D H' M M' N rd rd' wt;clear q;generalize M++N=B at e4 dr4 lMN q' ⊢;refine⟨_,rfl,l4,rfl,⟨_,SqL.of e4⟩,?_⟩;refine ii (fun i zs H'=>Same H4 H'/\zs=ax ((B.take i).filter (bp cs))) (by rw[aR];omega) (fun i zs H' z=>by rw[z.2,aR];exact ZV (Yk _ _) (by rw[ZE];omega)) ⟨Same.refl _,rfl⟩ (fun i zs H' z=>SqL.of (z.1 _ _ e4)) ?_ ?_
 ·rintro i zs H' v hv ⟨sm,rfl⟩ Y hY;obtain⟨y,hy,my,rfl⟩:=dN hv;obtain⟨dy,ly⟩:=dr4 y my;refine⟨_,rfl,_,rfl,y.1,y.2,rfl,dy.same sm,fun t H5 s5 e5=>?_⟩;have ec5:atI (cs.map V.int) (y.2.h:Int)=some (.int (ag cs y.2.h)):=dG (by omega);refine⟨c,t,cs.map V.int,(y.2.h:Int),ag y.2.ns y.2.h,ag cs y.2.h,rfl,s5 _ _ (sm _ _ hc4),e5,ec5,_,rfl,?_⟩;have tk:ax ((B.take (i+1)).filter (bp cs))=ax ((B.take i).filter (bp cs))++if bp cs y=true then[.ref y.1]else[]:=by
   rw[cg hy,YI];unfold ax;rw[Zx];congr 1;by_cases c:bp cs y=true
   ·rw[if_pos c,Ya c];rfl
   ·rw[if_neg c,Yb c];rfl
  have eb:(!decide (ag y.2.ns y.2.h<=ag cs y.2.h))=bp cs y:=by unfold bp;rw[YF];simp
  show if(!decide (ag y.2.ns y.2.h<=ag cs y.2.h))=true then _ else _
  rw[eb];cases c':bp cs y with
  |true =>refine aW ⟨_,rfl,hY _ _ ⟨sm.trans s5,?_⟩⟩;rw[tk,c',if_pos rfl]
  |false =>refine aF (hY _ _ ⟨sm.trans s5,?_⟩);rw[tk,c',if_neg (by decide),ZF]
 rintro zs D5 H' ⟨sm,rfl⟩ gD5;rw[aR,y7];have w5:=sm.trans (ah gD5 (.lst (ax (B.filter (bp cs)))));exact q' D5 _ (fun b o e hb=>w5 _ _ (sT4 _ _ e hb)) (ao tab4 w5) ad (lZ sT4 tab4 (sm.free gD5))
theorem fD{d e:Dd}:nmZ d=nmZ e↔nmK d=nmK e:=by
 unfold nmZ nmK;constructor
 ·intro h;injection h with h1 h2;injection h2 with h2 _;rw[h1,h2]
 ·intro h;injection h with h1 h2;injection h2 with h2 _;injection h1 with h1;injection h2 with h2;rw[h1,h2]
theorem dU{n:Nat}{L:LT}(u:UN n (vals L)){x y:Addr×Dd}(hx:x∈L)(hy:y∈L)(h:nmK x.2=nmK y.2):x=y:=by have e1:=gT u hx;rw[h,gT u hy]at e1;injection e1 with e1;injection e1 with e1;exact Prod.ext e1.symm (jd u.uni (Zl.mpr ⟨x,hx,rfl⟩) (Zl.mpr ⟨y,hy,rfl⟩) h)
theorem yY{L:LT}(g:Addr×Dd->Bool):((L.filter fun x=>!g x)++L.filter g).Perm L:=by
 induction L with
 |nil=>exact .nil
 |cons x L ih =>
  cases c:g x with
  |true =>rw[Yb (by rw[c];decide),Ya c];exact List.perm_middle.trans (ih.cons x)
  |false =>rw[Ya (by rw[c];rfl),Yb (by rw[c];decide)];exact ih.cons x
theorem jH{α:Type}:∀{A B:List α},A.Nodup->(∀x∈A,x∈B)->A.length<=B.length
 | [],_,_,_=>ZZ _
 |a::A,B,h,s=>by
  obtain⟨B1,B2,rfl⟩:=List.append_of_mem (s a Yn);rw[List.nodup_cons]at h;have:=jH (A:=A) (B:=B1++B2) h.2 fun x hx=>by
   have:=s x (Z2 _ hx);rcases Zu.mp this with y|y
   ·exact ZM _ y
   ·rcases Zs.mp y with rfl|y
    ·exact absurd hx h.1
    ·exact Zz _ y
  rw[Zi]at this;rw[Zt,Zi,Zt];omega
abbrev bQ(x:Addr×Dd):Int:=ag x.2.ns x.2.h
structure Wld(n:Nat)(Ds:LT):Prop where
 un:UN n (vals Ds)
 fit:∀x∈Ds,Fit n x.2
 ch:Ch n (vals Ds)
def inB(S:LT)(x:Addr×Dd):Bool:=decide (nmZ x.2∈aQ S)
theorem di(S:LT)(x:Addr×Dd):au S x=!inB S x:=rfl
def aq(S Ds:LT)(x:Addr×Dd):Bool:=inB S x&&Ds.all fun y=>!decide (bQ y<=ag x.2.ns y.2.h) ||inB S y
theorem aP{S Ds:LT}{x:Addr×Dd}:aq S Ds x=true↔inB S x=true/\∀y∈Ds,bQ y<=ag x.2.ns y.2.h->inB S y=true:=by
 unfold aq;rw[ZN,Z6];refine and_congr_right fun _=>forall_congr' fun y=>forall_congr' fun _=>?_;by_cases c:bQ y<=ag x.2.ns y.2.h
 ·rw[decide_eq_true c];simp[c]
 ·rw[decide_eq_false c];simp[c]
theorem fR{n:Nat}{Ds S:LT}(w:Wld n Ds)(sub:∀x∈S,x∈Ds){x:Addr×Dd}(hx:x∈Ds):inB S x=true↔x∈S:=by
 unfold inB aQ;rw[Y0,Zl];constructor
 ·rintro⟨y,hy,e⟩;rw[<-dU w.un (sub y hy) hx (fD.mp e)];exact hy
 ·exact fun h=>⟨x,h,rfl⟩
theorem Wld.at{n:Nat}{Ds:LT}(w:Wld n Ds){k:Nat}(hk:k<Ds.length){i:Nat}(hi:i<n)(hl:aB Ds[k].2 i>0):∃y∈Ds.take k,y.2.h=i/\bQ y=aB Ds[k].2 i/\leC y.2.ns Ds[k].2.ns:=by
 have hv:(vals Ds)[k]'(by rw[eS];exact hk)=Ds[k].2:=by unfold vals;rw[List.getElem_map]
 obtain⟨e,he,e1,e2,e3⟩:=w.ch k (by rw[eS];exact hk) i hi (by rw[hv];exact hl);rw[hv]at e2 e3;unfold vals at he;rw[<-List.map_take]at he;obtain⟨y,hy,rfl⟩:=Zl.mp he;exact⟨y,hy,e1,e2,e3⟩
theorem Wld.ans{n:Nat}{Ds:LT}(w:Wld n Ds){x:Addr×Dd}(hx:x∈Ds){i:Nat}(hi:i<n)(hl:aB x.2 i>0):∃y∈Ds,y.2.h=i/\bQ y=aB x.2 i/\leC y.2.ns x.2.ns:=by obtain⟨k,hk,rfl⟩:=ZG.mp hx;obtain⟨y,hy,r⟩:=w.at hk hi hl;exact⟨y,y6 hy,r⟩
theorem gW(d:Dd)(i:Nat):aB d i<=ag d.ns i:=by unfold aB;split<;>omega
theorem fe{n:Nat}{S Ds:LT}(w:Wld n Ds){x y:Addr×Dd}(hx:aq S Ds x=true)(hy:y∈Ds)(t:bQ y<=ag x.2.ns y.2.h)(le:leC y.2.ns x.2.ns):aq S Ds y=true:=by obtain⟨_,h2⟩:=aP.mp hx;refine aP.mpr ⟨h2 y hy t,fun z hz tz=>h2 z hz (Int.le_trans tz (le z.2.h ?_))⟩;rw[(w.fit y hy).len];exact(w.fit z hz).hd
theorem wQ{Ds:LT}{g:Addr×Dd->Bool}{k:Nat}(hk:k<(Ds.filter g).length):∃j,∃hj:j<Ds.length,Ds[j]=(Ds.filter g)[k]/\(Ds.take j).filter g=(Ds.filter g).take k:=by
 induction Ds generalizing k with
 |nil=>exact absurd hk (Nat.not_lt_zero _)
 |cons x Ds ih =>
  cases c:g x with
  |true =>
   have e:=Ya (l:=Ds) c;cases k with
   |zero=>exact⟨0,Nat.succ_pos _,by simp only[e];rfl,by rw[e];rfl⟩
   |succ k =>
    have hk':k<(Ds.filter g).length:=by rw[e,Zt]at hk;omega
    obtain⟨j,hj,e1,e2⟩:=ih hk';refine⟨j+1,Nat.succ_lt_succ hj,?_,?_⟩
    ·simp only[e,List.getElem_cons_succ];exact e1
    ·rw[List.take_succ_cons,Ya c,e,List.take_succ_cons,e2]
  |false =>
   have e:=Yb (l:=Ds) (a:=x) (p:=g) (by rw[c];decide);have hk':k<(Ds.filter g).length:=by rw[e]at hk;exact hk
   obtain⟨j,hj,e1,e2⟩:=ih hk';refine⟨j+1,Nat.succ_lt_succ hj,?_,?_⟩
   ·simp only[e,List.getElem_cons_succ];exact e1
   ·rw[List.take_succ_cons,Yb (by rw[c];decide),e,e2]
theorem BE{n:Nat}{S Ds:LT}(w:Wld n Ds):Ch n (vals (Ds.filter (aq S Ds))):=fun k hk i hi hl=>by
 rw[eS]at hk;have hv:(vals (Ds.filter (aq S Ds)))[k]'(by rw[eS];exact hk)=(Ds.filter (aq S Ds))[k].2:=by unfold vals;rw[List.getElem_map]
 rw[hv]at hl ⊢;obtain⟨j,hj,e1,e2⟩:=wQ hk;have hkp:aq S Ds (Ds.filter (aq S Ds))[k]=true:=(Zn.mp (ZC hk)).2;rw[<-e1]at hl hkp ⊢;obtain⟨y,hy,y1,y2,y3⟩:=w.at hj hi hl;have hyD:=y6 hy;have ky:=fe w hkp hyD (by rw[y2,y1];exact gW _ _) y3;refine⟨y.2,?_,y1,y2,y3⟩;unfold vals;rw[<-List.map_take,<-e2];exact Zl.mpr ⟨y,Zn.mpr ⟨hy,ky⟩,rfl⟩
theorem zn{n:Nat}{L Ds:LT}(w:Wld n Ds)(sub:∀x∈L,x∈Ds):Sat n (vals L) (vals (Ds.filter (aq L Ds))):=fun d hd h=>by
 obtain⟨x,hx,rfl⟩:=Zl.mp hd;have hxD:=sub x hx;refine Zl.mpr ⟨x,Zn.mpr ⟨hxD,aP.mpr ⟨(fR w sub hxD).mpr hx,fun y hy t=>?_⟩⟩,rfl⟩;have fx:=w.fit x hxD;have fy:=w.fit y hy;have o1:=fy.own;by_cases c:bQ y<=aB x.2 y.2.h
 ·obtain⟨e,he,e1,e2,_⟩:=h y.2.h fy.hd (by have:bQ y=ag y.2.ns y.2.h:=rfl;omega);obtain⟨z,hz,rfl⟩:=Zl.mp he;obtain⟨_,hk⟩:=Zn.mp hz;refine(aP.mp hk).2 y hy ?_;rw[<-e1,e2];exact c
 ·have hh:y.2.h=x.2.h:=by
   by_cases e:y.2.h=x.2.h
   ·exact e
   ·rw[eM e]at c;exact absurd t c
  have e2:bQ y=bQ x:=by rw[hh,bW]at c;rw[hh]at t;show bQ y=ag x.2.ns x.2.h;omega
  have:y=x:=dU w.un hy hxD (cI.mpr ⟨hh,e2⟩);rw[this];exact(fR w sub hxD).mpr hx
theorem dY{n:Nat}{L Ds M:LT}(w:Wld n Ds)(uL:UN n (vals L))(sub:∀x∈L,x∈Ds)(rd:RDY L M):(vals M).Pairwise kLt/\M.Perm (Ds.filter (aq L Ds)):=by
 obtain⟨S,pS,sS,rfl⟩:=rd;have inL:∀x∈Ds.filter (aq L Ds),x∈L:=fun x hx=>by obtain⟨h1,h2⟩:=Zn.mp hx;exact(fR w sub h1).mp (aP.mp h2).1
 have hT:∀d∈vals (Ds.filter (aq L Ds)),d∈vals L:=fun d hd=>by obtain⟨x,hx,rfl⟩:=Zl.mp hd;exact Zl.mpr ⟨x,inL x hx,rfl⟩
 have hF:∀x,x∈Ds.filter (aq L Ds)↔x∈L/\x.2∈vals (Ds.filter (aq L Ds)):=fun x=>by
  constructor
  ·exact fun h=>⟨inL x h,Zl.mpr ⟨x,h,rfl⟩⟩
  ·rintro⟨h1,h2⟩;obtain⟨y,hy,e⟩:=Zl.mp h2;have:y=x:=dU uL (inL y hy) h1 (by rw[e]);rw[<-this];exact hy
 obtain⟨pw,pm,_⟩:=Ao uL pS sS (BE w) hT (zn w sub) hF ((bT w.un).sublist Yv);exact⟨pw,pm⟩
def cN(T:LT)(i:Nat):List Int:=(T.filter fun x=>decide (x.2.h=i)).map bQ
theorem mY(T:LT)(i:Nat):((cN T i).length:Int)=bE (vals T) i:=by unfold cN bE vals;rw[z9,List.countP_map,List.countP_eq_length_filter];rfl
theorem bO{T:LT}{i:Nat}{z:Int}:z∈cN T i↔∃x∈T,x.2.h=i/\bQ x=z:=by
 unfold cN;rw[Zl];constructor
 ·rintro⟨x,hx,e⟩;obtain⟨h1,h2⟩:=Zn.mp hx;exact⟨x,h1,ZJ h2,e⟩
 ·rintro⟨x,h1,h2,e⟩;exact⟨x,Zn.mpr ⟨h1,decide_eq_true h2⟩,e⟩
theorem Dg{n:Nat}{Ds T:LT}(w:Wld n Ds)(hT:T.Sublist Ds)(i:Nat):(cN T i).Nodup:=by unfold cN;rw[y8,Z7];have uu:=w.un.uni;unfold vals at uu;rw[Z7]at uu;have u2:=(uu.sublist hT).sublist (Yv (p:=fun x=>decide (x.2.h=i)));refine List.Pairwise.imp_of_mem (fun{a b} ha hb h e=>h ?_) u2;have h1:=ZJ (Zn.mp ha).2;have h2:=ZJ (Zn.mp hb).2;exact cI.mpr ⟨by rw[h1,h2],e⟩
theorem kj{n:Nat}{S Ds:LT}(w:Wld n Ds){i:Nat}(hi:i<n):∀(m:Nat) {z:Int},z∈cN (Ds.filter (aq S Ds)) i->1<=z-m->z-m∈cN (Ds.filter (aq S Ds)) i
 |0,z,h,_=>by rw[show z-((0:Nat):Int)=z by omega];exact h
 |m+1,z,h,h1=>by
  have ih:=kj w hi m h (by omega);obtain⟨x,hx,e1,e2⟩:=bO.mp ih;obtain⟨hxD,hk⟩:=Zn.mp hx;have hl:aB x.2 i=z-m-1:=by rw[<-e1,bW];have:bQ x=ag x.2.ns x.2.h:=rfl;omega
  obtain⟨y,hy,y1,y2,y3⟩:=w.ans hxD hi (by rw[hl];omega);refine bO.mpr ⟨y,Zn.mpr ⟨hy,fe w hk hy (by rw[y2,y1];exact gW _ _) y3⟩,y1,?_⟩;rw[y2,hl];omega
theorem tO{n:Nat}{S Ds:LT}(w:Wld n Ds){i:Nat}{z:Int}(h:z∈cN (Ds.filter (aq S Ds)) i):1<=z:=by obtain⟨x,hx,_,rfl⟩:=bO.mp h;exact(w.fit x (Zn.mp hx).1).own
theorem rk{n:Nat}{S Ds:LT}(w:Wld n Ds){i:Nat}(hi:i<n){z:Int}(h:z∈cN (Ds.filter (aq S Ds)) i):z<=bE (vals (Ds.filter (aq S Ds))) i:=by
 have h1:=tO w h;have nd:((List.range z.toNat).map fun k:Nat=>z-(k:Int)).Nodup:=by rw[y8,Z7];exact List.pairwise_lt_range.imp fun{a b} hab e=>by omega
 have:=jH nd (B:=cN (Ds.filter (aq S Ds)) i) fun y hy=>by obtain⟨k,hk,rfl⟩:=Zl.mp hy;have:=ZL.mp hk;exact kj w hi k h (by omega)
 rw[z9,ZI]at this;rw[<-mY];omega
theorem jK{n:Nat}{S Ds:LT}(w:Wld n Ds){i:Nat}(hi:i<n){j:Int}(j1:1<=j)(h:j<=bE (vals (Ds.filter (aq S Ds))) i):j∈cN (Ds.filter (aq S Ds)) i:=by
 by_cases c:j∈cN (Ds.filter (aq S Ds)) i
 ·exact c
 ·exfalso;have lt:∀z∈cN (Ds.filter (aq S Ds)) i,z<j:=fun z hz=>by
   rcases Int.lt_or_le z j with h1|h1
   ·exact h1
   ·exfalso;have:=kj w hi (z-j).toNat hz (by omega);rw[show z-((z-j).toNat:Int)=j by omega]at this;exact c this
  have:=jH (Dg w Yv i) (B:=(List.range (j-1).toNat).map fun k:Nat=>(k:Int)+1) fun z hz=>by have h1:=lt z hz;have h2:=tO w hz;exact Zl.mpr ⟨(z-1).toNat,ZL.mpr (by omega),by omega⟩
  rw[z9,ZI]at this;rw[<-mY]at h;omega
theorem yU{A B:LT}(p:A.Perm B)(i:Nat):bE (vals A) i=bE (vals B) i:=by unfold bE vals;rw[(p.map Prod.snd).countP_eq]
theorem AA{n:Nat}{L Ds M:LT}(w:Wld n Ds)(uL:UN n (vals L))(sub:∀x∈L,x∈Ds)(rd:RDY L M){x:Addr×Dd}(hx:x∈Ds)(ho:au L x=true):bp (aS n (vals M)) x=true:=by
 obtain⟨_,pm⟩:=dY w uL sub rd;have fx:=w.fit x hx;unfold bp;rw[cD fx.hd,yU pm];refine decide_eq_true ?_;rcases Int.lt_or_le (bE (vals (Ds.filter (aq L Ds))) x.2.h) (ag x.2.ns x.2.h)with h|h
 ·exact h
 ·exfalso;obtain⟨y,hy,y1,y2⟩:=bO.mp (jK w fx.hd fx.own h);obtain⟨hyD,hk⟩:=Zn.mp hy;have:y=x:=dU w.un hyD hx (cI.mpr ⟨y1,y2⟩);rw[this]at hk;rw[di,(aP.mp hk).1]at ho;cases ho
theorem xW{n:Nat}{L Ds M:LT}(w:Wld n Ds)(uL:UN n (vals L))(sub:∀x∈L,x∈Ds)(rd:RDY L M)(x:Addr×Dd):inB M x=inB (Ds.filter (aq L Ds)) x:=by obtain⟨_,pm⟩:=dY w uL sub rd;unfold inB aQ;rw[decide_eq_decide];exact(pm.map _).mem_iff
theorem jX{n:Nat}{L Ds M M' N:LT}(w:Wld n Ds)(uL:UN n (vals L))(sub:∀x∈L,x∈Ds)(rd:RDY L M)(rd':RDY L M')(wt:Wt L M' N):(M++N).Perm L:=by
 have e:au M'=au M:=funext fun x=>by rw[di,di,xW w uL sub rd x,xW w uL sub rd' x]
 have h1:=wt.1;rw[e]at h1;obtain⟨_,pm⟩:=dY w uL sub rd;have nM:M.Nodup:=pm.nodup_iff.mpr ((bT w.un).sublist Yv);have nL:=bT uL;have h2:M.Perm (L.filter fun x=>!au M x):=by
  rw[List.perm_ext_iff_of_nodup nM (nL.sublist Yv)];intro x;rw[Zn];constructor
  ·intro hx;refine⟨rd.sub x hx,?_⟩;rw[di,Bool.not_not];exact decide_eq_true (Zl.mpr ⟨x,hx,rfl⟩)
  ·rintro⟨hx,hi⟩;rw[di,Bool.not_not]at hi;obtain⟨y,hy,e⟩:=Zl.mp (ZJ hi);rw[<-dU uL (rd.sub y hy) hx (fD.mp e)];exact hy
 exact(h2.append h1).trans (yY _)
theorem CT{k:Nat}{f:Addr}{fd:FuncData}{ps:List Str}{sp:Sp}(F:FnOk P w K mg base CX0 k f fd ps sp):FnOk P w K mg base (CXr P w) k f fd ps sp :=
 ⟨F.len,fun A outer s H args us vs Q E hr he hb hv hs=>codeAny_mono (F.run A outer s H args us vs Q E hr he hb hv hs) fun res s' hq=>by
  cases res with
  |error e=>exact False.elim hq
  | ok fl=>cases fl<;>exact hq⟩
theorem mX(n:Nat)(d:Addr):(fj n d).lookup ("hear":Str)=none:=gR n d (by decide +kernel) (by decide +kernel)
theorem tN(n:Nat)(d:Addr):(fj n d).lookup ("told":Str)=none:=gR n d (by decide +kernel) (by decide +kernel)
theorem ki(n:Nat)(d:Addr):(fj n d).lookup ("clock":Str)=none:=gR n d (by decide +kernel) (by decide +kernel)
abbrev eQ:Stmt:=top 42
abbrev mD:List Str:=["store","deed"]
theorem mf:FnScope mD ["store","deed"] (aj eQ):=⟨rfl,rfl,rfl,by decide +kernel,rfl,by decide +kernel,by decide +kernel⟩
theorem lP{f C cL:Addr}{bmh:List Value}{fd:FuncData}(F:Fun K "takes_as_new" "takes_as_new" eQ f fd)(MX_hear:MFnX P w K mg base 8 C "hear" ["self","deed"] (hV C))(xc_LimbError:ExC K cL bmh)(g_LimbError:mg "LimbError" = some (.ref cL)):FnOk P w K mg base CX0 9 f fd ["store","deed"] (hV C):=by
 refine F.okQ mf (fun vs H Q E h=>?_) (fun cdv A outer s H vs Q E hr h=>?_)
 ·obtain⟨p,d,a,n,L,e,rfl,_⟩:=h;rfl
 obtain⟨p,d,a,n,L,e,rfl,S,hd,ft,q⟩:=h;obtain⟨⟨dx,h1⟩,_⟩:=id S;refine⟨_,(b_1 (Ep rfl rfl (Et (EJ MX_hear (hr.mono (by decide)) (q_v 0) (q_a (q_v 1) ai))) (FN xc_LimbError g_LimbError (fun _=>(b_1 (aw bP))) EY))),?_⟩
 try rw[cxK]
 exact⟨_,rfl,p,dx,_,rfl,h1,mX _ _,_,rfl,p,d,a,n,L,e,rfl,S,hd,ft,q⟩
def tZ(C:Addr):Sp:=fun vs H Q _=>∃(p d l:Addr) (n:Nat) (L B:LT),vs=[.ref p,.ref l]/\StoreAt C H p d n L/\LR H l B/\B.length<=126/\(B.Pairwise fun x y=>nmK x.2≠nmK y.2)/\(∀x∈B,Fit n x.2)/\(∀x∈B,au L x=false->∃y∈L,y.2=x.2)/\(L++B.filter (au L)).length<=63 /\
 ∀H',SameT d H H'->StoreAt C H' p d n (L++B.filter (au L))->Q (.int ((B.filter (au L)).length:Int)) H'
theorem bS{d r:Addr}{H H':Hp}{xs:List V}{kvs:List (List Key×V)}(s:SameT d H H')(hd:H d=some (.dT kvs))(e:H r=some (.lst xs)):H' r=some (.lst xs):=s _ _ e fun z=>by rw[z,hd]at e;cases e
theorem dh{d:Addr}{H H':Hp}{kvs:List (List Key×V)}(s:SameT d H H')(hd:H d=some (.dT kvs)):TS H H':=fun b zs e=>s _ _ e fun z=>by rw[z,hd]at e;cases e
theorem CL{d r:Addr}{H H':Hp}{L:LT}{kvs:List (List Key×V)}(s:SameT d H H')(hd:H d=some (.dT kvs))(x:LR H r L):LR H' r L:=⟨bS s hd x.1,fun y hy=>(x.2 y hy).ts (dh s hd)⟩
theorem dL{C d p d':Addr}{H H':Hp}{n:Nat}{L:LT}{kvs:List (List Key×V)}(s:SameT d H H')(hd:H d=some (.dT kvs))(x:StoreAt C H p d' n L)(ne:d'≠d):StoreAt C H' p d' n L:=by obtain⟨⟨dx,h1⟩,h2,h3,h4,h5,h6,h7⟩:=x;exact⟨⟨dx,s _ _ h1 fun z=>by rw[z,hd]at h1;cases h1⟩,s _ _ h2 ne,fun y hy=>(h3 y hy).ts (dh s hd),h4,h5,h6,h7⟩
theorem gh{C T:Addr}{H H':Hp}{p d:Addr}{n:Nat}{L:LT}(S:StoreAt C H p d n L)(t:aE bv T (bA br) H)(s:SameT d H H'):aE bv T (bA br) H':=dR (r:=d) t s fun f hf=>by rw[S.dc]at hf;cases hf;exact⟨fun ps e=>(by cases e),fun c e=>(by cases e)⟩
abbrev gH:Stmt:=top 41
abbrev rS:List Str:=["store","deeds","new","deed"]
theorem eC:FnScope rS ["store","deeds"] (aj gH):=⟨rfl,rfl,rfl,by decide +kernel,rfl,by decide +kernel,by decide +kernel⟩
theorem qO{f C:Addr}{fd:FuncData}(F:Fun K "count_new" "count_new" gH f fd)(F_takes_as_new:Fn P w K mg base 9 "takes_as_new" ["store","deed"] (hV C)):FnOk P w K mg base CX0 10 f fd ["store","deeds"] (tZ C):=by
 refine F.okQ eC (fun vs H Q E h=>?_) (fun cdv A outer s H vs Q E hr h=>?_)
 ·obtain⟨p,d,l,n,L,B,rfl,_⟩:=h;rfl
 obtain⟨p,d,l,n,L,B,rfl,S,lr,lB,pw,ft,old,len,q⟩:=h;refine⟨_,(b_c (bh (i:=2) eC.nd al)
   (b_c (cZ Yg rfl (bV (q_v 1)) (aK (i:=3) eC.nd) (b_1 (bt (bR (aL F_takes_as_new (hr.mono (by decide)) (q_a (q_v 0) (q_a (q_v 3) ai)))) (b_1 (Fw (i:=2) eC.nd al FP)) b_0)))
   (b_1 (aw (q_v 2))))),?_⟩
 try rw[cxK]
 refine aA fun R0 hR0=>?_;refine hR0 _ _ ?_;clear hR0 R0;refine aA fun R0 hR0=>?_;refine⟨_,rfl,l,rfl,⟨_,SqL.of lr.1⟩,?_⟩;refine cA (K:=K) (a:=l) (xs:=ax B) (fun i σ H'=>SameT d H H'/\StoreAt C H' p d n (L++(B.take i).filter (au L))/\∃o3,σ=[some (.ref p),some (.ref l),some (.int (((B.take i).filter (au L)).length:Int)),o3])
  ⟨fun b o e _=>e,by rw[List.take_zero,List.filter_nil,ZF];exact S,none,rfl⟩ (fun i σ H' _ z=>SqL.of (bS z.1 S.dc lr.1)) ?_ ?_
 ·rintro i v σ H' hv ⟨kp,S',o3,rfl⟩ DL hDL;obtain⟨z,hz,hm,rfl⟩:=dN hv;have hi:i<B.length:=(Zy.mp hz).1;have dz:=(lr.2 z hm).ts (dh kp S.dc);have tk:(B.take (i+1)).filter (au L)=(B.take i).filter (au L)++if au L z=true then[z]else[]:=by
   rw[cg hz,YI];congr 1;cases c:au L z with
   |true=>rw[if_pos rfl,Ya c];rfl
   |false=>rw[if_neg (by decide),Yb (by rw[c];decide)];rfl
  refine⟨_,rfl,_,rfl,p,d,z.1,n,_,z.2,rfl,S',dz,ft z hm,?_⟩;cases c:au L z with
  |true =>
   rw[c,if_pos rfl]at tk;refine .inl ⟨?_,fun x hx=>?_,fun H6 s6 S6=>?_⟩
   ·have h1:((B.take (i+1)).filter (au L)).length<=(B.filter (au L)).length:=(List.Sublist.filter (au L) (ZH (i+1) B)).length_le;rw[tk,Zi,ZU]at h1;rw[Zi]at len ⊢;omega
   ·rcases Zu.mp hx with hx|hx
    ·intro e;have:nmZ z.2∈aQ L:=Zl.mpr ⟨x,hx,fD.mpr e⟩;have c':(!decide (nmZ z.2∈aQ L))=true:=c;rw[decide_eq_true this]at c';cases c'
    ·have hy:=(Zn.mp hx).1;obtain⟨j',hj',rfl⟩:=ZG.mp hy;rw[ZE]at hj';rw[YL];have:=Zw.mp pw j' i (by omega) hi (by omega);obtain⟨_,e⟩:=Zy.mp hz;rw[e]at this;exact this
   ·rw[ZD]at S6;refine⟨_,rfl,aW ?_⟩;refine⟨_,rfl,_,_,rfl,rfl,hDL _ _ ⟨fun b o e hb=>s6 _ _ (kp _ _ e hb) hb,by rw[tk];exact S6,some (.ref z.1),?_⟩⟩;rw[tk,Zi,Int.natCast_add];rfl
  |false =>rw[c,if_neg (by decide),ZF]at tk;obtain⟨y,hy,e⟩:=old z hm c;refine .inr ⟨⟨y,ZM _ hy,e⟩,fun H6 s6=>⟨_,rfl,aF (hDL _ _ ⟨fun b o e hb=>s6 _ _ (kp _ _ e hb),by rw[tk];exact S'.same s6,some (.ref z.1),by rw[tk];rfl⟩)⟩⟩
 rintro σ H' ⟨kp,S',o3,rfl⟩;rw[aR,y7]at S';refine hR0 _ _ ?_;rw[aR,y7];exact⟨_,rfl,q H' kp S'⟩
def KD(d1 d2:Addr)(H H':Hp):Prop:=∀b o,H b=some o->(∀ps,o≠.tbl ps)->b≠d1->b≠d2->H' b=some o
def rH(C T:Addr):Sp:=fun vs H Q _=>∃(p1 d1 p2 d2:Addr) (n:Nat) (L1 L2 Ds:LT),vs=[.ref p1,.ref p2]/\StoreAt C H p1 d1 n L1/\StoreAt C H p2 d2 n L2/\aE bv T (bA br) H/\(d1≠d2\/(p1=p2/\d1=d2/\L1=L2))/\Wld n Ds/\(∀x∈L1,x∈Ds)/\(∀x∈L2,x∈Ds)/\Ds.length<=63 /\
 ∀t X1 X2 H',X1.Perm (L2.filter (au L1))->X2.Perm (L1.filter (au L2))->KD d1 d2 H H'->aE bv T (bA br) H'->StoreAt C H' p1 d1 n (L1++X1)->StoreAt C H' p2 d2 n (L2++X2)->H' t=some (.tup ([(X1.length:Int),(X2.length:Int)].map V.int))->Q (.ref t) H'
theorem qR(L:LT):L.filter (au L)=[]:=List.filter_eq_nil_iff.mpr fun x hx h=>by have h':(!decide (nmZ x.2∈aQ L))=true:=h;rw[decide_eq_true (show nmZ x.2∈aQ L from Zl.mpr ⟨x,hx,rfl⟩)]at h';cases h'
theorem lg{L:LT}{x:Addr×Dd}{n:Nat}{Ds:LT}(w:Wld n Ds)(sub:∀x∈L,x∈Ds)(hx:x∈Ds)(h:au L x=false):x∈L:=by rw[di,Bool.not_eq_false']at h;exact(fR w sub hx).mp h
theorem jY{n:Nat}{Ds L X:LT}(w:Wld n Ds)(uL:UN n (vals L))(sub:∀x∈L,x∈Ds)(nX:X.Nodup)(sX:∀x∈X,x∈Ds/\au L x=true):(L++X).Nodup/\(L++X).length<=Ds.length:=by
 have nd:(L++X).Nodup:=List.nodup_append.mpr ⟨bT uL,nX,fun a ha b hb e=>by
  obtain⟨h1,h2⟩:=sX b hb;rw[<-e]at h1 h2;rw[di,(fR w sub h1).mpr ha]at h2;cases h2⟩
 refine⟨nd,jH nd fun x hx=>?_⟩;rcases Zu.mp hx with hx|hx
 ·exact sub x hx
 ·exact(sX x hx).1
theorem rM{n:Nat}{Ds L1 L2 M1 M2 M2' N2:LT}(w:Wld n Ds)(u1:UN n (vals L1))(u2:UN n (vals L2))(s1:∀x∈L1,x∈Ds)(s2:∀x∈L2,x∈Ds)(r1:RDY L1 M1)(r2:RDY L2 M2)(r2':RDY L2 M2')(w2:Wt L2 M2' N2) :
  (((M2++N2).filter (bp (aS n (vals M1)))).filter (au L1)).Perm (L2.filter (au L1))/\((M2++N2).filter (bp (aS n (vals M1)))).Pairwise (fun x y=>nmK x.2≠nmK y.2)/\(∀x∈(M2++N2).filter (bp (aS n (vals M1))),x∈Ds):=by
 have pa:=jX w u2 s2 r2 r2' w2;have sub:∀x∈(M2++N2).filter (bp (aS n (vals M1))),x∈Ds:=fun x hx=>s2 x (pa.mem_iff.mp (Zn.mp hx).1);refine⟨?_,?_,sub⟩
 ·rw[List.filter_filter];have e:(M2++N2).filter (fun x=>au L1 x&&bp (aS n (vals M1)) x)=(M2++N2).filter (au L1):=List.filter_congr fun x hx=>by
   cases c:au L1 x with
   |false=>rfl
   |true=>rw[AA w u1 s1 r1 (s2 x (pa.mem_iff.mp hx)) c];rfl
  rw[e];exact pa.filter _
 ·have uu:=u2.uni;unfold vals at uu;rw[Z7]at uu;exact(uu.perm pa.symm fun{x y} h e=>h e.symm).sublist Yv
abbrev rg:Stmt:=top 40
abbrev CH:List Str:=["one","other","for_one","for_other"]
theorem nR:FnScope CH ["one","other"] (aj rg):=⟨rfl,rfl,rfl,by decide +kernel,rfl,by decide +kernel,by decide +kernel⟩
theorem BN{f C T:Addr}{fd:FuncData}(F:Fun K "meet" "meet" rg f fd)(M_clock:MFn P w K mg base 7 C "clock" ["self"] (kI C T))(M_told:MFn P w K mg base 8 C "told" ["self","clock"] (yk C T))(F_count_new:Fn P w K mg base 10 "count_new" ["store","deeds"] (tZ C)):FnOk P w K mg base CX0 11 f fd ["one","other"] (rH C T):=by
 refine F.okQ nR (fun vs H Q E h=>?_) (fun cdv A outer s H vs Q E hr h=>?_)
 ·obtain⟨p1,d1,p2,d2,n,L1,L2,Ds,rfl,_⟩:=h;rfl
 obtain⟨p1,d1,p2,d2,n,L1,L2,Ds,rfl,S1,S2,tab,hne,wd,sb1,sb2,lD,q⟩:=h;refine⟨_,(b_c (bh (i:=2) nR.nd (lU M_told (hr.mono (by decide)) (q_v 1) (q_a (cY M_clock (hr.mono (by decide)) (q_v 0)) ai)))
   (b_c (bh (i:=3) nR.nd (lU M_told (hr.mono (by decide)) (q_v 0) (q_a (cY M_clock (hr.mono (by decide)) (q_v 1)) ai)))
   (b_1 (aw (bX (q_a (aL F_count_new (hr.mono (by decide)) (q_a (q_v 0) (q_a (q_v 2) ai))) (q_a (aL F_count_new (hr.mono (by decide)) (q_a (q_v 1) (q_a (q_v 3) ai))) ai))))))),?_⟩
 try rw[cxK]
 have n8:=S1.n8;refine aA fun R0 hR0=>?_;obtain⟨⟨dx2,h2⟩,_⟩:=id S2;obtain⟨⟨dx1,h1⟩,_⟩:=id S1;refine⟨_,rfl,p2,dx2,_,rfl,h2,tN _ _,_,rfl,p1,dx1,_,rfl,h1,ki _ _,p1,d1,n,L1,rfl,S1,tab,fun c1 H1 M1 r1 sT1 tab1 ec1=>?_⟩;have k1:=KT.tab tab sT1;refine⟨p2,d2,c1,n,L2,aS n (vals M1),rfl,S2.kt k1,tab1,ec1,bD _ _,fun D1 H2 M2 M2' N2 r2 r2' w2 sT2 tab2 eD1 nD1=>hR0 _ _ ?_⟩;clear hR0 R0;have k2:=k1.trans (KT.tab tab1 sT2);have S12:=S1.kt k2;have S22:=S2.kt k2;obtain⟨⟨ex2,g2⟩,_⟩:=id S22;obtain⟨⟨ex1,g1⟩,_⟩:=id S12;refine aA fun R0 hR0=>?_;refine⟨_,rfl,p1,ex1,_,rfl,g1,tN _ _,_,rfl,p2,ex2,_,rfl,g2,ki _ _,p2,d2,n,L2,rfl,S22,tab2,fun c2 H3 M3 r3 sT3 tab3 ec2=>?_⟩;have k3:=KT.tab tab2 sT3;refine⟨p1,d1,c2,n,L1,aS n (vals M3),rfl,S12.kt k3,tab3,ec2,bD _ _,fun D2 H4 M4 M4' N4 r4 r4' w4 sT4 tab4 eD2 nD2=>hR0 _ _ ?_⟩;clear hR0 R0;have k24:=k3.trans (KT.tab tab3 sT4);have k4:=k2.trans k24;have S14:=S1.kt k4;have S24:=S2.kt k4;obtain⟨b1,b2,b3⟩:=rM wd S1.un S2.un sb1 sb2 r1 r2 r2' w2;obtain⟨a1,a2,a3⟩:=rM wd S2.un S1.un sb2 sb1 r3 r4 r4' w4;have lB1:((M2++N2).filter (bp (aS n (vals M1)))).length<=126:=by have h:=Yk (bp (aS n (vals M1))) (M2++N2);have:=r2.len;have:=w2.len;have:=S2.len;rw[Zi]at h;omega
 have lB2:((M4++N4).filter (bp (aS n (vals M3)))).length<=126:=by have h:=Yk (bp (aS n (vals M3))) (M4++N4);have:=r4.len;have:=w4.len;have:=S1.len;rw[Zi]at h;omega
 have inL2:∀x∈(M2++N2).filter (bp (aS n (vals M1))),x∈L2:=fun x hx=>(jX wd S2.un sb2 r2 r2' w2).mem_iff.mp (Zn.mp hx).1;have inL1:∀x∈(M4++N4).filter (bp (aS n (vals M3))),x∈L1:=fun x hx=>(jX wd S1.un sb1 r4 r4' w4).mem_iff.mp (Zn.mp hx).1;generalize(M2++N2).filter (bp (aS n (vals M1)))=B1 at eD1 b1 b2 b3 lB1 inL2;generalize(M4++N4).filter (bp (aS n (vals M3)))=B2 at eD2 a1 a2 a3 lB2 inL1;have lr1:LR H4 D1 B1:=⟨k24 _ _ eD1 (fun ps z=>by cases z),fun x hx=>S24.dr x (inL2 x hx)⟩
 have lr2:LR H4 D2 B2:=⟨eD2,fun x hx=>S14.dr x (inL1 x hx)⟩
 have nX1:(B1.filter (au L1)).Nodup:=b1.nodup_iff.mpr ((bT S2.un).sublist Yv);have nX2:(B2.filter (au L2)).Nodup:=a1.nodup_iff.mpr ((bT S1.un).sublist Yv);have len1:=(jY wd S1.un sb1 nX1 fun x hx=>⟨b3 x (Zn.mp hx).1,(Zn.mp hx).2⟩).2;have len2:=(jY wd S2.un sb2 nX2 fun x hx=>⟨a3 x (Zn.mp hx).1,(Zn.mp hx).2⟩).2;clear eD1 eD2 nD1 nD2 sT1 sT2 sT3 sT4 tab1 tab2 tab3 ec1 ec2 k1 k2 k3 k24 S12 S22 g1 g2 r1 r2 r2' w2 r3 r4 r4' w4 h1 h2;refine⟨_,rfl,_,rfl,p1,d1,D1,n,L1,B1,rfl,S14,lr1,lB1,b2,fun x hx=>wd.fit x (b3 x hx),fun x hx ho=>⟨x,lg wd sb1 (b3 x hx) ho,rfl⟩,by omega,fun H5 s5 S15=>?_⟩;have tab5:=gh S14 tab4 s5;have lr25:=CL s5 S14.dc lr2;rcases hne with ne|⟨rfl,rfl,rfl⟩
 ·have S25:=dL s5 S14.dc S24 (Yj ne);refine⟨_,rfl,_,rfl,p2,d2,D2,n,L2,B2,rfl,S25,lr25,lB2,a2,fun x hx=>wd.fit x (a3 x hx),fun x hx ho=>⟨x,lg wd sb2 (a3 x hx) ho,rfl⟩,by omega,fun H6 s6 S26=>?_⟩;have tab6:=gh S25 tab5 s6;have S16:=dL s6 S25.dc S15 ne;refine⟨sz rfl,fun t gt=>?_⟩;have wt:=ah gt (.tup [.int ((B1.filter (au L1)).length:Int),.int ((B2.filter (au L2)).length:Int)]);exact q t _ _ _ b1 a1 (fun b o e n1 n2 n3=>wt _ _ (s6 _ _ (s5 _ _ (k4 _ _ e n1) n2) n3)) (ao tab6 wt) (S16.same wt) (S26.same wt) ad
 ·have e0:=qR L1;rw[e0]at b1 a1;have e1:=List.Perm.eq_nil b1;have e2:=List.Perm.eq_nil a1;rw[e1]at S15;refine⟨_,rfl,_,rfl,p1,d1,D2,n,L1++[],B2,rfl,S15,lr25,lB2,a2,fun x hx=>wd.fit x (a3 x hx),fun x hx ho=>⟨x,?_,rfl⟩,?_,fun H6 s6 S16=>?_⟩
  ·rw[ZF]at ho ⊢;exact lg wd sb1 (a3 x hx) ho
  ·rw[ZF];omega
  ·rw[ZF,e2]at S16;rw[ZF,e2,e1];have tab6:=gh S15 tab5 s6;refine⟨sz rfl,fun t gt=>?_⟩;have wt:=ah gt (.tup [.int ((([]:LT).length:Nat):Int),.int ((([]:LT).length:Nat):Int)]);exact q t [] [] _ (by rw[e0]) (by rw[e0]) (fun b o e n1 n2 n3=>wt _ _ (s6 _ _ (s5 _ _ (k4 _ _ e n1) n2) n3)) (ao tab6 wt) (S16.same wt) (S16.same wt) ad
theorem nj{f C:Addr}{fd:FuncData}(F:Fun K "hear" "Store.hear" dZ f fd)(T:Txt K C)(F_is_deed:Fn P w K mg base 7 "is_deed" ["thing","hands"] (rA K))(F_name_of:Fn P w K mg base 1 "name_of" ["deed"] eG):FnOk P w K mg base (CXr P w) 8 f fd ["self","deed"] (hV C):=CT (iL F T F_is_deed F_name_of)
theorem qY:∀n:Nat,(List.replicate n [V.int 0]).flatten=(List.replicate n (0:Int)).map V.int
 |0=>rfl
 |n+1=>by rw[Y4,YE,qY n];rfl
abbrev ji:Stmt:=top 44
abbrev wf:List Str:=["_law_script","_law_k"]
theorem vK:FnScope wf ["_law_script","_law_k"] (aj ji):=⟨rfl,rfl,rfl,by decide +kernel,rfl,by decide +kernel,by decide +kernel⟩
theorem vp{f:Addr}{fd:FuncData}(F:Fun K "_law_cell_at" "_law_cell_at" ji f fd)(z_len:mg "len" = none):FnOk P w K mg base CX0 1 f fd ["_law_script","_law_k"] (yf K):=by
 refine F.okQ vK (fun vs H Q E h=>?_) (fun cdv A outer s H vs Q E hr h=>?_)
 ·obtain⟨a,ns,k,rfl,_⟩:=h;rfl
 obtain⟨a,ns,k,rfl,hS,h0,q⟩:=h;refine⟨_,(b_c (bt (bj qL (q_v 1) (q_B cC z_len Z9 (q_a (q_v 0) ai))) (b_1 (aw (aC bC (q_v 0) (q_v 1)))) b_0)
   (b_1 (aw al))),?_⟩
 try rw[cxK]
 refine⟨_,rfl,_,rfl,a,_,rfl,.inl hS,_,_,rfl,rfl,_,rfl,?_⟩;refine iw (fun c=>?_) (fun c=>?_)
 ·have c':k<((ns.map V.int).length:Int):=ZJ c;rw[z9]at c';exact⟨_,rfl,_,rfl,a,_,_,_,rfl,rfl,hS,cS h0 c',q⟩
 ·have c':¬k<((ns.map V.int).length:Int):=of_decide_eq_false (y4.mpr c);rw[z9]at c';rw[yS h0 c']at q;exact q
abbrev nI:Stmt:=top 46
abbrev Bp:List Str:=["_law_deed"]
theorem Aq:FnScope Bp ["_law_deed"] (aj nI):=⟨rfl,rfl,rfl,by decide +kernel,rfl,by decide +kernel,by decide +kernel⟩
theorem zJ{f:Addr}{fd:FuncData}(F:Fun K "_law_order" "_law_order" nI f fd)(z_sum:mg "sum" = none):FnOk P w K mg base CX0 1 f fd ["_law_deed"] vU:=by
 refine F.okQ Aq (fun vs H Q E h=>?_) (fun cdv A outer s H vs Q E hr h=>?_)
 ·obtain⟨a,d,rfl,_⟩:=h;rfl
 obtain⟨a,d,rfl,⟨c,v,e1,e2,e3,e4,e5⟩,q⟩:=h;refine⟨_,(b_1 (aw (bX (q_a (q_B (wA (K:=K) rfl rfl) z_sum PyProof.Rows.boot_sum (q_a (aC aI (q_v 0) al) ai)) (q_a (aC aI (q_v 0) al) ai))))),?_⟩
 try rw[cxK]
 refine⟨_,rfl,a,_,_,_,rfl,rfl,SqT.of e1,at1,c,d.ns,rfl,SqT.of e2,_,rfl,a,_,_,_,rfl,rfl,SqT.of e1,at0,sz rfl,fun p g=>?_⟩;exact q p _ (ah g _) ad
abbrev rh:Stmt:=top 45
abbrev CI:List Str:=["_law_deed"]
theorem Cl:FnScope CI ["_law_deed"] (aj rh):=⟨rfl,rfl,rfl,by decide +kernel,rfl,by decide +kernel,by decide +kernel⟩
theorem BO{f:Addr}{fd:FuncData}(F:Fun K "_law_name" "_law_name" rh f fd):FnOk P w K mg base CX0 1 f fd ["_law_deed"] eG:=by
 refine F.okQ Cl (fun vs H Q E h=>?_) (fun cdv A outer s H vs Q E hr h=>?_)
 ·obtain⟨a,d,rfl,_⟩:=h;rfl
 obtain⟨a,d,rfl,⟨c,v,e1,e2,e3,e4,e5⟩,q⟩:=h;refine⟨_,(b_1 (aw (bX (q_a (aC aI (q_v 0) al) (q_a (aC aI (aC aI (q_v 0) al) (aC aI (q_v 0) al)) ai))))),?_⟩
 try rw[cxK]
 refine vix rfl (SqT.of e1) at0 (vix rfl (SqT.of e1) at1 (vix rfl (SqT.of e1) at0 ⟨c,_,_,_,rfl,rfl,SqT.of e2,dG e4,sz rfl,fun p g=>?_⟩));exact q p _ (ah g _) ad
def ke(d:Dd)(cs:List Int):Bool:=(List.range d.ns.length).all fun i=>decide (aB d i<=ag cs i)
def yh:Sp:=fun vs H Q _=>∃(a c:Addr) (d:Dd) (cs:List Int),vs=[.ref a,.ref c]/\DR H a d/\H c=some (.lst (cs.map V.int))/\cs.length=d.ns.length/\Q (.bl (ke d cs)) H
abbrev rf:Stmt:=top 47
abbrev CG:List Str:=["_law_deed","_law_counts","_law_hand"]
theorem tX:FnScope CG ["_law_deed","_law_counts"] (aj rf):=⟨rfl,rfl,rfl,by decide +kernel,rfl,by decide +kernel,by decide +kernel⟩
theorem BM{f:Addr}{fd:FuncData}(F:Fun K "_law_fits" "_law_fits" rf f fd)(z_len:mg "len" = none)(z_range:mg "range" = none)(z_int:mg "int" = none):FnOk P w K mg base CX0 1 f fd ["_law_deed","_law_counts"] yh:=by
 refine F.okQ tX (fun vs H Q E h=>?_) (fun cdv A outer s H vs Q E hr h=>?_)
 ·obtain⟨a,c,d,cs,rfl,_⟩:=h;rfl
 obtain⟨a,c,d,cs,rfl,⟨cl,v,d1,d2,d3,d4,d5⟩,hc,lc,q⟩:=h;refine⟨_,(b_c (cZ Yg rfl (iX z_range (q_a (q_B cC z_len Z9 (q_a (q_v 1) ai)) ai)) (aK (i:=2) tX.nd) (b_1 (bt (bj Di (aX lL (aC aI (aC aI (q_v 0) al) (q_v 2)) (qU EV z_int qa (q_a (cj fu (q_v 2) (aC aI (q_v 0) al)) ai))) (aC bC (q_v 1) (q_v 2))) (b_1 (aw bP)) b_0)))
   (b_1 (aw bP))),?_⟩
 try rw[cxK]
 refine⟨_,rfl,c,_,rfl,.inl (SqL.of hc),_,rfl,by omega,by rw[z9];omega,?_⟩;rw[z9];refine wU (lo:=0) (fun k σ H'=>H'=H/\(∃o2,σ=[some (.ref a),some (.ref c),o2])/\∀i,i<k->aB d i<=ag cs i) ⟨rfl,⟨none,rfl⟩,fun i hi=>absurd hi (by omega)⟩ ?_ ?_
 ·rintro k σ H' hk ⟨rfl,⟨o2,rfl⟩,hall⟩;have hk':k<d.ns.length:=by omega
  have e1:atI (d.ns.map V.int) (0+(k:Int))=some (.int (ag d.ns k)):=by rw[Int.zero_add];exact dG hk'
  have e2:atI (cs.map V.int) (0+(k:Int))=some (.int (ag cs k)):=by rw[Int.zero_add];exact dG (by omega)
  refine vix rfl (SqT.of d1) at1 ⟨_,rfl,cl,_,_,_,rfl,rfl,SqT.of d2,e1,_,rfl,vix rfl (SqT.of d1) at0 ⟨rfl,.inr ⟨_,rfl,_,_,rfl,rfl,?_⟩⟩⟩;have el:ag d.ns k-(if decide (V.int (0+(k:Int))=V.int (d.h:Int))=true then 1 else 0)=aB d k:=by
   unfold aB;by_cases z:k=d.h
   ·rw[if_pos z,if_pos (by rw[Int.zero_add,z];exact decide_eq_true rfl)]
   ·rw[if_neg z,if_neg (by
     rw[decide_eq_true_iff];intro y;injection y with y;omega),Int.sub_zero]
  dsimp only;rw[el];refine⟨_,rfl,_,rfl,c,_,_,_,rfl,rfl,SqL.of hc,e2,_,_,rfl,rfl,_,rfl,zj (fun hc'=>?_) fun hc'=>?_⟩
  ·have e:ke d cs=false:=by
    cases hf:ke d cs with
    |false=>rfl
    |true =>have:=Z6.mp hf k (ZL.mpr hk');have:=ZJ this;omega
   rw[e]at q;exact q
  ·refine⟨rfl,⟨_,rfl⟩,fun i hi=>?_⟩;by_cases z:i=k
   ·rw[z];omega
   ·exact hall i (by omega)
 ·rintro σ H' ⟨rfl,⟨o2,rfl⟩,hall⟩;have e:ke d cs=true:=Z6.mpr fun i hi=>decide_eq_true (hall i (by have:=ZL.mp hi;omega));rw[e]at q;exact q
def knK(Kn:LT):List (List Key×V):=Kn.map fun x=>(nmK x.2,V.bl true)
theorem fT(Kn:LT)(d:Dd):(bw (knK Kn) (nmK d)).isSome=decide (nmZ d∈aQ Kn):=by
 induction Kn with
 |nil=>rfl
 |cons x Kn ih =>
  unfold knK aQ at ih ⊢;rw[Z0,Z0];by_cases c:nmK x.2=nmK d
  ·have h1:bw ((nmK x.2,V.bl true)::Kn.map fun x=>(nmK x.2,V.bl true)) (nmK d)=some (.bl true):=by unfold bw;rw[List.find?_cons_of_pos (by simpa using c)];rfl
   rw[h1,decide_eq_true (by rw[fD.mpr c];exact Yn)];rfl
  ·have h1:bw ((nmK x.2,V.bl true)::Kn.map fun x=>(nmK x.2,V.bl true)) (nmK d)=bw (Kn.map fun x=>(nmK x.2,V.bl true)) (nmK d):=by unfold bw;rw[List.find?_cons_of_neg (by simpa using c)]
   rw[h1,ih,decide_eq_decide,Zs];constructor
   ·exact .inr
   ·rintro(h|h)
    ·exact absurd (fD.mp h).symm c
    ·exact h
def pH(Kn:LT)(n:Nat)(A:LT)(x:Addr×Dd):LT:=if(inB Kn x&&ke x.2 (aS n (vals A)))=true then A++[x]else A
def eI(Kn:LT)(n:Nat)(E:LT):LT:=E.foldl (pH Kn n) []
theorem pZ{Kn E:LT}{n i:Nat}{x:Addr×Dd}(h:E[i]?=some x):eI Kn n (E.take (i+1))=pH Kn n (eI Kn n (E.take i)) x:=by rw[cg h];unfold eI;rw[List.foldl_append];rfl
def rG:Sp:=fun vs H Q _=>∃(l k:Addr) (n:Nat) (E Kn:LT),vs=[.ref l,.ref k,.int (n:Int)]/\LR H l E/\E.length<=63/\H k=some (.dT (knK Kn))/\1<=n/\n<=8/\(∀x∈E,x.2.ns.length=n/\x.2.h<n) /\
 ∀c H',Same H H'->H' c=some (.lst ((aS n (vals (eI Kn n E))).map V.int))->H c=none->Q (.ref c) H'
abbrev nG:Stmt:=top 48
abbrev Bo:List Str:=["_law_deeds","_law_known","_law_hands","_law_counts","_law_deed"]
theorem kE:FnScope Bo ["_law_deeds","_law_known","_law_hands"] (aj nG):=⟨rfl,rfl,rfl,by decide +kernel,rfl,by decide +kernel,by decide +kernel⟩
theorem zI{f:Addr}{fd:FuncData}(F:Fun K "_law_clock" "_law_clock" nG f fd)(F_name:Fn P w K mg base 1 "_law_name" ["_law_deed"] eG)(F_fits:Fn P w K mg base 1 "_law_fits" ["_law_deed","_law_counts"] yh):FnOk P w K mg base CX0 2 f fd ["_law_deeds","_law_known","_law_hands"] rG:=by
 refine F.okQ kE (fun vs H Q E h=>?_) (fun cdv A outer s H vs Q E hr h=>?_)
 ·obtain⟨l,k,n,E,Kn,rfl,_⟩:=h;rfl
 obtain⟨l,k,n,E',Kn,rfl,lr,le,hk,n1,n8,hE,q⟩:=h;refine⟨_,(b_c (bh (i:=3) kE.nd (aX E9 (lS (q_a al ai)) (q_v 2)))
   (b_c (cZ Yg rfl (bV (q_v 0)) (aK (i:=4) kE.nd) (b_1 (bt (t_w (FD (FB hr.units (aL F_name (hr.mono (by decide)) (q_a (q_v 4) ai)) (q_v 1)) (EH (bR (aL F_fits (hr.mono (by decide)) (q_a (q_v 4) (q_a (q_v 3) ai))))))) (b_1 (Ba (aX dW (aC bC (q_v 3) (aC aI (q_v 4) al)) al) (AO (q_v 3) (aC aI (q_v 4) al) Bc))) b_0)))
   (b_1 (aw (q_v 3))))),?_⟩
 try rw[cxK]
 refine aA fun R0 hR0=>?_;refine⟨sz rfl,fun pz gz=>⟨_,rfl,pz,(n:Int),_,rfl,rfl,ad,by omega,by omega,du (by rw[ZU];omega),fun c gc=>hR0 _ _ ?_⟩⟩;clear hR0 R0;have w1:=ah gz (.lst [V.int 0]);have gc0:H c=none:=w1.free gc;have w2:=w1.trans (ah gc (.lst (List.replicate (n:Int).toNat [V.int 0]).flatten));have ec:upd (upd H pz (.lst [V.int 0])) c (.lst (List.replicate (n:Int).toNat [V.int 0]).flatten) c=some (.lst ((aS n (vals (eI Kn n (E'.take 0)))).map V.int)):=by rw[ad,y0,qY];show _=some (HO.lst ((aS n []).map V.int));rw[sQ]
 generalize upd (upd H pz (.lst [V.int 0])) c (.lst (List.replicate (n:Int).toNat [V.int 0]).flatten)=H1 at w2 ec ⊢;refine aA fun R0 hR0=>?_;refine⟨_,rfl,l,rfl,⟨_,SqL.of (w2 _ _ lr.1)⟩,?_⟩;refine cA (K:=K) (a:=l) (xs:=ax E') (fun i σ H'=>Same H H'/\H' c=some (.lst ((aS n (vals (eI Kn n (E'.take i)))).map V.int))/\∃o4,σ=[some (.ref l),some (.ref k),some (.int (n:Int)),some (.ref c),o4])
  ⟨w2,ec,none,rfl⟩ (fun i σ H' _ z=>SqL.of (z.1 _ _ lr.1)) ?_ ?_
 ·rintro i v σ H' hv ⟨sm,ec',o4,rfl⟩ DL hDL;obtain⟨z,hz,hm,rfl⟩:=dN hv;have dz:=(lr.2 z hm).same sm;obtain⟨z1,z2⟩:=hE z hm;have sn:=pZ (Kn:=Kn) (n:=n) hz;refine⟨_,rfl,z.1,z.2,rfl,dz,fun t H5 s5 e5=>?_⟩;have s05:=sm.trans s5;have ec5:=s5 _ _ ec';refine⟨_,rfl,k,_,rfl,.inr ⟨_,nmK z.2,t,.inl (s05 _ _ hk),rfl,e5,rfl⟩,_,rfl,?_⟩;rw[fT];unfold pH at sn;cases ci:inB Kn z with
  |false =>rw[ci,YB,if_neg (by decide)]at sn;have ci':decide (nmZ z.2∈aQ Kn)=false:=ci;rw[ci'];refine aF (hDL _ _ ⟨s05,by rw[sn];exact ec5,_,rfl⟩)
  |true =>
   rw[ci,YR]at sn;have ci':decide (nmZ z.2∈aQ Kn)=true:=ci;rw[ci'];refine aW ?_;refine⟨_,rfl,_,rfl,z.1,c,z.2,_,rfl,dz.same s5,ec5,by rw[bD,z1],_,rfl,?_⟩;cases cf:ke z.2 (aS n (vals (eI Kn n (E'.take i))))with
   |false =>rw[cf,if_neg (by decide)]at sn;refine aF (hDL _ _ ⟨s05,by rw[sn];exact ec5,_,rfl⟩)
   |true =>
    rw[cf,if_pos rfl]at sn;refine aW ?_;obtain⟨cl,wv,d1,d2,d3,d4,d5⟩:=dz.same s5;have lcn:z.2.h<(aS n (vals (eI Kn n (E'.take i)))).length:=by rw[bD];exact z2
    refine⟨_,rfl,vix rfl (SqT.of d1) at0 ⟨c,_,_,_,rfl,rfl,SqL.of ec5,dG lcn,_,_,rfl,rfl,_,rfl,vix rfl (SqT.of d1) at0 ⟨c,_,_,z.2.h,rfl,rfl,ec5,?_,hDL _ _ ⟨ma s05 gc0,?_,_,rfl⟩⟩⟩⟩
    ·unfold ixN;rw[z9,if_pos (by omega),if_pos (by omega)];rfl
    ·rw[ad,sn];have:vals (eI Kn n (E'.take i)++[z])=vals (eI Kn n (E'.take i))++[z.2]:=by unfold vals;rw[Zx];rfl
     rw[this,<-wF z2,lV lcn,List.map_set]
 rintro σ H' ⟨sm,ec',o4,rfl⟩;rw[aR,y7]at ec';refine hR0 _ _ ?_;exact⟨_,rfl,q c H' sm ec' gc0⟩
theorem qS{n:Nat}{S Ds:LT}(w:Wld n Ds){k i:Nat}(hi:i<n):∀(m:Nat) {z:Int},z∈cN ((Ds.take k).filter (aq S Ds)) i->1<=z-m->z-m∈cN ((Ds.take k).filter (aq S Ds)) i
 |0,z,h,_=>by rw[show z-((0:Nat):Int)=z by omega];exact h
 |m+1,z,h,h1=>by
  have ih:=qS w hi m h (by omega);obtain⟨x,hx,e1,e2⟩:=bO.mp ih;obtain⟨hxD,hk⟩:=Zn.mp hx;obtain⟨j,hj,rfl⟩:=ZG.mp hxD;rw[ZE]at hj;rw[YL]at e1 e2 hk;have hl:aB Ds[j].2 i=z-m-1:=by rw[<-e1,bW];have:bQ Ds[j]=ag Ds[j].2.ns Ds[j].2.h:=rfl;omega
  obtain⟨y,hy,y1,y2,y3⟩:=w.at (show j<Ds.length by omega) hi (by rw[hl];omega);have hyk:y∈Ds.take k:=(List.take_subset_take_left (l:=Ds) (show j<=k by omega)) hy;refine bO.mpr ⟨y,Zn.mpr ⟨hyk,fe w hk (y6 hy) (by rw[y2,y1];exact gW _ _) y3⟩,y1,?_⟩;rw[y2,hl];omega
theorem DU{n:Nat}{S Ds:LT}(w:Wld n Ds){k i:Nat}(hi:i<n){z:Int}(h:z∈cN ((Ds.take k).filter (aq S Ds)) i):z<=bE (vals ((Ds.take k).filter (aq S Ds))) i:=by
 have h1:1<=z:=by obtain⟨x,hx,_,rfl⟩:=bO.mp h;exact(w.fit x (y6 (Zn.mp hx).1)).own
 have nd:((List.range z.toNat).map fun k:Nat=>z-(k:Int)).Nodup:=by rw[y8,Z7];exact List.pairwise_lt_range.imp fun{a b} hab e=>by omega
 have:=jH nd (B:=cN ((Ds.take k).filter (aq S Ds)) i) fun y hy=>by obtain⟨q,hq,rfl⟩:=Zl.mp hy;have:=ZL.mp hq;exact qS w hi q h (by omega)
 rw[z9,ZI]at this;rw[<-mY];omega
theorem gO(ds:List Dd)(i:Nat):0<=bE ds i:=Int.natCast_nonneg _
theorem Bv{A B:LT}(h:A.Sublist B)(i:Nat):bE (vals A) i<=bE (vals B) i:=by unfold bE vals;have:=(h.map Prod.snd).countP_le (p:=fun d:Dd=>decide (d.h=i));omega
theorem yO{n:Nat}{S Ds:LT}(w:Wld n Ds){x y:Addr×Dd}(hx:x∈Ds)(hy:y∈Ds)(ix:inB S x=true)(t:bQ y<=ag x.2.ns y.2.h)(f:aB x.2 y.2.h<=bE (vals (Ds.filter (aq S Ds))) y.2.h):inB S y=true:=by
 have fy:=w.fit y hy;by_cases c:bQ y<=aB x.2 y.2.h
 ·obtain⟨z,hz,z1,z2⟩:=bO.mp (jK w fy.hd fy.own (Int.le_trans c f));obtain⟨hzD,hk⟩:=Zn.mp hz;have:z=y:=dU w.un hzD hy (cI.mpr ⟨z1,z2⟩);rw[<-this];exact(aP.mp hk).1
 ·have hh:y.2.h=x.2.h:=by
   by_cases e:y.2.h=x.2.h
   ·exact e
   ·rw[eM e]at c;exact absurd t c
  have e2:bQ y=bQ x:=by rw[hh,bW]at c;rw[hh]at t;show bQ y=ag x.2.ns x.2.h;omega
  have:y=x:=dU w.un hy hx (cI.mpr ⟨hh,e2⟩);rw[this];exact ix
theorem pY{n:Nat}{Kn Ds:LT}(w:Wld n Ds):∀i,i<=Ds.length->eI Kn n (Ds.take i)=(Ds.take i).filter (aq Kn Ds)
 |0,_=>rfl
 |i+1,hi=>by
  have hx:=Zb (show i<Ds.length by omega);have hxD:Ds[i]∈Ds:=ZC (show i<Ds.length by omega);have fx:=w.fit _ hxD;rw[pZ hx,pY w i (by omega),cg hx,YI];unfold pH;have e:(inB Kn Ds[i]&&ke Ds[i].2 (aS n (vals ((Ds.take i).filter (aq Kn Ds)))))=aq Kn Ds Ds[i]:=by
   rw[YF,ZN];constructor
   ·rintro⟨h1,h2⟩;refine aP.mpr ⟨h1,fun y hy t=>yO w hxD hy h1 t ?_⟩;have fy:=w.fit y hy;have h3:=ZJ (Z6.mp h2 y.2.h (ZL.mpr (by rw[fx.len];exact fy.hd)));rw[cD fy.hd]at h3;exact Int.le_trans h3 (Bv ((ZH i Ds).filter _) _)
   ·intro hk;refine⟨(aP.mp hk).1,Z6.mpr fun g hg=>decide_eq_true ?_⟩;have hg':g<n:=by rw[<-fx.len];exact ZL.mp hg
    rw[cD hg'];rcases Int.lt_or_le 0 (aB Ds[i].2 g)with c|c
    ·obtain⟨y,hy,y1,y2,y3⟩:=w.at (show i<Ds.length by omega) hg' c;rw[<-y2];exact DU w hg' (bO.mpr ⟨y,Zn.mpr ⟨hy,fe w hk (y6 hy) (by rw[y2,y1];exact gW _ _) y3⟩,y1,rfl⟩)
    ·exact Int.le_trans c (gO _ _)
  rw[e];cases c:aq Kn Ds Ds[i]with
  |true=>rw[if_pos rfl,Ya c];rfl
  |false=>rw[if_neg (by decide),Yb (by rw[c];decide),List.filter_nil,ZF]
theorem sG{n:Nat}{Kn Ds:LT}(w:Wld n Ds):eI Kn n Ds=Ds.filter (aq Kn Ds):=by have:=pY (Kn:=Kn) w Ds.length (Ze _);rw[y7]at this;exact this
theorem gS{A B:LT}(p:A.Perm B)(x:Addr×Dd):inB A x=inB B x:=by unfold inB aQ;rw[decide_eq_decide];exact(p.map _).mem_iff
theorem xj{A B:LT}(p:A.Perm B)(Ds:LT):aq A Ds=aq B Ds:=by funext x;unfold aq;rw[gS p];congr 2;funext y;rw[gS p]
theorem qQ{A B:LT}(p:A.Perm B):au A=au B:=by funext x;rw[di,di,gS p]
def nxt(n:Nat)(S Ds:LT)(h:Nat)(w:Option Int):Dd:=⟨h,(aS n (vals (Ds.filter (aq S Ds)))).set h (bE (vals (Ds.filter (aq S Ds))) h+1),w⟩
theorem eN{n h:Nat}{S Ds:LT}{w:Option Int}(hh:h<n){i:Nat}(hi:i<n):ag (nxt n S Ds h w).ns i=bE (vals (Ds.filter (aq S Ds))) i+if i=h then 1 else 0:=by
 unfold nxt;dsimp only;rw[qh (by rw[bD];exact hh),cD hi];by_cases c:i=h
 ·rw[if_pos c,if_pos c,c]
 ·rw[if_neg c,if_neg c];omega
theorem qJ{n h:Nat}{S Ds:LT}{w:Option Int}(hh:h<n){i:Nat}(hi:i<n):aB (nxt n S Ds h w) i=bE (vals (Ds.filter (aq S Ds))) i:=by
 have:(nxt n S Ds h w).h=h:=rfl;unfold aB;rw[eN hh hi,this];by_cases c:i=h
 ·rw[if_pos c,if_pos c];omega
 ·rw[if_neg c,if_neg c];omega
structure Own(n:Nat)(S Ds:LT)(h:Nat):Prop where
 hh:h<n
 own:∀y∈Ds,y.2.h=h->aq S Ds y=true
theorem Own.top{n h:Nat}{S Ds:LT}(w:Wld n Ds)(o:Own n S Ds h){x:Addr×Dd}(hx:x∈Ds):ag x.2.ns h<=bE (vals (Ds.filter (aq S Ds))) h:=by
 have mine:∀y∈Ds,y.2.h=h->bQ y<=bE (vals (Ds.filter (aq S Ds))) h:=fun y hy e=>rk w o.hh (bO.mpr ⟨y,Zn.mpr ⟨hy,o.own y hy e⟩,e,rfl⟩);rcases Int.lt_or_le 0 (ag x.2.ns h)with c|c
 ·by_cases e:h=x.2.h
  ·have:=mine x hx e.symm;rw[e]at this ⊢;exact this
  ·obtain⟨y,hy,y1,y2,_⟩:=w.ans hx o.hh (by rw[eM e];exact c);rw[eM e]at y2;rw[<-y2];exact mine y hy y1
 ·exact Int.le_trans c (gO _ _)
theorem zo{n:Nat}{S Ds:LT}(w:Wld n Ds){y:Addr×Dd}(hy:y∈Ds)(ky:aq S Ds y=true){j:Nat}(hj:j<n):ag y.2.ns j<=bE (vals (Ds.filter (aq S Ds))) j:=by
 rcases Int.lt_or_le 0 (ag y.2.ns j)with c|c
 ·by_cases e:j=y.2.h
  ·have:=rk w hj (bO.mpr ⟨y,Zn.mpr ⟨hy,ky⟩,e.symm,rfl⟩);have e2:bQ y=ag y.2.ns j:=by rw[e]
   omega
  ·obtain⟨z,hz,z1,z2,z3⟩:=w.ans hy hj (by rw[eM e];exact c);have kz:=fe w ky hz (by rw[z2,z1];exact gW _ _) z3;have:=rk w hj (bO.mpr ⟨z,Zn.mpr ⟨hz,kz⟩,z1,rfl⟩);rw[z2,eM e]at this;exact this
 ·exact Int.le_trans c (gO _ _)
theorem tQ{n h:Nat}{S Ds:LT}{w:Option Int}(hh:h<n):Fit n (nxt n S Ds h w):=by
 refine⟨?_,hh,fun z hz=>?_,?_⟩
 ·show((aS n (vals (Ds.filter (aq S Ds)))).set h _).length=n;rw[List.length_set,bD]
 ·rcases List.mem_or_eq_of_mem_set hz with hz|rfl
  ·unfold aS at hz;obtain⟨i,_,rfl⟩:=Zl.mp hz;exact gO _ _
  ·have:=gO (vals (Ds.filter (aq S Ds))) h;omega
 ·have e:ag (nxt n S Ds h w).ns (nxt n S Ds h w).h=bE (vals (Ds.filter (aq S Ds))) h+1:=by show ag (nxt n S Ds h w).ns h=_;rw[eN hh hh,if_pos rfl]
  rw[e];have:=gO (vals (Ds.filter (aq S Ds))) h;omega
theorem tR{n h:Nat}{S Ds:LT}{w':Option Int}(w:Wld n Ds)(o:Own n S Ds h):∀x∈Ds,nmK x.2≠nmK (nxt n S Ds h w'):=fun x hx e=>by
 obtain⟨e1,e2⟩:=BH e;have e3:x.2.h=h:=e1;have h1:=o.top w hx;have h2:ag (nxt n S Ds h w').ns (nxt n S Ds h w').h=bE (vals (Ds.filter (aq S Ds))) h+1:=by show ag (nxt n S Ds h w').ns h=_;rw[eN o.hh o.hh,if_pos rfl]
 rw[h2,e3]at e2;omega
theorem Ct{n h:Nat}{S Ds:LT}{w':Option Int}(w:Wld n Ds)(o:Own n S Ds h)(a:Addr):Wld n (Ds++[(a,nxt n S Ds h w')]):=by
 have ev:vals (Ds++[(a,nxt n S Ds h w')])=vals Ds++[nxt n S Ds h w']:=by unfold vals;rw[Zx];rfl
 have ft:=tQ (S:=S) (Ds:=Ds) (w:=w') o.hh;refine⟨?_,fun x hx=>?_,?_⟩
 ·rw[ev];refine⟨fun x hx=>?_,fun x hx=>?_,ZR.mpr ⟨w.un.uni,List.pairwise_singleton _ _,fun x hx y hy=>?_⟩⟩
  ·rcases Zu.mp hx with hx|hx
   ·exact w.un.len x hx
   ·rw[Zm.mp hx];exact⟨ft.len,ft.hd⟩
  ·rcases Zu.mp hx with hx|hx
   ·exact w.un.own x hx
   ·rw[Zm.mp hx];have:=ft.own;omega
  ·rw[Zm.mp hy];obtain⟨z,hz,rfl⟩:=Zl.mp hx;exact tR w o z hz
 ·rcases Zu.mp hx with hx|hx
  ·exact w.fit x hx
  ·rw[Zm.mp hx];exact ft
 ·rw[ev];refine w.ch.snoc fun i hi hl=>?_;rw[qJ o.hh hi]at hl;obtain⟨y,hy,y1,y2⟩:=bO.mp (jK (S:=S) w hi (by omega) (Int.le_refl _));obtain⟨hyD,ky⟩:=Zn.mp hy;refine⟨y.2,Zl.mpr ⟨y,hyD,rfl⟩,y1,?_,fun j hj=>?_⟩
  ·rw[qJ o.hh hi];exact y2
  ·rw[(w.fit y hyD).len]at hj;rw[eN o.hh hj];have:=zo w hyD ky hj;split<;>omega
theorem xi{S S' Ds:LT}(h:∀x∈Ds,inB S x=true->inB S' x=true){x:Addr×Dd}(hx:x∈Ds)(k:aq S Ds x=true):aq S' Ds x=true:=by obtain⟨h1,h2⟩:=aP.mp k;exact aP.mpr ⟨h x hx h1,fun y hy t=>h y hy (h2 y hy t)⟩
theorem zl{n h:Nat}{S S' Ds:LT}{w':Option Int}(w:Wld n Ds)(o:Own n S Ds h)(a:Addr){y:Addr×Dd}(hy:y∈Ds)(k:aq S' Ds y=true):aq S' (Ds++[(a,nxt n S Ds h w')]) y=true:=by
 obtain⟨h1,h2⟩:=aP.mp k;refine aP.mpr ⟨h1,fun z hz t=>?_⟩;rcases Zu.mp hz with hz|hz
 ·exact h2 z hz t
 ·exfalso;rw[Zm.mp hz]at t;have t':ag (nxt n S Ds h w').ns h<=ag y.2.ns h:=t;rw[eN o.hh o.hh,if_pos rfl]at t';have:=o.top w hy;omega
theorem zm{n h:Nat}{S S' Ds:LT}{w':Option Int}(w:Wld n Ds)(o:Own n S Ds h)(a:Addr)(hS:∀x,inB S x=true->inB S' x=true)(hn:inB S' (a,nxt n S Ds h w')=true):aq S' (Ds++[(a,nxt n S Ds h w')]) (a,nxt n S Ds h w')=true:=by
 refine aP.mpr ⟨hn,fun y hy t=>?_⟩;rcases Zu.mp hy with hy|hy
 ·have fy:=w.fit y hy;by_cases c:y.2.h=h
  ·exact hS y (aP.mp (o.own y hy c)).1
  ·have t':bQ y<=ag (nxt n S Ds h w').ns y.2.h:=t;rw[eN o.hh fy.hd,if_neg c]at t';obtain⟨z,hz,z1,z2⟩:=bO.mp (jK (S:=S) w fy.hd fy.own (by have:bQ y=ag y.2.ns y.2.h:=rfl;omega));obtain⟨hzD,hk⟩:=Zn.mp hz;have:z=y:=dU w.un hzD hy (cI.mpr ⟨z1,z2⟩);rw[<-this];exact hS z (aP.mp hk).1
 ·rw[Zm.mp hy];exact hn
def rfs(n:Nat)(f:Nat->Addr):List V:=(List.range n).map fun g=>V.ref (f g)
theorem bK{n g:Nat}{f:Nat->Addr}(h:g<n):atI (rfs n f) (g:Int)=some (.ref (f g)):=gN (by unfold rfs;rw[Zv,Y6 h];rfl)
structure StAll(C:Addr)(H:Hp)(sl kl dl:Addr)(n:Nat)(ps ds ks:Nat->Addr)(Ds:LT)(Ls Kn:Nat->LT):Prop where
 hs:H sl=some (.lst (rfs n ps))
 hk:H kl=some (.lst (rfs n ks))
 hd:LR H dl Ds
 st:∀g,g<n->StoreAt C H (ps g) (ds g) n (Ls g)
 kn:∀g,g<n->H (ks g)=some (.dT (knK (Kn g)))
 pm:∀g,g<n->(Kn g).Perm (Ls g)
 dd:∀g g',g<n->g'<n->g≠g'->ds g≠ds g'
 kk:∀g g',g<n->g'<n->g≠g'->ks g≠ks g'
 dk:∀g g',g<n->g'<n->ds g≠ks g'
 sub:∀g,g<n->∀x∈Ls g,x∈Ds
def KX(dl:Addr)(H H':Hp):Prop:=∀b o,H b=some o->(∀ps,o≠.tbl ps)->(∀kvs,o≠.dT kvs)->b≠dl->H' b=some o
theorem KX.of{dl:Addr}{H H':Hp}(s:Same H H'):KX dl H H':=fun b o e _ _ _=>s b o e
theorem KX.trans{dl:Addr}{H H' H2:Hp}(s:KX dl H H')(t:KX dl H' H2):KX dl H H2:=fun b o e n m k=>t b o (s b o e n m k) n m k
theorem KX.lst{dl r:Addr}{H H':Hp}{xs:List V}(s:KX dl H H')(e:H r=some (.lst xs))(n:r≠dl):H' r=some (.lst xs):=s _ _ e (fun _ z=>by cases z) (fun _ z=>by cases z) n
theorem KX.ts{dl:Addr}{H H':Hp}{xs:List V}(s:KX dl H H')(h:H dl=some (.lst xs)):TS H H':=fun b zs e=>s _ _ e (fun _ z=>by cases z) (fun _ z=>by cases z) fun z=>by rw[z,h]at e;cases e
theorem StAll.same{C:Addr}{H H':Hp}{sl kl dl:Addr}{n:Nat}{ps ds ks:Nat->Addr}{Ds:LT}{Ls Kn:Nat->LT}(x:StAll C H sl kl dl n ps ds ks Ds Ls Kn)(s:Same H H'):StAll C H' sl kl dl n ps ds ks Ds Ls Kn :=
 ⟨s _ _ x.hs,s _ _ x.hk,x.hd.same s,fun g hg=>(x.st g hg).same s,fun g hg=>s _ _ (x.kn g hg),x.pm,x.dd,x.kk,x.dk,x.sub⟩
def vV(C T:Addr):Sp:=fun vs H Q _=>∃(sl kl dl:Addr) (n g o:Nat) (ps ds ks:Nat->Addr) (Ds:LT) (Ls Kn:Nat->LT),vs=[.ref sl,.ref kl,.int (g:Int),.int (o:Int)]/\StAll C H sl kl dl n ps ds ks Ds Ls Kn/\aE bv T (bA br) H/\g<n/\o<n/\g≠o/\Wld n Ds/\Ds.length<=63 /\
 ∀Ls' Kn' H',KX dl H H'->aE bv T (bA br) H'->StAll C H' sl kl dl n ps ds ks Ds Ls' Kn'->(∀i x,x∈Ls i->x∈Ls' i)->(∀x,x∈Ls g\/x∈Ls o->x∈Ls' g/\x∈Ls' o)->(∀x,x∈Ls' g\/x∈Ls' o->x∈Ls g\/x∈Ls o)->(∀i,i≠g->i≠o->Ls' i=Ls i)->Q (.bl true) H'
theorem qm(Kn S:LT):(Kn.filter (au S)).length<=Kn.length:=Yk _ _
theorem zC{B:LT}{i:Nat}{y:Addr×Dd}(g:Addr×Dd->Bool)(hy:B[i]?=some y):aQ ((B.take (i+1)).filter g)=aQ ((B.take i).filter g)++if g y=true then[nmZ y.2]else[]:=by
 rw[cg hy,YI];unfold aQ;rw[Zx];congr 1;by_cases c:g y=true
 ·rw[if_pos c,Ya c];rfl
 ·rw[if_neg c,Yb c];rfl
theorem fS(Kn:LT):(knK Kn).length=Kn.length:=z9 ..
theorem uo{a k2 kl:Addr}{ob:Obj}{A S:LT}{n:Nat}{cap:List Nat}{g:TG}{tc:TT}{te:TE}{σ:St}{HF:Hp}{Q:VK}(la:A.length<=100)(ha:HF a=some (.frz ob (.dT (knK A))))(ht:∀(y:Addr×Dd) (b:Addr) (Y:Bool->Prop),HF b=some (.tup ((nmZ y.2).map V.int))->∀ys (Z:List V->Hp->Prop),(if au S y=true then Z (ys++[.ref b]) HF else Z ys HF)->g (.ref b) (bu n cap σ) HF fun σ2 H2=>tc σ2 H2 fun b H3=>if b=true then te σ2 H3 fun y H4=>Z (ys++[y]) H4 else Z ys H3)(hq:∀ys p,NsI HF ys (aQ (A.filter (au S)))->HF p=none->Q (.ref p) (upd HF p (.lst ys))):cz n cap g tc te σ (ItD ob a) HF Q:=by
 refine oA (a:=a) (o:=ob) (kvs:=knK A) (fun i ys H'=>H'=HF/\ys.length<=i/\NsI HF ys (aQ ((A.take i).filter (au S)))) (by rw[fS];omega) (fun _ _ _ z=>z.2.1) ⟨rfl,Ze _,.nil⟩ (fun i ys H' z=>by rw[z.1];exact ha) ?_ ?_
 ·rintro i ys H' kv b hkv hb ⟨rfl,ly,py⟩ Y hY;unfold knK at hkv;rw[Zv]at hkv;obtain⟨y,hy,rfl⟩:=Ys.mp hkv;have eb:H' b=some (.tup ((nmZ y.2).map V.int)):=hb;refine ht y b (fun _=>True) eb ys Y ?_;have tk:=zC (au S) hy;cases c:au S y with
  |true =>rw[if_pos rfl];refine hY _ _ ⟨rfl,by rw[Zi];exact Nat.succ_le_succ ly,?_⟩;rw[tk,c,if_pos rfl];exact Paired.snoc py ⟨b,rfl,eb⟩
  |false =>rw[if_neg (by decide)];refine hY _ _ ⟨rfl,Nat.le_succ_of_le ly,?_⟩;rw[tk,c,if_neg (by decide),ZF];exact py
 ·rintro ys p H' ⟨rfl,ly,py⟩ gp;rw[fS,y7]at py;exact hq ys p py gp
theorem qq{H:Hp}{a:Addr}{ob:Obj}{u:HO}(h:H a=some u):∀b o,H b=some o->b≠a->upd H a (.frz ob u) b=some o:=fun b o e hb=>by rw[af hb];exact e
abbrev vJ:Stmt:=top 49
abbrev EU:List Str:=["_law_stores","_law_known","_law_hand","_law_other","_law_mine","_law_theirs","_law_found","_law_name_here"]
theorem hO:FnScope EU ["_law_stores","_law_known","_law_hand","_law_other"] (aj vJ):=⟨rfl,rfl,rfl,by decide +kernel,rfl,by decide +kernel,by decide +kernel⟩
theorem Dl{f C T:Addr}{fd:FuncData}(F:Fun K "_law_met" "_law_met" vJ f fd)(F_meet:Fn P w K mg base 11 "meet" ["one","other"] (rH C T))(z_isinstance:mg "isinstance" = none)(z_tuple:mg "tuple" = none)(z_bool:mg "bool" = none)(z_len:mg "len" = none):FnOk P w K mg base CX0 12 f fd ["_law_stores","_law_known","_law_hand","_law_other"] (vV C T):=by
 refine F.okQ hO (fun vs H Q E h=>?_) (fun cdv A outer s H vs Q E hr h=>?_)
 ·obtain⟨sl,kl,dl,n,g,o,ps,ds,ks,Ds,Ls,Kn,rfl,_⟩:=h;rfl
 obtain⟨sl,kl,dl,n,g,o,ps,ds,ks,Ds,Ls,Kn,rfl,S,tab,hg,ho,ngo,wd,lD,q⟩:=h;refine⟨_,(b_c (xZ (lY (j:=4) hO.nd (own:=["_law_name_here"]) (⟨rfl,by decide +kernel,by decide +kernel,rfl,⟨rfl,rfl,⟨rfl,rfl,trivial⟩⟩⟩:CompOk _ _ [1,2] ["_law_known","_law_hand"]) rfl (uU (aC bC (q_v 1) (q_v 3))) (fun _ _ _ _=>aK (i:=0) (show (["_law_name_here","_law_known","_law_hand"]:List Str).Nodup by decide +kernel)) (bo (by decide)) (fun _ _ _ _=>(uV (kL hr.units (q_v 0) (aC (uq (K:=K) rfl) (q_v 1) (q_v 2))))) (fun _ _ _ _=>(q_v 0))))
   (b_c (xZ (lY (j:=5) hO.nd (own:=["_law_name_here"]) (⟨rfl,by decide +kernel,by decide +kernel,rfl,⟨rfl,rfl,⟨rfl,rfl,trivial⟩⟩⟩:CompOk _ _ [1,3] ["_law_known","_law_other"]) rfl (uU (aC bC (q_v 1) (q_v 2))) (fun _ _ _ _=>aK (i:=0) (show (["_law_name_here","_law_known","_law_other"]:List Str).Nodup by decide +kernel)) (bo (by decide)) (fun _ _ _ _=>(uV (kL hr.units (q_v 0) (aC (uq (K:=K) rfl) (q_v 1) (q_v 2))))) (fun _ _ _ _=>(q_v 0))))
   (b_c (bh (i:=6) hO.nd (aL F_meet (hr.mono (by decide)) (q_a (aC bC (q_v 0) (q_v 2)) (q_a (aC bC (q_v 0) (q_v 3)) ai))))
   (b_c (cZ Yg rfl (bV (q_v 4)) (aK (i:=7) hO.nd) (b_1 (hM hr.units (aC bC (q_v 1) (q_v 2)) (q_v 7) bP)))
   (b_c (cZ Yg rfl (bV (q_v 5)) (aK (i:=7) hO.nd) (b_1 (hM hr.units (aC bC (q_v 1) (q_v 3)) (q_v 7) bP)))
   (b_c (bt (t_w (eU (cG (bR (q_B cP z_isinstance aH (q_a (q_v 6) (q_a (dX z_tuple bU) ai))))) (eU (bj ng (q_B cC z_len Z9 (q_a (q_v 6) ai)) al) (eU (bR (q_B cP z_isinstance aH (q_a (aC aI (q_v 6) al) (q_a (dX z_bool fc) ai)))) (fJ (bR (q_B cP z_isinstance aH (q_a (aC aI (q_v 6) al) (q_a (dX z_bool fc) ai))))))))) (b_1 (aw bP)) b_0)
   (b_1 (aw (cj (Dh hr.units) (q_v 6) (bX (q_a (q_B cC z_len Z9 (q_a (q_v 4) ai)) (q_a (q_B cC z_len Z9 (q_a (q_v 5) ai)) ai)))))))))))),?_⟩
 try rw[cxK]
 have lKg:(Kn g).length<=63:=by rw[(S.pm g hg).length_eq];exact(S.st g hg).len
 have lKo:(Kn o).length<=63:=by rw[(S.pm o ho).length_eq];exact(S.st o ho).len
 have nkk:=S.kk g o hg ho ngo;refine aA fun R0 hR0=>?_;refine⟨_,rfl,_,rfl,kl,_,_,_,rfl,rfl,SqL.of S.hk,bK ho,ks o,_,rfl,S.kn o ho,fun ob=>?_⟩;have e1:=qq (ob:=ob) (S.kn o ho);have eF:upd H (ks o) (.frz ob (.dT (knK (Kn o)))) (ks o)=some (.frz ob (.dT (knK (Kn o)))):=ad;have eg:=e1 _ _ (S.kn g hg) nkk;have ekl:=e1 _ _ S.hk fun z=>by have:=S.hk;rw[z,S.kn o ho]at this;cases this
 generalize upd H (ks o) (.frz ob (.dT (knK (Kn o))))=HF at e1 eF eg ekl ⊢;refine uo (k2:=ks g) (kl:=kl) (S:=Kn g) (by omega) eF ?_ ?_
 ·intro y b Y eb ys Z hZ;refine⟨_,rfl,_,rfl,_,rfl,kl,_,_,_,rfl,rfl,SqL.of ekl,bK hg,ks g,_,rfl,.inr ⟨_,nmK y.2,b,.inl eg,rfl,eb,rfl⟩,_,rfl,?_⟩;rw[fT];show if au (Kn g) y=true then _ else _
  cases c:au (Kn g) y with
  |true=>rw[c,if_pos rfl]at hZ;exact aW ⟨_,rfl,hZ⟩
  |false=>rw[c,if_neg (by decide)]at hZ;exact aF hZ
 intro ys m1 ny gm1;have w1:=ah gm1 (.lst ys);have em1:upd HF m1 (.lst ys) m1=some (.lst ys):=ad;have nm1:m1≠ks o:=fun z=>by rw[z,eF]at gm1;cases gm1
 refine⟨ks o,ob,.dT (knK (Kn o)),w1 _ _ eF,Loose.dt (S.kn o ho),hR0 _ _ ?_⟩;clear hR0 R0;have s1:Same H (upd (upd HF m1 (.lst ys)) (ks o) (.dT (knK (Kn o)))):=fun b u e=>by
  by_cases c:b=ks o
  ·rw[c,ad,<-S.kn o ho,<-c,e]
  ·rw[af c];exact w1 _ _ (e1 _ _ e c)
 have em1':upd (upd HF m1 (.lst ys)) (ks o) (.dT (knK (Kn o))) m1=some (.lst ys):=by rw[af nm1];exact em1
 have ny1:NsI (upd (upd HF m1 (.lst ys)) (ks o) (.dT (knK (Kn o)))) ys (aQ ((Kn o).filter (au (Kn g)))):=ny.ts fun b zs e=>by rw[af fun z=>by rw[z,eF]at e;cases e];exact w1 _ _ e
 have S1:=S.same s1;have gm10:H m1=none:=by
  cases e:H m1 with
  |none=>rfl
  |some u =>have:=e1 _ _ e nm1;rw[gm1]at this;cases this
 generalize upd (upd HF m1 (.lst ys)) (ks o) (.dT (knK (Kn o)))=H1 at s1 em1' ny1 S1 ⊢;have tab1:=ao tab s1;clear e1 eF eg ekl w1 em1 nm1 ny gm1;refine aA fun R0 hR0=>?_;refine⟨_,rfl,_,rfl,kl,_,_,_,rfl,rfl,SqL.of S1.hk,bK hg,ks g,_,rfl,S1.kn g hg,fun ob=>?_⟩;have e1:=qq (ob:=ob) (S1.kn g hg);have eF:upd H1 (ks g) (.frz ob (.dT (knK (Kn g)))) (ks g)=some (.frz ob (.dT (knK (Kn g)))):=ad;have eg:=e1 _ _ (S1.kn o ho) (Yj nkk);have ekl:=e1 _ _ S1.hk fun z=>by have:=S1.hk;rw[z,S1.kn g hg]at this;cases this
 generalize upd H1 (ks g) (.frz ob (.dT (knK (Kn g))))=HF at e1 eF eg ekl ⊢;refine uo (k2:=ks o) (kl:=kl) (S:=Kn o) (by omega) eF ?_ ?_
 ·intro y b Y eb zs Z hZ;refine⟨_,rfl,_,rfl,_,rfl,kl,_,_,_,rfl,rfl,SqL.of ekl,bK ho,ks o,_,rfl,.inr ⟨_,nmK y.2,b,.inl eg,rfl,eb,rfl⟩,_,rfl,?_⟩;rw[fT];show if au (Kn o) y=true then _ else _
  cases c:au (Kn o) y with
  |true=>rw[c,if_pos rfl]at hZ;exact aW ⟨_,rfl,hZ⟩
  |false=>rw[c,if_neg (by decide)]at hZ;exact aF hZ
 intro zs m2 nz gm2;have w1:=ah gm2 (.lst zs);have em2:upd HF m2 (.lst zs) m2=some (.lst zs):=ad;have nm2:m2≠ks g:=fun z=>by rw[z,eF]at gm2;cases gm2
 refine⟨ks g,ob,.dT (knK (Kn g)),w1 _ _ eF,Loose.dt (S.kn g hg),hR0 _ _ ?_⟩;clear hR0 R0;have s2:Same H1 (upd (upd HF m2 (.lst zs)) (ks g) (.dT (knK (Kn g)))):=fun b u e=>by
  by_cases c:b=ks g
  ·rw[c,ad,<-S1.kn g hg,<-c,e]
  ·rw[af c];exact w1 _ _ (e1 _ _ e c)
 have em2':upd (upd HF m2 (.lst zs)) (ks g) (.dT (knK (Kn g))) m2=some (.lst zs):=by rw[af nm2];exact em2
 have nz1:NsI (upd (upd HF m2 (.lst zs)) (ks g) (.dT (knK (Kn g)))) zs (aQ ((Kn g).filter (au (Kn o)))):=nz.ts fun b zs e=>by rw[af fun z=>by rw[z,eF]at e;cases e];exact w1 _ _ e
 have S2:=S1.same s2;have em12:=s2 _ _ em1';have ny2:=ny1.ts (Same.ts s2);have s02:=s1.trans s2;have gm20:H m2=none:=by
  cases e:H1 m2 with
  |none=>exact s1.free e
  |some u =>have:=e1 _ _ e nm2;rw[gm2]at this;cases this
 generalize upd (upd HF m2 (.lst zs)) (ks g) (.dT (knK (Kn g)))=H2 at s2 em2' nz1 S2 em12 ny2 s02 ⊢;have tab2:=ao tab1 s2;clear e1 eF eg ekl w1 em2 nm2 nz gm2 em1' ny1 S1 tab1 s1 s2;refine aA fun R0 hR0=>?_;refine⟨_,rfl,_,rfl,sl,_,_,_,rfl,rfl,SqL.of S2.hs,bK hg,_,rfl,_,rfl,sl,_,_,_,rfl,rfl,SqL.of S2.hs,bK ho,ps g,ds g,ps o,ds o,n,Ls g,Ls o,Ds,rfl,S2.st g hg,S2.st o ho,tab2,.inl (S2.dd g o hg ho ngo),wd,S2.sub g hg,S2.sub o ho,lD,fun t X1 X2 H3 pX1 pX2 kd tab3 Sg3 So3 et=>hR0 _ _ ?_⟩;clear hR0 R0;have kdl:∀{r:Addr} {xs:List V},H2 r=some (.lst xs)->H3 r=some (.lst xs):=fun{r xs} e=>kd _ _ e (fun _ z=>by cases z) (fun z=>by rw[z,(S2.st g hg).dc]at e;cases e) (fun z=>by rw[z,(S2.st o ho).dc]at e;cases e);have kdt:TS H2 H3:=fun b xs e=>kd _ _ e (fun _ z=>by cases z) (fun z=>by rw[z,(S2.st g hg).dc]at e;cases e) (fun z=>by rw[z,(S2.st o ho).dc]at e;cases e);have kn3:∀i,i<n->H3 (ks i)=some (.dT (knK (Kn i))):=fun i hi=>kd _ _ (S2.kn i hi) (fun _ z=>by cases z) (fun z=>S2.dk g i hg hi z.symm) (fun z=>S2.dk o i ho hi z.symm);have st3:∀i,i<n->i≠g->i≠o->StoreAt C H3 (ps i) (ds i) n (Ls i):=fun i hi n1 n2=>by obtain⟨⟨dx,h1⟩,h2,h3,h4,h5,h6,h7⟩:=S2.st i hi;exact⟨⟨dx,kd _ _ h1 (fun _ z=>by cases z) (fun z=>by rw[z,(S2.st g hg).dc]at h1;cases h1) (fun z=>by rw[z,(S2.st o ho).dc]at h1;cases h1)⟩,kd _ _ h2 (fun _ z=>by cases z) (S2.dd i g hi hg n1) (S2.dd i o hi ho n2),fun y hy=>(h3 y hy).ts kdt,h4,h5,h6,h7⟩
 have hk3:=kdl S2.hk;have hs3:=kdl S2.hs;have hd3:LR H3 dl Ds:=⟨kdl S2.hd.1,fun y hy=>(S2.hd.2 y hy).ts kdt⟩
 have em13:=kdl em12;have em23:=kdl em2';have ny3:=ny2.ts kdt;have nz3:=nz1.ts kdt;have k3:KX dl H H3:=fun b u e n1 n2 n3=>kd _ _ (s02 _ _ e) n1 (fun z=>by
  have e':=s02 _ _ e;rw[z,(S2.st g hg).dc]at e';cases e';exact n2 _ rfl) (fun z=>by
  have e':=s02 _ _ e;rw[z,(S2.st o ho).dc]at e';cases e';exact n2 _ rfl)
 have uDs:∀i,i<n->∀x∈Kn i,x∈Ds:=fun i hi x hx=>S.sub i hi x ((S.pm i hi).mem_iff.mp hx);have fresh:∀(A B:LT),(∀x∈A,x∈Ds)->(∀x∈B,x∈Ds)->B.Nodup->∀i (hi:i<(B.filter (au A)).length),bw (knK (A++(B.filter (au A)).take i)) (nmK (B.filter (au A))[i].2)=none:=fun A B hA hB nB i hi=>by
  have hm:=ZC hi;obtain⟨h1,h2⟩:=Zn.mp hm;have nF:(B.filter (au A)).Nodup:=nB.sublist Yv;have:(bw (knK (A++(B.filter (au A)).take i)) (nmK (B.filter (au A))[i].2)).isSome=false:=by
   rw[fT];refine decide_eq_false fun h=>?_;obtain⟨z,hz,e⟩:=Zl.mp h;rcases Zu.mp hz with hz|hz
   ·have h2':(!decide (nmZ (B.filter (au A))[i].2∈aQ A))=true:=h2;rw[decide_eq_true (show nmZ (B.filter (au A))[i].2∈aQ A from Zl.mpr ⟨z,hz,e⟩)]at h2';cases h2'
   ·have ez:z=(B.filter (au A))[i]:=dU wd.un (hB z (Zn.mp (y6 hz)).1) (hB _ h1) (fD.mp e);obtain⟨j,hj,ej⟩:=ZG.mp hz;rw[ZE]at hj;rw[YL,ez]at ej;have:=Zw.mp (y8.mp nF) j i (by omega) hi (by omega);exact this ej
  cases e:bw (knK (A++(B.filter (au A)).take i)) (nmK (B.filter (au A))[i].2)with
  |none=>rfl
  |some v=>rw[e]at this;cases this
 have nKg:(Kn g).Nodup:=(S.pm g hg).nodup_iff.mpr (bT (S.st g hg).un);have nKo:(Kn o).Nodup:=(S.pm o ho).nodup_iff.mpr (bT (S.st o ho).un);have fr1:=fresh (Kn g) (Kn o) (uDs g hg) (uDs o ho) nKo;have fr2:=fresh (Kn o) (Kn g) (uDs o ho) (uDs g hg) nKg;have lF1:((Kn o).filter (au (Kn g))).length<=63:=ZV (qm _ _) lKo;have lF2:((Kn g).filter (au (Kn o))).length<=63:=ZV (qm _ _) lKg;have p1:((Kn o).filter (au (Kn g))).Perm X1:=by rw[qQ (S.pm g hg)];exact((S.pm o ho).filter _).trans pX1.symm
 have p2:((Kn g).filter (au (Kn o))).Perm X2:=by rw[qQ (S.pm o ho)];exact((S.pm g hg).filter _).trans pX2.symm
 generalize(Kn o).filter (au (Kn g))=F1 at ny3 fr1 lF1 p1;generalize(Kn g).filter (au (Kn o))=F2 at nz3 fr2 lF2 p2;clear fresh nKg nKo uDs ny2 nz1 em12 em2' kd kdl tab2 s02;have put_step:∀(A F:LT) (i:Nat) (hi:i<F.length),bw (knK (A++F.take i)) (nmK F[i].2)=none->dg (knK (A++F.take i)) (nmK F[i].2) (.bl true)=knK (A++F.take (i+1)):=fun A F i hi hv=>by rw[iD _ hv,cg (Zb hi)];unfold knK;rw[Zx,Zx,Zx,ZD];rfl
 refine aA fun R0 hR0=>?_;refine⟨_,rfl,m1,rfl,⟨_,SqL.of em13⟩,?_⟩;have lys:ys.length=F1.length:=by rw[YA ny3];unfold aQ;rw[z9]
 have lzs:zs.length=F2.length:=by rw[YA nz3];unfold aQ;rw[z9]
 refine cA (K:=K) (a:=m1) (xs:=ys) (fun i σ H'=>SameT (ks g) H3 H'/\H' (ks g)=some (.dT (knK (Kn g++F1.take i)))/\∃o7,σ=[some (.ref sl),some (.ref kl),some (.int (g:Int)),some (.int (o:Int)),some (.ref m1),some (.ref m2),some (.ref t),o7])
  ⟨fun b o e _=>e,by rw[List.take_zero,ZF];exact kn3 g hg,none,rfl⟩ (fun i σ H' _ z=>SqL.of (bS z.1 (kn3 g hg) em13)) ?_ ?_
 ·rintro i v σ H' hv ⟨kp,ek,o7,rfl⟩ DL hDL;obtain⟨k,hk,b,rfl,hb⟩:=fE ny3 hv;unfold aQ at hk;rw[Zv]at hk;obtain⟨y,hy,rfl⟩:=Ys.mp hk;obtain⟨hi,rfl⟩:=Zy.mp hy;have hb':=dh kp (kn3 g hg) _ _ hb;have hv':=fr1 i hi;refine⟨_,rfl,_,rfl,kl,_,_,_,rfl,rfl,SqL.of (bS kp (kn3 g hg) hk3),bK hg,_,rfl,ks g,_,rfl,.inr ⟨_,nmK F1[i].2,b,ek,rfl,hb',Yo (show(knK (Kn g++F1.take i)).length<=200 by rw[fS,Zi,ZE];omega) (by rw[x9];decide),rfl⟩,hDL _ _ ⟨fun b o e hb=>by rw[af hb];exact kp _ _ e hb,?_,_,rfl⟩⟩;rw[ad,put_step _ _ _ hi hv']
 rintro σ H4 ⟨kp4,ek4,o7,rfl⟩;rw[lys,y7]at ek4;refine hR0 _ _ ?_;clear hR0 R0;have kn4o:H4 (ks o)=some (.dT (knK (Kn o))):=kp4 _ _ (kn3 o ho) (Yj nkk);refine aA fun R0 hR0=>?_;refine⟨_,rfl,m2,rfl,⟨_,SqL.of (bS kp4 (kn3 g hg) em23)⟩,?_⟩;refine cA (K:=K) (a:=m2) (xs:=zs) (fun i σ H'=>SameT (ks o) H4 H'/\H' (ks o)=some (.dT (knK (Kn o++F2.take i)))/\∃o7,σ=[some (.ref sl),some (.ref kl),some (.int (g:Int)),some (.int (o:Int)),some (.ref m1),some (.ref m2),some (.ref t),o7])
  ⟨fun b o e _=>e,by rw[List.take_zero,ZF];exact kn4o,o7,rfl⟩ (fun i σ H' _ z=>SqL.of (bS z.1 kn4o (bS kp4 (kn3 g hg) em23))) ?_ ?_
 ·rintro i v σ H' hv ⟨kp,ek,o7',rfl⟩ DL hDL;obtain⟨k,hk,b,rfl,hb⟩:=fE nz3 hv;unfold aQ at hk;rw[Zv]at hk;obtain⟨y,hy,rfl⟩:=Ys.mp hk;obtain⟨hi,rfl⟩:=Zy.mp hy;have hb':=dh kp kn4o _ _ (dh kp4 (kn3 g hg) _ _ hb);have hv':=fr2 i hi;refine⟨_,rfl,_,rfl,kl,_,_,_,rfl,rfl,SqL.of (bS kp kn4o (bS kp4 (kn3 g hg) hk3)),bK ho,_,rfl,ks o,_,rfl,.inr ⟨_,nmK F2[i].2,b,ek,rfl,hb',Yo (show(knK (Kn o++F2.take i)).length<=200 by rw[fS,Zi,ZE];omega) (by rw[x9];decide),rfl⟩,hDL _ _ ⟨fun b o e hb=>by rw[af hb];exact kp _ _ e hb,?_,_,rfl⟩⟩;rw[ad,put_step _ _ _ hi hv']
 rintro σ H5 ⟨kp5,ek5,o7',rfl⟩;rw[lzs,y7]at ek5;refine hR0 _ _ ?_;clear hR0 R0;have t5:TS H3 H5:=fun b xs e=>dh kp5 kn4o _ _ (dh kp4 (kn3 g hg) _ _ e);have l5:∀{r:Addr} {xs:List V},H3 r=some (.lst xs)->H5 r=some (.lst xs):=fun{r xs} e=>bS kp5 kn4o (bS kp4 (kn3 g hg) e);have et5:H5 t=some (.tup [.int (X1.length:Int),.int (X2.length:Int)]):=t5 _ _ et;have no5:∀i,i<n->∀{L':LT},StoreAt C H3 (ps i) (ds i) n L'->StoreAt C H5 (ps i) (ds i) n L':=fun i hi {L'} x=>dL kp5 kn4o (dL kp4 (kn3 g hg) x (S2.dk i g hi hg)) (S2.dk i o hi ho);refine aA fun R0 hR0=>?_;have ty:TyOf K H5 (.ref t) (.type "tuple"):=.tup et5;refine⟨_,rfl,_,"tuple",_,true,rfl,ty,by rw[fM ty];show some (qz (H5 t))=some true;rw[et5];rfl,_,rfl,aF ?_⟩;refine⟨_,rfl,t,_,rfl,.inr (SqT.of et5),rfl,_,rfl,lA (fun c=>absurd rfl c) fun _=>?_⟩;have ti1:TyOf K H5 (.int (X1.length:Int)) (.type "int"):=.int _;have ti2:TyOf K H5 (.int (X2.length:Int)) (.type "int"):=.int _;refine vix rfl (SqT.of et5) at0 ⟨_,"bool",_,false,rfl,ti1,eL ti1,_,rfl,aF ?_⟩;refine vix rfl (SqT.of et5) at1 ⟨_,"bool",_,false,rfl,ti2,eL ti2,_,rfl,aF (hR0 _ _ ?_)⟩;clear hR0 R0;refine⟨_,rfl,_,rfl,m1,_,rfl,.inl (SqL.of (l5 em13)),_,rfl,m2,_,rfl,.inl (SqL.of (l5 em23)),sz rfl,fun u gu=>?_⟩;have wu:=ah gu (.tup [.int (ys.length:Int),.int (zs.length:Int)]);refine⟨t,u,[(X1.length:Int),(X2.length:Int)],[(ys.length:Int),(zs.length:Int)],rfl,rfl,wu _ _ et5,ad,?_⟩;have lx:[(X1.length:Int),(X2.length:Int)]=[(ys.length:Int),(zs.length:Int)]:=by rw[lys,lzs,p1.length_eq,p2.length_eq]
 rw[decide_eq_true lx];have ndg:∀i,i≠o->(if i=g then Ls g++X1 else if i=o then Ls o++X2 else Ls i)=if i=g then Ls g++X1 else Ls i:=fun i h=>by
  by_cases c:i=g
  ·rw[if_pos c,if_pos c]
  ·rw[if_neg c,if_neg c,if_neg h]
 have m1':∀x,x∈X1↔x∈Ls o/\au (Ls g) x=true:=fun x=>by rw[pX1.mem_iff,Zn]
 have m2':∀x,x∈X2↔x∈Ls g/\au (Ls o) x=true:=fun x=>by rw[pX2.mem_iff,Zn]
 have inU:∀(A:LT),(∀x∈A,x∈Ds)->∀x∈Ds,x∈A\/au A x=true:=fun A hA x hx=>by
  cases c:au A x with
  |true=>exact .inr rfl
  |false=>exact .inl (lg wd hA hx c)
 refine q (fun i=>if i=g then Ls g++X1 else if i=o then Ls o++X2 else Ls i) (fun i=>if i=g then Kn g++F1 else if i=o then Kn o++F2 else Kn i) _ (k3.trans ?_) ?_ ⟨wu _ _ (l5 hs3),wu _ _ (l5 hk3),⟨wu _ _ (l5 hd3.1),fun y hy=>((hd3.2 y hy).ts t5).same wu⟩,fun i hi=>?_,fun i hi=>?_,fun i hi=>?_,S.dd,S.kk,S.dk,fun i hi x hx=>?_⟩ (fun i x hx=>?_) (fun x hx=>?_) (fun x hx=>?_) (fun i n1 n2=>by rw[if_neg n1,if_neg n2])
 ·exact fun b u' e n1 n2 n3=>wu _ _ (kp5 _ _ (kp4 _ _ e fun z=>by rw[z,kn3 g hg]at e;cases e;exact n2 _ rfl) fun z=>by rw[z,kn3 o ho]at e;cases e;exact n2 _ rfl)
 ·have nt:∀{k:Addr} {Ha Hb:Hp} {kvs:List (List Key×V)},aE bv T (bA br) Ha->SameT k Ha Hb->Ha k=some (.dT kvs)->aE bv T (bA br) Hb:=fun t s e=>dR t s fun f hf=>by rw[e]at hf;cases hf;exact⟨fun ps e=>(by cases e),fun c e=>(by cases e)⟩
  exact ao (nt (nt tab3 kp4 (kn3 g hg)) kp5 kn4o) wu
 ·by_cases c:i=g
  ·subst c;rw[if_pos rfl];exact(no5 i hi Sg3).same wu
  ·by_cases c2:i=o
   ·subst c2;rw[if_neg c,if_pos rfl];exact(no5 i hi So3).same wu
   ·rw[if_neg c,if_neg c2];exact(no5 i hi (st3 i hi c c2)).same wu
 ·by_cases c:i=g
  ·subst c;rw[if_pos rfl];exact wu _ _ (kp5 _ _ ek4 nkk)
  ·by_cases c2:i=o
   ·subst c2;rw[if_neg c,if_pos rfl];exact wu _ _ ek5
   ·rw[if_neg c,if_neg c2];exact wu _ _ (kp5 _ _ (kp4 _ _ (kn3 i hi) (S.kk i g hi hg c)) (S.kk i o hi ho c2))
 ·by_cases c:i=g
  ·subst c;rw[if_pos rfl,if_pos rfl];exact(S.pm i hi).append p1
  ·by_cases c2:i=o
   ·subst c2;rw[if_neg c,if_neg c,if_pos rfl,if_pos rfl];exact(S.pm i hi).append p2
   ·rw[if_neg c,if_neg c,if_neg c2,if_neg c2];exact S.pm i hi
 ·by_cases c:i=g
  ·rw[if_pos c]at hx;rcases Zu.mp hx with hx|hx
   ·exact S.sub g hg x hx
   ·exact S.sub o ho x ((m1' x).mp hx).1
  ·by_cases c2:i=o
   ·rw[if_neg c,if_pos c2]at hx;rcases Zu.mp hx with hx|hx
    ·exact S.sub o ho x hx
    ·exact S.sub g hg x ((m2' x).mp hx).1
   ·rw[if_neg c,if_neg c2]at hx;exact S.sub i hi x hx
 ·by_cases c:i=g
  ·rw[if_pos c];rw[c]at hx;exact ZM _ hx
  ·by_cases c2:i=o
   ·rw[if_neg c,if_pos c2];rw[c2]at hx;exact ZM _ hx
   ·rw[if_neg c,if_neg c2];exact hx
 ·rw[if_pos rfl,if_neg (Yj ngo),if_pos rfl];rcases hx with hx|hx
  ·refine⟨ZM _ hx,?_⟩;rcases inU (Ls o) (S.sub o ho) x (S.sub g hg x hx)with h|h
   ·exact ZM _ h
   ·exact Zz _ ((m2' x).mpr ⟨hx,h⟩)
  ·refine⟨?_,ZM _ hx⟩;rcases inU (Ls g) (S.sub g hg) x (S.sub o ho x hx)with h|h
   ·exact ZM _ h
   ·exact Zz _ ((m1' x).mpr ⟨hx,h⟩)
 ·rw[if_pos rfl,if_neg (Yj ngo),if_pos rfl]at hx;rcases hx with hx|hx
  ·rcases Zu.mp hx with hx|hx
   ·exact .inl hx
   ·exact .inr ((m1' x).mp hx).1
  ·rcases Zu.mp hx with hx|hx
   ·exact .inr hx
   ·exact .inl ((m2' x).mp hx).1
theorem Bw(L:LT)(lo hi:Option Int):∃T:LT,cK (ax L) lo hi=ax T/\T.Sublist L:=by refine⟨(L.drop (HT.sIx (ax L).length 0 lo)).take (HT.sIx (ax L).length (ax L).length hi-HT.sIx (ax L).length 0 lo),?_,(ZH _ _).trans (Yx _ _)⟩;unfold cK ax;rw[List.map_take,List.map_drop]
theorem zq{Kn:LT}{d:Dd}(h:nmZ d∈aQ Kn):dg (knK Kn) (nmK d) (.bl true)=knK Kn:=by
 unfold dg;have ha:((knK Kn).any fun kv=>decide (kv.1=nmK d))=true:=by obtain⟨x,hx,e⟩:=Zl.mp h;exact List.any_eq_true.mpr ⟨(nmK x.2,.bl true),Zl.mpr ⟨x,hx,rfl⟩,decide_eq_true (fD.mp e)⟩
 rw[if_pos ha];unfold knK;rw[Yp];refine List.map_congr_left fun x _=>?_;show(if nmK x.2=nmK d then(nmK x.2,V.bl true)else(nmK x.2,V.bl true))=_;split<;>rfl
theorem xo{Kn:LT}{x:Addr×Dd}(h:inB Kn x=false):dg (knK Kn) (nmK x.2) (.bl true)=knK (Kn++[x]):=by
 have:(bw (knK Kn) (nmK x.2)).isSome=false:=by rw[fT];exact h
 have hv:bw (knK Kn) (nmK x.2)=none:=by
  cases e:bw (knK Kn) (nmK x.2)with
  |none=>rfl
  |some v=>rw[e]at this;cases this
 rw[iD _ hv];unfold knK;rw[Zx];rfl
theorem tu{S S':LT}(h:∀x∈S,x∈S')(x:Addr×Dd)(k:inB S x=true):inB S' x=true:=by obtain⟨y,hy,e⟩:=Zl.mp (ZJ k);exact decide_eq_true (Zl.mpr ⟨y,h y hy,e⟩)
theorem Own.mono{n h:Nat}{S S' Ds:LT}(o:Own n S Ds h)(hs:∀x∈S,x∈S'):Own n S' Ds h:=⟨o.hh,fun y hy e=>xi (fun x _=>tu hs x) hy (o.own y hy e)⟩
def yg(C T:Addr):Sp:=fun vs H Q _=>∃(sl kl dl:Addr) (n:Nat) (ps ds ks:Nat->Addr) (Ds:LT) (Ls Kn:Nat->LT) (mz:Int),vs=[.ref sl,.ref kl,.ref dl,.int mz]/\StAll C H sl kl dl n ps ds ks Ds Ls Kn/\aE bv T (bA br) H/\0<=mz/\2<=n/\n<=5/\sl≠dl/\kl≠dl/\Wld n Ds/\(∀g,g<n->Own n (Ls g) Ds g)/\Ds.length<63 /\
 ∀Ds' Ls' Kn' H',KX dl H H'->aE bv T (bA br) H'->StAll C H' sl kl dl n ps ds ks Ds' Ls' Kn'->Wld n Ds'->(∀g,g<n->Own n (Ls' g) Ds' g)->Ds'.length<=Ds.length+1->Q (.bl true) H'
theorem yt{T k:Addr}{Ha Hb:Hp}{kvs:List (List Key×V)}(t:aE bv T (bA br) Ha)(s:SameT k Ha Hb)(e:Ha k=some (.dT kvs)):aE bv T (bA br) Hb:=dR t s fun f hf=>by rw[e]at hf;cases hf;exact⟨fun ps e=>(by cases e),fun c e=>(by cases e)⟩
theorem KX.but{dl k:Addr}{H H':Hp}{kvs:List (List Key×V)}(s:SameT k H H')(e:H k=some (.dT kvs)):KX dl H H':=fun b o e' _ n2 _=>s _ _ e' fun z=>by rw[z,e]at e';cases e';exact n2 _ rfl
theorem StAll.put{C:Addr}{H H':Hp}{sl kl dl:Addr}{n:Nat}{ps ds ks:Nat->Addr}{Ds:LT}{Ls Kn:Nat->LT}(S:StAll C H sl kl dl n ps ds ks Ds Ls Kn){g:Nat}(hg:g<n){L' K':LT}(kp:∀b o,H b=some o->(∀ps,o≠.tbl ps)->b≠ds g->b≠ks g->H' b=some o)(st:StoreAt C H' (ps g) (ds g) n L')(kn:H' (ks g)=some (.dT (knK K')))(pm:K'.Perm L')(sub:∀x∈L',x∈Ds) :
  StAll C H' sl kl dl n ps ds ks Ds (fun i=>if i=g then L' else Ls i) (fun i=>if i=g then K' else Kn i):=by
 have kl':∀{r:Addr} {xs:List V},H r=some (.lst xs)->H' r=some (.lst xs):=fun{r xs} e=>kp _ _ e (fun _ z=>by cases z) (fun z=>by rw[z,(S.st g hg).dc]at e;cases e) (fun z=>by rw[z,S.kn g hg]at e;cases e);have kt:TS H H':=fun b xs e=>kp _ _ e (fun _ z=>by cases z) (fun z=>by rw[z,(S.st g hg).dc]at e;cases e) (fun z=>by rw[z,S.kn g hg]at e;cases e);refine⟨kl' S.hs,kl' S.hk,⟨kl' S.hd.1,fun y hy=>(S.hd.2 y hy).ts kt⟩,fun i hi=>?_,fun i hi=>?_,fun i hi=>?_,S.dd,S.kk,S.dk,fun i hi x hx=>?_⟩
 ·by_cases c:i=g
  ·subst c;rw[if_pos rfl];exact st
  ·rw[if_neg c];obtain⟨⟨dx,h1⟩,h2,h3,h4,h5,h6,h7⟩:=S.st i hi;exact⟨⟨dx,kp _ _ h1 (fun _ z=>by cases z) (fun z=>by rw[z,(S.st g hg).dc]at h1;cases h1) (fun z=>by rw[z,S.kn g hg]at h1;cases h1)⟩,kp _ _ h2 (fun _ z=>by cases z) (S.dd i g hi hg c) (S.dk i g hi hg),fun y hy=>(h3 y hy).ts kt,h4,h5,h6,h7⟩
 ·by_cases c:i=g
  ·subst c;rw[if_pos rfl];exact kn
  ·rw[if_neg c];exact kp _ _ (S.kn i hi) (fun _ z=>by cases z) (fun z=>S.dk g i hg hi z.symm) (S.kk i g hi hg c)
 ·by_cases c:i=g
  ·rw[if_pos c,if_pos c];exact pm
  ·rw[if_neg c,if_neg c];exact S.pm i hi
 ·by_cases c:i=g
  ·rw[if_pos c]at hx;exact sub x hx
  ·rw[if_neg c]at hx;exact S.sub i hi x hx
theorem rm{t u:L2.TS}{D:Ends}{σ:St}{H:Hp}(h:∀R:Ends,(∀σ' H',u D σ' H'->R.nx σ' H')->R.rt=D.rt->t R σ H):vZ t u D σ H:=h { D with nx:=u D } (fun _ _ z=>z) rfl
abbrev re:Stmt:=top 50
abbrev CF:List Str:=["_law_stores","_law_known","_law_deeds","_law_mixed","_law_hands","_law_hand","_law_other","_law_way","_law_deed","_law_new","_law_clock_here"]
theorem df:FnScope CF ["_law_stores","_law_known","_law_deeds","_law_mixed"] (aj re):=⟨rfl,rfl,rfl,by decide +kernel,rfl,by decide +kernel,by decide +kernel⟩
theorem BL{f C T:Addr}{fd:FuncData}(F:Fun K "_law_done" "_law_done" re f fd)(F_met:Fn P w K mg base 12 "_law_met" ["_law_stores","_law_known","_law_hand","_law_other"] (vV C T))(F_name:Fn P w K mg base 1 "_law_name" ["_law_deed"] eG)(F_clock:Fn P w K mg base 2 "_law_clock" ["_law_deeds","_law_known","_law_hands"] rG)(M_hear:MFn P w K mg base 8 C "hear" ["self","deed"] (hV C))(z_len:mg "len" = none)(z_isinstance:mg "isinstance" = none)(z_bool:mg "bool" = none)(z_tuple:mg "tuple" = none):FnOk P w K mg base CX0 13 f fd ["_law_stores","_law_known","_law_deeds","_law_mixed"] (yg C T):=by
 refine F.okQ df (fun vs H Q E h=>?_) (fun cdv A outer s H vs Q E hr h=>?_)
 ·obtain⟨sl,kl,dl,n,ps,ds,ks,Ds,Ls,Kn,mz,rfl,_⟩:=h;rfl
 obtain⟨sl,kl,dl,n,ps,ds,ks,Ds,Ls,Kn,mz,rfl,S,tab,mz0,n2,n5,nsd,nkd,wd,own,lD,q⟩:=h;refine⟨_,(b_c (bh (i:=4) df.nd (q_B cC z_len Z9 (q_a (q_v 0) ai)))
   (b_c (bh (i:=5) df.nd (aX gq (q_v 3) (q_v 4)))
   (b_c (bh (i:=6) df.nd (aX gq (aX dW (aX dW (q_v 5) al) (aX gq (aX qK (q_v 3) al) (aX lL (q_v 4) al))) (q_v 4)))
   (b_c (bh (i:=7) df.nd (aX gq (aX qK (q_v 3) al) al))
   (b_c (bt (bj qL (q_v 7) al) (b_1 (aw (aL F_met (hr.mono (by decide)) (q_a (q_v 0) (q_a (q_v 1) (q_a (q_v 5) (q_a (q_v 6) ai))))))) b_0)
   (b_c (bt (bj fu (q_v 7) al) (b_c (cZ Yg rfl (bV (qX xr (q_v 2) (nC (Ef Bi al)) vH)) (aK (i:=8) df.nd) (b_c (bh (i:=9) df.nd (lU M_hear (hr.mono (by decide)) (aC bC (q_v 0) (q_v 5)) (q_a (q_v 8) ai)))
   (b_c (bt (t_w (eU (cG (bR (q_B cP z_isinstance aH (q_a (q_v 9) (q_a (dX z_bool fc) ai))))) (fJ (bj fu (q_v 9) (A4 hr.units (aL F_name (hr.mono (by decide)) (q_a (q_v 8) ai)) (aC bC (q_v 1) (q_v 5))))))) (b_1 (aw bP)) b_0)
   (b_1 (hM hr.units (aC bC (q_v 1) (q_v 5)) (aL F_name (hr.mono (by decide)) (q_a (q_v 8) ai)) bP)))))
   (b_1 (aw bP))) b_0)
   (b_c (bh (i:=10) df.nd (aL F_clock (hr.mono (by decide)) (q_a (q_v 2) (q_a (aC bC (q_v 1) (q_v 5)) (q_a (q_v 4) ai)))))
   (b_c (Ba (aX dW (aC bC (q_v 10) (q_v 5)) al) (AO (q_v 10) (q_v 5) Bc))
   (b_c (bh (i:=8) df.nd (bX (q_a (q_v 5) (q_a (qU AJ z_tuple bU (q_a (q_v 10) ai)) (q_a (aC bC (lS (q_a (bX (q_a eX ai)) (q_a (bX (q_a eX (q_a vG (q_a (bX (q_a (aX gq (q_v 3) al) ai)) (q_a eX ai))))) ai))) (aX gq (aX qK (q_v 3) al) al)) ai)))))
   (b_c (xY (A3 (q_v 2) (q_v 8)))
   (b_c (hM hr.units (aC bC (q_v 1) (q_v 5)) (aL F_name (hr.mono (by decide)) (q_a (q_v 8) ai)) bP)
   (b_1 (aw (cj E8 (lU M_hear (hr.mono (by decide)) (aC bC (q_v 0) (q_v 5)) (q_a (q_v 8) ai)) bP)))))))))))))),?_⟩
 try rw[cxK]
 have lr:(rfs n ps).length=n:=by unfold rfs;rw[z9,ZI]
 refine aA fun R0 hR0=>?_;refine⟨_,rfl,sl,_,rfl,.inl (SqL.of S.hs),hR0 _ _ ?_⟩;clear hR0 R0;rw[lr];refine aA fun R0 hR0=>?_;refine⟨_,rfl,_,rfl,_,_,rfl,rfl,(by show(0:Int)<(n:Int);omega),hR0 _ _ ?_⟩;clear hR0 R0;have g0:=Int.emod_nonneg mz (show(n:Int)≠0 by omega);have g1:=Int.emod_lt_of_pos mz (show(0:Int)<(n:Int) by omega);dsimp only;generalize mz%(n:Int)=gz at g0 g1 ⊢;obtain⟨g,rfl⟩:∃g:Nat,gz=(g:Int):=⟨gz.toNat,by omega⟩
 have hg:g<n:=by omega
 refine aA fun R0 hR0=>?_;refine⟨_,rfl,_,_,rfl,rfl,_,rfl,_,_,rfl,rfl,⟨by decide,by decide⟩,_,rfl,_,_,rfl,rfl,_,_,rfl,rfl,(by show(0:Int)<(n:Int)-1;omega),_,_,rfl,rfl,_,rfl,_,_,rfl,rfl,(by show(0:Int)<(n:Int);omega),hR0 _ _ ?_⟩;clear hR0 R0;have r0:=Int.emod_nonneg (mz / 64) (show(n:Int)-1≠0 by omega);have r1:=Int.emod_lt_of_pos (mz / 64) (show(0:Int)<(n:Int)-1 by omega);dsimp only;generalize mz / 64%((n:Int)-1)=rz at r0 r1 ⊢;have o0:=Int.emod_nonneg ((g:Int)+1+rz) (show(n:Int)≠0 by omega);have o1:=Int.emod_lt_of_pos ((g:Int)+1+rz) (show(0:Int)<(n:Int) by omega);have one:((g:Int)+1+rz)%(n:Int)≠(g:Int):=by rcases(show n=2\/n=3\/n=4\/n=5 by omega)with rfl|rfl|rfl|rfl<;>omega
 generalize((g:Int)+1+rz)%(n:Int)=oz at o0 o1 one ⊢;obtain⟨o,rfl⟩:∃o:Nat,oz=(o:Int):=⟨oz.toNat,by omega⟩
 have ho:o<n:=by omega
 have ngo:g≠o:=by omega
 refine aA fun R0 hR0=>?_;refine⟨_,rfl,_,_,rfl,rfl,⟨by decide,by decide⟩,_,_,rfl,rfl,(by show(0:Int)<8;decide),hR0 _ _ ?_⟩;clear hR0 R0;dsimp only;generalize mz / 5%8=way;refine rm fun R0 hR0 hrt=>?_;refine⟨_,rfl,_,_,rfl,rfl,_,rfl,zj (fun hc=>?_) fun hc=>hR0 _ _ ?_⟩
 ·exact⟨_,rfl,_,rfl,_,rfl,_,rfl,sl,kl,dl,n,g,o,ps,ds,ks,Ds,Ls,Kn,rfl,S,tab,hg,ho,ngo,wd,by omega,fun Ls' Kn' H' k t S' up _ _ _=>by rw[hrt];exact q Ds Ls' Kn' H' k t S' wd (fun i hi=>(own i hi).mono (up i)) (Nat.le_succ _)⟩
 clear hrt hR0 R0;refine rm fun R0 hR0 hrt=>?_;refine⟨_,rfl,rfl,_,rfl,C3 (fun hc2=>?_) fun hc2=>hR0 _ _ ?_⟩
 ·obtain⟨T',eT,sT'⟩:=Bw Ds (some (-1)) none;refine aA fun R1 hR1=>?_;refine⟨_,rfl,_,rfl,_,rfl,dl,_,rfl,SqL.of S.hd.1,fun cl gcl=>?_⟩;rw[eT];have wcl:=ah gcl (.lst (ax T'));have ecl:upd H cl (.lst (ax T')) cl=some (.lst (ax T')):=ad;have ncd:cl≠dl:=fun z=>by have:=S.hd.1;rw[<-z,gcl]at this;cases this
  have S1:=S.same wcl;have tab1:=ao tab wcl;generalize upd H cl (.lst (ax T'))=H1 at wcl ecl S1 tab1 ⊢;have lT:T'.length<=63:=by have:=sT'.length_le;omega
  refine⟨cl,rfl,⟨_,SqL.of ecl⟩,?_⟩;refine cA (K:=K) (a:=cl) (xs:=ax T') (fun i σ H'=>KX dl H1 H'/\aE bv T (bA br) H'/\(∃Ls' Kn',StAll C H' sl kl dl n ps ds ks Ds Ls' Kn'/\∀g,g<n->Own n (Ls' g) Ds g)/\∃o8 o9,σ=[some (.ref sl),some (.ref kl),some (.ref dl),some (.int mz),some (.int (n:Int)),some (.int (g:Int)),some (.int (o:Int)),some (.int way),o8,o9,none])
   ⟨.of (Same.refl _),tab1,⟨Ls,Kn,S1,own⟩,none,none,rfl⟩ (fun i σ H' _ z=>SqL.of (z.1.lst ecl ncd)) ?_ ?_
  ·rintro i v σ H' hv ⟨kx,tb,⟨Ls',Kn',S',own'⟩,o8,o9,rfl⟩ DL hDL;obtain⟨x,hx',hm,rfl⟩:=dN hv;have hxD:=sT'.subset hm;have fx:=wd.fit x hxD;have Sg:=S'.st g hg;obtain⟨⟨dx,h1⟩,_⟩:=id Sg;have dx':=S'.hd.2 x hxD;have ePm:=gS (S'.pm g hg) x;have lKg:(Kn' g).length<=63:=by rw[(S'.pm g hg).length_eq];exact Sg.len
   have lk63:∀{kvs:List (List Key×V)},kvs.length<=63->kvs.length<sizeLine:=fun h=>Yo h (by rw[x9];decide);refine aA fun R hR=>?_;refine⟨_,rfl,_,rfl,sl,_,_,_,rfl,rfl,SqL.of S'.hs,bK hg,ps g,dx,_,rfl,h1,mX _ _,_,rfl,ps g,ds g,x.1,n,Ls' g,x.2,rfl,Sg,dx',fx,?_⟩;cases ci:inB (Ls' g) x with
   |true =>
    have hxL:=(fR wd (S'.sub g hg) hxD).mp ci;refine .inr ⟨⟨x,hxL,rfl⟩,fun H2 s2=>hR _ _ ?_⟩;clear hR R;refine aA fun R hR=>?_;have tb2:TyOf K H2 (.bl false) (.type "bool"):=.bl _;refine⟨_,rfl,_,"bool",_,true,rfl,tb2,eL tb2,_,rfl,aF ?_⟩;have S2:=S'.same s2;refine⟨_,rfl,_,rfl,x.1,x.2,rfl,dx'.same s2,fun t H3 s3 e3=>?_⟩;have S3:=S2.same s3;refine⟨_,rfl,_,rfl,kl,_,_,_,rfl,rfl,SqL.of S3.hk,bK hg,ks g,_,rfl,.inr ⟨_,nmK x.2,t,.inl (S3.kn g hg),rfl,e3,rfl⟩,rfl,_,rfl,?_⟩;rw[fT];have ci':decide (nmZ x.2∈aQ (Kn' g))=true:=ePm.trans ci;rw[ci'];refine aF (hR _ _ ?_);clear hR R;refine⟨_,rfl,_,rfl,kl,_,_,_,rfl,rfl,SqL.of S3.hk,bK hg,_,rfl,x.1,x.2,rfl,(dx'.same s2).same s3,fun t2 H4 s4 e4=>?_⟩;have S4:=S3.same s4;refine⟨ks g,_,rfl,.inr ⟨_,nmK x.2,t2,S4.kn g hg,rfl,e4,lk63 (by rw[fS];exact lKg),rfl⟩,hDL _ _ ?_⟩;rw[zq (ZJ ci')];have s5:Same H4 (upd H4 (ks g) (.dT (knK (Kn' g)))):=fun b u e=>by
     by_cases c:b=ks g
     ·rw[c,ad,<-S4.kn g hg,<-c,e]
     ·rw[af c];exact e
    have s25:=s2.trans (s3.trans (s4.trans s5));exact⟨kx.trans (.of s25),ao tb s25,⟨Ls',Kn',S'.same s25,own'⟩,_,_,rfl⟩
   |false =>
    have nl:∀y∈Ls' g,nmK y.2≠nmK x.2:=fun y hy e=>by have:inB (Ls' g) x=true:=decide_eq_true (Zl.mpr ⟨y,hy,fD.mpr e⟩);rw[ci]at this;cases this
    have ndx:(Ls' g).length<63:=by have:=(jY wd Sg.un (S'.sub g hg) (X:=[x]) (by simp) fun z hz=>by rw[Zm.mp hz];exact⟨hxD,by rw[di,ci];rfl⟩).2;rw[Zi,ZU]at this;omega
    refine .inl ⟨ndx,nl,fun H2 s2 Sg2=>hR _ _ ?_⟩;clear hR R;have kn2:H2 (ks g)=some (.dT (knK (Kn' g))):=s2 _ _ (S'.kn g hg) fun z=>S'.dk g g hg hg z.symm;have hk2:=bS s2 Sg.dc S'.hk;have dx2:=dx'.ts (dh s2 Sg.dc);refine aA fun R hR=>?_;have tb2:TyOf K H2 (.bl true) (.type "bool"):=.bl _;refine⟨_,rfl,_,"bool",_,true,rfl,tb2,eL tb2,_,rfl,aF ?_⟩;refine⟨_,rfl,_,rfl,x.1,x.2,rfl,dx2,fun t H3 s3 e3=>?_⟩;refine⟨_,rfl,_,rfl,kl,_,_,_,rfl,rfl,SqL.of (s3 _ _ hk2),bK hg,ks g,_,rfl,.inr ⟨_,nmK x.2,t,.inl (s3 _ _ kn2),rfl,e3,rfl⟩,rfl,_,rfl,?_⟩;rw[fT];have ci':decide (nmZ x.2∈aQ (Kn' g))=false:=ePm.trans ci;rw[ci'];refine aF (hR _ _ ?_);clear hR R;refine⟨_,rfl,_,rfl,kl,_,_,_,rfl,rfl,SqL.of (s3 _ _ hk2),bK hg,_,rfl,x.1,x.2,rfl,dx2.same s3,fun t2 H4 s4 e4=>?_⟩;have s34:=s3.trans s4;refine⟨ks g,_,rfl,.inr ⟨_,nmK x.2,t2,s34 _ _ kn2,rfl,e4,lk63 (by rw[fS];exact lKg),rfl⟩,hDL _ _ ?_⟩;rw[xo (Kn:=Kn' g) (x:=x) (ePm.trans ci)];have kp:∀b o,H' b=some o->b≠ds g->b≠ks g->upd H4 (ks g) (.dT (knK (Kn' g++[x]))) b=some o:=fun b o e n1 n2=>by rw[af n2];exact s34 _ _ (s2 _ _ e n1)
    have ndk:=S'.dk g g hg hg;have sK:SameT (ks g) H4 (upd H4 (ks g) (.dT (knK (Kn' g++[x])))):=fun b o e hb=>by rw[af hb];exact e
    have Sg5:StoreAt C (upd H4 (ks g) (.dT (knK (Kn' g++[x])))) (ps g) (ds g) n (Ls' g++[x]):=dL sK (s34 _ _ kn2) (Sg2.same s34) ndk;have S5:=S'.put hg (fun b o e _=>kp b o e) Sg5 ad ((S'.pm g hg).append_right [x]) fun y hy=>by
     rcases Zu.mp hy with hy|hy
     ·exact S'.sub g hg y hy
     ·rw[Zm.mp hy];exact hxD
    refine⟨kx.trans ((KX.but s2 Sg.dc).trans ((KX.of s34).trans (KX.but sK (s34 _ _ kn2)))),yt (ao (gh Sg tb s2) s34) sK (s34 _ _ kn2),⟨_,_,S5,fun i hi=>?_⟩,_,_,rfl⟩;by_cases c:i=g
    ·subst c;rw[if_pos rfl];exact(own' i hi).mono fun y hy=>ZM _ hy
    ·rw[if_neg c];exact own' i hi
  rintro σ H' ⟨kx,tb,⟨Ls',Kn',S',own'⟩,o8,o9,rfl⟩;refine hR1 _ _ ?_;show R0.rt _ _;rw[hrt];exact q Ds Ls' Kn' H' ((KX.of wcl).trans kx) tb S' wd own' (Nat.le_succ _)
 clear hrt hR0 R0;have n8:n<=8:=by omega
 refine aA fun R0 hR0=>?_;refine⟨_,rfl,_,rfl,_,rfl,kl,_,_,_,rfl,rfl,SqL.of S.hk,bK hg,_,rfl,dl,ks g,n,Ds,Kn g,rfl,S.hd,by omega,S.kn g hg,by omega,n8,fun x hx=>⟨(wd.fit x hx).len,(wd.fit x hx).hd⟩,fun c H1 s1 ec gc=>hR0 _ _ ?_⟩;clear hR0 R0;rw[sG wd,xj (S.pm g hg)]at ec;have S1:=S.same s1;have lc:g<(aS n (vals (Ds.filter (aq (Ls g) Ds)))).length:=by rw[bD];exact hg
 refine aA fun R0 hR0=>?_;refine⟨_,rfl,_,rfl,c,_,_,_,rfl,rfl,SqL.of ec,dG lc,_,_,rfl,rfl,_,rfl,_,rfl,c,_,_,g,rfl,rfl,ec,?_,hR0 _ _ ?_⟩
 ·unfold ixN;rw[z9,if_pos (by omega),if_pos (by omega)];rfl
 clear hR0 R0;rw[cD hg];obtain⟨ns,hns⟩:∃ns,ns=(aS n (vals (Ds.filter (aq (Ls g) Ds)))).set g (bE (vals (Ds.filter (aq (Ls g) Ds))) g+1):=⟨_,rfl⟩
 have es:((aS n (vals (Ds.filter (aq (Ls g) Ds)))).map V.int).set g (.int (bE (vals (Ds.filter (aq (Ls g) Ds))) g+1))=ns.map V.int:=by rw[hns,List.map_set]
 rw[es];have sW:∀b u,H b=some u->upd H1 c (.lst (ns.map V.int)) b=some u:=ma s1 gc;have ec2:upd H1 c (.lst (ns.map V.int)) c=some (.lst (ns.map V.int)):=ad;have S2:=S.same sW;have tab2:=ao tab sW;generalize upd H1 c (.lst (ns.map V.int))=H2 at sW ec2 S2 tab2 ⊢;clear ec s1 S1 es;have ln:ns.length=n:=by rw[hns,List.length_set,bD]
 refine aA fun R0 hR0=>?_;refine⟨_,rfl,_,rfl,c,_,rfl,.inl ⟨SqL.of ec2,fun q5 f5=>?_⟩⟩;have w5:=ah f5 (.tup (ns.map V.int));have e5:upd H2 q5 (.tup (ns.map V.int)) q5=some (.tup (ns.map V.int)):=ad;generalize upd H2 q5 (.tup (ns.map V.int))=H3 at w5 e5 ⊢;refine⟨sz rfl,fun q1 f1=>?_⟩;have w1:=ah f1 (.tup [.str "none"]);refine⟨_,rfl,_,_,rfl,rfl,(by show(0:Int)<1009;decide),sz rfl,fun q2 f2=>?_⟩;have w2:=w1.trans (ah f2 (.tup [.int (mz%1009)]));refine⟨sz rfl,fun q3 f3=>?_⟩;have w3:=w2.trans (ah f3 (.tup [.str "put",.non,.ref q2,.str "text"]));refine⟨sz rfl,fun q4 f4=>?_⟩;have w4:=w3.trans (ah f4 (.lst [.ref q1,.ref q3]));have k0:=Int.emod_nonneg (mz / 64) (show(2:Int)≠0 by decide);have k1:=Int.emod_lt_of_pos (mz / 64) (show(0:Int)<2 by decide);have y1:upd H3 q1 (.tup [.str "none"]) q1=some (.tup [.str "none"]):=ad;have y2:upd (upd H3 q1 (.tup [.str "none"])) q2 (.tup [.int (mz%1009)]) q2=some (.tup [.int (mz%1009)]):=ad;have x1:=ah f4 (.lst [.ref q1,.ref q3]) _ _ (ah f3 (.tup [.str "put",.non,.ref q2,.str "text"]) _ _ (ah f2 (.tup [.int (mz%1009)]) _ _ y1));have x2:=ah f4 (.lst [.ref q1,.ref q3]) _ _ (ah f3 (.tup [.str "put",.non,.ref q2,.str "text"]) _ _ y2);have x3:=ah f4 (.lst [.ref q1,.ref q3]) q3 (.tup [.str "put",.non,.ref q2,.str "text"]) ad;have x4:upd (upd (upd (upd H3 q1 (.tup [.str "none"])) q2 (.tup [.int (mz%1009)])) q3 (.tup [.str "put",.non,.ref q2,.str "text"])) q4 (.lst [.ref q1,.ref q3]) q4=some (.lst [.ref q1,.ref q3]):=ad;generalize upd (upd (upd (upd H3 q1 (.tup [.str "none"])) q2 (.tup [.int (mz%1009)])) q3 (.tup [.str "put",.non,.ref q2,.str "text"])) q4 (.lst [.ref q1,.ref q3])=H7 at w4 x1 x2 x3 x4 ⊢;obtain⟨wv,ww,hw,hWR⟩:∃(wv:V) (ww:Option Int),atI [.ref q1,.ref q3] (mz / 64%2)=some wv/\WR H7 wv ww:=by
  rcases(show mz / 64%2=0\/mz / 64%2=1 by omega)with z|z
  ·rw[z];exact⟨_,none,at0,q1,rfl,x1⟩
  ·rw[z];exact⟨_,some (mz%1009),at1,q3,q2,rfl,x3,x2⟩
 refine⟨_,rfl,_,_,rfl,rfl,⟨by decide,by decide⟩,_,_,rfl,rfl,(by show(0:Int)<2;decide),q4,_,_,_,rfl,rfl,SqL.of x4,hw,sz rfl,fun q6 f6=>hR0 _ _ ?_⟩;clear hR0 R0;have w6:=ah f6 (.tup [.int (g:Int),.ref q5,wv]);have e57:=w4 _ _ e5;have dd:DR (upd H7 q6 (.tup [.int (g:Int),.ref q5,wv])) q6 ⟨g,ns,ww⟩:=⟨q5,wv,ad,w6 _ _ e57,hWR.ts (Same.ts w6),by show g<ns.length;omega,by show ns.length<=8;omega⟩
 have edd:(⟨g,ns,ww⟩:Dd)=nxt n (Ls g) Ds g ww:=by rw[hns];rfl
 rw[edd]at dd;have w26:=w5.trans (w4.trans w6);have S8:=S2.same w26;have tab8:=ao tab2 w26;have s08:Same H (upd H7 q6 (.tup [.int (g:Int),.ref q5,wv])):=fun b u e=>w26 _ _ (sW _ _ e);generalize upd H7 q6 (.tup [.int (g:Int),.ref q5,wv])=H8 at dd S8 tab8 s08 ⊢;clear w1 w2 w3 w4 w5 w6 w26 x1 x2 x3 x4 y1 y2 e5 e57 hWR hw S2 tab2 sW ec2 f1 f2 f3 f4 f5 f6 hns ln lc edd;have og:=own g hg;have wd':=Ct (w':=ww) wd og q6;have nnew:=tR (w':=ww) wd og;have fnew:=tQ (S:=Ls g) (Ds:=Ds) (w:=ww) hg;generalize hdn:nxt n (Ls g) Ds g ww=dn at dd nnew fnew wd';refine aA fun R0 hR0=>?_;refine⟨_,rfl,.inl ⟨rfl,_,SqL.of S8.hd.1⟩,_,rfl,dl,_,_,rfl,rfl,S8.hd.1,fh (by rw[aR];omega),hR0 _ _ ?_⟩;clear hR0 R0;have eR:ax Ds++[.ref q6]=ax (Ds++[(q6,dn)]):=by unfold ax;rw[Zx];rfl
 rw[eR];have tA:TS H8 (upd H8 dl (.lst (ax (Ds++[(q6,dn)])))):=rN fun zs z=>by rw[S8.hd.1]at z;cases z
 have kA:∀b u,H8 b=some u->b≠dl->upd H8 dl (.lst (ax (Ds++[(q6,dn)]))) b=some u:=fun b u e hb=>by rw[af hb];exact e
 have nDT:∀{b:Addr} {kvs:List (List Key×V)},H8 b=some (.dT kvs)->b≠dl:=fun{b kvs} e z=>by rw[z,S8.hd.1]at e;cases e
 have S9:StAll C (upd H8 dl (.lst (ax (Ds++[(q6,dn)])))) sl kl dl n ps ds ks (Ds++[(q6,dn)]) Ls Kn:=by
  refine⟨kA _ _ S8.hs nsd,kA _ _ S8.hk nkd,⟨ad,fun y hy=>?_⟩,fun i hi=>?_,fun i hi=>kA _ _ (S8.kn i hi) (nDT (S8.kn i hi)),S.pm,S.dd,S.kk,S.dk,fun i hi x hx=>ZM _ (S.sub i hi x hx)⟩
  ·rcases Zu.mp hy with hy|hy
   ·exact(S8.hd.2 y hy).ts tA
   ·rw[Zm.mp hy];exact dd.ts tA
  ·obtain⟨⟨dx,h1⟩,h2,h3,h4,h5,h6,h7⟩:=S8.st i hi;exact⟨⟨dx,kA _ _ h1 fun z=>by rw[z,S8.hd.1]at h1;cases h1⟩,kA _ _ h2 (nDT h2),fun y hy=>(h3 y hy).ts tA,h4,h5,h6,h7⟩
 have dd9:=dd.ts tA;have tab9:aE bv T (bA br) (upd H8 dl (.lst (ax (Ds++[(q6,dn)])))):=dR (r:=dl) tab8 kA fun f hf=>by rw[S8.hd.1]at hf;cases hf;exact⟨fun ps e=>(by cases e),fun c e=>(by cases e)⟩
 have kx9:KX dl H (upd H8 dl (.lst (ax (Ds++[(q6,dn)])))):=fun b u e _ _ n3=>kA _ _ (s08 _ _ e) n3;generalize upd H8 dl (.lst (ax (Ds++[(q6,dn)])))=H9 at S9 dd9 tab9 kx9 ⊢;clear tA kA nDT dd S8 tab8 s08 eR;refine aA fun R0 hR0=>?_;refine⟨_,rfl,_,rfl,kl,_,_,_,rfl,rfl,SqL.of S9.hk,bK hg,_,rfl,q6,dn,rfl,dd9,fun t Ha sa ea=>?_⟩;have Sa:=S9.same sa;have iK:inB (Kn g) (q6,dn)=false:=decide_eq_false fun h=>by obtain⟨y,hy,e⟩:=Zl.mp h;exact nnew y (S.sub g hg y ((S.pm g hg).mem_iff.mp hy)) (fD.mp e)
 have lKg:(Kn g).length<=63:=by rw[(S.pm g hg).length_eq];exact(S.st g hg).len
 refine⟨ks g,_,rfl,.inr ⟨_,nmK dn,t,Sa.kn g hg,rfl,ea,Yo (show(knK (Kn g)).length<=63 by rw[fS];exact lKg) (by rw[x9];decide),rfl⟩,hR0 _ _ ?_⟩;clear hR0 R0;rw[xo (x:=(q6,dn)) iK];have sK:SameT (ks g) Ha (upd Ha (ks g) (.dT (knK (Kn g++[(q6,dn)])))):=fun b o e hb=>by rw[af hb];exact e
 have eKb:upd Ha (ks g) (.dT (knK (Kn g++[(q6,dn)]))) (ks g)=some (.dT (knK (Kn g++[(q6,dn)]))):=ad;have hsb:=bS sK (Sa.kn g hg) Sa.hs;have ddb:=(dd9.same sa).ts (dh sK (Sa.kn g hg));have Sgb:=dL sK (Sa.kn g hg) (Sa.st g hg) (Sa.dk g g hg hg);have tabb:=yt (ao tab9 sa) sK (Sa.kn g hg);have kxb:=kx9.trans ((KX.of sa).trans (KX.but (dl:=dl) sK (Sa.kn g hg)));generalize upd Ha (ks g) (.dT (knK (Kn g++[(q6,dn)])))=Hb at sK eKb hsb ddb Sgb tabb kxb ⊢;obtain⟨⟨dxb,hb1⟩,_⟩:=id Sgb;have llt:(Ls g).length<63:=by have:=jH (bT (S.st g hg).un) (S.sub g hg);omega
 refine⟨_,rfl,_,rfl,sl,_,_,_,rfl,rfl,SqL.of hsb,bK hg,ps g,dxb,_,rfl,hb1,mX _ _,_,rfl,ps g,ds g,q6,n,Ls g,dn,rfl,Sgb,ddb,fnew,.inl ⟨llt,fun x hx=>nnew x (S.sub g hg x hx),fun Hc sc Sgc=>?_⟩⟩;refine⟨_,_,rfl,rfl,?_⟩;have kp:∀b o,Ha b=some o->b≠ds g->b≠ks g->Hc b=some o:=fun b o e n1 n2=>sc _ _ (sK _ _ e n2) n1;have Sc:=Sa.put hg (fun b o e _=>kp b o e) Sgc (sc _ _ eKb fun z=>S.dk g g hg hg z.symm) ((S.pm g hg).append_right [(q6,dn)]) fun x hx=>by
  rcases Zu.mp hx with hx|hx
  ·exact ZM _ (S.sub g hg x hx)
  ·exact Zz _ hx
 refine q (Ds++[(q6,dn)]) _ _ Hc (kxb.trans (KX.but sc Sgb.dc)) (gh Sgb tabb sc) Sc wd' (fun i hi=>⟨hi,fun y hy e=>?_⟩) (by rw[Zi];exact Ze _);subst hdn;have hS':∀x,inB (Ls g) x=true->inB (Ls g++[(q6,nxt n (Ls g) Ds g ww)]) x=true:=tu fun z hz=>ZM _ hz;rcases Zu.mp hy with hy|hy
 ·have ky:=zl (w':=ww) wd og q6 hy ((own i hi).own y hy e);by_cases c:i=g
  ·subst c;rw[if_pos rfl];obtain⟨h1,h2⟩:=aP.mp ky;exact aP.mpr ⟨hS' _ h1,fun z hz t=>hS' _ (h2 z hz t)⟩
  ·rw[if_neg c];exact ky
 ·rw[Zm.mp hy]at e ⊢;have c:i=g:=e.symm;subst c;rw[if_pos rfl];exact zm wd og q6 hS' (decide_eq_true (Zl.mpr ⟨(q6,nxt n (Ls i) Ds i ww),Zz _ (Zm.mpr rfl),rfl⟩))
theorem zd{x q:Str}{st:Stmt}{f c T:Addr}{fd:FuncData}(a:PySem.W.nsIn K mainGlobals x=some (some (.ref f)))(F:Fun K x q st f fd)(t:PySem.W.tabIn K x=some (c,T)):fd.code=.ref c:=by obtain⟨oc,od,kV,dc,pm,an,cd,ct,sl,rfl,l0,c0⟩:=id F.ex;exact Ay a l0 t
theorem KT.seq{H H':Hp}{a:Addr}{xs:List V}(s:KT H H')(h:SqL K H a xs):SqL K H' a xs:=by
 rcases h with(h|⟨o,h⟩)|h
 ·exact .inl (.inl (s _ _ h fun ps z=>by cases z))
 ·exact .inl (.inr ⟨o,s _ _ h fun ps z=>by cases z⟩)
 ·exact .inr h
def pG(K:PySem.W.Frag)(T:Addr):Sp:=fun vs H Q _=>∃(a:Addr) (ns:List Int),vs=[.ref a]/\SqL K H a (ns.map V.int)/\ns.length<=63/\H T=some (.tbl #[])/\∀H',Q (.bl true) H'
theorem CN{ns:List Int}(h:ns.length<=63):∃cs:List Int,cK (ns.map V.int) (some 1) (some 64)=cs.map V.int/\cs.length<=62:=by
 refine⟨(ns.drop (HT.sIx (ns.map V.int).length 0 (some 1))).take (HT.sIx (ns.map V.int).length (ns.map V.int).length (some 64)-HT.sIx (ns.map V.int).length 0 (some 1)),?_,?_⟩
 ·unfold cK;rw[List.map_take,List.map_drop]
 ·rw[ZE,Yr,z9,jh (by decide),jh (by decide)];have:(1:Int).toNat=1:=rfl;omega
def fnL(l:List Addr)(g:Nat):Addr:=(l[g]?).getD 0
theorem xX{l:List Addr}{n:Nat}(h:l.length=n):l.map V.ref=rfs n (fnL l):=by
 unfold rfs;refine List.ext_getElem? fun i=>?_;rw[Zv,Zv];rcases ZY i n with c|c
 ·rw[Y6 c];unfold fnL;show Option.map V.ref l[i]?=some (V.ref (l[i]?.getD 0));rw[Zb (by omega)];rfl
 ·rw[List.getElem?_eq_none (by omega),List.getElem?_eq_none (by rw[ZI];omega)];rfl
theorem iT{l:List Addr}{g:Nat}(h:g<l.length):fnL l g=l[g]:=by unfold fnL;rw[Zb h];rfl
theorem AK{l:List Addr}{n:Nat}(h:l.length=n)(nd:l.Nodup)(g g':Nat)(hg:g<n)(hg':g'<n)(ne:g≠g'):fnL l g≠fnL l g':=by
 rw[iT (by omega),iT (by omega)];have:=Zw.mp (y8.mp nd);rcases ZY g g' with c|c
 ·exact this g g' (by omega) (by omega) c
 ·exact(this g' g (by omega) (by omega) (by omega)).symm
def rQ(n:Nat):List (Nat×Nat):=((List.range (n-1)).map fun k=>(k,k+1))++((List.range (n-1)).map fun k=>(k+1,k)).reverse
def PwAt(H:Hp)(v:V)(p:Nat×Nat):Prop:=∃b,v=.ref b/\H b=some (.tup [.int (p.1:Int),.int (p.2:Int)])
theorem PwAt.ts{H H':Hp}{v:V}{p:Nat×Nat}(x:PwAt H v p)(s:TS H H'):PwAt H' v p:=by obtain⟨b,h1,h2⟩:=x;exact⟨b,h1,s _ _ h2⟩
theorem zO{α β:Type}{R:α->β->Prop}{xs:List α}{ys:List β}(h:Paired R xs ys):Paired R xs.reverse ys.reverse:=by
 induction h with
 |nil=>exact .nil
 |cons r _ ih =>rw[x8,x8];exact Paired.snoc ih r
theorem zL{α β:Type}{R:α->β->Prop}{xs xs':List α}{ys ys':List β}(h:Paired R xs ys)(h':Paired R xs' ys'):Paired R (xs++xs') (ys++ys'):=by
 induction h with
 |nil=>exact h'
 |cons r _ ih=>exact .cons r ih
theorem EI{n i:Nat}(h:i<n-1):(rQ n)[i]?=some (i,i+1):=by unfold rQ;rw[Yd (by rw[z9,ZI];exact h),Zv,Y6 h];rfl
theorem AD{n j:Nat}(h:j<n-1):(rQ n)[n-1+j]?=some (n-1-j,n-2-j):=by unfold rQ;rw[Z1 (by rw[z9,ZI];omega),z9,ZI,show n-1+j-(n-1)=j by omega,List.getElem?_reverse (by rw[z9,ZI];exact h),z9,ZI,Zv,Y6 (by omega)];show some (n-1-1-j+1,n-1-1-j)=_;rw[show n-1-1-j+1=n-1-j by omega,show n-1-1-j=n-2-j by omega]
def Spr(n:Nat)(Ds:LT)(Ls:Nat->LT)(i:Nat):Prop:=(i<=n-1->∀g,g<=i->∀x∈Ls g,x∈Ls i)/\(n-1<=i->∀g,n-1-(i-(n-1))<=g->g<n->∀x∈Ds,x∈Ls g)
theorem uI{n:Nat}{Ds E:LT}(w:Wld n Ds)(pE:E.Perm Ds)(sE:(vals E).Pairwise kLt):Wld n E:=by have uE:=w.un.perm (pE.symm.map Prod.snd);have weak:(vals E).Pairwise fun d e=>¬kLt e d:=sE.imp fun{a b} h k=>tG h k;have hin:∀x∈Ds,inB Ds x=true:=fun x hx=>decide_eq_true (Zl.mpr ⟨x,hx,rfl⟩);have e1:Ds.filter (aq Ds Ds)=Ds:=List.filter_eq_self.mpr fun x hx=>aP.mpr ⟨hin x hx,fun y hy _=>hin y hy⟩;obtain⟨_,pm⟩:=dY w w.un (fun x hx=>hx) (M:=aU E E.length) ⟨E,pE,weak,rfl⟩;rw[e1]at pm;have sub:=(bZ E E.length (Ze _)).trans (ZH _ _);have e2:aU E E.length=E:=sub.eq_of_length (by rw[pm.length_eq,pE.length_eq]);have ch:=jv uE E.length (Ze _);rw[e2]at ch;exact⟨uE,fun x hx=>w.fit x (pE.mem_iff.mp hx),ch⟩
theorem Br{n:Nat}{E Kn:LT}(w:Wld n E)(h:∀x∈E,inB Kn x=true):eI Kn n E=E:=by rw[sG w];exact List.filter_eq_self.mpr fun x hx=>aP.mpr ⟨h x hx,fun y hy _=>h y hy⟩
theorem StAll.keep{C:Addr}{H H':Hp}{sl kl dl:Addr}{n:Nat}{ps ds ks:Nat->Addr}{Ds:LT}{Ls Kn:Nat->LT}(S:StAll C H sl kl dl n ps ds ks Ds Ls Kn){g:Nat}(hg:g<n)(kd:KD (ds g) (ds g) H H')(st:StoreAt C H' (ps g) (ds g) n (Ls g)):StAll C H' sl kl dl n ps ds ks Ds Ls Kn:=by
 have:=S.put hg (fun b o e n1 n2 _=>kd b o e n1 n2 n2) st (kd _ _ (S.kn g hg) (fun _ z=>by cases z) (fun z=>S.dk g g hg hg z.symm) fun z=>S.dk g g hg hg z.symm) (S.pm g hg) (S.sub g hg);have e1:(fun i=>if i=g then Ls g else Ls i)=Ls:=funext fun i=>by split<;>simp_all
 have e2:(fun i=>if i=g then Kn g else Kn i)=Kn:=funext fun i=>by split<;>simp_all
 rw[e1,e2]at this;exact this
theorem StAll.kt{C:Addr}{H H':Hp}{sl kl dl:Addr}{n:Nat}{ps ds ks:Nat->Addr}{Ds:LT}{Ls Kn:Nat->LT}(x:StAll C H sl kl dl n ps ds ks Ds Ls Kn)(s:KT H H'):StAll C H' sl kl dl n ps ds ks Ds Ls Kn :=
 ⟨s _ _ x.hs (fun _ z=>by cases z),s _ _ x.hk (fun _ z=>by cases z),s.lr x.hd,fun g hg=>(x.st g hg).kt s,fun g hg=>s _ _ (x.kn g hg) (fun _ z=>by cases z),x.pm,x.dd,x.kk,x.dk,x.sub⟩
abbrev jJ:Stmt:=top 51
abbrev ET:List Str:=["_law_script","_law_hands","_law_stores","_law_known","_law_deeds","_law_k","_law_cell","_law_store","_law_ways","_law_hand","_law_other","_law_due","_law_counts"]
theorem bY:FnScope ET ["_law_script"] (aj jJ):=⟨rfl,rfl,rfl,by decide +kernel,rfl,by decide +kernel,by decide +kernel⟩
theorem Dk{f CS T:Addr}{fd:FuncData}(F:Fun K "law" "law" jJ f fd)(F_cell_at:Fn P w K mg base 1 "_law_cell_at" ["_law_script","_law_k"] (yf K))(F_order:Fn P w K mg base 1 "_law_order" ["_law_deed"] vU)(F_done:Fn P w K mg base 13 "_law_done" ["_law_stores","_law_known","_law_deeds","_law_mixed"] (yg CS T))(F_meet:Fn P w K mg base 11 "meet" ["one","other"] (rH CS T))(F_met:Fn P w K mg base 12 "_law_met" ["_law_stores","_law_known","_law_hand","_law_other"] (vV CS T))(F_clock:Fn P w K mg base 2 "_law_clock" ["_law_deeds","_law_known","_law_hands"] rG)(Mk_Store:MkFn P w K mg base 1 CS "Store" ["self","hands"] (yi CS))(M_ready:MFn P w K mg base 6 CS "ready" ["self"] (ge CS T))(M_waiting:MFn P w K mg base 7 CS "waiting" ["self"] (rK CS T))(M_clock:MFn P w K mg base 7 CS "clock" ["self"] (kI CS T))(z_range:mg "range" = none)(z_enumerate:mg "enumerate" = none)(z_sorted:mg "sorted" = none)(z_tuple:mg "tuple" = none):FnOk P w K mg base CX0 14 f fd ["_law_script"] (pG K T):=by
 refine F.okQ bY (fun vs H Q E h=>?_) (fun cdv A outer s H vs Q E hr h=>?_)
 ·obtain⟨a,ns,rfl,_⟩:=h;rfl
 obtain⟨a,sc,rfl,hS,hlen,hT,hq⟩:=h;refine⟨_,(b_c (bh (i:=1) bY.nd (aX dW al (aX gq (aL F_cell_at (hr.mono (by decide)) (q_a (q_v 0) (q_a al ai))) al)))
   (b_c (lY (j:=2) bY.nd (own:=["_law_k"]) (⟨rfl,by decide +kernel,by decide +kernel,rfl,⟨rfl,rfl,trivial⟩⟩:CompOk _ _ [1] ["_law_hands"]) rfl (iX z_range (q_a (q_v 1) ai)) (fun _ _ _ _=>aK (i:=0) (show (["_law_k","_law_hands"]:List Str).Nodup by decide +kernel)) (bo (by decide)) (fun _ _ _ _=>fm) (fun _ _ _ _=>(Ec Mk_Store (hr.mono (by decide)) (q_a (q_v 1) ai))))
   (b_c (lY (j:=3) bY.nd (own:=["_law_k"]) (⟨rfl,by decide +kernel,by decide +kernel,rfl,trivial⟩:CompOk _ _ [] []) rfl (iX z_range (q_a (q_v 1) ai)) (fun _ _ _ _=>aK (i:=0) (show (["_law_k"]:List Str).Nodup by decide +kernel)) (bo (by decide)) (fun _ _ _ _=>fm) (fun _ _ _ _=>vF))
   (b_c (bh (i:=4) bY.nd (lS ai))
   (b_c (cZ Yg rfl (C0 z_enumerate (q_a (qX xr (q_v 0) (nC al) (nC al)) ai)) (pq rfl (gC (aK (i:=5) bY.nd) (gC (aK (i:=6) bY.nd) qv))) (b_1 (bt (cG (bR (aL F_done (hr.mono (by decide)) (q_a (q_v 2) (q_a (q_v 3) (q_a (q_v 4) (q_a (aX gq (aX dW (aX vh (q_v 6) al) (aX vh (aX vh (q_v 5) (q_v 5)) al)) al) ai))))))) (b_1 (aw bP)) b_0)))
   (b_c (cZ Yg rfl (bV (q_v 2)) (aK (i:=7) bY.nd) (b_1 (bt (bj (qM hr.units) (aL F_meet (hr.mono (by decide)) (q_a (q_v 7) (q_a (q_v 7) ai))) (bX (q_a al (q_a al ai)))) (b_1 (aw bP)) b_0)))
   (b_c (bh (i:=8) bY.nd (aX AY (cJ (own:=["_law_k"]) (⟨rfl,by decide +kernel,by decide +kernel,rfl,trivial⟩:CompOk _ _ [] []) rfl (iX z_range (q_a (aX lL (q_v 1) al) ai)) (fun _ _ _ _=>aK (i:=0) (show (["_law_k"]:List Str).Nodup by decide +kernel)) (bo (by decide)) (fun _ _ _ _=>fm) (fun _ _ _ _=>(bX (q_a (q_v 0) (q_a (aX dW (q_v 0) al) ai))))) (Fu (cJ (own:=["_law_k"]) (⟨rfl,by decide +kernel,by decide +kernel,rfl,trivial⟩:CompOk _ _ [] []) rfl (iX z_range (q_a (aX lL (q_v 1) al) ai)) (fun _ _ _ _=>aK (i:=0) (show (["_law_k"]:List Str).Nodup by decide +kernel)) (bo (by decide)) (fun _ _ _ _=>fm) (fun _ _ _ _=>(bX (q_a (aX dW (q_v 0) al) (q_a (q_v 0) ai))))) (Ef Bi al))))
   (b_c (cZ Yg rfl (bV (q_v 8)) (pq rfl (gC (aK (i:=9) bY.nd) (gC (aK (i:=10) bY.nd) qv))) (b_1 (bt (cG (bR (aL F_met (hr.mono (by decide)) (q_a (q_v 2) (q_a (q_v 3) (q_a (q_v 9) (q_a (q_v 10) ai))))))) (b_1 (aw bP)) b_0)))
   (b_c (bh (i:=11) bY.nd (Ad rfl z_sorted F_order (hr.mono (by decide)) (q_a (q_v 4) ai)))
   (b_c (bh (i:=12) bY.nd (aL F_clock (hr.mono (by decide)) (q_a (q_v 11) (q_a (aC bC (q_v 3) al) (q_a (q_v 1) ai)))))
   (b_c (cZ Yg rfl (bV (q_v 2)) (aK (i:=7) bY.nd) (b_1 (bt (t_w (eU (bj (vm hr.units) (cY M_ready (hr.mono (by decide)) (q_v 7)) (q_v 11)) (eU (bj (vm hr.units) (cY M_waiting (hr.mono (by decide)) (q_v 7)) (lS ai)) (fJ (bj (qM hr.units) (cY M_clock (hr.mono (by decide)) (q_v 7)) (qU AJ z_tuple bU (q_a (q_v 12) ai))))))) (b_1 (aw bP)) b_0)))
   (b_1 (aw bP))))))))))))),?_⟩
 try rw[cxK]
 refine aA fun R0 hR0=>?_;refine⟨_,rfl,a,sc,0,rfl,hS,by decide,_,_,rfl,rfl,(by show(0:Int)<4;decide),_,_,rfl,rfl,hR0 _ _ ?_⟩;clear hR0 R0;have m0:=Int.emod_nonneg (ag sc (0:Int).toNat) (show(4:Int)≠0 by decide);have m1:=Int.emod_lt_of_pos (ag sc (0:Int).toNat) (show(0:Int)<4 by decide);dsimp only;generalize ag sc (0:Int).toNat%4=h0 at m0 m1 ⊢;obtain⟨n,hn⟩:∃n:Nat,(n:Int)=2+h0:=⟨(2+h0).toNat,by omega⟩
 rw[<-hn];have n2:2<=n:=by omega
 have n5:n<=5:=by omega
 clear m0 m1 hn;refine aA fun R0 hR0=>?_;refine⟨_,rfl,_,rfl,by omega,by omega,?_⟩;refine ie (N:=n) (fun i ys H'=>Same H H'/\∃ps ds:List Addr,ys=ps.map V.ref/\ps.length=i/\ds.length=i/\ds.Nodup/\∀(g:Nat) (hg:g<ps.length) (hd:g<ds.length),StoreAt CS H' ps[g] ds[g] n []) (by omega) (fun i ys H' ⟨_,ps,_,e,l1,_⟩=>by rw[e,z9,l1]) ⟨Same.refl H,[],[],rfl,rfl,rfl,.nil,fun g hg=>absurd hg (Nat.not_lt_zero _)⟩ (fun i ys H' hi _=>?_) (fun ys H' _=>?_) (fun i ys H1 x H2 hi z y A kA=>?_) (fun ys sl H1 z gsl=>hR0 _ _ ?_)
 ·show i<(n:Int).toNat;omega
 ·show(n:Int).toNat<=n;omega
 ·obtain⟨sm,ps,ds,rfl,l1,l2,nd,ha⟩:=z;obtain⟨rfl,rfl⟩:=y;refine⟨_,rfl,?_⟩;intro x dx nx ndx nex;refine⟨x,dx,n,rfl,ad,by omega,by omega,fun sd H4 fd0 Sx kp4=>⟨rfl,kA _ _ ?_⟩⟩;have s24:Same H2 H4:=fun b o e=>kp4 b o (by rw[af (am e nx),af (am e ndx)];exact e) (am e nx);have s00:Same H2 (upd (upd H2 dx (.own x)) x (.ins CS dx [])):=fun b o e=>by rw[af (am e nx),af (am e ndx)];exact e
  refine⟨sm.trans s24,ps++[x],ds++[sd],by rw[Zx];rfl,by rw[Zi,l1];rfl,by rw[Zi,l2];rfl,?_,fun g hg hd=>?_⟩
  ·refine List.nodup_append.mpr ⟨nd,by simp,fun b hb c hc e=>?_⟩;rw[Zm.mp hc]at e;obtain⟨g,hg,rfl⟩:=ZG.mp hb;have:=s00 _ _ (ha g (by omega) hg).dc;rw[e,fd0]at this;cases this
  ·rcases ZY g ps.length with c|c
   ·rw[List.getElem_append_left c,List.getElem_append_left (by omega)];exact(ha g c (by omega)).same s24
   ·rw[Zi,ZU]at hg;have e1:g=ps.length:=by omega
    subst e1;have e2:(ps++[x])[ps.length]=x:=by simp
    have e3:(ds++[sd])[ps.length]=sd:=by rw[List.getElem_append_right (by omega)];simp[l1,l2]
    rw[e2,e3];exact Sx
 clear hR0 R0;obtain⟨sm,psL,dsL,rfl,lp,ld,ndd,hst⟩:=z;have wsl:=ah gsl (.lst (psL.map V.ref));have esl:upd H1 sl (.lst (psL.map V.ref)) sl=some (.lst (rfs n (fnL psL))):=by rw[ad,xX lp]
 have st0:∀g,g<n->StoreAt CS (upd H1 sl (.lst (psL.map V.ref))) (fnL psL g) (fnL dsL g) n []:=fun g hg=>by rw[iT (by omega),iT (by omega)];exact(hst g (by omega) (by omega)).same wsl
 have S2:=KT.seq (.of (sm.trans wsl)) hS;have T2:=wsl _ _ (sm _ _ hT);have dd0:=AK ld ndd;generalize upd H1 sl (.lst (psL.map V.ref))=H2 at esl st0 S2 T2 ⊢;generalize fnL psL=ps at esl st0;generalize fnL dsL=ds at st0 dd0;clear sm wsl hst gsl hS hT lp ld ndd;refine aA fun R0 hR0=>?_;refine⟨_,rfl,_,rfl,by omega,by omega,?_⟩;refine ie (N:=n) (fun i ys H'=>Same H2 H'/\∃ks:List Addr,ys=ks.map V.ref/\ks.length=i/\ks.Nodup/\∀k∈ks,H2 k=none/\H' k=some (.dT [])) (by omega) (fun i ys H' ⟨_,ks,e,l1,_⟩=>by rw[e,z9,l1]) ⟨Same.refl H2,[],rfl,rfl,.nil,fun k hk=>(nomatch hk)⟩ (fun i ys H' hi _=>?_) (fun ys H' _=>?_) (fun i ys H1 x H3 hi z y A kA=>?_) (fun ys kl H3 z gkl=>hR0 _ _ ?_)
 ·show i<(n:Int).toNat;omega
 ·show(n:Int).toNat<=n;omega
 ·obtain⟨sm,ks,rfl,l1,nd,ha⟩:=z;obtain⟨rfl,rfl⟩:=y;intro k gk;have wk:=ah gk (.dT []);refine kA _ _ ⟨sm.trans wk,ks++[k],by rw[Zx];rfl,by rw[Zi,l1];rfl,?_,fun b hb=>?_⟩
  ·refine List.nodup_append.mpr ⟨nd,by simp,fun b hb c hc e=>?_⟩;rw[Zm.mp hc]at e;have:=(ha b hb).2;rw[e,gk]at this;cases this
  ·rcases Zu.mp hb with hb|hb
   ·exact⟨(ha b hb).1,wk _ _ (ha b hb).2⟩
   ·rw[Zm.mp hb];exact⟨sm.free gk,ad⟩
 clear hR0 R0;obtain⟨sm,ksL,rfl,lk,ndk,hkn⟩:=z;have wkl:=ah gkl (.lst (ksL.map V.ref));have ekl:upd H3 kl (.lst (ksL.map V.ref)) kl=some (.lst (rfs n (fnL ksL))):=by rw[ad,xX lk]
 have s24:=sm.trans wkl;have gkl0:=sm.free gkl;have kn0:∀g,g<n->H2 (fnL ksL g)=none/\upd H3 kl (.lst (ksL.map V.ref)) (fnL ksL g)=some (.dT []):=fun g hg=>by rw[iT (by omega)];obtain⟨h1,h2⟩:=hkn _ (ZC (show g<ksL.length by omega));exact⟨h1,wkl _ _ h2⟩
 have kk0:=AK lk ndk;have esl4:=s24 _ _ esl;have st4:∀g,g<n->StoreAt CS (upd H3 kl (.lst (ksL.map V.ref))) (ps g) (ds g) n []:=fun g hg=>(st0 g hg).same s24;have dk0:∀g g',g<n->g'<n->ds g≠fnL ksL g':=fun g g' hg hg' e=>by have:=(st0 g hg).dc;rw[e,(kn0 g' hg').1]at this;cases this
 have S4:=KT.seq (.of s24) S2;have T4:=s24 _ _ T2;generalize upd H3 kl (.lst (ksL.map V.ref))=H4 at ekl kn0 esl4 st4 S4 T4 ⊢;generalize fnL ksL=ks at ekl kn0 kk0 dk0;clear sm wkl s24 hkn gkl esl st0 S2 T2 lk ndk;refine aA fun R0 hR0=>?_;refine⟨sz rfl,fun dl gdl=>hR0 _ _ ?_⟩;clear hR0 R0;have wdl:=ah gdl (.lst []);have nsd:sl≠dl:=fun z=>by rw[z,gdl]at esl4;cases esl4
 have nkd:kl≠dl:=fun z=>by rw[z,gdl]at ekl;cases ekl
 have SA:StAll CS (upd H4 dl (.lst [])) sl kl dl n ps ds ks [] (fun _=>[]) (fun _=>[]):=⟨wdl _ _ esl4,wdl _ _ ekl,⟨ad,fun x hx=>(nomatch hx)⟩,fun g hg=>(st4 g hg).same wdl,fun g hg=>wdl _ _ (kn0 g hg).2,fun _ _=>.nil,dd0,kk0,dk0,fun _ _ x hx=>(nomatch hx)⟩
 have S5:=KT.seq (.of wdl) S4;have tab5:aE bv T (bA br) (upd H4 dl (.lst [])):=⟨#[],wdl _ _ T4,trivial,.inl rfl⟩
 generalize upd H4 dl (.lst [])=H5 at SA S5 tab5 ⊢;clear wdl gdl esl4 ekl st4 kn0 S4 T4 gkl0 dd0 kk0 dk0;obtain⟨cs,ecs,lcs⟩:=CN hlen;refine aA fun R0 hR0=>?_;refine⟨_,rfl,_,rfl,_,rfl,a,_,rfl,S5,fun p0 g0=>?_⟩;rw[ecs];have w0:=ah g0 (.lst (cs.map V.int));have e0:upd H5 p0 (.lst (cs.map V.int)) p0=some (.lst (cs.map V.int)):=ad;have np0:p0≠dl:=fun z=>by have:=SA.hd.1;rw[<-z,g0]at this;cases this
 have SB:=SA.same w0;have tabB:=ao tab5 w0;generalize upd H5 p0 (.lst (cs.map V.int))=HB at e0 SB tabB ⊢;clear SA tab5 w0 g0 S5;refine⟨p0,_,rfl,e0,?_⟩;have wld0:Wld n []:=⟨⟨fun _ h=>(nomatch h),fun _ h=>(nomatch h),.nil⟩,fun _ h=>(nomatch h),fun k hk=>absurd hk (Nat.not_lt_zero _)⟩
 refine wS (i:=5) (j:=6) (fun k σ H'=>(∃o5 o6,σ=[some (.ref a),some (.int (n:Int)),some (.ref sl),some (.ref kl),some (.ref dl),o5,o6,none,none,none,none,none,none])/\KX dl HB H'/\aE bv T (bA br) H'/\∃Ds Ls Kn,StAll CS H' sl kl dl n ps ds ks Ds Ls Kn/\Wld n Ds/\(∀g,g<n->Own n (Ls g) Ds g)/\Ds.length<=k)
  ⟨⟨none,none,rfl⟩,.of (Same.refl _),tabB,[],_,_,SB,wld0,fun g hg=>⟨hg,fun y hy=>(nomatch hy)⟩,Ze _⟩ (fun i σ H' _ z=>SqL.of (z.2.1.lst e0 np0)) ?_ ?_
 ·rintro k x σ H' hx ⟨⟨o5,o6,rfl⟩,kx,tb,Ds,Ls,Kn,SC,wd,own,lD⟩ DE hDE T' hT';obtain⟨rfl,hk⟩:=iu hx;have sT:=ah hT' (.tup [.int (k:Int),.int (ag cs k)]);have SD:=SC.same sT;have tD:=ao tb sT;generalize upd H' T' (.tup [.int (k:Int),.int (ag cs k)])=H6 at sT SD tD ⊢;have z0:=Int.emod_nonneg (ag cs k*48271+(k:Int)*(k:Int)*69621) (show(2147483647:Int)≠0 by decide);refine⟨_,rfl,_,rfl,_,rfl,_,rfl,_,_,rfl,rfl,.inr ⟨by decide,by decide⟩,_,rfl,_,rfl,_,_,rfl,rfl,.inl ⟨by omega,by omega⟩,_,_,rfl,rfl,.inr ⟨by decide,by decide⟩,_,_,rfl,rfl,_,_,rfl,rfl,(by show(0:Int)<2147483647;decide),sl,kl,dl,n,ps,ds,ks,Ds,Ls,Kn,_,rfl,SD,tD,z0,n2,n5,nsd,nkd,wd,own,by omega,fun Ds' Ls' Kn' H7 k7 t7 S7 wd7 own7 l7=>?_⟩;exact⟨_,rfl,hDE _ _ ⟨⟨_,_,rfl⟩,kx.trans ((KX.of sT).trans k7),t7,Ds',Ls',Kn',S7,wd7,own7,by omega⟩⟩
 rintro σ HC ⟨⟨o5,o6,rfl⟩,kxC,tabC,Ds,Ls,Kn,SC,wd,own,lD⟩;rw[z9]at lD;have lD63:Ds.length<=62:=by omega
 refine hR0 _ _ ?_;clear hR0 R0 SB tabB e0 np0 ecs lcs lD kxC wld0;refine aA fun R0 hR0=>?_;refine⟨_,rfl,sl,rfl,⟨_,SqL.of SC.hs⟩,?_⟩;have lrf:(rfs n ps).length=n:=by unfold rfs;rw[z9,ZI]
 have grf:∀{i:Nat} {v:V},(rfs n ps)[i]?=some v->i<n/\v=.ref (ps i):=fun{i v} h=>by
  have hi:i<n:=by have:=(Zy.mp h).1;rw[lrf]at this;exact this
  unfold rfs at h;rw[Zv,Y6 hi]at h;cases h;exact⟨hi,rfl⟩
 refine cA (K:=K) (a:=sl) (xs:=rfs n ps) (fun i σ H'=>aE bv T (bA br) H'/\StAll CS H' sl kl dl n ps ds ks Ds Ls Kn/\∃o7,σ=[some (.ref a),some (.int (n:Int)),some (.ref sl),some (.ref kl),some (.ref dl),o5,o6,o7,none,none,none,none,none])
  ⟨tabC,SC,none,rfl⟩ (fun i σ H' _ z=>SqL.of z.2.1.hs) ?_ ?_
 ·rintro i v σ H' hv ⟨tb,SD,o7,rfl⟩ DL hDL;obtain⟨hi,rfl⟩:=grf hv;refine⟨_,rfl,_,rfl,ps i,ds i,ps i,ds i,n,Ls i,Ls i,Ds,rfl,SD.st i hi,SD.st i hi,tb,.inr ⟨rfl,rfl,rfl⟩,wd,SD.sub i hi,SD.sub i hi,by omega,fun t X1 X2 H7 p1 p2 kd t7 s1 s2 et=>?_⟩;rw[qR]at p1 p2;have e1:=List.Perm.eq_nil p1;have e2:=List.Perm.eq_nil p2;subst e1 e2;rw[ZF]at s1;refine⟨sz rfl,fun u gu=>?_⟩;have wu:=ah gu (.tup [.int 0,.int 0]);refine⟨t,u,_,[0,0],rfl,rfl,wu _ _ et,ad,_,rfl,?_⟩;exact aF (hDL _ _ ⟨ao t7 wu,(SD.keep hi kd s1).same wu,_,rfl⟩)
 rintro σ HD ⟨tabD,SD,o7,rfl⟩;refine hR0 _ _ ?_;clear hR0 R0 SC tabC;refine aA fun R0 hR0=>?_;refine⟨_,rfl,_,_,rfl,rfl,_,rfl,by omega,by omega,?_⟩;have n1':((n:Int)-1).toNat=n-1:=by omega
 refine ie (N:=n-1) (fun i ys H'=>Same HD H'/\Paired (PwAt H') ys ((List.range i).map fun k=>(k,k+1))) (by omega) (fun i ys H' z=>by rw[YA z.2,z9,ZI]) ⟨Same.refl HD,.nil⟩ (fun i ys H' hi _=>?_) (fun ys H' _=>?_) (fun i ys H1 x H3 hi z y A kA=>?_) (fun ys wl1 H6 z gw1=>?_)
 ·show i<((n:Int)-1).toNat;omega
 ·show((n:Int)-1).toNat<=n-1;omega
 ·obtain⟨sm,py⟩:=z;obtain⟨rfl,rfl⟩:=y;refine⟨_,rfl,_,rfl,_,_,rfl,rfl,sz rfl,fun t gt=>kA _ _ ?_⟩;have wt:=ah gt (.tup [.int (0+(i:Int)),.int (0+(i:Int)+1)]);refine⟨sm.trans wt,?_⟩;rw[List.range_succ,Zx];refine Paired.snoc (Paired.mapP py fun _ _ (z:PwAt _ _ _)=>z.ts (Same.ts wt)) ⟨t,rfl,?_⟩;rw[ad,Int.zero_add,Int.natCast_add];rfl
 obtain⟨sm,py⟩:=z;have w1:=ah gw1 (.lst ys);have ew1:upd H6 wl1 (.lst ys) wl1=some (.lst ys):=ad;have py1:=Paired.mapP py fun _ _ (z:PwAt _ _ _)=>z.ts (Same.ts w1);have sA:=sm.trans w1;generalize upd H6 wl1 (.lst ys)=H7 at ew1 py1 sA ⊢;refine⟨_,rfl,_,_,rfl,rfl,_,rfl,by omega,by omega,?_⟩;refine ie (N:=n-1) (fun i ys H'=>Same H7 H'/\Paired (PwAt H') ys ((List.range i).map fun k=>(k+1,k))) (by omega) (fun i ys H' z=>by rw[YA z.2,z9,ZI]) ⟨Same.refl H7,.nil⟩ (fun i ys H' hi _=>?_) (fun ys H' _=>?_) (fun i ys H1 x H3 hi z y A kA=>?_) (fun zs wl2 H8 z gw2=>?_)
 ·show i<((n:Int)-1).toNat;omega
 ·show((n:Int)-1).toNat<=n-1;omega
 ·obtain⟨sm2,py2⟩:=z;obtain⟨rfl,rfl⟩:=y;refine⟨_,rfl,_,_,rfl,rfl,_,rfl,sz rfl,fun t gt=>kA _ _ ?_⟩;have wt:=ah gt (.tup [.int (0+(i:Int)+1),.int (0+(i:Int))]);refine⟨sm2.trans wt,?_⟩;rw[List.range_succ,Zx];refine Paired.snoc (Paired.mapP py2 fun _ _ (z:PwAt _ _ _)=>z.ts (Same.ts wt)) ⟨t,rfl,?_⟩;rw[ad,Int.zero_add,Int.natCast_add];rfl
 obtain⟨sm2,py2⟩:=z;have w2:=ah gw2 (.lst zs);have ew2:upd H8 wl2 (.lst zs) wl2=some (.lst zs):=ad;have s7:=sm2.trans w2;have py2':=Paired.mapP py2 fun _ _ (z:PwAt _ _ _)=>z.ts (Same.ts w2);generalize upd H8 wl2 (.lst zs)=H9 at ew2 s7 py2' ⊢;refine⟨_,rfl,rfl,wl2,zs,rfl,SqL.of ew2,fun wr gwr=>?_⟩;have w3:=ah gwr (.lst zs.reverse);have lys:ys.length=n-1:=by rw[YA py1,z9,ZI]
 have lzs:zs.length=n-1:=by rw[YA py2',z9,ZI]
 refine⟨wl1,wr,_,_,rfl,rfl,w3 _ _ (s7 _ _ ew1),ad,du (by rw[List.length_reverse];omega),fun wl gwl=>hR0 _ _ ?_⟩;clear hR0 R0;have w4:=w3.trans (ah gwl (.lst (ys++zs.reverse)));have ewl:upd (upd H9 wr (.lst zs.reverse)) wl (.lst (ys++zs.reverse)) wl=some (.lst (ys++zs.reverse)):=ad;have pw:Paired (PwAt (upd (upd H9 wr (.lst zs.reverse)) wl (.lst (ys++zs.reverse)))) (ys++zs.reverse) (rQ n):=zL (Paired.mapP py1 fun _ _ (z:PwAt _ _ _)=>z.ts (Same.ts (s7.trans w4))) (zO (Paired.mapP py2' fun _ _ (z:PwAt _ _ _)=>z.ts (Same.ts w4)));have sE:=sA.trans (s7.trans w4);have nwd:wl≠dl:=fun z=>by have:=w3 _ _ (s7 _ _ (sA _ _ SD.hd.1));rw[<-z,gwl]at this;cases this
 have SE:=SD.same sE;have tabE:=ao tabD sE;generalize upd (upd H9 wr (.lst zs.reverse)) wl (.lst (ys++zs.reverse))=HE at ewl pw SE tabE ⊢;have lW:(ys++zs.reverse).length=(n-1)+(n-1):=by rw[Zi,List.length_reverse,lys,lzs]
 generalize ys++zs.reverse=wv at ewl pw lW ⊢;clear sA sE s7 w1 w2 w3 w4 ew1 ew2 py py1 py2 py2' sm sm2 SD tabD gw1 gw2 gwr gwl lys lzs;have spr0:Spr n Ds Ls 0:=⟨fun _ g hg x hx=>by rw[Nat.le_zero.mp hg]at hx;exact hx,fun h=>absurd h (by omega)⟩
 refine aA fun R0 hR0=>?_;refine⟨_,rfl,wl,rfl,⟨_,SqL.of ewl⟩,?_⟩;refine oE (K:=K) (a:=wl) (xs:=wv) (fun i σ H'=>(∃o9 o10,σ=[some (.ref a),some (.int (n:Int)),some (.ref sl),some (.ref kl),some (.ref dl),o5,o6,o7,some (.ref wl),o9,o10,none,none])/\KX dl HE H'/\aE bv T (bA br) H'/\∃Ls Kn,StAll CS H' sl kl dl n ps ds ks Ds Ls Kn/\(∀g,g<n->Own n (Ls g) Ds g)/\Spr n Ds Ls i)
  ⟨⟨none,none,rfl⟩,.of (Same.refl _),tabE,Ls,Kn,SE,own,spr0⟩ (fun i σ H' _ z=>SqL.of (z.2.1.lst ewl nwd)) ?_ ?_
 ·rintro i v σ H' hv ⟨⟨o9,o10,rfl⟩,kx,tb,Ls,Kn,SF,own,spr⟩ DL hDL;have hi:i<(n-1)+(n-1):=by have:=(Zy.mp hv).1;omega
  obtain⟨pr,hpr,b,rfl,hb⟩:=fE pw hv;have hb':=kx.ts SE.hd.1 _ _ hb;obtain⟨p1,p2,pne,pst⟩:pr.1<n/\pr.2<n/\pr.1≠pr.2/\∀Ls':Nat->LT,(∀i x,x∈Ls i->x∈Ls' i)->(∀x,x∈Ls pr.1\/x∈Ls pr.2->x∈Ls' pr.1/\x∈Ls' pr.2)->(∀x,x∈Ls' pr.1\/x∈Ls' pr.2->x∈Ls pr.1\/x∈Ls pr.2)->(∀i,i≠pr.1->i≠pr.2->Ls' i=Ls i)->(∀g,g<n->∀x∈Ls' g,x∈Ds)->Spr n Ds Ls' (i+1):=by
   rcases ZY i (n-1)with c|c
   ·rw[EI c]at hpr;cases hpr;refine⟨by show i<n;omega,by show i+1<n;omega,by show i≠i+1;omega,fun Ls' up both back other sub=>?_⟩;dsimp only at both back other;have step:∀g,g<=i+1->∀x∈Ls' g,x∈Ls' (i+1):=fun g hg x hx=>by
     rcases Nat.lt_trichotomy g i with h|h|h
     ·rw[other g (by omega) (by omega)]at hx;exact(both x (.inl (spr.1 (by omega) g (by omega) x hx))).2
     ·rw[h]at hx;exact(both x (back x (.inl hx))).2
     ·rw[show g=i+1 by omega]at hx;exact hx
    refine⟨fun _=>step,fun h g hg hgn x hx=>?_⟩;have e:i+1=n-1:=by omega
    have e2:g=i+1:=by omega
    rw[e2];have oh:=(own x.2.h (wd.fit x hx).hd).own x hx rfl;have hxo:x∈Ls x.2.h:=(fR wd (SF.sub _ (wd.fit x hx).hd) hx).mp (aP.mp oh).1;exact step x.2.h (by have:=(wd.fit x hx).hd;omega) x (up _ x hxo)
   ·obtain⟨j,rfl⟩:∃j,i=n-1+j:=⟨i-(n-1),by omega⟩
    have hj:j<n-1:=by omega
    rw[AD hj]at hpr;cases hpr;refine⟨by show n-1-j<n;omega,by show n-2-j<n;omega,by show n-1-j≠n-2-j;omega,fun Ls' up both back other sub=>?_⟩;dsimp only at both back other;refine⟨fun h=>absurd h (by omega),fun h g hg hgn x hx=>?_⟩;have old:=spr.2 (by omega);rcases ZY g (n-1-j)with c2|c2
    ·have e:g=n-2-j:=by omega
     rw[e];exact(both x (.inl (old (n-1-j) (by omega) (by omega) x hx))).2
    ·exact up g x (old g (by omega) hgn x hx)
  refine⟨b,_,rfl,SqT.of hb',rfl,_,_,rfl,_,_,rfl,rfl,?_⟩;refine⟨_,rfl,_,rfl,_,rfl,_,rfl,sl,kl,dl,n,pr.1,pr.2,ps,ds,ks,Ds,Ls,Kn,rfl,SF,tb,p1,p2,pne,wd,by omega,fun Ls' Kn' H7 k7 t7 S7 up both back other=>?_⟩;exact⟨_,rfl,hDL _ _ ⟨⟨_,_,rfl⟩,kx.trans k7,t7,Ls',Kn',S7,fun g hg=>(own g hg).mono (up g),pst Ls' up both back other S7.sub⟩⟩
 rintro σ HF ⟨⟨o9,o10,rfl⟩,kxF,tabF,Ls,Kn,SF,own,spr⟩;refine hR0 _ _ ?_;clear hR0 R0;rw[lW]at spr;have all:∀g,g<n->∀x∈Ds,x∈Ls g:=fun g hg x hx=>spr.2 (by omega) g (by omega) hg x hx;clear kxF SE tabE pw ewl spr spr0 own lW nwd;refine aA fun R0 hR0=>?_;refine⟨_,rfl,dl,ax Ds,Ds.map fun x=>ZKey.t (kyZ x.2),rfl,.inl SF.hd.1,by rw[aR];omega,by rw[aR,z9],.inr fun k hk=>?_,fun i v key H' hv hkey sm R kR=>?_,fun pm H6 D hp hls s6 _ gD=>hR0 _ _ ?_⟩
 ·obtain⟨x,_,rfl⟩:=Zl.mp hk;exact⟨_,rfl,by simp[kyZ]⟩
 ·obtain⟨hi,rfl⟩:=iE hv;rw[Zv,Zb hi]at hkey;cases hkey;exact⟨_,_,rfl,(SF.hd.2 _ (ZC hi)).same sm,fun p' H'' s'' e''=>kR (.ref p') H'' s'' ⟨p',rfl,e''⟩⟩
 clear hR0 R0;rw[aR]at hp hls;have pl:∀i∈pm.toList,i<Ds.length:=fun i hi=>by have:=(hp.mem_iff).mp (Array.mem_toList_iff.mp hi);simpa using this
 rw[oH pl];have so:=vT (f:=Prod.snd) (z:=((0,D0):Addr×Dd)) (wE wd.ch wd.un) hp (by rw[Yp]at hls;exact hls);generalize(pm.toList.map fun i=>Ds.getD i (0,D0))=E' at so ⊢;obtain⟨sE',pE⟩:=so;have wD:=s6.trans (ah gD (.lst (ax E')));have eD:upd H6 D (.lst (ax E')) D=some (.lst (ax E')):=ad;have SG:=SF.same wD;have tabG:=ao tabF wD;generalize upd H6 D (.lst (ax E'))=HG at eD SG tabG ⊢;clear wD s6 gD SF tabF hls hp pl;have wdE:=uI wd pE sE';have lrE:LR HG D E':=⟨eD,fun x hx=>SG.hd.2 x (pE.mem_iff.mp hx)⟩
 have lE:E'.length<=62:=by rw[pE.length_eq];exact lD63
 refine aA fun R0 hR0=>?_;have h0n:0<n:=by omega
 refine⟨_,rfl,_,rfl,kl,_,_,_,rfl,rfl,SqL.of SG.hk,bK h0n,_,rfl,D,ks 0,n,E',Kn 0,rfl,lrE,by omega,SG.kn 0 h0n,by omega,by omega,fun x hx=>⟨(wdE.fit x hx).len,(wdE.fit x hx).hd⟩,fun c HH sH ec gc=>hR0 _ _ ?_⟩;clear hR0 R0;have inK:∀x∈E',inB (Kn 0) x=true:=fun x hx=>by rw[gS (SG.pm 0 h0n)];exact decide_eq_true (Zl.mpr ⟨x,all 0 h0n x (pE.mem_iff.mp hx),rfl⟩)
 rw[Br wdE inK]at ec;have SH:=SG.same sH;have tabH:=ao tabG sH;have lrH:=lrE.same sH;clear SG tabG lrE eD sH gc inK;refine aA fun R0 hR0=>?_;refine⟨_,rfl,sl,rfl,⟨_,SqL.of SH.hs⟩,?_⟩;refine cA (K:=K) (a:=sl) (xs:=rfs n ps) (fun i σ H'=>KT HH H'/\aE bv T (bA br) H'/\∃o7,σ=[some (.ref a),some (.int (n:Int)),some (.ref sl),some (.ref kl),some (.ref dl),o5,o6,o7,some (.ref wl),o9,o10,some (.ref D),some (.ref c)])
  ⟨.of (Same.refl _),tabH,o7,rfl⟩ (fun i σ H' _ z=>SqL.of (SH.kt z.1).hs) ?_ ?_
 ·rintro i v σ H' hv ⟨kt,tb,o7',rfl⟩ DL hDL;obtain⟨hi,rfl⟩:=grf hv;have SI:=SH.kt kt;have Si:=SI.st i hi;have hin:∀x∈Ds,inB (Ls i) x=true:=fun x hx=>decide_eq_true (Zl.mpr ⟨x,all i hi x hx,rfl⟩);have e1:Ds.filter (aq (Ls i) Ds)=Ds:=List.filter_eq_self.mpr fun x hx=>aP.mpr ⟨hin x hx,fun y hy _=>hin y hy⟩;have isE:∀{M:LT},RDY (Ls i) M->M=E':=fun{M} rd=>by obtain⟨pw,pm⟩:=dY wd Si.un (SI.sub i hi) rd;rw[e1]at pm;exact List.Perm.eq_of_pairwise (le:=fun x y:Addr×Dd=>kLt x.2 y.2) (fun a b _ _ h k=>(tG h k).elim) (Z7.mp pw) (Z7.mp sE') (pm.trans pE.symm)
  have noW:∀{N:LT},Wt (Ls i) E' N->N=[]:=fun{N} wt=>by
   have:(Ls i).filter (au E')=[]:=List.filter_eq_nil_iff.mpr fun x hx h=>by have h':(!decide (nmZ x.2∈aQ E'))=true:=h;rw[decide_eq_true (show nmZ x.2∈aQ E' from Zl.mpr ⟨x,pE.mem_iff.mpr (SI.sub i hi x hx),rfl⟩)]at h';cases h'
   have h2:=wt.1;rw[this]at h2;exact List.Perm.eq_nil h2
  obtain⟨⟨dx1,g1⟩,_⟩:=id Si;refine⟨_,rfl,ps i,dx1,_,rfl,g1,iC _ _,ps i,ds i,n,Ls i,rfl,Si,tb,fun D1 H1 M1 rd1 sT1 tab1 eD1 nD1=>?_⟩;obtain rfl:=isE rd1;have k1:=KT.tab tb sT1;have kt1:=kt.trans k1;have f1:LR H1 D1 M1:=⟨eD1,(kt1.lr lrH).2⟩
  have f2:=kt1.lr lrH;refine⟨_,rfl,_,_,f1.dt,f2.dt,fG f1.ok,fG f1.ok,_,rfl,?_⟩;rw[tj f1.ok];refine aF ?_;have Si1:=Si.kt k1;obtain⟨⟨dx2,g2⟩,_⟩:=id Si1;refine⟨_,rfl,ps i,dx2,_,rfl,g2,lK _ _,ps i,ds i,n,Ls i,rfl,Si1,tab1,fun D2 H2 M2 N2 ys rd2 wt2 sT2 tab2 eD2 nys nD2=>?_⟩;obtain rfl:=isE rd2;obtain rfl:=noW wt2;cases nys;have k2:=k1.trans (KT.tab tab1 sT2);refine⟨sz rfl,fun em gem=>?_⟩;have wem:=ah gem (.lst []);have f3:LR (upd H2 em (.lst [])) D2 []:=⟨wem _ _ eD2,fun x hx=>(nomatch hx)⟩
  have f4:LR (upd H2 em (.lst [])) em []:=⟨ad,fun x hx=>(nomatch hx)⟩
  refine⟨_,_,f3.dt,f4.dt,fG f3.ok,fG f4.ok,_,rfl,?_⟩;rw[tj f3.ok];refine aF ?_;have k3:=k2.trans (.of wem);have Si3:=Si.kt k3;have tab3:=ao tab2 wem;generalize upd H2 em (.lst [])=H3 at k3 Si3 tab3 ⊢;obtain⟨⟨dx3,g3⟩,_⟩:=id Si3;refine⟨_,rfl,ps i,dx3,_,rfl,g3,ki _ _,ps i,ds i,n,Ls i,rfl,Si3,tab3,fun cm H4 M4 rd4 sT4 tab4 ecm=>?_⟩;obtain rfl:=isE rd4;have k4:=k3.trans (KT.tab tab3 sT4);have kt4:=kt.trans k4;refine⟨_,rfl,c,_,rfl,.inl ⟨SqL.of (kt4 _ _ ec (fun _ z=>by cases z)),fun tc gtc=>?_⟩⟩;have wtc:=ah gtc (.tup ((aS n (vals M4)).map V.int));refine⟨cm,tc,_,_,rfl,rfl,wtc _ _ ecm,ad,_,rfl,?_⟩;rw[decide_eq_true (Eq.refl (aS n (vals M4)))];exact aF (hDL _ _ ⟨kt4.trans (.of wtc),ao tab4 wtc,_,rfl⟩)
 rintro σ HK ⟨_,_,o7',rfl⟩;exact hR0 _ _ (hq _)
end
def mG:Nat->(List Value->Prop)->Prop
 |0,p=>p []
 |n+1,p=>∀a,mG n fun us=>p (a::us)
theorem gL:∀{n:Nat} {p:List Value->Prop},mG n p->∀us:List Value,us.length=n->p us
 |0,_,h,[],_=>h
 |_+1,_,h,a::us,e=>gL (h a) us (Nat.succ.inj e)
section
variable{P:Program}{w:World}{K:PySem.W.Frag}{mg:Str->Option Value}{base h:Heap}{n m x q:Str}{st:Stmt}{C f:Addr}{k:Nat}{ps:List Str}{sp:Sp}{bm:List Value}
structure Bx(P:Program)(w:World)(K:PySem.W.Frag)(mg:Str->Option Value)(base h:Heap):Prop where
 X:K.In h
 G:h.Ns mainGlobals mg
def A1(K:PySem.W.Frag)(n:Str)(st:Stmt)(f:Addr):Prop:=PySem.W.nsIn K mainGlobals n=some (some (.ref f))/\∃fd,Fun K n n st f fd
def A2(K:PySem.W.Frag)(C:Addr)(m q:Str)(st:Stmt)(f:Addr):Prop:=PySem.W.findIn K (.ref C) m=some (some (.ref f))/\PySem.W.isFn K (.ref f)=true/\∃fd,Fun K m q st f fd
def AF(K:PySem.W.Frag):List (Str×Stmt×Addr)->Prop
 | []=>True
 |(n,st,f)::l=>A1 K n st f/\AF K l
def AM(K:PySem.W.Frag):List (Addr×Str×Str×Stmt×Addr)->Prop
 | []=>True
 |(C,m,q,st,f)::l=>A2 K C m q st f/\AM K l
def AN(p:Str->Prop):List Str->Prop
 | []=>True
 |n::l=>p n/\AN p l
theorem anI{p p':Str->Prop}(i:∀{n},p n->p' n):∀{l:List Str},AN p l->AN p' l
 | [],_=>True.intro
 |_::_,h=>⟨i h.1,anI i h.2⟩
theorem gf{l:List (Str×Stmt×Addr)}{oc kV dc pm cd ct:Value}{od an:Option Addr}{sl:Array (Option Value)}(a:PySem.W.nsIn K mainGlobals n=some (some (.ref f)))(b:K.lookup f=some ⟨oc,od,.func (PySem.W.fnOf n n (cw st) (bF st) (aj st) .none kV dc pm an cd ct),sl⟩)(c:PySem.W.codeIn K cd n=true)(d:PySem.W.keepIn K (.ref f)=true)(r:AF K l):AF K ((n,st,f)::l):=⟨⟨a,_,wW b c d⟩,r⟩
theorem gm{l:List (Addr×Str×Str×Stmt×Addr)}{oc kV dc pm cd ct:Value}{od an:Option Addr}{sl:Array (Option Value)}(a:PySem.W.findIn K (.ref C) m=some (some (.ref f)))(i:PySem.W.isFn K (.ref f)=true)(b:K.lookup f=some ⟨oc,od,.func (PySem.W.fnOf m q (cw st) (bF st) (aj st) .none kV dc pm an cd ct),sl⟩)(c:PySem.W.codeIn K cd q=true)(d:PySem.W.keepIn K (.ref f)=true)(r:AM K l):AM K ((C,m,q,st,f)::l):=⟨⟨a,i,_,wW b c d⟩,r⟩
theorem gn{l:List Str}(a:PySem.W.nsIn K mainGlobals n=some none)(r:AN (fun n=>PySem.W.nsIn K mainGlobals n=some none) l):AN (fun n=>PySem.W.nsIn K mainGlobals n=some none) (n::l):=⟨a,r⟩
theorem mkF(B:Bx P w K mg base h)(A:A1 K n st f)(ok:∀{fd},Fun K n n st f fd->FnOk P w K mg base CX0 k f fd ps sp)(hb:∀(kV doc pm:Value) (an:Option Addr) (cdv ct:Value),mG ps.length fun us=>bindArgs (PySem.W.fnOf n n (cw st) (bF st) (aj st) .none kV doc pm an cdv ct) ⟨us,[]⟩=pure (ps.zip us):=by(repeat intro _);rfl):Fn P w K mg base k n ps sp:=by obtain⟨a,fd,F⟩:=A;exact⟨f,fd,ok F,YS B.X B.G a,F.kp,F.binds fun a b c d e g=>gL (hb a b c d e g)⟩
theorem mkM(B:Bx P w K mg base h)(L:Cls K C)(A:A2 K C m q st f)(ok:∀{fd},Fun K m q st f fd->FnOk P w K mg base CX0 k f fd ps sp)(hb:∀(kV doc pm:Value) (an:Option Addr) (cdv ct:Value),mG ps.length fun us=>bindArgs (PySem.W.fnOf m q (cw st) (bF st) (aj st) .none kV doc pm an cdv ct) ⟨us,[]⟩=pure (ps.zip us):=by(repeat intro _);rfl):MFn P w K mg base k C m ps sp:=by obtain⟨a,i,fd,F⟩:=A;exact⟨L,f,fd,ok F,⟨a,i,F.kp⟩,F.binds fun a b c d e g=>gL (hb a b c d e g)⟩
theorem mkX(B:Bx P w K mg base h)(L:Cls K C)(A:A2 K C m q st f)(ok:∀{fd},Fun K m q st f fd->FnOk P w K mg base (CXr P w) k f fd ps sp)(hb:∀(kV doc pm:Value) (an:Option Addr) (cdv ct:Value),mG ps.length fun us=>bindArgs (PySem.W.fnOf m q (cw st) (bF st) (aj st) .none kV doc pm an cdv ct) ⟨us,[]⟩=pure (ps.zip us):=by(repeat intro _);rfl):MFnX P w K mg base k C m ps sp:=by obtain⟨a,i,fd,F⟩:=A;exact⟨L,f,fd,ok F,⟨a,i,F.kp⟩,F.binds fun a b c d e g=>gL (hb a b c d e g)⟩
theorem mkC(B:Bx P w K mg base h)(L:Cls K C)(g:mg x=some (.ref C))(mk:PySem.W.makesIn K C=true)(kc:PySem.W.keepIn K (.ref C)=true)(A:A2 K C "__init__" q st f)(ok:∀{fd},Fun K "__init__" q st f fd->FnOk P w K mg base CX0 k f fd ps sp)(hb:∀(kV doc pm:Value) (an:Option Addr) (cdv ct:Value),mG ps.length fun us=>bindArgs (PySem.W.fnOf "__init__" q (cw st) (bF st) (aj st) .none kV doc pm an cdv ct) ⟨us,[]⟩=pure (ps.zip us):=by(repeat intro _);rfl):MkFn P w K mg base k C x ps sp:=by obtain⟨a,i,fd,F⟩:=A;exact⟨L,g,f,fd,ok F,⟨mk,a,i,kc⟩,F.binds fun a b c d e g=>gL (hb a b c d e g)⟩
end
theorem CK{l:PySem.W.OpenLaw}{w:World}{K:PySem.W.Frag}{h:Heap}{mg:Str->Option Value}{fa f1 f2 f3 f4 f5 f6 f7 f8 f9 f10 f11 f12 f13 f14 f15 f16 f17 f18 f19 f20 f21 f22 f23 f24 f25 f26 f27 f28 f29 f30 f31 f32 f33 m1 m2 m3 m4 m5 m6:Addr}{C_Store:Addr}(X:K.In h)(G:h.Ns mainGlobals mg)(hfa:mg "law" = some (.ref fa)){tk_MOST_NUMBERS:Tok}{tk_FIRST_SIGN:Tok}{tk_LAST_SIGN:Tok}{tk_PERCENT_SIGN:Tok}{tk_MOST_SIGNS:Tok}{ad_DEED_PARTS:Addr}{c_LimbError c0 T:Addr}(h_Store:PySem.W.nsIn K mainGlobals "Store" = some (some (.ref C_Store)))(pg_Store:PySem.W.plainGet K C_Store Str.empty=true)(hd_Store:PySem.W.hasDictIn K C_Store=true)(po_Store:PySem.W.plainOver K C_Store=true)(sa_Store:PySem.W.findIn K (.ref C_Store) "__setattr__" = some (some (.builtin "object.__setattr__")))(mk_Store:PySem.W.makesIn K C_Store=true)(kc_Store:PySem.W.keepIn K (.ref C_Store)=true)(n_Store_hands:PySem.W.findIn K (.ref C_Store) "hands" = some none)(n_Store_deeds:PySem.W.findIn K (.ref C_Store) "deeds" = some none)(hc_LimbError:PySem.W.nsIn K mainGlobals "LimbError" = some (some (.ref c_LimbError)))(zF:AF K (("is_number",gI,f1)::("is_whole",iJ,f2)::("is_name",jl,f3)::("is_clock",iH,f4)::("start_clock",fA,f5)::("within",kC,f6)::("raised",ku,f7)::("tells",nJ,f8)::("is_deed_word",eO,f9)::("deed_parts",fZ,f10)::("is_place",iI,f11)::("is_sign",jn,f12)::("is_text",jo,f13)::("is_hand",jk,f14)::("is_known_item",eA,f15)::("is_part",jm,f16)::("is_what",jp,f17)::("is_deed",jj,f18)::("name_of",jq,f19)::("asked_by",iG,f20)::("is_answered",fz,f21)::("ready_of",fF,f22)::("takes_as_new",eQ,f23)::("count_new",gH,f24)::("meet",rg,f25)::("_law_cell_at",ji,f26)::("_law_order",nI,f27)::("_law_name",rh,f28)::("_law_fits",rf,f29)::("_law_clock",nG,f30)::("_law_met",vJ,f31)::("_law_done",re,f32)::("law",jJ,f33)::[]))(zM:AM K ((C_Store,"__init__","Store.__init__",fX,m1)::(C_Store,"hear","Store.hear",dZ,m2)::(C_Store,"ready","Store.ready",fw,m3)::(C_Store,"waiting","Store.waiting",ee,m4)::(C_Store,"clock","Store.clock",fv,m5)::(C_Store,"told","Store.told",fY,m6)::[]))(zN:AN (fun n=>PySem.W.nsIn K mainGlobals n=some none) ("len"::"range"::"list"::"isinstance"::"zip"::"enumerate"::"sorted"::"all"::"sum"::"int"::"tuple"::"bool"::"str"::"ord"::[]))(h_MOST_NUMBERS:PySem.W.nsIn K mainGlobals "MOST_NUMBERS" = some (some (.int 64 tk_MOST_NUMBERS)))(h_FIRST_SIGN:PySem.W.nsIn K mainGlobals "FIRST_SIGN" = some (some (.int 32 tk_FIRST_SIGN)))(h_LAST_SIGN:PySem.W.nsIn K mainGlobals "LAST_SIGN" = some (some (.int 126 tk_LAST_SIGN)))(h_PERCENT_SIGN:PySem.W.nsIn K mainGlobals "PERCENT_SIGN" = some (some (.int 37 tk_PERCENT_SIGN)))(h_MOST_SIGNS:PySem.W.nsIn K mainGlobals "MOST_SIGNS" = some (some (.int 60 tk_MOST_SIGNS)))(h_DEED_PARTS:PySem.W.nsIn K mainGlobals "DEED_PARTS" = some (some (.ref ad_DEED_PARTS)))(t_DEED_PARTS:PyProof.Rows.KTD.tabLook (mq K) (fun b=>K.lookup b) ad_DEED_PARTS DT=true)(xx_LimbError:PySem.W.excIn K c_LimbError [.type "ValueError",.type "Exception",.type "BaseException",.type "object"] "ValueError.__new__" = true)(xm_LimbError:∃c d cd sl,K.lookup c_LimbError=some ⟨c,d,.cls cd,sl⟩/\cd.mro=Value.ref c_LimbError::VE)(tb1:PySem.W.tabIn K "ready_of" = some (c0,T))
  :∃fd:FuncData,(∀(s:Shared) (v:Value),BindsTo s fd ⟨[v],[]⟩ [("_law_script",v)])/\∀base:Heap,K.In base->base.Ns mainGlobals mg->Blt base mg->PySem.W.CodeHd base c0 T->FnOk l.prog w K mg base CX0 14 fa fd ["_law_script"] (pG K T):=by
 obtain⟨Af1,Af2,Af3,Af4,Af5,Af6,Af7,Af8,Af9,Af10,Af11,Af12,Af13,Af14,Af15,Af16,Af17,Af18,Af19,Af20,Af21,Af22,Af23,Af24,Af25,Af26,Af27,Af28,Af29,Af30,Af31,Af32,⟨a0,_,F0⟩,_⟩:=zF;obtain⟨Am1,Am2,Am3,Am4,Am5,Am6,_⟩:=zM;obtain⟨z_len,z_range,z_list,z_isinstance,z_zip,z_enumerate,z_sorted,z_all,z_sum,z_int,z_tuple,z_bool,z_str,z_ord,_⟩:=anI (p':=fun n=>mg n=none) (fun z=>PySem.W.mg_none_of X G z) zN;have e:=hfa.symm.trans (YS X G a0);cases e;obtain⟨oc,od,kV,dc,pm,an,cd,ct,sl,rfl,l0,c0⟩:=id F0.ex;have g_MOST_NUMBERS:=YS X G h_MOST_NUMBERS;have g_FIRST_SIGN:=YS X G h_FIRST_SIGN;have g_LAST_SIGN:=YS X G h_LAST_SIGN;have g_PERCENT_SIGN:=YS X G h_PERCENT_SIGN;have g_MOST_SIGNS:=YS X G h_MOST_SIGNS;have g_DEED_PARTS:=YS X G h_DEED_PARTS;have g_Store:=YS X G h_Store;have L_Store:Cls K C_Store:=⟨pg_Store,hd_Store,po_Store,sa_Store⟩
 have X_Store:Txt K C_Store:=⟨L_Store,n_Store_hands,n_Store_deeds⟩
 have T_DEED_PARTS:Tab K ad_DEED_PARTS DT:=⟨t_DEED_PARTS⟩
 have g_LimbError:=YS X G hc_LimbError;have xo_LimbError:ExcAt K c_LimbError VE:=⟨xx_LimbError,xm_LimbError,rfl⟩
 refine⟨PySem.W.fnOf "law" "law" (cw jJ) (bF jJ) (aj jJ) .none kV dc pm an cd ct,fun s v=>.of_eq rfl,fun base _ _ Bl C=>?_⟩;have B:Bx l.prog w K mg base h:=⟨X,G⟩
 have F_is_number:=mkF B Af1 fun F=>qP F z_isinstance z_int z_bool;have F_is_whole:=mkF B Af2 fun F=>sk F F_is_number;have F_is_name:=mkF B Af3 fun F=>vw F F_is_whole z_isinstance z_tuple z_len;have F_is_clock:=mkF B Af4 fun F=>sh F F_is_whole z_isinstance z_tuple z_len z_all;have F_start_clock:=mkF B Af5 fun F=>nv F;have F_within:=mkF B Af6 fun F=>xH F z_all z_zip;have F_raised:=mkF B Af7 fun F=>xG F;have F_tells:=mkF B Af8 fun F=>zK F;have F_is_deed_word:=mkF B Af9 fun F=>lO F g_DEED_PARTS T_DEED_PARTS z_isinstance z_str;have F_deed_parts:=mkF B Af10 fun F=>oZ F g_DEED_PARTS T_DEED_PARTS;have F_is_place:=mkF B Af11 fun F=>sj F F_is_number z_isinstance z_tuple z_len z_all g_MOST_NUMBERS;have F_is_sign:=mkF B Af12 fun F=>vy F z_ord g_FIRST_SIGN g_LAST_SIGN g_PERCENT_SIGN;have F_is_text:=mkF B Af13 fun F=>vA F F_is_sign z_isinstance z_str z_all;have F_is_hand:=mkF B Af14 fun F=>vt F F_is_whole;have F_is_known_item:=mkF B Af15 fun F=>ko F F_is_name F_tells z_len;have F_is_part:=mkF B Af16 fun F=>vx F F_is_known_item F_is_place F_is_text F_is_hand F_is_whole z_isinstance z_bool z_len g_MOST_SIGNS;have F_is_what:=mkF B Af17 fun F=>vB F F_is_deed_word F_deed_parts F_is_part z_isinstance z_tuple z_len z_all z_zip;have F_is_deed:=mkF B Af18 fun F=>vq F F_is_hand F_is_clock F_is_what z_isinstance z_tuple z_len;have F_name_of:=mkF B Af19 fun F=>vC F;have F_asked_by:=mkF B Af20 fun F=>sg F z_enumerate;have F_is_answered:=mkF B Af21 fun F=>nq F F_within;have F_ready_of:=mkF B Af22 fun F=>sq F (zd Af22.1 F tb1) C Bl F_asked_by F_is_answered F_name_of z_sum z_sorted z_all z_list;have Mk_Store:=mkC B L_Store g_Store mk_Store kc_Store Am1 fun F=>oX F X_Store;have MX_hear:=mkX B L_Store Am2 fun F=>nj F X_Store F_is_deed F_name_of;have M_hear:=mkM B L_Store Am2 fun F=>iL F X_Store F_is_deed F_name_of;have M_ready:=mkM B L_Store Am3 fun F=>nk F X_Store F_ready_of z_list;have M_waiting:=mkM B L_Store Am4 fun F=>km F X_Store M_ready F_name_of z_sorted;have M_clock:=mkM B L_Store Am5 fun F=>nh F X_Store M_ready F_start_clock F_raised;have M_told:=mkM B L_Store Am6 fun F=>oY F X_Store M_ready M_waiting F_name_of F_tells;have F_takes_as_new:=mkF B Af23 fun F=>lP F MX_hear (CP xo_LimbError) g_LimbError;have F_count_new:=mkF B Af24 fun F=>qO F F_takes_as_new;have F_meet:=mkF B Af25 fun F=>BN F M_clock M_told F_count_new;have F_cell_at:=mkF B Af26 fun F=>vp F z_len;have F_order:=mkF B Af27 fun F=>zJ F z_sum;have F_name:=mkF B Af28 fun F=>BO F;have F_fits:=mkF B Af29 fun F=>BM F z_len z_range z_int;have F_clock:=mkF B Af30 fun F=>zI F F_name F_fits;have F_met:=mkF B Af31 fun F=>Dl F F_meet z_isinstance z_tuple z_bool z_len;have F_done:=mkF B Af32 fun F=>BL F F_met F_name F_clock M_hear z_len z_isinstance z_bool z_tuple;exact Dk F0 F_cell_at F_order F_done F_meet F_met F_clock Mk_Store M_ready M_waiting M_clock z_range z_enumerate z_sorted z_tuple
theorem F8{l:PySem.W.OpenLaw}{q:Program}{loose:List Str}{XP:(Str->Option Value)->Heap->Prop}{YP:World->Heap->Prop}{d:DefRec}{K:Params->PySem.W.Frag}{c0 T:Addr}(hn:l.most=some 63)(hdf:d.params.defaults=[])(hY:∀ (w:World) (h:Heap),YP w h->(K w.params).In h)(ht:∀ w:World,PySem.W.tabIn (K w.params) "ready_of" = some (c0,T))(hd:∃ d',(PyProof.Rows.recsOf q).find? (fun e=>e.name == ("ready_of":Str))=some d')(nt:∀ w:World,PySem.W.noTabs (K w.params)=true)(F:∀ (w:World) (mg:Str->Option Value) (fa:Addr) (h:Heap),(K w.params).In h->h.Ns mainGlobals mg->mg d.name=some (.ref fa) ->
   ∃ fd:FuncData,(∀ (s:Shared) (u:Value),BindsTo s fd ⟨[u],[]⟩ [("_law_script",u)])/\∀ base:Heap,(K w.params).In base->base.Ns mainGlobals mg->Blt base mg->PySem.W.CodeHd base c0 T->FnOk l.prog w (K w.params) mg base CX0 14 fa fd ["_law_script"] (pG (K w.params) T)) :
  PySem.W.WalkO q loose XP YP l.row.toRowW d [] (fun f vs=>PySem.call f vs) :=
 L2.yy (n:=63) (k:=14) (x:="_law_script") (tabs:=fun _=>[("ready_of",c0,T)]) (sp:=fun w=>pG (K w.params) T) hn (by decide) hdf ⟨rfl,by decide,by decide⟩ hY (fun w t htm=>by rw[Zm.mp htm];exact⟨ht w,hd⟩) nt
  (fun w mg fa h k g e=>let⟨fd,b,r⟩:=F w mg fa h k g e;⟨fd,b,fun base k2 g2 bl cs=>r base k2 g2 bl (cs _ (Zm.mpr rfl))⟩) (fun w H a ns hl hT hS=>⟨a,ns,rfl,hS,hl,hT _ (Zm.mpr rfl),fun _=>rfl⟩)
end K20
namespace PySem.W.Fast
def tw41273073831616069:=()
def tw6496455564176682331:=()
def tw6373953496159352192:=()
def tw4593935642412861186:=()
def tw8996515227848865654:=()
def tw11163175016099850810:=()
def tw17137529493250875000:=()
def tw1765276201547583513:=()
def tw9659935279877539112:=()
def tw7238803007753971546:=()
def tw17270308974309213756:=()
def tw11915317616550870848:=()
def tw1053877081219174307:=()
def tw6745534340353351512:=()
def tw5755842075316518216:=()
def tw8483832266086782070:=()
def tw12627920125547030565:=()
def tw1862638656906291536:=()
def tw2011850497990132846:=()
def tw17395915797468122226:=()
def tw12615028847710848883:=()
end PySem.W.Fast
open PySem PySem.W PyProof.Rows
set_option maxRecDepth 100000 in
set_option maxHeartbeats 0 in
theorem PySem.Challenge.cw_limb_k20_whole_stores_meet_holds : PySem.Challenge.rw_limb_k20_whole_stores_meet.Holds := by
  w_on; o_law; k_head; (case hw => w_witness2)
  k_fill
  refine' K20.F8 (l := PySem.Challenge.rw_limb_k20_whole_stores_meet) rfl rfl (fun w h Y => PySem.W.km_in_of Y) ?ht ?hd ?nt ?F
  case ht => intro w; with_unfolding_all rfl
  case hd => exact ⟨_, rfl⟩
  case nt => intro w; kernel_rfl
  case F =>
    intro w mg fa h KX G hmg
    refine' K20.CK KX G hmg ?h_Store ?pg_Store ?hd_Store ?po_Store ?sa_Store ?mk_Store ?kc_Store ?n_Store_hands ?n_Store_deeds ?hc_LimbError ?zF ?zM ?zN ?h_MOST_NUMBERS ?h_FIRST_SIGN ?h_LAST_SIGN ?h_PERCENT_SIGN ?h_MOST_SIGNS ?h_DEED_PARTS ?t_DEED_PARTS ?xx_LimbError ?xm_LimbError ?tb1
    (case h_Store => k_is)
    (case pg_Store => k_is)
    (case hd_Store => k_is)
    (case po_Store => k_is)
    (case sa_Store => k_is)
    (case mk_Store => k_is)
    (case kc_Store => k_is)
    (case n_Store_hands => k_is)
    (case n_Store_deeds => k_is)
    (case hc_LimbError => k_is)
    (case zF => (repeat refine K20.gf (by k_is) (by k_is) (by k_is) (by k_is) ?_); exact True.intro)
    (case zM => (repeat refine K20.gm (by k_is) (by k_is) (by k_is) (by k_is) (by k_is) ?_); exact True.intro)
    (case zN => (repeat refine K20.gn (by k_is) ?_); exact True.intro)
    (case h_MOST_NUMBERS => k_is)
    (case h_FIRST_SIGN => k_is)
    (case h_LAST_SIGN => k_is)
    (case h_PERCENT_SIGN => k_is)
    (case h_MOST_SIGNS => k_is)
    (case h_DEED_PARTS => k_is)
    (case t_DEED_PARTS => rfl)
    (case xx_LimbError => k_exc)
    (case xm_LimbError => exact ⟨_, _, _, _, rfl, rfl⟩)
    (case tb1 => with_unfolding_all rfl)
